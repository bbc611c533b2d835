import PyProof.Rows.All
import Wide.All
import OpenK.AllK
import Wide.FinOn
import PyProof.EqAt
import PyProof.EqKinds
import PyProof.TupleCall
import Lean
import PyProof.Rows.BitMore
import PyProof.ExcBaseAll.ValueError
import PyProof.ExcArgsOwn
import KE.KLam
import PyProof.InstStoreFacts
import PyProof.FString
import PyProof.FString2
import PyProof.Rows.FStr
import PyProof.FitsInt
import PyProof.ZipIter
import PyProof.Rows.ZipGen
import PyProof.AttrMissHeap
import KE.KDictOf
import PyProof.DictCompW
import PyProof.DictWalks
import PyProof.AutoSeq1
import PyProof.Rows.SeqMore
import PySem.Challenge.RW_markworks_k53_whole_editions_put_togethe
set_option Elab.async false
set_option linter.all false
set_option maxRecDepth 100000
set_option maxHeartbeats 4000000
theorem AF {α:Type u} {β:Type v} {as:List α} (f:α->β):(as.map f).length=as.length:=List.length_map f
abbrev Aa:=List (PySem.Str × Nat)
abbrev VS:=PySem.Value->PySem.Shared->Prop
abbrev LO:=List (PySem.Addr × PySem.Obj)
abbrev SV:=PySem.Str->Option PySem.Value
open PySem in
abbrev FG:=W.Frag
open List (all_map any_cons any_eq_true any_map append_nil cons_append contains_cons filterMap_append filterMap_cons filter_append filter_cons find?_cons foldl_append foldl_cons getD_eq_getElem?_getD getElem?_map getElem?_take length_append length_cons length_filter_le length_nil length_singleton length_take lookup_cons map_append map_cons map_eq_nil_iff map_map map_nil map_take mem_append mem_append_left mem_append_right mem_cons mem_cons_of_mem mem_cons_self mem_filter mem_map mem_of_getElem? mem_of_mem_take mem_range mem_singleton nil_append nodup_append nodup_cons nodup_nil not_mem_nil of_mem_zip size_toArray sum_append sum_cons take_add_one take_append_drop take_length take_of_length_le take_sublist)
open PySem.Heap (get?_push_of_some get?_push_size get?_update_other get?_update_self lt_size size_push)
section
namespace L2
open PySem
theorem sl1:1 <= sizeLine:=by decide
theorem sl2:2 <= sizeLine:=by decide
theorem sl3:3 <= sizeLine:=by decide
theorem sl4:4 <= sizeLine:=by decide
theorem sl6:6 <= sizeLine:=by decide
theorem sl7:7 <= sizeLine:=by decide
theorem sl9:9 <= sizeLine:=by decide
end L2
end
section
namespace L2
open PySem PySem.Spec PyProof.Rows
abbrev Key:=Sum Int Str
noncomputable def HN:Key->Value->Bool
 | .inl k,v=>Value.isInt k v
 | .inr x,v=>Value.isStrOf x v
noncomputable def V8 (w:World):Key->Int
 | .inl k=>hashInt k
 | .inr x=>hashStr w x
theorem A8:∀ {k:Key} {v:Value},HN k v=true->(∃ i t,k=Sum.inl i/\v=Value.int i t)\/(∃ x t,k=Sum.inr x/\v=Value.str x t)
 | .inl i,v,h=>by
  obtain ⟨t,e⟩:=Value.isInt_shape (k:=i) (v:=v) h;exact .inl ⟨i,t,rfl,e⟩
 | .inr x,v,h=>by
  obtain ⟨t,e⟩:=Value.isStrOf_shape (x:=x) (v:=v) h;exact .inr ⟨x,t,rfl,e⟩
theorem Oc (i:Int) (t:Tok):HN (.inl i) (.int i t)=true:=by simp [HN,Value.isInt]
theorem Od (x:Str) (t:Tok):HN (.inr x) (.str x t)=true:=by simp [HN,Value.isStrOf]
theorem T8 (a b:Int):decide ((Sum.inl a:Key)=Sum.inl b)=(a == b):=by
 by_cases e:a=b
 ·subst e; simp
 ·have h:¬ (Sum.inl a:Key)=Sum.inl b:=fun q=>e (Sum.inl.inj q);rw [decide_eq_false h];exact (beq_eq_false_iff_ne.mpr e).symm
theorem T9 (a b:Str):decide ((Sum.inr a:Key)=Sum.inr b)=decide (a=b):=by
 by_cases e:a=b
 ·subst e; simp
 ·have h:¬ (Sum.inr a:Key)=Sum.inr b:=fun q=>e (Sum.inr.inj q);rw [decide_eq_false h,decide_eq_false e]
theorem UA (a:Int) (b:Str):decide ((Sum.inl a:Key)=Sum.inr b)=false:=decide_eq_false (fun q=>nomatch q)
theorem UB (a:Str) (b:Int):decide ((Sum.inr a:Key)=Sum.inl b)=false:=decide_eq_false (fun q=>nomatch q)
noncomputable def Al (prog:Program) (w:World):PySem.KeyKind prog w Key where
 is:=HN
 hash:=V8 w
 inj:=fun v a b ha hb=>by
  rcases A8 ha with ⟨i,t,rfl,rfl⟩ | ⟨x,t,rfl,rfl⟩
  ·rcases A8 hb with ⟨j,u,rfl,e⟩ | ⟨y,u,rfl,e⟩
   ·injection e with e1 _; rw [e1]
   ·exact nomatch e
  ·rcases A8 hb with ⟨j,u,rfl,e⟩ | ⟨y,u,rfl,e⟩
   ·exact nomatch e
   ·injection e with e1 _; rw [e1]
 byValue:=fun k v h=>by
  rcases A8 h with ⟨i,t,rfl,rfl⟩ | ⟨x,t,rfl,rfl⟩ <;> rfl
 pyHash:=fun hv h=>by
  rcases A8 hv with ⟨i,t,rfl,rfl⟩ | ⟨x,t,rfl,rfl⟩
  ·exact wpAny_pyHash_int h
  ·exact wpAny_pyHash_str h
 eqBool:=fun hu hv h=>by
  rcases A8 hu with ⟨i,t,rfl,rfl⟩ | ⟨x,t,rfl,rfl⟩
  ·rcases A8 hv with ⟨j,u,rfl,rfl⟩ | ⟨y,u,rfl,rfl⟩
   ·rw [T8] at h; exact wpAny_eqBool_int h
   ·rw [UA] at h; exact SeqAt.EqAt.int_str i t y u _ _ _ _ h
  ·rcases A8 hv with ⟨j,u,rfl,rfl⟩ | ⟨y,u,rfl,rfl⟩
   ·rw [UB] at h; exact SeqAt.EqAt.str_int x t j u _ _ _ _ h
   ·rw [T9] at h; exact wpAny_eqBool_str h
 «strs»:=fun k x t v h=>by
  rcases A8 h with ⟨i,u,rfl,e⟩ | ⟨y,u,rfl,e⟩
  ·exact nomatch e
  ·injection e with e1 _
   subst e1;cases v <;> rfl
theorem Kx (prog:Program) (w:World) (i:Int) (t:Tok):(Al prog w).is (.inl i) (.int i t)=true:=Oc i t
theorem Ky (prog:Program) (w:World) (x:Str) (t:Tok):(Al prog w).is (.inr x) (.str x t)=true:=Od x t
end L2
namespace L2
open PySem PySem.Spec PyProof.Rows
inductive V where
 | non | bl (b:Bool) | int (i:Int) | str (x:Str) | byt (b:Array UInt8) | flt (b:UInt64) | ref (a:Addr) | ty (n:String)
 deriving DecidableEq
def RelV:V->Value->Prop
 | .non,u=>u=Value.none
 | .bl b,u=>u=Value.bool b
 | .int i,u=>∃ t,u=Value.int i t
 | .str x,u=>∃ t,u=Value.str x t
 | .byt b,u=>∃ t,u=Value.bytes b t
 | .flt b,u=>∃ t,u=Value.float b t
 | .ref a,u=>u=Value.ref a
 | .ty n,u=>u=Value.type n
abbrev Vals:List V->List Value->Prop:=Paired RelV
theorem Vals.length {xs:List V} {us:List Value} (r:Vals xs us):xs.length=us.length:=Paired.length r
theorem Vals.get:∀ {xs:List V} {us:List Value} {i:Nat} {x:V},Vals xs us->xs[i]?=some x->∃ u,us[i]?=some u/\RelV x u
 | _,_,_,_,.nil,e=>by simp at e
 | _,_,0,_,.cons r _,e=>by simp at e; subst e; exact ⟨_,rfl,r⟩
 | _,_,i + 1,x,.cons _ t,e=>by
  obtain ⟨u,h1,h2⟩:=Vals.get (i:=i) (x:=x) t (by simpa using e);exact ⟨u,by simpa using h1,h2⟩
theorem Vals.set {x:V} {u:Value} (r:RelV x u):∀ {xs:List V} {us:List Value} (i:Nat),Vals xs us->Vals (xs.set i x) (us.set i u)
 | _,_,_,.nil=>.nil
 | _,_,0,.cons _ t=>.cons r t
 | _,_,i + 1,.cons q t=>.cons q (Vals.set r i t)
theorem Vals.append:∀ {xs ys:List V} {us ws:List Value},Vals xs us->Vals ys ws->Vals (xs++ys) (us++ws)
 | _,_,_,_,.nil,s=>s
 | _,_,_,_,.cons r t,s=>.cons r (Vals.append t s)
theorem Vals.take:∀ {xs:List V} {us:List Value} (n:Nat),Vals xs us->Vals (xs.take n) (us.take n)
 | _,_,0,_=>.nil
 | _,_,_ + 1,.nil=>.nil
 | _,_,n + 1,.cons r t=>.cons r (Vals.take n t)
theorem Vals.drop:∀ {xs:List V} {us:List Value} (n:Nat),Vals xs us->Vals (xs.drop n) (us.drop n)
 | _,_,0,r=>r
 | _,_,_ + 1,.nil=>.nil
 | _,_,n + 1,.cons _ t=>Vals.drop n t
def RelO:Option V->Option Value->Prop
 | some v,some u=>RelV v u
 | none,none=>True
 | _,_=>False
def KV {κ:Type}:List (κ × V)->List (κ × Value)->Prop:=Paired fun (p:κ × V) (q:κ × Value)=>p.1=q.1/\RelV p.2 q.2
noncomputable def kV:Key->V
 | .inl i=>.int i
 | .inr x=>.str x
abbrev LK:=List (Key × V)
inductive HO where
 | lst (xs:List V)
 | tup (xs:List V)
 | dK (kvs:LK) | dT (kvs:List (List Key × V))
 | set (S:Int->Bool) (n:Nat)
 | ins (C dx:Addr) (fs:List (Str × V))
 | own (x:Addr)
 | xd (fs:List (Str × V))
 | met (f x:Addr)
 | rng (lo hi:Int)
 | frz (o:Obj) (u:HO)
 | tbl (ps:Array Value)
 | ext (φ:Heap->Prop)
abbrev Hp:=Addr->Option HO
noncomputable def upd (H:Hp) (a:Addr) (o:HO):Hp:=fun b=>if b=a then some o else H b
theorem AB {H:Hp} {a:Addr} {o:HO}:upd H a o a=some o:=by unfold upd; rw [if_pos rfl]
theorem AH {H:Hp} {a b:Addr} {o:HO} (h:b ≠ a):upd H a o b=H b:=by unfold upd; rw [if_neg h]
theorem HC {H:Hp} {a:Addr} {o u:HO}:upd (upd H a o) a u=upd H a u:=by
 funext b; unfold upd; split <;> rfl
theorem VL {H:Hp} {a b:Addr} {o u:HO} (h:H a=some o) (h':H b=some u) (d:o ≠ u):a ≠ b:=by
 intro e; subst e; rw [h] at h'; exact d (Option.some.inj h')
theorem AI {H:Hp} {a b:Addr} {o:HO} (h:H a=some o) (h':H b=none):a ≠ b:=by
 intro e; subst e; rw [h] at h'; cases h'
section
variable (P:Program) (w:World)
def ObjOk (H:Hp) (h:Heap) (a:Addr):HO->Prop
 | .lst xs=>xs.length <= sizeLine/\∃ (its:List Value) (n:Nat),Vals xs its/\h.get? a=some { cls:=.type "list", data:=.seq its.toArray n }
 | .tup xs=>xs.length <= sizeLine/\∃ its:List Value,Vals xs its/\IsTup h a its.toArray
 | .dK kvs=>kvs.length <= sizeLine/\(a == sysModules)=false/\∃ vs,KV kvs vs/\h.DictOf (Al P w) a vs
 | .dT kvs=>kvs.length <= sizeLine/\(a == sysModules)=false/\∃ xs:List (List Key × Addr × Value),
   Paired (fun (p:List Key × V) (q:List Key × Addr × Value)=>p.1=q.1/\H q.2.1=some (.tup (p.1.map kV))/\RelV p.2 q.2.2) kvs xs /\
   ∃ o es ep,h.get? a=some o/\o.ExactDict/\o.data=.dict es ep/\es.toList=xs.map (entryOfKey (tupleKind (Al P w)))/\(xs.map (·.1)).Nodup
 | .set S n=>h.SetOf (intKind P w) a S n
 | .ins C dx fs=>H dx=some (.own a)/\fs.length <= 1000/\dx ≠ a/\h.get? a=some (W.instObj C dx) /\
   ∃ mA,h.Ns1 dx mA/\(∀ f,RelO (fs.lookup f) (mA f))/\PySem.Within mA (fs.map (·.1))
 | .own _=>∃ o,h.get? a=some o
 | .xd fs=>∃ mA,h.Ns1 a mA/\∀ f,RelO (fs.lookup f) (mA f)
 | .rng lo hi=>∃ t u v,h.get? a=some { cls:=.type "range", data:=.fields #[.int lo t,.int hi u,.int 1 v] }
 | .frz o u=>h.get? a=some o/\ObjOk H h a u
 | .tbl ps=>h.get? a=some { cls:=.none,data:=.fields ps }
 | .met f x=>h.get? a=some (W.methodObj (.ref f) (.ref x))
 | .ext φ=>φ h/\(∃ o,h.get? a=some o)/\∀ h1 h2:Heap,φ h1->(∀ o,h1.get? a=some o->h2.get? a=some o)->φ h2
def HOk (H:Hp) (h:Heap):Prop:=∀ a o,H a=some o->ObjOk P w H h a o
end
section
variable {P:Program} {w:World} {H H':Hp} {h h':Heap} {a:Addr} {o:HO}
theorem ObjOk.lt (x:ObjOk P w H h a o):a < h.objs.size:=by
 cases o with
 | lst xs=>obtain ⟨_,_,_,_,e⟩:=x; exact lt_size e
 | tup xs=>obtain ⟨_,_,_,p⟩:=x; exact p.lt
 | dK kvs=>obtain ⟨_,_,_,_,o,_,_,e,_⟩:=x; exact lt_size e
 | dT kvs=>obtain ⟨_,_,_,_,o,_,_,e,_⟩:=x; exact lt_size e
 | set S n=>obtain ⟨o,_,_,_,e,_⟩:=x; exact lt_size e
 | ins C dx fs=>obtain ⟨_,_,_,e,_⟩:=x; exact lt_size e
 | own y=>obtain ⟨_,e⟩:=x; exact lt_size e
 | xd fs=>obtain ⟨_,⟨_,_,_,e,_⟩,_⟩:=x; exact lt_size e
 | rng lo hi=>obtain ⟨_,_,_,e⟩:=x; exact lt_size e
 | frz ob u=>obtain ⟨e,_⟩:=x; exact lt_size e
 | tbl ps=>exact lt_size (show h.get? a=some _ from x)
 | met f y=>exact lt_size (show h.get? a=some _ from x)
 | ext φ=>obtain ⟨_,⟨_,e⟩,_⟩:=x; exact lt_size e
theorem Paired.mapP {α β:Type} {F G:α->β->Prop}:∀ {l₁:List α} {l₂:List β},Paired F l₁ l₂->(∀ a b,F a b->G a b)->Paired G l₁ l₂
 | _,_,.nil,_=>.nil
 | _,_,.cons r t,f=>.cons (f _ _ r) (Paired.mapP t f)
theorem Paired.imp' {α β:Type} {F G:α->β->Prop} (f:∀ a b,F a b->G a b) {l₁:List α} {l₂:List β} (r:Paired F l₁ l₂):Paired G l₁ l₂:=Paired.mapP r f
theorem ObjOk.stay (x:ObjOk P w H h a o) (k:∀ b u,(b=a\/H b=some (.own a))->h.get? b=some u->h'.get? b=some u)
  (ho:∀ b,H b=some (.own a)->H' b=some (.own a)) (ht:∀ b xs,H b=some (.tup xs)->H' b=some (.tup xs)):ObjOk P w H' h' a o:=by
 induction o with
 | lst xs=>obtain ⟨z,its,n,r,e⟩:=x; exact ⟨z,its,n,r,k _ _ (.inl rfl) e⟩
 | tup xs=>obtain ⟨z,its,r,ob,e,c⟩:=x; exact ⟨z,its,r,ob,k _ _ (.inl rfl) e,c⟩
 | dK kvs=>obtain ⟨z,y,vs,r,ob,es,ep,e,c⟩:=x; exact ⟨z,y,vs,r,ob,es,ep,k _ _ (.inl rfl) e,c⟩
 | dT kvs =>
  obtain ⟨z,y,xs,r,ob,es,ep,e,c⟩:=x;exact ⟨z,y,xs,Paired.mapP r fun p q z=>⟨z.1,ht _ _ z.2.1,z.2.2⟩,ob,es,ep,k _ _ (.inl rfl) e,c⟩
 | set S n=>obtain ⟨ob,es,ep,t,e,c⟩:=x; exact ⟨ob,es,ep,t,k _ _ (.inl rfl) e,c⟩
 | ins C dx fs =>
  obtain ⟨d,z,ne,e,mA,⟨od,es,ep,e2,c⟩,r⟩:=x;exact ⟨ho _ d,z,ne,k _ _ (.inl rfl) e,mA,⟨od,es,ep,k _ _ (.inr d) e2,c⟩,r⟩
 | own y=>obtain ⟨ob,e⟩:=x; exact ⟨ob,k _ _ (.inl rfl) e⟩
 | xd fs=>obtain ⟨mA,⟨od,es,ep,e,c⟩,r⟩:=x; exact ⟨mA,⟨od,es,ep,k _ _ (.inl rfl) e,c⟩,r⟩
 | rng lo hi=>obtain ⟨t,u,v,e⟩:=x; exact ⟨t,u,v,k _ _ (.inl rfl) e⟩
 | frz ob u ih=>obtain ⟨e,q⟩:=x; exact ⟨k _ _ (.inl rfl) e,ih q⟩
 | tbl ps =>
  have e:h.get? a=some { cls:=.none,data:=.fields ps }:=x;show h'.get? a=some { cls:=.none,data:=.fields ps };exact k a _ (.inl rfl) e
 | met f y =>
  have e:h.get? a=some (W.methodObj (.ref f) (.ref y)):=x;show h'.get? a=some (W.methodObj (.ref f) (.ref y));exact k a _ (.inl rfl) e
 | ext φ=>obtain ⟨p,⟨o,e⟩,st⟩:=x; exact ⟨st _ _ p fun o q=>k _ _ (.inl rfl) q,⟨o,k _ _ (.inl rfl) e⟩,st⟩
theorem HOk.lt (x:HOk P w H h) (e:H a=some o):a < h.objs.size:=(x a o e).lt
theorem HOk.fresh (x:HOk P w H h) (e:h.objs.size <= a):H a=none:=by
 cases q:H a with
 | none=>rfl
 | some u=>exact absurd (Nat.lt_of_lt_of_le (x.lt q) e) (Nat.lt_irrefl _)
theorem HOk.kept (x:HOk P w H h) (k:∀ b u,h.get? b=some u->h'.get? b=some u):HOk P w H h':=fun a o e =>
 (x a o e).stay (fun b u _ q=>k b u q) (fun _ q=>q) fun _ _ q=>q
theorem HOk.laid (x:HOk P w H h) (k:∀ b u,h.get? b=some u->h'.get? b=some u) (hp:h.objs.size <= a) (new:ObjOk P w (upd H a o) h' a o):HOk P w (upd H a o) h':=fun b u e=>by
 have hn:=x.fresh hp;by_cases hb:b=a
 ·subst hb; rw [AB] at e; cases e; exact new
 ·rw [AH hb] at e;exact (x b u e).stay (fun c v _ q=>k c v q) (fun c q=>by rw [AH (AI q hn)]; exact q) fun c xs q=>by rw [AH (AI q hn)]; exact q
end
def Rd (H:Hp) (a:Addr) (u:HO):Prop:=H a=some u\/∃ o,H a=some (.frz o u)
theorem Rd.ok {P:Program} {w:World} {H:Hp} {h:Heap} {a:Addr} {u:HO} (r:Rd H a u) (x:HOk P w H h):ObjOk P w H h a u:=by
 rcases r with r | ⟨o,r⟩
 ·exact x a u r
 ·obtain ⟨_,q⟩:=x a _ r;exact q
def Mut:Option HO->Prop
 | some (.lst _)=>True
 | some (.dK _)=>True
 | some (.dT _)=>True
 | some (.set _ _)=>True
 | some (.ins _ _ _)=>True
 | some (.ext _)=>True
 | _=>False
section
variable {P:Program} {w:World} {H:Hp} {h h':Heap} {x e:Addr} {o':HO}
theorem HOk.write (ok:HOk P w H h) (mu:Mut (H x)) (he:e=x\/H e=some (.own x)) (k:∀ b u,b ≠ e->h.get? b=some u->h'.get? b=some u) (heo:∃ u,h'.get? e=some u)
  (new:ObjOk P w (upd H x o') h' x o'):HOk P w (upd H x o') h':=fun b u q=>by
 have nown:∀ c y,H c=some (.own y)->c ≠ x:=fun c y r z=>by subst z; rw [r] at mu; exact mu
 have ntup:∀ c xs,H c=some (.tup xs)->c ≠ x:=fun c xs r z=>by subst z; rw [r] at mu; exact mu
 by_cases hb:b=x
 ·subst hb; rw [AB] at q; cases q; exact new
 ·rw [AH hb] at q;by_cases hbe:b=e
  ·have q':H b=some (.own x):=by
    rcases he with z | z
    ·exact absurd (hbe.trans z) hb
    ·rw [hbe]; exact z
   rw [q] at q'; cases q';obtain ⟨v,hv⟩:=heo;exact ⟨v,by rw [hbe]; exact hv⟩
  ·refine (ok b u q).stay (fun c v hc r=>k c v ?_ r) (fun c r=>by rw [AH (nown c b r)]; exact r) fun c xs r=>by rw [AH (ntup c xs r)]; exact r
   rcases hc with rfl | hc
   ·exact hbe
   ·rintro rfl;rcases he with z | z
    ·exact nown c b hc z
    ·rw [hc] at z; cases z; exact hb rfl
end
structure Un (fs ex:List Addr) (H H':Hp) (h h':Heap):Prop where
 keep:∀ b o,h.get? b=some o->H b=none->b ∉ fs->b ∉ ex->h'.get? b=some o
 slot:∀ b o,h.get? b=some o->H b=none->b ∈ fs->b ∉ ex->∃ sl,h'.get? b=some { o with slots:=sl }
 free:∀ b o,h.get? b=some o->H b=none->b ∉ ex->H' b=none
 there:∀ b o,h.get? b=some o->b ∉ ex->∃ o',h'.get? b=some o'
 tups:∀ b xs,H b=some (.tup xs)->H' b=some (.tup xs)
 frzs:∀ b o u,H b=some (.frz o u)->H' b=some (.frz o u)
 tbls:∀ b ps,H b=some (.tbl ps)->∃ more,H' b=some (.tbl (ps++more))
section
variable {fs fs' ex ex':List Addr} {H H1 H2:Hp} {h h1 h2 h':Heap} {a x e:Addr} {o:HO}
theorem Un.any (u:Un fs ex H H1 h h1) {b:Addr} {ob:Obj} (q:h.get? b=some ob) (n:H b=none) (hx:b ∉ ex):∃ sl,h1.get? b=some { ob with slots:=sl }:=by
 by_cases hb:b ∈ fs
 ·exact u.slot b ob q n hb hx
 ·exact ⟨ob.slots,u.keep b ob q n hb hx⟩
theorem Un.kept (k:∀ b u,h.get? b=some u->h'.get? b=some u):Un fs ex H H h h' :=
 ⟨fun b ob q _ _ _=>k b ob q,fun b ob q _ _ _=>⟨ob.slots,k b ob q⟩,fun _ _ _ n _=>n,fun b ob q _=>⟨ob,k b ob q⟩,fun _ _ q=>q,fun _ _ _ q=>q,fun _ ps q=>⟨#[],by rw [q]; simp⟩⟩
theorem Un.refl:Un fs ex H H h h:=Un.kept fun _ _ q=>q
theorem Un.laid (k:∀ b u,h.get? b=some u->h'.get? b=some u) (hp:h.objs.size <= a) (hn:H a=none):Un fs ex H (upd H a o) h h' where
 keep:=fun b u q _ _ _=>k b u q
 slot:=fun b u q _ _ _=>⟨u.slots,k b u q⟩
 free:=fun b u q n _=>by rw [AH (Nat.ne_of_lt (Nat.lt_of_lt_of_le (lt_size q) hp))]; exact n
 there:=fun b u q _=>⟨u,k b u q⟩
 tups:=fun b xs q=>by rw [AH (AI q hn)]; exact q
 frzs:=fun b u xs q=>by rw [AH (AI q hn)]; exact q
 tbls:=fun b ps q=>⟨#[],by rw [AH (AI q hn),q]; simp⟩
theorem Un.write (mu:Mut (H x)) (he:e=x\/H e=some (.own x)) (k:∀ b u,b ≠ e->h.get? b=some u->h'.get? b=some u) (heo:∃ u,h'.get? e=some u):Un fs ex H (upd H x o) h h':=by
 have hx:∀ b,H b=none->b ≠ x:=fun b n z=>by subst z; rw [n] at mu; exact mu
 have hb:∀ b,H b=none->b ≠ e:=fun b n z=>by
  subst z;rcases he with r | r
  ·exact hx b n r
  ·rw [n] at r; cases r
 have hm:∀ b u,H b=some u->¬ Mut (some u)->b ≠ x:=fun b u q nm z=>by subst z; rw [q] at mu; exact nm mu
 refine ⟨fun b u q n _ _=>k b u (hb b n) q,fun b u q n _ _=>⟨u.slots,k b u (hb b n) q⟩,fun b u q n _=>by rw [AH (hx b n)]; exact n,fun b u q _=>?_,
  fun b xs q=>by rw [AH (hm b _ q fun z=>z)]; exact q,fun b u xs q=>by rw [AH (hm b _ q fun z=>z)]; exact q,fun b ps q=>⟨#[],by rw [AH (hm b _ q fun z=>z),q]; simp⟩⟩
 by_cases hbe:b=e
 ·subst hbe; exact heo
 ·exact ⟨u,k b u hbe q⟩
end
noncomputable def trk (h:Heap) (H:Hp):List Addr:=(List.range h.objs.size).filter fun a=>(H a).isSome
noncomputable def HQ (h:Heap) (H:Hp):Heap:=W.hideAll h (trk h H)
theorem Oe (h:Heap) (H:Hp):(HQ h H).objs.size=h.objs.size:=W.hideAll_size _ _
theorem P4 {h:Heap} {H:Hp} {b:Addr} {o:Obj} (e:h.get? b=some o) (n:H b=none):(HQ h H).get? b=some o :=
 W.hideAll_get _ e fun hm=>by
  have q:(H b).isSome=true:=(mem_filter.mp hm).2;rw [n] at q; simp at q
theorem SU {h:Heap} {H:Hp} {b:Addr} {o:Obj} (e:(HQ h H).get? b=some o):h.get? b=some o/\H b=none:=by
 have e':h.get? b=some o:=W.of_hideAll (trk h H) e;refine ⟨e',?_⟩;cases q:H b with
 | none=>rfl
 | some x =>
  have hm:b ∈ trk h H:=mem_filter.mpr ⟨mem_range.mpr (lt_size e'),by simp [q]⟩;have z:(HQ h H).get? b=none:=W.hideAll_none (trk h H) hm;rw [z] at e; cases e
end L2
namespace L2
open PySem PySem.Spec PyProof.Rows
structure Mod (K:FG) (mg:SV) (base:Heap):Prop where
 kin:K.In base
 glob:base.Ns mainGlobals mg
 blt:∃ mb,base.Ns builtinsNs mb/\∀ x:Str,x ≠ "__name__" -> mb x=bootBuiltins x
 nolimit:base.NoLimit
structure Cx where
 prog:Program
 w:World
 K:FG
 mg:Str->Option Value
 base:Heap
 A:Around
 N:List Str
 s₀:Shared
 H₀:Hp
 env:Env
 outer:List Env
 stack:List Env
 ex:List Addr
 fn:Str->Bool
 calm:Bool
 pn:LO
 xe:Value->Shared->Prop
noncomputable def frs (l:List Env):List Addr:=l.filterMap (·.frame)
noncomputable abbrev Cx.fs (X:Cx):List Addr:=frs X.outer
def Vis (sc:Scope) (x:Str):Prop:=sc.names.lookup x=some .local\/sc.names.lookup x=some .cell\/sc.names.lookup x=some .free
def Loc (sc:Scope) (x:Str):Prop:=sc.names.lookup x=some .local\/sc.names.lookup x=some .cell
def V9 (env:Env) (h:Heap) (m:SV) (x:Str) (u:Value):Prop :=
 (env.kindOf x=some .local/\m x=some u)\/((env.kindOf x=some .cell\/env.kindOf x=some .free)/\∃ c,env.cells.lookup x=some c/\h.IsCell c (some u))
structure Cx.Ok (X:Cx):Prop where
 mod:Mod X.K X.mg X.base
 kind:X.env.scope.kind=.function
 glob:X.env.globals=mainGlobals
 blt:X.env.builtins=builtinsNs
 above:X.s₀.heap.objs.size <= X.env.locals
 inj:∀ x y c,X.env.cells.lookup x=some c->X.env.cells.lookup y=some c->x=y
 has:∀ x,(X.env.kindOf x=some .cell\/X.env.kindOf x=some .free)->∃ c,X.env.cells.lookup x=some c
 cab:∀ x c,X.fn x=true->X.env.cells.lookup x=some c->X.s₀.heap.objs.size <= c
 hd:X.calm=true->X.A.handled=none
 frames:X.A.frames=some X.stack
 stk:X.stack=X.outer\/(X.stack=X.env :: X.outer/\X.env.frame=some X.env.locals)
 exf:∀ b ∈ X.ex,b ≠ X.env.locals/\∀ x c,X.env.cells.lookup x=some c->c ≠ b
 bs:∀ b o,X.base.get? b=some o->X.s₀.heap.get? b=some o/\X.H₀ b=none
 bsz:X.base.objs.size <= X.s₀.heap.objs.size
 noex:∀ b o,X.base.get? b=some o->b ∉ X.ex
 exfs:∀ b ∈ X.ex,b ∉ X.fs
 funs:X.s₀.heap.FunFrames X.base X.outer
 frf:∀ b ∈ X.fs,X.H₀ b=none
structure Inv (X:Cx) (aa:LO) (σ:List (Option V)) (H:Hp) (s:Shared):Prop where
 ok:X.Ok
 os:s.os=X.s₀.os
 bare:AllBare s.gens
 base:Un X.fs X.ex X.H₀ H X.s₀.heap s.heap
 loc:∃ m,s.heap.Ns X.env.locals m/\∀ (i:Nat) (x:Str) (v:V),X.N[i]?=some x->σ[i]?=some (some v)->Vis X.env.scope x->∃ u,RelV v u/\V9 X.env s.heap m x u
 cell:∀ x c,X.env.cells.lookup x=some c->∃ v,s.heap.IsCell c v
 free:H X.env.locals=none
 freeC:∀ x c,X.env.cells.lookup x=some c->H c=none
 pin:∀ p ∈ X.pn++aa,s.heap.get? p.1=some p.2/\H p.1=none/\p.1 ≠ X.env.locals/\p.1 ∉ X.fs/\∀ v,p.2.data ≠ .cell v
 hok:HOk X.prog X.w H s.heap
 len:σ.length=X.N.length
section
variable {X:Cx} {aa:LO} {σ:List (Option V)} {H H':Hp} {s:Shared} {h':Heap}
theorem Cx.Ok.nofr (ok:X.Ok) {b:Addr} {o:Obj} (e:X.base.get? b=some o):b ∉ X.fs:=fun hb=>by
 have:=(ok.funs.mem hb).1;rw [e] at this; cases this
theorem Inv.bs (I:Inv X aa σ H s):∀ b o,X.base.get? b=some o->s.heap.get? b=some o/\H b=none:=fun b o e =>
 ⟨I.base.keep b o (I.ok.bs b o e).1 (I.ok.bs b o e).2 (I.ok.nofr e) (I.ok.noex b o e),I.base.free b o (I.ok.bs b o e).1 (I.ok.bs b o e).2 (I.ok.noex b o e)⟩
theorem Inv.bk (I:Inv X aa σ H s):∀ b o,X.base.get? b=some o->s.heap.get? b=some o:=fun b o e=>(I.bs b o e).1
theorem Inv.mod (I:Inv X aa σ H s):Mod X.K X.mg X.base:=I.ok.mod
theorem Inv.kIn (I:Inv X aa σ H s):X.K.In s.heap:=I.ok.mod.kin.keeps I.bk
theorem Inv.fr (I:Inv X aa σ H s):∃ m,Fr X.base X.env.locals s.heap m :=
 let ⟨m,hn,_⟩:=I.loc
 ⟨m,hn,I.bk,Nat.le_trans I.ok.bsz I.ok.above⟩
theorem Inv.lt (I:Inv X aa σ H s):X.env.locals < s.heap.objs.size:=let ⟨_,hn,_⟩:=I.loc; hn.lt
theorem Inv.sz (I:Inv X aa σ H s):X.s₀.heap.objs.size <= s.heap.objs.size:=Nat.le_trans I.ok.above (Nat.le_of_lt I.lt)
theorem Inv.nofs (I:Inv X aa σ H s) {a:Addr} (h:s.heap.objs.size <= a):a ∉ X.fs:=fun hb=>by
 obtain ⟨_,o,ho,_⟩:=I.ok.funs.mem hb;exact absurd (Nat.lt_of_lt_of_le (lt_size ho) (Nat.le_trans I.sz h)) (Nat.lt_irrefl _)
theorem Inv.cne (I:Inv X aa σ H s):∀ x c,X.env.cells.lookup x=some c->c ≠ X.env.locals:=fun x c e z=>by
 obtain ⟨v,o,ho,hd⟩:=I.cell x c e;obtain ⟨m,⟨o',es,ep,ho',hd',_⟩,_⟩:=I.loc;rw [z,ho'] at ho; cases ho; rw [hd'] at hd; cases hd
theorem Inv.funs (I:Inv X aa σ H s):s.heap.FunFrames X.base X.outer:=by
 have all:∀ (l:List Env),(∀ b ∈ frs l,b ∈ X.fs)->X.s₀.heap.FunFrames X.base l->s.heap.FunFrames X.base l:=by
  intro l;induction l with
  | nil=>intro _ _; trivial
  | cons env r ih =>
   intro hs hl;obtain ⟨hk,⟨L,o,hf,hn,ho,hd⟩,hr⟩:=hl;have hL:L ∈ X.fs:=hs L (by unfold frs; rw [filterMap_cons,hf]; exact mem_cons_self);obtain ⟨sl,e⟩:=I.base.slot L o ho (I.ok.frf L hL) hL fun z=>I.ok.exfs L z hL;exact ⟨hk,⟨L,_,hf,hn,e,hd⟩,ih (fun b hb=>hs b (by unfold frs; rw [filterMap_cons,hf]; exact mem_cons_of_mem _ hb)) hr⟩
 exact all X.outer (fun _ hb=>hb) I.ok.funs
theorem Inv.stack (I:Inv X aa σ H s):s.heap.FunFrames X.base X.stack:=by
 rcases I.ok.stk with e | ⟨e,hf⟩
 ·rw [e]; exact I.funs
 ·rw [e];obtain ⟨m,hn,_⟩:=I.loc;refine .cons (by rw [I.ok.kind]; decide) hf hn ?_ I.funs;exact Heap.get?_none_of_le (Nat.le_trans I.ok.bsz I.ok.above)
theorem Inv.stkSub (I:Inv X aa σ H s):∀ b ∈ frs X.stack,b ∈ X.env.locals :: X.fs:=fun b hb=>by
 rcases I.ok.stk with e | ⟨e,hf⟩
 ·rw [e] at hb; exact mem_cons_of_mem _ hb
 ·rw [e] at hb;unfold frs at hb;rw [filterMap_cons,hf] at hb;exact hb
theorem Inv.stkFree (I:Inv X aa σ H s):∀ b ∈ frs X.stack,H b=none:=fun b hb=>by
 rcases mem_cons.mp (I.stkSub b hb) with e | hb
 ·rw [e]; exact I.free
 ·obtain ⟨_,o,ho,_⟩:=I.ok.funs.mem hb;exact I.base.free b o ho (I.ok.frf b hb) fun z=>I.ok.exfs b z hb
theorem Inv.step {g':Array GenState} {t':Nat} {d':Drawn} {ch:List Addr} (I:Inv X aa σ H s)
  (hch:∀ b ∈ ch,(b ∈ X.ex\/X.s₀.heap.objs.size <= b)/\b ≠ X.env.locals/\(∀ x c,X.env.cells.lookup x=some c->c ≠ b)/\∀ p ∈ X.pn++aa,p.1 ≠ b)
  (keep:∀ b o,b ≠ X.env.locals->b ∉ X.fs->b ∉ ch->s.heap.get? b=some o->H b=none->h'.get? b=some o)
  (slot:∀ b o,b ≠ X.env.locals->b ∈ X.fs->b ∉ ch->s.heap.get? b=some o->H b=none->∃ sl,h'.get? b=some { o with slots:=sl }) (free:∀ b o,b ∉ ch->s.heap.get? b=some o->H b=none->H' b=none)
  (there:∀ b o,b ∉ ch->s.heap.get? b=some o->∃ o',h'.get? b=some o')
  (tups:∀ b xs,H b=some (.tup xs)->H' b=some (.tup xs)) (frzs:∀ b o u,H b=some (.frz o u)->H' b=some (.frz o u)) (tbls:∀ b ps,H b=some (.tbl ps)->∃ more,H' b=some (.tbl (ps++more)))
  (ns:∀ m,s.heap.Ns X.env.locals m->h'.Ns X.env.locals m) (hok:HOk X.prog X.w H' h') (hg:AllBare g') :
  Inv X aa σ H' { s with heap:=h',gens:=g',drawn:=d',toks:=t' }:=by
 have neL:∀ b o,X.s₀.heap.get? b=some o->b ≠ X.env.locals:=fun b o e=>Nat.ne_of_lt (Nat.lt_of_lt_of_le (lt_size e) I.ok.above)
 have neC:∀ b o,X.s₀.heap.get? b=some o->b ∉ X.ex->b ∉ ch:=fun b o e hx hb=>by
  rcases (hch b hb).1 with z | z
  ·exact hx z
  ·exact absurd (Nat.lt_of_lt_of_le (lt_size e) z) (Nat.lt_irrefl _)
 have cellK:∀ x c,X.env.cells.lookup x=some c->∀ v,s.heap.IsCell c v->h'.IsCell c v:=fun x c e v ⟨o,ho,hd⟩=>by
  have nch:c ∉ ch:=fun z=>(hch c z).2.2.1 x c e rfl;by_cases hc:c ∈ X.fs
  ·obtain ⟨sl,q⟩:=slot c o (I.cne x c e) hc nch ho (I.freeC x c e);exact ⟨_,q,hd⟩
  ·exact ⟨o,keep c o (I.cne x c e) hc nch ho (I.freeC x c e),hd⟩
 refine ⟨I.ok,I.os,hg,⟨fun b o e n hb hx=>?_,fun b o e n hb hx=>?_,fun b o e n hx=>?_,fun b o e hx=>?_,fun b xs e=>tups b xs (I.base.tups b xs e),fun b o xs e=>frzs b o xs (I.base.frzs b o xs e),fun b ps e=>?_⟩,?_,fun x c e=>?_,?_,fun x c e=>?_,fun p hp=>?_,hok,I.len⟩
 ·exact keep b o (neL b o e) hb (neC b o e hx) (I.base.keep b o e n hb hx) (I.base.free b o e n hx)
 ·obtain ⟨sl,e1⟩:=I.base.slot b o e n hb hx;obtain ⟨sl',e2⟩:=slot b _ (neL b o e) hb (neC b o e hx) e1 (I.base.free b o e n hx);exact ⟨sl',e2⟩
 ·obtain ⟨o',e1⟩:=I.base.there b o e hx;exact free b o' (neC b o e hx) e1 (I.base.free b o e n hx)
 ·obtain ⟨o',e1⟩:=I.base.there b o e hx;exact there b o' (neC b o e hx) e1
 ·obtain ⟨m1,e1⟩:=I.base.tbls b ps e;obtain ⟨m2,e2⟩:=tbls b _ e1;exact ⟨m1++m2,by rw [e2,Array.append_assoc]⟩
 ·obtain ⟨m,hn,hl⟩:=I.loc;refine ⟨m,ns m hn,fun i x v e1 e2 e3=>?_⟩;obtain ⟨u,r,l⟩:=hl i x v e1 e2 e3;refine ⟨u,r,?_⟩;rcases l with l | ⟨k,c,e,z⟩
  ·exact .inl l
  ·exact .inr ⟨k,c,e,cellK x c e _ z⟩
 ·obtain ⟨v,z⟩:=I.cell x c e;exact ⟨v,cellK x c e v z⟩
 ·obtain ⟨m,⟨o,_,_,ho,_⟩,_⟩:=I.loc;exact free _ o (fun z=>(hch _ z).2.1 rfl) ho I.free
 ·obtain ⟨v,o,ho,hd⟩:=I.cell x c e;exact free c o (fun z=>(hch c z).2.2.1 x c e rfl) ho (I.freeC x c e)
 ·obtain ⟨e,n,ne,nf,d⟩:=I.pin p hp;have nch:p.1 ∉ ch:=fun z=>(hch p.1 z).2.2.2 p hp rfl;exact ⟨keep p.1 p.2 ne nf nch e n,free p.1 p.2 nch e n,ne,nf,d⟩
theorem Inv.un {t':Nat} (I:Inv X aa σ H s) (u:Un X.fs [] H H' s.heap h') (hok:HOk X.prog X.w H' h'):Inv X aa σ H' { s with heap:=h',toks:=t' }:=by
 obtain ⟨m,⟨o,es,ep,ho,r⟩,_⟩:=id I.loc;obtain ⟨sl,hL⟩:=u.any ho I.free (by simp)
 exact I.step (g':=s.gens) (d':=s.drawn) (ch:=[]) (fun _ z=>nomatch z) (fun b o _ hb _ e n=>u.keep b o e n hb (by simp)) (fun b o _ hb _ e n=>u.slot b o e n hb (by simp)) (fun b o _ e n=>u.free b o e n (by simp)) (fun b o _ e=>u.there b o e (by simp)) u.tups u.frzs u.tbls (fun m' hm=>by
  obtain ⟨o',es',ep',ho',r'⟩:=hm;rw [ho] at ho'; cases ho'
  exact ⟨_,es',ep',hL,r'⟩) hok I.bare
theorem Inv.call {g':Array GenState} {t':Nat} {d':Drawn} {ch:List Addr} (I:Inv X aa σ H s) (u:Un (frs X.stack) ch H H' s.heap h') (hok:HOk X.prog X.w H' h') (hg:AllBare g')
  (hch:∀ b ∈ ch,(b ∈ X.ex\/X.s₀.heap.objs.size <= b)/\b ≠ X.env.locals/\(∀ x c,X.env.cells.lookup x=some c->c ≠ b)/\∀ p ∈ X.pn++aa,p.1 ≠ b) :
  Inv X aa σ H' { s with heap:=h',gens:=g',drawn:=d',toks:=t' }:=by
 obtain ⟨m,⟨o,es,ep,ho,r⟩,_⟩:=id I.loc;obtain ⟨sl,hL⟩:=u.any ho I.free fun z=>(hch _ z).2.1 rfl
 exact I.step (ch:=ch) hch (fun b o hL hb hc e n=>u.keep b o e n (fun z=>(mem_cons.mp (I.stkSub b z)).elim hL hb) hc) (fun b o _ _ hc e n=>u.any e n hc) (fun b o hc e n=>u.free b o e n hc) (fun b o hc e=>u.there b o e hc) u.tups u.frzs u.tbls (fun m' hm=>by
  obtain ⟨o',es',ep',ho',r'⟩:=hm;rw [ho] at ho'; cases ho'
  exact ⟨_,es',ep',hL,r'⟩) hok hg
theorem Inv.turned {t':Nat} {it:Addr} (I:Inv X aa σ H s) (k:∀ b o,b ≠ it->s.heap.get? b=some o->h'.get? b=some o) (hn:H it=none) (hL:it ≠ X.env.locals)
  (h1:it ∈ X.ex\/X.s₀.heap.objs.size <= it) (h2:∀ x c,X.env.cells.lookup x=some c->c ≠ it) (h3:∀ p ∈ X.pn++aa,p.1 ≠ it):Inv X aa σ H { s with heap:=h',toks:=t' }:=by
 have nit:∀ b u,H b=some u->b ≠ it:=fun b u e z=>by rw [z,hn] at e; cases e
 refine I.step (g':=s.gens) (d':=s.drawn) (ch:=[it]) (fun b hb=>?_) (fun b o _ _ hc e _=>k b o (fun z=>hc (by simp [z])) e) (fun b o _ _ hc e _=>⟨o.slots,k b o (fun z=>hc (by simp [z])) e⟩) (fun _ _ _ _ n=>n)
  (fun b o hc e=>⟨o,k b o (fun z=>hc (by simp [z])) e⟩) (fun _ _ e=>e) (fun _ _ _ e=>e) (fun b ps e=>⟨#[],by rw [e]; simp⟩) (fun m hm=>?_) (fun b u e=>?_) I.bare
 ·have e:b=it:=by simpa using hb
  subst e;exact ⟨h1,hL,h2,h3⟩
 ·obtain ⟨o,es,ep,ho,r⟩:=hm;exact ⟨o,es,ep,k _ o (Ne.symm hL) ho,r⟩
 ·refine (I.hok b u e).stay (fun c v hc q=>k c v ?_ q) (fun _ q=>q) fun _ _ q=>q;rcases hc with z | z
  ·rw [z]; exact nit b u e
  ·exact nit c _ z
theorem Inv.tok (I:Inv X aa σ H s) (t:Nat):Inv X aa σ H { s with toks:=t }:=I.un (h':=s.heap) (t':=t) Un.refl I.hok
theorem Inv.kept {t':Nat} (I:Inv X aa σ H s) (k:∀ b u,s.heap.get? b=some u->h'.get? b=some u):Inv X aa σ H { s with heap:=h',toks:=t' }:=I.un (Un.kept k) (I.hok.kept k)
theorem Inv.laid {a:Addr} {o:HO} {t':Nat} (I:Inv X aa σ H s) (k:∀ b u,s.heap.get? b=some u->h'.get? b=some u) (hp:s.heap.objs.size <= a) (new:ObjOk X.prog X.w (upd H a o) h' a o) :
  Inv X aa σ (upd H a o) { s with heap:=h',toks:=t' }:=I.un (Un.laid k hp (I.hok.fresh hp)) (I.hok.laid k hp new)
theorem Inv.write {x e:Addr} {o:HO} {t':Nat} (I:Inv X aa σ H s) (mu:Mut (H x)) (he:e=x\/H e=some (.own x)) (k:∀ b u,b ≠ e->s.heap.get? b=some u->h'.get? b=some u) (heo:∃ u,h'.get? e=some u)
  (new:ObjOk X.prog X.w (upd H x o) h' x o):Inv X aa σ (upd H x o) { s with heap:=h',toks:=t' }:=I.un (Un.write mu he k heo) (I.hok.write mu he k heo new)
theorem Inv.weak {σ':List (Option V)} (I:Inv X aa σ H s) (hl:σ'.length=σ.length) (w:∀ (i:Nat) v,σ'[i]?=some (some v)->σ[i]?=some (some v)):Inv X aa σ' H s :=
 ⟨I.ok,I.os,I.bare,I.base,let ⟨m,hn,hl'⟩:=I.loc; ⟨m,hn,fun i x v e1 e2 e3=>hl' i x v e1 (w i v e2) e3⟩,I.cell,I.free,I.freeC,I.pin,I.hok,hl.trans I.len⟩
theorem Inv.pins_of {pins':LO} (I:Inv X aa σ H s) (h:∀ p ∈ pins',s.heap.get? p.1=some p.2/\H p.1=none/\p.1 ≠ X.env.locals/\p.1 ∉ X.fs/\∀ v,p.2.data ≠ .cell v):Inv X pins' σ H s :=
 ⟨I.ok,I.os,I.bare,I.base,I.loc,I.cell,I.free,I.freeC,fun p hp=>(mem_append.mp hp).elim (fun z=>I.pin p (mem_append_left _ z)) (h p),I.hok,I.len⟩
theorem Kz {N:List Str} (hN:N.Nodup) {i j:Nat} {x:Str} (a:N[i]?=some x) (b:N[j]?=some x):i=j:=by
 obtain ⟨h1,e1⟩:=List.getElem?_eq_some_iff.mp a;obtain ⟨h2,e2⟩:=List.getElem?_eq_some_iff.mp b;exact (List.getElem_inj hN).mp (e1.trans e2.symm)
theorem JQ {M:Model} {A:Around} {E:VS} {i:Nat} {x:Str} {v:V} {u:Value} {Q:Unit->Shared->Prop} (I:Inv X aa σ H s) (hN:X.N.Nodup) (hi:X.N[i]?=some x) (hx:Loc X.env.scope x) (r:RelV v u)
  (h:∀ s',Inv X aa (σ.set i (some v)) H s'->(∃ a,Heap.SameBut a s.heap s'.heap/\(a=X.env.locals\/X.env.cells.lookup x=some a))->Q () s') (hf:X.fn x=true\/X.env.scope.names.lookup x=some .local:=by first | exact .inl rfl | exact .inr rfl | assumption):wpAny M A (storeName X.env x u) Q E s:=by
 obtain ⟨m,hn,hl⟩:=id I.loc;have cb:(X.env.scope.kind == .class || (X.env.scope.kind == .module && X.env.locals != X.env.globals))=false:=by rw [I.ok.kind]; rfl
 have hiσ:i < σ.length:=by rw [I.len]; exact (List.getElem?_eq_some_iff.mp hi).1
 have cne:=I.cne
 have tracked:∀ {a:Addr} {h':Heap},(∃ o,s.heap.get? a=some o/\H a=none)->Heap.SameBut a s.heap h'->HOk X.prog X.w H h':=fun {a h'} ha hs b ob e=>by
  obtain ⟨_,_,cw⟩:=ha;refine (I.hok b ob e).stay (fun c w' hc q=>(hs.2 c ?_).trans q) (fun _ q=>q) fun _ _ q=>q;rintro rfl;rcases hc with rfl | hc
  ·rw [cw] at e; cases e
  ·rw [cw] at hc; cases hc
 rcases hx with hk | hk
 ·refine wpAny_storeName_local hk hn (fun h' hn' hs=>?_) cb;obtain ⟨oL,_,_,hoL,_⟩:=id hn;refine h _ ⟨I.ok,I.os,I.bare,⟨fun b o e n hb hx=>?_,fun b o e n hb hx=>?_,I.base.free,fun b o e hx=>?_,I.base.tups,I.base.frzs,I.base.tbls⟩,⟨_,hn',fun j y v' e1 e2 e3=>?_⟩,fun y c e=>?_,I.free,I.freeC,fun p hp=>?_,tracked ⟨oL,hoL,I.free⟩ hs,by simpa using I.len⟩ ⟨_,hs,.inl rfl⟩
  ·exact (hs.2 b (Nat.ne_of_lt (Nat.lt_of_lt_of_le (lt_size e) I.ok.above))).trans (I.base.keep b o e n hb hx)
  ·obtain ⟨sl,e1⟩:=I.base.slot b o e n hb hx;exact ⟨sl,(hs.2 b (Nat.ne_of_lt (Nat.lt_of_lt_of_le (lt_size e) I.ok.above))).trans e1⟩
  ·obtain ⟨o',e1⟩:=I.base.there b o e hx;exact ⟨o',(hs.2 b (Nat.ne_of_lt (Nat.lt_of_lt_of_le (lt_size e) I.ok.above))).trans e1⟩
  ·by_cases hj:j=i
   ·subst hj;rw [hi] at e1; cases e1;rw [List.getElem?_set_self hiσ] at e2;cases e2;exact ⟨u,r,.inl ⟨hk,by simp⟩⟩
   ·rw [List.getElem?_set_ne (Ne.symm hj)] at e2;obtain ⟨u',r',q⟩:=hl j y v' e1 e2 e3;refine ⟨u',r',?_⟩;rcases q with ⟨k,e⟩ | ⟨k,c,e,z⟩
    ·refine .inl ⟨k,?_⟩;have:y ≠ x:=fun e=>hj (Kz hN e1 (e ▸ hi));simp [this,e]
    ·exact .inr ⟨k,c,e,z.sameBut hs (cne y c e)⟩
  ·obtain ⟨w',z⟩:=I.cell y c e;exact ⟨w',z.sameBut hs (cne y c e)⟩
  ·obtain ⟨e,n,ne,nf,d⟩:=I.pin p hp;exact ⟨(hs.2 p.1 ne).trans e,n,ne,nf,d⟩
 ·have hfn:X.fn x=true:=by
   rcases hf with z | z
   ·exact z
   ·rw [z] at hk; cases hk
  obtain ⟨c,hc⟩:=I.ok.has x (.inl hk);obtain ⟨w',z⟩:=I.cell x c hc;refine wpAny_storeName_cell I.ok.kind hk hc z (fun h' hc' hs=>?_);obtain ⟨oc,hoc,hocd⟩:=id z;refine h { s with heap:=h' } ⟨I.ok,I.os,I.bare,⟨fun b o e n hb hx=>?_,fun b o e n hb hx=>?_,I.base.free,fun b o e hx=>?_,I.base.tups,I.base.frzs,I.base.tbls⟩,⟨m,hn.sameBut hs (Ne.symm (cne x c hc)),fun j y v' e1 e2 e3=>?_⟩,fun y c' e=>?_,I.free,I.freeC,fun p hp=>?_,tracked ⟨oc,hoc,I.freeC x c hc⟩ hs,by simpa using I.len⟩ ⟨c,hs,.inr hc⟩
  ·exact (hs.2 b (Nat.ne_of_lt (Nat.lt_of_lt_of_le (lt_size e) (I.ok.cab x c hfn hc)))).trans (I.base.keep b o e n hb hx)
  ·obtain ⟨sl,e1⟩:=I.base.slot b o e n hb hx;exact ⟨sl,(hs.2 b (Nat.ne_of_lt (Nat.lt_of_lt_of_le (lt_size e) (I.ok.cab x c hfn hc)))).trans e1⟩
  ·obtain ⟨o',e1⟩:=I.base.there b o e hx;exact ⟨o',(hs.2 b (Nat.ne_of_lt (Nat.lt_of_lt_of_le (lt_size e) (I.ok.cab x c hfn hc)))).trans e1⟩
  ·by_cases hj:j=i
   ·subst hj;rw [hi] at e1; cases e1;rw [List.getElem?_set_self hiσ] at e2;cases e2;exact ⟨u,r,.inr ⟨.inl hk,c,hc,hc'⟩⟩
   ·rw [List.getElem?_set_ne (Ne.symm hj)] at e2;obtain ⟨u',r',q⟩:=hl j y v' e1 e2 e3;refine ⟨u',r',?_⟩;rcases q with q | ⟨k,c',e,z'⟩
    ·exact .inl q
    ·refine .inr ⟨k,c',e,z'.sameBut hs ?_⟩;rintro rfl;exact hj (Kz hN e1 (I.ok.inj _ _ _ e hc ▸ hi))
  ·by_cases hcc:c'=c
   ·subst hcc; exact ⟨_,hc'⟩
   ·obtain ⟨w2,z2⟩:=I.cell y c' e;exact ⟨w2,z2.sameBut hs hcc⟩
  ·obtain ⟨e,n,ne,nf,d⟩:=I.pin p hp;refine ⟨(hs.2 p.1 ?_).trans e,n,ne,nf,d⟩;intro q;rw [q,hoc] at e;have q':oc=p.2:=Option.some.inj e;exact d w' (by rw [← q']; exact hocd)
theorem By {M:Model} {A:Around} {E:VS} {i:Nat} {x:Str} {v:V} {u:Value} {Q:Unit->Shared->Prop} (I:Inv X aa σ H s) (hN:X.N.Nodup) (hi:X.N[i]?=some x) (hx:Loc X.env.scope x) (r:RelV v u)
  (h:∀ s',Inv X aa (σ.set i (some v)) H s'->Q () s') (hf:X.fn x=true\/X.env.scope.names.lookup x=some .local:=by first | exact .inl rfl | exact .inr rfl | assumption):wpAny M A (storeName X.env x u) Q E s :=
 JQ I hN hi hx r (fun s' I' _=>h s' I') hf
theorem Inv.call' {s':Shared} {ch:List Addr} (I:Inv X aa σ H s) (ho:s'.os=s.os) (u:Un (frs X.stack) ch H H' s.heap s'.heap) (hok:HOk X.prog X.w H' s'.heap) (hg:AllBare s'.gens)
  (hch:∀ b ∈ ch,(b ∈ X.ex\/X.s₀.heap.objs.size <= b)/\b ≠ X.env.locals/\(∀ x c,X.env.cells.lookup x=some c->c ≠ b)/\∀ p ∈ X.pn++aa,p.1 ≠ b):Inv X aa σ H' s':=by
 obtain ⟨h',g',d',t',o'⟩:=s';have e:o'=s.os:=ho;subst e;exact I.call (g':=g') (t':=t') (d':=d') u hok hg hch
end
abbrev XK:=Value->Option Addr->Hp->Prop
abbrev St:=List (Option V)
abbrev VK:=V->Hp->Prop
abbrev TE:=St->Hp->VK->Prop
abbrev TT:=St->Hp->(Bool->Hp->Prop)->Prop
abbrev TA:=St->Hp->(List V->Hp->Prop)->Prop
structure Df where
 nx:St->Hp->Prop
 rt:VK
 bk:St->Hp->Prop:=fun _ _=>False
 ct:St->Hp->Prop:=fun _ _=>False
abbrev TS:=Df->St->Hp->Prop
def EP (X:Cx) (aa:LO) (σ:St) (Q:VK) (u:Value) (s':Shared):Prop:=∃ v H',Inv X aa σ H' s'/\RelV v u/\Q v H'
def TP (X:Cx) (aa:LO) (σ:St) (Q:Bool->Hp->Prop) (b:Bool) (s':Shared):Prop:=∃ H',Inv X aa σ H' s'/\Q b H'
def AP (X:Cx) (aa:LO) (σ:St) (Q:List V->Hp->Prop) (us:List Value) (s':Shared):Prop:=∃ vs H',Inv X aa σ H' s'/\Vals vs us/\Q vs H'
def SP (X:Cx) (aa:LO) (D:Df) (f:Flow) (s':Shared):Prop :=
 match f with
 | .next=>∃ σ' H',Inv X aa σ' H' s'/\D.nx σ' H'
 | .brk=>∃ σ' H',Inv X aa σ' H' s'/\D.bk σ' H'
 | .cont=>∃ σ' H',Inv X aa σ' H' s'/\D.ct σ' H'
 | .ret u=>∃ v σ' H',Inv X aa σ' H' s'/\RelV v u/\D.rt v H'
def PE (X:Cx) (e:Expr) (t:TE):Prop :=
 ∀ (aa:LO) (s:Shared) (σ:St) (H:Hp) (Q:VK),Inv X aa σ H s->t σ H Q->wpAny (model X.prog X.w) X.A (eval e X.env) (EP X aa σ Q) X.xe s
def PT (X:Cx) (e:Expr) (t:TT):Prop :=
 ∀ (aa:LO) (s:Shared) (σ:St) (H:Hp) (Q:Bool->Hp->Prop),Inv X aa σ H s->t σ H Q->wpAny (model X.prog X.w) X.A (isTrue e X.env (eval e X.env)) (TP X aa σ Q) X.xe s
def PW (X:Cx) (e:Expr) (t:TT):Prop :=
 ∀ (whole:Sem Value) (aa:LO) (s:Shared) (σ:St) (H:Hp) (Q:Bool->Hp->Prop),Inv X aa σ H s->t σ H Q->wpAny (model X.prog X.w) X.A (isTrue e X.env whole) (TP X aa σ Q) X.xe s
theorem PW.pt {X:Cx} {e:Expr} {t:TT} (h:PW X e t):PT X e t:=h _
def PA (X:Cx) (es:List Expr) (t:TA):Prop :=
 ∀ (pos:Pos) (aa:LO) (s:Shared) (σ:St) (H:Hp) (Q:List V->Hp->Prop),Inv X aa σ H s->t σ H Q->wpAny (model X.prog X.w) X.A (spliced (backTo pos (starEach es X.env))) (AP X aa σ Q) X.xe s
def PS (X:Cx) (st:Stmt) (t:TS):Prop :=
 ∀ (aa:LO) (s:Shared) (σ:St) (H:Hp) (D:Df),Inv X aa σ H s->t D σ H->wpAny (model X.prog X.w) X.A (exec st X.env) (SP X aa D) X.xe s
def PSs (X:Cx) (st:List Stmt) (t:TS):Prop :=
 ∀ (aa:LO) (s:Shared) (σ:St) (H:Hp) (D:Df),Inv X aa σ H s->t D σ H->wpAny (model X.prog X.w) X.A (execs st X.env) (SP X aa D) X.xe s
theorem thn {α:Type} {t:Sem α} {Q Q':α->Shared->Prop} {M:Model} {A:Around} {E:VS} {s:Shared} (h:wpAny M A t Q E s) (hQ:∀ a s,Q a s->Q' a s):wpAny M A t Q' E s:=wpAny_mono h hQ fun _ _ x=>x
end L2
variable {X:L2.Cx} {H:L2.Hp} {H':L2.Hp} {s:PySem.Shared} {pos:PySem.Pos} {σ:L2.St} {P:PySem.Program} {w:PySem.World} {A:PySem.Around} {aa:LO} {x:PySem.Str} {a:PySem.Addr} {K:FG} {C:PySem.Addr} {E:VS} {h:PySem.Heap} {us:List PySem.Value} {f:PySem.Addr} {u:PySem.Value} {xs:List L2.V} {e:PySem.Expr} {te:L2.TE} {base:PySem.Heap} {N:List PySem.Str} {mg:SV}
namespace L2
open PySem PySem.Spec PyProof.Rows
section
def Ck (i:Nat):TE:=fun σ H Q=>∃ v,σ[i]?=some (some v)/\Q v H
def tC (v:V):TE:=fun _ H Q=>Q v H
theorem P5 {i:Nat} (hN:X.N[i]?=some x) (hv:Vis X.env.scope x) (hd:(x == ("__debug__" : Str))=false:=by decide) (hcd:(x == ("__classdict__" : Str))=false:=by decide):PE X (.Name x pos) (Ck i):=by
 intro aa s σ H Q I h;obtain ⟨v,e,h⟩:=h;obtain ⟨m,hn,hl⟩:=I.loc;obtain ⟨u,r,l⟩:=hl i x v hN e hv;have fin:EP X aa σ Q u s:=⟨v,H,I,r,h⟩;rcases l with ⟨hk,hm⟩ | ⟨hk,c,hc,b9⟩
 ·exact wpAny_Name (wpAny_loadName_local I.ok.kind hk hn hm fin) hd
 ·rcases hk with hk | hk
  ·exact wpAny_Name (wpAny_loadName_cell I.ok.kind hk hc b9 fin) hd
  ·exact wpAny_Name (wpAny_loadName_free I.ok.kind hk hc b9 fin hcd) hd
theorem AK {i j pos}:PE X (.Constant (.int i) j pos) (tC (.int i)):=fun _ _ _ H _ I h=>wpAny_Constant_int ⟨.int i,H,I.tok _,⟨_,rfl⟩,h⟩
theorem P6 {b j pos}:PE X (.Constant (.bool b) j pos) (tC (.bl b)):=fun _ _ _ H _ I h=>Constant_bool ⟨.bl b,H,I,rfl,h⟩
theorem UC {j pos}:PE X (.Constant .none j pos) (tC .non):=fun _ _ _ H _ I h=>Constant_none ⟨.non,H,I,rfl,h⟩
theorem Ag {x j pos}:PE X (.Constant (.str x) j pos) (tC (.str x)):=fun _ _ _ H _ I h=>Calls.Constant_str ⟨.str x,H,I.tok _,⟨_,rfl⟩,h⟩
def Gl (X:Cx) (x:Str):Prop:=X.env.kindOf x=some .globalImplicit
theorem CG {Q:VS} (I:Inv X aa σ H s) (hg:Gl X x) (hm:X.mg x=some u) (h:Q u s)
  (hd:(x == ("__debug__" : Str))=false:=by decide):wpAny (model X.prog X.w) X.A (eval (.Name x pos) X.env) Q E s :=
 Calls.Name_function_global I.ok.kind hg (Calls.loadGlobal_global (by rw [I.ok.glob]; exact I.mod.glob.keeps I.bk) hm h) hd
theorem Ej {Q:VS} (I:Inv X aa σ H s) (hg:Gl X x) (hm:X.mg x=none) (hv:bootBuiltins x=some u) (h:Q u s)
  (hn:x ≠ "__name__" := by decide) (hd:(x == ("__debug__" : Str))=false:=by decide):wpAny (model X.prog X.w) X.A (eval (.Name x pos) X.env) Q E s:=by
 obtain ⟨mb,h1,h2⟩:=I.mod.blt;exact Calls.Name_function_global I.ok.kind hg (Calls.loadGlobal_builtin (by rw [I.ok.glob]; exact I.mod.glob.keeps I.bk) hm (by rw [I.ok.blt]; exact h1.keeps I.bk) ((h2 x hn).trans hv) h) hd
theorem Bz {v:V} (hg:Gl X x) (hm:X.mg x=some u) (r:RelV v u) (hd:(x == ("__debug__" : Str))=false:=by decide):PE X (.Name x pos) (tC v) :=
 fun _ _ _ H _ I h=>CG I hg hm ⟨v,H,I,r,h⟩ hd
theorem EM {v:V} (hg:Gl X x) (hm:X.mg x=none) (hv:bootBuiltins x=some u) (r:RelV v u) (hn:x ≠ "__name__" := by decide) (hd:(x == ("__debug__" : Str))=false:=by decide):PE X (.Name x pos) (tC v) :=
 fun _ _ _ H _ I h=>Ej I hg hm hv ⟨v,H,I,r,h⟩ hn hd
variable {a b:Expr} {ta tb:TE}
def PC (X:Cx) (op:CmpOp) (a b:Expr) (t:TE):Prop :=
 ∀ (aa:LO) (s:Shared) (σ:St) (H:Hp) (Q:VK),Inv X aa σ H s->t σ H Q ->
  wpAny (model X.prog X.w) X.A (eval a X.env) (fun v s₁=>wpAny (model X.prog X.w) X.A (eval b X.env) (fun u s₂=>wpAny (model X.prog X.w) X.A (compareOp op v u) (EP X aa σ Q) X.xe s₂) X.xe s₁) X.xe s
theorem K0 (b:Expr) {op:CmpOp} (h:op ≠ .In) (h2:op ≠ .NotIn):behindInMarks op b=false:=by
 have e1:(op == CmpOp.In)=false:=by cases op <;> first | rfl | exact absurd rfl h
 have e2:(op == CmpOp.NotIn)=false:=by cases op <;> first | rfl | exact absurd rfl h2
 cases b <;> simp [behindInMarks,e1,e2]
def WA (ta:TE):TE:=fun σ H Q=>ta σ H fun x H1=>Q (.bl (decide (x=.non))) H1
theorem RelV.none_iff {x:V} {v:Value} (r:RelV x v):(v == Value.none)=decide (x=.non):=by
 cases x with
 | non=>cases r; rfl
 | bl _=>cases r; rfl
 | int _=>obtain ⟨t,rfl⟩:=r; rfl
 | str _=>obtain ⟨t,rfl⟩:=r; rfl
 | byt _=>obtain ⟨t,rfl⟩:=r; rfl
 | flt _=>obtain ⟨t,rfl⟩:=r; rfl
 | ref _=>cases r; rfl
 | ty _=>cases r; rfl
theorem Md {j pos'} (ha:PE X a ta):PC X .Is a (.Constant .none j pos') (WA ta):=by
 intro aa s σ H Q I h;refine thn (ha aa s σ H _ I h) fun v s1 ⟨x,H1,I1,r1,q1⟩=>?_;exact Constant_none (is_none_gen ⟨.bl _,H1,I1,by rw [r1.none_iff]; rfl,q1⟩)
def tB (t:TE):TT:=fun σ H Q=>t σ H fun x H1=>∃ c,x=.bl c/\Q c H1
theorem UD {op:CmpOp} {t:TE} (h:PC X op a b t) (h1:behindInMarks op b=false:=by first | exact K0 _ (by decide) (by decide) | rfl):PE X (.Compare a [op] [b] pos) t:=fun aa s σ H Q I hw=>wpAny_Compare1 (h aa s σ H Q I hw) h1
theorem DI {op:CmpOp} {t:TE} (h:PC X op a b t) (h1:behindInMarks op b=false:=by first | exact K0 _ (by decide) (by decide) | rfl):PT X (.Compare a [op] [b] pos) (tB t):=by
 intro aa s σ H Q I hw;refine wpAny_isTrue_Compare1 (thn (h aa s σ H _ I hw) fun v s1 h1=>thn h1 fun u s2 h2=>thn h2 fun c s3 ⟨x,H1,I1,r1,q1⟩=>?_) h1;obtain ⟨d,rfl,q⟩:=q1;cases r1;exact wpAny_truthy_bool ⟨H1,I1,q⟩
theorem BG {t:TE} (h:PE X e t) (he:∀ whole,isTrue e X.env whole=(do let v ← whole; standAt e.pos; holding [v] (truthy v)):=by intro _; rfl):PT X e (tB t):=by
 intro aa s σ H Q I hw;refine isTrue_plain (thn (h aa s σ H _ I hw) fun v s1 ⟨x,H1,I1,r1,q1⟩=>?_) (he _);obtain ⟨d,rfl,q⟩:=q1;cases r1;exact wpAny_truthy_bool ⟨H1,I1,q⟩
variable {tA tB':TT} {rest:List Expr}
def VM (t u:TT):TT:=fun σ H Q=>t σ H fun c H1=>if c=true then u σ H1 Q else Q false H1
def tOr (t u:TT):TT:=fun σ H Q=>t σ H fun c H1=>if c=true then Q true H1 else u σ H1 Q
def WB (t:TT):TT:=fun σ H Q=>t σ H fun c H1=>Q (!c) H1
theorem Cl (ha:PT X a tA):PW X (.BoolOp .And [a] pos) tA:=by
 intro wh aa s σ H Q I h;refine isTrue_and (thn (ha aa s σ H Q I h) fun c s1 e=>?_);cases c with
 | true=>exact isTrue_and_nil e
 | false=>exact e
theorem CS (ha:PT X a tA):PW X (.BoolOp .Or [a] pos) tA:=by
 intro wh aa s σ H Q I h;refine isTrue_or (thn (ha aa s σ H Q I h) fun c s1 e=>?_);cases c with
 | false=>exact isTrue_or_nil e
 | true=>exact e
theorem Di (ha:PT X a tA) (hb:PW X (.BoolOp .And (b :: rest) pos) tB'):PW X (.BoolOp .And (a :: b :: rest) pos) (VM tA tB'):=by
 intro wh aa s σ H Q I h;refine isTrue_and (thn (ha aa s σ H _ I h) fun c s1 ⟨H1,I1,q1⟩=>?_);cases c with
 | true=>exact hb wh aa s1 σ H1 Q I1 q1
 | false=>exact ⟨H1,I1,q1⟩
theorem Cm (ha:PT X a tA) (hb:PW X (.BoolOp .Or (b :: rest) pos) tB'):PW X (.BoolOp .Or (a :: b :: rest) pos) (tOr tA tB'):=by
 intro wh aa s σ H Q I h;refine isTrue_or (thn (ha aa s σ H _ I h) fun c s1 ⟨H1,I1,q1⟩=>?_);cases c with
 | true=>exact ⟨H1,I1,q1⟩
 | false=>exact hb wh aa s1 σ H1 Q I1 q1
theorem BU (ha:PT X a tA):PT X (.UnaryOp .Not a pos) (WB tA):=by
 intro aa s σ H Q I h;exact isTrue_not (ha aa s σ H (fun c H1=>Q (!c) H1) I h)
def VN (ta tb:TE):TE:=fun σ H Q=>ta σ H fun x H1=>∃ c,x=.bl c/\if c=true then tb σ H1 Q else Q (.bl false) H1
def VP (ta:TE):TE:=fun σ H Q=>ta σ H fun x H1=>∃ c,x=.bl c/\Q (.bl (!c)) H1
theorem DJ {op} {t:TE} (h:PE X a t):PE X (.BoolOp op [a] pos) t:=fun aa s σ H Q I hw=>BoolOp_one (h aa s σ H Q I hw)
theorem Cc (ha:PE X a ta) (hb:PE X (.BoolOp .And (b :: rest) pos) tb):PE X (.BoolOp .And (a :: b :: rest) pos) (VN ta tb):=by
 intro aa s σ H Q I h;refine BoolOp_and (thn (ha aa s σ H _ I h) fun v s1 ⟨x,H1,I1,r1,q1⟩=>?_);obtain ⟨c,rfl,q1⟩:=q1;cases r1;refine wpAny_truthy_bool ?_;cases c with
 | true=>exact hb aa s1 σ H1 Q I1 q1
 | false=>exact ⟨.bl false,H1,I1,rfl,q1⟩
theorem UE (ha:PE X a ta):PE X (.UnaryOp .Not a pos) (VP ta):=by
 intro aa s σ H Q I h;refine UnaryOp_ (thn (ha aa s σ H _ I h) fun v s1 ⟨x,H1,I1,r1,q1⟩=>?_);obtain ⟨c,rfl,q1⟩:=q1;cases r1;exact not_of (wpAny_truthy_bool ⟨.bl (!c),H1,I1,rfl,q1⟩)
def tIf (t:TT) (ta tb:TE):TE:=fun σ H Q=>t σ H fun c H1=>if c=true then ta σ H1 Q else tb σ H1 Q
theorem HR {c:Expr} (hc:PT X c tA) (ha:PE X a ta) (hb:PE X b tb):PE X (.IfExp c a b pos) (tIf tA ta tb):=by
 intro aa s σ H Q I h;refine wpAny_IfExp (thn (hc aa s σ H _ I h) fun d s1 ⟨H1,I1,q1⟩=>?_);cases d with
 | true=>exact ha aa s1 σ H1 Q I1 q1
 | false=>exact hb aa s1 σ H1 Q I1 q1
end
end L2
namespace L2
open PySem PySem.Spec PyProof.Rows
def SqL (K:FG) (H:Hp) (a:Addr) (xs:List V):Prop :=
 Rd H a (.lst xs) \/
  ∃ (o:Obj) (its:Array Value) (n:Nat),K.lookup a=some o/\o.cls=.type "list" /\ o.dict=none/\o.data=.seq its n/\its.size <= sizeLine/\Vals xs its.toList
def SqT (K:FG) (H:Hp) (a:Addr) (xs:List V):Prop :=
 Rd H a (.tup xs) \/
  ∃ (o:Obj) (its:Array Value) (n:Nat),K.lookup a=some o/\o.cls=.type "tuple" /\ o.data=.seq its n/\its.size <= sizeLine/\Vals xs its.toList
noncomputable def WC:Value->Option V
 | .none=>some .non
 | .bool b=>some (.bl b)
 | .int i _=>some (.int i)
 | .str x _=>some (.str x)
 | .bytes b _=>some (.byt b)
 | .float b _=>some (.flt b)
 | .ref a=>some (.ref a)
 | .type n=>some (.ty n)
 | _=>none
theorem RelV.abs {x:V} (r:RelV x u):WC u=some x:=by
 cases x with
 | non=>cases r; rfl
 | bl _=>cases r; rfl
 | int _=>obtain ⟨t,rfl⟩:=r; rfl
 | str _=>obtain ⟨t,rfl⟩:=r; rfl
 | byt _=>obtain ⟨t,rfl⟩:=r; rfl
 | flt _=>obtain ⟨t,rfl⟩:=r; rfl
 | ref _=>cases r; rfl
 | ty _=>cases r; rfl
theorem RelV.inj {x y:V} {u:Value} (r:RelV x u) (q:RelV y u):x=y:=Option.some.inj (r.abs.symm.trans q.abs)
theorem Vals.inj:∀ {xs ys:List V} {us:List Value},Vals xs us->Vals ys us->xs=ys
 | _,_,_,.nil,.nil=>rfl
 | _,_,_,.cons r t,.cons r' t'=>by rw [r.inj r',Vals.inj t t']
section
variable {ys:List V}
theorem SqL.of (h:H a=some (.lst xs)):SqL K H a xs:=.inl (.inl h)
theorem SqT.of (h:H a=some (.tup xs)):SqT K H a xs:=.inl (.inl h)
theorem Inv.list (I:Inv X aa σ H s) (h:SqL X.K H a xs):∃ its:List Value,Vals xs its/\PlainL s.heap a its.toArray/\xs.length <= sizeLine:=by
 rcases h with h | ⟨o,its,n,hk,hc,hd,hs,hz,r⟩
 ·obtain ⟨z,its,n,r,e⟩:=h.ok I.hok;exact ⟨its,r,⟨_,n,e,rfl,rfl,rfl⟩,z⟩
 ·refine ⟨its.toList,r,⟨o,n,I.kIn a o hk,hc,hd,by simpa using hs⟩,?_⟩;have e:=r.length;simp only [Array.length_toList] at e;omega
theorem Inv.tuple (I:Inv X aa σ H s) (h:SqT X.K H a xs):∃ its:List Value,Vals xs its/\IsTup s.heap a its.toArray/\xs.length <= sizeLine:=by
 rcases h with h | ⟨o,its,n,hk,hc,hs,hz,r⟩
 ·obtain ⟨z,its,r,p⟩:=h.ok I.hok;exact ⟨its,r,p,z⟩
 ·refine ⟨its.toList,r,⟨o,I.kIn a o hk,hc,n,by simpa using hs⟩,?_⟩;have e:=r.length;simp only [Array.length_toList] at e;omega
theorem Inv.list_inj (I:Inv X aa σ H s) (h:SqL X.K H a xs) (h':SqL X.K H a ys):xs=ys:=by
 obtain ⟨its,r,⟨o,n,e,_,_,d⟩,_⟩:=I.list h;obtain ⟨its',r',⟨o',n',e',_,_,d'⟩,_⟩:=I.list h';rw [e] at e'; cases e';rw [d] at d';injection d' with d1 _
 have:its=its':=by simpa using congrArg Array.toList d1
 subst this;exact r.inj r'
theorem Inv.tuple_inj (I:Inv X aa σ H s) (h:SqT X.K H a xs) (h':SqT X.K H a ys):xs=ys:=by
 obtain ⟨its,r,⟨o,e,_,n,d⟩,_⟩:=I.tuple h;obtain ⟨its',r',⟨o',e',_,n',d'⟩,_⟩:=I.tuple h';rw [e] at e'; cases e';rw [d] at d';injection d' with d1 _
 have:its=its':=by simpa using congrArg Array.toList d1
 subst this;exact r.inj r'
end
noncomputable abbrev Cx.wish (X:Cx) (E:VS):Cx:={ X with xe:=E }
noncomputable abbrev Cx.nox (X:Cx):Cx:=X.wish fun _ _=>False
theorem Cx.Ok.wish {X:Cx} (ok:X.Ok) (E:VS):(X.wish E).Ok :=
 ⟨ok.mod,ok.kind,ok.glob,ok.blt,ok.above,ok.inj,ok.has,ok.cab,ok.hd,ok.frames,ok.stk,ok.exf,ok.bs,ok.bsz,ok.noex,ok.exfs,ok.funs,ok.frf⟩
theorem Cx.Ok.unwish (ok:(X.wish E).Ok):X.Ok :=
 ⟨ok.mod,ok.kind,ok.glob,ok.blt,ok.above,ok.inj,ok.has,ok.cab,ok.hd,ok.frames,ok.stk,ok.exf,ok.bs,ok.bsz,ok.noex,ok.exfs,ok.funs,ok.frf⟩
section
theorem Inv.wish (I:Inv X aa σ H s) (E:VS):Inv (X.wish E) aa σ H s:=⟨I.ok.wish E,I.os,I.bare,I.base,I.loc,I.cell,I.free,I.freeC,I.pin,I.hok,I.len⟩
theorem Inv.unwish (I:Inv (X.wish E) aa σ H s):Inv X aa σ H s:=⟨I.ok.unwish,I.os,I.bare,I.base,I.loc,I.cell,I.free,I.freeC,I.pin,I.hok,I.len⟩
theorem SP.unwish {D:Df} {f:Flow} {s':Shared} (h:SP (X.wish E) aa D f s'):SP X aa D f s':=by
 cases f with
 | next=>obtain ⟨σ',H',I,q⟩:=h; exact ⟨σ',H',I.unwish,q⟩
 | brk=>obtain ⟨σ',H',I,q⟩:=h; exact ⟨σ',H',I.unwish,q⟩
 | cont=>obtain ⟨σ',H',I,q⟩:=h; exact ⟨σ',H',I.unwish,q⟩
 | ret u=>obtain ⟨v,σ',H',I,r,q⟩:=h; exact ⟨v,σ',H',I.unwish,r,q⟩
theorem PSs.nox {st:List Stmt} {t:TS} (h:PSs X.nox st t):PSs X st t:=fun aa s σ H D I hw =>
 wpAny_mono (h aa s σ H D (I.wish _) hw) (fun _ _ q=>q.unwish) fun _ _ z=>False.elim z
end
section
variable {st:Stmt} {rest:List Stmt} {t u:TS}
def VQ:TS:=fun D σ H=>D.nx σ H
def VR (t u:TS):TS:=fun D σ H=>t { D with nx:=u D } σ H
theorem AW:PSs X [] VQ:=fun _ _ σ H _ I h=>wpAny_execs_nil ⟨σ,H,I,h⟩
theorem AG (h1:PS X st t) (h2:PSs X rest u):PSs X (st :: rest) (VR t u):=by
 intro aa s σ H D I h;refine wpAny_execs_cons (thn (h1 aa s σ H { D with nx:=u D } I h) fun f s1 q=>?_);cases f with
 | next =>
  obtain ⟨σ',H',I',q⟩:=q;exact h2 aa s1 σ' H' D I' q
 | ret v=>exact q
 | brk=>exact q
 | cont=>exact q
theorem AE (h1:PS X st t):PSs X [st] t:=by
 intro aa s σ H D I h;refine wpAny_execs_cons (thn (h1 aa s σ H D I h) fun f s1 q=>?_);cases f with
 | next=>exact wpAny_execs_nil q
 | ret v=>exact q
 | brk=>exact q
 | cont=>exact q
theorem Inv.quiet (I:Inv X aa σ H s):interactive X.env=false:=by simp [interactive,I.ok.kind]
def VU (te:TE):TS:=fun D σ H=>te σ H fun _ H1=>D.nx σ H1
theorem CH (he:PE X e te) (hs:swapsWith e none pos.line X.env=pure false:=by rfl):PS X (.Expr e pos) (VU te):=by
 intro aa s σ H D I h;exact wpAny_Expr_any (thn (he aa s σ H _ I h) fun v s1 ⟨x,H1,I1,r1,q1⟩=>⟨σ,H1,I1,q1⟩) I.quiet hs
def P7 (te:TE):TS:=fun D σ H=>te σ H D.rt
theorem AU (he:PE X e te):PS X (.Return (some e) pos) (P7 te):=by
 intro aa s σ H D I h;exact wpAny_Return_some (thn (he aa s σ H _ I h) fun v s1 ⟨x,H1,I1,r1,q1⟩=>⟨x,σ,H1,I1,r1,q1⟩)
def WD (c:TT) (t u:TS):TS:=fun D σ H=>c σ H fun b H1=>if b=true then t D σ H1 else u D σ H1
theorem An {c:Expr} {a b:List Stmt} {tc:TT} (hc:PT X c tc) (ha:PSs X a t) (hb:PSs X b u):PS X (.If c a b pos) (WD tc t u):=by
 intro aa s σ H D I h;refine wpAny_If (thn (hc aa s σ H _ I h) fun d s1 ⟨H1,I1,q1⟩=>?_);cases d with
 | true=>exact ha aa s1 σ H1 D I1 q1
 | false=>exact hb aa s1 σ H1 D I1 q1
def UF:TS:=fun _ _ _=>False
theorem Ao:PS X st UF:=fun _ _ _ _ _ _ h=>h.elim
end
abbrev TG:=V->St->Hp->(St->Hp->Prop)->Prop
abbrev TGs:=List V->St->Hp->(St->Hp->Prop)->Prop
def PG (X:Cx) (target:Expr) (t:TG):Prop :=
 ∀ (aa:LO) (s:Shared) (σ:St) (H:Hp) (v:V) (u:Value) (Q:St->Hp->Prop),Inv X aa σ H s->RelV v u->t v σ H Q ->
  wpAny (model X.prog X.w) X.A (assign target X.env u) (fun _ s'=>∃ σ' H',Inv X aa σ' H' s'/\Q σ' H') X.xe s
def PGs (X:Cx) (ts:List Expr) (t:TGs):Prop :=
 ∀ (aa:LO) (s:Shared) (σ:St) (H:Hp) (vs:List V) (us:List Value) (Q:St->Hp->Prop),Inv X aa σ H s->Vals vs us->t vs σ H Q ->
  wpAny (model X.prog X.w) X.A (assignInOrder ((assignEach ts X.env).map (·.2)) us) (fun _ s'=>∃ σ' H',Inv X aa σ' H' s'/\Q σ' H') X.xe s
abbrev UG:=V->V->V->Hp->(Hp->Prop)->Prop
def VW (X:Cx) (t:UG):Prop :=
 ∀ (aa:LO) (s:Shared) (σ:St) (H:Hp) (o i v:V) (ov iv u:Value) (Q:Hp->Prop),Inv X aa σ H s->RelV o ov->RelV i iv->RelV v u->t o i v H Q ->
  wpAny (model X.prog X.w) X.A (setItem ov iv u) (fun _ s'=>∃ H',Inv X aa σ H' s'/\Q H') X.xe s
abbrev TIp:=V->V->Hp->VK->Prop
def PIp (X:Cx) (op:Operator) (t:TIp):Prop :=
 ∀ (aa:LO) (s:Shared) (σ:St) (H:Hp) (x y:V) (v u:Value) (Q:VK),Inv X aa σ H s->RelV x v->RelV y u->t x y H Q ->
  wpAny (model X.prog X.w) X.A (inplaceOp op v u) (EP X aa σ Q) X.xe s
section
def Cn (i:Nat):TG:=fun v σ H Q=>Q (σ.set i (some v)) H
theorem AR {i:Nat} (hN:X.N.Nodup) (hi:X.N[i]?=some x) (hx:Loc X.env.scope x) (hf:X.fn x=true\/X.env.scope.names.lookup x=some .local:=by first | exact .inl rfl | exact .inr rfl | assumption):PG X (.Name x pos) (Cn i):=by
 intro aa s σ H v u Q I r h;exact wpAny_assign_Name (By I hN hi hx r (fun s' I'=>⟨_,H,I',h⟩) hf)
def SW:TGs:=fun vs σ H Q=>vs=[]/\Q σ H
def HS (t:TG) (u:TGs):TGs:=fun vs σ H Q=>∃ v r,vs=v :: r/\t v σ H fun σ' H'=>u r σ' H' Q
theorem A1:PGs X [] SW:=by
 intro aa s σ H vs us Q I r h;obtain ⟨e,h⟩:=h;subst e;cases r;exact assignInOrder_nil ⟨σ,H,I,h⟩
theorem AS {es:List Expr} {t:TG} {u:TGs} (h1:PG X e t) (h2:PGs X es u)
  (hs:(assignEach (e :: es) X.env).map (·.2)=assign e X.env :: (assignEach es X.env).map (·.2):=by rfl):PGs X (e :: es) (HS t u):=by
 intro aa s σ H vs us Q I r h;obtain ⟨v,vr,e1,h⟩:=h;subst e1;cases r with
 | cons r rr =>
  rw [hs];refine assignInOrder_cons (thn (h1 aa s σ H _ _ _ I r h) fun _ s1 ⟨σ1,H1,I1,q1⟩=>?_);exact h2 aa s1 σ1 H1 _ _ Q I1 rr q1
def SX (K:FG) (n:Nat) (t:TGs):TG:=fun v σ H Q=>∃ a xs,v=.ref a/\SqT K H a xs/\xs.length=n/\t xs σ H Q
theorem BK {es:List Expr} {k:Nat} {t:TGs} {n:Nat} (hc:X.calm=true) (h:PGs X es t)
  (hn:(assignEach es X.env).length=n:=by rfl) (hst:(assignEach es X.env).findIdx? (·.1)=none:=by rfl):PG X (.Tuple es k pos) (SX X.K n t):=by
 intro aa s σ H v u Q I r hw;obtain ⟨a,xs,e1,hq,hl,hw⟩:=hw;subst e1;cases r;obtain ⟨its,rv,ht,hz⟩:=I.tuple hq;refine assign_Tuple_tuple (I.ok.hd hc) ht (by simp [hn,← hl,rv.length]) hst fun h' hx=>?_;have I1:Inv X aa σ H { s with heap:=h' }:=I.kept (t':=s.toks) fun b o e=>hx b o (Nat.ne_of_lt (lt_size e)) e;exact h aa _ σ H xs _ Q I1 (by simpa using rv) hw
def WE (to ti:TE) (t:UG):TG:=fun v σ H Q=>to σ H fun o H1=>ti σ H1 fun i H2=>t o i v H2 fun H3=>Q σ H3
theorem P8 {o i:Expr} {to ti:TE} {t:UG} (ho:PE X o to) (hi:PE X i ti) (hs:VW X t)
  (ha:∀ v,assign (.Subscript o i pos) X.env v=(do
   let ov ← holding [v] (eval o X.env)
   let iv ← holding [v,ov] (eval i X.env)
   standAt pos
   holding [v,ov,iv] (setItem ov iv v)
   release [v,ov,iv] []):=by intro _; rfl):PG X (.Subscript o i pos) (WE to ti t):=by
 intro aa s σ H v u Q I r h;rw [ha];refine wpAny_bind (wpAny_holding (thn (ho aa s σ H _ I h) fun ov s1 ⟨x,H1,I1,r1,q1⟩=>?_));refine wpAny_bind (wpAny_holding (thn (hi aa s1 σ H1 _ I1 q1) fun iv s2 ⟨y,H2,I2,r2,q2⟩=>?_));refine wpAny_bind (wpAny_standAt (wpAny_bind (wpAny_holding (thn (hs aa s2 σ H2 x y v ov iv u _ I2 r1 r2 r q2) fun _ s3 ⟨H3,I3,q3⟩=>?_))));exact wpAny_release ⟨σ,H3,I3,q3⟩
def VX (te:TE) (g:TG):TS:=fun D σ H=>te σ H fun x H1=>g x σ H1 D.nx
theorem CT {tg:Expr} {g:TG} (he:PE X e te) (hg:PG X tg g) (hs:swapsWithSole [tg] e pos.line X.env=pure false:=by rfl) (hw:swappedStores [tg] e X.env=pure none:=by rfl)
  (h1:(assignEach [tg] X.env).map (·.2)=[assign tg X.env]:=by rfl):PS X (.Assign [tg] e pos) (VX te g):=by
 intro aa s σ H D I h;refine wpAny_Assign_stores (thn (he aa s σ H _ I h) fun v s1 ⟨x,H1,I1,r1,q1⟩=>?_) hs hw;rw [h1];exact thn (hg aa s1 σ H1 x v _ I1 r1 q1) fun _ s2 q=>q
theorem Ai {i:Nat} {pos':Pos} (hN:X.N.Nodup) (hi:X.N[i]?=some x) (hx:Loc X.env.scope x) (he:PE X e te) (hs:swapsWith e (some (.Name x pos')) pos.line X.env=pure false:=by rfl) (hf:X.fn x=true\/X.env.scope.names.lookup x=some .local:=by first | exact .inl rfl | exact .inr rfl | assumption) :
  PS X (.Assign [.Name x pos'] e pos) (VX te (Cn i)):=by
 intro aa s σ H D I h;refine wpAny_Assign_Name (thn (he aa s σ H _ I h) fun v s1 ⟨y,H1,I1,r1,q1⟩=>?_) hs;exact By I1 hN hi hx r1 (fun s2 I2=>⟨_,H1,I2,q1⟩) hf
def WF (i j:Nat) (ta:TA):TS:=fun D σ H=>ta σ H fun vs H1=>∃ v w,vs=[v,w]/\D.nx ((σ.set i (some v)).set j (some w)) H1
theorem P9 {i j:Nat} {y:Str} {a b:Expr} {ta:TA} {px py pt:Pos} {kt k2 pt2} (hc:X.calm=true) (hN:X.N.Nodup) (hi:X.N[i]?=some x) (hj:X.N[j]?=some y) (hij:i ≠ j)
  (hx:X.env.scope.names.lookup x=some .local) (hy:X.env.scope.names.lookup y=some .local) (ha:PA X [a,b] ta)
  (hw:swappedStores [.Tuple [.Name x px,.Name y py] kt pt] (.Tuple [a,b] k2 pt2) X.env=pure (some [x,y]))
  (hs:swapsWithSole [.Tuple [.Name x px,.Name y py] kt pt] (.Tuple [a,b] k2 pt2) pos.line X.env=pure false:=by rfl) :
  PS X (.Assign [.Tuple [.Name x px,.Name y py] kt pt] (.Tuple [a,b] k2 pt2) pos) (WF i j ta):=by
 intro aa s σ H D I h;rw [exec_Assign_arm];refine wpAny_bind (wpAny_standAt ?_);rw [hs];refine wpAny_bind (wpAny_pure ?_);rw [if_neg (by decide)];refine wpAny_bind (Tuple_ (thn (ha _ aa s σ H _ I h) fun us s1 ⟨vs,H1,I1,r1,q1⟩=>?_));obtain ⟨v,w,e1,q1⟩:=q1;subst e1
 obtain ⟨u1,u2,rfl,rv,rw'⟩:∃ u1 u2,us=[u1,u2]/\RelV v u1/\RelV w u2:=by
  cases r1 with
  | cons p q =>
   cases q with
   | cons p' q' =>
    cases q';exact ⟨_,_,rfl,p,p'⟩
 refine wpAny_newObj_type ?_ sl2;have I2:Inv X aa σ H1 { s1 with heap:=s1.heap.push { cls:=.type "tuple", data:=.seq [u1,u2].toArray } }:=I1.kept (t':=s1.toks) fun b o e=>get?_push_of_some _ e;rw [hw];refine wpAny_bind (wpAny_pure ?_);show wpAny (model X.prog X.w) X.A (do rule "assign.swapped-stores"; let items ← unpackItems (.ref s1.heap.objs.size) 2 none; assignInOrder [fun v=>bindName X.env y v,fun v=>bindName X.env x v] items.reverse; pure Flow.next) _ _ _;refine wpAny_bind (wpAny_rule (wpAny_bind (unpackItems_tuple (items:=#[u1,u2]) (I.ok.hd hc) (IsTup.new s1.heap _) fun h' hx'=>?_)));have I3:=I2.kept (h':=h') (t':=s1.toks) fun b o e=>hx' b o (Nat.ne_of_lt (lt_size e)) e;show wpAny _ _ (assignInOrder [fun v=>bindName X.env y v,fun v=>bindName X.env x v] [u2,u1] >>= fun _=>pure Flow.next) _ _ _;refine wpAny_bind (assignInOrder_cons (wpAny_bindName (By I3 hN hj (.inl hy) rw' (fun s2 I4=>?_) (.inr hy))));refine assignInOrder_cons (wpAny_bindName (By I4 hN hi (.inl hx) rv (fun s3 I5=>assignInOrder_nil (wpAny_pure ?_)) (.inr hx)));rw [List.set_comm _ _ (Ne.symm hij)] at I5;exact ⟨_,H1,I5,q1⟩
def WG (i:Nat) (te:TE) (ti:TIp):TS:=fun D σ H=>∃ x,σ[i]?=some (some x)/\te σ H fun y H1=>ti x y H1 fun z H2=>D.nx (σ.set i (some z)) H2
theorem UH {i:Nat} {op:Operator} {ti:TIp} {pos':Pos} (hN:X.N.Nodup) (hi:X.N[i]?=some x) (hx:Loc X.env.scope x) (he:PE X e te) (ho:PIp X op ti) (hf:X.fn x=true\/X.env.scope.names.lookup x=some .local:=by first | exact .inl rfl | exact .inr rfl | assumption) :
  PS X (.AugAssign (.Name x pos') op e pos) (WG i te ti):=by
 intro aa s σ H D I h;obtain ⟨v,e1,h⟩:=h;obtain ⟨m,hn,hl⟩:=I.loc;have vis:Vis X.env.scope x:=by rcases hx with k | k; exact .inl k; exact .inr (.inl k)
 obtain ⟨u,r,l⟩:=hl i x v hi e1 vis;refine wpAny_AugAssign_Name ?_
 have go:wpAny (model X.prog X.w) X.A (eval e X.env) (fun w s₂=>wpAny (model X.prog X.w) X.A (inplaceOp op u w) (fun r s₃=>wpAny (model X.prog X.w) X.A (storeName X.env x r) (fun _=>SP X aa D .next) X.xe s₃) X.xe s₂) X.xe s:=by
  refine thn (he aa s σ H _ I h) fun w s1 ⟨y,H1,I1,r1,q1⟩=>?_;refine thn (ho aa s1 σ H1 v y u w _ I1 r r1 q1) fun z s2 ⟨zv,H2,I2,r2,q2⟩=>?_;exact By I2 hN hi hx r2 (fun s3 I3=>⟨_,H2,I3,q2⟩) hf
 rcases l with ⟨hk,hm⟩ | ⟨hk,c,hc,b9⟩
 ·exact wpAny_loadName_local I.ok.kind hk hn hm go
 ·rcases hk with hk | hk
  ·exact wpAny_loadName_cell I.ok.kind hk hc b9 go
  ·rcases hx with k | k
   ·have:X.env.scope.names.lookup x=some .free:=hk;rw [k] at this; cases this
   ·have:X.env.scope.names.lookup x=some .free:=hk;rw [k] at this; cases this
end
section
def QA (c:TT) (tb:TS):TS:=fun D σ H=>∃ W:Nat->St->Hp->Prop,(∃ m,W m σ H)/\∀ m σ H,W m σ H ->
 c σ H fun b H1=>if b=true then ∃ N:St->Hp->Prop,(∀ σ' H',N σ' H'->∃ m',m' < m/\W m' σ' H')/\tb { D with nx:=N,ct:=N,bk:=D.nx } σ H1 else D.nx σ H1
theorem QB {c:Expr} {body:List Stmt} {tc:TT} {tb:TS} (hp:PassesOwn (model X.prog X.w) X.A X.env X.xe) (hc:PT X c tc) (hb:PSs X body tb):PS X (.While c body [] pos) (QA tc tb):=by
 intro aa s σ H D I h;obtain ⟨W,⟨m0,w0⟩,turn⟩:=h;refine wpAny_While (codeAny_whileLoop (fun n s'=>∃ σ' H',Inv X aa σ' H' s'/\W n σ' H') ?_ m0 ⟨σ,H,I,w0⟩);rintro n s1 ⟨σ1,H1,I1,w1⟩;refine wpAny_passesOwn hp (thn (hc aa s1 σ1 H1 _ I1 (turn n σ1 H1 w1)) fun b s2 ⟨H2,I2,q2⟩=>?_);cases b with
 | true =>
  obtain ⟨N,hN,q2⟩:=q2;rw [if_pos rfl];refine wpAny_passesOwn hp (thn (hb aa s2 σ1 H2 _ I2 q2) fun f s3 q3=>?_);cases f with
  | next =>
   obtain ⟨σ3,H3,I3,n3⟩:=q3;obtain ⟨m',hm,w3⟩:=hN σ3 H3 n3;exact ⟨m',hm,σ3,H3,I3,w3⟩
  | cont =>
   obtain ⟨σ3,H3,I3,n3⟩:=q3;obtain ⟨m',hm,w3⟩:=hN σ3 H3 n3;exact ⟨m',hm,σ3,H3,I3,w3⟩
  | brk=>exact q3
  | ret v=>exact q3
 | false =>
  rw [if_neg Bool.false_ne_true];exact wpAny_execs_nil ⟨σ1,H2,I2,q2⟩
end
structure It where
 go:Nat->Hp->Prop
 yld:Nat->Hp->V->Hp->Prop
 stop:Nat->Hp->Prop
def Ek (X:Cx) (aa:LO) (H:Hp) (b:Addr):Prop :=
 H b=none/\b ≠ X.env.locals/\b ∉ X.fs/\(b ∈ X.ex\/X.s₀.heap.objs.size <= b)/\(∀ x c,X.env.cells.lookup x=some c->c ≠ b)/\∀ p ∈ X.pn++aa,p.1 ≠ b
theorem Inv.fpOk {b:Addr} (I:Inv X aa σ H s) (hb:s.heap.objs.size <= b) (hn:H' b=none):Ek X aa H' b:=by
 refine ⟨hn,Nat.ne_of_gt (Nat.lt_of_lt_of_le I.lt hb),I.nofs hb,.inr (Nat.le_trans I.sz hb),fun x c e z=>?_,fun p hp z=>?_⟩
 ·obtain ⟨v,q⟩:=I.cell x c e;exact absurd (Nat.lt_of_lt_of_le q.lt (by rw [z]; exact hb)) (Nat.lt_irrefl _)
 ·exact absurd (Nat.lt_of_lt_of_le (lt_size (I.pin p hp).1) (by rw [z]; exact hb)) (Nat.lt_irrefl _)
structure K1 (P:Program) (w:World) (K:FG) (tg:Expr) (J:It) (fp:List Addr) (it:Addr) (tn:Nat->Heap->Prop):Prop where
 mem:it ∈ fp
 obj:∀ i h,tn i h->∀ b ∈ fp,∃ o,h.get? b=some o/\∀ v,o.data ≠ .cell v
 keep:∀ i h h',tn i h->(∀ b ∈ fp,∀ o,h.get? b=some o->h'.get? b=some o)->tn i h'
 item:∀ (X:Cx),X.prog=P->X.w=w->X.K=K->X.calm=true->∀ (i:Nat) (aa:LO) (s:Shared) (σ:St) (H:Hp) (E:VS),Inv X aa σ H s->(∀ b ∈ fp,Ek X aa H b)->tn i s.heap->J.go i H ->
  wpAny (model P w) X.A (pyNext (.ref it)) (fun r s1=>∃ u,r=some u /\
   wpAny (model P w) X.A (letOwnedTupleGo tg (.ref it) u) (fun _ s2=>∃ x H',Inv X aa σ H' s2/\RelV x u/\J.yld i H x H'/\tn (i + 1) s2.heap/\∀ b ∈ fp,H' b=none) E s1) E s
 done:∀ (X:Cx),X.prog=P->X.w=w->X.K=K->X.calm=true->∀ (i:Nat) (aa:LO) (s:Shared) (σ:St) (H:Hp) (E:VS),Inv X aa σ H s->(∀ b ∈ fp,Ek X aa H b)->tn i s.heap->J.stop i H ->
  wpAny (model P w) X.A (pyNext (.ref it)) (fun r s1=>r=none/\Inv X aa σ H s1) E s
 self:∀ (A:Around) (i:Nat) (s:Shared) (Q:VS) (E:VS),tn i s.heap->Q (.ref it) s->wpAny (model P w) A (pyIter (.ref it)) Q E s
abbrev TI:=St->Hp->(It->Hp->Prop)->Prop
def PIE (X:Cx) (aa:LO) (σ:St) (tg:Expr) (R:It->Hp->Prop) (itv:Value) (s2:Shared):Prop :=
 ∃ (it:Addr) (fp:List Addr) (tn:Nat->Heap->Prop) (J:It) (H':Hp),itv=.ref it/\Inv X aa σ H' s2/\K1 X.prog X.w X.K tg J fp it tn/\tn 0 s2.heap/\(∀ b ∈ fp,Ek X aa H' b)/\R J H'
def PI (X:Cx) (tg iter:Expr) (wi:TI):Prop :=
 ∀ (aa:LO) (s:Shared) (σ:St) (H:Hp) (R:It->Hp->Prop),Inv X aa σ H s->wi σ H R ->
  wpAny (model X.prog X.w) X.A (eval iter X.env) (fun v s1=>wpAny (model X.prog X.w) X.A (pyIter v) (PIE X aa σ tg R) X.xe s1) X.xe s
theorem K2 {M:Model} {tg:Expr} {it:Addr} {o:Obj} {n:String} {vs:Array Value} {Q:Unit->Shared->Prop} (ho:s.heap.get? it=some o) (hc:o.cls=.type n) (hd:o.data=.fields vs)
    (hn:["enumerate", "zip", "dict_itemiterator", "dict_reverseitemiterator", "odict_iterator", "itertools.zip_longest", "itertools.pairwise"].contains n=false) (hQ:Q () s):wpAny M A (letOwnedTupleGo tg (.ref it) u) Q E s:=by
  unfold letOwnedTupleGo
  cases tg <;> first
    | exact wpAny_pure hQ
    | (cases u <;> first
        | exact wpAny_pure hQ
        | (refine wpAny_bind (wpAny_load ho ?_)
           rw [hc,hd];show wpAny M A (if (["enumerate", "zip", "dict_itemiterator", "dict_reverseitemiterator", "odict_iterator", "itertools.zip_longest", "itertools.pairwise"].contains n && vs[0]? == some (rawInt _))=true then _ else _) Q E s;rw [if_neg (by intro h; rw [hn,Bool.false_and] at h; cases h)]
           exact wpAny_pure hQ))
noncomputable def Itl (K:FG) (a:Addr):It :=
 ⟨fun i H=>∃ xs x,SqL K H a xs/\xs[i]?=some x,fun i H x H'=>H'=H/\∀ xs,SqL K H a xs->xs[i]?=some x,fun i H=>∃ xs,SqL K H a xs/\xs.length <= i⟩
noncomputable def Itt (K:FG) (a:Addr):It :=
 ⟨fun i H=>∃ xs x,SqT K H a xs/\xs[i]?=some x,fun i H x H'=>H'=H/\∀ xs,SqT K H a xs->xs[i]?=some x,fun i H=>∃ xs,SqT K H a xs/\xs.length <= i⟩
noncomputable def Itr (lo:Int) (n:Nat):It:=⟨fun i _=>i < n,fun i H x H'=>H'=H/\x=.int (lo + i),fun i _=>n <= i⟩
theorem JR {tg:Expr} (a it:Addr):K1 P w K tg (Itl K a) [it] it (fun i h=>h.IsListIter it a i) where
 mem:=by simp
 obj:=fun i h st b hb=>by
  have e:b=it:=by simpa using hb
  subst e;obtain ⟨o,e,c,d⟩:=st;exact ⟨o,e,fun v z=>by rw [d] at z; cases z⟩
 keep:=fun i h h' st k=>st.at fun o e=>k it (by simp) o e
 item:=by
  intro X hP hw hK hc i aa s σ H E I hf st hg;subst hP hw hK;obtain ⟨xs,x,hq,hx⟩:=hg;obtain ⟨its,rv,p,hz⟩:=I.list hq;obtain ⟨u,hu,ru⟩:=rv.get hx;obtain ⟨f0,f1,f2,f3,f4,f5⟩:=hf it (by simp);refine wpAny_pyNext_list_item st p.isList (x:=u) (by simpa using hu) fun h' st' sb=>?_;have I1:Inv X aa σ H { s with heap:=h' }:=I.turned (t':=s.toks) (fun b o hb e=>(sb.2 b hb).trans e) f0 f1 f3 f4 f5;obtain ⟨o,e,c,d⟩:=id st';exact ⟨u,rfl,K2 (s:={ s with heap:=h' }) e c d (by decide) ⟨x,H,I1,ru,⟨rfl,fun ys hy=>by rw [I.list_inj hy hq]; exact hx⟩,st',fun b hb=>(hf b hb).1⟩⟩
 done:=by
  intro X hP hw hK hc i aa s σ H E I hf st hg;subst hP hw hK;obtain ⟨xs,hq,hx⟩:=hg;obtain ⟨its,rv,p,hz⟩:=I.list hq;obtain ⟨f0,f1,f2,f3,f4,f5⟩:=hf it (by simp);have hl:=rv.length;exact wpAny_pyNext_list_end (I.ok.hd hc) st p.isList (by simp; omega) fun h' eb=>⟨rfl,I.turned (t':=s.toks) (fun b o hb e=>eb b o hb e) f0 f1 f3 f4 f5⟩
 self:=fun _ _ _ _ _ st h=>wpAny_pyIter_listiter st h
theorem Me {tg:Expr} (a it:Addr):K1 P w K tg (Itt K a) [it] it (fun i h=>h.IsTupleIter it a i) where
 mem:=by simp
 obj:=fun i h st b hb=>by
  have e:b=it:=by simpa using hb
  subst e;obtain ⟨o,e,c,d⟩:=st;exact ⟨o,e,fun v z=>by rw [d] at z; cases z⟩
 keep:=fun i h h' st k=>st.at fun o e=>k it (by simp) o e
 item:=by
  intro X hP hw hK hc i aa s σ H E I hf st hg;subst hP hw hK;obtain ⟨xs,x,hq,hx⟩:=hg;obtain ⟨its,rv,p,hz⟩:=I.tuple hq;obtain ⟨u,hu,ru⟩:=rv.get hx;obtain ⟨f0,f1,f2,f3,f4,f5⟩:=hf it (by simp);refine wpAny_pyNext_tuple_item st (show s.heap.IsTuple a its.toArray from p) (x:=u) (by simpa using hu) fun h' st' sb=>?_;have I1:Inv X aa σ H { s with heap:=h' }:=I.turned (t':=s.toks) (fun b o hb e=>(sb.2 b hb).trans e) f0 f1 f3 f4 f5;obtain ⟨o,e,c,d⟩:=id st';exact ⟨u,rfl,K2 (s:={ s with heap:=h' }) e c d (by decide) ⟨x,H,I1,ru,⟨rfl,fun ys hy=>by rw [I.tuple_inj hy hq]; exact hx⟩,st',fun b hb=>(hf b hb).1⟩⟩
 done:=by
  intro X hP hw hK hc i aa s σ H E I hf st hg;subst hP hw hK;obtain ⟨xs,hq,hx⟩:=hg;obtain ⟨its,rv,p,hz⟩:=I.tuple hq;obtain ⟨f0,f1,f2,f3,f4,f5⟩:=hf it (by simp);have hl:=rv.length;exact wpAny_pyNext_tuple_end (I.ok.hd hc) st (show s.heap.IsTuple a its.toArray from p) (by simp; omega) fun h' eb=>⟨rfl,I.turned (t':=s.toks) (fun b o hb e=>eb b o hb e) f0 f1 f3 f4 f5⟩
 self:=fun _ _ _ _ _ st h=>wpAny_pyIter_tupleiter st h
theorem Mf {tg:Expr} (it:Addr) (lo:Int) (n:Nat):K1 P w K tg (Itr lo n) [it] it (fun i h=>IsRangeIter h it (lo + (i:Nat) * 1) ((n:Int) - (i:Nat)) 1) where
 mem:=by simp
 obj:=fun i h st b hb=>by
  have e:b=it:=by simpa using hb
  subst e
  exact ⟨_,st,fun v z=>by
   have z':Data.fields _=Data.cell v:=z
   cases z'⟩
 keep:=fun i h h' st k=>k it (by simp) _ st
 item:=by
  intro X hP hw hK hc i aa s σ H E I hf st hg;subst hP hw hK;obtain ⟨f0,f1,f2,f3,f4,f5⟩:=hf it (by simp);have W:=Walks.range (prog:=X.prog) (w:=X.w) (I.ok.hd hc) it lo 1 n;refine W.item i s _ _ hg st fun v h' tk hv st' kk=>?_;obtain ⟨t,rfl⟩:=hv;have I1:Inv X aa σ H { s with heap:=h',toks:=tk }:=I.turned (fun b o hb e=>kk b o (by simpa using hb) e) f0 f1 f3 f4 f5;refine ⟨_,rfl,K2 (s:={ s with heap:=h',toks:=tk }) (n := "range_iterator") st' rfl rfl (by decide) ⟨.int (lo + i),H,I1,⟨t,?_⟩,⟨rfl,rfl⟩,st',fun b hb=>(hf b hb).1⟩⟩;rw [Int.mul_one]
 done:=by
  intro X hP hw hK hc i aa s σ H E I hf st hg;subst hP hw hK;obtain ⟨f0,f1,f2,f3,f4,f5⟩:=hf it (by simp);exact wpAny_pyNext_range_end (I.ok.hd hc) st (by have:n <= i:=hg; omega) fun h' eb=>⟨rfl,I.turned (t':=s.toks) (fun b o hb e=>eb b o hb e) f0 f1 f3 f4 f5⟩
 self:=fun _ _ _ _ _ st h=>wpAny_pyIter_rangeiter st h
end L2
namespace L2
open PySem PySem.Spec PyProof.Rows
section
variable {tg:Expr}
def Tr (K:FG) (tl:TE):TI:=fun σ H R=>tl σ H fun x H1=>∃ a,x=.ref a/\(∃ xs,SqL K H1 a xs)/\R (Itl K a) H1
def WH (K:FG) (tl:TE):TI:=fun σ H R=>tl σ H fun x H1=>∃ a,x=.ref a/\(∃ xs,SqT K H1 a xs)/\R (Itt K a) H1
theorem A2 {l:Expr} {tl:TE} (hl:PE X l tl):PI X tg l (Tr X.K tl):=by
 intro aa s σ H R I h;refine thn (hl aa s σ H _ I h) fun v s1 ⟨x,H1,I1,r1,q1⟩=>?_;obtain ⟨a,e,⟨xs,hq⟩,q⟩:=q1;subst e;cases r1;obtain ⟨its,rv,p,hz⟩:=I1.list hq;refine wpAny_pyIter_list p.isList ?_;refine ⟨s1.heap.objs.size,[s1.heap.objs.size],_,_,H1,rfl,I1.kept (t':=s1.toks) fun b o e=>get?_push_of_some _ e,JR a _,⟨_,get?_push_size _ rfl,rfl,rfl⟩,fun b hb=>?_,q⟩;have e:b=s1.heap.objs.size:=by simpa using hb
 subst e;exact I1.fpOk (Nat.le_refl _) (I1.hok.fresh (Nat.le_refl _))
theorem HU {l:Expr} {tl:TE} (hl:PE X l tl):PI X tg l (WH X.K tl):=by
 intro aa s σ H R I h;refine thn (hl aa s σ H _ I h) fun v s1 ⟨x,H1,I1,r1,q1⟩=>?_;obtain ⟨a,e,⟨xs,hq⟩,q⟩:=q1;subst e;cases r1;obtain ⟨its,rv,p,hz⟩:=I1.tuple hq;refine wpAny_pyIter_tuple (show s1.heap.IsTuple a its.toArray from p) ?_;refine ⟨s1.heap.objs.size,[s1.heap.objs.size],_,_,H1,rfl,I1.kept (t':=s1.toks) fun b o e=>get?_push_of_some _ e,Me a _,⟨_,get?_push_size _ rfl,rfl,rfl⟩,fun b hb=>?_,q⟩;have e:b=s1.heap.objs.size:=by simpa using hb
 subst e;exact I1.fpOk (Nat.le_refl _) (I1.hok.fresh (Nat.le_refl _))
theorem QC {R:It->Hp->Prop} {lo hi:Int} {t u v:Tok} {tk:Nat} (I:Inv X aa σ H s) (h1:-(2 ^ 62) <= lo) (h2:lo < 2 ^ 62) (h3:-(2 ^ 62) <= hi) (h4:hi < 2 ^ 62)
  (q:R (Itr lo (hi - lo).toNat) H):wpAny (model X.prog X.w) X.A (pyIter (.ref s.heap.objs.size)) (PIE X aa σ tg R) E { s with heap:=s.heap.push { cls:=.type "range", data:=.fields #[.int lo t,.int hi u,.int 1 v] },toks:=tk }:=by
 refine wpAny_pyIter_range (IsRange.new ..) (small_one h1 h2 h3 h4) ?_;have I1:Inv X aa σ H { s with heap:=s.heap.push { cls:=.type "range", data:=.fields #[.int lo t,.int hi u,.int 1 v] },toks:=tk }:=I.kept fun b o e=>get?_push_of_some _ e
 refine ⟨(s.heap.push { cls:=.type "range", data:=.fields #[.int lo t,.int hi u,.int 1 v] }).objs.size,[(s.heap.push { cls:=.type "range", data:=.fields #[.int lo t,.int hi u,.int 1 v] }).objs.size],_,_,H,rfl,
  I1.kept (t':=tk) fun b o e=>get?_push_of_some _ e,Mf _ lo (hi - lo).toNat,?_,fun b hb=>?_,q⟩
 ·have e1:lo + ((0:Nat):Int) * 1=lo:=by simp
  have e2:(((hi - lo).toNat:Nat):Int) - ((0:Nat):Int)=Builtin.Range.rangeSize lo hi 1:=by rw [rangeSize_one]; split <;> omega
  show IsRangeIter _ _ (lo + ((0:Nat):Int) * 1) ((((hi - lo).toNat:Nat):Int) - ((0:Nat):Int)) 1;rw [e1,e2];exact get?_push_size _ rfl
 ·have e:b=(s.heap.push { cls:=.type "range", data:=.fields #[.int lo t,.int hi u,.int 1 v] }).objs.size:=by simpa using hb
  subst e;exact I1.fpOk (Nat.le_refl _) (I1.hok.fresh (Nat.le_refl _))
def VY (ta:TA):TI:=fun σ H R=>ta σ H fun vs H1=>∃ j:Int,vs=[.int j]/\-(2 ^ 62) <= j/\j < 2 ^ 62/\R (Itr 0 j.toNat) H1
theorem B6 {a:Expr} {ta:TA} {p:Pos} (hg:Gl X "range") (hm:X.mg "range" = none) (ha:PA X [a] ta) (hs:starEach [a] X.env=[(false,eval a X.env)]:=by rfl):PI X tg (.Call (.Name "range" p) [a] [] pos) (VY ta):=by
 intro aa s σ H R I h;refine Call_ (Ej I hg hm boot_range (PyProof.Rows.callWith_type1 (thn (ha pos aa s σ H _ I h) fun us s1 ⟨vs,H1,I1,r1,q1⟩=>?_) hs rfl));obtain ⟨j,e,q1,q2,q⟩:=q1;subst e;cases r1 with
 | cons r rr =>
  cases rr;obtain ⟨t,rfl⟩:=r;exact call_range_1 (QC I1 (by omega) (by omega) q1 q2 (by simpa using q))
def VZ (wi:TI) (g:TG) (tb:TS):TS:=fun D σ H=>wi σ H fun J H1=>∃ W:Nat->Nat->St->Hp->Prop,(∃ m,W 0 m σ H1)/\∀ i m σ H,W i m σ H ->
 (J.stop i H/\D.nx σ H)\/(J.go i H/\∃ N:St->Hp->Prop,(∀ σ' H',N σ' H'->∃ m',m' < m/\W (i + 1) m' σ' H')/\∀ x H',J.yld i H x H'->g x σ H' fun σ2 H2=>tb { D with nx:=N,ct:=N,bk:=D.nx } σ2 H2)
noncomputable def Cd (fp:List Addr) (h:Heap):LO:=fp.filterMap fun b=>(h.get? b).map fun o=>(b,o)
theorem B8 {fp:List Addr} {b:Addr} {o:Obj} (hb:b ∈ fp) (e:h.get? b=some o):(b,o) ∈ Cd fp h:=List.mem_filterMap.mpr ⟨b,hb,by rw [e]; rfl⟩
theorem F8 {fp:List Addr} {p:Addr × Obj} (hp:p ∈ Cd fp h):p.1 ∈ fp/\h.get? p.1=some p.2:=by
 obtain ⟨b,hb,e⟩:=List.mem_filterMap.mp hp;cases q:h.get? b with
 | none=>rw [q] at e; cases e
 | some o =>
  rw [q] at e;have e':(b,o)=p:=Option.some.inj e;subst e';exact ⟨hb,q⟩
theorem Inv.pinned {fp:List Addr} (I:Inv X aa σ H s) (hf:∀ b ∈ fp,Ek X aa H b) (ho:∀ b ∈ fp,∃ o,s.heap.get? b=some o/\∀ v,o.data ≠ .cell v):Inv X (aa++Cd fp s.heap) σ H s :=
 I.pins_of fun p hp=>(mem_append.mp hp).elim (fun z=>I.pin p (mem_append_right _ z)) fun z=>by
  obtain ⟨hb,e⟩:=F8 z;obtain ⟨f0,f1,f2,_⟩:=hf p.1 hb;obtain ⟨o,e',d⟩:=ho p.1 hb;rw [e] at e'; cases e';exact ⟨e,f0,f1,f2,d⟩
theorem Inv.unpinned {pl:LO} (I:Inv X (aa++pl) σ H s):Inv X aa σ H s:=I.pins_of fun p hp=>I.pin p (mem_append_right _ (mem_append_left _ hp))
theorem Bs {iter:Expr} {body:List Stmt} {wi:TI} {g:TG} {tb:TS} (hp:PassesOwn (model X.prog X.w) X.A X.env X.xe) (hc:X.calm=true) (hi:PI X tg iter wi) (hg:PG X tg g) (hb:PSs X body tb)
  (hs:∀ x,foldedSetIterable iter X.env x=pure x:=by intro _; rfl):PS X (.For tg iter body [] pos) (VZ wi g tb):=by
 intro aa s σ H D I h;refine wpAny_For (thn (hi aa s σ H _ I h) fun v s1 h1=>thn h1 fun itv s2 h2=>?_) hs;obtain ⟨it,fp,tn,J,H2,e,I2,T,st2,f2,W,⟨m0,w0⟩,turn⟩:=h2;subst e;have stat:∀ {H':Hp},(∀ b ∈ fp,H' b=none)->∀ b ∈ fp,Ek X aa H' b:=fun hn b hb=>⟨hn b hb,(f2 b hb).2⟩;refine codeAny_forLoop_any (fun n s'=>∃ i σ' H',Inv X aa σ' H' s'/\tn i s'.heap/\(∀ b ∈ fp,H' b=none)/\W i n σ' H') ?_ m0 ⟨0,σ,H2,I2,st2,fun b hb=>(f2 b hb).1,w0⟩;rintro n s3 ⟨i,σ3,H3,I3,st3,fr3,w3⟩;rcases turn i n σ3 H3 w3 with ⟨stop,qn⟩ | ⟨go,N,hN,step⟩
 ·refine wpAny_passesOwn hp (thn (T.done X rfl rfl rfl hc i aa s3 σ3 H3 X.xe I3 (stat fr3) st3 stop) fun r s4 ⟨hr,I4⟩=>?_);subst hr;exact wpAny_execs_nil ⟨σ3,H3,I4,qn⟩
 ·refine wpAny_passesOwn hp (thn (T.item X rfl rfl rfl hc i aa s3 σ3 H3 X.xe I3 (stat fr3) st3 go) fun r s4 ⟨u,hr,h4⟩=>?_);subst hr;refine wpAny_passesOwn hp (thn h4 fun _ s5 ⟨x,H5,I5,r5,y5,st5,fr5⟩=>?_);have I5':=I5.pinned (stat fr5) (T.obj _ _ st5);refine wpAny_passesOwn hp (thn (hg _ s5 σ3 H5 x u _ I5' r5 (step x H5 y5)) fun _ s6 ⟨σ6,H6,I6,q6⟩=>?_);refine wpAny_passesOwn hp (thn (hb _ s6 σ6 H6 _ I6 q6) fun f s7 q7=>?_)
  have again:∀ {σ7:St} {H7:Hp},Inv X (aa++Cd fp s5.heap) σ7 H7 s7->N σ7 H7->∃ m,m < n/\∃ i σ' H',Inv X aa σ' H' s7/\tn i s7.heap/\(∀ b ∈ fp,H' b=none)/\W i m σ' H':=fun {σ7 H7} I7 n7=>by
   obtain ⟨m',hm,w7⟩:=hN σ7 H7 n7;refine ⟨m',hm,i + 1,σ7,H7,I7.unpinned,T.keep _ _ _ st5 fun b hb o e=>(I7.pin (b,o) (mem_append_right _ (mem_append_right _ (B8 hb e)))).1,fun b hb=>?_,w7⟩;obtain ⟨o,e,d⟩:=T.obj _ _ st5 b hb;exact (I7.pin (b,o) (mem_append_right _ (mem_append_right _ (B8 hb e)))).2.1
  cases f with
  | next=>obtain ⟨σ7,H7,I7,n7⟩:=q7; exact again I7 n7
  | cont=>obtain ⟨σ7,H7,I7,n7⟩:=q7; exact again I7 n7
  | brk=>obtain ⟨σ7,H7,I7,q7⟩:=q7; exact ⟨σ7,H7,I7.unpinned,q7⟩
  | ret v=>obtain ⟨x7,σ7,H7,I7,r7,q7⟩:=q7; exact ⟨x7,σ7,H7,I7.unpinned,r7,q7⟩
end
theorem Ba {g:TG} {tb:TS} {D:Df} (Pv:Nat->St->Hp->Prop) (h0:Pv 0 σ H) (hl:∀ i σ H,i <= xs.length->Pv i σ H->SqL K H a xs)
  (hs:∀ i x σ H,xs[i]?=some x->Pv i σ H->g x σ H fun σ2 H2=>tb { D with nx:=Pv (i + 1),ct:=Pv (i + 1),bk:=D.nx } σ2 H2) (hd:∀ σ H,Pv xs.length σ H->D.nx σ H) :
  ∃ W:Nat->Nat->St->Hp->Prop,(∃ m,W 0 m σ H)/\∀ i m σ H,W i m σ H ->
   ((Itl K a).stop i H/\D.nx σ H)\/((Itl K a).go i H/\∃ N:St->Hp->Prop,(∀ σ' H',N σ' H'->∃ m',m' < m/\W (i + 1) m' σ' H')/\∀ x H',(Itl K a).yld i H x H'->g x σ H' fun σ2 H2=>tb { D with nx:=N,ct:=N,bk:=D.nx } σ2 H2):=by
 refine ⟨fun i m σ H=>m=xs.length - i/\i <= xs.length/\Pv i σ H,⟨xs.length,by simp,Nat.zero_le _,h0⟩,?_⟩;rintro i m σ H ⟨rfl,hi,p⟩;have q:=hl i σ H hi p;by_cases hlt:i < xs.length
 ·refine .inr ⟨⟨xs,xs[i],q,by simp [hlt]⟩,Pv (i + 1),fun σ' H' p'=>⟨xs.length - (i + 1),by omega,rfl,hlt,p'⟩,fun x H' y=>?_⟩;obtain ⟨e,y⟩:=y;subst e;exact hs i x σ _ (y xs q) p
 ·have e:i=xs.length:=by omega
  subst e;exact .inl ⟨⟨xs,q,Nat.le_refl _⟩,hd σ H p⟩
theorem SY {g:TG} {tb:TS} {D:Df} (Pv:Nat->St->Hp->Prop) (h0:Pv 0 σ H) (hl:∀ i σ H,i <= xs.length->Pv i σ H->SqT K H a xs)
  (hs:∀ i x σ H,xs[i]?=some x->Pv i σ H->g x σ H fun σ2 H2=>tb { D with nx:=Pv (i + 1),ct:=Pv (i + 1),bk:=D.nx } σ2 H2) (hd:∀ σ H,Pv xs.length σ H->D.nx σ H) :
  ∃ W:Nat->Nat->St->Hp->Prop,(∃ m,W 0 m σ H)/\∀ i m σ H,W i m σ H ->
   ((Itt K a).stop i H/\D.nx σ H)\/((Itt K a).go i H/\∃ N:St->Hp->Prop,(∀ σ' H',N σ' H'->∃ m',m' < m/\W (i + 1) m' σ' H')/\∀ x H',(Itt K a).yld i H x H'->g x σ H' fun σ2 H2=>tb { D with nx:=N,ct:=N,bk:=D.nx } σ2 H2):=by
 refine ⟨fun i m σ H=>m=xs.length - i/\i <= xs.length/\Pv i σ H,⟨xs.length,by simp,Nat.zero_le _,h0⟩,?_⟩;rintro i m σ H ⟨rfl,hi,p⟩;have q:=hl i σ H hi p;by_cases hlt:i < xs.length
 ·refine .inr ⟨⟨xs,xs[i],q,by simp [hlt]⟩,Pv (i + 1),fun σ' H' p'=>⟨xs.length - (i + 1),by omega,rfl,hlt,p'⟩,fun x H' y=>?_⟩;obtain ⟨e,y⟩:=y;subst e;exact hs i x σ _ (y xs q) p
 ·have e:i=xs.length:=by omega
  subst e;exact .inl ⟨⟨xs,q,Nat.le_refl _⟩,hd σ H p⟩
theorem JS {lo:Int} {n:Nat} {g:TG} {tb:TS} {D:Df} (Pv:Nat->St->Hp->Prop) (h0:Pv 0 σ H)
  (hs:∀ i σ H,i < n->Pv i σ H->g (.int (lo + i)) σ H fun σ2 H2=>tb { D with nx:=Pv (i + 1),ct:=Pv (i + 1),bk:=D.nx } σ2 H2) (hd:∀ σ H,Pv n σ H->D.nx σ H) :
  ∃ W:Nat->Nat->St->Hp->Prop,(∃ m,W 0 m σ H)/\∀ i m σ H,W i m σ H ->
   ((Itr lo n).stop i H/\D.nx σ H)\/((Itr lo n).go i H/\∃ N:St->Hp->Prop,(∀ σ' H',N σ' H'->∃ m',m' < m/\W (i + 1) m' σ' H')/\∀ x H',(Itr lo n).yld i H x H'->g x σ H' fun σ2 H2=>tb { D with nx:=N,ct:=N,bk:=D.nx } σ2 H2):=by
 refine ⟨fun i m σ H=>m=n - i/\i <= n/\Pv i σ H,⟨n,by simp,Nat.zero_le _,h0⟩,?_⟩;rintro i m σ H ⟨rfl,hi,p⟩;by_cases hlt:i < n
 ·refine .inr ⟨hlt,Pv (i + 1),fun σ' H' p'=>⟨n - (i + 1),by omega,rfl,hlt,p'⟩,fun x H' y=>?_⟩;obtain ⟨e,y⟩:=y;subst e y;exact hs i σ _ hlt p
 ·have e:i=n:=by omega
  subst e;exact .inl ⟨Nat.le_refl _,hd σ H p⟩
theorem QD {c:TT} {tb:TS} {D:Df} (Pv:St->Hp->Prop) (μ:St->Hp->Nat) (h0:Pv σ H)
  (hs:∀ σ H,Pv σ H->c σ H fun b H1=>if b=true then tb { D with nx:=fun σ' H'=>Pv σ' H'/\μ σ' H' < μ σ H,ct:=fun σ' H'=>Pv σ' H'/\μ σ' H' < μ σ H,bk:=D.nx } σ H1 else D.nx σ H1)
  (mono:∀ σ H Q Q',(∀ b H1,Q b H1->Q' b H1)->c σ H Q->c σ H Q'):QA c tb D σ H:=by
 refine ⟨fun m σ H=>m=μ σ H/\Pv σ H,⟨_,rfl,h0⟩,?_⟩;rintro m σ H ⟨rfl,p⟩;refine mono σ H _ _ (fun b H1 q=>?_) (hs σ H p);cases b with
 | true=>exact ⟨_,fun σ' H' ⟨p',l⟩=>⟨_,l,rfl,p'⟩,q⟩
 | false=>exact q
end L2
namespace L2
open PySem PySem.Spec PyProof.Rows
abbrev R2:=V->V->Hp->VK->Prop
def OpR (X:Cx) (f:Value->Value->Sem Value) (r:R2):Prop :=
 ∀ (aa:LO) (s:Shared) (σ:St) (H:Hp) (x y:V) (v u:Value) (Q:VK),Inv X aa σ H s->RelV x v->RelV y u->r x y H Q ->
  wpAny (model X.prog X.w) X.A (f v u) (EP X aa σ Q) X.xe s
def UnR (X:Cx) (f:Value->Sem Value) (r:V->Hp->VK->Prop):Prop :=
 ∀ (aa:LO) (s:Shared) (σ:St) (H:Hp) (x:V) (v:Value) (Q:VK),Inv X aa σ H s->RelV x v->r x H Q ->
  wpAny (model X.prog X.w) X.A (f v) (EP X aa σ Q) X.xe s
def Bk (X:Cx) (f:Value) (r:List V->Hp->VK->Prop):Prop :=
 ∀ (aa:LO) (s:Shared) (σ:St) (H:Hp) (xs:List V) (us:List Value) (Q:VK),Inv X aa σ H s->Vals xs us->r xs H Q ->
  wpAny (model X.prog X.w) X.A (call f us) (EP X aa σ Q) X.xe s
def tOp (r:R2) (ta tb:TE):TE:=fun σ H Q=>ta σ H fun x H1=>tb σ H1 fun y H2=>r x y H2 Q
def tUn (r:V->Hp->VK->Prop) (ta:TE):TE:=fun σ H Q=>ta σ H fun x H1=>r x H1 Q
def rI (C:Int->Int->Prop) (g:Int->Int->V):R2:=fun x y H Q=>∃ i j,x=.int i/\y=.int j/\C i j/\Q (g i j) H
def rI0 (g:Int->Int->V):R2:=fun x y H Q=>∃ i j,x=.int i/\y=.int j/\Q (g i j) H
def rU (g:Int->V):V->Hp->VK->Prop:=fun x H Q=>∃ i,x=.int i/\Q (g i) H
section
variable {a b c:Expr} {ta tb tc:TE}
theorem UI (ha:PE X a ta) (hb:PE X b tb) {R:V->V->Hp->Prop} (I:Inv X aa σ H s)
  (h:ta σ H fun x H1=>tb σ H1 fun y H2=>R x y H2) {Q:VS} {f:Value->Value->Sem Value}
  (hf:∀ v u s2 x y H2,Inv X aa σ H2 s2->RelV x v->RelV y u->R x y H2->wpAny (model X.prog X.w) X.A (f v u) Q X.xe s2) :
  wpAny (model X.prog X.w) X.A (eval a X.env) (fun v s₁=>wpAny (model X.prog X.w) X.A (eval b X.env) (fun u s₂=>wpAny (model X.prog X.w) X.A (f v u) Q X.xe s₂) X.xe s₁) X.xe s:=by
 refine thn (ha aa s σ H _ I h) fun v s1 ⟨x,H1,I1,r1,q1⟩=>?_;refine thn (hb aa s1 σ H1 _ I1 q1) fun u s2 ⟨y,H2,I2,r2,q2⟩=>?_;exact hf v u s2 x y H2 I2 r1 r2 q2
theorem Af {op:Operator} {r:R2} (ho:OpR X (binaryOp op) r) (ha:PE X a ta) (hb:PE X b tb):PE X (.BinOp a op b pos) (tOp r ta tb):=by
 intro aa s σ H Q I h;exact wpAny_BinOp (UI ha hb I h fun v u s2 x y H2 I2 rx ry q=>ho aa s2 σ H2 x y v u Q I2 rx ry q)
theorem K4 {op:UnaryOp} {r:V->Hp->VK->Prop} (ho:UnR X (unaryOp op) r) (ha:PE X a ta):PE X (.UnaryOp op a pos) (tUn r ta):=by
 intro aa s σ H Q I h;exact UnaryOp_ (thn (ha aa s σ H _ I h) fun v s1 ⟨x,H1,I1,r1,q1⟩=>ho aa s1 σ H1 x v Q I1 r1 q1)
theorem opI {f:Value->Value->Sem Value} {C:Int->Int->Prop} {g:Int->Int->Int}
  (rule:∀ (i j:Int) (t u:Tok) (s:Shared) (Q:VS) (E:VS),C i j->Q (.int (g i j) s.toks) { s with toks:=s.toks + 1 }->wpAny (model X.prog X.w) X.A (f (.int i t) (.int j u)) Q E s) :
  OpR X f (rI C fun i j=>.int (g i j)):=by
 intro aa s σ H x y v u Q I rx ry h;obtain ⟨i,j,rfl,rfl,hc,q⟩:=h;obtain ⟨t,rfl⟩:=rx;obtain ⟨t',rfl⟩:=ry;exact rule i j t t' s _ _ hc ⟨.int (g i j),H,I.tok _,⟨_,rfl⟩,q⟩
theorem QE {f:Value->Value->Sem Value} {g:Int->Int->Int}
  (rule:∀ (i j:Int) (t u:Tok) (s:Shared) (Q:VS) (E:VS),Q (.int (g i j) s.toks) { s with toks:=s.toks + 1 }->wpAny (model X.prog X.w) X.A (f (.int i t) (.int j u)) Q E s) :
  OpR X f (rI0 fun i j=>.int (g i j)):=by
 intro aa s σ H x y v u Q I rx ry h;obtain ⟨i,j,rfl,rfl,q⟩:=h;obtain ⟨t,rfl⟩:=rx;obtain ⟨t',rfl⟩:=ry;exact rule i j t t' s _ _ ⟨.int (g i j),H,I.tok _,⟨_,rfl⟩,q⟩
theorem SZ {f:Value->Value->Sem Value} {g:Int->Int->Bool}
  (rule:∀ (i j:Int) (t u:Tok) (s:Shared) (Q:VS) (E:VS),Q (.bool (g i j)) s->wpAny (model X.prog X.w) X.A (f (.int i t) (.int j u)) Q E s) :
  OpR X f (rI0 fun i j=>.bl (g i j)):=by
 intro aa s σ H x y v u Q I rx ry h;obtain ⟨i,j,rfl,rfl,q⟩:=h;obtain ⟨t,rfl⟩:=rx;obtain ⟨t',rfl⟩:=ry;exact rule i j t t' s _ _ ⟨.bl (g i j),H,I,rfl,q⟩
def WI (i j:Int):Prop:=0 < j/\j < 1073741824
def UJ (i j:Int):Prop:=0 <= j/\j <= 1000000/\i.natAbs < 2 ^ 64
def CMul (i j:Int):Prop:=(-(2 ^ 64) < i/\i < 2 ^ 64)\/(-(2 ^ 64) < j/\j < 2 ^ 64)
theorem CMul.ok {i j:Int} (h:CMul i j):IntMulOk i j:=by
 rcases h with ⟨h1,h2⟩ | ⟨h1,h2⟩
 ·exact .of_left (intBits_le_64 h1 h2)
 ·exact .of_right (intBits_le_64 h1 h2)
theorem Mg (k:Nat):(0:Int) <= 2 ^ k:=by
 rw [two_pow_cast];exact Int.natCast_nonneg _
theorem DK:OpR X (binaryOp .Add) (rI0 fun i j=>.int (i + j)):=QE fun _ _ _ _ _ _ _ q=>add_int q
theorem Mh:OpR X (binaryOp .Sub) (rI0 fun i j=>.int (i - j)):=QE fun _ _ _ _ _ _ _ q=>sub_int q
theorem HV:OpR X (binaryOp .Mult) (rI CMul fun i j=>.int (i * j)):=opI fun _ _ _ _ _ _ _ hc q=>mul_int q hc.ok
theorem J9:OpR X (binaryOp .FloorDiv) (rI WI fun i j=>.int (i / j)):=opI fun i j _ _ _ _ _ hc q=>by
 have h1:(0:Int) < j:=hc.1;have h2:j < 1073741824:=hc.2;exact floordiv_int (by omega) (by rw [Int.fdiv_eq_ediv_of_nonneg i (by omega)]; exact q) (.inl (PyProof.noPylong_small (by omega)))
theorem El:OpR X (binaryOp .Mod) (rI (fun _ j=>0 < j) fun i j=>.int (i % j)):=opI fun i j _ _ _ _ _ hc q=>by
 have h1:(0:Int) < j:=hc;exact mod_int' (by omega) (by rw [Int.fmod_eq_emod_of_nonneg i (by omega)]; exact q)
theorem Mi:OpR X (binaryOp .Pow) (rI UJ fun i j=>.int (i ^ j.toNat)):=opI fun _ _ _ _ _ _ _ hc q=>pow_int_small hc.1 hc.2.1 hc.2.2 q
theorem KD:OpR X (binaryOp .LShift) (rI UJ fun i j=>.int (i * 2 ^ j.toNat)):=opI fun _ _ _ _ _ _ _ hc q=>lshift_int_small hc.1 hc.2.1 hc.2.2 q
theorem UK:OpR X (binaryOp .RShift) (rI (fun _ j=>0 <= j) fun i j=>.int (i / 2 ^ j.toNat)):=opI fun i j _ _ _ _ _ hc q =>
 rshift_int hc (by rw [Int.fdiv_eq_ediv_of_nonneg i (Mg _)]; exact q)
theorem DL:OpR X (binaryOp .BitAnd) (rI0 fun i j=>.int (Builtin.bitAnd i j)):=QE fun _ _ _ _ _ _ _ q=>and_int q
theorem K5:OpR X (binaryOp .BitOr) (rI0 fun i j=>.int (Builtin.bitOr i j)):=QE fun _ _ _ _ _ _ _ q=>or_int q
theorem UL:OpR X (inplaceOp .BitOr) (rI0 fun i j=>.int (Builtin.bitOr i j)):=QE fun _ _ _ _ _ _ _ q=>ior_int q
theorem unI {f:Value->Sem Value} {g:Int->Int}
  (rule:∀ (i:Int) (t:Tok) (s:Shared) (Q:VS) (E:VS),Q (.int (g i) s.toks) { s with toks:=s.toks + 1 }->wpAny (model X.prog X.w) X.A (f (.int i t)) Q E s) :
  UnR X f (rU fun i=>.int (g i)):=by
 intro aa s σ H x v Q I rx h;obtain ⟨i,rfl,q⟩:=h;obtain ⟨t,rfl⟩:=rx;exact rule i t s _ _ ⟨.int (g i),H,I.tok _,⟨_,rfl⟩,q⟩
theorem QF:UnR X (unaryOp .USub) (rU fun i=>.int (-i)):=unI fun _ _ _ _ _ q=>neg_int q
theorem Mj:UnR X (unaryOp .Invert) (rU fun i=>.int (Builtin.bitNot i)):=unI fun _ _ _ _ _ q=>invert_int q
end
noncomputable def Va:V->V->Bool
 | .non,.non=>true | .non,.int _=>true | .int _,.non=>true | .non,.bl _=>true | .bl _,.non=>true | .non,.str _=>true | .str _,.non=>true
 | .int _,.int _=>true | .bl _,.bl _=>true | .str _,.str _=>true | .byt _,.byt _=>true
 | .int _,.str _=>true | .str _,.int _=>true | .bl _,.str _=>true | .str _,.bl _=>true
 | _,_=>false
def rEq:R2:=fun x y H Q=>Va x y=true/\Q (.bl (decide (x=y))) H
def rNe:R2:=fun x y H Q=>Va x y=true/\Q (.bl (!decide (x=y))) H
theorem Nq {i j:Int}:decide (V.int i=V.int j)=(i == j):=by
 rw [Bool.eq_iff_iff];simp
theorem QG {i j:Bool}:decide (V.bl i=V.bl j)=(i == j):=by
 rw [Bool.eq_iff_iff];simp
theorem Nr {i j:Str}:decide (V.str i=V.str j)=(i == j):=by
 rw [Bool.eq_iff_iff];simp
theorem Nt {i j:Array UInt8}:decide (V.byt i=V.byt j)=(i.toList == j.toList):=by
 rw [Bool.eq_iff_iff];cases i;cases j;simp
section
variable {a b c:Expr} {ta tb tc:TE}
theorem As {Q:VK} {k k':Bool} (I:Inv X aa σ H s) (q:Q (.bl k) H) (e:k=k'):EP X aa σ Q (.bool k') s:=by
 subst e;exact ⟨.bl k,H,I,rfl,q⟩
theorem Dj:OpR X (compareOp .Eq) rEq:=by
 intro aa s σ H x y v u Q I rx ry h;obtain ⟨hs,q⟩:=h;cases x with
 | non =>
  cases rx;cases y with
  | non=>cases ry; exact PySem.EqNone.eq_none_none (As I q (by simp))
  | bl j=>cases ry; exact PySem.EqNone.eq_none_bool (As I q (by simp))
  | int j=>obtain ⟨t',rfl⟩:=ry; exact PySem.EqNone.eq_none_int (As I q (by simp))
  | str j=>obtain ⟨t',rfl⟩:=ry; exact PySem.EqNone.eq_none_str (As I q (by simp))
  | _=>exact absurd (show false=true from hs) Bool.false_ne_true
 | bl i =>
  cases rx;cases y with
  | non=>cases ry; exact PySem.EqNone.eq_bool_none (As I q (by simp))
  | bl j=>cases ry; exact eq_bool (As I q QG)
  | str j=>obtain ⟨t',rfl⟩:=ry; exact PySem.EqMixed.eq_bool_str (As I q (by simp))
  | _=>exact absurd (show false=true from hs) Bool.false_ne_true
 | int i =>
  obtain ⟨t,rfl⟩:=rx;cases y with
  | non=>cases ry; exact PySem.EqNone.eq_int_none (As I q (by simp))
  | int j=>obtain ⟨t',rfl⟩:=ry; exact eq_int (As I q Nq)
  | str j=>obtain ⟨t',rfl⟩:=ry; exact PySem.EqMixed.eq_int_str (As I q (by simp))
  | _=>exact absurd (show false=true from hs) Bool.false_ne_true
 | str i =>
  obtain ⟨t,rfl⟩:=rx;cases y with
  | non=>cases ry; exact PySem.EqNone.eq_str_none (As I q (by simp))
  | bl j=>cases ry; exact PySem.EqMixed.eq_str_bool (As I q (by simp))
  | int j=>obtain ⟨t',rfl⟩:=ry; exact PySem.EqMixed.eq_str_int (As I q (by simp))
  | str j=>obtain ⟨t',rfl⟩:=ry; exact eq_str (As I q Nr)
  | _=>exact absurd (show false=true from hs) Bool.false_ne_true
 | byt i =>
  obtain ⟨t,rfl⟩:=rx;cases y with
  | byt j=>obtain ⟨t',rfl⟩:=ry; exact W.eq_bytes (As I q Nt)
  | _=>exact absurd (show false=true from hs) Bool.false_ne_true
 | _=>cases y <;> exact absurd (show false=true from hs) Bool.false_ne_true
theorem Dk:OpR X (compareOp .NotEq) rNe:=by
 intro aa s σ H x y v u Q I rx ry h;obtain ⟨hs,q⟩:=h;cases x with
 | non =>
  cases rx;cases y with
  | non=>cases ry; exact PySem.EqNone.ne_none_none (As I q (by simp))
  | bl j=>cases ry; exact PySem.EqNone.ne_none_bool (As I q (by simp))
  | int j=>obtain ⟨t',rfl⟩:=ry; exact PySem.EqNone.ne_none_int (As I q (by simp))
  | str j=>obtain ⟨t',rfl⟩:=ry; exact PySem.EqNone.ne_none_str (As I q (by simp))
  | _=>exact absurd (show false=true from hs) Bool.false_ne_true
 | bl i =>
  cases rx;cases y with
  | non=>cases ry; exact PySem.EqNone.ne_bool_none (As I q (by simp))
  | bl j=>cases ry; exact ne_bool (As I q (congrArg not QG))
  | str j=>obtain ⟨t',rfl⟩:=ry; exact PySem.EqMixed.ne_bool_str (As I q (by simp))
  | _=>exact absurd (show false=true from hs) Bool.false_ne_true
 | int i =>
  obtain ⟨t,rfl⟩:=rx;cases y with
  | non=>cases ry; exact PySem.EqNone.ne_int_none (As I q (by simp))
  | int j=>obtain ⟨t',rfl⟩:=ry; exact ne_int (As I q (congrArg not Nq))
  | str j=>obtain ⟨t',rfl⟩:=ry; exact PySem.EqMixed.ne_int_str (As I q (by simp))
  | _=>exact absurd (show false=true from hs) Bool.false_ne_true
 | str i =>
  obtain ⟨t,rfl⟩:=rx;cases y with
  | non=>cases ry; exact PySem.EqNone.ne_str_none (As I q (by simp))
  | bl j=>cases ry; exact PySem.EqMixed.ne_str_bool (As I q (by simp))
  | int j=>obtain ⟨t',rfl⟩:=ry; exact PySem.EqMixed.ne_str_int (As I q (by simp))
  | str j=>obtain ⟨t',rfl⟩:=ry; exact ne_str (As I q (congrArg not Nr))
  | _=>exact absurd (show false=true from hs) Bool.false_ne_true
 | byt i =>
  obtain ⟨t,rfl⟩:=rx;cases y with
  | byt j=>obtain ⟨t',rfl⟩:=ry; exact W.ne_bytes (As I q (congrArg not Nt))
  | _=>exact absurd (show false=true from hs) Bool.false_ne_true
 | _=>cases y <;> exact absurd (show false=true from hs) Bool.false_ne_true
theorem Nu:OpR X (compareOp .Lt) (rI0 fun i j=>.bl (decide (i < j))):=SZ fun _ _ _ _ _ _ _ q=>lt_int q
theorem FM:OpR X (compareOp .LtE) (rI0 fun i j=>.bl (decide (i <= j))):=SZ fun _ _ _ _ _ _ _ q=>le_int q
theorem K6:OpR X (compareOp .Gt) (rI0 fun i j=>.bl (decide (j < i))):=SZ fun _ _ _ _ _ _ _ q=>gt_int q
theorem QH:OpR X (compareOp .GtE) (rI0 fun i j=>.bl (decide (j <= i))):=SZ fun _ _ _ _ _ _ _ q=>ge_int q
theorem Ad (b:Expr) {op:CmpOp} (h:op ≠ .In:=by decide) (h2:op ≠ .NotIn:=by decide):behindInMarks op b=false:=by
 have e1:(op == CmpOp.In)=false:=by cases op <;> first | rfl | exact absurd rfl h
 have e2:(op == CmpOp.NotIn)=false:=by cases op <;> first | rfl | exact absurd rfl h2
 cases b <;> simp [behindInMarks,e1,e2]
theorem Co {op:CmpOp} {r:R2} (ho:OpR X (compareOp op) r) (ha:PE X a ta) (hb:PE X b tb) (hm:behindInMarks op b=false):PE X (.Compare a [op] [b] pos) (tOp r ta tb):=by
 intro aa s σ H Q I h;exact wpAny_Compare1 (UI ha hb I h fun v u s2 x y H2 I2 rx ry q=>ho aa s2 σ H2 x y v u Q I2 rx ry q) hm
def Ts (t:TE):TT:=fun σ H Q=>t σ H fun x H'=>∃ k,x=.bl k/\Q k H'
theorem AY {op:CmpOp} {r:R2} (ho:OpR X (compareOp op) r) (ha:PE X a ta) (hb:PE X b tb) (hm:behindInMarks op b=false):PT X (.Compare a [op] [b] pos) (Ts (tOp r ta tb)):=by
 intro aa s σ H Q I h
 refine wpAny_isTrue_Compare1 (thn (ha aa s σ H _ I h) fun v s1 ⟨x,H1,I1,r1,q1⟩=>thn (hb aa s1 σ H1 _ I1 q1) fun u s2 ⟨y,H2,I2,r2,q2⟩ =>
  thn (ho aa s2 σ H2 x y v u _ I2 r1 r2 q2) fun c s3 ⟨z,H3,I3,r3,k,e,q3⟩=>?_) hm
 subst e;cases r3;exact wpAny_truthy_bool ⟨H3,I3,q3⟩
def QI (r r':R2) (ta tb tc:TE):TE:=fun σ H Q=>ta σ H fun x H1=>tb σ H1 fun y H2=>r x y H2 fun z H3=>∃ k,z=.bl k /\
 (if k=true then tc σ H3 fun w' H4=>r' y w' H4 Q else Q (.bl false) H3)
theorem K8 {op op':CmpOp} {r r':R2} (ho:OpR X (compareOp op) r) (ho':OpR X (compareOp op') r') (ha:PE X a ta) (hb:PE X b tb) (hc:PE X c tc)
  (hm:lastMarks [op,op'] [b,c]=false:=by with_unfolding_all rfl):PE X (.Compare a [op,op'] [b,c] pos) (QI r r' ta tb tc):=by
 intro aa s σ H Q I h
 refine Compare_chain (thn (ha aa s σ H _ I h) fun v s1 ⟨x,H1,I1,r1,q1⟩=>chain_link (thn (hb aa s1 σ H1 _ I1 q1) fun u s2 ⟨y,H2,I2,r2,q2⟩ =>
  thn (ho aa s2 σ H2 x y v u _ I2 r1 r2 q2) fun d s3 ⟨z,H3,I3,r3,k,e,q3⟩=>?_)) hm
 subst e;cases r3;refine wpAny_truthy_bool ?_;cases k with
 | false=>exact ite_ff ⟨.bl false,H3,I3,rfl,q3⟩
 | true=>exact ite_tt (chain_last (thn (hc aa s3 σ H3 _ I3 q3) fun w' s4 ⟨z',H4,I4,r4,q4⟩=>ho' aa s4 σ H4 y z' u w' Q I4 r2 r4 q4))
theorem FN {op op':CmpOp} {r r':R2} (ho:OpR X (compareOp op) r) (ho':OpR X (compareOp op') r') (ha:PE X a ta) (hb:PE X b tb) (hc:PE X c tc)
  (hm:lastMarks [op,op'] [b,c]=false:=by with_unfolding_all rfl):PT X (.Compare a [op,op'] [b,c] pos) (Ts (QI r r' ta tb tc)):=by
 intro aa s σ H Q I h
 refine isTrue_chain (thn (ha aa s σ H _ I h) fun v s1 ⟨x,H1,I1,r1,q1⟩=>test_link (thn (hb aa s1 σ H1 _ I1 q1) fun u s2 ⟨y,H2,I2,r2,q2⟩ =>
  thn (ho aa s2 σ H2 x y v u _ I2 r1 r2 q2) fun d s3 ⟨z,H3,I3,r3,k,e,q3⟩=>?_)) hm
 subst e;cases r3;refine wpAny_truthy_bool ?_;cases k with
 | false =>
  obtain ⟨k',e',q'⟩:=q3;cases e';exact ite_ff ⟨H3,I3,q'⟩
 | true =>
  refine ite_tt (test_last (thn (hc aa s3 σ H3 _ I3 q3) fun w' s4 ⟨z',H4,I4,r4,q4⟩=>thn (ho' aa s4 σ H4 y z' u w' _ I4 r2 r4 q4) fun d' s5 ⟨z2,H5,I5,r5,k2,e2,q5⟩=>?_));subst e2;cases r5;exact wpAny_truthy_bool ⟨H5,I5,q5⟩
theorem HW:(sizeLine:Nat) < 2 ^ 63:=by rw [sizeLine_eq]; decide
theorem CM {x:V} (r:Vals [x] us):∃ u,us=[u]/\RelV x u:=by
 cases r with
 | cons r1 r2=>cases r2; exact ⟨_,rfl,r1⟩
theorem FO {x y:V} (r:Vals [x,y] us):∃ u w',us=[u,w']/\RelV x u/\RelV y w':=by
 cases r with
 | cons r1 r2 =>
  cases r2 with
  | cons r3 r4=>cases r4; exact ⟨_,_,rfl,r1,r3⟩
theorem Of (hc:X.calm=true):Bk X (.builtin "max") (fun xs H Q=>∃ i j,xs=[.int i,.int j]/\Q (.int (if j > i then j else i)) H):=by
 intro aa s σ H xs us Q I r h;obtain ⟨i,j,rfl,q⟩:=h;obtain ⟨u,w',rfl,⟨t,rfl⟩,⟨t',rfl⟩⟩:=FO r;refine max_two_ints (I.ok.hd hc) fun h' tk k=>⟨_,H,I.kept k,?_,q⟩;by_cases hj:j > i
 ·rw [if_pos hj,if_pos hj]; exact ⟨_,rfl⟩
 ·rw [if_neg hj,if_neg hj]; exact ⟨_,rfl⟩
theorem Og (hc:X.calm=true):Bk X (.builtin "min") (fun xs H Q=>∃ i j,xs=[.int i,.int j]/\Q (.int (if j < i then j else i)) H):=by
 intro aa s σ H xs us Q I r h;obtain ⟨i,j,rfl,q⟩:=h;obtain ⟨u,w',rfl,⟨t,rfl⟩,⟨t',rfl⟩⟩:=FO r;refine min_two_ints (I.ok.hd hc) fun h' tk k=>⟨_,H,I.kept k,?_,q⟩;by_cases hj:j < i
 ·rw [if_pos hj,if_pos hj]; exact ⟨_,rfl⟩
 ·rw [if_neg hj,if_neg hj]; exact ⟨_,rfl⟩
theorem Oh:Bk X (.type "int") (fun xs H Q=>(∃ i,xs=[.int i]/\Q (.int i) H)\/∃ k,xs=[.bl k]/\Q (.int (if k then 1 else 0)) H):=by
 intro aa s σ H xs us Q I r h;rcases h with ⟨i,rfl,q⟩ | ⟨k,rfl,q⟩
 ·obtain ⟨u,rfl,t,rfl⟩:=CM r;exact call_int_int ⟨.int i,H,I,⟨_,rfl⟩,q⟩
 ·obtain ⟨u,rfl,r1⟩:=CM r;cases r1;exact call_int_bool ⟨.int (if k then 1 else 0),H,I.tok _,⟨_,rfl⟩,q⟩
end
end L2
namespace L2
open PySem PySem.Spec PyProof.Rows
structure ObjM (h:Heap) (x dx C:Addr) (mA:SV):Prop where
 obj:h.get? x=some (W.instObj C dx)
 ns:h.Ns1 dx mA
 ne:dx ≠ x
theorem JT {dx:Addr} {mA:SV} (n:h.Ns1 dx mA):∃ od,h.get? dx=some od/\∀ name,W.lookIn name od=some (mA name):=by
 obtain ⟨o,es,ep,ho,hd,hk,_,hm⟩:=n;refine ⟨o,ho,fun name=>?_⟩;have e:=hm name;unfold nsFind findBy at e;rw [← Array.find?_toList] at e;unfold W.lookIn;rw [hd]
 dsimp only
 split
 ·rename_i y q;rw [q] at e;exact congrArg some e
 ·rename_i q;rw [q] at e
  have a:es.toList.any (·.refKey)=false:=by
   rw [List.any_eq_false];intro y hy;obtain ⟨z,t,cy⟩:=hk y (Array.mem_toList_iff.mp hy);simp [DictEntry.refKey,cy]
  have a':¬ es.toList.any (·.refKey)=true:=by rw [a]; exact Bool.false_ne_true
  rw [if_neg a'];exact congrArg some e
theorem ObjM.look {x dx:Addr} {mA:SV} (I:ObjM h x dx C mA):∃ od,W.InstAt h x (W.instObj C dx) C (some od)/\∀ name,W.lookIn name od=some (mA name) :=
 let ⟨od,ho,hl⟩:=JT I.ns
 ⟨od,⟨I.obj,rfl,rfl,ho⟩,hl⟩
section
variable {prog:Program} {x dx:Addr} {mA:SV} {name:Str} {v:Value}
theorem Sa {expr:Bool} {Q:VS} (X:K.In s.heap) (I:ObjM s.heap x dx C mA) (hg:W.plainGet K C name=true) (hh:W.hasDictIn K C=true)
  (ha:W.findIn K (.ref C) name=some none) (hv:mA name=some v) (hv':W.handedIn v=true) (h:Q v { s with toks:=s.toks + 1 }) :
  wpAny (model prog w) A (getAttr (.ref x) name expr) Q E s:=by
 obtain ⟨od,J,hl⟩:=I.look;exact W.get_value X J (W.plainGet_of hg).1 (W.findObj_own hh ha rfl (by rw [hl,hv])) hv' h
theorem QJ {pl:Sem Bool} {Q:Value × List Value->Shared->Prop} (X:K.In s.heap) (I:ObjM s.heap x dx C mA) (hg:W.plainGet K C name=true)
  (hf:W.findIn K (.ref C) name=some (some (.ref f))) (ht:W.isFn K (.ref f)=true) (hv:mA name=none) (h:Q (.ref f,[.ref x]) s) :
  wpAny (model prog w) A (getMethod (.ref x) name pl) Q E s:=by
 obtain ⟨od,J,hl⟩:=I.look;exact W.method_fn X J (W.plainGet_of hg).1 (W.plainGet_of hg).2 hf (beq_iff_eq.mp ht) (by show (W.lookIn name od).map (·.isSome)=some false; rw [hl,hv]; rfl) h
theorem Sb {ns:List Str} {Q:Unit->Shared->Prop} (X:K.In s.heap) (I:ObjM s.heap x dx C mA)
  (hs:W.findIn K (.ref C) "__setattr__" = some (some (.builtin "object.__setattr__"))) (hp:W.plainOver K C=true) (ht:W.takerIn K C name=some none) (hh:W.hasDictIn K C=true)
  (hw:PySem.Within mA ns) (hsz:ns.length <= sizeLine)
  (h:∀ h',ObjM h' x dx C (fun y=>if y=name then some v else mA y)->Heap.SameBut dx s.heap h'->Q () { s with heap:=h',toks:=s.toks + 2 }) :
  wpAny (model prog w) A (setAttr (.ref x) name v) Q E s:=by
 obtain ⟨od,J,hl⟩:=I.look;refine W.set_plain X J hs (W.osa_open (s:={ s with toks:=s.toks + 1 }) (r:=none) X J hp ht fun b=>?_);obtain ⟨cd,hc,hd'⟩:=W.any_some hh;have hx:s.heap.get? x=some ⟨.ref C,some dx,.plain,#[]⟩:=I.obj;refine wpAny_bind (wpAny_pure (wpAny_bind (wpAny_bind (wpAny_loadPart hx (wpAny_bind (W.Looks.here (s:={ s with toks:=s.toks + 1 }) (W.looks_clsIn X hc) ?_))))));rw [hd'];refine wpAny_pure (a:=some dx) (wpAny_bind (wpAny_pure (wpAny_bind ?_)));refine wpAny_nsSet1 (s:={ s with toks:=s.toks + 1 }) I.ns fun h' hn2 hs2=>?_;obtain ⟨oD,esD,epD,hoD,hdD,hcD⟩:=hn2.count (PySem.Within.cons name v hw);refine wpAny_bind (wpAny_lookBehind hoD (by rw [hdD]; exact pastItsLine_dict (Nat.le_trans hcD (by rw [length_cons]; omega))) ?_);exact wpAny_pure (h _ ⟨(hs2.2 _ (Ne.symm I.ne)).trans I.obj,hn2,I.ne⟩ hs2)
theorem K9 {R:Result->Shared->Prop} {vs:List Value} {kw:List (Str × Value)} (X:K.In s.heap) (hm:W.makesIn K C=true)
  (hi:W.findIn K (.ref C) "__init__" = some (some (.ref f))) (hf:W.typeIn K (.ref f)=some (.type "function"))
  (h:codeAny (model prog w) (A.under (.builtin "type.__call__" ⟨.ref C :: vs,kw⟩)) (.call (.ref f) ⟨.ref (s.heap.objs.size + 1) :: vs,kw⟩) (W.InitBack (s.heap.objs.size + 1) R)
   { s with heap:=(s.heap.push W.emptyDict).push (W.instObj C s.heap.objs.size) }) :
  codeAny (model prog w) A (.call (.ref C) ⟨vs,kw⟩) R s:=by
 obtain ⟨hh,g,d,t,os⟩:=s;exact W.make_core (W.makes_of X hm) (W.looks_findIn X hi) (fun self=>W.bind_fn X self hf) (.inl rfl) h
end
noncomputable def BN (f:Str) (v:V):List (Str × V)->List (Str × V)
  | []=>[(f,v)]
  | (g,x) :: r=>if g=f then (g,v) :: r else (g,x) :: BN f v r
theorem AV (f g:Str) (v:V):∀ fs:List (Str × V),(BN f v fs).lookup g=if g=f then some v else fs.lookup g
  | []=>by
    show List.lookup g [(f,v)]=_;by_cases h:g=f
    · have hb:(g == f)=true:=beq_iff_eq.mpr h
      simp only [List.lookup,hb,if_pos h]
    · have hb:(g == f)=false:=beq_eq_false_iff_ne.mpr h
      simp only [List.lookup,hb,if_neg h]
  | (k,x) :: r=>by
    have ih:=AV f g v r;rw [show BN f v ((k,x) :: r)=(if k=f then (k,v) :: r else (k,x) :: BN f v r) from rfl];by_cases hk:k=f
    · rw [if_pos hk]
      by_cases h:g=k
      · have hb:(g == k)=true:=beq_iff_eq.mpr h
        simp only [List.lookup,hb,if_pos (h.trans hk)]
      · have hb:(g == k)=false:=beq_eq_false_iff_ne.mpr h
        simp only [List.lookup,hb,if_neg (fun e:g=f=>h (e.trans hk.symm))]
    · rw [if_neg hk]
      by_cases h:g=k
      · have hb:(g == k)=true:=beq_iff_eq.mpr h
        simp only [List.lookup,hb,if_neg (fun e:g=f=>hk (h.symm.trans e))]
      · have hb:(g == k)=false:=beq_eq_false_iff_ne.mpr h
        simp only [List.lookup,hb];exact ih
theorem F9 (f:Str) (v:V):∀ fs:List (Str × V),f ∈ (BN f v fs).map (·.1)/\∀ g,g ∈ fs.map (·.1)->g ∈ (BN f v fs).map (·.1)
  | []=>⟨by simp [BN],fun g h=>by simp at h⟩
  | (k,x) :: r=>by
    obtain ⟨i1,i2⟩:=F9 f v r;rw [show BN f v ((k,x) :: r)=(if k=f then (k,v) :: r else (k,x) :: BN f v r) from rfl];by_cases hk:k=f
    · rw [if_pos hk]
      subst hk;exact ⟨by simp,fun g h=>by simpa using h⟩
    · rw [if_neg hk]
      refine ⟨?_,fun g h=>?_⟩
      · rw [map_cons]
        exact mem_cons_of_mem _ i1
      · rw [map_cons] at h ⊢
        rcases mem_cons.mp h with e | e
        · exact mem_cons.mpr (.inl e)
        · exact mem_cons_of_mem _ (i2 g e)
theorem CN (f:Str) (v:V):∀ fs:List (Str × V),(BN f v fs).length <= fs.length + 1
  | []=>by simp [BN]
  | (k,x) :: r=>by
    have ih:=CN f v r;rw [show BN f v ((k,x) :: r)=(if k=f then (k,v) :: r else (k,x) :: BN f v r) from rfl];by_cases hk:k=f
    · rw [if_pos hk,length_cons,length_cons]; omega
    · rw [if_neg hk,length_cons,length_cons]; omega
theorem RelO.some_of {v:V} {o:Option Value} (r:RelO (some v) o):∃ u,o=some u/\RelV v u:=by
 cases o with
 | none=>exact (show False from r).elim
 | some u=>exact ⟨u,rfl,r⟩
theorem RelO.none_of {o:Option Value} (r:RelO none o):o=none:=by
 cases o with
 | none=>rfl
 | some u=>exact (show False from r).elim
theorem JU {v:V} (r:RelV v u):W.handedIn u=true:=by
 cases v with
 | non=>cases (show u=Value.none from r); rfl
 | bl b=>cases (show u=Value.bool b from r); rfl
 | int i=>obtain ⟨t,e⟩:=(show ∃ t,u=Value.int i t from r); cases e; rfl
 | str x=>obtain ⟨t,e⟩:=(show ∃ t,u=Value.str x t from r); cases e; rfl
 | byt b=>obtain ⟨t,e⟩:=(show ∃ t,u=Value.bytes b t from r); cases e; rfl
 | flt b=>obtain ⟨t,e⟩:=(show ∃ t,u=Value.float b t from r); cases e; rfl
 | ref a=>cases (show u=Value.ref a from r); rfl
 | ty n=>cases (show u=Value.type n from r); rfl
section
variable {h':Heap} {dx:Addr} {fs fs':List (Str × V)}
theorem Cp (hok:HOk P w H h) (e:H a=some (.ins C dx fs)):∃ mA,ObjM h a dx C mA/\(∀ f,RelO (fs.lookup f) (mA f))/\PySem.Within mA (fs.map (·.1))/\fs.length <= 1000/\H dx=some (.own a):=by
 obtain ⟨d,z,ne,ob,mA,n,r,q⟩:=(show ObjOk P w H h a (.ins C dx fs) from hok a _ e);exact ⟨mA,⟨ob,n,ne⟩,r,q,z,d⟩
end
structure Cls (K:FG) (C:Addr):Prop where
 pg:W.plainGet K C Str.empty=true
 hd:W.hasDictIn K C=true
 po:W.plainOver K C=true
 sa:W.findIn K (.ref C) "__setattr__" = some (some (.builtin "object.__setattr__"))
theorem Cls.get (c:Cls K C) (f:Str):W.plainGet K C f=true:=c.pg
def NoAttr (K:FG) (C:Addr) (f:Str):Prop:=W.findIn K (.ref C) f=some none
theorem NoAttr.taker {f:Str} (n:NoAttr K C f):W.takerIn K C f=some none:=by
 unfold W.takerIn;rw [show W.findIn K (.ref C) f=some none from n];rfl
structure HX (K:FG) (C:Addr) (m:Str) (f:Addr):Prop where
 at_:W.findIn K (.ref C) m=some (some (.ref f))
 fn:W.isFn K (.ref f)=true
 kp:W.keepIn K (.ref f)=true
section
variable {dx:Addr} {fs:List (Str × V)} {f:Str} {v:V}
theorem Ml {b:Bool} {Q:VS} (I:Inv X aa σ H s) (e:H a=some (.ins C dx fs)) (c:Cls X.K C) (n:NoAttr X.K C f) (l:fs.lookup f=some v)
  (h:∀ u s',Inv X aa σ H s'->RelV v u->Q u s'):wpAny (model X.prog X.w) A (getAttr (.ref a) f b) Q E s:=by
 obtain ⟨mA,O,r,_,_,_⟩:=Cp I.hok e;obtain ⟨u,hu,ru⟩:=RelO.some_of (v:=v) (o:=mA f) (by rw [← l]; exact r f);exact Sa I.kIn O (c.get f) c.hd n hu (JU ru) (h u _ (I.tok _) ru)
theorem HY {m:Str} {g:Addr} {pl:Sem Bool} {Q:Value × List Value->Shared->Prop} (I:Inv X aa σ H s) (e:H a=some (.ins C dx fs)) (c:Cls X.K C) (k:HX X.K C m g) (l:fs.lookup m=none)
  (h:Q (.ref g,[.ref a]) s):wpAny (model X.prog X.w) A (getMethod (.ref a) m pl) Q E s:=by
 obtain ⟨mA,O,r,_,_,_⟩:=Cp I.hok e;have hn:mA m=none:=RelO.none_of (by rw [← l]; exact r m);exact QJ I.kIn O (c.get m) k.at_ k.fn hn h
theorem Mm {y:V} {Q:Unit->Shared->Prop} (I:Inv X aa σ H s) (e:H a=some (.ins C dx fs)) (c:Cls X.K C) (n:NoAttr X.K C f) (hl:fs.length < 1000) (ry:RelV y u)
  (h:∀ s',Inv X aa σ (upd H a (.ins C dx (BN f y fs))) s'->Q () s'):wpAny (model X.prog X.w) A (setAttr (.ref a) f u) Q E s:=by
 obtain ⟨mA,O,r,wi,_,ho⟩:=Cp I.hok e;have hz:(fs.map (·.1)).length <= sizeLine:=by rw [AF,sizeLine_eq]; omega
 refine Sb I.kIn O c.sa c.po n.taker c.hd wi hz fun h' O' sb=>h _ ?_;have hd:∃ o,h'.get? dx=some o:=let ⟨o,_,_,e',_⟩:=O'.ns; ⟨o,e'⟩
 refine I.write (x:=a) (e:=dx) (by rw [e]; exact True.intro) (.inr ho) (fun b q hb z=>(sb.2 b hb).trans z) hd ?_;refine ⟨by rw [AH O.ne]; exact ho,?_,O.ne,O'.obj,_,O'.ns,fun g=>?_,fun g hg=>?_⟩
 ·have:=CN f y fs; omega
 ·show RelO ((BN f y fs).lookup g) (if g=f then some u else mA g);rw [AV];by_cases q:g=f
  ·rw [if_pos q,if_pos q]; exact ry
  ·rw [if_neg q,if_neg q]; exact r g
 ·by_cases q:g=f
  ·rw [q]; exact (F9 f y fs).1
  ·refine (F9 f y fs).2 g (wi g fun z=>hg ?_);show (if g=f then some u else mA g)=none;rw [if_neg q]; exact z
theorem Inv.made (I:Inv X aa σ H s):Inv X aa σ (upd (upd H s.heap.objs.size (.own (s.heap.objs.size + 1))) (s.heap.objs.size + 1) (.ins C s.heap.objs.size []))
  { s with heap:=(s.heap.push W.emptyDict).push (W.instObj C s.heap.objs.size) }:=by
 have e1:(s.heap.push W.emptyDict).get? s.heap.objs.size=some W.emptyDict:=get?_push_size s.heap rfl
 have e2:((s.heap.push W.emptyDict).push (W.instObj C s.heap.objs.size)).get? (s.heap.objs.size + 1)=some (W.instObj C s.heap.objs.size):=by
  have:=get?_push_size (s.heap.push W.emptyDict) (o:=W.instObj C s.heap.objs.size) rfl
  rwa [size_push] at this
 have e3:(s.heap.push W.emptyDict).Ns s.heap.objs.size (fun _=>none):=⟨W.emptyDict,#[],_,e1,rfl,(fun e he=>absurd he (by simp)),fun _=>rfl⟩;have I1:=I.laid (a:=s.heap.objs.size) (o:=.own (s.heap.objs.size + 1)) (h':=s.heap.push W.emptyDict) (t':=s.toks) (fun b u q=>get?_push_of_some _ q) (Nat.le_refl _) ⟨_,e1⟩;refine I1.laid (a:=s.heap.objs.size + 1) (o:=.ins C s.heap.objs.size []) (t':=s.toks) (fun b u q=>get?_push_of_some _ q) (Nat.le_of_eq (size_push _ _)) ?_;have ne:s.heap.objs.size ≠ s.heap.objs.size + 1:=Nat.ne_of_lt (Nat.lt_succ_self _);refine ⟨by rw [AH ne,AB],Nat.zero_le _,ne,e2,fun _=>none,(Heap.Ns1.of_empty e3).at fun o q=>get?_push_of_some _ q,fun _=>True.intro,fun y hy=>absurd rfl hy⟩
theorem Nv {prog:Program} {env:Env} {f:Str} {Q:VS} (hb:attributeBase e f env (eval e env)=eval e env)
  (h:wpAny (model prog w) A (eval e env) (fun o s₁=>wpAny (model prog w) A (getAttr o f true) Q E s₁) E s):wpAny (model prog w) A (eval (.Attribute e f pos) env) Q E s :=
 Attribute_any_ h (by rw [arm_eval_Attribute,hb])
end
def Vb (K:FG) (ta:TE) (f:Str):TE:=fun σ H Q=>ta σ H fun x H1=>∃ a C dx fs v,x=.ref a/\H1 a=some (.ins C dx fs)/\Cls K C/\NoAttr K C f/\fs.lookup f=some v/\Q v H1
def WJ (K:FG) (ta tv:TE) (f:Str):TS:=fun D σ H=>tv σ H fun y H1=>ta σ H1 fun x H2=>∃ a C dx fs,x=.ref a/\H2 a=some (.ins C dx fs)/\Cls K C/\NoAttr K C f/\fs.length < 1000 /\
 D.nx σ (upd H2 a (.ins C dx (BN f y fs)))
section
variable {o value:Expr} {f:Str} {pos' tpos:Pos} {ta tv:TE}
theorem At (he:PE X e ta) (hb:attributeBase e f X.env (eval e X.env)=eval e X.env):PE X (.Attribute e f pos) (Vb X.K ta f):=by
 intro aa s σ H Q I h;refine Nv hb (thn (he aa s σ H _ I h) fun u s1 ⟨x,H1,I1,rx,a,C,dx,fs,v,ex,ea,c,n,l,q⟩=>?_);subst ex;obtain rfl:u=Value.ref a:=rx;exact Ml I1 ea c n l fun u' s2 I2 ru=>⟨v,H1,I2,ru,q⟩
theorem Dl (ha:PE X o ta) (hv:PE X value tv) (hs:swapsWith value (some (.Attribute o f pos')) pos.line X.env=pure false):PS X (.Assign [.Attribute o f pos'] value pos) (WJ X.K ta tv f):=by
 intro aa s σ H D I h;refine plainObj_wpAny_Assign_Attribute (thn (hv aa s σ H _ I h) fun u s1 ⟨y,H1,I1,ry,q⟩=>thn (ha aa s1 σ H1 _ I1 q) fun ov s2 ⟨x,H2,I2,rx,a,C,dx,fs,ex,ea,c,n,l,q2⟩=>?_) hs;subst ex;obtain rfl:ov=Value.ref a:=rx;exact Mm I2 ea c n l ry fun s3 I3=>⟨σ,_,I3,q2⟩
end
section
variable {Q:VS} {c:Value} {b:Bool}
inductive TyOf (K:FG) (H:Hp):V->Value->Prop where
 | non:TyOf K H .non (.type "NoneType")
 | bl (x:Bool):TyOf K H (.bl x) (.type "bool")
 | int (i:Int):TyOf K H (.int i) (.type "int")
 | str (x:Str):TyOf K H (.str x) (.type "str")
 | flt (x:UInt64):TyOf K H (.flt x) (.type "float")
 | lst {a:Addr} {xs:List V} (e:H a=some (.lst xs)):TyOf K H (.ref a) (.type "list")
 | frz {a:Addr} {o:Obj} {xs:List V} (e:H a=some (.frz o (.lst xs))):TyOf K H (.ref a) (.type "list")
 | tup {a:Addr} {xs:List V} (e:H a=some (.tup xs)):TyOf K H (.ref a) (.type "tuple")
 | dK {a:Addr} {kvs:LK} (e:H a=some (.dK kvs)):TyOf K H (.ref a) (.type "dict")
 | dT {a:Addr} {kvs:List (List Key × V)} (e:H a=some (.dT kvs)):TyOf K H (.ref a) (.type "dict")
 | ins {a C dx:Addr} {fs:List (Str × V)} (e:H a=some (.ins C dx fs)) (cl:Cls K C) (ha:W.findIn K (.ref C) "__class__" = some (some (.builtin "object.__class__")))
   (hn:W.specialIn K (.builtin "object.__class__") "__get__" = some (some (.builtin "getset_descriptor.__get__"))) (htk:W.takesIn K (.builtin "object.__class__")=some true)
   (hm:W.mroIn K C (.type "object")=some true):TyOf K H (.ref a) (.ref C)
theorem JV {x:V} {t:Value} (I:Inv X aa σ H s) (rx:RelV x u) (ty:TyOf X.K H x t) (e:W.kitOne X.K t c=some b) (h:∀ tk,Q (.bool b) { s with toks:=tk }) :
  wpAny (model X.prog X.w) A (call (.builtin "isinstance") [u,c]) Q E s:=by
 cases ty with
 | non=>cases (show u=Value.none from rx); exact W.kia_one W.kitx_none I.kIn True.intro e (fun z=>nomatch z) h
 | bl y=>cases (show u=Value.bool y from rx); exact W.kia_one W.kitx_bool I.kIn True.intro e (fun z=>nomatch z) h
 | int i=>obtain ⟨t,q⟩:=(show ∃ t,u=Value.int i t from rx); cases q; exact W.kia_one W.kitx_int I.kIn True.intro e (fun z=>nomatch z) h
 | str y=>obtain ⟨t,q⟩:=(show ∃ t,u=Value.str y t from rx); cases q; exact W.kia_one W.kitx_str I.kIn True.intro e (fun z=>nomatch z) h
 | flt y=>obtain ⟨t,q⟩:=(show ∃ t,u=Value.float y t from rx); cases q; exact W.kia_one W.kitx_float I.kIn True.intro e (fun z=>nomatch z) h
 | @lst a xs ea =>
  cases (show u=Value.ref a from rx);obtain ⟨_,_,n,_,h1⟩:=(show ObjOk X.prog X.w H s.heap a (.lst xs) from I.hok a _ ea);exact W.kia_one W.kitx_list I.kIn ⟨_,h1,rfl⟩ e (fun z=>nomatch z) h
 | @frz a ob xs ea =>
  cases (show u=Value.ref a from rx);obtain ⟨_,_,_,n,_,h1⟩:=(show ObjOk X.prog X.w H s.heap a (.frz ob (.lst xs)) from I.hok a _ ea);exact W.kia_one W.kitx_list I.kIn ⟨_,h1,rfl⟩ e (fun z=>nomatch z) h
 | @tup a xs ea =>
  cases (show u=Value.ref a from rx);obtain ⟨_,_,_,p⟩:=(show ObjOk X.prog X.w H s.heap a (.tup xs) from I.hok a _ ea);obtain ⟨o,h1,h2,_⟩:=p;exact W.kia_one W.kitx_tuple I.kIn ⟨o,h1,h2⟩ e (fun z=>nomatch z) h
 | @dK a kvs ea =>
  cases (show u=Value.ref a from rx);obtain ⟨_,_,vs,_,p⟩:=(show ObjOk X.prog X.w H s.heap a (.dK kvs) from I.hok a _ ea);obtain ⟨o,es,ep,h1,h2,_⟩:=p;exact W.kia_one W.kitx_dict I.kIn ⟨o,h1,h2.1⟩ e (fun z=>nomatch z) h
 | @dT a kvs ea =>
  cases (show u=Value.ref a from rx);obtain ⟨_,_,xs,_,o,es,ep,h1,h2,_⟩:=(show ObjOk X.prog X.w H s.heap a (.dT kvs) from I.hok a _ ea);exact W.kia_one W.kitx_dict I.kIn ⟨o,h1,h2.1⟩ e (fun z=>nomatch z) h
 | @ins a C dx fs ea cl ha hn htk hm =>
  cases (show u=Value.ref a from rx);obtain ⟨mA,O,_⟩:=Cp I.hok ea;obtain ⟨od,J,_⟩:=O.look;exact W.kia_one (W.kitx_own (cl.get _) cl.hd ha hn htk hm) I.kIn J e (fun z=>nomatch z) h
end
end L2
namespace L2
open PySem PySem.Spec PyProof.Rows
structure Room (k:Nat) (A:Around):Prop where
 hd:A.handled=none
 dp:A.depth + 3 * k + 5 < recursionLimit
 un:A.units + 16 * k + 200 < cLine
theorem Room.mono {j k:Nat} (r:Room k A) (h:j <= k):Room j A:=⟨r.hd,by have:=r.dp; omega,by have:=r.un; omega⟩
theorem Room.deeper {k:Nat} {A:Around} (r:Room (k + 1) A) (env:Env):Room k (A.deeper env) :=
 ⟨r.hd,by have:=r.dp; show A.depth + 1 + 3 * k + 5 < _; omega,by have:=r.un; show A.units + 3 + 16 * k + 200 < _; omega⟩
theorem Room.in1 {k:Nat} {A:Around} (r:Room (k + 1) A):Room k A.in1 :=
 ⟨r.hd,by have:=r.dp; show A.depth + 3 * k + 5 < _; omega,by have:=r.un; show A.units + 1 + 16 * k + 200 < _; omega⟩
theorem Mn {kw:List (Str × Value)}:(A.under (.builtin "type.__call__" ⟨.ref C :: us,kw⟩)).depth=A.depth + 1:=by
 first | rfl | simp [Around.under,Code.weight,Code.isCreation,Code.isGuard,Code.isCaller,Code.frames,Code.isFrame,guardIds]
theorem Mo {kw:List (Str × Value)}:(A.under (.builtin "type.__call__" ⟨.ref C :: us,kw⟩)).units=A.units + 1:=by
 first | rfl | simp [Around.under,Code.cUnits,Code.frames,Code.isFrame]
theorem Room.make {k:Nat} (r:Room (k + 1) A) (C:Addr) (us:List Value) (kw:List (Str × Value)):Room k (A.under (.builtin "type.__call__" ⟨.ref C :: us,kw⟩)) :=
 ⟨r.hd,by have:=r.dp; rw [Mn]; omega,by have:=r.un; rw [Mo]; omega⟩
theorem Room.depth {k:Nat} {A:Around} (r:Room k A):A.depth < recursionLimit:=by have:=r.dp; omega
theorem Room.units {k:Nat} {A:Around} (r:Room k A):A.units + 64 < cLine:=by have:=r.un; omega
def CO:TA:=fun _ H Q=>Q [] H
def Aq (ta:TE) (tr:TA):TA:=fun σ H Q=>ta σ H fun x H1=>tr σ H1 fun xs H2=>Q (x :: xs) H2
section
variable {es:List Expr} {t:TA}
theorem AC:PA X [] CO:=fun _ _ _ _ H Q I h=>Calls.spliced_nil ⟨[],H,I,.nil,h⟩
theorem AA (ha:PE X e te) (hr:PA X es t) (hs:starEach (e :: es) X.env=(false,eval e X.env) :: starEach es X.env:=by rfl):PA X (e :: es) (Aq te t):=by
 intro pos aa s σ H Q I h;rw [hs];show wpAny _ _ (spliced ((false,eval e X.env) :: backTo pos (starEach es X.env))) _ _ s;refine Calls.spliced_cons (thn (ha aa s σ H _ I h) fun u s1 ⟨x,H1,I1,r1,q1⟩=>?_);exact thn (hr pos aa s1 σ H1 _ I1 q1) fun us s2 ⟨xs,H2,I2,r2,q2⟩=>⟨x :: xs,H2,I2,.cons r1 r2,q2⟩
def UM (t:TA):TE:=fun σ H Q=>t σ H fun xs H1=>xs.length <= sizeLine/\∀ p,H1 p=none->Q (.ref p) (upd H1 p (.tup xs))
def Vc (t:TA):TE:=fun σ H Q=>t σ H fun xs H1=>xs.length <= sizeLine/\∀ p,H1 p=none->Q (.ref p) (upd H1 p (.lst xs))
theorem A6 {x1} (h:PA X es t):PE X (.Tuple es x1 pos) (UM t):=by
 intro aa s σ H Q I hq;refine wpAny_Tuple_spliced (thn (h pos aa s σ H _ I hq) fun us s1 ⟨xs,H1,I1,r,z,q⟩=>⟨by rw [← r.length]; exact z,?_⟩);have hf:H1 s1.heap.objs.size=none:=I1.hok.fresh (Nat.le_refl _);refine ⟨.ref s1.heap.objs.size,upd H1 s1.heap.objs.size (.tup xs),I1.laid (t':=s1.toks) (fun b u e=>get?_push_of_some _ e) (Nat.le_refl _) ?_,rfl,q _ hf⟩;exact ⟨z,us,r,⟨_,get?_push_size _ rfl,rfl,_,rfl⟩⟩
theorem BO (h:PA X es t):PE X (.List es pos) (Vc t):=by
 intro aa s σ H Q I hq;refine wpAny_List_spliced (thn (h pos aa s σ H _ I hq) fun us s1 ⟨xs,H1,I1,r,z,q⟩=>⟨by rw [← r.length]; exact z,?_⟩);have hf:H1 s1.heap.objs.size=none:=I1.hok.fresh (Nat.le_refl _);refine ⟨.ref s1.heap.objs.size,upd H1 s1.heap.objs.size (.lst xs),I1.laid (t':=s1.toks) (fun b u e=>get?_push_of_some _ e) (Nat.le_refl _) ?_,rfl,q _ hf⟩;exact ⟨z,us,0,r,get?_push_size _ rfl⟩
end
abbrev Sp:=List V->Hp->VK->XK->Prop
abbrev CXT:=List Env->Hp->Shared->XK->Value->Shared->Prop
structure Env0 (P:Program) (w:World) (K:FG) (mg:SV) (base:Heap) (A:Around) (outer:List Env) (s:Shared) (H:Hp):Prop where
 frames:A.frames=some outer
 mod:Mod K mg base
 bs:∀ b o,base.get? b=some o->s.heap.get? b=some o/\H b=none
 bsz:base.objs.size <= s.heap.objs.size
 funs:s.heap.FunFrames base outer
 frf:∀ b ∈ frs outer,H b=none
 hok:HOk P w H s.heap
 bare:AllBare s.gens
def CE (outer:List Env) (P:Program) (w:World) (H:Hp) (s:Shared) (Q:VK) (u:Value) (s':Shared):Prop :=
 ∃ v H',s'.os=s.os/\AllBare s'.gens/\Un (frs outer) [] H H' s.heap s'.heap/\HOk P w H' s'.heap/\RelV v u/\Q v H'
def CR (CX:CXT) (outer:List Env) (P:Program) (w:World) (H:Hp) (s:Shared) (Q:VK) (E:XK) (r:Result) (s':Shared):Prop :=
 match r with
 | .ok (.ret u)=>CE outer P w H s Q u s'
 | .ok _=>False
 | .error e=>CX outer H s E e s'
structure Ac (P:Program) (w:World) (K:FG) (mg:SV) (base:Heap) (CX:CXT) (k:Nat) (f:Addr) (fd:FuncData) (ps:List Str) (sp:Sp):Prop where
 len:∀ vs H Q E,sp vs H Q E->vs.length=ps.length
 run:∀ (A:Around) (outer:List Env) (s:Shared) (H:Hp) (args:Args) (us:List Value) (vs:List V) (Q:VK) (E:XK),Room k A->Env0 P w K mg base A outer s H->BindsTo s fd args (ps.zip us)->Vals vs us->sp vs H Q E ->
  codeAny (model P w) A (.call (.ref f) args) (CR CX outer P w H s Q E) s
theorem Env0.make {outer:List Env} (e:Env0 P w K mg base A outer s H) (C:Addr) (us:List Value) (kw:List (Str × Value)) :
  Env0 P w K mg base (A.under (.builtin "type.__call__" ⟨.ref C :: us,kw⟩)) outer s H:=⟨by first | exact e.frames | (simpa [Around.under,Code.envs,Code.isFrame,pushEnvs] using e.frames),e.mod,e.bs,e.bsz,e.funs,e.frf,e.hok,e.bare⟩
theorem Env0.in1 {P:Program} {w:World} {K:FG} {mg:SV} {base:Heap} {A:Around} {outer:List Env} {s:Shared} {H:Hp} (e:Env0 P w K mg base A outer s H) :
  Env0 P w K mg base A.in1 outer s H:=⟨e.frames,e.mod,e.bs,e.bsz,e.funs,e.frf,e.hok,e.bare⟩
section
variable {s':Shared}
theorem Inv.env0 (I:Inv X aa σ H s):Env0 X.prog X.w X.K X.mg X.base X.A X.stack s H :=
 ⟨I.ok.frames,I.ok.mod,I.bs,Nat.le_trans I.ok.bsz I.sz,I.stack,I.stkFree,I.hok,I.bare⟩
theorem Inv.after {Q:VK} (I:Inv X aa σ H s) (h:CE X.stack X.prog X.w H s Q u s'):EP X aa σ Q u s':=by
 obtain ⟨v,H',os,bare,un,hok,r,q⟩:=h;obtain ⟨hh,g,d,t,os'⟩:=s';obtain rfl:os'=s.os:=os;exact ⟨v,H',I.call (h':=hh) (g':=g) (d':=d) (t':=t) (ch:=[]) un hok bare (fun b z=>absurd z (by simp)),r,q⟩
end
def Tt (sp:Sp) (dvs:List V) (E:XK) (t:TA):TE:=fun σ H Q=>t σ H fun vs H1=>sp (vs++dvs) H1 Q E
def Ef (C:Addr) (m:Str) (sp:Sp) (dvs:List V) (E:XK) (ta:TE) (t:TA):TE:=fun σ H Q=>ta σ H fun x H1=>∃ a dx fs,x=.ref a/\H1 a=some (.ins C dx fs)/\fs.lookup m=none /\
 t σ H1 fun vs H2=>sp (x :: (vs++dvs)) H2 Q E
def Vd (C:Addr) (sp:Sp) (dvs:List V) (E:XK) (t:TA):TE:=fun σ H Q=>t σ H fun vs H1=>∀ x dx,H1 x=none->H1 dx=none->dx ≠ x ->
 sp (.ref x :: (vs++dvs)) (upd (upd H1 dx (.own x)) x (.ins C dx [])) (fun v H2=>v=.non/\Q (.ref x) H2) E
def Binds (K:FG) (fd:FuncData) (ps:List Str) (ds:List Value):Prop :=
 ∀ (s:Shared) (us:List Value),K.In s.heap->(us++ds).length=ps.length->BindsTo s fd ⟨us,[]⟩ (ps.zip (us++ds))
theorem Binds.all {fd:FuncData} {ps:List Str} (h:∀ us:List Value,us.length=ps.length->bindArgs fd ⟨us,[]⟩=pure (ps.zip us)):Binds K fd ps []:=fun s us _ hl=>by
 rw [append_nil] at hl ⊢;exact .of_eq (h us hl)
def Bn (CX:CXT) (X:Cx) (E:XK):Prop:=∀ (aa:LO) (σ:St) (H:Hp) (s:Shared) (e:Value) (s':Shared),Inv X aa σ H s->CX X.stack H s E e s'->X.xe e s'
section
variable {CX:CXT} {k:Nat} {fd:FuncData} {ps:List Str} {sp:Sp} {dvs:List V} {ds:List Value} {E:XK} {m:Str} {p apos:Pos} {o:Expr} {es:List Expr} {ta:TE} {t:TA}
theorem KF {Q:VK} {vs:List V} (F:Ac X.prog X.w X.K X.mg X.base CX k f fd ps sp) (hr:Room k X.A) (hb:Binds X.K fd ps ds) (hd:Vals dvs ds) (hx:Bn CX X E)
  (I:Inv X aa σ H s) (r:Vals vs us) (h:sp (vs++dvs) H Q E):wpAny (model X.prog X.w) X.A (call (.ref f) us) (EP X aa σ Q) X.xe s:=by
 have r2:Vals (vs++dvs) (us++ds):=r.append hd;have hl:(us++ds).length=ps.length:=by rw [← r2.length]; exact F.len _ _ _ _ h
 refine wpAny_call (codeAny_mono (F.run X.A X.stack s H ⟨us,[]⟩ (us++ds) (vs++dvs) Q E hr I.env0 (hb s us I.kIn hl) r2 h) fun r s' hq=>?_);cases r with
 | error e=>exact hx aa σ H s e s' I hq
 | ok fl =>
  cases fl with
  | ret u=>exact I.after hq
  | next=>exact False.elim hq
  | brk=>exact False.elim hq
  | cont=>exact False.elim hq
theorem AL (F:Ac X.prog X.w X.K X.mg X.base CX k f fd ps sp) (hr:Room k X.A) (hg:Gl X x) (hm:X.mg x=some (.ref f)) (hk:W.keepIn X.K (.ref f)=true) (hb:Binds X.K fd ps ds) (hd:Vals dvs ds) (hx:Bn CX X E)
  (ha:PA X (e :: es) t) (hdb:(x == ("__debug__" : Str))=false:=by decide) (he:starEach (e :: es) X.env=(false,eval e X.env) :: starEach es X.env:=by rfl) (hpl:(backTo pos (starEach es X.env)).any (·.1)=false:=by rfl) :
  PE X (.Call (.Name x p) (e :: es) [] pos) (Tt sp dvs E t):=by
 intro aa s σ H Q I h;refine wpAny_Call_Name_kw (CG I hg hm ?_ hdb);refine W.callWith_K (h₀:=X.base) I.ok.mod.kin hk (thn (ha pos aa s σ H _ I h) fun us s1 ⟨vs,H1,I1,r,q⟩=>⟨I1.kIn,?_⟩) he hpl;exact KF F hr hb hd hx I1 r q
theorem CV {pl:Sem Bool} (he:PE X o ta) (c:Cls X.K C) (hm:HX X.K C m f) (F:Ac X.prog X.w X.K X.mg X.base CX k f fd ps sp) (hr:Room k X.A) (hb:Binds X.K fd ps ds) (hd:Vals dvs ds) (hx:Bn CX X E) (ha:PA X (e :: es) t)
  (hst:starEach (e :: es) X.env=(false,eval e X.env) :: starEach es X.env:=by rfl) (hpl:(backTo pos (starEach es X.env)).any (·.1)=false:=by rfl)
  (ht:eval (.Call (.Attribute o m apos) (e :: es) [] pos) X.env=(do
   let ov ← eval o X.env
   standAt apos.atName
   let (f,first) ← holding [ov] (getMethod ov m pl)
   callWith pos f first (backTo pos (starEach (e :: es) X.env)) (backToKw pos (keywordEach [] X.env))):=by rfl) :
  PE X (.Call (.Attribute o m apos) (e :: es) [] pos) (Ef C m sp dvs E ta t):=by
 intro aa s σ H Q I h;refine W.methodCall_KW (pl:=pl) (thn (he aa s σ H _ I h) fun u s1 ⟨x,H1,I1,rx,a,dx,fs,ex,ea,l,q⟩=>?_) ht;subst ex;obtain rfl:u=Value.ref a:=rx;refine HY I1 ea c hm l ?_;refine W.callWith_K (first:=[.ref a]) (h₀:=X.base) I.ok.mod.kin hm.kp (thn (ha pos aa s1 σ H1 _ I1 q) fun us s2 ⟨vs,H2,I2,r,q2⟩=>⟨I2.kIn,?_⟩) hst hpl;exact KF (us:=.ref a :: us) (vs:=.ref a :: vs) F hr hb hd hx I2 (.cons rfl r) q2
theorem Ah {pl:Sem Bool} (he:PE X o ta) (c:Cls X.K C) (hm:HX X.K C m f) (F:Ac X.prog X.w X.K X.mg X.base CX k f fd ps sp) (hr:Room k X.A) (hb:Binds X.K fd ps ds) (hd:Vals dvs ds) (hx:Bn CX X E)
  (ht:eval (.Call (.Attribute o m apos) [] [] pos) X.env=(do
   let ov ← eval o X.env
   standAt apos.atName
   let (f,first) ← holding [ov] (getMethod ov m pl)
   callWith pos f first (backTo pos (starEach [] X.env)) (backToKw pos (keywordEach [] X.env))):=by rfl) :
  PE X (.Call (.Attribute o m apos) [] [] pos) (Ef C m sp dvs E ta CO):=by
 intro aa s σ H Q I h;refine W.methodCall_KW (pl:=pl) (thn (he aa s σ H _ I h) fun u s1 ⟨x,H1,I1,rx,a,dx,fs,ex,ea,l,q⟩=>?_) ht;subst ex;obtain rfl:u=Value.ref a:=rx;refine HY I1 ea c hm l ?_;exact W.callWith_K0 (first:=[.ref a]) I1.kIn hm.kp (KF (us:=[.ref a]) (vs:=[.ref a]) F hr hb hd hx I1 (.cons rfl .nil) q)
structure Mk (K:FG) (C f:Addr):Prop where
 makes:W.makesIn K C=true
 init:W.findIn K (.ref C) "__init__" = some (some (.ref f))
 fn:W.isFn K (.ref f)=true
 kp:W.keepIn K (.ref C)=true
theorem QK {Q:VK} {vs:List V} (M:Mk X.K C f) (F:Ac X.prog X.w X.K X.mg X.base CX k f fd ps sp) (hr:Room (k + 1) X.A) (hb:Binds X.K fd ps ds) (hd:Vals dvs ds)
  (hx:Bn CX X E) (I:Inv X aa σ H s) (r:Vals vs us)
  (h:∀ x dx,H x=none->H dx=none->dx ≠ x->sp (.ref x :: (vs++dvs)) (upd (upd H dx (.own x)) x (.ins C dx [])) (fun v H2=>v=.non/\Q (.ref x) H2) E) :
  wpAny (model X.prog X.w) X.A (call (.ref C) us) (EP X aa σ Q) X.xe s:=by
 have hq:=h (s.heap.objs.size + 1) s.heap.objs.size (I.hok.fresh (Nat.le_succ _)) (I.hok.fresh (Nat.le_refl _)) (Nat.ne_of_lt (Nat.lt_succ_self _));have I2:=Inv.made (C:=C) I;have r2:Vals (V.ref (s.heap.objs.size + 1) :: (vs++dvs)) (Value.ref (s.heap.objs.size + 1) :: (us++ds)):=.cons rfl (r.append hd)
 have hl:(Value.ref (s.heap.objs.size + 1) :: us++ds).length=ps.length:=by
  have e:=r2.length;rw [F.len _ _ _ _ hq] at e;exact e.symm
 refine wpAny_call (K9 (f:=f) I.kIn M.makes M.init (beq_iff_eq.mp M.fn) (codeAny_mono (F.run _ X.stack _ _ ⟨Value.ref (s.heap.objs.size + 1) :: us,[]⟩ (Value.ref (s.heap.objs.size + 1) :: (us++ds)) _ _ E (hr.make C us [])
  (I2.env0.make C us []) (hb _ (Value.ref (s.heap.objs.size + 1) :: us) I2.kIn hl) r2 hq) fun r s' hq'=>?_))
 cases r with
 | error e=>exact hx aa σ _ _ e s' I2 hq'
 | ok fl =>
  cases fl with
  | ret u =>
   obtain ⟨v,H',I3,rv,ev,q3⟩:=I2.after hq';subst ev;exact ⟨rv,⟨V.ref (s.heap.objs.size + 1),H',I3,rfl,q3⟩⟩
  | next=>exact False.elim hq'
  | brk=>exact False.elim hq'
  | cont=>exact False.elim hq'
theorem Cq (M:Mk X.K C f) (F:Ac X.prog X.w X.K X.mg X.base CX k f fd ps sp) (hr:Room (k + 1) X.A) (hg:Gl X x) (hm:X.mg x=some (.ref C)) (hb:Binds X.K fd ps ds) (hd:Vals dvs ds) (hx:Bn CX X E)
  (ha:PA X (e :: es) t) (hdb:(x == ("__debug__" : Str))=false:=by decide) (he:starEach (e :: es) X.env=(false,eval e X.env) :: starEach es X.env:=by rfl) (hpl:(backTo pos (starEach es X.env)).any (·.1)=false:=by rfl) :
  PE X (.Call (.Name x p) (e :: es) [] pos) (Vd C sp dvs E t):=by
 intro aa s σ H Q I h;refine wpAny_Call_Name_kw (CG I hg hm ?_ hdb);refine W.callWith_K (h₀:=X.base) I.ok.mod.kin M.kp (thn (ha pos aa s σ H _ I h) fun us s1 ⟨vs,H1,I1,r,q⟩=>⟨I1.kIn,?_⟩) he hpl;exact QK M F hr hb hd hx I1 r q
end
def PK (X:Cx) (kws:List Keyword) (t:TA):Prop :=
 ∀ (pos:Pos) (aa:LO) (s:Shared) (σ:St) (H:Hp) (Q:List V->Hp->Prop),Inv X aa σ H s->t σ H Q->wpAny (model X.prog X.w) X.A (evalAll ((backToKw pos (keywordEach kws X.env)).map (·.2))) (AP X aa σ Q) X.xe s
section
variable {CX:CXT} {k:Nat} {fd:FuncData} {ps ks:List Str} {sp:Sp} {E:XK} {m:Str} {p apos kpos:Pos} {o:Expr} {es:List Expr} {kws:List Keyword} {ta:TE} {t tk:TA} {nm:Option Str}
theorem KG:PK X [] CO:=fun _ _ _ _ H Q I h=>wpAny_evalAll_nil ⟨[],H,I,.nil,h⟩
theorem HD (ha:PE X e te) (hr:PK X kws t):PK X (⟨nm,e,kpos⟩ :: kws) (Aq te t):=by
 intro pos aa s σ H Q I h;show wpAny _ _ (evalAll ((do let v ← eval e X.env; standAt pos; pure v) :: (backToKw pos (keywordEach kws X.env)).map (·.2))) _ _ s;refine wpAny_evalAll_cons (wpAny_bind (thn (ha aa s σ H _ I h) fun u s1 ⟨x,H1,I1,r1,q1⟩=>wpAny_bind (wpAny_standAt (wpAny_pure ?_))));exact thn (hr pos aa s1 σ H1 _ I1 q1) fun us s2 ⟨xs,H2,I2,r2,q2⟩=>⟨x :: xs,H2,I2,.cons r1 r2,q2⟩
structure Mp (K:FG) (fd:FuncData) (ps ks:List Str) (g:List Value->List Value->List Value) (gV:List V->List V->List V):Prop where
 to:∀ (s:Shared) (us ws:List Value),K.In s.heap->(g us ws).length=ps.length->BindsTo s fd ⟨us,ks.zip ws⟩ (ps.zip (g us ws))
 rel:∀ {vs:List V} {us:List Value} {zs:List V} {ws:List Value},Vals vs us->Vals zs ws->Vals (gV vs zs) (g us ws)
variable {g:List Value->List Value->List Value} {gV:List V->List V->List V}
end
structure AM (N P:List Str) (sc:Scope):Prop where
 kind:sc.kind=.function
 co:sc.isCoroutine=false
 gen:sc.isGenerator=false
 nd:N.Nodup
 pre:N.take P.length=P
 par:∀ x ∈ P,sc.names.lookup x=some .local\/sc.names.lookup x=some .cell
 nofree:∀ y ∈ sc.names,y.2 ≠ .free
theorem fsc {N P:List Str} {sc:Scope} (a:sc.kind=.function:=by exact rfl) (b:sc.isCoroutine=false:=by exact rfl) (c:sc.isGenerator=false:=by exact rfl) (d:N.Nodup:=by decide +kernel) (e:N.take P.length=P:=by exact rfl) (f:∀ x ∈ P,sc.names.lookup x=some .local\/sc.names.lookup x=some .cell:=by decide +kernel) (g:∀ y ∈ sc.names,y.2 ≠ .free:=by decide +kernel):AM N P sc:=⟨a,b,c,d,e,f,g⟩
theorem JW {kindOf:Str->Option NameKind} {x:Str}:∀ {binds:List (Str × Value)} {m:SV},(∀ v,(x,v) ∉ binds)->bindL kindOf binds m x=m x
  | [],_,_=>rfl
  | (n,v) :: r,m,h=>by
    unfold bindL;rw [JW fun w hw=>h w (mem_cons_of_mem _ hw)];split
    · have:x ≠ n:=by rintro rfl; exact h v mem_cons_self
      simp [this]
    · rfl
theorem JX {kindOf:Str->Option NameKind} {x:Str}:∀ {binds:List (Str × Value)} {m:SV},(∀ v,(x,v) ∉ binds)->bindC kindOf binds m x=m x
  | [],_,_=>rfl
  | (n,v) :: r,m,h=>by
    unfold bindC;rw [JX fun w hw=>h w (mem_cons_of_mem _ hw)];split
    · rfl
    · have:x ≠ n:=by rintro rfl; exact h v mem_cons_self
      simp [this]
theorem JY {kindOf:Str->Option NameKind} {x:Str} {v:Value}:∀ {P:List Str} {vs:List Value} {i:Nat} {m:SV},P.Nodup->P[i]?=some x->vs[i]?=some v->kindOf x=some .local ->
  bindL kindOf (P.zip vs) m x=some v
 | [],_,_,_,_,h,_,_=>by simp at h
 | _ :: _,[],_,_,_,_,h,_=>by simp at h
 | p :: P,w :: vs,0,m,nd,h1,h2,hk=>by
  simp at h1 h2; subst h1; subst h2;show bindL kindOf ((p,w) :: P.zip vs) m p=_;unfold bindL;rw [JW fun v hv=>(nodup_cons.mp nd).1 (of_mem_zip hv).1,if_pos hk];simp
 | p :: P,w :: vs,i + 1,m,nd,h1,h2,hk=>by
  show bindL kindOf ((p,w) :: P.zip vs) m x=_;unfold bindL;exact JY (i:=i) (nodup_cons.mp nd).2 (by simpa using h1) (by simpa using h2) hk
theorem JZ {kindOf:Str->Option NameKind} {x:Str} {v:Value}:∀ {P:List Str} {vs:List Value} {i:Nat} {m:SV},P.Nodup->P[i]?=some x->vs[i]?=some v->kindOf x ≠ some .local ->
  bindC kindOf (P.zip vs) m x=some v
 | [],_,_,_,_,h,_,_=>by simp at h
 | _ :: _,[],_,_,_,_,h,_=>by simp at h
 | p :: P,w :: vs,0,m,nd,h1,h2,hk=>by
  simp at h1 h2; subst h1; subst h2;show bindC kindOf ((p,w) :: P.zip vs) m p=_;unfold bindC;rw [JX fun v hv=>(nodup_cons.mp nd).1 (of_mem_zip hv).1,if_neg hk];simp
 | p :: P,w :: vs,i + 1,m,nd,h1,h2,hk=>by
  show bindC kindOf ((p,w) :: P.zip vs) m x=_;unfold bindC;exact JZ (i:=i) (nodup_cons.mp nd).2 (by simpa using h1) (by simpa using h2) hk
noncomputable def Bu (N:List Str) (vs:List V):St:=vs.map some++List.replicate (N.length - vs.length) none
noncomputable def BA (CX:CXT) (P:Program) (w:World) (K:FG) (mg:SV) (base:Heap) (N:List Str) (qual:Str) (scope:Scope) (f:Addr) (cd:Value) (A:Around) (outer:List Env) (s:Shared) (H:Hp) (E:XK):Cx where
 prog:=P
 w:=w
 K:=K
 mg:=mg
 base:=base
 A:=A.deeper (envOfC qual scope s.heap.objs.size f cd)
 N:=N
 s₀:=s
 H₀:=H
 env:=envOfC qual scope s.heap.objs.size f cd
 outer:=outer
 stack:=envOfC qual scope s.heap.objs.size f cd :: outer
 ex:=[]
 calm:=true
 fn:=fun _=>true
 pn:=[]
 xe:=fun e s'=>wpAny (model P w) (A.deeper (envOfC qual scope s.heap.objs.size f cd)) (leaving (envOfC qual scope s.heap.objs.size f cd) e) (fun _ s''=>CX outer H s E e s'') (fun e' s''=>CX outer H s E e' s'') s'
theorem LA {sc:Scope} {n:Nat} (h:sc.names.lookup x=some .cell):∃ c,(cellsFrom n sc.names []).lookup x=some c:=by
 have q:=W.cellsFrom_some sc.names n [] (.inl h);exact Option.isSome_iff_exists.mp q
theorem GA {CX:CXT} {ps:List Str} {qual:Str} {scope:Scope} {cd:Value} {outer:List Env} {s1:Shared} {E:XK} {vs:List V}
  (S:AM N ps scope) (hd:A.handled=none) (e0:Env0 P w K mg base A outer s H) (hl:vs.length=ps.length) (r:Vals vs us)
  (x:InCallC s s.heap.objs.size (bindL (envOfC qual scope s.heap.objs.size f cd).kindOf (ps.zip us) fun _=>none) (cellsFrom (s.heap.objs.size + 1) scope.names []) (bindC (envOfC qual scope s.heap.objs.size f cd).kindOf (ps.zip us) fun _=>none) s1) :
  Inv (BA CX P w K mg base N qual scope f cd A outer s H E) [] (Bu N vs) H s1:=by
 have hpl:ps.length <= N.length:=by have:=congrArg List.length S.pre; rw [length_take] at this; omega
 obtain ⟨h1,tk,rfl,hk⟩:=x.done;have noA:∀ b:Addr,b ∉ (BA CX P w K mg base N qual scope f cd A outer s H E).ex:=fun b z=>absurd (show b ∈ ([]:List Addr) from z) (by simp)
 refine ⟨⟨e0.mod,S.kind,rfl,rfl,Nat.le_refl _,fun y z c h1 h2=>?_,fun y hy=>?_,fun y c _ h=>?_,fun _=>hd,Around.frames_deeper e0.frames,.inr ⟨rfl,rfl⟩,fun b z=>absurd z (noA b),e0.bs,e0.bsz,fun b _ _=>noA b,fun b z=>absurd z (noA b),e0.funs,e0.frf⟩,
  rfl,e0.bare,Un.kept hk,⟨_,x.toInCall.ns,fun i y v h1 h2 h3=>?_⟩,fun y c h=>⟨_,x.cell y c h⟩,e0.hok.fresh (Nat.le_refl _),fun y c h=>?_,fun p hp=>absurd (show p ∈ ([]:LO) from hp) (by simp),e0.hok.kept hk,?_⟩
 ·exact name_of_addr x.apart (PySem.mem_of_lookup h1) (PySem.mem_of_lookup h2)
 ·have hy:scope.names.lookup y=some .cell\/scope.names.lookup y=some .free:=hy;rcases hy with hy | hy
  ·exact LA hy
  ·exact absurd rfl (S.nofree _ (PySem.mem_of_lookup hy))
 ·exact Nat.le_of_lt (x.above y c (PySem.mem_of_lookup h))
 ·have hi:i < vs.length:=by
   unfold Bu at h2;by_cases hi:i < vs.length
   ·exact hi
   ·rw [List.getElem?_append_right (by simpa using hi)] at h2;rw [List.getElem?_replicate] at h2;split at h2 <;> cases h2
  have ha:vs[i]?=some v:=by
   unfold Bu at h2;rw [List.getElem?_append_left (by simpa using hi),getElem?_map] at h2;cases e:vs[i]? with
   | none=>rw [e] at h2; cases h2
   | some a=>rw [e] at h2; cases h2; rfl
  obtain ⟨u,hu,rv⟩:=r.get ha
  have hp:ps[i]?=some y:=by
   rw [← S.pre,List.getElem?_take_of_lt (by omega)]; exact h1
  have ndP:ps.Nodup:=by rw [← S.pre]; exact S.nd.sublist (take_sublist _ _)
  refine ⟨u,rv,?_⟩;rcases S.par y (mem_of_getElem? hp) with k | k
  ·exact .inl ⟨k,JY ndP hp hu k⟩
  ·obtain ⟨c,e⟩:=LA (n:=s.heap.objs.size + 1) k;refine .inr ⟨.inl k,c,e,?_⟩;have q:=x.cell y c e;rw [JZ ndP hp hu (by show scope.names.lookup y ≠ _; rw [k]; decide)] at q;exact q
 ·exact e0.hok.fresh (Nat.le_of_lt (x.above y c (PySem.mem_of_lookup h)))
 ·unfold Bu;show _=N.length;rw [length_append,AF,List.length_replicate];omega
theorem Nw {CX:CXT} {k:Nat} {name qual:Str} {params:Arguments} {body:List Stmt} {scope:Scope} {dV kV doc pm af ct oc:Value} {an od:Option Addr}
  {osl:Array (Option Value)} {N ps:List Str} {sp:Sp} (lk:K.lookup f=some ⟨oc,od,.func (W.fnOf name qual params body scope dV kV doc pm an af ct),osl⟩) (hcd:W.codeIn K af qual=true) (S:AM N ps scope)
  (len:∀ vs H Q E,sp vs H Q E->vs.length=ps.length)
  (b8:∀ (A:Around) (outer:List Env) (s:Shared) (H:Hp) (vs:List V) (Q:VK) (E:XK),Room k (A.deeper (envOfC qual scope s.heap.objs.size f af))->sp vs H Q E ->
   ∃ t,PSs (BA CX P w K mg base N qual scope f af A outer s H E) body t/\t { nx:=fun _ H'=>Q .non H',rt:=Q } (Bu N vs) H) :
  Ac P w K mg base CX (k + 1) f (W.fnOf name qual params body scope dV kV doc pm an af ct) ps sp:=by
 refine ⟨len,fun A outer s H args us vs Q E hr e0 hb r hsp=>?_⟩;have hl:=len _ _ _ _ hsp;have KX:K.In s.heap:=e0.mod.kin.keeps fun b o e=>(e0.bs b o e).1;have lim:s.heap.NoLimit:=e0.mod.nolimit.keeps fun b o e=>(e0.bs b o e).1
 have hkind:∀ y ∈ ps.zip us,scope.names.lookup y.1=some .local\/(scope.names.lookup y.1=some .cell/\((cellsFrom (s.heap.objs.size + 1) scope.names []).lookup y.1).isSome=true):=fun ⟨n,v⟩ hy=>by
  rcases S.par n (of_mem_zip hy).1 with q | q
  ·exact .inl q
  ·exact .inr ⟨q,W.cellsFrom_some _ _ _ (.inl q)⟩
 refine codeAny_call_function hr.depth (KX _ _ lk) rfl S.co S.gen rfl (W.codeRec_of KX hcd) (hb _ _ _ _ ?_);refine wpAny_newFunctionEnv_cells S.kind hkind fun env he s1 x=>?_;subst he;refine ⟨lim.keeps x.toInCall.keep,codeAny_func ?_⟩;obtain ⟨t,ht,hq⟩:=b8 A outer s H vs Q E (hr.deeper _) hsp;have I:Inv (BA CX P w K mg base N qual scope f af A outer s H E) [] (Bu N vs) H s1:=GA S hr.hd e0 hl r x;refine wpAny_mono (ht [] s1 (Bu N vs) H _ I hq) (fun fl s' hs=>?_) fun e s' hs=>hs
 have fin:∀ {σ':St} {H':Hp} {v:V} {u:Value},Inv (BA CX P w K mg base N qual scope f af A outer s H E) [] σ' H' s'->RelV v u->Q v H'->CE outer P w H s Q u s' :=
  fun {σ' H' v u} J rv q=>⟨v,H',J.os,J.bare,J.base,J.hok,rv,q⟩
 cases fl with
 | ret u =>
  obtain ⟨v,σ',H',J,rv,q⟩:=hs;exact fin J rv q
 | next =>
  obtain ⟨σ',H',J,q⟩:=hs;exact fin (v:=V.non) (u:=Value.none) J rfl q
 | brk =>
  obtain ⟨_,_,_,q⟩:=hs;exact False.elim q
 | cont =>
  obtain ⟨_,_,_,q⟩:=hs;exact False.elim q
end L2
namespace L2
open PySem PySem.Spec PyProof.Rows
section
variable {p:Pos} {es:List Expr} {t:TA} {id T:String} {r:List V->Hp->VK->Prop}
def tCB (r:List V->Hp->VK->Prop) (t:TA):TE:=fun σ H Q=>t σ H fun vs H1=>r vs H1 Q
theorem AZ (hc:Bk X (.builtin id) r) (hg:Gl X x) (hm:X.mg x=none) (hv:bootBuiltins x=some (.builtin id)) (ha:PA X (e :: es) t) (hn:x ≠ "__name__" := by decide) (hdb:(x == ("__debug__" : Str))=false:=by decide)
  (he:starEach (e :: es) X.env=(false,eval e X.env) :: starEach es X.env:=by rfl) (hpl:(backTo pos (starEach es X.env)).any (·.1)=false:=by rfl):PE X (.Call (.Name x p) (e :: es) [] pos) (tCB r t):=by
 intro aa s σ H Q I h;refine wpAny_Call_Name_kw (Ej I hg hm hv ?_ hn hdb);exact PyProof.Rows.callWith_builtin1 (thn (ha pos aa s σ H _ I h) fun us s1 ⟨vs,H1,I1,r1,q1⟩=>hc aa s1 σ H1 vs us Q I1 r1 q1) he hpl
theorem BH (hc:Bk X (.type T) r) (hg:Gl X x) (hm:X.mg x=none) (hv:bootBuiltins x=some (.type T)) (ha:PA X (e :: es) t) (hn:x ≠ "__name__" := by decide) (hdb:(x == ("__debug__" : Str))=false:=by decide)
  (he:starEach (e :: es) X.env=(false,eval e X.env) :: starEach es X.env:=by rfl) (hpl:(backTo pos (starEach es X.env)).any (·.1)=false:=by rfl):PE X (.Call (.Name x p) (e :: es) [] pos) (tCB r t):=by
 intro aa s σ H Q I h;refine wpAny_Call_Name_kw (Ej I hg hm hv ?_ hn hdb);exact PyProof.Rows.callWith_type1 (thn (ha pos aa s σ H _ I h) fun us s1 ⟨vs,H1,I1,r1,q1⟩=>hc aa s1 σ H1 vs us Q I1 r1 q1) he hpl
end
end L2
namespace HT
open PySem PyProof.Rows
section
variable {prog:Program}
theorem cat_tup {t b:Addr} {vs ws:List Value} {Q:VS} (ht:IsTup s.heap t vs.toArray) (hb:IsTup s.heap b ws.toArray) (hv:vs ≠ [])
  (h1:ws=[]->Q (.ref t) s) (h2:ws ≠ []->Q (.ref s.heap.objs.size) { s with heap:=s.heap.push { cls:=.type "tuple", data:=.seq (vs++ws).toArray } })
  (hsz:vs.length + ws.length <= sizeLine):wpAny (model prog w) A (binaryOp .Add (.ref t) (.ref b)) Q E s:=by
 obtain ⟨⟨cls,dd,data,sl⟩,ho,hc,n,hd⟩:=id ht;obtain ⟨⟨cls2,dd2,data2,sl2⟩,ho2,hc2,n2,hd2⟩:=id hb;simp only at hc hd hc2 hd2;subst hc hd hc2 hd2;have e:vs.toArray++ws.toArray=(vs++ws).toArray:=by simp
 by_cases hw:ws=[]
 ·exact concat_meets ⟨_,ho,rfl⟩ ⟨_,ho2,rfl⟩ noFill_tuple_add seq_tuple_add PySem.F.slot_tuple_add PySem.F.entry_tuple_add (PySem.F.args_tuple_add_2 _ _)
   (tuple_addW1 t b vs.toArray ws.toArray n n2 dd dd2 sl sl2 (by simpa using hv) (by simp [hw])) ⟨ho,ho2,h1 hw⟩
 ·refine concat_meets ⟨_,ho,rfl⟩ ⟨_,ho2,rfl⟩ noFill_tuple_add seq_tuple_add PySem.F.slot_tuple_add PySem.F.entry_tuple_add (PySem.F.args_tuple_add_2 _ _)
   (tuple_addW2 t b vs.toArray ws.toArray n n2 dd dd2 sl sl2 (by simpa using hv) (by simpa using hw) (by rw [size_toArray,size_toArray]; exact hsz)) ⟨ho,ho2,?_⟩
  rw [e];exact h2 hw
end
end HT
namespace L2
open PySem PySem.Spec PyProof.Rows
theorem DN {ns:List Int}:∀ {us:List Value},Vals (ns.map V.int) us->IntsAre us ns:=by
 induction ns with
 | nil=>intro us r; rw [map_nil] at r; cases r; exact .nil
 | cons n ns ih =>
  intro us r;rw [map_cons] at r;cases r with
  | cons r1 r2 =>
   obtain ⟨t,e⟩:=r1;subst e;exact .cons n t (ih r2)
section
variable {lo hi:Option Expr} {tl th:TO} {p2:Pos}
def Nx (K:FG):R2:=fun x y H Q=>∃ a b xs ys,x=.ref a/\y=.ref b/\SqT K H a xs/\SqT K H b ys/\xs ≠ []/\xs.length + ys.length <= sizeLine /\
 (ys=[]->Q (.ref a) H)/\(ys ≠ []->∀ p,H p=none->Q (.ref p) (upd H p (.tup (xs++ys))))
theorem Vals.nil_iff (r:Vals xs us):us=[] ↔ xs=[]:=by
 cases r with
 | nil=>simp
 | cons _ _=>simp
theorem Ny:OpR X (binaryOp .Add) (Nx X.K):=by
 intro aa s σ H x y v u Q I rx ry h;obtain ⟨a,b,xs,ys,rfl,rfl,ha,hb,hx,hz,q1,q2⟩:=h;cases rx;cases ry;obtain ⟨its,r1,p1,_⟩:=I.tuple ha;obtain ⟨its2,r2,p2,_⟩:=I.tuple hb;refine HT.cat_tup p1 p2 (fun z=>hx (r1.nil_iff.mp z)) (fun z=>⟨.ref a,H,I,rfl,q1 (r2.nil_iff.mp z)⟩) (fun z=>?_) (by rw [← r1.length,← r2.length]; exact hz);refine ⟨.ref s.heap.objs.size,_,I.laid (t':=s.toks) (o:=.tup (xs++ys)) (fun b ob q=>get?_push_of_some _ q) (Nat.le_refl _) ?_,rfl,q2 (fun w=>z (r2.nil_iff.mpr w)) _ (I.hok.fresh (Nat.le_refl _))⟩;exact ⟨by rw [length_append]; exact hz,_,r1.append r2,IsTup.new _ _⟩
end
end L2
namespace L2
open PySem PySem.Spec PyProof.Rows
noncomputable def ixN (n:Nat) (i:Int):Option Nat:=if 0 <= i then (if i < n then some i.toNat else none) else if -(n:Int) <= i then some (i + n).toNat else none
noncomputable def atI {α:Type} (xs:List α) (i:Int):Option α:=(ixN xs.length i).bind fun j=>xs[j]?
theorem Nz {n:Nat} {i:Int} {j:Nat} (h:ixN n i=some j):seqIndex? i n=some j/\j < n/\-(n:Int) <= i/\i < n:=by
 unfold ixN at h;by_cases h0:0 <= i
 ·rw [if_pos h0] at h;by_cases h1:i < n
  ·rw [if_pos h1] at h;have e:i.toNat=j:=Option.some.inj h;exact ⟨by rw [seqIndex_of h0 h1,e],by omega,by omega,h1⟩
  ·rw [if_neg h1] at h; cases h
 ·rw [if_neg h0] at h;by_cases h1:-(n:Int) <= i
  ·rw [if_pos h1] at h;have e:(i + n).toNat=j:=Option.some.inj h;exact ⟨by rw [seqIndex_neg (by omega) h1,e],by omega,h1,by omega⟩
  ·rw [if_neg h1] at h; cases h
theorem N0 {α:Type} {xs:List α} {i:Int} {v:α} (h:atI xs i=some v):∃ j,seqIndex? i xs.length=some j/\xs[j]?=some v/\j < xs.length/\-(xs.length:Int) <= i/\i < xs.length:=by
 unfold atI at h;cases e:ixN xs.length i with
 | none=>rw [e] at h; cases h
 | some j =>
  rw [e] at h;obtain ⟨h1,h2,h3,h4⟩:=Nz e;exact ⟨j,h1,h,h2,h3,h4⟩
theorem DP {α:Type} {xs:List α} {j:Nat} {v:α} (h:xs[j]?=some v):atI xs (j:Int)=some v:=by
 have hj:j < xs.length:=(List.getElem?_eq_some_iff.mp h).1
 have e:ixN xs.length (j:Int)=some j:=by
  unfold ixN;rw [if_pos (by omega),if_pos (by omega)]; simp
 unfold atI; rw [e]; exact h
def Sc (b:Expr):Prop:=∀ o i,subscripted b false o i=operate [o,i] (getItem o i)
def IxR (X:Cx) (r:R2):Prop :=
 ∀ (value slice:Expr) (aa:LO) (s:Shared) (σ:St) (H:Hp) (x y:V) (v u:Value) (Q:VK),Inv X aa σ H s->RelV x v->RelV y u->r x y H Q ->
  subscripted slice false v u=operate [v,u] (getItem v u)->wpAny (model X.prog X.w) X.A (subscriptTail value slice v u) (EP X aa σ Q) X.xe s
def MtR (X:Cx) (id:String) (r:V->List V->Hp->VK->Prop):Prop :=
 ∀ (aa:LO) (s:Shared) (σ:St) (H:Hp) (x:V) (xs:List V) (v:Value) (us:List Value) (Q:VK),Inv X aa σ H s->RelV x v->Vals xs us->r x xs H Q ->
  wpAny (model X.prog X.w) X.A (call (.builtin id) (v :: us)) (EP X aa σ Q) X.xe s
section
variable {a b:Expr} {ta tb:TE}
theorem Bm {r:R2} (hr:IxR X r) (ha:PE X a ta) (hb:PE X b tb) (hs:Sc b):PE X (.Subscript a b pos) (tOp r ta tb):=by
 intro aa s σ H Q I h;exact Subscript_ (UI ha hb I h fun v u s2 x y H2 I2 rx ry q=>hr a b aa s2 σ H2 x y v u Q I2 rx ry q (hs _ _))
def Ve (K:FG):R2:=fun x y H Q=>∃ p xs i v,x=.ref p/\y=.int i/\SqL K H p xs/\atI xs i=some v/\Q v H
def Vf (K:FG):R2:=fun x y H Q=>∃ p xs i v,x=.ref p/\y=.int i/\SqT K H p xs/\atI xs i=some v/\Q v H
theorem Sd:IxR X (Ve X.K):=by
 intro value slice aa s σ H x y v u Q I rx ry h hs;obtain ⟨p,xs,i,z,rfl,rfl,hq,he,q⟩:=h;cases rx;obtain ⟨t,rfl⟩:=ry;obtain ⟨its,r,pl,hz⟩:=I.list hq;obtain ⟨j,h1,h2,h3,h4,h5⟩:=N0 he;obtain ⟨w,ew,rw'⟩:=r.get h2;have hl:=r.length;have hn:=HW;have fin:EP X aa σ Q w s:=⟨z,H,I,rw',q⟩;by_cases h0:0 <= i
 ·have hj:i.toNat=j:=by
   rw [seqIndex_of h0 h5] at h1;exact Option.some.inj h1
  exact item_listR pl.isList h0 (by omega) (by rw [hj]; simpa using ew) fin hs
 ·have hj:(i + (its.toArray.size:Int)).toNat=j:=by
   rw [seqIndex_neg (by omega) h4] at h1;rw [size_toArray,← hl];exact Option.some.inj h1
  exact subscriptTail_builtinR (x:=w) pl.isList.typeIs slot_list_getitem.lookup
   (wpAny_getItem_list_neg (Q:=fun r s'=>r=w/\EP X aa σ Q r s') pl.isList (by omega) (by rw [size_toArray] <;> omega) (by omega) (by rw [hj]; simpa using ew) ⟨rfl,fin⟩) hs
theorem UN:IxR X (Vf X.K):=by
 intro value slice aa s σ H x y v u Q I rx ry h hs;obtain ⟨p,xs,i,z,rfl,rfl,hq,he,q⟩:=h;cases rx;obtain ⟨t,rfl⟩:=ry;obtain ⟨its,r,pl,hz⟩:=I.tuple hq;obtain ⟨j,h1,h2,h3,h4,h5⟩:=N0 he;obtain ⟨w,ew,rw'⟩:=r.get h2;have hl:=r.length;have hn:=HW;have fin:EP X aa σ Q w s:=⟨z,H,I,rw',q⟩
 exact subscriptTail_builtinR (x:=w) pl.typeIs slot_tuple_getitem.lookup
  (getItem_tuple (j:=j) (Q:=fun r s'=>r=w/\EP X aa σ Q r s') pl (by omega) (by omega) (by rw [size_toArray,← hl]; exact h1) (by simpa using ew) ⟨rfl,fin⟩) hs
theorem Mq (its:List Value) (n j:Nat) (u:Value):Obj.mapSeq (·.setIfInBounds j u) { cls:=.type "list", data:=.seq its.toArray n }={ cls:=.type "list", data:=.seq (its.set j u).toArray n }:=by
 simp [Obj.mapSeq]
theorem Inv.lst {aa:LO} {σ:St} {H:Hp} {s:Shared} {p:Addr} {xs:List V} (I:Inv X aa σ H s) (h:H p=some (.lst xs)) :
  ∃ (its:List Value) (n:Nat),Vals xs its/\s.heap.get? p=some { cls:=.type "list", data:=.seq its.toArray n }/\xs.length <= sizeLine:=by
 obtain ⟨z,its,n,r,e⟩:=I.hok p _ h;exact ⟨its,n,r,e,z⟩
theorem Inv.lstUpd {p:Addr} {ys:List V} {its its':List Value} {n n':Nat} {f:Obj->Obj} (I:Inv X aa σ H s) (h:H p=some (.lst xs))
  (ho:s.heap.get? p=some { cls:=.type "list", data:=.seq its.toArray n }) (hf:f { cls:=.type "list", data:=.seq its.toArray n }={ cls:=.type "list", data:=.seq its'.toArray n' }) (r:Vals ys its') (hz:ys.length <= sizeLine) (t:Nat) :
  Inv X aa σ (upd H p (.lst ys)) { s with heap:=s.heap.update p f,toks:=t }:=by
 have e:(s.heap.update p f).get? p=some { cls:=.type "list", data:=.seq its'.toArray n' }:=by
  rw [get?_update_self f ho (by rw [hf] <;> rfl),hf]
 refine I.write (x:=p) (e:=p) (by rw [h]; trivial) (.inl rfl) (fun b u hb q=>(get?_update_other _ _ (Ne.symm hb)).trans q) ⟨_,e⟩ ?_;exact ⟨hz,its',n',r,e⟩
def Vg:V->V->V->Hp->(Hp->Prop)->Prop:=fun o i v H Q=>∃ p xs k j,o=.ref p/\i=.int k/\H p=some (.lst xs)/\ixN xs.length k=some j/\Q (upd H p (.lst (xs.set j v)))
theorem LB:VW X Vg:=by
 intro aa s σ H o i v ov iv u Q I ro ri rv h;obtain ⟨p,xs,k,j,rfl,rfl,hp,hj,q⟩:=h;cases ro;obtain ⟨t,rfl⟩:=ri;obtain ⟨its,n,r,ho,hz⟩:=I.lst hp;obtain ⟨h1,h2,h3,h4⟩:=Nz hj;have hl:=r.length;have hn:=HW
 have I':Inv X aa σ (upd H p (.lst (xs.set j v))) { s with heap:=s.heap.update p (Obj.mapSeq (·.setIfInBounds j u)) } :=
  I.lstUpd hp ho (Mq its n j u) (r.set rv j) (by rw [List.length_set]; exact hz) s.toks
 by_cases h0:0 <= k
 ·have hk:k.toNat=j:=by
   rw [seqIndex_of h0 h4] at h1;exact Option.some.inj h1
  exact W.ki_setAt ho h0 (by omega) (by rw [size_toArray,← hl]; exact h4) (by rw [hk]; exact ⟨_,I',q⟩)
 ·have hk:(k + (its.toArray.size:Int)).toNat=j:=by
   rw [seqIndex_neg (by omega) h3] at h1;rw [size_toArray,← hl];exact Option.some.inj h1
  exact W.ki_setBack ho (by omega) (by rw [size_toArray,← hl]; exact h3) (by omega) (by rw [hk]; exact ⟨_,I',q⟩)
noncomputable def FP:V->Bool
 | .non=>true
 | .bl _=>true
 | .int _=>true
 | .str _=>true
 | _=>false
noncomputable def eqV:V->V->Bool
 | .non,.non=>true
 | .bl a,.bl b=>a == b
 | .bl a,.int b=>(if a then 1 else 0) == b
 | .int a,.bl b=>a == (if b then 1 else 0)
 | .int a,.int b=>a == b
 | .str a,.str b=>a == b
 | _,_=>false
theorem UP {y x:V} {v:Value} (ry:RelV y u) (rx:RelV x v) (fy:FP y=true) (fx:FP x=true):SeqAt.EqAt A s u v (eqV y x):=by
 cases y with
 | non =>
  cases ry;cases x with
  | non=>cases rx; exact SeqAt.EqAt.same _
  | bl b=>cases rx; exact SeqAt.EqAt.none_bool b
  | int b=>obtain ⟨t,rfl⟩:=rx; exact SeqAt.EqAt.none_int b t
  | str b=>obtain ⟨t,rfl⟩:=rx; exact SeqAt.EqAt.none_str b t
  | _=>exact absurd (show false=true from fx) Bool.false_ne_true
 | bl a =>
  cases ry;cases x with
  | non=>cases rx; exact SeqAt.EqAt.bool_none a
  | bl b=>cases rx; exact SeqAt.EqAt.bool_bool a b
  | int b=>obtain ⟨t,rfl⟩:=rx; exact SeqAt.EqAt.bool_int a b t
  | str b=>obtain ⟨t,rfl⟩:=rx; exact SeqAt.EqAt.bool_str a b t
  | _=>exact absurd (show false=true from fx) Bool.false_ne_true
 | int a =>
  obtain ⟨t',rfl⟩:=ry;cases x with
  | non=>cases rx; exact SeqAt.EqAt.int_none a t'
  | bl b=>cases rx; exact SeqAt.EqAt.int_bool a t' b
  | int b=>obtain ⟨t,rfl⟩:=rx; exact SeqAt.EqAt.int_int a t' b t
  | str b=>obtain ⟨t,rfl⟩:=rx; exact SeqAt.EqAt.int_str a t' b t
  | _=>exact absurd (show false=true from fx) Bool.false_ne_true
 | str a =>
  obtain ⟨t',rfl⟩:=ry;cases x with
  | non=>cases rx; exact SeqAt.EqAt.str_none a t'
  | bl b=>cases rx; exact SeqAt.EqAt.str_bool a t' b
  | int b=>obtain ⟨t,rfl⟩:=rx; exact SeqAt.EqAt.str_int a t' b t
  | str b=>obtain ⟨t,rfl⟩:=rx; exact SeqAt.EqAt.str_str a t' b t
  | _=>exact absurd (show false=true from fx) Bool.false_ne_true
 | _=>exact absurd (show false=true from fy) Bool.false_ne_true
noncomputable def eqU (x:V) (u:Value):Bool:=match u with
 | .none=>eqV .non x
 | .bool b=>eqV (.bl b) x
 | .int i _=>eqV (.int i) x
 | .str z _=>eqV (.str z) x
 | _=>false
theorem QL {x y:V} (r:RelV y u) (f:FP y=true):eqU x u=eqV y x:=by
 cases y with
 | non=>cases r; rfl
 | bl b=>cases r; rfl
 | int i=>obtain ⟨t,rfl⟩:=r; rfl
 | str z=>obtain ⟨t,rfl⟩:=r; rfl
 | _=>exact absurd (show false=true from f) Bool.false_ne_true
theorem KH {x:V}:∀ {xs:List V} {us:List Value},Vals xs us->xs.all FP=true->us.any (eqU x)=xs.any fun y=>eqV y x
 | _,_,.nil,_=>rfl
 | y :: xs,u :: us,.cons r t,f=>by
  rw [List.all_cons,Bool.and_eq_true] at f;rw [any_cons,any_cons,QL r f.1,KH t f.2]
theorem HZ {A:Around} {s:Shared} {x:V} {v:Value} (rx:RelV x v) (fx:FP x=true):∀ {xs:List V} {us:List Value},Vals xs us->xs.all FP=true->∀ u ∈ us,SeqAt.EqAt A s u v (eqU x u)
 | _,_,.nil,_=>fun u hu=>by cases hu
 | y :: xs,u :: us,.cons r t,f=>fun u' hu=>by
  rw [List.all_cons,Bool.and_eq_true] at f;rcases mem_cons.mp hu with rfl | hu
  ·rw [QL r f.1]; exact UP r rx f.1 fx
  ·exact HZ rx fx t f.2 u' hu
noncomputable def inV (x:V) (xs:List V):Bool:=xs.any fun y=>eqV y x
def rIn (K:FG) (neg:Bool):R2:=fun x y H Q=>∃ p xs,y=.ref p/\(SqL K H p xs\/SqT K H p xs)/\FP x=true/\xs.all FP=true/\Q (.bl (if neg then !inV x xs else inV x xs)) H
theorem Ja:OpR X (compareOp .In) (rIn X.K false):=by
 intro aa s σ H x y v u Q I rx ry h;obtain ⟨p,xs,rfl,hq,fx,fs,q⟩:=h;cases ry;rcases hq with hq | hq
 ·obtain ⟨its,r,pl,hz⟩:=I.list hq;refine SeqAt.in_listAt (eqU x) pl.isList (fun w hw=>HZ rx fx r fs w (by simpa using hw)) ⟨.bl _,H,I,rfl,?_⟩;rw [show its.toArray.any (eqU x)=its.any (eqU x) by simp,KH r fs];exact q
 ·obtain ⟨its,r,pl,hz⟩:=I.tuple hq;refine SeqAt.in_tupleAt (eqU x) pl (fun w hw=>HZ rx fx r fs w (by simpa using hw)) ⟨.bl _,H,I,rfl,?_⟩;rw [show its.toArray.any (eqU x)=its.any (eqU x) by simp,KH r fs];exact q
theorem FQ:Bk X (.builtin "len") (fun xs H Q=>∃ p ys,xs=[.ref p]/\(SqL X.K H p ys\/SqT X.K H p ys)/\Q (.int ys.length) H):=by
 intro aa s σ H xs us Q I r h;obtain ⟨p,ys,rfl,hq,q⟩:=h;obtain ⟨u,rfl,rx⟩:=CM r;cases rx;have hn:=HW;rcases hq with hq | hq
 ·obtain ⟨its,r',pl,hz⟩:=I.list hq;have bw:=r'.length;exact Calls.call_len_list pl.isList (by simp only [size_toArray] <;> omega) ⟨.int ys.length,H,I.tok _,⟨s.toks + 1,by rw [size_toArray,bw]⟩,q⟩
 ·obtain ⟨its,r',pl,hz⟩:=I.tuple hq;have bw:=r'.length;exact len_tuple pl (by simp only [size_toArray] <;> omega) ⟨.int ys.length,H,I.tok _,⟨s.toks + 1,by rw [size_toArray,bw]⟩,q⟩
theorem KJ:Bk X (.builtin "len") (fun xs H Q=>∃ z,xs=[.str z]/\z.length <= sizeLine/\Q (.int z.length) H):=by
 intro aa s σ H xs us Q I r h;obtain ⟨z,rfl,hz,q⟩:=h;obtain ⟨u,rfl,t,rfl⟩:=CM r;have hn:=HW;exact len_str (by omega) ⟨.int z.length,H,I.tok _,⟨_,rfl⟩,q⟩
theorem CI:Bk X (.type "tuple") (fun xs H Q=>∃ p ys,xs=[.ref p]/\((SqL X.K H p ys/\∀ l,H l=none->Q (.ref l) (upd H l (.tup ys)))\/(SqT X.K H p ys/\Q (.ref p) H))):=by
 intro aa s σ H xs us Q I r h;obtain ⟨p,ys,rfl,h⟩:=h;obtain ⟨u,rfl,rx⟩:=CM r;cases rx;rcases h with ⟨hq,q⟩ | ⟨hq,q⟩
 ·obtain ⟨its,r',pl,hz⟩:=I.list hq;have bw:=r'.length;refine call_tuple_list pl.isList (fun h' kp=>?_) (by simp only [size_toArray] <;> omega);have I1:Inv X aa σ H { s with heap:=h' }:=I.kept (t':=s.toks) kp
  have I2:Inv X aa σ (upd H h'.objs.size (.tup ys)) { s with heap:=h'.push { cls:=.type "tuple", data:=.seq its.toArray } } :=
   I1.laid (t':=s.toks) (fun b o e=>get?_push_of_some _ e) (Nat.le_refl _) (show ObjOk X.prog X.w _ _ _ (.tup ys) from ⟨hz,its,r',IsTup.new _ _⟩)
  exact ⟨.ref h'.objs.size,_,I2,rfl,q _ (I1.hok.fresh (Nat.le_refl _))⟩
 ·obtain ⟨its,r',pl,hz⟩:=I.tuple hq;exact call_tuple_same pl ⟨.ref p,H,I,rfl,q⟩
def tyV (K:FG) (T:String) (x:V) (H:Hp):Prop:=match x with
 | .str _=>T = "str"
 | .int _=>T = "int"
 | .ref p=>(T = "list" /\ ∃ xs,SqL K H p xs)\/(T = "tuple" /\ ∃ o,K.lookup p=some o/\o.cls=.type "tuple" /\ o.dict=none) \/
   (T = "dict" /\ ((∃ kvs,H p=some (.dK kvs))\/∃ kvs,H p=some (.dT kvs)))\/(T = "set" /\ ∃ S n,H p=some (.set S n))
 | _=>False
theorem QM {T:String} {x:V} {v:Value} (I:Inv X aa σ H s) (r:RelV x v) (ty:tyV X.K T x H) :
  s.TypeIs v T/\∀ a,v=.ref a->∃ ob,s.heap.get? a=some ob/\ob.dict=none:=by
 cases x with
 | str z =>
  obtain ⟨t,rfl⟩:=r;cases (show T = "str" from ty);exact ⟨typeIs_str s z t,fun _ e=>nomatch e⟩
 | int i =>
  obtain ⟨t,rfl⟩:=r;cases (show T = "int" from ty);exact ⟨typeIs_int s i t,fun _ e=>nomatch e⟩
 | ref p =>
  cases r;rcases ty with ⟨rfl,xs,hq⟩ | ⟨rfl,o,hk,hc,hd⟩ | ⟨rfl,hk⟩ | ⟨rfl,S,n,hk⟩
  ·obtain ⟨its,_,pl,_⟩:=I.list hq;refine ⟨pl.isList.typeIs,fun a e=>?_⟩;cases e;obtain ⟨o,n,e,c,hd,_⟩:=pl;exact ⟨o,e,hd⟩
  ·refine ⟨⟨o,I.kIn p o hk,hc⟩,fun a e=>?_⟩;cases e;exact ⟨o,I.kIn _ o hk,hd⟩
  ·have z:∃ o,s.heap.get? p=some o/\o.ExactDict:=by
    rcases hk with ⟨kvs,hk⟩ | ⟨kvs,hk⟩
    ·obtain ⟨_,_,_,_,o,_,_,e,ex,_⟩:=I.hok p _ hk;exact ⟨o,e,ex⟩
    ·obtain ⟨_,_,_,_,o,_,_,e,ex,_⟩:=I.hok p _ hk;exact ⟨o,e,ex⟩
   obtain ⟨o,e,ex⟩:=z;refine ⟨⟨o,e,ex.1⟩,fun a e2=>?_⟩;cases e2;exact ⟨o,e,ex.2.1⟩
  ·obtain ⟨o,_,_,_,e,ex,_⟩:=I.hok p _ hk;refine ⟨⟨o,e,ex.1⟩,fun a e2=>?_⟩;cases e2;exact ⟨o,e,ex.2.1⟩
 | _=>exact False.elim ty
def WK (K:FG) (T:String) (r:V->List V->Hp->VK->Prop) (to:TE):TE:=fun σ H Q=>to σ H fun x H1=>tyV K T x H1/\r x [] H1 Q
def tBM (K:FG) (T:String) (r:V->List V->Hp->VK->Prop) (to:TE) (t:TA):TE:=fun σ H Q=>to σ H fun x H1=>tyV K T x H1/\t σ H1 fun xs H2=>r x xs H2 Q
variable {o:Expr} {es:List Expr} {to:TE} {t:TA} {name:Str} {apos cpos:Pos} {T id:String} {r:V->List V->Hp->VK->Prop}
theorem UQ (pa:PlainAttrs T) (slot:Slot T name id) (hty:typeOf (.builtin id)=pure (.type "method_descriptor")) (hm:MtR X id r) (ho:PE X o to)
  (cc:attributeBase o name X.env (eval o X.env)=eval o X.env:=by rfl) (ci:(apos.endLine == cpos.line)=true:=by rfl):PE X (.Call (.Attribute o name apos) [] [] cpos) (WK X.K T r to):=by
 intro aa s σ H Q I h;refine wpAny_Call_method0_late cc ci (thn (ho aa s σ H _ I h) fun v s1 ⟨x,H1,I1,r1,ty,q1⟩=>?_);obtain ⟨h1,h2⟩:=QM I1 r1 ty;exact ⟨T,id,pa,slot,hty,h1,h2,Calls.callWith_builtin rfl (PySem.evalArgs_none (hm aa s1 σ H1 x [] v [] Q I1 r1 .nil q1))⟩
theorem Gs (pa:PlainAttrs T) (slot:Slot T name id) (hty:typeOf (.builtin id)=pure (.type "method_descriptor")) (hm:MtR X id r) (ho:PE X o to) (ha:PA X (e :: es) t)
  (cc:attributeBase o name X.env (eval o X.env)=eval o X.env:=by rfl)
  (hfew:((backTo cpos (starEach (e :: es) X.env)).all (fun x=>!x.1) && (backToKw cpos (keywordEach [] X.env)).all (fun x=>x.1.isSome)
   && decide ((e :: es).length + ([]:List Keyword).length + (if ([]:List Keyword).isEmpty then 0 else 1) < 30))=true:=by rfl)
  (ci:(apos.endLine == cpos.line)=true:=by rfl) (hs:starEach (e :: es) X.env=(false,eval e X.env) :: starEach es X.env:=by rfl) (hplain:(backTo cpos (starEach es X.env)).any (·.1)=false:=by rfl) :
  PE X (.Call (.Attribute o name apos) (e :: es) [] cpos) (tBM X.K T r to t):=by
 intro aa s σ H Q I h;refine wpAny_Call_method_late cc hfew ci rfl (thn (ho aa s σ H _ I h) fun v s1 ⟨x,H1,I1,r1,ty,q1⟩=>?_);obtain ⟨h1,h2⟩:=QM I1 r1 ty;refine ⟨T,id,pa,slot,hty,h1,h2,?_⟩;have hA:=ha cpos aa s1 σ H1 _ I1 q1;rw [hs] at hA ⊢;refine Calls.callWith_builtin (by show (false || (backTo cpos (starEach es X.env)).any (·.1))=false; rw [hplain] <;> rfl) (Calls.evalArgs_plain ?_);exact thn hA fun us s2 ⟨vs,H2,I2,r2,q2⟩=>hm aa s2 σ H2 x vs v us Q I2 r1 r2 q2
end
end L2
namespace L2
open PySem PySem.Spec PyProof.Rows
def MtM (X:Cx) (id:String) (r:V->List V->Hp->VK->Prop):Prop :=
 ∀ (aa:LO) (s:Shared) (σ:St) (H:Hp) (x:V) (xs:List V) (v:Value) (us:List Value) (Q:VK),Inv X aa σ H s->RelV x v->Vals xs us->r x xs H Q ->
  wpAny (model X.prog X.w) X.A (call (.builtin id) (v :: us)) (EP X aa σ Q) X.xe s
theorem Vals.one:∀ {x:V} {us:List Value},Vals [x] us->∃ u,us=[u]/\RelV x u
 | _,_,.cons r .nil=>⟨_,rfl,r⟩
section
variable {l b:Addr} {ys zs:List V}
theorem Inv.lset {its its':List Value} {n:Nat} {f:Array Value->Array Value} {t':Nat} (I:Inv X aa σ H s) (hH:H l=some (.lst xs))
  (e:s.heap.get? l=some { cls:=.type "list", data:=.seq its.toArray n }) (hf:f its.toArray=its'.toArray) (hv:Vals ys its') (hz:ys.length <= sizeLine) :
  Inv X aa σ (upd H l (.lst ys)) { s with heap:=s.heap.update l (Obj.mapSeq f),toks:=t' }:=by
 have q:=PySem.IsL.update e f;rw [hf] at q;refine I.write (x:=l) (e:=l) (by rw [hH]; exact trivial) (.inl rfl) (fun b' u hb hu=>(get?_update_other s.heap (Obj.mapSeq f) (Ne.symm hb)).trans hu) ⟨_,q⟩ ?_;exact ⟨hz,its',_,hv,q⟩
theorem Inv.lnew {its:List Value} {t':Nat} (I:Inv X aa σ H s) (hv:Vals ys its) (hz:ys.length <= sizeLine) :
  Inv X aa σ (upd H s.heap.objs.size (.lst ys)) { s with heap:=s.heap.push { cls:=.type "list", data:=.seq its.toArray },toks:=t' } :=
 I.laid (fun _ _ q=>get?_push_of_some _ q) (Nat.le_refl _) ⟨hz,its,0,hv,get?_push_size _ rfl⟩
theorem Inv.fresh (I:Inv X aa σ H s):H s.heap.objs.size=none:=I.hok.fresh (Nat.le_refl _)
theorem Inv.lstM (I:Inv X aa σ H s) (hH:H l=some (.lst xs)):xs.length <= sizeLine/\∃ (its:List Value) (n:Nat),Vals xs its/\xs.length=its.length/\s.heap.get? l=some { cls:=.type "list", data:=.seq its.toArray n }:=by
 obtain ⟨z,its,n,r,e⟩:=I.hok l _ hH;exact ⟨z,its,n,r,r.length,e⟩
theorem QN {n:Nat} (h:n <= sizeLine):Builtin.List.listTooLong n=false:=by
 unfold Builtin.List.listTooLong;exact decide_eq_false (by omega)
end
section
def Se:V->List V->Hp->VK->Prop:=fun x vs H Q=>∃ l xs y,x=.ref l/\vs=[y]/\H l=some (.lst xs)/\xs.length < sizeLine/\Q .non (upd H l (.lst (xs++[y])))
theorem EQ:MtM X "list.append" Se:=by
 intro aa s σ H x vs v us Q I rx rv h;obtain ⟨l,xs,y,rfl,rfl,hH,hz,q⟩:=h;cases rx;obtain ⟨u,rfl,ru⟩:=rv.one;obtain ⟨z,its,n,r,hl,e⟩:=I.lstM hH;refine call_meets F.slot_list_append ⟨_,e,rfl⟩ F.entry_list_append (F.args_list_append_2 _ _) (PySem.list_append l its.toArray n u (by rw [size_toArray]; omega)) ⟨e,?_⟩;refine ⟨.non,_,I.lset (its':=its++[u]) hH e (by simp) (r.append (.cons ru .nil)) ?_,rfl,q⟩;rw [length_append,length_singleton];omega
def WL:R2:=fun x y H Q=>∃ l b xs zs,x=.ref l/\y=.ref b/\H l=some (.lst xs)/\H b=some (.lst zs)/\xs.length + zs.length <= sizeLine/\∀ p,H p=none->Q (.ref p) (upd H p (.lst (xs++zs)))
theorem Hi:OpR X (binaryOp .Add) WL:=by
 intro aa s σ H x y v u Q I rx ry h;obtain ⟨l,b,xs,zs,rfl,rfl,hH,hB,hz,q⟩:=h;cases rx;cases ry;obtain ⟨z,its,n,r,hl,e⟩:=I.lstM hH;obtain ⟨z2,its2,n2,r2,hl2,e2⟩:=I.lstM hB;refine PySem.P.add_list e e2 ?_ (by rw [size_toArray,size_toArray]; omega);have ea:its.toArray++its2.toArray=(its++its2).toArray:=by simp
 rw [ea];exact ⟨.ref _,_,I.lnew (t':=s.toks) (r.append r2) (by rw [length_append]; omega),rfl,q _ I.fresh⟩
end
end L2
namespace L2
open PySem PySem.Spec PyProof.Rows
section
variable {κ:Type} [DecidableEq κ]
noncomputable def Au (kvs:List (κ × V)) (k:κ):Option V:=(kvs.find? fun kv=>decide (kv.1=k)).map (·.2)
noncomputable def BM (kvs:List (κ × V)) (k:κ) (v:V):List (κ × V) :=
 if (kvs.any fun kv=>decide (kv.1=k))=true then kvs.map (fun kv=>if kv.1=k then (kv.1,v) else kv) else kvs++[(k,v)]
theorem BP {p:κ × V} {r:List (κ × V)} {k:κ} (e:p.1=k):Au (p :: r) k=some p.2:=by simp [Au,find?_cons,e]
theorem BQ {p:κ × V} {r:List (κ × V)} {k:κ} (e:¬ p.1=k):Au (p :: r) k=Au r k:=by simp [Au,find?_cons,e]
theorem Dm (k:κ):∀ kvs:List (κ × V),(kvs.any fun kv=>decide (kv.1=k))=(Au kvs k).isSome
 | []=>rfl
 | p :: r=>by
  rw [any_cons];by_cases e:p.1=k
  ·simp only [BP e,decide_eq_true e,Bool.true_or,Option.isSome_some]
  ·rw [BQ e,decide_eq_false e,Bool.false_or]; exact Dm k r
theorem LD (k j:κ) (y:V):∀ kvs:List (κ × V),Au (kvs.map fun kv=>if kv.1=k then (kv.1,y) else kv) j=(Au kvs j).map fun x=>if j=k then y else x
 | []=>rfl
 | p :: r=>by
  have ih:=LD k j y r;rw [map_cons];by_cases h:p.1=k
  ·rw [if_pos h];by_cases e:p.1=j
   ·rw [BP (p:=(p.1,y)) e,BP e,Option.map_some,if_pos (e.symm.trans h)]
   ·rw [BQ (p:=(p.1,y)) e,BQ e,ih]
  ·rw [if_neg h];by_cases e:p.1=j
   ·rw [BP (p:=p) e,BP e,Option.map_some,if_neg (fun z=>h (e.trans z))]
   ·rw [BQ (p:=p) e,BQ e,ih]
theorem Jb (k j:κ) (y:V):∀ kvs:List (κ × V),Au kvs k=none->Au (kvs++[(k,y)]) j=if j=k then some y else Au kvs j
 | [],_=>by
  by_cases e:k=j
  ·rw [if_pos e.symm]; exact BP (p:=(k,y)) e
  ·rw [if_neg (fun z=>e z.symm)]; exact BQ (p:=(k,y)) e
 | p :: r,hn=>by
  rw [cons_append];have hk:¬ p.1=k:=fun z=>by rw [BP z] at hn; cases hn
  rw [BQ hk] at hn;have ih:=Jb k j y r hn;by_cases e:p.1=j
  ·rw [BP e,BP e,if_neg (fun z=>hk (e.trans z))]
  ·rw [BQ e,BQ e,ih]
theorem Hj (kvs:List (κ × V)) (k j:κ) (y:V):Au (BM kvs k y) j=if j=k then some y else Au kvs j:=by
 unfold BM;by_cases a:(kvs.any fun kv=>decide (kv.1=k))=true
 ·rw [if_pos a,LD];rw [Dm] at a;by_cases e:j=k
  ·obtain ⟨x,hx⟩:=Option.isSome_iff_exists.mp a;rw [if_pos e,e,hx,Option.map_some,if_pos rfl]
  ·rw [if_neg e];cases Au kvs j with
   | none=>rfl
   | some x=>rw [Option.map_some,if_neg e]
 ·rw [if_neg a];refine Jb k j y kvs ?_;rw [Dm] at a;cases q:Au kvs k with
  | none=>rfl
  | some x=>rw [q] at a; exact (a rfl).elim
theorem Bb (kvs:List (κ × V)) (k:κ) (v:V):(BM kvs k v).length <= kvs.length + 1:=by
 unfold BM;split
 ·rw [AF]; omega
 ·rw [length_append,length_cons,length_nil]; omega
theorem Do {kvs:List (κ × V)} {k:κ} (v:V) (h:Au kvs k=none):BM kvs k v=kvs++[(k,v)]:=by
 unfold BM;rw [Dm,h];exact if_neg (by decide)
theorem RelO.isSome_eq {o:Option V} {u:Option Value} (r:RelO o u):o.isSome=u.isSome:=by
 cases o with
 | none=>cases u with
  | none=>rfl
  | some _=>exact (show False from r).elim
 | some _=>cases u with
  | none=>exact (show False from r).elim
  | some _=>rfl
theorem KV.val {kvs:List (κ × V)} {vs:List (κ × Value)} (r:KV kvs vs) (k:κ):RelO (Au kvs k) (valueAt vs k):=by
 unfold KV at r;induction r with
 | nil=>exact True.intro
 | @cons p q ps qs h t ih =>
  obtain ⟨h1,h2⟩:=h;by_cases e:p.1=k
  ·have e':q.1=k:=h1.symm.trans e;have b:valueAt (q :: qs) k=some q.2:=by simp [valueAt,find?_cons,e']
   rw [BP e,b]; exact h2
  ·have e':¬ q.1=k:=fun z=>e (h1.trans z);have b:valueAt (q :: qs) k=valueAt qs k:=by simp [valueAt,find?_cons,e']
   rw [BQ e,b]; exact ih
theorem KV.any {kvs:List (κ × V)} {vs:List (κ × Value)} (r:KV kvs vs) (k:κ):(kvs.any fun kv=>decide (kv.1=k))=vs.any fun kv=>decide (kv.1=k):=by
 unfold KV at r;induction r with
 | nil=>rfl
 | cons h t ih=>rw [any_cons,any_cons,ih,h.1]
theorem KV.repl {kvs:List (κ × V)} {vs:List (κ × Value)} (r:KV kvs vs) (k:κ) {y:V} (ry:RelV y u) :
  KV (kvs.map fun kv=>if kv.1=k then (kv.1,y) else kv) (vs.map fun kv=>if kv.1=k then (kv.1,u) else kv):=by
 unfold KV at r ⊢;induction r with
 | nil=>exact .nil
 | @cons p q ps qs h t ih =>
  rw [map_cons,map_cons];refine .cons ?_ ih;obtain ⟨h1,h2⟩:=h;by_cases e:p.1=k
  ·rw [if_pos e,if_pos (h1.symm.trans e)]; exact ⟨h1,ry⟩
  ·rw [if_neg e,if_neg (fun z=>e (h1.trans z))]; exact ⟨h1,h2⟩
theorem KV.put {kvs:List (κ × V)} {vs:List (κ × Value)} (r:KV kvs vs) (k:κ) {y:V} (ry:RelV y u):KV (BM kvs k y) (stored vs k u):=by
 unfold BM stored;rw [r.any k];by_cases e:(vs.any fun kv=>decide (kv.1=k))=true
 ·rw [if_pos e,if_pos e]; exact r.repl k ry
 ·rw [if_neg e,if_neg e]; exact Paired.snoc r ⟨rfl,ry⟩
theorem KV.length {kvs:List (κ × V)} {vs:List (κ × Value)} (r:KV kvs vs):kvs.length=vs.length:=Paired.length r
end
theorem FR {k:Key} (r:RelV (kV k) u):(Al P w).is k u=true:=by
 cases k with
 | inl i=>obtain ⟨t,e⟩:=(show ∃ t,u=Value.int i t from r); subst e; exact Kx P w i t
 | inr x=>obtain ⟨t,e⟩:=(show ∃ t,u=Value.str x t from r); subst e; exact Ky P w x t
theorem Jc {P:Program} {w:World}:∀ {ks:List Key} {us:List Value},Vals (ks.map kV) us->ItemsAre (Al P w) ks us
 | [],_,r=>by rw [map_nil] at r; cases r; exact .nil
 | k :: ks,_,r=>by
  rw [map_cons] at r;cases r with
  | cons h t=>exact .cons (FR h) (Jc t)
abbrev KT (H:Hp):List (List Key × V)->List (List Key × Addr × Value)->Prop:=Paired fun p q=>p.1=q.1/\H q.2.1=some (.tup (p.1.map kV))/\RelV p.2 q.2.2
theorem KT.val {kvs:List (List Key × V)} {xs:List (List Key × Addr × Value)} (r:KT H kvs xs) (k:List Key):RelO (Au kvs k) ((atKey xs k).map (·.2)):=by
 induction r with
 | nil=>exact True.intro
 | @cons p q ps qs h t ih =>
  obtain ⟨h1,_,h2⟩:=h;by_cases e:p.1=k
  ·have e':q.1=k:=h1.symm.trans e;have b:atKey (q :: qs) k=some q.2:=by simp [atKey,find?_cons,e']
   rw [BP e,b]; exact h2
  ·have e':¬ q.1=k:=fun z=>e (h1.trans z);have b:atKey (q :: qs) k=atKey qs k:=by simp [atKey,find?_cons,e']
   rw [BQ e,b]; exact ih
theorem KT.repl {kvs:List (List Key × V)} {xs:List (List Key × Addr × Value)} (r:KT H kvs xs) (k:List Key) {y:V} (ry:RelV y u) :
  KT H (kvs.map fun kv=>if kv.1=k then (kv.1,y) else kv) (xs.map (putAt k u)):=by
 induction r with
 | nil=>exact .nil
 | @cons p q ps qs h t ih =>
  rw [map_cons,map_cons];refine .cons ?_ ih;obtain ⟨h1,h2,h3⟩:=h;unfold putAt;by_cases e:p.1=k
  ·rw [if_pos e,if_pos (h1.symm.trans e)]; exact ⟨h1,h2,ry⟩
  ·rw [if_neg e,if_neg (fun z=>e (h1.trans z))]; exact ⟨h1,h2,h3⟩
theorem KT.put {kvs:List (List Key × V)} {xs:List (List Key × Addr × Value)} (r:KT H kvs xs) (k:List Key) {b:Addr} {y:V} (hb:H b=some (.tup (k.map kV))) (ry:RelV y u) :
  KT H (BM kvs k y) (storedH xs k b u):=by
 have e:(kvs.any fun kv=>decide (kv.1=k))=(atKey xs k).isSome:=by
  rw [Dm,(r.val k).isSome_eq,Option.isSome_map]
 unfold BM storedH;rw [e];by_cases q:(atKey xs k).isSome=true
 ·rw [if_pos q,if_pos q]; exact r.repl k ry
 ·rw [if_neg q,if_neg q]; exact Paired.snoc r ⟨rfl,hb,ry⟩
theorem KT.keeps {kvs:List (List Key × V)} {xs:List (List Key × Addr × Value)} (r:KT H kvs xs) (ht:∀ b ys,H b=some (.tup ys)->H' b=some (.tup ys)):KT H' kvs xs :=
 Paired.mapP r fun _ _ z=>⟨z.1,ht _ _ z.2.1,z.2.2⟩
section
theorem Tu {u:HO} (ok:HOk P w H h) (e:Rd H a u):ObjOk P w H h a u:=e.ok ok
theorem C7 {kvs:LK} (ok:HOk P w H h) (e:Rd H a (.dK kvs)):kvs.length <= sizeLine/\(a == sysModules)=false/\∃ vs,KV kvs vs/\h.DictOf (Al P w) a vs :=
 show ObjOk P w H h a (.dK kvs) from Tu ok e
theorem N1 {kvs:LK} (ok:HOk P w H h) (e:H a=some (.dK kvs)):kvs.length <= sizeLine/\(a == sysModules)=false/\∃ vs,KV kvs vs/\h.DictOf (Al P w) a vs:=C7 ok (.inl e)
theorem Hk {ks:List Key} (ok:HOk P w H h) (e:H a=some (.tup (ks.map kV))):(tupleKind (Al P w)).is h ks a:=by
 obtain ⟨_,its,r,o,h1,h2,n,h3⟩:=(show ObjOk P w H h a (.tup (ks.map kV)) from ok a _ e);exact ⟨o,its.toArray,n,h1,h2,h3,by simpa using Jc r⟩
theorem Jd {kvs:List (List Key × V)} (ok:HOk P w H h) (e:Rd H a (.dT kvs)):kvs.length <= sizeLine/\(a == sysModules)=false /\
  ∃ xs,KT H kvs xs/\h.DictOfH (tupleKind (Al P w)) a xs:=by
 obtain ⟨z,y,xs,r,o,es,ep,h1,h2,h3,h4,h5⟩:=(show ObjOk P w H h a (.dT kvs) from Tu ok e);refine ⟨z,y,xs,r,o,es,ep,h1,h2,h3,h4,fun x hx=>?_,h5⟩
 have all:∀ {l:List (List Key × V)} {m:List (List Key × Addr × Value)},KT H l m->∀ x ∈ m,(tupleKind (Al P w)).is h x.1 x.2.1:=by
  intro l m q;induction q with
  | nil=>intro x hx; exact nomatch hx
  | @cons p q ps qs hq t ih =>
   intro x hx;rcases mem_cons.mp hx with e | hx
   ·subst e;exact Hk ok (by rw [← hq.1]; exact hq.2.1)
   ·exact ih x hx
 exact all r x hx
theorem Vh {kvs:List (List Key × V)} (ok:HOk P w H h) (e:H a=some (.dT kvs)):kvs.length <= sizeLine/\(a == sysModules)=false /\
  ∃ xs,KT H kvs xs/\h.DictOfH (tupleKind (Al P w)) a xs:=Jd ok (.inl e)
end
def LF (H:Hp) (a:Addr) (y:V) (r:Option V):Prop :=
 (∃ kvs k,Rd H a (.dK kvs)/\y=kV k/\r=Au kvs k)\/∃ kvs k b,Rd H a (.dT kvs)/\y=.ref b/\H b=some (.tup (k.map kV))/\r=Au kvs k
def DPut (H:Hp) (a:Addr) (y v:V) (H':Hp):Prop :=
 (∃ kvs k,H a=some (.dK kvs)/\y=kV k/\kvs.length < sizeLine/\H'=upd H a (.dK (BM kvs k v))) \/
 ∃ kvs k b,H a=some (.dT kvs)/\y=.ref b/\H b=some (.tup (k.map kV))/\kvs.length < sizeLine/\H'=upd H a (.dT (BM kvs k v))
theorem DPut.k {H:Hp} {a:Addr} {kvs:LK} {k:Key} {v:V} (e:H a=some (.dK kvs)) (hl:kvs.length < sizeLine):DPut H a (kV k) v (upd H a (.dK (BM kvs k v))):=.inl ⟨kvs,k,e,rfl,hl,rfl⟩
section
variable {y v:V} {r:Value} {o:Option V}
theorem Inv.big (I:Inv X aa σ H s):sysModules < s.heap.objs.size:=by
 have h:mainGlobals < s.heap.objs.size:=(I.mod.glob.keeps I.bk).lt;exact Nat.lt_trans (by decide) h
theorem Oi {Q:VS} (hu:A.units + 1 < cLine) (I:Inv X aa σ H s) (g:LF H a y (some v)) (ry:RelV y u) (h:∀ w' s',Inv X aa σ H s'->RelV v w'->Q w' s') :
  wpAny (model X.prog X.w) A (getItem (.ref a) u) Q E s:=by
 rcases g with ⟨kvs,k,e,ey,l⟩ | ⟨kvs,k,b,e,ey,eb,l⟩
 ·subst ey;obtain ⟨z,hd,vs,rel,dd⟩:=C7 I.hok e;obtain ⟨w',hw,rw'⟩:=RelO.some_of (v:=v) (o:=valueAt vs k) (by rw [l]; exact rel.val k);exact wpAny_getItem_of (FR ry) dd.mapOf hw (h w' _ (I.tok _) rw')
 ·subst ey;cases (show u=Value.ref b from ry);obtain ⟨z,hd,xs,rel,dd⟩:=Jd I.hok e;obtain ⟨w',hw,rw'⟩:=RelO.some_of (v:=v) (o:=(atKey xs k).map (·.2)) (by rw [l]; exact rel.val k);obtain ⟨p,hp,ax⟩:=Option.map_eq_some_iff.mp hw;refine wpAny_getItem_heap (tupleKind_room_in1 hu) (Hk I.hok eb) dd hp ?_;rw [ax];exact h w' _ (I.tok _) rw'
theorem WM {Q:VS} (hu:A.units + 1 < cLine) (I:Inv X aa σ H s) (g:LF H a y o) (ry:RelV y u) (h:∀ s',Inv X aa σ H s'->Q (.bool o.isSome) s') :
  wpAny (model X.prog X.w) A (compareOp .In u (.ref a)) Q E s:=by
 rcases g with ⟨kvs,k,e,ey,l⟩ | ⟨kvs,k,b,e,ey,eb,l⟩
 ·subst ey;obtain ⟨z,hd,vs,rel,dd⟩:=C7 I.hok e;refine wpAny_in_of (FR ry) hd dd.mapOf ?_;rw [← (rel.val k).isSome_eq,← l];exact h _ (I.tok _)
 ·subst ey;cases (show u=Value.ref b from ry);obtain ⟨z,hd,xs,rel,dd⟩:=Jd I.hok e;refine wpAny_in_heap (tupleKind_room_in1 hu) (Hk I.hok eb) hd dd ?_;have q:=(rel.val k).isSome_eq;rw [Option.isSome_map] at q;rw [← q,← l];exact h _ (I.tok _)
theorem Sf {Q:VS} (hu:A.units + 1 < cLine) (I:Inv X aa σ H s) (g:LF H a y o) (ry:RelV y u) (h:∀ s',Inv X aa σ H s'->Q (.bool (!o.isSome)) s') :
  wpAny (model X.prog X.w) A (compareOp .NotIn u (.ref a)) Q E s:=by
 rcases g with ⟨kvs,k,e,ey,l⟩ | ⟨kvs,k,b,e,ey,eb,l⟩
 ·subst ey;obtain ⟨z,hd,vs,rel,dd⟩:=C7 I.hok e;refine wpAny_notIn_of (FR ry) hd dd.mapOf ?_;rw [← (rel.val k).isSome_eq,← l];exact h _ (I.tok _)
 ·subst ey;cases (show u=Value.ref b from ry);obtain ⟨z,hd,xs,rel,dd⟩:=Jd I.hok e;refine wpAny_notIn_heap (tupleKind_room_in1 hu) (Hk I.hok eb) hd dd ?_;have q:=(rel.val k).isSome_eq;rw [Option.isSome_map] at q;rw [← q,← l];exact h _ (I.tok _)
theorem FS {h':Heap} {t':Nat} {ob:HO} (I:Inv X aa σ H s) (mu:Mut (H a)) (hs:Heap.SameBut a s.heap h') (he:∃ q,h'.get? a=some q) (new:ObjOk X.prog X.w (upd H a ob) h' a ob) :
  Inv X aa σ (upd H a ob) { s with heap:=h',toks:=t' } :=
 I.write (x:=a) (e:=a) mu (.inl rfl) (fun b q hb z=>(hs.2 b hb).trans z) he new
theorem Hl {h':Heap} {kvs:LK} {vs:List (Key × Value)} (z:kvs.length <= sizeLine) (hd:(a == sysModules)=false) (rel:KV kvs vs) (dd:h'.DictOf (Al P w) a vs) :
  ObjOk P w H' h' a (.dK kvs):=⟨z,hd,vs,rel,dd⟩
theorem Oj {Q:Unit->Shared->Prop} (hu:A.units + 1 < cLine) (I:Inv X aa σ H s) (g:DPut H a y v H') (ry:RelV y u) (rv:RelV v r) (h:∀ s',Inv X aa σ H' s'->Q () s') :
  wpAny (model X.prog X.w) A (setItem (.ref a) u r) Q E s:=by
 rcases g with ⟨kvs,k,e,ey,l,eH⟩ | ⟨kvs,k,b,e,ey,eb,l,eH⟩
 ·subst ey eH;obtain ⟨z,hd,vs,rel,dd⟩:=N1 I.hok e;have hz:vs.length <= sizeLine:=by rw [← rel.length]; exact z
  have hl:(BM kvs k v).length <= sizeLine:=by have:=Bb kvs k v; omega
  refine wpAny_setItem_pairs (hsz:=hz) (FR ry) dd fun h' dd' hs=>h _ ?_;have he:∃ q,h'.get? a=some q:=let ⟨q,_,_,hq,_⟩:=dd'; ⟨q,hq⟩
  exact FS I (by rw [e]; exact True.intro) hs he (Hl hl hd (rel.put k rv) dd')
 ·subst ey eH;cases (show u=Value.ref b from ry);obtain ⟨z,hd,xs,rel,dd⟩:=Vh I.hok e;have hz:xs.length <= sizeLine:=by rw [← Paired.length rel]; exact z
  have hl:(BM kvs k v).length <= sizeLine:=by have:=Bb kvs k v; omega
  refine wpAny_setItem_heap (hsz:=hz) (tupleKind_room_in1 hu) (Hk I.hok eb) dd fun h' dd' hs=>h _ ?_;obtain ⟨q,es,ep,hq,h2,h3,h4,_,h5⟩:=dd';refine FS I (by rw [e]; exact True.intro) hs ⟨q,hq⟩ ⟨hl,hd,_,(rel.put k eb rv).keeps fun c ys ec=>?_,q,es,ep,hq,h2,h3,h4,h5⟩;rw [AH (VL ec e (fun z=>nomatch z))];exact ec
end
section
variable {kvs:LK} {k:Key}
theorem Vi {Q:VS} (I:Inv X aa σ H s) (e:Rd H a (.dK kvs)) (h:∀ t s',Inv X aa σ H s'->Q (.int kvs.length t) s'):wpAny (model X.prog X.w) A (call (.builtin "len") [.ref a]) Q E s:=by
 obtain ⟨z,hd,vs,rel,dd⟩:=C7 I.hok e;refine call_len_dict hd dd (by rw [← rel.length]; rw [sizeLine_eq] at z; omega) ?_;rw [← rel.length];exact h _ _ (I.tok _)
end
def Vj (i:Expr):Prop:=∀ ov iv,subscripted i false ov iv=operate [ov,iv] (getItem ov iv)
theorem Sg {prog:Program} {env:Env} {value slice:Expr} {T id:String} {Q:VS}
  (hl:typeLookup (.type T) "__getitem__" = pure (some (.builtin id))) (hs:Vj slice)
  (h:wpAny (model prog w) A (eval value env) (fun o s₁=>wpAny (model prog w) A (eval slice env) (fun i s₂=>s₂.TypeIs o T/\wpAny (model prog w) A (getItem o i) Q E s₂) E s₁) E s) :
  wpAny (model prog w) A (eval (.Subscript value slice pos) env) Q E s:=by
 refine Subscript_ (wpAny_mono h (fun o s₁ h₁=>wpAny_mono h₁ (fun i s₂ h₂=>?_) fun _ _ x=>x) fun _ _ x=>x);obtain ⟨hT,h₂⟩:=h₂;unfold subscriptTail;refine wpAny_bind ?_;rw [getitemInPython_of_ne hT.not_modules];refine wpAny_bind (wpAny_specialOf hT hl ?_)
 have fin:wpAny (model prog w) A (subscripted slice false o i) (fun r s₃=>wpAny (model prog w) A (letTemporaryGo value o r >>= fun _=>pure r) Q E s₃) E s₂:=by
  rw [hs o i];exact wpAny_operating (wpAny_mono h₂ (fun r s₃ h₃=>wpAny_bind (wpAny_letTemporaryGo (wpAny_pure h₃))) fun _ _ x=>x)
 first
  | exact wpAny_pure (wpAny_bind fin)
  | exact wpAny_bind (wpAny_pure (wpAny_bind fin))
  | exact wpAny_bind fin
theorem LG {y:V} {o:Option V} (I:Inv X aa σ H s) (g:LF H a y o):s.TypeIs (.ref a) "dict" := by
 rcases g with ⟨kvs,k,e,_,_⟩ | ⟨kvs,k,b,e,_,_,_⟩
 ·obtain ⟨_,_,vs,_,dd⟩:=C7 I.hok e;exact dd.typeIs
 ·obtain ⟨_,_,xs,_,dd⟩:=Jd I.hok e;exact dd.typeIs
def Vk (td ty:TE):TE:=fun σ H Q=>td σ H fun x H1=>ty σ H1 fun y H2=>∃ a v,x=.ref a/\LF H2 a y (some v)/\Q v H2
def WN (ty td:TE):TE:=fun σ H Q=>ty σ H fun y H1=>td σ H1 fun x H2=>∃ a o,x=.ref a/\LF H2 a y o/\Q (.bl o.isSome) H2
def Sh (ty td:TE):TE:=fun σ H Q=>ty σ H fun y H1=>td σ H1 fun x H2=>∃ a o,x=.ref a/\LF H2 a y o/\Q (.bl (!o.isSome)) H2
def Vl (td ty tv:TE):TS:=fun D σ H=>tv σ H fun v H1=>td σ H1 fun x H2=>ty σ H2 fun y H3=>∃ a H4,x=.ref a/\DPut H3 a y v H4/\D.nx σ H4
section
variable {o i value:Expr} {pos' tpos:Pos} {td ty tv:TE}
theorem BJ (hu:X.A.units + 1 < cLine) (ho:PE X o td) (hi:PE X i ty) (hs:Vj i):PE X (.Subscript o i pos) (Vk td ty):=by
 intro aa s σ H Q I h;refine Sg PySem.F.slot_dict_getitem.lookup hs (thn (ho aa s σ H _ I h) fun u s1 ⟨x,H1,I1,rx,q1⟩=>thn (hi aa s1 σ H1 _ I1 q1) fun iv s2 ⟨y,H2,I2,ry,a,v,ex,g,q2⟩=>?_);subst ex;obtain rfl:u=Value.ref a:=rx;exact ⟨LG I2 g,Oi hu I2 g ry fun w' s3 I3 rw'=>⟨v,H2,I3,rw',q2⟩⟩
theorem KK (hu:X.A.units + 1 < cLine) (hi:PE X i ty) (ho:PE X o td):PC X .In i o (WN ty td):=by
 intro aa s σ H Q I h;refine thn (hi aa s σ H _ I h) fun iv s1 ⟨y,H1,I1,ry,q1⟩=>thn (ho aa s1 σ H1 _ I1 q1) fun u s2 ⟨x,H2,I2,rx,a,ov,ex,g,q2⟩=>?_;subst ex;obtain rfl:u=Value.ref a:=rx;exact WM hu I2 g ry fun s3 I3=>⟨.bl ov.isSome,H2,I3,rfl,q2⟩
theorem GG (hu:X.A.units + 1 < cLine) (hi:PE X i ty) (ho:PE X o td):PC X .NotIn i o (Sh ty td):=by
 intro aa s σ H Q I h;refine thn (hi aa s σ H _ I h) fun iv s1 ⟨y,H1,I1,ry,q1⟩=>thn (ho aa s1 σ H1 _ I1 q1) fun u s2 ⟨x,H2,I2,rx,a,ov,ex,g,q2⟩=>?_;subst ex;obtain rfl:u=Value.ref a:=rx;exact Sf hu I2 g ry fun s3 I3=>⟨.bl (!ov.isSome),H2,I3,rfl,q2⟩
theorem FU (hu:X.A.units + 1 < cLine) (ho:PE X o td) (hi:PE X i ty) (hv:PE X value tv) (hs:swapsWith value (some (.Subscript o i pos')) pos.line X.env=pure false) :
  PS X (.Assign [.Subscript o i pos'] value pos) (Vl td ty tv):=by
 intro aa s σ H D I h;refine wpAny_Assign_Subscript (thn (hv aa s σ H _ I h) fun r s1 ⟨v,H1,I1,rv,q1⟩=>thn (ho aa s1 σ H1 _ I1 q1) fun u s2 ⟨x,H2,I2,rx,q2⟩=>thn (hi aa s2 σ H2 _ I2 q2) fun iv s3 ⟨y,H3,I3,ry,a,H4,ex,g,q3⟩=>?_) hs;subst ex;obtain rfl:u=Value.ref a:=rx;exact Oj hu I3 g ry rv fun s4 I4=>⟨σ,H4,I4,q3⟩
end
theorem Hm (h:Heap) (hb:sysModules < h.objs.size):ObjOk P w H (h.push { cls:=.type "dict", data:=.dict #[] }) h.objs.size (.dK []) :=
 ⟨Nat.zero_le _,beq_eq_false_iff_ne.mpr (Ne.symm (Nat.ne_of_lt hb)),[],.nil,Heap.DictOf.new h⟩
def UR:TE:=fun _ H Q=>∀ p,H p=none->Q (.ref p) (upd H p (.dK []))
section
theorem C8:PE X (.Dict [] [] pos) UR:=fun aa s σ H Q I h =>
 wpAny_Dict_empty ⟨.ref s.heap.objs.size,_,I.laid (a:=s.heap.objs.size) (o:=.dK []) (t':=s.toks) (fun _ _ q=>get?_push_of_some _ q) (Nat.le_refl _) (Hm s.heap I.big),rfl,h _ (I.hok.fresh (Nat.le_refl _))⟩
end
def Mr:List (TE × TE)->St->Hp->(List (V × V)->Hp->Prop)->Prop
  | [],_,H,Q=>Q [] H
  | (tk,tv) :: r,σ,H,Q=>tk σ H fun x H1=>tv σ H1 fun y H2=>Mr r σ H2 fun ps H3=>Q ((x,y) :: ps) H3
abbrev VV:List (V × V)->List (Value × Value)->Prop:=Paired fun p q=>RelV p.1 q.1/\RelV p.2 q.2
def PPs (X:Cx) (pos:Pos) (keys:List (Option Expr)) (values:List Expr) (trs:List (TE × TE)):Prop :=
 ∀ (aa:LO) (s:Shared) (σ:St) (H:Hp) (Q:List (V × V)->Hp->Prop),Inv X aa σ H s->Mr trs σ H Q ->
  wpAny (model X.prog X.w) X.A (evalPairs (pairTrees keys values X.env pos)) (fun vs s'=>∃ ps H',Inv X aa σ H' s'/\VV ps vs/\Q ps H') X.xe s
theorem Si:PPs X pos [] [] []:=fun aa s σ H Q I h=>pairTrees_nil_walk ⟨[],H,I,.nil,h⟩
theorem FV {k v:Expr} {ks:List (Option Expr)} {vs:List Expr} {tk tv:TE} {trs:List (TE × TE)} (hk:PE X k tk) (hv:PE X v tv) (hr:PPs X pos ks vs trs) :
  PPs X pos (some k :: ks) (v :: vs) ((tk,tv) :: trs):=fun aa s σ H Q I h =>
 pairTrees_cons_walk (thn (hk aa s σ H _ I h) fun u s1 ⟨x,H1,I1,rx,q1⟩=>thn (hv aa s1 σ H1 _ I1 q1) fun w2 s2 ⟨y,H2,I2,ry,q2⟩ =>
  thn (hr aa s2 σ H2 _ I2 q2) fun ws s3 ⟨ps,H3,I3,rel,q3⟩=>⟨(x,y) :: ps,H3,I3,.cons ⟨rx,ry⟩ rel,q3⟩)
noncomputable def GH (kvs more:LK):LK:=more.foldl (fun acc kv=>BM acc kv.1 kv.2) kvs
theorem KV.merge:∀ {more:LK} {rs:List (Key × Value)} {kvs:LK} {vs:List (Key × Value)},KV more rs->KV kvs vs->KV (GH kvs more) (merged vs rs):=by
 intro more rs kvs vs r;unfold KV at r;induction r generalizing kvs vs with
 | nil=>intro q; exact q
 | @cons p q ps qs h t ih =>
  intro r0
  have e:KV (BM kvs p.1 p.2) (stored vs q.1 q.2):=by
   have:=r0.put p.1 h.2;rw [← h.1]; exact this
  exact ih e
theorem Eg:∀ (more kvs:LK),(GH kvs more).length <= kvs.length + more.length
 | [],kvs=>by show kvs.length <= kvs.length + 0; omega
 | p :: r,kvs=>by
  have h1:=Eg r (BM kvs p.1 p.2);have h2:=Bb kvs p.1 p.2;show (GH (BM kvs p.1 p.2) r).length <= _;rw [length_cons]; omega
theorem Ho {P:Program} {w:World}:∀ {kvs:LK} {ws:List (Value × Value)},VV (kvs.map fun kv=>(kV kv.1,kv.2)) ws->∃ rs,Carries (Al P w) ws rs/\KV kvs rs
 | [],_,r=>by rw [map_nil] at r; cases r; exact ⟨[],True.intro,.nil⟩
 | p :: kvs,_,r=>by
  rw [map_cons] at r;cases r with
  | @cons a b as bs h t =>
   obtain ⟨rs,c,q⟩:=Ho (P:=P) (w:=w) t;obtain ⟨b1,b2⟩:=b;exact ⟨(p.1,b2) :: rs,⟨FR h.1,rfl,c⟩,.cons ⟨rfl,h.2⟩ q⟩
def Vm (trs:List (TE × TE)):TE:=fun σ H Q=>∀ p,H p=none->Mr trs σ (upd H p (.dK [])) fun ps H2=>H2 p=some (.dK [])/\∃ kvs:LK,ps=kvs.map (fun kv=>(kV kv.1,kv.2))/\kvs.length <= 15/\Q (.ref p) (upd H2 p (.dK (GH [] kvs)))
theorem Sj {keys:List (Option Expr)} {values:List Expr} {trs:List (TE × TE)} (h:PPs X pos keys values trs) (cj:keys.all (·.isSome)=true) (hl:keys.length=values.length) (h0:keys ≠ [])
  (h15:keys.length <= 15):PE X (.Dict keys values pos) (Vm trs):=by
 intro aa s σ H Q I q;have hn:=I.hok.fresh (Nat.le_refl s.heap.objs.size);have I1:=I.laid (a:=s.heap.objs.size) (o:=.dK []) (h':=s.heap.push { cls:=.type "dict", data:=.dict #[] }) (t':=s.toks) (fun _ _ q=>get?_push_of_some _ q) (Nat.le_refl _) (Hm s.heap I.big);refine wpAny_Dict_walk (knd:=Al X.prog X.w) cj hl h0 h15 (thn (h aa _ σ _ _ I1 (q _ hn)) fun ws s2 ⟨ps,H2,I2,rel,e,kvs,ep,lk,q2⟩=>?_);subst ep;obtain ⟨rs,c,rk⟩:=Ho (P:=X.prog) (w:=X.w) rel;obtain ⟨z,hd,vs0,r0,dd⟩:=N1 I2.hok e;cases r0;refine ⟨rs,c,dd,fun h' dd' hs=>⟨.ref s.heap.objs.size,_,?_,rfl,q2⟩⟩
 have hz:(GH [] kvs).length <= sizeLine:=by
  have h1:=Eg kvs [];rw [length_nil] at h1;rw [sizeLine_eq]; omega
 have he:∃ q,h'.get? s.heap.objs.size=some q:=let ⟨q,_,_,hq,_⟩:=dd'; ⟨q,hq⟩
 exact FS I2 (by rw [e]; exact True.intro) hs he (Hl hz hd (rk.merge .nil) dd')
def IsD (H:Hp) (a:Addr):Prop:=(∃ kvs,Rd H a (.dK kvs))\/∃ kvs,Rd H a (.dT kvs)
theorem QO (I:Inv X aa σ H s) (d:IsD H a) :
  s.TypeIs (.ref a) "dict" /\ (∀ b,Value.ref a=.ref b->∃ ob,s.heap.get? b=some ob/\ob.dict=none)/\(a == sysModules)=false:=by
 rcases d with ⟨kvs,e⟩ | ⟨kvs,e⟩
 ·obtain ⟨_,hd,vs,_,dd⟩:=C7 I.hok e;refine ⟨dd.typeIs,fun b q=>?_,hd⟩;cases q;obtain ⟨ob,_,_,h1,h2,_⟩:=dd;exact ⟨ob,h1,h2.2.1⟩
 ·obtain ⟨_,hd,xs,_,dd⟩:=Jd I.hok e;refine ⟨dd.typeIs,fun b q=>?_,hd⟩;cases q;obtain ⟨ob,_,_,h1,h2,_⟩:=dd;exact ⟨ob,h1,h2.2.1⟩
end L2
namespace Att
open PySem PySem.W PySem.Calls PyProof.Rows
theorem Gz {P:Params}:∀ (ns:List Int) (vs:List Value),WellAll P h vs (ns.map WData.int)->IntsAre vs ns:=by
 intro ns;induction ns with
 | nil =>
  intro vs w;rw [map_nil] at w;cases w;exact .nil
 | cons n ns ih =>
  intro vs w;rw [map_cons] at w;cases w with
  | cons a b =>
   cases a;exact .cons _ _ (ih _ b)
theorem Ol {l:OpenLaw} {n:Nat} (hn:l.most=some n) {P:Params} {args:List WData} {vals:List Value}
    (dg:l.row.toRowW.claim.pre args=true) (hwl:WellAll P h vals args) :
    ∃ a vs ns,vals=[Value.ref a]/\args=[WData.list (ns.map WData.int)]/\h.get? a=some { cls:=.type "list", data:=.seq vs.toArray }/\IntsAre vs ns/\ns.length <= n:=by
  have ao:WShape.hasAll [] args [.list .int]=true:=(pre_splitW dg).1;have hc:l.pre.holds [] { args:=args }=true:=(pre_splitW dg).2;obtain ⟨d,r,rfl,h1,h2⟩:=hasAllW_cons ao;obtain rfl:=hasAllW_nil h2;obtain ⟨xs,rfl,h3⟩:=hasW_list h1;obtain ⟨ns,rfl⟩:=items_int h3
  have bw:ns.length <= n:=by
    unfold OpenLaw.pre at hc
    have h4:(WTm.not (.lt (.lit (.int (n:Int))) (.len (.arg 0)))).holds [] { args:=[.list (ns.map .int)] }=true:=by
      have h4:=(holds_andW hc).1;rw [hn] at h4;exact h4
    have h5:=condW_of h4 (w_not (w_lt w_lit (w_len_list (w_arg rfl))));rw [AF] at h5;refine Nat.le_of_not_lt fun q=>?_;have q':(n:Int) < ((ns.length:Nat):Int):=by omega
    first
      | (rw [decide_eq_true q'] at h5; exact absurd h5 (by decide))
      | (simp at h5; omega)
  cases hwl with
  | cons w1 w2 =>
    cases w2;cases w1 with
    | list ho cj=>exact ⟨_,_,ns,rfl,rfl,ho,Gz ns _ cj,bw⟩
theorem Om (l:OpenLaw) (args:List WData):l.row.toRowW.claim.post args (.bool true) args=true :=
 postW_of (r:=l.row.toRowW) (X:=(true == true))
  (show WShape.has [] (.bool true) .bool=true by first | rfl | decide | simp [WShape.has,WShape.arms,WShape.armsAll])
  (show (WTm.eq .res (.lit (.bool true))).value [] { args:=args,res:=some (.bool true),after:=args }=some (.bool (true == true)) from w_eq_bool (w_res rfl) w_lit) rfl
theorem attach_call {l:OpenLaw} {n:Nat} {q:Program} {loose:List Str} {XP:(Str->Option Value)->Heap->Prop} {YP:World->Heap->Prop} {d:DefRec}
  (hn:l.most=some n) (hdf:d.params.defaults=[])
  (call:∀ (w:World) (s₀ s₁:Shared) (mg mb:SV) (fa:Addr) (o:Obj) (pm cd doc:Value) (a:Addr) (vs:List Value) (ns:List Int),
   Ground q loose [] XP w s₀ mg mb s₁.heap->YP w s₁.heap ->
   s₁.heap.get? fa=some o->o.data=.func (docDef d.name d.params d.body d.scope pm cd doc)->s₁.heap.CodeRec cd d.name->mg d.name=some (.ref fa) ->
   s₁.heap.get? a=some { cls:=.type "list", data:=.seq vs.toArray }->IntsAre vs ns->ns.length <= n->s₁.gens=#[] ->
   codeAny (model l.prog w) callerA (.call (.ref fa) ⟨[.ref a],[]⟩) (fun r s'=>r=.ok (.ret (.bool true))/\OldK s₁.heap s'.heap/\s'.os=s₁.os/\AllBare s'.gens) s₁) :
  WalkO q loose XP YP l.row.toRowW d [] (fun f vs=>PySem.call f vs):=by
 intro w s₀ s₁ mg mb G Y fa o pm cd doc dV kV ho hd hcd hD hmg hg args vals as dg hlay hrd hwl hlo;obtain rfl:dV=.none:=Dflts.none hD hdf;obtain rfl:kV=.none:=Dflts.noKw hD;obtain ⟨a,vs,ns,rfl,rfl,dz,cf,bw⟩:=Ol hn dg hwl;refine enter_call (codeAny_mono (call w s₀ s₁ mg mb fa o pm cd doc a vs ns G Y ho (fd_plain hd) hcd hmg dz cf bw hg) fun r s' hq=>?_);obtain ⟨rfl,h2,h3,h4⟩:=hq;exact ⟨.inl ⟨.bool true,.bool true,[],rfl,fun _=>rfl,.bool true,Om l _,fun _=>⟨List.Pairwise.nil,fun _ hm=>(nomatch hm)⟩⟩,h2,h3,h4⟩
end Att
namespace L2
open PySem PySem.Spec PyProof.Rows
theorem ER:∀ {vs:List Value} {ns:List Int},IntsAre vs ns->Vals (ns.map V.int) vs
 | _,_,.nil=>.nil
 | _,_,.cons n t h=>.cons ⟨t,rfl⟩ (ER h)
end L2
namespace L2
open PySem PySem.Spec PyProof.Rows
noncomputable def inClass (s:Stmt) (j:Nat):Stmt:=match s with
 | .ClassDef _ _ _ body _ _ _ _ _ _ _=>body.getD j (.Pass ⟨0,0,0,0⟩)
 | _=>.Pass ⟨0,0,0,0⟩
noncomputable def defArgs (s:Stmt):Arguments:=match s with
 | .FunctionDef _ a _ _ _ _ _ _ _ _=>a
 | _=>{ posonlyargs:=[],args:=[],vararg:=none,kwonlyargs:=[],kw_defaults:=[],kwarg:=none,defaults:=[] }
noncomputable def defBody (s:Stmt):List Stmt:=match s with
 | .FunctionDef _ _ b _ _ _ _ _ _ _=>b
 | _=>[]
noncomputable def defScope (s:Stmt):Scope:=match s with
 | .FunctionDef _ _ _ _ _ _ sc _ _ _=>sc
 | _=>{ kind:=.function,names:=[],isGenerator:=false,isCoroutine:=false }
abbrev CX0:CXT:=fun _ _ _ _ _ _=>False
abbrev E0:XK:=fun _ _ _=>False
theorem AN:Bn CX0 X E0:=fun _ _ _ _ _ _ _ h=>h.elim
structure Fun (K:FG) (x qual:Str) (st:Stmt) (f:Addr) (fd:FuncData):Prop where
 ex:∃ (oc:Value) (od:Option Addr) (kV doc pm:Value) (an:Option Addr) (af ct:Value) (osl:Array (Option Value)),
  fd=W.fnOf x qual (defArgs st) (defBody st) (defScope st) .none kV doc pm an af ct/\K.lookup f=some ⟨oc,od,.func fd,osl⟩/\W.codeIn K af qual=true
 kp:W.keepIn K (.ref f)=true
section
theorem Fun.ok {qual:Str} {st:Stmt} {fd:FuncData} {ps:List Str} {k:Nat} {sp:Sp} (F:Fun K x qual st f fd) (S:AM N ps (defScope st)) (len:∀ vs H Q E,sp vs H Q E->vs.length=ps.length)
  (b8:∀ (af:Value) (A:Around) (outer:List Env) (s:Shared) (H:Hp) (vs:List V) (Q:VK) (E:XK),Room k (A.deeper (envOfC qual (defScope st) s.heap.objs.size f af))->sp vs H Q E ->
   ∃ t,PSs (BA CX0 P w K mg base N qual (defScope st) f af A outer s H E).nox (defBody st) t/\t { nx:=fun _ H'=>Q .non H',rt:=Q } (Bu N vs) H):Ac P w K mg base CX0 (k + 1) f fd ps sp:=by
 obtain ⟨oc,od,kV,doc,pm,an,af,ct,osl,rfl,lk,hcd⟩:=F.ex;refine Nw lk hcd S len fun A outer s H vs Q E hr hsp=>?_;obtain ⟨t,h,q⟩:=b8 af A outer s H vs Q E hr hsp;exact ⟨t,h.nox,q⟩
structure BdC (P:Program) (w:World) (K:FG) (mg:SV) (base:Heap) (f:Addr) (qual:Str) (st:Stmt) (N ps:List Str) (k:Nat) (vs:List V) (H:Hp) (Q:VK) (E:XK):Prop where
 len:vs.length=ps.length
 ok:∀ (af:Value) (A:Around) (outer:List Env) (s:Shared),Room k (A.deeper (envOfC qual (defScope st) s.heap.objs.size f af)) ->
  ∃ t,PSs (BA CX0 P w K mg base N qual (defScope st) f af A outer s H E |>.nox) (defBody st) t/\t { nx:=fun _ H'=>Q .non H',rt:=Q } (Bu N vs) H
theorem Fun.m {qual:Str} {st:Stmt} {fd:FuncData} {ps:List Str} {k:Nat} {sp:Sp} (F:Fun K x qual st f fd) (S:AM N ps (defScope st)) (h:∀ vs H Q E,sp vs H Q E->BdC P w K mg base f qual st N ps k vs H Q E) :
  Ac P w K mg base CX0 (k + 1) f fd ps sp:=F.ok S (fun vs H Q E q=>(h vs H Q E q).len) fun c A o s H vs Q E r q=>(h vs H Q E q).ok c A o s r
theorem Fun.binds {qual:Str} {st:Stmt} {fd:FuncData} {ps:List Str} (F:Fun K x qual st f fd)
  (h:∀ (kV doc pm:Value) (an:Option Addr) (af ct:Value) (us:List Value),us.length=ps.length->bindArgs (W.fnOf x qual (defArgs st) (defBody st) (defScope st) .none kV doc pm an af ct) ⟨us,[]⟩=pure (ps.zip us)):Binds K fd ps []:=by
 obtain ⟨oc,od,kV,doc,pm,an,af,ct,osl,rfl,lk,hcd⟩:=F.ex;exact .all (h kV doc pm an af ct)
theorem fun_mk {qual:Str} {st:Stmt} {oc:Value} {od an:Option Addr} {osl:Array (Option Value)} {kV doc pm af ct:Value} (l:K.lookup f=some ⟨oc,od,.func (W.fnOf x qual (defArgs st) (defBody st) (defScope st) .none kV doc pm an af ct),osl⟩)
  (c:W.codeIn K af qual=true) (k:W.keepIn K (.ref f)=true):Fun K x qual st f (W.fnOf x qual (defArgs st) (defBody st) (defScope st) .none kV doc pm an af ct):=⟨⟨oc,od,kV,doc,pm,an,af,ct,osl,rfl,l,c⟩,k⟩
end
theorem Cr {k:Nat} (hr:Room k A):A.units + 1 < cLine:=Nat.lt_of_le_of_lt (Nat.add_le_add_left (by decide:1 <= 64) _) hr.units
theorem Ab {n:Nat} (h:n <= 1000):n < sizeLine:=Nat.lt_of_le_of_lt h (by decide)
section
theorem pv (i:Nat) (hN:X.N[i]?=some x:=by rfl) (hv:Vis X.env.scope x:=by first | exact Or.inl rfl | exact Or.inr (Or.inl rfl) | exact Or.inr (Or.inr rfl)) (hd:(x == ("__debug__" : Str))=false:=by decide)
  (hcd:(x == ("__classdict__" : Str))=false:=by decide):PE X (.Name x pos) (Ck i):=P5 hN hv hd hcd
theorem On:Bk X (.builtin "len") (fun xs H Q=>∃ a kvs,xs=[V.ref a]/\H a=some (.dK kvs)/\Q (.int kvs.length) H):=by
 intro aa s σ H xs us Q I r h;obtain ⟨a,kvs,rfl,ha,q⟩:=h;obtain ⟨u,rfl,ru⟩:=CM r;cases ru;exact Vi I (.inl ha) fun t s' I'=>⟨.int kvs.length,H,I',⟨t,rfl⟩,q⟩
end
theorem Aw {A B:Prop} (h:B):if false=true then A else B:=by
 rw [if_neg Bool.false_ne_true];exact h
theorem Bo {A B:Prop} (h:A):if true=true then A else B:=by
 rw [if_pos rfl];exact h
theorem Bp {c A B:Prop} [Decidable c] (h1:c->A) (h2:¬ c->B):if c then A else B:=by
 by_cases h:c
 ·rw [if_pos h];exact h1 h
 ·rw [if_neg h];exact h2 h
theorem N2 {c A B:Prop} [Decidable c] (hc:c) (h:B):if (!decide c)=true then A else B:=by
 rw [decide_eq_true hc];exact Aw h
def Same (H H':Hp):Prop:=∀ b o,H b=some o->H' b=some o
theorem Same.refl (H:Hp):Same H H:=fun _ _ h=>h
theorem Same.trans {H1 H2:Hp} (a:Same H H1) (b:Same H1 H2):Same H H2:=fun c o h=>b c o (a c o h)
theorem Same.seq (e:Same H H') (h:SqL K H a xs):SqL K H' a xs:=by
 rcases h with (h | ⟨o,h⟩) | h
 ·exact .inl (.inl (e _ _ h))
 ·exact .inl (.inr ⟨o,e _ _ h⟩)
 ·exact .inr h
section
variable {κ:Type} [DecidableEq κ]
theorem N3:∀ {l:List κ} {k:κ},l.Nodup->¬ k ∈ l->(l++[k]).Nodup
 | [],k,_,_=>by simp
 | a :: r,k,h,hk=>by
  obtain ⟨h1,h2⟩:=nodup_cons.mp h;show (a :: (r++[k])).Nodup;refine nodup_cons.mpr ⟨fun m=>?_,N3 h2 fun m=>hk (mem_cons.mpr (Or.inr m))⟩;rcases mem_append.mp m with q | q
  ·exact h1 q
  ·exact hk (mem_cons.mpr (Or.inl (mem_singleton.mp q).symm))
end
end L2
end
section
variable {X:L2.Cx} {H:L2.Hp} {H':L2.Hp} {s:PySem.Shared} {pos:PySem.Pos} {σ:L2.St} {P:PySem.Program} {w:PySem.World} {A:PySem.Around} {aa:LO} {x:PySem.Str} {a:PySem.Addr} {K:FG} {C:PySem.Addr} {E:VS} {h:PySem.Heap} {us:List PySem.Value} {f:PySem.Addr} {u:PySem.Value} {xs:List L2.V} {e:PySem.Expr} {te:L2.TE} {base:PySem.Heap} {N:List PySem.Str} {mg:SV}
section
namespace L2
open PySem PySem.Spec PyProof.Rows
theorem Inv.track {o:HO} (I:Inv X aa σ H s) (hn:H a=none) (hL:a ≠ X.env.locals) (h1:a ∈ X.ex\/X.s₀.heap.objs.size <= a)
  (h2:∀ x c,X.env.cells.lookup x=some c->c ≠ a) (h3:∀ p ∈ X.pn++aa,p.1 ≠ a) (new:ObjOk X.prog X.w (upd H a o) s.heap a o):Inv X aa σ (upd H a o) s:=by
 have bn:∀ b u,H b=some u->b ≠ a:=fun b u e=>AI e hn
 refine I.step (h':=s.heap) (H':=upd H a o) (g':=s.gens) (t':=s.toks) (d':=s.drawn) (ch:=[a])
  (fun b hb=>by have e:b=a:=by simpa using hb
                subst e; exact ⟨h1,hL,h2,h3⟩)
  (fun b o _ _ _ e _=>e) (fun b o _ _ _ e _=>⟨o.slots,e⟩) (fun b o hc e n=>by rw [AH (by simpa using hc)]; exact n)
  (fun b o _ e=>⟨o,e⟩) (fun b xs e=>by rw [AH (bn b _ e)]; exact e) (fun b o u e=>by rw [AH (bn b _ e)]; exact e)
  (fun b ps e=>⟨#[],by rw [AH (bn b _ e),e]; simp⟩) (fun m h=>h) (fun b u e=>?_) I.bare
 by_cases hb:b=a
 ·subst hb; rw [AB] at e; cases e; exact new
 ·rw [AH hb] at e;exact (I.hok b u e).stay (fun c v _ q=>q) (fun c q=>by rw [AH (bn c _ q)]; exact q) fun c xs q=>by rw [AH (bn c _ q)]; exact q
structure CompFits (osc sc:Scope) (N N':List Str) (ix:List (Option Nat)):Prop where
 kind:sc.kind=.function
 nocell:∀ y ∈ sc.names,y.2 ≠ .cell
 free:∀ y ∈ sc.names,y.2=.free->osc.names.lookup y.1=some .cell\/osc.names.lookup y.1=some .free
 loc:∀ y ∈ sc.names,y.2=.local->sc.names.lookup y.1=some .local
 len:ix.length=N'.length
 slot:∀ (j:Nat) (x:Str) (i:Nat),N'[j]?=some x->ix[j]?=some (some i)->N[i]?=some x/\sc.names.lookup x=some .free
noncomputable def Tv (sc:Scope) (N:List Str) (x:Str):Option Nat->Bool
 | none=>true
 | some i=>decide (N[i]?=some x) && decide (sc.names.lookup x=some .free)
noncomputable def DQ (sc:Scope) (N:List Str):List Str->List (Option Nat)->Bool
 | [],[]=>true
 | x :: r,o :: os=>Tv sc N x o && DQ sc N r os
 | _,_=>false
noncomputable def Hq (osc sc:Scope) (N N':List Str) (ix:List (Option Nat)):Bool :=
 decide (sc.kind=.function) && (sc.names.all fun y=>decide (y.2 ≠ .cell) && (decide (y.2 ≠ .free) || decide (osc.names.lookup y.1=some .cell) || decide (osc.names.lookup y.1=some .free)) &&
  (decide (y.2 ≠ .local) || decide (sc.names.lookup y.1=some .local))) && DQ sc N N' ix
theorem Hr {sc:Scope} {N:List Str}:∀ {N':List Str} {ix:List (Option Nat)},DQ sc N N' ix=true->ix.length=N'.length
 | [],[],_=>rfl
 | [],_ :: _,h=>by simp [DQ] at h
 | _ :: _,[],h=>by simp [DQ] at h
 | x :: r,o :: os,h=>by
  simp only [DQ,Bool.and_eq_true] at h;simp only [length_cons,Hr h.2]
theorem Je {sc:Scope} {N:List Str}:∀ {N':List Str} {ix:List (Option Nat)},DQ sc N N' ix=true->∀ (j:Nat) (x:Str) (i:Nat),N'[j]?=some x->ix[j]?=some (some i)->N[i]?=some x/\sc.names.lookup x=some .free
 | [],_,_,_,_,_,e,_=>by simp at e
 | _ :: _,[],h,_,_,_,_,_=>by simp [DQ] at h
 | y :: r,o :: os,h,j,x,i,e1,e2=>by
  simp only [DQ,Bool.and_eq_true] at h;cases j with
  | zero =>
   simp only [List.getElem?_cons_zero,Option.some.injEq] at e1 e2;subst e1 e2;have h1:=h.1;simp only [Tv,Bool.and_eq_true,decide_eq_true_eq] at h1;exact h1
  | succ j =>
   simp only [List.getElem?_cons_succ] at e1 e2;exact Je h.2 j x i e1 e2
theorem CompFits.of {osc sc:Scope} {N':List Str} {ix:List (Option Nat)} (h:Hq osc sc N N' ix=true):CompFits osc sc N N' ix:=by
 simp only [Hq,Bool.and_eq_true,decide_eq_true_eq,List.all_eq_true,Bool.or_eq_true] at h;obtain ⟨⟨h1,h2⟩,h3⟩:=h;refine ⟨h1,fun y hy=>(h2 y hy).1.1,fun y hy e=>?_,fun y hy e=>?_,Hr h3,Je h3⟩
 ·rcases (h2 y hy).1.2 with (z | z) | z
  ·exact absurd e z
  ·exact .inl z
  ·exact .inr z
 ·rcases (h2 y hy).2 with z | z
  ·exact absurd e z
  ·exact z
noncomputable abbrev Em (env:Env):Str × NameKind->Str × NameKind:=fun (n,k)=>if (k == NameKind.free && env.scope.kind == .function && env.kindOf n == some .cell) then (n,NameKind.cell) else (n,k)
theorem LH (env:Env) (y:Str × NameKind):(Em env y).1=y.1:=by
 obtain ⟨n,k⟩:=y; simp only [Em]; split <;> rfl
theorem Oo (env:Env) (n:Str):(Em env (n,.free)).2=.cell\/(Em env (n,.free)).2=.free:=by
 simp only [Em]; split
 ·exact .inl rfl
 ·exact .inr rfl
theorem Sk (env:Env) (y:Str × NameKind) (h:y.2 ≠ .free):Em env y=y:=by
 obtain ⟨n,k⟩:=y;have e:(k == NameKind.free)=false:=by simpa using h
 simp only [Em,e,Bool.false_and,Bool.false_eq_true,if_false]
theorem Eh {env:Env}:∀ {names:List (Str × NameKind)} {x:Str},names.lookup x=some .free->(names.map (Em env)).lookup x=some .cell\/(names.map (Em env)).lookup x=some .free
  | [],_,h=>by simp at h
  | (n,k) :: r,x,h=>by
    rw [map_cons]
    have e:Em env (n,k)=(n,(Em env (n,k)).2):=by
      have:=LH env (n,k);exact Prod.ext this rfl
    rw [e];cases hx:x == n with
    | true =>
      simp only [lookup_cons,hx] at h ⊢;cases h;rcases Oo env n with z | z
      · rw [z]; exact .inl rfl
      · rw [z]; exact .inr rfl
    | false =>
      simp only [lookup_cons,hx] at h ⊢;exact Eh h
theorem Gu {env:Env}:∀ {names:List (Str × NameKind)} {x:Str},(∀ y ∈ names,y.2 ≠ .cell)->((names.map (Em env)).lookup x=some .cell\/(names.map (Em env)).lookup x=some .free)->(x,NameKind.free) ∈ names
  | [],_,_,h=>by simp at h
  | (n,k) :: r,x,hc,h=>by
    rw [map_cons] at h;have e:Em env (n,k)=(n,(Em env (n,k)).2):=Prod.ext (LH env (n,k)) rfl;rw [e] at h;cases hx:x == n with
    | true =>
      simp only [lookup_cons,hx] at h;have exn:x=n:=by simpa using hx
      subst exn;by_cases hk:k=.free
      · subst hk; exact mem_cons_self
      · rw [Sk env (x,k) hk] at h
        rcases h with z | z
        · have:k=.cell:=by simpa using z
          exact absurd this (hc (x,k) mem_cons_self)
        · have:k=.free:=by simpa using z
          exact absurd this hk
    | false =>
      simp only [lookup_cons,hx] at h;exact mem_cons_of_mem _ (Gu (fun y hy=>hc y (mem_cons_of_mem _ hy)) h)
theorem KL {env:Env} {f:Str × NameKind->List (Str × Addr)->Sem (ForInStep (List (Str × Addr)))}
  (h1:∀ y acc,y.2 ≠ .free->f y acc=pure (.yield acc)) (h2:∀ y acc c,y.2=.free->env.cells.lookup y.1=some c->f y acc=pure (.yield ((y.1,c) :: acc))) :
  ∀ (names:List (Str × NameKind)) (acc:List (Str × Addr)),(∀ y ∈ names,y.2=.free->∃ c,env.cells.lookup y.1=some c)->(∀ x c,acc.lookup x=some c->env.cells.lookup x=some c) ->
   ∃ cl,forIn names acc f=(pure cl:Sem _)/\(∀ x c,cl.lookup x=some c->env.cells.lookup x=some c)/\(∀ y ∈ names,y.2=.free->∃ c,cl.lookup y.1=some c)/\∀ x c,acc.lookup x=some c->∃ c',cl.lookup x=some c'
 | [],acc,_,ha=>⟨acc,rfl,ha,fun _ hy=>(nomatch hy),fun x c e=>⟨c,e⟩⟩
 | y :: r,acc,hn,ha=>by
  have hr:∀ z ∈ r,z.2=.free->∃ c,env.cells.lookup z.1=some c:=fun z hz=>hn z (mem_cons_of_mem _ hz);by_cases hy:y.2=.free
  ·obtain ⟨c,hc⟩:=hn y mem_cons_self hy
   obtain ⟨cl,e,p1,p2,p3⟩:=KL h1 h2 r ((y.1,c) :: acc) hr fun x d e=>by
    cases hx:x == y.1 with
    | true =>
     simp only [lookup_cons,hx,Option.some.injEq] at e;have:x=y.1:=by simpa using hx
     rw [this,← e]; exact hc
    | false =>
     simp only [lookup_cons,hx] at e;exact ha x d e
   refine ⟨cl,by rw [List.forIn_cons,h2 y acc c hy hc,pure_bind]; exact e,p1,fun z hz hf=>?_,fun x d e=>?_⟩
   ·rcases mem_cons.mp hz with rfl | hz
    ·exact p3 z.1 c (by simp [lookup_cons])
    ·exact p2 z hz hf
   ·cases hx:x == y.1 with
    | true=>exact p3 x c (by simp [lookup_cons,hx])
    | false=>exact p3 x d (by simp only [lookup_cons,hx]; exact e)
  ·obtain ⟨cl,e,p1,p2,p3⟩:=KL h1 h2 r acc hr ha;refine ⟨cl,by rw [List.forIn_cons,h1 y acc hy,pure_bind]; exact e,p1,fun z hz hf=>?_,p3⟩;rcases mem_cons.mp hz with rfl | hz
   ·exact absurd hf hy
   ·exact p2 z hz hf
theorem N4 {env:Env} {scope:Scope} (hn:∀ y ∈ scope.names,y.2=.free->∃ c,env.cells.lookup y.1=some c) :
  ∃ cl,closureFor scope env=pure cl/\(∀ x c,cl.lookup x=some c->env.cells.lookup x=some c)/\∀ y ∈ scope.names,y.2=.free->∃ c,cl.lookup y.1=some c:=by
 obtain ⟨cl,e,p1,p2,_⟩:=KL (env:=env) (f:=fun (x:Str × NameKind) (r:List (Str × Addr))=>if (x.2 == NameKind.free)=true then (cellOf env x.1 >>= fun a=>pure (ForInStep.yield ((x.1,a) :: r))) else pure (ForInStep.yield r)) (fun y acc hy=>by
  have:(y.2 == NameKind.free)=false:=by simpa using hy
  rw [this,if_neg Bool.false_ne_true]) (fun y acc c hy hc=>by
  have h0:(y.2 == NameKind.free)=true:=by rw [hy]; rfl
  rw [if_pos h0];simp only [cellOf,hc]
  rfl) scope.names [] hn fun x c e=>by simp at e
 refine ⟨cl,?_,p1,p2⟩;have e0:closureFor scope env=(forIn scope.names [] (fun (x:Str × NameKind) (r:List (Str × Addr))=>if (x.2 == NameKind.free)=true then (cellOf env x.1 >>= fun a=>pure (ForInStep.yield ((x.1,a) :: r))) else pure (ForInStep.yield r)) >>= fun cs=>pure cs):=rfl;rw [e0,e];rfl
noncomputable def Ak (X:Cx) (N':List Str) (scope:Scope) (cl:List (Str × Addr)) (s:Shared) (H:Hp) (C:Addr) (fp:List Addr) (pn:LO):Cx where
 prog:=X.prog
 w:=X.w
 K:=X.K
 mg:=X.mg
 base:=X.base
 A:=X.A
 N:=N'
 s₀:=s
 H₀:=H
 env:=compEnvC scope cl C X.env
 outer:=X.stack
 stack:=X.stack
 ex:=fp
 fn:=fun _=>false
 calm:=X.calm
 pn:=pn
 xe:=fun _ _=>False
noncomputable def B4 (ix:List (Option Nat)) (σ:St):St:=ix.map fun o=>o.bind fun i=>(σ[i]?).join
theorem Sl {ix:List (Option Nat)} {j:Nat} {v:V} (h:(B4 ix σ)[j]?=some (some v)):∃ i,ix[j]?=some (some i)/\σ[i]?=some (some v):=by
 unfold B4 at h;rw [getElem?_map] at h;cases e:ix[j]? with
 | none=>rw [e] at h; cases h
 | some o =>
  rw [e] at h;simp only [Option.map_some,Option.some.injEq] at h;cases o with
  | none=>cases h
  | some i =>
   refine ⟨i,rfl,?_⟩;simp only [Option.bind_some] at h;cases q:σ[i]? with
   | none=>rw [q] at h; cases h
   | some u=>rw [q] at h; simp only [Option.join_some] at h; rw [h]
section
variable {N':List Str} {ix:List (Option Nat)} {scope:Scope} {cl:List (Str × Addr)} {fp:List Addr}
theorem Sm (I:Inv X aa σ H s) (hf:CompFits X.env.scope scope X.N N' ix) (c1:∀ x c,cl.lookup x=some c->X.env.cells.lookup x=some c) (c2:∀ y ∈ scope.names,y.2=.free->∃ c,cl.lookup y.1=some c)
  (hC:s.heap.objs.size <= C) (hfp:∀ b ∈ fp,Ek X aa H b) (hlt:∀ b ∈ fp,b < s.heap.objs.size):(Ak X N' scope cl s H C fp (X.pn++aa)).Ok where
 mod:=I.mod
 kind:=hf.kind
 glob:=I.ok.glob
 blt:=I.ok.blt
 above:=hC
 inj:=fun x y c e1 e2=>I.ok.inj x y c (c1 x c e1) (c1 y c e2)
 has:=fun x h=>by
  have hm:(x,NameKind.free) ∈ scope.names:=Gu (env:=X.env) hf.nocell h;exact c2 (x,.free) hm rfl
 cab:=fun x c h=>by cases h
 hd:=I.ok.hd
 frames:=I.ok.frames
 stk:=.inl rfl
 exf:=fun b hb=>⟨Nat.ne_of_lt (Nat.lt_of_lt_of_le (hlt b hb) hC),fun x c e=>(hfp b hb).2.2.2.2.1 x c (c1 x c e)⟩
 bs:=I.bs
 bsz:=Nat.le_trans I.ok.bsz I.sz
 noex:=fun b o e hb=>by
  rcases (hfp b hb).2.2.2.1 with z | z
  ·exact I.ok.noex b o e z
  ·exact absurd (Nat.lt_of_lt_of_le (Nat.lt_of_lt_of_le (lt_size e) I.ok.bsz) z) (Nat.lt_irrefl _)
 exfs:=fun b hb z=>by
  rcases mem_cons.mp (I.stkSub b z) with e | e
  ·exact (hfp b hb).2.1 e
  ·exact (hfp b hb).2.2.1 e
 funs:=I.stack
 frf:=I.stkFree
theorem Hs (I:Inv X aa σ H s) (hf:CompFits X.env.scope scope X.N N' ix) (c1:∀ x c,cl.lookup x=some c->X.env.cells.lookup x=some c) (c2:∀ y ∈ scope.names,y.2=.free->∃ c,cl.lookup y.1=some c)
  (hC:s.heap.objs.size <= C) (hfp:∀ b ∈ fp,Ek X aa H b) (hlt:∀ b ∈ fp,b < s.heap.objs.size) {h₁:Heap} {tk:Nat} {m:SV} (old:∀ b o,s.heap.get? b=some o->h₁.get? b=some o) (hns:h₁.Ns C m) :
  Inv (Ak X N' scope cl s H C fp (X.pn++aa)) [] (B4 ix σ) H { s with heap:=h₁,toks:=tk } where
 ok:=Sm I hf c1 c2 hC hfp hlt
 os:=rfl
 bare:=I.bare
 base:=Un.kept old
 loc:=⟨m,hns,fun j x v e1 e2 e3=>by
  obtain ⟨i,ei,ev⟩:=Sl e2;obtain ⟨hN,cw⟩:=hf.slot j x i e1 ei;obtain ⟨mX,_,hl⟩:=I.loc
  have hm:(x,NameKind.free) ∈ scope.names:=by
   have:∀ {l:List (Str × NameKind)} {k:NameKind},l.lookup x=some k->(x,k) ∈ l:=fun {l k}=>by
    induction l with
    | nil=>intro e; simp at e
    | cons y r ih =>
     intro e;obtain ⟨n,kk⟩:=y;cases hx:x == n with
     | true =>
      simp only [lookup_cons,hx,Option.some.injEq] at e;have:x=n:=by simpa using hx
      subst this e;exact mem_cons_self
     | false =>
      simp only [lookup_cons,hx] at e;exact mem_cons_of_mem _ (ih e)
   exact this cw
  have hk:=hf.free _ hm rfl;obtain ⟨u,r,q⟩:=hl i x v hN ev (.inr hk);refine ⟨u,r,.inr ⟨Eh (env:=X.env) cw,?_⟩⟩;obtain ⟨c,hc⟩:=c2 _ hm rfl;refine ⟨c,hc,?_⟩;rcases q with ⟨k,_⟩ | ⟨_,c',hc',z⟩
  ·have k':X.env.scope.names.lookup x=some .local:=k;rcases hk with a | a <;> (rw [k'] at a; cases a)
  ·rw [c1 x c hc] at hc';cases hc'
   exact z.keeps old⟩
 cell:=fun x c e=>by
  obtain ⟨v,z⟩:=I.cell x c (c1 x c e);exact ⟨v,z.keeps old⟩
 free:=I.hok.fresh hC
 freeC:=fun x c e=>I.freeC x c (c1 x c e)
 pin:=fun p hp=>by
  have hp':p ∈ X.pn++aa:=by
   have z:=hp;rw [append_nil] at z;exact z
  obtain ⟨e,n,ne,nf,d⟩:=I.pin p hp';refine ⟨old _ _ e,n,Nat.ne_of_lt (Nat.lt_of_lt_of_le (lt_size e) hC),fun z=>?_,d⟩;rcases mem_cons.mp (I.stkSub p.1 z) with q | q
  ·exact ne q
  ·exact nf q
 hok:=I.hok.kept old
 len:=by
  show (B4 ix σ).length=N'.length;unfold B4;rw [AF]; exact hf.len
theorem Jf {pins':LO} {σ':St} {s':Shared} (I:Inv X aa σ H s) (hfp:∀ b ∈ fp,Ek X aa H b) (J:Inv (Ak X N' scope cl s H C fp (X.pn++aa)) pins' σ' H' s'):Inv X aa σ H' s' :=
 I.call' (ch:=fp) J.os J.base J.hok J.bare fun b hb=>⟨(hfp b hb).2.2.2.1,(hfp b hb).2.1,(hfp b hb).2.2.2.2.1,(hfp b hb).2.2.2.2.2⟩
end
def PTs (X:Cx) (ifs:List Expr) (t:TT):Prop :=
 ∀ (aa:LO) (s:Shared) (σ:St) (H:Hp) (Q:Bool->Hp->Prop),Inv X aa σ H s->t σ H Q ->
  wpAny (model X.prog X.w) X.A (forIn ifs true fun c r=>if r=true then do let ok ← isTrue c X.env (eval c X.env); pure (ForInStep.yield ok) else pure (ForInStep.yield r)) (TP X aa σ Q) X.xe s
def WO:TT:=fun _ H Q=>Q true H
theorem BF:PTs X [] WO:=fun aa s σ H Q I h=>wpAny_tests_nil ⟨H,I,h⟩
theorem FW {c:Expr} {t:TT} (h:PT X c t):PTs X [c] t:=fun aa s σ H Q I q=>wpAny_tests_one (h aa s σ H Q I q)
def Dp (wi:TI) (g:TG) (tt:TT) (te:TE) (ix:List (Option Nat)) (R:List V->Hp->Prop):St->Hp->Prop:=fun σ H=>wi σ H fun J H1=>∃ W:Nat->Nat->List V->Hp->Prop,(∃ m,W 0 m [] H1)/\∀ i m ys H,W i m ys H ->
 (J.stop i H/\ys.length <= sizeLine/\R ys H) \/
 (J.go i H/\∃ N:List V->Hp->Prop,(∀ ys' H',N ys' H'->ys'.length <= sizeLine/\∃ m',m' < m/\W (i + 1) m' ys' H') /\
  ∀ x H',J.yld i H x H'->g x (B4 ix σ) H' fun σ2 H2=>tt σ2 H2 fun b H3=>if b=true then te σ2 H3 fun y H4=>N (ys++[y]) H4 else N ys H3)
def PGk (X:Cx) (tg:Expr) (ix:List (Option Nat)) (g:TG):Prop :=
 ∀ (aa:LO) (s:Shared) (σ:St) (H:Hp) (v:V) (u:Value) (Q:St->Hp->Prop),Inv X aa (B4 ix σ) H s->RelV v u->g v (B4 ix σ) H Q ->
  wpAny (model X.prog X.w) X.A (assign tg X.env u) (fun _ s'=>∃ σ' H',Inv X aa σ' H' s'/\(∀ (j:Nat) (v:V),(B4 ix σ)[j]?=some (some v)->σ'[j]?=some (some v))/\Q σ' H') X.xe s
theorem FX {ixc:List (Option Nat)} (h:PG X (.Name x pos) (Cn 0)):PGk X (.Name x pos) (none :: ixc) (Cn 0):=by
 intro aa s σ H v u Q I r q;refine thn (h aa s _ H v u (fun σ' H'=>(∀ (j:Nat) (v:V),(B4 (none :: ixc) σ)[j]?=some (some v)->σ'[j]?=some (some v))/\Q σ' H') I r ⟨fun j w e=>?_,q⟩) fun _ s' ⟨σ',H',I',k,q⟩=>⟨σ',H',I',k,q⟩;cases j with
 | zero=>cases e
 | succ j=>exact e
theorem QP {tg:Expr} {ixc:List (Option Nat)} (h:PG X tg (SX K 2 (HS (Cn 0) (HS (Cn 1) SW)))):PGk X tg (none :: none :: ixc) (SX K 2 (HS (Cn 0) (HS (Cn 1) SW))):=by
 intro aa s σ H v u Q I r q;obtain ⟨a,xs,e1,e2,e3,v1,r1,e4,v2,r2,e5,e6,q⟩:=q;refine thn (h aa s _ H v u (fun σ' H'=>(∀ (j:Nat) (v:V),(B4 (none :: none :: ixc) σ)[j]?=some (some v)->σ'[j]?=some (some v))/\Q σ' H') I r ⟨a,xs,e1,e2,e3,v1,r1,e4,v2,r2,e5,e6,fun j w e=>?_,q⟩) fun _ s' ⟨σ',H',I',k,q⟩=>⟨σ',H',I',k,q⟩
 match j with
 | 0=>cases e
 | 1=>cases e
 | j + 2=>exact e
structure Tw (RD:Cx->Prop) (P:Program) (w:World) (K:FG) (tg:Expr) (J:It) (fp:List Addr) (it:Addr) (tn:Nat->Heap->Prop):Prop where
 obj:∀ i h,tn i h->∀ b ∈ fp,∃ o,h.get? b=some o/\∀ v,o.data ≠ .cell v
 keep:∀ i h h',tn i h->(∀ b ∈ fp,∀ o,h.get? b=some o->h'.get? b=some o)->tn i h'
 item:∀ (X:Cx),X.prog=P->X.w=w->X.K=K->RD X->∀ (i:Nat) (aa:LO) (s:Shared) (σ:St) (H:Hp) (E:VS),Inv X aa σ H s->(∀ b ∈ fp,Ek X aa H b)->tn i s.heap->J.go i H ->
  wpAny (model P w) X.A (pyNext (.ref it)) (fun r s1=>∃ u,r=some u/\wpAny (model P w) X.A (letOwnedTupleGo tg (.ref it) u) (fun _ s2=>∃ x H',Inv X aa σ H' s2/\RelV x u/\J.yld i H x H'/\tn (i + 1) s2.heap/\∀ b ∈ fp,H' b=none) E s1) E s
 done:∀ (X:Cx),X.prog=P->X.w=w->X.K=K->RD X->∀ (i:Nat) (aa:LO) (s:Shared) (σ:St) (H:Hp) (E:VS),Inv X aa σ H s->(∀ b ∈ fp,Ek X aa H b)->tn i s.heap->J.stop i H ->
  wpAny (model P w) X.A (pyNext (.ref it)) (fun r s1=>r=none/\Inv X aa σ H s1) E s
 self:∀ (A:Around) (i:Nat) (s:Shared) (Q:VS) (E:VS),tn i s.heap->Q (.ref it) s->wpAny (model P w) A (pyIter (.ref it)) Q E s
def PIg (RD:Cx->Prop) (X:Cx) (tg iter:Expr) (wi:TI):Prop:=∀ (aa:LO) (s:Shared) (σ:St) (H:Hp) (R:It->Hp->Prop),Inv X aa σ H s->wi σ H R ->
 wpAny (model X.prog X.w) X.A (eval iter X.env) (fun v s1=>wpAny (model X.prog X.w) X.A (pyIter v) (fun itv s2=>∃ (it:Addr) (fp:List Addr) (tn:Nat->Heap->Prop) (J:It) (H':Hp),itv=.ref it/\Inv X aa σ H' s2/\Tw RD X.prog X.w X.K tg J fp it tn/\tn 0 s2.heap/\(∀ b ∈ fp,Ek X aa H' b)/\R J H') X.xe s1) X.xe s
theorem PI.g {tg iter:Expr} {wi:TI} (h:PI X tg iter wi):PIg (fun X=>X.calm=true) X tg iter wi:=fun aa s σ H R I q =>
 thn (h aa s σ H R I q) fun v s1 z=>thn z fun itv s2 ⟨it,fp,tn,J,H',e,I',T,r⟩=>⟨it,fp,tn,J,H',e,I',⟨T.obj,T.keep,T.item,T.done,T.self⟩,r⟩
section
variable {tg iter elt:Expr} {ifs:List Expr} {scope:Scope} {pos':Pos} {N':List Str} {ix:List (Option Nat)} {wi:TI} {g:TG} {tt:TT}
theorem C9 {α:Type} {M:Model} {t:Sem α} {Q:α->Shared->Prop} (h:wpAny M A t Q (fun _ _=>False) s):wpAny M A t Q E s :=
 wpAny_mono h (fun _ _ q=>q) fun _ _ z=>z.elim
theorem Jg {RD:Cx->Prop} {use:Option (Value->Sem Unit)} {Qv:VS} (hf:CompFits X.env.scope scope X.N N' ix) (hc:∀ cl s H C fp aa,RD (Ak X N' scope cl s H C fp (X.pn++aa))) (hi:PIg RD X tg iter wi)
  (hg:∀ cl s H C fp pn,PGk (Ak X N' scope cl s H C fp pn) tg ix g) (ht:∀ cl s H C fp pn,PTs (Ak X N' scope cl s H C fp pn) ifs tt) (he:∀ cl s H C fp pn,PE (Ak X N' scope cl s H C fp pn) elt te)
  (hs:∀ x,foldedSetIterable iter X.env x=pure x) {aa:LO} {s:Shared} {σ:St} {H:Hp} {R:List V->Hp->Prop} (I:Inv X aa σ H s) (h:Dp wi g tt te ix R σ H)
  (d4:∀ s' ys H' D C m,Inv X aa σ (upd H' D (.lst ys)) s'->R ys H'->H' D=none->s'.heap.Ns C m->X.s₀.heap.objs.size <= C->C ≠ X.env.locals->(∀ x c,X.env.cells.lookup x=some c->c ≠ C)->(∀ p ∈ X.pn++aa,p.1 ≠ C) ->
   upd H' D (.lst ys) C=none->compPost (model X.prog X.w) X.A X.xe use Qv (.ref D) C (.ok .next) s') :
  wpAny (model X.prog X.w) X.A (comprehension (.ListComp elt [⟨tg,iter,ifs,0⟩] scope pos) scope X.env pos' (newList []) false (eval iter X.env) use) Qv X.xe s:=by
 obtain ⟨cl,d5,c1,c2⟩:=N4 (env:=X.env) (scope:=scope) fun y hy hyf=>by
  have:=hf.free y hy hyf;exact I.ok.has y.1 this
 refine wpAny_comprehension_free (use:=use) rfl hs d5 hf.kind hf.loc (thn (hi aa s σ H _ I h) fun v s1 h1=>thn h1 fun itv s2 h2=>?_);obtain ⟨it,fp,tn,J,H2,e,I2,T,st2,f2,W,⟨m0,w0⟩,turn⟩:=h2;subst e
 have hlt:∀ b ∈ fp,b < s2.heap.objs.size:=fun b hb=>by
  obtain ⟨o,e,_⟩:=T.obj _ _ st2 b hb;exact lt_size e
 refine wpAny_newObj_type (wpAny_newFunctionEnv hf.nocell (by intro y hy; simp at hy) (fun h₁ hns₁ hsb₁=>?_) hf.kind)
 dsimp only at hns₁ hsb₁ ⊢
 generalize hH2:s2.heap.push { cls:=.type "list", dict:=none,data:=.seq ([]:List Value).toArray }=HP at hns₁ hsb₁ ⊢;have hC:HP.objs.size=s2.heap.objs.size + 1:=by rw [← hH2,size_push]
 have hDC:s2.heap.objs.size ≠ HP.objs.size:=by rw [hC]; exact Nat.ne_of_lt (Nat.lt_succ_self _)
 have hCle:s2.heap.objs.size <= HP.objs.size:=by rw [hC]; exact Nat.le_succ _
 have hCne:∀ b,b < s2.heap.objs.size->b ≠ HP.objs.size:=fun b hb=>by rw [hC]; exact Nat.ne_of_lt (Nat.lt_succ_of_lt hb)
 have old:∀ b o,s2.heap.get? b=some o->h₁.get? b=some o:=fun b o e=>hsb₁.extBut b o (hCne b (lt_size e)) (get?_push_of_some _ (hH2 ▸ get?_push_of_some _ e));have cq:h₁.get? s2.heap.objs.size=some { cls:=.type "list", dict:=none,data:=.seq ([]:List Value).toArray }:=hsb₁.extBut _ _ hDC (get?_push_of_some _ (hH2 ▸ get?_push_size _ rfl));generalize hCC:HP.objs.size=C at *;generalize hDD:s2.heap.objs.size=D at *;have IX:=Hs (N':=N') (fp:=fp) I2 hf c1 c2 (by rw [hDD]; exact hCle) f2 (by rw [hDD]; exact hlt) (tk:=s2.toks + ([]:List (Str × Value)).length) old hns₁;have hDn:H2 D=none:=I2.hok.fresh (by rw [hDD]; exact Nat.le_refl _)
 have hDfs:D ∉ frs X.stack:=fun z=>by
  rcases mem_cons.mp (I2.stkSub D z) with q | q
  ·have:=I2.lt; rw [← q,hDD] at this; exact Nat.lt_irrefl _ this
  ·exact I2.nofs (by rw [hDD]; exact Nat.le_refl _) q
 have cellLt:∀ x c,X.env.cells.lookup x=some c->c < D:=fun x c e=>by
  obtain ⟨v,z⟩:=I2.cell x c e;rw [← hDD]; exact z.lt
 have pinLt:∀ p ∈ X.pn++aa,p.1 < D:=fun p hp=>by rw [← hDD]; exact lt_size (I2.pin p hp).1
 have s0D:X.s₀.heap.objs.size <= D:=by rw [← hDD]; exact I2.sz
 have locLt:X.env.locals < D:=by rw [← hDD]; exact I2.lt
 let X':Cx:=Ak X N' scope cl s2 H2 C fp (X.pn++aa)
 have stat:∀ {H':Hp} {ob:Obj},(∀ b ∈ fp,H' b=none)->∀ b ∈ fp,Ek X' [(D,ob)] H' b:=fun {H' ob} hn b hb=>by
  refine ⟨hn b hb,Nat.ne_of_lt (Nat.lt_of_lt_of_le (hlt b hb) hCle),fun z=>?_,.inl hb,fun x c e=>(f2 b hb).2.2.2.2.1 x c (c1 x c e),fun p hp=>?_⟩
  ·exact IX.ok.exfs b hb z
  ·rcases mem_append.mp hp with z | z
   ·exact (f2 b hb).2.2.2.2.2 p z
   ·have e:p=(D,ob):=by simpa using z
    subst e;exact Nat.ne_of_gt (hlt b hb)
 have pinD:∀ {σ':St} {H':Hp} {s':Shared} {ob:Obj},Inv X' [] σ' H' s'->s'.heap.get? D=some ob->H' D=none->(∀ v,ob.data ≠ .cell v)->Inv X' [(D,ob)] σ' H' s':=fun {σ' H' s' ob} Ia e n d =>
  Ia.pins_of fun p hp=>by
   have q:p=(D,ob):=by simpa using hp
   subst q;exact ⟨e,n,hDC,hDfs,d⟩
 have loop:∀ s3:Shared,s3={ s2 with heap:=h₁,toks:=s2.toks + ([]:List (Str × Value)).length } ->
   codeAny (model X.prog X.w) X.A (.compLoop (.ListComp elt [⟨tg,iter,ifs,0⟩] scope pos) 0 (.ref it) (.ref D) (compEnvC scope cl C X.env)) (compPost (model X.prog X.w) X.A X.xe use Qv (.ref D) C) s3:=by
  rintro s3 rfl
  refine codeAny_loop rfl (fun n s'=>∃ i ys its k H',Inv X' [(D,({ cls:=.type "list", data:=.seq (List.toArray its) k }:Obj))] (B4 ix σ) H' s'/\tn i s'.heap/\(∀ b ∈ fp,H' b=none)/\W i n ys H'/\Vals ys its)
   (fun n s4 hI=>?_) m0 ⟨0,[],[],_,H2,pinD IX cq hDn (fun v z=>by cases z),T.keep _ _ _ st2 (fun b _ o e=>old b o e),fun b hb=>(f2 b hb).1,w0,.nil⟩
  obtain ⟨i,ys,its,k,H4,I4,st4,fr4,w4,rv⟩:=hI;show wpAny _ X.A ((compTurn (.ListComp elt [⟨tg,iter,ifs,0⟩] scope pos) 0 (.ref it) (.ref D) (compEnvC scope cl C X.env)).onRaise (fun x=>do noteFrame x (compEnvC scope cl C X.env); theTreesLotGoes x)) _ _ s4;refine wpAny_noted ?_;rw [compTurn_list];refine C9 ?_;rcases turn i n ys H4 w4 with ⟨stop,hz,r⟩ | ⟨go,N,hN,step⟩
  ·refine wpAny_bind (wpAny_standAt (wpAny_bind (thn (T.done X' rfl rfl rfl (hc _ _ _ _ _ _) i _ s4 _ H4 _ I4 (stat fr4) st4 stop) fun r' s5 ⟨hr,I5⟩=>?_)));subst hr;have pD:=I5.pin (D,_) (mem_append_right _ mem_cons_self);have Ib:Inv X aa σ H4 s5:=Jf I2 f2 I5;have Ic:Inv X aa σ (upd H4 D (.lst ys)) s5:=Ib.track pD.2.1 (Nat.ne_of_gt locLt) (.inr s0D) (fun x c e=>Nat.ne_of_lt (cellLt x c e)) (fun p hp=>Nat.ne_of_lt (pinLt p hp)) ⟨hz,its,k,rv,pD.1⟩;obtain ⟨m5,n5,_⟩:=I5.loc
   refine wpAny_pure (d4 s5 ys H4 D C m5 Ic r pD.2.1 n5 (Nat.le_trans s0D hCle) (Nat.ne_of_gt (Nat.lt_of_lt_of_le locLt hCle)) (fun x c e=>Nat.ne_of_lt (Nat.lt_of_lt_of_le (cellLt x c e) hCle))
    (fun p hp=>Nat.ne_of_lt (Nat.lt_of_lt_of_le (pinLt p hp) hCle)) ?_)
   rw [AH (Ne.symm hDC)];exact I5.free
  ·refine wpAny_bind (wpAny_standAt (wpAny_bind (thn (T.item X' rfl rfl rfl (hc _ _ _ _ _ _) i _ s4 _ H4 _ I4 (stat fr4) st4 go) fun r' s5 ⟨u,hr,h5⟩=>?_)));subst hr;refine wpAny_bind (thn h5 fun _ s6 ⟨x,H6,I6,r6,y6,st6,fr6⟩=>?_);have I6':=I6.pinned (stat fr6) (T.obj _ _ st6);refine wpAny_bind (thn (hg _ _ _ _ _ _ _ s6 _ H6 x u _ I6' r6 (step x H6 y6)) fun _ s7 ⟨σ7,H7,I7,k7,q7⟩=>?_);refine wpAny_bind (thn (ht _ _ _ _ _ _ _ s7 σ7 H7 _ I7 q7) fun b s8 ⟨H8,I8,q8⟩=>?_)
   have again:∀ {H9:Hp} {s9:Shared} {ys':List V} {its':List Value} {k':Nat},Inv X' ([(D,({ cls:=.type "list", data:=.seq (List.toArray its') k' }:Obj))]++Cd fp s6.heap) σ7 H9 s9->Vals ys' its' ->
     (∃ m',m' < n/\W (i + 1) m' ys' H9)->∃ m,m < n/\∃ i ys its k H',Inv X' [(D,({ cls:=.type "list", data:=.seq (List.toArray its) k }:Obj))] (B4 ix σ) H' s9/\tn i s9.heap/\(∀ b ∈ fp,H' b=none)/\W i m ys H'/\Vals ys its:=by
    intro H9 s9 ys' its' k' I9 rv' ⟨m',hm,w9⟩;refine ⟨m',hm,i + 1,ys',its',k',H9,I9.unpinned.weak (I4.len.trans I9.len.symm) k7,T.keep _ _ _ st6 fun b hb o e=>(I9.pin (b,o) (mem_append_right _ (mem_append_right _ (B8 hb e)))).1,fun b hb=>?_,w9,rv'⟩;obtain ⟨o,e,d⟩:=T.obj _ _ st6 b hb;exact (I9.pin (b,o) (mem_append_right _ (mem_append_right _ (B8 hb e)))).2.1
   cases b with
   | false =>
    rw [if_neg Bool.false_ne_true] at q8;exact wpAny_pure ⟨rfl,again I8 rv (hN _ _ q8).2⟩
   | true =>
    rw [if_pos rfl] at q8;refine wpAny_bind (wpAny_bind (thn (he _ _ _ _ _ _ _ s8 σ7 H8 _ I8 q8) fun y s9 ⟨z,H9,I9,r9,q9⟩=>?_))
    have hz:ys.length < sizeLine:=by
     have:=(hN _ _ q9).1;rw [length_append,length_singleton] at this;omega
    have pD:=I9.pin (D,_) (mem_append_right _ (mem_append_left _ mem_cons_self));have bw:=rv.length;refine wpAny_bind (call_meets F.slot_list_append ⟨_,pD.1,rfl⟩ F.entry_list_append (F.args_list_append_2 _ _) (PySem.list_append D its.toArray k y (by rw [size_toArray]; omega)) ⟨pD.1,wpAny_pure (wpAny_pure ⟨rfl,?_⟩)⟩);have eq':its.toArray.push y=(its++[y]).toArray:=by simp
    obtain ⟨k',q⟩:∃ k',(s9.heap.update D (Obj.mapSeq (·.push y))).get? D=some { cls:=.type "list", data:=.seq (its++[y]).toArray k' }:=⟨_,by rw [← eq']; exact PySem.IsL.update pD.1 (·.push y)⟩;have Iw:Inv X' (Cd fp s6.heap) σ7 H9 s9:=I9.pins_of fun p hp=>I9.pin p (mem_append_right _ (mem_append_right _ hp))
    have It:Inv X' (Cd fp s6.heap) σ7 H9 { s9 with heap:=s9.heap.update D (Obj.mapSeq (·.push y)),toks:=s9.toks }:=Iw.turned (it:=D) (fun b o hb e=>(get?_update_other s9.heap (Obj.mapSeq (·.push y)) (Ne.symm hb)).trans e) pD.2.1 hDC
     (.inr (by show s2.heap.objs.size <= D; rw [hDD]; exact Nat.le_refl _)) (fun x c e=>Nat.ne_of_lt (cellLt x c (c1 x c e))) (fun p hp=>by
      rcases mem_append.mp hp with z' | z'
      ·exact Nat.ne_of_lt (pinLt p z')
      ·exact Nat.ne_of_lt (hlt p.1 (F8 z').1))
    refine again (its':=its++[y]) (k':=k') (It.pins_of fun p hp=>?_) (rv.append (.cons r9 .nil)) (hN _ _ q9).2;rcases mem_append.mp hp with z' | z'
    ·have e:p=(D,({ cls:=.type "list", data:=.seq (its++[y]).toArray k' }:Obj)):=by simpa using z'
     subst e;exact ⟨q,pD.2.1,hDC,hDfs,fun v z=>by cases z⟩
    ·exact It.pin p (mem_append_right _ z')
 exact codeAny_compStart_list (loop _ rfl) (T.self _ 0 _ _ _ (T.keep _ _ _ st2 fun b _ o e=>old b o e) (loop _ rfl))
theorem Jh {RD:Cx->Prop} (hf:CompFits X.env.scope scope X.N N' ix) (hc:∀ cl s H C fp aa,RD (Ak X N' scope cl s H C fp (X.pn++aa))) (hi:PIg RD X tg iter wi)
  (hg:∀ cl s H C fp pn,PGk (Ak X N' scope cl s H C fp pn) tg ix g) (ht:∀ cl s H C fp pn,PTs (Ak X N' scope cl s H C fp pn) ifs tt) (he:∀ cl s H C fp pn,PE (Ak X N' scope cl s H C fp pn) elt te)
  (hs:∀ x,foldedSetIterable iter X.env x=pure x:=by intro _; rfl) :
  PE X (.ListComp elt [⟨tg,iter,ifs,0⟩] scope pos) (fun σ H Q=>Dp wi g tt te ix (fun ys H'=>∀ p,H' p=none->Q (.ref p) (upd H' p (.lst ys))) σ H):=by
 intro aa s σ H Q I h;rw [eval_ListComp];refine Jg (use:=none) hf hc hi hg ht he hs I h fun s' ys H' D C m I' r hD hn h1 h2 h3 h4 h5=>?_;refine ⟨m,hn,fun h'' hs''=>⟨.ref D,_,I'.turned (it:=C) (t':=s'.toks) (fun b o hb e=>(hs''.2 b hb).trans e) h5 h2 (.inr h1) h3 h4,rfl,r D hD⟩⟩
theorem LJ (hf:CompFits X.env.scope scope X.N N' ix) (hc:X.calm=true) (hi:PI X tg iter wi)
  (hg:∀ cl s H C fp pn,PGk (Ak X N' scope cl s H C fp pn) tg ix g) (ht:∀ cl s H C fp pn,PTs (Ak X N' scope cl s H C fp pn) ifs tt) (he:∀ cl s H C fp pn,PE (Ak X N' scope cl s H C fp pn) elt te)
  (hs:∀ x,foldedSetIterable iter X.env x=pure x:=by intro _; rfl) :
  PE X (.ListComp elt [⟨tg,iter,ifs,0⟩] scope pos) (fun σ H Q=>Dp wi g tt te ix (fun ys H'=>∀ p,H' p=none->Q (.ref p) (upd H' p (.lst ys))) σ H):=Jh hf (fun _ _ _ _ _ _=>hc) hi.g hg ht he hs
theorem QQ {i:Nat} {py spos:Pos} (hN:X.N.Nodup) (hi':X.N[i]?=some x) (hx:X.env.scope.names.lookup x=some .local) (hsw:swapsWith (.ListComp elt [⟨tg,iter,ifs,0⟩] scope pos) (some (.Name x py)) spos.line X.env=pure true)
  (hf:CompFits X.env.scope scope X.N N' ix) (hc:X.calm=true) (hi:PI X tg iter wi)
  (hg:∀ cl s H C fp pn,PGk (Ak X N' scope cl s H C fp pn) tg ix g) (ht:∀ cl s H C fp pn,PTs (Ak X N' scope cl s H C fp pn) ifs tt) (he:∀ cl s H C fp pn,PE (Ak X N' scope cl s H C fp pn) elt te)
  (hs:∀ x,foldedSetIterable iter X.env x=pure x:=by intro _; rfl) :
  PS X (.Assign [.Name x py] (.ListComp elt [⟨tg,iter,ifs,0⟩] scope pos) spos) (fun D σ H=>Dp wi g tt te ix (fun ys H'=>∀ p,H' p=none->D.nx (σ.set i (some (.ref p))) (upd H' p (.lst ys))) σ H):=by
 intro aa s σ H D I h;rw [exec_Assign_Name_used _ _ _ _ hsw];refine wpAny_bind (wpAny_standAt (wpAny_bind ?_));show wpAny _ X.A (do let _ ← comprehension (.ListComp elt [⟨tg,iter,ifs,0⟩] scope pos) scope X.env _ (newList []) false (eval iter X.env) (some (assign (.Name x py) X.env))) _ _ s;refine wpAny_bind (thn (Jg (use:=some (assign (.Name x py) X.env)) (Qv:=fun _ s'=>SP X aa D .next s') hf (fun _ _ _ _ _ _=>hc) hi.g hg ht he hs I h fun s' ys H' Da C m I' r hD hn h1 h2 h3 h4 h5=>?_) fun _ s' hq=>wpAny_pure (wpAny_pure hq));show wpAny _ X.A (assign (.Name x py) X.env (.ref Da)) _ _ _;refine wpAny_assign_Name (JQ (v:=.ref Da) I' hN hi' (.inl hx) rfl (fun s'' I'' ⟨a,hsb,ha⟩=>?_) (.inr hx))
 have hCa:C ≠ a:=by
  rcases ha with z | z
  ·rw [z]; exact h2
  ·exact (h3 x a z).symm
 refine ⟨m,hn.sameBut hsb hCa,fun h'' hs''=>?_⟩;exact ⟨_,_,I''.turned (it:=C) (t':=s''.toks) (fun b o hb e=>(hs''.2 b hb).trans e) h5 h2 (.inr h1) h3 h4,r Da hD⟩
end
abbrev g2 (K:FG):TG:=SX K 2 (HS (Cn 0) (HS (Cn 1) SW))
section
variable {iter elt:Expr} {ifs:List Expr} {scope:Scope} {px py pt:Pos} {wi:TI} {tt:TT} {y:Str} {kt:Nat}
theorem BB (Nc:List Str) (ixc:List (Option Nat)) (hf:Hq X.env.scope scope X.N (x :: Nc) (none :: ixc)=true) (hnd:(x :: Nc).Nodup) (hx:scope.names.lookup x=some .local) (hc:X.calm=true) (hi:PI X (.Name x px) iter wi)
  (ht:∀ cl s H C fp pn,PTs (Ak X (x :: Nc) scope cl s H C fp pn) ifs tt) (he:∀ cl s H C fp pn,PE (Ak X (x :: Nc) scope cl s H C fp pn) elt te) (hs:∀ x,foldedSetIterable iter X.env x=pure x:=by intro _; rfl) :
  PE X (.ListComp elt [⟨.Name x px,iter,ifs,0⟩] scope pos) (fun σ H Q=>Dp wi (Cn 0) tt te (none :: ixc) (fun ys H'=>∀ p,H' p=none->Q (.ref p) (upd H' p (.lst ys))) σ H) :=
 LJ (CompFits.of hf) hc hi (fun cl s H C fp pn=>FX (AR (i:=0) hnd rfl (.inl (lookup_relabel_local hx)) (.inr (lookup_relabel_local hx)))) ht he hs
theorem Dq (Nc:List Str) (ixc:List (Option Nat)) (hf:Hq X.env.scope scope X.N (x :: y :: Nc) (none :: none :: ixc)=true) (hnd:(x :: y :: Nc).Nodup) (hx:scope.names.lookup x=some .local) (hy:scope.names.lookup y=some .local) (hc:X.calm=true)
  (hi:PI X (.Tuple [.Name x px,.Name y py] kt pt) iter wi)
  (ht:∀ cl s H C fp pn,PTs (Ak X (x :: y :: Nc) scope cl s H C fp pn) ifs tt) (he:∀ cl s H C fp pn,PE (Ak X (x :: y :: Nc) scope cl s H C fp pn) elt te) (hs:∀ x,foldedSetIterable iter X.env x=pure x:=by intro _; rfl) :
  PE X (.ListComp elt [⟨.Tuple [.Name x px,.Name y py] kt pt,iter,ifs,0⟩] scope pos) (fun σ H Q=>Dp wi (g2 X.K) tt te (none :: none :: ixc) (fun ys H'=>∀ p,H' p=none->Q (.ref p) (upd H' p (.lst ys))) σ H) :=
 LJ (CompFits.of hf) hc hi (fun cl s H C fp pn=>QP (BK (X:=Ak X (x :: y :: Nc) scope cl s H C fp pn) hc (AS (AR (i:=0) hnd rfl (.inl (lookup_relabel_local hx)) (.inr (lookup_relabel_local hx)))
  (AS (AR (i:=1) hnd rfl (.inl (lookup_relabel_local hy)) (.inr (lookup_relabel_local hy))) A1)))) ht he hs
theorem QR {i:Nat} {z:Str} {pz spos:Pos} (hN:X.N.Nodup) (hi':X.N[i]?=some z) (hz:X.env.scope.names.lookup z=some .local) (Nc:List Str) (ixc:List (Option Nat)) (hf:Hq X.env.scope scope X.N (x :: Nc) (none :: ixc)=true) (hnd:(x :: Nc).Nodup)
  (hx:scope.names.lookup x=some .local) (hc:X.calm=true) (hi:PI X (.Name x px) iter wi)
  (ht:∀ cl s H C fp pn,PTs (Ak X (x :: Nc) scope cl s H C fp pn) ifs tt) (he:∀ cl s H C fp pn,PE (Ak X (x :: Nc) scope cl s H C fp pn) elt te)
  (hsw:swapsWith (.ListComp elt [⟨.Name x px,iter,ifs,0⟩] scope pos) (some (.Name z pz)) spos.line X.env=pure true:=by rfl) (hs:∀ x,foldedSetIterable iter X.env x=pure x:=by intro _; rfl) :
  PS X (.Assign [.Name z pz] (.ListComp elt [⟨.Name x px,iter,ifs,0⟩] scope pos) spos) (fun D σ H=>Dp wi (Cn 0) tt te (none :: ixc) (fun ys H'=>∀ p,H' p=none->D.nx (σ.set i (some (.ref p))) (upd H' p (.lst ys))) σ H) :=
 QQ hN hi' hz hsw (CompFits.of hf) hc hi (fun cl s H C fp pn=>FX (AR (i:=0) hnd rfl (.inl (lookup_relabel_local hx)) (.inr (lookup_relabel_local hx)))) ht he hs
end
theorem BR {g:TG} {tt:TT} {ix:List (Option Nat)} {R:List V->Hp->Prop} {H1:Hp} (Pv:Nat->List V->Hp->Prop) (h0:Pv 0 [] H1) (hl:∀ i ys H,i <= xs.length->Pv i ys H->SqL K H a xs) (hz:∀ i ys H,Pv i ys H->ys.length <= 1000)
  (hs:∀ i x ys H,xs[i]?=some x->Pv i ys H->g x (B4 ix σ) H fun σ2 H2=>tt σ2 H2 fun b H3=>if b=true then te σ2 H3 fun y H4=>Pv (i + 1) (ys++[y]) H4 else Pv (i + 1) ys H3) (hd:∀ ys H,Pv xs.length ys H->R ys H) :
  ∃ W:Nat->Nat->List V->Hp->Prop,(∃ m,W 0 m [] H1)/\∀ i m ys H,W i m ys H ->
   ((Itl K a).stop i H/\ys.length <= sizeLine/\R ys H) \/
   ((Itl K a).go i H/\∃ N:List V->Hp->Prop,(∀ ys' H',N ys' H'->ys'.length <= sizeLine/\∃ m',m' < m/\W (i + 1) m' ys' H') /\
    ∀ x H',(Itl K a).yld i H x H'->g x (B4 ix σ) H' fun σ2 H2=>tt σ2 H2 fun b H3=>if b=true then te σ2 H3 fun y H4=>N (ys++[y]) H4 else N ys H3):=by
 refine ⟨fun i m ys H=>m=xs.length - i/\i <= xs.length/\Pv i ys H,⟨_,rfl,Nat.zero_le _,h0⟩,?_⟩;rintro i m ys H ⟨rfl,hi,hp⟩;by_cases hlt:i < xs.length
 ·have hx:xs[i]?=some xs[i]:=List.getElem?_eq_getElem hlt;refine .inr ⟨⟨xs,xs[i],hl i ys H hi hp,hx⟩,Pv (i + 1),fun ys' H' q=>⟨Nat.le_of_lt (Ab (hz _ ys' H' q)),xs.length - (i + 1),by omega,rfl,hlt,q⟩,?_⟩;rintro x H' ⟨rfl,hy⟩
  have ex:x=xs[i]:=by
   have:=hy xs (hl i ys H' hi hp);rw [hx] at this;exact (Option.some.inj this).symm
  subst ex;exact hs i xs[i] ys H' hx hp
 ·have e:i=xs.length:=by omega
  subst e;exact .inl ⟨⟨xs,hl _ ys H hi hp,Nat.le_refl _⟩,Nat.le_of_lt (Ab (hz _ ys H hp)),hd ys H hp⟩
theorem FY {g:TG} {tt:TT} {ix:List (Option Nat)} {R:List V->Hp->Prop} {H1:Hp} (Pv:Nat->List V->Hp->Prop) (h0:Pv 0 [] H1) (hl:∀ i ys H,i <= xs.length->Pv i ys H->SqT K H a xs) (hz:∀ i ys H,Pv i ys H->ys.length <= 1000)
  (hs:∀ i x ys H,xs[i]?=some x->Pv i ys H->g x (B4 ix σ) H fun σ2 H2=>tt σ2 H2 fun b H3=>if b=true then te σ2 H3 fun y H4=>Pv (i + 1) (ys++[y]) H4 else Pv (i + 1) ys H3) (hd:∀ ys H,Pv xs.length ys H->R ys H) :
  ∃ W:Nat->Nat->List V->Hp->Prop,(∃ m,W 0 m [] H1)/\∀ i m ys H,W i m ys H ->
   ((Itt K a).stop i H/\ys.length <= sizeLine/\R ys H) \/
   ((Itt K a).go i H/\∃ N:List V->Hp->Prop,(∀ ys' H',N ys' H'->ys'.length <= sizeLine/\∃ m',m' < m/\W (i + 1) m' ys' H') /\
    ∀ x H',(Itt K a).yld i H x H'->g x (B4 ix σ) H' fun σ2 H2=>tt σ2 H2 fun b H3=>if b=true then te σ2 H3 fun y H4=>N (ys++[y]) H4 else N ys H3):=by
 refine ⟨fun i m ys H=>m=xs.length - i/\i <= xs.length/\Pv i ys H,⟨_,rfl,Nat.zero_le _,h0⟩,?_⟩;rintro i m ys H ⟨rfl,hi,hp⟩;by_cases hlt:i < xs.length
 ·have hx:xs[i]?=some xs[i]:=List.getElem?_eq_getElem hlt;refine .inr ⟨⟨xs,xs[i],hl i ys H hi hp,hx⟩,Pv (i + 1),fun ys' H' q=>⟨Nat.le_of_lt (Ab (hz _ ys' H' q)),xs.length - (i + 1),by omega,rfl,hlt,q⟩,?_⟩;rintro x H' ⟨rfl,hy⟩
  have ex:x=xs[i]:=by
   have:=hy xs (hl i ys H' hi hp);rw [hx] at this;exact (Option.some.inj this).symm
  subst ex;exact hs i xs[i] ys H' hx hp
 ·have e:i=xs.length:=by omega
  subst e;exact .inl ⟨⟨xs,hl _ ys H hi hp,Nat.le_refl _⟩,Nat.le_of_lt (Ab (hz _ ys H hp)),hd ys H hp⟩
theorem Ce {lo:Int} {n:Nat} {g:TG} {tt:TT} {ix:List (Option Nat)} {R:List V->Hp->Prop} {H1:Hp} (Pv:Nat->List V->Hp->Prop) (h0:Pv 0 [] H1) (hz:∀ i ys H,Pv i ys H->ys.length <= 1000)
  (hs:∀ (i:Nat) ys H,i < n->Pv i ys H->g (.int (lo + i)) (B4 ix σ) H fun σ2 H2=>tt σ2 H2 fun b H3=>if b=true then te σ2 H3 fun y H4=>Pv (i + 1) (ys++[y]) H4 else Pv (i + 1) ys H3) (hd:∀ ys H,Pv n ys H->R ys H) :
  ∃ W:Nat->Nat->List V->Hp->Prop,(∃ m,W 0 m [] H1)/\∀ i m ys H,W i m ys H ->
   ((Itr lo n).stop i H/\ys.length <= sizeLine/\R ys H) \/
   ((Itr lo n).go i H/\∃ N:List V->Hp->Prop,(∀ ys' H',N ys' H'->ys'.length <= sizeLine/\∃ m',m' < m/\W (i + 1) m' ys' H') /\
    ∀ x H',(Itr lo n).yld i H x H'->g x (B4 ix σ) H' fun σ2 H2=>tt σ2 H2 fun b H3=>if b=true then te σ2 H3 fun y H4=>N (ys++[y]) H4 else N ys H3):=by
 refine ⟨fun i m ys H=>m=n - i/\i <= n/\Pv i ys H,⟨_,rfl,Nat.zero_le _,h0⟩,?_⟩;rintro i m ys H ⟨rfl,hi,hp⟩;by_cases hlt:i < n
 ·refine .inr ⟨hlt,Pv (i + 1),fun ys' H' q=>⟨Nat.le_of_lt (Ab (hz _ ys' H' q)),n - (i + 1),by omega,rfl,hlt,q⟩,?_⟩;rintro x H' ⟨rfl,rfl⟩;exact hs i ys H' hlt hp
 ·have e:i=n:=by omega
  subst e;exact .inl ⟨Nat.le_refl _,Nat.le_of_lt (Ab (hz _ ys H hp)),hd ys H hp⟩
section
variable {o:Obj} {kvs:LK}
theorem Inv.newOk (I:Inv X aa σ H s) {p:Addr} (hp:s.heap.objs.size <= p):H p=none/\p ≠ X.env.locals/\X.s₀.heap.objs.size <= p/\(∀ x c,X.env.cells.lookup x=some c->c ≠ p)/\∀ q ∈ X.pn++aa,q.1 ≠ p :=
 ⟨I.hok.fresh hp,Nat.ne_of_gt (Nat.lt_of_lt_of_le I.lt hp),Nat.le_trans I.sz hp,fun x c e=>by
  obtain ⟨v,z⟩:=I.cell x c e
  exact Nat.ne_of_lt (Nat.lt_of_lt_of_le z.lt hp),fun q hq=>Nat.ne_of_lt (Nat.lt_of_lt_of_le (lt_size (I.pin q hq).1) hp)⟩
theorem Inv.freeze (I:Inv X aa σ H s) (h:H a=some (.dK kvs)):∃ o,Inv X aa σ (upd H a (.frz o (.dK kvs))) s:=by
 obtain ⟨z,y,vs,r,ob,es,ep,e,rest⟩:=I.hok a _ h;refine ⟨ob,?_⟩;exact I.write (x:=a) (e:=a) (o:=.frz ob (.dK kvs)) (h':=s.heap) (t':=s.toks) (by rw [h]; exact trivial) (.inl rfl) (fun b u _ q=>q) ⟨ob,e⟩ ⟨e,z,y,vs,r,ob,es,ep,e,rest⟩
theorem Cf {sts:List Stmt} {t:TS} (h:PSs X sts t):PSs X sts (fun D σ H=>∃ a kvs,H a=some (.dK kvs)/\∀ o,t D σ (upd H a (.frz o (.dK kvs)))):=by
 intro aa s σ H D I ⟨a,kvs,e,k⟩;obtain ⟨o,I'⟩:=I.freeze e;exact h aa s σ _ D I' (k o)
noncomputable def Op (o:Obj):Nat:=match o.data with
 | .dict _ ep=>ep
 | _=>0
theorem DA (I:Inv X aa σ H s) (h:H a=some (.frz o (.dK kvs))):kvs.length <= sizeLine/\(a == sysModules)=false/\∃ vs,KV kvs vs/\s.heap.DictAt (Al X.prog X.w) a vs (Op o):=by
 obtain ⟨e,z,y,vs,r,ob,es,ep,e2,ex,d,rest⟩:=I.hok a _ h;rw [e] at e2; cases e2;refine ⟨z,y,vs,r,o,es,e,ex,?_,rest⟩;show o.data=.dict es (Op o);unfold Op; rw [d]
end
theorem KV.get {κ:Type}:∀ {kvs:List (κ × V)} {vs:List (κ × Value)} {i:Nat} {kv:κ × V},KV kvs vs->kvs[i]?=some kv->∃ v,vs[i]?=some (kv.1,v)/\RelV kv.2 v
 | _,_,_,_,.nil,e=>by simp at e
 | _,_,0,_,.cons r _,e=>by
  simp only [List.getElem?_cons_zero,Option.some.injEq] at e;subst e;rename_i q _ _ _;exact ⟨q.2,by rw [r.1]; rfl,r.2⟩
 | _,_,i + 1,kv,.cons _ t,e=>by
  obtain ⟨u,h1,h2⟩:=KV.get (i:=i) (kv:=kv) (show KV _ _ from t) (by simpa using e);exact ⟨u,by simpa using h1,h2⟩
theorem FZ {k:Key} (h:(Al P w).is k u=true):RelV (kV k) u:=by
 rcases A8 (show HN k u=true from h) with ⟨i,t,rfl,rfl⟩ | ⟨x,t,rfl,rfl⟩
 ·exact ⟨t,rfl⟩
 ·exact ⟨t,rfl⟩
noncomputable def Iti (a:Addr) (o:Obj) (kvs:LK):It:=⟨fun i H=>H a=some (.frz o (.dK kvs))/\i < kvs.length,fun i H x H'=>∃ p kv,H p=none/\x=.ref p/\kvs[i]?=some kv/\H'=upd H p (.tup [kV kv.1,kv.2]),
 fun i H=>H a=some (.frz o (.dK kvs))/\kvs.length <= i⟩
theorem Ms {elts:List Expr} {k0:Nat} (a it:Addr) (o:Obj) (kvs:LK) :
  K1 P w K (.Tuple elts k0 pos) (Iti a o kvs) [it] it (fun i h=>∃ ok ov,IsItemIter h it a i kvs.length (Op o) ok ov) where
 mem:=by simp
 obj:=fun i h st b hb=>by
  have e:b=it:=by simpa using hb
  subst e;obtain ⟨ok,ov,e⟩:=st;exact ⟨_,e,fun v z=>by cases z⟩
 keep:=fun i h h' st k=>by
  obtain ⟨ok,ov,e⟩:=st;exact ⟨ok,ov,k it (by simp) _ e⟩
 item:=by
  intro X hP hw hK hc i aa s σ H E I hf st hg;subst hP hw hK;obtain ⟨hfz,hi⟩:=hg;obtain ⟨z,y,vs,rel,dd⟩:=DA I hfz;obtain ⟨ok,ov,st⟩:=st;have bw:=rel.length;obtain ⟨kv,hkv⟩:∃ kv,kvs[i]?=some kv:=⟨_,List.getElem?_eq_getElem hi⟩;obtain ⟨v,hv,rv⟩:=KV.get rel hkv;obtain ⟨f0,f1,f2,f3,f4,f5⟩:=hf it (by simp);rw [bw] at st;have hlt:it < s.heap.objs.size:=lt_size st;refine wpAny_pyNext_items_item st dd hv fun key h' cy st' hp hsz keep=>?_;have I1:Inv X aa σ H { s with heap:=h' }:=I.turned (t':=s.toks) keep f0 f1 f3 f4 f5;obtain ⟨n1,n2,n3,n4,n5⟩:=I.newOk (Nat.le_refl s.heap.objs.size);have I2:Inv X aa σ (upd H s.heap.objs.size (.tup [kV kv.1,kv.2])) { s with heap:=h' }:=I1.track n1 n2 (.inr n3) n4 n5 ⟨by show 2 <= sizeLine; decide,[key,v],.cons (FZ cy) (.cons rv .nil),_,hp,rfl,_,rfl⟩;have fi:(upd H s.heap.objs.size (.tup [kV kv.1,kv.2])) it=none:=by rw [AH (Nat.ne_of_lt hlt)]; exact f0
  refine ⟨.ref s.heap.objs.size,rfl,wpAny_letOwnedTupleGo_items st' fun h'' st'' sb=>?_⟩;refine ⟨.ref s.heap.objs.size,_,I2.turned (it:=it) (t':=s.toks) (fun b o hb e=>(sb.2 b hb).trans e) fi f1 f3 f4 f5,rfl,⟨_,kv,n1,rfl,hkv,rfl⟩,⟨key,v,by rw [bw]; exact st''⟩,fun b hb=>?_⟩;have e:b=it:=by simpa using hb
  rw [e]; exact fi
 done:=by
  intro X hP hw hK hc i aa s σ H E I hf st hg;subst hP hw hK;obtain ⟨hfz,hi⟩:=hg;obtain ⟨z,y,vs,rel,dd⟩:=DA I hfz;obtain ⟨ok,ov,st⟩:=st;have bw:=rel.length;rw [bw] at st;obtain ⟨f0,f1,f2,f3,f4,f5⟩:=hf it (by simp);exact wpAny_pyNext_items_end (I.ok.hd hc) st dd (List.getElem?_eq_none_iff.mpr (by omega)) fun h' eb=>⟨rfl,I.turned (t':=s.toks) (fun b o hb e=>eb b o hb e) f0 f1 f3 f4 f5⟩
 self:=fun _ _ _ _ _ st h=>by
  obtain ⟨ok,ov,e⟩:=st;exact W.kcp_self e h
def US (to:TE):TI:=fun σ H R=>to σ H fun x H1=>∃ a o kvs,x=.ref a/\H1 a=some (.frz o (.dK kvs))/\R (Iti a o kvs) H1
theorem QS {elts:List Expr} {k0:Nat} {o:Expr} {to:TE} {apos cpos:Pos} (ho:PE X o to) (cc:attributeBase o "items" X.env (eval o X.env)=eval o X.env:=by rfl) (ci:(apos.endLine == cpos.line)=true:=by rfl) :
  PI X (.Tuple elts k0 pos) (.Call (.Attribute o "items" apos) [] [] cpos) (US to):=by
 intro aa s σ H R I h;refine wpAny_Call_method0_late cc ci (thn (ho aa s σ H _ I h) fun v s1 ⟨x,H1,I1,r1,a,ob,kvs,ex,hfz,q⟩=>?_);subst ex;cases r1;obtain ⟨t1,t2,_⟩:=QO I1 (.inl ⟨kvs,.inr ⟨ob,hfz⟩⟩);obtain ⟨z,y,vs,rel,dd⟩:=DA I1 hfz;refine ⟨"dict", "dict.items", PySem.F.plainAttrs_dict,PySem.F.slot_dict_items,PySem.F.type_dict_items,t1,t2,Calls.callWith_builtin rfl (PySem.evalArgs_none (call_meetsIn PySem.F.slot_dict_items t1 PySem.F.entry_dict_items (PySem.F.args_dict_items_1 _) (meets_dict_items (Al X.prog X.w) a y) ⟨⟨vs,dd.dictOf⟩,?_⟩))⟩;have I2:Inv X aa σ H1 { s1 with heap:=s1.heap.push { cls:=.type "dict_items", data:=.fields #[.ref a] } }:=I1.kept (t':=s1.toks) fun b o e=>get?_push_of_some _ e;refine wpAny_pyIter_items (knd:=Al X.prog X.w) (d:=a) (kvs:=vs) (ep:=Op ob) ⟨_,get?_push_size _ rfl,rfl,rfl⟩ (dd.push _) ?_;refine ⟨_,[_],_,_,H1,rfl,I2.kept (t':=s1.toks) fun b o e=>get?_push_of_some _ e,Ms a _ ob kvs,⟨.none,.none,by rw [rel.length]; exact get?_push_size _ rfl⟩,fun b hb=>?_,q⟩;have e:b=(s1.heap.push { cls:=.type "dict_items", data:=.fields #[.ref a] }).objs.size:=by simpa using hb
 subst e;exact I2.fpOk (Nat.le_refl _) (I2.hok.fresh (Nat.le_refl _))
noncomputable def Ite (K:FG) (a:Addr):It:=⟨fun i H=>∃ xs x,SqL K H a xs/\xs[i]?=some x,fun i H x H'=>∃ p y,H p=none/\x=.ref p/\(∀ xs,SqL K H a xs->xs[i]?=some y)/\H'=upd H p (.tup [.int i,y]),fun i H=>∃ xs,SqL K H a xs/\xs.length <= i⟩
theorem Oq {elts:List Expr} {k0:Nat} (a e it:Addr) (bn:e ≠ it) :
  K1 P w K (.Tuple elts k0 pos) (Ite K a) [e,it] e (fun i h=>∃ old,IsEnum h e it i old/\h.IsListIter it a i) where
 mem:=by simp
 obj:=fun i h st b hb=>by
  obtain ⟨old,e1,o,e2,c,d⟩:=st;have hb':b=e\/b=it:=by simpa using hb
  rcases hb' with rfl | rfl
  ·exact ⟨_,e1,fun v z=>by cases z⟩
  ·exact ⟨o,e2,fun v z=>by rw [d] at z; cases z⟩
 keep:=fun i h h' st k=>by
  obtain ⟨old,e1,e2⟩:=st;exact ⟨old,k e (by simp) _ e1,e2.at fun o q=>k it (by simp) o q⟩
 item:=by
  intro X hP hw hK hc i aa s σ H E I hf st hg;subst hP hw hK;obtain ⟨xs,x,hq,hx⟩:=hg;obtain ⟨its,rv,p,hz⟩:=I.list hq;obtain ⟨u,hu,ru⟩:=rv.get hx;obtain ⟨old,s1,s2⟩:=st;obtain ⟨f0,f1,f2,f3,f4,f5⟩:=hf e (by simp);obtain ⟨g0,g1,g2,g3,g4,g5⟩:=hf it (by simp);have hlt:e < s.heap.objs.size:=lt_size s1;have d6:it < s.heap.objs.size:=by obtain ⟨o,q,_⟩:=id s2; exact lt_size q
  refine wpAny_pyNext_enum_item s1 s2 p.isList (x:=u) (by simpa using hu) bn fun h' st' st2' hp hsz keep=>?_
  have I1:Inv X aa σ H { s with heap:=h',toks:=s.toks + 1 }:=by
   refine I.step (H':=H) (g':=s.gens) (d':=s.drawn) (ch:=[e,it]) (fun b hb=>?_) (fun b o _ _ hb q _=>keep b o (by simp at hb; exact hb.1) (by simp at hb; exact hb.2) q) (fun b o _ _ hb q _=>⟨o.slots,keep b o (by simp at hb; exact hb.1) (by simp at hb; exact hb.2) q⟩)
    (fun _ _ _ _ n=>n) (fun b o hb q=>⟨o,keep b o (by simp at hb; exact hb.1) (by simp at hb; exact hb.2) q⟩) (fun _ _ q=>q) (fun _ _ _ q=>q) (fun b ps q=>⟨#[],by rw [q]; simp⟩) (fun m hm=>?_) (fun b u q=>?_) I.bare
   ·have hb':b=e\/b=it:=by simpa using hb
    rcases hb' with rfl | rfl
    ·exact ⟨f3,f1,f4,f5⟩
    ·exact ⟨g3,g1,g4,g5⟩
   ·obtain ⟨oL,es,ep,hoL,r⟩:=hm;exact ⟨oL,es,ep,keep _ oL (Ne.symm f1) (Ne.symm g1) hoL,r⟩
   ·have ne1:∀ c v,H c=some v->c ≠ e/\c ≠ it:=fun c v q=>⟨AI q f0,AI q g0⟩;refine (I.hok b u q).stay (fun c v hc q'=>keep c v ?_ ?_ q') (fun _ q=>q) fun _ _ q=>q
    ·rcases hc with z | z
     ·rw [z]; exact (ne1 b u q).1
     ·exact (ne1 c _ z).1
    ·rcases hc with z | z
     ·rw [z]; exact (ne1 b u q).2
     ·exact (ne1 c _ z).2
  obtain ⟨n1,n2,n3,n4,n5⟩:=I.newOk (Nat.le_refl s.heap.objs.size);have I2:Inv X aa σ (upd H s.heap.objs.size (.tup [.int i,x])) { s with heap:=h',toks:=s.toks + 1 }:=I1.track n1 n2 (.inr n3) n4 n5 ⟨by show 2 <= sizeLine; decide,[.int i s.toks,u],.cons ⟨_,rfl⟩ (.cons ru .nil),_,hp,rfl,_,rfl⟩;have fe:(upd H s.heap.objs.size (.tup [.int i,x])) e=none:=by rw [AH (Nat.ne_of_lt hlt)]; exact f0
  have fi:(upd H s.heap.objs.size (.tup [.int i,x])) it=none:=by rw [AH (Nat.ne_of_lt d6)]; exact g0
  refine ⟨.ref s.heap.objs.size,rfl,wpAny_letOwnedTupleGo_enum st' fun h'' st'' sb=>?_⟩;refine ⟨.ref s.heap.objs.size,_,I2.turned (it:=e) (t':=s.toks + 1) (fun b o hb q=>(sb.2 b hb).trans q) fe f1 f3 f4 f5,rfl,⟨_,x,n1,rfl,fun ys hy=>by rw [I.list_inj hy hq]; exact hx,rfl⟩,⟨_,by exact_mod_cast st'',st2'.extBut sb.extBut (Ne.symm bn)⟩,fun b hb=>?_⟩;have hb':b=e\/b=it:=by simpa using hb
  rcases hb' with rfl | rfl
  ·exact fe
  ·exact fi
 done:=by
  intro X hP hw hK hc i aa s σ H E I hf st hg;subst hP hw hK;obtain ⟨xs,hq,hx⟩:=hg;obtain ⟨its,rv,p,hz⟩:=I.list hq;obtain ⟨old,s1,s2⟩:=st;obtain ⟨g0,g1,g2,g3,g4,g5⟩:=hf it (by simp);have hl:=rv.length;exact wpAny_pyNext_enum_end (I.ok.hd hc) s1 s2 p.isList (by simp; omega) fun h' eb=>⟨rfl,I.turned (t':=s.toks) (fun b o hb e=>eb b o hb e) g0 g1 g3 g4 g5⟩
 self:=fun _ _ _ _ _ st h=>by
  obtain ⟨old,e1,_⟩:=st;exact wpAny_pyIter_enum e1 h
def Vn (K:FG) (tl:TA):TI:=fun σ H R=>tl σ H fun vs H1=>∃ a,vs=[.ref a]/\(∃ xs,SqL K H1 a xs)/\R (Ite K a) H1
theorem Sn {elts:List Expr} {k0:Nat} {p cpos:Pos} {l:Expr} {tl:TA} (hg:Gl X "enumerate") (hm:X.mg "enumerate" = none) (hl:PA X [l] tl) (hs:starEach [l] X.env=[(false,eval l X.env)]:=by rfl) :
  PI X (.Tuple elts k0 pos) (.Call (.Name "enumerate" p) [l] [] cpos) (Vn X.K tl):=by
 intro aa s σ H R I h;refine wpAny_Call_Name_kw (Ej (u:=.type "enumerate") I hg hm (by decide +kernel) ?_);refine PyProof.Rows.callWith_type1 (thn (hl cpos aa s σ H _ I h) fun us s1 ⟨vs,H1,I1,r1,a,ev,⟨xs,hq⟩,q⟩=>?_) hs rfl;subst ev;obtain ⟨u,rfl,ru⟩:=CM r1;cases ru;obtain ⟨its,rv,pl,hz⟩:=I1.list hq;refine call_enumerate_list pl.isList fun h' he hi hsz keep=>?_;refine wpAny_pyIter_enum he ?_;have I2:Inv X aa σ H1 { s1 with heap:=h' }:=I1.kept (t':=s1.toks) keep;refine ⟨_,[s1.heap.objs.size + 1,s1.heap.objs.size],_,_,H1,rfl,I2,Oq a _ _ (Nat.succ_ne_self _),⟨_,he,hi⟩,fun b hb=>?_,q⟩;have hb':b=s1.heap.objs.size + 1\/b=s1.heap.objs.size:=by simpa using hb
 rcases hb' with rfl | rfl
 ·exact I1.fpOk (Nat.le_succ _) (I1.hok.fresh (Nat.le_succ _))
 ·exact I1.fpOk (Nat.le_refl _) (I1.hok.fresh (Nat.le_refl _))
noncomputable def Its (x:Str):It:=⟨fun i _=>i < x.cps.size,fun i H v H'=>H'=H/\∃ c,x.cps[i]?=some c/\v=.str ⟨#[c]⟩,fun i _=>x.cps.size <= i⟩
theorem QT {n:Str} (it:Addr) (x:Str) (t:Tok) :
  K1 P w K (.Name n pos) (Its x) [it] it (fun i h=>h.IsStrIter it "str_ascii_iterator" x t i) where
 mem:=by simp
 obj:=fun i h st b hb=>by
  have e:b=it:=by simpa using hb
  subst e;obtain ⟨o,e,c,d⟩:=st;exact ⟨o,e,fun v z=>by rw [d] at z; cases z⟩
 keep:=fun i h h' st k=>by
  obtain ⟨o,e,r⟩:=st;exact ⟨o,k it (by simp) o e,r⟩
 item:=by
  intro X hP hw hK hc i aa s σ H E I hf st hg;subst hP hw hK;have hi:i < x.cps.size:=hg;obtain ⟨f0,f1,f2,f3,f4,f5⟩:=hf it (by simp);refine wpAny_pyNext_ascii_item st (Array.getElem?_eq_getElem hi) fun h' st' sb=>?_;refine ⟨_,rfl,wpAny_pure ⟨.str ⟨#[x.cps[i]]⟩,H,I.turned (t':=s.toks + 1) (fun b o hb e=>(sb.2 b hb).trans e) f0 f1 f3 f4 f5,⟨_,rfl⟩,⟨rfl,_,Array.getElem?_eq_getElem hi,rfl⟩,st',fun b hb=>(hf b hb).1⟩⟩
 done:=by
  intro X hP hw hK hc i aa s σ H E I hf st hg;subst hP hw hK;have hi:x.cps.size <= i:=hg;obtain ⟨f0,f1,f2,f3,f4,f5⟩:=hf it (by simp);exact wpAny_pyNext_ascii_end (I.ok.hd hc) st (Array.getElem?_eq_none hi) fun h' eb=>⟨rfl,I.turned (t':=s.toks) (fun b o hb e=>eb b o hb e) f0 f1 f3 f4 f5⟩
 self:=fun _ _ _ _ _ st h=>wpAny_pyIter_striter_ascii st h
def WP (ts:TE):TI:=fun σ H R=>ts σ H fun v H1=>∃ x,v=.str x/\x.cps.all (· < 128)=true/\R (Its x) H1
theorem UT {n:Str} {ts:TE} (he:PE X e ts):PI X (.Name n pos) e (WP ts):=by
 intro aa s σ H R I h;refine thn (he aa s σ H _ I h) fun v s1 ⟨z,H1,I1,r1,x,ez,ha,q⟩=>?_;subst ez;obtain ⟨t,rfl⟩:=r1;refine wpAny_pyIter_ascii ha ?_;refine ⟨s1.heap.objs.size,[s1.heap.objs.size],_,_,H1,rfl,I1.kept (t':=s1.toks) fun b o e=>get?_push_of_some _ e,QT _ x t,⟨_,get?_push_size _ rfl,rfl,rfl⟩,fun b hb=>?_,q⟩;have e:b=s1.heap.objs.size:=by simpa using hb
 subst e;exact I1.fpOk (Nat.le_refl _) (I1.hok.fresh (Nat.le_refl _))
theorem JI:entryFor table "proto.unchain" = some Builtin.«proto.unchain»:=entryFor_of_tree (by kernel_rfl)
section
variable {prog:Program}
theorem So {α:Type} {c e:Addr} {oc oe:Obj} {vc ve:Array Value} {Q:α->Shared->Prop} (hh:A.handled=some (.ref c)) (hce:c ≠ e) (hc:s.heap.get? c=some oc) (hdc:oc.data=.fields vc) (h2:vc[2]?=some .none)
  (he:s.heap.get? e=some oe) (hde:oe.data=.fields ve) (hz:2 < ve.size) (h:E (.ref e) { s with heap:=s.heap.update e (Obj.mapFields (·.setIfInBounds 2 (.ref c))) }):wpAny (model prog w) A (raiseNew (.ref e):Sem α) Q E s:=by
 unfold raiseNew;refine wpAny_bind (wpAny_handled ?_);rw [hh]
 dsimp only
 rw [if_pos (show (Value.ref c != Value.ref e)=true by simp [hce])];refine wpAny_bind (wpAny_holding (wpAny_runValue (codeAny_builtin JI ?_)));unfold Builtin.«proto.unchain»
 dsimp only
 refine wpAny_bind (wpAny_field hc hdc h2 ?_);rw [if_pos (by decide)];refine wpAny_pure ?_;show wpAny _ _ _ _ _ _;have up:=wpAny_setField (M:=model prog w) (A:=A) (E:=E) (x:=Value.ref c) (Q:=fun _ s'=>E (.ref e) s') he hde hz h;unfold setField at up;exact wpAny_bind (wpAny_mono up (fun _ s' z=>wpAny_throw z) fun _ _ z=>z)
theorem De {it l c:Addr} {i:Nat} {xs:Array Value} {oc:Obj} {vc:Array Value} {Q:Option Value->Shared->Prop} (hh:A.handled=some (.ref c)) (hc:s.heap.get? c=some oc) (hdc:oc.data=.fields vc) (h2:vc[2]?=some .none) (hci:c ≠ it)
  (hI:s.heap.IsListIter it l i) (hL:s.heap.IsList l xs) (hx:xs[i]?=none) (fin:∀ h',Heap.ExtBut it s.heap h'->Q none { s with heap:=h' }):wpAny (model prog w) A (pyNext (.ref it)) Q E s:=by
 obtain ⟨o,ho,oc1,hd⟩:=id hI;obtain ⟨ol,hol,_,nl,hdl⟩:=hL;unfold pyNext;refine wpAny_bind (wpAny_attempt (wpAny_callSpecial?_slot (name:=Str.ofString "__next__") hI.typeIs slot_listiter_next (wpAny_call_entry slot_listiter_next hI.typeIs entry_listiter_next ?_ (args_listiter_next _))));show wpAny _ _ (field (.ref it) 0 >>= _) _ _ s;refine wpAny_bind (wpAny_field (x:=.ref l) ho hd rfl ?_);show wpAny _ _ (if (Value.ref l == Value.none)=true then _ else _) _ _ s;rw [if_neg (by simp:¬ (Value.ref l == Value.none)=true)];show wpAny _ _ (field (.ref it) 1 >>= _) _ _ s;refine wpAny_bind (wpAny_field (x:=.int i 0) ho hd rfl ?_);show wpAny _ _ (seqItems? (.ref l) >>= _) _ _ s;refine wpAny_bind (wpAny_seqItems hol hdl ?_);simp only [Int.toNat_natCast,hx];refine wpAny_bind (wpAny_rule (wpAny_bind (wpAny_setField ho hd (by simp) ?_)));show wpAny _ _ (newExc (.type "StopIteration") [] >>= raiseNew) _ _ _;refine wpAny_bind ?_;simp only [newExc,newTuple];refine wpAny_bind (wpAny_newObj_type ?_ (by size_fits));refine wpAny_bind (m:=firstArgMember _ _) (wpAny_of_eq (a:=Value.none) (by first | rfl | (simp only [firstArgMember]; rfl)) (wpAny_newObj_type ?_ (by size_fits)));have k1:=(get?_update_other s.heap (Obj.mapFields (·.setIfInBounds 0 Value.none)) (Ne.symm hci)).trans hc;refine So (c:=c) (show A.in1.handled=_ from hh) (fun z=>?_) (get?_push_of_some _ (get?_push_of_some _ k1)) hdc h2 (get?_push_size _ rfl) rfl (by simp; omega) ?_
 ·have:=lt_size (get?_push_of_some { cls:=.type "tuple", data:=.seq #[] } k1);rw [z] at this;exact absurd this (Nat.lt_irrefl _)
 ·refine wpAny_bind (wpAny_isInstance (T := "StopIteration") (b:=true) ⟨_,get?_update_self _ (get?_push_size _ rfl) rfl,rfl⟩ isSubtype_stop ?_);refine wpAny_pure (fin _ fun b u hb z=>?_);have z1:=(get?_update_other s.heap (Obj.mapFields (·.setIfInBounds 0 Value.none)) (Ne.symm hb)).trans z;have z2:=get?_push_of_some { cls:=.type "tuple", data:=.seq #[] } z1;rw [get?_update_other _ _ (Nat.ne_of_gt (lt_size z2))];exact get?_push_of_some _ z2
end
def Sft (X:Cx):Prop:=∃ e oe vs,X.A.handled=some (.ref e)/\(e,oe) ∈ X.pn/\oe.data=.fields vs/\vs[2]?=some .none
def Rdy (X:Cx):Prop:=X.calm=true\/Sft X
theorem Rdy.comp {N':List Str} {scope:Scope} {cl:List (Str × Addr)} {fp:List Addr} (h:Rdy X):Rdy (Ak X N' scope cl s H C fp (X.pn++aa)):=by
 rcases h with h | ⟨e,oe,vs,a,b,c,d⟩
 ·exact .inl h
 ·exact .inr ⟨e,oe,vs,a,mem_append_left _ b,c,d⟩
section
theorem QU {it l:Addr} {i:Nat} {xs:Array Value} {Q:Option Value->Shared->Prop} (hc:Rdy X) (I:Inv X aa σ H s) (hf:Ek X aa H it) (hI:s.heap.IsListIter it l i) (hL:s.heap.IsList l xs) (hx:xs[i]?=none)
  (fin:∀ h',Heap.ExtBut it s.heap h'->Q none { s with heap:=h' }):wpAny (model X.prog X.w) X.A (pyNext (.ref it)) Q E s:=by
 rcases hc with hc | ⟨e,oe,vs,a,b,c,d⟩
 ·exact wpAny_pyNext_list_end (I.ok.hd hc) hI hL hx fin
 ·exact De a (I.pin (e,oe) (mem_append_left _ b)).1 c d (hf.2.2.2.2.2 (e,oe) (mem_append_left _ b)) hI hL hx fin
end
theorem Mu {tg:Expr} (a it:Addr):Tw Rdy P w K tg (Itl K a) [it] it (fun i h=>h.IsListIter it a i):=by
 have T:=JR (P:=P) (w:=w) (K:=K) (tg:=tg) a it;refine ⟨T.obj,T.keep,?_,?_,T.self⟩
 ·intro X hP hw hK hc i aa s σ H E I hf st hg;subst hP hw hK;obtain ⟨xs,x,hq,hx⟩:=hg;obtain ⟨its,rv,p,hz⟩:=I.list hq;obtain ⟨u,hu,ru⟩:=rv.get hx;obtain ⟨f0,f1,f2,f3,f4,f5⟩:=hf it (by simp);refine wpAny_pyNext_list_item st p.isList (x:=u) (by simpa using hu) fun h' st' sb=>?_;obtain ⟨o,e,c,d⟩:=id st';exact ⟨u,rfl,K2 (s:={ s with heap:=h' }) e c d (by decide) ⟨x,H,I.turned (t':=s.toks) (fun b o hb e=>(sb.2 b hb).trans e) f0 f1 f3 f4 f5,ru,⟨rfl,fun ys hy=>by rw [I.list_inj hy hq]; exact hx⟩,st',fun b hb=>(hf b hb).1⟩⟩
 ·intro X hP hw hK hc i aa s σ H E I hf st hg;subst hP hw hK;obtain ⟨xs,hq,hx⟩:=hg;obtain ⟨its,rv,p,hz⟩:=I.list hq;have f:=hf it (by simp);have hl:=rv.length;exact QU hc I f st p.isList (by simp; omega) fun h' eb=>⟨rfl,I.turned (t':=s.toks) (fun b o hb e=>eb b o hb e) f.1 f.2.1 f.2.2.2.1 f.2.2.2.2.1 f.2.2.2.2.2⟩
section
variable {iter elt:Expr} {ifs:List Expr} {scope:Scope} {px:Pos} {wi:TI} {tt:TT}
theorem QV {tg l:Expr} {tl:TE} (hl:PE X l tl):PIg Rdy X tg l (Tr X.K tl):=by
 intro aa s σ H R I h;refine thn (hl aa s σ H _ I h) fun v s1 ⟨x,H1,I1,r1,a,e,⟨xs,hq⟩,q⟩=>?_;subst e;cases r1;obtain ⟨its,rv,p,hz⟩:=I1.list hq;refine wpAny_pyIter_list p.isList ⟨s1.heap.objs.size,[s1.heap.objs.size],_,_,H1,rfl,I1.kept (t':=s1.toks) fun b o e=>get?_push_of_some _ e,Mu a _,⟨_,get?_push_size _ rfl,rfl,rfl⟩,fun b hb=>?_,q⟩;obtain rfl:b=s1.heap.objs.size:=by simpa using hb
 exact I1.fpOk (Nat.le_refl _) (I1.hok.fresh (Nat.le_refl _))
theorem Os (Nc:List Str) (ixc:List (Option Nat)) (hf:Hq X.env.scope scope X.N (x :: Nc) (none :: ixc)=true) (hnd:(x :: Nc).Nodup) (hx:scope.names.lookup x=some .local) (hc:Rdy X) (hi:PIg Rdy X (.Name x px) iter wi)
  (ht:∀ cl s H C fp pn,PTs (Ak X (x :: Nc) scope cl s H C fp pn) ifs tt) (he:∀ cl s H C fp pn,PE (Ak X (x :: Nc) scope cl s H C fp pn) elt te) (hs:∀ x,foldedSetIterable iter X.env x=pure x:=by intro _; rfl) :
  PE X (.ListComp elt [⟨.Name x px,iter,ifs,0⟩] scope pos) (fun σ H Q=>Dp wi (Cn 0) tt te (none :: ixc) (fun ys H'=>∀ p,H' p=none->Q (.ref p) (upd H' p (.lst ys))) σ H) :=
 Jh (CompFits.of hf) (fun _ _ _ _ _ _=>hc.comp) hi (fun cl s H C fp pn=>FX (AR (i:=0) hnd rfl (.inl (lookup_relabel_local hx)) (.inr (lookup_relabel_local hx)))) ht he hs
end
theorem Mv {p:Addr} {its:List Value} (hc:Rdy X) (I:Inv X aa σ H s) (pl:s.heap.IsList p its.toArray):∃ fp St,Walks X.prog X.w X.A.in1 s.heap.objs.size fp [s.heap.objs.size] its.toArray.size (fun i v=>its.toArray[i]?=some v) St /\
  St 0 (s.heap.push { cls:=.type "list_iterator", data:=.fields #[.ref p,.int 0 0] })/\∀ b ∈ fp,b < s.heap.objs.size + 1:=by
 have hp:p < s.heap.objs.size:=by obtain ⟨o,e,_⟩:=id pl; exact lt_size e
 have st0:(s.heap.push { cls:=.type "list_iterator", data:=.fields #[.ref p,.int 0 0] }).IsListIter s.heap.objs.size p 0/\(s.heap.push { cls:=.type "list_iterator", data:=.fields #[.ref p,.int 0 0] }).IsList p its.toArray :=
  ⟨⟨_,get?_push_size _ rfl,rfl,rfl⟩,pl.at fun o e=>get?_push_of_some _ e⟩
 rcases hc with hc | ⟨e,oe,vs,a,b,c,d⟩
 ·refine ⟨_,_,Walks.list (A:=X.A.in1) (show X.A.in1.handled=none from I.ok.hd hc) _ p (Nat.ne_of_lt hp) its.toArray,st0,fun b hb=>?_⟩;have z:b=s.heap.objs.size\/b=p:=by simpa using hb
  rcases z with rfl | rfl
  ·exact Nat.lt_succ_self _
  ·exact Nat.lt_succ_of_lt hp
 ·have he:=(I.pin (e,oe) (mem_append_left _ b)).1;have hlt:=lt_size he;refine ⟨[s.heap.objs.size,p,e],fun i h=>(h.IsListIter s.heap.objs.size p i/\h.IsList p its.toArray)/\h.get? e=some oe,⟨fun b hb=>by simp at hb; simp [hb],fun i h h' st k=>⟨⟨st.1.1.at fun o z=>k _ (by simp) o z,st.1.2.at fun o z=>k _ (by simp) o z⟩,k e (by simp) oe st.2⟩,?_,?_,fun _ _ _ _ st hQ=>wpAny_pyIter_listiter st.1.1 hQ⟩,⟨st0,get?_push_of_some _ he⟩,fun b hb=>?_⟩
  ·intro i s1 Q E hi st hQ;refine wpAny_pyNext_list_item st.1.1 st.1.2 (x:=its.toArray[i]) (by simp [hi]) fun h' t1 t2=>?_;exact hQ _ h' s1.toks (by simp [hi]) ⟨⟨t1,st.1.2.extBut t2.extBut (Nat.ne_of_lt hp)⟩,t2.extBut e oe (Nat.ne_of_lt hlt) st.2⟩ fun b o hb z=>t2.extBut b o (fun y=>hb (by simp [y])) z
  ·intro s1 Q E st hQ;exact De (show X.A.in1.handled=_ from a) st.2 c d (Nat.ne_of_lt hlt) st.1.1 st.1.2 (by simp) fun h' z=>hQ h' s1.toks fun b o hb y=>z b o (fun y'=>hb (by simp [y'])) y
  ·have z:b=s.heap.objs.size\/b=p\/b=e:=by simpa using hb
   rcases z with rfl | rfl | rfl
   ·exact Nat.lt_succ_self _
   ·exact Nat.lt_succ_of_lt hp
   ·exact Nat.lt_succ_of_lt hlt
noncomputable def LL (a p:Addr):HO:=.ext fun h=>h.IsItemsView p a
noncomputable def QW (a p:Addr):HO:=.ext fun h=>h.IsValuesView p a
section
variable {o:Expr} {to:TE} {name:Str} {apos cpos:Pos} {id:String} {r:V->List V->Hp->VK->Prop}
theorem Mw (slot:Slot "dict" name id) (hty:typeOf (.builtin id)=pure (.type "method_descriptor")) (hm:MtR X id r) (ho:PE X o to)
  (cc:attributeBase o name X.env (eval o X.env)=eval o X.env:=by rfl) (ci:(apos.endLine == cpos.line)=true:=by rfl) :
  PE X (.Call (.Attribute o name apos) [] [] cpos) (fun σ H Q=>to σ H fun x H1=>∃ a,x=.ref a/\IsD H1 a/\r x [] H1 Q):=by
 intro aa s σ H Q I h;refine wpAny_Call_method0_late cc ci (thn (ho aa s σ H _ I h) fun v s1 ⟨x,H1,I1,r1,a,ex,d,q1⟩=>?_);subst ex;cases r1;obtain ⟨t1,t2,_⟩:=QO I1 d;exact ⟨"dict", id,PySem.F.plainAttrs_dict,slot,hty,t1,t2,Calls.callWith_builtin rfl (PySem.evalArgs_none (hm aa s1 σ H1 (.ref a) [] (.ref a) [] Q I1 rfl .nil q1))⟩
theorem LM:MtR X "dict.items" (fun x xs H Q=>∃ a kvs,x=.ref a/\xs=[]/\Rd H a (.dK kvs)/\∀ p,H p=none->Q (.ref p) (upd H p (LL a p))):=by
 intro aa s σ H x xs v us Q I rx rs h;obtain ⟨a,kvs,rfl,rfl,hd,q⟩:=h;cases rx;cases rs;obtain ⟨z,y,vs,rel,dd⟩:=C7 I.hok hd;refine call_meetsIn PySem.F.slot_dict_items dd.typeIs PySem.F.entry_dict_items (PySem.F.args_dict_items_1 _) (meets_dict_items (Al X.prog X.w) a y) ⟨⟨vs,dd⟩,?_⟩;refine ⟨.ref s.heap.objs.size,_,I.laid (t':=s.toks) (o:=LL a s.heap.objs.size) (fun b o e=>get?_push_of_some _ e) (Nat.le_refl _) ⟨⟨_,get?_push_size _ rfl,rfl,rfl⟩,⟨_,get?_push_size _ rfl⟩,fun h1 h2 z k=>?_⟩,rfl,q _ (I.hok.fresh (Nat.le_refl _))⟩;obtain ⟨ob,e,r⟩:=z;exact ⟨ob,k ob e,r⟩
theorem Ot:MtR X "dict.values" (fun x xs H Q=>∃ a kvs,x=.ref a/\xs=[]/\Rd H a (.dK kvs)/\∀ p,H p=none->Q (.ref p) (upd H p (QW a p))):=by
 intro aa s σ H x xs v us Q I rx rs h;obtain ⟨a,kvs,rfl,rfl,hd,q⟩:=h;cases rx;cases rs;obtain ⟨z,y,vs,rel,dd⟩:=C7 I.hok hd;refine call_meetsIn PySem.F.slot_dict_values dd.typeIs PySem.F.entry_dict_values (PySem.F.args_dict_values_1 _) (meets_dict_values (Al X.prog X.w) a y) ⟨⟨vs,dd⟩,?_⟩;refine ⟨.ref s.heap.objs.size,_,I.laid (t':=s.toks) (o:=QW a s.heap.objs.size) (fun b o e=>get?_push_of_some _ e) (Nat.le_refl _) ⟨⟨_,get?_push_size _ rfl,rfl,rfl⟩,⟨_,get?_push_size _ rfl⟩,fun h1 h2 z k=>?_⟩,rfl,q _ (I.hok.fresh (Nat.le_refl _))⟩;obtain ⟨ob,e,r⟩:=z;exact ⟨ob,k ob e,r⟩
theorem CZ {α β:Type} {F:α->β->Prop}:∀ {xs:List α} {ys:List β},xs.length=ys.length->(∀ (j:Nat) x y,xs[j]?=some x->ys[j]?=some y->F x y)->Paired F xs ys
 | [],[],_,_=>.nil
 | [],_ :: _,h,_=>by simp at h
 | _ :: _,[],h,_=>by simp at h
 | x :: xs,y :: ys,h,k=>.cons (k 0 x y rfl rfl) (CZ (by simpa using h) fun j a b ea eb=>k (j + 1) a b (by simpa using ea) (by simpa using eb))
theorem Mx (hc:X.calm=true):Bk X (.type "list") (fun xs H Q=>∃ a kvs,xs=[.ref a]/\Rd H a (.dK kvs)/\∀ l,H l=none->Q (.ref l) (upd H l (.lst (kvs.map fun kv=>kV kv.1)))):=by
 intro aa s σ H xs us Q I r h;obtain ⟨a,kvs,rfl,hd,q⟩:=h;obtain ⟨u,rfl,ru⟩:=CM r;cases ru;obtain ⟨z,y,vs,rel,dd⟩:=C7 I.hok hd;obtain ⟨ep,da⟩:=dd.dictAt;have hl:=rel.length;refine W.kdl_call (W.kdl_dict (knd:=Al X.prog X.w) (kvs:=vs) (ep:=ep) y) (I.ok.hd hc) da (by rw [← hl]; exact z) fun h' tk acc c' keep e hit=>?_;refine ⟨.ref s.heap.objs.size,_,I.laid (t':=tk) keep (Nat.le_refl _) (show ObjOk X.prog X.w _ h' _ (.lst (kvs.map fun kv=>kV kv.1)) from ⟨by rw [AF]; exact z,acc.toList,c',?_,by rw [Array.toArray_toList]; exact e⟩),rfl,q _ (I.hok.fresh (Nat.le_refl _))⟩
 refine CZ (by have e0:acc.toList.length=acc.size:=by simp
               rw [AF,e0,hit.1,hl]) fun j v w' ev ew=>?_
 rw [Array.getElem?_toList] at ew;obtain ⟨k,x,ex,hk⟩:=hit.2 j w' ew;rw [getElem?_map] at ev;cases e2:kvs[j]? with
 | none=>rw [e2] at ev; cases ev
 | some kv =>
  rw [e2] at ev;simp only [Option.map_some,Option.some.injEq] at ev;obtain ⟨v2,hv2,_⟩:=KV.get rel e2;rw [ex] at hv2;simp only [Option.some.injEq,Prod.mk.injEq] at hv2;rw [← ev,← hv2.1];exact FZ hk
theorem My (hc:X.calm=true):Bk X (.type "list") (fun xs H Q=>∃ p a kvs,xs=[.ref p]/\H p=some (QW a p)/\Rd H a (.dK kvs)/\∀ l,H l=none->Q (.ref l) (upd H l (.lst (kvs.map (·.2))))):=by
 intro aa s σ H xs us Q I r h;obtain ⟨p,a,kvs,rfl,hp,hd,q⟩:=h;obtain ⟨u,rfl,ru⟩:=CM r;cases ru;obtain ⟨z,y,vs,rel,dd⟩:=C7 I.hok hd;obtain ⟨ep,da⟩:=dd.dictAt;obtain ⟨hv,_⟩:=I.hok p _ hp;have hl:=rel.length;refine W.kdl_call (W.kdl_values (knd:=Al X.prog X.w) (d:=a) (kvs:=vs) (ep:=ep)) (I.ok.hd hc) ⟨hv,da⟩ (by rw [← hl]; exact z) fun h' tk acc c' keep e hit=>?_;refine ⟨.ref s.heap.objs.size,_,I.laid (t':=tk) keep (Nat.le_refl _) (show ObjOk X.prog X.w _ h' _ (.lst (kvs.map (·.2))) from ⟨by rw [AF]; exact z,acc.toList,c',?_,by rw [Array.toArray_toList]; exact e⟩),rfl,q _ (I.hok.fresh (Nat.le_refl _))⟩
 refine CZ (by have e0:acc.toList.length=acc.size:=by simp
               rw [AF,e0,hit.1,hl]) fun j v w' ev ew=>?_
 rw [Array.getElem?_toList] at ew;obtain ⟨k,ex⟩:=hit.2 j w' ew;rw [getElem?_map] at ev;cases e2:kvs[j]? with
 | none=>rw [e2] at ev; cases ev
 | some kv =>
  rw [e2] at ev;simp only [Option.map_some,Option.some.injEq] at ev;obtain ⟨v2,hv2,rv2⟩:=KV.get rel e2;rw [ex] at hv2;simp only [Option.some.injEq,Prod.mk.injEq] at hv2;rw [← ev,hv2.2];exact rv2
theorem Fa (hc:X.calm=true):Bk X (.builtin "sorted") (fun xs H Q=>∃ a kvs,xs=[.ref a]/\Rd H a (.dK kvs)/\kvs.length < 64/\(∀ kv ∈ kvs,∃ i,kv.1=Sum.inl i) /\
  ∀ (l:Addr) (ns:List Int),H l=none->ns.Perm (kvs.map fun kv=>match kv.1 with | Sum.inl i=>i | Sum.inr _=>0)->ns.Pairwise (· <= ·)->Q (.ref l) (upd H l (.lst (ns.map V.int)))):=by
 intro aa s σ H xs us Q I r h;obtain ⟨a,kvs,rfl,hd,h64,hk,q⟩:=h;obtain ⟨u,rfl,ru⟩:=CM r;cases ru;obtain ⟨z,y,vs,rel,dd⟩:=C7 I.hok hd;obtain ⟨ep,da⟩:=dd.dictAt;have hl:=rel.length;refine Calls.call_function_entry kind_sorted plain_sorted entry_sorted (args_sorted1 _) ?_;unfold Builtin.«sorted»;refine wpAny_bind (m:=checkCount "sorted" 1 1 _) (wpAny_pure ?_);refine wpAny_bind (W.kdu_collect (A:=X.A.in1) (W.kdl_dict (knd:=Al X.prog X.w) (kvs:=vs) (ep:=ep) y) (I.ok.hd hc) da (by rw [← hl]; exact z) fun h' tk acc keep hit=>?_)
 have bh:acc.toList.length=kvs.length:=by
  have e0:acc.toList.length=acc.size:=by simp
  rw [e0,hit.1,hl]
 refine wpAny_bind (wpAny_newList ?_ (by rw [bh]; exact z))
 have cf:IntsAre acc.toList (kvs.map fun kv=>match kv.1 with | Sum.inl i=>i | Sum.inr _=>0):=by
  refine DN (CZ (by rw [AF,AF,bh]) fun j v w' ev ew=>?_);rw [Array.getElem?_toList] at ew;obtain ⟨k,x,ex,hkk⟩:=hit.2 j w' ew;rw [getElem?_map,getElem?_map] at ev;cases e2:kvs[j]? with
  | none=>rw [e2] at ev; cases ev
  | some kv =>
   rw [e2] at ev;simp only [Option.map_some,Option.some.injEq] at ev;obtain ⟨v2,hv2,_⟩:=KV.get rel e2;rw [ex] at hv2;simp only [Option.some.injEq,Prod.mk.injEq] at hv2;obtain ⟨i,hi⟩:=hk kv (mem_of_getElem? e2);rw [hv2.1,hi] at hkk;rw [← ev,hi];exact FZ hkk
 have I1:Inv X aa σ H { s with heap:=h',toks:=tk }:=I.kept keep;have hoL:(h'.push { cls:=.type "list", data:=.seq acc.toList.toArray }).get? h'.objs.size=some (seqObj "list" acc.toList.toArray 0):=get?_push_size _ rfl;refine wpAny_bind (wpAny_holding (wpAny_call_entry slot_list_sort ⟨_,hoL,rfl⟩ entry_list_sort (list_sort_tree hoL cf (by rw [bh]; exact h64) fun out ns' a1 a2 a3=>⟨_,rfl,?_⟩) (args_list_sort _)));refine wpAny_pure ⟨_,rfl,?_⟩;have hn:H h'.objs.size=none:=I1.hok.fresh (Nat.le_refl _);have bw:ns'.length=kvs.length:=by rw [a2.length_eq,AF]
 refine ⟨.ref h'.objs.size,_,I1.laid (t':=tk) (o:=.lst (ns'.map V.int)) (h':=sortedHeap (h'.push { cls:=.type "list", data:=.seq acc.toList.toArray }) h'.objs.size acc.toList out) (fun b o e=>?_) (Nat.le_refl _) ⟨by rw [AF,bw]; exact z,out.toList,?_⟩,rfl,q _ ns' hn a2 a3⟩
 ·rw [sortedHeap_old (Nat.ne_of_lt (lt_size e)) (lt_size (get?_push_of_some _ e))];exact get?_push_of_some _ e
 ·obtain ⟨c,hcx⟩:=sortedHeap_at (out:=out) hoL;exact ⟨c,ER a1,by rw [Array.toArray_toList]; exact hcx⟩
end
section
theorem Fb (hc:X.calm=true):Bk X (.builtin "all") (fun xs H Q=>∃ (p:Addr) (bs:List Bool),xs=[.ref p]/\SqL X.K H p (bs.map V.bl)/\Q (.bl (bs.all id)) H):=by
 intro aa s σ H xs us Q I r h;obtain ⟨p,bs,rfl,hq,q⟩:=h;obtain ⟨u,rfl,ru⟩:=CM r;cases ru;obtain ⟨its,rv,pl,hz⟩:=I.list hq;have hp:p < s.heap.objs.size:=by obtain ⟨o,n,e,_⟩:=id pl; exact lt_size e
 have bw:bs.length=its.length:=by have:=rv.length; rw [AF] at this; exact this
 refine call_all_walk (wpAny_pyIter_list pl.isList ?_);refine ⟨_,_,_,_,_,_,fun i=>bs.getD i false,rfl,Walks.list (A:=X.A.in1) (show X.A.in1.handled=none from I.ok.hd hc) _ p (Nat.ne_of_lt hp) its.toArray,⟨⟨_,get?_push_size _ rfl,rfl,rfl⟩,pl.isList.at fun o e=>get?_push_of_some _ e⟩,fun i v s' Q' E' hP hQ=>?_,fun h' tk keep=>?_⟩
 ·have hv:its[i]?=some v:=by simpa using hP
  have hi:i < its.length:=(List.getElem?_eq_some_iff.mp hv).1;have hb:bs[i]?=some (bs[i]'(by omega)):=List.getElem?_eq_getElem (by omega);obtain ⟨u',hu',ru'⟩:=rv.get (i:=i) (x:=V.bl (bs[i]'(by omega))) (by rw [getElem?_map,hb]; rfl);rw [hv] at hu';cases hu';cases (show v=Value.bool _ from ru');refine wpAny_truthy_bool ?_;have hQ':Q' (bs.getD i false) s':=hQ;rw [getD_eq_getElem?_getD,hb] at hQ';exact hQ'
 ·have I1:Inv X aa σ H { s with heap:=h',toks:=tk }:=I.kept fun b o e=>keep b o (by simp; exact Nat.ne_of_lt (lt_size e)) (get?_push_of_some _ e);refine ⟨.bl _,H,I1,rfl,?_⟩
  have e:(List.range its.toArray.size).all (fun i=>bs.getD i false)=bs.all id:=by
   rw [size_toArray,← bw,Bool.eq_iff_iff,List.all_eq_true,List.all_eq_true];constructor
   ·intro h b hb;obtain ⟨i,hi,rfl⟩:=List.mem_iff_getElem.mp hb;have:=h i (mem_range.mpr hi);rw [getD_eq_getElem?_getD,List.getElem?_eq_getElem hi] at this;exact this
   ·intro h i hi;have hi':=mem_range.mp hi;rw [getD_eq_getElem?_getD,List.getElem?_eq_getElem hi'];exact h _ (List.getElem_mem hi')
  rw [e];exact q
theorem Dr (ns:List Int):∀ k,k <= ns.length->preSum (fun i=>ns.getD i 0) k=(ns.take k).sum
 | 0,_=>by simp [preSum]
 | k + 1,h=>by
  have ih:=Dr ns k (by omega);have hk:k < ns.length:=by omega
  simp only [preSum,ih];rw [take_add_one,List.getElem?_eq_getElem hk,sum_append];simp [getD_eq_getElem?_getD,List.getElem?_eq_getElem hk]
theorem Ji (hc:Rdy X):Bk X (.builtin "sum") (fun xs H Q=>∃ (p:Addr) (ns:List Int),xs=[.ref p]/\SqL X.K H p (ns.map V.int)/\(∀ n ∈ ns,0 <= n)/\ns.sum < 2 ^ 62/\Q (.int ns.sum) H):=by
 intro aa s σ H xs us Q I r h;obtain ⟨p,ns,rfl,hq,hnn,hsum,q⟩:=h;obtain ⟨u,rfl,ru⟩:=CM r;cases ru;obtain ⟨its,rv,pl,hz⟩:=I.list hq;have hp:p < s.heap.objs.size:=by obtain ⟨o,n,e,_⟩:=id pl; exact lt_size e
 have bw:ns.length=its.length:=by have:=rv.length; rw [AF] at this; exact this
 have tk0:∀ k,0 <= (ns.take k).sum:=fun k=>by
  have:∀ l:List Int,(∀ n ∈ l,0 <= n)->0 <= l.sum:=fun l=>by
   induction l with
   | nil=>intro _; simp
   | cons a r ih=>intro h; rw [sum_cons]; have:=h a mem_cons_self; have:=ih fun n hn=>h n (mem_cons_of_mem _ hn); omega
  exact this _ fun n hn=>hnn n (mem_of_mem_take hn)
 have tkle:∀ k,(ns.take k).sum <= ns.sum:=fun k=>by
  have e:ns.sum=(ns.take k).sum + (ns.drop k).sum:=by rw [← sum_append,take_append_drop]
  have:∀ l:List Int,(∀ n ∈ l,0 <= n)->0 <= l.sum:=fun l=>by
   induction l with
   | nil=>intro _; simp
   | cons a r ih=>intro h; rw [sum_cons]; have:=h a mem_cons_self; have:=ih fun n hn=>h n (mem_cons_of_mem _ hn); omega
  have:=this _ fun n hn=>hnn n (List.mem_of_mem_drop (i:=k) hn);omega
 refine call_sum_walk (wpAny_pyIter_list pl.isList ?_);obtain ⟨fp,St,W,st0,hfp⟩:=Mv hc I pl.isList;refine ⟨_,_,_,_,_,_,fun i=>ns.getD i 0,rfl,W,st0,fun b hb=>?_,fun i v hP=>?_,fun j hj=>?_,fun h' tk t' keep=>?_⟩
 ·have hs:(s.heap.push { cls:=.type "list_iterator", data:=.fields #[.ref p,.int 0 0] }).objs.size=s.heap.objs.size + 1:=size_push ..;show b < (s.heap.push { cls:=.type "list_iterator", data:=.fields #[.ref p,.int 0 0] }).objs.size;rw [hs];exact hfp b hb
 ·have hv:its[i]?=some v:=by simpa using hP
  have hi:i < its.length:=(List.getElem?_eq_some_iff.mp hv).1;have hb:ns[i]?=some (ns[i]'(by omega)):=List.getElem?_eq_getElem (by omega);obtain ⟨u',hu',t,ru'⟩:=rv.get (i:=i) (x:=V.int (ns[i]'(by omega))) (by rw [getElem?_map,hb]; rfl);rw [hv] at hu';cases hu';refine ⟨t,?_⟩;show v=Value.int (ns.getD i 0) t;rw [ru',getD_eq_getElem?_getD,hb];rfl
 ·have hj':j < ns.length:=by rw [size_toArray] at hj; omega
  rw [Dr ns (j + 1) (by omega)];have h1:=tk0 (j + 1);have h2:=tkle (j + 1);have h3:ns.getD j 0=ns[j]:=by rw [getD_eq_getElem?_getD,List.getElem?_eq_getElem hj']; rfl
  have h4:=hnn _ (List.getElem_mem hj');have h5:(ns.take (j + 1)).sum=(ns.take j).sum + ns[j]:=by rw [take_add_one,List.getElem?_eq_getElem hj',sum_append]; simp
  have h6:=tk0 j;show InLong (ns.getD j 0)/\InLong _;unfold InLong;rw [h3];omega
 ·have I1:Inv X aa σ H { s with heap:=h',toks:=tk }:=I.kept fun b o e=>keep b o (by simp; exact Nat.ne_of_lt (lt_size e)) (get?_push_of_some _ e);refine ⟨.int ns.sum,H,I1,⟨t',?_⟩,q⟩;rw [size_toArray,← bw,Dr ns ns.length (Nat.le_refl _),take_length]
theorem QX (hc:X.calm=true):Bk X (.builtin "sum") (fun xs H Q=>∃ (p:Addr) (ns:List Int),xs=[.ref p]/\SqL X.K H p (ns.map V.int)/\(∀ n ∈ ns,0 <= n)/\ns.sum < 2 ^ 62/\Q (.int ns.sum) H):=Ji (.inl hc)
theorem KM:MtR X "int.bit_length" (fun x xs H Q=>∃ i,x=.int i/\xs=[]/\Q (.int (Builtin.Int.intBits i)) H):=by
 intro aa s σ H x xs v us Q I rx rs h;obtain ⟨i,rfl,rfl,q⟩:=h;obtain ⟨t,rfl⟩:=rx;cases rs;exact call_int_bit_length ⟨.int _,H,I.tok _,⟨_,rfl⟩,q⟩
theorem Jj:OpR X (compareOp .LtE) (fun x y H Q=>∃ i j,x=.str i/\y=.str j/\Q (.bl (!decide (j.cps.toList < i.cps.toList))) H):=by
 intro aa s σ H x y v u Q I rx ry h;obtain ⟨i,j,rfl,rfl,q⟩:=h;obtain ⟨t,rfl⟩:=rx;obtain ⟨t',rfl⟩:=ry;exact PySem.P.le_str (As I q rfl)
theorem JJ:MtR X "dict.setdefault" (fun x xs H Q=>∃ a kvs k v,x=.ref a/\xs=[kV k,v]/\H a=some (.dK kvs)/\kvs.length < sizeLine /\
  (∀ w,Au kvs k=some w->Q w H)/\(Au kvs k=none->Q v (upd H a (.dK (BM kvs k v))))):=by
 intro aa s σ H x xs u us Q I rx rs h;obtain ⟨a,kvs,k,v,rfl,rfl,hd,hl,q1,q2⟩:=h;cases rx;obtain ⟨uk,uv,rfl,rk,rv⟩:=FO rs;obtain ⟨z,y,vs,rel,dd⟩:=N1 I.hok hd;refine call_meetsIn PySem.F.slot_dict_setdefault dd.typeIs PySem.F.entry_dict_setdefault (PySem.F.args_dict_setdefault_3 _ _ _) (PySem.kt_meets_setdefault (Al X.prog X.w) a (FR rk) y uv) ⟨vs,dd,by rw [← rel.length]; exact z,fun w' hw=>?_,fun hn h' dd' hs=>?_⟩
 ·have rr:=rel.val k;rw [hw] at rr;cases e:Au kvs k with
  | none=>rw [e] at rr; exact False.elim rr
  | some w=>rw [e] at rr; exact ⟨w,H,I.tok _,rr,q1 w e⟩
 ·have rr:=rel.val k;rw [hn] at rr
  have e:Au kvs k=none:=by
   cases e:Au kvs k with
   | none=>rfl
   | some w=>rw [e] at rr; exact False.elim rr
  have he:∃ q,h'.get? a=some q:=let ⟨q,_,_,hq,_⟩:=dd'; ⟨q,hq⟩
  have hl':(BM kvs k v).length <= sizeLine:=by have:=Bb kvs k v; omega
  exact ⟨v,_,FS I (by rw [hd]; exact True.intro) hs he (Hl hl' y (rel.put k rv) dd'),rv,q2 e⟩
theorem QY:Bk X (.builtin "isinstance") (fun xs H Q=>∃ v T t b,xs=[v,.ty T]/\TyOf X.K H v t/\W.kitOne X.K t (.type T)=some b/\Q (.bl b) H):=by
 intro aa s σ H xs us Q I r h;obtain ⟨v,T,t,b,rfl,ty,hk,q⟩:=h;obtain ⟨u,uT,rfl,ru,ruT⟩:=FO r;cases (show uT=Value.type T from ruT);exact JV I ru ty hk fun tk=>⟨.bl b,H,I.tok tk,rfl,q⟩
end
noncomputable def LP (d:Int):List Int->Int
 | []=>d
 | n :: r=>r.foldl max n
theorem Jk (d:Int) (ns:List Int) (n:Int) (h:ns ≠ []):LP d (ns++[n])=max (LP d ns) n:=by
 cases ns with
 | nil=>exact absurd rfl h
 | cons a r=>show (r++[n]).foldl max a=_; rw [foldl_append]; rfl
theorem Ou (a v:Value):argsOk "max" ⟨[a],[(Str.ofString "default", v)]⟩:=by unfold argsOk; kernel_rfl
section
variable {prog:Program} {R:Result->Shared->Prop} {p I S:Addr} {its:List Value} {ns:List Int} {d:Value}
noncomputable def QZ:Option (Int × Tok)->Array Value
 | none=>#[]
 | some (m,t)=>#[.int m t,.int m t]
theorem Ov (hh:A.handled=none) (cf:IntsAre its ns) (hpI:p ≠ I) (hSI:S ≠ I) (hpS:p ≠ S)
  (hR:∀ h' tk v,(∀ b o,b ≠ I->b ≠ S->s.heap.get? b=some o->h'.get? b=some o)->(ns=[]->v=d)->(ns ≠ []->∃ t,v=.int (LP 0 ns) t)->R (.ok (.ret v)) { s with heap:=h',toks:=tk }) :
  ∀ (k i:Nat) (h:Heap) (tk c:Nat) (b:Option (Int × Tok)),its.length - i=k->i <= its.length->h.IsListIter I p i->h.IsList p its.toArray->h.get? S=some { cls:=.type "list", data:=.seq (QZ b) c } ->
   (b=none->i=0)->(∀ m t,b=some (m,t)->0 < i/\m=LP 0 (ns.take i))->(∀ b' o,b' ≠ I->b' ≠ S->s.heap.get? b'=some o->h.get? b'=some o) ->
   codeAny (model prog w) A (.builtin "max.loop" ⟨[.ref I,.none,.ref S],[(Str.ofString "default", d)]⟩) R { s with heap:=h,toks:=tk }:=by
 have cz:(toString "max" ++ toString ".loop" : String) = "max.loop" := by decide
 have bw:=cf.length;intro k;induction k with
 | zero =>
  intro i h tk c b hk hi hit hl hS hb0 hb1 keep;have e:i=its.length:=by omega
  refine codeAny_builtin PySem.F.entry_max_loop ?_;rw [Around.under_plainId PySem.F.plain_max_loop _];show wpAny _ A.in1 (seqItems? (.ref S) >>= _) _ _ _;refine wpAny_bind (wpAny_seqItems hS rfl ?_);show wpAny _ A.in1 (tryCatch (pyNext (.ref I)) _ >>= _) _ _ _;refine wpAny_bind (wpAny_tryCatch (wpAny_pyNext_list_end (show A.in1.handled=none from hh) hit hl (by simp; omega) fun h' eb=>?_));cases b with
  | none =>
   have hn:ns=[]:=by
    have:=hb0 rfl;exact List.eq_nil_of_length_eq_zero (by omega)
   exact wpAny_bind (wpAny_rule (wpAny_pure (hR h' tk d (fun b o h1 h2 q=>eb b o h1 (keep b o h1 h2 q)) (fun _=>rfl) fun z=>absurd hn z)))
  | some mt =>
   obtain ⟨m,t⟩:=mt;obtain ⟨hpos,hm⟩:=hb1 m t rfl
   have bn:ns ≠ []:=fun z=>by
    have:its.length=0:=by rw [bw,z]; rfl
    omega
   show wpAny _ A.in1 (updateSeq S (fun _=>#[]) >>= _) _ _ _;refine wpAny_bind (wpAny_updateSeq (eb S _ hSI hS) rfl (wpAny_bind (wpAny_letGo (wpAny_pure ?_))) sl2);refine hR _ tk _ (fun b o h1 h2 q=>(get?_update_other _ _ (Ne.symm h2)).trans (eb b o h1 (keep b o h1 h2 q))) (fun z=>absurd z bn) fun _=>⟨t,?_⟩;rw [hm,e,bw,take_length]
 | succ k ih =>
  intro i h tk c b hk hi hit hl hS hb0 hb1 keep;have hlt:i < its.length:=by omega
  have hv:its[i]?=some its[i]:=List.getElem?_eq_getElem hlt
  obtain ⟨n,t,hn,hvt⟩:∃ n t,ns[i]?=some n/\its[i]=.int n t:=by
   have hi2:i < ns.length:=by omega
   obtain ⟨u,hu,t,ru⟩:=(ER cf).get (i:=i) (x:=V.int ns[i]) (by rw [getElem?_map,List.getElem?_eq_getElem hi2]; rfl);rw [hv] at hu;exact ⟨ns[i],t,List.getElem?_eq_getElem hi2,(Option.some.inj hu).trans ru⟩
  refine codeAny_builtin PySem.F.entry_max_loop ?_;rw [Around.under_plainId PySem.F.plain_max_loop _];show wpAny _ A.in1 (seqItems? (.ref S) >>= _) _ _ _;refine wpAny_bind (wpAny_seqItems hS rfl ?_);show wpAny _ A.in1 (tryCatch (pyNext (.ref I)) _ >>= _) _ _ _;refine wpAny_bind (wpAny_tryCatch (wpAny_pyNext_list_item hit hl (x:=.int n t) (by simpa [hvt] using hv) fun h' hit' sb=>?_));have hS':h'.get? S=some { cls:=.type "list", data:=.seq (QZ b) c }:=(sb.2 S hSI).trans hS;have hl':h'.IsList p its.toArray:=hl.at fun o q=>(sb.2 p hpI).trans q;have keep':∀ b' o,b' ≠ I->b' ≠ S->s.heap.get? b'=some o->h'.get? b'=some o:=fun b' o h1 h2 q=>(sb.2 b' h1).trans (keep b' o h1 h2 q);have etk:ns.take (i + 1)=ns.take i++[n]:=by rw [take_add_one,hn]; rfl
  have store:∀ c0,(∀ v,v=Value.int n t->(h'.update S (Obj.mapSeq fun _=>#[v,v])).get? S=some { cls:=.type "list", data:=.seq (QZ (some (n,t))) c0 })->n=LP 0 (ns.take (i + 1)) ->
    codeAny (model prog w) A (.builtin "max.loop" ⟨[.ref I,.none,.ref S],[(Str.ofString "default", d)]⟩) R { s with heap:=h'.update S (Obj.mapSeq fun _=>#[.int n t,.int n t]),toks:=tk }:=fun c0 e0 em =>
   ih (i + 1) _ tk c0 (some (n,t)) (by omega) hlt (hit'.at fun o q=>(get?_update_other _ _ hSI).trans q) (hl'.at fun o q=>(get?_update_other _ _ (Ne.symm hpS)).trans q) (e0 _ rfl) (fun z=>by cases z)
    (fun m t' z=>by cases z; exact ⟨Nat.succ_pos _,em⟩) fun b' o h1 h2 q=>(get?_update_other _ _ (Ne.symm h2)).trans (keep' b' o h1 h2 q)
  cases b with
  | none =>
   have hi0:=hb0 rfl;show wpAny _ A.in1 (updateSeq S (fun _=>#[Value.int n t,Value.int n t]) >>= _) _ _ _;refine wpAny_bind (wpAny_updateSeq hS' rfl ?_);rw [cz];refine wpAny_pure ⟨plainId_quiet PySem.F.plain_max_loop _,store _ (fun v e=>by subst e; exact get?_update_seq hS' fun _=>#[_,_]) ?_⟩;rw [etk,hi0];rfl
  | some mt =>
   obtain ⟨m,t0⟩:=mt;obtain ⟨hpos,hm⟩:=hb1 m t0 rfl
   have bn:ns.take i ≠ []:=fun z=>by
    have:=congrArg List.length z;rw [length_take,length_nil] at this;omega
   show wpAny _ A.in1 (tryCatch (holding [Value.int n t,Value.int n t] (richCompare .Gt (.int n t) (.int m t0) >>= _)) _ >>= _) _ _ _
   refine wpAny_bind (wpAny_tryCatch (wpAny_holding (wpAny_bind (CmpOf.ints_gt (P:=fun i v=>(i=0/\v=.int n t)\/(i=1/\v=.int m t0)) (fun i=>if i=0 then n else m) (fun i v h=>by
    rcases h with ⟨rfl,rfl⟩ | ⟨rfl,rfl⟩
    ·exact ⟨t,rfl⟩
    ·exact ⟨t0,rfl⟩) 0 1 _ _ _ _ _ (.inl ⟨rfl,rfl⟩) (.inr ⟨rfl,rfl⟩) ?_))))
   refine wpAny_bind (wpAny_holding (wpAny_truthy_bool ?_));refine wpAny_bind (wpAny_letGo (wpAny_pure ?_));by_cases hgt:n > m
   ·have e1:(fun (i j:Nat)=>decide ((if i=0 then n else m) > if j=0 then n else m)) 0 1=true:=decide_eq_true hgt;rw [e1];simp only [if_true];refine wpAny_bind (wpAny_updateSeq hS' rfl (wpAny_bind (wpAny_letGo ?_)) sl2);rw [cz];refine wpAny_pure ⟨plainId_quiet PySem.F.plain_max_loop _,store _ (fun v e=>by subst e; exact get?_update_seq hS' fun _=>#[_,_]) ?_⟩;rw [etk,Jk 0 _ n bn,← hm];omega
   ·have e1:(fun (i j:Nat)=>decide ((if i=0 then n else m) > if j=0 then n else m)) 0 1=false:=decide_eq_false hgt;rw [e1];simp only [Bool.false_eq_true,if_false];refine wpAny_bind (wpAny_letGo ?_);rw [cz]
    refine wpAny_pure ⟨plainId_quiet PySem.F.plain_max_loop _,ih (i + 1) _ tk c (some (m,t0)) (by omega) hlt hit' hl' hS' (fun z=>by cases z) (fun m' t' z=>by
     cases z;refine ⟨Nat.succ_pos _,?_⟩;rw [etk,Jk 0 _ n bn,← hm]
     omega) keep'⟩
end
section
variable {c:Expr} {tc:TE} {p kp:Pos}
theorem N5 (hc:X.calm=true) (hg:Gl X "max") (hm:X.mg "max" = none) (he:PE X e te) (hcc:PE X c tc) (hs:starEach [e] X.env=(false,eval e X.env) :: starEach [] X.env:=by rfl)
  (hs2:backTo pos (starEach [e] X.env)=(false,eval e X.env) :: backTo pos (starEach [] X.env):=by rfl) :
  PE X (.Call (.Name "max" p) [e] [⟨some "default", c,kp⟩] pos) (fun σ H Q=>te σ H fun x H1=>tc σ H1 fun y H2=>∃ (a:Addr) (ns:List Int) (d:Int),x=.ref a/\y=.int d/\SqL X.K H2 a (ns.map V.int)/\(ns=[]->Q (.int d) H2)/\(ns ≠ []->Q (.int (LP 0 ns)) H2)):=by
 intro aa s σ H Q I h;refine wpAny_Call_Name_kw (Ej (u:=.builtin "max") I hg hm boot_max ?_)
 let R3:V->V->Hp->Prop:=fun x y H2=>∃ (a:Addr) (ns:List Int) (d:Int),x=.ref a/\y=.int d/\SqL X.K H2 a (ns.map V.int)/\(ns=[]->Q (.int d) H2)/\(ns ≠ []->Q (.int (LP 0 ns)) H2)
 refine callWith_kw (thn ((AA he AC hs:PA X [e] (Aq te CO)) pos aa s σ H (fun vs H1=>match vs with | [x]=>tc σ H1 (fun y H2=>R3 x y H2) | _=>False) I h) fun us s1 ⟨vs,H1,I1,r1,q1⟩=>?_) hs2 (by rw [hs2]; rfl)
 match vs,r1,q1 with
 | [x],r1,q1 =>
  refine thn ((HD (nm:=some "default") (kpos:=kp) hcc KG:PK X [⟨some "default", c,kp⟩] (Aq tc CO)) pos aa s1 σ H1 (fun vs H2=>match vs with | [y]=>R3 x y H2 | _=>False) I1 q1) fun us2 s2 ⟨vs2,H2,I2,r2,q2⟩=>?_
  match vs2,r2,q2 with
  | [y],r2,q2 =>
   obtain ⟨a,ns,d,rfl,rfl,hq,k1,k2⟩:=q2;obtain ⟨u,rfl,ru⟩:=CM r1;cases ru;obtain ⟨ud,rfl,td,rud⟩:=CM r2;subst rud;obtain ⟨its,rv,pl,hz⟩:=I2.list hq;have hp:a < s2.heap.objs.size:=by obtain ⟨o,n,e,_⟩:=id pl; exact lt_size e
   show wpAny _ _ (call (.builtin "max") [.ref a] [(Str.ofString "default", .int d td)]) _ _ _;refine PyProof.Rows.kmk_tree PySem.F.kind_max PySem.F.plain_max PySem.F.entry_max (Ou _ _) ?_;show wpAny _ X.A.in1 (Builtin.Builtins.bindParams "max" ["key", "default"] 0 ⟨[],[(Str.ofString "default", .int d td)]⟩ >>= _) _ _ _;refine wpAny_bind (wpAny_of_eq (show Builtin.Builtins.bindParams "max" ["key", "default"] 0 ⟨[],[(Str.ofString "default", Value.int d td)]⟩=pure [none,some (.int d td)] from rfl) ?_);refine wpAny_bind (wpAny_pure ?_);refine wpAny_bind (wpAny_pyIter_list pl.isList ?_);refine wpAny_bind (wpAny_newList ?_ (Nat.zero_le _));have cz:(toString "max" ++ toString ".loop" : String) = "max.loop" := by decide
   rw [cz];have hS:(s2.heap.push { cls:=.type "list_iterator", data:=.fields #[.ref a,.int 0 0] }).objs.size=s2.heap.objs.size + 1:=size_push ..
   refine wpAny_pure ⟨plainId_quiet PySem.F.plain_max_loop _,Ov (its:=its) (ns:=ns) (s:=s2) (I.ok.hd hc) (DN rv) (Nat.ne_of_lt hp) (by rw [hS]; exact Nat.succ_ne_self _) (by rw [hS]; exact Nat.ne_of_lt (Nat.lt_succ_of_lt hp))
    (fun h' tk v keep e1 e2=>?_) _ 0 _ _ 0 none rfl (Nat.zero_le _) ⟨_,get?_push_of_some _ (get?_push_size _ rfl),rfl,rfl⟩ (pl.isList.at fun o q=>get?_push_of_some _ (get?_push_of_some _ q)) (get?_push_size _ rfl) (fun _=>rfl) (fun m t z=>by cases z) fun b o h1 h2 q=>get?_push_of_some _ (get?_push_of_some _ q)⟩
   have I3:Inv X aa σ H2 { s2 with heap:=h',toks:=tk }:=I2.kept fun b o q=>keep b o (Nat.ne_of_lt (lt_size q)) (by rw [hS]; exact Nat.ne_of_lt (Nat.lt_succ_of_lt (lt_size q))) q;by_cases hn:ns=[]
   ·rw [e1 hn];exact ⟨.int d,H2,I3,⟨td,rfl⟩,k1 hn⟩
   ·obtain ⟨t,ev⟩:=e2 hn;rw [ev];exact ⟨.int _,H2,I3,⟨t,rfl⟩,k2 hn⟩
end
def TupsAt (H:Hp):List Addr->List (V × V)->Prop:=Paired fun b p=>H b=some (.tup [p.1,p.2])
theorem TupsAt.same {as:List Addr} {ps:List (V × V)} (s:∀ b o,H b=some o->H' b=some o) (h:TupsAt H as ps):TupsAt H' as ps:=Paired.mapP h fun _ _ e=>s _ _ e
theorem Inv.trackTups {as:List Addr} {ps:List (V × V)} (hr:Paired (fun a (p:V × V)=>∃ its,Vals [p.1,p.2] its/\IsTup s.heap a its.toArray) as ps):∀ (H:Hp),Inv X aa σ H s->as.Pairwise (· < ·) ->
  (∀ a ∈ as,H a=none/\a ≠ X.env.locals/\X.s₀.heap.objs.size <= a/\(∀ x c,X.env.cells.lookup x=some c->c ≠ a)/\∀ q ∈ X.pn++aa,q.1 ≠ a)->∃ H',Inv X aa σ H' s/\Same H H'/\TupsAt H' as ps:=by
 induction hr with
 | nil=>intro H I _ _; exact ⟨H,I,Same.refl H,.nil⟩
 | @cons a p as ps h hr ih =>
  intro H I hp hok;obtain ⟨its,hv,ht⟩:=h;obtain ⟨p1,p2⟩:=List.pairwise_cons.mp hp;obtain ⟨o1,o2,o3,o4,o5⟩:=hok a mem_cons_self;have I1:Inv X aa σ (upd H a (.tup [p.1,p.2])) s:=I.track o1 o2 (.inr o3) o4 o5 ⟨by show 2 <= sizeLine; decide,its,hv,ht⟩;have s1:Same H (upd H a (.tup [p.1,p.2])):=fun b u e=>by rw [AH (AI e o1)]; exact e
  obtain ⟨H',I',s',t'⟩:=ih _ I1 p2 (fun b hb=>by
   obtain ⟨q1,q2⟩:=hok b (mem_cons_of_mem _ hb)
   exact ⟨by rw [AH (Nat.ne_of_gt (p1 b hb))]; exact q1,q2⟩)
  exact ⟨H',I',s1.trans s',.cons (s' _ _ AB) t'⟩
theorem Ht (hc:X.calm=true):Bk X (.type "list") (fun xs H Q=>∃ p a kvs,xs=[.ref p]/\H p=some (LL a p)/\Rd H a (.dK kvs) /\
  ∀ l as H',Same H H'->H l=none->H' l=some (.lst (as.map V.ref))->TupsAt H' as (kvs.map fun kv=>(kV kv.1,kv.2))->Q (.ref l) H'):=by
 intro aa s σ H xs us Q I r h;obtain ⟨p,a,kvs,rfl,hp,hd,q⟩:=h;obtain ⟨u,rfl,ru⟩:=CM r;cases ru;obtain ⟨z,y,vs,rel,dd⟩:=C7 I.hok hd;obtain ⟨ep,da⟩:=dd.dictAt;obtain ⟨hv,_⟩:=I.hok p _ hp;have hl:=rel.length;refine W.kdx_call (knd:=Al X.prog X.w) (kvs:=vs) (ep:=ep) (I.ok.hd hc) hv da (by rw [← hl]; exact z) fun h' tk acc c as keep e bw G cq=>?_;have I1:Inv X aa σ H { s with heap:=h',toks:=tk }:=I.kept keep;obtain ⟨n1,n2,n3,n4,n5⟩:=I.newOk (Nat.le_refl s.heap.objs.size);have el:acc=(as.map Value.ref).toArray:=by rw [← cq]
 have I2:Inv X aa σ (upd H s.heap.objs.size (.lst (as.map V.ref))) { s with heap:=h',toks:=tk }:=I1.track n1 n2 (.inr n3) n4 n5 ⟨by rw [AF,bw,← hl]; exact z,as.map Value.ref,c,CZ (by rw [AF,AF]) fun j v w' ev ew=>by
  rw [getElem?_map] at ev ew;cases e2:as[j]? with
  | none=>rw [e2] at ev; cases ev
  | some b=>rw [e2] at ev ew; cases ev; cases ew; rfl,by rw [← el]; exact e⟩
 have hpp:Paired (fun a (p:V × V)=>∃ its,Vals [p.1,p.2] its/\IsTup h' a its.toArray) as (kvs.map fun kv=>(kV kv.1,kv.2)):=(CZ (by rw [AF,bw,hl]) fun j b pr eb ep'=>by
   obtain ⟨key,k,x,ex,hk,ho⟩:=G.pairs j b eb;rw [getElem?_map] at ep';cases e2:kvs[j]? with
   | none=>rw [e2] at ep'; cases ep'
   | some kv =>
    rw [e2] at ep';simp only [Option.map_some,Option.some.injEq] at ep';obtain ⟨v2,hv2,rv2⟩:=KV.get rel e2;rw [ex] at hv2;simp only [Option.some.injEq,Prod.mk.injEq] at hv2;subst ep';refine ⟨[key,x],.cons ?_ (.cons ?_ .nil),_,ho,rfl,_,rfl⟩
    ·show RelV (kV kv.1) key;rw [← hv2.1]; exact FZ hk
    ·show RelV kv.2 x
     rw [hv2.2]; exact rv2)
 obtain ⟨H',I',s',t'⟩:=Inv.trackTups (s:={ s with heap:=h',toks:=tk }) hpp _ I2 G.rise (fun b hb=>by
   have hgt:=G.above b hb;obtain ⟨m1,m2,m3,m4,m5⟩:=I.newOk (Nat.le_of_lt hgt)
   exact ⟨by rw [AH (Nat.ne_of_gt hgt)]; exact m1,m2,m3,m4,m5⟩)
 exact ⟨.ref s.heap.objs.size,H',I',rfl,q _ as H' (fun b u e=>s' b u (by rw [AH (AI e n1)]; exact e)) n1 (s' _ _ AB) t'⟩
mutual
def Bq (K:FG) (H:Hp):PyData->V->Prop
 | .none,v=>v=.non
 | .bool b,v=>v=.bl b
 | .int i,v=>v=.int i
 | .str x,v=>v=.str x
 | .list ds,v=>∃ a xs,v=.ref a/\SqL K H a xs/\Ax K H ds xs
 | .tuple ds,v=>∃ a xs,v=.ref a/\SqT K H a xs/\Ax K H ds xs
 | .dict _,_=>False
def Ax (K:FG) (H:Hp):List PyData->List V->Prop
 | [],xs=>xs=[]
 | d :: ds,xs=>∃ x r,xs=x :: r/\Bq K H d x/\Ax K H ds r
end
section
mutual
theorem Inv.reads (I:Inv X aa σ H s):∀ (d:PyData) (v:V) (u:Value),RelV v u->Bq X.K H d v->∃ as,Reads s.heap u d as
 | .none,v,u,r,h=>by
  have e:v=.non:=by simpa [Bq] using h
  subst e; cases r; exact ⟨_,.none⟩
 | .bool b,v,u,r,h=>by
  have e:v=.bl b:=by simpa [Bq] using h
  subst e; cases r; exact ⟨_,.bool b⟩
 | .int i,v,u,r,h=>by
  have e:v=.int i:=by simpa [Bq] using h
  subst e; obtain ⟨t,rfl⟩:=r; exact ⟨_,.int i t⟩
 | .str x,v,u,r,h=>by
  have e:v=.str x:=by simpa [Bq] using h
  subst e; obtain ⟨t,rfl⟩:=r; exact ⟨_,.str x t⟩
 | .list ds,v,u,r,h=>by
  rw [Bq] at h;obtain ⟨a,xs,rfl,hq,hd⟩:=h;cases r;obtain ⟨its,rv,⟨o,n,e,c,_,dd⟩,_⟩:=I.list hq;obtain ⟨as,hr⟩:=I.readsAll ds xs its rv hd;exact ⟨_,.list e c dd (by simpa using hr)⟩
 | .tuple ds,v,u,r,h=>by
  rw [Bq] at h;obtain ⟨a,xs,rfl,hq,hd⟩:=h;cases r;obtain ⟨its,rv,⟨o,e,c,n,dd⟩,_⟩:=I.tuple hq;obtain ⟨as,hr⟩:=I.readsAll ds xs its rv hd;exact ⟨_,.tuple e c dd (by simpa using hr)⟩
 | .dict kvs,v,u,r,h=>by
  rw [Bq] at h;exact h.elim
theorem Inv.readsAll (I:Inv X aa σ H s):∀ (ds:List PyData) (xs:List V) (us:List Value),Vals xs us->Ax X.K H ds xs->∃ as,ReadsAll s.heap us ds as
 | [],xs,us,r,h=>by
  have e:xs=[]:=by simpa [Ax] using h
  subst e; cases r; exact ⟨_,.nil⟩
 | d :: ds,xs,us,r,h=>by
  rw [Ax] at h;obtain ⟨x,xr,rfl,h1,h2⟩:=h;cases r with
  | cons p q =>
   obtain ⟨as,h3⟩:=I.reads d x _ p h1;obtain ⟨bs,h4⟩:=I.readsAll ds xr _ q h2;exact ⟨_,.cons h3 h4⟩
end
end
section
theorem UU (K:FG) (hK:X.K=K) (hu:X.A.units + 64 < cLine):OpR X (compareOp .Eq) (fun x y H Q=>∃ dx dy,Bq K H dx x/\Bq K H dy y/\SeqAt.shaped dx=true/\SeqAt.shaped dy=true/\Q (.bl (PyData.eqv dx dy)) H):=by
 subst hK;intro aa s σ H x y v u Q I rx ry h;obtain ⟨dx,dy,h1,h2,s1,s2,q⟩:=h;obtain ⟨as,r1⟩:=I.reads dx x v rx h1;obtain ⟨bs,r2⟩:=I.reads dy y u ry h2;exact eq_dataH r1 r2 s1 s2 hu ⟨.bl _,H,I,rfl,q⟩
theorem KN (K:FG) (hK:X.K=K) (hu:X.A.units + 64 < cLine):OpR X (compareOp .NotEq) (fun x y H Q=>∃ dx dy,Bq K H dx x/\Bq K H dy y/\SeqAt.shaped dx=true/\SeqAt.shaped dy=true/\Q (.bl (!PyData.eqv dx dy)) H):=by
 subst hK;intro aa s σ H x y v u Q I rx ry h;obtain ⟨dx,dy,h1,h2,s1,s2,q⟩:=h;obtain ⟨as,r1⟩:=I.reads dx x v rx h1;obtain ⟨bs,r2⟩:=I.reads dy y u ry h2;exact ne_dataH r1 r2 s1 s2 hu ⟨.bl _,H,I,rfl,q⟩
theorem UV (K:FG) (hK:X.K=K) (hu:X.A.units + 64 < cLine):OpR X (compareOp .Eq) (fun x y H Q=>∃ (a b:Addr) (ns ms:List Int),x=.ref a/\y=.ref b/\SqL K H a (ns.map V.int)/\SqL K H b (ms.map V.int)/\Q (.bl (decide (ns=ms))) H):=by
 subst hK;intro aa s σ H x y v u Q I rx ry h;obtain ⟨a,b,ns,ms,rfl,rfl,h1,h2,q⟩:=h;cases rx;cases ry;obtain ⟨is1,r1,p1,_⟩:=I.list h1;obtain ⟨is2,r2,p2,_⟩:=I.list h2;exact W.ke_eq_ints p1.isList p2.isList (DN r1) (DN r2) hu ⟨.bl _,H,I,rfl,q⟩
def UW (C:Addr) (sp:Sp) (gV:List V->List V->List V) (E:XK) (t tk:TA):TE:=fun σ H Q=>t σ H fun vs H1=>tk σ H1 fun zs H2=>∀ x dx,H2 x=none->H2 dx=none->dx ≠ x ->
 sp (gV (.ref x :: vs) zs) (upd (upd H2 dx (.own x)) x (.ins C dx [])) (fun v H3=>v=.non/\Q (.ref x) H3) E
variable {k:Nat} {fd:FuncData} {ps ks:List Str} {sp:Sp} {p:Pos} {es:List Expr} {kws:List Keyword} {t tk:TA} {g:List Value->List Value->List Value} {gV:List V->List V->List V}
theorem Hu (M:Mk X.K C f) (F:Ac X.prog X.w X.K X.mg X.base CX0 k f fd ps sp) (hr:Room (k + 1) X.A) (hg:Gl X x) (hm:X.mg x=some (.ref C)) (hb:Mp X.K fd ps ks g gV)
  (ha:PA X (e :: es) t) (hkw:PK X kws tk) (cj:(backToKw pos (keywordEach kws X.env)).all (·.1.isSome)=true:=by rfl) (hks:(backToKw pos (keywordEach kws X.env)).filterMap (·.1)=ks:=by rfl)
  (hdb:(x == ("__debug__" : Str))=false:=by decide) (he:starEach (e :: es) X.env=(false,eval e X.env) :: starEach es X.env:=by rfl)
  (hpl:((backTo pos (starEach (e :: es) X.env)).any (·.1) || (backToKw pos (keywordEach kws X.env)).any (·.1.isNone))=false:=by rfl) :
  PE X (.Call (.Name x p) (e :: es) kws pos) (UW C sp gV E0 t tk):=by
 intro aa s σ H Q I h;refine wpAny_Call_Name_kw (CG I hg hm ?_ hdb);refine W.callWith_KW (h₀:=X.base) I.ok.mod.kin M.kp cj (thn (ha pos aa s σ H _ I h) fun us s1 ⟨vs,H1,I1,r,q⟩=>?_) hpl he;refine thn (hkw pos aa s1 σ H1 _ I1 q) fun ws s2 ⟨zs,H2,I2,rz,q2⟩=>⟨I2.kIn,?_⟩;rw [hks];have hq:=q2 (s2.heap.objs.size + 1) s2.heap.objs.size (I2.hok.fresh (Nat.le_succ _)) (I2.hok.fresh (Nat.le_refl _)) (Nat.ne_of_lt (Nat.lt_succ_self _));have I3:=Inv.made (C:=C) I2;have r2:Vals (gV (V.ref (s2.heap.objs.size + 1) :: vs) zs) (g (Value.ref (s2.heap.objs.size + 1) :: us) ws):=hb.rel (.cons rfl r) rz;have hl:(g (Value.ref (s2.heap.objs.size + 1) :: us) ws).length=ps.length:=by rw [← r2.length]; exact F.len _ _ _ _ hq
 refine wpAny_call (K9 (f:=f) I2.kIn M.makes M.init (beq_iff_eq.mp M.fn) (codeAny_mono (F.run _ X.stack _ _ ⟨Value.ref (s2.heap.objs.size + 1) :: us,ks.zip ws⟩ _ _ _ E0 (hr.make C us (ks.zip ws)) (I3.env0.make C us (ks.zip ws)) (hb.to _ _ _ I3.kIn hl) r2 hq) fun r' s' hq'=>?_));cases r' with
 | error e=>exact hq'.elim
 | ok fl =>
  cases fl with
  | ret u =>
   obtain ⟨v,H',I4,rv,ev,q3⟩:=I3.after hq';subst ev;exact ⟨rv,⟨V.ref (s2.heap.objs.size + 1),H',I4,rfl,q3⟩⟩
  | next=>exact False.elim hq'
  | brk=>exact False.elim hq'
  | cont=>exact False.elim hq'
def WQ (i j:Int):Prop:=Builtin.Int.intBits i <= 2 ^ 20/\Builtin.Int.intBits j <= 2 ^ 20
theorem KQ:OpR X (binaryOp .Mult) (rI WQ fun i j=>.int (i * j)):=opI fun _ _ _ _ _ _ _ hc q=>mul_int q (IntMulOk.of_bits hc.1 hc.2)
def Vo (i j:Int):Prop:=0 < j/\Builtin.divisionGoesByPylong i j=false
theorem Qa:OpR X (binaryOp .FloorDiv) (rI Vo fun i j=>.int (i / j)):=opI fun i j _ _ _ _ _ hc q=>by
 have h1:(0:Int) < j:=hc.1;exact floordiv_int (by omega) (by rw [Int.fdiv_eq_ediv_of_nonneg i (by omega)]; exact q) (.inl hc.2)
end
section
variable {prog:Program} {x y:Addr} {ox oy:Obj} {od od':Option Obj}
theorem KR {M:Model} {args:List Value} {Q:Option Value->Shared->Prop} (X:K.In s.heap) (I:W.InstAt s.heap x ox C od) (hs:W.findIn K (.ref C) "__ne__" = some (some (.builtin "object.__ne__")))
  (h:wpAny M A (call (.builtin "object.__ne__") (.ref x :: args)) (fun v=>Q (some v)) E s):wpAny M A (callSpecialIfBound? (.ref x) "__ne__" args) Q E s:=by
 simp only [callSpecialIfBound?,bindSpecialIfBound?];refine wpAny_holding (wpAny_bind (wpAny_bind (wpAny_bind (I.type.here ((W.looks_findIn X hs).here ?_)))));simp only [PySem.F.cmp_object.ne.bind];refine wpAny_bind (wpAny_askSetting (wpAny_ite ?_));have fin:wpAny M A (call (.builtin "object.__ne__") ([.ref x]++args) >>= fun v=>pure (some v)) Q E s:=wpAny_bind (wpAny_mono h (fun v s' h'=>wpAny_pure h') fun _ _ h'=>h');split
 ·exact wpAny_bind (wpAny_pure (wpAny_pure fin))
 ·exact wpAny_tryCatch (wpAny_bind (wpAny_pure (wpAny_pure fin)))
theorem LQ {Q:VS} (hu:A.units + 1 < cLine) (X:K.In s.heap) (I:W.InstAt s.heap x ox C od) (hm:W.mroIn K C (.type "object")=some true) (hr:W.findIn K (.ref C) "__eq__" = some (some (.ref f))) (hf:W.isFn K (.ref f)=true)
    (h:wpAny (model prog w) A.in1 (call (.ref f) [.ref x,.ref y]) (fun v s'=>∃ b,v=.bool b/\Q (.bool (!b)) s') E s):wpAny (model prog w) A (call (.builtin "object.__ne__") [.ref x,.ref y]) Q E s:=by
  refine wpAny_call (codeAny_call_builtin PySem.F.cmp_object.ne.plain PySem.F.cmpEntry_ne (W.check_slot (i := "object.__ne__") (owner := "object") (n := "__ne__") (by decide +kernel) (by decide +kernel) (I.type.andThen (W.looks_mroIn X hm)) (PySem.F.cmpArgs_ne _ _) ?_));unfold Builtin.«object.__ne__»
  repeat (first
    | with_reducible refine wpAny_cRoomFor (by show A.in1.units < cLine; exact hu) ?_
    | (refine wpAny_bind (m:=callSpecialIfBound? (.ref x) (Str.ofString "__eq__") [.ref y])
        (W.ifBound_K X I hr hf (wpAny_mono h (fun r s' hr=>by
          obtain ⟨b,rfl,hq⟩:=hr
          repeat (first | exact hq | exact ⟨_,rfl,hq⟩ | exact wpAny_pure ⟨_,rfl,hq⟩ | (refine wpAny_bind (m:=truthy (.bool _)) (wpAny_truthy_bool ?_)) | wp_step)) fun _ _ e=>e)))
    | wp_step)
theorem UX {Q:VS} (hu:A.units + 1 < cLine) (X:K.In s.heap) (I:W.InstAt s.heap x ox C od) (J:W.InstAt s.heap y oy C od') (hm:W.mroIn K C (.type "object")=some true)
  (hn:W.findIn K (.ref C) "__ne__" = some (some (.builtin "object.__ne__"))) (hr:W.findIn K (.ref C) "__eq__" = some (some (.ref f))) (hf:W.isFn K (.ref f)=true)
  (h:wpAny (model prog w) A.in1 (call (.ref f) [.ref x,.ref y]) (fun v s'=>∃ b,v=.bool b/\Q (.bool (!b)) s') E s):wpAny (model prog w) A (compareOp .NotEq (.ref x) (.ref y)) Q E s:=by
 show wpAny _ _ (richCompare .NotEq (.ref x) (.ref y)) _ _ _
 have one:wpAny (model prog w) A (tryCompare (.ref x) (cmpInfo .NotEq).2.1 (.ref y)) (fun r s'=>∃ v,r=some v/\Q v s') E s:=by
  unfold tryCompare;refine wpAny_bind (KR X I hn (LQ hu X I hm hr hf (wpAny_mono h (fun v s' hv=>?_) fun _ _ e=>e)));obtain ⟨b,rfl,hq⟩:=hv;exact ⟨b,rfl,wpAny_pure ⟨_,rfl,hq⟩⟩
 unfold richCompare;simp only [oneThing_ref];refine wpAny_holding (wpAny_bind (wpAny_cRoomFor (Nat.lt_of_succ_lt hu) ?_));refine wpAny_bind (I.type.here (wpAny_bind (J.type.here ?_)));rw [if_neg (by simp)];refine wpAny_bind (wpAny_pure ?_);simp only [Bool.false_eq_true,if_false];refine wpAny_bind (wpAny_mono one (fun r s' z=>?_) fun _ _ e=>e);obtain ⟨v,rfl,hq⟩:=z;exact wpAny_pure hq
end
section
variable {k:Nat} {fd:FuncData} {sp:Sp}
def Qb (sp:Sp) (a b:Addr) (H:Hp) (Q:VK):Prop:=sp [.ref a,.ref b] H (fun v H'=>∃ t:Bool,v=.bl t/\Q (.bl t) H') E0
theorem Qc {b:Addr} {Q:VK} (F:Ac X.prog X.w X.K X.mg X.base CX0 k f fd ["self", "other"] sp) (hr:Room k A) (hA:Env0 X.prog X.w X.K X.mg X.base A X.stack s H) (hb:Binds X.K fd ["self", "other"] []) (I:Inv X aa σ H s) (h:Qb sp a b H Q) :
  wpAny (model X.prog X.w) A (call (.ref f) [.ref a,.ref b]) (fun v s'=>∃ t:Bool,v=.bool t/\EP X aa σ Q (.bool t) s') E s:=by
 refine wpAny_call (codeAny_mono (F.run A X.stack s H ⟨[.ref a,.ref b],[]⟩ [.ref a,.ref b] [.ref a,.ref b] _ E0 hr hA (hb s [.ref a,.ref b] I.kIn rfl) (.cons rfl (.cons rfl .nil)) h) fun r' s' hq=>?_);cases r' with
 | error e=>exact hq.elim
 | ok fl =>
  cases fl with
  | ret u =>
   obtain ⟨v,H',I',rv,t,ev,q'⟩:=I.after hq;subst ev;cases rv;exact ⟨t,rfl,.bl t,H',I',rfl,q'⟩
  | next=>exact False.elim hq
  | brk=>exact False.elim hq
  | cont=>exact False.elim hq
theorem Qd (F:Ac X.prog X.w X.K X.mg X.base CX0 k f fd ["self", "other"] sp) (hr:Room k X.A) (hb:Binds X.K fd ["self", "other"] []) (hm:HX X.K C "__eq__" f) :
  OpR X (compareOp .Eq) (fun x y H Q=>∃ a dx fs b,x=.ref a/\y=.ref b/\H a=some (.ins C dx fs)/\((∃ dy gs,H b=some (.ins C dy gs))\/((∃ xs,SqL X.K H b xs)/\W.subIn X.K (.type "list") (.ref C)=some false))/\Qb sp a b H Q):=by
 intro aa s σ H x y v u Q I rx ry h;obtain ⟨a,dx,fs,b,rfl,rfl,ha,hy,q⟩:=h;cases rx;cases ry;obtain ⟨m,Fm⟩:=I.fr;obtain ⟨mA,om,_⟩:=Cp I.hok ha;obtain ⟨od,ia,_⟩:=om.look;have run:=Qc (E:=X.xe) F hr I.env0 hb I q;have hu:X.A.units < cLine:=Nat.lt_of_le_of_lt (Nat.le_add_right _ 64) hr.units
 have run2:wpAny (model X.prog X.w) X.A (call (.ref f) [.ref a,.ref b]) (W.CmpBack (EP X aa σ Q)) X.xe s:=by
  refine thn run fun v s' hv=>?_;obtain ⟨t,rfl,q⟩:=hv;exact q
 show wpAny _ _ (richCompare .Eq (.ref a) (.ref b)) _ _ _;rcases hy with ⟨dy,gs,hy⟩ | ⟨⟨xs,hy⟩,hn⟩
 ·obtain ⟨mB,ob,_⟩:=Cp I.hok hy;obtain ⟨odb,ib,_⟩:=ob.look;exact W.cmp_K hu Fm I.mod.kin ia ib.type (by simp [W.notFirst]) hm.at_ hm.fn run2
 ·obtain ⟨its,rv,⟨o,n,e,c,dd,_⟩,_⟩:=I.list hy;have T:W.Looks (model X.prog X.w) s.heap (typeOf (.ref b)) (.type "list"):=c ▸ (W.Looks.ld e).andThen .now;exact W.cmp_K hu Fm I.mod.kin ia T (by simp [W.notFirst,hn]) hm.at_ hm.fn run2
theorem Fc (F:Ac X.prog X.w X.K X.mg X.base CX0 k f fd ["self", "other"] sp) (hr:Room (k + 1) X.A) (hb:Binds X.K fd ["self", "other"] []) (hm:HX X.K C "__eq__" f) (hn:W.findIn X.K (.ref C) "__ne__" = some (some (.builtin "object.__ne__"))) (ho:W.mroIn X.K C (.type "object")=some true) :
  OpR X (compareOp .NotEq) (fun x y H Q=>∃ a dx fs b dy gs,x=.ref a/\y=.ref b/\H a=some (.ins C dx fs)/\H b=some (.ins C dy gs)/\Qb sp a b H (fun v H'=>∃ t:Bool,v=.bl t/\Q (.bl (!t)) H')):=by
 intro aa s σ H x y v u Q I rx ry h;obtain ⟨a,dx,fs,b,dy,gs,rfl,rfl,ha,hy,q⟩:=h;cases rx;cases ry;obtain ⟨mA,om,_⟩:=Cp I.hok ha;obtain ⟨od,ia,_⟩:=om.look;obtain ⟨mB,ob,_⟩:=Cp I.hok hy;obtain ⟨odb,ib,_⟩:=ob.look;have run:=Qc (E:=X.xe) F hr.in1 I.env0.in1 hb I q;have hu:X.A.units + 1 < cLine:=Nat.lt_of_le_of_lt (Nat.add_le_add_left (by decide) _) hr.units;refine UX hu I.kIn ia ib ho hn hm.at_ hm.fn (thn run fun v s' hv=>?_);obtain ⟨t,rfl,v',H',I',rv,t',e,q⟩:=hv;subst e;cases rv;exact ⟨t,rfl,.bl _,H',I',rfl,q⟩
end
theorem Hv (K:FG) (hK:X.K=K):Bk X (.builtin "isinstance") (fun xs H Q=>∃ a p ys,xs=[.ref a,.ref p]/\(H a=some (.lst ys)\/H a=some (.tup ys))/\SqT K H p [.ty "list", .ty "tuple"]/\Q (.bl true) H):=by
 subst hK;intro aa s σ H xs us Q I r h;obtain ⟨a,p,ys,rfl,ha,hp,q⟩:=h;obtain ⟨u,uT,rfl,ru,ruT⟩:=FO r;cases ru;cases ruT;obtain ⟨its,rv,⟨o,e,c,n,dd⟩,_⟩:=I.tuple hp;obtain ⟨ocl,odi,oda,osl⟩:=o;simp only at c dd;subst c;subst dd
 have ei:its=[Value.type "list", Value.type "tuple"]:=by
  cases rv with
  | cons r1 r2 =>
   cases r2 with
   | cons r3 r4 =>
    cases r4;cases (show _=Value.type "list" from r1);cases (show _=Value.type "tuple" from r3);rfl
 subst ei;have fin:∀ tk,EP X aa σ Q (.bool true) { s with toks:=tk }:=fun tk=>⟨.bl true,H,I.tok tk,rfl,q⟩;rcases ha with ha | ha
 ·obtain ⟨_,_,m,_,h1⟩:=(show ObjOk X.prog X.w H s.heap a (.lst ys) from I.hok a _ ha);exact W.kia_tup W.kitx_list I.kIn ⟨_,h1,rfl⟩ e rfl (fun z=>nomatch z) fin
 ·obtain ⟨_,_,_,pp⟩:=(show ObjOk X.prog X.w H s.heap a (.tup ys) from I.hok a _ ha);obtain ⟨o,h1,h2,_⟩:=pp;exact W.kia_tup W.kitx_tuple I.kIn ⟨o,h1,h2⟩ e rfl (fun z=>nomatch z) fin
structure Hw (fs:List Addr) (e:Addr) (oe:Obj) (vs:Array Value) (old:Addr->Prop) (h h':Heap):Prop where
 tb:∃ T oT ts,h.objs.size <= T/\h'.get? T=some oT/\oT.data=.fields ts/\ts[3]?=some .none/\h'.get? e=some { oe with data:=.fields (vs.setIfInBounds 1 (.ref T)) }
 keep:∀ b o,h.get? b=some o->b ≠ e->¬ old b->b ∉ fs->h'.get? b=some o
 slot:∀ b o,h.get? b=some o->b ≠ e->¬ old b->b ∈ fs->∃ sl,h'.get? b=some { o with slots:=sl }
 there:∀ b o,h.get? b=some o->∃ o',h'.get? b=some o'
section
variable {M:Model}
theorem En {o:Obj} {vs:Array Value} (hd:o.data=.fields vs) (f:Array Value->Array Value):Obj.mapFields f o={ o with data:=.fields (f vs) }:=by
 obtain ⟨c,d,dt,sl⟩:=o;cases hd;rfl
theorem Ow {b:Addr} {f:Obj->Obj} (hf:∀ o,h.get? a=some o->(f o).isFreed=false):∀ o,h.get? b=some o->∃ o',(h.update a f).get? b=some o':=fun o ho=>by
 by_cases q:b=a
 ·subst q;exact ⟨_,get?_update_self f ho (hf o ho)⟩
 ·exact ⟨o,(get?_update_other _ _ (Ne.symm q)).trans ho⟩
theorem N6 {env:Env} {outer:List Env} {L e:Addr} {oe:Obj} {vs:Array Value} {head:Value} {hadNext:Bool} {Q:Unit->Shared->Prop}
  (hfr:A.frames=some (env :: outer)) (hl:s.heap.FunFrames base (env :: outer)) (hf:env.frame=some L) (he:s.heap.get? e=some oe) (hd:oe.data=.fields vs) (hsz:1 < vs.size)
  (h:∀ h',Hw (frs (env :: outer)) e oe vs (fun _=>False) s.heap h'->Q () { s with heap:=h' }) :
  wpAny M A (do let a ← frameOf env; let pl ← entryPlaceOf L hadNext; let b ← EntryCells.newEntry head a .none (rawInt L) .none pl; setField (.ref e) 1 b) (fun _ s'=>wpAny M A (setFlight (.ref e) none) Q E s') E s:=by
 have hene:e ∉ frs (env :: outer):=fun hm=>by
  obtain ⟨_,o,ho,hnf⟩:=hl.mem hm;rw [he] at ho;cases ho;exact hnf vs hd
 refine wpAny_bind (wpAny_frameOf_fun hfr hl hf fun h1 x1=>wpAny_bind (wpAny_entryPlaceOf fun pl hpl=>?_));unfold EntryCells.newEntry newFields;refine wpAny_bind (wpAny_newObj_type ?_ (hpl.sizeOk5 _ _ _ _ _));generalize hpg:([head,Value.ref L,.none,rawInt L,.none]++(if pl.isEmpty then List.replicate 6 Value.none else pl)).toArray=pg;have hp3:3 < pg.size:=by rw [← hpg]; simp only [size_toArray,length_append,length_cons,length_nil]; omega
 have e1:h1.get? e=some oe:=(x1.2.1 e hene).trans he;have e2:=get?_push_of_some (h:=h1) ⟨.type "traceback", none,.fields pg,#[]⟩ e1;refine wpAny_setField e2 hd hsz ?_;have ne:h1.objs.size ≠ e:=Nat.ne_of_gt (lt_size e1);have d3:=Obj.data_mapFields hd (·.setIfInBounds 1 (Value.ref h1.objs.size));have e3:=get?_update_self (Obj.mapFields (·.setIfInBounds 1 (Value.ref h1.objs.size))) e2 (Obj.isFreed_of_fields d3);have t3:=(get?_update_other (h1.push ⟨.type "traceback", none,.fields pg,#[]⟩) (Obj.mapFields (·.setIfInBounds 1 (Value.ref h1.objs.size))) (Ne.symm ne)).trans (get?_push_size h1 rfl);unfold setFlight;refine wpAny_bind (wpAny_field e3 d3 (x:=.ref h1.objs.size) (by simp [hsz]) ?_);rw [if_pos (show (Value.ref h1.objs.size != Value.none)=true from by simp)];refine wpAny_setField t3 rfl hp3 (h _ ?_)
 have other:∀ b o,b ≠ e->h1.get? b=some o->∀ (g:Obj->Obj),(((h1.push ⟨.type "traceback", none,.fields pg,#[]⟩).update e (Obj.mapFields (·.setIfInBounds 1 (Value.ref h1.objs.size)))).update h1.objs.size g).get? b=some o:=fun b o hb hlt g=>by
  rw [get?_update_other _ _ (Nat.ne_of_gt (lt_size hlt)),get?_update_other _ _ (Ne.symm hb)];exact get?_push_of_some _ hlt
 refine ⟨⟨h1.objs.size,_,_,Nat.le_of_eq x1.1.symm,get?_update_self _ t3 (Obj.isFreed_of_fields (Obj.data_mapFields rfl _)),Obj.data_mapFields rfl _,by simp [hp3],?_⟩,fun b o hb n1 _ n3=>?_,fun b o hb n1 _ n3=>?_,fun b o hb=>?_⟩
 ·rw [get?_update_other _ _ ne,e3,En hd]
 ·have hb1:h1.get? b=some o:=(x1.2.1 b n3).trans hb;exact other b o n1 hb1 _
 ·obtain ⟨sl,hs⟩:=x1.2.2 b o hb;exact ⟨sl,other b _ n1 hs _⟩
 ·obtain ⟨sl,hs⟩:=x1.2.2 b o hb;by_cases q:b=e
  ·subst q;exact ⟨_,(get?_update_other _ _ ne).trans e3⟩
  ·exact ⟨_,other b _ q hs _⟩
theorem LR {env:Env} {outer:List Env} {L e:Addr} {oe:Obj} {vs:Array Value} {Q:Unit->Shared->Prop}
  (hfr:A.frames=some (env :: outer)) (hl:s.heap.FunFrames base (env :: outer)) (hf:env.frame=some L) (he:s.heap.get? e=some oe) (hd:oe.data=.fields vs) (h1:vs[1]?=some .none)
  (h:∀ h',Hw (frs (env :: outer)) e oe vs (fun _=>False) s.heap h'->Q () { s with heap:=h' }):wpAny M A (leaving env (.ref e)) Q E s:=by
 unfold leaving noteFrame;simp only [hf];refine wpAny_bind (wpAny_bind (wpAny_field he hd h1 ?_));rw [if_neg (by decide)];exact N6 hfr hl hf he hd (Array.getElem?_eq_some_iff.mp h1).1 h
theorem Jl {env:Env} {outer:List Env} {L e T:Addr} {oe oT:Obj} {vs ts:Array Value} {Q:Unit->Shared->Prop}
  (hfr:A.frames=some (env :: outer)) (hl:s.heap.FunFrames base (env :: outer)) (hf:env.frame=some L) (he:s.heap.get? e=some oe) (hd:oe.data=.fields vs) (h1:vs[1]?=some (.ref T)) (hTe:T ≠ e)
  (hT:s.heap.get? T=some oT) (hdT:oT.data=.fields ts) (h3:ts[3]?=some .none)
  (h:∀ h',Hw (frs (env :: outer)) e oe vs (·=T) s.heap h'->Q () { s with heap:=h' }):wpAny M A (noteFrame (.ref e) env) (fun _ s2=>wpAny M A (setFlight (.ref e) none) Q E s2) E s:=by
 unfold noteFrame;simp only [hf];refine wpAny_bind (wpAny_field he hd h1 ?_);rw [if_pos (show (Value.ref T != Value.none)=true from by simp)];refine wpAny_bind (wpAny_field hT hdT h3 ?_);rw [if_neg (show ¬ ((Value.none == rawInt L)=true) from by simp [rawInt])];refine wpAny_bind (wpAny_setField hT hdT (Array.getElem?_eq_some_iff.mp h3).1 ?_);have far:∀ b,b ≠ T->(s.heap.update T (Obj.mapFields (·.setIfInBounds 3 Value.none))).get? b=s.heap.get? b:=fun b hb=>get?_update_other _ _ (Ne.symm hb)
 have nr:∀ b o,s.heap.get? b=some o->(∀ vs,o.data ≠ .fields vs)->b ≠ T:=fun b o hb hn q=>by
  subst q;rw [hT] at hb;cases hb;exact hn ts hdT
 refine N6 (hfr:=hfr) (hl.of_keeps fun b o hb hn=>⟨o,(far b (nr b o hb hn)).trans hb,rfl⟩) hf ((far e (Ne.symm hTe)).trans he) hd (Array.getElem?_eq_some_iff.mp h1).1 fun h' x=>h h' ?_
 have fr:∀ o,s.heap.get? T=some o->(Obj.mapFields (·.setIfInBounds 3 Value.none) o).isFreed=false:=fun o ho=>by
  rw [hT] at ho;cases ho;exact Obj.isFreed_of_fields (Obj.data_mapFields hdT _)
 obtain ⟨T',oT',ts',a1,a2⟩:=x.tb;refine ⟨⟨T',oT',ts',by rw [Heap.size_update] at a1; exact a1,a2⟩,fun b o hb n1 n2 n3=>x.keep b o ((far b n2).trans hb) n1 (fun z=>z) n3,fun b o hb n1 n2 n3=>x.slot b o ((far b n2).trans hb) n1 (fun z=>z) n3,fun b o hb=>?_⟩;obtain ⟨o',ho'⟩:=Ow fr o hb;exact x.there b o' ho'
theorem Mz {env:Env} {outer:List Env} {L e T:Addr} {oe oT:Obj} {vs ts:Array Value} {Q:Unit->Shared->Prop}
  (hfr:A.frames=some (env :: outer)) (hl:s.heap.FunFrames base (env :: outer)) (hf:env.frame=some L) (he:s.heap.get? e=some oe) (hd:oe.data=.fields vs) (h1:vs[1]?=some (.ref T)) (hTe:T ≠ e)
  (hT:s.heap.get? T=some oT) (hdT:oT.data=.fields ts) (h3:ts[3]?=some .none)
  (h:∀ h',Hw (frs (env :: outer)) e oe vs (·=T) s.heap h'->Q () { s with heap:=h' }):wpAny M A (leaving env (.ref e)) Q E s:=by
 unfold leaving;exact wpAny_bind (Jl hfr hl hf he hd h1 hTe hT hdT h3 h)
end
noncomputable def Fd (e C:Addr) (dx:Option Addr):HO:=.ext fun h=>∃ oe vs,h.get? e=some oe/\oe.cls=.ref C/\oe.dict=dx/\oe.data=.fields vs/\5 < vs.size/\vs[2]?=some .none
structure Qe (P:Program) (w:World) (l:List Env) (H:Hp) (s:Shared) (e C:Addr) (dx:Option Addr) (H':Hp) (s':Shared):Prop where
 os:s'.os=s.os
 bare:AllBare s'.gens
 un:Un (frs l) [] H H' s.heap s'.heap
 hok:HOk P w H' s'.heap
 at_:H' e=some (Fd e C dx)
def Tb0 (e:Addr) (s':Shared):Prop:=∃ oe vs,s'.heap.get? e=some oe/\oe.data=.fields vs/\vs[1]?=some .none
def Tb1 (e:Addr) (H':Hp) (s s':Shared) (fl:Value):Prop:=∃ oe vs T oT ts,s'.heap.get? e=some oe/\oe.data=.fields vs/\vs[1]?=some (.ref T)/\T ≠ e/\s'.heap.get? T=some oT/\oT.data=.fields ts/\ts[3]?=some fl/\H' T=none/\s.heap.get? T=none
def Fly (P:Program) (w:World) (l:List Env) (H:Hp) (s:Shared) (e C:Addr) (dx:Option Addr) (H':Hp) (s':Shared):Prop:=Qe P w l H s e C dx H' s'/\Tb1 e H' s s' .none
def CXr (P:Program) (w:World):CXT:=fun outer H s E e s'=>∃ ea C dx H',e=.ref ea/\Fly P w outer H s ea C dx H' s'/\E (.ref C) dx H'
theorem N7 {base h h':Heap} {fs:List Addr} {H H':Hp} (u:Un fs [] H H' h h'):∀ {l:List Env},(∀ b ∈ frs l,b ∈ fs)->(∀ b ∈ frs l,H b=none)->h.FunFrames base l->h'.FunFrames base l
 | [],_,_,_=>trivial
 | env :: r,hs,hn,⟨hk,⟨L,o,hf,hb,ho,hd⟩,hr⟩=>by
  have hL:L ∈ frs (env :: r):=by unfold frs; rw [filterMap_cons,hf]; exact mem_cons_self
  have sub:∀ b ∈ frs r,b ∈ frs (env :: r):=fun b z=>by unfold frs; rw [filterMap_cons,hf]; exact mem_cons_of_mem _ z
  obtain ⟨sl,e⟩:=u.slot L o ho (hn L hL) (hs L hL) (by simp);exact ⟨hk,⟨L,_,hf,hb,e,hd⟩,N7 u (fun b z=>hs b (sub b z)) (fun b z=>hn b (sub b z)) hr⟩
section
variable {H1 H2:Hp} {s1 s2:Shared} {e:Addr} {dx:Option Addr}
structure M0 (X:Cx):Prop where
 stk:X.stack=X.env :: X.outer
 fr:X.env.frame=some X.env.locals
 ex:X.ex=[]
theorem LU {fs:List Addr} {oe:Obj} {vs:Array Value} {old:Addr->Prop} {h':Heap} (ok:HOk P w H2 h) (L:Hw fs e oe vs old h h') (hf:∀ b ∈ fs,H2 b=none) (ho:∀ b,old b->H2 b=none)
  (he:h.get? e=some oe) (hd:oe.data=.fields vs) (at_:H2 e=some (Fd e C dx)):HOk P w H2 h':=fun b u q=>by
 have kp:∀ c v,c ≠ e->(∃ z,H2 c=some z)->h.get? c=some v->h'.get? c=some v:=fun c v n ⟨z,hz⟩ hv=>L.keep c v hv n (fun y=>by rw [ho c y] at hz; cases hz) fun y=>by rw [hf c y] at hz; cases hz
 by_cases hb:b=e
 ·subst hb;rw [at_] at q;cases q;obtain ⟨⟨oe',vs',a1,a2,a3,a4,a5,a6⟩,_,st⟩:=ok _ _ at_;rw [he] at a1;cases a1;rw [hd] at a4;cases a4;obtain ⟨T,oT,ts,b1,b2,b3,b4,b5⟩:=L.tb;exact ⟨⟨_,_,b5,a2,a3,rfl,by rw [Array.size_setIfInBounds]; exact a5,by rw [Array.getElem?_setIfInBounds_ne (by decide)]; exact a6⟩,⟨_,b5⟩,st⟩
 ·refine (ok b u q).stay (fun c v hc r=>?_) (fun _ z=>z) fun _ _ z=>z;rcases hc with rfl | hc
  ·exact kp c v hb ⟨u,q⟩ r
  ·refine kp c v (fun z=>?_) ⟨_,hc⟩ r;subst z;rw [at_] at hc;cases hc
theorem LV {oe:Obj} {vs:Array Value} {old:Addr->Prop} {h':Heap} (O:M0 X) (I:Inv X aa σ H1 s1) (F:Qe X.prog X.w X.stack H1 s1 e C dx H2 s2) (he:s2.heap.get? e=some oe) (hd:oe.data=.fields vs) (h1:1 < vs.size)
  (hold:∀ b,old b->H2 b=none/\s1.heap.get? b=none) (L:Hw (frs X.stack) e oe vs old s2.heap h'):Fly X.prog X.w X.outer X.H₀ X.s₀ e C dx H2 { s2 with heap:=h' }:=by
 have b0:Un (frs X.outer) [] X.H₀ H1 X.s₀.heap s1.heap:=by have:=I.base; rw [O.ex] at this; exact this
 have free2:∀ b ∈ frs X.stack,H2 b=none:=fun b hb=>by
  obtain ⟨_,o,ho,_⟩:=I.stack.mem hb;exact F.un.free b o ho (I.stkFree b hb) (by simp)
 have ne:∀ b,H2 b=none->b ≠ e:=fun b n z=>by subst z; rw [F.at_] at n; cases n
 have out:∀ b o,X.s₀.heap.get? b=some o->b ∉ frs X.outer->b ∉ frs X.stack:=fun b o hb hn z=>by
  rw [O.stk] at z;unfold frs at z;rw [filterMap_cons,O.fr] at z;rcases mem_cons.mp z with z | z
  ·exact absurd (Nat.lt_of_lt_of_le (lt_size hb) I.ok.above) (by rw [z]; exact Nat.lt_irrefl _)
  ·exact hn z
 have up:∀ b,b ∈ frs X.outer->b ∈ frs X.stack:=fun b hb=>by
  rw [O.stk];unfold frs;rw [filterMap_cons,O.fr];exact mem_cons_of_mem _ hb
 have nold:∀ b o,X.s₀.heap.get? b=some o->¬ old b:=fun b o hb z=>by
  obtain ⟨o',ho'⟩:=b0.there b o hb (by simp);rw [(hold b z).2] at ho';cases ho'
 have und:Un (frs X.outer) [] X.H₀ H2 X.s₀.heap h':=by
  refine ⟨fun b o q n hb _=>?_,fun b o q n hb _=>?_,fun b o q n _=>?_,fun b o q _=>?_,fun b xs q=>F.un.tups b xs (b0.tups b xs q),fun b o xs q=>F.un.frzs b o xs (b0.frzs b o xs q),fun b ps q=>?_⟩
  ·have q1:=b0.keep b o q n hb (by simp);have n1:=b0.free b o q n (by simp);have q2:=F.un.keep b o q1 n1 (out b o q hb) (by simp);exact L.keep b o q2 (ne b (F.un.free b o q1 n1 (by simp))) (nold b o q) (out b o q hb)
  ·obtain ⟨sl,q1⟩:=b0.slot b o q n hb (by simp);have n1:=b0.free b o q n (by simp);obtain ⟨sl2,q2⟩:=F.un.slot b _ q1 n1 (up b hb) (by simp);obtain ⟨sl3,q3⟩:=L.slot b _ q2 (ne b (F.un.free b _ q1 n1 (by simp))) (nold b o q) (up b hb);exact ⟨sl3,q3⟩
  ·obtain ⟨o1,q1⟩:=b0.there b o q (by simp);exact F.un.free b o1 q1 (b0.free b o q n (by simp)) (by simp)
  ·obtain ⟨o1,q1⟩:=b0.there b o q (by simp);obtain ⟨o2,q2⟩:=F.un.there b o1 q1 (by simp);exact L.there b o2 q2
  ·obtain ⟨m1,e1⟩:=b0.tbls b ps q;obtain ⟨m2,e2⟩:=F.un.tbls b _ e1;exact ⟨m1++m2,by rw [e2,Array.append_assoc]⟩
 refine ⟨⟨F.os.trans I.os,F.bare,und,LU F.hok L free2 (fun b z=>(hold b z).1) he hd F.at_,F.at_⟩,?_⟩;obtain ⟨T,oT,ts,b1,b2,b3,b4,b5⟩:=L.tb;have hT:s2.heap.get? T=none:=Heap.get?_none_of_le b1;refine ⟨_,_,T,oT,ts,b5,rfl,by simp [h1],fun z=>?_,b2,b3,b4,F.hok.fresh b1,?_⟩
 ·subst z;rw [he] at hT;cases hT
 ·cases q:X.s₀.heap.get? T with
  | none=>rfl
  | some o =>
   obtain ⟨o1,q1⟩:=b0.there T o q (by simp);obtain ⟨o2,q2⟩:=F.un.there T o1 q1 (by simp);rw [hT] at q2;cases q2
theorem Eo (I:Inv X aa σ H1 s1) (F:Qe X.prog X.w X.stack H1 s1 e C dx H2 s2):s2.heap.FunFrames X.base X.stack:=N7 F.un (fun _ z=>z) I.stkFree I.stack
theorem Hz {E':VS} (O:M0 X) (I:Inv X aa σ H1 s1) (F:Fly X.prog X.w X.stack H1 s1 e C dx H2 s2) :
  wpAny (model X.prog X.w) X.A (leaving X.env (.ref e)) (fun _ s3=>Fly X.prog X.w X.outer X.H₀ X.s₀ e C dx H2 s3) E' s2:=by
 obtain ⟨B,oe,vs,T,oT,ts,a1,a2,a3,a4,a5,a6,a7,a8,a9⟩:=F;have fr:=Eo I B;have hA:=I.ok.frames;rw [O.stk] at fr hA;refine Mz hA fr O.fr a1 a2 a3 a4 a5 a6 a7 fun h' L=>?_;rw [← O.stk] at L;exact LV O I B a1 a2 (Array.getElem?_eq_some_iff.mp a3).1 (fun b z=>by subst z; exact ⟨a8,a9⟩) L
theorem M6 {E':VS} (O:M0 X) (I:Inv X aa σ H1 s1) (B:Qe X.prog X.w X.stack H1 s1 e C dx H2 s2) (T:Tb0 e s2) :
  wpAny (model X.prog X.w) X.A (leaving X.env (.ref e)) (fun _ s3=>Fly X.prog X.w X.outer X.H₀ X.s₀ e C dx H2 s3) E' s2:=by
 obtain ⟨oe,vs,a1,a2,a3⟩:=T;have fr:=Eo I B;have hA:=I.ok.frames;rw [O.stk] at fr hA;refine LR hA fr O.fr a1 a2 a3 fun h' L=>?_;rw [← O.stk] at L;exact LV O I B a1 a2 (Array.getElem?_eq_some_iff.mp a3).1 (fun b z=>z.elim) L
end
theorem UY {CX:CXT} {qual:Str} {scope:Scope} {cd:Value} {outer:List Env} {E:XK} :
  M0 (BA CX P w K mg base N qual scope f cd A outer s H E):=⟨rfl,rfl,rfl⟩
theorem Tx {qual:Str} {scope:Scope} {cd:Value} {outer:List Env} {E:XK} :
  Bn (CXr P w) (BA (CXr P w) P w K mg base N qual scope f cd A outer s H E) E:=by
 rintro aa σ H1 s1 e s2 I ⟨ea,C,dx,H2,rfl,F,q⟩;exact wpAny_mono (Hz (X:=BA (CXr P w) P w K mg base N qual scope f cd A outer s H E) UY I F) (fun _ s3 G=>⟨ea,C,dx,H2,rfl,G,q⟩) fun _ _ z=>z
def Qf (X:Cx) (E:XK):Prop:=∀ (aa:LO) (σ:St) (H:Hp) (s:Shared) (e C:Addr) (dx:Option Addr) (H':Hp) (s':Shared),Inv X aa σ H s->Qe X.prog X.w X.stack H s e C dx H' s'->Tb0 e s'->E (.ref C) dx H'->X.xe (.ref e) s'
theorem HE {qual:Str} {scope:Scope} {cd:Value} {outer:List Env} {E:XK} :
  Qf (BA (CXr P w) P w K mg base N qual scope f cd A outer s H E) E:=by
 intro aa σ H1 s1 ea C dx H2 s2 I F T q;exact wpAny_mono (M6 (X:=BA (CXr P w) P w K mg base N qual scope f cd A outer s H E) UY I F T) (fun _ s3 G=>⟨ea,C,dx,H2,rfl,G,q⟩) fun _ _ z=>z
structure LX (B:String) (bm:List Value):Prop where
 b:bm.contains (.type B)=true
 base:bm.contains (.type "BaseException")=true
 na:bm.contains (.type "AttributeError")=false
 nn:bm.contains (.type "NameError")=false
section
variable {M:Model} {g:Array GenState} {d:Drawn} {t:Nat} {os:OsState}
variable {nm qn:Str} {N:Addr} {bs bm bmB:List Value} {bx:Bool} {sn:List Str} {sub:List Value} {ab:Bool} {col:Option Bool} {dd:Option Addr} {k0 k1 k2 k3 k5:Option Value} {B newId initId:String}
theorem M7 (F:ExcBaseFacts B newId initId bmB) (T:LX B bm) {rest:List Value} {Q:Unit->Shared->Prop} (oC:h.get? C=some (excClassObj nm qn C N bs bm bx sn sub ab col dd k0 k1 k2 k3 k5 newId))
  (fin:Q () ⟨h,g,d,t,os⟩):wpAny M A (checkBuiltinCall newId ⟨.ref C :: rest,[]⟩) Q E ⟨h,g,d,t,os⟩:=by
 have c1:(Value.ref C :: bm).contains (.type B)=true:=by rw [contains_cons,T.b]; simp
 have st:=F.noStar;simp only [checkBuiltinCall,F.newKind,F.newSplit,F.newRow]
 repeat (first | refine wpAny_loadPart_at oC ?_ | (refine wpAny_isSubtype_exc oC ?_; rw [c1]) | refine wpAny_staticBase_exc oC ?_ | refine wpAny_madeBy_exc oC ?_ | simp only [bne_self_eq_false,Bool.false_eq_true,if_false] | wp_step)
 exact fin
end
section
variable {prog:Program} {R:Result->Shared->Prop} {g:Array GenState} {d:Drawn} {t:Nat} {os:OsState}
variable {nm qn:Str} {N:Addr} {bs bm bmB:List Value} {bx:Bool} {sn:List Str} {sub:List Value} {ab:Bool} {col:Option Bool} {dd:Option Addr} {k0 k1 k2 k3 k5:Option Value} {B newId initId:String}
noncomputable abbrev M8 (C:Addr) (h:Heap):Obj:={ cls:=.ref C,data:=.fields #[.ref h.objs.size,.none,.none,.none,.bool false,.none] }
noncomputable abbrev Ds (C:Addr) (rest:List Value) (h:Heap):Heap:=(h.push { cls:=.type "tuple", data:=.seq rest.toArray }).push (M8 C h)
theorem Qg (F:ExcBaseFacts B newId initId bmB) (T:LX B bm) {rest:List Value} (oC:h.get? C=some (excClassObj nm qn C N bs bm bx sn sub ab col dd k0 k1 k2 k3 k5 newId))
  (fin:R (.ok (.ret (.ref (h.objs.size + 1)))) ⟨Ds C rest h,g,d,t,os⟩) (hz:rest.length <= sizeLine):codeAny (model prog w) A (.builtin newId ⟨.ref C :: rest,[]⟩) R ⟨h,g,d,t,os⟩:=by
 have e1:=F.ends;have c1:(Value.ref C :: bm).contains (.type B)=true:=by rw [contains_cons,T.b]; simp
 have c2:(Value.ref C :: bm).contains (.type "AttributeError")=false:=by rw [contains_cons,T.na]; rfl
 have c3:(Value.ref C :: bm).contains (.type "NameError")=false:=by rw [contains_cons,T.nn]; rfl
 refine codeAny_builtinAt F.entry ?_;unfold Builtin.«BaseException.__new__»;refine PySem.wpAt_bind ?_;show PySem.wpAt _ _ _ (stack >>= _) _ _ _;refine PySem.wpAt_bind (PySem.wpAt_stack fun p below=>PySem.wpAt_of_wpAny ?_)
 wp_walk
 refine PySem.wpAt_of_wpAny ?_;rw [F.owner]
 repeat (first | with_reducible refine wpAny_madeHere_exc F.canon oC ?_ | with_reducible refine wpAny_loadPart_at oC ?_ | (with_reducible refine wpAny_isSubtype_exc oC ?_; first | rw [c1] | rw [c2] | rw [c3]) | wp_step)
 show R _ _;rw [size_push];exact fin
theorem M9 (F:ExcBaseFacts B newId initId bmB) (T:LX B bm) {rest:List Value} {fI:Addr} {oI:Obj} {Q:Fin->Shared->Prop}
  (oC:h.get? C=some (excClassObj nm qn C N bs bm bx sn sub ab col dd k0 k1 k2 k3 k5 newId)) (li:W.Looks (model prog w) h (typeLookup (.ref C) "__init__") (some (.ref fI))) (oF:h.get? fI=some oI) (cF:oI.cls=.type "function") (hz:rest.length <= sizeLine)
  (fin:wpAny (model prog w) A (call (.ref fI) (.ref (h.objs.size + 1) :: rest)) (fun r s'=>r=.none/\Q (.done (.ret (.ref (h.objs.size + 1)))) s') E ⟨Ds C rest h,g,d,t,os⟩) :
  wpAny (model prog w) A (Builtin.«type.__call__» ⟨.ref C :: rest,[]⟩) Q E ⟨h,g,d,t,os⟩:=by
 repeat (first | with_reducible refine wpAny_loadPart_at oC ?_ | with_reducible refine wpAny_madeBy_exc oC ?_ | wp_step)
 refine codeAny_call_builtin_code (Code.quiet_builtin _ F.quiet) (M7 F T oC (Qg F T oC ?_ hz));show wpAny _ _ _ _ _ _;have kp:∀ b o,h.get? b=some o->(Ds C rest h).get? b=some o:=fun b o z=>get?_push_of_some _ (get?_push_of_some _ z);have oC1:=kp _ _ oC;have ge:(Ds C rest h).get? (h.objs.size + 1)=some (M8 C h):=by unfold Ds; heap_get
 have c1:(Value.ref C :: bm).contains (.ref C)=true:=by simp
 unfold isInstance
 repeat (first | with_reducible refine wpAny_loadPart_at ge ?_ | (with_reducible refine wpAny_isSubtype_exc oC1 ?_; rw [c1]) | wp_step)
 refine li A _ E ⟨Ds C rest h,g,d,t,os⟩ kp ?_;refine wpAny_holding (wpAny_bind ?_);unfold bindSpecial;refine wpAny_bind (wpAny_typeOf (T := "function") ⟨_,kp _ _ oF,cF⟩ ?_);rw [if_pos (by decide)];refine wpAny_pure (wpAny_bind (wpAny_mono fin (fun r s' z=>?_) fun _ _ x=>x));obtain ⟨rfl,hQ⟩:=z
 wp_walk
 exact hQ
theorem Ox (F:ExcBaseFacts B newId initId bmB) (T:LX B bm) {rest:List Value} {fI:Addr} {oI:Obj} {Q:VS}
  (oC:h.get? C=some (excClassObj nm qn C N bs bm bx sn sub ab col dd k0 k1 k2 k3 k5 newId)) (li:W.Looks (model prog w) h (typeLookup (.ref C) "__init__") (some (.ref fI))) (oF:h.get? fI=some oI) (cF:oI.cls=.type "function") (hz:rest.length <= sizeLine)
  (fin:wpAny (model prog w) (A.under (.builtin "type.__call__" ⟨.ref C :: rest,[]⟩)) (call (.ref fI) (.ref (h.objs.size + 1) :: rest)) (fun r s'=>r=.none/\Q (.ref (h.objs.size + 1)) s') E ⟨Ds C rest h,g,d,t,os⟩) :
  wpAny (model prog w) A (call (.ref C) rest) Q E ⟨h,g,d,t,os⟩:=by
 have f1:=tc_lookup;have f2:=tc_bind (.ref C);have hT:(⟨h,g,d,t,os⟩:Shared).TypeIs (.ref C) "type" := ⟨_,oC,rfl⟩;refine wpAny_call (codeAny_of_tree ?_);show wpAny _ _ (callAny (.ref C) _) _ _ _
 repeat (any_goals (first | assumption | with_reducible refine wpAny_loadPart_at oC ?_ | wp_step))
 refine ⟨rfl,?_⟩;exact codeAny_call_builtin_at (Code.quiet_builtin _ (by decide +kernel)) entry_typeCall (wpAny_check_type_call_sub oC (M9 F T oC li oF cF hz fin))
end
noncomputable def Ed (e C:Addr) (dx:Option Addr):HO:=.ext fun h=>∃ oe vs,h.get? e=some oe/\oe.cls=.ref C/\oe.dict=dx/\oe.data=.fields vs/\vs.size=6/\vs[1]?=some .none/\vs[2]?=some .none
noncomputable def A5 (K:FG) (C:Addr):Bool:=match K.lookup C with
 | some ⟨.type "type", _,.cls cd,sl⟩=>(match cd.mro,sl.toList with
  | .ref C' :: bm,[_,_,_,_,some (.builtin n),_]=>C' == C && !cd.hasDel && n == "ValueError.__new__" && bm.contains (.type "BaseException") && bm.contains (.type "ValueError") && !bm.contains (.type "AttributeError") && !bm.contains (.type "NameError")
  | _,_=>false)
 | _=>false
theorem HF (X:K.In h) (q:A5 K C=true):∃ nm qn N bs bm bx sn sub ab col dd k0 k1 k2 k3 k5,h.get? C=some (excClassObj nm qn C N bs bm bx sn sub ab col dd k0 k1 k2 k3 k5 "ValueError.__new__")/\LX "ValueError" bm:=by
 unfold A5 at q;split at q
 ·rename_i dd cd sl ho;split at q
  ·rename_i C' bm k0 k1 k2 k3 n k5 hm hs;simp only [Bool.and_eq_true,beq_iff_eq,Bool.not_eq_true'] at q;obtain ⟨⟨⟨⟨⟨⟨rfl,hdel⟩,rfl⟩,hb⟩,ht⟩,ha⟩,hn⟩:=q;obtain ⟨nm,bs,mro,ns,qn,hd,sn,sub,ab,col,del⟩:=cd
   dsimp only at hm hdel
   subst hm hdel;obtain ⟨l⟩:=sl;simp only at hs;subst hs;exact ⟨nm,qn,ns,bs,bm,hd,sn,sub,ab,col,dd,k0,k1,k2,k3,k5,X _ _ ho,⟨ht,hb,ha,hn⟩⟩
  ·cases q
 ·cases q
structure MkX (K:FG) (C f:Addr):Prop where
 cls:A5 K C=true
 init:W.findIn K (.ref C) "__init__" = some (some (.ref f))
 fn:W.isFn K (.ref f)=true
 fo:∃ o,K.lookup f=some o/\o.cls=.type "function"
 kp:W.keepIn K (.ref C)=true
section
variable {CX:CXT} {k:Nat} {fd:FuncData} {ps:List Str} {sp:Sp} {dvs:List V} {ds:List Value} {E:XK} {m:Str} {p apos:Pos} {o:Expr} {es:List Expr} {t:TA}
theorem Oy (C:Addr) (rest:List Value) (h:Heap):(Ds C rest h).get? (h.objs.size + 1)=some (M8 C h):=by unfold Ds; heap_get
theorem Inv.madeX (I:Inv X aa σ H s) (rest:List Value):Inv X aa σ (upd H (s.heap.objs.size + 1) (Ed (s.heap.objs.size + 1) C none)) { s with heap:=Ds C rest s.heap }:=by
 have kp:∀ b o,s.heap.get? b=some o->(Ds C rest s.heap).get? b=some o:=fun b o z=>get?_push_of_some _ (get?_push_of_some _ z);refine I.laid (t':=s.toks) kp (Nat.le_succ _) ?_;have ge:=Oy C rest s.heap;exact ⟨⟨_,_,ge,rfl,rfl,rfl,rfl,rfl,rfl⟩,⟨_,ge⟩,fun h1 h2 ⟨oe,vs,a,r⟩ k=>⟨oe,vs,k _ a,r⟩⟩
theorem Oz {Q:VK} {vs:List V} (M:MkX X.K C f) (F:Ac X.prog X.w X.K X.mg X.base CX k f fd ps sp) (hr:Room (k + 1) X.A) (hb:Binds X.K fd ps ds) (hd:Vals dvs ds) (hx:Bn CX X E) (I:Inv X aa σ H s) (r:Vals vs us) (hz:vs.length <= 1000)
  (h:∀ x,H x=none->sp (.ref x :: (vs++dvs)) (upd H x (Ed x C none)) (fun v H2=>v=.non/\Q (.ref x) H2) E):wpAny (model X.prog X.w) X.A (call (.ref C) us) (EP X aa σ Q) X.xe s:=by
 have hq:=h (s.heap.objs.size + 1) (I.hok.fresh (Nat.le_succ _));have I2:=Inv.madeX (C:=C) I us;have r2:Vals (V.ref (s.heap.objs.size + 1) :: (vs++dvs)) (Value.ref (s.heap.objs.size + 1) :: (us++ds)):=.cons rfl (r.append hd)
 have hl:(Value.ref (s.heap.objs.size + 1) :: us++ds).length=ps.length:=by
  have e:=r2.length;rw [F.len _ _ _ _ hq] at e;exact e.symm
 obtain ⟨nm,qn,N,bs,bm,bx,sn,sub,ab,col,dd,k0,k1,k2,k3,k5,oC,T⟩:=HF I.kIn M.cls;obtain ⟨oF,lF,cF⟩:=M.fo;obtain ⟨hh,g,d,tk,os⟩:=s;refine Ox PySem.F.excBase_ValueError T oC (W.looks_findIn I.kIn M.init) (I.kIn _ _ lF) cF (by rw [← r.length]; exact Nat.le_of_lt (Ab hz)) ?_;refine wpAny_call (codeAny_mono (F.run _ X.stack _ _ ⟨_,[]⟩ (Value.ref (hh.objs.size + 1) :: (us++ds)) _ _ E (hr.make C us []) (I2.env0.make C us []) (hb _ (Value.ref (hh.objs.size + 1) :: us) I2.kIn hl) r2 hq) fun r s' hq'=>?_);cases r with
 | error e=>exact hx aa σ _ _ e s' I2 hq'
 | ok fl =>
  cases fl with
  | ret u =>
   obtain ⟨v,H',I3,rv,ev,q3⟩:=I2.after hq';subst ev;exact ⟨rv,⟨V.ref (hh.objs.size + 1),H',I3,rfl,q3⟩⟩
  | next=>exact False.elim hq'
  | brk=>exact False.elim hq'
  | cont=>exact False.elim hq'
def KU (C:Addr) (sp:Sp) (dvs:List V) (E:XK) (t:TA):TE:=fun σ H Q=>t σ H fun vs H1=>vs.length <= 1000/\∀ x,H1 x=none->sp (.ref x :: (vs++dvs)) (upd H1 x (Ed x C none)) (fun v H2=>v=.non/\Q (.ref x) H2) E
theorem Dt (M:MkX X.K C f) (F:Ac X.prog X.w X.K X.mg X.base CX k f fd ps sp) (hr:Room (k + 1) X.A) (hg:Gl X x) (hm:X.mg x=some (.ref C)) (hb:Binds X.K fd ps ds) (hd:Vals dvs ds) (hx:Bn CX X E)
  (ha:PA X (e :: es) t) (hdb:(x == ("__debug__" : Str))=false:=by decide) (he:starEach (e :: es) X.env=(false,eval e X.env) :: starEach es X.env:=by rfl) (hpl:(backTo pos (starEach es X.env)).any (·.1)=false:=by rfl) :
  PE X (.Call (.Name x p) (e :: es) [] pos) (KU C sp dvs E t):=by
 intro aa s σ H Q I h;refine wpAny_Call_Name_kw (CG I hg hm ?_ hdb);refine W.callWith_K (h₀:=X.base) I.ok.mod.kin M.kp (thn (ha pos aa s σ H _ I h) fun us s1 ⟨vs,H1,I1,r,q⟩=>⟨I1.kIn,?_⟩) he hpl;exact Oz M F hr hb hd hx I1 r q.1 q.2
def KW (C:Addr) (te:TE) (E:XK):TS:=fun _ σ H=>te σ H fun v H1=>∃ e dx,v=.ref e/\H1 e=some (Ed e C dx)/\E (.ref C) dx (upd H1 e (Fd e C dx))
theorem O0 {H1:Hp} {e:Addr} {dx:Option Addr} (ok:HOk P w H1 h) (at_:H1 e=some (Ed e C dx)):HOk P w (upd H1 e (Fd e C dx)) h:=by
 obtain ⟨⟨oe,vs,a1,a2,a3,a4,a5,a6,a7⟩,_,_⟩:=ok _ _ at_;refine ok.write (x:=e) (e:=e) (by rw [at_]; exact True.intro) (.inl rfl) (fun b u _ q=>q) ⟨_,a1⟩ ⟨⟨oe,vs,a1,a2,a3,a4,by omega,a7⟩,⟨_,a1⟩,fun h1 h2 ⟨oe,vs,a,r⟩ k=>⟨oe,vs,k _ a,r⟩⟩
end
section
variable {M:Model} {env:Env}
theorem LY {x:Sem Value} {Q:Flow->Shared->Prop} (hh:A.handled=none)
  (h:wpAny M A x (fun v s1=>∃ e oe vs,v=.ref e/\s1.heap.get? e=some oe/\oe.cls=.ref C/\oe.data=.fields vs/\vs[1]?=some .none /\
   (∃ nm qn N bs bm bx sn sub ab col dd k0 k1 k2 k3 k5 nid,s1.heap.get? C=some (excClassObj nm qn C N bs bm bx sn sub ab col dd k0 k1 k2 k3 k5 nid)/\bm.contains (.type "BaseException")=true)/\E (.ref e) s1) E s) :
  wpAny M A (raiseStmt env (some x) none) Q E s:=by
 unfold raiseStmt;refine wpAny_bind (wpAny_mono h (fun v s1 z=>?_) fun _ _ y=>y);obtain ⟨e,oe,vs,rfl,he,cb,hd,h1,⟨nm,qn,N,bs,bm,bx,sn,sub,ab,col,dd,k0,k1,k2,k3,k5,nid,oC,hb⟩,hE⟩:=z;have c1:(Value.ref C :: bm).contains (.type "BaseException")=true:=by rw [contains_cons,hb,Bool.or_true]
 obtain ⟨hp,g,d,tk,os⟩:=s1
 repeat (first | (with_reducible refine wpAny_loadPart_at he ?_; rw [cb]) | with_reducible refine wpAny_loadPart_at oC ?_ | (with_reducible refine wpAny_isSubtype_exc oC ?_; rw [c1]) | wp_step)
 rw [hd];refine wpAny_pure ?_;rw [h1];refine wpAny_pure ?_;rw [if_neg (by decide)];exact wpAny_pure (wpAny_raiseNew_none hh hE)
end
section
variable {E:XK} {o:Expr}
theorem Du (hR:Qf X E) (hc:X.calm=true) (hC:A5 X.K C=true) (he:PE X o te):PS X (.Raise (some o) none pos) (KW C te E):=by
 intro aa s σ H D I h;rw [arm_exec_Raise];refine wpAny_bind (wpAny_standAt (LY (C:=C) (I.ok.hd hc) (wpAny_bind (wpAny_mono (he aa s σ H _ I h) (fun v s1 z=>wpAny_bind (wpAny_standAt (wpAny_pure ?_))) fun _ _ y=>y))));obtain ⟨u,H1,I1,ru,e,dx,rfl,at_,q⟩:=z;obtain rfl:v=.ref e:=ru;obtain ⟨⟨oe,vs,a1,a2,a3,a4,a5,a6,a7⟩,_,_⟩:=I1.hok _ _ at_;obtain ⟨nm,qn,N,bs,bm,bx,sn,sub,ab,col,dd,k0,k1,k2,k3,k5,oC,T⟩:=HF I1.kIn hC;refine ⟨e,oe,vs,rfl,a1,a2,a4,a6,⟨nm,qn,N,bs,bm,bx,sn,sub,ab,col,dd,k0,k1,k2,k3,k5,_,oC,T.base⟩,?_⟩;refine hR aa σ H1 s1 e C dx _ s1 I1 ⟨rfl,I1.bare,Un.write (x:=e) (e:=e) (by rw [at_]; exact True.intro) (.inl rfl) (fun b u _ r=>r) ⟨_,a1⟩,O0 I1.hok at_,AB⟩ ⟨oe,vs,a1,a4,a6⟩ q
end
section
variable {prog:Program} {g:Array GenState} {d:Drawn} {t:Nat} {os:OsState}
variable {nm qn:Str} {N:Addr} {bs bm bmB:List Value} {bx:Bool} {sn:List Str} {sub:List Value} {ab:Bool} {col:Option Bool} {dd:Option Addr} {k0 k1 k2 k3 k5:Option Value} {B newId initId:String}
theorem LZ (F:ExcBaseFacts B newId initId bmB) (T:LX B bm) {M:Model} {e:Addr} {oe:Obj} {rest:List Value} {Q:Unit->Shared->Prop}
  (oC:h.get? C=some (excClassObj nm qn C N bs bm bx sn sub ab col dd k0 k1 k2 k3 k5 newId)) (he:h.get? e=some oe) (cb:oe.cls=.ref C) (fin:Q () ⟨h,g,d,t,os⟩) :
  wpAny M A (checkBuiltinCall initId ⟨.ref e :: rest,[]⟩) Q E ⟨h,g,d,t,os⟩:=by
 have c1:(Value.ref C :: bm).contains (.type B)=true:=by rw [contains_cons,T.b]; simp
 have st:=F.noStar;simp only [checkBuiltinCall,F.initKind,F.initSplit,F.initRow]
 repeat (first | (with_reducible refine wpAny_loadPart_at he ?_; rw [cb]) | with_reducible refine wpAny_loadPart_at oC ?_ | (with_reducible refine wpAny_isSubtype_exc oC ?_; rw [c1]) | wp_step)
 refine wpAny_onRaise ?_;rw [show ∀ (a b:String) (n:Nat),Bind.check ⟨.positional, "*", B,.self,[⟨"args", .varPos,false⟩]⟩ a b n (List.map (fun x=>x.fst) ({ pos:=Value.ref e :: rest }:Args).kw)=pure () from fun a b n=>check_star_args _ _ _ _ _ _];exact wpAny_pure fin
theorem NA (F:ExcBaseFacts B newId initId bmB) (T:LX B bm) {e:Addr} {oe:Obj} {vs:Array Value} {v0:Value} {rest:List Value} {Q:VS}
  (oC:h.get? C=some (excClassObj nm qn C N bs bm bx sn sub ab col dd k0 k1 k2 k3 k5 newId)) (he:h.get? e=some oe) (cb:oe.cls=.ref C) (hd:oe.data=.fields vs) (h0:vs[0]?=some v0) (hz:rest.length <= sizeLine)
  (fin:Q .none ⟨(h.push { cls:=.type "tuple", data:=.seq rest.toArray }).update e (Obj.mapFields (·.setIfInBounds 0 (.ref h.objs.size))),g,d,t,os⟩) :
  wpAny (model prog w) A (call (.builtin initId) (.ref e :: rest)) Q E ⟨h,g,d,t,os⟩:=by
 refine wpAny_call (codeAny_call_builtin F.init.plain F.initEntry (LZ F T oC he cb ?_));have e1:=get?_push_of_some { cls:=.type "tuple", data:=.seq rest.toArray } he;unfold Builtin.«BaseException.__init__»
 wp_walk
 rw [hd];refine wpAny_pure ?_;rw [h0];refine wpAny_pure (wpAny_bind (wpAny_setField e1 hd (Array.getElem?_eq_some_iff.mp h0).1 ?_))
 have done:∀ {E':VS},wpAny (model prog w) A.in1 (match v0 with | Value.ref _=>letGo [v0] | _=>pure ()) (fun _ s'=>Q .none s') E' ⟨(h.push { cls:=.type "tuple", data:=.seq rest.toArray }).update e (Obj.mapFields (·.setIfInBounds 0 (.ref h.objs.size))),g,d,t,os⟩:=fun {E'}=>by
  cases v0 <;> first | exact wpAny_pure fin | (wp_walk; exact fin)
 exact wpAny_mono done (fun _ s' q=>wpAny_pure q) fun _ _ z=>z
end
theorem Qh {o:HO} (h:H a=some o):upd H a o=H:=by
 funext b;unfold upd;split
 ·rename_i e;rw [e,h]
 ·rfl
theorem O1 {x:V}:∀ {us:List Value},Vals (x :: xs) us->∃ u ls,us=u :: ls/\RelV x u/\Vals xs ls
 | _ :: _,.cons a b=>⟨_,_,rfl,a,b⟩
section
variable {es:List Expr} {t:TA} {np apos:Pos}
def UZ (K:FG) (t:TA):TE:=fun σ H Q=>t σ H fun vs H1=>∃ a C dx rest,vs=.ref a :: rest/\rest.length <= 1000/\A5 K C=true/\H1 a=some (Ed a C dx)/\Q .non H1
theorem Sq:typeOf (.type "ValueError")=pure (.type "type"):=by kernel_rfl
theorem Sr:Manifest.isStub "ValueError" = false:=by decide +kernel
theorem Ss (K:FG):W.findCls K (.type "ValueError") (.type "type") "__init__" = some (.val (.builtin "ValueError.__init__")):=by kernel_rfl
theorem Su:W.handedIn (.builtin "ValueError.__init__")=true:=by decide +kernel
theorem N8:bootBuiltins "ValueError" = some (.type "ValueError"):=by decide +kernel
theorem Qi {pl:Sem Bool} (hg:Gl X "ValueError") (hm:X.mg "ValueError" = none) (ha:PA X (e :: es) t) (he:starEach (e :: es) X.env=(false,eval e X.env) :: starEach es X.env:=by rfl) (hpl:(backTo pos (starEach es X.env)).any (·.1)=false:=by rfl)
  (ht:eval (.Call (.Attribute (.Name "ValueError" np) "__init__" apos) (e :: es) [] pos) X.env=(do
   let ov ← eval (.Name "ValueError" np) X.env
   standAt apos.atName
   let (f,first) ← holding [ov] (getMethod ov "__init__" pl)
   callWith pos f first (backTo pos (starEach (e :: es) X.env)) (backToKw pos (keywordEach [] X.env))):=by rfl) :
  PE X (.Call (.Attribute (.Name "ValueError" np) "__init__" apos) (e :: es) [] pos) (UZ X.K t):=by
 intro aa s σ H Q I h;refine W.methodCall_KW (pl:=pl) ?_ ht;refine Ej (u:=.type "ValueError") I hg hm N8 ?_;obtain ⟨m,Fm⟩:=I.fr;have L1:=fun (Q':Value × List Value->Shared->Prop) hq=>W.method_type (prog:=X.prog) (w:=X.w) (A:=X.A) (E:=X.xe) (K:=X.K) (T := "ValueError") (name := "__init__") (pl:=pl) (v:=.builtin "ValueError.__init__") (Q:=Q') Fm I.ok.mod.kin Sq Sr (Ss X.K) Su hq;refine L1 _ ?_;refine PyProof.Rows.callWith_builtin1 (thn (ha pos aa _ σ H _ (I.tok _) h) fun us s1 ⟨vs,H1,I1,r1,a,C,dx,rest,ev,hz,hC,at_,q⟩=>?_) he hpl;subst ev;obtain ⟨nm,qn,N,bs,bm,bx,sn,sub,ab,col,dd,k0,k1,k2,k3,k5,oC,T⟩:=HF I1.kIn hC;obtain ⟨⟨oe,ws,a1,a2,a3,a4,a5,a6,a7⟩,_,st⟩:=I1.hok _ _ at_;obtain ⟨u0,ls,eu,ra,rr⟩:=O1 r1;subst eu
 ·obtain rfl:=ra;obtain ⟨hp,g,d,tk,os⟩:=s1;refine NA PySem.F.excBase_ValueError T oC a1 a2 a4 (v0:=ws[0]'(by omega)) (by rw [Array.getElem?_eq_getElem]) (by rw [← rr.length]; exact Nat.le_of_lt (Ab hz)) ?_;have J:=I1.kept (h':=hp.push { cls:=.type "tuple", data:=.seq ls.toArray }) (t':=tk) fun b u z=>get?_push_of_some _ z;have e1:=get?_push_of_some { cls:=.type "tuple", data:=.seq ls.toArray } a1;have e2:=get?_update_self (Obj.mapFields (·.setIfInBounds 0 (.ref hp.objs.size))) e1 (Obj.isFreed_of_fields (Obj.data_mapFields a4 _));rw [En a4] at e2
  have J2:=J.write (x:=a) (e:=a) (o:=Ed a C dx) (t':=tk) (by rw [at_]; exact True.intro) (.inl rfl) (fun b u n z=>(get?_update_other _ _ (Ne.symm n)).trans z) ⟨_,e2⟩
   ⟨⟨_,_,e2,a2,a3,rfl,by rw [Array.size_setIfInBounds]; exact a5,by rw [Array.getElem?_setIfInBounds_ne (by decide)]; exact a6,by rw [Array.getElem?_setIfInBounds_ne (by decide)]; exact a7⟩,⟨_,e2⟩,st⟩
  rw [Qh at_] at J2;exact ⟨.non,H1,J2,rfl,q⟩
end
noncomputable def IA (P:Program) (w:World) (K:FG) (mg:SV) (base:Heap) (N:List Str) (qual:Str) (scope:Scope) (f:Addr) (cd:Value) (A:Around) (outer:List Env) (s:Shared) (H:Hp) (e:Addr) (oe:Obj):Cx :=
 { BA CX0 P w K mg base N qual scope f cd A outer s H (fun _ _ _=>False) with calm:=false,pn:=[(e,oe)],xe:=fun _ _=>False }
structure RoomS (k:Nat) (A:Around):Prop where
 dp:A.depth + 3 * k + 5 < recursionLimit
 un:A.units + 16 * k + 200 < cLine
theorem RoomS.deeper {k:Nat} {A:Around} (r:RoomS (k + 1) A) (env:Env):RoomS k (A.deeper env):=⟨by have:=r.dp; show A.depth + 1 + 3 * k + 5 < _; omega,by have:=r.un; show A.units + 3 + 16 * k + 200 < _; omega⟩
theorem NB {ps:List Str} {qual:Str} {scope:Scope} {cd:Value} {outer:List Env} {s1:Shared} {vs:List V} {e:Addr} {oe:Obj}
  (S:AM N ps scope) (e0:Env0 P w K mg base A outer s H) (hl:vs.length=ps.length) (r:Vals vs us) (he:s.heap.get? e=some oe) (hn:H e=none) (ho:e ∉ frs outer) (hd:∀ v,oe.data ≠ .cell v)
  (x:InCallC s s.heap.objs.size (bindL (envOfC qual scope s.heap.objs.size f cd).kindOf (ps.zip us) fun _=>none) (cellsFrom (s.heap.objs.size + 1) scope.names []) (bindC (envOfC qual scope s.heap.objs.size f cd).kindOf (ps.zip us) fun _=>none) s1) :
  Inv (IA P w K mg base N qual scope f cd A outer s H e oe) [] (Bu N vs) H s1:=by
 have A0:∃ A0:Around,A0.handled=none/\A0.frames=A.frames:=⟨{ A with handled:=none },rfl,rfl⟩;obtain ⟨A0,h1,h2⟩:=A0;have I:=GA (CX:=CX0) (E:=fun _ _ _=>False) (A:=A0) S h1 ⟨h2.trans e0.frames,e0.mod,e0.bs,e0.bsz,e0.funs,e0.frf,e0.hok,e0.bare⟩ hl r x;obtain ⟨hh,tk,rfl,hk⟩:=x.done;have ok:=I.ok;refine ⟨⟨ok.mod,ok.kind,ok.glob,ok.blt,ok.above,ok.inj,ok.has,ok.cab,(fun z=>by cases (show false=true from z)),Around.frames_deeper e0.frames,ok.stk,ok.exf,ok.bs,ok.bsz,ok.noex,ok.exfs,ok.funs,ok.frf⟩,I.os,I.bare,I.base,I.loc,I.cell,I.free,I.freeC,fun p hp=>?_,I.hok,I.len⟩;have q:p=(e,oe):=by simpa [IA] using hp
 subst q;exact ⟨hk _ _ he,hn,Nat.ne_of_lt (lt_size he),ho,hd⟩
end L2
namespace L2
open PySem PySem.Spec PyProof.Rows
abbrev SpS:=Addr->Obj->List V->Hp->VK->Prop
structure N9 (P:Program) (w:World) (K:FG) (mg:SV) (base:Heap) (k:Nat) (f:Addr) (fd:FuncData) (ps:List Str) (sp:SpS):Prop where
 len:∀ e oe vs H Q,sp e oe vs H Q->vs.length=ps.length
 run:∀ (A:Around) (outer:List Env) (s:Shared) (H:Hp) (args:Args) (us:List Value) (vs:List V) (Q:VK) (e:Addr) (oe:Obj),RoomS k A->Env0 P w K mg base A outer s H->A.handled=some (.ref e)->s.heap.get? e=some oe->H e=none->e ∉ frs outer->(∀ v,oe.data ≠ .cell v) ->
  BindsTo s fd args (ps.zip us)->Vals vs us->sp e oe vs H Q->codeAny (model P w) A (.call (.ref f) args) (CR CX0 outer P w H s Q fun _ _ _=>False) s
section
theorem Fun.okS {qual:Str} {st:Stmt} {fd:FuncData} {ps:List Str} {k:Nat} {sp:SpS} (F:Fun K x qual st f fd) (S:AM N ps (defScope st)) (len:∀ e oe vs H Q,sp e oe vs H Q->vs.length=ps.length)
  (b8:∀ (af:Value) (A:Around) (outer:List Env) (s:Shared) (H:Hp) (vs:List V) (Q:VK) (e:Addr) (oe:Obj),A.handled=some (.ref e)->RoomS k (A.deeper (envOfC qual (defScope st) s.heap.objs.size f af))->sp e oe vs H Q ->
   ∃ t,PSs (IA P w K mg base N qual (defScope st) f af A outer s H e oe) (defBody st) t/\t { nx:=fun _ H'=>Q .non H',rt:=Q } (Bu N vs) H):N9 P w K mg base (k + 1) f fd ps sp:=by
 obtain ⟨oc,od,kV,doc,pm,an,af,ct,osl,rfl,lk,hcd⟩:=F.ex;refine ⟨len,fun A outer s H args us vs Q e oe hr e0 hh he hn ho hd hb r hsp=>?_⟩;have hl:=len _ _ _ _ _ hsp;have KX:K.In s.heap:=e0.mod.kin.keeps fun b o z=>(e0.bs b o z).1;have lim:s.heap.NoLimit:=e0.mod.nolimit.keeps fun b o z=>(e0.bs b o z).1
 have hk:∀ y ∈ ps.zip us,(defScope st).names.lookup y.1=some .local\/((defScope st).names.lookup y.1=some .cell/\((cellsFrom (s.heap.objs.size + 1) (defScope st).names []).lookup y.1).isSome=true):=fun ⟨n,v⟩ hy=>by
  rcases S.par n (of_mem_zip hy).1 with q | q
  ·exact .inl q
  ·exact .inr ⟨q,W.cellsFrom_some _ _ _ (.inl q)⟩
 refine codeAny_call_function (by have:=hr.dp; omega) (KX _ _ lk) rfl S.co S.gen rfl (W.codeRec_of KX hcd) (hb _ _ _ _ (wpAny_newFunctionEnv_cells S.kind hk fun env ee s1 x=>?_));subst ee;refine ⟨lim.keeps x.toInCall.keep,codeAny_func ?_⟩;obtain ⟨t,ht,hq⟩:=b8 af A outer s H vs Q e oe hh (hr.deeper _) hsp;have I:Inv (IA P w K mg base N qual (defScope st) f af A outer s H e oe) [] (Bu N vs) H s1:=NB S e0 hl r he hn ho hd x;refine wpAny_mono (ht [] s1 (Bu N vs) H _ I hq) (fun fl s' z=>?_) fun _ _ z=>z.elim;cases fl with
 | ret u =>
  obtain ⟨v,σ',H',J,rv,q⟩:=z;exact ⟨v,H',J.os,J.bare,J.base,J.hok,rv,q⟩
 | next =>
  obtain ⟨σ',H',J,q⟩:=z;exact ⟨.non,H',J.os,J.bare,J.base,J.hok,rfl,q⟩
 | brk =>
  obtain ⟨_,_,_,q⟩:=z;exact q.elim
 | cont =>
  obtain ⟨_,_,_,q⟩:=z;exact q.elim
theorem Sv {qual:Str} {scope:Scope} {cd:Value} {outer:List Env} {e:Addr} {oe:Obj} {vs:Array Value} (hh:A.handled=some (.ref e)) (hd:oe.data=.fields vs) (h2:vs[2]?=some .none) :
  Rdy (IA P w K mg base N qual scope f cd A outer s H e oe):=.inr ⟨e,oe,vs,hh,mem_cons_self,hd,h2⟩
end
noncomputable def del (H:Hp) (a:Addr):Hp:=fun b=>if b=a then none else H b
theorem La:del H a a=none:=if_pos rfl
theorem Dv {b:Addr} (h:b ≠ a):del H a b=H b:=if_neg h
section
variable {H1 H2:Hp} {s1 s2:Shared} {e:Addr} {dx:Option Addr}
theorem Qj {fs:List Addr} {oe:Obj} {vs:Array Value} {old:Addr->Prop} {h2 h':Heap} (u:Un fs [] H1 H2 h h2) (L:Hw fs e oe vs old h2 h') (at_:H2 e=some (Fd e C dx)) (hold:∀ b,old b->H2 b=none/\h.get? b=none):Un fs [] H1 (del H2 e) h h':=by
 have ne:∀ b,H2 b=none->b ≠ e:=fun b n z=>by subst z; rw [at_] at n; cases n
 have nold:∀ b o,h.get? b=some o->¬ old b:=fun b o hb z=>by rw [(hold b z).2] at hb; cases hb
 have ne2:∀ b v,H2 b=some v->(∀ φ,v ≠ .ext φ)->b ≠ e:=fun b v hv hn z=>by subst z; rw [at_] at hv; cases hv; exact hn _ rfl
 refine ⟨fun b o q n hb _=>?_,fun b o q n hb _=>?_,fun b o q n _=>?_,fun b o q _=>?_,fun b xs q=>?_,fun b o xs q=>?_,fun b ps q=>?_⟩
 ·exact L.keep b o (u.keep b o q n hb (by simp)) (ne b (u.free b o q n (by simp))) (nold b o q) hb
 ·obtain ⟨sl,q1⟩:=u.slot b o q n hb (by simp);obtain ⟨sl2,q2⟩:=L.slot b _ q1 (ne b (u.free b o q n (by simp))) (nold b o q) hb;exact ⟨sl2,q2⟩
 ·have z:=u.free b o q n (by simp);rw [Dv (ne b z)];exact z
 ·obtain ⟨o1,q1⟩:=u.there b o q (by simp);exact L.there b o1 q1
 ·have z:=u.tups b xs q;rw [Dv (ne2 b _ z fun _ y=>nomatch y)];exact z
 ·have z:=u.frzs b o xs q;rw [Dv (ne2 b _ z fun _ y=>nomatch y)];exact z
 ·obtain ⟨m,z⟩:=u.tbls b ps q;exact ⟨m,by rw [Dv (ne2 b _ z fun _ y=>nomatch y)]; exact z⟩
theorem Sw (ok:HOk P w H2 h) (at_:H2 e=some (Fd e C dx)):HOk P w (del H2 e) h:=fun b u q=>by
 have hb:b ≠ e:=fun z=>by subst z; rw [La] at q; cases q
 rw [Dv hb] at q;have ne2:∀ c v,H2 c=some v->(∀ φ,v ≠ .ext φ)->c ≠ e:=fun c v hv hn z=>by subst z; rw [at_] at hv; cases hv; exact hn _ rfl
 exact (ok b u q).stay (fun _ _ _ z=>z) (fun c z=>by rw [Dv (ne2 c _ z fun _ y=>nomatch y)]; exact z) fun c xs z=>by rw [Dv (ne2 c _ z fun _ y=>nomatch y)]; exact z
structure Cgt (C:Addr) (dx:Option Addr) (e:Addr) (oe:Obj) (T:Addr) (oT:Obj):Prop where
 cls:oe.cls=.ref C
 dict:oe.dict=dx
 fld:∃ vs,oe.data=.fields vs/\vs[1]?=some (.ref T)/\vs[2]?=some .none
 tb:∃ ts,oT.data=.fields ts/\ts[3]?=some .none
theorem Ua {E':VS} {Q:Unit->Shared->Prop} (O:M0 X) (I:Inv X aa σ H1 s1) (F:Fly X.prog X.w X.stack H1 s1 e C dx H2 s2)
  (h:∀ s3 oe T oT,Cgt C dx e oe T oT->Inv X ((e,oe) :: (T,oT) :: aa) σ (del H2 e) s3->Q () s3) :
  wpAny (model X.prog X.w) X.A (noteFrame (.ref e) X.env) (fun _ s3=>wpAny (model X.prog X.w) X.A (setFlight (.ref e) none) Q E' s3) E' s2:=by
 obtain ⟨B,oe,vs,T,oT,ts,a1,a2,a3,a4,a5,a6,a7,a8,a9⟩:=F;have fr:=Eo I B;have hA:=I.ok.frames;rw [O.stk] at fr hA;refine Jl hA fr O.fr a1 a2 a3 a4 a5 a6 a7 fun h' L=>?_;rw [← O.stk] at L;have hold:∀ b,b=T->H2 b=none/\s1.heap.get? b=none:=fun b z=>by subst z; exact ⟨a8,a9⟩
 have free2:∀ b ∈ frs X.stack,H2 b=none:=fun b hb=>by
  obtain ⟨_,o,ho,_⟩:=I.stack.mem hb;exact B.un.free b o ho (I.stkFree b hb) (by simp)
 have ok3:=LU B.hok L free2 (fun b z=>(hold b z).1) a1 a2 B.at_;obtain ⟨T',oT',ts',b1,b2,b3,b4,b5⟩:=L.tb;obtain ⟨⟨oe',vs',c1,c2,c3,c4,c5,c6⟩,_,_⟩:=B.hok _ _ B.at_;rw [a1] at c1;cases c1;rw [a2] at c4;cases c4;have I3:Inv X aa σ (del H2 e) { s2 with heap:=h' }:=I.call' (ch:=[]) B.os (Qj B.un L B.at_ hold) (Sw ok3 B.at_) B.bare fun b z=>nomatch z;have hT0:s2.heap.get? T'=none:=Heap.get?_none_of_le b1;have hTH:H2 T'=none:=B.hok.fresh b1;have hTe:T' ≠ e:=fun z=>by subst z; rw [a1] at hT0; cases hT0
 have locs:∃ o,s2.heap.get? X.env.locals=some o:=by
  obtain ⟨m,⟨o,_,_,ho,_⟩,_⟩:=id I.loc;exact B.un.there _ o ho (by simp)
 have fsIn:∀ b ∈ X.fs,∃ o,s2.heap.get? b=some o:=fun b hb=>by
  obtain ⟨_,o,ho,_⟩:=I.funs.mem hb;exact B.un.there b o ho (by simp)
 have upfs:∀ b ∈ X.fs,b ∈ frs X.stack:=fun b hb=>by
  rw [O.stk];unfold frs;rw [filterMap_cons,O.fr];exact mem_cons_of_mem _ hb
 refine h _ { oe with data:=.fields (vs.setIfInBounds 1 (.ref T')) } T' oT' ⟨c2,c3,⟨vs.setIfInBounds 1 (.ref T'),rfl,by simp [(Array.getElem?_eq_some_iff.mp a3).1],by rw [Array.getElem?_setIfInBounds_ne (by decide)]; exact c6⟩,⟨ts',b3,b4⟩⟩ (I3.pins_of fun p hp=>?_);rcases mem_cons.mp hp with z | z
 ·subst z;refine ⟨b5,La,fun z=>?_,fun z=>?_,fun v z=>by cases z⟩
  ·obtain ⟨m,⟨o,_,_,ho,_⟩,_⟩:=id I.loc;have n1:=B.un.free _ _ ho I.free (by simp);rw [← z,B.at_] at n1;cases n1
  ·have n1:=free2 e (upfs e z);rw [B.at_] at n1;cases n1
 rcases mem_cons.mp z with z | z
 ·subst z;refine ⟨b2,by rw [Dv hTe]; exact hTH,fun z=>?_,fun z=>?_,fun v z=>by rw [b3] at z; cases z⟩
  ·obtain ⟨o,ho⟩:=locs;rw [← z,hT0] at ho;cases ho
  ·obtain ⟨o,ho⟩:=fsIn _ z;rw [hT0] at ho;cases ho
 ·exact I3.pin p (mem_append_right _ z)
end
noncomputable def Dg (K:FG) (C:Addr):List Value:=match K.lookup C with
 | some ⟨_,_,.cls cd,_⟩=>cd.mro
 | _=>[]
theorem Lb (X:K.In h) (q:A5 K C=true):∃ nm qn N bs bm bx sn sub ab col dd k0 k1 k2 k3 k5,h.get? C=some (excClassObj nm qn C N bs bm bx sn sub ab col dd k0 k1 k2 k3 k5 "ValueError.__new__")/\LX "ValueError" bm/\Dg K C=.ref C :: bm:=by
 obtain ⟨nm,qn,N,bs,bm,bx,sn,sub,ab,col,dd,k0,k1,k2,k3,k5,oC,T⟩:=HF X q;refine ⟨nm,qn,N,bs,bm,bx,sn,sub,ab,col,dd,k0,k1,k2,k3,k5,oC,T,?_⟩;unfold A5 at q;unfold Dg;split at q
 ·rename_i dd' cd sl ho;rw [ho];have e:=X _ _ ho;rw [oC] at e;have e1:=Option.some.inj e;have e3:=congrArg Obj.data e1;injection e3 with e2
  rw [← e2]
 ·cases q
section
variable {M:Model} {g:Array GenState} {d:Drawn} {t:Nat} {os:OsState}
variable {nm qn nm' qn':Str} {N D N':Addr} {bs bm bs' bm':List Value} {bx hdct':Bool} {sn sn':List Str} {sub sub':List Value} {ab ab':Bool} {col col':Option Bool} {dd dd':Option Addr} {k0 k1 k2 k3 k5 l0 l1 l2 l3 l5:Option Value} {newId newId':String}
theorem KY {e:Addr} {oe:Obj} {Q:Bool->Shared->Prop} (oC:h.get? C=some (excClassObj nm qn C N bs bm bx sn sub ab col dd k0 k1 k2 k3 k5 newId)) (oD:h.get? D=some (excClassObj nm' qn' D N' bs' bm' hdct' sn' sub' ab' col' dd' l0 l1 l2 l3 l5 newId'))
  (he:h.get? e=some oe) (cb:oe.cls=.ref C) (cc:bm'.contains (.type "BaseException")=true) (hq:Q ((Value.ref C :: bm).contains (.ref D)) ⟨h,g,d,t,os⟩):wpAny M A (excMatches (.ref e) (.ref D)) Q E ⟨h,g,d,t,os⟩:=by
 have hcB:(Value.ref D :: bm').contains (.type "BaseException")=true:=by rw [contains_cons,cc,Bool.or_true]
 have f:=tc_notTuple;unfold excMatches;generalize hb:(Value.ref C :: bm).contains (.ref D)=b at hq
 repeat (first | (with_reducible refine wpAny_loadPart_at he ?_; rw [cb]) | with_reducible refine wpAny_loadPart_at oD ?_ | (with_reducible refine wpAny_isSubtype_exc oD ?_; rw [hcB]) | (with_reducible refine wpAny_isSubtype_exc oC ?_; rw [hb]) | wp_step)
 cases b <;> (wp_walk; exact hq)
end
noncomputable def Bc (X:Cx) (e:Addr) (oe:Obj) (T:Addr) (oT:Obj):Cx:={ X with A:=X.A.mark (some (.ref e)),calm:=false,pn:=X.pn++[(e,oe),(T,oT)],xe:=fun _ _=>False }
section
variable {e T:Addr} {oe oT:Obj}
theorem Inv.mark (I:Inv X ((e,oe) :: (T,oT) :: aa) σ H s):Inv (Bc X e oe T oT) aa σ H s :=
 ⟨⟨I.ok.mod,I.ok.kind,I.ok.glob,I.ok.blt,I.ok.above,I.ok.inj,I.ok.has,I.ok.cab,(fun z=>by cases (show false=true from z)),I.ok.frames,I.ok.stk,I.ok.exf,I.ok.bs,I.ok.bsz,I.ok.noex,I.ok.exfs,I.ok.funs,I.ok.frf⟩,I.os,I.bare,I.base,I.loc,I.cell,I.free,I.freeC,
  fun p hp=>I.pin p (by simpa [Bc] using hp),I.hok,I.len⟩
theorem Inv.unmark (ok:X.Ok) (I:Inv (Bc X e oe T oT) aa σ H s):Inv X ((e,oe) :: (T,oT) :: aa) σ H s :=
 ⟨ok,I.os,I.bare,I.base,I.loc,I.cell,I.free,I.freeC,fun p hp=>I.pin p (by simpa [Bc] using hp),I.hok,I.len⟩
theorem Inv.less {q:LO} (I:Inv X (q++aa) σ H s):Inv X aa σ H s:=I.pins_of fun p hp=>I.pin p (mem_append_right _ (mem_append_right _ hp))
theorem Inv.nameless {h':Heap} {m':SV} {tk:Nat} (I:Inv X aa σ H s) (hn:h'.Ns X.env.locals m') (hs:Heap.SameBut X.env.locals s.heap h'):Inv X aa (List.replicate σ.length none) H { s with heap:=h',toks:=tk }:=by
 obtain ⟨m,⟨oL,_,_,hoL,_⟩,_⟩:=id I.loc;refine ⟨I.ok,I.os,I.bare,⟨fun b o e n hb hx=>?_,fun b o e n hb hx=>?_,I.base.free,fun b o e hx=>?_,I.base.tups,I.base.frzs,I.base.tbls⟩,⟨_,hn,fun j y v' e1 e2 e3=>?_⟩,fun y c e=>?_,I.free,I.freeC,fun p hp=>?_,fun b ob e=>?_,by simpa using I.len⟩
 ·exact (hs.2 b (Nat.ne_of_lt (Nat.lt_of_lt_of_le (lt_size e) I.ok.above))).trans (I.base.keep b o e n hb hx)
 ·obtain ⟨sl,e1⟩:=I.base.slot b o e n hb hx;exact ⟨sl,(hs.2 b (Nat.ne_of_lt (Nat.lt_of_lt_of_le (lt_size e) I.ok.above))).trans e1⟩
 ·obtain ⟨o',e1⟩:=I.base.there b o e hx;exact ⟨o',(hs.2 b (Nat.ne_of_lt (Nat.lt_of_lt_of_le (lt_size e) I.ok.above))).trans e1⟩
 ·rw [List.getElem?_replicate] at e2;split at e2 <;> cases e2
 ·obtain ⟨w',z⟩:=I.cell y c e;exact ⟨w',z.sameBut hs (I.cne y c e)⟩
 ·obtain ⟨e,n,ne,nf,d⟩:=I.pin p hp;exact ⟨(hs.2 p.1 ne).trans e,n,ne,nf,d⟩
 ·refine (I.hok b ob e).stay (fun c w' hc q=>(hs.2 c ?_).trans q) (fun _ q=>q) fun _ _ q=>q;intro z;subst z;rcases hc with z | hc
  ·rw [← z,I.free] at e; cases e
  ·rw [I.free] at hc; cases hc
end
def PH (X:Cx) (C:Addr) (dx:Option Addr) (hs:List ExceptHandler) (t:Addr->TS):Prop :=
 ∀ (aa:LO) (s:Shared) (σ:St) (H:Hp) (D:Df) (e:Addr) (oe:Obj) (T:Addr) (oT:Obj),Cgt C dx e oe T oT->Inv X ((e,oe) :: (T,oT) :: aa) σ H s->t e D σ H->wpAny (model X.prog X.w) X.A (handleBy (.ref e) X.env hs) (SP X aa D) X.xe s
section
variable {Dn:Addr} {dx:Option Addr} {hs:List ExceptHandler} {t:Addr->TS} {np:Pos} {name:Option Str} {body:List Stmt}
theorem Jm (e:Addr):Value.ref e ≠ byPass:=by intro q; cases q
theorem Jn {e T:Addr} {oe oT:Obj} (hC:A5 X.K C=true) (hD:A5 X.K Dn=true) (c:Cgt C dx e oe T oT) (I:Inv X ((e,oe) :: (T,oT) :: aa) σ H s) {Q:Bool->Shared->Prop}
  (h:Q ((Dg X.K C).contains (.ref Dn)) s):wpAny (model X.prog X.w) A (excMatches (.ref e) (.ref Dn)) Q E s:=by
 obtain ⟨nm,qn,N,bs,bm,bx,sn,sub,ab,col,dd,k0,k1,k2,k3,k5,oC,T1,e1⟩:=Lb I.kIn hC;obtain ⟨nm',qn',N',bs',bm',hdct',sn',sub',ab',col',dd',l0,l1,l2,l3,l5,oD,T2,e2⟩:=Lb I.kIn hD;have he:=(I.pin (e,oe) (by simp)).1;rw [e1] at h;obtain ⟨hp,g,d,tk,os⟩:=s;exact KY oC oD he c.cls T2.base h
theorem CJ (hC:A5 X.K C=true) (hD:A5 X.K Dn=true) (hg:Gl X x) (hm:X.mg x=some (.ref Dn)) (hs':(Dg X.K C).contains (.ref Dn)=false) (hr:PH X C dx hs t) (hdb:(x == ("__debug__" : Str))=false:=by decide) :
  PH X C dx (.ExceptHandler (some (.Name x np)) name body pos :: hs) t:=by
 intro aa s σ H D e oe T oT c I h;refine wpAny_handleBy_cons (codeAny_handlers_test ?_) (Jm e);refine CG (X:=Bc X e oe T oT) I.mark hg hm ?_ hdb;refine Jn hC hD c I ?_;rw [hs'];exact hr aa s σ H D e oe T oT c I h
def OA (i:Nat) (tb:TS):Addr->TS:=fun e D σ H=>tb { nx:=fun _ _=>False,rt:=D.rt } (σ.set i (some (.ref e))) H
theorem OB {n:Str} {b₀:Stmt} {i:Nat} {tb:Addr->TS} (hN:X.N.Nodup) (hi:X.N[i]?=some n) (hl:X.env.scope.names.lookup n=some .local) (hC:A5 X.K C=true) (hD:A5 X.K Dn=true) (hg:Gl X x) (hm:X.mg x=some (.ref Dn)) (hs':(Dg X.K C).contains (.ref Dn)=true)
  (hb:∀ e oe T oT,Cgt C dx e oe T oT->PSs (Bc X e oe T oT) (b₀ :: body) (tb e)) (hdb:(x == ("__debug__" : Str))=false:=by decide) :
  PH X C dx (.ExceptHandler (some (.Name x np)) (some n) (b₀ :: body) pos :: hs) (fun e=>OA i (tb e) e):=by
 intro aa s σ H D e oe T oT c I h;refine wpAny_handleBy_cons (codeAny_handlers_test ?_) (Jm e);refine CG (X:=Bc X e oe T oT) I.mark hg hm ?_ hdb;refine Jn hC hD c I ?_;rw [hs'];refine codeAny_handlers_suite_as ?_;obtain ⟨vs,hd,h1,h2⟩:=c.fld;obtain ⟨ts,hdT,h3⟩:=c.tb;have he:=(I.pin (e,oe) (by simp)).1;have hT:=(I.pin (T,oT) (by simp)).1;refine wpAny_setFlight_none he hd h1 hT hdT (Array.getElem?_eq_some_iff.mp h3).1 ?_
 have I1:Inv X ((e,oe) :: (T,oT) :: aa) σ H { s with heap:=s.heap.update T (Obj.mapFields (·.setIfInBounds 3 .none)) }:=I.kept (t':=s.toks) fun b u q=>by
  by_cases z:b=T
  ·subst z;have e1:=get?_update_self (Obj.mapFields (·.setIfInBounds 3 Value.none)) hT (Obj.isFreed_of_fields (Obj.data_mapFields hdT _));rw [En hdT] at e1
   have e2:ts.setIfInBounds 3 Value.none=ts:=by
    obtain ⟨l1,l2⟩:=Array.getElem?_eq_some_iff.mp h3;rw [Array.setIfInBounds,dif_pos l1]
    conv=>lhs; rw [← l2]
    exact Array.set_getElem_self l1
   rw [e2,← hdT] at e1;rw [show s.heap.get? b=some oT from hT] at q;cases q;exact e1
  ·exact (get?_update_other _ _ (Ne.symm z)).trans q
 refine By (X:=Bc X e oe T oT) (v:=.ref e) I1.mark hN hi (.inl hl) rfl (fun s2 I2=>?_) (.inr hl);refine wpAny_mono (hb e oe T oT c aa s2 _ H _ I2 h) (fun fl s3 z=>?_) fun _ _ z=>z.elim;cases fl with
 | ret u =>
  obtain ⟨v,σ',H',J,rv,q⟩:=z;have J':=J.unmark I.ok;obtain ⟨m,hn,_⟩:=id J'.loc;have cb:(X.env.scope.kind == .class || (X.env.scope.kind == .module && X.env.locals != X.env.globals))=false:=by rw [I.ok.kind]; rfl
  exact wpAny_nameGoes hl hn cb fun h' m' hn' hs'=>⟨v,_,H',(J'.nameless hn' hs').less (q:=[(e,oe),(T,oT)]),rv,q⟩
 | next =>
  obtain ⟨_,_,_,q⟩:=z;exact q.elim
 | brk =>
  obtain ⟨_,_,_,q⟩:=z;exact q.elim
 | cont =>
  obtain ⟨_,_,_,q⟩:=z;exact q.elim
end
noncomputable def Fe (X:Cx) (P0:LO) (xe:VS):Cx:={ X with pn:=X.pn++P0,xe:=xe }
section
variable {P0:LO} {xe:VS}
theorem Cx.Ok.tr (ok:X.Ok):(Fe X P0 xe).Ok:=⟨ok.mod,ok.kind,ok.glob,ok.blt,ok.above,ok.inj,ok.has,ok.cab,ok.hd,ok.frames,ok.stk,ok.exf,ok.bs,ok.bsz,ok.noex,ok.exfs,ok.funs,ok.frf⟩
theorem Cx.Ok.untr (ok:(Fe X P0 xe).Ok):X.Ok:=⟨ok.mod,ok.kind,ok.glob,ok.blt,ok.above,ok.inj,ok.has,ok.cab,ok.hd,ok.frames,ok.stk,ok.exf,ok.bs,ok.bsz,ok.noex,ok.exfs,ok.funs,ok.frf⟩
theorem Inv.tr (I:Inv X P0 σ H s):Inv (Fe X P0 xe) [] σ H s:=⟨I.ok.tr,I.os,I.bare,I.base,I.loc,I.cell,I.free,I.freeC,fun p hp=>I.pin p (by simpa [Fe] using hp),I.hok,I.len⟩
theorem Inv.untr (I:Inv (Fe X P0 xe) aa σ H s):Inv X P0 σ H s:=⟨I.ok.untr,I.os,I.bare,I.base,I.loc,I.cell,I.free,I.freeC,fun p hp=>I.pin p (by
 rcases mem_append.mp hp with z | z
 ·exact mem_append_left _ (mem_append_left _ z)
 ·exact mem_append_left _ (mem_append_right _ z)),I.hok,I.len⟩
end
def Sx (n:Nat) (th:Addr->Option Addr->Addr->TS) (D:Df):XK:=fun Cv dx H2=>∃ C,Cv=.ref C/\∀ e,H2 e=some (Fd e C dx)->th C dx e D (List.replicate n none) (del H2 e)
def WR (n:Nat) (tb:XK->TS) (th:Addr->Option Addr->Addr->TS):TS:=fun D σ H=>tb (Sx n th D) { D with nx:=D.nx } σ H
section
variable {body:List Stmt} {h₀:ExceptHandler} {hs:List ExceptHandler} {tb:XK->TS} {th:Addr->Option Addr->Addr->TS} {Cs:Addr->Prop}
theorem Ub (O:M0 X) (hb:∀ P0 xe E,Bn (CXr X.prog X.w) (Fe X P0 xe) E->PSs (Fe X P0 xe) body (tb E)) (hh:∀ C dx,PH X C dx (h₀ :: hs) (th C dx)) :
  PS X (.Try body (h₀ :: hs) [] [] pos) (WR X.N.length tb th):=by
 intro aa s σ H D I h;refine wpAny_Try_except ?_
 let E:XK:=Sx X.N.length th D
 let xe:Value->Shared->Prop:=fun ev s2=>∃ σ1 H1 s1 ea C dx H2,ev=.ref ea/\Inv X aa σ1 H1 s1/\Fly X.prog X.w X.stack H1 s1 ea C dx H2 s2/\E (.ref C) dx H2
 have hp:Bn (CXr X.prog X.w) (Fe X aa xe) E:=by
  rintro pins' σ1 H1 s1 ev s2 I1 ⟨ea,C,dx,H2,rfl,F,q⟩;exact ⟨σ1,H1,s1,ea,C,dx,H2,rfl,I1.untr,F,q⟩
 have ok:=I.ok;refine wpAny_mono (hb aa xe E hp [] s σ H _ I.tr h) (fun fl s1 z=>?_) fun ev s2 z=>?_
 ·cases fl with
  | next =>
   obtain ⟨σ',H',J,q⟩:=z;exact wpAny_execs_nil ⟨σ',H',J.untr,q⟩
  | brk=>obtain ⟨σ',H',J,q⟩:=z; exact ⟨σ',H',J.untr,q⟩
  | cont=>obtain ⟨σ',H',J,q⟩:=z; exact ⟨σ',H',J.untr,q⟩
  | ret u=>obtain ⟨v,σ',H',J,r,q⟩:=z; exact ⟨v,σ',H',J.untr,r,q⟩
 ·obtain ⟨σ1,H1,s1,ea,C,dx,H2,rfl,I1,F,C',eC,q⟩:=z;cases eC;refine Ua O I1 F fun s3 oe T oT c I3=>?_
  have I4:Inv X ((ea,oe) :: (T,oT) :: aa) (List.replicate X.N.length none) (del H2 ea) s3:=I3.weak (by rw [List.length_replicate,I3.len]) fun i v z=>by
   rw [List.getElem?_replicate] at z;split at z <;> cases z
  exact hh C dx aa s3 _ _ D ea oe T oT c I4 (q ea F.1.at_)
end
structure Ep (K:FG) (C:Addr):Prop where
 ga:W.findIn K (.ref C) "__getattribute__" = some (some (.builtin "BaseException.__getattribute__"))
 gr:W.findIn K (.ref C) "__getattr__" = some none
 mb:W.mroIn K C (.type "BaseException")=some true
section
variable {prog:Program} {x:Addr} {ox:Obj} {od:Option Obj} {name:Str} {g:Array GenState} {d:Drawn} {t:Nat} {os:OsState}
theorem O2 {M:Model} {nameV:Value} {Q:Unit->Shared->Prop} (p:Ep K C) (X:K.In h) (I:W.InstAt h x ox C od) (hq:Q () ⟨h,g,d,t,os⟩):wpAny M A (checkBuiltinCall "BaseException.__getattribute__" ⟨[.ref x,nameV],[]⟩) Q E ⟨h,g,d,t,os⟩:=by
 have hk:builtinKind "BaseException.__getattribute__" = some .slot:=by decide +kernel
 have hsplit:splitId "BaseException.__getattribute__" = some ("BaseException", "__getattribute__"):=by decide +kernel
 have ha:=F.args_bexc_ga (.ref x) nameV;have L0:=I.type (M:=M);have L1:=W.looks_mroIn (M:=M) X p.mb;simp only [checkBuiltinCall,hk,hsplit];refine wpAny_bind ?_
 ·unfold isInstance
  repeat (first | with_reducible refine L0.at ?_ | with_reducible refine L1.at ?_ | wp_step)
  exact hq
theorem O3 {v:Value} {tk:Tok} {Q:Fin->Shared->Prop} (X:K.In h) (I:W.InstAt h x ox C od) (hf:W.findObj K C od name=some (.value v)) (hq:Q (.done (.ret v)) ⟨h,g,d,t,os⟩) :
  wpAny (model prog w) A (Builtin.«object.__getattribute__» ⟨[.ref x,.str name tk],[]⟩) Q E ⟨h,g,d,t,os⟩:=by
 have L0:=I.type (M:=model prog w);have L1:=W.looks_find (M:=model prog w) X I hf
 repeat (any_goals (first | assumption | with_reducible refine L0.at ?_ | with_reducible refine L1.at ?_ | wp_step))
theorem O4 {tk:Tok} {Q:Fin->Shared->Prop} (X:K.In h) (I:W.InstAt h x ox C od) (hf:W.findObj K C od name=some (.bind (.builtin "getset_descriptor.__get__") (.builtin "object.__class__"))) (hm:W.mroIn K C (.type "object")=some true)
  (hq:Q (.done (.ret (.ref C))) ⟨h,g,d,t,os⟩) :
  wpAny (model prog w) A (Builtin.«object.__getattribute__» ⟨[.ref x,.str name tk],[]⟩) Q E ⟨h,g,d,t,os⟩:=by
 have L0:=I.type (M:=model prog w);have L1:=W.looks_find (M:=model prog w) X I hf
 repeat (any_goals (first | assumption | with_reducible refine L0.at ?_ | with_reducible refine L1.at ?_ | wp_step))
 exact W.class_get X I hm (wpAny_pure hq)
theorem Qk {tk:Tok} {v:Value} {R:Result->Shared->Prop} (p:Ep K C) (X:K.In h) (I:W.InstAt h x ox C od)
  (hb:∀ (A':Around) (E':VS) (Q:Fin->Shared->Prop),Q (.done (.ret v)) ⟨h,g,d,t,os⟩->wpAny (model prog w) A' (Builtin.«object.__getattribute__» ⟨[.ref x,.str name tk],[]⟩) Q E' ⟨h,g,d,t,os⟩) (hq:R (.ok (.ret v)) ⟨h,g,d,t,os⟩) :
  codeAny (model prog w) A (.call (.builtin "BaseException.__getattribute__") ⟨[.ref x,.str name tk],[]⟩) R ⟨h,g,d,t,os⟩ :=
 codeAny_call_builtin F.excAttr_ValueError.ga.plain F.entry_bexc_ga (O2 p X I (hb _ _ _ hq))
theorem Ql {tk:Tok} {v:Value} {fill expr:Bool} {Q:VS} (p:Ep K C) (X:K.In h) (I:W.InstAt h x ox C od) (hh:W.handedIn v=true)
  (hb:∀ (A':Around) (E':VS) (Q:Fin->Shared->Prop),Q (.done (.ret v)) ⟨h,g,d,t,os⟩->wpAny (model prog w) A' (Builtin.«object.__getattribute__» ⟨[.ref x,.str name tk],[]⟩) Q E' ⟨h,g,d,t,os⟩) (hq:Q v ⟨h,g,d,t,os⟩) :
  wpAny (model prog w) A (getAttrBy (.ref x) (.str name tk) fill expr) Q E ⟨h,g,d,t,os⟩:=by
 have L0:=I.type (M:=model prog w);have L1:=W.looks_findIn (M:=model prog w) X p.ga;have L2:=W.looks_findIn (M:=model prog w) X p.gr;have f3:=F.excAttr_ValueError.ga.bind (.ref x);have hx0:(expr && onTheHeap (Value.builtin "BaseException.__getattribute__"))=false:=by cases expr <;> rfl
 have hx2:(Value.builtin "BaseException.__getattribute__" == Value.builtin "object.__getattribute__")=false:=by decide +kernel
 have hx1:(onTheHeap (Value.ref C) && Value.builtin "BaseException.__getattribute__" == Value.builtin "object.__getattribute__")=false:=by rw [hx2]; rfl
 have ho:=W.handedOut_of hh
 repeat (any_goals (first | assumption | with_reducible refine L0.at ?_ | with_reducible refine L1.at ?_ | with_reducible refine L2.at ?_ | wp_step))
 refine Qk p X I hb ?_
 repeat (any_goals (first | assumption | (rw [ho]; exact wpAny_pure hq) | wp_step))
theorem Qm {v:Value} {expr:Bool} {Q:VS} (p:Ep K C) (X:K.In h) (I:W.InstAt h x ox C od) (hf:W.findObj K C od name=some (.value v)) (hh:W.handedIn v=true) (hq:Q v ⟨h,g,d,t + 1,os⟩) :
  wpAny (model prog w) A (getAttr (.ref x) name expr) Q E ⟨h,g,d,t,os⟩:=by
 unfold getAttr;refine wpAny_bind (wpAny_mkText ?_);exact Ql p X I hh (fun A' E' Q' z=>O3 X I hf z) hq
theorem Lc {Q:Option Value->Shared->Prop} (p:Ep K C) (X:K.In h) (I:W.InstAt h x ox C od) (hf:W.findObj K C od "__class__" = some (.bind (.builtin "getset_descriptor.__get__") (.builtin "object.__class__"))) (hm:W.mroIn K C (.type "object")=some true)
  (hq:Q (some (.ref C)) ⟨h,g,d,t + 1,os⟩):wpAny (model prog w) A (getAttr? (.ref x) "__class__") Q E ⟨h,g,d,t,os⟩:=by
 unfold getAttr? getAttrBy?;refine wpAny_bind (wpAny_mkText (wpAny_bind (wpAny_attempt ?_)));exact Ql (v:=.ref C) p X I rfl (fun A' E' Q' z=>O4 X I hf hm z) (wpAny_pure hq)
end
theorem JK {name:Str} {od:Option Obj} {a g:Value} (hc:(W.clsIn K C).isSome=true) (ha:W.findIn K (.ref C) name=some (some a)) (hg:W.specialIn K a "__get__" = some (some g)) (ht:W.takesIn K a=some true):W.findObj K C od name=some (.bind g a):=by
 obtain ⟨cd,hc⟩:=Option.isSome_iff_exists.mp hc;unfold W.findObj;rw [hc,Option.bind_some,ha,Option.bind_some];simp [hg,ht]
structure Sy (K:FG) (C:Addr):Prop where
 hg:Ep K C
 hc:(W.clsIn K C).isSome=true
 ha:W.findIn K (.ref C) "__class__" = some (some (.builtin "object.__class__"))
 hn:W.specialIn K (.builtin "object.__class__") "__get__" = some (some (.builtin "getset_descriptor.__get__"))
 htk:W.takesIn K (.builtin "object.__class__")=some true
 hm:W.mroIn K C (.type "object")=some true
theorem Qn {x D:Addr} {ox:Obj} {od:Option Obj} (k:Sy K D):W.KitX K (.ref x) (.ref D) (fun h=>W.InstAt h x ox D od) where
 ty:=fun _ _ _ I=>I.type
 it:=fun _ _ X _=>by
  have hcD:=k.hc;unfold W.clsIn at hcD;split at hcD
  ·rename_i c' d' cd' sl' ho;intro A' Q' E' s' k q;unfold isType loadHead;exact wpAny_bind (wpAny_loadPart (k _ _ (X _ _ ho)) (wpAny_pure q))
  ·cases hcD
 ne:=fun h tp dd its n sl X htp=>by
  have hcD:=k.hc;refine Bool.eq_false_iff.mpr fun q=>?_;have e:D=tp:=Value.ref.inj (beq_iff_eq.mp q);subst e;unfold W.clsIn at hcD;split at hcD
  ·rename_i c' d' cd' sl' ho;have z:=(X _ _ ho).symm.trans htp;cases z
  ·cases hcD
 ca:=fun {prog w A E Q s} X I h=>by
  obtain ⟨hh,g,d,t,os⟩:=s;exact Lc k.hg X I (JK k.hc k.ha k.hn k.htk) k.hm h
structure ExcP (X:Cx) (e:Addr) (oe:Obj) (C:Addr):Prop where
 at_:(e,oe) ∈ X.pn
 cls:oe.cls=.ref C
 fld:∃ vs,oe.data=.fields vs
section
variable {e:Addr} {oe:Obj}
theorem ExcP.inst (p:ExcP X e oe C) (I:Inv X aa σ H s) (hd:oe.dict=none\/∃ d u,oe.dict=some d/\H d=some u):∃ od,W.InstAt s.heap e oe C od:=by
 have he:=(I.pin (e,oe) (mem_append_left _ p.at_)).1;obtain ⟨vs,hv⟩:=p.fld;have no:W.notCls oe=true:=by unfold W.notCls; rw [hv]
 rcases hd with z | ⟨d,u,z,hu⟩
 ·exact ⟨none,he,p.cls,no,by rw [z]; trivial⟩
 ·have hlt:=(I.hok d u hu).lt
  have:∃ o,s.heap.get? d=some o:=by
   have q:=(I.hok d u hu);cases u with
   | lst xs=>obtain ⟨_,_,_,_,e⟩:=q; exact ⟨_,e⟩
   | tup xs=>obtain ⟨_,_,_,o,e,_⟩:=q; exact ⟨o,e⟩
   | dK kvs=>obtain ⟨_,_,_,_,o,_,_,e,_⟩:=q; exact ⟨o,e⟩
   | dT kvs=>obtain ⟨_,_,_,_,o,_,_,e,_⟩:=q; exact ⟨o,e⟩
   | set S n=>obtain ⟨o,_,_,_,e,_⟩:=q; exact ⟨o,e⟩
   | ins C dx fs=>obtain ⟨_,_,_,e,_⟩:=q; exact ⟨_,e⟩
   | own y=>exact q
   | xd fs=>obtain ⟨_,⟨o,_,_,e,_⟩,_⟩:=q; exact ⟨o,e⟩
   | rng lo hi=>obtain ⟨_,_,_,e⟩:=q; exact ⟨_,e⟩
   | frz ob u=>exact ⟨_,q.1⟩
   | tbl ps=>exact ⟨_,(show s.heap.get? d=some _ from q)⟩
   | met f y=>exact ⟨_,(show s.heap.get? d=some _ from q)⟩
   | ext φ=>exact q.2.1
  obtain ⟨o,ho⟩:=this;exact ⟨some o,he,p.cls,no,by rw [z]; exact ho⟩
theorem Jo (p:ExcP X e oe C) (k:Sy X.K C):Bk X (.builtin "isinstance") (fun xs H Q=>∃ v c b,xs=[.ref e,v]/\((∃ D,v=.ref D/\c=.ref D)\/∃ T,v=.ty T/\c=.type T)/\(oe.dict=none\/∃ d u,oe.dict=some d/\H d=some u)/\W.kitOne X.K (.ref C) c=some b/\Q (.bl b) H):=by
 intro aa s σ H xs us Q I r h;obtain ⟨v,c,b,rfl,hv,hd,hk,q⟩:=h;obtain ⟨u,uT,rfl,ru,ruT⟩:=FO r;cases (show u=Value.ref e from ru);obtain ⟨od,J⟩:=p.inst I hd
 have hc:uT=c:=by
  rcases hv with ⟨D,rfl,rfl⟩ | ⟨T,rfl,rfl⟩
  ·exact ruT
  ·exact ruT
 subst hc;exact W.kia_one (Qn k) I.kIn J hk (fun z=>nomatch z) fun tk=>⟨.bl b,H,I.tok tk,rfl,q⟩
end
section
variable {k:Nat} {e:Addr} {oe:Obj} {fd:FuncData} {ps:List Str} {sp:SpS} {p:Pos} {a:Expr} {es:List Expr} {t:TA}
def KZ (sp:SpS) (e:Addr) (oe:Obj) (t:TA):TE:=fun σ H Q=>t σ H fun vs H1=>sp e oe vs H1 Q
theorem Ld (F:N9 X.prog X.w X.K X.mg X.base k f fd ps sp) (hr:RoomS k X.A) (hh:X.A.handled=some (.ref e)) (at_:(e,oe) ∈ X.pn) (hg:Gl X x) (hm:X.mg x=some (.ref f)) (hk:W.keepIn X.K (.ref f)=true) (hb:Binds X.K fd ps [])
  (ha:PA X (a :: es) t) (hdb:(x == ("__debug__" : Str))=false:=by decide) (he:starEach (a :: es) X.env=(false,eval a X.env) :: starEach es X.env:=by rfl) (hpl:(backTo pos (starEach es X.env)).any (·.1)=false:=by rfl) :
  PE X (.Call (.Name x p) (a :: es) [] pos) (KZ sp e oe t):=by
 intro aa s σ H Q I h;refine wpAny_Call_Name_kw (CG I hg hm ?_ hdb);refine W.callWith_K (h₀:=X.base) I.ok.mod.kin hk (thn (ha pos aa s σ H _ I h) fun us s1 ⟨vs,H1,I1,r,q⟩=>⟨I1.kIn,?_⟩) he hpl;obtain ⟨e1,e2,e3,e4,e5⟩:=I1.pin (e,oe) (mem_append_left _ at_);have hl:(us++[]).length=ps.length:=by rw [append_nil,← r.length]; exact F.len _ _ _ _ _ q
 have bb:=hb s1 us I1.kIn hl;rw [append_nil] at bb;refine wpAny_call (codeAny_mono (F.run X.A X.stack s1 H1 ⟨us,[]⟩ us vs Q e oe hr I1.env0 hh e1 e2 (fun z=>(mem_cons.mp (I1.stkSub e z)).elim e3 e4) e5 bb r q) fun r s' hq=>?_);cases r with
 | error e=>exact False.elim hq
 | ok fl =>
  cases fl with
  | ret u=>exact I1.after hq
  | next=>exact False.elim hq
  | brk=>exact False.elim hq
  | cont=>exact False.elim hq
end
theorem Qo (a b:Bool):MeetsSeq.EqGives (.bool a) (.bool b) (a == b):=fun prog w A E s Q h=>SeqAt.EqAt.bool_bool a b prog w E Q h
theorem Jp:∀ {bs:List Bool} {us:List Value},Vals (bs.map V.bl) us->us=bs.map Value.bool
 | [],_,.nil=>rfl
 | _ :: _,_,.cons r t=>by rw [map_cons,← Jp t]; cases r; rfl
def Sz:V->List V->Hp->VK->Prop:=fun x vs H Q=>∃ (l:Addr) (bs:List Bool) (j:Nat),x=.ref l/\vs=[.bl true]/\H l=some (.lst (bs.map V.bl))/\bs[j]?=some true/\(∀ m,m < j->bs[m]?=some false)/\Q (.int (j:Nat)) H
section
theorem O5:MtM X "list.index" Sz:=by
 intro aa s σ H x vs v us Q I rx rv h;obtain ⟨l,bs,j,rfl,rfl,hH,hj,hno,q⟩:=h;cases rx;obtain ⟨u,rfl,ru⟩:=rv.one;obtain rfl:u=Value.bool true:=ru;obtain ⟨z,its,n,r,hl,e⟩:=I.lstM hH;have ei:=Jp r;subst ei;have hjs:j < bs.length:=(List.getElem?_eq_some_iff.mp hj).1
 have hz:(j:Int) < 2 ^ 63 - 1:=by
  have hs:sizeLine < 2 ^ 62:=by decide
  rw [AF] at z;omega
 refine call_meets F.slot_list_index ⟨_,e,rfl⟩ F.entry_list_index (F.args_list_index_2 _ _)
  (MeetsSeq.list_index l (bs.map Value.bool).toArray n (.bool true) (fun y=>match y with | .bool a=>a == true | _=>false) (fun y hy=>?_) j (by simpa using hjs) hz ?_ fun m hm hlt=>?_) ⟨e,?_⟩
 ·obtain ⟨a,_,rfl⟩:=mem_map.mp (List.mem_toArray.mp hy);exact Qo a true
 ·have:=(List.getElem?_eq_some_iff.mp hj).2;simp [this]
 ·have:=(List.getElem?_eq_some_iff.mp (hno m hlt)).2;simp [this]
 ·exact ⟨.int (j:Nat),H,I.tok _,⟨_,rfl⟩,q⟩
end
noncomputable def FnO (f:Addr) (o:Obj):HO:=.ext fun h=>h.get? f=some o
noncomputable def Ff (c:Addr) (qual:Str):HO:=.ext fun h=>h.CodeRec (.ref c) qual
noncomputable def Ei (P:Program) (w:World) (K:FG) (mg:SV) (base:Heap) (N:List Str) (qual:Str) (scope:Scope) (f:Addr) (cd:Value) (cl:List (Str × Addr)) (A:Around) (outer:List Env) (s:Shared) (H:Hp) (E:XK):Cx where
 prog:=P
 w:=w
 K:=K
 mg:=mg
 base:=base
 A:=A.deeper (W.envX qual scope s.heap.objs.size f cd cl)
 N:=N
 s₀:=s
 H₀:=H
 env:=W.envX qual scope s.heap.objs.size f cd cl
 outer:=outer
 stack:=W.envX qual scope s.heap.objs.size f cd cl :: outer
 ex:=[]
 calm:=true
 fn:=fun _=>false
 pn:=[]
 xe:=fun e s'=>wpAny (model P w) (A.deeper (W.envX qual scope s.heap.objs.size f cd cl)) (leaving (W.envX qual scope s.heap.objs.size f cd cl) e) (fun _ s''=>CXr P w outer H s E e s'') (fun e' s''=>CXr P w outer H s E e' s'') s'
structure IB (N:List Str) (scope:Scope) (cl:List (Str × Addr)) (σ:St) (H:Hp) (h:Heap):Prop where
 inj:∀ x y c,cl.lookup x=some c->cl.lookup y=some c->x=y
 has:∀ x,(scope.names.lookup x=some .cell\/scope.names.lookup x=some .free)->∃ c,cl.lookup x=some c
 cell:∀ x c,cl.lookup x=some c->(∃ v,h.IsCell c v)/\H c=none
 val:∀ (i:Nat) x v,N[i]?=some x->σ[i]?=some (some v)->scope.names.lookup x=some .free/\∃ u c,RelV v u/\cl.lookup x=some c/\h.IsCell c (some u)
 len:σ.length=N.length
section
variable {qual name:Str} {scope:Scope} {c':Addr} {cd:Value} {cl:List (Str × Addr)} {outer:List Env} {E:XK}
theorem WS:M0 (Ei P w K mg base N qual scope f cd cl A outer s H E):=⟨rfl,rfl,rfl⟩
theorem Qp:Bn (CXr P w) (Ei P w K mg base N qual scope f cd cl A outer s H E) E:=by
 rintro aa σ H1 s1 e s2 I ⟨ea,C,dx,H2,rfl,F,q⟩;exact wpAny_mono (Hz (X:=Ei P w K mg base N qual scope f cd cl A outer s H E) WS I F) (fun _ s3 G=>⟨ea,C,dx,H2,rfl,G,q⟩) fun _ _ z=>z
theorem NC {h1:Heap} {m0:SV} {tk:Nat} (hk0:scope.kind=.function) (hd:A.handled=none) (e0:Env0 P w K mg base A outer s H) (C:IB N scope cl σ H s.heap) (hns:h1.Ns s.heap.objs.size m0) (hk:∀ b o,s.heap.get? b=some o->h1.get? b=some o) :
  Inv (Ei P w K mg base N qual scope f cd cl A outer s H E) [] σ H { s with heap:=h1,toks:=tk }:=by
 have noA:∀ b:Addr,b ∉ (Ei P w K mg base N qual scope f cd cl A outer s H E).ex:=fun b z=>absurd (show b ∈ ([]:List Addr) from z) (by simp);have cellK:∀ {c:Addr} {v:Option Value},s.heap.IsCell c v->h1.IsCell c v:=fun {c v} ⟨o,ho,hd⟩=>⟨o,hk _ _ ho,hd⟩
 refine ⟨⟨e0.mod,hk0,rfl,rfl,Nat.le_refl _,C.inj,C.has,fun y c z _=>(by cases (show false=true from z)),fun _=>hd,Around.frames_deeper e0.frames,.inr ⟨rfl,rfl⟩,fun b z=>absurd z (noA b),e0.bs,e0.bsz,fun b _ _=>noA b,fun b z=>absurd z (noA b),e0.funs,e0.frf⟩,
  rfl,e0.bare,Un.kept hk,⟨m0,hns,fun i x v h1 h2 h3=>?_⟩,fun y c h=>?_,e0.hok.fresh (Nat.le_refl _),fun y c h=>(C.cell y c h).2,fun p hp=>absurd (show p ∈ ([]:LO) from hp) (by simp),e0.hok.kept hk,C.len⟩
 ·obtain ⟨k,u,c,r,e,z⟩:=C.val i x v h1 h2;exact ⟨u,r,.inr ⟨.inr k,c,e,cellK z⟩⟩
 ·obtain ⟨⟨v,z⟩,_⟩:=C.cell y c h;exact ⟨v,cellK z⟩
theorem Qq {k:Nat} {params:Arguments} {body:Expr} {pm ctv:Value} {Q:VK} {tb:TE} (hr:Room k A) (e0:Env0 P w K mg base A outer s H) (C:IB N scope cl σ H s.heap)
  (ho:s.heap.get? f=some (W.kla_obj name qual params body scope cl pm c' ctv)) (hcd:s.heap.CodeRec (.ref c') qual) (ce:bindArgs (W.kla_fn name qual params body scope cl pm (.ref c') ctv) ⟨[],[]⟩=pure [])
  (hco:scope.isCoroutine=false) (cm:scope.isGenerator=false) (hk:scope.kind=.function) (b9:∀ x ∈ scope.names,x.2 ≠ .cell)
  (hb:PE (Ei P w K mg base N qual scope f (.ref c') cl A outer s H E) body tb) (h:tb σ H Q):codeAny (model P w) A (.call (.ref f) ⟨[],[]⟩) (CR (CXr P w) outer P w H s Q E) s:=by
 have lim:s.heap.NoLimit:=e0.mod.nolimit.keeps fun b o e=>(e0.bs b o e).1;refine W.kla_callFunE hr.depth ho rfl hco cm rfl hcd ?_;rw [ce];refine wpAny_pure (wpAny_newFunctionEnv b9 (fun y hy=>nomatch hy) (fun h₁ hns hsb=>⟨lim.fresh _ hsb,?_⟩) hk);show codeAny _ _ (.expr body (W.envX qual scope s.heap.objs.size f (.ref c') cl)) _ _;have hk₁:∀ b o,s.heap.get? b=some o->h₁.get? b=some o:=fun b o e=>hsb.extBut b o (Nat.ne_of_lt (lt_size e)) (get?_push_of_some _ e);have I:Inv (Ei P w K mg base N qual scope f (.ref c') cl A outer s H E) [] σ H _:=NC (tk:=s.toks + ([]:List (Str × Value)).length) hk hr.hd e0 C hns hk₁;exact W.kla_codeExpr (wpAny_mono (hb [] _ σ H Q I h) (fun v s' ⟨x,H',J,rv,q⟩=>⟨x,H',J.os,J.bare,J.base,J.hok,rv,q⟩) fun e s' z=>z)
end
section
theorem Inv.cells {scope:Scope} {cl:List (Str × Addr)} {σl:St} (I:Inv X aa σ H s) (C:IB N scope cl σl X.H₀ X.s₀.heap) (hfs:∀ x c,cl.lookup x=some c->c ∉ X.fs) (hex:X.ex=[]):IB N scope cl σl H s.heap:=by
 have kp:∀ x c v,cl.lookup x=some c->X.s₀.heap.IsCell c v->s.heap.IsCell c v:=fun x c v e ⟨o,ho,hd⟩=>⟨o,I.base.keep c o ho (C.cell x c e).2 (hfs x c e) (by rw [hex]; simp),hd⟩;refine ⟨C.inj,C.has,fun x c e=>?_,fun i x v h1 h2=>?_,C.len⟩
 ·obtain ⟨⟨v,z⟩,n⟩:=C.cell x c e;obtain ⟨o,ho,_⟩:=id z;exact ⟨⟨v,kp x c v e z⟩,I.base.free c o ho n (by rw [hex]; simp)⟩
 ·obtain ⟨k,u,c,r,e,z⟩:=C.val i x v h1 h2;exact ⟨k,u,c,r,e,kp x c _ e z⟩
def Le (i:Nat) (f c':Addr) (qual:Str) (o:Obj) (σl:St) (tb:TE):TE:=fun σ H Q=>σ[i]?=some (some (.ref f))/\H f=some (FnO f o)/\H c'=some (Ff c' qual)/\tb σl H Q
theorem ND {i k:Nat} {name qual:Str} {p:Pos} {Nl:List Str} {scope:Scope} {cl:List (Str × Addr)} {σl:St} {c':Addr} {params:Arguments} {body:Expr} {pm ctv:Value} {tb:TE} {E:XK}
  (hN:X.N[i]?=some x) (hv:Vis X.env.scope x) (hr:Room k X.A) (C:IB Nl scope cl σl X.H₀ X.s₀.heap) (hfs:∀ x c,cl.lookup x=some c->c ∉ X.fs) (hex:X.ex=[]) (hx:Bn (CXr X.prog X.w) X E)
  (ce:bindArgs (W.kla_fn name qual params body scope cl pm (.ref c') ctv) ⟨[],[]⟩=pure [])
  (hco:scope.isCoroutine=false) (cm:scope.isGenerator=false) (hk:scope.kind=.function) (b9:∀ x ∈ scope.names,x.2 ≠ .cell)
  (hb:∀ s H,PE (Ei X.prog X.w X.K X.mg X.base Nl qual scope f (.ref c') cl X.A X.stack s H E) body tb) (hd:(x == ("__debug__" : Str))=false:=by decide) (hcd:(x == ("__classdict__" : Str))=false:=by decide) :
  PE X (.Call (.Name x p) [] [] pos) (Le i f c' qual (W.kla_obj name qual params body scope cl pm c' ctv) σl tb):=by
 intro aa s σ H Q I h;obtain ⟨h1,h2,h3,h4⟩:=h;refine wpAny_Call_Name_kw (thn (P5 hN hv hd hcd aa s σ H (fun v H'=>v=.ref f/\H'=H) I ⟨_,h1,rfl,rfl⟩) fun u s1 ⟨v,H1,I1,r,ev,eH⟩=>?_);subst ev eH;obtain rfl:u=Value.ref f:=r;obtain ⟨ho,_,_⟩:=I1.hok _ _ h2;obtain ⟨hc,_,_⟩:=I1.hok _ _ h3;refine callWith_meth0 rfl ho (wpAny_call (codeAny_mono (Qq hr I1.env0 (I1.cells C hfs hex) ho hc ce hco cm hk b9 (hb s1 H1) h4) fun r s' hq=>?_));cases r with
 | error e=>exact hx aa σ H1 s1 e s' I1 hq
 | ok fl =>
  cases fl with
  | ret u=>exact I1.after hq
  | next=>exact False.elim hq
  | brk=>exact False.elim hq
  | cont=>exact False.elim hq
end
section
variable {CX:CXT}
theorem Fun.at {qual:Str} {st:Stmt} {fd:FuncData} {ps:List Str} {k:Nat} {outer:List Env} {args:Args} {vs:List V} {Q:VK} {E:XK} (F:Fun K x qual st f fd) (S:AM N ps (defScope st)) (hl:vs.length=ps.length)
  (hr:Room (k + 1) A) (e0:Env0 P w K mg base A outer s H) (hb:BindsTo s fd args (ps.zip us)) (r:Vals vs us)
  (b8:∀ af,Room k (A.deeper (envOfC qual (defScope st) s.heap.objs.size f af))->∃ t,PSs (BA CX P w K mg base N qual (defScope st) f af A outer s H E) (defBody st) t/\t { nx:=fun _ H'=>Q .non H',rt:=Q } (Bu N vs) H) :
  codeAny (model P w) A (.call (.ref f) args) (CR CX outer P w H s Q E) s:=by
 obtain ⟨oc,od,kV,doc,pm,an,af,ct,osl,rfl,lk,hcd⟩:=F.ex;have KX:K.In s.heap:=e0.mod.kin.keeps fun b o z=>(e0.bs b o z).1;have lim:s.heap.NoLimit:=e0.mod.nolimit.keeps fun b o z=>(e0.bs b o z).1
 have hk:∀ y ∈ ps.zip us,(defScope st).names.lookup y.1=some .local\/((defScope st).names.lookup y.1=some .cell/\((cellsFrom (s.heap.objs.size + 1) (defScope st).names []).lookup y.1).isSome=true):=fun ⟨n,v⟩ hy=>by
  rcases S.par n (of_mem_zip hy).1 with q | q
  ·exact .inl q
  ·exact .inr ⟨q,W.cellsFrom_some _ _ _ (.inl q)⟩
 refine codeAny_call_function hr.depth (KX _ _ lk) rfl S.co S.gen rfl (W.codeRec_of KX hcd) (hb _ _ _ _ (wpAny_newFunctionEnv_cells S.kind hk fun env ee s1 x=>?_));subst ee;refine ⟨lim.keeps x.toInCall.keep,codeAny_func ?_⟩;obtain ⟨t,ht,hq⟩:=b8 af (hr.deeper _);have I:Inv (BA CX P w K mg base N qual (defScope st) f af A outer s H E) [] (Bu N vs) H s1:=GA S hr.hd e0 hl r x;refine wpAny_mono (ht [] s1 (Bu N vs) H _ I hq) (fun fl s' z=>?_) fun _ _ z=>z;cases fl with
 | ret u =>
  obtain ⟨v,σ',H',J,rv,q⟩:=z;exact ⟨v,H',J.os,J.bare,J.base,J.hok,rv,q⟩
 | next =>
  obtain ⟨σ',H',J,q⟩:=z;exact ⟨.non,H',J.os,J.bare,J.base,J.hok,rfl,q⟩
 | brk =>
  obtain ⟨_,_,_,q⟩:=z;exact q.elim
 | cont =>
  obtain ⟨_,_,_,q⟩:=z;exact q.elim
end
theorem G0 {q:Pos} {c:Value} (bn:(q.line == pos.line && q.col == pos.col)=false) (l:List Value) (h:TriplesOk l):codeAmong q (l++[rawInt pos.line,rawInt pos.col,c])=codeAmong q l:=by
 fun_induction TriplesOk l with
 | case1 =>
  have:((pos.line:Int) == (q.line:Int) && (pos.col:Int) == (q.col:Int))=false:=by
   rw [Bool.and_eq_false_iff] at bn ⊢;rcases bn with z | z
   ·left; rw [beq_eq_false_iff_ne] at z ⊢; omega
   ·right; rw [beq_eq_false_iff_ne] at z ⊢; omega
  simp [codeAmong,rawInt,this]
 | case2 a t b u x rest ih =>
  simp only [cons_append,codeAmong];split
  ·rfl
  ·exact ih h
 | case3 l h1 h2=>exact h.elim
def TabOk (H:Hp) (P0:Addr) (qual:Str) (ls:List Pos):Prop:=∃ ps,H P0=some (.tbl ps)/\TriplesOk ps.toList/\∀ q ∈ ls,codeAmong q ps.toList=none\/∃ c',codeAmong q ps.toList=some (.ref c')/\H c'=some (Ff c' qual)
def Lf (P0:Addr) (H H':Hp):Prop:=∀ b u,b ≠ P0->H b=some u->H' b=some u
structure O6 (X:Cx) (c P0:Addr):Prop where
 code:X.env.code=.ref c
 hd:W.CodeHd X.base c P0
 bu:X.base.BuiltinsAt X.mg P0
section
variable {c P0:Addr} {ls:List Pos} {lpos:Pos}
def Vp (P0:Addr) (qual:Str) (ls:List Pos) (o:Addr->Value->Obj):TE:=fun σ H Q=>TabOk H P0 qual ls/\∀ f c' ctv H',H f=none->Lf P0 H H'->TabOk H' P0 qual ls->H' f=some (FnO f (o c' ctv))->H' c'=some (Ff c' qual)->Q (.ref f) H'
theorem S0 {c':Addr} {qual:Str} (r:h.CodeRec (.ref c') qual):ObjOk P w H h c' (Ff c' qual):=by
 obtain ⟨c1,oc,vs,t,e,ho,hd,hq⟩:=id r;cases e;exact ⟨r,⟨_,ho⟩,fun h1 h2 ⟨c2,o2,v2,t2,e2,a,b⟩ k=>by cases e2; exact ⟨_,o2,v2,t2,rfl,k _ a,b⟩⟩
theorem Ty {o:Obj} (r:h.get? f=some o):ObjOk P w H h f (FnO f o):=⟨r,⟨_,r⟩,fun h1 h2 a k=>k _ a⟩
theorem Uc {params:Arguments} {body:Expr} {scope:Scope} {clos:List (Str × Addr)} (L:O6 X c P0) (hm:lpos ∈ ls) (bn:∀ q ∈ ls,q=lpos\/(q.line == lpos.line && q.col == lpos.col)=false)
  (ak:closureFor scope X.env=pure clos) (d7:defaultsOf params X.env=([],[])) :
  PE X (.Lambda params body scope lpos) (Vp P0 (X.env.qual ++ "<lambda>") ls (fun c' ctv=>W.kla_obj "<lambda>" (X.env.qual ++ "<lambda>") params body scope clos ((X.mg "__name__").getD .none) c' ctv)):=by
 intro aa s σ H Q I h;obtain ⟨⟨ps,hP,ht,hls⟩,k⟩:=h;have bk:∀ b o,X.base.get? b=some o->s.heap.get? b=some o:=fun b o e=>(I.bs b o e).1;have hPg:s.heap.get? P0=some (W.tabObj ps):=I.hok _ _ hP;have hgs:s.heap.Ns mainGlobals X.mg:=I.ok.mod.glob.keeps bk
 have hgP:mainGlobals ≠ P0:=fun q=>by
  obtain ⟨o,es,ep,e,_⟩:=I.ok.mod.glob;have n:=(I.bs _ _ e).2;rw [q,hP] at n;cases n
 have C:=L.hd.keeps bk
 have B:s.heap.BuiltinsAt X.mg P0:=by
  obtain ⟨bm,o,a1,a2,a3,a4,a5,a6⟩:=L.bu;exact ⟨bm,o,a1,a2,a3,a4,bk _ _ a5,a6⟩
 refine W.kla_eval d7 ?_;rcases hls lpos hm with hn | ⟨c',hf,hc'⟩
 ·refine W.kla_makeFunction (mg:=X.mg) ak I.ok.glob hgs L.code C hPg ht hn hgP B fun c' ctv h' tk hx hge hlt hrec bi=>?_;have kp:∀ b o,b ≠ P0->s.heap.get? b=some o->(h'.push (W.kla_obj "<lambda>" (X.env.qual ++ "<lambda>") params body scope clos ((X.mg "__name__").getD .none) c' ctv)).get? b=some o:=fun b o n e=>get?_push_of_some _ (hx b o n e);have lt:∀ b u,H b=some u->b < s.heap.objs.size:=fun b u e=>I.hok.lt e;have hfs:s.heap.objs.size <= h'.objs.size:=Nat.le_trans hge (Nat.le_of_lt hlt);have hPl:P0 < s.heap.objs.size:=lt _ _ hP;have hcP:c' ≠ P0:=fun z=>by rw [z] at hge; exact absurd hPl (Nat.not_lt_of_le hge)
  have hfP:h'.objs.size ≠ P0:=fun z=>by rw [z] at hfs; exact absurd hPl (Nat.not_lt_of_le hfs)
  have hcf:c' ≠ h'.objs.size:=Nat.ne_of_lt hlt;generalize c8:upd (upd (upd H P0 (.tbl (ps++#[rawInt lpos.line,rawInt lpos.col,.ref c']))) c' (Ff c' (X.env.qual ++ "<lambda>"))) h'.objs.size (FnO h'.objs.size (W.kla_obj "<lambda>" (X.env.qual ++ "<lambda>") params body scope clos ((X.mg "__name__").getD .none) c' ctv))=H'
  have oth:∀ b,b < s.heap.objs.size->b ≠ P0->H' b=H b:=fun b hb n=>by
   rw [← c8,AH (Nat.ne_of_lt (Nat.lt_of_lt_of_le hb hfs)),AH (Nat.ne_of_lt (Nat.lt_of_lt_of_le hb hge)),AH n]
  have atP:H' P0=some (.tbl (ps++#[rawInt lpos.line,rawInt lpos.col,.ref c'])):=by rw [← c8,AH (Ne.symm hfP),AH (Ne.symm hcP),AB]
  have atc:H' c'=some (Ff c' (X.env.qual ++ "<lambda>")):=by rw [← c8,AH hcf,AB]
  have atf:H' h'.objs.size=some (FnO h'.objs.size (W.kla_obj "<lambda>" (X.env.qual ++ "<lambda>") params body scope clos ((X.mg "__name__").getD .none) c' ctv)):=by rw [← c8,AB]
  have ntbl:∀ b u,H b=some u->(∀ qs,u ≠ .tbl qs)->b ≠ P0:=fun b u e n z=>by subst z; rw [hP] at e; cases e; exact n _ rfl
  have un:Un X.fs [] H H' s.heap (h'.push (W.kla_obj "<lambda>" (X.env.qual ++ "<lambda>") params body scope clos ((X.mg "__name__").getD .none) c' ctv)):=by
   have nP:∀ b,H b=none->b ≠ P0:=fun b n z=>by subst z; rw [hP] at n; cases n
   refine ⟨fun b o q n _ _=>kp b o (nP b n) q,fun b o q n _ _=>⟨o.slots,kp b o (nP b n) q⟩,fun b o q n _=>by rw [oth b (lt_size q) (nP b n)]; exact n,fun b o q _=>?_,fun b xs e=>?_,fun b o u e=>?_,fun b qs e=>?_⟩
   ·by_cases z:b=P0
    ·subst z; exact ⟨_,get?_push_of_some _ bi⟩
    ·exact ⟨o,kp b o z q⟩
   ·rw [oth b (lt _ _ e) (ntbl b _ e fun _ y=>nomatch y)]; exact e
   ·rw [oth b (lt _ _ e) (ntbl b _ e fun _ y=>nomatch y)]; exact e
   ·by_cases z:b=P0
    ·subst z;rw [hP] at e;cases e;exact ⟨_,atP⟩
    ·exact ⟨#[],by rw [oth b (lt _ _ e) z,e]; simp⟩
  have hok:HOk X.prog X.w H' (h'.push (W.kla_obj "<lambda>" (X.env.qual ++ "<lambda>") params body scope clos ((X.mg "__name__").getD .none) c' ctv)):=fun b u e=>by
   by_cases z1:b=h'.objs.size
   ·subst z1;rw [atf] at e;cases e;exact Ty (get?_push_size _ rfl)
   by_cases z2:b=c'
   ·subst z2;rw [atc] at e;cases e;obtain ⟨c1,oc,vs,t,ec,ho,hd⟩:=hrec;exact S0 ⟨c1,oc,vs,t,ec,get?_push_of_some _ ho,hd⟩
   by_cases z3:b=P0
   ·subst z3;rw [atP] at e;cases e;exact get?_push_of_some _ bi
   ·have e':H b=some u:=by rw [← c8,AH z1,AH z2,AH z3] at e; exact e
    refine (I.hok b u e').stay (fun b2 o hb q=>kp b2 o ?_ q) (fun b2 q=>?_) fun b2 xs q=>?_
    ·rcases hb with z | z
     ·rw [z]; exact z3
     ·exact ntbl b2 _ z fun _ y=>nomatch y
    ·rw [oth b2 (lt _ _ q) (ntbl b2 _ q fun _ y=>nomatch y)]; exact q
    ·rw [oth b2 (lt _ _ q) (ntbl b2 _ q fun _ y=>nomatch y)]; exact q
  have I':=I.un (t':=tk) un hok;refine ⟨.ref h'.objs.size,H',I',rfl,k _ c' ctv H' (I.hok.fresh hfs) (fun b u n e=>by rw [oth b (lt _ _ e) n]; exact e) ⟨_,atP,?_,fun q hq=>?_⟩ atf atc⟩
  ·rw [Array.toList_append]; exact TriplesOk_snoc _ _ _ _ ht
  ·rw [Array.toList_append];rcases bn q hq with z | z
   ·subst z;exact .inr ⟨c',codeAmong_snoc _ ht hn,atc⟩
   ·show codeAmong q (ps.toList++[rawInt lpos.line,rawInt lpos.col,.ref c'])=none\/_;rw [G0 z _ ht];rcases hls q hq with y | ⟨c2,y1,y2⟩
    ·exact .inl y
    ·exact .inr ⟨c2,y1,by rw [oth c2 (lt _ _ y2) (ntbl c2 _ y2 fun _ y=>nomatch y)]; exact y2⟩
 ·refine W.kla_makeFunctionHit (mg:=X.mg) ak I.ok.glob hgs L.code C hPg ht hf B fun ctv h' tk hk hsz=>?_;have I':=I.laid (t':=tk) (a:=h'.objs.size) (o:=FnO h'.objs.size (W.kla_obj "<lambda>" (X.env.qual ++ "<lambda>") params body scope clos ((X.mg "__name__").getD .none) c' ctv)) (fun b o e=>get?_push_of_some _ (hk b o e)) hsz (Ty (get?_push_size _ rfl));have fr:H h'.objs.size=none:=I.hok.fresh hsz
  have sm:∀ b u,H b=some u->upd H h'.objs.size (FnO h'.objs.size (W.kla_obj "<lambda>" (X.env.qual ++ "<lambda>") params body scope clos ((X.mg "__name__").getD .none) c' ctv)) b=some u:=fun b u e=>by
   rw [AH (AI e fr)]; exact e
  refine ⟨.ref h'.objs.size,_,I',rfl,k _ c' ctv _ fr (fun b u _ e=>sm b u e) ⟨ps,sm _ _ hP,ht,fun q hq=>?_⟩ AB (sm _ _ hc')⟩;rcases hls q hq with y | ⟨c2,y1,y2⟩
  ·exact .inl y
  ·exact .inr ⟨c2,y1,sm _ _ y2⟩
end
def Qr (P0:Addr) (H:Hp):Prop:=∀ b,H b=none\/(∃ o xs,H b=some (.frz o (.lst xs)))\/(b=P0/\H b=some (.tbl #[]))
theorem O7 {mb:SV} {CX:CXT} {k:Nat} {fa c P0:Addr} {fd:FuncData} {sp:Sp} {s₁:Shared} {vs:List Value} {ns:List Int}
  (KX:K.In s₁.heap) (hns:s₁.heap.Ns mainGlobals mg) (hb:s₁.heap.Ns builtinsNs mb) (hbb:∀ x:Str,x ≠ "__name__" -> mb x=bootBuiltins x) (hlim:s₁.heap.NoLimit) (hg:s₁.gens=#[])
  (ha:s₁.heap.get? a=some { cls:=.type "list", data:=.seq vs.toArray }) (hi:IntsAre vs ns) (hl:ns.length <= sizeLine) (hr:Room k callerA)
  (hP:s₁.heap.get? P0=some (W.tabObj #[])) (hKP:K.lookup P0=none) (hC:W.CodeHd s₁.heap c P0) (hB:s₁.heap.BuiltinsAt mg P0)
  (F:∀ base:Heap,K.In base->base.Ns mainGlobals mg->W.CodeHd base c P0->base.BuiltinsAt mg P0->Ac P w K mg base CX k fa fd [x] sp) (ce:∀ (s:Shared) (u:Value),BindsTo s fd ⟨[u],[]⟩ [(x,u)])
  (hsp:∀ H:Hp,Qr P0 H->H P0=some (.tbl #[])->SqL K H a (ns.map V.int)->sp [.ref a] H (fun v _=>v=.bl true) fun _ _ _=>False)
  (hCX:∀ H e s',CX [] H s₁ (fun _ _ _=>False) e s'->False) :
  codeAny (model P w) callerA (.call (.ref fa) ⟨[.ref a],[]⟩) (fun r s'=>r=.ok (.ret (.bool true))/\OldK s₁.heap s'.heap/\s'.os=s₁.os/\AllBare s'.gens) s₁:=by
 have rv:=ER hi;have lenV:=hi.length;have haP:a ≠ P0:=fun z=>by subst z; rw [ha] at hP; cases hP
 have core:∀ H:Hp,Qr P0 H->H P0=some (.tbl #[])->SqL K H a (ns.map V.int)->HOk P w H s₁.heap->(∀ b,H b ≠ none->b=a\/b=P0)->(H a ≠ none->K.lookup a=none) ->
   codeAny (model P w) callerA (.call (.ref fa) ⟨[.ref a],[]⟩) (fun r s'=>r=.ok (.ret (.bool true))/\OldK s₁.heap s'.heap/\s'.os=s₁.os/\AllBare s'.gens) s₁:=by
  intro H hO hHP hS hok hA hK;have base_of:∀ {b:Addr} {o:Obj},s₁.heap.get? b=some o->H b=none->(HQ s₁.heap H).get? b=some o:=fun e n=>P4 e n
  have noS:∀ {b:Addr} {o:Obj},s₁.heap.get? b=some o->(∀ xs n,o.data ≠ .seq xs n)->o.cls ≠ .none->H b=none:=fun {b o} e d1 d2=>by
   cases q:H b with
   | none=>rfl
   | some u =>
    rcases hA b (by rw [q]; simp) with e' | e'
    ·subst e';rw [ha] at e; cases e;exact absurd rfl (d1 _ _)
    ·subst e';rw [hP] at e; cases e;exact absurd rfl d2
  have noA:∀ {b:Addr} {o:Obj} {es:Array DictEntry} {ep:Nat},s₁.heap.get? b=some o->o.data=.dict es ep->H b=none:=fun {b o es ep} e d=>by
   cases q:H b with
   | none=>rfl
   | some u =>
    rcases hA b (by rw [q]; simp) with e' | e'
    ·subst e';rw [ha] at e; cases e;cases (show Data.seq vs.toArray _=Data.dict es ep from d)
    ·subst e';rw [hP] at e; cases e;cases (show Data.fields #[]=Data.dict es ep from d)
  have nsK:∀ {b:Addr} {m:SV},s₁.heap.Ns b m->(HQ s₁.heap H).Ns b m:=fun {b m} ⟨o,es,ep,e,d,r⟩=>⟨o,es,ep,base_of e (noA e d),d,r⟩
  have hKb:K.In (HQ s₁.heap H):=fun b o e=>base_of (KX b o e) (by
   cases q:H b with
   | none=>rfl
   | some u =>
    rcases hA b (by rw [q]; simp) with e' | e'
    ·subst e';rw [hK (by rw [q]; simp)] at e; cases e
    ·subst e'
     rw [hKP] at e; cases e)
  have hM:Mod K mg (HQ s₁.heap H):=⟨hKb,nsK hns,⟨mb,nsK hb,hbb⟩,let ⟨mc,h1,h2⟩:=hlim; ⟨mc,nsK h1,h2⟩⟩
  have hCb:W.CodeHd (HQ s₁.heap H) c P0:=by
   obtain ⟨o,vs',file,tf,flags,tg,inF,text,tt,e,ak,hda,r⟩:=id hC;exact ⟨o,vs',file,tf,flags,tg,inF,text,tt,base_of e (noS e (fun xs n z=>by rw [hda] at z; cases z) (by rw [ak]; exact fun z=>nomatch z)),ak,hda,r⟩
  have hBb:(HQ s₁.heap H).BuiltinsAt mg P0:=by
   obtain ⟨bm,o,a1,a2,a3,a4,a5,a6,a7,a8⟩:=id hB;exact ⟨bm,o,a1,a2,a3,a4,base_of a5 (noS a5 (fun xs n z=>by rw [a8] at z; cases z) (by rw [a6]; exact fun z=>nomatch z)),a6,a7,a8⟩
  have e0:Env0 P w K mg (HQ s₁.heap H) callerA [] s₁ H:=⟨rfl,hM,fun b o e=>SU e,Nat.le_of_eq (Oe _ _),trivial,fun b hb=>absurd (show b ∈ ([]:List Addr) from hb) (by simp),hok,.of_eq hg⟩;refine codeAny_mono ((F _ hKb (nsK hns) hCb hBb).run callerA [] s₁ H ⟨[.ref a],[]⟩ [.ref a] [.ref a] _ _ hr e0 (ce s₁ (.ref a)) (.cons rfl .nil) (hsp H hO hHP hS)) fun r s' h=>?_;cases r with
  | error e=>exact (hCX H e s' h).elim
  | ok fl =>
   cases fl with
   | next=>exact False.elim h
   | brk=>exact False.elim h
   | cont=>exact False.elim h
   | ret u =>
    obtain ⟨v,H',os,bare,un,hok',r',q⟩:=h;have q':v=.bl true:=q;subst q';obtain rfl:u=Value.bool true:=r'
    have tabNow:∃ more,s'.heap.get? P0=some (W.tabObj (#[]++more)):=by
     obtain ⟨more,e⟩:=un.tbls P0 #[] hHP;exact ⟨more,hok' _ _ e⟩
    have rest:∀ b o,b ≠ P0->s₁.heap.get? b=some o->s'.heap.get? b=some o:=fun b o hb e=>by
     cases q:H b with
     | none=>exact un.keep b o e q (by intro z; exact absurd (show b ∈ ([]:List Addr) from z) (by simp)) (by simp)
     | some u =>
      rcases hO b with z | ⟨ob,xs,z⟩ | ⟨z,_⟩
      ·rw [q] at z; cases z
      ·have z2:=un.frzs b ob _ z;obtain ⟨e1,_⟩:=hok b _ z;obtain ⟨e2,_⟩:=hok' b _ z2;rw [e] at e1; cases e1;exact e2
      ·exact absurd z hb
    refine ⟨rfl,⟨fun b o e=>?_,fun b o e=>?_⟩,os,bare⟩
    ·by_cases hb:b=P0
     ·subst hb;rw [hP] at e;cases e;obtain ⟨more,e2⟩:=tabNow;exact .inr (.inl ⟨(hC.tab hP).isCodeTable,rfl,#[],more,rfl,e2⟩)
     ·exact .inl (rest b o hb e)
    ·by_cases hb:b=P0
     ·subst hb;obtain ⟨more,e2⟩:=tabNow;exact ⟨_,e2⟩
     ·exact ⟨o,rest b o hb e⟩
 cases hk:K.lookup a with
 | some o =>
  have e:=KX a o hk;rw [ha] at e;cases e;refine core (fun b=>if b=P0 then some (.tbl #[]) else none) (fun b=>?_) (if_pos rfl) (.inr ⟨_,vs.toArray,_,hk,rfl,rfl,rfl,by rw [size_toArray,lenV]; exact hl,by simpa using rv⟩) (fun b u z=>?_) (fun b z=>?_) fun z=>absurd (if_neg haP) z
  ·by_cases hb:b=P0
   ·exact .inr (.inr ⟨hb,if_pos hb⟩)
   ·exact .inl (if_neg hb)
  ·by_cases hb:b=P0
   ·have z':=(if_pos hb).symm.trans z;cases z';subst hb;exact hP
   ·have z':=(if_neg hb).symm.trans z;cases z'
  ·by_cases hb:b=P0
   ·exact .inr hb
   ·exact absurd (if_neg hb) z
 | none =>
  refine core (fun b=>if b=P0 then some (.tbl #[]) else if b=a then some (.frz { cls:=.type "list", data:=.seq vs.toArray } (.lst (ns.map V.int))) else none) (fun b=>?_) (if_pos rfl) (.inl (.inr ⟨{ cls:=.type "list", data:=.seq vs.toArray },(if_neg haP).trans (if_pos rfl)⟩)) (fun b u z=>?_) (fun b z=>?_) fun _=>hk
  ·by_cases hb:b=P0
   ·exact .inr (.inr ⟨hb,if_pos hb⟩)
   ·by_cases hb2:b=a
    ·exact .inr (.inl ⟨_,_,(if_neg hb).trans (if_pos hb2)⟩)
    ·exact .inl ((if_neg hb).trans (if_neg hb2))
  ·by_cases hb:b=P0
   ·have z':=(if_pos hb).symm.trans z;cases z';subst hb;exact hP
   ·by_cases hb2:b=a
    ·have z':=((if_neg hb).trans (if_pos hb2)).symm.trans z;cases z';subst hb2;exact ⟨ha,by rw [AF]; exact hl,vs,_,rv,ha⟩
    ·have z':=((if_neg hb).trans (if_neg hb2)).symm.trans z;cases z'
  ·by_cases hb:b=P0
   ·exact .inr hb
   ·by_cases hb2:b=a
    ·exact .inl hb2
    ·exact absurd ((if_neg hb).trans (if_neg hb2)) z
theorem Qs {l:W.OpenLaw} {n k:Nat} {q:Program} {loose:List Str} {XP:(Str->Option Value)->Heap->Prop} {YP:World->Heap->Prop} {d:DefRec} {K:Params->FG} {CX:World->CXT} {sp:World->Sp} {c P0:Addr}
  (hn:l.most=some n) (hn2:n <= sizeLine) (hdf:d.params.defaults=[]) (hr:Room k callerA)
  (hY:∀ (w:World) (h:Heap),YP w h->(K w.params).In h/\h.get? P0=some (W.tabObj #[])/\(K w.params).lookup P0=none/\W.CodeHd h c P0)
  (F:∀ (w:World) (mg:SV) (fa:Addr) (h:Heap),(K w.params).In h->h.Ns mainGlobals mg->mg d.name=some (.ref fa) ->
   ∃ fd:FuncData,(∀ (s:Shared) (u:Value),BindsTo s fd ⟨[u],[]⟩ [(x,u)]) /\
    ∀ base:Heap,(K w.params).In base->base.Ns mainGlobals mg->W.CodeHd base c P0->base.BuiltinsAt mg P0->Ac l.prog w (K w.params) mg base (CX w) k fa fd [x] (sp w))
  (hsp:∀ (w:World) (H:Hp) (a:Addr) (ns:List Int),ns.length <= n->Qr P0 H->H P0=some (.tbl #[])->SqL (K w.params) H a (ns.map V.int)->sp w [.ref a] H (fun v _=>v=.bl true) fun _ _ _=>False)
  (hCX:∀ (w:World) (H:Hp) (s:Shared) (e:Value) (s':Shared),CX w [] H s (fun _ _ _=>False) e s'->False) :
  W.WalkO q loose XP YP l.row.toRowW d [] (fun f vs=>PySem.call f vs):=by
 refine Att.attach_call hn hdf fun w s₀ s₁ mg mb fa o pm cd doc a vs ns G Y ho hd hcd hmg dz cf bw hg=>?_;obtain ⟨KX,hP,hKP,hC⟩:=hY w _ Y;obtain ⟨fd,hb,hF⟩:=F w mg fa _ KX G.T.g hmg
 have hB:s₁.heap.BuiltinsAt mg P0:=by
  obtain ⟨bm,ob,b1,b2,b3,b4,b5,b6⟩:=G.T.bmain;refine ⟨bm,ob,b1,b2,fun z=>?_,fun z=>?_,b3,b4,b5,b6⟩
  ·obtain ⟨o',es,ep,e,hd',_⟩:=G.T.g;rw [z,e] at b3; cases b3; rw [hd'] at b6; cases b6
  ·rw [z,hP] at b3; cases b3; cases b4
 exact O7 KX G.T.g G.T.b G.T.builtins G.T.nolimit hg dz cf (Nat.le_trans bw hn2) hr hP hKP hC hB hF hb (fun H hO hH hS=>hsp w H a ns bw hO hH hS) fun H e s'=>hCX w H s₁ e s'
section
theorem Fun.okX {qual:Str} {st:Stmt} {fd:FuncData} {ps:List Str} {k:Nat} {sp:Sp} (F:Fun K x qual st f fd) (S:AM N ps (defScope st)) (len:∀ vs H Q E,sp vs H Q E->vs.length=ps.length)
  (b8:∀ (af:Value) (A:Around) (outer:List Env) (s:Shared) (H:Hp) (vs:List V) (Q:VK) (E:XK),Room k (A.deeper (envOfC qual (defScope st) s.heap.objs.size f af))->sp vs H Q E ->
   ∃ t,PSs (BA (CXr P w) P w K mg base N qual (defScope st) f af A outer s H E) (defBody st) t/\t { nx:=fun _ H'=>Q .non H',rt:=Q } (Bu N vs) H):Ac P w K mg base (CXr P w) (k + 1) f fd ps sp:=by
 obtain ⟨oc,od,kV,doc,pm,an,af,ct,osl,rfl,lk,hcd⟩:=F.ex;exact Nw lk hcd S len fun A outer s H vs Q E hr hsp=>b8 af A outer s H vs Q E hr hsp
structure BdX (P:Program) (w:World) (K:FG) (mg:SV) (base:Heap) (f:Addr) (qual:Str) (st:Stmt) (N ps:List Str) (k:Nat) (vs:List V) (H:Hp) (Q:VK) (E:XK):Prop where
 len:vs.length=ps.length
 ok:∀ (af:Value) (A:Around) (outer:List Env) (s:Shared),Room k (A.deeper (envOfC qual (defScope st) s.heap.objs.size f af)) ->
  ∃ t,PSs (BA (CXr P w) P w K mg base N qual (defScope st) f af A outer s H E) (defBody st) t/\t { nx:=fun _ H'=>Q .non H',rt:=Q } (Bu N vs) H
theorem Fun.n {qual:Str} {st:Stmt} {fd:FuncData} {ps:List Str} {k:Nat} {sp:Sp} (F:Fun K x qual st f fd) (S:AM N ps (defScope st)) (h:∀ vs H Q E,sp vs H Q E->BdX P w K mg base f qual st N ps k vs H Q E) :
  Ac P w K mg base (CXr P w) (k + 1) f fd ps sp:=F.okX S (fun vs H Q E q=>(h vs H Q E q).len) fun c A o s H vs Q E r q=>(h vs H Q E q).ok c A o s r
structure FunD (K:FG) (x qual:Str) (st:Stmt) (f:Addr) (fd:FuncData):Prop where
 ex:∃ (oc:Value) (od:Option Addr) (dV kV doc pm:Value) (an:Option Addr) (af ct:Value) (osl:Array (Option Value)),
  fd=W.fnOf x qual (defArgs st) (defBody st) (defScope st) dV kV doc pm an af ct/\K.lookup f=some ⟨oc,od,.func fd,osl⟩/\W.codeIn K af qual=true
theorem FunD.ok {qual:Str} {st:Stmt} {fd:FuncData} {ps:List Str} {k:Nat} {sp:Sp} (F:FunD K x qual st f fd) (S:AM N ps (defScope st)) (len:∀ vs H Q E,sp vs H Q E->vs.length=ps.length)
  (b8:∀ (af:Value) (A:Around) (outer:List Env) (s:Shared) (H:Hp) (vs:List V) (Q:VK) (E:XK),Room k (A.deeper (envOfC qual (defScope st) s.heap.objs.size f af))->sp vs H Q E ->
   ∃ t,PSs (BA CX0 P w K mg base N qual (defScope st) f af A outer s H E).nox (defBody st) t/\t { nx:=fun _ H'=>Q .non H',rt:=Q } (Bu N vs) H):Ac P w K mg base CX0 (k + 1) f fd ps sp:=by
 obtain ⟨oc,od,dV,kV,doc,pm,an,af,ct,osl,rfl,lk,hcd⟩:=F.ex;refine Nw lk hcd S len fun A outer s H vs Q E hr hsp=>?_;obtain ⟨t,h,q⟩:=b8 af A outer s H vs Q E hr hsp;exact ⟨t,h.nox,q⟩
end
end L2
end
section
namespace L2
open PySem PySem.Spec PyProof.Rows Builtin Builtin.ObjectAttr
noncomputable def Er (C M:Addr):List Value:=[.ref C,.ref M,.type "ValueError", .type "Exception", .type "BaseException", .type "object"]
section
variable {prog:Program} {x M:Addr} {ox:Obj} {vs:Array Value} {name:Str} {v:Value} {cd:ClassData}
theorem S1 {R:Result->Shared->Prop} {tk:Tok} (X:K.In s.heap) (hx:s.heap.get? x=some ox) (ak:ox.cls=.ref C) (hdn:ox.dict=none) (hf:ox.data=.fields vs) (hc:W.clsIn K C=some cd) (db:cd.mro=Er C M) (bx:cd.hasDict=true) (hn:W.findIn K (.ref C) name=some none)
  (h:∀ (h':Heap) (tk':Nat),h'.get? x=some { ox with dict:=some s.heap.objs.size }->h'.Ns1 s.heap.objs.size (fun y=>if y=name then some v else none)->(∀ b o,b ≠ x->s.heap.get? b=some o->h'.get? b=some o)->R (.ok (.ret .none)) { s with heap:=h',toks:=tk' }) :
  codeAny (model prog w) A (.call (.builtin "object.__setattr__") ⟨[.ref x,.str name tk,v],[]⟩) R s:=by
 have SF:=PySem.F.store_object;have I:W.InstAt s.heap x ox C none:=⟨hx,ak,by unfold W.notCls; rw [hf],by rw [hdn]; trivial⟩;have ne:cd.mro.isEmpty=false:=by rw [db]; rfl
 have sub:W.Looks (model prog w) s.heap (isInstance (.ref x) (.type "object")) true:=I.type.andThen (W.looks_mroIn X (by unfold W.mroIn; rw [hc,Option.bind_some,if_neg (by rw [ne]; decide),db]; simp [Er]));refine codeAny_call_builtin SF.slot.plain SF.entry (@W.check_slot (model prog w) _ _ s "object.__setattr__" "object" "__setattr__" (.ref x) [.str name tk,v] [] _ SF.kind SF.split sub (SF.args (.ref x) (.str name tk) v) ?_);have hm:W.Looks (model prog w) s.heap (mroOf (.ref C)) cd.mro:=(W.looks_clsIn X hc).andThen .now;have L3:W.Looks (model prog w) s.heap (storeTaker? none) none:=.now;rw [W.osa_eq,refuse_eq];refine wpAny_bind (wpAny_bind (I.type.here (wpAny_bind (hm.here ?_))));rw [db];unfold Er;rw [refuseLoop_ref,refuseLoop_ref,PySem.F.store_ValueError.passes];refine wpAny_pure (wpAny_bind (I.type.here (wpAny_bind ((W.looks_findIn X hn).here (wpAny_bind (L3.here ?_))))));obtain ⟨oc,odi,oda,osl⟩:=ox
 dsimp only at ak hdn hf
 subst ak hdn hf;refine wpAny_bind (wpAny_pure (wpAny_bind (wpAny_bind (wpAny_loadPart hx (wpAny_bind ((W.looks_clsIn X hc).here ?_))))));rw [bx];have hx₁:(s.heap.push { cls:=.type "dict", data:=.dict #[] }).get? x=some _:=get?_push_of_some _ hx;have hxs:x ≠ s.heap.objs.size:=Nat.ne_of_lt (lt_size hx);obtain ⟨hp,g,d,t,os⟩:=s
 dsimp only at hx hx₁ hxs h ⊢
 rw [if_neg (by decide),if_neg (by simp [typeHasDict])];refine wpAny_bind (wpAny_alloc' ?_);refine wpAny_bind (wpAny_update' hx₁ ?_);refine wpAny_pure ?_
 have hgd:((hp.push { cls:=.type "dict", data:=.dict #[] }).update x fun o=>{ cls:=o.cls,dict:=some hp.objs.size,data:=o.data,slots:=o.slots }).get? hp.objs.size=some { cls:=.type "dict", data:=.dict #[] } :=
  (Heap.get?_update_ne _ _ _ _ hxs.symm).trans (Heap.get?_push_at rfl rfl)
 have hnd:((hp.push { cls:=.type "dict", data:=.dict #[] }).update x fun o=>{ cls:=o.cls,dict:=some hp.objs.size,data:=o.data,slots:=o.slots }).Ns hp.objs.size (fun _=>none) :=
  ⟨_,#[],_,hgd,rfl,fun e he=>absurd he (by simp),fun _=>rfl⟩
 show wpAny _ _ (storeInDict hp.objs.size (.str name tk) name v) _ _ _;unfold storeInDict newKeyGuard;refine wpAny_bind (wpAny_pure (wpAny_bind (wpAny_nsSet1 (Heap.Ns1.of_empty hnd) fun h' hn' hs=>?_)));obtain ⟨oD,esD,epD,hoD,hdD,hcD⟩:=hn'.count (Within.cons name v Within.nil);refine wpAny_bind (wpAny_lookBehind hoD (by rw [hdD]; exact pastItsLine_dict (Nat.le_trans hcD (by rw [length_cons,length_nil,sizeLine_eq]; omega))) ?_)
 wp_walk
 have hx':h'.get? x=some { cls:=.ref C,dict:=some hp.objs.size,data:=.fields vs,slots:=osl }:=(hs.2 x hxs).trans (get?_update_self _ hx₁ rfl);exact h h' _ hx' hn' fun b ob hbx hb=>(hs.2 b (Nat.ne_of_lt (lt_size hb))).trans ((Heap.get?_update_ne _ _ _ _ hbx).trans (get?_push_of_some _ hb))
theorem S2 {Q:Unit->Shared->Prop} (X:K.In s.heap) (hx:s.heap.get? x=some ox) (ak:ox.cls=.ref C) (hdn:ox.dict=none) (hf:ox.data=.fields vs) (hc:W.clsIn K C=some cd) (db:cd.mro=Er C M) (bx:cd.hasDict=true) (hn:W.findIn K (.ref C) name=some none)
  (hs:W.findIn K (.ref C) "__setattr__" = some (some (.builtin "object.__setattr__")))
  (h:∀ (h':Heap) (tk':Nat),h'.get? x=some { ox with dict:=some s.heap.objs.size }->h'.Ns1 s.heap.objs.size (fun y=>if y=name then some v else none)->(∀ b o,b ≠ x->s.heap.get? b=some o->h'.get? b=some o)->Q () { s with heap:=h',toks:=tk' }) :
  wpAny (model prog w) A (setAttr (.ref x) name v) Q E s:=by
 have I:W.InstAt s.heap x ox C none:=⟨hx,ak,by unfold W.notCls; rw [hf],by rw [hdn]; trivial⟩;exact W.set_plain X I hs (S1 (s:={ s with toks:=s.toks + 1 }) X hx ak hdn hf hc db bx hn fun h' tk' a b c=>h h' tk' a b c)
end
end L2
end
section
namespace L2
open PySem PySem.Spec PyProof.Rows
structure Lg (K:FG) (C M:Addr) (f:Str):Prop where
 cls:∃ cd,W.clsIn K C=some cd/\cd.mro=Er C M/\cd.hasDict=true
 nf:W.findIn K (.ref C) f=some none
 sa:W.findIn K (.ref C) "__setattr__" = some (some (.builtin "object.__setattr__"))
section
variable {o value:Expr} {ta tv:TE} {f:Str} {pos':Pos} {M:Addr}
def Vq (K:FG) (M:Addr) (ta tv:TE) (f:Str):TS:=fun D σ H=>tv σ H fun y H1=>ta σ H1 fun x H2=>∃ e C,x=.ref e/\H2 e=some (Ed e C none)/\Lg K C M f /\
 ∀ d,H2 d=none->d ≠ e->D.nx σ (upd (upd H2 e (Ed e C (some d))) d (.xd [(f,y)]))
theorem OC (ha:PE X o ta) (hv:PE X value tv) (hs:swapsWith value (some (.Attribute o f pos')) pos.line X.env=pure false):PS X (.Assign [.Attribute o f pos'] value pos) (Vq X.K M ta tv f):=by
 intro aa s σ H D I h;refine plainObj_wpAny_Assign_Attribute (thn (hv aa s σ H _ I h) fun u s1 ⟨y,H1,I1,ry,q⟩=>thn (ha aa s1 σ H1 _ I1 q) fun ov s2 ⟨x,H2,I2,rx,e,C,ex,ea,S,q2⟩=>?_) hs;subst ex;obtain rfl:ov=Value.ref e:=rx;obtain ⟨⟨oe,vs,a1,a2,a3,a4,a5,a6,a7⟩,_,_⟩:=I2.hok _ _ ea;obtain ⟨cd,hc,hm,hd⟩:=S.cls;refine S2 I2.kIn a1 a2 a3 a4 hc hm hd S.nf S.sa fun h' tk' hx hn hk=>?_;have hde:s2.heap.objs.size ≠ e:=Nat.ne_of_gt (lt_size a1);have hdn:H2 s2.heap.objs.size=none:=I2.hok.fresh (Nat.le_refl _);generalize hH':upd (upd H2 e (Ed e C (some s2.heap.objs.size))) s2.heap.objs.size (.xd [(f,y)])=H';have lt:∀ b u,H2 b=some u->b < s2.heap.objs.size:=fun b u z=>I2.hok.lt z;have oth:∀ b,b < s2.heap.objs.size->b ≠ e->H' b=H2 b:=fun b hb n=>by rw [← hH',AH (Nat.ne_of_lt hb),AH n]
 have ate:H' e=some (Ed e C (some s2.heap.objs.size)):=by rw [← hH',AH (Ne.symm hde),AB]
 have atd:H' s2.heap.objs.size=some (.xd [(f,y)]):=by rw [← hH',AB]
 have next:∀ b u,H2 b=some u->(∀ φ,u ≠ .ext φ)->b ≠ e:=fun b u z n w=>by subst w; rw [ea] at z; cases z; exact n _ rfl
 have nn:∀ b,H2 b=none->b ≠ e:=fun b z w=>by subst w; rw [ea] at z; cases z
 have un:Un X.fs [] H2 H' s2.heap h':=by
  refine ⟨fun b ob z n _ _=>hk b ob (nn b n) z,fun b ob z n _ _=>⟨ob.slots,hk b ob (nn b n) z⟩,fun b ob z n _=>by rw [oth b (lt_size z) (nn b n)]; exact n,fun b ob z _=>?_,fun b xs z=>?_,fun b ob w z=>?_,fun b ps z=>⟨#[],?_⟩⟩
  ·by_cases w:b=e
   ·subst w; exact ⟨_,hx⟩
   ·exact ⟨ob,hk b ob w z⟩
  ·rw [oth b (lt _ _ z) (next b _ z fun _ w=>nomatch w)]; exact z
  ·rw [oth b (lt _ _ z) (next b _ z fun _ w=>nomatch w)]; exact z
  ·rw [oth b (lt _ _ z) (next b _ z fun _ w=>nomatch w),z]; simp
 have hok:HOk X.prog X.w H' h':=fun b w z=>by
  by_cases hb:b=s2.heap.objs.size
  ·subst hb;rw [atd] at z;cases z;refine ⟨_,hn,fun g=>?_⟩;by_cases hg:g=f
   ·subst hg;simp only [if_pos rfl,lookup_cons,beq_self_eq_true];exact ry
   ·have e1:(g == f)=false:=beq_eq_false_iff_ne.mpr hg;simp only [if_neg hg,lookup_cons,e1,List.lookup_nil];trivial
  by_cases hb2:b=e
  ·subst hb2;rw [ate] at z;cases z;exact ⟨⟨_,vs,hx,a2,rfl,a4,a5,a6,a7⟩,⟨_,hx⟩,fun h1 h2 ⟨oe,vs,a,r⟩ k=>⟨oe,vs,k _ a,r⟩⟩
  ·have z':H2 b=some w:=by rw [← hH',AH hb,AH hb2] at z; exact z
   refine (I2.hok b w z').stay (fun b2 ob hc2 q=>hk b2 ob ?_ q) (fun b2 q=>?_) fun b2 xs q=>?_
   ·rcases hc2 with w2 | w2
    ·rw [w2]; exact hb2
    ·exact next b2 _ w2 fun _ y=>nomatch y
   ·rw [oth b2 (lt _ _ q) (next b2 _ q fun _ y=>nomatch y)]; exact q
   ·rw [oth b2 (lt _ _ q) (next b2 _ q fun _ y=>nomatch y)]; exact q
 have I3:=I2.un (t':=tk') un hok;have q3:=q2 s2.heap.objs.size hdn hde;rw [hH'] at q3;exact ⟨σ,H',I3,q3⟩
end
section
variable {CX:CXT} {k:Nat} {fd:FuncData} {ps:List Str} {sp:Sp} {dvs:List V} {ds:List Value} {E:XK} {name:Str} {np apos:Pos} {es:List Expr} {t:TA} {mc:Value}
theorem IC {pl:Sem Bool} (hg:Gl X x) (hm:X.mg x=some (.ref C)) (ga:W.specialIn X.K (.ref C) "__getattribute__" = some (some (.builtin "type.__getattribute__"))) (hr0:W.readsIn X.K C mc=true) (hf:W.findCls X.K (.ref C) mc name=some (.val (.ref f)))
  (F:Ac X.prog X.w X.K X.mg X.base CX k f fd ps sp) (hr:Room k X.A) (hk:W.keepIn X.K (.ref f)=true) (hb:Binds X.K fd ps ds) (hd:Vals dvs ds) (hx:Bn CX X E) (ha:PA X (e :: es) t) (hdb:(x == ("__debug__" : Str))=false:=by decide)
  (he:starEach (e :: es) X.env=(false,eval e X.env) :: starEach es X.env:=by rfl) (hpl:(backTo pos (starEach es X.env)).any (·.1)=false:=by rfl)
  (ht:eval (.Call (.Attribute (.Name x np) name apos) (e :: es) [] pos) X.env=(do
   let ov ← eval (.Name x np) X.env
   standAt apos.atName
   let (f,first) ← holding [ov] (getMethod ov name pl)
   callWith pos f first (backTo pos (starEach (e :: es) X.env)) (backToKw pos (keywordEach [] X.env))):=by rfl) :
  PE X (.Call (.Attribute (.Name x np) name apos) (e :: es) [] pos) (Tt sp dvs E t):=by
 intro aa s σ H Q I h;refine W.methodCall_KW (pl:=pl) ?_ ht;refine CG I hg hm ?_ hdb;refine W.method_cls I.kIn ga (W.cls_value I.kIn hr0 hf rfl ?_);refine W.callWith_K (h₀:=X.base) I.ok.mod.kin hk (thn (ha pos aa _ σ H _ (I.tok _) h) fun us s1 ⟨vs,H1,I1,r,q⟩=>⟨I1.kIn,?_⟩) he hpl;exact KF F hr hb hd hx I1 r q
end
section
variable {c:Str} {cp fp:Pos} {ck:Nat}
def Vr (c:Str) (te:TE):TE:=fun σ H Q=>te σ H fun x H1=>((∃ i,x=.int i/\i.natAbs.log2 < 1920)\/(∃ z,x=.str z/\z.length <= 1000)\/x=.non)/\∀ z,Q (.str z) H1
theorem HG (a b:Str):(a++b).length=a.length + b.length:=strLen_append a b
theorem OD (hc:c.length <= 1000) (he:PE X e te):PE X (.JoinedStr [.Constant (.str c) ck cp,.FormattedValue e (-1) none fp] pos) (Vr c te):=by
 intro aa s σ H Q I h;refine JoinedStr_many (joinParts_cons (Calls.Constant_str ?_));have l0:(Str.empty++c).length <= 1000:=by rw [HG]; show 0 + c.length <= 1000; omega
 have sz:(3000:Nat) <= sizeLine:=by decide
 refine ⟨Nat.le_trans l0 (Nat.le_trans (by decide) sz),joinParts_cons ?_⟩;refine wpAny_FormattedValue_plain (thn (he aa _ σ H _ (I.tok _) h) fun u s1 ⟨x,H1,I1,r,q,k⟩=>?_);rcases q with ⟨i,rfl,hi⟩ | ⟨z,rfl,hz⟩ | rfl
 ·obtain ⟨t,rfl⟩:=r;refine PySem.wpAny_formatField_int hi ?_;have l1:(Str.ofString (toString i)).length <= 1921:=by rw [PySem.ofString_length]; exact int_text_length_le (k:=1920) (by decide) hi
  have l2:((Str.empty++c)++Str.ofString (toString i)).length <= sizeLine:=by
   rw [HG];omega
  exact ⟨l2,joinParts_nil ⟨.str _,H1,(I1.tok _).tok _,⟨_,rfl⟩,k _⟩ l2⟩
 ·obtain ⟨t,rfl⟩:=r
  have l2:((Str.empty++c)++z).length <= sizeLine:=by
   rw [HG];omega
  have hz2:z.length <= sizeLine:=by omega
  exact PySem.wpAny_formatField_str ⟨l2,joinParts_nil ⟨.str _,H1,I1.tok _,⟨_,rfl⟩,k _⟩ l2⟩ ⟨l2,joinParts_nil ⟨.str _,H1,(I1.tok _).tok _,⟨_,rfl⟩,k _⟩ l2⟩ hz2
 ·obtain rfl:u=Value.none:=r
  have l2:((Str.empty++c)++("None" : Str)).length <= sizeLine:=by
   have:("None" : Str).length=4:=by decide +kernel
   rw [HG];omega
  exact PySem.wpAny_formatField_none ⟨l2,joinParts_nil ⟨.str _,H1,(I1.tok _).tok _,⟨_,rfl⟩,k _⟩ l2⟩
end
structure Vs (K:FG) (C:Addr) (f:Str):Prop where
 hg:Ep K C
 hh:W.hasDictIn K C=true
 ha:W.findIn K (.ref C) f=some none
section
variable {e:Addr} {oe:Obj} {o:Expr} {f:Str} {ta:TE}
def Qt (e:Addr) (oe:Obj) (f:Str) (ta:TE):TE:=fun σ H Q=>ta σ H fun x H1=>∃ d fs v,x=.ref e/\oe.dict=some d/\H1 d=some (.xd fs)/\fs.lookup f=some v/\Q v H1
theorem S3 (p:ExcP X e oe C) (g:Vs X.K C f) (he:PE X o ta) (hb:attributeBase o f X.env (eval o X.env)=eval o X.env):PE X (.Attribute o f pos) (Qt e oe f ta):=by
 intro aa s σ H Q I h;refine Nv hb (thn (he aa s σ H _ I h) fun u s1 ⟨x,H1,I1,rx,d,fs,v,ex,hd,hH,l,q⟩=>?_);subst ex;obtain rfl:u=Value.ref e:=rx;obtain ⟨mA,hn,r⟩:=I1.hok _ _ hH;obtain ⟨od,ho,hl⟩:=JT hn;obtain ⟨w,hw,rw'⟩:=RelO.some_of (v:=v) (o:=mA f) (by rw [← l]; exact r f);have hp:=(I1.pin (e,oe) (mem_append_left _ p.at_)).1;obtain ⟨vs,hv⟩:=p.fld;have J:W.InstAt s1.heap e oe C (some od):=⟨hp,p.cls,by unfold W.notCls; rw [hv],by rw [hd]; exact ho⟩;exact Qm g.hg I1.kIn J (W.findObj_own g.hh g.ha rfl (by rw [hl,hw])) (JU rw') ⟨v,H1,I1.tok _,rw',q⟩
end
structure PSw (X:Cx) (st:Stmt) (t:TS):Prop where
 h:PS X st t
structure PSsw (X:Cx) (st:List Stmt) (t:TS):Prop where
 h:PSs X st t
structure PIw (X:Cx) (tg e:Expr) (t:TI):Prop where
 h:PI X tg e t
section
variable {st:Stmt} {rest:List Stmt} {t u:TS} {tg l iter:Expr} {tl:TE}
theorem Qu (a:PSw X st t) (b:PSsw X rest u):PSsw X (st :: rest) (VR t u):=⟨AG a.h b.h⟩
theorem Qw (a:PSw X st t):PSsw X [st] t:=⟨AE a.h⟩
theorem Tz {body:List Stmt} {wi:TI} {g:TG} {tb:TS} (hp:PassesOwn (model X.prog X.w) X.A X.env X.xe) (hc:X.calm=true) (hi:PIw X tg iter wi) (hg:PG X tg g) (hb:PSsw X body tb)
  (hs:∀ x,foldedSetIterable iter X.env x=pure x:=by intro _; rfl):PSw X (.For tg iter body [] pos) (VZ wi g tb):=⟨Bs hp hc hi.h hg hb.h hs⟩
end
end L2
end
section
namespace PySem
open Sem (wp)
theorem ID {prog:Program} {xs:Array Value} {o:Obj} {k:Nat} {Q:Option Value->Shared->Prop}
  (hx:s.heap.get? a=some o) (hc:o.cls=.type "list") (dh:o.data=.seq xs k) (hd:o.dict=none) (hA:A.handled=none)
  (h:∀ h' tk,(∀ b ob,s.heap.get? b=some ob->h'.get? b=some ob)->Q none { s with heap:=h',toks:=tk }) :
  wpAny (model prog w) A (getAttr? (.ref a) "keys") Q E s:=by
 obtain ⟨c,dct,dat,sl⟩:=o;simp only at hc dh hd;subst hc dh hd;obtain ⟨hp,g,d,tk,os⟩:=s;have hT:∀ tk',(⟨hp,g,d,tk',os⟩:Shared).TypeIs (.ref a) "list" := fun _=>⟨_,hx,rfl⟩;have f1:=sub_AttributeError;have f3:=F.slot_list_getattribute.lookup;have f4:=F.slot_list_getattribute.bind (.ref a);have f5:=am_list_getattr_none;have hmiss:typeLookup (.type "list") "keys" = pure none:=by rw [typeLookup_type,builtinLookup_eq_fast]; kernel_rfl
 unfold getAttr? getAttrBy? getAttrBy
 repeat (any_goals (first | assumption | exact hT _ | ((with_reducible show wpAny _ _ (call (Value.builtin "list.__getattribute__") _ _) _ _ _); refine call_meets F.slot_list_getattribute (hT _) am_entry_list_getattribute (F.args_list_getattribute_2 _ _) (meets_getattribute_miss_list a xs k sl "keys" _ hmiss (by decide +kernel)) ⟨hx,hA,fun h' tk' e hx'=>?_⟩) | wp_step))
 obtain ⟨t',u',he⟩:=hx'.there;show wpAny _ _ (getattributeRaised _ _ _ _ _ _ _) _ _ _;unfold getattributeRaised
 repeat (any_goals (first | assumption | wp_step))
 exact h _ _ hx'.keeps
end PySem
end
section
namespace L2
open PySem PySem.Spec PyProof.Rows
theorem B0:entryFor table "dict.update.loop" = some Builtin.«dict.update.loop»:=entryFor_of_tree (by kernel_rfl)
theorem A7:plainId "dict.update.loop" = true:=by decide +kernel
noncomputable def B1 (kvs ps:LK):LK:=ps.foldl (fun d p=>BM d p.1 p.2) kvs
theorem IE:∀ (ps kvs:LK),(B1 kvs ps).length <= kvs.length + ps.length
 | [],kvs=>Nat.le_refl _
 | p :: r,kvs=>by
  have h1:=IE r (BM kvs p.1 p.2);have h2:=Bb kvs p.1 p.2;show (B1 (BM kvs p.1 p.2) r).length <= _;rw [length_cons];omega
section
variable {R:Result->Shared->Prop} {it p:Addr} {bs:List Addr} {ps:LK}
theorem O8 (hA:A.in1.handled=none) (hpa:p ≠ a) (hpit:p ≠ it) (hq:SqL X.K H a (bs.map V.ref)) (hl:bs.length=ps.length) (hb:∀ (i:Nat) b q,bs[i]?=some b->ps[i]?=some q->b ≠ p/\SqT X.K H b [kV q.1,q.2]) (hz:ps.length <= 1000)
  (hqs:∀ kvs,SqL X.K (upd H p (.dK kvs)) a (bs.map V.ref)) (hts:∀ kvs b xs,b ≠ p->SqT X.K H b xs->SqT X.K (upd H p (.dK kvs)) b xs) (f0:∀ kvs,(upd H p (.dK kvs)) it=none) (f1:it ≠ X.env.locals) (f3:it ∈ X.ex\/X.s₀.heap.objs.size <= it) (f4:∀ (x:Str) (c:Addr),X.env.cells.lookup x=some c->c ≠ it) (f5:∀ q:Addr × Obj,q ∈ X.pn++aa->q.1 ≠ it) :
  ∀ (k i:Nat) (s:Shared) (kvs:LK),ps.length - i=k->i <= ps.length->kvs.length <= i->Inv X aa σ (upd H p (.dK kvs)) s->s.heap.IsListIter it a i->(∀ s',Inv X aa σ (upd H p (.dK (B1 kvs (ps.drop i)))) s'->R (.ok (.ret .none)) s') ->
   codeAny (model X.prog X.w) A (.builtin "dict.update.loop" ⟨[.ref p,.ref it,rawInt (i:Int),.none],[]⟩) R s:=by
 intro k;induction k with
 | zero =>
  intro i s kvs hk hi hkl I st hR;have hin:i=ps.length:=by omega
  obtain ⟨its,rv,pl,_⟩:=I.list (hqs kvs);have bw:=rv.length;refine codeAny_builtin B0 ?_;rw [Around.under_plainId A7 _];show wpAny _ A.in1 (pyNext (.ref it) >>= _) _ _ s;refine wpAny_bind (wpAny_pyNext_list_end hA st pl.isList (by rw [AF] at bw; simp; omega) fun h' eb=>?_);show wpAny _ A.in1 (Builtin.Dict.addKeywords p [] >>= _) _ _ _;refine wpAny_bind (wpAny_pure (wpAny_pure (hR _ ?_)));have e:B1 kvs (ps.drop i)=kvs:=by rw [hin,List.drop_length]; rfl
  rw [e];exact I.turned (t':=s.toks) (fun b o hb e=>eb b o hb e) (f0 kvs) f1 f3 f4 f5
 | succ k ih =>
  intro i s kvs hk hi hkl I st hR;have hlt:i < ps.length:=by omega
  obtain ⟨its,rv,pl,_⟩:=I.list (hqs kvs);have hbi:bs[i]?=some (bs[i]'(by omega)):=List.getElem?_eq_getElem (by omega);have hpi:ps[i]?=some ps[i]:=List.getElem?_eq_getElem hlt;obtain ⟨hbp,hT⟩:=hb i _ _ hbi hpi;obtain ⟨u,hu,ru⟩:=rv.get (i:=i) (x:=V.ref (bs[i]'(by omega))) (by rw [getElem?_map,hbi]; rfl);cases (show u=Value.ref _ from ru);refine codeAny_builtin B0 ?_;rw [Around.under_plainId A7 _];show wpAny _ A.in1 (pyNext (.ref it) >>= _) _ _ s;refine wpAny_bind (wpAny_pyNext_list_item st pl.isList (x:=Value.ref (bs[i]'(by omega))) (by simpa using hu) fun h' st' sb=>?_);have I1:Inv X aa σ (upd H p (.dK kvs)) { s with heap:=h' }:=I.turned (t':=s.toks) (fun b o hb e=>(sb.2 b hb).trans e) (f0 kvs) f1 f3 f4 f5;obtain ⟨its2,rv2,⟨ot,et,ct,nt,dt⟩,_⟩:=I1.tuple (hts kvs _ _ hbp hT);obtain ⟨uk,uv,e2,rk,rvv⟩:=FO rv2;subst e2;show wpAny _ A.in1 (holding [Value.ref (bs[i]'(by omega))] _ >>= _) _ _ _;refine wpAny_bind (wpAny_holding ?_);have hp:(upd H p (.dK kvs)) p=some (.dK kvs):=AB;obtain ⟨z,hd,vs,rel,dd⟩:=N1 I1.hok hp;have hvs:vs.length <= sizeLine:=by rw [← rel.length]; exact z
  have hTy:Shared.TypeIs { s with heap:=h' } (.ref (bs[i]'(by omega))) "tuple" := ⟨_,et,ct⟩;refine wpAny_bind (wpAny_tryCatch ?_);unfold Builtin.Dict.pairItems;refine wpAny_bind (wpAny_typeOf hTy ?_);rw [if_pos (by decide)];obtain ⟨oc,odd,oda,osl⟩:=ot;simp only at ct dt;subst ct dt;refine wpAny_bind (m:=seqItems? _) ?_;unfold seqItems?;refine wpAny_bind (wpAny_load et (wpAny_pure ?_));refine wpAny_pure ?_;show wpAny _ _ (holding [uk,uv] (dictSet p uk uv)) _ _ _;refine wpAny_holding (wpAny_dictSet_pairs (hsz:=hvs) (FR rk) dd fun h2 dd2 sb2=>?_);refine wpAny_pure ⟨plainId_quiet A7 _,?_⟩;have hln:(BM kvs ps[i].1 ps[i].2).length <= i + 1:=by have:=Bb kvs ps[i].1 ps[i].2; omega
  have I2:=FS (t':=s.toks + 1) I1 (by rw [hp]; exact True.intro) sb2 (let ⟨q,_,_,hq',_⟩:=dd2; ⟨q,hq'⟩) (Hl (P:=X.prog) (w:=X.w) (H':=upd (upd H p (.dK kvs)) p (.dK (BM kvs ps[i].1 ps[i].2))) (Nat.le_of_lt (Ab (by omega))) hd (rel.put ps[i].1 rvv) dd2);rw [HC] at I2;have e3:ps.drop i=ps[i] :: ps.drop (i + 1):=List.drop_eq_getElem_cons hlt;have:=ih (i + 1) _ (BM kvs ps[i].1 ps[i].2) (by omega) (by omega) hln I2 (st'.extBut sb2.extBut (Ne.symm hpit)) (fun s' I'=>hR s' (by rw [e3]; exact I'));exact this
theorem Es (hc:X.calm=true):Bk X (.type "dict") (fun xs H Q=>∃ (a:Addr) (bs:List Addr) (ps:LK),xs=[.ref a]/\SqL X.K H a (bs.map V.ref)/\bs.length=ps.length/\ps.length <= 1000/\(∀ (i:Nat) b q,bs[i]?=some b->ps[i]?=some q->SqT X.K H b [kV q.1,q.2]) /\
  ∀ p,H p=none->Q (.ref p) (upd H p (.dK (B1 [] ps)))):=by
 intro aa s σ H xs us Q I r h;obtain ⟨a,bs,ps,rfl,hq,hl,hz,hb,q⟩:=h;obtain ⟨u,rfl,ru⟩:=CM r;cases (show u=Value.ref a from ru);have hp0:H s.heap.objs.size=none:=I.hok.fresh (Nat.le_refl _)
 have sH:∀ o,Same H (upd H s.heap.objs.size o):=fun o b v e=>by
  rw [AH (AI e hp0)];exact e
 refine callType_codes (Q₁:=fun obj s₁=>obj=.ref s.heap.objs.size/\s₁={ s with heap:=s.heap.push { cls:=.type "dict", data:=.dict #[] } }) PySem.F.kt_called_dict (PySem.F.kt_typeCall_dict_1 _) PySem.F.entry_dict_init (kt_code_dict_new _ ⟨rfl,rfl⟩) ?_;rintro obj s₁ ⟨rfl,rfl⟩;have I1:Inv X aa σ (upd H s.heap.objs.size (.dK [])) { s with heap:=s.heap.push { cls:=.type "dict", data:=.dict #[] } }:=I.laid (a:=s.heap.objs.size) (o:=.dK []) (t':=s.toks) (fun _ _ q=>get?_push_of_some _ q) (Nat.le_refl _) (Hm s.heap I.big);obtain ⟨its,rv,pl,_⟩:=I1.list ((sH (.dK [])).seq hq);have hTd:Shared.TypeIs { s with heap:=s.heap.push { cls:=.type "dict", data:=.dict #[] } } (.ref s.heap.objs.size) "dict" := ⟨_,get?_push_size _ rfl,rfl⟩;refine ⟨hTd,PySem.F.args_dict_init_2 _ _,?_⟩;unfold Builtin.«dict.__init__»;refine wpAny_bind ?_;unfold Builtin.Dict.selfAndRest;refine wpAny_bind (wpAny_notOrdered_dict hTd ?_);show wpAny _ _ (pure (s.heap.objs.size,[Value.ref a])) _ _ _;refine wpAny_pure ?_;show wpAny _ _ (Builtin.Dict.updateFrom "dict.__init__" s.heap.objs.size (.ref a) [] .none) _ _ _;unfold Builtin.Dict.updateFrom;refine wpAny_bind (wpAny_typeOf pl.isList.typeIs ?_);rw [if_pos (by decide)];have hA:X.A.handled=none:=I.ok.hd hc;have hA2:X.A.in1.in1.handled=none:=hA;obtain ⟨ol,nl,hol,ak,hdl,dh⟩:=id pl;obtain ⟨its0,_,⟨o0,_,e0,_⟩,_⟩:=I.list hq;have bh:a < s.heap.objs.size:=lt_size e0;refine wpAny_bind (ID hol ak dh hdl hA2 fun h' tk keep=>?_);have I2:Inv X aa σ (upd H s.heap.objs.size (.dK [])) { s with heap:=h',toks:=tk }:=I1.kept keep;show wpAny _ _ (if (Option.isNone (none:Option Value))=true then _ else _) _ _ _;rw [if_pos (show Option.isNone (none:Option Value)=true from rfl)];refine wpAny_bind (wpAny_rule ?_);refine wpAny_bind (wpAny_pyIter_list (pl.isList.at fun o e=>keep _ o e) ?_)
 have hsz:s.heap.objs.size < h'.objs.size:=by
  have:=keep _ _ (get?_push_size s.heap (o:={ cls:=.type "dict", data:=.dict #[] }) rfl);exact lt_size this
 have I3:Inv X aa σ (upd H s.heap.objs.size (.dK [])) { s with heap:=h'.push { cls:=.type "list_iterator", data:=.fields #[.ref a,.int 0 0] },toks:=tk }:=I2.kept (t':=tk) fun b o e=>get?_push_of_some _ e;have bn:s.heap.objs.size ≠ h'.objs.size:=Nat.ne_of_lt hsz;have hn0:(upd H s.heap.objs.size (.dK [])) h'.objs.size=none:=I2.hok.fresh (Nat.le_refl _);obtain ⟨_,f1,_,f3,f4,f5⟩:=I2.fpOk (Nat.le_refl h'.objs.size) hn0;have hnb:∀ (i:Nat) b q,bs[i]?=some b->ps[i]?=some q->b ≠ s.heap.objs.size/\SqT X.K H b [kV q.1,q.2]:=fun i b q e1 e2=>⟨fun z=>?_,hb i b q e1 e2⟩
 ·refine wpAny_pure ⟨plainId_quiet A7 _,?_⟩;refine O8 (X:=X) (aa:=aa) (σ:=σ) (H:=H) (a:=a) (it:=h'.objs.size) (p:=s.heap.objs.size) (bs:=bs) (ps:=ps) (A:=X.A.in1) hA2 (fun z=>?_) bn hq hl hnb hz (fun kvs=>(sH _).seq hq) (fun kvs b xs _ hT=>?_) (fun kvs=>?_) f1 f3 f4 f5 (ps.length - 0) 0 _ [] (by omega) (Nat.zero_le _) (Nat.le_refl _) I3 ⟨_,get?_push_size _ rfl,rfl,rfl⟩ (fun s' I'=>⟨rfl,.ref s.heap.objs.size,_,I',rfl,q _ hp0⟩)
  ·exact absurd bh (by rw [← z]; exact Nat.lt_irrefl _)
  ·rcases hT with (h | ⟨o,h⟩) | h
   ·exact .inl (.inl (sH _ _ _ h))
   ·exact .inl (.inr ⟨o,sH _ _ _ h⟩)
   ·exact .inr h
  ·rw [AH (Ne.symm bn)];rw [AH (Ne.symm bn)] at hn0;exact hn0
 ·obtain ⟨its2,_,⟨o2,e2',_⟩,_⟩:=I.tuple (hb i b q e1 e2);exact absurd (lt_size e2') (by rw [z]; exact Nat.lt_irrefl _)
end
def NE (wi:TI) (g:TG) (tt:TT) (tk te:TE) (ix:List (Option Nat)) (R:LK->Hp->Prop):St->Hp->Prop:=fun σ H=>wi σ H fun J H1=>∃ W:Nat->Nat->LK->Hp->Prop,(∃ m,W 0 m [] H1)/\∀ i m ys H,W i m ys H ->
 (J.stop i H/\ys.length <= sizeLine/\R ys H) \/
 (J.go i H/\∃ N:LK->Hp->Prop,(∀ ys' H',N ys' H'->ys'.length <= sizeLine/\∃ m',m' < m/\W (i + 1) m' ys' H') /\
  ∀ x H',J.yld i H x H'->g x (B4 ix σ) H' fun σ2 H2=>tt σ2 H2 fun b H3=>if b=true then tk σ2 H3 fun yk H4=>te σ2 H4 fun y H5=>∃ k,yk=kV k/\N (BM ys k y) H5 else N ys H3)
theorem O9 (kvs:LK) (k:Key) (v:V):kvs.length <= (BM kvs k v).length:=by
 unfold BM;split
 ·rw [AF]; exact Nat.le_refl _
 ·rw [length_append]; omega
theorem Ud {s:Heap} (h:sysModules < s.objs.size):(s.objs.size == sysModules)=false:=by
 rw [beq_eq_false_iff_ne];exact Nat.ne_of_gt h
section
variable {N':List Str} {ix:List (Option Nat)} {scope:Scope} {tg iter kx vx:Expr} {ifs:List Expr} {wi:TI} {g:TG} {tt:TT} {tk:TE} {pos':Pos}
theorem NF {RD:Cx->Prop} {use:Option (Value->Sem Unit)} {Qv:VS} (hf:CompFits X.env.scope scope X.N N' ix) (hc:∀ cl s H C fp aa,RD (Ak X N' scope cl s H C fp (X.pn++aa))) (hi:PIg RD X tg iter wi)
  (hg:∀ cl s H C fp pn,PGk (Ak X N' scope cl s H C fp pn) tg ix g) (ht:∀ cl s H C fp pn,PTs (Ak X N' scope cl s H C fp pn) ifs tt) (hk:∀ cl s H C fp pn,PE (Ak X N' scope cl s H C fp pn) kx tk) (he:∀ cl s H C fp pn,PE (Ak X N' scope cl s H C fp pn) vx te)
  (hs:∀ x,foldedSetIterable iter X.env x=pure x) {aa:LO} {s:Shared} {σ:St} {H:Hp} {R:LK->Hp->Prop} (I:Inv X aa σ H s) (h:NE wi g tt tk te ix R σ H)
  (d4:∀ s' ys H' D C m,Inv X aa σ (upd H' D (.dK ys)) s'->R ys H'->H' D=none->s'.heap.Ns C m->X.s₀.heap.objs.size <= C->C ≠ X.env.locals->(∀ x c,X.env.cells.lookup x=some c->c ≠ C)->(∀ p ∈ X.pn++aa,p.1 ≠ C) ->
   upd H' D (.dK ys) C=none->compPost (model X.prog X.w) X.A X.xe use Qv (.ref D) C (.ok .next) s') :
  wpAny (model X.prog X.w) X.A (comprehension (.DictComp kx vx [⟨tg,iter,ifs,0⟩] scope pos) scope X.env pos' newDict false (eval iter X.env) use) Qv X.xe s:=by
 obtain ⟨cl,d5,c1,c2⟩:=N4 (env:=X.env) (scope:=scope) fun y hy hyf=>by
  have:=hf.free y hy hyf;exact I.ok.has y.1 this
 refine wpAny_comprehension_free (use:=use) rfl hs d5 hf.kind hf.loc (thn (hi aa s σ H _ I h) fun v s1 h1=>thn h1 fun itv s2 h2=>?_);obtain ⟨it,fp,tn,J,H2,e,I2,T,st2,f2,W,⟨m0,w0⟩,turn⟩:=h2;subst e
 have hlt:∀ b ∈ fp,b < s2.heap.objs.size:=fun b hb=>by
  obtain ⟨o,e,_⟩:=T.obj _ _ st2 b hb;exact lt_size e
 refine wpAny_newObj_type (wpAny_newFunctionEnv hf.nocell (by intro y hy; simp at hy) (fun h₁ hns₁ hsb₁=>?_) hf.kind)
 dsimp only at hns₁ hsb₁ ⊢
 generalize hH2:s2.heap.push { cls:=.type "dict", data:=.dict #[] }=HP at hns₁ hsb₁ ⊢;have hC:HP.objs.size=s2.heap.objs.size + 1:=by rw [← hH2,size_push]
 have hDC:s2.heap.objs.size ≠ HP.objs.size:=by rw [hC]; exact Nat.ne_of_lt (Nat.lt_succ_self _)
 have hCle:s2.heap.objs.size <= HP.objs.size:=by rw [hC]; exact Nat.le_succ _
 have hCne:∀ b,b < s2.heap.objs.size->b ≠ HP.objs.size:=fun b hb=>by rw [hC]; exact Nat.ne_of_lt (Nat.lt_succ_of_lt hb)
 have old:∀ b o,s2.heap.get? b=some o->h₁.get? b=some o:=fun b o e=>hsb₁.extBut b o (hCne b (lt_size e)) (get?_push_of_some _ (hH2 ▸ get?_push_of_some _ e));have cq:h₁.get? s2.heap.objs.size=some { cls:=.type "dict", data:=.dict #[] }:=hsb₁.extBut _ _ hDC (get?_push_of_some _ (hH2 ▸ get?_push_size _ rfl));generalize hCC:HP.objs.size=C at *;generalize hDD:s2.heap.objs.size=D at *;have IX:=Hs (N':=N') (fp:=fp) I2 hf c1 c2 (by rw [hDD]; exact hCle) f2 (by rw [hDD]; exact hlt) (tk:=s2.toks + ([]:List (Str × Value)).length) old hns₁;have hDn:H2 D=none:=I2.hok.fresh (by rw [hDD]; exact Nat.le_refl _)
 have hDfs:D ∉ frs X.stack:=fun z=>by
  rcases mem_cons.mp (I2.stkSub D z) with q | q
  ·have:=I2.lt; rw [← q,hDD] at this; exact Nat.lt_irrefl _ this
  ·exact I2.nofs (by rw [hDD]; exact Nat.le_refl _) q
 have cellLt:∀ x c,X.env.cells.lookup x=some c->c < D:=fun x c e=>by
  obtain ⟨v,z⟩:=I2.cell x c e;rw [← hDD]; exact z.lt
 have pinLt:∀ p ∈ X.pn++aa,p.1 < D:=fun p hp=>by rw [← hDD]; exact lt_size (I2.pin p hp).1
 have s0D:X.s₀.heap.objs.size <= D:=by rw [← hDD]; exact I2.sz
 have locLt:X.env.locals < D:=by rw [← hDD]; exact I2.lt
 let X':Cx:=Ak X N' scope cl s2 H2 C fp (X.pn++aa)
 have stat:∀ {H':Hp} {ob:Obj},(∀ b ∈ fp,H' b=none)->∀ b ∈ fp,Ek X' [(D,ob)] H' b:=fun {H' ob} hn b hb=>by
  refine ⟨hn b hb,Nat.ne_of_lt (Nat.lt_of_lt_of_le (hlt b hb) hCle),fun z=>?_,.inl hb,fun x c e=>(f2 b hb).2.2.2.2.1 x c (c1 x c e),fun p hp=>?_⟩
  ·exact IX.ok.exfs b hb z
  ·rcases mem_append.mp hp with z | z
   ·exact (f2 b hb).2.2.2.2.2 p z
   ·have e:p=(D,ob):=by simpa using z
    subst e;exact Nat.ne_of_gt (hlt b hb)
 have pinD:∀ {σ':St} {H':Hp} {s':Shared} {ob:Obj},Inv X' [] σ' H' s'->s'.heap.get? D=some ob->H' D=none->(∀ v,ob.data ≠ .cell v)->Inv X' [(D,ob)] σ' H' s':=fun {σ' H' s' ob} Ia e n d =>
  Ia.pins_of fun p hp=>by
   have q:p=(D,ob):=by simpa using hp
   subst q;exact ⟨e,n,hDC,hDfs,d⟩
 have loop:∀ s3:Shared,s3={ s2 with heap:=h₁,toks:=s2.toks + ([]:List (Str × Value)).length } ->
   codeAny (model X.prog X.w) X.A (.compLoop (.DictComp kx vx [⟨tg,iter,ifs,0⟩] scope pos) 0 (.ref it) (.ref D) (compEnvC scope cl C X.env)) (compPost (model X.prog X.w) X.A X.xe use Qv (.ref D) C) s3:=by
  rintro s3 rfl
  refine codeAny_loop rfl (fun n s'=>∃ i ys vs ob H',Inv X' [(D,ob)] (B4 ix σ) H' s'/\tn i s'.heap/\(∀ b ∈ fp,H' b=none)/\W i n ys H'/\KV ys vs/\s'.heap.DictOf (Al X.prog X.w) D vs)
   (fun n s4 hI=>?_) m0 ⟨0,[],[],_,H2,pinD IX cq hDn (fun v z=>by cases z),T.keep _ _ _ st2 (fun b _ o e=>old b o e),fun b hb=>(f2 b hb).1,w0,.nil,by rw [← hDD]; exact Heap.DictOf.at (Heap.DictOf.new s2.heap) fun o e=>by rw [get?_push_size _ rfl] at e; cases e; rw [hDD]; exact cq⟩
  obtain ⟨i,ys,vs,ob,H4,I4,st4,fr4,w4,rv,dd4⟩:=hI;have hDsys:(D == sysModules)=false:=by rw [← hDD]; exact Ud I2.big
  show wpAny _ X.A ((compTurn (.DictComp kx vx [⟨tg,iter,ifs,0⟩] scope pos) 0 (.ref it) (.ref D) (compEnvC scope cl C X.env)).onRaise (fun x=>do noteFrame x (compEnvC scope cl C X.env); theTreesLotGoes x)) _ _ s4;refine wpAny_noted ?_;rw [compTurn_dict];refine C9 ?_;rcases turn i n ys H4 w4 with ⟨stop,hz,r⟩ | ⟨go,N,hN,step⟩
  ·refine wpAny_bind (wpAny_standAt (wpAny_bind (thn (T.done X' rfl rfl rfl (hc _ _ _ _ _ _) i _ s4 _ H4 _ I4 (stat fr4) st4 stop) fun r' s5 ⟨hr,I5⟩=>?_)));subst hr;have pD:=I5.pin (D,_) (mem_append_right _ mem_cons_self);have Ib:Inv X aa σ H4 s5:=Jf I2 f2 I5;have pD4:=I4.pin (D,_) (mem_append_right _ mem_cons_self);have dd5:=dd4.at (h':=s5.heap) fun o e=>by rw [pD4.1] at e; cases e; exact pD.1
   have Ic:Inv X aa σ (upd H4 D (.dK ys)) s5:=Ib.track pD.2.1 (Nat.ne_of_gt locLt) (.inr s0D) (fun x c e=>Nat.ne_of_lt (cellLt x c e)) (fun p hp=>Nat.ne_of_lt (pinLt p hp)) (Hl hz hDsys rv dd5);obtain ⟨m5,n5,_⟩:=I5.loc
   refine wpAny_pure (d4 s5 ys H4 D C m5 Ic r pD.2.1 n5 (Nat.le_trans s0D hCle) (Nat.ne_of_gt (Nat.lt_of_lt_of_le locLt hCle)) (fun x c e=>Nat.ne_of_lt (Nat.lt_of_lt_of_le (cellLt x c e) hCle))
    (fun p hp=>Nat.ne_of_lt (Nat.lt_of_lt_of_le (pinLt p hp) hCle)) ?_)
   rw [AH (Ne.symm hDC)];exact I5.free
  ·refine wpAny_bind (wpAny_standAt (wpAny_bind (thn (T.item X' rfl rfl rfl (hc _ _ _ _ _ _) i _ s4 _ H4 _ I4 (stat fr4) st4 go) fun r' s5 ⟨u,hr,h5⟩=>?_)));subst hr;refine wpAny_bind (thn h5 fun _ s6 ⟨x,H6,I6,r6,y6,st6,fr6⟩=>?_);have I6':=I6.pinned (stat fr6) (T.obj _ _ st6);refine wpAny_bind (thn (hg _ _ _ _ _ _ _ s6 _ H6 x u _ I6' r6 (step x H6 y6)) fun _ s7 ⟨σ7,H7,I7,k7,q7⟩=>?_);refine wpAny_bind (thn (ht _ _ _ _ _ _ _ s7 σ7 H7 _ I7 q7) fun b s8 ⟨H8,I8,q8⟩=>?_)
   have again:∀ {H9:Hp} {s9:Shared} {ys':LK} {vs':List (Key × Value)} {ob':Obj},Inv X' ([(D,ob')]++Cd fp s6.heap) σ7 H9 s9->KV ys' vs'->s9.heap.DictOf (Al X.prog X.w) D vs' ->
     (∃ m',m' < n/\W (i + 1) m' ys' H9)->∃ m,m < n/\∃ i ys vs ob H',Inv X' [(D,ob)] (B4 ix σ) H' s9/\tn i s9.heap/\(∀ b ∈ fp,H' b=none)/\W i m ys H'/\KV ys vs/\s9.heap.DictOf (Al X.prog X.w) D vs:=by
    intro H9 s9 ys' vs' ob' I9 rv' dd' ⟨m',hm,w9⟩;refine ⟨m',hm,i + 1,ys',vs',ob',H9,I9.unpinned.weak (I4.len.trans I9.len.symm) k7,T.keep _ _ _ st6 fun b hb o e=>(I9.pin (b,o) (mem_append_right _ (mem_append_right _ (B8 hb e)))).1,fun b hb=>?_,w9,rv',dd'⟩;obtain ⟨o,e,d⟩:=T.obj _ _ st6 b hb;exact (I9.pin (b,o) (mem_append_right _ (mem_append_right _ (B8 hb e)))).2.1
   have pD4:=I4.pin (D,_) (mem_append_right _ mem_cons_self)
   have dAt:∀ {σ9:St} {H9:Hp} {s9:Shared},Inv X' ([(D,ob)]++Cd fp s6.heap) σ9 H9 s9->s9.heap.DictOf (Al X.prog X.w) D vs:=fun {σ9 H9 s9} I9=>dd4.at fun o e=>by
    rw [pD4.1] at e;cases e;exact (I9.pin (D,_) (mem_append_right _ (mem_append_left _ mem_cons_self))).1
   cases b with
   | false =>
    rw [if_neg Bool.false_ne_true] at q8;exact wpAny_pure ⟨rfl,again I8 rv (dAt I8) (hN _ _ q8).2⟩
   | true =>
    rw [if_pos rfl] at q8;refine wpAny_bind (wpAny_bind (thn (hk _ _ _ _ _ _ _ s8 σ7 H8 _ I8 q8) fun yk s8' ⟨zk,H8',I8',rk,q8'⟩=>?_));refine wpAny_bind (wpAny_holding (thn (he _ _ _ _ _ _ _ s8' σ7 H8' _ I8' q8') fun y s9 ⟨z,H9,I9,r9,kk,ek,q9⟩=>?_));subst ek;refine wpAny_bind (wpAny_standAt ?_);have hz:(BM ys kk z).length <= sizeLine:=(hN _ _ q9).1
    have hzv:vs.length <= sizeLine:=by
     have h1:=O9 ys kk z;rw [← rv.length];omega
    have pD:=I9.pin (D,_) (mem_append_right _ (mem_append_left _ mem_cons_self));refine wpAny_holding (wpAny_dictSet_pairs (hsz:=hzv) (FR rk) (dAt I9) fun h2 dd2 sb2=>?_);obtain ⟨ob2,es2,ep2,q,ex2,dt2,rest2⟩:=id dd2;have Iw:Inv X' (Cd fp s6.heap) σ7 H9 s9:=I9.pins_of fun p hp=>I9.pin p (mem_append_right _ (mem_append_right _ hp))
    have It:Inv X' (Cd fp s6.heap) σ7 H9 { s9 with heap:=h2,toks:=s9.toks + 1 }:=Iw.turned (it:=D) (fun b o hb e=>(sb2.2 b hb).trans e) pD.2.1 hDC
     (.inr (by show s2.heap.objs.size <= D; rw [hDD]; exact Nat.le_refl _)) (fun x c e=>Nat.ne_of_lt (cellLt x c (c1 x c e))) (fun p hp=>by
      rcases mem_append.mp hp with z' | z'
      ·exact Nat.ne_of_lt (pinLt p z')
      ·exact Nat.ne_of_lt (hlt p.1 (F8 z').1))
    refine wpAny_pure ⟨rfl,again (ob':=ob2) (It.pins_of fun p hp=>?_) (rv.put kk r9) dd2 (hN _ _ q9).2⟩;rcases mem_append.mp hp with z' | z'
    ·have e:p=(D,ob2):=by simpa using z'
     subst e;exact ⟨q,pD.2.1,hDC,hDfs,fun v z=>by rw [dt2] at z; cases z⟩
    ·exact It.pin p (mem_append_right _ z')
 exact codeAny_compStart_dict (loop _ rfl) (T.self _ 0 _ _ _ (T.keep _ _ _ st2 fun b _ o e=>old b o e) (loop _ rfl))
theorem Qx (hf:CompFits X.env.scope scope X.N N' ix) (hc:X.calm=true) (hi:PI X tg iter wi)
  (hg:∀ cl s H C fp pn,PGk (Ak X N' scope cl s H C fp pn) tg ix g) (ht:∀ cl s H C fp pn,PTs (Ak X N' scope cl s H C fp pn) ifs tt) (hk:∀ cl s H C fp pn,PE (Ak X N' scope cl s H C fp pn) kx tk) (he:∀ cl s H C fp pn,PE (Ak X N' scope cl s H C fp pn) vx te)
  (hs:∀ x,foldedSetIterable iter X.env x=pure x:=by intro _; rfl) :
  PE X (.DictComp kx vx [⟨tg,iter,ifs,0⟩] scope pos) (fun σ H Q=>NE wi g tt tk te ix (fun ys H'=>∀ p,H' p=none->Q (.ref p) (upd H' p (.dK ys))) σ H):=by
 intro aa s σ H Q I h;rw [arm_eval_DictComp];refine NF (use:=none) hf (fun _ _ _ _ _ _=>hc) hi.g hg ht hk he hs I h fun s' ys H' D C m I' r hD hn h1 h2 h3 h4 h5=>?_;refine ⟨m,hn,fun h'' hs''=>⟨.ref D,_,I'.turned (it:=C) (t':=s'.toks) (fun b o hb e=>(hs''.2 b hb).trans e) h5 h2 (.inr h1) h3 h4,rfl,r D hD⟩⟩
variable {y:Str} {px:Pos}
theorem PB (Nc:List Str) (ixc:List (Option Nat)) (hf:Hq X.env.scope scope X.N (x :: Nc) (none :: ixc)=true) (hnd:(x :: Nc).Nodup) (hx:scope.names.lookup x=some .local) (hc:X.calm=true) (hi:PI X (.Name x px) iter wi)
  (ht:∀ cl s H C fp pn,PTs (Ak X (x :: Nc) scope cl s H C fp pn) ifs tt) (hk:∀ cl s H C fp pn,PE (Ak X (x :: Nc) scope cl s H C fp pn) kx tk) (he:∀ cl s H C fp pn,PE (Ak X (x :: Nc) scope cl s H C fp pn) vx te)
  (hs:∀ x,foldedSetIterable iter X.env x=pure x:=by intro _; rfl) :
  PE X (.DictComp kx vx [⟨.Name x px,iter,ifs,0⟩] scope pos) (fun σ H Q=>NE wi (Cn 0) tt tk te (none :: ixc) (fun ys H'=>∀ p,H' p=none->Q (.ref p) (upd H' p (.dK ys))) σ H) :=
 Qx (CompFits.of hf) hc hi (fun cl s H C fp pn=>FX (AR (i:=0) hnd rfl (.inl (lookup_relabel_local hx)) (.inr (lookup_relabel_local hx)))) ht hk he hs
end
noncomputable def Itk (a:Addr) (o:Obj) (kvs:LK):It:=⟨fun i H=>H a=some (.frz o (.dK kvs))/\i < kvs.length,fun i H x H'=>H'=H/\∃ kv,kvs[i]?=some kv/\x=kV kv.1,fun i H=>H a=some (.frz o (.dK kvs))/\kvs.length <= i⟩
theorem PD {tg:Expr} (a it:Addr) (o:Obj) (kvs:LK) :
  K1 P w K tg (Itk a o kvs) [it] it (fun i h=>h.IsKeyIter it a i kvs.length (Op o)) where
 mem:=by simp
 obj:=fun i h st b hb=>by
  have e:b=it:=by simpa using hb
  subst e;obtain ⟨ob,e,c,d⟩:=st;exact ⟨ob,e,fun v z=>by rw [d] at z; cases z⟩
 keep:=fun i h h' st k=>by
  obtain ⟨ob,e,r⟩:=st;exact ⟨ob,k it (by simp) _ e,r⟩
 item:=by
  intro X hP hw hK hc i aa s σ H E I hf st hg;subst hP hw hK;obtain ⟨hfz,hi⟩:=hg;obtain ⟨z,y,vs,rel,dd⟩:=DA I hfz;have bw:=rel.length;obtain ⟨kv,hkv⟩:∃ kv,kvs[i]?=some kv:=⟨_,List.getElem?_eq_getElem hi⟩;obtain ⟨v,hv,rv⟩:=KV.get rel hkv;obtain ⟨f0,f1,f2,f3,f4,f5⟩:=hf it (by simp);rw [bw] at st;refine wpAny_pyNext_dict_item st dd hv fun key h' cy st' sb=>?_;have I1:Inv X aa σ H { s with heap:=h' }:=I.turned (t':=s.toks) (fun b o hb e=>(sb.2 b hb).trans e) f0 f1 f3 f4 f5;obtain ⟨o',e',c',d'⟩:=id st';exact ⟨key,rfl,K2 (s:={ s with heap:=h' }) e' c' d' (by decide) ⟨kV kv.1,H,I1,FZ cy,⟨rfl,kv,hkv,rfl⟩,by rw [bw]; exact st',fun b hb=>(hf b hb).1⟩⟩
 done:=by
  intro X hP hw hK hc i aa s σ H E I hf st hg;subst hP hw hK;obtain ⟨hfz,hi⟩:=hg;obtain ⟨z,y,vs,rel,dd⟩:=DA I hfz;have bw:=rel.length;rw [bw] at st;obtain ⟨f0,f1,f2,f3,f4,f5⟩:=hf it (by simp);exact wpAny_pyNext_dict_end (I.ok.hd hc) st dd (List.getElem?_eq_none_iff.mpr (by omega)) fun h' eb=>⟨rfl,I.turned (t':=s.toks) (fun b o hb e=>eb b o hb e) f0 f1 f3 f4 f5⟩
 self:=fun _ _ _ _ _ st h=>wpAny_pyIter_keyiter st h
def Vt (to:TE):TI:=fun σ H R=>to σ H fun x H1=>∃ a o kvs,x=.ref a/\H1 a=some (.frz o (.dK kvs))/\R (Itk a o kvs) H1
theorem OE {tg o:Expr} {to:TE} (ho:PE X o to):PI X tg o (Vt to):=by
 intro aa s σ H R I h;refine thn (ho aa s σ H _ I h) fun v s1 ⟨x,H1,I1,r1,a,ob,kvs,ex,hfz,q⟩=>?_;subst ex;cases r1;obtain ⟨z,y,vs,rel,dd⟩:=DA I1 hfz;refine wpAny_pyIter_dict y dd ?_;refine ⟨_,[_],_,_,H1,rfl,I1.kept (t':=s1.toks) fun b o e=>get?_push_of_some _ e,PD a _ ob kvs,⟨_,get?_push_size _ rfl,rfl,by rw [rel.length]; rfl⟩,fun b hb=>?_,q⟩;have e:b=s1.heap.objs.size:=by simpa using hb
 subst e;exact I1.fpOk (Nat.le_refl _) (I1.hok.fresh (Nat.le_refl _))
theorem PF {o:Obj} {kvs:LK} {g:TG} {tt:TT} {ix:List (Option Nat)} {R:List V->Hp->Prop} {H1:Hp} (Pv:Nat->List V->Hp->Prop) (h0:Pv 0 [] H1) (hl:∀ i ys H,Pv i ys H->H a=some (.frz o (.dK kvs))) (hz:∀ i ys H,Pv i ys H->ys.length <= 1000)
  (hs:∀ i kv ys H,kvs[i]?=some kv->Pv i ys H->g (kV kv.1) (B4 ix σ) H fun σ2 H2=>tt σ2 H2 fun b H3=>if b=true then te σ2 H3 fun y H4=>Pv (i + 1) (ys++[y]) H4 else Pv (i + 1) ys H3) (hd:∀ ys H,Pv kvs.length ys H->R ys H) :
  ∃ W:Nat->Nat->List V->Hp->Prop,(∃ m,W 0 m [] H1)/\∀ i m ys H,W i m ys H ->
   ((Itk a o kvs).stop i H/\ys.length <= sizeLine/\R ys H) \/
   ((Itk a o kvs).go i H/\∃ N:List V->Hp->Prop,(∀ ys' H',N ys' H'->ys'.length <= sizeLine/\∃ m',m' < m/\W (i + 1) m' ys' H') /\
    ∀ x H',(Itk a o kvs).yld i H x H'->g x (B4 ix σ) H' fun σ2 H2=>tt σ2 H2 fun b H3=>if b=true then te σ2 H3 fun y H4=>N (ys++[y]) H4 else N ys H3):=by
 refine ⟨fun i m ys H=>m=kvs.length - i/\i <= kvs.length/\Pv i ys H,⟨_,rfl,Nat.zero_le _,h0⟩,?_⟩;rintro i m ys H ⟨rfl,hi,hp⟩;by_cases hlt:i < kvs.length
 ·refine .inr ⟨⟨hl i ys H hp,hlt⟩,Pv (i + 1),fun ys' H' q=>⟨Nat.le_of_lt (Ab (hz _ ys' H' q)),kvs.length - (i + 1),by omega,rfl,hlt,q⟩,?_⟩;rintro x H' ⟨rfl,kv,hkv,rfl⟩;exact hs i kv ys _ hkv hp
 ·have e:i=kvs.length:=by omega
  subst e;exact .inl ⟨⟨hl _ ys H hp,Nat.le_refl _⟩,Nat.le_of_lt (Ab (hz _ ys H hp)),hd ys H hp⟩
theorem NG {o:Obj} {kvs:LK} {g:TG} {tt:TT} {tk:TE} {ix:List (Option Nat)} {R:LK->Hp->Prop} {H1:Hp} (Pv:Nat->LK->Hp->Prop) (h0:Pv 0 [] H1) (hl:∀ i ys H,Pv i ys H->H a=some (.frz o (.dK kvs))) (hz:∀ i ys H,Pv i ys H->ys.length <= 1000)
  (hs:∀ i kv ys H,kvs[i]?=some kv->Pv i ys H->g (kV kv.1) (B4 ix σ) H fun σ2 H2=>tt σ2 H2 fun b H3=>if b=true then tk σ2 H3 fun yk H4=>te σ2 H4 fun y H5=>∃ k,yk=kV k/\Pv (i + 1) (BM ys k y) H5 else Pv (i + 1) ys H3) (hd:∀ ys H,Pv kvs.length ys H->R ys H) :
  ∃ W:Nat->Nat->LK->Hp->Prop,(∃ m,W 0 m [] H1)/\∀ i m ys H,W i m ys H ->
   ((Itk a o kvs).stop i H/\ys.length <= sizeLine/\R ys H) \/
   ((Itk a o kvs).go i H/\∃ N:LK->Hp->Prop,(∀ ys' H',N ys' H'->ys'.length <= sizeLine/\∃ m',m' < m/\W (i + 1) m' ys' H') /\
    ∀ x H',(Itk a o kvs).yld i H x H'->g x (B4 ix σ) H' fun σ2 H2=>tt σ2 H2 fun b H3=>if b=true then tk σ2 H3 fun yk H4=>te σ2 H4 fun y H5=>∃ k,yk=kV k/\N (BM ys k y) H5 else N ys H3):=by
 refine ⟨fun i m ys H=>m=kvs.length - i/\i <= kvs.length/\Pv i ys H,⟨_,rfl,Nat.zero_le _,h0⟩,?_⟩;rintro i m ys H ⟨rfl,hi,hp⟩;by_cases hlt:i < kvs.length
 ·refine .inr ⟨⟨hl i ys H hp,hlt⟩,Pv (i + 1),fun ys' H' q=>⟨Nat.le_of_lt (Ab (hz _ ys' H' q)),kvs.length - (i + 1),by omega,rfl,hlt,q⟩,?_⟩;rintro x H' ⟨rfl,kv,hkv,rfl⟩;exact hs i kv ys _ hkv hp
 ·have e:i=kvs.length:=by omega
  subst e;exact .inl ⟨⟨hl _ ys H hp,Nat.le_refl _⟩,Nat.le_of_lt (Ab (hz _ ys H hp)),hd ys H hp⟩
section
noncomputable def Qy (xs:List V) (k:Nat) (y:V):List V:=xs.take k++y :: xs.drop k
def S4:V->List V->Hp->VK->Prop:=fun x vs H Q=>∃ (l:Addr) (xs:List V) (k:Nat) (y:V),x=.ref l/\vs=[.int (k:Int),y]/\H l=some (.lst xs)/\k <= xs.length/\xs.length <= 1000/\Q .non (upd H l (.lst (Qy xs k y)))
theorem PJ:MtM X "list.insert" S4:=by
 intro aa s σ H x vs v us Q I rx rv h;obtain ⟨l,xs,k,y,rfl,rfl,hH,hk,hz,q⟩:=h;cases rx;obtain ⟨u1,u2,rfl,⟨t,rfl⟩,ru⟩:=FO rv;obtain ⟨z,its,n,r,hl,e⟩:=I.lstM hH;have bw:=r.length;have hk62:(k:Int) < 2 ^ 63:=by omega
 have hfit:¬ (!Builtin.List.listFitsIndex (k:Int))=true:=by
  have h1:-(2 ^ 63) <= (k:Int):=by omega
  have h2:=fitsIndex_both h1 hk62;intro z;rw [h2] at z;cases z
 have hsz:its.toArray.size <= sizeLine:=by rw [size_toArray,← bw]; exact z
 generalize hx:(k:Int)=x at hfit ⊢;refine call_meets F.slot_list_insert ⟨_,e,rfl⟩ F.entry_list_insert (F.args_list_insert_3 _ _ _) (PySem.AutoSeq1.list_insert_list_int_val_1 l its.toArray n x t u2 hfit hsz) ⟨e,?_⟩;refine ⟨.non,_,I.lset (its':=its.take k++u2 :: its.drop k) hH e ?_ ?_ ?_,rfl,q⟩
 ·have hk':(if x < 0 then (x + ((its.toArray.size:Nat):Int)).toNat else min x.toNat its.toArray.size)=k:=by
   rw [if_neg (by omega),size_toArray];omega
  show (its.toArray.extract 0 (if x < 0 then (x + ((its.toArray.size:Nat):Int)).toNat else min x.toNat its.toArray.size)).push u2++its.toArray.extract (if x < 0 then (x + ((its.toArray.size:Nat):Int)).toNat else min x.toNat its.toArray.size)=_;rw [hk'];apply Array.toList_inj.mp;simp;exact take_of_length_le (by rw [List.length_drop]; exact Nat.le_refl _)
 ·exact Vals.append (r.take _) (.cons ru (r.drop _))
 ·unfold Qy;have:(1001:Nat) <= sizeLine:=by decide
  rw [length_append,length_cons,length_take,List.length_drop];omega
end
section
theorem Ka (l:Addr) (items:Array Value) (n:Nat) (b:Addr) (o2:Obj) (ai:Array Value) (n2:Nat) (hc:o2.cls=.type "tuple") (hd:o2.data=.seq ai n2) (hs0:¬(!items.isEmpty && Builtin.List.listTooLong (items.size + ai.size))=true) (hs1:items.size <= sizeLine) (hs2:items.size + ai.size <= sizeLine + 1) :
  Meets (Builtin.«list.extend» ⟨[.ref l,.ref b],[]⟩) (fun _ R s=>s.heap.get? l=some { cls:=.type "list", dict:=none,data:=.seq items n,slots:=#[] }/\s.heap.get? b=some o2/\R (.ok (.ret Value.none)) { s with heap:=s.heap.update l (Obj.mapSeq fun x=>x++ai),toks:=s.toks }) :=
 .of_wp fun prog w A R s h=>by
  obtain ⟨hp,g,d,tk,os⟩:=s; obtain ⟨hl,hb,h⟩:=h;obtain ⟨oc,od,oda,osl⟩:=o2;simp only at hc hd;subst hc hd;have q0:=AutoSeq1.idx_int;have q1:=AutoSeq1.sub_tuple_tuple;have q2:=AutoSeq1.sub_tuple_list;have q3:=AutoSeq1.sub_list_list;have q4:=AutoSeq1.sub_list_tuple
  have q5:(items++ai).size <= sizeLine + 1:=by
   rw [Array.size_append];exact hs2
  wp_walk using AutoSeq1.wpAny_loadPart' hl,AutoSeq1.wpAny_loadPart' hb,(wpAny_updateSeq hl rfl (hz:=hs1) (_hz':=q5))
  exact ⟨_,rfl,h⟩
def Qz:V->List V->Hp->VK->Prop:=fun x vs H Q=>∃ l b xs zs,x=.ref l/\vs=[.ref b]/\H l=some (.lst xs)/\H b=some (.tup zs)/\xs.length + zs.length <= sizeLine/\Q .non (upd H l (.lst (xs++zs)))
theorem NH:MtM X "list.extend" Qz:=by
 intro aa s σ H x vs v us Q I rx rv h;obtain ⟨l,b,xs,zs,rfl,rfl,hH,hB,hz,q⟩:=h;cases rx;obtain ⟨u,rfl,ru⟩:=rv.one;cases ru;obtain ⟨z,its,n,r,hl,e⟩:=I.lstM hH;obtain ⟨its2,r2,⟨o2,e2,hc2,n2,hd2⟩,_⟩:=I.tuple (SqT.of hB);have hl2:=r2.length;have hsz:its.toArray.size + its2.toArray.size <= sizeLine:=by rw [size_toArray,size_toArray]; omega
 have hlong:¬ (!its.toArray.isEmpty && Builtin.List.listTooLong (its.toArray.size + its2.toArray.size))=true:=by
  rw [QN hsz,Bool.and_false];exact Bool.false_ne_true
 refine call_meets F.slot_list_extend ⟨_,e,rfl⟩ F.entry_list_extend (F.args_list_extend_2 _ _)
  (Ka l its.toArray n b o2 its2.toArray n2 hc2 hd2 hlong (by rw [size_toArray]; omega) (by omega)) ⟨e,e2,?_⟩
 refine ⟨.non,_,I.lset (its':=its++its2) hH e (by simp) (r.append r2) ?_,rfl,q⟩;rw [length_append];omega
end
section
def Vu (i j k:Nat) (ta:TA):TS:=fun D σ H=>ta σ H fun vs H1=>∃ v w z,vs=[v,w,z]/\D.nx (((σ.set k (some z)).set j (some w)).set i (some v)) H1
theorem S5 {i j k:Nat} {y z:Str} {a b c:Expr} {ta:TA} {px py pz pt:Pos} {kt k2 pt2} (hc:X.calm=true) (hN:X.N.Nodup) (hi:X.N[i]?=some x) (hj:X.N[j]?=some y) (hk:X.N[k]?=some z)
  (hx:X.env.scope.names.lookup x=some .local) (hy:X.env.scope.names.lookup y=some .local) (hz:X.env.scope.names.lookup z=some .local) (ha:PA X [a,b,c] ta)
  (hw:swappedStores [.Tuple [.Name x px,.Name y py,.Name z pz] kt pt] (.Tuple [a,b,c] k2 pt2) X.env=pure (some [x,y,z]))
  (hs:swapsWithSole [.Tuple [.Name x px,.Name y py,.Name z pz] kt pt] (.Tuple [a,b,c] k2 pt2) pos.line X.env=pure false:=by rfl) :
  PS X (.Assign [.Tuple [.Name x px,.Name y py,.Name z pz] kt pt] (.Tuple [a,b,c] k2 pt2) pos) (Vu i j k ta):=by
 intro aa s σ H D I h;rw [exec_Assign_arm];refine wpAny_bind (wpAny_standAt ?_);rw [hs];refine wpAny_bind (wpAny_pure ?_);rw [if_neg (by decide)];refine wpAny_bind (Tuple_ (thn (ha _ aa s σ H _ I h) fun us s1 ⟨vs,H1,I1,r1,q1⟩=>?_));obtain ⟨v,w,t,e1,q1⟩:=q1;subst e1
 obtain ⟨u1,u2,u3,rfl,rv,rw',rt⟩:∃ u1 u2 u3,us=[u1,u2,u3]/\RelV v u1/\RelV w u2/\RelV t u3:=by
  cases r1 with
  | cons p q =>
   cases q with
   | cons p' q' =>
    cases q' with
    | cons p'' q'' =>
     cases q'';exact ⟨_,_,_,rfl,p,p',p''⟩
 refine wpAny_newObj_type ?_ sl3;have I2:Inv X aa σ H1 { s1 with heap:=s1.heap.push { cls:=.type "tuple", data:=.seq [u1,u2,u3].toArray } }:=I1.kept (t':=s1.toks) fun b o e=>get?_push_of_some _ e;rw [hw];refine wpAny_bind (wpAny_pure ?_);show wpAny (model X.prog X.w) X.A (do rule "assign.swapped-stores"; let items ← unpackItems (.ref s1.heap.objs.size) 3 none; assignInOrder [fun v=>bindName X.env z v,fun v=>bindName X.env y v,fun v=>bindName X.env x v] items.reverse; pure Flow.next) _ _ _;refine wpAny_bind (wpAny_rule (wpAny_bind (unpackItems_tuple (items:=#[u1,u2,u3]) (I.ok.hd hc) (IsTup.new s1.heap _) fun h' hx'=>?_)));have I3:=I2.kept (h':=h') (t':=s1.toks) fun b o e=>hx' b o (Nat.ne_of_lt (lt_size e)) e;show wpAny _ _ (assignInOrder [fun v=>bindName X.env z v,fun v=>bindName X.env y v,fun v=>bindName X.env x v] [u3,u2,u1] >>= fun _=>pure Flow.next) _ _ _;refine wpAny_bind (assignInOrder_cons (wpAny_bindName (By I3 hN hk (.inl hz) rt (fun s2 I4=>?_) (.inr hz))));refine assignInOrder_cons (wpAny_bindName (By I4 hN hj (.inl hy) rw' (fun s3 I5=>?_) (.inr hy)));refine assignInOrder_cons (wpAny_bindName (By I5 hN hi (.inl hx) rv (fun s4 I6=>assignInOrder_nil (wpAny_pure ?_)) (.inr hx)));exact ⟨_,H1,I6,q1⟩
end
section
theorem Q0 {prog:Program} {t b:Addr} {vs ws:List Value} {Q:VS} (ht:IsTup s.heap t vs.toArray) (hb:IsTup s.heap b ws.toArray) (hv:vs=[]) (h:Q (.ref b) s) :
  wpAny (model prog w) A (binaryOp .Add (.ref t) (.ref b)) Q E s:=by
 obtain ⟨⟨cls,dd,data,sl⟩,ho,hc,n,hd⟩:=id ht;obtain ⟨⟨cls2,dd2,data2,sl2⟩,ho2,hc2,n2,hd2⟩:=id hb;simp only at hc hd hc2 hd2;subst hc hd hc2 hd2
 exact concat_meets ⟨_,ho,rfl⟩ ⟨_,ho2,rfl⟩ noFill_tuple_add seq_tuple_add PySem.F.slot_tuple_add PySem.F.entry_tuple_add (PySem.F.args_tuple_add_2 _ _)
  (tuple_addW0 t b vs.toArray ws.toArray n n2 dd dd2 sl sl2 (by simp [hv])) ⟨ho,ho2,h⟩
def Ue (K:FG):R2:=fun x y H Q=>∃ a b xs ys,x=.ref a/\y=.ref b/\SqT K H a xs/\SqT K H b ys/\xs.length + ys.length <= sizeLine /\
 (xs=[]->Q (.ref b) H)/\(xs ≠ []->ys=[]->Q (.ref a) H)/\(xs ≠ []->ys ≠ []->∀ p,H p=none->Q (.ref p) (upd H p (.tup (xs++ys))))
theorem Q3 (K:FG) (hK:X.K=K):OpR X (binaryOp .Add) (Ue K):=by
 subst hK;intro aa s σ H x y v u Q I rx ry h;obtain ⟨a,b,xs,ys,rfl,rfl,ha,hb,hz,q0,q1,q2⟩:=h;cases rx;cases ry;by_cases e:xs=[]
 ·obtain ⟨its,r1,p1,_⟩:=I.tuple ha;obtain ⟨its2,r2,p2,_⟩:=I.tuple hb;exact Q0 p1 p2 (r1.nil_iff.mpr e) ⟨.ref b,H,I,rfl,q0 e⟩
 ·exact Ny aa s σ H (.ref a) (.ref b) _ _ Q I rfl rfl ⟨a,b,xs,ys,rfl,rfl,ha,hb,e,hz,q1 e,q2 e⟩
end
end L2
end
section
namespace MK
open PySem
theorem CW (a b:Nat):Builtin.bitAnd (a:Int) (b:Int)=((a &&& b:Nat):Int):=by
 rw [PyProof.Rows.bitAnd_pp (Int.natCast_nonneg _) (Int.natCast_nonneg _)]; simp
theorem DR (a b:Nat):Builtin.bitOr (a:Int) (b:Int)=((a ||| b:Nat):Int):=by
 have ha:¬ (0:Int) <= Builtin.bitNot (a:Int):=by unfold Builtin.bitNot; omega
 have hb:¬ (0:Int) <= Builtin.bitNot (b:Int):=by unfold Builtin.bitNot; omega
 unfold Builtin.bitOr;rw [PyProof.Rows.bitAnd_nn ha hb];have e:∀ n:Nat,(Builtin.bitNot (Builtin.bitNot (n:Int))).toNat=n:=fun n=>by unfold Builtin.bitNot; omega
 rw [e a,e b];unfold Builtin.bitNot; omega
theorem Et (a b:Nat):Builtin.bitAnd (a:Int) (Builtin.bitNot (b:Int))=((a - (a &&& b):Nat):Int):=by
 rw [PyProof.Rows.bitAnd_not,CW];have:a &&& b <= a:=Nat.and_le_left;omega
noncomputable def AQ (l:List Nat):Nat:=l.foldl (· ||| ·) 0
theorem Fg (k:Nat):∀ (l:List Nat) (a:Nat),(l.foldl (· ||| ·) a).testBit k=(a.testBit k || l.any (·.testBit k))
 | [],a=>by simp
 | x :: r,a=>by rw [foldl_cons,Fg k r,Nat.testBit_or,any_cons,Bool.or_assoc]
theorem A9 (l:List Nat) (k:Nat):(AQ l).testBit k=l.any (·.testBit k):=by
 unfold AQ; rw [Fg]; simp
theorem Fh {l:List Nat} {m:Nat} (h:∀ n ∈ l,n < 2 ^ m):AQ l < 2 ^ m:=by
 have:∀ (l:List Nat) (a:Nat),a < 2 ^ m->(∀ n ∈ l,n < 2 ^ m)->l.foldl (· ||| ·) a < 2 ^ m:=by
  intro l;induction l with
  | nil=>intro a ha _; exact ha
  | cons x r ih=>intro a ha hl; exact ih _ (Nat.or_lt_two_pow ha (hl x mem_cons_self)) fun n hn=>hl n (mem_cons_of_mem _ hn)
 exact this l 0 (Nat.two_pow_pos m) h
theorem DS (l:List Nat) (n:Nat):AQ (l++[n])=AQ l ||| n:=by unfold AQ; rw [foldl_append]; rfl
noncomputable def Ay (n:Nat):Bool:=decide (0 < n) && decide (n &&& (n - 1)=0)
theorem NI (k:Nat):Ay (2 ^ k)=true:=by
 unfold Ay;have h0:0 < 2 ^ k:=Nat.two_pow_pos k
 have h1:2 ^ k &&& (2 ^ k - 1)=0:=by
  apply Nat.eq_of_testBit_eq;intro i;rw [Nat.testBit_and,Nat.testBit_two_pow,Nat.testBit_two_pow_sub_one,Nat.zero_testBit];by_cases e:k=i
  ·subst e; simp
  ·simp [e]
 simp [h0,h1]
theorem CK {n:Nat} (h:Ay n=true):∃ k,n=2 ^ k:=by
 unfold Ay at h;simp only [Bool.and_eq_true,decide_eq_true_eq] at h;obtain ⟨h0,h1⟩:=h;refine ⟨n.log2,?_⟩;have hlo:2 ^ n.log2 <= n:=Nat.log2_self_le (by omega);have hhi:n < 2 ^ (n.log2 + 1):=Nat.lt_log2_self;rcases Nat.eq_or_lt_of_le hlo with e | hlt
 ·exact e.symm
 ·exfalso
  have b1:n.testBit n.log2=true:=by
   rw [Nat.testBit_eq_decide_div_mod_eq];simp
   have:n / 2 ^ n.log2=1:=by
    apply Nat.div_eq_of_lt_le <;> (try rw [Nat.pow_succ] at hhi) <;> omega
   rw [this]
  have b2:(n - 1).testBit n.log2=true:=by
   rw [Nat.testBit_eq_decide_div_mod_eq];simp
   have:(n - 1) / 2 ^ n.log2=1:=by
    apply Nat.div_eq_of_lt_le <;> (try rw [Nat.pow_succ] at hhi) <;> omega
   rw [this]
  have:(n &&& (n - 1)).testBit n.log2=true:=by rw [Nat.testBit_and,b1,b2]; rfl
  rw [h1,Nat.zero_testBit] at this;cases this
noncomputable def DT (n:Nat):List Nat:=(List.range 42).filter fun k=>n.testBit k
theorem IF {α:Type} [DecidableEq α] {p:α->Bool}:∀ {l:List α} {a:α},l.Nodup->a ∈ l->(∀ b ∈ l,p b=true ↔ b=a)->l.filter p=[a]
 | [],_,_,h,_=>by cases h
 | b :: r,a,hn,ha,hp=>by
  obtain ⟨n1,n2⟩:=nodup_cons.mp hn;by_cases e:b=a
  ·subst e;have hb:p b=true:=(hp b mem_cons_self).mpr rfl;rw [filter_cons,if_pos hb];congr 1;apply List.filter_eq_nil_iff.mpr;intro c hc hpc;have:=(hp c (mem_cons_of_mem _ hc)).mp hpc;exact n1 (this ▸ hc)
  ·have hb:¬ p b=true:=fun z=>e ((hp b mem_cons_self).mp z);rw [filter_cons,if_neg hb];rcases mem_cons.mp ha with z | z
   ·exact absurd z.symm e
   ·exact IF n2 z fun c hc=>hp c (mem_cons_of_mem _ hc)
theorem JL {n:Nat} (hn:n < 2 ^ 42):decide ((DT n).length=1)=Ay n:=by
 rw [Bool.eq_iff_iff,decide_eq_true_eq];constructor
 ·intro h;obtain ⟨k,hk⟩:∃ k,DT n=[k]:=List.length_eq_one_iff.mp h
  have mem:∀ i,i < 42->(n.testBit i=true ↔ i=k):=fun i hi=>by
   have:i ∈ DT n ↔ i=k:=by rw [hk]; simp
   unfold DT at this;rw [mem_filter] at this;constructor
   ·intro hb; exact this.mp ⟨mem_range.mpr hi,hb⟩
   ·intro e; exact (this.mpr e).2
  have hk42:k < 42:=by
   have:k ∈ DT n:=by rw [hk]; simp
   unfold DT at this;exact mem_range.mp (mem_filter.mp this).1
  have e:n=2 ^ k:=by
   apply Nat.eq_of_testBit_eq;intro i;rw [Nat.testBit_two_pow];by_cases hi:i < 42
   ·rw [Bool.eq_iff_iff,mem i hi,decide_eq_true_eq]; exact eq_comm
   ·have h1:n.testBit i=false:=Nat.testBit_lt_two_pow (Nat.lt_of_lt_of_le hn (Nat.pow_le_pow_right (by decide) (by omega)));rw [h1]; symm; rw [decide_eq_false_iff_not]; omega
  rw [e]; exact NI k
 ·intro h;obtain ⟨k,rfl⟩:=CK h;have hk:k < 42:=(Nat.pow_lt_pow_iff_right (by decide)).mp hn
  have:DT (2 ^ k)=[k]:=by
   unfold DT;refine IF List.nodup_range (mem_range.mpr hk) fun b _=>?_;rw [Nat.testBit_two_pow,decide_eq_true_eq]; exact eq_comm
  rw [this]; rfl
noncomputable def Bd (m:Nat):Nat:=2 ^ (Builtin.Int.intBits (m:Int))
theorem Dw {m:Nat} (h:0 < m):Builtin.Int.intBits (m:Int)=m.log2 + 1:=by
 unfold Builtin.Int.intBits;have:((m:Int) == 0)=false:=by rw [beq_eq_false_iff_ne]; omega
 rw [this]; simp
theorem Lh {m k:Nat} (h1:m < 2 ^ k) (h2:k=0\/2 ^ (k - 1) <= m):2 ^ k=Bd m:=by
 unfold Bd;congr 1;rcases Nat.eq_zero_or_pos m with e | hm
 ·subst e
  have:k=0:=by
   rcases h2 with z | z
   ·exact z
   ·have:=Nat.two_pow_pos (k - 1); omega
  rw [this]; rfl
 ·rw [Dw hm];rcases h2 with z | z
  ·subst z; simp at h1; omega
  ·have hk:0 < k:=by rcases Nat.eq_zero_or_pos k with e | e
                     ·subst e; simp at h1; omega
                     ·exact e
   have e:m.log2=k - 1:=by
    apply Nat.le_antisymm
    ·have:m.log2 < k:=(Nat.log2_lt (by omega)).mpr h1;omega
    ·exact (Nat.le_log2 (by omega)).mpr z
   omega
theorem Q4:∀ {l:List Nat} {a:Nat},(∀ n ∈ l,Ay n=true)->l.Pairwise (· < ·)->(∀ n ∈ l,a &&& n=0)->a + l.sum=l.foldl (· ||| ·) a
 | [],a,_,_,_=>by simp
 | n :: r,a,hm,hp,ha=>by
  obtain ⟨p1,p2⟩:=List.pairwise_cons.mp hp;have han:=ha n mem_cons_self
  have e:a ||| n=a + n:=by
   have h:=PyProof.Rows.bitOr_and (a:Int) (n:Int);rw [DR,CW,han] at h;omega
  rw [sum_cons,foldl_cons,← Q4 (a:=a ||| n) (fun m hm'=>hm m (mem_cons_of_mem _ hm')) p2 (fun m hm'=>?_),e]
  ·omega
  ·obtain ⟨i,rfl⟩:=CK (hm n mem_cons_self);obtain ⟨j,rfl⟩:=CK (hm m (mem_cons_of_mem _ hm'));have hlt:=p1 _ hm';have haj:=ha _ (mem_cons_of_mem _ hm');apply Nat.eq_of_testBit_eq;intro t;rw [Nat.testBit_and,Nat.testBit_or,Nat.zero_testBit];have h1:(a &&& 2 ^ j).testBit t=false:=by rw [haj]; exact Nat.zero_testBit t
   rw [Nat.testBit_and] at h1;rw [Bool.and_or_distrib_right,h1,Nat.testBit_two_pow,Nat.testBit_two_pow];have:i ≠ j:=fun e=>by subst e; omega
   by_cases e1:i=t
   ·have:¬ j=t:=by omega
    simp [this]
   ·simp [e1]
theorem PL {l:List Nat} (hm:∀ n ∈ l,Ay n=true) (hp:l.Pairwise (· < ·)):l.sum=AQ l:=by
 have:=Q4 (a:=0) hm hp (fun n _=>by simp);unfold AQ;omega
end MK
end
end
variable {P:PySem.Program} {w:PySem.World} {K:FG} {mg:SV} {base:PySem.Heap} {f:PySem.Addr} {fd:PySem.FuncData} {H:L2.Hp} {H':L2.Hp} {due:Aa} {ac:Aa} {C:PySem.Addr} {VC:PySem.Addr} {EC:PySem.Addr}
section
namespace Mk
open PySem L2 MK
noncomputable def top (i:Nat):Stmt:=PySem.Challenge.pw_markworks_k53_whole_editions_put_togethe.main.body.getD i (.Pass ⟨0,0,0,0⟩)
noncomputable abbrev BC:Stmt:=inClass (top 2) 0
noncomputable abbrev DU:Stmt:=inClass (top 7) 0
noncomputable abbrev Eu:Stmt:=inClass (top 12) 0
noncomputable abbrev IG:Stmt:=top 19
noncomputable abbrev Kb:Stmt:=top 20
noncomputable abbrev Kc:Stmt:=top 21
noncomputable abbrev IH:Stmt:=top 22
noncomputable abbrev II:Stmt:=top 23
noncomputable abbrev GJ:Stmt:=top 24
noncomputable abbrev GQ:Stmt:=top 25
noncomputable abbrev Ev:Stmt:=top 26
noncomputable abbrev DV:Stmt:=top 27
noncomputable abbrev Ew:Stmt:=top 28
noncomputable abbrev GS:Stmt:=top 29
noncomputable abbrev Dx:Stmt:=top 30
noncomputable abbrev BZ:Stmt:=inClass (top 31) 0
noncomputable abbrev GY:Stmt:=inClass (top 31) 1
noncomputable abbrev Dy:Stmt:=inClass (top 31) 2
noncomputable abbrev Ex:Stmt:=inClass (top 31) 5
noncomputable abbrev Ey:Stmt:=inClass (top 31) 6
noncomputable abbrev GZ:Stmt:=inClass (top 31) 7
noncomputable abbrev Kd:Stmt:=inClass (top 31) 8
noncomputable abbrev Ga:Stmt:=top 34
noncomputable abbrev Ke:Stmt:=top 35
noncomputable abbrev Ez:Stmt:=inClass (top 36) 0
noncomputable abbrev DW:Stmt:=inClass (top 36) 1
noncomputable abbrev E1:Stmt:=inClass (top 36) 2
noncomputable abbrev Dz:Stmt:=inClass (top 36) 3
noncomputable abbrev E2:Stmt:=inClass (top 36) 4
noncomputable abbrev IJ:Stmt:=inClass (top 36) 5
noncomputable abbrev OF:Stmt:=top 37
noncomputable abbrev Fi:Stmt:=top 38
noncomputable abbrev IK:Stmt:=top 40
noncomputable abbrev IL:Stmt:=top 41
noncomputable abbrev DX:Stmt:=inClass (top 42) 0
noncomputable abbrev DY:Stmt:=inClass (top 42) 1
noncomputable abbrev C1:Stmt:=inClass (top 42) 2
noncomputable abbrev Bh:Stmt:=inClass (top 42) 3
noncomputable abbrev CP:Stmt:=inClass (top 42) 4
noncomputable abbrev C2:Stmt:=inClass (top 42) 8
noncomputable abbrev Be:Stmt:=inClass (top 42) 9
noncomputable abbrev IM:Stmt:=top 44
noncomputable abbrev Gb:Stmt:=top 45
noncomputable abbrev IN:Stmt:=top 46
noncomputable abbrev E3:Stmt:=top 47
noncomputable abbrev D0:Stmt:=top 48
noncomputable abbrev Am:Stmt:=top 49
noncomputable abbrev E4:Stmt:=top 50
noncomputable abbrev E5:Stmt:=top 51
noncomputable abbrev CA:Stmt:=top 52
noncomputable abbrev D3:Stmt:=top 53
noncomputable abbrev DZ:Stmt:=top 54
noncomputable abbrev D4:Stmt:=top 55
noncomputable abbrev E6:Stmt:=top 56
noncomputable abbrev CY:Stmt:=top 57
structure Fn (P:Program) (w:World) (K:FG) (mg:SV) (base:Heap) (x:Str) (k:Nat) (ps:List Str) (sp:Sp):Prop where
 ex:∃ f fd,Ac P w K mg base CX0 k f fd ps sp/\mg x=some (.ref f)/\W.keepIn K (.ref f)=true/\Binds K fd ps []
structure Bl (mg:SV):Prop where
 len:mg "len" = none
 isi:mg "isinstance" = none
 max:mg "max" = none
 min:mg "min" = none
 range:mg "range" = none
 list:mg "list" = none
 tuple:mg "tuple" = none
 sorted:mg "sorted" = none
 sum:mg "sum" = none
 all:mg "all" = none
 enum:mg "enumerate" = none
 int:mg "int" = none
 bool:mg "bool" = none
 str:mg "str" = none
noncomputable def A4 (ns:List Nat):List V:=ns.map fun (n:Nat)=>V.int (n:Int)
section
def IP:Sp:=fun vs H Q _=>∃ n:Nat,vs=[.int (n:Int)]/\Q (.bl (Ay n)) H
theorem Q5:AM ["number"] ["number"] (defScope Kc):=fsc
theorem NJ (n:Nat):(decide (0 < (n:Int)) && decide (V.int (Builtin.bitAnd (n:Int) ((n:Int) - 1))=V.int 0))=Ay n:=by
 unfold Ay;rcases Nat.eq_zero_or_pos n with e | h
 ·subst e; rfl
 ·have e1:((n:Int) - 1)=((n - 1:Nat):Int):=by omega
  rw [e1,CW];have e2:decide (0 < (n:Int))=true:=decide_eq_true (by omega);have e3:decide (0 < n)=true:=decide_eq_true h;rw [e2,e3];congr 1;rw [Bool.eq_iff_iff,decide_eq_true_eq,decide_eq_true_eq];constructor
  ·intro z; injection z with z; omega
  ·intro z; rw [z]; rfl
theorem PM (F:Fun K "is_mark" "is_mark" Kc f fd):Ac P w K mg base CX0 1 f fd ["number"] IP:=by
 refine F.m Q5 fun vs H Q E h=>?_;obtain ⟨n,rfl,k⟩:=h;refine ⟨rfl,fun af A outer s hr=>?_⟩;refine ⟨_,AE (AU (Cc (Co K6 (pv 0) AK (Ad _)) (DJ (Co Dj (Af DL (pv 0) (Af Mh (pv 0) AK)) AK (Ad _))))),?_⟩;rw [← NJ] at k;refine ⟨_,rfl,_,_,rfl,rfl,_,rfl,?_⟩;refine Bp (fun h=>?_) (fun h=>?_)
 ·rw [h,Bool.true_and] at k;exact ⟨_,rfl,_,rfl,_,_,rfl,rfl,_,_,rfl,rfl,rfl,k⟩
 ·rw [Bool.eq_false_iff.mpr h,Bool.false_and] at k;exact k
def CB (K:FG):Sp:=fun vs H Q _=>∃ (a:Addr) (ns:List Nat),vs=[.ref a]/\SqL K H a (A4 ns)/\Q (.int (AQ ns:Nat)) H
theorem scUnionOf:AM ["numbers", "bits", "number"] ["numbers"] (defScope IH):=fsc
theorem Kh {ns:List Nat} {i:Nat} {x:V} (h:(A4 ns)[i]?=some x):∃ n,ns[i]?=some n/\x=V.int (n:Int):=by
 unfold A4 at h;rw [getElem?_map] at h;cases e:ns[i]? with
 | none=>rw [e] at h; cases h
 | some n=>rw [e] at h; exact ⟨n,rfl,(Option.some.inj h).symm⟩
theorem NK (F:Fun K "union_of" "union_of" IH f fd):Ac P w K mg base CX0 1 f fd ["numbers"] (CB K):=by
 refine F.m scUnionOf fun vs H Q E h=>?_;obtain ⟨a,ns,rfl,hS,k⟩:=h;refine ⟨rfl,fun af A outer s hr=>?_⟩
 refine ⟨_,AG (Ai (i:=1) scUnionOf.nd rfl (Or.inl rfl) AK)
  (AG (Bs PassesOwn.never rfl (A2 (pv 0)) (AR (i:=2) scUnionOf.nd rfl (Or.inl rfl))
   (AE (UH (i:=1) scUnionOf.nd rfl (Or.inl rfl) (pv 2) (UL:OpR _ _ _))))
  (AE (AU (pv 1)))),?_⟩
 refine ⟨_,rfl,a,rfl,⟨_,hS⟩,Ba (K:=K) (a:=a) (xs:=A4 ns) (fun i σ H2=>∃ v:Option V,σ=[some (.ref a),some (.int (AQ (ns.take i):Nat)),v]/\H2=H) ⟨none,rfl,rfl⟩ (fun i σ H2 _ ⟨_,_,e⟩=>e ▸ hS) ?_ ?_⟩
 ·rintro i x σ H2 hi ⟨v,rfl,rfl⟩;obtain ⟨n,hn,rfl⟩:=Kh hi;refine ⟨_,rfl,_,rfl,_,_,rfl,rfl,?_⟩;refine ⟨some (V.int (n:Int)),?_,rfl⟩;rw [take_add_one,hn,Option.toList_some,DS];show [some (V.ref a),some (V.int (Builtin.bitOr (AQ (ns.take i):Nat) (n:Nat))),some (V.int (n:Int))]=_;rw [DR]
 ·rintro σ H2 ⟨v,rfl,rfl⟩;refine ⟨_,rfl,?_⟩;have e:(A4 ns).length=ns.length:=by unfold A4; rw [AF]
  rw [e,take_length];exact k
end
end Mk
end
section
namespace L2
open PySem
theorem Q6 {x:Str} {g:TG} {tt:TT} {te:TE} {ix:List (Option Nat)} {R:List V->Hp->Prop} {σ:St} {H1:Hp} (Pv:Nat->List V->Hp->Prop) (h0:Pv 0 [] H1) (hz:∀ i ys H,Pv i ys H->ys.length <= 1000)
  (hs:∀ (i c:Nat) ys H,x.cps[i]?=some c->Pv i ys H->g (.str ⟨#[c]⟩) (B4 ix σ) H fun σ2 H2=>tt σ2 H2 fun b H3=>if b=true then te σ2 H3 fun y H4=>Pv (i + 1) (ys++[y]) H4 else Pv (i + 1) ys H3) (hd:∀ ys H,Pv x.cps.size ys H->R ys H) :
  ∃ W:Nat->Nat->List V->Hp->Prop,(∃ m,W 0 m [] H1)/\∀ i m ys H,W i m ys H ->
   ((Its x).stop i H/\ys.length <= sizeLine/\R ys H) \/
   ((Its x).go i H/\∃ N:List V->Hp->Prop,(∀ ys' H',N ys' H'->ys'.length <= sizeLine/\∃ m',m' < m/\W (i + 1) m' ys' H') /\
    ∀ v H',(Its x).yld i H v H'->g v (B4 ix σ) H' fun σ2 H2=>tt σ2 H2 fun b H3=>if b=true then te σ2 H3 fun y H4=>N (ys++[y]) H4 else N ys H3):=by
 refine ⟨fun i m ys H=>m=x.cps.size - i/\i <= x.cps.size/\Pv i ys H,⟨_,rfl,Nat.zero_le _,h0⟩,?_⟩;rintro i m ys H ⟨rfl,hi,hp⟩;by_cases hlt:i < x.cps.size
 ·refine .inr ⟨hlt,Pv (i + 1),fun ys' H' q=>⟨Nat.le_of_lt (Ab (hz _ ys' H' q)),x.cps.size - (i + 1),by omega,rfl,hlt,q⟩,?_⟩;rintro v H' ⟨rfl,c,hc,rfl⟩;exact hs i c ys H' hc hp
 ·have e:i=x.cps.size:=by omega
  subst e;exact .inl ⟨Nat.le_refl _,Nat.le_of_lt (Ab (hz _ ys H hp)),hd ys H hp⟩
end L2
namespace Mk
open PySem L2 MK
theorem Ki:bootBuiltins "all" = some (.builtin "all"):=by decide +kernel
theorem D5:bootBuiltins "isinstance" = some (.builtin "isinstance"):=by decide +kernel
theorem Jq:bootBuiltins "sorted" = some (.builtin "sorted"):=by decide +kernel
theorem Q7:bootBuiltins "sum" = some (.builtin "sum"):=by decide +kernel
theorem Uf:bootBuiltins "min" = some (.builtin "min"):=by decide +kernel
theorem Ug:bootBuiltins "max" = some (.builtin "max"):=by decide +kernel
theorem NL:bootBuiltins "str" = some (.type "str"):=by decide +kernel
theorem Q8:bootBuiltins "int" = some (.type "int"):=by decide +kernel
theorem S6:bootBuiltins "bool" = some (.type "bool"):=by decide +kernel
theorem BY:bootBuiltins "tuple" = some (.type "tuple"):=by decide +kernel
theorem Ct:bootBuiltins "list" = some (.type "list"):=by decide +kernel
theorem AD {H1:Hp} {p:Addr} {o:HO} (s:Same H H1) (hp:H1 p=none):Same H (upd H1 p o):=fun b u e=>by
 have e':=s b u e;rw [AH (AI e' hp)];exact e'
noncomputable def JM (c:Nat):Bool:=decide (65 <= c) && decide (c <= 90)
noncomputable def JN (x:Str):Bool:=(decide (1 <= x.length) && decide (x.length <= 6)) && x.cps.toList.all JM
section
theorem Bi {X:Cx} {e:Expr} {te:TE} {T:String} {x:Str} {p p2 pos:Pos} (K:FG) (hK:X.K=K) (hg:Gl X "isinstance") (hm:X.mg "isinstance" = none) (hgT:Gl X x) (hmT:X.mg x=none) (hvT:bootBuiltins x=some (.type T)) (he:PE X e te)
  (hn:x ≠ "__name__" := by decide) (hdb:(x == ("__debug__" : Str))=false:=by decide)
  (hs:starEach [e,.Name x p2] X.env=(false,eval e X.env) :: starEach [.Name x p2] X.env:=by rfl) (hpl:(backTo pos (starEach [.Name x p2] X.env)).any (·.1)=false:=by rfl) (hs2:starEach [.Name x p2] X.env=(false,eval (.Name x p2) X.env) :: starEach [] X.env:=by rfl) :
  PE X (.Call (.Name "isinstance" p) [e,.Name x p2] [] pos) (tCB (fun xs H Q=>∃ v T t b,xs=[v,.ty T]/\TyOf K H v t/\W.kitOne K t (.type T)=some b/\Q (.bl b) H) (Aq te (Aq (tC (.ty T)) CO))):=by
 subst hK;exact AZ QY hg hm D5 (AA he (AA (EM hgT hmT hvT rfl hn hdb) AC hs2) hs) (by decide) (by decide) hs hpl
theorem BD {X:Cx} (K:FG) (hK:X.K=K):IxR X (Ve K):=hK ▸ Sd
theorem Db {X:Cx} (K:FG) (hK:X.K=K):IxR X (Vf K):=hK ▸ UN
theorem BI {X:Cx} (K:FG) (hK:X.K=K):Bk X (.builtin "len") (fun xs H Q=>∃ p ys,xs=[.ref p]/\(SqL K H p ys\/SqT K H p ys)/\Q (.int ys.length) H):=hK ▸ FQ
theorem OG {X:Cx} {e:Expr} {f:Str} {pos:Pos} {ta:TE} (K:FG) (hK:X.K=K) (he:PE X e ta) (hb:attributeBase e f X.env (eval e X.env)=eval e X.env):PE X (.Attribute e f pos) (Vb K ta f):=hK ▸ At he hb
def IQ:Sp:=fun vs H Q _=>∃ x:Str,vs=[.str x]/\x.cps.all (· < 128)=true/\x.length <= 1000/\∀ H',Same H H'->Q (.bl (JN x)) H'
theorem Q9:AM ["thing"] ["thing"] (defScope Kb):=fsc
theorem RB (c:Nat):(if (!decide ((⟨#[c]⟩:Str).cps.toList < ("A" : Str).cps.toList))=true then (!decide (("Z" : Str).cps.toList < (⟨#[c]⟩:Str).cps.toList)) else false)=JM c:=by
 have hA:("A" : Str).cps.toList=[65]:=by decide +kernel
 have hZ:("Z" : Str).cps.toList=[90]:=by decide +kernel
 rw [hA,hZ];show (if (!decide ([c] < [65]))=true then !decide ([90] < [c]) else false)=JM c;unfold JM
 have e1:decide ([c] < [65])=decide (c < 65):=by
  rw [Bool.eq_iff_iff,decide_eq_true_eq,decide_eq_true_eq,List.cons_lt_cons_iff];simp
 have e2:decide ([90] < [c])=decide (90 < c):=by
  rw [Bool.eq_iff_iff,decide_eq_true_eq,decide_eq_true_eq,List.cons_lt_cons_iff];simp
 rw [e1,e2];by_cases h1:c < 65 <;> by_cases h2:90 < c <;> simp [h1,h2] <;> omega
theorem PN {t6:Tok} (F:Fun K "is_name" "is_name" Kb f fd) (B:Bl mg) (hL:mg "LONGEST_NAME" = some (.int 6 t6)):Ac P w K mg base CX0 1 f fd ["thing"] IQ:=by
 refine F.m Q9 fun vs H Q E h=>?_;obtain ⟨x,rfl,ha,hz,k⟩:=h;refine ⟨rfl,fun af A outer s hr=>?_⟩
 refine ⟨_,AG (An (PW.pt (Cm (BU (BG (Bi K rfl rfl B.isi rfl B.str NL (pv 0)))) (CS (BU (FN FM FM AK (AZ KJ rfl B.len PySem.boot_len (AA (pv 0) AC)) (Bz (v:=.int 6) rfl hL ⟨t6,rfl⟩))))))
   (AE (AU P6)) AW)
  (AE (AU (AZ (Fb rfl) rfl B.all Ki (AA (BB [] [] (by kernel_rfl) (by decide +kernel) (by kernel_rfl) rfl (UT (pv 0)) (fun _ _ _ _ _ _=>BF) (fun _ _ _ _ _ _=>K8 Jj Jj Ag (pv 0) Ag)) AC)))),?_⟩
 refine ⟨_,rfl,_,_,_,true,rfl,.str x,rfl,_,rfl,?_⟩;refine Aw ?_;refine ⟨_,rfl,x,rfl,Nat.le_of_lt (Ab hz),_,_,rfl,rfl,_,rfl,?_⟩;refine Bp (fun h1=>?_) (fun h1=>?_)
 ·have h1':1 <= x.length:=by have:=of_decide_eq_true h1; omega
  refine ⟨_,_,rfl,rfl,_,rfl,?_⟩;refine Bp (fun h2=>?_) (fun h2=>?_)
  ·have h2':¬ x.length <= 6:=by
    intro z;rw [decide_eq_true (show (x.length:Int) <= 6 by omega)] at h2;cases h2
   have e:JN x=false:=by unfold JN; simp [h2']
   have:=k H (Same.refl H);rw [e] at this;exact this
  ·have h2':x.length <= 6:=Decidable.byContradiction fun z=>h2 (by rw [decide_eq_false (show ¬ (x.length:Int) <= 6 by omega)]; rfl);refine ⟨_,rfl,x,rfl,ha,Q6 (x:=x) (fun i ys H2=>H2=H/\ys=(x.cps.toList.take i).map fun c=>V.bl (JM c)) ⟨rfl,rfl⟩ (fun i ys H2 ⟨_,e⟩=>?_) ?_ ?_⟩
   ·rw [e,AF,length_take];have:x.cps.toList.length=x.length:=by rw [Array.length_toList]; rfl
    omega
   ·rintro i c ys H2 hc ⟨rfl,rfl⟩;refine ⟨_,rfl,_,_,rfl,rfl,_,rfl,?_⟩
    have fin:∀ b,b=JM c->(H2=H2/\(x.cps.toList.take i).map (fun c=>V.bl (JM c))++[V.bl b]=(x.cps.toList.take (i + 1)).map fun c=>V.bl (JM c)):=fun b hb=>by
     refine ⟨rfl,?_⟩;have hc':x.cps.toList[i]?=some c:=by rw [Array.getElem?_toList]; exact hc
     rw [take_add_one,hc',map_append,hb];rfl
    have hu:=RB c;refine Bp (fun h3=>?_) (fun h3=>?_)
    ·rw [if_pos h3] at hu;exact ⟨_,_,rfl,rfl,fin _ hu⟩
    ·rw [if_neg h3] at hu;exact fin _ hu
   ·rintro ys H2 ⟨rfl,rfl⟩ p hp;have el:x.cps.toList.take x.cps.size=x.cps.toList:=take_of_length_le (by rw [Array.length_toList]; exact Nat.le_refl _);refine ⟨p,x.cps.toList.map JM,rfl,SqL.of (by rw [AB,el,map_map]; rfl),?_⟩
    have e:JN x=((x.cps.toList.map JM).all id):=by
     unfold JN;rw [decide_eq_true h1',decide_eq_true h2',all_map];rfl
    rw [← e];exact k _ (AD (Same.refl _) hp)
 ·have h1':¬ 1 <= x.length:=fun z=>h1 (decide_eq_true (by omega));refine ⟨_,rfl,?_⟩;refine Bo ?_;have e:JN x=false:=by unfold JN; simp [h1']
  have:=k H (Same.refl H);rw [e] at this;exact this
end
inductive Th where
 | non | num (n:Nat) | nms (ns:List Str)
def ThAt (H:Hp) (v:V):Th->Prop
 | .non=>v=.non
 | .num n=>v=.int (n:Int)
 | .nms ns=>∃ a,v=.ref a/\H a=some (.tup (ns.map V.str))
noncomputable def D6 (ns:List Nat):Nat:=ns.foldl max 0
noncomputable def look (due:Aa) (x:Str):Nat:=((due.find? fun p=>decide (p.1=x)).map (·.2)).getD 0
noncomputable def Az (due:Aa):LK:=due.map fun p=>(Sum.inr p.1,V.int (p.2:Int))
noncomputable def Cu (due:Aa):Th->Nat
 | .non=>Bd (D6 (due.map (·.2)))
 | .num n=>n
 | .nms ns=>AQ (ns.map (look due))
theorem E7 (x:Str):∀ due:Aa,Au (Az due) (Sum.inr x)=(due.find? fun p=>decide (p.1=x)).map fun p=>V.int (p.2:Int)
 | []=>rfl
 | p :: r=>by
  show Au ((Sum.inr p.1,V.int (p.2:Int)) :: Az r) (Sum.inr x)=_;by_cases e:p.1=x
  ·rw [BP (p:=(Sum.inr p.1,V.int (p.2:Int))) (by rw [← e]),List.find?_cons_of_pos (by simpa using e)]; rfl
  ·rw [BQ (p:=(Sum.inr p.1,V.int (p.2:Int))) (fun z=>e (Sum.inr.inj z)),List.find?_cons_of_neg (by simpa using e)]; exact E7 x r
theorem PO {x:Str} (h:x ∈ due.map (·.1)):(due.find? fun p=>decide (p.1=x)).isSome=true:=by
 obtain ⟨p,hp,e⟩:=mem_map.mp h;rw [List.find?_isSome];exact ⟨p,hp,by simpa using e⟩
theorem CQ {x:Str} (h:x ∈ due.map (·.1)):Au (Az due) (Sum.inr x)=some (V.int (look due x:Int)):=by
 rw [E7];unfold look;obtain ⟨p,hp⟩:=Option.isSome_iff_exists.mp (PO h);rw [hp]; rfl
theorem Fj {x:Str} (h:x ∉ due.map (·.1)):Au (Az due) (Sum.inr x)=none:=by
 rw [E7]
 have:(due.find? fun p=>decide (p.1=x))=none:=by
  rw [List.find?_eq_none];intro p hp e;exact h (mem_map.mpr ⟨p,hp,by simpa using e⟩)
 rw [this]; rfl
theorem Fk {m:Nat}:∀ (l:List Nat) (a:Nat),a < m->(∀ n ∈ l,n < m)->l.foldl max a < m
 | [],a,h,_=>h
 | x :: r,a,h,k=>Fk r (max a x) (by have:=k x mem_cons_self; omega) fun n hn=>k n (mem_cons_of_mem _ hn)
theorem Li {ns:List Nat} {m:Nat} (h0:0 < m) (h:∀ n ∈ ns,n < m):D6 ns < m:=Fk ns 0 h0 h
theorem RC (a b:Nat):max (a:Int) (b:Int)=((max a b:Nat):Int):=by omega
theorem IR:∀ (r:List Nat) (a:Nat),(r.map fun n:Nat=>(n:Int)).foldl max (a:Int)=((r.foldl max a:Nat):Int)
 | [],_=>rfl
 | x :: r,a=>by rw [map_cons,foldl_cons,RC,IR r]; rfl
theorem Lj {ns:List Nat} (h:ns ≠ []):LP 0 (ns.map fun n:Nat=>(n:Int))=(D6 ns:Nat):=by
 cases ns with
 | nil=>exact absurd rfl h
 | cons a r =>
  show (r.map fun n:Nat=>(n:Int)).foldl max (a:Int)=_;rw [IR];unfold D6;rw [foldl_cons];have:max 0 a=a:=by omega
  rw [this]
theorem NM {m:Nat} (h:m < 2 ^ 20):Builtin.Int.intBits (m:Int) <= 20:=by
 rcases Nat.eq_zero_or_pos m with e | hm
 ·subst e; decide
 ·rw [Dw hm];have:m.log2 < 20:=(Nat.log2_lt (by omega)).mpr h;omega
section
def E8 (K:FG):Sp:=fun vs H Q _=>∃ (a:Addr) (ns:List Nat),vs=[.ref a]/\SqL K H a (A4 ns)/\(∀ n ∈ ns,n < 2 ^ 20)/\Q (.int (Bd (D6 ns):Nat)) H
theorem NN:AM ["numbers"] ["numbers"] (defScope GQ):=fsc
theorem Fl (ns:List Nat):A4 ns=(ns.map fun n:Nat=>(n:Int)).map V.int:=by unfold A4; rw [map_map]; rfl
theorem Lk (F:Fun K "next_mark" "next_mark" GQ f fd) (B:Bl mg):Ac P w K mg base CX0 1 f fd ["numbers"] (E8 K):=by
 refine F.m NN fun vs H Q E h=>?_;obtain ⟨a,ns,rfl,hS,hlt,k⟩:=h;refine ⟨rfl,fun af A outer s hr=>?_⟩;refine ⟨_,AE (AU (Af KD AK (UQ PySem.F.plainAttrs_int PySem.F.slot_int_bit_length PySem.F.type_int_bit_length KM (N5 rfl rfl B.max (pv 0) AK)))),?_⟩;have hm:=Li (m:=2 ^ 20) (by decide) hlt
 have fin:∀ m:Int,m=(D6 ns:Nat)->tyV K "int" (.int m) H/\∃ i,V.int m=.int i/\([]:List V)=[]/\∃ i' j,V.int 1=.int i'/\V.int (Builtin.Int.intBits i:Nat)=.int j/\UJ i' j/\Q (.int (i' * 2 ^ j.toNat)) H:=fun m e=>by
  subst e;refine ⟨rfl,_,rfl,rfl,1,_,rfl,rfl,⟨Int.natCast_nonneg _,?_,by decide⟩,?_⟩
  ·have:=NM hm; omega
  ·have e:(1:Int) * 2 ^ ((Builtin.Int.intBits (D6 ns:Nat):Nat):Int).toNat=((Bd (D6 ns):Nat):Int):=by
    unfold Bd;rw [Int.one_mul,Int.toNat_natCast];simp
   rw [e];exact k
 refine ⟨_,rfl,a,ns.map (fun n:Nat=>(n:Int)),0,rfl,rfl,by rw [← Fl]; exact hS,fun e=>?_,fun e=>?_⟩
 ·have e':ns=[]:=map_eq_nil_iff.mp e;exact fin 0 (by rw [e']; rfl)
 ·have e':ns ≠ []:=fun z=>e (by rw [z]; rfl);exact fin _ (Lj e')
def Ca (K:FG):Sp:=fun vs H Q _=>(∃ (x:Str) (d:Addr) (kvs:LK),vs=[.str x,.ref d]/\Rd H d (.dK kvs)/\Q (.bl (Au kvs (Sum.inr x:Key)).isSome) H) \/
 (∃ (x:Str) (t:Addr) (xs:List Str),vs=[.str x,.ref t]/\SqT K H t (xs.map V.str)/\Q (.bl (inV (.str x) (xs.map V.str))) H)
theorem PP:AM ["thing", "names"] ["thing", "names"] (defScope II):=fsc
theorem Jr:∀ xs:List Str,(xs.map V.str).all FP=true
 | []=>rfl
 | _ :: r=>Jr r
theorem NO (F:Fun K "is_one_of" "is_one_of" II f fd) (B:Bl mg):Ac P w K mg base CX0 1 f fd ["thing", "names"] (Ca K):=by
 refine F.ok PP (fun vs H Q E h=>?_) (fun af A outer s H vs Q E hr h=>?_)
 ·rcases h with ⟨x,d,kvs,rfl,_⟩ | ⟨x,t,xs,rfl,_⟩ <;> rfl
 ·have hu:=Cr hr;rcases h with ⟨x,d,kvs,rfl,hd,k⟩ | ⟨x,t,xs,rfl,ht,k⟩
  ·refine ⟨_,AE (AU (Cc (Bi K rfl rfl B.isi rfl B.str NL (pv 0)) (DJ (UD (KK hu (pv 0) (pv 1)))))),?_⟩;refine ⟨_,rfl,_,_,_,true,rfl,.str x,rfl,_,rfl,?_⟩;exact ⟨_,rfl,_,rfl,d,_,rfl,.inl ⟨kvs,Sum.inr x,hd,rfl,rfl⟩,k⟩
  ·refine ⟨_,AE (AU (Cc (Bi K rfl rfl B.isi rfl B.str NL (pv 0)) (DJ (Co Ja (pv 0) (pv 1) (by with_unfolding_all rfl))))),?_⟩;refine ⟨_,rfl,_,_,_,true,rfl,.str x,rfl,_,rfl,?_⟩;exact ⟨_,rfl,_,rfl,t,_,rfl,.inr ht,rfl,Jr xs,k⟩
def D7:Sp:=fun vs H Q _=>∃ (a d:Addr) (ns:List Str) (kvs:LK),vs=[.ref a,.ref d]/\H a=some (.tup (ns.map V.str))/\ns.length <= 1000/\Rd H d (.dK kvs) /\
 ∀ H',Same H H'->Q (.bl (decide (0 < ns.length) && ns.all fun x=>(Au kvs (Sum.inr x:Key)).isSome)) H'
theorem Ll:AM ["parts", "ahead"] ["parts", "ahead"] (defScope Ev):=fsc
theorem Same.rd {a:Addr} {u:HO} (s:Same H H') (h:Rd H a u):Rd H' a u:=by
 rcases h with h | ⟨o,h⟩
 ·exact .inl (s _ _ h)
 ·exact .inr ⟨o,s _ _ h⟩
theorem Kj (F:Fun K "is_names_of" "is_names_of" Ev f fd) (B:Bl mg) (GO:Fn P w K mg base "is_one_of" 1 ["thing", "names"] (Ca K)):Ac P w K mg base CX0 2 f fd ["parts", "ahead"] D7:=by
 obtain ⟨fO,dO,GO,mO,kO,bO⟩:=GO.ex;refine F.m Ll fun vs H Q E h=>?_;obtain ⟨a,d,ns,kvs,rfl,ha,hz,hd,k⟩:=h;refine ⟨rfl,fun af A outer s hr=>?_⟩;have hu:=Cr hr
 refine ⟨_,AE (AU (Cc (Co K6 (AZ FQ rfl B.len PySem.boot_len (AA (pv 0) AC)) AK (Ad _))
  (DJ (AZ (Fb rfl) rfl B.all Ki (AA (BB ["ahead"] [some 1] (by kernel_rfl) (by decide +kernel) (by kernel_rfl) rfl (HU (pv 0)) (fun _ _ _ _ _ _=>BF)
   (fun _ _ _ _ _ _=>AL GO hr rfl mO kO bO .nil AN (AA (pv 0) (AA (pv 1) AC)))) AC))))),?_⟩
 have hl:(ns.map V.str).length=ns.length:=AF _;refine ⟨_,rfl,a,_,rfl,.inr (SqT.of ha),_,_,rfl,rfl,_,rfl,?_⟩;refine Bp (fun h1=>?_) (fun h1=>?_)
 ·have h1':0 < ns.length:=by have:=of_decide_eq_true h1; rw [hl] at this; omega
  refine ⟨_,rfl,a,rfl,⟨_,SqT.of ha⟩,FY (K:=K) (a:=a) (xs:=ns.map V.str) (fun i ys H2=>H2=H/\ys=(ns.take i).map fun x=>V.bl (Au kvs (Sum.inr x:Key)).isSome) ⟨rfl,rfl⟩ (fun i ys H2 _ ⟨e,_⟩=>e ▸ SqT.of ha) (fun i ys H2 ⟨_,e⟩=>?_) ?_ ?_⟩
  ·rw [e,AF,length_take]; omega
  ·rintro i v ys H2 hi ⟨rfl,rfl⟩;rw [getElem?_map] at hi
   obtain ⟨x,hx,rfl⟩:∃ x,ns[i]?=some x/\v=V.str x:=by
    cases e:ns[i]? with
    | none=>rw [e] at hi; cases hi
    | some x=>rw [e] at hi; exact ⟨x,rfl,(Option.some.inj hi).symm⟩
   refine ⟨_,rfl,_,rfl,.inl ⟨x,d,kvs,rfl,hd,rfl,?_⟩⟩;rw [take_add_one,hx,map_append];rfl
  ·rintro ys H2 ⟨rfl,rfl⟩ p hp;have el:ns.take (ns.map V.str).length=ns:=by rw [hl]; exact take_length
   refine ⟨p,ns.map fun x=>(Au kvs (Sum.inr x:Key)).isSome,rfl,SqL.of (by rw [AB,el,map_map]; rfl),?_⟩
   have e:(decide (0 < ns.length) && ns.all fun x=>(Au kvs (Sum.inr x:Key)).isSome)=(ns.map fun x=>(Au kvs (Sum.inr x:Key)).isSome).all id:=by
    rw [decide_eq_true h1',Bool.true_and,all_map];rfl
   rw [← e];exact k _ (AD (Same.refl _) hp)
 ·have h1':¬ 0 < ns.length:=fun z=>h1 (decide_eq_true (by rw [hl]; omega));have:=k H (Same.refl H);rw [decide_eq_false h1',Bool.false_and] at this;exact this
def DB:Sp:=fun vs H Q _=>∃ n:Int,vs=[.int n]/\Q (.bl true) H
theorem PQ:AM ["thing"] ["thing"] (defScope IG):=fsc
theorem NP (F:Fun K "is_whole" "is_whole" IG f fd) (B:Bl mg):Ac P w K mg base CX0 1 f fd ["thing"] DB:=by
 refine F.m PQ fun vs H Q E h=>?_;obtain ⟨n,rfl,k⟩:=h;refine ⟨rfl,fun af A outer s hr=>?_⟩;refine ⟨_,AE (AU (Cc (Bi K rfl rfl B.isi rfl B.int Q8 (pv 0)) (DJ (UE (Bi K rfl rfl B.isi rfl B.bool S6 (pv 0)))))),?_⟩;refine ⟨_,rfl,_,_,_,true,rfl,.int n,rfl,_,rfl,?_⟩;exact ⟨_,rfl,_,_,_,false,rfl,.int n,(by kernel_rfl),_,rfl,k⟩
structure IS (due:Aa):Prop where
 len:due.length <= 10
 lt:∀ p ∈ due,p.2 < 2 ^ 20
 nd:(due.map (·.1)).Nodup
 nm:∀ p ∈ due,JN p.1=true/\p.1.cps.all (· < 128)=true/\p.1.length <= 1000
def S7 (due:Aa):Th->Prop
 | .non=>True
 | .num _=>True
 | .nms ns=>ns ≠ []/\ns.length <= 10/\∀ x ∈ ns,x ∈ due.map (·.1)
def Kk:Sp:=fun vs H Q _=>∃ (tv:V) (th:Th) (d:Addr) (due:Aa),vs=[tv,.ref d]/\ThAt H tv th/\Rd H d (.dK (Az due))/\IS due/\S7 due th/\∀ H',Same H H'->Q (.int (Cu due th:Nat)) H'
theorem S8:AM ["thing", "ahead"] ["thing", "ahead"] (defScope DV):=fsc
theorem RE (due:Aa):(Az due).map (·.2)=A4 (due.map (·.2)):=by unfold Az A4; rw [map_map,map_map]; rfl
theorem RF (F:Fun K "thing_number" "thing_number" DV f fd) (B:Bl mg) (GN:Fn P w K mg base "next_mark" 1 ["numbers"] (E8 K)) (GI:Fn P w K mg base "is_names_of" 2 ["parts", "ahead"] D7)
  (GU:Fn P w K mg base "union_of" 1 ["numbers"] (CB K)) (GW:Fn P w K mg base "is_whole" 1 ["thing"] DB):Ac P w K mg base CX0 3 f fd ["thing", "ahead"] Kk:=by
 obtain ⟨fN,dN,GN,mN,kN,bN⟩:=GN.ex;obtain ⟨fI,dI,GI,mI,kI,bI⟩:=GI.ex;obtain ⟨fU,dU,GU,mU,kU,bU⟩:=GU.ex;obtain ⟨fW,dW,GW,mW,kW,bW⟩:=GW.ex;refine F.m S8 fun vs H Q E h=>?_;obtain ⟨tv,th,d,due,rfl,hT,hd,DO,TO,k⟩:=h;refine ⟨rfl,fun af A outer s hr=>?_⟩;have hu:=Cr hr;have hr1:Room 1 _:=hr.mono (by decide)
 refine ⟨_,AG (An (DI (Md (pv 0))) (AE (AU (AL GN hr1 rfl mN kN bN .nil AN (AA (BH (My rfl) rfl B.list Ct (AA (Mw PySem.F.slot_dict_values PySem.F.type_dict_values Ot (pv 1)) AC)) AC)))) AW)
  (AG (An (PW.pt (Di (BG (Bi K rfl rfl B.isi rfl B.tuple BY (pv 0))) (Cl (BG (AL GI hr rfl mI kI bI .nil AN (AA (pv 0) (AA (pv 1) AC)))))))
   (AE (AU (AL GU hr1 rfl mU kU bU .nil AN (AA (BB ["ahead"] [some 1] (by kernel_rfl) (by decide +kernel) (by kernel_rfl) rfl (HU (pv 0)) (fun _ _ _ _ _ _=>BF) (fun _ _ _ _ _ _=>BJ hu (pv 1) (pv 0) (fun _ _=>rfl))) AC)))) AW)
  (AG (An (BG (AL GW hr1 rfl mW kW bW .nil AN (AA (pv 0) AC))) (AE (AU (pv 0))) AW)
  (AE Ao))),?_⟩
 refine ⟨_,rfl,_,rfl,?_⟩;cases th with
 | non =>
  have e:tv=.non:=hT;subst e;refine Bp (fun _=>?_) (fun z=>absurd rfl z);refine ⟨_,rfl,d,rfl,.inl ⟨_,hd⟩,d,_,rfl,rfl,hd,fun p hp=>?_⟩;refine ⟨p,d,_,rfl,AB,Same.rd (AD (Same.refl _) hp) hd,fun l hl=>?_⟩;refine ⟨l,due.map (·.2),rfl,SqL.of (by rw [AB,RE]),fun n hn=>?_,?_⟩
  ·obtain ⟨q,hq,rfl⟩:=mem_map.mp hn;exact DO.lt q hq
  ·exact k _ (AD (AD (Same.refl _) hp) hl)
 | num n =>
  have e:tv=.int (n:Int):=hT;subst e;refine Bp (fun z=>absurd (of_decide_eq_true z) (by intro q; cases q)) (fun _=>?_);refine ⟨_,rfl,_,_,_,false,rfl,.int _,(by kernel_rfl),_,rfl,?_⟩;refine Aw ?_;refine ⟨_,rfl,n,rfl,_,rfl,?_⟩;refine Bo ?_;exact ⟨_,rfl,k H (Same.refl H)⟩
 | nms ns =>
  obtain ⟨a,rfl,ha⟩:=hT;obtain ⟨bn,hln,hin⟩:=TO;refine Bp (fun z=>absurd (of_decide_eq_true z) (by intro q; cases q)) (fun _=>?_);refine ⟨_,rfl,_,_,_,true,rfl,.tup ha,rfl,_,rfl,?_⟩;have hl:(ns.map V.str).length=ns.length:=AF _;refine ⟨_,rfl,_,rfl,a,d,ns,Az due,rfl,ha,by omega,hd,fun H1 s1=>⟨_,rfl,?_⟩⟩
  have e1:(decide (0 < ns.length) && ns.all fun x=>(Au (Az due) (Sum.inr x:Key)).isSome)=true:=by
   rw [Bool.and_eq_true,decide_eq_true_eq,List.all_eq_true];refine ⟨List.length_pos_iff.mpr bn,fun x hx=>?_⟩;rw [CQ (hin x hx)];rfl
  rw [e1];refine Bo ?_;refine ⟨_,rfl,a,rfl,⟨_,SqT.of (s1 _ _ ha)⟩,FY (K:=K) (a:=a) (xs:=ns.map V.str) (fun i ys H2=>H2=H1/\ys=A4 ((ns.take i).map (look due))) ⟨rfl,rfl⟩ (fun i ys H2 _ ⟨e,_⟩=>e ▸ SqT.of (s1 _ _ ha)) (fun i ys H2 ⟨_,e⟩=>?_) ?_ ?_⟩
  ·rw [e];unfold A4;rw [AF,AF,length_take];omega
  ·rintro i v ys H2 hi ⟨rfl,rfl⟩;rw [getElem?_map] at hi
   obtain ⟨x,hx,rfl⟩:∃ x,ns[i]?=some x/\v=V.str x:=by
    cases e:ns[i]? with
    | none=>rw [e] at hi; cases hi
    | some x=>rw [e] at hi; exact ⟨x,rfl,(Option.some.inj hi).symm⟩
   refine ⟨_,rfl,_,rfl,d,_,rfl,.inl ⟨Az due,Sum.inr x,Same.rd s1 hd,rfl,(CQ (hin x (mem_of_getElem? hx))).symm⟩,rfl,?_⟩;rw [take_add_one,hx,map_append];unfold A4;rw [map_append];rfl
  ·rintro ys H2 ⟨rfl,rfl⟩ p hp;have el:ns.take (ns.map V.str).length=ns:=by rw [hl]; exact take_length
   refine ⟨p,ns.map (look due),rfl,SqL.of (by rw [AB,el]),?_⟩;exact k _ (AD s1 hp)
end
end Mk
end
section
namespace L2
open PySem
theorem RG {a:Addr} {xs:List V} {g:TG} {tb:TS} {D:Df} {σ:St} (Pv:Nat->St->Hp->Prop) (h0:Pv 0 σ H) (hl:∀ i σ H,i <= xs.length->Pv i σ H->SqL K H a xs)
  (hs:∀ i x σ H p,xs[i]?=some x->Pv i σ H->H p=none->g (.ref p) σ (upd H p (.tup [.int i,x])) fun σ2 H2=>tb { D with nx:=Pv (i + 1),ct:=Pv (i + 1),bk:=D.nx } σ2 H2) (hd:∀ σ H,Pv xs.length σ H->D.nx σ H) :
  ∃ W:Nat->Nat->St->Hp->Prop,(∃ m,W 0 m σ H)/\∀ i m σ H,W i m σ H ->
   ((Ite K a).stop i H/\D.nx σ H)\/((Ite K a).go i H/\∃ N:St->Hp->Prop,(∀ σ' H',N σ' H'->∃ m',m' < m/\W (i + 1) m' σ' H')/\∀ x H',(Ite K a).yld i H x H'->g x σ H' fun σ2 H2=>tb { D with nx:=N,ct:=N,bk:=D.nx } σ2 H2):=by
 refine ⟨fun i m σ H=>m=xs.length - i/\i <= xs.length/\Pv i σ H,⟨_,rfl,Nat.zero_le _,h0⟩,?_⟩;rintro i m σ H ⟨rfl,hi,hp⟩;by_cases hlt:i < xs.length
 ·have hx:xs[i]?=some xs[i]:=List.getElem?_eq_getElem hlt;refine .inr ⟨⟨xs,xs[i],hl i σ H hi hp,hx⟩,Pv (i + 1),fun σ' H' q=>⟨xs.length - (i + 1),by omega,rfl,hlt,q⟩,?_⟩;rintro x H' ⟨p,y,hn,rfl,hy,rfl⟩
  have ex:y=xs[i]:=by
   have:=hy xs (hl i σ H hi hp);rw [hx] at this;exact (Option.some.inj this).symm
  subst ex;exact hs i xs[i] σ H p hx hp hn
 ·have e:i=xs.length:=by omega
  subst e;exact .inl ⟨⟨xs,hl _ σ H hi hp,Nat.le_refl _⟩,hd σ H hp⟩
theorem PU {a:Addr} {o:Obj} {kvs:LK} {g:TG} {tb:TS} {D:Df} {σ:St} (Pv:Nat->St->Hp->Prop) (h0:Pv 0 σ H) (hl:∀ i σ H,Pv i σ H->H a=some (.frz o (.dK kvs)))
  (hs:∀ i kv σ H p,kvs[i]?=some kv->Pv i σ H->H p=none->g (.ref p) σ (upd H p (.tup [kV kv.1,kv.2])) fun σ2 H2=>tb { D with nx:=Pv (i + 1),ct:=Pv (i + 1),bk:=D.nx } σ2 H2) (hd:∀ σ H,Pv kvs.length σ H->D.nx σ H) :
  ∃ W:Nat->Nat->St->Hp->Prop,(∃ m,W 0 m σ H)/\∀ i m σ H,W i m σ H ->
   ((Iti a o kvs).stop i H/\D.nx σ H)\/((Iti a o kvs).go i H/\∃ N:St->Hp->Prop,(∀ σ' H',N σ' H'->∃ m',m' < m/\W (i + 1) m' σ' H')/\∀ x H',(Iti a o kvs).yld i H x H'->g x σ H' fun σ2 H2=>tb { D with nx:=N,ct:=N,bk:=D.nx } σ2 H2):=by
 refine ⟨fun i m σ H=>m=kvs.length - i/\i <= kvs.length/\Pv i σ H,⟨_,rfl,Nat.zero_le _,h0⟩,?_⟩;rintro i m σ H ⟨rfl,hi,hp⟩;by_cases hlt:i < kvs.length
 ·refine .inr ⟨⟨hl i σ H hp,hlt⟩,Pv (i + 1),fun σ' H' q=>⟨kvs.length - (i + 1),by omega,rfl,hlt,q⟩,?_⟩;rintro x H' ⟨p,kv,hn,rfl,hkv,rfl⟩;exact hs i kv σ H p hkv hp hn
 ·have e:i=kvs.length:=by omega
  subst e;exact .inl ⟨⟨hl _ σ H hp,Nat.le_refl _⟩,hd σ H hp⟩
end L2
namespace Mk
open PySem L2 MK
def Vv (x:Str):Prop:=JN x=true/\x.cps.all (· < 128)=true/\x.length <= 1000
structure OH (due:Aa) (r:Str × Th):Prop where
 ahead:IS due
 few:due.length < 10
 nm:Vv r.1
 new:r.1 ∉ due.map (·.1)
 th:S7 due r.2
 lt:Cu due r.2 < 2 ^ 20
noncomputable def AX (rows:List (Str × Th)):Aa:=rows.foldl (fun due r=>due++[(r.1,Cu due r.2)]) []
theorem ES (rows:List (Str × Th)) (r:Str × Th):AX (rows++[r])=AX rows++[(r.1,Cu (AX rows) r.2)]:=by unfold AX; rw [foldl_append]; rfl
def C3 (rows:List (Str × Th)):Prop:=∀ (i:Nat) r,rows[i]?=some r->OH (AX (rows.take i)) r
def RowAt (H:Hp) (b:Addr) (r:Str × Th):Prop:=∃ tv,H b=some (.tup [.str r.1,tv])/\ThAt H tv r.2
def RH (H:Hp) (l:Addr) (rows:List (Str × Th)):Prop:=∃ as:List Addr,H l=some (.lst (as.map V.ref))/\Paired (RowAt H) as rows
theorem ThAt.same {v:V} {th:Th} (s:Same H H') (h:ThAt H v th):ThAt H' v th:=by
 cases th with
 | non=>exact h
 | num n=>exact h
 | nms ns=>obtain ⟨a,e,h⟩:=h; exact ⟨a,e,s _ _ h⟩
theorem RowAt.same {b:Addr} {r:Str × Th} (s:Same H H') (h:RowAt H b r):RowAt H' b r:=by
 obtain ⟨tv,e,t⟩:=h;exact ⟨tv,s _ _ e,t.same s⟩
theorem Bt {α β:Type} {F:α->β->Prop}:∀ {xs:List α} {ys:List β} {i:Nat} {x:α},Paired F xs ys->xs[i]?=some x->∃ y,ys[i]?=some y/\F x y
 | _,_,_,_,.nil,e=>by simp at e
 | _,_,0,_,.cons r _,e=>by simp at e; subst e; exact ⟨_,rfl,r⟩
 | _,_,i + 1,x,.cons _ t,e=>by
  obtain ⟨u,h1,h2⟩:=Bt (i:=i) (x:=x) t (by simpa using e);exact ⟨u,by simpa using h1,h2⟩
theorem IT {H1:Hp} {d:Addr} {o:HO} (s:Same H H1) (hd:H d=none):Same H (upd H1 d o):=fun b u e=>by
 rw [AH (AI e hd)];exact s b u e
section
def RI:Sp:=fun vs H Q _=>∃ (b d:Addr) (r:Str × Th) (due:Aa),vs=[.ref b,.ref d]/\RowAt H b r/\Rd H d (.dK (Az due))/\OH due r/\∀ H',Same H H'->Q (.int (Cu due r.2:Nat)) H'
theorem scRow:AM ["row", "ahead", "name", "thing", "number"] ["row", "ahead"] (defScope Ew):=fsc
theorem Uh {tg:Tok} (F:Fun K "row_number" "row_number" Ew f fd) (B:Bl mg) (hG:mg "GREATEST" = some (.int 1048575 tg)) (GN:Fn P w K mg base "is_name" 1 ["thing"] IQ) (GT:Fn P w K mg base "thing_number" 3 ["thing", "ahead"] Kk) :
  Ac P w K mg base CX0 4 f fd ["row", "ahead"] RI:=by
 obtain ⟨fN,dN,GN,mN,kN,bN⟩:=GN.ex;obtain ⟨fT,dT,GT,mT,kT,bT⟩:=GT.ex;refine F.m scRow fun vs H Q E h=>?_;obtain ⟨b,d,r,due,rfl,⟨tv,hb,hT⟩,hd,RO,k⟩:=h;refine ⟨rfl,fun af A outer s hr=>?_⟩;have hu:=Cr hr;have hr1:Room 1 _:=hr.mono (by decide)
 refine ⟨_,AG (An (PW.pt (Cm (BU (BG (Bi K rfl rfl B.isi rfl B.tuple BY (pv 0)))) (CS (AY Dk (AZ (BI K rfl) rfl B.len PySem.boot_len (AA (pv 0) AC)) AK (Ad _))))) (AE Ao) AW)
  (AG (CT (pv 0) (BK rfl (AS (AR (i:=2) scRow.nd rfl (Or.inl rfl)) (AS (AR (i:=3) scRow.nd rfl (Or.inl rfl)) A1))))
  (AG (An (PW.pt (Cm (BU (BG (AL GN hr1 rfl mN kN bN .nil AN (AA (pv 2) AC)))) (CS (DI (KK hu (pv 2) (pv 1)))))) (AE Ao) AW)
  (AG (Ai (i:=4) scRow.nd rfl (Or.inl rfl) (AL GT hr rfl mT kT bT .nil AN (AA (pv 3) (AA (pv 1) AC))))
  (AG (An (PW.pt (Cm (DI (Md (pv 4))) (CS (BU (FN FM FM AK (pv 4) (Bz (v:=.int 1048575) rfl hG ⟨tg,rfl⟩)))))) (AE Ao) AW)
  (AE (AU (pv 4))))))),?_⟩
 refine ⟨_,rfl,_,_,_,true,rfl,.tup hb,rfl,_,rfl,?_⟩;refine Aw ?_;refine ⟨_,rfl,b,_,rfl,.inr (SqT.of hb),rfl,_,rfl,?_⟩;refine N2 rfl ?_;refine ⟨_,rfl,b,_,rfl,SqT.of hb,rfl,_,_,rfl,_,_,rfl,rfl,?_⟩;refine ⟨_,rfl,r.1,rfl,RO.nm.2.1,RO.nm.2.2,fun H1 s1=>⟨_,rfl,?_⟩⟩;rw [RO.nm.1];refine Aw ?_;refine ⟨_,rfl,_,rfl,d,_,rfl,.inl ⟨Az due,Sum.inr r.1,Same.rd s1 hd,rfl,(Fj RO.new).symm⟩,_,rfl,?_⟩;refine Aw ?_;refine ⟨_,rfl,_,rfl,tv,r.2,d,due,rfl,hT.same s1,Same.rd s1 hd,RO.ahead,RO.th,fun H2 s2=>?_⟩;refine ⟨_,rfl,_,rfl,?_⟩;refine Bp (fun z=>absurd (of_decide_eq_true z) (by intro q; cases q)) (fun _=>?_);refine ⟨_,rfl,_,_,rfl,rfl,_,rfl,?_⟩;refine Bp (fun _=>?_) (fun z=>absurd (decide_eq_true (Int.natCast_nonneg _)) z);refine ⟨_,_,rfl,rfl,_,rfl,?_⟩;have hlt:=RO.lt;refine N2 (show ((Cu due r.2:Nat):Int) <= 1048575 by omega) ?_;exact ⟨_,rfl,k _ (s1.trans s2)⟩
def E9:Sp:=fun vs H Q _=>∃ (l:Addr) (rows:List (Str × Th)),vs=[.ref l]/\RH H l rows/\0 < rows.length/\rows.length <= 10/\C3 rows /\
 ∀ d H',Same H H'->H d=none->H' d=some (.dK (Az (AX rows)))->Q (.ref d) H'
theorem scNumbered:AM ["rows", "numbers", "at", "row", "number"] ["rows"] (defScope GS):=fsc
theorem OI {x:Str} {n:Nat} (h:x ∉ due.map (·.1)):BM (Az due) (Sum.inr x:Key) (V.int (n:Int))=Az (due++[(x,n)]):=by
 rw [Do _ (Fj h)];unfold Az;rw [map_append];rfl
theorem EV (due:Aa):(Az due).length=due.length:=AF _
theorem Ar:∀ rows:List (Str × Th),(AX rows).length=rows.length:=fun rows=>by
 have:∀ (l:List (Str × Th)) (a:Aa),(l.foldl (fun due r=>due++[(r.1,Cu due r.2)]) a).length=a.length + l.length:=by
  intro l;induction l with
  | nil=>intro a; rfl
  | cons x r ih=>intro a; rw [foldl_cons,ih,length_append,length_cons,length_cons,length_nil]; omega
 have e:=this rows [];rw [length_nil] at e;unfold AX;omega
theorem Lm {tm:Tok} (F:Fun K "numbered" "numbered" GS f fd) (B:Bl mg) (hM:mg "MOST_ROWS" = some (.int 10 tm)) (GR:Fn P w K mg base "row_number" 4 ["row", "ahead"] RI):Ac P w K mg base CX0 5 f fd ["rows"] E9:=by
 obtain ⟨fR,dR,GR,mR,kR,bR⟩:=GR.ex;refine F.m scNumbered fun vs H Q E h=>?_;obtain ⟨l,rows,rfl,⟨as,hl,hP⟩,h0,h10,RO,k⟩:=h;refine ⟨rfl,fun af A outer s hr=>?_⟩;have hu:=Cr hr;have bw:as.length=rows.length:=hP.length
 refine ⟨_,AG (An (PW.pt (Cm (BU (BG (Bi K rfl rfl B.isi rfl B.list Ct (pv 0)))) (CS (BU (FN FM FM AK (AZ (BI K rfl) rfl B.len PySem.boot_len (AA (pv 0) AC)) (Bz (v:=.int 10) rfl hM ⟨tm,rfl⟩)))))) (AE Ao) AW)
  (AG (Ai (i:=1) scNumbered.nd rfl (Or.inl rfl) C8)
  (AG (Bs PassesOwn.never rfl (Sn rfl B.enum (AA (pv 0) AC)) (BK rfl (AS (AR (i:=2) scNumbered.nd rfl (Or.inl rfl)) (AS (AR (i:=3) scNumbered.nd rfl (Or.inl rfl)) A1)))
   (AG (Ai (i:=4) scNumbered.nd rfl (Or.inl rfl) (AL GR hr rfl mR kR bR .nil AN (AA (pv 3) (AA (pv 1) AC))))
   (AG (An (DI (Md (pv 4))) (AE Ao) AW)
   (AE (FU hu (pv 1) (Bm (Db K rfl) (pv 3) AK (fun _ _=>rfl)) (pv 4) rfl)))))
  (AE (AU (pv 1))))),?_⟩
 refine ⟨_,rfl,_,_,_,true,rfl,.lst hl,rfl,_,rfl,?_⟩;refine Aw ?_;have hll:(as.map V.ref).length=rows.length:=by rw [AF,bw]
 refine ⟨_,rfl,l,_,rfl,.inl (SqL.of hl),_,_,rfl,rfl,_,rfl,?_⟩;refine Bp (fun _=>?_) (fun z=>absurd (decide_eq_true (by rw [hll]; omega)) z);refine ⟨_,_,rfl,rfl,_,rfl,?_⟩;refine N2 (show (((as.map V.ref).length:Nat):Int) <= 10 by rw [hll]; omega) ?_;intro d hdn
 refine ⟨_,rfl,l,rfl,⟨_,SqL.of (AD (Same.refl _) hdn _ _ hl)⟩,RG (K:=K) (a:=l) (xs:=as.map V.ref) (fun i σ H2=>∃ v1 v2 v3:Option V,σ=[some (.ref l),some (.ref d),v1,v2,v3]/\Same H H2/\H2 d=some (.dK (Az (AX (rows.take i)))))
  ⟨none,none,none,rfl,AD (Same.refl _) hdn,AB⟩ (fun i σ H2 _ ⟨_,_,_,_,s2,_⟩=>SqL.of (s2 _ _ hl)) ?_ ?_⟩
 ·rintro i y σ H2 p hi ⟨v1,v2,v3,rfl,s2,hd2⟩ hp;rw [getElem?_map] at hi
  obtain ⟨b,hb,rfl⟩:∃ b,as[i]?=some b/\y=V.ref b:=by
   cases e:as[i]? with
   | none=>rw [e] at hi; cases hi
   | some x=>rw [e] at hi; exact ⟨x,rfl,(Option.some.inj hi).symm⟩
  obtain ⟨r,hr',hra⟩:=Bt hP hb;have R1:=RO i r hr';have s3:Same H (upd H2 p (.tup [.int i,.ref b])):=AD s2 hp;have hd3:(upd H2 p (.tup [.int i,.ref b])) d=some (.dK (Az (AX (rows.take i)))):=by rw [AH (AI hd2 hp)]; exact hd2
  refine ⟨p,_,rfl,SqT.of AB,rfl,_,_,rfl,_,_,rfl,rfl,?_⟩;refine ⟨_,rfl,_,rfl,b,d,r,AX (rows.take i),rfl,hra.same s3,.inl hd3,R1,fun H4 s4=>?_⟩;refine ⟨_,rfl,_,rfl,?_⟩;refine Bp (fun z=>absurd (of_decide_eq_true z) (by intro q; cases q)) (fun _=>?_);obtain ⟨tv,av,_⟩:=hra.same (s3.trans s4);refine ⟨_,rfl,_,rfl,_,rfl,b,_,0,.str r.1,rfl,rfl,SqT.of av,rfl,d,_,rfl,DPut.k (k:=Sum.inr r.1) (s4 _ _ hd3) (Ab (by rw [EV,Ar,length_take]; omega)),?_⟩;refine ⟨_,_,_,rfl,IT (s3.trans s4) hdn,?_⟩;rw [AB,OI R1.new,take_add_one,hr',Option.toList_some,ES]
 ·rintro σ H2 ⟨v1,v2,v3,rfl,s2,hd2⟩;rw [hll,take_length] at hd2;exact ⟨_,rfl,k d H2 s2 hdn hd2⟩
end
noncomputable def AT (due:Aa):List (Nat × Str):=due.foldl (fun fs p=>if (fs.map (·.1)).contains p.2 then fs else fs++[(p.2,p.1)]) []
noncomputable def B5 (fs:List (Nat × Str)):LK:=fs.map fun q=>(Sum.inl (q.1:Int),V.str q.2)
noncomputable def BL (fs:List (Nat × Str)) (n:Nat):Str:=((fs.find? fun q=>decide (q.1=n)).map (·.2)).getD (Str.ofString "")
theorem Cw (due:Aa) (p:Str × Nat):AT (due++[p])=if ((AT due).map (·.1)).contains p.2 then AT due else AT due++[(p.2,p.1)]:=by unfold AT; rw [foldl_append]; rfl
theorem Gc (n:Nat):∀ fs:List (Nat × Str),Au (B5 fs) (Sum.inl (n:Int):Key)=(fs.find? fun q=>decide (q.1=n)).map fun q=>V.str q.2
 | []=>rfl
 | q :: r=>by
  show Au ((Sum.inl (q.1:Int),V.str q.2) :: B5 r) (Sum.inl (n:Int))=_;by_cases e:q.1=n
  ·rw [BP (p:=(Sum.inl (q.1:Int),V.str q.2)) (by rw [← e]),List.find?_cons_of_pos (by simpa using e)]; rfl
  ·rw [BQ (p:=(Sum.inl (q.1:Int),V.str q.2)) (fun z=>e (by have:=Sum.inl.inj z; omega)),List.find?_cons_of_neg (by simpa using e)]; exact Gc n r
theorem IU {fs:List (Nat × Str)} {n:Nat} (h:n ∈ fs.map (·.1)):(fs.find? fun q=>decide (q.1=n)).isSome=true:=by
 obtain ⟨q,hq,e⟩:=mem_map.mp h;rw [List.find?_isSome];exact ⟨q,hq,by simpa using e⟩
theorem Fo {fs:List (Nat × Str)} {n:Nat} (h:n ∈ fs.map (·.1)):Au (B5 fs) (Sum.inl (n:Int):Key)=some (V.str (BL fs n)):=by
 rw [Gc];unfold BL;obtain ⟨q,hq⟩:=Option.isSome_iff_exists.mp (IU h);rw [hq]; rfl
theorem Gd {fs:List (Nat × Str)} {n:Nat} (h:n ∉ fs.map (·.1)):Au (B5 fs) (Sum.inl (n:Int):Key)=none:=by
 rw [Gc]
 have:(fs.find? fun q=>decide (q.1=n))=none:=by
  rw [List.find?_eq_none];intro q hq e;exact h (mem_map.mpr ⟨q,hq,by simpa using e⟩)
 rw [this]; rfl
theorem Ln {fs:List (Nat × Str)} {n:Nat} {x:Str} (h:n ∉ fs.map (·.1)):BM (B5 fs) (Sum.inl (n:Int):Key) (V.str x)=B5 (fs++[(n,x)]):=by
 rw [Do _ (Gd h)];unfold B5;rw [map_append];rfl
theorem Cg (due:Aa):(AT due).length <= due.length:=by
 have:∀ (l:Aa) (a:List (Nat × Str)),(l.foldl (fun fs p=>if (fs.map (·.1)).contains p.2 then fs else fs++[(p.2,p.1)]) a).length <= a.length + l.length:=by
  intro l;induction l with
  | nil=>intro a; exact Nat.le_refl _
  | cons x r ih =>
   intro a;rw [foldl_cons];refine Nat.le_trans (ih _) ?_;split
   ·rw [length_cons]; omega
   ·rw [length_append,length_cons,length_cons,length_nil]; omega
 have e:=this due [];rw [length_nil] at e;unfold AT;omega
theorem D8 (due:Aa):∀ (a:List (Nat × Str)),(a.map (·.1)).Nodup->(∀ n ∈ a.map (·.1),n ∈ (due.foldl (fun fs p=>if (fs.map (·.1)).contains p.2 then fs else fs++[(p.2,p.1)]) a).map (·.1)) /\
  ((due.foldl (fun fs p=>if (fs.map (·.1)).contains p.2 then fs else fs++[(p.2,p.1)]) a).map (·.1)).Nodup/\(∀ p ∈ due,p.2 ∈ (due.foldl (fun fs p=>if (fs.map (·.1)).contains p.2 then fs else fs++[(p.2,p.1)]) a).map (·.1)) /\
  (∀ q ∈ due.foldl (fun fs p=>if (fs.map (·.1)).contains p.2 then fs else fs++[(p.2,p.1)]) a,q ∈ a\/(q.2,q.1) ∈ due):=by
 induction due with
 | nil=>intro a ha; exact ⟨fun n hn=>hn,ha,fun p hp=>(nomatch hp),fun q hq=>.inl hq⟩
 | cons p r ih =>
  intro a ha;rw [foldl_cons];by_cases hc:(a.map (·.1)).contains p.2=true
  ·rw [if_pos hc];obtain ⟨i1,i2,i3,i4⟩:=ih a ha;refine ⟨i1,i2,fun q hq=>?_,fun q hq=>?_⟩
   ·rcases mem_cons.mp hq with rfl | hq
    ·exact i1 _ (by simpa using hc)
    ·exact i3 q hq
   ·rcases i4 q hq with z | z
    ·exact .inl z
    ·exact .inr (mem_cons_of_mem _ z)
  ·rw [if_neg hc];have hnot:p.2 ∉ a.map (·.1):=fun z=>hc (by simpa using z);obtain ⟨i1,i2,i3,i4⟩:=ih (a++[(p.2,p.1)]) (by rw [map_append]; exact N3 ha hnot);refine ⟨fun n hn=>i1 n (by rw [map_append]; exact mem_append_left _ hn),i2,fun q hq=>?_,fun q hq=>?_⟩
   ·rcases mem_cons.mp hq with rfl | hq
    ·exact i1 _ (by rw [map_append]; exact mem_append_right _ (by simp))
    ·exact i3 q hq
   ·rcases i4 q hq with z | z
    ·rcases mem_append.mp z with z | z
     ·exact .inl z
     ·have:q=(p.2,p.1):=by simpa using z
      subst this;exact .inr mem_cons_self
    ·exact .inr (mem_cons_of_mem _ z)
theorem Js (due:Aa):((AT due).map (·.1)).Nodup:=(D8 due [] nodup_nil).2.1
theorem PV {p:Str × Nat} (h:p ∈ due):p.2 ∈ (AT due).map (·.1):=(D8 due [] nodup_nil).2.2.1 p h
theorem Ge {q:Nat × Str} (h:q ∈ AT due):(q.2,q.1) ∈ due:=by
 rcases (D8 due [] nodup_nil).2.2.2 q h with z | z
 ·cases z
 ·exact z
section
def IV:Sp:=fun vs H Q _=>∃ (d:Addr) (o:Obj) (due:Aa),vs=[.ref d]/\H d=some (.frz o (.dK (Az due)))/\due.length <= 100/\∀ e H',Same H H'->H e=none->H' e=some (.dK (B5 (AT due)))->Q (.ref e) H'
theorem scFirsts:AM ["numbers", "firsts", "name", "number"] ["numbers"] (defScope Dx):=fsc
theorem RJ {i:Nat} {kv:Key × V} (h:(Az due)[i]?=some kv):∃ p,due[i]?=some p/\kv=(Sum.inr p.1,V.int (p.2:Int)):=by
 unfold Az at h;rw [getElem?_map] at h;cases e:due[i]? with
 | none=>rw [e] at h; cases h
 | some p=>rw [e] at h; exact ⟨p,rfl,(Option.some.inj h).symm⟩
theorem PX (F:Fun K "first_names" "first_names" Dx f fd):Ac P w K mg base CX0 1 f fd ["numbers"] IV:=by
 refine F.m scFirsts fun vs H Q E h=>?_;obtain ⟨d,o,due,rfl,hd,hz,k⟩:=h;refine ⟨rfl,fun af A outer s hr=>?_⟩
 refine ⟨_,AG (Ai (i:=1) scFirsts.nd rfl (Or.inl rfl) C8)
  (AG (Bs PassesOwn.never rfl (QS (pv 0)) (BK rfl (AS (AR (i:=2) scFirsts.nd rfl (Or.inl rfl)) (AS (AR (i:=3) scFirsts.nd rfl (Or.inl rfl)) A1)))
   (AE (CH (Gs PySem.F.plainAttrs_dict PySem.F.slot_dict_setdefault PySem.F.type_dict_setdefault JJ (pv 1) (AA (pv 3) (AA (pv 2) AC))))))
  (AE (AU (pv 1)))),?_⟩
 intro e he
 refine ⟨_,rfl,d,o,Az due,rfl,AD (Same.refl _) he _ _ hd,PU (a:=d) (o:=o) (kvs:=Az due) (fun i σ H2=>∃ v1 v2:Option V,σ=[some (.ref d),some (.ref e),v1,v2]/\Same H H2/\H2 e=some (.dK (B5 (AT (due.take i)))))
  ⟨none,none,rfl,AD (Same.refl _) he,AB⟩ (fun i σ H2 ⟨_,_,_,s2,_⟩=>s2 _ _ hd) ?_ ?_⟩
 ·rintro i kv σ H2 p hkv ⟨v1,v2,rfl,s2,he2⟩ hp;obtain ⟨pr,hpr,rfl⟩:=RJ hkv;have s3:Same H (upd H2 p (.tup [.str pr.1,.int (pr.2:Int)])):=AD s2 hp;have he3:(upd H2 p (.tup [.str pr.1,.int (pr.2:Int)])) e=some (.dK (B5 (AT (due.take i)))):=by rw [AH (AI he2 hp)]; exact he2
  have et:due.take (i + 1)=due.take i++[pr]:=by rw [take_add_one,hpr]; rfl
  have hle:(B5 (AT (due.take i))).length <= 100:=by
   unfold B5;rw [AF];have:=Cg (due.take i);rw [length_take] at this;omega
  refine ⟨p,_,rfl,SqT.of AB,rfl,_,_,rfl,_,_,rfl,rfl,?_⟩;refine ⟨_,rfl,.inr (.inr (.inl ⟨rfl,.inl ⟨_,he3⟩⟩)),_,rfl,_,rfl,e,_,Sum.inl (pr.2:Int),.str pr.1,rfl,rfl,he3,Ab (by omega),fun w' hw=>?_,fun hn=>?_⟩
  ·refine ⟨_,_,rfl,s3,?_⟩;have z:pr.2 ∈ (AT (due.take i)).map (·.1):=Decidable.byContradiction fun z=>by rw [Gd z] at hw; cases hw
   rw [et,Cw,if_pos (by simpa using z)];exact he3
  ·have z:pr.2 ∉ (AT (due.take i)).map (·.1):=fun z=>by rw [Fo z] at hn; cases hn
   refine ⟨_,_,rfl,IT s3 he,?_⟩;rw [AB,et,Cw,if_neg (by simpa using z),Ln z]
 ·rintro σ H2 ⟨v1,v2,rfl,s2,he2⟩;rw [EV,take_length] at he2;exact ⟨_,rfl,k e H2 s2 he he2⟩
end
theorem n12:¬ (("numbers" : Str) = "firsts"):=by decide +kernel
theorem n13:¬ (("numbers" : Str) = "rule"):=by decide +kernel
theorem n23:¬ (("firsts" : Str) = "rule"):=by decide +kernel
noncomputable def HA (d1 d2:Addr) (r:Str):List (Str × V):=BN "rule" (.str r) (BN "firsts" (.ref d2) (BN "numbers" (.ref d1) []))
theorem Fp (d1 d2:Addr) (r:Str):(HA d1 d2 r).lookup ("numbers" : Str)=some (.ref d1):=by
 unfold HA;rw [AV,if_neg n13,AV,if_neg n12,AV,if_pos rfl]
theorem IW (d1 d2:Addr) (r:Str):(HA d1 d2 r).lookup ("firsts" : Str)=some (.ref d2):=by
 unfold HA;rw [AV,if_neg n23,AV,if_pos rfl]
theorem Gf (d1 d2:Addr) (r:Str):(HA d1 d2 r).lookup ("rule" : Str)=some (.str r):=by
 unfold HA;rw [AV,if_pos rfl]
theorem Bj (d1 d2:Addr) (r:Str) {m:Str} (h1:¬ m = "rule" := by decide +kernel) (h2:¬ m = "firsts" := by decide +kernel) (h3:¬ m = "numbers" := by decide +kernel):(HA d1 d2 r).lookup m=none:=by
 unfold HA;rw [AV,if_neg h1,AV,if_neg h2,AV,if_neg h3];rfl
theorem S9 (d1:Addr):(BN "numbers" (V.ref d1) []).lookup ("numbers" : Str)=some (.ref d1):=by rw [AV,if_pos rfl]
structure KindAt (C:Addr) (H:Hp) (p:Addr) (due:Aa) (r:Str):Prop where
 ex:∃ dx d1 o1 d2 o2,H p=some (.ins C dx (HA d1 d2 r))/\H d1=some (.frz o1 (.dK (Az due)))/\H d2=some (.frz o2 (.dK (B5 (AT due))))
theorem KindAt.same {p:Addr} {r:Str} (s:Same H H') (h:KindAt C H p due r):KindAt C H' p due r:=by
 obtain ⟨dx,d1,o1,d2,o2,a,b,c⟩:=h.ex;exact ⟨⟨dx,d1,o1,d2,o2,s _ _ a,s _ _ b,s _ _ c⟩⟩
structure Dh (K:FG) (C:Addr):Prop where
 cl:Cls K C
 nN:NoAttr K C "numbers"
 nF:NoAttr K C "firsts"
 nR:NoAttr K C "rule"
noncomputable def ruleNames:List Str:=["bar", "drop", "keep", "leave"]
section
def RK (C:Addr):Sp:=fun vs H Q _=>∃ (p dx l:Addr) (rows:List (Str × Th)) (r:Str),vs=[.ref p,.ref l,.str r]/\H p=some (.ins C dx [])/\RH H l rows/\0 < rows.length/\rows.length <= 10/\C3 rows/\r ∈ ruleNames /\
 ∀ H',(∀ b o,H b=some o->b ≠ p->H' b=some o)->KindAt C H' p (AX rows) r->Q .non H'
theorem Ui:AM ["self", "rows", "rest"] ["self", "rows", "rest"] (defScope BZ):=fsc
theorem RL {r:Str} (h:r ∈ ruleNames):inV (.str r) (ruleNames.map V.str)=true:=by
 unfold inV;rw [any_map,any_eq_true];exact ⟨r,h,by show (r == r)=true; simp⟩
theorem TB {aR:Addr} (F:Fun K "__init__" "Kind.__init__" BZ f fd) (B:Bl mg) (T:Dh K C) (hR:mg "RULES" = some (.ref aR)) (hRT:∀ H:Hp,SqT K H aR (ruleNames.map V.str))
  (GN:Fn P w K mg base "numbered" 5 ["rows"] E9) (GF:Fn P w K mg base "first_names" 1 ["numbers"] IV) (GO:Fn P w K mg base "is_one_of" 1 ["thing", "names"] (Ca K)):Ac P w K mg base CX0 6 f fd ["self", "rows", "rest"] (RK C):=by
 obtain ⟨fN,dN,GN,mN,kN,bN⟩:=GN.ex;obtain ⟨fF,dF,GF,mF,kF,bF⟩:=GF.ex;obtain ⟨fO,dO,GO,mO,kO,bO⟩:=GO.ex;refine F.m Ui fun vs H Q E h=>?_;obtain ⟨p,dx,l,rows,r,rfl,hp,RA,h0,h10,RO,bc,k⟩:=h;refine ⟨rfl,fun af A outer s hr=>?_⟩;have hr1:Room 1 _:=hr.mono (by decide)
 refine ⟨_,AG (Dl (pv 0) (AL GN hr rfl mN kN bN .nil AN (AA (pv 1) AC)) rfl)
  (Cf (AG (An (BU (BG (AL GO hr1 rfl mO kO bO .nil AN (AA (pv 2) (AA (Bz (v:=.ref aR) rfl hR rfl) AC))))) (AE Ao) AW)
  (AG (Dl (pv 0) (AL GF hr1 rfl mF kF bF .nil AN (AA (At (pv 0) rfl) AC)) rfl)
  (Cf (AE (Dl (pv 0) (pv 2) rfl)))))),?_⟩
 refine ⟨_,rfl,l,rows,rfl,RA,h0,h10,RO,fun d1 H1 s1 hd1n hd1=>?_⟩;have npd:p ≠ d1:=AI hp hd1n;refine ⟨_,rfl,p,C,dx,[],rfl,s1 _ _ hp,T.cl,T.nN,(by show 0 < 1000; decide),?_⟩;refine ⟨d1,Az (AX rows),by rw [AH (Ne.symm npd)]; exact hd1,fun o1=>?_⟩;refine ⟨_,rfl,.inr ⟨r,aR,ruleNames,rfl,hRT _,_,rfl,?_⟩⟩;rw [RL bc];refine Aw ?_;have ax:∀ o,(upd (upd H1 p (.ins C dx (BN "numbers" (.ref d1) []))) d1 o) p=some (.ins C dx (BN "numbers" (.ref d1) [])):=fun o=>by rw [AH npd,AB]
 refine ⟨_,rfl,p,C,dx,_,_,rfl,ax _,T.cl,T.nN,S9 d1,d1,o1,AX rows,rfl,AB,by rw [Ar]; omega,fun d2 H2 s2 hd2n hd2=>?_⟩;have npd2:p ≠ d2:=AI (ax _) hd2n;have hp3:=s2 _ _ (ax _);refine ⟨_,rfl,p,C,dx,_,rfl,hp3,T.cl,T.nF,(by show 1 < 1000; decide),?_⟩;refine ⟨d2,B5 (AT (AX rows)),by rw [AH (Ne.symm npd2)]; exact hd2,fun o2=>?_⟩;have hp4:∀ o,(upd (upd H2 p (.ins C dx (BN "firsts" (.ref d2) (BN "numbers" (.ref d1) [])))) d2 o) p=some (.ins C dx (BN "firsts" (.ref d2) (BN "numbers" (.ref d1) []))):=fun o=>by rw [AH npd2,AB]
 refine ⟨_,rfl,_,rfl,p,C,dx,_,rfl,hp4 _,T.cl,T.nR,Nat.lt_of_le_of_lt (CN _ _ _) (by show 2 < 1000; decide),?_⟩;have nd12:d1 ≠ d2:=AI (AB (H:=upd H1 p (.ins C dx (BN "numbers" (.ref d1) []))) (o:=.frz o1 (.dK (Az (AX rows))))) hd2n;refine k _ (fun b o e hb=>?_) ⟨⟨dx,d1,o1,d2,o2,AB,?_,?_⟩⟩
 ·rw [AH hb,AH,AH hb]
  ·refine s2 _ _ ?_;rw [AH (AI e hd1n),AH hb];exact s1 _ _ e
  ·intro z;subst z
   have:(upd (upd H1 p (.ins C dx (BN "numbers" (.ref d1) []))) d1 (.frz o1 (.dK (Az (AX rows))))) b=some o:=by
    rw [AH (AI e hd1n),AH hb];exact s1 _ _ e
   rw [hd2n] at this;cases this
 ·rw [AH (Ne.symm npd),AH nd12,AH (Ne.symm npd)];exact s2 _ _ AB
 ·rw [AH (Ne.symm npd2),AB]
end
structure Mt (P:Program) (w:World) (K:FG) (mg:SV) (base:Heap) (C:Addr) (m:Str) (k:Nat) (ps:List Str) (sp:Sp):Prop where
 ex:∃ f fd,Ac P w K mg base CX0 k f fd ps sp/\HX K C m f/\Binds K fd ps []
noncomputable def C4 (due:Aa):List (V × V):=due.map fun p=>(V.str p.1,V.int (p.2:Int))
noncomputable def Av (due:Aa):List Nat:=((AT due).map (·.1)).mergeSort fun a b=>decide (a <= b)
noncomputable def AJ (due:Aa):List Nat:=(Av due).filter Ay
noncomputable def Br (due:Aa):List (V × V):=(AJ due).map fun n=>(V.str (BL (AT due) n),V.int (n:Int))
theorem Ch (due:Aa):(Av due).Perm ((AT due).map (·.1)):=List.mergeSort_perm _ _
theorem Fq (due:Aa):(Av due).Pairwise (· <= ·):=by
 have:=List.pairwise_mergeSort (le:=fun a b:Nat=>decide (a <= b)) (fun a b c h1 h2=>by simp at h1 h2 ⊢; omega) (fun a b=>by simp; omega) ((AT due).map (·.1));exact this.imp fun h=>by simpa using h
theorem Lo {ns:List Int} (hp:ns.Perm ((B5 (AT due)).map fun kv=>match kv.1 with | Sum.inl i=>i | Sum.inr _=>0)) (hs:ns.Pairwise (· <= ·)):ns=(Av due).map fun n:Nat=>(n:Int):=by
 refine List.Perm.eq_of_pairwise (le:=(· <= ·)) (fun a b _ _ h1 h2=>Int.le_antisymm h1 h2) hs ?_ ?_
 ·rw [List.pairwise_map];exact (Fq due).imp fun h=>by omega
 ·have e:((B5 (AT due)).map fun kv=>match kv.1 with | Sum.inl i=>i | Sum.inr _=>0)=((AT due).map (·.1)).map fun n:Nat=>(n:Int):=by
   unfold B5;rw [map_map,map_map];rfl
  rw [e] at hp;exact hp.trans ((Ch due).symm.map _)
theorem mem_keysS {n:Nat}:n ∈ Av due ↔ n ∈ (AT due).map (·.1):=(Ch due).mem_iff
theorem EY (due:Aa):(Av due).length <= due.length:=by
 rw [(Ch due).length_eq,AF];exact Cg due
section
def IY (C:Addr):Sp:=fun vs H Q _=>∃ (p:Addr) (due:Aa) (r:Str),vs=[.ref p]/\KindAt C H p due r/\∀ l as H',Same H H'->H' l=some (.lst (as.map V.ref))->TupsAt H' as (C4 due)->Q (.ref l) H'
theorem Uj:AM ["self"] ["self"] (defScope GY):=fsc
theorem OJ (due:Aa):(Az due).map (fun kv=>(kV kv.1,kv.2))=C4 due:=by unfold Az C4; rw [map_map]; rfl
theorem TC (F:Fun K "rows" "Kind.rows" GY f fd) (B:Bl mg) (T:Dh K C):Ac P w K mg base CX0 1 f fd ["self"] (IY C):=by
 refine F.m Uj fun vs H Q E h=>?_;obtain ⟨p,due,r,rfl,KA,k⟩:=h;refine ⟨rfl,fun af A outer s hr=>?_⟩;obtain ⟨dx,d1,o1,d2,o2,hp,h1,h2⟩:=KA.ex;refine ⟨_,AE (AU (BH (Ht rfl) rfl B.list Ct (AA (Mw PySem.F.slot_dict_items PySem.F.type_dict_items LM (At (pv 0) rfl)) AC))),?_⟩;refine ⟨_,rfl,p,C,dx,_,_,rfl,hp,T.cl,T.nN,Fp _ _ _,d1,rfl,.inl ⟨_,.inr ⟨o1,h1⟩⟩,d1,_,rfl,rfl,.inr ⟨o1,h1⟩,fun v hv=>?_⟩;have s1:Same H (upd H v (LL d1 v)):=AD (Same.refl _) hv;refine ⟨v,d1,_,rfl,AB,Same.rd s1 (.inr ⟨o1,h1⟩),fun l as H' s2 _ hl ht=>?_⟩;rw [OJ] at ht;exact k l as H' (s1.trans s2) hl ht
def HH (C:Addr):Sp:=fun vs H Q _=>∃ (p:Addr) (due:Aa) (r:Str),vs=[.ref p]/\KindAt C H p due r/\∀ H',Same H H'->Q (.int (AQ ((AT due).map (·.1)):Nat)) H'
theorem TD:AM ["self"] ["self"] (defScope Ey):=fsc
theorem RM (F:Fun K "known" "Kind.known" Ey f fd) (B:Bl mg) (T:Dh K C) (GU:Fn P w K mg base "union_of" 1 ["numbers"] (CB K)):Ac P w K mg base CX0 2 f fd ["self"] (HH C):=by
 obtain ⟨fU,dU,GU,mU,kU,bU⟩:=GU.ex;refine F.m TD fun vs H Q E h=>?_;obtain ⟨p,due,r,rfl,KA,k⟩:=h;refine ⟨rfl,fun af A outer s hr=>?_⟩;obtain ⟨dx,d1,o1,d2,o2,hp,h1,h2⟩:=KA.ex;refine ⟨_,AE (AU (AL GU hr rfl mU kU bU .nil AN (AA (BH (Mx rfl) rfl B.list Ct (AA (At (pv 0) rfl) AC)) AC))),?_⟩;refine ⟨_,rfl,p,C,dx,_,_,rfl,hp,T.cl,T.nF,IW _ _ _,d2,_,rfl,.inr ⟨o2,h2⟩,fun l hl=>?_⟩;refine ⟨l,(AT due).map (·.1),rfl,SqL.of (by rw [AB]; unfold B5 A4; rw [map_map,map_map]; rfl),k _ (AD (Same.refl _) hl)⟩
def Fs (C:Addr):Sp:=fun vs H Q _=>∃ (p:Addr) (due:Aa) (r:Str),vs=[.ref p]/\KindAt C H p due r/\due.length <= 60/\∀ l as H',Same H H'->H' l=some (.lst (as.map V.ref))->TupsAt H' as (Br due)->Q (.ref l) H'
theorem TF:AM ["self"] ["self"] (defScope Ex):=fsc
theorem Jt {as:List Addr} {ps:List (V × V)} {b:Addr} {p:V × V} (s:Same H H') (h:TupsAt H as ps) (hb:H' b=some (.tup [p.1,p.2])):TupsAt H' (as++[b]) (ps++[p]):=Paired.snoc (TupsAt.same s h) hb
theorem RN (F:Fun K "marks" "Kind.marks" Ex f fd) (B:Bl mg) (T:Dh K C) (GM:Fn P w K mg base "is_mark" 1 ["number"] IP):Ac P w K mg base CX0 2 f fd ["self"] (Fs C):=by
 obtain ⟨fM,dM,GM,mM,kM,bM⟩:=GM.ex;refine F.m TF fun vs H Q E h=>?_;obtain ⟨p,due,r,rfl,KA,h60,k⟩:=h;refine ⟨rfl,fun af A outer s hr=>?_⟩;have hu:=Cr hr;obtain ⟨dx,d1,o1,d2,o2,hp,h1,h2⟩:=KA.ex
 refine ⟨_,AE (AU (BB ["self"] [some 0] (by kernel_rfl) (by decide +kernel) (by kernel_rfl) rfl (A2 (AZ (Fa rfl) rfl B.sorted Jq (AA (At (pv 0) rfl) AC)))
  (fun _ _ _ _ _ _=>FW (BG (AL GM hr rfl mM kM bM .nil AN (AA (pv 0) AC))))
  (fun _ _ _ _ _ _=>A6 (AA (BJ hu (OG K rfl (pv 1) rfl) (pv 0) (fun _ _=>rfl)) (AA (pv 0) AC))))),?_⟩
 have hle:(B5 (AT due)).length <= due.length:=by unfold B5; rw [AF]; exact Cg due
 refine ⟨_,rfl,p,C,dx,_,_,rfl,hp,T.cl,T.nF,IW _ _ _,d2,_,rfl,.inr ⟨o2,h2⟩,by omega,fun kv hkv=>?_,fun l ns hl d8 d9=>?_⟩
 ·unfold B5 at hkv;obtain ⟨q,_,rfl⟩:=mem_map.mp hkv;exact ⟨_,rfl⟩
 ·have en:=Lo d8 d9;subst en;have s1:Same H (upd H l (.lst (((Av due).map fun n:Nat=>(n:Int)).map V.int))):=AD (Same.refl _) hl;have exs:((Av due).map fun n:Nat=>(n:Int)).map V.int=A4 (Av due):=(Fl _).symm
  refine ⟨l,rfl,⟨_,SqL.of AB⟩,BR (K:=K) (a:=l) (xs:=A4 (Av due))
   (fun i ys H2=>∃ as,ys=as.map V.ref/\Same H H2/\H2 l=some (.lst (A4 (Av due)))/\TupsAt H2 as ((((Av due).take i).filter Ay).map fun n=>(V.str (BL (AT due) n),V.int (n:Int)))) ⟨[],rfl,s1,by rw [AB,exs],.nil⟩
   (fun i ys H2 _ ⟨_,_,_,e,_⟩=>SqL.of e) (fun i ys H2 ⟨as,e,_,_,t⟩=>?_) ?_ ?_⟩
  ·have:=t.length;rw [e,AF,this,AF];have h3:(((Av due).take i).filter Ay).length <= ((Av due).take i).length:=length_filter_le _ _;rw [length_take] at h3;have:=EY due;omega
  ·rintro i v ys H2 hi ⟨as,rfl,s2,hl2,ht⟩;obtain ⟨n,hn,rfl⟩:=Kh hi;have cg:n ∈ (AT due).map (·.1):=mem_keysS.mp (mem_of_getElem? hn);have et:((Av due).take (i + 1)).filter Ay=((Av due).take i).filter Ay++(if Ay n then [n] else []):=PySem.take_succ_filter Ay _ i n hn;refine ⟨_,rfl,n,rfl,_,rfl,?_⟩;refine Bp (fun hm=>?_) (fun hm=>?_)
   ·refine ⟨_,rfl,p,C,dx,_,_,rfl,s2 _ _ hp,T.cl,T.nF,IW _ _ _,_,rfl,d2,_,rfl,.inl ⟨_,Sum.inl (n:Int),Same.rd s2 (.inr ⟨o2,h2⟩),rfl,(Fo cg).symm⟩,_,rfl,sl2,fun b hb=>?_⟩;refine ⟨as++[b],by rw [map_append]; rfl,AD s2 hb,by rw [AH (AI hl2 hb)]; exact hl2,?_⟩;rw [et,hm,if_pos rfl,map_append];exact Jt (AD (Same.refl _) hb) ht AB
   ·refine ⟨as,rfl,s2,hl2,?_⟩;rw [et,if_neg hm,append_nil];exact ht
  ·rintro ys H2 ⟨as,rfl,s2,_,ht⟩ q hq
   have el:(Av due).take (A4 (Av due)).length=Av due:=by
    have:(A4 (Av due)).length=(Av due).length:=by unfold A4; rw [AF]
    rw [this]; exact take_length
   rw [el] at ht;exact k q as _ (AD s2 hq) AB (TupsAt.same (AD (Same.refl _) hq) ht)
end
theorem Lp {as:List Addr} {ps:List (V × V)} {i:Nat} {b:Addr} (h:TupsAt H as ps) (e:as[i]?=some b):∃ p,ps[i]?=some p/\H b=some (.tup [p.1,p.2]):=Bt h e
section
theorem KindAt.ins {p:Addr} {r:Str} (h:KindAt C H p due r):∃ dx d1 d2,H p=some (.ins C dx (HA d1 d2 r)):=by
 obtain ⟨dx,d1,o1,d2,o2,a,_⟩:=h.ex;exact ⟨dx,d1,d2,a⟩
theorem PY (due:Aa):(Br due).length=(AJ due).length:=AF _
end
theorem OK (h:∀ p ∈ due,p.2 < 2 ^ 20):∀ n ∈ (AT due).map (·.1),n < 2 ^ 20:=fun n hn=>by
 obtain ⟨q,hq,rfl⟩:=mem_map.mp hn;exact h _ (Ge hq)
theorem RP (h:∀ p ∈ due,p.2 < 2 ^ 20):∀ n ∈ AJ due,n < 2 ^ 20:=fun n hn=>OK h n (mem_keysS.mp (mem_filter.mp hn).1)
theorem Ft {x:Int} {n:Nat} (h0:0 <= x) (h:x < 2 ^ n):Builtin.Int.intBits x <= n:=by
 obtain ⟨m,rfl⟩:=Int.eq_ofNat_of_zero_le h0;have hm:m < 2 ^ n:=by exact_mod_cast h
 rcases Nat.eq_zero_or_pos m with e | hp
 ·subst e; exact Nat.zero_le _
 ·rw [Dw hp];exact (Nat.log2_lt (by omega)).mpr hm
theorem Gg {xs:List V} {i:Int} (h0:0 <= i) (h1:i < xs.length):∃ v,atI xs i=some v/\xs[i.toNat]?=some v:=by
 have hlt:i.toNat < xs.length:=by omega
 refine ⟨xs[i.toNat],?_,List.getElem?_eq_getElem hlt⟩;unfold atI ixN;rw [if_pos h0,if_pos h1];exact List.getElem?_eq_getElem hlt
structure SameX (d:Addr) (H H':Hp):Prop where
 old:∀ b o,H b=some o->b ≠ d->H' b=some o
 dice:∃ a b:Int,H' d=some (.lst [.int a,.int b])
theorem SameX.step {d:Addr} {H1 H2:Hp} (x:SameX d H H1) (s:Same H1 H2):SameX d H H2 :=
 ⟨fun b o e hb=>s _ _ (x.old b o e hb),by obtain ⟨a,b,e⟩:=x.dice; exact ⟨a,b,s _ _ e⟩⟩
theorem SameX.trans {d:Addr} {H1 H2:Hp} (x:SameX d H H1) (y:SameX d H1 H2):SameX d H H2:=⟨fun b o e hb=>y.old _ _ (x.old b o e hb) hb,y.dice⟩
section
def NQ (K:FG):Sp:=fun vs H Q _=>∃ (a:Addr) (ns:List Int) (k:Int),vs=[.ref a,.int k]/\SqL K H a (ns.map V.int)/\ns.length <= 63/\0 <= k/\∀ (v:Int) H',Same H H'->Q (.int v) H'
theorem Uk:AM ["_law_script", "_law_k"] ["_law_script", "_law_k"] (defScope IM):=fsc
theorem TH (F:Fun K "_law_cell" "_law_cell" IM f fd) (B:Bl mg):Ac P w K mg base CX0 1 f fd ["_law_script", "_law_k"] (NQ K):=by
 refine F.m Uk fun vs H Q E h=>?_;obtain ⟨a,ns,kk,rfl,hS,h63,hk,k⟩:=h;refine ⟨rfl,fun af A outer s hr=>?_⟩;have hu:=hr.units
 refine ⟨_,AG (An (AY (UV K rfl hu) (pv 0) (BO AC) (Ad _)) (AE (AU (Af HV (pv 1) AK))) AW)
  (AE (AU (Af DK (Bm (BD K rfl) (pv 0) (Af El (pv 1) (AZ (BI K rfl) rfl B.len PySem.boot_len (AA (pv 0) AC))) (fun _ _=>rfl))
   (Af HV (Af J9 (pv 1) (AZ (BI K rfl) rfl B.len PySem.boot_len (AA (pv 0) AC))) AK)))),?_⟩
 refine ⟨_,rfl,Nat.zero_le _,fun p hp=>?_⟩;have s1:Same H (upd H p (.lst [])):=AD (Same.refl _) hp;refine ⟨a,p,ns,[],rfl,rfl,s1.seq hS,SqL.of AB,_,rfl,?_⟩;refine Bp (fun h0=>?_) (fun h0=>?_)
 ·exact ⟨_,rfl,_,_,rfl,rfl,.inr ⟨by decide,by decide⟩,k _ _ s1⟩
 ·have bn:ns ≠ []:=fun z=>h0 (decide_eq_true z);have hpos:0 < ns.length:=List.length_pos_iff.mpr bn;have hl:(ns.map V.int).length=ns.length:=AF _;have hm0:0 <= kk % ((ns.map V.int).length:Int):=Int.emod_nonneg _ (by rw [hl]; omega);have hm1:kk % ((ns.map V.int).length:Int) < ((ns.map V.int).length:Nat):=Int.emod_lt_of_pos _ (by rw [hl]; omega);obtain ⟨v,hv,hv2⟩:=Gg (xs:=ns.map V.int) hm0 hm1
  obtain ⟨n,rfl⟩:∃ n,v=V.int n:=by
   rw [getElem?_map] at hv2;cases e:ns[(kk % ((ns.map V.int).length:Int)).toNat]? with
   | none=>rw [e] at hv2; cases hv2
   | some n=>rw [e] at hv2; exact ⟨n,(Option.some.inj hv2).symm⟩
  refine ⟨_,rfl,_,rfl,_,rfl,a,_,rfl,.inl (s1.seq hS),_,_,rfl,rfl,(by rw [hl]; omega),a,_,_,_,rfl,rfl,s1.seq hS,hv,?_⟩;exact ⟨_,rfl,_,rfl,a,_,rfl,.inl (s1.seq hS),_,_,rfl,rfl,⟨by rw [hl]; omega,by rw [hl]; omega⟩,_,_,rfl,rfl,.inr ⟨by decide,by decide⟩,_,_,rfl,rfl,k _ _ s1⟩
def Kl:Sp:=fun vs H Q _=>∃ (c k:Int),vs=[.int c,.int k]/\∀ r:Int,0 <= r->Q (.int r) H
theorem scDrawn:AM ["_law_cell_here", "_law_k", "_law_more"] ["_law_cell_here", "_law_k"] (defScope Gb):=fsc
theorem RQ (F:Fun K "_law_drawn" "_law_drawn" Gb f fd):Ac P w K mg base CX0 1 f fd ["_law_cell_here", "_law_k"] Kl:=by
 refine F.m scDrawn fun vs H Q E h=>?_;obtain ⟨c,kk,rfl,k⟩:=h;refine ⟨rfl,fun af A outer s hr=>?_⟩
 refine ⟨_,AG (Ai (i:=2) scDrawn.nd rfl (Or.inl rfl) (Af El (Af DK (Af HV (pv 0) AK) (Af HV (Af DK (pv 1) AK) AK)) AK))
  (AG (Ai (i:=2) scDrawn.nd rfl (Or.inl rfl) (Af El (Af KQ (pv 2) (pv 2)) AK))
  (AG (Ai (i:=2) scDrawn.nd rfl (Or.inl rfl) (Af KQ (Af KQ (Af DK (Af El (pv 2) AK) AK) (Af DK (Af Qa (pv 2) AK) AK)) (pv 2)))
  (AE (AU (Af El (pv 2) AK))))),?_⟩
 refine ⟨_,rfl,_,_,rfl,rfl,.inr ⟨by decide,by decide⟩,_,rfl,_,_,rfl,rfl,_,_,rfl,rfl,.inr ⟨by decide,by decide⟩,_,_,rfl,rfl,_,_,rfl,rfl,(by show (0:Int) < _; decide),?_⟩;generalize ha:(c * 6364136223846793005 + (kk + 1) * 1442695040888963407) % 340282366920938463463374607431768211507=m1
 have h1:0 <= m1/\m1 < 2 ^ 130:=by
  rw [← ha];exact ⟨Int.emod_nonneg _ (by decide),Int.lt_trans (Int.emod_lt_of_pos _ (by decide)) (by decide)⟩
 have b1:Builtin.Int.intBits m1 <= 2 ^ 20:=Nat.le_trans (Ft h1.1 h1.2) (by decide);subst ha;refine ⟨_,rfl,_,rfl,_,_,rfl,rfl,⟨b1,b1⟩,_,_,rfl,rfl,(by show (0:Int) < _; decide),?_⟩;generalize hb:(c * 6364136223846793005 + (kk + 1) * 1442695040888963407) % 340282366920938463463374607431768211507 * ((c * 6364136223846793005 + (kk + 1) * 1442695040888963407) % 340282366920938463463374607431768211507) % 340282366920938463463374607431768211297=m2
 have h2:0 <= m2/\m2 < 2 ^ 130:=by
  rw [← hb];exact ⟨Int.emod_nonneg _ (by decide),Int.lt_trans (Int.emod_lt_of_pos _ (by decide)) (by decide)⟩
 have b2:Builtin.Int.intBits m2 <= 2 ^ 20:=Nat.le_trans (Ft h2.1 h2.2) (by decide)
 have p1:0 <= m2 % 18446744073709551557 + 1/\m2 % 18446744073709551557 + 1 < 2 ^ 65:=by
  have:=Int.emod_nonneg m2 (show (18446744073709551557:Int) ≠ 0 by decide);have:=Int.emod_lt_of_pos m2 (show (0:Int) < 18446744073709551557 by decide);omega
 have p2:0 <= m2 / 18446744073709551557 + 1/\m2 / 18446744073709551557 + 1 < 2 ^ 131:=by
  have h3:=Int.ediv_nonneg h2.1 (show (0:Int) <= 18446744073709551557 by decide);have h4:=Int.ediv_le_self (18446744073709551557) h2.1;omega
 have p3:0 <= (m2 % 18446744073709551557 + 1) * (m2 / 18446744073709551557 + 1):=Int.mul_nonneg p1.1 p2.1
 have p4:(m2 % 18446744073709551557 + 1) * (m2 / 18446744073709551557 + 1) < 2 ^ 196:=by
  have:=Int.mul_lt_mul' (Int.le_of_lt p1.2) p2.2 p2.1 (show (0:Int) < 2 ^ 65 by decide);exact Int.lt_of_lt_of_le this (by decide)
 have c1:Builtin.Int.intBits (m2 % 18446744073709551557 + 1) <= 2 ^ 20:=Nat.le_trans (Ft p1.1 p1.2) (by decide);have c2:Builtin.Int.intBits (m2 / 18446744073709551557 + 1) <= 2 ^ 20:=Nat.le_trans (Ft p2.1 p2.2) (by decide);have c3:Builtin.Int.intBits ((m2 % 18446744073709551557 + 1) * (m2 / 18446744073709551557 + 1)) <= 2 ^ 20:=Nat.le_trans (Ft p3 p4) (by decide);subst hb;refine ⟨_,rfl,_,_,rfl,rfl,(by show (0:Int) < _; decide),_,_,rfl,rfl,_,rfl,_,_,rfl,rfl,⟨by decide,PyProof.noPylong_of_log2 (by decide +kernel)⟩,_,_,rfl,rfl,_,_,rfl,rfl,⟨c1,c2⟩,?_⟩;refine ⟨_,rfl,_,_,rfl,rfl,⟨c3,b2⟩,?_⟩;exact ⟨_,rfl,_,_,rfl,rfl,(by show (0:Int) < _; decide),k _ (Int.emod_nonneg _ (by decide))⟩
def FA:Sp:=fun vs H Q _=>∃ (d:Addr) (a b m:Int),vs=[.ref d,.int m]/\H d=some (.lst [.int a,.int b])/\0 < m/\m < 1073741824/\∀ r a' b':Int,0 <= r->r < m->Q (.int r) (upd H d (.lst [.int a',.int b']))
theorem scRoll:AM ["_law_dice", "_law_many", "_law_told_here"] ["_law_dice", "_law_many"] (defScope IN):=fsc
theorem TJ (F:Fun K "_law_roll" "_law_roll" IN f fd) (GD:Fn P w K mg base "_law_drawn" 1 ["_law_cell_here", "_law_k"] Kl):Ac P w K mg base CX0 2 f fd ["_law_dice", "_law_many"] FA:=by
 obtain ⟨fD,dD,GD,mD,kD,bD⟩:=GD.ex;refine F.m scRoll fun vs H Q E h=>?_;obtain ⟨d,a,b,m,rfl,hd,m0,m1,k⟩:=h;refine ⟨rfl,fun af A outer s hr=>?_⟩
 refine ⟨_,AG (An (AY QH (Bm (BD K rfl) (pv 0) AK (fun _ _=>rfl)) (Af Mi AK AK) (Ad _))
   (AG (Ai (i:=2) scRoll.nd rfl (Or.inl rfl) (Af El (Bm (BD K rfl) (pv 0) AK (fun _ _=>rfl)) (pv 1)))
   (AG (CT (Af J9 (Bm (BD K rfl) (pv 0) AK (fun _ _=>rfl)) (pv 1)) (P8 (pv 0) AK LB))
   (AE (AU (pv 2))))) AW)
  (AG (CT (Af DK (Bm (BD K rfl) (pv 0) AK (fun _ _=>rfl)) AK) (P8 (pv 0) AK LB))
  (AE (AU (Af El (Af J9 (AL GD hr rfl mD kD bD .nil AN (AA (Bm (BD K rfl) (pv 0) AK (fun _ _=>rfl)) (AA (Bm (BD K rfl) (pv 0) AK (fun _ _=>rfl)) AC))) AK) (pv 1))))),?_⟩
 refine ⟨_,rfl,d,_,0,.int a,rfl,rfl,SqL.of hd,DP (j:=0) rfl,_,_,rfl,rfl,⟨by decide,by decide,by decide⟩,_,_,rfl,rfl,_,rfl,?_⟩;refine Bp (fun _=>?_) (fun _=>?_)
 ·refine ⟨_,rfl,d,_,0,.int a,rfl,rfl,SqL.of hd,DP (j:=0) rfl,_,rfl,_,_,rfl,rfl,m0,?_⟩;refine ⟨_,rfl,d,_,0,.int a,rfl,rfl,SqL.of hd,DP (j:=0) rfl,_,rfl,_,_,rfl,rfl,⟨m0,m1⟩,_,rfl,d,_,0,0,rfl,rfl,hd,rfl,?_⟩;exact ⟨_,rfl,k _ (a / m) b (Int.emod_nonneg _ (by omega)) (Int.emod_lt_of_pos _ m0)⟩
 ·refine ⟨_,rfl,d,_,1,.int b,rfl,rfl,SqL.of hd,DP (j:=1) rfl,_,_,rfl,rfl,_,rfl,d,_,1,1,rfl,rfl,hd,rfl,?_⟩;have hd2:(upd H d (.lst ([V.int a,V.int b].set 1 (V.int (b + 1))))) d=some (.lst [.int a,.int (b + 1)]):=AB;refine ⟨_,rfl,d,_,0,.int a,rfl,rfl,SqL.of hd2,DP (j:=0) rfl,_,rfl,d,_,1,.int (b + 1),rfl,rfl,SqL.of hd2,DP (j:=1) rfl,_,_,rfl,fun r hr0=>?_⟩;refine ⟨_,_,rfl,rfl,⟨by decide,by decide⟩,_,rfl,_,_,rfl,rfl,m0,?_⟩;exact k _ a (b + 1) (Int.emod_nonneg _ (by omega)) (Int.emod_lt_of_pos _ m0)
end
theorem OL (n k:Nat):decide (V.int (Builtin.bitAnd ((n:Int) / 2 ^ ((0:Int) + (k:Int)).toNat) 1)=V.int 1)=n.testBit k:=by
 have e0:((0:Int) + (k:Int)).toNat=k:=by omega
 have e1:(n:Int) / 2 ^ k=((n / 2 ^ k:Nat):Int):=by push_cast; rfl
 have e2:Builtin.bitAnd ((n / 2 ^ k:Nat):Int) 1=((n / 2 ^ k % 2:Nat):Int):=by
  have:=CW (n / 2 ^ k) 1;rw [Nat.and_one_is_mod] at this;exact this
 rw [e0,e1,e2,Nat.testBit_eq_decide_div_mod_eq];refine decide_eq_decide.mpr ⟨fun h=>?_,fun h=>?_⟩
 ·have:=V.int.inj h;omega
 ·rw [h]; rfl
section
def IZ (K:FG):Sp:=fun vs H Q _=>∃ (a:Addr) (ns:List Int),vs=[.ref a,.int 3]/\SqL K H a (ns.map V.int)/\ns.length <= 63 /\
 ∀ (l:Addr) (as:List Addr) H',Same H H'->H' l=some (.lst (as.map V.ref))->as.Nodup->l ∉ as->as.length <= 4->(∀ b ∈ as,H b=none/\∃ x y:Int,H' b=some (.lst [.int x,.int y]))->Q (.ref l) H'
theorem RS:AM ["_law_script", "_law_most"] ["_law_script", "_law_most"] (defScope E3):=fsc
theorem PZ (F:Fun K "_law_rounds" "_law_rounds" E3 f fd) (B:Bl mg) (GC:Fn P w K mg base "_law_cell" 1 ["_law_script", "_law_k"] (NQ K)):Ac P w K mg base CX0 2 f fd ["_law_script", "_law_most"] (IZ K):=by
 obtain ⟨fC,dC,GC,mC,kC,bC⟩:=GC.ex;refine F.m RS fun vs H Q E h=>?_;obtain ⟨a,ns,rfl,hS,h63,k⟩:=h;refine ⟨rfl,fun af A outer s hr=>?_⟩
 refine ⟨_,AE (AU (BB ["_law_script"] [some 0] (by kernel_rfl) (by decide +kernel) (by kernel_rfl) rfl
  (B6 rfl B.range (AA (AZ (Of rfl) rfl B.max Ug (AA AK (AA (AZ (Og rfl) rfl B.min Uf (AA (pv 1) (AA (AZ (BI K rfl) rfl B.len PySem.boot_len (AA (pv 0) AC)) AC))) AC))) AC))
  (fun _ _ _ _ _ _=>BF)
  (fun _ _ _ _ _ _=>BO (AA (AL GC hr rfl mC kC bC .nil AN (AA (pv 1) (AA (pv 0) AC))) (AA AK AC))))),?_⟩
 have hl:(ns.map V.int).length=ns.length:=AF _;refine ⟨_,rfl,_,rfl,a,_,rfl,.inl hS,_,_,rfl,_,_,rfl,_,rfl,?_,?_,?_⟩
 ·split <;> split <;> omega
 ·split <;> split <;> omega
 ·generalize hn:(if (if (((ns.map V.int).length:Nat):Int) < 3 then (((ns.map V.int).length:Nat):Int) else 3) > 1 then (if (((ns.map V.int).length:Nat):Int) < 3 then (((ns.map V.int).length:Nat):Int) else 3) else 1).toNat=n
  have n5:n <= 4:=by
   rw [← hn];split <;> split <;> omega
  refine Ce (lo:=0) (n:=n) (fun i ys H2=>∃ as:List Addr,ys=as.map V.ref/\as.length=i/\i <= 4/\Same H H2/\as.Nodup/\∀ b ∈ as,H b=none/\∃ x y:Int,H2 b=some (.lst [.int x,.int y])) ⟨[],rfl,rfl,by decide,Same.refl _,nodup_nil,fun b hb=>nomatch hb⟩ ?_ ?_ ?_
  ·rintro i ys H2 ⟨as,rfl,e,h5,_⟩;rw [AF]; omega
  ·rintro i ys H2 hi ⟨as,rfl,e,h5,s2,nd,hb⟩;refine ⟨_,rfl,_,rfl,a,ns,_,rfl,s2.seq hS,h63,by omega,fun v H3 s3=>⟨sl2,fun p hp=>?_⟩⟩;refine ⟨as++[p],by rw [map_append]; rfl,by rw [length_append,e]; rfl,by omega,AD (s2.trans s3) hp,?_,fun b hb'=>?_⟩
   ·refine nodup_append.mpr ⟨nd,nodup_cons.mpr ⟨not_mem_nil,nodup_nil⟩,?_⟩;intro x hx y hy;rw [mem_singleton] at hy;subst hy;obtain ⟨_,x1,y1,e1⟩:=hb x hx;exact AI (s3 _ _ e1) hp
   ·rcases mem_append.mp hb' with z | z
    ·obtain ⟨h0,x1,y1,e1⟩:=hb b z;exact ⟨h0,x1,y1,AD s3 hp _ _ e1⟩
    ·rw [mem_singleton] at z;subst z;refine ⟨?_,v,0,AB⟩;cases e:H b with
     | none=>rfl
     | some o =>
      have:=s3 _ _ (s2 _ _ e);rw [this] at hp;cases hp
  ·rintro ys H2 ⟨as,rfl,e,h5,s2,nd,hb⟩ l hl;refine k l as _ (AD s2 hl) AB nd ?_ (by omega) fun b hb'=>?_
   ·intro z;obtain ⟨_,x,y,e1⟩:=hb l z;rw [e1] at hl; cases hl
   ·obtain ⟨h0,x,y,e1⟩:=hb b hb';exact ⟨h0,x,y,AD (Same.refl _) hl _ _ e1⟩
def Ie:Sp:=fun vs H Q _=>∃ n:Nat,vs=[.int (n:Int)]/\∀ l ys H',Same H H'->H' l=some (.lst ys)->ys.length=(DT n).length->Q (.ref l) H'
theorem RU:AM ["_law_number"] ["_law_number"] (defScope E4):=fsc
theorem Pa (F:Fun K "_law_bits_of" "_law_bits_of" E4 f fd) (B:Bl mg):Ac P w K mg base CX0 1 f fd ["_law_number"] Ie:=by
 refine F.m RU fun vs H Q E h=>?_;obtain ⟨n,rfl,k⟩:=h;refine ⟨rfl,fun af A outer s hr=>?_⟩
 refine ⟨_,AE (AU (BB ["_law_number"] [some 0] (by kernel_rfl) (by decide +kernel) (by kernel_rfl) rfl (B6 rfl B.range (AA AK AC))
  (fun _ _ _ _ _ _=>FW (AY Dj (Af DL (Af UK (pv 1) (pv 0)) AK) AK (Ad _)))
  (fun _ _ _ _ _ _=>Af KD AK (pv 0)))),?_⟩
 refine ⟨42,rfl,by decide,by decide,?_⟩;refine Ce (lo:=0) (n:=42) (fun i ys H2=>ys.length=((List.range i).filter fun k=>n.testBit k).length/\i <= 42/\H2=H) ⟨rfl,by decide,rfl⟩ ?_ ?_ ?_
 ·rintro i ys H2 ⟨e,hi,_⟩;rw [e];have:=length_filter_le (fun k=>n.testBit k) (List.range i);rw [List.length_range] at this;omega
 ·rintro i ys H2 hi ⟨e,_,rfl⟩;refine ⟨_,rfl,_,rfl,_,_,rfl,rfl,(by omega),_,_,rfl,rfl,?_⟩;refine ⟨rfl,_,rfl,?_⟩
  have er:((List.range (i + 1)).filter fun k=>n.testBit k).length=((List.range i).filter fun k=>n.testBit k).length + (if n.testBit i then 1 else 0):=by
   rw [List.range_succ,filter_append,length_append,filter_cons,List.filter_nil];split <;> rfl
  refine Bp (fun h=>?_) (fun h=>?_)
  ·have hb:n.testBit i=true:=by rw [← OL]; exact h
   refine ⟨_,rfl,_,_,rfl,rfl,⟨by omega,by first | decide | omega,by first | decide | omega⟩,?_,by omega,rfl⟩;rw [er,hb,length_append,e]; rfl
  ·have hb:n.testBit i=false:=by rw [← OL]; exact Bool.eq_false_iff.mpr h
   refine ⟨?_,by omega,rfl⟩;rw [er,hb,e]; rfl
 ·rintro ys H2 ⟨e,_,rfl⟩ l hl;exact k l ys _ (AD (Same.refl _) hl) AB e
end
end Mk
end
section
namespace L2
open PySem
def Vw (t u:TS):TS:=fun D σ H=>∃ G:St->Hp->Prop,(∀ R:St->Hp->Prop,(∀ σ H,G σ H->R σ H)->t { D with nx:=R } σ H)/\∀ σ H,G σ H->u D σ H
theorem BV {X:Cx} {st:Stmt} {rest:List Stmt} {t u:TS} (h1:PS X st t) (h2:PSs X rest u):PSs X (st :: rest) (Vw t u):=fun aa s σ H D I ⟨_,a,b⟩=>AG h1 h2 aa s σ H D I (a (u D) b)
end L2
namespace Mk
open PySem L2 MK
def SameT (H H':Hp):Prop:=∀ b xs,H b=some (.tup xs)->H' b=some (.tup xs)
theorem SameT.of (s:Same H H'):SameT H H':=fun b xs e=>s _ _ e
theorem SameT.upd {d:Addr} {xs ys:List V} (h:H d=some (.lst xs)):SameT H (upd H d (.lst ys)):=fun b zs e=>by
 rw [AH (fun z=>by subst z; rw [h] at e; cases e)]; exact e
theorem SameT.trans {H1 H2:Hp} (x:SameT H H1) (y:SameT H1 H2):SameT H H2:=fun b xs e=>y _ _ (x _ _ e)
theorem TupsAt.sameT {as:List Addr} {ps:List (V × V)} (s:SameT H H') (h:TupsAt H as ps):TupsAt H' as ps:=Paired.mapP h fun _ _ e=>s _ _ e
theorem ThAt.sameT {v:V} {th:Th} (s:SameT H H') (h:ThAt H v th):ThAt H' v th:=by
 cases th with
 | non=>exact h
 | num n=>exact h
 | nms ns=>obtain ⟨a,e,h⟩:=h; exact ⟨a,e,s _ _ h⟩
theorem RowAt.sameT {b:Addr} {r:Str × Th} (s:SameT H H') (h:RowAt H b r):RowAt H' b r:=by
 obtain ⟨tv,e,t⟩:=h;exact ⟨tv,s _ _ e,t.sameT s⟩
theorem BW {as:List Addr} {rows:List (Str × Th)} (s:SameT H H') (h:Paired (RowAt H) as rows):Paired (RowAt H') as rows:=Paired.mapP h fun _ _ e=>e.sameT s
noncomputable def FB (due:Aa):List PyData:=due.map fun p=>.tuple [.str p.1,.int (p.2:Int)]
theorem RV {b:Addr} {x:Str} {n:Int} (h:H b=some (.tup [.str x,.int n])):Bq K H (.tuple [.str x,.int n]) (.ref b):=by
 rw [Bq];refine ⟨b,_,rfl,SqT.of h,?_⟩;rw [Ax];refine ⟨_,_,rfl,by rw [Bq],?_⟩;rw [Ax];refine ⟨_,_,rfl,by rw [Bq],?_⟩;rw [Ax]
theorem Fu:∀ {due:Aa} {bs:List Addr},TupsAt H bs (C4 due)->Ax K H (FB due) (bs.map V.ref)
 | [],bs,h=>by
  have:bs=[]:=List.eq_nil_of_length_eq_zero (by rw [h.length]; rfl);subst this;show Ax K H [] [];rw [Ax]
 | p :: r,[],h=>by have:=h.length; simp [C4] at this
 | p :: r,b :: bs,h=>by
  have hh:H b=some (.tup [.str p.1,.int (p.2:Int)])/\TupsAt H bs (C4 r):=by
   cases h with
   | cons h1 h2=>exact ⟨h1,h2⟩
  show Ax K H (.tuple [.str p.1,.int (p.2:Int)] :: FB r) (V.ref b :: bs.map V.ref);rw [Ax];exact ⟨_,_,rfl,RV hh.1,Fu hh.2⟩
theorem Lq:∀ xs:List Str,Ax K H (xs.map PyData.str) (xs.map V.str)
 | []=>by show Ax K H [] []; rw [Ax]
 | x :: r=>by
  show Ax K H (.str x :: r.map PyData.str) (V.str x :: r.map V.str);rw [Ax];exact ⟨_,_,rfl,by rw [Bq],Lq r⟩
theorem DC {l:Addr} {ds:List PyData} {xs:List V} (h:H l=some (.lst xs)) (d:Ax K H ds xs):Bq K H (.list ds) (.ref l):=by
 rw [Bq];exact ⟨l,xs,rfl,SqL.of h,d⟩
theorem TK:Ax K H [] []:=by rw [Ax]
theorem TL (ds:List PyData):PyData.eqv (.list ds) (.list [])=ds.isEmpty:=by
 cases ds with
 | nil=>rfl
 | cons a r=>simp [PyData.eqv,PyData.eqvAll]
theorem Ig {x:Str} (h:x.cps.all (· < 128)=true):PyData.strOk x=true:=by
 unfold PyData.strOk;simp only [Array.all_eq_true,decide_eq_true_eq] at h ⊢;intro i hi;have:=h i hi;simp;omega
theorem Km {ds:List PyData} (h:∀ d ∈ ds,d.canLay0=true):PyData.canLayAll0 ds=true:=by
 induction ds with
 | nil=>rfl
 | cons a r ih=>rw [PyData.canLayAll0,h a mem_cons_self,ih fun d hd=>h d (mem_cons_of_mem _ hd)]; rfl
theorem NR {ds:List PyData} {k:Nat} (h:∀ d ∈ ds,d.depth <= k):PyData.depthAll ds <= k:=by
 induction ds with
 | nil=>rw [PyData.depthAll]; exact Nat.zero_le _
 | cons a r ih=>rw [PyData.depthAll]; exact Nat.max_le.mpr ⟨h a mem_cons_self,ih fun d hd=>h d (mem_cons_of_mem _ hd)⟩
theorem Gv {ds:List PyData} (h:∀ d ∈ ds,d.canLay0=true/\d.depth <= 60):SeqAt.shaped (.list ds)=true:=by
 unfold SeqAt.shaped;rw [Bool.and_eq_true,decide_eq_true_eq];refine ⟨by rw [PyData.canLay0]; exact Km fun d hd=>(h d hd).1,?_⟩;rw [PyData.depth];have:=NR (k:=60) fun d hd=>(h d hd).2;omega
theorem RW {x:Str} {n:Int} (h:x.cps.all (· < 128)=true):(PyData.tuple [.str x,.int n]).canLay0=true/\(PyData.tuple [.str x,.int n]).depth <= 60:=by
 refine ⟨?_,?_⟩
 ·rw [PyData.canLay0];refine Km fun d hd=>?_;simp only [mem_cons,not_mem_nil,or_false] at hd;rcases hd with rfl | rfl
  ·rw [PyData.canLay0]; exact Ig h
  ·rw [PyData.canLay0]
 ·simp only [PyData.depth,PyData.depthAll];omega
theorem D9 (h:∀ p ∈ due,p.1.cps.all (· < 128)=true):SeqAt.shaped (.list (FB due))=true:=Gv fun d hd=>by
 obtain ⟨p,hp,rfl⟩:=mem_map.mp hd;exact RW (h p hp)
theorem NS:SeqAt.shaped (.list [])=true:=by decide +kernel
noncomputable def uni (due:Aa) (ns:List Str):Nat:=AQ (due.map fun p=>if inV (.str p.1) (ns.map V.str) then p.2 else 0)
theorem OM (x:Str) (ns:List Str):inV (.str x) (ns.map V.str)=ns.any (· == x):=by
 unfold inV;rw [any_map];rfl
theorem Ih {p:Str × Nat} (nd:(due.map (·.1)).Nodup) (h:p ∈ due):look due p.1=p.2:=by
 induction due with
 | nil=>cases h
 | cons q r ih =>
  rw [map_cons,nodup_cons] at nd;unfold look;by_cases e:q.1=p.1
  ·rw [List.find?_cons_of_pos (by simpa using e)];rcases mem_cons.mp h with z | z
   ·subst z; rfl
   ·exact absurd (mem_map.mpr ⟨p,z,e.symm⟩) nd.1
  ·rw [List.find?_cons_of_neg (by simpa using e)];rcases mem_cons.mp h with z | z
   ·subst z; exact absurd rfl e
   ·exact ih nd.2 z
theorem Ul {ns:List Str} (nd:(due.map (·.1)).Nodup) (hs:∀ x ∈ ns,x ∈ due.map (·.1)):uni due ns=AQ (ns.map (look due)):=by
 refine Nat.eq_of_testBit_eq fun k=>?_;unfold uni;rw [A9,A9,any_map,any_map,Bool.eq_iff_iff,any_eq_true,any_eq_true];constructor
 ·rintro ⟨p,hp,hb⟩;simp only [Function.comp] at hb;by_cases hi:inV (.str p.1) (ns.map V.str)=true
  ·rw [if_pos hi] at hb;rw [OM,any_eq_true] at hi;obtain ⟨x,hx,e⟩:=hi;have e':x=p.1:=by simpa using e
   subst e';exact ⟨p.1,hx,by simp only [Function.comp]; rw [Ih nd hp]; exact hb⟩
  ·rw [if_neg hi,Nat.zero_testBit] at hb;cases hb
 ·rintro ⟨x,hx,hb⟩;obtain ⟨p,hp,rfl⟩:=mem_map.mp (hs x hx);refine ⟨p,hp,?_⟩;simp only [Function.comp] at hb ⊢;rw [Ih nd hp] at hb;rw [if_pos (by rw [OM,any_eq_true]; exact ⟨p.1,hx,by simp⟩)];exact hb
theorem Lr {rows:List (Str × Th)} {r:Str × Th} (h:C3 rows) (hr:OH (AX rows) r):C3 (rows++[r]):=by
 intro i q e;rcases Nat.lt_trichotomy i rows.length with z | z | z
 ·rw [List.getElem?_append_left z] at e;rw [List.take_append_of_le_length (Nat.le_of_lt z)];exact h i q e
 ·subst z;rw [List.getElem?_append_right (Nat.le_refl _),Nat.sub_self] at e;have:r=q:=by simpa using e
  subst this;rw [List.take_append_of_le_length (Nat.le_refl _),take_length];exact hr
 ·rw [List.getElem?_eq_none (by rw [length_append,length_singleton]; omega)] at e;cases e
theorem EB {rows:List (Str × Th)} (h:C3 rows) (h10:rows.length <= 10):IS (AX rows):=by
 have key:∀ n,n <= rows.length->IS (AX (rows.take n)):=by
  intro n;induction n with
  | zero=>intro _; rw [List.take_zero]; exact ⟨by decide,(fun p hp=>nomatch hp),nodup_nil,(fun p hp=>nomatch hp)⟩
  | succ n ih =>
   intro hn;have D:=ih (by omega);have hq:rows[n]?=some rows[n]:=List.getElem?_eq_getElem (by omega);have R:=h n _ hq;rw [take_add_one,hq,Option.toList_some,ES];refine ⟨?_,fun p hp=>?_,?_,fun p hp=>?_⟩
   ·rw [length_append,length_singleton]; have:=R.few; omega
   ·rcases mem_append.mp hp with z | z
    ·exact D.lt p z
    ·rw [mem_singleton] at z; subst z; exact R.lt
   ·rw [map_append];refine nodup_append.mpr ⟨D.nd,nodup_cons.mpr ⟨not_mem_nil,nodup_nil⟩,?_⟩;intro x hx y hy;have ey:y=(rows[n]).1:=by simpa using hy
    subst ey;exact fun z=>R.new (z ▸ hx)
   ·rcases mem_append.mp hp with z | z
    ·exact D.nm p z
    ·rw [mem_singleton] at z; subst z; exact R.nm
 have:=key rows.length (Nat.le_refl _);rw [take_length] at this;exact this
theorem Um {A B:TT} {σ:St} {Q:Bool->Hp->Prop} (p q:Bool) (hA:∀ Q':Bool->Hp->Prop,Q' p H->A σ H Q') (hB:∀ Q':Bool->Hp->Prop,Q' q H->B σ H Q') (h:Q (p || q) H):tOr A B σ H Q:=by
 refine hA _ ?_;cases p with
 | true=>exact Bo h
 | false=>exact Aw (hB _ h)
theorem TM {A B:TT} {σ:St} {Q:Bool->Hp->Prop} (p q:Bool) (hA:∀ Q':Bool->Hp->Prop,Q' p H->A σ H Q') (hB:∀ Q':Bool->Hp->Prop,(∀ H',Same H H'->Q' q H')->B σ H Q') (h:∀ H',Same H H'->Q (p && q) H'):VM A B σ H Q:=by
 refine hA _ ?_;cases p with
 | true=>exact Bo (hB _ h)
 | false=>exact Aw (h _ (Same.refl _))
theorem Ju {p:Addr} (s:Same H H') (h:H' p=none):H p=none:=by
 cases e:H p with
 | none=>rfl
 | some o=>rw [s _ _ e] at h; cases h
theorem C5 {X:Cx} {x:Str} {j} {p:Pos} {es:List Expr} {t:TA} (h:PA X es t):PA X (.Constant (.str x) j p :: es) (Aq (tC (.str x)) t):=AA Ag h
theorem Pb {X:Cx} {x0 x1 x2 x3 x4 x5 x6 x7 x8 x9:Str} {j0} {j1} {j2} {j3} {j4} {j5} {j6} {j7} {j8} {j9} {p0 p1 p2 p3 p4 p5 p6 p7 p8 p9:Pos}:PA X [.Constant (.str x0) j0 p0,.Constant (.str x1) j1 p1,.Constant (.str x2) j2 p2,.Constant (.str x3) j3 p3,.Constant (.str x4) j4 p4,.Constant (.str x5) j5 p5,.Constant (.str x6) j6 p6,.Constant (.str x7) j7 p7,.Constant (.str x8) j8 p8,.Constant (.str x9) j9 p9] (Aq (tC (.str x0)) (Aq (tC (.str x1)) (Aq (tC (.str x2)) (Aq (tC (.str x3)) (Aq (tC (.str x4)) (Aq (tC (.str x5)) (Aq (tC (.str x6)) (Aq (tC (.str x7)) (Aq (tC (.str x8)) (Aq (tC (.str x9)) (CO))))))))))):=C5 (C5 (C5 (C5 (C5 (C5 (C5 (C5 (C5 (C5 (AC))))))))))
theorem CD {bs:List Addr} {i:Nat} {v:V} (h:TupsAt H bs (C4 due)) (e:(bs.map V.ref)[i]?=some v):∃ b p,v=.ref b/\bs[i]?=some b/\due[i]?=some p/\H b=some (.tup [.str p.1,.int (p.2:Int)]):=by
 rw [getElem?_map] at e
 obtain ⟨b,hb,rfl⟩:∃ b,bs[i]?=some b/\v=V.ref b:=by
  cases q:bs[i]? with
  | none=>rw [q] at e; cases e
  | some x=>rw [q] at e; exact ⟨x,rfl,(Option.some.inj e).symm⟩
 obtain ⟨pq,hpq,av⟩:=Lp h hb;unfold C4 at hpq;rw [getElem?_map] at hpq
 obtain ⟨pr,hpr,rfl⟩:∃ q,due[i]?=some q/\pq=(V.str q.1,V.int (q.2:Int)):=by
  cases q:due[i]? with
  | none=>rw [q] at hpq; cases hpq
  | some x=>rw [q] at hpq; exact ⟨x,rfl,(Option.some.inj hpq).symm⟩
 exact ⟨b,pr,rfl,hb,hpr,av⟩
noncomputable def wordsL:List Str:=["A", "B", "CD", "EFG", "H", "IJKLMN", "O", "P", "Q", "R"]
theorem RY:∀ x ∈ wordsL,Vv x:=by
 have:∀ x ∈ wordsL,(JN x && x.cps.all (· < 128) && decide (x.length <= 1000))=true:=by decide +kernel
 intro x hx;have:=this x hx;simp only [Bool.and_eq_true,decide_eq_true_eq] at this;exact ⟨this.1.1,this.1.2,this.2⟩
theorem Pc:∀ i:Fin 10,(wordsL[i.1]?.map fun x=>decide (x ∈ wordsL.take i.1))=some false:=by decide +kernel
structure LW (d w f u:Addr) (H0 H:Hp) (rows:List (Str × Th)):Prop where
 old:∀ b o,H0 b=some o->b ≠ d->H b=some o
 dice:∃ a b:Int,H d=some (.lst [.int a,.int b])
 words:H w=some (.lst (wordsL.map V.str))
 found:∃ as:List Addr,H f=some (.lst (as.map V.ref))/\Paired (RowAt H) as rows
 due:∃ bs:List Addr,H u=some (.lst (bs.map V.ref))/\TupsAt H bs (C4 (AX rows))
structure Ap (d w f u:Addr) (H0:Hp):Prop where
 wd:w ≠ d
 fd:f ≠ d
 ud:u ≠ d
 wf:w ≠ f
 wu:w ≠ u
 fu:f ≠ u
 nf:H0 f=none
 nu:H0 u=none
section
variable {d w u:Addr} {H0:Hp} {rows:List (Str × Th)}
theorem LW.same (h:LW d w f u H0 H rows) (s:Same H H'):LW d w f u H0 H' rows:=by
 obtain ⟨a,b,e⟩:=h.dice;obtain ⟨as,e1,p1⟩:=h.found;obtain ⟨bs,e2,p2⟩:=h.due;exact ⟨fun c o ec hc=>s _ _ (h.old c o ec hc),⟨a,b,s _ _ e⟩,s _ _ h.words,⟨as,s _ _ e1,BW (SameT.of s) p1⟩,⟨bs,s _ _ e2,TupsAt.sameT (SameT.of s) p2⟩⟩
theorem LW.roll (A:Ap d w f u H0) (h:LW d w f u H0 H rows) (a' b':Int):LW d w f u H0 (upd H d (.lst [.int a',.int b'])) rows:=by
 obtain ⟨a,b,e⟩:=h.dice;obtain ⟨as,e1,p1⟩:=h.found;obtain ⟨bs,e2,p2⟩:=h.due;have t:SameT H (upd H d (.lst [.int a',.int b'])):=SameT.upd e;exact ⟨fun c o ec hc=>by rw [AH hc]; exact h.old c o ec hc,⟨a',b',AB⟩,by rw [AH A.wd]; exact h.words,⟨as,by rw [AH A.fd]; exact e1,BW t p1⟩,⟨bs,by rw [AH A.ud]; exact e2,TupsAt.sameT t p2⟩⟩
end
theorem Cb {rows:List (Str × Th)} {bs:List Addr} (h:TupsAt H bs (C4 (AX rows))):bs.length=rows.length:=by
 rw [h.length]; unfold C4; rw [AF,Ar]
theorem RZ (rows:List (Str × Th)):(AX rows).map (·.1)=rows.map (·.1):=by
 have:∀ (l:List (Str × Th)) (a:Aa),((l.foldl (fun due r=>due++[(r.1,Cu due r.2)]) a).map (·.1))=a.map (·.1)++l.map (·.1):=by
  intro l;induction l with
  | nil=>intro a; simp
  | cons x r ih=>intro a; rw [foldl_cons,ih,map_append]; simp
 have e:=this rows [];unfold AX;rw [e]; rfl
noncomputable def WT:St->Nat
 | [_,_,_,_,_,_,_,_,_,some (.int i),_,_]=>(2 ^ 22 - i).toNat
 | _=>0
section
def HI:Sp:=fun vs H Q _=>∃ (d:Addr) (a b M:Int),vs=[.ref d,.int M]/\1 <= M/\M <= 10/\H d=some (.lst [.int a,.int b]) /\
 ∀ (q f u:Addr) (as bs:List Addr) (rows:List (Str × Th)) H',SameX d H H'->H' q=some (.tup [.ref f,.ref u])->H f=none->H u=none->H' f=some (.lst (as.map V.ref))->Paired (RowAt H') as rows->H' u=some (.lst (bs.map V.ref))->TupsAt H' bs (C4 (AX rows)) ->
  0 < rows.length->(rows.length:Int) <= M->C3 rows->(∀ x ∈ rows.map (·.1),x ∈ wordsL)->Q (.ref q) H'
noncomputable abbrev Uo:List Str:=["_law_dice", "_law_most", "_law_words", "_law_found", "_law_due", "_law_at", "_law_high", "_law_kind", "_law_thing", "_law_number", "_law_name", "_law_more"]
@[irreducible] noncomputable def NT:Expr:=match defBody CA with | .Assign _ (.Tuple (e :: _) _ _) _ :: _=>e | _=>.Constant .none 0 ⟨0,0,0,0⟩
noncomputable abbrev TQ:Stmt:=match defBody CA with | .Assign t (.Tuple (_ :: r) k p) q :: _=>.Assign t (.Tuple (NT :: r) k p) q | _=>.Pass ⟨0,0,0,0⟩
noncomputable abbrev Up:List Stmt:=(defBody CA).drop 1
theorem Ur:defBody CA=TQ :: Up:=by kernel_rfl
theorem Pd {X:Cx}:PE X NT (Vc (Aq (tC (.str "A")) (Aq (tC (.str "B")) (Aq (tC (.str "CD")) (Aq (tC (.str "EFG")) (Aq (tC (.str "H")) (Aq (tC (.str "IJKLMN")) (Aq (tC (.str "O")) (Aq (tC (.str "P")) (Aq (tC (.str "Q")) (Aq (tC (.str "R")) (CO)))))))))))):=by
 unfold NT;exact BO Pb
theorem scLines:AM Uo ["_law_dice", "_law_most"] (defScope CA):=fsc
theorem Ra {f0:Addr} (F:Fun K "_law_lines" "_law_lines" CA f0 fd) (B:Bl mg) (GR:Fn P w K mg base "_law_roll" 2 ["_law_dice", "_law_many"] FA):Ac P w K mg base CX0 3 f0 fd ["_law_dice", "_law_most"] HI:=by
 obtain ⟨fR,dR,GR,mR,kR,bR⟩:=GR.ex;refine F.m scLines fun vs H Q E h=>?_;obtain ⟨d,a,b,M,rfl,M1,M10,hd,k⟩:=h;refine ⟨rfl,fun af A outer s hr=>?_⟩;have hu64:=hr.units;have nd:=scLines.nd;rw [Ur]
 refine ⟨_,AG (CT (hs:=by kernel_rfl) (hw:=by kernel_rfl) (A6 (AA (hs:=by kernel_rfl) Pd (AA (BO AC) (AA (BO AC) AC))))
   (BK rfl (AS (AR (i:=2) scLines.nd rfl (Or.inl rfl)) (AS (AR (i:=3) scLines.nd rfl (Or.inl rfl)) (AS (AR (i:=4) scLines.nd rfl (Or.inr rfl)) A1)))))
  (AG (Bs PassesOwn.never rfl (B6 rfl B.range (AA (Af DK AK (AL GR hr rfl mR kR bR .nil AN (AA (pv 0) (AA (pv 1) AC)))) AC)) (AR (i:=5) scLines.nd rfl (Or.inl rfl))
   (BV (Ai (i:=6) scLines.nd rfl (Or.inl rfl) (N5 rfl rfl B.max (Dq [] [] (by kernel_rfl) (by decide +kernel) (by kernel_rfl) (by kernel_rfl) rfl (A2 (pv 4)) (fun _ _ _ _ _ _=>BF) (fun _ _ _ _ _ _=>pv 1)) AK))
   (AG (Ai (i:=7) scLines.nd rfl (Or.inl rfl) (AL GR hr rfl mR kR bR .nil AN (AA (pv 0) (AA AK AC))))
   (AG (CT (hs:=by kernel_rfl) (hw:=by kernel_rfl) (A6 (AA UC (AA AK AC))) (BK rfl (AS (AR (i:=8) scLines.nd rfl (Or.inl rfl)) (AS (AR (i:=9) scLines.nd rfl (Or.inl rfl)) A1))))
   (BV (QB PassesOwn.never (AY FM (pv 9) (pv 6) (Ad _)) (AE (Ai (i:=9) scLines.nd rfl (Or.inl rfl) (Af HV (pv 9) AK))))
   (BV (An (PW.pt (Cm (AY Dj (pv 7) AK (Ad _)) (CS (AY QH (pv 9) (Af Mi AK AK) (Ad _)))))
     (AG (Ai (i:=8) scLines.nd rfl (Or.inl rfl) (Bm (BD K rfl) (BO (AA (Af KD AK (AL GR hr rfl mR kR bR .nil AN (AA (pv 0) (AA AK AC)))) (AA (AL GR hr rfl mR kR bR .nil AN (AA (pv 0) (AA AK AC)))
      (AA (Af KD AK (AL GR hr rfl mR kR bR .nil AN (AA (pv 0) (AA AK AC)))) (AA AK AC))))) (AL GR hr rfl mR kR bR .nil AN (AA (pv 0) (AA AK AC))) (fun _ _=>rfl)))
     (AE (Ai (i:=9) scLines.nd rfl (Or.inl rfl) (pv 8)))) AW)
   (BV (An (PW.pt (Di (AY K6 (pv 7) AK (Ad _)) (Cl (AY (KN K rfl hu64) (pv 4) (BO AC) (Ad _)))))
     (AG (Ai (i:=8) scLines.nd rfl (Or.inl rfl) (BH CI rfl B.tuple BY (AA (BB ["_law_due", "_law_dice"] [some 4,some 0] (by kernel_rfl) (by decide +kernel) (by kernel_rfl) rfl (B6 rfl B.range (AA (Af DK AK (AL GR hr rfl mR kR bR .nil AN (AA (pv 0) (AA AK AC)))) AC)) (fun _ _ _ _ _ _=>BF)
      (fun _ _ _ _ _ _=>Bm (Db K rfl) (Bm (BD K rfl) (pv 1) (AL GR hr rfl mR kR bR .nil AN (AA (pv 2) (AA (AZ (BI K rfl) rfl B.len PySem.boot_len (AA (pv 1) AC)) AC))) (fun _ _=>rfl)) AK (fun _ _=>rfl))) AC)))
     (AG (Ai (i:=9) scLines.nd rfl (Or.inl rfl) AK)
     (AE (Bs PassesOwn.never rfl (A2 (pv 4)) (BK rfl (AS (AR (i:=10) scLines.nd rfl (Or.inl rfl)) (AS (AR (i:=11) scLines.nd rfl (Or.inl rfl)) A1)))
      (AE (Ai (i:=9) scLines.nd rfl (Or.inl rfl) (Af K5 (pv 9) (HR (AY Ja (pv 10) (pv 8) rfl) (pv 11) AK)))))))) AW)
   (AG (CH (Gs PySem.F.plainAttrs_list PySem.F.slot_list_append PySem.F.type_list_append EQ (pv 3) (AA (A6 (AA (Bm (BD K rfl) (pv 2) (pv 5) (fun _ _=>rfl)) (AA (pv 8) AC))) AC)))
   (AE (CH (Gs PySem.F.plainAttrs_list PySem.F.slot_list_append PySem.F.type_list_append EQ (pv 4) (AA (A6 (AA (Bm (BD K rfl) (pv 2) (pv 5) (fun _ _=>rfl)) (AA (pv 9) AC))) AC))))))))))))
  (AE (AU (A6 (AA (pv 3) (AA (pv 4) AC)))))),?_⟩
 refine ⟨(by show 10 <= sizeLine; decide),fun pw hpw=>⟨Nat.zero_le _,fun pf hpf=>⟨Nat.zero_le _,fun pu hpu=>⟨sl3,fun q0 hq0=>?_⟩⟩⟩⟩;refine ⟨q0,_,rfl,SqT.of AB,rfl,_,_,rfl,_,_,rfl,_,_,rfl,rfl,?_⟩;have dw:pw ≠ d:=Ne.symm (AI hd hpw);have s1:Same H (upd H pw (.lst (wordsL.map V.str))):=AD (Same.refl _) hpw;have s2:Same (upd H pw (.lst (wordsL.map V.str))) (upd (upd H pw (.lst (wordsL.map V.str))) pf (.lst [])):=AD (Same.refl _) hpf;have s3:Same (upd (upd H pw (.lst (wordsL.map V.str))) pf (.lst [])) (upd (upd (upd H pw (.lst (wordsL.map V.str))) pf (.lst [])) pu (.lst [])):=AD (Same.refl _) hpu;have s4:=AD (Same.refl _) hq0 (o:=HO.tup [.ref pw,.ref pf,.ref pu]);have nf0:H pf=none:=Ju s1 hpf;have nu0:H pu=none:=Ju (s1.trans s2) hpu;have AP:Ap d pw pf pu H:=⟨dw,Ne.symm (AI hd nf0),Ne.symm (AI hd nu0),AI AB hpf,AI (s2 _ _ AB) hpu,AI AB hpu,nf0,nu0⟩;have L0:LW d pw pf pu H _ []:=⟨fun b o e _=>s4 _ _ (s3 _ _ (s2 _ _ (s1 _ _ e))),⟨a,b,s4 _ _ (s3 _ _ (s2 _ _ (s1 _ _ hd)))⟩,s4 _ _ (s3 _ _ (s2 _ _ AB)),⟨[],s4 _ _ (s3 _ _ AB),.nil⟩,⟨[],s4 _ _ AB,.nil⟩⟩;obtain ⟨a1,b1,hd1⟩:=L0.dice;refine ⟨_,rfl,_,rfl,d,a1,b1,M,rfl,hd1,by omega,by omega,fun r a' b' h0 h1=>?_⟩;refine ⟨_,_,rfl,rfl,_,rfl,by omega,by omega,?_⟩
 refine JS (lo:=0) (n:=(1 + r).toNat) (fun i σ H2=>∃ (v5 v6 v7 v8 v9 v10 v11:Option V) (rows:List (Str × Th)),σ=[some (.ref d),some (.int M),some (.ref pw),some (.ref pf),some (.ref pu),v5,v6,v7,v8,v9,v10,v11]/\rows.length=i/\C3 rows/\rows.map (·.1)=wordsL.take i/\LW d pw pf pu H H2 rows)
  ⟨none,none,none,none,none,none,none,[],rfl,rfl,(fun i r e=>by simp at e),rfl,L0.roll AP a' b'⟩ ?_ ?_
 ·rintro i σ H2 hi ⟨v5,v6,v7,v8,v9,v10,v11,rows,rfl,bw,RO,di,L⟩;have hi10:i < 10:=by omega
  have DO:IS (AX rows):=EB RO (by omega);generalize cr:D6 ((AX rows).map (·.2))=bz
  have hh20:bz < 2 ^ 20:=by
   rw [← cr];exact Li (by decide) fun n hn=>by obtain ⟨p,hp,rfl⟩:=mem_map.mp hn; exact DO.lt p hp
  refine ⟨fun σ H3=>σ=[some (.ref d),some (.int M),some (.ref pw),some (.ref pf),some (.ref pu),some (.int (0 + (i:Int))),some (.int (bz:Int)),v7,v8,v9,v10,v11]/\LW d pw pf pu H H3 rows,fun R hR=>?_,?_⟩
  ·obtain ⟨bs,hu,a0⟩:=L.due;have hbl:=Cb a0;refine ⟨_,rfl,pu,rfl,⟨_,SqL.of hu⟩,BR (K:=K) (a:=pu) (xs:=bs.map V.ref) (fun j ys H3=>ys=A4 (((AX rows).take j).map (·.2))/\H3=H2) ⟨by rfl,rfl⟩ (fun j ys H3 _ ⟨_,e⟩=>e ▸ SqL.of hu) (fun j ys H3 ⟨e,_⟩=>?_) ?_ ?_⟩
   ·rw [e]; unfold A4; rw [AF,AF,length_take,Ar]; omega
   ·rintro j v ys H3 hj ⟨rfl,rfl⟩;obtain ⟨bb,p,rfl,hb1,aw,av⟩:=CD a0 hj;refine ⟨bb,_,rfl,SqT.of av,rfl,_,_,rfl,_,_,rfl,rfl,?_⟩;refine ⟨_,rfl,?_,rfl⟩;rw [take_add_one,aw,Option.toList_some,map_append];unfold A4;rw [map_append];rfl
   ·rintro ys H3 ⟨rfl,rfl⟩ p hp;have sp:=AD (Same.refl _) hp (o:=HO.lst (A4 (((AX rows).take (bs.map V.ref).length).map (·.2))));have el:(AX rows).take (bs.map V.ref).length=AX rows:=by rw [AF,hbl,← Ar,take_length]
    refine ⟨p,((AX rows).map (·.2)).map (fun n:Nat=>(n:Int)),0,rfl,rfl,SqL.of (by rw [AB,el,Fl]),fun e=>?_,fun e=>?_⟩
    ·refine hR _ _ ⟨?_,L.same sp⟩;have:(AX rows).map (·.2)=[]:=map_eq_nil_iff.mp e;rw [this] at cr;subst cr;rfl
    ·refine hR _ _ ⟨?_,L.same sp⟩;have bn:(AX rows).map (·.2) ≠ []:=fun z=>e (by rw [z]; rfl);rw [Lj bn,cr];rfl
  ·rintro σ H3 ⟨rfl,L3⟩;obtain ⟨a3,b3,hd3⟩:=L3.dice;refine ⟨_,rfl,d,a3,b3,8,rfl,hd3,by decide,by decide,fun kd a4 b4 kd0 kd1=>?_⟩;have L4:=L3.roll AP a4 b4;refine ⟨sl2,fun q hq=>⟨q,_,rfl,SqT.of AB,rfl,_,_,rfl,_,_,rfl,rfl,?_⟩⟩;have L5:=L4.same (AD (Same.refl _) hq (o:=HO.tup [V.non,V.int 1]));refine ⟨fun σ H6=>σ=[some (.ref d),some (.int M),some (.ref pw),some (.ref pf),some (.ref pu),some (.int (0 + (i:Int))),some (.int (bz:Int)),some (.int kd),some .non,some (.int (Bd bz:Nat)),v10,v11]/\LW d pw pf pu H H6 rows,fun R hR=>?_,?_⟩
   ·refine QD (fun σ H6=>LW d pw pf pu H H6 rows/\∃ j:Nat,j <= 20/\σ=[some (.ref d),some (.int M),some (.ref pw),some (.ref pf),some (.ref pu),some (.int (0 + (i:Int))),some (.int (bz:Int)),some (.int kd),some .non,some (.int ((2 ^ j:Nat):Int)),v10,v11]/\(j=0\/2 ^ (j - 1) <= bz)) (fun σ _=>WT σ) ⟨L5,0,by omega,rfl,.inl rfl⟩ ?_ ?_
    ·rintro σ H6 ⟨L6,j,hj,rfl,hjj⟩;refine ⟨_,rfl,_,rfl,_,_,rfl,rfl,_,rfl,?_⟩;refine Bp (fun hle=>?_) (fun hle=>?_)
     ·have hle':2 ^ j <= bz:=by have:=of_decide_eq_true hle; exact_mod_cast this
      have hj20:j < 20:=(Nat.pow_lt_pow_iff_right (by decide)).mp (Nat.lt_of_le_of_lt hle' hh20);refine ⟨_,rfl,_,_,rfl,rfl,.inr ⟨by decide,by decide⟩,?_⟩;have e2:(((2 ^ j:Nat):Int) * 2)=((2 ^ (j + 1):Nat):Int):=by rw [Nat.pow_succ]; omega
      refine ⟨⟨L6,j + 1,by omega,?_,.inr hle'⟩,?_⟩
      ·show [some (V.ref d),some (V.int M),some (V.ref pw),some (V.ref pf),some (V.ref pu),some (V.int (0 + (i:Int))),some (V.int (bz:Int)),some (V.int kd),some V.non,some (V.int (((2 ^ j:Nat):Int) * 2)),v10,v11]=_;rw [e2]
      ·show (2 ^ 22 - (((2 ^ j:Nat):Int) * 2)).toNat < (2 ^ 22 - ((2 ^ j:Nat):Int)).toNat;have h1:0 < 2 ^ j:=Nat.two_pow_pos j;have h2:2 ^ j <= 2 ^ 20:=Nat.pow_le_pow_right (by decide) hj;omega
     ·have hgt:bz < 2 ^ j:=by
       have:¬ ((2 ^ j:Nat):Int) <= (bz:Int):=fun z=>hle (decide_eq_true z);omega
      refine hR _ _ ⟨?_,L6⟩;rw [Lh hgt hjj]
    ·rintro σ H6 Q1 Q2 hQ ⟨v,e1,v2,e2,i,j,a,b,c,ec,q⟩;exact ⟨v,e1,v2,e2,i,j,a,b,c,ec,hQ _ _ q⟩
   ·rintro σ H6 ⟨rfl,L6⟩;have hsig:∀ (tv nv w10 w11:V),True:=fun _ _ _ _=>trivial;refine ⟨fun σ H7=>∃ (tv:V) (th:Th) (w10 w11:Option V),σ=[some (.ref d),some (.int M),some (.ref pw),some (.ref pf),some (.ref pu),some (.int (0 + (i:Int))),some (.int (bz:Int)),some (.int kd),some tv,some (.int (Cu (AX rows) th:Nat)),w10,w11]/\LW d pw pf pu H H7 rows/\ThAt H7 tv th/\S7 (AX rows) th/\Cu (AX rows) th < 2 ^ 20,fun R hR=>?_,?_⟩
    ·refine Um (decide (V.int kd=V.int 5)) (decide ((2:Int) ^ (20:Int).toNat <= (Bd bz:Nat))) (fun Q' h=>⟨_,rfl,rfl,_,rfl,h⟩) (fun Q' h=>⟨_,rfl,_,_,rfl,rfl,⟨by decide,by decide,by decide⟩,_,_,rfl,rfl,_,rfl,h⟩) ?_;refine Bp (fun _=>?_) (fun hc=>?_)
     ·obtain ⟨x1,y1,e1⟩:=L6.dice;refine ⟨_,rfl,d,x1,y1,8,rfl,e1,by decide,by decide,fun r1 a1 b1 r10 r11=>?_⟩;have M1:=L6.roll AP a1 b1;refine ⟨_,_,rfl,rfl,⟨r10,by omega,by decide⟩,?_⟩;obtain ⟨x2,y2,e2⟩:=M1.dice;refine ⟨_,rfl,d,x2,y2,64,rfl,e2,by decide,by decide,fun r2 a2 b2 r20 r21=>?_⟩;have M2:=M1.roll AP a2 b2;obtain ⟨x3,y3,e3⟩:=M2.dice;refine ⟨_,rfl,d,x3,y3,20,rfl,e3,by decide,by decide,fun r3 a3 b3 r30 r31=>?_⟩;have M3:=M2.roll AP a3 b3;refine ⟨_,_,rfl,rfl,⟨r30,by omega,by decide⟩,?_⟩;refine ⟨sl4,fun p hp=>?_⟩;have M4:=M3.same (AD (Same.refl _) hp (o:=HO.lst [V.int (1 * 2 ^ r1.toNat),V.int r2,V.int (1 * 2 ^ r3.toNat),V.int 0]));obtain ⟨x4,y4,e4⟩:=M4.dice;have npd:p ≠ d:=Ne.symm (AI AB hp);refine ⟨_,rfl,d,x4,y4,4,rfl,e4,by decide,by decide,fun r4 a4 b4 r40 r41=>?_⟩;have M5:=M4.roll AP a4 b4;obtain ⟨v,hv,hv2⟩:=Gg (xs:=[V.int (1 * 2 ^ r1.toNat),V.int r2,V.int (1 * 2 ^ r3.toNat),V.int 0]) r40 (by show r4 < 4; exact r41)
      have hin:∃ n:Nat,v=.int (n:Int)/\n < 2 ^ 20:=by
       have:=mem_of_getElem? hv2;simp only [mem_cons,not_mem_nil,or_false] at this;rcases this with z | z | z | z
       ·refine ⟨2 ^ r1.toNat,by rw [z]; simp,?_⟩;exact (Nat.pow_lt_pow_iff_right (by decide)).mpr (by omega)
       ·exact ⟨r2.toNat,by rw [z,Int.toNat_of_nonneg r20],by omega⟩
       ·refine ⟨2 ^ r3.toNat,by rw [z]; simp,?_⟩;exact (Nat.pow_lt_pow_iff_right (by decide)).mpr (by omega)
       ·exact ⟨0,z,by decide⟩
      obtain ⟨n,rfl,hn⟩:=hin;refine ⟨p,_,r4,_,rfl,rfl,SqL.of (by rw [AH npd]; exact AB),hv,?_⟩;exact ⟨_,rfl,hR _ _ ⟨.int (n:Int),.num n,v10,v11,rfl,M5,rfl,trivial,hn⟩⟩
     ·refine hR _ _ ⟨.non,.non,v10,v11,?_,L6,rfl,trivial,?_⟩
      ·show _=[some (V.ref d),some (V.int M),some (V.ref pw),some (V.ref pf),some (V.ref pu),some (V.int (0 + (i:Int))),some (V.int (bz:Int)),some (V.int kd),some V.non,some (V.int ((Bd (D6 ((AX rows).map (·.2))):Nat):Int)),v10,v11];rw [cr]
      ·show Bd (D6 ((AX rows).map (·.2))) < 2 ^ 20;rw [cr];have h2:¬ ((2:Int) ^ (20:Int).toNat <= (Bd bz:Nat)):=fun z=>hc (by rw [decide_eq_true z,Bool.or_true]);have h3:((2:Int) ^ (20:Int).toNat)=1048576:=by decide
       omega
    ·rintro σ H7 ⟨tv,th,w10,w11,rfl,L7,hT,hTO,hlt⟩;obtain ⟨bs,hu,a0⟩:=L7.due;have hbl:=Cb a0;refine ⟨fun σ H8=>∃ (tv:V) (th:Th) (w10 w11:Option V),σ=[some (.ref d),some (.int M),some (.ref pw),some (.ref pf),some (.ref pu),some (.int (0 + (i:Int))),some (.int (bz:Int)),some (.int kd),some tv,some (.int (Cu (AX rows) th:Nat)),w10,w11]/\LW d pw pf pu H H8 rows/\ThAt H8 tv th/\S7 (AX rows) th/\Cu (AX rows) th < 2 ^ 20,fun R hR=>?_,?_⟩
     ·refine TM (decide ((5:Int) < kd)) (!(FB (AX rows)).isEmpty) (fun Q' h=>⟨_,rfl,_,_,rfl,rfl,_,rfl,h⟩) (fun Q' h=>⟨_,rfl,Nat.zero_le _,fun p hp=>?_⟩) (fun H8 s8=>?_)
      ·have sp:=AD (Same.refl _) hp (o:=HO.lst []);refine ⟨.list (FB (AX rows)),.list [],DC (sp _ _ hu) (Fu (TupsAt.sameT (SameT.of sp) a0)),DC AB TK,D9 fun p hp=>(DO.nm p hp).2.1,NS,_,rfl,?_⟩;rw [TL];exact h _ sp
      ·refine Bp (fun hc=>?_) (fun hc=>?_)
       ·have bn:0 < bs.length:=by
         rw [Bool.and_eq_true] at hc;have h2:=hc.2;rw [hbl,← Ar];cases hz:AX rows with
         | nil=>rw [hz] at h2; cases h2
         | cons x r=>simp
        have L8:=L7.same s8;obtain ⟨x1,y1,e1⟩:=L8.dice;refine ⟨_,rfl,d,x1,y1,3,rfl,e1,by decide,by decide,fun r1 a1 b1 r10 r11=>?_⟩;have M1:=L8.roll AP a1 b1;refine ⟨_,_,rfl,rfl,_,rfl,by omega,by omega,?_⟩;refine Ce (lo:=0) (n:=(1 + r1).toNat) (fun j ys H9=>∃ ns:List Str,ys=ns.map V.str/\ns.length=j/\j <= 3/\(∀ x ∈ ns,x ∈ (AX rows).map (·.1))/\LW d pw pf pu H H9 rows) ⟨[],rfl,rfl,by decide,(fun x hx=>nomatch hx),M1⟩ ?_ ?_ ?_
        ·rintro j ys H9 ⟨ns,rfl,e,h3,_⟩;rw [AF]; omega
        ·rintro j ys H9 hj ⟨ns,rfl,e,h3,hin,L9⟩;obtain ⟨x2,y2,e2⟩:=L9.dice;obtain ⟨cs,hu9,bt⟩:=L9.due;have ak:=Cb bt;have bf:(cs.map V.ref).length=bs.length:=by rw [AF,ak,hbl]
         refine ⟨_,rfl,_,rfl,_,rfl,pu,_,rfl,.inl (SqL.of hu9),d,x2,y2,_,rfl,e2,by rw [bf]; omega,by rw [bf]; omega,fun r2 a2 b2 r20 r21=>?_⟩;have M2:=L9.roll AP a2 b2;have hu10:(upd H9 d (.lst [.int a2,.int b2])) pu=some (.lst (cs.map V.ref)):=by rw [AH AP.ud]; exact hu9
         have hcs2:TupsAt (upd H9 d (.lst [.int a2,.int b2])) cs (C4 (AX rows)):=TupsAt.sameT (SameT.upd e2) bt;obtain ⟨v,hv,hv2⟩:=Gg (xs:=cs.map V.ref) r20 (by exact r21);obtain ⟨bb,p,rfl,_,aw,av⟩:=CD hcs2 hv2;refine ⟨pu,_,r2,_,rfl,rfl,SqL.of hu10,hv,bb,_,0,.str p.1,rfl,rfl,SqT.of av,rfl,?_⟩;refine ⟨ns++[p.1],by rw [map_append]; rfl,by rw [length_append,e]; rfl,by omega,fun x hx=>?_,M2⟩;rcases mem_append.mp hx with z | z
         ·exact hin x z
         ·rw [mem_singleton] at z;subst z;exact mem_map.mpr ⟨p,mem_of_getElem? aw,rfl⟩
        ·rintro ys H9 ⟨ns,rfl,e,h3,hin,L9⟩ l hl;have L10:=L9.same (AD (Same.refl _) hl (o:=HO.lst (ns.map V.str)));refine ⟨l,_,rfl,.inl ⟨SqL.of AB,fun t ht=>?_⟩⟩;have L11:=L10.same (AD (Same.refl _) ht (o:=HO.tup (ns.map V.str)));obtain ⟨cs,hu11,bt⟩:=L11.due;have ak:=Cb bt;refine ⟨_,rfl,pu,rfl,⟨_,SqL.of hu11⟩,Ba (K:=K) (a:=pu) (xs:=cs.map V.ref) (fun j σ H12=>H12=upd (upd H9 l (.lst (ns.map V.str))) t (.tup (ns.map V.str))/\∃ w10 w11:Option V,σ=[some (.ref d),some (.int M),some (.ref pw),some (.ref pf),some (.ref pu),some (.int (0 + (i:Int))),some (.int (bz:Int)),some (.int kd),some (.ref t),some (.int (uni ((AX rows).take j) ns:Nat)),w10,w11]) ⟨rfl,w10,w11,rfl⟩ (fun j σ H12 _ ⟨e,_⟩=>e ▸ SqL.of hu11) ?_ ?_⟩
         ·rintro j v σ H12 hj ⟨rfl,w10,w11,rfl⟩;obtain ⟨bb,p,rfl,_,aw,av⟩:=CD bt hj;refine ⟨bb,_,rfl,SqT.of av,rfl,_,_,rfl,_,_,rfl,rfl,?_⟩;refine ⟨_,rfl,_,rfl,_,rfl,t,_,rfl,.inr (SqT.of AB),rfl,?_,_,rfl,?_⟩
          ·rw [all_map];exact List.all_eq_true.mpr fun _ _=>rfl
          ·have eu:uni ((AX rows).take (j + 1)) ns=uni ((AX rows).take j) ns ||| (if inV (.str p.1) (ns.map V.str) then p.2 else 0):=by
            unfold uni;rw [take_add_one,aw,Option.toList_some,map_append];exact DS _ _
           refine Bp (fun hc2=>?_) (fun hc2=>?_)
           ·refine ⟨_,rfl,_,_,rfl,rfl,rfl,some (.str p.1),some (.int (p.2:Int)),?_⟩;have hc3:inV (.str p.1) (ns.map V.str)=true:=hc2;rw [hc3,if_pos rfl] at eu;rw [eu,← DR];rfl
           ·refine ⟨_,_,rfl,rfl,rfl,some (.str p.1),some (.int (p.2:Int)),?_⟩;have hc3:inV (.str p.1) (ns.map V.str)=false:=Bool.eq_false_iff.mpr hc2;rw [hc3,if_neg Bool.false_ne_true] at eu;rw [eu,← DR];rfl
         ·rintro σ H12 ⟨rfl,w10,w11,rfl⟩;have el:(AX rows).take (cs.map V.ref).length=AX rows:=by rw [AF,ak,← Ar,take_length]
          have en:Cu (AX rows) (.nms ns)=uni (AX rows) ns:=(Ul DO.nd hin).symm;have eL:ns.length=(1 + r1).toNat:=e;refine hR _ _ ⟨.ref t,.nms ns,w10,w11,by rw [el,en],L11,⟨t,rfl,AB⟩,⟨?_,by omega,hin⟩,?_⟩
          ·intro z; subst z; simp at eL; omega
          ·show AQ (ns.map (look (AX rows))) < 2 ^ 20;refine Fh fun n hn=>?_;obtain ⟨x,hx,rfl⟩:=mem_map.mp hn;obtain ⟨p,hp,rfl⟩:=mem_map.mp (hin x hx);rw [Ih DO.nd hp];exact DO.lt p hp
       ·exact hR _ _ ⟨tv,th,w10,w11,rfl,L7.same s8,hT.same s8,hTO,hlt⟩
     ·rintro σ H8 ⟨tv,th,w10,w11,rfl,L8,hT,hTO,hlt⟩;obtain ⟨as,hf,hP⟩:=L8.found;have bh:as.length=rows.length:=hP.length;have hw:wordsL[i]?=some wordsL[i]:=List.getElem?_eq_getElem hi10;generalize bd:wordsL[i]=wd at hw
      have hat:atI (wordsL.map V.str) (0 + (i:Int))=some (.str wd):=by
       have:(0:Int) + (i:Int)=((i:Nat):Int):=by omega
       rw [this];exact DP (by rw [getElem?_map,hw]; rfl)
      refine ⟨_,rfl,.inl ⟨rfl,_,SqL.of hf⟩,_,rfl,_,rfl,pw,_,_,.str wd,rfl,rfl,SqL.of L8.words,hat,_,rfl,sl2,fun p hp=>?_⟩;have sp:=AD (Same.refl _) hp (o:=HO.tup [V.str wd,tv]);have hz1:(as.map V.ref).length < sizeLine:=Ab (by rw [AF]; omega);refine ⟨pf,_,.ref p,rfl,rfl,sp _ _ hf,hz1,?_⟩;have t1:SameT (upd H8 p (.tup [V.str wd,tv])) (upd (upd H8 p (.tup [V.str wd,tv])) pf (.lst (as.map V.ref++[.ref p]))):=SameT.upd (sp _ _ hf);obtain ⟨bs,hu,a0⟩:=L8.due;have hbl:=Cb a0;have hu1:(upd (upd H8 p (.tup [V.str wd,tv])) pf (.lst (as.map V.ref++[.ref p]))) pu=some (.lst (bs.map V.ref)):=by rw [AH (Ne.symm AP.fu)]; exact sp _ _ hu
      have hw1:(upd (upd H8 p (.tup [V.str wd,tv])) pf (.lst (as.map V.ref++[.ref p]))) pw=some (.lst (wordsL.map V.str)):=by rw [AH AP.wf]; exact sp _ _ L8.words
      refine ⟨_,rfl,.inl ⟨rfl,_,SqL.of hu1⟩,_,rfl,_,rfl,pw,_,_,.str wd,rfl,rfl,SqL.of hw1,hat,_,rfl,sl2,fun q hq=>?_⟩;have sq:=AD (Same.refl _) hq (o:=HO.tup [V.str wd,V.int ((Cu (AX rows) th:Nat):Int)]);have hz2:(bs.map V.ref).length < sizeLine:=Ab (by rw [AF]; omega);refine ⟨pu,_,.ref q,rfl,rfl,sq _ _ hu1,hz2,?_⟩;have t2:=SameT.upd (sq _ _ hu1) (ys:=bs.map V.ref++[.ref q]);have tall:=((SameT.of sp).trans t1).trans ((SameT.of sq).trans t2);obtain ⟨x,y,ed⟩:=L8.dice;have RR:OH (AX rows) (wd,th):=⟨DO,by rw [Ar]; omega,RY wd (mem_of_getElem? hw),?_,hTO,hlt⟩;refine ⟨_,_,_,_,_,_,_,rows++[(wd,th)],rfl,by rw [length_append,bw]; rfl,Lr RO RR,?_,?_⟩
      ·rw [map_append,di,take_add_one,hw,Option.toList_some]; rfl
      ·refine ⟨fun c o ec hc=>?_,⟨x,y,?_⟩,?_,⟨as++[p],?_,?_⟩,⟨bs++[q],?_,?_⟩⟩
       ·have n1:c ≠ pu:=AI ec AP.nu;have n2:c ≠ pf:=AI ec AP.nf;rw [AH n1];refine sq _ _ ?_;rw [AH n2];exact sp _ _ (L8.old c o ec hc)
       ·rw [AH (Ne.symm AP.ud)];refine sq _ _ ?_;rw [AH (Ne.symm AP.fd)];exact sp _ _ ed
       ·rw [AH AP.wu];exact sq _ _ hw1
       ·rw [AH AP.fu];refine sq _ _ ?_;rw [AB,map_append]; rfl
       ·refine Paired.snoc (BW tall hP) ?_;exact ⟨tv,t2 _ _ (sq _ _ (t1 _ _ AB)),hT.sameT tall⟩
       ·rw [AB,map_append]; rfl
       ·rw [ES];unfold C4;rw [map_append];exact Paired.snoc (TupsAt.sameT tall a0) (t2 _ _ AB)
      ·rw [RZ,di];intro z;have key:=Pc ⟨i,hi10⟩;rw [hw] at key;have:=Option.some.inj key;exact of_decide_eq_false this z
 ·rintro σ H2 ⟨v5,v6,v7,v8,v9,v10,v11,rows,rfl,bw,RO,di,L⟩;obtain ⟨as,hf,hP⟩:=L.found;obtain ⟨bs,hu,a0⟩:=L.due;refine ⟨_,rfl,_,rfl,sl2,fun q hq=>?_⟩;have sq:=AD (Same.refl _) hq (o:=HO.tup [V.ref pf,V.ref pu]);refine k q pf pu as bs rows _ ⟨fun c o e hc=>sq _ _ (L.old c o e hc),?_⟩ AB nf0 nu0 (sq _ _ hf) (BW (SameT.of sq) hP) (sq _ _ hu) (TupsAt.sameT (SameT.of sq) a0) (by omega) (by omega) RO (fun x hx=>mem_of_mem_take (di ▸ hx));obtain ⟨x,y,e⟩:=L.dice;exact ⟨x,y,sq _ _ e⟩
end
end Mk
end
section
namespace L2
open PySem
theorem Gh {X:Cx} (K:FG) (hK:X.K=K):Bk X (.builtin "isinstance") (fun xs H Q=>∃ v C t b,xs=[v,.ref C]/\TyOf K H v t/\W.kitOne K t (.ref C)=some b/\Q (.bl b) H):=by
 subst hK;intro aa s σ H xs us Q I r h;obtain ⟨v,C,t,b,rfl,ty,hk,q⟩:=h;obtain ⟨u,uT,rfl,ru,ruT⟩:=FO r;cases ruT;exact JV I ru ty hk fun tk=>⟨.bl b,H,I.tok tk,rfl,q⟩
end L2
namespace Mk
open PySem L2 MK
structure KIsi (K:FG) (C:Addr):Prop where
 cl:Cls K C
 ha:W.findIn K (.ref C) "__class__" = some (some (.builtin "object.__class__"))
 hn:W.specialIn K (.builtin "object.__class__") "__get__" = some (some (.builtin "getset_descriptor.__get__"))
 ht:W.takesIn K (.builtin "object.__class__")=some true
 hm:W.mroIn K C (.type "object")=some true
 nl:W.kitOne K (.type "list") (.ref C)=some false
theorem KIsi.ty {a dx:Addr} {fs:List (Str × V)} (k:KIsi K C) (e:H a=some (.ins C dx fs)):TyOf K H (.ref a) (.ref C):=.ins e k.cl k.ha k.hn k.ht k.hm
theorem EE (K:FG) (C:Addr):W.kitOne K (.ref C) (.ref C)=some true:=by
 unfold W.kitOne;rw [if_pos (by simp)]
section
def Fv (C:Addr):Sp:=fun vs H Q _=>∃ (p:Addr) (due:Aa) (r:Str) (x:Str),vs=[.ref p,.str x]/\KindAt C H p due r/\x ∈ due.map (·.1)/\Q (.int (look due x:Nat)) H
theorem Rb:AM ["self", "name"] ["self", "name"] (defScope Dy):=fsc
theorem Pe (F:Fun K "number" "Kind.number" Dy f fd) (T:Dh K C) (GO:Fn P w K mg base "is_one_of" 1 ["thing", "names"] (Ca K)):Ac P w K mg base CX0 2 f fd ["self", "name"] (Fv C):=by
 obtain ⟨fO,dO,GO,mO,kO,bO⟩:=GO.ex;refine F.m Rb fun vs H Q E h=>?_;obtain ⟨p,due,r,x,rfl,KA,hx,k⟩:=h;refine ⟨rfl,fun af A outer s hr=>?_⟩;have hu:=Cr hr;obtain ⟨dx,d1,o1,d2,o2,hp,h1,h2⟩:=KA.ex
 refine ⟨_,AG (An (BU (BG (AL GO hr rfl mO kO bO .nil AN (AA (pv 1) (AA (At (pv 0) rfl) AC))))) (AE Ao) AW)
  (AE (AU (BJ hu (At (pv 0) rfl) (pv 1) (fun _ _=>rfl)))),?_⟩
 have DG:LF H d1 (.str x) (some (V.int (look due x:Int))):=.inl ⟨_,Sum.inr x,.inr ⟨o1,h1⟩,rfl,(CQ hx).symm⟩;refine ⟨_,rfl,_,rfl,p,C,dx,_,_,rfl,hp,T.cl,T.nN,Fp _ _ _,.inl ⟨x,d1,Az due,rfl,.inr ⟨o1,h1⟩,_,rfl,?_⟩⟩;rw [CQ hx];refine Aw ?_;exact ⟨_,rfl,p,C,dx,_,_,rfl,hp,T.cl,T.nN,Fp _ _ _,_,rfl,d1,_,rfl,DG,k⟩
def Kn (C:Addr):Sp:=fun vs H Q _=>∃ (p:Addr) (due:Aa) (r:Str),vs=[.ref p]/\KindAt C H p due r/\Q (.str r) H
theorem Us:AM ["self"] ["self"] (defScope GZ):=fsc
theorem TR (F:Fun K "rest" "Kind.rest" GZ f fd) (T:Dh K C):Ac P w K mg base CX0 1 f fd ["self"] (Kn C):=by
 refine F.m Us fun vs H Q E h=>?_;obtain ⟨p,due,r,rfl,KA,k⟩:=h;refine ⟨rfl,fun af A outer s hr=>?_⟩;obtain ⟨dx,d1,o1,d2,o2,hp,h1,h2⟩:=KA.ex;refine ⟨_,AE (AU (At (pv 0) rfl)),?_⟩;exact ⟨_,rfl,p,C,dx,_,_,rfl,hp,T.cl,T.nR,Gf _ _ _,k⟩
theorem Rc {p q:Str × Nat}:PyData.eqv (.tuple [.str p.1,.int (p.2:Int)]) (.tuple [.str q.1,.int (q.2:Int)])=decide (p=q):=by
 rw [Bool.eq_iff_iff];simp only [PyData.eqv,PyData.eqvAll,Bool.and_true,Bool.and_eq_true,decide_eq_true_eq,beq_iff_eq];constructor
 ·rintro ⟨a,b⟩;exact Prod.ext a (by exact_mod_cast b)
 ·rintro rfl;exact ⟨rfl,rfl⟩
theorem Ls:∀ (a b:Aa),PyData.eqv (.list (FB a)) (.list (FB b))=decide (a=b)
 | [],[]=>by simp [FB,PyData.eqv,PyData.eqvAll]
 | [],q :: r=>by simp [FB,PyData.eqv,PyData.eqvAll]
 | p :: r,[]=>by simp [FB,PyData.eqv,PyData.eqvAll]
 | p :: r,q :: s=>by
  have ih:=Ls r s
  have h:PyData.eqv (.list (FB (p :: r))) (.list (FB (q :: s)))=(PyData.eqv (.tuple [.str p.1,.int (p.2:Int)]) (.tuple [.str q.1,.int (q.2:Int)]) && PyData.eqv (.list (FB r)) (.list (FB s))):=by
   simp only [FB,map_cons,PyData.eqv,PyData.eqvAll]
  rw [h,Rc,ih,Bool.eq_iff_iff];simp
def Asc (due:Aa):Prop:=∀ p ∈ due,p.1.cps.all (· < 128)=true
def Ii (C:Addr):Sp:=fun vs H Q _=>∃ (a b:Addr) (due:Aa) (r:Str),vs=[.ref a,.ref b]/\KindAt C H a due r/\Asc due /\
 ((∃ xs,H b=some (.lst xs)/\∀ H',Same H H'->Q (.bl false) H')\/∃ (due':Aa) (r':Str),KindAt C H b due' r'/\Asc due'/\∀ H',Same H H'->Q (.bl (decide (due=due'/\r=r'))) H')
theorem WU:AM ["self", "other"] ["self", "other"] (defScope Kd):=fsc
theorem Ut (F:Fun K "__eq__" "Kind.__eq__" Kd f fd) (B:Bl mg) (T:Dh K C) (KI:KIsi K C) (mC:mg "Kind" = some (.ref C)) (GR:Mt P w K mg base C "rows" 1 ["self"] (IY C)):Ac P w K mg base CX0 2 f fd ["self", "other"] (Ii C):=by
 obtain ⟨fR,dR,GR,mR,bR⟩:=GR.ex;refine F.m WU fun vs H Q E h=>?_;obtain ⟨a,b,due,r,rfl,KA,h1,h⟩:=h;refine ⟨rfl,fun af A outer s hr=>?_⟩;have hu64:=hr.units
 refine ⟨_,AE (AU (Cc (AZ (Gh K rfl) rfl B.isi D5 (AA (pv 1) (AA (Bz (v:=.ref C) rfl mC rfl) AC)))
  (Cc (Co (UU K rfl hu64) (Ah (pv 0) T.cl mR GR hr bR .nil AN) (Ah (pv 1) T.cl mR GR hr bR .nil AN) (Ad _))
   (DJ (Co Dj (At (pv 0) rfl) (At (pv 1) rfl) (Ad _)))))),?_⟩
 obtain ⟨dx,d1,d2,hp⟩:=KA.ins;rcases h with ⟨xs,hb,k⟩ | ⟨due',r',KB,h2,k⟩
 ·refine ⟨_,rfl,_,C,_,false,rfl,.lst hb,KI.nl,_,rfl,?_⟩;exact Aw (k _ (Same.refl _))
 ·obtain ⟨dy,e1,e2,hq⟩:=KB.ins;refine ⟨_,rfl,_,C,_,true,rfl,KI.ty hq,EE K C,_,rfl,?_⟩;refine Bo ?_;refine ⟨_,rfl,a,dx,_,rfl,hp,(Bj _ _ _),a,due,r,rfl,KA,fun l as H1 s1 hl ht=>?_⟩;refine ⟨_,rfl,b,dy,_,rfl,s1 _ _ hq,(Bj _ _ _),b,due',r',rfl,KB.same s1,fun l2 as2 H2 s2 hl2 ht2=>?_⟩;refine ⟨_,_,DC (s2 _ _ hl) (Fu (TupsAt.same s2 ht)),DC hl2 (Fu ht2),D9 h1,D9 h2,_,rfl,?_⟩;rw [Ls];have s12:=s1.trans s2;refine Bp (fun e=>?_) (fun e=>?_)
  ·have e':due=due':=of_decide_eq_true e;refine ⟨_,rfl,a,C,dx,_,_,rfl,s12 _ _ hp,T.cl,T.nR,Gf _ _ _,_,rfl,b,C,dy,_,_,rfl,s12 _ _ hq,T.cl,T.nR,Gf _ _ _,rfl,?_⟩;have:=k _ s12;have ev:decide (V.str r=V.str r')=decide (due=due'/\r=r'):=decide_eq_decide.mpr ⟨fun z=>⟨e',V.str.inj z⟩,fun z=>by rw [z.2]⟩;rw [ev];exact this
  ·have:=k _ s12;rw [decide_eq_false (fun z=>e (decide_eq_true z.1))] at this;exact this
end
noncomputable def TU (due:Aa) (e m:Addr):LK:=[(Sum.inr "known", V.int (AQ (due.map (·.2)):Nat)),(Sum.inr "firsts", V.ref e),(Sum.inr "marks", V.ref m),(Sum.inr "bits", V.int (AQ (AJ due):Nat))]
theorem Uu (a b c d:V):GH [] [((Sum.inr "known" : Key),a),(Sum.inr "firsts", b),(Sum.inr "marks", c),(Sum.inr "bits", d)]=[((Sum.inr "known" : Key),a),(Sum.inr "firsts", b),(Sum.inr "marks", c),(Sum.inr "bits", d)]:=by kernel_rfl
theorem EZ (due:Aa) (e m:Addr):Au (TU due e m) (Sum.inr "marks")=some (V.ref m):=by kernel_rfl
theorem Lu (due:Aa) (e m:Addr):Au (TU due e m) (Sum.inr "bits")=some (V.int (AQ (AJ due):Nat)):=by kernel_rfl
theorem Pf (due:Aa):(AJ due).Pairwise (· < ·):=by
 have h1:=Fq due;have h2:(Av due).Nodup:=(Ch due).nodup_iff.mpr (Js due);have h3:(Av due).Pairwise (· < ·):=List.Pairwise.imp₂ (fun a b h n=>Nat.lt_of_le_of_ne h n) h1 h2;exact h3.filter _
theorem Jv (due:Aa):((AJ due).map fun n:Nat=>(n:Int)).sum=((AQ (AJ due):Nat):Int):=by
 have hs:(AJ due).sum=AQ (AJ due):=PL (fun n hn=>(mem_filter.mp hn).2) (Pf due);rw [← hs];clear hs;generalize AJ due=l;induction l with
 | nil=>rfl
 | cons a r ih=>rw [map_cons,sum_cons,sum_cons,ih]; push_cast; rfl
theorem Lv (due:Aa):AQ ((AT due).map (·.1))=AQ (due.map (·.2)):=by
 refine Nat.eq_of_testBit_eq fun k=>?_;rw [A9,A9,Bool.eq_iff_iff,any_eq_true,any_eq_true];constructor
 ·rintro ⟨n,hn,hb⟩;obtain ⟨q,hq,rfl⟩:=mem_map.mp hn;exact ⟨q.1,mem_map.mpr ⟨_,Ge hq,rfl⟩,hb⟩
 ·rintro ⟨n,hn,hb⟩;obtain ⟨p,hp,rfl⟩:=mem_map.mp hn;exact ⟨p.2,PV hp,hb⟩
section
def Fw:Sp:=fun vs H Q _=>∃ (u:Addr) (bs:List Addr) (due:Aa),vs=[.ref u]/\H u=some (.lst (bs.map V.ref))/\TupsAt H bs (C4 due)/\due.length <= 10/\(∀ p ∈ due,p.2 < 2 ^ 20) /\
 ∀ t e m ms H',Same H H'->H m=none->H' t=some (.dK (TU due e m))->H' e=some (.dK (B5 (AT due)))->H' m=some (.lst (ms.map V.ref))->TupsAt H' ms (Br due)->Q (.ref t) H'
noncomputable abbrev Uv:List Str:=["_law_due", "_law_known", "_law_firsts", "_law_name", "_law_number", "_law_marks"]
theorem scTable:AM Uv ["_law_due"] (defScope D3):=fsc
theorem Re (F:Fun K "_law_table_of" "_law_table_of" D3 f fd) (B:Bl mg) (GB:Fn P w K mg base "_law_bits_of" 1 ["_law_number"] Ie):Ac P w K mg base CX0 2 f fd ["_law_due"] Fw:=by
 obtain ⟨fB,dB,GB,mB,kB,bB⟩:=GB.ex;refine F.m scTable fun vs H Q E h=>?_;obtain ⟨u,bs,due,rfl,hu0,a0,h10,hlt,k⟩:=h;refine ⟨rfl,fun af A outer s hr=>?_⟩;have hu:=Cr hr
 refine ⟨_,AG (CT (hs:=by kernel_rfl) (hw:=by kernel_rfl) (A6 (AA AK (AA C8 AC))) (BK rfl (AS (AR (i:=1) scTable.nd rfl (Or.inl rfl)) (AS (AR (i:=2) scTable.nd rfl (Or.inr rfl)) A1))))
  (AG (Bs PassesOwn.never rfl (A2 (pv 0)) (BK rfl (AS (AR (i:=3) scTable.nd rfl (Or.inl rfl)) (AS (AR (i:=4) scTable.nd rfl (Or.inl rfl)) A1)))
   (AG (Ai (i:=1) scTable.nd rfl (Or.inl rfl) (Af K5 (pv 1) (pv 4)))
   (AE (An (DI (GG hu (pv 4) (pv 2))) (AE (FU hu (pv 2) (pv 4) (pv 3) rfl)) AW))))
  (AG (QR (i:=5) scTable.nd rfl (by kernel_rfl) ["_law_firsts"] [some 2] (by kernel_rfl) (by decide +kernel) (by kernel_rfl) rfl (A2 (AZ (Fa rfl) rfl B.sorted Jq (AA (pv 2) AC)))
   (fun _ _ _ _ _ _=>FW (AY Dj (AZ (BI K rfl) rfl B.len PySem.boot_len (AA (AL GB hr rfl mB kB bB .nil AN (AA (pv 0) AC)) AC)) AK (Ad _)))
   (fun _ _ _ _ _ _=>A6 (AA (BJ hu (pv 1) (pv 0) (fun _ _=>rfl)) (AA (pv 0) AC))))
  (AE (AU (Sj (FV Ag (pv 1) (FV Ag (pv 2) (FV Ag (pv 5) (FV Ag (AZ (QX rfl) rfl B.sum Q7 (AA (Dq [] [] (by kernel_rfl) (by decide +kernel) (by kernel_rfl) (by kernel_rfl) rfl (A2 (pv 5)) (fun _ _ _ _ _ _=>BF) (fun _ _ _ _ _ _=>pv 1)) AC)) Si)))) rfl rfl (by simp) (by decide)))))),?_⟩
 refine fun e he=>⟨sl2,fun q hq=>⟨q,_,rfl,SqT.of AB,rfl,_,_,rfl,_,_,rfl,rfl,?_⟩⟩;have s1:=AD (AD (Same.refl _) he (o:=HO.dK [])) hq (o:=HO.tup [V.int 0,V.ref e]);have hbl:bs.length=due.length:=by rw [a0.length]; unfold C4; rw [AF]
 refine ⟨_,rfl,u,rfl,⟨_,SqL.of (s1 _ _ hu0)⟩,Ba (K:=K) (a:=u) (xs:=bs.map V.ref) (fun i σ H2=>∃ v3 v4:Option V,σ=[some (.ref u),some (.int (AQ ((due.take i).map (·.2)):Nat)),some (.ref e),v3,v4,none]/\Same H H2/\H2 e=some (.dK (B5 (AT (due.take i)))))
  ⟨none,none,rfl,s1,AD (Same.refl _) hq _ _ AB⟩ (fun i σ H2 _ ⟨_,_,_,s2,_⟩=>SqL.of (s2 _ _ hu0)) ?_ ?_⟩
 ·rintro i v σ H2 hi ⟨v3,v4,rfl,s2,he2⟩;obtain ⟨bb,p,rfl,_,aw,av⟩:=CD (TupsAt.same s2 a0) hi;have et:due.take (i + 1)=due.take i++[p]:=by rw [take_add_one,aw]; rfl
  have ek:(((AQ ((due.take (i + 1)).map (·.2)):Nat)):Int)=Builtin.bitOr ((AQ ((due.take i).map (·.2)):Nat):Int) (p.2:Int):=by
   rw [et,map_append,DR];exact congrArg _ (DS _ _)
  have hle:(B5 (AT (due.take i))).length <= 100:=by
   unfold B5;rw [AF];have:=Cg (due.take i);rw [length_take] at this;omega
  refine ⟨bb,_,rfl,SqT.of av,rfl,_,_,rfl,_,_,rfl,rfl,?_⟩;refine ⟨_,rfl,_,rfl,_,_,rfl,rfl,?_⟩;by_cases z:p.2 ∈ (AT (due.take i)).map (·.1)
  ·refine ⟨_,rfl,_,rfl,e,_,rfl,.inl ⟨_,Sum.inl (p.2:Int),.inl he2,rfl,(Fo z).symm⟩,_,rfl,?_⟩;refine Aw ⟨_,_,by rw [ek]; rfl,s2,?_⟩;rw [et,Cw,if_pos (by simpa using z)];exact he2
  ·refine ⟨_,rfl,_,rfl,e,_,rfl,.inl ⟨_,Sum.inl (p.2:Int),.inl he2,rfl,(Gd z).symm⟩,_,rfl,?_⟩;refine Bo ⟨_,rfl,_,rfl,_,rfl,e,_,rfl,DPut.k (k:=Sum.inl (p.2:Int)) he2 (Ab (by omega)),?_⟩;refine ⟨_,_,by rw [ek]; rfl,IT s2 he,?_⟩;rw [AB,et,Cw,if_neg (by simpa using z),Ln z]
 ·rintro σ H2 ⟨v3,v4,rfl,s2,he2⟩;have e1:due.take (bs.map V.ref).length=due:=by rw [AF,hbl,take_length]
  rw [e1] at he2 ⊢;have hle:(B5 (AT due)).length <= due.length:=by unfold B5; rw [AF]; exact Cg due
  refine ⟨_,rfl,e,_,rfl,.inl he2,by omega,fun kv hkv=>?_,fun l ns hl d8 d9=>?_⟩
  ·unfold B5 at hkv;obtain ⟨q,_,rfl⟩:=mem_map.mp hkv;exact ⟨_,rfl⟩
  ·have en:=Lo d8 d9;subst en;have s3:=AD (Same.refl _) hl (o:=HO.lst (((Av due).map fun n:Nat=>(n:Int)).map V.int));have exs:((Av due).map fun n:Nat=>(n:Int)).map V.int=A4 (Av due):=(Fl _).symm
   refine ⟨l,rfl,⟨_,SqL.of AB⟩,BR (K:=K) (a:=l) (xs:=A4 (Av due))
    (fun i ys H3=>∃ as,ys=as.map V.ref/\Same H2 H3/\H3 l=some (.lst (A4 (Av due)))/\TupsAt H3 as ((((Av due).take i).filter Ay).map fun n=>(V.str (BL (AT due) n),V.int (n:Int)))) ⟨[],rfl,s3,by rw [AB,exs],.nil⟩
    (fun i ys H3 _ ⟨_,_,_,e,_⟩=>SqL.of e) (fun i ys H3 ⟨as,e,_,_,t⟩=>?_) ?_ ?_⟩
   ·have:=t.length;rw [e,AF,this,AF];have h3:(((Av due).take i).filter Ay).length <= ((Av due).take i).length:=length_filter_le _ _;rw [length_take] at h3;have:=EY due;omega
   ·rintro i v ys H3 hi ⟨as,rfl,s4,hl3,ht⟩;obtain ⟨n,hn,rfl⟩:=Kh hi;have cg:n ∈ (AT due).map (·.1):=mem_keysS.mp (mem_of_getElem? hn);have hn42:n < 2 ^ 42:=Nat.lt_trans (OK hlt n cg) (by decide);have et:((Av due).take (i + 1)).filter Ay=((Av due).take i).filter Ay++(if Ay n then [n] else []):=PySem.take_succ_filter Ay _ i n hn;refine ⟨_,rfl,n,rfl,fun l2 zs H4 s5 hl4 hz=>⟨l2,_,rfl,.inl (SqL.of hl4),rfl,_,rfl,?_⟩⟩
    have eb:decide (V.int ((zs.length:Nat):Int)=V.int 1)=Ay n:=by
     rw [← JL hn42,hz];refine decide_eq_decide.mpr ⟨fun h=>?_,fun h=>by rw [h]; rfl⟩;have:=V.int.inj h;omega
    rw [eb];have hl5:=s5 _ _ hl3;refine Bp (fun hm=>?_) (fun hm=>?_)
    ·refine ⟨_,rfl,_,rfl,e,_,rfl,.inl ⟨_,Sum.inl (n:Int),.inl (s5 _ _ (s4 _ _ he2)),rfl,(Fo cg).symm⟩,_,rfl,sl2,fun b hb=>?_⟩;refine ⟨as++[b],by rw [map_append]; rfl,AD (s4.trans s5) hb,by rw [AH (AI hl5 hb)]; exact hl5,?_⟩;rw [et,hm,if_pos rfl,map_append];exact Jt (AD s5 hb) ht AB
    ·refine ⟨as,rfl,s4.trans s5,hl5,?_⟩;rw [et,if_neg hm,append_nil];exact TupsAt.same s5 ht
   ·rintro ys H3 ⟨as,rfl,s4,_,ht⟩ m hm
    have el:(Av due).take (A4 (Av due)).length=Av due:=by
     have:(A4 (Av due)).length=(Av due).length:=by unfold A4; rw [AF]
     rw [this]; exact take_length
    rw [el] at ht;have ht':TupsAt H3 as (Br due):=ht;have s5:=AD (Same.refl _) hm (o:=HO.lst (as.map V.ref));have bh:as.length=(AJ due).length:=by rw [ht'.length]; exact PY due
    refine fun t ht0=>⟨_,rfl,_,rfl,_,rfl,?_⟩;have s6:=AD (Same.refl _) ht0 (o:=HO.dK []);have htm:=TupsAt.same (s5.trans s6) ht';have hm6:=s6 _ _ (AB (H:=H3) (a:=m) (o:=HO.lst (as.map V.ref)));refine ⟨_,rfl,m,rfl,⟨_,SqL.of hm6⟩,BR (K:=K) (a:=m) (xs:=as.map V.ref) (fun j ys H7=>ys=A4 ((AJ due).take j)/\H7=upd (upd H3 m (.lst (as.map V.ref))) t (.dK [])) ⟨by rfl,rfl⟩ (fun j ys H7 _ ⟨_,e⟩=>e ▸ SqL.of hm6) (fun j ys H7 ⟨e,_⟩=>?_) ?_ ?_⟩
    ·rw [e]; unfold A4; rw [AF,length_take];have h3:(AJ due).length <= (Av due).length:=length_filter_le _ _;have:=EY due;omega
    ·rintro j v ys H7 hj ⟨rfl,rfl⟩;rw [getElem?_map] at hj
     obtain ⟨b,hb,rfl⟩:∃ b,as[j]?=some b/\v=V.ref b:=by
      cases q:as[j]? with
      | none=>rw [q] at hj; cases hj
      | some x=>rw [q] at hj; exact ⟨x,rfl,(Option.some.inj hj).symm⟩
     obtain ⟨pq,hpq,av⟩:=Lp htm hb;unfold Br at hpq;rw [getElem?_map] at hpq
     obtain ⟨n,hn,rfl⟩:∃ n,(AJ due)[j]?=some n/\pq=(V.str (BL (AT due) n),V.int (n:Int)):=by
      cases q:(AJ due)[j]? with
      | none=>rw [q] at hpq; cases hpq
      | some x=>rw [q] at hpq; exact ⟨x,rfl,(Option.some.inj hpq).symm⟩
     refine ⟨b,_,rfl,SqT.of av,rfl,_,_,rfl,_,_,rfl,rfl,?_⟩;refine ⟨_,rfl,?_,rfl⟩;rw [take_add_one,hn,Option.toList_some];unfold A4;rw [map_append];rfl
    ·rintro ys H7 ⟨rfl,rfl⟩ l2 hl2;have el2:(AJ due).take (as.map V.ref).length=AJ due:=by rw [AF,bh,take_length]
     rw [el2];have s7:=AD (Same.refl _) hl2 (o:=HO.lst (A4 (AJ due)));refine ⟨l2,(AJ due).map fun n:Nat=>(n:Int),rfl,SqL.of (by rw [AB,Fl]),fun n hn=>?_,?_,?_⟩
     ·obtain ⟨x,_,rfl⟩:=mem_map.mp hn;exact Int.natCast_nonneg _
     ·rw [Jv];have:=Fh (RP hlt);omega
     ·rw [Jv];refine ⟨s7 _ _ AB,[((Sum.inr "known" : Key),V.int (AQ (due.map (·.2)):Nat)),(Sum.inr "firsts", .ref e),(Sum.inr "marks", .ref m),(Sum.inr "bits", V.int (AQ (AJ due):Nat))],rfl,(by show 4 <= 15; decide),?_⟩;rw [Uu];have nt:∀ b o,H3 b=some o->b ≠ t:=fun b o ebo=>AI (s5 _ _ ebo) ht0
      have sAll:Same (upd H3 m (.lst (as.map V.ref))) (upd (upd (upd (upd H3 m (.lst (as.map V.ref))) t (.dK [])) l2 (.lst (A4 (AJ due)))) t (.dK (TU due e m))):=fun b o ebo=>by
       rw [AH (AI ebo ht0)];exact s7 _ _ (s6 _ _ ebo)
      refine k t e m as _ ?_ (by cases e:H m with | none=>rfl | some u=>rw [s4 _ _ (s2 _ _ e)] at hm; cases hm) AB ?_ (sAll _ _ AB) (TupsAt.same (s5.trans sAll) ht')
      ·intro b o ebo;exact sAll _ _ (s5 _ _ (s4 _ _ (s2 _ _ ebo)))
      ·exact sAll _ _ (s5 _ _ (s4 _ _ he2))
end
theorem EG:∀ {ds:List PyData},(∀ d ∈ ds,PyData.eqv d d=true)->PyData.eqvAll ds ds=true
 | [],_=>by rw [PyData.eqvAll]
 | d :: r,h=>by
  rw [PyData.eqvAll,h d mem_cons_self,EG fun x hx=>h x (mem_cons_of_mem _ hx)];rfl
theorem JO {ds:List PyData} (h:∀ d ∈ ds,PyData.eqv d d=true):PyData.eqv (.list ds) (.list ds)=true:=by
 rw [PyData.eqv]; exact EG h
theorem Fx {ds:List PyData} (h:∀ d ∈ ds,PyData.eqv d d=true):PyData.eqv (.tuple ds) (.tuple ds)=true:=by
 rw [PyData.eqv]; exact EG h
theorem Fy (x:Str):PyData.eqv (.str x) (.str x)=true:=by simp [PyData.eqv]
theorem Ko (n:Int):PyData.eqv (.int n) (.int n)=true:=by simp [PyData.eqv]
theorem HJ {b:Addr} {x y:Str} (h:H b=some (.tup [.str x,.str y])):Bq K H (.tuple [.str x,.str y]) (.ref b):=by
 rw [Bq];refine ⟨b,_,rfl,SqT.of h,?_⟩;rw [Ax];refine ⟨_,_,rfl,by rw [Bq],?_⟩;rw [Ax];refine ⟨_,_,rfl,by rw [Bq],?_⟩;rw [Ax]
theorem Pg {fs:List (Nat × Str)} {n:Nat} (h:n ∈ fs.map (·.1)):(n,BL fs n) ∈ fs:=by
 unfold BL;obtain ⟨q,hq⟩:=Option.isSome_iff_exists.mp (IU h);rw [hq];have e:q.1=n:=by simpa using List.find?_some hq
 have hm:=List.mem_of_find?_eq_some hq;subst e;exact hm
theorem WV:¬ (("own_kind" : Str) = "bits"):=by decide +kernel
noncomputable def Ij (kp:Addr) (n:Nat):List (Str × V):=BN "bits" (.int (n:Int)) (BN "own_kind" (.ref kp) [])
theorem Fz (kp:Addr) (n:Nat):(Ij kp n).lookup ("own_kind" : Str)=some (.ref kp):=by
 unfold Ij;rw [AV,if_neg WV,AV,if_pos rfl]
theorem F0 (kp:Addr) (n:Nat):(Ij kp n).lookup ("bits" : Str)=some (.int (n:Int)):=by
 unfold Ij;rw [AV,if_pos rfl]
theorem Lw (kp:Addr) (n:Nat) {m:Str} (h1:¬ m = "bits") (h2:¬ m = "own_kind"):(Ij kp n).lookup m=none:=by
 unfold Ij;rw [AV,if_neg h1,AV,if_neg h2];rfl
def ValAt (VC:Addr) (H:Hp) (p kp:Addr) (n:Nat):Prop:=∃ dx,H p=some (.ins VC dx (Ij kp n))
theorem ValAt.same {p kp:Addr} {n:Nat} (s:Same H H') (h:ValAt VC H p kp n):ValAt VC H' p kp n:=by
 obtain ⟨dx,h⟩:=h;exact ⟨dx,s _ _ h⟩
structure Ik (K:FG) (VC:Addr):Prop where
 cl:Cls K VC
 nK:NoAttr K VC "own_kind"
 nB:NoAttr K VC "bits"
noncomputable def kn (due:Aa):Nat:=AQ (due.map (·.2))
section
def FC:Sp:=fun vs H Q _=>∃ n:Nat,vs=[.int (n:Int)]/\n < 2 ^ 40/\Q (.bl true) H
theorem NU:AM ["thing"] ["thing"] (defScope Ga):=fsc
theorem Lx {tL:Tok} (F:Fun K "is_number" "is_number" Ga f fd) (hL:mg "LIMIT" = some (.int 1099511627776 tL)) (GW:Fn P w K mg base "is_whole" 1 ["thing"] DB):Ac P w K mg base CX0 2 f fd ["thing"] FC:=by
 obtain ⟨fW,dW,GW,mW,kW,bW⟩:=GW.ex;refine F.m NU fun vs H Q E h=>?_;obtain ⟨n,rfl,hn,k⟩:=h;refine ⟨rfl,fun af A outer s hr=>?_⟩;refine ⟨_,AE (AU (Cc (AL GW hr rfl mW kW bW .nil AN (AA (pv 0) AC)) (DJ (K8 FM Nu AK (pv 0) (Bz (v:=.int 1099511627776) rfl hL ⟨tL,rfl⟩))))),?_⟩;refine ⟨_,rfl,(n:Int),rfl,_,rfl,?_⟩;refine Bo ?_;refine ⟨_,rfl,_,_,rfl,rfl,_,rfl,?_⟩;rw [decide_eq_true (show (0:Int) <= (n:Int) by omega)];refine Bo ?_;refine ⟨_,_,rfl,rfl,?_⟩;show Q (V.bl (decide ((n:Int) < 1099511627776))) H
 rw [decide_eq_true (show (n:Int) < 1099511627776 by have:(2:Nat) ^ 40=1099511627776:=by decide
                                                     omega)]
 exact k
def F1 (C:Addr):Sp:=fun vs H Q _=>∃ (kp:Addr) (due:Aa) (r:Str) (n:Nat),vs=[.ref kp,.int (n:Int)]/\KindAt C H kp due r/\∀ H',Same H H'->Q (.int ((n - (n &&& kn due):Nat):Int)) H'
theorem Rf:AM ["kind", "number"] ["kind", "number"] (defScope Ke):=fsc
theorem Ph (F:Fun K "rest_of" "rest_of" Ke f fd) (T:Dh K C) (GK:Mt P w K mg base C "known" 2 ["self"] (HH C)):Ac P w K mg base CX0 3 f fd ["kind", "number"] (F1 C):=by
 obtain ⟨fK,dK,GK,mK,bK⟩:=GK.ex;refine F.m Rf fun vs H Q E h=>?_;obtain ⟨kp,due,r,n,rfl,KA,k⟩:=h;refine ⟨rfl,fun af A outer s hr=>?_⟩;obtain ⟨dx,d1,d2,hp⟩:=KA.ins;refine ⟨_,AE (AU (Af DL (pv 1) (K4 Mj (Ah (pv 0) T.cl mK GK hr bK .nil AN)))),?_⟩;refine ⟨_,rfl,_,rfl,kp,dx,_,rfl,hp,(Bj _ _ _),kp,due,r,rfl,KA,fun H1 s1=>?_⟩;refine ⟨_,rfl,_,_,rfl,rfl,?_⟩;show Q (V.int (Builtin.bitAnd (n:Int) (Builtin.bitNot ((AQ ((AT due).map (·.1)):Nat):Int)))) H1;rw [Et,Lv];exact k H1 s1
def HK (C VC:Addr):Sp:=fun vs H Q _=>∃ (p dx kp:Addr) (due:Aa) (r:Str) (n:Nat),vs=[.ref p,.ref kp,.int (n:Int)]/\H p=some (.ins VC dx [])/\KindAt C H kp due r/\n < 2 ^ 40/\(r = "keep" \/ n - (n &&& kn due)=0) /\
 ∀ H',(∀ b o,H b=some o->b ≠ p->H' b=some o)->ValAt VC H' p kp n->Q .non H'
theorem TV:AM ["self", "kind", "number"] ["self", "kind", "number"] (defScope Ez):=fsc
theorem Ly (F:Fun K "__init__" "Value.__init__" Ez f fd) (T:Dh K C) (VT:Ik K VC)
  (GN:Fn P w K mg base "is_number" 2 ["thing"] FC) (GR:Fn P w K mg base "rest_of" 3 ["kind", "number"] (F1 C)) (GRe:Mt P w K mg base C "rest" 1 ["self"] (Kn C)):Ac P w K mg base CX0 4 f fd ["self", "kind", "number"] (HK C VC):=by
 obtain ⟨fN,dN,GN,mN,kN,bN⟩:=GN.ex;obtain ⟨fR,dR,GR,mR,kR,bR⟩:=GR.ex;obtain ⟨fE,dE,GE,mE,bE⟩:=GRe.ex;refine F.m TV fun vs H Q E h=>?_;obtain ⟨p,dx,kp,due,r,n,rfl,hp,KA,hn,hrest,k⟩:=h;refine ⟨rfl,fun af A outer s hr=>?_⟩;have hr1:Room 1 _:=hr.mono (by decide);have hr2:Room 2 _:=hr.mono (by decide);obtain ⟨dxk,d1,d2,al⟩:=KA.ins
 refine ⟨_,AG (An (BU (BG (AL GN hr2 rfl mN kN bN .nil AN (AA (pv 2) AC)))) (AE Ao) AW)
  (BV (An (PW.pt (Di (AY Dk (Ah (pv 1) T.cl mE GE hr1 bE .nil AN) Ag (Ad _)) (Cl (AY Dk (AL GR hr rfl mR kR bR .nil AN (AA (pv 1) (AA (pv 2) AC))) AK (Ad _))))) (AE Ao) AW)
  (AG (Dl (pv 0) (pv 1) rfl) (AE (Dl (pv 0) (pv 2) rfl)))),?_⟩
 refine ⟨_,rfl,n,rfl,hn,_,rfl,?_⟩;refine Aw ?_;refine ⟨fun σ H1=>σ=[some (.ref p),some (.ref kp),some (.int (n:Int))]/\Same H H1,fun R hR=>?_,?_⟩
 ·refine ⟨_,rfl,kp,dxk,_,rfl,al,(Bj _ _ _),kp,due,r,rfl,KA,rfl,_,rfl,?_⟩;by_cases hk:r = "keep"
  ·rw [decide_eq_true (show V.str r=V.str "keep" by rw [hk])];exact Aw (Aw (hR _ _ ⟨rfl,Same.refl _⟩))
  ·rw [decide_eq_false (show ¬ V.str r=V.str "keep" from fun z=>hk (V.str.inj z))];refine Bo ?_;refine ⟨_,rfl,_,rfl,kp,due,r,n,rfl,KA,fun H1 s1=>⟨rfl,_,rfl,?_⟩⟩;have h0:=hrest.resolve_left hk;rw [h0];exact Aw (hR _ _ ⟨rfl,s1⟩)
 ·rintro σ H1 ⟨rfl,s1⟩;refine ⟨_,rfl,_,rfl,p,VC,dx,[],rfl,s1 _ _ hp,VT.cl,VT.nK,(by show 0 < 1000; decide),?_⟩;refine ⟨_,rfl,_,rfl,p,VC,dx,_,rfl,AB,VT.cl,VT.nB,Nat.lt_of_le_of_lt (CN _ _ _) (by show 1 < 1000; decide),?_⟩;refine k _ (fun b o e hb=>?_) ⟨dx,AB⟩;rw [AH hb,AH hb];exact s1 _ _ e
def Gi (VC:Addr):Sp:=fun vs H Q _=>∃ (p kp:Addr) (n:Nat),vs=[.ref p]/\ValAt VC H p kp n/\Q (.int (n:Int)) H
theorem Pi:AM ["self"] ["self"] (defScope DW):=fsc
theorem NV (F:Fun K "number" "Value.number" DW f fd) (VT:Ik K VC):Ac P w K mg base CX0 1 f fd ["self"] (Gi VC):=by
 refine F.m Pi fun vs H Q E h=>?_;obtain ⟨p,kp,n,rfl,⟨dx,hp⟩,k⟩:=h;refine ⟨rfl,fun af A outer s hr=>?_⟩;refine ⟨_,AE (AU (At (pv 0) rfl)),?_⟩;exact ⟨_,rfl,p,VC,dx,_,_,rfl,hp,VT.cl,VT.nB,F0 _ _,k⟩
def Kp (VC:Addr):Sp:=fun vs H Q _=>∃ (p kp:Addr) (n:Nat),vs=[.ref p]/\ValAt VC H p kp n/\Q (.ref kp) H
theorem TW:AM ["self"] ["self"] (defScope E1):=fsc
theorem Rg (F:Fun K "kind" "Value.kind" E1 f fd) (VT:Ik K VC):Ac P w K mg base CX0 1 f fd ["self"] (Kp VC):=by
 refine F.m TW fun vs H Q E h=>?_;obtain ⟨p,kp,n,rfl,⟨dx,hp⟩,k⟩:=h;refine ⟨rfl,fun af A outer s hr=>?_⟩;refine ⟨_,AE (AU (At (pv 0) rfl)),?_⟩;exact ⟨_,rfl,p,VC,dx,_,_,rfl,hp,VT.cl,VT.nK,Fz _ _,k⟩
def ON (C VC:Addr):Sp:=fun vs H Q _=>∃ (a:Addr) (v:V) (ka:Addr) (na:Nat) (due:Aa) (r:Str),vs=[.ref a,v]/\ValAt VC H a ka na/\KindAt C H ka due r/\Asc due /\
 ((∃ i,v=.int i/\Q (.bl false) H)\/∃ (b kb:Addr) (nb:Nat) (due':Aa) (r':Str),v=.ref b/\ValAt VC H b kb nb/\KindAt C H kb due' r'/\Asc due'/\∀ H',Same H H'->Q (.bl (decide ((due=due'/\r=r')/\na=nb))) H')
theorem Vx:AM ["self", "other"] ["self", "other"] (defScope IJ):=fsc
theorem Uw (F:Fun K "__eq__" "Value.__eq__" IJ f fd) (B:Bl mg) (T:Dh K C) (VT:Ik K VC) (VI:KIsi K VC) (hI:W.kitOne K (.type "int") (.ref VC)=some false) (mV:mg "Value" = some (.ref VC))
  (GE:Mt P w K mg base C "__eq__" 2 ["self", "other"] (Ii C)):Ac P w K mg base CX0 3 f fd ["self", "other"] (ON C VC):=by
 obtain ⟨fE,dE,GE,mE,bE⟩:=GE.ex;refine F.m Vx fun vs H Q E h=>?_;obtain ⟨a,v,ka,na,due,r,rfl,⟨dx,hp⟩,KA,h1,h⟩:=h;refine ⟨rfl,fun af A outer s hr=>?_⟩
 refine ⟨_,AE (AU (Cc (AZ (Gh K rfl) rfl B.isi D5 (AA (pv 1) (AA (Bz (v:=.ref VC) rfl mV rfl) AC)))
  (Cc (Co (Qd GE hr bE mE) (At (pv 0) rfl) (At (pv 1) rfl) (Ad _))
   (DJ (Co Dj (At (pv 0) rfl) (At (pv 1) rfl) (Ad _)))))),?_⟩
 rcases h with ⟨i,rfl,k⟩ | ⟨b,kb,nb,due',r',rfl,⟨dy,hq⟩,KB,h2,k⟩
 ·refine ⟨_,rfl,_,VC,_,false,rfl,.int i,hI,_,rfl,?_⟩;exact Aw k
 ·refine ⟨_,rfl,_,VC,_,true,rfl,VI.ty hq,EE K VC,_,rfl,?_⟩;refine Bo ?_;obtain ⟨dka,d1,d2,hka⟩:=KA.ins;obtain ⟨dkb,e1,e2,hkb⟩:=KB.ins;refine ⟨_,rfl,a,VC,dx,_,_,rfl,hp,VT.cl,VT.nK,Fz _ _,_,rfl,b,VC,dy,_,_,rfl,hq,VT.cl,VT.nK,Fz _ _,?_⟩;refine ⟨ka,dka,_,kb,rfl,rfl,hka,.inl ⟨_,_,hkb⟩,ka,kb,due,r,rfl,KA,h1,.inr ⟨due',r',KB,h2,fun H1 s1=>⟨_,rfl,_,rfl,?_⟩⟩⟩;refine Bp (fun e=>?_) (fun e=>?_)
  ·have e':=of_decide_eq_true e;refine ⟨_,rfl,a,VC,dx,_,_,rfl,s1 _ _ hp,VT.cl,VT.nB,F0 _ _,_,rfl,b,VC,dy,_,_,rfl,s1 _ _ hq,VT.cl,VT.nB,F0 _ _,rfl,?_⟩;have ev:decide (V.int (na:Int)=V.int (nb:Int))=decide ((due=due'/\r=r')/\na=nb):=decide_eq_decide.mpr ⟨fun z=>⟨e',by have:=V.int.inj z; omega⟩,fun z=>by rw [z.2]⟩;rw [ev];exact k _ s1
  ·have:=k _ s1;rw [decide_eq_false (fun z=>e (decide_eq_true z.1))] at this;exact this
structure Lz (P:Program) (w:World) (K:FG) (mg:SV) (base:Heap) (C VC:Addr):Prop where
 VT:Ik K VC
 cls:mg "Value" = some (.ref VC)
 make:∃ f fd,Mk K VC f/\Ac P w K mg base CX0 4 f fd ["self", "kind", "number"] (HK C VC)/\Binds K fd ["self", "kind", "number"] []
 eq:∃ f fd,Ac P w K mg base CX0 3 f fd ["self", "other"] (ON C VC)/\HX K VC "__eq__" f/\Binds K fd ["self", "other"] []
 isi:KIsi K VC
 ne:W.findIn K (.ref VC) "__ne__" = some (some (.builtin "object.__ne__"))
 ni:W.subIn K (.type "int") (.ref VC)=some false
theorem Bf {D kp dx:Addr} (hkp:H kp=none) (bo:H dx=none) (bn:dx ≠ kp):Same H (upd (upd H dx (.own kp)) kp (.ins D dx [])):=by
 refine AD (AD (Same.refl _) bo) ?_;rw [AH (Ne.symm bn)];exact hkp
theorem BS {Hc:Hp} {kp:Addr} (sN:Same H H') (hkp:H kp=none) (sc:∀ b o,H' b=some o->b ≠ kp->Hc b=some o):Same H Hc:=fun b o e=>sc b o (sN _ _ e) (AI e hkp)
theorem Vy (h:∀ p ∈ due,p.2 < 2 ^ 20):kn due < 2 ^ 20:=by
 unfold kn;exact Fh fun n hn=>by obtain ⟨p,hp,rfl⟩:=mem_map.mp hn; exact h p hp
theorem Ux (x y:Nat):(x ||| y) + (x &&& y)=x + y:=by
 have h:=PyProof.Rows.bitOr_and (x:Int) (y:Int);rw [DR,CW] at h;omega
theorem MA (a b:Nat):a - (a &&& b)=a ^^^ (a &&& b):=by
 have h1:(a ^^^ (a &&& b)) ||| (a &&& b)=a:=by
  refine Nat.eq_of_testBit_eq fun k=>?_;simp only [Nat.testBit_and,Nat.testBit_xor,Nat.testBit_or];cases a.testBit k <;> cases b.testBit k <;> rfl
 have h2:(a ^^^ (a &&& b)) &&& (a &&& b)=0:=by
  refine Nat.eq_of_testBit_eq fun k=>?_;simp only [Nat.testBit_and,Nat.testBit_xor,Nat.zero_testBit];cases a.testBit k <;> cases b.testBit k <;> rfl
 have h3:=Ux (a ^^^ (a &&& b)) (a &&& b);rw [h1,h2] at h3;omega
theorem TX (a b:Nat):(a - (a &&& b)) - ((a - (a &&& b)) &&& a)=0:=by
 have h:(a - (a &&& b)) &&& a=a - (a &&& b):=by
  have e:a - (a &&& b)=a ^^^ (a &&& b):=MA a b;rw [e];refine Nat.eq_of_testBit_eq fun k=>?_;simp only [Nat.testBit_and,Nat.testBit_xor];cases a.testBit k <;> cases b.testBit k <;> rfl
 omega
end
section
variable {CU:Addr}
def Ea (K:FG):Sp:=fun vs H Q _=>∃ (e C:Addr) (dx:Option Addr) (x:Str),vs=[.ref e,.str x]/\A5 K C=true/\H e=some (Ed e C dx)/\Q .non H
theorem Pj:AM ["self", "words"] ["self", "words"] (defScope BC):=fsc
theorem FD (F:FunD K "__init__" "MarkError.__init__" BC f fd) (hV:mg "ValueError" = none):Ac P w K mg base CX0 1 f fd ["self", "words"] (Ea K):=by
 refine F.ok Pj (fun vs H Q E h=>?_) (fun af A outer s H vs Q E hr h=>?_)
 ·obtain ⟨e,C,dx,x,rfl,_⟩:=h;rfl
 ·obtain ⟨e,C,dx,x,rfl,hC,he,k⟩:=h;refine ⟨_,AE (CH (Qi rfl hV (AA (pv 0) (AA (pv 1) AC)))),?_⟩;exact ⟨_,rfl,_,rfl,e,C,dx,[.str x],rfl,(by show 1 <= 1000; decide),hC,he,k⟩
structure MB (P:Program) (w:World) (K:FG) (mg:SV) (base:Heap) (x:Str) (CU:Addr):Prop where
 cls:mg x=some (.ref CU)
 make:∃ f fd,MkX K CU f/\Ac P w K mg base CX0 1 f fd ["self", "words"] (Ea K)/\Binds K fd ["self", "words"] []
def Uq (H:Hp) (E:XK) (CU:Addr):Prop:=∀ e H',Same H H'->H e=none->H' e=some (Fd e CU none)->E (.ref CU) none H'
theorem none_of {x:Addr} (s:Same H H') (h:H' x=none):H x=none:=by
 cases e:H x with
 | none=>rfl
 | some u=>rw [s _ _ e] at h; cases h
theorem FE {te:XK->TE} {σ:St} {H1:Hp} {E:XK} {D:Df} {x:Str} (hC:A5 K CU=true) (s1:Same H H1) (h:Uq H E CU):KW CU (KU CU (Ea K) [] E0 (Aq (tC (.str x)) CO)) E D σ H1:=by
 refine ⟨(by show 1 <= 1000; decide),fun a ha=>?_⟩;refine ⟨a,CU,none,x,rfl,hC,AB,rfl,a,none,rfl,AB,?_⟩;refine h a _ (s1.trans ?_) (none_of s1 ha) AB;rw [HC];exact AD (Same.refl _) ha
end
noncomputable def wds:List Str:=["BadRows", "BadRest", "BadText", "Unled", "BadRule", "BadName", "BadNumber", "Unlike", "BadPairs", "Never", "Nothing"]
noncomputable def wd (j:Nat):Str:=wds.getD j ""
noncomputable def flg (j:Nat):List Bool:=(List.range 11).map fun i=>decide (i=j)
noncomputable def b1 (b:Bool):Int:=if b then 1 else 0
theorem OO:∀ j,j < 11->((flg j).map b1).sum=1:=by decide +kernel
theorem Uy:∀ j,j < 11->(flg j)[j]?=some true/\∀ m,m < j->(flg j)[m]?=some false:=by decide +kernel
theorem Uz:∀ j:Nat,j < 11->atI (wds.map V.str) (j:Int)=some (V.str (wd j)):=by decide +kernel
structure MC (mg:SV) (ec:Nat->Addr):Prop where
 e0:mg "BadRows" = some (.ref (ec 0))
 e1:mg "BadRest" = some (.ref (ec 1))
 e2:mg "BadText" = some (.ref (ec 2))
 e3:mg "Unled" = some (.ref (ec 3))
 e4:mg "BadRule" = some (.ref (ec 4))
 e5:mg "BadName" = some (.ref (ec 5))
 e6:mg "BadNumber" = some (.ref (ec 6))
 e7:mg "Unlike" = some (.ref (ec 7))
 e8:mg "BadPairs" = some (.ref (ec 8))
 e9:mg "Never" = some (.ref (ec 9))
 e10:mg "Nothing" = some (.ref (ec 10))
 ev:mg "ValueError" = none
structure OP (K:FG) (ec:Nat->Addr) (C:Addr) (j:Nat):Prop where
 hj:j < 11
 kx:Sy K C
 kit:∀ i,i < 11->W.kitOne K (.ref C) (.ref (ec i))=some (decide (i=j))
 val:W.kitOne K (.ref C) (.type "ValueError")=some true
section
variable {ec:Nat->Addr}
theorem B2 {X:Cx} {a:Expr} {te:TE} {e c:Addr} {oe:Obj} {x:Str} {p p2 pos:Pos} (K:FG) (hK:X.K=K) (pX:ExcP X e oe C) (k:Sy K C) (hg:Gl X "isinstance") (hm:X.mg "isinstance" = none) (hgT:Gl X x) (hmT:X.mg x=some (.ref c)) (he:PE X a te)
  (hdb:(x == ("__debug__" : Str))=false:=by decide)
  (hs:starEach [a,.Name x p2] X.env=(false,eval a X.env) :: starEach [.Name x p2] X.env:=by rfl) (hpl:(backTo pos (starEach [.Name x p2] X.env)).any (·.1)=false:=by rfl) (hs2:starEach [.Name x p2] X.env=(false,eval (.Name x p2) X.env) :: starEach [] X.env:=by rfl) :
  PE X (.Call (.Name "isinstance" p) [a,.Name x p2] [] pos) (tCB (fun xs H Q=>∃ v c b,xs=[.ref e,v]/\((∃ D,v=.ref D/\c=.ref D)\/∃ T,v=.ty T/\c=.type T)/\(oe.dict=none\/∃ d u,oe.dict=some d/\H d=some u)/\W.kitOne K (.ref C) c=some b/\Q (.bl b) H) (Aq te (Aq (tC (.ref c)) CO))):=by
 subst hK;exact AZ (Jo pX k) hg hm D5 (AA he (AA (Bz (v:=.ref c) hgT hmT rfl hdb) AC hs2) hs) (by decide) (by decide) hs hpl
def Ci (K:FG) (ec:Nat->Addr):SpS:=fun e oe vs H Q=>vs=[.ref e]/\∃ (C:Addr) (j:Nat) (fs:Array Value),oe.cls=.ref C/\oe.data=.fields fs/\fs[2]?=some .none/\(oe.dict=none\/∃ d u,oe.dict=some d/\H d=some u)/\OP K ec C j /\
 ∀ p H',Same H H'->H' p=some (.tup [.str "refused", .str (wd j)])->Q (.ref p) H'
theorem scWord:AM ["_law_e", "_law_flags", "_law_words"] ["_law_e"] (defScope D0):=fsc
theorem TY (F:Fun K "_law_word" "_law_word" D0 f fd) (B:Bl mg) (M:MC mg ec):N9 P w K mg base 1 f fd ["_law_e"] (Ci K ec):=by
 refine F.okS scWord (fun e oe vs H Q h=>?_) (fun af A outer s H vs Q e oe hh hr h=>?_)
 ·obtain ⟨rfl,_⟩:=h;rfl
 ·obtain ⟨rfl,C,j,fs,hc,hf,h2,hd,EA,k⟩:=h;have hj:=EA.hj
  have hdS:∀ H',Same H H'->(oe.dict=none\/∃ d u,oe.dict=some d/\H' d=some u):=fun H' s=>by
   rcases hd with z | ⟨d,u,z,y⟩
   ·exact .inl z
   ·exact .inr ⟨d,u,z,s _ _ y⟩
  have kt:=EA.kit;have pX:ExcP (IA P w K mg base ["_law_e", "_law_flags", "_law_words"] "_law_word" (defScope D0) f af A outer s H e oe) e oe C:=⟨mem_cons_self,hc,⟨fs,hf⟩⟩;have rd:Rdy (IA P w K mg base ["_law_e", "_law_flags", "_law_words"] "_law_word" (defScope D0) f af A outer s H e oe):=Sv hh hf h2
  refine ⟨_,AG (Ai (i:=1) scWord.nd rfl (Or.inl rfl) (BO (AA (B2 K rfl pX EA.kx rfl B.isi rfl M.e0 (pv 0)) (AA (B2 K rfl pX EA.kx rfl B.isi rfl M.e1 (pv 0)) (AA (B2 K rfl pX EA.kx rfl B.isi rfl M.e2 (pv 0)) (AA (B2 K rfl pX EA.kx rfl B.isi rfl M.e3 (pv 0)) AC))))))
   (AG (Ai (i:=1) scWord.nd rfl (Or.inl rfl) (Af Hi (pv 1) (BO (AA (B2 K rfl pX EA.kx rfl B.isi rfl M.e4 (pv 0)) (AA (B2 K rfl pX EA.kx rfl B.isi rfl M.e5 (pv 0)) (AA (B2 K rfl pX EA.kx rfl B.isi rfl M.e6 (pv 0)) AC))))))
   (AG (Ai (i:=1) scWord.nd rfl (Or.inl rfl) (Af Hi (pv 1) (BO (AA (B2 K rfl pX EA.kx rfl B.isi rfl M.e7 (pv 0)) AC))))
   (AG (Ai (i:=1) scWord.nd rfl (Or.inl rfl) (Af Hi (pv 1) (BO (AA (B2 K rfl pX EA.kx rfl B.isi rfl M.e8 (pv 0)) (AA (B2 K rfl pX EA.kx rfl B.isi rfl M.e9 (pv 0)) (AA (B2 K rfl pX EA.kx rfl B.isi rfl M.e10 (pv 0)) AC))))))
   (AG (Ai (i:=2) scWord.nd rfl (Or.inl rfl) (BO (AA Ag (AA Ag (AA Ag (AA Ag (AA Ag (AA Ag (AA Ag AC)))))))))
   (AG (Ai (i:=2) scWord.nd rfl (Or.inl rfl) (Af Hi (pv 2) (BO (AA Ag (AA Ag AC)))))
   (AG (An (PW.pt (Cm (AY Dk (AZ (Ji rd) rfl B.sum Q7 (AA (Os [] [] (by kernel_rfl) (by decide +kernel) (by kernel_rfl) rd (QV (pv 1)) (fun _ _ _ _ _ _=>BF) (fun _ _ _ _ _ _=>BH Oh rfl B.int Q8 (AA (pv 0) AC))) AC)) AK (Ad _))
     (CS (BU (BG (AZ (Jo pX EA.kx) rfl B.isi D5 (AA (pv 0) (AA (EM (v:=.ty "ValueError") rfl M.ev N8 rfl) AC)))))))) (AE Ao) AW)
   (AE (AU (A6 (AA Ag (AA (Bm (BD K rfl) (Af Hi (pv 2) (BO (AA Ag (AA Ag AC)))) (Gs PySem.F.plainAttrs_list PySem.F.slot_list_index PySem.F.type_list_index O5 (pv 1) (AA P6 AC)) (fun _ _=>rfl)) AC))))))))))),?_⟩
  refine ⟨_,rfl,_,_,_,rfl,.inl ⟨_,rfl,rfl⟩,hdS _ (Same.refl _),kt 0 (by decide),_,rfl,_,_,_,rfl,.inl ⟨_,rfl,rfl⟩,hdS _ (Same.refl _),kt 1 (by decide),_,rfl,_,_,_,rfl,.inl ⟨_,rfl,rfl⟩,hdS _ (Same.refl _),kt 2 (by decide),_,rfl,_,_,_,rfl,.inl ⟨_,rfl,rfl⟩,hdS _ (Same.refl _),kt 3 (by decide),sl4,fun l1 h1=>?_⟩;have s1:=AD (Same.refl H) h1 (o:=.lst [V.bl (decide (0=j)),V.bl (decide (1=j)),V.bl (decide (2=j)),V.bl (decide (3=j))]);have a1:=AB (H:=H) (a:=l1) (o:=.lst [V.bl (decide (0=j)),V.bl (decide (1=j)),V.bl (decide (2=j)),V.bl (decide (3=j))]);generalize upd H l1 (.lst [V.bl (decide (0=j)),V.bl (decide (1=j)),V.bl (decide (2=j)),V.bl (decide (3=j))])=H1 at s1 a1 ⊢;refine ⟨_,rfl,_,rfl,_,_,_,rfl,.inl ⟨_,rfl,rfl⟩,hdS _ s1,kt 4 (by decide),_,rfl,_,_,_,rfl,.inl ⟨_,rfl,rfl⟩,hdS _ s1,kt 5 (by decide),_,rfl,_,_,_,rfl,.inl ⟨_,rfl,rfl⟩,hdS _ s1,kt 6 (by decide),sl3,fun l2 h2'=>?_⟩;refine ⟨l1,l2,_,_,rfl,rfl,(AD (Same.refl H1) h2') _ _ a1,AB,(by show 4 + 3 <= sizeLine; decide),fun l3 h3=>?_⟩;have s3:=s1.trans (AD (AD (Same.refl H1) h2' (o:=.lst [V.bl (decide (4=j)),V.bl (decide (5=j)),V.bl (decide (6=j))])) h3 (o:=.lst ([V.bl (decide (0=j)),V.bl (decide (1=j)),V.bl (decide (2=j)),V.bl (decide (3=j))]++[V.bl (decide (4=j)),V.bl (decide (5=j)),V.bl (decide (6=j))])));generalize e3:upd (upd H1 l2 (.lst [V.bl (decide (4=j)),V.bl (decide (5=j)),V.bl (decide (6=j))])) l3 (.lst ([V.bl (decide (0=j)),V.bl (decide (1=j)),V.bl (decide (2=j)),V.bl (decide (3=j))]++[V.bl (decide (4=j)),V.bl (decide (5=j)),V.bl (decide (6=j))]))=H3 at s3 ⊢;have a3:H3 l3=some (.lst ([V.bl (decide (0=j)),V.bl (decide (1=j)),V.bl (decide (2=j)),V.bl (decide (3=j))]++[V.bl (decide (4=j)),V.bl (decide (5=j)),V.bl (decide (6=j))])):=by rw [← e3,AB]
  refine ⟨_,rfl,_,rfl,_,_,_,rfl,.inl ⟨_,rfl,rfl⟩,hdS _ s3,kt 7 (by decide),sl1,fun l4 h4=>?_⟩;refine ⟨l3,l4,_,_,rfl,rfl,(AD (Same.refl H3) h4) _ _ a3,AB,(by show 7 + 1 <= sizeLine; decide),fun l5 h5=>?_⟩;have s5:=s3.trans (AD (AD (Same.refl H3) h4 (o:=.lst [V.bl (decide (7=j))])) h5 (o:=.lst (([V.bl (decide (0=j)),V.bl (decide (1=j)),V.bl (decide (2=j)),V.bl (decide (3=j))]++[V.bl (decide (4=j)),V.bl (decide (5=j)),V.bl (decide (6=j))])++[V.bl (decide (7=j))])));generalize e5:upd (upd H3 l4 (.lst [V.bl (decide (7=j))])) l5 (.lst (([V.bl (decide (0=j)),V.bl (decide (1=j)),V.bl (decide (2=j)),V.bl (decide (3=j))]++[V.bl (decide (4=j)),V.bl (decide (5=j)),V.bl (decide (6=j))])++[V.bl (decide (7=j))]))=H5 at s5 ⊢;have a5:H5 l5=some (.lst (([V.bl (decide (0=j)),V.bl (decide (1=j)),V.bl (decide (2=j)),V.bl (decide (3=j))]++[V.bl (decide (4=j)),V.bl (decide (5=j)),V.bl (decide (6=j))])++[V.bl (decide (7=j))])):=by rw [← e5,AB]
  refine ⟨_,rfl,_,rfl,_,_,_,rfl,.inl ⟨_,rfl,rfl⟩,hdS _ s5,kt 8 (by decide),_,rfl,_,_,_,rfl,.inl ⟨_,rfl,rfl⟩,hdS _ s5,kt 9 (by decide),_,rfl,_,_,_,rfl,.inl ⟨_,rfl,rfl⟩,hdS _ s5,kt 10 (by decide),sl3,fun l6 h6=>?_⟩;refine ⟨l5,l6,_,_,rfl,rfl,(AD (Same.refl H5) h6) _ _ a5,AB,(by show 8 + 3 <= sizeLine; decide),fun l7 h7=>?_⟩;have s7:=s5.trans (AD (AD (Same.refl H5) h6 (o:=.lst [V.bl (decide (8=j)),V.bl (decide (9=j)),V.bl (decide (10=j))])) h7 (o:=.lst ((([V.bl (decide (0=j)),V.bl (decide (1=j)),V.bl (decide (2=j)),V.bl (decide (3=j))]++[V.bl (decide (4=j)),V.bl (decide (5=j)),V.bl (decide (6=j))])++[V.bl (decide (7=j))])++[V.bl (decide (8=j)),V.bl (decide (9=j)),V.bl (decide (10=j))])));generalize e7:upd (upd H5 l6 (.lst [V.bl (decide (8=j)),V.bl (decide (9=j)),V.bl (decide (10=j))])) l7 (.lst ((([V.bl (decide (0=j)),V.bl (decide (1=j)),V.bl (decide (2=j)),V.bl (decide (3=j))]++[V.bl (decide (4=j)),V.bl (decide (5=j)),V.bl (decide (6=j))])++[V.bl (decide (7=j))])++[V.bl (decide (8=j)),V.bl (decide (9=j)),V.bl (decide (10=j))]))=H7 at s7 ⊢;have a7:H7 l7=some (.lst ((flg j).map V.bl)):=by rw [← e7]; exact AB
  refine ⟨sl7,fun l8 h8=>?_⟩;refine ⟨_,rfl,sl2,fun l9 h9=>?_⟩;refine ⟨l8,l9,_,_,rfl,rfl,(AD (Same.refl _) h9) _ _ AB,AB,(by show 7 + 2 <= sizeLine; decide),fun l10 h10=>?_⟩;have s10:=AD (AD (AD (Same.refl H7) h8 (o:=.lst [V.str "BadRows", V.str "BadRest", V.str "BadText", V.str "Unled", V.str "BadRule", V.str "BadName", V.str "BadNumber"])) h9 (o:=.lst [V.str "Unlike", V.str "BadPairs"])) h10 (o:=.lst ([V.str "BadRows", V.str "BadRest", V.str "BadText", V.str "Unled", V.str "BadRule", V.str "BadName", V.str "BadNumber"]++[V.str "Unlike", V.str "BadPairs"]));generalize e10:upd (upd (upd H7 l8 (.lst [V.str "BadRows", V.str "BadRest", V.str "BadText", V.str "Unled", V.str "BadRule", V.str "BadName", V.str "BadNumber"])) l9 (.lst [V.str "Unlike", V.str "BadPairs"])) l10 (.lst ([V.str "BadRows", V.str "BadRest", V.str "BadText", V.str "Unled", V.str "BadRule", V.str "BadName", V.str "BadNumber"]++[V.str "Unlike", V.str "BadPairs"]))=H10 at s10 ⊢;have a10:H10 l10=some (.lst ([V.str "BadRows", V.str "BadRest", V.str "BadText", V.str "Unled", V.str "BadRule", V.str "BadName", V.str "BadNumber"]++[V.str "Unlike", V.str "BadPairs"])):=by rw [← e10]; exact AB
  have b7:=s10 _ _ a7;refine ⟨_,rfl,l7,rfl,⟨_,SqL.of b7⟩,BR (K:=K) (a:=l7) (xs:=(flg j).map V.bl) (fun i ys H2=>ys=((flg j).take i).map (fun b=>V.int (b1 b))/\H2=H10) ⟨rfl,rfl⟩ (fun i ys H2 _ ⟨_,e⟩=>e ▸ SqL.of b7) (fun i ys H2 ⟨e,_⟩=>?_) ?_ ?_⟩
  ·rw [e,AF,length_take];have:(flg j).length=11:=rfl;omega
  ·rintro i v ys H2 hi ⟨rfl,rfl⟩;rw [getElem?_map] at hi;obtain ⟨b,hb,rfl⟩:=Option.map_eq_some_iff.mp hi;refine ⟨_,rfl,.inr ⟨b,rfl,?_,rfl⟩⟩;rw [take_add_one,hb,Option.toList_some,map_append];rfl
  ·rintro ys H2 ⟨rfl,rfl⟩ p hp;have el:(flg j).take ((flg j).map V.bl).length=flg j:=by rw [AF]; exact take_length
   rw [el];have em:(flg j).map (fun b=>V.int (b1 b))=((flg j).map b1).map V.int:=by rw [map_map]; rfl
   rw [em];have s11:=AD (Same.refl H2) hp (o:=.lst (((flg j).map b1).map V.int));refine ⟨p,(flg j).map b1,rfl,SqL.of AB,fun n hn=>?_,(by rw [OO j hj]; decide),rfl,_,rfl,?_⟩
   ·obtain ⟨b,_,rfl⟩:=mem_map.mp hn;unfold b1;split <;> decide
   rw [OO j hj];refine Aw ?_;refine ⟨_,rfl,_,_,true,rfl,.inr ⟨_,rfl,rfl⟩,hdS _ (s7.trans (s10.trans s11)),EA.val,_,rfl,?_⟩;refine Aw ?_;refine ⟨_,rfl,sl2,fun l11 h11=>?_⟩;have s12:=AD s11 h11 (o:=.lst [V.str "Never", V.str "Nothing"]);refine ⟨l10,l11,_,_,rfl,rfl,s12 _ _ a10,AB,(by show 9 + 2 <= sizeLine; decide),fun l12 h12=>?_⟩;have s13:=AD s12 h12 (o:=.lst (([V.str "BadRows", V.str "BadRest", V.str "BadText", V.str "Unled", V.str "BadRule", V.str "BadName", V.str "BadNumber"]++[V.str "Unlike", V.str "BadPairs"])++[V.str "Never", V.str "Nothing"]));have c7:=s13 _ _ b7;obtain ⟨f1,f2⟩:=Uy j hj;refine ⟨_,rfl,.inl ⟨rfl,_,SqL.of c7⟩,l7,flg j,j,rfl,rfl,c7,f1,f2,l12,_,(j:Int),_,rfl,rfl,SqL.of AB,Uz j hj,sl2,fun q hq=>?_⟩;exact k q _ (s7.trans (s10.trans (AD s13 hq))) AB
end
structure Jw (K:FG) (ec:Nat->Addr) (cM C:Addr) (j:Nat):Prop where
 ea:OP K ec C j
 cx:A5 K C=true
 n0:(Dg K C).contains (.ref (ec 0))=false
 n1:(Dg K C).contains (.ref (ec 1))=false
 n2:(Dg K C).contains (.ref (ec 2))=false
 n3:(Dg K C).contains (.ref (ec 3))=false
 m:(Dg K C).contains (.ref cM)=true
noncomputable def Il (j:Nat):Str:=(["at", "bits", "at", "name"]:List Str).getD j ""
structure Jx (K:FG) (ec:Nat->Addr) (C:Addr) (j:Nat):Prop where
 ea:OP K ec C j
 cx:A5 K C=true
 j4:j < 4
 no:∀ i,i < j->(Dg K C).contains (.ref (ec i))=false
 m:(Dg K C).contains (.ref (ec j))=true
 g:Vs K C (Il j)
structure NW (K:FG) (mg:SV) (ec:Nat->Addr) (cM:Addr):Prop where
 m:mg "MarkError" = some (.ref cM)
 xm:A5 K cM=true
 x0:A5 K (ec 0)=true
 x1:A5 K (ec 1)=true
 x2:A5 K (ec 2)=true
 x3:A5 K (ec 3)=true
structure FnS (P:Program) (w:World) (K:FG) (mg:SV) (base:Heap) (x:Str) (k:Nat) (ps:List Str) (sp:SpS):Prop where
 ex:∃ f fd,N9 P w K mg base k f fd ps sp/\mg x=some (.ref f)/\W.keepIn K (.ref f)=true/\Binds K fd ps []
def Rh (K:FG) (ec:Nat->Addr) (cM C:Addr) (dx:Option Addr) (e:Addr):TS:=fun D σ H=>σ.length=2 /\
 ((∃ j,Jw K ec cM C j/\dx=none/\∀ p H',Same H H'->H' p=some (.tup [.str "refused", .str (wd j)])->D.rt (.ref p) H') \/
  ∃ j d v,Jx K ec C j/\dx=some d/\H d=some (.xd [(Il j,v)])/\∀ p H',Same H H'->H' p=some (.tup [.str "refused", .str (wd j),v])->D.rt (.ref p) H')
def Jy (K:FG) (ec:Nat->Addr) (cM:Addr) (Q:VK):XK:=fun Cv dx H2=>∃ C,Cv=.ref C/\∀ e,H2 e=some (Fd e C dx) ->
 ((∃ j,Jw K ec cM C j/\dx=none/\∀ p H',Same (del H2 e) H'->H' p=some (.tup [.str "refused", .str (wd j)])->Q (.ref p) H') \/
  ∃ j d v,Jx K ec C j/\dx=some d/\(del H2 e) d=some (.xd [(Il j,v)])/\∀ p H',Same (del H2 e) H'->H' p=some (.tup [.str "refused", .str (wd j),v])->Q (.ref p) H')
theorem scTold:AM ["_law_deed", "_law_e"] ["_law_deed"] (defScope Am):=fsc
section
variable {ec:Nat->Addr} {cM:Addr}
theorem Ri {X:Cx} (K:FG) (hK:X.K=K):OpR X (binaryOp .Add) (Nx K):=hK ▸ Ny
theorem TZ {k:Nat} {lf c':Addr} (F:Fun K "_law_told" "_law_told" Am f fd) (M:MC mg ec) (EX:NW K mg ec cM) (GW:FnS P w K mg base "_law_word" 1 ["_law_e"] (Ci K ec))
  {A:Around} {outer:List Env} {s:Shared} {H:Hp} {args:Args} {Nl:List Str} {scope:Scope} {cl:List (Str × Addr)} {σl:St} {name qual:Str} {params:Arguments} {body:Expr} {pm ctv:Value} {tl:XK->TE} {Q:VK}
  (hr:Room (k + 2) A) (e0:Env0 P w K mg base A outer s H) (hb:BindsTo s fd args ((["_law_deed"]:List Str).zip [Value.ref lf])) (C:IB Nl scope cl σl H s.heap) (hfs:∀ x c,cl.lookup x=some c->c ∉ frs outer)
  (h1:H lf=some (FnO lf (W.kla_obj name qual params body scope cl pm c' ctv))) (h2:H c'=some (Ff c' qual))
  (ce:bindArgs (W.kla_fn name qual params body scope cl pm (.ref c') ctv) ⟨[],[]⟩=pure [])
  (hco:scope.isCoroutine=false) (cm:scope.isGenerator=false) (hk:scope.kind=.function) (b9:∀ x ∈ scope.names,x.2 ≠ .cell)
  (eh:∀ (A':Around) (outer':List Env) (s':Shared) (H':Hp) (E:XK),Room k (A'.deeper (W.envX qual scope s'.heap.objs.size lf (.ref c') cl))->PE (Ei P w K mg base Nl qual scope lf (.ref c') cl A' outer' s' H' E) body (tl E))
  (h:tl (Jy K ec cM Q) σl H Q):codeAny (model P w) A (.call (.ref f) args) (CR CX0 outer P w H s Q E0) s:=by
 obtain ⟨fW,dW,GW,mW,kW,bW⟩:=GW.ex;refine F.at (N:=["_law_deed", "_law_e"]) scTold (vs:=[.ref lf]) rfl (k:=k + 1) hr e0 hb (.cons rfl .nil) fun af hr1=>?_;have own:=UY (CX:=CX0) (P:=P) (w:=w) (K:=K) (mg:=mg) (base:=base) (N:=["_law_deed", "_law_e"]) (qual := "_law_told") (scope:=defScope Am) (f:=f) (cd:=af) (A:=A) (outer:=outer) (s:=s) (H:=H) (E:=E0)
 have hrm:∀ e:Addr,RoomS 1 ((A.deeper (PyProof.Rows.envOfC "_law_told" (defScope Am) s.heap.objs.size f af)).mark (some (.ref e))):=fun e=>by
  have q:=hr1.mono (show 1 <= k + 1 by omega);exact ⟨q.dp,q.un⟩
 refine ⟨_,AE (Ub (tb:=fun E=>P7 (Le 0 lf c' qual (W.kla_obj name qual params body scope cl pm c' ctv) σl (tl E))) (th:=Rh K ec cM) own (fun P0 xe E hx=>?_) (fun CC dx=>?_)),?_⟩
 ·exact AE (AU (ND (X:=Fe (BA CX0 P w K mg base ["_law_deed", "_law_e"] "_law_told" (defScope Am) f af A outer s H E0) P0 xe) (i:=0) (k:=k + 1) rfl (Or.inl rfl) hr1 C hfs rfl hx ce hco cm hk b9 (fun s' H'=>eh _ _ s' H' E (hr1.deeper _))))
 ·intro aa s1 σ H1 D e oe T oT c I h;obtain ⟨hl,⟨j,EP,rfl,kq⟩ | ⟨j,d,v,EF,rfl,hxd,kq⟩⟩:=h
  ·refine (?hp:PH (BA CX0 P w K mg base ["_law_deed", "_law_e"] "_law_told" (defScope Am) f af A outer s H E0) CC none _ (fun e=>OA 1 (fun D σ H=>σ[1]?=some (some (.ref e))/\∀ p H',Same H H'->H' p=some (.tup [.str "refused", .str (wd j)])->D.rt (.ref p) H') e)) aa s1 σ H1 D e oe T oT c I ?_
   ·refine CJ (Dn:=ec 0) EP.cx EX.x0 rfl M.e0 EP.n0 ?_;refine CJ (Dn:=ec 1) EP.cx EX.x1 rfl M.e1 EP.n1 ?_;refine CJ (Dn:=ec 2) EP.cx EX.x2 rfl M.e2 EP.n2 ?_;refine CJ (Dn:=ec 3) EP.cx EX.x3 rfl M.e3 EP.n3 ?_;refine OB (Dn:=cM) (i:=1) (tb:=fun (e:Addr) (D:Df) (σ:St) (H:Hp)=>σ[1]?=some (some (V.ref e))/\∀ p H',Same H H'->H' p=some (.tup [.str "refused", .str (wd j)])->D.rt (.ref p) H') scTold.nd rfl rfl EP.cx EX.xm rfl EX.m EP.m (fun e oe T oT c=>?_);refine fun aa s2 σ2 H2 D2 I2 h2=>?_;obtain ⟨fs,hd,hf1,hf2⟩:=c.fld;refine (?hb2:PSs (Bc (BA CX0 P w K mg base ["_law_deed", "_law_e"] "_law_told" (defScope Am) f af A outer s H E0) e oe T oT) _ (P7 (KZ (Ci K ec) e oe (Aq (Ck 1) CO)))) aa s2 σ2 H2 D2 I2 ⟨_,h2.1,rfl,CC,j,fs,c.cls,hd,hf2,.inl c.dict,EP.ea,h2.2⟩;exact AE (AU (Ld (X:=Bc (BA CX0 P w K mg base ["_law_deed", "_law_e"] "_law_told" (defScope Am) f af A outer s H E0) e oe T oT) (e:=e) (oe:=oe) GW (hrm e) rfl (by simp [Bc]) rfl mW kW bW (AA (pv 1) AC)))
   ·exact ⟨by rw [List.getElem?_set_self (by omega)],kq⟩
  ·have hj4:=EF.j4;refine (?hq:PH (BA CX0 P w K mg base ["_law_deed", "_law_e"] "_law_told" (defScope Am) f af A outer s H E0) CC (some d) _ (fun e=>OA 1 (fun D σ H=>σ[1]?=some (some (.ref e))/\H d=some (.xd [(Il j,v)])/\∀ p H',Same H H'->H' p=some (.tup [.str "refused", .str (wd j),v])->D.rt (.ref p) H') e)) aa s1 σ H1 D e oe T oT c I ?_
   ·have take:∀ {x:Str} {b₀:Stmt} {np pos:Pos} {hs:List ExceptHandler} (Dn:Addr),A5 K Dn=true->(hg:Gl (BA CX0 P w K mg base ["_law_deed", "_law_e"] "_law_told" (defScope Am) f af A outer s H E0) x)->mg x=some (.ref Dn)->(Dg K CC).contains (.ref Dn)=true->(x == ("__debug__" : Str))=false ->
      (∀ e oe T oT,Cgt CC (some d) e oe T oT->PSs (Bc (BA CX0 P w K mg base ["_law_deed", "_law_e"] "_law_told" (defScope Am) f af A outer s H E0) e oe T oT) [b₀] (P7 (tOp (Nx K) (KZ (Ci K ec) e oe (Aq (Ck 1) CO)) (UM (Aq (Qt e oe (Il j) (Ck 1)) CO))))) ->
      PH (BA CX0 P w K mg base ["_law_deed", "_law_e"] "_law_told" (defScope Am) f af A outer s H E0) CC (some d) (.ExceptHandler (some (.Name x np)) (some "_law_e") [b₀] pos :: hs) (fun e=>OA 1 (fun D σ H=>σ[1]?=some (some (.ref e))/\H d=some (.xd [(Il j,v)])/\∀ p H',Same H H'->H' p=some (.tup [.str "refused", .str (wd j),v])->D.rt (.ref p) H') e):=fun {x b₀ np pos hs} Dn hD hg hm hc hdb hbod =>
     OB (Dn:=Dn) (i:=1) (tb:=fun (e:Addr) (D:Df) (σ:St) (H:Hp)=>σ[1]?=some (some (V.ref e))/\H d=some (.xd [(Il j,v)])/\∀ p H',Same H H'->H' p=some (.tup [.str "refused", .str (wd j),v])->D.rt (.ref p) H') scTold.nd rfl rfl EF.cx hD hg hm hc (fun e oe T oT c=>by
      refine fun aa s2 σ2 H2 D2 I2 h2=>?_;obtain ⟨fs,hd,hf1,hf2⟩:=c.fld;obtain ⟨g1,g2,g3⟩:=h2;refine hbod e oe T oT c aa s2 σ2 H2 D2 I2 ⟨_,g1,rfl,CC,j,fs,c.cls,hd,hf2,.inr ⟨d,_,c.dict,g2⟩,EF.ea,fun p H' sp hp=>?_⟩;refine ⟨_,g1,d,_,v,rfl,c.dict,sp _ _ g2,(by simp),sl1,fun q hq=>?_⟩;have sq:=AD (Same.refl H') hq (o:=.tup [v]);refine ⟨p,q,_,_,rfl,rfl,SqT.of (sq _ _ hp),SqT.of AB,(by simp),(by show 2 + 1 <= sizeLine; decide),(fun z=>nomatch z),fun _ r hr=>?_⟩
      exact g3 r _ (sp.trans (AD sq hr)) AB) hdb
    have pX:∀ e oe T oT,Cgt CC (some d) e oe T oT->ExcP (Bc (BA CX0 P w K mg base ["_law_deed", "_law_e"] "_law_told" (defScope Am) f af A outer s H E0) e oe T oT) e oe CC:=fun e oe T oT c=>by
     obtain ⟨fs,hd,_⟩:=c.fld;exact ⟨by simp [Bc],c.cls,⟨fs,hd⟩⟩
    have bod:∀ {fl:Str} {p1 p2 p3 p4 p5 p6 p7:Pos} {kt:Nat},Il j=fl->∀ e oe T oT,Cgt CC (some d) e oe T oT->PSs (Bc (BA CX0 P w K mg base ["_law_deed", "_law_e"] "_law_told" (defScope Am) f af A outer s H E0) e oe T oT) [.Return (some (.BinOp (.Call (.Name "_law_word" p1) [.Name "_law_e" p2] [] p3) .Add (.Tuple [.Attribute (.Name "_law_e" p4) fl p5] kt p6) p7)) p7] (P7 (tOp (Nx K) (KZ (Ci K ec) e oe (Aq (Ck 1) CO)) (UM (Aq (Qt e oe (Il j) (Ck 1)) CO)))):=fun aj e oe T oT c=>by
     subst aj;exact AE (AU (Af (Ri K rfl) (Ld (X:=Bc (BA CX0 P w K mg base ["_law_deed", "_law_e"] "_law_told" (defScope Am) f af A outer s H E0) e oe T oT) (e:=e) (oe:=oe) GW (hrm e) rfl (by simp [Bc]) rfl mW kW bW (AA (pv 1) AC)) (A6 (AA (S3 (pX e oe T oT c) EF.g (pv 1) rfl) AC))))
    rcases (show j=0\/j=1\/j=2\/j=3 by omega) with z | z | z | z
    ·subst z;exact take (ec 0) EX.x0 rfl M.e0 EF.m (by decide) (bod rfl)
    ·subst z;refine CJ (Dn:=ec 0) EF.cx EX.x0 rfl M.e0 (EF.no 0 (by decide)) ?_;exact take (ec 1) EX.x1 rfl M.e1 EF.m (by decide) (bod rfl)
    ·subst z;refine CJ (Dn:=ec 0) EF.cx EX.x0 rfl M.e0 (EF.no 0 (by decide)) ?_;refine CJ (Dn:=ec 1) EF.cx EX.x1 rfl M.e1 (EF.no 1 (by decide)) ?_;exact take (ec 2) EX.x2 rfl M.e2 EF.m (by decide) (bod rfl)
    ·subst z;refine CJ (Dn:=ec 0) EF.cx EX.x0 rfl M.e0 (EF.no 0 (by decide)) ?_;refine CJ (Dn:=ec 1) EF.cx EX.x1 rfl M.e1 (EF.no 1 (by decide)) ?_;refine CJ (Dn:=ec 2) EF.cx EX.x2 rfl M.e2 (EF.no 2 (by decide)) ?_;exact take (ec 3) EX.x3 rfl M.e3 EF.m (by decide) (bod rfl)
   ·exact ⟨by rw [List.getElem?_set_self (by omega)],hxd,kq⟩
 ·refine ⟨rfl,h1,h2,?_⟩
  have e:Sx (BA CX0 P w K mg base ["_law_deed", "_law_e"] "_law_told" (defScope Am) f af A outer s H E0).N.length (Rh K ec cM) { nx:=fun _ H'=>Q .non H',rt:=Q }=Jy K ec cM Q:=by
   funext Cv dx H2;unfold Sx Jy Rh;simp [BA]
  rw [← e] at h;exact h
end
end Mk
end
section
namespace L2
open PySem PySem.Spec PyProof.Rows
noncomputable def Pk (ix:List Nat) (σ:St):St:=ix.map fun j=>(σ[j]?).getD none
structure LamN (X:Cx) (Nl:List Str) (ix:List Nat) (scope:Scope) (clos:List (Str × Addr)):Prop where
 len:ix.length=Nl.length
 nm:∀ (i:Nat) (x:Str),Nl[i]?=some x->∃ j:Nat,ix[i]?=some j/\X.N[j]?=some x/\X.env.scope.names.lookup x=some .cell/\scope.names.lookup x=some .free
 cl:∀ x c,clos.lookup x=some c->X.env.cells.lookup x=some c
 has:∀ x,(scope.names.lookup x=some .cell\/scope.names.lookup x=some .free)->∃ c,clos.lookup x=some c
 fn:∀ x,X.fn x=true
section
variable {X:Cx} {aa:LO} {σ:St} {s:Shared} {Nl:List Str} {ix:List Nat} {scope:Scope} {clos:List (Str × Addr)}
theorem LamN.cells (L:LamN X Nl ix scope clos) (I:Inv X aa σ H s):IB Nl scope clos (Pk ix σ) H s.heap:=by
 refine ⟨fun x y c h1 h2=>I.ok.inj x y c (L.cl x c h1) (L.cl y c h2),L.has,fun x c h=>⟨I.cell x c (L.cl x c h),I.freeC x c (L.cl x c h)⟩,fun i x v h1 h2=>?_,?_⟩
 ·obtain ⟨j,hj,hN,hk,hf⟩:=L.nm i x h1;refine ⟨hf,?_⟩;unfold Pk at h2;rw [getElem?_map,hj] at h2
  have hv:σ[j]?=some (some v):=by
   simp only [Option.map_some,Option.some.injEq] at h2;cases e:σ[j]? with
   | none=>rw [e] at h2; cases h2
   | some o=>rw [e] at h2; simp only [Option.getD_some] at h2; rw [h2]
  obtain ⟨m,_,hl⟩:=I.loc;obtain ⟨u,r,l⟩:=hl j x v hN hv (.inr (.inl hk));rcases l with ⟨l,_⟩ | ⟨_,c,e,z⟩
  ·rw [show X.env.kindOf x=X.env.scope.names.lookup x from rfl,hk] at l; cases l
  ·obtain ⟨c2,e2⟩:=L.has x (.inr hf);have e3:=L.cl x c2 e2;rw [e] at e3;cases e3;exact ⟨u,c,r,e2,z⟩
 ·unfold Pk; rw [AF]; exact L.len
theorem LamN.far (L:LamN X Nl ix scope clos) (I:Inv X aa σ H s):∀ x c,clos.lookup x=some c->c ∉ frs X.stack:=fun x c h z=>by
 have hc:=L.cl x c h;rcases mem_cons.mp (I.stkSub c z) with z | z
 ·exact I.cne x c hc z
 ·obtain ⟨_,o,ho,_⟩:=I.ok.funs.mem z;exact absurd (Nat.lt_of_lt_of_le (lt_size ho) (I.ok.cab x c (L.fn x) hc)) (Nat.lt_irrefl _)
end
end L2
namespace Mk
open PySem L2 MK
section
variable {X:Cx} {ec:Nat->Addr} {cM c P0:Addr} {ls:List Pos} {lpos:Pos}
def MD (K:FG) (ec:Nat->Addr) (cM P0:Addr) (qual:Str) (ls:List Pos) (ix:List Nat) (tl:XK->TE):TE:=fun σ H Q=>TabOk H P0 qual ls/\∀ H',Lf P0 H H'->TabOk H' P0 qual ls->tl (Jy K ec cM Q) (Pk ix σ) H' Q
theorem Kq {k:Nat} (F:Fun X.K "_law_told" "_law_told" Am f fd) (M:MC X.mg ec) (EX:NW X.K X.mg ec cM) (GW:FnS X.prog X.w X.K X.mg X.base "_law_word" 1 ["_law_e"] (Ci X.K ec))
  (hr:Room (k + 2) X.A) (hg:Gl X "_law_told") (hm:X.mg "_law_told" = some (.ref f)) (hkp:W.keepIn X.K (.ref f)=true) (hB:Binds X.K fd ["_law_deed"] [])
  {Nl:List Str} {ix:List Nat} {scope:Scope} {clos:List (Str × Addr)} {params:Arguments} {body:Expr} {tl:XK->TE} {p pos:Pos}
  (L:O6 X c P0) (hls:lpos ∈ ls) (bn:∀ q ∈ ls,q=lpos\/(q.line == lpos.line && q.col == lpos.col)=false) (ak:closureFor scope X.env=pure clos) (d7:defaultsOf params X.env=([],[])) (LN:LamN X Nl ix scope clos)
  (ce:∀ pm c' ctv,bindArgs (W.kla_fn "<lambda>" (X.env.qual ++ "<lambda>") params body scope clos pm (.ref c') ctv) ⟨[],[]⟩=pure [])
  (hco:scope.isCoroutine=false) (cm:scope.isGenerator=false) (hk:scope.kind=.function) (b9:∀ x ∈ scope.names,x.2 ≠ .cell)
  (eh:∀ (lf c':Addr) (A':Around) (outer':List Env) (s':Shared) (H':Hp) (E:XK),Room k (A'.deeper (W.envX (X.env.qual ++ "<lambda>") scope s'.heap.objs.size lf (.ref c') clos))->PE (Ei X.prog X.w X.K X.mg X.base Nl (X.env.qual ++ "<lambda>") scope lf (.ref c') clos A' outer' s' H' E) body (tl E))
  (he:starEach [.Lambda params body scope lpos] X.env=(false,eval (.Lambda params body scope lpos) X.env) :: starEach [] X.env:=by rfl) (hpl:(backTo pos (starEach [] X.env)).any (·.1)=false:=by rfl) :
  PE X (.Call (.Name "_law_told" p) [.Lambda params body scope lpos] [] pos) (MD X.K ec cM P0 (X.env.qual ++ "<lambda>") ls ix tl):=by
 intro aa s σ H Q I ⟨hT,h⟩;refine wpAny_Call_Name_kw (CG I hg hm ?_ (by decide));have ha:PA X [.Lambda params body scope lpos] (Aq (Vp P0 (X.env.qual ++ "<lambda>") ls (fun c' ctv=>W.kla_obj "<lambda>" (X.env.qual ++ "<lambda>") params body scope clos ((X.mg "__name__").getD .none) c' ctv)) CO):=AA (Uc L hls bn ak d7) AC he;refine W.callWith_K (h₀:=X.base) I.ok.mod.kin hkp (thn (ha pos aa s σ H (fun vs H1=>∃ lf c' ctv,vs=[.ref lf]/\Lf P0 H H1/\TabOk H1 P0 (X.env.qual ++ "<lambda>") ls/\H1 lf=some (FnO lf (W.kla_obj "<lambda>" (X.env.qual ++ "<lambda>") params body scope clos ((X.mg "__name__").getD .none) c' ctv))/\H1 c'=some (Ff c' (X.env.qual ++ "<lambda>"))) I ⟨hT,fun lf c' ctv H' _ hs ht h1 h2=>⟨lf,c',ctv,rfl,hs,ht,h1,h2⟩⟩) fun us s1 ⟨vs,H1,I1,r,lf,c',ctv,ev,hs,ht,h1,h2⟩=>⟨I1.kIn,?_⟩) he hpl;subst ev;obtain ⟨u,eu,ru⟩:=CM r;subst eu;obtain rfl:u=Value.ref lf:=ru;have bb:=hB s1 [.ref lf] I1.kIn rfl;rw [append_nil] at bb;refine wpAny_call (codeAny_mono (TZ (k:=k) F M EX GW hr I1.env0 bb (LN.cells I1) (LN.far I1) h1 h2 (ce _ _ _) hco cm hk b9 (eh lf c') (h H1 hs ht)) fun r s' hq=>?_);cases r with
 | error e=>exact False.elim hq
 | ok fl =>
  cases fl with
  | ret u=>exact I1.after hq
  | next=>exact False.elim hq
  | brk=>exact False.elim hq
  | cont=>exact False.elim hq
end
section
variable {cM cR:Addr}
structure U0 (P:Program) (w:World) (K:FG) (mg:SV) (base:Heap) (cM:Addr):Prop where
 cls:mg "MarkError" = some (.ref cM)
 ga:W.specialIn K (.ref cM) "__getattribute__" = some (some (.builtin "type.__getattribute__"))
 rd:W.readsIn K cM (.type "type")=true
 fn:∃ f fd,W.findCls K (.ref cM) (.type "type") "__init__" = some (.val (.ref f))/\Ac P w K mg base CX0 1 f fd ["self", "words"] (Ea K)/\W.keepIn K (.ref f)=true/\Binds K fd ["self", "words"] []
def FF (K:FG) (cM:Addr):Sp:=fun vs H Q _=>∃ (e C:Addr) (n:Int),vs=[.ref e,.int n]/\n.natAbs.log2 < 1920/\A5 K C=true/\H e=some (Ed e C none)/\Lg K C cM "bits" /\
 ∀ d,H d=none->d ≠ e->Q .non (upd (upd H e (Ed e C (some d))) d (.xd [("bits", .int n)]))
theorem NX:AM ["self", "bits"] ["self", "bits"] (defScope DU):=fsc
theorem MF (F:Fun K "__init__" "BadRest.__init__" DU f fd) (ME:U0 P w K mg base cM):Ac P w K mg base CX0 2 f fd ["self", "bits"] (FF K cM):=by
 obtain ⟨fI,dI,hf,GI,kI,bI⟩:=ME.fn;have mM:=ME.cls;refine F.m NX fun vs H Q E h=>?_;obtain ⟨e,C,n,rfl,hn,hC,he,S,k⟩:=h;refine ⟨rfl,fun af A outer s hr=>?_⟩;refine ⟨_,AG (CH (IC rfl mM ME.ga ME.rd hf GI hr kI bI .nil AN (AA (pv 0) (AA (OD (by decide +kernel) (pv 1)) AC)))) (AE (OC (M:=cM) (pv 0) (pv 1) rfl)),?_⟩;refine ⟨_,rfl,_,rfl,.inl ⟨n,rfl,hn⟩,fun z=>⟨e,C,none,z,rfl,hC,he,?_⟩⟩;exact ⟨_,rfl,_,rfl,e,C,rfl,he,S,k⟩
def UqR (H:Hp) (E:XK) (cR:Addr) (n:Int):Prop:=∀ e d H',Same H H'->H e=none->H d=none->d ≠ e->H' e=some (Fd e cR (some d))->H' d=some (.xd [("bits", .int n)])->E (.ref cR) (some d) H'
structure Rj (P:Program) (w:World) (K:FG) (mg:SV) (base:Heap) (cM cR:Addr):Prop where
 cls:mg "BadRest" = some (.ref cR)
 make:∃ f fd,MkX K cR f/\Ac P w K mg base CX0 2 f fd ["self", "bits"] (FF K cM)/\Binds K fd ["self", "bits"] []
 st:Lg K cR cM "bits"
theorem Pl {σ:St} {H1:Hp} {E:XK} {D:Df} {n:Int} {te:TE} (hC:A5 K cR=true) (S:Lg K cR cM "bits") (hn:n.natAbs.log2 < 1920) (s1:Same H H1) (h:UqR H E cR n) (ht:te σ H1=fun Q=>Q (.int n) H1) :
  KW cR (KU cR (FF K cM) [] E0 (Aq te CO)) E D σ H1:=by
 show te σ H1 _;rw [ht];refine ⟨(by show 1 <= 1000; decide),fun a ha=>?_⟩;refine ⟨a,cR,n,rfl,hn,hC,AB,S,fun d hd bn=>⟨rfl,a,some d,rfl,?_,?_⟩⟩
 ·rw [AH (Ne.symm bn),AB]
 ·have hd1:H1 d=none:=by rw [AH bn] at hd; exact hd
  refine h a d _ (fun b u e=>?_) (none_of s1 ha) (none_of s1 hd1) bn AB ?_
  ·have e1:=s1 _ _ e;have nb:b ≠ a:=AI e1 ha;have nd:b ≠ d:=AI e1 hd1;rw [AH nb,AH nd,AH nb,AH nb];exact e1
  ·rw [AH bn,AB]
end
noncomputable def plain (i:Int):Nat:=if 0 <= i then i.toNat else (-i - 1).toNat
noncomputable def Ae (due:Aa) (i:Int):Nat:=plain i - (plain i &&& kn due)
theorem Pm (i:Int):(plain i:Int)=if 0 <= i then i else -i - 1:=by
 unfold plain;split <;> omega
theorem Rk {i:Int} (h1:-1099511627776 <= i) (h2:i < 1099511627776):plain i < 2 ^ 40:=by
 have e:(2:Nat) ^ 40=1099511627776:=by decide
 unfold plain;split <;> omega
theorem Im (x m:Nat):(x &&& m) - ((x &&& m) &&& m)=0:=by
 have h:(x &&& m) &&& m=x &&& m:=by
  refine Nat.eq_of_testBit_eq fun k=>?_;simp only [Nat.testBit_and];cases x.testBit k <;> cases m.testBit k <;> rfl
 omega
theorem Pn {n:Nat} (h:n < 2 ^ 40):((n:Int)).natAbs.log2 < 1920:=by
 rw [Int.natAbs_natCast];rcases Nat.eq_zero_or_pos n with z | z
 ·subst z; decide
 ·have:=(Nat.log2_lt (by omega)).mpr h;omega
section
variable {cM cR:Addr}
def Rm (C VC cR:Addr):Sp:=fun vs H Q E=>∃ (kp:Addr) (due:Aa) (r:Str) (i:Int),vs=[.ref kp,.int i]/\KindAt C H kp due r/\kn due < 2 ^ 20/\-1099511627776 <= i/\i < 1099511627776 /\
 ((Ae due i ≠ 0/\r = "bar" /\ UqR H E cR (Ae due i:Nat)) \/
  (¬ (Ae due i ≠ 0/\r = "bar")/\i < 0/\∀ q H',Same H H'->ValAt VC H' q kp (kn due - (kn due &&& plain i))->Q (.ref q) H') \/
  (¬ (Ae due i ≠ 0/\r = "bar")/\0 <= i/\Ae due i ≠ 0/\r = "leave" /\ ∀ H',Same H H'->Q (.int i) H') \/
  (¬ (Ae due i ≠ 0/\r = "bar")/\0 <= i/\¬ (Ae due i ≠ 0/\r = "leave")/\∀ q H',Same H H'->ValAt VC H' q kp (if r = "keep" then plain i else plain i - Ae due i)->Q (.ref q) H'))
theorem scMade:AM ["kind", "number", "bits", "rest"] ["kind", "number"] (defScope OF):=fsc
theorem Ta {tL:Tok} (F:Fun K "made" "made" OF f fd) (hL:mg "LIMIT" = some (.int 1099511627776 tL)) (T:Dh K C) (VO:Lz P w K mg base C VC) (RO:Rj P w K mg base cM cR)
  (GW:Fn P w K mg base "is_whole" 1 ["thing"] DB) (GR:Fn P w K mg base "rest_of" 3 ["kind", "number"] (F1 C)) (GRe:Mt P w K mg base C "rest" 1 ["self"] (Kn C)) (GK:Mt P w K mg base C "known" 2 ["self"] (HH C)) :
  Ac P w K mg base (CXr P w) 6 f fd ["kind", "number"] (Rm C VC cR):=by
 obtain ⟨fW,dW,GW,mW,kW,bW⟩:=GW.ex;obtain ⟨fR,dR,GR,mR,kR,bR⟩:=GR.ex;obtain ⟨fE,dE,GE,mE,bE⟩:=GRe.ex;obtain ⟨fK,dK,GK,mK,bK⟩:=GK.ex;obtain ⟨fI,dI,MI,GI,bI⟩:=VO.make;obtain ⟨fX,dX,MX,GX,bX⟩:=RO.make;have mV:=VO.cls;have mB:=RO.cls;refine F.n scMade fun vs H Q E h=>?_;obtain ⟨kp,due,r,i,rfl,KA,hk20,hi1,hi2,h⟩:=h;refine ⟨rfl,fun af A outer s hr=>?_⟩;have hr1:Room 1 _:=hr.mono (by decide);have hr2:Room 2 _:=hr.mono (by decide);have hr3:Room 3 _:=hr.mono (by decide);have rz:=HE (P:=P) (w:=w) (K:=K) (mg:=mg) (base:=base) (N:=["kind", "number", "bits", "rest"]) (qual := "made") (scope:=defScope OF) (f:=f) (cd:=af) (A:=A) (outer:=outer) (s:=s) (H:=H) (E:=E);obtain ⟨dxk,d1,d2,al⟩:=KA.ins
 refine ⟨_,AG (An (PW.pt (Cm (BU (BG (AL GW hr1 rfl mW kW bW .nil AN (AA (pv 1) AC)))) (CS (BU (FN FM Nu (K4 QF (Bz (v:=.int 1099511627776) rfl hL ⟨tL,rfl⟩)) (pv 1) (Bz (v:=.int 1099511627776) rfl hL ⟨tL,rfl⟩)))))) (AE Ao) AW)
  (BV (Ai (i:=2) scMade.nd rfl (Or.inl rfl) (HR (AY QH (pv 1) AK (Ad _)) (pv 1) (Af Mh (K4 QF (pv 1)) AK)))
  (AG (Ai (i:=3) scMade.nd rfl (Or.inl rfl) (AL GR hr3 rfl mR kR bR .nil AN (AA (pv 0) (AA (pv 2) AC))))
  (BV (An (PW.pt (Di (AY Dk (pv 3) AK (Ad _)) (Cl (AY Dj (Ah (pv 0) T.cl mE GE hr1 bE .nil AN) Ag (Ad _))))) (AE (Du rz rfl MX.cls (Dt MX GX hr3 rfl mB bX .nil AN (AA (pv 3) AC)))) AW)
  (AG (An (AY Nu (pv 1) AK (Ad _)) (AE (AU (Cq MI GI hr rfl mV bI .nil AN (AA (pv 0) (AA (Af DL (Ah (pv 0) T.cl mK GK hr2 bK .nil AN) (K4 Mj (pv 2))) AC))))) AW)
  (BV (An (PW.pt (Di (AY Dk (pv 3) AK (Ad _)) (Cl (AY Dj (Ah (pv 0) T.cl mE GE hr1 bE .nil AN) Ag (Ad _))))) (AE (AU (pv 1))) AW)
  (AE (AU (Cq MI GI hr rfl mV bI .nil AN (AA (pv 0) (AA (HR (AY Dj (Ah (pv 0) T.cl mE GE hr1 bE .nil AN) Ag (Ad _)) (pv 2) (Af Mh (pv 2) (pv 3))) AC)))))))))),?_⟩
 have noR:(HA d1 d2 r).lookup ("rest" : Str)=none:=(Bj _ _ _);have noK:(HA d1 d2 r).lookup ("known" : Str)=none:=(Bj _ _ _);refine ⟨_,rfl,i,rfl,_,rfl,?_⟩;refine Aw ?_;refine ⟨_,rfl,_,rfl,_,_,rfl,rfl,_,rfl,?_⟩;rw [decide_eq_true (show -1099511627776 <= i from hi1)];refine Bo ?_;refine ⟨_,_,rfl,rfl,_,rfl,?_⟩;rw [decide_eq_true (show i < 1099511627776 from hi2)];refine Aw ?_;refine ⟨fun σ H1=>σ=[some (.ref kp),some (.int i),some (.int (plain i:Nat)),none]/\H1=H,fun R hR=>?_,?_⟩
 ·refine ⟨_,rfl,_,_,rfl,rfl,_,rfl,?_⟩;have e:=Pm i;refine Bp (fun hc=>?_) (fun hc=>?_)
  ·have h0:0 <= i:=of_decide_eq_true hc;rw [if_pos h0] at e;refine ⟨_,rfl,hR _ _ ⟨?_,rfl⟩⟩;rw [e];rfl
  ·have h0:¬ 0 <= i:=fun z=>hc (decide_eq_true z);rw [if_neg h0] at e;refine ⟨_,rfl,_,rfl,_,_,rfl,rfl,hR _ _ ⟨?_,rfl⟩⟩;rw [e];rfl
 rintro σ H0 ⟨rfl,rfl⟩;refine ⟨_,rfl,_,rfl,kp,due,r,plain i,rfl,KA,fun H1 s1=>?_⟩;have hb40:=Rk hi1 hi2;have hs40:Ae due i < 2 ^ 40:=Nat.lt_of_le_of_lt (Nat.sub_le _ _) hb40;have KA1:=KA.same s1;have dc:=s1 _ _ al;have eS:∀ n:Nat,decide (V.int (n:Int)=V.int 0)=decide (n=0):=fun n=>decide_eq_decide.mpr ⟨fun z=>by have:=V.int.inj z; omega,fun z=>by rw [z]; rfl⟩;refine ⟨fun σ H2=>¬ (Ae due i ≠ 0/\r = "bar")/\σ=[some (.ref kp),some (.int i),some (.int (plain i:Nat)),some (.int (Ae due i:Nat))]/\H2=H1,fun R hR=>?_,?_⟩
 ·refine ⟨_,rfl,rfl,_,rfl,?_⟩;show if (!decide (V.int ((Ae due i:Nat):Int)=V.int 0))=true then _ else _
  rw [eS];by_cases hz:Ae due i=0
  ·rw [decide_eq_true hz];exact Aw (Aw (hR _ _ ⟨fun z=>z.1 hz,rfl,rfl⟩))
  ·rw [decide_eq_false hz];refine Bo ?_;refine ⟨_,rfl,kp,dxk,_,rfl,dc,noR,kp,due,r,rfl,KA1,rfl,_,rfl,?_⟩;by_cases cu:r = "bar"
   ·rw [decide_eq_true (show V.str r=V.str "bar" by rw [cu])];refine Bo ?_;rcases h with ⟨_,_,hU⟩ | ⟨hn,_⟩ | ⟨hn,_⟩ | ⟨hn,_⟩
    ·exact Pl (te:=Ck 3) MX.cls RO.st (Pn hs40) s1 hU (by funext Q'; exact propext ⟨fun ⟨v,e,q⟩=>by cases e; exact q,fun q=>⟨_,rfl,q⟩⟩)
    ·exact absurd ⟨hz,cu⟩ hn
    ·exact absurd ⟨hz,cu⟩ hn
    ·exact absurd ⟨hz,cu⟩ hn
   ·rw [decide_eq_false (show ¬ V.str r=V.str "bar" from fun z=>cu (V.str.inj z))];exact Aw (hR _ _ ⟨fun z=>cu z.2,rfl,rfl⟩)
 rintro σ H2 ⟨hnb,rfl,rfl⟩;refine ⟨_,rfl,_,_,rfl,rfl,_,rfl,?_⟩;rcases h with ⟨z1,z2,_⟩ | ⟨_,hneg,k⟩ | ⟨_,hnn,hs0,hlv,k⟩ | ⟨_,hnn,hnl,k⟩
 ·exact absurd ⟨z1,z2⟩ hnb
 ·rw [decide_eq_true (show i < 0 from hneg)];refine Bo ?_;refine ⟨_,rfl,_,rfl,kp,dxk,_,rfl,dc,noK,kp,due,r,rfl,KA1,fun H3 s3=>⟨_,rfl,_,rfl,_,_,rfl,rfl,?_⟩⟩;intro q dq hq hdq bn;have sN:=Bf (D:=VC) hq hdq bn;have eb:Builtin.bitAnd ((AQ ((AT due).map (·.1)):Nat):Int) (Builtin.bitNot (plain i:Int))=((kn due - (kn due &&& plain i):Nat):Int):=by rw [Et,Lv]; rfl
  refine ⟨q,dq,kp,due,r,kn due - (kn due &&& plain i),?_,AB,((KA1.same s3).same sN),?_,.inr (TX _ _),fun H4 s4 hV=>⟨rfl,k q H4 ((s1.trans s3).trans (BS sN hq s4)) hV⟩⟩
  ·show [V.ref q,V.ref kp,V.int (Builtin.bitAnd ((AQ ((AT due).map (·.1)):Nat):Int) (Builtin.bitNot (plain i:Int)))]=_;rw [eb]
  ·have h1:kn due - (kn due &&& plain i) <= kn due:=Nat.sub_le _ _;have h2:(2:Nat) ^ 20 < 2 ^ 40:=by decide
   omega
 ·rw [decide_eq_false (show ¬ i < 0 by omega)];refine Aw ?_;refine ⟨fun _ _=>False,fun R hR=>?_,fun _ _ z=>z.elim⟩;refine ⟨_,rfl,rfl,_,rfl,?_⟩;show if (!decide (V.int ((Ae due i:Nat):Int)=V.int 0))=true then _ else _
  rw [eS,decide_eq_false hs0];refine Bo ?_;refine ⟨_,rfl,kp,dxk,_,rfl,dc,noR,kp,due,r,rfl,KA1,rfl,_,rfl,?_⟩;rw [decide_eq_true (show V.str r=V.str "leave" by rw [hlv])];exact Bo ⟨_,rfl,k _ s1⟩
 ·rw [decide_eq_false (show ¬ i < 0 by omega)];refine Aw ?_;refine ⟨fun σ H3=>σ=[some (.ref kp),some (.int i),some (.int (plain i:Nat)),some (.int (Ae due i:Nat))]/\H3=H2,fun R hR=>?_,?_⟩
  ·refine ⟨_,rfl,rfl,_,rfl,?_⟩;show if (!decide (V.int ((Ae due i:Nat):Int)=V.int 0))=true then _ else _
   rw [eS];by_cases hz:Ae due i=0
   ·rw [decide_eq_true hz];exact Aw (Aw (hR _ _ ⟨rfl,rfl⟩))
   ·rw [decide_eq_false hz];refine Bo ?_;refine ⟨_,rfl,kp,dxk,_,rfl,dc,noR,kp,due,r,rfl,KA1,rfl,_,rfl,?_⟩;rw [decide_eq_false (show ¬ V.str r=V.str "leave" from fun z=>hnl ⟨hz,V.str.inj z⟩)];exact Aw (hR _ _ ⟨rfl,rfl⟩)
  rintro σ H3 ⟨rfl,rfl⟩;refine ⟨_,rfl,_,rfl,kp,dxk,_,rfl,dc,noR,kp,due,r,rfl,KA1,rfl,_,rfl,?_⟩
  have fin:∀ n:Nat,n=(if r = "keep" then plain i else plain i - Ae due i)->n < 2 ^ 40->(r = "keep" \/ n - (n &&& kn due)=0)->∀ q dq,H3 q=none->H3 dq=none->dq ≠ q->HK C VC [.ref q,.ref kp,.int (n:Int)] (upd (upd H3 dq (.own q)) q (.ins VC dq [])) (fun v H4=>v=.non/\Q (.ref q) H4) E0:=fun n en hn hk q dq hq hdq bn=>by
   have sN:=Bf (D:=VC) hq hdq bn;exact ⟨q,dq,kp,due,r,n,rfl,AB,KA1.same sN,hn,hk,fun H4 s4 hV=>⟨rfl,k q H4 (s1.trans (BS sN hq s4)) (en ▸ hV)⟩⟩
  by_cases de:r = "keep"
  ·rw [decide_eq_true (show V.str r=V.str "keep" by rw [de])];refine Bo ⟨_,rfl,?_⟩;exact fin (plain i) (by rw [if_pos de]) hb40 (.inl de)
  ·rw [decide_eq_false (show ¬ V.str r=V.str "keep" from fun z=>de (V.str.inj z))];refine Aw ⟨_,rfl,_,rfl,_,_,rfl,rfl,?_⟩;have hle:Ae due i <= plain i:=Nat.sub_le _ _;have es:((plain i:Nat):Int) - ((Ae due i:Nat):Int)=((plain i - Ae due i:Nat):Int):=by omega
   have ek:plain i - Ae due i=plain i &&& kn due:=by
    unfold Ae;have:=Nat.and_le_left (n:=plain i) (m:=kn due);omega
   intro q dq hq hdq bn;have:=fin (plain i - Ae due i) (by rw [if_neg de]) (by omega) (.inr (by rw [ek]; exact Im _ _)) q dq hq hdq bn;rw [← es] at this;exact this
end
theorem Gj {α β:Type} {F:α->β->Prop}:∀ {xs:List α} {ys:List β} {i:Nat} {a:α},Paired F xs ys->xs[i]?=some a->∃ b,ys[i]?=some b/\F a b
 | _,_,_,_,.nil,e=>by simp at e
 | _,_,0,_,.cons r _,e=>by simp at e; subst e; exact ⟨_,rfl,r⟩
 | _,_,i + 1,x,.cons _ t,e=>by
  obtain ⟨u,h1,h2⟩:=Gj (i:=i) (a:=x) t (by simpa using e);exact ⟨u,by simpa using h1,h2⟩
noncomputable def AO (due:Aa) (n:Nat):List Str:=((AJ due).filter fun m=>decide (m &&& n ≠ 0)).map (BL (AT due))
theorem BE (due:Aa):(AJ due).length <= due.length:=Nat.le_trans (length_filter_le _ _) (EY due)
section
def Io (C VC:Addr):Sp:=fun vs H Q _=>∃ (p kp:Addr) (n:Nat) (due:Aa) (r:Str),vs=[.ref p]/\ValAt VC H p kp n/\KindAt C H kp due r/\due.length <= 60/\∀ l H',Same H H'->H' l=some (.lst ((AO due n).map V.str))->Q (.ref l) H'
theorem Rn:AM ["self"] ["self"] (defScope Dz):=fsc
theorem Po (F:Fun K "marks" "Value.marks" Dz f fd) (T:Dh K C) (VT:Ik K VC) (GM:Mt P w K mg base C "marks" 2 ["self"] (Fs C)):Ac P w K mg base CX0 3 f fd ["self"] (Io C VC):=by
 obtain ⟨fM,dM,GM,mM,bM⟩:=GM.ex;refine F.m Rn fun vs H Q E h=>?_;obtain ⟨p,kp,n,due,r,rfl,⟨dx,hp⟩,KA,h60,k⟩:=h;refine ⟨rfl,fun af A outer s hr=>?_⟩;obtain ⟨dxk,d1,d2,al⟩:=KA.ins
 refine ⟨_,AE (AU (Dq ["self"] [some 0] (by kernel_rfl) (by decide +kernel) (by kernel_rfl) (by kernel_rfl) rfl (A2 (Ah (At (pv 0) rfl) T.cl mM GM hr bM .nil AN))
  (fun _ _ _ _ _ _=>FW (AY Dk (Af DL (pv 1) (OG K rfl (pv 2) rfl)) AK (Ad _))) (fun _ _ _ _ _ _=>pv 0))),?_⟩
 refine ⟨_,rfl,p,VC,dx,_,_,rfl,hp,VT.cl,VT.nK,Fz _ _,kp,dxk,_,rfl,al,(Bj _ _ _),kp,due,r,rfl,KA,h60,fun l as H1 s1 hl ht=>?_⟩;have bf:=BE due;have bh:as.length=(AJ due).length:=by rw [ht.length]; unfold Br; rw [AF]
 refine ⟨l,rfl,⟨_,SqL.of hl⟩,BR (K:=K) (a:=l) (xs:=as.map V.ref) (fun i ys H2=>ys=((((AJ due).take i).filter fun m=>decide (m &&& n ≠ 0)).map (BL (AT due))).map V.str/\H2=H1) ⟨rfl,rfl⟩ (fun i ys H2 _ ⟨_,e⟩=>e ▸ SqL.of hl) (fun i ys H2 ⟨e,_⟩=>?_) ?_ ?_⟩
 ·rw [e,AF,AF];have h3:(((AJ due).take i).filter fun m=>decide (m &&& n ≠ 0)).length <= ((AJ due).take i).length:=length_filter_le _ _;rw [length_take] at h3;omega
 ·rintro i v ys H2 hi ⟨rfl,rfl⟩;rw [getElem?_map] at hi;obtain ⟨b,hb,rfl⟩:=Option.map_eq_some_iff.mp hi
  obtain ⟨pr,hpr,av⟩:∃ pr,(Br due)[i]?=some pr/\H2 b=some (.tup [pr.1,pr.2]):=by
   exact Gj ht hb
  unfold Br at hpr;rw [getElem?_map] at hpr;obtain ⟨m,hm,rfl⟩:=Option.map_eq_some_iff.mp hpr;refine ⟨b,_,rfl,SqT.of av,rfl,_,_,rfl,_,_,rfl,rfl,?_⟩;refine ⟨_,rfl,_,rfl,p,VC,dx,_,_,rfl,s1 _ _ hp,VT.cl,VT.nB,F0 _ _,_,_,rfl,rfl,rfl,_,rfl,?_⟩;have et:(((AJ due).take (i + 1)).filter fun m=>decide (m &&& n ≠ 0))=((AJ due).take i).filter (fun m=>decide (m &&& n ≠ 0))++(if decide (m &&& n ≠ 0) then [m] else []):=PySem.take_succ_filter (fun m=>decide (m &&& n ≠ 0)) _ i m hm
  have ed:(!decide (V.int (Builtin.bitAnd (m:Int) (n:Int))=V.int 0))=decide (m &&& n ≠ 0):=by
   rw [CW];by_cases z:m &&& n=0
   ·rw [z]; rfl
   ·rw [decide_eq_true z,decide_eq_false (fun y=>z (by have:=V.int.inj y; omega))]; rfl
  show if (!decide (V.int (Builtin.bitAnd (m:Int) (n:Int))=V.int 0))=true then _ else _
  rw [ed];refine Bp (fun hq=>?_) (fun hq=>?_)
  ·refine ⟨_,rfl,?_,rfl⟩;rw [et,if_pos hq,map_append,map_append];rfl
  ·refine ⟨?_,rfl⟩;rw [et,if_neg hq,append_nil]
 ·rintro ys H2 ⟨rfl,rfl⟩ q hq;have el:(AJ due).take (as.map V.ref).length=AJ due:=by rw [AF,bh]; exact take_length
  rw [el];exact k q _ (AD s1 hq) AB
def FH (C:Addr):Sp:=fun vs H Q _=>∃ (kp:Addr) (due:Aa) (r:Str),vs=[.ref kp]/\KindAt C H kp due r/\due.length <= 60/\∀ H',Same H H'->Q (.int (AQ (AJ due):Nat)) H'
theorem NY:AM ["kind"] ["kind"] (defScope GJ):=fsc
theorem MH (F:Fun K "mark_bits" "mark_bits" GJ f fd) (T:Dh K C) (GM:Mt P w K mg base C "marks" 2 ["self"] (Fs C)) (GU:Fn P w K mg base "union_of" 1 ["numbers"] (CB K)):Ac P w K mg base CX0 3 f fd ["kind"] (FH C):=by
 obtain ⟨fM,dM,GM,mM,bM⟩:=GM.ex;obtain ⟨fU,dU,GU,mU,kU,bU⟩:=GU.ex;refine F.m NY fun vs H Q E h=>?_;obtain ⟨kp,due,r,rfl,KA,h60,k⟩:=h;refine ⟨rfl,fun af A outer s hr=>?_⟩;obtain ⟨dxk,d1,d2,al⟩:=KA.ins;have hr1:Room 1 _:=hr.mono (by decide);refine ⟨_,AE (AU (AL GU hr1 rfl mU kU bU .nil AN (AA (Dq [] [] (by kernel_rfl) (by decide +kernel) (by kernel_rfl) (by kernel_rfl) rfl (A2 (Ah (pv 0) T.cl mM GM hr bM .nil AN)) (fun _ _ _ _ _ _=>BF) (fun _ _ _ _ _ _=>pv 1)) AC))),?_⟩;refine ⟨_,rfl,kp,dxk,_,rfl,al,(Bj _ _ _),kp,due,r,rfl,KA,h60,fun l as H1 s1 hl ht=>?_⟩;have bf:=BE due;have bh:as.length=(AJ due).length:=by rw [ht.length]; unfold Br; rw [AF]
 refine ⟨l,rfl,⟨_,SqL.of hl⟩,BR (K:=K) (a:=l) (xs:=as.map V.ref) (fun i ys H2=>ys=A4 ((AJ due).take i)/\H2=H1) ⟨rfl,rfl⟩ (fun i ys H2 _ ⟨_,e⟩=>e ▸ SqL.of hl) (fun i ys H2 ⟨e,_⟩=>?_) ?_ ?_⟩
 ·rw [e]; unfold A4; rw [AF,length_take]; omega
 ·rintro i v ys H2 hi ⟨rfl,rfl⟩;rw [getElem?_map] at hi;obtain ⟨b,hb,rfl⟩:=Option.map_eq_some_iff.mp hi;obtain ⟨pr,hpr,av⟩:∃ pr,(Br due)[i]?=some pr/\H2 b=some (.tup [pr.1,pr.2]):=Gj ht hb;unfold Br at hpr;rw [getElem?_map] at hpr;obtain ⟨m,hm,rfl⟩:=Option.map_eq_some_iff.mp hpr;refine ⟨b,_,rfl,SqT.of av,rfl,_,_,rfl,_,_,rfl,rfl,_,rfl,?_,rfl⟩;rw [take_add_one,hm,Option.toList_some];unfold A4;rw [map_append];rfl
 ·rintro ys H2 ⟨rfl,rfl⟩ q hq;have el:(AJ due).take (as.map V.ref).length=AJ due:=by rw [AF,bh]; exact take_length
  rw [el];exact ⟨q,AJ due,rfl,SqL.of AB,k _ (AD s1 hq)⟩
def HL (C VC:Addr):Sp:=fun vs H Q _=>∃ (p kp:Addr) (n:Nat) (due:Aa) (r:Str),vs=[.ref p]/\ValAt VC H p kp n/\KindAt C H kp due r/\due.length <= 60/\∀ H',Same H H'->Q (.int ((n - (n &&& AQ (AJ due)):Nat):Int)) H'
theorem Tb:AM ["self"] ["self"] (defScope E2):=fsc
theorem Ro (F:Fun K "rest" "Value.rest" E2 f fd) (VT:Ik K VC) (GB:Fn P w K mg base "mark_bits" 3 ["kind"] (FH C)):Ac P w K mg base CX0 4 f fd ["self"] (HL C VC):=by
 obtain ⟨fB,dB,GB,mB,kB,bB⟩:=GB.ex;refine F.m Tb fun vs H Q E h=>?_;obtain ⟨p,kp,n,due,r,rfl,⟨dx,hp⟩,KA,h60,k⟩:=h;refine ⟨rfl,fun af A outer s hr=>?_⟩;refine ⟨_,AE (AU (Af DL (At (pv 0) rfl) (K4 Mj (AL GB hr rfl mB kB bB .nil AN (AA (At (pv 0) rfl) AC))))),?_⟩;refine ⟨_,rfl,p,VC,dx,_,_,rfl,hp,VT.cl,VT.nB,F0 _ _,_,rfl,p,VC,dx,_,_,rfl,hp,VT.cl,VT.nK,Fz _ _,kp,due,r,rfl,KA,h60,fun H1 s1=>⟨_,rfl,_,_,rfl,rfl,?_⟩⟩;show Q (V.int (Builtin.bitAnd (n:Int) (Builtin.bitNot ((AQ (AJ due):Nat):Int)))) H1;rw [Et];exact k H1 s1
end
section
def FI:Sp:=fun vs H Q _=>∃ (d:Addr) (a b:Int) (m:Nat) (r:Str),vs=[.ref d,.int (m:Int),.str r]/\H d=some (.lst [.int a,.int b]) /\
 ∀ (n:Nat) H',n < 2 ^ 40->(r = "keep" \/ n - (n &&& m)=0)->SameX d H H'->Q (.int (n:Int)) H'
theorem scNumberIn:AM ["_law_dice", "_law_known", "_law_way", "_law_number"] ["_law_dice", "_law_known", "_law_way"] (defScope DZ):=fsc
theorem DD {d:Addr} {x y x' y':Int} (h:H d=some (.lst [.int x,.int y])):SameX d H (upd H d (.lst [.int x',.int y'])):=⟨fun b o e hb=>by rw [AH hb]; exact e,⟨x',y',AB⟩⟩
theorem MJ (F:Fun K "_law_number_in" "_law_number_in" DZ f fd) (GR:Fn P w K mg base "_law_roll" 2 ["_law_dice", "_law_many"] FA):Ac P w K mg base CX0 3 f fd ["_law_dice", "_law_known", "_law_way"] FI:=by
 obtain ⟨fR,dR,GR,mR,kR,bR⟩:=GR.ex;refine F.m scNumberIn fun vs H Q E h=>?_;obtain ⟨d,a,b,m,r,rfl,hd,k⟩:=h;refine ⟨rfl,fun af A outer s hr=>?_⟩
 refine ⟨_,AG (Ai (i:=3) scNumberIn.nd rfl (Or.inl rfl) (Af DL (AL GR hr rfl mR kR bR .nil AN (AA (pv 0) (AA (Af Mi AK AK) AC))) (pv 1)))
  (BV (An (PW.pt (Di (AY Dj (pv 2) Ag (Ad _)) (Cl (AY Dj (AL GR hr rfl mR kR bR .nil AN (AA (pv 0) (AA AK AC))) AK (Ad _)))))
    (AE (Ai (i:=3) scNumberIn.nd rfl (Or.inl rfl) (Af K5 (pv 3) (AL GR hr rfl mR kR bR .nil AN (AA (pv 0) (AA AK AC)))))) AW)
  (AE (AU (pv 3)))),?_⟩
 refine ⟨_,rfl,_,_,rfl,rfl,⟨by decide,by decide,by decide⟩,d,a,b,_,rfl,hd,by decide,by decide,fun x a1 b1 hx0 hx1=>?_⟩;refine ⟨_,rfl,_,_,rfl,rfl,?_⟩;obtain ⟨x,rfl⟩:∃ x':Nat,x=(x':Int):=⟨x.toNat,by omega⟩
 have hx1':x < 2 ^ 21:=by
  have:(x:Int) < 2 ^ (21:Int).toNat:=hx1;have e:(2:Int) ^ (21:Int).toNat=2097152:=by decide
  rw [e] at this;have e2:(2:Nat) ^ 21=2097152:=by decide
  omega
 have s1:SameX d H (upd H d (.lst [.int a1,.int b1])):=DD hd;have ea:(fun i j=>V.int (Builtin.bitAnd i j)) (x:Int) (m:Int)=V.int ((x &&& m:Nat):Int):=congrArg V.int (CW _ _);rw [ea];have hle:x &&& m <= x:=Nat.and_le_left;refine ⟨fun σ H1=>∃ n:Nat,σ=[some (.ref d),some (.int (m:Int)),some (.str r),some (.int (n:Int))]/\n < 2 ^ 40/\(r = "keep" \/ n - (n &&& m)=0)/\SameX d H H1,fun R hR=>?_,?_⟩
 ·have g1:x &&& m < 2 ^ 40:=by
   have:(2:Nat) ^ 21 < 2 ^ 40:=by decide
   omega
  have stop:∀ H1,SameX d H H1->R [some (.ref d),some (.int (m:Int)),some (.str r),some (.int ((x &&& m:Nat):Int))] H1:=fun H1 sx=>hR _ _ ⟨_,rfl,g1,.inr (Im x m),sx⟩;refine ⟨_,rfl,rfl,_,rfl,?_⟩;by_cases hk:r = "keep"
  ·rw [decide_eq_true (show V.str r=V.str "keep" by rw [hk])];refine Bo ?_;refine ⟨_,rfl,d,a1,b1,3,rfl,AB,by decide,by decide,fun y a2 b2 hy0 hy1=>?_⟩;have s2:=s1.trans (DD (x':=a2) (y':=b2) AB);refine ⟨rfl,_,rfl,?_⟩;refine Bp (fun hc=>?_) (fun hc=>stop _ s2);refine ⟨_,rfl,_,rfl,d,a2,b2,256,rfl,AB,by decide,by decide,fun z a3 b3 hz0 hz1=>?_⟩;obtain ⟨z,rfl⟩:∃ z':Nat,z=(z':Int):=⟨z.toNat,by omega⟩;refine ⟨_,_,rfl,rfl,?_⟩;have eo:(fun i j=>V.int (Builtin.bitOr i j)) ((x &&& m:Nat):Int) (z:Int)=V.int (((x &&& m) ||| z:Nat):Int):=congrArg V.int (DR _ _);refine hR _ _ ⟨(x &&& m) ||| z,?_,?_,.inl hk,s2.trans (DD AB)⟩
   ·show [some (V.ref d),some (V.int (m:Int)),some (V.str r),some ((fun i j=>V.int (Builtin.bitOr i j)) ((x &&& m:Nat):Int) (z:Int))]=_;rw [eo]
   ·refine Nat.or_lt_two_pow g1 ?_;have:(256:Nat) < 2 ^ 40:=by decide
    omega
  ·rw [decide_eq_false (show ¬ V.str r=V.str "keep" from fun z=>hk (V.str.inj z))];exact Aw (Aw (stop _ s1))
 ·rintro σ H1 ⟨n,rfl,h1,h2,sx⟩;exact ⟨_,rfl,k n H1 h1 h2 sx⟩
end
section
theorem Ip {ns:List Str} (hs:∀ x ∈ ns,x ∈ due.map (·.1)):AQ (ns.map (look due)) - (AQ (ns.map (look due)) &&& kn due)=0:=by
 have h:AQ (ns.map (look due)) &&& kn due=AQ (ns.map (look due)):=by
  refine Nat.eq_of_testBit_eq fun k=>?_;rw [Nat.testBit_and];cases e:(AQ (ns.map (look due))).testBit k with
  | false=>rfl
  | true =>
   rw [A9,any_map,any_eq_true] at e;obtain ⟨x,hx,hb⟩:=e;simp only [Function.comp] at hb
   have:(kn due).testBit k=true:=by
    unfold kn;rw [A9,any_map,any_eq_true];unfold look at hb;cases q:due.find? fun p=>decide (p.1=x) with
    | none=>rw [q] at hb; simp at hb
    | some p=>rw [q] at hb; exact ⟨p,List.mem_of_find?_eq_some q,hb⟩
   rw [this]; rfl
 omega
theorem Iq {ns:List Str} (h:∀ p ∈ due,p.2 < 2 ^ 20):AQ (ns.map (look due)) < 2 ^ 20:=by
 refine Fh fun n hn=>?_;obtain ⟨x,_,rfl⟩:=mem_map.mp hn;unfold look;cases q:due.find? fun p=>decide (p.1=x) with
 | none=>show 0 < 2 ^ 20; decide
 | some p=>exact h p (List.mem_of_find?_eq_some q)
def Rp (C VC:Addr):Sp:=fun vs H Q _=>∃ (kp l:Addr) (due:Aa) (r:Str) (ns:List Str),vs=[.ref kp,.ref l]/\KindAt C H kp due r/\H l=some (.lst (ns.map V.str))/\ns.length <= 200/\(∀ x ∈ ns,x ∈ due.map (·.1))/\(∀ p ∈ due,p.2 < 2 ^ 20) /\
 ∀ q H',Same H H'->ValAt VC H' q kp (AQ (ns.map (look due)))->Q (.ref q) H'
theorem Jz:AM ["kind", "names"] ["kind", "names"] (defScope Fi):=fsc
theorem NZ (F:Fun K "value_of" "value_of" Fi f fd) (B:Bl mg) (T:Dh K C) (VO:Lz P w K mg base C VC) (GU:Fn P w K mg base "union_of" 1 ["numbers"] (CB K)) (GNu:Mt P w K mg base C "number" 2 ["self", "name"] (Fv C)) :
  Ac P w K mg base CX0 6 f fd ["kind", "names"] (Rp C VC):=by
 obtain ⟨fU,dU,GU,mU,kU,bU⟩:=GU.ex;obtain ⟨fN,dN,GN,mN,bN⟩:=GNu.ex;obtain ⟨fI,dI,MI,GI,bI⟩:=VO.make;have mV:=VO.cls;refine F.m Jz fun vs H Q E h=>?_;obtain ⟨kp,l,due,r,ns,rfl,KA,hl,hn,hs,hlt,k⟩:=h;refine ⟨rfl,fun af A outer s hr=>?_⟩;have hr1:Room 1 _:=hr.mono (by decide);have hr2:Room 2 _:=hr.mono (by decide);obtain ⟨dxk,d1,d2,al⟩:=KA.ins;have hnl:(ns.map V.str).length=ns.length:=AF _
 have step:∀ (Hx:Hp),Same H Hx->∀ (i:Nat) (v:V) (ys:List V),(ns.map V.str)[i]?=some v->ys=A4 ((ns.take i).map (look due))->∃ x,v=V.str x/\x ∈ due.map (·.1)/\ys++[V.int (look due x:Nat)]=A4 ((ns.take (i + 1)).map (look due)):=by
  intro Hx sx i v ys hi e;rw [getElem?_map] at hi;obtain ⟨x,hx,rfl⟩:=Option.map_eq_some_iff.mp hi;refine ⟨x,rfl,hs x (mem_of_getElem? hx),?_⟩;rw [e,take_add_one,hx,Option.toList_some,map_append];unfold A4;rw [map_append];rfl
 have el:ns.take (ns.map V.str).length=ns:=by rw [hnl]; exact take_length
 refine ⟨_,AG (An (BU (BG (AZ (Hv K rfl) rfl B.isi D5 (AA (pv 1) (AA (A6 (AA (EM (v:=.ty "list") rfl B.list Ct rfl) (AA (EM (v:=.ty "tuple") rfl B.tuple BY rfl) AC))) AC))))) (AE Ao) AW)
  (AE (AU (Cq MI GI hr rfl mV bI .nil AN (AA (pv 0) (AA (AL GU hr1 rfl mU kU bU .nil AN (AA (BB ["kind"] [some 0] (by kernel_rfl) (by decide +kernel) (by kernel_rfl) rfl (A2 (pv 1)) (fun _ _ _ _ _ _=>BF) (fun _ _ _ _ _ _=>CV (pv 1) T.cl mN GN hr2 bN .nil AN (AA (pv 0) AC))) AC)) AC))))),?_⟩
 refine ⟨_,rfl,sl2,fun t ht=>?_⟩;have s1:=AD (Same.refl _) ht (o:=HO.tup [V.ty "list", V.ty "tuple"]);refine ⟨l,t,_,rfl,.inl (s1 _ _ hl),SqT.of AB,_,rfl,?_⟩;refine Aw ?_;refine ⟨_,rfl,_,rfl,l,rfl,⟨_,SqL.of (s1 _ _ hl)⟩,BR (K:=K) (a:=l) (xs:=ns.map V.str) (fun i ys H2=>ys=A4 ((ns.take i).map (look due))/\H2=upd H t (.tup [V.ty "list", V.ty "tuple"])) ⟨rfl,rfl⟩ (fun i ys H2 _ ⟨_,e⟩=>e ▸ SqL.of (s1 _ _ hl)) (fun i ys H2 ⟨e,_⟩=>?_) ?_ ?_⟩
 ·rw [e]; unfold A4; rw [AF,AF,length_take]; omega
 ·rintro i v ys H2 hi ⟨e,rfl⟩;obtain ⟨x,rfl,hx,ey⟩:=step _ s1 i v ys hi e;exact ⟨_,rfl,kp,dxk,_,rfl,s1 _ _ al,(Bj _ _ _),_,rfl,kp,due,r,x,rfl,KA.same s1,hx,ey,rfl⟩
 ·rintro ys H2 ⟨rfl,rfl⟩ p hp;rw [el];have s2:=s1.trans (AD (Same.refl _) hp (o:=HO.lst (A4 (ns.map (look due)))));refine ⟨p,ns.map (look due),rfl,SqL.of AB,?_⟩;intro q dq hq hdq bn;have sN:=Bf (D:=VC) hq hdq bn;refine ⟨q,dq,kp,due,r,AQ (ns.map (look due)),rfl,AB,(KA.same s2).same sN,?_,.inr (Ip hs),fun H3 s3 hV=>⟨rfl,?_⟩⟩
  ·have:=Iq (ns:=ns) hlt;have h2:(2:Nat) ^ 20 < 2 ^ 40:=by decide
   omega
  ·exact k q H3 (s2.trans (BS sN hq s3)) hV
end
theorem Kr:bootBuiltins "dict" = some (.type "dict"):=by decide +kernel
abbrev Ent:=Str × Addr × List Str
noncomputable def kvT (es:List Ent):LK:=es.map fun q=>((Sum.inr q.1:Key),V.ref q.2.1)
def EntA (H:Hp) (a:Addr) (q:Ent):Prop:=H a=some (.tup [.str q.1,.ref q.2.1])/\H q.2.1=some (.tup (q.2.2.map V.str))
theorem EntA.same {a:Addr} {q:Ent} (s:∀ b xs,H b=some (.tup xs)->H' b=some (.tup xs)) (h:EntA H a q):EntA H' a q:=⟨s _ _ h.1,s _ _ h.2⟩
noncomputable def Gk (due:Aa):LK:=(AJ due).map fun n=>((Sum.inr (BL (AT due) n):Key),V.int (n:Int))
noncomputable def kM (due:Aa):LK:=B1 [] (Gk due)
noncomputable def kN (due:Aa):LK:=B1 [] (Az due)
noncomputable def JP (told:LK) (ys:LK) (kv:Key × V):LK:=match Au told kv.1 with | some v=>BM ys kv.1 v | none=>ys
noncomputable def F2 (km told:LK):LK:=km.foldl (JP told) []
theorem Rq (told ys:LK) (kv:Key × V):(JP told ys kv).length <= ys.length + 1:=by
 unfold JP;split
 ·exact Bb _ _ _
 ·omega
theorem ML (told:LK):∀ (km ys:LK),(km.foldl (JP told) ys).length <= ys.length + km.length
 | [],ys=>Nat.le_refl _
 | kv :: r,ys=>by
  have h1:=ML told r (JP told ys kv);have h2:=Rq told ys kv;rw [foldl_cons,length_cons];omega
theorem Na {km told:LK} {i:Nat} {kv:Key × V} (h:km[i]?=some kv):F2 (km.take (i + 1)) told=JP told (F2 (km.take i) told) kv:=by
 unfold F2;rw [take_add_one,h,foldl_append];rfl
theorem U1 (due:Aa):(kM due).length <= due.length:=by
 have h1:=IE (Gk due) [];have h2:=BE due;have h3:(Gk due).length=(AJ due).length:=AF _;unfold kM;rw [length_nil] at h1;omega
theorem Rr {as:List Addr} {ps:LK} (t:TupsAt H as (ps.map fun q=>(kV q.1,q.2))):as.length=ps.length/\∀ (i:Nat) b q,as[i]?=some b->ps[i]?=some q->SqT K H b [kV q.1,q.2]:=by
 refine ⟨by rw [t.length,AF],fun i b q hb hq=>?_⟩;obtain ⟨p,hp,h⟩:=Bt t hb;rw [getElem?_map,hq] at hp;cases hp;exact SqT.of h
theorem Rs (due:Aa):Br due=(Gk due).map fun q=>(kV q.1,q.2):=by
 unfold Br Gk;rw [map_map];rfl
theorem MM:∀ {as:List Addr} {es:List Ent},Paired (EntA H) as es->TupsAt H as ((kvT es).map fun q=>(kV q.1,q.2))
 | _,_,.nil=>.nil
 | _,_,.cons q p=>.cons q.1 (MM p)
section
def Rt:Sp:=fun vs H Q _=>∃ (a dm dn:Addr) (km kn:LK) (q:Ent),vs=[.ref a,.ref dm,.ref dn]/\Rd H dm (.dK km)/\Rd H dn (.dK kn)/\EntA H a q/\(Au km (Sum.inr q.1:Key)).isSome=true/\q.2.2.length <= 1000/\(∀ y ∈ q.2.2,(Au kn (Sum.inr y:Key)).isSome=true)/\∀ H',Same H H'->Q (.bl true) H'
theorem Vz:AM ["thing", "marks", "names"] ["thing", "marks", "names"] (defScope IK):=fsc
theorem U2 (F:Fun K "is_entry" "is_entry" IK f fd) (B:Bl mg) (GO:Fn P w K mg base "is_one_of" 1 ["thing", "names"] (Ca K)):Ac P w K mg base CX0 2 f fd ["thing", "marks", "names"] Rt:=by
 obtain ⟨fO,dO,GO,mO,kO,bO⟩:=GO.ex;refine F.m Vz fun vs H Q E h=>?_;obtain ⟨a,dm,dn,km,kn,⟨x,c,ns⟩,rfl,hm,hn,⟨ha,hc⟩,h1,hl,h2,k⟩:=h;refine ⟨rfl,fun af A outer s hr=>?_⟩;have hl':ns.length <= 1000:=hl;have hu:=Cr hr
 refine ⟨_,AG (An (PW.pt (Cm (BU (BG (Bi K rfl rfl B.isi rfl B.tuple BY (pv 0)))) (Cm (AY Dk (AZ (BI K rfl) rfl B.len PySem.boot_len (AA (pv 0) AC)) AK (Ad _))
   (CS (BU (BG (Bi K rfl rfl B.isi rfl B.tuple BY (Bm (Db K rfl) (pv 0) AK (fun _ _=>rfl))))))))) (AE Ao) AW)
  (AE (AU (Cc (AL GO hr rfl mO kO bO .nil AN (AA (Bm (Db K rfl) (pv 0) AK (fun _ _=>rfl)) (AA (pv 1) AC)))
   (DJ (AZ (Fb rfl) rfl B.all Ki (AA (BB ["names"] [some 2] (by kernel_rfl) (by decide +kernel) (by kernel_rfl) rfl (HU (Bm (Db K rfl) (pv 0) AK (fun _ _=>rfl))) (fun _ _ _ _ _ _=>BF)
    (fun _ _ _ _ _ _=>AL GO hr rfl mO kO bO .nil AN (AA (pv 0) (AA (pv 1) AC)))) AC)))))),?_⟩
 refine ⟨_,rfl,_,_,_,true,rfl,.tup ha,rfl,_,rfl,Aw ?_⟩;refine ⟨_,rfl,a,_,rfl,.inr (SqT.of ha),rfl,_,rfl,?_⟩;refine N2 rfl ?_;refine ⟨_,rfl,a,_,_,_,rfl,rfl,SqT.of ha,rfl,_,_,_,true,rfl,.tup hc,rfl,_,rfl,Aw ?_⟩;refine ⟨_,rfl,a,_,_,_,rfl,rfl,SqT.of ha,rfl,_,rfl,.inl ⟨x,dm,km,rfl,hm,_,rfl,?_⟩⟩;rw [h1];refine Bo ?_;refine ⟨_,rfl,a,_,_,_,rfl,rfl,SqT.of ha,rfl,c,rfl,⟨_,SqT.of hc⟩,FY (K:=K) (a:=c) (xs:=ns.map V.str) (fun i zs H2=>H2=H/\zs=(ns.take i).map fun _=>V.bl true) ⟨rfl,rfl⟩ (fun i zs H2 _ ⟨e,_⟩=>e ▸ SqT.of hc) (fun i zs H2 ⟨_,e⟩=>by rw [e,AF,length_take]; omega) ?_ ?_⟩
 ·rintro i z zs H2 hi ⟨rfl,rfl⟩;rw [getElem?_map] at hi;obtain ⟨y,hy,rfl⟩:=Option.map_eq_some_iff.mp hi;refine ⟨_,rfl,_,rfl,.inl ⟨y,dn,kn,rfl,hn,rfl,?_⟩⟩;rw [h2 y (mem_of_getElem? hy),take_add_one,hy,map_append];rfl
 ·rintro zs H2 ⟨rfl,rfl⟩ q hq;refine ⟨q,(ns.take (ns.map V.str).length).map fun _=>true,rfl,SqL.of (by rw [AB,map_map]; rfl),?_⟩;rw [show (((ns.take (ns.map V.str).length).map fun _=>true).all id)=true by rw [all_map]; exact List.all_eq_true.mpr fun _ _=>rfl];exact k _ (AD (Same.refl _) hq)
structure Prs (due ac:Aa) (H:Hp) (l:Addr) (es:List Ent):Prop where
 at_:∃ as:List Addr,H l=some (.lst (as.map V.ref))/\Paired (EntA H) as es
 len:es.length <= 100
 nd:(es.map (·.1)).Nodup
 mr:∀ q ∈ es,(Au (kM due) (Sum.inr q.1:Key)).isSome=true
 nm:∀ q ∈ es,q.2.2.length <= 18/\∀ y ∈ q.2.2,(Au (kN ac) (Sum.inr y:Key)).isSome=true
theorem Gm:∀ (ps kvs:LK),(ps.map (·.1)).Nodup->(∀ k ∈ ps.map (·.1),Au kvs k=none)->B1 kvs ps=kvs++ps
 | [],kvs,_,_=>(append_nil _).symm
 | p :: r,kvs,hn,hk=>by
  rw [map_cons,nodup_cons] at hn;have e:BM kvs p.1 p.2=kvs++[(p.1,p.2)]:=Do p.2 (hk _ (mem_cons_self ..));show B1 (BM kvs p.1 p.2) r=_;rw [Gm r _ hn.2 fun k hkr=>?_,e,List.append_assoc]
  ·rfl
  ·rw [Hj,if_neg (show ¬ k=p.1 from fun z=>hn.1 (z ▸ hkr))];exact hk k (mem_cons_of_mem _ hkr)
theorem Cy {α β:Type} {f:α->β}:∀ {l:List α},l.Nodup->(∀ a ∈ l,∀ b ∈ l,f a=f b->a=b)->(l.map f).Nodup
 | [],_,_=>nodup_nil
 | a :: r,hn,h=>by
  rw [nodup_cons] at hn;rw [map_cons,nodup_cons];refine ⟨fun z=>?_,Cy hn.2 fun b hb c hc=>h b (mem_cons_of_mem _ hb) c (mem_cons_of_mem _ hc)⟩;obtain ⟨b,hb,e⟩:=mem_map.mp z;exact hn.1 (h a (mem_cons_self ..) b (mem_cons_of_mem _ hb) e.symm ▸ hb)
theorem Ru {es:List Ent} (h:(es.map (·.1)).Nodup):((kvT es).map (·.1)).Nodup:=by
 have e:(kvT es).map (·.1)=(es.map (·.1)).map (fun x=>(Sum.inr x:Key)):=by unfold kvT; rw [map_map,map_map]; rfl
 rw [e];exact Cy h fun a _ b _ e=>Sum.inr.inj e
theorem Rv {es:List Ent} (h:(es.map (·.1)).Nodup):B1 [] (kvT es)=kvT es:=by
 rw [Gm _ _ (Ru h) fun _ _=>rfl,nil_append]
def Rw (C:Addr):Sp:=fun vs H Q _=>∃ (k o l:Addr) (due ac:Aa) (r r2:Str) (es:List Ent),vs=[.ref k,.ref o,.ref l]/\KindAt C H k due r/\due.length <= 60/\KindAt C H o ac r2/\ac.length <= 60/\Prs due ac H l es /\
 ∀ d H',Same H H'->H d=none->H' d=some (.dK (F2 (kM due) (kvT es)))->Q (.ref d) H'
theorem scTab:AM ["kind", "other", "pairs", "marks", "names", "told"] ["kind", "other", "pairs"] (defScope IL):=fsc
theorem U3 (F:Fun K "table_of" "table_of" IL f fd) (B:Bl mg) (hD:mg "dict" = none) (T:Dh K C) (GM:Mt P w K mg base C "marks" 2 ["self"] (Fs C)) (GR:Mt P w K mg base C "rows" 1 ["self"] (IY C)) (GE:Fn P w K mg base "is_entry" 2 ["thing", "marks", "names"] Rt) :
  Ac P w K mg base CX0 3 f fd ["kind", "other", "pairs"] (Rw C):=by
 obtain ⟨fM,dM,GM,mM,bM⟩:=GM.ex;obtain ⟨fR,dR,GR,mR,bR⟩:=GR.ex;obtain ⟨fE,dE,GE,mE,kE,bE⟩:=GE.ex;refine F.m scTab fun vs H Q E h=>?_;obtain ⟨k,o,l,due,ac,r,r2,es,rfl,KA,h60,KB,h60',PR,q⟩:=h;refine ⟨rfl,fun af A outer s hr=>?_⟩;have hu:=Cr hr;have hr2:Room 1 _:=hr.mono (by decide)
 refine ⟨_,AG (Ai (i:=3) scTab.nd rfl (Or.inr rfl) (BH (Es rfl) rfl hD Kr (AA (Ah (pv 0) T.cl mM GM hr bM .nil AN) AC)))
  (Cf (AG (Ai (i:=4) scTab.nd rfl (Or.inr rfl) (BH (Es rfl) rfl hD Kr (AA (Ah (pv 1) T.cl mR GR hr2 bR .nil AN) AC)))
  (AG (An (PW.pt (Cm (BU (BG (Bi K rfl rfl B.isi rfl B.list Ct (pv 2)))) (CS (BU (BG (AZ (Fb rfl) rfl B.all Ki (AA (BB ["marks", "names"] [some 3,some 4] (by kernel_rfl) (by decide +kernel) (by kernel_rfl) rfl (A2 (pv 2)) (fun _ _ _ _ _ _=>BF)
    (fun _ _ _ _ _ _=>AL GE hr rfl mE kE bE .nil AN (AA (pv 0) (AA (pv 1) (AA (pv 2) AC))))) AC))))))) (AE Ao) AW)
  (AG (Ai (i:=5) scTab.nd rfl (Or.inr rfl) (BH (Es rfl) rfl hD Kr (AA (pv 2) AC)))
  (AG (An (AY Nu (AZ On rfl B.len PySem.boot_len (AA (pv 5) AC)) (AZ (BI K rfl) rfl B.len PySem.boot_len (AA (pv 2) AC)) (Ad _)) (AE Ao) AW)
  (AE (AU (PB ["told"] [some 5] (by kernel_rfl) (by decide +kernel) (by kernel_rfl) rfl (OE (pv 3)) (fun _ _ _ _ _ _=>FW (DI (KK hu (pv 0) (pv 1)))) (fun _ _ _ _ _ _=>pv 0) (fun _ _ _ _ _ _=>BJ hu (pv 1) (pv 0) (fun _ _=>rfl)))))))))),?_⟩
 obtain ⟨dk,e1,e2,hk⟩:=KA.ins;obtain ⟨dq,g1,g2,ho⟩:=KB.ins;obtain ⟨as,hl,hps⟩:=PR.at_;have bh:as.length=es.length:=hps.length;have hz:=PR.len;refine ⟨_,rfl,k,dk,_,rfl,hk,(Bj _ _ _),k,due,r,rfl,KA,h60,fun l1 as1 H1 s1 hl1 ht1=>?_⟩;rw [Rs] at ht1;obtain ⟨n1,q1⟩:=Rr (K:=K) ht1
 have z1:(Gk due).length <= 1000:=by
  have h3:(Gk due).length=(AJ due).length:=AF _;have:=BE due;omega
 refine ⟨l1,as1,Gk due,rfl,SqL.of hl1,n1,z1,q1,fun dm hdm=>?_⟩;refine ⟨dm,kM due,AB,fun om=>?_⟩;rw [HC];have s2:Same H (upd H1 dm (.frz om (.dK (kM due)))):=AD s1 hdm;refine ⟨_,rfl,o,dq,_,rfl,s2 _ _ ho,(Bj _ _ _),o,ac,r2,rfl,KB.same s2,fun l3 as3 H3 s3 hl3 ht3=>?_⟩;rw [← OJ] at ht3;obtain ⟨n3,q3⟩:=Rr (K:=K) ht3;refine ⟨l3,as3,Az ac,rfl,SqL.of hl3,n3,by rw [EV]; omega,q3,fun dn hdn=>?_⟩;have s4:Same H (upd H3 dn (.dK (kN ac))):=AD (s2.trans s3) hdn
 have hm4:(upd H3 dn (.dK (kN ac))) dm=some (.frz om (.dK (kM due))):=by
  have:=s3 _ _ (AB (H:=H1) (a:=dm) (o:=.frz om (.dK (kM due))));rw [AH (AI this hdn)];exact this
 have hn4:(upd H3 dn (.dK (kN ac))) dn=some (.dK (kN ac)):=AB;rw [show B1 [] (Az ac)=kN ac from rfl];generalize upd H3 dn (.dK (kN ac))=H4 at s4 hm4 hn4 ⊢;refine ⟨_,rfl,_,_,_,true,rfl,.lst (s4 _ _ hl),rfl,_,rfl,Aw ?_⟩;refine ⟨_,rfl,l,rfl,⟨_,SqL.of (s4 _ _ hl)⟩,BR (K:=K) (a:=l) (xs:=as.map V.ref) (fun i ys H5=>Same H4 H5/\ys=(as.take i).map fun _=>V.bl true) ⟨Same.refl _,rfl⟩ (fun i ys H5 _ ⟨e,_⟩=>SqL.of (e _ _ (s4 _ _ hl))) (fun i ys H5 ⟨_,e⟩=>by rw [e,AF,length_take]; omega) ?_ ?_⟩
 ·rintro i z ys H5 hi ⟨s5,rfl⟩;rw [getElem?_map] at hi;obtain ⟨a,ha,rfl⟩:=Option.map_eq_some_iff.mp hi;obtain ⟨en,hen,hE⟩:=Bt hps ha;have cg:=mem_of_getElem? hen;refine ⟨_,rfl,_,rfl,_,rfl,a,dm,dn,kM due,kN ac,en,rfl,.inr ⟨om,s5 _ _ hm4⟩,.inl (s5 _ _ hn4),hE.same (fun b xs e=>s5 _ _ (s4 _ _ e)),PR.mr _ cg,by have:=(PR.nm _ cg).1; omega,(PR.nm _ cg).2,fun H6 s6=>⟨s5.trans s6,?_⟩⟩;rw [take_add_one,ha,map_append];rfl
 ·rintro ys H5 ⟨s5,rfl⟩ q5 hq5;have sq:=AD s5 hq5 (o:=HO.lst ((as.take (as.map V.ref).length).map fun _=>V.bl true));refine ⟨q5,(as.take (as.map V.ref).length).map fun _=>true,rfl,SqL.of (by rw [AB,map_map]; rfl),_,rfl,?_⟩;rw [show (((as.take (as.map V.ref).length).map fun _=>true).all id)=true by rw [all_map]; exact List.all_eq_true.mpr fun _ _=>rfl];refine Aw ?_;generalize upd H5 q5 (HO.lst ((as.take (as.map V.ref).length).map fun _=>V.bl true))=H6 at sq ⊢;have s6:Same H H6:=s4.trans sq;obtain ⟨n6,q6⟩:=Rr (K:=K) (TupsAt.same s6 (MM hps));have hkl:(kvT es).length=es.length:=AF _;refine ⟨_,rfl,l,as,kvT es,rfl,SqL.of (s6 _ _ hl),n6,by omega,q6,fun dt hdt=>?_⟩;rw [Rv PR.nd];have s7:Same H6 (upd H6 dt (.dK (kvT es))):=AD (Same.refl _) hdt;have ht7:(upd H6 dt (.dK (kvT es))) dt=some (.dK (kvT es)):=AB;generalize upd H6 dt (.dK (kvT es))=H7 at s7 ht7 ⊢;have hm7:=s7 _ _ (sq _ _ hm4);refine ⟨_,rfl,dt,_,rfl,ht7,_,rfl,l,_,rfl,.inl (SqL.of (s7 _ _ (s6 _ _ hl))),_,_,rfl,rfl,_,rfl,?_⟩;refine Bp (fun z=>absurd (of_decide_eq_true z) (by rw [AF]; omega)) (fun _=>?_);have hkm:=U1 due;refine ⟨_,rfl,dm,om,kM due,rfl,hm7,NG (fun i ys H8=>H8=H7/\ys=F2 ((kM due).take i) (kvT es)) ⟨rfl,rfl⟩ (fun i ys H8 ⟨e,_⟩=>e ▸ hm7) (fun i ys H8 ⟨_,e⟩=>?_) ?_ ?_⟩
  ·have:=ML (kvT es) ((kM due).take i) [];rw [e];unfold F2;rw [length_nil,length_take] at this;omega
  ·rintro i kv ys H8 hkv ⟨rfl,rfl⟩;refine ⟨_,rfl,_,rfl,dt,_,rfl,.inl ⟨_,kv.1,.inl ht7,rfl,rfl⟩,_,rfl,?_⟩;rw [Na hkv];unfold JP;cases e:Au (kvT es) kv.1 with
   | none=>exact Aw ⟨rfl,rfl⟩
   | some v=>exact Bo ⟨_,rfl,_,rfl,_,rfl,dt,_,rfl,.inl ⟨_,kv.1,.inl ht7,rfl,e.symm⟩,kv.1,rfl,rfl,rfl⟩
  ·rintro ys H8 ⟨rfl,rfl⟩ d hd;rw [take_length];exact q d _ (AD (s6.trans s7) hd) (none_of (s6.trans s7) hd) AB
end
theorem WW:¬ (("own_kind" : Str) = "second_kind"):=by decide +kernel
theorem WY:¬ (("own_kind" : Str) = "table"):=by decide +kernel
theorem WZ:¬ (("second_kind" : Str) = "table"):=by decide +kernel
noncomputable def F3 (k o d:Addr):List (Str × V):=BN "table" (.ref d) (BN "second_kind" (.ref o) (BN "own_kind" (.ref k) []))
theorem HM (k o d:Addr):(F3 k o d).lookup ("own_kind" : Str)=some (.ref k):=by
 unfold F3;rw [AV,if_neg WY,AV,if_neg WW,AV,if_pos rfl]
theorem F4 (k o d:Addr):(F3 k o d).lookup ("second_kind" : Str)=some (.ref o):=by
 unfold F3;rw [AV,if_neg WZ,AV,if_pos rfl]
theorem Nb (k o d:Addr):(F3 k o d).lookup ("table" : Str)=some (.ref d):=by
 unfold F3;rw [AV,if_pos rfl]
theorem DE (k o d:Addr) {m:Str} (h1:¬ m = "table" := by decide +kernel) (h2:¬ m = "second_kind" := by decide +kernel) (h3:¬ m = "own_kind" := by decide +kernel):(F3 k o d).lookup m=none:=by
 unfold F3;rw [AV,if_neg h1,AV,if_neg h2,AV,if_neg h3];rfl
def EdAt (EC:Addr) (H:Hp) (p k o:Addr) (kvs:LK):Prop:=∃ dx d ob,H p=some (.ins EC dx (F3 k o d))/\H d=some (.frz ob (.dK kvs))
theorem EdAt.same {p k o:Addr} {kvs:LK} (s:Same H H') (h:EdAt EC H p k o kvs):EdAt EC H' p k o kvs:=by
 obtain ⟨dx,d,ob,h1,h2⟩:=h;exact ⟨dx,d,ob,s _ _ h1,s _ _ h2⟩
structure Ir (K:FG) (EC:Addr):Prop where
 cl:Cls K EC
 nK:NoAttr K EC "own_kind"
 nS:NoAttr K EC "second_kind"
 nT:NoAttr K EC "table"
def SameN (p:Addr) (H H':Hp):Prop:=∀ b o,H b=some o->b ≠ p->H' b=some o
theorem KindAt.sameN {p dx:Addr} {k:Addr} {r:Str} (s:SameN p H H') (hp:H p=some (.ins EC dx [])) (h:KindAt C H k due r):KindAt C H' k due r:=by
 obtain ⟨x,d1,o1,d2,o2,a,b,c⟩:=h.ex;refine ⟨⟨x,d1,o1,d2,o2,s _ _ a fun e=>?_,s _ _ b fun e=>?_,s _ _ c fun e=>?_⟩⟩
 ·subst e;rw [hp] at a;have q:=Fp d1 d2 r;cases a
 ·subst e;rw [hp] at b;cases b
 ·subst e;rw [hp] at c;cases c
theorem SameN.tup {p dx:Addr} (s:SameN p H H') (hp:H p=some (.ins EC dx [])):∀ b xs,H b=some (.tup xs)->H' b=some (.tup xs):=fun b xs e=>s b _ e fun q=>by
 subst q;rw [hp] at e;cases e
theorem Prs.sameN {p dx l:Addr} {es:List Ent} (s:SameN p H H') (hp:H p=some (.ins EC dx [])) (h:Prs due ac H l es):Prs due ac H' l es:=by
 obtain ⟨as,h1,h2⟩:=h.at_;exact ⟨⟨as,s _ _ h1 fun q=>(by subst q; rw [hp] at h1; cases h1),Paired.imp' (fun _ _ q=>q.same (s.tup hp)) h2⟩,h.len,h.nd,h.mr,h.nm⟩
section
variable {cP:Addr}
def OQ (C EC:Addr):Sp:=fun vs H Q _=>∃ (p dx k o l:Addr) (due ac:Aa) (r r2:Str) (es:List Ent),vs=[.ref p,.ref k,.ref o,.ref l]/\H p=some (.ins EC dx [])/\KindAt C H k due r/\due.length <= 60/\KindAt C H o ac r2/\ac.length <= 60/\Prs due ac H l es /\
 ∀ H',SameN p H H'->EdAt EC H' p k o (F2 (kM due) (kvT es))->Q .non H'
theorem Tc:AM ["self", "kind", "other", "pairs"] ["self", "kind", "other", "pairs"] (defScope DX):=fsc
theorem Rx (F:Fun K "__init__" "Edition.__init__" DX f fd) (ET:Ir K EC) (GT:Fn P w K mg base "table_of" 3 ["kind", "other", "pairs"] (Rw C)) :
  Ac P w K mg base CX0 4 f fd ["self", "kind", "other", "pairs"] (OQ C EC):=by
 obtain ⟨fT,dT,GT,mT,kT,bT⟩:=GT.ex;refine F.m Tc fun vs H Q E h=>?_;obtain ⟨p,dx,k,o,l,due,ac,r,r2,es,rfl,hp,KA,h60,KB,h60',PR,hG⟩:=h;refine ⟨rfl,fun af A outer s hr=>?_⟩;refine ⟨_,AG (Dl (pv 0) (pv 1) rfl) (AG (Dl (pv 0) (pv 2) rfl) (AG (Dl (pv 0) (AL GT hr rfl mT kT bT .nil AN (AA (pv 1) (AA (pv 2) (AA (pv 3) AC)))) rfl) (Cf AW))),?_⟩;refine ⟨_,rfl,_,rfl,p,EC,dx,_,rfl,hp,ET.cl,ET.nK,(by show 0 < 1000; decide),?_⟩;refine ⟨_,rfl,_,rfl,p,EC,dx,_,rfl,AB,ET.cl,ET.nS,(by show 1 < 1000; decide),?_⟩;rw [HC];have s1:SameN p H (upd H p (.ins EC dx (BN "second_kind" (.ref o) (BN "own_kind" (.ref k) [])))):=fun b u e hb=>by rw [AH hb]; exact e
 have aw:(upd H p (.ins EC dx (BN "second_kind" (.ref o) (BN "own_kind" (.ref k) [])))) p=some (.ins EC dx (BN "second_kind" (.ref o) (BN "own_kind" (.ref k) []))):=AB;generalize upd H p (.ins EC dx (BN "second_kind" (.ref o) (BN "own_kind" (.ref k) [])))=H1 at s1 aw ⊢;refine ⟨_,rfl,_,rfl,_,rfl,k,o,l,due,ac,r,r2,es,rfl,KA.sameN s1 hp,h60,KB.sameN s1 hp,h60',PR.sameN s1 hp,fun d H2 s2 ay hd=>?_⟩;have npd:p ≠ d:=AI aw ay;refine ⟨_,rfl,p,EC,dx,_,rfl,s2 _ _ aw,ET.cl,ET.nT,Nat.lt_of_le_of_lt (CN _ _ _) (by show 2 < 1000; decide),?_⟩;refine ⟨d,_,by rw [AH (Ne.symm npd)]; exact hd,fun ob=>?_⟩;refine hG _ (fun b u e hb=>?_) ⟨dx,d,ob,?_,AB⟩
 ·have e1:=s1 b u e hb;rw [AH (AI e1 ay),AH hb];exact s2 _ _ e1
 ·rw [AH npd,AB];rfl
def F5 (EC:Addr):Sp:=fun vs H Q _=>∃ p k o kvs,vs=[.ref p]/\EdAt EC H p k o kvs/\Q (.ref k) H
theorem Td:AM ["self"] ["self"] (defScope DY):=fsc
theorem Ry (F:Fun K "kind" "Edition.kind" DY f fd) (ET:Ir K EC):Ac P w K mg base CX0 1 f fd ["self"] (F5 EC):=by
 refine F.m Td fun vs H Q E h=>?_;obtain ⟨p,k,o,kvs,rfl,⟨dx,d,ob,hp,hd⟩,q⟩:=h;refine ⟨rfl,fun af A outer s hr=>?_⟩;exact ⟨_,AE (AU (At (pv 0) rfl)),_,rfl,p,EC,dx,_,_,rfl,hp,ET.cl,ET.nK,HM _ _ _,q⟩
def EH (EC:Addr):Sp:=fun vs H Q _=>∃ p k o kvs,vs=[.ref p]/\EdAt EC H p k o kvs/\Q (.ref o) H
theorem Rz:AM ["self"] ["self"] (defScope C1):=fsc
theorem Pp (F:Fun K "other" "Edition.other" C1 f fd) (ET:Ir K EC):Ac P w K mg base CX0 1 f fd ["self"] (EH EC):=by
 refine F.m Rz fun vs H Q E h=>?_;obtain ⟨p,k,o,kvs,rfl,⟨dx,d,ob,hp,hd⟩,q⟩:=h;refine ⟨rfl,fun af A outer s hr=>?_⟩;exact ⟨_,AE (AU (At (pv 0) rfl)),_,rfl,p,EC,dx,_,_,rfl,hp,ET.cl,ET.nS,F4 _ _ _,q⟩
def EJ (EC:Addr):Sp:=fun vs H Q _=>∃ p k o kvs,vs=[.ref p]/\EdAt EC H p k o kvs/\∀ l as H',Same H H'->H' l=some (.lst (as.map V.ref))->TupsAt H' as (kvs.map fun kv=>(kV kv.1,kv.2))->Q (.ref l) H'
theorem R4:AM ["self"] ["self"] (defScope C2):=fsc
theorem Pq (F:Fun K "pairs" "Edition.pairs" C2 f fd) (B:Bl mg) (ET:Ir K EC):Ac P w K mg base CX0 1 f fd ["self"] (EJ EC):=by
 refine F.m R4 fun vs H Q E h=>?_;obtain ⟨p,k,o,kvs,rfl,⟨dx,d,ob,hp,hd⟩,q⟩:=h;refine ⟨rfl,fun af A outer s hr=>?_⟩;refine ⟨_,AE (AU (BH (Ht rfl) rfl B.list Ct (AA (Mw PySem.F.slot_dict_items PySem.F.type_dict_items LM (At (pv 0) rfl)) AC))),?_⟩;refine ⟨_,rfl,p,EC,dx,_,_,rfl,hp,ET.cl,ET.nT,Nb _ _ _,d,rfl,.inl ⟨_,.inr ⟨ob,hd⟩⟩,d,_,rfl,rfl,.inr ⟨ob,hd⟩,fun v hv=>?_⟩;have s1:Same H (upd H v (LL d v)):=AD (Same.refl _) hv;exact ⟨v,d,_,rfl,AB,Same.rd s1 (.inr ⟨ob,hd⟩),fun l as H' s2 _ hl ht=>q l as H' (s1.trans s2) hl ht⟩
end
theorem B3 (x:Str):∀ es:List Ent,Au (kvT es) (Sum.inr x:Key)=(es.lookup x).map fun q=>V.ref q.1
 | []=>rfl
 | q :: r=>by
  have ih:=B3 x r;unfold kvT Au at ih ⊢;rw [map_cons,find?_cons,lookup_cons];by_cases h:q.1=x
  ·rw [decide_eq_true (show (Sum.inr q.1:Key)=Sum.inr x by rw [h]),show (x == q.1)=true by rw [h]; simp];rfl
  ·rw [decide_eq_false (show ¬ (Sum.inr q.1:Key)=Sum.inr x from fun z=>h (Sum.inr.inj z)),show (x == q.1)=false by simp; exact fun z=>h z.symm];exact ih
def TabN (ac:Aa) (H:Hp) (tab:List Ent):Prop:=∀ q ∈ tab,H q.2.1=some (.tup (q.2.2.map V.str))/\q.2.2.length <= 18/\∀ y ∈ q.2.2,y ∈ ac.map (·.1)
theorem TabN.same {tab:List Ent} (s:∀ b xs,H b=some (.tup xs)->H' b=some (.tup xs)) (h:TabN ac H tab):TabN ac H' tab:=fun q hq=>⟨s _ _ (h q hq).1,(h q hq).2⟩
noncomputable def fl (tab:List Ent) (ms:List Str):List Str:=ms.flatMap fun x=>((tab.lookup x).map (·.2)).getD []
def Has (tab:List Ent) (ms:List Str):Prop:=∀ x ∈ ms,(tab.lookup x).isSome=true
def Iu (tab:List Ent) (ms:List Str) (x:Str):Prop:=∃ i,ms[i]?=some x/\Has tab (ms.take i)/\tab.lookup x=none
theorem CL {tab:List Ent} {x:Str} {q:Addr × List Str} (h:tab.lookup x=some q):(x,q) ∈ tab:=by
 induction tab with
 | nil=>cases h
 | cons y r ih =>
  rw [lookup_cons] at h;cases e:x == y.1 with
  | true=>rw [e] at h; cases h; rw [eq_of_beq e]; exact mem_cons_self ..
  | false=>rw [e] at h; exact mem_cons_of_mem _ (ih h)
theorem Te {tab:List Ent} {ms:List Str} {i:Nat} {x:Str} {q:Addr × List Str} (h:ms[i]?=some x) (hq:tab.lookup x=some q):fl tab (ms.take (i + 1))=fl tab (ms.take i)++q.2:=by
 unfold fl;rw [take_add_one,h,List.flatMap_append];show _++List.flatMap _ [x]=_;rw [List.flatMap_singleton,hq];rfl
theorem R5 {tab:List Ent} (h:TabN ac H tab) (ms:List Str):∀ y ∈ fl tab ms,y ∈ ac.map (·.1):=fun y hy=>by
 obtain ⟨x,_,hx⟩:=List.mem_flatMap.mp hy;cases e:tab.lookup x with
 | none=>rw [e] at hx; cases hx
 | some q=>rw [e] at hx; exact (h _ (CL e)).2.2 y hx
theorem Nd {tab:List Ent} (h:TabN ac H tab):∀ ms:List Str,(fl tab ms).length <= 18 * ms.length
 | []=>Nat.le_refl _
 | x :: r=>by
  have ih:=Nd h r;unfold fl at ih ⊢;rw [List.flatMap_cons,length_append,length_cons];cases e:tab.lookup x with
  | none=>show 0 + _ <= _; omega
  | some q =>
   have:=(h _ (CL e)).2.1;show q.2.length + _ <= _;simp only at this;omega
section
variable {cM cL cR cU:Addr}
def Gn (K:FG) (cM:Addr):Sp:=fun vs H Q _=>∃ (e C:Addr) (x:Str),vs=[.ref e,.str x]/\x.length <= 1000/\A5 K C=true/\H e=some (Ed e C none)/\Lg K C cM "name" /\
 ∀ d,H d=none->d ≠ e->Q .non (upd (upd H e (Ed e C (some d))) d (.xd [("name", .str x)]))
theorem Pr:AM ["self", "name"] ["self", "name"] (defScope Eu):=fsc
theorem Nf (F:Fun K "__init__" "Unled.__init__" Eu f fd) (ME:U0 P w K mg base cM):Ac P w K mg base CX0 2 f fd ["self", "name"] (Gn K cM):=by
 obtain ⟨fI,dI,hf,GI,kI,bI⟩:=ME.fn;have mM:=ME.cls;refine F.m Pr fun vs H Q E h=>?_;obtain ⟨e,C,x,rfl,hn,hC,he,S,k⟩:=h;refine ⟨rfl,fun af A outer s hr=>?_⟩;refine ⟨_,AG (CH (IC rfl mM ME.ga ME.rd hf GI hr kI bI .nil AN (AA (pv 0) (AA (OD (by decide +kernel) (pv 1)) AC)))) (AE (OC (M:=cM) (pv 0) (pv 1) rfl)),?_⟩;refine ⟨_,rfl,_,rfl,.inr (.inl ⟨x,rfl,hn⟩),fun z=>⟨e,C,none,z,rfl,hC,he,?_⟩⟩;exact ⟨_,rfl,_,rfl,e,C,rfl,he,S,k⟩
def UqL (H:Hp) (E:XK) (cL:Addr) (x:Str):Prop:=∀ e d H',Same H H'->H e=none->H d=none->d ≠ e->H' e=some (Fd e cL (some d))->H' d=some (.xd [("name", .str x)])->E (.ref cL) (some d) H'
theorem UqL.same {E:XK} {x:Str} (s:Same H H') (h:UqL H E cL x):UqL H' E cL x:=fun e d H2 s2 he hd bn h1 h2=>h e d H2 (s.trans s2) (none_of s he) (none_of s hd) bn h1 h2
structure T3 (P:Program) (w:World) (K:FG) (mg:SV) (base:Heap) (cM cL:Addr):Prop where
 cls:mg "Unled" = some (.ref cL)
 make:∃ f fd,MkX K cL f/\Ac P w K mg base CX0 2 f fd ["self", "name"] (Gn K cM)/\Binds K fd ["self", "name"] []
 st:Lg K cL cM "name"
theorem R6 {σ:St} {H1:Hp} {E:XK} {D:Df} {x:Str} {te:TE} (hC:A5 K cL=true) (S:Lg K cL cM "name") (hn:x.length <= 1000) (s1:Same H H1) (h:UqL H E cL x) (ht:∀ Q:VK,Q (.str x) H1->te σ H1 Q) :
  KW cL (KU cL (Gn K cM) [] E0 (Aq te CO)) E D σ H1:=by
 refine ht _ ?_;refine ⟨(by show 1 <= 1000; decide),fun a ha=>?_⟩;refine ⟨a,cL,x,rfl,hn,hC,AB,S,fun d hd bn=>⟨rfl,a,some d,rfl,?_,?_⟩⟩
 ·rw [AH (Ne.symm bn),AB]
 ·have hd1:H1 d=none:=by rw [AH bn] at hd; exact hd
  refine h a d _ (fun b u e=>?_) (none_of s1 ha) (none_of s1 hd1) bn AB ?_
  ·have e1:=s1 _ _ e;have nb:b ≠ a:=AI e1 ha;have nd:b ≠ d:=AI e1 hd1;rw [AH nb,AH nd,AH nb,AH nb];exact e1
  ·rw [AH bn,AB]
def Tf (C VC EC cL:Addr):Sp:=fun vs H Q E=>∃ (p v k o kp:Addr) (n:Nat) (due ac:Aa) (r:Str) (tab:List Ent),vs=[.ref p,.ref v]/\EdAt EC H p k o (kvT tab)/\TabN ac H tab/\ValAt VC H v kp n/\KindAt C H kp due r/\due.length <= 10 /\
 ((Has tab (AO due n)/\∀ l H',Same H H'->H' l=some (.lst ((fl tab (AO due n)).map V.str))->Q (.ref l) H')\/∃ x,Iu tab (AO due n) x/\x.length <= 1000/\UqL H E cL x)
theorem scNf:AM ["self", "value", "names", "mark"] ["self", "value"] (defScope Bh):=fsc
theorem Dc (due:Aa) (n:Nat):(AO due n).length <= due.length:=by
 unfold AO;rw [AF];exact Nat.le_trans (length_filter_le _ _) (BE due)
theorem V0 (F:Fun K "names_for" "Edition.names_for" Bh f fd) (ET:Ir K EC) (VT:Ik K VC) (UO:T3 P w K mg base cM cL) (GM:Mt P w K mg base VC "marks" 3 ["self"] (Io C VC)) :
  Ac P w K mg base (CXr P w) 4 f fd ["self", "value"] (Tf C VC EC cL):=by
 obtain ⟨fM,dM,GM,mM,bM⟩:=GM.ex;obtain ⟨fX,dX,MX,GX,bX⟩:=UO.make;have mX:=UO.cls;refine F.n scNf fun vs H Q E h=>?_;obtain ⟨p,v,k,o,kp,n,due,ac,r,tab,rfl,ED,TN,hV,KA,h60,h⟩:=h;refine ⟨rfl,fun af A outer s hr=>?_⟩;have hu:=Cr hr;have hr3:Room 3 _:=hr.mono (by decide);obtain ⟨dx,d,ob,hp,hd⟩:=ED;obtain ⟨dv,hv⟩:=id hV;have rz:=HE (P:=P) (w:=w) (K:=K) (mg:=mg) (base:=base) (N:=["self", "value", "names", "mark"]) (qual := "Edition.names_for") (scope:=defScope Bh) (f:=f) (cd:=af) (A:=A) (outer:=outer) (s:=s) (H:=H) (E:=E)
 refine ⟨_,AG (Ai (i:=2) scNf.nd rfl (Or.inl rfl) (BO AC))
  (AG (Bs PassesOwn.leaving rfl (A2 (Ah (pv 1) VT.cl mM GM hr bM .nil AN)) (AR (i:=3) scNf.nd rfl (Or.inl rfl))
   (AG (An (DI (GG hu (pv 3) (At (pv 0) rfl))) (AE (Du rz rfl MX.cls (Dt MX GX hr3 rfl mX bX .nil AN (AA (pv 3) AC)))) AW)
   (AE (CH (Gs PySem.F.plainAttrs_list PySem.F.slot_list_extend PySem.F.type_list_extend NH (pv 2) (AA (BJ hu (At (pv 0) rfl) (pv 3) (fun _ _=>rfl)) AC))))))
  (AE (AU (pv 2)))),?_⟩
 refine ⟨(by show 0 <= sizeLine; decide),fun l hl=>?_⟩;have s1:=AD (Same.refl _) hl (o:=HO.lst []);have hl1:(upd H l (HO.lst [])) l=some (.lst []):=AB;have hl0:=hl;generalize upd H l (HO.lst [])=H1 at s1 hl1 ⊢;refine ⟨_,rfl,v,dv,_,rfl,s1 _ _ hv,Lw _ _ (by decide +kernel) (by decide +kernel),v,kp,n,due,r,rfl,hV.same s1,KA.same s1,by omega,fun l2 H2 s2 hl2=>?_⟩;have s12:=s1.trans s2;have hlm:=Dc due n;have aj:=Nd TN;generalize AO due n=ms at h hl2 hlm ⊢
 have nll:l2 ≠ l\/ms=[]:=by
  by_cases z:l2=l
  ·refine .inr ?_;rw [z,s2 _ _ hl1] at hl2;cases ms with
   | nil=>rfl
   | cons a r=>cases hl2
  ·exact .inl z
 refine ⟨l2,rfl,⟨_,SqL.of hl2⟩,Ba (K:=K) (a:=l2) (xs:=ms.map V.str) (fun i σ H3=>(∃ v3:Option V,σ=[some (.ref p),some (.ref v),some (.ref l),v3])/\Has tab (ms.take i)/\(∀ b u,H2 b=some u->b ≠ l->H3 b=some u)/\H3 l=some (.lst ((fl tab (ms.take i)).map V.str))/\(i=0->H3=H2))
  ⟨⟨none,rfl⟩,(fun x hx=>by cases hx),fun _ _ e _=>e,s2 _ _ hl1,fun _=>rfl⟩ (fun i σ H3 hi ⟨_,_,e,_,hz⟩=>?_) ?_ ?_⟩
 ·rcases nll with z | z
  ·exact SqL.of (e _ _ hl2 z)
  ·rw [z] at hi;rw [hz (Nat.le_zero.mp hi)];exact SqL.of hl2
 ·rintro i x0 σ H3 hi ⟨⟨v3,rfl⟩,hH,e3,hl3,hz⟩;rw [getElem?_map] at hi;obtain ⟨x,hx,rfl⟩:=Option.map_eq_some_iff.mp hi;have s13:Same H H3:=fun b u e=>e3 b u (s12 _ _ e) (AI e hl0);refine ⟨_,rfl,_,rfl,p,EC,dx,_,_,rfl,s13 _ _ hp,ET.cl,ET.nT,Nb _ _ _,d,_,rfl,.inl ⟨_,Sum.inr x,.inr ⟨ob,s13 _ _ hd⟩,rfl,rfl⟩,_,rfl,?_⟩;rw [B3];cases eq:tab.lookup x with
  | none =>
   refine Bo ?_;rcases h with ⟨hA,_⟩ | ⟨y,⟨j,hy,hHy,hyn⟩,hyl,hU⟩
   ·have:=hA x (mem_of_getElem? hx);rw [eq] at this;cases this
   ·have hij:i=j:=by
     rcases Nat.lt_trichotomy i j with z | z | z
     ·have:=hHy x (mem_of_getElem? (i:=i) (by rw [getElem?_take,if_pos z]; exact hx));rw [eq] at this;cases this
     ·exact z
     ·have:=hH y (mem_of_getElem? (i:=j) (by rw [getElem?_take,if_pos z]; exact hy));rw [hyn] at this;cases this
    subst hij;rw [hx] at hy;cases hy;exact R6 (te:=Ck 3) MX.cls UO.st hyl s13 hU fun Q' q=>⟨_,rfl,q⟩
  | some q =>
   refine Aw ?_;have hq:=TN _ (CL eq);have hi60:i < ms.length:=(List.getElem?_eq_some_iff.mp hx).1;have hfi:=aj (ms.take i);rw [length_take] at hfi;refine ⟨_,rfl,.inl ⟨rfl,_,SqL.of hl3⟩,_,rfl,p,EC,dx,_,_,rfl,s13 _ _ hp,ET.cl,ET.nT,Nb _ _ _,_,rfl,d,_,rfl,.inl ⟨_,Sum.inr x,.inr ⟨ob,s13 _ _ hd⟩,rfl,by rw [B3,eq]; rfl⟩,l,q.1,_,_,rfl,rfl,hl3,s13 _ _ hq.1,Nat.le_of_lt (Ab (by rw [AF,AF]; have:=hq.2.1; simp only at this; omega)),?_⟩;refine ⟨⟨_,rfl⟩,fun y hy=>?_,fun b u e hb=>by rw [AH hb]; exact e3 b u e hb,?_,fun z=>by cases z⟩
   ·rw [take_add_one,hx] at hy;rcases mem_append.mp hy with z | z
    ·exact hH y z
    ·rw [show y=x from mem_singleton.mp z,eq];rfl
   ·rw [AB,Te hx eq,map_append]
 ·rintro σ H3 ⟨⟨v3,rfl⟩,hH,e3,hl3,_⟩;rw [AF,take_length] at hH hl3;rcases h with ⟨hA,q⟩ | ⟨y,⟨j,hy,hHy,hyn⟩,_⟩
  ·exact ⟨_,rfl,q l _ (fun b u e=>e3 b u (s12 _ _ e) (AI e hl0)) hl3⟩
  ·have:=hH y (mem_of_getElem? hy);rw [hyn] at this;cases this
end
section
variable {cM cL cR cU:Addr}
structure MtR (P:Program) (w:World) (K:FG) (mg:SV) (base:Heap) (C:Addr) (m:Str) (k:Nat) (ps:List Str) (sp:Sp):Prop where
 ex:∃ f fd,Ac P w K mg base (CXr P w) k f fd ps sp/\HX K C m f/\Binds K fd ps []
noncomputable def Cz (tab:List Ent) (due ac:Aa) (n:Nat):Nat:=AQ ((fl tab (AO due n)).map (look ac)) ||| (n - (n &&& AQ (AJ due)))
def MadeIs (VC cR:Addr) (o:Addr) (ac:Aa) (r2:Str) (H:Hp) (i:Nat) (Q:VK) (E:XK):Prop :=
 (Ae ac (i:Int) ≠ 0/\r2 = "bar" /\ UqR H E cR (Ae ac (i:Int):Nat)) \/
 (¬ (Ae ac (i:Int) ≠ 0/\r2 = "bar")/\Ae ac (i:Int) ≠ 0/\r2 = "leave" /\ ∀ H',Same H H'->Q (.int (i:Int)) H') \/
 (¬ (Ae ac (i:Int) ≠ 0/\r2 = "bar")/\¬ (Ae ac (i:Int) ≠ 0/\r2 = "leave")/\∀ q H',Same H H'->ValAt VC H' q o (if r2 = "keep" then plain (i:Int) else plain (i:Int) - Ae ac (i:Int))->Q (.ref q) H')
def J0 (C VC EC cL cR cU:Addr):Sp:=fun vs H Q E=>∃ (p v k o kp:Addr) (n:Nat) (due due' ac:Aa) (r r' r2:Str) (tab:List Ent),vs=[.ref p,.ref v]/\EdAt EC H p k o (kvT tab)/\TabN ac H tab/\ValAt VC H v kp n/\n < 2 ^ 40/\KindAt C H kp due' r'/\Asc due'/\due'.length <= 10/\KindAt C H k due r/\Asc due/\KindAt C H o ac r2/\(∀ q ∈ ac,q.2 < 2 ^ 20) /\
 ((¬ (due'=due/\r'=r)/\Uq H E cU)\/((due'=due/\r'=r)/\((∃ x,Iu tab (AO due' n) x/\x.length <= 1000/\UqL H E cL x)\/(Has tab (AO due' n)/\MadeIs VC cR o ac r2 H (Cz tab due' ac n) Q E))))
theorem scLed:AM ["self", "value", "number"] ["self", "value"] (defScope CP):=fsc
theorem R8 {E:XK} {n:Int} (s:Same H H') (h:UqR H E cR n):UqR H' E cR n:=fun e d H2 s2 he hd bn h1 h2=>h e d H2 (s.trans s2) (none_of s he) (none_of s hd) bn h1 h2
theorem MadeIs.same {o:Addr} {r2:Str} {i:Nat} {Q:VK} {E:XK} (s:Same H H') (h:MadeIs VC cR o ac r2 H i Q E):MadeIs VC cR o ac r2 H' i Q E:=by
 rcases h with ⟨a,b,c⟩ | ⟨a,b,c,d⟩ | ⟨a,b,c⟩
 ·exact .inl ⟨a,b,R8 s c⟩
 ·exact .inr (.inl ⟨a,b,c,fun H2 s2=>d H2 (s.trans s2)⟩)
 ·exact .inr (.inr ⟨a,b,fun q H2 s2=>c q H2 (s.trans s2)⟩)
theorem OR {tab:List Ent} {n:Nat} (h:∀ q ∈ ac,q.2 < 2 ^ 20) (hn:n < 2 ^ 40):Cz tab due ac n < 2 ^ 40:=by
 unfold Cz;refine Nat.or_lt_two_pow (Nat.lt_trans (Iq h) (by decide)) ?_;omega
theorem U4 (F:Fun K "led" "Edition.led" CP f fd) (ET:Ir K EC) (VT:Ik K VC) (neK:W.findIn K (.ref C) "__ne__" = some (some (.builtin "object.__ne__"))) (hm:W.mroIn K C (.type "object")=some true) (EU:MB P w K mg base "Unlike" cU)
  (GE:Mt P w K mg base C "__eq__" 2 ["self", "other"] (Ii C)) (GVK:Mt P w K mg base VC "kind" 1 ["self"] (Kp VC)) (GVN:Mt P w K mg base VC "number" 1 ["self"] (Gi VC)) (GVR:Mt P w K mg base VC "rest" 4 ["self"] (HL C VC))
  (GN:MtR P w K mg base EC "names_for" 4 ["self", "value"] (Tf C VC EC cL)) (GV:Fn P w K mg base "value_of" 6 ["kind", "names"] (Rp C VC)) {fM:Addr} {dM:FuncData} (GM:Ac P w K mg base (CXr P w) 6 fM dM ["kind", "number"] (Rm C VC cR)) (mM:mg "made" = some (.ref fM)) (kM':W.keepIn K (.ref fM)=true) (bM:Binds K dM ["kind", "number"] []) :
  Ac P w K mg base (CXr P w) 7 f fd ["self", "value"] (J0 C VC EC cL cR cU):=by
 obtain ⟨fE,dE,GE,mE,bE⟩:=GE.ex;obtain ⟨fK,dK,GVK,mK,bK⟩:=GVK.ex;obtain ⟨fN,dN,GVN,mN,bN⟩:=GVN.ex;obtain ⟨fR,dR,GVR,mR,bR⟩:=GVR.ex;obtain ⟨fF,dF,GF,mF,bF⟩:=GN.ex;obtain ⟨fV,dV,GV,mV,kV',bV⟩:=GV.ex;obtain ⟨fX,dX,MX,GX,bX⟩:=EU.make;have mX:=EU.cls;refine F.n scLed fun vs H Q E h=>?_;obtain ⟨p,v,k,o,kp,n,due,due',ac,r,r',r2,tab,rfl,ED,TN,hV,hn,KP,asc',h60,KA,asc,KB,hlt,h⟩:=h;refine ⟨rfl,fun af A outer s hr=>?_⟩;have hr1:Room 1 _:=hr.mono (by decide);have hr2:Room 2 _:=hr.mono (by decide);have hr3:Room 3 _:=hr.mono (by decide);have hr4:Room 4 _:=hr.mono (by decide);obtain ⟨dx,d,ob,hp,hd⟩:=id ED;obtain ⟨dv,hv⟩:=id hV;obtain ⟨dk,e1,e2,hk⟩:=KA.ins;obtain ⟨dk',e1',e2',hk'⟩:=KP.ins;have ps:=Tx (P:=P) (w:=w) (K:=K) (mg:=mg) (base:=base) (N:=["self", "value", "number"]) (qual := "Edition.led") (scope:=defScope CP) (f:=f) (cd:=af) (A:=A) (outer:=outer) (s:=s) (H:=H) (E:=E);have rz:=HE (P:=P) (w:=w) (K:=K) (mg:=mg) (base:=base) (N:=["self", "value", "number"]) (qual := "Edition.led") (scope:=defScope CP) (f:=f) (cd:=af) (A:=A) (outer:=outer) (s:=s) (H:=H) (E:=E)
 refine ⟨_,AG (An (AY (Fc GE hr3 bE mE neK hm) (Ah (pv 1) VT.cl mK GVK hr1 bK .nil AN) (At (pv 0) rfl) (Ad _)) (AE (Du rz rfl MX.cls (Dt MX GX hr2 rfl mX bX .nil AN (AA Ag AC)))) AW)
  (AG (Ai (i:=2) scLed.nd rfl (Or.inl rfl) (Ah (AL GV hr rfl mV kV' bV .nil AN (AA (At (pv 0) rfl) (AA (CV (pv 0) ET.cl mF GF hr4 bF .nil ps (AA (pv 1) AC)) AC))) VT.cl mN GVN hr1 bN .nil AN))
  (AE (AU (AL GM hr rfl mM kM' bM .nil ps (AA (At (pv 0) rfl) (AA (Af K5 (pv 2) (Ah (pv 1) VT.cl mR GVR hr4 bR .nil AN)) AC)))))),?_⟩
 refine ⟨_,rfl,v,dv,_,rfl,hv,Lw _ _ (by decide +kernel) (by decide +kernel),v,kp,n,rfl,hV,_,rfl,p,EC,dx,_,_,rfl,hp,ET.cl,ET.nK,HM _ _ _,?_⟩;refine ⟨kp,dk',_,k,dk,_,rfl,rfl,hk',hk,kp,k,due',r',rfl,KP,asc',.inr ⟨due,r,KA,asc,fun H1 s1=>⟨_,rfl,_,rfl,_,rfl,?_⟩⟩⟩;rcases h with ⟨hno,hU⟩ | ⟨⟨rfl,rfl⟩,h⟩
 ·rw [decide_eq_false hno];exact Bo (FE (te:=fun _=>tC (.str "")) MX.cls s1 hU)
 ·rw [decide_eq_true (show due'=due'/\r'=r' from ⟨rfl,rfl⟩)];refine Aw ?_;refine ⟨_,rfl,p,EC,dx,_,_,rfl,s1 _ _ hp,ET.cl,ET.nS,F4 _ _ _,_,rfl,p,dx,_,rfl,s1 _ _ hp,DE _ _ _,_,rfl,p,v,k,o,kp,n,due',ac,r',tab,rfl,ED.same s1,TN.same (fun b xs e=>s1 _ _ e),hV.same s1,KP.same s1,by omega,?_⟩;rcases h with ⟨x,hL,hx,hU⟩ | ⟨hH,hM⟩
  ·exact .inr ⟨x,hL,hx,hU.same s1⟩
  ·refine .inl ⟨hH,fun l H2 s2 hl=>?_⟩;have s12:=s1.trans s2;have aj:=Nd TN (AO due' n);have hlm:=Dc due' n;refine ⟨o,l,ac,r2,_,rfl,KB.same s12,hl,by omega,R5 TN _,hlt,fun q1 H3 s3 hq1=>?_⟩;have s13:=s12.trans s3;obtain ⟨dq,hq⟩:=id hq1;refine ⟨q1,dq,_,rfl,hq,Lw _ _ (by decide +kernel) (by decide +kernel),q1,o,_,rfl,hq1,?_⟩;refine ⟨_,rfl,p,EC,dx,_,_,rfl,s13 _ _ hp,ET.cl,ET.nS,F4 _ _ _,_,rfl,_,rfl,v,dv,_,rfl,s13 _ _ hv,Lw _ _ (by decide +kernel) (by decide +kernel),v,kp,n,due',r',rfl,hV.same s13,KP.same s13,by omega,fun H4 s4=>⟨_,_,rfl,rfl,?_⟩⟩;have s14:=s13.trans s4;have hg:=OR (tab:=tab) (due:=due') hlt hn;have n40:(2:Nat) ^ 40=1099511627776:=by decide
   refine ⟨o,ac,r2,(Cz tab due' ac n:Nat),?_,KB.same s14,Vy hlt,by omega,by omega,?_⟩
   ·show [V.ref o,V.int (Builtin.bitOr _ _)]=_;rw [DR];rfl
   ·rcases hM.same s14 with ⟨a,b,c⟩ | ⟨a,b,c,d⟩ | ⟨a,b,c⟩
    ·exact .inl ⟨a,b,c⟩
    ·exact .inr (.inr (.inl ⟨a,Int.natCast_nonneg _,b,c,d⟩))
    ·exact .inr (.inr (.inr ⟨a,Int.natCast_nonneg _,b,c⟩))
end
theorem EK (k:Key):∀ (ps kvs:LK),(Au (B1 kvs ps) k).isSome=((Au kvs k).isSome || ps.any fun p=>decide (p.1=k))
 | [],kvs=>by simp [B1]
 | p :: r,kvs=>by
  show (Au (B1 (BM kvs p.1 p.2) r) k).isSome=_;rw [EK k r,Hj,any_cons];by_cases h:k=p.1
  ·rw [if_pos h,decide_eq_true h.symm];simp
  ·rw [if_neg h,decide_eq_false (Ne.symm h),Bool.false_or]
noncomputable def Aj (due:Aa):List Str:=(AJ due).map (BL (AT due))
theorem FJ {n:Nat} (h:n ∈ AJ due):n ∈ (AT due).map (·.1)/\Ay n=true:=by
 unfold AJ at h;obtain ⟨h1,h2⟩:=mem_filter.mp h;exact ⟨mem_keysS.mp h1,h2⟩
theorem DF {n:Nat} (h:n ∈ AJ due):(BL (AT due) n,n) ∈ due:=Ge (Pg (FJ h).1)
theorem Ps (due:Aa):(AJ due).Nodup:=((Ch due).nodup_iff.mpr (Js due)).filter _
theorem V1 (nd:(due.map (·.1)).Nodup) {x:Str} {m n:Nat} (h1:(x,m) ∈ due) (h2:(x,n) ∈ due):m=n:=by
 induction due with
 | nil=>cases h1
 | cons p r ih =>
  rw [map_cons,nodup_cons] at nd;rcases mem_cons.mp h1 with z1 | z1 <;> rcases mem_cons.mp h2 with z2 | z2
  ·rw [← z2] at z1;exact (Prod.mk.inj z1).2
  ·exact absurd (mem_map.mpr ⟨_,z2,by rw [← z1]⟩) nd.1
  ·exact absurd (mem_map.mpr ⟨_,z1,by rw [← z2]⟩) nd.1
  ·exact ih nd.2 z1 z2
theorem Eb (nd:(due.map (·.1)).Nodup):(Aj due).Nodup :=
 Cy (Ps due) fun a ha b hb e=>V1 nd (DF ha) (e ▸ DF hb)
theorem Pt {x:Str} (h:x ∈ Aj due):x ∈ due.map (·.1):=by
 obtain ⟨n,hn,rfl⟩:=mem_map.mp h;exact mem_map.mpr ⟨_,DF hn,rfl⟩
theorem SA (x:Str):(Au (kM due) (Sum.inr x:Key)).isSome=decide (x ∈ Aj due):=by
 unfold kM;rw [EK];show (false || _)=_;rw [Bool.false_or];unfold Gk Aj;rw [any_map];refine Bool.eq_iff_iff.mpr ?_;rw [any_eq_true,decide_eq_true_eq,mem_map];constructor
 ·rintro ⟨n,hn,e⟩;exact ⟨n,hn,Sum.inr.inj (of_decide_eq_true e)⟩
 ·rintro ⟨n,hn,e⟩;exact ⟨n,hn,decide_eq_true (congrArg Sum.inr e)⟩
theorem SB (x:Str):(Au (kN due) (Sum.inr x:Key)).isSome=decide (x ∈ due.map (·.1)):=by
 unfold kN;rw [EK];show (false || _)=_;rw [Bool.false_or];unfold Az;rw [any_map];refine Bool.eq_iff_iff.mpr ?_;rw [any_eq_true,decide_eq_true_eq,mem_map];constructor
 ·rintro ⟨n,hn,e⟩;exact ⟨n,hn,Sum.inr.inj (of_decide_eq_true e)⟩
 ·rintro ⟨n,hn,e⟩;exact ⟨n,hn,decide_eq_true (congrArg Sum.inr e)⟩
theorem Iv {α β:Type} {F:α->β->Prop} {a:α} {b:β} (h:F a b):∀ {xs:List α} {ys:List β} (j:Nat),Paired F xs ys->Paired F (xs.take j++a :: xs.drop j) (ys.take j++b :: ys.drop j)
 | _,_,0,p=>.cons h p
 | _,_,j + 1,.nil=>.cons h .nil
 | _,_,j + 1,.cons q p=>.cons q (Iv h j p)
theorem SC {α:Type} (x:α) (xs:List α) (j:Nat):(xs.take j++x :: xs.drop j).Perm (x :: xs):=by
 have h:=List.perm_middle (a:=x) (l₁:=xs.take j) (l₂:=xs.drop j);rw [take_append_drop] at h;exact h
theorem Ix (told:LK):∀ (ps ys:LK),(ps.map (·.1)).Nodup->(∀ k ∈ ps.map (·.1),Au ys k=none)->ps.foldl (JP told) ys=ys++ps.filterMap fun kv=>(Au told kv.1).map fun v=>(kv.1,v)
 | [],ys,_,_=>(append_nil _).symm
 | p :: r,ys,hn,hk=>by
  rw [map_cons,nodup_cons] at hn;have h0:=hk _ (mem_cons_self ..);rw [foldl_cons,filterMap_cons];unfold JP;cases e:Au told p.1 with
  | none=>exact Ix told r ys hn.2 fun k h=>hk k (mem_cons_of_mem _ h)
  | some v =>
   have e2:BM ys p.1 v=ys++[(p.1,v)]:=Do v h0;show r.foldl (JP told) (BM ys p.1 v)=_;rw [Ix told r _ hn.2 fun k h=>?_,e2,List.append_assoc]
   ·rfl
   ·rw [Hj,if_neg (show ¬ k=p.1 from fun z=>hn.1 (z ▸ h))];exact hk k (mem_cons_of_mem _ h)
theorem J1 (nd:(due.map (·.1)).Nodup):((Gk due).map (·.1)).Nodup:=by
 have e:(Gk due).map (·.1)=(Aj due).map fun x=>(Sum.inr x:Key):=by unfold Gk Aj; rw [map_map,map_map]; rfl
 rw [e];exact Cy (Eb nd) fun a _ b _ z=>Sum.inr.inj z
theorem FK {α β:Type} {f g:α->Option β}:∀ {l:List α},(∀ a ∈ l,f a=g a)->l.filterMap f=l.filterMap g
 | [],_=>rfl
 | a :: r,h=>by rw [filterMap_cons,filterMap_cons,h a (mem_cons_self ..),FK fun b hb=>h b (mem_cons_of_mem _ hb)]
noncomputable def A3 (f:Str->Option (Addr × List Str)) (xs:List Str):List Ent:=xs.filterMap fun x=>(f x).map fun q=>(x,q)
theorem Iy {es:List Ent} (nd:(due.map (·.1)).Nodup):F2 (kM due) (kvT es)=kvT (A3 (fun x=>es.lookup x) (Aj due)):=by
 unfold F2 kM;rw [Gm _ _ (J1 nd) fun _ _=>rfl,nil_append,Ix _ _ _ (J1 nd) fun _ _=>rfl,nil_append];unfold Gk A3 Aj kvT;rw [List.filterMap_map,List.map_filterMap,List.filterMap_map];refine FK fun n _=>?_;show (Au (kvT es) (Sum.inr (BL (AT due) n):Key)).map _=_;rw [B3];show _=Option.map _ (Option.map _ (es.lookup (BL (AT due) n)));cases es.lookup (BL (AT due) n) <;> rfl
theorem Iz {f g:Str->Option (Addr × List Str)} {xs:List Str} (h:∀ x ∈ xs,f x=g x):A3 f xs=A3 g xs:=FK fun x hx=>by rw [h x hx]
theorem F6 {f:Str->Option (Addr × List Str)} {xs:List Str} {q:Ent} (h:q ∈ A3 f xs):q.1 ∈ xs:=by
 obtain ⟨x,hx,e⟩:=List.mem_filterMap.mp h;obtain ⟨y,_,rfl⟩:=Option.map_eq_some_iff.mp e;exact hx
theorem Bv {es:List Ent} {x:Str} (h:x ∉ es.map (·.1)):es.lookup x=none:=by
 cases e:es.lookup x with
 | none=>rfl
 | some q=>exact absurd (mem_map.mpr ⟨_,CL e,rfl⟩) h
theorem Bg {es fs:List Ent} (y:Str):(es++fs).lookup y=(es.lookup y).or (fs.lookup y):=by
 induction es with
 | nil=>rfl
 | cons a r ih =>
  rw [cons_append,lookup_cons,lookup_cons];cases y == a.1 with
  | true=>rfl
  | false=>exact ih
theorem Ng {es:List Ent} {x:Str} {q:Addr × List Str} (j:Nat) (h:x ∉ es.map (·.1)) (y:Str):(es.take j++(x,q) :: es.drop j).lookup y=(es++[(x,q)]).lookup y:=by
 have e:es.lookup y=((es.take j).lookup y).or ((es.drop j).lookup y):=by rw [← Bg,take_append_drop]
 rw [Bg,Bg,e,lookup_cons];cases z:y == x with
 | false =>
  show _=Option.or (Option.or _ _) (List.lookup y [(x,q)]);rw [show List.lookup y [(x,q)]=none by rw [lookup_cons,z]; rfl,Option.or_none]
 | true =>
  have hy:=eq_of_beq z;have hn:=Bv h;rw [← hy,e] at hn;rw [show List.lookup y [(x,q)]=some q by rw [lookup_cons,z]];cases e1:(es.take j).lookup y with
  | some v=>rw [e1] at hn; cases hn
  | none =>
   rw [e1] at hn;show some q=Option.or ((es.drop j).lookup y) (some q);rw [show (es.drop j).lookup y=none from hn];rfl
structure EI (mn:List Str) (i:Nat) (tab es:List Ent):Prop where
 nd:(es.map (·.1)).Nodup
 len:es.length <= i
 tlen:tab.length <= i
 lk:∀ y,es.lookup y=tab.lookup y
 pk:tab=A3 (fun x=>tab.lookup x) (mn.take i)
 sub:∀ q ∈ es,q ∈ tab
theorem EI.out {mn:List Str} {i:Nat} {tab es:List Ent} {x:Str} (h:EI mn i tab es) (hn:mn.Nodup) (hx:mn[i]?=some x):x ∉ tab.map (·.1):=fun z=>by
 obtain ⟨q,hq,rfl⟩:=mem_map.mp z;rw [h.pk] at hq;have h1:=F6 hq;have et:mn.take (i + 1)=mn.take i++[q.1]:=by rw [take_add_one,hx]; rfl
 have h7:=hn.sublist (take_sublist (i + 1) mn);rw [et,nodup_append] at h7;exact h7.2.2 _ h1 _ (mem_singleton.mpr rfl) rfl
theorem EI.skip {mn:List Str} {i:Nat} {tab es:List Ent} {x:Str} (h:EI mn i tab es) (hn:mn.Nodup) (hx:mn[i]?=some x):EI mn (i + 1) tab es:=by
 have h1:=h.len;have h2:=h.tlen;refine ⟨h.nd,by omega,by omega,h.lk,?_,h.sub⟩;have e:=h.pk;unfold A3 at e ⊢;rw [take_add_one,hx,filterMap_append,← e];show tab=tab++List.filterMap _ [x];simp only [filterMap_cons,Bv (h.out hn hx),Option.map_none,List.filterMap_nil,append_nil]
theorem EI.put {mn:List Str} {i j:Nat} {tab es:List Ent} {x:Str} {q:Addr × List Str} (h:EI mn i tab es) (hn:mn.Nodup) (hx:mn[i]?=some x):EI mn (i + 1) (tab++[(x,q)]) (es.take j++(x,q) :: es.drop j):=by
 have h1:=h.len;have h2:=h.tlen;have pm:=SC ((x,q):Ent) es j;have ho:=h.out hn hx
 have hoe:x ∉ es.map (·.1):=fun z=>by
  obtain ⟨y,hy,e⟩:=mem_map.mp z;exact ho (e ▸ mem_map.mpr ⟨y,h.sub y hy,rfl⟩)
 have et:mn.take (i + 1)=mn.take i++[x]:=by rw [take_add_one,hx]; rfl
 have lkx:∀ y,y ∈ mn.take i->(tab++[(x,q)]).lookup y=tab.lookup y:=fun y hy=>by
  have h7:=hn.sublist (take_sublist (i + 1) mn);rw [et,nodup_append] at h7;have bn:(y == x)=false:=by simp; exact h7.2.2 y hy x (mem_singleton.mpr rfl)
  rw [Bg,show List.lookup y [(x,q)]=none by rw [lookup_cons,bn]; rfl,Option.or_none]
 refine ⟨?_,by rw [pm.length_eq,length_cons]; omega,by rw [length_append]; show tab.length + 1 <= _; omega,fun y=>?_,?_,fun e he=>?_⟩
 ·refine (pm.map (·.1)).nodup_iff.mpr ?_;rw [map_cons];exact nodup_cons.mpr ⟨hoe,h.nd⟩
 ·rw [Ng j hoe,Bg,Bg,h.lk]
 ·have e:=h.pk;rw [et]
  have:A3 (fun y=>(tab++[(x,q)]).lookup y) (mn.take i++[x])=A3 (fun y=>(tab++[(x,q)]).lookup y) (mn.take i)++[(x,q)]:=by
   unfold A3;rw [filterMap_append];congr 1
   have hl:(tab++[(x,q)]).lookup x=some q:=by
    rw [Bg,Bv ho,show List.lookup x [(x,q)]=some q by rw [lookup_cons]; simp];rfl
   simp only [filterMap_cons,hl,Option.map_some,List.filterMap_nil]
  rw [this,Iz lkx,← e]
 ·rcases mem_cons.mp (pm.mem_iff.mp he) with z | z
  ·exact mem_append_right _ (mem_singleton.mpr z)
  ·exact mem_append_left _ (h.sub e z)
theorem e2 {α0 α1:Sort _} {p:α0->α1->Prop} {T:Prop} (h:∃ x0 x1,p x0 x1) (f:∀ x0 x1,p x0 x1->T):T:=by
 obtain ⟨x0,x1,h⟩:=h;exact f x0 x1 h
theorem e3 {α0 α1 α2:Sort _} {p:α0->α1->α2->Prop} {T:Prop} (h:∃ x0 x1 x2,p x0 x1 x2) (f:∀ x0 x1 x2,p x0 x1 x2->T):T:=by
 obtain ⟨x0,x1,x2,h⟩:=h;exact f x0 x1 x2 h
noncomputable def gV3 (vs zs:List V):List V:=match vs,zs with | [a,b],[c]=>[a,b,c] | _,_=>[]
noncomputable def gU3 (us ws:List Value):List Value:=match us,ws with | [a,b],[c]=>[a,b,c] | _,_=>[]
structure Nh (P:Program) (w:World) (K:FG) (mg:SV) (base:Heap) (C:Addr):Prop where
 T:Dh K C
 cls:mg "Kind" = some (.ref C)
 make:∃ f fd,Mk K C f/\Ac P w K mg base CX0 6 f fd ["self", "rows", "rest"] (RK C) /\
  (∃ g,Mp K fd ["self", "rows", "rest"] ["rest"] g gV3)/\∃ ds,Binds K fd ["self", "rows", "rest"] ds/\Vals [.str "bar"] ds
structure Tg (P:Program) (w:World) (K:FG) (mg:SV) (base:Heap) (C EC:Addr):Prop where
 T:Ir K EC
 cls:mg "Edition" = some (.ref EC)
 make:∃ f fd,Mk K EC f/\Ac P w K mg base CX0 4 f fd ["self", "kind", "other", "pairs"] (OQ C EC)/\Binds K fd ["self", "kind", "other", "pairs"] []
section
variable {cP:Addr}
def F7:Sp:=fun vs H Q _=>∃ (d:Addr) (a b:Int),vs=[.ref d]/\H d=some (.lst [.int a,.int b])/\∀ (r:Str) H',r ∈ (["bar", "drop", "keep", "leave"]:List Str)->SameX d H H'->Q (.str r) H'
theorem SD:AM ["_law_dice"] ["_law_dice"] (defScope E5):=fsc
theorem Pu (F:Fun K "_law_rule_of" "_law_rule_of" E5 f fd) (GR:Fn P w K mg base "_law_roll" 2 ["_law_dice", "_law_many"] FA):Ac P w K mg base CX0 3 f fd ["_law_dice"] F7:=by
 obtain ⟨fR,dR,GR,mR,kR,bR⟩:=GR.ex;refine F.m SD fun vs H Q E h=>?_;obtain ⟨d,a,b,rfl,hd,k⟩:=h;refine ⟨rfl,fun af A outer s hr=>?_⟩;refine ⟨_,AE (AU (Bm (BD K rfl) (BO (AA Ag (AA Ag (AA Ag (AA Ag AC))))) (AL GR hr rfl mR kR bR .nil AN (AA (pv 0) (AA AK AC))) (fun _ _=>rfl))),?_⟩;refine ⟨sl4,fun p hp=>?_⟩;have npd:d ≠ p:=AI hd hp;refine ⟨_,rfl,d,a,b,4,rfl,by rw [AH npd]; exact hd,by decide,by decide,fun r a' b' h0 h1=>?_⟩;have hl:(upd (upd H p (.lst [.str "bar", .str "drop", .str "keep", .str "leave"])) d (.lst [.int a',.int b'])) p=some (.lst [.str "bar", .str "drop", .str "keep", .str "leave"]):=by rw [AH (Ne.symm npd),AB]
 obtain ⟨v,hv,hv2⟩:=Gg (xs:=[V.str "bar", V.str "drop", V.str "keep", V.str "leave"]) h0 (by show r < 4; exact h1)
 have hin:∃ x,v=.str x/\x ∈ (["bar", "drop", "keep", "leave"]:List Str):=by
  have:=mem_of_getElem? hv2;simp only [mem_cons,not_mem_nil,or_false] at this;rcases this with z | z | z | z
  ·exact ⟨_,z,by simp⟩
  ·exact ⟨_,z,by simp⟩
  ·exact ⟨_,z,by simp⟩
  ·exact ⟨_,z,by simp⟩
 obtain ⟨x,rfl,hx⟩:=hin;refine ⟨p,_,r,_,rfl,rfl,SqL.of hl,hv,k x _ hx ⟨fun c o e hc=>?_,⟨a',b',AB⟩⟩⟩;rw [AH hc,AH (AI e hp)];exact e
def KeepL (H H':Hp):Prop:=∀ b o,H b=some o->(∀ xs,o ≠ .lst xs)->H' b=some o
theorem KindAt.keepL {p:Addr} {r:Str} (s:KeepL H H') (h:KindAt C H p due r):KindAt C H' p due r:=by
 obtain ⟨dx,d1,o1,d2,o2,a,b,c⟩:=h.ex;exact ⟨⟨dx,d1,o1,d2,o2,s _ _ a (fun _ z=>nomatch z),s _ _ b (fun _ z=>nomatch z),s _ _ c (fun _ z=>nomatch z)⟩⟩
theorem KeepL.sameX {d:Addr} {xs:List V} (hd:H d=some (.lst xs)) (s:SameX d H H'):KeepL H H':=fun b o e h=>s.old b o e fun z=>by subst z; rw [hd] at e; cases e; exact h _ rfl
def DueL (H:Hp) (u:Addr) (due:Aa):Prop:=∃ bs:List Addr,H u=some (.lst (bs.map V.ref))/\TupsAt H bs (C4 due)
theorem DueL.sameX {d u:Addr} {xs:List V} (hd:H d=some (.lst xs)) (hu:u ≠ d) (s:SameX d H H') (h:DueL H u due):DueL H' u due:=by
 obtain ⟨bs,h1,h2⟩:=h;exact ⟨bs,s.old _ _ h1 hu,TupsAt.sameT (fun b xs e=>KeepL.sameX hd s _ _ e (fun _ z=>nomatch z)) h2⟩
theorem DueL.same {u:Addr} (s:Same H H') (h:DueL H u due):DueL H' u due:=by
 obtain ⟨bs,h1,h2⟩:=h;exact ⟨bs,s _ _ h1,TupsAt.same s h2⟩
structure EW (d t pl:Addr) (ac:Aa) (H1 H:Hp) (tab es:List Ent) (as:List Addr):Prop where
 old:∀ b o,H1 b=some o->b ≠ d->b ≠ t->b ≠ pl->H b=some o
 tup:SameT H1 H
 dice:∃ x y:Int,H d=some (.lst [.int x,.int y])
 ht:H t=some (.dK (kvT tab))
 hp:H pl=some (.lst (as.map V.ref))
 he:Paired (EntA H) as es
 tn:TabN ac H tab
theorem EW.same {d t pl:Addr} {H1:Hp} {tab es:List Ent} {as:List Addr} (s:Same H H') (h:EW d t pl ac H1 H tab es as):EW d t pl ac H1 H' tab es as:=by
 obtain ⟨x,y,h1⟩:=h.dice;exact ⟨fun b o e a1 a2 a3=>s _ _ (h.old b o e a1 a2 a3),h.tup.trans (SameT.of s),⟨x,y,s _ _ h1⟩,s _ _ h.ht,s _ _ h.hp,Paired.imp' (fun _ _ q=>q.same (SameT.of s)) h.he,h.tn.same (SameT.of s)⟩
theorem EW.roll {d t pl:Addr} {H1:Hp} {tab es:List Ent} {as:List Addr} (h:EW d t pl ac H1 H tab es as) (td:t ≠ d) (pd:pl ≠ d) (x y:Int):EW d t pl ac H1 (upd H d (.lst [.int x,.int y])) tab es as:=by
 obtain ⟨x0,y0,h1⟩:=h.dice;have st:SameT H (upd H d (.lst [.int x,.int y])):=SameT.upd h1;exact ⟨fun b o e a1 a2 a3=>by rw [AH a1]; exact h.old b o e a1 a2 a3,h.tup.trans st,⟨x,y,AB⟩,by rw [AH td]; exact h.ht,by rw [AH pd]; exact h.hp,Paired.imp' (fun _ _ q=>q.same st) h.he,h.tn.same st⟩
theorem EW.put {d t pl:Addr} {H1:Hp} {tab tab' es:List Ent} {as:List Addr} (h:EW d t pl ac H1 H tab es as) (td:t ≠ d) (tp:t ≠ pl) (hn:TabN ac H tab'):EW d t pl ac H1 (upd H t (.dK (kvT tab'))) tab' es as:=by
 obtain ⟨x0,y0,h1⟩:=h.dice;have st:SameT H (upd H t (.dK (kvT tab'))):=fun b ys e=>by rw [AH (fun z=>by subst z; rw [h.ht] at e; cases e)]; exact e
 exact ⟨fun b o e a1 a2 a3=>by rw [AH a2]; exact h.old b o e a1 a2 a3,h.tup.trans st,⟨x0,y0,by rw [AH (Ne.symm td)]; exact h1⟩,AB,by rw [AH (Ne.symm tp)]; exact h.hp,Paired.imp' (fun _ _ q=>q.same st) h.he,hn.same st⟩
theorem EW.ins {d t pl ea:Addr} {H1:Hp} {j:Nat} {tab es:List Ent} {as:List Addr} {q:Ent} (h:EW d t pl ac H1 H tab es as) (pd:pl ≠ d) (tp:t ≠ pl) (he:EntA H ea q) :
  EW d t pl ac H1 (upd H pl (.lst (Qy (as.map V.ref) j (.ref ea)))) tab (es.take j++q :: es.drop j) (as.take j++ea :: as.drop j):=by
 obtain ⟨x0,y0,h1⟩:=h.dice;have st:SameT H (upd H pl (.lst (Qy (as.map V.ref) j (.ref ea)))):=SameT.upd h.hp;refine ⟨fun b o e a1 a2 a3=>by rw [AH a3]; exact h.old b o e a1 a2 a3,h.tup.trans st,⟨x0,y0,by rw [AH (Ne.symm pd)]; exact h1⟩,by rw [AH tp]; exact h.ht,?_,Iv (he.same st) j (Paired.imp' (fun _ _ q=>q.same st) h.he),h.tn.same st⟩;rw [AB];unfold Qy;rw [map_append,map_cons,map_take,List.map_drop]
theorem OS {tab:List Ent} {x:Str} {q:Addr × List Str} (h:x ∉ tab.map (·.1)):BM (kvT tab) (Sum.inr x:Key) (V.ref q.1)=kvT (tab++[(x,q)]):=by
 rw [Do _ (by rw [B3,Bv h]; rfl)];unfold kvT;rw [map_append];rfl
theorem Ti {ms:List Addr} {x y:Int} (h:some (HO.lst [.int x,.int y])=some (HO.lst (ms.map V.ref))):False:=by
 injection h with h
 injection h with h
 cases ms with
 | nil=>cases h
 | cons a r=>cases h
theorem Dd {ms:List Addr} {i:Nat} {v:V} (h:TupsAt H ms (Br due)) (e:(ms.map V.ref)[i]?=some v):∃ b n,v=.ref b/\(AJ due)[i]?=some n/\H b=some (.tup [.str (BL (AT due) n),.int (n:Int)]):=by
 rw [getElem?_map] at e;obtain ⟨b,hb,rfl⟩:=Option.map_eq_some_iff.mp e;obtain ⟨p,hp,ht⟩:=Bt h hb;unfold Br at hp;rw [getElem?_map] at hp;obtain ⟨n,hn,rfl⟩:=Option.map_eq_some_iff.mp hp;exact ⟨b,n,rfl,hn,ht⟩
def SE (C EC:Addr):Sp:=fun vs H Q _=>∃ (d:Addr) (a b:Int),vs=[.ref d,.int 6]/\H d=some (.lst [.int a,.int b]) /\
 ∀ (q p k o t u u2:Addr) (rows ag:List (Str × Th)) (r r2:Str) (tab:List Ent) H',SameX d H H'->H' q=some (.tup [.ref p,.ref t,.ref u,.ref u2])->EdAt EC H' p k o (kvT tab)->H' t=some (.dK (kvT tab))->tab=A3 (fun x=>tab.lookup x) (Aj (AX rows))->TabN (AX ag) H' tab->KindAt C H' k (AX rows) r->KindAt C H' o (AX ag) r2->r ∈ ruleNames->r2 ∈ ruleNames->DueL H' u (AX rows)->DueL H' u2 (AX ag)->u ≠ d->u2 ≠ d ->
  0 < rows.length->rows.length <= 6->C3 rows->(∀ x ∈ rows.map (·.1),x ∈ wordsL)->0 < ag.length->ag.length <= 6->C3 ag->(∀ x ∈ ag.map (·.1),x ∈ wordsL)->Q (.ref q) H'
noncomputable abbrev NEd:List Str:=["_law_dice", "_law_high", "_law_rows", "_law_due", "_law_more", "_law_next_due", "_law_kind", "_law_other", "_law_name", "_law_table", "_law_names", "_law_pairs", "_law_bit"]
theorem scEd:AM NEd ["_law_dice", "_law_high"] (defScope D4):=fsc
theorem U5 (F:Fun K "_law_edition" "_law_edition" D4 f fd) (B:Bl mg) (KO:Nh P w K mg base C) (EO:Tg P w K mg base C EC) (GR:Fn P w K mg base "_law_roll" 2 ["_law_dice", "_law_many"] FA) (GRu:Fn P w K mg base "_law_rule_of" 3 ["_law_dice"] F7) (GL:Fn P w K mg base "_law_lines" 3 ["_law_dice", "_law_most"] HI) (GT:Fn P w K mg base "_law_table_of" 2 ["_law_due"] Fw) :
  Ac P w K mg base CX0 8 f fd ["_law_dice", "_law_high"] (SE C EC):=by
 obtain ⟨fR,dR,GR,mR,kR,bR⟩:=GR.ex;obtain ⟨fU,dU,GU,mU,kU,bU⟩:=GRu.ex;obtain ⟨fL,dL,GL,mL,kL,bL⟩:=GL.ex;obtain ⟨fT,dT,GT,mT,kT,bT⟩:=GT.ex;obtain ⟨fI,dI,MI,GI,⟨gI,kbI⟩,ds,bI,vI⟩:=KO.make;obtain ⟨fE,dE,ME,GE,bE⟩:=EO.make;have mC:=KO.cls;have mE:=EO.cls;refine F.m scEd fun vs H Q E h=>?_;obtain ⟨d,a,b,rfl,hd,k⟩:=h;refine ⟨rfl,fun af A outer s hr=>?_⟩;have hu:=Cr hr;have hr2:Room 2 _:=hr.mono (by decide);have hr3:Room 3 _:=hr.mono (by decide);have hr5:Room 5 _:=hr.mono (by decide)
 refine ⟨_,AG (CT (AL GL hr3 rfl mL kL bL .nil AN (AA (pv 0) (AA (pv 1) AC))) (BK rfl (AS (AR (i:=2) scEd.nd rfl (Or.inl rfl)) (AS (AR (i:=3) scEd.nd rfl (Or.inl rfl)) A1))))
  (AG (CT (AL GL hr3 rfl mL kL bL .nil AN (AA (pv 0) (AA (pv 1) AC))) (BK rfl (AS (AR (i:=4) scEd.nd rfl (Or.inl rfl)) (AS (AR (i:=5) scEd.nd rfl (Or.inl rfl)) A1))))
  (AG (P9 (i:=6) (j:=7) rfl scEd.nd rfl rfl (by decide) rfl rfl (AA (Hu MI GI hr rfl mC kbI (AA (pv 2) AC) (HD (AL GU hr3 rfl mU kU bU .nil AN (AA (pv 0) AC)) KG)) (AA (Hu MI GI hr rfl mC kbI (AA (pv 4) AC) (HD (AL GU hr3 rfl mU kU bU .nil AN (AA (pv 0) AC)) KG)) AC)) (by kernel_rfl))
  (AG (CT (hs:=by kernel_rfl) (hw:=by kernel_rfl) (A6 (AA C8 (AA (Dq [] [] (by kernel_rfl) (by decide +kernel) (by kernel_rfl) (by kernel_rfl) rfl (A2 (pv 5)) (fun _ _ _ _ _ _=>BF) (fun _ _ _ _ _ _=>pv 0)) (AA (BO AC) AC))))
   (BK rfl (AS (AR (i:=9) scEd.nd rfl (Or.inl rfl)) (AS (AR (i:=10) scEd.nd rfl (Or.inr rfl)) (AS (AR (i:=11) scEd.nd rfl (Or.inl rfl)) A1)))))
  (AG (Bs PassesOwn.never rfl (A2 (BJ hu (AL GT hr2 rfl mT kT bT .nil AN (AA (pv 3) AC)) Ag (fun _ _=>rfl))) (BK rfl (AS (AR (i:=8) scEd.nd rfl (Or.inl rfl)) (AS (AR (i:=12) scEd.nd rfl (Or.inl rfl)) A1)))
   (AE (An (AY K6 (AL GR hr2 rfl mR kR bR .nil AN (AA (pv 0) (AA AK AC))) AK (Ad _))
    (AG (FU hu (pv 9) (pv 8) (BH CI rfl B.tuple BY (AA (BB ["_law_names", "_law_dice"] [some 10,some 0] (by kernel_rfl) (by decide +kernel) (by kernel_rfl) rfl (B6 rfl B.range (AA (AL GR hr2 rfl mR kR bR .nil AN (AA (pv 0) (AA AK AC))) AC)) (fun _ _ _ _ _ _=>BF)
     (fun _ _ _ _ _ _=>Bm (BD K rfl) (pv 1) (AL GR hr2 rfl mR kR bR .nil AN (AA (pv 2) (AA (AZ (BI K rfl) rfl B.len PySem.boot_len (AA (pv 1) AC)) AC))) (fun _ _=>rfl))) AC)) rfl)
    (AE (CH (Gs PySem.F.plainAttrs_list PySem.F.slot_list_insert PySem.F.type_list_insert PJ (pv 11) (AA (AL GR hr2 rfl mR kR bR .nil AN (AA (pv 0) (AA (Af DK (AZ (BI K rfl) rfl B.len PySem.boot_len (AA (pv 11) AC)) AK) AC))) (AA (A6 (AA (pv 8) (AA (BJ hu (pv 9) (pv 8) (fun _ _=>rfl)) AC))) AC))))))
    AW)))
  (AE (AU (A6 (AA (Cq ME GE hr5 rfl mE bE .nil AN (AA (pv 6) (AA (pv 7) (AA (pv 11) AC)))) (AA (pv 9) (AA (pv 3) (AA (pv 5) AC))))))))))),?_⟩
 refine ⟨_,rfl,_,rfl,d,a,b,6,rfl,by decide,by decide,hd,fun q1 f1 u1 fs1 bs1 rows Ha sXa hq1 hf1n hu1n hf1 hP1 hu1 hbs1 r0 r6 RO bd=>?_⟩;refine ⟨q1,_,rfl,SqT.of hq1,rfl,_,_,rfl,_,_,rfl,rfl,?_⟩;obtain ⟨xa,ya,hda⟩:=sXa.dice;have f1d:f1 ≠ d:=fun z=>by rw [z,hd] at hf1n; cases hf1n
 have u1d:u1 ≠ d:=fun z=>by rw [z,hd] at hu1n; cases hu1n
 refine ⟨_,rfl,_,rfl,d,xa,ya,6,rfl,by decide,by decide,hda,fun q2 f2 u2 fs2 bs2 ag Hb sXb hq2 hf2n hu2n hf2 hP2 hu2 hbs2 r0' r6' RO2 fb=>?_⟩;refine ⟨q2,_,rfl,SqT.of hq2,rfl,_,_,rfl,_,_,rfl,rfl,?_⟩;have f2d:f2 ≠ d:=fun z=>by rw [z,hda] at hf2n; cases hf2n
 have u2d:u2 ≠ d:=fun z=>by rw [z,hda] at hu2n; cases hu2n
 obtain ⟨xb,yb,hdb⟩:=sXb.dice;have hf1b:=sXb.old _ _ hf1 f1d;have hP1b:Paired (RowAt Hb) fs1 rows:=BW (fun b xs e=>KeepL.sameX hda sXb _ _ e (fun _ z=>nomatch z)) hP1;have D1b:DueL Hb u1 (AX rows):=DueL.sameX hda u1d sXb ⟨bs1,hu1,hbs1⟩;have D2b:DueL Hb u2 (AX ag):=⟨bs2,hu2,hbs2⟩;refine ⟨_,rfl,_,rfl,d,xb,yb,rfl,hdb,fun ra Hc hra sXc=>?_⟩;intro k1 dx1 hk1 hdx1 hne1;have sN1:=Bf (D:=C) hk1 hdx1 hne1;refine ⟨k1,dx1,f1,rows,ra,rfl,AB,⟨fs1,sN1 _ _ (sXc.old _ _ hf1b f1d),BW (SameT.of sN1) (BW (fun b xs e=>KeepL.sameX hdb sXc _ _ e (fun _ z=>nomatch z)) hP1b)⟩,r0,by omega,RO,hra,fun Hd sd KA=>⟨rfl,?_⟩⟩;have SXd:SameX d Hb Hd:=sXc.step (BS sN1 hk1 sd);obtain ⟨xd,yd,hdd⟩:=SXd.dice;refine ⟨_,rfl,_,rfl,d,xd,yd,rfl,hdd,fun rb He hrb sXe=>?_⟩;intro k2 dx2 hk2 hdx2 hne2;have sN2:=Bf (D:=C) hk2 hdx2 hne2;have SXe:=SXd.trans sXe;refine ⟨k2,dx2,f2,ag,rb,rfl,AB,⟨fs2,sN2 _ _ (SXe.old _ _ hf2 f2d),BW (SameT.of sN2) (BW (fun b xs e=>KeepL.sameX hdb SXe _ _ e (fun _ z=>nomatch z)) hP2)⟩,r0',by omega,RO2,hrb,fun Hf sf KB=>⟨rfl,?_⟩⟩;have sE2:Same He Hf:=BS sN2 hk2 sf;have SXf:SameX d Hb Hf:=SXe.step sE2;have KA1:KindAt C Hf k1 (AX rows) ra:=(KA.keepL (KeepL.sameX hdd sXe)).same sE2;have D1f:=D1b.sameX hdb u1d SXf;have D2f:=D2b.sameX hdb u2d SXf;have SXH:SameX d H Hf:=(sXa.trans sXb).trans SXf;obtain ⟨xf,yf,hdf⟩:=SXf.dice;refine ⟨_,_,rfl,?_⟩;clear sN1 sN2 sd sf SXe SXd hP1 hP2 hP1b hf1b hk1 hk2 hdx1 hdx2 sXc sXe KA sE2 SXf hdd hdb D1b D2b;refine fun t ht=>?_;have st:=AD (Same.refl _) ht (o:=HO.dK []);have htt:=AB (H:=Hf) (a:=t) (o:=HO.dK []);generalize upd Hf t (HO.dK [])=Hg at st htt ⊢;obtain ⟨cs,bv,bt⟩:=D2f.same st;have ak:=Cb bt;refine ⟨_,rfl,u2,rfl,⟨_,SqL.of bv⟩,BR (K:=K) (a:=u2) (xs:=cs.map V.ref) (fun j ys H3=>ys=(((AX ag).take j).map (·.1)).map V.str/\H3=Hg) ⟨by rfl,rfl⟩ (fun j ys H3 _ ⟨_,e⟩=>e ▸ SqL.of bv) (fun j ys H3 ⟨e,_⟩=>?_) ?_ ?_⟩
 ·rw [e,AF,AF,length_take,Ar]; omega
 ·rintro j v ys H3 hj ⟨rfl,rfl⟩;obtain ⟨bb,p,rfl,hb1,aw,av⟩:=CD bt hj;refine ⟨bb,_,rfl,SqT.of av,rfl,_,_,rfl,_,_,rfl,rfl,?_⟩;refine ⟨_,rfl,?_,rfl⟩;rw [take_add_one,aw,Option.toList_some,map_append,map_append];rfl
 rintro ys H3 ⟨rfl,rfl⟩ nl hnl;rw [show (AX ag).take (cs.map V.ref).length=AX ag by rw [AF,ak,← Ar,take_length]];generalize hnm:(AX ag).map (·.1)=nms2;have sn:=AD (Same.refl _) hnl (o:=HO.lst (nms2.map V.str));have hnn:=AB (H:=H3) (a:=nl) (o:=HO.lst (nms2.map V.str));generalize upd H3 nl (HO.lst (nms2.map V.str))=Hh at sn hnn ⊢;refine ⟨Nat.zero_le _,fun pl hpl=>⟨sl3,fun tq htq=>⟨tq,_,rfl,SqT.of AB,rfl,_,_,rfl,_,_,rfl,_,_,rfl,rfl,?_⟩⟩⟩;have sp:=AD (Same.refl _) hpl (o:=HO.lst []);have hpp:=AB (H:=Hh) (a:=pl) (o:=HO.lst []);have sq:=AD (Same.refl _) htq (o:=HO.tup [.ref t,.ref nl,.ref pl]);have sf5:=st.trans (sn.trans (sp.trans sq));have ht5:=sq _ _ (sp _ _ (sn _ _ htt));have hn5:=sq _ _ (sp _ _ hnn);have hp5:=sq _ _ hpp;have td:t ≠ d:=Ne.symm (AI hdf ht);have nld:nl ≠ d:=Ne.symm (AI (st _ _ hdf) hnl);have pd:pl ≠ d:=Ne.symm (AI (sn _ _ (st _ _ hdf)) hpl);have tp:t ≠ pl:=AI (sn _ _ htt) hpl;have nt:nl ≠ t:=Ne.symm (AI htt hnl);have np:nl ≠ pl:=AI hnn hpl;have hpf:Hf pl=none:=none_of (st.trans sn) hpl;generalize upd (upd Hh pl (HO.lst [])) tq (HO.tup [.ref t,.ref nl,.ref pl])=H5 at sf5 ht5 hn5 hp5 ⊢;clear sp sq sn st hnn htt hpp bt bv hnl hpl htq;have DO:=EB RO (show rows.length <= 10 by omega);obtain ⟨bs,hu5,hbs5⟩:=D1f.same sf5;refine ⟨_,rfl,u1,bs,AX rows,rfl,hu5,hbs5,by rw [Ar]; omega,DO.lt,fun tb e m ms H6 s6 _ bi he hm bj=>?_⟩;have s56:=sf5.trans s6;have hd6:=s56 _ _ hdf;have md:m ≠ d:=fun z=>by rw [z,hd6] at hm; exact Ti hm
 have mt:m ≠ t:=fun z=>by rw [z,s6 _ _ ht5] at hm; cases hm
 have hmp:m=pl->ms=[]:=fun z=>by rw [z,s6 _ _ hp5] at hm; cases ms with | nil=>rfl | cons a r=>cases hm
 have W0:EW d t pl (AX ag) H6 H6 [] [] []:=⟨fun b o e _ _ _=>e,fun _ _ e=>e,⟨_,_,hd6⟩,s6 _ _ ht5,s6 _ _ hp5,.nil,fun q hq=>by cases hq⟩;have hmn:=Eb DO.nd;have I0:EI (Aj (AX rows)) 0 [] []:=⟨nodup_nil,Nat.le_refl _,Nat.le_refl _,fun _=>rfl,rfl,fun q hq=>by cases hq⟩
 refine ⟨tb,_,rfl,.inl ⟨_,Sum.inr "marks", .inl bi,rfl,(EZ _ _ _).symm⟩,m,rfl,⟨_,SqL.of hm⟩,Ba (K:=K) (a:=m) (xs:=ms.map V.ref) (fun i σ H7=>(∃ v8 v12:Option V,σ=[some (.ref d),some (.int 6),some (.ref f1),some (.ref u1),some (.ref f2),some (.ref u2),some (.ref k1),some (.ref k2),v8,some (.ref t),some (.ref nl),some (.ref pl),v12])/\(∃ tab es as,EI (Aj (AX rows)) i tab es/\EW d t pl (AX ag) H6 H7 tab es as)/\(i=0->H7=H6))
  ⟨⟨none,none,rfl⟩,⟨[],[],[],I0,W0⟩,fun _=>rfl⟩ (fun i σ H7 hi ⟨_,⟨_,_,_,_,W⟩,hz⟩=>?_) ?_ ?_⟩
 ·by_cases z:i=0
  ·rw [hz z];exact SqL.of hm
  ·refine SqL.of (W.old _ _ hm md mt fun q=>?_);rw [hmp q] at hi;exact z (Nat.le_zero.mp hi)
 ·intro i v σ H7 hi hv;refine e2 hv.1 fun v8 v12 ev=>?_;refine e3 hv.2.1 fun tab es as hv=>?_;have EI0:=hv.1;have W:=hv.2;clear hv;subst ev;obtain ⟨bb,n,rfl,hn,av⟩:=Dd (TupsAt.sameT W.tup bj) hi;have hxi:(Aj (AX rows))[i]?=some (BL (AT (AX rows)) n):=by unfold Aj; rw [getElem?_map,hn]; rfl
  have hi10:i < 10:=by
   have h1:=(List.getElem?_eq_some_iff.mp hn).1;have h2:=BE (AX rows);rw [Ar] at h2;omega
  generalize BL (AT (AX rows)) n=x at av hxi;refine ⟨bb,_,rfl,SqT.of av,rfl,_,_,rfl,_,_,rfl,rfl,?_⟩;obtain ⟨x7,y7,hd7⟩:=W.dice;refine ⟨_,rfl,d,x7,y7,6,rfl,hd7,by decide,by decide,fun rr a1 b1 rr0 rr6=>?_⟩;have W8:=W.roll td pd a1 b1;refine ⟨_,_,rfl,rfl,_,rfl,?_⟩;refine Bp (fun _=>?_) (fun _=>⟨⟨_,_,rfl⟩,⟨tab,es,as,EI0.skip hmn hxi,W8⟩,fun z=>by cases z⟩);obtain ⟨x8,y8,hd8⟩:=W8.dice;refine ⟨_,rfl,d,x8,y8,3,rfl,hd8,by decide,by decide,fun r1 a2 b2 r10 r13=>?_⟩;have W9:=W8.roll td pd a2 b2;refine ⟨_,rfl,by omega,by omega,?_⟩;refine Ce (lo:=0) (n:=r1.toNat) (fun j ys H9=>∃ ns:List Str,ys=ns.map V.str/\ns.length=j/\j <= 3/\(∀ x ∈ ns,x ∈ nms2)/\EW d t pl (AX ag) H6 H9 tab es as) ⟨[],rfl,rfl,by decide,(fun x hx=>nomatch hx),W9⟩ ?_ ?_ ?_
  ·rintro j ys H9 ⟨ns,rfl,e,h3,_⟩;rw [AF]; omega
  ·rintro j ys H9 hj ⟨ns,rfl,e,h3,hin,L9⟩;obtain ⟨x2,y2,e2⟩:=L9.dice;have hn9:H9 nl=some (.lst (nms2.map V.str)):=L9.old _ _ (s6 _ _ hn5) nld nt np;have hn0:0 < (nms2.map V.str).length:=by rw [AF,← hnm,AF,Ar]; exact r0'
   have hn6:(nms2.map V.str).length <= 8:=by rw [AF,← hnm,AF,Ar]; omega
   refine ⟨_,rfl,_,rfl,_,rfl,nl,_,rfl,.inl (SqL.of hn9),d,x2,y2,_,rfl,e2,by omega,by omega,fun r2 a2 b2 r20 r21=>?_⟩;have hn10:(upd H9 d (.lst [.int a2,.int b2])) nl=some (.lst (nms2.map V.str)):=by rw [AH nld]; exact hn9
   obtain ⟨v,hv,hv2⟩:=Gg (xs:=nms2.map V.str) r20 (by exact r21);rw [getElem?_map] at hv2;obtain ⟨y,hy,rfl⟩:=Option.map_eq_some_iff.mp hv2;refine ⟨nl,_,r2,_,rfl,rfl,SqL.of hn10,hv,?_⟩;refine ⟨ns++[y],by rw [map_append]; rfl,by rw [length_append,e]; rfl,by omega,fun x hx=>?_,L9.roll td pd a2 b2⟩;rcases mem_append.mp hx with z | z
   ·exact hin x z
   ·rw [mem_singleton] at z;subst z;exact mem_of_getElem? hy
  ·rintro ys H9 ⟨ns,rfl,e,h3,hin,L9⟩ l hl;have L10:=L9.same (AD (Same.refl _) hl (o:=HO.lst (ns.map V.str)));refine ⟨l,_,rfl,.inl ⟨SqL.of AB,fun c hc=>?_⟩⟩;have L11:=L10.same (AD (Same.refl _) hc (o:=HO.tup (ns.map V.str)));have hc11:=AB (H:=upd H9 l (.lst (ns.map V.str))) (a:=c) (o:=HO.tup (ns.map V.str));generalize upd (upd H9 l (.lst (ns.map V.str))) c (.tup (ns.map V.str))=H11 at L11 hc11 ⊢;have hk11:=L11.ht;have hkl:(kvT tab).length <= i:=by have:=EI0.tlen; unfold kvT; rw [AF]; exact this
   have hxo:=EI0.out hmn hxi;refine ⟨_,rfl,_,rfl,t,_,rfl,.inl ⟨kvT tab,Sum.inr x,hk11,rfl,Ab (by omega),rfl⟩,?_⟩;rw [OS (q:=(c,ns)) hxo]
   have tn:TabN (AX ag) H11 (tab++[(x,c,ns)]):=fun q hq=>by
    rcases mem_append.mp hq with z | z
    ·exact L11.tn q z
    ·rw [mem_singleton] at z;subst z;exact ⟨hc11,by show ns.length <= 18; omega,fun y hy=>by rw [hnm]; exact hin y hy⟩
   have L12:=L11.put td tp tn;generalize upd H11 t (.dK (kvT (tab++[(x,c,ns)])))=H12 at L12 ⊢;have bh:as.length=es.length:=L12.he.length;have bg:=EI0.len;obtain ⟨x12,y12,hd12⟩:=L12.dice;refine ⟨_,rfl,.inl ⟨rfl,_,SqL.of L12.hp⟩,_,rfl,_,rfl,pl,_,rfl,.inl (SqL.of L12.hp),_,_,rfl,rfl,d,x12,y12,_,rfl,hd12,by rw [AF]; omega,by rw [AF]; omega,fun r3 a3 b3 r30 r31=>?_⟩;obtain ⟨j,rfl⟩:=Int.eq_ofNat_of_zero_le r30;rw [AF] at r31;have L13:=L12.roll td pd a3 b3;generalize upd H12 d (.lst [.int a3,.int b3])=H13 at L13 ⊢
   have hlk:(tab++[(x,c,ns)]).lookup x=some (c,ns):=by
    rw [Bg,Bv hxo,show List.lookup x [(x,c,ns)]=some (c,ns) by rw [lookup_cons]; simp];rfl
   refine ⟨_,rfl,_,rfl,_,rfl,t,_,rfl,.inl ⟨_,Sum.inr x,.inl L13.ht,rfl,by rw [B3,hlk]; rfl⟩,sl2,fun ea hea=>?_⟩;have s14:=AD (Same.refl _) hea (o:=HO.tup [.str x,.ref c]);have he14:=AB (H:=H13) (a:=ea) (o:=HO.tup [.str x,.ref c]);have L14:=L13.same s14;generalize upd H13 ea (.tup [.str x,.ref c])=H14 at s14 he14 L14 ⊢;refine ⟨pl,_,j,_,rfl,rfl,L14.hp,by rw [AF]; omega,by rw [AF]; omega,?_⟩;exact ⟨⟨_,_,rfl⟩,⟨_,_,_,EI0.put (q:=(c,ns)) hmn hxi,L14.ins (q:=(x,c,ns)) pd tp ⟨he14,(L14.tn (x,c,ns) (mem_append_right _ (mem_singleton.mpr rfl))).1⟩⟩,fun z=>by cases z⟩
 ·intro σ H7 hv;refine e2 hv.1 fun v8 v12 ev=>?_;refine e3 hv.2.1 fun tab es as hv=>?_;have EI0:=hv.1;have W:=hv.2;clear hv;subst ev;have SX7:SameX d Hf H7:=⟨fun b o e hb=>W.old b o (s56 _ _ e) hb (AI e ht) (AI e hpf),W.dice⟩;have kl:=KeepL.sameX hdf SX7;have KA7:=KA1.keepL kl;have KB7:=KB.keepL kl;have bh:as.length=es.length:=W.he.length
  have bf:(ms.map V.ref).length <= 8/\(Aj (AX rows)).length=(ms.map V.ref).length:=by
   have h1:=bj.length;have h2:=BE (AX rows);rw [Ar] at h2;unfold Br at h1;rw [AF] at h1;unfold Aj;rw [AF,AF];omega
  have bg:=EI0.len
  have al:tab=A3 (fun x=>tab.lookup x) (Aj (AX rows)):=by
   have:=EI0.pk;rw [take_of_length_le (by omega)] at this;exact this
  refine ⟨_,rfl,_,rfl,_,rfl,?_⟩;intro p dx bp bo bn;have sN:=Bf (D:=EC) bp bo bn;have W7:=W.same sN
  have PR:Prs (AX rows) (AX ag) (upd (upd H7 dx (.own p)) p (.ins EC dx [])) pl es:=⟨⟨as,W7.hp,W7.he⟩,by omega,EI0.nd,fun q hq=>by
   have h1:=EI0.sub q hq;rw [al] at h1;rw [SA,decide_eq_true (F6 h1)],fun q hq=>by
   have h1:=W.tn q (EI0.sub q hq)
   exact ⟨h1.2.1,fun y hy=>by rw [SB,decide_eq_true (h1.2.2 y hy)]⟩⟩
  refine ⟨p,dx,k1,k2,pl,AX rows,AX ag,ra,rb,es,rfl,AB,KA7.same sN,by rw [Ar]; omega,KB7.same sN,by rw [Ar]; omega,PR,fun H8 s8 ED=>⟨rfl,?_⟩⟩;have s78:Same H7 H8:=BS sN bp s8;refine ⟨_,rfl,_,rfl,_,rfl,sl4,fun q hq=>?_⟩;have s9:=s78.trans (AD (Same.refl _) hq (o:=HO.tup [.ref p,.ref t,.ref u1,.ref u2]))
  have ED9:EdAt EC H8 p k1 k2 (kvT tab):=by
   have h:=ED;rw [Iy DO.nd,Iz (fun x _=>EI0.lk x),← al] at h;exact h
  exact k q p k1 k2 t u1 u2 rows ag ra rb tab _ ((SXH.trans SX7).step s9) AB (ED9.same (AD (Same.refl _) hq)) (s9 _ _ W.ht) al (W.tn.same (SameT.of s9)) (KA7.same s9) (KB7.same s9) hra hrb ((D1f.sameX hdf u1d SX7).same s9) ((D2f.sameX hdf u2d SX7).same s9) u1d u2d r0 (by omega) RO bd r0' (by omega) RO2 fb
end
section
def Ni (C VC:Addr):Sp:=fun vs H Q _=>∃ (kp l:Addr) (due:Aa) (r:Str) (ns:List Str),vs=[.ref kp,.ref l]/\KindAt C H kp due r/\H l=some (.tup (ns.map V.str))/\ns.length <= 200/\(∀ x ∈ ns,x ∈ due.map (·.1))/\(∀ p ∈ due,p.2 < 2 ^ 20) /\
 ∀ q H',Same H H'->ValAt VC H' q kp (AQ (ns.map (look due)))->Q (.ref q) H'
theorem MO (F:Fun K "value_of" "value_of" Fi f fd) (B:Bl mg) (T:Dh K C) (VO:Lz P w K mg base C VC) (GU:Fn P w K mg base "union_of" 1 ["numbers"] (CB K)) (GNu:Mt P w K mg base C "number" 2 ["self", "name"] (Fv C)) :
  Ac P w K mg base CX0 6 f fd ["kind", "names"] (Ni C VC):=by
 obtain ⟨fU,dU,GU,mU,kU,bU⟩:=GU.ex;obtain ⟨fN,dN,GN,mN,bN⟩:=GNu.ex;obtain ⟨fI,dI,MI,GI,bI⟩:=VO.make;have mV:=VO.cls;refine F.m Jz fun vs H Q E h=>?_;obtain ⟨kp,l,due,r,ns,rfl,KA,hl,hn,hs,hlt,k⟩:=h;refine ⟨rfl,fun af A outer s hr=>?_⟩;have hr1:Room 1 _:=hr.mono (by decide);have hr2:Room 2 _:=hr.mono (by decide);obtain ⟨dxk,d1,d2,al⟩:=KA.ins;have hnl:(ns.map V.str).length=ns.length:=AF _
 have step:∀ (Hx:Hp),Same H Hx->∀ (i:Nat) (v:V) (ys:List V),(ns.map V.str)[i]?=some v->ys=A4 ((ns.take i).map (look due))->∃ x,v=V.str x/\x ∈ due.map (·.1)/\ys++[V.int (look due x:Nat)]=A4 ((ns.take (i + 1)).map (look due)):=by
  intro Hx sx i v ys hi e;rw [getElem?_map] at hi;obtain ⟨x,hx,rfl⟩:=Option.map_eq_some_iff.mp hi;refine ⟨x,rfl,hs x (mem_of_getElem? hx),?_⟩;rw [e,take_add_one,hx,Option.toList_some,map_append];unfold A4;rw [map_append];rfl
 have el:ns.take (ns.map V.str).length=ns:=by rw [hnl]; exact take_length
 refine ⟨_,AG (An (BU (BG (AZ (Hv K rfl) rfl B.isi D5 (AA (pv 1) (AA (A6 (AA (EM (v:=.ty "list") rfl B.list Ct rfl) (AA (EM (v:=.ty "tuple") rfl B.tuple BY rfl) AC))) AC))))) (AE Ao) AW)
  (AE (AU (Cq MI GI hr rfl mV bI .nil AN (AA (pv 0) (AA (AL GU hr1 rfl mU kU bU .nil AN (AA (BB ["kind"] [some 0] (by kernel_rfl) (by decide +kernel) (by kernel_rfl) rfl (HU (pv 1)) (fun _ _ _ _ _ _=>BF) (fun _ _ _ _ _ _=>CV (pv 1) T.cl mN GN hr2 bN .nil AN (AA (pv 0) AC))) AC)) AC))))),?_⟩
 refine ⟨_,rfl,sl2,fun t ht=>?_⟩;have s1:=AD (Same.refl _) ht (o:=HO.tup [V.ty "list", V.ty "tuple"]);refine ⟨l,t,_,rfl,.inr (s1 _ _ hl),SqT.of AB,_,rfl,?_⟩;refine Aw ?_;refine ⟨_,rfl,_,rfl,l,rfl,⟨_,SqT.of (s1 _ _ hl)⟩,FY (K:=K) (a:=l) (xs:=ns.map V.str) (fun i ys H2=>ys=A4 ((ns.take i).map (look due))/\H2=upd H t (.tup [V.ty "list", V.ty "tuple"])) ⟨rfl,rfl⟩ (fun i ys H2 _ ⟨_,e⟩=>e ▸ SqT.of (s1 _ _ hl)) (fun i ys H2 ⟨e,_⟩=>?_) ?_ ?_⟩
 ·rw [e]; unfold A4; rw [AF,AF,length_take]; omega
 ·rintro i v ys H2 hi ⟨e,rfl⟩;obtain ⟨x,rfl,hx,ey⟩:=step _ s1 i v ys hi e;exact ⟨_,rfl,kp,dxk,_,rfl,s1 _ _ al,(Bj _ _ _),_,rfl,kp,due,r,x,rfl,KA.same s1,hx,ey,rfl⟩
 ·rintro ys H2 ⟨rfl,rfl⟩ p hp;rw [el];have s2:=s1.trans (AD (Same.refl _) hp (o:=HO.lst (A4 (ns.map (look due)))));refine ⟨p,ns.map (look due),rfl,SqL.of AB,?_⟩;intro q dq hq hdq bn;have sN:=Bf (D:=VC) hq hdq bn;refine ⟨q,dq,kp,due,r,AQ (ns.map (look due)),rfl,AB,(KA.same s2).same sN,?_,.inr (Ip hs),fun H3 s3 hV=>⟨rfl,?_⟩⟩
  ·have:=Iq (ns:=ns) hlt;have h2:(2:Nat) ^ 20 < 2 ^ 40:=by decide
   omega
  ·exact k q H3 (s2.trans (BS sN hq s3)) hV
end
theorem e4 {α0 α1 α2 α3:Sort _} {p:α0->α1->α2->α3->Prop} {T:Prop} (h:∃ x0 x1 x2 x3,p x0 x1 x2 x3) (f:∀ x0 x1 x2 x3,p x0 x1 x2 x3->T):T:=by
 obtain ⟨x0,x1,x2,x3,h⟩:=h;exact f x0 x1 x2 x3 h
theorem e5 {α0 α1 α2 α3 α4:Sort _} {p:α0->α1->α2->α3->α4->Prop} {T:Prop} (h:∃ x0 x1 x2 x3 x4,p x0 x1 x2 x3 x4) (f:∀ x0 x1 x2 x3 x4,p x0 x1 x2 x3 x4->T):T:=by
 obtain ⟨x0,x1,x2,x3,x4,h⟩:=h;exact f x0 x1 x2 x3 x4 h
theorem e6 {α0 α1 α2 α3 α4 α5:Sort _} {p:α0->α1->α2->α3->α4->α5->Prop} {T:Prop} (h:∃ x0 x1 x2 x3 x4 x5,p x0 x1 x2 x3 x4 x5) (f:∀ x0 x1 x2 x3 x4 x5,p x0 x1 x2 x3 x4 x5->T):T:=by
 obtain ⟨x0,x1,x2,x3,x4,x5,h⟩:=h;exact f x0 x1 x2 x3 x4 x5 h
theorem e9 {α0 α1 α2 α3 α4 α5 α6 α7 α8:Sort _} {p:α0->α1->α2->α3->α4->α5->α6->α7->α8->Prop} {T:Prop} (h:∃ x0 x1 x2 x3 x4 x5 x6 x7 x8,p x0 x1 x2 x3 x4 x5 x6 x7 x8) (f:∀ x0 x1 x2 x3 x4 x5 x6 x7 x8,p x0 x1 x2 x3 x4 x5 x6 x7 x8->T):T:=by
 obtain ⟨x0,x1,x2,x3,x4,x5,x6,x7,x8,h⟩:=h;exact f x0 x1 x2 x3 x4 x5 x6 x7 x8 h
theorem e10 {α0 α1 α2 α3 α4 α5 α6 α7 α8 α9:Sort _} {p:α0->α1->α2->α3->α4->α5->α6->α7->α8->α9->Prop} {T:Prop} (h:∃ x0 x1 x2 x3 x4 x5 x6 x7 x8 x9,p x0 x1 x2 x3 x4 x5 x6 x7 x8 x9) (f:∀ x0 x1 x2 x3 x4 x5 x6 x7 x8 x9,p x0 x1 x2 x3 x4 x5 x6 x7 x8 x9->T):T:=by
 obtain ⟨x0,x1,x2,x3,x4,x5,x6,x7,x8,x9,h⟩:=h;exact f x0 x1 x2 x3 x4 x5 x6 x7 x8 x9 h
theorem e17 {α0 α1 α2 α3 α4 α5 α6 α7 α8 α9 α10 α11 α12 α13 α14 α15 α16:Sort _} {p:α0->α1->α2->α3->α4->α5->α6->α7->α8->α9->α10->α11->α12->α13->α14->α15->α16->Prop} {T:Prop} (h:∃ x0 x1 x2 x3 x4 x5 x6 x7 x8 x9 x10 x11 x12 x13 x14 x15 x16,p x0 x1 x2 x3 x4 x5 x6 x7 x8 x9 x10 x11 x12 x13 x14 x15 x16) (f:∀ x0 x1 x2 x3 x4 x5 x6 x7 x8 x9 x10 x11 x12 x13 x14 x15 x16,p x0 x1 x2 x3 x4 x5 x6 x7 x8 x9 x10 x11 x12 x13 x14 x15 x16->T):T:=by
 obtain ⟨x0,x1,x2,x3,x4,x5,x6,x7,x8,x9,x10,x11,x12,x13,x14,x15,x16,h⟩:=h;exact f x0 x1 x2 x3 x4 x5 x6 x7 x8 x9 x10 x11 x12 x13 x14 x15 x16 h
theorem Ks:∀ {as:List Addr} {tab:List Ent},TupsAt H as ((kvT tab).map fun kv=>(kV kv.1,kv.2))->TabN ac H tab->Paired (EntA H) as tab
 | [],[],_,_=>.nil
 | [],q :: r,h,_=>by cases h
 | b :: bs,[],h,_=>by cases h
 | b :: bs,q :: r,h,hn=>by
  cases h with
  | cons h1 h2=>exact .cons ⟨h1,(hn q (mem_cons_self ..)).1⟩ (Ks h2 fun z hz=>hn z (mem_cons_of_mem _ hz))
theorem MP {f:Str->Option (Addr × List Str)}:∀ xs:List Str,(A3 f xs).map (·.1)=xs.filter fun x=>(f x).isSome
 | []=>rfl
 | x :: r=>by
  have ih:=MP (f:=f) r;unfold A3 at ih ⊢;rw [filterMap_cons];cases e:f x with
  | none=>rw [List.filter_cons_of_neg (by rw [e]; simp)]; exact ih
  | some q =>
   rw [List.filter_cons_of_pos (by rw [e]; rfl)];show x :: List.map _ _=_;rw [ih]
theorem Gw {f:Str->Option (Addr × List Str)}:∀ xs:List Str,A3 f xs=A3 f (xs.filter fun x=>(f x).isSome)
 | []=>rfl
 | x :: r=>by
  have ih:=Gw (f:=f) r;unfold A3 at ih ⊢;cases e:f x with
  | none=>rw [List.filter_cons_of_neg (by rw [e]; simp),filterMap_cons,e]; exact ih
  | some q=>rw [List.filter_cons_of_pos (by rw [e]; rfl),filterMap_cons,filterMap_cons,e,ih]
theorem C6 {es:List Ent} {x:Str}:(es.lookup x).isSome=decide (x ∈ es.map (·.1)):=by
 by_cases h:x ∈ es.map (·.1)
 ·rw [decide_eq_true h];obtain ⟨q,hq,rfl⟩:=mem_map.mp h;cases e:es.lookup q.1 with
  | some v=>rfl
  | none =>
   exfalso;clear h;induction es with
   | nil=>cases hq
   | cons a r ih =>
    rw [lookup_cons] at e;cases z:q.1 == a.1 with
    | true=>rw [z] at e; cases e
    | false =>
     rw [z] at e;rcases mem_cons.mp hq with y | y
     ·rw [y] at z; simp at z
     ·exact ih y e
 ·rw [decide_eq_false h,Bv h];rfl
theorem JA {es:List Ent} (nd:(es.map (·.1)).Nodup) {q:Ent} (h:q ∈ es):es.lookup q.1=some q.2:=by
 induction es with
 | nil=>cases h
 | cons a r ih =>
  rw [map_cons,nodup_cons] at nd;rw [lookup_cons];rcases mem_cons.mp h with y | y
  ·rw [y]; simp
  ·have bn:(q.1 == a.1)=false:=by
    simp only [beq_eq_false_iff_ne,ne_eq];exact fun z=>nd.1 (z ▸ mem_map.mpr ⟨q,y,rfl⟩)
   rw [bn];exact ih nd.2 y
theorem Pw {es:List Ent} (nd:(es.map (·.1)).Nodup):A3 (fun x=>es.lookup x) (es.map (·.1))=es:=by
 have key:∀ fs:List Ent,(∀ q ∈ fs,es.lookup q.1=some q.2)->A3 (fun x=>es.lookup x) (fs.map (·.1))=fs:=by
  intro fs;induction fs with
  | nil=>intro _; rfl
  | cons a r ih =>
   intro h;have h1:=h a (mem_cons_self ..);have h2:=ih fun q hq=>h q (mem_cons_of_mem _ hq);unfold A3 at h2 ⊢;rw [map_cons,filterMap_cons,h2,show (fun x=>es.lookup x) a.1=some a.2 from h1];rfl
 exact key es fun q hq=>JA nd hq
theorem J3 {tab es:List Ent} {mn:List Str} (hn:mn.Nodup) (al:tab=A3 (fun x=>tab.lookup x) mn) (he:es.map (·.1)=tab.map (·.1)):(es.map (·.1)).Nodup/\A3 (fun x=>es.lookup x) mn=es:=by
 have h1:tab.map (·.1)=mn.filter fun x=>(tab.lookup x).isSome:=by
  have:=congrArg (List.map (·.1)) al;rw [MP] at this;exact this
 have nd:(es.map (·.1)).Nodup:=by rw [he,h1]; exact hn.filter _
 refine ⟨nd,?_⟩
 have e2:(mn.filter fun x=>(es.lookup x).isSome)=mn.filter fun x=>(tab.lookup x).isSome:=by
  refine List.filter_congr fun x _=>?_;rw [C6,C6,he]
 rw [Gw,e2,← h1,← he];exact Pw nd
noncomputable def mNq (ac:Aa) (q:Ent):Nat:=AQ (q.2.2.map (look ac))
def SG (ac:Aa) (q:Ent):Prop:=mNq ac q - (mNq ac q &&& AQ (AJ ac)) ≠ 0
def FL (ac:Aa) (ae:List Ent) (q:Ent):Prop:=¬ SG ac q/\Has ae (AO ac (mNq ac q))
def MQ (ac:Aa) (tab ae:List Ent):Prop:=∃ i q,tab[i]?=some q/\(∀ z ∈ tab.take i,FL ac ae z)/\SG ac q
def Gx (ac:Aa) (tab ae:List Ent) (x:Str):Prop:=∃ i q,tab[i]?=some q/\(∀ z ∈ tab.take i,FL ac ae z)/\¬ SG ac q/\Iu ae (AO ac (mNq ac q)) x
noncomputable def Tj (ac:Aa) (ae:List Ent) (q:Ent):Str × List Str:=(q.1,fl ae (AO ac (mNq ac q)))
def Shp (ac:Aa) (tab ae es:List Ent):Prop:=es.map (fun q=>(q.1,q.2.2))=tab.map (Tj ac ae)
theorem Shp.fst {tab ae es:List Ent} (h:Shp ac tab ae es):es.map (·.1)=tab.map (·.1):=by
 have:=congrArg (List.map (·.1)) h;rw [map_map,map_map] at this;exact this
theorem Ec {tab:List Ent} {ms:List Str} {x:Str} (h:Iu tab ms x) (g:Has tab ms):False:=by
 obtain ⟨i,h1,_,h3⟩:=h;have:=g x (mem_of_getElem? h1);rw [h3] at this;cases this
theorem SH {tab:List Ent} {ms:List Str} {x y:Str} (h:Iu tab ms x) (g:Iu tab ms y):y=x:=by
 obtain ⟨i,h1,h2,h3⟩:=h;obtain ⟨j,g1,g2,g3⟩:=g;rcases Nat.lt_trichotomy i j with z | z | z
 ·have:=g2 x (mem_of_getElem? (i:=i) (by rw [getElem?_take,if_pos z]; exact h1));rw [h3] at this;cases this
 ·subst z;rw [h1] at g1;exact (Option.some.inj g1).symm
 ·have:=h2 y (mem_of_getElem? (i:=j) (by rw [getElem?_take,if_pos z]; exact g1));rw [g3] at this;cases this
theorem Nj {tab:List Ent}:∀ ms:List Str,Has tab ms\/∃ x,Iu tab ms x
 | []=>.inl fun x hx=>by cases hx
 | y :: r=>by
  cases e:tab.lookup y with
  | none=>exact .inr ⟨y,0,rfl,(fun x hx=>by cases hx),e⟩
  | some q =>
   have hy:(tab.lookup y).isSome=true:=by rw [e]; rfl
   rcases Nj r with h | ⟨x,i,h1,h2,h3⟩
   ·refine .inl fun x hx=>?_;rcases mem_cons.mp hx with z | z
    ·rw [z]; exact hy
    ·exact h x z
   ·refine .inr ⟨x,i + 1,h1,fun z hz=>?_,h3⟩;rw [List.take_succ_cons] at hz;rcases mem_cons.mp hz with q | q
    ·rw [q]; exact hy
    ·exact h2 z q
theorem MR {tab ae:List Ent} (h:MQ ac tab ae) (g:∀ q ∈ tab,FL ac ae q):False:=by
 obtain ⟨i,q,h1,_,h3⟩:=h;exact (g q (mem_of_getElem? h1)).1 h3
theorem MS {tab ae:List Ent} {x:Str} (h:Gx ac tab ae x) (g:∀ q ∈ tab,FL ac ae q):False:=by
 obtain ⟨i,q,h1,_,_,h3⟩:=h;exact Ec h3 (g q (mem_of_getElem? h1)).2
theorem MU {α:Type} {p:α->Prop} {l:List α} {i j:Nat} {a b:α} (h1:l[i]?=some a) (h2:∀ z ∈ l.take i,p z) (h3:¬ p a) (g1:l[j]?=some b) (g2:∀ z ∈ l.take j,p z) (g3:¬ p b):a=b:=by
 rcases Nat.lt_trichotomy i j with z | z | z
 ·exact absurd (g2 a (mem_of_getElem? (i:=i) (by rw [getElem?_take,if_pos z]; exact h1))) h3
 ·subst z;rw [h1] at g1;exact Option.some.inj g1
 ·exact absurd (h2 b (mem_of_getElem? (i:=j) (by rw [getElem?_take,if_pos z]; exact g1))) g3
theorem OT {tab ae:List Ent} {x:Str} (h:MQ ac tab ae) (g:Gx ac tab ae x):False:=by
 obtain ⟨i,q,h1,h2,h3⟩:=h;obtain ⟨j,q',g1,g2,g3,g4⟩:=g;have:=MU (p:=FL ac ae) h1 h2 (fun z=>z.1 h3) g1 g2 (fun z=>Ec g4 z.2);exact g3 (this ▸ h3)
theorem U6 {tab ae:List Ent} {x y:Str} (h:Gx ac tab ae x) (g:Gx ac tab ae y):y=x:=by
 obtain ⟨i,q,h1,h2,h3,h4⟩:=h;obtain ⟨j,q',g1,g2,g3,g4⟩:=g;have:=MU (p:=FL ac ae) h1 h2 (fun z=>Ec h4 z.2) g1 g2 (fun z=>Ec g4 z.2);subst this;exact SH h4 g4
theorem JB {α β:Type} {F:α->β->Prop}:∀ {as:List α} {bs:List β},Paired F as bs->∀ b ∈ bs,∃ a,F a b
 | _,_,.nil,b,h=>by cases h
 | a :: as,c :: bs,.cons h1 h2,b,h=>by
  rcases mem_cons.mp h with z | z
  ·exact ⟨a,z ▸ h1⟩
  ·exact JB h2 b z
theorem Kt {tab:List Ent} (h:∀ q ∈ tab,q.2.2.length <= 3):∀ ms:List Str,(fl tab ms).length <= 3 * ms.length
 | []=>Nat.le_refl _
 | x :: r=>by
  have ih:=Kt h r;unfold fl at ih ⊢;rw [List.flatMap_cons,length_append,length_cons];cases e:tab.lookup x with
  | none=>show 0 + _ <= _; omega
  | some q =>
   have:=h _ (CL e);show q.2.length + _ <= _;simp only at this;omega
section
variable {cM cL cN cU:Addr}
def Wc (H:Hp) (k o2 EC:Addr) (ac ad:Aa) (tab ae:List Ent) (Q:VK):Prop:=∀ p es H',Same H H'->EdAt EC H' p k o2 (kvT es)->Shp ac tab ae es->TabN ad H' es->Q (.ref p) H'
def Gy (C EC cN cL cU:Addr):Sp:=fun vs H Q E=>∃ (p2 p1 k o k2 o2:Addr) (due ac dueS ad:Aa) (r r2 rS r3:Str) (tab ae:List Ent),vs=[.ref p2,.ref p1]/\EdAt EC H p1 k o (kvT tab)/\EdAt EC H p2 k2 o2 (kvT ae)/\KindAt C H k due r/\KindAt C H o ac r2/\KindAt C H k2 dueS rS/\KindAt C H o2 ad r3/\Asc ac/\Asc dueS /\
 due.length <= 6/\(due.map (·.1)).Nodup/\tab=A3 (fun x=>tab.lookup x) (Aj due)/\TabN ac H tab/\dueS.length <= 6/\(∀ p ∈ dueS,p.2 < 2 ^ 20)/\ad.length <= 6/\TabN ad H ae /\
 ((¬ (ac=dueS/\r2=rS)/\Uq H E cU)\/((ac=dueS/\r2=rS)/\(∀ q ∈ ae,q.2.2.length <= 3)/\(MQ ac tab ae->Uq H E cN)/\(∀ x,Gx ac tab ae x->x.length <= 1000/\UqL H E cL x)/\((∀ q ∈ tab,FL ac ae q)->Wc H k o2 EC ac ad tab ae Q)))
noncomputable abbrev U7:List Str:=["self", "edition", "pairs", "name", "names", "value"]
theorem scBeh:AM U7 ["self", "edition"] (defScope Be):=fsc
theorem U8 (F:Fun K "behind" "Edition.behind" Be f fd) (B:Bl mg) (VT:Ik K VC) (EO:Tg P w K mg base C EC) (neK:W.findIn K (.ref C) "__ne__" = some (some (.builtin "object.__ne__"))) (hm:W.mroIn K C (.type "object")=some true) (EU:MB P w K mg base "Unlike" cU) (EN:MB P w K mg base "Never" cN)
  (GE:Mt P w K mg base C "__eq__" 2 ["self", "other"] (Ii C)) (GO:Mt P w K mg base EC "other" 1 ["self"] (EH EC)) (GK:Mt P w K mg base EC "kind" 1 ["self"] (F5 EC)) (GP:Mt P w K mg base EC "pairs" 1 ["self"] (EJ EC)) (GVR:Mt P w K mg base VC "rest" 4 ["self"] (HL C VC))
  (GN:MtR P w K mg base EC "names_for" 4 ["self", "value"] (Tf C VC EC cL)) (GV:Fn P w K mg base "value_of" 6 ["kind", "names"] (Ni C VC)) :
  Ac P w K mg base (CXr P w) 7 f fd ["self", "edition"] (Gy C EC cN cL cU):=by
 obtain ⟨fE,dE,GE,mE,bE⟩:=GE.ex;obtain ⟨fO,dO,GO,mO,bO⟩:=GO.ex;obtain ⟨fK,dK,GK,mK,bK⟩:=GK.ex;obtain ⟨fP,dP,GP,mP,bP⟩:=GP.ex;obtain ⟨fR,dR,GVR,mR,bR⟩:=GVR.ex;obtain ⟨fF,dF,GF,mF,bF⟩:=GN.ex;obtain ⟨fV,dV,GV,mV,kV',bV⟩:=GV.ex;obtain ⟨fX,dX,MX,GX,bX⟩:=EU.make;obtain ⟨fN,dN,MN,GNv,bN⟩:=EN.make;obtain ⟨fI,dI,MI,GI,bI⟩:=EO.make;have mX:=EU.cls;have mN:=EN.cls;have mI:=EO.cls;have ET:=EO.T;refine F.n scBeh fun vs H Q E h=>?_;obtain ⟨p2,p1,k,o,k2,o2,due,ac,dueS,ad,r,r2,rS,r3,tab,ae,rfl,ED1,ED2,KA,KB,KS,K3,ap,ascS,h6,nd,al,TN,h6S,hltS,h63,TN2,h⟩:=h;refine ⟨rfl,fun af A outer s hr=>?_⟩;have hr1:Room 1 _:=hr.mono (by decide);have hr2:Room 2 _:=hr.mono (by decide);have hr3:Room 3 _:=hr.mono (by decide);have hr4:Room 4 _:=hr.mono (by decide);have hr5:Room 5 _:=hr.mono (by decide);obtain ⟨dx1,d1,ob1,aw,hd1⟩:=id ED1;obtain ⟨dx2,d2,ob2,ax,hd2⟩:=id ED2;obtain ⟨dk,e1,e2,hk⟩:=KB.ins;obtain ⟨dk',e1',e2',hk'⟩:=KS.ins;have ps:=Tx (P:=P) (w:=w) (K:=K) (mg:=mg) (base:=base) (N:=U7) (qual := "Edition.behind") (scope:=defScope Be) (f:=f) (cd:=af) (A:=A) (outer:=outer) (s:=s) (H:=H) (E:=E);have rz:=HE (P:=P) (w:=w) (K:=K) (mg:=mg) (base:=base) (N:=U7) (qual := "Edition.behind") (scope:=defScope Be) (f:=f) (cd:=af) (A:=A) (outer:=outer) (s:=s) (H:=H) (E:=E)
 refine ⟨_,AG (An (AY (Fc GE hr3 bE mE neK hm) (Ah (pv 1) ET.cl mO GO hr1 bO .nil AN) (At (pv 0) rfl) (Ad _)) (AE (Du rz rfl MX.cls (Dt MX GX hr2 rfl mX bX .nil AN (AA Ag AC)))) AW)
  (AG (Ai (i:=2) scBeh.nd rfl (Or.inl rfl) (BO AC))
  (AG (Bs PassesOwn.leaving rfl (A2 (Ah (pv 1) ET.cl mP GP hr1 bP .nil AN)) (BK rfl (AS (AR (i:=3) scBeh.nd rfl (Or.inl rfl)) (AS (AR (i:=4) scBeh.nd rfl (Or.inl rfl)) A1)))
   (AG (Ai (i:=5) scBeh.nd rfl (Or.inl rfl) (AL GV hr rfl mV kV' bV .nil AN (AA (At (pv 0) rfl) (AA (pv 4) AC))))
   (AG (An (AY Dk (Ah (pv 5) VT.cl mR GVR hr4 bR .nil AN) AK (Ad _)) (AE (Du rz rfl MN.cls (Dt MN GNv hr2 rfl mN bN .nil AN (AA Ag AC)))) AW)
   (AE (CH (Gs PySem.F.plainAttrs_list PySem.F.slot_list_append PySem.F.type_list_append EQ (pv 2) (AA (A6 (AA (pv 3) (AA (BH CI rfl B.tuple BY (AA (CV (pv 0) ET.cl mF GF hr4 bF .nil ps (AA (pv 5) AC)) AC)) AC))) AC)))))))
  (AE (AU (Cq MI GI hr5 rfl mI bI .nil AN (AA (Ah (pv 1) ET.cl mK GK hr1 bK .nil AN) (AA (At (pv 0) rfl) (AA (pv 2) AC)))))))),?_⟩
 refine ⟨_,rfl,p1,dx1,_,rfl,aw,DE _ _ _,p1,k,o,_,rfl,ED1,_,rfl,p2,EC,dx2,_,_,rfl,ax,ET.cl,ET.nK,HM _ _ _,?_⟩;refine ⟨o,dk,_,k2,dk',_,rfl,rfl,hk,hk',o,k2,ac,r2,rfl,KB,ap,.inr ⟨dueS,rS,KS,ascS,fun H1 s1=>⟨_,rfl,_,rfl,_,rfl,?_⟩⟩⟩;rcases h with ⟨hno,hU⟩ | ⟨⟨ea,eb⟩,hl3,hN,hL,hG⟩
 ·rw [decide_eq_false hno];exact Bo (FE (te:=fun _=>tC (.str "")) MX.cls s1 hU)
 subst ea eb;rw [decide_eq_true (show ac=ac/\r2=r2 from ⟨rfl,rfl⟩)];refine Aw ?_;refine ⟨(by show 0 <= sizeLine; decide),fun lp hlp=>?_⟩;have s2:=AD (Same.refl _) hlp (o:=HO.lst []);have hlp1:(upd H1 lp (HO.lst [])) lp=some (.lst []):=AB;have hlpH:H lp=none:=none_of s1 hlp;have s12:=s1.trans s2;generalize upd H1 lp (HO.lst [])=H2 at s2 hlp1 s12 ⊢;refine ⟨_,rfl,p1,dx1,_,rfl,s12 _ _ aw,DE _ _ _,p1,k,o,_,rfl,ED1.same s12,fun l as H3 s3 hl3' ht3=>?_⟩;have s13:=s12.trans s3;have am:=Ks ht3 (TN.same fun b xs e=>s13 _ _ e);have cn:=s3 _ _ hlp1
 have nll:l ≠ lp\/as=[]:=by
  by_cases z:l=lp
  ·refine .inr ?_;rw [z,cn] at hl3';cases as with
   | nil=>rfl
   | cons a r=>cases hl3'
  ·exact .inl z
 have htl:tab.length <= 6:=by
  have h1:=congrArg (fun z:List Ent=>(z.map (·.1)).length) al;simp only [AF] at h1;have h2:(A3 (fun x=>tab.lookup x) (Aj due)).length <= (Aj due).length:=by unfold A3; exact List.length_filterMap_le _ _
  have h4:=BE due;have h5:(Aj due).length=(AJ due).length:=by unfold Aj; exact AF _
  omega
 have bh:as.length=tab.length:=am.length
 refine ⟨l,rfl,⟨_,SqL.of hl3'⟩,Ba (K:=K) (a:=l) (xs:=as.map V.ref) (fun i σ H4=>(∃ v3 v4 v5:Option V,σ=[some (.ref p2),some (.ref p1),some (.ref lp),v3,v4,v5])/\(∀ z ∈ tab.take i,FL ac ae z)/\(∀ b u,H3 b=some u->b ≠ lp->H4 b=some u)/\(∃ (cs:List Addr) (es:List Ent),H4 lp=some (.lst (cs.map V.ref))/\Paired (EntA H4) cs es/\es.map (fun q=>(q.1,q.2.2))=(tab.take i).map (Tj ac ae))/\(i=0->H4=H3))
  ⟨⟨none,none,none,rfl⟩,(fun z hz=>by cases hz),fun _ _ e _=>e,⟨[],[],cn,.nil,rfl⟩,fun _=>rfl⟩ (fun i σ H4 hi ⟨_,_,e,_,hz⟩=>?_) ?_ ?_⟩
 ·rcases nll with z | z
  ·exact SqL.of (e _ _ hl3' z)
  ·rw [z] at hi;rw [hz (Nat.le_zero.mp hi)];exact SqL.of hl3'
 ·intro i v σ H4 hi hv;refine Mk.e3 hv.1 fun v3 v4 v5 ev=>?_;have hGd:=hv.2.1;have e4:=hv.2.2.1;refine Mk.e2 hv.2.2.2.1 fun cs es hv=>?_;have cv:=hv.1;have hP4:=hv.2.1;have ao:=hv.2.2;clear hv;subst ev;rw [getElem?_map] at hi;obtain ⟨b,hb,rfl⟩:=Option.map_eq_some_iff.mp hi;obtain ⟨q,hq,hE⟩:=Bt am hb;have s04:Same H H4:=fun b u e=>e4 b u (s13 _ _ e) (AI e hlpH);have hE4:EntA H4 b q:=hE.same fun c xs e=>e4 c _ e (fun z=>by rw [z,cn] at e; cases e);have hqm:=mem_of_getElem? hq;have hqn:=TN q hqm;have hi6:i < 6:=by have:=(List.getElem?_eq_some_iff.mp hq).1; omega
  refine ⟨b,_,rfl,SqT.of hE4.1,rfl,_,_,rfl,_,_,rfl,rfl,?_⟩;refine ⟨_,rfl,p2,EC,dx2,_,_,rfl,s04 _ _ ax,ET.cl,ET.nK,HM _ _ _,_,rfl,k2,q.2.1,ac,r2,q.2.2,rfl,KS.same s04,hE4.2,by omega,hqn.2.2,hltS,fun v H5 s5 hV=>?_⟩;have s05:=s04.trans s5;obtain ⟨dv,hv⟩:=id hV;refine ⟨_,rfl,v,dv,_,rfl,hv,Lw _ _ (by decide +kernel) (by decide +kernel),v,k2,_,ac,r2,rfl,hV,KS.same s05,by omega,fun H6 s6=>⟨rfl,_,rfl,?_⟩⟩;have s06:=s05.trans s6;have hlp6:=s6 _ _ (s5 _ _ cv);have s46:=s5.trans s6
  have ed:(!decide (V.int ((AQ (q.2.2.map (look ac)) - (AQ (q.2.2.map (look ac)) &&& AQ (AJ ac)):Nat):Int)=V.int 0))=decide (mNq ac q - (mNq ac q &&& AQ (AJ ac)) ≠ 0):=by
   show (!decide (V.int ((mNq ac q - (mNq ac q &&& AQ (AJ ac)):Nat):Int)=V.int 0))=_;by_cases z:mNq ac q - (mNq ac q &&& AQ (AJ ac))=0
   ·rw [z]; rfl
   ·rw [decide_eq_true z,decide_eq_false (fun y=>z (by have:=V.int.inj y; omega))]; rfl
  show if (!decide (V.int ((AQ (q.2.2.map (look ac)) - (AQ (q.2.2.map (look ac)) &&& AQ (AJ ac)):Nat):Int)=V.int 0))=true then _ else _
  rw [ed];refine Bp (fun hc=>?_) (fun hc=>?_)
  ·have hbr:mNq ac q - (mNq ac q &&& AQ (AJ ac)) ≠ 0:=of_decide_eq_true hc;exact FE (te:=fun _=>tC (.str "")) MN.cls s06 (hN ⟨i,q,hq,hGd,hbr⟩)
  have hnb:¬ SG ac q:=fun z=>hc (decide_eq_true (show mNq ac q - (mNq ac q &&& AQ (AJ ac)) ≠ 0 from z));refine ⟨_,rfl,.inl ⟨rfl,_,SqL.of hlp6⟩,_,rfl,_,rfl,p2,dx2,_,rfl,s06 _ _ ax,DE _ _ _,_,rfl,p2,v,k2,o2,k2,_,ac,ad,r2,ae,rfl,ED2.same s06,TN2.same (fun b xs e=>s06 _ _ e),hV.same s6,KS.same s06,by omega,?_⟩;rcases Nj (tab:=ae) (AO ac (mNq ac q)) with hH | ⟨x,hx⟩
  ·refine .inl ⟨hH,fun l2 H7 s7 hl7=>?_⟩;have hl7':H7 l2=some (.lst ((fl ae (AO ac (mNq ac q))).map V.str)):=hl7;refine ⟨l2,_,rfl,.inl ⟨SqL.of hl7',fun c hc=>?_⟩⟩;have s8:=AD (Same.refl _) hc (o:=HO.tup ((fl ae (AO ac (mNq ac q))).map V.str));have hc8:=AB (H:=H7) (a:=c) (o:=HO.tup ((fl ae (AO ac (mNq ac q))).map V.str));refine ⟨sl2,fun ea hea=>?_⟩;have s9:=AD (Same.refl _) hea (o:=HO.tup [V.str q.1,V.ref c]);have s69:=(s7.trans s8).trans s9;have hc9:=s9 _ _ hc8;have df:=AB (H:=upd H7 c (HO.tup ((fl ae (AO ac (mNq ac q))).map V.str))) (a:=ea) (o:=HO.tup [V.str q.1,V.ref c]);have au:=s69 _ _ hlp6;have s49:=s46.trans s69;generalize upd (upd H7 c (HO.tup ((fl ae (AO ac (mNq ac q))).map V.str))) ea (HO.tup [V.str q.1,V.ref c])=H9 at hc9 df au s49 s69 ⊢;have ak:cs.length=es.length:=hP4.length
   have bg:es.length <= 6:=by
    have:=congrArg List.length ao;rw [AF,AF,length_take] at this;omega
   refine ⟨lp,_,_,rfl,rfl,au,Ab (by rw [AF]; omega),?_⟩;have keep:∀ b xs,H9 b=some (.tup xs)->(upd H9 lp (HO.lst (cs.map V.ref++[V.ref ea]))) b=some (.tup xs):=fun b xs e=>by rw [AH (fun z=>by rw [z,au] at e; cases e)]; exact e
   refine ⟨⟨_,_,_,rfl⟩,fun z hz'=>?_,fun b u e hb=>by rw [AH hb]; exact s49 _ _ (e4 b u e hb),⟨cs++[ea],es++[(q.1,c,fl ae (AO ac (mNq ac q)))],?_,?_,?_⟩,fun z=>by cases z⟩
   ·rw [take_add_one,hq] at hz';rcases mem_append.mp hz' with y | y
    ·exact hGd z y
    ·rw [show z=q from mem_singleton.mp y];exact ⟨hnb,hH⟩
   ·rw [AB,map_append];rfl
   ·exact Paired.snoc (Paired.imp' (fun _ _ z=>z.same fun b xs e=>keep b xs (s49 _ _ e)) hP4) ⟨keep _ _ df,keep _ _ hc9⟩
   ·rw [map_append,take_add_one,hq,Option.toList_some,map_append,ao];rfl
  ·obtain ⟨hx1,hx2⟩:=hL x ⟨i,q,hq,hGd,hnb,hx⟩;exact .inr ⟨x,hx,hx1,hx2.same s06⟩
 ·intro σ H4 hv;refine Mk.e3 hv.1 fun v3 v4 v5 ev=>?_;have hGd:=hv.2.1;have e4:=hv.2.2.1;refine Mk.e2 hv.2.2.2.1 fun cs es hv=>?_;have cv:=hv.1;have hP4:=hv.2.1;have ao:=hv.2.2;clear hv;subst ev;rw [AF,bh,take_length] at hGd ao;have s04:Same H H4:=fun b u e=>e4 b u (s13 _ _ e) (AI e hlpH);have fc:Shp ac tab ae es:=ao;obtain ⟨ndE,hpE⟩:=J3 (Eb nd) al fc.fst
  have bg:es.length <= 6:=by
   have:=congrArg List.length ao;rw [AF,AF] at this;omega
  have TNe:∀ H9,Same H4 H9->TabN ad H9 es:=fun H9 s9 q hq=>by
   obtain ⟨a,ha⟩:=JB hP4 q hq;have hm:(q.1,q.2.2) ∈ tab.map (Tj ac ae):=ao ▸ mem_map.mpr ⟨q,hq,rfl⟩;obtain ⟨z,hz,ez⟩:=mem_map.mp hm;have e3:q.2.2=fl ae (AO ac (mNq ac z)):=(Prod.mk.inj ez).2.symm;refine ⟨s9 _ _ ha.2,?_,fun y hy=>R5 TN2 _ y (e3 ▸ hy)⟩;have h1:=Kt hl3 (AO ac (mNq ac z));have h2:=Dc ac (mNq ac z);rw [e3];omega
  refine ⟨_,rfl,p1,dx1,_,rfl,s04 _ _ aw,DE _ _ _,p1,k,o,_,rfl,ED1.same s04,_,rfl,p2,EC,dx2,_,_,rfl,s04 _ _ ax,ET.cl,ET.nS,F4 _ _ _,_,rfl,?_⟩;intro p dx bp bo bn;have sN:=Bf (D:=EC) bp bo bn
  have PR:Prs due ad (upd (upd H4 dx (.own p)) p (.ins EC dx [])) lp es:=⟨⟨cs,sN _ _ cv,Paired.imp' (fun _ _ z=>z.same fun b xs e=>sN _ _ e) hP4⟩,by omega,ndE,fun q hq=>by
   have h1:q.1 ∈ es.map (·.1):=mem_map.mpr ⟨q,hq,rfl⟩;rw [fc.fst] at h1;obtain ⟨z,hz,ez⟩:=mem_map.mp h1;rw [al] at hz;rw [SA,decide_eq_true (ez ▸ F6 hz)],fun q hq=>by
   have h1:=TNe H4 (Same.refl _) q hq
   exact ⟨h1.2.1,fun y hy=>by rw [SB,decide_eq_true (h1.2.2 y hy)]⟩⟩
  refine ⟨p,dx,k,o2,lp,due,ad,r,r3,es,rfl,AB,(KA.same s04).same sN,by omega,(K3.same s04).same sN,by omega,PR,fun H8 s8 ED=>⟨rfl,?_⟩⟩;have s48:Same H4 H8:=BS sN bp s8;rw [Iy nd,hpE] at ED;exact hG hGd p es H8 (s04.trans s48) ED fc (TNe H8 s48)
end
theorem Tk {α:Type} {p:α->Bool} {l:List α} {i:Nat} {m:α} (h:l[i]?=some m) (hp:p m=true):(l.filter p)[((l.take i).filter p).length]?=some m/\(l.filter p).take ((l.take i).filter p).length=(l.take i).filter p:=by
 have hi:=(List.getElem?_eq_some_iff.mp h).1
 have e:l=l.take i++m :: l.drop (i + 1):=by
  have h1:=take_append_drop i l
  have h2:l.drop i=m :: l.drop (i + 1):=by
   rw [List.drop_eq_getElem_cons hi,(List.getElem?_eq_some_iff.mp h).2]
  rw [h2] at h1;exact h1.symm
 have e2:l.filter p=(l.take i).filter p++m :: (l.drop (i + 1)).filter p:=by
  have h3:=congrArg (List.filter p) e;rw [filter_append,List.filter_cons_of_pos hp] at h3;exact h3
 rw [e2];generalize (l.take i).filter p=xs;refine ⟨?_,?_⟩
 ·rw [List.getElem?_append_right (Nat.le_refl _),Nat.sub_self];rfl
 ·rw [List.take_append_of_le_length (Nat.le_refl _),take_length]
noncomputable def vmN (due:Aa) (n:Nat) (l:List Nat):List Str:=(l.filter fun m=>decide (m &&& n ≠ 0)).map (BL (AT due))
theorem V2 {n i m:Nat} (h:(AJ due)[i]?=some m) (hb:m &&& n ≠ 0):(AO due n)[(vmN due n ((AJ due).take i)).length]?=some (BL (AT due) m)/\(AO due n).take (vmN due n ((AJ due).take i)).length=vmN due n ((AJ due).take i):=by
 obtain ⟨h1,h2⟩:=Tk (p:=fun m=>decide (m &&& n ≠ 0)) h (decide_eq_true hb);unfold AO vmN;rw [AF];refine ⟨?_,?_⟩
 ·rw [getElem?_map,h1];rfl
 ·rw [← map_take,h2]
theorem Tl {n i m:Nat} (h:(AJ due)[i]?=some m) (hb:m &&& n ≠ 0):vmN due n ((AJ due).take (i + 1))=vmN due n ((AJ due).take i)++[BL (AT due) m]:=by
 unfold vmN;rw [take_add_one,h,filter_append];show List.map _ (_++List.filter _ [m])=_;rw [List.filter_cons_of_pos (p:=fun m=>decide (m &&& n ≠ 0)) (decide_eq_true hb),map_append];rfl
theorem Tm {n i m:Nat} (h:(AJ due)[i]?=some m) (hb:¬ m &&& n ≠ 0):vmN due n ((AJ due).take (i + 1))=vmN due n ((AJ due).take i):=by
 unfold vmN;rw [take_add_one,h,filter_append];show List.map _ (_++List.filter _ [m])=_;rw [List.filter_cons_of_neg (by simpa using hb)];rw [List.filter_nil,append_nil]
theorem Tn {f:Str->Option (Addr × List Str)} {xs:List Str} {i:Nat} {x:Str} {q:Addr × List Str} (h:xs[i]?=some x) (hq:f x=some q) :
  (A3 f xs)[(A3 f (xs.take i)).length]?=some (x,q)/\(A3 f xs).take (A3 f (xs.take i)).length=A3 f (xs.take i)/\A3 f (xs.take (i + 1))=A3 f (xs.take i)++[(x,q)]:=by
 have hi:=(List.getElem?_eq_some_iff.mp h).1
 have e:xs=xs.take i++x :: xs.drop (i + 1):=by
  have h1:=take_append_drop i xs;rw [List.drop_eq_getElem_cons hi,(List.getElem?_eq_some_iff.mp h).2] at h1;exact h1.symm
 have e2:A3 f xs=A3 f (xs.take i)++(x,q) :: A3 f (xs.drop (i + 1)):=by
  have h3:=congrArg (A3 f) e;unfold A3 at h3 ⊢;rw [filterMap_append,filterMap_cons,hq] at h3;exact h3
 have e3:A3 f (xs.take (i + 1))=A3 f (xs.take i)++[(x,q)]:=by
  unfold A3;rw [take_add_one,h,filterMap_append];show _++List.filterMap _ [x]=_;rw [filterMap_cons,hq];rfl
 refine ⟨?_,?_,e3⟩
 ·rw [e2,List.getElem?_append_right (Nat.le_refl _),Nat.sub_self];rfl
 ·rw [e2,List.take_append_of_le_length (Nat.le_refl _),take_length]
theorem J4 {f:Str->Option (Addr × List Str)} {xs:List Str} {i:Nat} {x:Str} (h:xs[i]?=some x) (hq:f x=none):A3 f (xs.take (i + 1))=A3 f (xs.take i):=by
 unfold A3;rw [take_add_one,h,filterMap_append];show _++List.filterMap _ [x]=_;rw [filterMap_cons,hq];show _++[]=_;rw [append_nil]
section
def Nk:Sp:=fun vs H Q _=>∃ (t u um t2:Addr) (due ac ad:Aa) (tab ae:List Ent),vs=[.ref t,.ref u,.ref um,.ref t2]/\H t=some (.dK (kvT tab))/\Rd H t2 (.dK (kvT ae))/\tab=A3 (fun x=>tab.lookup x) (Aj due)/\TabN ac H tab/\TabN ad H ae/\(∀ q ∈ ae,q.2.2.length <= 3)/\DueL H u due/\DueL H um ac/\due.length <= 6/\(∀ p ∈ due,p.2 < 2 ^ 20)/\ac.length <= 6/\(∀ p ∈ ac,p.2 < 2 ^ 20)/\(ac.map (·.1)).Nodup /\
 (MQ ac tab ae->∀ p H',Same H H'->H' p=some (.tup [.str "refused", .str "Never"])->Q (.ref p) H') /\
 (∀ x,Gx ac tab ae x->∀ p H',Same H H'->H' p=some (.tup [.str "refused", .str "Unled", .str x])->Q (.ref p) H') /\
 ((∀ q ∈ tab,FL ac ae q)->∀ l cs es H',Same H H'->H' l=some (.lst (cs.map V.ref))->Paired (EntA H') cs es->Shp ac tab ae es->Q (.ref l) H')
noncomputable abbrev V3:List Str:=["_law_table", "_law_due", "_law_middle", "_law_more", "_law_own", "_law_numbers", "_law_pairs", "_law_goal", "_law_name", "_law_number", "_law_bit", "_law_found", "_law_one", "_law_mark"]
theorem scLBeh:AM V3 ["_law_table", "_law_due", "_law_middle", "_law_more"] (defScope E6):=fsc
theorem To (F:Fun K "_law_behind" "_law_behind" E6 f fd) (GT:Fn P w K mg base "_law_table_of" 2 ["_law_due"] Fw):Ac P w K mg base CX0 3 f fd ["_law_table", "_law_due", "_law_middle", "_law_more"] Nk:=by
 obtain ⟨fT,dT,GT,mT,kT,bT⟩:=GT.ex;refine F.m scLBeh fun vs H Q E h=>?_;obtain ⟨t,u,um,t2,due,ac,ad,tab,ae,rfl,ht,ht2,al,TN,TN2,hl3,D1,D2,h6,hlt,h6',d6,nd2,kN,kU,kG⟩:=h;refine ⟨rfl,fun af A outer s hr=>?_⟩;have hu:=Cr hr
 refine ⟨_,AG (S5 (i:=4) (j:=5) (k:=6) rfl scLBeh.nd rfl rfl rfl rfl rfl rfl (AA (AL GT hr rfl mT kT bT .nil AN (AA (pv 1) AC)) (AA C8 (AA (BO AC) AC))) (by kernel_rfl))
  (AG (Ai (i:=7) scLBeh.nd rfl (Or.inl rfl) (AL GT hr rfl mT kT bT .nil AN (AA (pv 2) AC)))
  (AG (Bs PassesOwn.never rfl (A2 (pv 2)) (BK rfl (AS (AR (i:=8) scLBeh.nd rfl (Or.inl rfl)) (AS (AR (i:=9) scLBeh.nd rfl (Or.inl rfl)) A1)))
   (AE (FU hu (pv 5) (pv 8) (pv 9) rfl)))
  (AG (Bs PassesOwn.never rfl (A2 (BJ hu (pv 4) Ag (fun _ _=>rfl))) (BK rfl (AS (AR (i:=8) scLBeh.nd rfl (Or.inl rfl)) (AS (AR (i:=10) scLBeh.nd rfl (Or.inl rfl)) A1)))
   (AE (An (DI (KK hu (pv 8) (pv 0)))
    (AG (CT (hs:=by kernel_rfl) (hw:=by kernel_rfl) (A6 (AA AK (AA (A6 AC) AC))) (BK rfl (AS (AR (i:=9) scLBeh.nd rfl (Or.inl rfl)) (AS (AR (i:=11) scLBeh.nd rfl (Or.inl rfl)) A1))))
    (BV (Bs PassesOwn.never rfl (HU (BJ hu (pv 0) (pv 8) (fun _ _=>rfl))) (AR (i:=12) scLBeh.nd rfl (Or.inl rfl))
     (AE (Ai (i:=9) scLBeh.nd rfl (Or.inl rfl) (Af K5 (pv 9) (BJ hu (pv 5) (pv 12) (fun _ _=>rfl))))))
    (AG (An (AY Dk (Af DL (pv 9) (BJ hu (pv 7) Ag (fun _ _=>rfl))) (pv 9) (Ad _)) (AE (AU (A6 (AA Ag (AA Ag AC))))) AW)
    (AG (Bs PassesOwn.never rfl (A2 (BJ hu (pv 7) Ag (fun _ _=>rfl))) (BK rfl (AS (AR (i:=13) scLBeh.nd rfl (Or.inl rfl)) (AS (AR (i:=12) scLBeh.nd rfl (Or.inl rfl)) A1)))
     (AE (An (AY Dk (Af DL (pv 9) (pv 12)) AK (Ad _))
      (AG (An (DI (GG hu (pv 13) (pv 3))) (AE (AU (A6 (AA Ag (AA Ag (AA (pv 13) AC)))))) AW)
      (AE (Ai (i:=11) scLBeh.nd rfl (Or.inl rfl) (Af (Q3 K rfl) (pv 11) (BJ hu (pv 3) (pv 13) (fun _ _=>rfl))))))
      AW)))
    (AE (CH (Gs PySem.F.plainAttrs_list PySem.F.slot_list_append PySem.F.type_list_append EQ (pv 6) (AA (A6 (AA (pv 8) (AA (pv 11) AC))) AC))))))))
    AW)))
  (AE (AU (pv 6)))))),?_⟩
 obtain ⟨bs,hu0,a0⟩:=D1;refine ⟨_,rfl,u,bs,due,rfl,hu0,a0,by omega,hlt,fun tb e m ms H1 s1 _ bi he hm bj=>?_⟩;refine fun d hd=>⟨Nat.zero_le _,fun lp hlp=>⟨_,_,_,rfl,?_⟩⟩;have sA:=AD (Same.refl _) hd (o:=HO.dK []);have hdA:=AB (H:=H1) (a:=d) (o:=HO.dK []);have sB:=AD (Same.refl _) hlp (o:=HO.lst []);have dj:=AB (H:=upd H1 d (HO.dK [])) (a:=lp) (o:=HO.lst []);have s12:=sA.trans sB;have hd2:=sB _ _ hdA;have s02:=s1.trans s12;have hdH:H d=none:=none_of s1 hd;have hlpH:H lp=none:=none_of (s1.trans sA) hlp;have dlp:d ≠ lp:=AI hdA hlp;have mlp:m ≠ lp:=AI (sA _ _ hm) hlp;have tblp:tb ≠ d:=AI bi hd;have md:m ≠ d:=AI hm hd;have hlpm:∀ b o,H1 b=some o->b ≠ lp:=fun b o e=>AI (sA _ _ e) hlp;have hdm:∀ b o,H1 b=some o->b ≠ d:=fun b o e=>AI e hd;generalize upd (upd H1 d (HO.dK [])) lp (HO.lst [])=H2 at s12 hd2 s02 dj ⊢;clear sA sB hdA hlp;obtain ⟨cs,bv,bt⟩:=D2.same s02;refine ⟨_,rfl,um,cs,ac,rfl,bv,bt,by omega,d6,fun gl ge gm gms H3 s3 hgn bq hge br hgms=>?_⟩;have gmlp:gm ≠ lp:=fun z=>by rw [z,dj] at hgn; cases hgn
 have gmd:gm ≠ d:=fun z=>by rw [z,hd2] at hgn; cases hgn
 have gld:gl ≠ d:=fun z=>by
  have h1:=s3 _ _ hd2;rw [z,h1] at bq;have h2:=congrArg (fun o:Option HO=>match o with | some (.dK kv)=>kv.length | _=>0) bq;exact absurd h2 (by show ¬ 0=4; decide)
 have hd3:=s3 _ _ hd2;have cn:=s3 _ _ dj;have gllp:gl ≠ lp:=fun z=>by rw [z,cn] at bq; cases bq
 have umd:um ≠ d:=fun z=>by rw [z,hd2] at bv; cases bv
 have ak:cs.length=ac.length:=by rw [bt.length]; unfold C4; rw [AF]
 have ff:=s3 _ _ bv;have hcs3:=TupsAt.same s3 bt
 refine ⟨_,rfl,um,rfl,⟨_,SqL.of ff⟩,Ba (K:=K) (a:=um) (xs:=cs.map V.ref) (fun i σ H4=>(∃ v8 v9:Option V,σ=[some (.ref t),some (.ref u),some (.ref um),some (.ref t2),some (.ref tb),some (.ref d),some (.ref lp),some (.ref gl),v8,v9,none,none,none,none])/\(∀ b o,H3 b=some o->b ≠ d->H4 b=some o)/\H4 d=some (.dK (Az (ac.take i))))
  ⟨⟨none,none,rfl⟩,fun _ _ e _=>e,hd3⟩ (fun i σ H4 _ ⟨_,e,_⟩=>SqL.of (e _ _ ff umd)) ?_ ?_⟩
 ·rintro i v σ H4 hi ⟨⟨v8,v9,rfl⟩,e4,hd4⟩;obtain ⟨bb,p,rfl,hb1,aw,av⟩:=CD (TupsAt.sameT (fun b xs e=>e4 b _ e (fun z=>by rw [z,hd3] at e; cases e)) hcs3) hi;refine ⟨bb,_,rfl,SqT.of av,rfl,_,_,rfl,_,_,rfl,rfl,?_⟩
  have hn:p.1 ∉ (ac.take i).map (·.1):=fun z=>by
   have h7:=nd2.sublist ((take_sublist (i + 1) ac).map (·.1));rw [take_add_one,aw,map_append,nodup_append] at h7;exact h7.2.2 _ z _ (mem_singleton.mpr rfl) rfl
  refine ⟨_,rfl,_,rfl,_,rfl,d,_,rfl,DPut.k (k:=Sum.inr p.1) hd4 (Ab (by rw [EV,length_take]; omega)),?_⟩;refine ⟨⟨_,_,rfl⟩,fun b o e hb=>by rw [AH hb]; exact e4 b o e hb,?_⟩;rw [AB,OI hn,take_add_one,aw];rfl
 ·rintro σ H4 ⟨⟨v8,v9,rfl⟩,e4,hd4⟩;rw [show ac.take (cs.map V.ref).length=ac by rw [AF,ak,take_length]] at hd4;have s04:Same H H4:=fun b o e=>e4 b o (s3 _ _ (s02 _ _ e)) (AI e hdH);have k14:∀ b o,H1 b=some o->H4 b=some o:=fun b o e=>e4 b o (s3 _ _ (s12 _ _ e)) (hdm b o e);have htb4:=k14 _ _ bi;have hm4:=k14 _ _ hm;have hms4:TupsAt H4 ms (Br due):=TupsAt.sameT (fun b xs e=>k14 _ _ e) bj;have hgl4:=e4 _ _ bq gld;have hgm4:=e4 _ _ br gmd;have hgms4:TupsAt H4 gms (Br ac):=TupsAt.sameT (fun b xs e=>e4 b _ e (fun z=>by rw [z,hd3] at e; cases e)) hgms;have cv:=e4 _ _ cn (Ne.symm dlp);have ht4:=s04 _ _ ht;have TN4:=TN.same (fun b xs e=>s04 _ _ e);have TN24:=TN2.same (fun b xs e=>s04 _ _ e);have tlp:∀ b o,H b=some o->b ≠ lp:=fun b o e=>AI e hlpH;have tblp2:tb ≠ lp:=hlpm _ _ bi;clear e4 bt bv ak s12 hd2 s02 bi hm bj ff hcs3 hd3 cn bq br hgms dj hge s3 k14 hlpm hdm hgn
  have bf:(ms.map V.ref).length=(Aj due).length:=by
   have h1:=hms4.length;unfold Br at h1;rw [AF] at h1;unfold Aj;rw [AF,AF];exact h1
  have hgml:(gms.map V.ref).length=(AJ ac).length:=by
   have h1:=hgms4.length;unfold Br at h1;rw [AF] at h1;rw [AF];exact h1
  have hm6:(Aj due).length <= 6:=by
   have h4:=BE due;unfold Aj;rw [AF];omega
  let I4:Nat->St->Hp->Prop:=fun i σ H5=>(∃ v8 v9 v10 v11 v12 v13:Option V,σ=[some (.ref t),some (.ref u),some (.ref um),some (.ref t2),some (.ref tb),some (.ref d),some (.ref lp),some (.ref gl),v8,v9,v10,v11,v12,v13])/\(∀ z ∈ A3 (fun x=>tab.lookup x) ((Aj due).take i),FL ac ae z)/\(∀ b o,H4 b=some o->b ≠ lp->H5 b=some o)/\∃ (cs:List Addr) (es:List Ent),H5 lp=some (.lst (cs.map V.ref))/\Paired (EntA H5) cs es/\es.map (fun q=>(q.1,q.2.2))=(A3 (fun x=>tab.lookup x) ((Aj due).take i)).map (Tj ac ae)
  refine ⟨_,rfl,tb,_,rfl,.inl ⟨_,Sum.inr "marks", .inl htb4,rfl,(EZ _ _ _).symm⟩,m,rfl,⟨_,SqL.of hm4⟩,Ba (K:=K) (a:=m) (xs:=ms.map V.ref) I4
   ⟨⟨_,_,_,_,_,_,rfl⟩,(fun z hz=>by cases hz),fun _ _ e _=>e,⟨[],[],cv,.nil,rfl⟩⟩ (fun i σ H5 _ ⟨_,_,e,_⟩=>SqL.of (e _ _ hm4 mlp)) ?_ ?_⟩
  ·intro i v σ H5 hi h;have hGd:=h.2.1;have e5:=h.2.2.1;refine e2 h.2.2.2 fun cs es h2=>?_;have ar:=h2.1;have hP5:=h2.2.1;have ao:=h2.2.2;refine e6 h.1 fun v8 v9 v10 v11 v12 v13 e=>?_;subst e;clear h h2;have k5:∀ b xs,H4 b=some (.tup xs)->H5 b=some (.tup xs):=fun b xs e=>e5 b _ e (fun z=>by rw [z,cv] at e; cases e);obtain ⟨bb,nn,rfl,hn,av⟩:=Dd (TupsAt.sameT k5 hms4) hi;have hx:(Aj due)[i]?=some (BL (AT due) nn):=by unfold Aj; rw [getElem?_map,hn]; rfl
   have hi6:i < 6:=by have:=(List.getElem?_eq_some_iff.mp hx).1; omega
   generalize BL (AT due) nn=x at av hx;have s05:Same H H5:=fun b o e=>e5 b o (s04 _ _ e) (tlp b o e);have hd5:=e5 _ _ hd4 dlp;have hgl5:=e5 _ _ hgl4 gllp;have hgm5:=e5 _ _ hgm4 gmlp;have hgms5:=TupsAt.sameT k5 hgms4;have ht5:=s05 _ _ ht
   have bg:es.length <= 6:=by
    have h1:=congrArg List.length ao;rw [AF,AF] at h1;have h2:(A3 (fun x=>tab.lookup x) ((Aj due).take i)).length <= ((Aj due).take i).length:=by unfold A3; exact List.length_filterMap_le _ _
    rw [length_take] at h2;omega
   refine ⟨bb,_,rfl,SqT.of av,rfl,_,_,rfl,_,_,rfl,rfl,?_⟩;refine ⟨_,rfl,_,rfl,t,_,rfl,.inl ⟨_,Sum.inr x,.inl ht5,rfl,rfl⟩,_,rfl,?_⟩;rw [B3];cases eq:tab.lookup x with
   | none =>
    refine Aw ⟨⟨_,_,_,_,_,_,rfl⟩,?_,e5,cs,es,ar,hP5,?_⟩
    ·rw [J4 hx eq]; exact hGd
    ·rw [J4 hx eq]; exact ao
   | some q =>
    refine Bo ?_;obtain ⟨pk1,pk2,pk3⟩:=Tn (f:=fun x=>tab.lookup x) hx eq;rw [← al] at pk1 pk2;have hq1:=TN _ (CL eq);have hq5:=s05 _ _ hq1.1;refine ⟨Nat.zero_le _,fun c0 hc0=>⟨sl2,fun q0 hq0=>⟨q0,_,rfl,SqT.of AB,rfl,_,_,rfl,_,_,rfl,rfl,?_⟩⟩⟩;have sC:=AD (Same.refl _) hc0 (o:=HO.tup []);have hc00:=AB (H:=H5) (a:=c0) (o:=HO.tup []);have sD:=AD (Same.refl _) hq0 (o:=HO.tup [.int 0,.ref c0]);have s56:=sC.trans sD;have hc6:=sD _ _ hc00;generalize upd (upd H5 c0 (HO.tup [])) q0 (HO.tup [.int 0,.ref c0])=H6 at s56 hc6 ⊢;clear sC sD hc00 hc0 hq0
    let GN:St->Hp->Prop:=fun σ H7=>(∃ v12:Option V,σ=[some (.ref t),some (.ref u),some (.ref um),some (.ref t2),some (.ref tb),some (.ref d),some (.ref lp),some (.ref gl),some (.str x),some (.int (mNq ac (x,q):Nat)),some (.int (nn:Int)),some (.ref c0),v12,v13])/\H7=H6
    refine ⟨GN,fun R hR=>?_,?_⟩
    ·refine ⟨_,rfl,_,rfl,t,_,rfl,.inl ⟨_,Sum.inr x,.inl (s56 _ _ ht5),rfl,by rw [B3,eq]; rfl⟩,q.1,rfl,⟨_,SqT.of (s56 _ _ hq5)⟩,SY (K:=K) (a:=q.1) (xs:=q.2.map V.str) (fun j σ H7=>(∃ v12:Option V,σ=[some (.ref t),some (.ref u),some (.ref um),some (.ref t2),some (.ref tb),some (.ref d),some (.ref lp),some (.ref gl),some (.str x),some (.int (AQ ((q.2.take j).map (look ac)):Nat)),some (.int (nn:Int)),some (.ref c0),v12,v13])/\H7=H6)
      ⟨⟨_,rfl⟩,rfl⟩ (fun j σ H7 _ ⟨_,e⟩=>e ▸ SqT.of (s56 _ _ hq5)) ?_ ?_⟩
     ·rintro j v σ H7 hj ⟨⟨v12,rfl⟩,rfl⟩;rw [getElem?_map] at hj;obtain ⟨y,hy,rfl⟩:=Option.map_eq_some_iff.mp hj;have be:=hq1.2.2 y (mem_of_getElem? hy);refine ⟨_,rfl,_,rfl,_,rfl,d,_,rfl,.inl ⟨_,Sum.inr y,.inl (s56 _ _ hd5),rfl,(CQ be).symm⟩,_,_,rfl,rfl,⟨some (.str y),?_⟩,rfl⟩
      have eo:(fun i j=>V.int (Builtin.bitOr i j)) ((AQ ((q.2.take j).map (look ac)):Nat):Int) ((look ac y:Nat):Int)=V.int ((AQ ((q.2.take (j + 1)).map (look ac)):Nat):Int):=by
       show V.int (Builtin.bitOr _ _)=_;rw [DR,take_add_one,hy,map_append (l₂:=Option.toList (some y))];show _=V.int ((AQ (_++[look ac y]):Nat):Int);rw [DS]
      rw [← eo];rfl
     ·rintro σ H7 ⟨⟨v12,rfl⟩,rfl⟩;rw [AF,take_length];exact hR _ _ ⟨⟨_,rfl⟩,rfl⟩
    intro σ H7 h;have eH:=h.2;refine Exists.elim h.1 fun w12 e=>?_;clear h;subst e eH;refine ⟨_,rfl,_,rfl,gl,_,rfl,.inl ⟨_,Sum.inr "bits", .inl (s56 _ _ hgl5),rfl,(Lu _ _ _).symm⟩,_,_,rfl,rfl,_,rfl,rfl,_,rfl,?_⟩
    have ed:(!decide (V.int (Builtin.bitAnd ((mNq ac (x,q):Nat):Int) ((AQ (AJ ac):Nat):Int))=V.int ((mNq ac (x,q):Nat):Int)))=decide (mNq ac (x,q) - (mNq ac (x,q) &&& AQ (AJ ac)) ≠ 0):=by
     rw [CW];have hle:=Nat.and_le_left (n:=mNq ac (x,q)) (m:=AQ (AJ ac));by_cases z:mNq ac (x,q) - (mNq ac (x,q) &&& AQ (AJ ac))=0
     ·rw [decide_eq_true (show V.int (((mNq ac (x,q) &&& AQ (AJ ac)):Nat):Int)=V.int ((mNq ac (x,q):Nat):Int) by congr 1; omega),z];rfl
     ·rw [decide_eq_true z,decide_eq_false (fun y=>z (by have:=V.int.inj y; omega))]; rfl
    show if (!decide (V.int (Builtin.bitAnd ((mNq ac (x,q):Nat):Int) ((AQ (AJ ac):Nat):Int))=V.int ((mNq ac (x,q):Nat):Int)))=true then _ else _
    rw [ed];have hGt:∀ z ∈ tab.take (A3 (fun x=>tab.lookup x) ((Aj due).take i)).length,FL ac ae z:=by rw [pk2]; exact hGd
    have s07:=s05.trans s56;refine Bp (fun hc=>?_) (fun hc=>?_)
    ·have hbr:mNq ac (x,q) - (mNq ac (x,q) &&& AQ (AJ ac)) ≠ 0:=of_decide_eq_true hc;refine ⟨sl2,fun p hp=>?_⟩;exact kN ⟨_,_,pk1,hGt,hbr⟩ p _ (s07.trans (AD (Same.refl _) hp)) AB
    have hnb:¬ SG ac (x,q):=fun z=>hc (decide_eq_true (show mNq ac (x,q) - (mNq ac (x,q) &&& AQ (AJ ac)) ≠ 0 from z))
    let I5:Nat->St->Hp->Prop:=fun j σ H8=>(∃ (c:Addr) (v12 v13:Option V),σ=[some (.ref t),some (.ref u),some (.ref um),some (.ref t2),some (.ref tb),some (.ref d),some (.ref lp),some (.ref gl),some (.str x),some (.int (mNq ac (x,q):Nat)),some (.int (nn:Int)),some (.ref c),v12,v13]/\H8 c=some (.tup ((fl ae (vmN ac (mNq ac (x,q)) ((AJ ac).take j))).map V.str)))/\Has ae (vmN ac (mNq ac (x,q)) ((AJ ac).take j))/\Same H7 H8
    refine ⟨_,rfl,gl,_,rfl,.inl ⟨_,Sum.inr "marks", .inl (s56 _ _ hgl5),rfl,(EZ _ _ _).symm⟩,gm,rfl,⟨_,SqL.of (s56 _ _ hgm5)⟩,Ba (K:=K) (a:=gm) (xs:=gms.map V.ref) I5
     ⟨⟨c0,_,_,rfl,hc6⟩,(fun z hz=>by cases hz),Same.refl _⟩ (fun j σ H8 _ ⟨_,_,s8⟩=>SqL.of (s8 _ _ (s56 _ _ hgm5))) ?_ ?_⟩
    ·intro j v σ H8 hj h;have hH:=h.2.1;have s8:=h.2.2;refine e3 h.1 fun c z12 z13 h2=>?_;have hc8:=h2.2;have e:=h2.1;clear h2 h;subst e;obtain ⟨b2,n2,rfl,hn2,dl⟩:=Dd (TupsAt.same (s56.trans s8) hgms5) hj
     have hj6:j < 6:=by
      have h1:=(List.getElem?_eq_some_iff.mp hn2).1;have h2:=BE ac;omega
     refine ⟨b2,_,rfl,SqT.of dl,rfl,_,_,rfl,_,_,rfl,rfl,?_⟩;refine ⟨_,rfl,_,rfl,_,_,rfl,rfl,rfl,_,rfl,?_⟩
     have ed2:(!decide (V.int (Builtin.bitAnd ((mNq ac (x,q):Nat):Int) (n2:Int))=V.int 0))=decide (n2 &&& mNq ac (x,q) ≠ 0):=by
      rw [CW,Nat.and_comm];by_cases z:n2 &&& mNq ac (x,q)=0
      ·rw [z]; rfl
      ·rw [decide_eq_true z,decide_eq_false (fun y=>z (by have:=V.int.inj y; omega))]; rfl
     show if (!decide (V.int (Builtin.bitAnd ((mNq ac (x,q):Nat):Int) (n2:Int))=V.int 0))=true then _ else _
     rw [ed2];refine Bp (fun hq2=>?_) (fun hq2=>?_)
     ·have hb:=of_decide_eq_true hq2;obtain ⟨hx1,hx2⟩:=V2 hn2 hb;have hsn:=Tl hn2 hb;generalize BL (AT ac) n2=y at dl hx1 hsn ⊢;have s08:=s07.trans s8;refine ⟨_,rfl,_,rfl,t2,_,rfl,.inl ⟨_,Sum.inr y,Same.rd s08 ht2,rfl,rfl⟩,_,rfl,?_⟩;rw [B3];cases eq2:ae.lookup y with
      | none =>
       refine Bo ⟨_,rfl,sl3,fun p hp=>?_⟩;exact kU y ⟨_,_,pk1,hGt,hnb,_,hx1,by rw [hx2]; exact hH,eq2⟩ p _ (s08.trans (AD (Same.refl _) hp)) AB
      | some q2 =>
       refine Aw ?_;have hq21:=TN2 _ (CL eq2);have aj:=Kt hl3 (vmN ac (mNq ac (x,q)) ((AJ ac).take j))
       have hvl:(vmN ac (mNq ac (x,q)) ((AJ ac).take j)).length <= j:=by
        unfold vmN;rw [AF];refine Nat.le_trans (length_filter_le _ _) ?_;rw [length_take];omega
       have hq2l:=hl3 _ (CL eq2)
       have ef:fl ae (vmN ac (mNq ac (x,q)) ((AJ ac).take j)++[y])=fl ae (vmN ac (mNq ac (x,q)) ((AJ ac).take j))++q2.2:=by
        unfold fl;rw [List.flatMap_append,List.flatMap_singleton,eq2];rfl
       have hH2:Has ae (vmN ac (mNq ac (x,q)) ((AJ ac).take (j + 1))):=fun z hz=>by
        rw [hsn] at hz;rcases mem_append.mp hz with y' | y'
        ·exact hH z y'
        ·rw [mem_singleton.mp y',eq2]; rfl
       refine ⟨_,rfl,_,rfl,_,rfl,t2,_,rfl,.inl ⟨_,Sum.inr y,Same.rd s08 ht2,rfl,by rw [B3,eq2]; rfl⟩,c,q2.1,_,_,rfl,rfl,SqT.of hc8,SqT.of (s08 _ _ hq21.1),Nat.le_of_lt (Ab (by rw [AF,AF]; simp only at hq2l; omega)),fun z=>?_,fun z0 z=>?_,fun z0 z p hp=>?_⟩
       ·refine ⟨⟨q2.1,_,_,rfl,?_⟩,hH2,s8⟩;rw [hsn,ef,show fl ae (vmN ac (mNq ac (x,q)) ((AJ ac).take j))=[] from map_eq_nil_iff.mp z];exact s08 _ _ hq21.1
       ·refine ⟨⟨c,_,_,rfl,?_⟩,hH2,s8⟩;rw [hsn,ef,show q2.2=[] from map_eq_nil_iff.mp z,append_nil];exact hc8
       ·refine ⟨⟨p,_,_,rfl,?_⟩,hH2,s8.trans (AD (Same.refl _) hp)⟩;rw [AB,hsn,ef,map_append]
     ·have hb:¬ n2 &&& mNq ac (x,q) ≠ 0:=fun z=>hq2 (decide_eq_true z);rw [← Tm hn2 hb] at hH hc8;exact ⟨⟨c,_,_,rfl,hc8⟩,hH,s8⟩
    ·intro σ H8 h;have hH:=h.2.1;have s8:=h.2.2;refine e3 h.1 fun c z12 z13 h2=>?_;have hc8:=h2.2;have e:=h2.1;clear h2 h;subst e;rw [hgml,take_length] at hH hc8;have s58:=s56.trans s8;refine ⟨_,rfl,.inl ⟨rfl,_,SqL.of (s58 _ _ ar)⟩,_,rfl,_,rfl,sl2,fun ea hea=>?_⟩;have s9:=AD (Same.refl _) hea (o:=HO.tup [V.str x,V.ref c]);have s59:=s58.trans s9;have df:=AB (H:=H8) (a:=ea) (o:=HO.tup [V.str x,V.ref c]);have hc9:=s9 _ _ hc8;have au:=s59 _ _ ar;generalize upd H8 ea (HO.tup [V.str x,V.ref c])=H9 at s59 df hc9 au ⊢;have ak:cs.length=es.length:=hP5.length;refine ⟨lp,_,_,rfl,rfl,au,Ab (by rw [AF]; omega),?_⟩;have keep:∀ b xs,H9 b=some (.tup xs)->(upd H9 lp (HO.lst (cs.map V.ref++[V.ref ea]))) b=some (.tup xs):=fun b xs e=>by rw [AH (fun z=>by rw [z,au] at e; cases e)]; exact e
     refine ⟨⟨_,_,_,_,_,_,rfl⟩,fun z hz'=>?_,fun b o e hb=>by rw [AH hb]; exact s59 _ _ (e5 b o e hb),cs++[ea],es++[(x,c,fl ae (AO ac (mNq ac (x,q))))],?_,?_,?_⟩
     ·rw [pk3] at hz';rcases mem_append.mp hz' with y | y
      ·exact hGd z y
      ·rw [show z=(x,q) from mem_singleton.mp y];exact ⟨hnb,hH⟩
     ·rw [AB,map_append];rfl
     ·exact Paired.snoc (Paired.imp' (fun _ _ z=>z.same fun b xs e=>keep b xs (s59 _ _ e)) hP5) ⟨keep _ _ df,keep _ _ hc9⟩
     ·rw [pk3,map_append,map_append,ao];rfl
  ·rintro σ H5 ⟨⟨v8,v9,v10,v11,v12,v13,rfl⟩,hGd,e5,cs,es,ar,hP5,ao⟩;rw [bf,take_length,← al] at hGd ao;exact ⟨_,rfl,kG hGd lp cs es H5 (fun b o e=>e5 b o (s04 _ _ e) (tlp b o e)) ar hP5 ao⟩
end
theorem mem_fl {tab:List Ent} {ms:List Str} {z:Str}:z ∈ fl tab ms ↔ ∃ x ∈ ms,∃ q,tab.lookup x=some q/\z ∈ q.2:=by
 unfold fl;rw [List.mem_flatMap];constructor
 ·rintro ⟨x,hx,hz⟩;cases e:tab.lookup x with
  | none=>rw [e] at hz; cases hz
  | some q=>rw [e] at hz; exact ⟨x,hx,q,e,hz⟩
 ·rintro ⟨x,hx,q,e,hz⟩;refine ⟨x,hx,?_⟩;rw [e];exact hz
theorem mem_vm {n:Nat} {y:Str}:y ∈ AO due n ↔ ∃ m ∈ AJ due,m &&& n ≠ 0/\BL (AT due) m=y:=by
 unfold AO;rw [mem_map];constructor
 ·rintro ⟨m,hm,e⟩;obtain ⟨h1,h2⟩:=mem_filter.mp hm;exact ⟨m,h1,of_decide_eq_true h2,e⟩
 ·rintro ⟨m,h1,h2,e⟩;exact ⟨m,mem_filter.mpr ⟨h1,decide_eq_true h2⟩,e⟩
theorem Ku {m n:Nat} {k:Nat} (hm:m=2 ^ k):m &&& n ≠ 0 ↔ n.testBit k=true:=by
 subst hm;constructor
 ·intro h;cases e:n.testBit k with
  | true=>rfl
  | false =>
   refine absurd (Nat.eq_of_testBit_eq fun j=>?_) h;rw [Nat.testBit_and,Nat.testBit_two_pow,Nat.zero_testBit];by_cases z:k=j
   ·subst z; rw [e,Bool.and_false]
   ·rw [decide_eq_false z,Bool.false_and]
 ·intro h z;have:=congrArg (fun a=>a.testBit k) z;simp only [Nat.testBit_and,Nat.testBit_two_pow,Nat.zero_testBit] at this;rw [h] at this;simp at this
theorem Go {m:Nat} {l:List Nat} (hm:Ay m=true):m &&& AQ l ≠ 0 ↔ ∃ a ∈ l,m &&& a ≠ 0:=by
 obtain ⟨k,hk⟩:=CK hm;rw [Ku hk,A9,any_eq_true];constructor
 ·rintro ⟨a,ha,h⟩;exact ⟨a,ha,(Ku hk).mpr h⟩
 ·rintro ⟨a,ha,h⟩;exact ⟨a,ha,(Ku hk).mp h⟩
noncomputable def Bw (tab:List Ent) (ac:Aa) (ms:List Str):Nat:=AQ ((fl tab ms).map (look ac))
theorem J5 {tab:List Ent} {ms:List Str} {m:Nat} (hm:Ay m=true):m &&& Bw tab ac ms ≠ 0 ↔ ∃ x ∈ ms,∃ q,tab.lookup x=some q/\m &&& mNq ac (x,q) ≠ 0:=by
 unfold Bw;rw [Go hm];constructor
 ·rintro ⟨a,ha,h⟩;obtain ⟨z,hz,rfl⟩:=mem_map.mp ha;obtain ⟨x,hx,q,e,hq⟩:=mem_fl.mp hz;exact ⟨x,hx,q,e,(Go hm).mpr ⟨_,mem_map.mpr ⟨z,hq,rfl⟩,h⟩⟩
 ·rintro ⟨x,hx,q,e,h⟩;obtain ⟨a,ha,h2⟩:=(Go hm).mp h;obtain ⟨z,hz,rfl⟩:=mem_map.mp ha;exact ⟨_,mem_map.mpr ⟨z,mem_fl.mpr ⟨x,hx,q,e,hz⟩,rfl⟩,h2⟩
theorem vm_goal {tab:List Ent} {ms:List Str} {y:Str}:y ∈ AO ac (Bw tab ac ms) ↔ ∃ x ∈ ms,∃ q,tab.lookup x=some q/\y ∈ AO ac (mNq ac (x,q)):=by
 rw [mem_vm];constructor
 ·rintro ⟨m,h1,h2,e⟩;obtain ⟨x,hx,q,eq,h3⟩:=(J5 (FJ h1).2).mp h2;exact ⟨x,hx,q,eq,mem_vm.mpr ⟨m,h1,h3,e⟩⟩
 ·rintro ⟨x,hx,q,eq,h⟩;obtain ⟨m,h1,h2,e⟩:=mem_vm.mp h;exact ⟨m,h1,(J5 (FJ h1).2).mpr ⟨x,hx,q,eq,h2⟩,e⟩
theorem JC {ae:List Ent} (x:Str):∀ {tab es:List Ent},Shp ac tab ae es->(es.lookup x).map (·.2)=(tab.lookup x).map fun q=>fl ae (AO ac (mNq ac (x,q)))
 | [],[],_=>rfl
 | [],e :: r,h=>by cases h
 | a :: r,[],h=>by cases h
 | a :: r,e :: s,h=>by
  unfold Shp at h;rw [map_cons,map_cons] at h;injection h with h1 h2
  have e1:e.1=a.1:=(Prod.mk.inj h1).1;have e2:e.2.2=fl ae (AO ac (mNq ac a)):=(Prod.mk.inj h1).2;rw [lookup_cons,lookup_cons,e1];cases z:x == a.1 with
  | true=>show some e.2.2=some _; rw [e2]; rfl
  | false=>exact JC x (show Shp ac r ae s from h2)
theorem Px {l:List Nat} {b:Nat} (h:∀ a ∈ l,a - (a &&& b)=0):AQ l - (AQ l &&& b)=0:=by
 have key:AQ l &&& b=AQ l:=by
  refine Nat.eq_of_testBit_eq fun j=>?_;rw [Nat.testBit_and];cases e:(AQ l).testBit j with
  | false=>rfl
  | true =>
   rw [A9,any_eq_true] at e;obtain ⟨a,ha,hb⟩:=e;have h1:=h a ha;have h2:a &&& b=a:=Nat.le_antisymm Nat.and_le_left (by omega);have h3:=congrArg (fun z=>z.testBit j) h2;simp only [Nat.testBit_and,hb,Bool.true_and] at h3;rw [h3]; rfl
 rw [key];exact Nat.sub_self _
theorem Py {a b:Nat} {l:List Nat} (h:AQ l - (AQ l &&& b)=0) (ha:a ∈ l):a - (a &&& b)=0:=by
 have h2:AQ l &&& b=AQ l:=Nat.le_antisymm Nat.and_le_left (by omega)
 have key:a &&& b=a:=by
  refine Nat.eq_of_testBit_eq fun j=>?_;rw [Nat.testBit_and];cases e:a.testBit j with
  | false=>rfl
  | true =>
   have h3:=congrArg (fun z=>z.testBit j) h2;simp only [Nat.testBit_and] at h3;have h4:(AQ l).testBit j=true:=by rw [A9,any_eq_true]; exact ⟨a,ha,e⟩
   rw [h4,Bool.true_and] at h3;rw [h3]; rfl
 rw [key];exact Nat.sub_self _
section
variable {ad:Aa} {tab ae es:List Ent} {ms:List Str}
theorem Pz (hg:∀ q ∈ tab,FL ac ae q):Bw tab ac ms - (Bw tab ac ms &&& AQ (AJ ac))=0:=by
 unfold Bw;refine Px fun a ha=>?_;obtain ⟨z,hz,rfl⟩:=mem_map.mp ha;obtain ⟨x,hx,q,e,hq⟩:=mem_fl.mp hz;have h1:=(hg _ (CL e)).1;have h2:mNq ac (x,q) - (mNq ac (x,q) &&& AQ (AJ ac))=0:=Classical.byContradiction fun z=>h1 z;unfold mNq at h2;exact Py h2 (mem_map.mpr ⟨z,hq,rfl⟩)
theorem SI (hg:∀ q ∈ tab,FL ac ae q):Has ae (AO ac (Bw tab ac ms)):=fun y hy=>by
 obtain ⟨x,hx,q,e,h⟩:=vm_goal.mp hy;exact (hg _ (CL e)).2 y h
theorem SJ (hs:Shp ac tab ae es) (h:Has tab ms):Has es ms:=fun x hx=>by
 have h1:=h x hx;rw [C6] at h1 ⊢;rw [hs.fst];exact h1
theorem P1 (hs:Shp ac tab ae es):AQ ((fl es ms).map (look ad))=AQ ((fl ae (AO ac (Bw tab ac ms))).map (look ad)):=by
 refine Nat.eq_of_testBit_eq fun k=>?_;rw [A9,A9,any_map,any_map,Bool.eq_iff_iff,any_eq_true,any_eq_true];constructor
 ·rintro ⟨z,hz,hb⟩;obtain ⟨x,hx,q,e,hq⟩:=mem_fl.mp hz;have hl:=JC x hs;rw [e] at hl;cases e2:tab.lookup x with
  | none=>rw [e2] at hl; cases hl
  | some q0 =>
   rw [e2] at hl;have h3:q.2=fl ae (AO ac (mNq ac (x,q0))):=Option.some.inj hl;rw [h3] at hq;obtain ⟨y,hy,q2,e3,hz2⟩:=mem_fl.mp hq;exact ⟨z,mem_fl.mpr ⟨y,vm_goal.mpr ⟨x,hx,q0,e2,hy⟩,q2,e3,hz2⟩,hb⟩
 ·rintro ⟨z,hz,hb⟩;obtain ⟨y,hy,q2,e3,hz2⟩:=mem_fl.mp hz;obtain ⟨x,hx,q0,e2,hy2⟩:=vm_goal.mp hy;have hl:=JC x hs;rw [e2] at hl;cases e:es.lookup x with
  | none=>rw [e] at hl; cases hl
  | some q =>
   rw [e] at hl;have h3:q.2=fl ae (AO ac (mNq ac (x,q0))):=Option.some.inj hl;exact ⟨z,mem_fl.mpr ⟨x,hx,q,e,h3 ▸ mem_fl.mpr ⟨y,hy2,q2,e3,hz2⟩⟩,hb⟩
end
theorem Gp (n:Nat):plain (n:Int)=n:=by
 unfold plain;rw [if_pos (by omega)];omega
theorem MW (due:Aa) (n:Nat):Ae due (n:Int)=n - (n &&& kn due):=by
 unfold Ae;rw [Gp]
theorem JD {tab:List Ent} {n:Nat} (hn:TabN ac H tab) (h0:n - (n &&& AQ (AJ due))=0):Cz tab due ac n=Bw tab ac (AO due n)/\Ae ac ((Cz tab due ac n:Nat):Int)=0:=by
 have e:Cz tab due ac n=Bw tab ac (AO due n):=by
  unfold Cz Bw;rw [h0,Nat.or_zero]
 refine ⟨e,?_⟩;rw [MW,e];exact Ip (R5 hn _)
end Mk
end
section
namespace L2
open PySem
section
variable {X:Cx}
theorem MY {st:Stmt} {rest:List Stmt} {t u:TS} (h1:PSw X st t) (h2:PSsw X rest u):PSsw X (st :: rest) (Vw t u):=⟨BV h1.h h2.h⟩
theorem SK {sts:List Stmt} {t:TS} (h:PSsw X sts t):PSsw X sts (fun D σ H=>∃ a kvs,H a=some (.dK kvs)/\∀ o,t D σ (upd H a (.frz o (.dK kvs)))):=⟨Cf h.h⟩
end
end L2
namespace Mk
open PySem L2 MK
theorem T4 {X:Cx}:Bn (CXr P w) X E0:=fun _ _ _ _ _ _ _ ⟨_,_,_,_,_,_,q⟩=>q.elim
structure FunC (K:FG) (x qual:Str) (st:Stmt) (f:Addr) (fd:FuncData) (c:Addr):Prop where
 ex:∃ (oc:Value) (od:Option Addr) (kV doc pm:Value) (an:Option Addr) (ct:Value) (osl:Array (Option Value)),
  fd=W.fnOf x qual (defArgs st) (defBody st) (defScope st) .none kV doc pm an (.ref c) ct/\K.lookup f=some ⟨oc,od,.func fd,osl⟩/\W.codeIn K (.ref c) qual=true
theorem FunC.ok {x qual:Str} {st:Stmt} {c:Addr} {N ps:List Str} {k:Nat} {sp:Sp} (F:FunC K x qual st f fd c) (S:AM N ps (defScope st)) (len:∀ vs H Q E,sp vs H Q E->vs.length=ps.length)
  (b8:∀ (A:Around) (outer:List Env) (s:Shared) (H:Hp) (vs:List V) (Q:VK) (E:XK),Room k (A.deeper (PyProof.Rows.envOfC qual (defScope st) s.heap.objs.size f (.ref c)))->sp vs H Q E ->
   ∃ t,PSs (BA CX0 P w K mg base N qual (defScope st) f (.ref c) A outer s H E).nox (defBody st) t/\t { nx:=fun _ H'=>Q .non H',rt:=Q } (Bu N vs) H):Ac P w K mg base CX0 (k + 1) f fd ps sp:=by
 obtain ⟨oc,od,kV,doc,pm,an,ct,osl,rfl,lk,hcd⟩:=F.ex;refine Nw lk hcd S len fun A outer s H vs Q E hr hsp=>?_;obtain ⟨t,h,q⟩:=b8 A outer s H vs Q E hr hsp;exact ⟨t,h.nox,q⟩
noncomputable def OU:Stmt->List Stmt | .For _ _ b _ _=>b | _=>[]
noncomputable def SL:Stmt->Expr | .Assign _ v _=>v | _=>.Name "" ⟨0,0,0,0⟩
noncomputable def Cj (i:Nat):Expr->Expr | .Call _ es _ _=>es.getD i (.Name "" ⟨0,0,0,0⟩) | e=>e
noncomputable def V4 (i:Nat):Expr->Expr | .Tuple es _ _=>es.getD i (.Name "" ⟨0,0,0,0⟩) | e=>e
noncomputable def U9:Stmt->List Stmt | .If _ _ o _=>o | _=>[]
noncomputable def VA:Stmt->Expr | .If t _ _ _=>t | _=>.Name "" ⟨0,0,0,0⟩
noncomputable def VB (i:Nat):Expr->Expr | .BoolOp _ es _=>es.getD i (.Name "" ⟨0,0,0,0⟩) | e=>e
noncomputable def Wd:Expr->Expr | .Compare l _ _ _=>l | e=>e
noncomputable def P2 (l:List Stmt) (i:Nat):Stmt:=l.getD i (.Pass ⟨0,0,0,0⟩)
noncomputable def SM:List Stmt:=OU (P2 (defBody CY) 0)
noncomputable def J6:Expr:=V4 1 (SL (P2 SM 4))
noncomputable def J7:Expr:=SL (P2 (OU (P2 (U9 (P2 SM 5)) 1)) 2)
noncomputable def J8:Expr:=Wd (VB 1 (VA (P2 SM 6)))
noncomputable def Kv:Expr->Expr | .Lambda _ b _ _=>b | e=>e
noncomputable def Nm:Expr->Arguments | .Lambda a _ _ _=>a | _=>defArgs CY
noncomputable def JE:Expr->Scope | .Lambda _ _ sc _=>sc | _=>defScope CY
noncomputable def Gq:Expr->Pos | .Lambda _ _ _ p=>p | _=>⟨0,0,0,0⟩
noncomputable def LS:List Pos:=[Gq (Cj 0 J6),Gq (Cj 0 J7),Gq (Cj 0 J8)]
theorem SN (j:Nat):∀ l,LS[j]?=some l->∀ q ∈ LS,q=l\/(q.line == l.line && q.col == l.col)=false:=by
 have key:(LS.all fun l=>LS.all fun q=>decide (q=l) || !(q.line == l.line && q.col == l.col))=true:=by decide +kernel
 intro l hl q hq;have h1:=List.all_eq_true.mp (List.all_eq_true.mp key l (mem_of_getElem? hl)) q hq;rw [Bool.or_eq_true] at h1;rcases h1 with z | z
 ·exact .inl (of_decide_eq_true z)
 ·exact .inr (by rw [Bool.not_eq_true'] at z; exact z)
theorem Gr {α β:Type} [BEq α] [LawfulBEq α] {x:α} {v:β}:∀ {l:List (α × β)},l.lookup x=some v->(x,v) ∈ l
  | [],h=>by cases h
  | (y,u) :: r,h=>by
    rw [lookup_cons] at h;cases e:x == y with
    | true =>
      rw [e] at h;cases h;rw [eq_of_beq e];exact mem_cons_self ..
    | false =>
      rw [e] at h;exact mem_cons_of_mem _ (Gr h)
theorem Tp {scope:Scope} {clos:List (Str × Addr)} (h:scope.names.all (fun p=>!(p.2 == .cell || p.2 == .free) || (clos.lookup p.1).isSome)=true):∀ x,(scope.names.lookup x=some .cell\/scope.names.lookup x=some .free)->∃ c,clos.lookup x=some c:=fun x hx=>by
 have g:∀ k,scope.names.lookup x=some k->(k == .cell || k == .free)=true->∃ c,clos.lookup x=some c:=fun k e hk=>by
  have:=List.all_eq_true.mp h _ (Gr e);simp only [hk,Bool.not_true,Bool.false_or] at this;exact Option.isSome_iff_exists.mp this
 rcases hx with z | z
 ·exact g _ z rfl
 ·exact g _ z rfl
noncomputable def qL:Str := "law.<locals>." ++ "<lambda>"
theorem TabOk.same {P0:Addr} {q:Str} {ls:List Pos} (s:Same H H') (h:TabOk H P0 q ls):TabOk H' P0 q ls:=by
 obtain ⟨ps,h1,h2,h3⟩:=h;refine ⟨ps,s _ _ h1,h2,fun x hx=>?_⟩;rcases h3 x hx with z | ⟨c,z1,z2⟩
 ·exact .inl z
 ·exact .inr ⟨c,z1,s _ _ z2⟩
theorem TabOk.sameX {d:Addr} {P0:Addr} {q:Str} {ls:List Pos} {x y:Int} (hd:H d=some (.lst [.int x,.int y])) (s:SameX d H H') (h:TabOk H P0 q ls):TabOk H' P0 q ls:=by
 obtain ⟨ps,h1,h2,h3⟩:=h;refine ⟨ps,s.old _ _ h1 (fun z=>by subst z; rw [hd] at h1; cases h1),h2,fun x hx=>?_⟩;rcases h3 x hx with z | ⟨c,z1,z2⟩
 ·exact .inl z
 ·exact .inr ⟨c,z1,s.old _ _ z2 (fun z=>by subst z; rw [hd] at z2; cases z2)⟩
theorem TabOk.ne {d:Addr} {P0:Addr} {q:Str} {ls:List Pos} {xs:List V} (hd:H d=some (.lst xs)) (h:TabOk H P0 q ls):d ≠ P0:=fun z=>by
 obtain ⟨ps,h1,_⟩:=h;subst z;rw [hd] at h1;cases h1
theorem MZ {c':Addr} {q:Str} {dx:Option Addr}:Ff c' q ≠ Fd c' C dx:=fun z=>by
 have h:({ objs:=Array.replicate (c' + 1) ⟨.ref C,dx,.fields (Array.replicate 6 .none),#[]⟩ }:Heap).get? c'=some ⟨.ref C,dx,.fields (Array.replicate 6 .none),#[]⟩:=by
  unfold Heap.get?;rw [Array.getElem?_replicate,if_pos (Nat.lt_succ_self _)]
 have hz:=congrFun (HO.ext.inj z) { objs:=Array.replicate (c' + 1) ⟨.ref C,dx,.fields (Array.replicate 6 .none),#[]⟩ };have hy:=hz.mpr ⟨_,_,h,rfl,rfl,rfl,by decide,by decide⟩;obtain ⟨c1,oc,vs,t,e,ho,hd,hq⟩:=hy;cases e;rw [h] at ho;cases ho;cases hd;rw [Array.getElem?_replicate] at hq;split at hq <;> cases hq
def Rl (d P0:Addr) (H H':Hp):Prop:=∀ b o,H b=some o->b ≠ d->b ≠ P0->(∀ g,o ≠ .ext g)->H' b=some o
theorem Rl.trans {d P0:Addr} {H1 H2:Hp} (a:Rl d P0 H H1) (b:Rl d P0 H1 H2):Rl d P0 H H2:=fun c o e h1 h2 h3=>b c o (a c o e h1 h2 h3) h1 h2 h3
theorem Rl.same {d P0:Addr} (s:Same H H'):Rl d P0 H H':=fun b o e _ _ _=>s b o e
theorem Rl.sameX {d P0:Addr} (s:SameX d H H'):Rl d P0 H H':=fun b o e h _ _=>s.old b o e h
theorem Rl.sameB {d P0:Addr} (s:Lf P0 H H'):Rl d P0 H H':=fun b o e _ h _=>s b o h e
def Keeps (H H':Hp):Prop:=∀ b o,H b=some o->(∀ x y:Int,o ≠ .lst [.int x,.int y])->(∀ ps,o ≠ .tbl ps)->(∀ g,o ≠ .ext g)->H' b=some o
theorem OV {ms:List Addr} {x y:Int}:HO.lst (ms.map V.ref) ≠ .lst [.int x,.int y]:=fun z=>by
 injection z with z
 cases ms with
 | nil=>cases z
 | cons a r=>cases z
theorem Keeps.t (s:Keeps H H'):SameT H H':=fun b xs e=>s _ _ e (fun _ _ z=>nomatch z) (fun _ z=>nomatch z) (fun _ z=>nomatch z)
theorem Keeps.kind {p:Addr} {r:Str} (s:Keeps H H') (h:KindAt C H p due r):KindAt C H' p due r:=by
 obtain ⟨dx,d1,o1,d2,o2,a,b,c⟩:=h.ex;exact ⟨⟨dx,d1,o1,d2,o2,s _ _ a (fun _ _ z=>nomatch z) (fun _ z=>nomatch z) (fun _ z=>nomatch z),s _ _ b (fun _ _ z=>nomatch z) (fun _ z=>nomatch z) (fun _ z=>nomatch z),s _ _ c (fun _ _ z=>nomatch z) (fun _ z=>nomatch z) (fun _ z=>nomatch z)⟩⟩
theorem Keeps.ed {p k o:Addr} {kvs:LK} (s:Keeps H H') (h:EdAt EC H p k o kvs):EdAt EC H' p k o kvs:=by
 obtain ⟨dx,d,ob,h1,h2⟩:=h;exact ⟨dx,d,ob,s _ _ h1 (fun _ _ z=>nomatch z) (fun _ z=>nomatch z) (fun _ z=>nomatch z),s _ _ h2 (fun _ _ z=>nomatch z) (fun _ z=>nomatch z) (fun _ z=>nomatch z)⟩
theorem Keeps.dul {u:Addr} (s:Keeps H H') (h:DueL H u due):DueL H' u due:=by
 obtain ⟨bs,h1,h2⟩:=h;exact ⟨bs,s _ _ h1 (fun _ _=>OV) (fun _ z=>nomatch z) (fun _ z=>nomatch z),TupsAt.sameT s.t h2⟩
theorem Keeps.dK {t:Addr} {kvs:LK} (s:Keeps H H') (h:H t=some (.dK kvs)):H' t=some (.dK kvs):=s _ _ h (fun _ _ z=>nomatch z) (fun _ z=>nomatch z) (fun _ z=>nomatch z)
structure Wa (C EC d P0 p k o t u um la:Addr) (due ac ad:Aa) (r r2 r3:Str) (tab:List Ent) (H:Hp):Prop where
 tb:TabOk H P0 qL LS
 dice:∃ x y:Int,H d=some (.lst [.int x,.int y])
 ed:EdAt EC H p k o (kvT tab)
 ka:KindAt C H k due r
 kb:KindAt C H o ac r2
 kc:KindAt C H la ad r3
 ht:H t=some (.dK (kvT tab))
 tn:TabN ac H tab
 d1:DueL H u due
 d2:DueL H um ac
structure Wb (EC o la t2 p2:Addr) (ad:Aa) (ae:List Ent) (H:Hp):Prop where
 ht2:Rd H t2 (.dK (kvT ae))
 tn2:TabN ad H ae
 ed2:EdAt EC H p2 o la (kvT ae)
section
variable {d P0 p k o t u um la t2 p2:Addr} {ad:Aa} {r r2 r3:Str} {tab ae:List Ent}
theorem Wa.keeps (s:Rl d P0 H H') (h:Wa C EC d P0 p k o t u um la due ac ad r r2 r3 tab H):Keeps H H':=fun b o eb h1 h2 h3=>by
 refine s b o eb (fun z=>?_) (fun z=>?_) h3
 ·subst z;obtain ⟨x,y,hd⟩:=h.dice;rw [hd] at eb;cases eb;exact h1 _ _ rfl
 ·subst z;obtain ⟨ps,hp,_⟩:=h.tb;rw [hp] at eb;cases eb;exact h2 _ rfl
theorem Wa.go (s:Rl d P0 H H') (hd:∃ x y:Int,H' d=some (.lst [.int x,.int y])) (ht:TabOk H' P0 qL LS) (h:Wa C EC d P0 p k o t u um la due ac ad r r2 r3 tab H):Wa C EC d P0 p k o t u um la due ac ad r r2 r3 tab H':=by
 have K:=h.keeps s;exact ⟨ht,hd,K.ed h.ed,K.kind h.ka,K.kind h.kb,K.kind h.kc,K.dK h.ht,h.tn.same K.t,K.dul h.d1,K.dul h.d2⟩
theorem Wb.go (K:Keeps H H') (h:Wb EC o la t2 p2 ad ae H):Wb EC o la t2 p2 ad ae H':=by
 refine ⟨?_,h.tn2.same K.t,K.ed h.ed2⟩;rcases h.ht2 with z | ⟨ob,z⟩
 ·exact .inl (K.dK z)
 ·exact .inr ⟨ob,K _ _ z (fun _ _ z=>nomatch z) (fun _ z=>nomatch z) (fun _ z=>nomatch z)⟩
theorem Wa.same (s:Same H H') (h:Wa C EC d P0 p k o t u um la due ac ad r r2 r3 tab H):Wa C EC d P0 p k o t u um la due ac ad r r2 r3 tab H':=h.go (Rl.same s) (by obtain ⟨x,y,z⟩:=h.dice; exact ⟨x,y,s _ _ z⟩) (TabOk.same s h.tb)
theorem Wb.same (s:Same H H') (h:Wb EC o la t2 p2 ad ae H):Wb EC o la t2 p2 ad ae H':=h.go fun b o e _ _ _=>s b o e
theorem Wa.sameX (s:SameX d H H') (h:Wa C EC d P0 p k o t u um la due ac ad r r2 r3 tab H):Wa C EC d P0 p k o t u um la due ac ad r r2 r3 tab H':=by
 obtain ⟨x,y,hd⟩:=h.dice;exact h.go (Rl.sameX s) s.dice (TabOk.sameX hd s h.tb)
theorem Wa.sameB (s:Lf P0 H H') (ht:TabOk H' P0 qL LS) (h:Wa C EC d P0 p k o t u um la due ac ad r r2 r3 tab H):Wa C EC d P0 p k o t u um la due ac ad r r2 r3 tab H':=by
 obtain ⟨x,y,hd⟩:=h.dice;exact h.go (Rl.sameB s) ⟨x,y,s _ _ (TabOk.ne hd h.tb) hd⟩ ht
theorem Wa.exc {H1 H2:Hp} {e' C':Addr} {dx:Option Addr} (s1:Same H H1) (he:H1 e'=some (Fd e' C' dx)) (s2:Same (del H1 e') H2) (h:Wa C EC d P0 p k o t u um la due ac ad r r2 r3 tab H):Wa C EC d P0 p k o t u um la due ac ad r r2 r3 tab H2/\Rl d P0 H H2:=by
 have old:∀ b o,H b=some o->o ≠ Fd b C' dx->H2 b=some o:=fun b o eb hn=>by
  have eb1:=s1 _ _ eb;refine s2 _ _ ?_;have hbe:b ≠ e':=fun z=>by subst z; rw [he] at eb1; cases eb1; exact hn rfl
  unfold del;rw [if_neg hbe];exact eb1
 have R:Rl d P0 H H2:=fun b o eb _ _ hx=>old b o eb (hx _);refine ⟨h.go R ?_ ?_,R⟩
 ·obtain ⟨x,y,hd⟩:=h.dice;exact ⟨x,y,old _ _ hd (fun z=>nomatch z)⟩
 ·obtain ⟨ps,h1,h2,h3⟩:=h.tb;refine ⟨ps,old _ _ h1 (fun z=>nomatch z),h2,fun x hx=>?_⟩;rcases h3 x hx with z | ⟨c,z1,z2⟩
  ·exact .inl z
  ·exact .inr ⟨c,z1,old _ _ z2 MZ⟩
theorem OW {ec:Nat->Addr} {cM cU:Addr} {j:Nat} {Q:VK} {H1:Hp} (EP:Jw K ec cM cU j) (W:Wa C EC d P0 p k o t u um la due ac ad r r2 r3 tab H) (s1:Same H H1)
  (h:∀ q H',Wa C EC d P0 p k o t u um la due ac ad r r2 r3 tab H'->Rl d P0 H H'->H' q=some (.tup [.str "refused", .str (wd j)])->Q (.ref q) H'):Jy K ec cM Q (.ref cU) none H1:=⟨cU,rfl,fun e' he'=>.inl ⟨j,EP,rfl,fun q H2 s2 hq=>by
 obtain ⟨W2,R2⟩:=W.exc s1 he' s2
 exact h q H2 W2 R2 hq⟩⟩
theorem OX {ec:Nat->Addr} {cM cX d0:Addr} {j:Nat} {v:V} {Q:VK} {H1:Hp} (EF:Jx K ec cX j) (W:Wa C EC d P0 p k o t u um la due ac ad r r2 r3 tab H) (s1:Same H H1) (hd:H1 d0=some (.xd [(Il j,v)]))
  (h:∀ q H',Wa C EC d P0 p k o t u um la due ac ad r r2 r3 tab H'->Rl d P0 H H'->H' q=some (.tup [.str "refused", .str (wd j),v])->Q (.ref q) H'):Jy K ec cM Q (.ref cX) (some d0) H1:=⟨cX,rfl,fun e' he'=>.inr ⟨j,d0,v,EF,rfl,by
  unfold del;rw [if_neg (fun z=>by rw [z,he'] at hd; cases hd)];exact hd,fun q H2 s2 hq=>by
  obtain ⟨W2,R2⟩:=W.exc s1 he' s2
  exact h q H2 W2 R2 hq⟩⟩
end
theorem OY {b:Addr} {x y z:Str} (h:H b=some (.tup [.str x,.str y,.str z])):Bq K H (.tuple [.str x,.str y,.str z]) (.ref b):=by
 rw [Bq];refine ⟨b,_,rfl,SqT.of h,?_⟩;rw [Ax];refine ⟨_,_,rfl,by rw [Bq],?_⟩;rw [Ax];refine ⟨_,_,rfl,by rw [Bq],?_⟩;rw [Ax];refine ⟨_,_,rfl,by rw [Bq],?_⟩;rw [Ax]
def P3 (d:PyData):Prop:=(∃ x:Str,d=.str x/\x.cps.all (· < 128)=true)\/∃ n:Int,d=.int n
theorem JF {d:PyData} (h:P3 d):d.canLay0=true/\d.depth <= 1/\PyData.eqv d d=true:=by
 rcases h with ⟨x,rfl,hx⟩ | ⟨n,rfl⟩
 ·exact ⟨by rw [PyData.canLay0]; exact Ig hx,by simp [PyData.depth],Fy _⟩
 ·exact ⟨by rw [PyData.canLay0],by simp [PyData.depth],Ko _⟩
theorem DH {ds:List PyData} (h:∀ d ∈ ds,P3 d):(PyData.tuple ds).canLay0=true/\(PyData.tuple ds).depth <= 2/\PyData.eqv (.tuple ds) (.tuple ds)=true:=by
 refine ⟨?_,?_,Fx fun d hd=>(JF (h d hd)).2.2⟩
 ·rw [PyData.canLay0];exact Km fun d hd=>(JF (h d hd)).1
 ·rw [PyData.depth];have:=NR (k:=1) fun d hd=>(JF (h d hd)).2.1;omega
theorem Bx {ds:List PyData} (h:∀ d ∈ ds,P3 d):SeqAt.shaped (.tuple ds)=true:=by
 unfold SeqAt.shaped;simp only [Bool.and_eq_true,decide_eq_true_eq];exact ⟨(DH h).1,Nat.le_trans (DH h).2.1 (by decide)⟩
noncomputable def HB (q:Ent):PyData:=.tuple [.str q.1,.tuple (q.2.2.map PyData.str)]
theorem JG:∀ {as:List Addr} {tab:List Ent},Paired (EntA H) as tab->Ax K H (tab.map HB) (as.map V.ref)
 | _,_,.nil=>by show Ax K H [] []; rw [Ax]
 | b :: bs,q :: r,.cons h1 h2=>by
  show Ax K H (HB q :: r.map HB) (V.ref b :: bs.map V.ref);rw [Ax];refine ⟨_,_,rfl,?_,JG h2⟩;unfold HB;rw [Bq];refine ⟨b,_,rfl,SqT.of h1.1,?_⟩;rw [Ax];refine ⟨_,_,rfl,by rw [Bq],?_⟩;rw [Ax];refine ⟨_,_,rfl,?_,by rw [Ax]⟩;rw [Bq];exact ⟨_,_,rfl,SqT.of h1.2,Lq _⟩
theorem SO {tab:List Ent} (asc:Asc due) (ap:Asc ac) (hn:TabN ac H tab) (hk:∀ q ∈ tab,q.1 ∈ due.map (·.1)):SeqAt.shaped (.list (tab.map HB))=true/\PyData.eqv (.list (tab.map HB)) (.list (tab.map HB))=true:=by
 have key:∀ d ∈ tab.map HB,d.canLay0=true/\d.depth <= 60/\PyData.eqv d d=true:=fun d hd=>by
  obtain ⟨q,hq,rfl⟩:=mem_map.mp hd;obtain ⟨z,hz,ez⟩:=mem_map.mp (hk q hq);have h1:q.1.cps.all (· < 128)=true:=ez ▸ asc z hz
  have hF:=DH (ds:=q.2.2.map PyData.str) fun d hd=>by
   obtain ⟨y,hy,rfl⟩:=mem_map.mp hd;obtain ⟨z,hz,ez⟩:=mem_map.mp ((hn q hq).2.2 y hy);exact .inl ⟨y,rfl,ez ▸ ap z hz⟩
  unfold HB;refine ⟨?_,?_,Fx fun d hd=>?_⟩
  ·rw [PyData.canLay0];refine Km fun d hd=>?_;simp only [mem_cons,not_mem_nil,or_false] at hd;rcases hd with rfl | rfl
   ·rw [PyData.canLay0]; exact Ig h1
   ·exact hF.1
  ·rw [PyData.depth]
   have:=NR (k:=2) (ds:=[PyData.str q.1,.tuple (q.2.2.map PyData.str)]) fun d hd=>by
    simp only [mem_cons,not_mem_nil,or_false] at hd;rcases hd with rfl | rfl
    ·simp [PyData.depth]
    ·exact hF.2.1
   omega
  ·simp only [mem_cons,not_mem_nil,or_false] at hd;rcases hd with rfl | rfl
   ·exact Fy _
   ·exact hF.2.2
 exact ⟨Gv fun d hd=>⟨(key d hd).1,(key d hd).2.1⟩,JO fun d hd=>(key d hd).2.2⟩
theorem Nn (due:Aa) (n:Nat):(n &&& AQ (AJ due)) - ((n &&& AQ (AJ due)) &&& kn due)=0:=by
 have h:(n &&& AQ (AJ due)) &&& kn due=n &&& AQ (AJ due):=by
  refine Nat.eq_of_testBit_eq fun j=>?_;rw [Nat.testBit_and,Nat.testBit_and];cases e:(AQ (AJ due)).testBit j with
  | false=>rw [Bool.and_false,Bool.false_and]
  | true =>
   rw [A9,any_eq_true] at e;obtain ⟨x,hx,hb⟩:=e
   have:(kn due).testBit j=true:=by
    unfold kn;rw [A9,any_eq_true];exact ⟨x,mem_map.mpr ⟨_,DF hx,rfl⟩,hb⟩
   rw [this,Bool.and_true]
 omega
noncomputable def C0 (due:Aa):List (Str × Th):=due.map fun p=>(p.1,Th.num p.2)
theorem Ma (a:List (Str × Th)):∀ (due:Aa),AX (a++C0 due)=AX a++due
 | []=>by unfold C0; rw [map_nil,append_nil,append_nil]
 | p :: r=>by
  have e:a++C0 (p :: r)=(a++[(p.1,Th.num p.2)])++C0 r:=by unfold C0; rw [map_cons,List.append_assoc]; rfl
  rw [e,Ma _ r,ES,List.append_assoc];rfl
theorem JH (due:Aa):AX (C0 due)=due:=Ma [] due
theorem SQ (h:IS due) (h9:due.length <= 10):C3 (C0 due):=fun i r hi=>by
 have hi2:=hi;unfold C0 at hi2;rw [getElem?_map] at hi2;obtain ⟨p,hp,rfl⟩:=Option.map_eq_some_iff.mp hi2;have hlt:=(List.getElem?_eq_some_iff.mp hp).1
 have e:AX ((C0 due).take i)=due.take i:=by
  unfold C0;rw [← map_take];exact JH _
 rw [e];have hm:=mem_of_getElem? hp;refine ⟨⟨by rw [length_take]; omega,fun q hq=>h.lt q (mem_of_mem_take hq),h.nd.sublist ((take_sublist i due).map (·.1)),fun q hq=>h.nm q (mem_of_mem_take hq)⟩,by rw [length_take]; omega,h.nm p hm,fun z=>?_,trivial,h.lt p hm⟩;have h7:=h.nd.sublist ((take_sublist (i + 1) due).map (·.1));rw [take_add_one,hp,map_append,nodup_append] at h7;exact h7.2.2 _ z _ (mem_singleton.mpr rfl) rfl
theorem Mb:∀ {bs:List Addr} {due:Aa},TupsAt H bs (C4 due)->Paired (RowAt H) bs (C0 due)
 | [],[],_=>.nil
 | [],q :: r,h=>by cases h
 | b :: bs,[],h=>by cases h
 | b :: bs,q :: r,h=>by
  cases h with
  | cons h1 h2=>exact .cons ⟨_,h1,rfl⟩ (Mb h2)
theorem T5 {n:Nat} {x:Str} (h:x ∈ AO due n):x ∈ due.map (·.1):=by
 obtain ⟨m,hm,rfl⟩:=mem_map.mp h;exact mem_map.mpr ⟨_,DF (mem_filter.mp hm).1,rfl⟩
section
variable {cL cR cU p k o v a b:Addr} {σ:St} {Q:VK} {E:XK} {i j n:Nat} {due':Aa} {r r' r2:Str} {tab:List Ent} {kvs:LK}
def V5 (C:Addr):R2:=fun x y H Q=>∃ a dx fs b dy gs,x=.ref a/\y=.ref b/\H a=some (.ins C dx fs)/\H b=some (.ins C dy gs)/\Qb (Ii C) a b H (fun v H'=>∃ t:Bool,v=.bl t/\Q (.bl (!t)) H')
def V6 (C VC:Addr):R2:=fun x y H Q=>∃ a dx fs b dy gs,x=.ref a/\y=.ref b/\H a=some (.ins VC dx fs)/\H b=some (.ins VC dy gs)/\Qb (ON C VC) a b H (fun v H'=>∃ t:Bool,v=.bl t/\Q (.bl (!t)) H')
theorem OZ (e:σ[i]?=some (some (.ref p))) (ED:EdAt EC H p k o kvs) (q:Q (.ref k) H):Ef EC "kind" (F5 EC) [] E (Ck i) CO σ H Q:=by
 obtain ⟨dx,d,ob,hp,hd⟩:=id ED;exact ⟨_,e,p,dx,_,rfl,hp,DE _ _ _,p,k,o,kvs,rfl,ED,q⟩
theorem T6 (e:σ[i]?=some (some (.ref p))) (ED:EdAt EC H p k o kvs) (q:Q (.ref o) H):Ef EC "other" (EH EC) [] E (Ck i) CO σ H Q:=by
 obtain ⟨dx,d,ob,hp,hd⟩:=id ED;exact ⟨_,e,p,dx,_,rfl,hp,DE _ _ _,p,k,o,kvs,rfl,ED,q⟩
theorem V7 (e:σ[i]?=some (some (.ref p))) (ED:EdAt EC H p k o kvs) (q:∀ l as H',Same H H'->H' l=some (.lst (as.map V.ref))->TupsAt H' as (kvs.map fun kv=>(kV kv.1,kv.2))->Q (.ref l) H'):Ef EC "pairs" (EJ EC) [] E (Ck i) CO σ H Q:=by
 obtain ⟨dx,d,ob,hp,hd⟩:=id ED;exact ⟨_,e,p,dx,_,rfl,hp,DE _ _ _,p,k,o,kvs,rfl,ED,q⟩
theorem No (KA:KindAt C H a due r) (KB:KindAt C H b due' r') (asc:Asc due) (asc':Asc due') (q:∀ H',Same H H'->Q (.bl (!decide (due=due'/\r=r'))) H'):V5 C (.ref a) (.ref b) H Q:=by
 obtain ⟨dk,g1,g2,hk⟩:=KA.ins;obtain ⟨dk',g1',g2',hk'⟩:=KB.ins;exact ⟨a,dk,_,b,dk',_,rfl,rfl,hk,hk',a,b,due,r,rfl,KA,asc,.inr ⟨due',r',KB,asc',fun H1 s1=>⟨_,rfl,_,rfl,q H1 s1⟩⟩⟩
theorem VD (hA:ValAt VC H a k n) (hB:ValAt VC H b k n) (KA:KindAt C H k due r) (asc:Asc due) (q:∀ H',Same H H'->Q (.bl false) H'):V6 C VC (.ref a) (.ref b) H Q:=by
 obtain ⟨dxa,hqa⟩:=id hA;obtain ⟨dxb,hqb⟩:=id hB;refine ⟨a,dxa,_,b,dxb,_,rfl,rfl,hqa,hqb,a,.ref b,k,n,due,r,rfl,hA,KA,asc,.inr ⟨b,k,n,due,r,rfl,hB,KA,asc,fun H1 s1=>⟨_,rfl,_,rfl,?_⟩⟩⟩;rw [decide_eq_true (show (due=due/\r=r)/\n=n from ⟨⟨rfl,rfl⟩,rfl⟩)];exact q H1 s1
theorem SR (ei:σ[i]?=some (some (.ref p))) (ej:σ[j]?=some (some (.ref v))) (ED:EdAt EC H p k o (kvT tab)) (TN:TabN ac H tab) (hV:ValAt VC H v k n) (h40:n < 2 ^ 40) (KA:KindAt C H k due r) (asc:Asc due) (h6:due.length <= 6) (KB:KindAt C H o ac r2) (lt2:∀ q ∈ ac,q.2 < 2 ^ 20) (h0:n - (n &&& AQ (AJ due))=0) (hH:Has tab (AO due n))
  (q:∀ q H',Same H H'->ValAt VC H' q o (Bw tab ac (AO due n))->Q (.ref q) H'):Ef EC "led" (J0 C VC EC cL cR cU) [] E (Ck i) (Aq (Ck j) CO) σ H Q:=by
 obtain ⟨dx,d,ob,hp,hd⟩:=id ED;obtain ⟨eg,es0⟩:=JD (due:=due) TN h0;refine ⟨_,ei,p,dx,_,rfl,hp,DE _ _ _,_,ej,p,v,k,o,k,n,due,due,ac,r,r,r2,tab,rfl,ED,TN,hV,h40,KA,asc,by omega,KA,asc,KB,lt2,.inr ⟨⟨rfl,rfl⟩,.inr ⟨hH,.inr (.inr ⟨fun z=>z.1 es0,fun z=>z.1 es0,fun qq H15 s15 hVq=>?_⟩)⟩⟩⟩
 have en:(if r2 = "keep" then plain ((Cz tab due ac n:Nat):Int) else plain ((Cz tab due ac n:Nat):Int) - Ae ac ((Cz tab due ac n:Nat):Int))=Bw tab ac (AO due n):=by
  rw [es0,Gp,eg];split <;> rfl
 rw [en] at hVq;exact q qq H15 s15 hVq
end
def Oa (K:FG) (P0:Addr):Sp:=fun vs H Q _=>∃ (a:Addr) (ns:List Int),vs=[.ref a]/\SqL K H a (ns.map V.int)/\ns.length <= 63/\TabOk H P0 qL LS/\∀ H',Q (.bl true) H'
noncomputable abbrev Ee:List Str:=["_law_script", "_law_dice", "_law_table", "_law_due", "_law_middle", "_law_last", "_law_more", "_law_names", "_law_name", "_law_bit", "_law_turn", "_law_due_pairs", "_law_both", "_law_number", "_law_first", "_law_edition_here", "_law_second", "_law_value"]
theorem scLaw:AM Ee ["_law_script"] (defScope CY):=fsc
section
variable {cM cL cR cU cN c P0:Addr} {ec:Nat->Addr}
theorem Kw {X:Cx} {Nl:List Str} {ix:List Nat} {scope:Scope} {clos:List (Str × Addr)} (h1:ix.length=Nl.length)
  (h2:(List.range Nl.length).all (fun i=>match Nl[i]?,ix[i]? with | some x,some j=>decide (X.N[j]?=some x) && decide (X.env.scope.names.lookup x=some .cell) && decide (scope.names.lookup x=some .free) | _,_=>false)=true)
  (h3:∀ p ∈ clos,X.env.cells.lookup p.1=some p.2) (h4:scope.names.all (fun p=>!(p.2 == .cell || p.2 == .free) || (clos.lookup p.1).isSome)=true) (h5:∀ x,X.fn x=true):LamN X Nl ix scope clos:=by
 refine ⟨h1,fun i x h=>?_,fun x c h=>h3 _ (Gr h),Tp h4,h5⟩;have hi:i < Nl.length:=(List.getElem?_eq_some_iff.mp h).1;have:=List.all_eq_true.mp h2 i (mem_range.mpr hi);rw [h] at this;cases e:ix[i]? with
 | none=>rw [e] at this; cases this
 | some j =>
  rw [e] at this;simp only [Bool.and_eq_true,decide_eq_true_eq] at this;exact ⟨j,rfl,this.1.1,this.1.2,this.2⟩
theorem VE {f0 fT0:Addr} {dT0:FuncData} {A:Around} {outer:List Env} {s:Shared} {E:XK} (FT:Fun K "_law_told" "_law_told" Am fT0 dT0) (mT0:mg "_law_told" = some (.ref fT0)) (bT0:Binds K dT0 ["_law_deed"] []) (M:MC mg ec) (EX:NW K mg ec cM) (GW:FnS P w K mg base "_law_word" 1 ["_law_e"] (Ci K ec))
  (LC:O6 (BA CX0 P w K mg base Ee "law" (defScope CY) f0 (.ref c) A outer s H E).nox c P0) (hr:Room 10 (BA CX0 P w K mg base Ee "law" (defScope CY) f0 (.ref c) A outer s H E).nox.A) {fX:Addr} {dX:FuncData} (ET:Ir K EC) (mX:HX K EC "behind" fX) (GX:Ac P w K mg base (CXr P w) 7 fX dX ["self", "edition"] (Gy C EC cN cL cU)) (bX:Binds K dX ["self", "edition"] []) :
  PE (BA CX0 P w K mg base Ee "law" (defScope CY) f0 (.ref c) A outer s H E).nox J6 (MD K ec cM P0 qL LS [16,15] (fun E=>Ef EC "behind" (Gy C EC cN cL cU) [] E (Ck 0) (Aq (Ck 1) CO))) :=
   Kq (X:=(BA CX0 P w K mg base Ee "law" (defScope CY) f0 (.ref c) A outer s H E).nox) (params:=Nm (Cj 0 J6)) (body:=Kv (Cj 0 J6)) (scope:=JE (Cj 0 J6)) (Nl:=["_law_second", "_law_edition_here"]) (k:=8) (lpos:=Gq (Cj 0 J6)) FT M EX GW hr rfl mT0 FT.kp bT0 LC (mem_of_getElem? (i:=0) rfl) (SN 0 _ rfl) rfl rfl (Kw rfl (by kernel_rfl) (by intro p hp; simp only [mem_cons,not_mem_nil,or_false] at hp; rcases hp with rfl | rfl <;> kernel_rfl) (by kernel_rfl) (fun _=>rfl)) (fun _ _ _=>rfl) rfl rfl rfl (by decide +kernel)
    (fun lf c' A' outer' s' H' E hr=>CV (pv 0) ET.cl mX GX (hr.mono (by decide)) bX .nil Qp (AA (pv 1) AC))
theorem VF {f0 fT0:Addr} {dT0:FuncData} {A:Around} {outer:List Env} {s:Shared} {E:XK} (FT:Fun K "_law_told" "_law_told" Am fT0 dT0) (mT0:mg "_law_told" = some (.ref fT0)) (bT0:Binds K dT0 ["_law_deed"] []) (M:MC mg ec) (EX:NW K mg ec cM) (GW:FnS P w K mg base "_law_word" 1 ["_law_e"] (Ci K ec))
  (LC:O6 (BA CX0 P w K mg base Ee "law" (defScope CY) f0 (.ref c) A outer s H E).nox c P0) (hr:Room 10 (BA CX0 P w K mg base Ee "law" (defScope CY) f0 (.ref c) A outer s H E).nox.A) {fX:Addr} {dX:FuncData} (ET:Ir K EC) (mX:HX K EC "led" fX) (GX:Ac P w K mg base (CXr P w) 7 fX dX ["self", "value"] (J0 C VC EC cL cR cU)) (bX:Binds K dX ["self", "value"] []) :
  PE (BA CX0 P w K mg base Ee "law" (defScope CY) f0 (.ref c) A outer s H E).nox J7 (MD K ec cM P0 qL LS [15,17] (fun E=>Ef EC "led" (J0 C VC EC cL cR cU) [] E (Ck 0) (Aq (Ck 1) CO))) :=
   Kq (X:=(BA CX0 P w K mg base Ee "law" (defScope CY) f0 (.ref c) A outer s H E).nox) (params:=Nm (Cj 0 J7)) (body:=Kv (Cj 0 J7)) (scope:=JE (Cj 0 J7)) (Nl:=["_law_edition_here", "_law_value"]) (k:=8) (lpos:=Gq (Cj 0 J7)) FT M EX GW hr rfl mT0 FT.kp bT0 LC (mem_of_getElem? (i:=1) rfl) (SN 1 _ rfl) rfl rfl (Kw rfl (by kernel_rfl) (by intro p hp; simp only [mem_cons,not_mem_nil,or_false] at hp; rcases hp with rfl | rfl <;> kernel_rfl) (by kernel_rfl) (fun _=>rfl)) (fun _ _ _=>rfl) rfl rfl rfl (by decide +kernel)
    (fun lf c' A' outer' s' H' E hr=>CV (pv 0) ET.cl mX GX (hr.mono (by decide)) bX .nil Qp (AA (pv 1) AC))
theorem VG {f0 fT0:Addr} {dT0:FuncData} {A:Around} {outer:List Env} {s:Shared} {E:XK} (FT:Fun K "_law_told" "_law_told" Am fT0 dT0) (mT0:mg "_law_told" = some (.ref fT0)) (bT0:Binds K dT0 ["_law_deed"] []) (M:MC mg ec) (EX:NW K mg ec cM) (GW:FnS P w K mg base "_law_word" 1 ["_law_e"] (Ci K ec))
  (LC:O6 (BA CX0 P w K mg base Ee "law" (defScope CY) f0 (.ref c) A outer s H E).nox c P0) (hr:Room 10 (BA CX0 P w K mg base Ee "law" (defScope CY) f0 (.ref c) A outer s H E).nox.A) {fX:Addr} {dX:FuncData} (ET:Ir K EC) (mX:HX K EC "behind" fX) (GX:Ac P w K mg base (CXr P w) 7 fX dX ["self", "edition"] (Gy C EC cN cL cU)) (bX:Binds K dX ["self", "edition"] []) :
  PE (BA CX0 P w K mg base Ee "law" (defScope CY) f0 (.ref c) A outer s H E).nox J8 (MD K ec cM P0 qL LS [15] (fun E=>Ef EC "behind" (Gy C EC cN cL cU) [] E (Ck 0) (Aq (Ck 0) CO))) :=
   Kq (X:=(BA CX0 P w K mg base Ee "law" (defScope CY) f0 (.ref c) A outer s H E).nox) (params:=Nm (Cj 0 J8)) (body:=Kv (Cj 0 J8)) (scope:=JE (Cj 0 J8)) (Nl:=["_law_edition_here"]) (k:=8) (lpos:=Gq (Cj 0 J8)) FT M EX GW hr rfl mT0 FT.kp bT0 LC (mem_of_getElem? (i:=2) rfl) (SN 2 _ rfl) rfl rfl (Kw rfl (by kernel_rfl) (by intro p hp; simp only [mem_cons,not_mem_nil,or_false] at hp; rcases hp with rfl <;> kernel_rfl) (by kernel_rfl) (fun _=>rfl)) (fun _ _ _=>rfl) rfl rfl rfl (by decide +kernel)
    (fun lf c' A' outer' s' H' E hr=>CV (pv 0) ET.cl mX GX (hr.mono (by decide)) bX .nil Qp (AA (pv 0) AC))
end
section
variable {cM cL cR cU cN c P0:Addr} {ec:Nat->Addr}
theorem VH {f0 fT0:Addr} {dT0:FuncData} (F:FunC K "law" "law" CY f0 fd c) (FT:Fun K "_law_told" "_law_told" Am fT0 dT0) (mT0:mg "_law_told" = some (.ref fT0)) (bT0:Binds K dT0 ["_law_deed"] [])
  (hC:W.CodeHd base c P0) (hBu:base.BuiltinsAt mg P0) (B:Bl mg) (KO:Nh P w K mg base C) (VO:Lz P w K mg base C VC) (EO:Tg P w K mg base C EC) (M:MC mg ec) (EX:NW K mg ec cM) (GW:FnS P w K mg base "_law_word" 1 ["_law_e"] (Ci K ec))
  (EPU:Jw K ec cM cU 7) (EPN:Jw K ec cM cN 9) (EFL:Jx K ec cL 3) (EFR:Jx K ec cR 1) (hT:W.kitOne K (.type "tuple") (.ref VC)=some false) (hEt:W.kitOne K (.ref EC) (.type "tuple")=some false) (EI0:KIsi K EC) (hlt:W.kitOne K (.type "list") (.type "tuple")=some false) (neK:W.findIn K (.ref C) "__ne__" = some (some (.builtin "object.__ne__"))) (hmo:W.mroIn K C (.type "object")=some true)
  (GEK:Mt P w K mg base EC "kind" 1 ["self"] (F5 EC)) (GEO:Mt P w K mg base EC "other" 1 ["self"] (EH EC)) (GEP:Mt P w K mg base EC "pairs" 1 ["self"] (EJ EC)) (GLd:MtR P w K mg base EC "led" 7 ["self", "value"] (J0 C VC EC cL cR cU)) (GBh:MtR P w K mg base EC "behind" 7 ["self", "edition"] (Gy C EC cN cL cU))
  (GRw:Mt P w K mg base C "rows" 1 ["self"] (IY C)) (GEk:Mt P w K mg base C "__eq__" 2 ["self", "other"] (Ii C))
  (GRd:Fn P w K mg base "_law_rounds" 2 ["_law_script", "_law_most"] (IZ K)) (GEd:Fn P w K mg base "_law_edition" 8 ["_law_dice", "_law_high"] (SE C EC)) (GLn:Fn P w K mg base "_law_lines" 3 ["_law_dice", "_law_most"] HI) (GRu:Fn P w K mg base "_law_rule_of" 3 ["_law_dice"] F7) (GT:Fn P w K mg base "_law_table_of" 2 ["_law_due"] Fw) (GRl:Fn P w K mg base "_law_roll" 2 ["_law_dice", "_law_many"] FA) (GNi:Fn P w K mg base "_law_number_in" 3 ["_law_dice", "_law_known", "_law_way"] FI)
  (GLB:Fn P w K mg base "_law_behind" 3 ["_law_table", "_law_due", "_law_middle", "_law_more"] Nk) :
  Ac P w K mg base CX0 11 f0 fd ["_law_script"] (Oa K P0):=by
 obtain ⟨fRd,dRd,GRd,mRd,kRd,bRd⟩:=GRd.ex;obtain ⟨fL,dL,GL,mL,kL,bL⟩:=GEd.ex;obtain ⟨fLn,dLn,GLn,mLn,kLn,bLn⟩:=GLn.ex;obtain ⟨fRu,dRu,GRu,mRu,kRu,bRu⟩:=GRu.ex;obtain ⟨fT,dT,GT,mT,kT,bT⟩:=GT.ex;obtain ⟨fRl,dRl,GRl,mRl,kRl,bRl⟩:=GRl.ex;obtain ⟨fNi,dNi,GNi,mNi,kNi,bNi⟩:=GNi.ex;obtain ⟨fLB,dLB,GLB,mLB,kLB,bLB⟩:=GLB.ex;obtain ⟨fI,dI,MI,GI,⟨gI,kbI⟩,ds,bI,vI⟩:=KO.make;obtain ⟨fV,dV,MV,GV,bV⟩:=VO.make;obtain ⟨fE,dE,ME,GE,bE⟩:=EO.make;obtain ⟨fVE,dVE,GVE,mVE,bVE⟩:=VO.eq;obtain ⟨fEK,dEK,GEK,mEK,bEK⟩:=GEK.ex;obtain ⟨fEO,dEO,GEO,mEO,bEO⟩:=GEO.ex;obtain ⟨fEP,dEP,GEP,mEP,bEP⟩:=GEP.ex;obtain ⟨fLd,dLd,GLd,mLd,bLd⟩:=GLd.ex;obtain ⟨fBh,dBh,GBh,mBh,bBh⟩:=GBh.ex;obtain ⟨fRw,dRw,GRw,mRw,bRw⟩:=GRw.ex;obtain ⟨fEk,dEk,GEk,mEk,bEk⟩:=GEk.ex;have mC:=KO.cls;have mV:=VO.cls;have mE:=EO.cls;have T:=KO.T;have VT:=VO.VT;have ET:=EO.T;refine F.ok scLaw (fun vs H Q E h=>?_) (fun A outer s H vs Q E hr h=>?_)
 ·obtain ⟨a,ns,rfl,_⟩:=h;rfl
 ·obtain ⟨a,ns,rfl,hS,h63,hTab,k⟩:=h;have hu:=Cr hr;have hu64:=hr.units;have hr1:Room 1 _:=hr.mono (by decide);have hr2:Room 2 _:=hr.mono (by decide);have hr3:Room 3 _:=hr.mono (by decide);have hr4:Room 4 _:=hr.mono (by decide);have hr5:Room 5 _:=hr.mono (by decide);have hr7:Room 7 _:=hr.mono (by decide);have hr8:Room 8 _:=hr.mono (by decide);have LC:O6 (BA CX0 P w K mg base Ee "law" (defScope CY) f0 (.ref c) A outer s H E).nox c P0:=⟨rfl,hC,hBu⟩;have t1:=VE (H:=H) (E:=E) FT mT0 bT0 M EX GW LC hr ET mBh GBh bBh;have t2:=VF (H:=H) (E:=E) FT mT0 bT0 M EX GW LC hr ET mLd GLd bLd;have t3:=VG (H:=H) (E:=E) FT mT0 bT0 M EX GW LC hr ET mBh GBh bBh;have neK0:OpR (BA CX0 P w K mg base Ee "law" (defScope CY) f0 (.ref c) A outer s H E).nox (compareOp .NotEq) (V5 C):=Fc GEk hr3 bEk mEk neK hmo;have neV0:OpR (BA CX0 P w K mg base Ee "law" (defScope CY) f0 (.ref c) A outer s H E).nox (compareOp .NotEq) (V6 C VC):=Fc GVE hr4 bVE mVE VO.ne VO.isi.hm
  refine ⟨_,PSsw.h (Qu (Tz PassesOwn.never rfl (.mk (A2 (AL GRd hr2 rfl mRd kRd bRd .nil AN (AA (pv 0) (AA AK AC))))) (AR (i:=1) scLaw.nd rfl (Or.inr rfl))
    (Qu (.mk (CT (AL GL hr8 rfl mL kL bL .nil AN (AA (pv 1) (AA AK AC))) (BK rfl (AS (AR (i:=15) scLaw.nd rfl (Or.inr rfl)) (AS (AR (i:=2) scLaw.nd rfl (Or.inl rfl)) (AS (AR (i:=3) scLaw.nd rfl (Or.inl rfl)) (AS (AR (i:=4) scLaw.nd rfl (Or.inl rfl)) A1)))))))
    (MY (.mk (CT (hs:=by kernel_rfl) (hw:=by kernel_rfl) (A6 (AA (Hu MI GI hr7 rfl mC kbI (AA (Bm (Db K rfl) (AL GLn hr3 rfl mLn kLn bLn .nil AN (AA (pv 1) (AA AK AC))) AK (fun _ _=>rfl)) AC) (HD (AL GRu hr3 rfl mRu kRu bRu .nil AN (AA (pv 1) AC)) KG)) (AA C8 (AA (BO AC) AC)))) (BK rfl (AS (AR (i:=5) scLaw.nd rfl (Or.inl rfl)) (AS (AR (i:=6) scLaw.nd rfl (Or.inr rfl)) (AS (AR (i:=7) scLaw.nd rfl (Or.inr rfl)) A1))))))
    (MY (Tz PassesOwn.never rfl (.mk (A2 (BJ hu (AL GT hr2 rfl mT kT bT .nil AN (AA (pv 4) AC)) Ag (fun _ _=>rfl)))) (BK rfl (AS (AR (i:=8) scLaw.nd rfl (Or.inl rfl)) (AS (AR (i:=9) scLaw.nd rfl (Or.inl rfl)) A1)))
     (Qw (.mk (An (AY K6 (AL GRl hr2 rfl mRl kRl bRl .nil AN (AA (pv 1) (AA AK AC))) AK (Ad _))
      (AG (Ai (i:=7) scLaw.nd rfl (Or.inr rfl) (BB [] [] (by kernel_rfl) (by decide +kernel) (by kernel_rfl) rfl (A2 (Ah (pv 5) T.cl mRw GRw hr1 bRw .nil AN)) (fun _ _ _ _ _ _=>BF) (fun _ _ _ _ _ _=>Bm (Db K rfl) (pv 0) AK (fun _ _=>rfl))))
      (AE (FU hu (pv 6) (pv 8) (BH CI rfl B.tuple BY (AA (BB ["_law_names", "_law_dice"] [some 7,some 1] (by kernel_rfl) (by decide +kernel) (by kernel_rfl) rfl (B6 rfl B.range (AA (AL GRl hr2 rfl mRl kRl bRl .nil AN (AA (pv 1) (AA AK AC))) AC)) (fun _ _ _ _ _ _=>BF)
       (fun _ _ _ _ _ _=>Bm (BD K rfl) (pv 1) (AL GRl hr2 rfl mRl kRl bRl .nil AN (AA (pv 2) (AA (AZ (BI K rfl) rfl B.len PySem.boot_len (AA (pv 1) AC)) AC))) (fun _ _=>rfl))) AC)) rfl)))
      AW))))
    (SK (MY (.mk (Ai (i:=16) scLaw.nd rfl (Or.inr rfl) (Cq ME GE hr5 rfl mE bE .nil AN (AA (Ah (pv 15) ET.cl mEO GEO hr1 bEO .nil AN) (AA (pv 5) (AA (BB ["_law_more"] [some 6] (by kernel_rfl) (by decide +kernel) (by kernel_rfl) rfl (OE (pv 6)) (fun _ _ _ _ _ _=>BF) (fun _ _ _ _ _ _=>A6 (AA (pv 0) (AA (BJ hu (pv 1) (pv 0) (fun _ _=>rfl)) AC)))) AC))))))
    (MY (.mk (P9 (i:=11) (j:=12) rfl scLaw.nd rfl rfl (by decide) rfl rfl (AA (AL GLB hr3 rfl mLB kLB bLB .nil AN (AA (pv 2) (AA (pv 3) (AA (pv 4) (AA (pv 6) AC))))) (AA t1 AC)) (by kernel_rfl)))
    (MY (.mk (An (PW.pt (Cm (BG (Bi K rfl rfl B.isi rfl B.tuple BY (pv 12))) (CS (BG (Bi K rfl rfl B.isi rfl B.tuple BY (pv 11)))))) (AE (An (AY (KN K rfl hu64) (pv 12) (pv 11) (Ad _)) (AE Ao) AW))
     (BV (An (PW.pt (Cm (AY (KN K rfl hu64) (Ah (pv 12) ET.cl mEP GEP hr1 bEP .nil AN) (pv 11) (Ad _)) (Cm (AY neK0 (Ah (pv 12) ET.cl mEK GEK hr1 bEK .nil AN) (Ah (pv 15) ET.cl mEK GEK hr1 bEK .nil AN) (Ad _)) (CS (AY neK0 (Ah (pv 12) ET.cl mEO GEO hr1 bEO .nil AN) (pv 5) (Ad _)))))) (AE Ao) AW)
     (AE (Bs PassesOwn.never rfl (B6 rfl B.range (AA AK AC)) (AR (i:=10) scLaw.nd rfl (Or.inl rfl))
      (BV (Ai (i:=13) scLaw.nd rfl (Or.inl rfl) (AL GNi hr3 rfl mNi kNi bNi .nil AN (AA (pv 1) (AA (BJ hu (AL GT hr2 rfl mT kT bT .nil AN (AA (pv 3) AC)) Ag (fun _ _=>rfl)) (AA Ag AC)))))
      (BV (Ai (i:=17) scLaw.nd rfl (Or.inr rfl) (Cq MV GV hr5 rfl mV bV .nil AN (AA (Ah (pv 15) ET.cl mEK GEK hr1 bEK .nil AN) (AA (pv 13) AC))))
      (BV (Ai (i:=14) scLaw.nd rfl (Or.inl rfl) t2)
      (AE (An (PW.pt (Di (BG (AZ (Gh K rfl) rfl B.isi D5 (AA (pv 14) (AA (Bz (v:=.ref VC) rfl mV rfl) AC)))) (Cl (AY neV0 (CV (pv 12) ET.cl mLd GLd hr7 bLd .nil T4 (AA (pv 17) AC)) (CV (pv 16) ET.cl mLd GLd hr7 bLd .nil T4 (AA (pv 14) AC)) (Ad _))))) (AE Ao) AW))))))))))
    (Qw (.mk (An (PW.pt (Di (AY neK0 (Ah (pv 15) ET.cl mEK GEK hr1 bEK .nil AN) (Ah (pv 15) ET.cl mEO GEO hr1 bEO .nil AN) (Ad _)) (Cl (AY (KN K rfl hu64) t3 (A6 (AA Ag (AA Ag AC))) (Ad _))))) (AE Ao) AW)))))))))))
   (Qw (.mk (AU P6)))),?_⟩
  refine ⟨_,rfl,a,ns,rfl,hS,h63,fun l as H1 s1 hl nd hla h5 cj=>?_⟩
  let LI:Nat->St->Hp->Prop:=fun i σ H2=>(∃ v1 v2 v3 v4 v5 v6 v7 v8 v9 v10 v11 v12 v13 v14 v15 v16 v17:Option V,σ=[some (.ref a),v1,v2,v3,v4,v5,v6,v7,v8,v9,v10,v11,v12,v13,v14,v15,v16,v17])/\H2 l=some (.lst (as.map V.ref))/\TabOk H2 P0 qL LS/\∀ (j:Nat) b,i <= j->as[j]?=some b->∃ x y:Int,H2 b=some (.lst [.int x,.int y])
  refine ⟨l,rfl,⟨_,SqL.of hl⟩,Ba (K:=K) (a:=l) (xs:=as.map V.ref) LI
   ⟨⟨none,none,none,none,none,none,none,none,none,none,none,none,none,none,none,none,none,rfl⟩,hl,TabOk.same s1 hTab,fun j b _ e=>(cj b (mem_of_getElem? e)).2⟩ (fun i σ H2 _ ⟨_,e,_⟩=>SqL.of e) ?_ (fun σ H2 ⟨⟨v1,v2,v3,v4,v5,v6,v7,v8,v9,v10,v11,v12,v13,v14,v15,v16,v17,e⟩,_⟩=>by subst e; exact k _)⟩
  intro i v σ H2 hi h;have hl2:=h.2.1;have hT2:=h.2.2.1;have hds:=h.2.2.2;refine e17 h.1 fun v1 v2 v3 v4 v5 v6 v7 v8 v9 v10 v11 v12 v13 v14 v15 v16 v17 e=>?_;subst e;clear h;rw [getElem?_map] at hi;obtain ⟨d,hdi,rfl⟩:=Option.map_eq_some_iff.mp hi;obtain ⟨x,y,hd⟩:=hds i d (Nat.le_refl _) hdi;have hld:l ≠ d:=fun z=>hla (z ▸ mem_of_getElem? hdi);have hlP:l ≠ P0:=TabOk.ne hl2 hT2;refine ⟨_,rfl,d,x,y,rfl,hd,fun q p kk o t u um rows ag r r2 tab Ha sX hq ED htab al TN KA KB bc hrr2 D1 D2 ud u2d r0 r6 RO bd r0' r6' RO2 fb=>?_⟩;refine ⟨q,_,rfl,SqT.of hq,rfl,_,_,rfl,_,_,rfl,_,_,rfl,_,_,rfl,rfl,?_⟩;have DO:=EB RO (show rows.length <= 10 by omega);have DO2:=EB RO2 (show ag.length <= 10 by omega);have asc:Asc (AX rows):=fun p hp=>(DO.nm p hp).2.1;have ap:Asc (AX ag):=fun p hp=>(DO2.nm p hp).2.1;have hd6:(AX rows).length <= 6:=by rw [Ar]; omega
  have hd6':(AX ag).length <= 6:=by rw [Ar]; omega
  have T2:=TabOk.sameX hd sX hT2;obtain ⟨xa,ya,hda⟩:=sX.dice
  have hta:∀ z ∈ tab,z.1 ∈ (AX rows).map (·.1):=fun z hz=>by
   rw [al] at hz;exact Pt (F6 hz)
  clear bd fb RO RO2 r0 r6 r0' r6';generalize AX rows=due at *;generalize AX ag=ac at *
  let G2:St->Hp->Prop:=fun σ H'=>∃ (la t2:Addr) (ad:Aa) (r3:Str) (Hd:Hp),(∃ y7 y8 y9 y10 y11 y12 y13 y14 y16 y17:Option V,σ=[some (.ref a),some (.ref d),some (.ref t),some (.ref u),some (.ref um),some (.ref la),some (.ref t2),y7,y8,y9,y10,y11,y12,y13,y14,some (.ref p),y16,y17])/\Wa C EC d P0 p kk o t u um la due ac ad r r2 r3 tab Hd/\Rl d P0 H2 Hd/\Hd t2=none/\Same Hd H'/\H' t2=some (.dK [])/\IS ad/\ad.length <= 6/\0 < ad.length
  refine ⟨G2,fun R hR=>?_,?_⟩
  ·refine ⟨_,rfl,d,xa,ya,6,rfl,by decide,by decide,hda,fun q3 f3 u3 fs3 bs3 ah Hb sXb hq3 hf3n hu3n hf3 hP3 hu3 hbs3 r03 r63 RO3 hwd3=>?_⟩;refine ⟨q3,_,1,_,rfl,rfl,SqT.of hq3,rfl,?_⟩;obtain ⟨xb,yb,hdb⟩:=sXb.dice;have u3d:u3 ≠ d:=fun z=>by rw [z,hda] at hu3n; cases hu3n
   refine ⟨_,rfl,d,xb,yb,rfl,hdb,fun r3 Hc hr3' sXc=>?_⟩;intro la dla hla' hdla hnela;have sN:=Bf (D:=C) hla' hdla hnela;have DO3:=EB RO3 (show ah.length <= 10 by omega);have aq:Asc (AX ah):=fun p hp=>(DO3.nm p hp).2.1;have hd63:(AX ah).length <= 6:=by rw [Ar]; omega
   have hd03:0 < (AX ah).length:=by rw [Ar]; exact r03
   have hbs3c:TupsAt Hc bs3 (C4 (AX ah)):=TupsAt.sameT (fun b xs e=>sXc.old b _ e (fun z=>by rw [z,hdb] at e; cases e)) hbs3;have hu3c:=sXc.old _ _ hu3 u3d;generalize AX ah=ad at *;have hnl:(C0 ad).length=ad.length:=by unfold C0; exact AF _
   refine ⟨la,dla,u3,C0 ad,r3,rfl,AB,⟨bs3,sN _ _ hu3c,Mb (TupsAt.same sN hbs3c)⟩,by omega,by omega,SQ DO3 (by omega),hr3',fun Hd sd KC=>⟨rfl,?_⟩⟩;rw [JH] at KC;have SXd:SameX d Ha Hd:=(sXb.trans sXc).step (BS sN hla' sd);have kd:Keeps Ha Hd:=fun b ob e h1 h2 h3=>SXd.old b ob e (fun z=>by subst z; rw [hda] at e; cases e; exact h1 _ _ rfl);have W0:Wa C EC d P0 p kk o t u um la due ac ad r r2 r3 tab Hd:=⟨TabOk.sameX hda SXd T2,SXd.dice,kd.ed ED,kd.kind KA,kd.kind KB,KC,kd.dK htab,TN.same kd.t,kd.dul D1,kd.dul D2⟩;have R0:Rl d P0 H2 Hd:=(Rl.sameX sX).trans (Rl.sameX SXd);clear kd SXd sd sN hla' hdla hnela hu3c hbs3c hnl RO3 hbs3 hu3 hP3 hf3 hq3 sXc sXb ED htab TN KA KB D1 D2 T2 sX KC hf3n hu3n hdb hda hq hwd3 r03 r63;refine fun t2 ht2n=>⟨Nat.zero_le _,fun ln hln=>⟨sl3,fun tq htq=>⟨tq,_,rfl,SqT.of AB,rfl,_,_,rfl,_,_,rfl,_,_,rfl,rfl,?_⟩⟩⟩;have z1:=AD (Same.refl _) ht2n (o:=HO.dK []);have z2:=AD (Same.refl _) hln (o:=HO.lst []);have z3:=AD (Same.refl _) htq (o:=HO.tup [.ref la,.ref t2,.ref ln]);have sde:=z1.trans (z2.trans z3);have ht2e:=z3 _ _ (z2 _ _ (AB (H:=Hd) (a:=t2) (o:=HO.dK [])));generalize upd (upd (upd Hd t2 (HO.dK [])) ln (HO.lst [])) tq (HO.tup [.ref la,.ref t2,.ref ln])=He at sde ht2e ⊢;exact hR _ _ ⟨la,t2,ad,r3,Hd,⟨_,_,_,_,_,_,_,_,_,_,rfl⟩,W0,R0,ht2n,sde,ht2e,DO3,hd63,hd03⟩
  intro σ He h;refine e5 h fun la t2 ad r3 Hd h=>?_;have W0:=h.2.1;have R0:=h.2.2.1;have ht2n:=h.2.2.2.1;have sde:=h.2.2.2.2.1;have ht2e:=h.2.2.2.2.2.1;have DO3:=h.2.2.2.2.2.2.1;have hd63:=h.2.2.2.2.2.2.2.1;have hd03:=h.2.2.2.2.2.2.2.2;refine e10 h.1 fun u7 u8 u9 u10 u11 u12 u13 u14 u16 u17 e=>?_;subst e;clear h;have aq:Asc ad:=fun p hp=>(DO3.nm p hp).2.1;have We:=W0.same sde
  have hmn6:(Aj ac).length <= 6:=by
   have h4:=BE ac;unfold Aj;rw [AF];omega
  have dr:=Eb DO2.nd
  let G1:St->Hp->Prop:=fun σ H'=>(∃ y7 y8 y9 y10 y11 y12 y13 y14 y16 y17:Option V,σ=[some (.ref a),some (.ref d),some (.ref t),some (.ref u),some (.ref um),some (.ref la),some (.ref t2),y7,y8,y9,y10,y11,y12,y13,y14,some (.ref p),y16,y17])/\SameX d Hd H'/\∃ ae:List Ent,H' t2=some (.dK (kvT ae))/\ae=A3 (fun x=>ae.lookup x) (Aj ac)/\TabN ad H' ae/\∀ q ∈ ae,q.2.2.length <= 3
  refine ⟨G1,fun R hR=>?_,?_⟩
  ·obtain ⟨cs,bv,bt⟩:=We.d2;refine ⟨_,rfl,um,cs,ac,rfl,bv,bt,by omega,DO2.lt,fun tb e m ms H5 s5 hmn bi he hm bj=>?_⟩;have sd5:=sde.trans s5;have hm0:Hd m=none:=none_of sde hmn;have mt2:m ≠ t2:=fun z=>by rw [z,ht2e] at hmn; cases hmn
   have md:m ≠ d:=fun z=>by obtain ⟨x1,y1,h1⟩:=W0.dice; rw [z,h1] at hm0; cases hm0
   obtain ⟨xd,yd,hdd⟩:=W0.dice;have dt2:d ≠ t2:=AI hdd ht2n;have t2m:∀ b ob,Hd b=some ob->b ≠ t2:=fun b ob e=>AI e ht2n
   let I3:Nat->St->Hp->Prop:=fun i σ H6=>(∃ y7 y8 y9 y10 y11 y12 y13 y14 y16 y17:Option V,σ=[some (.ref a),some (.ref d),some (.ref t),some (.ref u),some (.ref um),some (.ref la),some (.ref t2),y7,y8,y9,y10,y11,y12,y13,y14,some (.ref p),y16,y17])/\(∀ b ob,H5 b=some ob->b ≠ d->b ≠ t2->H6 b=some ob)/\(∃ x y:Int,H6 d=some (.lst [.int x,.int y]))/\∃ ae:List Ent,H6 t2=some (.dK (kvT ae))/\EI (Aj ac) i ae ae/\TabN ad H6 ae/\∀ q ∈ ae,q.2.2.length <= 3
   refine ⟨tb,_,rfl,.inl ⟨_,Sum.inr "marks", .inl bi,rfl,(EZ _ _ _).symm⟩,m,rfl,⟨_,SqL.of hm⟩,Ba (K:=K) (a:=m) (xs:=ms.map V.ref) I3
    ⟨⟨_,_,_,_,_,_,_,_,_,_,rfl⟩,fun _ _ e _ _=>e,⟨xd,yd,sd5 _ _ hdd⟩,[],s5 _ _ ht2e,⟨nodup_nil,Nat.le_refl _,Nat.le_refl _,fun _=>rfl,rfl,fun q hq=>by cases hq⟩,(fun q hq=>by cases hq),fun q hq=>by cases hq⟩ (fun i σ H6 _ ⟨_,e6,_⟩=>SqL.of (e6 _ _ hm md mt2)) ?_ ?_⟩
   ·intro i v σ H6 hi h;have e6:=h.2.1;refine e10 h.1 fun y7 y8 y9 y10 y11 y12 y13 y14 y16 y17 e=>?_;subst e;obtain ⟨x6,y6,hd6⟩:=h.2.2.1;obtain ⟨ae,ht6,EI6,TN6,hl6⟩:=h.2.2.2;clear h;have k6:∀ b xs,H5 b=some (.tup xs)->H6 b=some (.tup xs):=fun b xs e=>e6 b _ e (fun z=>by rw [z,sd5 _ _ hdd] at e; cases e) (fun z=>by rw [z,s5 _ _ ht2e] at e; cases e);obtain ⟨bb,nn,rfl,hn,av⟩:=Dd (TupsAt.sameT k6 bj) hi;have hx:(Aj ac)[i]?=some (BL (AT ac) nn):=by unfold Aj; rw [getElem?_map,hn]; rfl
    have hi6:i < 6:=by have:=(List.getElem?_eq_some_iff.mp hx).1; omega
    generalize BL (AT ac) nn=x at av hx;refine ⟨bb,_,rfl,SqT.of av,rfl,_,_,rfl,_,_,rfl,rfl,?_⟩;refine ⟨_,rfl,d,x6,y6,8,rfl,hd6,by decide,by decide,fun rr a1 b1 rr0 rr8=>?_⟩;have e7:∀ b ob,H5 b=some ob->b ≠ d->b ≠ t2->(upd H6 d (.lst [.int a1,.int b1])) b=some ob:=fun b ob e h1 h2=>by rw [AH h1]; exact e6 b ob e h1 h2
    have hd7:=AB (H:=H6) (a:=d) (o:=HO.lst [.int a1,.int b1]);have ht7:(upd H6 d (.lst [.int a1,.int b1])) t2=some (.dK (kvT ae)):=by rw [AH (Ne.symm dt2)]; exact ht6
    have TN7:TabN ad (upd H6 d (.lst [.int a1,.int b1])) ae:=TN6.same (fun b xs e=>by rw [AH (fun z=>by rw [z,hd6] at e; cases e)]; exact e);generalize upd H6 d (.lst [.int a1,.int b1])=H7 at e7 hd7 ht7 TN7 ⊢;refine ⟨_,_,rfl,rfl,_,rfl,?_⟩;refine Bp (fun _=>?_) (fun _=>⟨⟨_,_,_,_,_,_,_,_,_,_,rfl⟩,e7,⟨_,_,hd7⟩,ae,ht7,EI6.skip dr hx,TN7,hl6⟩);have k57:∀ b ob,Hd b=some ob->b ≠ d->H7 b=some ob:=fun b ob e h1=>e7 b ob (sd5 _ _ e) h1 (t2m b ob e);have W7:Wa C EC d P0 p kk o t u um la due ac ad r r2 r3 tab H7:=W0.sameX ⟨k57,⟨_,_,hd7⟩⟩;obtain ⟨dk,g1,g2,hk⟩:=W7.kc.ins;refine ⟨_,rfl,la,dk,_,rfl,hk,(Bj _ _ _),la,ad,r3,rfl,W7.kc,fun l2 as2 H8 s8 hl8 ht8=>?_⟩;have bh:as2.length=ad.length:=by rw [ht8.length]; unfold C4; rw [AF]
    refine ⟨l2,rfl,⟨_,SqL.of hl8⟩,BR (K:=K) (a:=l2) (xs:=as2.map V.ref) (fun j ys H9=>ys=((ad.take j).map (·.1)).map V.str/\H9=H8) ⟨rfl,rfl⟩ (fun j ys H9 _ ⟨_,e⟩=>e ▸ SqL.of hl8) (fun j ys H9 ⟨e,_⟩=>by rw [e,AF,AF,length_take]; omega) ?_ ?_⟩
    ·rintro j v ys H9 hj ⟨rfl,rfl⟩;obtain ⟨b2,p2',rfl,_,hp2',dl⟩:=CD ht8 hj;refine ⟨_,rfl,b2,_,0,_,rfl,rfl,SqT.of dl,rfl,?_,rfl⟩;rw [take_add_one,hp2',Option.toList_some,map_append,map_append];rfl
    rintro ys H9 ⟨rfl,rfl⟩ nl hnl;rw [show ad.take (as2.map V.ref).length=ad by rw [AF,bh,take_length]];have hnm0:0 < (ad.map (·.1)).length:=by rw [AF]; exact hd03
    have hnm6:(ad.map (·.1)).length <= 6:=by rw [AF]; exact hd63
    have hnmem:∀ z ∈ ad.map (·.1),z ∈ ad.map (·.1):=fun z hz=>hz;generalize hnms:ad.map (·.1)=nms at hnm0 hnm6 hnmem ⊢;have s9:=s8.trans (AD (Same.refl _) hnl (o:=HO.lst (nms.map V.str)));have hn9:=AB (H:=H9) (a:=nl) (o:=HO.lst (nms.map V.str));generalize upd H9 nl (HO.lst (nms.map V.str))=Hn at s9 hn9 ⊢;have hdn:=s9 _ _ hd7
    have nld:nl ≠ d:=fun z=>by
     rw [z,s8 _ _ hd7] at hnl;cases hnl
    refine ⟨_,rfl,d,a1,b1,3,rfl,hdn,by decide,by decide,fun r1 a2 b2 r10 r13=>?_⟩;have sX0:SameX d Hn (upd Hn d (.lst [.int a2,.int b2])):=DD hdn;refine ⟨_,rfl,by omega,by omega,?_⟩;refine Ce (lo:=0) (n:=r1.toNat) (fun j ys H9=>∃ zs:List Str,ys=zs.map V.str/\zs.length=j/\j <= 3/\(∀ x ∈ zs,x ∈ nms)/\SameX d Hn H9) ⟨[],rfl,rfl,by decide,(fun x hx=>nomatch hx),sX0⟩ ?_ ?_ ?_
    ·rintro j ys H9 ⟨zs,rfl,e,h3,_⟩;rw [AF]; omega
    ·rintro j ys H9 hj ⟨zs,rfl,e,h3,hin,sX9⟩;obtain ⟨x9,y9',hd9⟩:=sX9.dice;have hn9':=sX9.old _ _ hn9 nld;refine ⟨_,rfl,_,rfl,_,rfl,nl,_,rfl,.inl (SqL.of hn9'),d,x9,y9',_,rfl,hd9,by rw [AF]; omega,by rw [AF]; omega,fun r2' a3 b3 r20 r21=>?_⟩;have sXa:=sX9.trans (DD (x':=a3) (y':=b3) hd9);obtain ⟨v,hv,hv2⟩:=Gg (xs:=nms.map V.str) r20 (by exact r21);rw [getElem?_map] at hv2;obtain ⟨yy,hy,rfl⟩:=Option.map_eq_some_iff.mp hv2;refine ⟨nl,_,r2',_,rfl,rfl,SqL.of (sXa.old _ _ hn9 nld),hv,?_⟩;refine ⟨zs++[yy],by rw [map_append]; rfl,by rw [length_append,e]; rfl,by omega,fun x hx=>?_,sXa⟩;rcases mem_append.mp hx with z | z
     ·exact hin x z
     ·rw [mem_singleton] at z;subst z;exact mem_of_getElem? hy
    ·rintro ys H9 ⟨zs,rfl,e,h3,hin,sX9⟩ l9 hl9;have sl:=AD (Same.refl _) hl9 (o:=HO.lst (zs.map V.str));refine ⟨l9,_,rfl,.inl ⟨SqL.of AB,fun c9 hc9=>?_⟩⟩;have sc:=AD (Same.refl _) hc9 (o:=HO.tup (zs.map V.str));have hcc:=AB (H:=upd H9 l9 (.lst (zs.map V.str))) (a:=c9) (o:=HO.tup (zs.map V.str));have sXc:=sX9.step (sl.trans sc);generalize upd (upd H9 l9 (.lst (zs.map V.str))) c9 (.tup (zs.map V.str))=H10 at sXc hcc ⊢;have ht10:=sXc.old _ _ (s9 _ _ ht7) (Ne.symm dt2);have hxo:=EI6.out dr hx;have hkl:(kvT ae).length <= 6:=by have:=EI6.tlen; unfold kvT; rw [AF]; omega
     refine ⟨_,rfl,_,rfl,t2,_,rfl,.inl ⟨kvT ae,Sum.inr x,ht10,rfl,Ab (by omega),rfl⟩,?_⟩;rw [OS (q:=(c9,zs)) hxo];have kT:∀ b xs,H10 b=some (.tup xs)->(upd H10 t2 (.dK (kvT (ae++[(x,c9,zs)])))) b=some (.tup xs):=fun b xs e=>by rw [AH (fun z=>by rw [z,ht10] at e; cases e)]; exact e
     have EI7:=EI6.put (j:=ae.length) (q:=(c9,zs)) dr hx;rw [take_length,List.drop_length] at EI7
     have hdc:∃ x1 y1:Int,(upd H10 t2 (.dK (kvT (ae++[(x,c9,zs)])))) d=some (.lst [.int x1,.int y1]):=by
      obtain ⟨x1,y1,h1⟩:=sXc.dice;exact ⟨x1,y1,by rw [AH dt2]; exact h1⟩
     refine ⟨⟨_,_,_,_,_,_,_,_,_,_,rfl⟩,fun b ob e h1 h2=>by rw [AH h2]; exact sXc.old _ _ (s9 _ _ (e7 b ob e h1 h2)) h1,hdc,ae++[(x,c9,zs)],AB,EI7,fun q hq=>?_,fun q hq=>?_⟩
     ·rcases mem_append.mp hq with z | z
      ·have h1:=TN7 q z;refine ⟨kT _ _ (sXc.old _ _ (s9 _ _ h1.1) (fun w=>?_)),h1.2⟩;have h2:=h1.1;rw [w,hd7] at h2;cases h2
      ·rw [mem_singleton] at z;subst z;exact ⟨kT _ _ hcc,by show zs.length <= 18; omega,fun y hy=>by rw [hnms]; exact hin y hy⟩
     ·rcases mem_append.mp hq with z | z
      ·exact hl6 q z
      ·rw [mem_singleton] at z;subst z;show zs.length <= 3;omega
   ·rintro σ H6 ⟨⟨y7,y8,y9,y10,y11,y12,y13,y14,y16,y17,rfl⟩,e6,hd6,ae,ht6,EI6,TN6,hl6⟩
    have bf:(Aj ac).length=(ms.map V.ref).length:=by
     have h1:=bj.length;unfold Br at h1;rw [AF] at h1;unfold Aj;rw [AF,AF];exact h1.symm
    have hp:=EI6.pk;rw [take_of_length_le (by omega)] at hp;exact hR _ _ ⟨⟨_,_,_,_,_,_,_,_,_,_,rfl⟩,⟨fun b ob e h1=>e6 b ob (sd5 _ _ e) h1 (t2m b ob e),hd6⟩,ae,ht6,hp,TN6,hl6⟩
  intro σ H6 h;have sX6:=h.2.1;refine Exists.elim h.2.2 fun ae h2=>?_;have ht6:=h2.1;have du:=h2.2.1;have TN6:=h2.2.2.1;have hl6:=h2.2.2.2;refine e10 h.1 fun y7 y8 y9 y10 y11 y12 y13 y14 y16 y17 e=>?_;subst e;clear h h2;refine ⟨t2,kvT ae,ht6,fun ob2=>?_⟩
  have sX7:SameX d Hd (upd H6 t2 (.frz ob2 (.dK (kvT ae)))):=by
   refine ⟨fun b ob e h1=>?_,?_⟩
   ·rw [AH (AI e ht2n)];exact sX6.old b ob e h1
   ·obtain ⟨x1,y1,h1⟩:=sX6.dice;obtain ⟨xd,yd,hdd⟩:=W0.dice;exact ⟨x1,y1,by rw [AH (AI hdd ht2n)]; exact h1⟩
  have hfz:=AB (H:=H6) (a:=t2) (o:=HO.frz ob2 (.dK (kvT ae)));have TN7:TabN ad (upd H6 t2 (.frz ob2 (.dK (kvT ae)))) ae:=TN6.same (fun b xs e=>by rw [AH (fun z=>by rw [z,ht6] at e; cases e)]; exact e);generalize upd H6 t2 (.frz ob2 (.dK (kvT ae)))=H7 at sX7 hfz TN7 ⊢;have W7:=W0.sameX sX7;have R7:=R0.trans (Rl.sameX sX7);clear sX6 ht6 TN6 We sde ht2e sX7 W0 R0 ht2n;obtain ⟨nd2,hself⟩:=J3 dr du rfl
  have htl2:ae.length <= 6:=by
   have h1:=congrArg List.length du;have h2:(A3 (fun x=>ae.lookup x) (Aj ac)).length <= (Aj ac).length:=by unfold A3; exact List.length_filterMap_le _ _
   omega
  let G3:St->Hp->Prop:=fun σ H'=>∃ p2:Addr,(∃ y7 y8 y9 y10 y11 y12 y13 y14 y17:Option V,σ=[some (.ref a),some (.ref d),some (.ref t),some (.ref u),some (.ref um),some (.ref la),some (.ref t2),y7,y8,y9,y10,y11,y12,y13,y14,some (.ref p),some (.ref p2),y17])/\Wa C EC d P0 p kk o t u um la due ac ad r r2 r3 tab H'/\Wb EC o la t2 p2 ad ae H'/\Rl d P0 H2 H'
  refine ⟨G3,fun R hR=>?_,?_⟩
  ·obtain ⟨dx,dd,ob,hp,ay⟩:=id W7.ed;refine ⟨_,rfl,p,dx,_,rfl,hp,DE _ _ _,p,kk,o,_,rfl,W7.ed,_,rfl,_,rfl,t2,ob2,kvT ae,rfl,hfz,PF (a:=t2) (o:=ob2) (kvs:=kvT ae) (fun i ys H'=>∃ cs:List Addr,ys=cs.map V.ref/\cs.length=i/\i <= 6/\Same H7 H'/\Paired (EntA H') cs (ae.take i)) ⟨[],rfl,rfl,by decide,Same.refl _,.nil⟩ (fun i ys H' ⟨_,_,_,_,s',_⟩=>s' _ _ hfz) (fun i ys H' ⟨cs,e,h1,h2,_⟩=>by rw [e,AF]; omega) ?_ ?_⟩
   ·rintro i kv ys H8 hkv ⟨cs,rfl,ak,hi6,s8,hP⟩;unfold kvT at hkv;rw [getElem?_map] at hkv;obtain ⟨q,hq,rfl⟩:=Option.map_eq_some_iff.mp hkv;have hqm:=mem_of_getElem? hq;have hlk:=JA nd2 hqm;have hi6':i + 1 <= 6:=by have:=(List.getElem?_eq_some_iff.mp hq).1; omega
    refine ⟨_,rfl,_,rfl,_,rfl,t2,_,rfl,.inl ⟨_,Sum.inr q.1,.inr ⟨ob2,s8 _ _ hfz⟩,rfl,by rw [B3,hlk]; rfl⟩,sl2,fun ea hea=>?_⟩;have s9:=AD (Same.refl _) hea (o:=HO.tup [V.str q.1,V.ref q.2.1]);refine ⟨cs++[ea],by rw [map_append]; rfl,by rw [length_append,ak]; rfl,hi6',s8.trans s9,?_⟩;rw [take_add_one,hq];exact Paired.snoc (Paired.imp' (fun _ _ z=>z.same (SameT.of s9)) hP) ⟨AB,(s8.trans s9) _ _ (TN7 q hqm).1⟩
   rintro ys H8 ⟨cs,rfl,ak,hi6,s8,hP⟩ pl hpl;rw [take_of_length_le (by unfold kvT; rw [AF]; exact Nat.le_refl _)] at hP;intro p2 dx2 bp bo bn;have s9:=AD (Same.refl _) hpl (o:=HO.lst (cs.map V.ref));have sN:=Bf (D:=EC) bp bo bn;have hpl9:=sN _ _ (AB (H:=H8) (a:=pl) (o:=HO.lst (cs.map V.ref)));have s7N:=(s8.trans s9).trans sN;have W8:=W7.same s7N
   have PR:Prs ac ad (upd (upd (upd H8 pl (HO.lst (cs.map V.ref))) dx2 (.own p2)) p2 (.ins EC dx2 [])) pl ae:=⟨⟨cs,hpl9,Paired.imp' (fun _ _ z=>z.same (SameT.of (s9.trans sN))) hP⟩,by omega,nd2,fun q hq=>by
    have h1:=hq;rw [du] at h1
    rw [SA,decide_eq_true (F6 h1)],fun q hq=>⟨(TN7 q hq).2.1,fun y hy=>by rw [SB,decide_eq_true ((TN7 q hq).2.2 y hy)]⟩⟩
   refine ⟨p2,dx2,o,la,pl,ac,ad,r2,r3,ae,rfl,AB,W8.kb,by omega,W8.kc,by omega,PR,fun H9 s9' ED2=>⟨rfl,?_⟩⟩;rw [Iy DO2.nd,← du] at ED2;have s79:Same H7 H9:=(s8.trans s9).trans (BS sN bp s9');have W9:=W7.same s79;have R9:=R7.trans (Rl.same s79);have B9:Wb EC o la t2 p2 ad ae H9:=⟨.inr ⟨ob2,s79 _ _ hfz⟩,TN7.same (SameT.of s79),ED2⟩;exact hR _ _ ⟨p2,⟨_,_,_,_,_,_,_,_,_,rfl⟩,W9,B9,R9⟩
  clear W7 R7 TN7 hfz;intro σ H9 h;refine Exists.elim h fun p2 h=>?_;have W9:=h.2.1;have B9:=h.2.2.1;have R9:=h.2.2.2;refine e9 h.1 fun u7' u8' u9' u10' u11' u12' u13' u14' u17' e=>?_;subst e;clear h;have ewU:wd 7 = "Unlike" := rfl;have ewN:wd 9 = "Never" := rfl;have ewL:wd 3 = "Unled" := rfl;have ewR:wd 1 = "BadRest" := rfl
  have fN:∀ dd ∈ ([.str "refused", .str "Never"]:List PyData),P3 dd:=fun dd hdd=>by
   simp only [mem_cons,not_mem_nil,or_false] at hdd;rcases hdd with rfl | rfl
   ·exact .inl ⟨_,rfl,by decide +kernel⟩
   ·exact .inl ⟨_,rfl,by decide +kernel⟩
  let Out:V->V->Hp->Prop:=fun vd vf H' =>
   (∃ q1 q2,vd=.ref q1/\vf=.ref q2/\H' q1=some (.tup [.str "refused", .str "Never"])/\H' q2=some (.tup [.str "refused", .str "Never"])) \/
   (∃ (x:Str) (q1 q2:Addr),x.cps.all (· < 128)=true/\vd=.ref q1/\vf=.ref q2/\H' q1=some (.tup [.str "refused", .str "Unled", .str x])/\H' q2=some (.tup [.str "refused", .str "Unled", .str x])) \/
   ((∀ q ∈ tab,FL ac ae q)/\∃ (lq p3:Addr) (cs:List Addr) (es1 es:List Ent),vd=.ref lq/\vf=.ref p3/\H' lq=some (.lst (cs.map V.ref))/\Paired (EntA H') cs es1/\Shp ac tab ae es1/\EdAt EC H' p3 kk la (kvT es)/\Shp ac tab ae es/\TabN ad H' es)
  have unlx:∀ x,Gx ac tab ae x->x.cps.all (· < 128)=true/\x.length <= 1000:=fun x hx=>by
   obtain ⟨i,q,_,_,_,j,hj,_,_⟩:=hx;obtain ⟨z,hz,ez⟩:=mem_map.mp (T5 (mem_of_getElem? hj));exact ez ▸ ⟨ap z hz,(DO2.nm z hz).2.2⟩
  let G4:St->Hp->Prop:=fun σ H'=>(∃ (y7 y8 y9 y10 y13 y14 y17:Option V) (vd vf:V),σ=[some (.ref a),some (.ref d),some (.ref t),some (.ref u),some (.ref um),some (.ref la),some (.ref t2),y7,y8,y9,y10,some vd,some vf,y13,y14,some (.ref p),some (.ref p2),y17]/\Out vd vf H')/\Wa C EC d P0 p kk o t u um la due ac ad r r2 r3 tab H'/\Wb EC o la t2 p2 ad ae H'/\Rl d P0 H2 H'
  refine ⟨G4,fun R hR=>?_,?_⟩
  ·have beh:∀ (Hx Hy:Hp) (vd:V) (σx:St),Wa C EC d P0 p kk o t u um la due ac ad r r2 r3 tab Hx->Wb EC o la t2 p2 ad ae Hx->Rl d P0 H2 Hx->(∀ Q:VK,(∀ vf H',Wa C EC d P0 p kk o t u um la due ac ad r r2 r3 tab H'->Wb EC o la t2 p2 ad ae H'->Rl d P0 Hx H'->Keeps Hx H'->((MQ ac tab ae/\∃ q2,vf=.ref q2/\H' q2=some (.tup [.str "refused", .str "Never"]))\/(∃ (x:Str) (q2:Addr),Gx ac tab ae x/\vf=.ref q2/\H' q2=some (.tup [.str "refused", .str "Unled", .str x]))\/((∀ q ∈ tab,FL ac ae q)/\∃ (p3:Addr) (es:List Ent),vf=.ref p3/\EdAt EC H' p3 kk la (kvT es)/\Shp ac tab ae es/\TabN ad H' es))->Q vf H')->(σx[16]?=some (some (.ref p2))->σx[15]?=some (some (.ref p))->MD K ec cM P0 qL LS [16,15] (fun E=>Ef EC "behind" (Gy C EC cN cL cU) [] E (Ck 0) (Aq (Ck 1) CO)) σx Hx Q)):=by
    intro Hx Hy vd σx WX BX RX Q hQ e16 e15;refine ⟨WX.tb,fun H7 sB T7=>?_⟩;have R7:Rl d P0 Hx H7:=Rl.sameB sB;have K7:=WX.keeps R7;have W7:=WX.sameB sB T7;have B7:=BX.go K7;obtain ⟨dx2',dd2,ob2',ax,hd02⟩:=id B7.ed2
    have c0:Pk [16,15] σx=[some (.ref p2),some (.ref p)]:=by
     unfold Pk;simp only [map_cons,map_nil,e16,e15,Option.getD_some]
    rw [c0];refine ⟨_,rfl,p2,dx2',_,rfl,ax,DE _ _ _,_,rfl,p2,p,kk,o,o,la,due,ac,ac,ad,r,r2,r2,r3,tab,ae,rfl,W7.ed,B7.ed2,W7.ka,W7.kb,W7.kb,W7.kc,ap,ap,hd6,DO.nd,al,W7.tn,hd6',DO2.lt,hd63,B7.tn2,.inr ⟨⟨rfl,rfl⟩,hl6,fun hN e0 H8 s8 he0 hE=>?_,fun x hx=>⟨(unlx x hx).2,fun e0 d0 H8 s8 he0 ay bn hE hX=>?_⟩,fun hG p3 es H8 s8 ED3 hs hn=>?_⟩⟩
    ·refine OW EPN W7 s8 fun q H9 W9 R9 hq=>?_;rw [ewN] at hq;exact hQ _ _ W9 (B7.go (W7.keeps R9)) (R7.trans R9) (fun b ob e h1 h2 h3=>W7.keeps R9 b ob (K7 b ob e h1 h2 h3) h1 h2 h3) (.inl ⟨hN,q,rfl,hq⟩)
    ·refine OX EFL W7 s8 hX fun q H9 W9 R9 hq=>?_;rw [ewL] at hq;exact hQ _ _ W9 (B7.go (W7.keeps R9)) (R7.trans R9) (fun b ob e h1 h2 h3=>W7.keeps R9 b ob (K7 b ob e h1 h2 h3) h1 h2 h3) (.inr (.inl ⟨x,q,hx,rfl,hq⟩))
    ·exact hQ _ _ (W7.same s8) (B7.same s8) (R7.trans (Rl.same s8)) (fun b ob e h1 h2 h3=>s8 _ _ (K7 b ob e h1 h2 h3)) (.inr (.inr ⟨hG,p3,es,rfl,ED3,hs,hn⟩))
   refine ⟨_,rfl,_,rfl,_,rfl,_,rfl,t,u,um,t2,due,ac,ad,tab,ae,rfl,W9.ht,B9.ht2,al,W9.tn,B9.tn2,hl6,W9.d1,W9.d2,hd6,DO.lt,hd6',DO2.lt,DO2.nd,fun hN q1 Hx sx hq1=>?_,fun x hx q1 Hx sx hq1=>?_,fun hG lq cs es1 Hx sx hlq hP1 hs1=>?_⟩
   ·refine beh Hx Hx (.ref q1) _ (W9.same sx) (B9.same sx) (R9.trans (Rl.same sx)) _ (fun vf H' W' B' R' K' h=>⟨_,_,rfl,?_⟩) rfl rfl;rcases h with ⟨_,q2,rfl,hq2⟩ | ⟨x,q2,hx,rfl,hq2⟩ | ⟨hG,_⟩
    ·exact hR _ _ ⟨⟨_,_,_,_,_,_,_,_,_,rfl,.inl ⟨q1,q2,rfl,rfl,K'.t _ _ hq1,hq2⟩⟩,W',B',(R9.trans (Rl.same sx)).trans R'⟩
    ·exact (OT hN hx).elim
    ·exact (MR hN hG).elim
   ·refine beh Hx Hx (.ref q1) _ (W9.same sx) (B9.same sx) (R9.trans (Rl.same sx)) _ (fun vf H' W' B' R' K' h=>⟨_,_,rfl,?_⟩) rfl rfl;rcases h with ⟨hN,_⟩ | ⟨x',q2,hx',rfl,hq2⟩ | ⟨hG,_⟩
    ·exact (OT hN hx).elim
    ·rw [U6 hx hx'] at hq2;exact hR _ _ ⟨⟨_,_,_,_,_,_,_,_,_,rfl,.inr (.inl ⟨x,q1,q2,(unlx x hx).1,rfl,rfl,K'.t _ _ hq1,hq2⟩)⟩,W',B',(R9.trans (Rl.same sx)).trans R'⟩
    ·exact (MS hx hG).elim
   ·refine beh Hx Hx (.ref lq) _ (W9.same sx) (B9.same sx) (R9.trans (Rl.same sx)) _ (fun vf H' W' B' R' K' h=>⟨_,_,rfl,?_⟩) rfl rfl;rcases h with ⟨hN,_⟩ | ⟨x',q2,hx',rfl,hq2⟩ | ⟨_,p3,es,rfl,ED3,hs,hn⟩
    ·exact (MR hN hG).elim
    ·exact (MS hx' hG).elim
    ·exact hR _ _ ⟨⟨_,_,_,_,_,_,_,_,_,rfl,.inr (.inr ⟨hG,lq,p3,cs,es1,es,rfl,rfl,K' _ _ hlq (fun _ _=>OV) (fun _ z=>nomatch z) (fun _ z=>nomatch z),Paired.imp' (fun _ _ z=>z.same K'.t) hP1,hs1,ED3,hs,hn⟩)⟩,W',B',(R9.trans (Rl.same sx)).trans R'⟩
  clear W9 R9 B9;intro σ H9 h;have W9:=h.2.1;have B9:=h.2.2.1;have R9:=h.2.2.2;refine e9 h.1 fun x7 x8 x9 x10 x13 x14 x17 vd vf h2=>?_;have hO:=h2.2;have e:=h2.1;clear h2 h;subst e
  let G5:St->Hp->Prop:=fun σ H'=>(∃ y7 y8 y9 y10 y11 y12 y13 y14 y17:Option V,σ=[some (.ref a),some (.ref d),some (.ref t),some (.ref u),some (.ref um),some (.ref la),some (.ref t2),y7,y8,y9,y10,y11,y12,y13,y14,some (.ref p),some (.ref p2),y17])/\Wa C EC d P0 p kk o t u um la due ac ad r r2 r3 tab H'/\Wb EC o la t2 p2 ad ae H'/\Rl d P0 H2 H'
  refine ⟨G5,fun R hR=>?_,?_⟩
  ·rcases hO with ⟨q1,q2,rfl,rfl,hq1,hq2⟩ | ⟨x,q1,q2,hax,rfl,rfl,hq1,hq2⟩ | ⟨hG,lq,p3,cs,es1,es,rfl,rfl,hlq,hP1,hs1,ED3,hs,hn⟩
   ·refine ⟨_,rfl,_,_,_,true,rfl,.tup hq2,rfl,_,rfl,?_⟩;refine Bo (Bo ⟨_,rfl,_,rfl,_,_,HJ hq2,HJ hq1,Bx fN,Bx fN,_,rfl,?_⟩);rw [(DH fN).2.2];exact Aw (hR _ _ ⟨⟨_,_,_,_,_,_,_,_,_,rfl⟩,W9,B9,R9⟩)
   ·have aj:∀ dd ∈ ([.str "refused", .str "Unled", .str x]:List PyData),P3 dd:=fun dd hdd=>by
     simp only [mem_cons,not_mem_nil,or_false] at hdd;rcases hdd with rfl | rfl | rfl
     ·exact .inl ⟨_,rfl,by decide +kernel⟩
     ·exact .inl ⟨_,rfl,by decide +kernel⟩
     ·exact .inl ⟨_,rfl,hax⟩
    refine ⟨_,rfl,_,_,_,true,rfl,.tup hq2,rfl,_,rfl,?_⟩;refine Bo (Bo ⟨_,rfl,_,rfl,_,_,OY hq2,OY hq1,Bx aj,Bx aj,_,rfl,?_⟩);rw [(DH aj).2.2];exact Aw (hR _ _ ⟨⟨_,_,_,_,_,_,_,_,_,rfl⟩,W9,B9,R9⟩)
   ·obtain ⟨dx3,dd3,ob3,hp3,hd03'⟩:=id ED3;refine ⟨_,rfl,_,_,_,false,rfl,EI0.ty hp3,hEt,_,rfl,?_⟩;refine Aw ?_;refine ⟨_,rfl,_,_,_,false,rfl,.lst hlq,hlt,_,rfl,?_⟩;refine Aw ?_
    have hmE:∀ z ∈ es,z.1 ∈ due.map (·.1):=fun z hz=>by
     have h1:z.1 ∈ es.map (·.1):=mem_map.mpr ⟨z,hz,rfl⟩;rw [hs.fst] at h1;obtain ⟨y,hy,ey⟩:=mem_map.mp h1;exact ey ▸ hta y hy
    have eD:es1.map HB=es.map HB:=by
     have e1:∀ l:List Ent,l.map HB=(l.map fun q=>(q.1,q.2.2)).map fun z=>PyData.tuple [.str z.1,.tuple (z.2.map PyData.str)]:=fun l=>by rw [map_map]; rfl
     rw [e1,e1,show es1.map (fun q=>(q.1,q.2.2))=_ from hs1,show es.map (fun q=>(q.1,q.2.2))=_ from hs]
    let G6:St->Hp->Prop:=fun σ H'=>σ=[some (.ref a),some (.ref d),some (.ref t),some (.ref u),some (.ref um),some (.ref la),some (.ref t2),x7,x8,x9,x10,some (.ref lq),some (.ref p3),x13,x14,some (.ref p),some (.ref p2),x17]/\Wa C EC d P0 p kk o t u um la due ac ad r r2 r3 tab H'/\Wb EC o la t2 p2 ad ae H'/\Rl d P0 H2 H'/\EdAt EC H' p3 kk la (kvT es)/\TabN ad H' es
    refine ⟨G6,fun R2 hR2=>?_,?_⟩
    ·refine V7 rfl ED3 fun l3 as3 H10 s10 hl10 ht10=>?_;have hP10:=Ks ht10 (hn.same (SameT.of s10));obtain ⟨ao,ba⟩:=SO asc aq hn hmE;refine ⟨_,rfl,_,_,DC hl10 (JG hP10),DC (s10 _ _ hlq) (eD ▸ JG (Paired.imp' (fun _ _ z=>z.same (SameT.of s10)) hP1)),ao,ao,_,rfl,?_⟩;rw [ba];refine Aw ?_;have W10:=W9.same s10;refine OZ rfl (ED3.same s10) (OZ rfl W10.ed (No W10.ka W10.ka asc asc fun H11 s11=>⟨_,rfl,?_⟩));rw [decide_eq_true (show due=due/\r=r from ⟨rfl,rfl⟩)];refine Aw ?_;have s911:=s10.trans s11;have W11:=W9.same s911;refine T6 rfl (ED3.same s911) ⟨_,rfl,No W11.kc W11.kc aq aq fun H12 s12=>⟨_,rfl,?_⟩⟩;rw [decide_eq_true (show ad=ad/\r3=r3 from ⟨rfl,rfl⟩)];have sT:=s911.trans s12;exact Aw (hR2 _ _ ⟨rfl,W9.same sT,B9.same sT,R9.trans (Rl.same sT),ED3.same sT,hn.same (SameT.of sT)⟩)
    clear W9 R9 B9 ED3 hn hlq hP1 hp3 hd03';intro σ H10 h;have W10:=h.2.1;have B10:=h.2.2.1;have R10:=h.2.2.2.1;have ED3:=h.2.2.2.2.1;have hn:=h.2.2.2.2.2;have e:=h.1;clear h;subst e
    let I6:Nat->St->Hp->Prop:=fun j σ H'=>(∃ y10 y13 y14 y17:Option V,σ=[some (.ref a),some (.ref d),some (.ref t),some (.ref u),some (.ref um),some (.ref la),some (.ref t2),x7,x8,x9,y10,some (.ref lq),some (.ref p3),y13,y14,some (.ref p),some (.ref p2),y17])/\Wa C EC d P0 p kk o t u um la due ac ad r r2 r3 tab H'/\Wb EC o la t2 p2 ad ae H'/\Rl d P0 H2 H'/\EdAt EC H' p3 kk la (kvT es)/\TabN ad H' es
    refine ⟨_,rfl,by decide,by decide,JS (lo:=0) (n:=6) I6 ⟨⟨_,_,_,_,rfl⟩,W10,B10,R10,ED3,hn⟩ ?_ (fun σ H' ⟨⟨w10,w13,w14,w17,e⟩,W',B',R',_⟩=>by subst e; exact hR _ _ ⟨⟨_,_,_,_,_,_,_,_,_,rfl⟩,W',B',R'⟩)⟩;clear W10 R10 B10 ED3 hn;intro j σ H10 hj h;have W10:=h.2.1;have B10:=h.2.2.1;have R10:=h.2.2.2.1;have ED3:=h.2.2.2.2.1;have hn:=h.2.2.2.2.2;refine e4 h.1 fun w10 w13 w14 w17 e=>?_;subst e;clear h
    let G8:St->Hp->Prop:=fun σ H'=>∃ n:Nat,(∃ y10 y14 y17:Option V,σ=[some (.ref a),some (.ref d),some (.ref t),some (.ref u),some (.ref um),some (.ref la),some (.ref t2),x7,x8,x9,y10,some (.ref lq),some (.ref p3),some (.int (n:Int)),y14,some (.ref p),some (.ref p2),y17])/\n < 2 ^ 40/\n - (n &&& AQ (AJ due))=0/\Wa C EC d P0 p kk o t u um la due ac ad r r2 r3 tab H'/\Wb EC o la t2 p2 ad ae H'/\Rl d P0 H2 H'/\EdAt EC H' p3 kk la (kvT es)/\TabN ad H' es
    refine ⟨G8,fun R2 hR2=>?_,?_⟩
    ·obtain ⟨bs,az,a0⟩:=id W10.d1;refine ⟨_,rfl,_,rfl,u,bs,due,rfl,az,a0,by omega,DO.lt,fun tb e m ms H11 s11 _ bi he hm bj=>?_⟩;have W11:=W10.same s11;obtain ⟨x11',y11',hd11⟩:=W11.dice;refine ⟨tb,_,rfl,.inl ⟨_,Sum.inr "bits", .inl bi,rfl,(Lu _ _ _).symm⟩,d,x11',y11',AQ (AJ due), "bar", rfl,hd11,fun n H12 hn40 hnk sX12=>?_⟩
     have hn0:n - (n &&& AQ (AJ due))=0:=by
      rcases hnk with z | z
      ·exact absurd z (by decide +kernel)
      ·exact z
     have W12:=W11.sameX sX12;have K12:Keeps H10 H12:=fun b ob e h1 h2 h3=>W11.keeps (Rl.sameX sX12) b ob (s11 _ _ e) h1 h2 h3;have B12:=B10.go K12;have R12:=(R10.trans (Rl.same s11)).trans (Rl.sameX sX12);have ED12:=K12.ed ED3;have hn12:=hn.same K12.t;exact hR2 _ _ ⟨n,⟨_,_,_,rfl⟩,hn40,hn0,W12,B12,R12,ED12,hn12⟩
    clear W10 R10 B10 ED3 hn;intro σ H12 h;refine Exists.elim h fun n h=>?_;have hn40:=h.2.1;have hn0:=h.2.2.1;have W12:=h.2.2.2.1;have B12:=h.2.2.2.2.1;have R12:=h.2.2.2.2.2.1;have ED12:=h.2.2.2.2.2.2.1;have hn12:=h.2.2.2.2.2.2.2;refine e3 h.1 fun q10 q14 q17 e=>?_;subst e;clear h
    let G9:St->Hp->Prop:=fun σ H'=>∃ v:Addr,σ=[some (.ref a),some (.ref d),some (.ref t),some (.ref u),some (.ref um),some (.ref la),some (.ref t2),x7,x8,x9,q10,some (.ref lq),some (.ref p3),some (.int (n:Int)),q14,some (.ref p),some (.ref p2),some (.ref v)]/\ValAt VC H' v kk n/\Wa C EC d P0 p kk o t u um la due ac ad r r2 r3 tab H'/\Wb EC o la t2 p2 ad ae H'/\Rl d P0 H2 H'/\EdAt EC H' p3 kk la (kvT es)/\TabN ad H' es
    refine ⟨G9,fun R2 hR2=>?_,?_⟩
    ·refine OZ rfl W12.ed ⟨_,rfl,?_⟩;intro v dv hv hdv bn;have sN:=Bf (D:=VC) hv hdv bn
     have hnkn:n - (n &&& kn due)=0:=by
      have h1:=Nn due n
      rwa [show n &&& AQ (AJ due)=n by have:=Nat.and_le_left (n:=n) (m:=AQ (AJ due)); omega] at h1
     refine ⟨v,dv,kk,due,r,n,rfl,AB,W12.ka.same sN,hn40,.inr hnkn,fun H13 s13 hV=>⟨rfl,?_⟩⟩;have s123:Same H12 H13:=BS sN hv s13;have W13:=W12.same s123;have B13:=B12.same s123;have R13:=R12.trans (Rl.same s123);have ED13:=ED12.same s123;have hn13:=hn12.same (SameT.of s123);exact hR2 _ _ ⟨v,rfl,hV,W13,B13,R13,ED13,hn13⟩
    clear W12 B12 R12 ED12 hn12;intro σ H13 h;refine Exists.elim h fun v h=>?_;have hV:=h.2.1;have W13:=h.2.2.1;have B13:=h.2.2.2.1;have R13:=h.2.2.2.2.1;have ED13:=h.2.2.2.2.2.1;have hn13:=h.2.2.2.2.2.2;have e:=h.1;clear h;subst e;obtain ⟨eg,es0⟩:=JD (due:=due) W13.tn hn0;have hg40:=OR (tab:=tab) (due:=due) DO2.lt hn40
    let G7:St->Hp->Prop:=fun σ H'=>(∃ vf:V,σ=[some (.ref a),some (.ref d),some (.ref t),some (.ref u),some (.ref um),some (.ref la),some (.ref t2),x7,x8,x9,q10,some (.ref lq),some (.ref p3),some (.int (n:Int)),some vf,some (.ref p),some (.ref p2),some (.ref v)]/\((∃ q xs,vf=.ref q/\H' q=some (.tup xs))\/∃ q,vf=.ref q/\Has tab (AO due n)/\ValAt VC H' q o (Bw tab ac (AO due n))))/\Wa C EC d P0 p kk o t u um la due ac ad r r2 r3 tab H'/\Wb EC o la t2 p2 ad ae H'/\Rl d P0 H2 H'/\EdAt EC H' p3 kk la (kvT es)/\TabN ad H' es/\ValAt VC H' v kk n
    refine ⟨G7,fun R2 hR2=>?_,?_⟩
    ·refine ⟨W13.tb,fun H14 sB T14=>?_⟩;have K14:=W13.keeps (Rl.sameB sB);have W14:=W13.sameB sB T14;have B14:=B13.go K14;have R14:=R13.trans (Rl.sameB sB);have ED14:=K14.ed ED13;have hn14:=hn13.same K14.t
     have hV14:ValAt VC H14 v kk n:=by
      obtain ⟨dq,hq⟩:=hV;exact ⟨dq,K14 _ _ hq (fun _ _ z=>nomatch z) (fun _ z=>nomatch z) (fun _ z=>nomatch z)⟩
     obtain ⟨dx1,dd1,ob1,aw,hd01⟩:=id W14.ed;refine ⟨_,rfl,p,dx1,_,rfl,aw,DE _ _ _,_,rfl,p,v,kk,o,kk,n,due,due,ac,r,r,r2,tab,rfl,W14.ed,W14.tn,hV14,hn40,W14.ka,asc,by omega,W14.ka,asc,W14.kb,DO2.lt,.inr ⟨⟨rfl,rfl⟩,?_⟩⟩;rcases Nj (tab:=tab) (AO due n) with hH | ⟨x,hL⟩
     ·refine .inr ⟨hH,.inr (.inr ⟨fun z=>z.1 es0,fun z=>z.1 es0,fun q H15 s15 hVq=>?_⟩)⟩
      have en:(if r2 = "keep" then plain ((Cz tab due ac n:Nat):Int) else plain ((Cz tab due ac n:Nat):Int) - Ae ac ((Cz tab due ac n:Nat):Int))=Bw tab ac (AO due n):=by
       rw [es0,Gp,eg];split <;> rfl
      rw [en] at hVq;exact hR2 _ _ ⟨⟨_,rfl,.inr ⟨q,rfl,hH,hVq⟩⟩,W14.same s15,B14.same s15,R14.trans (Rl.same s15),ED14.same s15,hn14.same (SameT.of s15),hV14.same s15⟩
     ·obtain ⟨i0,hi0,_,_⟩:=id hL;obtain ⟨zz,hzz,ezz⟩:=mem_map.mp (T5 (mem_of_getElem? hi0));refine .inl ⟨x,hL,ezz ▸ (DO.nm zz hzz).2.2,fun e0 d0 H15 s15 he0 ay bn hE hX=>OX EFL W14 s15 hX fun q H16 W16 R16 hq=>?_⟩;have K16:=W14.keeps R16
      have hV16:ValAt VC H16 v kk n:=by
       obtain ⟨dq,hq⟩:=hV14;exact ⟨dq,K16 _ _ hq (fun _ _ z=>nomatch z) (fun _ z=>nomatch z) (fun _ z=>nomatch z)⟩
      exact hR2 _ _ ⟨⟨_,rfl,.inl ⟨q,_,rfl,hq⟩⟩,W16,B14.go K16,R14.trans R16,K16.ed ED14,hn14.same K16.t,hV16⟩
    clear W13 B13 R13 ED13 hn13 hV;intro σ H13 h;have W13:=h.2.1;have B13:=h.2.2.1;have R13:=h.2.2.2.1;have ED13:=h.2.2.2.2.1;have hn13:=h.2.2.2.2.2.1;have hV:=h.2.2.2.2.2.2;refine Exists.elim h.1 fun vf h2=>?_;have hF:=h2.2;have e:=h2.1;clear h2 h;subst e;rcases hF with ⟨q,xs,rfl,hq⟩ | ⟨q,rfl,hH,hVq⟩
    ·refine ⟨_,rfl,_,VC,_,false,rfl,.tup hq,hT,_,rfl,?_⟩;exact Aw (Aw ⟨⟨_,_,_,_,rfl⟩,W13,B13,R13,ED13,hn13⟩)
    ·obtain ⟨dxq,hq⟩:=id hVq;refine ⟨_,rfl,_,VC,_,true,rfl,VO.isi.ty hq,EE K VC,_,rfl,?_⟩;refine Bo ?_;have eb:=P1 (ad:=ad) (ms:=AO due n) hs;have hgr:=Pz (ms:=AO due n) hG;have hg1:Bw tab ac (AO due n) < 2 ^ 40:=by rw [← eg]; exact hg40
     refine SR rfl rfl ED13 hn13 hV hn40 W13.ka asc hd6 W13.kc DO3.lt hn0 (SJ hs hH) fun qa H14 s14 hVa=>?_;have W14:=W13.same s14;have B14:=B13.same s14;refine SR rfl rfl B14.ed2 B14.tn2 (hVq.same s14) hg1 W14.kb ap hd6' W14.kc DO3.lt hgr (SI hG) fun qb H15 s15 hVb=>?_
     have e34:Bw ae ad (AO ac (Bw tab ac (AO due n)))=Bw es ad (AO due n):=by
      unfold Bw;exact eb.symm
     rw [e34] at hVb;refine VD (hVa.same s15) hVb (W14.same s15).kc aq fun H16 s16=>⟨_,rfl,?_⟩;have sT:=(s14.trans s15).trans s16;exact Aw ⟨⟨_,_,_,_,rfl⟩,W13.same sT,B13.same sT,R13.trans (Rl.same sT),ED13.same sT,hn13.same (SameT.of sT)⟩
  clear W9 R9 B9 hO;intro σ H9 h;have W9:=h.2.1;have B9:=h.2.2.1;have R9:=h.2.2.2;refine e9 h.1 fun z7 z8 z9 z10 z11 z12 z13 z14 z17 e=>?_;subst e;clear h
  have fin:∀ H',TabOk H' P0 qL LS->Rl d P0 H2 H'->∀ σ',(∃ v1 v2 v3 v4 v5 v6 v7 v8 v9 v10 v11 v12 v13 v14 v15 v16 v17:Option V,σ'=[some (.ref a),v1,v2,v3,v4,v5,v6,v7,v8,v9,v10,v11,v12,v13,v14,v15,v16,v17])->LI (i + 1) σ' H':=fun H' T' RT σ' hσ=>⟨hσ,RT _ _ hl2 hld hlP (fun _ z=>nomatch z),T',fun j b hj e=>by
   obtain ⟨x5,y5,e5⟩:=hds j b (by omega) e;refine ⟨x5,y5,RT _ _ e5 (fun z=>?_) (TabOk.ne e5 hT2) (fun _ z=>nomatch z)⟩;subst z;have:=(List.getElem?_inj (List.getElem?_eq_some_iff.mp hdi).1 nd).mp (hdi.trans e.symm)
   omega⟩
  refine OZ rfl W9.ed (T6 rfl W9.ed (No W9.ka W9.kb asc ap fun H10 s10=>⟨_,rfl,?_⟩));have W10:=W9.same s10;have R10:=R9.trans (Rl.same s10);by_cases hq:due=ac/\r=r2
  ·rw [decide_eq_true hq];exact Aw (Aw (fin _ W10.tb R10 _ ⟨_,_,_,_,_,_,_,_,_,_,_,_,_,_,_,_,_,rfl⟩))
  rw [decide_eq_false hq];refine Bo ?_;refine ⟨W10.tb,fun H11 sB T11=>?_⟩;have W11:=W10.sameB sB T11;have R11:=R10.trans (Rl.sameB sB);obtain ⟨dx1',dd1',ob1',hp1',hd01'⟩:=id W11.ed;refine ⟨_,rfl,p,dx1',_,rfl,hp1',DE _ _ _,_,rfl,p,p,kk,o,kk,o,due,ac,due,ac,r,r2,r,r2,tab,tab,rfl,W11.ed,W11.ed,W11.ka,W11.kb,W11.ka,W11.kb,ap,asc,hd6,DO.nd,al,W11.tn,hd6,DO.lt,hd6',W11.tn,.inl ⟨fun z=>hq ⟨z.1.symm,z.2.symm⟩,fun e0 H12 s12 he0 hE=>OW EPU W11 s12 fun q H13 W13 R13 hq13=>?_⟩⟩;rw [ewU] at hq13;refine ⟨sl2,fun q2 hq2=>?_⟩;have sQ:=AD (Same.refl _) hq2 (o:=HO.tup [V.str "refused", V.str "Unlike"])
  have aj:∀ dd ∈ ([.str "refused", .str "Unlike"]:List PyData),P3 dd:=fun dd hdd=>by
   simp only [mem_cons,not_mem_nil,or_false] at hdd;rcases hdd with rfl | rfl
   ·exact .inl ⟨_,rfl,by decide +kernel⟩
   ·exact .inl ⟨_,rfl,by decide +kernel⟩
  refine ⟨_,_,HJ (sQ _ _ hq13),HJ AB,Bx aj,Bx aj,_,rfl,?_⟩;rw [(DH aj).2.2];exact Aw (fin _ (W13.same sQ).tb ((R11.trans R13).trans (Rl.same sQ)) _ ⟨_,_,_,_,_,_,_,_,_,_,_,_,_,_,_,_,_,rfl⟩)
end
theorem SS {dt:Addr} {tk:Tok} {kV doc pm af ct:Value} {an:Option Addr} {n:Nat} (hd:K.lookup dt=some ⟨.type "tuple", none,.seq #[.str "" tk] n,#[]⟩) :
  Binds K (W.fnOf "__init__" "MarkError.__init__" (defArgs BC) (defBody BC) (defScope BC) (.ref dt) kV doc pm an af ct) ["self", "words"] []:=by
 intro s us hK hl
 have hl2:us.length=2:=by
  rw [append_nil] at hl;exact hl
 match us,hl2 with
 | [u1,u2],_ =>
  have ho:=hK _ _ hd;intro M A E Q hq;unfold bindArgs;simp only [W.fnOf]
  repeat (first | with_reducible refine wpAny_seqItems ho rfl ?_ | (with_reducible refine wpAny_bind (wpAny_seqItems ho rfl ?_)) | wp_step)
  exact Eq.mp (congrArg (fun z=>Q z s) (by kernel_rfl)) hq
theorem Np {h:Heap} {N:Addr} {n:Str} {v:Value} (X:K.In h) (G:h.Ns N mg) (e:W.nsIn K N n=some (some v)):mg n=some v:=by
 obtain ⟨o,es,ep,ho,hd,_,hf⟩:=G;unfold W.nsIn at e;split at e
 ·rename_i c d es' n' sl q;have:=X _ _ q;rw [ho] at this;cases this;cases hd;split at e
  ·rename_i he;cases e;rw [← hf];unfold nsFind findBy;rw [← Array.find?_toList,he];rfl
  ·split at e <;> cases e
 ·cases e
theorem Tq {kV doc pm af ct:Value} {an:Option Addr} :
  Mp K (W.fnOf "__init__" "Kind.__init__" (defArgs BZ) (defBody BZ) (defScope BZ) .none kV doc pm an af ct) ["self", "rows", "rest"] ["rest"] gU3 gV3:=by
 refine ⟨fun s us ws _ hl=>?_,fun {vs us zs ws} r rz=>?_⟩
 ·unfold gU3 at hl ⊢;split at hl
  ·exact .of_eq (by kernel_rfl)
  ·cases hl
 ·cases r with
  | nil=>exact .nil
  | cons r1 rr =>
   cases rr with
   | nil=>exact .nil
   | cons r2 rr =>
    cases rr with
    | cons _ _=>exact .nil
    | nil =>
     cases rz with
     | nil=>exact .nil
     | cons z1 zz =>
      cases zz with
      | nil=>exact .cons r1 (.cons r2 (.cons z1 .nil))
      | cons _ _=>exact .nil
theorem VJ {kd:Addr} {v doc pm af ct:Value} {an:Option Addr} (ok:W.nsOkIn K kd=true) (e:W.nsIn K kd "rest" = some (some v)) :
  Binds K (W.fnOf "__init__" "Kind.__init__" (defArgs BZ) (defBody BZ) (defScope BZ) .none (.ref kd) doc pm an af ct) ["self", "rows", "rest"] [v]:=by
 intro s us hK hl
 have hl2:us.length=2:=by
  rw [length_append] at hl;exact Nat.succ.inj hl
 match us,hl2 with
 | [u1,u2],_ =>
  have G:s.heap.Ns kd (s.heap.nsMap kd):=.of_isNs (W.isNs_of_in hK ok);have hm:s.heap.nsMap kd "rest" = some v:=Np hK G e;intro M A E Q hq;unfold bindArgs;simp only [W.fnOf]
  repeat (first | (with_reducible refine wpAny_nsGet G ?_; rw [hm]) | wp_step)
  exact Eq.mp (congrArg (fun z=>Q z s) (by kernel_rfl)) hq
end Mk
end
section
namespace Mk
open PySem L2 MK PySem.W
noncomputable abbrev fO (x q:Str) (s:Stmt):=fnOf x q (defArgs s) (defBody s) (defScope s)
theorem EL {K:Frag} {C:Addr} {T:String} (h:isClsIn K C=true) (h2:typeIn K (.ref C)=some (.type "type")) (e:subIn K (.type T) (.ref C)=some false):kitOne K (.type T) (.ref C)=some false:=by
 unfold kitOne;rw [if_neg (by simp)];unfold kitCls;show (if _ then _ else _)=_;rw [if_pos (by unfold isClsIn at h; rw [h,h2]; simp)];exact e
theorem Ob {K:Frag} {C M:Addr} {f:Str} (h:(clsIn K C).map (fun cd=>(cd.mro,cd.hasDict))=some (Er C M,true)) (n:findIn K (.ref C) f=some none) (s:findIn K (.ref C) "__setattr__" = some (some (.builtin "object.__setattr__"))):Lg K C M f:=by
 obtain ⟨cd,e,z⟩:=Option.map_eq_some_iff.mp h;exact ⟨⟨cd,e,congrArg Prod.fst z,congrArg Prod.snd z⟩,n,s⟩
noncomputable def Mc (K:Frag) (c P:Addr):Bool:=match K.lookup c with
 | some ⟨.type "code", _,.fields vs,_⟩=>(match (vs[11]?:Option Value),vs.getD 18 Value.none,vs.getD 7 Value.none,vs.getD 9 Value.none,vs.getD 10 Value.none with
  | some (.ref p),.str _ _,.int _ _,.bool _,.int _ _=>p == P && !(c == P)
  | _,_,_,_,_=>false)
 | _=>false
theorem codeHd_of {K:Frag} {h:Heap} {c P:Addr} (X:K.In h) (q:Mc K c P=true):CodeHd h c P:=by
 unfold Mc at q;split at q
 ·rename_i d vs sl ho;split at q
  ·rename_i p f tf fl tg b tx tt h11 h18 h7 h9 h10;rw [Bool.and_eq_true,beq_iff_eq] at q;obtain ⟨rfl,hn⟩:=q;refine ⟨_,vs,f,tf,fl,tg,b,tx,tt,X _ _ ho,rfl,rfl,h11,?_,h18,h7,h9,h10,fun z=>by simp [z] at hn⟩;rw [Array.getD_eq_getD_getElem?,h11];rfl
  ·cases q
 ·cases q
section
variable {P:Program} {w:World} {K:Frag} {mg:SV} {base:Heap} {x q:Str} {st:Stmt} {k:Nat} {ps:List Str} {sp:Sp} {f C:Addr} {fd:FuncData} {p1 p2 p3 p4 p5:Str}
theorem fnT (F:Fun K x x st f fd) (ok:Ac P w K mg base CX0 k f fd ps sp) (m:mg x=some (.ref f)) (b:Binds K fd ps []):Fn P w K mg base x k ps sp:=⟨⟨f,fd,ok,m,F.kp,b⟩⟩
theorem mtT (a:findIn K (.ref C) x=some (some (.ref f))) (i:isFn K (.ref f)=true) (F:Fun K x q st f fd) (ok:Ac P w K mg base CX0 k f fd ps sp) (b:Binds K fd ps []):Mt P w K mg base C x k ps sp:=⟨⟨f,fd,ok,⟨a,i,F.kp⟩,b⟩⟩
noncomputable abbrev fB (x q:Str) (st:Stmt) (kV doc pm:Value) (an:Option Addr) (af ct:Value) (us:List Value):Sem (List (Str × Value)):=bindArgs (fO x q st .none kV doc pm an af ct) ⟨us,[]⟩
theorem bi1 (F:Fun K x q st f fd) (h:∀ a b c d e g u1,fB x q st a b c d e g [u1]=pure [(p1,u1)]):Binds K fd [p1] []:=F.binds fun _ _ _ _ _ _ us hl=>match us,hl with | [_],_=>h ..
theorem bi2 (F:Fun K x q st f fd) (h:∀ a b c d e g u1 u2,fB x q st a b c d e g [u1,u2]=pure [(p1,u1),(p2,u2)]):Binds K fd [p1,p2] []:=F.binds fun _ _ _ _ _ _ us hl=>match us,hl with | [_,_],_=>h ..
theorem bi3 (F:Fun K x q st f fd) (h:∀ a b c d e g u1 u2 u3,fB x q st a b c d e g [u1,u2,u3]=pure [(p1,u1),(p2,u2),(p3,u3)]):Binds K fd [p1,p2,p3] []:=F.binds fun _ _ _ _ _ _ us hl=>match us,hl with | [_,_,_],_=>h ..
theorem bi4 (F:Fun K x q st f fd) (h:∀ a b c d e g u1 u2 u3 u4,fB x q st a b c d e g [u1,u2,u3,u4]=pure [(p1,u1),(p2,u2),(p3,u3),(p4,u4)]):Binds K fd [p1,p2,p3,p4] []:=F.binds fun _ _ _ _ _ _ us hl=>match us,hl with | [_,_,_,_],_=>h ..
end
def DG (K:Frag) (x:Str) (st:Stmt):Prop:=∃ f fd,nsIn K mainGlobals x=some (some (.ref f))/\Fun K x x st f fd
def DM (K:Frag) (C:Addr) (x q:Str) (st:Stmt):Prop:=∃ f fd,findIn K (.ref C) x=some (some (.ref f))/\isFn K (.ref f)=true/\(∃ o,K.lookup f=some o/\o.cls=.type "function")/\Fun K x q st f fd
structure CF (K:Frag) (C:Addr):Prop where
 pg:plainGet K C Str.empty=true
 hd:hasDictIn K C=true
 po:plainOver K C=true
 sa:findIn K (.ref C) "__setattr__" = some (some (.builtin "object.__setattr__"))
 mz:makesIn K C=true
 kc:keepIn K (.ref C)=true
 qa:findIn K (.ref C) "__class__" = some (some (.builtin "object.__class__"))
 qm:mroIn K C (.type "object")=some true
 ql:isClsIn K C=true
 qy:typeIn K (.ref C)=some (.type "type")
 qs:subIn K (.type "list") (.ref C)=some false
 qi:subIn K (.type "int") (.ref C)=some false
 qt:subIn K (.type "tuple") (.ref C)=some false
 ne:findIn K (.ref C) "__ne__" = some (some (.builtin "object.__ne__"))
structure XF (K:Frag) (ec:Nat->Addr) (C:Addr) (j:Nat):Prop where
 cx:L2.A5 K C=true
 ga:findIn K (.ref C) "__getattribute__" = some (some (.builtin "BaseException.__getattribute__"))
 gr:findIn K (.ref C) "__getattr__" = some none
 gb:mroIn K C (.type "BaseException")=some true
 kc:(clsIn K C).isSome=true
 ka:findIn K (.ref C) "__class__" = some (some (.builtin "object.__class__"))
 km:mroIn K C (.type "object")=some true
 kt:((List.range 11).all fun i=>i == j || decide (kitOne K (.ref C) (.ref (ec i))=some false))=true
 tv:kitOne K (.ref C) (.type "ValueError")=some true
 ke:keepIn K (.ref C)=true
theorem XF.at {K:Frag} {ec:Nat->Addr} {C:Addr} {j:Nat} (F:XF K ec C j) (hj:j < 11) (e:C=ec j) (qn:specialIn K (.builtin "object.__class__") "__get__" = some (some (.builtin "getset_descriptor.__get__"))) (qt:takesIn K (.builtin "object.__class__")=some true):OP K ec C j:=by
 refine ⟨hj,⟨⟨F.ga,F.gr,F.gb⟩,F.kc,F.ka,qn,qt,F.km⟩,fun i hi=>?_,F.tv⟩;have h:=List.all_eq_true.mp F.kt i (mem_range.mpr hi);rw [Bool.or_eq_true] at h;rcases h with z | z
 ·rw [eq_of_beq z,e,decide_eq_true rfl];exact EE K _
 ·by_cases q:i=j
  ·rw [q,e,decide_eq_true rfl];exact EE K _
  ·rw [decide_eq_false q];exact of_decide_eq_true z
structure XP (K:Frag) (ec:Nat->Addr) (cM C f:Addr) (j:Nat):Prop where
 F:XF K ec C j
 n:((List.range 4).all fun i=>!(Dg K C).contains (.ref (ec i)))=true
 m:(Dg K C).contains (.ref cM)=true
 i:findIn K (.ref C) "__init__" = some (some (.ref f))
theorem XP.pl {K:Frag} {ec:Nat->Addr} {cM C f:Addr} {j:Nat} (F:XP K ec cM C f j) (hj:j < 11) (e:C=ec j) (qn:specialIn K (.builtin "object.__class__") "__get__" = some (some (.builtin "getset_descriptor.__get__"))) (qt:takesIn K (.builtin "object.__class__")=some true):Jw K ec cM C j:=by
 have h:∀ i,i < 4->(Dg K C).contains (.ref (ec i))=false:=fun i hi=>by
  have:=List.all_eq_true.mp F.n i (mem_range.mpr hi);rw [Bool.not_eq_true'] at this;exact this
 exact ⟨F.F.at hj e qn qt,F.F.cx,h 0 (by decide),h 1 (by decide),h 2 (by decide),h 3 (by decide),F.m⟩
structure XL (K:Frag) (ec:Nat->Addr) (cM C:Addr) (j:Nat) (fld:Str):Prop where
 F:XF K ec C j
 n:((List.range j).all fun i=>!(Dg K C).contains (.ref (ec i)))=true
 m:(Dg K C).contains (.ref (ec j))=true
 gh:hasDictIn K C=true
 gn:findIn K (.ref C) fld=some none
 gs:findIn K (.ref C) "__setattr__" = some (some (.builtin "object.__setattr__"))
 s:(clsIn K C).map (fun cd=>(cd.mro,cd.hasDict))=some (Er C cM,true)
theorem XL.fl {K:Frag} {ec:Nat->Addr} {cM C:Addr} {j:Nat} (F:XL K ec cM C j (Il j)) (hj:j < 4) (e:C=ec j) (qn:specialIn K (.builtin "object.__class__") "__get__" = some (some (.builtin "getset_descriptor.__get__"))) (qt:takesIn K (.builtin "object.__class__")=some true):Jx K ec C j:=by
 refine ⟨F.F.at (by omega) e qn qt,F.F.cx,hj,fun i hi=>?_,F.m,⟨⟨F.F.ga,F.F.gr,F.F.gb⟩,F.gh,F.gn⟩⟩;have:=List.all_eq_true.mp F.n i (mem_range.mpr hi);rw [Bool.not_eq_true'] at this;exact this
theorem all_mk {l:OpenLaw} {w:World} {K:Frag} {h:Heap} {mg:SV} {fz C VC EC aR kd dt cM c P0 e0 e1 e2 e3 e4 e5 e6 e7 e8 e9 e10 fin fei fla:Addr} (X:K.In h) (G:h.Ns mainGlobals mg) (hfa:mg "law" = some (.ref fz))
  {ocla kVla dcla pmla ctla ocin dcin pmin cdin ctin kVei dcei pmei cdei ctei ocK:Value} {odla anla odin anin odei anei odR odK:Option Addr} {slla slin slei slK slR:Array (Option Value)} {tG tM tL tLi tB t1 t2 t3 t4 tE:Tok} {nRR epK nE:Nat} {esK:Array DictEntry}
  (aC:nsIn K mainGlobals "Kind" = some (some (.ref C)))
  (aVC:nsIn K mainGlobals "Value" = some (some (.ref VC)))
  (aEC:nsIn K mainGlobals "Edition" = some (some (.ref EC)))
  (aM:nsIn K mainGlobals "MarkError" = some (some (.ref cM)))
  (aX0:nsIn K mainGlobals "BadRows" = some (some (.ref e0)))
  (aX1:nsIn K mainGlobals "BadRest" = some (some (.ref e1)))
  (aX2:nsIn K mainGlobals "BadText" = some (some (.ref e2)))
  (aX3:nsIn K mainGlobals "Unled" = some (some (.ref e3)))
  (aX4:nsIn K mainGlobals "BadRule" = some (some (.ref e4)))
  (aX5:nsIn K mainGlobals "BadName" = some (some (.ref e5)))
  (aX6:nsIn K mainGlobals "BadNumber" = some (some (.ref e6)))
  (aX7:nsIn K mainGlobals "Unlike" = some (some (.ref e7)))
  (aX8:nsIn K mainGlobals "BadPairs" = some (some (.ref e8)))
  (aX9:nsIn K mainGlobals "Never" = some (some (.ref e9)))
  (aX10:nsIn K mainGlobals "Nothing" = some (some (.ref e10)))
  (z_VE:nsIn K mainGlobals "ValueError" = some none)
  (hwh:DG K "is_whole" IG)
  (hnm:DG K "is_name" Kb)
  (huo:DG K "union_of" IH)
  (hnx:DG K "next_mark" GQ)
  (hoo:DG K "is_one_of" II)
  (hno:DG K "is_names_of" Ev)
  (hth:DG K "thing_number" DV)
  (hro:DG K "row_number" Ew)
  (hnb:DG K "numbered" GS)
  (hfi:DG K "first_names" Dx)
  (him:DG K "is_mark" Kc)
  (hmR:DM K C "rows" "Kind.rows" GY)
  (hmK:DM K C "known" "Kind.known" Ey)
  (hmT:DM K C "rest" "Kind.rest" GZ)
  (hmM:DM K C "marks" "Kind.marks" Ex)
  (hmE:DM K C "__eq__" "Kind.__eq__" Kd)
  (hlc:DG K "_law_cell" IM)
  (hld:DG K "_law_drawn" Gb)
  (hlr:DG K "_law_roll" IN)
  (hls:DG K "_law_rounds" E3)
  (hll:DG K "_law_lines" CA)
  (hxn:DG K "is_number" Ga)
  (hxr:DG K "rest_of" Ke)
  (hxi:DM K VC "__init__" "Value.__init__" Ez)
  (hxN:DM K VC "number" "Value.number" DW)
  (hxK:DM K VC "kind" "Value.kind" E1)
  (hxE:DM K VC "__eq__" "Value.__eq__" IJ)
  (hmN:DM K C "number" "Kind.number" Dy)
  (hmb:DG K "mark_bits" GJ)
  (hlb:DG K "_law_bits_of" E4)
  (hlu:DG K "_law_rule_of" E5)
  (hlt:DG K "_law_table_of" D3)
  (hxM:DM K VC "marks" "Value.marks" Dz)
  (hxR:DM K VC "rest" "Value.rest" E2)
  (hvo:DG K "value_of" Fi)
  (heE:DG K "is_entry" IK)
  (heT:DG K "table_of" IL)
  (hek:DM K EC "kind" "Edition.kind" DY)
  (heo:DM K EC "other" "Edition.other" C1)
  (hep:DM K EC "pairs" "Edition.pairs" C2)
  (hli:DG K "_law_number_in" DZ)
  (hlB:DG K "_law_behind" E6)
  (heI:DM K EC "__init__" "Edition.__init__" DX)
  (heN:DM K EC "names_for" "Edition.names_for" Bh)
  (heL:DM K EC "led" "Edition.led" CP)
  (heB:DM K EC "behind" "Edition.behind" Be)
  (hmd:DG K "made" OF)
  (hri:DM K e1 "__init__" "BadRest.__init__" DU)
  (hui:DM K e3 "__init__" "Unled.__init__" Eu)
  (hle:DG K "_law_edition" D4)
  (hlw:DG K "_law_word" D0)
  (hlo:DG K "_law_told" Am)
  (ain:findIn K (.ref C) "__init__" = some (some (.ref fin)))
  (iin:isFn K (.ref fin)=true)
  (lin:K.lookup fin=some ⟨ocin,odin,.func (fO "__init__" "Kind.__init__" BZ .none (.ref kd) dcin pmin anin cdin ctin),slin⟩)
  (cin:codeIn K cdin "Kind.__init__" = true)
  (kin:keepIn K (.ref fin)=true)
  (ala:nsIn K mainGlobals "law" = some (some (.ref fla)))
  (lla:K.lookup fla=some ⟨ocla,odla,.func (fO "law" "law" CY .none kVla dcla pmla anla (.ref c) ctla),slla⟩)
  (cla:codeIn K (.ref c) "law" = true)
  (kla:keepIn K (.ref fla)=true)
  (aei:findIn K (.ref cM) "__init__" = some (some (.ref fei)))
  (iei:isFn K (.ref fei)=true)
  (lei:K.lookup fei=some ⟨(.type "function"),odei,.func (fO "__init__" "MarkError.__init__" BC (.ref dt) kVei dcei pmei anei cdei ctei),slei⟩)
  (cei:codeIn K cdei "MarkError.__init__" = true)
  (kei:keepIn K (.ref fei)=true)
  (kdl:K.lookup kd=some ⟨ocK,odK,.dict esK epK,slK⟩)
  (kde:(esK.all fun e=>match e.key with | .str _ _=>true | _=>false)=true)
  (kdr:nsIn K kd "rest" = some (some (.str "bar" tB)))
  (dtl:K.lookup dt=some ⟨.type "tuple", none,.seq #[.str "" tE] nE,#[]⟩)
  (vG:nsIn K mainGlobals "GREATEST" = some (some (.int 1048575 tG)))
  (vM:nsIn K mainGlobals "MOST_ROWS" = some (some (.int 10 tM)))
  (vL:nsIn K mainGlobals "LONGEST_NAME" = some (some (.int 6 tL)))
  (vLi:nsIn K mainGlobals "LIMIT" = some (some (.int 1099511627776 tLi)))
  (vR:nsIn K mainGlobals "RULES" = some (some (.ref aR)))
  (qn:specialIn K (.builtin "object.__class__") "__get__" = some (some (.builtin "getset_descriptor.__get__")))
  (qt:takesIn K (.builtin "object.__class__")=some true)
  (fC:CF K C)
  (fVC:CF K VC)
  (fEC:CF K EC)
  (nC_numbers:findIn K (.ref C) "numbers" = some none)
  (nC_firsts:findIn K (.ref C) "firsts" = some none)
  (nC_rule:findIn K (.ref C) "rule" = some none)
  (nVC_own_kind:findIn K (.ref VC) "own_kind" = some none)
  (nVC_bits:findIn K (.ref VC) "bits" = some none)
  (nEC_own_kind:findIn K (.ref EC) "own_kind" = some none)
  (nEC_second_kind:findIn K (.ref EC) "second_kind" = some none)
  (nEC_table:findIn K (.ref EC) "table" = some none)
  (xm:L2.A5 K cM=true)
  (xc0:L2.A5 K e0=true)
  (xc1:L2.A5 K e1=true)
  (xc2:L2.A5 K e2=true)
  (xc3:L2.A5 K e3=true)
  (y7:XP K (fun i=>([e0,e1,e2,e3,e4,e5,e6,e7,e8,e9,e10]:List Addr).getD i 0) cM e7 fei 7)
  (y9:XP K (fun i=>([e0,e1,e2,e3,e4,e5,e6,e7,e8,e9,e10]:List Addr).getD i 0) cM e9 fei 9)
  (y1:XL K (fun i=>([e0,e1,e2,e3,e4,e5,e6,e7,e8,e9,e10]:List Addr).getD i 0) cM e1 1 "bits")
  (y3:XL K (fun i=>([e0,e1,e2,e3,e4,e5,e6,e7,e8,e9,e10]:List Addr).getD i 0) cM e3 3 "name")
  (xmg:specialIn K (.ref cM) "__getattribute__" = some (some (.builtin "type.__getattribute__")))
  (xmr:readsIn K cM (.type "type")=true)
  (xmf:findCls K (.ref cM) (.type "type") "__init__" = some (.val (.ref fei)))
  (rL:K.lookup aR=some ⟨.type "tuple", odR,.seq #[.str "bar" t1,.str "drop" t2,.str "keep" t3,.str "leave" t4] nRR,slR⟩)
  (z_len:nsIn K mainGlobals "len" = some none)
  (z_isinstance:nsIn K mainGlobals "isinstance" = some none)
  (z_max:nsIn K mainGlobals "max" = some none)
  (z_min:nsIn K mainGlobals "min" = some none)
  (z_range:nsIn K mainGlobals "range" = some none)
  (z_list:nsIn K mainGlobals "list" = some none)
  (z_tuple:nsIn K mainGlobals "tuple" = some none)
  (z_sorted:nsIn K mainGlobals "sorted" = some none)
  (z_sum:nsIn K mainGlobals "sum" = some none)
  (z_all:nsIn K mainGlobals "all" = some none)
  (z_enumerate:nsIn K mainGlobals "enumerate" = some none)
  (z_int:nsIn K mainGlobals "int" = some none)
  (z_bool:nsIn K mainGlobals "bool" = some none)
  (z_str:nsIn K mainGlobals "str" = some none)
  (z_dict:nsIn K mainGlobals "dict" = some none)
  (hEt:kitOne K (.ref EC) (.type "tuple")=some false)
  : ∃ fd:FuncData,(∀ (s:Shared) (v:Value),BindsTo s fd ⟨[v],[]⟩ [("_law_script", v)])/\∀ base:Heap,K.In base->base.Ns mainGlobals mg->CodeHd base c P0->base.BuiltinsAt mg P0->Ac l.prog w K mg base CX0 11 fz fd ["_law_script"] (Oa K P0):=by
 have MG:∀ {x:Str} {v:Value},nsIn K mainGlobals x=some (some v)->mg x=some v:=fun h=>mg_of X G h;have MN:∀ {x:Str},nsIn K mainGlobals x=some none->mg x=none:=fun h=>mg_none_of X G h;have T:Dh K C:=⟨⟨fC.pg,fC.hd,fC.po,fC.sa⟩,nC_numbers,nC_firsts,nC_rule⟩;have VT:Ik K VC:=⟨⟨fVC.pg,fVC.hd,fVC.po,fVC.sa⟩,nVC_own_kind,nVC_bits⟩;have ET:Ir K EC:=⟨⟨fEC.pg,fEC.hd,fEC.po,fEC.sa⟩,nEC_own_kind,nEC_second_kind,nEC_table⟩;have KI:KIsi K C:=⟨⟨fC.pg,fC.hd,fC.po,fC.sa⟩,fC.qa,qn,qt,fC.qm,EL fC.ql fC.qy fC.qs⟩;have VI:KIsi K VC:=⟨⟨fVC.pg,fVC.hd,fVC.po,fVC.sa⟩,fVC.qa,qn,qt,fVC.qm,EL fVC.ql fVC.qy fVC.qs⟩;have mCg:=MG aC;have mVg:=MG aVC;have hLi:=MG vLi;have vI:=EL fVC.ql fVC.qy fVC.qi;have vT:=EL fVC.ql fVC.qy fVC.qt;have qeC:=fC.ne;have qm:=fC.qm;have B:Bl mg:=⟨MN z_len,MN z_isinstance,MN z_max,MN z_min,MN z_range,MN z_list,MN z_tuple,MN z_sorted,MN z_sum,MN z_all,MN z_enumerate,MN z_int,MN z_bool,MN z_str⟩;have rT:∀ H:Hp,SqT K H aR (ruleNames.map V.str):=fun H=>.inr ⟨_,_,_,rL,rfl,rfl,sl4,.cons ⟨_,rfl⟩ (.cons ⟨_,rfl⟩ (.cons ⟨_,rfl⟩ (.cons ⟨_,rfl⟩ .nil)))⟩
 have kdo:nsOkIn K kd=true:=by
  unfold nsOkIn;rw [kdl];exact kde
 have hG:=MG vG;have hM:=MG vM;have hL:=MG vL;have hR:=MG vR;have M:MC mg (fun i=>([e0,e1,e2,e3,e4,e5,e6,e7,e8,e9,e10]:List Addr).getD i 0):=⟨MG aX0,MG aX1,MG aX2,MG aX3,MG aX4,MG aX5,MG aX6,MG aX7,MG aX8,MG aX9,MG aX10,MN z_VE⟩;have EX:NW K mg (fun i=>([e0,e1,e2,e3,e4,e5,e6,e7,e8,e9,e10]:List Addr).getD i 0) cM:=⟨MG aM,xm,xc0,xc1,xc2,xc3⟩;have EPU:=y7.pl (by decide) rfl qn qt;have EPN:=y9.pl (by decide) rfl qn qt;have EFR:=XL.fl (j:=1) y1 (by decide) rfl qn qt;have EFL:=XL.fl (j:=3) y3 (by decide) rfl qn qt;have Fin:=fun_mk (st:=BZ) lin cin kin;have e:=hfa.symm.trans (MG ala);cases e;have Fla:FunC K "law" "law" CY fz (fO "law" "law" CY .none kVla dcla pmla anla (.ref c) ctla) c:=⟨⟨_,_,_,_,_,_,_,_,rfl,lla,cla⟩⟩;have Fei:FunD K "__init__" "MarkError.__init__" BC fei _:=⟨⟨_,_,_,_,_,_,_,_,_,_,rfl,lei,cei⟩⟩;obtain ⟨fwh,dwh,awh,Fwh⟩:=hwh;have bwh:=bi1 (p1 := "thing") Fwh fun _ _ _ _ _ _ _=>rfl;obtain ⟨fnm,dnm,anm,Fnm⟩:=hnm;have bnm:=bi1 (p1 := "thing") Fnm fun _ _ _ _ _ _ _=>rfl;obtain ⟨fuo,duo,auo,Fuo⟩:=huo;have buo:=bi1 (p1 := "numbers") Fuo fun _ _ _ _ _ _ _=>rfl;obtain ⟨fnx,dnx,anx,Fnx⟩:=hnx;have bnx:=bi1 (p1 := "numbers") Fnx fun _ _ _ _ _ _ _=>rfl;obtain ⟨foo,doo,aoo,Foo⟩:=hoo;have boo:=bi2 (p1 := "thing") (p2 := "names") Foo fun _ _ _ _ _ _ _ _=>rfl;obtain ⟨fno,dno,ano,Fno⟩:=hno;have bno:=bi2 (p1 := "parts") (p2 := "ahead") Fno fun _ _ _ _ _ _ _ _=>rfl;obtain ⟨fth,dth,ath,Fth⟩:=hth;have bth:=bi2 (p1 := "thing") (p2 := "ahead") Fth fun _ _ _ _ _ _ _ _=>rfl;obtain ⟨fro,dro,aro,Fro⟩:=hro;have bro:=bi2 (p1 := "row") (p2 := "ahead") Fro fun _ _ _ _ _ _ _ _=>rfl;obtain ⟨fnb,dnb,anb,Fnb⟩:=hnb;have bnb:=bi1 (p1 := "rows") Fnb fun _ _ _ _ _ _ _=>rfl;obtain ⟨ffi,dfi,afi,Ffi⟩:=hfi;have bfi:=bi1 (p1 := "numbers") Ffi fun _ _ _ _ _ _ _=>rfl;obtain ⟨fim,dim,aim,Fim⟩:=him;have bim:=bi1 (p1 := "number") Fim fun _ _ _ _ _ _ _=>rfl;obtain ⟨fmR,dmR,amR,imR,omR,FmR⟩:=hmR;have bmR:=bi1 (p1 := "self") FmR fun _ _ _ _ _ _ _=>rfl;obtain ⟨fmK,dmK,amK,imK,omK,FmK⟩:=hmK;have bmK:=bi1 (p1 := "self") FmK fun _ _ _ _ _ _ _=>rfl;obtain ⟨fmT,dmT,amT,imT,omT,FmT⟩:=hmT;have bmT:=bi1 (p1 := "self") FmT fun _ _ _ _ _ _ _=>rfl;obtain ⟨fmM,dmM,amM,imM,omM,FmM⟩:=hmM;have bmM:=bi1 (p1 := "self") FmM fun _ _ _ _ _ _ _=>rfl;obtain ⟨fmE,dmE,amE,imE,omE,FmE⟩:=hmE;have bmE:=bi2 (p1 := "self") (p2 := "other") FmE fun _ _ _ _ _ _ _ _=>rfl;obtain ⟨flc,dlc,alc,Flc⟩:=hlc;have blc:=bi2 (p1 := "_law_script") (p2 := "_law_k") Flc fun _ _ _ _ _ _ _ _=>rfl;obtain ⟨fld,dld,ald,Fld⟩:=hld;have bld:=bi2 (p1 := "_law_cell_here") (p2 := "_law_k") Fld fun _ _ _ _ _ _ _ _=>rfl;obtain ⟨flr,dlr,alr,Flr⟩:=hlr;have blr:=bi2 (p1 := "_law_dice") (p2 := "_law_many") Flr fun _ _ _ _ _ _ _ _=>rfl;obtain ⟨fls,dls,als,Fls⟩:=hls;have bls:=bi2 (p1 := "_law_script") (p2 := "_law_most") Fls fun _ _ _ _ _ _ _ _=>rfl;obtain ⟨fll,dll,all,Fll⟩:=hll;have bll:=bi2 (p1 := "_law_dice") (p2 := "_law_most") Fll fun _ _ _ _ _ _ _ _=>rfl;obtain ⟨fxn,dxn,axn,Fxn⟩:=hxn;have bxn:=bi1 (p1 := "thing") Fxn fun _ _ _ _ _ _ _=>rfl;obtain ⟨fxr,dxr,axr,Fxr⟩:=hxr;have bxr:=bi2 (p1 := "kind") (p2 := "number") Fxr fun _ _ _ _ _ _ _ _=>rfl;obtain ⟨fxi,dxi,axi,ixi,oxi,Fxi⟩:=hxi;have bxi:=bi3 (p1 := "self") (p2 := "kind") (p3 := "number") Fxi fun _ _ _ _ _ _ _ _ _=>rfl;obtain ⟨fxN,dxN,axN,ixN,oxN,FxN⟩:=hxN;have bxN:=bi1 (p1 := "self") FxN fun _ _ _ _ _ _ _=>rfl;obtain ⟨fxK,dxK,axK,ixK,oxK,FxK⟩:=hxK;have bxK:=bi1 (p1 := "self") FxK fun _ _ _ _ _ _ _=>rfl;obtain ⟨fxE,dxE,axE,ixE,oxE,FxE⟩:=hxE;have bxE:=bi2 (p1 := "self") (p2 := "other") FxE fun _ _ _ _ _ _ _ _=>rfl;obtain ⟨fmN,dmN,amN,imN,omN,FmN⟩:=hmN;have bmN:=bi2 (p1 := "self") (p2 := "name") FmN fun _ _ _ _ _ _ _ _=>rfl;obtain ⟨fmb,dmb,amb,Fmb⟩:=hmb;have bmb:=bi1 (p1 := "kind") Fmb fun _ _ _ _ _ _ _=>rfl;obtain ⟨flb,dlb,alb,Flb⟩:=hlb;have blb:=bi1 (p1 := "_law_number") Flb fun _ _ _ _ _ _ _=>rfl;obtain ⟨flu,dlu,alu,Flu⟩:=hlu;have blu:=bi1 (p1 := "_law_dice") Flu fun _ _ _ _ _ _ _=>rfl;obtain ⟨flt,dlt,alt,Flt⟩:=hlt;have blt:=bi1 (p1 := "_law_due") Flt fun _ _ _ _ _ _ _=>rfl;obtain ⟨fxM,dxM,axM,ixM,oxM,FxM⟩:=hxM;have bxM:=bi1 (p1 := "self") FxM fun _ _ _ _ _ _ _=>rfl;obtain ⟨fxR,dxR,axR,ixR,oxR,FxR⟩:=hxR;have bxR:=bi1 (p1 := "self") FxR fun _ _ _ _ _ _ _=>rfl;obtain ⟨fvo,dvo,avo,Fvo⟩:=hvo;have bvo:=bi2 (p1 := "kind") (p2 := "names") Fvo fun _ _ _ _ _ _ _ _=>rfl;obtain ⟨feE,deE,aeE,FeE⟩:=heE;have beE:=bi3 (p1 := "thing") (p2 := "marks") (p3 := "names") FeE fun _ _ _ _ _ _ _ _ _=>rfl;obtain ⟨feT,deT,aeT,FeT⟩:=heT;have beT:=bi3 (p1 := "kind") (p2 := "other") (p3 := "pairs") FeT fun _ _ _ _ _ _ _ _ _=>rfl;obtain ⟨fek,dek,aek,iek,oek,Fek⟩:=hek;have bek:=bi1 (p1 := "self") Fek fun _ _ _ _ _ _ _=>rfl;obtain ⟨feo,deo,aeo,ieo,oeo,Feo⟩:=heo;have beo:=bi1 (p1 := "self") Feo fun _ _ _ _ _ _ _=>rfl;obtain ⟨fep,dep,aep,iep,oep,Fep⟩:=hep;have bep:=bi1 (p1 := "self") Fep fun _ _ _ _ _ _ _=>rfl;obtain ⟨fli,dli,ali,Fli⟩:=hli;have bli:=bi3 (p1 := "_law_dice") (p2 := "_law_known") (p3 := "_law_way") Fli fun _ _ _ _ _ _ _ _ _=>rfl;obtain ⟨flB,dlB,alB,FlB⟩:=hlB;have blB:=bi4 (p1 := "_law_table") (p2 := "_law_due") (p3 := "_law_middle") (p4 := "_law_more") FlB fun _ _ _ _ _ _ _ _ _ _=>rfl;obtain ⟨feI,deI,aeI,ieI,oeI,FeI⟩:=heI;have beI:=bi4 (p1 := "self") (p2 := "kind") (p3 := "other") (p4 := "pairs") FeI fun _ _ _ _ _ _ _ _ _ _=>rfl;obtain ⟨feN,deN,aeN,ieN,oeN,FeN⟩:=heN;have beN:=bi2 (p1 := "self") (p2 := "value") FeN fun _ _ _ _ _ _ _ _=>rfl;obtain ⟨feL,deL,aeL,ieL,oeL,FeL⟩:=heL;have beL:=bi2 (p1 := "self") (p2 := "value") FeL fun _ _ _ _ _ _ _ _=>rfl;obtain ⟨feB,deB,aeB,ieB,oeB,FeB⟩:=heB;have beB:=bi2 (p1 := "self") (p2 := "edition") FeB fun _ _ _ _ _ _ _ _=>rfl;obtain ⟨fmd,dmd,amd,Fmd⟩:=hmd;have bmd:=bi2 (p1 := "kind") (p2 := "number") Fmd fun _ _ _ _ _ _ _ _=>rfl;obtain ⟨fri,dri,ari,iri,ori,Fri⟩:=hri;have bri:=bi2 (p1 := "self") (p2 := "bits") Fri fun _ _ _ _ _ _ _ _=>rfl;obtain ⟨fui,dui,aui,iui,oui,Fui⟩:=hui;have bui:=bi2 (p1 := "self") (p2 := "name") Fui fun _ _ _ _ _ _ _ _=>rfl;obtain ⟨fle,dle,ale,Fle⟩:=hle;have ble:=bi2 (p1 := "_law_dice") (p2 := "_law_high") Fle fun _ _ _ _ _ _ _ _=>rfl;obtain ⟨flw,dlw,alw,Flw⟩:=hlw;have blw:=bi1 (p1 := "_law_e") Flw fun _ _ _ _ _ _ _=>rfl;obtain ⟨flo,dlo,alo,Flo⟩:=hlo;have blo:=bi1 (p1 := "_law_deed") Flo fun _ _ _ _ _ _ _=>rfl;refine ⟨fO "law" "law" CY .none kVla dcla pmla anla (.ref c) ctla,fun s v=>.of_eq rfl,fun base _ _ hC hBu=>?_⟩;have FT:=@fnT l.prog w K mg base;have MT:=@mtT l.prog w K mg base;have Gwh:=FT (sp:=DB) Fwh (NP Fwh B) (MG awh) bwh;have Gnm:=FT (sp:=IQ) Fnm (PN Fnm B hL) (MG anm) bnm;have Guo:=FT (sp:=(CB K)) Fuo (NK Fuo) (MG auo) buo;have Gnx:=FT (sp:=(E8 K)) Fnx (Lk Fnx B) (MG anx) bnx;have Goo:=FT (sp:=(Ca K)) Foo (NO Foo B) (MG aoo) boo;have Gno:=FT (sp:=D7) Fno (Kj Fno B Goo) (MG ano) bno;have Gth:=FT (sp:=Kk) Fth (RF Fth B Gnx Gno Guo Gwh) (MG ath) bth;have Gro:=FT (sp:=RI) Fro (Uh Fro B hG Gnm Gth) (MG aro) bro;have Gnb:=FT (sp:=E9) Fnb (Lm Fnb B hM Gro) (MG anb) bnb;have Gfi:=FT (sp:=IV) Ffi (PX Ffi) (MG afi) bfi;have Gim:=FT (sp:=IP) Fim (PM Fim) (MG aim) bim;have GmR:=MT (sp:=(IY C)) amR imR FmR (TC FmR B T) bmR;have GmK:=MT (sp:=(HH C)) amK imK FmK (RM FmK B T Guo) bmK;have GmT:=MT (sp:=(Kn C)) amT imT FmT (TR FmT T) bmT;have GmM:=MT (sp:=(Fs C)) amM imM FmM (RN FmM B T Gim) bmM;have GmE:=MT (sp:=(Ii C)) amE imE FmE (Ut FmE B T KI mCg GmR) bmE;have Glc:=FT (sp:=(NQ K)) Flc (TH Flc B) (MG alc) blc;have Gld:=FT (sp:=Kl) Fld (RQ Fld) (MG ald) bld;have Glr:=FT (sp:=FA) Flr (TJ Flr Gld) (MG alr) blr;have Gls:=FT (sp:=(IZ K)) Fls (PZ Fls B Glc) (MG als) bls;have Gll:=FT (sp:=HI) Fll (Ra Fll B Glr) (MG all) bll;have Gxn:=FT (sp:=FC) Fxn (Lx Fxn hLi Gwh) (MG axn) bxn;have Gxr:=FT (sp:=(F1 C)) Fxr (Ph Fxr T GmK) (MG axr) bxr;have Gxi:=MT (sp:=(HK C VC)) axi ixi Fxi (Ly Fxi T VT Gxn Gxr GmT) bxi;have GxN:=MT (sp:=(Gi VC)) axN ixN FxN (NV FxN VT) bxN;have GxK:=MT (sp:=(Kp VC)) axK ixK FxK (Rg FxK VT) bxK;have GxE:=MT (sp:=(ON C VC)) axE ixE FxE (Uw FxE B T VT VI vI mVg GmE) bxE;obtain ⟨fE0,dE0,gE0,mE0,bE0⟩:=GxE.ex;have VO:Lz l.prog w K mg base C VC:=⟨VT,mVg,⟨_,_,⟨fVC.mz,axi,ixi,fVC.kc⟩,Ly Fxi T VT Gxn Gxr GmT,bxi⟩,⟨_,_,gE0,mE0,bE0⟩,VI,fVC.ne,fVC.qi⟩;have GmN:=MT (sp:=(Fv C)) amN imN FmN (Pe FmN T Goo) bmN;have Gmb:=FT (sp:=(FH C)) Fmb (MH Fmb T GmM Guo) (MG amb) bmb;have Glb:=FT (sp:=Ie) Flb (Pa Flb B) (MG alb) blb;have Glu:=FT (sp:=F7) Flu (Pu Flu Glr) (MG alu) blu;have Glt:=FT (sp:=Fw) Flt (Re Flt B Glb) (MG alt) blt;have GxM:=MT (sp:=(Io C VC)) axM ixM FxM (Po FxM T VT GmM) bxM;have GxR:=MT (sp:=(HL C VC)) axR ixR FxR (Ro FxR VT Gmb) bxR;have Gvo:=FT (sp:=(Rp C VC)) Fvo (NZ Fvo B T VO Guo GmN) (MG avo) bvo;have GeE:=FT (sp:=Rt) FeE (U2 FeE B Goo) (MG aeE) beE;have GeT:=FT (sp:=(Rw C)) FeT (U3 FeT B (MN z_dict) T GmM GmR GeE) (MG aeT) beT;have Gek:=MT (sp:=(F5 EC)) aek iek Fek (Ry Fek ET) bek;have Geo:=MT (sp:=(EH EC)) aeo ieo Feo (Pp Feo ET) beo;have Gep:=MT (sp:=(EJ EC)) aep iep Fep (Pq Fep B ET) bep;have Gli:=FT (sp:=FI) Fli (MJ Fli Glr) (MG ali) bli;have GlB:=FT (sp:=Nk) FlB (To FlB Glt) (MG alB) blB;have GW:FnS l.prog w K mg base "_law_word" 1 ["_law_e"] (Ci K (fun i=>([e0,e1,e2,e3,e4,e5,e6,e7,e8,e9,e10]:List Addr).getD i 0)):=⟨⟨_,_,TY Flw B M,MG alw,Flw.kp,blw⟩⟩;have KO:Nh l.prog w K mg base C:=⟨T,mCg,⟨_,_,⟨fC.mz,ain,iin,fC.kc⟩,TB Fin B T hR rT Gnb Gfi Goo,⟨_,Tq⟩,_,VJ kdo kdr,.cons ⟨_,rfl⟩ .nil⟩⟩;have ME:U0 l.prog w K mg base cM:=⟨MG aM,xmg,xmr,⟨_,_,xmf,FD Fei (MN z_VE),kei,SS dtl⟩⟩;have EO7:MB l.prog w K mg base "Unlike" e7:=⟨MG aX7,⟨_,_,⟨y7.F.cx,y7.i,iei,⟨_,lei,rfl⟩,y7.F.ke⟩,FD Fei (MN z_VE),SS dtl⟩⟩;have EO9:MB l.prog w K mg base "Never" e9:=⟨MG aX9,⟨_,_,⟨y9.F.cx,y9.i,iei,⟨_,lei,rfl⟩,y9.F.ke⟩,FD Fei (MN z_VE),SS dtl⟩⟩;have UO:T3 l.prog w K mg base cM e3:=⟨MG aX3,⟨_,_,⟨xc3,aui,iui,oui,y3.F.ke⟩,Nf Fui ME,bui⟩,Ob y3.s y3.gn y3.gs⟩;have RO:Rj l.prog w K mg base cM e1:=⟨MG aX1,⟨_,_,⟨xc1,ari,iri,ori,y1.F.ke⟩,MF Fri ME,bri⟩,Ob y1.s y1.gn y1.gs⟩;have EO:Tg l.prog w K mg base C EC:=⟨ET,MG aEC,⟨_,_,⟨fEC.mz,aeI,ieI,fEC.kc⟩,Rx FeI ET GeT,beI⟩⟩;have GeN:MtR l.prog w K mg base EC "names_for" 4 ["self", "value"] (Tf C VC EC e3):=⟨⟨_,_,V0 FeN ET VT UO GxM,⟨aeN,ieN,FeN.kp⟩,beN⟩⟩;have GeL:MtR l.prog w K mg base EC "led" 7 ["self", "value"] (J0 C VC EC e3 e1 e7):=⟨⟨_,_,U4 FeL ET VT qeC qm EO7 GmE GxK GxN GxR GeN Gvo (Ta Fmd hLi T VO RO Gwh Gxr GmT GmK) (MG amd) Fmd.kp bmd,⟨aeL,ieL,FeL.kp⟩,beL⟩⟩;have GEd:=FT (sp:=SE C EC) Fle (U5 Fle B KO EO Glr Glu Gll Glt) (MG ale) ble;have GvT:=FT (sp:=Ni C VC) Fvo (MO Fvo B T VO Guo GmN) (MG avo) bvo;have GeB:MtR l.prog w K mg base EC "behind" 7 ["self", "edition"] (Gy C EC e9 e3 e7):=⟨⟨_,_,U8 FeB B VT EO qeC qm EO7 EO9 GmE Geo Gek Gep GxR GeN GvT,⟨aeB,ieB,FeB.kp⟩,beB⟩⟩;have EI0:KIsi K EC:=⟨⟨fEC.pg,fEC.hd,fEC.po,fEC.sa⟩,fEC.qa,qn,qt,fEC.qm,EL fEC.ql fEC.qy fEC.qs⟩;exact VH Fla Flo (MG alo) blo hC hBu B KO VO EO M EX GW EPU EPN EFL EFR vT hEt EI0 (by kernel_rfl) qeC qm Gek Geo Gep GeL GeB GmR GmE Gls GEd Gll Glu Glt Glr Gli GlB
theorem walk {l:OpenLaw} {q:Program} {loose:List Str} {XP:(Str->Option Value)->Heap->Prop} {YP:World->Heap->Prop} {d:DefRec} {K:Params->Frag} {c P0:Addr} (hn:l.most=some 63) (hdf:d.params.defaults=[])
  (hY:∀ (w:World) (h:Heap),YP w h->(K w.params).In h/\h.get? P0=some (tabObj #[])/\(K w.params).lookup P0=none/\CodeHd h c P0)
  (F:∀ (w:World) (mg:SV) (fa:Addr) (h:Heap),(K w.params).In h->h.Ns mainGlobals mg->mg d.name=some (.ref fa) ->
   ∃ fd:FuncData,(∀ (s:Shared) (u:Value),BindsTo s fd ⟨[u],[]⟩ [("_law_script", u)])/\∀ base:Heap,(K w.params).In base->base.Ns mainGlobals mg->CodeHd base c P0->base.BuiltinsAt mg P0->Ac l.prog w (K w.params) mg base CX0 11 fa fd ["_law_script"] (Oa (K w.params) P0)) :
  WalkO q loose XP YP l.row.toRowW d [] (fun f vs=>PySem.call f vs) :=
 L2.Qs (n:=63) (k:=11) (x := "_law_script") (CX:=fun _=>CX0) (sp:=fun w=>Oa (K w.params) P0) hn (by decide) hdf ⟨rfl,by decide,by decide⟩ hY F
  (fun _ _ a ns hl _ hP hS=>⟨a,ns,rfl,hS,hl,⟨#[],hP,trivial,fun _ _=>.inl rfl⟩,fun _=>rfl⟩) fun _ _ _ _ _ z=>z
end Mk
end
section
namespace Hd
open PySem PySem.W PySem.Calls PyProof.Rows
def runT (tb : String -> Option Builtin) (p : Program) (w : World) (n₀ : Nat) (ann : Option Value) : Nat -> SharedT -> Thread -> Option SharedT
  | 0,_,_=>none
  | n + 1,s,t=>match through t with
    | true=>some s
    | false=>match stepOk n₀ ann t with
      | false=>none
      | true=>match stepT (denote tb) p w s t with
        | some (s',t')=>runT tb p w n₀ ann n s' t'
        | none=>none
theorem runT_of {tb : String -> Option Builtin} {p : Program} {w : World} {n₀ : Nat} {ann : Option Value} : ∀ {n : Nat} {s s' : SharedT} {t : Thread},runT tb p w n₀ ann n s t = some s' -> topRun tb p w n₀ ann n s.abs t = some s'.abs
  | 0,_,_,_,h=>by cases h
  | n + 1,s,s',t,h=>by
    unfold runT at h
    unfold topRun
    cases ht : through t with
    | true=>rw [ht] at h; cases h; rfl
    | false =>
      rw [ht] at h
      cases hk : stepOk n₀ ann t with
      | false=>rw [hk] at h; cases h
      | true =>
        rw [hk] at h
        cases hs : stepT (denote tb) p w s t with
        | none=>rw [hs] at h; cases h
        | some r=>obtain ⟨s₂,t₂⟩:=r; rw [hs] at h; rw [stepT_spec hs]; exact runT_of h
def looksAt (p q : Program) (loose : List Str) (Xt : Shared -> Bool) (as : List Addr) (h₀ : Heap) (s : Shared) :=
  (staticsOk (importedModules p.main.body) h₀ s.heap && namesBound p s.heap && gensDone s && laidKept h₀ s.heap,openSeen q loose (importedModules p.main.body) Xt true s,as.map s.heap.get?)
theorem left_of {p q : Program} {loose : List Str} {Xt : Shared -> Bool} {as : List Addr} {K : Params -> Frag} {N M m₀ : Nat} {ann : Option Value} {T0 : Params -> BT} {life : Life}
    (open_ : ∀ w : World,(fencedOpening treeTable p w N).map (fun s=>(s.heap,s.gens,s.drawn,s.toks)) = some (boot_heap w.params,#[],boot_drawn,boot_toks))
    (tree : ∀ P : Params,absHeap (T0 P) m₀ life = boot_heap P)
    (size : ∀ w : World,((boot_heap w.params).isNs mainGlobals,(boot_heap w.params).objs.size,(boot_heap w.params).nsMap mainGlobals "__annotations__") = (true,m₀,ann))
    (le : Nat.ble M N = true)
    (run : ∀ (w : World) (os : OsState),(runT treeTable p w m₀ ann M ⟨T0 w.params,m₀,life,#[],boot_drawn,boot_toks,os⟩ (topStub p)).map (fun s=>looksAt p q loose Xt as (boot_heap w.params) s.abs) = some (true,openGood q loose,(K w.params).map fun x=>some x.2)) :
    LeftO p q loose Xt (fun s=>as.map s.heap.get?) (fun w=>(K w.params).map fun x=>some x.2) N:=fun w=>by
  obtain ⟨⟨h,gs,d,k,os⟩,e,e'⟩:=Option.map_eq_some_iff.mp (open_ w)
  obtain ⟨rfl,rfl,rfl,rfl⟩ : h = boot_heap w.params /\ gs = #[] /\ d = boot_drawn /\ k = boot_toks:=by simpa using e'
  obtain ⟨z1,z2,z3⟩ : _ /\ _ /\ _:=by simpa only [Prod.mk.injEq] using size w
  obtain ⟨sT,r1,r2⟩:=Option.map_eq_some_iff.mp (run w os)
  have r3:=runT_of r1
  have r4 : topRun treeTable p w m₀ ann M ⟨boot_heap w.params,#[],boot_drawn,boot_toks,os⟩ (topStub p) = some sT.abs:=by
    rw [← tree w.params]
    exact r3
  have r:=topRun_mono (N - M) _ _ _ _ r4
  rw [show M + (N - M) = N by have:=Nat.le_of_ble_eq_true le; omega] at r
  unfold looksAt at r2
  obtain ⟨l1,l2,l3⟩ : _ /\ _ /\ _:=by simpa only [Prod.mk.injEq] using r2
  have t : topFrom treeTable p w N ⟨boot_heap w.params,#[],boot_drawn,boot_toks,os⟩ = some sT.abs:=by
    unfold topFrom
    dsimp only
    rw [z1,z2,z3,r]
    show (match staticsOk (importedModules p.main.body) (boot_heap w.params) sT.abs.heap && namesBound p sT.abs.heap && gensDone sT.abs && laidKept (boot_heap w.params) sT.abs.heap with | true=>_ | false=>_) = _
    rw [l1]
  unfold openEnds
  rw [e]
  show (topFrom treeTable p w N _).map _ = _
  rw [t]
  exact congrArg some (Prod.ext l2 l3)
end Hd
end
noncomputable section
open PySem PySem.W PySem.Calls PyProof.Rows
abbrev Mk.fS (x q : Str) (s : Stmt) (dV kV doc pm : Value) (an : Option Addr) (cd ct : Value) : FuncData:=fnOf x q (L2.defArgs s) (L2.defBody s) (L2.defScope s) dV kV doc pm an cd ct
abbrev Mk.cO (x : Str) (a : Nat) (q : Str) (b c : Nat) (d e f g h : Int) (i j l m n : Nat) (o p : Int) (r : Nat) : Obj:=⟨.type "code", none,.fields #[.str x a,.str q b,.str "/claim/cut.py" c,.int d 0,.int e 0,.int f 0,.int g 0,.int h 0,.ref i,.bool true,.int 181 0,.ref j,.none,.ref l,.ref m,.ref n,.int o 0,.int p 0,.str "/claim/cut.py" r],#[]⟩
abbrev Mk.dE (P : PySem.Params) (x : Str) (t : Nat) (v : Value) : DictEntry:=⟨PyData.keyHash P x,.str x t,v⟩
abbrev Mk.fN (x q : Str) (s : Stmt) (m : Str) (t c : Nat) : Obj:=⟨.type "function", none,.func (Mk.fS x q s .none .none .none (.str m t) none (.ref c) .none),#[]⟩
abbrev Mk.eC (x : Str) (a b c d e f : Nat) : Obj:=⟨.type "type", none,.cls ⟨x,[.ref a],[.ref b,.ref a,.type "ValueError", .type "Exception", .type "BaseException", .type "object"],c,x,true,[],[],false,none,false⟩,#[some (.ref d),none,some (.str x e),some (.str x f),some (.builtin "ValueError.__new__"),some (.bool true)]⟩
noncomputable def Mk.Kg (P : PySem.Params) : PySem.W.Frag :=
 (nat_lit 2,⟨.none,none,(.dict #[] 0),#[]⟩) ::
 (nat_lit 3,⟨(.type "dict"),none,(.dict #[Mk.dE P "__name__" 165 (.str "law_markworks_k53_whole_editions_put_togethe" 879),Mk.dE P "__doc__" 166 .none,Mk.dE P "__package__" 167 .none,Mk.dE P "__loader__" 168 (.builtin "__main__.__loader__#opaque"),Mk.dE P "__spec__" 169 .none,Mk.dE P "__annotations__" 170 (.ref 6),Mk.dE P "__builtins__" 171 (.ref 4),Mk.dE P "__file__" 173 (.str "/claim/cut.py" 172),Mk.dE P "__cached__" 174 .none,Mk.dE P "_wall" 193 (.ref 21),Mk.dE P "MarkError" 222 (.ref 39),Mk.dE P "BadRows" 247 (.ref 59),Mk.dE P "BadRule" 263 (.ref 71),Mk.dE P "BadName" 279 (.ref 83),Mk.dE P "BadNumber" 295 (.ref 95),Mk.dE P "BadRest" 320 (.ref 114),Mk.dE P "Unlike" 336 (.ref 126),Mk.dE P "BadText" 361 (.ref 145),Mk.dE P "BadPairs" 377 (.ref 157),Mk.dE P "Never" 393 (.ref 169),Mk.dE P "Unled" 418 (.ref 188),Mk.dE P "Nothing" 434 (.ref 200),Mk.dE P "GREATEST" 442 (.int 1048575 441),Mk.dE P "MOST_ROWS" 444 (.int 10 443),Mk.dE P "LONGEST_NAME" 446 (.int 6 445),Mk.dE P "RULES" 451 (.ref 203),Mk.dE P "is_whole" 458 (.ref 210),Mk.dE P "is_name" 464 (.ref 215),Mk.dE P "is_mark" 471 (.ref 222),Mk.dE P "union_of" 480 (.ref 229),Mk.dE P "is_one_of" 488 (.ref 236),Mk.dE P "mark_bits" 494 (.ref 241),Mk.dE P "next_mark" 501 (.ref 248),Mk.dE P "is_names_of" 507 (.ref 253),Mk.dE P "thing_number" 513 (.ref 258),Mk.dE P "row_number" 524 (.ref 265),Mk.dE P "numbered" 535 (.ref 272),Mk.dE P "first_names" 545 (.ref 279),Mk.dE P "Kind" 643 (.ref 356),Mk.dE P "LIMIT" 649 (.int 1099511627776 648),Mk.dE P "is_number" 656 (.ref 367),Mk.dE P "rest_of" 664 (.ref 374),Mk.dE P "Value" 738 (.ref 431),Mk.dE P "made" 748 (.ref 442),Mk.dE P "value_of" 754 (.ref 447),Mk.dE P "is_entry" 762 (.ref 452),Mk.dE P "table_of" 768 (.ref 457),Mk.dE P "Edition" 878 (.ref 537),Mk.dE P "_law_cell" 888 (.ref 548),Mk.dE P "_law_drawn" 897 (.ref 555),Mk.dE P "_law_roll" 906 (.ref 562),Mk.dE P "_law_rounds" 912 (.ref 567),Mk.dE P "_law_word" 918 (.ref 572),Mk.dE P "_law_told" 926 (.ref 579),Mk.dE P "_law_bits_of" 932 (.ref 584),Mk.dE P "_law_rule_of" 939 (.ref 591),Mk.dE P "_law_lines" 945 (.ref 596),Mk.dE P "_law_table_of" 951 (.ref 601),Mk.dE P "_law_number_in" 961 (.ref 608),Mk.dE P "_law_edition" 967 (.ref 613),Mk.dE P "_law_behind" 987 (.ref 620),Mk.dE P "law" 993 (.ref 625)] 62),#[]⟩) ::
 (nat_lit 29,⟨(.type "tuple"),none,(.seq #[(.str "" 208)] 0),#[]⟩) ::
 (nat_lit 35,Mk.cO "__init__" 209 "MarkError.__init__" 210 211 7 2 0 0 3 30 31 32 33 34 214 7 215) ::
 (nat_lit 36,⟨(.type "function"),none,(.func (Mk.fS "__init__" "MarkError.__init__" (L2.inClass (Mk.top 2) 0) (.ref 29) .none .none (.str "markworks.errors" 194) none (.ref 35) .none)),#[]⟩) ::
 (nat_lit 38,⟨(.type "dict"),none,(.dict #[Mk.dE P "__module__" 203 (.str "markworks.errors" 194),Mk.dE P "__firstlineno__" 207 (.int 5 206),Mk.dE P "__init__" 216 (.ref 36),Mk.dE P "__static_attributes__" 217 (.ref 37),Mk.dE P "__weakref__" 219 (.ref 40),Mk.dE P "__doc__" 220 .none] 3),#[]⟩) ::
 (nat_lit 39,⟨(.type "type"),none,(.cls ⟨"MarkError", [(.type "ValueError")],[(.ref 39),(.type "ValueError"),(.type "Exception"),(.type "BaseException"),(.type "object")],38, "MarkError", true,[],[(.ref 59),(.ref 71),(.ref 83),(.ref 95),(.ref 114),(.ref 126),(.ref 145),(.ref 157),(.ref 169),(.ref 188),(.ref 200)],false,none,false⟩),#[(some (.ref 22)),none,(some (.str "MarkError" 196)),(some (.str "MarkError" 204)),(some (.builtin "ValueError.__new__")),(some (.bool true))]⟩) ::
 (nat_lit 59,Mk.eC "BadRows" 39 59 58 43 223 231) ::
 (nat_lit 71,Mk.eC "BadRule" 39 71 70 62 248 256) ::
 (nat_lit 83,Mk.eC "BadName" 39 83 82 74 264 272) ::
 (nat_lit 95,Mk.eC "BadNumber" 39 95 94 86 280 288) ::
 (nat_lit 110,Mk.cO "__init__" 308 "BadRest.__init__" 309 310 22 2 0 0 3 105 106 107 108 109 313 22 314) ::
 (nat_lit 111,Mk.fN "__init__" "BadRest.__init__" (L2.inClass (Mk.top 7) 0) "markworks.errors" 194 110) ::
 (nat_lit 113,⟨(.type "dict"),none,(.dict #[Mk.dE P "__module__" 303 (.str "markworks.errors" 194),Mk.dE P "__firstlineno__" 307 (.int 20 306),Mk.dE P "__init__" 315 (.ref 111),Mk.dE P "__static_attributes__" 317 (.ref 112),Mk.dE P "__doc__" 318 .none] 2),#[]⟩) ::
 (nat_lit 114,Mk.eC "BadRest" 39 114 113 98 296 304) ::
 (nat_lit 125,⟨(.type "dict"),none,(.dict #[Mk.dE P "__module__" 328 (.str "markworks.errors" 194),Mk.dE P "__firstlineno__" 332 (.int 25 331),Mk.dE P "__static_attributes__" 333 (.ref 124),Mk.dE P "__doc__" 334 .none] 2),#[]⟩) ::
 (nat_lit 126,Mk.eC "Unlike" 39 126 125 117 321 329) ::
 (nat_lit 145,Mk.eC "BadText" 39 145 144 129 337 345) ::
 (nat_lit 157,Mk.eC "BadPairs" 39 157 156 148 362 370) ::
 (nat_lit 168,⟨(.type "dict"),none,(.dict #[Mk.dE P "__module__" 385 (.str "markworks.errors" 194),Mk.dE P "__firstlineno__" 389 (.int 34 388),Mk.dE P "__static_attributes__" 390 (.ref 167),Mk.dE P "__doc__" 391 .none] 2),#[]⟩) ::
 (nat_lit 169,Mk.eC "Never" 39 169 168 160 378 386) ::
 (nat_lit 184,Mk.cO "__init__" 406 "Unled.__init__" 407 408 38 2 0 0 3 179 180 181 182 183 411 38 412) ::
 (nat_lit 185,Mk.fN "__init__" "Unled.__init__" (L2.inClass (Mk.top 12) 0) "markworks.errors" 194 184) ::
 (nat_lit 187,⟨(.type "dict"),none,(.dict #[Mk.dE P "__module__" 401 (.str "markworks.errors" 194),Mk.dE P "__firstlineno__" 405 (.int 36 404),Mk.dE P "__init__" 413 (.ref 185),Mk.dE P "__static_attributes__" 415 (.ref 186),Mk.dE P "__doc__" 416 .none] 2),#[]⟩) ::
 (nat_lit 188,Mk.eC "Unled" 39 188 187 172 394 402) ::
 (nat_lit 200,Mk.eC "Nothing" 39 200 199 191 419 427) ::
 (nat_lit 203,⟨(.type "tuple"),none,(.seq #[(.str "bar" 447),(.str "drop" 448),(.str "keep" 449),(.str "leave" 450)] 0),#[]⟩) ::
 (nat_lit 209,Mk.cO "is_whole" 452 "is_whole" 453 454 48 1 0 0 3 204 205 206 207 208 456 48 457) ::
 (nat_lit 210,Mk.fN "is_whole" "is_whole" (Mk.top 19) "markworks.kinds" 435 209) ::
 (nat_lit 214,⟨(.type "code"),none,(.fields #[(.str "is_name" 459),(.str "is_name" 460),(.str "/claim/cut.py" 461),(.int 50 0),(.int 1 0),(.int 0 0),(.int 0 0),(.int 3 0),(.ref 211),(.bool true),(.int 181 0),(.ref 212),.none,.none,.none,(.ref 213),(.int 462 0),(.int 50 0),(.str "/claim/cut.py" 463)]),#[]⟩) ::
 (nat_lit 215,Mk.fN "is_name" "is_name" (Mk.top 20) "markworks.kinds" 435 214) ::
 (nat_lit 221,Mk.cO "is_mark" 465 "is_mark" 466 467 54 1 0 0 3 216 217 218 219 220 469 54 470) ::
 (nat_lit 222,Mk.fN "is_mark" "is_mark" (Mk.top 21) "markworks.kinds" 435 221) ::
 (nat_lit 228,Mk.cO "union_of" 472 "union_of" 473 474 56 1 0 0 3 223 224 225 226 227 478 56 479) ::
 (nat_lit 229,Mk.fN "union_of" "union_of" (Mk.top 22) "markworks.kinds" 435 228) ::
 (nat_lit 235,Mk.cO "is_one_of" 481 "is_one_of" 482 483 61 2 0 0 3 230 231 232 233 234 486 61 487) ::
 (nat_lit 236,Mk.fN "is_one_of" "is_one_of" (Mk.top 23) "markworks.kinds" 435 235) ::
 (nat_lit 240,⟨(.type "code"),none,(.fields #[(.str "mark_bits" 489),(.str "mark_bits" 490),(.str "/claim/cut.py" 491),(.int 63 0),(.int 1 0),(.int 0 0),(.int 0 0),(.int 3 0),(.ref 237),(.bool true),(.int 181 0),(.ref 238),.none,.none,.none,(.ref 239),(.int 492 0),(.int 63 0),(.str "/claim/cut.py" 493)]),#[]⟩) ::
 (nat_lit 241,Mk.fN "mark_bits" "mark_bits" (Mk.top 24) "markworks.kinds" 435 240) ::
 (nat_lit 247,Mk.cO "next_mark" 495 "next_mark" 496 497 65 1 0 0 3 242 243 244 245 246 499 65 500) ::
 (nat_lit 248,Mk.fN "next_mark" "next_mark" (Mk.top 25) "markworks.kinds" 435 247) ::
 (nat_lit 252,⟨(.type "code"),none,(.fields #[(.str "is_names_of" 502),(.str "is_names_of" 503),(.str "/claim/cut.py" 504),(.int 67 0),(.int 2 0),(.int 0 0),(.int 0 0),(.int 3 0),(.ref 249),(.bool true),(.int 181 0),(.ref 250),.none,.none,.none,(.ref 251),(.int 505 0),(.int 67 0),(.str "/claim/cut.py" 506)]),#[]⟩) ::
 (nat_lit 253,Mk.fN "is_names_of" "is_names_of" (Mk.top 26) "markworks.kinds" 435 252) ::
 (nat_lit 257,⟨(.type "code"),none,(.fields #[(.str "thing_number" 508),(.str "thing_number" 509),(.str "/claim/cut.py" 510),(.int 69 0),(.int 2 0),(.int 0 0),(.int 0 0),(.int 3 0),(.ref 254),(.bool true),(.int 181 0),(.ref 255),.none,.none,.none,(.ref 256),(.int 511 0),(.int 69 0),(.str "/claim/cut.py" 512)]),#[]⟩) ::
 (nat_lit 258,Mk.fN "thing_number" "thing_number" (Mk.top 27) "markworks.kinds" 435 257) ::
 (nat_lit 264,Mk.cO "row_number" 514 "row_number" 515 516 77 2 0 0 3 259 260 261 262 263 522 77 523) ::
 (nat_lit 265,Mk.fN "row_number" "row_number" (Mk.top 28) "markworks.kinds" 435 264) ::
 (nat_lit 271,Mk.cO "numbered" 525 "numbered" 526 527 87 1 0 0 3 266 267 268 269 270 533 87 534) ::
 (nat_lit 272,Mk.fN "numbered" "numbered" (Mk.top 29) "markworks.kinds" 435 271) ::
 (nat_lit 278,Mk.cO "first_names" 536 "first_names" 537 538 97 1 0 0 3 273 274 275 276 277 543 97 544) ::
 (nat_lit 279,Mk.fN "first_names" "first_names" (Mk.top 30) "markworks.kinds" 435 278) ::
 (nat_lit 287,⟨(.type "dict"),none,(.dict #[Mk.dE P "rest" 559 (.str "bar" 558)] 1),#[]⟩) ::
 (nat_lit 293,Mk.cO "__init__" 560 "Kind.__init__" 561 562 104 2 0 1 3 288 289 290 291 292 566 104 567) ::
 (nat_lit 294,⟨(.type "function"),none,(.func (Mk.fS "__init__" "Kind.__init__" (L2.inClass (Mk.top 31) 0) .none (.ref 287) .none (.str "markworks.kinds" 435) none (.ref 293) .none)),#[]⟩) ::
 (nat_lit 300,Mk.cO "rows" 569 "Kind.rows" 570 571 111 1 0 0 3 295 296 297 298 299 573 111 574) ::
 (nat_lit 301,Mk.fN "rows" "Kind.rows" (L2.inClass (Mk.top 31) 1) "markworks.kinds" 435 300) ::
 (nat_lit 307,Mk.cO "number" 576 "Kind.number" 577 578 114 2 0 0 3 302 303 304 305 306 581 114 582) ::
 (nat_lit 308,Mk.fN "number" "Kind.number" (L2.inClass (Mk.top 31) 2) "markworks.kinds" 435 307) ::
 (nat_lit 324,⟨(.type "code"),none,(.fields #[(.str "marks" 597),(.str "Kind.marks" 598),(.str "/claim/cut.py" 599),(.int 126 0),(.int 1 0),(.int 0 0),(.int 0 0),(.int 3 0),(.ref 321),(.bool true),(.int 181 0),(.ref 322),.none,.none,.none,(.ref 323),(.int 600 0),(.int 126 0),(.str "/claim/cut.py" 601)]),#[]⟩) ::
 (nat_lit 325,Mk.fN "marks" "Kind.marks" (L2.inClass (Mk.top 31) 5) "markworks.kinds" 435 324) ::
 (nat_lit 331,Mk.cO "known" 603 "Kind.known" 604 605 129 1 0 0 3 326 327 328 329 330 607 129 608) ::
 (nat_lit 332,Mk.fN "known" "Kind.known" (L2.inClass (Mk.top 31) 6) "markworks.kinds" 435 331) ::
 (nat_lit 338,Mk.cO "rest" 610 "Kind.rest" 611 612 132 1 0 0 3 333 334 335 336 337 614 132 615) ::
 (nat_lit 339,Mk.fN "rest" "Kind.rest" (L2.inClass (Mk.top 31) 7) "markworks.kinds" 435 338) ::
 (nat_lit 345,Mk.cO "__eq__" 617 "Kind.__eq__" 618 619 135 2 0 0 3 340 341 342 343 344 622 135 623) ::
 (nat_lit 346,Mk.fN "__eq__" "Kind.__eq__" (L2.inClass (Mk.top 31) 8) "markworks.kinds" 435 345) ::
 (nat_lit 355,⟨(.type "dict"),none,(.dict #[Mk.dE P "__module__" 553 (.str "markworks.kinds" 435),Mk.dE P "__firstlineno__" 557 (.int 102 556),Mk.dE P "__init__" 568 (.ref 294),Mk.dE P "rows" 575 (.ref 301),Mk.dE P "number" 583 (.ref 308),Mk.dE P "names" 590 (.ref 315),Mk.dE P "aliases" 596 (.ref 320),Mk.dE P "marks" 602 (.ref 325),Mk.dE P "known" 609 (.ref 332),Mk.dE P "rest" 616 (.ref 339),Mk.dE P "__eq__" 624 (.ref 346),Mk.dE P "__len__" 631 (.ref 353),Mk.dE P "__static_attributes__" 635 (.ref 354),Mk.dE P "__dict__" 637 (.ref 357),Mk.dE P "__weakref__" 639 (.ref 358),Mk.dE P "__doc__" 640 .none,Mk.dE P "__hash__" 641 .none] 5),#[]⟩) ::
 (nat_lit 356,⟨(.type "type"),none,(.cls ⟨"Kind", [(.type "object")],[(.ref 356),(.type "object")],355, "Kind", true,[],[],false,none,false⟩),#[none,none,(some (.str "Kind" 546)),(some (.str "Kind" 554)),(some (.builtin "object.__new__")),(some (.bool true))]⟩) ::
 (nat_lit 366,Mk.cO "is_number" 650 "is_number" 651 652 142 1 0 0 3 361 362 363 364 365 654 142 655) ::
 (nat_lit 367,Mk.fN "is_number" "is_number" (Mk.top 34) "markworks.values" 644 366) ::
 (nat_lit 373,Mk.cO "rest_of" 657 "rest_of" 658 659 144 2 0 0 3 368 369 370 371 372 662 144 663) ::
 (nat_lit 374,Mk.fN "rest_of" "rest_of" (Mk.top 35) "markworks.values" 644 373) ::
 (nat_lit 387,Mk.cO "__init__" 677 "Value.__init__" 678 679 148 3 0 0 3 382 383 384 385 386 683 148 684) ::
 (nat_lit 388,Mk.fN "__init__" "Value.__init__" (L2.inClass (Mk.top 36) 0) "markworks.values" 644 387) ::
 (nat_lit 394,Mk.cO "number" 686 "Value.number" 687 688 156 1 0 0 3 389 390 391 392 393 690 156 691) ::
 (nat_lit 395,Mk.fN "number" "Value.number" (L2.inClass (Mk.top 36) 1) "markworks.values" 644 394) ::
 (nat_lit 401,Mk.cO "kind" 693 "Value.kind" 694 695 159 1 0 0 3 396 397 398 399 400 697 159 698) ::
 (nat_lit 402,Mk.fN "kind" "Value.kind" (L2.inClass (Mk.top 36) 2) "markworks.values" 644 401) ::
 (nat_lit 406,⟨(.type "code"),none,(.fields #[(.str "marks" 700),(.str "Value.marks" 701),(.str "/claim/cut.py" 702),(.int 162 0),(.int 1 0),(.int 0 0),(.int 0 0),(.int 3 0),(.ref 403),(.bool true),(.int 181 0),(.ref 404),.none,.none,.none,(.ref 405),(.int 703 0),(.int 162 0),(.str "/claim/cut.py" 704)]),#[]⟩) ::
 (nat_lit 407,Mk.fN "marks" "Value.marks" (L2.inClass (Mk.top 36) 3) "markworks.values" 644 406) ::
 (nat_lit 413,Mk.cO "rest" 706 "Value.rest" 707 708 165 1 0 0 3 408 409 410 411 412 710 165 711) ::
 (nat_lit 414,Mk.fN "rest" "Value.rest" (L2.inClass (Mk.top 36) 4) "markworks.values" 644 413) ::
 (nat_lit 420,Mk.cO "__eq__" 713 "Value.__eq__" 714 715 168 2 0 0 3 415 416 417 418 419 718 168 719) ::
 (nat_lit 421,Mk.fN "__eq__" "Value.__eq__" (L2.inClass (Mk.top 36) 5) "markworks.values" 644 420) ::
 (nat_lit 430,⟨(.type "dict"),none,(.dict #[Mk.dE P "__module__" 672 (.str "markworks.values" 644),Mk.dE P "__firstlineno__" 676 (.int 146 675),Mk.dE P "__init__" 685 (.ref 388),Mk.dE P "number" 692 (.ref 395),Mk.dE P "kind" 699 (.ref 402),Mk.dE P "marks" 705 (.ref 407),Mk.dE P "rest" 712 (.ref 414),Mk.dE P "__eq__" 720 (.ref 421),Mk.dE P "__len__" 727 (.ref 428),Mk.dE P "__static_attributes__" 730 (.ref 429),Mk.dE P "__dict__" 732 (.ref 432),Mk.dE P "__weakref__" 734 (.ref 433),Mk.dE P "__doc__" 735 .none,Mk.dE P "__hash__" 736 .none] 5),#[]⟩) ::
 (nat_lit 431,⟨(.type "type"),none,(.cls ⟨"Value", [(.type "object")],[(.ref 431),(.type "object")],430, "Value", true,[],[],false,none,false⟩),#[none,none,(some (.str "Value" 665)),(some (.str "Value" 673)),(some (.builtin "object.__new__")),(some (.bool true))]⟩) ::
 (nat_lit 441,Mk.cO "made" 739 "made" 740 741 173 2 0 0 3 436 437 438 439 440 746 173 747) ::
 (nat_lit 442,Mk.fN "made" "made" (Mk.top 37) "markworks.values" 644 441) ::
 (nat_lit 446,⟨(.type "code"),none,(.fields #[(.str "value_of" 749),(.str "value_of" 750),(.str "/claim/cut.py" 751),(.int 185 0),(.int 2 0),(.int 0 0),(.int 0 0),(.int 3 0),(.ref 443),(.bool true),(.int 181 0),(.ref 444),.none,.none,.none,(.ref 445),(.int 752 0),(.int 185 0),(.str "/claim/cut.py" 753)]),#[]⟩) ::
 (nat_lit 447,Mk.fN "value_of" "value_of" (Mk.top 38) "markworks.values" 644 446) ::
 (nat_lit 451,⟨(.type "code"),none,(.fields #[(.str "is_entry" 757),(.str "is_entry" 758),(.str "/claim/cut.py" 759),(.int 190 0),(.int 3 0),(.int 0 0),(.int 0 0),(.int 3 0),(.ref 448),(.bool true),(.int 181 0),(.ref 449),.none,.none,.none,(.ref 450),(.int 760 0),(.int 190 0),(.str "/claim/cut.py" 761)]),#[]⟩) ::
 (nat_lit 452,Mk.fN "is_entry" "is_entry" (Mk.top 40) "markworks.editions" 755 451) ::
 (nat_lit 456,⟨(.type "code"),none,(.fields #[(.str "table_of" 763),(.str "table_of" 764),(.str "/claim/cut.py" 765),(.int 194 0),(.int 3 0),(.int 0 0),(.int 0 0),(.int 3 0),(.ref 453),(.bool true),(.int 181 0),(.ref 454),.none,.none,.none,(.ref 455),(.int 766 0),(.int 194 0),(.str "/claim/cut.py" 767)]),#[]⟩) ::
 (nat_lit 457,Mk.fN "table_of" "table_of" (Mk.top 41) "markworks.editions" 755 456) ::
 (nat_lit 470,Mk.cO "__init__" 781 "Edition.__init__" 782 783 205 4 0 0 3 465 466 467 468 469 788 205 789) ::
 (nat_lit 471,Mk.fN "__init__" "Edition.__init__" (L2.inClass (Mk.top 42) 0) "markworks.editions" 755 470) ::
 (nat_lit 477,Mk.cO "kind" 791 "Edition.kind" 792 793 210 1 0 0 3 472 473 474 475 476 795 210 796) ::
 (nat_lit 478,Mk.fN "kind" "Edition.kind" (L2.inClass (Mk.top 42) 1) "markworks.editions" 755 477) ::
 (nat_lit 484,Mk.cO "other" 798 "Edition.other" 799 800 213 1 0 0 3 479 480 481 482 483 802 213 803) ::
 (nat_lit 485,Mk.fN "other" "Edition.other" (L2.inClass (Mk.top 42) 2) "markworks.editions" 755 484) ::
 (nat_lit 491,Mk.cO "names_for" 805 "Edition.names_for" 806 807 216 2 0 0 3 486 487 488 489 490 812 216 813) ::
 (nat_lit 492,Mk.fN "names_for" "Edition.names_for" (L2.inClass (Mk.top 42) 3) "markworks.editions" 755 491) ::
 (nat_lit 498,Mk.cO "led" 815 "Edition.led" 816 817 224 2 0 0 3 493 494 495 496 497 821 224 822) ::
 (nat_lit 499,Mk.fN "led" "Edition.led" (L2.inClass (Mk.top 42) 4) "markworks.editions" 755 498) ::
 (nat_lit 526,Mk.cO "pairs" 849 "Edition.pairs" 850 851 239 1 0 0 3 521 522 523 524 525 853 239 854) ::
 (nat_lit 527,Mk.fN "pairs" "Edition.pairs" (L2.inClass (Mk.top 42) 8) "markworks.editions" 755 526) ::
 (nat_lit 533,Mk.cO "behind" 856 "Edition.behind" 857 858 242 2 0 0 3 528 529 530 531 532 865 242 866) ::
 (nat_lit 534,Mk.fN "behind" "Edition.behind" (L2.inClass (Mk.top 42) 9) "markworks.editions" 755 533) ::
 (nat_lit 536,⟨(.type "dict"),none,(.dict #[Mk.dE P "__module__" 776 (.str "markworks.editions" 755),Mk.dE P "__firstlineno__" 780 (.int 203 779),Mk.dE P "__init__" 790 (.ref 471),Mk.dE P "kind" 797 (.ref 478),Mk.dE P "other" 804 (.ref 485),Mk.dE P "names_for" 814 (.ref 492),Mk.dE P "led" 823 (.ref 499),Mk.dE P "is_led_to_let" 832 (.ref 506),Mk.dE P "first_unled" 841 (.ref 513),Mk.dE P "first_mixed" 848 (.ref 520),Mk.dE P "pairs" 855 (.ref 527),Mk.dE P "behind" 867 (.ref 534),Mk.dE P "__static_attributes__" 871 (.ref 535),Mk.dE P "__dict__" 873 (.ref 538),Mk.dE P "__weakref__" 875 (.ref 539),Mk.dE P "__doc__" 876 .none] 4),#[]⟩) ::
 (nat_lit 537,⟨(.type "type"),none,(.cls ⟨"Edition", [(.type "object")],[(.ref 537),(.type "object")],536, "Edition", true,[],[],false,none,false⟩),#[none,none,(some (.str "Edition" 769)),(some (.str "Edition" 777)),(some (.builtin "object.__new__")),(some (.bool true))]⟩) ::
 (nat_lit 547,Mk.cO "_law_cell" 881 "_law_cell" 882 883 253 2 0 0 3 542 543 544 545 546 886 253 887) ::
 (nat_lit 548,Mk.fN "_law_cell" "_law_cell" (Mk.top 44) "law_markworks_k53_whole_editions_put_togethe" 879 547) ::
 (nat_lit 554,Mk.cO "_law_drawn" 889 "_law_drawn" 890 891 257 2 0 0 3 549 550 551 552 553 895 257 896) ::
 (nat_lit 555,Mk.fN "_law_drawn" "_law_drawn" (Mk.top 45) "law_markworks_k53_whole_editions_put_togethe" 879 554) ::
 (nat_lit 561,Mk.cO "_law_roll" 898 "_law_roll" 899 900 262 2 0 0 3 556 557 558 559 560 904 262 905) ::
 (nat_lit 562,Mk.fN "_law_roll" "_law_roll" (Mk.top 46) "law_markworks_k53_whole_editions_put_togethe" 879 561) ::
 (nat_lit 566,⟨(.type "code"),none,(.fields #[(.str "_law_rounds" 907),(.str "_law_rounds" 908),(.str "/claim/cut.py" 909),(.int 269 0),(.int 2 0),(.int 0 0),(.int 0 0),(.int 3 0),(.ref 563),(.bool true),(.int 181 0),(.ref 564),.none,.none,.none,(.ref 565),(.int 910 0),(.int 269 0),(.str "/claim/cut.py" 911)]),#[]⟩) ::
 (nat_lit 567,Mk.fN "_law_rounds" "_law_rounds" (Mk.top 47) "law_markworks_k53_whole_editions_put_togethe" 879 566) ::
 (nat_lit 571,⟨(.type "code"),none,(.fields #[(.str "_law_word" 913),(.str "_law_word" 914),(.str "/claim/cut.py" 915),(.int 271 0),(.int 1 0),(.int 0 0),(.int 0 0),(.int 3 0),(.ref 568),(.bool true),(.int 181 0),(.ref 569),.none,.none,.none,(.ref 570),(.int 916 0),(.int 271 0),(.str "/claim/cut.py" 917)]),#[]⟩) ::
 (nat_lit 572,Mk.fN "_law_word" "_law_word" (Mk.top 48) "law_markworks_k53_whole_editions_put_togethe" 879 571) ::
 (nat_lit 578,Mk.cO "_law_told" 919 "_law_told" 920 921 281 1 0 0 3 573 574 575 576 577 924 281 925) ::
 (nat_lit 579,Mk.fN "_law_told" "_law_told" (Mk.top 49) "law_markworks_k53_whole_editions_put_togethe" 879 578) ::
 (nat_lit 583,⟨(.type "code"),none,(.fields #[(.str "_law_bits_of" 927),(.str "_law_bits_of" 928),(.str "/claim/cut.py" 929),(.int 294 0),(.int 1 0),(.int 0 0),(.int 0 0),(.int 3 0),(.ref 580),(.bool true),(.int 181 0),(.ref 581),.none,.none,.none,(.ref 582),(.int 930 0),(.int 294 0),(.str "/claim/cut.py" 931)]),#[]⟩) ::
 (nat_lit 584,Mk.fN "_law_bits_of" "_law_bits_of" (Mk.top 50) "law_markworks_k53_whole_editions_put_togethe" 879 583) ::
 (nat_lit 590,Mk.cO "_law_rule_of" 933 "_law_rule_of" 934 935 296 1 0 0 3 585 586 587 588 589 937 296 938) ::
 (nat_lit 591,Mk.fN "_law_rule_of" "_law_rule_of" (Mk.top 51) "law_markworks_k53_whole_editions_put_togethe" 879 590) ::
 (nat_lit 595,⟨(.type "code"),none,(.fields #[(.str "_law_lines" 940),(.str "_law_lines" 941),(.str "/claim/cut.py" 942),(.int 298 0),(.int 2 0),(.int 0 0),(.int 0 0),(.int 3 0),(.ref 592),(.bool true),(.int 181 0),(.ref 593),.none,.none,.none,(.ref 594),(.int 943 0),(.int 298 0),(.str "/claim/cut.py" 944)]),#[]⟩) ::
 (nat_lit 596,Mk.fN "_law_lines" "_law_lines" (Mk.top 52) "law_markworks_k53_whole_editions_put_togethe" 879 595) ::
 (nat_lit 600,⟨(.type "code"),none,(.fields #[(.str "_law_table_of" 946),(.str "_law_table_of" 947),(.str "/claim/cut.py" 948),(.int 317 0),(.int 1 0),(.int 0 0),(.int 0 0),(.int 3 0),(.ref 597),(.bool true),(.int 181 0),(.ref 598),.none,.none,.none,(.ref 599),(.int 949 0),(.int 317 0),(.str "/claim/cut.py" 950)]),#[]⟩) ::
 (nat_lit 601,Mk.fN "_law_table_of" "_law_table_of" (Mk.top 53) "law_markworks_k53_whole_editions_put_togethe" 879 600) ::
 (nat_lit 607,Mk.cO "_law_number_in" 952 "_law_number_in" 953 954 325 3 0 0 3 602 603 604 605 606 959 325 960) ::
 (nat_lit 608,Mk.fN "_law_number_in" "_law_number_in" (Mk.top 54) "law_markworks_k53_whole_editions_put_togethe" 879 607) ::
 (nat_lit 612,⟨(.type "code"),none,(.fields #[(.str "_law_edition" 962),(.str "_law_edition" 963),(.str "/claim/cut.py" 964),(.int 330 0),(.int 2 0),(.int 0 0),(.int 0 0),(.int 3 0),(.ref 609),(.bool true),(.int 181 0),(.ref 610),.none,.none,.none,(.ref 611),(.int 965 0),(.int 330 0),(.str "/claim/cut.py" 966)]),#[]⟩) ::
 (nat_lit 613,Mk.fN "_law_edition" "_law_edition" (Mk.top 55) "law_markworks_k53_whole_editions_put_togethe" 879 612) ::
 (nat_lit 619,Mk.cO "_law_behind" 968 "_law_behind" 969 970 340 4 0 0 3 614 615 616 617 618 985 340 986) ::
 (nat_lit 620,Mk.fN "_law_behind" "_law_behind" (Mk.top 56) "law_markworks_k53_whole_editions_put_togethe" 879 619) ::
 (nat_lit 624,⟨(.type "code"),none,(.fields #[(.str "law" 988),(.str "law" 989),(.str "/claim/cut.py" 990),(.int 359 0),(.int 1 0),(.int 0 0),(.int 0 0),(.int 3 0),(.ref 621),(.bool true),(.int 181 0),(.ref 622),.none,.none,.none,(.ref 623),(.int 991 0),(.int 359 0),(.str "/claim/cut.py" 992)]),#[]⟩) ::
 (nat_lit 625,Mk.fN "law" "law" (Mk.top 57) "law_markworks_k53_whole_editions_put_togethe" 879 624) ::
 []
noncomputable def Mk.Kf (P : PySem.Params) : PySem.W.Frag:=(nat_lit 622,⟨.none,none,(.fields #[]),#[]⟩) :: Mk.Kg P
noncomputable def Mk.Kas : List Nat:=622 :: 2 :: 3 :: 29 :: 35 :: 36 :: 38 :: 39 :: 59 :: 71 :: 83 :: 95 :: 110 :: 111 :: 113 :: 114 :: 125 :: 126 :: 145 :: 157 :: 168 :: 169 :: 184 :: 185 :: 187 :: 188 :: 200 :: 203 :: 209 :: 210 :: 214 :: 215 :: 221 :: 222 :: 228 :: 229 :: 235 :: 236 :: 240 :: 241 :: 247 :: 248 :: 252 :: 253 :: 257 :: 258 :: 264 :: 265 :: 271 :: 272 :: 278 :: 279 :: 287 :: 293 :: 294 :: 300 :: 301 :: 307 :: 308 :: 324 :: 325 :: 331 :: 332 :: 338 :: 339 :: 345 :: 346 :: 355 :: 356 :: 366 :: 367 :: 373 :: 374 :: 387 :: 388 :: 394 :: 395 :: 401 :: 402 :: 406 :: 407 :: 413 :: 414 :: 420 :: 421 :: 430 :: 431 :: 441 :: 442 :: 446 :: 447 :: 451 :: 452 :: 456 :: 457 :: 470 :: 471 :: 477 :: 478 :: 484 :: 485 :: 491 :: 492 :: 498 :: 499 :: 526 :: 527 :: 533 :: 534 :: 536 :: 537 :: 547 :: 548 :: 554 :: 555 :: 561 :: 562 :: 566 :: 567 :: 571 :: 572 :: 578 :: 579 :: 583 :: 584 :: 590 :: 591 :: 595 :: 596 :: 600 :: 601 :: 607 :: 608 :: 612 :: 613 :: 619 :: 620 :: 624 :: 625 :: []
noncomputable def Mk.loose : List PySem.Str:=Str.ofString "_wall" :: Str.ofString "MarkError" :: Str.ofString "BadRows" :: Str.ofString "BadRule" :: Str.ofString "BadName" :: Str.ofString "BadNumber" :: Str.ofString "BadRest" :: Str.ofString "Unlike" :: Str.ofString "BadText" :: Str.ofString "BadPairs" :: Str.ofString "Never" :: Str.ofString "Unled" :: Str.ofString "Nothing" :: Str.ofString "GREATEST" :: Str.ofString "MOST_ROWS" :: Str.ofString "LONGEST_NAME" :: Str.ofString "RULES" :: Str.ofString "is_whole" :: Str.ofString "is_name" :: Str.ofString "is_mark" :: Str.ofString "union_of" :: Str.ofString "is_one_of" :: Str.ofString "mark_bits" :: Str.ofString "next_mark" :: Str.ofString "is_names_of" :: Str.ofString "thing_number" :: Str.ofString "row_number" :: Str.ofString "numbered" :: Str.ofString "first_names" :: Str.ofString "Kind" :: Str.ofString "LIMIT" :: Str.ofString "is_number" :: Str.ofString "rest_of" :: Str.ofString "Value" :: Str.ofString "made" :: Str.ofString "value_of" :: Str.ofString "is_entry" :: Str.ofString "table_of" :: Str.ofString "Edition" :: Str.ofString "_law_cell" :: Str.ofString "_law_drawn" :: Str.ofString "_law_roll" :: Str.ofString "_law_rounds" :: Str.ofString "_law_word" :: Str.ofString "_law_told" :: Str.ofString "_law_bits_of" :: Str.ofString "_law_rule_of" :: Str.ofString "_law_lines" :: Str.ofString "_law_table_of" :: Str.ofString "_law_number_in" :: Str.ofString "_law_edition" :: Str.ofString "_law_behind" :: []
def Mk.T0 (P : Params) : BT:=.node (boot_o_0 P)
  (.node (boot_o_1 P) (.node (boot_o_3 P) (.node (boot_o_7 P) .nil .nil) .nil) (.node (boot_o_5 P) (.node (boot_o_9 P) .nil .nil) .nil))
  (.node (boot_o_2 P) (.node (boot_o_4 P) (.node (boot_o_8 P) .nil .nil) .nil) (.node (boot_o_6 P) (.node (boot_o_10 P) .nil .nil) .nil))
theorem Mk.tree (P : Params) : absHeap (Mk.T0 P) (nat_lit 11) {} = boot_heap P:=by kernel_rfl
theorem Mk.size (w : World) : ((boot_heap w.params).isNs mainGlobals,(boot_heap w.params).objs.size,(boot_heap w.params).nsMap mainGlobals "__annotations__") = (true,(nat_lit 11),some (.ref (nat_lit 6))):=by kernel_rfl
theorem Mk.opens (w : World) : (fencedOpening treeTable PySem.Challenge.pw_markworks_k53_whole_editions_put_togethe w (nat_lit 10532)).map (fun s=>(s.heap,s.gens,s.drawn,s.toks)) = some (boot_heap w.params,#[],boot_drawn,boot_toks):=boot_open (by kernel_rfl) (by decide) (fun s=>by kernel_rfl) w
theorem Mk.twin : Function.const _ true (@Hd.runT,@Hd.looksAt,PySem.Challenge.pw_markworks_k53_whole_editions_put_togethe,Mk.Kf,Mk.loose) = true:=by k_qdec
abbrev Mk.qv : Program := view PySem.Challenge.pw_markworks_k53_whole_editions_put_togethe [nat_lit 57]
abbrev Mk.Xt (s : Shared) : Bool := xlAt Mk.qv [] s && recOk [] s
theorem Mk.run_q (w : World) (os : OsState) : (Option.map (fun s => Fast.tw8257016192812374322 Fast.tw11885953956979422377 (view Fast.tw11885953956979422377 [nat_lit 57]) Fast.tw2924075613660010442 (fun s => xlAt (view Fast.tw11885953956979422377 [nat_lit 57]) [] s && recOk [] s) Mk.Kas (boot_heap w.params) s.abs)
      (Fast.tw16599536794577742827 Fast.tw14364793385576792824 Fast.tw11885953956979422377 w (nat_lit 11) (some (Value.ref (nat_lit 6))) (nat_lit 5218) ⟨Mk.T0 w.params,nat_lit 11,{},#[],boot_drawn,boot_toks,os⟩ (topStub Fast.tw11885953956979422377))) =
    some (true,openGood (view Fast.tw11885953956979422377 [nat_lit 57]) Fast.tw2924075613660010442,(Fast.tw12104304683883722232 w.params).map fun x=>some x.2):=by kernel_rfl
theorem Mk.left : LeftO PySem.Challenge.pw_markworks_k53_whole_editions_put_togethe Mk.qv Mk.loose Mk.Xt (fun s=>Mk.Kas.map s.heap.get?) (fun w=>(Mk.Kf w.params).map fun x=>some x.2) (nat_lit 10532):=by
  refine Hd.left_of (M:=nat_lit 5218) (T0:=Mk.T0) Mk.opens Mk.tree Mk.size (by decide) fun w os=>?_
  have h:=Mk.run_q w os
  rw [← Fast.te8257016192812374322,← Fast.te11885953956979422377,← Fast.te2924075613660010442,← Fast.te16599536794577742827,← Fast.te14364793385576792824,← Fast.te12104304683883722232] at h
  exact h
theorem Mk.kg_in {P : Params} {h : Heap} (X : (Mk.Kf P).In h) : (Mk.Kg P).In h /\ h.get? 622 = some (tabObj #[]):=by
  have e : (Mk.Kg P).lookup 622 = none:=by kernel_rfl
  refine ⟨fun b o z=>X b o ?_,X _ _ (by unfold Mk.Kf; rw [List.lookup_cons]; rfl)⟩
  unfold Mk.Kf
  rw [List.lookup_cons]
  have nb : (b == 622) = false:=by
    cases q : (b == 622) with
    | false=>rfl
    | true=>rw [beq_iff_eq.mp q,e] at z; cases z
  rw [nb]
  exact z
def Mk.dL : DefRec:=⟨"law", L2.defArgs (Mk.top (nat_lit 57)),L2.defBody (Mk.top (nat_lit 57)),L2.defScope (Mk.top (nat_lit 57)),match Mk.top (nat_lit 57) with | .FunctionDef _ _ _ _ _ _ _ _ _ p=>p | _=>⟨0,0,0,0⟩⟩
end
open PySem PySem.W PyProof.Rows
set_option maxRecDepth 100000 in
set_option maxHeartbeats 0 in
theorem PySem.Challenge.cw_markworks_k53_whole_editions_put_togethe_holds : PySem.Challenge.rw_markworks_k53_whole_editions_put_togethe.Holds := by
  w_on; o_law
  refine PySem.W.holds_open (r:=PySem.Challenge.rw_markworks_k53_whole_editions_put_togethe.row) (q:=Mk.qv) (loose:=Mk.loose) (Xt:=Mk.Xt) (XP:=XL Mk.qv []) (YP:=InK Mk.Kf) (d:=Mk.dL) (kwd:=[]) Mk.left
    (fun w s e=>InK.of (fun P=>by kernel_rfl) w s e) InK.keeps (fun s e=>xl_of s (Bool.and_eq_true_iff.mp e).1) XL.keeps (by kernel_rfl) (by kernel_rfl) (by kernel_rfl) (fun s e=>recFacts_of (Bool.and_eq_true_iff.mp e).2) (by rfl) (by assumption) (by decide +kernel) ⟨rfl,rfl,rfl,rfl,rfl,by decide +kernel⟩ ?hw ?hc
  case hw=>w_witness2
  have aux : Function.const _ True (PySem.Challenge.rw_markworks_k53_whole_editions_put_togethe,Mk.Kg):=by k_fill; trivial
  refine Mk.walk (l:=PySem.Challenge.rw_markworks_k53_whole_editions_put_togethe) (c:=624) (P0:=622) (K:=Mk.Kg) rfl rfl (fun w h Y=>⟨(Mk.kg_in Y).1,(Mk.kg_in Y).2,by kernel_rfl,Mk.codeHd_of (Mk.kg_in Y).1 (by kernel_rfl)⟩) ?F
  case F =>
    intro w mg fa h KX G hmg
    refine' Mk.all_mk KX G hmg ?aC ?aVC ?aEC ?aM ?aX0 ?aX1 ?aX2 ?aX3 ?aX4 ?aX5 ?aX6 ?aX7 ?aX8 ?aX9 ?aX10 ?z_VE ?hwh ?hnm ?huo ?hnx ?hoo ?hno ?hth ?hro ?hnb ?hfi ?him ?hmR ?hmK ?hmT ?hmM ?hmE ?hlc ?hld ?hlr ?hls ?hll ?hxn ?hxr ?hxi ?hxN ?hxK ?hxE ?hmN ?hmb ?hlb ?hlu ?hlt ?hxM ?hxR ?hvo ?heE ?heT ?hek ?heo ?hep ?hli ?hlB ?heI ?heN ?heL ?heB ?hmd ?hri ?hui ?hle ?hlw ?hlo ?ain ?iin ?lin ?cin ?kin ?ala ?lla ?cla ?kla ?aei ?iei ?lei ?cei ?kei ?kdl ?kde ?kdr ?dtl ?vG ?vM ?vL ?vLi ?vR ?qn ?qt ?fC ?fVC ?fEC ?nC_numbers ?nC_firsts ?nC_rule ?nVC_own_kind ?nVC_bits ?nEC_own_kind ?nEC_second_kind ?nEC_table ?xm ?xc0 ?xc1 ?xc2 ?xc3 ?y7 ?y9 ?y1 ?y3 ?xmg ?xmr ?xmf ?rL ?z_len ?z_isinstance ?z_max ?z_min ?z_range ?z_list ?z_tuple ?z_sorted ?z_sum ?z_all ?z_enumerate ?z_int ?z_bool ?z_str ?z_dict ?hEt
    case aC | aVC | aEC | aM | aX0 | aX1 | aX2 | aX3 | aX4 | aX5 | aX6 | aX7 | aX8 | aX9 | aX10 | z_VE=>k_is
    case hwh | hnm | huo | hnx | hoo | hno | hth | hro | hnb | hfi | him =>
      refine' ⟨_,_,?a,L2.fun_mk ?b ?c ?d⟩
      case a | b | c | d=>k_is
    case hmR | hmK | hmT | hmM | hmE =>
      refine' ⟨_,_,?a,?i,⟨_,?o,?q⟩,L2.fun_mk ?b ?c ?d⟩
      case a | i | b=>k_is
      case o | q=>first | rfl | k_is
      case c | d=>k_is
    case hlc | hld | hlr | hls | hll | hxn | hxr =>
      refine' ⟨_,_,?a,L2.fun_mk ?b ?c ?d⟩
      case a | b | c | d=>k_is
    case hxi | hxN | hxK | hxE | hmN =>
      refine' ⟨_,_,?a,?i,⟨_,?o,?q⟩,L2.fun_mk ?b ?c ?d⟩
      case a | i | b=>k_is
      case o | q=>first | rfl | k_is
      case c | d=>k_is
    case hmb | hlb | hlu | hlt =>
      refine' ⟨_,_,?a,L2.fun_mk ?b ?c ?d⟩
      case a | b | c | d=>k_is
    case hxM | hxR =>
      refine' ⟨_,_,?a,?i,⟨_,?o,?q⟩,L2.fun_mk ?b ?c ?d⟩
      case a | i | b=>k_is
      case o | q=>first | rfl | k_is
      case c | d=>k_is
    case hvo | heE | heT =>
      refine' ⟨_,_,?a,L2.fun_mk ?b ?c ?d⟩
      case a | b | c | d=>k_is
    case hek | heo | hep =>
      refine' ⟨_,_,?a,?i,⟨_,?o,?q⟩,L2.fun_mk ?b ?c ?d⟩
      case a | i | b=>k_is
      case o | q=>first | rfl | k_is
      case c | d=>k_is
    case hli | hlB =>
      refine' ⟨_,_,?a,L2.fun_mk ?b ?c ?d⟩
      case a | b | c | d=>k_is
    case heI | heN | heL | heB =>
      refine' ⟨_,_,?a,?i,⟨_,?o,?q⟩,L2.fun_mk ?b ?c ?d⟩
      case a | i | b=>k_is
      case o | q=>first | rfl | k_is
      case c | d=>k_is
    case hmd =>
      refine' ⟨_,_,?a,L2.fun_mk ?b ?c ?d⟩
      case a | b | c | d=>k_is
    case hri | hui =>
      refine' ⟨_,_,?a,?i,⟨_,?o,?q⟩,L2.fun_mk ?b ?c ?d⟩
      case a | i | b=>k_is
      case o | q=>first | rfl | k_is
      case c | d=>k_is
    case hle | hlw | hlo =>
      refine' ⟨_,_,?a,L2.fun_mk ?b ?c ?d⟩
      case a | b | c | d=>k_is
    case ain | iin | lin | cin | kin | ala | lla | cla | kla | aei | iei | lei | cei | kei | kdl=>k_is
    case kde=>simp
    case kdr | dtl | vG | vM | vL | vLi | vR | qn | qt=>k_is
    case fC | fVC | fEC =>
      refine' ⟨?_,?_,?_,?_,?_,?_,?_,?_,?_,?_,?_,?_,?_,?_⟩ <;> k_is
    case nC_numbers | nC_firsts | nC_rule | nVC_own_kind | nVC_bits | nEC_own_kind | nEC_second_kind | nEC_table=>k_is
    case xm | xc0 | xc1 | xc2 | xc3=>kernel_rfl
    case y7 | y9 =>
      exact ⟨⟨by kernel_rfl,by kernel_rfl,by kernel_rfl,by kernel_rfl,by kernel_rfl,by kernel_rfl,by kernel_rfl,by kernel_rfl,by kernel_rfl,by kernel_rfl⟩,by kernel_rfl,by kernel_rfl,by kernel_rfl⟩
    case y1 | y3 =>
      exact ⟨⟨by kernel_rfl,by kernel_rfl,by kernel_rfl,by kernel_rfl,by kernel_rfl,by kernel_rfl,by kernel_rfl,by kernel_rfl,by kernel_rfl,by kernel_rfl⟩,by kernel_rfl,by kernel_rfl,by kernel_rfl,by kernel_rfl,by kernel_rfl,by kernel_rfl⟩
    case xmg | xmr | xmf=>kernel_rfl
    case rL | z_len | z_isinstance | z_max | z_min | z_range | z_list | z_tuple | z_sorted | z_sum | z_all | z_enumerate | z_int | z_bool | z_str | z_dict=>k_is
    case hEt=>kernel_rfl
