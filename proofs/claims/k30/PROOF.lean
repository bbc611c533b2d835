import PyProof.Rows.All
import Wide.All
import OpenK.AllK
import Wide.FinOn
import PyProof.EqAt
import PyProof.EqKinds
import PyProof.TupleCall
import Lean
import PyProof.Rows.BitMore
import PyProof.ExcBaseAll.ValueError
import PyProof.ExcArgsOwn
import KE.KLam
import PyProof.InstStoreFacts
import PyProof.FString
import PyProof.FString2
import PyProof.Rows.FStr
import PyProof.FitsInt
import PyProof.ZipIter
import PyProof.Rows.ZipGen
import PyProof.AttrMissHeap
import KE.KDictOf
import PyProof.DictCompW
import PyProof.DictWalks
import PyProof.AutoSeq1
import PyProof.Rows.SeqMore
import PyProof.SliceStr
import PyProof.StrBlockI
import PyProof.StrCalls2
import KE.KIntText
import PySem.Challenge.RW_markworks_k30_whole_texts
set_option Elab.async false
set_option linter.all false
set_option maxRecDepth 100000
set_option maxHeartbeats 4000000
abbrev LN:=List (PySem.Str × Nat)
abbrev VS:=PySem.Value->PySem.Shared->Prop
abbrev LO:=List (PySem.Addr × PySem.Obj)
abbrev SV:=PySem.Str->Option PySem.Value
open PySem in
abbrev FG:=W.Frag
open List (all_append all_cons all_map any_cons any_eq_true any_map append_nil cons_lt_cons_iff filter_cons find?_cons foldl_append foldl_cons getD_eq_getElem?_getD getElem?_map length_append length_cons length_filter_le length_map length_nil length_replicate length_singleton length_take lookup_cons map_append map_cons map_id map_map map_nil map_replicate mem_append mem_append_left mem_append_right mem_cons mem_cons_of_mem mem_cons_self mem_filter mem_map mem_of_getElem? mem_of_mem_take mem_range mem_singleton nodup_cons nodup_nil not_mem_nil of_mem_zip replicate size_toArray sum_append sum_cons take_add_one take_length take_of_length_le)
open PySem.Heap (get?_push_of_some get?_push_size get?_update_other lt_size size_push)
section
namespace L2
open PySem
theorem sl1:1 <= sizeLine:=by decide
theorem sl2:2 <= sizeLine:=by decide
theorem sl3:3 <= sizeLine:=by decide
theorem sl4:4 <= sizeLine:=by decide
theorem sl6:6 <= sizeLine:=by decide
theorem sl7:7 <= sizeLine:=by decide
theorem sl9:9 <= sizeLine:=by decide
end L2
end
section
namespace L2
open PySem PySem.Spec PyProof.Rows
abbrev Key:=Sum Int Str
def Ev:Key->Value->Bool
 | .inl k,v=>Value.isInt k v
 | .inr x,v=>Value.isStrOf x v
def Po (w:World):Key->Int
 | .inl k=>hashInt k
 | .inr x=>hashStr w x
theorem As:∀ {k:Key} {v:Value},Ev k v=true->(∃ i t,k=Sum.inl i/\v=Value.int i t)\/(∃ x t,k=Sum.inr x/\v=Value.str x t)
 | .inl i,v,h=>by
  obtain ⟨t,e⟩:=Value.isInt_shape (k:=i) (v:=v) h;exact .inl ⟨i,t,rfl,e⟩
 | .inr x,v,h=>by
  obtain ⟨t,e⟩:=Value.isStrOf_shape (x:=x) (v:=v) h;exact .inr ⟨x,t,rfl,e⟩
theorem Jb (i:Int) (t:Tok):Ev (.inl i) (.int i t)=true:=by simp [Ev,Value.isInt]
theorem Jc (x:Str) (t:Tok):Ev (.inr x) (.str x t)=true:=by simp [Ev,Value.isStrOf]
theorem Nq (a b:Int):decide ((Sum.inl a:Key)=Sum.inl b)=(a == b):=by
 by_cases e:a=b
 ·subst e; simp
 ·have h:¬ (Sum.inl a:Key)=Sum.inl b:=fun q=>e (Sum.inl.inj q);rw [decide_eq_false h];exact (beq_eq_false_iff_ne.mpr e).symm
theorem Nr (a b:Str):decide ((Sum.inr a:Key)=Sum.inr b)=decide (a=b):=by
 by_cases e:a=b
 ·subst e; simp
 ·have h:¬ (Sum.inr a:Key)=Sum.inr b:=fun q=>e (Sum.inr.inj q);rw [decide_eq_false h,decide_eq_false e]
theorem Nt (a:Int) (b:Str):decide ((Sum.inl a:Key)=Sum.inr b)=false:=decide_eq_false (fun q=>nomatch q)
theorem Nu (a:Str) (b:Int):decide ((Sum.inr a:Key)=Sum.inl b)=false:=decide_eq_false (fun q=>nomatch q)
def Ah (prog:Program) (w:World):PySem.KeyKind prog w Key where
 is:=Ev
 hash:=Po w
 inj:=fun v a b ha hb=>by
  rcases As ha with ⟨i,t,rfl,rfl⟩ | ⟨x,t,rfl,rfl⟩
  ·rcases As hb with ⟨j,u,rfl,e⟩ | ⟨y,u,rfl,e⟩
   ·injection e with e1 _; rw [e1]
   ·exact nomatch e
  ·rcases As hb with ⟨j,u,rfl,e⟩ | ⟨y,u,rfl,e⟩
   ·exact nomatch e
   ·injection e with e1 _; rw [e1]
 byValue:=fun k v h=>by
  rcases As h with ⟨i,t,rfl,rfl⟩ | ⟨x,t,rfl,rfl⟩ <;> rfl
 pyHash:=fun hv h=>by
  rcases As hv with ⟨i,t,rfl,rfl⟩ | ⟨x,t,rfl,rfl⟩
  ·exact wpAny_pyHash_int h
  ·exact wpAny_pyHash_str h
 eqBool:=fun hu hv h=>by
  rcases As hu with ⟨i,t,rfl,rfl⟩ | ⟨x,t,rfl,rfl⟩
  ·rcases As hv with ⟨j,u,rfl,rfl⟩ | ⟨y,u,rfl,rfl⟩
   ·rw [Nq] at h; exact wpAny_eqBool_int h
   ·rw [Nt] at h; exact SeqAt.EqAt.int_str i t y u _ _ _ _ h
  ·rcases As hv with ⟨j,u,rfl,rfl⟩ | ⟨y,u,rfl,rfl⟩
   ·rw [Nu] at h; exact SeqAt.EqAt.str_int x t j u _ _ _ _ h
   ·rw [Nr] at h; exact wpAny_eqBool_str h
 «strs»:=fun k x t v h=>by
  rcases As h with ⟨i,u,rfl,e⟩ | ⟨y,u,rfl,e⟩
  ·exact nomatch e
  ·injection e with e1 _
   subst e1;cases v <;> rfl
theorem Gv (prog:Program) (w:World) (i:Int) (t:Tok):(Ah prog w).is (.inl i) (.int i t)=true:=Jb i t
theorem Co (prog:Program) (w:World) (x:Str) (t:Tok):(Ah prog w).is (.inr x) (.str x t)=true:=Jc x t
end L2
namespace L2
open PySem PySem.Spec PyProof.Rows
inductive V where
 | non | bl (b:Bool) | int (i:Int) | str (x:Str) | byt (b:Array UInt8) | flt (b:UInt64) | ref (a:Addr) | ty (n:String)
 deriving DecidableEq
def RelV:V->Value->Prop
 | .non,u=>u=Value.none
 | .bl b,u=>u=Value.bool b
 | .int i,u=>∃ t,u=Value.int i t
 | .str x,u=>∃ t,u=Value.str x t
 | .byt b,u=>∃ t,u=Value.bytes b t
 | .flt b,u=>∃ t,u=Value.float b t
 | .ref a,u=>u=Value.ref a
 | .ty n,u=>u=Value.type n
abbrev Vals:List V->List Value->Prop:=Paired RelV
theorem Vals.length {xs:List V} {us:List Value} (r:Vals xs us):xs.length=us.length:=Paired.length r
theorem Vals.get:∀ {xs:List V} {us:List Value} {i:Nat} {x:V},Vals xs us->xs[i]?=some x->∃ u,us[i]?=some u/\RelV x u
 | _,_,_,_,.nil,e=>by simp at e
 | _,_,0,_,.cons r _,e=>by simp at e; subst e; exact ⟨_,rfl,r⟩
 | _,_,i + 1,x,.cons _ t,e=>by
  obtain ⟨u,h1,h2⟩:=Vals.get (i:=i) (x:=x) t (by simpa using e);exact ⟨u,by simpa using h1,h2⟩
theorem Vals.set {x:V} {u:Value} (r:RelV x u):∀ {xs:List V} {us:List Value} (i:Nat),Vals xs us->Vals (xs.set i x) (us.set i u)
 | _,_,_,.nil=>.nil
 | _,_,0,.cons _ t=>.cons r t
 | _,_,i + 1,.cons q t=>.cons q (Vals.set r i t)
theorem Vals.append:∀ {xs ys:List V} {us ws:List Value},Vals xs us->Vals ys ws->Vals (xs++ys) (us++ws)
 | _,_,_,_,.nil,s=>s
 | _,_,_,_,.cons r t,s=>.cons r (Vals.append t s)
def RelO:Option V->Option Value->Prop
 | some v,some u=>RelV v u
 | none,none=>True
 | _,_=>False
def KV {κ:Type}:List (κ × V)->List (κ × Value)->Prop:=Paired fun (p:κ × V) (q:κ × Value)=>p.1=q.1/\RelV p.2 q.2
def kV:Key->V
 | .inl i=>.int i
 | .inr x=>.str x
abbrev LK:=List (Key × V)
inductive HO where
 | lst (xs:List V)
 | tup (xs:List V)
 | dK (kvs:LK) | dT (kvs:List (List Key × V))
 | set (S:Int->Bool) (n:Nat)
 | ins (C dx:Addr) (fs:List (Str × V))
 | own (x:Addr)
 | xd (fs:List (Str × V))
 | met (f x:Addr)
 | rng (lo hi:Int)
 | frz (o:Obj) (u:HO)
 | tbl (ps:Array Value)
 | ext (φ:Heap->Prop)
abbrev Hp:=Addr->Option HO
def upd (H:Hp) (a:Addr) (o:HO):Hp:=fun b=>if b=a then some o else H b
theorem AB {H:Hp} {a:Addr} {o:HO}:upd H a o a=some o:=by unfold upd; rw [if_pos rfl]
theorem AF {H:Hp} {a b:Addr} {o:HO} (h:b ≠ a):upd H a o b=H b:=by unfold upd; rw [if_neg h]
theorem Cg {H:Hp} {a b:Addr} {o u:HO} (h:H a=some o) (h':H b=some u) (d:o ≠ u):a ≠ b:=by
 intro e; subst e; rw [h] at h'; exact d (Option.some.inj h')
theorem AH {H:Hp} {a b:Addr} {o:HO} (h:H a=some o) (h':H b=none):a ≠ b:=by
 intro e; subst e; rw [h] at h'; cases h'
section
variable (P:Program) (w:World)
def ObjOk (H:Hp) (h:Heap) (a:Addr):HO->Prop
 | .lst xs=>xs.length <= sizeLine/\∃ (its:List Value) (n:Nat),Vals xs its/\h.get? a=some { cls:=.type "list", data:=.seq its.toArray n }
 | .tup xs=>xs.length <= sizeLine/\∃ its:List Value,Vals xs its/\IsTup h a its.toArray
 | .dK kvs=>kvs.length <= sizeLine/\(a == sysModules)=false/\∃ vs,KV kvs vs/\h.DictOf (Ah P w) a vs
 | .dT kvs=>kvs.length <= sizeLine/\(a == sysModules)=false/\∃ xs:List (List Key × Addr × Value),
   Paired (fun (p:List Key × V) (q:List Key × Addr × Value)=>p.1=q.1/\H q.2.1=some (.tup (p.1.map kV))/\RelV p.2 q.2.2) kvs xs /\
   ∃ o es ep,h.get? a=some o/\o.ExactDict/\o.data=.dict es ep/\es.toList=xs.map (entryOfKey (tupleKind (Ah P w)))/\(xs.map (·.1)).Nodup
 | .set S n=>h.SetOf (intKind P w) a S n
 | .ins C dx fs=>H dx=some (.own a)/\fs.length <= 1000/\dx ≠ a/\h.get? a=some (W.instObj C dx) /\
   ∃ mA,h.Ns1 dx mA/\(∀ f,RelO (fs.lookup f) (mA f))/\PySem.Within mA (fs.map (·.1))
 | .own _=>∃ o,h.get? a=some o
 | .xd fs=>∃ mA,h.Ns1 a mA/\∀ f,RelO (fs.lookup f) (mA f)
 | .rng lo hi=>∃ t u v,h.get? a=some { cls:=.type "range", data:=.fields #[.int lo t,.int hi u,.int 1 v] }
 | .frz o u=>h.get? a=some o/\ObjOk H h a u
 | .tbl ps=>h.get? a=some { cls:=.none,data:=.fields ps }
 | .met f x=>h.get? a=some (W.methodObj (.ref f) (.ref x))
 | .ext φ=>φ h/\(∃ o,h.get? a=some o)/\∀ h1 h2:Heap,φ h1->(∀ o,h1.get? a=some o->h2.get? a=some o)->φ h2
def HOk (H:Hp) (h:Heap):Prop:=∀ a o,H a=some o->ObjOk P w H h a o
end
section
variable {P:Program} {w:World} {H H':Hp} {h h':Heap} {a:Addr} {o:HO}
theorem ObjOk.lt (x:ObjOk P w H h a o):a < h.objs.size:=by
 cases o with
 | lst xs=>obtain ⟨_,_,_,_,e⟩:=x; exact lt_size e
 | tup xs=>obtain ⟨_,_,_,p⟩:=x; exact p.lt
 | dK kvs=>obtain ⟨_,_,_,_,o,_,_,e,_⟩:=x; exact lt_size e
 | dT kvs=>obtain ⟨_,_,_,_,o,_,_,e,_⟩:=x; exact lt_size e
 | set S n=>obtain ⟨o,_,_,_,e,_⟩:=x; exact lt_size e
 | ins C dx fs=>obtain ⟨_,_,_,e,_⟩:=x; exact lt_size e
 | own y=>obtain ⟨_,e⟩:=x; exact lt_size e
 | xd fs=>obtain ⟨_,⟨_,_,_,e,_⟩,_⟩:=x; exact lt_size e
 | rng lo hi=>obtain ⟨_,_,_,e⟩:=x; exact lt_size e
 | frz ob u=>obtain ⟨e,_⟩:=x; exact lt_size e
 | tbl ps=>exact lt_size (show h.get? a=some _ from x)
 | met f y=>exact lt_size (show h.get? a=some _ from x)
 | ext φ=>obtain ⟨_,⟨_,e⟩,_⟩:=x; exact lt_size e
theorem Paired.mapP {α β:Type} {F G:α->β->Prop}:∀ {l₁:List α} {l₂:List β},Paired F l₁ l₂->(∀ a b,F a b->G a b)->Paired G l₁ l₂
 | _,_,.nil,_=>.nil
 | _,_,.cons r t,f=>.cons (f _ _ r) (Paired.mapP t f)
theorem ObjOk.stay (x:ObjOk P w H h a o) (k:∀ b u,(b=a\/H b=some (.own a))->h.get? b=some u->h'.get? b=some u)
  (ho:∀ b,H b=some (.own a)->H' b=some (.own a)) (ht:∀ b xs,H b=some (.tup xs)->H' b=some (.tup xs)):ObjOk P w H' h' a o:=by
 induction o with
 | lst xs=>obtain ⟨z,its,n,r,e⟩:=x; exact ⟨z,its,n,r,k _ _ (.inl rfl) e⟩
 | tup xs=>obtain ⟨z,its,r,ob,e,c⟩:=x; exact ⟨z,its,r,ob,k _ _ (.inl rfl) e,c⟩
 | dK kvs=>obtain ⟨z,y,vs,r,ob,es,ep,e,c⟩:=x; exact ⟨z,y,vs,r,ob,es,ep,k _ _ (.inl rfl) e,c⟩
 | dT kvs =>
  obtain ⟨z,y,xs,r,ob,es,ep,e,c⟩:=x;exact ⟨z,y,xs,Paired.mapP r fun p q z=>⟨z.1,ht _ _ z.2.1,z.2.2⟩,ob,es,ep,k _ _ (.inl rfl) e,c⟩
 | set S n=>obtain ⟨ob,es,ep,t,e,c⟩:=x; exact ⟨ob,es,ep,t,k _ _ (.inl rfl) e,c⟩
 | ins C dx fs =>
  obtain ⟨d,z,ne,e,mA,⟨od,es,ep,e2,c⟩,r⟩:=x;exact ⟨ho _ d,z,ne,k _ _ (.inl rfl) e,mA,⟨od,es,ep,k _ _ (.inr d) e2,c⟩,r⟩
 | own y=>obtain ⟨ob,e⟩:=x; exact ⟨ob,k _ _ (.inl rfl) e⟩
 | xd fs=>obtain ⟨mA,⟨od,es,ep,e,c⟩,r⟩:=x; exact ⟨mA,⟨od,es,ep,k _ _ (.inl rfl) e,c⟩,r⟩
 | rng lo hi=>obtain ⟨t,u,v,e⟩:=x; exact ⟨t,u,v,k _ _ (.inl rfl) e⟩
 | frz ob u ih=>obtain ⟨e,q⟩:=x; exact ⟨k _ _ (.inl rfl) e,ih q⟩
 | tbl ps =>
  have e:h.get? a=some { cls:=.none,data:=.fields ps }:=x;show h'.get? a=some { cls:=.none,data:=.fields ps };exact k a _ (.inl rfl) e
 | met f y =>
  have e:h.get? a=some (W.methodObj (.ref f) (.ref y)):=x;show h'.get? a=some (W.methodObj (.ref f) (.ref y));exact k a _ (.inl rfl) e
 | ext φ=>obtain ⟨p,⟨o,e⟩,st⟩:=x; exact ⟨st _ _ p fun o q=>k _ _ (.inl rfl) q,⟨o,k _ _ (.inl rfl) e⟩,st⟩
theorem HOk.lt (x:HOk P w H h) (e:H a=some o):a < h.objs.size:=(x a o e).lt
theorem HOk.fresh (x:HOk P w H h) (e:h.objs.size <= a):H a=none:=by
 cases q:H a with
 | none=>rfl
 | some u=>exact absurd (Nat.lt_of_lt_of_le (x.lt q) e) (Nat.lt_irrefl _)
theorem HOk.kept (x:HOk P w H h) (k:∀ b u,h.get? b=some u->h'.get? b=some u):HOk P w H h':=fun a o e =>
 (x a o e).stay (fun b u _ q=>k b u q) (fun _ q=>q) fun _ _ q=>q
theorem HOk.laid (x:HOk P w H h) (k:∀ b u,h.get? b=some u->h'.get? b=some u) (hp:h.objs.size <= a) (new:ObjOk P w (upd H a o) h' a o):HOk P w (upd H a o) h':=fun b u e=>by
 have hn:=x.fresh hp;by_cases hb:b=a
 ·subst hb; rw [AB] at e; cases e; exact new
 ·rw [AF hb] at e;exact (x b u e).stay (fun c v _ q=>k c v q) (fun c q=>by rw [AF (AH q hn)]; exact q) fun c xs q=>by rw [AF (AH q hn)]; exact q
end
def Rd (H:Hp) (a:Addr) (u:HO):Prop:=H a=some u\/∃ o,H a=some (.frz o u)
theorem Rd.ok {P:Program} {w:World} {H:Hp} {h:Heap} {a:Addr} {u:HO} (r:Rd H a u) (x:HOk P w H h):ObjOk P w H h a u:=by
 rcases r with r | ⟨o,r⟩
 ·exact x a u r
 ·obtain ⟨_,q⟩:=x a _ r;exact q
def Mut:Option HO->Prop
 | some (.lst _)=>True
 | some (.dK _)=>True
 | some (.dT _)=>True
 | some (.set _ _)=>True
 | some (.ins _ _ _)=>True
 | some (.ext _)=>True
 | _=>False
section
variable {P:Program} {w:World} {H:Hp} {h h':Heap} {x e:Addr} {o':HO}
theorem HOk.write (ok:HOk P w H h) (mu:Mut (H x)) (he:e=x\/H e=some (.own x)) (k:∀ b u,b ≠ e->h.get? b=some u->h'.get? b=some u) (heo:∃ u,h'.get? e=some u)
  (new:ObjOk P w (upd H x o') h' x o'):HOk P w (upd H x o') h':=fun b u q=>by
 have nown:∀ c y,H c=some (.own y)->c ≠ x:=fun c y r z=>by subst z; rw [r] at mu; exact mu
 have ntup:∀ c xs,H c=some (.tup xs)->c ≠ x:=fun c xs r z=>by subst z; rw [r] at mu; exact mu
 by_cases hb:b=x
 ·subst hb; rw [AB] at q; cases q; exact new
 ·rw [AF hb] at q;by_cases hbe:b=e
  ·have q':H b=some (.own x):=by
    rcases he with z | z
    ·exact absurd (hbe.trans z) hb
    ·rw [hbe]; exact z
   rw [q] at q'; cases q';obtain ⟨v,hv⟩:=heo;exact ⟨v,by rw [hbe]; exact hv⟩
  ·refine (ok b u q).stay (fun c v hc r=>k c v ?_ r) (fun c r=>by rw [AF (nown c b r)]; exact r) fun c xs r=>by rw [AF (ntup c xs r)]; exact r
   rcases hc with rfl | hc
   ·exact hbe
   ·rintro rfl;rcases he with z | z
    ·exact nown c b hc z
    ·rw [hc] at z; cases z; exact hb rfl
end
structure Un (fs ex:List Addr) (H H':Hp) (h h':Heap):Prop where
 keep:∀ b o,h.get? b=some o->H b=none->b ∉ fs->b ∉ ex->h'.get? b=some o
 slot:∀ b o,h.get? b=some o->H b=none->b ∈ fs->b ∉ ex->∃ sl,h'.get? b=some { o with slots:=sl }
 free:∀ b o,h.get? b=some o->H b=none->b ∉ ex->H' b=none
 there:∀ b o,h.get? b=some o->b ∉ ex->∃ o',h'.get? b=some o'
 tups:∀ b xs,H b=some (.tup xs)->H' b=some (.tup xs)
 frzs:∀ b o u,H b=some (.frz o u)->H' b=some (.frz o u)
 tbls:∀ b ps,H b=some (.tbl ps)->∃ more,H' b=some (.tbl (ps++more))
section
variable {fs fs' ex ex':List Addr} {H H1 H2:Hp} {h h1 h2 h':Heap} {a x e:Addr} {o:HO}
theorem Un.any (u:Un fs ex H H1 h h1) {b:Addr} {ob:Obj} (q:h.get? b=some ob) (n:H b=none) (hx:b ∉ ex):∃ sl,h1.get? b=some { ob with slots:=sl }:=by
 by_cases hb:b ∈ fs
 ·exact u.slot b ob q n hb hx
 ·exact ⟨ob.slots,u.keep b ob q n hb hx⟩
theorem Un.kept (k:∀ b u,h.get? b=some u->h'.get? b=some u):Un fs ex H H h h' :=
 ⟨fun b ob q _ _ _=>k b ob q,fun b ob q _ _ _=>⟨ob.slots,k b ob q⟩,fun _ _ _ n _=>n,fun b ob q _=>⟨ob,k b ob q⟩,fun _ _ q=>q,fun _ _ _ q=>q,fun _ ps q=>⟨#[],by rw [q]; simp⟩⟩
theorem Un.refl:Un fs ex H H h h:=Un.kept fun _ _ q=>q
theorem Un.laid (k:∀ b u,h.get? b=some u->h'.get? b=some u) (hp:h.objs.size <= a) (hn:H a=none):Un fs ex H (upd H a o) h h' where
 keep:=fun b u q _ _ _=>k b u q
 slot:=fun b u q _ _ _=>⟨u.slots,k b u q⟩
 free:=fun b u q n _=>by rw [AF (Nat.ne_of_lt (Nat.lt_of_lt_of_le (lt_size q) hp))]; exact n
 there:=fun b u q _=>⟨u,k b u q⟩
 tups:=fun b xs q=>by rw [AF (AH q hn)]; exact q
 frzs:=fun b u xs q=>by rw [AF (AH q hn)]; exact q
 tbls:=fun b ps q=>⟨#[],by rw [AF (AH q hn),q]; simp⟩
theorem Un.write (mu:Mut (H x)) (he:e=x\/H e=some (.own x)) (k:∀ b u,b ≠ e->h.get? b=some u->h'.get? b=some u) (heo:∃ u,h'.get? e=some u):Un fs ex H (upd H x o) h h':=by
 have hx:∀ b,H b=none->b ≠ x:=fun b n z=>by subst z; rw [n] at mu; exact mu
 have hb:∀ b,H b=none->b ≠ e:=fun b n z=>by
  subst z;rcases he with r | r
  ·exact hx b n r
  ·rw [n] at r; cases r
 have hm:∀ b u,H b=some u->¬ Mut (some u)->b ≠ x:=fun b u q nm z=>by subst z; rw [q] at mu; exact nm mu
 refine ⟨fun b u q n _ _=>k b u (hb b n) q,fun b u q n _ _=>⟨u.slots,k b u (hb b n) q⟩,fun b u q n _=>by rw [AF (hx b n)]; exact n,fun b u q _=>?_,
  fun b xs q=>by rw [AF (hm b _ q fun z=>z)]; exact q,fun b u xs q=>by rw [AF (hm b _ q fun z=>z)]; exact q,fun b ps q=>⟨#[],by rw [AF (hm b _ q fun z=>z),q]; simp⟩⟩
 by_cases hbe:b=e
 ·subst hbe; exact heo
 ·exact ⟨u,k b u hbe q⟩
end
def trk (h:Heap) (H:Hp):List Addr:=(List.range h.objs.size).filter fun a=>(H a).isSome
def F4 (h:Heap) (H:Hp):Heap:=W.hideAll h (trk h H)
theorem Jd (h:Heap) (H:Hp):(F4 h H).objs.size=h.objs.size:=W.hideAll_size _ _
theorem Kb {h:Heap} {H:Hp} {b:Addr} {o:Obj} (e:h.get? b=some o) (n:H b=none):(F4 h H).get? b=some o :=
 W.hideAll_get _ e fun hm=>by
  have q:(H b).isSome=true:=(mem_filter.mp hm).2;rw [n] at q; simp at q
theorem MS {h:Heap} {H:Hp} {b:Addr} {o:Obj} (e:(F4 h H).get? b=some o):h.get? b=some o/\H b=none:=by
 have e':h.get? b=some o:=W.of_hideAll (trk h H) e;refine ⟨e',?_⟩;cases q:H b with
 | none=>rfl
 | some x =>
  have hm:b ∈ trk h H:=mem_filter.mpr ⟨mem_range.mpr (lt_size e'),by simp [q]⟩;have z:(F4 h H).get? b=none:=W.hideAll_none (trk h H) hm;rw [z] at e; cases e
end L2
namespace L2
open PySem PySem.Spec PyProof.Rows
structure Mod (K:FG) (mg:SV) (base:Heap):Prop where
 kin:K.In base
 glob:base.Ns mainGlobals mg
 blt:∃ mb,base.Ns builtinsNs mb/\∀ x:Str,x ≠ "__name__" -> mb x=bootBuiltins x
 nolimit:base.NoLimit
structure Cx where
 prog:Program
 w:World
 K:FG
 mg:Str->Option Value
 base:Heap
 A:Around
 N:List Str
 s₀:Shared
 H₀:Hp
 env:Env
 outer:List Env
 stack:List Env
 ex:List Addr
 fn:Str->Bool
 calm:Bool
 pn:LO
 xe:Value->Shared->Prop
def frs (l:List Env):List Addr:=l.filterMap (·.frame)
abbrev Cx.fs (X:Cx):List Addr:=frs X.outer
def Vis (sc:Scope) (x:Str):Prop:=sc.names.lookup x=some .local\/sc.names.lookup x=some .cell\/sc.names.lookup x=some .free
def Loc (sc:Scope) (x:Str):Prop:=sc.names.lookup x=some .local\/sc.names.lookup x=some .cell
def Pp (env:Env) (h:Heap) (m:SV) (x:Str) (u:Value):Prop :=
 (env.kindOf x=some .local/\m x=some u)\/((env.kindOf x=some .cell\/env.kindOf x=some .free)/\∃ c,env.cells.lookup x=some c/\h.IsCell c (some u))
structure Cx.Ok (X:Cx):Prop where
 mod:Mod X.K X.mg X.base
 kind:X.env.scope.kind=.function
 glob:X.env.globals=mainGlobals
 blt:X.env.builtins=builtinsNs
 above:X.s₀.heap.objs.size <= X.env.locals
 inj:∀ x y c,X.env.cells.lookup x=some c->X.env.cells.lookup y=some c->x=y
 has:∀ x,(X.env.kindOf x=some .cell\/X.env.kindOf x=some .free)->∃ c,X.env.cells.lookup x=some c
 cab:∀ x c,X.fn x=true->X.env.cells.lookup x=some c->X.s₀.heap.objs.size <= c
 hd:X.calm=true->X.A.handled=none
 frames:X.A.frames=some X.stack
 stk:X.stack=X.outer\/(X.stack=X.env :: X.outer/\X.env.frame=some X.env.locals)
 exf:∀ b ∈ X.ex,b ≠ X.env.locals/\∀ x c,X.env.cells.lookup x=some c->c ≠ b
 bs:∀ b o,X.base.get? b=some o->X.s₀.heap.get? b=some o/\X.H₀ b=none
 bsz:X.base.objs.size <= X.s₀.heap.objs.size
 noex:∀ b o,X.base.get? b=some o->b ∉ X.ex
 exfs:∀ b ∈ X.ex,b ∉ X.fs
 funs:X.s₀.heap.FunFrames X.base X.outer
 frf:∀ b ∈ X.fs,X.H₀ b=none
structure Inv (X:Cx) (aa:LO) (σ:List (Option V)) (H:Hp) (s:Shared):Prop where
 ok:X.Ok
 os:s.os=X.s₀.os
 bare:AllBare s.gens
 base:Un X.fs X.ex X.H₀ H X.s₀.heap s.heap
 loc:∃ m,s.heap.Ns X.env.locals m/\∀ (i:Nat) (x:Str) (v:V),X.N[i]?=some x->σ[i]?=some (some v)->Vis X.env.scope x->∃ u,RelV v u/\Pp X.env s.heap m x u
 cell:∀ x c,X.env.cells.lookup x=some c->∃ v,s.heap.IsCell c v
 free:H X.env.locals=none
 freeC:∀ x c,X.env.cells.lookup x=some c->H c=none
 pin:∀ p ∈ X.pn++aa,s.heap.get? p.1=some p.2/\H p.1=none/\p.1 ≠ X.env.locals/\p.1 ∉ X.fs/\∀ v,p.2.data ≠ .cell v
 hok:HOk X.prog X.w H s.heap
 len:σ.length=X.N.length
section
variable {X:Cx} {aa:LO} {σ:List (Option V)} {H H':Hp} {s:Shared} {h':Heap}
theorem Cx.Ok.nofr (ok:X.Ok) {b:Addr} {o:Obj} (e:X.base.get? b=some o):b ∉ X.fs:=fun hb=>by
 have:=(ok.funs.mem hb).1;rw [e] at this; cases this
theorem Inv.bs (I:Inv X aa σ H s):∀ b o,X.base.get? b=some o->s.heap.get? b=some o/\H b=none:=fun b o e =>
 ⟨I.base.keep b o (I.ok.bs b o e).1 (I.ok.bs b o e).2 (I.ok.nofr e) (I.ok.noex b o e),I.base.free b o (I.ok.bs b o e).1 (I.ok.bs b o e).2 (I.ok.noex b o e)⟩
theorem Inv.bk (I:Inv X aa σ H s):∀ b o,X.base.get? b=some o->s.heap.get? b=some o:=fun b o e=>(I.bs b o e).1
theorem Inv.mod (I:Inv X aa σ H s):Mod X.K X.mg X.base:=I.ok.mod
theorem Inv.kIn (I:Inv X aa σ H s):X.K.In s.heap:=I.ok.mod.kin.keeps I.bk
theorem Inv.fr (I:Inv X aa σ H s):∃ m,Fr X.base X.env.locals s.heap m :=
 let ⟨m,hn,_⟩:=I.loc
 ⟨m,hn,I.bk,Nat.le_trans I.ok.bsz I.ok.above⟩
theorem Inv.lt (I:Inv X aa σ H s):X.env.locals < s.heap.objs.size:=let ⟨_,hn,_⟩:=I.loc; hn.lt
theorem Inv.sz (I:Inv X aa σ H s):X.s₀.heap.objs.size <= s.heap.objs.size:=Nat.le_trans I.ok.above (Nat.le_of_lt I.lt)
theorem Inv.nofs (I:Inv X aa σ H s) {a:Addr} (h:s.heap.objs.size <= a):a ∉ X.fs:=fun hb=>by
 obtain ⟨_,o,ho,_⟩:=I.ok.funs.mem hb;exact absurd (Nat.lt_of_lt_of_le (lt_size ho) (Nat.le_trans I.sz h)) (Nat.lt_irrefl _)
theorem Inv.cne (I:Inv X aa σ H s):∀ x c,X.env.cells.lookup x=some c->c ≠ X.env.locals:=fun x c e z=>by
 obtain ⟨v,o,ho,hd⟩:=I.cell x c e;obtain ⟨m,⟨o',es,ep,ho',hd',_⟩,_⟩:=I.loc;rw [z,ho'] at ho; cases ho; rw [hd'] at hd; cases hd
theorem Inv.funs (I:Inv X aa σ H s):s.heap.FunFrames X.base X.outer:=by
 have all:∀ (l:List Env),(∀ b ∈ frs l,b ∈ X.fs)->X.s₀.heap.FunFrames X.base l->s.heap.FunFrames X.base l:=by
  intro l;induction l with
  | nil=>intro _ _; trivial
  | cons env r ih =>
   intro hs hl;obtain ⟨hk,⟨L,o,hf,hn,ho,hd⟩,hr⟩:=hl;have hL:L ∈ X.fs:=hs L (by unfold frs; rw [List.filterMap_cons,hf]; exact mem_cons_self);obtain ⟨sl,e⟩:=I.base.slot L o ho (I.ok.frf L hL) hL fun z=>I.ok.exfs L z hL;exact ⟨hk,⟨L,_,hf,hn,e,hd⟩,ih (fun b hb=>hs b (by unfold frs; rw [List.filterMap_cons,hf]; exact mem_cons_of_mem _ hb)) hr⟩
 exact all X.outer (fun _ hb=>hb) I.ok.funs
theorem Inv.stack (I:Inv X aa σ H s):s.heap.FunFrames X.base X.stack:=by
 rcases I.ok.stk with e | ⟨e,hf⟩
 ·rw [e]; exact I.funs
 ·rw [e];obtain ⟨m,hn,_⟩:=I.loc;refine .cons (by rw [I.ok.kind]; decide) hf hn ?_ I.funs;exact Heap.get?_none_of_le (Nat.le_trans I.ok.bsz I.ok.above)
theorem Inv.stkSub (I:Inv X aa σ H s):∀ b ∈ frs X.stack,b ∈ X.env.locals :: X.fs:=fun b hb=>by
 rcases I.ok.stk with e | ⟨e,hf⟩
 ·rw [e] at hb; exact mem_cons_of_mem _ hb
 ·rw [e] at hb;unfold frs at hb;rw [List.filterMap_cons,hf] at hb;exact hb
theorem Inv.stkFree (I:Inv X aa σ H s):∀ b ∈ frs X.stack,H b=none:=fun b hb=>by
 rcases mem_cons.mp (I.stkSub b hb) with e | hb
 ·rw [e]; exact I.free
 ·obtain ⟨_,o,ho,_⟩:=I.ok.funs.mem hb;exact I.base.free b o ho (I.ok.frf b hb) fun z=>I.ok.exfs b z hb
theorem Inv.step {g':Array GenState} {t':Nat} {d':Drawn} {ch:List Addr} (I:Inv X aa σ H s)
  (hch:∀ b ∈ ch,(b ∈ X.ex\/X.s₀.heap.objs.size <= b)/\b ≠ X.env.locals/\(∀ x c,X.env.cells.lookup x=some c->c ≠ b)/\∀ p ∈ X.pn++aa,p.1 ≠ b)
  (keep:∀ b o,b ≠ X.env.locals->b ∉ X.fs->b ∉ ch->s.heap.get? b=some o->H b=none->h'.get? b=some o)
  (slot:∀ b o,b ≠ X.env.locals->b ∈ X.fs->b ∉ ch->s.heap.get? b=some o->H b=none->∃ sl,h'.get? b=some { o with slots:=sl }) (free:∀ b o,b ∉ ch->s.heap.get? b=some o->H b=none->H' b=none)
  (there:∀ b o,b ∉ ch->s.heap.get? b=some o->∃ o',h'.get? b=some o')
  (tups:∀ b xs,H b=some (.tup xs)->H' b=some (.tup xs)) (frzs:∀ b o u,H b=some (.frz o u)->H' b=some (.frz o u)) (tbls:∀ b ps,H b=some (.tbl ps)->∃ more,H' b=some (.tbl (ps++more)))
  (ns:∀ m,s.heap.Ns X.env.locals m->h'.Ns X.env.locals m) (hok:HOk X.prog X.w H' h') (hg:AllBare g') :
  Inv X aa σ H' { s with heap:=h',gens:=g',drawn:=d',toks:=t' }:=by
 have neL:∀ b o,X.s₀.heap.get? b=some o->b ≠ X.env.locals:=fun b o e=>Nat.ne_of_lt (Nat.lt_of_lt_of_le (lt_size e) I.ok.above)
 have neC:∀ b o,X.s₀.heap.get? b=some o->b ∉ X.ex->b ∉ ch:=fun b o e hx hb=>by
  rcases (hch b hb).1 with z | z
  ·exact hx z
  ·exact absurd (Nat.lt_of_lt_of_le (lt_size e) z) (Nat.lt_irrefl _)
 have cellK:∀ x c,X.env.cells.lookup x=some c->∀ v,s.heap.IsCell c v->h'.IsCell c v:=fun x c e v ⟨o,ho,hd⟩=>by
  have nch:c ∉ ch:=fun z=>(hch c z).2.2.1 x c e rfl;by_cases hc:c ∈ X.fs
  ·obtain ⟨sl,q⟩:=slot c o (I.cne x c e) hc nch ho (I.freeC x c e);exact ⟨_,q,hd⟩
  ·exact ⟨o,keep c o (I.cne x c e) hc nch ho (I.freeC x c e),hd⟩
 refine ⟨I.ok,I.os,hg,⟨fun b o e n hb hx=>?_,fun b o e n hb hx=>?_,fun b o e n hx=>?_,fun b o e hx=>?_,fun b xs e=>tups b xs (I.base.tups b xs e),fun b o xs e=>frzs b o xs (I.base.frzs b o xs e),fun b ps e=>?_⟩,?_,fun x c e=>?_,?_,fun x c e=>?_,fun p hp=>?_,hok,I.len⟩
 ·exact keep b o (neL b o e) hb (neC b o e hx) (I.base.keep b o e n hb hx) (I.base.free b o e n hx)
 ·obtain ⟨sl,e1⟩:=I.base.slot b o e n hb hx;obtain ⟨sl',e2⟩:=slot b _ (neL b o e) hb (neC b o e hx) e1 (I.base.free b o e n hx);exact ⟨sl',e2⟩
 ·obtain ⟨o',e1⟩:=I.base.there b o e hx;exact free b o' (neC b o e hx) e1 (I.base.free b o e n hx)
 ·obtain ⟨o',e1⟩:=I.base.there b o e hx;exact there b o' (neC b o e hx) e1
 ·obtain ⟨m1,e1⟩:=I.base.tbls b ps e;obtain ⟨m2,e2⟩:=tbls b _ e1;exact ⟨m1++m2,by rw [e2,Array.append_assoc]⟩
 ·obtain ⟨m,hn,hl⟩:=I.loc;refine ⟨m,ns m hn,fun i x v e1 e2 e3=>?_⟩;obtain ⟨u,r,l⟩:=hl i x v e1 e2 e3;refine ⟨u,r,?_⟩;rcases l with l | ⟨k,c,e,z⟩
  ·exact .inl l
  ·exact .inr ⟨k,c,e,cellK x c e _ z⟩
 ·obtain ⟨v,z⟩:=I.cell x c e;exact ⟨v,cellK x c e v z⟩
 ·obtain ⟨m,⟨o,_,_,ho,_⟩,_⟩:=I.loc;exact free _ o (fun z=>(hch _ z).2.1 rfl) ho I.free
 ·obtain ⟨v,o,ho,hd⟩:=I.cell x c e;exact free c o (fun z=>(hch c z).2.2.1 x c e rfl) ho (I.freeC x c e)
 ·obtain ⟨e,n,ne,nf,d⟩:=I.pin p hp;have nch:p.1 ∉ ch:=fun z=>(hch p.1 z).2.2.2 p hp rfl;exact ⟨keep p.1 p.2 ne nf nch e n,free p.1 p.2 nch e n,ne,nf,d⟩
theorem Inv.un {t':Nat} (I:Inv X aa σ H s) (u:Un X.fs [] H H' s.heap h') (hok:HOk X.prog X.w H' h'):Inv X aa σ H' { s with heap:=h',toks:=t' }:=by
 obtain ⟨m,⟨o,es,ep,ho,r⟩,_⟩:=id I.loc;obtain ⟨sl,hL⟩:=u.any ho I.free (by simp)
 exact I.step (g':=s.gens) (d':=s.drawn) (ch:=[]) (fun _ z=>nomatch z) (fun b o _ hb _ e n=>u.keep b o e n hb (by simp)) (fun b o _ hb _ e n=>u.slot b o e n hb (by simp)) (fun b o _ e n=>u.free b o e n (by simp)) (fun b o _ e=>u.there b o e (by simp)) u.tups u.frzs u.tbls (fun m' hm=>by
  obtain ⟨o',es',ep',ho',r'⟩:=hm;rw [ho] at ho'; cases ho'
  exact ⟨_,es',ep',hL,r'⟩) hok I.bare
theorem Inv.call {g':Array GenState} {t':Nat} {d':Drawn} {ch:List Addr} (I:Inv X aa σ H s) (u:Un (frs X.stack) ch H H' s.heap h') (hok:HOk X.prog X.w H' h') (hg:AllBare g')
  (hch:∀ b ∈ ch,(b ∈ X.ex\/X.s₀.heap.objs.size <= b)/\b ≠ X.env.locals/\(∀ x c,X.env.cells.lookup x=some c->c ≠ b)/\∀ p ∈ X.pn++aa,p.1 ≠ b) :
  Inv X aa σ H' { s with heap:=h',gens:=g',drawn:=d',toks:=t' }:=by
 obtain ⟨m,⟨o,es,ep,ho,r⟩,_⟩:=id I.loc;obtain ⟨sl,hL⟩:=u.any ho I.free fun z=>(hch _ z).2.1 rfl
 exact I.step (ch:=ch) hch (fun b o hL hb hc e n=>u.keep b o e n (fun z=>(mem_cons.mp (I.stkSub b z)).elim hL hb) hc) (fun b o _ _ hc e n=>u.any e n hc) (fun b o hc e n=>u.free b o e n hc) (fun b o hc e=>u.there b o e hc) u.tups u.frzs u.tbls (fun m' hm=>by
  obtain ⟨o',es',ep',ho',r'⟩:=hm;rw [ho] at ho'; cases ho'
  exact ⟨_,es',ep',hL,r'⟩) hok hg
theorem Inv.turned {t':Nat} {it:Addr} (I:Inv X aa σ H s) (k:∀ b o,b ≠ it->s.heap.get? b=some o->h'.get? b=some o) (hn:H it=none) (hL:it ≠ X.env.locals)
  (h1:it ∈ X.ex\/X.s₀.heap.objs.size <= it) (h2:∀ x c,X.env.cells.lookup x=some c->c ≠ it) (h3:∀ p ∈ X.pn++aa,p.1 ≠ it):Inv X aa σ H { s with heap:=h',toks:=t' }:=by
 have nit:∀ b u,H b=some u->b ≠ it:=fun b u e z=>by rw [z,hn] at e; cases e
 refine I.step (g':=s.gens) (d':=s.drawn) (ch:=[it]) (fun b hb=>?_) (fun b o _ _ hc e _=>k b o (fun z=>hc (by simp [z])) e) (fun b o _ _ hc e _=>⟨o.slots,k b o (fun z=>hc (by simp [z])) e⟩) (fun _ _ _ _ n=>n)
  (fun b o hc e=>⟨o,k b o (fun z=>hc (by simp [z])) e⟩) (fun _ _ e=>e) (fun _ _ _ e=>e) (fun b ps e=>⟨#[],by rw [e]; simp⟩) (fun m hm=>?_) (fun b u e=>?_) I.bare
 ·have e:b=it:=by simpa using hb
  subst e;exact ⟨h1,hL,h2,h3⟩
 ·obtain ⟨o,es,ep,ho,r⟩:=hm;exact ⟨o,es,ep,k _ o (Ne.symm hL) ho,r⟩
 ·refine (I.hok b u e).stay (fun c v hc q=>k c v ?_ q) (fun _ q=>q) fun _ _ q=>q;rcases hc with z | z
  ·rw [z]; exact nit b u e
  ·exact nit c _ z
theorem Inv.tok (I:Inv X aa σ H s) (t:Nat):Inv X aa σ H { s with toks:=t }:=I.un (h':=s.heap) (t':=t) Un.refl I.hok
theorem Inv.kept {t':Nat} (I:Inv X aa σ H s) (k:∀ b u,s.heap.get? b=some u->h'.get? b=some u):Inv X aa σ H { s with heap:=h',toks:=t' }:=I.un (Un.kept k) (I.hok.kept k)
theorem Inv.laid {a:Addr} {o:HO} {t':Nat} (I:Inv X aa σ H s) (k:∀ b u,s.heap.get? b=some u->h'.get? b=some u) (hp:s.heap.objs.size <= a) (new:ObjOk X.prog X.w (upd H a o) h' a o) :
  Inv X aa σ (upd H a o) { s with heap:=h',toks:=t' }:=I.un (Un.laid k hp (I.hok.fresh hp)) (I.hok.laid k hp new)
theorem Inv.write {x e:Addr} {o:HO} {t':Nat} (I:Inv X aa σ H s) (mu:Mut (H x)) (he:e=x\/H e=some (.own x)) (k:∀ b u,b ≠ e->s.heap.get? b=some u->h'.get? b=some u) (heo:∃ u,h'.get? e=some u)
  (new:ObjOk X.prog X.w (upd H x o) h' x o):Inv X aa σ (upd H x o) { s with heap:=h',toks:=t' }:=I.un (Un.write mu he k heo) (I.hok.write mu he k heo new)
theorem Inv.weak {σ':List (Option V)} (I:Inv X aa σ H s) (hl:σ'.length=σ.length) (w:∀ (i:Nat) v,σ'[i]?=some (some v)->σ[i]?=some (some v)):Inv X aa σ' H s :=
 ⟨I.ok,I.os,I.bare,I.base,let ⟨m,hn,hl'⟩:=I.loc; ⟨m,hn,fun i x v e1 e2 e3=>hl' i x v e1 (w i v e2) e3⟩,I.cell,I.free,I.freeC,I.pin,I.hok,hl.trans I.len⟩
theorem Inv.pins_of {pins':LO} (I:Inv X aa σ H s) (h:∀ p ∈ pins',s.heap.get? p.1=some p.2/\H p.1=none/\p.1 ≠ X.env.locals/\p.1 ∉ X.fs/\∀ v,p.2.data ≠ .cell v):Inv X pins' σ H s :=
 ⟨I.ok,I.os,I.bare,I.base,I.loc,I.cell,I.free,I.freeC,fun p hp=>(mem_append.mp hp).elim (fun z=>I.pin p (mem_append_left _ z)) (h p),I.hok,I.len⟩
theorem Gw {N:List Str} (hN:N.Nodup) {i j:Nat} {x:Str} (a:N[i]?=some x) (b:N[j]?=some x):i=j:=by
 obtain ⟨h1,e1⟩:=List.getElem?_eq_some_iff.mp a;obtain ⟨h2,e2⟩:=List.getElem?_eq_some_iff.mp b;exact (List.getElem_inj hN).mp (e1.trans e2.symm)
theorem Fc {M:Model} {A:Around} {E:VS} {i:Nat} {x:Str} {v:V} {u:Value} {Q:Unit->Shared->Prop} (I:Inv X aa σ H s) (hN:X.N.Nodup) (hi:X.N[i]?=some x) (hx:Loc X.env.scope x) (r:RelV v u)
  (h:∀ s',Inv X aa (σ.set i (some v)) H s'->(∃ a,Heap.SameBut a s.heap s'.heap/\(a=X.env.locals\/X.env.cells.lookup x=some a))->Q () s') (hf:X.fn x=true\/X.env.scope.names.lookup x=some .local:=by first | exact .inl rfl | exact .inr rfl | assumption):wpAny M A (storeName X.env x u) Q E s:=by
 obtain ⟨m,hn,hl⟩:=id I.loc;have hcls:(X.env.scope.kind == .class || (X.env.scope.kind == .module && X.env.locals != X.env.globals))=false:=by rw [I.ok.kind]; rfl
 have hiσ:i < σ.length:=by rw [I.len]; exact (List.getElem?_eq_some_iff.mp hi).1
 have cne:=I.cne
 have tracked:∀ {a:Addr} {h':Heap},(∃ o,s.heap.get? a=some o/\H a=none)->Heap.SameBut a s.heap h'->HOk X.prog X.w H h':=fun {a h'} ha hs b ob e=>by
  obtain ⟨_,_,a9⟩:=ha;refine (I.hok b ob e).stay (fun c w' hc q=>(hs.2 c ?_).trans q) (fun _ q=>q) fun _ _ q=>q;rintro rfl;rcases hc with rfl | hc
  ·rw [a9] at e; cases e
  ·rw [a9] at hc; cases hc
 rcases hx with hk | hk
 ·refine wpAny_storeName_local hk hn (fun h' hn' hs=>?_) hcls;obtain ⟨oL,_,_,hoL,_⟩:=id hn;refine h _ ⟨I.ok,I.os,I.bare,⟨fun b o e n hb hx=>?_,fun b o e n hb hx=>?_,I.base.free,fun b o e hx=>?_,I.base.tups,I.base.frzs,I.base.tbls⟩,⟨_,hn',fun j y v' e1 e2 e3=>?_⟩,fun y c e=>?_,I.free,I.freeC,fun p hp=>?_,tracked ⟨oL,hoL,I.free⟩ hs,by simpa using I.len⟩ ⟨_,hs,.inl rfl⟩
  ·exact (hs.2 b (Nat.ne_of_lt (Nat.lt_of_lt_of_le (lt_size e) I.ok.above))).trans (I.base.keep b o e n hb hx)
  ·obtain ⟨sl,e1⟩:=I.base.slot b o e n hb hx;exact ⟨sl,(hs.2 b (Nat.ne_of_lt (Nat.lt_of_lt_of_le (lt_size e) I.ok.above))).trans e1⟩
  ·obtain ⟨o',e1⟩:=I.base.there b o e hx;exact ⟨o',(hs.2 b (Nat.ne_of_lt (Nat.lt_of_lt_of_le (lt_size e) I.ok.above))).trans e1⟩
  ·by_cases hj:j=i
   ·subst hj;rw [hi] at e1; cases e1;rw [List.getElem?_set_self hiσ] at e2;cases e2;exact ⟨u,r,.inl ⟨hk,by simp⟩⟩
   ·rw [List.getElem?_set_ne (Ne.symm hj)] at e2;obtain ⟨u',r',q⟩:=hl j y v' e1 e2 e3;refine ⟨u',r',?_⟩;rcases q with ⟨k,e⟩ | ⟨k,c,e,z⟩
    ·refine .inl ⟨k,?_⟩;have:y ≠ x:=fun e=>hj (Gw hN e1 (e ▸ hi));simp [this,e]
    ·exact .inr ⟨k,c,e,z.sameBut hs (cne y c e)⟩
  ·obtain ⟨w',z⟩:=I.cell y c e;exact ⟨w',z.sameBut hs (cne y c e)⟩
  ·obtain ⟨e,n,ne,nf,d⟩:=I.pin p hp;exact ⟨(hs.2 p.1 ne).trans e,n,ne,nf,d⟩
 ·have hfn:X.fn x=true:=by
   rcases hf with z | z
   ·exact z
   ·rw [z] at hk; cases hk
  obtain ⟨c,hc⟩:=I.ok.has x (.inl hk);obtain ⟨w',z⟩:=I.cell x c hc;refine wpAny_storeName_cell I.ok.kind hk hc z (fun h' hc' hs=>?_);obtain ⟨oc,hoc,hocd⟩:=id z;refine h { s with heap:=h' } ⟨I.ok,I.os,I.bare,⟨fun b o e n hb hx=>?_,fun b o e n hb hx=>?_,I.base.free,fun b o e hx=>?_,I.base.tups,I.base.frzs,I.base.tbls⟩,⟨m,hn.sameBut hs (Ne.symm (cne x c hc)),fun j y v' e1 e2 e3=>?_⟩,fun y c' e=>?_,I.free,I.freeC,fun p hp=>?_,tracked ⟨oc,hoc,I.freeC x c hc⟩ hs,by simpa using I.len⟩ ⟨c,hs,.inr hc⟩
  ·exact (hs.2 b (Nat.ne_of_lt (Nat.lt_of_lt_of_le (lt_size e) (I.ok.cab x c hfn hc)))).trans (I.base.keep b o e n hb hx)
  ·obtain ⟨sl,e1⟩:=I.base.slot b o e n hb hx;exact ⟨sl,(hs.2 b (Nat.ne_of_lt (Nat.lt_of_lt_of_le (lt_size e) (I.ok.cab x c hfn hc)))).trans e1⟩
  ·obtain ⟨o',e1⟩:=I.base.there b o e hx;exact ⟨o',(hs.2 b (Nat.ne_of_lt (Nat.lt_of_lt_of_le (lt_size e) (I.ok.cab x c hfn hc)))).trans e1⟩
  ·by_cases hj:j=i
   ·subst hj;rw [hi] at e1; cases e1;rw [List.getElem?_set_self hiσ] at e2;cases e2;exact ⟨u,r,.inr ⟨.inl hk,c,hc,hc'⟩⟩
   ·rw [List.getElem?_set_ne (Ne.symm hj)] at e2;obtain ⟨u',r',q⟩:=hl j y v' e1 e2 e3;refine ⟨u',r',?_⟩;rcases q with q | ⟨k,c',e,z'⟩
    ·exact .inl q
    ·refine .inr ⟨k,c',e,z'.sameBut hs ?_⟩;rintro rfl;exact hj (Gw hN e1 (I.ok.inj _ _ _ e hc ▸ hi))
  ·by_cases hcc:c'=c
   ·subst hcc; exact ⟨_,hc'⟩
   ·obtain ⟨w2,z2⟩:=I.cell y c' e;exact ⟨w2,z2.sameBut hs hcc⟩
  ·obtain ⟨e,n,ne,nf,d⟩:=I.pin p hp;refine ⟨(hs.2 p.1 ?_).trans e,n,ne,nf,d⟩;intro q;rw [q,hoc] at e;have q':oc=p.2:=Option.some.inj e;exact d w' (by rw [← q']; exact hocd)
theorem Bg {M:Model} {A:Around} {E:VS} {i:Nat} {x:Str} {v:V} {u:Value} {Q:Unit->Shared->Prop} (I:Inv X aa σ H s) (hN:X.N.Nodup) (hi:X.N[i]?=some x) (hx:Loc X.env.scope x) (r:RelV v u)
  (h:∀ s',Inv X aa (σ.set i (some v)) H s'->Q () s') (hf:X.fn x=true\/X.env.scope.names.lookup x=some .local:=by first | exact .inl rfl | exact .inr rfl | assumption):wpAny M A (storeName X.env x u) Q E s :=
 Fc I hN hi hx r (fun s' I' _=>h s' I') hf
theorem Inv.call' {s':Shared} {ch:List Addr} (I:Inv X aa σ H s) (ho:s'.os=s.os) (u:Un (frs X.stack) ch H H' s.heap s'.heap) (hok:HOk X.prog X.w H' s'.heap) (hg:AllBare s'.gens)
  (hch:∀ b ∈ ch,(b ∈ X.ex\/X.s₀.heap.objs.size <= b)/\b ≠ X.env.locals/\(∀ x c,X.env.cells.lookup x=some c->c ≠ b)/\∀ p ∈ X.pn++aa,p.1 ≠ b):Inv X aa σ H' s':=by
 obtain ⟨h',g',d',t',o'⟩:=s';have e:o'=s.os:=ho;subst e;exact I.call (g':=g') (t':=t') (d':=d') u hok hg hch
end
abbrev XK:=Value->Option Addr->Hp->Prop
abbrev St:=List (Option V)
abbrev VK:=V->Hp->Prop
abbrev TE:=St->Hp->VK->Prop
abbrev TT:=St->Hp->(Bool->Hp->Prop)->Prop
abbrev TA:=St->Hp->(List V->Hp->Prop)->Prop
structure Ew where
 nx:St->Hp->Prop
 rt:VK
 bk:St->Hp->Prop:=fun _ _=>False
 ct:St->Hp->Prop:=fun _ _=>False
abbrev TS:=Ew->St->Hp->Prop
inductive EP (X:Cx) (aa:LO) (σ:St) (Q:VK) (u:Value) (s':Shared):Prop where
 | mk (v:V) (H':Hp) (i:Inv X aa σ H' s') (r:RelV v u) (q:Q v H'):EP X aa σ Q u s'
def TP (X:Cx) (aa:LO) (σ:St) (Q:Bool->Hp->Prop) (b:Bool) (s':Shared):Prop:=∃ H',Inv X aa σ H' s'/\Q b H'
inductive AP (X:Cx) (aa:LO) (σ:St) (Q:List V->Hp->Prop) (us:List Value) (s':Shared):Prop where
 | mk (vs:List V) (H':Hp) (i:Inv X aa σ H' s') (r:Vals vs us) (q:Q vs H'):AP X aa σ Q us s'
def SP (X:Cx) (aa:LO) (D:Ew) (f:Flow) (s':Shared):Prop :=
 match f with
 | .next=>∃ σ' H',Inv X aa σ' H' s'/\D.nx σ' H'
 | .brk=>∃ σ' H',Inv X aa σ' H' s'/\D.bk σ' H'
 | .cont=>∃ σ' H',Inv X aa σ' H' s'/\D.ct σ' H'
 | .ret u=>∃ v σ' H',Inv X aa σ' H' s'/\RelV v u/\D.rt v H'
def PE (X:Cx) (e:Expr) (t:TE):Prop :=
 ∀ (aa:LO) (s:Shared) (σ:St) (H:Hp) (Q:VK),Inv X aa σ H s->t σ H Q->wpAny (model X.prog X.w) X.A (eval e X.env) (EP X aa σ Q) X.xe s
def PT (X:Cx) (e:Expr) (t:TT):Prop :=
 ∀ (aa:LO) (s:Shared) (σ:St) (H:Hp) (Q:Bool->Hp->Prop),Inv X aa σ H s->t σ H Q->wpAny (model X.prog X.w) X.A (isTrue e X.env (eval e X.env)) (TP X aa σ Q) X.xe s
def PW (X:Cx) (e:Expr) (t:TT):Prop :=
 ∀ (whole:Sem Value) (aa:LO) (s:Shared) (σ:St) (H:Hp) (Q:Bool->Hp->Prop),Inv X aa σ H s->t σ H Q->wpAny (model X.prog X.w) X.A (isTrue e X.env whole) (TP X aa σ Q) X.xe s
theorem PW.pt {X:Cx} {e:Expr} {t:TT} (h:PW X e t):PT X e t:=h _
def PA (X:Cx) (es:List Expr) (t:TA):Prop :=
 ∀ (pos:Pos) (aa:LO) (s:Shared) (σ:St) (H:Hp) (Q:List V->Hp->Prop),Inv X aa σ H s->t σ H Q->wpAny (model X.prog X.w) X.A (spliced (backTo pos (starEach es X.env))) (AP X aa σ Q) X.xe s
def PS (X:Cx) (st:Stmt) (t:TS):Prop :=
 ∀ (aa:LO) (s:Shared) (σ:St) (H:Hp) (D:Ew),Inv X aa σ H s->t D σ H->wpAny (model X.prog X.w) X.A (exec st X.env) (SP X aa D) X.xe s
def PSs (X:Cx) (st:List Stmt) (t:TS):Prop :=
 ∀ (aa:LO) (s:Shared) (σ:St) (H:Hp) (D:Ew),Inv X aa σ H s->t D σ H->wpAny (model X.prog X.w) X.A (execs st X.env) (SP X aa D) X.xe s
theorem thn {α:Type} {t:Sem α} {Q Q':α->Shared->Prop} {M:Model} {A:Around} {E:VS} {s:Shared} (h:wpAny M A t Q E s) (hQ:∀ a s,Q a s->Q' a s):wpAny M A t Q' E s:=wpAny_mono h hQ fun _ _ x=>x
end L2
variable {X:L2.Cx} {H:L2.Hp} {H':L2.Hp} {s:PySem.Shared} {pos:PySem.Pos} {σ:L2.St} {P:PySem.Program} {w:PySem.World} {A:PySem.Around} {aa:LO} {x:PySem.Str} {a:PySem.Addr} {K:FG} {C:PySem.Addr} {E:VS} {h:PySem.Heap} {us:List PySem.Value} {f:PySem.Addr} {u:PySem.Value} {xs:List L2.V} {e:PySem.Expr} {te:L2.TE} {base:PySem.Heap} {N:List PySem.Str} {mg:SV}
namespace L2
open PySem PySem.Spec PyProof.Rows
section
inductive ExV (o:Option (Option V)) (k:V->Prop):Prop where
 | mk (v:V) (h:o=some (some v)) (q:k v):ExV o k
inductive ExB (x:V) (k:Bool->Prop):Prop where
 | mk (c:Bool) (h:x=.bl c) (q:k c):ExB x k
inductive ExI (x y:V) (k:Int->Int->Prop):Prop where
 | mk (i j:Int) (h:x=.int i) (h':y=.int j) (q:k i j):ExI x y k
def Os (i:Nat):TE:=fun σ H Q=>ExV σ[i]? fun v=>Q v H
def tC (v:V):TE:=fun _ H Q=>Q v H
theorem Nv {i:Nat} (hN:X.N[i]?=some x) (hv:Vis X.env.scope x) (hd:(x == ("__debug__" : Str))=false:=by decide) (hcd:(x == ("__classdict__" : Str))=false:=by decide):PE X (.Name x pos) (Os i):=by
 intro aa s σ H Q I h;obtain ⟨v,e,h⟩:=h;obtain ⟨m,hn,hl⟩:=I.loc;obtain ⟨u,r,l⟩:=hl i x v hN e hv;have fin:EP X aa σ Q u s:=⟨v,H,I,r,h⟩;rcases l with ⟨hk,hm⟩ | ⟨hk,c,hc,be⟩
 ·exact wpAny_Name (wpAny_loadName_local I.ok.kind hk hn hm fin) hd
 ·rcases hk with hk | hk
  ·exact wpAny_Name (wpAny_loadName_cell I.ok.kind hk hc be fin) hd
  ·exact wpAny_Name (wpAny_loadName_free I.ok.kind hk hc be fin hcd) hd
theorem AI {i j pos}:PE X (.Constant (.int i) j pos) (tC (.int i)):=fun _ _ _ H _ I h=>wpAny_Constant_int ⟨.int i,H,I.tok _,⟨_,rfl⟩,h⟩
theorem Ei {b j pos}:PE X (.Constant (.bool b) j pos) (tC (.bl b)):=fun _ _ _ H _ I h=>Constant_bool ⟨.bl b,H,I,rfl,h⟩
theorem Nw {j pos}:PE X (.Constant .none j pos) (tC .non):=fun _ _ _ H _ I h=>Constant_none ⟨.non,H,I,rfl,h⟩
theorem Ae {x j pos}:PE X (.Constant (.str x) j pos) (tC (.str x)):=fun _ _ _ H _ I h=>Calls.Constant_str ⟨.str x,H,I.tok _,⟨_,rfl⟩,h⟩
def Gl (X:Cx) (x:Str):Prop:=X.env.kindOf x=some .globalImplicit
theorem DE {Q:VS} (I:Inv X aa σ H s) (hg:Gl X x) (hm:X.mg x=some u) (h:Q u s)
  (hd:(x == ("__debug__" : Str))=false:=by decide):wpAny (model X.prog X.w) X.A (eval (.Name x pos) X.env) Q E s :=
 Calls.Name_function_global I.ok.kind hg (Calls.loadGlobal_global (by rw [I.ok.glob]; exact I.mod.glob.keeps I.bk) hm h) hd
theorem DR {Q:VS} (I:Inv X aa σ H s) (hg:Gl X x) (hm:X.mg x=none) (hv:bootBuiltins x=some u) (h:Q u s)
  (hn:x ≠ "__name__" := by decide) (hd:(x == ("__debug__" : Str))=false:=by decide):wpAny (model X.prog X.w) X.A (eval (.Name x pos) X.env) Q E s:=by
 obtain ⟨mb,h1,h2⟩:=I.mod.blt;exact Calls.Name_function_global I.ok.kind hg (Calls.loadGlobal_builtin (by rw [I.ok.glob]; exact I.mod.glob.keeps I.bk) hm (by rw [I.ok.blt]; exact h1.keeps I.bk) ((h2 x hn).trans hv) h) hd
theorem A5 {v:V} (hg:Gl X x) (hm:X.mg x=some u) (r:RelV v u) (hd:(x == ("__debug__" : Str))=false:=by decide):PE X (.Name x pos) (tC v) :=
 fun _ _ _ H _ I h=>DE I hg hm ⟨v,H,I,r,h⟩ hd
theorem F5 {v:V} (hg:Gl X x) (hm:X.mg x=none) (hv:bootBuiltins x=some u) (r:RelV v u) (hn:x ≠ "__name__" := by decide) (hd:(x == ("__debug__" : Str))=false:=by decide):PE X (.Name x pos) (tC v) :=
 fun _ _ _ H _ I h=>DR I hg hm hv ⟨v,H,I,r,h⟩ hn hd
variable {a b:Expr} {ta tb:TE}
def PC (X:Cx) (op:CmpOp) (a b:Expr) (t:TE):Prop :=
 ∀ (aa:LO) (s:Shared) (σ:St) (H:Hp) (Q:VK),Inv X aa σ H s->t σ H Q ->
  wpAny (model X.prog X.w) X.A (eval a X.env) (fun v s₁=>wpAny (model X.prog X.w) X.A (eval b X.env) (fun u s₂=>wpAny (model X.prog X.w) X.A (compareOp op v u) (EP X aa σ Q) X.xe s₂) X.xe s₁) X.xe s
theorem Gx (b:Expr) {op:CmpOp} (h:op ≠ .In) (h2:op ≠ .NotIn):behindInMarks op b=false:=by
 have e1:(op == CmpOp.In)=false:=by cases op <;> first | rfl | exact absurd rfl h
 have e2:(op == CmpOp.NotIn)=false:=by cases op <;> first | rfl | exact absurd rfl h2
 cases b <;> simp [behindInMarks,e1,e2]
def Pq (ta:TE):TE:=fun σ H Q=>ta σ H fun x H1=>Q (.bl (decide (x=.non))) H1
theorem RelV.none_iff {x:V} {v:Value} (r:RelV x v):(v == Value.none)=decide (x=.non):=by
 cases x with
 | non=>cases r; rfl
 | bl _=>cases r; rfl
 | int _=>obtain ⟨t,rfl⟩:=r; rfl
 | str _=>obtain ⟨t,rfl⟩:=r; rfl
 | byt _=>obtain ⟨t,rfl⟩:=r; rfl
 | flt _=>obtain ⟨t,rfl⟩:=r; rfl
 | ref _=>cases r; rfl
 | ty _=>cases r; rfl
theorem Hr {j pos'} (ha:PE X a ta):PC X .Is a (.Constant .none j pos') (Pq ta):=by
 intro aa s σ H Q I h;refine thn (ha aa s σ H _ I h) fun v s1 ⟨x,H1,I1,r1,q1⟩=>?_;exact Constant_none (is_none_gen ⟨.bl _,H1,I1,by rw [r1.none_iff]; rfl,q1⟩)
def tB (t:TE):TT:=fun σ H Q=>t σ H fun x H1=>ExB x fun c=>Q c H1
theorem Nx {op:CmpOp} {t:TE} (h:PC X op a b t) (h1:behindInMarks op b=false:=by first | exact Gx _ (by decide) (by decide) | rfl):PE X (.Compare a [op] [b] pos) t:=fun aa s σ H Q I hw=>wpAny_Compare1 (h aa s σ H Q I hw) h1
theorem EK {op:CmpOp} {t:TE} (h:PC X op a b t) (h1:behindInMarks op b=false:=by first | exact Gx _ (by decide) (by decide) | rfl):PT X (.Compare a [op] [b] pos) (tB t):=by
 intro aa s σ H Q I hw;refine wpAny_isTrue_Compare1 (thn (h aa s σ H _ I hw) fun v s1 h1=>thn h1 fun u s2 h2=>thn h2 fun c s3 ⟨x,H1,I1,r1,q1⟩=>?_) h1;obtain ⟨d,rfl,q⟩:=q1;cases r1;exact wpAny_truthy_bool ⟨H1,I1,q⟩
theorem Av {t:TE} (h:PE X e t) (he:∀ whole,isTrue e X.env whole=(do let v ← whole; standAt e.pos; holding [v] (truthy v)):=by intro _; rfl):PT X e (tB t):=by
 intro aa s σ H Q I hw;refine isTrue_plain (thn (h aa s σ H _ I hw) fun v s1 ⟨x,H1,I1,r1,q1⟩=>?_) (he _);obtain ⟨d,rfl,q⟩:=q1;cases r1;exact wpAny_truthy_bool ⟨H1,I1,q⟩
variable {tA tB':TT} {rest:List Expr}
def Ot (t u:TT):TT:=fun σ H Q=>t σ H fun c H1=>if c=true then u σ H1 Q else Q false H1
def tOr (t u:TT):TT:=fun σ H Q=>t σ H fun c H1=>if c=true then Q true H1 else u σ H1 Q
def Pr (t:TT):TT:=fun σ H Q=>t σ H fun c H1=>Q (!c) H1
theorem B4 (ha:PT X a tA):PW X (.BoolOp .And [a] pos) tA:=by
 intro wh aa s σ H Q I h;refine isTrue_and (thn (ha aa s σ H Q I h) fun c s1 e=>?_);cases c with
 | true=>exact isTrue_and_nil e
 | false=>exact e
theorem CP (ha:PT X a tA):PW X (.BoolOp .Or [a] pos) tA:=by
 intro wh aa s σ H Q I h;refine isTrue_or (thn (ha aa s σ H Q I h) fun c s1 e=>?_);cases c with
 | false=>exact isTrue_or_nil e
 | true=>exact e
theorem Cp (ha:PT X a tA) (hb:PW X (.BoolOp .And (b :: rest) pos) tB'):PW X (.BoolOp .And (a :: b :: rest) pos) (Ot tA tB'):=by
 intro wh aa s σ H Q I h;refine isTrue_and (thn (ha aa s σ H _ I h) fun c s1 ⟨H1,I1,q1⟩=>?_);cases c with
 | true=>exact hb wh aa s1 σ H1 Q I1 q1
 | false=>exact ⟨H1,I1,q1⟩
theorem Dv (ha:PT X a tA) (hb:PW X (.BoolOp .Or (b :: rest) pos) tB'):PW X (.BoolOp .Or (a :: b :: rest) pos) (tOr tA tB'):=by
 intro wh aa s σ H Q I h;refine isTrue_or (thn (ha aa s σ H _ I h) fun c s1 ⟨H1,I1,q1⟩=>?_);cases c with
 | true=>exact ⟨H1,I1,q1⟩
 | false=>exact hb wh aa s1 σ H1 Q I1 q1
theorem BH (ha:PT X a tA):PT X (.UnaryOp .Not a pos) (Pr tA):=by
 intro aa s σ H Q I h;exact isTrue_not (ha aa s σ H (fun c H1=>Q (!c) H1) I h)
def Ou (ta tb:TE):TE:=fun σ H Q=>ta σ H fun x H1=>ExB x fun c=>if c=true then tb σ H1 Q else Q (.bl false) H1
def Ps (ta tb:TE):TE:=fun σ H Q=>ta σ H fun x H1=>ExB x fun c=>if c=true then Q (.bl true) H1 else tb σ H1 Q
def Ov (ta:TE):TE:=fun σ H Q=>ta σ H fun x H1=>ExB x fun c=>Q (.bl (!c)) H1
theorem Bj {op} {t:TE} (h:PE X a t):PE X (.BoolOp op [a] pos) t:=fun aa s σ H Q I hw=>BoolOp_one (h aa s σ H Q I hw)
theorem BV (ha:PE X a ta) (hb:PE X (.BoolOp .And (b :: rest) pos) tb):PE X (.BoolOp .And (a :: b :: rest) pos) (Ou ta tb):=by
 intro aa s σ H Q I h;refine BoolOp_and (thn (ha aa s σ H _ I h) fun v s1 ⟨x,H1,I1,r1,q1⟩=>?_);obtain ⟨c,rfl,q1⟩:=q1;cases r1;refine wpAny_truthy_bool ?_;cases c with
 | true=>exact hb aa s1 σ H1 Q I1 q1
 | false=>exact ⟨.bl false,H1,I1,rfl,q1⟩
theorem Nb (ha:PE X a ta) (hb:PE X (.BoolOp .Or (b :: rest) pos) tb):PE X (.BoolOp .Or (a :: b :: rest) pos) (Ps ta tb):=by
 intro aa s σ H Q I h;refine BoolOp_or (thn (ha aa s σ H _ I h) fun v s1 ⟨x,H1,I1,r1,q1⟩=>?_);obtain ⟨c,rfl,q1⟩:=q1;cases r1;refine wpAny_truthy_bool ?_;cases c with
 | false=>exact hb aa s1 σ H1 Q I1 q1
 | true=>exact ⟨.bl true,H1,I1,rfl,q1⟩
theorem Kc (ha:PE X a ta):PE X (.UnaryOp .Not a pos) (Ov ta):=by
 intro aa s σ H Q I h;refine UnaryOp_ (thn (ha aa s σ H _ I h) fun v s1 ⟨x,H1,I1,r1,q1⟩=>?_);obtain ⟨c,rfl,q1⟩:=q1;cases r1;exact not_of (wpAny_truthy_bool ⟨.bl (!c),H1,I1,rfl,q1⟩)
def tIf (t:TT) (ta tb:TE):TE:=fun σ H Q=>t σ H fun c H1=>if c=true then ta σ H1 Q else tb σ H1 Q
theorem Bh {c:Expr} (hc:PT X c tA) (ha:PE X a ta) (hb:PE X b tb):PE X (.IfExp c a b pos) (tIf tA ta tb):=by
 intro aa s σ H Q I h;refine wpAny_IfExp (thn (hc aa s σ H _ I h) fun d s1 ⟨H1,I1,q1⟩=>?_);cases d with
 | true=>exact ha aa s1 σ H1 Q I1 q1
 | false=>exact hb aa s1 σ H1 Q I1 q1
end
end L2
namespace L2
open PySem PySem.Spec PyProof.Rows
def SqL (K:FG) (H:Hp) (a:Addr) (xs:List V):Prop :=
 Rd H a (.lst xs) \/
  ∃ (o:Obj) (its:Array Value) (n:Nat),K.lookup a=some o/\o.cls=.type "list" /\ o.dict=none/\o.data=.seq its n/\its.size <= sizeLine/\Vals xs its.toList
def SqT (K:FG) (H:Hp) (a:Addr) (xs:List V):Prop :=
 Rd H a (.tup xs) \/
  ∃ (o:Obj) (its:Array Value) (n:Nat),K.lookup a=some o/\o.cls=.type "tuple" /\ o.data=.seq its n/\its.size <= sizeLine/\Vals xs its.toList
def Pt:Value->Option V
 | .none=>some .non
 | .bool b=>some (.bl b)
 | .int i _=>some (.int i)
 | .str x _=>some (.str x)
 | .bytes b _=>some (.byt b)
 | .float b _=>some (.flt b)
 | .ref a=>some (.ref a)
 | .type n=>some (.ty n)
 | _=>none
theorem RelV.abs {x:V} (r:RelV x u):Pt u=some x:=by
 cases x with
 | non=>cases r; rfl
 | bl _=>cases r; rfl
 | int _=>obtain ⟨t,rfl⟩:=r; rfl
 | str _=>obtain ⟨t,rfl⟩:=r; rfl
 | byt _=>obtain ⟨t,rfl⟩:=r; rfl
 | flt _=>obtain ⟨t,rfl⟩:=r; rfl
 | ref _=>cases r; rfl
 | ty _=>cases r; rfl
theorem RelV.inj {x y:V} {u:Value} (r:RelV x u) (q:RelV y u):x=y:=Option.some.inj (r.abs.symm.trans q.abs)
theorem Vals.inj:∀ {xs ys:List V} {us:List Value},Vals xs us->Vals ys us->xs=ys
 | _,_,_,.nil,.nil=>rfl
 | _,_,_,.cons r t,.cons r' t'=>by rw [r.inj r',Vals.inj t t']
section
variable {ys:List V}
theorem SqL.of (h:H a=some (.lst xs)):SqL K H a xs:=.inl (.inl h)
theorem SqT.of (h:H a=some (.tup xs)):SqT K H a xs:=.inl (.inl h)
theorem Inv.list (I:Inv X aa σ H s) (h:SqL X.K H a xs):∃ its:List Value,Vals xs its/\PlainL s.heap a its.toArray/\xs.length <= sizeLine:=by
 rcases h with h | ⟨o,its,n,hk,hc,hd,hs,hz,r⟩
 ·obtain ⟨z,its,n,r,e⟩:=h.ok I.hok;exact ⟨its,r,⟨_,n,e,rfl,rfl,rfl⟩,z⟩
 ·refine ⟨its.toList,r,⟨o,n,I.kIn a o hk,hc,hd,by simpa using hs⟩,?_⟩;have e:=r.length;simp only [Array.length_toList] at e;omega
theorem Inv.tuple (I:Inv X aa σ H s) (h:SqT X.K H a xs):∃ its:List Value,Vals xs its/\IsTup s.heap a its.toArray/\xs.length <= sizeLine:=by
 rcases h with h | ⟨o,its,n,hk,hc,hs,hz,r⟩
 ·obtain ⟨z,its,r,p⟩:=h.ok I.hok;exact ⟨its,r,p,z⟩
 ·refine ⟨its.toList,r,⟨o,I.kIn a o hk,hc,n,by simpa using hs⟩,?_⟩;have e:=r.length;simp only [Array.length_toList] at e;omega
theorem Inv.list_inj (I:Inv X aa σ H s) (h:SqL X.K H a xs) (h':SqL X.K H a ys):xs=ys:=by
 obtain ⟨its,r,⟨o,n,e,_,_,d⟩,_⟩:=I.list h;obtain ⟨its',r',⟨o',n',e',_,_,d'⟩,_⟩:=I.list h';rw [e] at e'; cases e';rw [d] at d';injection d' with d1 _
 have:its=its':=by simpa using congrArg Array.toList d1
 subst this;exact r.inj r'
theorem Inv.tuple_inj (I:Inv X aa σ H s) (h:SqT X.K H a xs) (h':SqT X.K H a ys):xs=ys:=by
 obtain ⟨its,r,⟨o,e,_,n,d⟩,_⟩:=I.tuple h;obtain ⟨its',r',⟨o',e',_,n',d'⟩,_⟩:=I.tuple h';rw [e] at e'; cases e';rw [d] at d';injection d' with d1 _
 have:its=its':=by simpa using congrArg Array.toList d1
 subst this;exact r.inj r'
end
abbrev Cx.wish (X:Cx) (E:VS):Cx:={ X with xe:=E }
abbrev Cx.nox (X:Cx):Cx:=X.wish fun _ _=>False
theorem Cx.Ok.wish {X:Cx} (ok:X.Ok) (E:VS):(X.wish E).Ok :=
 ⟨ok.mod,ok.kind,ok.glob,ok.blt,ok.above,ok.inj,ok.has,ok.cab,ok.hd,ok.frames,ok.stk,ok.exf,ok.bs,ok.bsz,ok.noex,ok.exfs,ok.funs,ok.frf⟩
theorem Cx.Ok.unwish (ok:(X.wish E).Ok):X.Ok :=
 ⟨ok.mod,ok.kind,ok.glob,ok.blt,ok.above,ok.inj,ok.has,ok.cab,ok.hd,ok.frames,ok.stk,ok.exf,ok.bs,ok.bsz,ok.noex,ok.exfs,ok.funs,ok.frf⟩
section
theorem Inv.wish (I:Inv X aa σ H s) (E:VS):Inv (X.wish E) aa σ H s:=⟨I.ok.wish E,I.os,I.bare,I.base,I.loc,I.cell,I.free,I.freeC,I.pin,I.hok,I.len⟩
theorem Inv.unwish (I:Inv (X.wish E) aa σ H s):Inv X aa σ H s:=⟨I.ok.unwish,I.os,I.bare,I.base,I.loc,I.cell,I.free,I.freeC,I.pin,I.hok,I.len⟩
theorem SP.unwish {D:Ew} {f:Flow} {s':Shared} (h:SP (X.wish E) aa D f s'):SP X aa D f s':=by
 cases f with
 | next=>obtain ⟨σ',H',I,q⟩:=h; exact ⟨σ',H',I.unwish,q⟩
 | brk=>obtain ⟨σ',H',I,q⟩:=h; exact ⟨σ',H',I.unwish,q⟩
 | cont=>obtain ⟨σ',H',I,q⟩:=h; exact ⟨σ',H',I.unwish,q⟩
 | ret u=>obtain ⟨v,σ',H',I,r,q⟩:=h; exact ⟨v,σ',H',I.unwish,r,q⟩
theorem PSs.nox {st:List Stmt} {t:TS} (h:PSs X.nox st t):PSs X st t:=fun aa s σ H D I hw =>
 wpAny_mono (h aa s σ H D (I.wish _) hw) (fun _ _ q=>q.unwish) fun _ _ z=>False.elim z
end
section
variable {st:Stmt} {rest:List Stmt} {t u:TS}
def Ow:TS:=fun D σ H=>D.nx σ H
def Pu (t u:TS):TS:=fun D σ H=>t { D with nx:=u D } σ H
theorem AU:PSs X [] Ow:=fun _ _ σ H _ I h=>wpAny_execs_nil ⟨σ,H,I,h⟩
theorem AE (h1:PS X st t) (h2:PSs X rest u):PSs X (st :: rest) (Pu t u):=by
 intro aa s σ H D I h;refine wpAny_execs_cons (thn (h1 aa s σ H { D with nx:=u D } I h) fun f s1 q=>?_);cases f with
 | next =>
  obtain ⟨σ',H',I',q⟩:=q;exact h2 aa s1 σ' H' D I' q
 | ret v=>exact q
 | brk=>exact q
 | cont=>exact q
theorem AD (h1:PS X st t):PSs X [st] t:=by
 intro aa s σ H D I h;refine wpAny_execs_cons (thn (h1 aa s σ H D I h) fun f s1 q=>?_);cases f with
 | next=>exact wpAny_execs_nil q
 | ret v=>exact q
 | brk=>exact q
 | cont=>exact q
theorem Inv.quiet (I:Inv X aa σ H s):interactive X.env=false:=by simp [interactive,I.ok.kind]
def Ox (te:TE):TS:=fun D σ H=>te σ H fun _ H1=>D.nx σ H1
theorem A9 (he:PE X e te) (hs:swapsWith e none pos.line X.env=pure false:=by rfl):PS X (.Expr e pos) (Ox te):=by
 intro aa s σ H D I h;exact wpAny_Expr_any (thn (he aa s σ H _ I h) fun v s1 ⟨x,H1,I1,r1,q1⟩=>⟨σ,H1,I1,q1⟩) I.quiet hs
def Pw (te:TE):TS:=fun D σ H=>te σ H D.rt
theorem AM (he:PE X e te):PS X (.Return (some e) pos) (Pw te):=by
 intro aa s σ H D I h;exact wpAny_Return_some (thn (he aa s σ H _ I h) fun v s1 ⟨x,H1,I1,r1,q1⟩=>⟨x,σ,H1,I1,r1,q1⟩)
def Px (c:TT) (t u:TS):TS:=fun D σ H=>c σ H fun b H1=>if b=true then t D σ H1 else u D σ H1
theorem Ag {c:Expr} {a b:List Stmt} {tc:TT} (hc:PT X c tc) (ha:PSs X a t) (hb:PSs X b u):PS X (.If c a b pos) (Px tc t u):=by
 intro aa s σ H D I h;refine wpAny_If (thn (hc aa s σ H _ I h) fun d s1 ⟨H1,I1,q1⟩=>?_);cases d with
 | true=>exact ha aa s1 σ H1 D I1 q1
 | false=>exact hb aa s1 σ H1 D I1 q1
def Ny:TS:=fun _ _ _=>False
theorem AW:PS X st Ny:=fun _ _ _ _ _ _ h=>h.elim
end
abbrev TG:=V->St->Hp->(St->Hp->Prop)->Prop
abbrev TGs:=List V->St->Hp->(St->Hp->Prop)->Prop
def PG (X:Cx) (target:Expr) (t:TG):Prop :=
 ∀ (aa:LO) (s:Shared) (σ:St) (H:Hp) (v:V) (u:Value) (Q:St->Hp->Prop),Inv X aa σ H s->RelV v u->t v σ H Q ->
  wpAny (model X.prog X.w) X.A (assign target X.env u) (fun _ s'=>∃ σ' H',Inv X aa σ' H' s'/\Q σ' H') X.xe s
def PGs (X:Cx) (ts:List Expr) (t:TGs):Prop :=
 ∀ (aa:LO) (s:Shared) (σ:St) (H:Hp) (vs:List V) (us:List Value) (Q:St->Hp->Prop),Inv X aa σ H s->Vals vs us->t vs σ H Q ->
  wpAny (model X.prog X.w) X.A (assignInOrder ((assignEach ts X.env).map (·.2)) us) (fun _ s'=>∃ σ' H',Inv X aa σ' H' s'/\Q σ' H') X.xe s
abbrev Nz:=V->V->V->Hp->(Hp->Prop)->Prop
def Oy (X:Cx) (t:Nz):Prop :=
 ∀ (aa:LO) (s:Shared) (σ:St) (H:Hp) (o i v:V) (ov iv u:Value) (Q:Hp->Prop),Inv X aa σ H s->RelV o ov->RelV i iv->RelV v u->t o i v H Q ->
  wpAny (model X.prog X.w) X.A (setItem ov iv u) (fun _ s'=>∃ H',Inv X aa σ H' s'/\Q H') X.xe s
abbrev TIp:=V->V->Hp->VK->Prop
def PIp (X:Cx) (op:Operator) (t:TIp):Prop :=
 ∀ (aa:LO) (s:Shared) (σ:St) (H:Hp) (x y:V) (v u:Value) (Q:VK),Inv X aa σ H s->RelV x v->RelV y u->t x y H Q ->
  wpAny (model X.prog X.w) X.A (inplaceOp op v u) (EP X aa σ Q) X.xe s
section
def Ch (i:Nat):TG:=fun v σ H Q=>Q (σ.set i (some v)) H
theorem AY {i:Nat} (hN:X.N.Nodup) (hi:X.N[i]?=some x) (hx:Loc X.env.scope x) (hf:X.fn x=true\/X.env.scope.names.lookup x=some .local:=by first | exact .inl rfl | exact .inr rfl | assumption):PG X (.Name x pos) (Ch i):=by
 intro aa s σ H v u Q I r h;exact wpAny_assign_Name (Bg I hN hi hx r (fun s' I'=>⟨_,H,I',h⟩) hf)
def MU:TGs:=fun vs σ H Q=>vs=[]/\Q σ H
inductive ExC (vs:List V) (k:V->List V->Prop):Prop where
 | mk (v:V) (r:List V) (h:vs=v :: r) (q:k v r):ExC vs k
def Ex (t:TG) (u:TGs):TGs:=fun vs σ H Q=>ExC vs fun v r=>t v σ H fun σ' H'=>u r σ' H' Q
theorem BM:PGs X [] MU:=by
 intro aa s σ H vs us Q I r h;obtain ⟨e,h⟩:=h;subst e;cases r;exact assignInOrder_nil ⟨σ,H,I,h⟩
theorem Ab {es:List Expr} {t:TG} {u:TGs} (h1:PG X e t) (h2:PGs X es u)
  (hs:(assignEach (e :: es) X.env).map (·.2)=assign e X.env :: (assignEach es X.env).map (·.2):=by rfl):PGs X (e :: es) (Ex t u):=by
 intro aa s σ H vs us Q I r h;obtain ⟨v,vr,e1,h⟩:=h;subst e1;cases r with
 | cons r rr =>
  rw [hs];refine assignInOrder_cons (thn (h1 aa s σ H _ _ _ I r h) fun _ s1 ⟨σ1,H1,I1,q1⟩=>?_);exact h2 aa s1 σ1 H1 _ _ Q I1 rr q1
inductive ExT (K:FG) (n:Nat) (v:V) (H:Hp) (k:List V->Prop):Prop where
 | mk (a:Addr) (xs:List V) (h1:v=.ref a) (h2:SqT K H a xs) (h3:xs.length=n) (q:k xs):ExT K n v H k
def MW (K:FG) (n:Nat) (t:TGs):TG:=fun v σ H Q=>ExT K n v H fun xs=>t xs σ H Q
theorem Bk {es:List Expr} {k:Nat} {t:TGs} {n:Nat} (hc:X.calm=true) (h:PGs X es t)
  (hn:(assignEach es X.env).length=n:=by rfl) (hst:(assignEach es X.env).findIdx? (·.1)=none:=by rfl):PG X (.Tuple es k pos) (MW X.K n t):=by
 intro aa s σ H v u Q I r hw;obtain ⟨a,xs,e1,hq,hl,hw⟩:=hw;subst e1;cases r;obtain ⟨its,rv,ht,hz⟩:=I.tuple hq;refine assign_Tuple_tuple (I.ok.hd hc) ht (by simp [hn,← hl,rv.length]) hst fun h' hx=>?_;have I1:Inv X aa σ H { s with heap:=h' }:=I.kept (t':=s.toks) fun b o e=>hx b o (Nat.ne_of_lt (lt_size e)) e;exact h aa _ σ H xs _ Q I1 (by simpa using rv) hw
def Py (to ti:TE) (t:Nz):TG:=fun v σ H Q=>to σ H fun o H1=>ti σ H1 fun i H2=>t o i v H2 fun H3=>Q σ H3
theorem Hs {o i:Expr} {to ti:TE} {t:Nz} (ho:PE X o to) (hi:PE X i ti) (hs:Oy X t)
  (ha:∀ v,assign (.Subscript o i pos) X.env v=(do
   let ov ← holding [v] (eval o X.env)
   let iv ← holding [v,ov] (eval i X.env)
   standAt pos
   holding [v,ov,iv] (setItem ov iv v)
   release [v,ov,iv] []):=by intro _; rfl):PG X (.Subscript o i pos) (Py to ti t):=by
 intro aa s σ H v u Q I r h;rw [ha];refine wpAny_bind (wpAny_holding (thn (ho aa s σ H _ I h) fun ov s1 ⟨x,H1,I1,r1,q1⟩=>?_));refine wpAny_bind (wpAny_holding (thn (hi aa s1 σ H1 _ I1 q1) fun iv s2 ⟨y,H2,I2,r2,q2⟩=>?_));refine wpAny_bind (wpAny_standAt (wpAny_bind (wpAny_holding (thn (hs aa s2 σ H2 x y v ov iv u _ I2 r1 r2 r q2) fun _ s3 ⟨H3,I3,q3⟩=>?_))));exact wpAny_release ⟨σ,H3,I3,q3⟩
def Oz (te:TE) (g:TG):TS:=fun D σ H=>te σ H fun x H1=>g x σ H1 D.nx
theorem Cq {tg:Expr} {g:TG} (he:PE X e te) (hg:PG X tg g) (hs:swapsWithSole [tg] e pos.line X.env=pure false:=by rfl) (hw:swappedStores [tg] e X.env=pure none:=by rfl)
  (h1:(assignEach [tg] X.env).map (·.2)=[assign tg X.env]:=by rfl):PS X (.Assign [tg] e pos) (Oz te g):=by
 intro aa s σ H D I h;refine wpAny_Assign_stores (thn (he aa s σ H _ I h) fun v s1 ⟨x,H1,I1,r1,q1⟩=>?_) hs hw;rw [h1];exact thn (hg aa s1 σ H1 x v _ I1 r1 q1) fun _ s2 q=>q
theorem Ac {i:Nat} {pos':Pos} (hN:X.N.Nodup) (hi:X.N[i]?=some x) (hx:Loc X.env.scope x) (he:PE X e te) (hs:swapsWith e (some (.Name x pos')) pos.line X.env=pure false:=by rfl) (hf:X.fn x=true\/X.env.scope.names.lookup x=some .local:=by first | exact .inl rfl | exact .inr rfl | assumption) :
  PS X (.Assign [.Name x pos'] e pos) (Oz te (Ch i)):=by
 intro aa s σ H D I h;refine wpAny_Assign_Name (thn (he aa s σ H _ I h) fun v s1 ⟨y,H1,I1,r1,q1⟩=>?_) hs;exact Bg I1 hN hi hx r1 (fun s2 I2=>⟨_,H1,I2,q1⟩) hf
def Pz (i j:Nat) (ta:TA):TS:=fun D σ H=>ta σ H fun vs H1=>∃ v w,vs=[v,w]/\D.nx ((σ.set i (some v)).set j (some w)) H1
theorem N0 {i j:Nat} {y:Str} {a b:Expr} {ta:TA} {px py pt:Pos} {kt k2 pt2} (hc:X.calm=true) (hN:X.N.Nodup) (hi:X.N[i]?=some x) (hj:X.N[j]?=some y) (hij:i ≠ j)
  (hx:X.env.scope.names.lookup x=some .local) (hy:X.env.scope.names.lookup y=some .local) (ha:PA X [a,b] ta)
  (hw:swappedStores [.Tuple [.Name x px,.Name y py] kt pt] (.Tuple [a,b] k2 pt2) X.env=pure (some [x,y]))
  (hs:swapsWithSole [.Tuple [.Name x px,.Name y py] kt pt] (.Tuple [a,b] k2 pt2) pos.line X.env=pure false:=by rfl) :
  PS X (.Assign [.Tuple [.Name x px,.Name y py] kt pt] (.Tuple [a,b] k2 pt2) pos) (Pz i j ta):=by
 intro aa s σ H D I h;rw [exec_Assign_arm];refine wpAny_bind (wpAny_standAt ?_);rw [hs];refine wpAny_bind (wpAny_pure ?_);rw [if_neg (by decide)];refine wpAny_bind (Tuple_ (thn (ha _ aa s σ H _ I h) fun us s1 ⟨vs,H1,I1,r1,q1⟩=>?_));obtain ⟨v,w,e1,q1⟩:=q1;subst e1
 obtain ⟨u1,u2,rfl,rv,rw'⟩:∃ u1 u2,us=[u1,u2]/\RelV v u1/\RelV w u2:=by
  cases r1 with
  | cons p q =>
   cases q with
   | cons p' q' =>
    cases q';exact ⟨_,_,rfl,p,p'⟩
 refine wpAny_newObj_type ?_ sl2;have I2:Inv X aa σ H1 { s1 with heap:=s1.heap.push { cls:=.type "tuple", data:=.seq [u1,u2].toArray } }:=I1.kept (t':=s1.toks) fun b o e=>get?_push_of_some _ e;rw [hw];refine wpAny_bind (wpAny_pure ?_);show wpAny (model X.prog X.w) X.A (do rule "assign.swapped-stores"; let items ← unpackItems (.ref s1.heap.objs.size) 2 none; assignInOrder [fun v=>bindName X.env y v,fun v=>bindName X.env x v] items.reverse; pure Flow.next) _ _ _;refine wpAny_bind (wpAny_rule (wpAny_bind (unpackItems_tuple (items:=#[u1,u2]) (I.ok.hd hc) (IsTup.new s1.heap _) fun h' hx'=>?_)));have I3:=I2.kept (h':=h') (t':=s1.toks) fun b o e=>hx' b o (Nat.ne_of_lt (lt_size e)) e;show wpAny _ _ (assignInOrder [fun v=>bindName X.env y v,fun v=>bindName X.env x v] [u2,u1] >>= fun _=>pure Flow.next) _ _ _;refine wpAny_bind (assignInOrder_cons (wpAny_bindName (Bg I3 hN hj (.inl hy) rw' (fun s2 I4=>?_) (.inr hy))));refine assignInOrder_cons (wpAny_bindName (Bg I4 hN hi (.inl hx) rv (fun s3 I5=>assignInOrder_nil (wpAny_pure ?_)) (.inr hx)));rw [List.set_comm _ _ (Ne.symm hij)] at I5;exact ⟨_,H1,I5,q1⟩
def P1 (i:Nat) (te:TE) (ti:TIp):TS:=fun D σ H=>∃ x,σ[i]?=some (some x)/\te σ H fun y H1=>ti x y H1 fun z H2=>D.nx (σ.set i (some z)) H2
theorem Ht {i:Nat} {op:Operator} {ti:TIp} {pos':Pos} (hN:X.N.Nodup) (hi:X.N[i]?=some x) (hx:Loc X.env.scope x) (he:PE X e te) (ho:PIp X op ti) (hf:X.fn x=true\/X.env.scope.names.lookup x=some .local:=by first | exact .inl rfl | exact .inr rfl | assumption) :
  PS X (.AugAssign (.Name x pos') op e pos) (P1 i te ti):=by
 intro aa s σ H D I h;obtain ⟨v,e1,h⟩:=h;obtain ⟨m,hn,hl⟩:=I.loc;have vis:Vis X.env.scope x:=by rcases hx with k | k; exact .inl k; exact .inr (.inl k)
 obtain ⟨u,r,l⟩:=hl i x v hi e1 vis;refine wpAny_AugAssign_Name ?_
 have go:wpAny (model X.prog X.w) X.A (eval e X.env) (fun w s₂=>wpAny (model X.prog X.w) X.A (inplaceOp op u w) (fun r s₃=>wpAny (model X.prog X.w) X.A (storeName X.env x r) (fun _=>SP X aa D .next) X.xe s₃) X.xe s₂) X.xe s:=by
  refine thn (he aa s σ H _ I h) fun w s1 ⟨y,H1,I1,r1,q1⟩=>?_;refine thn (ho aa s1 σ H1 v y u w _ I1 r r1 q1) fun z s2 ⟨zv,H2,I2,r2,q2⟩=>?_;exact Bg I2 hN hi hx r2 (fun s3 I3=>⟨_,H2,I3,q2⟩) hf
 rcases l with ⟨hk,hm⟩ | ⟨hk,c,hc,be⟩
 ·exact wpAny_loadName_local I.ok.kind hk hn hm go
 ·rcases hk with hk | hk
  ·exact wpAny_loadName_cell I.ok.kind hk hc be go
  ·rcases hx with k | k
   ·have:X.env.scope.names.lookup x=some .free:=hk;rw [k] at this; cases this
   ·have:X.env.scope.names.lookup x=some .free:=hk;rw [k] at this; cases this
end
section
def Kd (c:TT) (tb:TS):TS:=fun D σ H=>∃ W:Nat->St->Hp->Prop,(∃ m,W m σ H)/\∀ m σ H,W m σ H ->
 c σ H fun b H1=>if b=true then ∃ N:St->Hp->Prop,(∀ σ' H',N σ' H'->∃ m',m' < m/\W m' σ' H')/\tb { D with nx:=N,ct:=N,bk:=D.nx } σ H1 else D.nx σ H1
theorem Dw {c:Expr} {body:List Stmt} {tc:TT} {tb:TS} (hp:PassesOwn (model X.prog X.w) X.A X.env X.xe) (hc:PT X c tc) (hb:PSs X body tb):PS X (.While c body [] pos) (Kd tc tb):=by
 intro aa s σ H D I h;obtain ⟨W,⟨m0,w0⟩,turn⟩:=h;refine wpAny_While (codeAny_whileLoop (fun n s'=>∃ σ' H',Inv X aa σ' H' s'/\W n σ' H') ?_ m0 ⟨σ,H,I,w0⟩);rintro n s1 ⟨σ1,H1,I1,w1⟩;refine wpAny_passesOwn hp (thn (hc aa s1 σ1 H1 _ I1 (turn n σ1 H1 w1)) fun b s2 ⟨H2,I2,q2⟩=>?_);cases b with
 | true =>
  obtain ⟨N,hN,q2⟩:=q2;rw [if_pos rfl];refine wpAny_passesOwn hp (thn (hb aa s2 σ1 H2 _ I2 q2) fun f s3 q3=>?_);cases f with
  | next =>
   obtain ⟨σ3,H3,I3,n3⟩:=q3;obtain ⟨m',hm,w3⟩:=hN σ3 H3 n3;exact ⟨m',hm,σ3,H3,I3,w3⟩
  | cont =>
   obtain ⟨σ3,H3,I3,n3⟩:=q3;obtain ⟨m',hm,w3⟩:=hN σ3 H3 n3;exact ⟨m',hm,σ3,H3,I3,w3⟩
  | brk=>exact q3
  | ret v=>exact q3
 | false =>
  rw [if_neg Bool.false_ne_true];exact wpAny_execs_nil ⟨σ1,H2,I2,q2⟩
end
structure It where
 go:Nat->Hp->Prop
 yld:Nat->Hp->V->Hp->Prop
 stop:Nat->Hp->Prop
def EL (X:Cx) (aa:LO) (H:Hp) (b:Addr):Prop :=
 H b=none/\b ≠ X.env.locals/\b ∉ X.fs/\(b ∈ X.ex\/X.s₀.heap.objs.size <= b)/\(∀ x c,X.env.cells.lookup x=some c->c ≠ b)/\∀ p ∈ X.pn++aa,p.1 ≠ b
theorem Inv.fpOk {b:Addr} (I:Inv X aa σ H s) (hb:s.heap.objs.size <= b) (hn:H' b=none):EL X aa H' b:=by
 refine ⟨hn,Nat.ne_of_gt (Nat.lt_of_lt_of_le I.lt hb),I.nofs hb,.inr (Nat.le_trans I.sz hb),fun x c e z=>?_,fun p hp z=>?_⟩
 ·obtain ⟨v,q⟩:=I.cell x c e;exact absurd (Nat.lt_of_lt_of_le q.lt (by rw [z]; exact hb)) (Nat.lt_irrefl _)
 ·exact absurd (Nat.lt_of_lt_of_le (lt_size (I.pin p hp).1) (by rw [z]; exact hb)) (Nat.lt_irrefl _)
structure Gy (P:Program) (w:World) (K:FG) (tg:Expr) (J:It) (fp:List Addr) (it:Addr) (tn:Nat->Heap->Prop):Prop where
 mem:it ∈ fp
 obj:∀ i h,tn i h->∀ b ∈ fp,∃ o,h.get? b=some o/\∀ v,o.data ≠ .cell v
 keep:∀ i h h',tn i h->(∀ b ∈ fp,∀ o,h.get? b=some o->h'.get? b=some o)->tn i h'
 item:∀ (X:Cx),X.prog=P->X.w=w->X.K=K->X.calm=true->∀ (i:Nat) (aa:LO) (s:Shared) (σ:St) (H:Hp) (E:VS),Inv X aa σ H s->(∀ b ∈ fp,EL X aa H b)->tn i s.heap->J.go i H ->
  wpAny (model P w) X.A (pyNext (.ref it)) (fun r s1=>∃ u,r=some u /\
   wpAny (model P w) X.A (letOwnedTupleGo tg (.ref it) u) (fun _ s2=>∃ x H',Inv X aa σ H' s2/\RelV x u/\J.yld i H x H'/\tn (i + 1) s2.heap/\∀ b ∈ fp,H' b=none) E s1) E s
 done:∀ (X:Cx),X.prog=P->X.w=w->X.K=K->X.calm=true->∀ (i:Nat) (aa:LO) (s:Shared) (σ:St) (H:Hp) (E:VS),Inv X aa σ H s->(∀ b ∈ fp,EL X aa H b)->tn i s.heap->J.stop i H ->
  wpAny (model P w) X.A (pyNext (.ref it)) (fun r s1=>r=none/\Inv X aa σ H s1) E s
 self:∀ (A:Around) (i:Nat) (s:Shared) (Q:VS) (E:VS),tn i s.heap->Q (.ref it) s->wpAny (model P w) A (pyIter (.ref it)) Q E s
abbrev TI:=St->Hp->(It->Hp->Prop)->Prop
def PIE (X:Cx) (aa:LO) (σ:St) (tg:Expr) (R:It->Hp->Prop) (itv:Value) (s2:Shared):Prop :=
 ∃ (it:Addr) (fp:List Addr) (tn:Nat->Heap->Prop) (J:It) (H':Hp),itv=.ref it/\Inv X aa σ H' s2/\Gy X.prog X.w X.K tg J fp it tn/\tn 0 s2.heap/\(∀ b ∈ fp,EL X aa H' b)/\R J H'
def PI (X:Cx) (tg iter:Expr) (wi:TI):Prop :=
 ∀ (aa:LO) (s:Shared) (σ:St) (H:Hp) (R:It->Hp->Prop),Inv X aa σ H s->wi σ H R ->
  wpAny (model X.prog X.w) X.A (eval iter X.env) (fun v s1=>wpAny (model X.prog X.w) X.A (pyIter v) (PIE X aa σ tg R) X.xe s1) X.xe s
theorem Ke {M:Model} {tg:Expr} {it:Addr} {o:Obj} {n:String} {vs:Array Value} {Q:Unit->Shared->Prop} (ho:s.heap.get? it=some o) (hc:o.cls=.type n) (hd:o.data=.fields vs)
    (hn:["enumerate", "zip", "dict_itemiterator", "dict_reverseitemiterator", "odict_iterator", "itertools.zip_longest", "itertools.pairwise"].contains n=false) (hQ:Q () s):wpAny M A (letOwnedTupleGo tg (.ref it) u) Q E s:=by
  unfold letOwnedTupleGo
  cases tg <;> first
    | exact wpAny_pure hQ
    | (cases u <;> first
        | exact wpAny_pure hQ
        | (refine wpAny_bind (wpAny_load ho ?_)
           rw [hc,hd];show wpAny M A (if (["enumerate", "zip", "dict_itemiterator", "dict_reverseitemiterator", "odict_iterator", "itertools.zip_longest", "itertools.pairwise"].contains n && vs[0]? == some (rawInt _))=true then _ else _) Q E s;rw [if_neg (by intro h; rw [hn,Bool.false_and] at h; cases h)]
           exact wpAny_pure hQ))
def Itl (K:FG) (a:Addr):It :=
 ⟨fun i H=>∃ xs x,SqL K H a xs/\xs[i]?=some x,fun i H x H'=>H'=H/\∀ xs,SqL K H a xs->xs[i]?=some x,fun i H=>∃ xs,SqL K H a xs/\xs.length <= i⟩
def Itt (K:FG) (a:Addr):It :=
 ⟨fun i H=>∃ xs x,SqT K H a xs/\xs[i]?=some x,fun i H x H'=>H'=H/\∀ xs,SqT K H a xs->xs[i]?=some x,fun i H=>∃ xs,SqT K H a xs/\xs.length <= i⟩
def Itr (lo:Int) (n:Nat):It:=⟨fun i _=>i < n,fun i H x H'=>H'=H/\x=.int (lo + i),fun i _=>n <= i⟩
theorem Je {tg:Expr} (a it:Addr):Gy P w K tg (Itl K a) [it] it (fun i h=>h.IsListIter it a i) where
 mem:=by simp
 obj:=fun i h st b hb=>by
  have e:b=it:=by simpa using hb
  subst e;obtain ⟨o,e,c,d⟩:=st;exact ⟨o,e,fun v z=>by rw [d] at z; cases z⟩
 keep:=fun i h h' st k=>st.at fun o e=>k it (by simp) o e
 item:=by
  intro X hP hw hK hc i aa s σ H E I hf st hg;subst hP hw hK;obtain ⟨xs,x,hq,hx⟩:=hg;obtain ⟨its,rv,p,hz⟩:=I.list hq;obtain ⟨u,hu,ru⟩:=rv.get hx;obtain ⟨f0,f1,f2,f3,f4,f5⟩:=hf it (by simp);refine wpAny_pyNext_list_item st p.isList (x:=u) (by simpa using hu) fun h' st' sb=>?_;have I1:Inv X aa σ H { s with heap:=h' }:=I.turned (t':=s.toks) (fun b o hb e=>(sb.2 b hb).trans e) f0 f1 f3 f4 f5;obtain ⟨o,e,c,d⟩:=id st';exact ⟨u,rfl,Ke (s:={ s with heap:=h' }) e c d (by decide) ⟨x,H,I1,ru,⟨rfl,fun ys hy=>by rw [I.list_inj hy hq]; exact hx⟩,st',fun b hb=>(hf b hb).1⟩⟩
 done:=by
  intro X hP hw hK hc i aa s σ H E I hf st hg;subst hP hw hK;obtain ⟨xs,hq,hx⟩:=hg;obtain ⟨its,rv,p,hz⟩:=I.list hq;obtain ⟨f0,f1,f2,f3,f4,f5⟩:=hf it (by simp);have hl:=rv.length;exact wpAny_pyNext_list_end (I.ok.hd hc) st p.isList (by simp; omega) fun h' eb=>⟨rfl,I.turned (t':=s.toks) (fun b o hb e=>eb b o hb e) f0 f1 f3 f4 f5⟩
 self:=fun _ _ _ _ _ st h=>wpAny_pyIter_listiter st h
theorem Hu {tg:Expr} (a it:Addr):Gy P w K tg (Itt K a) [it] it (fun i h=>h.IsTupleIter it a i) where
 mem:=by simp
 obj:=fun i h st b hb=>by
  have e:b=it:=by simpa using hb
  subst e;obtain ⟨o,e,c,d⟩:=st;exact ⟨o,e,fun v z=>by rw [d] at z; cases z⟩
 keep:=fun i h h' st k=>st.at fun o e=>k it (by simp) o e
 item:=by
  intro X hP hw hK hc i aa s σ H E I hf st hg;subst hP hw hK;obtain ⟨xs,x,hq,hx⟩:=hg;obtain ⟨its,rv,p,hz⟩:=I.tuple hq;obtain ⟨u,hu,ru⟩:=rv.get hx;obtain ⟨f0,f1,f2,f3,f4,f5⟩:=hf it (by simp);refine wpAny_pyNext_tuple_item st (show s.heap.IsTuple a its.toArray from p) (x:=u) (by simpa using hu) fun h' st' sb=>?_;have I1:Inv X aa σ H { s with heap:=h' }:=I.turned (t':=s.toks) (fun b o hb e=>(sb.2 b hb).trans e) f0 f1 f3 f4 f5;obtain ⟨o,e,c,d⟩:=id st';exact ⟨u,rfl,Ke (s:={ s with heap:=h' }) e c d (by decide) ⟨x,H,I1,ru,⟨rfl,fun ys hy=>by rw [I.tuple_inj hy hq]; exact hx⟩,st',fun b hb=>(hf b hb).1⟩⟩
 done:=by
  intro X hP hw hK hc i aa s σ H E I hf st hg;subst hP hw hK;obtain ⟨xs,hq,hx⟩:=hg;obtain ⟨its,rv,p,hz⟩:=I.tuple hq;obtain ⟨f0,f1,f2,f3,f4,f5⟩:=hf it (by simp);have hl:=rv.length;exact wpAny_pyNext_tuple_end (I.ok.hd hc) st (show s.heap.IsTuple a its.toArray from p) (by simp; omega) fun h' eb=>⟨rfl,I.turned (t':=s.toks) (fun b o hb e=>eb b o hb e) f0 f1 f3 f4 f5⟩
 self:=fun _ _ _ _ _ st h=>wpAny_pyIter_tupleiter st h
theorem Hv {tg:Expr} (it:Addr) (lo:Int) (n:Nat):Gy P w K tg (Itr lo n) [it] it (fun i h=>IsRangeIter h it (lo + (i:Nat) * 1) ((n:Int) - (i:Nat)) 1) where
 mem:=by simp
 obj:=fun i h st b hb=>by
  have e:b=it:=by simpa using hb
  subst e
  exact ⟨_,st,fun v z=>by
   have z':Data.fields _=Data.cell v:=z
   cases z'⟩
 keep:=fun i h h' st k=>k it (by simp) _ st
 item:=by
  intro X hP hw hK hc i aa s σ H E I hf st hg;subst hP hw hK;obtain ⟨f0,f1,f2,f3,f4,f5⟩:=hf it (by simp);have W:=Walks.range (prog:=X.prog) (w:=X.w) (I.ok.hd hc) it lo 1 n;refine W.item i s _ _ hg st fun v h' tk hv st' kk=>?_;obtain ⟨t,rfl⟩:=hv;have I1:Inv X aa σ H { s with heap:=h',toks:=tk }:=I.turned (fun b o hb e=>kk b o (by simpa using hb) e) f0 f1 f3 f4 f5;refine ⟨_,rfl,Ke (s:={ s with heap:=h',toks:=tk }) (n := "range_iterator") st' rfl rfl (by decide) ⟨.int (lo + i),H,I1,⟨t,?_⟩,⟨rfl,rfl⟩,st',fun b hb=>(hf b hb).1⟩⟩;rw [Int.mul_one]
 done:=by
  intro X hP hw hK hc i aa s σ H E I hf st hg;subst hP hw hK;obtain ⟨f0,f1,f2,f3,f4,f5⟩:=hf it (by simp);exact wpAny_pyNext_range_end (I.ok.hd hc) st (by have:n <= i:=hg; omega) fun h' eb=>⟨rfl,I.turned (t':=s.toks) (fun b o hb e=>eb b o hb e) f0 f1 f3 f4 f5⟩
 self:=fun _ _ _ _ _ st h=>wpAny_pyIter_rangeiter st h
end L2
namespace L2
open PySem PySem.Spec PyProof.Rows
section
variable {tg:Expr}
def O0 (K:FG) (tl:TE):TI:=fun σ H R=>tl σ H fun x H1=>∃ a,x=.ref a/\(∃ xs,SqL K H1 a xs)/\R (Itl K a) H1
def P2 (K:FG) (tl:TE):TI:=fun σ H R=>tl σ H fun x H1=>∃ a,x=.ref a/\(∃ xs,SqT K H1 a xs)/\R (Itt K a) H1
theorem A6 {l:Expr} {tl:TE} (hl:PE X l tl):PI X tg l (O0 X.K tl):=by
 intro aa s σ H R I h;refine thn (hl aa s σ H _ I h) fun v s1 ⟨x,H1,I1,r1,q1⟩=>?_;obtain ⟨a,e,⟨xs,hq⟩,q⟩:=q1;subst e;cases r1;obtain ⟨its,rv,p,hz⟩:=I1.list hq;refine wpAny_pyIter_list p.isList ?_;refine ⟨s1.heap.objs.size,[s1.heap.objs.size],_,_,H1,rfl,I1.kept (t':=s1.toks) fun b o e=>get?_push_of_some _ e,Je a _,⟨_,get?_push_size _ rfl,rfl,rfl⟩,fun b hb=>?_,q⟩;have e:b=s1.heap.objs.size:=by simpa using hb
 subst e;exact I1.fpOk (Nat.le_refl _) (I1.hok.fresh (Nat.le_refl _))
theorem Kh {l:Expr} {tl:TE} (hl:PE X l tl):PI X tg l (P2 X.K tl):=by
 intro aa s σ H R I h;refine thn (hl aa s σ H _ I h) fun v s1 ⟨x,H1,I1,r1,q1⟩=>?_;obtain ⟨a,e,⟨xs,hq⟩,q⟩:=q1;subst e;cases r1;obtain ⟨its,rv,p,hz⟩:=I1.tuple hq;refine wpAny_pyIter_tuple (show s1.heap.IsTuple a its.toArray from p) ?_;refine ⟨s1.heap.objs.size,[s1.heap.objs.size],_,_,H1,rfl,I1.kept (t':=s1.toks) fun b o e=>get?_push_of_some _ e,Hu a _,⟨_,get?_push_size _ rfl,rfl,rfl⟩,fun b hb=>?_,q⟩;have e:b=s1.heap.objs.size:=by simpa using hb
 subst e;exact I1.fpOk (Nat.le_refl _) (I1.hok.fresh (Nat.le_refl _))
theorem Ki {R:It->Hp->Prop} {lo hi:Int} {t u v:Tok} {tk:Nat} (I:Inv X aa σ H s) (h1:-(2 ^ 62) <= lo) (h2:lo < 2 ^ 62) (h3:-(2 ^ 62) <= hi) (h4:hi < 2 ^ 62)
  (q:R (Itr lo (hi - lo).toNat) H):wpAny (model X.prog X.w) X.A (pyIter (.ref s.heap.objs.size)) (PIE X aa σ tg R) E { s with heap:=s.heap.push { cls:=.type "range", data:=.fields #[.int lo t,.int hi u,.int 1 v] },toks:=tk }:=by
 refine wpAny_pyIter_range (IsRange.new ..) (small_one h1 h2 h3 h4) ?_;have I1:Inv X aa σ H { s with heap:=s.heap.push { cls:=.type "range", data:=.fields #[.int lo t,.int hi u,.int 1 v] },toks:=tk }:=I.kept fun b o e=>get?_push_of_some _ e
 refine ⟨(s.heap.push { cls:=.type "range", data:=.fields #[.int lo t,.int hi u,.int 1 v] }).objs.size,[(s.heap.push { cls:=.type "range", data:=.fields #[.int lo t,.int hi u,.int 1 v] }).objs.size],_,_,H,rfl,
  I1.kept (t':=tk) fun b o e=>get?_push_of_some _ e,Hv _ lo (hi - lo).toNat,?_,fun b hb=>?_,q⟩
 ·have e1:lo + ((0:Nat):Int) * 1=lo:=by simp
  have e2:(((hi - lo).toNat:Nat):Int) - ((0:Nat):Int)=Builtin.Range.rangeSize lo hi 1:=by rw [rangeSize_one]; split <;> omega
  show IsRangeIter _ _ (lo + ((0:Nat):Int) * 1) ((((hi - lo).toNat:Nat):Int) - ((0:Nat):Int)) 1;rw [e1,e2];exact get?_push_size _ rfl
 ·have e:b=(s.heap.push { cls:=.type "range", data:=.fields #[.int lo t,.int hi u,.int 1 v] }).objs.size:=by simpa using hb
  subst e;exact I1.fpOk (Nat.le_refl _) (I1.hok.fresh (Nat.le_refl _))
def O1 (ta:TA):TI:=fun σ H R=>ta σ H fun vs H1=>∃ j:Int,vs=[.int j]/\-(2 ^ 62) <= j/\j < 2 ^ 62/\R (Itr 0 j.toNat) H1
theorem CI {a:Expr} {ta:TA} {p:Pos} (hg:Gl X "range") (hm:X.mg "range" = none) (ha:PA X [a] ta) (hs:starEach [a] X.env=[(false,eval a X.env)]:=by rfl):PI X tg (.Call (.Name "range" p) [a] [] pos) (O1 ta):=by
 intro aa s σ H R I h;refine Call_ (DR I hg hm boot_range (PyProof.Rows.callWith_type1 (thn (ha pos aa s σ H _ I h) fun us s1 ⟨vs,H1,I1,r1,q1⟩=>?_) hs rfl));obtain ⟨j,e,q1,q2,q⟩:=q1;subst e;cases r1 with
 | cons r rr =>
  cases rr;obtain ⟨t,rfl⟩:=r;exact call_range_1 (Ki I1 (by omega) (by omega) q1 q2 (by simpa using q))
def P3 (wi:TI) (g:TG) (tb:TS):TS:=fun D σ H=>wi σ H fun J H1=>∃ W:Nat->Nat->St->Hp->Prop,(∃ m,W 0 m σ H1)/\∀ i m σ H,W i m σ H ->
 (J.stop i H/\D.nx σ H)\/(J.go i H/\∃ N:St->Hp->Prop,(∀ σ' H',N σ' H'->∃ m',m' < m/\W (i + 1) m' σ' H')/\∀ x H',J.yld i H x H'->g x σ H' fun σ2 H2=>tb { D with nx:=N,ct:=N,bk:=D.nx } σ2 H2)
def DS (fp:List Addr) (h:Heap):LO:=fp.filterMap fun b=>(h.get? b).map fun o=>(b,o)
theorem CQ {fp:List Addr} {b:Addr} {o:Obj} (hb:b ∈ fp) (e:h.get? b=some o):(b,o) ∈ DS fp h:=List.mem_filterMap.mpr ⟨b,hb,by rw [e]; rfl⟩
theorem Fd {fp:List Addr} {p:Addr × Obj} (hp:p ∈ DS fp h):p.1 ∈ fp/\h.get? p.1=some p.2:=by
 obtain ⟨b,hb,e⟩:=List.mem_filterMap.mp hp;cases q:h.get? b with
 | none=>rw [q] at e; cases e
 | some o =>
  rw [q] at e;have e':(b,o)=p:=Option.some.inj e;subst e';exact ⟨hb,q⟩
theorem Inv.pinned {fp:List Addr} (I:Inv X aa σ H s) (hf:∀ b ∈ fp,EL X aa H b) (ho:∀ b ∈ fp,∃ o,s.heap.get? b=some o/\∀ v,o.data ≠ .cell v):Inv X (aa++DS fp s.heap) σ H s :=
 I.pins_of fun p hp=>(mem_append.mp hp).elim (fun z=>I.pin p (mem_append_right _ z)) fun z=>by
  obtain ⟨hb,e⟩:=Fd z;obtain ⟨f0,f1,f2,_⟩:=hf p.1 hb;obtain ⟨o,e',d⟩:=ho p.1 hb;rw [e] at e'; cases e';exact ⟨e,f0,f1,f2,d⟩
theorem Inv.unpinned {pl:LO} (I:Inv X (aa++pl) σ H s):Inv X aa σ H s:=I.pins_of fun p hp=>I.pin p (mem_append_right _ (mem_append_left _ hp))
theorem Bx {iter:Expr} {body:List Stmt} {wi:TI} {g:TG} {tb:TS} (hp:PassesOwn (model X.prog X.w) X.A X.env X.xe) (hc:X.calm=true) (hi:PI X tg iter wi) (hg:PG X tg g) (hb:PSs X body tb)
  (hs:∀ x,foldedSetIterable iter X.env x=pure x:=by intro _; rfl):PS X (.For tg iter body [] pos) (P3 wi g tb):=by
 intro aa s σ H D I h;refine wpAny_For (thn (hi aa s σ H _ I h) fun v s1 h1=>thn h1 fun itv s2 h2=>?_) hs;obtain ⟨it,fp,tn,J,H2,e,I2,T,st2,f2,W,⟨m0,w0⟩,turn⟩:=h2;subst e;have stat:∀ {H':Hp},(∀ b ∈ fp,H' b=none)->∀ b ∈ fp,EL X aa H' b:=fun hn b hb=>⟨hn b hb,(f2 b hb).2⟩;refine codeAny_forLoop_any (fun n s'=>∃ i σ' H',Inv X aa σ' H' s'/\tn i s'.heap/\(∀ b ∈ fp,H' b=none)/\W i n σ' H') ?_ m0 ⟨0,σ,H2,I2,st2,fun b hb=>(f2 b hb).1,w0⟩;rintro n s3 ⟨i,σ3,H3,I3,st3,fr3,w3⟩;rcases turn i n σ3 H3 w3 with ⟨stop,qn⟩ | ⟨go,N,hN,step⟩
 ·refine wpAny_passesOwn hp (thn (T.done X rfl rfl rfl hc i aa s3 σ3 H3 X.xe I3 (stat fr3) st3 stop) fun r s4 ⟨hr,I4⟩=>?_);subst hr;exact wpAny_execs_nil ⟨σ3,H3,I4,qn⟩
 ·refine wpAny_passesOwn hp (thn (T.item X rfl rfl rfl hc i aa s3 σ3 H3 X.xe I3 (stat fr3) st3 go) fun r s4 ⟨u,hr,h4⟩=>?_);subst hr;refine wpAny_passesOwn hp (thn h4 fun _ s5 ⟨x,H5,I5,r5,y5,st5,fr5⟩=>?_);have I5':=I5.pinned (stat fr5) (T.obj _ _ st5);refine wpAny_passesOwn hp (thn (hg _ s5 σ3 H5 x u _ I5' r5 (step x H5 y5)) fun _ s6 ⟨σ6,H6,I6,q6⟩=>?_);refine wpAny_passesOwn hp (thn (hb _ s6 σ6 H6 _ I6 q6) fun f s7 q7=>?_)
  have again:∀ {σ7:St} {H7:Hp},Inv X (aa++DS fp s5.heap) σ7 H7 s7->N σ7 H7->∃ m,m < n/\∃ i σ' H',Inv X aa σ' H' s7/\tn i s7.heap/\(∀ b ∈ fp,H' b=none)/\W i m σ' H':=fun {σ7 H7} I7 n7=>by
   obtain ⟨m',hm,w7⟩:=hN σ7 H7 n7;refine ⟨m',hm,i + 1,σ7,H7,I7.unpinned,T.keep _ _ _ st5 fun b hb o e=>(I7.pin (b,o) (mem_append_right _ (mem_append_right _ (CQ hb e)))).1,fun b hb=>?_,w7⟩;obtain ⟨o,e,d⟩:=T.obj _ _ st5 b hb;exact (I7.pin (b,o) (mem_append_right _ (mem_append_right _ (CQ hb e)))).2.1
  cases f with
  | next=>obtain ⟨σ7,H7,I7,n7⟩:=q7; exact again I7 n7
  | cont=>obtain ⟨σ7,H7,I7,n7⟩:=q7; exact again I7 n7
  | brk=>obtain ⟨σ7,H7,I7,q7⟩:=q7; exact ⟨σ7,H7,I7.unpinned,q7⟩
  | ret v=>obtain ⟨x7,σ7,H7,I7,r7,q7⟩:=q7; exact ⟨x7,σ7,H7,I7.unpinned,r7,q7⟩
end
theorem CJ {g:TG} {tb:TS} {D:Ew} (Pv:Nat->St->Hp->Prop) (h0:Pv 0 σ H) (hl:∀ i σ H,i <= xs.length->Pv i σ H->SqL K H a xs)
  (hs:∀ i x σ H,xs[i]?=some x->Pv i σ H->g x σ H fun σ2 H2=>tb { D with nx:=Pv (i + 1),ct:=Pv (i + 1),bk:=D.nx } σ2 H2) (hd:∀ σ H,Pv xs.length σ H->D.nx σ H) :
  ∃ W:Nat->Nat->St->Hp->Prop,(∃ m,W 0 m σ H)/\∀ i m σ H,W i m σ H ->
   ((Itl K a).stop i H/\D.nx σ H)\/((Itl K a).go i H/\∃ N:St->Hp->Prop,(∀ σ' H',N σ' H'->∃ m',m' < m/\W (i + 1) m' σ' H')/\∀ x H',(Itl K a).yld i H x H'->g x σ H' fun σ2 H2=>tb { D with nx:=N,ct:=N,bk:=D.nx } σ2 H2):=by
 refine ⟨fun i m σ H=>m=xs.length - i/\i <= xs.length/\Pv i σ H,⟨xs.length,by simp,Nat.zero_le _,h0⟩,?_⟩;rintro i m σ H ⟨rfl,hi,p⟩;have q:=hl i σ H hi p;by_cases hlt:i < xs.length
 ·refine .inr ⟨⟨xs,xs[i],q,by simp [hlt]⟩,Pv (i + 1),fun σ' H' p'=>⟨xs.length - (i + 1),by omega,rfl,hlt,p'⟩,fun x H' y=>?_⟩;obtain ⟨e,y⟩:=y;subst e;exact hs i x σ _ (y xs q) p
 ·have e:i=xs.length:=by omega
  subst e;exact .inl ⟨⟨xs,q,Nat.le_refl _⟩,hd σ H p⟩
theorem Fe {lo:Int} {n:Nat} {g:TG} {tb:TS} {D:Ew} (Pv:Nat->St->Hp->Prop) (h0:Pv 0 σ H)
  (hs:∀ i σ H,i < n->Pv i σ H->g (.int (lo + i)) σ H fun σ2 H2=>tb { D with nx:=Pv (i + 1),ct:=Pv (i + 1),bk:=D.nx } σ2 H2) (hd:∀ σ H,Pv n σ H->D.nx σ H) :
  ∃ W:Nat->Nat->St->Hp->Prop,(∃ m,W 0 m σ H)/\∀ i m σ H,W i m σ H ->
   ((Itr lo n).stop i H/\D.nx σ H)\/((Itr lo n).go i H/\∃ N:St->Hp->Prop,(∀ σ' H',N σ' H'->∃ m',m' < m/\W (i + 1) m' σ' H')/\∀ x H',(Itr lo n).yld i H x H'->g x σ H' fun σ2 H2=>tb { D with nx:=N,ct:=N,bk:=D.nx } σ2 H2):=by
 refine ⟨fun i m σ H=>m=n - i/\i <= n/\Pv i σ H,⟨n,by simp,Nat.zero_le _,h0⟩,?_⟩;rintro i m σ H ⟨rfl,hi,p⟩;by_cases hlt:i < n
 ·refine .inr ⟨hlt,Pv (i + 1),fun σ' H' p'=>⟨n - (i + 1),by omega,rfl,hlt,p'⟩,fun x H' y=>?_⟩;obtain ⟨e,y⟩:=y;subst e y;exact hs i σ _ hlt p
 ·have e:i=n:=by omega
  subst e;exact .inl ⟨Nat.le_refl _,hd σ H p⟩
theorem Kj {c:TT} {tb:TS} {D:Ew} (Pv:St->Hp->Prop) (μ:St->Hp->Nat) (h0:Pv σ H)
  (hs:∀ σ H,Pv σ H->c σ H fun b H1=>if b=true then tb { D with nx:=fun σ' H'=>Pv σ' H'/\μ σ' H' < μ σ H,ct:=fun σ' H'=>Pv σ' H'/\μ σ' H' < μ σ H,bk:=D.nx } σ H1 else D.nx σ H1)
  (mono:∀ σ H Q Q',(∀ b H1,Q b H1->Q' b H1)->c σ H Q->c σ H Q'):Kd c tb D σ H:=by
 refine ⟨fun m σ H=>m=μ σ H/\Pv σ H,⟨_,rfl,h0⟩,?_⟩;rintro m σ H ⟨rfl,p⟩;refine mono σ H _ _ (fun b H1 q=>?_) (hs σ H p);cases b with
 | true=>exact ⟨_,fun σ' H' ⟨p',l⟩=>⟨_,l,rfl,p'⟩,q⟩
 | false=>exact q
end L2
namespace L2
open PySem PySem.Spec PyProof.Rows
abbrev R2:=V->V->Hp->VK->Prop
def OpR (X:Cx) (f:Value->Value->Sem Value) (r:R2):Prop :=
 ∀ (aa:LO) (s:Shared) (σ:St) (H:Hp) (x y:V) (v u:Value) (Q:VK),Inv X aa σ H s->RelV x v->RelV y u->r x y H Q ->
  wpAny (model X.prog X.w) X.A (f v u) (EP X aa σ Q) X.xe s
def UnR (X:Cx) (f:Value->Sem Value) (r:V->Hp->VK->Prop):Prop :=
 ∀ (aa:LO) (s:Shared) (σ:St) (H:Hp) (x:V) (v:Value) (Q:VK),Inv X aa σ H s->RelV x v->r x H Q ->
  wpAny (model X.prog X.w) X.A (f v) (EP X aa σ Q) X.xe s
def BQ (X:Cx) (f:Value) (r:List V->Hp->VK->Prop):Prop :=
 ∀ (aa:LO) (s:Shared) (σ:St) (H:Hp) (xs:List V) (us:List Value) (Q:VK),Inv X aa σ H s->Vals xs us->r xs H Q ->
  wpAny (model X.prog X.w) X.A (call f us) (EP X aa σ Q) X.xe s
def tOp (r:R2) (ta tb:TE):TE:=fun σ H Q=>ta σ H fun x H1=>tb σ H1 fun y H2=>r x y H2 Q
def tUn (r:V->Hp->VK->Prop) (ta:TE):TE:=fun σ H Q=>ta σ H fun x H1=>r x H1 Q
def rI (C:Int->Int->Prop) (g:Int->Int->V):R2:=fun x y H Q=>ExI x y fun i j=>C i j/\Q (g i j) H
def rI0 (g:Int->Int->V):R2:=fun x y H Q=>ExI x y fun i j=>Q (g i j) H
def rU (g:Int->V):V->Hp->VK->Prop:=fun x H Q=>∃ i,x=.int i/\Q (g i) H
section
variable {a b c:Expr} {ta tb tc:TE}
theorem N1 (ha:PE X a ta) (hb:PE X b tb) {R:V->V->Hp->Prop} (I:Inv X aa σ H s)
  (h:ta σ H fun x H1=>tb σ H1 fun y H2=>R x y H2) {Q:VS} {f:Value->Value->Sem Value}
  (hf:∀ v u s2 x y H2,Inv X aa σ H2 s2->RelV x v->RelV y u->R x y H2->wpAny (model X.prog X.w) X.A (f v u) Q X.xe s2) :
  wpAny (model X.prog X.w) X.A (eval a X.env) (fun v s₁=>wpAny (model X.prog X.w) X.A (eval b X.env) (fun u s₂=>wpAny (model X.prog X.w) X.A (f v u) Q X.xe s₂) X.xe s₁) X.xe s:=by
 refine thn (ha aa s σ H _ I h) fun v s1 ⟨x,H1,I1,r1,q1⟩=>?_;refine thn (hb aa s1 σ H1 _ I1 q1) fun u s2 ⟨y,H2,I2,r2,q2⟩=>?_;exact hf v u s2 x y H2 I2 r1 r2 q2
theorem Aa {op:Operator} {r:R2} (ho:OpR X (binaryOp op) r) (ha:PE X a ta) (hb:PE X b tb):PE X (.BinOp a op b pos) (tOp r ta tb):=by
 intro aa s σ H Q I h;exact wpAny_BinOp (N1 ha hb I h fun v u s2 x y H2 I2 rx ry q=>ho aa s2 σ H2 x y v u Q I2 rx ry q)
theorem Ff {op:UnaryOp} {r:V->Hp->VK->Prop} (ho:UnR X (unaryOp op) r) (ha:PE X a ta):PE X (.UnaryOp op a pos) (tUn r ta):=by
 intro aa s σ H Q I h;exact UnaryOp_ (thn (ha aa s σ H _ I h) fun v s1 ⟨x,H1,I1,r1,q1⟩=>ho aa s1 σ H1 x v Q I1 r1 q1)
theorem opI {f:Value->Value->Sem Value} {C:Int->Int->Prop} {g:Int->Int->Int}
  (rule:∀ (i j:Int) (t u:Tok) (s:Shared) (Q:VS) (E:VS),C i j->Q (.int (g i j) s.toks) { s with toks:=s.toks + 1 }->wpAny (model X.prog X.w) X.A (f (.int i t) (.int j u)) Q E s) :
  OpR X f (rI C fun i j=>.int (g i j)):=by
 intro aa s σ H x y v u Q I rx ry h;obtain ⟨i,j,rfl,rfl,hc,q⟩:=h;obtain ⟨t,rfl⟩:=rx;obtain ⟨t',rfl⟩:=ry;exact rule i j t t' s _ _ hc ⟨.int (g i j),H,I.tok _,⟨_,rfl⟩,q⟩
theorem Jf {f:Value->Value->Sem Value} {g:Int->Int->Int}
  (rule:∀ (i j:Int) (t u:Tok) (s:Shared) (Q:VS) (E:VS),Q (.int (g i j) s.toks) { s with toks:=s.toks + 1 }->wpAny (model X.prog X.w) X.A (f (.int i t) (.int j u)) Q E s) :
  OpR X f (rI0 fun i j=>.int (g i j)):=by
 intro aa s σ H x y v u Q I rx ry h;obtain ⟨i,j,rfl,rfl,q⟩:=h;obtain ⟨t,rfl⟩:=rx;obtain ⟨t',rfl⟩:=ry;exact rule i j t t' s _ _ ⟨.int (g i j),H,I.tok _,⟨_,rfl⟩,q⟩
theorem MX {f:Value->Value->Sem Value} {g:Int->Int->Bool}
  (rule:∀ (i j:Int) (t u:Tok) (s:Shared) (Q:VS) (E:VS),Q (.bool (g i j)) s->wpAny (model X.prog X.w) X.A (f (.int i t) (.int j u)) Q E s) :
  OpR X f (rI0 fun i j=>.bl (g i j)):=by
 intro aa s σ H x y v u Q I rx ry h;obtain ⟨i,j,rfl,rfl,q⟩:=h;obtain ⟨t,rfl⟩:=rx;obtain ⟨t',rfl⟩:=ry;exact rule i j t t' s _ _ ⟨.bl (g i j),H,I,rfl,q⟩
def P4 (i j:Int):Prop:=0 < j/\j < 1073741824
def N2 (i j:Int):Prop:=0 <= j/\j <= 1000000/\i.natAbs < 2 ^ 64
def CMul (i j:Int):Prop:=(-(2 ^ 64) < i/\i < 2 ^ 64)\/(-(2 ^ 64) < j/\j < 2 ^ 64)
theorem CMul.ok {i j:Int} (h:CMul i j):IntMulOk i j:=by
 rcases h with ⟨h1,h2⟩ | ⟨h1,h2⟩
 ·exact .of_left (intBits_le_64 h1 h2)
 ·exact .of_right (intBits_le_64 h1 h2)
theorem Hw (k:Nat):(0:Int) <= 2 ^ k:=by
 rw [two_pow_cast];exact Int.natCast_nonneg _
theorem CS:OpR X (binaryOp .Add) (rI0 fun i j=>.int (i + j)):=Jf fun _ _ _ _ _ _ _ q=>add_int q
theorem Hy:OpR X (binaryOp .Sub) (rI0 fun i j=>.int (i - j)):=Jf fun _ _ _ _ _ _ _ q=>sub_int q
theorem Ey:OpR X (binaryOp .Mult) (rI CMul fun i j=>.int (i * j)):=opI fun _ _ _ _ _ _ _ hc q=>mul_int q hc.ok
theorem F6:OpR X (binaryOp .FloorDiv) (rI P4 fun i j=>.int (i / j)):=opI fun i j _ _ _ _ _ hc q=>by
 have h1:(0:Int) < j:=hc.1;have h2:j < 1073741824:=hc.2;exact floordiv_int (by omega) (by rw [Int.fdiv_eq_ediv_of_nonneg i (by omega)]; exact q) (.inl (PyProof.noPylong_small (by omega)))
theorem DU:OpR X (binaryOp .Mod) (rI (fun _ j=>0 < j) fun i j=>.int (i % j)):=opI fun i j _ _ _ _ _ hc q=>by
 have h1:(0:Int) < j:=hc;exact mod_int' (by omega) (by rw [Int.fmod_eq_emod_of_nonneg i (by omega)]; exact q)
theorem Hz:OpR X (binaryOp .Pow) (rI N2 fun i j=>.int (i ^ j.toNat)):=opI fun _ _ _ _ _ _ _ hc q=>pow_int_small hc.1 hc.2.1 hc.2.2 q
theorem F7:OpR X (binaryOp .LShift) (rI N2 fun i j=>.int (i * 2 ^ j.toNat)):=opI fun _ _ _ _ _ _ _ hc q=>lshift_int_small hc.1 hc.2.1 hc.2.2 q
theorem N3:OpR X (binaryOp .RShift) (rI (fun _ j=>0 <= j) fun i j=>.int (i / 2 ^ j.toNat)):=opI fun i j _ _ _ _ _ hc q =>
 rshift_int hc (by rw [Int.fdiv_eq_ediv_of_nonneg i (Hw _)]; exact q)
theorem Cr:OpR X (binaryOp .BitAnd) (rI0 fun i j=>.int (Builtin.bitAnd i j)):=Jf fun _ _ _ _ _ _ _ q=>and_int q
theorem Gz:OpR X (binaryOp .BitOr) (rI0 fun i j=>.int (Builtin.bitOr i j)):=Jf fun _ _ _ _ _ _ _ q=>or_int q
theorem JA:OpR X (inplaceOp .Add) (rI0 fun i j=>.int (i + j)):=Jf fun _ _ _ _ _ _ _ q=>iadd_int q
theorem N4:OpR X (inplaceOp .BitOr) (rI0 fun i j=>.int (Builtin.bitOr i j)):=Jf fun _ _ _ _ _ _ _ q=>ior_int q
theorem unI {f:Value->Sem Value} {g:Int->Int}
  (rule:∀ (i:Int) (t:Tok) (s:Shared) (Q:VS) (E:VS),Q (.int (g i) s.toks) { s with toks:=s.toks + 1 }->wpAny (model X.prog X.w) X.A (f (.int i t)) Q E s) :
  UnR X f (rU fun i=>.int (g i)):=by
 intro aa s σ H x v Q I rx h;obtain ⟨i,rfl,q⟩:=h;obtain ⟨t,rfl⟩:=rx;exact rule i t s _ _ ⟨.int (g i),H,I.tok _,⟨_,rfl⟩,q⟩
theorem F8:UnR X (unaryOp .USub) (rU fun i=>.int (-i)):=unI fun _ _ _ _ _ q=>neg_int q
theorem Kk:UnR X (unaryOp .Invert) (rU fun i=>.int (Builtin.bitNot i)):=unI fun _ _ _ _ _ q=>invert_int q
end
def O2:V->V->Bool
 | .non,.non=>true | .non,.int _=>true | .int _,.non=>true | .non,.bl _=>true | .bl _,.non=>true | .non,.str _=>true | .str _,.non=>true
 | .int _,.int _=>true | .bl _,.bl _=>true | .str _,.str _=>true | .byt _,.byt _=>true
 | .int _,.str _=>true | .str _,.int _=>true | .bl _,.str _=>true | .str _,.bl _=>true
 | _,_=>false
def rEq:R2:=fun x y H Q=>O2 x y=true/\Q (.bl (decide (x=y))) H
def rNe:R2:=fun x y H Q=>O2 x y=true/\Q (.bl (!decide (x=y))) H
theorem JB {i j:Int}:decide (V.int i=V.int j)=(i == j):=by
 rw [Bool.eq_iff_iff];simp
theorem Kl {i j:Bool}:decide (V.bl i=V.bl j)=(i == j):=by
 rw [Bool.eq_iff_iff];simp
theorem JC {i j:Str}:decide (V.str i=V.str j)=(i == j):=by
 rw [Bool.eq_iff_iff];simp
theorem JD {i j:Array UInt8}:decide (V.byt i=V.byt j)=(i.toList == j.toList):=by
 rw [Bool.eq_iff_iff];cases i;cases j;simp
section
variable {a b c:Expr} {ta tb tc:TE}
theorem Ai {Q:VK} {k k':Bool} (I:Inv X aa σ H s) (q:Q (.bl k) H) (e:k=k'):EP X aa σ Q (.bool k') s:=by
 subst e;exact ⟨.bl k,H,I,rfl,q⟩
theorem A0:OpR X (compareOp .Eq) rEq:=by
 intro aa s σ H x y v u Q I rx ry h;obtain ⟨hs,q⟩:=h;cases x with
 | non =>
  cases rx;cases y with
  | non=>cases ry; exact PySem.EqNone.eq_none_none (Ai I q (by simp))
  | bl j=>cases ry; exact PySem.EqNone.eq_none_bool (Ai I q (by simp))
  | int j=>obtain ⟨t',rfl⟩:=ry; exact PySem.EqNone.eq_none_int (Ai I q (by simp))
  | str j=>obtain ⟨t',rfl⟩:=ry; exact PySem.EqNone.eq_none_str (Ai I q (by simp))
  | _=>exact absurd (show false=true from hs) Bool.false_ne_true
 | bl i =>
  cases rx;cases y with
  | non=>cases ry; exact PySem.EqNone.eq_bool_none (Ai I q (by simp))
  | bl j=>cases ry; exact eq_bool (Ai I q Kl)
  | str j=>obtain ⟨t',rfl⟩:=ry; exact PySem.EqMixed.eq_bool_str (Ai I q (by simp))
  | _=>exact absurd (show false=true from hs) Bool.false_ne_true
 | int i =>
  obtain ⟨t,rfl⟩:=rx;cases y with
  | non=>cases ry; exact PySem.EqNone.eq_int_none (Ai I q (by simp))
  | int j=>obtain ⟨t',rfl⟩:=ry; exact eq_int (Ai I q JB)
  | str j=>obtain ⟨t',rfl⟩:=ry; exact PySem.EqMixed.eq_int_str (Ai I q (by simp))
  | _=>exact absurd (show false=true from hs) Bool.false_ne_true
 | str i =>
  obtain ⟨t,rfl⟩:=rx;cases y with
  | non=>cases ry; exact PySem.EqNone.eq_str_none (Ai I q (by simp))
  | bl j=>cases ry; exact PySem.EqMixed.eq_str_bool (Ai I q (by simp))
  | int j=>obtain ⟨t',rfl⟩:=ry; exact PySem.EqMixed.eq_str_int (Ai I q (by simp))
  | str j=>obtain ⟨t',rfl⟩:=ry; exact eq_str (Ai I q JC)
  | _=>exact absurd (show false=true from hs) Bool.false_ne_true
 | byt i =>
  obtain ⟨t,rfl⟩:=rx;cases y with
  | byt j=>obtain ⟨t',rfl⟩:=ry; exact W.eq_bytes (Ai I q JD)
  | _=>exact absurd (show false=true from hs) Bool.false_ne_true
 | _=>cases y <;> exact absurd (show false=true from hs) Bool.false_ne_true
theorem Ct:OpR X (compareOp .NotEq) rNe:=by
 intro aa s σ H x y v u Q I rx ry h;obtain ⟨hs,q⟩:=h;cases x with
 | non =>
  cases rx;cases y with
  | non=>cases ry; exact PySem.EqNone.ne_none_none (Ai I q (by simp))
  | bl j=>cases ry; exact PySem.EqNone.ne_none_bool (Ai I q (by simp))
  | int j=>obtain ⟨t',rfl⟩:=ry; exact PySem.EqNone.ne_none_int (Ai I q (by simp))
  | str j=>obtain ⟨t',rfl⟩:=ry; exact PySem.EqNone.ne_none_str (Ai I q (by simp))
  | _=>exact absurd (show false=true from hs) Bool.false_ne_true
 | bl i =>
  cases rx;cases y with
  | non=>cases ry; exact PySem.EqNone.ne_bool_none (Ai I q (by simp))
  | bl j=>cases ry; exact ne_bool (Ai I q (congrArg not Kl))
  | str j=>obtain ⟨t',rfl⟩:=ry; exact PySem.EqMixed.ne_bool_str (Ai I q (by simp))
  | _=>exact absurd (show false=true from hs) Bool.false_ne_true
 | int i =>
  obtain ⟨t,rfl⟩:=rx;cases y with
  | non=>cases ry; exact PySem.EqNone.ne_int_none (Ai I q (by simp))
  | int j=>obtain ⟨t',rfl⟩:=ry; exact ne_int (Ai I q (congrArg not JB))
  | str j=>obtain ⟨t',rfl⟩:=ry; exact PySem.EqMixed.ne_int_str (Ai I q (by simp))
  | _=>exact absurd (show false=true from hs) Bool.false_ne_true
 | str i =>
  obtain ⟨t,rfl⟩:=rx;cases y with
  | non=>cases ry; exact PySem.EqNone.ne_str_none (Ai I q (by simp))
  | bl j=>cases ry; exact PySem.EqMixed.ne_str_bool (Ai I q (by simp))
  | int j=>obtain ⟨t',rfl⟩:=ry; exact PySem.EqMixed.ne_str_int (Ai I q (by simp))
  | str j=>obtain ⟨t',rfl⟩:=ry; exact ne_str (Ai I q (congrArg not JC))
  | _=>exact absurd (show false=true from hs) Bool.false_ne_true
 | byt i =>
  obtain ⟨t,rfl⟩:=rx;cases y with
  | byt j=>obtain ⟨t',rfl⟩:=ry; exact W.ne_bytes (Ai I q (congrArg not JD))
  | _=>exact absurd (show false=true from hs) Bool.false_ne_true
 | _=>cases y <;> exact absurd (show false=true from hs) Bool.false_ne_true
theorem G0:OpR X (compareOp .Lt) (rI0 fun i j=>.bl (decide (i < j))):=MX fun _ _ _ _ _ _ _ q=>lt_int q
theorem Dx:OpR X (compareOp .LtE) (rI0 fun i j=>.bl (decide (i <= j))):=MX fun _ _ _ _ _ _ _ q=>le_int q
theorem Ez:OpR X (compareOp .Gt) (rI0 fun i j=>.bl (decide (j < i))):=MX fun _ _ _ _ _ _ _ q=>gt_int q
theorem JE:OpR X (compareOp .GtE) (rI0 fun i j=>.bl (decide (j <= i))):=MX fun _ _ _ _ _ _ _ q=>ge_int q
theorem AS (b:Expr) {op:CmpOp} (h:op ≠ .In:=by decide) (h2:op ≠ .NotIn:=by decide):behindInMarks op b=false:=by
 have e1:(op == CmpOp.In)=false:=by cases op <;> first | rfl | exact absurd rfl h
 have e2:(op == CmpOp.NotIn)=false:=by cases op <;> first | rfl | exact absurd rfl h2
 cases b <;> simp [behindInMarks,e1,e2]
theorem BA {op:CmpOp} {r:R2} (ho:OpR X (compareOp op) r) (ha:PE X a ta) (hb:PE X b tb) (hm:behindInMarks op b=false):PE X (.Compare a [op] [b] pos) (tOp r ta tb):=by
 intro aa s σ H Q I h;exact wpAny_Compare1 (N1 ha hb I h fun v u s2 x y H2 I2 rx ry q=>ho aa s2 σ H2 x y v u Q I2 rx ry q) hm
def Nd (t:TE):TT:=fun σ H Q=>t σ H fun x H'=>ExB x fun k=>Q k H'
theorem AO {op:CmpOp} {r:R2} (ho:OpR X (compareOp op) r) (ha:PE X a ta) (hb:PE X b tb) (hm:behindInMarks op b=false):PT X (.Compare a [op] [b] pos) (Nd (tOp r ta tb)):=by
 intro aa s σ H Q I h
 refine wpAny_isTrue_Compare1 (thn (ha aa s σ H _ I h) fun v s1 ⟨x,H1,I1,r1,q1⟩=>thn (hb aa s1 σ H1 _ I1 q1) fun u s2 ⟨y,H2,I2,r2,q2⟩ =>
  thn (ho aa s2 σ H2 x y v u _ I2 r1 r2 q2) fun c s3 ⟨z,H3,I3,r3,k,e,q3⟩=>?_) hm
 subst e;cases r3;exact wpAny_truthy_bool ⟨H3,I3,q3⟩
def Km (r r':R2) (ta tb tc:TE):TE:=fun σ H Q=>ta σ H fun x H1=>tb σ H1 fun y H2=>r x y H2 fun z H3=>∃ k,z=.bl k /\
 (if k=true then tc σ H3 fun w' H4=>r' y w' H4 Q else Q (.bl false) H3)
theorem Dy {op op':CmpOp} {r r':R2} (ho:OpR X (compareOp op) r) (ho':OpR X (compareOp op') r') (ha:PE X a ta) (hb:PE X b tb) (hc:PE X c tc)
  (hm:lastMarks [op,op'] [b,c]=false:=by with_unfolding_all rfl):PE X (.Compare a [op,op'] [b,c] pos) (Km r r' ta tb tc):=by
 intro aa s σ H Q I h
 refine Compare_chain (thn (ha aa s σ H _ I h) fun v s1 ⟨x,H1,I1,r1,q1⟩=>chain_link (thn (hb aa s1 σ H1 _ I1 q1) fun u s2 ⟨y,H2,I2,r2,q2⟩ =>
  thn (ho aa s2 σ H2 x y v u _ I2 r1 r2 q2) fun d s3 ⟨z,H3,I3,r3,k,e,q3⟩=>?_)) hm
 subst e;cases r3;refine wpAny_truthy_bool ?_;cases k with
 | false=>exact ite_ff ⟨.bl false,H3,I3,rfl,q3⟩
 | true=>exact ite_tt (chain_last (thn (hc aa s3 σ H3 _ I3 q3) fun w' s4 ⟨z',H4,I4,r4,q4⟩=>ho' aa s4 σ H4 y z' u w' Q I4 r2 r4 q4))
theorem Dz {op op':CmpOp} {r r':R2} (ho:OpR X (compareOp op) r) (ho':OpR X (compareOp op') r') (ha:PE X a ta) (hb:PE X b tb) (hc:PE X c tc)
  (hm:lastMarks [op,op'] [b,c]=false:=by with_unfolding_all rfl):PT X (.Compare a [op,op'] [b,c] pos) (Nd (Km r r' ta tb tc)):=by
 intro aa s σ H Q I h
 refine isTrue_chain (thn (ha aa s σ H _ I h) fun v s1 ⟨x,H1,I1,r1,q1⟩=>test_link (thn (hb aa s1 σ H1 _ I1 q1) fun u s2 ⟨y,H2,I2,r2,q2⟩ =>
  thn (ho aa s2 σ H2 x y v u _ I2 r1 r2 q2) fun d s3 ⟨z,H3,I3,r3,k,e,q3⟩=>?_)) hm
 subst e;cases r3;refine wpAny_truthy_bool ?_;cases k with
 | false =>
  obtain ⟨k',e',q'⟩:=q3;cases e';exact ite_ff ⟨H3,I3,q'⟩
 | true =>
  refine ite_tt (test_last (thn (hc aa s3 σ H3 _ I3 q3) fun w' s4 ⟨z',H4,I4,r4,q4⟩=>thn (ho' aa s4 σ H4 y z' u w' _ I4 r2 r4 q4) fun d' s5 ⟨z2,H5,I5,r5,k2,e2,q5⟩=>?_));subst e2;cases r5;exact wpAny_truthy_bool ⟨H5,I5,q5⟩
theorem EM:(sizeLine:Nat) < 2 ^ 63:=by rw [sizeLine_eq]; decide
theorem B5 {x:V} (r:Vals [x] us):∃ u,us=[u]/\RelV x u:=by
 cases r with
 | cons r1 r2=>cases r2; exact ⟨_,rfl,r1⟩
theorem E1 {x y:V} (r:Vals [x,y] us):∃ u w',us=[u,w']/\RelV x u/\RelV y w':=by
 cases r with
 | cons r1 r2 =>
  cases r2 with
  | cons r3 r4=>cases r4; exact ⟨_,_,rfl,r1,r3⟩
theorem Jg (hc:X.calm=true):BQ X (.builtin "max") (fun xs H Q=>∃ i j,xs=[.int i,.int j]/\Q (.int (if j > i then j else i)) H):=by
 intro aa s σ H xs us Q I r h;obtain ⟨i,j,rfl,q⟩:=h;obtain ⟨u,w',rfl,⟨t,rfl⟩,⟨t',rfl⟩⟩:=E1 r;refine max_two_ints (I.ok.hd hc) fun h' tk k=>⟨_,H,I.kept k,?_,q⟩;by_cases hj:j > i
 ·rw [if_pos hj,if_pos hj]; exact ⟨_,rfl⟩
 ·rw [if_neg hj,if_neg hj]; exact ⟨_,rfl⟩
theorem Jh (hc:X.calm=true):BQ X (.builtin "min") (fun xs H Q=>∃ i j,xs=[.int i,.int j]/\Q (.int (if j < i then j else i)) H):=by
 intro aa s σ H xs us Q I r h;obtain ⟨i,j,rfl,q⟩:=h;obtain ⟨u,w',rfl,⟨t,rfl⟩,⟨t',rfl⟩⟩:=E1 r;refine min_two_ints (I.ok.hd hc) fun h' tk k=>⟨_,H,I.kept k,?_,q⟩;by_cases hj:j < i
 ·rw [if_pos hj,if_pos hj]; exact ⟨_,rfl⟩
 ·rw [if_neg hj,if_neg hj]; exact ⟨_,rfl⟩
theorem D0:BQ X (.type "str") (fun xs H Q=>∃ i,xs=[.int i]/\i.natAbs.log2 < 1920/\Q (.str (toString i)) H):=by
 intro aa s σ H xs us Q I r h;obtain ⟨i,rfl,hz,q⟩:=h;obtain ⟨u,rfl,t,rfl⟩:=B5 r;exact PySem.P.str_of_int hz ⟨.str _,H,I.tok _,⟨_,rfl⟩,q⟩
end
end L2
namespace L2
open PySem PySem.Spec PyProof.Rows
structure ObjM (h:Heap) (x dx C:Addr) (mA:SV):Prop where
 obj:h.get? x=some (W.instObj C dx)
 ns:h.Ns1 dx mA
 ne:dx ≠ x
theorem Ji {dx:Addr} {mA:SV} (n:h.Ns1 dx mA):∃ od,h.get? dx=some od/\∀ name,W.lookIn name od=some (mA name):=by
 obtain ⟨o,es,ep,ho,hd,hk,_,hm⟩:=n;refine ⟨o,ho,fun name=>?_⟩;have e:=hm name;unfold nsFind findBy at e;rw [← Array.find?_toList] at e;unfold W.lookIn;rw [hd]
 dsimp only
 split
 ·rename_i y q;rw [q] at e;exact congrArg some e
 ·rename_i q;rw [q] at e
  have a:es.toList.any (·.refKey)=false:=by
   rw [List.any_eq_false];intro y hy;obtain ⟨z,t,bn⟩:=hk y (Array.mem_toList_iff.mp hy);simp [DictEntry.refKey,bn]
  have a':¬ es.toList.any (·.refKey)=true:=by rw [a]; exact Bool.false_ne_true
  rw [if_neg a'];exact congrArg some e
theorem ObjM.look {x dx:Addr} {mA:SV} (I:ObjM h x dx C mA):∃ od,W.InstAt h x (W.instObj C dx) C (some od)/\∀ name,W.lookIn name od=some (mA name) :=
 let ⟨od,ho,hl⟩:=Ji I.ns
 ⟨od,⟨I.obj,rfl,rfl,ho⟩,hl⟩
section
variable {prog:Program} {x dx:Addr} {mA:SV} {name:Str} {v:Value}
theorem MY {expr:Bool} {Q:VS} (X:K.In s.heap) (I:ObjM s.heap x dx C mA) (hg:W.plainGet K C name=true) (hh:W.hasDictIn K C=true)
  (ha:W.findIn K (.ref C) name=some none) (hv:mA name=some v) (hv':W.handedIn v=true) (h:Q v { s with toks:=s.toks + 1 }) :
  wpAny (model prog w) A (getAttr (.ref x) name expr) Q E s:=by
 obtain ⟨od,J,hl⟩:=I.look;exact W.get_value X J (W.plainGet_of hg).1 (W.findObj_own hh ha rfl (by rw [hl,hv])) hv' h
theorem Kn {pl:Sem Bool} {Q:Value × List Value->Shared->Prop} (X:K.In s.heap) (I:ObjM s.heap x dx C mA) (hg:W.plainGet K C name=true)
  (hf:W.findIn K (.ref C) name=some (some (.ref f))) (ht:W.isFn K (.ref f)=true) (hv:mA name=none) (h:Q (.ref f,[.ref x]) s) :
  wpAny (model prog w) A (getMethod (.ref x) name pl) Q E s:=by
 obtain ⟨od,J,hl⟩:=I.look;exact W.method_fn X J (W.plainGet_of hg).1 (W.plainGet_of hg).2 hf (beq_iff_eq.mp ht) (by show (W.lookIn name od).map (·.isSome)=some false; rw [hl,hv]; rfl) h
theorem MZ {ns:List Str} {Q:Unit->Shared->Prop} (X:K.In s.heap) (I:ObjM s.heap x dx C mA)
  (hs:W.findIn K (.ref C) "__setattr__" = some (some (.builtin "object.__setattr__"))) (hp:W.plainOver K C=true) (ht:W.takerIn K C name=some none) (hh:W.hasDictIn K C=true)
  (hw:PySem.Within mA ns) (hsz:ns.length <= sizeLine)
  (h:∀ h',ObjM h' x dx C (fun y=>if y=name then some v else mA y)->Heap.SameBut dx s.heap h'->Q () { s with heap:=h',toks:=s.toks + 2 }) :
  wpAny (model prog w) A (setAttr (.ref x) name v) Q E s:=by
 obtain ⟨od,J,hl⟩:=I.look;refine W.set_plain X J hs (W.osa_open (s:={ s with toks:=s.toks + 1 }) (r:=none) X J hp ht fun b=>?_);obtain ⟨cd,hc,hd'⟩:=W.any_some hh;have hx:s.heap.get? x=some ⟨.ref C,some dx,.plain,#[]⟩:=I.obj;refine wpAny_bind (wpAny_pure (wpAny_bind (wpAny_bind (wpAny_loadPart hx (wpAny_bind (W.Looks.here (s:={ s with toks:=s.toks + 1 }) (W.looks_clsIn X hc) ?_))))));rw [hd'];refine wpAny_pure (a:=some dx) (wpAny_bind (wpAny_pure (wpAny_bind ?_)));refine wpAny_nsSet1 (s:={ s with toks:=s.toks + 1 }) I.ns fun h' hn2 hs2=>?_;obtain ⟨oD,esD,epD,hoD,hdD,hcD⟩:=hn2.count (PySem.Within.cons name v hw);refine wpAny_bind (wpAny_lookBehind hoD (by rw [hdD]; exact pastItsLine_dict (Nat.le_trans hcD (by rw [length_cons]; omega))) ?_);exact wpAny_pure (h _ ⟨(hs2.2 _ (Ne.symm I.ne)).trans I.obj,hn2,I.ne⟩ hs2)
theorem G1 {R:Result->Shared->Prop} {vs:List Value} {kw:List (Str × Value)} (X:K.In s.heap) (hm:W.makesIn K C=true)
  (hi:W.findIn K (.ref C) "__init__" = some (some (.ref f))) (hf:W.typeIn K (.ref f)=some (.type "function"))
  (h:codeAny (model prog w) (A.under (.builtin "type.__call__" ⟨.ref C :: vs,kw⟩)) (.call (.ref f) ⟨.ref (s.heap.objs.size + 1) :: vs,kw⟩) (W.InitBack (s.heap.objs.size + 1) R)
   { s with heap:=(s.heap.push W.emptyDict).push (W.instObj C s.heap.objs.size) }) :
  codeAny (model prog w) A (.call (.ref C) ⟨vs,kw⟩) R s:=by
 obtain ⟨hh,g,d,t,os⟩:=s;exact W.make_core (W.makes_of X hm) (W.looks_findIn X hi) (fun self=>W.bind_fn X self hf) (.inl rfl) h
end
def A1 (f:Str) (v:V):List (Str × V)->List (Str × V)
  | []=>[(f,v)]
  | (g,x) :: r=>if g=f then (g,v) :: r else (g,x) :: A1 f v r
theorem AR (f g:Str) (v:V):∀ fs:List (Str × V),(A1 f v fs).lookup g=if g=f then some v else fs.lookup g
  | []=>by
    show List.lookup g [(f,v)]=_;by_cases h:g=f
    · have hb:(g == f)=true:=beq_iff_eq.mpr h
      simp only [List.lookup,hb,if_pos h]
    · have hb:(g == f)=false:=beq_eq_false_iff_ne.mpr h
      simp only [List.lookup,hb,if_neg h]
  | (k,x) :: r=>by
    have ih:=AR f g v r;rw [show A1 f v ((k,x) :: r)=(if k=f then (k,v) :: r else (k,x) :: A1 f v r) from rfl];by_cases hk:k=f
    · rw [if_pos hk]
      by_cases h:g=k
      · have hb:(g == k)=true:=beq_iff_eq.mpr h
        simp only [List.lookup,hb,if_pos (h.trans hk)]
      · have hb:(g == k)=false:=beq_eq_false_iff_ne.mpr h
        simp only [List.lookup,hb,if_neg (fun e:g=f=>h (e.trans hk.symm))]
    · rw [if_neg hk]
      by_cases h:g=k
      · have hb:(g == k)=true:=beq_iff_eq.mpr h
        simp only [List.lookup,hb,if_neg (fun e:g=f=>hk (h.symm.trans e))]
      · have hb:(g == k)=false:=beq_eq_false_iff_ne.mpr h
        simp only [List.lookup,hb];exact ih
theorem EN (f:Str) (v:V):∀ fs:List (Str × V),f ∈ (A1 f v fs).map (·.1)/\∀ g,g ∈ fs.map (·.1)->g ∈ (A1 f v fs).map (·.1)
  | []=>⟨by simp [A1],fun g h=>by simp at h⟩
  | (k,x) :: r=>by
    obtain ⟨i1,i2⟩:=EN f v r;rw [show A1 f v ((k,x) :: r)=(if k=f then (k,v) :: r else (k,x) :: A1 f v r) from rfl];by_cases hk:k=f
    · rw [if_pos hk]
      subst hk;exact ⟨by simp,fun g h=>by simpa using h⟩
    · rw [if_neg hk]
      refine ⟨?_,fun g h=>?_⟩
      · rw [map_cons]
        exact mem_cons_of_mem _ i1
      · rw [map_cons] at h ⊢
        rcases mem_cons.mp h with e | e
        · exact mem_cons.mpr (.inl e)
        · exact mem_cons_of_mem _ (i2 g e)
theorem At (f:Str) (v:V):∀ fs:List (Str × V),(A1 f v fs).length <= fs.length + 1
  | []=>by simp [A1]
  | (k,x) :: r=>by
    have ih:=At f v r;rw [show A1 f v ((k,x) :: r)=(if k=f then (k,v) :: r else (k,x) :: A1 f v r) from rfl];by_cases hk:k=f
    · rw [if_pos hk,length_cons,length_cons]; omega
    · rw [if_neg hk,length_cons,length_cons]; omega
theorem RelO.some_of {v:V} {o:Option Value} (r:RelO (some v) o):∃ u,o=some u/\RelV v u:=by
 cases o with
 | none=>exact (show False from r).elim
 | some u=>exact ⟨u,rfl,r⟩
theorem RelO.none_of {o:Option Value} (r:RelO none o):o=none:=by
 cases o with
 | none=>rfl
 | some u=>exact (show False from r).elim
theorem Jj {v:V} (r:RelV v u):W.handedIn u=true:=by
 cases v with
 | non=>cases (show u=Value.none from r); rfl
 | bl b=>cases (show u=Value.bool b from r); rfl
 | int i=>obtain ⟨t,e⟩:=(show ∃ t,u=Value.int i t from r); cases e; rfl
 | str x=>obtain ⟨t,e⟩:=(show ∃ t,u=Value.str x t from r); cases e; rfl
 | byt b=>obtain ⟨t,e⟩:=(show ∃ t,u=Value.bytes b t from r); cases e; rfl
 | flt b=>obtain ⟨t,e⟩:=(show ∃ t,u=Value.float b t from r); cases e; rfl
 | ref a=>cases (show u=Value.ref a from r); rfl
 | ty n=>cases (show u=Value.type n from r); rfl
section
variable {h':Heap} {dx:Addr} {fs fs':List (Str × V)}
theorem B6 (hok:HOk P w H h) (e:H a=some (.ins C dx fs)):∃ mA,ObjM h a dx C mA/\(∀ f,RelO (fs.lookup f) (mA f))/\PySem.Within mA (fs.map (·.1))/\fs.length <= 1000/\H dx=some (.own a):=by
 obtain ⟨d,z,ne,ob,mA,n,r,q⟩:=(show ObjOk P w H h a (.ins C dx fs) from hok a _ e);exact ⟨mA,⟨ob,n,ne⟩,r,q,z,d⟩
end
structure Cls (K:FG) (C:Addr):Prop where
 pg:W.plainGet K C Str.empty=true
 hd:W.hasDictIn K C=true
 po:W.plainOver K C=true
 sa:W.findIn K (.ref C) "__setattr__" = some (some (.builtin "object.__setattr__"))
theorem Cls.get (c:Cls K C) (f:Str):W.plainGet K C f=true:=c.pg
def NoAttr (K:FG) (C:Addr) (f:Str):Prop:=W.findIn K (.ref C) f=some none
theorem NoAttr.taker {f:Str} (n:NoAttr K C f):W.takerIn K C f=some none:=by
 unfold W.takerIn;rw [show W.findIn K (.ref C) f=some none from n];rfl
structure IA (K:FG) (C:Addr) (m:Str) (f:Addr):Prop where
 at_:W.findIn K (.ref C) m=some (some (.ref f))
 fn:W.isFn K (.ref f)=true
 kp:W.keepIn K (.ref f)=true
section
variable {dx:Addr} {fs:List (Str × V)} {f:Str} {v:V}
theorem IB {b:Bool} {Q:VS} (I:Inv X aa σ H s) (e:H a=some (.ins C dx fs)) (c:Cls X.K C) (n:NoAttr X.K C f) (l:fs.lookup f=some v)
  (h:∀ u s',Inv X aa σ H s'->RelV v u->Q u s'):wpAny (model X.prog X.w) A (getAttr (.ref a) f b) Q E s:=by
 obtain ⟨mA,O,r,_,_,_⟩:=B6 I.hok e;obtain ⟨u,hu,ru⟩:=RelO.some_of (v:=v) (o:=mA f) (by rw [← l]; exact r f);exact MY I.kIn O (c.get f) c.hd n hu (Jj ru) (h u _ (I.tok _) ru)
theorem E2 {m:Str} {g:Addr} {pl:Sem Bool} {Q:Value × List Value->Shared->Prop} (I:Inv X aa σ H s) (e:H a=some (.ins C dx fs)) (c:Cls X.K C) (k:IA X.K C m g) (l:fs.lookup m=none)
  (h:Q (.ref g,[.ref a]) s):wpAny (model X.prog X.w) A (getMethod (.ref a) m pl) Q E s:=by
 obtain ⟨mA,O,r,_,_,_⟩:=B6 I.hok e;have hn:mA m=none:=RelO.none_of (by rw [← l]; exact r m);exact Kn I.kIn O (c.get m) k.at_ k.fn hn h
theorem IC {y:V} {Q:Unit->Shared->Prop} (I:Inv X aa σ H s) (e:H a=some (.ins C dx fs)) (c:Cls X.K C) (n:NoAttr X.K C f) (hl:fs.length < 1000) (ry:RelV y u)
  (h:∀ s',Inv X aa σ (upd H a (.ins C dx (A1 f y fs))) s'->Q () s'):wpAny (model X.prog X.w) A (setAttr (.ref a) f u) Q E s:=by
 obtain ⟨mA,O,r,wi,_,ho⟩:=B6 I.hok e;have hz:(fs.map (·.1)).length <= sizeLine:=by rw [length_map,sizeLine_eq]; omega
 refine MZ I.kIn O c.sa c.po n.taker c.hd wi hz fun h' O' sb=>h _ ?_;have hd:∃ o,h'.get? dx=some o:=let ⟨o,_,_,e',_⟩:=O'.ns; ⟨o,e'⟩
 refine I.write (x:=a) (e:=dx) (by rw [e]; exact True.intro) (.inr ho) (fun b q hb z=>(sb.2 b hb).trans z) hd ?_;refine ⟨by rw [AF O.ne]; exact ho,?_,O.ne,O'.obj,_,O'.ns,fun g=>?_,fun g hg=>?_⟩
 ·have:=At f y fs; omega
 ·show RelO ((A1 f y fs).lookup g) (if g=f then some u else mA g);rw [AR];by_cases q:g=f
  ·rw [if_pos q,if_pos q]; exact ry
  ·rw [if_neg q,if_neg q]; exact r g
 ·by_cases q:g=f
  ·rw [q]; exact (EN f y fs).1
  ·refine (EN f y fs).2 g (wi g fun z=>hg ?_);show (if g=f then some u else mA g)=none;rw [if_neg q]; exact z
theorem Inv.made (I:Inv X aa σ H s):Inv X aa σ (upd (upd H s.heap.objs.size (.own (s.heap.objs.size + 1))) (s.heap.objs.size + 1) (.ins C s.heap.objs.size []))
  { s with heap:=(s.heap.push W.emptyDict).push (W.instObj C s.heap.objs.size) }:=by
 have e1:(s.heap.push W.emptyDict).get? s.heap.objs.size=some W.emptyDict:=get?_push_size s.heap rfl
 have e2:((s.heap.push W.emptyDict).push (W.instObj C s.heap.objs.size)).get? (s.heap.objs.size + 1)=some (W.instObj C s.heap.objs.size):=by
  have:=get?_push_size (s.heap.push W.emptyDict) (o:=W.instObj C s.heap.objs.size) rfl
  rwa [size_push] at this
 have e3:(s.heap.push W.emptyDict).Ns s.heap.objs.size (fun _=>none):=⟨W.emptyDict,#[],_,e1,rfl,(fun e he=>absurd he (by simp)),fun _=>rfl⟩;have I1:=I.laid (a:=s.heap.objs.size) (o:=.own (s.heap.objs.size + 1)) (h':=s.heap.push W.emptyDict) (t':=s.toks) (fun b u q=>get?_push_of_some _ q) (Nat.le_refl _) ⟨_,e1⟩;refine I1.laid (a:=s.heap.objs.size + 1) (o:=.ins C s.heap.objs.size []) (t':=s.toks) (fun b u q=>get?_push_of_some _ q) (Nat.le_of_eq (size_push _ _)) ?_;have ne:s.heap.objs.size ≠ s.heap.objs.size + 1:=Nat.ne_of_lt (Nat.lt_succ_self _);refine ⟨by rw [AF ne,AB],Nat.zero_le _,ne,e2,fun _=>none,(Heap.Ns1.of_empty e3).at fun o q=>get?_push_of_some _ q,fun _=>True.intro,fun y hy=>absurd rfl hy⟩
theorem Ma {prog:Program} {env:Env} {f:Str} {Q:VS} (hb:attributeBase e f env (eval e env)=eval e env)
  (h:wpAny (model prog w) A (eval e env) (fun o s₁=>wpAny (model prog w) A (getAttr o f true) Q E s₁) E s):wpAny (model prog w) A (eval (.Attribute e f pos) env) Q E s :=
 Attribute_any_ h (by rw [arm_eval_Attribute,hb])
end
inductive ExF (K:FG) (x:V) (H:Hp) (f:Str) (k:V->Prop):Prop where
 | mk (a C dx:Addr) (fs:List (Str × V)) (v:V) (h1:x=.ref a) (h2:H a=some (.ins C dx fs)) (h3:Cls K C) (h4:NoAttr K C f) (h5:fs.lookup f=some v) (q:k v):ExF K x H f k
def O3 (K:FG) (ta:TE) (f:Str):TE:=fun σ H Q=>ta σ H fun x H1=>ExF K x H1 f fun v=>Q v H1
def P5 (K:FG) (ta tv:TE) (f:Str):TS:=fun D σ H=>tv σ H fun y H1=>ta σ H1 fun x H2=>∃ a C dx fs,x=.ref a/\H2 a=some (.ins C dx fs)/\Cls K C/\NoAttr K C f/\fs.length < 1000 /\
 D.nx σ (upd H2 a (.ins C dx (A1 f y fs)))
section
variable {o value:Expr} {f:Str} {pos' tpos:Pos} {ta tv:TE}
theorem Aj (he:PE X e ta) (hb:attributeBase e f X.env (eval e X.env)=eval e X.env):PE X (.Attribute e f pos) (O3 X.K ta f):=by
 intro aa s σ H Q I h;refine Ma hb (thn (he aa s σ H _ I h) fun u s1 ⟨x,H1,I1,rx,a,C,dx,fs,v,ex,ea,c,n,l,q⟩=>?_);subst ex;obtain rfl:u=Value.ref a:=rx;exact IB I1 ea c n l fun u' s2 I2 ru=>⟨v,H1,I2,ru,q⟩
theorem CC (ha:PE X o ta) (hv:PE X value tv) (hs:swapsWith value (some (.Attribute o f pos')) pos.line X.env=pure false):PS X (.Assign [.Attribute o f pos'] value pos) (P5 X.K ta tv f):=by
 intro aa s σ H D I h;refine plainObj_wpAny_Assign_Attribute (thn (hv aa s σ H _ I h) fun u s1 ⟨y,H1,I1,ry,q⟩=>thn (ha aa s1 σ H1 _ I1 q) fun ov s2 ⟨x,H2,I2,rx,a,C,dx,fs,ex,ea,c,n,l,q2⟩=>?_) hs;subst ex;obtain rfl:ov=Value.ref a:=rx;exact IC I2 ea c n l ry fun s3 I3=>⟨σ,_,I3,q2⟩
end
section
variable {Q:VS} {c:Value} {b:Bool}
inductive TyOf (K:FG) (H:Hp):V->Value->Prop where
 | non:TyOf K H .non (.type "NoneType")
 | bl (x:Bool):TyOf K H (.bl x) (.type "bool")
 | int (i:Int):TyOf K H (.int i) (.type "int")
 | str (x:Str):TyOf K H (.str x) (.type "str")
 | flt (x:UInt64):TyOf K H (.flt x) (.type "float")
 | lst {a:Addr} {xs:List V} (e:H a=some (.lst xs)):TyOf K H (.ref a) (.type "list")
 | frz {a:Addr} {o:Obj} {xs:List V} (e:H a=some (.frz o (.lst xs))):TyOf K H (.ref a) (.type "list")
 | tup {a:Addr} {xs:List V} (e:H a=some (.tup xs)):TyOf K H (.ref a) (.type "tuple")
 | dK {a:Addr} {kvs:LK} (e:H a=some (.dK kvs)):TyOf K H (.ref a) (.type "dict")
 | dT {a:Addr} {kvs:List (List Key × V)} (e:H a=some (.dT kvs)):TyOf K H (.ref a) (.type "dict")
 | ins {a C dx:Addr} {fs:List (Str × V)} (e:H a=some (.ins C dx fs)) (cl:Cls K C) (ha:W.findIn K (.ref C) "__class__" = some (some (.builtin "object.__class__")))
   (hn:W.specialIn K (.builtin "object.__class__") "__get__" = some (some (.builtin "getset_descriptor.__get__"))) (htk:W.takesIn K (.builtin "object.__class__")=some true)
   (hm:W.mroIn K C (.type "object")=some true):TyOf K H (.ref a) (.ref C)
theorem Fg {x:V} {t:Value} (I:Inv X aa σ H s) (rx:RelV x u) (ty:TyOf X.K H x t) (e:W.kitOne X.K t c=some b) (h:∀ tk,Q (.bool b) { s with toks:=tk }) :
  wpAny (model X.prog X.w) A (call (.builtin "isinstance") [u,c]) Q E s:=by
 cases ty with
 | non=>cases (show u=Value.none from rx); exact W.kia_one W.kitx_none I.kIn True.intro e (fun z=>nomatch z) h
 | bl y=>cases (show u=Value.bool y from rx); exact W.kia_one W.kitx_bool I.kIn True.intro e (fun z=>nomatch z) h
 | int i=>obtain ⟨t,q⟩:=(show ∃ t,u=Value.int i t from rx); cases q; exact W.kia_one W.kitx_int I.kIn True.intro e (fun z=>nomatch z) h
 | str y=>obtain ⟨t,q⟩:=(show ∃ t,u=Value.str y t from rx); cases q; exact W.kia_one W.kitx_str I.kIn True.intro e (fun z=>nomatch z) h
 | flt y=>obtain ⟨t,q⟩:=(show ∃ t,u=Value.float y t from rx); cases q; exact W.kia_one W.kitx_float I.kIn True.intro e (fun z=>nomatch z) h
 | @lst a xs ea =>
  cases (show u=Value.ref a from rx);obtain ⟨_,_,n,_,h1⟩:=(show ObjOk X.prog X.w H s.heap a (.lst xs) from I.hok a _ ea);exact W.kia_one W.kitx_list I.kIn ⟨_,h1,rfl⟩ e (fun z=>nomatch z) h
 | @frz a ob xs ea =>
  cases (show u=Value.ref a from rx);obtain ⟨_,_,_,n,_,h1⟩:=(show ObjOk X.prog X.w H s.heap a (.frz ob (.lst xs)) from I.hok a _ ea);exact W.kia_one W.kitx_list I.kIn ⟨_,h1,rfl⟩ e (fun z=>nomatch z) h
 | @tup a xs ea =>
  cases (show u=Value.ref a from rx);obtain ⟨_,_,_,p⟩:=(show ObjOk X.prog X.w H s.heap a (.tup xs) from I.hok a _ ea);obtain ⟨o,h1,h2,_⟩:=p;exact W.kia_one W.kitx_tuple I.kIn ⟨o,h1,h2⟩ e (fun z=>nomatch z) h
 | @dK a kvs ea =>
  cases (show u=Value.ref a from rx);obtain ⟨_,_,vs,_,p⟩:=(show ObjOk X.prog X.w H s.heap a (.dK kvs) from I.hok a _ ea);obtain ⟨o,es,ep,h1,h2,_⟩:=p;exact W.kia_one W.kitx_dict I.kIn ⟨o,h1,h2.1⟩ e (fun z=>nomatch z) h
 | @dT a kvs ea =>
  cases (show u=Value.ref a from rx);obtain ⟨_,_,xs,_,o,es,ep,h1,h2,_⟩:=(show ObjOk X.prog X.w H s.heap a (.dT kvs) from I.hok a _ ea);exact W.kia_one W.kitx_dict I.kIn ⟨o,h1,h2.1⟩ e (fun z=>nomatch z) h
 | @ins a C dx fs ea cl ha hn htk hm =>
  cases (show u=Value.ref a from rx);obtain ⟨mA,O,_⟩:=B6 I.hok ea;obtain ⟨od,J,_⟩:=O.look;exact W.kia_one (W.kitx_own (cl.get _) cl.hd ha hn htk hm) I.kIn J e (fun z=>nomatch z) h
end
end L2
namespace L2
open PySem PySem.Spec PyProof.Rows
structure Room (k:Nat) (A:Around):Prop where
 hd:A.handled=none
 dp:A.depth + 3 * k + 5 < recursionLimit
 un:A.units + 16 * k + 200 < cLine
theorem Room.mono {j k:Nat} (r:Room k A) (h:j <= k):Room j A:=⟨r.hd,by have:=r.dp; omega,by have:=r.un; omega⟩
theorem Room.deeper {k:Nat} {A:Around} (r:Room (k + 1) A) (env:Env):Room k (A.deeper env) :=
 ⟨r.hd,by have:=r.dp; show A.depth + 1 + 3 * k + 5 < _; omega,by have:=r.un; show A.units + 3 + 16 * k + 200 < _; omega⟩
theorem Room.in1 {k:Nat} {A:Around} (r:Room (k + 1) A):Room k A.in1 :=
 ⟨r.hd,by have:=r.dp; show A.depth + 3 * k + 5 < _; omega,by have:=r.un; show A.units + 1 + 16 * k + 200 < _; omega⟩
theorem ID {kw:List (Str × Value)}:(A.under (.builtin "type.__call__" ⟨.ref C :: us,kw⟩)).depth=A.depth + 1:=by
 first | rfl | simp [Around.under,Code.weight,Code.isCreation,Code.isGuard,Code.isCaller,Code.frames,Code.isFrame,guardIds]
theorem IE {kw:List (Str × Value)}:(A.under (.builtin "type.__call__" ⟨.ref C :: us,kw⟩)).units=A.units + 1:=by
 first | rfl | simp [Around.under,Code.cUnits,Code.frames,Code.isFrame]
theorem Room.make {k:Nat} (r:Room (k + 1) A) (C:Addr) (us:List Value) (kw:List (Str × Value)):Room k (A.under (.builtin "type.__call__" ⟨.ref C :: us,kw⟩)) :=
 ⟨r.hd,by have:=r.dp; rw [ID]; omega,by have:=r.un; rw [IE]; omega⟩
theorem Room.depth {k:Nat} {A:Around} (r:Room k A):A.depth < recursionLimit:=by have:=r.dp; omega
theorem Room.units {k:Nat} {A:Around} (r:Room k A):A.units + 64 < cLine:=by have:=r.un; omega
def F9:TA:=fun _ H Q=>Q [] H
def Ay (ta:TE) (tr:TA):TA:=fun σ H Q=>ta σ H fun x H1=>tr σ H1 fun xs H2=>Q (x :: xs) H2
section
variable {es:List Expr} {t:TA}
theorem AC:PA X [] F9:=fun _ _ _ _ H Q I h=>Calls.spliced_nil ⟨[],H,I,.nil,h⟩
theorem AA (ha:PE X e te) (hr:PA X es t) (hs:starEach (e :: es) X.env=(false,eval e X.env) :: starEach es X.env:=by rfl):PA X (e :: es) (Ay te t):=by
 intro pos aa s σ H Q I h;rw [hs];show wpAny _ _ (spliced ((false,eval e X.env) :: backTo pos (starEach es X.env))) _ _ s;refine Calls.spliced_cons (thn (ha aa s σ H _ I h) fun u s1 ⟨x,H1,I1,r1,q1⟩=>?_);exact thn (hr pos aa s1 σ H1 _ I1 q1) fun us s2 ⟨xs,H2,I2,r2,q2⟩=>⟨x :: xs,H2,I2,.cons r1 r2,q2⟩
def P6 (t:TA):TE:=fun σ H Q=>t σ H fun xs H1=>xs.length <= sizeLine/\∀ p,H1 p=none->Q (.ref p) (upd H1 p (.tup xs))
def O4 (t:TA):TE:=fun σ H Q=>t σ H fun xs H1=>xs.length <= sizeLine/\∀ p,H1 p=none->Q (.ref p) (upd H1 p (.lst xs))
theorem CT {x1} (h:PA X es t):PE X (.Tuple es x1 pos) (P6 t):=by
 intro aa s σ H Q I hq;refine wpAny_Tuple_spliced (thn (h pos aa s σ H _ I hq) fun us s1 ⟨xs,H1,I1,r,z,q⟩=>⟨by rw [← r.length]; exact z,?_⟩);have hf:H1 s1.heap.objs.size=none:=I1.hok.fresh (Nat.le_refl _);refine ⟨.ref s1.heap.objs.size,upd H1 s1.heap.objs.size (.tup xs),I1.laid (t':=s1.toks) (fun b u e=>get?_push_of_some _ e) (Nat.le_refl _) ?_,rfl,q _ hf⟩;exact ⟨z,us,r,⟨_,get?_push_size _ rfl,rfl,_,rfl⟩⟩
theorem A4 (h:PA X es t):PE X (.List es pos) (O4 t):=by
 intro aa s σ H Q I hq;refine wpAny_List_spliced (thn (h pos aa s σ H _ I hq) fun us s1 ⟨xs,H1,I1,r,z,q⟩=>⟨by rw [← r.length]; exact z,?_⟩);have hf:H1 s1.heap.objs.size=none:=I1.hok.fresh (Nat.le_refl _);refine ⟨.ref s1.heap.objs.size,upd H1 s1.heap.objs.size (.lst xs),I1.laid (t':=s1.toks) (fun b u e=>get?_push_of_some _ e) (Nat.le_refl _) ?_,rfl,q _ hf⟩;exact ⟨z,us,0,r,get?_push_size _ rfl⟩
end
abbrev Sp:=List V->Hp->VK->XK->Prop
abbrev CXT:=List Env->Hp->Shared->XK->Value->Shared->Prop
structure Env0 (P:Program) (w:World) (K:FG) (mg:SV) (base:Heap) (A:Around) (outer:List Env) (s:Shared) (H:Hp):Prop where
 frames:A.frames=some outer
 mod:Mod K mg base
 bs:∀ b o,base.get? b=some o->s.heap.get? b=some o/\H b=none
 bsz:base.objs.size <= s.heap.objs.size
 funs:s.heap.FunFrames base outer
 frf:∀ b ∈ frs outer,H b=none
 hok:HOk P w H s.heap
 bare:AllBare s.gens
def CE (outer:List Env) (P:Program) (w:World) (H:Hp) (s:Shared) (Q:VK) (u:Value) (s':Shared):Prop :=
 ∃ v H',s'.os=s.os/\AllBare s'.gens/\Un (frs outer) [] H H' s.heap s'.heap/\HOk P w H' s'.heap/\RelV v u/\Q v H'
def CR (CX:CXT) (outer:List Env) (P:Program) (w:World) (H:Hp) (s:Shared) (Q:VK) (E:XK) (r:Result) (s':Shared):Prop :=
 match r with
 | .ok (.ret u)=>CE outer P w H s Q u s'
 | .ok _=>False
 | .error e=>CX outer H s E e s'
structure AX (P:Program) (w:World) (K:FG) (mg:SV) (base:Heap) (CX:CXT) (k:Nat) (f:Addr) (fd:FuncData) (ps:List Str) (sp:Sp):Prop where
 len:∀ vs H Q E,sp vs H Q E->vs.length=ps.length
 run:∀ (A:Around) (outer:List Env) (s:Shared) (H:Hp) (args:Args) (us:List Value) (vs:List V) (Q:VK) (E:XK),Room k A->Env0 P w K mg base A outer s H->BindsTo s fd args (ps.zip us)->Vals vs us->sp vs H Q E ->
  codeAny (model P w) A (.call (.ref f) args) (CR CX outer P w H s Q E) s
theorem Env0.make {outer:List Env} (e:Env0 P w K mg base A outer s H) (C:Addr) (us:List Value) (kw:List (Str × Value)) :
  Env0 P w K mg base (A.under (.builtin "type.__call__" ⟨.ref C :: us,kw⟩)) outer s H:=⟨by first | exact e.frames | (simpa [Around.under,Code.envs,Code.isFrame,pushEnvs] using e.frames),e.mod,e.bs,e.bsz,e.funs,e.frf,e.hok,e.bare⟩
theorem Env0.in1 {P:Program} {w:World} {K:FG} {mg:SV} {base:Heap} {A:Around} {outer:List Env} {s:Shared} {H:Hp} (e:Env0 P w K mg base A outer s H) :
  Env0 P w K mg base A.in1 outer s H:=⟨e.frames,e.mod,e.bs,e.bsz,e.funs,e.frf,e.hok,e.bare⟩
section
variable {s':Shared}
theorem Inv.env0 (I:Inv X aa σ H s):Env0 X.prog X.w X.K X.mg X.base X.A X.stack s H :=
 ⟨I.ok.frames,I.ok.mod,I.bs,Nat.le_trans I.ok.bsz I.sz,I.stack,I.stkFree,I.hok,I.bare⟩
theorem Inv.after {Q:VK} (I:Inv X aa σ H s) (h:CE X.stack X.prog X.w H s Q u s'):EP X aa σ Q u s':=by
 obtain ⟨v,H',os,bare,un,hok,r,q⟩:=h;obtain ⟨hh,g,d,t,os'⟩:=s';obtain rfl:os'=s.os:=os;exact ⟨v,H',I.call (h':=hh) (g':=g) (d':=d) (t':=t) (ch:=[]) un hok bare (fun b z=>absurd z (by simp)),r,q⟩
end
def O5 (sp:Sp) (dvs:List V) (E:XK) (t:TA):TE:=fun σ H Q=>t σ H fun vs H1=>sp (vs++dvs) H1 Q E
inductive ExM (C:Addr) (m:Str) (x:V) (H:Hp) (k:Prop):Prop where
 | mk (a dx:Addr) (fs:List (Str × V)) (h1:x=.ref a) (h2:H a=some (.ins C dx fs)) (h3:fs.lookup m=none) (q:k):ExM C m x H k
def Nf (C:Addr) (m:Str) (sp:Sp) (dvs:List V) (E:XK) (ta:TE) (t:TA):TE:=fun σ H Q=>ta σ H fun x H1=>ExM C m x H1 (t σ H1 fun vs H2=>sp (x :: (vs++dvs)) H2 Q E)
def Ng (C:Addr) (sp:Sp) (dvs:List V) (E:XK) (t:TA):TE:=fun σ H Q=>t σ H fun vs H1=>∀ x dx,H1 x=none->H1 dx=none->dx ≠ x ->
 sp (.ref x :: (vs++dvs)) (upd (upd H1 dx (.own x)) x (.ins C dx [])) (fun v H2=>v=.non/\Q (.ref x) H2) E
def Binds (K:FG) (fd:FuncData) (ps:List Str) (ds:List Value):Prop :=
 ∀ (s:Shared) (us:List Value),K.In s.heap->(us++ds).length=ps.length->BindsTo s fd ⟨us,[]⟩ (ps.zip (us++ds))
theorem Binds.all {fd:FuncData} {ps:List Str} (h:∀ us:List Value,us.length=ps.length->bindArgs fd ⟨us,[]⟩=pure (ps.zip us)):Binds K fd ps []:=fun s us _ hl=>by
 rw [append_nil] at hl ⊢;exact .of_eq (h us hl)
def CD (CX:CXT) (X:Cx) (E:XK):Prop:=∀ (aa:LO) (σ:St) (H:Hp) (s:Shared) (e:Value) (s':Shared),Inv X aa σ H s->CX X.stack H s E e s'->X.xe e s'
section
variable {CX:CXT} {k:Nat} {fd:FuncData} {ps:List Str} {sp:Sp} {dvs:List V} {ds:List Value} {E:XK} {m:Str} {p apos:Pos} {o:Expr} {es:List Expr} {ta:TE} {t:TA}
theorem IF {Q:VK} {vs:List V} (F:AX X.prog X.w X.K X.mg X.base CX k f fd ps sp) (hr:Room k X.A) (hb:Binds X.K fd ps ds) (hd:Vals dvs ds) (hx:CD CX X E)
  (I:Inv X aa σ H s) (r:Vals vs us) (h:sp (vs++dvs) H Q E):wpAny (model X.prog X.w) X.A (call (.ref f) us) (EP X aa σ Q) X.xe s:=by
 have r2:Vals (vs++dvs) (us++ds):=r.append hd;have hl:(us++ds).length=ps.length:=by rw [← r2.length]; exact F.len _ _ _ _ h
 refine wpAny_call (codeAny_mono (F.run X.A X.stack s H ⟨us,[]⟩ (us++ds) (vs++dvs) Q E hr I.env0 (hb s us I.kIn hl) r2 h) fun r s' hq=>?_);cases r with
 | error e=>exact hx aa σ H s e s' I hq
 | ok fl =>
  cases fl with
  | ret u=>exact I.after hq
  | next=>exact False.elim hq
  | brk=>exact False.elim hq
  | cont=>exact False.elim hq
theorem AJ (F:AX X.prog X.w X.K X.mg X.base CX k f fd ps sp) (hr:Room k X.A) (hg:Gl X x) (hm:X.mg x=some (.ref f)) (hk:W.keepIn X.K (.ref f)=true) (hb:Binds X.K fd ps ds) (hd:Vals dvs ds) (hx:CD CX X E)
  (ha:PA X (e :: es) t) (hdb:(x == ("__debug__" : Str))=false:=by decide) (he:starEach (e :: es) X.env=(false,eval e X.env) :: starEach es X.env:=by rfl) (hpl:(backTo pos (starEach es X.env)).any (·.1)=false:=by rfl) :
  PE X (.Call (.Name x p) (e :: es) [] pos) (O5 sp dvs E t):=by
 intro aa s σ H Q I h;refine wpAny_Call_Name_kw (DE I hg hm ?_ hdb);refine W.callWith_K (h₀:=X.base) I.ok.mod.kin hk (thn (ha pos aa s σ H _ I h) fun us s1 ⟨vs,H1,I1,r,q⟩=>⟨I1.kIn,?_⟩) he hpl;exact IF F hr hb hd hx I1 r q
theorem B7 {pl:Sem Bool} (he:PE X o ta) (c:Cls X.K C) (hm:IA X.K C m f) (F:AX X.prog X.w X.K X.mg X.base CX k f fd ps sp) (hr:Room k X.A) (hb:Binds X.K fd ps ds) (hd:Vals dvs ds) (hx:CD CX X E) (ha:PA X (e :: es) t)
  (hst:starEach (e :: es) X.env=(false,eval e X.env) :: starEach es X.env:=by rfl) (hpl:(backTo pos (starEach es X.env)).any (·.1)=false:=by rfl)
  (ht:eval (.Call (.Attribute o m apos) (e :: es) [] pos) X.env=(do
   let ov ← eval o X.env
   standAt apos.atName
   let (f,first) ← holding [ov] (getMethod ov m pl)
   callWith pos f first (backTo pos (starEach (e :: es) X.env)) (backToKw pos (keywordEach [] X.env))):=by rfl) :
  PE X (.Call (.Attribute o m apos) (e :: es) [] pos) (Nf C m sp dvs E ta t):=by
 intro aa s σ H Q I h;refine W.methodCall_KW (pl:=pl) (thn (he aa s σ H _ I h) fun u s1 ⟨x,H1,I1,rx,a,dx,fs,ex,ea,l,q⟩=>?_) ht;subst ex;obtain rfl:u=Value.ref a:=rx;refine E2 I1 ea c hm l ?_;refine W.callWith_K (first:=[.ref a]) (h₀:=X.base) I.ok.mod.kin hm.kp (thn (ha pos aa s1 σ H1 _ I1 q) fun us s2 ⟨vs,H2,I2,r,q2⟩=>⟨I2.kIn,?_⟩) hst hpl;exact IF (us:=.ref a :: us) (vs:=.ref a :: vs) F hr hb hd hx I2 (.cons rfl r) q2
theorem Ao {pl:Sem Bool} (he:PE X o ta) (c:Cls X.K C) (hm:IA X.K C m f) (F:AX X.prog X.w X.K X.mg X.base CX k f fd ps sp) (hr:Room k X.A) (hb:Binds X.K fd ps ds) (hd:Vals dvs ds) (hx:CD CX X E)
  (ht:eval (.Call (.Attribute o m apos) [] [] pos) X.env=(do
   let ov ← eval o X.env
   standAt apos.atName
   let (f,first) ← holding [ov] (getMethod ov m pl)
   callWith pos f first (backTo pos (starEach [] X.env)) (backToKw pos (keywordEach [] X.env))):=by rfl) :
  PE X (.Call (.Attribute o m apos) [] [] pos) (Nf C m sp dvs E ta F9):=by
 intro aa s σ H Q I h;refine W.methodCall_KW (pl:=pl) (thn (he aa s σ H _ I h) fun u s1 ⟨x,H1,I1,rx,a,dx,fs,ex,ea,l,q⟩=>?_) ht;subst ex;obtain rfl:u=Value.ref a:=rx;refine E2 I1 ea c hm l ?_;exact W.callWith_K0 (first:=[.ref a]) I1.kIn hm.kp (IF (us:=[.ref a]) (vs:=[.ref a]) F hr hb hd hx I1 (.cons rfl .nil) q)
structure Mk (K:FG) (C f:Addr):Prop where
 makes:W.makesIn K C=true
 init:W.findIn K (.ref C) "__init__" = some (some (.ref f))
 fn:W.isFn K (.ref f)=true
 kp:W.keepIn K (.ref C)=true
theorem G2 {Q:VK} {vs:List V} (M:Mk X.K C f) (F:AX X.prog X.w X.K X.mg X.base CX k f fd ps sp) (hr:Room (k + 1) X.A) (hb:Binds X.K fd ps ds) (hd:Vals dvs ds)
  (hx:CD CX X E) (I:Inv X aa σ H s) (r:Vals vs us)
  (h:∀ x dx,H x=none->H dx=none->dx ≠ x->sp (.ref x :: (vs++dvs)) (upd (upd H dx (.own x)) x (.ins C dx [])) (fun v H2=>v=.non/\Q (.ref x) H2) E) :
  wpAny (model X.prog X.w) X.A (call (.ref C) us) (EP X aa σ Q) X.xe s:=by
 have hq:=h (s.heap.objs.size + 1) s.heap.objs.size (I.hok.fresh (Nat.le_succ _)) (I.hok.fresh (Nat.le_refl _)) (Nat.ne_of_lt (Nat.lt_succ_self _));have I2:=Inv.made (C:=C) I;have r2:Vals (V.ref (s.heap.objs.size + 1) :: (vs++dvs)) (Value.ref (s.heap.objs.size + 1) :: (us++ds)):=.cons rfl (r.append hd)
 have hl:(Value.ref (s.heap.objs.size + 1) :: us++ds).length=ps.length:=by
  have e:=r2.length;rw [F.len _ _ _ _ hq] at e;exact e.symm
 refine wpAny_call (G1 (f:=f) I.kIn M.makes M.init (beq_iff_eq.mp M.fn) (codeAny_mono (F.run _ X.stack _ _ ⟨Value.ref (s.heap.objs.size + 1) :: us,[]⟩ (Value.ref (s.heap.objs.size + 1) :: (us++ds)) _ _ E (hr.make C us [])
  (I2.env0.make C us []) (hb _ (Value.ref (s.heap.objs.size + 1) :: us) I2.kIn hl) r2 hq) fun r s' hq'=>?_))
 cases r with
 | error e=>exact hx aa σ _ _ e s' I2 hq'
 | ok fl =>
  cases fl with
  | ret u =>
   obtain ⟨v,H',I3,rv,ev,q3⟩:=I2.after hq';subst ev;exact ⟨rv,⟨V.ref (s.heap.objs.size + 1),H',I3,rfl,q3⟩⟩
  | next=>exact False.elim hq'
  | brk=>exact False.elim hq'
  | cont=>exact False.elim hq'
theorem GA (M:Mk X.K C f) (F:AX X.prog X.w X.K X.mg X.base CX k f fd ps sp) (hr:Room (k + 1) X.A) (hg:Gl X x) (hm:X.mg x=some (.ref C)) (hb:Binds X.K fd ps ds) (hd:Vals dvs ds) (hx:CD CX X E)
  (ha:PA X (e :: es) t) (hdb:(x == ("__debug__" : Str))=false:=by decide) (he:starEach (e :: es) X.env=(false,eval e X.env) :: starEach es X.env:=by rfl) (hpl:(backTo pos (starEach es X.env)).any (·.1)=false:=by rfl) :
  PE X (.Call (.Name x p) (e :: es) [] pos) (Ng C sp dvs E t):=by
 intro aa s σ H Q I h;refine wpAny_Call_Name_kw (DE I hg hm ?_ hdb);refine W.callWith_K (h₀:=X.base) I.ok.mod.kin M.kp (thn (ha pos aa s σ H _ I h) fun us s1 ⟨vs,H1,I1,r,q⟩=>⟨I1.kIn,?_⟩) he hpl;exact G2 M F hr hb hd hx I1 r q
theorem Ko (M:Mk X.K C f) (F:AX X.prog X.w X.K X.mg X.base CX k f fd ps sp) (hr:Room (k + 1) X.A) (hg:Gl X x) (hm:X.mg x=some (.ref C)) (hb:Binds X.K fd ps ds) (hd:Vals dvs ds) (hx:CD CX X E)
  (hdb:(x == ("__debug__" : Str))=false:=by decide):PE X (.Call (.Name x p) [] [] pos) (Ng C sp dvs E F9):=by
 intro aa s σ H Q I h;refine wpAny_Call_Name_kw (DE I hg hm ?_ hdb);exact W.callWith_K0 I.kIn M.kp (G2 (us:=[]) M F hr hb hd hx I .nil h)
end
def PK (X:Cx) (kws:List Keyword) (t:TA):Prop :=
 ∀ (pos:Pos) (aa:LO) (s:Shared) (σ:St) (H:Hp) (Q:List V->Hp->Prop),Inv X aa σ H s->t σ H Q->wpAny (model X.prog X.w) X.A (evalAll ((backToKw pos (keywordEach kws X.env)).map (·.2))) (AP X aa σ Q) X.xe s
section
variable {CX:CXT} {k:Nat} {fd:FuncData} {ps ks:List Str} {sp:Sp} {E:XK} {m:Str} {p apos kpos:Pos} {o:Expr} {es:List Expr} {kws:List Keyword} {ta:TE} {t tk:TA} {nm:Option Str}
theorem IG:PK X [] F9:=fun _ _ _ _ H Q I h=>wpAny_evalAll_nil ⟨[],H,I,.nil,h⟩
theorem GG (ha:PE X e te) (hr:PK X kws t):PK X (⟨nm,e,kpos⟩ :: kws) (Ay te t):=by
 intro pos aa s σ H Q I h;show wpAny _ _ (evalAll ((do let v ← eval e X.env; standAt pos; pure v) :: (backToKw pos (keywordEach kws X.env)).map (·.2))) _ _ s;refine wpAny_evalAll_cons (wpAny_bind (thn (ha aa s σ H _ I h) fun u s1 ⟨x,H1,I1,r1,q1⟩=>wpAny_bind (wpAny_standAt (wpAny_pure ?_))));exact thn (hr pos aa s1 σ H1 _ I1 q1) fun us s2 ⟨xs,H2,I2,r2,q2⟩=>⟨x :: xs,H2,I2,.cons r1 r2,q2⟩
structure DV (K:FG) (fd:FuncData) (ps ks:List Str) (g:List Value->List Value->List Value) (gV:List V->List V->List V):Prop where
 to:∀ (s:Shared) (us ws:List Value),K.In s.heap->(g us ws).length=ps.length->BindsTo s fd ⟨us,ks.zip ws⟩ (ps.zip (g us ws))
 rel:∀ {vs:List V} {us:List Value} {zs:List V} {ws:List Value},Vals vs us->Vals zs ws->Vals (gV vs zs) (g us ws)
def N5 (sp:Sp) (gV:List V->List V->List V) (E:XK) (t tk:TA):TE:=fun σ H Q=>t σ H fun vs H1=>tk σ H1 fun zs H2=>sp (gV vs zs) H2 Q E
variable {g:List Value->List Value->List Value} {gV:List V->List V->List V}
theorem Mb {Q:VK} {ws:List Value} {vs zs:List V} (F:AX X.prog X.w X.K X.mg X.base CX k f fd ps sp) (hr:Room k X.A) (hb:DV X.K fd ps ks g gV) (hx:CD CX X E)
  (I:Inv X aa σ H s) (r:Vals vs us) (rz:Vals zs ws) (h:sp (gV vs zs) H Q E):wpAny (model X.prog X.w) X.A (call (.ref f) us (ks.zip ws)) (EP X aa σ Q) X.xe s:=by
 have r2:=hb.rel r rz;have hl:(g us ws).length=ps.length:=by rw [← r2.length]; exact F.len _ _ _ _ h
 refine wpAny_call (codeAny_mono (F.run X.A X.stack s H ⟨us,ks.zip ws⟩ (g us ws) (gV vs zs) Q E hr I.env0 (hb.to s us ws I.kIn hl) r2 h) fun r s' hq=>?_);cases r with
 | error e=>exact hx aa σ H s e s' I hq
 | ok fl =>
  cases fl with
  | ret u=>exact I.after hq
  | next=>exact False.elim hq
  | brk=>exact False.elim hq
  | cont=>exact False.elim hq
theorem Kp (F:AX X.prog X.w X.K X.mg X.base CX k f fd ps sp) (hr:Room k X.A) (hg:Gl X x) (hm:X.mg x=some (.ref f)) (hk:W.keepIn X.K (.ref f)=true) (hb:DV X.K fd ps ks g gV) (hx:CD CX X E)
  (ha:PA X (e :: es) t) (hkw:PK X kws tk) (az:(backToKw pos (keywordEach kws X.env)).all (·.1.isSome)=true:=by rfl) (hks:(backToKw pos (keywordEach kws X.env)).filterMap (·.1)=ks:=by rfl)
  (hdb:(x == ("__debug__" : Str))=false:=by decide) (he:starEach (e :: es) X.env=(false,eval e X.env) :: starEach es X.env:=by rfl)
  (hpl:((backTo pos (starEach (e :: es) X.env)).any (·.1) || (backToKw pos (keywordEach kws X.env)).any (·.1.isNone))=false:=by rfl) :
  PE X (.Call (.Name x p) (e :: es) kws pos) (N5 sp gV E t tk):=by
 intro aa s σ H Q I h;refine wpAny_Call_Name_kw (DE I hg hm ?_ hdb);refine W.callWith_KW (h₀:=X.base) I.ok.mod.kin hk az (thn (ha pos aa s σ H _ I h) fun us s1 ⟨vs,H1,I1,r,q⟩=>?_) hpl he;refine thn (hkw pos aa s1 σ H1 _ I1 q) fun ws s2 ⟨zs,H2,I2,rz,q2⟩=>⟨I2.kIn,?_⟩;rw [hks];exact Mb F hr hb hx I2 r rz q2
end
structure AK (N P:List Str) (sc:Scope):Prop where
 kind:sc.kind=.function
 co:sc.isCoroutine=false
 gen:sc.isGenerator=false
 nd:N.Nodup
 pre:N.take P.length=P
 par:∀ x ∈ P,sc.names.lookup x=some .local\/sc.names.lookup x=some .cell
 nofree:∀ y ∈ sc.names,y.2 ≠ .free
theorem fsc {N P:List Str} {sc:Scope} (a:sc.kind=.function:=by exact rfl) (b:sc.isCoroutine=false:=by exact rfl) (c:sc.isGenerator=false:=by exact rfl) (d:N.Nodup:=by decide +kernel) (e:N.take P.length=P:=by exact rfl) (f:∀ x ∈ P,sc.names.lookup x=some .local\/sc.names.lookup x=some .cell:=by decide +kernel) (g:∀ y ∈ sc.names,y.2 ≠ .free:=by decide +kernel):AK N P sc:=⟨a,b,c,d,e,f,g⟩
theorem Fh {kindOf:Str->Option NameKind} {x:Str}:∀ {binds:List (Str × Value)} {m:SV},(∀ v,(x,v) ∉ binds)->bindL kindOf binds m x=m x
  | [],_,_=>rfl
  | (n,v) :: r,m,h=>by
    unfold bindL;rw [Fh fun w hw=>h w (mem_cons_of_mem _ hw)];split
    · have:x ≠ n:=by rintro rfl; exact h v mem_cons_self
      simp [this]
    · rfl
theorem Fi {kindOf:Str->Option NameKind} {x:Str}:∀ {binds:List (Str × Value)} {m:SV},(∀ v,(x,v) ∉ binds)->bindC kindOf binds m x=m x
  | [],_,_=>rfl
  | (n,v) :: r,m,h=>by
    unfold bindC;rw [Fi fun w hw=>h w (mem_cons_of_mem _ hw)];split
    · rfl
    · have:x ≠ n:=by rintro rfl; exact h v mem_cons_self
      simp [this]
theorem Fj {kindOf:Str->Option NameKind} {x:Str} {v:Value}:∀ {P:List Str} {vs:List Value} {i:Nat} {m:SV},P.Nodup->P[i]?=some x->vs[i]?=some v->kindOf x=some .local ->
  bindL kindOf (P.zip vs) m x=some v
 | [],_,_,_,_,h,_,_=>by simp at h
 | _ :: _,[],_,_,_,_,h,_=>by simp at h
 | p :: P,w :: vs,0,m,nd,h1,h2,hk=>by
  simp at h1 h2; subst h1; subst h2;show bindL kindOf ((p,w) :: P.zip vs) m p=_;unfold bindL;rw [Fh fun v hv=>(nodup_cons.mp nd).1 (of_mem_zip hv).1,if_pos hk];simp
 | p :: P,w :: vs,i + 1,m,nd,h1,h2,hk=>by
  show bindL kindOf ((p,w) :: P.zip vs) m x=_;unfold bindL;exact Fj (i:=i) (nodup_cons.mp nd).2 (by simpa using h1) (by simpa using h2) hk
theorem Fk {kindOf:Str->Option NameKind} {x:Str} {v:Value}:∀ {P:List Str} {vs:List Value} {i:Nat} {m:SV},P.Nodup->P[i]?=some x->vs[i]?=some v->kindOf x ≠ some .local ->
  bindC kindOf (P.zip vs) m x=some v
 | [],_,_,_,_,h,_,_=>by simp at h
 | _ :: _,[],_,_,_,_,h,_=>by simp at h
 | p :: P,w :: vs,0,m,nd,h1,h2,hk=>by
  simp at h1 h2; subst h1; subst h2;show bindC kindOf ((p,w) :: P.zip vs) m p=_;unfold bindC;rw [Fi fun v hv=>(nodup_cons.mp nd).1 (of_mem_zip hv).1,if_neg hk];simp
 | p :: P,w :: vs,i + 1,m,nd,h1,h2,hk=>by
  show bindC kindOf ((p,w) :: P.zip vs) m x=_;unfold bindC;exact Fk (i:=i) (nodup_cons.mp nd).2 (by simpa using h1) (by simpa using h2) hk
def Ej (N:List Str) (vs:List V):St:=vs.map some++replicate (N.length - vs.length) none
def Jk (CX:CXT) (P:Program) (w:World) (K:FG) (mg:SV) (base:Heap) (N:List Str) (qual:Str) (scope:Scope) (f:Addr) (cd:Value) (A:Around) (outer:List Env) (s:Shared) (H:Hp) (E:XK):Cx where
 prog:=P
 w:=w
 K:=K
 mg:=mg
 base:=base
 A:=A.deeper (envOfC qual scope s.heap.objs.size f cd)
 N:=N
 s₀:=s
 H₀:=H
 env:=envOfC qual scope s.heap.objs.size f cd
 outer:=outer
 stack:=envOfC qual scope s.heap.objs.size f cd :: outer
 ex:=[]
 calm:=true
 fn:=fun _=>true
 pn:=[]
 xe:=fun e s'=>wpAny (model P w) (A.deeper (envOfC qual scope s.heap.objs.size f cd)) (leaving (envOfC qual scope s.heap.objs.size f cd) e) (fun _ s''=>CX outer H s E e s'') (fun e' s''=>CX outer H s E e' s'') s'
theorem G3 {sc:Scope} {n:Nat} (h:sc.names.lookup x=some .cell):∃ c,(cellsFrom n sc.names []).lookup x=some c:=by
 have q:=W.cellsFrom_some sc.names n [] (.inl h);exact Option.isSome_iff_exists.mp q
theorem Jl {CX:CXT} {ps:List Str} {qual:Str} {scope:Scope} {cd:Value} {outer:List Env} {s1:Shared} {E:XK} {vs:List V}
  (S:AK N ps scope) (hd:A.handled=none) (e0:Env0 P w K mg base A outer s H) (hl:vs.length=ps.length) (r:Vals vs us)
  (x:InCallC s s.heap.objs.size (bindL (envOfC qual scope s.heap.objs.size f cd).kindOf (ps.zip us) fun _=>none) (cellsFrom (s.heap.objs.size + 1) scope.names []) (bindC (envOfC qual scope s.heap.objs.size f cd).kindOf (ps.zip us) fun _=>none) s1) :
  Inv (Jk CX P w K mg base N qual scope f cd A outer s H E) [] (Ej N vs) H s1:=by
 have hpl:ps.length <= N.length:=by have:=congrArg List.length S.pre; rw [length_take] at this; omega
 obtain ⟨h1,tk,rfl,hk⟩:=x.done;have noA:∀ b:Addr,b ∉ (Jk CX P w K mg base N qual scope f cd A outer s H E).ex:=fun b z=>absurd (show b ∈ ([]:List Addr) from z) (by simp)
 refine ⟨⟨e0.mod,S.kind,rfl,rfl,Nat.le_refl _,fun y z c h1 h2=>?_,fun y hy=>?_,fun y c _ h=>?_,fun _=>hd,Around.frames_deeper e0.frames,.inr ⟨rfl,rfl⟩,fun b z=>absurd z (noA b),e0.bs,e0.bsz,fun b _ _=>noA b,fun b z=>absurd z (noA b),e0.funs,e0.frf⟩,
  rfl,e0.bare,Un.kept hk,⟨_,x.toInCall.ns,fun i y v h1 h2 h3=>?_⟩,fun y c h=>⟨_,x.cell y c h⟩,e0.hok.fresh (Nat.le_refl _),fun y c h=>?_,fun p hp=>absurd (show p ∈ ([]:LO) from hp) (by simp),e0.hok.kept hk,?_⟩
 ·exact name_of_addr x.apart (PySem.mem_of_lookup h1) (PySem.mem_of_lookup h2)
 ·have hy:scope.names.lookup y=some .cell\/scope.names.lookup y=some .free:=hy;rcases hy with hy | hy
  ·exact G3 hy
  ·exact absurd rfl (S.nofree _ (PySem.mem_of_lookup hy))
 ·exact Nat.le_of_lt (x.above y c (PySem.mem_of_lookup h))
 ·have hi:i < vs.length:=by
   unfold Ej at h2;by_cases hi:i < vs.length
   ·exact hi
   ·rw [List.getElem?_append_right (by simpa using hi)] at h2;rw [List.getElem?_replicate] at h2;split at h2 <;> cases h2
  have ha:vs[i]?=some v:=by
   unfold Ej at h2;rw [List.getElem?_append_left (by simpa using hi),getElem?_map] at h2;cases e:vs[i]? with
   | none=>rw [e] at h2; cases h2
   | some a=>rw [e] at h2; cases h2; rfl
  obtain ⟨u,hu,rv⟩:=r.get ha
  have hp:ps[i]?=some y:=by
   rw [← S.pre,List.getElem?_take_of_lt (by omega)]; exact h1
  have ndP:ps.Nodup:=by rw [← S.pre]; exact S.nd.sublist (List.take_sublist _ _)
  refine ⟨u,rv,?_⟩;rcases S.par y (mem_of_getElem? hp) with k | k
  ·exact .inl ⟨k,Fj ndP hp hu k⟩
  ·obtain ⟨c,e⟩:=G3 (n:=s.heap.objs.size + 1) k;refine .inr ⟨.inl k,c,e,?_⟩;have q:=x.cell y c e;rw [Fk ndP hp hu (by show scope.names.lookup y ≠ _; rw [k]; decide)] at q;exact q
 ·exact e0.hok.fresh (Nat.le_of_lt (x.above y c (PySem.mem_of_lookup h)))
 ·unfold Ej;show _=N.length;rw [length_append,length_map,length_replicate];omega
theorem O6 {CX:CXT} {k:Nat} {name qual:Str} {params:Arguments} {body:List Stmt} {scope:Scope} {dV kV doc pm ac ct oc:Value} {an od:Option Addr}
  {osl:Array (Option Value)} {N ps:List Str} {sp:Sp} (lk:K.lookup f=some ⟨oc,od,.func (W.fnOf name qual params body scope dV kV doc pm an ac ct),osl⟩) (hcd:W.codeIn K ac qual=true) (S:AK N ps scope)
  (len:∀ vs H Q E,sp vs H Q E->vs.length=ps.length)
  (bo:∀ (A:Around) (outer:List Env) (s:Shared) (H:Hp) (vs:List V) (Q:VK) (E:XK),Room k (A.deeper (envOfC qual scope s.heap.objs.size f ac))->sp vs H Q E ->
   ∃ t,PSs (Jk CX P w K mg base N qual scope f ac A outer s H E) body t/\t { nx:=fun _ H'=>Q .non H',rt:=Q } (Ej N vs) H) :
  AX P w K mg base CX (k + 1) f (W.fnOf name qual params body scope dV kV doc pm an ac ct) ps sp:=by
 refine ⟨len,fun A outer s H args us vs Q E hr e0 hb r hsp=>?_⟩;have hl:=len _ _ _ _ hsp;have KX:K.In s.heap:=e0.mod.kin.keeps fun b o e=>(e0.bs b o e).1;have lim:s.heap.NoLimit:=e0.mod.nolimit.keeps fun b o e=>(e0.bs b o e).1
 have hkind:∀ y ∈ ps.zip us,scope.names.lookup y.1=some .local\/(scope.names.lookup y.1=some .cell/\((cellsFrom (s.heap.objs.size + 1) scope.names []).lookup y.1).isSome=true):=fun ⟨n,v⟩ hy=>by
  rcases S.par n (of_mem_zip hy).1 with q | q
  ·exact .inl q
  ·exact .inr ⟨q,W.cellsFrom_some _ _ _ (.inl q)⟩
 refine codeAny_call_function hr.depth (KX _ _ lk) rfl S.co S.gen rfl (W.codeRec_of KX hcd) (hb _ _ _ _ ?_);refine wpAny_newFunctionEnv_cells S.kind hkind fun env he s1 x=>?_;subst he;refine ⟨lim.keeps x.toInCall.keep,codeAny_func ?_⟩;obtain ⟨t,ht,hq⟩:=bo A outer s H vs Q E (hr.deeper _) hsp;have I:Inv (Jk CX P w K mg base N qual scope f ac A outer s H E) [] (Ej N vs) H s1:=Jl S hr.hd e0 hl r x;refine wpAny_mono (ht [] s1 (Ej N vs) H _ I hq) (fun fl s' hs=>?_) fun e s' hs=>hs
 have fin:∀ {σ':St} {H':Hp} {v:V} {u:Value},Inv (Jk CX P w K mg base N qual scope f ac A outer s H E) [] σ' H' s'->RelV v u->Q v H'->CE outer P w H s Q u s' :=
  fun {σ' H' v u} J rv q=>⟨v,H',J.os,J.bare,J.base,J.hok,rv,q⟩
 cases fl with
 | ret u =>
  obtain ⟨v,σ',H',J,rv,q⟩:=hs;exact fin J rv q
 | next =>
  obtain ⟨σ',H',J,q⟩:=hs;exact fin (v:=V.non) (u:=Value.none) J rfl q
 | brk =>
  obtain ⟨_,_,_,q⟩:=hs;exact False.elim q
 | cont =>
  obtain ⟨_,_,_,q⟩:=hs;exact False.elim q
end L2
namespace L2
open PySem PySem.Spec PyProof.Rows
section
variable {p:Pos} {es:List Expr} {t:TA} {id T:String} {r:List V->Hp->VK->Prop}
def tCB (r:List V->Hp->VK->Prop) (t:TA):TE:=fun σ H Q=>t σ H fun vs H1=>r vs H1 Q
theorem AV (hc:BQ X (.builtin id) r) (hg:Gl X x) (hm:X.mg x=none) (hv:bootBuiltins x=some (.builtin id)) (ha:PA X (e :: es) t) (hn:x ≠ "__name__" := by decide) (hdb:(x == ("__debug__" : Str))=false:=by decide)
  (he:starEach (e :: es) X.env=(false,eval e X.env) :: starEach es X.env:=by rfl) (hpl:(backTo pos (starEach es X.env)).any (·.1)=false:=by rfl):PE X (.Call (.Name x p) (e :: es) [] pos) (tCB r t):=by
 intro aa s σ H Q I h;refine wpAny_Call_Name_kw (DR I hg hm hv ?_ hn hdb);exact PyProof.Rows.callWith_builtin1 (thn (ha pos aa s σ H _ I h) fun us s1 ⟨vs,H1,I1,r1,q1⟩=>hc aa s1 σ H1 vs us Q I1 r1 q1) he hpl
theorem BB (hc:BQ X (.type T) r) (hg:Gl X x) (hm:X.mg x=none) (hv:bootBuiltins x=some (.type T)) (ha:PA X (e :: es) t) (hn:x ≠ "__name__" := by decide) (hdb:(x == ("__debug__" : Str))=false:=by decide)
  (he:starEach (e :: es) X.env=(false,eval e X.env) :: starEach es X.env:=by rfl) (hpl:(backTo pos (starEach es X.env)).any (·.1)=false:=by rfl):PE X (.Call (.Name x p) (e :: es) [] pos) (tCB r t):=by
 intro aa s σ H Q I h;refine wpAny_Call_Name_kw (DR I hg hm hv ?_ hn hdb);exact PyProof.Rows.callWith_type1 (thn (ha pos aa s σ H _ I h) fun us s1 ⟨vs,H1,I1,r1,q1⟩=>hc aa s1 σ H1 vs us Q I1 r1 q1) he hpl
end
end L2
namespace L2
open PySem PySem.Spec PyProof.Rows
abbrev TO:=St->Hp->(Option Int->Hp->Prop)->Prop
def PO (X:Cx) (e:Option Expr) (t:TO):Prop :=
 ∀ (aa:LO) (s:Shared) (σ:St) (H:Hp) (Q:Option Int->Hp->Prop),Inv X aa σ H s->t σ H Q ->
  wpAny (model X.prog X.w) X.A (evalPart e X.env) (fun u s'=>∃ o H',Inv X aa σ H' s'/\IsPart u o/\Q o H') X.xe s
def O7 (t:TE):TO:=fun σ H Q=>t σ H fun x H1=>∃ i,x=.int i/\Q (some i) H1
theorem CU {ns:List Int}:∀ {us:List Value},Vals (ns.map V.int) us->IntsAre us ns:=by
 induction ns with
 | nil=>intro us r; rw [map_nil] at r; cases r; exact .nil
 | cons n ns ih =>
  intro us r;rw [map_cons] at r;cases r with
  | cons r1 r2 =>
   obtain ⟨t,e⟩:=r1;subst e;exact .cons n t (ih r2)
section
variable {lo hi:Option Expr} {tl th:TO} {p2:Pos}
theorem Eo (h:PE X e te):PO X (some e) (O7 te):=by
 intro aa s σ H Q I hw;rw [evalPart_some];refine thn (h aa s σ H _ I hw) fun u s1 ⟨x,H1,I1,r1,q1⟩=>?_;obtain ⟨i,rfl,q⟩:=q1;obtain ⟨t,rfl⟩:=r1;exact ⟨some i,H1,I1,.int i t,q⟩
def SlR (X:Cx) (r:V->Option Int->Option Int->Hp->VK->Prop):Prop :=
 ∀ (aa:LO) (s:Shared) (σ:St) (H:Hp) (x:V) (v vl vu:Value) (lo hi:Option Int) (sl:Addr) (Q:VK),Inv X aa σ H s->RelV x v->s.heap.IsSliceOf sl vl vu .none->IsPart vl lo->IsPart vu hi->r x lo hi H Q ->
  ∃ T id,typeLookup (.type T) "__getitem__" = pure (some (.builtin id))/\s.TypeIs v T/\wpAny (model X.prog X.w) X.A (getItem v (.ref sl)) (EP X aa σ Q) X.xe s
def tSl (r:V->Option Int->Option Int->Hp->VK->Prop) (te:TE) (tl th:TO):TE:=fun σ H Q=>te σ H fun x H1=>tl σ H1 fun l H2=>th σ H2 fun u H3=>r x l u H3 Q
theorem G4 {r:V->Option Int->Option Int->Hp->VK->Prop} (hr:SlR X r) (he:PE X e te) (hl:PO X lo tl) (hu:PO X hi th):PE X (.Subscript e (.Slice lo hi none p2) pos) (tSl r te tl th):=by
 intro aa s σ H Q I h;refine Subscript_ (thn (he aa s σ H _ I h) fun v s1 ⟨x,H1,I1,r1,q1⟩=>?_);refine wpAny_Slice (thn (hl aa s1 σ H1 _ I1 q1) fun vl s2 ⟨l,H2,I2,pl,q2⟩=>thn (hu aa s2 σ H2 _ I2 q2) fun vu s3 ⟨u,H3,I3,pu,q3⟩=>?_);rw [evalPart_none];refine wpAny_pure ?_;have I4:Inv X aa σ H3 { s3 with heap:=s3.heap.push { cls:=.type "slice", data:=.fields #[vl,vu,.none] } }:=I3.kept (t':=s3.toks) fun b ob q=>get?_push_of_some _ q;obtain ⟨T,id,hT,ht,hg⟩:=hr aa { s3 with heap:=s3.heap.push { cls:=.type "slice", data:=.fields #[vl,vu,.none] } } σ H3 x v vl vu l u s3.heap.objs.size Q I4 r1 (Heap.IsSliceOf.new ..) pl pu q3;show wpAny (model X.prog X.w) X.A (subscriptTail e (.Slice lo hi none p2) v (.ref s3.heap.objs.size)) (EP X aa σ Q) X.xe { s3 with heap:=s3.heap.push { cls:=.type "slice", data:=.fields #[vl,vu,.none] } };exact tail_any (ops:=[.ref s3.heap.objs.size,v]) ht hT hg (by with_unfolding_all rfl)
end
end L2
namespace L2
open PySem PySem.Spec PyProof.Rows
def ixN (n:Nat) (i:Int):Option Nat:=if 0 <= i then (if i < n then some i.toNat else none) else if -(n:Int) <= i then some (i + n).toNat else none
def atI {α:Type} (xs:List α) (i:Int):Option α:=(ixN xs.length i).bind fun j=>xs[j]?
theorem JF {n:Nat} {i:Int} {j:Nat} (h:ixN n i=some j):seqIndex? i n=some j/\j < n/\-(n:Int) <= i/\i < n:=by
 unfold ixN at h;by_cases h0:0 <= i
 ·rw [if_pos h0] at h;by_cases h1:i < n
  ·rw [if_pos h1] at h;have e:i.toNat=j:=Option.some.inj h;exact ⟨by rw [seqIndex_of h0 h1,e],by omega,by omega,h1⟩
  ·rw [if_neg h1] at h; cases h
 ·rw [if_neg h0] at h;by_cases h1:-(n:Int) <= i
  ·rw [if_pos h1] at h;have e:(i + n).toNat=j:=Option.some.inj h;exact ⟨by rw [seqIndex_neg (by omega) h1,e],by omega,h1,by omega⟩
  ·rw [if_neg h1] at h; cases h
theorem GH {α:Type} {xs:List α} {i:Int} {v:α} (h:atI xs i=some v):∃ j,seqIndex? i xs.length=some j/\xs[j]?=some v/\j < xs.length/\-(xs.length:Int) <= i/\i < xs.length:=by
 unfold atI at h;cases e:ixN xs.length i with
 | none=>rw [e] at h; cases h
 | some j =>
  rw [e] at h;obtain ⟨h1,h2,h3,h4⟩:=JF e;exact ⟨j,h1,h,h2,h3,h4⟩
theorem Bo {α:Type} {xs:List α} {j:Nat} {v:α} (h:xs[j]?=some v):atI xs (j:Int)=some v:=by
 have hj:j < xs.length:=(List.getElem?_eq_some_iff.mp h).1
 have e:ixN xs.length (j:Int)=some j:=by
  unfold ixN;rw [if_pos (by omega),if_pos (by omega)]; simp
 unfold atI; rw [e]; exact h
def Mc (b:Expr):Prop:=∀ o i,subscripted b false o i=operate [o,i] (getItem o i)
def IxR (X:Cx) (r:R2):Prop :=
 ∀ (value slice:Expr) (aa:LO) (s:Shared) (σ:St) (H:Hp) (x y:V) (v u:Value) (Q:VK),Inv X aa σ H s->RelV x v->RelV y u->r x y H Q ->
  subscripted slice false v u=operate [v,u] (getItem v u)->wpAny (model X.prog X.w) X.A (subscriptTail value slice v u) (EP X aa σ Q) X.xe s
def MtR (X:Cx) (id:String) (r:V->List V->Hp->VK->Prop):Prop :=
 ∀ (aa:LO) (s:Shared) (σ:St) (H:Hp) (x:V) (xs:List V) (v:Value) (us:List Value) (Q:VK),Inv X aa σ H s->RelV x v->Vals xs us->r x xs H Q ->
  wpAny (model X.prog X.w) X.A (call (.builtin id) (v :: us)) (EP X aa σ Q) X.xe s
section
variable {a b:Expr} {ta tb:TE}
theorem BF {r:R2} (hr:IxR X r) (ha:PE X a ta) (hb:PE X b tb) (hs:Mc b):PE X (.Subscript a b pos) (tOp r ta tb):=by
 intro aa s σ H Q I h;exact Subscript_ (N1 ha hb I h fun v u s2 x y H2 I2 rx ry q=>hr a b aa s2 σ H2 x y v u Q I2 rx ry q (hs _ _))
inductive ExrIxL (K:FG) (x y:V) (H:Hp) (k:V->Prop):Prop where
 | mk (p:Addr) (xs:List V) (i:Int) (v:V) (h1:x=.ref p) (h2:y=.int i) (h3:SqL K H p xs) (h4:atI xs i=some v) (q:k v):ExrIxL K x y H k
def O8 (K:FG):R2:=fun x y H Q=>ExrIxL K x y H fun v=>Q v H
inductive ExrIxT (K:FG) (x y:V) (H:Hp) (k:V->Prop):Prop where
 | mk (p:Addr) (xs:List V) (i:Int) (v:V) (h1:x=.ref p) (h2:y=.int i) (h3:SqT K H p xs) (h4:atI xs i=some v) (q:k v):ExrIxT K x y H k
def O9 (K:FG):R2:=fun x y H Q=>ExrIxT K x y H fun v=>Q v H
def P7:R2:=fun x y H Q=>∃ z i c,x=.str z/\y=.int i/\z.length <= sizeLine/\atI z.cps.toList i=some c/\Q (.str ⟨#[c]⟩) H
theorem Md:IxR X (O8 X.K):=by
 intro value slice aa s σ H x y v u Q I rx ry h hs;obtain ⟨p,xs,i,z,rfl,rfl,hq,he,q⟩:=h;cases rx;obtain ⟨t,rfl⟩:=ry;obtain ⟨its,r,pl,hz⟩:=I.list hq;obtain ⟨j,h1,h2,h3,h4,h5⟩:=GH he;obtain ⟨w,ew,rw'⟩:=r.get h2;have hl:=r.length;have hn:=EM;have fin:EP X aa σ Q w s:=⟨z,H,I,rw',q⟩;by_cases h0:0 <= i
 ·have hj:i.toNat=j:=by
   rw [seqIndex_of h0 h5] at h1;exact Option.some.inj h1
  exact item_listR pl.isList h0 (by omega) (by rw [hj]; simpa using ew) fin hs
 ·have hj:(i + (its.toArray.size:Int)).toNat=j:=by
   rw [seqIndex_neg (by omega) h4] at h1;rw [size_toArray,← hl];exact Option.some.inj h1
  exact subscriptTail_builtinR (x:=w) pl.isList.typeIs slot_list_getitem.lookup
   (wpAny_getItem_list_neg (Q:=fun r s'=>r=w/\EP X aa σ Q r s') pl.isList (by omega) (by rw [size_toArray] <;> omega) (by omega) (by rw [hj]; simpa using ew) ⟨rfl,fin⟩) hs
theorem N6:IxR X (O9 X.K):=by
 intro value slice aa s σ H x y v u Q I rx ry h hs;obtain ⟨p,xs,i,z,rfl,rfl,hq,he,q⟩:=h;cases rx;obtain ⟨t,rfl⟩:=ry;obtain ⟨its,r,pl,hz⟩:=I.tuple hq;obtain ⟨j,h1,h2,h3,h4,h5⟩:=GH he;obtain ⟨w,ew,rw'⟩:=r.get h2;have hl:=r.length;have hn:=EM;have fin:EP X aa σ Q w s:=⟨z,H,I,rw',q⟩
 exact subscriptTail_builtinR (x:=w) pl.typeIs slot_tuple_getitem.lookup
  (getItem_tuple (j:=j) (Q:=fun r s'=>r=w/\EP X aa σ Q r s') pl (by omega) (by omega) (by rw [size_toArray,← hl]; exact h1) (by simpa using ew) ⟨rfl,fin⟩) hs
theorem Kq:IxR X P7:=by
 intro value slice aa s σ H x y v u Q I rx ry h hs;obtain ⟨z,i,c,rfl,rfl,hz,he,q⟩:=h;obtain ⟨t,rfl⟩:=rx;obtain ⟨t',rfl⟩:=ry;obtain ⟨j,h1,h2,h3,h4,h5⟩:=GH he;have hl:z.cps.toList.length=z.length:=by simp [Str.length]
 rw [hl] at h1 h4 h5;have hn:=EM
 exact tail_any (typeIs_str s z t) slot_str_getitem.lookup (getItem_str (c:=c) (by
  have e1:decide (i < -(2 ^ 63:Int))=false:=decide_eq_false (by omega);have e2:decide (i ≥ 2 ^ 63)=false:=decide_eq_false (by omega)
  rw [e1,e2,Bool.or_false]) (by rw [h1]; simpa using h2) ⟨.str ⟨#[c]⟩,H,I.tok _,⟨_,rfl⟩,q⟩) hs
theorem IH (its:List Value) (n j:Nat) (u:Value):Obj.mapSeq (·.setIfInBounds j u) { cls:=.type "list", data:=.seq its.toArray n }={ cls:=.type "list", data:=.seq (its.set j u).toArray n }:=by
 simp [Obj.mapSeq]
theorem Inv.lst {aa:LO} {σ:St} {H:Hp} {s:Shared} {p:Addr} {xs:List V} (I:Inv X aa σ H s) (h:H p=some (.lst xs)) :
  ∃ (its:List Value) (n:Nat),Vals xs its/\s.heap.get? p=some { cls:=.type "list", data:=.seq its.toArray n }/\xs.length <= sizeLine:=by
 obtain ⟨z,its,n,r,e⟩:=I.hok p _ h;exact ⟨its,n,r,e,z⟩
theorem Inv.lstUpd {p:Addr} {ys:List V} {its its':List Value} {n n':Nat} {f:Obj->Obj} (I:Inv X aa σ H s) (h:H p=some (.lst xs))
  (ho:s.heap.get? p=some { cls:=.type "list", data:=.seq its.toArray n }) (hf:f { cls:=.type "list", data:=.seq its.toArray n }={ cls:=.type "list", data:=.seq its'.toArray n' }) (r:Vals ys its') (hz:ys.length <= sizeLine) (t:Nat) :
  Inv X aa σ (upd H p (.lst ys)) { s with heap:=s.heap.update p f,toks:=t }:=by
 have e:(s.heap.update p f).get? p=some { cls:=.type "list", data:=.seq its'.toArray n' }:=by
  rw [Heap.get?_update_self f ho (by rw [hf] <;> rfl),hf]
 refine I.write (x:=p) (e:=p) (by rw [h]; trivial) (.inl rfl) (fun b u hb q=>(get?_update_other _ _ (Ne.symm hb)).trans q) ⟨_,e⟩ ?_;exact ⟨hz,its',n',r,e⟩
def PB:V->V->V->Hp->(Hp->Prop)->Prop:=fun o i v H Q=>∃ p xs k j,o=.ref p/\i=.int k/\H p=some (.lst xs)/\ixN xs.length k=some j/\Q (upd H p (.lst (xs.set j v)))
theorem E3:Oy X PB:=by
 intro aa s σ H o i v ov iv u Q I ro ri rv h;obtain ⟨p,xs,k,j,rfl,rfl,hp,hj,q⟩:=h;cases ro;obtain ⟨t,rfl⟩:=ri;obtain ⟨its,n,r,ho,hz⟩:=I.lst hp;obtain ⟨h1,h2,h3,h4⟩:=JF hj;have hl:=r.length;have hn:=EM
 have I':Inv X aa σ (upd H p (.lst (xs.set j v))) { s with heap:=s.heap.update p (Obj.mapSeq (·.setIfInBounds j u)) } :=
  I.lstUpd hp ho (IH its n j u) (r.set rv j) (by rw [List.length_set]; exact hz) s.toks
 by_cases h0:0 <= k
 ·have hk:k.toNat=j:=by
   rw [seqIndex_of h0 h4] at h1;exact Option.some.inj h1
  exact W.ki_setAt ho h0 (by omega) (by rw [size_toArray,← hl]; exact h4) (by rw [hk]; exact ⟨_,I',q⟩)
 ·have hk:(k + (its.toArray.size:Int)).toNat=j:=by
   rw [seqIndex_neg (by omega) h3] at h1;rw [size_toArray,← hl];exact Option.some.inj h1
  exact W.ki_setBack ho (by omega) (by rw [size_toArray,← hl]; exact h3) (by omega) (by rw [hk]; exact ⟨_,I',q⟩)
def D1:V->Bool
 | .non=>true
 | .bl _=>true
 | .int _=>true
 | .str _=>true
 | _=>false
def eqV:V->V->Bool
 | .non,.non=>true
 | .bl a,.bl b=>a == b
 | .bl a,.int b=>(if a then 1 else 0) == b
 | .int a,.bl b=>a == (if b then 1 else 0)
 | .int a,.int b=>a == b
 | .str a,.str b=>a == b
 | _,_=>false
theorem N7 {y x:V} {v:Value} (ry:RelV y u) (rx:RelV x v) (fy:D1 y=true) (fx:D1 x=true):SeqAt.EqAt A s u v (eqV y x):=by
 cases y with
 | non =>
  cases ry;cases x with
  | non=>cases rx; exact SeqAt.EqAt.same _
  | bl b=>cases rx; exact SeqAt.EqAt.none_bool b
  | int b=>obtain ⟨t,rfl⟩:=rx; exact SeqAt.EqAt.none_int b t
  | str b=>obtain ⟨t,rfl⟩:=rx; exact SeqAt.EqAt.none_str b t
  | _=>exact absurd (show false=true from fx) Bool.false_ne_true
 | bl a =>
  cases ry;cases x with
  | non=>cases rx; exact SeqAt.EqAt.bool_none a
  | bl b=>cases rx; exact SeqAt.EqAt.bool_bool a b
  | int b=>obtain ⟨t,rfl⟩:=rx; exact SeqAt.EqAt.bool_int a b t
  | str b=>obtain ⟨t,rfl⟩:=rx; exact SeqAt.EqAt.bool_str a b t
  | _=>exact absurd (show false=true from fx) Bool.false_ne_true
 | int a =>
  obtain ⟨t',rfl⟩:=ry;cases x with
  | non=>cases rx; exact SeqAt.EqAt.int_none a t'
  | bl b=>cases rx; exact SeqAt.EqAt.int_bool a t' b
  | int b=>obtain ⟨t,rfl⟩:=rx; exact SeqAt.EqAt.int_int a t' b t
  | str b=>obtain ⟨t,rfl⟩:=rx; exact SeqAt.EqAt.int_str a t' b t
  | _=>exact absurd (show false=true from fx) Bool.false_ne_true
 | str a =>
  obtain ⟨t',rfl⟩:=ry;cases x with
  | non=>cases rx; exact SeqAt.EqAt.str_none a t'
  | bl b=>cases rx; exact SeqAt.EqAt.str_bool a t' b
  | int b=>obtain ⟨t,rfl⟩:=rx; exact SeqAt.EqAt.str_int a t' b t
  | str b=>obtain ⟨t,rfl⟩:=rx; exact SeqAt.EqAt.str_str a t' b t
  | _=>exact absurd (show false=true from fx) Bool.false_ne_true
 | _=>exact absurd (show false=true from fy) Bool.false_ne_true
def eqU (x:V) (u:Value):Bool:=match u with
 | .none=>eqV .non x
 | .bool b=>eqV (.bl b) x
 | .int i _=>eqV (.int i) x
 | .str z _=>eqV (.str z) x
 | _=>false
theorem Kr {x y:V} (r:RelV y u) (f:D1 y=true):eqU x u=eqV y x:=by
 cases y with
 | non=>cases r; rfl
 | bl b=>cases r; rfl
 | int i=>obtain ⟨t,rfl⟩:=r; rfl
 | str z=>obtain ⟨t,rfl⟩:=r; rfl
 | _=>exact absurd (show false=true from f) Bool.false_ne_true
theorem D2 {x:V}:∀ {xs:List V} {us:List Value},Vals xs us->xs.all D1=true->us.any (eqU x)=xs.any fun y=>eqV y x
 | _,_,.nil,_=>rfl
 | y :: xs,u :: us,.cons r t,f=>by
  rw [all_cons,Bool.and_eq_true] at f;rw [any_cons,any_cons,Kr r f.1,D2 t f.2]
theorem Cu {A:Around} {s:Shared} {x:V} {v:Value} (rx:RelV x v) (fx:D1 x=true):∀ {xs:List V} {us:List Value},Vals xs us->xs.all D1=true->∀ u ∈ us,SeqAt.EqAt A s u v (eqU x u)
 | _,_,.nil,_=>fun u hu=>by cases hu
 | y :: xs,u :: us,.cons r t,f=>fun u' hu=>by
  rw [all_cons,Bool.and_eq_true] at f;rcases mem_cons.mp hu with rfl | hu
  ·rw [Kr r f.1]; exact N7 r rx f.1 fx
  ·exact Cu rx fx t f.2 u' hu
def inV (x:V) (xs:List V):Bool:=xs.any fun y=>eqV y x
def rIn (K:FG) (neg:Bool):R2:=fun x y H Q=>∃ p xs,y=.ref p/\(SqL K H p xs\/SqT K H p xs)/\D1 x=true/\xs.all D1=true/\Q (.bl (if neg then !inV x xs else inV x xs)) H
theorem EO:OpR X (compareOp .In) (rIn X.K false):=by
 intro aa s σ H x y v u Q I rx ry h;obtain ⟨p,xs,rfl,hq,fx,fs,q⟩:=h;cases ry;rcases hq with hq | hq
 ·obtain ⟨its,r,pl,hz⟩:=I.list hq;refine SeqAt.in_listAt (eqU x) pl.isList (fun w hw=>Cu rx fx r fs w (by simpa using hw)) ⟨.bl _,H,I,rfl,?_⟩;rw [show its.toArray.any (eqU x)=its.any (eqU x) by simp,D2 r fs];exact q
 ·obtain ⟨its,r,pl,hz⟩:=I.tuple hq;refine SeqAt.in_tupleAt (eqU x) pl (fun w hw=>Cu rx fx r fs w (by simpa using hw)) ⟨.bl _,H,I,rfl,?_⟩;rw [show its.toArray.any (eqU x)=its.any (eqU x) by simp,D2 r fs];exact q
theorem GQ:OpR X (compareOp .NotIn) (rIn X.K true):=by
 intro aa s σ H x y v u Q I rx ry h;obtain ⟨p,xs,rfl,hq,fx,fs,q⟩:=h;cases ry;rcases hq with hq | hq
 ·obtain ⟨its,r,pl,hz⟩:=I.list hq;refine SeqAt.notIn_listAt (eqU x) pl.isList (fun w hw=>Cu rx fx r fs w (by simpa using hw)) ⟨.bl _,H,I,rfl,?_⟩;rw [show its.toArray.any (eqU x)=its.any (eqU x) by simp,D2 r fs];exact q
 ·obtain ⟨its,r,pl,hz⟩:=I.tuple hq;refine SeqAt.notIn_tupleAt (eqU x) pl (fun w hw=>Cu rx fx r fs w (by simpa using hw)) ⟨.bl _,H,I,rfl,?_⟩;rw [show its.toArray.any (eqU x)=its.any (eqU x) by simp,D2 r fs];exact q
theorem D3:BQ X (.builtin "len") (fun xs H Q=>∃ p ys,xs=[.ref p]/\(SqL X.K H p ys\/SqT X.K H p ys)/\Q (.int ys.length) H):=by
 intro aa s σ H xs us Q I r h;obtain ⟨p,ys,rfl,hq,q⟩:=h;obtain ⟨u,rfl,rx⟩:=B5 r;cases rx;have hn:=EM;rcases hq with hq | hq
 ·obtain ⟨its,r',pl,hz⟩:=I.list hq;have ay:=r'.length;exact Calls.call_len_list pl.isList (by simp only [size_toArray] <;> omega) ⟨.int ys.length,H,I.tok _,⟨s.toks + 1,by rw [size_toArray,ay]⟩,q⟩
 ·obtain ⟨its,r',pl,hz⟩:=I.tuple hq;have ay:=r'.length;exact len_tuple pl (by simp only [size_toArray] <;> omega) ⟨.int ys.length,H,I.tok _,⟨s.toks + 1,by rw [size_toArray,ay]⟩,q⟩
theorem BW:BQ X (.builtin "len") (fun xs H Q=>∃ z,xs=[.str z]/\z.length <= sizeLine/\Q (.int z.length) H):=by
 intro aa s σ H xs us Q I r h;obtain ⟨z,rfl,hz,q⟩:=h;obtain ⟨u,rfl,t,rfl⟩:=B5 r;have hn:=EM;exact len_str (by omega) ⟨.int z.length,H,I.tok _,⟨_,rfl⟩,q⟩
theorem FY:BQ X (.type "tuple") (fun xs H Q=>∃ p ys,xs=[.ref p]/\((SqL X.K H p ys/\∀ l,H l=none->Q (.ref l) (upd H l (.tup ys)))\/(SqT X.K H p ys/\Q (.ref p) H))):=by
 intro aa s σ H xs us Q I r h;obtain ⟨p,ys,rfl,h⟩:=h;obtain ⟨u,rfl,rx⟩:=B5 r;cases rx;rcases h with ⟨hq,q⟩ | ⟨hq,q⟩
 ·obtain ⟨its,r',pl,hz⟩:=I.list hq;have ay:=r'.length;refine call_tuple_list pl.isList (fun h' kp=>?_) (by simp only [size_toArray] <;> omega);have I1:Inv X aa σ H { s with heap:=h' }:=I.kept (t':=s.toks) kp
  have I2:Inv X aa σ (upd H h'.objs.size (.tup ys)) { s with heap:=h'.push { cls:=.type "tuple", data:=.seq its.toArray } } :=
   I1.laid (t':=s.toks) (fun b o e=>get?_push_of_some _ e) (Nat.le_refl _) (show ObjOk X.prog X.w _ _ _ (.tup ys) from ⟨hz,its,r',IsTup.new _ _⟩)
  exact ⟨.ref h'.objs.size,_,I2,rfl,q _ (I1.hok.fresh (Nat.le_refl _))⟩
 ·obtain ⟨its,r',pl,hz⟩:=I.tuple hq;exact call_tuple_same pl ⟨.ref p,H,I,rfl,q⟩
def tyV (K:FG) (T:String) (x:V) (H:Hp):Prop:=match x with
 | .str _=>T = "str"
 | .int _=>T = "int"
 | .ref p=>(T = "list" /\ ∃ xs,SqL K H p xs)\/(T = "tuple" /\ ∃ o,K.lookup p=some o/\o.cls=.type "tuple" /\ o.dict=none) \/
   (T = "dict" /\ ((∃ kvs,H p=some (.dK kvs))\/∃ kvs,H p=some (.dT kvs)))\/(T = "set" /\ ∃ S n,H p=some (.set S n))
 | _=>False
theorem Ks {T:String} {x:V} {v:Value} (I:Inv X aa σ H s) (r:RelV x v) (ty:tyV X.K T x H) :
  s.TypeIs v T/\∀ a,v=.ref a->∃ ob,s.heap.get? a=some ob/\ob.dict=none:=by
 cases x with
 | str z =>
  obtain ⟨t,rfl⟩:=r;cases (show T = "str" from ty);exact ⟨typeIs_str s z t,fun _ e=>nomatch e⟩
 | int i =>
  obtain ⟨t,rfl⟩:=r;cases (show T = "int" from ty);exact ⟨typeIs_int s i t,fun _ e=>nomatch e⟩
 | ref p =>
  cases r;rcases ty with ⟨rfl,xs,hq⟩ | ⟨rfl,o,hk,hc,hd⟩ | ⟨rfl,hk⟩ | ⟨rfl,S,n,hk⟩
  ·obtain ⟨its,_,pl,_⟩:=I.list hq;refine ⟨pl.isList.typeIs,fun a e=>?_⟩;cases e;obtain ⟨o,n,e,c,hd,_⟩:=pl;exact ⟨o,e,hd⟩
  ·refine ⟨⟨o,I.kIn p o hk,hc⟩,fun a e=>?_⟩;cases e;exact ⟨o,I.kIn _ o hk,hd⟩
  ·have z:∃ o,s.heap.get? p=some o/\o.ExactDict:=by
    rcases hk with ⟨kvs,hk⟩ | ⟨kvs,hk⟩
    ·obtain ⟨_,_,_,_,o,_,_,e,ex,_⟩:=I.hok p _ hk;exact ⟨o,e,ex⟩
    ·obtain ⟨_,_,_,_,o,_,_,e,ex,_⟩:=I.hok p _ hk;exact ⟨o,e,ex⟩
   obtain ⟨o,e,ex⟩:=z;refine ⟨⟨o,e,ex.1⟩,fun a e2=>?_⟩;cases e2;exact ⟨o,e,ex.2.1⟩
  ·obtain ⟨o,_,_,_,e,ex,_⟩:=I.hok p _ hk;refine ⟨⟨o,e,ex.1⟩,fun a e2=>?_⟩;cases e2;exact ⟨o,e,ex.2.1⟩
 | _=>exact False.elim ty
def P8 (K:FG) (T:String) (r:V->List V->Hp->VK->Prop) (to:TE):TE:=fun σ H Q=>to σ H fun x H1=>tyV K T x H1/\r x [] H1 Q
def tBM (K:FG) (T:String) (r:V->List V->Hp->VK->Prop) (to:TE) (t:TA):TE:=fun σ H Q=>to σ H fun x H1=>tyV K T x H1/\t σ H1 fun xs H2=>r x xs H2 Q
variable {o:Expr} {es:List Expr} {to:TE} {t:TA} {name:Str} {apos cpos:Pos} {T id:String} {r:V->List V->Hp->VK->Prop}
theorem GX (pa:PlainAttrs T) (slot:Slot T name id) (hty:typeOf (.builtin id)=pure (.type "method_descriptor")) (hm:MtR X id r) (ho:PE X o to)
  (a6:attributeBase o name X.env (eval o X.env)=eval o X.env:=by rfl) (a7:(apos.endLine == cpos.line)=true:=by rfl):PE X (.Call (.Attribute o name apos) [] [] cpos) (P8 X.K T r to):=by
 intro aa s σ H Q I h;refine wpAny_Call_method0_late a6 a7 (thn (ho aa s σ H _ I h) fun v s1 ⟨x,H1,I1,r1,ty,q1⟩=>?_);obtain ⟨h1,h2⟩:=Ks I1 r1 ty;exact ⟨T,id,pa,slot,hty,h1,h2,Calls.callWith_builtin rfl (PySem.evalArgs_none (hm aa s1 σ H1 x [] v [] Q I1 r1 .nil q1))⟩
theorem Ci (pa:PlainAttrs T) (slot:Slot T name id) (hty:typeOf (.builtin id)=pure (.type "method_descriptor")) (hm:MtR X id r) (ho:PE X o to) (ha:PA X (e :: es) t)
  (a6:attributeBase o name X.env (eval o X.env)=eval o X.env:=by rfl)
  (hfew:((backTo cpos (starEach (e :: es) X.env)).all (fun x=>!x.1) && (backToKw cpos (keywordEach [] X.env)).all (fun x=>x.1.isSome)
   && decide ((e :: es).length + ([]:List Keyword).length + (if ([]:List Keyword).isEmpty then 0 else 1) < 30))=true:=by rfl)
  (a7:(apos.endLine == cpos.line)=true:=by rfl) (hs:starEach (e :: es) X.env=(false,eval e X.env) :: starEach es X.env:=by rfl) (hplain:(backTo cpos (starEach es X.env)).any (·.1)=false:=by rfl) :
  PE X (.Call (.Attribute o name apos) (e :: es) [] cpos) (tBM X.K T r to t):=by
 intro aa s σ H Q I h;refine wpAny_Call_method_late a6 hfew a7 rfl (thn (ho aa s σ H _ I h) fun v s1 ⟨x,H1,I1,r1,ty,q1⟩=>?_);obtain ⟨h1,h2⟩:=Ks I1 r1 ty;refine ⟨T,id,pa,slot,hty,h1,h2,?_⟩;have hA:=ha cpos aa s1 σ H1 _ I1 q1;rw [hs] at hA ⊢;refine Calls.callWith_builtin (by show (false || (backTo cpos (starEach es X.env)).any (·.1))=false; rw [hplain] <;> rfl) (Calls.evalArgs_plain ?_);exact thn hA fun us s2 ⟨vs,H2,I2,r2,q2⟩=>hm aa s2 σ H2 x vs v us Q I2 r1 r2 q2
end
end L2
namespace L2
open PySem PySem.Spec PyProof.Rows
def MtM (X:Cx) (id:String) (r:V->List V->Hp->VK->Prop):Prop :=
 ∀ (aa:LO) (s:Shared) (σ:St) (H:Hp) (x:V) (xs:List V) (v:Value) (us:List Value) (Q:VK),Inv X aa σ H s->RelV x v->Vals xs us->r x xs H Q ->
  wpAny (model X.prog X.w) X.A (call (.builtin id) (v :: us)) (EP X aa σ Q) X.xe s
theorem Vals.one:∀ {x:V} {us:List Value},Vals [x] us->∃ u,us=[u]/\RelV x u
 | _,_,.cons r .nil=>⟨_,rfl,r⟩
theorem Vals.zero:∀ {us:List Value},Vals [] us->us=[]
 | _,.nil=>rfl
theorem Vals.dropLast {xs:List V} {us:List Value} (h:Vals xs us):Vals xs.dropLast us.dropLast:=by
 induction h with
 | nil=>exact .nil
 | cons r t ih =>
  cases t with
  | nil=>exact .nil
  | cons q t'=>exact .cons r ih
theorem II {α:Type} (l:List α):l.eraseIdx (l.length - 1)=l.dropLast:=by
 induction l with
 | nil=>rfl
 | cons a r ih =>
  cases r with
  | nil=>rfl
  | cons b r =>
   have e:(a :: b :: r).length - 1=((b :: r).length - 1) + 1:=by
    have h1:(a :: b :: r).length=r.length + 2:=rfl;have h2:(b :: r).length=r.length + 1:=rfl;omega
   rw [e,List.eraseIdx_cons_succ,ih]
   all_goals rfl
section
variable {l b:Addr} {ys zs:List V}
theorem Inv.lset {its its':List Value} {n:Nat} {f:Array Value->Array Value} {t':Nat} (I:Inv X aa σ H s) (hH:H l=some (.lst xs))
  (e:s.heap.get? l=some { cls:=.type "list", data:=.seq its.toArray n }) (hf:f its.toArray=its'.toArray) (hv:Vals ys its') (hz:ys.length <= sizeLine) :
  Inv X aa σ (upd H l (.lst ys)) { s with heap:=s.heap.update l (Obj.mapSeq f),toks:=t' }:=by
 have q:=PySem.IsL.update e f;rw [hf] at q;refine I.write (x:=l) (e:=l) (by rw [hH]; exact trivial) (.inl rfl) (fun b' u hb hu=>(get?_update_other s.heap (Obj.mapSeq f) (Ne.symm hb)).trans hu) ⟨_,q⟩ ?_;exact ⟨hz,its',_,hv,q⟩
theorem Inv.lnew {its:List Value} {t':Nat} (I:Inv X aa σ H s) (hv:Vals ys its) (hz:ys.length <= sizeLine) :
  Inv X aa σ (upd H s.heap.objs.size (.lst ys)) { s with heap:=s.heap.push { cls:=.type "list", data:=.seq its.toArray },toks:=t' } :=
 I.laid (fun _ _ q=>get?_push_of_some _ q) (Nat.le_refl _) ⟨hz,its,0,hv,get?_push_size _ rfl⟩
theorem Inv.fresh (I:Inv X aa σ H s):H s.heap.objs.size=none:=I.hok.fresh (Nat.le_refl _)
theorem Inv.lstM (I:Inv X aa σ H s) (hH:H l=some (.lst xs)):xs.length <= sizeLine/\∃ (its:List Value) (n:Nat),Vals xs its/\xs.length=its.length/\s.heap.get? l=some { cls:=.type "list", data:=.seq its.toArray n }:=by
 obtain ⟨z,its,n,r,e⟩:=I.hok l _ hH;exact ⟨z,its,n,r,r.length,e⟩
end
section
def Me:V->List V->Hp->VK->Prop:=fun x vs H Q=>∃ l xs y,x=.ref l/\vs=[y]/\H l=some (.lst xs)/\xs.length < sizeLine/\Q .non (upd H l (.lst (xs++[y])))
theorem BC:MtM X "list.append" Me:=by
 intro aa s σ H x vs v us Q I rx rv h;obtain ⟨l,xs,y,rfl,rfl,hH,hz,q⟩:=h;cases rx;obtain ⟨u,rfl,ru⟩:=rv.one;obtain ⟨z,its,n,r,hl,e⟩:=I.lstM hH;refine call_meets F.slot_list_append ⟨_,e,rfl⟩ F.entry_list_append (F.args_list_append_2 _ _) (PySem.list_append l its.toArray n u (by rw [size_toArray]; omega)) ⟨e,?_⟩;refine ⟨.non,_,I.lset (its':=its++[u]) hH e (by simp) (r.append (.cons ru .nil)) ?_,rfl,q⟩;rw [length_append,length_singleton];omega
def P9:V->List V->Hp->VK->Prop:=fun x vs H Q=>∃ l xs y,x=.ref l/\vs=[]/\H l=some (.lst xs)/\xs[xs.length - 1]?=some y/\Q y (upd H l (.lst xs.dropLast))
theorem IJ:MtM X "list.pop" P9:=by
 intro aa s σ H x vs v us Q I rx rv h;obtain ⟨l,xs,y,rfl,rfl,hH,hy,q⟩:=h;cases rx;have hus:=rv.zero;subst hus;obtain ⟨z,its,n,r,hl,e⟩:=I.lstM hH;obtain ⟨u,hu,ru⟩:=r.get hy
 have hy':its.toArray[its.toArray.size - 1]?=some u:=by
  show its.toArray[its.length - 1]?=some u;rw [← Array.getElem?_toList,← hl];exact hu
 refine call_meets F.slot_list_pop ⟨_,e,rfl⟩ F.entry_list_pop (F.args_list_pop_1 _) (MeetsSeq.list_pop_last l its.toArray n u hy' (by rw [size_toArray]; omega)) ⟨e,?_⟩;refine ⟨y,_,I.lset (its':=its.dropLast) hH e ?_ r.dropLast ?_,ru,q⟩
 ·show its.toArray.eraseIdxIfInBounds (its.toArray.size - 1)=its.dropLast.toArray;rw [size_toArray,List.eraseIdxIfInBounds_toArray,II]
 ·rw [List.length_dropLast];omega
def QA:R2:=fun x y H Q=>∃ l b xs zs,x=.ref l/\y=.ref b/\H l=some (.lst xs)/\H b=some (.lst zs)/\xs.length + zs.length <= sizeLine/\∀ p,H p=none->Q (.ref p) (upd H p (.lst (xs++zs)))
theorem N8:OpR X (binaryOp .Add) QA:=by
 intro aa s σ H x y v u Q I rx ry h;obtain ⟨l,b,xs,zs,rfl,rfl,hH,hB,hz,q⟩:=h;cases rx;cases ry;obtain ⟨z,its,n,r,hl,e⟩:=I.lstM hH;obtain ⟨z2,its2,n2,r2,hl2,e2⟩:=I.lstM hB;refine PySem.P.add_list e e2 ?_ (by rw [size_toArray,size_toArray]; omega);have ea:its.toArray++its2.toArray=(its++its2).toArray:=by simp
 rw [ea];exact ⟨.ref _,_,I.lnew (t':=s.toks) (r.append r2) (by rw [length_append]; omega),rfl,q _ I.fresh⟩
end
end L2
namespace L2
open PySem PySem.Spec PyProof.Rows
section
variable {κ:Type} [DecidableEq κ]
def A7 (kvs:List (κ × V)) (k:κ):Option V:=(kvs.find? fun kv=>decide (kv.1=k)).map (·.2)
def CG (kvs:List (κ × V)) (k:κ) (v:V):List (κ × V) :=
 if (kvs.any fun kv=>decide (kv.1=k))=true then kvs.map (fun kv=>if kv.1=k then (kv.1,v) else kv) else kvs++[(k,v)]
theorem Cv {p:κ × V} {r:List (κ × V)} {k:κ} (e:p.1=k):A7 (p :: r) k=some p.2:=by simp [A7,find?_cons,e]
theorem Cw {p:κ × V} {r:List (κ × V)} {k:κ} (e:¬ p.1=k):A7 (p :: r) k=A7 r k:=by simp [A7,find?_cons,e]
theorem E4 (k:κ):∀ kvs:List (κ × V),(kvs.any fun kv=>decide (kv.1=k))=(A7 kvs k).isSome
 | []=>rfl
 | p :: r=>by
  rw [any_cons];by_cases e:p.1=k
  ·simp only [Cv e,decide_eq_true e,Bool.true_or,Option.isSome_some]
  ·rw [Cw e,decide_eq_false e,Bool.false_or]; exact E4 k r
theorem B8 (kvs:List (κ × V)) (k:κ) (v:V):(CG kvs k v).length <= kvs.length + 1:=by
 unfold CG;split
 ·rw [length_map]; omega
 ·rw [length_append,length_cons,length_nil]; omega
theorem G5 {kvs:List (κ × V)} {k:κ} (v:V) (h:A7 kvs k=none):CG kvs k v=kvs++[(k,v)]:=by
 unfold CG;rw [E4,h];exact if_neg (by decide)
theorem RelO.isSome_eq {o:Option V} {u:Option Value} (r:RelO o u):o.isSome=u.isSome:=by
 cases o with
 | none=>cases u with
  | none=>rfl
  | some _=>exact (show False from r).elim
 | some _=>cases u with
  | none=>exact (show False from r).elim
  | some _=>rfl
theorem KV.val {kvs:List (κ × V)} {vs:List (κ × Value)} (r:KV kvs vs) (k:κ):RelO (A7 kvs k) (valueAt vs k):=by
 unfold KV at r;induction r with
 | nil=>exact True.intro
 | @cons p q ps qs h t ih =>
  obtain ⟨h1,h2⟩:=h;by_cases e:p.1=k
  ·have e':q.1=k:=h1.symm.trans e;have b:valueAt (q :: qs) k=some q.2:=by simp [valueAt,find?_cons,e']
   rw [Cv e,b]; exact h2
  ·have e':¬ q.1=k:=fun z=>e (h1.trans z);have b:valueAt (q :: qs) k=valueAt qs k:=by simp [valueAt,find?_cons,e']
   rw [Cw e,b]; exact ih
theorem KV.any {kvs:List (κ × V)} {vs:List (κ × Value)} (r:KV kvs vs) (k:κ):(kvs.any fun kv=>decide (kv.1=k))=vs.any fun kv=>decide (kv.1=k):=by
 unfold KV at r;induction r with
 | nil=>rfl
 | cons h t ih=>rw [any_cons,any_cons,ih,h.1]
theorem KV.repl {kvs:List (κ × V)} {vs:List (κ × Value)} (r:KV kvs vs) (k:κ) {y:V} (ry:RelV y u) :
  KV (kvs.map fun kv=>if kv.1=k then (kv.1,y) else kv) (vs.map fun kv=>if kv.1=k then (kv.1,u) else kv):=by
 unfold KV at r ⊢;induction r with
 | nil=>exact .nil
 | @cons p q ps qs h t ih =>
  rw [map_cons,map_cons];refine .cons ?_ ih;obtain ⟨h1,h2⟩:=h;by_cases e:p.1=k
  ·rw [if_pos e,if_pos (h1.symm.trans e)]; exact ⟨h1,ry⟩
  ·rw [if_neg e,if_neg (fun z=>e (h1.trans z))]; exact ⟨h1,h2⟩
theorem KV.put {kvs:List (κ × V)} {vs:List (κ × Value)} (r:KV kvs vs) (k:κ) {y:V} (ry:RelV y u):KV (CG kvs k y) (stored vs k u):=by
 unfold CG stored;rw [r.any k];by_cases e:(vs.any fun kv=>decide (kv.1=k))=true
 ·rw [if_pos e,if_pos e]; exact r.repl k ry
 ·rw [if_neg e,if_neg e]; exact Paired.snoc r ⟨rfl,ry⟩
theorem KV.length {kvs:List (κ × V)} {vs:List (κ × Value)} (r:KV kvs vs):kvs.length=vs.length:=Paired.length r
end
theorem E5 {k:Key} (r:RelV (kV k) u):(Ah P w).is k u=true:=by
 cases k with
 | inl i=>obtain ⟨t,e⟩:=(show ∃ t,u=Value.int i t from r); subst e; exact Gv P w i t
 | inr x=>obtain ⟨t,e⟩:=(show ∃ t,u=Value.str x t from r); subst e; exact Co P w x t
theorem Fl {P:Program} {w:World}:∀ {ks:List Key} {us:List Value},Vals (ks.map kV) us->ItemsAre (Ah P w) ks us
 | [],_,r=>by rw [map_nil] at r; cases r; exact .nil
 | k :: ks,_,r=>by
  rw [map_cons] at r;cases r with
  | cons h t=>exact .cons (E5 h) (Fl t)
abbrev KT (H:Hp):List (List Key × V)->List (List Key × Addr × Value)->Prop:=Paired fun p q=>p.1=q.1/\H q.2.1=some (.tup (p.1.map kV))/\RelV p.2 q.2.2
theorem KT.val {kvs:List (List Key × V)} {xs:List (List Key × Addr × Value)} (r:KT H kvs xs) (k:List Key):RelO (A7 kvs k) ((atKey xs k).map (·.2)):=by
 induction r with
 | nil=>exact True.intro
 | @cons p q ps qs h t ih =>
  obtain ⟨h1,_,h2⟩:=h;by_cases e:p.1=k
  ·have e':q.1=k:=h1.symm.trans e;have b:atKey (q :: qs) k=some q.2:=by simp [atKey,find?_cons,e']
   rw [Cv e,b]; exact h2
  ·have e':¬ q.1=k:=fun z=>e (h1.trans z);have b:atKey (q :: qs) k=atKey qs k:=by simp [atKey,find?_cons,e']
   rw [Cw e,b]; exact ih
theorem KT.repl {kvs:List (List Key × V)} {xs:List (List Key × Addr × Value)} (r:KT H kvs xs) (k:List Key) {y:V} (ry:RelV y u) :
  KT H (kvs.map fun kv=>if kv.1=k then (kv.1,y) else kv) (xs.map (putAt k u)):=by
 induction r with
 | nil=>exact .nil
 | @cons p q ps qs h t ih =>
  rw [map_cons,map_cons];refine .cons ?_ ih;obtain ⟨h1,h2,h3⟩:=h;unfold putAt;by_cases e:p.1=k
  ·rw [if_pos e,if_pos (h1.symm.trans e)]; exact ⟨h1,h2,ry⟩
  ·rw [if_neg e,if_neg (fun z=>e (h1.trans z))]; exact ⟨h1,h2,h3⟩
theorem KT.put {kvs:List (List Key × V)} {xs:List (List Key × Addr × Value)} (r:KT H kvs xs) (k:List Key) {b:Addr} {y:V} (hb:H b=some (.tup (k.map kV))) (ry:RelV y u) :
  KT H (CG kvs k y) (storedH xs k b u):=by
 have e:(kvs.any fun kv=>decide (kv.1=k))=(atKey xs k).isSome:=by
  rw [E4,(r.val k).isSome_eq,Option.isSome_map]
 unfold CG storedH;rw [e];by_cases q:(atKey xs k).isSome=true
 ·rw [if_pos q,if_pos q]; exact r.repl k ry
 ·rw [if_neg q,if_neg q]; exact Paired.snoc r ⟨rfl,hb,ry⟩
theorem KT.keeps {kvs:List (List Key × V)} {xs:List (List Key × Addr × Value)} (r:KT H kvs xs) (ht:∀ b ys,H b=some (.tup ys)->H' b=some (.tup ys)):KT H' kvs xs :=
 Paired.mapP r fun _ _ z=>⟨z.1,ht _ _ z.2.1,z.2.2⟩
section
theorem Nh {u:HO} (ok:HOk P w H h) (e:Rd H a u):ObjOk P w H h a u:=e.ok ok
theorem Cj {kvs:LK} (ok:HOk P w H h) (e:Rd H a (.dK kvs)):kvs.length <= sizeLine/\(a == sysModules)=false/\∃ vs,KV kvs vs/\h.DictOf (Ah P w) a vs :=
 show ObjOk P w H h a (.dK kvs) from Nh ok e
theorem Kt {kvs:LK} (ok:HOk P w H h) (e:H a=some (.dK kvs)):kvs.length <= sizeLine/\(a == sysModules)=false/\∃ vs,KV kvs vs/\h.DictOf (Ah P w) a vs:=Cj ok (.inl e)
theorem E6 {ks:List Key} (ok:HOk P w H h) (e:H a=some (.tup (ks.map kV))):(tupleKind (Ah P w)).is h ks a:=by
 obtain ⟨_,its,r,o,h1,h2,n,h3⟩:=(show ObjOk P w H h a (.tup (ks.map kV)) from ok a _ e);exact ⟨o,its.toArray,n,h1,h2,h3,by simpa using Fl r⟩
theorem Fo {kvs:List (List Key × V)} (ok:HOk P w H h) (e:Rd H a (.dT kvs)):kvs.length <= sizeLine/\(a == sysModules)=false /\
  ∃ xs,KT H kvs xs/\h.DictOfH (tupleKind (Ah P w)) a xs:=by
 obtain ⟨z,y,xs,r,o,es,ep,h1,h2,h3,h4,h5⟩:=(show ObjOk P w H h a (.dT kvs) from Nh ok e);refine ⟨z,y,xs,r,o,es,ep,h1,h2,h3,h4,fun x hx=>?_,h5⟩
 have all:∀ {l:List (List Key × V)} {m:List (List Key × Addr × Value)},KT H l m->∀ x ∈ m,(tupleKind (Ah P w)).is h x.1 x.2.1:=by
  intro l m q;induction q with
  | nil=>intro x hx; exact nomatch hx
  | @cons p q ps qs hq t ih =>
   intro x hx;rcases mem_cons.mp hx with e | hx
   ·subst e;exact E6 ok (by rw [← hq.1]; exact hq.2.1)
   ·exact ih x hx
 exact all r x hx
theorem PD {kvs:List (List Key × V)} (ok:HOk P w H h) (e:H a=some (.dT kvs)):kvs.length <= sizeLine/\(a == sysModules)=false /\
  ∃ xs,KT H kvs xs/\h.DictOfH (tupleKind (Ah P w)) a xs:=Fo ok (.inl e)
end
def G6 (H:Hp) (a:Addr) (y:V) (r:Option V):Prop :=
 (∃ kvs k,Rd H a (.dK kvs)/\y=kV k/\r=A7 kvs k)\/∃ kvs k b,Rd H a (.dT kvs)/\y=.ref b/\H b=some (.tup (k.map kV))/\r=A7 kvs k
def DPut (H:Hp) (a:Addr) (y v:V) (H':Hp):Prop :=
 (∃ kvs k,H a=some (.dK kvs)/\y=kV k/\kvs.length < sizeLine/\H'=upd H a (.dK (CG kvs k v))) \/
 ∃ kvs k b,H a=some (.dT kvs)/\y=.ref b/\H b=some (.tup (k.map kV))/\kvs.length < sizeLine/\H'=upd H a (.dT (CG kvs k v))
theorem DPut.k {H:Hp} {a:Addr} {kvs:LK} {k:Key} {v:V} (e:H a=some (.dK kvs)) (hl:kvs.length < sizeLine):DPut H a (kV k) v (upd H a (.dK (CG kvs k v))):=.inl ⟨kvs,k,e,rfl,hl,rfl⟩
section
variable {y v:V} {r:Value} {o:Option V}
theorem Inv.big (I:Inv X aa σ H s):sysModules < s.heap.objs.size:=by
 have h:mainGlobals < s.heap.objs.size:=(I.mod.glob.keeps I.bk).lt;exact Nat.lt_trans (by decide) h
theorem Jm {Q:VS} (hu:A.units + 1 < cLine) (I:Inv X aa σ H s) (g:G6 H a y (some v)) (ry:RelV y u) (h:∀ w' s',Inv X aa σ H s'->RelV v w'->Q w' s') :
  wpAny (model X.prog X.w) A (getItem (.ref a) u) Q E s:=by
 rcases g with ⟨kvs,k,e,ey,l⟩ | ⟨kvs,k,b,e,ey,eb,l⟩
 ·subst ey;obtain ⟨z,hd,vs,rel,dd⟩:=Cj I.hok e;obtain ⟨w',hw,rw'⟩:=RelO.some_of (v:=v) (o:=valueAt vs k) (by rw [l]; exact rel.val k);exact wpAny_getItem_of (E5 ry) dd.mapOf hw (h w' _ (I.tok _) rw')
 ·subst ey;cases (show u=Value.ref b from ry);obtain ⟨z,hd,xs,rel,dd⟩:=Fo I.hok e;obtain ⟨w',hw,rw'⟩:=RelO.some_of (v:=v) (o:=(atKey xs k).map (·.2)) (by rw [l]; exact rel.val k);obtain ⟨p,hp,ai⟩:=Option.map_eq_some_iff.mp hw;refine wpAny_getItem_heap (tupleKind_room_in1 hu) (E6 I.hok eb) dd hp ?_;rw [ai];exact h w' _ (I.tok _) rw'
theorem QB {Q:VS} (hu:A.units + 1 < cLine) (I:Inv X aa σ H s) (g:G6 H a y o) (ry:RelV y u) (h:∀ s',Inv X aa σ H s'->Q (.bool o.isSome) s') :
  wpAny (model X.prog X.w) A (compareOp .In u (.ref a)) Q E s:=by
 rcases g with ⟨kvs,k,e,ey,l⟩ | ⟨kvs,k,b,e,ey,eb,l⟩
 ·subst ey;obtain ⟨z,hd,vs,rel,dd⟩:=Cj I.hok e;refine wpAny_in_of (E5 ry) hd dd.mapOf ?_;rw [← (rel.val k).isSome_eq,← l];exact h _ (I.tok _)
 ·subst ey;cases (show u=Value.ref b from ry);obtain ⟨z,hd,xs,rel,dd⟩:=Fo I.hok e;refine wpAny_in_heap (tupleKind_room_in1 hu) (E6 I.hok eb) hd dd ?_;have q:=(rel.val k).isSome_eq;rw [Option.isSome_map] at q;rw [← q,← l];exact h _ (I.tok _)
theorem Mf {Q:VS} (hu:A.units + 1 < cLine) (I:Inv X aa σ H s) (g:G6 H a y o) (ry:RelV y u) (h:∀ s',Inv X aa σ H s'->Q (.bool (!o.isSome)) s') :
  wpAny (model X.prog X.w) A (compareOp .NotIn u (.ref a)) Q E s:=by
 rcases g with ⟨kvs,k,e,ey,l⟩ | ⟨kvs,k,b,e,ey,eb,l⟩
 ·subst ey;obtain ⟨z,hd,vs,rel,dd⟩:=Cj I.hok e;refine wpAny_notIn_of (E5 ry) hd dd.mapOf ?_;rw [← (rel.val k).isSome_eq,← l];exact h _ (I.tok _)
 ·subst ey;cases (show u=Value.ref b from ry);obtain ⟨z,hd,xs,rel,dd⟩:=Fo I.hok e;refine wpAny_notIn_heap (tupleKind_room_in1 hu) (E6 I.hok eb) hd dd ?_;have q:=(rel.val k).isSome_eq;rw [Option.isSome_map] at q;rw [← q,← l];exact h _ (I.tok _)
theorem Ep {h':Heap} {t':Nat} {ob:HO} (I:Inv X aa σ H s) (mu:Mut (H a)) (hs:Heap.SameBut a s.heap h') (he:∃ q,h'.get? a=some q) (new:ObjOk X.prog X.w (upd H a ob) h' a ob) :
  Inv X aa σ (upd H a ob) { s with heap:=h',toks:=t' } :=
 I.write (x:=a) (e:=a) mu (.inl rfl) (fun b q hb z=>(hs.2 b hb).trans z) he new
theorem IK {h':Heap} {kvs:LK} {vs:List (Key × Value)} (z:kvs.length <= sizeLine) (hd:(a == sysModules)=false) (rel:KV kvs vs) (dd:h'.DictOf (Ah P w) a vs) :
  ObjOk P w H' h' a (.dK kvs):=⟨z,hd,vs,rel,dd⟩
theorem Jn {Q:Unit->Shared->Prop} (hu:A.units + 1 < cLine) (I:Inv X aa σ H s) (g:DPut H a y v H') (ry:RelV y u) (rv:RelV v r) (h:∀ s',Inv X aa σ H' s'->Q () s') :
  wpAny (model X.prog X.w) A (setItem (.ref a) u r) Q E s:=by
 rcases g with ⟨kvs,k,e,ey,l,eH⟩ | ⟨kvs,k,b,e,ey,eb,l,eH⟩
 ·subst ey eH;obtain ⟨z,hd,vs,rel,dd⟩:=Kt I.hok e;have hz:vs.length <= sizeLine:=by rw [← rel.length]; exact z
  have hl:(CG kvs k v).length <= sizeLine:=by have:=B8 kvs k v; omega
  refine wpAny_setItem_pairs (hsz:=hz) (E5 ry) dd fun h' dd' hs=>h _ ?_;have he:∃ q,h'.get? a=some q:=let ⟨q,_,_,hq,_⟩:=dd'; ⟨q,hq⟩
  exact Ep I (by rw [e]; exact True.intro) hs he (IK hl hd (rel.put k rv) dd')
 ·subst ey eH;cases (show u=Value.ref b from ry);obtain ⟨z,hd,xs,rel,dd⟩:=PD I.hok e;have hz:xs.length <= sizeLine:=by rw [← Paired.length rel]; exact z
  have hl:(CG kvs k v).length <= sizeLine:=by have:=B8 kvs k v; omega
  refine wpAny_setItem_heap (hsz:=hz) (tupleKind_room_in1 hu) (E6 I.hok eb) dd fun h' dd' hs=>h _ ?_;obtain ⟨q,es,ep,hq,h2,h3,h4,_,h5⟩:=dd';refine Ep I (by rw [e]; exact True.intro) hs ⟨q,hq⟩ ⟨hl,hd,_,(rel.put k eb rv).keeps fun c ys ec=>?_,q,es,ep,hq,h2,h3,h4,h5⟩;rw [AF (Cg ec e (fun z=>nomatch z))];exact ec
end
def PF (i:Expr):Prop:=∀ ov iv,subscripted i false ov iv=operate [ov,iv] (getItem ov iv)
theorem Mg {prog:Program} {env:Env} {value slice:Expr} {T id:String} {Q:VS}
  (hl:typeLookup (.type T) "__getitem__" = pure (some (.builtin id))) (hs:PF slice)
  (h:wpAny (model prog w) A (eval value env) (fun o s₁=>wpAny (model prog w) A (eval slice env) (fun i s₂=>s₂.TypeIs o T/\wpAny (model prog w) A (getItem o i) Q E s₂) E s₁) E s) :
  wpAny (model prog w) A (eval (.Subscript value slice pos) env) Q E s:=by
 refine Subscript_ (wpAny_mono h (fun o s₁ h₁=>wpAny_mono h₁ (fun i s₂ h₂=>?_) fun _ _ x=>x) fun _ _ x=>x);obtain ⟨hT,h₂⟩:=h₂;unfold subscriptTail;refine wpAny_bind ?_;rw [getitemInPython_of_ne hT.not_modules];refine wpAny_bind (wpAny_specialOf hT hl ?_)
 have fin:wpAny (model prog w) A (subscripted slice false o i) (fun r s₃=>wpAny (model prog w) A (letTemporaryGo value o r >>= fun _=>pure r) Q E s₃) E s₂:=by
  rw [hs o i];exact wpAny_operating (wpAny_mono h₂ (fun r s₃ h₃=>wpAny_bind (wpAny_letTemporaryGo (wpAny_pure h₃))) fun _ _ x=>x)
 first
  | exact wpAny_pure (wpAny_bind fin)
  | exact wpAny_bind (wpAny_pure (wpAny_bind fin))
  | exact wpAny_bind fin
theorem G7 {y:V} {o:Option V} (I:Inv X aa σ H s) (g:G6 H a y o):s.TypeIs (.ref a) "dict" := by
 rcases g with ⟨kvs,k,e,_,_⟩ | ⟨kvs,k,b,e,_,_,_⟩
 ·obtain ⟨_,_,vs,_,dd⟩:=Cj I.hok e;exact dd.typeIs
 ·obtain ⟨_,_,xs,_,dd⟩:=Fo I.hok e;exact dd.typeIs
inductive ExD (x:V) (H:Hp) (y:V) (k:V->Prop):Prop where
 | mk (a:Addr) (v:V) (h1:x=.ref a) (h2:G6 H a y (some v)) (q:k v):ExD x H y k
def PH (td ty:TE):TE:=fun σ H Q=>td σ H fun x H1=>ty σ H1 fun y H2=>ExD x H2 y fun v=>Q v H2
def QC (ty td:TE):TE:=fun σ H Q=>ty σ H fun y H1=>td σ H1 fun x H2=>∃ a o,x=.ref a/\G6 H2 a y o/\Q (.bl o.isSome) H2
def Mh (ty td:TE):TE:=fun σ H Q=>ty σ H fun y H1=>td σ H1 fun x H2=>∃ a o,x=.ref a/\G6 H2 a y o/\Q (.bl (!o.isSome)) H2
def PJ (td ty tv:TE):TS:=fun D σ H=>tv σ H fun v H1=>td σ H1 fun x H2=>ty σ H2 fun y H3=>∃ a H4,x=.ref a/\DPut H3 a y v H4/\D.nx σ H4
section
variable {o i value:Expr} {pos' tpos:Pos} {td ty tv:TE}
theorem BN (hu:X.A.units + 1 < cLine) (ho:PE X o td) (hi:PE X i ty) (hs:PF i):PE X (.Subscript o i pos) (PH td ty):=by
 intro aa s σ H Q I h;refine Mg PySem.F.slot_dict_getitem.lookup hs (thn (ho aa s σ H _ I h) fun u s1 ⟨x,H1,I1,rx,q1⟩=>thn (hi aa s1 σ H1 _ I1 q1) fun iv s2 ⟨y,H2,I2,ry,a,v,ex,g,q2⟩=>?_);subst ex;obtain rfl:u=Value.ref a:=rx;exact ⟨G7 I2 g,Jm hu I2 g ry fun w' s3 I3 rw'=>⟨v,H2,I3,rw',q2⟩⟩
theorem IL (hu:X.A.units + 1 < cLine) (hi:PE X i ty) (ho:PE X o td):PC X .In i o (QC ty td):=by
 intro aa s σ H Q I h;refine thn (hi aa s σ H _ I h) fun iv s1 ⟨y,H1,I1,ry,q1⟩=>thn (ho aa s1 σ H1 _ I1 q1) fun u s2 ⟨x,H2,I2,rx,a,ov,ex,g,q2⟩=>?_;subst ex;obtain rfl:u=Value.ref a:=rx;exact QB hu I2 g ry fun s3 I3=>⟨.bl ov.isSome,H2,I3,rfl,q2⟩
theorem Jo (hu:X.A.units + 1 < cLine) (hi:PE X i ty) (ho:PE X o td):PC X .NotIn i o (Mh ty td):=by
 intro aa s σ H Q I h;refine thn (hi aa s σ H _ I h) fun iv s1 ⟨y,H1,I1,ry,q1⟩=>thn (ho aa s1 σ H1 _ I1 q1) fun u s2 ⟨x,H2,I2,rx,a,ov,ex,g,q2⟩=>?_;subst ex;obtain rfl:u=Value.ref a:=rx;exact Mf hu I2 g ry fun s3 I3=>⟨.bl (!ov.isSome),H2,I3,rfl,q2⟩
theorem JG (hu:X.A.units + 1 < cLine) (ho:PE X o td) (hi:PE X i ty) (hv:PE X value tv) (hs:swapsWith value (some (.Subscript o i pos')) pos.line X.env=pure false) :
  PS X (.Assign [.Subscript o i pos'] value pos) (PJ td ty tv):=by
 intro aa s σ H D I h;refine wpAny_Assign_Subscript (thn (hv aa s σ H _ I h) fun r s1 ⟨v,H1,I1,rv,q1⟩=>thn (ho aa s1 σ H1 _ I1 q1) fun u s2 ⟨x,H2,I2,rx,q2⟩=>thn (hi aa s2 σ H2 _ I2 q2) fun iv s3 ⟨y,H3,I3,ry,a,H4,ex,g,q3⟩=>?_) hs;subst ex;obtain rfl:u=Value.ref a:=rx;exact Jn hu I3 g ry rv fun s4 I4=>⟨σ,H4,I4,q3⟩
end
theorem G8 (h:Heap) (hb:sysModules < h.objs.size):ObjOk P w H (h.push { cls:=.type "dict", data:=.dict #[] }) h.objs.size (.dK []) :=
 ⟨Nat.zero_le _,beq_eq_false_iff_ne.mpr (Ne.symm (Nat.ne_of_lt hb)),[],.nil,Heap.DictOf.new h⟩
def N9:TE:=fun _ H Q=>∀ p,H p=none->Q (.ref p) (upd H p (.dK []))
section
theorem D4:PE X (.Dict [] [] pos) N9:=fun aa s σ H Q I h =>
 wpAny_Dict_empty ⟨.ref s.heap.objs.size,_,I.laid (a:=s.heap.objs.size) (o:=.dK []) (t':=s.toks) (fun _ _ q=>get?_push_of_some _ q) (Nat.le_refl _) (G8 s.heap I.big),rfl,h _ (I.hok.fresh (Nat.le_refl _))⟩
end
def IM:List (TE × TE)->St->Hp->(List (V × V)->Hp->Prop)->Prop
  | [],_,H,Q=>Q [] H
  | (tk,tv) :: r,σ,H,Q=>tk σ H fun x H1=>tv σ H1 fun y H2=>IM r σ H2 fun ps H3=>Q ((x,y) :: ps) H3
abbrev VV:List (V × V)->List (Value × Value)->Prop:=Paired fun p q=>RelV p.1 q.1/\RelV p.2 q.2
def PPs (X:Cx) (pos:Pos) (keys:List (Option Expr)) (values:List Expr) (trs:List (TE × TE)):Prop :=
 ∀ (aa:LO) (s:Shared) (σ:St) (H:Hp) (Q:List (V × V)->Hp->Prop),Inv X aa σ H s->IM trs σ H Q ->
  wpAny (model X.prog X.w) X.A (evalPairs (pairTrees keys values X.env pos)) (fun vs s'=>∃ ps H',Inv X aa σ H' s'/\VV ps vs/\Q ps H') X.xe s
theorem Mi:PPs X pos [] [] []:=fun aa s σ H Q I h=>pairTrees_nil_walk ⟨[],H,I,.nil,h⟩
theorem D5 {k v:Expr} {ks:List (Option Expr)} {vs:List Expr} {tk tv:TE} {trs:List (TE × TE)} (hk:PE X k tk) (hv:PE X v tv) (hr:PPs X pos ks vs trs) :
  PPs X pos (some k :: ks) (v :: vs) ((tk,tv) :: trs):=fun aa s σ H Q I h =>
 pairTrees_cons_walk (thn (hk aa s σ H _ I h) fun u s1 ⟨x,H1,I1,rx,q1⟩=>thn (hv aa s1 σ H1 _ I1 q1) fun w2 s2 ⟨y,H2,I2,ry,q2⟩ =>
  thn (hr aa s2 σ H2 _ I2 q2) fun ws s3 ⟨ps,H3,I3,rel,q3⟩=>⟨(x,y) :: ps,H3,I3,.cons ⟨rx,ry⟩ rel,q3⟩)
def EQ (kvs more:LK):LK:=more.foldl (fun acc kv=>CG acc kv.1 kv.2) kvs
theorem KV.merge:∀ {more:LK} {rs:List (Key × Value)} {kvs:LK} {vs:List (Key × Value)},KV more rs->KV kvs vs->KV (EQ kvs more) (merged vs rs):=by
 intro more rs kvs vs r;unfold KV at r;induction r generalizing kvs vs with
 | nil=>intro q; exact q
 | @cons p q ps qs h t ih =>
  intro r0
  have e:KV (CG kvs p.1 p.2) (stored vs q.1 q.2):=by
   have:=r0.put p.1 h.2;rw [← h.1]; exact this
  exact ih e
theorem DN:∀ (more kvs:LK),(EQ kvs more).length <= kvs.length + more.length
 | [],kvs=>by show kvs.length <= kvs.length + 0; omega
 | p :: r,kvs=>by
  have h1:=DN r (CG kvs p.1 p.2);have h2:=B8 kvs p.1 p.2;show (EQ (CG kvs p.1 p.2) r).length <= _;rw [length_cons]; omega
theorem E7 {P:Program} {w:World}:∀ {kvs:LK} {ws:List (Value × Value)},VV (kvs.map fun kv=>(kV kv.1,kv.2)) ws->∃ rs,Carries (Ah P w) ws rs/\KV kvs rs
 | [],_,r=>by rw [map_nil] at r; cases r; exact ⟨[],True.intro,.nil⟩
 | p :: kvs,_,r=>by
  rw [map_cons] at r;cases r with
  | @cons a b as bs h t =>
   obtain ⟨rs,c,q⟩:=E7 (P:=P) (w:=w) t;obtain ⟨b1,b2⟩:=b;exact ⟨(p.1,b2) :: rs,⟨E5 h.1,rfl,c⟩,.cons ⟨rfl,h.2⟩ q⟩
def PL (trs:List (TE × TE)):TE:=fun σ H Q=>∀ p,H p=none->IM trs σ (upd H p (.dK [])) fun ps H2=>H2 p=some (.dK [])/\∃ kvs:LK,ps=kvs.map (fun kv=>(kV kv.1,kv.2))/\kvs.length <= 15/\Q (.ref p) (upd H2 p (.dK (EQ [] kvs)))
theorem Mj {keys:List (Option Expr)} {values:List Expr} {trs:List (TE × TE)} (h:PPs X pos keys values trs) (az:keys.all (·.isSome)=true) (hl:keys.length=values.length) (h0:keys ≠ [])
  (h15:keys.length <= 15):PE X (.Dict keys values pos) (PL trs):=by
 intro aa s σ H Q I q;have hn:=I.hok.fresh (Nat.le_refl s.heap.objs.size);have I1:=I.laid (a:=s.heap.objs.size) (o:=.dK []) (h':=s.heap.push { cls:=.type "dict", data:=.dict #[] }) (t':=s.toks) (fun _ _ q=>get?_push_of_some _ q) (Nat.le_refl _) (G8 s.heap I.big);refine wpAny_Dict_walk (knd:=Ah X.prog X.w) az hl h0 h15 (thn (h aa _ σ _ _ I1 (q _ hn)) fun ws s2 ⟨ps,H2,I2,rel,e,kvs,ep,lk,q2⟩=>?_);subst ep;obtain ⟨rs,c,rk⟩:=E7 (P:=X.prog) (w:=X.w) rel;obtain ⟨z,hd,vs0,r0,dd⟩:=Kt I2.hok e;cases r0;refine ⟨rs,c,dd,fun h' dd' hs=>⟨.ref s.heap.objs.size,_,?_,rfl,q2⟩⟩
 have hz:(EQ [] kvs).length <= sizeLine:=by
  have h1:=DN kvs [];rw [length_nil] at h1;rw [sizeLine_eq]; omega
 have he:∃ q,h'.get? s.heap.objs.size=some q:=let ⟨q,_,_,hq,_⟩:=dd'; ⟨q,hq⟩
 exact Ep I2 (by rw [e]; exact True.intro) hs he (IK hz hd (rk.merge .nil) dd')
def IsD (H:Hp) (a:Addr):Prop:=(∃ kvs,Rd H a (.dK kvs))\/∃ kvs,Rd H a (.dT kvs)
theorem Ku (I:Inv X aa σ H s) (d:IsD H a) :
  s.TypeIs (.ref a) "dict" /\ (∀ b,Value.ref a=.ref b->∃ ob,s.heap.get? b=some ob/\ob.dict=none)/\(a == sysModules)=false:=by
 rcases d with ⟨kvs,e⟩ | ⟨kvs,e⟩
 ·obtain ⟨_,hd,vs,_,dd⟩:=Cj I.hok e;refine ⟨dd.typeIs,fun b q=>?_,hd⟩;cases q;obtain ⟨ob,_,_,h1,h2,_⟩:=dd;exact ⟨ob,h1,h2.2.1⟩
 ·obtain ⟨_,hd,xs,_,dd⟩:=Fo I.hok e;refine ⟨dd.typeIs,fun b q=>?_,hd⟩;cases q;obtain ⟨ob,_,_,h1,h2,_⟩:=dd;exact ⟨ob,h1,h2.2.1⟩
end L2
namespace Att
open PySem PySem.W PySem.Calls PyProof.Rows
theorem Em {P:Params}:∀ (ns:List Int) (vs:List Value),WellAll P h vs (ns.map WData.int)->IntsAre vs ns:=by
 intro ns;induction ns with
 | nil =>
  intro vs w;rw [map_nil] at w;cases w;exact .nil
 | cons n ns ih =>
  intro vs w;rw [map_cons] at w;cases w with
  | cons a b =>
   cases a;exact .cons _ _ (ih _ b)
theorem Jp {l:OpenLaw} {n:Nat} (hn:l.most=some n) {P:Params} {args:List WData} {vals:List Value}
    (bf:l.row.toRowW.claim.pre args=true) (hwl:WellAll P h vals args) :
    ∃ a vs ns,vals=[Value.ref a]/\args=[WData.list (ns.map WData.int)]/\h.get? a=some { cls:=.type "list", data:=.seq vs.toArray }/\IntsAre vs ns/\ns.length <= n:=by
  have af:WShape.hasAll [] args [.list .int]=true:=(pre_splitW bf).1;have hc:l.pre.holds [] { args:=args }=true:=(pre_splitW bf).2;obtain ⟨d,r,rfl,h1,h2⟩:=hasAllW_cons af;obtain rfl:=hasAllW_nil h2;obtain ⟨xs,rfl,h3⟩:=hasW_list h1;obtain ⟨ns,rfl⟩:=items_int h3
  have ay:ns.length <= n:=by
    unfold OpenLaw.pre at hc
    have h4:(WTm.not (.lt (.lit (.int (n:Int))) (.len (.arg 0)))).holds [] { args:=[.list (ns.map .int)] }=true:=by
      have h4:=(holds_andW hc).1;rw [hn] at h4;exact h4
    have h5:=condW_of h4 (w_not (w_lt w_lit (w_len_list (w_arg rfl))));rw [length_map] at h5;refine Nat.le_of_not_lt fun q=>?_;have q':(n:Int) < ((ns.length:Nat):Int):=by omega
    first
      | (rw [decide_eq_true q'] at h5; exact absurd h5 (by decide))
      | (simp at h5; omega)
  cases hwl with
  | cons w1 w2 =>
    cases w2;cases w1 with
    | list ho az=>exact ⟨_,_,ns,rfl,rfl,ho,Em ns _ az,ay⟩
theorem Jq (l:OpenLaw) (args:List WData):l.row.toRowW.claim.post args (.bool true) args=true :=
 postW_of (r:=l.row.toRowW) (X:=(true == true))
  (show WShape.has [] (.bool true) .bool=true by first | rfl | decide | simp [WShape.has,WShape.arms,WShape.armsAll])
  (show (WTm.eq .res (.lit (.bool true))).value [] { args:=args,res:=some (.bool true),after:=args }=some (.bool (true == true)) from w_eq_bool (w_res rfl) w_lit) rfl
theorem attach_call {l:OpenLaw} {n:Nat} {q:Program} {loose:List Str} {XP:(Str->Option Value)->Heap->Prop} {YP:World->Heap->Prop} {d:DefRec}
  (hn:l.most=some n) (hdf:d.params.defaults=[])
  (call:∀ (w:World) (s₀ s₁:Shared) (mg mb:SV) (fa:Addr) (o:Obj) (pm cd doc:Value) (a:Addr) (vs:List Value) (ns:List Int),
   Ground q loose [] XP w s₀ mg mb s₁.heap->YP w s₁.heap ->
   s₁.heap.get? fa=some o->o.data=.func (docDef d.name d.params d.body d.scope pm cd doc)->s₁.heap.CodeRec cd d.name->mg d.name=some (.ref fa) ->
   s₁.heap.get? a=some { cls:=.type "list", data:=.seq vs.toArray }->IntsAre vs ns->ns.length <= n->s₁.gens=#[] ->
   codeAny (model l.prog w) callerA (.call (.ref fa) ⟨[.ref a],[]⟩) (fun r s'=>r=.ok (.ret (.bool true))/\OldK s₁.heap s'.heap/\s'.os=s₁.os/\AllBare s'.gens) s₁) :
  WalkO q loose XP YP l.row.toRowW d [] (fun f vs=>PySem.call f vs):=by
 intro w s₀ s₁ mg mb G Y fa o pm cd doc dV kV ho hd hcd hD hmg hg args vals as bf hlay hrd hwl hlo;obtain rfl:dV=.none:=Dflts.none hD hdf;obtain rfl:kV=.none:=Dflts.noKw hD;obtain ⟨a,vs,ns,rfl,rfl,bp,a5,ay⟩:=Jp hn bf hwl;refine enter_call (codeAny_mono (call w s₀ s₁ mg mb fa o pm cd doc a vs ns G Y ho (fd_plain hd) hcd hmg bp a5 ay hg) fun r s' hq=>?_);obtain ⟨rfl,h2,h3,h4⟩:=hq;exact ⟨.inl ⟨.bool true,.bool true,[],rfl,fun _=>rfl,.bool true,Jq l _,fun _=>⟨List.Pairwise.nil,fun _ hm=>(nomatch hm)⟩⟩,h2,h3,h4⟩
end Att
namespace L2
open PySem PySem.Spec PyProof.Rows
theorem DF:∀ {vs:List Value} {ns:List Int},IntsAre vs ns->Vals (ns.map V.int) vs
 | _,_,.nil=>.nil
 | _,_,.cons n t h=>.cons ⟨t,rfl⟩ (DF h)
end L2
namespace L2
open PySem PySem.Spec PyProof.Rows
def inClass (s:Stmt) (j:Nat):Stmt:=match s with
 | .ClassDef _ _ _ body _ _ _ _ _ _ _=>body.getD j (.Pass ⟨0,0,0,0⟩)
 | _=>.Pass ⟨0,0,0,0⟩
def defArgs (s:Stmt):Arguments:=match s with
 | .FunctionDef _ a _ _ _ _ _ _ _ _=>a
 | _=>{ posonlyargs:=[],args:=[],vararg:=none,kwonlyargs:=[],kw_defaults:=[],kwarg:=none,defaults:=[] }
def defBody (s:Stmt):List Stmt:=match s with
 | .FunctionDef _ _ b _ _ _ _ _ _ _=>b
 | _=>[]
def defScope (s:Stmt):Scope:=match s with
 | .FunctionDef _ _ _ _ _ _ sc _ _ _=>sc
 | _=>{ kind:=.function,names:=[],isGenerator:=false,isCoroutine:=false }
abbrev CX0:CXT:=fun _ _ _ _ _ _=>False
abbrev E0:XK:=fun _ _ _=>False
theorem AL:CD CX0 X E0:=fun _ _ _ _ _ _ _ h=>h.elim
structure Fun (K:FG) (x qual:Str) (st:Stmt) (f:Addr) (fd:FuncData):Prop where
 ex:∃ (oc:Value) (od:Option Addr) (kV doc pm:Value) (an:Option Addr) (ac ct:Value) (osl:Array (Option Value)),
  fd=W.fnOf x qual (defArgs st) (defBody st) (defScope st) .none kV doc pm an ac ct/\K.lookup f=some ⟨oc,od,.func fd,osl⟩/\W.codeIn K ac qual=true
 kp:W.keepIn K (.ref f)=true
section
theorem Fun.ok {qual:Str} {st:Stmt} {fd:FuncData} {ps:List Str} {k:Nat} {sp:Sp} (F:Fun K x qual st f fd) (S:AK N ps (defScope st)) (len:∀ vs H Q E,sp vs H Q E->vs.length=ps.length)
  (bo:∀ (ac:Value) (A:Around) (outer:List Env) (s:Shared) (H:Hp) (vs:List V) (Q:VK) (E:XK),Room k (A.deeper (envOfC qual (defScope st) s.heap.objs.size f ac))->sp vs H Q E ->
   ∃ t,PSs (Jk CX0 P w K mg base N qual (defScope st) f ac A outer s H E).nox (defBody st) t/\t { nx:=fun _ H'=>Q .non H',rt:=Q } (Ej N vs) H):AX P w K mg base CX0 (k + 1) f fd ps sp:=by
 obtain ⟨oc,od,kV,doc,pm,an,ac,ct,osl,rfl,lk,hcd⟩:=F.ex;refine O6 lk hcd S len fun A outer s H vs Q E hr hsp=>?_;obtain ⟨t,h,q⟩:=bo ac A outer s H vs Q E hr hsp;exact ⟨t,h.nox,q⟩
theorem Fun.binds {qual:Str} {st:Stmt} {fd:FuncData} {ps:List Str} (F:Fun K x qual st f fd)
  (h:∀ (kV doc pm:Value) (an:Option Addr) (ac ct:Value) (us:List Value),us.length=ps.length->bindArgs (W.fnOf x qual (defArgs st) (defBody st) (defScope st) .none kV doc pm an ac ct) ⟨us,[]⟩=pure (ps.zip us)):Binds K fd ps []:=by
 obtain ⟨oc,od,kV,doc,pm,an,ac,ct,osl,rfl,lk,hcd⟩:=F.ex;exact .all (h kV doc pm an ac ct)
theorem fun_mk {qual:Str} {st:Stmt} {oc:Value} {od an:Option Addr} {osl:Array (Option Value)} {kV doc pm ac ct:Value} (l:K.lookup f=some ⟨oc,od,.func (W.fnOf x qual (defArgs st) (defBody st) (defScope st) .none kV doc pm an ac ct),osl⟩)
  (c:W.codeIn K ac qual=true) (k:W.keepIn K (.ref f)=true):Fun K x qual st f (W.fnOf x qual (defArgs st) (defBody st) (defScope st) .none kV doc pm an ac ct):=⟨⟨oc,od,kV,doc,pm,an,ac,ct,osl,rfl,l,c⟩,k⟩
end
theorem Ck {k:Nat} (hr:Room k A):A.units + 1 < cLine:=Nat.lt_of_le_of_lt (Nat.add_le_add_left (by decide:1 <= 64) _) hr.units
theorem AQ {n:Nat} (h:n <= 1000):n < sizeLine:=Nat.lt_of_le_of_lt h (by decide)
section
theorem pv (i:Nat) (hN:X.N[i]?=some x:=by rfl) (hv:Vis X.env.scope x:=by first | exact Or.inl rfl | exact Or.inr (Or.inl rfl) | exact Or.inr (Or.inr rfl)) (hd:(x == ("__debug__" : Str))=false:=by decide)
  (hcd:(x == ("__classdict__" : Str))=false:=by decide):PE X (.Name x pos) (Os i):=Nv hN hv hd hcd
end
theorem Af {A B:Prop} (h:B):if false=true then A else B:=by
 rw [if_neg Bool.false_ne_true];exact h
theorem Az {A B:Prop} (h:A):if true=true then A else B:=by
 rw [if_pos rfl];exact h
theorem BS {c A B:Prop} [Decidable c] (h1:c->A) (h2:¬ c->B):if c then A else B:=by
 by_cases h:c
 ·rw [if_pos h];exact h1 h
 ·rw [if_neg h];exact h2 h
theorem Kv {c A B:Prop} [Decidable c] (hc:c) (h:B):if (!decide c)=true then A else B:=by
 rw [decide_eq_true hc];exact Af h
def Same (H H':Hp):Prop:=∀ b o,H b=some o->H' b=some o
theorem Same.refl (H:Hp):Same H H:=fun _ _ h=>h
theorem Same.trans {H1 H2:Hp} (a:Same H H1) (b:Same H1 H2):Same H H2:=fun c o h=>b c o (a c o h)
theorem Same.seq (e:Same H H') (h:SqL K H a xs):SqL K H' a xs:=by
 rcases h with (h | ⟨o,h⟩) | h
 ·exact .inl (.inl (e _ _ h))
 ·exact .inl (.inr ⟨o,e _ _ h⟩)
 ·exact .inr h
section
variable {κ:Type} [DecidableEq κ]
theorem JH:∀ {l:List κ} {k:κ},l.Nodup->¬ k ∈ l->(l++[k]).Nodup
 | [],k,_,_=>by simp
 | a :: r,k,h,hk=>by
  obtain ⟨h1,h2⟩:=nodup_cons.mp h;show (a :: (r++[k])).Nodup;refine nodup_cons.mpr ⟨fun m=>?_,JH h2 fun m=>hk (mem_cons.mpr (Or.inr m))⟩;rcases mem_append.mp m with q | q
  ·exact h1 q
  ·exact hk (mem_cons.mpr (Or.inl (mem_singleton.mp q).symm))
end
end L2
end
section
variable {X:L2.Cx} {H:L2.Hp} {H':L2.Hp} {s:PySem.Shared} {pos:PySem.Pos} {σ:L2.St} {P:PySem.Program} {w:PySem.World} {A:PySem.Around} {aa:LO} {x:PySem.Str} {a:PySem.Addr} {K:FG} {C:PySem.Addr} {E:VS} {h:PySem.Heap} {us:List PySem.Value} {f:PySem.Addr} {u:PySem.Value} {xs:List L2.V} {e:PySem.Expr} {te:L2.TE} {base:PySem.Heap} {N:List PySem.Str} {mg:SV}
section
namespace L2
open PySem PySem.Spec PyProof.Rows
theorem Inv.track {o:HO} (I:Inv X aa σ H s) (hn:H a=none) (hL:a ≠ X.env.locals) (h1:a ∈ X.ex\/X.s₀.heap.objs.size <= a)
  (h2:∀ x c,X.env.cells.lookup x=some c->c ≠ a) (h3:∀ p ∈ X.pn++aa,p.1 ≠ a) (new:ObjOk X.prog X.w (upd H a o) s.heap a o):Inv X aa σ (upd H a o) s:=by
 have av:∀ b u,H b=some u->b ≠ a:=fun b u e=>AH e hn
 refine I.step (h':=s.heap) (H':=upd H a o) (g':=s.gens) (t':=s.toks) (d':=s.drawn) (ch:=[a])
  (fun b hb=>by have e:b=a:=by simpa using hb
                subst e; exact ⟨h1,hL,h2,h3⟩)
  (fun b o _ _ _ e _=>e) (fun b o _ _ _ e _=>⟨o.slots,e⟩) (fun b o hc e n=>by rw [AF (by simpa using hc)]; exact n)
  (fun b o _ e=>⟨o,e⟩) (fun b xs e=>by rw [AF (av b _ e)]; exact e) (fun b o u e=>by rw [AF (av b _ e)]; exact e)
  (fun b ps e=>⟨#[],by rw [AF (av b _ e),e]; simp⟩) (fun m h=>h) (fun b u e=>?_) I.bare
 by_cases hb:b=a
 ·subst hb; rw [AB] at e; cases e; exact new
 ·rw [AF hb] at e;exact (I.hok b u e).stay (fun c v _ q=>q) (fun c q=>by rw [AF (av c _ q)]; exact q) fun c xs q=>by rw [AF (av c _ q)]; exact q
structure CompFits (osc sc:Scope) (N N':List Str) (ix:List (Option Nat)):Prop where
 kind:sc.kind=.function
 nocell:∀ y ∈ sc.names,y.2 ≠ .cell
 free:∀ y ∈ sc.names,y.2=.free->osc.names.lookup y.1=some .cell\/osc.names.lookup y.1=some .free
 loc:∀ y ∈ sc.names,y.2=.local->sc.names.lookup y.1=some .local
 len:ix.length=N'.length
 slot:∀ (j:Nat) (x:Str) (i:Nat),N'[j]?=some x->ix[j]?=some (some i)->N[i]?=some x/\sc.names.lookup x=some .free
def Ni (sc:Scope) (N:List Str) (x:Str):Option Nat->Bool
 | none=>true
 | some i=>decide (N[i]?=some x) && decide (sc.names.lookup x=some .free)
def CV (sc:Scope) (N:List Str):List Str->List (Option Nat)->Bool
 | [],[]=>true
 | x :: r,o :: os=>Ni sc N x o && CV sc N r os
 | _,_=>false
def Fp (osc sc:Scope) (N N':List Str) (ix:List (Option Nat)):Bool :=
 decide (sc.kind=.function) && (sc.names.all fun y=>decide (y.2 ≠ .cell) && (decide (y.2 ≠ .free) || decide (osc.names.lookup y.1=some .cell) || decide (osc.names.lookup y.1=some .free)) &&
  (decide (y.2 ≠ .local) || decide (sc.names.lookup y.1=some .local))) && CV sc N N' ix
theorem E8 {sc:Scope} {N:List Str}:∀ {N':List Str} {ix:List (Option Nat)},CV sc N N' ix=true->ix.length=N'.length
 | [],[],_=>rfl
 | [],_ :: _,h=>by simp [CV] at h
 | _ :: _,[],h=>by simp [CV] at h
 | x :: r,o :: os,h=>by
  simp only [CV,Bool.and_eq_true] at h;simp only [length_cons,E8 h.2]
theorem Fq {sc:Scope} {N:List Str}:∀ {N':List Str} {ix:List (Option Nat)},CV sc N N' ix=true->∀ (j:Nat) (x:Str) (i:Nat),N'[j]?=some x->ix[j]?=some (some i)->N[i]?=some x/\sc.names.lookup x=some .free
 | [],_,_,_,_,_,e,_=>by simp at e
 | _ :: _,[],h,_,_,_,_,_=>by simp [CV] at h
 | y :: r,o :: os,h,j,x,i,e1,e2=>by
  simp only [CV,Bool.and_eq_true] at h;cases j with
  | zero =>
   simp only [List.getElem?_cons_zero,Option.some.injEq] at e1 e2;subst e1 e2;have h1:=h.1;simp only [Ni,Bool.and_eq_true,decide_eq_true_eq] at h1;exact h1
  | succ j =>
   simp only [List.getElem?_cons_succ] at e1 e2;exact Fq h.2 j x i e1 e2
theorem CompFits.of {osc sc:Scope} {N':List Str} {ix:List (Option Nat)} (h:Fp osc sc N N' ix=true):CompFits osc sc N N' ix:=by
 simp only [Fp,Bool.and_eq_true,decide_eq_true_eq,List.all_eq_true,Bool.or_eq_true] at h;obtain ⟨⟨h1,h2⟩,h3⟩:=h;refine ⟨h1,fun y hy=>(h2 y hy).1.1,fun y hy e=>?_,fun y hy e=>?_,E8 h3,Fq h3⟩
 ·rcases (h2 y hy).1.2 with (z | z) | z
  ·exact absurd e z
  ·exact .inl z
  ·exact .inr z
 ·rcases (h2 y hy).2 with z | z
  ·exact absurd e z
  ·exact z
abbrev DW (env:Env):Str × NameKind->Str × NameKind:=fun (n,k)=>if (k == NameKind.free && env.scope.kind == .function && env.kindOf n == some .cell) then (n,NameKind.cell) else (n,k)
theorem G9 (env:Env) (y:Str × NameKind):(DW env y).1=y.1:=by
 obtain ⟨n,k⟩:=y; simp only [DW]; split <;> rfl
theorem Jr (env:Env) (n:Str):(DW env (n,.free)).2=.cell\/(DW env (n,.free)).2=.free:=by
 simp only [DW]; split
 ·exact .inl rfl
 ·exact .inr rfl
theorem Ml (env:Env) (y:Str × NameKind) (h:y.2 ≠ .free):DW env y=y:=by
 obtain ⟨n,k⟩:=y;have e:(k == NameKind.free)=false:=by simpa using h
 simp only [DW,e,Bool.false_and,Bool.false_eq_true,if_false]
theorem DP {env:Env}:∀ {names:List (Str × NameKind)} {x:Str},names.lookup x=some .free->(names.map (DW env)).lookup x=some .cell\/(names.map (DW env)).lookup x=some .free
  | [],_,h=>by simp at h
  | (n,k) :: r,x,h=>by
    rw [map_cons]
    have e:DW env (n,k)=(n,(DW env (n,k)).2):=by
      have:=G9 env (n,k);exact Prod.ext this rfl
    rw [e];cases hx:x == n with
    | true =>
      simp only [lookup_cons,hx] at h ⊢;cases h;rcases Jr env n with z | z
      · rw [z]; exact .inl rfl
      · rw [z]; exact .inr rfl
    | false =>
      simp only [lookup_cons,hx] at h ⊢;exact DP h
theorem Ek {env:Env}:∀ {names:List (Str × NameKind)} {x:Str},(∀ y ∈ names,y.2 ≠ .cell)->((names.map (DW env)).lookup x=some .cell\/(names.map (DW env)).lookup x=some .free)->(x,NameKind.free) ∈ names
  | [],_,_,h=>by simp at h
  | (n,k) :: r,x,hc,h=>by
    rw [map_cons] at h;have e:DW env (n,k)=(n,(DW env (n,k)).2):=Prod.ext (G9 env (n,k)) rfl;rw [e] at h;cases hx:x == n with
    | true =>
      simp only [lookup_cons,hx] at h;have exn:x=n:=by simpa using hx
      subst exn;by_cases hk:k=.free
      · subst hk; exact mem_cons_self
      · rw [Ml env (x,k) hk] at h
        rcases h with z | z
        · have:k=.cell:=by simpa using z
          exact absurd this (hc (x,k) mem_cons_self)
        · have:k=.free:=by simpa using z
          exact absurd this hk
    | false =>
      simp only [lookup_cons,hx] at h;exact mem_cons_of_mem _ (Ek (fun y hy=>hc y (mem_cons_of_mem _ hy)) h)
theorem GY {env:Env} {f:Str × NameKind->List (Str × Addr)->Sem (ForInStep (List (Str × Addr)))}
  (h1:∀ y acc,y.2 ≠ .free->f y acc=pure (.yield acc)) (h2:∀ y acc c,y.2=.free->env.cells.lookup y.1=some c->f y acc=pure (.yield ((y.1,c) :: acc))) :
  ∀ (names:List (Str × NameKind)) (acc:List (Str × Addr)),(∀ y ∈ names,y.2=.free->∃ c,env.cells.lookup y.1=some c)->(∀ x c,acc.lookup x=some c->env.cells.lookup x=some c) ->
   ∃ cl,forIn names acc f=(pure cl:Sem _)/\(∀ x c,cl.lookup x=some c->env.cells.lookup x=some c)/\(∀ y ∈ names,y.2=.free->∃ c,cl.lookup y.1=some c)/\∀ x c,acc.lookup x=some c->∃ c',cl.lookup x=some c'
 | [],acc,_,ha=>⟨acc,rfl,ha,fun _ hy=>(nomatch hy),fun x c e=>⟨c,e⟩⟩
 | y :: r,acc,hn,ha=>by
  have hr:∀ z ∈ r,z.2=.free->∃ c,env.cells.lookup z.1=some c:=fun z hz=>hn z (mem_cons_of_mem _ hz);by_cases hy:y.2=.free
  ·obtain ⟨c,hc⟩:=hn y mem_cons_self hy
   obtain ⟨cl,e,p1,p2,p3⟩:=GY h1 h2 r ((y.1,c) :: acc) hr fun x d e=>by
    cases hx:x == y.1 with
    | true =>
     simp only [lookup_cons,hx,Option.some.injEq] at e;have:x=y.1:=by simpa using hx
     rw [this,← e]; exact hc
    | false =>
     simp only [lookup_cons,hx] at e;exact ha x d e
   refine ⟨cl,by rw [List.forIn_cons,h2 y acc c hy hc,pure_bind]; exact e,p1,fun z hz hf=>?_,fun x d e=>?_⟩
   ·rcases mem_cons.mp hz with rfl | hz
    ·exact p3 z.1 c (by simp [lookup_cons])
    ·exact p2 z hz hf
   ·cases hx:x == y.1 with
    | true=>exact p3 x c (by simp [lookup_cons,hx])
    | false=>exact p3 x d (by simp only [lookup_cons,hx]; exact e)
  ·obtain ⟨cl,e,p1,p2,p3⟩:=GY h1 h2 r acc hr ha;refine ⟨cl,by rw [List.forIn_cons,h1 y acc hy,pure_bind]; exact e,p1,fun z hz hf=>?_,p3⟩;rcases mem_cons.mp hz with rfl | hz
   ·exact absurd hf hy
   ·exact p2 z hz hf
theorem Mm {env:Env} {scope:Scope} (hn:∀ y ∈ scope.names,y.2=.free->∃ c,env.cells.lookup y.1=some c) :
  ∃ cl,closureFor scope env=pure cl/\(∀ x c,cl.lookup x=some c->env.cells.lookup x=some c)/\∀ y ∈ scope.names,y.2=.free->∃ c,cl.lookup y.1=some c:=by
 obtain ⟨cl,e,p1,p2,_⟩:=GY (env:=env) (f:=fun (x:Str × NameKind) (r:List (Str × Addr))=>if (x.2 == NameKind.free)=true then (cellOf env x.1 >>= fun a=>pure (ForInStep.yield ((x.1,a) :: r))) else pure (ForInStep.yield r)) (fun y acc hy=>by
  have:(y.2 == NameKind.free)=false:=by simpa using hy
  rw [this,if_neg Bool.false_ne_true]) (fun y acc c hy hc=>by
  have h0:(y.2 == NameKind.free)=true:=by rw [hy]; rfl
  rw [if_pos h0];simp only [cellOf,hc]
  rfl) scope.names [] hn fun x c e=>by simp at e
 refine ⟨cl,?_,p1,p2⟩;have e0:closureFor scope env=(forIn scope.names [] (fun (x:Str × NameKind) (r:List (Str × Addr))=>if (x.2 == NameKind.free)=true then (cellOf env x.1 >>= fun a=>pure (ForInStep.yield ((x.1,a) :: r))) else pure (ForInStep.yield r)) >>= fun cs=>pure cs):=rfl;rw [e0,e];rfl
def Am (X:Cx) (N':List Str) (scope:Scope) (cl:List (Str × Addr)) (s:Shared) (H:Hp) (C:Addr) (fp:List Addr) (pn:LO):Cx where
 prog:=X.prog
 w:=X.w
 K:=X.K
 mg:=X.mg
 base:=X.base
 A:=X.A
 N:=N'
 s₀:=s
 H₀:=H
 env:=compEnvC scope cl C X.env
 outer:=X.stack
 stack:=X.stack
 ex:=fp
 fn:=fun _=>false
 calm:=X.calm
 pn:=pn
 xe:=fun _ _=>False
def By (ix:List (Option Nat)) (σ:St):St:=ix.map fun o=>o.bind fun i=>(σ[i]?).join
theorem Mn {ix:List (Option Nat)} {j:Nat} {v:V} (h:(By ix σ)[j]?=some (some v)):∃ i,ix[j]?=some (some i)/\σ[i]?=some (some v):=by
 unfold By at h;rw [getElem?_map] at h;cases e:ix[j]? with
 | none=>rw [e] at h; cases h
 | some o =>
  rw [e] at h;simp only [Option.map_some,Option.some.injEq] at h;cases o with
  | none=>cases h
  | some i =>
   refine ⟨i,rfl,?_⟩;simp only [Option.bind_some] at h;cases q:σ[i]? with
   | none=>rw [q] at h; cases h
   | some u=>rw [q] at h; simp only [Option.join_some] at h; rw [h]
section
variable {N':List Str} {ix:List (Option Nat)} {scope:Scope} {cl:List (Str × Addr)} {fp:List Addr}
theorem Mo (I:Inv X aa σ H s) (hf:CompFits X.env.scope scope X.N N' ix) (c1:∀ x c,cl.lookup x=some c->X.env.cells.lookup x=some c) (c2:∀ y ∈ scope.names,y.2=.free->∃ c,cl.lookup y.1=some c)
  (hC:s.heap.objs.size <= C) (hfp:∀ b ∈ fp,EL X aa H b) (hlt:∀ b ∈ fp,b < s.heap.objs.size):(Am X N' scope cl s H C fp (X.pn++aa)).Ok where
 mod:=I.mod
 kind:=hf.kind
 glob:=I.ok.glob
 blt:=I.ok.blt
 above:=hC
 inj:=fun x y c e1 e2=>I.ok.inj x y c (c1 x c e1) (c1 y c e2)
 has:=fun x h=>by
  have hm:(x,NameKind.free) ∈ scope.names:=Ek (env:=X.env) hf.nocell h;exact c2 (x,.free) hm rfl
 cab:=fun x c h=>by cases h
 hd:=I.ok.hd
 frames:=I.ok.frames
 stk:=.inl rfl
 exf:=fun b hb=>⟨Nat.ne_of_lt (Nat.lt_of_lt_of_le (hlt b hb) hC),fun x c e=>(hfp b hb).2.2.2.2.1 x c (c1 x c e)⟩
 bs:=I.bs
 bsz:=Nat.le_trans I.ok.bsz I.sz
 noex:=fun b o e hb=>by
  rcases (hfp b hb).2.2.2.1 with z | z
  ·exact I.ok.noex b o e z
  ·exact absurd (Nat.lt_of_lt_of_le (Nat.lt_of_lt_of_le (lt_size e) I.ok.bsz) z) (Nat.lt_irrefl _)
 exfs:=fun b hb z=>by
  rcases mem_cons.mp (I.stkSub b z) with e | e
  ·exact (hfp b hb).2.1 e
  ·exact (hfp b hb).2.2.1 e
 funs:=I.stack
 frf:=I.stkFree
theorem IN (I:Inv X aa σ H s) (hf:CompFits X.env.scope scope X.N N' ix) (c1:∀ x c,cl.lookup x=some c->X.env.cells.lookup x=some c) (c2:∀ y ∈ scope.names,y.2=.free->∃ c,cl.lookup y.1=some c)
  (hC:s.heap.objs.size <= C) (hfp:∀ b ∈ fp,EL X aa H b) (hlt:∀ b ∈ fp,b < s.heap.objs.size) {h₁:Heap} {tk:Nat} {m:SV} (old:∀ b o,s.heap.get? b=some o->h₁.get? b=some o) (hns:h₁.Ns C m) :
  Inv (Am X N' scope cl s H C fp (X.pn++aa)) [] (By ix σ) H { s with heap:=h₁,toks:=tk } where
 ok:=Mo I hf c1 c2 hC hfp hlt
 os:=rfl
 bare:=I.bare
 base:=Un.kept old
 loc:=⟨m,hns,fun j x v e1 e2 e3=>by
  obtain ⟨i,ei,ev⟩:=Mn e2;obtain ⟨hN,a9⟩:=hf.slot j x i e1 ei;obtain ⟨mX,_,hl⟩:=I.loc
  have hm:(x,NameKind.free) ∈ scope.names:=by
   have:∀ {l:List (Str × NameKind)} {k:NameKind},l.lookup x=some k->(x,k) ∈ l:=fun {l k}=>by
    induction l with
    | nil=>intro e; simp at e
    | cons y r ih =>
     intro e;obtain ⟨n,kk⟩:=y;cases hx:x == n with
     | true =>
      simp only [lookup_cons,hx,Option.some.injEq] at e;have:x=n:=by simpa using hx
      subst this e;exact mem_cons_self
     | false =>
      simp only [lookup_cons,hx] at e;exact mem_cons_of_mem _ (ih e)
   exact this a9
  have hk:=hf.free _ hm rfl;obtain ⟨u,r,q⟩:=hl i x v hN ev (.inr hk);refine ⟨u,r,.inr ⟨DP (env:=X.env) a9,?_⟩⟩;obtain ⟨c,hc⟩:=c2 _ hm rfl;refine ⟨c,hc,?_⟩;rcases q with ⟨k,_⟩ | ⟨_,c',hc',z⟩
  ·have k':X.env.scope.names.lookup x=some .local:=k;rcases hk with a | a <;> (rw [k'] at a; cases a)
  ·rw [c1 x c hc] at hc';cases hc'
   exact z.keeps old⟩
 cell:=fun x c e=>by
  obtain ⟨v,z⟩:=I.cell x c (c1 x c e);exact ⟨v,z.keeps old⟩
 free:=I.hok.fresh hC
 freeC:=fun x c e=>I.freeC x c (c1 x c e)
 pin:=fun p hp=>by
  have hp':p ∈ X.pn++aa:=by
   have z:=hp;rw [append_nil] at z;exact z
  obtain ⟨e,n,ne,nf,d⟩:=I.pin p hp';refine ⟨old _ _ e,n,Nat.ne_of_lt (Nat.lt_of_lt_of_le (lt_size e) hC),fun z=>?_,d⟩;rcases mem_cons.mp (I.stkSub p.1 z) with q | q
  ·exact ne q
  ·exact nf q
 hok:=I.hok.kept old
 len:=by
  show (By ix σ).length=N'.length;unfold By;rw [length_map]; exact hf.len
theorem Js {pins':LO} {σ':St} {s':Shared} (I:Inv X aa σ H s) (hfp:∀ b ∈ fp,EL X aa H b) (J:Inv (Am X N' scope cl s H C fp (X.pn++aa)) pins' σ' H' s'):Inv X aa σ H' s' :=
 I.call' (ch:=fp) J.os J.base J.hok J.bare fun b hb=>⟨(hfp b hb).2.2.2.1,(hfp b hb).2.1,(hfp b hb).2.2.2.2.1,(hfp b hb).2.2.2.2.2⟩
end
def PTs (X:Cx) (ifs:List Expr) (t:TT):Prop :=
 ∀ (aa:LO) (s:Shared) (σ:St) (H:Hp) (Q:Bool->Hp->Prop),Inv X aa σ H s->t σ H Q ->
  wpAny (model X.prog X.w) X.A (forIn ifs true fun c r=>if r=true then do let ok ← isTrue c X.env (eval c X.env); pure (ForInStep.yield ok) else pure (ForInStep.yield r)) (TP X aa σ Q) X.xe s
def QD:TT:=fun _ H Q=>Q true H
theorem Bd:PTs X [] QD:=fun aa s σ H Q I h=>wpAny_tests_nil ⟨H,I,h⟩
theorem DH {c:Expr} {t:TT} (h:PT X c t):PTs X [c] t:=fun aa s σ H Q I q=>wpAny_tests_one (h aa s σ H Q I q)
def Cy (wi:TI) (g:TG) (tt:TT) (te:TE) (ix:List (Option Nat)) (R:List V->Hp->Prop):St->Hp->Prop:=fun σ H=>wi σ H fun J H1=>∃ W:Nat->Nat->List V->Hp->Prop,(∃ m,W 0 m [] H1)/\∀ i m ys H,W i m ys H ->
 (J.stop i H/\ys.length <= sizeLine/\R ys H) \/
 (J.go i H/\∃ N:List V->Hp->Prop,(∀ ys' H',N ys' H'->ys'.length <= sizeLine/\∃ m',m' < m/\W (i + 1) m' ys' H') /\
  ∀ x H',J.yld i H x H'->g x (By ix σ) H' fun σ2 H2=>tt σ2 H2 fun b H3=>if b=true then te σ2 H3 fun y H4=>N (ys++[y]) H4 else N ys H3)
def PGk (X:Cx) (tg:Expr) (ix:List (Option Nat)) (g:TG):Prop :=
 ∀ (aa:LO) (s:Shared) (σ:St) (H:Hp) (v:V) (u:Value) (Q:St->Hp->Prop),Inv X aa (By ix σ) H s->RelV v u->g v (By ix σ) H Q ->
  wpAny (model X.prog X.w) X.A (assign tg X.env u) (fun _ s'=>∃ σ' H',Inv X aa σ' H' s'/\(∀ (j:Nat) (v:V),(By ix σ)[j]?=some (some v)->σ'[j]?=some (some v))/\Q σ' H') X.xe s
theorem HA {ixc:List (Option Nat)} (h:PG X (.Name x pos) (Ch 0)):PGk X (.Name x pos) (none :: ixc) (Ch 0):=by
 intro aa s σ H v u Q I r q;refine thn (h aa s _ H v u (fun σ' H'=>(∀ (j:Nat) (v:V),(By (none :: ixc) σ)[j]?=some (some v)->σ'[j]?=some (some v))/\Q σ' H') I r ⟨fun j w e=>?_,q⟩) fun _ s' ⟨σ',H',I',k,q⟩=>⟨σ',H',I',k,q⟩;cases j with
 | zero=>cases e
 | succ j=>exact e
theorem HB {tg:Expr} {ixc:List (Option Nat)} (h:PG X tg (MW K 2 (Ex (Ch 0) (Ex (Ch 1) MU)))):PGk X tg (none :: none :: ixc) (MW K 2 (Ex (Ch 0) (Ex (Ch 1) MU))):=by
 intro aa s σ H v u Q I r q;obtain ⟨a,xs,e1,e2,e3,v1,r1,e4,v2,r2,e5,e6,q⟩:=q;refine thn (h aa s _ H v u (fun σ' H'=>(∀ (j:Nat) (v:V),(By (none :: none :: ixc) σ)[j]?=some (some v)->σ'[j]?=some (some v))/\Q σ' H') I r ⟨a,xs,e1,e2,e3,v1,r1,e4,v2,r2,e5,e6,fun j w e=>?_,q⟩) fun _ s' ⟨σ',H',I',k,q⟩=>⟨σ',H',I',k,q⟩
 match j with
 | 0=>cases e
 | 1=>cases e
 | j + 2=>exact e
structure PM (RD:Cx->Prop) (P:Program) (w:World) (K:FG) (tg:Expr) (J:It) (fp:List Addr) (it:Addr) (tn:Nat->Heap->Prop):Prop where
 obj:∀ i h,tn i h->∀ b ∈ fp,∃ o,h.get? b=some o/\∀ v,o.data ≠ .cell v
 keep:∀ i h h',tn i h->(∀ b ∈ fp,∀ o,h.get? b=some o->h'.get? b=some o)->tn i h'
 item:∀ (X:Cx),X.prog=P->X.w=w->X.K=K->RD X->∀ (i:Nat) (aa:LO) (s:Shared) (σ:St) (H:Hp) (E:VS),Inv X aa σ H s->(∀ b ∈ fp,EL X aa H b)->tn i s.heap->J.go i H ->
  wpAny (model P w) X.A (pyNext (.ref it)) (fun r s1=>∃ u,r=some u/\wpAny (model P w) X.A (letOwnedTupleGo tg (.ref it) u) (fun _ s2=>∃ x H',Inv X aa σ H' s2/\RelV x u/\J.yld i H x H'/\tn (i + 1) s2.heap/\∀ b ∈ fp,H' b=none) E s1) E s
 done:∀ (X:Cx),X.prog=P->X.w=w->X.K=K->RD X->∀ (i:Nat) (aa:LO) (s:Shared) (σ:St) (H:Hp) (E:VS),Inv X aa σ H s->(∀ b ∈ fp,EL X aa H b)->tn i s.heap->J.stop i H ->
  wpAny (model P w) X.A (pyNext (.ref it)) (fun r s1=>r=none/\Inv X aa σ H s1) E s
 self:∀ (A:Around) (i:Nat) (s:Shared) (Q:VS) (E:VS),tn i s.heap->Q (.ref it) s->wpAny (model P w) A (pyIter (.ref it)) Q E s
def PIg (RD:Cx->Prop) (X:Cx) (tg iter:Expr) (wi:TI):Prop:=∀ (aa:LO) (s:Shared) (σ:St) (H:Hp) (R:It->Hp->Prop),Inv X aa σ H s->wi σ H R ->
 wpAny (model X.prog X.w) X.A (eval iter X.env) (fun v s1=>wpAny (model X.prog X.w) X.A (pyIter v) (fun itv s2=>∃ (it:Addr) (fp:List Addr) (tn:Nat->Heap->Prop) (J:It) (H':Hp),itv=.ref it/\Inv X aa σ H' s2/\PM RD X.prog X.w X.K tg J fp it tn/\tn 0 s2.heap/\(∀ b ∈ fp,EL X aa H' b)/\R J H') X.xe s1) X.xe s
theorem PI.g {tg iter:Expr} {wi:TI} (h:PI X tg iter wi):PIg (fun X=>X.calm=true) X tg iter wi:=fun aa s σ H R I q =>
 thn (h aa s σ H R I q) fun v s1 z=>thn z fun itv s2 ⟨it,fp,tn,J,H',e,I',T,r⟩=>⟨it,fp,tn,J,H',e,I',⟨T.obj,T.keep,T.item,T.done,T.self⟩,r⟩
section
variable {tg iter elt:Expr} {ifs:List Expr} {scope:Scope} {pos':Pos} {N':List Str} {ix:List (Option Nat)} {wi:TI} {g:TG} {tt:TT}
theorem ER {α:Type} {M:Model} {t:Sem α} {Q:α->Shared->Prop} (h:wpAny M A t Q (fun _ _=>False) s):wpAny M A t Q E s :=
 wpAny_mono h (fun _ _ q=>q) fun _ _ z=>z.elim
theorem Fs {RD:Cx->Prop} {use:Option (Value->Sem Unit)} {Qv:VS} (hf:CompFits X.env.scope scope X.N N' ix) (hc:∀ cl s H C fp aa,RD (Am X N' scope cl s H C fp (X.pn++aa))) (hi:PIg RD X tg iter wi)
  (hg:∀ cl s H C fp pn,PGk (Am X N' scope cl s H C fp pn) tg ix g) (ht:∀ cl s H C fp pn,PTs (Am X N' scope cl s H C fp pn) ifs tt) (he:∀ cl s H C fp pn,PE (Am X N' scope cl s H C fp pn) elt te)
  (hs:∀ x,foldedSetIterable iter X.env x=pure x) {aa:LO} {s:Shared} {σ:St} {H:Hp} {R:List V->Hp->Prop} (I:Inv X aa σ H s) (h:Cy wi g tt te ix R σ H)
  (hpost:∀ s' ys H' D C m,Inv X aa σ (upd H' D (.lst ys)) s'->R ys H'->H' D=none->s'.heap.Ns C m->X.s₀.heap.objs.size <= C->C ≠ X.env.locals->(∀ x c,X.env.cells.lookup x=some c->c ≠ C)->(∀ p ∈ X.pn++aa,p.1 ≠ C) ->
   upd H' D (.lst ys) C=none->compPost (model X.prog X.w) X.A X.xe use Qv (.ref D) C (.ok .next) s') :
  wpAny (model X.prog X.w) X.A (comprehension (.ListComp elt [⟨tg,iter,ifs,0⟩] scope pos) scope X.env pos' (newList []) false (eval iter X.env) use) Qv X.xe s:=by
 obtain ⟨cl,hclos,c1,c2⟩:=Mm (env:=X.env) (scope:=scope) fun y hy hyf=>by
  have:=hf.free y hy hyf;exact I.ok.has y.1 this
 refine wpAny_comprehension_free (use:=use) rfl hs hclos hf.kind hf.loc (thn (hi aa s σ H _ I h) fun v s1 h1=>thn h1 fun itv s2 h2=>?_);obtain ⟨it,fp,tn,J,H2,e,I2,T,st2,f2,W,⟨m0,w0⟩,turn⟩:=h2;subst e
 have hlt:∀ b ∈ fp,b < s2.heap.objs.size:=fun b hb=>by
  obtain ⟨o,e,_⟩:=T.obj _ _ st2 b hb;exact lt_size e
 refine wpAny_newObj_type (wpAny_newFunctionEnv hf.nocell (by intro y hy; simp at hy) (fun h₁ hns₁ hsb₁=>?_) hf.kind)
 dsimp only at hns₁ hsb₁ ⊢
 generalize hH2:s2.heap.push { cls:=.type "list", dict:=none,data:=.seq ([]:List Value).toArray }=HP at hns₁ hsb₁ ⊢;have hC:HP.objs.size=s2.heap.objs.size + 1:=by rw [← hH2,size_push]
 have hDC:s2.heap.objs.size ≠ HP.objs.size:=by rw [hC]; exact Nat.ne_of_lt (Nat.lt_succ_self _)
 have hCle:s2.heap.objs.size <= HP.objs.size:=by rw [hC]; exact Nat.le_succ _
 have hCne:∀ b,b < s2.heap.objs.size->b ≠ HP.objs.size:=fun b hb=>by rw [hC]; exact Nat.ne_of_lt (Nat.lt_succ_of_lt hb)
 have old:∀ b o,s2.heap.get? b=some o->h₁.get? b=some o:=fun b o e=>hsb₁.extBut b o (hCne b (lt_size e)) (get?_push_of_some _ (hH2 ▸ get?_push_of_some _ e));have bq:h₁.get? s2.heap.objs.size=some { cls:=.type "list", dict:=none,data:=.seq ([]:List Value).toArray }:=hsb₁.extBut _ _ hDC (get?_push_of_some _ (hH2 ▸ get?_push_size _ rfl));generalize hCC:HP.objs.size=C at *;generalize hDD:s2.heap.objs.size=D at *;have IX:=IN (N':=N') (fp:=fp) I2 hf c1 c2 (by rw [hDD]; exact hCle) f2 (by rw [hDD]; exact hlt) (tk:=s2.toks + ([]:List (Str × Value)).length) old hns₁;have hDn:H2 D=none:=I2.hok.fresh (by rw [hDD]; exact Nat.le_refl _)
 have hDfs:D ∉ frs X.stack:=fun z=>by
  rcases mem_cons.mp (I2.stkSub D z) with q | q
  ·have:=I2.lt; rw [← q,hDD] at this; exact Nat.lt_irrefl _ this
  ·exact I2.nofs (by rw [hDD]; exact Nat.le_refl _) q
 have cellLt:∀ x c,X.env.cells.lookup x=some c->c < D:=fun x c e=>by
  obtain ⟨v,z⟩:=I2.cell x c e;rw [← hDD]; exact z.lt
 have pinLt:∀ p ∈ X.pn++aa,p.1 < D:=fun p hp=>by rw [← hDD]; exact lt_size (I2.pin p hp).1
 have s0D:X.s₀.heap.objs.size <= D:=by rw [← hDD]; exact I2.sz
 have locLt:X.env.locals < D:=by rw [← hDD]; exact I2.lt
 let X':Cx:=Am X N' scope cl s2 H2 C fp (X.pn++aa)
 have stat:∀ {H':Hp} {ob:Obj},(∀ b ∈ fp,H' b=none)->∀ b ∈ fp,EL X' [(D,ob)] H' b:=fun {H' ob} hn b hb=>by
  refine ⟨hn b hb,Nat.ne_of_lt (Nat.lt_of_lt_of_le (hlt b hb) hCle),fun z=>?_,.inl hb,fun x c e=>(f2 b hb).2.2.2.2.1 x c (c1 x c e),fun p hp=>?_⟩
  ·exact IX.ok.exfs b hb z
  ·rcases mem_append.mp hp with z | z
   ·exact (f2 b hb).2.2.2.2.2 p z
   ·have e:p=(D,ob):=by simpa using z
    subst e;exact Nat.ne_of_gt (hlt b hb)
 have pinD:∀ {σ':St} {H':Hp} {s':Shared} {ob:Obj},Inv X' [] σ' H' s'->s'.heap.get? D=some ob->H' D=none->(∀ v,ob.data ≠ .cell v)->Inv X' [(D,ob)] σ' H' s':=fun {σ' H' s' ob} Ia e n d =>
  Ia.pins_of fun p hp=>by
   have q:p=(D,ob):=by simpa using hp
   subst q;exact ⟨e,n,hDC,hDfs,d⟩
 have loop:∀ s3:Shared,s3={ s2 with heap:=h₁,toks:=s2.toks + ([]:List (Str × Value)).length } ->
   codeAny (model X.prog X.w) X.A (.compLoop (.ListComp elt [⟨tg,iter,ifs,0⟩] scope pos) 0 (.ref it) (.ref D) (compEnvC scope cl C X.env)) (compPost (model X.prog X.w) X.A X.xe use Qv (.ref D) C) s3:=by
  rintro s3 rfl
  refine codeAny_loop rfl (fun n s'=>∃ i ys its k H',Inv X' [(D,({ cls:=.type "list", data:=.seq (List.toArray its) k }:Obj))] (By ix σ) H' s'/\tn i s'.heap/\(∀ b ∈ fp,H' b=none)/\W i n ys H'/\Vals ys its)
   (fun n s4 hI=>?_) m0 ⟨0,[],[],_,H2,pinD IX bq hDn (fun v z=>by cases z),T.keep _ _ _ st2 (fun b _ o e=>old b o e),fun b hb=>(f2 b hb).1,w0,.nil⟩
  obtain ⟨i,ys,its,k,H4,I4,st4,fr4,w4,rv⟩:=hI;show wpAny _ X.A ((compTurn (.ListComp elt [⟨tg,iter,ifs,0⟩] scope pos) 0 (.ref it) (.ref D) (compEnvC scope cl C X.env)).onRaise (fun x=>do noteFrame x (compEnvC scope cl C X.env); theTreesLotGoes x)) _ _ s4;refine wpAny_noted ?_;rw [compTurn_list];refine ER ?_;rcases turn i n ys H4 w4 with ⟨stop,hz,r⟩ | ⟨go,N,hN,step⟩
  ·refine wpAny_bind (wpAny_standAt (wpAny_bind (thn (T.done X' rfl rfl rfl (hc _ _ _ _ _ _) i _ s4 _ H4 _ I4 (stat fr4) st4 stop) fun r' s5 ⟨hr,I5⟩=>?_)));subst hr;have pD:=I5.pin (D,_) (mem_append_right _ mem_cons_self);have Ib:Inv X aa σ H4 s5:=Js I2 f2 I5;have Ic:Inv X aa σ (upd H4 D (.lst ys)) s5:=Ib.track pD.2.1 (Nat.ne_of_gt locLt) (.inr s0D) (fun x c e=>Nat.ne_of_lt (cellLt x c e)) (fun p hp=>Nat.ne_of_lt (pinLt p hp)) ⟨hz,its,k,rv,pD.1⟩;obtain ⟨m5,n5,_⟩:=I5.loc
   refine wpAny_pure (hpost s5 ys H4 D C m5 Ic r pD.2.1 n5 (Nat.le_trans s0D hCle) (Nat.ne_of_gt (Nat.lt_of_lt_of_le locLt hCle)) (fun x c e=>Nat.ne_of_lt (Nat.lt_of_lt_of_le (cellLt x c e) hCle))
    (fun p hp=>Nat.ne_of_lt (Nat.lt_of_lt_of_le (pinLt p hp) hCle)) ?_)
   rw [AF (Ne.symm hDC)];exact I5.free
  ·refine wpAny_bind (wpAny_standAt (wpAny_bind (thn (T.item X' rfl rfl rfl (hc _ _ _ _ _ _) i _ s4 _ H4 _ I4 (stat fr4) st4 go) fun r' s5 ⟨u,hr,h5⟩=>?_)));subst hr;refine wpAny_bind (thn h5 fun _ s6 ⟨x,H6,I6,r6,y6,st6,fr6⟩=>?_);have I6':=I6.pinned (stat fr6) (T.obj _ _ st6);refine wpAny_bind (thn (hg _ _ _ _ _ _ _ s6 _ H6 x u _ I6' r6 (step x H6 y6)) fun _ s7 ⟨σ7,H7,I7,k7,q7⟩=>?_);refine wpAny_bind (thn (ht _ _ _ _ _ _ _ s7 σ7 H7 _ I7 q7) fun b s8 ⟨H8,I8,q8⟩=>?_)
   have again:∀ {H9:Hp} {s9:Shared} {ys':List V} {its':List Value} {k':Nat},Inv X' ([(D,({ cls:=.type "list", data:=.seq (List.toArray its') k' }:Obj))]++DS fp s6.heap) σ7 H9 s9->Vals ys' its' ->
     (∃ m',m' < n/\W (i + 1) m' ys' H9)->∃ m,m < n/\∃ i ys its k H',Inv X' [(D,({ cls:=.type "list", data:=.seq (List.toArray its) k }:Obj))] (By ix σ) H' s9/\tn i s9.heap/\(∀ b ∈ fp,H' b=none)/\W i m ys H'/\Vals ys its:=by
    intro H9 s9 ys' its' k' I9 rv' ⟨m',hm,w9⟩;refine ⟨m',hm,i + 1,ys',its',k',H9,I9.unpinned.weak (I4.len.trans I9.len.symm) k7,T.keep _ _ _ st6 fun b hb o e=>(I9.pin (b,o) (mem_append_right _ (mem_append_right _ (CQ hb e)))).1,fun b hb=>?_,w9,rv'⟩;obtain ⟨o,e,d⟩:=T.obj _ _ st6 b hb;exact (I9.pin (b,o) (mem_append_right _ (mem_append_right _ (CQ hb e)))).2.1
   cases b with
   | false =>
    rw [if_neg Bool.false_ne_true] at q8;exact wpAny_pure ⟨rfl,again I8 rv (hN _ _ q8).2⟩
   | true =>
    rw [if_pos rfl] at q8;refine wpAny_bind (wpAny_bind (thn (he _ _ _ _ _ _ _ s8 σ7 H8 _ I8 q8) fun y s9 ⟨z,H9,I9,r9,q9⟩=>?_))
    have hz:ys.length < sizeLine:=by
     have:=(hN _ _ q9).1;rw [length_append,length_singleton] at this;omega
    have pD:=I9.pin (D,_) (mem_append_right _ (mem_append_left _ mem_cons_self));have ay:=rv.length;refine wpAny_bind (call_meets F.slot_list_append ⟨_,pD.1,rfl⟩ F.entry_list_append (F.args_list_append_2 _ _) (PySem.list_append D its.toArray k y (by rw [size_toArray]; omega)) ⟨pD.1,wpAny_pure (wpAny_pure ⟨rfl,?_⟩)⟩);have eq':its.toArray.push y=(its++[y]).toArray:=by simp
    obtain ⟨k',q⟩:∃ k',(s9.heap.update D (Obj.mapSeq (·.push y))).get? D=some { cls:=.type "list", data:=.seq (its++[y]).toArray k' }:=⟨_,by rw [← eq']; exact PySem.IsL.update pD.1 (·.push y)⟩;have Iw:Inv X' (DS fp s6.heap) σ7 H9 s9:=I9.pins_of fun p hp=>I9.pin p (mem_append_right _ (mem_append_right _ hp))
    have It:Inv X' (DS fp s6.heap) σ7 H9 { s9 with heap:=s9.heap.update D (Obj.mapSeq (·.push y)),toks:=s9.toks }:=Iw.turned (it:=D) (fun b o hb e=>(get?_update_other s9.heap (Obj.mapSeq (·.push y)) (Ne.symm hb)).trans e) pD.2.1 hDC
     (.inr (by show s2.heap.objs.size <= D; rw [hDD]; exact Nat.le_refl _)) (fun x c e=>Nat.ne_of_lt (cellLt x c (c1 x c e))) (fun p hp=>by
      rcases mem_append.mp hp with z' | z'
      ·exact Nat.ne_of_lt (pinLt p z')
      ·exact Nat.ne_of_lt (hlt p.1 (Fd z').1))
    refine again (its':=its++[y]) (k':=k') (It.pins_of fun p hp=>?_) (rv.append (.cons r9 .nil)) (hN _ _ q9).2;rcases mem_append.mp hp with z' | z'
    ·have e:p=(D,({ cls:=.type "list", data:=.seq (its++[y]).toArray k' }:Obj)):=by simpa using z'
     subst e;exact ⟨q,pD.2.1,hDC,hDfs,fun v z=>by cases z⟩
    ·exact It.pin p (mem_append_right _ z')
 exact codeAny_compStart_list (loop _ rfl) (T.self _ 0 _ _ _ (T.keep _ _ _ st2 fun b _ o e=>old b o e) (loop _ rfl))
theorem Jt {RD:Cx->Prop} (hf:CompFits X.env.scope scope X.N N' ix) (hc:∀ cl s H C fp aa,RD (Am X N' scope cl s H C fp (X.pn++aa))) (hi:PIg RD X tg iter wi)
  (hg:∀ cl s H C fp pn,PGk (Am X N' scope cl s H C fp pn) tg ix g) (ht:∀ cl s H C fp pn,PTs (Am X N' scope cl s H C fp pn) ifs tt) (he:∀ cl s H C fp pn,PE (Am X N' scope cl s H C fp pn) elt te)
  (hs:∀ x,foldedSetIterable iter X.env x=pure x:=by intro _; rfl) :
  PE X (.ListComp elt [⟨tg,iter,ifs,0⟩] scope pos) (fun σ H Q=>Cy wi g tt te ix (fun ys H'=>∀ p,H' p=none->Q (.ref p) (upd H' p (.lst ys))) σ H):=by
 intro aa s σ H Q I h;rw [eval_ListComp];refine Fs (use:=none) hf hc hi hg ht he hs I h fun s' ys H' D C m I' r hD hn h1 h2 h3 h4 h5=>?_;refine ⟨m,hn,fun h'' hs''=>⟨.ref D,_,I'.turned (it:=C) (t':=s'.toks) (fun b o hb e=>(hs''.2 b hb).trans e) h5 h2 (.inr h1) h3 h4,rfl,r D hD⟩⟩
theorem HC (hf:CompFits X.env.scope scope X.N N' ix) (hc:X.calm=true) (hi:PI X tg iter wi)
  (hg:∀ cl s H C fp pn,PGk (Am X N' scope cl s H C fp pn) tg ix g) (ht:∀ cl s H C fp pn,PTs (Am X N' scope cl s H C fp pn) ifs tt) (he:∀ cl s H C fp pn,PE (Am X N' scope cl s H C fp pn) elt te)
  (hs:∀ x,foldedSetIterable iter X.env x=pure x:=by intro _; rfl) :
  PE X (.ListComp elt [⟨tg,iter,ifs,0⟩] scope pos) (fun σ H Q=>Cy wi g tt te ix (fun ys H'=>∀ p,H' p=none->Q (.ref p) (upd H' p (.lst ys))) σ H):=Jt hf (fun _ _ _ _ _ _=>hc) hi.g hg ht he hs
theorem HD {i:Nat} {py spos:Pos} (hN:X.N.Nodup) (hi':X.N[i]?=some x) (hx:X.env.scope.names.lookup x=some .local) (hsw:swapsWith (.ListComp elt [⟨tg,iter,ifs,0⟩] scope pos) (some (.Name x py)) spos.line X.env=pure true)
  (hf:CompFits X.env.scope scope X.N N' ix) (hc:X.calm=true) (hi:PI X tg iter wi)
  (hg:∀ cl s H C fp pn,PGk (Am X N' scope cl s H C fp pn) tg ix g) (ht:∀ cl s H C fp pn,PTs (Am X N' scope cl s H C fp pn) ifs tt) (he:∀ cl s H C fp pn,PE (Am X N' scope cl s H C fp pn) elt te)
  (hs:∀ x,foldedSetIterable iter X.env x=pure x:=by intro _; rfl) :
  PS X (.Assign [.Name x py] (.ListComp elt [⟨tg,iter,ifs,0⟩] scope pos) spos) (fun D σ H=>Cy wi g tt te ix (fun ys H'=>∀ p,H' p=none->D.nx (σ.set i (some (.ref p))) (upd H' p (.lst ys))) σ H):=by
 intro aa s σ H D I h;rw [exec_Assign_Name_used _ _ _ _ hsw];refine wpAny_bind (wpAny_standAt (wpAny_bind ?_));show wpAny _ X.A (do let _ ← comprehension (.ListComp elt [⟨tg,iter,ifs,0⟩] scope pos) scope X.env _ (newList []) false (eval iter X.env) (some (assign (.Name x py) X.env))) _ _ s;refine wpAny_bind (thn (Fs (use:=some (assign (.Name x py) X.env)) (Qv:=fun _ s'=>SP X aa D .next s') hf (fun _ _ _ _ _ _=>hc) hi.g hg ht he hs I h fun s' ys H' Da C m I' r hD hn h1 h2 h3 h4 h5=>?_) fun _ s' hq=>wpAny_pure (wpAny_pure hq));show wpAny _ X.A (assign (.Name x py) X.env (.ref Da)) _ _ _;refine wpAny_assign_Name (Fc (v:=.ref Da) I' hN hi' (.inl hx) rfl (fun s'' I'' ⟨a,hsb,ha⟩=>?_) (.inr hx))
 have hCa:C ≠ a:=by
  rcases ha with z | z
  ·rw [z]; exact h2
  ·exact (h3 x a z).symm
 refine ⟨m,hn.sameBut hsb hCa,fun h'' hs''=>?_⟩;exact ⟨_,_,I''.turned (it:=C) (t':=s''.toks) (fun b o hb e=>(hs''.2 b hb).trans e) h5 h2 (.inr h1) h3 h4,r Da hD⟩
end
abbrev g2 (K:FG):TG:=MW K 2 (Ex (Ch 0) (Ex (Ch 1) MU))
section
variable {iter elt:Expr} {ifs:List Expr} {scope:Scope} {px py pt:Pos} {wi:TI} {tt:TT} {y:Str} {kt:Nat}
theorem BX (Nc:List Str) (ixc:List (Option Nat)) (hf:Fp X.env.scope scope X.N (x :: Nc) (none :: ixc)=true) (hnd:(x :: Nc).Nodup) (hx:scope.names.lookup x=some .local) (hc:X.calm=true) (hi:PI X (.Name x px) iter wi)
  (ht:∀ cl s H C fp pn,PTs (Am X (x :: Nc) scope cl s H C fp pn) ifs tt) (he:∀ cl s H C fp pn,PE (Am X (x :: Nc) scope cl s H C fp pn) elt te) (hs:∀ x,foldedSetIterable iter X.env x=pure x:=by intro _; rfl) :
  PE X (.ListComp elt [⟨.Name x px,iter,ifs,0⟩] scope pos) (fun σ H Q=>Cy wi (Ch 0) tt te (none :: ixc) (fun ys H'=>∀ p,H' p=none->Q (.ref p) (upd H' p (.lst ys))) σ H) :=
 HC (CompFits.of hf) hc hi (fun cl s H C fp pn=>HA (AY (i:=0) hnd rfl (.inl (lookup_relabel_local hx)) (.inr (lookup_relabel_local hx)))) ht he hs
theorem Cz (Nc:List Str) (ixc:List (Option Nat)) (hf:Fp X.env.scope scope X.N (x :: y :: Nc) (none :: none :: ixc)=true) (hnd:(x :: y :: Nc).Nodup) (hx:scope.names.lookup x=some .local) (hy:scope.names.lookup y=some .local) (hc:X.calm=true)
  (hi:PI X (.Tuple [.Name x px,.Name y py] kt pt) iter wi)
  (ht:∀ cl s H C fp pn,PTs (Am X (x :: y :: Nc) scope cl s H C fp pn) ifs tt) (he:∀ cl s H C fp pn,PE (Am X (x :: y :: Nc) scope cl s H C fp pn) elt te) (hs:∀ x,foldedSetIterable iter X.env x=pure x:=by intro _; rfl) :
  PE X (.ListComp elt [⟨.Tuple [.Name x px,.Name y py] kt pt,iter,ifs,0⟩] scope pos) (fun σ H Q=>Cy wi (g2 X.K) tt te (none :: none :: ixc) (fun ys H'=>∀ p,H' p=none->Q (.ref p) (upd H' p (.lst ys))) σ H) :=
 HC (CompFits.of hf) hc hi (fun cl s H C fp pn=>HB (Bk (X:=Am X (x :: y :: Nc) scope cl s H C fp pn) hc (Ab (AY (i:=0) hnd rfl (.inl (lookup_relabel_local hx)) (.inr (lookup_relabel_local hx)))
  (Ab (AY (i:=1) hnd rfl (.inl (lookup_relabel_local hy)) (.inr (lookup_relabel_local hy))) BM)))) ht he hs
theorem Kw {i:Nat} {z:Str} {pz spos:Pos} (hN:X.N.Nodup) (hi':X.N[i]?=some z) (hz:X.env.scope.names.lookup z=some .local) (Nc:List Str) (ixc:List (Option Nat)) (hf:Fp X.env.scope scope X.N (x :: Nc) (none :: ixc)=true) (hnd:(x :: Nc).Nodup)
  (hx:scope.names.lookup x=some .local) (hc:X.calm=true) (hi:PI X (.Name x px) iter wi)
  (ht:∀ cl s H C fp pn,PTs (Am X (x :: Nc) scope cl s H C fp pn) ifs tt) (he:∀ cl s H C fp pn,PE (Am X (x :: Nc) scope cl s H C fp pn) elt te)
  (hsw:swapsWith (.ListComp elt [⟨.Name x px,iter,ifs,0⟩] scope pos) (some (.Name z pz)) spos.line X.env=pure true:=by rfl) (hs:∀ x,foldedSetIterable iter X.env x=pure x:=by intro _; rfl) :
  PS X (.Assign [.Name z pz] (.ListComp elt [⟨.Name x px,iter,ifs,0⟩] scope pos) spos) (fun D σ H=>Cy wi (Ch 0) tt te (none :: ixc) (fun ys H'=>∀ p,H' p=none->D.nx (σ.set i (some (.ref p))) (upd H' p (.lst ys))) σ H) :=
 HD hN hi' hz hsw (CompFits.of hf) hc hi (fun cl s H C fp pn=>HA (AY (i:=0) hnd rfl (.inl (lookup_relabel_local hx)) (.inr (lookup_relabel_local hx)))) ht he hs
theorem Kx {i:Nat} {z:Str} {pz spos:Pos} (hN:X.N.Nodup) (hi':X.N[i]?=some z) (hz:X.env.scope.names.lookup z=some .local) (Nc:List Str) (ixc:List (Option Nat)) (hf:Fp X.env.scope scope X.N (x :: y :: Nc) (none :: none :: ixc)=true) (hnd:(x :: y :: Nc).Nodup)
  (hx:scope.names.lookup x=some .local) (hy:scope.names.lookup y=some .local) (hc:X.calm=true) (hi:PI X (.Tuple [.Name x px,.Name y py] kt pt) iter wi)
  (ht:∀ cl s H C fp pn,PTs (Am X (x :: y :: Nc) scope cl s H C fp pn) ifs tt) (he:∀ cl s H C fp pn,PE (Am X (x :: y :: Nc) scope cl s H C fp pn) elt te)
  (hsw:swapsWith (.ListComp elt [⟨.Tuple [.Name x px,.Name y py] kt pt,iter,ifs,0⟩] scope pos) (some (.Name z pz)) spos.line X.env=pure true:=by rfl) (hs:∀ x,foldedSetIterable iter X.env x=pure x:=by intro _; rfl) :
  PS X (.Assign [.Name z pz] (.ListComp elt [⟨.Tuple [.Name x px,.Name y py] kt pt,iter,ifs,0⟩] scope pos) spos) (fun D σ H=>Cy wi (g2 X.K) tt te (none :: none :: ixc) (fun ys H'=>∀ p,H' p=none->D.nx (σ.set i (some (.ref p))) (upd H' p (.lst ys))) σ H) :=
 HD hN hi' hz hsw (CompFits.of hf) hc hi (fun cl s H C fp pn=>HB (Bk (X:=Am X (x :: y :: Nc) scope cl s H C fp pn) hc (Ab (AY (i:=0) hnd rfl (.inl (lookup_relabel_local hx)) (.inr (lookup_relabel_local hx)))
  (Ab (AY (i:=1) hnd rfl (.inl (lookup_relabel_local hy)) (.inr (lookup_relabel_local hy))) BM)))) ht he hs
end
theorem BR {g:TG} {tt:TT} {ix:List (Option Nat)} {R:List V->Hp->Prop} {H1:Hp} (Pv:Nat->List V->Hp->Prop) (h0:Pv 0 [] H1) (hl:∀ i ys H,i <= xs.length->Pv i ys H->SqL K H a xs) (hz:∀ i ys H,Pv i ys H->ys.length <= 1000)
  (hs:∀ i x ys H,xs[i]?=some x->Pv i ys H->g x (By ix σ) H fun σ2 H2=>tt σ2 H2 fun b H3=>if b=true then te σ2 H3 fun y H4=>Pv (i + 1) (ys++[y]) H4 else Pv (i + 1) ys H3) (hd:∀ ys H,Pv xs.length ys H->R ys H) :
  ∃ W:Nat->Nat->List V->Hp->Prop,(∃ m,W 0 m [] H1)/\∀ i m ys H,W i m ys H ->
   ((Itl K a).stop i H/\ys.length <= sizeLine/\R ys H) \/
   ((Itl K a).go i H/\∃ N:List V->Hp->Prop,(∀ ys' H',N ys' H'->ys'.length <= sizeLine/\∃ m',m' < m/\W (i + 1) m' ys' H') /\
    ∀ x H',(Itl K a).yld i H x H'->g x (By ix σ) H' fun σ2 H2=>tt σ2 H2 fun b H3=>if b=true then te σ2 H3 fun y H4=>N (ys++[y]) H4 else N ys H3):=by
 refine ⟨fun i m ys H=>m=xs.length - i/\i <= xs.length/\Pv i ys H,⟨_,rfl,Nat.zero_le _,h0⟩,?_⟩;rintro i m ys H ⟨rfl,hi,hp⟩;by_cases hlt:i < xs.length
 ·have hx:xs[i]?=some xs[i]:=List.getElem?_eq_getElem hlt;refine .inr ⟨⟨xs,xs[i],hl i ys H hi hp,hx⟩,Pv (i + 1),fun ys' H' q=>⟨Nat.le_of_lt (AQ (hz _ ys' H' q)),xs.length - (i + 1),by omega,rfl,hlt,q⟩,?_⟩;rintro x H' ⟨rfl,hy⟩
  have ex:x=xs[i]:=by
   have:=hy xs (hl i ys H' hi hp);rw [hx] at this;exact (Option.some.inj this).symm
  subst ex;exact hs i xs[i] ys H' hx hp
 ·have e:i=xs.length:=by omega
  subst e;exact .inl ⟨⟨xs,hl _ ys H hi hp,Nat.le_refl _⟩,Nat.le_of_lt (AQ (hz _ ys H hp)),hd ys H hp⟩
theorem HE {g:TG} {tt:TT} {ix:List (Option Nat)} {R:List V->Hp->Prop} {H1:Hp} (Pv:Nat->List V->Hp->Prop) (h0:Pv 0 [] H1) (hl:∀ i ys H,i <= xs.length->Pv i ys H->SqT K H a xs) (hz:∀ i ys H,Pv i ys H->ys.length <= 1000)
  (hs:∀ i x ys H,xs[i]?=some x->Pv i ys H->g x (By ix σ) H fun σ2 H2=>tt σ2 H2 fun b H3=>if b=true then te σ2 H3 fun y H4=>Pv (i + 1) (ys++[y]) H4 else Pv (i + 1) ys H3) (hd:∀ ys H,Pv xs.length ys H->R ys H) :
  ∃ W:Nat->Nat->List V->Hp->Prop,(∃ m,W 0 m [] H1)/\∀ i m ys H,W i m ys H ->
   ((Itt K a).stop i H/\ys.length <= sizeLine/\R ys H) \/
   ((Itt K a).go i H/\∃ N:List V->Hp->Prop,(∀ ys' H',N ys' H'->ys'.length <= sizeLine/\∃ m',m' < m/\W (i + 1) m' ys' H') /\
    ∀ x H',(Itt K a).yld i H x H'->g x (By ix σ) H' fun σ2 H2=>tt σ2 H2 fun b H3=>if b=true then te σ2 H3 fun y H4=>N (ys++[y]) H4 else N ys H3):=by
 refine ⟨fun i m ys H=>m=xs.length - i/\i <= xs.length/\Pv i ys H,⟨_,rfl,Nat.zero_le _,h0⟩,?_⟩;rintro i m ys H ⟨rfl,hi,hp⟩;by_cases hlt:i < xs.length
 ·have hx:xs[i]?=some xs[i]:=List.getElem?_eq_getElem hlt;refine .inr ⟨⟨xs,xs[i],hl i ys H hi hp,hx⟩,Pv (i + 1),fun ys' H' q=>⟨Nat.le_of_lt (AQ (hz _ ys' H' q)),xs.length - (i + 1),by omega,rfl,hlt,q⟩,?_⟩;rintro x H' ⟨rfl,hy⟩
  have ex:x=xs[i]:=by
   have:=hy xs (hl i ys H' hi hp);rw [hx] at this;exact (Option.some.inj this).symm
  subst ex;exact hs i xs[i] ys H' hx hp
 ·have e:i=xs.length:=by omega
  subst e;exact .inl ⟨⟨xs,hl _ ys H hi hp,Nat.le_refl _⟩,Nat.le_of_lt (AQ (hz _ ys H hp)),hd ys H hp⟩
theorem DX {lo:Int} {n:Nat} {g:TG} {tt:TT} {ix:List (Option Nat)} {R:List V->Hp->Prop} {H1:Hp} (Pv:Nat->List V->Hp->Prop) (h0:Pv 0 [] H1) (hz:∀ i ys H,Pv i ys H->ys.length <= 1000)
  (hs:∀ (i:Nat) ys H,i < n->Pv i ys H->g (.int (lo + i)) (By ix σ) H fun σ2 H2=>tt σ2 H2 fun b H3=>if b=true then te σ2 H3 fun y H4=>Pv (i + 1) (ys++[y]) H4 else Pv (i + 1) ys H3) (hd:∀ ys H,Pv n ys H->R ys H) :
  ∃ W:Nat->Nat->List V->Hp->Prop,(∃ m,W 0 m [] H1)/\∀ i m ys H,W i m ys H ->
   ((Itr lo n).stop i H/\ys.length <= sizeLine/\R ys H) \/
   ((Itr lo n).go i H/\∃ N:List V->Hp->Prop,(∀ ys' H',N ys' H'->ys'.length <= sizeLine/\∃ m',m' < m/\W (i + 1) m' ys' H') /\
    ∀ x H',(Itr lo n).yld i H x H'->g x (By ix σ) H' fun σ2 H2=>tt σ2 H2 fun b H3=>if b=true then te σ2 H3 fun y H4=>N (ys++[y]) H4 else N ys H3):=by
 refine ⟨fun i m ys H=>m=n - i/\i <= n/\Pv i ys H,⟨_,rfl,Nat.zero_le _,h0⟩,?_⟩;rintro i m ys H ⟨rfl,hi,hp⟩;by_cases hlt:i < n
 ·refine .inr ⟨hlt,Pv (i + 1),fun ys' H' q=>⟨Nat.le_of_lt (AQ (hz _ ys' H' q)),n - (i + 1),by omega,rfl,hlt,q⟩,?_⟩;rintro x H' ⟨rfl,rfl⟩;exact hs i ys H' hlt hp
 ·have e:i=n:=by omega
  subst e;exact .inl ⟨Nat.le_refl _,Nat.le_of_lt (AQ (hz _ ys H hp)),hd ys H hp⟩
section
variable {o:Obj} {kvs:LK}
theorem Inv.newOk (I:Inv X aa σ H s) {p:Addr} (hp:s.heap.objs.size <= p):H p=none/\p ≠ X.env.locals/\X.s₀.heap.objs.size <= p/\(∀ x c,X.env.cells.lookup x=some c->c ≠ p)/\∀ q ∈ X.pn++aa,q.1 ≠ p :=
 ⟨I.hok.fresh hp,Nat.ne_of_gt (Nat.lt_of_lt_of_le I.lt hp),Nat.le_trans I.sz hp,fun x c e=>by
  obtain ⟨v,z⟩:=I.cell x c e
  exact Nat.ne_of_lt (Nat.lt_of_lt_of_le z.lt hp),fun q hq=>Nat.ne_of_lt (Nat.lt_of_lt_of_le (lt_size (I.pin q hq).1) hp)⟩
theorem Inv.freeze (I:Inv X aa σ H s) (h:H a=some (.dK kvs)):∃ o,Inv X aa σ (upd H a (.frz o (.dK kvs))) s:=by
 obtain ⟨z,y,vs,r,ob,es,ep,e,rest⟩:=I.hok a _ h;refine ⟨ob,?_⟩;exact I.write (x:=a) (e:=a) (o:=.frz ob (.dK kvs)) (h':=s.heap) (t':=s.toks) (by rw [h]; exact trivial) (.inl rfl) (fun b u _ q=>q) ⟨ob,e⟩ ⟨e,z,y,vs,r,ob,es,ep,e,rest⟩
theorem E9 {sts:List Stmt} {t:TS} (h:PSs X sts t):PSs X sts (fun D σ H=>∃ a kvs,H a=some (.dK kvs)/\∀ o,t D σ (upd H a (.frz o (.dK kvs)))):=by
 intro aa s σ H D I ⟨a,kvs,e,k⟩;obtain ⟨o,I'⟩:=I.freeze e;exact h aa s σ _ D I' (k o)
def Ky (o:Obj):Nat:=match o.data with
 | .dict _ ep=>ep
 | _=>0
theorem FA (I:Inv X aa σ H s) (h:H a=some (.frz o (.dK kvs))):kvs.length <= sizeLine/\(a == sysModules)=false/\∃ vs,KV kvs vs/\s.heap.DictAt (Ah X.prog X.w) a vs (Ky o):=by
 obtain ⟨e,z,y,vs,r,ob,es,ep,e2,ex,d,rest⟩:=I.hok a _ h;rw [e] at e2; cases e2;refine ⟨z,y,vs,r,o,es,e,ex,?_,rest⟩;show o.data=.dict es (Ky o);unfold Ky; rw [d]
end
theorem KV.get {κ:Type}:∀ {kvs:List (κ × V)} {vs:List (κ × Value)} {i:Nat} {kv:κ × V},KV kvs vs->kvs[i]?=some kv->∃ v,vs[i]?=some (kv.1,v)/\RelV kv.2 v
 | _,_,_,_,.nil,e=>by simp at e
 | _,_,0,_,.cons r _,e=>by
  simp only [List.getElem?_cons_zero,Option.some.injEq] at e;subst e;rename_i q _ _ _;exact ⟨q.2,by rw [r.1]; rfl,r.2⟩
 | _,_,i + 1,kv,.cons _ t,e=>by
  obtain ⟨u,h1,h2⟩:=KV.get (i:=i) (kv:=kv) (show KV _ _ from t) (by simpa using e);exact ⟨u,by simpa using h1,h2⟩
theorem Er {k:Key} (h:(Ah P w).is k u=true):RelV (kV k) u:=by
 rcases As (show Ev k u=true from h) with ⟨i,t,rfl,rfl⟩ | ⟨x,t,rfl,rfl⟩
 ·exact ⟨t,rfl⟩
 ·exact ⟨t,rfl⟩
def Iti (a:Addr) (o:Obj) (kvs:LK):It:=⟨fun i H=>H a=some (.frz o (.dK kvs))/\i < kvs.length,fun i H x H'=>∃ p kv,H p=none/\x=.ref p/\kvs[i]?=some kv/\H'=upd H p (.tup [kV kv.1,kv.2]),
 fun i H=>H a=some (.frz o (.dK kvs))/\kvs.length <= i⟩
theorem IP {elts:List Expr} {k0:Nat} (a it:Addr) (o:Obj) (kvs:LK) :
  Gy P w K (.Tuple elts k0 pos) (Iti a o kvs) [it] it (fun i h=>∃ ok ov,IsItemIter h it a i kvs.length (Ky o) ok ov) where
 mem:=by simp
 obj:=fun i h st b hb=>by
  have e:b=it:=by simpa using hb
  subst e;obtain ⟨ok,ov,e⟩:=st;exact ⟨_,e,fun v z=>by cases z⟩
 keep:=fun i h h' st k=>by
  obtain ⟨ok,ov,e⟩:=st;exact ⟨ok,ov,k it (by simp) _ e⟩
 item:=by
  intro X hP hw hK hc i aa s σ H E I hf st hg;subst hP hw hK;obtain ⟨hfz,hi⟩:=hg;obtain ⟨z,y,vs,rel,dd⟩:=FA I hfz;obtain ⟨ok,ov,st⟩:=st;have ay:=rel.length;obtain ⟨kv,hkv⟩:∃ kv,kvs[i]?=some kv:=⟨_,List.getElem?_eq_getElem hi⟩;obtain ⟨v,hv,rv⟩:=KV.get rel hkv;obtain ⟨f0,f1,f2,f3,f4,f5⟩:=hf it (by simp);rw [ay] at st;have hlt:it < s.heap.objs.size:=lt_size st;refine wpAny_pyNext_items_item st dd hv fun key h' bn st' hp hsz keep=>?_;have I1:Inv X aa σ H { s with heap:=h' }:=I.turned (t':=s.toks) keep f0 f1 f3 f4 f5;obtain ⟨n1,n2,n3,n4,n5⟩:=I.newOk (Nat.le_refl s.heap.objs.size);have I2:Inv X aa σ (upd H s.heap.objs.size (.tup [kV kv.1,kv.2])) { s with heap:=h' }:=I1.track n1 n2 (.inr n3) n4 n5 ⟨by show 2 <= sizeLine; decide,[key,v],.cons (Er bn) (.cons rv .nil),_,hp,rfl,_,rfl⟩;have fi:(upd H s.heap.objs.size (.tup [kV kv.1,kv.2])) it=none:=by rw [AF (Nat.ne_of_lt hlt)]; exact f0
  refine ⟨.ref s.heap.objs.size,rfl,wpAny_letOwnedTupleGo_items st' fun h'' st'' sb=>?_⟩;refine ⟨.ref s.heap.objs.size,_,I2.turned (it:=it) (t':=s.toks) (fun b o hb e=>(sb.2 b hb).trans e) fi f1 f3 f4 f5,rfl,⟨_,kv,n1,rfl,hkv,rfl⟩,⟨key,v,by rw [ay]; exact st''⟩,fun b hb=>?_⟩;have e:b=it:=by simpa using hb
  rw [e]; exact fi
 done:=by
  intro X hP hw hK hc i aa s σ H E I hf st hg;subst hP hw hK;obtain ⟨hfz,hi⟩:=hg;obtain ⟨z,y,vs,rel,dd⟩:=FA I hfz;obtain ⟨ok,ov,st⟩:=st;have ay:=rel.length;rw [ay] at st;obtain ⟨f0,f1,f2,f3,f4,f5⟩:=hf it (by simp);exact wpAny_pyNext_items_end (I.ok.hd hc) st dd (List.getElem?_eq_none_iff.mpr (by omega)) fun h' eb=>⟨rfl,I.turned (t':=s.toks) (fun b o hb e=>eb b o hb e) f0 f1 f3 f4 f5⟩
 self:=fun _ _ _ _ _ st h=>by
  obtain ⟨ok,ov,e⟩:=st;exact W.kcp_self e h
def OA (to:TE):TI:=fun σ H R=>to σ H fun x H1=>∃ a o kvs,x=.ref a/\H1 a=some (.frz o (.dK kvs))/\R (Iti a o kvs) H1
theorem Kz {elts:List Expr} {k0:Nat} {o:Expr} {to:TE} {apos cpos:Pos} (ho:PE X o to) (a6:attributeBase o "items" X.env (eval o X.env)=eval o X.env:=by rfl) (a7:(apos.endLine == cpos.line)=true:=by rfl) :
  PI X (.Tuple elts k0 pos) (.Call (.Attribute o "items" apos) [] [] cpos) (OA to):=by
 intro aa s σ H R I h;refine wpAny_Call_method0_late a6 a7 (thn (ho aa s σ H _ I h) fun v s1 ⟨x,H1,I1,r1,a,ob,kvs,ex,hfz,q⟩=>?_);subst ex;cases r1;obtain ⟨t1,t2,_⟩:=Ku I1 (.inl ⟨kvs,.inr ⟨ob,hfz⟩⟩);obtain ⟨z,y,vs,rel,dd⟩:=FA I1 hfz;refine ⟨"dict", "dict.items", PySem.F.plainAttrs_dict,PySem.F.slot_dict_items,PySem.F.type_dict_items,t1,t2,Calls.callWith_builtin rfl (PySem.evalArgs_none (call_meetsIn PySem.F.slot_dict_items t1 PySem.F.entry_dict_items (PySem.F.args_dict_items_1 _) (meets_dict_items (Ah X.prog X.w) a y) ⟨⟨vs,dd.dictOf⟩,?_⟩))⟩;have I2:Inv X aa σ H1 { s1 with heap:=s1.heap.push { cls:=.type "dict_items", data:=.fields #[.ref a] } }:=I1.kept (t':=s1.toks) fun b o e=>get?_push_of_some _ e;refine wpAny_pyIter_items (knd:=Ah X.prog X.w) (d:=a) (kvs:=vs) (ep:=Ky ob) ⟨_,get?_push_size _ rfl,rfl,rfl⟩ (dd.push _) ?_;refine ⟨_,[_],_,_,H1,rfl,I2.kept (t':=s1.toks) fun b o e=>get?_push_of_some _ e,IP a _ ob kvs,⟨.none,.none,by rw [rel.length]; exact get?_push_size _ rfl⟩,fun b hb=>?_,q⟩;have e:b=(s1.heap.push { cls:=.type "dict_items", data:=.fields #[.ref a] }).objs.size:=by simpa using hb
 subst e;exact I2.fpOk (Nat.le_refl _) (I2.hok.fresh (Nat.le_refl _))
def Ite (K:FG) (a:Addr):It:=⟨fun i H=>∃ xs x,SqL K H a xs/\xs[i]?=some x,fun i H x H'=>∃ p y,H p=none/\x=.ref p/\(∀ xs,SqL K H a xs->xs[i]?=some y)/\H'=upd H p (.tup [.int i,y]),fun i H=>∃ xs,SqL K H a xs/\xs.length <= i⟩
theorem Ju {elts:List Expr} {k0:Nat} (a e it:Addr) (av:e ≠ it) :
  Gy P w K (.Tuple elts k0 pos) (Ite K a) [e,it] e (fun i h=>∃ old,IsEnum h e it i old/\h.IsListIter it a i) where
 mem:=by simp
 obj:=fun i h st b hb=>by
  obtain ⟨old,e1,o,e2,c,d⟩:=st;have hb':b=e\/b=it:=by simpa using hb
  rcases hb' with rfl | rfl
  ·exact ⟨_,e1,fun v z=>by cases z⟩
  ·exact ⟨o,e2,fun v z=>by rw [d] at z; cases z⟩
 keep:=fun i h h' st k=>by
  obtain ⟨old,e1,e2⟩:=st;exact ⟨old,k e (by simp) _ e1,e2.at fun o q=>k it (by simp) o q⟩
 item:=by
  intro X hP hw hK hc i aa s σ H E I hf st hg;subst hP hw hK;obtain ⟨xs,x,hq,hx⟩:=hg;obtain ⟨its,rv,p,hz⟩:=I.list hq;obtain ⟨u,hu,ru⟩:=rv.get hx;obtain ⟨old,s1,s2⟩:=st;obtain ⟨f0,f1,f2,f3,f4,f5⟩:=hf e (by simp);obtain ⟨g0,g1,g2,g3,g4,g5⟩:=hf it (by simp);have hlt:e < s.heap.objs.size:=lt_size s1;have hlt2:it < s.heap.objs.size:=by obtain ⟨o,q,_⟩:=id s2; exact lt_size q
  refine wpAny_pyNext_enum_item s1 s2 p.isList (x:=u) (by simpa using hu) av fun h' st' st2' hp hsz keep=>?_
  have I1:Inv X aa σ H { s with heap:=h',toks:=s.toks + 1 }:=by
   refine I.step (H':=H) (g':=s.gens) (d':=s.drawn) (ch:=[e,it]) (fun b hb=>?_) (fun b o _ _ hb q _=>keep b o (by simp at hb; exact hb.1) (by simp at hb; exact hb.2) q) (fun b o _ _ hb q _=>⟨o.slots,keep b o (by simp at hb; exact hb.1) (by simp at hb; exact hb.2) q⟩)
    (fun _ _ _ _ n=>n) (fun b o hb q=>⟨o,keep b o (by simp at hb; exact hb.1) (by simp at hb; exact hb.2) q⟩) (fun _ _ q=>q) (fun _ _ _ q=>q) (fun b ps q=>⟨#[],by rw [q]; simp⟩) (fun m hm=>?_) (fun b u q=>?_) I.bare
   ·have hb':b=e\/b=it:=by simpa using hb
    rcases hb' with rfl | rfl
    ·exact ⟨f3,f1,f4,f5⟩
    ·exact ⟨g3,g1,g4,g5⟩
   ·obtain ⟨oL,es,ep,hoL,r⟩:=hm;exact ⟨oL,es,ep,keep _ oL (Ne.symm f1) (Ne.symm g1) hoL,r⟩
   ·have ne1:∀ c v,H c=some v->c ≠ e/\c ≠ it:=fun c v q=>⟨AH q f0,AH q g0⟩;refine (I.hok b u q).stay (fun c v hc q'=>keep c v ?_ ?_ q') (fun _ q=>q) fun _ _ q=>q
    ·rcases hc with z | z
     ·rw [z]; exact (ne1 b u q).1
     ·exact (ne1 c _ z).1
    ·rcases hc with z | z
     ·rw [z]; exact (ne1 b u q).2
     ·exact (ne1 c _ z).2
  obtain ⟨n1,n2,n3,n4,n5⟩:=I.newOk (Nat.le_refl s.heap.objs.size);have I2:Inv X aa σ (upd H s.heap.objs.size (.tup [.int i,x])) { s with heap:=h',toks:=s.toks + 1 }:=I1.track n1 n2 (.inr n3) n4 n5 ⟨by show 2 <= sizeLine; decide,[.int i s.toks,u],.cons ⟨_,rfl⟩ (.cons ru .nil),_,hp,rfl,_,rfl⟩;have fe:(upd H s.heap.objs.size (.tup [.int i,x])) e=none:=by rw [AF (Nat.ne_of_lt hlt)]; exact f0
  have fi:(upd H s.heap.objs.size (.tup [.int i,x])) it=none:=by rw [AF (Nat.ne_of_lt hlt2)]; exact g0
  refine ⟨.ref s.heap.objs.size,rfl,wpAny_letOwnedTupleGo_enum st' fun h'' st'' sb=>?_⟩;refine ⟨.ref s.heap.objs.size,_,I2.turned (it:=e) (t':=s.toks + 1) (fun b o hb q=>(sb.2 b hb).trans q) fe f1 f3 f4 f5,rfl,⟨_,x,n1,rfl,fun ys hy=>by rw [I.list_inj hy hq]; exact hx,rfl⟩,⟨_,by exact_mod_cast st'',st2'.extBut sb.extBut (Ne.symm av)⟩,fun b hb=>?_⟩;have hb':b=e\/b=it:=by simpa using hb
  rcases hb' with rfl | rfl
  ·exact fe
  ·exact fi
 done:=by
  intro X hP hw hK hc i aa s σ H E I hf st hg;subst hP hw hK;obtain ⟨xs,hq,hx⟩:=hg;obtain ⟨its,rv,p,hz⟩:=I.list hq;obtain ⟨old,s1,s2⟩:=st;obtain ⟨g0,g1,g2,g3,g4,g5⟩:=hf it (by simp);have hl:=rv.length;exact wpAny_pyNext_enum_end (I.ok.hd hc) s1 s2 p.isList (by simp; omega) fun h' eb=>⟨rfl,I.turned (t':=s.toks) (fun b o hb e=>eb b o hb e) g0 g1 g3 g4 g5⟩
 self:=fun _ _ _ _ _ st h=>by
  obtain ⟨old,e1,_⟩:=st;exact wpAny_pyIter_enum e1 h
def PN (K:FG) (tl:TA):TI:=fun σ H R=>tl σ H fun vs H1=>∃ a,vs=[.ref a]/\(∃ xs,SqL K H1 a xs)/\R (Ite K a) H1
theorem Mp {elts:List Expr} {k0:Nat} {p cpos:Pos} {l:Expr} {tl:TA} (hg:Gl X "enumerate") (hm:X.mg "enumerate" = none) (hl:PA X [l] tl) (hs:starEach [l] X.env=[(false,eval l X.env)]:=by rfl) :
  PI X (.Tuple elts k0 pos) (.Call (.Name "enumerate" p) [l] [] cpos) (PN X.K tl):=by
 intro aa s σ H R I h;refine wpAny_Call_Name_kw (DR (u:=.type "enumerate") I hg hm (by decide +kernel) ?_);refine PyProof.Rows.callWith_type1 (thn (hl cpos aa s σ H _ I h) fun us s1 ⟨vs,H1,I1,r1,a,ev,⟨xs,hq⟩,q⟩=>?_) hs rfl;subst ev;obtain ⟨u,rfl,ru⟩:=B5 r1;cases ru;obtain ⟨its,rv,pl,hz⟩:=I1.list hq;refine call_enumerate_list pl.isList fun h' he hi hsz keep=>?_;refine wpAny_pyIter_enum he ?_;have I2:Inv X aa σ H1 { s1 with heap:=h' }:=I1.kept (t':=s1.toks) keep;refine ⟨_,[s1.heap.objs.size + 1,s1.heap.objs.size],_,_,H1,rfl,I2,Ju a _ _ (Nat.succ_ne_self _),⟨_,he,hi⟩,fun b hb=>?_,q⟩;have hb':b=s1.heap.objs.size + 1\/b=s1.heap.objs.size:=by simpa using hb
 rcases hb' with rfl | rfl
 ·exact I1.fpOk (Nat.le_succ _) (I1.hok.fresh (Nat.le_succ _))
 ·exact I1.fpOk (Nat.le_refl _) (I1.hok.fresh (Nat.le_refl _))
def Its (x:Str):It:=⟨fun i _=>i < x.cps.size,fun i H v H'=>H'=H/\∃ c,x.cps[i]?=some c/\v=.str ⟨#[c]⟩,fun i _=>x.cps.size <= i⟩
theorem K0 {n:Str} (it:Addr) (x:Str) (t:Tok) :
  Gy P w K (.Name n pos) (Its x) [it] it (fun i h=>h.IsStrIter it "str_ascii_iterator" x t i) where
 mem:=by simp
 obj:=fun i h st b hb=>by
  have e:b=it:=by simpa using hb
  subst e;obtain ⟨o,e,c,d⟩:=st;exact ⟨o,e,fun v z=>by rw [d] at z; cases z⟩
 keep:=fun i h h' st k=>by
  obtain ⟨o,e,r⟩:=st;exact ⟨o,k it (by simp) o e,r⟩
 item:=by
  intro X hP hw hK hc i aa s σ H E I hf st hg;subst hP hw hK;have hi:i < x.cps.size:=hg;obtain ⟨f0,f1,f2,f3,f4,f5⟩:=hf it (by simp);refine wpAny_pyNext_ascii_item st (Array.getElem?_eq_getElem hi) fun h' st' sb=>?_;refine ⟨_,rfl,wpAny_pure ⟨.str ⟨#[x.cps[i]]⟩,H,I.turned (t':=s.toks + 1) (fun b o hb e=>(sb.2 b hb).trans e) f0 f1 f3 f4 f5,⟨_,rfl⟩,⟨rfl,_,Array.getElem?_eq_getElem hi,rfl⟩,st',fun b hb=>(hf b hb).1⟩⟩
 done:=by
  intro X hP hw hK hc i aa s σ H E I hf st hg;subst hP hw hK;have hi:x.cps.size <= i:=hg;obtain ⟨f0,f1,f2,f3,f4,f5⟩:=hf it (by simp);exact wpAny_pyNext_ascii_end (I.ok.hd hc) st (Array.getElem?_eq_none hi) fun h' eb=>⟨rfl,I.turned (t':=s.toks) (fun b o hb e=>eb b o hb e) f0 f1 f3 f4 f5⟩
 self:=fun _ _ _ _ _ st h=>wpAny_pyIter_striter_ascii st h
def QE (ts:TE):TI:=fun σ H R=>ts σ H fun v H1=>∃ x,v=.str x/\x.cps.all (· < 128)=true/\R (Its x) H1
theorem K1 {n:Str} {ts:TE} (he:PE X e ts):PI X (.Name n pos) e (QE ts):=by
 intro aa s σ H R I h;refine thn (he aa s σ H _ I h) fun v s1 ⟨z,H1,I1,r1,x,ez,ha,q⟩=>?_;subst ez;obtain ⟨t,rfl⟩:=r1;refine wpAny_pyIter_ascii ha ?_;refine ⟨s1.heap.objs.size,[s1.heap.objs.size],_,_,H1,rfl,I1.kept (t':=s1.toks) fun b o e=>get?_push_of_some _ e,K0 _ x t,⟨_,get?_push_size _ rfl,rfl,rfl⟩,fun b hb=>?_,q⟩;have e:b=s1.heap.objs.size:=by simpa using hb
 subst e;exact I1.fpOk (Nat.le_refl _) (I1.hok.fresh (Nat.le_refl _))
theorem FZ:entryFor table "proto.unchain" = some Builtin.«proto.unchain»:=entryFor_of_tree (by kernel_rfl)
section
variable {prog:Program}
theorem Mq {α:Type} {c e:Addr} {oc oe:Obj} {vc ve:Array Value} {Q:α->Shared->Prop} (hh:A.handled=some (.ref c)) (hce:c ≠ e) (hc:s.heap.get? c=some oc) (hdc:oc.data=.fields vc) (h2:vc[2]?=some .none)
  (he:s.heap.get? e=some oe) (hde:oe.data=.fields ve) (hz:2 < ve.size) (h:E (.ref e) { s with heap:=s.heap.update e (Obj.mapFields (·.setIfInBounds 2 (.ref c))) }):wpAny (model prog w) A (raiseNew (.ref e):Sem α) Q E s:=by
 unfold raiseNew;refine wpAny_bind (wpAny_handled ?_);rw [hh]
 dsimp only
 rw [if_pos (show (Value.ref c != Value.ref e)=true by simp [hce])];refine wpAny_bind (wpAny_holding (wpAny_runValue (codeAny_builtin FZ ?_)));unfold Builtin.«proto.unchain»
 dsimp only
 refine wpAny_bind (wpAny_field hc hdc h2 ?_);rw [if_pos (by decide)];refine wpAny_pure ?_;show wpAny _ _ _ _ _ _;have up:=wpAny_setField (M:=model prog w) (A:=A) (E:=E) (x:=Value.ref c) (Q:=fun _ s'=>E (.ref e) s') he hde hz h;unfold setField at up;exact wpAny_bind (wpAny_mono up (fun _ s' z=>wpAny_throw z) fun _ _ z=>z)
theorem En {it l c:Addr} {i:Nat} {xs:Array Value} {oc:Obj} {vc:Array Value} {Q:Option Value->Shared->Prop} (hh:A.handled=some (.ref c)) (hc:s.heap.get? c=some oc) (hdc:oc.data=.fields vc) (h2:vc[2]?=some .none) (hci:c ≠ it)
  (hI:s.heap.IsListIter it l i) (hL:s.heap.IsList l xs) (hx:xs[i]?=none) (fin:∀ h',Heap.ExtBut it s.heap h'->Q none { s with heap:=h' }):wpAny (model prog w) A (pyNext (.ref it)) Q E s:=by
 obtain ⟨o,ho,oc1,hd⟩:=id hI;obtain ⟨ol,hol,_,nl,hdl⟩:=hL;unfold pyNext;refine wpAny_bind (wpAny_attempt (wpAny_callSpecial?_slot (name:=Str.ofString "__next__") hI.typeIs slot_listiter_next (wpAny_call_entry slot_listiter_next hI.typeIs entry_listiter_next ?_ (args_listiter_next _))));show wpAny _ _ (field (.ref it) 0 >>= _) _ _ s;refine wpAny_bind (wpAny_field (x:=.ref l) ho hd rfl ?_);show wpAny _ _ (if (Value.ref l == Value.none)=true then _ else _) _ _ s;rw [if_neg (by simp:¬ (Value.ref l == Value.none)=true)];show wpAny _ _ (field (.ref it) 1 >>= _) _ _ s;refine wpAny_bind (wpAny_field (x:=.int i 0) ho hd rfl ?_);show wpAny _ _ (seqItems? (.ref l) >>= _) _ _ s;refine wpAny_bind (wpAny_seqItems hol hdl ?_);simp only [Int.toNat_natCast,hx];refine wpAny_bind (wpAny_rule (wpAny_bind (wpAny_setField ho hd (by simp) ?_)));show wpAny _ _ (newExc (.type "StopIteration") [] >>= raiseNew) _ _ _;refine wpAny_bind ?_;simp only [newExc,newTuple];refine wpAny_bind (wpAny_newObj_type ?_ (by size_fits));refine wpAny_bind (m:=firstArgMember _ _) (wpAny_of_eq (a:=Value.none) (by first | rfl | (simp only [firstArgMember]; rfl)) (wpAny_newObj_type ?_ (by size_fits)));have k1:=(get?_update_other s.heap (Obj.mapFields (·.setIfInBounds 0 Value.none)) (Ne.symm hci)).trans hc;refine Mq (c:=c) (show A.in1.handled=_ from hh) (fun z=>?_) (get?_push_of_some _ (get?_push_of_some _ k1)) hdc h2 (get?_push_size _ rfl) rfl (by simp; omega) ?_
 ·have:=lt_size (get?_push_of_some { cls:=.type "tuple", data:=.seq #[] } k1);rw [z] at this;exact absurd this (Nat.lt_irrefl _)
 ·refine wpAny_bind (wpAny_isInstance (T := "StopIteration") (b:=true) ⟨_,Heap.get?_update_self _ (get?_push_size _ rfl) rfl,rfl⟩ isSubtype_stop ?_);refine wpAny_pure (fin _ fun b u hb z=>?_);have z1:=(get?_update_other s.heap (Obj.mapFields (·.setIfInBounds 0 Value.none)) (Ne.symm hb)).trans z;have z2:=get?_push_of_some { cls:=.type "tuple", data:=.seq #[] } z1;rw [get?_update_other _ _ (Nat.ne_of_gt (lt_size z2))];exact get?_push_of_some _ z2
end
def Sft (X:Cx):Prop:=∃ e oe vs,X.A.handled=some (.ref e)/\(e,oe) ∈ X.pn/\oe.data=.fields vs/\vs[2]?=some .none
def Rdy (X:Cx):Prop:=X.calm=true\/Sft X
theorem IQ {p:Addr} {its:List Value} (hc:Rdy X) (I:Inv X aa σ H s) (pl:s.heap.IsList p its.toArray):∃ fp St,Walks X.prog X.w X.A.in1 s.heap.objs.size fp [s.heap.objs.size] its.toArray.size (fun i v=>its.toArray[i]?=some v) St /\
  St 0 (s.heap.push { cls:=.type "list_iterator", data:=.fields #[.ref p,.int 0 0] })/\∀ b ∈ fp,b < s.heap.objs.size + 1:=by
 have hp:p < s.heap.objs.size:=by obtain ⟨o,e,_⟩:=id pl; exact lt_size e
 have st0:(s.heap.push { cls:=.type "list_iterator", data:=.fields #[.ref p,.int 0 0] }).IsListIter s.heap.objs.size p 0/\(s.heap.push { cls:=.type "list_iterator", data:=.fields #[.ref p,.int 0 0] }).IsList p its.toArray :=
  ⟨⟨_,get?_push_size _ rfl,rfl,rfl⟩,pl.at fun o e=>get?_push_of_some _ e⟩
 rcases hc with hc | ⟨e,oe,vs,a,b,c,d⟩
 ·refine ⟨_,_,Walks.list (A:=X.A.in1) (show X.A.in1.handled=none from I.ok.hd hc) _ p (Nat.ne_of_lt hp) its.toArray,st0,fun b hb=>?_⟩;have z:b=s.heap.objs.size\/b=p:=by simpa using hb
  rcases z with rfl | rfl
  ·exact Nat.lt_succ_self _
  ·exact Nat.lt_succ_of_lt hp
 ·have he:=(I.pin (e,oe) (mem_append_left _ b)).1;have hlt:=lt_size he;refine ⟨[s.heap.objs.size,p,e],fun i h=>(h.IsListIter s.heap.objs.size p i/\h.IsList p its.toArray)/\h.get? e=some oe,⟨fun b hb=>by simp at hb; simp [hb],fun i h h' st k=>⟨⟨st.1.1.at fun o z=>k _ (by simp) o z,st.1.2.at fun o z=>k _ (by simp) o z⟩,k e (by simp) oe st.2⟩,?_,?_,fun _ _ _ _ st hQ=>wpAny_pyIter_listiter st.1.1 hQ⟩,⟨st0,get?_push_of_some _ he⟩,fun b hb=>?_⟩
  ·intro i s1 Q E hi st hQ;refine wpAny_pyNext_list_item st.1.1 st.1.2 (x:=its.toArray[i]) (by simp [hi]) fun h' t1 t2=>?_;exact hQ _ h' s1.toks (by simp [hi]) ⟨⟨t1,st.1.2.extBut t2.extBut (Nat.ne_of_lt hp)⟩,t2.extBut e oe (Nat.ne_of_lt hlt) st.2⟩ fun b o hb z=>t2.extBut b o (fun y=>hb (by simp [y])) z
  ·intro s1 Q E st hQ;exact En (show X.A.in1.handled=_ from a) st.2 c d (Nat.ne_of_lt hlt) st.1.1 st.1.2 (by simp) fun h' z=>hQ h' s1.toks fun b o hb y=>z b o (fun y'=>hb (by simp [y'])) y
  ·have z:b=s.heap.objs.size\/b=p\/b=e:=by simpa using hb
   rcases z with rfl | rfl | rfl
   ·exact Nat.lt_succ_self _
   ·exact Nat.lt_succ_of_lt hp
   ·exact Nat.lt_succ_of_lt hlt
def JI (a p:Addr):HO:=.ext fun h=>h.IsItemsView p a
def JJ (a p:Addr):HO:=.ext fun h=>h.IsValuesView p a
section
variable {o:Expr} {to:TE} {name:Str} {apos cpos:Pos} {id:String} {r:V->List V->Hp->VK->Prop}
theorem IR (slot:Slot "dict" name id) (hty:typeOf (.builtin id)=pure (.type "method_descriptor")) (hm:MtR X id r) (ho:PE X o to)
  (a6:attributeBase o name X.env (eval o X.env)=eval o X.env:=by rfl) (a7:(apos.endLine == cpos.line)=true:=by rfl) :
  PE X (.Call (.Attribute o name apos) [] [] cpos) (fun σ H Q=>to σ H fun x H1=>∃ a,x=.ref a/\IsD H1 a/\r x [] H1 Q):=by
 intro aa s σ H Q I h;refine wpAny_Call_method0_late a6 a7 (thn (ho aa s σ H _ I h) fun v s1 ⟨x,H1,I1,r1,a,ex,d,q1⟩=>?_);subst ex;cases r1;obtain ⟨t1,t2,_⟩:=Ku I1 d;exact ⟨"dict", id,PySem.F.plainAttrs_dict,slot,hty,t1,t2,Calls.callWith_builtin rfl (PySem.evalArgs_none (hm aa s1 σ H1 (.ref a) [] (.ref a) [] Q I1 rfl .nil q1))⟩
theorem K2:MtR X "dict.items" (fun x xs H Q=>∃ a kvs,x=.ref a/\xs=[]/\Rd H a (.dK kvs)/\∀ p,H p=none->Q (.ref p) (upd H p (JI a p))):=by
 intro aa s σ H x xs v us Q I rx rs h;obtain ⟨a,kvs,rfl,rfl,hd,q⟩:=h;cases rx;cases rs;obtain ⟨z,y,vs,rel,dd⟩:=Cj I.hok hd;refine call_meetsIn PySem.F.slot_dict_items dd.typeIs PySem.F.entry_dict_items (PySem.F.args_dict_items_1 _) (meets_dict_items (Ah X.prog X.w) a y) ⟨⟨vs,dd⟩,?_⟩;refine ⟨.ref s.heap.objs.size,_,I.laid (t':=s.toks) (o:=JI a s.heap.objs.size) (fun b o e=>get?_push_of_some _ e) (Nat.le_refl _) ⟨⟨_,get?_push_size _ rfl,rfl,rfl⟩,⟨_,get?_push_size _ rfl⟩,fun h1 h2 z k=>?_⟩,rfl,q _ (I.hok.fresh (Nat.le_refl _))⟩;obtain ⟨ob,e,r⟩:=z;exact ⟨ob,k ob e,r⟩
theorem Ft:MtR X "dict.values" (fun x xs H Q=>∃ a kvs,x=.ref a/\xs=[]/\Rd H a (.dK kvs)/\∀ p,H p=none->Q (.ref p) (upd H p (JJ a p))):=by
 intro aa s σ H x xs v us Q I rx rs h;obtain ⟨a,kvs,rfl,rfl,hd,q⟩:=h;cases rx;cases rs;obtain ⟨z,y,vs,rel,dd⟩:=Cj I.hok hd;refine call_meetsIn PySem.F.slot_dict_values dd.typeIs PySem.F.entry_dict_values (PySem.F.args_dict_values_1 _) (meets_dict_values (Ah X.prog X.w) a y) ⟨⟨vs,dd⟩,?_⟩;refine ⟨.ref s.heap.objs.size,_,I.laid (t':=s.toks) (o:=JJ a s.heap.objs.size) (fun b o e=>get?_push_of_some _ e) (Nat.le_refl _) ⟨⟨_,get?_push_size _ rfl,rfl,rfl⟩,⟨_,get?_push_size _ rfl⟩,fun h1 h2 z k=>?_⟩,rfl,q _ (I.hok.fresh (Nat.le_refl _))⟩;obtain ⟨ob,e,r⟩:=z;exact ⟨ob,k ob e,r⟩
theorem Br {α β:Type} {F:α->β->Prop}:∀ {xs:List α} {ys:List β},xs.length=ys.length->(∀ (j:Nat) x y,xs[j]?=some x->ys[j]?=some y->F x y)->Paired F xs ys
 | [],[],_,_=>.nil
 | [],_ :: _,h,_=>by simp at h
 | _ :: _,[],h,_=>by simp at h
 | x :: xs,y :: ys,h,k=>.cons (k 0 x y rfl rfl) (Br (by simpa using h) fun j a b ea eb=>k (j + 1) a b (by simpa using ea) (by simpa using eb))
theorem IS (hc:X.calm=true):BQ X (.type "list") (fun xs H Q=>∃ a kvs,xs=[.ref a]/\Rd H a (.dK kvs)/\∀ l,H l=none->Q (.ref l) (upd H l (.lst (kvs.map fun kv=>kV kv.1)))):=by
 intro aa s σ H xs us Q I r h;obtain ⟨a,kvs,rfl,hd,q⟩:=h;obtain ⟨u,rfl,ru⟩:=B5 r;cases ru;obtain ⟨z,y,vs,rel,dd⟩:=Cj I.hok hd;obtain ⟨ep,da⟩:=dd.dictAt;have hl:=rel.length;refine W.kdl_call (W.kdl_dict (knd:=Ah X.prog X.w) (kvs:=vs) (ep:=ep) y) (I.ok.hd hc) da (by rw [← hl]; exact z) fun h' tk acc c' keep e hit=>?_;refine ⟨.ref s.heap.objs.size,_,I.laid (t':=tk) keep (Nat.le_refl _) (show ObjOk X.prog X.w _ h' _ (.lst (kvs.map fun kv=>kV kv.1)) from ⟨by rw [length_map]; exact z,acc.toList,c',?_,by rw [Array.toArray_toList]; exact e⟩),rfl,q _ (I.hok.fresh (Nat.le_refl _))⟩
 refine Br (by have e0:acc.toList.length=acc.size:=by simp
               rw [length_map,e0,hit.1,hl]) fun j v w' ev ew=>?_
 rw [Array.getElem?_toList] at ew;obtain ⟨k,x,ex,hk⟩:=hit.2 j w' ew;rw [getElem?_map] at ev;cases e2:kvs[j]? with
 | none=>rw [e2] at ev; cases ev
 | some kv =>
  rw [e2] at ev;simp only [Option.map_some,Option.some.injEq] at ev;obtain ⟨v2,hv2,_⟩:=KV.get rel e2;rw [ex] at hv2;simp only [Option.some.injEq,Prod.mk.injEq] at hv2;rw [← ev,← hv2.1];exact Er hk
theorem FB (hc:X.calm=true):BQ X (.type "list") (fun xs H Q=>∃ p a kvs,xs=[.ref p]/\H p=some (JJ a p)/\Rd H a (.dK kvs)/\∀ l,H l=none->Q (.ref l) (upd H l (.lst (kvs.map (·.2))))):=by
 intro aa s σ H xs us Q I r h;obtain ⟨p,a,kvs,rfl,hp,hd,q⟩:=h;obtain ⟨u,rfl,ru⟩:=B5 r;cases ru;obtain ⟨z,y,vs,rel,dd⟩:=Cj I.hok hd;obtain ⟨ep,da⟩:=dd.dictAt;obtain ⟨hv,_⟩:=I.hok p _ hp;have hl:=rel.length;refine W.kdl_call (W.kdl_values (knd:=Ah X.prog X.w) (d:=a) (kvs:=vs) (ep:=ep)) (I.ok.hd hc) ⟨hv,da⟩ (by rw [← hl]; exact z) fun h' tk acc c' keep e hit=>?_;refine ⟨.ref s.heap.objs.size,_,I.laid (t':=tk) keep (Nat.le_refl _) (show ObjOk X.prog X.w _ h' _ (.lst (kvs.map (·.2))) from ⟨by rw [length_map]; exact z,acc.toList,c',?_,by rw [Array.toArray_toList]; exact e⟩),rfl,q _ (I.hok.fresh (Nat.le_refl _))⟩
 refine Br (by have e0:acc.toList.length=acc.size:=by simp
               rw [length_map,e0,hit.1,hl]) fun j v w' ev ew=>?_
 rw [Array.getElem?_toList] at ew;obtain ⟨k,ex⟩:=hit.2 j w' ew;rw [getElem?_map] at ev;cases e2:kvs[j]? with
 | none=>rw [e2] at ev; cases ev
 | some kv =>
  rw [e2] at ev;simp only [Option.map_some,Option.some.injEq] at ev;obtain ⟨v2,hv2,rv2⟩:=KV.get rel e2;rw [ex] at hv2;simp only [Option.some.injEq,Prod.mk.injEq] at hv2;rw [← ev,hv2.2];exact rv2
theorem D6 (hc:X.calm=true):BQ X (.builtin "sorted") (fun xs H Q=>∃ a kvs,xs=[.ref a]/\Rd H a (.dK kvs)/\kvs.length < 64/\(∀ kv ∈ kvs,∃ i,kv.1=Sum.inl i) /\
  ∀ (l:Addr) (ns:List Int),H l=none->ns.Perm (kvs.map fun kv=>match kv.1 with | Sum.inl i=>i | Sum.inr _=>0)->ns.Pairwise (· <= ·)->Q (.ref l) (upd H l (.lst (ns.map V.int)))):=by
 intro aa s σ H xs us Q I r h;obtain ⟨a,kvs,rfl,hd,h64,hk,q⟩:=h;obtain ⟨u,rfl,ru⟩:=B5 r;cases ru;obtain ⟨z,y,vs,rel,dd⟩:=Cj I.hok hd;obtain ⟨ep,da⟩:=dd.dictAt;have hl:=rel.length;refine Calls.call_function_entry kind_sorted plain_sorted entry_sorted (args_sorted1 _) ?_;unfold Builtin.«sorted»;refine wpAny_bind (m:=checkCount "sorted" 1 1 _) (wpAny_pure ?_);refine wpAny_bind (W.kdu_collect (A:=X.A.in1) (W.kdl_dict (knd:=Ah X.prog X.w) (kvs:=vs) (ep:=ep) y) (I.ok.hd hc) da (by rw [← hl]; exact z) fun h' tk acc keep hit=>?_)
 have ar:acc.toList.length=kvs.length:=by
  have e0:acc.toList.length=acc.size:=by simp
  rw [e0,hit.1,hl]
 refine wpAny_bind (wpAny_newList ?_ (by rw [ar]; exact z))
 have a5:IntsAre acc.toList (kvs.map fun kv=>match kv.1 with | Sum.inl i=>i | Sum.inr _=>0):=by
  refine CU (Br (by rw [length_map,length_map,ar]) fun j v w' ev ew=>?_);rw [Array.getElem?_toList] at ew;obtain ⟨k,x,ex,hkk⟩:=hit.2 j w' ew;rw [getElem?_map,getElem?_map] at ev;cases e2:kvs[j]? with
  | none=>rw [e2] at ev; cases ev
  | some kv =>
   rw [e2] at ev;simp only [Option.map_some,Option.some.injEq] at ev;obtain ⟨v2,hv2,_⟩:=KV.get rel e2;rw [ex] at hv2;simp only [Option.some.injEq,Prod.mk.injEq] at hv2;obtain ⟨i,hi⟩:=hk kv (mem_of_getElem? e2);rw [hv2.1,hi] at hkk;rw [← ev,hi];exact Er hkk
 have I1:Inv X aa σ H { s with heap:=h',toks:=tk }:=I.kept keep;have hoL:(h'.push { cls:=.type "list", data:=.seq acc.toList.toArray }).get? h'.objs.size=some (seqObj "list" acc.toList.toArray 0):=get?_push_size _ rfl;refine wpAny_bind (wpAny_holding (wpAny_call_entry slot_list_sort ⟨_,hoL,rfl⟩ entry_list_sort (list_sort_tree hoL a5 (by rw [ar]; exact h64) fun out ns' a1 a2 a3=>⟨_,rfl,?_⟩) (args_list_sort _)));refine wpAny_pure ⟨_,rfl,?_⟩;have hn:H h'.objs.size=none:=I1.hok.fresh (Nat.le_refl _);have ay:ns'.length=kvs.length:=by rw [a2.length_eq,length_map]
 refine ⟨.ref h'.objs.size,_,I1.laid (t':=tk) (o:=.lst (ns'.map V.int)) (h':=sortedHeap (h'.push { cls:=.type "list", data:=.seq acc.toList.toArray }) h'.objs.size acc.toList out) (fun b o e=>?_) (Nat.le_refl _) ⟨by rw [length_map,ay]; exact z,out.toList,?_⟩,rfl,q _ ns' hn a2 a3⟩
 ·rw [sortedHeap_old (Nat.ne_of_lt (lt_size e)) (lt_size (get?_push_of_some _ e))];exact get?_push_of_some _ e
 ·obtain ⟨c,hcx⟩:=sortedHeap_at (out:=out) hoL;exact ⟨c,DF a1,by rw [Array.toArray_toList]; exact hcx⟩
end
section
theorem FC (hc:X.calm=true):BQ X (.builtin "all") (fun xs H Q=>∃ (p:Addr) (bs:List Bool),xs=[.ref p]/\SqL X.K H p (bs.map V.bl)/\Q (.bl (bs.all id)) H):=by
 intro aa s σ H xs us Q I r h;obtain ⟨p,bs,rfl,hq,q⟩:=h;obtain ⟨u,rfl,ru⟩:=B5 r;cases ru;obtain ⟨its,rv,pl,hz⟩:=I.list hq;have hp:p < s.heap.objs.size:=by obtain ⟨o,n,e,_⟩:=id pl; exact lt_size e
 have ay:bs.length=its.length:=by have:=rv.length; rw [length_map] at this; exact this
 refine call_all_walk (wpAny_pyIter_list pl.isList ?_);refine ⟨_,_,_,_,_,_,fun i=>bs.getD i false,rfl,Walks.list (A:=X.A.in1) (show X.A.in1.handled=none from I.ok.hd hc) _ p (Nat.ne_of_lt hp) its.toArray,⟨⟨_,get?_push_size _ rfl,rfl,rfl⟩,pl.isList.at fun o e=>get?_push_of_some _ e⟩,fun i v s' Q' E' hP hQ=>?_,fun h' tk keep=>?_⟩
 ·have hv:its[i]?=some v:=by simpa using hP
  have hi:i < its.length:=(List.getElem?_eq_some_iff.mp hv).1;have hb:bs[i]?=some (bs[i]'(by omega)):=List.getElem?_eq_getElem (by omega);obtain ⟨u',hu',ru'⟩:=rv.get (i:=i) (x:=V.bl (bs[i]'(by omega))) (by rw [getElem?_map,hb]; rfl);rw [hv] at hu';cases hu';cases (show v=Value.bool _ from ru');refine wpAny_truthy_bool ?_;have hQ':Q' (bs.getD i false) s':=hQ;rw [getD_eq_getElem?_getD,hb] at hQ';exact hQ'
 ·have I1:Inv X aa σ H { s with heap:=h',toks:=tk }:=I.kept fun b o e=>keep b o (by simp; exact Nat.ne_of_lt (lt_size e)) (get?_push_of_some _ e);refine ⟨.bl _,H,I1,rfl,?_⟩
  have e:(List.range its.toArray.size).all (fun i=>bs.getD i false)=bs.all id:=by
   rw [size_toArray,← ay,Bool.eq_iff_iff,List.all_eq_true,List.all_eq_true];constructor
   ·intro h b hb;obtain ⟨i,hi,rfl⟩:=List.mem_iff_getElem.mp hb;have:=h i (mem_range.mpr hi);rw [getD_eq_getElem?_getD,List.getElem?_eq_getElem hi] at this;exact this
   ·intro h i hi;have hi':=mem_range.mp hi;rw [getD_eq_getElem?_getD,List.getElem?_eq_getElem hi'];exact h _ (List.getElem_mem hi')
  rw [e];exact q
theorem C0 (ns:List Int):∀ k,k <= ns.length->preSum (fun i=>ns.getD i 0) k=(ns.take k).sum
 | 0,_=>by simp [preSum]
 | k + 1,h=>by
  have ih:=C0 ns k (by omega);have hk:k < ns.length:=by omega
  simp only [preSum,ih];rw [take_add_one,List.getElem?_eq_getElem hk,sum_append];simp [getD_eq_getElem?_getD,List.getElem?_eq_getElem hk]
theorem Jv (hc:Rdy X):BQ X (.builtin "sum") (fun xs H Q=>∃ (p:Addr) (ns:List Int),xs=[.ref p]/\SqL X.K H p (ns.map V.int)/\(∀ n ∈ ns,0 <= n)/\ns.sum < 2 ^ 62/\Q (.int ns.sum) H):=by
 intro aa s σ H xs us Q I r h;obtain ⟨p,ns,rfl,hq,hnn,hsum,q⟩:=h;obtain ⟨u,rfl,ru⟩:=B5 r;cases ru;obtain ⟨its,rv,pl,hz⟩:=I.list hq;have hp:p < s.heap.objs.size:=by obtain ⟨o,n,e,_⟩:=id pl; exact lt_size e
 have ay:ns.length=its.length:=by have:=rv.length; rw [length_map] at this; exact this
 have tk0:∀ k,0 <= (ns.take k).sum:=fun k=>by
  have:∀ l:List Int,(∀ n ∈ l,0 <= n)->0 <= l.sum:=fun l=>by
   induction l with
   | nil=>intro _; simp
   | cons a r ih=>intro h; rw [sum_cons]; have:=h a mem_cons_self; have:=ih fun n hn=>h n (mem_cons_of_mem _ hn); omega
  exact this _ fun n hn=>hnn n (mem_of_mem_take hn)
 have tkle:∀ k,(ns.take k).sum <= ns.sum:=fun k=>by
  have e:ns.sum=(ns.take k).sum + (ns.drop k).sum:=by rw [← sum_append,List.take_append_drop]
  have:∀ l:List Int,(∀ n ∈ l,0 <= n)->0 <= l.sum:=fun l=>by
   induction l with
   | nil=>intro _; simp
   | cons a r ih=>intro h; rw [sum_cons]; have:=h a mem_cons_self; have:=ih fun n hn=>h n (mem_cons_of_mem _ hn); omega
  have:=this _ fun n hn=>hnn n (List.mem_of_mem_drop (i:=k) hn);omega
 refine call_sum_walk (wpAny_pyIter_list pl.isList ?_);obtain ⟨fp,St,W,st0,hfp⟩:=IQ hc I pl.isList;refine ⟨_,_,_,_,_,_,fun i=>ns.getD i 0,rfl,W,st0,fun b hb=>?_,fun i v hP=>?_,fun j hj=>?_,fun h' tk t' keep=>?_⟩
 ·have hs:(s.heap.push { cls:=.type "list_iterator", data:=.fields #[.ref p,.int 0 0] }).objs.size=s.heap.objs.size + 1:=size_push ..;show b < (s.heap.push { cls:=.type "list_iterator", data:=.fields #[.ref p,.int 0 0] }).objs.size;rw [hs];exact hfp b hb
 ·have hv:its[i]?=some v:=by simpa using hP
  have hi:i < its.length:=(List.getElem?_eq_some_iff.mp hv).1;have hb:ns[i]?=some (ns[i]'(by omega)):=List.getElem?_eq_getElem (by omega);obtain ⟨u',hu',t,ru'⟩:=rv.get (i:=i) (x:=V.int (ns[i]'(by omega))) (by rw [getElem?_map,hb]; rfl);rw [hv] at hu';cases hu';refine ⟨t,?_⟩;show v=Value.int (ns.getD i 0) t;rw [ru',getD_eq_getElem?_getD,hb];rfl
 ·have hj':j < ns.length:=by rw [size_toArray] at hj; omega
  rw [C0 ns (j + 1) (by omega)];have h1:=tk0 (j + 1);have h2:=tkle (j + 1);have h3:ns.getD j 0=ns[j]:=by rw [getD_eq_getElem?_getD,List.getElem?_eq_getElem hj']; rfl
  have h4:=hnn _ (List.getElem_mem hj');have h5:(ns.take (j + 1)).sum=(ns.take j).sum + ns[j]:=by rw [take_add_one,List.getElem?_eq_getElem hj',sum_append]; simp
  have h6:=tk0 j;show InLong (ns.getD j 0)/\InLong _;unfold InLong;rw [h3];omega
 ·have I1:Inv X aa σ H { s with heap:=h',toks:=tk }:=I.kept fun b o e=>keep b o (by simp; exact Nat.ne_of_lt (lt_size e)) (get?_push_of_some _ e);refine ⟨.int ns.sum,H,I1,⟨t',?_⟩,q⟩;rw [size_toArray,← ay,C0 ns ns.length (Nat.le_refl _),take_length]
theorem K3 (hc:X.calm=true):BQ X (.builtin "sum") (fun xs H Q=>∃ (p:Addr) (ns:List Int),xs=[.ref p]/\SqL X.K H p (ns.map V.int)/\(∀ n ∈ ns,0 <= n)/\ns.sum < 2 ^ 62/\Q (.int ns.sum) H):=Jv (.inl hc)
theorem GZ:MtR X "int.bit_length" (fun x xs H Q=>∃ i,x=.int i/\xs=[]/\Q (.int (Builtin.Int.intBits i)) H):=by
 intro aa s σ H x xs v us Q I rx rs h;obtain ⟨i,rfl,rfl,q⟩:=h;obtain ⟨t,rfl⟩:=rx;cases rs;exact call_int_bit_length ⟨.int _,H,I.tok _,⟨_,rfl⟩,q⟩
theorem Bs:OpR X (compareOp .LtE) (fun x y H Q=>∃ i j,x=.str i/\y=.str j/\Q (.bl (!decide (j.cps.toList < i.cps.toList))) H):=by
 intro aa s σ H x y v u Q I rx ry h;obtain ⟨i,j,rfl,rfl,q⟩:=h;obtain ⟨t,rfl⟩:=rx;obtain ⟨t',rfl⟩:=ry;exact PySem.P.le_str (Ai I q rfl)
theorem Fa:MtR X "dict.setdefault" (fun x xs H Q=>∃ a kvs k v,x=.ref a/\xs=[kV k,v]/\H a=some (.dK kvs)/\kvs.length < sizeLine /\
  (∀ w,A7 kvs k=some w->Q w H)/\(A7 kvs k=none->Q v (upd H a (.dK (CG kvs k v))))):=by
 intro aa s σ H x xs u us Q I rx rs h;obtain ⟨a,kvs,k,v,rfl,rfl,hd,hl,q1,q2⟩:=h;cases rx;obtain ⟨uk,uv,rfl,rk,rv⟩:=E1 rs;obtain ⟨z,y,vs,rel,dd⟩:=Kt I.hok hd;refine call_meetsIn PySem.F.slot_dict_setdefault dd.typeIs PySem.F.entry_dict_setdefault (PySem.F.args_dict_setdefault_3 _ _ _) (PySem.kt_meets_setdefault (Ah X.prog X.w) a (E5 rk) y uv) ⟨vs,dd,by rw [← rel.length]; exact z,fun w' hw=>?_,fun hn h' dd' hs=>?_⟩
 ·have rr:=rel.val k;rw [hw] at rr;cases e:A7 kvs k with
  | none=>rw [e] at rr; exact False.elim rr
  | some w=>rw [e] at rr; exact ⟨w,H,I.tok _,rr,q1 w e⟩
 ·have rr:=rel.val k;rw [hn] at rr
  have e:A7 kvs k=none:=by
   cases e:A7 kvs k with
   | none=>rfl
   | some w=>rw [e] at rr; exact False.elim rr
  have he:∃ q,h'.get? a=some q:=let ⟨q,_,_,hq,_⟩:=dd'; ⟨q,hq⟩
  have hl':(CG kvs k v).length <= sizeLine:=by have:=B8 kvs k v; omega
  exact ⟨v,_,Ep I (by rw [hd]; exact True.intro) hs he (IK hl' y (rel.put k rv) dd'),rv,q2 e⟩
theorem K4:BQ X (.builtin "isinstance") (fun xs H Q=>∃ v T t b,xs=[v,.ty T]/\TyOf X.K H v t/\W.kitOne X.K t (.type T)=some b/\Q (.bl b) H):=by
 intro aa s σ H xs us Q I r h;obtain ⟨v,T,t,b,rfl,ty,hk,q⟩:=h;obtain ⟨u,uT,rfl,ru,ruT⟩:=E1 r;cases (show uT=Value.type T from ruT);exact Fg I ru ty hk fun tk=>⟨.bl b,H,I.tok tk,rfl,q⟩
end
def HF (d:Int):List Int->Int
 | []=>d
 | n :: r=>r.foldl max n
theorem Fu (d:Int) (ns:List Int) (n:Int) (h:ns ≠ []):HF d (ns++[n])=max (HF d ns) n:=by
 cases ns with
 | nil=>exact absurd rfl h
 | cons a r=>show (r++[n]).foldl max a=_; rw [foldl_append]; rfl
theorem Jw (a v:Value):argsOk "max" ⟨[a],[(Str.ofString "default", v)]⟩:=by unfold argsOk; kernel_rfl
section
variable {prog:Program} {R:Result->Shared->Prop} {p I S:Addr} {its:List Value} {ns:List Int} {d:Value}
def K5:Option (Int × Tok)->Array Value
 | none=>#[]
 | some (m,t)=>#[.int m t,.int m t]
theorem Jx (hh:A.handled=none) (a5:IntsAre its ns) (hpI:p ≠ I) (hSI:S ≠ I) (hpS:p ≠ S)
  (hR:∀ h' tk v,(∀ b o,b ≠ I->b ≠ S->s.heap.get? b=some o->h'.get? b=some o)->(ns=[]->v=d)->(ns ≠ []->∃ t,v=.int (HF 0 ns) t)->R (.ok (.ret v)) { s with heap:=h',toks:=tk }) :
  ∀ (k i:Nat) (h:Heap) (tk c:Nat) (b:Option (Int × Tok)),its.length - i=k->i <= its.length->h.IsListIter I p i->h.IsList p its.toArray->h.get? S=some { cls:=.type "list", data:=.seq (K5 b) c } ->
   (b=none->i=0)->(∀ m t,b=some (m,t)->0 < i/\m=HF 0 (ns.take i))->(∀ b' o,b' ≠ I->b' ≠ S->s.heap.get? b'=some o->h.get? b'=some o) ->
   codeAny (model prog w) A (.builtin "max.loop" ⟨[.ref I,.none,.ref S],[(Str.ofString "default", d)]⟩) R { s with heap:=h,toks:=tk }:=by
 have ba:(toString "max" ++ toString ".loop" : String) = "max.loop" := by decide
 have ay:=a5.length;intro k;induction k with
 | zero =>
  intro i h tk c b hk hi hit hl hS hb0 hb1 keep;have e:i=its.length:=by omega
  refine codeAny_builtin PySem.F.entry_max_loop ?_;rw [Around.under_plainId PySem.F.plain_max_loop _];show wpAny _ A.in1 (seqItems? (.ref S) >>= _) _ _ _;refine wpAny_bind (wpAny_seqItems hS rfl ?_);show wpAny _ A.in1 (tryCatch (pyNext (.ref I)) _ >>= _) _ _ _;refine wpAny_bind (wpAny_tryCatch (wpAny_pyNext_list_end (show A.in1.handled=none from hh) hit hl (by simp; omega) fun h' eb=>?_));cases b with
  | none =>
   have hn:ns=[]:=by
    have:=hb0 rfl;exact List.eq_nil_of_length_eq_zero (by omega)
   exact wpAny_bind (wpAny_rule (wpAny_pure (hR h' tk d (fun b o h1 h2 q=>eb b o h1 (keep b o h1 h2 q)) (fun _=>rfl) fun z=>absurd hn z)))
  | some mt =>
   obtain ⟨m,t⟩:=mt;obtain ⟨hpos,hm⟩:=hb1 m t rfl
   have av:ns ≠ []:=fun z=>by
    have:its.length=0:=by rw [ay,z]; rfl
    omega
   show wpAny _ A.in1 (updateSeq S (fun _=>#[]) >>= _) _ _ _;refine wpAny_bind (wpAny_updateSeq (eb S _ hSI hS) rfl (wpAny_bind (wpAny_letGo (wpAny_pure ?_))) sl2);refine hR _ tk _ (fun b o h1 h2 q=>(get?_update_other _ _ (Ne.symm h2)).trans (eb b o h1 (keep b o h1 h2 q))) (fun z=>absurd z av) fun _=>⟨t,?_⟩;rw [hm,e,ay,take_length]
 | succ k ih =>
  intro i h tk c b hk hi hit hl hS hb0 hb1 keep;have hlt:i < its.length:=by omega
  have hv:its[i]?=some its[i]:=List.getElem?_eq_getElem hlt
  obtain ⟨n,t,hn,hvt⟩:∃ n t,ns[i]?=some n/\its[i]=.int n t:=by
   have hi2:i < ns.length:=by omega
   obtain ⟨u,hu,t,ru⟩:=(DF a5).get (i:=i) (x:=V.int ns[i]) (by rw [getElem?_map,List.getElem?_eq_getElem hi2]; rfl);rw [hv] at hu;exact ⟨ns[i],t,List.getElem?_eq_getElem hi2,(Option.some.inj hu).trans ru⟩
  refine codeAny_builtin PySem.F.entry_max_loop ?_;rw [Around.under_plainId PySem.F.plain_max_loop _];show wpAny _ A.in1 (seqItems? (.ref S) >>= _) _ _ _;refine wpAny_bind (wpAny_seqItems hS rfl ?_);show wpAny _ A.in1 (tryCatch (pyNext (.ref I)) _ >>= _) _ _ _;refine wpAny_bind (wpAny_tryCatch (wpAny_pyNext_list_item hit hl (x:=.int n t) (by simpa [hvt] using hv) fun h' hit' sb=>?_));have hS':h'.get? S=some { cls:=.type "list", data:=.seq (K5 b) c }:=(sb.2 S hSI).trans hS;have hl':h'.IsList p its.toArray:=hl.at fun o q=>(sb.2 p hpI).trans q;have keep':∀ b' o,b' ≠ I->b' ≠ S->s.heap.get? b'=some o->h'.get? b'=some o:=fun b' o h1 h2 q=>(sb.2 b' h1).trans (keep b' o h1 h2 q);have etk:ns.take (i + 1)=ns.take i++[n]:=by rw [take_add_one,hn]; rfl
  have store:∀ c0,(∀ v,v=Value.int n t->(h'.update S (Obj.mapSeq fun _=>#[v,v])).get? S=some { cls:=.type "list", data:=.seq (K5 (some (n,t))) c0 })->n=HF 0 (ns.take (i + 1)) ->
    codeAny (model prog w) A (.builtin "max.loop" ⟨[.ref I,.none,.ref S],[(Str.ofString "default", d)]⟩) R { s with heap:=h'.update S (Obj.mapSeq fun _=>#[.int n t,.int n t]),toks:=tk }:=fun c0 e0 em =>
   ih (i + 1) _ tk c0 (some (n,t)) (by omega) hlt (hit'.at fun o q=>(get?_update_other _ _ hSI).trans q) (hl'.at fun o q=>(get?_update_other _ _ (Ne.symm hpS)).trans q) (e0 _ rfl) (fun z=>by cases z)
    (fun m t' z=>by cases z; exact ⟨Nat.succ_pos _,em⟩) fun b' o h1 h2 q=>(get?_update_other _ _ (Ne.symm h2)).trans (keep' b' o h1 h2 q)
  cases b with
  | none =>
   have hi0:=hb0 rfl;show wpAny _ A.in1 (updateSeq S (fun _=>#[Value.int n t,Value.int n t]) >>= _) _ _ _;refine wpAny_bind (wpAny_updateSeq hS' rfl ?_);rw [ba];refine wpAny_pure ⟨plainId_quiet PySem.F.plain_max_loop _,store _ (fun v e=>by subst e; exact get?_update_seq hS' fun _=>#[_,_]) ?_⟩;rw [etk,hi0];rfl
  | some mt =>
   obtain ⟨m,t0⟩:=mt;obtain ⟨hpos,hm⟩:=hb1 m t0 rfl
   have av:ns.take i ≠ []:=fun z=>by
    have:=congrArg List.length z;rw [length_take,length_nil] at this;omega
   show wpAny _ A.in1 (tryCatch (holding [Value.int n t,Value.int n t] (richCompare .Gt (.int n t) (.int m t0) >>= _)) _ >>= _) _ _ _
   refine wpAny_bind (wpAny_tryCatch (wpAny_holding (wpAny_bind (CmpOf.ints_gt (P:=fun i v=>(i=0/\v=.int n t)\/(i=1/\v=.int m t0)) (fun i=>if i=0 then n else m) (fun i v h=>by
    rcases h with ⟨rfl,rfl⟩ | ⟨rfl,rfl⟩
    ·exact ⟨t,rfl⟩
    ·exact ⟨t0,rfl⟩) 0 1 _ _ _ _ _ (.inl ⟨rfl,rfl⟩) (.inr ⟨rfl,rfl⟩) ?_))))
   refine wpAny_bind (wpAny_holding (wpAny_truthy_bool ?_));refine wpAny_bind (wpAny_letGo (wpAny_pure ?_));by_cases hgt:n > m
   ·have e1:(fun (i j:Nat)=>decide ((if i=0 then n else m) > if j=0 then n else m)) 0 1=true:=decide_eq_true hgt;rw [e1];simp only [if_true];refine wpAny_bind (wpAny_updateSeq hS' rfl (wpAny_bind (wpAny_letGo ?_)) sl2);rw [ba];refine wpAny_pure ⟨plainId_quiet PySem.F.plain_max_loop _,store _ (fun v e=>by subst e; exact get?_update_seq hS' fun _=>#[_,_]) ?_⟩;rw [etk,Fu 0 _ n av,← hm];omega
   ·have e1:(fun (i j:Nat)=>decide ((if i=0 then n else m) > if j=0 then n else m)) 0 1=false:=decide_eq_false hgt;rw [e1];simp only [Bool.false_eq_true,if_false];refine wpAny_bind (wpAny_letGo ?_);rw [ba]
    refine wpAny_pure ⟨plainId_quiet PySem.F.plain_max_loop _,ih (i + 1) _ tk c (some (m,t0)) (by omega) hlt hit' hl' hS' (fun z=>by cases z) (fun m' t' z=>by
     cases z;refine ⟨Nat.succ_pos _,?_⟩;rw [etk,Fu 0 _ n av,← hm]
     omega) keep'⟩
end
section
variable {c:Expr} {tc:TE} {p kp:Pos}
theorem JK (hc:X.calm=true) (hg:Gl X "max") (hm:X.mg "max" = none) (he:PE X e te) (hcc:PE X c tc) (hs:starEach [e] X.env=(false,eval e X.env) :: starEach [] X.env:=by rfl)
  (hs2:backTo pos (starEach [e] X.env)=(false,eval e X.env) :: backTo pos (starEach [] X.env):=by rfl) :
  PE X (.Call (.Name "max" p) [e] [⟨some "default", c,kp⟩] pos) (fun σ H Q=>te σ H fun x H1=>tc σ H1 fun y H2=>∃ (a:Addr) (ns:List Int) (d:Int),x=.ref a/\y=.int d/\SqL X.K H2 a (ns.map V.int)/\(ns=[]->Q (.int d) H2)/\(ns ≠ []->Q (.int (HF 0 ns)) H2)):=by
 intro aa s σ H Q I h;refine wpAny_Call_Name_kw (DR (u:=.builtin "max") I hg hm boot_max ?_)
 let R3:V->V->Hp->Prop:=fun x y H2=>∃ (a:Addr) (ns:List Int) (d:Int),x=.ref a/\y=.int d/\SqL X.K H2 a (ns.map V.int)/\(ns=[]->Q (.int d) H2)/\(ns ≠ []->Q (.int (HF 0 ns)) H2)
 refine callWith_kw (thn ((AA he AC hs:PA X [e] (Ay te F9)) pos aa s σ H (fun vs H1=>match vs with | [x]=>tc σ H1 (fun y H2=>R3 x y H2) | _=>False) I h) fun us s1 ⟨vs,H1,I1,r1,q1⟩=>?_) hs2 (by rw [hs2]; rfl)
 match vs,r1,q1 with
 | [x],r1,q1 =>
  refine thn ((GG (nm:=some "default") (kpos:=kp) hcc IG:PK X [⟨some "default", c,kp⟩] (Ay tc F9)) pos aa s1 σ H1 (fun vs H2=>match vs with | [y]=>R3 x y H2 | _=>False) I1 q1) fun us2 s2 ⟨vs2,H2,I2,r2,q2⟩=>?_
  match vs2,r2,q2 with
  | [y],r2,q2 =>
   obtain ⟨a,ns,d,rfl,rfl,hq,k1,k2⟩:=q2;obtain ⟨u,rfl,ru⟩:=B5 r1;cases ru;obtain ⟨ud,rfl,td,rud⟩:=B5 r2;subst rud;obtain ⟨its,rv,pl,hz⟩:=I2.list hq;have hp:a < s2.heap.objs.size:=by obtain ⟨o,n,e,_⟩:=id pl; exact lt_size e
   show wpAny _ _ (call (.builtin "max") [.ref a] [(Str.ofString "default", .int d td)]) _ _ _;refine PyProof.Rows.kmk_tree PySem.F.kind_max PySem.F.plain_max PySem.F.entry_max (Jw _ _) ?_;show wpAny _ X.A.in1 (Builtin.Builtins.bindParams "max" ["key", "default"] 0 ⟨[],[(Str.ofString "default", .int d td)]⟩ >>= _) _ _ _;refine wpAny_bind (wpAny_of_eq (show Builtin.Builtins.bindParams "max" ["key", "default"] 0 ⟨[],[(Str.ofString "default", Value.int d td)]⟩=pure [none,some (.int d td)] from rfl) ?_);refine wpAny_bind (wpAny_pure ?_);refine wpAny_bind (wpAny_pyIter_list pl.isList ?_);refine wpAny_bind (wpAny_newList ?_ (Nat.zero_le _));have ba:(toString "max" ++ toString ".loop" : String) = "max.loop" := by decide
   rw [ba];have hS:(s2.heap.push { cls:=.type "list_iterator", data:=.fields #[.ref a,.int 0 0] }).objs.size=s2.heap.objs.size + 1:=size_push ..
   refine wpAny_pure ⟨plainId_quiet PySem.F.plain_max_loop _,Jx (its:=its) (ns:=ns) (s:=s2) (I.ok.hd hc) (CU rv) (Nat.ne_of_lt hp) (by rw [hS]; exact Nat.succ_ne_self _) (by rw [hS]; exact Nat.ne_of_lt (Nat.lt_succ_of_lt hp))
    (fun h' tk v keep e1 e2=>?_) _ 0 _ _ 0 none rfl (Nat.zero_le _) ⟨_,get?_push_of_some _ (get?_push_size _ rfl),rfl,rfl⟩ (pl.isList.at fun o q=>get?_push_of_some _ (get?_push_of_some _ q)) (get?_push_size _ rfl) (fun _=>rfl) (fun m t z=>by cases z) fun b o h1 h2 q=>get?_push_of_some _ (get?_push_of_some _ q)⟩
   have I3:Inv X aa σ H2 { s2 with heap:=h',toks:=tk }:=I2.kept fun b o q=>keep b o (Nat.ne_of_lt (lt_size q)) (by rw [hS]; exact Nat.ne_of_lt (Nat.lt_succ_of_lt (lt_size q))) q;by_cases hn:ns=[]
   ·rw [e1 hn];exact ⟨.int d,H2,I3,⟨td,rfl⟩,k1 hn⟩
   ·obtain ⟨t,ev⟩:=e2 hn;rw [ev];exact ⟨.int _,H2,I3,⟨t,rfl⟩,k2 hn⟩
end
def TupsAt (H:Hp):List Addr->List (V × V)->Prop:=Paired fun b p=>H b=some (.tup [p.1,p.2])
theorem TupsAt.same {as:List Addr} {ps:List (V × V)} (s:∀ b o,H b=some o->H' b=some o) (h:TupsAt H as ps):TupsAt H' as ps:=Paired.mapP h fun _ _ e=>s _ _ e
theorem Inv.trackTups {as:List Addr} {ps:List (V × V)} (hr:Paired (fun a (p:V × V)=>∃ its,Vals [p.1,p.2] its/\IsTup s.heap a its.toArray) as ps):∀ (H:Hp),Inv X aa σ H s->as.Pairwise (· < ·) ->
  (∀ a ∈ as,H a=none/\a ≠ X.env.locals/\X.s₀.heap.objs.size <= a/\(∀ x c,X.env.cells.lookup x=some c->c ≠ a)/\∀ q ∈ X.pn++aa,q.1 ≠ a)->∃ H',Inv X aa σ H' s/\Same H H'/\TupsAt H' as ps:=by
 induction hr with
 | nil=>intro H I _ _; exact ⟨H,I,Same.refl H,.nil⟩
 | @cons a p as ps h hr ih =>
  intro H I hp hok;obtain ⟨its,hv,ht⟩:=h;obtain ⟨p1,p2⟩:=List.pairwise_cons.mp hp;obtain ⟨o1,o2,o3,o4,o5⟩:=hok a mem_cons_self;have I1:Inv X aa σ (upd H a (.tup [p.1,p.2])) s:=I.track o1 o2 (.inr o3) o4 o5 ⟨by show 2 <= sizeLine; decide,its,hv,ht⟩;have s1:Same H (upd H a (.tup [p.1,p.2])):=fun b u e=>by rw [AF (AH e o1)]; exact e
  obtain ⟨H',I',s',t'⟩:=ih _ I1 p2 (fun b hb=>by
   obtain ⟨q1,q2⟩:=hok b (mem_cons_of_mem _ hb)
   exact ⟨by rw [AF (Nat.ne_of_gt (p1 b hb))]; exact q1,q2⟩)
  exact ⟨H',I',s1.trans s',.cons (s' _ _ AB) t'⟩
theorem IT (hc:X.calm=true):BQ X (.type "list") (fun xs H Q=>∃ p a kvs,xs=[.ref p]/\H p=some (JI a p)/\Rd H a (.dK kvs) /\
  ∀ l as H',Same H H'->H l=none->H' l=some (.lst (as.map V.ref))->TupsAt H' as (kvs.map fun kv=>(kV kv.1,kv.2))->Q (.ref l) H'):=by
 intro aa s σ H xs us Q I r h;obtain ⟨p,a,kvs,rfl,hp,hd,q⟩:=h;obtain ⟨u,rfl,ru⟩:=B5 r;cases ru;obtain ⟨z,y,vs,rel,dd⟩:=Cj I.hok hd;obtain ⟨ep,da⟩:=dd.dictAt;obtain ⟨hv,_⟩:=I.hok p _ hp;have hl:=rel.length;refine W.kdx_call (knd:=Ah X.prog X.w) (kvs:=vs) (ep:=ep) (I.ok.hd hc) hv da (by rw [← hl]; exact z) fun h' tk acc c as keep e ay G bq=>?_;have I1:Inv X aa σ H { s with heap:=h',toks:=tk }:=I.kept keep;obtain ⟨n1,n2,n3,n4,n5⟩:=I.newOk (Nat.le_refl s.heap.objs.size);have el:acc=(as.map Value.ref).toArray:=by rw [← bq]
 have I2:Inv X aa σ (upd H s.heap.objs.size (.lst (as.map V.ref))) { s with heap:=h',toks:=tk }:=I1.track n1 n2 (.inr n3) n4 n5 ⟨by rw [length_map,ay,← hl]; exact z,as.map Value.ref,c,Br (by rw [length_map,length_map]) fun j v w' ev ew=>by
  rw [getElem?_map] at ev ew;cases e2:as[j]? with
  | none=>rw [e2] at ev; cases ev
  | some b=>rw [e2] at ev ew; cases ev; cases ew; rfl,by rw [← el]; exact e⟩
 have hpp:Paired (fun a (p:V × V)=>∃ its,Vals [p.1,p.2] its/\IsTup h' a its.toArray) as (kvs.map fun kv=>(kV kv.1,kv.2)):=(Br (by rw [length_map,ay,hl]) fun j b pr eb ep'=>by
   obtain ⟨key,k,x,ex,hk,ho⟩:=G.pairs j b eb;rw [getElem?_map] at ep';cases e2:kvs[j]? with
   | none=>rw [e2] at ep'; cases ep'
   | some kv =>
    rw [e2] at ep';simp only [Option.map_some,Option.some.injEq] at ep';obtain ⟨v2,hv2,rv2⟩:=KV.get rel e2;rw [ex] at hv2;simp only [Option.some.injEq,Prod.mk.injEq] at hv2;subst ep';refine ⟨[key,x],.cons ?_ (.cons ?_ .nil),_,ho,rfl,_,rfl⟩
    ·show RelV (kV kv.1) key;rw [← hv2.1]; exact Er hk
    ·show RelV kv.2 x
     rw [hv2.2]; exact rv2)
 obtain ⟨H',I',s',t'⟩:=Inv.trackTups (s:={ s with heap:=h',toks:=tk }) hpp _ I2 G.rise (fun b hb=>by
   have hgt:=G.above b hb;obtain ⟨m1,m2,m3,m4,m5⟩:=I.newOk (Nat.le_of_lt hgt)
   exact ⟨by rw [AF (Nat.ne_of_gt hgt)]; exact m1,m2,m3,m4,m5⟩)
 exact ⟨.ref s.heap.objs.size,H',I',rfl,q _ as H' (fun b u e=>s' b u (by rw [AF (AH e n1)]; exact e)) n1 (s' _ _ AB) t'⟩
mutual
def CK (K:FG) (H:Hp):PyData->V->Prop
 | .none,v=>v=.non
 | .bool b,v=>v=.bl b
 | .int i,v=>v=.int i
 | .str x,v=>v=.str x
 | .list ds,v=>∃ a xs,v=.ref a/\SqL K H a xs/\BG K H ds xs
 | .tuple ds,v=>∃ a xs,v=.ref a/\SqT K H a xs/\BG K H ds xs
 | .dict _,_=>False
def BG (K:FG) (H:Hp):List PyData->List V->Prop
 | [],xs=>xs=[]
 | d :: ds,xs=>∃ x r,xs=x :: r/\CK K H d x/\BG K H ds r
end
section
mutual
theorem Inv.reads (I:Inv X aa σ H s):∀ (d:PyData) (v:V) (u:Value),RelV v u->CK X.K H d v->∃ as,Reads s.heap u d as
 | .none,v,u,r,h=>by
  have e:v=.non:=by simpa [CK] using h
  subst e; cases r; exact ⟨_,.none⟩
 | .bool b,v,u,r,h=>by
  have e:v=.bl b:=by simpa [CK] using h
  subst e; cases r; exact ⟨_,.bool b⟩
 | .int i,v,u,r,h=>by
  have e:v=.int i:=by simpa [CK] using h
  subst e; obtain ⟨t,rfl⟩:=r; exact ⟨_,.int i t⟩
 | .str x,v,u,r,h=>by
  have e:v=.str x:=by simpa [CK] using h
  subst e; obtain ⟨t,rfl⟩:=r; exact ⟨_,.str x t⟩
 | .list ds,v,u,r,h=>by
  rw [CK] at h;obtain ⟨a,xs,rfl,hq,hd⟩:=h;cases r;obtain ⟨its,rv,⟨o,n,e,c,_,dd⟩,_⟩:=I.list hq;obtain ⟨as,hr⟩:=I.readsAll ds xs its rv hd;exact ⟨_,.list e c dd (by simpa using hr)⟩
 | .tuple ds,v,u,r,h=>by
  rw [CK] at h;obtain ⟨a,xs,rfl,hq,hd⟩:=h;cases r;obtain ⟨its,rv,⟨o,e,c,n,dd⟩,_⟩:=I.tuple hq;obtain ⟨as,hr⟩:=I.readsAll ds xs its rv hd;exact ⟨_,.tuple e c dd (by simpa using hr)⟩
 | .dict kvs,v,u,r,h=>by
  rw [CK] at h;exact h.elim
theorem Inv.readsAll (I:Inv X aa σ H s):∀ (ds:List PyData) (xs:List V) (us:List Value),Vals xs us->BG X.K H ds xs->∃ as,ReadsAll s.heap us ds as
 | [],xs,us,r,h=>by
  have e:xs=[]:=by simpa [BG] using h
  subst e; cases r; exact ⟨_,.nil⟩
 | d :: ds,xs,us,r,h=>by
  rw [BG] at h;obtain ⟨x,xr,rfl,h1,h2⟩:=h;cases r with
  | cons p q =>
   obtain ⟨as,h3⟩:=I.reads d x _ p h1;obtain ⟨bs,h4⟩:=I.readsAll ds xr _ q h2;exact ⟨_,.cons h3 h4⟩
end
end
section
theorem OB (K:FG) (hK:X.K=K) (hu:X.A.units + 64 < cLine):OpR X (compareOp .Eq) (fun x y H Q=>∃ dx dy,CK K H dx x/\CK K H dy y/\SeqAt.shaped dx=true/\SeqAt.shaped dy=true/\Q (.bl (PyData.eqv dx dy)) H):=by
 subst hK;intro aa s σ H x y v u Q I rx ry h;obtain ⟨dx,dy,h1,h2,s1,s2,q⟩:=h;obtain ⟨as,r1⟩:=I.reads dx x v rx h1;obtain ⟨bs,r2⟩:=I.reads dy y u ry h2;exact eq_dataH r1 r2 s1 s2 hu ⟨.bl _,H,I,rfl,q⟩
theorem IU (K:FG) (hK:X.K=K) (hu:X.A.units + 64 < cLine):OpR X (compareOp .NotEq) (fun x y H Q=>∃ dx dy,CK K H dx x/\CK K H dy y/\SeqAt.shaped dx=true/\SeqAt.shaped dy=true/\Q (.bl (!PyData.eqv dx dy)) H):=by
 subst hK;intro aa s σ H x y v u Q I rx ry h;obtain ⟨dx,dy,h1,h2,s1,s2,q⟩:=h;obtain ⟨as,r1⟩:=I.reads dx x v rx h1;obtain ⟨bs,r2⟩:=I.reads dy y u ry h2;exact ne_dataH r1 r2 s1 s2 hu ⟨.bl _,H,I,rfl,q⟩
theorem OC (K:FG) (hK:X.K=K) (hu:X.A.units + 64 < cLine):OpR X (compareOp .Eq) (fun x y H Q=>∃ (a b:Addr) (ns ms:List Int),x=.ref a/\y=.ref b/\SqL K H a (ns.map V.int)/\SqL K H b (ms.map V.int)/\Q (.bl (decide (ns=ms))) H):=by
 subst hK;intro aa s σ H x y v u Q I rx ry h;obtain ⟨a,b,ns,ms,rfl,rfl,h1,h2,q⟩:=h;cases rx;cases ry;obtain ⟨is1,r1,p1,_⟩:=I.list h1;obtain ⟨is2,r2,p2,_⟩:=I.list h2;exact W.ke_eq_ints p1.isList p2.isList (CU r1) (CU r2) hu ⟨.bl _,H,I,rfl,q⟩
def OD (C:Addr) (sp:Sp) (gV:List V->List V->List V) (E:XK) (t tk:TA):TE:=fun σ H Q=>t σ H fun vs H1=>tk σ H1 fun zs H2=>∀ x dx,H2 x=none->H2 dx=none->dx ≠ x ->
 sp (gV (.ref x :: vs) zs) (upd (upd H2 dx (.own x)) x (.ins C dx [])) (fun v H3=>v=.non/\Q (.ref x) H3) E
variable {k:Nat} {fd:FuncData} {ps ks:List Str} {sp:Sp} {p:Pos} {es:List Expr} {kws:List Keyword} {t tk:TA} {g:List Value->List Value->List Value} {gV:List V->List V->List V}
theorem K6 (M:Mk X.K C f) (F:AX X.prog X.w X.K X.mg X.base CX0 k f fd ps sp) (hr:Room (k + 1) X.A) (hg:Gl X x) (hm:X.mg x=some (.ref C)) (hb:DV X.K fd ps ks g gV)
  (ha:PA X (e :: es) t) (hkw:PK X kws tk) (az:(backToKw pos (keywordEach kws X.env)).all (·.1.isSome)=true:=by rfl) (hks:(backToKw pos (keywordEach kws X.env)).filterMap (·.1)=ks:=by rfl)
  (hdb:(x == ("__debug__" : Str))=false:=by decide) (he:starEach (e :: es) X.env=(false,eval e X.env) :: starEach es X.env:=by rfl)
  (hpl:((backTo pos (starEach (e :: es) X.env)).any (·.1) || (backToKw pos (keywordEach kws X.env)).any (·.1.isNone))=false:=by rfl) :
  PE X (.Call (.Name x p) (e :: es) kws pos) (OD C sp gV E0 t tk):=by
 intro aa s σ H Q I h;refine wpAny_Call_Name_kw (DE I hg hm ?_ hdb);refine W.callWith_KW (h₀:=X.base) I.ok.mod.kin M.kp az (thn (ha pos aa s σ H _ I h) fun us s1 ⟨vs,H1,I1,r,q⟩=>?_) hpl he;refine thn (hkw pos aa s1 σ H1 _ I1 q) fun ws s2 ⟨zs,H2,I2,rz,q2⟩=>⟨I2.kIn,?_⟩;rw [hks];have hq:=q2 (s2.heap.objs.size + 1) s2.heap.objs.size (I2.hok.fresh (Nat.le_succ _)) (I2.hok.fresh (Nat.le_refl _)) (Nat.ne_of_lt (Nat.lt_succ_self _));have I3:=Inv.made (C:=C) I2;have r2:Vals (gV (V.ref (s2.heap.objs.size + 1) :: vs) zs) (g (Value.ref (s2.heap.objs.size + 1) :: us) ws):=hb.rel (.cons rfl r) rz;have hl:(g (Value.ref (s2.heap.objs.size + 1) :: us) ws).length=ps.length:=by rw [← r2.length]; exact F.len _ _ _ _ hq
 refine wpAny_call (G1 (f:=f) I2.kIn M.makes M.init (beq_iff_eq.mp M.fn) (codeAny_mono (F.run _ X.stack _ _ ⟨Value.ref (s2.heap.objs.size + 1) :: us,ks.zip ws⟩ _ _ _ E0 (hr.make C us (ks.zip ws)) (I3.env0.make C us (ks.zip ws)) (hb.to _ _ _ I3.kIn hl) r2 hq) fun r' s' hq'=>?_));cases r' with
 | error e=>exact hq'.elim
 | ok fl =>
  cases fl with
  | ret u =>
   obtain ⟨v,H',I4,rv,ev,q3⟩:=I3.after hq';subst ev;exact ⟨rv,⟨V.ref (s2.heap.objs.size + 1),H',I4,rfl,q3⟩⟩
  | next=>exact False.elim hq'
  | brk=>exact False.elim hq'
  | cont=>exact False.elim hq'
def QF (i j:Int):Prop:=Builtin.Int.intBits i <= 2 ^ 20/\Builtin.Int.intBits j <= 2 ^ 20
theorem Ga:OpR X (binaryOp .Mult) (rI QF fun i j=>.int (i * j)):=opI fun _ _ _ _ _ _ _ hc q=>mul_int q (IntMulOk.of_bits hc.1 hc.2)
def PP (i j:Int):Prop:=0 < j/\Builtin.divisionGoesByPylong i j=false
theorem K7:OpR X (binaryOp .FloorDiv) (rI PP fun i j=>.int (i / j)):=opI fun i j _ _ _ _ _ hc q=>by
 have h1:(0:Int) < j:=hc.1;exact floordiv_int (by omega) (by rw [Int.fdiv_eq_ediv_of_nonneg i (by omega)]; exact q) (.inl hc.2)
end
section
variable {prog:Program} {x y:Addr} {ox oy:Obj} {od od':Option Obj}
theorem Gb {M:Model} {args:List Value} {Q:Option Value->Shared->Prop} (X:K.In s.heap) (I:W.InstAt s.heap x ox C od) (hs:W.findIn K (.ref C) "__ne__" = some (some (.builtin "object.__ne__")))
  (h:wpAny M A (call (.builtin "object.__ne__") (.ref x :: args)) (fun v=>Q (some v)) E s):wpAny M A (callSpecialIfBound? (.ref x) "__ne__" args) Q E s:=by
 simp only [callSpecialIfBound?,bindSpecialIfBound?];refine wpAny_holding (wpAny_bind (wpAny_bind (wpAny_bind (I.type.here ((W.looks_findIn X hs).here ?_)))));simp only [PySem.F.cmp_object.ne.bind];refine wpAny_bind (wpAny_askSetting (wpAny_ite ?_));have fin:wpAny M A (call (.builtin "object.__ne__") ([.ref x]++args) >>= fun v=>pure (some v)) Q E s:=wpAny_bind (wpAny_mono h (fun v s' h'=>wpAny_pure h') fun _ _ h'=>h');split
 ·exact wpAny_bind (wpAny_pure (wpAny_pure fin))
 ·exact wpAny_tryCatch (wpAny_bind (wpAny_pure (wpAny_pure fin)))
theorem HG {Q:VS} (hu:A.units + 1 < cLine) (X:K.In s.heap) (I:W.InstAt s.heap x ox C od) (hm:W.mroIn K C (.type "object")=some true) (hr:W.findIn K (.ref C) "__eq__" = some (some (.ref f))) (hf:W.isFn K (.ref f)=true)
    (h:wpAny (model prog w) A.in1 (call (.ref f) [.ref x,.ref y]) (fun v s'=>∃ b,v=.bool b/\Q (.bool (!b)) s') E s):wpAny (model prog w) A (call (.builtin "object.__ne__") [.ref x,.ref y]) Q E s:=by
  refine wpAny_call (codeAny_call_builtin PySem.F.cmp_object.ne.plain PySem.F.cmpEntry_ne (W.check_slot (i := "object.__ne__") (owner := "object") (n := "__ne__") (by decide +kernel) (by decide +kernel) (I.type.andThen (W.looks_mroIn X hm)) (PySem.F.cmpArgs_ne _ _) ?_));unfold Builtin.«object.__ne__»
  repeat (first
    | with_reducible refine wpAny_cRoomFor (by show A.in1.units < cLine; exact hu) ?_
    | (refine wpAny_bind (m:=callSpecialIfBound? (.ref x) (Str.ofString "__eq__") [.ref y])
        (W.ifBound_K X I hr hf (wpAny_mono h (fun r s' hr=>by
          obtain ⟨b,rfl,hq⟩:=hr
          repeat (first | exact hq | exact ⟨_,rfl,hq⟩ | exact wpAny_pure ⟨_,rfl,hq⟩ | (refine wpAny_bind (m:=truthy (.bool _)) (wpAny_truthy_bool ?_)) | wp_step)) fun _ _ e=>e)))
    | wp_step)
theorem OE {Q:VS} (hu:A.units + 1 < cLine) (X:K.In s.heap) (I:W.InstAt s.heap x ox C od) (J:W.InstAt s.heap y oy C od') (hm:W.mroIn K C (.type "object")=some true)
  (hn:W.findIn K (.ref C) "__ne__" = some (some (.builtin "object.__ne__"))) (hr:W.findIn K (.ref C) "__eq__" = some (some (.ref f))) (hf:W.isFn K (.ref f)=true)
  (h:wpAny (model prog w) A.in1 (call (.ref f) [.ref x,.ref y]) (fun v s'=>∃ b,v=.bool b/\Q (.bool (!b)) s') E s):wpAny (model prog w) A (compareOp .NotEq (.ref x) (.ref y)) Q E s:=by
 show wpAny _ _ (richCompare .NotEq (.ref x) (.ref y)) _ _ _
 have one:wpAny (model prog w) A (tryCompare (.ref x) (cmpInfo .NotEq).2.1 (.ref y)) (fun r s'=>∃ v,r=some v/\Q v s') E s:=by
  unfold tryCompare;refine wpAny_bind (Gb X I hn (HG hu X I hm hr hf (wpAny_mono h (fun v s' hv=>?_) fun _ _ e=>e)));obtain ⟨b,rfl,hq⟩:=hv;exact ⟨b,rfl,wpAny_pure ⟨_,rfl,hq⟩⟩
 unfold richCompare;simp only [oneThing_ref];refine wpAny_holding (wpAny_bind (wpAny_cRoomFor (Nat.lt_of_succ_lt hu) ?_));refine wpAny_bind (I.type.here (wpAny_bind (J.type.here ?_)));rw [if_neg (by simp)];refine wpAny_bind (wpAny_pure ?_);simp only [Bool.false_eq_true,if_false];refine wpAny_bind (wpAny_mono one (fun r s' z=>?_) fun _ _ e=>e);obtain ⟨v,rfl,hq⟩:=z;exact wpAny_pure hq
end
section
variable {k:Nat} {fd:FuncData} {sp:Sp}
def OF (sp:Sp) (a b:Addr) (H:Hp) (Q:VK):Prop:=sp [.ref a,.ref b] H (fun v H'=>∃ t:Bool,v=.bl t/\Q (.bl t) H') E0
theorem K8 {b:Addr} {Q:VK} (F:AX X.prog X.w X.K X.mg X.base CX0 k f fd ["self", "other"] sp) (hr:Room k A) (hA:Env0 X.prog X.w X.K X.mg X.base A X.stack s H) (hb:Binds X.K fd ["self", "other"] []) (I:Inv X aa σ H s) (h:OF sp a b H Q) :
  wpAny (model X.prog X.w) A (call (.ref f) [.ref a,.ref b]) (fun v s'=>∃ t:Bool,v=.bool t/\EP X aa σ Q (.bool t) s') E s:=by
 refine wpAny_call (codeAny_mono (F.run A X.stack s H ⟨[.ref a,.ref b],[]⟩ [.ref a,.ref b] [.ref a,.ref b] _ E0 hr hA (hb s [.ref a,.ref b] I.kIn rfl) (.cons rfl (.cons rfl .nil)) h) fun r' s' hq=>?_);cases r' with
 | error e=>exact hq.elim
 | ok fl =>
  cases fl with
  | ret u =>
   obtain ⟨v,H',I',rv,t,ev,q'⟩:=I.after hq;subst ev;cases rv;exact ⟨t,rfl,.bl t,H',I',rfl,q'⟩
  | next=>exact False.elim hq
  | brk=>exact False.elim hq
  | cont=>exact False.elim hq
theorem K9 (F:AX X.prog X.w X.K X.mg X.base CX0 k f fd ["self", "other"] sp) (hr:Room k X.A) (hb:Binds X.K fd ["self", "other"] []) (hm:IA X.K C "__eq__" f) :
  OpR X (compareOp .Eq) (fun x y H Q=>∃ a dx fs b,x=.ref a/\y=.ref b/\H a=some (.ins C dx fs)/\((∃ dy gs,H b=some (.ins C dy gs))\/((∃ xs,SqL X.K H b xs)/\W.subIn X.K (.type "list") (.ref C)=some false))/\OF sp a b H Q):=by
 intro aa s σ H x y v u Q I rx ry h;obtain ⟨a,dx,fs,b,rfl,rfl,ha,hy,q⟩:=h;cases rx;cases ry;obtain ⟨m,Fm⟩:=I.fr;obtain ⟨mA,om,_⟩:=B6 I.hok ha;obtain ⟨od,ia,_⟩:=om.look;have run:=K8 (E:=X.xe) F hr I.env0 hb I q;have hu:X.A.units < cLine:=Nat.lt_of_le_of_lt (Nat.le_add_right _ 64) hr.units
 have run2:wpAny (model X.prog X.w) X.A (call (.ref f) [.ref a,.ref b]) (W.CmpBack (EP X aa σ Q)) X.xe s:=by
  refine thn run fun v s' hv=>?_;obtain ⟨t,rfl,q⟩:=hv;exact q
 show wpAny _ _ (richCompare .Eq (.ref a) (.ref b)) _ _ _;rcases hy with ⟨dy,gs,hy⟩ | ⟨⟨xs,hy⟩,hn⟩
 ·obtain ⟨mB,ob,_⟩:=B6 I.hok hy;obtain ⟨odb,ib,_⟩:=ob.look;exact W.cmp_K hu Fm I.mod.kin ia ib.type (by simp [W.notFirst]) hm.at_ hm.fn run2
 ·obtain ⟨its,rv,⟨o,n,e,c,dd,_⟩,_⟩:=I.list hy;have T:W.Looks (model X.prog X.w) s.heap (typeOf (.ref b)) (.type "list"):=c ▸ (W.Looks.ld e).andThen .now;exact W.cmp_K hu Fm I.mod.kin ia T (by simp [W.notFirst,hn]) hm.at_ hm.fn run2
theorem LA (F:AX X.prog X.w X.K X.mg X.base CX0 k f fd ["self", "other"] sp) (hr:Room (k + 1) X.A) (hb:Binds X.K fd ["self", "other"] []) (hm:IA X.K C "__eq__" f) (hn:W.findIn X.K (.ref C) "__ne__" = some (some (.builtin "object.__ne__"))) (ho:W.mroIn X.K C (.type "object")=some true) :
  OpR X (compareOp .NotEq) (fun x y H Q=>∃ a dx fs b dy gs,x=.ref a/\y=.ref b/\H a=some (.ins C dx fs)/\H b=some (.ins C dy gs)/\OF sp a b H (fun v H'=>∃ t:Bool,v=.bl t/\Q (.bl (!t)) H')):=by
 intro aa s σ H x y v u Q I rx ry h;obtain ⟨a,dx,fs,b,dy,gs,rfl,rfl,ha,hy,q⟩:=h;cases rx;cases ry;obtain ⟨mA,om,_⟩:=B6 I.hok ha;obtain ⟨od,ia,_⟩:=om.look;obtain ⟨mB,ob,_⟩:=B6 I.hok hy;obtain ⟨odb,ib,_⟩:=ob.look;have run:=K8 (E:=X.xe) F hr.in1 I.env0.in1 hb I q;have hu:X.A.units + 1 < cLine:=Nat.lt_of_le_of_lt (Nat.add_le_add_left (by decide) _) hr.units;refine OE hu I.kIn ia ib ho hn hm.at_ hm.fn (thn run fun v s' hv=>?_);obtain ⟨t,rfl,v',H',I',rv,t',e,q⟩:=hv;subst e;cases rv;exact ⟨t,rfl,.bl _,H',I',rfl,q⟩
end
theorem IV (K:FG) (hK:X.K=K):BQ X (.builtin "isinstance") (fun xs H Q=>∃ a p ys,xs=[.ref a,.ref p]/\(H a=some (.lst ys)\/H a=some (.tup ys))/\SqT K H p [.ty "list", .ty "tuple"]/\Q (.bl true) H):=by
 subst hK;intro aa s σ H xs us Q I r h;obtain ⟨a,p,ys,rfl,ha,hp,q⟩:=h;obtain ⟨u,uT,rfl,ru,ruT⟩:=E1 r;cases ru;cases ruT;obtain ⟨its,rv,⟨o,e,c,n,dd⟩,_⟩:=I.tuple hp;obtain ⟨ocl,odi,oda,osl⟩:=o;simp only at c dd;subst c;subst dd
 have ei:its=[Value.type "list", Value.type "tuple"]:=by
  cases rv with
  | cons r1 r2 =>
   cases r2 with
   | cons r3 r4 =>
    cases r4;cases (show _=Value.type "list" from r1);cases (show _=Value.type "tuple" from r3);rfl
 subst ei;have fin:∀ tk,EP X aa σ Q (.bool true) { s with toks:=tk }:=fun tk=>⟨.bl true,H,I.tok tk,rfl,q⟩;rcases ha with ha | ha
 ·obtain ⟨_,_,m,_,h1⟩:=(show ObjOk X.prog X.w H s.heap a (.lst ys) from I.hok a _ ha);exact W.kia_tup W.kitx_list I.kIn ⟨_,h1,rfl⟩ e rfl (fun z=>nomatch z) fin
 ·obtain ⟨_,_,_,pp⟩:=(show ObjOk X.prog X.w H s.heap a (.tup ys) from I.hok a _ ha);obtain ⟨o,h1,h2,_⟩:=pp;exact W.kia_tup W.kitx_tuple I.kIn ⟨o,h1,h2⟩ e rfl (fun z=>nomatch z) fin
def Itz (K:FG) (a b:Addr):It:=⟨fun i H=>∃ xs ys x y,SqL K H a xs/\SqL K H b ys/\xs[i]?=some x/\ys[i]?=some y,fun i H v H'=>∃ p x y,H p=none/\v=.ref p/\(∀ xs,SqL K H a xs->xs[i]?=some x)/\(∀ ys,SqL K H b ys->ys[i]?=some y)/\H'=upd H p (.tup [x,y]),fun i H=>∃ xs ys,SqL K H a xs/\SqL K H b ys/\(xs.length <= i\/ys.length <= i)⟩
theorem LB {elts:List Expr} {k0:Nat} (a b z TI TO i1 i2:Addr) (D:ZipApart z TI TO i1 i2 a b) :
  Gy P w K (.Tuple elts k0 pos) (Itz K a b) [z,TI,TO,i1,i2] z (fun i h=>IsZip h z TI TO .none/\IsPair h TI (.ref i1) (.ref i2)/\(∃ x y,IsPair h TO x y)/\h.IsListIter i1 a i/\h.IsListIter i2 b i) where
 mem:=by simp
 obj:=fun i h st c hc=>by
  obtain ⟨e1,e2,⟨x,y,e3⟩,⟨o4,e4,c4,d4⟩,⟨o5,e5,c5,d5⟩⟩:=st;have hc':c=z\/c=TI\/c=TO\/c=i1\/c=i2:=by simpa using hc
  rcases hc' with rfl | rfl | rfl | rfl | rfl
  ·exact ⟨_,e1,fun v z=>by cases z⟩
  ·exact ⟨_,e2,fun v z=>by cases z⟩
  ·exact ⟨_,e3,fun v z=>by cases z⟩
  ·exact ⟨o4,e4,fun v z=>by rw [d4] at z; cases z⟩
  ·exact ⟨o5,e5,fun v z=>by rw [d5] at z; cases z⟩
 keep:=fun i h h' st k=>by
  obtain ⟨e1,e2,⟨x,y,e3⟩,e4,e5⟩:=st;exact ⟨k z (by simp) _ e1,k TI (by simp) _ e2,⟨x,y,k TO (by simp) _ e3⟩,e4.at fun o q=>k i1 (by simp) o q,e5.at fun o q=>k i2 (by simp) o q⟩
 item:=by
  intro X hP hw hK hc i aa s σ H E I hf st hg;subst hP hw hK;obtain ⟨xs,ys,x,y,hq1,hq2,hx,hy⟩:=hg;obtain ⟨its1,rv1,p1,hz1⟩:=I.list hq1;obtain ⟨its2,rv2,p2,hz2⟩:=I.list hq2;obtain ⟨u1,hu1,ru1⟩:=rv1.get hx;obtain ⟨u2,hu2,ru2⟩:=rv2.get hy;obtain ⟨s1,s2,⟨x0,y0,s3⟩,s4,s5⟩:=st;have hF:∀ c,c ∈ [z,TO,i1,i2]->c ∈ [z,TI,TO,i1,i2]:=fun c h=>by simp at h ⊢; rcases h with z | z | z | z <;> simp [z]
  have lts:∀ c,c ∈ [z,TI,TO,i1,i2]->c < s.heap.objs.size:=fun c h=>by
   have h':c=z\/c=TI\/c=TO\/c=i1\/c=i2:=by simpa using h
   rcases h' with rfl | rfl | rfl | rfl | rfl
   ·exact lt_size s1
   ·exact lt_size s2
   ·exact lt_size s3
   ·obtain ⟨o,q,_⟩:=id s4; exact lt_size q
   ·obtain ⟨o,q,_⟩:=id s5; exact lt_size q
  refine wpAny_pyNext_zip_item D s1 s2 s3 s4 s5 p1.isList p2.isList (x:=u1) (y:=u2) (by simpa using hu1) (by simpa using hu2) fun h' st1 st3 st4 st5 hp hsz keep=>?_
  have kp:∀ c o,c ∉ [z,TO,i1,i2]->s.heap.get? c=some o->h'.get? c=some o:=fun c o hc q=>by
   simp at hc;exact keep c o hc.1 hc.2.1 hc.2.2.1 hc.2.2.2 q
  have I1:Inv X aa σ H { s with heap:=h',toks:=s.toks }:=by
   refine I.step (H':=H) (g':=s.gens) (d':=s.drawn) (ch:=[z,TO,i1,i2]) (fun c hc=>?_) (fun c o _ _ hc q _=>kp c o hc q) (fun c o _ _ hc q _=>⟨o.slots,kp c o hc q⟩)
    (fun _ _ _ _ n=>n) (fun c o hc q=>⟨o,kp c o hc q⟩) (fun _ _ q=>q) (fun _ _ _ q=>q) (fun b ps q=>⟨#[],by rw [q]; simp⟩) (fun m hm=>?_) (fun c u q=>?_) I.bare
   ·obtain ⟨f0,f1,f2,f3,f4,f5⟩:=hf c (hF c hc);exact ⟨f3,f1,f4,f5⟩
   ·obtain ⟨oL,es,ep,hoL,r⟩:=hm;exact ⟨oL,es,ep,kp _ oL (fun q=>(hf _ (hF _ q)).2.1 rfl) hoL,r⟩
   ·have ne1:∀ c v,H c=some v->c ∉ [z,TO,i1,i2]:=fun c v q hc=>by rw [(hf c (hF c hc)).1] at q; cases q
    refine (I.hok c u q).stay (fun e v he q'=>kp e v ?_ q') (fun _ q=>q) fun _ _ q=>q;rcases he with z | z
    ·rw [z]; exact ne1 c u q
    ·exact ne1 e _ z
  obtain ⟨n1,n2,n3,n4,n5⟩:=I.newOk (Nat.le_refl s.heap.objs.size);have I2:Inv X aa σ (upd H s.heap.objs.size (.tup [x,y])) { s with heap:=h',toks:=s.toks }:=I1.track n1 n2 (.inr n3) n4 n5 ⟨by show 2 <= sizeLine; decide,[u1,u2],.cons ru1 (.cons ru2 .nil),_,hp,rfl,_,rfl⟩;have fn:∀ c,c ∈ [z,TI,TO,i1,i2]->(upd H s.heap.objs.size (.tup [x,y])) c=none:=fun c hc=>by rw [AF (Nat.ne_of_lt (lts c hc))]; exact (hf c hc).1
  obtain ⟨f0,f1,f2,f3,f4,f5⟩:=hf z (by simp);refine ⟨.ref s.heap.objs.size,rfl,wpAny_letOwnedTupleGo_zip st1 fun h'' st'' sb=>?_⟩;refine ⟨.ref s.heap.objs.size,_,I2.turned (it:=z) (t':=s.toks) (fun b o hb q=>(sb.2 b hb).trans q) (fn z (by simp)) f1 f3 f4 f5,rfl,⟨_,x,y,n1,rfl,fun zs hy'=>by rw [I.list_inj hy' hq1]; exact hx,fun zs hy'=>by rw [I.list_inj hy' hq2]; exact hy,rfl⟩,⟨st'',sb.extBut _ _ D.TIz (kp _ _ (by simp [D.TIz,D.TITO,D.TIi1,D.TIi2]) s2),⟨_,_,sb.extBut _ _ D.TOz st3⟩,st4.extBut sb.extBut D.i1z,st5.extBut sb.extBut D.i2z⟩,fun c hc=>fn c hc⟩
 done:=by
  intro X hP hw hK hc i aa s σ H E I hf st hg;subst hP hw hK;obtain ⟨xs,ys,hq1,hq2,hx⟩:=hg;obtain ⟨its1,rv1,p1,hz1⟩:=I.list hq1;obtain ⟨its2,rv2,p2,hz2⟩:=I.list hq2;obtain ⟨s1,s2,⟨x0,y0,s3⟩,s4,s5⟩:=st;have hl1:=rv1.length;have hl2:=rv2.length;have hF:∀ c,c ∈ [z,TO,i1,i2]->c ∈ [z,TI,TO,i1,i2]:=fun c h=>by simp at h ⊢; rcases h with z | z | z | z <;> simp [z]
  refine wpAny_pyNext_zip_end (I.ok.hd hc) D s1 s2 s3 s4 s5 p1.isList p2.isList (by
   rcases hx with z | z
   ·left; simp; omega
   ·right; simp; omega) fun h' keep=>⟨rfl,?_⟩
  have kp:∀ c o,c ∉ [z,TO,i1,i2]->s.heap.get? c=some o->h'.get? c=some o:=fun c o hc q=>by
   simp at hc;exact keep c o hc.1 hc.2.1 hc.2.2.1 hc.2.2.2 q
  refine I.step (H':=H) (g':=s.gens) (d':=s.drawn) (ch:=[z,TO,i1,i2]) (fun c hc=>?_) (fun c o _ _ hc q _=>kp c o hc q) (fun c o _ _ hc q _=>⟨o.slots,kp c o hc q⟩)
   (fun _ _ _ _ n=>n) (fun c o hc q=>⟨o,kp c o hc q⟩) (fun _ _ q=>q) (fun _ _ _ q=>q) (fun b ps q=>⟨#[],by rw [q]; simp⟩) (fun m hm=>?_) (fun c u q=>?_) I.bare
  ·obtain ⟨f0,f1,f2,f3,f4,f5⟩:=hf c (hF c hc);exact ⟨f3,f1,f4,f5⟩
  ·obtain ⟨oL,es,ep,hoL,r⟩:=hm;exact ⟨oL,es,ep,kp _ oL (fun q=>(hf _ (hF _ q)).2.1 rfl) hoL,r⟩
  ·have ne1:∀ c v,H c=some v->c ∉ [z,TO,i1,i2]:=fun c v q hc=>by rw [(hf c (hF c hc)).1] at q; cases q
   refine (I.hok c u q).stay (fun e v he q'=>kp e v ?_ q') (fun _ q=>q) fun _ _ q=>q;rcases he with z | z
   ·rw [z]; exact ne1 c u q
   ·exact ne1 e _ z
 self:=fun _ _ _ _ _ st h=>wpAny_pyIter_zip st.1 h
def QG (K:FG) (tl:TA):TI:=fun σ H R=>tl σ H fun vs H1=>∃ a b,vs=[.ref a,.ref b]/\(∃ xs,SqL K H1 a xs)/\(∃ ys,SqL K H1 b ys)/\R (Itz K a b) H1
theorem LC {elts:List Expr} {k0:Nat} {p cpos:Pos} {l m:Expr} {tl:TA} (hg:Gl X "zip") (hm:X.mg "zip" = none) (hl:PA X [l,m] tl) (hs:starEach [l,m] X.env=(false,eval l X.env) :: starEach [m] X.env:=by rfl) (hpl:(backTo cpos (starEach [m] X.env)).any (·.1)=false:=by rfl) :
  PI X (.Tuple elts k0 pos) (.Call (.Name "zip" p) [l,m] [] cpos) (QG X.K tl):=by
 intro aa s σ H R I h;refine wpAny_Call_Name_kw (DR (u:=.type "zip") I hg hm (by decide +kernel) ?_);refine PyProof.Rows.callWith_type1 (thn (hl cpos aa s σ H _ I h) fun us s1 ⟨vs,H1,I1,r1,a,b,ev,⟨xs,hq1⟩,⟨ys,hq2⟩,q⟩=>?_) hs hpl;subst ev;obtain ⟨u1,u2,rfl,ru1,ru2⟩:=E1 r1;cases ru1;cases ru2;obtain ⟨its1,rv1,p1,hz1⟩:=I1.list hq1;obtain ⟨its2,rv2,p2,hz2⟩:=I1.list hq2;have a1:a < s1.heap.objs.size:=by obtain ⟨_,e,_⟩:=p1.isList; exact lt_size e
 have a2:b < s1.heap.objs.size:=by obtain ⟨_,e,_⟩:=p2.isList; exact lt_size e
 refine call_zip_2 p1.isList p2.isList fun h' hz hTI hTO hi1 hi2 hsz keep=>?_;refine wpAny_pyIter_zip hz ?_;have I2:Inv X aa σ H1 { s1 with heap:=h' }:=I1.kept (t':=s1.toks) keep;refine ⟨_,[s1.heap.objs.size + 4,s1.heap.objs.size + 2,s1.heap.objs.size + 3,s1.heap.objs.size,s1.heap.objs.size + 1],_,_,H1,rfl,I2,LB a b _ _ _ _ _ (zipApart_new a1 a2),⟨hz,hTI,⟨_,_,hTO⟩,hi1,hi2⟩,fun c hc=>?_,q⟩
 have hle:s1.heap.objs.size <= c:=by
  have hc':c=s1.heap.objs.size + 4\/c=s1.heap.objs.size + 2\/c=s1.heap.objs.size + 3\/c=s1.heap.objs.size\/c=s1.heap.objs.size + 1:=by simpa using hc
  rcases hc' with z | z | z | z | z <;> rw [z] <;> first | exact Nat.le_refl _ | exact Nat.le_add_right _ _
 exact I1.fpOk hle (I1.hok.fresh hle)
section
def PQ (i j k:Nat) (ta:TA):TS:=fun D σ H=>ta σ H fun vs H1=>∃ v w z,vs=[v,w,z]/\D.nx (((σ.set k (some z)).set j (some w)).set i (some v)) H1
theorem Mr {i j k:Nat} {y z:Str} {a b c:Expr} {ta:TA} {px py pz pt:Pos} {kt k2 pt2} (hc:X.calm=true) (hN:X.N.Nodup) (hi:X.N[i]?=some x) (hj:X.N[j]?=some y) (hk:X.N[k]?=some z)
  (hx:X.env.scope.names.lookup x=some .local) (hy:X.env.scope.names.lookup y=some .local) (hz:X.env.scope.names.lookup z=some .local) (ha:PA X [a,b,c] ta)
  (hw:swappedStores [.Tuple [.Name x px,.Name y py,.Name z pz] kt pt] (.Tuple [a,b,c] k2 pt2) X.env=pure (some [x,y,z]))
  (hs:swapsWithSole [.Tuple [.Name x px,.Name y py,.Name z pz] kt pt] (.Tuple [a,b,c] k2 pt2) pos.line X.env=pure false:=by rfl) :
  PS X (.Assign [.Tuple [.Name x px,.Name y py,.Name z pz] kt pt] (.Tuple [a,b,c] k2 pt2) pos) (PQ i j k ta):=by
 intro aa s σ H D I h;rw [exec_Assign_arm];refine wpAny_bind (wpAny_standAt ?_);rw [hs];refine wpAny_bind (wpAny_pure ?_);rw [if_neg (by decide)];refine wpAny_bind (Tuple_ (thn (ha _ aa s σ H _ I h) fun us s1 ⟨vs,H1,I1,r1,q1⟩=>?_));obtain ⟨v,w,t,e1,q1⟩:=q1;subst e1
 obtain ⟨u1,u2,u3,rfl,rv,rw',rt⟩:∃ u1 u2 u3,us=[u1,u2,u3]/\RelV v u1/\RelV w u2/\RelV t u3:=by
  cases r1 with
  | cons p q =>
   cases q with
   | cons p' q' =>
    cases q' with
    | cons p'' q'' =>
     cases q'';exact ⟨_,_,_,rfl,p,p',p''⟩
 refine wpAny_newObj_type ?_ sl3;have I2:Inv X aa σ H1 { s1 with heap:=s1.heap.push { cls:=.type "tuple", data:=.seq [u1,u2,u3].toArray } }:=I1.kept (t':=s1.toks) fun b o e=>get?_push_of_some _ e;rw [hw];refine wpAny_bind (wpAny_pure ?_);show wpAny (model X.prog X.w) X.A (do rule "assign.swapped-stores"; let items ← unpackItems (.ref s1.heap.objs.size) 3 none; assignInOrder [fun v=>bindName X.env z v,fun v=>bindName X.env y v,fun v=>bindName X.env x v] items.reverse; pure Flow.next) _ _ _;refine wpAny_bind (wpAny_rule (wpAny_bind (unpackItems_tuple (items:=#[u1,u2,u3]) (I.ok.hd hc) (IsTup.new s1.heap _) fun h' hx'=>?_)));have I3:=I2.kept (h':=h') (t':=s1.toks) fun b o e=>hx' b o (Nat.ne_of_lt (lt_size e)) e;show wpAny _ _ (assignInOrder [fun v=>bindName X.env z v,fun v=>bindName X.env y v,fun v=>bindName X.env x v] [u3,u2,u1] >>= fun _=>pure Flow.next) _ _ _;refine wpAny_bind (assignInOrder_cons (wpAny_bindName (Bg I3 hN hk (.inl hz) rt (fun s2 I4=>?_) (.inr hz))));refine assignInOrder_cons (wpAny_bindName (Bg I4 hN hj (.inl hy) rw' (fun s3 I5=>?_) (.inr hy)));refine assignInOrder_cons (wpAny_bindName (Bg I5 hN hi (.inl hx) rv (fun s4 I6=>assignInOrder_nil (wpAny_pure ?_)) (.inr hx)));exact ⟨_,H1,I6,q1⟩
end
theorem Ms {b:Addr} {zs:List V} {g:TG} {tb:TS} {D:Ew} (Pv:Nat->St->Hp->Prop) (hxz:xs.length=zs.length) (h0:Pv 0 σ H) (hl:∀ i σ H,i <= xs.length->Pv i σ H->SqL K H a xs/\SqL K H b zs)
  (hs:∀ i x z σ H p,xs[i]?=some x->zs[i]?=some z->Pv i σ H->H p=none->g (.ref p) σ (upd H p (.tup [x,z])) fun σ2 H2=>tb { D with nx:=Pv (i + 1),ct:=Pv (i + 1),bk:=D.nx } σ2 H2) (hd:∀ σ H,Pv xs.length σ H->D.nx σ H) :
  ∃ W:Nat->Nat->St->Hp->Prop,(∃ m,W 0 m σ H)/\∀ i m σ H,W i m σ H ->
   ((Itz K a b).stop i H/\D.nx σ H)\/((Itz K a b).go i H/\∃ N:St->Hp->Prop,(∀ σ' H',N σ' H'->∃ m',m' < m/\W (i + 1) m' σ' H')/\∀ x H',(Itz K a b).yld i H x H'->g x σ H' fun σ2 H2=>tb { D with nx:=N,ct:=N,bk:=D.nx } σ2 H2):=by
 refine ⟨fun i m σ H=>m=xs.length - i/\i <= xs.length/\Pv i σ H,⟨_,rfl,Nat.zero_le _,h0⟩,?_⟩;rintro i m σ H ⟨rfl,hi,hp⟩;obtain ⟨q1,q2⟩:=hl i σ H hi hp;by_cases hlt:i < xs.length
 ·have hx:xs[i]?=some xs[i]:=List.getElem?_eq_getElem hlt;have hz':zs[i]?=some (zs[i]'(by omega)):=List.getElem?_eq_getElem (by omega);refine .inr ⟨⟨xs,zs,_,_,q1,q2,hx,hz'⟩,Pv (i + 1),fun σ' H' q=>⟨xs.length - (i + 1),by omega,rfl,hlt,q⟩,?_⟩;rintro v H' ⟨p,x,y,hn,rfl,h1,h2,rfl⟩;exact hs i x y σ H p (h1 _ q1) (h2 _ q2) hp hn
 ·have e:i=xs.length:=by omega
  subst e;exact .inl ⟨⟨xs,zs,q1,q2,.inl (Nat.le_refl _)⟩,hd σ H hp⟩
def QH:V->Option Int->Option Int->Hp->VK->Prop:=fun x lo hi H Q=>∃ z,x=.str z/\z.length <= sizeLine/\Q (.str (Txt.slice z lo hi)) H
theorem JL {v:Value} {o:Option Int} (h:IsPart v o):∃ l:Option (Int × Tok),v=partValue l/\o=l.map (·.1):=by
 cases h with
 | none=>exact ⟨none,rfl,rfl⟩
 | int i t=>exact ⟨some (i,t),rfl,rfl⟩
theorem LD:SlR X QH:=by
 intro aa s σ H x v vl vu lo hi sl Q I rx hs pl pu h;obtain ⟨z,rfl,hz,q⟩:=h;obtain ⟨t,rfl⟩:=rx;obtain ⟨l,rfl,rfl⟩:=JL pl;obtain ⟨u,rfl,rfl⟩:=JL pu;refine ⟨"str", _,F.slot_str_getitem.lookup,typeIs_str s z t,?_⟩;exact wpAny_getItem_str_slice (l:=l) (u:=u) (st:=none) hs rfl (post_val_or_str ⟨Nat.le_trans (Txt.slice_le z _ _) hz,fun t' k=>⟨.str (Txt.slice z _ _),H,I.tok k,⟨t',rfl⟩,q⟩⟩)
theorem DQ:BQ X (.type "int") (fun xs H Q=>∃ x n,xs=[.str x]/\x.length <= 640/\intText? x=some n/\Q (.int n) H):=by
 intro aa s σ H xs us Q I r h;obtain ⟨x,n,rfl,hl,hn,q⟩:=h;obtain ⟨u,rfl,t,rfl⟩:=B5 r;exact W.KIN.call_text hn hl ⟨.int n,H,I.tok _,⟨_,rfl⟩,q⟩
theorem Jy {xs:List Str} (r:Vals (xs.map V.str) us):∃ l:List (Str × Tok),us=strValues l/\l.map (·.1)=xs:=by
 induction xs generalizing us with
 | nil=>cases r; exact ⟨[],rfl,rfl⟩
 | cons x r ih =>
  cases r with
  | cons r1 r2 =>
   obtain ⟨t,rfl⟩:=r1;obtain ⟨l,rfl,e⟩:=ih r2;exact ⟨(x,t) :: l,rfl,by rw [map_cons,e]⟩
theorem JM:MtM X "str.join" (fun x vs H Q=>∃ sep l ys,x=.str sep/\vs=[.ref l]/\H l=some (.lst (ys.map V.str))/\JoinOk sep ys=true/\Q (.str (Txt.join sep ys)) H):=by
 intro aa s σ H x vs v us Q I rx rv h;obtain ⟨sep,l,ys,rfl,rfl,hH,hok,q⟩:=h;obtain ⟨t,rfl⟩:=rx;obtain ⟨u,rfl,ru⟩:=rv.one;cases ru;obtain ⟨z,its,n,r,hl,e⟩:=I.lstM hH;obtain ⟨ps,rfl,ep⟩:=Jy r;exact SC.join (l:=ps) ⟨_,e,rfl,⟨_,rfl⟩⟩ ep hok fun t' k=>⟨.str _,H,I.tok k,⟨t',rfl⟩,q⟩
abbrev DcE:=Str × Tok × Int × Tok
def Nj (P:Params) (e:DcE):DictEntry:=⟨PyData.keyHash P e.1,.str e.1 e.2.1,.int e.2.2.1 e.2.2.2⟩
def dcObj (P:Params) (l:List DcE) (ep:Nat):Obj:=⟨.type "dict", none,.dict (l.map (Nj P)).toArray ep,#[]⟩
def dcK (l:List DcE):LK:=l.map fun e=>(Sum.inr e.1,.int e.2.2.1)
def LF (bd:Addr) (kvs:LK) (H:Hp):Prop:=∀ b,H b=none\/(∃ o xs,H b=some (.frz o (.lst xs)))\/(b=bd/\∃ o,H b=some (.frz o (.dK kvs)))
theorem PR {bd:Addr} {l:List DcE} {ep:Nat} (e:h.get? bd=some (dcObj w.params l ep)) (nd:(l.map (·.1)).Nodup):∃ vs,KV (dcK l) vs/\h.DictOf (Ah P w) bd vs:=by
 refine ⟨l.map fun e=>(Sum.inr e.1,.int e.2.2.1 e.2.2.2),?_,_,_,_,e,⟨rfl,rfl,rfl⟩,rfl,fun x hx=>?_,?_,?_⟩
 ·unfold dcK;clear e nd;induction l with
  | nil=>exact .nil
  | cons a r ih=>exact .cons ⟨rfl,_,rfl⟩ ih
 ·obtain ⟨a,_,rfl⟩:=mem_map.mp (List.mem_toArray.mp hx);exact ⟨Sum.inr a.1,Co P w _ _,rfl⟩
 ·show Pairs _ (l.map (Nj w.params)).toArray.toList _;rw [List.toList_toArray];clear e nd;induction l with
  | nil=>exact .nil
  | cons a r ih=>exact .cons (Co P w _ _) rfl ih
 ·rw [map_map];have:(l.map ((fun x:Key × Value=>x.1) ∘ fun e:DcE=>((Sum.inr e.1:Key),Value.int e.2.2.1 e.2.2.2)))=(l.map (·.1)).map (fun x=>(Sum.inr x:Key)):=by rw [map_map]; rfl
  rw [this];exact List.Pairwise.map _ (fun a b hab z=>hab (Sum.inr.inj z)) nd
theorem Jz {mb:SV} {CX:CXT} {k:Nat} {fa bd:Addr} {l:List DcE} {ep:Nat} {fd:FuncData} {sp:Sp} {s₁:Shared} {vs:List Value} {ns:List Int}
  (KX:K.In s₁.heap) (hns:s₁.heap.Ns mainGlobals mg) (hb:s₁.heap.Ns builtinsNs mb) (hbb:∀ x:Str,x ≠ "__name__" -> mb x=bootBuiltins x) (hlim:s₁.heap.NoLimit) (hg:s₁.gens=#[])
  (ha:s₁.heap.get? a=some { cls:=.type "list", data:=.seq vs.toArray }) (hi:IntsAre vs ns) (hl:ns.length <= sizeLine) (hr:Room k callerA)
  (hD:s₁.heap.get? bd=some (dcObj w.params l ep)) (hKD:K.lookup bd=none) (hb5:5 <= bd) (hdl:l.length <= 1000) (hdn:(l.map (·.1)).Nodup)
  (F:∀ base:Heap,K.In base->base.Ns mainGlobals mg->AX P w K mg base CX k fa fd [x] sp) (hbind:∀ (s:Shared) (u:Value),BindsTo s fd ⟨[u],[]⟩ [(x,u)])
  (hsp:∀ H:Hp,LF bd (dcK l) H->Rd H bd (.dK (dcK l))->SqL K H a (ns.map V.int)->sp [.ref a] H (fun v _=>v=.bl true) fun _ _ _=>False)
  (hCX:∀ H e s',CX [] H s₁ (fun _ _ _=>False) e s'->False) :
  codeAny (model P w) callerA (.call (.ref fa) ⟨[.ref a],[]⟩) (fun r s'=>r=.ok (.ret (.bool true))/\OldK s₁.heap s'.heap/\s'.os=s₁.os/\AllBare s'.gens) s₁:=by
 have rv:=DF hi;have lenV:=hi.length;have hab:a ≠ bd:=fun z=>by subst z; rw [ha] at hD; cases congrArg Obj.data (Option.some.inj hD)
 have okD:∀ H:Hp,ObjOk P w H s₁.heap bd (.frz (dcObj w.params l ep) (.dK (dcK l))):=fun H=>⟨hD,by unfold dcK; rw [length_map]; exact Nat.le_of_lt (AQ hdl),by
  cases q:(bd == sysModules) with
  | false=>rfl
  | true =>
   rw [beq_iff_eq.mp q] at hb5
   exact absurd hb5 (by decide),PR hD hdn⟩
 have core:∀ H:Hp,LF bd (dcK l) H->H bd=some (.frz (dcObj w.params l ep) (.dK (dcK l)))->SqL K H a (ns.map V.int)->HOk P w H s₁.heap->(∀ b,H b ≠ none->b=a\/b=bd)->(H a ≠ none->K.lookup a=none) ->
   codeAny (model P w) callerA (.call (.ref fa) ⟨[.ref a],[]⟩) (fun r s'=>r=.ok (.ret (.bool true))/\OldK s₁.heap s'.heap/\s'.os=s₁.os/\AllBare s'.gens) s₁:=by
  intro H hO hHD hS hok hA hK;have base_of:∀ {b:Addr} {o:Obj},s₁.heap.get? b=some o->H b=none->(F4 s₁.heap H).get? b=some o:=fun e n=>Kb e n
  have noA:∀ {b:Addr} {o:Obj} {es:Array DictEntry} {ep:Nat},b < 5->s₁.heap.get? b=some o->o.data=.dict es ep->H b=none:=fun {b o es ep} hb e d=>by
   cases q:H b with
   | none=>rfl
   | some u =>
    rcases hA b (by rw [q]; simp) with e' | e'
    ·subst e';rw [ha] at e; cases e;cases (show Data.seq vs.toArray _=Data.dict es ep from d)
    ·subst e';exact absurd hb (Nat.not_lt.mpr hb5)
  have nsK:∀ {b:Addr} {m:SV},b < 5->s₁.heap.Ns b m->(F4 s₁.heap H).Ns b m:=fun {b m} hb ⟨o,es,ep,e,d,r⟩=>⟨o,es,ep,base_of e (noA hb e d),d,r⟩
  have hKb:K.In (F4 s₁.heap H):=fun b o e=>base_of (KX b o e) (by
   cases q:H b with
   | none=>rfl
   | some u =>
    rcases hA b (by rw [q]; simp) with e' | e'
    ·subst e';rw [hK (by rw [q]; simp)] at e; cases e
    ·subst e'
     rw [hKD] at e; cases e)
  have hM:Mod K mg (F4 s₁.heap H):=⟨hKb,nsK (by decide) hns,⟨mb,nsK (by decide) hb,hbb⟩,let ⟨mc,h1,h2⟩:=hlim; ⟨mc,nsK (by decide) h1,h2⟩⟩;have e0:Env0 P w K mg (F4 s₁.heap H) callerA [] s₁ H:=⟨rfl,hM,fun b o e=>MS e,Nat.le_of_eq (Jd _ _),trivial,fun b hb=>absurd (show b ∈ ([]:List Addr) from hb) (by simp),hok,.of_eq hg⟩;refine codeAny_mono ((F _ hKb (nsK (by decide) hns)).run callerA [] s₁ H ⟨[.ref a],[]⟩ [.ref a] [.ref a] _ _ hr e0 (hbind s₁ (.ref a)) (.cons rfl .nil) (hsp H hO (.inr ⟨_,hHD⟩) hS)) fun r s' h=>?_;cases r with
  | error e=>exact (hCX H e s' h).elim
  | ok fl =>
   cases fl with
   | next=>exact False.elim h
   | brk=>exact False.elim h
   | cont=>exact False.elim h
   | ret u =>
    obtain ⟨v,H',os,bare,un,hok',r',q⟩:=h;have q':v=.bl true:=q;subst q';obtain rfl:u=Value.bool true:=r';refine ⟨rfl,OldK.of_keep fun b o e=>?_,os,bare⟩;cases q:H b with
    | none=>exact un.keep b o e q (by intro z; exact absurd (show b ∈ ([]:List Addr) from z) (by simp)) (by simp)
    | some u =>
     have fz:∀ ob u,H b=some (.frz ob u)->s'.heap.get? b=some o:=fun ob u z=>by
      have z2:=un.frzs b ob _ z;obtain ⟨e1,_⟩:=hok b _ z;obtain ⟨e2,_⟩:=hok' b _ z2;rw [e] at e1; cases e1;exact e2
     rcases hO b with z | ⟨ob,xs,z⟩ | ⟨_,ob,z⟩
     ·rw [q] at z; cases z
     ·exact fz _ _ z
     ·exact fz _ _ z
 cases hk:K.lookup a with
 | some o =>
  have e:=KX a o hk;rw [ha] at e;cases e;refine core (fun b=>if b=bd then some (.frz (dcObj w.params l ep) (.dK (dcK l))) else none) (fun b=>?_) (if_pos rfl) (.inr ⟨_,vs.toArray,_,hk,rfl,rfl,rfl,by rw [size_toArray,lenV]; exact hl,by simpa using rv⟩) (fun b u z=>?_) (fun b z=>?_) fun z=>absurd (if_neg hab) z
  ·by_cases hb:b=bd
   ·exact .inr (.inr ⟨hb,_,if_pos hb⟩)
   ·exact .inl (if_neg hb)
  ·by_cases hb:b=bd
   ·have z':=(if_pos hb).symm.trans z;cases z';subst hb;exact okD _
   ·have z':=(if_neg hb).symm.trans z;cases z'
  ·by_cases hb:b=bd
   ·exact .inr hb
   ·exact absurd (if_neg hb) z
 | none =>
  refine core (fun b=>if b=bd then some (.frz (dcObj w.params l ep) (.dK (dcK l))) else if b=a then some (.frz { cls:=.type "list", data:=.seq vs.toArray } (.lst (ns.map V.int))) else none) (fun b=>?_) (if_pos rfl) (.inl (.inr ⟨{ cls:=.type "list", data:=.seq vs.toArray },(if_neg hab).trans (if_pos rfl)⟩)) (fun b u z=>?_) (fun b z=>?_) fun _=>hk
  ·by_cases hb:b=bd
   ·exact .inr (.inr ⟨hb,_,if_pos hb⟩)
   ·by_cases hc:b=a
    ·exact .inr (.inl ⟨_,_,(if_neg hb).trans (if_pos hc)⟩)
    ·exact .inl ((if_neg hb).trans (if_neg hc))
  ·by_cases hb:b=bd
   ·have z':=(if_pos hb).symm.trans z;cases z';subst hb;exact okD _
   ·by_cases hc:b=a
    ·have z':=((if_neg hb).trans (if_pos hc)).symm.trans z;cases z';subst hc;exact ⟨ha,by rw [length_map]; exact hl,vs,_,rv,ha⟩
    ·have z':=((if_neg hb).trans (if_neg hc)).symm.trans z;cases z'
  ·by_cases hb:b=bd
   ·exact .inr hb
   ·by_cases hc:b=a
    ·exact .inl hc
    ·exact absurd ((if_neg hb).trans (if_neg hc)) z
theorem LG {l:W.OpenLaw} {n k:Nat} {q:Program} {loose:List Str} {XP:(Str->Option Value)->Heap->Prop} {YP:World->Heap->Prop} {d:DefRec} {K:Params->FG} {CX:World->CXT} {sp:World->Sp} {bd:Addr} {dl:List DcE} {ep:Nat}
  (hn:l.most=some n) (hn2:n <= sizeLine) (hdf:d.params.defaults=[]) (hr:Room k callerA) (hb5:5 <= bd) (hdl:dl.length <= 1000) (hdn:(dl.map (·.1)).Nodup)
  (hY:∀ (w:World) (h:Heap),YP w h->(K w.params).In h/\h.get? bd=some (dcObj w.params dl ep)/\(K w.params).lookup bd=none)
  (F:∀ (w:World) (mg:SV) (fa:Addr) (h:Heap),(K w.params).In h->h.Ns mainGlobals mg->mg d.name=some (.ref fa) ->
   ∃ fd:FuncData,(∀ (s:Shared) (u:Value),BindsTo s fd ⟨[u],[]⟩ [(x,u)]) /\
    ∀ base:Heap,(K w.params).In base->base.Ns mainGlobals mg->AX l.prog w (K w.params) mg base (CX w) k fa fd [x] (sp w))
  (hsp:∀ (w:World) (H:Hp) (a:Addr) (ns:List Int),ns.length <= n->LF bd (dcK dl) H->Rd H bd (.dK (dcK dl))->SqL (K w.params) H a (ns.map V.int)->sp w [.ref a] H (fun v _=>v=.bl true) fun _ _ _=>False)
  (hCX:∀ (w:World) (H:Hp) (s:Shared) (e:Value) (s':Shared),CX w [] H s (fun _ _ _=>False) e s'->False) :
  W.WalkO q loose XP YP l.row.toRowW d [] (fun f vs=>PySem.call f vs):=by
 refine Att.attach_call hn hdf fun w s₀ s₁ mg mb fa o pm cd doc a vs ns G Y ho hd hcd hmg bp a5 ay hg=>?_;obtain ⟨KX,hD,hKD⟩:=hY w _ Y;obtain ⟨fd,hb,hF⟩:=F w mg fa _ KX G.T.g hmg;exact Jz KX G.T.g G.T.b G.T.builtins G.T.nolimit hg bp a5 (Nat.le_trans ay hn2) hr hD hKD hb5 hdl hdn hF hb (fun H hO hH hS=>hsp w H a ns ay hO hH hS) fun H e s'=>hCX w H s₁ e s'
end L2
end
section
namespace MK
open PySem
theorem Bp (a b:Nat):Builtin.bitAnd (a:Int) (b:Int)=((a &&& b:Nat):Int):=by
 rw [PyProof.Rows.bitAnd_pp (Int.natCast_nonneg _) (Int.natCast_nonneg _)]; simp
theorem CW (a b:Nat):Builtin.bitOr (a:Int) (b:Int)=((a ||| b:Nat):Int):=by
 have ha:¬ (0:Int) <= Builtin.bitNot (a:Int):=by unfold Builtin.bitNot; omega
 have hb:¬ (0:Int) <= Builtin.bitNot (b:Int):=by unfold Builtin.bitNot; omega
 unfold Builtin.bitOr;rw [PyProof.Rows.bitAnd_nn ha hb];have e:∀ n:Nat,(Builtin.bitNot (Builtin.bitNot (n:Int))).toNat=n:=fun n=>by unfold Builtin.bitNot; omega
 rw [e a,e b];unfold Builtin.bitNot; omega
theorem FD (a b:Nat):Builtin.bitAnd (a:Int) (Builtin.bitNot (b:Int))=((a - (a &&& b):Nat):Int):=by
 rw [PyProof.Rows.bitAnd_not,Bp];have:a &&& b <= a:=Nat.and_le_left;omega
def AZ (l:List Nat):Nat:=l.foldl (· ||| ·) 0
theorem D7 (k:Nat):∀ (l:List Nat) (a:Nat),(l.foldl (· ||| ·) a).testBit k=(a.testBit k || l.any (·.testBit k))
 | [],a=>by simp
 | x :: r,a=>by rw [foldl_cons,D7 k r,Nat.testBit_or,any_cons,Bool.or_assoc]
theorem BD (l:List Nat) (k:Nat):(AZ l).testBit k=l.any (·.testBit k):=by
 unfold AZ; rw [D7]; simp
theorem FE {l:List Nat} {m:Nat} (h:∀ n ∈ l,n < 2 ^ m):AZ l < 2 ^ m:=by
 have:∀ (l:List Nat) (a:Nat),a < 2 ^ m->(∀ n ∈ l,n < 2 ^ m)->l.foldl (· ||| ·) a < 2 ^ m:=by
  intro l;induction l with
  | nil=>intro a ha _; exact ha
  | cons x r ih=>intro a ha hl; exact ih _ (Nat.or_lt_two_pow ha (hl x mem_cons_self)) fun n hn=>hl n (mem_cons_of_mem _ hn)
 exact this l 0 (Nat.two_pow_pos m) h
theorem DY (l:List Nat) (n:Nat):AZ (l++[n])=AZ l ||| n:=by unfold AZ; rw [foldl_append]; rfl
def Ar (n:Nat):Bool:=decide (0 < n) && decide (n &&& (n - 1)=0)
theorem IW (k:Nat):Ar (2 ^ k)=true:=by
 unfold Ar;have h0:0 < 2 ^ k:=Nat.two_pow_pos k
 have h1:2 ^ k &&& (2 ^ k - 1)=0:=by
  apply Nat.eq_of_testBit_eq;intro i;rw [Nat.testBit_and,Nat.testBit_two_pow,Nat.testBit_two_pow_sub_one,Nat.zero_testBit];by_cases e:k=i
  ·subst e; simp
  ·simp [e]
 simp [h0,h1]
theorem Be {n:Nat} (h:Ar n=true):∃ k,n=2 ^ k:=by
 unfold Ar at h;simp only [Bool.and_eq_true,decide_eq_true_eq] at h;obtain ⟨h0,h1⟩:=h;refine ⟨n.log2,?_⟩;have hlo:2 ^ n.log2 <= n:=Nat.log2_self_le (by omega);have hhi:n < 2 ^ (n.log2 + 1):=Nat.lt_log2_self;rcases Nat.eq_or_lt_of_le hlo with e | hlt
 ·exact e.symm
 ·exfalso
  have b1:n.testBit n.log2=true:=by
   rw [Nat.testBit_eq_decide_div_mod_eq];simp
   have:n / 2 ^ n.log2=1:=by
    apply Nat.div_eq_of_lt_le <;> (try rw [Nat.pow_succ] at hhi) <;> omega
   rw [this]
  have b2:(n - 1).testBit n.log2=true:=by
   rw [Nat.testBit_eq_decide_div_mod_eq];simp
   have:(n - 1) / 2 ^ n.log2=1:=by
    apply Nat.div_eq_of_lt_le <;> (try rw [Nat.pow_succ] at hhi) <;> omega
   rw [this]
  have:(n &&& (n - 1)).testBit n.log2=true:=by rw [Nat.testBit_and,b1,b2]; rfl
  rw [h1,Nat.zero_testBit] at this;cases this
def CY (n:Nat):List Nat:=(List.range 42).filter fun k=>n.testBit k
theorem FF {α:Type} [DecidableEq α] {p:α->Bool}:∀ {l:List α} {a:α},l.Nodup->a ∈ l->(∀ b ∈ l,p b=true ↔ b=a)->l.filter p=[a]
 | [],_,_,h,_=>by cases h
 | b :: r,a,hn,ha,hp=>by
  obtain ⟨n1,n2⟩:=nodup_cons.mp hn;by_cases e:b=a
  ·subst e;have hb:p b=true:=(hp b mem_cons_self).mpr rfl;rw [filter_cons,if_pos hb];congr 1;apply List.filter_eq_nil_iff.mpr;intro c hc hpc;have:=(hp c (mem_cons_of_mem _ hc)).mp hpc;exact n1 (this ▸ hc)
  ·have hb:¬ p b=true:=fun z=>e ((hp b mem_cons_self).mp z);rw [filter_cons,if_neg hb];rcases mem_cons.mp ha with z | z
   ·exact absurd z.symm e
   ·exact FF n2 z fun c hc=>hp c (mem_cons_of_mem _ hc)
theorem Fb {n:Nat} (hn:n < 2 ^ 42):decide ((CY n).length=1)=Ar n:=by
 rw [Bool.eq_iff_iff,decide_eq_true_eq];constructor
 ·intro h;obtain ⟨k,hk⟩:∃ k,CY n=[k]:=List.length_eq_one_iff.mp h
  have mem:∀ i,i < 42->(n.testBit i=true ↔ i=k):=fun i hi=>by
   have:i ∈ CY n ↔ i=k:=by rw [hk]; simp
   unfold CY at this;rw [mem_filter] at this;constructor
   ·intro hb; exact this.mp ⟨mem_range.mpr hi,hb⟩
   ·intro e; exact (this.mpr e).2
  have hk42:k < 42:=by
   have:k ∈ CY n:=by rw [hk]; simp
   unfold CY at this;exact mem_range.mp (mem_filter.mp this).1
  have e:n=2 ^ k:=by
   apply Nat.eq_of_testBit_eq;intro i;rw [Nat.testBit_two_pow];by_cases hi:i < 42
   ·rw [Bool.eq_iff_iff,mem i hi,decide_eq_true_eq]; exact eq_comm
   ·have h1:n.testBit i=false:=Nat.testBit_lt_two_pow (Nat.lt_of_lt_of_le hn (Nat.pow_le_pow_right (by decide) (by omega)));rw [h1]; symm; rw [decide_eq_false_iff_not]; omega
  rw [e]; exact IW k
 ·intro h;obtain ⟨k,rfl⟩:=Be h;have hk:k < 42:=(Nat.pow_lt_pow_iff_right (by decide)).mp hn
  have:CY (2 ^ k)=[k]:=by
   unfold CY;refine FF List.nodup_range (mem_range.mpr hk) fun b _=>?_;rw [Nat.testBit_two_pow,decide_eq_true_eq]; exact eq_comm
  rw [this]; rfl
def A8 (m:Nat):Nat:=2 ^ (Builtin.Int.intBits (m:Int))
theorem C1 {m:Nat} (h:0 < m):Builtin.Int.intBits (m:Int)=m.log2 + 1:=by
 unfold Builtin.Int.intBits;have:((m:Int) == 0)=false:=by rw [beq_eq_false_iff_ne]; omega
 rw [this]; simp
theorem HH {m k:Nat} (h1:m < 2 ^ k) (h2:k=0\/2 ^ (k - 1) <= m):2 ^ k=A8 m:=by
 unfold A8;congr 1;rcases Nat.eq_zero_or_pos m with e | hm
 ·subst e
  have:k=0:=by
   rcases h2 with z | z
   ·exact z
   ·have:=Nat.two_pow_pos (k - 1); omega
  rw [this]; rfl
 ·rw [C1 hm];rcases h2 with z | z
  ·subst z; simp at h1; omega
  ·have hk:0 < k:=by rcases Nat.eq_zero_or_pos k with e | e
                     ·subst e; simp at h1; omega
                     ·exact e
   have e:m.log2=k - 1:=by
    apply Nat.le_antisymm
    ·have:m.log2 < k:=(Nat.log2_lt (by omega)).mpr h1;omega
    ·exact (Nat.le_log2 (by omega)).mpr z
   omega
theorem LH:∀ {l:List Nat} {a:Nat},(∀ n ∈ l,Ar n=true)->l.Pairwise (· < ·)->(∀ n ∈ l,a &&& n=0)->a + l.sum=l.foldl (· ||| ·) a
 | [],a,_,_,_=>by simp
 | n :: r,a,hm,hp,ha=>by
  obtain ⟨p1,p2⟩:=List.pairwise_cons.mp hp;have han:=ha n mem_cons_self
  have e:a ||| n=a + n:=by
   have h:=PyProof.Rows.bitOr_and (a:Int) (n:Int);rw [CW,Bp,han] at h;omega
  rw [sum_cons,foldl_cons,← LH (a:=a ||| n) (fun m hm'=>hm m (mem_cons_of_mem _ hm')) p2 (fun m hm'=>?_),e]
  ·omega
  ·obtain ⟨i,rfl⟩:=Be (hm n mem_cons_self);obtain ⟨j,rfl⟩:=Be (hm m (mem_cons_of_mem _ hm'));have hlt:=p1 _ hm';have haj:=ha _ (mem_cons_of_mem _ hm');apply Nat.eq_of_testBit_eq;intro t;rw [Nat.testBit_and,Nat.testBit_or,Nat.zero_testBit];have h1:(a &&& 2 ^ j).testBit t=false:=by rw [haj]; exact Nat.zero_testBit t
   rw [Nat.testBit_and] at h1;rw [Bool.and_or_distrib_right,h1,Nat.testBit_two_pow,Nat.testBit_two_pow];have:i ≠ j:=fun e=>by subst e; omega
   by_cases e1:i=t
   ·have:¬ j=t:=by omega
    simp [this]
   ·simp [e1]
theorem J0 {l:List Nat} (hm:∀ n ∈ l,Ar n=true) (hp:l.Pairwise (· < ·)):l.sum=AZ l:=by
 have:=LH (a:=0) hm hp (fun n _=>by simp);unfold AZ;omega
end MK
end
end
variable {P:PySem.Program} {w:PySem.World} {K:FG} {mg:SV} {base:PySem.Heap} {f:PySem.Addr} {fd:PySem.FuncData} {H:L2.Hp} {H':L2.Hp} {due:LN} {ab:LN} {C:PySem.Addr} {VC:PySem.Addr} {EC:PySem.Addr}
section
namespace Mk
open PySem L2 MK
def top (i:Nat):Stmt:=PySem.Challenge.pw_markworks_k30_whole_texts.main.body.getD i (.Pass ⟨0,0,0,0⟩)
abbrev FH:Stmt:=top 13
abbrev Gc:Stmt:=top 14
abbrev Gd:Stmt:=top 15
abbrev FI:Stmt:=top 16
abbrev FJ:Stmt:=top 17
abbrev ES:Stmt:=top 18
abbrev ET:Stmt:=top 19
abbrev DZ:Stmt:=top 20
abbrev CZ:Stmt:=top 21
abbrev Db:Stmt:=top 22
abbrev EU:Stmt:=top 23
abbrev C2:Stmt:=top 24
abbrev A3:Stmt:=inClass (top 25) 0
abbrev EV:Stmt:=inClass (top 25) 1
abbrev C3:Stmt:=inClass (top 25) 2
abbrev Dc:Stmt:=inClass (top 25) 3
abbrev Dd:Stmt:=inClass (top 25) 5
abbrev De:Stmt:=inClass (top 25) 6
abbrev EW:Stmt:=inClass (top 25) 7
abbrev Ge:Stmt:=inClass (top 25) 8
abbrev EX:Stmt:=top 28
abbrev Gf:Stmt:=top 29
abbrev Df:Stmt:=inClass (top 30) 0
abbrev Ca:Stmt:=inClass (top 30) 1
abbrev Dg:Stmt:=inClass (top 30) 2
abbrev C4:Stmt:=inClass (top 30) 3
abbrev Dh:Stmt:=inClass (top 30) 4
abbrev FK:Stmt:=inClass (top 30) 5
abbrev LI:Stmt:=top 31
abbrev FL:Stmt:=top 32
abbrev EY:Stmt:=top 37
abbrev Di:Stmt:=top 38
abbrev Gg:Stmt:=top 39
abbrev FM:Stmt:=top 40
abbrev Cb:Stmt:=inClass (top 41) 0
abbrev Ba:Stmt:=inClass (top 41) 1
abbrev Bb:Stmt:=inClass (top 41) 2
abbrev BI:Stmt:=inClass (top 41) 4
abbrev Bz:Stmt:=inClass (top 41) 6
abbrev Cc:Stmt:=inClass (top 41) 7
abbrev B0:Stmt:=top 42
abbrev Gh:Stmt:=top 43
abbrev C5:Stmt:=top 44
abbrev EZ:Stmt:=top 45
abbrev Gi:Stmt:=top 47
abbrev LJ:Stmt:=top 48
abbrev FN:Stmt:=top 50
abbrev Ea:Stmt:=top 51
abbrev FO:Stmt:=top 52
abbrev Dj:Stmt:=top 53
abbrev Dk:Stmt:=top 54
abbrev Dl:Stmt:=top 55
abbrev Bc:Stmt:=top 56
abbrev C6:Stmt:=top 57
abbrev Cd:Stmt:=top 58
abbrev Dm:Stmt:=top 59
abbrev LL:Stmt:=top 60
structure Fn (P:Program) (w:World) (K:FG) (mg:SV) (base:Heap) (x:Str) (k:Nat) (ps:List Str) (sp:Sp):Prop where
 ex:∃ f fd,AX P w K mg base CX0 k f fd ps sp/\mg x=some (.ref f)/\W.keepIn K (.ref f)=true/\Binds K fd ps []
structure Bl (mg:SV):Prop where
 len:mg "len" = none
 isi:mg "isinstance" = none
 max:mg "max" = none
 min:mg "min" = none
 range:mg "range" = none
 list:mg "list" = none
 tuple:mg "tuple" = none
 sorted:mg "sorted" = none
 sum:mg "sum" = none
 all:mg "all" = none
 enum:mg "enumerate" = none
 int:mg "int" = none
 bool:mg "bool" = none
 str:mg "str" = none
def An (ns:List Nat):List V:=ns.map fun (n:Nat)=>V.int (n:Int)
section
inductive spIsMark (vs:List V) (H:Hp) (Q:VK) (_E:XK):Prop where
 | mk (n:Nat) (z_0:vs=[.int (n:Int)]) (z_1:Q (.bl (Ar n)) H)
theorem LM:AK ["number"] ["number"] (defScope Gd):=fsc
theorem IY (n:Nat):(decide (0 < (n:Int)) && decide (V.int (Builtin.bitAnd (n:Int) ((n:Int) - 1))=V.int 0))=Ar n:=by
 unfold Ar;rcases Nat.eq_zero_or_pos n with e | h
 ·subst e; rfl
 ·have e1:((n:Int) - 1)=((n - 1:Nat):Int):=by omega
  rw [e1,Bp];have e2:decide (0 < (n:Int))=true:=decide_eq_true (by omega);have e3:decide (0 < n)=true:=decide_eq_true h;rw [e2,e3];congr 1;rw [Bool.eq_iff_iff,decide_eq_true_eq,decide_eq_true_eq];constructor
  ·intro z; injection z with z; omega
  ·intro z; rw [z]; rfl
theorem J1 (F:Fun K "is_mark" "is_mark" Gd f fd):AX P w K mg base CX0 1 f fd ["number"] spIsMark:=by
 refine F.ok LM (fun vs H Q E h=>?_) (fun ac A outer s H vs Q E hr h=>?_)
 ·obtain ⟨n,rfl,_⟩:=h;rfl
 ·obtain ⟨n,rfl,k⟩:=h;refine ⟨_,AD (AM (BV (BA Ez (pv 0) AI (AS _)) (Bj (BA A0 (Aa Cr (pv 0) (Aa Hy (pv 0) AI)) AI (AS _))))),?_⟩;rw [← IY] at k;refine ⟨_,rfl,_,_,rfl,rfl,_,rfl,?_⟩;refine BS (fun h=>?_) (fun h=>?_)
  ·rw [h,Bool.true_and] at k;exact ⟨_,rfl,_,rfl,_,_,rfl,rfl,_,_,rfl,rfl,rfl,k⟩
  ·rw [Bool.eq_false_iff.mpr h,Bool.false_and] at k;exact k
inductive spUnionOf (K:FG) (vs:List V) (H:Hp) (Q:VK) (_E:XK):Prop where
 | mk (a:Addr) (ns:List Nat) (z_0:vs=[.ref a]) (z_1:SqL K H a (An ns)) (z_2:Q (.int (AZ ns:Nat)) H)
theorem scUnionOf:AK ["numbers", "bits", "number"] ["numbers"] (defScope FI):=fsc
theorem D8 {ns:List Nat} {i:Nat} {x:V} (h:(An ns)[i]?=some x):∃ n,ns[i]?=some n/\x=V.int (n:Int):=by
 unfold An at h;rw [getElem?_map] at h;cases e:ns[i]? with
 | none=>rw [e] at h; cases h
 | some n=>rw [e] at h; exact ⟨n,rfl,(Option.some.inj h).symm⟩
theorem IZ (F:Fun K "union_of" "union_of" FI f fd):AX P w K mg base CX0 1 f fd ["numbers"] (spUnionOf K):=by
 refine F.ok scUnionOf (fun vs H Q E h=>?_) (fun ac A outer s H vs Q E hr h=>?_)
 ·obtain ⟨a,ns,rfl,_⟩:=h;rfl
 ·obtain ⟨a,ns,rfl,hS,k⟩:=h
  refine ⟨_,AE (Ac (i:=1) scUnionOf.nd rfl (Or.inl rfl) AI)
   (AE (Bx PassesOwn.never rfl (A6 (pv 0)) (AY (i:=2) scUnionOf.nd rfl (Or.inl rfl))
    (AD (Ht (i:=1) scUnionOf.nd rfl (Or.inl rfl) (pv 2) (N4:OpR _ _ _))))
   (AD (AM (pv 1)))),?_⟩
  refine ⟨_,rfl,a,rfl,⟨_,hS⟩,CJ (K:=K) (a:=a) (xs:=An ns) (fun i σ H2=>∃ v:Option V,σ=[some (.ref a),some (.int (AZ (ns.take i):Nat)),v]/\H2=H) ⟨none,rfl,rfl⟩ (fun i σ H2 _ ⟨_,_,e⟩=>e ▸ hS) ?_ ?_⟩
  ·rintro i x σ H2 hi ⟨v,rfl,rfl⟩;obtain ⟨n,hn,rfl⟩:=D8 hi;refine ⟨_,rfl,_,rfl,_,_,rfl,rfl,?_⟩;refine ⟨some (V.int (n:Int)),?_,rfl⟩;rw [take_add_one,hn,Option.toList_some,DY];show [some (V.ref a),some (V.int (Builtin.bitOr (AZ (ns.take i):Nat) (n:Nat))),some (V.int (n:Int))]=_;rw [CW]
  ·rintro σ H2 ⟨v,rfl,rfl⟩;refine ⟨_,rfl,?_⟩;have e:(An ns).length=ns.length:=by unfold An; rw [length_map]
   rw [e,take_length];exact k
end
end Mk
end
section
namespace L2
open PySem
theorem HI {x:Str} {g:TG} {tt:TT} {te:TE} {ix:List (Option Nat)} {R:List V->Hp->Prop} {σ:St} {H1:Hp} (Pv:Nat->List V->Hp->Prop) (h0:Pv 0 [] H1) (hz:∀ i ys H,Pv i ys H->ys.length <= 1000)
  (hs:∀ (i c:Nat) ys H,x.cps[i]?=some c->Pv i ys H->g (.str ⟨#[c]⟩) (By ix σ) H fun σ2 H2=>tt σ2 H2 fun b H3=>if b=true then te σ2 H3 fun y H4=>Pv (i + 1) (ys++[y]) H4 else Pv (i + 1) ys H3) (hd:∀ ys H,Pv x.cps.size ys H->R ys H) :
  ∃ W:Nat->Nat->List V->Hp->Prop,(∃ m,W 0 m [] H1)/\∀ i m ys H,W i m ys H ->
   ((Its x).stop i H/\ys.length <= sizeLine/\R ys H) \/
   ((Its x).go i H/\∃ N:List V->Hp->Prop,(∀ ys' H',N ys' H'->ys'.length <= sizeLine/\∃ m',m' < m/\W (i + 1) m' ys' H') /\
    ∀ v H',(Its x).yld i H v H'->g v (By ix σ) H' fun σ2 H2=>tt σ2 H2 fun b H3=>if b=true then te σ2 H3 fun y H4=>N (ys++[y]) H4 else N ys H3):=by
 refine ⟨fun i m ys H=>m=x.cps.size - i/\i <= x.cps.size/\Pv i ys H,⟨_,rfl,Nat.zero_le _,h0⟩,?_⟩;rintro i m ys H ⟨rfl,hi,hp⟩;by_cases hlt:i < x.cps.size
 ·refine .inr ⟨hlt,Pv (i + 1),fun ys' H' q=>⟨Nat.le_of_lt (AQ (hz _ ys' H' q)),x.cps.size - (i + 1),by omega,rfl,hlt,q⟩,?_⟩;rintro v H' ⟨rfl,c,hc,rfl⟩;exact hs i c ys H' hc hp
 ·have e:i=x.cps.size:=by omega
  subst e;exact .inl ⟨Nat.le_refl _,Nat.le_of_lt (AQ (hz _ ys H hp)),hd ys H hp⟩
end L2
namespace Mk
open PySem L2 MK
theorem Ie:bootBuiltins "all" = some (.builtin "all"):=by decide +kernel
theorem Gj:bootBuiltins "isinstance" = some (.builtin "isinstance"):=by decide +kernel
theorem Fv:bootBuiltins "sorted" = some (.builtin "sorted"):=by decide +kernel
theorem OG:bootBuiltins "sum" = some (.builtin "sum"):=by decide +kernel
theorem OH:bootBuiltins "min" = some (.builtin "min"):=by decide +kernel
theorem OI:bootBuiltins "max" = some (.builtin "max"):=by decide +kernel
theorem Do:bootBuiltins "str" = some (.type "str"):=by decide +kernel
theorem Ig:bootBuiltins "int" = some (.type "int"):=by decide +kernel
theorem Mu:bootBuiltins "bool" = some (.type "bool"):=by decide +kernel
theorem D9:bootBuiltins "tuple" = some (.type "tuple"):=by decide +kernel
theorem DI:bootBuiltins "list" = some (.type "list"):=by decide +kernel
theorem AG {H1:Hp} {p:Addr} {o:HO} (s:Same H H1) (hp:H1 p=none):Same H (upd H1 p o):=fun b u e=>by
 have e':=s b u e;rw [AF (AH e' hp)];exact e'
def Cm (c:Nat):Bool:=decide (65 <= c) && decide (c <= 90)
def Bq (x:Str):Bool:=(decide (1 <= x.length) && decide (x.length <= 6)) && x.cps.toList.all Cm
section
theorem Bf {X:Cx} {e:Expr} {te:TE} {T:String} {x:Str} {p p2 pos:Pos} (K:FG) (hK:X.K=K) (hg:Gl X "isinstance") (hm:X.mg "isinstance" = none) (hgT:Gl X x) (hmT:X.mg x=none) (hvT:bootBuiltins x=some (.type T)) (he:PE X e te)
  (hn:x ≠ "__name__" := by decide) (hdb:(x == ("__debug__" : Str))=false:=by decide)
  (hs:starEach [e,.Name x p2] X.env=(false,eval e X.env) :: starEach [.Name x p2] X.env:=by rfl) (hpl:(backTo pos (starEach [.Name x p2] X.env)).any (·.1)=false:=by rfl) (hs2:starEach [.Name x p2] X.env=(false,eval (.Name x p2) X.env) :: starEach [] X.env:=by rfl) :
  PE X (.Call (.Name "isinstance" p) [e,.Name x p2] [] pos) (tCB (fun xs H Q=>∃ v T t b,xs=[v,.ty T]/\TyOf K H v t/\W.kitOne K t (.type T)=some b/\Q (.bl b) H) (Ay te (Ay (tC (.ty T)) F9))):=by
 subst hK;exact AV K4 hg hm Gj (AA he (AA (F5 hgT hmT hvT rfl hn hdb) AC hs2) hs) (by decide) (by decide) hs hpl
theorem Aq {X:Cx} (K:FG) (hK:X.K=K):IxR X (O8 K):=hK ▸ Md
theorem Es {X:Cx} (K:FG) (hK:X.K=K):IxR X (O9 K):=hK ▸ N6
theorem Aw {X:Cx} (K:FG) (hK:X.K=K):BQ X (.builtin "len") (fun xs H Q=>∃ p ys,xs=[.ref p]/\(SqL K H p ys\/SqT K H p ys)/\Q (.int ys.length) H):=hK ▸ D3
theorem JN {X:Cx} {e:Expr} {f:Str} {pos:Pos} {ta:TE} (K:FG) (hK:X.K=K) (he:PE X e ta) (hb:attributeBase e f X.env (eval e X.env)=eval e X.env):PE X (.Attribute e f pos) (O3 K ta f):=hK ▸ Aj he hb
inductive spIsName (vs:List V) (H:Hp) (Q:VK) (_E:XK):Prop where
 | mk (x:Str) (z_0:vs=[.str x]) (z_1:x.cps.all (· < 128)=true) (z_2:x.length <= 1000) (z_3:∀ H',Same H H'->Q (.bl (Bq x)) H')
theorem LQ:AK ["thing"] ["thing"] (defScope Gc):=fsc
theorem LR (c:Nat):(if (!decide ((⟨#[c]⟩:Str).cps.toList < ("A" : Str).cps.toList))=true then (!decide (("Z" : Str).cps.toList < (⟨#[c]⟩:Str).cps.toList)) else false)=Cm c:=by
 have hA:("A" : Str).cps.toList=[65]:=by decide +kernel
 have hZ:("Z" : Str).cps.toList=[90]:=by decide +kernel
 rw [hA,hZ];show (if (!decide ([c] < [65]))=true then !decide ([90] < [c]) else false)=Cm c;unfold Cm
 have e1:decide ([c] < [65])=decide (c < 65):=by
  rw [Bool.eq_iff_iff,decide_eq_true_eq,decide_eq_true_eq,cons_lt_cons_iff];simp
 have e2:decide ([90] < [c])=decide (90 < c):=by
  rw [Bool.eq_iff_iff,decide_eq_true_eq,decide_eq_true_eq,cons_lt_cons_iff];simp
 rw [e1,e2];by_cases h1:c < 65 <;> by_cases h2:90 < c <;> simp [h1,h2] <;> omega
theorem J2 {t6:Tok} (F:Fun K "is_name" "is_name" Gc f fd) (B:Bl mg) (hL:mg "LONGEST_NAME" = some (.int 6 t6)):AX P w K mg base CX0 1 f fd ["thing"] spIsName:=by
 refine F.ok LQ (fun vs H Q E h=>?_) (fun ac A outer s H vs Q E hr h=>?_)
 ·obtain ⟨x,rfl,_⟩:=h;rfl
 ·obtain ⟨x,rfl,ha,hz,k⟩:=h
  refine ⟨_,AE (Ag (PW.pt (Dv (BH (Av (Bf K rfl rfl B.isi rfl B.str Do (pv 0)))) (CP (BH (Dz Dx Dx AI (AV BW rfl B.len PySem.boot_len (AA (pv 0) AC)) (A5 (v:=.int 6) rfl hL ⟨t6,rfl⟩))))))
    (AD (AM Ei)) AU)
   (AD (AM (AV (FC rfl) rfl B.all Ie (AA (BX [] [] (by kernel_rfl) (by decide +kernel) (by kernel_rfl) rfl (K1 (pv 0)) (fun _ _ _ _ _ _=>Bd) (fun _ _ _ _ _ _=>Dy Bs Bs Ae (pv 0) Ae)) AC)))),?_⟩
  refine ⟨_,rfl,_,_,_,true,rfl,.str x,rfl,_,rfl,?_⟩;refine Af ?_;refine ⟨_,rfl,x,rfl,Nat.le_of_lt (AQ hz),_,_,rfl,rfl,_,rfl,?_⟩;refine BS (fun h1=>?_) (fun h1=>?_)
  ·have h1':1 <= x.length:=by have:=of_decide_eq_true h1; omega
   refine ⟨_,_,rfl,rfl,_,rfl,?_⟩;refine BS (fun h2=>?_) (fun h2=>?_)
   ·have h2':¬ x.length <= 6:=by
     intro z;rw [decide_eq_true (show (x.length:Int) <= 6 by omega)] at h2;cases h2
    have e:Bq x=false:=by unfold Bq; simp [h2']
    have:=k H (Same.refl H);rw [e] at this;exact this
   ·have h2':x.length <= 6:=Decidable.byContradiction fun z=>h2 (by rw [decide_eq_false (show ¬ (x.length:Int) <= 6 by omega)]; rfl);refine ⟨_,rfl,x,rfl,ha,HI (x:=x) (fun i ys H2=>H2=H/\ys=(x.cps.toList.take i).map fun c=>V.bl (Cm c)) ⟨rfl,rfl⟩ (fun i ys H2 ⟨_,e⟩=>?_) ?_ ?_⟩
    ·rw [e,length_map,length_take];have:x.cps.toList.length=x.length:=by rw [Array.length_toList]; rfl
     omega
    ·rintro i c ys H2 hc ⟨rfl,rfl⟩;refine ⟨_,rfl,_,_,rfl,rfl,_,rfl,?_⟩
     have fin:∀ b,b=Cm c->(H2=H2/\(x.cps.toList.take i).map (fun c=>V.bl (Cm c))++[V.bl b]=(x.cps.toList.take (i + 1)).map fun c=>V.bl (Cm c)):=fun b hb=>by
      refine ⟨rfl,?_⟩;have hc':x.cps.toList[i]?=some c:=by rw [Array.getElem?_toList]; exact hc
      rw [take_add_one,hc',map_append,hb];rfl
     have hu:=LR c;refine BS (fun h3=>?_) (fun h3=>?_)
     ·rw [if_pos h3] at hu;exact ⟨_,_,rfl,rfl,fin _ hu⟩
     ·rw [if_neg h3] at hu;exact fin _ hu
    ·rintro ys H2 ⟨rfl,rfl⟩ p hp;have el:x.cps.toList.take x.cps.size=x.cps.toList:=take_of_length_le (by rw [Array.length_toList]; exact Nat.le_refl _);refine ⟨p,x.cps.toList.map Cm,rfl,SqL.of (by rw [AB,el,map_map]; rfl),?_⟩
     have e:Bq x=((x.cps.toList.map Cm).all id):=by
      unfold Bq;rw [decide_eq_true h1',decide_eq_true h2',all_map];rfl
     rw [← e];exact k _ (AG (Same.refl _) hp)
  ·have h1':¬ 1 <= x.length:=fun z=>h1 (decide_eq_true (by omega));refine ⟨_,rfl,?_⟩;refine Az ?_;have e:Bq x=false:=by unfold Bq; simp [h1']
   have:=k H (Same.refl H);rw [e] at this;exact this
end
inductive Th where
 | non | num (n:Nat) | nms (ns:List Str)
def ThAt (H:Hp) (v:V):Th->Prop
 | .non=>v=.non
 | .num n=>v=.int (n:Int)
 | .nms ns=>∃ a,v=.ref a/\H a=some (.tup (ns.map V.str))
def Cl (ns:List Nat):Nat:=ns.foldl max 0
def look (due:LN) (x:Str):Nat:=((due.find? fun p=>decide (p.1=x)).map (·.2)).getD 0
def Au (due:LN):LK:=due.map fun p=>(Sum.inr p.1,V.int (p.2:Int))
def B9 (due:LN):Th->Nat
 | .non=>A8 (Cl (due.map (·.2)))
 | .num n=>n
 | .nms ns=>AZ (ns.map (look due))
theorem Dp (x:Str):∀ due:LN,A7 (Au due) (Sum.inr x)=(due.find? fun p=>decide (p.1=x)).map fun p=>V.int (p.2:Int)
 | []=>rfl
 | p :: r=>by
  show A7 ((Sum.inr p.1,V.int (p.2:Int)) :: Au r) (Sum.inr x)=_;by_cases e:p.1=x
  ·rw [Cv (p:=(Sum.inr p.1,V.int (p.2:Int))) (by rw [← e]),List.find?_cons_of_pos (by simpa using e)]; rfl
  ·rw [Cw (p:=(Sum.inr p.1,V.int (p.2:Int))) (fun z=>e (Sum.inr.inj z)),List.find?_cons_of_neg (by simpa using e)]; exact Dp x r
theorem J3 {x:Str} (h:x ∈ due.map (·.1)):(due.find? fun p=>decide (p.1=x)).isSome=true:=by
 obtain ⟨p,hp,e⟩:=mem_map.mp h;rw [List.find?_isSome];exact ⟨p,hp,by simpa using e⟩
theorem CA {x:Str} (h:x ∈ due.map (·.1)):A7 (Au due) (Sum.inr x)=some (V.int (look due x:Int)):=by
 rw [Dp];unfold look;obtain ⟨p,hp⟩:=Option.isSome_iff_exists.mp (J3 h);rw [hp]; rfl
theorem EA {x:Str} (h:x ∉ due.map (·.1)):A7 (Au due) (Sum.inr x)=none:=by
 rw [Dp]
 have:(due.find? fun p=>decide (p.1=x))=none:=by
  rw [List.find?_eq_none];intro p hp e;exact h (mem_map.mpr ⟨p,hp,by simpa using e⟩)
 rw [this]; rfl
theorem EB {m:Nat}:∀ (l:List Nat) (a:Nat),a < m->(∀ n ∈ l,n < m)->l.foldl max a < m
 | [],a,h,_=>h
 | x :: r,a,h,k=>EB r (max a x) (by have:=k x mem_cons_self; omega) fun n hn=>k n (mem_cons_of_mem _ hn)
theorem HJ {ns:List Nat} {m:Nat} (h0:0 < m) (h:∀ n ∈ ns,n < m):Cl ns < m:=EB ns 0 h0 h
theorem LS (a b:Nat):max (a:Int) (b:Int)=((max a b:Nat):Int):=by omega
theorem FP:∀ (r:List Nat) (a:Nat),(r.map fun n:Nat=>(n:Int)).foldl max (a:Int)=((r.foldl max a:Nat):Int)
 | [],_=>rfl
 | x :: r,a=>by rw [map_cons,foldl_cons,LS,FP r]; rfl
theorem HK {ns:List Nat} (h:ns ≠ []):HF 0 (ns.map fun n:Nat=>(n:Int))=(Cl ns:Nat):=by
 cases ns with
 | nil=>exact absurd rfl h
 | cons a r =>
  show (r.map fun n:Nat=>(n:Int)).foldl max (a:Int)=_;rw [FP];unfold Cl;rw [foldl_cons];have:max 0 a=a:=by omega
  rw [this]
theorem Ih {m:Nat} (h:m < 2 ^ 20):Builtin.Int.intBits (m:Int) <= 20:=by
 rcases Nat.eq_zero_or_pos m with e | hm
 ·subst e; decide
 ·rw [C1 hm];have:m.log2 < 20:=(Nat.log2_lt (by omega)).mpr h;omega
section
inductive spNextMark (K:FG) (vs:List V) (H:Hp) (Q:VK) (_E:XK):Prop where
 | mk (a:Addr) (ns:List Nat) (z_0:vs=[.ref a]) (z_1:SqL K H a (An ns)) (z_2:(∀ n ∈ ns,n < 2 ^ 20)) (z_3:Q (.int (A8 (Cl ns):Nat)) H)
theorem Ii:AK ["numbers"] ["numbers"] (defScope ET):=fsc
theorem ED (ns:List Nat):An ns=(ns.map fun n:Nat=>(n:Int)).map V.int:=by unfold An; rw [map_map]; rfl
theorem HL (F:Fun K "next_mark" "next_mark" ET f fd) (B:Bl mg):AX P w K mg base CX0 1 f fd ["numbers"] (spNextMark K):=by
 refine F.ok Ii (fun vs H Q E h=>?_) (fun ac A outer s H vs Q E hr h=>?_)
 ·obtain ⟨a,ns,rfl,_⟩:=h;rfl
 ·obtain ⟨a,ns,rfl,hS,hlt,k⟩:=h;refine ⟨_,AD (AM (Aa F7 AI (GX PySem.F.plainAttrs_int PySem.F.slot_int_bit_length PySem.F.type_int_bit_length GZ (JK rfl rfl B.max (pv 0) AI)))),?_⟩;have hm:=HJ (m:=2 ^ 20) (by decide) hlt
  have fin:∀ m:Int,m=(Cl ns:Nat)->tyV K "int" (.int m) H/\∃ i,V.int m=.int i/\([]:List V)=[]/\rI N2 (fun i j=>V.int (i * 2 ^ j.toNat)) (V.int 1) (V.int (Builtin.Int.intBits i:Nat)) H Q:=fun m e=>by
   subst e;refine ⟨rfl,_,rfl,rfl,1,_,rfl,rfl,⟨Int.natCast_nonneg _,?_,by decide⟩,?_⟩
   ·have:=Ih hm; omega
   ·have e:(1:Int) * 2 ^ ((Builtin.Int.intBits (Cl ns:Nat):Nat):Int).toNat=((A8 (Cl ns):Nat):Int):=by
     unfold A8;rw [Int.one_mul,Int.toNat_natCast];simp
    show Q (V.int (1 * 2 ^ ((Builtin.Int.intBits (Cl ns:Nat):Nat):Int).toNat)) H;rw [e];exact k
  refine ⟨_,rfl,a,ns.map (fun n:Nat=>(n:Int)),0,rfl,rfl,by rw [← ED]; exact hS,fun e=>?_,fun e=>?_⟩
  ·have e':ns=[]:=List.map_eq_nil_iff.mp e;exact fin 0 (by rw [e']; rfl)
  ·have e':ns ≠ []:=fun z=>e (by rw [z]; rfl);exact fin _ (HK e')
def CL (K:FG):Sp:=fun vs H Q _=>(∃ (x:Str) (d:Addr) (kvs:LK),vs=[.str x,.ref d]/\Rd H d (.dK kvs)/\Q (.bl (A7 kvs (Sum.inr x:Key)).isSome) H) \/
 (∃ (x:Str) (t:Addr) (xs:List Str),vs=[.str x,.ref t]/\SqT K H t (xs.map V.str)/\Q (.bl (inV (.str x) (xs.map V.str))) H)
theorem J4:AK ["thing", "names"] ["thing", "names"] (defScope FJ):=fsc
theorem Fw:∀ xs:List Str,(xs.map V.str).all D1=true
 | []=>rfl
 | _ :: r=>Fw r
theorem Ij (F:Fun K "is_one_of" "is_one_of" FJ f fd) (B:Bl mg):AX P w K mg base CX0 1 f fd ["thing", "names"] (CL K):=by
 refine F.ok J4 (fun vs H Q E h=>?_) (fun ac A outer s H vs Q E hr h=>?_)
 ·rcases h with ⟨x,d,kvs,rfl,_⟩ | ⟨x,t,xs,rfl,_⟩ <;> rfl
 ·have hu:=Ck hr;rcases h with ⟨x,d,kvs,rfl,hd,k⟩ | ⟨x,t,xs,rfl,ht,k⟩
  ·refine ⟨_,AD (AM (BV (Bf K rfl rfl B.isi rfl B.str Do (pv 0)) (Bj (Nx (IL hu (pv 0) (pv 1)))))),?_⟩;refine ⟨_,rfl,_,_,_,true,rfl,.str x,rfl,_,rfl,?_⟩;exact ⟨_,rfl,_,rfl,d,_,rfl,.inl ⟨kvs,Sum.inr x,hd,rfl,rfl⟩,k⟩
  ·refine ⟨_,AD (AM (BV (Bf K rfl rfl B.isi rfl B.str Do (pv 0)) (Bj (BA EO (pv 0) (pv 1) (by with_unfolding_all rfl))))),?_⟩;refine ⟨_,rfl,_,_,_,true,rfl,.str x,rfl,_,rfl,?_⟩;exact ⟨_,rfl,_,rfl,t,_,rfl,.inr ht,rfl,Fw xs,k⟩
inductive spIsNamesOf (vs:List V) (H:Hp) (Q:VK) (_E:XK):Prop where
 | mk (a d:Addr) (ns:List Str) (kvs:LK) (z_0:vs=[.ref a,.ref d]) (z_1:H a=some (.tup (ns.map V.str))) (z_2:ns.length <= 1000) (z_3:Rd H d (.dK kvs)) (z_4:∀ H',Same H H'->Q (.bl (decide (0 < ns.length) && ns.all fun x=>(A7 kvs (Sum.inr x:Key)).isSome)) H')
theorem HM:AK ["parts", "ahead"] ["parts", "ahead"] (defScope DZ):=fsc
theorem Same.rd {a:Addr} {u:HO} (s:Same H H') (h:Rd H a u):Rd H' a u:=by
 rcases h with h | ⟨o,h⟩
 ·exact .inl (s _ _ h)
 ·exact .inr ⟨o,s _ _ h⟩
theorem Gk (F:Fun K "is_names_of" "is_names_of" DZ f fd) (B:Bl mg) (GO:Fn P w K mg base "is_one_of" 1 ["thing", "names"] (CL K)):AX P w K mg base CX0 2 f fd ["parts", "ahead"] spIsNamesOf:=by
 obtain ⟨fO,dO,GO,mO,kO,bO⟩:=GO.ex;refine F.ok HM (fun vs H Q E h=>?_) (fun ac A outer s H vs Q E hr h=>?_)
 ·obtain ⟨a,d,ns,kvs,rfl,_⟩:=h;rfl
 ·obtain ⟨a,d,ns,kvs,rfl,ha,hz,hd,k⟩:=h;have hu:=Ck hr
  refine ⟨_,AD (AM (BV (BA Ez (AV D3 rfl B.len PySem.boot_len (AA (pv 0) AC)) AI (AS _))
   (Bj (AV (FC rfl) rfl B.all Ie (AA (BX ["ahead"] [some 1] (by kernel_rfl) (by decide +kernel) (by kernel_rfl) rfl (Kh (pv 0)) (fun _ _ _ _ _ _=>Bd)
    (fun _ _ _ _ _ _=>AJ GO hr rfl mO kO bO .nil AL (AA (pv 0) (AA (pv 1) AC)))) AC))))),?_⟩
  have hl:(ns.map V.str).length=ns.length:=length_map _;refine ⟨_,rfl,a,_,rfl,.inr (SqT.of ha),_,_,rfl,rfl,_,rfl,?_⟩;refine BS (fun h1=>?_) (fun h1=>?_)
  ·have h1':0 < ns.length:=by have:=of_decide_eq_true h1; rw [hl] at this; omega
   refine ⟨_,rfl,a,rfl,⟨_,SqT.of ha⟩,HE (K:=K) (a:=a) (xs:=ns.map V.str) (fun i ys H2=>H2=H/\ys=(ns.take i).map fun x=>V.bl (A7 kvs (Sum.inr x:Key)).isSome) ⟨rfl,rfl⟩ (fun i ys H2 _ ⟨e,_⟩=>e ▸ SqT.of ha) (fun i ys H2 ⟨_,e⟩=>?_) ?_ ?_⟩
   ·rw [e,length_map,length_take]; omega
   ·rintro i v ys H2 hi ⟨rfl,rfl⟩;rw [getElem?_map] at hi
    obtain ⟨x,hx,rfl⟩:∃ x,ns[i]?=some x/\v=V.str x:=by
     cases e:ns[i]? with
     | none=>rw [e] at hi; cases hi
     | some x=>rw [e] at hi; exact ⟨x,rfl,(Option.some.inj hi).symm⟩
    refine ⟨_,rfl,_,rfl,.inl ⟨x,d,kvs,rfl,hd,rfl,?_⟩⟩;rw [take_add_one,hx,map_append];rfl
   ·rintro ys H2 ⟨rfl,rfl⟩ p hp;have el:ns.take (ns.map V.str).length=ns:=by rw [hl]; exact take_length
    refine ⟨p,ns.map fun x=>(A7 kvs (Sum.inr x:Key)).isSome,rfl,SqL.of (by rw [AB,el,map_map]; rfl),?_⟩
    have e:(decide (0 < ns.length) && ns.all fun x=>(A7 kvs (Sum.inr x:Key)).isSome)=(ns.map fun x=>(A7 kvs (Sum.inr x:Key)).isSome).all id:=by
     rw [decide_eq_true h1',Bool.true_and,all_map];rfl
    rw [← e];exact k _ (AG (Same.refl _) hp)
  ·have h1':¬ 0 < ns.length:=fun z=>h1 (decide_eq_true (by rw [hl]; omega));have:=k H (Same.refl H);rw [decide_eq_false h1',Bool.false_and] at this;exact this
inductive spIsWhole (vs:List V) (H:Hp) (Q:VK) (_E:XK):Prop where
 | mk (n:Int) (z_0:vs=[.int n]) (z_1:Q (.bl true) H)
theorem J5:AK ["thing"] ["thing"] (defScope FH):=fsc
theorem Ik (F:Fun K "is_whole" "is_whole" FH f fd) (B:Bl mg):AX P w K mg base CX0 1 f fd ["thing"] spIsWhole:=by
 refine F.ok J5 (fun vs H Q E h=>?_) (fun ac A outer s H vs Q E hr h=>?_)
 ·obtain ⟨n,rfl,_⟩:=h;rfl
 ·obtain ⟨n,rfl,k⟩:=h;refine ⟨_,AD (AM (BV (Bf K rfl rfl B.isi rfl B.int Ig (pv 0)) (Bj (Kc (Bf K rfl rfl B.isi rfl B.bool Mu (pv 0)))))),?_⟩;refine ⟨_,rfl,_,_,_,true,rfl,.int n,rfl,_,rfl,?_⟩;exact ⟨_,rfl,_,_,_,false,rfl,.int n,(by kernel_rfl),_,rfl,k⟩
structure Bm (due:LN):Prop where
 len:due.length <= 10
 lt:∀ p ∈ due,p.2 < 2 ^ 20
 nd:(due.map (·.1)).Nodup
 nm:∀ p ∈ due,Bq p.1=true/\p.1.cps.all (· < 128)=true/\p.1.length <= 1000
def Mv (due:LN):Th->Prop
 | .non=>True
 | .num _=>True
 | .nms ns=>ns ≠ []/\ns.length <= 10/\∀ x ∈ ns,x ∈ due.map (·.1)
inductive spThing (vs:List V) (H:Hp) (Q:VK) (_E:XK):Prop where
 | mk (tv:V) (th:Th) (d:Addr) (due:LN) (z_0:vs=[tv,.ref d]) (z_1:ThAt H tv th) (z_2:Rd H d (.dK (Au due))) (z_3:Bm due) (z_4:Mv due th) (z_5:∀ H',Same H H'->Q (.int (B9 due th:Nat)) H')
theorem Mw:AK ["thing", "ahead"] ["thing", "ahead"] (defScope CZ):=fsc
theorem LU (due:LN):(Au due).map (·.2)=An (due.map (·.2)):=by unfold Au An; rw [map_map,map_map]; rfl
theorem LV (F:Fun K "thing_number" "thing_number" CZ f fd) (B:Bl mg) (GN:Fn P w K mg base "next_mark" 1 ["numbers"] (spNextMark K)) (GI:Fn P w K mg base "is_names_of" 2 ["parts", "ahead"] spIsNamesOf)
  (GU:Fn P w K mg base "union_of" 1 ["numbers"] (spUnionOf K)) (GW:Fn P w K mg base "is_whole" 1 ["thing"] spIsWhole):AX P w K mg base CX0 3 f fd ["thing", "ahead"] spThing:=by
 obtain ⟨fN,dN,GN,mN,kN,bN⟩:=GN.ex;obtain ⟨fI,dI,GI,mI,kI,bI⟩:=GI.ex;obtain ⟨fU,dU,GU,mU,kU,bU⟩:=GU.ex;obtain ⟨fW,dW,GW,mW,kW,bW⟩:=GW.ex;refine F.ok Mw (fun vs H Q E h=>?_) (fun ac A outer s H vs Q E hr h=>?_)
 ·obtain ⟨tv,th,d,due,rfl,_⟩:=h;rfl
 ·obtain ⟨tv,th,d,due,rfl,hT,hd,DO,TO,k⟩:=h;have hu:=Ck hr;have hr1:Room 1 _:=hr.mono (by decide)
  refine ⟨_,AE (Ag (EK (Hr (pv 0))) (AD (AM (AJ GN hr1 rfl mN kN bN .nil AL (AA (BB (FB rfl) rfl B.list DI (AA (IR PySem.F.slot_dict_values PySem.F.type_dict_values Ft (pv 1)) AC)) AC)))) AU)
   (AE (Ag (PW.pt (Cp (Av (Bf K rfl rfl B.isi rfl B.tuple D9 (pv 0))) (B4 (Av (AJ GI hr rfl mI kI bI .nil AL (AA (pv 0) (AA (pv 1) AC)))))))
    (AD (AM (AJ GU hr1 rfl mU kU bU .nil AL (AA (BX ["ahead"] [some 1] (by kernel_rfl) (by decide +kernel) (by kernel_rfl) rfl (Kh (pv 0)) (fun _ _ _ _ _ _=>Bd) (fun _ _ _ _ _ _=>BN hu (pv 1) (pv 0) (fun _ _=>rfl))) AC)))) AU)
   (AE (Ag (Av (AJ GW hr1 rfl mW kW bW .nil AL (AA (pv 0) AC))) (AD (AM (pv 0))) AU)
   (AD AW))),?_⟩
  refine ⟨_,rfl,_,rfl,?_⟩;cases th with
  | non =>
   have e:tv=.non:=hT;subst e;refine BS (fun _=>?_) (fun z=>absurd rfl z);refine ⟨_,rfl,d,rfl,.inl ⟨_,hd⟩,d,_,rfl,rfl,hd,fun p hp=>?_⟩;refine ⟨p,d,_,rfl,AB,Same.rd (AG (Same.refl _) hp) hd,fun l hl=>?_⟩;refine ⟨l,due.map (·.2),rfl,SqL.of (by rw [AB,LU]),fun n hn=>?_,?_⟩
   ·obtain ⟨q,hq,rfl⟩:=mem_map.mp hn;exact DO.lt q hq
   ·exact k _ (AG (AG (Same.refl _) hp) hl)
  | num n =>
   have e:tv=.int (n:Int):=hT;subst e;refine BS (fun z=>absurd (of_decide_eq_true z) (by intro q; cases q)) (fun _=>?_);refine ⟨_,rfl,_,_,_,false,rfl,.int _,(by kernel_rfl),_,rfl,?_⟩;refine Af ?_;refine ⟨_,rfl,n,rfl,_,rfl,?_⟩;refine Az ?_;exact ⟨_,rfl,k H (Same.refl H)⟩
  | nms ns =>
   obtain ⟨a,rfl,ha⟩:=hT;obtain ⟨av,hln,hin⟩:=TO;refine BS (fun z=>absurd (of_decide_eq_true z) (by intro q; cases q)) (fun _=>?_);refine ⟨_,rfl,_,_,_,true,rfl,.tup ha,rfl,_,rfl,?_⟩;have hl:(ns.map V.str).length=ns.length:=length_map _;refine ⟨_,rfl,_,rfl,a,d,ns,Au due,rfl,ha,by omega,hd,fun H1 s1=>⟨_,rfl,?_⟩⟩
   have e1:(decide (0 < ns.length) && ns.all fun x=>(A7 (Au due) (Sum.inr x:Key)).isSome)=true:=by
    rw [Bool.and_eq_true,decide_eq_true_eq,List.all_eq_true];refine ⟨List.length_pos_iff.mpr av,fun x hx=>?_⟩;rw [CA (hin x hx)];rfl
   rw [e1];refine Az ?_;refine ⟨_,rfl,a,rfl,⟨_,SqT.of (s1 _ _ ha)⟩,HE (K:=K) (a:=a) (xs:=ns.map V.str) (fun i ys H2=>H2=H1/\ys=An ((ns.take i).map (look due))) ⟨rfl,rfl⟩ (fun i ys H2 _ ⟨e,_⟩=>e ▸ SqT.of (s1 _ _ ha)) (fun i ys H2 ⟨_,e⟩=>?_) ?_ ?_⟩
   ·rw [e];unfold An;rw [length_map,length_map,length_take];omega
   ·rintro i v ys H2 hi ⟨rfl,rfl⟩;rw [getElem?_map] at hi
    obtain ⟨x,hx,rfl⟩:∃ x,ns[i]?=some x/\v=V.str x:=by
     cases e:ns[i]? with
     | none=>rw [e] at hi; cases hi
     | some x=>rw [e] at hi; exact ⟨x,rfl,(Option.some.inj hi).symm⟩
    refine ⟨_,rfl,_,rfl,d,_,rfl,.inl ⟨Au due,Sum.inr x,Same.rd s1 hd,rfl,(CA (hin x (mem_of_getElem? hx))).symm⟩,rfl,?_⟩;rw [take_add_one,hx,map_append];unfold An;rw [map_append];rfl
   ·rintro ys H2 ⟨rfl,rfl⟩ p hp;have el:ns.take (ns.map V.str).length=ns:=by rw [hl]; exact take_length
    refine ⟨p,ns.map (look due),rfl,SqL.of (by rw [AB,el]),?_⟩;exact k _ (AG s1 hp)
end
end Mk
end
section
namespace L2
open PySem
theorem LX {a:Addr} {xs:List V} {g:TG} {tb:TS} {D:Ew} {σ:St} (Pv:Nat->St->Hp->Prop) (h0:Pv 0 σ H) (hl:∀ i σ H,i <= xs.length->Pv i σ H->SqL K H a xs)
  (hs:∀ i x σ H p,xs[i]?=some x->Pv i σ H->H p=none->g (.ref p) σ (upd H p (.tup [.int i,x])) fun σ2 H2=>tb { D with nx:=Pv (i + 1),ct:=Pv (i + 1),bk:=D.nx } σ2 H2) (hd:∀ σ H,Pv xs.length σ H->D.nx σ H) :
  ∃ W:Nat->Nat->St->Hp->Prop,(∃ m,W 0 m σ H)/\∀ i m σ H,W i m σ H ->
   ((Ite K a).stop i H/\D.nx σ H)\/((Ite K a).go i H/\∃ N:St->Hp->Prop,(∀ σ' H',N σ' H'->∃ m',m' < m/\W (i + 1) m' σ' H')/\∀ x H',(Ite K a).yld i H x H'->g x σ H' fun σ2 H2=>tb { D with nx:=N,ct:=N,bk:=D.nx } σ2 H2):=by
 refine ⟨fun i m σ H=>m=xs.length - i/\i <= xs.length/\Pv i σ H,⟨_,rfl,Nat.zero_le _,h0⟩,?_⟩;rintro i m σ H ⟨rfl,hi,hp⟩;by_cases hlt:i < xs.length
 ·have hx:xs[i]?=some xs[i]:=List.getElem?_eq_getElem hlt;refine .inr ⟨⟨xs,xs[i],hl i σ H hi hp,hx⟩,Pv (i + 1),fun σ' H' q=>⟨xs.length - (i + 1),by omega,rfl,hlt,q⟩,?_⟩;rintro x H' ⟨p,y,hn,rfl,hy,rfl⟩
  have ex:y=xs[i]:=by
   have:=hy xs (hl i σ H hi hp);rw [hx] at this;exact (Option.some.inj this).symm
  subst ex;exact hs i xs[i] σ H p hx hp hn
 ·have e:i=xs.length:=by omega
  subst e;exact .inl ⟨⟨xs,hl _ σ H hi hp,Nat.le_refl _⟩,hd σ H hp⟩
theorem J6 {a:Addr} {o:Obj} {kvs:LK} {g:TG} {tb:TS} {D:Ew} {σ:St} (Pv:Nat->St->Hp->Prop) (h0:Pv 0 σ H) (hl:∀ i σ H,Pv i σ H->H a=some (.frz o (.dK kvs)))
  (hs:∀ i kv σ H p,kvs[i]?=some kv->Pv i σ H->H p=none->g (.ref p) σ (upd H p (.tup [kV kv.1,kv.2])) fun σ2 H2=>tb { D with nx:=Pv (i + 1),ct:=Pv (i + 1),bk:=D.nx } σ2 H2) (hd:∀ σ H,Pv kvs.length σ H->D.nx σ H) :
  ∃ W:Nat->Nat->St->Hp->Prop,(∃ m,W 0 m σ H)/\∀ i m σ H,W i m σ H ->
   ((Iti a o kvs).stop i H/\D.nx σ H)\/((Iti a o kvs).go i H/\∃ N:St->Hp->Prop,(∀ σ' H',N σ' H'->∃ m',m' < m/\W (i + 1) m' σ' H')/\∀ x H',(Iti a o kvs).yld i H x H'->g x σ H' fun σ2 H2=>tb { D with nx:=N,ct:=N,bk:=D.nx } σ2 H2):=by
 refine ⟨fun i m σ H=>m=kvs.length - i/\i <= kvs.length/\Pv i σ H,⟨_,rfl,Nat.zero_le _,h0⟩,?_⟩;rintro i m σ H ⟨rfl,hi,hp⟩;by_cases hlt:i < kvs.length
 ·refine .inr ⟨⟨hl i σ H hp,hlt⟩,Pv (i + 1),fun σ' H' q=>⟨kvs.length - (i + 1),by omega,rfl,hlt,q⟩,?_⟩;rintro x H' ⟨p,kv,hn,rfl,hkv,rfl⟩;exact hs i kv σ H p hkv hp hn
 ·have e:i=kvs.length:=by omega
  subst e;exact .inl ⟨⟨hl _ σ H hp,Nat.le_refl _⟩,hd σ H hp⟩
end L2
namespace Mk
open PySem L2 MK
def PU (x:Str):Prop:=Bq x=true/\x.cps.all (· < 128)=true/\x.length <= 1000
structure JO (due:LN) (r:Str × Th):Prop where
 ahead:Bm due
 few:due.length < 10
 nm:PU r.1
 new:r.1 ∉ due.map (·.1)
 th:Mv due r.2
 lt:B9 due r.2 < 2 ^ 20
def Ak (rows:List (Str × Th)):LN:=rows.foldl (fun due r=>due++[(r.1,B9 due r.2)]) []
theorem Eb (rows:List (Str × Th)) (r:Str × Th):Ak (rows++[r])=Ak rows++[(r.1,B9 (Ak rows) r.2)]:=by unfold Ak; rw [foldl_append]; rfl
def Dq (rows:List (Str × Th)):Prop:=∀ (i:Nat) r,rows[i]?=some r->JO (Ak (rows.take i)) r
inductive RowAt (H:Hp) (b:Addr) (r:Str × Th):Prop where
 | mk (tv:_) (z_0:H b=some (.tup [.str r.1,tv])) (z_1:ThAt H tv r.2)
inductive RowsAt (H:Hp) (l:Addr) (rows:List (Str × Th)):Prop where
 | mk (as:List Addr) (z_0:H l=some (.lst (as.map V.ref))) (z_1:Paired (RowAt H) as rows)
theorem ThAt.same {v:V} {th:Th} (s:Same H H') (h:ThAt H v th):ThAt H' v th:=by
 cases th with
 | non=>exact h
 | num n=>exact h
 | nms ns=>obtain ⟨a,e,h⟩:=h; exact ⟨a,e,s _ _ h⟩
theorem RowAt.same {b:Addr} {r:Str × Th} (s:Same H H') (h:RowAt H b r):RowAt H' b r:=by
 obtain ⟨tv,e,t⟩:=h;exact ⟨tv,s _ _ e,t.same s⟩
theorem Dr {α β:Type} {F:α->β->Prop}:∀ {xs:List α} {ys:List β} {i:Nat} {x:α},Paired F xs ys->xs[i]?=some x->∃ y,ys[i]?=some y/\F x y
 | _,_,_,_,.nil,e=>by simp at e
 | _,_,0,_,.cons r _,e=>by simp at e; subst e; exact ⟨_,rfl,r⟩
 | _,_,i + 1,x,.cons _ t,e=>by
  obtain ⟨u,h1,h2⟩:=Dr (i:=i) (x:=x) t (by simpa using e);exact ⟨u,by simpa using h1,h2⟩
theorem FQ {H1:Hp} {d:Addr} {o:HO} (s:Same H H1) (hd:H d=none):Same H (upd H1 d o):=fun b u e=>by
 rw [AF (AH e hd)];exact s b u e
section
inductive spRow (vs:List V) (H:Hp) (Q:VK) (_E:XK):Prop where
 | mk (b d:Addr) (r:Str × Th) (due:LN) (z_0:vs=[.ref b,.ref d]) (z_1:RowAt H b r) (z_2:Rd H d (.dK (Au due))) (z_3:JO due r) (z_4:∀ H',Same H H'->Q (.int (B9 due r.2:Nat)) H')
theorem scRow:AK ["row", "ahead", "name", "thing", "number"] ["row", "ahead"] (defScope Db):=fsc
theorem OJ {tg:Tok} (F:Fun K "row_number" "row_number" Db f fd) (B:Bl mg) (hG:mg "GREATEST" = some (.int 1048575 tg)) (GN:Fn P w K mg base "is_name" 1 ["thing"] spIsName) (GT:Fn P w K mg base "thing_number" 3 ["thing", "ahead"] spThing) :
  AX P w K mg base CX0 4 f fd ["row", "ahead"] spRow:=by
 obtain ⟨fN,dN,GN,mN,kN,bN⟩:=GN.ex;obtain ⟨fT,dT,GT,mT,kT,bT⟩:=GT.ex;refine F.ok scRow (fun vs H Q E h=>?_) (fun ac A outer s H vs Q E hr h=>?_)
 ·obtain ⟨b,d,r,due,rfl,_⟩:=h;rfl
 ·obtain ⟨b,d,r,due,rfl,⟨tv,hb,hT⟩,hd,RO,k⟩:=h;have hu:=Ck hr;have hr1:Room 1 _:=hr.mono (by decide)
  refine ⟨_,AE (Ag (PW.pt (Dv (BH (Av (Bf K rfl rfl B.isi rfl B.tuple D9 (pv 0)))) (CP (AO Ct (AV (Aw K rfl) rfl B.len PySem.boot_len (AA (pv 0) AC)) AI (AS _))))) (AD AW) AU)
   (AE (Cq (pv 0) (Bk rfl (Ab (AY (i:=2) scRow.nd rfl (Or.inl rfl)) (Ab (AY (i:=3) scRow.nd rfl (Or.inl rfl)) BM))))
   (AE (Ag (PW.pt (Dv (BH (Av (AJ GN hr1 rfl mN kN bN .nil AL (AA (pv 2) AC)))) (CP (EK (IL hu (pv 2) (pv 1)))))) (AD AW) AU)
   (AE (Ac (i:=4) scRow.nd rfl (Or.inl rfl) (AJ GT hr rfl mT kT bT .nil AL (AA (pv 3) (AA (pv 1) AC))))
   (AE (Ag (PW.pt (Dv (EK (Hr (pv 4))) (CP (BH (Dz Dx Dx AI (pv 4) (A5 (v:=.int 1048575) rfl hG ⟨tg,rfl⟩)))))) (AD AW) AU)
   (AD (AM (pv 4))))))),?_⟩
  refine ⟨_,rfl,_,_,_,true,rfl,.tup hb,rfl,_,rfl,?_⟩;refine Af ?_;refine ⟨_,rfl,b,_,rfl,.inr (SqT.of hb),rfl,_,rfl,?_⟩;refine Kv rfl ?_;refine ⟨_,rfl,b,_,rfl,SqT.of hb,rfl,_,_,rfl,_,_,rfl,rfl,?_⟩;refine ⟨_,rfl,r.1,rfl,RO.nm.2.1,RO.nm.2.2,fun H1 s1=>⟨_,rfl,?_⟩⟩;rw [RO.nm.1];refine Af ?_;refine ⟨_,rfl,_,rfl,d,_,rfl,.inl ⟨Au due,Sum.inr r.1,Same.rd s1 hd,rfl,(EA RO.new).symm⟩,_,rfl,?_⟩;refine Af ?_;refine ⟨_,rfl,_,rfl,tv,r.2,d,due,rfl,hT.same s1,Same.rd s1 hd,RO.ahead,RO.th,fun H2 s2=>?_⟩;refine ⟨_,rfl,_,rfl,?_⟩;refine BS (fun z=>absurd (of_decide_eq_true z) (by intro q; cases q)) (fun _=>?_);refine ⟨_,rfl,_,_,rfl,rfl,_,rfl,?_⟩;refine BS (fun _=>?_) (fun z=>absurd (decide_eq_true (Int.natCast_nonneg _)) z);refine ⟨_,_,rfl,rfl,_,rfl,?_⟩;have hlt:=RO.lt;refine Kv (show ((B9 due r.2:Nat):Int) <= 1048575 by omega) ?_;exact ⟨_,rfl,k _ (s1.trans s2)⟩
inductive spNumbered (vs:List V) (H:Hp) (Q:VK) (_E:XK):Prop where
 | mk (l:Addr) (rows:List (Str × Th)) (z_0:vs=[.ref l]) (z_1:RowsAt H l rows) (z_2:0 < rows.length) (z_3:rows.length <= 10) (z_4:Dq rows) (z_5:∀ d H',Same H H'->H d=none->H' d=some (.dK (Au (Ak rows)))->Q (.ref d) H')
theorem scNumbered:AK ["rows", "numbers", "at", "row", "number"] ["rows"] (defScope EU):=fsc
theorem Mx {x:Str} {n:Nat} (h:x ∉ due.map (·.1)):CG (Au due) (Sum.inr x:Key) (V.int (n:Int))=Au (due++[(x,n)]):=by
 rw [G5 _ (EA h)];unfold Au;rw [map_append];rfl
theorem Fx (due:LN):(Au due).length=due.length:=length_map _
theorem BK:∀ rows:List (Str × Th),(Ak rows).length=rows.length:=fun rows=>by
 have:∀ (l:List (Str × Th)) (a:LN),(l.foldl (fun due r=>due++[(r.1,B9 due r.2)]) a).length=a.length + l.length:=by
  intro l;induction l with
  | nil=>intro a; rfl
  | cons x r ih=>intro a; rw [foldl_cons,ih,length_append,length_cons,length_cons,length_nil]; omega
 have e:=this rows [];rw [length_nil] at e;unfold Ak;omega
theorem HN {tm:Tok} (F:Fun K "numbered" "numbered" EU f fd) (B:Bl mg) (hM:mg "MOST_ROWS" = some (.int 10 tm)) (GR:Fn P w K mg base "row_number" 4 ["row", "ahead"] spRow):AX P w K mg base CX0 5 f fd ["rows"] spNumbered:=by
 obtain ⟨fR,dR,GR,mR,kR,bR⟩:=GR.ex;refine F.ok scNumbered (fun vs H Q E h=>?_) (fun ac A outer s H vs Q E hr h=>?_)
 ·obtain ⟨l,rows,rfl,_⟩:=h;rfl
 ·obtain ⟨l,rows,rfl,⟨as,hl,hP⟩,h0,h10,RO,k⟩:=h;have hu:=Ck hr;have ay:as.length=rows.length:=hP.length
  refine ⟨_,AE (Ag (PW.pt (Dv (BH (Av (Bf K rfl rfl B.isi rfl B.list DI (pv 0)))) (CP (BH (Dz Dx Dx AI (AV (Aw K rfl) rfl B.len PySem.boot_len (AA (pv 0) AC)) (A5 (v:=.int 10) rfl hM ⟨tm,rfl⟩)))))) (AD AW) AU)
   (AE (Ac (i:=1) scNumbered.nd rfl (Or.inl rfl) D4)
   (AE (Bx PassesOwn.never rfl (Mp rfl B.enum (AA (pv 0) AC)) (Bk rfl (Ab (AY (i:=2) scNumbered.nd rfl (Or.inl rfl)) (Ab (AY (i:=3) scNumbered.nd rfl (Or.inl rfl)) BM)))
    (AE (Ac (i:=4) scNumbered.nd rfl (Or.inl rfl) (AJ GR hr rfl mR kR bR .nil AL (AA (pv 3) (AA (pv 1) AC))))
    (AE (Ag (EK (Hr (pv 4))) (AD AW) AU)
    (AD (JG hu (pv 1) (BF (Es K rfl) (pv 3) AI (fun _ _=>rfl)) (pv 4) rfl)))))
   (AD (AM (pv 1))))),?_⟩
  refine ⟨_,rfl,_,_,_,true,rfl,.lst hl,rfl,_,rfl,?_⟩;refine Af ?_;have hll:(as.map V.ref).length=rows.length:=by rw [length_map,ay]
  refine ⟨_,rfl,l,_,rfl,.inl (SqL.of hl),_,_,rfl,rfl,_,rfl,?_⟩;refine BS (fun _=>?_) (fun z=>absurd (decide_eq_true (by rw [hll]; omega)) z);refine ⟨_,_,rfl,rfl,_,rfl,?_⟩;refine Kv (show (((as.map V.ref).length:Nat):Int) <= 10 by rw [hll]; omega) ?_;intro d hdn
  refine ⟨_,rfl,l,rfl,⟨_,SqL.of (AG (Same.refl _) hdn _ _ hl)⟩,LX (K:=K) (a:=l) (xs:=as.map V.ref) (fun i σ H2=>∃ v1 v2 v3:Option V,σ=[some (.ref l),some (.ref d),v1,v2,v3]/\Same H H2/\H2 d=some (.dK (Au (Ak (rows.take i)))))
   ⟨none,none,none,rfl,AG (Same.refl _) hdn,AB⟩ (fun i σ H2 _ ⟨_,_,_,_,s2,_⟩=>SqL.of (s2 _ _ hl)) ?_ ?_⟩
  ·rintro i y σ H2 p hi ⟨v1,v2,v3,rfl,s2,hd2⟩ hp;rw [getElem?_map] at hi
   obtain ⟨b,hb,rfl⟩:∃ b,as[i]?=some b/\y=V.ref b:=by
    cases e:as[i]? with
    | none=>rw [e] at hi; cases hi
    | some x=>rw [e] at hi; exact ⟨x,rfl,(Option.some.inj hi).symm⟩
   obtain ⟨r,hr',hra⟩:=Dr hP hb;have R1:=RO i r hr';have s3:Same H (upd H2 p (.tup [.int i,.ref b])):=AG s2 hp;have hd3:(upd H2 p (.tup [.int i,.ref b])) d=some (.dK (Au (Ak (rows.take i)))):=by rw [AF (AH hd2 hp)]; exact hd2
   refine ⟨p,_,rfl,SqT.of AB,rfl,_,_,rfl,_,_,rfl,rfl,?_⟩;refine ⟨_,rfl,_,rfl,b,d,r,Ak (rows.take i),rfl,hra.same s3,.inl hd3,R1,fun H4 s4=>?_⟩;refine ⟨_,rfl,_,rfl,?_⟩;refine BS (fun z=>absurd (of_decide_eq_true z) (by intro q; cases q)) (fun _=>?_);obtain ⟨tv,ag,_⟩:=hra.same (s3.trans s4);refine ⟨_,rfl,_,rfl,_,rfl,b,_,0,.str r.1,rfl,rfl,SqT.of ag,rfl,d,_,rfl,DPut.k (k:=Sum.inr r.1) (s4 _ _ hd3) (AQ (by rw [Fx,BK,length_take]; omega)),?_⟩;refine ⟨_,_,_,rfl,FQ (s3.trans s4) hdn,?_⟩;rw [AB,Mx R1.new,take_add_one,hr',Option.toList_some,Eb]
  ·rintro σ H2 ⟨v1,v2,v3,rfl,s2,hd2⟩;rw [hll,take_length] at hd2;exact ⟨_,rfl,k d H2 s2 hdn hd2⟩
end
def AT (due:LN):List (Nat × Str):=due.foldl (fun fs p=>if (fs.map (·.1)).contains p.2 then fs else fs++[(p.2,p.1)]) []
def BU (fs:List (Nat × Str)):LK:=fs.map fun q=>(Sum.inl (q.1:Int),V.str q.2)
def Bn (fs:List (Nat × Str)) (n:Nat):Str:=((fs.find? fun q=>decide (q.1=n)).map (·.2)).getD (Str.ofString "")
theorem CB (due:LN) (p:Str × Nat):AT (due++[p])=if ((AT due).map (·.1)).contains p.2 then AT due else AT due++[(p.2,p.1)]:=by unfold AT; rw [foldl_append]; rfl
theorem Ec (n:Nat):∀ fs:List (Nat × Str),A7 (BU fs) (Sum.inl (n:Int):Key)=(fs.find? fun q=>decide (q.1=n)).map fun q=>V.str q.2
 | []=>rfl
 | q :: r=>by
  show A7 ((Sum.inl (q.1:Int),V.str q.2) :: BU r) (Sum.inl (n:Int))=_;by_cases e:q.1=n
  ·rw [Cv (p:=(Sum.inl (q.1:Int),V.str q.2)) (by rw [← e]),List.find?_cons_of_pos (by simpa using e)]; rfl
  ·rw [Cw (p:=(Sum.inl (q.1:Int),V.str q.2)) (fun z=>e (by have:=Sum.inl.inj z; omega)),List.find?_cons_of_neg (by simpa using e)]; exact Ec n r
theorem Ds {fs:List (Nat × Str)} {n:Nat} (h:n ∈ fs.map (·.1)):(fs.find? fun q=>decide (q.1=n)).isSome=true:=by
 obtain ⟨q,hq,e⟩:=mem_map.mp h;rw [List.find?_isSome];exact ⟨q,hq,by simpa using e⟩
theorem CM {fs:List (Nat × Str)} {n:Nat} (h:n ∈ fs.map (·.1)):A7 (BU fs) (Sum.inl (n:Int):Key)=some (V.str (Bn fs n)):=by
 rw [Ec];unfold Bn;obtain ⟨q,hq⟩:=Option.isSome_iff_exists.mp (Ds h);rw [hq]; rfl
theorem DJ {fs:List (Nat × Str)} {n:Nat} (h:n ∉ fs.map (·.1)):A7 (BU fs) (Sum.inl (n:Int):Key)=none:=by
 rw [Ec]
 have:(fs.find? fun q=>decide (q.1=n))=none:=by
  rw [List.find?_eq_none];intro q hq e;exact h (mem_map.mpr ⟨q,hq,by simpa using e⟩)
 rw [this]; rfl
theorem HQ {fs:List (Nat × Str)} {n:Nat} {x:Str} (h:n ∉ fs.map (·.1)):CG (BU fs) (Sum.inl (n:Int):Key) (V.str x)=BU (fs++[(n,x)]):=by
 rw [G5 _ (DJ h)];unfold BU;rw [map_append];rfl
theorem B1 (due:LN):(AT due).length <= due.length:=by
 have:∀ (l:LN) (a:List (Nat × Str)),(l.foldl (fun fs p=>if (fs.map (·.1)).contains p.2 then fs else fs++[(p.2,p.1)]) a).length <= a.length + l.length:=by
  intro l;induction l with
  | nil=>intro a; exact Nat.le_refl _
  | cons x r ih =>
   intro a;rw [foldl_cons];refine Nat.le_trans (ih _) ?_;split
   ·rw [length_cons]; omega
   ·rw [length_append,length_cons,length_cons,length_nil]; omega
 have e:=this due [];rw [length_nil] at e;unfold AT;omega
theorem C7 (due:LN):∀ (a:List (Nat × Str)),(a.map (·.1)).Nodup->(∀ n ∈ a.map (·.1),n ∈ (due.foldl (fun fs p=>if (fs.map (·.1)).contains p.2 then fs else fs++[(p.2,p.1)]) a).map (·.1)) /\
  ((due.foldl (fun fs p=>if (fs.map (·.1)).contains p.2 then fs else fs++[(p.2,p.1)]) a).map (·.1)).Nodup/\(∀ p ∈ due,p.2 ∈ (due.foldl (fun fs p=>if (fs.map (·.1)).contains p.2 then fs else fs++[(p.2,p.1)]) a).map (·.1)) /\
  (∀ q ∈ due.foldl (fun fs p=>if (fs.map (·.1)).contains p.2 then fs else fs++[(p.2,p.1)]) a,q ∈ a\/(q.2,q.1) ∈ due):=by
 induction due with
 | nil=>intro a ha; exact ⟨fun n hn=>hn,ha,fun p hp=>(nomatch hp),fun q hq=>.inl hq⟩
 | cons p r ih =>
  intro a ha;rw [foldl_cons];by_cases hc:(a.map (·.1)).contains p.2=true
  ·rw [if_pos hc];obtain ⟨i1,i2,i3,i4⟩:=ih a ha;refine ⟨i1,i2,fun q hq=>?_,fun q hq=>?_⟩
   ·rcases mem_cons.mp hq with rfl | hq
    ·exact i1 _ (by simpa using hc)
    ·exact i3 q hq
   ·rcases i4 q hq with z | z
    ·exact .inl z
    ·exact .inr (mem_cons_of_mem _ z)
  ·rw [if_neg hc];have hnot:p.2 ∉ a.map (·.1):=fun z=>hc (by simpa using z);obtain ⟨i1,i2,i3,i4⟩:=ih (a++[(p.2,p.1)]) (by rw [map_append]; exact JH ha hnot);refine ⟨fun n hn=>i1 n (by rw [map_append]; exact mem_append_left _ hn),i2,fun q hq=>?_,fun q hq=>?_⟩
   ·rcases mem_cons.mp hq with rfl | hq
    ·exact i1 _ (by rw [map_append]; exact mem_append_right _ (by simp))
    ·exact i3 q hq
   ·rcases i4 q hq with z | z
    ·rcases mem_append.mp z with z | z
     ·exact .inl z
     ·have:q=(p.2,p.1):=by simpa using z
      subst this;exact .inr mem_cons_self
    ·exact .inr (mem_cons_of_mem _ z)
theorem J7 (due:LN):((AT due).map (·.1)).Nodup:=(C7 due [] nodup_nil).2.1
theorem J8 {p:Str × Nat} (h:p ∈ due):p.2 ∈ (AT due).map (·.1):=(C7 due [] nodup_nil).2.2.1 p h
theorem Bt {q:Nat × Str} (h:q ∈ AT due):(q.2,q.1) ∈ due:=by
 rcases (C7 due [] nodup_nil).2.2.2 q h with z | z
 ·cases z
 ·exact z
section
inductive spFirsts (vs:List V) (H:Hp) (Q:VK) (_E:XK):Prop where
 | mk (d:Addr) (o:Obj) (due:LN) (z_0:vs=[.ref d]) (z_1:H d=some (.frz o (.dK (Au due)))) (z_2:due.length <= 100) (z_3:∀ e H',Same H H'->H e=none->H' e=some (.dK (BU (AT due)))->Q (.ref e) H')
theorem scFirsts:AK ["numbers", "firsts", "name", "number"] ["numbers"] (defScope C2):=fsc
theorem LY {i:Nat} {kv:Key × V} (h:(Au due)[i]?=some kv):∃ p,due[i]?=some p/\kv=(Sum.inr p.1,V.int (p.2:Int)):=by
 unfold Au at h;rw [getElem?_map] at h;cases e:due[i]? with
 | none=>rw [e] at h; cases h
 | some p=>rw [e] at h; exact ⟨p,rfl,(Option.some.inj h).symm⟩
theorem J9 (F:Fun K "first_names" "first_names" C2 f fd):AX P w K mg base CX0 1 f fd ["numbers"] spFirsts:=by
 refine F.ok scFirsts (fun vs H Q E h=>?_) (fun ac A outer s H vs Q E hr h=>?_)
 ·obtain ⟨d,o,due,rfl,_⟩:=h;rfl
 ·obtain ⟨d,o,due,rfl,hd,hz,k⟩:=h
  refine ⟨_,AE (Ac (i:=1) scFirsts.nd rfl (Or.inl rfl) D4)
   (AE (Bx PassesOwn.never rfl (Kz (pv 0)) (Bk rfl (Ab (AY (i:=2) scFirsts.nd rfl (Or.inl rfl)) (Ab (AY (i:=3) scFirsts.nd rfl (Or.inl rfl)) BM)))
    (AD (A9 (Ci PySem.F.plainAttrs_dict PySem.F.slot_dict_setdefault PySem.F.type_dict_setdefault Fa (pv 1) (AA (pv 3) (AA (pv 2) AC))))))
   (AD (AM (pv 1)))),?_⟩
  intro e he
  refine ⟨_,rfl,d,o,Au due,rfl,AG (Same.refl _) he _ _ hd,J6 (a:=d) (o:=o) (kvs:=Au due) (fun i σ H2=>∃ v1 v2:Option V,σ=[some (.ref d),some (.ref e),v1,v2]/\Same H H2/\H2 e=some (.dK (BU (AT (due.take i)))))
   ⟨none,none,rfl,AG (Same.refl _) he,AB⟩ (fun i σ H2 ⟨_,_,_,s2,_⟩=>s2 _ _ hd) ?_ ?_⟩
  ·rintro i kv σ H2 p hkv ⟨v1,v2,rfl,s2,he2⟩ hp;obtain ⟨pr,hpr,rfl⟩:=LY hkv;have s3:Same H (upd H2 p (.tup [.str pr.1,.int (pr.2:Int)])):=AG s2 hp;have he3:(upd H2 p (.tup [.str pr.1,.int (pr.2:Int)])) e=some (.dK (BU (AT (due.take i)))):=by rw [AF (AH he2 hp)]; exact he2
   have et:due.take (i + 1)=due.take i++[pr]:=by rw [take_add_one,hpr]; rfl
   have hle:(BU (AT (due.take i))).length <= 100:=by
    unfold BU;rw [length_map];have:=B1 (due.take i);rw [length_take] at this;omega
   refine ⟨p,_,rfl,SqT.of AB,rfl,_,_,rfl,_,_,rfl,rfl,?_⟩;refine ⟨_,rfl,.inr (.inr (.inl ⟨rfl,.inl ⟨_,he3⟩⟩)),_,rfl,_,rfl,e,_,Sum.inl (pr.2:Int),.str pr.1,rfl,rfl,he3,AQ (by omega),fun w' hw=>?_,fun hn=>?_⟩
   ·refine ⟨_,_,rfl,s3,?_⟩;have z:pr.2 ∈ (AT (due.take i)).map (·.1):=Decidable.byContradiction fun z=>by rw [DJ z] at hw; cases hw
    rw [et,CB,if_pos (by simpa using z)];exact he3
   ·have z:pr.2 ∉ (AT (due.take i)).map (·.1):=fun z=>by rw [CM z] at hn; cases hn
    refine ⟨_,_,rfl,FQ s3 he,?_⟩;rw [AB,et,CB,if_neg (by simpa using z),HQ z]
  ·rintro σ H2 ⟨v1,v2,rfl,s2,he2⟩;rw [Fx,take_length] at he2;exact ⟨_,rfl,k e H2 s2 he he2⟩
end
theorem n12:¬ (("numbers" : Str) = "firsts"):=by decide +kernel
theorem n13:¬ (("numbers" : Str) = "rule"):=by decide +kernel
theorem n23:¬ (("firsts" : Str) = "rule"):=by decide +kernel
def FR (d1 d2:Addr) (r:Str):List (Str × V):=A1 "rule" (.str r) (A1 "firsts" (.ref d2) (A1 "numbers" (.ref d1) []))
theorem FS (d1 d2:Addr) (r:Str):(FR d1 d2 r).lookup ("numbers" : Str)=some (.ref d1):=by
 unfold FR;rw [AR,if_neg n13,AR,if_neg n12,AR,if_pos rfl]
theorem EE (d1 d2:Addr) (r:Str):(FR d1 d2 r).lookup ("firsts" : Str)=some (.ref d2):=by
 unfold FR;rw [AR,if_neg n23,AR,if_pos rfl]
theorem Ed (d1 d2:Addr) (r:Str):(FR d1 d2 r).lookup ("rule" : Str)=some (.str r):=by
 unfold FR;rw [AR,if_pos rfl]
theorem BY (d1 d2:Addr) (r:Str) {m:Str} (h1:¬ m = "rule" := by decide +kernel) (h2:¬ m = "firsts" := by decide +kernel) (h3:¬ m = "numbers" := by decide +kernel):(FR d1 d2 r).lookup m=none:=by
 unfold FR;rw [AR,if_neg h1,AR,if_neg h2,AR,if_neg h3];rfl
theorem My (d1:Addr):(A1 "numbers" (V.ref d1) []).lookup ("numbers" : Str)=some (.ref d1):=by rw [AR,if_pos rfl]
structure KindAt (C:Addr) (H:Hp) (p:Addr) (due:LN) (r:Str):Prop where
 ex:∃ dx d1 o1 d2 o2,H p=some (.ins C dx (FR d1 d2 r))/\H d1=some (.frz o1 (.dK (Au due)))/\H d2=some (.frz o2 (.dK (BU (AT due))))
theorem KindAt.same {p:Addr} {r:Str} (s:Same H H') (h:KindAt C H p due r):KindAt C H' p due r:=by
 obtain ⟨dx,d1,o1,d2,o2,a,b,c⟩:=h.ex;exact ⟨⟨dx,d1,o1,d2,o2,s _ _ a,s _ _ b,s _ _ c⟩⟩
structure CN (K:FG) (C:Addr):Prop where
 cl:Cls K C
 nN:NoAttr K C "numbers"
 nF:NoAttr K C "firsts"
 nR:NoAttr K C "rule"
def ruleNames:List Str:=["bar", "drop", "keep", "leave"]
section
inductive spInit (C:Addr) (vs:List V) (H:Hp) (Q:VK) (_E:XK):Prop where
 | mk (p dx l:Addr) (rows:List (Str × Th)) (r:Str) (z_0:vs=[.ref p,.ref l,.str r]) (z_1:H p=some (.ins C dx [])) (z_2:RowsAt H l rows) (z_3:0 < rows.length) (z_4:rows.length <= 10) (z_5:Dq rows) (z_6:r ∈ ruleNames) (z_7:∀ H',(∀ b o,H b=some o->b ≠ p->H' b=some o)->KindAt C H' p (Ak rows) r->Q .non H')
theorem OK:AK ["self", "rows", "rest"] ["self", "rows", "rest"] (defScope A3):=fsc
theorem LZ {r:Str} (h:r ∈ ruleNames):inV (.str r) (ruleNames.map V.str)=true:=by
 unfold inV;rw [any_map,any_eq_true];exact ⟨r,h,by show (r == r)=true; simp⟩
theorem Mz {aR:Addr} (F:Fun K "__init__" "Kind.__init__" A3 f fd) (B:Bl mg) (T:CN K C) (hR:mg "RULES" = some (.ref aR)) (hRT:∀ H:Hp,SqT K H aR (ruleNames.map V.str))
  (GN:Fn P w K mg base "numbered" 5 ["rows"] spNumbered) (GF:Fn P w K mg base "first_names" 1 ["numbers"] spFirsts) (GO:Fn P w K mg base "is_one_of" 1 ["thing", "names"] (CL K)):AX P w K mg base CX0 6 f fd ["self", "rows", "rest"] (spInit C):=by
 obtain ⟨fN,dN,GN,mN,kN,bN⟩:=GN.ex;obtain ⟨fF,dF,GF,mF,kF,bF⟩:=GF.ex;obtain ⟨fO,dO,GO,mO,kO,bO⟩:=GO.ex;refine F.ok OK (fun vs H Q E h=>?_) (fun ac A outer s H vs Q E hr h=>?_)
 ·obtain ⟨p,dx,l,rows,r,rfl,_⟩:=h;rfl
 ·obtain ⟨p,dx,l,rows,r,rfl,hp,RA,h0,h10,RO,al,k⟩:=h;have hr1:Room 1 _:=hr.mono (by decide)
  refine ⟨_,AE (CC (pv 0) (AJ GN hr rfl mN kN bN .nil AL (AA (pv 1) AC)) rfl)
   (E9 (AE (Ag (BH (Av (AJ GO hr1 rfl mO kO bO .nil AL (AA (pv 2) (AA (A5 (v:=.ref aR) rfl hR rfl) AC))))) (AD AW) AU)
   (AE (CC (pv 0) (AJ GF hr1 rfl mF kF bF .nil AL (AA (Aj (pv 0) rfl) AC)) rfl)
   (E9 (AD (CC (pv 0) (pv 2) rfl)))))),?_⟩
  refine ⟨_,rfl,l,rows,rfl,RA,h0,h10,RO,fun d1 H1 s1 hd1n hd1=>?_⟩;have npd:p ≠ d1:=AH hp hd1n;refine ⟨_,rfl,p,C,dx,[],rfl,s1 _ _ hp,T.cl,T.nN,(by show 0 < 1000; decide),?_⟩;refine ⟨d1,Au (Ak rows),by rw [AF (Ne.symm npd)]; exact hd1,fun o1=>?_⟩;refine ⟨_,rfl,.inr ⟨r,aR,ruleNames,rfl,hRT _,_,rfl,?_⟩⟩;rw [LZ al];refine Af ?_;have ai:∀ o,(upd (upd H1 p (.ins C dx (A1 "numbers" (.ref d1) []))) d1 o) p=some (.ins C dx (A1 "numbers" (.ref d1) [])):=fun o=>by rw [AF npd,AB]
  refine ⟨_,rfl,p,C,dx,_,_,rfl,ai _,T.cl,T.nN,My d1,d1,o1,Ak rows,rfl,AB,by rw [BK]; omega,fun d2 H2 s2 hd2n hd2=>?_⟩;have npd2:p ≠ d2:=AH (ai _) hd2n;have hp3:=s2 _ _ (ai _);refine ⟨_,rfl,p,C,dx,_,rfl,hp3,T.cl,T.nF,(by show 1 < 1000; decide),?_⟩;refine ⟨d2,BU (AT (Ak rows)),by rw [AF (Ne.symm npd2)]; exact hd2,fun o2=>?_⟩;have hp4:∀ o,(upd (upd H2 p (.ins C dx (A1 "firsts" (.ref d2) (A1 "numbers" (.ref d1) [])))) d2 o) p=some (.ins C dx (A1 "firsts" (.ref d2) (A1 "numbers" (.ref d1) []))):=fun o=>by rw [AF npd2,AB]
  refine ⟨_,rfl,_,rfl,p,C,dx,_,rfl,hp4 _,T.cl,T.nR,Nat.lt_of_le_of_lt (At _ _ _) (by show 2 < 1000; decide),?_⟩;have nd12:d1 ≠ d2:=AH (AB (H:=upd H1 p (.ins C dx (A1 "numbers" (.ref d1) []))) (o:=.frz o1 (.dK (Au (Ak rows))))) hd2n;refine k _ (fun b o e hb=>?_) ⟨⟨dx,d1,o1,d2,o2,AB,?_,?_⟩⟩
  ·rw [AF hb,AF,AF hb]
   ·refine s2 _ _ ?_;rw [AF (AH e hd1n),AF hb];exact s1 _ _ e
   ·intro z;subst z
    have:(upd (upd H1 p (.ins C dx (A1 "numbers" (.ref d1) []))) d1 (.frz o1 (.dK (Au (Ak rows))))) b=some o:=by
     rw [AF (AH e hd1n),AF hb];exact s1 _ _ e
    rw [hd2n] at this;cases this
  ·rw [AF (Ne.symm npd),AF nd12,AF (Ne.symm npd)];exact s2 _ _ AB
  ·rw [AF (Ne.symm npd2),AB]
end
structure Mt (P:Program) (w:World) (K:FG) (mg:SV) (base:Heap) (C:Addr) (m:Str) (k:Nat) (ps:List Str) (sp:Sp):Prop where
 ex:∃ f fd,AX P w K mg base CX0 k f fd ps sp/\IA K C m f/\Binds K fd ps []
def C8 (due:LN):List (V × V):=due.map fun p=>(V.str p.1,V.int (p.2:Int))
def Al (due:LN):List Nat:=((AT due).map (·.1)).mergeSort fun a b=>decide (a <= b)
def AN (due:LN):List Nat:=(Al due).filter Ar
def B2 (due:LN):List (V × V):=(AN due).map fun n=>(V.str (Bn (AT due) n),V.int (n:Int))
theorem Ce (due:LN):(Al due).Perm ((AT due).map (·.1)):=List.mergeSort_perm _ _
theorem EF (due:LN):(Al due).Pairwise (· <= ·):=by
 have:=List.pairwise_mergeSort (le:=fun a b:Nat=>decide (a <= b)) (fun a b c h1 h2=>by simp at h1 h2 ⊢; omega) (fun a b=>by simp; omega) ((AT due).map (·.1));exact this.imp fun h=>by simpa using h
theorem HR {ns:List Int} (hp:ns.Perm ((BU (AT due)).map fun kv=>match kv.1 with | Sum.inl i=>i | Sum.inr _=>0)) (hs:ns.Pairwise (· <= ·)):ns=(Al due).map fun n:Nat=>(n:Int):=by
 refine List.Perm.eq_of_pairwise (le:=(· <= ·)) (fun a b _ _ h1 h2=>Int.le_antisymm h1 h2) hs ?_ ?_
 ·rw [List.pairwise_map];exact (EF due).imp fun h=>by omega
 ·have e:((BU (AT due)).map fun kv=>match kv.1 with | Sum.inl i=>i | Sum.inr _=>0)=((AT due).map (·.1)).map fun n:Nat=>(n:Int):=by
   unfold BU;rw [map_map,map_map];rfl
  rw [e] at hp;exact hp.trans ((Ce due).symm.map _)
theorem mem_keysS {n:Nat}:n ∈ Al due ↔ n ∈ (AT due).map (·.1):=(Ce due).mem_iff
theorem DK (due:LN):(Al due).length <= due.length:=by
 rw [(Ce due).length_eq,length_map];exact B1 due
section
inductive spRows (C:Addr) (vs:List V) (H:Hp) (Q:VK) (_E:XK):Prop where
 | mk (p:Addr) (due:LN) (r:Str) (z_0:vs=[.ref p]) (z_1:KindAt C H p due r) (z_2:∀ l as H',Same H H'->H' l=some (.lst (as.map V.ref))->TupsAt H' as (C8 due)->Q (.ref l) H')
theorem OL:AK ["self"] ["self"] (defScope EV):=fsc
theorem M0 (due:LN):(Au due).map (fun kv=>(kV kv.1,kv.2))=C8 due:=by unfold Au C8; rw [map_map]; rfl
theorem M6 (F:Fun K "rows" "Kind.rows" EV f fd) (B:Bl mg) (T:CN K C):AX P w K mg base CX0 1 f fd ["self"] (spRows C):=by
 refine F.ok OL (fun vs H Q E h=>?_) (fun ac A outer s H vs Q E hr h=>?_)
 ·obtain ⟨p,due,r,rfl,_⟩:=h;rfl
 ·obtain ⟨p,due,r,rfl,KA,k⟩:=h;obtain ⟨dx,d1,o1,d2,o2,hp,h1,h2⟩:=KA.ex;refine ⟨_,AD (AM (BB (IT rfl) rfl B.list DI (AA (IR PySem.F.slot_dict_items PySem.F.type_dict_items K2 (Aj (pv 0) rfl)) AC))),?_⟩;refine ⟨_,rfl,p,C,dx,_,_,rfl,hp,T.cl,T.nN,FS _ _ _,d1,rfl,.inl ⟨_,.inr ⟨o1,h1⟩⟩,d1,_,rfl,rfl,.inr ⟨o1,h1⟩,fun v hv=>?_⟩;have s1:Same H (upd H v (JI d1 v)):=AG (Same.refl _) hv;refine ⟨v,d1,_,rfl,AB,Same.rd s1 (.inr ⟨o1,h1⟩),fun l as H' s2 _ hl ht=>?_⟩;rw [M0] at ht;exact k l as H' (s1.trans s2) hl ht
inductive spKnown (C:Addr) (vs:List V) (H:Hp) (Q:VK) (_E:XK):Prop where
 | mk (p:Addr) (due:LN) (r:Str) (z_0:vs=[.ref p]) (z_1:KindAt C H p due r) (z_2:∀ H',Same H H'->Q (.int (AZ ((AT due).map (·.1)):Nat)) H')
theorem M7:AK ["self"] ["self"] (defScope De):=fsc
theorem La (F:Fun K "known" "Kind.known" De f fd) (B:Bl mg) (T:CN K C) (GU:Fn P w K mg base "union_of" 1 ["numbers"] (spUnionOf K)):AX P w K mg base CX0 2 f fd ["self"] (spKnown C):=by
 obtain ⟨fU,dU,GU,mU,kU,bU⟩:=GU.ex;refine F.ok M7 (fun vs H Q E h=>?_) (fun ac A outer s H vs Q E hr h=>?_)
 ·obtain ⟨p,due,r,rfl,_⟩:=h;rfl
 ·obtain ⟨p,due,r,rfl,KA,k⟩:=h;obtain ⟨dx,d1,o1,d2,o2,hp,h1,h2⟩:=KA.ex;refine ⟨_,AD (AM (AJ GU hr rfl mU kU bU .nil AL (AA (BB (IS rfl) rfl B.list DI (AA (Aj (pv 0) rfl) AC)) AC))),?_⟩;refine ⟨_,rfl,p,C,dx,_,_,rfl,hp,T.cl,T.nF,EE _ _ _,d2,_,rfl,.inr ⟨o2,h2⟩,fun l hl=>?_⟩;refine ⟨l,(AT due).map (·.1),rfl,SqL.of (by rw [AB]; unfold BU An; rw [map_map,map_map]; rfl),k _ (AG (Same.refl _) hl)⟩
inductive spMarks (C:Addr) (vs:List V) (H:Hp) (Q:VK) (_E:XK):Prop where
 | mk (p:Addr) (due:LN) (r:Str) (z_0:vs=[.ref p]) (z_1:KindAt C H p due r) (z_2:due.length <= 60) (z_3:∀ l as H',Same H H'->H' l=some (.lst (as.map V.ref))->TupsAt H' as (B2 due)->Q (.ref l) H')
theorem M8:AK ["self"] ["self"] (defScope Dd):=fsc
theorem Fy {as:List Addr} {ps:List (V × V)} {b:Addr} {p:V × V} (s:Same H H') (h:TupsAt H as ps) (hb:H' b=some (.tup [p.1,p.2])):TupsAt H' (as++[b]) (ps++[p]):=Paired.snoc (TupsAt.same s h) hb
theorem Lb (F:Fun K "marks" "Kind.marks" Dd f fd) (B:Bl mg) (T:CN K C) (GM:Fn P w K mg base "is_mark" 1 ["number"] spIsMark):AX P w K mg base CX0 2 f fd ["self"] (spMarks C):=by
 obtain ⟨fM,dM,GM,mM,kM,bM⟩:=GM.ex;refine F.ok M8 (fun vs H Q E h=>?_) (fun ac A outer s H vs Q E hr h=>?_)
 ·obtain ⟨p,due,r,rfl,_⟩:=h;rfl
 ·obtain ⟨p,due,r,rfl,KA,h60,k⟩:=h;have hu:=Ck hr;obtain ⟨dx,d1,o1,d2,o2,hp,h1,h2⟩:=KA.ex
  refine ⟨_,AD (AM (BX ["self"] [some 0] (by kernel_rfl) (by decide +kernel) (by kernel_rfl) rfl (A6 (AV (D6 rfl) rfl B.sorted Fv (AA (Aj (pv 0) rfl) AC)))
   (fun _ _ _ _ _ _=>DH (Av (AJ GM hr rfl mM kM bM .nil AL (AA (pv 0) AC))))
   (fun _ _ _ _ _ _=>CT (AA (BN hu (JN K rfl (pv 1) rfl) (pv 0) (fun _ _=>rfl)) (AA (pv 0) AC))))),?_⟩
  have hle:(BU (AT due)).length <= due.length:=by unfold BU; rw [length_map]; exact B1 due
  refine ⟨_,rfl,p,C,dx,_,_,rfl,hp,T.cl,T.nF,EE _ _ _,d2,_,rfl,.inr ⟨o2,h2⟩,by omega,fun kv hkv=>?_,fun l ns hl br bt=>?_⟩
  ·unfold BU at hkv;obtain ⟨q,_,rfl⟩:=mem_map.mp hkv;exact ⟨_,rfl⟩
  ·have en:=HR br bt;subst en;have s1:Same H (upd H l (.lst (((Al due).map fun n:Nat=>(n:Int)).map V.int))):=AG (Same.refl _) hl;have exs:((Al due).map fun n:Nat=>(n:Int)).map V.int=An (Al due):=(ED _).symm
   refine ⟨l,rfl,⟨_,SqL.of AB⟩,BR (K:=K) (a:=l) (xs:=An (Al due))
    (fun i ys H2=>∃ as,ys=as.map V.ref/\Same H H2/\H2 l=some (.lst (An (Al due)))/\TupsAt H2 as ((((Al due).take i).filter Ar).map fun n=>(V.str (Bn (AT due) n),V.int (n:Int)))) ⟨[],rfl,s1,by rw [AB,exs],.nil⟩
    (fun i ys H2 _ ⟨_,_,_,e,_⟩=>SqL.of e) (fun i ys H2 ⟨as,e,_,_,t⟩=>?_) ?_ ?_⟩
   ·have:=t.length;rw [e,length_map,this,length_map];have h3:(((Al due).take i).filter Ar).length <= ((Al due).take i).length:=length_filter_le _ _;rw [length_take] at h3;have:=DK due;omega
   ·rintro i v ys H2 hi ⟨as,rfl,s2,hl2,ht⟩;obtain ⟨n,hn,rfl⟩:=D8 hi;have bg:n ∈ (AT due).map (·.1):=mem_keysS.mp (mem_of_getElem? hn);have et:((Al due).take (i + 1)).filter Ar=((Al due).take i).filter Ar++(if Ar n then [n] else []):=PySem.take_succ_filter Ar _ i n hn;refine ⟨_,rfl,n,rfl,_,rfl,?_⟩;refine BS (fun hm=>?_) (fun hm=>?_)
    ·refine ⟨_,rfl,p,C,dx,_,_,rfl,s2 _ _ hp,T.cl,T.nF,EE _ _ _,_,rfl,d2,_,rfl,.inl ⟨_,Sum.inl (n:Int),Same.rd s2 (.inr ⟨o2,h2⟩),rfl,(CM bg).symm⟩,_,rfl,sl2,fun b hb=>?_⟩;refine ⟨as++[b],by rw [map_append]; rfl,AG s2 hb,by rw [AF (AH hl2 hb)]; exact hl2,?_⟩;rw [et,hm,if_pos rfl,map_append];exact Fy (AG (Same.refl _) hb) ht AB
    ·refine ⟨as,rfl,s2,hl2,?_⟩;rw [et,if_neg hm,append_nil];exact ht
   ·rintro ys H2 ⟨as,rfl,s2,_,ht⟩ q hq
    have el:(Al due).take (An (Al due)).length=Al due:=by
     have:(An (Al due)).length=(Al due).length:=by unfold An; rw [length_map]
     rw [this]; exact take_length
    rw [el] at ht;exact k q as _ (AG s2 hq) AB (TupsAt.same (AG (Same.refl _) hq) ht)
end
theorem HS {as:List Addr} {ps:List (V × V)} {i:Nat} {b:Addr} (h:TupsAt H as ps) (e:as[i]?=some b):∃ p,ps[i]?=some p/\H b=some (.tup [p.1,p.2]):=Dr h e
section
theorem KindAt.ins {p:Addr} {r:Str} (h:KindAt C H p due r):∃ dx d1 d2,H p=some (.ins C dx (FR d1 d2 r)):=by
 obtain ⟨dx,d1,o1,d2,o2,a,_⟩:=h.ex;exact ⟨dx,d1,d2,a⟩
theorem Fz (due:LN):(B2 due).length=(AN due).length:=length_map _
end
theorem JP (h:∀ p ∈ due,p.2 < 2 ^ 20):∀ n ∈ (AT due).map (·.1),n < 2 ^ 20:=fun n hn=>by
 obtain ⟨q,hq,rfl⟩:=mem_map.mp hn;exact h _ (Bt hq)
theorem Lc (h:∀ p ∈ due,p.2 < 2 ^ 20):∀ n ∈ AN due,n < 2 ^ 20:=fun n hn=>JP h n (mem_keysS.mp (mem_filter.mp hn).1)
theorem EG {x:Int} {n:Nat} (h0:0 <= x) (h:x < 2 ^ n):Builtin.Int.intBits x <= n:=by
 obtain ⟨m,rfl⟩:=Int.eq_ofNat_of_zero_le h0;have hm:m < 2 ^ n:=by exact_mod_cast h
 rcases Nat.eq_zero_or_pos m with e | hp
 ·subst e; exact Nat.zero_le _
 ·rw [C1 hp];exact (Nat.log2_lt (by omega)).mpr hm
theorem Ee {xs:List V} {i:Int} (h0:0 <= i) (h1:i < xs.length):∃ v,atI xs i=some v/\xs[i.toNat]?=some v:=by
 have hlt:i.toNat < xs.length:=by omega
 refine ⟨xs[i.toNat],?_,List.getElem?_eq_getElem hlt⟩;unfold atI ixN;rw [if_pos h0,if_pos h1];exact List.getElem?_eq_getElem hlt
structure SameX (d:Addr) (H H':Hp):Prop where
 old:∀ b o,H b=some o->b ≠ d->H' b=some o
 dice:∃ a b:Int,H' d=some (.lst [.int a,.int b])
theorem SameX.trans {d:Addr} {H1 H2:Hp} (x:SameX d H H1) (y:SameX d H1 H2):SameX d H H2:=⟨fun b o e hb=>y.old _ _ (x.old b o e hb) hb,y.dice⟩
section
inductive spCell (K:FG) (vs:List V) (H:Hp) (Q:VK) (_E:XK):Prop where
 | mk (a:Addr) (ns:List Int) (k:Int) (z_0:vs=[.ref a,.int k]) (z_1:SqL K H a (ns.map V.int)) (z_2:ns.length <= 63) (z_3:0 <= k) (z_4:∀ (v:Int) H',Same H H'->Q (.int v) H')
theorem OM:AK ["_law_script", "_law_k"] ["_law_script", "_law_k"] (defScope FN):=fsc
theorem M9 (F:Fun K "_law_cell" "_law_cell" FN f fd) (B:Bl mg):AX P w K mg base CX0 1 f fd ["_law_script", "_law_k"] (spCell K):=by
 refine F.ok OM (fun vs H Q E h=>?_) (fun ac A outer s H vs Q E hr h=>?_)
 ·obtain ⟨a,ns,k,rfl,_⟩:=h;rfl
 ·obtain ⟨a,ns,kk,rfl,hS,h63,hk,k⟩:=h;have hu:=hr.units
  refine ⟨_,AE (Ag (AO (OC K rfl hu) (pv 0) (A4 AC) (AS _)) (AD (AM (Aa Ey (pv 1) AI))) AU)
   (AD (AM (Aa CS (BF (Aq K rfl) (pv 0) (Aa DU (pv 1) (AV (Aw K rfl) rfl B.len PySem.boot_len (AA (pv 0) AC))) (fun _ _=>rfl))
    (Aa Ey (Aa F6 (pv 1) (AV (Aw K rfl) rfl B.len PySem.boot_len (AA (pv 0) AC))) AI)))),?_⟩
  refine ⟨_,rfl,Nat.zero_le _,fun p hp=>?_⟩;have s1:Same H (upd H p (.lst [])):=AG (Same.refl _) hp;refine ⟨a,p,ns,[],rfl,rfl,s1.seq hS,SqL.of AB,_,rfl,?_⟩;refine BS (fun h0=>?_) (fun h0=>?_)
  ·exact ⟨_,rfl,_,_,rfl,rfl,.inr ⟨by decide,by decide⟩,k _ _ s1⟩
  ·have av:ns ≠ []:=fun z=>h0 (decide_eq_true z);have hpos:0 < ns.length:=List.length_pos_iff.mpr av;have hl:(ns.map V.int).length=ns.length:=length_map _;have hm0:0 <= kk % ((ns.map V.int).length:Int):=Int.emod_nonneg _ (by rw [hl]; omega);have hm1:kk % ((ns.map V.int).length:Int) < ((ns.map V.int).length:Nat):=Int.emod_lt_of_pos _ (by rw [hl]; omega);obtain ⟨v,hv,hv2⟩:=Ee (xs:=ns.map V.int) hm0 hm1
   obtain ⟨n,rfl⟩:∃ n,v=V.int n:=by
    rw [getElem?_map] at hv2;cases e:ns[(kk % ((ns.map V.int).length:Int)).toNat]? with
    | none=>rw [e] at hv2; cases hv2
    | some n=>rw [e] at hv2; exact ⟨n,(Option.some.inj hv2).symm⟩
   refine ⟨_,rfl,_,rfl,_,rfl,a,_,rfl,.inl (s1.seq hS),_,_,rfl,rfl,(by rw [hl]; omega),a,_,_,_,rfl,rfl,s1.seq hS,hv,?_⟩;exact ⟨_,rfl,_,rfl,a,_,rfl,.inl (s1.seq hS),_,_,rfl,rfl,⟨by rw [hl]; omega,by rw [hl]; omega⟩,_,_,rfl,rfl,.inr ⟨by decide,by decide⟩,_,_,rfl,rfl,k _ _ s1⟩
inductive spDrawn (vs:List V) (H:Hp) (Q:VK) (_E:XK):Prop where
 | mk (c k:Int) (z_0:vs=[.int c,.int k]) (z_1:∀ r:Int,0 <= r->Q (.int r) H)
theorem scDrawn:AK ["_law_cell_here", "_law_k", "_law_more"] ["_law_cell_here", "_law_k"] (defScope Ea):=fsc
theorem Ld (F:Fun K "_law_drawn" "_law_drawn" Ea f fd):AX P w K mg base CX0 1 f fd ["_law_cell_here", "_law_k"] spDrawn:=by
 refine F.ok scDrawn (fun vs H Q E h=>?_) (fun ac A outer s H vs Q E hr h=>?_)
 ·obtain ⟨c,k,rfl,_⟩:=h;rfl
 ·obtain ⟨c,kk,rfl,k⟩:=h
  refine ⟨_,AE (Ac (i:=2) scDrawn.nd rfl (Or.inl rfl) (Aa DU (Aa CS (Aa Ey (pv 0) AI) (Aa Ey (Aa CS (pv 1) AI) AI)) AI))
   (AE (Ac (i:=2) scDrawn.nd rfl (Or.inl rfl) (Aa DU (Aa Ga (pv 2) (pv 2)) AI))
   (AE (Ac (i:=2) scDrawn.nd rfl (Or.inl rfl) (Aa Ga (Aa Ga (Aa CS (Aa DU (pv 2) AI) AI) (Aa CS (Aa K7 (pv 2) AI) AI)) (pv 2)))
   (AD (AM (Aa DU (pv 2) AI))))),?_⟩
  refine ⟨_,rfl,_,_,rfl,rfl,.inr ⟨by decide,by decide⟩,_,rfl,_,_,rfl,rfl,_,_,rfl,rfl,.inr ⟨by decide,by decide⟩,_,_,rfl,rfl,_,_,rfl,rfl,(by show (0:Int) < _; decide),?_⟩;generalize ha:(c * 6364136223846793005 + (kk + 1) * 1442695040888963407) % 340282366920938463463374607431768211507=m1
  have h1:0 <= m1/\m1 < 2 ^ 130:=by
   rw [← ha];exact ⟨Int.emod_nonneg _ (by decide),Int.lt_trans (Int.emod_lt_of_pos _ (by decide)) (by decide)⟩
  have b1:Builtin.Int.intBits m1 <= 2 ^ 20:=Nat.le_trans (EG h1.1 h1.2) (by decide);subst ha;refine ⟨_,rfl,_,rfl,_,_,rfl,rfl,⟨b1,b1⟩,_,_,rfl,rfl,(by show (0:Int) < _; decide),?_⟩;generalize hb:(c * 6364136223846793005 + (kk + 1) * 1442695040888963407) % 340282366920938463463374607431768211507 * ((c * 6364136223846793005 + (kk + 1) * 1442695040888963407) % 340282366920938463463374607431768211507) % 340282366920938463463374607431768211297=m2
  have h2:0 <= m2/\m2 < 2 ^ 130:=by
   rw [← hb];exact ⟨Int.emod_nonneg _ (by decide),Int.lt_trans (Int.emod_lt_of_pos _ (by decide)) (by decide)⟩
  have b2:Builtin.Int.intBits m2 <= 2 ^ 20:=Nat.le_trans (EG h2.1 h2.2) (by decide)
  have p1:0 <= m2 % 18446744073709551557 + 1/\m2 % 18446744073709551557 + 1 < 2 ^ 65:=by
   have:=Int.emod_nonneg m2 (show (18446744073709551557:Int) ≠ 0 by decide);have:=Int.emod_lt_of_pos m2 (show (0:Int) < 18446744073709551557 by decide);omega
  have p2:0 <= m2 / 18446744073709551557 + 1/\m2 / 18446744073709551557 + 1 < 2 ^ 131:=by
   have h3:=Int.ediv_nonneg h2.1 (show (0:Int) <= 18446744073709551557 by decide);have h4:=Int.ediv_le_self (18446744073709551557) h2.1;omega
  have p3:0 <= (m2 % 18446744073709551557 + 1) * (m2 / 18446744073709551557 + 1):=Int.mul_nonneg p1.1 p2.1
  have p4:(m2 % 18446744073709551557 + 1) * (m2 / 18446744073709551557 + 1) < 2 ^ 196:=by
   have:=Int.mul_lt_mul' (Int.le_of_lt p1.2) p2.2 p2.1 (show (0:Int) < 2 ^ 65 by decide);exact Int.lt_of_lt_of_le this (by decide)
  have c1:Builtin.Int.intBits (m2 % 18446744073709551557 + 1) <= 2 ^ 20:=Nat.le_trans (EG p1.1 p1.2) (by decide);have c2:Builtin.Int.intBits (m2 / 18446744073709551557 + 1) <= 2 ^ 20:=Nat.le_trans (EG p2.1 p2.2) (by decide);have c3:Builtin.Int.intBits ((m2 % 18446744073709551557 + 1) * (m2 / 18446744073709551557 + 1)) <= 2 ^ 20:=Nat.le_trans (EG p3 p4) (by decide);subst hb;refine ⟨_,rfl,_,_,rfl,rfl,(by show (0:Int) < _; decide),_,_,rfl,rfl,_,rfl,_,_,rfl,rfl,⟨by decide,PyProof.noPylong_of_log2 (by decide +kernel)⟩,_,_,rfl,rfl,_,_,rfl,rfl,⟨c1,c2⟩,?_⟩;refine ⟨_,rfl,_,_,rfl,rfl,⟨c3,b2⟩,?_⟩;exact ⟨_,rfl,_,_,rfl,rfl,(by show (0:Int) < _; decide),k _ (Int.emod_nonneg _ (by decide))⟩
inductive spRoll (vs:List V) (H:Hp) (Q:VK) (_E:XK):Prop where
 | mk (d:Addr) (a b m:Int) (z_0:vs=[.ref d,.int m]) (z_1:H d=some (.lst [.int a,.int b])) (z_2:0 < m) (z_3:m < 1073741824) (z_4:∀ r a' b':Int,0 <= r->r < m->Q (.int r) (upd H d (.lst [.int a',.int b'])))
theorem scRoll:AK ["_law_dice", "_law_many", "_law_told"] ["_law_dice", "_law_many"] (defScope FO):=fsc
theorem NA (F:Fun K "_law_roll" "_law_roll" FO f fd) (GD:Fn P w K mg base "_law_drawn" 1 ["_law_cell_here", "_law_k"] spDrawn):AX P w K mg base CX0 2 f fd ["_law_dice", "_law_many"] spRoll:=by
 obtain ⟨fD,dD,GD,mD,kD,bD⟩:=GD.ex;refine F.ok scRoll (fun vs H Q E h=>?_) (fun ac A outer s H vs Q E hr h=>?_)
 ·obtain ⟨d,a,b,m,rfl,_⟩:=h;rfl
 ·obtain ⟨d,a,b,m,rfl,hd,m0,m1,k⟩:=h
  refine ⟨_,AE (Ag (AO JE (BF (Aq K rfl) (pv 0) AI (fun _ _=>rfl)) (Aa Hz AI AI) (AS _))
    (AE (Ac (i:=2) scRoll.nd rfl (Or.inl rfl) (Aa DU (BF (Aq K rfl) (pv 0) AI (fun _ _=>rfl)) (pv 1)))
    (AE (Cq (Aa F6 (BF (Aq K rfl) (pv 0) AI (fun _ _=>rfl)) (pv 1)) (Hs (pv 0) AI E3))
    (AD (AM (pv 2))))) AU)
   (AE (Cq (Aa CS (BF (Aq K rfl) (pv 0) AI (fun _ _=>rfl)) AI) (Hs (pv 0) AI E3))
   (AD (AM (Aa DU (Aa F6 (AJ GD hr rfl mD kD bD .nil AL (AA (BF (Aq K rfl) (pv 0) AI (fun _ _=>rfl)) (AA (BF (Aq K rfl) (pv 0) AI (fun _ _=>rfl)) AC))) AI) (pv 1))))),?_⟩
  refine ⟨_,rfl,d,_,0,.int a,rfl,rfl,SqL.of hd,Bo (j:=0) rfl,_,_,rfl,rfl,⟨by decide,by decide,by decide⟩,_,_,rfl,rfl,_,rfl,?_⟩;refine BS (fun _=>?_) (fun _=>?_)
  ·refine ⟨_,rfl,d,_,0,.int a,rfl,rfl,SqL.of hd,Bo (j:=0) rfl,_,rfl,_,_,rfl,rfl,m0,?_⟩;refine ⟨_,rfl,d,_,0,.int a,rfl,rfl,SqL.of hd,Bo (j:=0) rfl,_,rfl,_,_,rfl,rfl,⟨m0,m1⟩,_,rfl,d,_,0,0,rfl,rfl,hd,rfl,?_⟩;exact ⟨_,rfl,k _ (a / m) b (Int.emod_nonneg _ (by omega)) (Int.emod_lt_of_pos _ m0)⟩
  ·refine ⟨_,rfl,d,_,1,.int b,rfl,rfl,SqL.of hd,Bo (j:=1) rfl,_,_,rfl,rfl,_,rfl,d,_,1,1,rfl,rfl,hd,rfl,?_⟩;have hd2:(upd H d (.lst ([V.int a,V.int b].set 1 (V.int (b + 1))))) d=some (.lst [.int a,.int (b + 1)]):=AB;refine ⟨_,rfl,d,_,0,.int a,rfl,rfl,SqL.of hd2,Bo (j:=0) rfl,_,rfl,d,_,1,.int (b + 1),rfl,rfl,SqL.of hd2,Bo (j:=1) rfl,_,_,rfl,fun r hr0=>?_⟩;refine ⟨_,_,rfl,rfl,⟨by decide,by decide⟩,_,rfl,_,_,rfl,rfl,m0,?_⟩;exact k _ a (b + 1) (Int.emod_nonneg _ (by omega)) (Int.emod_lt_of_pos _ m0)
inductive spRuleOf (vs:List V) (H:Hp) (Q:VK) (_E:XK):Prop where
 | mk (d:Addr) (a b:Int) (z_0:vs=[.ref d]) (z_1:H d=some (.lst [.int a,.int b])) (z_2:∀ (r:Str) H',r ∈ (["bar", "drop", "keep", "leave"]:List Str)->SameX d H H'->Q (.str r) H')
theorem Le:AK ["_law_dice"] ["_law_dice"] (defScope Dl):=fsc
theorem KC (F:Fun K "_law_rule_of" "_law_rule_of" Dl f fd) (GR:Fn P w K mg base "_law_roll" 2 ["_law_dice", "_law_many"] spRoll):AX P w K mg base CX0 3 f fd ["_law_dice"] spRuleOf:=by
 obtain ⟨fR,dR,GR,mR,kR,bR⟩:=GR.ex;refine F.ok Le (fun vs H Q E h=>?_) (fun ac A outer s H vs Q E hr h=>?_)
 ·obtain ⟨d,a,b,rfl,_⟩:=h;rfl
 ·obtain ⟨d,a,b,rfl,hd,k⟩:=h;refine ⟨_,AD (AM (BF (Aq K rfl) (A4 (AA Ae (AA Ae (AA Ae (AA Ae AC))))) (AJ GR hr rfl mR kR bR .nil AL (AA (pv 0) (AA AI AC))) (fun _ _=>rfl))),?_⟩;refine ⟨sl4,fun p hp=>?_⟩;have npd:d ≠ p:=AH hd hp;refine ⟨_,rfl,d,a,b,4,rfl,by rw [AF npd]; exact hd,by decide,by decide,fun r a' b' h0 h1=>?_⟩;have hl:(upd (upd H p (.lst [.str "bar", .str "drop", .str "keep", .str "leave"])) d (.lst [.int a',.int b'])) p=some (.lst [.str "bar", .str "drop", .str "keep", .str "leave"]):=by rw [AF (Ne.symm npd),AB]
  obtain ⟨v,hv,hv2⟩:=Ee (xs:=[V.str "bar", V.str "drop", V.str "keep", V.str "leave"]) h0 (by show r < 4; exact h1)
  have hin:∃ x,v=.str x/\x ∈ (["bar", "drop", "keep", "leave"]:List Str):=by
   have:=mem_of_getElem? hv2;simp only [mem_cons,not_mem_nil,or_false] at this;rcases this with z | z | z | z
   ·exact ⟨_,z,by simp⟩
   ·exact ⟨_,z,by simp⟩
   ·exact ⟨_,z,by simp⟩
   ·exact ⟨_,z,by simp⟩
  obtain ⟨x,rfl,hx⟩:=hin;refine ⟨p,_,r,_,rfl,rfl,SqL.of hl,hv,k x _ hx ⟨fun c o e hc=>?_,⟨a',b',AB⟩⟩⟩;rw [AF hc,AF (AH e hp)];exact e
end
theorem JQ (n k:Nat):decide (V.int (Builtin.bitAnd ((n:Int) / 2 ^ ((0:Int) + (k:Int)).toNat) 1)=V.int 1)=n.testBit k:=by
 have e0:((0:Int) + (k:Int)).toNat=k:=by omega
 have e1:(n:Int) / 2 ^ k=((n / 2 ^ k:Nat):Int):=by push_cast; rfl
 have e2:Builtin.bitAnd ((n / 2 ^ k:Nat):Int) 1=((n / 2 ^ k % 2:Nat):Int):=by
  have:=Bp (n / 2 ^ k) 1;rw [Nat.and_one_is_mod] at this;exact this
 rw [e0,e1,e2,Nat.testBit_eq_decide_div_mod_eq];refine decide_eq_decide.mpr ⟨fun h=>?_,fun h=>?_⟩
 ·have:=V.int.inj h;omega
 ·rw [h]; rfl
section
inductive spRounds (K:FG) (vs:List V) (H:Hp) (Q:VK) (_E:XK):Prop where
 | mk (a:Addr) (ns:List Int) (z_0:vs=[.ref a,.int 4]) (z_1:SqL K H a (ns.map V.int)) (z_2:ns.length <= 63) (z_3:∀ (l:Addr) (as:List Addr) H',Same H H'->H' l=some (.lst (as.map V.ref))->as.Nodup->l ∉ as->as.length <= 4->(∀ b ∈ as,H b=none/\∃ x y:Int,H' b=some (.lst [.int x,.int y]))->Q (.ref l) H')
theorem Lf:AK ["_law_script", "_law_most"] ["_law_script", "_law_most"] (defScope Dj):=fsc
theorem KD (F:Fun K "_law_rounds" "_law_rounds" Dj f fd) (B:Bl mg) (GC:Fn P w K mg base "_law_cell" 1 ["_law_script", "_law_k"] (spCell K)):AX P w K mg base CX0 2 f fd ["_law_script", "_law_most"] (spRounds K):=by
 obtain ⟨fC,dC,GC,mC,kC,bC⟩:=GC.ex;refine F.ok Lf (fun vs H Q E h=>?_) (fun ac A outer s H vs Q E hr h=>?_)
 ·obtain ⟨a,ns,rfl,_⟩:=h;rfl
 ·obtain ⟨a,ns,rfl,hS,h63,k⟩:=h
  refine ⟨_,AD (AM (BX ["_law_script"] [some 0] (by kernel_rfl) (by decide +kernel) (by kernel_rfl) rfl
   (CI rfl B.range (AA (AV (Jg rfl) rfl B.max OI (AA AI (AA (AV (Jh rfl) rfl B.min OH (AA (pv 1) (AA (AV (Aw K rfl) rfl B.len PySem.boot_len (AA (pv 0) AC)) AC))) AC))) AC))
   (fun _ _ _ _ _ _=>Bd)
   (fun _ _ _ _ _ _=>A4 (AA (AJ GC hr rfl mC kC bC .nil AL (AA (pv 1) (AA (pv 0) AC))) (AA AI AC))))),?_⟩
  have hl:(ns.map V.int).length=ns.length:=length_map _;refine ⟨_,rfl,_,rfl,a,_,rfl,.inl hS,_,_,rfl,_,_,rfl,_,rfl,?_,?_,?_⟩
  ·split <;> split <;> omega
  ·split <;> split <;> omega
  ·generalize hn:(if (if (((ns.map V.int).length:Nat):Int) < 4 then (((ns.map V.int).length:Nat):Int) else 4) > 1 then (if (((ns.map V.int).length:Nat):Int) < 4 then (((ns.map V.int).length:Nat):Int) else 4) else 1).toNat=n
   have n5:n <= 4:=by
    rw [← hn];split <;> split <;> omega
   refine DX (lo:=0) (n:=n) (fun i ys H2=>∃ as:List Addr,ys=as.map V.ref/\as.length=i/\i <= 4/\Same H H2/\as.Nodup/\∀ b ∈ as,H b=none/\∃ x y:Int,H2 b=some (.lst [.int x,.int y])) ⟨[],rfl,rfl,by decide,Same.refl _,nodup_nil,fun b hb=>nomatch hb⟩ ?_ ?_ ?_
   ·rintro i ys H2 ⟨as,rfl,e,h5,_⟩;rw [length_map]; omega
   ·rintro i ys H2 hi ⟨as,rfl,e,h5,s2,nd,hb⟩;refine ⟨_,rfl,_,rfl,a,ns,_,rfl,s2.seq hS,h63,by omega,fun v H3 s3=>⟨sl2,fun p hp=>?_⟩⟩;refine ⟨as++[p],by rw [map_append]; rfl,by rw [length_append,e]; rfl,by omega,AG (s2.trans s3) hp,?_,fun b hb'=>?_⟩
    ·refine List.nodup_append.mpr ⟨nd,nodup_cons.mpr ⟨not_mem_nil,nodup_nil⟩,?_⟩;intro x hx y hy;rw [mem_singleton] at hy;subst hy;obtain ⟨_,x1,y1,e1⟩:=hb x hx;exact AH (s3 _ _ e1) hp
    ·rcases mem_append.mp hb' with z | z
     ·obtain ⟨h0,x1,y1,e1⟩:=hb b z;exact ⟨h0,x1,y1,AG s3 hp _ _ e1⟩
     ·rw [mem_singleton] at z;subst z;refine ⟨?_,v,0,AB⟩;cases e:H b with
      | none=>rfl
      | some o =>
       have:=s3 _ _ (s2 _ _ e);rw [this] at hp;cases hp
   ·rintro ys H2 ⟨as,rfl,e,h5,s2,nd,hb⟩ l hl;refine k l as _ (AG s2 hl) AB nd ?_ (by omega) fun b hb'=>?_
    ·intro z;obtain ⟨_,x,y,e1⟩:=hb l z;rw [e1] at hl; cases hl
    ·obtain ⟨h0,x,y,e1⟩:=hb b hb';exact ⟨h0,x,y,AG (Same.refl _) hl _ _ e1⟩
inductive spBitsOf (vs:List V) (H:Hp) (Q:VK) (_E:XK):Prop where
 | mk (n:Nat) (z_0:vs=[.int (n:Int)]) (z_1:∀ l ys H',Same H H'->H' l=some (.lst ys)->ys.length=(CY n).length->Q (.ref l) H')
theorem Lg:AK ["_law_number"] ["_law_number"] (defScope Dk):=fsc
theorem KF (F:Fun K "_law_bits_of" "_law_bits_of" Dk f fd) (B:Bl mg):AX P w K mg base CX0 1 f fd ["_law_number"] spBitsOf:=by
 refine F.ok Lg (fun vs H Q E h=>?_) (fun ac A outer s H vs Q E hr h=>?_)
 ·obtain ⟨n,rfl,_⟩:=h;rfl
 ·obtain ⟨n,rfl,k⟩:=h
  refine ⟨_,AD (AM (BX ["_law_number"] [some 0] (by kernel_rfl) (by decide +kernel) (by kernel_rfl) rfl (CI rfl B.range (AA AI AC))
   (fun _ _ _ _ _ _=>DH (AO A0 (Aa Cr (Aa N3 (pv 1) (pv 0)) AI) AI (AS _)))
   (fun _ _ _ _ _ _=>Aa F7 AI (pv 0)))),?_⟩
  refine ⟨42,rfl,by decide,by decide,?_⟩;refine DX (lo:=0) (n:=42) (fun i ys H2=>ys.length=((List.range i).filter fun k=>n.testBit k).length/\i <= 42/\H2=H) ⟨rfl,by decide,rfl⟩ ?_ ?_ ?_
  ·rintro i ys H2 ⟨e,hi,_⟩;rw [e];have:=length_filter_le (fun k=>n.testBit k) (List.range i);rw [List.length_range] at this;omega
  ·rintro i ys H2 hi ⟨e,_,rfl⟩;refine ⟨_,rfl,_,rfl,_,_,rfl,rfl,(by omega),_,_,rfl,rfl,?_⟩;refine ⟨rfl,_,rfl,?_⟩
   have er:((List.range (i + 1)).filter fun k=>n.testBit k).length=((List.range i).filter fun k=>n.testBit k).length + (if n.testBit i then 1 else 0):=by
    rw [List.range_succ,List.filter_append,length_append,filter_cons,List.filter_nil];split <;> rfl
   refine BS (fun h=>?_) (fun h=>?_)
   ·have hb:n.testBit i=true:=by rw [← JQ]; exact h
    refine ⟨_,rfl,_,_,rfl,rfl,⟨by omega,by first | decide | omega,by first | decide | omega⟩,?_,by omega,rfl⟩;rw [er,hb,length_append,e]; rfl
   ·have hb:n.testBit i=false:=by rw [← JQ]; exact Bool.eq_false_iff.mpr h
    refine ⟨?_,by omega,rfl⟩;rw [er,hb,e]; rfl
  ·rintro ys H2 ⟨e,_,rfl⟩ l hl;exact k l ys _ (AG (Same.refl _) hl) AB e
end
end Mk
end
section
namespace L2
open PySem
def QI (t u:TS):TS:=fun D σ H=>∃ G:St->Hp->Prop,(∀ R:St->Hp->Prop,(∀ σ H,G σ H->R σ H)->t { D with nx:=R } σ H)/\∀ σ H,G σ H->u D σ H
theorem Ax {X:Cx} {st:Stmt} {rest:List Stmt} {t u:TS} (h1:PS X st t) (h2:PSs X rest u):PSs X (st :: rest) (QI t u):=fun aa s σ H D I ⟨_,a,b⟩=>AE h1 h2 aa s σ H D I (a (u D) b)
end L2
namespace Mk
open PySem L2 MK
def SameT (H H':Hp):Prop:=∀ b xs,H b=some (.tup xs)->H' b=some (.tup xs)
theorem SameT.of (s:Same H H'):SameT H H':=fun b xs e=>s _ _ e
theorem SameT.upd {d:Addr} {xs ys:List V} (h:H d=some (.lst xs)):SameT H (upd H d (.lst ys)):=fun b zs e=>by
 rw [AF (fun z=>by subst z; rw [h] at e; cases e)]; exact e
theorem SameT.trans {H1 H2:Hp} (x:SameT H H1) (y:SameT H1 H2):SameT H H2:=fun b xs e=>y _ _ (x _ _ e)
theorem TupsAt.sameT {as:List Addr} {ps:List (V × V)} (s:SameT H H') (h:TupsAt H as ps):TupsAt H' as ps:=Paired.mapP h fun _ _ e=>s _ _ e
theorem ThAt.sameT {v:V} {th:Th} (s:SameT H H') (h:ThAt H v th):ThAt H' v th:=by
 cases th with
 | non=>exact h
 | num n=>exact h
 | nms ns=>obtain ⟨a,e,h⟩:=h; exact ⟨a,e,s _ _ h⟩
theorem RowAt.sameT {b:Addr} {r:Str × Th} (s:SameT H H') (h:RowAt H b r):RowAt H' b r:=by
 obtain ⟨tv,e,t⟩:=h;exact ⟨tv,s _ _ e,t.sameT s⟩
theorem BO {as:List Addr} {rows:List (Str × Th)} (s:SameT H H') (h:Paired (RowAt H) as rows):Paired (RowAt H') as rows:=Paired.mapP h fun _ _ e=>e.sameT s
def Dt (due:LN):List PyData:=due.map fun p=>.tuple [.str p.1,.int (p.2:Int)]
theorem Lh {b:Addr} {x:Str} {n:Int} (h:H b=some (.tup [.str x,.int n])):CK K H (.tuple [.str x,.int n]) (.ref b):=by
 rw [CK];refine ⟨b,_,rfl,SqT.of h,?_⟩;rw [BG];refine ⟨_,_,rfl,by rw [CK],?_⟩;rw [BG];refine ⟨_,_,rfl,by rw [CK],?_⟩;rw [BG]
theorem EH:∀ {due:LN} {bs:List Addr},TupsAt H bs (C8 due)->BG K H (Dt due) (bs.map V.ref)
 | [],bs,h=>by
  have:bs=[]:=List.eq_nil_of_length_eq_zero (by rw [h.length]; rfl);subst this;show BG K H [] [];rw [BG]
 | p :: r,[],h=>by have:=h.length; simp [C8] at this
 | p :: r,b :: bs,h=>by
  have hh:H b=some (.tup [.str p.1,.int (p.2:Int)])/\TupsAt H bs (C8 r):=by
   cases h with
   | cons h1 h2=>exact ⟨h1,h2⟩
  show BG K H (.tuple [.str p.1,.int (p.2:Int)] :: Dt r) (V.ref b :: bs.map V.ref);rw [BG];exact ⟨_,_,rfl,Lh hh.1,EH hh.2⟩
theorem HU:∀ xs:List Str,BG K H (xs.map PyData.str) (xs.map V.str)
 | []=>by show BG K H [] []; rw [BG]
 | x :: r=>by
  show BG K H (.str x :: r.map PyData.str) (V.str x :: r.map V.str);rw [BG];exact ⟨_,_,rfl,by rw [CK],HU r⟩
theorem Bi {l:Addr} {ds:List PyData} {xs:List V} (h:H l=some (.lst xs)) (d:BG K H ds xs):CK K H (.list ds) (.ref l):=by
 rw [CK];exact ⟨l,xs,rfl,SqL.of h,d⟩
theorem Et:BG K H [] []:=by rw [BG]
theorem NB (ds:List PyData):PyData.eqv (.list ds) (.list [])=ds.isEmpty:=by
 cases ds with
 | nil=>rfl
 | cons a r=>simp [PyData.eqv,PyData.eqvAll]
theorem HV {x:Str} (h:x.cps.all (· < 128)=true):PyData.strOk x=true:=by
 unfold PyData.strOk;simp only [Array.all_eq_true,decide_eq_true_eq] at h ⊢;intro i hi;have:=h i hi;simp;omega
theorem Li {ds:List PyData} (h:∀ d ∈ ds,d.canLay0=true):PyData.canLayAll0 ds=true:=by
 induction ds with
 | nil=>rfl
 | cons a r ih=>rw [PyData.canLayAll0,h a mem_cons_self,ih fun d hd=>h d (mem_cons_of_mem _ hd)]; rfl
theorem ON {ds:List PyData} {k:Nat} (h:∀ d ∈ ds,d.depth <= k):PyData.depthAll ds <= k:=by
 induction ds with
 | nil=>rw [PyData.depthAll]; exact Nat.zero_le _
 | cons a r ih=>rw [PyData.depthAll]; exact Nat.max_le.mpr ⟨h a mem_cons_self,ih fun d hd=>h d (mem_cons_of_mem _ hd)⟩
theorem El {ds:List PyData} (h:∀ d ∈ ds,d.canLay0=true/\d.depth <= 60):SeqAt.shaped (.list ds)=true:=by
 unfold SeqAt.shaped;rw [Bool.and_eq_true,decide_eq_true_eq];refine ⟨by rw [PyData.canLay0]; exact Li fun d hd=>(h d hd).1,?_⟩;rw [PyData.depth];have:=ON (k:=60) fun d hd=>(h d hd).2;omega
theorem Lj {x:Str} {n:Int} (h:x.cps.all (· < 128)=true):(PyData.tuple [.str x,.int n]).canLay0=true/\(PyData.tuple [.str x,.int n]).depth <= 60:=by
 refine ⟨?_,?_⟩
 ·rw [PyData.canLay0];refine Li fun d hd=>?_;simp only [mem_cons,not_mem_nil,or_false] at hd;rcases hd with rfl | rfl
  ·rw [PyData.canLay0]; exact HV h
  ·rw [PyData.canLay0]
 ·simp only [PyData.depth,PyData.depthAll];omega
theorem C9 (h:∀ p ∈ due,p.1.cps.all (· < 128)=true):SeqAt.shaped (.list (Dt due))=true:=El fun d hd=>by
 obtain ⟨p,hp,rfl⟩:=mem_map.mp hd;exact Lj (h p hp)
theorem HW {xs:List Str} (h:∀ x ∈ xs,x.cps.all (· < 128)=true):SeqAt.shaped (.list (xs.map PyData.str))=true:=El fun d hd=>by
 obtain ⟨x,hx,rfl⟩:=mem_map.mp hd;exact ⟨by rw [PyData.canLay0]; exact HV (h x hx),by simp [PyData.depth]⟩
theorem Cf:SeqAt.shaped (.list [])=true:=by decide +kernel
def uni (due:LN) (ns:List Str):Nat:=AZ (due.map fun p=>if inV (.str p.1) (ns.map V.str) then p.2 else 0)
theorem JR (x:Str) (ns:List Str):inV (.str x) (ns.map V.str)=ns.any (· == x):=by
 unfold inV;rw [any_map];rfl
theorem DA {p:Str × Nat} (nd:(due.map (·.1)).Nodup) (h:p ∈ due):look due p.1=p.2:=by
 induction due with
 | nil=>cases h
 | cons q r ih =>
  rw [map_cons,nodup_cons] at nd;unfold look;by_cases e:q.1=p.1
  ·rw [List.find?_cons_of_pos (by simpa using e)];rcases mem_cons.mp h with z | z
   ·subst z; rfl
   ·exact absurd (mem_map.mpr ⟨p,z,e.symm⟩) nd.1
  ·rw [List.find?_cons_of_neg (by simpa using e)];rcases mem_cons.mp h with z | z
   ·subst z; exact absurd rfl e
   ·exact ih nd.2 z
theorem OO {ns:List Str} (nd:(due.map (·.1)).Nodup) (hs:∀ x ∈ ns,x ∈ due.map (·.1)):uni due ns=AZ (ns.map (look due)):=by
 refine Nat.eq_of_testBit_eq fun k=>?_;unfold uni;rw [BD,BD,any_map,any_map,Bool.eq_iff_iff,any_eq_true,any_eq_true];constructor
 ·rintro ⟨p,hp,hb⟩;simp only [Function.comp] at hb;by_cases hi:inV (.str p.1) (ns.map V.str)=true
  ·rw [if_pos hi] at hb;rw [JR,any_eq_true] at hi;obtain ⟨x,hx,e⟩:=hi;have e':x=p.1:=by simpa using e
   subst e';exact ⟨p.1,hx,by simp only [Function.comp]; rw [DA nd hp]; exact hb⟩
  ·rw [if_neg hi,Nat.zero_testBit] at hb;cases hb
 ·rintro ⟨x,hx,hb⟩;obtain ⟨p,hp,rfl⟩:=mem_map.mp (hs x hx);refine ⟨p,hp,?_⟩;simp only [Function.comp] at hb ⊢;rw [DA nd hp] at hb;rw [if_pos (by rw [JR,any_eq_true]; exact ⟨p.1,hx,by simp⟩)];exact hb
theorem HX {rows:List (Str × Th)} {r:Str × Th} (h:Dq rows) (hr:JO (Ak rows) r):Dq (rows++[r]):=by
 intro i q e;rcases Nat.lt_trichotomy i rows.length with z | z | z
 ·rw [List.getElem?_append_left z] at e;rw [List.take_append_of_le_length (Nat.le_of_lt z)];exact h i q e
 ·subst z;rw [List.getElem?_append_right (Nat.le_refl _),Nat.sub_self] at e;have:r=q:=by simpa using e
  subst this;rw [List.take_append_of_le_length (Nat.le_refl _),take_length];exact hr
 ·rw [List.getElem?_eq_none (by rw [length_append,length_singleton]; omega)] at e;cases e
theorem HY {rows:List (Str × Th)} (h:Dq rows) (h10:rows.length <= 10):Bm (Ak rows):=by
 have key:∀ n,n <= rows.length->Bm (Ak (rows.take n)):=by
  intro n;induction n with
  | zero=>intro _; rw [List.take_zero]; exact ⟨by decide,(fun p hp=>nomatch hp),nodup_nil,(fun p hp=>nomatch hp)⟩
  | succ n ih =>
   intro hn;have D:=ih (by omega);have hq:rows[n]?=some rows[n]:=List.getElem?_eq_getElem (by omega);have R:=h n _ hq;rw [take_add_one,hq,Option.toList_some,Eb];refine ⟨?_,fun p hp=>?_,?_,fun p hp=>?_⟩
   ·rw [length_append,length_singleton]; have:=R.few; omega
   ·rcases mem_append.mp hp with z | z
    ·exact D.lt p z
    ·rw [mem_singleton] at z; subst z; exact R.lt
   ·rw [map_append];refine List.nodup_append.mpr ⟨D.nd,nodup_cons.mpr ⟨not_mem_nil,nodup_nil⟩,?_⟩;intro x hx y hy;have ey:y=(rows[n]).1:=by simpa using hy
    subst ey;exact fun z=>R.new (z ▸ hx)
   ·rcases mem_append.mp hp with z | z
    ·exact D.nm p z
    ·rw [mem_singleton] at z; subst z; exact R.nm
 have:=key rows.length (Nat.le_refl _);rw [take_length] at this;exact this
theorem OP {A B:TT} {σ:St} {Q:Bool->Hp->Prop} (p q:Bool) (hA:∀ Q':Bool->Hp->Prop,Q' p H->A σ H Q') (hB:∀ Q':Bool->Hp->Prop,Q' q H->B σ H Q') (h:Q (p || q) H):tOr A B σ H Q:=by
 refine hA _ ?_;cases p with
 | true=>exact Az h
 | false=>exact Af (hB _ h)
theorem NC {A B:TT} {σ:St} {Q:Bool->Hp->Prop} (p q:Bool) (hA:∀ Q':Bool->Hp->Prop,Q' p H->A σ H Q') (hB:∀ Q':Bool->Hp->Prop,(∀ H',Same H H'->Q' q H')->B σ H Q') (h:∀ H',Same H H'->Q (p && q) H'):Ot A B σ H Q:=by
 refine hA _ ?_;cases p with
 | true=>exact Az (hB _ h)
 | false=>exact Af (h _ (Same.refl _))
theorem F0 {p:Addr} (s:Same H H') (h:H' p=none):H p=none:=by
 cases e:H p with
 | none=>rfl
 | some o=>rw [s _ _ e] at h; cases h
theorem CH {X:Cx} {x:Str} {j} {p:Pos} {es:List Expr} {t:TA} (h:PA X es t):PA X (.Constant (.str x) j p :: es) (Ay (tC (.str x)) t):=AA Ae h
theorem KG {X:Cx} {x0 x1 x2 x3 x4 x5 x6 x7 x8 x9:Str} {j0} {j1} {j2} {j3} {j4} {j5} {j6} {j7} {j8} {j9} {p0 p1 p2 p3 p4 p5 p6 p7 p8 p9:Pos}:PA X [.Constant (.str x0) j0 p0,.Constant (.str x1) j1 p1,.Constant (.str x2) j2 p2,.Constant (.str x3) j3 p3,.Constant (.str x4) j4 p4,.Constant (.str x5) j5 p5,.Constant (.str x6) j6 p6,.Constant (.str x7) j7 p7,.Constant (.str x8) j8 p8,.Constant (.str x9) j9 p9] (Ay (tC (.str x0)) (Ay (tC (.str x1)) (Ay (tC (.str x2)) (Ay (tC (.str x3)) (Ay (tC (.str x4)) (Ay (tC (.str x5)) (Ay (tC (.str x6)) (Ay (tC (.str x7)) (Ay (tC (.str x8)) (Ay (tC (.str x9)) (F9))))))))))):=CH (CH (CH (CH (CH (CH (CH (CH (CH (CH (AC))))))))))
theorem Bu {bs:List Addr} {i:Nat} {v:V} (h:TupsAt H bs (C8 due)) (e:(bs.map V.ref)[i]?=some v):∃ b p,v=.ref b/\bs[i]?=some b/\due[i]?=some p/\H b=some (.tup [.str p.1,.int (p.2:Int)]):=by
 rw [getElem?_map] at e
 obtain ⟨b,hb,rfl⟩:∃ b,bs[i]?=some b/\v=V.ref b:=by
  cases q:bs[i]? with
  | none=>rw [q] at e; cases e
  | some x=>rw [q] at e; exact ⟨x,rfl,(Option.some.inj e).symm⟩
 obtain ⟨pq,hpq,ag⟩:=HS h hb;unfold C8 at hpq;rw [getElem?_map] at hpq
 obtain ⟨pr,hpr,rfl⟩:∃ q,due[i]?=some q/\pq=(V.str q.1,V.int (q.2:Int)):=by
  cases q:due[i]? with
  | none=>rw [q] at hpq; cases hpq
  | some x=>rw [q] at hpq; exact ⟨x,rfl,(Option.some.inj hpq).symm⟩
 exact ⟨b,pr,rfl,hb,hpr,ag⟩
def wordsL:List Str:=["A", "B", "CD", "EFG", "H", "IJKLMN", "O", "P", "Q", "R"]
theorem Lk:∀ x ∈ wordsL,PU x:=by
 have:∀ x ∈ wordsL,(Bq x && x.cps.all (· < 128) && decide (x.length <= 1000))=true:=by decide +kernel
 intro x hx;have:=this x hx;simp only [Bool.and_eq_true,decide_eq_true_eq] at this;exact ⟨this.1.1,this.1.2,this.2⟩
theorem KH:∀ i:Fin 10,(wordsL[i.1]?.map fun x=>decide (x ∈ wordsL.take i.1))=some false:=by decide +kernel
structure LW (d w f u:Addr) (H0 H:Hp) (rows:List (Str × Th)):Prop where
 old:∀ b o,H0 b=some o->b ≠ d->H b=some o
 dice:∃ a b:Int,H d=some (.lst [.int a,.int b])
 words:H w=some (.lst (wordsL.map V.str))
 found:∃ as:List Addr,H f=some (.lst (as.map V.ref))/\Paired (RowAt H) as rows
 due:∃ bs:List Addr,H u=some (.lst (bs.map V.ref))/\TupsAt H bs (C8 (Ak rows))
structure Ap (d w f u:Addr) (H0:Hp):Prop where
 wd:w ≠ d
 fd:f ≠ d
 ud:u ≠ d
 wf:w ≠ f
 wu:w ≠ u
 fu:f ≠ u
 nf:H0 f=none
 nu:H0 u=none
section
variable {d w u:Addr} {H0:Hp} {rows:List (Str × Th)}
theorem LW.same (h:LW d w f u H0 H rows) (s:Same H H'):LW d w f u H0 H' rows:=by
 obtain ⟨a,b,e⟩:=h.dice;obtain ⟨as,e1,p1⟩:=h.found;obtain ⟨bs,e2,p2⟩:=h.due;exact ⟨fun c o ec hc=>s _ _ (h.old c o ec hc),⟨a,b,s _ _ e⟩,s _ _ h.words,⟨as,s _ _ e1,BO (SameT.of s) p1⟩,⟨bs,s _ _ e2,TupsAt.sameT (SameT.of s) p2⟩⟩
theorem LW.roll (A:Ap d w f u H0) (h:LW d w f u H0 H rows) (a' b':Int):LW d w f u H0 (upd H d (.lst [.int a',.int b'])) rows:=by
 obtain ⟨a,b,e⟩:=h.dice;obtain ⟨as,e1,p1⟩:=h.found;obtain ⟨bs,e2,p2⟩:=h.due;have t:SameT H (upd H d (.lst [.int a',.int b'])):=SameT.upd e;exact ⟨fun c o ec hc=>by rw [AF hc]; exact h.old c o ec hc,⟨a',b',AB⟩,by rw [AF A.wd]; exact h.words,⟨as,by rw [AF A.fd]; exact e1,BO t p1⟩,⟨bs,by rw [AF A.ud]; exact e2,TupsAt.sameT t p2⟩⟩
end
theorem Bv {rows:List (Str × Th)} {bs:List Addr} (h:TupsAt H bs (C8 (Ak rows))):bs.length=rows.length:=by
 rw [h.length]; unfold C8; rw [length_map,BK]
theorem Ll (rows:List (Str × Th)):(Ak rows).map (·.1)=rows.map (·.1):=by
 have:∀ (l:List (Str × Th)) (a:LN),((l.foldl (fun due r=>due++[(r.1,B9 due r.2)]) a).map (·.1))=a.map (·.1)++l.map (·.1):=by
  intro l;induction l with
  | nil=>intro a; simp
  | cons x r ih=>intro a; rw [foldl_cons,ih,map_append]; simp
 have e:=this rows [];unfold Ak;rw [e]; rfl
def QJ:St->Nat
 | [_,_,_,_,_,_,_,_,_,some (.int i),_,_]=>(2 ^ 22 - i).toNat
 | _=>0
section
inductive spLines (vs:List V) (H:Hp) (Q:VK) (_E:XK):Prop where
 | mk (d:Addr) (a b M:Int) (z_0:vs=[.ref d,.int M]) (z_1:1 <= M) (z_2:M <= 10) (z_3:H d=some (.lst [.int a,.int b])) (z_4:∀ (q f u:Addr) (as bs:List Addr) (rows:List (Str × Th)) H',SameX d H H'->H' q=some (.tup [.ref f,.ref u])->H f=none->H u=none->H' f=some (.lst (as.map V.ref))->Paired (RowAt H') as rows->H' u=some (.lst (bs.map V.ref))->TupsAt H' bs (C8 (Ak rows)) ->     0 < rows.length->(rows.length:Int) <= M->Dq rows->(∀ x ∈ rows.map (·.1),x ∈ wordsL)->Q (.ref q) H')
abbrev OQ:List Str:=["_law_dice", "_law_most", "_law_words", "_law_found", "_law_due", "_law_at", "_law_high", "_law_kind", "_law_thing", "_law_number", "_law_name", "_law_more"]
@[irreducible] def Il:Expr:=match defBody Bc with | .Assign _ (.Tuple (e :: _) _ _) _ :: _=>e | _=>.Constant .none 0 ⟨0,0,0,0⟩
abbrev ND:Stmt:=match defBody Bc with | .Assign t (.Tuple (_ :: r) k p) q :: _=>.Assign t (.Tuple (Il :: r) k p) q | _=>.Pass ⟨0,0,0,0⟩
abbrev OR:List Stmt:=(defBody Bc).drop 1
theorem OS:defBody Bc=ND :: OR:=by kernel_rfl
theorem KJ {X:Cx}:PE X Il (O4 (Ay (tC (.str "A")) (Ay (tC (.str "B")) (Ay (tC (.str "CD")) (Ay (tC (.str "EFG")) (Ay (tC (.str "H")) (Ay (tC (.str "IJKLMN")) (Ay (tC (.str "O")) (Ay (tC (.str "P")) (Ay (tC (.str "Q")) (Ay (tC (.str "R")) (F9)))))))))))):=by
 unfold Il;exact A4 KG
theorem scLines:AK OQ ["_law_dice", "_law_most"] (defScope Bc):=fsc
theorem Lm {f0:Addr} (F:Fun K "_law_lines" "_law_lines" Bc f0 fd) (B:Bl mg) (GR:Fn P w K mg base "_law_roll" 2 ["_law_dice", "_law_many"] spRoll):AX P w K mg base CX0 3 f0 fd ["_law_dice", "_law_most"] spLines:=by
 obtain ⟨fR,dR,GR,mR,kR,bR⟩:=GR.ex;refine F.ok scLines (fun vs H Q E h=>?_) (fun ac A outer s H vs Q E hr h=>?_)
 ·obtain ⟨d,a,b,M,rfl,_⟩:=h;rfl
 ·obtain ⟨d,a,b,M,rfl,M1,M10,hd,k⟩:=h;have hu64:=hr.units;have nd:=scLines.nd;rw [OS]
  refine ⟨_,AE (Cq (hs:=by kernel_rfl) (hw:=by kernel_rfl) (CT (AA (hs:=by kernel_rfl) KJ (AA (A4 AC) (AA (A4 AC) AC))))
    (Bk rfl (Ab (AY (i:=2) scLines.nd rfl (Or.inl rfl)) (Ab (AY (i:=3) scLines.nd rfl (Or.inl rfl)) (Ab (AY (i:=4) scLines.nd rfl (Or.inr rfl)) BM)))))
   (AE (Bx PassesOwn.never rfl (CI rfl B.range (AA (Aa CS AI (AJ GR hr rfl mR kR bR .nil AL (AA (pv 0) (AA (pv 1) AC)))) AC)) (AY (i:=5) scLines.nd rfl (Or.inl rfl))
    (Ax (Ac (i:=6) scLines.nd rfl (Or.inl rfl) (JK rfl rfl B.max (Cz [] [] (by kernel_rfl) (by decide +kernel) (by kernel_rfl) (by kernel_rfl) rfl (A6 (pv 4)) (fun _ _ _ _ _ _=>Bd) (fun _ _ _ _ _ _=>pv 1)) AI))
    (AE (Ac (i:=7) scLines.nd rfl (Or.inl rfl) (AJ GR hr rfl mR kR bR .nil AL (AA (pv 0) (AA AI AC))))
    (AE (Cq (hs:=by kernel_rfl) (hw:=by kernel_rfl) (CT (AA Nw (AA AI AC))) (Bk rfl (Ab (AY (i:=8) scLines.nd rfl (Or.inl rfl)) (Ab (AY (i:=9) scLines.nd rfl (Or.inl rfl)) BM))))
    (Ax (Dw PassesOwn.never (AO Dx (pv 9) (pv 6) (AS _)) (AD (Ac (i:=9) scLines.nd rfl (Or.inl rfl) (Aa Ey (pv 9) AI))))
    (Ax (Ag (PW.pt (Dv (AO A0 (pv 7) AI (AS _)) (CP (AO JE (pv 9) (Aa Hz AI AI) (AS _)))))
      (AE (Ac (i:=8) scLines.nd rfl (Or.inl rfl) (BF (Aq K rfl) (A4 (AA (Aa F7 AI (AJ GR hr rfl mR kR bR .nil AL (AA (pv 0) (AA AI AC)))) (AA (AJ GR hr rfl mR kR bR .nil AL (AA (pv 0) (AA AI AC)))
       (AA (Aa F7 AI (AJ GR hr rfl mR kR bR .nil AL (AA (pv 0) (AA AI AC)))) (AA AI AC))))) (AJ GR hr rfl mR kR bR .nil AL (AA (pv 0) (AA AI AC))) (fun _ _=>rfl)))
      (AD (Ac (i:=9) scLines.nd rfl (Or.inl rfl) (pv 8)))) AU)
    (Ax (Ag (PW.pt (Cp (AO Ez (pv 7) AI (AS _)) (B4 (AO (IU K rfl hu64) (pv 4) (A4 AC) (AS _)))))
      (AE (Ac (i:=8) scLines.nd rfl (Or.inl rfl) (BB FY rfl B.tuple D9 (AA (BX ["_law_due", "_law_dice"] [some 4,some 0] (by kernel_rfl) (by decide +kernel) (by kernel_rfl) rfl (CI rfl B.range (AA (Aa CS AI (AJ GR hr rfl mR kR bR .nil AL (AA (pv 0) (AA AI AC)))) AC)) (fun _ _ _ _ _ _=>Bd)
       (fun _ _ _ _ _ _=>BF (Es K rfl) (BF (Aq K rfl) (pv 1) (AJ GR hr rfl mR kR bR .nil AL (AA (pv 2) (AA (AV (Aw K rfl) rfl B.len PySem.boot_len (AA (pv 1) AC)) AC))) (fun _ _=>rfl)) AI (fun _ _=>rfl))) AC)))
      (AE (Ac (i:=9) scLines.nd rfl (Or.inl rfl) AI)
      (AD (Bx PassesOwn.never rfl (A6 (pv 4)) (Bk rfl (Ab (AY (i:=10) scLines.nd rfl (Or.inl rfl)) (Ab (AY (i:=11) scLines.nd rfl (Or.inl rfl)) BM)))
       (AD (Ac (i:=9) scLines.nd rfl (Or.inl rfl) (Aa Gz (pv 9) (Bh (AO EO (pv 10) (pv 8) rfl) (pv 11) AI)))))))) AU)
    (AE (A9 (Ci PySem.F.plainAttrs_list PySem.F.slot_list_append PySem.F.type_list_append BC (pv 3) (AA (CT (AA (BF (Aq K rfl) (pv 2) (pv 5) (fun _ _=>rfl)) (AA (pv 8) AC))) AC)))
    (AD (A9 (Ci PySem.F.plainAttrs_list PySem.F.slot_list_append PySem.F.type_list_append BC (pv 4) (AA (CT (AA (BF (Aq K rfl) (pv 2) (pv 5) (fun _ _=>rfl)) (AA (pv 9) AC))) AC))))))))))))
   (AD (AM (CT (AA (pv 3) (AA (pv 4) AC)))))),?_⟩
  refine ⟨(by show 10 <= sizeLine; decide),fun pw hpw=>⟨Nat.zero_le _,fun pf hpf=>⟨Nat.zero_le _,fun pu hpu=>⟨sl3,fun q0 hq0=>?_⟩⟩⟩⟩;refine ⟨q0,_,rfl,SqT.of AB,rfl,_,_,rfl,_,_,rfl,_,_,rfl,rfl,?_⟩;have dw:pw ≠ d:=Ne.symm (AH hd hpw);have s1:Same H (upd H pw (.lst (wordsL.map V.str))):=AG (Same.refl _) hpw;have s2:Same (upd H pw (.lst (wordsL.map V.str))) (upd (upd H pw (.lst (wordsL.map V.str))) pf (.lst [])):=AG (Same.refl _) hpf;have s3:Same (upd (upd H pw (.lst (wordsL.map V.str))) pf (.lst [])) (upd (upd (upd H pw (.lst (wordsL.map V.str))) pf (.lst [])) pu (.lst [])):=AG (Same.refl _) hpu;have s4:=AG (Same.refl _) hq0 (o:=HO.tup [.ref pw,.ref pf,.ref pu]);have nf0:H pf=none:=F0 s1 hpf;have nu0:H pu=none:=F0 (s1.trans s2) hpu;have AP:Ap d pw pf pu H:=⟨dw,Ne.symm (AH hd nf0),Ne.symm (AH hd nu0),AH AB hpf,AH (s2 _ _ AB) hpu,AH AB hpu,nf0,nu0⟩;have L0:LW d pw pf pu H _ []:=⟨fun b o e _=>s4 _ _ (s3 _ _ (s2 _ _ (s1 _ _ e))),⟨a,b,s4 _ _ (s3 _ _ (s2 _ _ (s1 _ _ hd)))⟩,s4 _ _ (s3 _ _ (s2 _ _ AB)),⟨[],s4 _ _ (s3 _ _ AB),.nil⟩,⟨[],s4 _ _ AB,.nil⟩⟩;obtain ⟨a1,b1,hd1⟩:=L0.dice;refine ⟨_,rfl,_,rfl,d,a1,b1,M,rfl,hd1,by omega,by omega,fun r a' b' h0 h1=>?_⟩;refine ⟨_,_,rfl,rfl,_,rfl,by omega,by omega,?_⟩
  refine Fe (lo:=0) (n:=(1 + r).toNat) (fun i σ H2=>∃ (v5 v6 v7 v8 v9 v10 v11:Option V) (rows:List (Str × Th)),σ=[some (.ref d),some (.int M),some (.ref pw),some (.ref pf),some (.ref pu),v5,v6,v7,v8,v9,v10,v11]/\rows.length=i/\Dq rows/\rows.map (·.1)=wordsL.take i/\LW d pw pf pu H H2 rows)
   ⟨none,none,none,none,none,none,none,[],rfl,rfl,(fun i r e=>by simp at e),rfl,L0.roll AP a' b'⟩ ?_ ?_
  ·rintro i σ H2 hi ⟨v5,v6,v7,v8,v9,v10,v11,rows,rfl,ay,RO,bh,L⟩;have hi10:i < 10:=by omega
   have DO:Bm (Ak rows):=HY RO (by omega);generalize a8:Cl ((Ak rows).map (·.2))=a0
   have hh20:a0 < 2 ^ 20:=by
    rw [← a8];exact HJ (by decide) fun n hn=>by obtain ⟨p,hp,rfl⟩:=mem_map.mp hn; exact DO.lt p hp
   refine ⟨fun σ H3=>σ=[some (.ref d),some (.int M),some (.ref pw),some (.ref pf),some (.ref pu),some (.int (0 + (i:Int))),some (.int (a0:Int)),v7,v8,v9,v10,v11]/\LW d pw pf pu H H3 rows,fun R hR=>?_,?_⟩
   ·obtain ⟨bs,hu,hbs⟩:=L.due;have hbl:=Bv hbs;refine ⟨_,rfl,pu,rfl,⟨_,SqL.of hu⟩,BR (K:=K) (a:=pu) (xs:=bs.map V.ref) (fun j ys H3=>ys=An (((Ak rows).take j).map (·.2))/\H3=H2) ⟨by rfl,rfl⟩ (fun j ys H3 _ ⟨_,e⟩=>e ▸ SqL.of hu) (fun j ys H3 ⟨e,_⟩=>?_) ?_ ?_⟩
    ·rw [e]; unfold An; rw [length_map,length_map,length_take,BK]; omega
    ·rintro j v ys H3 hj ⟨rfl,rfl⟩;obtain ⟨bb,p,rfl,hb1,ah,ag⟩:=Bu hbs hj;refine ⟨bb,_,rfl,SqT.of ag,rfl,_,_,rfl,_,_,rfl,rfl,?_⟩;refine ⟨_,rfl,?_,rfl⟩;rw [take_add_one,ah,Option.toList_some,map_append];unfold An;rw [map_append];rfl
    ·rintro ys H3 ⟨rfl,rfl⟩ p hp;have sp:=AG (Same.refl _) hp (o:=HO.lst (An (((Ak rows).take (bs.map V.ref).length).map (·.2))));have el:(Ak rows).take (bs.map V.ref).length=Ak rows:=by rw [length_map,hbl,← BK,take_length]
     refine ⟨p,((Ak rows).map (·.2)).map (fun n:Nat=>(n:Int)),0,rfl,rfl,SqL.of (by rw [AB,el,ED]),fun e=>?_,fun e=>?_⟩
     ·refine hR _ _ ⟨?_,L.same sp⟩;have:(Ak rows).map (·.2)=[]:=List.map_eq_nil_iff.mp e;rw [this] at a8;subst a8;rfl
     ·refine hR _ _ ⟨?_,L.same sp⟩;have av:(Ak rows).map (·.2) ≠ []:=fun z=>e (by rw [z]; rfl);rw [HK av,a8];rfl
   ·rintro σ H3 ⟨rfl,L3⟩;obtain ⟨a3,b3,hd3⟩:=L3.dice;refine ⟨_,rfl,d,a3,b3,8,rfl,hd3,by decide,by decide,fun kd a4 b4 kd0 kd1=>?_⟩;have L4:=L3.roll AP a4 b4;refine ⟨sl2,fun q hq=>⟨q,_,rfl,SqT.of AB,rfl,_,_,rfl,_,_,rfl,rfl,?_⟩⟩;have L5:=L4.same (AG (Same.refl _) hq (o:=HO.tup [V.non,V.int 1]));refine ⟨fun σ H6=>σ=[some (.ref d),some (.int M),some (.ref pw),some (.ref pf),some (.ref pu),some (.int (0 + (i:Int))),some (.int (a0:Int)),some (.int kd),some .non,some (.int (A8 a0:Nat)),v10,v11]/\LW d pw pf pu H H6 rows,fun R hR=>?_,?_⟩
    ·refine Kj (fun σ H6=>LW d pw pf pu H H6 rows/\∃ j:Nat,j <= 20/\σ=[some (.ref d),some (.int M),some (.ref pw),some (.ref pf),some (.ref pu),some (.int (0 + (i:Int))),some (.int (a0:Int)),some (.int kd),some .non,some (.int ((2 ^ j:Nat):Int)),v10,v11]/\(j=0\/2 ^ (j - 1) <= a0)) (fun σ _=>QJ σ) ⟨L5,0,by omega,rfl,.inl rfl⟩ ?_ ?_
     ·rintro σ H6 ⟨L6,j,hj,rfl,hjj⟩;refine ⟨_,rfl,_,rfl,_,_,rfl,rfl,_,rfl,?_⟩;refine BS (fun hle=>?_) (fun hle=>?_)
      ·have hle':2 ^ j <= a0:=by have:=of_decide_eq_true hle; exact_mod_cast this
       have hj20:j < 20:=(Nat.pow_lt_pow_iff_right (by decide)).mp (Nat.lt_of_le_of_lt hle' hh20);refine ⟨_,rfl,_,_,rfl,rfl,.inr ⟨by decide,by decide⟩,?_⟩;have e2:(((2 ^ j:Nat):Int) * 2)=((2 ^ (j + 1):Nat):Int):=by rw [Nat.pow_succ]; omega
       refine ⟨⟨L6,j + 1,by omega,?_,.inr hle'⟩,?_⟩
       ·show [some (V.ref d),some (V.int M),some (V.ref pw),some (V.ref pf),some (V.ref pu),some (V.int (0 + (i:Int))),some (V.int (a0:Int)),some (V.int kd),some V.non,some (V.int (((2 ^ j:Nat):Int) * 2)),v10,v11]=_;rw [e2]
       ·show (2 ^ 22 - (((2 ^ j:Nat):Int) * 2)).toNat < (2 ^ 22 - ((2 ^ j:Nat):Int)).toNat;have h1:0 < 2 ^ j:=Nat.two_pow_pos j;have h2:2 ^ j <= 2 ^ 20:=Nat.pow_le_pow_right (by decide) hj;omega
      ·have hgt:a0 < 2 ^ j:=by
        have:¬ ((2 ^ j:Nat):Int) <= (a0:Int):=fun z=>hle (decide_eq_true z);omega
       refine hR _ _ ⟨?_,L6⟩;rw [HH hgt hjj]
     ·rintro σ H6 Q1 Q2 hQ ⟨v,e1,v2,e2,i,j,a,b,c,ec,q⟩;exact ⟨v,e1,v2,e2,i,j,a,b,c,ec,hQ _ _ q⟩
    ·rintro σ H6 ⟨rfl,L6⟩;have hsig:∀ (tv nv w10 w11:V),True:=fun _ _ _ _=>trivial;refine ⟨fun σ H7=>∃ (tv:V) (th:Th) (w10 w11:Option V),σ=[some (.ref d),some (.int M),some (.ref pw),some (.ref pf),some (.ref pu),some (.int (0 + (i:Int))),some (.int (a0:Int)),some (.int kd),some tv,some (.int (B9 (Ak rows) th:Nat)),w10,w11]/\LW d pw pf pu H H7 rows/\ThAt H7 tv th/\Mv (Ak rows) th/\B9 (Ak rows) th < 2 ^ 20,fun R hR=>?_,?_⟩
     ·refine OP (decide (V.int kd=V.int 5)) (decide ((2:Int) ^ (20:Int).toNat <= (A8 a0:Nat))) (fun Q' h=>⟨_,rfl,rfl,_,rfl,h⟩) (fun Q' h=>⟨_,rfl,_,_,rfl,rfl,⟨by decide,by decide,by decide⟩,_,_,rfl,rfl,_,rfl,h⟩) ?_;refine BS (fun _=>?_) (fun hc=>?_)
      ·obtain ⟨x1,y1,e1⟩:=L6.dice;refine ⟨_,rfl,d,x1,y1,8,rfl,e1,by decide,by decide,fun r1 a1 b1 r10 r11=>?_⟩;have M1:=L6.roll AP a1 b1;refine ⟨_,_,rfl,rfl,⟨r10,by omega,by decide⟩,?_⟩;obtain ⟨x2,y2,e2⟩:=M1.dice;refine ⟨_,rfl,d,x2,y2,64,rfl,e2,by decide,by decide,fun r2 a2 b2 r20 r21=>?_⟩;have M2:=M1.roll AP a2 b2;obtain ⟨x3,y3,e3⟩:=M2.dice;refine ⟨_,rfl,d,x3,y3,20,rfl,e3,by decide,by decide,fun r3 a3 b3 r30 r31=>?_⟩;have M3:=M2.roll AP a3 b3;refine ⟨_,_,rfl,rfl,⟨r30,by omega,by decide⟩,?_⟩;refine ⟨sl4,fun p hp=>?_⟩;have M4:=M3.same (AG (Same.refl _) hp (o:=HO.lst [V.int (1 * 2 ^ r1.toNat),V.int r2,V.int (1 * 2 ^ r3.toNat),V.int 0]));obtain ⟨x4,y4,e4⟩:=M4.dice;have npd:p ≠ d:=Ne.symm (AH AB hp);refine ⟨_,rfl,d,x4,y4,4,rfl,e4,by decide,by decide,fun r4 a4 b4 r40 r41=>?_⟩;have M5:=M4.roll AP a4 b4;obtain ⟨v,hv,hv2⟩:=Ee (xs:=[V.int (1 * 2 ^ r1.toNat),V.int r2,V.int (1 * 2 ^ r3.toNat),V.int 0]) r40 (by show r4 < 4; exact r41)
       have hin:∃ n:Nat,v=.int (n:Int)/\n < 2 ^ 20:=by
        have:=mem_of_getElem? hv2;simp only [mem_cons,not_mem_nil,or_false] at this;rcases this with z | z | z | z
        ·refine ⟨2 ^ r1.toNat,by rw [z]; simp,?_⟩;exact (Nat.pow_lt_pow_iff_right (by decide)).mpr (by omega)
        ·exact ⟨r2.toNat,by rw [z,Int.toNat_of_nonneg r20],by omega⟩
        ·refine ⟨2 ^ r3.toNat,by rw [z]; simp,?_⟩;exact (Nat.pow_lt_pow_iff_right (by decide)).mpr (by omega)
        ·exact ⟨0,z,by decide⟩
       obtain ⟨n,rfl,hn⟩:=hin;refine ⟨p,_,r4,_,rfl,rfl,SqL.of (by rw [AF npd]; exact AB),hv,?_⟩;exact ⟨_,rfl,hR _ _ ⟨.int (n:Int),.num n,v10,v11,rfl,M5,rfl,trivial,hn⟩⟩
      ·refine hR _ _ ⟨.non,.non,v10,v11,?_,L6,rfl,trivial,?_⟩
       ·show _=[some (V.ref d),some (V.int M),some (V.ref pw),some (V.ref pf),some (V.ref pu),some (V.int (0 + (i:Int))),some (V.int (a0:Int)),some (V.int kd),some V.non,some (V.int ((A8 (Cl ((Ak rows).map (·.2))):Nat):Int)),v10,v11];rw [a8]
       ·show A8 (Cl ((Ak rows).map (·.2))) < 2 ^ 20;rw [a8];have h2:¬ ((2:Int) ^ (20:Int).toNat <= (A8 a0:Nat)):=fun z=>hc (by rw [decide_eq_true z,Bool.or_true]);have h3:((2:Int) ^ (20:Int).toNat)=1048576:=by decide
        omega
     ·rintro σ H7 ⟨tv,th,w10,w11,rfl,L7,hT,hTO,hlt⟩;obtain ⟨bs,hu,hbs⟩:=L7.due;have hbl:=Bv hbs;refine ⟨fun σ H8=>∃ (tv:V) (th:Th) (w10 w11:Option V),σ=[some (.ref d),some (.int M),some (.ref pw),some (.ref pf),some (.ref pu),some (.int (0 + (i:Int))),some (.int (a0:Int)),some (.int kd),some tv,some (.int (B9 (Ak rows) th:Nat)),w10,w11]/\LW d pw pf pu H H8 rows/\ThAt H8 tv th/\Mv (Ak rows) th/\B9 (Ak rows) th < 2 ^ 20,fun R hR=>?_,?_⟩
      ·refine NC (decide ((5:Int) < kd)) (!(Dt (Ak rows)).isEmpty) (fun Q' h=>⟨_,rfl,_,_,rfl,rfl,_,rfl,h⟩) (fun Q' h=>⟨_,rfl,Nat.zero_le _,fun p hp=>?_⟩) (fun H8 s8=>?_)
       ·have sp:=AG (Same.refl _) hp (o:=HO.lst []);refine ⟨.list (Dt (Ak rows)),.list [],Bi (sp _ _ hu) (EH (TupsAt.sameT (SameT.of sp) hbs)),Bi AB Et,C9 fun p hp=>(DO.nm p hp).2.1,Cf,_,rfl,?_⟩;rw [NB];exact h _ sp
       ·refine BS (fun hc=>?_) (fun hc=>?_)
        ·have av:0 < bs.length:=by
          rw [Bool.and_eq_true] at hc;have h2:=hc.2;rw [hbl,← BK];cases hz:Ak rows with
          | nil=>rw [hz] at h2; cases h2
          | cons x r=>simp
         have L8:=L7.same s8;obtain ⟨x1,y1,e1⟩:=L8.dice;refine ⟨_,rfl,d,x1,y1,3,rfl,e1,by decide,by decide,fun r1 a1 b1 r10 r11=>?_⟩;have M1:=L8.roll AP a1 b1;refine ⟨_,_,rfl,rfl,_,rfl,by omega,by omega,?_⟩;refine DX (lo:=0) (n:=(1 + r1).toNat) (fun j ys H9=>∃ ns:List Str,ys=ns.map V.str/\ns.length=j/\j <= 3/\(∀ x ∈ ns,x ∈ (Ak rows).map (·.1))/\LW d pw pf pu H H9 rows) ⟨[],rfl,rfl,by decide,(fun x hx=>nomatch hx),M1⟩ ?_ ?_ ?_
         ·rintro j ys H9 ⟨ns,rfl,e,h3,_⟩;rw [length_map]; omega
         ·rintro j ys H9 hj ⟨ns,rfl,e,h3,hin,L9⟩;obtain ⟨x2,y2,e2⟩:=L9.dice;obtain ⟨cs,hu9,ax⟩:=L9.due;have ad:=Bv ax;have ap:(cs.map V.ref).length=bs.length:=by rw [length_map,ad,hbl]
          refine ⟨_,rfl,_,rfl,_,rfl,pu,_,rfl,.inl (SqL.of hu9),d,x2,y2,_,rfl,e2,by rw [ap]; omega,by rw [ap]; omega,fun r2 a2 b2 r20 r21=>?_⟩;have M2:=L9.roll AP a2 b2;have hu10:(upd H9 d (.lst [.int a2,.int b2])) pu=some (.lst (cs.map V.ref)):=by rw [AF AP.ud]; exact hu9
          have hcs2:TupsAt (upd H9 d (.lst [.int a2,.int b2])) cs (C8 (Ak rows)):=TupsAt.sameT (SameT.upd e2) ax;obtain ⟨v,hv,hv2⟩:=Ee (xs:=cs.map V.ref) r20 (by exact r21);obtain ⟨bb,p,rfl,_,ah,ag⟩:=Bu hcs2 hv2;refine ⟨pu,_,r2,_,rfl,rfl,SqL.of hu10,hv,bb,_,0,.str p.1,rfl,rfl,SqT.of ag,rfl,?_⟩;refine ⟨ns++[p.1],by rw [map_append]; rfl,by rw [length_append,e]; rfl,by omega,fun x hx=>?_,M2⟩;rcases mem_append.mp hx with z | z
          ·exact hin x z
          ·rw [mem_singleton] at z;subst z;exact mem_map.mpr ⟨p,mem_of_getElem? ah,rfl⟩
         ·rintro ys H9 ⟨ns,rfl,e,h3,hin,L9⟩ l hl;have L10:=L9.same (AG (Same.refl _) hl (o:=HO.lst (ns.map V.str)));refine ⟨l,_,rfl,.inl ⟨SqL.of AB,fun t ht=>?_⟩⟩;have L11:=L10.same (AG (Same.refl _) ht (o:=HO.tup (ns.map V.str)));obtain ⟨cs,hu11,ax⟩:=L11.due;have ad:=Bv ax;refine ⟨_,rfl,pu,rfl,⟨_,SqL.of hu11⟩,CJ (K:=K) (a:=pu) (xs:=cs.map V.ref) (fun j σ H12=>H12=upd (upd H9 l (.lst (ns.map V.str))) t (.tup (ns.map V.str))/\∃ w10 w11:Option V,σ=[some (.ref d),some (.int M),some (.ref pw),some (.ref pf),some (.ref pu),some (.int (0 + (i:Int))),some (.int (a0:Int)),some (.int kd),some (.ref t),some (.int (uni ((Ak rows).take j) ns:Nat)),w10,w11]) ⟨rfl,w10,w11,rfl⟩ (fun j σ H12 _ ⟨e,_⟩=>e ▸ SqL.of hu11) ?_ ?_⟩
          ·rintro j v σ H12 hj ⟨rfl,w10,w11,rfl⟩;obtain ⟨bb,p,rfl,_,ah,ag⟩:=Bu ax hj;refine ⟨bb,_,rfl,SqT.of ag,rfl,_,_,rfl,_,_,rfl,rfl,?_⟩;refine ⟨_,rfl,_,rfl,_,rfl,t,_,rfl,.inr (SqT.of AB),rfl,?_,_,rfl,?_⟩
           ·rw [all_map];exact List.all_eq_true.mpr fun _ _=>rfl
           ·have eu:uni ((Ak rows).take (j + 1)) ns=uni ((Ak rows).take j) ns ||| (if inV (.str p.1) (ns.map V.str) then p.2 else 0):=by
             unfold uni;rw [take_add_one,ah,Option.toList_some,map_append];exact DY _ _
            refine BS (fun hc2=>?_) (fun hc2=>?_)
            ·refine ⟨_,rfl,_,_,rfl,rfl,rfl,some (.str p.1),some (.int (p.2:Int)),?_⟩;have hc3:inV (.str p.1) (ns.map V.str)=true:=hc2;rw [hc3,if_pos rfl] at eu;rw [eu,← CW];rfl
            ·refine ⟨_,_,rfl,rfl,rfl,some (.str p.1),some (.int (p.2:Int)),?_⟩;have hc3:inV (.str p.1) (ns.map V.str)=false:=Bool.eq_false_iff.mpr hc2;rw [hc3,if_neg Bool.false_ne_true] at eu;rw [eu,← CW];rfl
          ·rintro σ H12 ⟨rfl,w10,w11,rfl⟩;have el:(Ak rows).take (cs.map V.ref).length=Ak rows:=by rw [length_map,ad,← BK,take_length]
           have en:B9 (Ak rows) (.nms ns)=uni (Ak rows) ns:=(OO DO.nd hin).symm;have eL:ns.length=(1 + r1).toNat:=e;refine hR _ _ ⟨.ref t,.nms ns,w10,w11,by rw [el,en],L11,⟨t,rfl,AB⟩,⟨?_,by omega,hin⟩,?_⟩
           ·intro z; subst z; simp at eL; omega
           ·show AZ (ns.map (look (Ak rows))) < 2 ^ 20;refine FE fun n hn=>?_;obtain ⟨x,hx,rfl⟩:=mem_map.mp hn;obtain ⟨p,hp,rfl⟩:=mem_map.mp (hin x hx);rw [DA DO.nd hp];exact DO.lt p hp
        ·exact hR _ _ ⟨tv,th,w10,w11,rfl,L7.same s8,hT.same s8,hTO,hlt⟩
      ·rintro σ H8 ⟨tv,th,w10,w11,rfl,L8,hT,hTO,hlt⟩;obtain ⟨as,hf,hP⟩:=L8.found;have ar:as.length=rows.length:=hP.length;have hw:wordsL[i]?=some wordsL[i]:=List.getElem?_eq_getElem hi10;generalize am:wordsL[i]=wd at hw
       have hat:atI (wordsL.map V.str) (0 + (i:Int))=some (.str wd):=by
        have:(0:Int) + (i:Int)=((i:Nat):Int):=by omega
        rw [this];exact Bo (by rw [getElem?_map,hw]; rfl)
       refine ⟨_,rfl,.inl ⟨rfl,_,SqL.of hf⟩,_,rfl,_,rfl,pw,_,_,.str wd,rfl,rfl,SqL.of L8.words,hat,_,rfl,sl2,fun p hp=>?_⟩;have sp:=AG (Same.refl _) hp (o:=HO.tup [V.str wd,tv]);have hz1:(as.map V.ref).length < sizeLine:=AQ (by rw [length_map]; omega);refine ⟨pf,_,.ref p,rfl,rfl,sp _ _ hf,hz1,?_⟩;have t1:SameT (upd H8 p (.tup [V.str wd,tv])) (upd (upd H8 p (.tup [V.str wd,tv])) pf (.lst (as.map V.ref++[.ref p]))):=SameT.upd (sp _ _ hf);obtain ⟨bs,hu,hbs⟩:=L8.due;have hbl:=Bv hbs;have hu1:(upd (upd H8 p (.tup [V.str wd,tv])) pf (.lst (as.map V.ref++[.ref p]))) pu=some (.lst (bs.map V.ref)):=by rw [AF (Ne.symm AP.fu)]; exact sp _ _ hu
       have hw1:(upd (upd H8 p (.tup [V.str wd,tv])) pf (.lst (as.map V.ref++[.ref p]))) pw=some (.lst (wordsL.map V.str)):=by rw [AF AP.wf]; exact sp _ _ L8.words
       refine ⟨_,rfl,.inl ⟨rfl,_,SqL.of hu1⟩,_,rfl,_,rfl,pw,_,_,.str wd,rfl,rfl,SqL.of hw1,hat,_,rfl,sl2,fun q hq=>?_⟩;have sq:=AG (Same.refl _) hq (o:=HO.tup [V.str wd,V.int ((B9 (Ak rows) th:Nat):Int)]);have hz2:(bs.map V.ref).length < sizeLine:=AQ (by rw [length_map]; omega);refine ⟨pu,_,.ref q,rfl,rfl,sq _ _ hu1,hz2,?_⟩;have t2:=SameT.upd (sq _ _ hu1) (ys:=bs.map V.ref++[.ref q]);have tall:=((SameT.of sp).trans t1).trans ((SameT.of sq).trans t2);obtain ⟨x,y,ed⟩:=L8.dice;have RR:JO (Ak rows) (wd,th):=⟨DO,by rw [BK]; omega,Lk wd (mem_of_getElem? hw),?_,hTO,hlt⟩;refine ⟨_,_,_,_,_,_,_,rows++[(wd,th)],rfl,by rw [length_append,ay]; rfl,HX RO RR,?_,?_⟩
       ·rw [map_append,bh,take_add_one,hw,Option.toList_some]; rfl
       ·refine ⟨fun c o ec hc=>?_,⟨x,y,?_⟩,?_,⟨as++[p],?_,?_⟩,⟨bs++[q],?_,?_⟩⟩
        ·have n1:c ≠ pu:=AH ec AP.nu;have n2:c ≠ pf:=AH ec AP.nf;rw [AF n1];refine sq _ _ ?_;rw [AF n2];exact sp _ _ (L8.old c o ec hc)
        ·rw [AF (Ne.symm AP.ud)];refine sq _ _ ?_;rw [AF (Ne.symm AP.fd)];exact sp _ _ ed
        ·rw [AF AP.wu];exact sq _ _ hw1
        ·rw [AF AP.fu];refine sq _ _ ?_;rw [AB,map_append]; rfl
        ·refine Paired.snoc (BO tall hP) ?_;exact ⟨tv,t2 _ _ (sq _ _ (t1 _ _ AB)),hT.sameT tall⟩
        ·rw [AB,map_append]; rfl
        ·rw [Eb];unfold C8;rw [map_append];exact Paired.snoc (TupsAt.sameT tall hbs) (t2 _ _ AB)
       ·rw [Ll,bh];intro z;have key:=KH ⟨i,hi10⟩;rw [hw] at key;have:=Option.some.inj key;exact of_decide_eq_false this z
  ·rintro σ H2 ⟨v5,v6,v7,v8,v9,v10,v11,rows,rfl,ay,RO,bh,L⟩;obtain ⟨as,hf,hP⟩:=L.found;obtain ⟨bs,hu,hbs⟩:=L.due;refine ⟨_,rfl,_,rfl,sl2,fun q hq=>?_⟩;have sq:=AG (Same.refl _) hq (o:=HO.tup [V.ref pf,V.ref pu]);refine k q pf pu as bs rows _ ⟨fun c o e hc=>sq _ _ (L.old c o e hc),?_⟩ AB nf0 nu0 (sq _ _ hf) (BO (SameT.of sq) hP) (sq _ _ hu) (TupsAt.sameT (SameT.of sq) hbs) (by omega) (by omega) RO (fun x hx=>mem_of_mem_take (bh ▸ hx));obtain ⟨x,y,e⟩:=L.dice;exact ⟨x,y,sq _ _ e⟩
end
end Mk
end
section
namespace L2
open PySem
theorem F1 {X:Cx} (K:FG) (hK:X.K=K):BQ X (.builtin "isinstance") (fun xs H Q=>∃ v C t b,xs=[v,.ref C]/\TyOf K H v t/\W.kitOne K t (.ref C)=some b/\Q (.bl b) H):=by
 subst hK;intro aa s σ H xs us Q I r h;obtain ⟨v,C,t,b,rfl,ty,hk,q⟩:=h;obtain ⟨u,uT,rfl,ru,ruT⟩:=E1 r;cases ruT;exact Fg I ru ty hk fun tk=>⟨.bl b,H,I.tok tk,rfl,q⟩
end L2
namespace Mk
open PySem L2 MK
structure KIsi (K:FG) (C:Addr):Prop where
 cl:Cls K C
 ha:W.findIn K (.ref C) "__class__" = some (some (.builtin "object.__class__"))
 hn:W.specialIn K (.builtin "object.__class__") "__get__" = some (some (.builtin "getset_descriptor.__get__"))
 ht:W.takesIn K (.builtin "object.__class__")=some true
 hm:W.mroIn K C (.type "object")=some true
 nl:W.kitOne K (.type "list") (.ref C)=some false
theorem KIsi.ty {a dx:Addr} {fs:List (Str × V)} (k:KIsi K C) (e:H a=some (.ins C dx fs)):TyOf K H (.ref a) (.ref C):=.ins e k.cl k.ha k.hn k.ht k.hm
theorem HZ (K:FG) (C:Addr):W.kitOne K (.ref C) (.ref C)=some true:=by
 unfold W.kitOne;rw [if_pos (by simp)]
section
inductive spNumber (C:Addr) (vs:List V) (H:Hp) (Q:VK) (_E:XK):Prop where
 | mk (p:Addr) (due:LN) (r:Str) (x:Str) (z_0:vs=[.ref p,.str x]) (z_1:KindAt C H p due r) (z_2:x ∈ due.map (·.1)) (z_3:Q (.int (look due x:Nat)) H)
theorem Ln:AK ["self", "name"] ["self", "name"] (defScope C3):=fsc
theorem KK (F:Fun K "number" "Kind.number" C3 f fd) (T:CN K C) (GO:Fn P w K mg base "is_one_of" 1 ["thing", "names"] (CL K)):AX P w K mg base CX0 2 f fd ["self", "name"] (spNumber C):=by
 obtain ⟨fO,dO,GO,mO,kO,bO⟩:=GO.ex;refine F.ok Ln (fun vs H Q E h=>?_) (fun ac A outer s H vs Q E hr h=>?_)
 ·obtain ⟨p,due,r,x,rfl,_⟩:=h;rfl
 ·obtain ⟨p,due,r,x,rfl,KA,hx,k⟩:=h;have hu:=Ck hr;obtain ⟨dx,d1,o1,d2,o2,hp,h1,h2⟩:=KA.ex
  refine ⟨_,AE (Ag (BH (Av (AJ GO hr rfl mO kO bO .nil AL (AA (pv 1) (AA (Aj (pv 0) rfl) AC))))) (AD AW) AU)
   (AD (AM (BN hu (Aj (pv 0) rfl) (pv 1) (fun _ _=>rfl)))),?_⟩
  have DG:G6 H d1 (.str x) (some (V.int (look due x:Int))):=.inl ⟨_,Sum.inr x,.inr ⟨o1,h1⟩,rfl,(CA hx).symm⟩;refine ⟨_,rfl,_,rfl,p,C,dx,_,_,rfl,hp,T.cl,T.nN,FS _ _ _,.inl ⟨x,d1,Au due,rfl,.inr ⟨o1,h1⟩,_,rfl,?_⟩⟩;rw [CA hx];refine Af ?_;exact ⟨_,rfl,p,C,dx,_,_,rfl,hp,T.cl,T.nN,FS _ _ _,_,rfl,d1,_,rfl,DG,k⟩
inductive spNames (C:Addr) (vs:List V) (H:Hp) (Q:VK) (_E:XK):Prop where
 | mk (p:Addr) (due:LN) (r:Str) (z_0:vs=[.ref p]) (z_1:KindAt C H p due r) (z_2:∀ l H',Same H H'->H' l=some (.lst (((AT due).map (·.2)).map V.str))->Q (.ref l) H')
theorem NE:AK ["self"] ["self"] (defScope Dc):=fsc
theorem Lo (F:Fun K "names" "Kind.names" Dc f fd) (B:Bl mg) (T:CN K C):AX P w K mg base CX0 1 f fd ["self"] (spNames C):=by
 refine F.ok NE (fun vs H Q E h=>?_) (fun ac A outer s H vs Q E hr h=>?_)
 ·obtain ⟨p,due,r,rfl,_⟩:=h;rfl
 ·obtain ⟨p,due,r,rfl,KA,k⟩:=h;obtain ⟨dx,d1,o1,d2,o2,hp,h1,h2⟩:=KA.ex;refine ⟨_,AD (AM (BB (FB rfl) rfl B.list DI (AA (IR PySem.F.slot_dict_values PySem.F.type_dict_values Ft (Aj (pv 0) rfl)) AC))),?_⟩;refine ⟨_,rfl,p,C,dx,_,_,rfl,hp,T.cl,T.nF,EE _ _ _,d2,rfl,.inl ⟨_,.inr ⟨o2,h2⟩⟩,d2,_,rfl,rfl,.inr ⟨o2,h2⟩,fun v hv=>?_⟩;have s1:Same H (upd H v (JJ d2 v)):=AG (Same.refl _) hv;refine ⟨v,d2,_,rfl,AB,Same.rd s1 (.inr ⟨o2,h2⟩),fun l hl=>?_⟩;refine k l _ (AG s1 hl) ?_;rw [AB];unfold BU;rw [map_map,map_map];rfl
inductive spRest (C:Addr) (vs:List V) (H:Hp) (Q:VK) (_E:XK):Prop where
 | mk (p:Addr) (due:LN) (r:Str) (z_0:vs=[.ref p]) (z_1:KindAt C H p due r) (z_2:Q (.str r) H)
theorem OT:AK ["self"] ["self"] (defScope EW):=fsc
theorem NF (F:Fun K "rest" "Kind.rest" EW f fd) (T:CN K C):AX P w K mg base CX0 1 f fd ["self"] (spRest C):=by
 refine F.ok OT (fun vs H Q E h=>?_) (fun ac A outer s H vs Q E hr h=>?_)
 ·obtain ⟨p,due,r,rfl,_⟩:=h;rfl
 ·obtain ⟨p,due,r,rfl,KA,k⟩:=h;obtain ⟨dx,d1,o1,d2,o2,hp,h1,h2⟩:=KA.ex;refine ⟨_,AD (AM (Aj (pv 0) rfl)),?_⟩;exact ⟨_,rfl,p,C,dx,_,_,rfl,hp,T.cl,T.nR,Ed _ _ _,k⟩
theorem Lp {p q:Str × Nat}:PyData.eqv (.tuple [.str p.1,.int (p.2:Int)]) (.tuple [.str q.1,.int (q.2:Int)])=decide (p=q):=by
 rw [Bool.eq_iff_iff];simp only [PyData.eqv,PyData.eqvAll,Bool.and_true,Bool.and_eq_true,decide_eq_true_eq,beq_iff_eq];constructor
 ·rintro ⟨a,b⟩;exact Prod.ext a (by exact_mod_cast b)
 ·rintro rfl;exact ⟨rfl,rfl⟩
theorem He:∀ (a b:LN),PyData.eqv (.list (Dt a)) (.list (Dt b))=decide (a=b)
 | [],[]=>by simp [Dt,PyData.eqv,PyData.eqvAll]
 | [],q :: r=>by simp [Dt,PyData.eqv,PyData.eqvAll]
 | p :: r,[]=>by simp [Dt,PyData.eqv,PyData.eqvAll]
 | p :: r,q :: s=>by
  have ih:=He r s
  have h:PyData.eqv (.list (Dt (p :: r))) (.list (Dt (q :: s)))=(PyData.eqv (.tuple [.str p.1,.int (p.2:Int)]) (.tuple [.str q.1,.int (q.2:Int)]) && PyData.eqv (.list (Dt r)) (.list (Dt s))):=by
   simp only [Dt,map_cons,PyData.eqv,PyData.eqvAll]
  rw [h,Lp,ih,Bool.eq_iff_iff];simp
def Asc (due:LN):Prop:=∀ p ∈ due,p.1.cps.all (· < 128)=true
inductive spEqK (C:Addr) (vs:List V) (H:Hp) (Q:VK) (_E:XK):Prop where
 | mk (a b:Addr) (due:LN) (r:Str) (z_0:vs=[.ref a,.ref b]) (z_1:KindAt C H a due r) (z_2:Asc due) (z_3:((∃ xs,H b=some (.lst xs)/\∀ H',Same H H'->Q (.bl false) H')\/∃ (due':LN) (r':Str),KindAt C H b due' r'/\Asc due'/\∀ H',Same H H'->Q (.bl (decide (due=due'/\r=r'))) H'))
theorem QK:AK ["self", "other"] ["self", "other"] (defScope Ge):=fsc
theorem OU (F:Fun K "__eq__" "Kind.__eq__" Ge f fd) (B:Bl mg) (T:CN K C) (KI:KIsi K C) (mC:mg "Kind" = some (.ref C)) (GR:Mt P w K mg base C "rows" 1 ["self"] (spRows C)):AX P w K mg base CX0 2 f fd ["self", "other"] (spEqK C):=by
 obtain ⟨fR,dR,GR,mR,bR⟩:=GR.ex;refine F.ok QK (fun vs H Q E h=>?_) (fun ac A outer s H vs Q E hr h=>?_)
 ·obtain ⟨a,b,due,r,rfl,_⟩:=h;rfl
 ·obtain ⟨a,b,due,r,rfl,KA,h1,h⟩:=h;have hu64:=hr.units
  refine ⟨_,AD (AM (BV (AV (F1 K rfl) rfl B.isi Gj (AA (pv 1) (AA (A5 (v:=.ref C) rfl mC rfl) AC)))
   (BV (BA (OB K rfl hu64) (Ao (pv 0) T.cl mR GR hr bR .nil AL) (Ao (pv 1) T.cl mR GR hr bR .nil AL) (AS _))
    (Bj (BA A0 (Aj (pv 0) rfl) (Aj (pv 1) rfl) (AS _)))))),?_⟩
  obtain ⟨dx,d1,d2,hp⟩:=KA.ins;rcases h with ⟨xs,hb,k⟩ | ⟨due',r',KB,h2,k⟩
  ·refine ⟨_,rfl,_,C,_,false,rfl,.lst hb,KI.nl,_,rfl,?_⟩;exact Af (k _ (Same.refl _))
  ·obtain ⟨dy,e1,e2,hq⟩:=KB.ins;refine ⟨_,rfl,_,C,_,true,rfl,KI.ty hq,HZ K C,_,rfl,?_⟩;refine Az ?_;refine ⟨_,rfl,a,dx,_,rfl,hp,(BY _ _ _),a,due,r,rfl,KA,fun l as H1 s1 hl ht=>?_⟩;refine ⟨_,rfl,b,dy,_,rfl,s1 _ _ hq,(BY _ _ _),b,due',r',rfl,KB.same s1,fun l2 as2 H2 s2 hl2 ht2=>?_⟩;refine ⟨_,_,Bi (s2 _ _ hl) (EH (TupsAt.same s2 ht)),Bi hl2 (EH ht2),C9 h1,C9 h2,_,rfl,?_⟩;rw [He];have s12:=s1.trans s2;refine BS (fun e=>?_) (fun e=>?_)
   ·have e':due=due':=of_decide_eq_true e;refine ⟨_,rfl,a,C,dx,_,_,rfl,s12 _ _ hp,T.cl,T.nR,Ed _ _ _,_,rfl,b,C,dy,_,_,rfl,s12 _ _ hq,T.cl,T.nR,Ed _ _ _,rfl,?_⟩;have:=k _ s12;have ev:decide (V.str r=V.str r')=decide (due=due'/\r=r'):=decide_eq_decide.mpr ⟨fun z=>⟨e',V.str.inj z⟩,fun z=>by rw [z.2]⟩;rw [ev];exact this
   ·have:=k _ s12;rw [decide_eq_false (fun z=>e (decide_eq_true z.1))] at this;exact this
end
def Im (due:LN) (e m:Addr):LK:=[(Sum.inr "known", V.int (AZ (due.map (·.2)):Nat)),(Sum.inr "firsts", V.ref e),(Sum.inr "marks", V.ref m),(Sum.inr "bits", V.int (AZ (AN due):Nat))]
theorem OV (a b c d:V):EQ [] [((Sum.inr "known" : Key),a),(Sum.inr "firsts", b),(Sum.inr "marks", c),(Sum.inr "bits", d)]=[((Sum.inr "known" : Key),a),(Sum.inr "firsts", b),(Sum.inr "marks", c),(Sum.inr "bits", d)]:=by kernel_rfl
theorem KL (due:LN) (e m:Addr):A7 (Im due e m) (Sum.inr "known")=some (V.int (AZ (due.map (·.2)):Nat)):=by kernel_rfl
theorem Du (due:LN) (e m:Addr):A7 (Im due e m) (Sum.inr "firsts")=some (V.ref e):=by kernel_rfl
theorem KM (due:LN) (e m:Addr):A7 (Im due e m) (Sum.inr "marks")=some (V.ref m):=by kernel_rfl
theorem Lq (due:LN) (e m:Addr):A7 (Im due e m) (Sum.inr "bits")=some (V.int (AZ (AN due):Nat)):=by kernel_rfl
theorem KN (due:LN):(AN due).Pairwise (· < ·):=by
 have h1:=EF due;have h2:(Al due).Nodup:=(Ce due).nodup_iff.mpr (J7 due);have h3:(Al due).Pairwise (· < ·):=List.Pairwise.imp₂ (fun a b h n=>Nat.lt_of_le_of_ne h n) h1 h2;exact h3.filter _
theorem F2 (due:LN):((AN due).map fun n:Nat=>(n:Int)).sum=((AZ (AN due):Nat):Int):=by
 have hs:(AN due).sum=AZ (AN due):=J0 (fun n hn=>(mem_filter.mp hn).2) (KN due);rw [← hs];clear hs;generalize AN due=l;induction l with
 | nil=>rfl
 | cons a r ih=>rw [map_cons,sum_cons,sum_cons,ih]; push_cast; rfl
theorem Lr (due:LN):AZ ((AT due).map (·.1))=AZ (due.map (·.2)):=by
 refine Nat.eq_of_testBit_eq fun k=>?_;rw [BD,BD,Bool.eq_iff_iff,any_eq_true,any_eq_true];constructor
 ·rintro ⟨n,hn,hb⟩;obtain ⟨q,hq,rfl⟩:=mem_map.mp hn;exact ⟨q.1,mem_map.mpr ⟨_,Bt hq,rfl⟩,hb⟩
 ·rintro ⟨n,hn,hb⟩;obtain ⟨p,hp,rfl⟩:=mem_map.mp hn;exact ⟨p.2,J8 hp,hb⟩
section
inductive spTable (vs:List V) (H:Hp) (Q:VK) (_E:XK):Prop where
 | mk (u:Addr) (bs:List Addr) (due:LN) (z_0:vs=[.ref u]) (z_1:H u=some (.lst (bs.map V.ref))) (z_2:TupsAt H bs (C8 due)) (z_3:due.length <= 10) (z_4:(∀ p ∈ due,p.2 < 2 ^ 20)) (z_5:∀ t e m ms H',Same H H'->H' t=some (.dK (Im due e m))->H' e=some (.dK (BU (AT due)))->H' m=some (.lst (ms.map V.ref))->TupsAt H' ms (B2 due)->Q (.ref t) H')
abbrev OW:List Str:=["_law_due", "_law_known", "_law_firsts", "_law_name", "_law_number", "_law_marks"]
theorem scTable:AK OW ["_law_due"] (defScope C6):=fsc
theorem Ls (F:Fun K "_law_table_of" "_law_table_of" C6 f fd) (B:Bl mg) (GB:Fn P w K mg base "_law_bits_of" 1 ["_law_number"] spBitsOf):AX P w K mg base CX0 2 f fd ["_law_due"] spTable:=by
 obtain ⟨fB,dB,GB,mB,kB,bB⟩:=GB.ex;refine F.ok scTable (fun vs H Q E h=>?_) (fun ac A outer s H vs Q E hr h=>?_)
 ·obtain ⟨u,bs,due,rfl,_⟩:=h;rfl
 ·obtain ⟨u,bs,due,rfl,hu0,hbs,h10,hlt,k⟩:=h;have hu:=Ck hr
  refine ⟨_,AE (Cq (hs:=by kernel_rfl) (hw:=by kernel_rfl) (CT (AA AI (AA D4 AC))) (Bk rfl (Ab (AY (i:=1) scTable.nd rfl (Or.inl rfl)) (Ab (AY (i:=2) scTable.nd rfl (Or.inr rfl)) BM))))
   (AE (Bx PassesOwn.never rfl (A6 (pv 0)) (Bk rfl (Ab (AY (i:=3) scTable.nd rfl (Or.inl rfl)) (Ab (AY (i:=4) scTable.nd rfl (Or.inl rfl)) BM)))
    (AE (Ac (i:=1) scTable.nd rfl (Or.inl rfl) (Aa Gz (pv 1) (pv 4)))
    (AD (Ag (EK (Jo hu (pv 4) (pv 2))) (AD (JG hu (pv 2) (pv 4) (pv 3) rfl)) AU))))
   (AE (Kw (i:=5) scTable.nd rfl (by kernel_rfl) ["_law_firsts"] [some 2] (by kernel_rfl) (by decide +kernel) (by kernel_rfl) rfl (A6 (AV (D6 rfl) rfl B.sorted Fv (AA (pv 2) AC)))
    (fun _ _ _ _ _ _=>DH (AO A0 (AV (Aw K rfl) rfl B.len PySem.boot_len (AA (AJ GB hr rfl mB kB bB .nil AL (AA (pv 0) AC)) AC)) AI (AS _)))
    (fun _ _ _ _ _ _=>CT (AA (BN hu (pv 1) (pv 0) (fun _ _=>rfl)) (AA (pv 0) AC))))
   (AD (AM (Mj (D5 Ae (pv 1) (D5 Ae (pv 2) (D5 Ae (pv 5) (D5 Ae (AV (K3 rfl) rfl B.sum OG (AA (Cz [] [] (by kernel_rfl) (by decide +kernel) (by kernel_rfl) (by kernel_rfl) rfl (A6 (pv 5)) (fun _ _ _ _ _ _=>Bd) (fun _ _ _ _ _ _=>pv 1)) AC)) Mi)))) rfl rfl (by simp) (by decide)))))),?_⟩
  refine fun e he=>⟨sl2,fun q hq=>⟨q,_,rfl,SqT.of AB,rfl,_,_,rfl,_,_,rfl,rfl,?_⟩⟩;have s1:=AG (AG (Same.refl _) he (o:=HO.dK [])) hq (o:=HO.tup [V.int 0,V.ref e]);have hbl:bs.length=due.length:=by rw [hbs.length]; unfold C8; rw [length_map]
  refine ⟨_,rfl,u,rfl,⟨_,SqL.of (s1 _ _ hu0)⟩,CJ (K:=K) (a:=u) (xs:=bs.map V.ref) (fun i σ H2=>∃ v3 v4:Option V,σ=[some (.ref u),some (.int (AZ ((due.take i).map (·.2)):Nat)),some (.ref e),v3,v4,none]/\Same H H2/\H2 e=some (.dK (BU (AT (due.take i)))))
   ⟨none,none,rfl,s1,AG (Same.refl _) hq _ _ AB⟩ (fun i σ H2 _ ⟨_,_,_,s2,_⟩=>SqL.of (s2 _ _ hu0)) ?_ ?_⟩
  ·rintro i v σ H2 hi ⟨v3,v4,rfl,s2,he2⟩;obtain ⟨bb,p,rfl,_,ah,ag⟩:=Bu (TupsAt.same s2 hbs) hi;have et:due.take (i + 1)=due.take i++[p]:=by rw [take_add_one,ah]; rfl
   have ek:(((AZ ((due.take (i + 1)).map (·.2)):Nat)):Int)=Builtin.bitOr ((AZ ((due.take i).map (·.2)):Nat):Int) (p.2:Int):=by
    rw [et,map_append,CW];exact congrArg _ (DY _ _)
   have hle:(BU (AT (due.take i))).length <= 100:=by
    unfold BU;rw [length_map];have:=B1 (due.take i);rw [length_take] at this;omega
   refine ⟨bb,_,rfl,SqT.of ag,rfl,_,_,rfl,_,_,rfl,rfl,?_⟩;refine ⟨_,rfl,_,rfl,_,_,rfl,rfl,?_⟩;by_cases z:p.2 ∈ (AT (due.take i)).map (·.1)
   ·refine ⟨_,rfl,_,rfl,e,_,rfl,.inl ⟨_,Sum.inl (p.2:Int),.inl he2,rfl,(CM z).symm⟩,_,rfl,?_⟩;refine Af ⟨_,_,by rw [ek]; rfl,s2,?_⟩;rw [et,CB,if_pos (by simpa using z)];exact he2
   ·refine ⟨_,rfl,_,rfl,e,_,rfl,.inl ⟨_,Sum.inl (p.2:Int),.inl he2,rfl,(DJ z).symm⟩,_,rfl,?_⟩;refine Az ⟨_,rfl,_,rfl,_,rfl,e,_,rfl,DPut.k (k:=Sum.inl (p.2:Int)) he2 (AQ (by omega)),?_⟩;refine ⟨_,_,by rw [ek]; rfl,FQ s2 he,?_⟩;rw [AB,et,CB,if_neg (by simpa using z),HQ z]
  ·rintro σ H2 ⟨v3,v4,rfl,s2,he2⟩;have e1:due.take (bs.map V.ref).length=due:=by rw [length_map,hbl,take_length]
   rw [e1] at he2 ⊢;have hle:(BU (AT due)).length <= due.length:=by unfold BU; rw [length_map]; exact B1 due
   refine ⟨_,rfl,e,_,rfl,.inl he2,by omega,fun kv hkv=>?_,fun l ns hl br bt=>?_⟩
   ·unfold BU at hkv;obtain ⟨q,_,rfl⟩:=mem_map.mp hkv;exact ⟨_,rfl⟩
   ·have en:=HR br bt;subst en;have s3:=AG (Same.refl _) hl (o:=HO.lst (((Al due).map fun n:Nat=>(n:Int)).map V.int));have exs:((Al due).map fun n:Nat=>(n:Int)).map V.int=An (Al due):=(ED _).symm
    refine ⟨l,rfl,⟨_,SqL.of AB⟩,BR (K:=K) (a:=l) (xs:=An (Al due))
     (fun i ys H3=>∃ as,ys=as.map V.ref/\Same H2 H3/\H3 l=some (.lst (An (Al due)))/\TupsAt H3 as ((((Al due).take i).filter Ar).map fun n=>(V.str (Bn (AT due) n),V.int (n:Int)))) ⟨[],rfl,s3,by rw [AB,exs],.nil⟩
     (fun i ys H3 _ ⟨_,_,_,e,_⟩=>SqL.of e) (fun i ys H3 ⟨as,e,_,_,t⟩=>?_) ?_ ?_⟩
    ·have:=t.length;rw [e,length_map,this,length_map];have h3:(((Al due).take i).filter Ar).length <= ((Al due).take i).length:=length_filter_le _ _;rw [length_take] at h3;have:=DK due;omega
    ·rintro i v ys H3 hi ⟨as,rfl,s4,hl3,ht⟩;obtain ⟨n,hn,rfl⟩:=D8 hi;have bg:n ∈ (AT due).map (·.1):=mem_keysS.mp (mem_of_getElem? hn);have hn42:n < 2 ^ 42:=Nat.lt_trans (JP hlt n bg) (by decide);have et:((Al due).take (i + 1)).filter Ar=((Al due).take i).filter Ar++(if Ar n then [n] else []):=PySem.take_succ_filter Ar _ i n hn;refine ⟨_,rfl,n,rfl,fun l2 zs H4 s5 hl4 hz=>⟨l2,_,rfl,.inl (SqL.of hl4),rfl,_,rfl,?_⟩⟩
     have eb:decide (V.int ((zs.length:Nat):Int)=V.int 1)=Ar n:=by
      rw [← Fb hn42,hz];refine decide_eq_decide.mpr ⟨fun h=>?_,fun h=>by rw [h]; rfl⟩;have:=V.int.inj h;omega
     rw [eb];have hl5:=s5 _ _ hl3;refine BS (fun hm=>?_) (fun hm=>?_)
     ·refine ⟨_,rfl,_,rfl,e,_,rfl,.inl ⟨_,Sum.inl (n:Int),.inl (s5 _ _ (s4 _ _ he2)),rfl,(CM bg).symm⟩,_,rfl,sl2,fun b hb=>?_⟩;refine ⟨as++[b],by rw [map_append]; rfl,AG (s4.trans s5) hb,by rw [AF (AH hl5 hb)]; exact hl5,?_⟩;rw [et,hm,if_pos rfl,map_append];exact Fy (AG s5 hb) ht AB
     ·refine ⟨as,rfl,s4.trans s5,hl5,?_⟩;rw [et,if_neg hm,append_nil];exact TupsAt.same s5 ht
    ·rintro ys H3 ⟨as,rfl,s4,_,ht⟩ m hm
     have el:(Al due).take (An (Al due)).length=Al due:=by
      have:(An (Al due)).length=(Al due).length:=by unfold An; rw [length_map]
      rw [this]; exact take_length
     rw [el] at ht;have ht':TupsAt H3 as (B2 due):=ht;have s5:=AG (Same.refl _) hm (o:=HO.lst (as.map V.ref));have ar:as.length=(AN due).length:=by rw [ht'.length]; exact Fz due
     refine fun t ht0=>⟨_,rfl,_,rfl,_,rfl,?_⟩;have s6:=AG (Same.refl _) ht0 (o:=HO.dK []);have htm:=TupsAt.same (s5.trans s6) ht';have hm6:=s6 _ _ (AB (H:=H3) (a:=m) (o:=HO.lst (as.map V.ref)));refine ⟨_,rfl,m,rfl,⟨_,SqL.of hm6⟩,BR (K:=K) (a:=m) (xs:=as.map V.ref) (fun j ys H7=>ys=An ((AN due).take j)/\H7=upd (upd H3 m (.lst (as.map V.ref))) t (.dK [])) ⟨by rfl,rfl⟩ (fun j ys H7 _ ⟨_,e⟩=>e ▸ SqL.of hm6) (fun j ys H7 ⟨e,_⟩=>?_) ?_ ?_⟩
     ·rw [e]; unfold An; rw [length_map,length_take];have h3:(AN due).length <= (Al due).length:=length_filter_le _ _;have:=DK due;omega
     ·rintro j v ys H7 hj ⟨rfl,rfl⟩;rw [getElem?_map] at hj
      obtain ⟨b,hb,rfl⟩:∃ b,as[j]?=some b/\v=V.ref b:=by
       cases q:as[j]? with
       | none=>rw [q] at hj; cases hj
       | some x=>rw [q] at hj; exact ⟨x,rfl,(Option.some.inj hj).symm⟩
      obtain ⟨pq,hpq,ag⟩:=HS htm hb;unfold B2 at hpq;rw [getElem?_map] at hpq
      obtain ⟨n,hn,rfl⟩:∃ n,(AN due)[j]?=some n/\pq=(V.str (Bn (AT due) n),V.int (n:Int)):=by
       cases q:(AN due)[j]? with
       | none=>rw [q] at hpq; cases hpq
       | some x=>rw [q] at hpq; exact ⟨x,rfl,(Option.some.inj hpq).symm⟩
      refine ⟨b,_,rfl,SqT.of ag,rfl,_,_,rfl,_,_,rfl,rfl,?_⟩;refine ⟨_,rfl,?_,rfl⟩;rw [take_add_one,hn,Option.toList_some];unfold An;rw [map_append];rfl
     ·rintro ys H7 ⟨rfl,rfl⟩ l2 hl2;have el2:(AN due).take (as.map V.ref).length=AN due:=by rw [length_map,ar,take_length]
      rw [el2];have s7:=AG (Same.refl _) hl2 (o:=HO.lst (An (AN due)));refine ⟨l2,(AN due).map fun n:Nat=>(n:Int),rfl,SqL.of (by rw [AB,ED]),fun n hn=>?_,?_,?_⟩
      ·obtain ⟨x,_,rfl⟩:=mem_map.mp hn;exact Int.natCast_nonneg _
      ·rw [F2];have:=FE (Lc hlt);omega
      ·rw [F2];refine ⟨s7 _ _ AB,[((Sum.inr "known" : Key),V.int (AZ (due.map (·.2)):Nat)),(Sum.inr "firsts", .ref e),(Sum.inr "marks", .ref m),(Sum.inr "bits", V.int (AZ (AN due):Nat))],rfl,(by show 4 <= 15; decide),?_⟩;rw [OV];have nt:∀ b o,H3 b=some o->b ≠ t:=fun b o ebo=>AH (s5 _ _ ebo) ht0
       have sAll:Same (upd H3 m (.lst (as.map V.ref))) (upd (upd (upd (upd H3 m (.lst (as.map V.ref))) t (.dK [])) l2 (.lst (An (AN due)))) t (.dK (Im due e m))):=fun b o ebo=>by
        rw [AF (AH ebo ht0)];exact s7 _ _ (s6 _ _ ebo)
       refine k t e m as _ ?_ AB ?_ (sAll _ _ AB) (TupsAt.same (s5.trans sAll) ht')
       ·intro b o ebo;exact sAll _ _ (s5 _ _ (s4 _ _ (s2 _ _ ebo)))
       ·exact sAll _ _ (s5 _ _ (s4 _ _ he2))
end
theorem KP {fs:List (Nat × Str)} {n:Nat} (h:n ∈ fs.map (·.1)):(n,Bn fs n) ∈ fs:=by
 unfold Bn;obtain ⟨q,hq⟩:=Option.isSome_iff_exists.mp (Ds h);rw [hq];have e:q.1=n:=by simpa using List.find?_some hq
 have hm:=List.mem_of_find?_eq_some hq;subst e;exact hm
theorem QL:¬ (("own_kind" : Str) = "bits"):=by decide +kernel
def FU (kp:Addr) (n:Nat):List (Str × V):=A1 "bits" (.int (n:Int)) (A1 "own_kind" (.ref kp) [])
theorem EI (kp:Addr) (n:Nat):(FU kp n).lookup ("own_kind" : Str)=some (.ref kp):=by
 unfold FU;rw [AR,if_neg QL,AR,if_pos rfl]
theorem EJ (kp:Addr) (n:Nat):(FU kp n).lookup ("bits" : Str)=some (.int (n:Int)):=by
 unfold FU;rw [AR,if_pos rfl]
theorem Hf (kp:Addr) (n:Nat) {m:Str} (h1:¬ m = "bits") (h2:¬ m = "own_kind"):(FU kp n).lookup m=none:=by
 unfold FU;rw [AR,if_neg h1,AR,if_neg h2];rfl
def ValAt (VC:Addr) (H:Hp) (p kp:Addr) (n:Nat):Prop:=∃ dx,H p=some (.ins VC dx (FU kp n))
theorem ValAt.same {p kp:Addr} {n:Nat} (s:Same H H') (h:ValAt VC H p kp n):ValAt VC H' p kp n:=by
 obtain ⟨dx,h⟩:=h;exact ⟨dx,s _ _ h⟩
structure Gm (K:FG) (VC:Addr):Prop where
 cl:Cls K VC
 nK:NoAttr K VC "own_kind"
 nB:NoAttr K VC "bits"
def kn (due:LN):Nat:=AZ (due.map (·.2))
section
inductive spIsNumber (vs:List V) (H:Hp) (Q:VK) (_E:XK):Prop where
 | mk (n:Nat) (z_0:vs=[.int (n:Int)]) (z_1:n < 2 ^ 40) (z_2:Q (.bl true) H)
theorem Io:AK ["thing"] ["thing"] (defScope EX):=fsc
theorem Hg {tL:Tok} (F:Fun K "is_number" "is_number" EX f fd) (hL:mg "LIMIT" = some (.int 1099511627776 tL)) (GW:Fn P w K mg base "is_whole" 1 ["thing"] spIsWhole):AX P w K mg base CX0 2 f fd ["thing"] spIsNumber:=by
 obtain ⟨fW,dW,GW,mW,kW,bW⟩:=GW.ex;refine F.ok Io (fun vs H Q E h=>?_) (fun ac A outer s H vs Q E hr h=>?_)
 ·obtain ⟨n,rfl,_⟩:=h;rfl
 ·obtain ⟨n,rfl,hn,k⟩:=h;refine ⟨_,AD (AM (BV (AJ GW hr rfl mW kW bW .nil AL (AA (pv 0) AC)) (Bj (Dy Dx G0 AI (pv 0) (A5 (v:=.int 1099511627776) rfl hL ⟨tL,rfl⟩))))),?_⟩;refine ⟨_,rfl,(n:Int),rfl,_,rfl,?_⟩;refine Az ?_;refine ⟨_,rfl,_,_,rfl,rfl,_,rfl,?_⟩;rw [decide_eq_true (show (0:Int) <= (n:Int) by omega)];refine Az ?_;refine ⟨_,_,rfl,rfl,?_⟩;show Q (V.bl (decide ((n:Int) < 1099511627776))) H
  rw [decide_eq_true (show (n:Int) < 1099511627776 by have:(2:Nat) ^ 40=1099511627776:=by decide
                                                      omega)]
  exact k
inductive spRestOf (C:Addr) (vs:List V) (H:Hp) (Q:VK) (_E:XK):Prop where
 | mk (kp:Addr) (due:LN) (r:Str) (n:Nat) (z_0:vs=[.ref kp,.int (n:Int)]) (z_1:KindAt C H kp due r) (z_2:∀ H',Same H H'->Q (.int ((n - (n &&& kn due):Nat):Int)) H')
theorem Lu:AK ["kind", "number"] ["kind", "number"] (defScope Gf):=fsc
theorem KQ (F:Fun K "rest_of" "rest_of" Gf f fd) (T:CN K C) (GK:Mt P w K mg base C "known" 2 ["self"] (spKnown C)):AX P w K mg base CX0 3 f fd ["kind", "number"] (spRestOf C):=by
 obtain ⟨fK,dK,GK,mK,bK⟩:=GK.ex;refine F.ok Lu (fun vs H Q E h=>?_) (fun ac A outer s H vs Q E hr h=>?_)
 ·obtain ⟨kp,due,r,n,rfl,_⟩:=h;rfl
 ·obtain ⟨kp,due,r,n,rfl,KA,k⟩:=h;obtain ⟨dx,d1,d2,hp⟩:=KA.ins;refine ⟨_,AD (AM (Aa Cr (pv 1) (Ff Kk (Ao (pv 0) T.cl mK GK hr bK .nil AL)))),?_⟩;refine ⟨_,rfl,_,rfl,kp,dx,_,rfl,hp,(BY _ _ _),kp,due,r,rfl,KA,fun H1 s1=>?_⟩;refine ⟨_,rfl,_,_,rfl,rfl,?_⟩;show Q (V.int (Builtin.bitAnd (n:Int) (Builtin.bitNot ((AZ ((AT due).map (·.1)):Nat):Int)))) H1;rw [FD,Lr];exact k H1 s1
inductive spVInit (C VC:Addr) (vs:List V) (H:Hp) (Q:VK) (_E:XK):Prop where
 | mk (p dx kp:Addr) (due:LN) (r:Str) (n:Nat) (z_0:vs=[.ref p,.ref kp,.int (n:Int)]) (z_1:H p=some (.ins VC dx [])) (z_2:KindAt C H kp due r) (z_3:n < 2 ^ 40) (z_4:(r = "keep" \/ n - (n &&& kn due)=0)) (z_5:∀ H',(∀ b o,H b=some o->b ≠ p->H' b=some o)->ValAt VC H' p kp n->Q .non H')
theorem NG:AK ["self", "kind", "number"] ["self", "kind", "number"] (defScope Df):=fsc
theorem Hh (F:Fun K "__init__" "Value.__init__" Df f fd) (T:CN K C) (VT:Gm K VC)
  (GN:Fn P w K mg base "is_number" 2 ["thing"] spIsNumber) (GR:Fn P w K mg base "rest_of" 3 ["kind", "number"] (spRestOf C)) (GRe:Mt P w K mg base C "rest" 1 ["self"] (spRest C)):AX P w K mg base CX0 4 f fd ["self", "kind", "number"] (spVInit C VC):=by
 obtain ⟨fN,dN,GN,mN,kN,bN⟩:=GN.ex;obtain ⟨fR,dR,GR,mR,kR,bR⟩:=GR.ex;obtain ⟨fE,dE,GE,mE,bE⟩:=GRe.ex;refine F.ok NG (fun vs H Q E h=>?_) (fun ac A outer s H vs Q E hr h=>?_)
 ·obtain ⟨p,dx,kp,due,r,n,rfl,_⟩:=h;rfl
 ·obtain ⟨p,dx,kp,due,r,n,rfl,hp,KA,hn,hrest,k⟩:=h;have hr1:Room 1 _:=hr.mono (by decide);have hr2:Room 2 _:=hr.mono (by decide);obtain ⟨dxk,d1,d2,ae⟩:=KA.ins
  refine ⟨_,AE (Ag (BH (Av (AJ GN hr2 rfl mN kN bN .nil AL (AA (pv 2) AC)))) (AD AW) AU)
   (Ax (Ag (PW.pt (Cp (AO Ct (Ao (pv 1) T.cl mE GE hr1 bE .nil AL) Ae (AS _)) (B4 (AO Ct (AJ GR hr rfl mR kR bR .nil AL (AA (pv 1) (AA (pv 2) AC))) AI (AS _))))) (AD AW) AU)
   (AE (CC (pv 0) (pv 1) rfl) (AD (CC (pv 0) (pv 2) rfl)))),?_⟩
  refine ⟨_,rfl,n,rfl,hn,_,rfl,?_⟩;refine Af ?_;refine ⟨fun σ H1=>σ=[some (.ref p),some (.ref kp),some (.int (n:Int))]/\Same H H1,fun R hR=>?_,?_⟩
  ·refine ⟨_,rfl,kp,dxk,_,rfl,ae,(BY _ _ _),kp,due,r,rfl,KA,rfl,_,rfl,?_⟩;by_cases hk:r = "keep"
   ·rw [decide_eq_true (show V.str r=V.str "keep" by rw [hk])];exact Af (Af (hR _ _ ⟨rfl,Same.refl _⟩))
   ·rw [decide_eq_false (show ¬ V.str r=V.str "keep" from fun z=>hk (V.str.inj z))];refine Az ?_;refine ⟨_,rfl,_,rfl,kp,due,r,n,rfl,KA,fun H1 s1=>⟨rfl,_,rfl,?_⟩⟩;have h0:=hrest.resolve_left hk;rw [h0];exact Af (hR _ _ ⟨rfl,s1⟩)
  ·rintro σ H1 ⟨rfl,s1⟩;refine ⟨_,rfl,_,rfl,p,VC,dx,[],rfl,s1 _ _ hp,VT.cl,VT.nK,(by show 0 < 1000; decide),?_⟩;refine ⟨_,rfl,_,rfl,p,VC,dx,_,rfl,AB,VT.cl,VT.nB,Nat.lt_of_le_of_lt (At _ _ _) (by show 1 < 1000; decide),?_⟩;refine k _ (fun b o e hb=>?_) ⟨dx,AB⟩;rw [AF hb,AF hb];exact s1 _ _ e
inductive spVNumber (VC:Addr) (vs:List V) (H:Hp) (Q:VK) (_E:XK):Prop where
 | mk (p kp:Addr) (n:Nat) (z_0:vs=[.ref p]) (z_1:ValAt VC H p kp n) (z_2:Q (.int (n:Int)) H)
theorem KR:AK ["self"] ["self"] (defScope Ca):=fsc
theorem Ip (F:Fun K "number" "Value.number" Ca f fd) (VT:Gm K VC):AX P w K mg base CX0 1 f fd ["self"] (spVNumber VC):=by
 refine F.ok KR (fun vs H Q E h=>?_) (fun ac A outer s H vs Q E hr h=>?_)
 ·obtain ⟨p,kp,n,rfl,_⟩:=h;rfl
 ·obtain ⟨p,kp,n,rfl,⟨dx,hp⟩,k⟩:=h;refine ⟨_,AD (AM (Aj (pv 0) rfl)),?_⟩;exact ⟨_,rfl,p,VC,dx,_,_,rfl,hp,VT.cl,VT.nB,EJ _ _,k⟩
inductive spVKind (VC:Addr) (vs:List V) (H:Hp) (Q:VK) (_E:XK):Prop where
 | mk (p kp:Addr) (n:Nat) (z_0:vs=[.ref p]) (z_1:ValAt VC H p kp n) (z_2:Q (.ref kp) H)
theorem NH:AK ["self"] ["self"] (defScope Dg):=fsc
theorem Lv (F:Fun K "kind" "Value.kind" Dg f fd) (VT:Gm K VC):AX P w K mg base CX0 1 f fd ["self"] (spVKind VC):=by
 refine F.ok NH (fun vs H Q E h=>?_) (fun ac A outer s H vs Q E hr h=>?_)
 ·obtain ⟨p,kp,n,rfl,_⟩:=h;rfl
 ·obtain ⟨p,kp,n,rfl,⟨dx,hp⟩,k⟩:=h;refine ⟨_,AD (AM (Aj (pv 0) rfl)),?_⟩;exact ⟨_,rfl,p,VC,dx,_,_,rfl,hp,VT.cl,VT.nK,EI _ _,k⟩
inductive spVEq (C VC:Addr) (vs:List V) (H:Hp) (Q:VK) (_E:XK):Prop where
 | mk (a:Addr) (v:V) (ka:Addr) (na:Nat) (due:LN) (r:Str) (z_0:vs=[.ref a,v]) (z_1:ValAt VC H a ka na) (z_2:KindAt C H ka due r) (z_3:Asc due) (z_4:((∃ i,v=.int i/\Q (.bl false) H)\/∃ (b kb:Addr) (nb:Nat) (due':LN) (r':Str),v=.ref b/\ValAt VC H b kb nb/\KindAt C H kb due' r'/\Asc due'/\∀ H',Same H H'->Q (.bl (decide ((due=due'/\r=r')/\na=nb))) H'))
theorem PV:AK ["self", "other"] ["self", "other"] (defScope FK):=fsc
theorem OX (F:Fun K "__eq__" "Value.__eq__" FK f fd) (B:Bl mg) (T:CN K C) (VT:Gm K VC) (VI:KIsi K VC) (hI:W.kitOne K (.type "int") (.ref VC)=some false) (mV:mg "Value" = some (.ref VC))
  (GE:Mt P w K mg base C "__eq__" 2 ["self", "other"] (spEqK C)):AX P w K mg base CX0 3 f fd ["self", "other"] (spVEq C VC):=by
 obtain ⟨fE,dE,GE,mE,bE⟩:=GE.ex;refine F.ok PV (fun vs H Q E h=>?_) (fun ac A outer s H vs Q E hr h=>?_)
 ·obtain ⟨a,v,ka,na,due,r,rfl,_⟩:=h;rfl
 ·obtain ⟨a,v,ka,na,due,r,rfl,⟨dx,hp⟩,KA,h1,h⟩:=h
  refine ⟨_,AD (AM (BV (AV (F1 K rfl) rfl B.isi Gj (AA (pv 1) (AA (A5 (v:=.ref VC) rfl mV rfl) AC)))
   (BV (BA (K9 GE hr bE mE) (Aj (pv 0) rfl) (Aj (pv 1) rfl) (AS _))
    (Bj (BA A0 (Aj (pv 0) rfl) (Aj (pv 1) rfl) (AS _)))))),?_⟩
  rcases h with ⟨i,rfl,k⟩ | ⟨b,kb,nb,due',r',rfl,⟨dy,hq⟩,KB,h2,k⟩
  ·refine ⟨_,rfl,_,VC,_,false,rfl,.int i,hI,_,rfl,?_⟩;exact Af k
  ·refine ⟨_,rfl,_,VC,_,true,rfl,VI.ty hq,HZ K VC,_,rfl,?_⟩;refine Az ?_;obtain ⟨dka,d1,d2,hka⟩:=KA.ins;obtain ⟨dkb,e1,e2,hkb⟩:=KB.ins;refine ⟨_,rfl,a,VC,dx,_,_,rfl,hp,VT.cl,VT.nK,EI _ _,_,rfl,b,VC,dy,_,_,rfl,hq,VT.cl,VT.nK,EI _ _,?_⟩;refine ⟨ka,dka,_,kb,rfl,rfl,hka,.inl ⟨_,_,hkb⟩,ka,kb,due,r,rfl,KA,h1,.inr ⟨due',r',KB,h2,fun H1 s1=>⟨_,rfl,_,rfl,?_⟩⟩⟩;refine BS (fun e=>?_) (fun e=>?_)
   ·have e':=of_decide_eq_true e;refine ⟨_,rfl,a,VC,dx,_,_,rfl,s1 _ _ hp,VT.cl,VT.nB,EJ _ _,_,rfl,b,VC,dy,_,_,rfl,s1 _ _ hq,VT.cl,VT.nB,EJ _ _,rfl,?_⟩;have ev:decide (V.int (na:Int)=V.int (nb:Int))=decide ((due=due'/\r=r')/\na=nb):=decide_eq_decide.mpr ⟨fun z=>⟨e',by have:=V.int.inj z; omega⟩,fun z=>by rw [z.2]⟩;rw [ev];exact k _ s1
   ·have:=k _ s1;rw [decide_eq_false (fun z=>e (decide_eq_true z.1))] at this;exact this
structure JS (P:Program) (w:World) (K:FG) (mg:SV) (base:Heap) (C VC:Addr):Prop where
 VT:Gm K VC
 cls:mg "Value" = some (.ref VC)
 make:∃ f fd,Mk K VC f/\AX P w K mg base CX0 4 f fd ["self", "kind", "number"] (spVInit C VC)/\Binds K fd ["self", "kind", "number"] []
 eq:∃ f fd,AX P w K mg base CX0 3 f fd ["self", "other"] (spVEq C VC)/\IA K VC "__eq__" f/\Binds K fd ["self", "other"] []
 isi:KIsi K VC
 ne:W.findIn K (.ref VC) "__ne__" = some (some (.builtin "object.__ne__"))
 ni:W.subIn K (.type "int") (.ref VC)=some false
theorem DB {D kp dx:Addr} (hkp:H kp=none) (aw:H dx=none) (av:dx ≠ kp):Same H (upd (upd H dx (.own kp)) kp (.ins D dx [])):=by
 refine AG (AG (Same.refl _) aw) ?_;rw [AF (Ne.symm av)];exact hkp
theorem CO {Hc:Hp} {kp:Addr} (sN:Same H H') (hkp:H kp=none) (sc:∀ b o,H' b=some o->b ≠ kp->Hc b=some o):Same H Hc:=fun b o e=>sc b o (sN _ _ e) (AH e hkp)
theorem OY (x y:Nat):(x ||| y) + (x &&& y)=x + y:=by
 have h:=PyProof.Rows.bitOr_and (x:Int) (y:Int);rw [CW,Bp] at h;omega
theorem Hi (a b:Nat):a - (a &&& b)=a ^^^ (a &&& b):=by
 have h1:(a ^^^ (a &&& b)) ||| (a &&& b)=a:=by
  refine Nat.eq_of_testBit_eq fun k=>?_;simp only [Nat.testBit_and,Nat.testBit_xor,Nat.testBit_or];cases a.testBit k <;> cases b.testBit k <;> rfl
 have h2:(a ^^^ (a &&& b)) &&& (a &&& b)=0:=by
  refine Nat.eq_of_testBit_eq fun k=>?_;simp only [Nat.testBit_and,Nat.testBit_xor,Nat.zero_testBit];cases a.testBit k <;> cases b.testBit k <;> rfl
 have h3:=OY (a ^^^ (a &&& b)) (a &&& b);rw [h1,h2] at h3;omega
theorem NI (a b k:Nat):(a - (a &&& b)).testBit k=(a.testBit k && !b.testBit k):=by
 rw [Hi];simp only [Nat.testBit_and,Nat.testBit_xor];cases a.testBit k <;> cases b.testBit k <;> rfl
end
theorem DL {α β:Type} {F:α->β->Prop}:∀ {xs:List α} {ys:List β} {i:Nat} {a:α},Paired F xs ys->xs[i]?=some a->∃ b,ys[i]?=some b/\F a b
 | _,_,_,_,.nil,e=>by simp at e
 | _,_,0,_,.cons r _,e=>by simp at e; subst e; exact ⟨_,rfl,r⟩
 | _,_,i + 1,x,.cons _ t,e=>by
  obtain ⟨u,h1,h2⟩:=DL (i:=i) (a:=x) t (by simpa using e);exact ⟨u,by simpa using h1,h2⟩
theorem Lw {x:Addr} (s:Same H H') (h:H' x=none):H x=none:=by
 cases e:H x with
 | none=>rfl
 | some o=>rw [s _ _ e] at h; cases h
def A2 (due:LN) (n:Nat):List Str:=((AN due).filter fun m=>decide (m &&& n ≠ 0)).map (Bn (AT due))
theorem B3 (due:LN):(AN due).length <= due.length:=Nat.le_trans (length_filter_le _ _) (DK due)
section
inductive spVMarks (C VC:Addr) (vs:List V) (H:Hp) (Q:VK) (_E:XK):Prop where
 | mk (p kp:Addr) (n:Nat) (due:LN) (r:Str) (z_0:vs=[.ref p]) (z_1:ValAt VC H p kp n) (z_2:KindAt C H kp due r) (z_3:due.length <= 60) (z_4:∀ l H',Same H H'->H l=none->H' l=some (.lst ((A2 due n).map V.str))->Q (.ref l) H')
theorem Lx:AK ["self"] ["self"] (defScope C4):=fsc
theorem KS (F:Fun K "marks" "Value.marks" C4 f fd) (T:CN K C) (VT:Gm K VC) (GM:Mt P w K mg base C "marks" 2 ["self"] (spMarks C)):AX P w K mg base CX0 3 f fd ["self"] (spVMarks C VC):=by
 obtain ⟨fM,dM,GM,mM,bM⟩:=GM.ex;refine F.ok Lx (fun vs H Q E h=>?_) (fun ac A outer s H vs Q E hr h=>?_)
 ·obtain ⟨p,kp,n,due,r,rfl,_⟩:=h;rfl
 ·obtain ⟨p,kp,n,due,r,rfl,⟨dx,hp⟩,KA,h60,k⟩:=h;obtain ⟨dxk,d1,d2,ae⟩:=KA.ins
  refine ⟨_,AD (AM (Cz ["self"] [some 0] (by kernel_rfl) (by decide +kernel) (by kernel_rfl) (by kernel_rfl) rfl (A6 (Ao (Aj (pv 0) rfl) T.cl mM GM hr bM .nil AL))
   (fun _ _ _ _ _ _=>DH (AO Ct (Aa Cr (pv 1) (JN K rfl (pv 2) rfl)) AI (AS _))) (fun _ _ _ _ _ _=>pv 0))),?_⟩
  refine ⟨_,rfl,p,VC,dx,_,_,rfl,hp,VT.cl,VT.nK,EI _ _,kp,dxk,_,rfl,ae,(BY _ _ _),kp,due,r,rfl,KA,h60,fun l as H1 s1 hl ht=>?_⟩;have ap:=B3 due;have ar:as.length=(AN due).length:=by rw [ht.length]; unfold B2; rw [length_map]
  refine ⟨l,rfl,⟨_,SqL.of hl⟩,BR (K:=K) (a:=l) (xs:=as.map V.ref) (fun i ys H2=>ys=((((AN due).take i).filter fun m=>decide (m &&& n ≠ 0)).map (Bn (AT due))).map V.str/\H2=H1) ⟨rfl,rfl⟩ (fun i ys H2 _ ⟨_,e⟩=>e ▸ SqL.of hl) (fun i ys H2 ⟨e,_⟩=>?_) ?_ ?_⟩
  ·rw [e,length_map,length_map];have h3:(((AN due).take i).filter fun m=>decide (m &&& n ≠ 0)).length <= ((AN due).take i).length:=length_filter_le _ _;rw [length_take] at h3;omega
  ·rintro i v ys H2 hi ⟨rfl,rfl⟩;rw [getElem?_map] at hi;obtain ⟨b,hb,rfl⟩:=Option.map_eq_some_iff.mp hi
   obtain ⟨pr,hpr,ag⟩:∃ pr,(B2 due)[i]?=some pr/\H2 b=some (.tup [pr.1,pr.2]):=by
    exact DL ht hb
   unfold B2 at hpr;rw [getElem?_map] at hpr;obtain ⟨m,hm,rfl⟩:=Option.map_eq_some_iff.mp hpr;refine ⟨b,_,rfl,SqT.of ag,rfl,_,_,rfl,_,_,rfl,rfl,?_⟩;refine ⟨_,rfl,_,rfl,p,VC,dx,_,_,rfl,s1 _ _ hp,VT.cl,VT.nB,EJ _ _,_,_,rfl,rfl,rfl,_,rfl,?_⟩;have et:(((AN due).take (i + 1)).filter fun m=>decide (m &&& n ≠ 0))=((AN due).take i).filter (fun m=>decide (m &&& n ≠ 0))++(if decide (m &&& n ≠ 0) then [m] else []):=PySem.take_succ_filter (fun m=>decide (m &&& n ≠ 0)) _ i m hm
   have ed:(!decide (V.int (Builtin.bitAnd (m:Int) (n:Int))=V.int 0))=decide (m &&& n ≠ 0):=by
    rw [Bp];by_cases z:m &&& n=0
    ·rw [z]; rfl
    ·rw [decide_eq_true z,decide_eq_false (fun y=>z (by have:=V.int.inj y; omega))]; rfl
   show if (!decide (V.int (Builtin.bitAnd (m:Int) (n:Int))=V.int 0))=true then _ else _
   rw [ed];refine BS (fun hq=>?_) (fun hq=>?_)
   ·refine ⟨_,rfl,?_,rfl⟩;rw [et,if_pos hq,map_append,map_append];rfl
   ·refine ⟨?_,rfl⟩;rw [et,if_neg hq,append_nil]
  ·rintro ys H2 ⟨rfl,rfl⟩ q hq;have el:(AN due).take (as.map V.ref).length=AN due:=by rw [length_map,ar]; exact take_length
   rw [el];exact k q _ (AG s1 hq) (Lw s1 hq) AB
inductive spMarkBits (C:Addr) (vs:List V) (H:Hp) (Q:VK) (_E:XK):Prop where
 | mk (kp:Addr) (due:LN) (r:Str) (z_0:vs=[.ref kp]) (z_1:KindAt C H kp due r) (z_2:due.length <= 60) (z_3:∀ H',Same H H'->Q (.int (AZ (AN due):Nat)) H')
theorem Iq:AK ["kind"] ["kind"] (defScope ES):=fsc
theorem Hj (F:Fun K "mark_bits" "mark_bits" ES f fd) (T:CN K C) (GM:Mt P w K mg base C "marks" 2 ["self"] (spMarks C)) (GU:Fn P w K mg base "union_of" 1 ["numbers"] (spUnionOf K)):AX P w K mg base CX0 3 f fd ["kind"] (spMarkBits C):=by
 obtain ⟨fM,dM,GM,mM,bM⟩:=GM.ex;obtain ⟨fU,dU,GU,mU,kU,bU⟩:=GU.ex;refine F.ok Iq (fun vs H Q E h=>?_) (fun ac A outer s H vs Q E hr h=>?_)
 ·obtain ⟨kp,due,r,rfl,_⟩:=h;rfl
 ·obtain ⟨kp,due,r,rfl,KA,h60,k⟩:=h;obtain ⟨dxk,d1,d2,ae⟩:=KA.ins;have hr1:Room 1 _:=hr.mono (by decide);refine ⟨_,AD (AM (AJ GU hr1 rfl mU kU bU .nil AL (AA (Cz [] [] (by kernel_rfl) (by decide +kernel) (by kernel_rfl) (by kernel_rfl) rfl (A6 (Ao (pv 0) T.cl mM GM hr bM .nil AL)) (fun _ _ _ _ _ _=>Bd) (fun _ _ _ _ _ _=>pv 1)) AC))),?_⟩;refine ⟨_,rfl,kp,dxk,_,rfl,ae,(BY _ _ _),kp,due,r,rfl,KA,h60,fun l as H1 s1 hl ht=>?_⟩;have ap:=B3 due;have ar:as.length=(AN due).length:=by rw [ht.length]; unfold B2; rw [length_map]
  refine ⟨l,rfl,⟨_,SqL.of hl⟩,BR (K:=K) (a:=l) (xs:=as.map V.ref) (fun i ys H2=>ys=An ((AN due).take i)/\H2=H1) ⟨rfl,rfl⟩ (fun i ys H2 _ ⟨_,e⟩=>e ▸ SqL.of hl) (fun i ys H2 ⟨e,_⟩=>?_) ?_ ?_⟩
  ·rw [e]; unfold An; rw [length_map,length_take]; omega
  ·rintro i v ys H2 hi ⟨rfl,rfl⟩;rw [getElem?_map] at hi;obtain ⟨b,hb,rfl⟩:=Option.map_eq_some_iff.mp hi;obtain ⟨pr,hpr,ag⟩:∃ pr,(B2 due)[i]?=some pr/\H2 b=some (.tup [pr.1,pr.2]):=DL ht hb;unfold B2 at hpr;rw [getElem?_map] at hpr;obtain ⟨m,hm,rfl⟩:=Option.map_eq_some_iff.mp hpr;refine ⟨b,_,rfl,SqT.of ag,rfl,_,_,rfl,_,_,rfl,rfl,_,rfl,?_,rfl⟩;rw [take_add_one,hm,Option.toList_some];unfold An;rw [map_append];rfl
  ·rintro ys H2 ⟨rfl,rfl⟩ q hq;have el:(AN due).take (as.map V.ref).length=AN due:=by rw [length_map,ar]; exact take_length
   rw [el];exact ⟨q,AN due,rfl,SqL.of AB,k _ (AG s1 hq)⟩
inductive spVRest (C VC:Addr) (vs:List V) (H:Hp) (Q:VK) (_E:XK):Prop where
 | mk (p kp:Addr) (n:Nat) (due:LN) (r:Str) (z_0:vs=[.ref p]) (z_1:ValAt VC H p kp n) (z_2:KindAt C H kp due r) (z_3:due.length <= 60) (z_4:∀ H',Same H H'->Q (.int ((n - (n &&& AZ (AN due)):Nat):Int)) H')
theorem NJ:AK ["self"] ["self"] (defScope Dh):=fsc
theorem Ly (F:Fun K "rest" "Value.rest" Dh f fd) (VT:Gm K VC) (GB:Fn P w K mg base "mark_bits" 3 ["kind"] (spMarkBits C)):AX P w K mg base CX0 4 f fd ["self"] (spVRest C VC):=by
 obtain ⟨fB,dB,GB,mB,kB,bB⟩:=GB.ex;refine F.ok NJ (fun vs H Q E h=>?_) (fun ac A outer s H vs Q E hr h=>?_)
 ·obtain ⟨p,kp,n,due,r,rfl,_⟩:=h;rfl
 ·obtain ⟨p,kp,n,due,r,rfl,⟨dx,hp⟩,KA,h60,k⟩:=h;refine ⟨_,AD (AM (Aa Cr (Aj (pv 0) rfl) (Ff Kk (AJ GB hr rfl mB kB bB .nil AL (AA (Aj (pv 0) rfl) AC))))),?_⟩;refine ⟨_,rfl,p,VC,dx,_,_,rfl,hp,VT.cl,VT.nB,EJ _ _,_,rfl,p,VC,dx,_,_,rfl,hp,VT.cl,VT.nK,EI _ _,kp,due,r,rfl,KA,h60,fun H1 s1=>⟨_,rfl,_,_,rfl,rfl,?_⟩⟩;show Q (V.int (Builtin.bitAnd (n:Int) (Builtin.bitNot ((AZ (AN due):Nat):Int)))) H1;rw [FD];exact k H1 s1
end
theorem Ir (x m:Nat):(x &&& m) - ((x &&& m) &&& m)=0:=by
 have h:(x &&& m) &&& m=x &&& m:=by
  refine Nat.eq_of_testBit_eq fun k=>?_;simp only [Nat.testBit_and];cases x.testBit k <;> cases m.testBit k <;> rfl
 omega
section
inductive spNumberIn (vs:List V) (H:Hp) (Q:VK) (_E:XK):Prop where
 | mk (d:Addr) (a b:Int) (m:Nat) (r:Str) (z_0:vs=[.ref d,.int (m:Int),.str r]) (z_1:H d=some (.lst [.int a,.int b])) (z_2:∀ (n:Nat) H',n < 2 ^ 40->(r = "keep" \/ n - (n &&& m)=0)->SameX d H H'->Q (.int (n:Int)) H')
theorem scNumberIn:AK ["_law_dice", "_law_known", "_law_way", "_law_number"] ["_law_dice", "_law_known", "_law_way"] (defScope Cd):=fsc
theorem Bw {d:Addr} {x y x' y':Int} (h:H d=some (.lst [.int x,.int y])):SameX d H (upd H d (.lst [.int x',.int y'])):=⟨fun b o e hb=>by rw [AF hb]; exact e,⟨x',y',AB⟩⟩
theorem Hk (F:Fun K "_law_number_in" "_law_number_in" Cd f fd) (GR:Fn P w K mg base "_law_roll" 2 ["_law_dice", "_law_many"] spRoll):AX P w K mg base CX0 3 f fd ["_law_dice", "_law_known", "_law_way"] spNumberIn:=by
 obtain ⟨fR,dR,GR,mR,kR,bR⟩:=GR.ex;refine F.ok scNumberIn (fun vs H Q E h=>?_) (fun ac A outer s H vs Q E hr h=>?_)
 ·obtain ⟨d,a,b,m,r,rfl,_⟩:=h;rfl
 ·obtain ⟨d,a,b,m,r,rfl,hd,k⟩:=h
  refine ⟨_,AE (Ac (i:=3) scNumberIn.nd rfl (Or.inl rfl) (Aa Cr (AJ GR hr rfl mR kR bR .nil AL (AA (pv 0) (AA (Aa Hz AI AI) AC))) (pv 1)))
   (Ax (Ag (PW.pt (Cp (AO A0 (pv 2) Ae (AS _)) (B4 (AO A0 (AJ GR hr rfl mR kR bR .nil AL (AA (pv 0) (AA AI AC))) AI (AS _)))))
     (AD (Ac (i:=3) scNumberIn.nd rfl (Or.inl rfl) (Aa Gz (pv 3) (AJ GR hr rfl mR kR bR .nil AL (AA (pv 0) (AA AI AC)))))) AU)
   (AD (AM (pv 3)))),?_⟩
  refine ⟨_,rfl,_,_,rfl,rfl,⟨by decide,by decide,by decide⟩,d,a,b,_,rfl,hd,by decide,by decide,fun x a1 b1 hx0 hx1=>?_⟩;refine ⟨_,rfl,_,_,rfl,rfl,?_⟩;obtain ⟨x,rfl⟩:∃ x':Nat,x=(x':Int):=⟨x.toNat,by omega⟩
  have hx1':x < 2 ^ 21:=by
   have:(x:Int) < 2 ^ (21:Int).toNat:=hx1;have e:(2:Int) ^ (21:Int).toNat=2097152:=by decide
   rw [e] at this;have e2:(2:Nat) ^ 21=2097152:=by decide
   omega
  have s1:SameX d H (upd H d (.lst [.int a1,.int b1])):=Bw hd;have ea:(fun i j=>V.int (Builtin.bitAnd i j)) (x:Int) (m:Int)=V.int ((x &&& m:Nat):Int):=congrArg V.int (Bp _ _);rw [ea];have hle:x &&& m <= x:=Nat.and_le_left;refine ⟨fun σ H1=>∃ n:Nat,σ=[some (.ref d),some (.int (m:Int)),some (.str r),some (.int (n:Int))]/\n < 2 ^ 40/\(r = "keep" \/ n - (n &&& m)=0)/\SameX d H H1,fun R hR=>?_,?_⟩
  ·have g1:x &&& m < 2 ^ 40:=by
    have:(2:Nat) ^ 21 < 2 ^ 40:=by decide
    omega
   have stop:∀ H1,SameX d H H1->R [some (.ref d),some (.int (m:Int)),some (.str r),some (.int ((x &&& m:Nat):Int))] H1:=fun H1 sx=>hR _ _ ⟨_,rfl,g1,.inr (Ir x m),sx⟩;refine ⟨_,rfl,rfl,_,rfl,?_⟩;by_cases hk:r = "keep"
   ·rw [decide_eq_true (show V.str r=V.str "keep" by rw [hk])];refine Az ?_;refine ⟨_,rfl,d,a1,b1,3,rfl,AB,by decide,by decide,fun y a2 b2 hy0 hy1=>?_⟩;have s2:=s1.trans (Bw (x':=a2) (y':=b2) AB);refine ⟨rfl,_,rfl,?_⟩;refine BS (fun hc=>?_) (fun hc=>stop _ s2);refine ⟨_,rfl,_,rfl,d,a2,b2,256,rfl,AB,by decide,by decide,fun z a3 b3 hz0 hz1=>?_⟩;obtain ⟨z,rfl⟩:∃ z':Nat,z=(z':Int):=⟨z.toNat,by omega⟩;refine ⟨_,_,rfl,rfl,?_⟩;have eo:(fun i j=>V.int (Builtin.bitOr i j)) ((x &&& m:Nat):Int) (z:Int)=V.int (((x &&& m) ||| z:Nat):Int):=congrArg V.int (CW _ _);refine hR _ _ ⟨(x &&& m) ||| z,?_,?_,.inl hk,s2.trans (Bw AB)⟩
    ·show [some (V.ref d),some (V.int (m:Int)),some (V.str r),some ((fun i j=>V.int (Builtin.bitOr i j)) ((x &&& m:Nat):Int) (z:Int))]=_;rw [eo]
    ·refine Nat.or_lt_two_pow g1 ?_;have:(256:Nat) < 2 ^ 40:=by decide
     omega
   ·rw [decide_eq_false (show ¬ V.str r=V.str "keep" from fun z=>hk (V.str.inj z))];exact Af (Af (stop _ s1))
  ·rintro σ H1 ⟨n,rfl,h1,h2,sx⟩;exact ⟨_,rfl,k n H1 h1 h2 sx⟩
end
end Mk
end
section
namespace Mk
open PySem L2 MK PySem.NumText
def Cn (c:Nat):Bool:=decide (48 <= c) && decide (c <= 57)
theorem KU (lo hi:Nat) (x y:Str) (hx:x.cps.toList=[lo]) (hy:y.cps.toList=[hi]) (c:Nat):(if (!decide ((⟨#[c]⟩:Str).cps.toList < x.cps.toList))=true then (!decide (y.cps.toList < (⟨#[c]⟩:Str).cps.toList)) else false)=(decide (lo <= c) && decide (c <= hi)):=by
 rw [hx,hy];show (if (!decide ([c] < [lo]))=true then !decide ([hi] < [c]) else false)=_
 have e1:decide ([c] < [lo])=decide (c < lo):=by
  rw [Bool.eq_iff_iff,decide_eq_true_eq,decide_eq_true_eq,cons_lt_cons_iff];simp
 have e2:decide ([hi] < [c])=decide (hi < c):=by
  rw [Bool.eq_iff_iff,decide_eq_true_eq,decide_eq_true_eq,cons_lt_cons_iff];simp
 rw [e1,e2];by_cases h1:c < lo <;> by_cases h2:hi < c <;> simp [h1,h2] <;> omega
section
def Nk (x:Str):Prop:=x.cps.toList.all Cn=true/\(x = "0" \/ (x.cps.toList.head? ≠ some 48/\digitsVal x.cps.toList < 1099511627776))
inductive spFig (vs:List V) (H:Hp) (Q:VK) (_E:XK):Prop where
 | mk (x:Str) (b:Bool) (z_0:vs=[.str x]) (z_1:x.cps.all (· < 128)=true) (z_2:0 < x.length) (z_3:x.length <= 200) (z_4:((b=false/\x.cps.toList.all Cn=false)\/(b=true/\Nk x))) (z_5:∀ H',Same H H'->Q (.bl b) H')
theorem PX:AK ["text"] ["text"] (defScope Di):=fsc
theorem OZ (F:Fun K "is_figures" "is_figures" Di f fd) (B:Bl mg) (GN:Fn P w K mg base "is_number" 2 ["thing"] spIsNumber):AX P w K mg base CX0 3 f fd ["text"] spFig:=by
 obtain ⟨fN,dN,GN,mN,kN,bN⟩:=GN.ex;refine F.ok PX (fun vs H Q E h=>?_) (fun ac A outer s H vs Q E hr h=>?_)
 ·obtain ⟨x,b,rfl,_⟩:=h;rfl
 ·obtain ⟨x,b,rfl,ha,h0,h60,h,k⟩:=h
  refine ⟨_,AE (Ag (PW.pt (Dv (AO A0 (AV BW rfl B.len PySem.boot_len (AA (pv 0) AC)) AI (AS _)) (CP (BH (Av (AV (FC rfl) rfl B.all Ie (AA (BX [] [] (by kernel_rfl) (by decide +kernel) (by kernel_rfl) rfl (K1 (pv 0)) (fun _ _ _ _ _ _=>Bd) (fun _ _ _ _ _ _=>Dy Bs Bs Ae (pv 0) Ae)) AC))))))) (AD (AM Ei)) AU)
   (AE (Ag (AO A0 (BF Kq (pv 0) AI (fun _ _=>rfl)) Ae (AS _)) (AD (AM (BA A0 (pv 0) Ae (AS _)))) AU)
   (AD (AM (AJ GN hr rfl mN kN bN .nil AL (AA (BB DQ rfl B.int Ig (AA (pv 0) AC)) AC))))),?_⟩
  refine ⟨_,rfl,x,rfl,Nat.le_of_lt (AQ (by omega)),rfl,_,rfl,?_⟩;rw [decide_eq_false (show ¬ V.int (x.length:Int)=V.int 0 from fun z=>by have:=V.int.inj z; omega)];refine Af ?_;have hlx:x.cps.toList.length=x.length:=by rw [Array.length_toList]; rfl
  refine ⟨_,rfl,x,rfl,ha,HI (x:=x) (fun i ys H2=>H2=H/\ys=(x.cps.toList.take i).map fun c=>V.bl (Cn c)) ⟨rfl,rfl⟩ (fun i ys H2 ⟨_,e⟩=>?_) ?_ ?_⟩
  ·rw [e,length_map,length_take];omega
  ·rintro i c ys H2 hc ⟨rfl,rfl⟩;refine ⟨_,rfl,_,_,rfl,rfl,_,rfl,?_⟩
   have fin:∀ b,b=Cn c->(H2=H2/\(x.cps.toList.take i).map (fun c=>V.bl (Cn c))++[V.bl b]=(x.cps.toList.take (i + 1)).map fun c=>V.bl (Cn c)):=fun b hb=>by
    refine ⟨rfl,?_⟩;have hc':x.cps.toList[i]?=some c:=by rw [Array.getElem?_toList]; exact hc
    rw [take_add_one,hc',map_append,hb];rfl
   have hu:=KU 48 57 "0" "9" (by decide +kernel) (by decide +kernel) c;refine BS (fun h3=>?_) (fun h3=>?_)
   ·rw [if_pos h3] at hu;exact ⟨_,_,rfl,rfl,fin _ hu⟩
   ·rw [if_neg h3] at hu;exact fin _ hu
  rintro ys H2 ⟨rfl,rfl⟩ p hp;have el:x.cps.toList.take x.cps.size=x.cps.toList:=take_of_length_le (by rw [Array.length_toList]; exact Nat.le_refl _);have sp:=AG (Same.refl _) hp (o:=HO.lst ((x.cps.toList.take x.cps.size).map fun c=>V.bl (Cn c)));refine ⟨p,x.cps.toList.map Cn,rfl,SqL.of (by rw [AB,el,map_map]; rfl),_,rfl,?_⟩;rw [show (x.cps.toList.map Cn).all id=x.cps.toList.all Cn by rw [all_map]; rfl];rcases h with ⟨rfl,hno⟩ | ⟨rfl,az,hv⟩
  ·rw [hno];exact Az (k _ sp)
  ·rw [az];refine Af ?_
   obtain ⟨c,cs,ec⟩:∃ c cs,x.cps.toList=c :: cs:=by
    cases e:x.cps.toList with
    | nil=>rw [e] at hlx; simp at hlx; omega
    | cons c cs=>exact ⟨c,cs,rfl⟩
   refine ⟨_,rfl,x,0,c,rfl,rfl,Nat.le_of_lt (AQ (by omega)),(show atI _ ((0:Nat):Int)=_ from Bo (by rw [ec]; rfl)),rfl,_,rfl,?_⟩;rcases hv with rfl | ⟨hh,hv⟩
   ·have e0:("0" : Str).cps.toList=[48]:=by decide +kernel
    rw [e0] at ec;cases ec;rw [decide_eq_true (show V.str ⟨#[48]⟩=V.str "0" by decide +kernel)];refine Az ⟨_,rfl,rfl,?_⟩;rw [decide_eq_true (show V.str "0" = V.str "0" from rfl)];exact k _ sp
   ·rw [decide_eq_false (show ¬ V.str ⟨#[c]⟩=V.str "0" from fun z=>hh (by
     have:=V.str.inj z;have e1:=congrArg (fun z:Str=>z.cps.toList) this;have e0:("0" : Str).cps.toList=[48]:=by decide +kernel
     rw [e0] at e1;have e2:c=48:=by injection e1
     rw [ec,e2]
     rfl))]
    refine Af ?_
    have hd:AllDigits x.cps.toList:=fun c hc=>by
     have:=List.all_eq_true.mp az c hc;unfold Cn at this;rw [Bool.and_eq_true,decide_eq_true_eq,decide_eq_true_eq] at this;exact this
    refine ⟨_,rfl,x,_,rfl,by omega,intText_digits hd (by rw [ec]; simp) (by omega),digitsVal x.cps.toList,rfl,by omega,k _ sp⟩
inductive spLet (vs:List V) (H:Hp) (Q:VK) (_E:XK):Prop where
 | mk (x:Str) (z_0:vs=[.str x]) (z_1:0 < x.length) (z_2:x.length <= 200) (z_3:(∀ c ∈ x.cps.toList,c < 97)) (z_4:Q (.bl false) H)
theorem PY:AK ["thing"] ["thing"] (defScope EY):=fsc
theorem Oa (F:Fun K "is_letter" "is_letter" EY f fd) (B:Bl mg):AX P w K mg base CX0 1 f fd ["thing"] spLet:=by
 refine F.ok PY (fun vs H Q E h=>?_) (fun ac A outer s H vs Q E hr h=>?_)
 ·obtain ⟨x,rfl,_⟩:=h;rfl
 ·obtain ⟨x,rfl,h0,h60,hs,k⟩:=h;refine ⟨_,AD (AM (BV (Bf K rfl rfl B.isi rfl B.str Do (pv 0)) (BV (BA A0 (AV BW rfl B.len PySem.boot_len (AA (pv 0) AC)) AI (AS _)) (Bj (Dy Bs Bs Ae (pv 0) Ae))))),?_⟩;refine ⟨_,rfl,_,_,_,true,rfl,.str x,rfl,_,rfl,Az ?_⟩;refine ⟨_,rfl,x,rfl,Nat.le_of_lt (AQ (by omega)),rfl,_,rfl,?_⟩;have hlx:x.cps.toList.length=x.length:=by rw [Array.length_toList]; rfl
  refine BS (fun h1=>?_) (fun h1=>k)
  obtain ⟨c,ec⟩:∃ c,x.cps.toList=[c]:=by
   have e1:x.length=1:=by have:=V.int.inj (of_decide_eq_true h1); omega
   rw [e1] at hlx;exact List.length_eq_one_iff.mp hlx
  have hc:=hs c (by rw [ec]; exact mem_singleton.mpr rfl);refine ⟨_,rfl,_,_,rfl,rfl,_,rfl,?_⟩;have ea:("a" : Str).cps.toList=[97]:=by decide +kernel
  rw [ec,ea,show decide ([c] < [97])=true from decide_eq_true (by rw [cons_lt_cons_iff]; exact .inl hc)];exact Af k
end
theorem BE (x:Str):x.cps.toList.length=x.length:=by rw [Array.length_toList]; rfl
theorem FV (z:Str) {a b:Nat} (hab:a <= b) (hb:b <= z.length):(Txt.slice z (some (a:Int)) (some (b:Int))).cps.toList=(z.cps.toList.drop a).take (b - a):=by
 unfold Txt.slice;split
 ·rename_i h;rw [StrLaws.strSliceIndices_plain hab hb,length_map,List.length_range] at h
  have e:b - a=z.length:=by
   simp only [beq_self_eq_true,Bool.true_and,beq_iff_eq] at h;exact h
  have ea:a=0:=by omega
  subst ea;rw [List.drop_zero,take_of_length_le (by rw [BE]; omega)]
 ·show (List.filterMap _ _).toArray.toList=_;rw [List.toList_toArray,StrLaws.sliced_plain z hab hb]
def NK (x:Str):Prop:=Bq x=true\/(Bq x=false/\Nk x)
def NL (x:Str):Prop:=Bq x=false/\x.cps.toList.all Cn=false
section
inductive spPart (vs:List V) (H:Hp) (Q:VK) (_E:XK):Prop where
 | mk (x:Str) (b:Bool) (z_0:vs=[.str x,.bl false]) (z_1:x.cps.all (· < 128)=true) (z_2:0 < x.length) (z_3:x.length <= 200) (z_4:((b=false/\NL x)\/(b=true/\NK x))) (z_5:∀ H',Same H H'->Q (.bl b) H')
theorem Ob:AK ["text", "lettered"] ["text", "lettered"] (defScope Gg):=fsc
theorem NM (F:Fun K "is_part" "is_part" Gg f fd) (GN:Fn P w K mg base "is_name" 1 ["thing"] spIsName) (GF:Fn P w K mg base "is_figures" 3 ["text"] spFig):AX P w K mg base CX0 4 f fd ["text", "lettered"] spPart:=by
 obtain ⟨fN,dN,GN,mN,kN,bN⟩:=GN.ex;obtain ⟨fF,dF,GF,mF,kF,bF⟩:=GF.ex;refine F.ok Ob (fun vs H Q E h=>?_) (fun ac A outer s H vs Q E hr h=>?_)
 ·obtain ⟨x,b,rfl,_⟩:=h;rfl
 ·obtain ⟨x,b,rfl,ha,h0,h60,h,k⟩:=h;have hr1:Room 1 _:=hr.mono (by decide);have pn:∀ {X:Cx} {e:Expr},PE X e (fun _ _ _=>False):=fun {X e} _ _ _ _ _ _ h=>h.elim;refine ⟨_,AD (AM (Nb (AJ GN hr1 rfl mN kN bN .nil AL (AA (pv 0) AC)) (Nb (AJ GF hr rfl mF kF bF .nil AL (AA (pv 0) AC)) (Bj (BV (pv 1) (Bj pn)))))),?_⟩;refine ⟨_,rfl,x,rfl,ha,by omega,fun H1 s1=>⟨_,rfl,?_⟩⟩;rcases h with ⟨rfl,hn,hd⟩ | ⟨rfl,hn | ⟨hn,hf⟩⟩
  ·rw [hn];refine Af ⟨_,rfl,x,false,rfl,ha,h0,h60,.inl ⟨rfl,hd⟩,fun H2 s2=>⟨_,rfl,Af ⟨_,rfl,_,rfl,Af (k _ (s1.trans s2))⟩⟩⟩
  ·rw [hn];exact Az (k _ s1)
  ·rw [hn];exact Af ⟨_,rfl,x,true,rfl,ha,h0,h60,.inr ⟨rfl,hf⟩,fun H2 s2=>⟨_,rfl,Az (k _ (s1.trans s2))⟩⟩
structure PtAt (z:Str) (a n:Nat):Prop where
 le:a + n <= z.length
 ok:∀ k,0 < k->k <= n->NK (Txt.slice z (some (a:Int)) (some ((a + k:Nat):Int)))
 no:a + n < z.length->NL (Txt.slice z (some (a:Int)) (some ((a + n + 1:Nat):Int)))
theorem KW {z:Str} {a b:Nat} (hab:a <= b) (hb:b <= z.length) (h:z.cps.all (· < 128)=true):(Txt.slice z (some (a:Int)) (some (b:Int))).cps.all (· < 128)=true:=by
 rw [← Array.all_toList] at h ⊢;rw [FV z hab hb];exact List.all_eq_true.mpr fun c hc=>List.all_eq_true.mp h c (List.mem_of_mem_drop (mem_of_mem_take hc))
theorem KY {z:Str} {a b:Nat} (hab:a <= b) (hb:b <= z.length):(Txt.slice z (some (a:Int)) (some (b:Int))).length=b - a:=by
 rw [← BE,FV z hab hb,length_take,List.length_drop,BE];omega
inductive spPE (vs:List V) (H:Hp) (Q:VK) (_E:XK):Prop where
 | mk (z:Str) (a n:Nat) (z_0:vs=[.str z,.int (a:Int),.bl false]) (z_1:z.cps.all (· < 128)=true) (z_2:z.length <= 200) (z_3:PtAt z a n) (z_4:∀ H',Same H H'->Q (.int ((a + n:Nat):Int)) H')
theorem scPE:AK ["text", "at", "lettered", "end"] ["text", "at", "lettered"] (defScope FM):=fsc
theorem NN (F:Fun K "part_end" "part_end" FM f fd) (B:Bl mg) (GP:Fn P w K mg base "is_part" 4 ["text", "lettered"] spPart):AX P w K mg base CX0 5 f fd ["text", "at", "lettered"] spPE:=by
 obtain ⟨fP,dP,GP,mP,kP,bP⟩:=GP.ex;refine F.ok scPE (fun vs H Q E h=>?_) (fun ac A outer s H vs Q E hr h=>?_)
 ·obtain ⟨z,a,n,rfl,_⟩:=h;rfl
 ·obtain ⟨z,a,n,rfl,ha,h60,PA,q⟩:=h
  refine ⟨_,AE (Ac (i:=3) scPE.nd rfl (Or.inl rfl) (pv 1))
   (AE (Dw PassesOwn.never (PW.pt (Cp (AO G0 (pv 3) (AV BW rfl B.len PySem.boot_len (AA (pv 0) AC)) (AS _)) (B4 (Av (AJ GP hr rfl mP kP bP .nil AL (AA (G4 LD (pv 0) (Eo (pv 1)) (Eo (Aa CS (pv 3) AI))) (AA (pv 2) AC))))))) (AD (Ht (i:=3) scPE.nd rfl (Or.inl rfl) AI (JA:OpR _ _ _))))
   (AD (AM (pv 3)))),?_⟩
  refine ⟨_,rfl,fun m σ H2=>∃ k:Nat,σ=[some (.str z),some (.int (a:Int)),some (.bl false),some (.int ((a + k:Nat):Int))]/\Same H H2/\k <= n/\m=n - k,⟨n,0,rfl,Same.refl _,Nat.zero_le _,rfl⟩,?_⟩;rintro m σ H2 ⟨k,rfl,s2,hk,rfl⟩;have hle:=PA.le;refine ⟨_,rfl,_,rfl,z,rfl,Nat.le_of_lt (AQ (by omega)),_,_,rfl,rfl,_,rfl,?_⟩;by_cases hz:a + k < z.length
  ·rw [decide_eq_true (show ((a + k:Nat):Int) < (z.length:Int) by omega)];refine Az ?_;have e1:((a + k:Nat):Int) + 1=((a + k + 1:Nat):Int):=by omega
   refine ⟨_,rfl,_,rfl,(a:Int),rfl,_,rfl,_,_,rfl,rfl,((a + k + 1:Nat):Int),congrArg V.int e1,z,rfl,Nat.le_of_lt (AQ (by omega)),_,rfl,?_⟩;have hl:=KY (z:=z) (a:=a) (b:=a + k + 1) (by omega) (by omega);have hs:=KW (z:=z) (a:=a) (b:=a + k + 1) (by omega) (by omega) ha;by_cases hkn:k < n
   ·have ok:=PA.ok (k + 1) (by omega) (by omega);rw [show a + (k + 1)=a + k + 1 by omega] at ok;refine ⟨_,true,rfl,hs,by omega,by omega,.inr ⟨rfl,ok⟩,fun H3 s3=>⟨_,rfl,Az ⟨fun σ H4=>σ=[some (.str z),some (.int (a:Int)),some (.bl false),some (.int ((a + (k + 1):Nat):Int))]/\Same H H4,fun σ' H' ⟨e,s'⟩=>⟨n - (k + 1),by omega,k + 1,e,s',by omega,rfl⟩,?_⟩⟩⟩;refine ⟨_,rfl,_,_,rfl,rfl,?_,s2.trans s3⟩;show [some (V.str z),some (V.int (a:Int)),some (V.bl false),some (V.int (((a + k:Nat):Int) + 1))]=_;rw [e1];rfl
   ·have e:k=n:=by omega
    subst e;have no:=PA.no hz;exact ⟨_,false,rfl,hs,by omega,by omega,.inl ⟨rfl,no⟩,fun H3 s3=>⟨_,rfl,Af ⟨_,rfl,q _ (s2.trans s3)⟩⟩⟩
  ·rw [decide_eq_false (show ¬ ((a + k:Nat):Int) < (z.length:Int) by omega)];have e:k=n:=by omega
   subst e;exact Af (Af ⟨_,rfl,q _ s2⟩)
end
structure Hl (K:FG) (DC:Addr):Prop where
 cl:Cls K DC
 nS:NoAttr K DC "steps"
 nW:NoAttr K DC "waiting"
 nP:NoAttr K DC "wants_part"
theorem Nl:¬ (("steps" : Str) = "wants_part"):=by decide +kernel
theorem Nm:¬ (("waiting" : Str) = "wants_part"):=by decide +kernel
theorem Nn:¬ (("waiting" : Str) = "steps"):=by decide +kernel
def rdL (ls lw:Addr) (wp:Bool):List (Str × V):=A1 "wants_part" (.bl wp) (A1 "waiting" (.ref lw) (A1 "steps" (.ref ls) []))
theorem Lz (ls lw:Addr) (wp:Bool):(rdL ls lw wp).lookup ("steps" : Str)=some (.ref ls):=by
 unfold rdL;rw [AR,if_neg Nl,AR,if_neg (Ne.symm Nn),AR,if_pos rfl]
theorem Hm (ls lw:Addr) (wp:Bool):(rdL ls lw wp).lookup ("waiting" : Str)=some (.ref lw):=by
 unfold rdL;rw [AR,if_neg Nm,AR,if_pos rfl]
theorem JT (ls lw:Addr) (wp:Bool):(rdL ls lw wp).lookup ("wants_part" : Str)=some (.bl wp):=by
 unfold rdL;rw [AR,if_pos rfl]
theorem Ef (ls lw:Addr) (wp:Bool) {m:Str} (h1:¬ m = "steps" := by decide +kernel) (h2:¬ m = "waiting" := by decide +kernel) (h3:¬ m = "wants_part" := by decide +kernel):(rdL ls lw wp).lookup m=none:=by
 unfold rdL;rw [AR,if_neg h3,AR,if_neg h2,AR,if_neg h1];rfl
theorem JU (ls lw:Addr) (wp b:Bool):A1 "wants_part" (.bl b) (rdL ls lw wp)=rdL ls lw b:=by
 unfold rdL;simp [A1,Nl,Nm,Ne.symm Nn]
structure RdAt (DC:Addr) (H:Hp) (p ls lw:Addr) (ss ws:List Str) (wp:Bool):Prop where
 ex:∃ dx,H p=some (.ins DC dx (rdL ls lw wp))
 hs:H ls=some (.lst (ss.map V.str))
 hw:H lw=some (.lst (ws.map V.str))
 ne:ls ≠ lw
def StR (p ls lw:Addr) (H H':Hp):Prop:=∀ b o,H b=some o->b ≠ p->b ≠ ls->b ≠ lw->H' b=some o
theorem StR.refl (p ls lw:Addr) (H:Hp):StR p ls lw H H:=fun _ _ e _ _ _=>e
theorem RdAt.np {DC:Addr} {p ls lw:Addr} {ss ws:List Str} {wp:Bool} (h:RdAt DC H p ls lw ss ws wp):ls ≠ p/\lw ≠ p:=by
 obtain ⟨dx,hp⟩:=h.ex;have h1:=h.hs;have h2:=h.hw;exact ⟨fun z=>(by rw [z,hp] at h1; cases h1),fun z=>(by rw [z,hp] at h2; cases h2)⟩
theorem RdAt.steps {DC:Addr} {p ls lw:Addr} {ss ws:List Str} {wp:Bool} (ss':List Str) (h:RdAt DC H p ls lw ss ws wp):RdAt DC (upd H ls (.lst (ss'.map V.str))) p ls lw ss' ws wp:=by
 obtain ⟨dx,hp⟩:=h.ex;exact ⟨⟨dx,by rw [AF (Ne.symm h.np.1)]; exact hp⟩,AB,by rw [AF (Ne.symm h.ne)]; exact h.hw,h.ne⟩
theorem RdAt.waits {DC:Addr} {p ls lw:Addr} {ss ws:List Str} {wp:Bool} (ws':List Str) (h:RdAt DC H p ls lw ss ws wp):RdAt DC (upd H lw (.lst (ws'.map V.str))) p ls lw ss ws' wp:=by
 obtain ⟨dx,hp⟩:=h.ex;exact ⟨⟨dx,by rw [AF (Ne.symm h.np.2)]; exact hp⟩,by rw [AF h.ne]; exact h.hs,AB,h.ne⟩
theorem RdAt.wants {DC:Addr} {p ls lw dx:Addr} {ss ws:List Str} {wp:Bool} (b:Bool) (h:RdAt DC H p ls lw ss ws wp):RdAt DC (upd H p (.ins DC dx (rdL ls lw b))) p ls lw ss ws b :=
 ⟨⟨dx,AB⟩,by rw [AF h.np.1]; exact h.hs,by rw [AF h.np.2]; exact h.hw,h.ne⟩
theorem JV (ls lw:Addr) (wp:Bool):(rdL ls lw wp).length < 1000:=by
 have h1:=At "wants_part" (.bl wp) (A1 "waiting" (.ref lw) (A1 "steps" (.ref ls) []));have h2:=At "waiting" (.ref lw) (A1 "steps" (.ref ls) []);have h3:=At "steps" (.ref ls) [];have h4:([]:List (Str × V)).length=0:=rfl;unfold rdL;omega
section
variable {DC bd:Addr}
inductive spTP (DC:Addr) (vs:List V) (H:Hp) (Q:VK) (_E:XK):Prop where
 | mk (p ls lw:Addr) (ss ws:List Str) (wp:Bool) (x:Str) (z_0:vs=[.ref p,.str x]) (z_1:RdAt DC H p ls lw ss ws wp) (z_2:ss.length <= 400) (z_3:∀ H',StR p ls lw H H'->RdAt DC H' p ls lw (ss++[x]) ws false->Q .non H')
theorem QM:AK ["self", "part"] ["self", "part"] (defScope Ba):=fsc
theorem PZ (F:Fun K "take_part" "Reading.take_part" Ba f fd) (DT:Hl K DC):AX P w K mg base CX0 1 f fd ["self", "part"] (spTP DC):=by
 refine F.ok QM (fun vs H Q E h=>?_) (fun ac A outer s H vs Q E hr h=>?_)
 ·obtain ⟨p,ls,lw,ss,ws,wp,x,rfl,_⟩:=h;rfl
 ·obtain ⟨p,ls,lw,ss,ws,wp,x,rfl,R,h100,q⟩:=h;obtain ⟨dx,hp⟩:=id R.ex;refine ⟨_,AE (A9 (Ci PySem.F.plainAttrs_list PySem.F.slot_list_append PySem.F.type_list_append BC (Aj (pv 0) rfl) (AA (pv 1) AC))) (AD (CC (pv 0) Ei rfl)),?_⟩;refine ⟨_,rfl,p,DC,dx,_,_,rfl,hp,DT.cl,DT.nS,Lz _ _ _,.inl ⟨rfl,_,SqL.of R.hs⟩,_,rfl,ls,_,_,rfl,rfl,R.hs,AQ (by rw [length_map]; omega),?_⟩;have R1:=R.steps (ss++[x]);rw [map_append] at R1;have e1:(upd H ls (.lst (ss.map V.str++[x].map V.str))) p=some (.ins DC dx (rdL ls lw wp)):=by rw [AF (Ne.symm R.np.1)]; exact hp
  refine ⟨_,rfl,p,DC,dx,_,rfl,e1,DT.cl,DT.nP,JV _ _ _,?_⟩;rw [JU];exact q _ (fun b o e n1 n2 n3=>by rw [AF n1,AF n2]; exact e) (R1.wants false)
inductive spRd0 (DC:Addr) (vs:List V) (H:Hp) (Q:VK) (_E:XK):Prop where
 | mk (p dx:Addr) (z_0:vs=[.ref p]) (z_1:H p=some (.ins DC dx [])) (z_2:∀ ls lw H',(∀ b o,H b=some o->b ≠ p->H' b=some o)->H ls=none->H lw=none->RdAt DC H' p ls lw [] [] true->Q .non H')
theorem Pa:AK ["self"] ["self"] (defScope Cb):=fsc
theorem Oc (F:Fun K "__init__" "Reading.__init__" Cb f fd) (DT:Hl K DC):AX P w K mg base CX0 1 f fd ["self"] (spRd0 DC):=by
 refine F.ok Pa (fun vs H Q E h=>?_) (fun ac A outer s H vs Q E hr h=>?_)
 ·obtain ⟨p,dx,rfl,_⟩:=h;rfl
 ·obtain ⟨p,dx,rfl,hp,q⟩:=h;refine ⟨_,AE (CC (pv 0) (A4 AC) rfl) (AE (CC (pv 0) (A4 AC) rfl) (AD (CC (pv 0) Ei rfl))),?_⟩;refine ⟨(by show 0 <= sizeLine; decide),fun ls hls=>?_⟩;have nls:p ≠ ls:=AH hp hls;refine ⟨_,rfl,p,DC,dx,_,rfl,by rw [AF nls]; exact hp,DT.cl,DT.nS,(by show 0 < 1000; decide),?_⟩;refine ⟨(by show 0 <= sizeLine; decide),fun lw hlw=>?_⟩;have nlp:p ≠ lw:=fun z=>by rw [← z,AB] at hlw; cases hlw
  have bi:(upd H ls (.lst [])) lw=none:=by rw [AF (Ne.symm nlp)] at hlw; exact hlw
  have nll:ls ≠ lw:=fun z=>by rw [← z,AB] at bi; cases bi
  have bj:H lw=none:=by rw [AF (Ne.symm nll)] at bi; exact bi
  refine ⟨_,rfl,p,DC,dx,_,rfl,by rw [AF nlp,AB],DT.cl,DT.nW,Nat.lt_of_le_of_lt (At _ _ _) (by show 0 + 1 < 1000; decide),?_⟩;refine ⟨_,rfl,p,DC,dx,_,rfl,AB,DT.cl,DT.nP,Nat.lt_of_le_of_lt (Nat.le_trans (At _ _ _) (Nat.succ_le_succ (At _ _ _))) (by show 0 + 1 + 1 < 1000; decide),?_⟩;refine q ls lw _ (fun b o e hb=>?_) hls bj ⟨⟨dx,AB⟩,?_,?_,nll⟩
  ·rw [AF hb,AF hb,AF (AH e bj),AF hb,AF (AH e hls)];exact e
  ·rw [AF (Ne.symm nls),AF (Ne.symm nls),AF nll,AF (Ne.symm nls),AB];rfl
  ·rw [AF (Ne.symm nlp),AF (Ne.symm nlp),AB];rfl
end
def DD:LK:=[((Sum.inr "(" : Key),.int 0),(Sum.inr "|", .int 1),(Sum.inr "^", .int 2),(Sum.inr "&", .int 3),(Sum.inr "~", .int 4)]
theorem bind_or:A7 DD (Sum.inr "|" : Key)=some (.int 1):=by decide +kernel
theorem Pb {DC p ls lw bd:Addr} {ss ws:List Str} {wp:Bool} {kvs:LK} (R:RdAt DC H p ls lw ss ws wp) (s:StR p ls lw H H') (h:Rd H bd (.dK kvs)):Rd H' bd (.dK kvs):=by
 obtain ⟨dx,hp⟩:=R.ex
 have ne:∀ {o:HO},H bd=some o->(∀ xs,o ≠ .lst xs)->(∀ a b c,o ≠ .ins a b c)->bd ≠ p/\bd ≠ ls/\bd ≠ lw:=fun {o} e h1 h2=>by
  refine ⟨fun z=>?_,fun z=>?_,fun z=>?_⟩
  ·rw [z,hp] at e;cases e;exact h2 _ _ _ rfl
  ·rw [z,R.hs] at e;cases e;exact h1 _ rfl
  ·rw [z,R.hw] at e;cases e;exact h1 _ rfl
 rcases h with h | ⟨o,h⟩
 ·obtain ⟨a,b,c⟩:=ne h (fun _ z=>nomatch z) (fun _ _ _ z=>nomatch z);exact .inl (s _ _ h a b c)
 ·obtain ⟨a,b,c⟩:=ne h (fun _ z=>nomatch z) (fun _ _ _ z=>nomatch z);exact .inr ⟨o,s _ _ h a b c⟩
abbrev BJ (n:Nat):List Str:=replicate n "|"
section
variable {DC bd:Addr}
inductive spSet (DC bd:Addr) (vs:List V) (H:Hp) (Q:VK) (_E:XK):Prop where
 | mk (p ls lw:Addr) (ss:List Str) (n:Nat) (wp:Bool) (z_0:vs=[.ref p,.int 1]) (z_1:RdAt DC H p ls lw ss (BJ n) wp) (z_2:ss.length + n <= 400) (z_3:Rd H bd (.dK DD)) (z_4:∀ H',StR p ls lw H H'->RdAt DC H' p ls lw (ss++BJ n) [] wp->Q .non H')
theorem Pc:AK ["self", "binding"] ["self", "binding"] (defScope Bz):=fsc
theorem Od (F:Fun K "settle" "Reading.settle" Bz f fd) (B:Bl mg) (DT:Hl K DC) (mB:mg "BINDING" = some (.ref bd)):AX P w K mg base CX0 1 f fd ["self", "binding"] (spSet DC bd):=by
 refine F.ok Pc (fun vs H Q E h=>?_) (fun ac A outer s H vs Q E hr h=>?_)
 ·obtain ⟨p,ls,lw,ss,n,wp,rfl,_⟩:=h;rfl
 ·obtain ⟨p,ls,lw,ss,n,wp,rfl,R,h100,hB,q⟩:=h;have hu:=Ck hr
  refine ⟨_,AD (Dw PassesOwn.never (PW.pt (Cp (AO Ez (AV (Aw K rfl) rfl B.len PySem.boot_len (AA (Aj (pv 0) rfl) AC)) AI (AS _)) (B4 (AO JE (BN hu (A5 (v:=.ref bd) rfl mB rfl) (BF (Aq K rfl) (Aj (pv 0) rfl) (Ff F8 AI) (fun _ _=>rfl)) (fun _ _=>rfl)) (pv 1) (AS _)))))
   (AD (A9 (Ci PySem.F.plainAttrs_list PySem.F.slot_list_append PySem.F.type_list_append BC (Aj (pv 0) rfl) (AA (GX PySem.F.plainAttrs_list PySem.F.slot_list_pop PySem.F.type_list_pop IJ (Aj (pv 0) rfl)) AC))))),?_⟩
  refine ⟨fun m σ H2=>σ=[some (.ref p),some (.int 1)]/\m <= n/\StR p ls lw H H2/\RdAt DC H2 p ls lw (ss++BJ (n - m)) (BJ m) wp,⟨n,rfl,Nat.le_refl _,StR.refl _ _ _ _,by rw [Nat.sub_self]; simpa using R⟩,?_⟩;rintro m σ H2 ⟨rfl,hm,s2,R2⟩;obtain ⟨dx,hp⟩:=id R2.ex;refine ⟨_,rfl,p,DC,dx,_,_,rfl,hp,DT.cl,DT.nW,Hm _ _ _,lw,_,rfl,.inl (SqL.of R2.hw),_,_,rfl,rfl,_,rfl,?_⟩;rw [length_map,length_replicate];cases m with
  | zero =>
   rw [decide_eq_false (show ¬ ((0:Nat):Int) > 0 by omega)];have hR:RdAt DC H2 p ls lw (ss++BJ n) [] wp:=R2;exact Af (Af (q _ s2 hR))
  | succ k =>
   rw [decide_eq_true (show ((k + 1:Nat):Int) > 0 by omega)];refine Az ?_
   have hat:atI ((BJ (k + 1)).map V.str) (-1)=some (V.str "|"):=by
    have e:(BJ (k + 1)).map V.str=replicate (k + 1) (V.str "|"):=map_replicate;rw [e];unfold atI
    have e2:ixN (replicate (k + 1) (V.str "|")).length (-1)=some k:=by
     rw [length_replicate];unfold ixN;simp;omega
    rw [e2];simp [List.getElem?_replicate]
   refine ⟨_,rfl,p,DC,dx,_,_,rfl,hp,DT.cl,DT.nW,Hm _ _ _,_,rfl,lw,_,-1,.str "|", rfl,rfl,SqL.of R2.hw,hat,bd,.int 1,rfl,.inl ⟨_,Sum.inr "|", Pb R s2 hB,rfl,bind_or.symm⟩,_,rfl,_,_,rfl,rfl,_,rfl,?_⟩;rw [decide_eq_true (show (1:Int) ≥ 1 by decide)];refine Az ⟨fun σ H3=>σ=[some (.ref p),some (.int 1)]/\StR p ls lw H H3/\RdAt DC H3 p ls lw (ss++BJ (n - k)) (BJ k) wp,fun σ' H' ⟨e,s',R'⟩=>⟨k,Nat.lt_succ_self _,e,by omega,s',R'⟩,?_⟩
   have ed:((BJ (k + 1)).map V.str).dropLast=(BJ k).map V.str:=by
    rw [map_replicate,map_replicate,List.dropLast_replicate];rfl
   have hlast:((BJ (k + 1)).map V.str)[((BJ (k + 1)).map V.str).length - 1]?=some (V.str "|"):=by
    rw [map_replicate,length_replicate,List.getElem?_replicate];simp
   have es:ss++BJ (n - (k + 1))++[("|" : Str)]=ss++BJ (n - k):=by
    rw [List.append_assoc,show n - k=(n - (k + 1)) + 1 by omega,BJ,BJ,List.replicate_succ']
   refine ⟨_,rfl,p,DC,dx,_,_,rfl,hp,DT.cl,DT.nS,Lz _ _ _,.inl ⟨rfl,_,SqL.of R2.hs⟩,_,rfl,p,DC,dx,_,_,rfl,hp,DT.cl,DT.nW,Hm _ _ _,.inl ⟨rfl,_,SqL.of R2.hw⟩,lw,_,.str "|", rfl,rfl,R2.hw,hlast,?_⟩;rw [ed];have R3:=R2.waits (BJ k);have R4:=R3.steps (ss++BJ (n - k));refine ⟨ls,_,_,rfl,rfl,R3.hs,AQ (by rw [length_map,length_append,length_replicate]; omega),rfl,fun b o e n1 n2 n3=>?_,?_⟩
   ·rw [AF n2,AF n3];exact s2 b o e n1 n2 n3
   ·rw [← es,map_append] at R4;rw [← es];exact R4
inductive spTB (DC bd:Addr) (vs:List V) (H:Hp) (Q:VK) (_E:XK):Prop where
 | mk (p ls lw:Addr) (ss:List Str) (n:Nat) (z_0:vs=[.ref p,.str "|"]) (z_1:RdAt DC H p ls lw ss (BJ n) false) (z_2:ss.length + n <= 390) (z_3:Rd H bd (.dK DD)) (z_4:∀ H',StR p ls lw H H'->RdAt DC H' p ls lw (ss++BJ n) (BJ 1) true->Q (.bl true) H')
theorem QN:AK ["self", "sign"] ["self", "sign"] (defScope BI):=fsc
theorem Pd {jn:Addr} (F:Fun K "take_between" "Reading.take_between" BI f fd) (DT:Hl K DC) (mB:mg "BINDING" = some (.ref bd)) (mJ:mg "JOINING" = some (.ref jn)) (hJ:∀ H,SqT K H jn [.str "&", .str "^", .str "|"]) (GS:Mt P w K mg base DC "settle" 1 ["self", "binding"] (spSet DC bd)) :
  AX P w K mg base CX0 2 f fd ["self", "sign"] (spTB DC bd):=by
 obtain ⟨fS,dS,GS,mS,bS⟩:=GS.ex;refine F.ok QN (fun vs H Q E h=>?_) (fun ac A outer s H vs Q E hr h=>?_)
 ·obtain ⟨p,ls,lw,ss,n,rfl,_⟩:=h;rfl
 ·obtain ⟨p,ls,lw,ss,n,rfl,R,h100,hB,q⟩:=h;have hu:=Ck hr;obtain ⟨dx,hp⟩:=id R.ex
  refine ⟨_,AE (Ag (AO GQ (pv 1) (A5 (v:=.ref jn) rfl mJ rfl) rfl) (AD AW) AU)
   (AE (A9 (B7 (pv 0) DT.cl mS GS hr bS .nil AL (AA (BN hu (A5 (v:=.ref bd) rfl mB rfl) (pv 1) (fun _ _=>rfl)) AC)))
   (AE (A9 (Ci PySem.F.plainAttrs_list PySem.F.slot_list_append PySem.F.type_list_append BC (Aj (pv 0) rfl) (AA (pv 1) AC)))
   (AE (CC (pv 0) Ei rfl)
   (AD (AM Ei))))),?_⟩
  have eJ:(if true=true then !inV (V.str "|") [V.str "&", V.str "^", V.str "|"] else inV (V.str "|") [V.str "&", V.str "^", V.str "|"])=false:=by decide +kernel
  refine ⟨_,rfl,jn,_,rfl,.inr (hJ H),rfl,rfl,_,rfl,?_⟩;rw [eJ];refine Af ?_;refine ⟨_,rfl,p,dx,_,rfl,hp,Ef _ _ _,_,rfl,bd,.int 1,rfl,.inl ⟨_,Sum.inr "|", hB,rfl,bind_or.symm⟩,p,ls,lw,ss,n,false,rfl,R,by omega,hB,fun H1 s1 R1=>?_⟩;obtain ⟨dx1,ah⟩:=id R1.ex;refine ⟨_,rfl,p,DC,dx1,_,_,rfl,ah,DT.cl,DT.nW,Hm _ _ _,.inl ⟨rfl,_,SqL.of R1.hw⟩,_,rfl,lw,_,_,rfl,rfl,R1.hw,AQ (by show 0 <= 1000; decide),?_⟩;have R2:RdAt DC (upd H1 lw (.lst (([]:List Str).map V.str++[V.str "|"]))) p ls lw (ss++BJ n) (BJ 1) false:=R1.waits (BJ 1);refine ⟨_,rfl,p,DC,dx1,_,rfl,by rw [AF (Ne.symm R1.np.2)]; exact ah,DT.cl,DT.nP,JV _ _ _,?_⟩;rw [JU];exact q _ (fun b o e n1 n2 n3=>by rw [AF n1,AF n3]; exact s1 b o e n1 n2 n3) (R2.wants true)
theorem QO:AK ["self", "sign"] ["self", "sign"] (defScope Bb):=fsc
theorem Pe (F:Fun K "take_sign" "Reading.take_sign" Bb f fd) (DT:Hl K DC) (GB:Mt P w K mg base DC "take_between" 2 ["self", "sign"] (spTB DC bd)):AX P w K mg base CX0 3 f fd ["self", "sign"] (spTB DC bd):=by
 obtain ⟨fB,dB,GB,mB,bB⟩:=GB.ex;refine F.ok QO (fun vs H Q E h=>?_) (fun ac A outer s H vs Q E hr h=>?_)
 ·obtain ⟨p,ls,lw,ss,n,rfl,_⟩:=h;rfl
 ·obtain ⟨p,ls,lw,ss,n,rfl,R,h100,hB,q⟩:=h;obtain ⟨dx,hp⟩:=id R.ex;have pn:∀ {X:Cx} {e:Expr},PE X e (fun _ _ _=>False):=fun {X e} _ _ _ _ _ _ h=>h.elim
  refine ⟨_,AE (Ag (AO A0 (pv 1) Ae (AS _)) (AD AW) AU)
   (AE (Ag (Av (Aj (pv 0) rfl)) (AD AW) AU)
   (AD (AM (Bh (AO A0 (pv 1) Ae (AS _)) pn (B7 (pv 0) DT.cl mB GB hr bB .nil AL (AA (pv 1) AC)))))),?_⟩
  refine ⟨_,rfl,rfl,_,rfl,?_⟩;rw [show decide (V.str "|" = V.str " ")=false by decide +kernel];refine Af ⟨_,rfl,p,DC,dx,_,_,rfl,hp,DT.cl,DT.nP,JT _ _ _,_,rfl,Af ?_⟩;refine ⟨_,rfl,rfl,_,rfl,?_⟩;rw [show decide (V.str "|" = V.str ")")=false by decide +kernel];exact Af ⟨_,rfl,p,dx,_,rfl,hp,Ef _ _ _,_,rfl,p,ls,lw,ss,n,rfl,R,h100,hB,q⟩
inductive spEnds (DC bd:Addr) (vs:List V) (H:Hp) (Q:VK) (_E:XK):Prop where
 | mk (p ls lw:Addr) (ss:List Str) (n:Nat) (z_0:vs=[.ref p]) (z_1:RdAt DC H p ls lw ss (BJ n) false) (z_2:ss.length + n <= 390) (z_3:Rd H bd (.dK DD)) (z_4:∀ H',StR p ls lw H H'->RdAt DC H' p ls lw (ss++BJ n) [] false->Q (.bl true) H')
theorem Oe:AK ["self"] ["self"] (defScope Cc):=fsc
theorem NO {tB:Tok} (F:Fun K "ends" "Reading.ends" Cc f fd) (B:Bl mg) (DT:Hl K DC) (mL:mg "LEAST_BINDING" = some (.int 1 tB)) (GS:Mt P w K mg base DC "settle" 1 ["self", "binding"] (spSet DC bd)):AX P w K mg base CX0 2 f fd ["self"] (spEnds DC bd):=by
 obtain ⟨fS,dS,GS,mS,bS⟩:=GS.ex;refine F.ok Oe (fun vs H Q E h=>?_) (fun ac A outer s H vs Q E hr h=>?_)
 ·obtain ⟨p,ls,lw,ss,n,rfl,_⟩:=h;rfl
 ·obtain ⟨p,ls,lw,ss,n,rfl,R,h100,hB,q⟩:=h;obtain ⟨dx,hp⟩:=id R.ex
  refine ⟨_,AE (A9 (B7 (pv 0) DT.cl mS GS hr bS .nil AL (AA (A5 (v:=.int 1) rfl mL ⟨tB,rfl⟩) AC)))
   (AD (AM (BV (Kc (Aj (pv 0) rfl)) (Bj (BA A0 (AV (Aw K rfl) rfl B.len PySem.boot_len (AA (Aj (pv 0) rfl) AC)) AI (AS _)))))),?_⟩
  refine ⟨_,rfl,p,dx,_,rfl,hp,Ef _ _ _,p,ls,lw,ss,n,false,rfl,R,by omega,hB,fun H1 s1 R1=>?_⟩;obtain ⟨dx1,ah⟩:=id R1.ex;refine ⟨_,rfl,p,DC,dx1,_,_,rfl,ah,DT.cl,DT.nP,JT _ _ _,_,rfl,_,rfl,Az ?_⟩;exact ⟨_,rfl,p,DC,dx1,_,_,rfl,ah,DT.cl,DT.nW,Hm _ _ _,lw,_,rfl,.inl (SqL.of R1.hw),rfl,q _ s1 R1⟩
end
theorem none_of {x:Addr} (s:Same H H') (h:H' x=none):H x=none:=by
 cases e:H x with
 | none=>rfl
 | some o=>rw [s _ _ e] at h; cases h
theorem NP {a:Addr} {o:HO} (s:Same H H') (h:Rd H a o):Rd H' a o:=by
 rcases h with h | ⟨o,h⟩
 ·exact .inl (s _ _ h)
 ·exact .inr ⟨o,s _ _ h⟩
theorem RdAt.same {DC:Addr} {p ls lw:Addr} {ss ws:List Str} {wp:Bool} (s:Same H H') (h:RdAt DC H p ls lw ss ws wp):RdAt DC H' p ls lw ss ws wp:=by
 obtain ⟨dx,hp⟩:=h.ex;exact ⟨⟨dx,s _ _ hp⟩,s _ _ h.hs,s _ _ h.hw,h.ne⟩
abbrev sl (z:Str) (a b:Nat):Str:=Txt.slice z (some (a:Int)) (some (b:Int))
inductive TxAt (z:Str):Nat->List Str->Prop
 | one (a n:Nat) (h:PtAt z a n) (hn:0 < n) (he:a + n=z.length):TxAt z a [sl z a (a + n)]
 | cons (a n:Nat) (ws:List Str) (h:PtAt z a n) (hn:0 < n) (hb:z.cps.toList[a + n]?=some 124) (r:TxAt z (a + n + 1) ws):TxAt z a (sl z a (a + n) :: ws)
def TxB (z:Str) (b:Nat) (ws:List Str):Prop:=(b=z.length/\ws=[])\/(z.cps.toList[b]?=some 124/\TxAt z (b + 1) ws)
def BP (S:List Str) (w:Str):List Str:=if S=[] then [w] else S++[w, "|"]
abbrev nB (S:List Str):Nat:=if S=[] then 0 else 1
theorem JW (S:List Str) (w:Str):S++[w]++BJ (nB S)=BP S w:=by
 unfold BP nB;by_cases h:S=[]
 ·rw [if_pos h,if_pos h,h];rfl
 ·rw [if_neg h,if_neg h,List.append_assoc];rfl
theorem NQ (S:List Str) (w:Str):BP S w ≠ []:=by
 unfold BP;split <;> simp
theorem Hn (S:List Str) (w:Str):(BP S w).length <= S.length + 2:=by
 unfold BP;split
 ·simp
 ·simp
theorem TxAt.lt {z:Str} {a:Nat} {ws:List Str} (h:TxAt z a ws):a < z.length:=by
 rcases h with ⟨_,n,h,hn,he⟩ | ⟨_,n,ws,h,hn,hb,r⟩
 ·omega
 ·have:=h.le;omega
inductive StA (DC:Addr) (z:Str) (T:List Str) (p ls lw:Addr) (H:Hp) (a:Nat):Prop
 | ahead (S rest:List Str) (R:RdAt DC H p ls lw S (BJ (nB S)) true) (t:TxAt z a rest) (e:rest.foldl BP S=T) (l:S.length <= 2 * a)
 | behind (S rest:List Str) (w:Str) (R:RdAt DC H p ls lw (S++[w]) (BJ (nB S)) false) (t:TxB z a rest) (e:rest.foldl BP (BP S w)=T) (l:S.length + 2 <= 2 * a) (h:a <= z.length)
theorem No (S:List Str):nB S <= 1:=by
 unfold nB;split <;> omega
theorem Of (S:List Str) (w:Str):nB (BP S w)=1:=if_neg (NQ S w)
inductive spSt (DC bd:Addr) (vs:List V) (H:Hp) (Q:VK) (_E:XK):Prop where
 | mk (z:Str) (ws:List Str) (z_0:vs=[.str z,.bl false]) (z_1:z.cps.all (· < 128)=true) (z_2:z.length <= 100) (z_3:TxAt z 0 ws) (z_4:Rd H bd (.dK DD)) (z_5:∀ l H',Same H H'->H' l=some (.lst ((ws.foldl BP []).map V.str))->Q (.ref l) H')
abbrev NSt:List Str:=["text", "lettered", "reading", "at", "end"]
theorem scSt:AK NSt ["text", "lettered"] (defScope B0):=fsc
structure Pf (P:Program) (w:World) (K:FG) (mg:SV) (base:Heap) (DC bd:Addr):Prop where
 T:Hl K DC
 cls:mg "Reading" = some (.ref DC)
 make:∃ f fd,Mk K DC f/\AX P w K mg base CX0 1 f fd ["self"] (spRd0 DC)/\Binds K fd ["self"] []
 tp:Mt P w K mg base DC "take_part" 1 ["self", "part"] (spTP DC)
 ts:Mt P w K mg base DC "take_sign" 3 ["self", "sign"] (spTB DC bd)
 en:Mt P w K mg base DC "ends" 2 ["self"] (spEnds DC bd)
section
variable {DC bd:Addr}
theorem Pg (F:Fun K "steps_of" "steps_of" B0 f fd) (B:Bl mg) (RO:Pf P w K mg base DC bd) (GE:Fn P w K mg base "part_end" 5 ["text", "at", "lettered"] spPE):AX P w K mg base CX0 6 f fd ["text", "lettered"] (spSt DC bd):=by
 obtain ⟨fE,dE,GE,mE,kE,bE⟩:=GE.ex;obtain ⟨fI,dI,MI,GI,bI⟩:=RO.make;obtain ⟨fT,dT,GT,mT,bT⟩:=RO.tp.ex;obtain ⟨fS,dS,GS,mS,bS⟩:=RO.ts.ex;obtain ⟨fN,dN,GN,mN,bN⟩:=RO.en.ex;have mC:=RO.cls;have DT:=RO.T;refine F.ok scSt (fun vs H Q E h=>?_) (fun ac A outer s H vs Q E hr h=>?_)
 ·obtain ⟨z,ws,rfl,_⟩:=h;rfl
 ·obtain ⟨z,ws,rfl,ha,h40,TX,hB,q⟩:=h;have hr1:Room 1 _:=hr.mono (by decide);have hr2:Room 2 _:=hr.mono (by decide);have hr3:Room 3 _:=hr.mono (by decide);have nd:=scSt.nd
  refine ⟨_,AE (Ag (BH (Av (Bf K rfl rfl B.isi rfl B.str Do (pv 0)))) (AD AW) AU)
   (AE (Ac (i:=2) nd rfl (Or.inl rfl) (Ko MI GI hr2 rfl mC bI .nil AL))
   (AE (Ac (i:=3) nd rfl (Or.inl rfl) AI)
   (Ax (Dw PassesOwn.never (AO G0 (pv 3) (AV BW rfl B.len PySem.boot_len (AA (pv 0) AC)) (AS _))
    (AE (Ac (i:=4) nd rfl (Or.inl rfl) (Bh (Av (Aj (pv 2) rfl)) (AJ GE hr rfl mE kE bE .nil AL (AA (pv 0) (AA (pv 3) (AA (pv 1) AC)))) (pv 3)))
    (AD (Ag (AO Ez (pv 4) (pv 3) (AS _))
     (AE (A9 (B7 (pv 2) DT.cl mT GT hr1 bT .nil AL (AA (G4 LD (pv 0) (Eo (pv 3)) (Eo (pv 4))) AC))) (AD (Ac (i:=3) nd rfl (Or.inl rfl) (pv 4))))
     (AD (Ag (Av (B7 (pv 2) DT.cl mS GS hr3 bS .nil AL (AA (BF Kq (pv 0) (pv 3) (fun _ _=>rfl)) AC))) (AD (Ht (i:=3) nd rfl (Or.inl rfl) AI (JA:OpR _ _ _))) (AD AW)))))))
   (AE (Ag (BH (Av (Ao (pv 2) DT.cl mN GN hr2 bN .nil AL))) (AD AW) AU)
   (AD (AM (Aj (pv 2) rfl))))))),?_⟩
  refine ⟨_,rfl,_,_,_,true,rfl,.str z,rfl,_,rfl,Af ?_⟩;intro p dx hp aw av;have sN:=DB (D:=DC) hp aw av;refine ⟨p,dx,rfl,AB,fun ls lw H1 s1 hls hlw R1=>⟨rfl,?_⟩⟩;have S1:Same H H1:=fun b o e=>s1 b o (sN _ _ e) (AH e hp);have hls0:H ls=none:=none_of sN hls;have bj:H lw=none:=none_of sN hlw;have old:∀ {H2 H3:Hp},Same H H2->StR p ls lw H2 H3->Same H H3:=fun {H2 H3} a b c o e=>b c o (a c o e) (AH e hp) (AH e hls0) (AH e bj);have rdS:∀ {H2:Hp},Same H H2->Rd H2 bd (.dK DD):=fun {H2} a=>NP a hB;refine ⟨fun σ H'=>(∃ v4,σ=[some (.str z),some (.bl false),some (.ref p),some (.int (z.length:Int)),v4])/\Same H H'/\∃ S w,RdAt DC H' p ls lw (S++[w]) (BJ (nB S)) false/\BP S w=ws.foldl BP []/\S.length <= 300,fun R hR=>?_,?_⟩
  ·refine ⟨fun m σ H2=>∃ a v4,σ=[some (.str z),some (.bl false),some (.ref p),some (.int ((a:Nat):Int)),v4]/\m=z.length - a/\Same H H2/\StA DC z (ws.foldl BP []) p ls lw H2 a,⟨z.length,0,none,rfl,rfl,S1,.ahead [] ws R1 TX rfl (Nat.zero_le _)⟩,?_⟩;rintro m σ H2 ⟨a,v4,rfl,rfl,S2,st⟩;refine ⟨_,rfl,_,rfl,z,rfl,Nat.le_of_lt (AQ (by omega)),_,_,rfl,rfl,_,rfl,?_⟩;rcases st with ⟨S,rest,R2,t,e,l⟩ | ⟨S,rest,w,R2,t,e,l,ar⟩
   ·have hlt:=t.lt;rw [decide_eq_true (show ((a:Nat):Int) < (z.length:Int) by omega)];refine Az ⟨fun σ H3=>∃ b v4,σ=[some (.str z),some (.bl false),some (.ref p),some (.int ((b:Nat):Int)),v4]/\z.length - b < z.length - a/\Same H H3/\StA DC z (ws.foldl BP []) p ls lw H3 b,fun σ' H' ⟨b,v,e1,e2,e3,e4⟩=>⟨z.length - b,e2,b,v,e1,rfl,e3,e4⟩,?_⟩;obtain ⟨dx2,ai⟩:=id R2.ex;refine ⟨_,rfl,p,DC,dx2,_,_,rfl,ai,DT.cl,DT.nP,JT _ _ _,_,rfl,Az ?_⟩
    have key:∃ n rest',PtAt z a n/\0 < n/\TxB z (a + n) rest'/\rest'.foldl BP (BP S (sl z a (a + n)))=ws.foldl BP []:=by
     rcases t with ⟨_,n,pt,hn,he⟩ | ⟨_,n,rest,pt,hn,hb,tr⟩
     ·exact ⟨n,[],pt,hn,.inl ⟨he,rfl⟩,e⟩
     ·exact ⟨n,rest,pt,hn,.inr ⟨hb,tr⟩,e⟩
    obtain ⟨n,rest',pt,hn,tb,e'⟩:=key;have hle:=pt.le;refine ⟨_,rfl,_,rfl,_,rfl,z,a,n,rfl,ha,by omega,pt,fun H3 s3=>?_⟩;refine ⟨_,rfl,_,rfl,_,_,rfl,rfl,_,rfl,?_⟩;rw [decide_eq_true (show ((a + n:Nat):Int) > ((a:Nat):Int) by omega)];refine Az ?_;have R3:=R2.same s3;refine ⟨_,rfl,p,dx2,_,rfl,s3 _ _ ai,Ef _ _ _,_,rfl,_,rfl,_,rfl,_,rfl,_,rfl,z,rfl,Nat.le_of_lt (AQ (by omega)),p,ls,lw,S,BJ (nB S),true,_,rfl,R3,by omega,fun H4 s4 R4=>?_⟩;exact ⟨_,rfl,a + n,_,rfl,by omega,old (S2.trans s3) s4,.behind S rest' _ R4 tb e' (by omega) hle⟩
   ·rcases t with ⟨ea,rfl⟩ | ⟨hc,tr⟩
    ·subst ea;rw [decide_eq_false (show ¬ ((z.length:Nat):Int) < (z.length:Int) by omega)];exact Af (hR _ _ ⟨⟨_,rfl⟩,S2,S,w,R2,e,by omega⟩)
    ·have hlt:a < z.length:=by
      have:=(List.getElem?_eq_some_iff.mp hc).1;rw [BE] at this;exact this
     rw [decide_eq_true (show ((a:Nat):Int) < (z.length:Int) by omega)];refine Az ⟨fun σ H3=>∃ b v4,σ=[some (.str z),some (.bl false),some (.ref p),some (.int ((b:Nat):Int)),v4]/\z.length - b < z.length - a/\Same H H3/\StA DC z (ws.foldl BP []) p ls lw H3 b,fun σ' H' ⟨b,v,e1,e2,e3,e4⟩=>⟨z.length - b,e2,b,v,e1,rfl,e3,e4⟩,?_⟩;obtain ⟨dx2,ai⟩:=id R2.ex;have h1:=No S;refine ⟨_,rfl,p,DC,dx2,_,_,rfl,ai,DT.cl,DT.nP,JT _ _ _,_,rfl,Af ⟨_,rfl,?_⟩⟩;refine ⟨_,rfl,_,rfl,_,_,rfl,rfl,_,rfl,?_⟩;rw [decide_eq_false (show ¬ ((a:Nat):Int) > ((a:Nat):Int) by omega)];refine Af ?_;have eb:(⟨#[124]⟩:Str) = "|" := by decide +kernel
     refine ⟨_,rfl,p,dx2,_,rfl,ai,Ef _ _ _,_,rfl,_,rfl,z,(a:Int),124,rfl,rfl,Nat.le_of_lt (AQ (by omega)),Bo hc,p,ls,lw,S++[w],nB S,?_,R2,by rw [length_append,length_singleton]; omega,rdS S2,fun H3 s3 R3=>⟨_,rfl,Az ?_⟩⟩
     ·rw [eb];rfl
     rw [JW] at R3;have R4:RdAt DC H3 p ls lw (BP S w) (BJ (nB (BP S w))) true:=by rw [Of]; exact R3
     have hl2:=Hn S w;refine ⟨_,rfl,_,_,rfl,rfl,a + 1,some (.int ((a:Nat):Int)),?_,by omega,old S2 s3,.ahead (BP S w) rest R4 tr e (by omega)⟩;show [some (V.str z),some (V.bl false),some (V.ref p),some (V.int (((a:Nat):Int) + 1)),some (V.int ((a:Nat):Int))]=_;rfl
  rintro σ H2 ⟨⟨v4,rfl⟩,S2,S,w,R2,eS,l80⟩;obtain ⟨dx2,ai⟩:=id R2.ex;have h1:=No S;refine ⟨_,rfl,p,dx2,_,rfl,ai,Ef _ _ _,p,ls,lw,_,_,rfl,R2,by rw [length_append,length_singleton]; omega,rdS S2,fun H3 s3 R3=>⟨_,rfl,Af ?_⟩⟩;obtain ⟨dx3,hp3⟩:=id R3.ex;refine ⟨_,rfl,p,DC,dx3,_,_,rfl,hp3,DT.cl,DT.nS,Lz _ _ _,q ls H3 (old S2 s3) ?_⟩;rw [← eS,← JW];exact R3.hs
end
def wv (due:LN) (x:Str):Nat:=if Bq x then look due x else digitsVal x.cps.toList
structure WdOk (due:LN) (x:Str):Prop where
 as:x.cps.all (· < 128)=true
 l0:0 < x.length
 l6:x.length <= 200
 sm:∀ c ∈ x.cps.toList,c < 97
 or:(Bq x=true/\x ∈ due.map (·.1))\/(Bq x=false/\AllDigits x.cps.toList)
theorem WdOk.nb {x:Str} (h:WdOk due x):x ≠ "|" /\ x ≠ "&" /\ x ≠ "^" /\ x ≠ "~" := by
 have key:∀ y:Str,Bq y=false->(∃ c ∈ y.cps.toList,¬ (48 <= c/\c <= 57))->x ≠ y:=fun y h1 ⟨c,hc,h2⟩ z=>by
  subst z;rcases h.or with ⟨a,_⟩ | ⟨_,b⟩
  ·rw [h1] at a;cases a
  ·exact h2 (b c hc)
 exact ⟨key _ (by decide +kernel) ⟨124,by decide +kernel,by decide⟩,key _ (by decide +kernel) ⟨38,by decide +kernel,by decide⟩,key _ (by decide +kernel) ⟨94,by decide +kernel,by decide⟩,key _ (by decide +kernel) ⟨126,by decide +kernel,by decide⟩⟩
section
variable {DC bd:Addr}
inductive spJn (vs:List V) (H:Hp) (Q:VK) (_E:XK):Prop where
 | mk (a b:Nat) (z_0:vs=[.str "|", .int (a:Int),.int (b:Int)]) (z_1:Q (.int ((a ||| b:Nat):Int)) H)
theorem QP:AK ["sign", "one", "other"] ["sign", "one", "other"] (defScope Gh):=fsc
theorem Ph (F:Fun K "joined" "joined" Gh f fd):AX P w K mg base CX0 1 f fd ["sign", "one", "other"] spJn:=by
 refine F.ok QP (fun vs H Q E h=>?_) (fun ac A outer s H vs Q E hr h=>?_)
 ·obtain ⟨a,b,rfl,_⟩:=h;rfl
 ·obtain ⟨a,b,rfl,q⟩:=h;refine ⟨_,AE (Ag (AO A0 (pv 0) Ae (AS _)) (AD AW) AU) (AE (Ag (AO A0 (pv 0) Ae (AS _)) (AD AW) AU) (AD (AM (Aa Gz (pv 1) (pv 2))))),?_⟩;refine ⟨_,rfl,rfl,_,rfl,?_⟩;rw [show decide (V.str "|" = V.str "&")=false by decide +kernel];refine Af ⟨_,rfl,rfl,_,rfl,?_⟩;rw [show decide (V.str "|" = V.str "^")=false by decide +kernel];refine Af ⟨_,rfl,_,rfl,_,_,rfl,rfl,?_⟩;show Q (V.int (Builtin.bitOr _ _)) H;rw [CW];exact q
inductive spPN (C:Addr) (vs:List V) (H:Hp) (Q:VK) (_E:XK):Prop where
 | mk (k t:Addr) (x:Str) (due:LN) (r:Str) (z_0:vs=[.ref k,.str x,.ref t]) (z_1:KindAt C H k due r) (z_2:WdOk due x) (z_3:∀ H',Same H H'->Q (.int (wv due x:Nat)) H')
theorem QQ:AK ["kind", "part", "table"] ["kind", "part", "table"] (defScope C5):=fsc
theorem Pi (F:Fun K "part_number" "part_number" C5 f fd) (B:Bl mg) (T:CN K C) (GL:Fn P w K mg base "is_letter" 1 ["thing"] spLet) (GN:Fn P w K mg base "is_name" 1 ["thing"] spIsName) (GK:Mt P w K mg base C "number" 2 ["self", "name"] (spNumber C)):AX P w K mg base CX0 3 f fd ["kind", "part", "table"] (spPN C):=by
 obtain ⟨fL,dL,GL,mL,kL,bL⟩:=GL.ex;obtain ⟨fN,dN,GN,mN,kN,bN⟩:=GN.ex;obtain ⟨fK,dK,GK,mK,bK⟩:=GK.ex;refine F.ok QQ (fun vs H Q E h=>?_) (fun ac A outer s H vs Q E hr h=>?_)
 ·obtain ⟨k,t,x,due,r,rfl,_⟩:=h;rfl
 ·obtain ⟨k,t,x,due,r,rfl,KA,W,q⟩:=h;have hr1:Room 1 _:=hr.mono (by decide);obtain ⟨dk,e1,e2,hk⟩:=KA.ins
  refine ⟨_,AE (Ag (Av (AJ GL hr1 rfl mL kL bL .nil AL (AA (pv 1) AC))) (AD AW) AU)
   (AE (Ag (Av (AJ GN hr1 rfl mN kN bN .nil AL (AA (pv 1) AC))) (AD (AM (B7 (pv 0) T.cl mK GK hr bK .nil AL (AA (pv 1) AC)))) AU)
   (AD (AM (BB DQ rfl B.int Ig (AA (pv 1) AC))))),?_⟩
  have l6:=W.l6;refine ⟨_,rfl,x,rfl,W.l0,W.l6,W.sm,_,rfl,Af ?_⟩;refine ⟨_,rfl,x,rfl,W.as,by omega,fun H1 s1=>⟨_,rfl,?_⟩⟩;have qq:=q H1 s1;unfold wv at qq;rcases W.or with ⟨hn,hx⟩ | ⟨hn,hd⟩
  ·rw [hn] at qq ⊢;rw [if_pos rfl] at qq;exact Az ⟨_,rfl,k,dk,_,rfl,s1 _ _ hk,(BY _ _ _),_,rfl,k,due,r,x,rfl,KA.same s1,hx,qq⟩
  ·rw [hn] at qq ⊢;rw [if_neg (by decide)] at qq;have l0:=W.l0;exact Af ⟨_,rfl,x,_,rfl,by omega,intText_digits hd (fun z=>by have:=BE x; rw [z] at this; simp at this; omega) (by omega),qq⟩
end
def stp (due:LN) (h:List Nat) (x:Str):List Nat:=if x = "|" then (match h with | [v,u]=>[v ||| u] | _=>h) else h++[wv due x]
def stk (due:LN) (S:List Str):List Nat:=S.foldl (stp due) []
structure StG (due:LN) (S:List Str) (v:Nat):Prop where
 ne:S ≠ []
 st:stk due S=[v]
 gd:∀ i:Nat,S[i]?=some ("|" : Str)->∃ v u,stk due (S.take i)=[v,u]
 ws:∀ x ∈ S,x = "|" \/ WdOk due x
theorem StG.add {S:List Str} {v:Nat} {w:Str} (h:StG due S v) (hw:WdOk due w):StG due (BP S w) (v ||| wv due w):=by
 have e:BP S w=S++[w, "|"]:=if_neg h.ne;have hn:=hw.nb.1
 have e1:stk due (S++[w])=[v,wv due w]:=by
  unfold stk;rw [foldl_append];show stp due (stk due S) w=_;rw [h.st];unfold stp;rw [if_neg hn];rfl
 rw [e];refine ⟨by simp,?_,fun i hi=>?_,fun x hx=>?_⟩
 ·unfold stk;rw [show S++[w,("|" : Str)]=(S++[w])++[("|" : Str)] by simp,foldl_append];show stp due (stk due (S++[w])) "|" = _;rw [e1];unfold stp;rw [if_pos rfl]
 ·rcases Nat.lt_trichotomy i S.length with hlt | ak | hgt
  ·rw [List.getElem?_append_left hlt] at hi;rw [List.take_append_of_le_length (Nat.le_of_lt hlt)];exact h.gd i hi
  ·subst ak;rw [List.getElem?_append_right (Nat.le_refl _),Nat.sub_self] at hi;exact absurd (Option.some.inj hi) hn
  ·have hi2:=(List.getElem?_eq_some_iff.mp hi).1
   have:i=S.length + 1:=by
    simp at hi2;omega
   subst this;refine ⟨v,wv due w,?_⟩;rw [show S++[w,("|" : Str)]=(S++[w])++[("|" : Str)] by simp,List.take_append_of_le_length (by simp),take_of_length_le (by simp)];exact e1
 ·rcases mem_append.mp hx with z | z
  ·exact h.ws x z
  ·simp only [mem_cons,not_mem_nil,or_false] at z;rcases z with rfl | rfl
   ·exact .inr hw
   ·exact .inl rfl
theorem StG.all:∀ {ws S:List Str} {v:Nat},StG due S v->(∀ w ∈ ws,WdOk due w)->StG due (ws.foldl BP S) (ws.foldl (fun a w=>a ||| wv due w) v)
 | [],S,v,h,_=>h
 | w :: r,S,v,h,hw=>StG.all (ws:=r) (S:=BP S w) (v:=v ||| wv due w) (h.add (hw w (mem_cons_self ..))) fun x hx=>hw x (mem_cons_of_mem _ hx)
theorem StG.one {w:Str} (hw:WdOk due w):StG due [w] (wv due w):=by
 have hn:=hw.nb.1;refine ⟨by simp,?_,fun i hi=>?_,fun x hx=>.inr (mem_singleton.mp hx ▸ hw)⟩
 ·show stp due [] w=_;unfold stp;rw [if_neg hn];rfl
 ·cases i with
  | zero=>exact absurd (Option.some.inj hi) hn
  | succ k=>simp at hi
theorem StG.of {w:Str} {ws:List Str} (hw:∀ x ∈ w :: ws,WdOk due x):StG due ((w :: ws).foldl BP []) (ws.foldl (fun a w=>a ||| wv due w) (wv due w)) :=
 StG.all (ws:=ws) (S:=[w]) (v:=wv due w) (StG.one (hw w (mem_cons_self ..))) fun x hx=>hw x (mem_cons_of_mem _ hx)
theorem Ho {S:List Str} {i:Nat} {x:Str} (h:S[i]?=some x):stk due (S.take (i + 1))=stp due (stk due (S.take i)) x:=by
 rw [take_add_one,h];unfold stk;rw [foldl_append];rfl
theorem NR (due:LN) (h:List Nat) (x:Str):(stp due h x).length <= h.length + 1:=by
 unfold stp;split
 ·split
  ·simp
  ·omega
 ·simp
theorem Gn (due:LN) (S:List Str):∀ i,(stk due (S.take i)).length <= i
 | 0=>by simp [stk]
 | i + 1=>by
  cases e:S[i]? with
  | none=>rw [take_add_one,e]; exact Nat.le_trans (by simpa using Gn due S i) (Nat.le_succ i)
  | some x=>rw [Ho e]; exact Nat.le_trans (NR ..) (Nat.succ_le_succ (Gn due S i))
section
variable {DC bd jn:Addr}
inductive spNo (C:Addr) (vs:List V) (H:Hp) (Q:VK) (_E:XK):Prop where
 | mk (k l t:Addr) (S:List Str) (v:Nat) (due:LN) (r:Str) (z_0:vs=[.ref k,.ref l,.ref t]) (z_1:KindAt C H k due r) (z_2:H l=some (.lst (S.map V.str))) (z_3:S.length <= 400) (z_4:StG due S v) (z_5:∀ H',Same H H'->Q (.int ((v:Nat):Int)) H')
abbrev NNo:List Str:=["kind", "steps", "table", "held", "step", "last"]
theorem scNo:AK NNo ["kind", "steps", "table"] (defScope EZ):=fsc
theorem Pj (F:Fun K "number_of" "number_of" EZ f fd) (T:CN K C) (mJ:mg "JOINING" = some (.ref jn)) (hJ:∀ H,SqT K H jn [.str "&", .str "^", .str "|"]) (GJ:Fn P w K mg base "joined" 1 ["sign", "one", "other"] spJn) (GP:Fn P w K mg base "part_number" 3 ["kind", "part", "table"] (spPN C)):AX P w K mg base CX0 4 f fd ["kind", "steps", "table"] (spNo C):=by
 obtain ⟨fJ,dJ,GJ,mJn,kJ,bJ⟩:=GJ.ex;obtain ⟨fP,dP,GP,mP,kP,bP⟩:=GP.ex;refine F.ok scNo (fun vs H Q E h=>?_) (fun ac A outer s H vs Q E hr h=>?_)
 ·obtain ⟨k,l,t,S,v,due,r,rfl,_⟩:=h;rfl
 ·obtain ⟨k,l,t,S,v,due,r,rfl,KA,hl,h100,G,q⟩:=h;have hr1:Room 1 _:=hr.mono (by decide);have nd:=scNo.nd
  refine ⟨_,AE (Ac (i:=3) nd rfl (Or.inl rfl) (A4 AC))
   (AE (Bx PassesOwn.never rfl (A6 (pv 1)) (AY (i:=4) nd rfl (Or.inl rfl))
    (AD (Ag (AO A0 (pv 4) Ae (AS _)) (AD AW)
     (AD (Ag (AO EO (pv 4) (A5 (v:=.ref jn) rfl mJ rfl) rfl)
      (AE (Ac (i:=5) nd rfl (Or.inl rfl) (GX PySem.F.plainAttrs_list PySem.F.slot_list_pop PySem.F.type_list_pop IJ (pv 3)))
      (AD (Cq (AJ GJ hr1 rfl mJn kJ bJ .nil AL (AA (pv 4) (AA (BF (Aq K rfl) (pv 3) (Ff F8 AI) (fun _ _=>rfl)) (AA (pv 5) AC)))) (Hs (pv 3) (Ff F8 AI) E3))))
      (AD (A9 (Ci PySem.F.plainAttrs_list PySem.F.slot_list_append PySem.F.type_list_append BC (pv 3) (AA (AJ GP hr rfl mP kP bP .nil AL (AA (pv 0) (AA (pv 4) (AA (pv 2) AC)))) AC)))))))))
   (AD (AM (GX PySem.F.plainAttrs_list PySem.F.slot_list_pop PySem.F.type_list_pop IJ (pv 3))))),?_⟩
  refine ⟨(by show 0 <= sizeLine; decide),fun hd hhd=>?_⟩;have s1:=AG (Same.refl _) hhd (o:=HO.lst []);have h1:=AB (H:=H) (a:=hd) (o:=HO.lst []);generalize upd H hd (HO.lst [])=H1 at s1 h1 ⊢;have nl:l ≠ hd:=AH hl hhd;refine ⟨_,rfl,l,rfl,⟨_,SqL.of (s1 _ _ hl)⟩,CJ (K:=K) (a:=l) (xs:=S.map V.str) (fun i σ H2=>(∃ v4 v5,σ=[some (.ref k),some (.ref l),some (.ref t),some (.ref hd),v4,v5])/\Same H H2/\H2 hd=some (.lst (An (stk due (S.take i))))) ⟨⟨_,_,rfl⟩,s1,h1⟩ (fun i σ H2 _ e=>SqL.of (e.2.1 _ _ hl)) ?_ ?_⟩
  ·rintro i x σ H2 hi ⟨⟨v4,v5,rfl⟩,s2,h2⟩;rw [getElem?_map] at hi;obtain ⟨y,hy,rfl⟩:=Option.map_eq_some_iff.mp hi;have es:=Ho (due:=due) hy;have hln:=Gn due S i;have hi100:=(List.getElem?_eq_some_iff.mp hy).1;have keep:∀ {H3:Hp} (o:HO),Same H H3->Same H (upd H3 hd o):=fun {H3} o a b u e=>by rw [AF (AH e hhd)]; exact a b u e
   refine ⟨_,rfl,rfl,_,rfl,?_⟩;rcases G.ws y (mem_of_getElem? hy) with rfl | W
   ·rw [show decide (V.str "|" = V.str "~")=false by decide +kernel];refine Af ⟨_,rfl,jn,_,rfl,.inr (hJ _),rfl,rfl,_,rfl,?_⟩;rw [show (if false=true then !inV (V.str "|") [V.str "&", V.str "^", V.str "|"] else inV (V.str "|") [V.str "&", V.str "^", V.str "|"])=true by decide +kernel];refine Az ?_;obtain ⟨a,b,eab⟩:=G.gd i hy;rw [eab] at h2;refine ⟨_,rfl,.inl ⟨rfl,_,SqL.of h2⟩,hd,_,.int (b:Int),rfl,rfl,h2,rfl,?_⟩;have h3:=AB (H:=H2) (a:=hd) (o:=HO.lst [V.int (a:Int)]);refine ⟨_,rfl,_,rfl,_,rfl,hd,_,-1,.int (a:Int),rfl,rfl,SqL.of h3,rfl,_,rfl,a,b,rfl,_,rfl,_,rfl,hd,_,-1,0,rfl,rfl,h3,rfl,⟨_,_,rfl⟩,keep _ (keep _ s2),?_⟩;rw [AB,es,eab];rfl
   ·obtain ⟨n1,n2,n3,n4⟩:=W.nb;rw [decide_eq_false (show ¬ V.str y=V.str "~" from fun z=>n4 (V.str.inj z))];refine Af ⟨_,rfl,jn,_,rfl,.inr (hJ _),rfl,rfl,_,rfl,?_⟩
    have ein:(if false=true then !inV (V.str y) [V.str "&", V.str "^", V.str "|"] else inV (V.str y) [V.str "&", V.str "^", V.str "|"])=false:=by
     rw [if_neg (by decide)];unfold inV;simp [eqV,n1,n2,n3,Ne.symm n1,Ne.symm n2,Ne.symm n3]
    rw [ein];refine Af ⟨_,rfl,.inl ⟨rfl,_,SqL.of h2⟩,_,rfl,_,rfl,_,rfl,k,t,y,due,r,rfl,KA.same s2,W,fun H3 s3=>?_⟩;refine ⟨hd,_,_,rfl,rfl,s3 _ _ h2,AQ (by unfold An; rw [length_map]; omega),⟨_,_,rfl⟩,keep _ (s2.trans s3),?_⟩;rw [AB,es];unfold stp An;rw [if_neg n1,map_append];rfl
  ·rintro σ H2 ⟨⟨v4,v5,rfl⟩,s2,h2⟩;rw [length_map,take_length,G.st] at h2;refine ⟨_,rfl,.inl ⟨rfl,_,SqL.of h2⟩,hd,_,.int (v:Int),rfl,rfl,h2,rfl,q _ fun b u e=>?_⟩;rw [AF (AH e hhd)];exact s2 b u e
end
def jl:List (List Nat)->List Nat
 | []=>[]
 | [w]=>w
 | w :: v :: r=>w++124 :: jl (v :: r)
theorem JX {x y:Str} (h:x.cps.toList=y.cps.toList):x=y:=by
 cases x with
 | mk a=>cases y with
  | mk b =>
   have:a=b:=by
    have:=congrArg List.toArray h;simpa using this
   rw [this]
structure PW0 (w:List Nat):Prop where
 ne:0 < w.length
 ok:∀ k,0 < k->k <= w.length->∀ x:Str,x.cps.toList=w.take k->NK x
theorem Og {w:List Nat} {x:Str} (h:x.cps.toList=w++[124]):NL x:=by
 refine ⟨?_,?_⟩
 ·unfold Bq
  have:x.cps.toList.all Cm=false:=by
   rw [h,all_append];simp [Cm]
  rw [this,Bool.and_false]
 ·rw [h,all_append];simp [Cn]
theorem Np {z:Str} {pre w post:List Nat} (hz:z.cps.toList=pre++(w++post)) (hw:PW0 w) (hp:post=[]\/∃ r,post=124 :: r):PtAt z pre.length w.length/\sl z pre.length (pre.length + w.length)=⟨w.toArray⟩:=by
 have ay:z.length=pre.length + (w.length + post.length):=by rw [← BE,hz,length_append,length_append]
 have hs:∀ k,k <= w.length + post.length->(sl z pre.length (pre.length + k)).cps.toList=(w++post).take k:=fun k hk=>by
  rw [FV z (by omega) (by omega),hz,List.drop_left,Nat.add_sub_cancel_left]
 refine ⟨⟨by omega,fun k h0 hk=>?_,fun hlt=>?_⟩,?_⟩
 ·refine hw.ok k h0 hk _ ?_;rw [hs k (by omega),List.take_append_of_le_length hk]
 ·rcases hp with rfl | ⟨r,rfl⟩
  ·simp at ay;omega
  ·refine Og (w:=w) ?_;have:=hs (w.length + 1) (by simp);rw [show pre.length + w.length + 1=pre.length + (w.length + 1) by omega,this,List.take_append];simp;exact take_of_length_le (by omega)
 ·refine JX ?_;rw [hs w.length (by omega),List.take_left]
theorem L1 {z:Str}:∀ {ws:List (List Nat)} {pre:List Nat},ws ≠ []->z.cps.toList=pre++jl ws->(∀ w ∈ ws,PW0 w)->TxAt z pre.length (ws.map fun w=>(⟨w.toArray⟩:Str))
 | [],_,h,_,_=>absurd rfl h
 | [w],pre,_,hz,hw=>by
  have hp:=hw w (mem_singleton.mpr rfl);obtain ⟨a,b⟩:=Np (z:=z) (pre:=pre) (w:=w) (post:=[]) (by rw [hz]; simp [jl]) hp (.inl rfl);have:=TxAt.one _ _ a hp.ne (by rw [← BE,hz]; simp [jl]);rw [b] at this;exact this
 | w :: v :: r,pre,_,hz,hw=>by
  have hp:=hw w (mem_cons_self ..);have hz':z.cps.toList=pre++(w++124 :: jl (v :: r)):=hz;obtain ⟨a,b⟩:=Np hz' hp (.inr ⟨_,rfl⟩);have ih:=L1 (z:=z) (ws:=v :: r) (pre:=pre++(w++[124])) (by simp) (by rw [hz']; simp) (fun x hx=>hw x (mem_cons_of_mem _ hx));have el:(pre++(w++[124])).length=pre.length + w.length + 1:=by simp; omega
  rw [el] at ih
  have:=TxAt.cons _ _ _ a hp.ne (by
   rw [hz',← List.append_assoc,List.getElem?_append_right (by simp)]
   simp) ih
  rw [b] at this;exact this
theorem NS {w:List Nat} (h0:0 < w.length) (h6:w.length <= 6) (hu:w.all Cm=true):PW0 w:=by
 refine ⟨h0,fun k hk hkw x hx=>.inl ?_⟩;have hl:x.length=k:=by rw [← BE,hx,length_take]; omega
 unfold Bq;rw [hl,hx,decide_eq_true (show 1 <= k by omega),decide_eq_true (show k <= 6 by omega)];refine List.all_eq_true.mpr fun c hc=>List.all_eq_true.mp hu c (mem_of_mem_take hc)
abbrev dg (m:Nat):List Nat:=(Nat.toDigits 10 m).map Char.toNat
theorem JY {m:Nat} (h:¬ m < 10):dg m=dg (m / 10)++dg (m % 10):=by
 have hm:m % 10 < 10:=Nat.mod_lt m (by decide);have t:Nat.toDigits 10 (m / 10)++Nat.toDigits 10 (m % 10)=Nat.toDigits 10 (10 * (m / 10) + m % 10):=Nat.toDigits_append_toDigits (by decide) (by omega) hm;rw [Nat.div_add_mod] at t;show (Nat.toDigits 10 m).map Char.toNat=_;rw [← t,map_append]
theorem FW {m:Nat} (h:m < 10):dg m=[m + 48]:=by
 show (Nat.toDigits 10 m).map Char.toNat=_;rw [Nat.toDigits_of_lt_base h];have:∀ d:Nat,d < 10->[(Nat.digitChar d)].map Char.toNat=[d + 48]:=by decide
 exact this m h
theorem JZ (m:Nat) (h:0 < m):∃ c r,dg m=c :: r/\c ≠ 48:=by
 induction m using Nat.strongRecOn with
 | _ m ih =>
  by_cases h1:m < 10
  ·exact ⟨m + 48,[],FW h1,by omega⟩
  ·obtain ⟨c,r,e,hc⟩:=ih (m / 10) (by omega) (by omega);exact ⟨c,r++dg (m % 10),by rw [JY h1,e]; rfl,hc⟩
theorem MA (m:Nat):(dg m).all Cn=true:=by
 induction m using Nat.strongRecOn with
 | _ m ih =>
  by_cases h1:m < 10
  ·rw [FW h1];simp [Cn];omega
  ·rw [JY h1,all_append,ih (m / 10) (by omega),ih (m % 10) (by omega)];rfl
theorem MB (l:List Nat) (k:Nat):digitsVal (l.take k) <= digitsVal l:=by
 have key:∀ (r:List Nat) (a b:Nat),a <= b->a <= r.foldl (fun acc c=>acc * 10 + (c - 48)) b:=fun r=>by
  induction r with
  | nil=>exact fun a b h=>h
  | cons c r ih=>exact fun a b h=>ih a _ (by show a <= b * 10 + (c - 48); omega)
 unfold digitsVal
 conv=>rhs; rw [← List.take_append_drop k l,foldl_append]
 exact key _ _ _ (Nat.le_refl _)
theorem Oh {n:Nat} (h:n < 1099511627776):PW0 (dg n):=by
 have av:0 < (dg n).length:=by
  by_cases h1:n < 10
  ·rw [FW h1]; simp
  ·obtain ⟨c,r,e,_⟩:=JZ n (by omega);rw [e]; simp
 refine ⟨av,fun k hk hkw x hx=>?_⟩;have az:x.cps.toList.all Cn=true:=by rw [hx]; exact List.all_eq_true.mpr fun c hc=>List.all_eq_true.mp (MA n) c (mem_of_mem_take hc)
 have hnm:Bq x=false:=by
  unfold Bq
  have:x.cps.toList.all Cm=false:=by
   cases e:x.cps.toList with
   | nil =>
    rw [e] at hx;have h9:=congrArg List.length hx;rw [length_take,length_nil] at h9;omega
   | cons c r =>
    rw [e] at az;simp [Cn,Cm] at az ⊢;omega
  rw [this,Bool.and_false]
 refine .inr ⟨hnm,az,?_⟩;rcases Nat.eq_zero_or_pos n with rfl | hp
 ·refine .inl (JX ?_);rw [hx,FW (by decide)];have:k=1:=by rw [FW (by decide)] at hkw; simp at hkw; omega
  subst this;decide +kernel
 ·obtain ⟨c,r,e,hc⟩:=JZ n hp;refine .inr ⟨?_,?_⟩
  ·rw [hx,e];cases k with
   | zero=>omega
   | succ k=>simpa using hc
  ·rw [hx];exact Nat.lt_of_le_of_lt (MB _ _) (by rw [show digitsVal (dg n)=n from W.KIN.val_back n]; exact h)
section
variable {DC bd:Addr}
theorem MC {X:Cx} {e:Expr}:PE X e (fun _ _ _=>False):=fun _ _ _ _ _ _ h=>h.elim
inductive spMade (C VC:Addr) (vs:List V) (H:Hp) (Q:VK) (_E:XK):Prop where
 | mk (kp:Addr) (due:LN) (r:Str) (n:Nat) (z_0:vs=[.ref kp,.int (n:Int)]) (z_1:KindAt C H kp due r) (z_2:n < 2 ^ 40) (z_3:(r = "keep" \/ n - (n &&& kn due)=0)) (z_4:∀ q H',Same H H'->ValAt VC H' q kp n->Q (.ref q) H')
theorem scMade:AK ["kind", "number", "bits", "rest"] ["kind", "number"] (defScope LI):=fsc
theorem NT {tL:Tok} (F:Fun K "made" "made" LI f fd) (hL:mg "LIMIT" = some (.int 1099511627776 tL)) (T:CN K C) (VO:JS P w K mg base C VC)
  (GW:Fn P w K mg base "is_whole" 1 ["thing"] spIsWhole) (GR:Fn P w K mg base "rest_of" 3 ["kind", "number"] (spRestOf C)) (GRe:Mt P w K mg base C "rest" 1 ["self"] (spRest C)) :
  AX P w K mg base CX0 6 f fd ["kind", "number"] (spMade C VC):=by
 obtain ⟨fW,dW,GW,mW,kW,bW⟩:=GW.ex;obtain ⟨fR,dR,GR,mR,kR,bR⟩:=GR.ex;obtain ⟨fE,dE,GE,mE,bE⟩:=GRe.ex;obtain ⟨fI,dI,MI,GI,bI⟩:=VO.make;have mV:=VO.cls;refine F.ok scMade (fun vs H Q E h=>?_) (fun ac A outer s H vs Q E hr h=>?_)
 ·obtain ⟨kp,due,r,n,rfl,_⟩:=h;rfl
 ·obtain ⟨kp,due,r,n,rfl,KA,h40,h0,k⟩:=h;have hr1:Room 1 _:=hr.mono (by decide);have hr3:Room 3 _:=hr.mono (by decide);obtain ⟨dxk,d1,d2,ae⟩:=KA.ins
  refine ⟨_,AE (Ag (PW.pt (Dv (BH (Av (AJ GW hr1 rfl mW kW bW .nil AL (AA (pv 1) AC)))) (CP (BH (Dz Dx G0 (Ff F8 (A5 (v:=.int 1099511627776) rfl hL ⟨tL,rfl⟩)) (pv 1) (A5 (v:=.int 1099511627776) rfl hL ⟨tL,rfl⟩)))))) (AD AW) AU)
   (AE (Ac (i:=2) scMade.nd rfl (Or.inl rfl) (Bh (AO JE (pv 1) AI (AS _)) (pv 1) MC))
   (AE (Ac (i:=3) scMade.nd rfl (Or.inl rfl) (AJ GR hr3 rfl mR kR bR .nil AL (AA (pv 0) (AA (pv 2) AC))))
   (AE (Ag (PW.pt (Cp (AO Ct (pv 3) AI (AS _)) (B4 (AO A0 (Ao (pv 0) T.cl mE GE hr1 bE .nil AL) Ae (AS _))))) (AD AW) AU)
   (AE (Ag (AO G0 (pv 1) AI (AS _)) (AD AW) AU)
   (AE (Ag (PW.pt (Cp (AO Ct (pv 3) AI (AS _)) (B4 (AO A0 (Ao (pv 0) T.cl mE GE hr1 bE .nil AL) Ae (AS _))))) (AD AW) AU)
   (AD (AM (GA MI GI hr rfl mV bI .nil AL (AA (pv 0) (AA (Bh (AO A0 (Ao (pv 0) T.cl mE GE hr1 bE .nil AL) Ae (AS _)) (pv 2) (Aa Hy (pv 2) (pv 3))) AC)))))))))),?_⟩
  have noR:(FR d1 d2 r).lookup ("rest" : Str)=none:=(BY _ _ _);have e40:(2:Nat) ^ 40=1099511627776:=by decide
  refine ⟨_,rfl,_,rfl,_,rfl,?_⟩;refine Af ?_;refine ⟨_,rfl,_,rfl,_,_,rfl,rfl,_,rfl,?_⟩;rw [decide_eq_true (show -1099511627776 <= (n:Int) by omega)];refine Az ?_;refine ⟨_,_,rfl,rfl,_,rfl,?_⟩;rw [decide_eq_true (show (n:Int) < 1099511627776 by omega)];refine Af ?_;refine ⟨_,rfl,_,_,rfl,rfl,_,rfl,?_⟩;rw [decide_eq_true (show (0:Int) <= (n:Int) from Int.natCast_nonneg _)];refine Az ⟨_,rfl,?_⟩;refine ⟨_,rfl,_,rfl,kp,due,r,n,rfl,KA,fun H1 s1=>?_⟩;have KA1:=KA.same s1;have bm:=s1 _ _ ae
  have fin:∀ q dq,H1 q=none->H1 dq=none->dq ≠ q->spVInit C VC [.ref q,.ref kp,.int (n:Int)] (upd (upd H1 dq (.own q)) q (.ins VC dq [])) (fun v H4=>v=.non/\Q (.ref q) H4) E0:=fun q dq hq hdq av=>by
   have sN:=DB (D:=VC) hq hdq av;exact ⟨q,dq,kp,due,r,n,rfl,AB,KA1.same sN,h40,h0,fun H4 s4 hV=>⟨rfl,k q H4 (s1.trans (CO sN hq s4)) hV⟩⟩
  by_cases h00:n - (n &&& kn due)=0
  ·rw [h00];refine ⟨_,rfl,rfl,_,rfl,?_⟩;rw [decide_eq_true (show V.int ((0:Nat):Int)=V.int 0 from rfl)];refine Af (Af ?_);refine ⟨_,rfl,_,_,rfl,rfl,_,rfl,?_⟩;rw [decide_eq_false (show ¬ (n:Int) < 0 by omega)];refine Af ?_;refine ⟨_,rfl,rfl,_,rfl,?_⟩;rw [decide_eq_true (show V.int ((0:Nat):Int)=V.int 0 from rfl)];refine Af (Af ?_);refine ⟨_,rfl,_,rfl,kp,dxk,_,rfl,bm,noR,kp,due,r,rfl,KA1,rfl,_,rfl,?_⟩;refine BS (fun _=>?_) (fun _=>?_)
   ·exact ⟨_,rfl,fin⟩
   ·refine ⟨_,rfl,_,rfl,_,_,rfl,rfl,?_⟩;have es:((n:Nat):Int) - ((0:Nat):Int)=(n:Int):=by omega
    intro q dq hq hdq av;have:=fin q dq hq hdq av;rw [← es] at this;exact this
  ·have hk:r = "keep" := h0.resolve_right h00;have av:decide (V.int ((n - (n &&& kn due):Nat):Int)=V.int 0)=false:=decide_eq_false fun z=>h00 (by have:=V.int.inj z; omega);refine ⟨_,rfl,rfl,_,rfl,?_⟩;rw [av];refine Az ⟨_,rfl,kp,dxk,_,rfl,bm,noR,kp,due,r,rfl,KA1,rfl,_,rfl,?_⟩;rw [hk,show decide (V.str "keep" = V.str "bar")=false by decide +kernel];refine Af ?_;refine ⟨_,rfl,_,_,rfl,rfl,_,rfl,?_⟩;rw [decide_eq_false (show ¬ (n:Int) < 0 by omega)];refine Af ?_;refine ⟨_,rfl,rfl,_,rfl,?_⟩;rw [av];refine Az ⟨_,rfl,kp,dxk,_,rfl,bm,noR,kp,due,r,rfl,KA1,rfl,_,rfl,?_⟩;rw [hk,show decide (V.str "keep" = V.str "leave")=false by decide +kernel];refine Af ?_;refine ⟨_,rfl,_,rfl,kp,dxk,_,rfl,bm,noR,kp,due,r,rfl,KA1,rfl,_,rfl,?_⟩;rw [hk,show decide (V.str "keep" = V.str "keep")=true by decide +kernel];exact Az ⟨_,rfl,fin⟩
end
def gV2 (vs zs:List V):List V:=match vs,zs with | [a],[c]=>[a,c] | _,_=>[]
def gU2 (us ws:List Value):List Value:=match us,ws with | [a],[c]=>[a,c] | _,_=>[]
section
variable {DC bd:Addr}
structure Pk (P:Program) (w:World) (K:FG) (mg:SV) (base:Heap) (DC bd:Addr):Prop where
 ex:∃ f fd,AX P w K mg base CX0 6 f fd ["text", "lettered"] (spSt DC bd)/\mg "steps_of" = some (.ref f)/\W.keepIn K (.ref f)=true/\∃ g,DV K fd ["text", "lettered"] ["lettered"] g gV2
inductive spRead (C VC bd:Addr) (vs:List V) (H:Hp) (Q:VK) (_E:XK):Prop where
 | mk (kp:Addr) (z v:Str) (ws:List Str) (due:LN) (r:Str) (z_0:vs=[.ref kp,.str z]) (z_1:KindAt C H kp due r) (z_2:z.cps.all (· < 128)=true) (z_3:z.length <= 100) (z_4:TxAt z 0 (v :: ws)) (z_5:(∀ x ∈ v :: ws,WdOk due x)) (z_6:Rd H bd (.dK DD)) (z_7:ws.foldl (fun a x=>a ||| wv due x) (wv due v) < 2 ^ 40) (z_8:(r = "keep" \/ ws.foldl (fun a x=>a ||| wv due x) (wv due v) - (ws.foldl (fun a x=>a ||| wv due x) (wv due v) &&& kn due)=0)) (z_9:∀ q H',Same H H'->ValAt VC H' q kp (ws.foldl (fun a x=>a ||| wv due x) (wv due v))->Q (.ref q) H')
theorem Oi:AK ["kind", "text"] ["kind", "text"] (defScope LJ):=fsc
theorem TxAt.len {z:Str}:∀ {a:Nat} {ws:List Str},TxAt z a ws->ws.length + a <= z.length
 | _,_,.one a n h hn he=>by show 1 + a <= _; omega
 | _,_,.cons a n ws h hn hb r=>by have:=r.len; show ws.length + 1 + a <= _; omega
theorem Hq:∀ (ws S:List Str),(ws.foldl BP S).length <= S.length + 2 * ws.length
 | [],S=>by simp
 | w :: r,S=>by
  have h1:=Hq r (BP S w);have h2:=Hn S w;show (r.foldl BP (BP S w)).length <= S.length + 2 * (r.length + 1);omega
theorem NU (F:Fun K "read" "read" LJ f fd) (SO:Pk P w K mg base DC bd) (GN:Fn P w K mg base "number_of" 4 ["kind", "steps", "table"] (spNo C)) (GM:Fn P w K mg base "made" 6 ["kind", "number"] (spMade C VC)):AX P w K mg base CX0 7 f fd ["kind", "text"] (spRead C VC bd):=by
 obtain ⟨fS,dS,GS,mS,kS,g,bS⟩:=SO.ex;obtain ⟨fN,dN,GN,mN,kN,bN⟩:=GN.ex;obtain ⟨fM,dM,GM,mM,kM,bM⟩:=GM.ex;refine F.ok Oi (fun vs H Q E h=>?_) (fun ac A outer s H vs Q E hr h=>?_)
 ·obtain ⟨kp,z,v,ws,due,r,rfl,_⟩:=h;rfl
 ·obtain ⟨kp,z,v,ws,due,r,rfl,KA,ha,h40,TX,hW,hB,hv,hk,q⟩:=h;have hr4:Room 4 _:=hr.mono (by decide);have G:=StG.of hW;have hl1:=TX.len;have hl2:=Hq (v :: ws) [];refine ⟨_,AD (AM (AJ GM hr rfl mM kM bM .nil AL (AA (pv 0) (AA (AJ GN hr4 rfl mN kN bN .nil AL (AA (pv 0) (AA (Kp GS hr rfl mS kS bS AL (AA (pv 1) AC) (GG Ei IG)) (AA D4 AC)))) AC)))),?_⟩;refine ⟨_,rfl,_,rfl,_,rfl,z,v :: ws,rfl,ha,h40,TX,hB,fun l H1 s1 hl=>?_⟩;refine fun d hd=>?_;have s2:=AG s1 hd (o:=HO.dK []);refine ⟨kp,l,d,_,_,due,r,rfl,KA.same s2,by rw [AF (AH hl hd)]; exact hl,by simp at hl1 hl2 ⊢; omega,G,fun H3 s3=>?_⟩;exact ⟨kp,due,r,_,rfl,KA.same (s2.trans s3),hv,hk,fun q4 H4 s4 hV=>q q4 H4 ((s2.trans s3).trans s4) hV⟩
end
def BL (due:LN) (n:Nat):Nat:=n - (n &&& AZ (AN due))
def wds (due:LN) (n:Nat):List Str:=A2 due n++(if BL due n=0 then [] else [Str.ofString (toString ((BL due n:Nat):Int))])
def MD (due:LN) (n:Nat):Option Str:=((AT due).map (·.2)).find? fun x=>decide (look due x=n)
def BZ (due:LN) (n:Nat):Str:=match MD due n with
 | some x=>x
 | none=>if wds due n=[] then "0" else Txt.join "|" (wds due n)
theorem F3 {n:Nat} (h:n < 2 ^ 40):((n:Int)).natAbs.log2 < 1920:=by
 rw [Int.natAbs_natCast];rcases Nat.eq_zero_or_pos n with z | z
 ·subst z; decide
 ·have:=(Nat.log2_lt (by omega)).mpr h;omega
theorem NV {α:Type} {f:α->Bool} {l:List α} {i:Nat} {a:α} (h:(l.take i).find? f=none) (e:l[i]?=some a) (hf:f a=true):l.find? f=some a:=by
 have hi:=(List.getElem?_eq_some_iff.mp e).1
 have:l=l.take i++a :: l.drop (i + 1):=by
  have h1:=List.take_append_drop i l;rw [List.drop_eq_getElem_cons hi,(List.getElem?_eq_some_iff.mp e).2] at h1;exact h1.symm
 rw [this,List.find?_append,h,find?_cons,hf];rfl
theorem KZ {α:Type} {f:α->Bool} {l:List α} {i:Nat} {a:α} (h:(l.take i).find? f=none) (e:l[i]?=some a) (hf:f a=false):(l.take (i + 1)).find? f=none:=by
 rw [take_add_one,e,List.find?_append,h];show Option.or none (List.find? f [a])=none;rw [find?_cons,hf];rfl
section
variable {DC bd:Addr}
inductive spTxt (C VC:Addr) (vs:List V) (H:Hp) (Q:VK) (_E:XK):Prop where
 | mk (p kp:Addr) (n:Nat) (due:LN) (r:Str) (z_0:vs=[.ref p]) (z_1:ValAt VC H p kp n) (z_2:KindAt C H kp due r) (z_3:due.length <= 10) (z_4:(due.map (·.1)).Nodup) (z_5:n < 2 ^ 40) (z_6:JoinOk "|" (wds due n)=true) (z_7:∀ H',Same H H'->Q (.str (BZ due n)) H')
abbrev QR:List Str:=["value", "kind", "name", "parts"]
theorem scTxt:AK QR ["value"] (defScope Gi):=fsc
theorem Oj (F:Fun K "text_of" "text_of" Gi f fd) (B:Bl mg) (T:CN K C) (VT:Gm K VC) (GVK:Mt P w K mg base VC "kind" 1 ["self"] (spVKind VC)) (GVN:Mt P w K mg base VC "number" 1 ["self"] (spVNumber VC)) (GN:Mt P w K mg base C "names" 1 ["self"] (spNames C)) (GK:Mt P w K mg base C "number" 2 ["self", "name"] (spNumber C)) (GM:Mt P w K mg base VC "marks" 3 ["self"] (spVMarks C VC)) (GR:Mt P w K mg base VC "rest" 4 ["self"] (spVRest C VC)):AX P w K mg base CX0 5 f fd ["value"] (spTxt C VC):=by
 obtain ⟨fVK,dVK,GVK,mVK,bVK⟩:=GVK.ex;obtain ⟨fVN,dVN,GVN,mVN,bVN⟩:=GVN.ex;obtain ⟨fN,dN,GN,mN,bN⟩:=GN.ex;obtain ⟨fK,dK,GK,mK,bK⟩:=GK.ex;obtain ⟨fM,dM,GM,mM,bM⟩:=GM.ex;obtain ⟨fR,dR,GR,mR,bR⟩:=GR.ex;refine F.ok scTxt (fun vs H Q E h=>?_) (fun ac A outer s H vs Q E hr h=>?_)
 ·obtain ⟨p,kp,n,due,r,rfl,_⟩:=h;rfl
 ·obtain ⟨p,kp,n,due,r,rfl,hV,KA,h10,ndn,hn,hok,q⟩:=h;have hr1:Room 1 _:=hr.mono (by decide);have hr2:Room 2 _:=hr.mono (by decide);have hr3:Room 3 _:=hr.mono (by decide);have nd:=scTxt.nd;obtain ⟨dv,hv⟩:=id hV;obtain ⟨dk,e1,e2,hk⟩:=KA.ins
  refine ⟨_,AE (Ac (i:=1) nd rfl (Or.inl rfl) (Ao (pv 0) VT.cl mVK GVK hr1 bVK .nil AL))
   (AE (Bx PassesOwn.never rfl (A6 (Ao (pv 1) T.cl mN GN hr1 bN .nil AL)) (AY (i:=2) nd rfl (Or.inl rfl))
    (AD (Ag (AO A0 (B7 (pv 1) T.cl mK GK hr2 bK .nil AL (AA (pv 2) AC)) (Ao (pv 0) VT.cl mVN GVN hr1 bVN .nil AL) (AS _)) (AD (AM (pv 2))) AU)))
   (AE (Ac (i:=3) nd rfl (Or.inl rfl) (Ao (pv 0) VT.cl mM GM hr3 bM .nil AL))
   (Ax (Ag (AO Ct (Ao (pv 0) VT.cl mR GR hr bR .nil AL) AI (AS _)) (AD (A9 (Ci PySem.F.plainAttrs_list PySem.F.slot_list_append PySem.F.type_list_append BC (pv 3) (AA (BB D0 rfl B.str Do (AA (Ao (pv 0) VT.cl mR GR hr bR .nil AL) AC)) AC)))) AU)
   (AD (AM (Bh (AO Ez (AV (Aw K rfl) rfl B.len PySem.boot_len (AA (pv 3) AC)) AI (AS _)) (Ci PySem.F.plainAttrs_str PySem.F.slot_str_join PySem.F.type_str_join JM Ae (AA (pv 3) AC)) Ae)))))),?_⟩
  refine ⟨_,rfl,p,dv,_,rfl,hv,Hf _ _ (by decide +kernel) (by decide +kernel),p,kp,n,rfl,hV,?_⟩;refine ⟨_,rfl,kp,dk,_,rfl,hk,(BY _ _ _),kp,due,r,rfl,KA,fun l H1 s1 hl=>?_⟩;refine ⟨l,rfl,⟨_,SqL.of hl⟩,CJ (K:=K) (a:=l) (xs:=((AT due).map (·.2)).map V.str) (fun i σ H2=>(∃ v2,σ=[some (.ref p),some (.ref kp),v2,none])/\H2=H1/\(((AT due).map (·.2)).take i).find? (fun x=>decide (look due x=n))=none) ⟨⟨_,rfl⟩,rfl,rfl⟩ (fun i σ H2 _ e=>e.2.1 ▸ SqL.of hl) ?_ ?_⟩
  ·rintro i x σ H2 hi ⟨⟨v2,rfl⟩,rfl,hf⟩;rw [getElem?_map] at hi;obtain ⟨y,hy,rfl⟩:=Option.map_eq_some_iff.mp hi
   have ao:y ∈ due.map (·.1):=by
    obtain ⟨c,hc,rfl⟩:=mem_map.mp (mem_of_getElem? hy);exact mem_map.mpr ⟨_,Bt hc,rfl⟩
   refine ⟨_,rfl,kp,dk,_,rfl,s1 _ _ hk,(BY _ _ _),_,rfl,kp,due,r,y,rfl,KA.same s1,ao,_,rfl,p,dv,_,rfl,s1 _ _ hv,Hf _ _ (by decide +kernel) (by decide +kernel),p,kp,n,rfl,hV.same s1,rfl,_,rfl,?_⟩;by_cases hq:look due y=n
   ·rw [decide_eq_true (show V.int (look due y:Nat)=V.int (n:Int) by rw [hq])];refine Az ⟨_,rfl,?_⟩
    have e:BZ due n=y:=by
     unfold BZ MD;rw [NV hf hy (decide_eq_true hq)]
    rw [← e];exact q _ s1
   ·rw [decide_eq_false (show ¬ V.int (look due y:Nat)=V.int (n:Int) from fun z=>hq (by have:=V.int.inj z; omega))];exact Af ⟨⟨_,rfl⟩,rfl,KZ hf hy (decide_eq_false hq)⟩
  rintro σ H2 ⟨⟨v2,rfl⟩,rfl,hf⟩;rw [length_map,take_length] at hf
  have eT:BZ due n=if wds due n=[] then ("0" : Str) else Txt.join "|" (wds due n):=by
   unfold BZ MD;rw [hf]
  rw [eT] at q;refine ⟨_,rfl,p,dv,_,rfl,s1 _ _ hv,Hf _ _ (by decide +kernel) (by decide +kernel),p,kp,n,due,r,rfl,hV.same s1,KA.same s1,by omega,fun l2 H3 s3 hn2 hl2=>?_⟩;have s13:=s1.trans s3
  have hvl:(A2 due n).length <= 10:=by
   unfold A2;rw [length_map];exact Nat.le_trans (length_filter_le _ _) (Nat.le_trans (B3 due) h10)
  refine ⟨fun σ H'=>σ=[some (.ref p),some (.ref kp),v2,some (.ref l2)]/\Same H H'/\H' l2=some (.lst ((wds due n).map V.str)),fun R hR=>?_,?_⟩
  ·refine ⟨_,rfl,p,dv,_,rfl,s13 _ _ hv,Hf _ _ (by decide +kernel) (by decide +kernel),p,kp,n,due,r,rfl,hV.same s13,KA.same s13,by omega,fun H4 s4=>⟨rfl,_,rfl,?_⟩⟩;have s14:=s13.trans s4;by_cases h0:BL due n=0
   ·rw [decide_eq_true (show V.int ((n - (n &&& AZ (AN due)):Nat):Int)=V.int 0 from congrArg (fun z:Nat=>V.int (z:Int)) h0)];refine Af (hR _ _ ⟨rfl,s14,?_⟩);unfold wds;rw [if_pos h0,append_nil];exact s4 _ _ hl2
   ·rw [decide_eq_false (show ¬ V.int ((n - (n &&& AZ (AN due)):Nat):Int)=V.int 0 from fun z=>h0 (by have:=V.int.inj z; unfold BL; omega))];refine Az ⟨_,rfl,.inl ⟨rfl,_,SqL.of (s4 _ _ hl2)⟩,_,rfl,p,dv,_,rfl,s14 _ _ hv,Hf _ _ (by decide +kernel) (by decide +kernel),p,kp,n,due,r,rfl,hV.same s14,KA.same s14,by omega,fun H5 s5=>?_⟩;have hle:=Nat.sub_le n (n &&& AZ (AN due));refine ⟨((BL due n:Nat):Int),rfl,F3 (by unfold BL; omega),l2,_,_,rfl,rfl,s5 _ _ (s4 _ _ hl2),AQ (by rw [length_map]; omega),hR _ _ ⟨rfl,fun b o e=>?_,?_⟩⟩
    ·rw [AF (AH (s1 _ _ e) hn2)];exact s5 _ _ (s14 _ _ e)
    ·rw [AB];unfold wds;rw [if_neg h0,map_append];rfl
  rintro σ H4 ⟨rfl,s4,hl4⟩;refine ⟨_,rfl,l2,_,rfl,.inl (SqL.of hl4),_,_,rfl,rfl,_,rfl,?_⟩;have qq:=q H4 s4;by_cases hw0:wds due n=[]
  ·rw [if_pos hw0] at qq;rw [hw0];exact Af qq
  ·rw [if_neg hw0] at qq;have hl0:0 < (wds due n).length:=List.length_pos_iff.mpr hw0;rw [decide_eq_true (show (((wds due n).map V.str).length:Int) > 0 by rw [length_map]; omega)];exact Az ⟨rfl,_,rfl, "|", l2,wds due n,rfl,rfl,hl4,hok,qq⟩
end
theorem Go (nd:(due.map (·.1)).Nodup) (n:Nat):MD due n=((AT due).find? fun q=>decide (q.1=n)).map (·.2):=by
 have:∀ fs:List (Nat × Str),(∀ q ∈ fs,look due q.2=q.1)->(fs.map (·.2)).find? (fun x=>decide (look due x=n))=(fs.find? fun q=>decide (q.1=n)).map (·.2):=by
  intro fs;induction fs with
  | nil=>intro _; rfl
  | cons q r ih =>
   intro h;rw [map_cons,find?_cons,find?_cons,h q (mem_cons_self ..)];cases decide (q.1=n) with
   | true=>rfl
   | false=>exact ih fun x hx=>h x (mem_cons_of_mem _ hx)
 exact this _ fun q hq=>DA nd (Bt hq)
structure Wd (due:LN) (x:Str) (n:Nat):Prop where
 ok:WdOk due x
 pw:PW0 x.cps.toList
 v:wv due x=n
 len:x.length <= 13
theorem Ja (D:Bm due) {p:Str × Nat} (hp:p ∈ due):Wd due p.1 p.2/\p.1.length <= 6:=by
 obtain ⟨h1,h2,_⟩:=D.nm p hp;have h3:=h1;unfold Bq at h3;simp only [Bool.and_eq_true,decide_eq_true_eq] at h3;obtain ⟨⟨l1,l6⟩,up⟩:=h3;have sl:=BE p.1;refine ⟨⟨⟨h2,by omega,by omega,fun c hc=>?_,.inl ⟨h1,mem_map.mpr ⟨_,hp,rfl⟩⟩⟩,NS (by omega) (by omega) up,?_,by omega⟩,l6⟩
 ·have:=List.all_eq_true.mp up c hc;simp [Cm] at this;omega
 ·unfold wv;rw [if_pos h1];exact DA D.nd hp
abbrev Gp (n:Nat):Str:=Str.ofString (toString ((n:Nat):Int))
theorem NW (n:Nat):(Gp n).cps.toList=dg n:=by
 show (Str.ofString (toString (Int.ofNat n))).cps.toList=_;rw [PyProof.Rows.text_ofNat]
theorem Gq {n:Nat} (h:n < 2 ^ 40):Wd due (Gp n) n:=by
 have e:=NW n;have hd:=MA n
 have pw:=Oh (n:=n) (by have e40:(2:Nat) ^ 40=1099511627776:=by decide
                        omega)
 have sl:=BE (Gp n)
 have hl:(dg n).length <= 13:=by
  rw [length_map];exact toDigits_len_pow (by decide) (by decide) (Nat.lt_trans h (by decide))
 rw [e] at sl;have av:=pw.ne
 have hdc:∀ c ∈ (Gp n).cps.toList,48 <= c/\c <= 57:=fun c hc=>by
  rw [e] at hc;have:=List.all_eq_true.mp hd c hc;simpa [Cn] using this
 have hnm:Bq (Gp n)=false:=by
  unfold Bq
  have:(Gp n).cps.toList.all Cm=false:=by
   cases e2:(Gp n).cps.toList with
   | nil=>rw [e2] at e; rw [← e] at av; simp at av
   | cons c r =>
    have:=hdc c (by rw [e2]; exact mem_cons_self ..);simp [Cm];omega
  rw [this,Bool.and_false]
 refine ⟨⟨?_,by omega,by omega,fun c hc=>?_,.inr ⟨hnm,hdc⟩⟩,by rw [e]; exact pw,?_,by omega⟩
 ·rw [← Array.all_toList,List.all_eq_true];exact fun c hc=>decide_eq_true (by have:=hdc c hc; omega)
 ·have:=hdc c hc;omega
 ·unfold wv;rw [hnm,if_neg (by decide),e];exact W.KIN.val_back n
theorem ME:∀ ws:List Str,(Txt.join "|" ws).cps.toList=jl (ws.map (·.cps.toList)):=by
 have key:∀ (ws:List Str) (a:Array Nat),(ws.foldl (fun acc p=>acc++("|" : Str).cps++p.cps) a).toList=match ws with | []=>a.toList | _=>a.toList++124 :: jl (ws.map (·.cps.toList)):=by
  intro ws;induction ws with
  | nil=>intro a; rfl
  | cons w r ih =>
   intro a;rw [foldl_cons,ih]
   have e:(a++("|" : Str).cps++w.cps).toList=a.toList++124 :: w.cps.toList:=by
    rw [Array.toList_append,Array.toList_append,show ("|" : Str).cps.toList=[124] by decide +kernel];simp
   cases r with
   | nil=>rw [e]; rfl
   | cons v r=>rw [e]; simp [jl]
 intro ws;cases ws with
 | nil=>rfl
 | cons w r =>
  show (r.foldl (fun acc p=>acc++("|" : Str).cps++p.cps) w.cps).toList=_;rw [key];cases r with
  | nil=>rfl
  | cons v r=>rfl
theorem Iu (N:Nat):∀ ws:List (List Nat),(∀ w ∈ ws,w.length <= N)->(jl ws).length <= (N + 1) * ws.length
 | [],_=>by simp [jl]
 | [w],h=>by have:=h w (mem_cons_self ..); simp [jl]; omega
 | w :: v :: r,h=>by
  have h1:=h w (mem_cons_self ..);have h2:=Iu N (v :: r) fun x hx=>h x (mem_cons_of_mem _ hx);have e:(jl (w :: v :: r)).length=w.length + ((jl (v :: r)).length + 1):=by simp [jl]
  rw [e];rw [show (w :: v :: r).length=(v :: r).length + 1 from rfl,Nat.mul_succ];omega
theorem MF {f:Nat->Bool} (hf:f 124=true):∀ ws:List (List Nat),(∀ w ∈ ws,w.all f=true)->(jl ws).all f=true
 | [],_=>rfl
 | [w],h=>h w (mem_cons_self ..)
 | w :: v :: r,h=>by
  have h1:=h w (mem_cons_self ..);have h2:=MF hf (v :: r) fun x hx=>h x (mem_cons_of_mem _ hx);show (w++124 :: jl (v :: r)).all f=true;rw [all_append,all_cons,h1,hf,h2];rfl
structure Tells (due:LN) (z:Str) (n:Nat):Prop where
 as:z.cps.all (· < 128)=true
 len:z.length <= 100
 tx:∃ v ws,TxAt z 0 (v :: ws)/\(∀ x ∈ v :: ws,WdOk due x)/\ws.foldl (fun a x=>a ||| wv due x) (wv due v)=n
theorem Tells.one {x:Str} {n:Nat} (h:Wd due x n):Tells due x n:=by
 have hl:=h.len;refine ⟨h.ok.as,by omega,x,[],?_,fun y hy=>mem_singleton.mp hy ▸ h.ok,h.v⟩;have:=L1 (z:=x) (ws:=[x.cps.toList]) (pre:=[]) (by simp) rfl (fun w hw=>mem_singleton.mp hw ▸ h.pw);simpa using this
theorem NX {ws:List (List Nat)} {w:List Nat} (h:∀ x ∈ ws,x.length <= 6) (h10:ws.length <= 10) (hw:w.length <= 13):(jl (ws++[w])).length <= 100:=by
 have:∀ ws:List (List Nat),(jl (ws++[w])).length <= (jl ws).length + w.length + 1:=by
  intro ws;induction ws with
  | nil=>simp [jl]
  | cons a r ih =>
   cases r with
   | nil=>simp [jl]; omega
   | cons b r =>
    have e1:(jl (a :: b :: r)).length=a.length + ((jl (b :: r)).length + 1):=by simp [jl]
    have e2:(jl ((a :: b :: r)++[w])).length=a.length + ((jl ((b :: r)++[w])).length + 1):=by simp [jl]
    rw [e1,e2];omega
 have h1:=this ws;have h2:=Iu 6 ws h;omega
theorem Iv {m:Nat} (h:m ∈ AN due):(Bn (AT due) m,m) ∈ due:=Bt (KP (mem_keysS.mp (mem_filter.mp h).1))
abbrev inM (n:Nat):Nat->Bool:=fun m=>decide (m &&& n ≠ 0)
abbrev Ol (due:LN) (n:Nat):List Nat:=if BL due n=0 then [] else [BL due n]
theorem MH (due:LN) (n:Nat):AZ ((AN due).filter (inM n)++Ol due n)=n:=by
 refine Nat.eq_of_testBit_eq fun k=>?_;rw [BD,List.any_append]
 have hr:(Ol due n).any (·.testBit k)=(n.testBit k && !(AZ (AN due)).testBit k):=by
  rw [← NI];show (if BL due n=0 then [] else [BL due n]).any (·.testBit k)=(BL due n).testBit k;split
  ·rename_i h;rw [h];simp
  ·simp
 rw [hr];cases e:n.testBit k with
 | false =>
  rw [Bool.false_and,Bool.or_false,List.any_eq_false];intro m hm hb;obtain ⟨h1,h2⟩:=mem_filter.mp hm;obtain ⟨j,rfl⟩:=Be (mem_filter.mp h1).2;rw [Nat.testBit_two_pow,decide_eq_true_eq] at hb;subst hb;refine of_decide_eq_true h2 (Nat.eq_of_testBit_eq fun i=>?_);rw [Nat.testBit_and,Nat.testBit_two_pow,Nat.zero_testBit];by_cases z:j=i
  ·rw [← z,e,Bool.and_false]
  ·rw [decide_eq_false z,Bool.false_and]
 | true =>
  rw [Bool.true_and,BD];cases e2:(AN due).any (·.testBit k) with
  | false=>simp
  | true =>
   obtain ⟨m,hm,hb⟩:=any_eq_true.mp e2
   have:((AN due).filter (inM n)).any (·.testBit k)=true:=by
    refine any_eq_true.mpr ⟨m,mem_filter.mpr ⟨hm,decide_eq_true fun z=>?_⟩,hb⟩;have:=congrArg (fun x=>x.testBit k) z;simp only [Nat.testBit_and,Nat.zero_testBit,hb,e] at this;cases this
   rw [this];rfl
theorem Eu {n:Nat} (h:n < 2 ^ 40):BL due n < 2 ^ 40:=Nat.lt_of_le_of_lt (Nat.sub_le ..) h
theorem Ix (D:Bm due) {n:Nat} (h:n < 2 ^ 40):∀ x ∈ wds due n,Wd due x (wv due x):=fun x hx=>by
 have key:∀ m,Wd due x m->Wd due x (wv due x):=fun m w=>by rw [w.v]; exact w
 rcases mem_append.mp hx with z | z
 ·obtain ⟨m,hm,rfl⟩:=mem_map.mp z;exact key _ (Ja D (Iv (mem_filter.mp hm).1)).1
 ·split at z
  ·cases z
  ·rw [mem_singleton.mp z];rw [mem_singleton.mp z] at key;exact key _ (Gq (Eu h))
theorem Pl (D:Bm due) {n:Nat} (h:n < 2 ^ 40):(wds due n).map (wv due)=(AN due).filter (inM n)++Ol due n:=by
 unfold wds;rw [map_append];refine congr (congrArg _ ?_) ?_
 ·unfold A2;rw [map_map]
  conv=>rhs; rw [← map_id ((AN due).filter (inM n))]
  refine List.map_congr_left fun m hm=>?_;exact (Ja D (Iv (mem_filter.mp hm).1)).1.v
 ·show _=if BL due n=0 then [] else [BL due n]
  split
  ·rfl
  ·rw [List.map_singleton,(Gq (due:=due) (Eu h)).v]
theorem NY (due:LN) (v:Str) (ws:List Str):ws.foldl (fun a x=>a ||| wv due x) (wv due v)=AZ ((v :: ws).map (wv due)):=by
 unfold AZ;rw [map_cons,foldl_cons,Nat.zero_or,List.foldl_map]
theorem Gr (D:Bm due) (n:Nat):(A2 due n).length <= 10:=by
 unfold A2;rw [length_map];exact Nat.le_trans (length_filter_le _ _) (Nat.le_trans (B3 due) D.len)
theorem Om (D:Bm due) {n:Nat} (h:n < 2 ^ 40):(jl ((wds due n).map (·.cps.toList))).length <= 100:=by
 have h10:=Gr D n
 have h6:∀ w ∈ (A2 due n).map (·.cps.toList),w.length <= 6:=fun w hw=>by
  obtain ⟨x,hx,rfl⟩:=mem_map.mp hw;obtain ⟨m,hm,rfl⟩:=mem_map.mp hx;have:=(Ja D (Iv (mem_filter.mp hm).1)).2;rw [BE];exact this
 unfold wds;split
 ·rw [append_nil];have:=Iu 6 _ h6;rw [length_map] at this;omega
 ·rw [map_append];refine NX h6 (by rw [length_map]; exact h10) ?_;rw [BE];exact (Gq (due:=due) (Eu h)).len
theorem Gs (D:Bm due) {n:Nat} (h:n < 2 ^ 40):JoinOk "|" (wds due n)=true:=by
 have key:∀ (ws:List Str) (a:Nat),(∀ x ∈ ws,x.length <= 13)->ws.foldl (fun a x=>a + x.length + ("|" : Str).length) a <= a + 14 * ws.length:=by
  intro ws;induction ws with
  | nil=>intro a _; exact Nat.le_refl _
  | cons w r ih =>
   intro a hw;have h1:=hw w (mem_cons_self ..);have h2:=ih (a + w.length + ("|" : Str).length) fun x hx=>hw x (mem_cons_of_mem _ hx);have h3:("|" : Str).length=1:=by decide +kernel
   rw [foldl_cons];rw [h3] at h2 ⊢;simp only [length_cons];omega
 have h1:=key (wds due n) 0 fun x hx=>(Ix D h x hx).len;have h10:=Gr D n
 have h11:(wds due n).length <= 11:=by
  unfold wds;rw [length_append];split
  ·simp; omega
  ·simp; omega
 unfold JoinOk;rw [List.foldl_toArray']
 ·show (!decide (_ > sizeLine))=true
  rw [decide_eq_false (by unfold sizeLine; have:(2:Nat) ^ 24=16777216:=by decide
                          omega)]
  rfl
 ·simp
theorem Eg (D:Bm due) {n:Nat} (h:n < 2 ^ 40):Tells due (BZ due n) n:=by
 unfold BZ;cases e:MD due n with
 | some x =>
  rw [Go D.nd] at e;obtain ⟨q,hq,rfl⟩:=Option.map_eq_some_iff.mp e;have hn:=of_decide_eq_true (List.find?_some (p:=fun q:Nat × Str=>decide (q.1=n)) hq);subst hn;exact Tells.one (Ja D (Bt (List.mem_of_find?_eq_some hq))).1
 | none =>
  show Tells due (if wds due n=[] then ("0" : Str) else Txt.join "|" (wds due n)) n;have hv:=Pl D h;have ho:=MH due n;rw [← hv] at ho;by_cases hw:wds due n=[]
  ·rw [if_pos hw];rw [hw] at ho;have:n=0:=ho.symm;subst this;have e0:("0" : Str)=Gp 0:=by decide +kernel
   rw [e0];exact Tells.one (Gq (by decide))
  ·rw [if_neg hw];have ww:=Ix D h;have hj:=Om D h;have hc:=ME (wds due n);have sl:=BE (Txt.join "|" (wds due n));rw [hc] at sl
   have tx:=L1 (z:=Txt.join "|" (wds due n)) (ws:=(wds due n).map (·.cps.toList)) (pre:=[]) (by simpa using hw) (by rw [hc]; rfl) (fun w hw=>by
    obtain ⟨x,hx,rfl⟩:=mem_map.mp hw
    exact (ww x hx).pw)
   rw [map_map] at tx
   have eid:(wds due n).map ((fun w=>(⟨w.toArray⟩:Str)) ∘ fun x:Str=>x.cps.toList)=wds due n:=by
    conv=>rhs; rw [← map_id (wds due n)]
    exact List.map_congr_left fun x _=>rfl
   rw [eid] at tx;refine ⟨?_,by omega,?_⟩
   ·rw [← Array.all_toList,hc];refine MF (by decide) _ fun w hw=>?_;obtain ⟨x,hx,rfl⟩:=mem_map.mp hw;have:=(ww x hx).ok.as;rw [← Array.all_toList] at this;exact this
   ·cases e2:wds due n with
    | nil=>exact absurd e2 hw
    | cons v ws =>
     rw [e2] at tx ww ho;exact ⟨v,ws,tx,fun x hx=>(ww x hx).ok,(NY due v ws).trans ho⟩
theorem Pm {x:Str} (h:NK x) (h':NL x):False:=by
 rcases h with z | ⟨_,z,_⟩
 ·rw [h'.1] at z; cases z
 ·rw [h'.2] at z; cases z
theorem PtAt.det {z:Str} {a n m:Nat} (h:PtAt z a n) (h':PtAt z a m):n=m:=by
 have key:∀ {n m:Nat},PtAt z a n->PtAt z a m->¬ n < m:=fun {n m} h h' hlt=>by
  have:=h'.le;exact Pm (h'.ok (n + 1) (by omega) (by omega)) (h.no (by omega))
 have:=key h h';have:=key h' h;omega
theorem TxAt.det {z:Str}:∀ {a:Nat} {ws ws':List Str},TxAt z a ws->TxAt z a ws'->ws=ws'
 | _,_,_,.one a n h hn he,.one _ m h' hm he'=>by rw [h.det h']
 | _,_,_,.one a n h hn he,.cons _ m ws h' hm hb r=>by
  have:=h.det h';subst this;have:=r.lt;omega
 | _,_,_,.cons a n ws h hn hb r,.one _ m h' hm he=>by
  have:=h.det h';subst this;have:=r.lt;omega
 | _,_,_,.cons a n ws h hn hb r,.cons _ m ws' h' hm hb' r'=>by
  have:=h.det h';subst this;rw [r.det r']
theorem NZ (D:Bm due) {n m:Nat} (h:n < 2 ^ 40) (h':m < 2 ^ 40) (e:BZ due n=BZ due m):n=m:=by
 obtain ⟨v,ws,t,_,q⟩:=(Eg D h).tx;obtain ⟨v',ws',t',_,q'⟩:=(Eg D h').tx;rw [e] at t;have:=t.det t';cases this;exact q.symm.trans q'
theorem Iy {ms:List Addr} {i:Nat} {v:V} (h:TupsAt H ms (B2 due)) (e:(ms.map V.ref)[i]?=some v):∃ b n,v=.ref b/\(AN due)[i]?=some n/\H b=some (.tup [.str (Bn (AT due) n),.int (n:Int)]):=by
 rw [getElem?_map] at e;obtain ⟨b,hb,rfl⟩:=Option.map_eq_some_iff.mp e;obtain ⟨pr,hpr,ag⟩:∃ pr,(B2 due)[i]?=some pr/\H b=some (.tup [pr.1,pr.2]):=DL h hb;unfold B2 at hpr;rw [getElem?_map] at hpr;obtain ⟨m,hm,rfl⟩:=Option.map_eq_some_iff.mp hpr;exact ⟨b,m,rfl,hm,ag⟩
structure LTab (H:Hp) (t e m:Addr) (ms:List Addr) (due:LN):Prop where
 tab:H t=some (.dK (Im due e m))
 fst:H e=some (.dK (BU (AT due)))
 mrk:H m=some (.lst (ms.map V.ref))
 its:TupsAt H ms (B2 due)
theorem LTab.same {t e m:Addr} {ms:List Addr} (h:LTab H t e m ms due) (s:Same H H'):LTab H' t e m ms due:=⟨s _ _ h.tab,s _ _ h.fst,s _ _ h.mrk,TupsAt.same s h.its⟩
section
inductive spLTx (vs:List V) (H:Hp) (Q:VK) (_E:XK):Prop where
 | mk (t e m:Addr) (ms:List Addr) (due:LN) (n:Nat) (z_0:vs=[.ref t,.int (n:Int)]) (z_1:LTab H t e m ms due) (z_2:Bm due) (z_3:n < 2 ^ 40) (z_4:∀ H',Same H H'->Q (.str (BZ due n)) H')
abbrev QS:List Str:=["_law_table", "_law_number", "_law_words", "_law_strange"]
theorem scLTx:AK QS ["_law_table", "_law_number"] (defScope Dm):=fsc
theorem On (F:Fun K "_law_text_of" "_law_text_of" Dm f fd) (B:Bl mg):AX P w K mg base CX0 1 f fd ["_law_table", "_law_number"] spLTx:=by
 refine F.ok scLTx (fun vs H Q E h=>?_) (fun ac A outer s H vs Q E hr h=>?_)
 ·obtain ⟨t,e,m,ms,due,n,rfl,_⟩:=h;rfl
 ·obtain ⟨t,e,m,ms,due,n,rfl,L,D,hn,q⟩:=h;have hu:=Ck hr;have hu64:=hr.units;have nd:=scLTx.nd
  refine ⟨_,AE (Ag (EK (IL hu (pv 1) (BN hu (pv 0) Ae (fun _ _=>rfl)))) (AD (AM (BN hu (BN hu (pv 0) Ae (fun _ _=>rfl)) (pv 1) (fun _ _=>rfl)))) AU)
   (AE (Kx (i:=2) nd rfl (by kernel_rfl) ["_law_number"] [some 1] (by kernel_rfl) (by decide +kernel) (by kernel_rfl) (by kernel_rfl) rfl (A6 (BN hu (pv 0) Ae (fun _ _=>rfl))) (fun _ _ _ _ _ _=>DH (AO Ct (Aa Cr (pv 2) (pv 1)) AI (AS _))) (fun _ _ _ _ _ _=>pv 0))
   (AE (Ac (i:=3) nd rfl (Or.inl rfl) (Aa Hy (pv 1) (Aa Cr (pv 1) (BN hu (pv 0) Ae (fun _ _=>rfl)))))
   (Ax (Ac (i:=2) nd rfl (Or.inl rfl) (Aa N8 (pv 2) (Bh (AO Ez (pv 3) AI (AS _)) (A4 (AA (BB D0 rfl B.str Do (AA (pv 3) AC)) AC)) (A4 AC))))
   (AD (AM (Bh (AO (IU K rfl hu64) (pv 2) (A4 AC) (AS _)) (Ci PySem.F.plainAttrs_str PySem.F.slot_str_join PySem.F.type_str_join JM Ae (AA (pv 2) AC)) Ae)))))),?_⟩
  have ej:=Gs D hn;have h10:=Gr D n;by_cases hf:n ∈ (AT due).map (·.1)
  ·refine ⟨_,rfl,_,rfl,t,_,rfl,.inl ⟨_,Sum.inr "firsts", .inl L.tab,rfl,(Du _ _ _).symm⟩,e,_,rfl,.inl ⟨_,Sum.inl (n:Int),.inl L.fst,rfl,(CM hf).symm⟩,_,rfl,?_⟩;refine Az ⟨_,rfl,t,_,rfl,.inl ⟨_,Sum.inr "firsts", .inl L.tab,rfl,(Du _ _ _).symm⟩,_,rfl,e,_,rfl,.inl ⟨_,Sum.inl (n:Int),.inl L.fst,rfl,(CM hf).symm⟩,?_⟩
   have et:BZ due n=Bn (AT due) n:=by
    unfold BZ;rw [Go D.nd];unfold Bn;obtain ⟨c,hc⟩:=Option.isSome_iff_exists.mp (Ds hf);rw [hc];rfl
   rw [← et];exact q _ (Same.refl _)
  ·have et:BZ due n=if wds due n=[] then ("0" : Str) else Txt.join "|" (wds due n):=by
    have:(AT due).find? (fun q=>decide (q.1=n))=none:=by
     rw [List.find?_eq_none];intro x hx z;exact hf (mem_map.mpr ⟨x,hx,of_decide_eq_true z⟩)
    unfold BZ;rw [Go D.nd,this];rfl
   rw [et] at q;refine ⟨_,rfl,_,rfl,t,_,rfl,.inl ⟨_,Sum.inr "firsts", .inl L.tab,rfl,(Du _ _ _).symm⟩,e,_,rfl,.inl ⟨_,Sum.inl (n:Int),.inl L.fst,rfl,(DJ hf).symm⟩,_,rfl,?_⟩;refine Af ?_
   have ap:(ms.map V.ref).length=(AN due).length:=by
    have h1:=L.its.length;rw [Fz] at h1;rw [length_map,h1]
   refine ⟨_,rfl,t,_,rfl,.inl ⟨_,Sum.inr "marks", .inl L.tab,rfl,(KM _ _ _).symm⟩,m,rfl,⟨_,SqL.of L.mrk⟩,BR (K:=K) (a:=m) (xs:=ms.map V.ref) (fun i ys H2=>ys=((((AN due).take i).filter fun m=>decide (m &&& n ≠ 0)).map (Bn (AT due))).map V.str/\H2=H) ⟨rfl,rfl⟩ (fun i ys H2 _ ⟨_,e⟩=>e ▸ SqL.of L.mrk) (fun i ys H2 ⟨e,_⟩=>?_) ?_ ?_⟩
   ·rw [e,length_map,length_map];have h3:(((AN due).take i).filter fun m=>decide (m &&& n ≠ 0)).length <= ((AN due).take i).length:=length_filter_le _ _;rw [length_take] at h3;have h4:=B3 due;have h5:=D.len;omega
   ·rintro i v ys H2 hi ⟨rfl,rfl⟩;obtain ⟨b,k,rfl,hk,ag⟩:=Iy L.its hi;refine ⟨b,_,rfl,SqT.of ag,rfl,_,_,rfl,_,_,rfl,rfl,?_⟩;refine ⟨_,rfl,_,rfl,_,_,rfl,rfl,rfl,_,rfl,?_⟩;have eT:(((AN due).take (i + 1)).filter fun m=>decide (m &&& n ≠ 0))=((AN due).take i).filter (fun m=>decide (m &&& n ≠ 0))++(if decide (k &&& n ≠ 0) then [k] else []):=PySem.take_succ_filter (fun m=>decide (m &&& n ≠ 0)) _ i k hk
    have ed:(!decide (V.int (Builtin.bitAnd (n:Int) (k:Int))=V.int 0))=decide (k &&& n ≠ 0):=by
     rw [Bp,Nat.and_comm];by_cases z:k &&& n=0
     ·rw [z]; rfl
     ·rw [decide_eq_true z,decide_eq_false (fun y=>z (by have:=V.int.inj y; omega))]; rfl
    show if (!decide (V.int (Builtin.bitAnd (n:Int) (k:Int))=V.int 0))=true then _ else _
    rw [ed];refine BS (fun hq=>?_) (fun hq=>?_)
    ·refine ⟨_,rfl,?_,rfl⟩;rw [eT,if_pos hq,map_append,map_append];rfl
    ·refine ⟨?_,rfl⟩;rw [eT,if_neg hq,append_nil]
   ·rintro ys H2 ⟨rfl,rfl⟩ l hl;rw [ap,take_length];show _;have s1:=AG (Same.refl _) hl (o:=HO.lst ((A2 due n).map V.str));have h1:=AB (H:=H2) (a:=l) (o:=HO.lst ((A2 due n).map V.str));have gl:∀ {R:Hp->Prop},R (upd H2 l (HO.lst ((A2 due n).map V.str)))->R (upd H2 l (HO.lst ((((AN due).filter fun m=>decide (m &&& n ≠ 0)).map (Bn (AT due))).map V.str))):=fun h=>h;refine gl ?_;generalize upd H2 l (HO.lst ((A2 due n).map V.str))=H3 at s1 h1 ⊢;refine ⟨_,rfl,_,rfl,_,rfl,t,_,rfl,.inl ⟨_,Sum.inr "bits", .inl (s1 _ _ L.tab),rfl,(Lq _ _ _).symm⟩,_,_,rfl,rfl,_,_,rfl,rfl,?_⟩
    have er:V.int ((n:Int) - Builtin.bitAnd (n:Int) ((AZ (AN due):Nat):Int))=V.int ((BL due n:Nat):Int):=by
     rw [Bp];unfold BL;have:=Nat.and_le_left (n:=n) (m:=AZ (AN due));congr 1;omega
    refine ⟨fun σ H'=>(∃ v3,σ=[some (.ref t),some (.int (n:Int)),some (.ref v3),some (V.int ((n:Int) - Builtin.bitAnd (n:Int) ((AZ (AN due):Nat):Int)))]/\H' v3=some (.lst ((wds due n).map V.str)))/\Same H2 H',fun R hR=>?_,?_⟩
    ·show _;refine ⟨_,rfl,_,rfl,_,_,rfl,rfl,_,rfl,?_⟩;have er':(n:Int) - Builtin.bitAnd (n:Int) ((AZ (AN due):Nat):Int)=((BL due n:Nat):Int):=V.int.inj er;rw [er'];by_cases h0:BL due n=0
     ·rw [h0,decide_eq_false (show ¬ ((0:Nat):Int) > 0 by omega)];refine Af ⟨(by show 0 <= sizeLine; decide),fun p hp=>?_⟩;have s2:=AG s1 hp (o:=HO.lst []);refine ⟨l,p,_,_,rfl,rfl,AG (Same.refl _) hp _ _ h1,AB,Nat.le_of_lt (AQ (by simp; omega)),fun c hc=>hR _ _ ⟨⟨c,?_,?_⟩,AG s2 hc⟩⟩
      ·rfl
      ·rw [AB];unfold wds;rw [if_pos h0,append_nil,append_nil]
     ·rw [decide_eq_true (show ((BL due n:Nat):Int) > 0 by omega)];refine Az ⟨_,rfl,⟨((BL due n:Nat):Int),congrArg (fun v=>[v]) er,F3 (Eu hn),sl1,fun p hp=>?_⟩⟩;have s2:=AG s1 hp (o:=HO.lst [V.str (Gp (BL due n))]);refine ⟨l,p,_,_,rfl,rfl,AG (Same.refl _) hp _ _ h1,AB,Nat.le_of_lt (AQ (by simp; omega)),fun c hc=>hR _ _ ⟨⟨c,rfl,?_⟩,AG s2 hc⟩⟩;rw [AB];unfold wds;rw [if_neg h0,map_append];rfl
    ·rintro σ H4 ⟨⟨c,rfl,hc⟩,s4⟩;refine ⟨_,rfl,(by show 0 <= sizeLine; decide),fun p hp=>?_⟩;have s5:=AG (Same.refl _) hp (o:=HO.lst []);have hp5:=AB (H:=H4) (a:=p) (o:=HO.lst []);generalize upd H4 p (HO.lst [])=H5 at s5 hp5 ⊢;refine ⟨_,_,Bi (s5 _ _ hc) (HU _),Bi hp5 Et,HW fun x hx=>(Ix D hn x hx).ok.as,Cf,_,rfl,?_⟩;have qq:=q H5 (s4.trans s5);by_cases hw:wds due n=[]
     ·rw [if_pos hw] at qq;rw [hw];exact Af qq
     ·rw [if_neg hw] at qq
      have:PyData.eqv (.list ((wds due n).map PyData.str)) (.list [])=false:=by
       cases e:wds due n with
       | nil=>exact absurd e hw
       | cons a r=>simp [PyData.eqv,PyData.eqvAll]
      rw [this];exact Az ⟨rfl,_,rfl, "|", c,wds due n,rfl,rfl,s5 _ _ hc,ej,qq⟩
end
end Mk
end
section
namespace Mk
open PySem L2 MK
section
theorem MJ {ns:List Str} (hs:∀ x ∈ ns,x ∈ due.map (·.1)):AZ (ns.map (look due)) - (AZ (ns.map (look due)) &&& kn due)=0:=by
 have h:AZ (ns.map (look due)) &&& kn due=AZ (ns.map (look due)):=by
  refine Nat.eq_of_testBit_eq fun k=>?_;rw [Nat.testBit_and];cases e:(AZ (ns.map (look due))).testBit k with
  | false=>rfl
  | true =>
   rw [BD,any_map,any_eq_true] at e;obtain ⟨x,hx,hb⟩:=e;simp only [Function.comp] at hb
   have:(kn due).testBit k=true:=by
    unfold kn;rw [BD,any_map,any_eq_true];unfold look at hb;cases q:due.find? fun p=>decide (p.1=x) with
    | none=>rw [q] at hb; simp at hb
    | some p=>rw [q] at hb; exact ⟨p,List.mem_of_find?_eq_some q,hb⟩
   rw [this]; rfl
 omega
theorem ML {ns:List Str} (h:∀ p ∈ due,p.2 < 2 ^ 20):AZ (ns.map (look due)) < 2 ^ 20:=by
 refine FE fun n hn=>?_;obtain ⟨x,_,rfl⟩:=mem_map.mp hn;unfold look;cases q:due.find? fun p=>decide (p.1=x) with
 | none=>show 0 < 2 ^ 20; decide
 | some p=>exact h p (List.mem_of_find?_eq_some q)
inductive spVOf (C VC:Addr) (vs:List V) (H:Hp) (Q:VK) (_E:XK):Prop where
 | mk (kp l:Addr) (due:LN) (r:Str) (ns:List Str) (z_0:vs=[.ref kp,.ref l]) (z_1:KindAt C H kp due r) (z_2:H l=some (.lst (ns.map V.str))) (z_3:ns.length <= 100) (z_4:(∀ x ∈ ns,x ∈ due.map (·.1))) (z_5:(∀ p ∈ due,p.2 < 2 ^ 20)) (z_6:∀ q H',Same H H'->ValAt VC H' q kp (AZ (ns.map (look due)))->Q (.ref q) H')
theorem Ka:AK ["kind", "names"] ["kind", "names"] (defScope FL):=fsc
theorem Iz (F:Fun K "value_of" "value_of" FL f fd) (B:Bl mg) (T:CN K C) (VO:JS P w K mg base C VC) (GU:Fn P w K mg base "union_of" 1 ["numbers"] (spUnionOf K)) (GNu:Mt P w K mg base C "number" 2 ["self", "name"] (spNumber C)) :
  AX P w K mg base CX0 6 f fd ["kind", "names"] (spVOf C VC):=by
 obtain ⟨fU,dU,GU,mU,kU,bU⟩:=GU.ex;obtain ⟨fN,dN,GN,mN,bN⟩:=GNu.ex;obtain ⟨fI,dI,MI,GI,bI⟩:=VO.make;have mV:=VO.cls;refine F.ok Ka (fun vs H Q E h=>?_) (fun ac A outer s H vs Q E hr h=>?_)
 ·obtain ⟨kp,l,due,r,ns,rfl,_⟩:=h;rfl
 ·obtain ⟨kp,l,due,r,ns,rfl,KA,hl,hn,hs,hlt,k⟩:=h;have hr1:Room 1 _:=hr.mono (by decide);have hr2:Room 2 _:=hr.mono (by decide);obtain ⟨dxk,d1,d2,ae⟩:=KA.ins;have hnl:(ns.map V.str).length=ns.length:=length_map _
  have step:∀ (Hx:Hp),Same H Hx->∀ (i:Nat) (v:V) (ys:List V),(ns.map V.str)[i]?=some v->ys=An ((ns.take i).map (look due))->∃ x,v=V.str x/\x ∈ due.map (·.1)/\ys++[V.int (look due x:Nat)]=An ((ns.take (i + 1)).map (look due)):=by
   intro Hx sx i v ys hi e;rw [getElem?_map] at hi;obtain ⟨x,hx,rfl⟩:=Option.map_eq_some_iff.mp hi;refine ⟨x,rfl,hs x (mem_of_getElem? hx),?_⟩;rw [e,take_add_one,hx,Option.toList_some,map_append];unfold An;rw [map_append];rfl
  have el:ns.take (ns.map V.str).length=ns:=by rw [hnl]; exact take_length
  refine ⟨_,AE (Ag (BH (Av (AV (IV K rfl) rfl B.isi Gj (AA (pv 1) (AA (CT (AA (F5 (v:=.ty "list") rfl B.list DI rfl) (AA (F5 (v:=.ty "tuple") rfl B.tuple D9 rfl) AC))) AC))))) (AD AW) AU)
   (AD (AM (GA MI GI hr rfl mV bI .nil AL (AA (pv 0) (AA (AJ GU hr1 rfl mU kU bU .nil AL (AA (BX ["kind"] [some 0] (by kernel_rfl) (by decide +kernel) (by kernel_rfl) rfl (A6 (pv 1)) (fun _ _ _ _ _ _=>Bd) (fun _ _ _ _ _ _=>B7 (pv 1) T.cl mN GN hr2 bN .nil AL (AA (pv 0) AC))) AC)) AC))))),?_⟩
  refine ⟨_,rfl,sl2,fun t ht=>?_⟩;have s1:=AG (Same.refl _) ht (o:=HO.tup [V.ty "list", V.ty "tuple"]);refine ⟨l,t,_,rfl,.inl (s1 _ _ hl),SqT.of AB,_,rfl,?_⟩;refine Af ?_;refine ⟨_,rfl,_,rfl,l,rfl,⟨_,SqL.of (s1 _ _ hl)⟩,BR (K:=K) (a:=l) (xs:=ns.map V.str) (fun i ys H2=>ys=An ((ns.take i).map (look due))/\H2=upd H t (.tup [V.ty "list", V.ty "tuple"])) ⟨rfl,rfl⟩ (fun i ys H2 _ ⟨_,e⟩=>e ▸ SqL.of (s1 _ _ hl)) (fun i ys H2 ⟨e,_⟩=>?_) ?_ ?_⟩
  ·rw [e]; unfold An; rw [length_map,length_map,length_take]; omega
  ·rintro i v ys H2 hi ⟨e,rfl⟩;obtain ⟨x,rfl,hx,ey⟩:=step _ s1 i v ys hi e;exact ⟨_,rfl,kp,dxk,_,rfl,s1 _ _ ae,(BY _ _ _),_,rfl,kp,due,r,x,rfl,KA.same s1,hx,ey,rfl⟩
  ·rintro ys H2 ⟨rfl,rfl⟩ p hp;rw [el];have s2:=s1.trans (AG (Same.refl _) hp (o:=HO.lst (An (ns.map (look due)))));refine ⟨p,ns.map (look due),rfl,SqL.of AB,?_⟩;intro q dq hq hdq av;have sN:=DB (D:=VC) hq hdq av;refine ⟨q,dq,kp,due,r,AZ (ns.map (look due)),rfl,AB,(KA.same s2).same sN,?_,.inr (MJ hs),fun H3 s3 hV=>⟨rfl,?_⟩⟩
   ·have:=ML (ns:=ns) hlt;have h2:(2:Nat) ^ 20 < 2 ^ 40:=by decide
    omega
   ·exact k q H3 (s2.trans (CO sN hq s3)) hV
end
end Mk
end
section
namespace L2
open PySem
theorem MM {a b:Addr} {xs zs:List V} {g:TG} {tt:TT} {te:TE} {ix:List (Option Nat)} {R:List V->Hp->Prop} {σ:St} {H1:Hp} (Pv:Nat->List V->Hp->Prop) (hxz:xs.length=zs.length) (h0:Pv 0 [] H1) (hl:∀ i ys H,i <= xs.length->Pv i ys H->SqL K H a xs/\SqL K H b zs) (hz:∀ i ys H,Pv i ys H->ys.length <= 1000)
  (hs:∀ i x z ys H p,xs[i]?=some x->zs[i]?=some z->Pv i ys H->H p=none->g (.ref p) (By ix σ) (upd H p (.tup [x,z])) fun σ2 H2=>tt σ2 H2 fun b H3=>if b=true then te σ2 H3 fun y H4=>Pv (i + 1) (ys++[y]) H4 else Pv (i + 1) ys H3) (hd:∀ ys H,Pv xs.length ys H->R ys H) :
  ∃ W:Nat->Nat->List V->Hp->Prop,(∃ m,W 0 m [] H1)/\∀ i m ys H,W i m ys H ->
   ((Itz K a b).stop i H/\ys.length <= sizeLine/\R ys H) \/
   ((Itz K a b).go i H/\∃ N:List V->Hp->Prop,(∀ ys' H',N ys' H'->ys'.length <= sizeLine/\∃ m',m' < m/\W (i + 1) m' ys' H') /\
    ∀ x H',(Itz K a b).yld i H x H'->g x (By ix σ) H' fun σ2 H2=>tt σ2 H2 fun b H3=>if b=true then te σ2 H3 fun y H4=>N (ys++[y]) H4 else N ys H3):=by
 refine ⟨fun i m ys H=>m=xs.length - i/\i <= xs.length/\Pv i ys H,⟨_,rfl,Nat.zero_le _,h0⟩,?_⟩;rintro i m ys H ⟨rfl,hi,hp⟩;obtain ⟨q1,q2⟩:=hl i ys H hi hp;by_cases hlt:i < xs.length
 ·have hx:xs[i]?=some xs[i]:=List.getElem?_eq_getElem hlt;have hz':zs[i]?=some (zs[i]'(by omega)):=List.getElem?_eq_getElem (by omega);refine .inr ⟨⟨xs,zs,_,_,q1,q2,hx,hz'⟩,Pv (i + 1),fun ys' H' q=>⟨Nat.le_of_lt (AQ (hz _ ys' H' q)),xs.length - (i + 1),by omega,rfl,hlt,q⟩,?_⟩;rintro v H' ⟨p,x,y,hn,rfl,h1,h2,rfl⟩;exact hs i x y ys H p (h1 _ q1) (h2 _ q2) hp hn
 ·have e:i=xs.length:=by omega
  subst e;exact .inl ⟨⟨xs,zs,q1,q2,.inl (Nat.le_refl _)⟩,Nat.le_of_lt (AQ (hz _ ys H hp)),hd ys H hp⟩
end L2
namespace Mk
open PySem L2 MK PySem.NumText
def gV3 (vs zs:List V):List V:=match vs,zs with | [a,b],[c]=>[a,b,c] | _,_=>[]
def gU3 (us ws:List Value):List Value:=match us,ws with | [a,b],[c]=>[a,b,c] | _,_=>[]
structure MO (P:Program) (w:World) (K:FG) (mg:SV) (base:Heap) (C:Addr):Prop where
 T:CN K C
 cls:mg "Kind" = some (.ref C)
 make:∃ f fd,Mk K C f/\AX P w K mg base CX0 6 f fd ["self", "rows", "rest"] (spInit C) /\
  (∃ g,DV K fd ["self", "rows", "rest"] ["rest"] g gV3)/\∃ ds,Binds K fd ["self", "rows", "rest"] ds/\Vals [.str "bar"] ds
def Rx (d:Addr) (H H':Hp):Prop:=∀ b o,H b=some o->b ≠ d->H' b=some o
theorem Rx.refl (d:Addr) (H:Hp):Rx d H H:=fun _ _ e _=>e
theorem Rx.same {d:Addr} {H1 H2:Hp} (r:Rx d H H1) (s:Same H1 H2):Rx d H H2:=fun b o e h=>s _ _ (r b o e h)
theorem Rx.sameX {d:Addr} {H1 H2:Hp} (r:Rx d H H1) (s:SameX d H1 H2):Rx d H H2:=fun b o e h=>s.old _ _ (r b o e h) h
theorem Rx.put {d p:Addr} {H1:Hp} {o:HO} (r:Rx d H H1) (h:H p=none):Rx d H (upd H1 p o):=fun b u e hb=>by
 rw [AF (AH e h)];exact r b u e hb
theorem Rx.kind {d kp:Addr} {H1:Hp} {r:Str} {x y:Int} (hd:H d=some (.lst [.int x,.int y])) (s:Rx d H H1) (KA:KindAt C H kp due r):KindAt C H1 kp due r:=by
 obtain ⟨dx,d1,o1,d2,o2,e1,e2,e3⟩:=KA.ex;exact ⟨dx,d1,o1,d2,o2,s _ _ e1 (Cg e1 hd fun z=>nomatch z),s _ _ e2 (Cg e2 hd fun z=>nomatch z),s _ _ e3 (Cg e3 hd fun z=>nomatch z)⟩
theorem Rx.tab {d t e m:Addr} {ms:List Addr} {H1:Hp} {x y:Int} (hd:H d=some (.lst [.int x,.int y])) (s:Rx d H H1) (L:LTab H t e m ms due):LTab H1 t e m ms due:=by
 refine ⟨s _ _ L.tab (Cg L.tab hd fun z=>nomatch z),s _ _ L.fst (Cg L.fst hd fun z=>nomatch z),s _ _ L.mrk (Cg L.mrk hd fun z=>?_),TupsAt.sameT (fun b xs e=>s _ _ e (Cg e hd fun z=>nomatch z)) L.its⟩;have z':=HO.lst.inj z;cases ms with
 | nil=>cases z'
 | cons b r=>cases z'
theorem Rx.rd {d bd:Addr} {H1:Hp} {kvs:LK} {x y:Int} (hd:H d=some (.lst [.int x,.int y])) (s:Rx d H H1) (h:Rd H bd (.dK kvs)):Rd H1 bd (.dK kvs):=by
 rcases h with h | ⟨o,h⟩
 ·exact .inl (s _ _ h (Cg h hd fun z=>nomatch z))
 ·exact .inr ⟨o,s _ _ h (Cg h hd fun z=>nomatch z)⟩
def txs (due:LN) (vs:List Nat):List V:=vs.map fun n=>V.str (BZ due n)
structure In (d tx nm:Addr) (due:LN) (H0:Hp) (vs:List Nat) (H:Hp):Prop where
 rx:Rx d H0 H
 dice:∃ x y:Int,H d=some (.lst [.int x,.int y])
 ht:H tx=some (.lst (txs due vs))
 hn:H nm=some (.lst (An vs))
theorem In.same {d tx nm:Addr} {H0:Hp} {vs:List Nat} (I:In d tx nm due H0 vs H) (s:Same H H'):In d tx nm due H0 vs H':=by
 obtain ⟨x,y,hd⟩:=I.dice;exact ⟨I.rx.same s,⟨x,y,s _ _ hd⟩,s _ _ I.ht,s _ _ I.hn⟩
theorem In.sameX {d tx nm:Addr} {H0:Hp} {vs:List Nat} (h1:tx ≠ d) (h2:nm ≠ d) (I:In d tx nm due H0 vs H) (s:SameX d H H'):In d tx nm due H0 vs H':=⟨I.rx.sameX s,s.dice,s.old _ _ I.ht h1,s.old _ _ I.hn h2⟩
theorem Oo {p q:Str × Nat} (hp:p ∈ due) (hq:q ∈ due):(p.2 ||| q.2) - ((p.2 ||| q.2) &&& kn due)=0:=by
 have key:∀ {p:Str × Nat},p ∈ due->∀ k,p.2.testBit k=true->(kn due).testBit k=true:=fun {p} hp k hk=>by
  unfold kn;rw [BD];exact any_eq_true.mpr ⟨_,mem_map.mpr ⟨p,hp,rfl⟩,hk⟩
 have:(p.2 ||| q.2) &&& kn due=p.2 ||| q.2:=by
  refine Nat.eq_of_testBit_eq fun k=>?_;rw [Nat.testBit_and,Nat.testBit_or];cases e1:p.2.testBit k with
  | true=>rw [key hp k e1]; rfl
  | false =>
   cases e2:q.2.testBit k with
   | true=>rw [key hq k e2]; rfl
   | false=>rfl
 omega
theorem MP {vs:List Nat} {i:Nat} {x:V} (h:(txs due vs)[i]?=some x):∃ n,vs[i]?=some n/\x=.str (BZ due n):=by
 unfold txs at h;rw [getElem?_map] at h;obtain ⟨n,hn,rfl⟩:=Option.map_eq_some_iff.mp h;exact ⟨n,hn,rfl⟩
theorem Gu (due:LN) (vs:List Nat):(txs due vs).length=vs.length:=length_map _
theorem Eh (vs:List Nat):(An vs).length=vs.length:=length_map _
theorem MQ (D:Bm due) {n m:Nat} (h:n < 2 ^ 40) (h':m < 2 ^ 40):decide (V.str (BZ due n)=V.str (BZ due m))=decide (V.int (n:Int)=V.int (m:Int)):=by
 by_cases e:n=m
 ·rw [e,decide_eq_true rfl,decide_eq_true rfl]
 ·rw [decide_eq_false fun z=>e (NZ D h h' (V.str.inj z)),decide_eq_false fun z=>e (by have:=V.int.inj z; omega)]
inductive spLaw (K:FG) (bd:Addr) (vs:List V) (H:Hp) (Q:VK) (_E:XK):Prop where
 | mk (a:Addr) (ns:List Int) (z_0:vs=[.ref a]) (z_1:SqL K H a (ns.map V.int)) (z_2:ns.length <= 63) (z_3:Rd H bd (.dK DD)) (z_4:∀ H',Q (.bl true) H')
abbrev QT:List Str:=["_law_script", "_law_dice", "_law_rows", "_law_due", "_law_way", "_law_table", "_law_kind", "_law_texts", "_law_numbers", "_law_turn", "_law_number", "_law_value", "_law_text", "_law_one"]
theorem scLaw:AK QT ["_law_script"] (defScope LL):=fsc
def st0 (a:Addr) (f:Nat->Option V):St:=[some (.ref a),f 1,f 2,f 3,f 4,f 5,f 6,f 7,f 8,f 9,f 10,f 11,f 12,f 13]
structure RdI (a l bd:Addr) (as:List Addr) (i:Nat) (σ:St) (H:Hp):Prop where
 st:∃ f,σ=st0 a f
 hl:H l=some (.lst (as.map V.ref))
 hb:Rd H bd (.dK DD)
 ds:∀ (j:Nat) b,i <= j->as[j]?=some b->∃ x y:Int,H b=some (.lst [.int x,.int y])
theorem RdI.fin {a l bd d:Addr} {as:List Addr} {i:Nat} {σ σ':St} (h:RdI a l bd as i σ H) (nd:as.Nodup) (hla:l ∉ as) (hdi:as[i]?=some d) (R:Rx d H H') (hs:∃ f,σ'=st0 a f):RdI a l bd as (i + 1) σ' H':=by
 obtain ⟨x,y,hd⟩:=h.ds i d (Nat.le_refl _) hdi;refine ⟨hs,R _ _ h.hl fun z=>hla (z ▸ mem_of_getElem? hdi),R.rd hd h.hb,fun j b hj e=>?_⟩
 have hbd:b ≠ d:=fun z=>by
  subst z;obtain ⟨hj2,ej⟩:=List.getElem?_eq_some_iff.mp e;obtain ⟨hi2,ei⟩:=List.getElem?_eq_some_iff.mp hdi;exact (List.pairwise_iff_getElem.mp nd) i j hi2 hj2 (by omega) (by rw [ei,ej])
 obtain ⟨x5,y5,e5⟩:=h.ds j b (by omega) e;exact ⟨x5,y5,R _ _ e5 hbd⟩
structure Ad where
 (a d f u t kp tx nm e m:Addr) (bs ms:List Addr)
def stL (z:Ad) (r:Str) (x9 x10 x11 x12 x13:Option V):St:=[some (.ref z.a),some (.ref z.d),some (.ref z.f),some (.ref z.u),some (.str r),some (.ref z.t),some (.ref z.kp),some (.ref z.tx),some (.ref z.nm),x9,x10,x11,x12,x13]
theorem Pn (z:Ad) (r:Str) (x9 x10 x11 x12 x13:Option V):∃ f,stL z r x9 x10 x11 x12 x13=st0 z.a f:=⟨fun n=>(stL z r x9 x10 x11 x12 x13).getD n none,rfl⟩
structure Wo (C bd:Addr) (z:Ad) (due:LN) (r:Str) (H:Hp):Prop where
 hd:∃ x y:Int,H z.d=some (.lst [.int x,.int y])
 ka:KindAt C H z.kp due r
 lt:LTab H z.t z.e z.m z.ms due
 hu:H z.u=some (.lst (z.bs.map V.ref))
 ud:z.u ≠ z.d
 hbs:TupsAt H z.bs (C8 due)
 hb:Rd H bd (.dK DD)
theorem Wo.rx {bd:Addr} {z:Ad} {r:Str} (W:Wo C bd z due r H) (R:Rx z.d H H') (hd':∃ x y:Int,H' z.d=some (.lst [.int x,.int y])):Wo C bd z due r H':=by
 obtain ⟨x,y,hd⟩:=W.hd;exact ⟨hd',R.kind hd W.ka,R.tab hd W.lt,R _ _ W.hu W.ud,W.ud,TupsAt.sameT (fun b xs e=>R _ _ e (Cg e hd fun z=>nomatch z)) W.hbs,R.rd hd W.hb⟩
structure Sy (z:Ad) (due:LN) (r:Str) (H0:Hp):Prop where
 DO:Bm due
 pos:0 < due.length
 nt:H0 z.tx=none
 nn:H0 z.nm=none
 td:z.tx ≠ z.d
 nd:z.nm ≠ z.d
 tn:z.tx ≠ z.nm
 bl:z.bs.length=due.length
structure LpI (C bd:Addr) (z:Ad) (due:LN) (r:Str) (H0:Hp) (j:Nat) (σ:St) (H:Hp):Prop where
 st:∃ x9 x10 x11 x12 x13,σ=stL z r x9 x10 x11 x12 x13
 ex:∃ vs,vs.length=j/\(∀ n ∈ vs,n < 2 ^ 40)/\In z.d z.tx z.nm due H0 vs H
section
variable {bd:Addr}
set_option trace.profiler false
theorem Op {f0:Addr} (F:Fun K "law" "law" LL f0 fd) (B:Bl mg) (hZ:mg "zip" = none) (KO:MO P w K mg base C) (VO:JS P w K mg base C VC)
  (GRd:Fn P w K mg base "_law_rounds" 2 ["_law_script", "_law_most"] (spRounds K)) (GL:Fn P w K mg base "_law_lines" 3 ["_law_dice", "_law_most"] spLines) (GRu:Fn P w K mg base "_law_rule_of" 3 ["_law_dice"] spRuleOf) (GT:Fn P w K mg base "_law_table_of" 2 ["_law_due"] spTable)
  (GRl:Fn P w K mg base "_law_roll" 2 ["_law_dice", "_law_many"] spRoll) (GNi:Fn P w K mg base "_law_number_in" 3 ["_law_dice", "_law_known", "_law_way"] spNumberIn) (GTx:Fn P w K mg base "text_of" 5 ["value"] (spTxt C VC)) (GLt:Fn P w K mg base "_law_text_of" 1 ["_law_table", "_law_number"] spLTx)
  (GR:Fn P w K mg base "read" 7 ["kind", "text"] (spRead C VC bd)) (GVo:Fn P w K mg base "value_of" 6 ["kind", "names"] (spVOf C VC)) :
  AX P w K mg base CX0 8 f0 fd ["_law_script"] (spLaw K bd):=by
 obtain ⟨fRd,dRd,GRd,mRd,kRd,bRd⟩:=GRd.ex;obtain ⟨fL,dL,GL,mL,kL,bL⟩:=GL.ex;obtain ⟨fRu,dRu,GRu,mRu,kRu,bRu⟩:=GRu.ex;obtain ⟨fT,dT,GT,mT,kT,bT⟩:=GT.ex;obtain ⟨fRl,dRl,GRl,mRl,kRl,bRl⟩:=GRl.ex;obtain ⟨fNi,dNi,GNi,mNi,kNi,bNi⟩:=GNi.ex;obtain ⟨fTx,dTx,GTx,mTx,kTx,bTx⟩:=GTx.ex;obtain ⟨fLt,dLt,GLt,mLt,kLt,bLt⟩:=GLt.ex;obtain ⟨fR,dR,GR,mR,kR,bR⟩:=GR.ex;obtain ⟨fVo,dVo,GVo,mVo,kVo,bVo⟩:=GVo.ex;obtain ⟨fI,dI,MI,GI,⟨gI,kbI⟩,ds,bI,vI⟩:=KO.make;obtain ⟨fV,dV,MV,GV,bV⟩:=VO.make;obtain ⟨fVE,dVE,GVE,mVE,bVE⟩:=VO.eq;have mC:=KO.cls;have mV:=VO.cls;refine F.ok scLaw (fun vs H Q E h=>?_) (fun ac A outer s H vs Q E hr h=>?_)
 ·obtain ⟨a,ns,rfl,_⟩:=h;rfl
 ·obtain ⟨a,ns,rfl,hS,h63,hB,kend⟩:=h;have hu:=Ck hr;have hu64:=hr.units;have hr1:Room 1 _:=hr.mono (by decide);have hr2:Room 2 _:=hr.mono (by decide);have hr3:Room 3 _:=hr.mono (by decide);have hr4:Room 4 _:=hr.mono (by decide);have hr5:Room 5 _:=hr.mono (by decide);have hr6:Room 6 _:=hr.mono (by decide);have hr7:Room 7 _:=hr.mono (by decide);have nd:=scLaw.nd
  refine ⟨_,AE (Bx PassesOwn.never rfl (A6 (AJ GRd hr2 rfl mRd kRd bRd .nil AL (AA (pv 0) (AA AI AC)))) (AY (i:=1) nd rfl (Or.inl rfl))
    (AE (Cq (AJ GL hr3 rfl mL kL bL .nil AL (AA (pv 1) (AA AI AC))) (Bk rfl (Ab (AY (i:=2) nd rfl (Or.inl rfl)) (Ab (AY (i:=3) nd rfl (Or.inl rfl)) BM))))
    (AE (N0 (i:=4) (j:=5) rfl nd rfl rfl (by decide) rfl rfl (AA (AJ GRu hr3 rfl mRu kRu bRu .nil AL (AA (pv 1) AC)) (AA (AJ GT hr2 rfl mT kT bT .nil AL (AA (pv 3) AC)) AC)) (by kernel_rfl))
    (AE (Mr (i:=6) (j:=7) (k:=8) rfl nd rfl rfl rfl rfl rfl rfl (AA (K6 MI GI hr7 rfl mC kbI (AA (pv 2) AC) (GG (pv 4) IG)) (AA (A4 AC) (AA (A4 AC) AC))) (by kernel_rfl))
    (Ax (Bx PassesOwn.never rfl (CI rfl B.range (AA AI AC)) (AY (i:=9) nd rfl (Or.inl rfl))
     (Ax (Ac (i:=10) nd rfl (Or.inr rfl) (Aa Gz (BF (Es K rfl) (BF (Aq K rfl) (pv 3) (AJ GRl hr2 rfl mRl kRl bRl .nil AL (AA (pv 1) (AA (AV (Aw K rfl) rfl B.len PySem.boot_len (AA (pv 3) AC)) AC))) (fun _ _=>rfl)) AI (fun _ _=>rfl)) (BF (Es K rfl) (BF (Aq K rfl) (pv 3) (AJ GRl hr2 rfl mRl kRl bRl .nil AL (AA (pv 1) (AA (AV (Aw K rfl) rfl B.len PySem.boot_len (AA (pv 3) AC)) AC))) (fun _ _=>rfl)) AI (fun _ _=>rfl))))
     (Ax (Ag (AO A0 (AJ GRl hr2 rfl mRl kRl bRl .nil AL (AA (pv 1) (AA AI AC))) AI (AS _)) (AD (Ac (i:=10) nd rfl (Or.inr rfl) (AJ GNi hr3 rfl mNi kNi bNi .nil AL (AA (pv 1) (AA (BN hu (pv 5) Ae (fun _ _=>rfl)) (AA (pv 4) AC)))))) AU)
     (Ax (Ac (i:=11) nd rfl (Or.inl rfl) (GA MV GV hr5 rfl mV bV .nil AL (AA (pv 6) (AA (pv 10) AC))))
     (Ax (Ac (i:=12) nd rfl (Or.inl rfl) (AJ GTx hr5 rfl mTx kTx bTx .nil AL (AA (pv 11) AC)))
     (Ax (Ag (PW.pt (Dv (AO Ct (pv 12) (AJ GLt hr1 rfl mLt kLt bLt .nil AL (AA (pv 5) (AA (pv 10) AC))) (AS _)) (CP (AO (LA GVE hr4 bVE mVE VO.ne VO.isi.hm) (AJ GR hr7 rfl mR kR bR .nil AL (AA (pv 6) (AA (pv 12) AC))) (pv 11) (AS _))))) (AD AW) AU)
     (Ax (A9 (Ci PySem.F.plainAttrs_list PySem.F.slot_list_append PySem.F.type_list_append BC (pv 7) (AA (pv 12) AC)))
     (AD (A9 (Ci PySem.F.plainAttrs_list PySem.F.slot_list_append PySem.F.type_list_append BC (pv 8) (AA (pv 10) AC)))))))))))
    (Ax (Bx PassesOwn.never rfl (LC rfl hZ (AA (pv 7) (AA (pv 8) AC))) (Bk rfl (Ab (AY (i:=13) nd rfl (Or.inr rfl)) (Ab (AY (i:=10) nd rfl (Or.inr rfl)) BM)))
     (AD (Ag (AO (IU K rfl hu64) (Cz ["_law_one", "_law_number"] [some 13,some 10] (by kernel_rfl) (by decide +kernel) (by kernel_rfl) (by kernel_rfl) rfl (LC rfl hZ (AA (pv 7) (AA (pv 8) AC))) (fun _ _ _ _ _ _=>DH (AO Ct (BA A0 (pv 0) (pv 2) (AS _)) (BA A0 (pv 1) (pv 3) (AS _)) (AS _))) (fun _ _ _ _ _ _=>pv 1)) (A4 AC) (AS _)) (AD AW) AU)))
    (AD (Ag (AO Ct (AJ GTx hr5 rfl mTx kTx bTx .nil AL (AA (AJ GVo hr6 rfl mVo kVo bVo .nil AL (AA (pv 6) (AA (A4 AC) AC))) AC)) (AJ GLt hr1 rfl mLt kLt bLt .nil AL (AA (pv 5) (AA AI AC))) (AS _)) (AD AW) AU))))))))
   (AD (AM Ei)),?_⟩
  refine ⟨_,rfl,a,ns,rfl,hS,h63,fun l as H1 s1 hl nd' hla h5 az=>?_⟩
  refine ⟨l,rfl,⟨_,SqL.of hl⟩,CJ (K:=K) (a:=l) (xs:=as.map V.ref) (fun i σ H2=>RdI a l bd as i σ H2)
   ⟨⟨fun _=>none,rfl⟩,hl,Same.rd s1 hB,fun j b _ e=>(az b (mem_of_getElem? e)).2⟩ (fun i σ H2 _ R=>SqL.of R.hl) ?_ (fun σ H2 R=>by obtain ⟨f,rfl⟩:=R.st; exact kend _)⟩
  rintro i v σ H2 hi RI;rw [getElem?_map] at hi;obtain ⟨d,hdi,rfl⟩:=Option.map_eq_some_iff.mp hi;obtain ⟨x,y,hd⟩:=RI.ds i d (Nat.le_refl _) hdi;obtain ⟨g,rfl⟩:=RI.st;refine ⟨_,rfl,d,x,y,10,rfl,by decide,by decide,hd,fun q f u fs bs0 rows Ha sXa hq hfn hun hf hP hu0 hbs r0 r10 RO am=>?_⟩;refine ⟨q,_,rfl,SqT.of hq,rfl,_,_,rfl,_,_,rfl,rfl,?_⟩;obtain ⟨xa,ya,hda⟩:=sXa.dice;have fd_:f ≠ d:=fun z=>by rw [z,hd] at hfn; cases hfn
  have ud:u ≠ d:=fun z=>by rw [z,hd] at hun; cases hun
  have DO:=HY RO (by omega);refine ⟨_,rfl,d,xa,ya,rfl,hda,fun r Hb al sXb=>?_⟩;obtain ⟨xb,yb,hdb⟩:=sXb.dice;have tX:SameT Ha Hb:=fun b xs e=>sXb.old _ _ e (Cg e hda fun z=>nomatch z);have aj:=sXb.old _ _ hu0 ud;have bc:=TupsAt.sameT tX hbs;have hPb:Paired (RowAt Hb) fs rows:=BO tX hP;have hfb:=sXb.old _ _ hf fd_;refine ⟨_,rfl,u,bs0,Ak rows,rfl,aj,bc,DO.len,DO.lt,fun t e m ms Hc sc ht he hm au=>⟨_,_,rfl,?_⟩⟩;refine ⟨_,rfl,_,rfl,?_⟩;intro k dk hk hdk av;have sN:=DB (D:=C) hk hdk av;refine ⟨k,dk,f,rows,r,rfl,AB,⟨fs,sN _ _ (sc _ _ hfb),BO (SameT.of sN) (BO (SameT.of sc) hPb)⟩,r0,by omega,RO,al,fun H0 sd KA=>⟨rfl,?_⟩⟩;refine ⟨Nat.zero_le _,fun tx htx=>⟨Nat.zero_le _,fun nm hnm=>⟨_,_,_,rfl,?_⟩⟩⟩;have sbd:=sc.trans (CO sN hk sd);have hdd:=sbd _ _ hdb;have bu:H0 nm=none:=none_of (AG (Same.refl _) htx) hnm;have R0:Rx d H2 H0:=(((Rx.refl d H2).sameX sXa).sameX sXb).same sbd;have htn:tx ≠ nm:=AH (AB (H:=H0) (a:=tx) (o:=HO.lst [])) hnm;have S0:Sy ⟨a,d,f,u,t,k,tx,nm,e,m,bs0,ms⟩ (Ak rows) r H0:=⟨DO,by rw [BK]; exact r0,htx,bu,Ne.symm (AH hdd htx),Ne.symm (AH hdd bu),htn,by rw [Bv bc,BK]⟩;have W0:Wo C bd ⟨a,d,f,u,t,k,tx,nm,e,m,bs0,ms⟩ (Ak rows) r H0:=⟨⟨_,_,hdd⟩,KA,(⟨ht,he,hm,au⟩:LTab Hc t e m ms (Ak rows)).same (CO sN hk sd),sbd _ _ aj,ud,TupsAt.sameT (SameT.of sbd) bc,R0.rd hd RI.hb⟩
  have L0:LpI C bd ⟨a,d,f,u,t,k,tx,nm,e,m,bs0,ms⟩ (Ak rows) r H0 0 (stL ⟨a,d,f,u,t,k,tx,nm,e,m,bs0,ms⟩ r (g 9) (g 10) (g 11) (g 12) (g 13)) (upd (upd H0 tx (.lst [])) nm (.lst [])):=by
   refine ⟨⟨_,_,_,_,_,rfl⟩,[],rfl,(fun n h=>nomatch h),((Rx.refl d H0).put htx).put bu,⟨xb,yb,?_⟩,?_,AB⟩
   ·rw [AF S0.nd.symm,AF S0.td.symm]; exact hdd
   ·rw [AF htn]; exact AB
  have fin:∀ {σ H'},Rx (Ad.d ⟨a,d,f,u,t,k,tx,nm,e,m,bs0,ms⟩) H0 H'->(∃ g,σ=st0 (Ad.a ⟨a,d,f,u,t,k,tx,nm,e,m,bs0,ms⟩) g)->RdI a l bd as (i + 1) σ H':=fun R hs=>RI.fin nd' hla hdi (fun b o e hb=>R _ _ (R0 _ _ e hb) hb) hs;generalize Ak rows=due at *;refine ⟨LpI C bd ⟨a,d,f,u,t,k,tx,nm,e,m,bs0,ms⟩ due r H0 8,fun R hR=>⟨8,rfl,by decide,by decide,Fe (lo:=0) (n:=8) (LpI C bd ⟨a,d,f,u,t,k,tx,nm,e,m,bs0,ms⟩ due r H0) L0 ?_ (fun σ H4 h=>hR _ _ h)⟩,?_⟩
  ·clear L0 fin hR;rintro j σ H4 hj LP;generalize (⟨a,d,f,u,t,k,tx,nm,e,m,bs0,ms⟩:Ad)=z at *;clear hPb bc hP hbs RO am r0 r10 hfb aj;obtain ⟨⟨x9,x10,x11,x12,x13,rfl⟩,vs,hvl,hv40,I4⟩:=LP;have DO:=S0.DO;refine ⟨fun σ H'=>∃ n:Nat,σ=stL z r (some (.int (0 + (j:Int)))) (some (.int (n:Int))) x11 x12 x13/\n < 2 ^ 40/\n - (n &&& kn due)=0/\In z.d z.tx z.nm due H0 vs H',fun R hR=>?_,?_⟩
   ·have W4:=W0.rx I4.rx I4.dice;obtain ⟨xd,yd,hd4⟩:=I4.dice;have hbl:(z.bs.map V.ref).length=due.length:=by rw [length_map,S0.bl]
    have h0:=S0.pos;have h10:=DO.len;refine ⟨_,rfl,_,rfl,_,rfl,z.u,_,rfl,.inl (SqL.of W4.hu),z.d,xd,yd,_,rfl,hd4,by omega,by omega,fun r2 a2 b2 r20 r21=>?_⟩;have I5:=I4.sameX S0.td S0.nd (Bw (x':=a2) (y':=b2) hd4);have W5:=W0.rx I5.rx I5.dice;obtain ⟨v,hv,hv2⟩:=Ee (xs:=z.bs.map V.ref) r20 (by exact r21);obtain ⟨bb,p,rfl,_,ah,ag⟩:=Bu W5.hbs hv2;refine ⟨z.u,_,r2,_,rfl,rfl,SqL.of W5.hu,hv,bb,_,1,.int p.2,rfl,rfl,SqT.of ag,rfl,?_⟩;obtain ⟨xd5,yd5,hd5⟩:=I5.dice;refine ⟨_,rfl,_,rfl,_,rfl,z.u,_,rfl,.inl (SqL.of W5.hu),z.d,xd5,yd5,_,rfl,hd5,by omega,by omega,fun r3 a3 b3 r30 r31=>?_⟩;have I6:=I5.sameX S0.td S0.nd (Bw (x':=a3) (y':=b3) hd5);have W6:=W0.rx I6.rx I6.dice;obtain ⟨v,hv,hv3⟩:=Ee (xs:=z.bs.map V.ref) r30 (by exact r31);obtain ⟨b2,p2,rfl,_,ai,hbt2⟩:=Bu W6.hbs hv3;refine ⟨z.u,_,r3,_,rfl,rfl,SqL.of W6.hu,hv,b2,_,1,.int p2.2,rfl,rfl,SqT.of hbt2,rfl,_,_,rfl,rfl,hR _ _ ⟨p.2 ||| p2.2,?_,?_,Oo (mem_of_getElem? ah) (mem_of_getElem? ai),I6⟩⟩
    ·rw [← CW]; rfl
    ·exact Nat.lt_trans (Nat.or_lt_two_pow (DO.lt _ (mem_of_getElem? ah)) (DO.lt _ (mem_of_getElem? ai))) (by decide)
   rintro σ H5 ⟨n0,rfl,hn0,hk0,I5⟩;clear I4;refine ⟨fun σ H'=>∃ n:Nat,σ=stL z r (some (.int (0 + (j:Int)))) (some (.int (n:Int))) x11 x12 x13/\n < 2 ^ 40/\(r = "keep" \/ n - (n &&& kn due)=0)/\In z.d z.tx z.nm due H0 vs H',fun R hR=>?_,?_⟩
   ·obtain ⟨xd,yd,hd5⟩:=I5.dice;refine ⟨_,rfl,z.d,xd,yd,2,rfl,hd5,by decide,by decide,fun r1 a1 b1 r10 r11=>⟨rfl,_,rfl,?_⟩⟩;have I6:=I5.sameX S0.td S0.nd (Bw (x':=a1) (y':=b1) hd5);have W6:=W0.rx I6.rx I6.dice;obtain ⟨xd6,yd6,hd6⟩:=I6.dice;refine BS (fun _=>?_) (fun _=>hR _ _ ⟨n0,rfl,hn0,.inr hk0,I6⟩);refine ⟨_,rfl,_,rfl,z.t,_,rfl,.inl ⟨_,Sum.inr "known", .inl W6.lt.tab,rfl,(KL _ _ _).symm⟩,_,rfl,z.d,xd6,yd6,kn due,r,rfl,hd6,fun n1 H7 h40 hb s7=>hR _ _ ⟨n1,rfl,h40,hb,I6.sameX S0.td S0.nd s7⟩⟩
   rintro σ H6 ⟨n,rfl,hn,hk,I6⟩;clear I5 hn0 hk0;refine ⟨fun σ H'=>∃ vq:Addr,σ=stL z r (some (.int (0 + (j:Int)))) (some (.int (n:Int))) (some (.ref vq)) x12 x13/\ValAt VC H' vq z.kp n/\In z.d z.tx z.nm due H0 vs H',fun R hR=>?_,?_⟩
   ·have W6:=W0.rx I6.rx I6.dice;refine ⟨_,rfl,_,rfl,?_⟩;intro vq dq hq hdq hneq;have sN:=DB (D:=VC) hq hdq hneq;exact ⟨vq,dq,z.kp,due,r,n,rfl,AB,W6.ka.same sN,hn,hk,fun H7 s7 hV=>⟨rfl,hR _ _ ⟨vq,rfl,hV,I6.same (CO sN hq s7)⟩⟩⟩
   rintro σ H7 ⟨vq,rfl,hV7,I7⟩;clear I6;refine ⟨fun σ H'=>σ=stL z r (some (.int (0 + (j:Int)))) (some (.int (n:Int))) (some (.ref vq)) (some (.str (BZ due n))) x13/\ValAt VC H' vq z.kp n/\In z.d z.tx z.nm due H0 vs H',fun R hR=>?_,?_⟩
   ·have W7:=W0.rx I7.rx I7.dice;exact ⟨_,rfl,vq,z.kp,n,due,r,rfl,hV7,W7.ka,DO.len,DO.nd,hn,Gs DO hn,fun H8 s8=>hR _ _ ⟨rfl,hV7.same s8,I7.same s8⟩⟩
   rintro σ H8 ⟨rfl,hV8,I8⟩;clear I7 hV7;refine ⟨fun σ H'=>σ=stL z r (some (.int (0 + (j:Int)))) (some (.int (n:Int))) (some (.ref vq)) (some (.str (BZ due n))) x13/\In z.d z.tx z.nm due H0 vs H',fun R hR=>?_,?_⟩
   ·have W8:=W0.rx I8.rx I8.dice;refine ⟨_,rfl,_,rfl,_,rfl,z.t,z.e,z.m,z.ms,due,n,rfl,W8.lt,DO,hn,fun H9 s9=>⟨rfl,_,rfl,?_⟩⟩;rw [decide_eq_true (show V.str (BZ due n)=V.str (BZ due n) from rfl)];refine Af ?_;have I9:=I8.same s9;have W9:=W0.rx I9.rx I9.dice;have TE:=Eg DO hn;obtain ⟨v,ws,tx,hw,ev⟩:=TE.tx;refine ⟨_,rfl,_,rfl,z.kp,BZ due n,v,ws,due,r,rfl,W9.ka,TE.as,TE.len,tx,hw,W9.hb,by rw [ev]; exact hn,by rw [ev]; exact hk,fun q H10 s10 hq=>?_⟩;rw [ev] at hq;have I10:=I9.same s10;have W10:=W0.rx I10.rx I10.dice;have asc:Asc due:=fun p hp=>(DO.nm p hp).2.1;have hV10:=hV8.same (s9.trans s10);obtain ⟨dq,hq2⟩:=id hq;obtain ⟨dv,hv2⟩:=id hV10;refine ⟨_,rfl,q,dq,_,vq,dv,_,rfl,rfl,hq2,hv2,q,.ref vq,z.kp,n,due,r,rfl,hq,W10.ka,asc,.inr ⟨vq,z.kp,n,due,r,rfl,hV10,W10.ka,asc,fun H11 s11=>⟨_,rfl,_,rfl,_,rfl,?_⟩⟩⟩;rw [decide_eq_true (show (due=due/\r=r)/\n=n from ⟨⟨rfl,rfl⟩,rfl⟩)];exact Af (hR _ _ ⟨rfl,I10.same s11⟩)
   rintro σ H9 ⟨rfl,I9⟩;clear I8 hV8;have ay:(txs due vs).length + 1 <= 1000:=by rw [Gu]; omega
   have hlen2:(An vs).length + 1 <= 1000:=by rw [Eh]; omega
   refine ⟨fun σ H'=>σ=stL z r (some (.int (0 + (j:Int)))) (some (.int (n:Int))) (some (.ref vq)) (some (.str (BZ due n))) x13/\Rx z.d H0 H'/\(∃ x y:Int,H' z.d=some (.lst [.int x,.int y]))/\H' z.tx=some (.lst (txs due (vs++[n])))/\H' z.nm=some (.lst (An vs)),fun R hR=>?_,?_⟩
   ·obtain ⟨xd,yd,hd9⟩:=I9.dice;refine ⟨_,rfl,.inl ⟨rfl,_,SqL.of I9.ht⟩,_,rfl,z.tx,_,_,rfl,rfl,I9.ht,AQ (by omega),hR _ _ ⟨rfl,I9.rx.put S0.nt,⟨xd,yd,?_⟩,?_,?_⟩⟩
    ·rw [AF S0.td.symm]; exact hd9
    ·rw [AB];unfold txs;rw [map_append];rfl
    ·rw [AF S0.tn.symm]; exact I9.hn
   rintro σ H10 ⟨rfl,R10,⟨xd,yd,hd10⟩,ht10,hn10⟩;refine ⟨_,rfl,.inl ⟨rfl,_,SqL.of hn10⟩,_,rfl,z.nm,_,_,rfl,rfl,hn10,AQ (by omega),⟨_,_,_,_,_,rfl⟩,vs++[n],by rw [length_append,hvl]; rfl,fun m hm=>?_,R10.put S0.nn,⟨xd,yd,?_⟩,?_,?_⟩
   ·rcases mem_append.mp hm with h | h
    ·exact hv40 m h
    ·rw [mem_singleton.mp h]; exact hn
   ·rw [AF S0.nd.symm]; exact hd10
   ·rw [AF S0.tn]; exact ht10
   ·rw [AB];unfold An;rw [map_append];rfl
  rintro σ H4 LP;generalize (⟨a,d,f,u,t,k,tx,nm,e,m,bs0,ms⟩:Ad)=z at *;clear L0 hPb bc hP hbs RO am r0 r10 hfb aj;obtain ⟨⟨x9,x10,x11,x12,x13,rfl⟩,vs,hvl,hv40,I4⟩:=LP;have DO:=S0.DO;refine ⟨fun σ H'=>(∃ x10 x13,σ=stL z r x9 x10 x11 x12 x13)/\In z.d z.tx z.nm due H0 vs H',fun R hR=>?_,?_⟩
  ·refine ⟨_,rfl,_,rfl,z.tx,z.nm,rfl,⟨_,SqL.of I4.ht⟩,⟨_,SqL.of I4.hn⟩,Ms (K:=K) (a:=z.tx) (b:=z.nm) (xs:=txs due vs) (zs:=An vs) (fun j σ H'=>(∃ x10 x13,σ=stL z r x9 x10 x11 x12 x13)/\In z.d z.tx z.nm due H0 vs H') (by rw [Gu,Eh]) ⟨⟨_,_,rfl⟩,I4⟩ (fun j σ H' _ ⟨_,I⟩=>⟨SqL.of I.ht,SqL.of I.hn⟩) ?_ (fun σ H' h=>hR _ _ h)⟩;rintro j v v' σ H5 p hj hj' ⟨⟨x10,x13,rfl⟩,I5⟩ hp;obtain ⟨n,hn,rfl⟩:=MP hj;obtain ⟨n',hn',rfl⟩:=D8 hj';obtain rfl:n=n':=Option.some.inj (hn.symm.trans hn');have s6:=AG (Same.refl _) hp (o:=HO.tup [V.str (BZ due n),V.int (n:Int)]);refine ⟨p,_,rfl,SqT.of AB,rfl,_,_,rfl,_,_,rfl,rfl,?_⟩;have I6:=I5.same s6;generalize upd H5 p (HO.tup [V.str (BZ due n),V.int (n:Int)])=H6 at I6 ⊢;clear I5 s6 hp;have n40:=hv40 n (mem_of_getElem? hn);refine ⟨_,rfl,_,rfl,z.tx,z.nm,rfl,⟨_,SqL.of I6.ht⟩,⟨_,SqL.of I6.hn⟩,MM (K:=K) (a:=z.tx) (b:=z.nm) (xs:=txs due vs) (zs:=An vs) (fun i ys H'=>ys=[]/\Same H6 H') (by rw [Gu,Eh]) ⟨rfl,Same.refl _⟩ (fun i ys H' _ ⟨_,s⟩=>⟨SqL.of (s _ _ I6.ht),SqL.of (s _ _ I6.hn)⟩) (fun i ys H' ⟨e,_⟩=>by rw [e]; exact Nat.zero_le _) ?_ ?_⟩
   ·rintro i v v' ys H7 b hi hi' ⟨rfl,s7⟩ hb;obtain ⟨m,hm,rfl⟩:=MP hi;obtain ⟨m',hm',rfl⟩:=D8 hi';obtain rfl:m=m':=Option.some.inj (hm.symm.trans hm');refine ⟨b,_,rfl,SqT.of AB,rfl,_,_,rfl,_,_,rfl,rfl,?_⟩;refine ⟨_,rfl,_,rfl,rfl,_,rfl,_,rfl,rfl,rfl,_,rfl,?_⟩;have m40:=hv40 m (mem_of_getElem? hm);rw [MQ DO m40 n40,decide_eq_true rfl];exact Af ⟨rfl,AG s7 hb⟩
   ·rintro ys H7 ⟨rfl,s7⟩ l' hl';refine ⟨Nat.zero_le _,fun p hp=>?_⟩;have s8:=AG (Same.refl _) hl' (o:=HO.lst []);have s9:=AG (Same.refl _) hp (o:=HO.lst []);refine ⟨_,_,Bi (s9 _ _ AB) Et,Bi AB Et,Cf,Cf,_,rfl,?_⟩;exact Af ⟨⟨_,_,rfl⟩,I6.same (s7.trans (s8.trans s9))⟩
  rintro σ H5 ⟨⟨x10,x13,rfl⟩,I5⟩;have W5:=W0.rx I5.rx I5.dice;refine ⟨_,rfl,Nat.zero_le _,fun el aq=>?_⟩;have s6:=AG (Same.refl _) aq (o:=HO.lst []);have W6:=(W0.rx (I5.same s6).rx (I5.same s6).dice);refine ⟨z.kp,el,due,r,[],rfl,W6.ka,AB,Nat.zero_le _,(fun x h=>nomatch h),DO.lt,fun q H7 s7 hV=>?_⟩;have I7:=(I5.same s6).same s7;have W7:=W0.rx I7.rx I7.dice;refine ⟨q,z.kp,0,due,r,rfl,hV,W7.ka,DO.len,DO.nd,by decide,Gs DO (by decide),fun H8 s8=>?_⟩;have I8:=I7.same s8;have W8:=W0.rx I8.rx I8.dice;refine ⟨_,rfl,z.t,z.e,z.m,z.ms,due,0,rfl,W8.lt,DO,by decide,fun H9 s9=>⟨rfl,_,rfl,?_⟩⟩;rw [decide_eq_true (show V.str (BZ due 0)=V.str (BZ due 0) from rfl)];exact Af (fin (I8.same s9).rx (Pn z r _ _ _ _ _))
end
end Mk
end
section
namespace Mk
open PySem L2 MK
theorem I0 {h:Heap} {N:Addr} {n:Str} {v:Value} (X:K.In h) (G:h.Ns N mg) (e:W.nsIn K N n=some (some v)):mg n=some v:=by
 obtain ⟨o,es,ep,ho,hd,_,hf⟩:=G;unfold W.nsIn at e;split at e
 ·rename_i c d es' n' sl q;have:=X _ _ q;rw [ho] at this;cases this;cases hd;split at e
  ·rename_i he;cases e;rw [← hf];unfold nsFind findBy;rw [← Array.find?_toList,he];rfl
  ·split at e <;> cases e
 ·cases e
theorem Na {kV doc pm ac ct:Value} {an:Option Addr} :
  DV K (W.fnOf "__init__" "Kind.__init__" (defArgs A3) (defBody A3) (defScope A3) .none kV doc pm an ac ct) ["self", "rows", "rest"] ["rest"] gU3 gV3:=by
 refine ⟨fun s us ws _ hl=>?_,fun {vs us zs ws} r rz=>?_⟩
 ·unfold gU3 at hl ⊢;split at hl
  ·exact .of_eq (by kernel_rfl)
  ·cases hl
 ·cases r with
  | nil=>exact .nil
  | cons r1 rr =>
   cases rr with
   | nil=>exact .nil
   | cons r2 rr =>
    cases rr with
    | cons _ _=>exact .nil
    | nil =>
     cases rz with
     | nil=>exact .nil
     | cons z1 zz =>
      cases zz with
      | nil=>exact .cons r1 (.cons r2 (.cons z1 .nil))
      | cons _ _=>exact .nil
theorem Oq {kd:Addr} {v doc pm ac ct:Value} {an:Option Addr} (ok:W.nsOkIn K kd=true) (e:W.nsIn K kd "rest" = some (some v)) :
  Binds K (W.fnOf "__init__" "Kind.__init__" (defArgs A3) (defBody A3) (defScope A3) .none (.ref kd) doc pm an ac ct) ["self", "rows", "rest"] [v]:=by
 intro s us hK hl
 have hl2:us.length=2:=by
  rw [length_append] at hl;exact Nat.succ.inj hl
 match us,hl2 with
 | [u1,u2],_ =>
  have G:s.heap.Ns kd (s.heap.nsMap kd):=.of_isNs (W.isNs_of_in hK ok);have hm:s.heap.nsMap kd "rest" = some v:=I0 hK G e;intro M A E Q hq;unfold bindArgs;simp only [W.fnOf]
  repeat (first | (with_reducible refine wpAny_nsGet G ?_; rw [hm]) | wp_step)
  exact Eq.mp (congrArg (fun z=>Q z s) (by kernel_rfl)) hq
theorem MR {kV doc pm ac ct:Value} {an:Option Addr} :
  DV K (W.fnOf "steps_of" "steps_of" (defArgs B0) (defBody B0) (defScope B0) .none kV doc pm an ac ct) ["text", "lettered"] ["lettered"] gU2 gV2:=by
 refine ⟨fun s us ws _ hl=>?_,fun {vs us zs ws} r rz=>?_⟩
 ·unfold gU2 at hl ⊢;split at hl
  ·exact .of_eq (by kernel_rfl)
  ·cases hl
 ·cases r with
  | nil=>exact .nil
  | cons r1 rr =>
   cases rr with
   | cons _ _=>exact .nil
   | nil =>
    cases rz with
    | nil=>exact .nil
    | cons z1 zz =>
     cases zz with
     | nil=>exact .cons r1 (.cons z1 .nil)
     | cons _ _=>exact .nil
end Mk
end
section
namespace Mk
open PySem L2 MK PySem.W
abbrev fO (x q:Str) (s:Stmt):=fnOf x q (defArgs s) (defBody s) (defScope s)
theorem FX {K:Frag} {C:Addr} {T:String} (h:isClsIn K C=true) (h2:typeIn K (.ref C)=some (.type "type")) (e:subIn K (.type T) (.ref C)=some false):kitOne K (.type T) (.ref C)=some false:=by
 unfold kitOne;rw [if_neg (by simp)];unfold kitCls;show (if _ then _ else _)=_;rw [if_pos (by unfold isClsIn at h; rw [h,h2]; simp)];exact e
section
variable {P:Program} {w:World} {K:Frag} {mg:SV} {base:Heap} {x q:Str} {st:Stmt} {k:Nat} {ps:List Str} {sp:Sp} {f C:Addr} {fd:FuncData} {p1 p2 p3 p4 p5:Str}
theorem fnT (F:Fun K x x st f fd) (ok:AX P w K mg base CX0 k f fd ps sp) (m:mg x=some (.ref f)) (b:Binds K fd ps []):Fn P w K mg base x k ps sp:=⟨⟨f,fd,ok,m,F.kp,b⟩⟩
theorem mtT (a:findIn K (.ref C) x=some (some (.ref f))) (i:isFn K (.ref f)=true) (F:Fun K x q st f fd) (ok:AX P w K mg base CX0 k f fd ps sp) (b:Binds K fd ps []):Mt P w K mg base C x k ps sp:=⟨⟨f,fd,ok,⟨a,i,F.kp⟩,b⟩⟩
abbrev fB (x q:Str) (st:Stmt) (kV doc pm:Value) (an:Option Addr) (ac ct:Value) (us:List Value):Sem (List (Str × Value)):=bindArgs (fO x q st .none kV doc pm an ac ct) ⟨us,[]⟩
theorem bi1 (F:Fun K x q st f fd) (h:∀ a b c d e g u1,fB x q st a b c d e g [u1]=pure [(p1,u1)]):Binds K fd [p1] []:=F.binds fun _ _ _ _ _ _ us hl=>match us,hl with | [_],_=>h ..
theorem bi2 (F:Fun K x q st f fd) (h:∀ a b c d e g u1 u2,fB x q st a b c d e g [u1,u2]=pure [(p1,u1),(p2,u2)]):Binds K fd [p1,p2] []:=F.binds fun _ _ _ _ _ _ us hl=>match us,hl with | [_,_],_=>h ..
theorem bi3 (F:Fun K x q st f fd) (h:∀ a b c d e g u1 u2 u3,fB x q st a b c d e g [u1,u2,u3]=pure [(p1,u1),(p2,u2),(p3,u3)]):Binds K fd [p1,p2,p3] []:=F.binds fun _ _ _ _ _ _ us hl=>match us,hl with | [_,_,_],_=>h ..
end
def DG (K:Frag) (x:Str) (st:Stmt):Prop:=∃ f fd,nsIn K mainGlobals x=some (some (.ref f))/\Fun K x x st f fd
def DM (K:Frag) (C:Addr) (x q:Str) (st:Stmt):Prop:=∃ f fd,findIn K (.ref C) x=some (some (.ref f))/\isFn K (.ref f)=true/\(∃ o,K.lookup f=some o/\o.cls=.type "function")/\Fun K x q st f fd
structure CF (K:Frag) (C:Addr):Prop where
 pg:plainGet K C Str.empty=true
 hd:hasDictIn K C=true
 po:plainOver K C=true
 sa:findIn K (.ref C) "__setattr__" = some (some (.builtin "object.__setattr__"))
 mz:makesIn K C=true
 kc:keepIn K (.ref C)=true
 qa:findIn K (.ref C) "__class__" = some (some (.builtin "object.__class__"))
 qm:mroIn K C (.type "object")=some true
 ql:isClsIn K C=true
 qy:typeIn K (.ref C)=some (.type "type")
 qs:subIn K (.type "list") (.ref C)=some false
 qi:subIn K (.type "int") (.ref C)=some false
 qt:subIn K (.type "tuple") (.ref C)=some false
 ne:findIn K (.ref C) "__ne__" = some (some (.builtin "object.__ne__"))
theorem all_mk {l:OpenLaw} {w:World} {K:Frag} {h:Heap} {mg:SV} {fz C VC DC aR kd fin fla:Addr} (X:K.In h) (G:h.Ns mainGlobals mg) (hfa:mg "law" = some (.ref fz))
  {ocla kVla dcla pmla cdla ctla ocin dcin pmin cdin ctin ocK:Value} {odla anla odin anin odR odK:Option Addr} {slla slin slK slR:Array (Option Value)} {tG tM tL tLi tB t1 t2 t3 t4:Tok} {nRR epK:Nat} {esK:Array DictEntry} {jn:Addr} {j1 j2 j3 tLB:Tok} {odJ:Option Addr} {nJ:Nat} {slJ:Array (Option Value)} {fst:Addr} {ocst kVst dcst pmst cdst ctst:Value} {odst anst:Option Addr} {slst:Array (Option Value)} {bd:Addr}
  (aC:nsIn K mainGlobals "Kind" = some (some (.ref C)))
  (aVC:nsIn K mainGlobals "Value" = some (some (.ref VC)))
  (aDC:nsIn K mainGlobals "Reading" = some (some (.ref DC)))
  (hwh:DG K "is_whole" FH)
  (hnm:DG K "is_name" Gc)
  (huo:DG K "union_of" FI)
  (hnx:DG K "next_mark" ET)
  (hoo:DG K "is_one_of" FJ)
  (hno:DG K "is_names_of" DZ)
  (hth:DG K "thing_number" CZ)
  (hro:DG K "row_number" Db)
  (hnb:DG K "numbered" EU)
  (hfi:DG K "first_names" C2)
  (him:DG K "is_mark" Gd)
  (hmR:DM K C "rows" "Kind.rows" EV)
  (hmK:DM K C "known" "Kind.known" De)
  (hmT:DM K C "rest" "Kind.rest" EW)
  (hmM:DM K C "marks" "Kind.marks" Dd)
  (hmE:DM K C "__eq__" "Kind.__eq__" Ge)
  (hlc:DG K "_law_cell" FN)
  (hld:DG K "_law_drawn" Ea)
  (hlr:DG K "_law_roll" FO)
  (hls:DG K "_law_rounds" Dj)
  (hll:DG K "_law_lines" Bc)
  (hxn:DG K "is_number" EX)
  (hxr:DG K "rest_of" Gf)
  (hxi:DM K VC "__init__" "Value.__init__" Df)
  (hxN:DM K VC "number" "Value.number" Ca)
  (hxK:DM K VC "kind" "Value.kind" Dg)
  (hxE:DM K VC "__eq__" "Value.__eq__" FK)
  (hmN:DM K C "number" "Kind.number" C3)
  (hmA:DM K C "names" "Kind.names" Dc)
  (hmb:DG K "mark_bits" ES)
  (hlb:DG K "_law_bits_of" Dk)
  (hlu:DG K "_law_rule_of" Dl)
  (hlt:DG K "_law_table_of" C6)
  (hli:DG K "_law_number_in" Cd)
  (hlx:DG K "_law_text_of" Dm)
  (hxM:DM K VC "marks" "Value.marks" C4)
  (hxR:DM K VC "rest" "Value.rest" Dh)
  (hvo:DG K "value_of" FL)
  (hmd:DG K "made" LI)
  (hgl:DG K "is_letter" EY)
  (hgf:DG K "is_figures" Di)
  (hgp:DG K "is_part" Gg)
  (hge:DG K "part_end" FM)
  (hdS:DM K DC "settle" "Reading.settle" Bz)
  (hdP:DM K DC "take_part" "Reading.take_part" Ba)
  (hdB:DM K DC "take_between" "Reading.take_between" BI)
  (hdG:DM K DC "take_sign" "Reading.take_sign" Bb)
  (hdE:DM K DC "ends" "Reading.ends" Cc)
  (hgj:DG K "joined" Gh)
  (hgn:DG K "part_number" C5)
  (hgo:DG K "number_of" EZ)
  (htx:DG K "text_of" Gi)
  (hdI:DM K DC "__init__" "Reading.__init__" Cb)
  (hrd:DG K "read" LJ)
  (ain:findIn K (.ref C) "__init__" = some (some (.ref fin)))
  (iin:isFn K (.ref fin)=true)
  (lin:K.lookup fin=some ⟨ocin,odin,.func (fO "__init__" "Kind.__init__" A3 .none (.ref kd) dcin pmin anin cdin ctin),slin⟩)
  (cin:codeIn K cdin "Kind.__init__" = true)
  (kin:keepIn K (.ref fin)=true)
  (ala:nsIn K mainGlobals "law" = some (some (.ref fla)))
  (lla:K.lookup fla=some ⟨ocla,odla,.func (fO "law" "law" LL .none kVla dcla pmla anla cdla ctla),slla⟩)
  (cla:codeIn K cdla "law" = true)
  (kla:keepIn K (.ref fla)=true)
  (ast:nsIn K mainGlobals "steps_of" = some (some (.ref fst)))
  (lst:K.lookup fst=some ⟨ocst,odst,.func (fO "steps_of" "steps_of" B0 .none kVst dcst pmst anst cdst ctst),slst⟩)
  (cst:codeIn K cdst "steps_of" = true)
  (kst:keepIn K (.ref fst)=true)
  (kdl:K.lookup kd=some ⟨ocK,odK,.dict esK epK,slK⟩)
  (kde:(esK.all fun e=>match e.key with | .str _ _=>true | _=>false)=true)
  (kdr:nsIn K kd "rest" = some (some (.str "bar" tB)))
  (vG:nsIn K mainGlobals "GREATEST" = some (some (.int 1048575 tG)))
  (vM:nsIn K mainGlobals "MOST_ROWS" = some (some (.int 10 tM)))
  (vL:nsIn K mainGlobals "LONGEST_NAME" = some (some (.int 6 tL)))
  (vLi:nsIn K mainGlobals "LIMIT" = some (some (.int 1099511627776 tLi)))
  (vR:nsIn K mainGlobals "RULES" = some (some (.ref aR)))
  (qn:specialIn K (.builtin "object.__class__") "__get__" = some (some (.builtin "getset_descriptor.__get__")))
  (qt:takesIn K (.builtin "object.__class__")=some true)
  (fC:CF K C)
  (fVC:CF K VC)
  (fDC:CF K DC)
  (nC_numbers:findIn K (.ref C) "numbers" = some none)
  (nC_firsts:findIn K (.ref C) "firsts" = some none)
  (nC_rule:findIn K (.ref C) "rule" = some none)
  (nVC_own_kind:findIn K (.ref VC) "own_kind" = some none)
  (nVC_bits:findIn K (.ref VC) "bits" = some none)
  (nDC_steps:findIn K (.ref DC) "steps" = some none)
  (nDC_waiting:findIn K (.ref DC) "waiting" = some none)
  (nDC_wants_part:findIn K (.ref DC) "wants_part" = some none)
  (rL:K.lookup aR=some ⟨.type "tuple", odR,.seq #[.str "bar" t1,.str "drop" t2,.str "keep" t3,.str "leave" t4] nRR,slR⟩)
  (z_len:nsIn K mainGlobals "len" = some none)
  (z_isinstance:nsIn K mainGlobals "isinstance" = some none)
  (z_max:nsIn K mainGlobals "max" = some none)
  (z_min:nsIn K mainGlobals "min" = some none)
  (z_range:nsIn K mainGlobals "range" = some none)
  (z_list:nsIn K mainGlobals "list" = some none)
  (z_tuple:nsIn K mainGlobals "tuple" = some none)
  (z_sorted:nsIn K mainGlobals "sorted" = some none)
  (z_sum:nsIn K mainGlobals "sum" = some none)
  (z_all:nsIn K mainGlobals "all" = some none)
  (z_enumerate:nsIn K mainGlobals "enumerate" = some none)
  (z_int:nsIn K mainGlobals "int" = some none)
  (z_bool:nsIn K mainGlobals "bool" = some none)
  (z_str:nsIn K mainGlobals "str" = some none)
  (z_zip:nsIn K mainGlobals "zip" = some none)
  (vBD:nsIn K mainGlobals "BINDING" = some (some (.ref bd)))
  (vJN:nsIn K mainGlobals "JOINING" = some (some (.ref jn)))
  (vLB:nsIn K mainGlobals "LEAST_BINDING" = some (some (.int 1 tLB)))
  (jL:K.lookup jn=some ⟨.type "tuple", odJ,.seq #[.str "&" j1,.str "^" j2,.str "|" j3] nJ,slJ⟩)
  : ∃ fd:FuncData,(∀ (s:Shared) (v:Value),BindsTo s fd ⟨[v],[]⟩ [("_law_script", v)])/\∀ base:Heap,K.In base->base.Ns mainGlobals mg->AX l.prog w K mg base CX0 8 fz fd ["_law_script"] (spLaw K bd):=by
 have MG:∀ {x:Str} {v:Value},nsIn K mainGlobals x=some (some v)->mg x=some v:=fun h=>mg_of X G h;have MN:∀ {x:Str},nsIn K mainGlobals x=some none->mg x=none:=fun h=>mg_none_of X G h;have T:CN K C:=⟨⟨fC.pg,fC.hd,fC.po,fC.sa⟩,nC_numbers,nC_firsts,nC_rule⟩;have VT:Gm K VC:=⟨⟨fVC.pg,fVC.hd,fVC.po,fVC.sa⟩,nVC_own_kind,nVC_bits⟩;have DT:Hl K DC:=⟨⟨fDC.pg,fDC.hd,fDC.po,fDC.sa⟩,nDC_steps,nDC_waiting,nDC_wants_part⟩;have KI:KIsi K C:=⟨⟨fC.pg,fC.hd,fC.po,fC.sa⟩,fC.qa,qn,qt,fC.qm,FX fC.ql fC.qy fC.qs⟩;have VI:KIsi K VC:=⟨⟨fVC.pg,fVC.hd,fVC.po,fVC.sa⟩,fVC.qa,qn,qt,fVC.qm,FX fVC.ql fVC.qy fVC.qs⟩;have mCg:=MG aC;have mVg:=MG aVC;have hLi:=MG vLi;have vI:=FX fVC.ql fVC.qy fVC.qi;have qeC:=fC.ne;have qm:=fC.qm;have B:Bl mg:=⟨MN z_len,MN z_isinstance,MN z_max,MN z_min,MN z_range,MN z_list,MN z_tuple,MN z_sorted,MN z_sum,MN z_all,MN z_enumerate,MN z_int,MN z_bool,MN z_str⟩;have rT:∀ H:Hp,SqT K H aR (ruleNames.map V.str):=fun H=>.inr ⟨_,_,_,rL,rfl,rfl,sl4,.cons ⟨_,rfl⟩ (.cons ⟨_,rfl⟩ (.cons ⟨_,rfl⟩ (.cons ⟨_,rfl⟩ .nil)))⟩;have jT:∀ H:Hp,SqT K H jn [.str "&", .str "^", .str "|"]:=fun H=>.inr ⟨_,_,_,jL,rfl,rfl,sl3,.cons ⟨_,rfl⟩ (.cons ⟨_,rfl⟩ (.cons ⟨_,rfl⟩ .nil))⟩
 have kdo:nsOkIn K kd=true:=by
  unfold nsOkIn;rw [kdl];exact kde
 have hG:=MG vG;have hM:=MG vM;have hL:=MG vL;have hR:=MG vR;have Fin:=fun_mk (st:=A3) lin cin kin;have Fla:=fun_mk (st:=LL) lla cla kla;have Fst:=fun_mk (st:=B0) lst cst kst;have e:=hfa.symm.trans (MG ala);cases e;obtain ⟨fwh,dwh,awh,Fwh⟩:=hwh;have bwh:=bi1 (p1 := "thing") Fwh fun _ _ _ _ _ _ _=>rfl;obtain ⟨fnm,dnm,anm,Fnm⟩:=hnm;have bnm:=bi1 (p1 := "thing") Fnm fun _ _ _ _ _ _ _=>rfl;obtain ⟨fuo,duo,auo,Fuo⟩:=huo;have buo:=bi1 (p1 := "numbers") Fuo fun _ _ _ _ _ _ _=>rfl;obtain ⟨fnx,dnx,anx,Fnx⟩:=hnx;have bnx:=bi1 (p1 := "numbers") Fnx fun _ _ _ _ _ _ _=>rfl;obtain ⟨foo,doo,aoo,Foo⟩:=hoo;have boo:=bi2 (p1 := "thing") (p2 := "names") Foo fun _ _ _ _ _ _ _ _=>rfl;obtain ⟨fno,dno,ano,Fno⟩:=hno;have bno:=bi2 (p1 := "parts") (p2 := "ahead") Fno fun _ _ _ _ _ _ _ _=>rfl;obtain ⟨fth,dth,ath,Fth⟩:=hth;have bth:=bi2 (p1 := "thing") (p2 := "ahead") Fth fun _ _ _ _ _ _ _ _=>rfl;obtain ⟨fro,dro,aro,Fro⟩:=hro;have bro:=bi2 (p1 := "row") (p2 := "ahead") Fro fun _ _ _ _ _ _ _ _=>rfl;obtain ⟨fnb,dnb,anb,Fnb⟩:=hnb;have bnb:=bi1 (p1 := "rows") Fnb fun _ _ _ _ _ _ _=>rfl;obtain ⟨ffi,dfi,afi,Ffi⟩:=hfi;have bfi:=bi1 (p1 := "numbers") Ffi fun _ _ _ _ _ _ _=>rfl;obtain ⟨fim,dim,aim,Fim⟩:=him;have bim:=bi1 (p1 := "number") Fim fun _ _ _ _ _ _ _=>rfl;obtain ⟨fmR,dmR,amR,imR,omR,FmR⟩:=hmR;have bmR:=bi1 (p1 := "self") FmR fun _ _ _ _ _ _ _=>rfl;obtain ⟨fmK,dmK,amK,imK,omK,FmK⟩:=hmK;have bmK:=bi1 (p1 := "self") FmK fun _ _ _ _ _ _ _=>rfl;obtain ⟨fmT,dmT,amT,imT,omT,FmT⟩:=hmT;have bmT:=bi1 (p1 := "self") FmT fun _ _ _ _ _ _ _=>rfl;obtain ⟨fmM,dmM,amM,imM,omM,FmM⟩:=hmM;have bmM:=bi1 (p1 := "self") FmM fun _ _ _ _ _ _ _=>rfl;obtain ⟨fmE,dmE,amE,imE,omE,FmE⟩:=hmE;have bmE:=bi2 (p1 := "self") (p2 := "other") FmE fun _ _ _ _ _ _ _ _=>rfl;obtain ⟨flc,dlc,alc,Flc⟩:=hlc;have blc:=bi2 (p1 := "_law_script") (p2 := "_law_k") Flc fun _ _ _ _ _ _ _ _=>rfl;obtain ⟨fld,dld,ald,Fld⟩:=hld;have bld:=bi2 (p1 := "_law_cell_here") (p2 := "_law_k") Fld fun _ _ _ _ _ _ _ _=>rfl;obtain ⟨flr,dlr,alr,Flr⟩:=hlr;have blr:=bi2 (p1 := "_law_dice") (p2 := "_law_many") Flr fun _ _ _ _ _ _ _ _=>rfl;obtain ⟨fls,dls,als,Fls⟩:=hls;have bls:=bi2 (p1 := "_law_script") (p2 := "_law_most") Fls fun _ _ _ _ _ _ _ _=>rfl;obtain ⟨fll,dll,all,Fll⟩:=hll;have bll:=bi2 (p1 := "_law_dice") (p2 := "_law_most") Fll fun _ _ _ _ _ _ _ _=>rfl;obtain ⟨fxn,dxn,axn,Fxn⟩:=hxn;have bxn:=bi1 (p1 := "thing") Fxn fun _ _ _ _ _ _ _=>rfl;obtain ⟨fxr,dxr,axr,Fxr⟩:=hxr;have bxr:=bi2 (p1 := "kind") (p2 := "number") Fxr fun _ _ _ _ _ _ _ _=>rfl;obtain ⟨fxi,dxi,axi,ixi,oxi,Fxi⟩:=hxi;have bxi:=bi3 (p1 := "self") (p2 := "kind") (p3 := "number") Fxi fun _ _ _ _ _ _ _ _ _=>rfl;obtain ⟨fxN,dxN,axN,ixN,oxN,FxN⟩:=hxN;have bxN:=bi1 (p1 := "self") FxN fun _ _ _ _ _ _ _=>rfl;obtain ⟨fxK,dxK,axK,ixK,oxK,FxK⟩:=hxK;have bxK:=bi1 (p1 := "self") FxK fun _ _ _ _ _ _ _=>rfl;obtain ⟨fxE,dxE,axE,ixE,oxE,FxE⟩:=hxE;have bxE:=bi2 (p1 := "self") (p2 := "other") FxE fun _ _ _ _ _ _ _ _=>rfl;obtain ⟨fmN,dmN,amN,imN,omN,FmN⟩:=hmN;have bmN:=bi2 (p1 := "self") (p2 := "name") FmN fun _ _ _ _ _ _ _ _=>rfl;obtain ⟨fmA,dmA,amA,imA,omA,FmA⟩:=hmA;have bmA:=bi1 (p1 := "self") FmA fun _ _ _ _ _ _ _=>rfl;obtain ⟨fmb,dmb,amb,Fmb⟩:=hmb;have bmb:=bi1 (p1 := "kind") Fmb fun _ _ _ _ _ _ _=>rfl;obtain ⟨flb,dlb,alb,Flb⟩:=hlb;have blb:=bi1 (p1 := "_law_number") Flb fun _ _ _ _ _ _ _=>rfl;obtain ⟨flu,dlu,alu,Flu⟩:=hlu;have blu:=bi1 (p1 := "_law_dice") Flu fun _ _ _ _ _ _ _=>rfl;obtain ⟨flt,dlt,alt,Flt⟩:=hlt;have blt:=bi1 (p1 := "_law_due") Flt fun _ _ _ _ _ _ _=>rfl;obtain ⟨fli,dli,ali,Fli⟩:=hli;have bli:=bi3 (p1 := "_law_dice") (p2 := "_law_known") (p3 := "_law_way") Fli fun _ _ _ _ _ _ _ _ _=>rfl;obtain ⟨flx,dlx,alx,Flx⟩:=hlx;have blx:=bi2 (p1 := "_law_table") (p2 := "_law_number") Flx fun _ _ _ _ _ _ _ _=>rfl;obtain ⟨fxM,dxM,axM,ixM,oxM,FxM⟩:=hxM;have bxM:=bi1 (p1 := "self") FxM fun _ _ _ _ _ _ _=>rfl;obtain ⟨fxR,dxR,axR,ixR,oxR,FxR⟩:=hxR;have bxR:=bi1 (p1 := "self") FxR fun _ _ _ _ _ _ _=>rfl;obtain ⟨fvo,dvo,avo,Fvo⟩:=hvo;have bvo:=bi2 (p1 := "kind") (p2 := "names") Fvo fun _ _ _ _ _ _ _ _=>rfl;obtain ⟨fmd,dmd,amd,Fmd⟩:=hmd;have bmd:=bi2 (p1 := "kind") (p2 := "number") Fmd fun _ _ _ _ _ _ _ _=>rfl;obtain ⟨fgl,dgl,agl,Fgl⟩:=hgl;have bgl:=bi1 (p1 := "thing") Fgl fun _ _ _ _ _ _ _=>rfl;obtain ⟨fgf,dgf,agf,Fgf⟩:=hgf;have bgf:=bi1 (p1 := "text") Fgf fun _ _ _ _ _ _ _=>rfl;obtain ⟨fgp,dgp,agp,Fgp⟩:=hgp;have bgp:=bi2 (p1 := "text") (p2 := "lettered") Fgp fun _ _ _ _ _ _ _ _=>rfl;obtain ⟨fge,dge,age,Fge⟩:=hge;have bge:=bi3 (p1 := "text") (p2 := "at") (p3 := "lettered") Fge fun _ _ _ _ _ _ _ _ _=>rfl;obtain ⟨fdS,ddS,adS,idS,odS,FdS⟩:=hdS;have bdS:=bi2 (p1 := "self") (p2 := "binding") FdS fun _ _ _ _ _ _ _ _=>rfl;obtain ⟨fdP,ddP,adP,idP,odP,FdP⟩:=hdP;have bdP:=bi2 (p1 := "self") (p2 := "part") FdP fun _ _ _ _ _ _ _ _=>rfl;obtain ⟨fdB,ddB,adB,idB,odB,FdB⟩:=hdB;have bdB:=bi2 (p1 := "self") (p2 := "sign") FdB fun _ _ _ _ _ _ _ _=>rfl;obtain ⟨fdG,ddG,adG,idG,odG,FdG⟩:=hdG;have bdG:=bi2 (p1 := "self") (p2 := "sign") FdG fun _ _ _ _ _ _ _ _=>rfl;obtain ⟨fdE,ddE,adE,idE,odE,FdE⟩:=hdE;have bdE:=bi1 (p1 := "self") FdE fun _ _ _ _ _ _ _=>rfl;obtain ⟨fgj,dgj,agj,Fgj⟩:=hgj;have bgj:=bi3 (p1 := "sign") (p2 := "one") (p3 := "other") Fgj fun _ _ _ _ _ _ _ _ _=>rfl;obtain ⟨fgn,dgn,agn,Fgn⟩:=hgn;have bgn:=bi3 (p1 := "kind") (p2 := "part") (p3 := "table") Fgn fun _ _ _ _ _ _ _ _ _=>rfl;obtain ⟨fgo,dgo,ago,Fgo⟩:=hgo;have bgo:=bi3 (p1 := "kind") (p2 := "steps") (p3 := "table") Fgo fun _ _ _ _ _ _ _ _ _=>rfl;obtain ⟨ftx,dtx,atx,Ftx⟩:=htx;have btx:=bi1 (p1 := "value") Ftx fun _ _ _ _ _ _ _=>rfl;obtain ⟨fdI,ddI,adI,idI,odI,FdI⟩:=hdI;have bdI:=bi1 (p1 := "self") FdI fun _ _ _ _ _ _ _=>rfl;obtain ⟨frd,drd,ard,Frd⟩:=hrd;have brd:=bi2 (p1 := "kind") (p2 := "text") Frd fun _ _ _ _ _ _ _ _=>rfl;refine ⟨fO "law" "law" LL .none kVla dcla pmla anla cdla ctla,fun s v=>.of_eq rfl,fun base _ _=>?_⟩;have FT:=@fnT l.prog w K mg base;have MT:=@mtT l.prog w K mg base;have Gwh:=FT (sp:=spIsWhole) Fwh (Ik Fwh B) (MG awh) bwh;have Gnm:=FT (sp:=spIsName) Fnm (J2 Fnm B hL) (MG anm) bnm;have Guo:=FT (sp:=(spUnionOf K)) Fuo (IZ Fuo) (MG auo) buo;have Gnx:=FT (sp:=(spNextMark K)) Fnx (HL Fnx B) (MG anx) bnx;have Goo:=FT (sp:=(CL K)) Foo (Ij Foo B) (MG aoo) boo;have Gno:=FT (sp:=spIsNamesOf) Fno (Gk Fno B Goo) (MG ano) bno;have Gth:=FT (sp:=spThing) Fth (LV Fth B Gnx Gno Guo Gwh) (MG ath) bth;have Gro:=FT (sp:=spRow) Fro (OJ Fro B hG Gnm Gth) (MG aro) bro;have Gnb:=FT (sp:=spNumbered) Fnb (HN Fnb B hM Gro) (MG anb) bnb;have Gfi:=FT (sp:=spFirsts) Ffi (J9 Ffi) (MG afi) bfi;have Gim:=FT (sp:=spIsMark) Fim (J1 Fim) (MG aim) bim;have GmR:=MT (sp:=(spRows C)) amR imR FmR (M6 FmR B T) bmR;have GmK:=MT (sp:=(spKnown C)) amK imK FmK (La FmK B T Guo) bmK;have GmT:=MT (sp:=(spRest C)) amT imT FmT (NF FmT T) bmT;have GmM:=MT (sp:=(spMarks C)) amM imM FmM (Lb FmM B T Gim) bmM;have GmE:=MT (sp:=(spEqK C)) amE imE FmE (OU FmE B T KI mCg GmR) bmE;have Glc:=FT (sp:=(spCell K)) Flc (M9 Flc B) (MG alc) blc;have Gld:=FT (sp:=spDrawn) Fld (Ld Fld) (MG ald) bld;have Glr:=FT (sp:=spRoll) Flr (NA Flr Gld) (MG alr) blr;have Gls:=FT (sp:=(spRounds K)) Fls (KD Fls B Glc) (MG als) bls;have Gll:=FT (sp:=spLines) Fll (Lm Fll B Glr) (MG all) bll;have Gxn:=FT (sp:=spIsNumber) Fxn (Hg Fxn hLi Gwh) (MG axn) bxn;have Gxr:=FT (sp:=(spRestOf C)) Fxr (KQ Fxr T GmK) (MG axr) bxr;have Gxi:=MT (sp:=(spVInit C VC)) axi ixi Fxi (Hh Fxi T VT Gxn Gxr GmT) bxi;have GxN:=MT (sp:=(spVNumber VC)) axN ixN FxN (Ip FxN VT) bxN;have GxK:=MT (sp:=(spVKind VC)) axK ixK FxK (Lv FxK VT) bxK;have GxE:=MT (sp:=(spVEq C VC)) axE ixE FxE (OX FxE B T VT VI vI mVg GmE) bxE;obtain ⟨fE0,dE0,gE0,mE0,bE0⟩:=GxE.ex;have VO:JS l.prog w K mg base C VC:=⟨VT,mVg,⟨_,_,⟨fVC.mz,axi,ixi,fVC.kc⟩,Hh Fxi T VT Gxn Gxr GmT,bxi⟩,⟨_,_,gE0,mE0,bE0⟩,VI,fVC.ne,fVC.qi⟩;have GmN:=MT (sp:=(spNumber C)) amN imN FmN (KK FmN T Goo) bmN;have GmA:=MT (sp:=(spNames C)) amA imA FmA (Lo FmA B T) bmA;have Gmb:=FT (sp:=(spMarkBits C)) Fmb (Hj Fmb T GmM Guo) (MG amb) bmb;have Glb:=FT (sp:=spBitsOf) Flb (KF Flb B) (MG alb) blb;have Glu:=FT (sp:=spRuleOf) Flu (KC Flu Glr) (MG alu) blu;have Glt:=FT (sp:=spTable) Flt (Ls Flt B Glb) (MG alt) blt;have Gli:=FT (sp:=spNumberIn) Fli (Hk Fli Glr) (MG ali) bli;have Glx:=FT (sp:=spLTx) Flx (On Flx B) (MG alx) blx;have GxM:=MT (sp:=(spVMarks C VC)) axM ixM FxM (KS FxM T VT GmM) bxM;have GxR:=MT (sp:=(spVRest C VC)) axR ixR FxR (Ly FxR VT Gmb) bxR;have Gvo:=FT (sp:=(spVOf C VC)) Fvo (Iz Fvo B T VO Guo GmN) (MG avo) bvo;have Gmd:=FT (sp:=(spMade C VC)) Fmd (NT Fmd hLi T VO Gwh Gxr GmT) (MG amd) bmd;have Ggl:=FT (sp:=spLet) Fgl (Oa Fgl B) (MG agl) bgl;have Ggf:=FT (sp:=spFig) Fgf (OZ Fgf B Gxn) (MG agf) bgf;have Ggp:=FT (sp:=spPart) Fgp (NM Fgp Gnm Ggf) (MG agp) bgp;have Gge:=FT (sp:=spPE) Fge (NN Fge B Ggp) (MG age) bge;have GdS:=MT (sp:=(spSet DC bd)) adS idS FdS (Od FdS B DT (MG vBD)) bdS;have GdP:=MT (sp:=(spTP DC)) adP idP FdP (PZ FdP DT) bdP;have GdB:=MT (sp:=(spTB DC bd)) adB idB FdB (Pd FdB DT (MG vBD) (MG vJN) jT GdS) bdB;have GdG:=MT (sp:=(spTB DC bd)) adG idG FdG (Pe FdG DT GdB) bdG;have GdE:=MT (sp:=(spEnds DC bd)) adE idE FdE (NO FdE B DT (MG vLB) GdS) bdE;have Ggj:=FT (sp:=spJn) Fgj (Ph Fgj) (MG agj) bgj;have Ggn:=FT (sp:=(spPN C)) Fgn (Pi Fgn B T Ggl Gnm GmN) (MG agn) bgn;have Ggo:=FT (sp:=(spNo C)) Fgo (Pj Fgo T (MG vJN) jT Ggj Ggn) (MG ago) bgo;have Gtx:=FT (sp:=(spTxt C VC)) Ftx (Oj Ftx B T VT GxK GxN GmA GmN GxM GxR) (MG atx) btx;have KO:MO l.prog w K mg base C:=⟨T,mCg,⟨_,_,⟨fC.mz,ain,iin,fC.kc⟩,Mz Fin B T hR rT Gnb Gfi Goo,⟨_,Na⟩,_,Oq kdo kdr,.cons ⟨_,rfl⟩ .nil⟩⟩;have RO:Pf l.prog w K mg base DC bd:=⟨DT,MG aDC,⟨_,_,⟨fDC.mz,adI,idI,fDC.kc⟩,Oc FdI DT,bdI⟩,GdP,GdG,GdE⟩;have SO:Pk l.prog w K mg base DC bd:=⟨⟨_,_,Pg Fst B RO Gge,MG ast,kst,_,MR⟩⟩;have Grd:=FT (sp:=spRead C VC bd) Frd (NU Frd SO Ggo Gmd) (MG ard) brd;exact Op Fla B (MN z_zip) KO VO Gls Gll Glu Glt Glr Gli Gtx Glx Grd Gvo
theorem walk {l:OpenLaw} {q:Program} {loose:List Str} {XP:(Str->Option Value)->Heap->Prop} {YP:World->Heap->Prop} {d:DefRec} {K:Params->Frag} {bd:Addr} {dl:List DcE} {ep:Nat} (hn:l.most=some 63) (hdf:d.params.defaults=[]) (hb5:5 <= bd) (hdl:dl.length <= 1000) (hdn:(dl.map (·.1)).Nodup) (he:dcK dl=DD)
  (hY:∀ (w:World) (h:Heap),YP w h->(K w.params).In h/\h.get? bd=some (dcObj w.params dl ep)/\(K w.params).lookup bd=none)
  (F:∀ (w:World) (mg:SV) (fa:Addr) (h:Heap),(K w.params).In h->h.Ns mainGlobals mg->mg d.name=some (.ref fa) ->
   ∃ fd:FuncData,(∀ (s:Shared) (u:Value),BindsTo s fd ⟨[u],[]⟩ [("_law_script", u)])/\∀ base:Heap,(K w.params).In base->base.Ns mainGlobals mg->AX l.prog w (K w.params) mg base CX0 8 fa fd ["_law_script"] (spLaw (K w.params) bd)) :
  WalkO q loose XP YP l.row.toRowW d [] (fun f vs=>PySem.call f vs) :=
 L2.LG (n:=63) (k:=8) (x := "_law_script") (CX:=fun _=>CX0) (sp:=fun w=>spLaw (K w.params) bd) hn (by decide) hdf ⟨rfl,by decide,by decide⟩ hb5 hdl hdn hY F (fun _ _ a ns hl _ hB hS=>⟨a,ns,rfl,hS,hl,he ▸ hB,fun _=>rfl⟩) fun _ _ _ _ _ z=>z
end Mk
end
section
namespace Hd
open PySem PySem.W PySem.Calls PyProof.Rows
def runT (tb : String -> Option Builtin) (p : Program) (w : World) (n₀ : Nat) (ann : Option Value) : Nat -> SharedT -> Thread -> Option SharedT
  | 0,_,_=>none
  | n + 1,s,t=>match through t with
    | true=>some s
    | false=>match stepOk n₀ ann t with
      | false=>none
      | true=>match stepT (denote tb) p w s t with
        | some (s',t')=>runT tb p w n₀ ann n s' t'
        | none=>none
theorem runT_of {tb : String -> Option Builtin} {p : Program} {w : World} {n₀ : Nat} {ann : Option Value} : ∀ {n : Nat} {s s' : SharedT} {t : Thread},runT tb p w n₀ ann n s t = some s' -> topRun tb p w n₀ ann n s.abs t = some s'.abs
  | 0,_,_,_,h=>by cases h
  | n + 1,s,s',t,h=>by
    unfold runT at h
    unfold topRun
    cases ht : through t with
    | true=>rw [ht] at h; cases h; rfl
    | false =>
      rw [ht] at h
      cases hk : stepOk n₀ ann t with
      | false=>rw [hk] at h; cases h
      | true =>
        rw [hk] at h
        cases hs : stepT (denote tb) p w s t with
        | none=>rw [hs] at h; cases h
        | some r=>obtain ⟨s₂,t₂⟩:=r; rw [hs] at h; rw [stepT_spec hs]; exact runT_of h
def looksAt (p q : Program) (loose : List Str) (Xt : Shared -> Bool) (as : List Addr) (h₀ : Heap) (s : Shared) :=
  (staticsOk (importedModules p.main.body) h₀ s.heap && namesBound p s.heap && gensDone s && laidKept h₀ s.heap,openSeen q loose (importedModules p.main.body) Xt true s,as.map s.heap.get?)
theorem left_of {p q : Program} {loose : List Str} {Xt : Shared -> Bool} {as : List Addr} {K : Params -> Frag} {N M m₀ : Nat} {ann : Option Value} {T0 : Params -> BT} {life : Life}
    (open_ : ∀ w : World,(fencedOpening treeTable p w N).map (fun s=>(s.heap,s.gens,s.drawn,s.toks)) = some (boot_heap w.params,#[],boot_drawn,boot_toks))
    (tree : ∀ P : Params,absHeap (T0 P) m₀ life = boot_heap P)
    (size : ∀ w : World,((boot_heap w.params).isNs mainGlobals,(boot_heap w.params).objs.size,(boot_heap w.params).nsMap mainGlobals "__annotations__") = (true,m₀,ann))
    (le : Nat.ble M N = true)
    (run : ∀ (w : World) (os : OsState),(runT treeTable p w m₀ ann M ⟨T0 w.params,m₀,life,#[],boot_drawn,boot_toks,os⟩ (topStub p)).map (fun s=>looksAt p q loose Xt as (boot_heap w.params) s.abs) = some (true,openGood q loose,(K w.params).map fun x=>some x.2)) :
    LeftO p q loose Xt (fun s=>as.map s.heap.get?) (fun w=>(K w.params).map fun x=>some x.2) N:=fun w=>by
  obtain ⟨⟨h,gs,d,k,os⟩,e,e'⟩:=Option.map_eq_some_iff.mp (open_ w)
  obtain ⟨rfl,rfl,rfl,rfl⟩ : h = boot_heap w.params /\ gs = #[] /\ d = boot_drawn /\ k = boot_toks:=by simpa using e'
  obtain ⟨z1,z2,z3⟩ : _ /\ _ /\ _:=by simpa only [Prod.mk.injEq] using size w
  obtain ⟨sT,r1,r2⟩:=Option.map_eq_some_iff.mp (run w os)
  have r3:=runT_of r1
  have r4 : topRun treeTable p w m₀ ann M ⟨boot_heap w.params,#[],boot_drawn,boot_toks,os⟩ (topStub p) = some sT.abs:=by
    rw [← tree w.params]
    exact r3
  have r:=topRun_mono (N - M) _ _ _ _ r4
  rw [show M + (N - M) = N by have:=Nat.le_of_ble_eq_true le; omega] at r
  unfold looksAt at r2
  obtain ⟨l1,l2,l3⟩ : _ /\ _ /\ _:=by simpa only [Prod.mk.injEq] using r2
  have t : topFrom treeTable p w N ⟨boot_heap w.params,#[],boot_drawn,boot_toks,os⟩ = some sT.abs:=by
    unfold topFrom
    dsimp only
    rw [z1,z2,z3,r]
    show (match staticsOk (importedModules p.main.body) (boot_heap w.params) sT.abs.heap && namesBound p sT.abs.heap && gensDone sT.abs && laidKept (boot_heap w.params) sT.abs.heap with | true=>_ | false=>_) = _
    rw [l1]
  unfold openEnds
  rw [e]
  show (topFrom treeTable p w N _).map _ = _
  rw [t]
  exact congrArg some (Prod.ext l2 l3)
end Hd
end
noncomputable section
open PySem PySem.W PySem.Calls PyProof.Rows
abbrev Mk.fS (x q : Str) (s : Stmt) (dV kV doc pm : Value) (an : Option Addr) (cd ct : Value) : FuncData:=fnOf x q (L2.defArgs s) (L2.defBody s) (L2.defScope s) dV kV doc pm an cd ct
abbrev Mk.cO (x : Str) (a : Nat) (q : Str) (b c : Nat) (d e f g h : Int) (i j l m n : Nat) (o p : Int) (r : Nat) : Obj:=⟨.type "code", none,.fields #[.str x a,.str q b,.str "/claim/cut.py" c,.int d 0,.int e 0,.int f 0,.int g 0,.int h 0,.ref i,.bool true,.int 181 0,.ref j,.none,.ref l,.ref m,.ref n,.int o 0,.int p 0,.str "/claim/cut.py" r],#[]⟩
abbrev Mk.dE (P : PySem.Params) (x : Str) (t : Nat) (v : Value) : DictEntry:=⟨PyData.keyHash P x,.str x t,v⟩
abbrev Mk.fN (x q : Str) (s : Stmt) (m : Str) (t c : Nat) : Obj:=⟨.type "function", none,.func (Mk.fS x q s .none .none .none (.str m t) none (.ref c) .none),#[]⟩
abbrev Mk.eC (x : Str) (a b c d e f : Nat) : Obj:=⟨.type "type", none,.cls ⟨x,[.ref a],[.ref b,.ref a,.type "ValueError", .type "Exception", .type "BaseException", .type "object"],c,x,true,[],[],false,none,false⟩,#[some (.ref d),none,some (.str x e),some (.str x f),some (.builtin "ValueError.__new__"),some (.bool true)]⟩
noncomputable def Mk.Kg (P : PySem.Params) : PySem.W.Frag :=
 (nat_lit 2,⟨.none,none,(.dict #[] 0),#[]⟩) ::
 (nat_lit 3,⟨(.type "dict"),none,(.dict #[Mk.dE P "__name__" 165 (.str "law_markworks_k30_whole_texts" 860),Mk.dE P "__doc__" 166 .none,Mk.dE P "__package__" 167 .none,Mk.dE P "__loader__" 168 (.builtin "__main__.__loader__#opaque"),Mk.dE P "__spec__" 169 .none,Mk.dE P "__annotations__" 170 (.ref 6),Mk.dE P "__builtins__" 171 (.ref 4),Mk.dE P "__file__" 173 (.str "/claim/cut.py" 172),Mk.dE P "__cached__" 174 .none,Mk.dE P "MarkError" 215 (.ref 32),Mk.dE P "BadRows" 240 (.ref 52),Mk.dE P "BadRule" 256 (.ref 64),Mk.dE P "BadName" 272 (.ref 76),Mk.dE P "BadNumber" 288 (.ref 88),Mk.dE P "BadRest" 313 (.ref 107),Mk.dE P "BadText" 338 (.ref 126),Mk.dE P "GREATEST" 346 (.int 1048575 345),Mk.dE P "MOST_ROWS" 348 (.int 10 347),Mk.dE P "LONGEST_NAME" 350 (.int 6 349),Mk.dE P "RULES" 355 (.ref 129),Mk.dE P "is_whole" 362 (.ref 136),Mk.dE P "is_name" 368 (.ref 141),Mk.dE P "is_mark" 375 (.ref 148),Mk.dE P "union_of" 384 (.ref 155),Mk.dE P "is_one_of" 392 (.ref 162),Mk.dE P "mark_bits" 398 (.ref 167),Mk.dE P "next_mark" 405 (.ref 174),Mk.dE P "is_names_of" 411 (.ref 179),Mk.dE P "thing_number" 417 (.ref 184),Mk.dE P "row_number" 428 (.ref 191),Mk.dE P "numbered" 439 (.ref 198),Mk.dE P "first_names" 449 (.ref 205),Mk.dE P "Kind" 547 (.ref 282),Mk.dE P "LIMIT" 553 (.int 1099511627776 552),Mk.dE P "is_number" 560 (.ref 293),Mk.dE P "rest_of" 568 (.ref 300),Mk.dE P "Value" 642 (.ref 357),Mk.dE P "made" 652 (.ref 368),Mk.dE P "value_of" 658 (.ref 373),Mk.dE P "JOINING" 664 (.ref 374),Mk.dE P "BINDING" 680 (.ref 375),Mk.dE P "LEAST_BINDING" 682 (.int 1 681),Mk.dE P "is_letter" 689 (.ref 382),Mk.dE P "is_figures" 695 (.ref 387),Mk.dE P "is_part" 703 (.ref 394),Mk.dE P "part_end" 713 (.ref 401),Mk.dE P "Reading" 797 (.ref 467),Mk.dE P "steps_of" 809 (.ref 479),Mk.dE P "joined" 818 (.ref 486),Mk.dE P "part_number" 827 (.ref 493),Mk.dE P "number_of" 839 (.ref 500),Mk.dE P "text_of" 851 (.ref 507),Mk.dE P "read" 859 (.ref 514),Mk.dE P "_law_cell" 869 (.ref 521),Mk.dE P "_law_drawn" 878 (.ref 528),Mk.dE P "_law_roll" 887 (.ref 535),Mk.dE P "_law_rounds" 893 (.ref 540),Mk.dE P "_law_bits_of" 899 (.ref 545),Mk.dE P "_law_rule_of" 906 (.ref 552),Mk.dE P "_law_lines" 912 (.ref 557),Mk.dE P "_law_table_of" 918 (.ref 562),Mk.dE P "_law_number_in" 928 (.ref 569),Mk.dE P "_law_text_of" 934 (.ref 574),Mk.dE P "law" 940 (.ref 579)] 64),#[]⟩) ::
 (nat_lit 32,⟨(.type "type"),none,(.cls ⟨"MarkError", [(.type "ValueError")],[(.ref 32),(.type "ValueError"),(.type "Exception"),(.type "BaseException"),(.type "object")],31, "MarkError", true,[],[(.ref 52),(.ref 64),(.ref 76),(.ref 88),(.ref 107),(.ref 126)],false,none,false⟩),#[(some (.ref 15)),none,(some (.str "MarkError" 189)),(some (.str "MarkError" 197)),(some (.builtin "ValueError.__new__")),(some (.bool true))]⟩) ::
 (nat_lit 52,Mk.eC "BadRows" 32 52 51 36 216 224) ::
 (nat_lit 64,Mk.eC "BadRule" 32 64 63 55 241 249) ::
 (nat_lit 76,Mk.eC "BadName" 32 76 75 67 257 265) ::
 (nat_lit 88,Mk.eC "BadNumber" 32 88 87 79 273 281) ::
 (nat_lit 107,Mk.eC "BadRest" 32 107 106 91 289 297) ::
 (nat_lit 126,Mk.eC "BadText" 32 126 125 110 314 322) ::
 (nat_lit 129,⟨(.type "tuple"),none,(.seq #[(.str "bar" 351),(.str "drop" 352),(.str "keep" 353),(.str "leave" 354)] 0),#[]⟩) ::
 (nat_lit 135,Mk.cO "is_whole" 356 "is_whole" 357 358 32 1 0 0 3 130 131 132 133 134 360 32 361) ::
 (nat_lit 136,Mk.fN "is_whole" "is_whole" (Mk.top 13) "markworks.kinds" 339 135) ::
 (nat_lit 140,⟨(.type "code"),none,(.fields #[(.str "is_name" 363),(.str "is_name" 364),(.str "/claim/cut.py" 365),(.int 34 0),(.int 1 0),(.int 0 0),(.int 0 0),(.int 3 0),(.ref 137),(.bool true),(.int 181 0),(.ref 138),.none,.none,.none,(.ref 139),(.int 366 0),(.int 34 0),(.str "/claim/cut.py" 367)]),#[]⟩) ::
 (nat_lit 141,Mk.fN "is_name" "is_name" (Mk.top 14) "markworks.kinds" 339 140) ::
 (nat_lit 147,Mk.cO "is_mark" 369 "is_mark" 370 371 38 1 0 0 3 142 143 144 145 146 373 38 374) ::
 (nat_lit 148,Mk.fN "is_mark" "is_mark" (Mk.top 15) "markworks.kinds" 339 147) ::
 (nat_lit 154,Mk.cO "union_of" 376 "union_of" 377 378 40 1 0 0 3 149 150 151 152 153 382 40 383) ::
 (nat_lit 155,Mk.fN "union_of" "union_of" (Mk.top 16) "markworks.kinds" 339 154) ::
 (nat_lit 161,Mk.cO "is_one_of" 385 "is_one_of" 386 387 45 2 0 0 3 156 157 158 159 160 390 45 391) ::
 (nat_lit 162,Mk.fN "is_one_of" "is_one_of" (Mk.top 17) "markworks.kinds" 339 161) ::
 (nat_lit 166,⟨(.type "code"),none,(.fields #[(.str "mark_bits" 393),(.str "mark_bits" 394),(.str "/claim/cut.py" 395),(.int 47 0),(.int 1 0),(.int 0 0),(.int 0 0),(.int 3 0),(.ref 163),(.bool true),(.int 181 0),(.ref 164),.none,.none,.none,(.ref 165),(.int 396 0),(.int 47 0),(.str "/claim/cut.py" 397)]),#[]⟩) ::
 (nat_lit 167,Mk.fN "mark_bits" "mark_bits" (Mk.top 18) "markworks.kinds" 339 166) ::
 (nat_lit 173,Mk.cO "next_mark" 399 "next_mark" 400 401 49 1 0 0 3 168 169 170 171 172 403 49 404) ::
 (nat_lit 174,Mk.fN "next_mark" "next_mark" (Mk.top 19) "markworks.kinds" 339 173) ::
 (nat_lit 178,⟨(.type "code"),none,(.fields #[(.str "is_names_of" 406),(.str "is_names_of" 407),(.str "/claim/cut.py" 408),(.int 51 0),(.int 2 0),(.int 0 0),(.int 0 0),(.int 3 0),(.ref 175),(.bool true),(.int 181 0),(.ref 176),.none,.none,.none,(.ref 177),(.int 409 0),(.int 51 0),(.str "/claim/cut.py" 410)]),#[]⟩) ::
 (nat_lit 179,Mk.fN "is_names_of" "is_names_of" (Mk.top 20) "markworks.kinds" 339 178) ::
 (nat_lit 183,⟨(.type "code"),none,(.fields #[(.str "thing_number" 412),(.str "thing_number" 413),(.str "/claim/cut.py" 414),(.int 53 0),(.int 2 0),(.int 0 0),(.int 0 0),(.int 3 0),(.ref 180),(.bool true),(.int 181 0),(.ref 181),.none,.none,.none,(.ref 182),(.int 415 0),(.int 53 0),(.str "/claim/cut.py" 416)]),#[]⟩) ::
 (nat_lit 184,Mk.fN "thing_number" "thing_number" (Mk.top 21) "markworks.kinds" 339 183) ::
 (nat_lit 190,Mk.cO "row_number" 418 "row_number" 419 420 61 2 0 0 3 185 186 187 188 189 426 61 427) ::
 (nat_lit 191,Mk.fN "row_number" "row_number" (Mk.top 22) "markworks.kinds" 339 190) ::
 (nat_lit 197,Mk.cO "numbered" 429 "numbered" 430 431 71 1 0 0 3 192 193 194 195 196 437 71 438) ::
 (nat_lit 198,Mk.fN "numbered" "numbered" (Mk.top 23) "markworks.kinds" 339 197) ::
 (nat_lit 204,Mk.cO "first_names" 440 "first_names" 441 442 81 1 0 0 3 199 200 201 202 203 447 81 448) ::
 (nat_lit 205,Mk.fN "first_names" "first_names" (Mk.top 24) "markworks.kinds" 339 204) ::
 (nat_lit 213,⟨(.type "dict"),none,(.dict #[Mk.dE P "rest" 463 (.str "bar" 462)] 1),#[]⟩) ::
 (nat_lit 219,Mk.cO "__init__" 464 "Kind.__init__" 465 466 88 2 0 1 3 214 215 216 217 218 470 88 471) ::
 (nat_lit 220,⟨(.type "function"),none,(.func (Mk.fS "__init__" "Kind.__init__" (L2.inClass (Mk.top 25) 0) .none (.ref 213) .none (.str "markworks.kinds" 339) none (.ref 219) .none)),#[]⟩) ::
 (nat_lit 226,Mk.cO "rows" 473 "Kind.rows" 474 475 95 1 0 0 3 221 222 223 224 225 477 95 478) ::
 (nat_lit 227,Mk.fN "rows" "Kind.rows" (L2.inClass (Mk.top 25) 1) "markworks.kinds" 339 226) ::
 (nat_lit 233,Mk.cO "number" 480 "Kind.number" 481 482 98 2 0 0 3 228 229 230 231 232 485 98 486) ::
 (nat_lit 234,Mk.fN "number" "Kind.number" (L2.inClass (Mk.top 25) 2) "markworks.kinds" 339 233) ::
 (nat_lit 240,Mk.cO "names" 488 "Kind.names" 489 490 103 1 0 0 3 235 236 237 238 239 492 103 493) ::
 (nat_lit 241,Mk.fN "names" "Kind.names" (L2.inClass (Mk.top 25) 3) "markworks.kinds" 339 240) ::
 (nat_lit 250,⟨(.type "code"),none,(.fields #[(.str "marks" 501),(.str "Kind.marks" 502),(.str "/claim/cut.py" 503),(.int 110 0),(.int 1 0),(.int 0 0),(.int 0 0),(.int 3 0),(.ref 247),(.bool true),(.int 181 0),(.ref 248),.none,.none,.none,(.ref 249),(.int 504 0),(.int 110 0),(.str "/claim/cut.py" 505)]),#[]⟩) ::
 (nat_lit 251,Mk.fN "marks" "Kind.marks" (L2.inClass (Mk.top 25) 5) "markworks.kinds" 339 250) ::
 (nat_lit 257,Mk.cO "known" 507 "Kind.known" 508 509 113 1 0 0 3 252 253 254 255 256 511 113 512) ::
 (nat_lit 258,Mk.fN "known" "Kind.known" (L2.inClass (Mk.top 25) 6) "markworks.kinds" 339 257) ::
 (nat_lit 264,Mk.cO "rest" 514 "Kind.rest" 515 516 116 1 0 0 3 259 260 261 262 263 518 116 519) ::
 (nat_lit 265,Mk.fN "rest" "Kind.rest" (L2.inClass (Mk.top 25) 7) "markworks.kinds" 339 264) ::
 (nat_lit 271,Mk.cO "__eq__" 521 "Kind.__eq__" 522 523 119 2 0 0 3 266 267 268 269 270 526 119 527) ::
 (nat_lit 272,Mk.fN "__eq__" "Kind.__eq__" (L2.inClass (Mk.top 25) 8) "markworks.kinds" 339 271) ::
 (nat_lit 281,⟨(.type "dict"),none,(.dict #[Mk.dE P "__module__" 457 (.str "markworks.kinds" 339),Mk.dE P "__firstlineno__" 461 (.int 86 460),Mk.dE P "__init__" 472 (.ref 220),Mk.dE P "rows" 479 (.ref 227),Mk.dE P "number" 487 (.ref 234),Mk.dE P "names" 494 (.ref 241),Mk.dE P "aliases" 500 (.ref 246),Mk.dE P "marks" 506 (.ref 251),Mk.dE P "known" 513 (.ref 258),Mk.dE P "rest" 520 (.ref 265),Mk.dE P "__eq__" 528 (.ref 272),Mk.dE P "__len__" 535 (.ref 279),Mk.dE P "__static_attributes__" 539 (.ref 280),Mk.dE P "__dict__" 541 (.ref 283),Mk.dE P "__weakref__" 543 (.ref 284),Mk.dE P "__doc__" 544 .none,Mk.dE P "__hash__" 545 .none] 5),#[]⟩) ::
 (nat_lit 282,⟨(.type "type"),none,(.cls ⟨"Kind", [(.type "object")],[(.ref 282),(.type "object")],281, "Kind", true,[],[],false,none,false⟩),#[none,none,(some (.str "Kind" 450)),(some (.str "Kind" 458)),(some (.builtin "object.__new__")),(some (.bool true))]⟩) ::
 (nat_lit 292,Mk.cO "is_number" 554 "is_number" 555 556 126 1 0 0 3 287 288 289 290 291 558 126 559) ::
 (nat_lit 293,Mk.fN "is_number" "is_number" (Mk.top 28) "markworks.values" 548 292) ::
 (nat_lit 299,Mk.cO "rest_of" 561 "rest_of" 562 563 128 2 0 0 3 294 295 296 297 298 566 128 567) ::
 (nat_lit 300,Mk.fN "rest_of" "rest_of" (Mk.top 29) "markworks.values" 548 299) ::
 (nat_lit 313,Mk.cO "__init__" 581 "Value.__init__" 582 583 132 3 0 0 3 308 309 310 311 312 587 132 588) ::
 (nat_lit 314,Mk.fN "__init__" "Value.__init__" (L2.inClass (Mk.top 30) 0) "markworks.values" 548 313) ::
 (nat_lit 320,Mk.cO "number" 590 "Value.number" 591 592 140 1 0 0 3 315 316 317 318 319 594 140 595) ::
 (nat_lit 321,Mk.fN "number" "Value.number" (L2.inClass (Mk.top 30) 1) "markworks.values" 548 320) ::
 (nat_lit 327,Mk.cO "kind" 597 "Value.kind" 598 599 143 1 0 0 3 322 323 324 325 326 601 143 602) ::
 (nat_lit 328,Mk.fN "kind" "Value.kind" (L2.inClass (Mk.top 30) 2) "markworks.values" 548 327) ::
 (nat_lit 332,⟨(.type "code"),none,(.fields #[(.str "marks" 604),(.str "Value.marks" 605),(.str "/claim/cut.py" 606),(.int 146 0),(.int 1 0),(.int 0 0),(.int 0 0),(.int 3 0),(.ref 329),(.bool true),(.int 181 0),(.ref 330),.none,.none,.none,(.ref 331),(.int 607 0),(.int 146 0),(.str "/claim/cut.py" 608)]),#[]⟩) ::
 (nat_lit 333,Mk.fN "marks" "Value.marks" (L2.inClass (Mk.top 30) 3) "markworks.values" 548 332) ::
 (nat_lit 339,Mk.cO "rest" 610 "Value.rest" 611 612 149 1 0 0 3 334 335 336 337 338 614 149 615) ::
 (nat_lit 340,Mk.fN "rest" "Value.rest" (L2.inClass (Mk.top 30) 4) "markworks.values" 548 339) ::
 (nat_lit 346,Mk.cO "__eq__" 617 "Value.__eq__" 618 619 152 2 0 0 3 341 342 343 344 345 622 152 623) ::
 (nat_lit 347,Mk.fN "__eq__" "Value.__eq__" (L2.inClass (Mk.top 30) 5) "markworks.values" 548 346) ::
 (nat_lit 356,⟨(.type "dict"),none,(.dict #[Mk.dE P "__module__" 576 (.str "markworks.values" 548),Mk.dE P "__firstlineno__" 580 (.int 130 579),Mk.dE P "__init__" 589 (.ref 314),Mk.dE P "number" 596 (.ref 321),Mk.dE P "kind" 603 (.ref 328),Mk.dE P "marks" 609 (.ref 333),Mk.dE P "rest" 616 (.ref 340),Mk.dE P "__eq__" 624 (.ref 347),Mk.dE P "__len__" 631 (.ref 354),Mk.dE P "__static_attributes__" 634 (.ref 355),Mk.dE P "__dict__" 636 (.ref 358),Mk.dE P "__weakref__" 638 (.ref 359),Mk.dE P "__doc__" 639 .none,Mk.dE P "__hash__" 640 .none] 5),#[]⟩) ::
 (nat_lit 357,⟨(.type "type"),none,(.cls ⟨"Value", [(.type "object")],[(.ref 357),(.type "object")],356, "Value", true,[],[],false,none,false⟩),#[none,none,(some (.str "Value" 569)),(some (.str "Value" 577)),(some (.builtin "object.__new__")),(some (.bool true))]⟩) ::
 (nat_lit 367,Mk.cO "made" 643 "made" 644 645 157 2 0 0 3 362 363 364 365 366 650 157 651) ::
 (nat_lit 368,Mk.fN "made" "made" (Mk.top 31) "markworks.values" 548 367) ::
 (nat_lit 372,⟨(.type "code"),none,(.fields #[(.str "value_of" 653),(.str "value_of" 654),(.str "/claim/cut.py" 655),(.int 169 0),(.int 2 0),(.int 0 0),(.int 0 0),(.int 3 0),(.ref 369),(.bool true),(.int 181 0),(.ref 370),.none,.none,.none,(.ref 371),(.int 656 0),(.int 169 0),(.str "/claim/cut.py" 657)]),#[]⟩) ::
 (nat_lit 373,Mk.fN "value_of" "value_of" (Mk.top 32) "markworks.values" 548 372) ::
 (nat_lit 374,⟨(.type "tuple"),none,(.seq #[(.str "&" 661),(.str "^" 662),(.str "|" 663)] 0),#[]⟩) ::
 (nat_lit 381,Mk.cO "is_letter" 683 "is_letter" 684 685 177 1 0 0 3 376 377 378 379 380 687 177 688) ::
 (nat_lit 382,Mk.fN "is_letter" "is_letter" (Mk.top 37) "markworks.grammar" 659 381) ::
 (nat_lit 386,⟨(.type "code"),none,(.fields #[(.str "is_figures" 690),(.str "is_figures" 691),(.str "/claim/cut.py" 692),(.int 179 0),(.int 1 0),(.int 0 0),(.int 0 0),(.int 3 0),(.ref 383),(.bool true),(.int 181 0),(.ref 384),.none,.none,.none,(.ref 385),(.int 693 0),(.int 179 0),(.str "/claim/cut.py" 694)]),#[]⟩) ::
 (nat_lit 387,Mk.fN "is_figures" "is_figures" (Mk.top 38) "markworks.grammar" 659 386) ::
 (nat_lit 393,Mk.cO "is_part" 696 "is_part" 697 698 185 2 0 0 3 388 389 390 391 392 701 185 702) ::
 (nat_lit 394,Mk.fN "is_part" "is_part" (Mk.top 39) "markworks.grammar" 659 393) ::
 (nat_lit 400,Mk.cO "part_end" 704 "part_end" 705 706 187 3 0 0 3 395 396 397 398 399 711 187 712) ::
 (nat_lit 401,Mk.fN "part_end" "part_end" (Mk.top 40) "markworks.grammar" 659 400) ::
 (nat_lit 414,Mk.cO "__init__" 726 "Reading.__init__" 727 728 194 1 0 0 3 409 410 411 412 413 730 194 731) ::
 (nat_lit 415,Mk.fN "__init__" "Reading.__init__" (L2.inClass (Mk.top 41) 0) "markworks.grammar" 659 414) ::
 (nat_lit 421,Mk.cO "take_part" 733 "Reading.take_part" 734 735 199 2 0 0 3 416 417 418 419 420 738 199 739) ::
 (nat_lit 422,Mk.fN "take_part" "Reading.take_part" (L2.inClass (Mk.top 41) 1) "markworks.grammar" 659 421) ::
 (nat_lit 428,Mk.cO "take_sign" 741 "Reading.take_sign" 742 743 203 2 0 0 3 423 424 425 426 427 746 203 747) ::
 (nat_lit 429,Mk.fN "take_sign" "Reading.take_sign" (L2.inClass (Mk.top 41) 2) "markworks.grammar" 659 428) ::
 (nat_lit 442,Mk.cO "take_between" 757 "Reading.take_between" 758 759 216 2 0 0 3 437 438 439 440 441 762 216 763) ::
 (nat_lit 443,Mk.fN "take_between" "Reading.take_between" (L2.inClass (Mk.top 41) 4) "markworks.grammar" 659 442) ::
 (nat_lit 456,Mk.cO "settle" 772 "Reading.settle" 773 774 231 2 0 0 3 451 452 453 454 455 777 231 778) ::
 (nat_lit 457,Mk.fN "settle" "Reading.settle" (L2.inClass (Mk.top 41) 6) "markworks.grammar" 659 456) ::
 (nat_lit 463,Mk.cO "ends" 780 "Reading.ends" 781 782 235 1 0 0 3 458 459 460 461 462 784 235 785) ::
 (nat_lit 464,Mk.fN "ends" "Reading.ends" (L2.inClass (Mk.top 41) 7) "markworks.grammar" 659 463) ::
 (nat_lit 466,⟨(.type "dict"),none,(.dict #[Mk.dE P "__module__" 721 (.str "markworks.grammar" 659),Mk.dE P "__firstlineno__" 725 (.int 192 724),Mk.dE P "__init__" 732 (.ref 415),Mk.dE P "take_part" 740 (.ref 422),Mk.dE P "take_sign" 748 (.ref 429),Mk.dE P "take_ahead" 756 (.ref 436),Mk.dE P "take_between" 764 (.ref 443),Mk.dE P "take_close" 771 (.ref 450),Mk.dE P "settle" 779 (.ref 457),Mk.dE P "ends" 786 (.ref 464),Mk.dE P "__static_attributes__" 790 (.ref 465),Mk.dE P "__dict__" 792 (.ref 468),Mk.dE P "__weakref__" 794 (.ref 469),Mk.dE P "__doc__" 795 .none] 4),#[]⟩) ::
 (nat_lit 467,⟨(.type "type"),none,(.cls ⟨"Reading", [(.type "object")],[(.ref 467),(.type "object")],466, "Reading", true,[],[],false,none,false⟩),#[none,none,(some (.str "Reading" 714)),(some (.str "Reading" 722)),(some (.builtin "object.__new__")),(some (.bool true))]⟩) ::
 (nat_lit 472,⟨(.type "dict"),none,(.dict #[Mk.dE P "lettered" 798 (.bool true)] 1),#[]⟩) ::
 (nat_lit 478,Mk.cO "steps_of" 799 "steps_of" 800 801 238 1 0 1 3 473 474 475 476 477 807 238 808) ::
 (nat_lit 479,⟨(.type "function"),none,(.func (Mk.fS "steps_of" "steps_of" (Mk.top 42) .none (.ref 472) .none (.str "markworks.grammar" 659) none (.ref 478) .none)),#[]⟩) ::
 (nat_lit 485,Mk.cO "joined" 810 "joined" 811 812 255 3 0 0 3 480 481 482 483 484 816 255 817) ::
 (nat_lit 486,Mk.fN "joined" "joined" (Mk.top 43) "markworks.grammar" 659 485) ::
 (nat_lit 492,Mk.cO "part_number" 819 "part_number" 820 821 261 3 0 0 3 487 488 489 490 491 825 261 826) ::
 (nat_lit 493,Mk.fN "part_number" "part_number" (Mk.top 44) "markworks.grammar" 659 492) ::
 (nat_lit 499,Mk.cO "number_of" 828 "number_of" 829 830 267 3 0 0 3 494 495 496 497 498 837 267 838) ::
 (nat_lit 500,Mk.fN "number_of" "number_of" (Mk.top 45) "markworks.grammar" 659 499) ::
 (nat_lit 506,Mk.cO "text_of" 842 "text_of" 843 844 279 1 0 0 3 501 502 503 504 505 849 279 850) ::
 (nat_lit 507,Mk.fN "text_of" "text_of" (Mk.top 47) "markworks.texts" 840 506) ::
 (nat_lit 513,Mk.cO "read" 852 "read" 853 854 288 2 0 0 3 508 509 510 511 512 857 288 858) ::
 (nat_lit 514,Mk.fN "read" "read" (Mk.top 48) "markworks.texts" 840 513) ::
 (nat_lit 520,Mk.cO "_law_cell" 862 "_law_cell" 863 864 291 2 0 0 3 515 516 517 518 519 867 291 868) ::
 (nat_lit 521,Mk.fN "_law_cell" "_law_cell" (Mk.top 50) "law_markworks_k30_whole_texts" 860 520) ::
 (nat_lit 527,Mk.cO "_law_drawn" 870 "_law_drawn" 871 872 295 2 0 0 3 522 523 524 525 526 876 295 877) ::
 (nat_lit 528,Mk.fN "_law_drawn" "_law_drawn" (Mk.top 51) "law_markworks_k30_whole_texts" 860 527) ::
 (nat_lit 534,Mk.cO "_law_roll" 879 "_law_roll" 880 881 300 2 0 0 3 529 530 531 532 533 885 300 886) ::
 (nat_lit 535,Mk.fN "_law_roll" "_law_roll" (Mk.top 52) "law_markworks_k30_whole_texts" 860 534) ::
 (nat_lit 539,⟨(.type "code"),none,(.fields #[(.str "_law_rounds" 888),(.str "_law_rounds" 889),(.str "/claim/cut.py" 890),(.int 307 0),(.int 2 0),(.int 0 0),(.int 0 0),(.int 3 0),(.ref 536),(.bool true),(.int 181 0),(.ref 537),.none,.none,.none,(.ref 538),(.int 891 0),(.int 307 0),(.str "/claim/cut.py" 892)]),#[]⟩) ::
 (nat_lit 540,Mk.fN "_law_rounds" "_law_rounds" (Mk.top 53) "law_markworks_k30_whole_texts" 860 539) ::
 (nat_lit 544,⟨(.type "code"),none,(.fields #[(.str "_law_bits_of" 894),(.str "_law_bits_of" 895),(.str "/claim/cut.py" 896),(.int 309 0),(.int 1 0),(.int 0 0),(.int 0 0),(.int 3 0),(.ref 541),(.bool true),(.int 181 0),(.ref 542),.none,.none,.none,(.ref 543),(.int 897 0),(.int 309 0),(.str "/claim/cut.py" 898)]),#[]⟩) ::
 (nat_lit 545,Mk.fN "_law_bits_of" "_law_bits_of" (Mk.top 54) "law_markworks_k30_whole_texts" 860 544) ::
 (nat_lit 551,Mk.cO "_law_rule_of" 900 "_law_rule_of" 901 902 311 1 0 0 3 546 547 548 549 550 904 311 905) ::
 (nat_lit 552,Mk.fN "_law_rule_of" "_law_rule_of" (Mk.top 55) "law_markworks_k30_whole_texts" 860 551) ::
 (nat_lit 556,⟨(.type "code"),none,(.fields #[(.str "_law_lines" 907),(.str "_law_lines" 908),(.str "/claim/cut.py" 909),(.int 313 0),(.int 2 0),(.int 0 0),(.int 0 0),(.int 3 0),(.ref 553),(.bool true),(.int 181 0),(.ref 554),.none,.none,.none,(.ref 555),(.int 910 0),(.int 313 0),(.str "/claim/cut.py" 911)]),#[]⟩) ::
 (nat_lit 557,Mk.fN "_law_lines" "_law_lines" (Mk.top 56) "law_markworks_k30_whole_texts" 860 556) ::
 (nat_lit 561,⟨(.type "code"),none,(.fields #[(.str "_law_table_of" 913),(.str "_law_table_of" 914),(.str "/claim/cut.py" 915),(.int 332 0),(.int 1 0),(.int 0 0),(.int 0 0),(.int 3 0),(.ref 558),(.bool true),(.int 181 0),(.ref 559),.none,.none,.none,(.ref 560),(.int 916 0),(.int 332 0),(.str "/claim/cut.py" 917)]),#[]⟩) ::
 (nat_lit 562,Mk.fN "_law_table_of" "_law_table_of" (Mk.top 57) "law_markworks_k30_whole_texts" 860 561) ::
 (nat_lit 568,Mk.cO "_law_number_in" 919 "_law_number_in" 920 921 340 3 0 0 3 563 564 565 566 567 926 340 927) ::
 (nat_lit 569,Mk.fN "_law_number_in" "_law_number_in" (Mk.top 58) "law_markworks_k30_whole_texts" 860 568) ::
 (nat_lit 573,⟨(.type "code"),none,(.fields #[(.str "_law_text_of" 929),(.str "_law_text_of" 930),(.str "/claim/cut.py" 931),(.int 345 0),(.int 2 0),(.int 0 0),(.int 0 0),(.int 3 0),(.ref 570),(.bool true),(.int 181 0),(.ref 571),.none,.none,.none,(.ref 572),(.int 932 0),(.int 345 0),(.str "/claim/cut.py" 933)]),#[]⟩) ::
 (nat_lit 574,Mk.fN "_law_text_of" "_law_text_of" (Mk.top 59) "law_markworks_k30_whole_texts" 860 573) ::
 (nat_lit 578,⟨(.type "code"),none,(.fields #[(.str "law" 935),(.str "law" 936),(.str "/claim/cut.py" 937),(.int 352 0),(.int 1 0),(.int 0 0),(.int 0 0),(.int 3 0),(.ref 575),(.bool true),(.int 181 0),(.ref 576),.none,.none,.none,(.ref 577),(.int 938 0),(.int 352 0),(.str "/claim/cut.py" 939)]),#[]⟩) ::
 (nat_lit 579,Mk.fN "law" "law" (Mk.top 60) "law_markworks_k30_whole_texts" 860 578) ::
 []
noncomputable def Mk.Kf (P : PySem.Params) : PySem.W.Frag:=(nat_lit 375,⟨(.type "dict"),none,(.dict #[Mk.dE P "(" 665 (.int 0 666),Mk.dE P "|" 667 (.int 1 668),Mk.dE P "^" 669 (.int 2 670),Mk.dE P "&" 671 (.int 3 672),Mk.dE P "~" 673 (.int 4 674)] 5),#[]⟩) :: Mk.Kg P
noncomputable def Mk.Kas : List Nat:=375 :: 2 :: 3 :: 32 :: 52 :: 64 :: 76 :: 88 :: 107 :: 126 :: 129 :: 135 :: 136 :: 140 :: 141 :: 147 :: 148 :: 154 :: 155 :: 161 :: 162 :: 166 :: 167 :: 173 :: 174 :: 178 :: 179 :: 183 :: 184 :: 190 :: 191 :: 197 :: 198 :: 204 :: 205 :: 213 :: 219 :: 220 :: 226 :: 227 :: 233 :: 234 :: 240 :: 241 :: 250 :: 251 :: 257 :: 258 :: 264 :: 265 :: 271 :: 272 :: 281 :: 282 :: 292 :: 293 :: 299 :: 300 :: 313 :: 314 :: 320 :: 321 :: 327 :: 328 :: 332 :: 333 :: 339 :: 340 :: 346 :: 347 :: 356 :: 357 :: 367 :: 368 :: 372 :: 373 :: 374 :: 381 :: 382 :: 386 :: 387 :: 393 :: 394 :: 400 :: 401 :: 414 :: 415 :: 421 :: 422 :: 428 :: 429 :: 442 :: 443 :: 456 :: 457 :: 463 :: 464 :: 466 :: 467 :: 472 :: 478 :: 479 :: 485 :: 486 :: 492 :: 493 :: 499 :: 500 :: 506 :: 507 :: 513 :: 514 :: 520 :: 521 :: 527 :: 528 :: 534 :: 535 :: 539 :: 540 :: 544 :: 545 :: 551 :: 552 :: 556 :: 557 :: 561 :: 562 :: 568 :: 569 :: 573 :: 574 :: 578 :: 579 :: []
noncomputable def Mk.loose : List PySem.Str:=Str.ofString "MarkError" :: Str.ofString "BadRows" :: Str.ofString "BadRule" :: Str.ofString "BadName" :: Str.ofString "BadNumber" :: Str.ofString "BadRest" :: Str.ofString "BadText" :: Str.ofString "GREATEST" :: Str.ofString "MOST_ROWS" :: Str.ofString "LONGEST_NAME" :: Str.ofString "RULES" :: Str.ofString "is_whole" :: Str.ofString "is_name" :: Str.ofString "is_mark" :: Str.ofString "union_of" :: Str.ofString "is_one_of" :: Str.ofString "mark_bits" :: Str.ofString "next_mark" :: Str.ofString "is_names_of" :: Str.ofString "thing_number" :: Str.ofString "row_number" :: Str.ofString "numbered" :: Str.ofString "first_names" :: Str.ofString "Kind" :: Str.ofString "LIMIT" :: Str.ofString "is_number" :: Str.ofString "rest_of" :: Str.ofString "Value" :: Str.ofString "made" :: Str.ofString "value_of" :: Str.ofString "JOINING" :: Str.ofString "BINDING" :: Str.ofString "LEAST_BINDING" :: Str.ofString "is_letter" :: Str.ofString "is_figures" :: Str.ofString "is_part" :: Str.ofString "part_end" :: Str.ofString "Reading" :: Str.ofString "steps_of" :: Str.ofString "joined" :: Str.ofString "part_number" :: Str.ofString "number_of" :: Str.ofString "text_of" :: Str.ofString "read" :: Str.ofString "_law_cell" :: Str.ofString "_law_drawn" :: Str.ofString "_law_roll" :: Str.ofString "_law_rounds" :: Str.ofString "_law_bits_of" :: Str.ofString "_law_rule_of" :: Str.ofString "_law_lines" :: Str.ofString "_law_table_of" :: Str.ofString "_law_number_in" :: Str.ofString "_law_text_of" :: []
abbrev Mk.dl : List L2.DcE:=[("(", 665,0,666),("|", 667,1,668),("^", 669,2,670),("&", 671,3,672),("~", 673,4,674)]
abbrev Mk.ep : Nat:=5
def Mk.T0 (P : Params) : BT:=.node (boot_o_0 P)
  (.node (boot_o_1 P) (.node (boot_o_3 P) (.node (boot_o_7 P) .nil .nil) .nil) (.node (boot_o_5 P) (.node (boot_o_9 P) .nil .nil) .nil))
  (.node (boot_o_2 P) (.node (boot_o_4 P) (.node (boot_o_8 P) .nil .nil) .nil) (.node (boot_o_6 P) (.node (boot_o_10 P) .nil .nil) .nil))
theorem Mk.tree (P : Params) : absHeap (Mk.T0 P) (nat_lit 11) {} = boot_heap P:=by kernel_rfl
theorem Mk.size (w : World) : ((boot_heap w.params).isNs mainGlobals,(boot_heap w.params).objs.size,(boot_heap w.params).nsMap mainGlobals "__annotations__") = (true,(nat_lit 11),some (.ref (nat_lit 6))):=by kernel_rfl
theorem Mk.opens (w : World) : (fencedOpening treeTable PySem.Challenge.pw_markworks_k30_whole_texts w (nat_lit 8690)).map (fun s=>(s.heap,s.gens,s.drawn,s.toks)) = some (boot_heap w.params,#[],boot_drawn,boot_toks):=boot_open (by kernel_rfl) (by decide) (fun s=>by kernel_rfl) w
theorem Mk.twin : Function.const _ true (@Hd.runT,@Hd.looksAt,PySem.Challenge.pw_markworks_k30_whole_texts,Mk.Kf,Mk.loose) = true:=by k_qdec
abbrev Mk.qv : Program := view PySem.Challenge.pw_markworks_k30_whole_texts [nat_lit 60]
abbrev Mk.Xt (s : Shared) : Bool := xlAt Mk.qv [] s && recOk [] s
abbrev Mk.RQ (w : World) (os : OsState) : Prop := (Option.map (fun s => Fast.tw8257016192812374322 Fast.tw1202645520616122926 (view Fast.tw1202645520616122926 [nat_lit 60]) Fast.tw2924075613660010442 (fun s => xlAt (view Fast.tw1202645520616122926 [nat_lit 60]) [] s && recOk [] s) Mk.Kas (boot_heap w.params) s.abs)
      (Fast.tw16599536794577742827 Fast.tw14364793385576792824 Fast.tw1202645520616122926 w (nat_lit 11) (some (Value.ref (nat_lit 6))) (nat_lit 4297) ⟨Mk.T0 w.params,nat_lit 11,{},#[],boot_drawn,boot_toks,os⟩ (topStub Fast.tw1202645520616122926))) =
    some (true,openGood (view Fast.tw1202645520616122926 [nat_lit 60]) Fast.tw2924075613660010442,(Fast.tw12104304683883722232 w.params).map fun x=>some x.2)
def Mk.sF (b : Bool) (w : World) : World:={ w with params:={ w.params with followText:=fun s=>if s == "special-get-raises" then b else w.params.followText s } }
theorem Mk.sF_eq (w : World) : Mk.sF (w.params.followText "special-get-raises") w = w:=by
  have : (fun s=>if s == "special-get-raises" then w.params.followText "special-get-raises" else w.params.followText s) = w.params.followText:=funext fun s=>by
    by_cases h : s = "special-get-raises"
    · rw [h]; rfl
    · rw [if_neg (by simpa using h)]
  unfold Mk.sF
  rw [this]
theorem Mk.run_t (w : World) (os : OsState) : Mk.RQ (Mk.sF true w) os:=by kernel_rfl
theorem Mk.run_f (w : World) (os : OsState) : Mk.RQ (Mk.sF false w) os:=by kernel_rfl
theorem Mk.run_q (w : World) (os : OsState) : Mk.RQ w os:=by
  have e:=Mk.sF_eq w
  cases h : w.params.followText "special-get-raises" with
  | true=>rw [h] at e; rw [← e]; exact Mk.run_t w os
  | false=>rw [h] at e; rw [← e]; exact Mk.run_f w os
theorem Mk.left : LeftO PySem.Challenge.pw_markworks_k30_whole_texts Mk.qv Mk.loose Mk.Xt (fun s=>Mk.Kas.map s.heap.get?) (fun w=>(Mk.Kf w.params).map fun x=>some x.2) (nat_lit 8690):=by
  refine Hd.left_of (M:=nat_lit 4297) (T0:=Mk.T0) Mk.opens Mk.tree Mk.size (by decide) fun w os=>?_
  have h:=Mk.run_q w os
  unfold Mk.RQ at h
  rw [← Fast.te8257016192812374322,← Fast.te1202645520616122926,← Fast.te2924075613660010442,← Fast.te16599536794577742827,← Fast.te14364793385576792824,← Fast.te12104304683883722232] at h
  exact h
theorem Mk.kg_in {P : Params} {h : Heap} (X : (Mk.Kf P).In h) : (Mk.Kg P).In h /\ h.get? 375 = some (L2.dcObj P Mk.dl Mk.ep):=by
  have e : (Mk.Kg P).lookup 375 = none:=by kernel_rfl
  refine ⟨fun b o z=>X b o ?_,X _ _ (by unfold Mk.Kf; rw [List.lookup_cons]; rfl)⟩
  unfold Mk.Kf
  rw [List.lookup_cons]
  have nb : (b == 375) = false:=by
    cases q : (b == 375) with
    | false=>rfl
    | true=>rw [beq_iff_eq.mp q,e] at z; cases z
  rw [nb]
  exact z
def Mk.dL : DefRec:=⟨"law", L2.defArgs (Mk.top (nat_lit 60)),L2.defBody (Mk.top (nat_lit 60)),L2.defScope (Mk.top (nat_lit 60)),match Mk.top (nat_lit 60) with | .FunctionDef _ _ _ _ _ _ _ _ _ p=>p | _=>⟨0,0,0,0⟩⟩
end
open PySem PySem.W PyProof.Rows
set_option maxRecDepth 100000 in
set_option maxHeartbeats 0 in
theorem PySem.Challenge.cw_markworks_k30_whole_texts_holds : PySem.Challenge.rw_markworks_k30_whole_texts.Holds := by
  w_on; o_law
  refine PySem.W.holds_open (r:=PySem.Challenge.rw_markworks_k30_whole_texts.row) (q:=Mk.qv) (loose:=Mk.loose) (Xt:=Mk.Xt) (XP:=XL Mk.qv []) (YP:=InK Mk.Kf) (d:=Mk.dL) (kwd:=[]) Mk.left
    (fun w s e=>InK.of (fun P=>by kernel_rfl) w s e) InK.keeps (fun s e=>xl_of s (Bool.and_eq_true_iff.mp e).1) XL.keeps (by kernel_rfl) (by kernel_rfl) (by kernel_rfl) (fun s e=>recFacts_of (Bool.and_eq_true_iff.mp e).2) (by rfl) (by assumption) (by decide +kernel) ⟨rfl,rfl,rfl,rfl,rfl,by decide +kernel⟩ ?hw ?hc
  case hw=>w_witness2
  have aux : Function.const _ True (PySem.Challenge.rw_markworks_k30_whole_texts,Mk.Kg):=by k_fill; trivial
  refine Mk.walk (l:=PySem.Challenge.rw_markworks_k30_whole_texts) (bd:=375) (dl:=Mk.dl) (ep:=Mk.ep) (K:=Mk.Kg) rfl rfl (by decide) (by decide) (by decide +kernel) rfl (fun w h Y=>⟨(Mk.kg_in Y).1,(Mk.kg_in Y).2,by kernel_rfl⟩) ?F
  case F =>
    intro w mg fa h KX G hmg
    refine' Mk.all_mk KX G hmg ?aC ?aVC ?aDC ?hwh ?hnm ?huo ?hnx ?hoo ?hno ?hth ?hro ?hnb ?hfi ?him ?hmR ?hmK ?hmT ?hmM ?hmE ?hlc ?hld ?hlr ?hls ?hll ?hxn ?hxr ?hxi ?hxN ?hxK ?hxE ?hmN ?hmA ?hmb ?hlb ?hlu ?hlt ?hli ?hlx ?hxM ?hxR ?hvo ?hmd ?hgl ?hgf ?hgp ?hge ?hdS ?hdP ?hdB ?hdG ?hdE ?hgj ?hgn ?hgo ?htx ?hdI ?hrd ?ain ?iin ?lin ?cin ?kin ?ala ?lla ?cla ?kla ?ast ?lst ?cst ?kst ?kdl ?kde ?kdr ?vG ?vM ?vL ?vLi ?vR ?qn ?qt ?fC ?fVC ?fDC ?nC_numbers ?nC_firsts ?nC_rule ?nVC_own_kind ?nVC_bits ?nDC_steps ?nDC_waiting ?nDC_wants_part ?rL ?z_len ?z_isinstance ?z_max ?z_min ?z_range ?z_list ?z_tuple ?z_sorted ?z_sum ?z_all ?z_enumerate ?z_int ?z_bool ?z_str ?z_zip ?vBD ?vJN ?vLB ?jL
    case aC | aVC | aDC=>k_is
    case hwh | hnm | huo | hnx | hoo | hno | hth | hro | hnb | hfi | him =>
      refine' ⟨_,_,?a,L2.fun_mk ?b ?c ?d⟩
      case a | b | c | d=>k_is
    case hmR | hmK | hmT | hmM | hmE =>
      refine' ⟨_,_,?a,?i,⟨_,?o,?q⟩,L2.fun_mk ?b ?c ?d⟩
      case a | i | b=>k_is
      case o | q=>first | rfl | k_is
      case c | d=>k_is
    case hlc | hld | hlr | hls | hll | hxn | hxr =>
      refine' ⟨_,_,?a,L2.fun_mk ?b ?c ?d⟩
      case a | b | c | d=>k_is
    case hxi | hxN | hxK | hxE | hmN | hmA =>
      refine' ⟨_,_,?a,?i,⟨_,?o,?q⟩,L2.fun_mk ?b ?c ?d⟩
      case a | i | b=>k_is
      case o | q=>first | rfl | k_is
      case c | d=>k_is
    case hmb | hlb | hlu | hlt | hli | hlx =>
      refine' ⟨_,_,?a,L2.fun_mk ?b ?c ?d⟩
      case a | b | c | d=>k_is
    case hxM | hxR =>
      refine' ⟨_,_,?a,?i,⟨_,?o,?q⟩,L2.fun_mk ?b ?c ?d⟩
      case a | i | b=>k_is
      case o | q=>first | rfl | k_is
      case c | d=>k_is
    case hvo | hmd | hgl | hgf | hgp | hge =>
      refine' ⟨_,_,?a,L2.fun_mk ?b ?c ?d⟩
      case a | b | c | d=>k_is
    case hdS | hdP | hdB | hdG | hdE =>
      refine' ⟨_,_,?a,?i,⟨_,?o,?q⟩,L2.fun_mk ?b ?c ?d⟩
      case a | i | b=>k_is
      case o | q=>first | rfl | k_is
      case c | d=>k_is
    case hgj | hgn | hgo | htx =>
      refine' ⟨_,_,?a,L2.fun_mk ?b ?c ?d⟩
      case a | b | c | d=>k_is
    case hdI =>
      refine' ⟨_,_,?a,?i,⟨_,?o,?q⟩,L2.fun_mk ?b ?c ?d⟩
      case a | i | b=>k_is
      case o | q=>first | rfl | k_is
      case c | d=>k_is
    case hrd =>
      refine' ⟨_,_,?a,L2.fun_mk ?b ?c ?d⟩
      case a | b | c | d=>k_is
    case ain | iin | lin | cin | kin | ala | lla | cla | kla | ast | lst | cst | kst | kdl=>k_is
    case kde=>simp
    case kdr | vG | vM | vL | vLi | vR | qn | qt=>k_is
    case fC | fVC | fDC =>
      refine' ⟨?_,?_,?_,?_,?_,?_,?_,?_,?_,?_,?_,?_,?_,?_⟩ <;> k_is
    case nC_numbers | nC_firsts | nC_rule | nVC_own_kind | nVC_bits | nDC_steps | nDC_waiting | nDC_wants_part | rL | z_len | z_isinstance | z_max | z_min | z_range | z_list | z_tuple | z_sorted | z_sum | z_all | z_enumerate | z_int | z_bool | z_str | z_zip | vBD | vJN | vLB | jL=>k_is
