import PyProof.Rows.All
import Wide.All
import OpenK.AllK
import Wide.FinOn
import PyProof.EqAt
import PyProof.EqKinds
import PyProof.TupleCall
import Lean
import PyProof.Rows.BitMore
import PyProof.ExcBaseAll.ValueError
import PyProof.ExcArgsOwn
import KE.KLam
import PyProof.InstStoreFacts
import PyProof.FString
import PyProof.FString2
import PyProof.Rows.FStr
import PyProof.FitsInt
import PyProof.ZipIter
import PyProof.Rows.ZipGen
import PyProof.AttrMissHeap
import KE.KDictOf
import PyProof.DictCompW
import PyProof.DictWalks
import PyProof.AutoSeq1
import PyProof.Rows.SeqMore
import PySem.Challenge.RW_markworks_k41_whole_mended
set_option Elab.async false
set_option linter.all false
set_option maxRecDepth 100000
set_option maxHeartbeats 4000000
abbrev LN:=List (PySem.Str × Nat)
abbrev VS:=PySem.Value->PySem.Shared->Prop
abbrev LO:=List (PySem.Addr × PySem.Obj)
abbrev SV:=PySem.Str->Option PySem.Value
open PySem in
abbrev FG:=W.Frag
open List (all_map any_cons any_eq_true any_map append_nil filter_append filter_cons filter_eq_nil_iff filter_nil find?_cons find?_eq_none flatten_cons foldl_append foldl_cons getD_eq_getElem?_getD getElem?_map length_append length_cons length_filter_le length_map length_nil length_pos_iff length_singleton length_take lookup_cons map_append map_cons map_map map_nil mem_append mem_append_left mem_append_right mem_cons mem_cons_of_mem mem_cons_self mem_filter mem_map mem_of_getElem? mem_range mem_singleton nodup_cons nodup_nil not_mem_nil of_mem_zip pairwise_cons pairwise_map replicate replicate_succ size_toArray sum_append sum_cons take_add_one take_length)
open PySem.Heap (get?_push_of_some get?_push_size get?_update_other lt_size size_push size_update)
section
namespace L2
open PySem
theorem sl1:1 <= sizeLine:=by decide
theorem sl2:2 <= sizeLine:=by decide
theorem sl3:3 <= sizeLine:=by decide
theorem sl4:4 <= sizeLine:=by decide
theorem sl6:6 <= sizeLine:=by decide
theorem sl7:7 <= sizeLine:=by decide
theorem sl9:9 <= sizeLine:=by decide
end L2
end
section
namespace L2
open PySem PySem.Spec PyProof.Rows
abbrev Key:=Sum Int Str
def Fb:Key->Value->Bool
 | .inl k,v=>Value.isInt k v
 | .inr x,v=>Value.isStrOf x v
def R9 (w:World):Key->Int
 | .inl k=>hashInt k
 | .inr x=>hashStr w x
theorem Az:∀ {k:Key} {v:Value},Fb k v=true->(∃ i t,k=Sum.inl i/\v=Value.int i t)\/(∃ x t,k=Sum.inr x/\v=Value.str x t)
 | .inl i,v,h=>by
  obtain ⟨t,e⟩:=Value.isInt_shape (k:=i) (v:=v) h;exact .inl ⟨i,t,rfl,e⟩
 | .inr x,v,h=>by
  obtain ⟨t,e⟩:=Value.isStrOf_shape (x:=x) (v:=v) h;exact .inr ⟨x,t,rfl,e⟩
theorem Le (i:Int) (t:Tok):Fb (.inl i) (.int i t)=true:=by simp [Fb,Value.isInt]
theorem Lf (x:Str) (t:Tok):Fb (.inr x) (.str x t)=true:=by simp [Fb,Value.isStrOf]
theorem P5 (a b:Int):decide ((Sum.inl a:Key)=Sum.inl b)=(a == b):=by
 by_cases e:a=b
 ·subst e; simp
 ·have h:¬ (Sum.inl a:Key)=Sum.inl b:=fun q=>e (Sum.inl.inj q);rw [decide_eq_false h];exact (beq_eq_false_iff_ne.mpr e).symm
theorem P6 (a b:Str):decide ((Sum.inr a:Key)=Sum.inr b)=decide (a=b):=by
 by_cases e:a=b
 ·subst e; simp
 ·have h:¬ (Sum.inr a:Key)=Sum.inr b:=fun q=>e (Sum.inr.inj q);rw [decide_eq_false h,decide_eq_false e]
theorem P7 (a:Int) (b:Str):decide ((Sum.inl a:Key)=Sum.inr b)=false:=decide_eq_false (fun q=>nomatch q)
theorem P8 (a:Str) (b:Int):decide ((Sum.inr a:Key)=Sum.inl b)=false:=decide_eq_false (fun q=>nomatch q)
def Ah (prog:Program) (w:World):PySem.KeyKind prog w Key where
 is:=Fb
 hash:=R9 w
 inj:=fun v a b ha hb=>by
  rcases Az ha with ⟨i,t,rfl,rfl⟩ | ⟨x,t,rfl,rfl⟩
  ·rcases Az hb with ⟨j,u,rfl,e⟩ | ⟨y,u,rfl,e⟩
   ·injection e with e1 _; rw [e1]
   ·exact nomatch e
  ·rcases Az hb with ⟨j,u,rfl,e⟩ | ⟨y,u,rfl,e⟩
   ·exact nomatch e
   ·injection e with e1 _; rw [e1]
 byValue:=fun k v h=>by
  rcases Az h with ⟨i,t,rfl,rfl⟩ | ⟨x,t,rfl,rfl⟩ <;> rfl
 pyHash:=fun hv h=>by
  rcases Az hv with ⟨i,t,rfl,rfl⟩ | ⟨x,t,rfl,rfl⟩
  ·exact wpAny_pyHash_int h
  ·exact wpAny_pyHash_str h
 eqBool:=fun hu hv h=>by
  rcases Az hu with ⟨i,t,rfl,rfl⟩ | ⟨x,t,rfl,rfl⟩
  ·rcases Az hv with ⟨j,u,rfl,rfl⟩ | ⟨y,u,rfl,rfl⟩
   ·rw [P5] at h; exact wpAny_eqBool_int h
   ·rw [P7] at h; exact SeqAt.EqAt.int_str i t y u _ _ _ _ h
  ·rcases Az hv with ⟨j,u,rfl,rfl⟩ | ⟨y,u,rfl,rfl⟩
   ·rw [P8] at h; exact SeqAt.EqAt.str_int x t j u _ _ _ _ h
   ·rw [P6] at h; exact wpAny_eqBool_str h
 «strs»:=fun k x t v h=>by
  rcases Az h with ⟨i,u,rfl,e⟩ | ⟨y,u,rfl,e⟩
  ·exact nomatch e
  ·injection e with e1 _
   subst e1;cases v <;> rfl
theorem Ig (prog:Program) (w:World) (i:Int) (t:Tok):(Ah prog w).is (.inl i) (.int i t)=true:=Le i t
theorem Ih (prog:Program) (w:World) (x:Str) (t:Tok):(Ah prog w).is (.inr x) (.str x t)=true:=Lf x t
end L2
namespace L2
open PySem PySem.Spec PyProof.Rows
inductive V where
 | non | bl (b:Bool) | int (i:Int) | str (x:Str) | byt (b:Array UInt8) | flt (b:UInt64) | ref (a:Addr) | ty (n:String)
 deriving DecidableEq
def RelV:V->Value->Prop
 | .non,u=>u=Value.none
 | .bl b,u=>u=Value.bool b
 | .int i,u=>∃ t,u=Value.int i t
 | .str x,u=>∃ t,u=Value.str x t
 | .byt b,u=>∃ t,u=Value.bytes b t
 | .flt b,u=>∃ t,u=Value.float b t
 | .ref a,u=>u=Value.ref a
 | .ty n,u=>u=Value.type n
abbrev Vals:List V->List Value->Prop:=Paired RelV
theorem Vals.length {xs:List V} {us:List Value} (r:Vals xs us):xs.length=us.length:=Paired.length r
theorem Vals.get:∀ {xs:List V} {us:List Value} {i:Nat} {x:V},Vals xs us->xs[i]?=some x->∃ u,us[i]?=some u/\RelV x u
 | _,_,_,_,.nil,e=>by simp at e
 | _,_,0,_,.cons r _,e=>by simp at e; subst e; exact ⟨_,rfl,r⟩
 | _,_,i + 1,x,.cons _ t,e=>by
  obtain ⟨u,h1,h2⟩:=Vals.get (i:=i) (x:=x) t (by simpa using e);exact ⟨u,by simpa using h1,h2⟩
theorem Vals.set {x:V} {u:Value} (r:RelV x u):∀ {xs:List V} {us:List Value} (i:Nat),Vals xs us->Vals (xs.set i x) (us.set i u)
 | _,_,_,.nil=>.nil
 | _,_,0,.cons _ t=>.cons r t
 | _,_,i + 1,.cons q t=>.cons q (Vals.set r i t)
theorem Vals.append:∀ {xs ys:List V} {us ws:List Value},Vals xs us->Vals ys ws->Vals (xs++ys) (us++ws)
 | _,_,_,_,.nil,s=>s
 | _,_,_,_,.cons r t,s=>.cons r (Vals.append t s)
def RelO:Option V->Option Value->Prop
 | some v,some u=>RelV v u
 | none,none=>True
 | _,_=>False
def KV {κ:Type}:List (κ × V)->List (κ × Value)->Prop:=Paired fun (p:κ × V) (q:κ × Value)=>p.1=q.1/\RelV p.2 q.2
def kV:Key->V
 | .inl i=>.int i
 | .inr x=>.str x
abbrev LK:=List (Key × V)
inductive HO where
 | lst (xs:List V)
 | tup (xs:List V)
 | dK (kvs:LK) | dT (kvs:List (List Key × V))
 | set (S:Int->Bool) (n:Nat)
 | ins (C dx:Addr) (fs:List (Str × V))
 | own (x:Addr)
 | xd (fs:List (Str × V))
 | met (f x:Addr)
 | rng (lo hi:Int)
 | frz (o:Obj) (u:HO)
 | tbl (ps:Array Value)
 | ext (φ:Heap->Prop)
abbrev Hp:=Addr->Option HO
def upd (H:Hp) (a:Addr) (o:HO):Hp:=fun b=>if b=a then some o else H b
theorem upd_same {H:Hp} {a:Addr} {o:HO}:upd H a o a=some o:=by unfold upd; rw [if_pos rfl]
theorem AF {H:Hp} {a b:Addr} {o:HO} (h:b ≠ a):upd H a o b=H b:=by unfold upd; rw [if_neg h]
theorem K1 {H:Hp} {a:Addr} {o u:HO}:upd (upd H a o) a u=upd H a u:=by
 funext b; unfold upd; split <;> rfl
theorem RH {H:Hp} {a b:Addr} {o u:HO} (h:H a=some o) (h':H b=some u) (d:o ≠ u):a ≠ b:=by
 intro e; subst e; rw [h] at h'; exact d (Option.some.inj h')
theorem AI {H:Hp} {a b:Addr} {o:HO} (h:H a=some o) (h':H b=none):a ≠ b:=by
 intro e; subst e; rw [h] at h'; cases h'
section
variable (P:Program) (w:World)
def ObjOk (H:Hp) (h:Heap) (a:Addr):HO->Prop
 | .lst xs=>xs.length <= sizeLine/\∃ (its:List Value) (n:Nat),Vals xs its/\h.get? a=some { cls:=.type "list", data:=.seq its.toArray n }
 | .tup xs=>xs.length <= sizeLine/\∃ its:List Value,Vals xs its/\IsTup h a its.toArray
 | .dK kvs=>kvs.length <= sizeLine/\(a == sysModules)=false/\∃ vs,KV kvs vs/\h.DictOf (Ah P w) a vs
 | .dT kvs=>kvs.length <= sizeLine/\(a == sysModules)=false/\∃ xs:List (List Key × Addr × Value),
   Paired (fun (p:List Key × V) (q:List Key × Addr × Value)=>p.1=q.1/\H q.2.1=some (.tup (p.1.map kV))/\RelV p.2 q.2.2) kvs xs /\
   ∃ o es ep,h.get? a=some o/\o.ExactDict/\o.data=.dict es ep/\es.toList=xs.map (entryOfKey (tupleKind (Ah P w)))/\(xs.map (·.1)).Nodup
 | .set S n=>h.SetOf (intKind P w) a S n
 | .ins C dx fs=>H dx=some (.own a)/\fs.length <= 1000/\dx ≠ a/\h.get? a=some (W.instObj C dx) /\
   ∃ mA,h.Ns1 dx mA/\(∀ f,RelO (fs.lookup f) (mA f))/\PySem.Within mA (fs.map (·.1))
 | .own _=>∃ o,h.get? a=some o
 | .xd fs=>∃ mA,h.Ns1 a mA/\∀ f,RelO (fs.lookup f) (mA f)
 | .rng lo hi=>∃ t u v,h.get? a=some { cls:=.type "range", data:=.fields #[.int lo t,.int hi u,.int 1 v] }
 | .frz o u=>h.get? a=some o/\ObjOk H h a u
 | .tbl ps=>h.get? a=some { cls:=.none,data:=.fields ps }
 | .met f x=>h.get? a=some (W.methodObj (.ref f) (.ref x))
 | .ext φ=>φ h/\(∃ o,h.get? a=some o)/\∀ h1 h2:Heap,φ h1->(∀ o,h1.get? a=some o->h2.get? a=some o)->φ h2
def HOk (H:Hp) (h:Heap):Prop:=∀ a o,H a=some o->ObjOk P w H h a o
end
section
variable {P:Program} {w:World} {H H':Hp} {h h':Heap} {a:Addr} {o:HO}
theorem ObjOk.lt (x:ObjOk P w H h a o):a < h.objs.size:=by
 cases o with
 | lst xs=>obtain ⟨_,_,_,_,e⟩:=x; exact lt_size e
 | tup xs=>obtain ⟨_,_,_,p⟩:=x; exact p.lt
 | dK kvs=>obtain ⟨_,_,_,_,o,_,_,e,_⟩:=x; exact lt_size e
 | dT kvs=>obtain ⟨_,_,_,_,o,_,_,e,_⟩:=x; exact lt_size e
 | set S n=>obtain ⟨o,_,_,_,e,_⟩:=x; exact lt_size e
 | ins C dx fs=>obtain ⟨_,_,_,e,_⟩:=x; exact lt_size e
 | own y=>obtain ⟨_,e⟩:=x; exact lt_size e
 | xd fs=>obtain ⟨_,⟨_,_,_,e,_⟩,_⟩:=x; exact lt_size e
 | rng lo hi=>obtain ⟨_,_,_,e⟩:=x; exact lt_size e
 | frz ob u=>obtain ⟨e,_⟩:=x; exact lt_size e
 | tbl ps=>exact lt_size (show h.get? a=some _ from x)
 | met f y=>exact lt_size (show h.get? a=some _ from x)
 | ext φ=>obtain ⟨_,⟨_,e⟩,_⟩:=x; exact lt_size e
theorem Paired.mapP {α β:Type} {F G:α->β->Prop}:∀ {l₁:List α} {l₂:List β},Paired F l₁ l₂->(∀ a b,F a b->G a b)->Paired G l₁ l₂
 | _,_,.nil,_=>.nil
 | _,_,.cons r t,f=>.cons (f _ _ r) (Paired.mapP t f)
theorem Paired.imp' {α β:Type} {F G:α->β->Prop} (f:∀ a b,F a b->G a b) {l₁:List α} {l₂:List β} (r:Paired F l₁ l₂):Paired G l₁ l₂:=Paired.mapP r f
theorem ObjOk.stay (x:ObjOk P w H h a o) (k:∀ b u,(b=a\/H b=some (.own a))->h.get? b=some u->h'.get? b=some u)
  (ho:∀ b,H b=some (.own a)->H' b=some (.own a)) (ht:∀ b xs,H b=some (.tup xs)->H' b=some (.tup xs)):ObjOk P w H' h' a o:=by
 induction o with
 | lst xs=>obtain ⟨z,its,n,r,e⟩:=x; exact ⟨z,its,n,r,k _ _ (.inl rfl) e⟩
 | tup xs=>obtain ⟨z,its,r,ob,e,c⟩:=x; exact ⟨z,its,r,ob,k _ _ (.inl rfl) e,c⟩
 | dK kvs=>obtain ⟨z,y,vs,r,ob,es,ep,e,c⟩:=x; exact ⟨z,y,vs,r,ob,es,ep,k _ _ (.inl rfl) e,c⟩
 | dT kvs =>
  obtain ⟨z,y,xs,r,ob,es,ep,e,c⟩:=x;exact ⟨z,y,xs,Paired.mapP r fun p q z=>⟨z.1,ht _ _ z.2.1,z.2.2⟩,ob,es,ep,k _ _ (.inl rfl) e,c⟩
 | set S n=>obtain ⟨ob,es,ep,t,e,c⟩:=x; exact ⟨ob,es,ep,t,k _ _ (.inl rfl) e,c⟩
 | ins C dx fs =>
  obtain ⟨d,z,ne,e,mA,⟨od,es,ep,e2,c⟩,r⟩:=x;exact ⟨ho _ d,z,ne,k _ _ (.inl rfl) e,mA,⟨od,es,ep,k _ _ (.inr d) e2,c⟩,r⟩
 | own y=>obtain ⟨ob,e⟩:=x; exact ⟨ob,k _ _ (.inl rfl) e⟩
 | xd fs=>obtain ⟨mA,⟨od,es,ep,e,c⟩,r⟩:=x; exact ⟨mA,⟨od,es,ep,k _ _ (.inl rfl) e,c⟩,r⟩
 | rng lo hi=>obtain ⟨t,u,v,e⟩:=x; exact ⟨t,u,v,k _ _ (.inl rfl) e⟩
 | frz ob u ih=>obtain ⟨e,q⟩:=x; exact ⟨k _ _ (.inl rfl) e,ih q⟩
 | tbl ps =>
  have e:h.get? a=some { cls:=.none,data:=.fields ps }:=x;show h'.get? a=some { cls:=.none,data:=.fields ps };exact k a _ (.inl rfl) e
 | met f y =>
  have e:h.get? a=some (W.methodObj (.ref f) (.ref y)):=x;show h'.get? a=some (W.methodObj (.ref f) (.ref y));exact k a _ (.inl rfl) e
 | ext φ=>obtain ⟨p,⟨o,e⟩,st⟩:=x; exact ⟨st _ _ p fun o q=>k _ _ (.inl rfl) q,⟨o,k _ _ (.inl rfl) e⟩,st⟩
theorem HOk.lt (x:HOk P w H h) (e:H a=some o):a < h.objs.size:=(x a o e).lt
theorem HOk.fresh (x:HOk P w H h) (e:h.objs.size <= a):H a=none:=by
 cases q:H a with
 | none=>rfl
 | some u=>exact absurd (Nat.lt_of_lt_of_le (x.lt q) e) (Nat.lt_irrefl _)
theorem HOk.kept (x:HOk P w H h) (k:∀ b u,h.get? b=some u->h'.get? b=some u):HOk P w H h':=fun a o e =>
 (x a o e).stay (fun b u _ q=>k b u q) (fun _ q=>q) fun _ _ q=>q
theorem HOk.laid (x:HOk P w H h) (k:∀ b u,h.get? b=some u->h'.get? b=some u) (hp:h.objs.size <= a) (new:ObjOk P w (upd H a o) h' a o):HOk P w (upd H a o) h':=fun b u e=>by
 have hn:=x.fresh hp;by_cases hb:b=a
 ·subst hb; rw [upd_same] at e; cases e; exact new
 ·rw [AF hb] at e;exact (x b u e).stay (fun c v _ q=>k c v q) (fun c q=>by rw [AF (AI q hn)]; exact q) fun c xs q=>by rw [AF (AI q hn)]; exact q
end
def Rd (H:Hp) (a:Addr) (u:HO):Prop:=H a=some u\/∃ o,H a=some (.frz o u)
theorem Rd.ok {P:Program} {w:World} {H:Hp} {h:Heap} {a:Addr} {u:HO} (r:Rd H a u) (x:HOk P w H h):ObjOk P w H h a u:=by
 rcases r with r | ⟨o,r⟩
 ·exact x a u r
 ·obtain ⟨_,q⟩:=x a _ r;exact q
def Mut:Option HO->Prop
 | some (.lst _)=>True
 | some (.dK _)=>True
 | some (.dT _)=>True
 | some (.set _ _)=>True
 | some (.ins _ _ _)=>True
 | some (.ext _)=>True
 | _=>False
section
variable {P:Program} {w:World} {H:Hp} {h h':Heap} {x e:Addr} {o':HO}
theorem HOk.write (ok:HOk P w H h) (mu:Mut (H x)) (he:e=x\/H e=some (.own x)) (k:∀ b u,b ≠ e->h.get? b=some u->h'.get? b=some u) (heo:∃ u,h'.get? e=some u)
  (new:ObjOk P w (upd H x o') h' x o'):HOk P w (upd H x o') h':=fun b u q=>by
 have nown:∀ c y,H c=some (.own y)->c ≠ x:=fun c y r z=>by subst z; rw [r] at mu; exact mu
 have ntup:∀ c xs,H c=some (.tup xs)->c ≠ x:=fun c xs r z=>by subst z; rw [r] at mu; exact mu
 by_cases hb:b=x
 ·subst hb; rw [upd_same] at q; cases q; exact new
 ·rw [AF hb] at q;by_cases hbe:b=e
  ·have q':H b=some (.own x):=by
    rcases he with z | z
    ·exact absurd (hbe.trans z) hb
    ·rw [hbe]; exact z
   rw [q] at q'; cases q';obtain ⟨v,hv⟩:=heo;exact ⟨v,by rw [hbe]; exact hv⟩
  ·refine (ok b u q).stay (fun c v hc r=>k c v ?_ r) (fun c r=>by rw [AF (nown c b r)]; exact r) fun c xs r=>by rw [AF (ntup c xs r)]; exact r
   rcases hc with rfl | hc
   ·exact hbe
   ·rintro rfl;rcases he with z | z
    ·exact nown c b hc z
    ·rw [hc] at z; cases z; exact hb rfl
end
structure Un (fs ex:List Addr) (H H':Hp) (h h':Heap):Prop where
 keep:∀ b o,h.get? b=some o->H b=none->b ∉ fs->b ∉ ex->h'.get? b=some o
 slot:∀ b o,h.get? b=some o->H b=none->b ∈ fs->b ∉ ex->∃ sl,h'.get? b=some { o with slots:=sl }
 free:∀ b o,h.get? b=some o->H b=none->b ∉ ex->H' b=none
 there:∀ b o,h.get? b=some o->b ∉ ex->∃ o',h'.get? b=some o'
 tups:∀ b xs,H b=some (.tup xs)->H' b=some (.tup xs)
 frzs:∀ b o u,H b=some (.frz o u)->H' b=some (.frz o u)
 tbls:∀ b ps,H b=some (.tbl ps)->∃ more,H' b=some (.tbl (ps++more))
section
variable {fs fs' ex ex':List Addr} {H H1 H2:Hp} {h h1 h2 h':Heap} {a x e:Addr} {o:HO}
theorem Un.any (u:Un fs ex H H1 h h1) {b:Addr} {ob:Obj} (q:h.get? b=some ob) (n:H b=none) (hx:b ∉ ex):∃ sl,h1.get? b=some { ob with slots:=sl }:=by
 by_cases hb:b ∈ fs
 ·exact u.slot b ob q n hb hx
 ·exact ⟨ob.slots,u.keep b ob q n hb hx⟩
theorem Un.kept (k:∀ b u,h.get? b=some u->h'.get? b=some u):Un fs ex H H h h' :=
 ⟨fun b ob q _ _ _=>k b ob q,fun b ob q _ _ _=>⟨ob.slots,k b ob q⟩,fun _ _ _ n _=>n,fun b ob q _=>⟨ob,k b ob q⟩,fun _ _ q=>q,fun _ _ _ q=>q,fun _ ps q=>⟨#[],by rw [q]; simp⟩⟩
theorem Un.refl:Un fs ex H H h h:=Un.kept fun _ _ q=>q
theorem Un.laid (k:∀ b u,h.get? b=some u->h'.get? b=some u) (hp:h.objs.size <= a) (hn:H a=none):Un fs ex H (upd H a o) h h' where
 keep:=fun b u q _ _ _=>k b u q
 slot:=fun b u q _ _ _=>⟨u.slots,k b u q⟩
 free:=fun b u q n _=>by rw [AF (Nat.ne_of_lt (Nat.lt_of_lt_of_le (lt_size q) hp))]; exact n
 there:=fun b u q _=>⟨u,k b u q⟩
 tups:=fun b xs q=>by rw [AF (AI q hn)]; exact q
 frzs:=fun b u xs q=>by rw [AF (AI q hn)]; exact q
 tbls:=fun b ps q=>⟨#[],by rw [AF (AI q hn),q]; simp⟩
theorem Un.write (mu:Mut (H x)) (he:e=x\/H e=some (.own x)) (k:∀ b u,b ≠ e->h.get? b=some u->h'.get? b=some u) (heo:∃ u,h'.get? e=some u):Un fs ex H (upd H x o) h h':=by
 have hx:∀ b,H b=none->b ≠ x:=fun b n z=>by subst z; rw [n] at mu; exact mu
 have hb:∀ b,H b=none->b ≠ e:=fun b n z=>by
  subst z;rcases he with r | r
  ·exact hx b n r
  ·rw [n] at r; cases r
 have hm:∀ b u,H b=some u->¬ Mut (some u)->b ≠ x:=fun b u q nm z=>by subst z; rw [q] at mu; exact nm mu
 refine ⟨fun b u q n _ _=>k b u (hb b n) q,fun b u q n _ _=>⟨u.slots,k b u (hb b n) q⟩,fun b u q n _=>by rw [AF (hx b n)]; exact n,fun b u q _=>?_,
  fun b xs q=>by rw [AF (hm b _ q fun z=>z)]; exact q,fun b u xs q=>by rw [AF (hm b _ q fun z=>z)]; exact q,fun b ps q=>⟨#[],by rw [AF (hm b _ q fun z=>z),q]; simp⟩⟩
 by_cases hbe:b=e
 ·subst hbe; exact heo
 ·exact ⟨u,k b u hbe q⟩
end
def trk (h:Heap) (H:Hp):List Addr:=(List.range h.objs.size).filter fun a=>(H a).isSome
def Fc (h:Heap) (H:Hp):Heap:=W.hideAll h (trk h H)
theorem Lg (h:Heap) (H:Hp):(Fc h H).objs.size=h.objs.size:=W.hideAll_size _ _
theorem Ms {h:Heap} {H:Hp} {b:Addr} {o:Obj} (e:h.get? b=some o) (n:H b=none):(Fc h H).get? b=some o :=
 W.hideAll_get _ e fun hm=>by
  have q:(H b).isSome=true:=(mem_filter.mp hm).2;rw [n] at q; simp at q
theorem Oa {h:Heap} {H:Hp} {b:Addr} {o:Obj} (e:(Fc h H).get? b=some o):h.get? b=some o/\H b=none:=by
 have e':h.get? b=some o:=W.of_hideAll (trk h H) e;refine ⟨e',?_⟩;cases q:H b with
 | none=>rfl
 | some x =>
  have hm:b ∈ trk h H:=mem_filter.mpr ⟨mem_range.mpr (lt_size e'),by simp [q]⟩;have z:(Fc h H).get? b=none:=W.hideAll_none (trk h H) hm;rw [z] at e; cases e
end L2
namespace L2
open PySem PySem.Spec PyProof.Rows
structure Mod (K:FG) (mg:SV) (base:Heap):Prop where
 kin:K.In base
 glob:base.Ns mainGlobals mg
 blt:∃ mb,base.Ns builtinsNs mb/\∀ x:Str,x ≠ "__name__" -> mb x=bootBuiltins x
 nolimit:base.NoLimit
structure Cx where
 prog:Program
 w:World
 K:FG
 mg:Str->Option Value
 base:Heap
 A:Around
 N:List Str
 s₀:Shared
 H₀:Hp
 env:Env
 outer:List Env
 stack:List Env
 ex:List Addr
 fn:Str->Bool
 calm:Bool
 pn:LO
 xe:Value->Shared->Prop
def frs (l:List Env):List Addr:=l.filterMap (·.frame)
abbrev Cx.fs (X:Cx):List Addr:=frs X.outer
def Vis (sc:Scope) (x:Str):Prop:=sc.names.lookup x=some .local\/sc.names.lookup x=some .cell\/sc.names.lookup x=some .free
def Loc (sc:Scope) (x:Str):Prop:=sc.names.lookup x=some .local\/sc.names.lookup x=some .cell
def SA (env:Env) (h:Heap) (m:SV) (x:Str) (u:Value):Prop :=
 (env.kindOf x=some .local/\m x=some u)\/((env.kindOf x=some .cell\/env.kindOf x=some .free)/\∃ c,env.cells.lookup x=some c/\h.IsCell c (some u))
structure Cx.Ok (X:Cx):Prop where
 mod:Mod X.K X.mg X.base
 kind:X.env.scope.kind=.function
 glob:X.env.globals=mainGlobals
 blt:X.env.builtins=builtinsNs
 above:X.s₀.heap.objs.size <= X.env.locals
 inj:∀ x y c,X.env.cells.lookup x=some c->X.env.cells.lookup y=some c->x=y
 has:∀ x,(X.env.kindOf x=some .cell\/X.env.kindOf x=some .free)->∃ c,X.env.cells.lookup x=some c
 cab:∀ x c,X.fn x=true->X.env.cells.lookup x=some c->X.s₀.heap.objs.size <= c
 hd:X.calm=true->X.A.handled=none
 frames:X.A.frames=some X.stack
 stk:X.stack=X.outer\/(X.stack=X.env :: X.outer/\X.env.frame=some X.env.locals)
 exf:∀ b ∈ X.ex,b ≠ X.env.locals/\∀ x c,X.env.cells.lookup x=some c->c ≠ b
 bs:∀ b o,X.base.get? b=some o->X.s₀.heap.get? b=some o/\X.H₀ b=none
 bsz:X.base.objs.size <= X.s₀.heap.objs.size
 noex:∀ b o,X.base.get? b=some o->b ∉ X.ex
 exfs:∀ b ∈ X.ex,b ∉ X.fs
 funs:X.s₀.heap.FunFrames X.base X.outer
 frf:∀ b ∈ X.fs,X.H₀ b=none
structure Inv (X:Cx) (aa:LO) (σ:List (Option V)) (H:Hp) (s:Shared):Prop where
 ok:X.Ok
 os:s.os=X.s₀.os
 bare:AllBare s.gens
 base:Un X.fs X.ex X.H₀ H X.s₀.heap s.heap
 loc:∃ m,s.heap.Ns X.env.locals m/\∀ (i:Nat) (x:Str) (v:V),X.N[i]?=some x->σ[i]?=some (some v)->Vis X.env.scope x->∃ u,RelV v u/\SA X.env s.heap m x u
 cell:∀ x c,X.env.cells.lookup x=some c->∃ v,s.heap.IsCell c v
 free:H X.env.locals=none
 freeC:∀ x c,X.env.cells.lookup x=some c->H c=none
 pin:∀ p ∈ X.pn++aa,s.heap.get? p.1=some p.2/\H p.1=none/\p.1 ≠ X.env.locals/\p.1 ∉ X.fs/\∀ v,p.2.data ≠ .cell v
 hok:HOk X.prog X.w H s.heap
 len:σ.length=X.N.length
section
variable {X:Cx} {aa:LO} {σ:List (Option V)} {H H':Hp} {s:Shared} {h':Heap}
theorem Cx.Ok.nofr (ok:X.Ok) {b:Addr} {o:Obj} (e:X.base.get? b=some o):b ∉ X.fs:=fun hb=>by
 have:=(ok.funs.mem hb).1;rw [e] at this; cases this
theorem Inv.bs (I:Inv X aa σ H s):∀ b o,X.base.get? b=some o->s.heap.get? b=some o/\H b=none:=fun b o e =>
 ⟨I.base.keep b o (I.ok.bs b o e).1 (I.ok.bs b o e).2 (I.ok.nofr e) (I.ok.noex b o e),I.base.free b o (I.ok.bs b o e).1 (I.ok.bs b o e).2 (I.ok.noex b o e)⟩
theorem Inv.bk (I:Inv X aa σ H s):∀ b o,X.base.get? b=some o->s.heap.get? b=some o:=fun b o e=>(I.bs b o e).1
theorem Inv.mod (I:Inv X aa σ H s):Mod X.K X.mg X.base:=I.ok.mod
theorem Inv.kIn (I:Inv X aa σ H s):X.K.In s.heap:=I.ok.mod.kin.keeps I.bk
theorem Inv.fr (I:Inv X aa σ H s):∃ m,Fr X.base X.env.locals s.heap m :=
 let ⟨m,hn,_⟩:=I.loc
 ⟨m,hn,I.bk,Nat.le_trans I.ok.bsz I.ok.above⟩
theorem Inv.lt (I:Inv X aa σ H s):X.env.locals < s.heap.objs.size:=let ⟨_,hn,_⟩:=I.loc; hn.lt
theorem Inv.sz (I:Inv X aa σ H s):X.s₀.heap.objs.size <= s.heap.objs.size:=Nat.le_trans I.ok.above (Nat.le_of_lt I.lt)
theorem Inv.nofs (I:Inv X aa σ H s) {a:Addr} (h:s.heap.objs.size <= a):a ∉ X.fs:=fun hb=>by
 obtain ⟨_,o,ho,_⟩:=I.ok.funs.mem hb;exact absurd (Nat.lt_of_lt_of_le (lt_size ho) (Nat.le_trans I.sz h)) (Nat.lt_irrefl _)
theorem Inv.cne (I:Inv X aa σ H s):∀ x c,X.env.cells.lookup x=some c->c ≠ X.env.locals:=fun x c e z=>by
 obtain ⟨v,o,ho,hd⟩:=I.cell x c e;obtain ⟨m,⟨o',es,ep,ho',hd',_⟩,_⟩:=I.loc;rw [z,ho'] at ho; cases ho; rw [hd'] at hd; cases hd
theorem Inv.funs (I:Inv X aa σ H s):s.heap.FunFrames X.base X.outer:=by
 have all:∀ (l:List Env),(∀ b ∈ frs l,b ∈ X.fs)->X.s₀.heap.FunFrames X.base l->s.heap.FunFrames X.base l:=by
  intro l;induction l with
  | nil=>intro _ _; trivial
  | cons env r ih =>
   intro hs hl;obtain ⟨hk,⟨L,o,hf,hn,ho,hd⟩,hr⟩:=hl;have hL:L ∈ X.fs:=hs L (by unfold frs; rw [List.filterMap_cons,hf]; exact mem_cons_self);obtain ⟨sl,e⟩:=I.base.slot L o ho (I.ok.frf L hL) hL fun z=>I.ok.exfs L z hL;exact ⟨hk,⟨L,_,hf,hn,e,hd⟩,ih (fun b hb=>hs b (by unfold frs; rw [List.filterMap_cons,hf]; exact mem_cons_of_mem _ hb)) hr⟩
 exact all X.outer (fun _ hb=>hb) I.ok.funs
theorem Inv.stack (I:Inv X aa σ H s):s.heap.FunFrames X.base X.stack:=by
 rcases I.ok.stk with e | ⟨e,hf⟩
 ·rw [e]; exact I.funs
 ·rw [e];obtain ⟨m,hn,_⟩:=I.loc;refine .cons (by rw [I.ok.kind]; decide) hf hn ?_ I.funs;exact Heap.get?_none_of_le (Nat.le_trans I.ok.bsz I.ok.above)
theorem Inv.stkSub (I:Inv X aa σ H s):∀ b ∈ frs X.stack,b ∈ X.env.locals :: X.fs:=fun b hb=>by
 rcases I.ok.stk with e | ⟨e,hf⟩
 ·rw [e] at hb; exact mem_cons_of_mem _ hb
 ·rw [e] at hb;unfold frs at hb;rw [List.filterMap_cons,hf] at hb;exact hb
theorem Inv.stkFree (I:Inv X aa σ H s):∀ b ∈ frs X.stack,H b=none:=fun b hb=>by
 rcases mem_cons.mp (I.stkSub b hb) with e | hb
 ·rw [e]; exact I.free
 ·obtain ⟨_,o,ho,_⟩:=I.ok.funs.mem hb;exact I.base.free b o ho (I.ok.frf b hb) fun z=>I.ok.exfs b z hb
theorem Inv.step {g':Array GenState} {t':Nat} {d':Drawn} {ch:List Addr} (I:Inv X aa σ H s)
  (hch:∀ b ∈ ch,(b ∈ X.ex\/X.s₀.heap.objs.size <= b)/\b ≠ X.env.locals/\(∀ x c,X.env.cells.lookup x=some c->c ≠ b)/\∀ p ∈ X.pn++aa,p.1 ≠ b)
  (keep:∀ b o,b ≠ X.env.locals->b ∉ X.fs->b ∉ ch->s.heap.get? b=some o->H b=none->h'.get? b=some o)
  (slot:∀ b o,b ≠ X.env.locals->b ∈ X.fs->b ∉ ch->s.heap.get? b=some o->H b=none->∃ sl,h'.get? b=some { o with slots:=sl }) (free:∀ b o,b ∉ ch->s.heap.get? b=some o->H b=none->H' b=none)
  (there:∀ b o,b ∉ ch->s.heap.get? b=some o->∃ o',h'.get? b=some o')
  (tups:∀ b xs,H b=some (.tup xs)->H' b=some (.tup xs)) (frzs:∀ b o u,H b=some (.frz o u)->H' b=some (.frz o u)) (tbls:∀ b ps,H b=some (.tbl ps)->∃ more,H' b=some (.tbl (ps++more)))
  (ns:∀ m,s.heap.Ns X.env.locals m->h'.Ns X.env.locals m) (hok:HOk X.prog X.w H' h') (hg:AllBare g') :
  Inv X aa σ H' { s with heap:=h',gens:=g',drawn:=d',toks:=t' }:=by
 have neL:∀ b o,X.s₀.heap.get? b=some o->b ≠ X.env.locals:=fun b o e=>Nat.ne_of_lt (Nat.lt_of_lt_of_le (lt_size e) I.ok.above)
 have neC:∀ b o,X.s₀.heap.get? b=some o->b ∉ X.ex->b ∉ ch:=fun b o e hx hb=>by
  rcases (hch b hb).1 with z | z
  ·exact hx z
  ·exact absurd (Nat.lt_of_lt_of_le (lt_size e) z) (Nat.lt_irrefl _)
 have cellK:∀ x c,X.env.cells.lookup x=some c->∀ v,s.heap.IsCell c v->h'.IsCell c v:=fun x c e v ⟨o,ho,hd⟩=>by
  have nch:c ∉ ch:=fun z=>(hch c z).2.2.1 x c e rfl;by_cases hc:c ∈ X.fs
  ·obtain ⟨sl,q⟩:=slot c o (I.cne x c e) hc nch ho (I.freeC x c e);exact ⟨_,q,hd⟩
  ·exact ⟨o,keep c o (I.cne x c e) hc nch ho (I.freeC x c e),hd⟩
 refine ⟨I.ok,I.os,hg,⟨fun b o e n hb hx=>?_,fun b o e n hb hx=>?_,fun b o e n hx=>?_,fun b o e hx=>?_,fun b xs e=>tups b xs (I.base.tups b xs e),fun b o xs e=>frzs b o xs (I.base.frzs b o xs e),fun b ps e=>?_⟩,?_,fun x c e=>?_,?_,fun x c e=>?_,fun p hp=>?_,hok,I.len⟩
 ·exact keep b o (neL b o e) hb (neC b o e hx) (I.base.keep b o e n hb hx) (I.base.free b o e n hx)
 ·obtain ⟨sl,e1⟩:=I.base.slot b o e n hb hx;obtain ⟨sl',e2⟩:=slot b _ (neL b o e) hb (neC b o e hx) e1 (I.base.free b o e n hx);exact ⟨sl',e2⟩
 ·obtain ⟨o',e1⟩:=I.base.there b o e hx;exact free b o' (neC b o e hx) e1 (I.base.free b o e n hx)
 ·obtain ⟨o',e1⟩:=I.base.there b o e hx;exact there b o' (neC b o e hx) e1
 ·obtain ⟨m1,e1⟩:=I.base.tbls b ps e;obtain ⟨m2,e2⟩:=tbls b _ e1;exact ⟨m1++m2,by rw [e2,Array.append_assoc]⟩
 ·obtain ⟨m,hn,hl⟩:=I.loc;refine ⟨m,ns m hn,fun i x v e1 e2 e3=>?_⟩;obtain ⟨u,r,l⟩:=hl i x v e1 e2 e3;refine ⟨u,r,?_⟩;rcases l with l | ⟨k,c,e,z⟩
  ·exact .inl l
  ·exact .inr ⟨k,c,e,cellK x c e _ z⟩
 ·obtain ⟨v,z⟩:=I.cell x c e;exact ⟨v,cellK x c e v z⟩
 ·obtain ⟨m,⟨o,_,_,ho,_⟩,_⟩:=I.loc;exact free _ o (fun z=>(hch _ z).2.1 rfl) ho I.free
 ·obtain ⟨v,o,ho,hd⟩:=I.cell x c e;exact free c o (fun z=>(hch c z).2.2.1 x c e rfl) ho (I.freeC x c e)
 ·obtain ⟨e,n,ne,nf,d⟩:=I.pin p hp;have nch:p.1 ∉ ch:=fun z=>(hch p.1 z).2.2.2 p hp rfl;exact ⟨keep p.1 p.2 ne nf nch e n,free p.1 p.2 nch e n,ne,nf,d⟩
theorem Inv.un {t':Nat} (I:Inv X aa σ H s) (u:Un X.fs [] H H' s.heap h') (hok:HOk X.prog X.w H' h'):Inv X aa σ H' { s with heap:=h',toks:=t' }:=by
 obtain ⟨m,⟨o,es,ep,ho,r⟩,_⟩:=id I.loc;obtain ⟨sl,hL⟩:=u.any ho I.free (by simp)
 exact I.step (g':=s.gens) (d':=s.drawn) (ch:=[]) (fun _ z=>nomatch z) (fun b o _ hb _ e n=>u.keep b o e n hb (by simp)) (fun b o _ hb _ e n=>u.slot b o e n hb (by simp)) (fun b o _ e n=>u.free b o e n (by simp)) (fun b o _ e=>u.there b o e (by simp)) u.tups u.frzs u.tbls (fun m' hm=>by
  obtain ⟨o',es',ep',ho',r'⟩:=hm;rw [ho] at ho'; cases ho'
  exact ⟨_,es',ep',hL,r'⟩) hok I.bare
theorem Inv.call {g':Array GenState} {t':Nat} {d':Drawn} {ch:List Addr} (I:Inv X aa σ H s) (u:Un (frs X.stack) ch H H' s.heap h') (hok:HOk X.prog X.w H' h') (hg:AllBare g')
  (hch:∀ b ∈ ch,(b ∈ X.ex\/X.s₀.heap.objs.size <= b)/\b ≠ X.env.locals/\(∀ x c,X.env.cells.lookup x=some c->c ≠ b)/\∀ p ∈ X.pn++aa,p.1 ≠ b) :
  Inv X aa σ H' { s with heap:=h',gens:=g',drawn:=d',toks:=t' }:=by
 obtain ⟨m,⟨o,es,ep,ho,r⟩,_⟩:=id I.loc;obtain ⟨sl,hL⟩:=u.any ho I.free fun z=>(hch _ z).2.1 rfl
 exact I.step (ch:=ch) hch (fun b o hL hb hc e n=>u.keep b o e n (fun z=>(mem_cons.mp (I.stkSub b z)).elim hL hb) hc) (fun b o _ _ hc e n=>u.any e n hc) (fun b o hc e n=>u.free b o e n hc) (fun b o hc e=>u.there b o e hc) u.tups u.frzs u.tbls (fun m' hm=>by
  obtain ⟨o',es',ep',ho',r'⟩:=hm;rw [ho] at ho'; cases ho'
  exact ⟨_,es',ep',hL,r'⟩) hok hg
theorem Inv.turned {t':Nat} {it:Addr} (I:Inv X aa σ H s) (k:∀ b o,b ≠ it->s.heap.get? b=some o->h'.get? b=some o) (hn:H it=none) (hL:it ≠ X.env.locals)
  (h1:it ∈ X.ex\/X.s₀.heap.objs.size <= it) (h2:∀ x c,X.env.cells.lookup x=some c->c ≠ it) (h3:∀ p ∈ X.pn++aa,p.1 ≠ it):Inv X aa σ H { s with heap:=h',toks:=t' }:=by
 have nit:∀ b u,H b=some u->b ≠ it:=fun b u e z=>by rw [z,hn] at e; cases e
 refine I.step (g':=s.gens) (d':=s.drawn) (ch:=[it]) (fun b hb=>?_) (fun b o _ _ hc e _=>k b o (fun z=>hc (by simp [z])) e) (fun b o _ _ hc e _=>⟨o.slots,k b o (fun z=>hc (by simp [z])) e⟩) (fun _ _ _ _ n=>n)
  (fun b o hc e=>⟨o,k b o (fun z=>hc (by simp [z])) e⟩) (fun _ _ e=>e) (fun _ _ _ e=>e) (fun b ps e=>⟨#[],by rw [e]; simp⟩) (fun m hm=>?_) (fun b u e=>?_) I.bare
 ·have e:b=it:=by simpa using hb
  subst e;exact ⟨h1,hL,h2,h3⟩
 ·obtain ⟨o,es,ep,ho,r⟩:=hm;exact ⟨o,es,ep,k _ o (Ne.symm hL) ho,r⟩
 ·refine (I.hok b u e).stay (fun c v hc q=>k c v ?_ q) (fun _ q=>q) fun _ _ q=>q;rcases hc with z | z
  ·rw [z]; exact nit b u e
  ·exact nit c _ z
theorem Inv.tok (I:Inv X aa σ H s) (t:Nat):Inv X aa σ H { s with toks:=t }:=I.un (h':=s.heap) (t':=t) Un.refl I.hok
theorem Inv.kept {t':Nat} (I:Inv X aa σ H s) (k:∀ b u,s.heap.get? b=some u->h'.get? b=some u):Inv X aa σ H { s with heap:=h',toks:=t' }:=I.un (Un.kept k) (I.hok.kept k)
theorem Inv.laid {a:Addr} {o:HO} {t':Nat} (I:Inv X aa σ H s) (k:∀ b u,s.heap.get? b=some u->h'.get? b=some u) (hp:s.heap.objs.size <= a) (new:ObjOk X.prog X.w (upd H a o) h' a o) :
  Inv X aa σ (upd H a o) { s with heap:=h',toks:=t' }:=I.un (Un.laid k hp (I.hok.fresh hp)) (I.hok.laid k hp new)
theorem Inv.write {x e:Addr} {o:HO} {t':Nat} (I:Inv X aa σ H s) (mu:Mut (H x)) (he:e=x\/H e=some (.own x)) (k:∀ b u,b ≠ e->s.heap.get? b=some u->h'.get? b=some u) (heo:∃ u,h'.get? e=some u)
  (new:ObjOk X.prog X.w (upd H x o) h' x o):Inv X aa σ (upd H x o) { s with heap:=h',toks:=t' }:=I.un (Un.write mu he k heo) (I.hok.write mu he k heo new)
theorem Inv.weak {σ':List (Option V)} (I:Inv X aa σ H s) (hl:σ'.length=σ.length) (w:∀ (i:Nat) v,σ'[i]?=some (some v)->σ[i]?=some (some v)):Inv X aa σ' H s :=
 ⟨I.ok,I.os,I.bare,I.base,let ⟨m,hn,hl'⟩:=I.loc; ⟨m,hn,fun i x v e1 e2 e3=>hl' i x v e1 (w i v e2) e3⟩,I.cell,I.free,I.freeC,I.pin,I.hok,hl.trans I.len⟩
theorem Inv.pins_of {pins':LO} (I:Inv X aa σ H s) (h:∀ p ∈ pins',s.heap.get? p.1=some p.2/\H p.1=none/\p.1 ≠ X.env.locals/\p.1 ∉ X.fs/\∀ v,p.2.data ≠ .cell v):Inv X pins' σ H s :=
 ⟨I.ok,I.os,I.bare,I.base,I.loc,I.cell,I.free,I.freeC,fun p hp=>(mem_append.mp hp).elim (fun z=>I.pin p (mem_append_left _ z)) (h p),I.hok,I.len⟩
theorem Ii {N:List Str} (hN:N.Nodup) {i j:Nat} {x:Str} (a:N[i]?=some x) (b:N[j]?=some x):i=j:=by
 obtain ⟨h1,e1⟩:=List.getElem?_eq_some_iff.mp a;obtain ⟨h2,e2⟩:=List.getElem?_eq_some_iff.mp b;exact (List.getElem_inj hN).mp (e1.trans e2.symm)
theorem Ei {M:Model} {A:Around} {E:VS} {i:Nat} {x:Str} {v:V} {u:Value} {Q:Unit->Shared->Prop} (I:Inv X aa σ H s) (hN:X.N.Nodup) (hi:X.N[i]?=some x) (hx:Loc X.env.scope x) (r:RelV v u)
  (h:∀ s',Inv X aa (σ.set i (some v)) H s'->(∃ a,Heap.SameBut a s.heap s'.heap/\(a=X.env.locals\/X.env.cells.lookup x=some a))->Q () s') (hf:X.fn x=true\/X.env.scope.names.lookup x=some .local:=by first | exact .inl rfl | exact .inr rfl | assumption):wpAny M A (storeName X.env x u) Q E s:=by
 obtain ⟨m,hn,hl⟩:=id I.loc;have hcls:(X.env.scope.kind == .class || (X.env.scope.kind == .module && X.env.locals != X.env.globals))=false:=by rw [I.ok.kind]; rfl
 have hiσ:i < σ.length:=by rw [I.len]; exact (List.getElem?_eq_some_iff.mp hi).1
 have cne:=I.cne
 have tracked:∀ {a:Addr} {h':Heap},(∃ o,s.heap.get? a=some o/\H a=none)->Heap.SameBut a s.heap h'->HOk X.prog X.w H h':=fun {a h'} ha hs b ob e=>by
  obtain ⟨_,_,bc⟩:=ha;refine (I.hok b ob e).stay (fun c w' hc q=>(hs.2 c ?_).trans q) (fun _ q=>q) fun _ _ q=>q;rintro rfl;rcases hc with rfl | hc
  ·rw [bc] at e; cases e
  ·rw [bc] at hc; cases hc
 rcases hx with hk | hk
 ·refine wpAny_storeName_local hk hn (fun h' hn' hs=>?_) hcls;obtain ⟨oL,_,_,hoL,_⟩:=id hn;refine h _ ⟨I.ok,I.os,I.bare,⟨fun b o e n hb hx=>?_,fun b o e n hb hx=>?_,I.base.free,fun b o e hx=>?_,I.base.tups,I.base.frzs,I.base.tbls⟩,⟨_,hn',fun j y v' e1 e2 e3=>?_⟩,fun y c e=>?_,I.free,I.freeC,fun p hp=>?_,tracked ⟨oL,hoL,I.free⟩ hs,by simpa using I.len⟩ ⟨_,hs,.inl rfl⟩
  ·exact (hs.2 b (Nat.ne_of_lt (Nat.lt_of_lt_of_le (lt_size e) I.ok.above))).trans (I.base.keep b o e n hb hx)
  ·obtain ⟨sl,e1⟩:=I.base.slot b o e n hb hx;exact ⟨sl,(hs.2 b (Nat.ne_of_lt (Nat.lt_of_lt_of_le (lt_size e) I.ok.above))).trans e1⟩
  ·obtain ⟨o',e1⟩:=I.base.there b o e hx;exact ⟨o',(hs.2 b (Nat.ne_of_lt (Nat.lt_of_lt_of_le (lt_size e) I.ok.above))).trans e1⟩
  ·by_cases hj:j=i
   ·subst hj;rw [hi] at e1; cases e1;rw [List.getElem?_set_self hiσ] at e2;cases e2;exact ⟨u,r,.inl ⟨hk,by simp⟩⟩
   ·rw [List.getElem?_set_ne (Ne.symm hj)] at e2;obtain ⟨u',r',q⟩:=hl j y v' e1 e2 e3;refine ⟨u',r',?_⟩;rcases q with ⟨k,e⟩ | ⟨k,c,e,z⟩
    ·refine .inl ⟨k,?_⟩;have:y ≠ x:=fun e=>hj (Ii hN e1 (e ▸ hi));simp [this,e]
    ·exact .inr ⟨k,c,e,z.sameBut hs (cne y c e)⟩
  ·obtain ⟨w',z⟩:=I.cell y c e;exact ⟨w',z.sameBut hs (cne y c e)⟩
  ·obtain ⟨e,n,ne,nf,d⟩:=I.pin p hp;exact ⟨(hs.2 p.1 ne).trans e,n,ne,nf,d⟩
 ·have hfn:X.fn x=true:=by
   rcases hf with z | z
   ·exact z
   ·rw [z] at hk; cases hk
  obtain ⟨c,hc⟩:=I.ok.has x (.inl hk);obtain ⟨w',z⟩:=I.cell x c hc;refine wpAny_storeName_cell I.ok.kind hk hc z (fun h' hc' hs=>?_);obtain ⟨oc,hoc,hocd⟩:=id z;refine h { s with heap:=h' } ⟨I.ok,I.os,I.bare,⟨fun b o e n hb hx=>?_,fun b o e n hb hx=>?_,I.base.free,fun b o e hx=>?_,I.base.tups,I.base.frzs,I.base.tbls⟩,⟨m,hn.sameBut hs (Ne.symm (cne x c hc)),fun j y v' e1 e2 e3=>?_⟩,fun y c' e=>?_,I.free,I.freeC,fun p hp=>?_,tracked ⟨oc,hoc,I.freeC x c hc⟩ hs,by simpa using I.len⟩ ⟨c,hs,.inr hc⟩
  ·exact (hs.2 b (Nat.ne_of_lt (Nat.lt_of_lt_of_le (lt_size e) (I.ok.cab x c hfn hc)))).trans (I.base.keep b o e n hb hx)
  ·obtain ⟨sl,e1⟩:=I.base.slot b o e n hb hx;exact ⟨sl,(hs.2 b (Nat.ne_of_lt (Nat.lt_of_lt_of_le (lt_size e) (I.ok.cab x c hfn hc)))).trans e1⟩
  ·obtain ⟨o',e1⟩:=I.base.there b o e hx;exact ⟨o',(hs.2 b (Nat.ne_of_lt (Nat.lt_of_lt_of_le (lt_size e) (I.ok.cab x c hfn hc)))).trans e1⟩
  ·by_cases hj:j=i
   ·subst hj;rw [hi] at e1; cases e1;rw [List.getElem?_set_self hiσ] at e2;cases e2;exact ⟨u,r,.inr ⟨.inl hk,c,hc,hc'⟩⟩
   ·rw [List.getElem?_set_ne (Ne.symm hj)] at e2;obtain ⟨u',r',q⟩:=hl j y v' e1 e2 e3;refine ⟨u',r',?_⟩;rcases q with q | ⟨k,c',e,z'⟩
    ·exact .inl q
    ·refine .inr ⟨k,c',e,z'.sameBut hs ?_⟩;rintro rfl;exact hj (Ii hN e1 (I.ok.inj _ _ _ e hc ▸ hi))
  ·by_cases hcc:c'=c
   ·subst hcc; exact ⟨_,hc'⟩
   ·obtain ⟨w2,z2⟩:=I.cell y c' e;exact ⟨w2,z2.sameBut hs hcc⟩
  ·obtain ⟨e,n,ne,nf,d⟩:=I.pin p hp;refine ⟨(hs.2 p.1 ?_).trans e,n,ne,nf,d⟩;intro q;rw [q,hoc] at e;have q':oc=p.2:=Option.some.inj e;exact d w' (by rw [← q']; exact hocd)
theorem Cj {M:Model} {A:Around} {E:VS} {i:Nat} {x:Str} {v:V} {u:Value} {Q:Unit->Shared->Prop} (I:Inv X aa σ H s) (hN:X.N.Nodup) (hi:X.N[i]?=some x) (hx:Loc X.env.scope x) (r:RelV v u)
  (h:∀ s',Inv X aa (σ.set i (some v)) H s'->Q () s') (hf:X.fn x=true\/X.env.scope.names.lookup x=some .local:=by first | exact .inl rfl | exact .inr rfl | assumption):wpAny M A (storeName X.env x u) Q E s :=
 Ei I hN hi hx r (fun s' I' _=>h s' I') hf
theorem Inv.call' {s':Shared} {ch:List Addr} (I:Inv X aa σ H s) (ho:s'.os=s.os) (u:Un (frs X.stack) ch H H' s.heap s'.heap) (hok:HOk X.prog X.w H' s'.heap) (hg:AllBare s'.gens)
  (hch:∀ b ∈ ch,(b ∈ X.ex\/X.s₀.heap.objs.size <= b)/\b ≠ X.env.locals/\(∀ x c,X.env.cells.lookup x=some c->c ≠ b)/\∀ p ∈ X.pn++aa,p.1 ≠ b):Inv X aa σ H' s':=by
 obtain ⟨h',g',d',t',o'⟩:=s';have e:o'=s.os:=ho;subst e;exact I.call (g':=g') (t':=t') (d':=d') u hok hg hch
end
abbrev XK:=Value->Option Addr->Hp->Prop
abbrev St:=List (Option V)
abbrev VK:=V->Hp->Prop
abbrev TE:=St->Hp->VK->Prop
abbrev TT:=St->Hp->(Bool->Hp->Prop)->Prop
abbrev TA:=St->Hp->(List V->Hp->Prop)->Prop
structure Gq where
 nx:St->Hp->Prop
 rt:VK
 bk:St->Hp->Prop:=fun _ _=>False
 ct:St->Hp->Prop:=fun _ _=>False
abbrev TS:=Gq->St->Hp->Prop
def EP (X:Cx) (aa:LO) (σ:St) (Q:VK) (u:Value) (s':Shared):Prop:=∃ v H',Inv X aa σ H' s'/\RelV v u/\Q v H'
def TP (X:Cx) (aa:LO) (σ:St) (Q:Bool->Hp->Prop) (b:Bool) (s':Shared):Prop:=∃ H',Inv X aa σ H' s'/\Q b H'
def AP (X:Cx) (aa:LO) (σ:St) (Q:List V->Hp->Prop) (us:List Value) (s':Shared):Prop:=∃ vs H',Inv X aa σ H' s'/\Vals vs us/\Q vs H'
def SP (X:Cx) (aa:LO) (D:Gq) (f:Flow) (s':Shared):Prop :=
 match f with
 | .next=>∃ σ' H',Inv X aa σ' H' s'/\D.nx σ' H'
 | .brk=>∃ σ' H',Inv X aa σ' H' s'/\D.bk σ' H'
 | .cont=>∃ σ' H',Inv X aa σ' H' s'/\D.ct σ' H'
 | .ret u=>∃ v σ' H',Inv X aa σ' H' s'/\RelV v u/\D.rt v H'
def PE (X:Cx) (e:Expr) (t:TE):Prop :=
 ∀ (aa:LO) (s:Shared) (σ:St) (H:Hp) (Q:VK),Inv X aa σ H s->t σ H Q->wpAny (model X.prog X.w) X.A (eval e X.env) (EP X aa σ Q) X.xe s
def PT (X:Cx) (e:Expr) (t:TT):Prop :=
 ∀ (aa:LO) (s:Shared) (σ:St) (H:Hp) (Q:Bool->Hp->Prop),Inv X aa σ H s->t σ H Q->wpAny (model X.prog X.w) X.A (isTrue e X.env (eval e X.env)) (TP X aa σ Q) X.xe s
def PW (X:Cx) (e:Expr) (t:TT):Prop :=
 ∀ (whole:Sem Value) (aa:LO) (s:Shared) (σ:St) (H:Hp) (Q:Bool->Hp->Prop),Inv X aa σ H s->t σ H Q->wpAny (model X.prog X.w) X.A (isTrue e X.env whole) (TP X aa σ Q) X.xe s
theorem PW.pt {X:Cx} {e:Expr} {t:TT} (h:PW X e t):PT X e t:=h _
def PA (X:Cx) (es:List Expr) (t:TA):Prop :=
 ∀ (pos:Pos) (aa:LO) (s:Shared) (σ:St) (H:Hp) (Q:List V->Hp->Prop),Inv X aa σ H s->t σ H Q->wpAny (model X.prog X.w) X.A (spliced (backTo pos (starEach es X.env))) (AP X aa σ Q) X.xe s
def PS (X:Cx) (st:Stmt) (t:TS):Prop :=
 ∀ (aa:LO) (s:Shared) (σ:St) (H:Hp) (D:Gq),Inv X aa σ H s->t D σ H->wpAny (model X.prog X.w) X.A (exec st X.env) (SP X aa D) X.xe s
def PSs (X:Cx) (st:List Stmt) (t:TS):Prop :=
 ∀ (aa:LO) (s:Shared) (σ:St) (H:Hp) (D:Gq),Inv X aa σ H s->t D σ H->wpAny (model X.prog X.w) X.A (execs st X.env) (SP X aa D) X.xe s
theorem thn {α:Type} {t:Sem α} {Q Q':α->Shared->Prop} {M:Model} {A:Around} {E:VS} {s:Shared} (h:wpAny M A t Q E s) (hQ:∀ a s,Q a s->Q' a s):wpAny M A t Q' E s:=wpAny_mono h hQ fun _ _ x=>x
end L2
variable {X:L2.Cx} {H:L2.Hp} {H':L2.Hp} {s:PySem.Shared} {pos:PySem.Pos} {σ:L2.St} {P:PySem.Program} {w:PySem.World} {A:PySem.Around} {aa:LO} {x:PySem.Str} {a:PySem.Addr} {K:FG} {C:PySem.Addr} {E:VS} {h:PySem.Heap} {us:List PySem.Value} {f:PySem.Addr} {u:PySem.Value} {xs:List L2.V} {e:PySem.Expr} {te:L2.TE} {base:PySem.Heap} {N:List PySem.Str} {mg:SV}
namespace L2
open PySem PySem.Spec PyProof.Rows
section
def Jw (i:Nat):TE:=fun σ H Q=>∃ v,σ[i]?=some (some v)/\Q v H
def tC (v:V):TE:=fun _ H Q=>Q v H
theorem P9 {i:Nat} (hN:X.N[i]?=some x) (hv:Vis X.env.scope x) (hd:(x == ("__debug__" : Str))=false:=by decide) (hcd:(x == ("__classdict__" : Str))=false:=by decide):PE X (.Name x pos) (Jw i):=by
 intro aa s σ H Q I h;obtain ⟨v,e,h⟩:=h;obtain ⟨m,hn,hl⟩:=I.loc;obtain ⟨u,r,l⟩:=hl i x v hN e hv;have fin:EP X aa σ Q u s:=⟨v,H,I,r,h⟩;rcases l with ⟨hk,hm⟩ | ⟨hk,c,hc,be⟩
 ·exact wpAny_Name (wpAny_loadName_local I.ok.kind hk hn hm fin) hd
 ·rcases hk with hk | hk
  ·exact wpAny_Name (wpAny_loadName_cell I.ok.kind hk hc be fin) hd
  ·exact wpAny_Name (wpAny_loadName_free I.ok.kind hk hc be fin hcd) hd
theorem AH {i j pos}:PE X (.Constant (.int i) j pos) (tC (.int i)):=fun _ _ _ H _ I h=>wpAny_Constant_int ⟨.int i,H,I.tok _,⟨_,rfl⟩,h⟩
theorem Pp {b j pos}:PE X (.Constant (.bool b) j pos) (tC (.bl b)):=fun _ _ _ H _ I h=>Constant_bool ⟨.bl b,H,I,rfl,h⟩
theorem Hl {j pos}:PE X (.Constant .none j pos) (tC .non):=fun _ _ _ H _ I h=>Constant_none ⟨.non,H,I,rfl,h⟩
theorem Aw {x j pos}:PE X (.Constant (.str x) j pos) (tC (.str x)):=fun _ _ _ H _ I h=>Calls.Constant_str ⟨.str x,H,I.tok _,⟨_,rfl⟩,h⟩
def Gl (X:Cx) (x:Str):Prop:=X.env.kindOf x=some .globalImplicit
theorem FQ {Q:VS} (I:Inv X aa σ H s) (hg:Gl X x) (hm:X.mg x=some u) (h:Q u s)
  (hd:(x == ("__debug__" : Str))=false:=by decide):wpAny (model X.prog X.w) X.A (eval (.Name x pos) X.env) Q E s :=
 Calls.Name_function_global I.ok.kind hg (Calls.loadGlobal_global (by rw [I.ok.glob]; exact I.mod.glob.keeps I.bk) hm h) hd
theorem C8 {Q:VS} (I:Inv X aa σ H s) (hg:Gl X x) (hm:X.mg x=none) (hv:bootBuiltins x=some u) (h:Q u s)
  (hn:x ≠ "__name__" := by decide) (hd:(x == ("__debug__" : Str))=false:=by decide):wpAny (model X.prog X.w) X.A (eval (.Name x pos) X.env) Q E s:=by
 obtain ⟨mb,h1,h2⟩:=I.mod.blt;exact Calls.Name_function_global I.ok.kind hg (Calls.loadGlobal_builtin (by rw [I.ok.glob]; exact I.mod.glob.keeps I.bk) hm (by rw [I.ok.blt]; exact h1.keeps I.bk) ((h2 x hn).trans hv) h) hd
theorem CP {v:V} (hg:Gl X x) (hm:X.mg x=some u) (r:RelV v u) (hd:(x == ("__debug__" : Str))=false:=by decide):PE X (.Name x pos) (tC v) :=
 fun _ _ _ H _ I h=>FQ I hg hm ⟨v,H,I,r,h⟩ hd
theorem Hm {v:V} (hg:Gl X x) (hm:X.mg x=none) (hv:bootBuiltins x=some u) (r:RelV v u) (hn:x ≠ "__name__" := by decide) (hd:(x == ("__debug__" : Str))=false:=by decide):PE X (.Name x pos) (tC v) :=
 fun _ _ _ H _ I h=>C8 I hg hm hv ⟨v,H,I,r,h⟩ hn hd
variable {a b:Expr} {ta tb:TE}
def PC (X:Cx) (op:CmpOp) (a b:Expr) (t:TE):Prop :=
 ∀ (aa:LO) (s:Shared) (σ:St) (H:Hp) (Q:VK),Inv X aa σ H s->t σ H Q ->
  wpAny (model X.prog X.w) X.A (eval a X.env) (fun v s₁=>wpAny (model X.prog X.w) X.A (eval b X.env) (fun u s₂=>wpAny (model X.prog X.w) X.A (compareOp op v u) (EP X aa σ Q) X.xe s₂) X.xe s₁) X.xe s
theorem Ij (b:Expr) {op:CmpOp} (h:op ≠ .In) (h2:op ≠ .NotIn):behindInMarks op b=false:=by
 have e1:(op == CmpOp.In)=false:=by cases op <;> first | rfl | exact absurd rfl h
 have e2:(op == CmpOp.NotIn)=false:=by cases op <;> first | rfl | exact absurd rfl h2
 cases b <;> simp [behindInMarks,e1,e2]
def SB (ta:TE):TE:=fun σ H Q=>ta σ H fun x H1=>Q (.bl (decide (x=.non))) H1
def RI (ta:TE):TE:=fun σ H Q=>ta σ H fun x H1=>Q (.bl (!decide (x=.non))) H1
theorem RelV.none_iff {x:V} {v:Value} (r:RelV x v):(v == Value.none)=decide (x=.non):=by
 cases x with
 | non=>cases r; rfl
 | bl _=>cases r; rfl
 | int _=>obtain ⟨t,rfl⟩:=r; rfl
 | str _=>obtain ⟨t,rfl⟩:=r; rfl
 | byt _=>obtain ⟨t,rfl⟩:=r; rfl
 | flt _=>obtain ⟨t,rfl⟩:=r; rfl
 | ref _=>cases r; rfl
 | ty _=>cases r; rfl
theorem Ej {j pos'} (ha:PE X a ta):PC X .Is a (.Constant .none j pos') (SB ta):=by
 intro aa s σ H Q I h;refine thn (ha aa s σ H _ I h) fun v s1 ⟨x,H1,I1,r1,q1⟩=>?_;exact Constant_none (is_none_gen ⟨.bl _,H1,I1,by rw [r1.none_iff]; rfl,q1⟩)
theorem Ob {j pos'} (ha:PE X a ta):PC X .IsNot a (.Constant .none j pos') (RI ta):=by
 intro aa s σ H Q I h;refine thn (ha aa s σ H _ I h) fun v s1 ⟨x,H1,I1,r1,q1⟩=>?_;exact Constant_none (isnot_none_gen ⟨.bl _,H1,I1,by rw [r1.none_iff]; rfl,q1⟩)
def tB (t:TE):TT:=fun σ H Q=>t σ H fun x H1=>∃ c,x=.bl c/\Q c H1
theorem Mu {op:CmpOp} {t:TE} (h:PC X op a b t) (h1:behindInMarks op b=false:=by first | exact Ij _ (by decide) (by decide) | rfl):PE X (.Compare a [op] [b] pos) t:=fun aa s σ H Q I hw=>wpAny_Compare1 (h aa s σ H Q I hw) h1
theorem C9 {op:CmpOp} {t:TE} (h:PC X op a b t) (h1:behindInMarks op b=false:=by first | exact Ij _ (by decide) (by decide) | rfl):PT X (.Compare a [op] [b] pos) (tB t):=by
 intro aa s σ H Q I hw;refine wpAny_isTrue_Compare1 (thn (h aa s σ H _ I hw) fun v s1 h1=>thn h1 fun u s2 h2=>thn h2 fun c s3 ⟨x,H1,I1,r1,q1⟩=>?_) h1;obtain ⟨d,rfl,q⟩:=q1;cases r1;exact wpAny_truthy_bool ⟨H1,I1,q⟩
theorem Bp {t:TE} (h:PE X e t) (he:∀ whole,isTrue e X.env whole=(do let v ← whole; standAt e.pos; holding [v] (truthy v)):=by intro _; rfl):PT X e (tB t):=by
 intro aa s σ H Q I hw;refine isTrue_plain (thn (h aa s σ H _ I hw) fun v s1 ⟨x,H1,I1,r1,q1⟩=>?_) (he _);obtain ⟨d,rfl,q⟩:=q1;cases r1;exact wpAny_truthy_bool ⟨H1,I1,q⟩
variable {tA tB':TT} {rest:List Expr}
def RJ (t u:TT):TT:=fun σ H Q=>t σ H fun c H1=>if c=true then u σ H1 Q else Q false H1
def tOr (t u:TT):TT:=fun σ H Q=>t σ H fun c H1=>if c=true then Q true H1 else u σ H1 Q
def SC (t:TT):TT:=fun σ H Q=>t σ H fun c H1=>Q (!c) H1
theorem B7 (ha:PT X a tA):PW X (.BoolOp .And [a] pos) tA:=by
 intro wh aa s σ H Q I h;refine isTrue_and (thn (ha aa s σ H Q I h) fun c s1 e=>?_);cases c with
 | true=>exact isTrue_and_nil e
 | false=>exact e
theorem CZ (ha:PT X a tA):PW X (.BoolOp .Or [a] pos) tA:=by
 intro wh aa s σ H Q I h;refine isTrue_or (thn (ha aa s σ H Q I h) fun c s1 e=>?_);cases c with
 | false=>exact isTrue_or_nil e
 | true=>exact e
theorem Cw (ha:PT X a tA) (hb:PW X (.BoolOp .And (b :: rest) pos) tB'):PW X (.BoolOp .And (a :: b :: rest) pos) (RJ tA tB'):=by
 intro wh aa s σ H Q I h;refine isTrue_and (thn (ha aa s σ H _ I h) fun c s1 ⟨H1,I1,q1⟩=>?_);cases c with
 | true=>exact hb wh aa s1 σ H1 Q I1 q1
 | false=>exact ⟨H1,I1,q1⟩
theorem De (ha:PT X a tA) (hb:PW X (.BoolOp .Or (b :: rest) pos) tB'):PW X (.BoolOp .Or (a :: b :: rest) pos) (tOr tA tB'):=by
 intro wh aa s σ H Q I h;refine isTrue_or (thn (ha aa s σ H _ I h) fun c s1 ⟨H1,I1,q1⟩=>?_);cases c with
 | true=>exact ⟨H1,I1,q1⟩
 | false=>exact hb wh aa s1 σ H1 Q I1 q1
theorem B3 (ha:PT X a tA):PT X (.UnaryOp .Not a pos) (SC tA):=by
 intro aa s σ H Q I h;exact isTrue_not (ha aa s σ H (fun c H1=>Q (!c) H1) I h)
def RK (ta tb:TE):TE:=fun σ H Q=>ta σ H fun x H1=>∃ c,x=.bl c/\if c=true then tb σ H1 Q else Q (.bl false) H1
def RL (ta:TE):TE:=fun σ H Q=>ta σ H fun x H1=>∃ c,x=.bl c/\Q (.bl (!c)) H1
theorem Cy {op} {t:TE} (h:PE X a t):PE X (.BoolOp op [a] pos) t:=fun aa s σ H Q I hw=>BoolOp_one (h aa s σ H Q I hw)
theorem CH (ha:PE X a ta) (hb:PE X (.BoolOp .And (b :: rest) pos) tb):PE X (.BoolOp .And (a :: b :: rest) pos) (RK ta tb):=by
 intro aa s σ H Q I h;refine BoolOp_and (thn (ha aa s σ H _ I h) fun v s1 ⟨x,H1,I1,r1,q1⟩=>?_);obtain ⟨c,rfl,q1⟩:=q1;cases r1;refine wpAny_truthy_bool ?_;cases c with
 | true=>exact hb aa s1 σ H1 Q I1 q1
 | false=>exact ⟨.bl false,H1,I1,rfl,q1⟩
theorem QA (ha:PE X a ta):PE X (.UnaryOp .Not a pos) (RL ta):=by
 intro aa s σ H Q I h;refine UnaryOp_ (thn (ha aa s σ H _ I h) fun v s1 ⟨x,H1,I1,r1,q1⟩=>?_);obtain ⟨c,rfl,q1⟩:=q1;cases r1;exact not_of (wpAny_truthy_bool ⟨.bl (!c),H1,I1,rfl,q1⟩)
def tIf (t:TT) (ta tb:TE):TE:=fun σ H Q=>t σ H fun c H1=>if c=true then ta σ H1 Q else tb σ H1 Q
theorem Ik {c:Expr} (hc:PT X c tA) (ha:PE X a ta) (hb:PE X b tb):PE X (.IfExp c a b pos) (tIf tA ta tb):=by
 intro aa s σ H Q I h;refine wpAny_IfExp (thn (hc aa s σ H _ I h) fun d s1 ⟨H1,I1,q1⟩=>?_);cases d with
 | true=>exact ha aa s1 σ H1 Q I1 q1
 | false=>exact hb aa s1 σ H1 Q I1 q1
end
end L2
namespace L2
open PySem PySem.Spec PyProof.Rows
def SqL (K:FG) (H:Hp) (a:Addr) (xs:List V):Prop :=
 Rd H a (.lst xs) \/
  ∃ (o:Obj) (its:Array Value) (n:Nat),K.lookup a=some o/\o.cls=.type "list" /\ o.dict=none/\o.data=.seq its n/\its.size <= sizeLine/\Vals xs its.toList
def SqT (K:FG) (H:Hp) (a:Addr) (xs:List V):Prop :=
 Rd H a (.tup xs) \/
  ∃ (o:Obj) (its:Array Value) (n:Nat),K.lookup a=some o/\o.cls=.type "tuple" /\ o.data=.seq its n/\its.size <= sizeLine/\Vals xs its.toList
def SD:Value->Option V
 | .none=>some .non
 | .bool b=>some (.bl b)
 | .int i _=>some (.int i)
 | .str x _=>some (.str x)
 | .bytes b _=>some (.byt b)
 | .float b _=>some (.flt b)
 | .ref a=>some (.ref a)
 | .type n=>some (.ty n)
 | _=>none
theorem RelV.abs {x:V} (r:RelV x u):SD u=some x:=by
 cases x with
 | non=>cases r; rfl
 | bl _=>cases r; rfl
 | int _=>obtain ⟨t,rfl⟩:=r; rfl
 | str _=>obtain ⟨t,rfl⟩:=r; rfl
 | byt _=>obtain ⟨t,rfl⟩:=r; rfl
 | flt _=>obtain ⟨t,rfl⟩:=r; rfl
 | ref _=>cases r; rfl
 | ty _=>cases r; rfl
theorem RelV.inj {x y:V} {u:Value} (r:RelV x u) (q:RelV y u):x=y:=Option.some.inj (r.abs.symm.trans q.abs)
theorem Vals.inj:∀ {xs ys:List V} {us:List Value},Vals xs us->Vals ys us->xs=ys
 | _,_,_,.nil,.nil=>rfl
 | _,_,_,.cons r t,.cons r' t'=>by rw [r.inj r',Vals.inj t t']
section
variable {ys:List V}
theorem SqL.of (h:H a=some (.lst xs)):SqL K H a xs:=.inl (.inl h)
theorem SqT.of (h:H a=some (.tup xs)):SqT K H a xs:=.inl (.inl h)
theorem Inv.list (I:Inv X aa σ H s) (h:SqL X.K H a xs):∃ its:List Value,Vals xs its/\PlainL s.heap a its.toArray/\xs.length <= sizeLine:=by
 rcases h with h | ⟨o,its,n,hk,hc,hd,hs,hz,r⟩
 ·obtain ⟨z,its,n,r,e⟩:=h.ok I.hok;exact ⟨its,r,⟨_,n,e,rfl,rfl,rfl⟩,z⟩
 ·refine ⟨its.toList,r,⟨o,n,I.kIn a o hk,hc,hd,by simpa using hs⟩,?_⟩;have e:=r.length;simp only [Array.length_toList] at e;omega
theorem Inv.tuple (I:Inv X aa σ H s) (h:SqT X.K H a xs):∃ its:List Value,Vals xs its/\IsTup s.heap a its.toArray/\xs.length <= sizeLine:=by
 rcases h with h | ⟨o,its,n,hk,hc,hs,hz,r⟩
 ·obtain ⟨z,its,r,p⟩:=h.ok I.hok;exact ⟨its,r,p,z⟩
 ·refine ⟨its.toList,r,⟨o,I.kIn a o hk,hc,n,by simpa using hs⟩,?_⟩;have e:=r.length;simp only [Array.length_toList] at e;omega
theorem Inv.list_inj (I:Inv X aa σ H s) (h:SqL X.K H a xs) (h':SqL X.K H a ys):xs=ys:=by
 obtain ⟨its,r,⟨o,n,e,_,_,d⟩,_⟩:=I.list h;obtain ⟨its',r',⟨o',n',e',_,_,d'⟩,_⟩:=I.list h';rw [e] at e'; cases e';rw [d] at d';injection d' with d1 _
 have:its=its':=by simpa using congrArg Array.toList d1
 subst this;exact r.inj r'
theorem Inv.tuple_inj (I:Inv X aa σ H s) (h:SqT X.K H a xs) (h':SqT X.K H a ys):xs=ys:=by
 obtain ⟨its,r,⟨o,e,_,n,d⟩,_⟩:=I.tuple h;obtain ⟨its',r',⟨o',e',_,n',d'⟩,_⟩:=I.tuple h';rw [e] at e'; cases e';rw [d] at d';injection d' with d1 _
 have:its=its':=by simpa using congrArg Array.toList d1
 subst this;exact r.inj r'
end
abbrev Cx.wish (X:Cx) (E:VS):Cx:={ X with xe:=E }
abbrev Cx.nox (X:Cx):Cx:=X.wish fun _ _=>False
theorem Cx.Ok.wish {X:Cx} (ok:X.Ok) (E:VS):(X.wish E).Ok :=
 ⟨ok.mod,ok.kind,ok.glob,ok.blt,ok.above,ok.inj,ok.has,ok.cab,ok.hd,ok.frames,ok.stk,ok.exf,ok.bs,ok.bsz,ok.noex,ok.exfs,ok.funs,ok.frf⟩
theorem Cx.Ok.unwish (ok:(X.wish E).Ok):X.Ok :=
 ⟨ok.mod,ok.kind,ok.glob,ok.blt,ok.above,ok.inj,ok.has,ok.cab,ok.hd,ok.frames,ok.stk,ok.exf,ok.bs,ok.bsz,ok.noex,ok.exfs,ok.funs,ok.frf⟩
section
theorem Inv.wish (I:Inv X aa σ H s) (E:VS):Inv (X.wish E) aa σ H s:=⟨I.ok.wish E,I.os,I.bare,I.base,I.loc,I.cell,I.free,I.freeC,I.pin,I.hok,I.len⟩
theorem Inv.unwish (I:Inv (X.wish E) aa σ H s):Inv X aa σ H s:=⟨I.ok.unwish,I.os,I.bare,I.base,I.loc,I.cell,I.free,I.freeC,I.pin,I.hok,I.len⟩
theorem SP.unwish {D:Gq} {f:Flow} {s':Shared} (h:SP (X.wish E) aa D f s'):SP X aa D f s':=by
 cases f with
 | next=>obtain ⟨σ',H',I,q⟩:=h; exact ⟨σ',H',I.unwish,q⟩
 | brk=>obtain ⟨σ',H',I,q⟩:=h; exact ⟨σ',H',I.unwish,q⟩
 | cont=>obtain ⟨σ',H',I,q⟩:=h; exact ⟨σ',H',I.unwish,q⟩
 | ret u=>obtain ⟨v,σ',H',I,r,q⟩:=h; exact ⟨v,σ',H',I.unwish,r,q⟩
theorem PSs.nox {st:List Stmt} {t:TS} (h:PSs X.nox st t):PSs X st t:=fun aa s σ H D I hw =>
 wpAny_mono (h aa s σ H D (I.wish _) hw) (fun _ _ q=>q.unwish) fun _ _ z=>False.elim z
end
section
variable {st:Stmt} {rest:List Stmt} {t u:TS}
def RM:TS:=fun D σ H=>D.nx σ H
def SE (t u:TS):TS:=fun D σ H=>t { D with nx:=u D } σ H
theorem Aa:PSs X [] RM:=fun _ _ σ H _ I h=>wpAny_execs_nil ⟨σ,H,I,h⟩
theorem AE (h1:PS X st t) (h2:PSs X rest u):PSs X (st :: rest) (SE t u):=by
 intro aa s σ H D I h;refine wpAny_execs_cons (thn (h1 aa s σ H { D with nx:=u D } I h) fun f s1 q=>?_);cases f with
 | next =>
  obtain ⟨σ',H',I',q⟩:=q;exact h2 aa s1 σ' H' D I' q
 | ret v=>exact q
 | brk=>exact q
 | cont=>exact q
theorem AD (h1:PS X st t):PSs X [st] t:=by
 intro aa s σ H D I h;refine wpAny_execs_cons (thn (h1 aa s σ H D I h) fun f s1 q=>?_);cases f with
 | next=>exact wpAny_execs_nil q
 | ret v=>exact q
 | brk=>exact q
 | cont=>exact q
theorem Inv.quiet (I:Inv X aa σ H s):interactive X.env=false:=by simp [interactive,I.ok.kind]
def RN (te:TE):TS:=fun D σ H=>te σ H fun _ H1=>D.nx σ H1
theorem ED (he:PE X e te) (hs:swapsWith e none pos.line X.env=pure false:=by rfl):PS X (.Expr e pos) (RN te):=by
 intro aa s σ H D I h;exact wpAny_Expr_any (thn (he aa s σ H _ I h) fun v s1 ⟨x,H1,I1,r1,q1⟩=>⟨σ,H1,I1,q1⟩) I.quiet hs
def SF (te:TE):TS:=fun D σ H=>te σ H D.rt
theorem AS (he:PE X e te):PS X (.Return (some e) pos) (SF te):=by
 intro aa s σ H D I h;exact wpAny_Return_some (thn (he aa s σ H _ I h) fun v s1 ⟨x,H1,I1,r1,q1⟩=>⟨x,σ,H1,I1,r1,q1⟩)
def SG (c:TT) (t u:TS):TS:=fun D σ H=>c σ H fun b H1=>if b=true then t D σ H1 else u D σ H1
theorem Au {c:Expr} {a b:List Stmt} {tc:TT} (hc:PT X c tc) (ha:PSs X a t) (hb:PSs X b u):PS X (.If c a b pos) (SG tc t u):=by
 intro aa s σ H D I h;refine wpAny_If (thn (hc aa s σ H _ I h) fun d s1 ⟨H1,I1,q1⟩=>?_);cases d with
 | true=>exact ha aa s1 σ H1 D I1 q1
 | false=>exact hb aa s1 σ H1 D I1 q1
def QB:TS:=fun _ _ _=>False
theorem Ax:PS X st QB:=fun _ _ _ _ _ _ h=>h.elim
end
abbrev TG:=V->St->Hp->(St->Hp->Prop)->Prop
abbrev TGs:=List V->St->Hp->(St->Hp->Prop)->Prop
def PG (X:Cx) (target:Expr) (t:TG):Prop :=
 ∀ (aa:LO) (s:Shared) (σ:St) (H:Hp) (v:V) (u:Value) (Q:St->Hp->Prop),Inv X aa σ H s->RelV v u->t v σ H Q ->
  wpAny (model X.prog X.w) X.A (assign target X.env u) (fun _ s'=>∃ σ' H',Inv X aa σ' H' s'/\Q σ' H') X.xe s
def PGs (X:Cx) (ts:List Expr) (t:TGs):Prop :=
 ∀ (aa:LO) (s:Shared) (σ:St) (H:Hp) (vs:List V) (us:List Value) (Q:St->Hp->Prop),Inv X aa σ H s->Vals vs us->t vs σ H Q ->
  wpAny (model X.prog X.w) X.A (assignInOrder ((assignEach ts X.env).map (·.2)) us) (fun _ s'=>∃ σ' H',Inv X aa σ' H' s'/\Q σ' H') X.xe s
abbrev QC:=V->V->V->Hp->(Hp->Prop)->Prop
def RP (X:Cx) (t:QC):Prop :=
 ∀ (aa:LO) (s:Shared) (σ:St) (H:Hp) (o i v:V) (ov iv u:Value) (Q:Hp->Prop),Inv X aa σ H s->RelV o ov->RelV i iv->RelV v u->t o i v H Q ->
  wpAny (model X.prog X.w) X.A (setItem ov iv u) (fun _ s'=>∃ H',Inv X aa σ H' s'/\Q H') X.xe s
abbrev TIp:=V->V->Hp->VK->Prop
def PIp (X:Cx) (op:Operator) (t:TIp):Prop :=
 ∀ (aa:LO) (s:Shared) (σ:St) (H:Hp) (x y:V) (v u:Value) (Q:VK),Inv X aa σ H s->RelV x v->RelV y u->t x y H Q ->
  wpAny (model X.prog X.w) X.A (inplaceOp op v u) (EP X aa σ Q) X.xe s
section
def CQ (i:Nat):TG:=fun v σ H Q=>Q (σ.set i (some v)) H
theorem AO {i:Nat} (hN:X.N.Nodup) (hi:X.N[i]?=some x) (hx:Loc X.env.scope x) (hf:X.fn x=true\/X.env.scope.names.lookup x=some .local:=by first | exact .inl rfl | exact .inr rfl | assumption):PG X (.Name x pos) (CQ i):=by
 intro aa s σ H v u Q I r h;exact wpAny_assign_Name (Cj I hN hi hx r (fun s' I'=>⟨_,H,I',h⟩) hf)
def Oc:TGs:=fun vs σ H Q=>vs=[]/\Q σ H
def Fd (t:TG) (u:TGs):TGs:=fun vs σ H Q=>∃ v r,vs=v :: r/\t v σ H fun σ' H'=>u r σ' H' Q
theorem A6:PGs X [] Oc:=by
 intro aa s σ H vs us Q I r h;obtain ⟨e,h⟩:=h;subst e;cases r;exact assignInOrder_nil ⟨σ,H,I,h⟩
theorem AR {es:List Expr} {t:TG} {u:TGs} (h1:PG X e t) (h2:PGs X es u)
  (hs:(assignEach (e :: es) X.env).map (·.2)=assign e X.env :: (assignEach es X.env).map (·.2):=by rfl):PGs X (e :: es) (Fd t u):=by
 intro aa s σ H vs us Q I r h;obtain ⟨v,vr,e1,h⟩:=h;subst e1;cases r with
 | cons r rr =>
  rw [hs];refine assignInOrder_cons (thn (h1 aa s σ H _ _ _ I r h) fun _ s1 ⟨σ1,H1,I1,q1⟩=>?_);exact h2 aa s1 σ1 H1 _ _ Q I1 rr q1
def Od (K:FG) (n:Nat) (t:TGs):TG:=fun v σ H Q=>∃ a xs,v=.ref a/\SqT K H a xs/\xs.length=n/\t xs σ H Q
theorem BI {es:List Expr} {k:Nat} {t:TGs} {n:Nat} (hc:X.calm=true) (h:PGs X es t)
  (hn:(assignEach es X.env).length=n:=by rfl) (hst:(assignEach es X.env).findIdx? (·.1)=none:=by rfl):PG X (.Tuple es k pos) (Od X.K n t):=by
 intro aa s σ H v u Q I r hw;obtain ⟨a,xs,e1,hq,hl,hw⟩:=hw;subst e1;cases r;obtain ⟨its,rv,ht,hz⟩:=I.tuple hq;refine assign_Tuple_tuple (I.ok.hd hc) ht (by simp [hn,← hl,rv.length]) hst fun h' hx=>?_;have I1:Inv X aa σ H { s with heap:=h' }:=I.kept (t':=s.toks) fun b o e=>hx b o (Nat.ne_of_lt (lt_size e)) e;exact h aa _ σ H xs _ Q I1 (by simpa using rv) hw
def SH (to ti:TE) (t:QC):TG:=fun v σ H Q=>to σ H fun o H1=>ti σ H1 fun i H2=>t o i v H2 fun H3=>Q σ H3
theorem Mv {o i:Expr} {to ti:TE} {t:QC} (ho:PE X o to) (hi:PE X i ti) (hs:RP X t)
  (ha:∀ v,assign (.Subscript o i pos) X.env v=(do
   let ov ← holding [v] (eval o X.env)
   let iv ← holding [v,ov] (eval i X.env)
   standAt pos
   holding [v,ov,iv] (setItem ov iv v)
   release [v,ov,iv] []):=by intro _; rfl):PG X (.Subscript o i pos) (SH to ti t):=by
 intro aa s σ H v u Q I r h;rw [ha];refine wpAny_bind (wpAny_holding (thn (ho aa s σ H _ I h) fun ov s1 ⟨x,H1,I1,r1,q1⟩=>?_));refine wpAny_bind (wpAny_holding (thn (hi aa s1 σ H1 _ I1 q1) fun iv s2 ⟨y,H2,I2,r2,q2⟩=>?_));refine wpAny_bind (wpAny_standAt (wpAny_bind (wpAny_holding (thn (hs aa s2 σ H2 x y v ov iv u _ I2 r1 r2 r q2) fun _ s3 ⟨H3,I3,q3⟩=>?_))));exact wpAny_release ⟨σ,H3,I3,q3⟩
def RQ (te:TE) (g:TG):TS:=fun D σ H=>te σ H fun x H1=>g x σ H1 D.nx
theorem Cz {tg:Expr} {g:TG} (he:PE X e te) (hg:PG X tg g) (hs:swapsWithSole [tg] e pos.line X.env=pure false:=by rfl) (hw:swappedStores [tg] e X.env=pure none:=by rfl)
  (h1:(assignEach [tg] X.env).map (·.2)=[assign tg X.env]:=by rfl):PS X (.Assign [tg] e pos) (RQ te g):=by
 intro aa s σ H D I h;refine wpAny_Assign_stores (thn (he aa s σ H _ I h) fun v s1 ⟨x,H1,I1,r1,q1⟩=>?_) hs hw;rw [h1];exact thn (hg aa s1 σ H1 x v _ I1 r1 q1) fun _ s2 q=>q
theorem Ac {i:Nat} {pos':Pos} (hN:X.N.Nodup) (hi:X.N[i]?=some x) (hx:Loc X.env.scope x) (he:PE X e te) (hs:swapsWith e (some (.Name x pos')) pos.line X.env=pure false:=by rfl) (hf:X.fn x=true\/X.env.scope.names.lookup x=some .local:=by first | exact .inl rfl | exact .inr rfl | assumption) :
  PS X (.Assign [.Name x pos'] e pos) (RQ te (CQ i)):=by
 intro aa s σ H D I h;refine wpAny_Assign_Name (thn (he aa s σ H _ I h) fun v s1 ⟨y,H1,I1,r1,q1⟩=>?_) hs;exact Cj I1 hN hi hx r1 (fun s2 I2=>⟨_,H1,I2,q1⟩) hf
def SI (i:Nat) (te:TE) (ti:TIp):TS:=fun D σ H=>∃ x,σ[i]?=some (some x)/\te σ H fun y H1=>ti x y H1 fun z H2=>D.nx (σ.set i (some z)) H2
theorem Jx {i:Nat} {op:Operator} {ti:TIp} {pos':Pos} (hN:X.N.Nodup) (hi:X.N[i]?=some x) (hx:Loc X.env.scope x) (he:PE X e te) (ho:PIp X op ti) (hf:X.fn x=true\/X.env.scope.names.lookup x=some .local:=by first | exact .inl rfl | exact .inr rfl | assumption) :
  PS X (.AugAssign (.Name x pos') op e pos) (SI i te ti):=by
 intro aa s σ H D I h;obtain ⟨v,e1,h⟩:=h;obtain ⟨m,hn,hl⟩:=I.loc;have vis:Vis X.env.scope x:=by rcases hx with k | k; exact .inl k; exact .inr (.inl k)
 obtain ⟨u,r,l⟩:=hl i x v hi e1 vis;refine wpAny_AugAssign_Name ?_
 have go:wpAny (model X.prog X.w) X.A (eval e X.env) (fun w s₂=>wpAny (model X.prog X.w) X.A (inplaceOp op u w) (fun r s₃=>wpAny (model X.prog X.w) X.A (storeName X.env x r) (fun _=>SP X aa D .next) X.xe s₃) X.xe s₂) X.xe s:=by
  refine thn (he aa s σ H _ I h) fun w s1 ⟨y,H1,I1,r1,q1⟩=>?_;refine thn (ho aa s1 σ H1 v y u w _ I1 r r1 q1) fun z s2 ⟨zv,H2,I2,r2,q2⟩=>?_;exact Cj I2 hN hi hx r2 (fun s3 I3=>⟨_,H2,I3,q2⟩) hf
 rcases l with ⟨hk,hm⟩ | ⟨hk,c,hc,be⟩
 ·exact wpAny_loadName_local I.ok.kind hk hn hm go
 ·rcases hk with hk | hk
  ·exact wpAny_loadName_cell I.ok.kind hk hc be go
  ·rcases hx with k | k
   ·have:X.env.scope.names.lookup x=some .free:=hk;rw [k] at this; cases this
   ·have:X.env.scope.names.lookup x=some .free:=hk;rw [k] at this; cases this
end
section
def Mw (c:TT) (tb:TS):TS:=fun D σ H=>∃ W:Nat->St->Hp->Prop,(∃ m,W m σ H)/\∀ m σ H,W m σ H ->
 c σ H fun b H1=>if b=true then ∃ N:St->Hp->Prop,(∀ σ' H',N σ' H'->∃ m',m' < m/\W m' σ' H')/\tb { D with nx:=N,ct:=N,bk:=D.nx } σ H1 else D.nx σ H1
theorem Il {c:Expr} {body:List Stmt} {tc:TT} {tb:TS} (hp:PassesOwn (model X.prog X.w) X.A X.env X.xe) (hc:PT X c tc) (hb:PSs X body tb):PS X (.While c body [] pos) (Mw tc tb):=by
 intro aa s σ H D I h;obtain ⟨W,⟨m0,w0⟩,turn⟩:=h;refine wpAny_While (codeAny_whileLoop (fun n s'=>∃ σ' H',Inv X aa σ' H' s'/\W n σ' H') ?_ m0 ⟨σ,H,I,w0⟩);rintro n s1 ⟨σ1,H1,I1,w1⟩;refine wpAny_passesOwn hp (thn (hc aa s1 σ1 H1 _ I1 (turn n σ1 H1 w1)) fun b s2 ⟨H2,I2,q2⟩=>?_);cases b with
 | true =>
  obtain ⟨N,hN,q2⟩:=q2;rw [if_pos rfl];refine wpAny_passesOwn hp (thn (hb aa s2 σ1 H2 _ I2 q2) fun f s3 q3=>?_);cases f with
  | next =>
   obtain ⟨σ3,H3,I3,n3⟩:=q3;obtain ⟨m',hm,w3⟩:=hN σ3 H3 n3;exact ⟨m',hm,σ3,H3,I3,w3⟩
  | cont =>
   obtain ⟨σ3,H3,I3,n3⟩:=q3;obtain ⟨m',hm,w3⟩:=hN σ3 H3 n3;exact ⟨m',hm,σ3,H3,I3,w3⟩
  | brk=>exact q3
  | ret v=>exact q3
 | false =>
  rw [if_neg Bool.false_ne_true];exact wpAny_execs_nil ⟨σ1,H2,I2,q2⟩
end
structure It where
 go:Nat->Hp->Prop
 yld:Nat->Hp->V->Hp->Prop
 stop:Nat->Hp->Prop
def Bf (X:Cx) (aa:LO) (H:Hp) (b:Addr):Prop :=
 H b=none/\b ≠ X.env.locals/\b ∉ X.fs/\(b ∈ X.ex\/X.s₀.heap.objs.size <= b)/\(∀ x c,X.env.cells.lookup x=some c->c ≠ b)/\∀ p ∈ X.pn++aa,p.1 ≠ b
theorem Inv.fpOk {b:Addr} (I:Inv X aa σ H s) (hb:s.heap.objs.size <= b) (hn:H' b=none):Bf X aa H' b:=by
 refine ⟨hn,Nat.ne_of_gt (Nat.lt_of_lt_of_le I.lt hb),I.nofs hb,.inr (Nat.le_trans I.sz hb),fun x c e z=>?_,fun p hp z=>?_⟩
 ·obtain ⟨v,q⟩:=I.cell x c e;exact absurd (Nat.lt_of_lt_of_le q.lt (by rw [z]; exact hb)) (Nat.lt_irrefl _)
 ·exact absurd (Nat.lt_of_lt_of_le (lt_size (I.pin p hp).1) (by rw [z]; exact hb)) (Nat.lt_irrefl _)
structure Jy (P:Program) (w:World) (K:FG) (tg:Expr) (J:It) (fp:List Addr) (it:Addr) (tn:Nat->Heap->Prop):Prop where
 mem:it ∈ fp
 obj:∀ i h,tn i h->∀ b ∈ fp,∃ o,h.get? b=some o/\∀ v,o.data ≠ .cell v
 keep:∀ i h h',tn i h->(∀ b ∈ fp,∀ o,h.get? b=some o->h'.get? b=some o)->tn i h'
 item:∀ (X:Cx),X.prog=P->X.w=w->X.K=K->X.calm=true->∀ (i:Nat) (aa:LO) (s:Shared) (σ:St) (H:Hp) (E:VS),Inv X aa σ H s->(∀ b ∈ fp,Bf X aa H b)->tn i s.heap->J.go i H ->
  wpAny (model P w) X.A (pyNext (.ref it)) (fun r s1=>∃ u,r=some u /\
   wpAny (model P w) X.A (letOwnedTupleGo tg (.ref it) u) (fun _ s2=>∃ x H',Inv X aa σ H' s2/\RelV x u/\J.yld i H x H'/\tn (i + 1) s2.heap/\∀ b ∈ fp,H' b=none) E s1) E s
 done:∀ (X:Cx),X.prog=P->X.w=w->X.K=K->X.calm=true->∀ (i:Nat) (aa:LO) (s:Shared) (σ:St) (H:Hp) (E:VS),Inv X aa σ H s->(∀ b ∈ fp,Bf X aa H b)->tn i s.heap->J.stop i H ->
  wpAny (model P w) X.A (pyNext (.ref it)) (fun r s1=>r=none/\Inv X aa σ H s1) E s
 self:∀ (A:Around) (i:Nat) (s:Shared) (Q:VS) (E:VS),tn i s.heap->Q (.ref it) s->wpAny (model P w) A (pyIter (.ref it)) Q E s
abbrev TI:=St->Hp->(It->Hp->Prop)->Prop
def PIE (X:Cx) (aa:LO) (σ:St) (tg:Expr) (R:It->Hp->Prop) (itv:Value) (s2:Shared):Prop :=
 ∃ (it:Addr) (fp:List Addr) (tn:Nat->Heap->Prop) (J:It) (H':Hp),itv=.ref it/\Inv X aa σ H' s2/\Jy X.prog X.w X.K tg J fp it tn/\tn 0 s2.heap/\(∀ b ∈ fp,Bf X aa H' b)/\R J H'
def PI (X:Cx) (tg iter:Expr) (wi:TI):Prop :=
 ∀ (aa:LO) (s:Shared) (σ:St) (H:Hp) (R:It->Hp->Prop),Inv X aa σ H s->wi σ H R ->
  wpAny (model X.prog X.w) X.A (eval iter X.env) (fun v s1=>wpAny (model X.prog X.w) X.A (pyIter v) (PIE X aa σ tg R) X.xe s1) X.xe s
theorem Mx {M:Model} {tg:Expr} {it:Addr} {o:Obj} {n:String} {vs:Array Value} {Q:Unit->Shared->Prop} (ho:s.heap.get? it=some o) (hc:o.cls=.type n) (hd:o.data=.fields vs)
    (hn:["enumerate", "zip", "dict_itemiterator", "dict_reverseitemiterator", "odict_iterator", "itertools.zip_longest", "itertools.pairwise"].contains n=false) (hQ:Q () s):wpAny M A (letOwnedTupleGo tg (.ref it) u) Q E s:=by
  unfold letOwnedTupleGo
  cases tg <;> first
    | exact wpAny_pure hQ
    | (cases u <;> first
        | exact wpAny_pure hQ
        | (refine wpAny_bind (wpAny_load ho ?_)
           rw [hc,hd];show wpAny M A (if (["enumerate", "zip", "dict_itemiterator", "dict_reverseitemiterator", "odict_iterator", "itertools.zip_longest", "itertools.pairwise"].contains n && vs[0]? == some (rawInt _))=true then _ else _) Q E s;rw [if_neg (by intro h; rw [hn,Bool.false_and] at h; cases h)]
           exact wpAny_pure hQ))
def Itl (K:FG) (a:Addr):It :=
 ⟨fun i H=>∃ xs x,SqL K H a xs/\xs[i]?=some x,fun i H x H'=>H'=H/\∀ xs,SqL K H a xs->xs[i]?=some x,fun i H=>∃ xs,SqL K H a xs/\xs.length <= i⟩
def Itt (K:FG) (a:Addr):It :=
 ⟨fun i H=>∃ xs x,SqT K H a xs/\xs[i]?=some x,fun i H x H'=>H'=H/\∀ xs,SqT K H a xs->xs[i]?=some x,fun i H=>∃ xs,SqT K H a xs/\xs.length <= i⟩
def Itr (lo:Int) (n:Nat):It:=⟨fun i _=>i < n,fun i H x H'=>H'=H/\x=.int (lo + i),fun i _=>n <= i⟩
theorem Lh {tg:Expr} (a it:Addr):Jy P w K tg (Itl K a) [it] it (fun i h=>h.IsListIter it a i) where
 mem:=by simp
 obj:=fun i h st b hb=>by
  have e:b=it:=by simpa using hb
  subst e;obtain ⟨o,e,c,d⟩:=st;exact ⟨o,e,fun v z=>by rw [d] at z; cases z⟩
 keep:=fun i h h' st k=>st.at fun o e=>k it (by simp) o e
 item:=by
  intro X hP hw hK hc i aa s σ H E I hf st hg;subst hP hw hK;obtain ⟨xs,x,hq,hx⟩:=hg;obtain ⟨its,rv,p,hz⟩:=I.list hq;obtain ⟨u,hu,ru⟩:=rv.get hx;obtain ⟨f0,f1,f2,f3,f4,f5⟩:=hf it (by simp);refine wpAny_pyNext_list_item st p.isList (x:=u) (by simpa using hu) fun h' st' sb=>?_;have I1:Inv X aa σ H { s with heap:=h' }:=I.turned (t':=s.toks) (fun b o hb e=>(sb.2 b hb).trans e) f0 f1 f3 f4 f5;obtain ⟨o,e,c,d⟩:=id st';exact ⟨u,rfl,Mx (s:={ s with heap:=h' }) e c d (by decide) ⟨x,H,I1,ru,⟨rfl,fun ys hy=>by rw [I.list_inj hy hq]; exact hx⟩,st',fun b hb=>(hf b hb).1⟩⟩
 done:=by
  intro X hP hw hK hc i aa s σ H E I hf st hg;subst hP hw hK;obtain ⟨xs,hq,hx⟩:=hg;obtain ⟨its,rv,p,hz⟩:=I.list hq;obtain ⟨f0,f1,f2,f3,f4,f5⟩:=hf it (by simp);have hl:=rv.length;exact wpAny_pyNext_list_end (I.ok.hd hc) st p.isList (by simp; omega) fun h' eb=>⟨rfl,I.turned (t':=s.toks) (fun b o hb e=>eb b o hb e) f0 f1 f3 f4 f5⟩
 self:=fun _ _ _ _ _ st h=>wpAny_pyIter_listiter st h
theorem Jz {tg:Expr} (a it:Addr):Jy P w K tg (Itt K a) [it] it (fun i h=>h.IsTupleIter it a i) where
 mem:=by simp
 obj:=fun i h st b hb=>by
  have e:b=it:=by simpa using hb
  subst e;obtain ⟨o,e,c,d⟩:=st;exact ⟨o,e,fun v z=>by rw [d] at z; cases z⟩
 keep:=fun i h h' st k=>st.at fun o e=>k it (by simp) o e
 item:=by
  intro X hP hw hK hc i aa s σ H E I hf st hg;subst hP hw hK;obtain ⟨xs,x,hq,hx⟩:=hg;obtain ⟨its,rv,p,hz⟩:=I.tuple hq;obtain ⟨u,hu,ru⟩:=rv.get hx;obtain ⟨f0,f1,f2,f3,f4,f5⟩:=hf it (by simp);refine wpAny_pyNext_tuple_item st (show s.heap.IsTuple a its.toArray from p) (x:=u) (by simpa using hu) fun h' st' sb=>?_;have I1:Inv X aa σ H { s with heap:=h' }:=I.turned (t':=s.toks) (fun b o hb e=>(sb.2 b hb).trans e) f0 f1 f3 f4 f5;obtain ⟨o,e,c,d⟩:=id st';exact ⟨u,rfl,Mx (s:={ s with heap:=h' }) e c d (by decide) ⟨x,H,I1,ru,⟨rfl,fun ys hy=>by rw [I.tuple_inj hy hq]; exact hx⟩,st',fun b hb=>(hf b hb).1⟩⟩
 done:=by
  intro X hP hw hK hc i aa s σ H E I hf st hg;subst hP hw hK;obtain ⟨xs,hq,hx⟩:=hg;obtain ⟨its,rv,p,hz⟩:=I.tuple hq;obtain ⟨f0,f1,f2,f3,f4,f5⟩:=hf it (by simp);have hl:=rv.length;exact wpAny_pyNext_tuple_end (I.ok.hd hc) st (show s.heap.IsTuple a its.toArray from p) (by simp; omega) fun h' eb=>⟨rfl,I.turned (t':=s.toks) (fun b o hb e=>eb b o hb e) f0 f1 f3 f4 f5⟩
 self:=fun _ _ _ _ _ st h=>wpAny_pyIter_tupleiter st h
theorem J0 {tg:Expr} (it:Addr) (lo:Int) (n:Nat):Jy P w K tg (Itr lo n) [it] it (fun i h=>IsRangeIter h it (lo + (i:Nat) * 1) ((n:Int) - (i:Nat)) 1) where
 mem:=by simp
 obj:=fun i h st b hb=>by
  have e:b=it:=by simpa using hb
  subst e
  exact ⟨_,st,fun v z=>by
   have z':Data.fields _=Data.cell v:=z
   cases z'⟩
 keep:=fun i h h' st k=>k it (by simp) _ st
 item:=by
  intro X hP hw hK hc i aa s σ H E I hf st hg;subst hP hw hK;obtain ⟨f0,f1,f2,f3,f4,f5⟩:=hf it (by simp);have W:=Walks.range (prog:=X.prog) (w:=X.w) (I.ok.hd hc) it lo 1 n;refine W.item i s _ _ hg st fun v h' tk hv st' kk=>?_;obtain ⟨t,rfl⟩:=hv;have I1:Inv X aa σ H { s with heap:=h',toks:=tk }:=I.turned (fun b o hb e=>kk b o (by simpa using hb) e) f0 f1 f3 f4 f5;refine ⟨_,rfl,Mx (s:={ s with heap:=h',toks:=tk }) (n := "range_iterator") st' rfl rfl (by decide) ⟨.int (lo + i),H,I1,⟨t,?_⟩,⟨rfl,rfl⟩,st',fun b hb=>(hf b hb).1⟩⟩;rw [Int.mul_one]
 done:=by
  intro X hP hw hK hc i aa s σ H E I hf st hg;subst hP hw hK;obtain ⟨f0,f1,f2,f3,f4,f5⟩:=hf it (by simp);exact wpAny_pyNext_range_end (I.ok.hd hc) st (by have:n <= i:=hg; omega) fun h' eb=>⟨rfl,I.turned (t':=s.toks) (fun b o hb e=>eb b o hb e) f0 f1 f3 f4 f5⟩
 self:=fun _ _ _ _ _ st h=>wpAny_pyIter_rangeiter st h
end L2
namespace L2
open PySem PySem.Spec PyProof.Rows
section
variable {tg:Expr}
def Pq (K:FG) (tl:TE):TI:=fun σ H R=>tl σ H fun x H1=>∃ a,x=.ref a/\(∃ xs,SqL K H1 a xs)/\R (Itl K a) H1
def SJ (K:FG) (tl:TE):TI:=fun σ H R=>tl σ H fun x H1=>∃ a,x=.ref a/\(∃ xs,SqT K H1 a xs)/\R (Itt K a) H1
theorem Ad {l:Expr} {tl:TE} (hl:PE X l tl):PI X tg l (Pq X.K tl):=by
 intro aa s σ H R I h;refine thn (hl aa s σ H _ I h) fun v s1 ⟨x,H1,I1,r1,q1⟩=>?_;obtain ⟨a,e,⟨xs,hq⟩,q⟩:=q1;subst e;cases r1;obtain ⟨its,rv,p,hz⟩:=I1.list hq;refine wpAny_pyIter_list p.isList ?_;refine ⟨s1.heap.objs.size,[s1.heap.objs.size],_,_,H1,rfl,I1.kept (t':=s1.toks) fun b o e=>get?_push_of_some _ e,Lh a _,⟨_,get?_push_size _ rfl,rfl,rfl⟩,fun b hb=>?_,q⟩;have e:b=s1.heap.objs.size:=by simpa using hb
 subst e;exact I1.fpOk (Nat.le_refl _) (I1.hok.fresh (Nat.le_refl _))
theorem J1 {l:Expr} {tl:TE} (hl:PE X l tl):PI X tg l (SJ X.K tl):=by
 intro aa s σ H R I h;refine thn (hl aa s σ H _ I h) fun v s1 ⟨x,H1,I1,r1,q1⟩=>?_;obtain ⟨a,e,⟨xs,hq⟩,q⟩:=q1;subst e;cases r1;obtain ⟨its,rv,p,hz⟩:=I1.tuple hq;refine wpAny_pyIter_tuple (show s1.heap.IsTuple a its.toArray from p) ?_;refine ⟨s1.heap.objs.size,[s1.heap.objs.size],_,_,H1,rfl,I1.kept (t':=s1.toks) fun b o e=>get?_push_of_some _ e,Jz a _,⟨_,get?_push_size _ rfl,rfl,rfl⟩,fun b hb=>?_,q⟩;have e:b=s1.heap.objs.size:=by simpa using hb
 subst e;exact I1.fpOk (Nat.le_refl _) (I1.hok.fresh (Nat.le_refl _))
theorem My {R:It->Hp->Prop} {lo hi:Int} {t u v:Tok} {tk:Nat} (I:Inv X aa σ H s) (h1:-(2 ^ 62) <= lo) (h2:lo < 2 ^ 62) (h3:-(2 ^ 62) <= hi) (h4:hi < 2 ^ 62)
  (q:R (Itr lo (hi - lo).toNat) H):wpAny (model X.prog X.w) X.A (pyIter (.ref s.heap.objs.size)) (PIE X aa σ tg R) E { s with heap:=s.heap.push { cls:=.type "range", data:=.fields #[.int lo t,.int hi u,.int 1 v] },toks:=tk }:=by
 refine wpAny_pyIter_range (IsRange.new ..) (small_one h1 h2 h3 h4) ?_;have I1:Inv X aa σ H { s with heap:=s.heap.push { cls:=.type "range", data:=.fields #[.int lo t,.int hi u,.int 1 v] },toks:=tk }:=I.kept fun b o e=>get?_push_of_some _ e
 refine ⟨(s.heap.push { cls:=.type "range", data:=.fields #[.int lo t,.int hi u,.int 1 v] }).objs.size,[(s.heap.push { cls:=.type "range", data:=.fields #[.int lo t,.int hi u,.int 1 v] }).objs.size],_,_,H,rfl,
  I1.kept (t':=tk) fun b o e=>get?_push_of_some _ e,J0 _ lo (hi - lo).toNat,?_,fun b hb=>?_,q⟩
 ·have e1:lo + ((0:Nat):Int) * 1=lo:=by simp
  have e2:(((hi - lo).toNat:Nat):Int) - ((0:Nat):Int)=Builtin.Range.rangeSize lo hi 1:=by rw [rangeSize_one]; split <;> omega
  show IsRangeIter _ _ (lo + ((0:Nat):Int) * 1) ((((hi - lo).toNat:Nat):Int) - ((0:Nat):Int)) 1;rw [e1,e2];exact get?_push_size _ rfl
 ·have e:b=(s.heap.push { cls:=.type "range", data:=.fields #[.int lo t,.int hi u,.int 1 v] }).objs.size:=by simpa using hb
  subst e;exact I1.fpOk (Nat.le_refl _) (I1.hok.fresh (Nat.le_refl _))
def RS (ta:TA):TI:=fun σ H R=>ta σ H fun vs H1=>∃ j:Int,vs=[.int j]/\-(2 ^ 62) <= j/\j < 2 ^ 62/\R (Itr 0 j.toNat) H1
theorem CB {a:Expr} {ta:TA} {p:Pos} (hg:Gl X "range") (hm:X.mg "range" = none) (ha:PA X [a] ta) (hs:starEach [a] X.env=[(false,eval a X.env)]:=by rfl):PI X tg (.Call (.Name "range" p) [a] [] pos) (RS ta):=by
 intro aa s σ H R I h;refine Call_ (C8 I hg hm boot_range (PyProof.Rows.callWith_type1 (thn (ha pos aa s σ H _ I h) fun us s1 ⟨vs,H1,I1,r1,q1⟩=>?_) hs rfl));obtain ⟨j,e,q1,q2,q⟩:=q1;subst e;cases r1 with
 | cons r rr =>
  cases rr;obtain ⟨t,rfl⟩:=r;exact call_range_1 (My I1 (by omega) (by omega) q1 q2 (by simpa using q))
def SK (wi:TI) (g:TG) (tb:TS):TS:=fun D σ H=>wi σ H fun J H1=>∃ W:Nat->Nat->St->Hp->Prop,(∃ m,W 0 m σ H1)/\∀ i m σ H,W i m σ H ->
 (J.stop i H/\D.nx σ H)\/(J.go i H/\∃ N:St->Hp->Prop,(∀ σ' H',N σ' H'->∃ m',m' < m/\W (i + 1) m' σ' H')/\∀ x H',J.yld i H x H'->g x σ H' fun σ2 H2=>tb { D with nx:=N,ct:=N,bk:=D.nx } σ2 H2)
def Ca (fp:List Addr) (h:Heap):LO:=fp.filterMap fun b=>(h.get? b).map fun o=>(b,o)
theorem Am {fp:List Addr} {b:Addr} {o:Obj} (hb:b ∈ fp) (e:h.get? b=some o):(b,o) ∈ Ca fp h:=List.mem_filterMap.mpr ⟨b,hb,by rw [e]; rfl⟩
theorem Ek {fp:List Addr} {p:Addr × Obj} (hp:p ∈ Ca fp h):p.1 ∈ fp/\h.get? p.1=some p.2:=by
 obtain ⟨b,hb,e⟩:=List.mem_filterMap.mp hp;cases q:h.get? b with
 | none=>rw [q] at e; cases e
 | some o =>
  rw [q] at e;have e':(b,o)=p:=Option.some.inj e;subst e';exact ⟨hb,q⟩
theorem Inv.pinned {fp:List Addr} (I:Inv X aa σ H s) (hf:∀ b ∈ fp,Bf X aa H b) (ho:∀ b ∈ fp,∃ o,s.heap.get? b=some o/\∀ v,o.data ≠ .cell v):Inv X (aa++Ca fp s.heap) σ H s :=
 I.pins_of fun p hp=>(mem_append.mp hp).elim (fun z=>I.pin p (mem_append_right _ z)) fun z=>by
  obtain ⟨hb,e⟩:=Ek z;obtain ⟨f0,f1,f2,_⟩:=hf p.1 hb;obtain ⟨o,e',d⟩:=ho p.1 hb;rw [e] at e'; cases e';exact ⟨e,f0,f1,f2,d⟩
theorem Inv.unpinned {pl:LO} (I:Inv X (aa++pl) σ H s):Inv X aa σ H s:=I.pins_of fun p hp=>I.pin p (mem_append_right _ (mem_append_left _ hp))
theorem BW {iter:Expr} {body:List Stmt} {wi:TI} {g:TG} {tb:TS} (hp:PassesOwn (model X.prog X.w) X.A X.env X.xe) (hc:X.calm=true) (hi:PI X tg iter wi) (hg:PG X tg g) (hb:PSs X body tb)
  (hs:∀ x,foldedSetIterable iter X.env x=pure x:=by intro _; rfl):PS X (.For tg iter body [] pos) (SK wi g tb):=by
 intro aa s σ H D I h;refine wpAny_For (thn (hi aa s σ H _ I h) fun v s1 h1=>thn h1 fun itv s2 h2=>?_) hs;obtain ⟨it,fp,tn,J,H2,e,I2,T,st2,f2,W,⟨m0,w0⟩,turn⟩:=h2;subst e;have stat:∀ {H':Hp},(∀ b ∈ fp,H' b=none)->∀ b ∈ fp,Bf X aa H' b:=fun hn b hb=>⟨hn b hb,(f2 b hb).2⟩;refine codeAny_forLoop_any (fun n s'=>∃ i σ' H',Inv X aa σ' H' s'/\tn i s'.heap/\(∀ b ∈ fp,H' b=none)/\W i n σ' H') ?_ m0 ⟨0,σ,H2,I2,st2,fun b hb=>(f2 b hb).1,w0⟩;rintro n s3 ⟨i,σ3,H3,I3,st3,fr3,w3⟩;rcases turn i n σ3 H3 w3 with ⟨stop,qn⟩ | ⟨go,N,hN,step⟩
 ·refine wpAny_passesOwn hp (thn (T.done X rfl rfl rfl hc i aa s3 σ3 H3 X.xe I3 (stat fr3) st3 stop) fun r s4 ⟨hr,I4⟩=>?_);subst hr;exact wpAny_execs_nil ⟨σ3,H3,I4,qn⟩
 ·refine wpAny_passesOwn hp (thn (T.item X rfl rfl rfl hc i aa s3 σ3 H3 X.xe I3 (stat fr3) st3 go) fun r s4 ⟨u,hr,h4⟩=>?_);subst hr;refine wpAny_passesOwn hp (thn h4 fun _ s5 ⟨x,H5,I5,r5,y5,st5,fr5⟩=>?_);have I5':=I5.pinned (stat fr5) (T.obj _ _ st5);refine wpAny_passesOwn hp (thn (hg _ s5 σ3 H5 x u _ I5' r5 (step x H5 y5)) fun _ s6 ⟨σ6,H6,I6,q6⟩=>?_);refine wpAny_passesOwn hp (thn (hb _ s6 σ6 H6 _ I6 q6) fun f s7 q7=>?_)
  have again:∀ {σ7:St} {H7:Hp},Inv X (aa++Ca fp s5.heap) σ7 H7 s7->N σ7 H7->∃ m,m < n/\∃ i σ' H',Inv X aa σ' H' s7/\tn i s7.heap/\(∀ b ∈ fp,H' b=none)/\W i m σ' H':=fun {σ7 H7} I7 n7=>by
   obtain ⟨m',hm,w7⟩:=hN σ7 H7 n7;refine ⟨m',hm,i + 1,σ7,H7,I7.unpinned,T.keep _ _ _ st5 fun b hb o e=>(I7.pin (b,o) (mem_append_right _ (mem_append_right _ (Am hb e)))).1,fun b hb=>?_,w7⟩;obtain ⟨o,e,d⟩:=T.obj _ _ st5 b hb;exact (I7.pin (b,o) (mem_append_right _ (mem_append_right _ (Am hb e)))).2.1
  cases f with
  | next=>obtain ⟨σ7,H7,I7,n7⟩:=q7; exact again I7 n7
  | cont=>obtain ⟨σ7,H7,I7,n7⟩:=q7; exact again I7 n7
  | brk=>obtain ⟨σ7,H7,I7,q7⟩:=q7; exact ⟨σ7,H7,I7.unpinned,q7⟩
  | ret v=>obtain ⟨x7,σ7,H7,I7,r7,q7⟩:=q7; exact ⟨x7,σ7,H7,I7.unpinned,r7,q7⟩
end
theorem BM {g:TG} {tb:TS} {D:Gq} (Pv:Nat->St->Hp->Prop) (h0:Pv 0 σ H) (hl:∀ i σ H,i <= xs.length->Pv i σ H->SqL K H a xs)
  (hs:∀ i x σ H,xs[i]?=some x->Pv i σ H->g x σ H fun σ2 H2=>tb { D with nx:=Pv (i + 1),ct:=Pv (i + 1),bk:=D.nx } σ2 H2) (hd:∀ σ H,Pv xs.length σ H->D.nx σ H) :
  ∃ W:Nat->Nat->St->Hp->Prop,(∃ m,W 0 m σ H)/\∀ i m σ H,W i m σ H ->
   ((Itl K a).stop i H/\D.nx σ H)\/((Itl K a).go i H/\∃ N:St->Hp->Prop,(∀ σ' H',N σ' H'->∃ m',m' < m/\W (i + 1) m' σ' H')/\∀ x H',(Itl K a).yld i H x H'->g x σ H' fun σ2 H2=>tb { D with nx:=N,ct:=N,bk:=D.nx } σ2 H2):=by
 refine ⟨fun i m σ H=>m=xs.length - i/\i <= xs.length/\Pv i σ H,⟨xs.length,by simp,Nat.zero_le _,h0⟩,?_⟩;rintro i m σ H ⟨rfl,hi,p⟩;have q:=hl i σ H hi p;by_cases hlt:i < xs.length
 ·refine .inr ⟨⟨xs,xs[i],q,by simp [hlt]⟩,Pv (i + 1),fun σ' H' p'=>⟨xs.length - (i + 1),by omega,rfl,hlt,p'⟩,fun x H' y=>?_⟩;obtain ⟨e,y⟩:=y;subst e;exact hs i x σ _ (y xs q) p
 ·have e:i=xs.length:=by omega
  subst e;exact .inl ⟨⟨xs,q,Nat.le_refl _⟩,hd σ H p⟩
theorem El {lo:Int} {n:Nat} {g:TG} {tb:TS} {D:Gq} (Pv:Nat->St->Hp->Prop) (h0:Pv 0 σ H)
  (hs:∀ i σ H,i < n->Pv i σ H->g (.int (lo + i)) σ H fun σ2 H2=>tb { D with nx:=Pv (i + 1),ct:=Pv (i + 1),bk:=D.nx } σ2 H2) (hd:∀ σ H,Pv n σ H->D.nx σ H) :
  ∃ W:Nat->Nat->St->Hp->Prop,(∃ m,W 0 m σ H)/\∀ i m σ H,W i m σ H ->
   ((Itr lo n).stop i H/\D.nx σ H)\/((Itr lo n).go i H/\∃ N:St->Hp->Prop,(∀ σ' H',N σ' H'->∃ m',m' < m/\W (i + 1) m' σ' H')/\∀ x H',(Itr lo n).yld i H x H'->g x σ H' fun σ2 H2=>tb { D with nx:=N,ct:=N,bk:=D.nx } σ2 H2):=by
 refine ⟨fun i m σ H=>m=n - i/\i <= n/\Pv i σ H,⟨n,by simp,Nat.zero_le _,h0⟩,?_⟩;rintro i m σ H ⟨rfl,hi,p⟩;by_cases hlt:i < n
 ·refine .inr ⟨hlt,Pv (i + 1),fun σ' H' p'=>⟨n - (i + 1),by omega,rfl,hlt,p'⟩,fun x H' y=>?_⟩;obtain ⟨e,y⟩:=y;subst e y;exact hs i σ _ hlt p
 ·have e:i=n:=by omega
  subst e;exact .inl ⟨Nat.le_refl _,hd σ H p⟩
theorem Mz {c:TT} {tb:TS} {D:Gq} (Pv:St->Hp->Prop) (μ:St->Hp->Nat) (h0:Pv σ H)
  (hs:∀ σ H,Pv σ H->c σ H fun b H1=>if b=true then tb { D with nx:=fun σ' H'=>Pv σ' H'/\μ σ' H' < μ σ H,ct:=fun σ' H'=>Pv σ' H'/\μ σ' H' < μ σ H,bk:=D.nx } σ H1 else D.nx σ H1)
  (mono:∀ σ H Q Q',(∀ b H1,Q b H1->Q' b H1)->c σ H Q->c σ H Q'):Mw c tb D σ H:=by
 refine ⟨fun m σ H=>m=μ σ H/\Pv σ H,⟨_,rfl,h0⟩,?_⟩;rintro m σ H ⟨rfl,p⟩;refine mono σ H _ _ (fun b H1 q=>?_) (hs σ H p);cases b with
 | true=>exact ⟨_,fun σ' H' ⟨p',l⟩=>⟨_,l,rfl,p'⟩,q⟩
 | false=>exact q
end L2
namespace L2
open PySem PySem.Spec PyProof.Rows
abbrev R2:=V->V->Hp->VK->Prop
def OpR (X:Cx) (f:Value->Value->Sem Value) (r:R2):Prop :=
 ∀ (aa:LO) (s:Shared) (σ:St) (H:Hp) (x y:V) (v u:Value) (Q:VK),Inv X aa σ H s->RelV x v->RelV y u->r x y H Q ->
  wpAny (model X.prog X.w) X.A (f v u) (EP X aa σ Q) X.xe s
def UnR (X:Cx) (f:Value->Sem Value) (r:V->Hp->VK->Prop):Prop :=
 ∀ (aa:LO) (s:Shared) (σ:St) (H:Hp) (x:V) (v:Value) (Q:VK),Inv X aa σ H s->RelV x v->r x H Q ->
  wpAny (model X.prog X.w) X.A (f v) (EP X aa σ Q) X.xe s
def BU (X:Cx) (f:Value) (r:List V->Hp->VK->Prop):Prop :=
 ∀ (aa:LO) (s:Shared) (σ:St) (H:Hp) (xs:List V) (us:List Value) (Q:VK),Inv X aa σ H s->Vals xs us->r xs H Q ->
  wpAny (model X.prog X.w) X.A (call f us) (EP X aa σ Q) X.xe s
def tOp (r:R2) (ta tb:TE):TE:=fun σ H Q=>ta σ H fun x H1=>tb σ H1 fun y H2=>r x y H2 Q
def tUn (r:V->Hp->VK->Prop) (ta:TE):TE:=fun σ H Q=>ta σ H fun x H1=>r x H1 Q
def rI (C:Int->Int->Prop) (g:Int->Int->V):R2:=fun x y H Q=>∃ i j,x=.int i/\y=.int j/\C i j/\Q (g i j) H
def rI0 (g:Int->Int->V):R2:=fun x y H Q=>∃ i j,x=.int i/\y=.int j/\Q (g i j) H
def rU (g:Int->V):V->Hp->VK->Prop:=fun x H Q=>∃ i,x=.int i/\Q (g i) H
section
variable {a b c:Expr} {ta tb tc:TE}
theorem QD (ha:PE X a ta) (hb:PE X b tb) {R:V->V->Hp->Prop} (I:Inv X aa σ H s)
  (h:ta σ H fun x H1=>tb σ H1 fun y H2=>R x y H2) {Q:VS} {f:Value->Value->Sem Value}
  (hf:∀ v u s2 x y H2,Inv X aa σ H2 s2->RelV x v->RelV y u->R x y H2->wpAny (model X.prog X.w) X.A (f v u) Q X.xe s2) :
  wpAny (model X.prog X.w) X.A (eval a X.env) (fun v s₁=>wpAny (model X.prog X.w) X.A (eval b X.env) (fun u s₂=>wpAny (model X.prog X.w) X.A (f v u) Q X.xe s₂) X.xe s₁) X.xe s:=by
 refine thn (ha aa s σ H _ I h) fun v s1 ⟨x,H1,I1,r1,q1⟩=>?_;refine thn (hb aa s1 σ H1 _ I1 q1) fun u s2 ⟨y,H2,I2,r2,q2⟩=>?_;exact hf v u s2 x y H2 I2 r1 r2 q2
theorem AW {op:Operator} {r:R2} (ho:OpR X (binaryOp op) r) (ha:PE X a ta) (hb:PE X b tb):PE X (.BinOp a op b pos) (tOp r ta tb):=by
 intro aa s σ H Q I h;exact wpAny_BinOp (QD ha hb I h fun v u s2 x y H2 I2 rx ry q=>ho aa s2 σ H2 x y v u Q I2 rx ry q)
theorem M0 {op:UnaryOp} {r:V->Hp->VK->Prop} (ho:UnR X (unaryOp op) r) (ha:PE X a ta):PE X (.UnaryOp op a pos) (tUn r ta):=by
 intro aa s σ H Q I h;exact UnaryOp_ (thn (ha aa s σ H _ I h) fun v s1 ⟨x,H1,I1,r1,q1⟩=>ho aa s1 σ H1 x v Q I1 r1 q1)
theorem opI {f:Value->Value->Sem Value} {C:Int->Int->Prop} {g:Int->Int->Int}
  (rule:∀ (i j:Int) (t u:Tok) (s:Shared) (Q:VS) (E:VS),C i j->Q (.int (g i j) s.toks) { s with toks:=s.toks + 1 }->wpAny (model X.prog X.w) X.A (f (.int i t) (.int j u)) Q E s) :
  OpR X f (rI C fun i j=>.int (g i j)):=by
 intro aa s σ H x y v u Q I rx ry h;obtain ⟨i,j,rfl,rfl,hc,q⟩:=h;obtain ⟨t,rfl⟩:=rx;obtain ⟨t',rfl⟩:=ry;exact rule i j t t' s _ _ hc ⟨.int (g i j),H,I.tok _,⟨_,rfl⟩,q⟩
theorem Im {f:Value->Value->Sem Value} {g:Int->Int->Int}
  (rule:∀ (i j:Int) (t u:Tok) (s:Shared) (Q:VS) (E:VS),Q (.int (g i j) s.toks) { s with toks:=s.toks + 1 }->wpAny (model X.prog X.w) X.A (f (.int i t) (.int j u)) Q E s) :
  OpR X f (rI0 fun i j=>.int (g i j)):=by
 intro aa s σ H x y v u Q I rx ry h;obtain ⟨i,j,rfl,rfl,q⟩:=h;obtain ⟨t,rfl⟩:=rx;obtain ⟨t',rfl⟩:=ry;exact rule i j t t' s _ _ ⟨.int (g i j),H,I.tok _,⟨_,rfl⟩,q⟩
theorem Oe {f:Value->Value->Sem Value} {g:Int->Int->Bool}
  (rule:∀ (i j:Int) (t u:Tok) (s:Shared) (Q:VS) (E:VS),Q (.bool (g i j)) s->wpAny (model X.prog X.w) X.A (f (.int i t) (.int j u)) Q E s) :
  OpR X f (rI0 fun i j=>.bl (g i j)):=by
 intro aa s σ H x y v u Q I rx ry h;obtain ⟨i,j,rfl,rfl,q⟩:=h;obtain ⟨t,rfl⟩:=rx;obtain ⟨t',rfl⟩:=ry;exact rule i j t t' s _ _ ⟨.bl (g i j),H,I,rfl,q⟩
def SL (i j:Int):Prop:=0 < j/\j < 1073741824
def QE (i j:Int):Prop:=0 <= j/\j <= 1000000/\i.natAbs < 2 ^ 64
def CMul (i j:Int):Prop:=(-(2 ^ 64) < i/\i < 2 ^ 64)\/(-(2 ^ 64) < j/\j < 2 ^ 64)
theorem CMul.ok {i j:Int} (h:CMul i j):IntMulOk i j:=by
 rcases h with ⟨h1,h2⟩ | ⟨h1,h2⟩
 ·exact .of_left (intBits_le_64 h1 h2)
 ·exact .of_right (intBits_le_64 h1 h2)
theorem J2 (k:Nat):(0:Int) <= 2 ^ k:=by
 rw [two_pow_cast];exact Int.natCast_nonneg _
theorem Cb:OpR X (binaryOp .Add) (rI0 fun i j=>.int (i + j)):=Im fun _ _ _ _ _ _ _ q=>add_int q
theorem Hn:OpR X (binaryOp .Sub) (rI0 fun i j=>.int (i - j)):=Im fun _ _ _ _ _ _ _ q=>sub_int q
theorem Fe:OpR X (binaryOp .Mult) (rI CMul fun i j=>.int (i * j)):=opI fun _ _ _ _ _ _ _ hc q=>mul_int q hc.ok
theorem Ho:OpR X (binaryOp .FloorDiv) (rI SL fun i j=>.int (i / j)):=opI fun i j _ _ _ _ _ hc q=>by
 have h1:(0:Int) < j:=hc.1;have h2:j < 1073741824:=hc.2;exact floordiv_int (by omega) (by rw [Int.fdiv_eq_ediv_of_nonneg i (by omega)]; exact q) (.inl (PyProof.noPylong_small (by omega)))
theorem DA:OpR X (binaryOp .Mod) (rI (fun _ j=>0 < j) fun i j=>.int (i % j)):=opI fun i j _ _ _ _ _ hc q=>by
 have h1:(0:Int) < j:=hc;exact mod_int' (by omega) (by rw [Int.fmod_eq_emod_of_nonneg i (by omega)]; exact q)
theorem J3:OpR X (binaryOp .Pow) (rI QE fun i j=>.int (i ^ j.toNat)):=opI fun _ _ _ _ _ _ _ hc q=>pow_int_small hc.1 hc.2.1 hc.2.2 q
theorem Hq:OpR X (binaryOp .LShift) (rI QE fun i j=>.int (i * 2 ^ j.toNat)):=opI fun _ _ _ _ _ _ _ hc q=>lshift_int_small hc.1 hc.2.1 hc.2.2 q
theorem QF:OpR X (binaryOp .RShift) (rI (fun _ j=>0 <= j) fun i j=>.int (i / 2 ^ j.toNat)):=opI fun i j _ _ _ _ _ hc q =>
 rshift_int hc (by rw [Int.fdiv_eq_ediv_of_nonneg i (J2 _)]; exact q)
theorem BJ:OpR X (binaryOp .BitAnd) (rI0 fun i j=>.int (Builtin.bitAnd i j)):=Im fun _ _ _ _ _ _ _ q=>and_int q
theorem Io:OpR X (binaryOp .BitOr) (rI0 fun i j=>.int (Builtin.bitOr i j)):=Im fun _ _ _ _ _ _ _ q=>or_int q
theorem M6:OpR X (binaryOp .BitXor) (rI0 fun i j=>.int (Builtin.bitXor i j)):=Im fun _ _ _ _ _ _ _ q=>xor_int q
theorem Of:OpR X (inplaceOp .Add) (rI0 fun i j=>.int (i + j)):=Im fun _ _ _ _ _ _ _ q=>iadd_int q
theorem Og:OpR X (inplaceOp .BitAnd) (rI0 fun i j=>.int (Builtin.bitAnd i j)):=Im fun _ _ _ _ _ _ _ q=>iand_int q
theorem QG:OpR X (inplaceOp .BitOr) (rI0 fun i j=>.int (Builtin.bitOr i j)):=Im fun _ _ _ _ _ _ _ q=>ior_int q
theorem unI {f:Value->Sem Value} {g:Int->Int}
  (rule:∀ (i:Int) (t:Tok) (s:Shared) (Q:VS) (E:VS),Q (.int (g i) s.toks) { s with toks:=s.toks + 1 }->wpAny (model X.prog X.w) X.A (f (.int i t)) Q E s) :
  UnR X f (rU fun i=>.int (g i)):=by
 intro aa s σ H x v Q I rx h;obtain ⟨i,rfl,q⟩:=h;obtain ⟨t,rfl⟩:=rx;exact rule i t s _ _ ⟨.int (g i),H,I.tok _,⟨_,rfl⟩,q⟩
theorem J4:UnR X (unaryOp .Invert) (rU fun i=>.int (Builtin.bitNot i)):=unI fun _ _ _ _ _ q=>invert_int q
end
def RV:V->V->Bool
 | .non,.non=>true | .non,.int _=>true | .int _,.non=>true | .non,.bl _=>true | .bl _,.non=>true | .non,.str _=>true | .str _,.non=>true
 | .int _,.int _=>true | .bl _,.bl _=>true | .str _,.str _=>true | .byt _,.byt _=>true
 | .int _,.str _=>true | .str _,.int _=>true | .bl _,.str _=>true | .str _,.bl _=>true
 | _,_=>false
def rEq:R2:=fun x y H Q=>RV x y=true/\Q (.bl (decide (x=y))) H
def rNe:R2:=fun x y H Q=>RV x y=true/\Q (.bl (!decide (x=y))) H
theorem K2 {i j:Int}:decide (V.int i=V.int j)=(i == j):=by
 rw [Bool.eq_iff_iff];simp
theorem M7 {i j:Bool}:decide (V.bl i=V.bl j)=(i == j):=by
 rw [Bool.eq_iff_iff];simp
theorem K3 {i j:Str}:decide (V.str i=V.str j)=(i == j):=by
 rw [Bool.eq_iff_iff];simp
theorem K4 {i j:Array UInt8}:decide (V.byt i=V.byt j)=(i.toList == j.toList):=by
 rw [Bool.eq_iff_iff];cases i;cases j;simp
section
variable {a b c:Expr} {ta tb tc:TE}
theorem Aj {Q:VK} {k k':Bool} (I:Inv X aa σ H s) (q:Q (.bl k) H) (e:k=k'):EP X aa σ Q (.bool k') s:=by
 subst e;exact ⟨.bl k,H,I,rfl,q⟩
theorem Ck:OpR X (compareOp .Eq) rEq:=by
 intro aa s σ H x y v u Q I rx ry h;obtain ⟨hs,q⟩:=h;cases x with
 | non =>
  cases rx;cases y with
  | non=>cases ry; exact PySem.EqNone.eq_none_none (Aj I q (by simp))
  | bl j=>cases ry; exact PySem.EqNone.eq_none_bool (Aj I q (by simp))
  | int j=>obtain ⟨t',rfl⟩:=ry; exact PySem.EqNone.eq_none_int (Aj I q (by simp))
  | str j=>obtain ⟨t',rfl⟩:=ry; exact PySem.EqNone.eq_none_str (Aj I q (by simp))
  | _=>exact absurd (show false=true from hs) Bool.false_ne_true
 | bl i =>
  cases rx;cases y with
  | non=>cases ry; exact PySem.EqNone.eq_bool_none (Aj I q (by simp))
  | bl j=>cases ry; exact eq_bool (Aj I q M7)
  | str j=>obtain ⟨t',rfl⟩:=ry; exact PySem.EqMixed.eq_bool_str (Aj I q (by simp))
  | _=>exact absurd (show false=true from hs) Bool.false_ne_true
 | int i =>
  obtain ⟨t,rfl⟩:=rx;cases y with
  | non=>cases ry; exact PySem.EqNone.eq_int_none (Aj I q (by simp))
  | int j=>obtain ⟨t',rfl⟩:=ry; exact eq_int (Aj I q K2)
  | str j=>obtain ⟨t',rfl⟩:=ry; exact PySem.EqMixed.eq_int_str (Aj I q (by simp))
  | _=>exact absurd (show false=true from hs) Bool.false_ne_true
 | str i =>
  obtain ⟨t,rfl⟩:=rx;cases y with
  | non=>cases ry; exact PySem.EqNone.eq_str_none (Aj I q (by simp))
  | bl j=>cases ry; exact PySem.EqMixed.eq_str_bool (Aj I q (by simp))
  | int j=>obtain ⟨t',rfl⟩:=ry; exact PySem.EqMixed.eq_str_int (Aj I q (by simp))
  | str j=>obtain ⟨t',rfl⟩:=ry; exact eq_str (Aj I q K3)
  | _=>exact absurd (show false=true from hs) Bool.false_ne_true
 | byt i =>
  obtain ⟨t,rfl⟩:=rx;cases y with
  | byt j=>obtain ⟨t',rfl⟩:=ry; exact W.eq_bytes (Aj I q K4)
  | _=>exact absurd (show false=true from hs) Bool.false_ne_true
 | _=>cases y <;> exact absurd (show false=true from hs) Bool.false_ne_true
theorem CI:OpR X (compareOp .NotEq) rNe:=by
 intro aa s σ H x y v u Q I rx ry h;obtain ⟨hs,q⟩:=h;cases x with
 | non =>
  cases rx;cases y with
  | non=>cases ry; exact PySem.EqNone.ne_none_none (Aj I q (by simp))
  | bl j=>cases ry; exact PySem.EqNone.ne_none_bool (Aj I q (by simp))
  | int j=>obtain ⟨t',rfl⟩:=ry; exact PySem.EqNone.ne_none_int (Aj I q (by simp))
  | str j=>obtain ⟨t',rfl⟩:=ry; exact PySem.EqNone.ne_none_str (Aj I q (by simp))
  | _=>exact absurd (show false=true from hs) Bool.false_ne_true
 | bl i =>
  cases rx;cases y with
  | non=>cases ry; exact PySem.EqNone.ne_bool_none (Aj I q (by simp))
  | bl j=>cases ry; exact ne_bool (Aj I q (congrArg not M7))
  | str j=>obtain ⟨t',rfl⟩:=ry; exact PySem.EqMixed.ne_bool_str (Aj I q (by simp))
  | _=>exact absurd (show false=true from hs) Bool.false_ne_true
 | int i =>
  obtain ⟨t,rfl⟩:=rx;cases y with
  | non=>cases ry; exact PySem.EqNone.ne_int_none (Aj I q (by simp))
  | int j=>obtain ⟨t',rfl⟩:=ry; exact ne_int (Aj I q (congrArg not K2))
  | str j=>obtain ⟨t',rfl⟩:=ry; exact PySem.EqMixed.ne_int_str (Aj I q (by simp))
  | _=>exact absurd (show false=true from hs) Bool.false_ne_true
 | str i =>
  obtain ⟨t,rfl⟩:=rx;cases y with
  | non=>cases ry; exact PySem.EqNone.ne_str_none (Aj I q (by simp))
  | bl j=>cases ry; exact PySem.EqMixed.ne_str_bool (Aj I q (by simp))
  | int j=>obtain ⟨t',rfl⟩:=ry; exact PySem.EqMixed.ne_str_int (Aj I q (by simp))
  | str j=>obtain ⟨t',rfl⟩:=ry; exact ne_str (Aj I q (congrArg not K3))
  | _=>exact absurd (show false=true from hs) Bool.false_ne_true
 | byt i =>
  obtain ⟨t,rfl⟩:=rx;cases y with
  | byt j=>obtain ⟨t',rfl⟩:=ry; exact W.ne_bytes (Aj I q (congrArg not K4))
  | _=>exact absurd (show false=true from hs) Bool.false_ne_true
 | _=>cases y <;> exact absurd (show false=true from hs) Bool.false_ne_true
theorem Pr:OpR X (compareOp .Lt) (rI0 fun i j=>.bl (decide (i < j))):=Oe fun _ _ _ _ _ _ _ q=>lt_int q
theorem FE:OpR X (compareOp .LtE) (rI0 fun i j=>.bl (decide (i <= j))):=Oe fun _ _ _ _ _ _ _ q=>le_int q
theorem G2:OpR X (compareOp .Gt) (rI0 fun i j=>.bl (decide (j < i))):=Oe fun _ _ _ _ _ _ _ q=>gt_int q
theorem Ps:OpR X (compareOp .GtE) (rI0 fun i j=>.bl (decide (j <= i))):=Oe fun _ _ _ _ _ _ _ q=>ge_int q
theorem AY (b:Expr) {op:CmpOp} (h:op ≠ .In:=by decide) (h2:op ≠ .NotIn:=by decide):behindInMarks op b=false:=by
 have e1:(op == CmpOp.In)=false:=by cases op <;> first | rfl | exact absurd rfl h
 have e2:(op == CmpOp.NotIn)=false:=by cases op <;> first | rfl | exact absurd rfl h2
 cases b <;> simp [behindInMarks,e1,e2]
theorem Bw {op:CmpOp} {r:R2} (ho:OpR X (compareOp op) r) (ha:PE X a ta) (hb:PE X b tb) (hm:behindInMarks op b=false):PE X (.Compare a [op] [b] pos) (tOp r ta tb):=by
 intro aa s σ H Q I h;exact wpAny_Compare1 (QD ha hb I h fun v u s2 x y H2 I2 rx ry q=>ho aa s2 σ H2 x y v u Q I2 rx ry q) hm
def K5 (t:TE):TT:=fun σ H Q=>t σ H fun x H'=>∃ k,x=.bl k/\Q k H'
theorem AU {op:CmpOp} {r:R2} (ho:OpR X (compareOp op) r) (ha:PE X a ta) (hb:PE X b tb) (hm:behindInMarks op b=false):PT X (.Compare a [op] [b] pos) (K5 (tOp r ta tb)):=by
 intro aa s σ H Q I h
 refine wpAny_isTrue_Compare1 (thn (ha aa s σ H _ I h) fun v s1 ⟨x,H1,I1,r1,q1⟩=>thn (hb aa s1 σ H1 _ I1 q1) fun u s2 ⟨y,H2,I2,r2,q2⟩ =>
  thn (ho aa s2 σ H2 x y v u _ I2 r1 r2 q2) fun c s3 ⟨z,H3,I3,r3,k,e,q3⟩=>?_) hm
 subst e;cases r3;exact wpAny_truthy_bool ⟨H3,I3,q3⟩
def M8 (r r':R2) (ta tb tc:TE):TE:=fun σ H Q=>ta σ H fun x H1=>tb σ H1 fun y H2=>r x y H2 fun z H3=>∃ k,z=.bl k /\
 (if k=true then tc σ H3 fun w' H4=>r' y w' H4 Q else Q (.bl false) H3)
theorem Ip {op op':CmpOp} {r r':R2} (ho:OpR X (compareOp op) r) (ho':OpR X (compareOp op') r') (ha:PE X a ta) (hb:PE X b tb) (hc:PE X c tc)
  (hm:lastMarks [op,op'] [b,c]=false:=by with_unfolding_all rfl):PE X (.Compare a [op,op'] [b,c] pos) (M8 r r' ta tb tc):=by
 intro aa s σ H Q I h
 refine Compare_chain (thn (ha aa s σ H _ I h) fun v s1 ⟨x,H1,I1,r1,q1⟩=>chain_link (thn (hb aa s1 σ H1 _ I1 q1) fun u s2 ⟨y,H2,I2,r2,q2⟩ =>
  thn (ho aa s2 σ H2 x y v u _ I2 r1 r2 q2) fun d s3 ⟨z,H3,I3,r3,k,e,q3⟩=>?_)) hm
 subst e;cases r3;refine wpAny_truthy_bool ?_;cases k with
 | false=>exact ite_ff ⟨.bl false,H3,I3,rfl,q3⟩
 | true=>exact ite_tt (chain_last (thn (hc aa s3 σ H3 _ I3 q3) fun w' s4 ⟨z',H4,I4,r4,q4⟩=>ho' aa s4 σ H4 y z' u w' Q I4 r2 r4 q4))
theorem Ff {op op':CmpOp} {r r':R2} (ho:OpR X (compareOp op) r) (ho':OpR X (compareOp op') r') (ha:PE X a ta) (hb:PE X b tb) (hc:PE X c tc)
  (hm:lastMarks [op,op'] [b,c]=false:=by with_unfolding_all rfl):PT X (.Compare a [op,op'] [b,c] pos) (K5 (M8 r r' ta tb tc)):=by
 intro aa s σ H Q I h
 refine isTrue_chain (thn (ha aa s σ H _ I h) fun v s1 ⟨x,H1,I1,r1,q1⟩=>test_link (thn (hb aa s1 σ H1 _ I1 q1) fun u s2 ⟨y,H2,I2,r2,q2⟩ =>
  thn (ho aa s2 σ H2 x y v u _ I2 r1 r2 q2) fun d s3 ⟨z,H3,I3,r3,k,e,q3⟩=>?_)) hm
 subst e;cases r3;refine wpAny_truthy_bool ?_;cases k with
 | false =>
  obtain ⟨k',e',q'⟩:=q3;cases e';exact ite_ff ⟨H3,I3,q'⟩
 | true =>
  refine ite_tt (test_last (thn (hc aa s3 σ H3 _ I3 q3) fun w' s4 ⟨z',H4,I4,r4,q4⟩=>thn (ho' aa s4 σ H4 y z' u w' _ I4 r2 r4 q4) fun d' s5 ⟨z2,H5,I5,r5,k2,e2,q5⟩=>?_));subst e2;cases r5;exact wpAny_truthy_bool ⟨H5,I5,q5⟩
theorem Fg:(sizeLine:Nat) < 2 ^ 63:=by rw [sizeLine_eq]; decide
theorem Bb {x:V} (r:Vals [x] us):∃ u,us=[u]/\RelV x u:=by
 cases r with
 | cons r1 r2=>cases r2; exact ⟨_,rfl,r1⟩
theorem Fh {x y:V} (r:Vals [x,y] us):∃ u w',us=[u,w']/\RelV x u/\RelV y w':=by
 cases r with
 | cons r1 r2 =>
  cases r2 with
  | cons r3 r4=>cases r4; exact ⟨_,_,rfl,r1,r3⟩
theorem Li (hc:X.calm=true):BU X (.builtin "max") (fun xs H Q=>∃ i j,xs=[.int i,.int j]/\Q (.int (if j > i then j else i)) H):=by
 intro aa s σ H xs us Q I r h;obtain ⟨i,j,rfl,q⟩:=h;obtain ⟨u,w',rfl,⟨t,rfl⟩,⟨t',rfl⟩⟩:=Fh r;refine max_two_ints (I.ok.hd hc) fun h' tk k=>⟨_,H,I.kept k,?_,q⟩;by_cases hj:j > i
 ·rw [if_pos hj,if_pos hj]; exact ⟨_,rfl⟩
 ·rw [if_neg hj,if_neg hj]; exact ⟨_,rfl⟩
theorem Lj (hc:X.calm=true):BU X (.builtin "min") (fun xs H Q=>∃ i j,xs=[.int i,.int j]/\Q (.int (if j < i then j else i)) H):=by
 intro aa s σ H xs us Q I r h;obtain ⟨i,j,rfl,q⟩:=h;obtain ⟨u,w',rfl,⟨t,rfl⟩,⟨t',rfl⟩⟩:=Fh r;refine min_two_ints (I.ok.hd hc) fun h' tk k=>⟨_,H,I.kept k,?_,q⟩;by_cases hj:j < i
 ·rw [if_pos hj,if_pos hj]; exact ⟨_,rfl⟩
 ·rw [if_neg hj,if_neg hj]; exact ⟨_,rfl⟩
end
end L2
namespace L2
open PySem PySem.Spec PyProof.Rows
structure ObjM (h:Heap) (x dx C:Addr) (mA:SV):Prop where
 obj:h.get? x=some (W.instObj C dx)
 ns:h.Ns1 dx mA
 ne:dx ≠ x
theorem Lk {dx:Addr} {mA:SV} (n:h.Ns1 dx mA):∃ od,h.get? dx=some od/\∀ name,W.lookIn name od=some (mA name):=by
 obtain ⟨o,es,ep,ho,hd,hk,_,hm⟩:=n;refine ⟨o,ho,fun name=>?_⟩;have e:=hm name;unfold nsFind findBy at e;rw [← Array.find?_toList] at e;unfold W.lookIn;rw [hd]
 dsimp only
 split
 ·rename_i y q;rw [q] at e;exact congrArg some e
 ·rename_i q;rw [q] at e
  have a:es.toList.any (·.refKey)=false:=by
   rw [List.any_eq_false];intro y hy;obtain ⟨z,t,ci⟩:=hk y (Array.mem_toList_iff.mp hy);simp [DictEntry.refKey,ci]
  have a':¬ es.toList.any (·.refKey)=true:=by rw [a]; exact Bool.false_ne_true
  rw [if_neg a'];exact congrArg some e
theorem ObjM.look {x dx:Addr} {mA:SV} (I:ObjM h x dx C mA):∃ od,W.InstAt h x (W.instObj C dx) C (some od)/\∀ name,W.lookIn name od=some (mA name) :=
 let ⟨od,ho,hl⟩:=Lk I.ns
 ⟨od,⟨I.obj,rfl,rfl,ho⟩,hl⟩
section
variable {prog:Program} {x dx:Addr} {mA:SV} {name:Str} {v:Value}
theorem Oh {expr:Bool} {Q:VS} (X:K.In s.heap) (I:ObjM s.heap x dx C mA) (hg:W.plainGet K C name=true) (hh:W.hasDictIn K C=true)
  (ha:W.findIn K (.ref C) name=some none) (hv:mA name=some v) (hv':W.handedIn v=true) (h:Q v { s with toks:=s.toks + 1 }) :
  wpAny (model prog w) A (getAttr (.ref x) name expr) Q E s:=by
 obtain ⟨od,J,hl⟩:=I.look;exact W.get_value X J (W.plainGet_of hg).1 (W.findObj_own hh ha rfl (by rw [hl,hv])) hv' h
theorem M9 {pl:Sem Bool} {Q:Value × List Value->Shared->Prop} (X:K.In s.heap) (I:ObjM s.heap x dx C mA) (hg:W.plainGet K C name=true)
  (hf:W.findIn K (.ref C) name=some (some (.ref f))) (ht:W.isFn K (.ref f)=true) (hv:mA name=none) (h:Q (.ref f,[.ref x]) s) :
  wpAny (model prog w) A (getMethod (.ref x) name pl) Q E s:=by
 obtain ⟨od,J,hl⟩:=I.look;exact W.method_fn X J (W.plainGet_of hg).1 (W.plainGet_of hg).2 hf (beq_iff_eq.mp ht) (by show (W.lookIn name od).map (·.isSome)=some false; rw [hl,hv]; rfl) h
theorem Oi {ns:List Str} {Q:Unit->Shared->Prop} (X:K.In s.heap) (I:ObjM s.heap x dx C mA)
  (hs:W.findIn K (.ref C) "__setattr__" = some (some (.builtin "object.__setattr__"))) (hp:W.plainOver K C=true) (ht:W.takerIn K C name=some none) (hh:W.hasDictIn K C=true)
  (hw:PySem.Within mA ns) (hsz:ns.length <= sizeLine)
  (h:∀ h',ObjM h' x dx C (fun y=>if y=name then some v else mA y)->Heap.SameBut dx s.heap h'->Q () { s with heap:=h',toks:=s.toks + 2 }) :
  wpAny (model prog w) A (setAttr (.ref x) name v) Q E s:=by
 obtain ⟨od,J,hl⟩:=I.look;refine W.set_plain X J hs (W.osa_open (s:={ s with toks:=s.toks + 1 }) (r:=none) X J hp ht fun b=>?_);obtain ⟨cd,hc,hd'⟩:=W.any_some hh;have hx:s.heap.get? x=some ⟨.ref C,some dx,.plain,#[]⟩:=I.obj;refine wpAny_bind (wpAny_pure (wpAny_bind (wpAny_bind (wpAny_loadPart hx (wpAny_bind (W.Looks.here (s:={ s with toks:=s.toks + 1 }) (W.looks_clsIn X hc) ?_))))));rw [hd'];refine wpAny_pure (a:=some dx) (wpAny_bind (wpAny_pure (wpAny_bind ?_)));refine wpAny_nsSet1 (s:={ s with toks:=s.toks + 1 }) I.ns fun h' hn2 hs2=>?_;obtain ⟨oD,esD,epD,hoD,hdD,hcD⟩:=hn2.count (PySem.Within.cons name v hw);refine wpAny_bind (wpAny_lookBehind hoD (by rw [hdD]; exact pastItsLine_dict (Nat.le_trans hcD (by rw [length_cons]; omega))) ?_);exact wpAny_pure (h _ ⟨(hs2.2 _ (Ne.symm I.ne)).trans I.obj,hn2,I.ne⟩ hs2)
theorem Iq {R:Result->Shared->Prop} {vs:List Value} {kw:List (Str × Value)} (X:K.In s.heap) (hm:W.makesIn K C=true)
  (hi:W.findIn K (.ref C) "__init__" = some (some (.ref f))) (hf:W.typeIn K (.ref f)=some (.type "function"))
  (h:codeAny (model prog w) (A.under (.builtin "type.__call__" ⟨.ref C :: vs,kw⟩)) (.call (.ref f) ⟨.ref (s.heap.objs.size + 1) :: vs,kw⟩) (W.InitBack (s.heap.objs.size + 1) R)
   { s with heap:=(s.heap.push W.emptyDict).push (W.instObj C s.heap.objs.size) }) :
  codeAny (model prog w) A (.call (.ref C) ⟨vs,kw⟩) R s:=by
 obtain ⟨hh,g,d,t,os⟩:=s;exact W.make_core (W.makes_of X hm) (W.looks_findIn X hi) (fun self=>W.bind_fn X self hf) (.inl rfl) h
end
def Aq (f:Str) (v:V):List (Str × V)->List (Str × V)
  | []=>[(f,v)]
  | (g,x) :: r=>if g=f then (g,v) :: r else (g,x) :: Aq f v r
theorem AJ (f g:Str) (v:V):∀ fs:List (Str × V),(Aq f v fs).lookup g=if g=f then some v else fs.lookup g
  | []=>by
    show List.lookup g [(f,v)]=_;by_cases h:g=f
    · have hb:(g == f)=true:=beq_iff_eq.mpr h
      simp only [List.lookup,hb,if_pos h]
    · have hb:(g == f)=false:=beq_eq_false_iff_ne.mpr h
      simp only [List.lookup,hb,if_neg h]
  | (k,x) :: r=>by
    have ih:=AJ f g v r;rw [show Aq f v ((k,x) :: r)=(if k=f then (k,v) :: r else (k,x) :: Aq f v r) from rfl];by_cases hk:k=f
    · rw [if_pos hk]
      by_cases h:g=k
      · have hb:(g == k)=true:=beq_iff_eq.mpr h
        simp only [List.lookup,hb,if_pos (h.trans hk)]
      · have hb:(g == k)=false:=beq_eq_false_iff_ne.mpr h
        simp only [List.lookup,hb,if_neg (fun e:g=f=>h (e.trans hk.symm))]
    · rw [if_neg hk]
      by_cases h:g=k
      · have hb:(g == k)=true:=beq_iff_eq.mpr h
        simp only [List.lookup,hb,if_neg (fun e:g=f=>hk (h.symm.trans e))]
      · have hb:(g == k)=false:=beq_eq_false_iff_ne.mpr h
        simp only [List.lookup,hb];exact ih
theorem Em (f:Str) (v:V):∀ fs:List (Str × V),f ∈ (Aq f v fs).map (·.1)/\∀ g,g ∈ fs.map (·.1)->g ∈ (Aq f v fs).map (·.1)
  | []=>⟨by simp [Aq],fun g h=>by simp at h⟩
  | (k,x) :: r=>by
    obtain ⟨i1,i2⟩:=Em f v r;rw [show Aq f v ((k,x) :: r)=(if k=f then (k,v) :: r else (k,x) :: Aq f v r) from rfl];by_cases hk:k=f
    · rw [if_pos hk]
      subst hk;exact ⟨by simp,fun g h=>by simpa using h⟩
    · rw [if_neg hk]
      refine ⟨?_,fun g h=>?_⟩
      · rw [map_cons]
        exact mem_cons_of_mem _ i1
      · rw [map_cons] at h ⊢
        rcases mem_cons.mp h with e | e
        · exact mem_cons.mpr (.inl e)
        · exact mem_cons_of_mem _ (i2 g e)
theorem A0 (f:Str) (v:V):∀ fs:List (Str × V),(Aq f v fs).length <= fs.length + 1
  | []=>by simp [Aq]
  | (k,x) :: r=>by
    have ih:=A0 f v r;rw [show Aq f v ((k,x) :: r)=(if k=f then (k,v) :: r else (k,x) :: Aq f v r) from rfl];by_cases hk:k=f
    · rw [if_pos hk,length_cons,length_cons]; omega
    · rw [if_neg hk,length_cons,length_cons]; omega
theorem RelO.some_of {v:V} {o:Option Value} (r:RelO (some v) o):∃ u,o=some u/\RelV v u:=by
 cases o with
 | none=>exact (show False from r).elim
 | some u=>exact ⟨u,rfl,r⟩
theorem RelO.none_of {o:Option Value} (r:RelO none o):o=none:=by
 cases o with
 | none=>rfl
 | some u=>exact (show False from r).elim
theorem Ll {v:V} (r:RelV v u):W.handedIn u=true:=by
 cases v with
 | non=>cases (show u=Value.none from r); rfl
 | bl b=>cases (show u=Value.bool b from r); rfl
 | int i=>obtain ⟨t,e⟩:=(show ∃ t,u=Value.int i t from r); cases e; rfl
 | str x=>obtain ⟨t,e⟩:=(show ∃ t,u=Value.str x t from r); cases e; rfl
 | byt b=>obtain ⟨t,e⟩:=(show ∃ t,u=Value.bytes b t from r); cases e; rfl
 | flt b=>obtain ⟨t,e⟩:=(show ∃ t,u=Value.float b t from r); cases e; rfl
 | ref a=>cases (show u=Value.ref a from r); rfl
 | ty n=>cases (show u=Value.type n from r); rfl
section
variable {h':Heap} {dx:Addr} {fs fs':List (Str × V)}
theorem Bx (hok:HOk P w H h) (e:H a=some (.ins C dx fs)):∃ mA,ObjM h a dx C mA/\(∀ f,RelO (fs.lookup f) (mA f))/\PySem.Within mA (fs.map (·.1))/\fs.length <= 1000/\H dx=some (.own a):=by
 obtain ⟨d,z,ne,ob,mA,n,r,q⟩:=(show ObjOk P w H h a (.ins C dx fs) from hok a _ e);exact ⟨mA,⟨ob,n,ne⟩,r,q,z,d⟩
end
structure Cls (K:FG) (C:Addr):Prop where
 pg:W.plainGet K C Str.empty=true
 hd:W.hasDictIn K C=true
 po:W.plainOver K C=true
 sa:W.findIn K (.ref C) "__setattr__" = some (some (.builtin "object.__setattr__"))
theorem Cls.get (c:Cls K C) (f:Str):W.plainGet K C f=true:=c.pg
def NoAttr (K:FG) (C:Addr) (f:Str):Prop:=W.findIn K (.ref C) f=some none
theorem NoAttr.taker {f:Str} (n:NoAttr K C f):W.takerIn K C f=some none:=by
 unfold W.takerIn;rw [show W.findIn K (.ref C) f=some none from n];rfl
structure Ir (K:FG) (C:Addr) (m:Str) (f:Addr):Prop where
 at_:W.findIn K (.ref C) m=some (some (.ref f))
 fn:W.isFn K (.ref f)=true
 kp:W.keepIn K (.ref f)=true
section
variable {dx:Addr} {fs:List (Str × V)} {f:Str} {v:V}
theorem J5 {b:Bool} {Q:VS} (I:Inv X aa σ H s) (e:H a=some (.ins C dx fs)) (c:Cls X.K C) (n:NoAttr X.K C f) (l:fs.lookup f=some v)
  (h:∀ u s',Inv X aa σ H s'->RelV v u->Q u s'):wpAny (model X.prog X.w) A (getAttr (.ref a) f b) Q E s:=by
 obtain ⟨mA,O,r,_,_,_⟩:=Bx I.hok e;obtain ⟨u,hu,ru⟩:=RelO.some_of (v:=v) (o:=mA f) (by rw [← l]; exact r f);exact Oh I.kIn O (c.get f) c.hd n hu (Ll ru) (h u _ (I.tok _) ru)
theorem Fi {m:Str} {g:Addr} {pl:Sem Bool} {Q:Value × List Value->Shared->Prop} (I:Inv X aa σ H s) (e:H a=some (.ins C dx fs)) (c:Cls X.K C) (k:Ir X.K C m g) (l:fs.lookup m=none)
  (h:Q (.ref g,[.ref a]) s):wpAny (model X.prog X.w) A (getMethod (.ref a) m pl) Q E s:=by
 obtain ⟨mA,O,r,_,_,_⟩:=Bx I.hok e;have hn:mA m=none:=RelO.none_of (by rw [← l]; exact r m);exact M9 I.kIn O (c.get m) k.at_ k.fn hn h
theorem J6 {y:V} {Q:Unit->Shared->Prop} (I:Inv X aa σ H s) (e:H a=some (.ins C dx fs)) (c:Cls X.K C) (n:NoAttr X.K C f) (hl:fs.length < 1000) (ry:RelV y u)
  (h:∀ s',Inv X aa σ (upd H a (.ins C dx (Aq f y fs))) s'->Q () s'):wpAny (model X.prog X.w) A (setAttr (.ref a) f u) Q E s:=by
 obtain ⟨mA,O,r,wi,_,ho⟩:=Bx I.hok e;have hz:(fs.map (·.1)).length <= sizeLine:=by rw [length_map,sizeLine_eq]; omega
 refine Oi I.kIn O c.sa c.po n.taker c.hd wi hz fun h' O' sb=>h _ ?_;have hd:∃ o,h'.get? dx=some o:=let ⟨o,_,_,e',_⟩:=O'.ns; ⟨o,e'⟩
 refine I.write (x:=a) (e:=dx) (by rw [e]; exact True.intro) (.inr ho) (fun b q hb z=>(sb.2 b hb).trans z) hd ?_;refine ⟨by rw [AF O.ne]; exact ho,?_,O.ne,O'.obj,_,O'.ns,fun g=>?_,fun g hg=>?_⟩
 ·have:=A0 f y fs; omega
 ·show RelO ((Aq f y fs).lookup g) (if g=f then some u else mA g);rw [AJ];by_cases q:g=f
  ·rw [if_pos q,if_pos q]; exact ry
  ·rw [if_neg q,if_neg q]; exact r g
 ·by_cases q:g=f
  ·rw [q]; exact (Em f y fs).1
  ·refine (Em f y fs).2 g (wi g fun z=>hg ?_);show (if g=f then some u else mA g)=none;rw [if_neg q]; exact z
theorem Inv.made (I:Inv X aa σ H s):Inv X aa σ (upd (upd H s.heap.objs.size (.own (s.heap.objs.size + 1))) (s.heap.objs.size + 1) (.ins C s.heap.objs.size []))
  { s with heap:=(s.heap.push W.emptyDict).push (W.instObj C s.heap.objs.size) }:=by
 have e1:(s.heap.push W.emptyDict).get? s.heap.objs.size=some W.emptyDict:=get?_push_size s.heap rfl
 have e2:((s.heap.push W.emptyDict).push (W.instObj C s.heap.objs.size)).get? (s.heap.objs.size + 1)=some (W.instObj C s.heap.objs.size):=by
  have:=get?_push_size (s.heap.push W.emptyDict) (o:=W.instObj C s.heap.objs.size) rfl
  rwa [size_push] at this
 have e3:(s.heap.push W.emptyDict).Ns s.heap.objs.size (fun _=>none):=⟨W.emptyDict,#[],_,e1,rfl,(fun e he=>absurd he (by simp)),fun _=>rfl⟩;have I1:=I.laid (a:=s.heap.objs.size) (o:=.own (s.heap.objs.size + 1)) (h':=s.heap.push W.emptyDict) (t':=s.toks) (fun b u q=>get?_push_of_some _ q) (Nat.le_refl _) ⟨_,e1⟩;refine I1.laid (a:=s.heap.objs.size + 1) (o:=.ins C s.heap.objs.size []) (t':=s.toks) (fun b u q=>get?_push_of_some _ q) (Nat.le_of_eq (size_push _ _)) ?_;have ne:s.heap.objs.size ≠ s.heap.objs.size + 1:=Nat.ne_of_lt (Nat.lt_succ_self _);refine ⟨by rw [AF ne,upd_same],Nat.zero_le _,ne,e2,fun _=>none,(Heap.Ns1.of_empty e3).at fun o q=>get?_push_of_some _ q,fun _=>True.intro,fun y hy=>absurd rfl hy⟩
theorem Oj {prog:Program} {env:Env} {f:Str} {Q:VS} (hb:attributeBase e f env (eval e env)=eval e env)
  (h:wpAny (model prog w) A (eval e env) (fun o s₁=>wpAny (model prog w) A (getAttr o f true) Q E s₁) E s):wpAny (model prog w) A (eval (.Attribute e f pos) env) Q E s :=
 Attribute_any_ h (by rw [arm_eval_Attribute,hb])
end
def RW (K:FG) (ta:TE) (f:Str):TE:=fun σ H Q=>ta σ H fun x H1=>∃ a C dx fs v,x=.ref a/\H1 a=some (.ins C dx fs)/\Cls K C/\NoAttr K C f/\fs.lookup f=some v/\Q v H1
def SM (K:FG) (ta tv:TE) (f:Str):TS:=fun D σ H=>tv σ H fun y H1=>ta σ H1 fun x H2=>∃ a C dx fs,x=.ref a/\H2 a=some (.ins C dx fs)/\Cls K C/\NoAttr K C f/\fs.length < 1000 /\
 D.nx σ (upd H2 a (.ins C dx (Aq f y fs)))
section
variable {o value:Expr} {f:Str} {pos' tpos:Pos} {ta tv:TE}
theorem Ak (he:PE X e ta) (hb:attributeBase e f X.env (eval e X.env)=eval e X.env):PE X (.Attribute e f pos) (RW X.K ta f):=by
 intro aa s σ H Q I h;refine Oj hb (thn (he aa s σ H _ I h) fun u s1 ⟨x,H1,I1,rx,a,C,dx,fs,v,ex,ea,c,n,l,q⟩=>?_);subst ex;obtain rfl:u=Value.ref a:=rx;exact J5 I1 ea c n l fun u' s2 I2 ru=>⟨v,H1,I2,ru,q⟩
theorem Cc (ha:PE X o ta) (hv:PE X value tv) (hs:swapsWith value (some (.Attribute o f pos')) pos.line X.env=pure false):PS X (.Assign [.Attribute o f pos'] value pos) (SM X.K ta tv f):=by
 intro aa s σ H D I h;refine plainObj_wpAny_Assign_Attribute (thn (hv aa s σ H _ I h) fun u s1 ⟨y,H1,I1,ry,q⟩=>thn (ha aa s1 σ H1 _ I1 q) fun ov s2 ⟨x,H2,I2,rx,a,C,dx,fs,ex,ea,c,n,l,q2⟩=>?_) hs;subst ex;obtain rfl:ov=Value.ref a:=rx;exact J6 I2 ea c n l ry fun s3 I3=>⟨σ,_,I3,q2⟩
end
section
variable {Q:VS} {c:Value} {b:Bool}
inductive TyOf (K:FG) (H:Hp):V->Value->Prop where
 | non:TyOf K H .non (.type "NoneType")
 | bl (x:Bool):TyOf K H (.bl x) (.type "bool")
 | int (i:Int):TyOf K H (.int i) (.type "int")
 | str (x:Str):TyOf K H (.str x) (.type "str")
 | flt (x:UInt64):TyOf K H (.flt x) (.type "float")
 | lst {a:Addr} {xs:List V} (e:H a=some (.lst xs)):TyOf K H (.ref a) (.type "list")
 | frz {a:Addr} {o:Obj} {xs:List V} (e:H a=some (.frz o (.lst xs))):TyOf K H (.ref a) (.type "list")
 | tup {a:Addr} {xs:List V} (e:H a=some (.tup xs)):TyOf K H (.ref a) (.type "tuple")
 | dK {a:Addr} {kvs:LK} (e:H a=some (.dK kvs)):TyOf K H (.ref a) (.type "dict")
 | dT {a:Addr} {kvs:List (List Key × V)} (e:H a=some (.dT kvs)):TyOf K H (.ref a) (.type "dict")
 | ins {a C dx:Addr} {fs:List (Str × V)} (e:H a=some (.ins C dx fs)) (cl:Cls K C) (ha:W.findIn K (.ref C) "__class__" = some (some (.builtin "object.__class__")))
   (hn:W.specialIn K (.builtin "object.__class__") "__get__" = some (some (.builtin "getset_descriptor.__get__"))) (htk:W.takesIn K (.builtin "object.__class__")=some true)
   (hm:W.mroIn K C (.type "object")=some true):TyOf K H (.ref a) (.ref C)
theorem G3 {x:V} {t:Value} (I:Inv X aa σ H s) (rx:RelV x u) (ty:TyOf X.K H x t) (e:W.kitOne X.K t c=some b) (h:∀ tk,Q (.bool b) { s with toks:=tk }) :
  wpAny (model X.prog X.w) A (call (.builtin "isinstance") [u,c]) Q E s:=by
 cases ty with
 | non=>cases (show u=Value.none from rx); exact W.kia_one W.kitx_none I.kIn True.intro e (fun z=>nomatch z) h
 | bl y=>cases (show u=Value.bool y from rx); exact W.kia_one W.kitx_bool I.kIn True.intro e (fun z=>nomatch z) h
 | int i=>obtain ⟨t,q⟩:=(show ∃ t,u=Value.int i t from rx); cases q; exact W.kia_one W.kitx_int I.kIn True.intro e (fun z=>nomatch z) h
 | str y=>obtain ⟨t,q⟩:=(show ∃ t,u=Value.str y t from rx); cases q; exact W.kia_one W.kitx_str I.kIn True.intro e (fun z=>nomatch z) h
 | flt y=>obtain ⟨t,q⟩:=(show ∃ t,u=Value.float y t from rx); cases q; exact W.kia_one W.kitx_float I.kIn True.intro e (fun z=>nomatch z) h
 | @lst a xs ea =>
  cases (show u=Value.ref a from rx);obtain ⟨_,_,n,_,h1⟩:=(show ObjOk X.prog X.w H s.heap a (.lst xs) from I.hok a _ ea);exact W.kia_one W.kitx_list I.kIn ⟨_,h1,rfl⟩ e (fun z=>nomatch z) h
 | @frz a ob xs ea =>
  cases (show u=Value.ref a from rx);obtain ⟨_,_,_,n,_,h1⟩:=(show ObjOk X.prog X.w H s.heap a (.frz ob (.lst xs)) from I.hok a _ ea);exact W.kia_one W.kitx_list I.kIn ⟨_,h1,rfl⟩ e (fun z=>nomatch z) h
 | @tup a xs ea =>
  cases (show u=Value.ref a from rx);obtain ⟨_,_,_,p⟩:=(show ObjOk X.prog X.w H s.heap a (.tup xs) from I.hok a _ ea);obtain ⟨o,h1,h2,_⟩:=p;exact W.kia_one W.kitx_tuple I.kIn ⟨o,h1,h2⟩ e (fun z=>nomatch z) h
 | @dK a kvs ea =>
  cases (show u=Value.ref a from rx);obtain ⟨_,_,vs,_,p⟩:=(show ObjOk X.prog X.w H s.heap a (.dK kvs) from I.hok a _ ea);obtain ⟨o,es,ep,h1,h2,_⟩:=p;exact W.kia_one W.kitx_dict I.kIn ⟨o,h1,h2.1⟩ e (fun z=>nomatch z) h
 | @dT a kvs ea =>
  cases (show u=Value.ref a from rx);obtain ⟨_,_,xs,_,o,es,ep,h1,h2,_⟩:=(show ObjOk X.prog X.w H s.heap a (.dT kvs) from I.hok a _ ea);exact W.kia_one W.kitx_dict I.kIn ⟨o,h1,h2.1⟩ e (fun z=>nomatch z) h
 | @ins a C dx fs ea cl ha hn htk hm =>
  cases (show u=Value.ref a from rx);obtain ⟨mA,O,_⟩:=Bx I.hok ea;obtain ⟨od,J,_⟩:=O.look;exact W.kia_one (W.kitx_own (cl.get _) cl.hd ha hn htk hm) I.kIn J e (fun z=>nomatch z) h
end
end L2
namespace L2
open PySem PySem.Spec PyProof.Rows
structure Room (k:Nat) (A:Around):Prop where
 hd:A.handled=none
 dp:A.depth + 3 * k + 5 < recursionLimit
 un:A.units + 16 * k + 200 < cLine
theorem Room.mono {j k:Nat} (r:Room k A) (h:j <= k):Room j A:=⟨r.hd,by have:=r.dp; omega,by have:=r.un; omega⟩
theorem Room.deeper {k:Nat} {A:Around} (r:Room (k + 1) A) (env:Env):Room k (A.deeper env) :=
 ⟨r.hd,by have:=r.dp; show A.depth + 1 + 3 * k + 5 < _; omega,by have:=r.un; show A.units + 3 + 16 * k + 200 < _; omega⟩
theorem Room.in1 {k:Nat} {A:Around} (r:Room (k + 1) A):Room k A.in1 :=
 ⟨r.hd,by have:=r.dp; show A.depth + 3 * k + 5 < _; omega,by have:=r.un; show A.units + 1 + 16 * k + 200 < _; omega⟩
theorem J7 {kw:List (Str × Value)}:(A.under (.builtin "type.__call__" ⟨.ref C :: us,kw⟩)).depth=A.depth + 1:=by
 first | rfl | simp [Around.under,Code.weight,Code.isCreation,Code.isGuard,Code.isCaller,Code.frames,Code.isFrame,guardIds]
theorem J8 {kw:List (Str × Value)}:(A.under (.builtin "type.__call__" ⟨.ref C :: us,kw⟩)).units=A.units + 1:=by
 first | rfl | simp [Around.under,Code.cUnits,Code.frames,Code.isFrame]
theorem Room.make {k:Nat} (r:Room (k + 1) A) (C:Addr) (us:List Value) (kw:List (Str × Value)):Room k (A.under (.builtin "type.__call__" ⟨.ref C :: us,kw⟩)) :=
 ⟨r.hd,by have:=r.dp; rw [J7]; omega,by have:=r.un; rw [J8]; omega⟩
theorem Room.depth {k:Nat} {A:Around} (r:Room k A):A.depth < recursionLimit:=by have:=r.dp; omega
theorem Room.units {k:Nat} {A:Around} (r:Room k A):A.units + 64 < cLine:=by have:=r.un; omega
theorem Room.units0 {k:Nat} (r:Room k A):A.units < cLine:=by have:=r.un; omega
def En:TA:=fun _ H Q=>Q [] H
def A2 (ta:TE) (tr:TA):TA:=fun σ H Q=>ta σ H fun x H1=>tr σ H1 fun xs H2=>Q (x :: xs) H2
section
variable {es:List Expr} {t:TA}
theorem AB:PA X [] En:=fun _ _ _ _ H Q I h=>Calls.spliced_nil ⟨[],H,I,.nil,h⟩
theorem AA (ha:PE X e te) (hr:PA X es t) (hs:starEach (e :: es) X.env=(false,eval e X.env) :: starEach es X.env:=by rfl):PA X (e :: es) (A2 te t):=by
 intro pos aa s σ H Q I h;rw [hs];show wpAny _ _ (spliced ((false,eval e X.env) :: backTo pos (starEach es X.env))) _ _ s;refine Calls.spliced_cons (thn (ha aa s σ H _ I h) fun u s1 ⟨x,H1,I1,r1,q1⟩=>?_);exact thn (hr pos aa s1 σ H1 _ I1 q1) fun us s2 ⟨xs,H2,I2,r2,q2⟩=>⟨x :: xs,H2,I2,.cons r1 r2,q2⟩
def SN (t:TA):TE:=fun σ H Q=>t σ H fun xs H1=>xs.length <= sizeLine/\∀ p,H1 p=none->Q (.ref p) (upd H1 p (.tup xs))
def QH (t:TA):TE:=fun σ H Q=>t σ H fun xs H1=>xs.length <= sizeLine/\∀ p,H1 p=none->Q (.ref p) (upd H1 p (.lst xs))
theorem BD {x1} (h:PA X es t):PE X (.Tuple es x1 pos) (SN t):=by
 intro aa s σ H Q I hq;refine wpAny_Tuple_spliced (thn (h pos aa s σ H _ I hq) fun us s1 ⟨xs,H1,I1,r,z,q⟩=>⟨by rw [← r.length]; exact z,?_⟩);have hf:H1 s1.heap.objs.size=none:=I1.hok.fresh (Nat.le_refl _);refine ⟨.ref s1.heap.objs.size,upd H1 s1.heap.objs.size (.tup xs),I1.laid (t':=s1.toks) (fun b u e=>get?_push_of_some _ e) (Nat.le_refl _) ?_,rfl,q _ hf⟩;exact ⟨z,us,r,⟨_,get?_push_size _ rfl,rfl,_,rfl⟩⟩
theorem BX (h:PA X es t):PE X (.List es pos) (QH t):=by
 intro aa s σ H Q I hq;refine wpAny_List_spliced (thn (h pos aa s σ H _ I hq) fun us s1 ⟨xs,H1,I1,r,z,q⟩=>⟨by rw [← r.length]; exact z,?_⟩);have hf:H1 s1.heap.objs.size=none:=I1.hok.fresh (Nat.le_refl _);refine ⟨.ref s1.heap.objs.size,upd H1 s1.heap.objs.size (.lst xs),I1.laid (t':=s1.toks) (fun b u e=>get?_push_of_some _ e) (Nat.le_refl _) ?_,rfl,q _ hf⟩;exact ⟨z,us,0,r,get?_push_size _ rfl⟩
end
abbrev Sp:=List V->Hp->VK->XK->Prop
abbrev CXT:=List Env->Hp->Shared->XK->Value->Shared->Prop
structure Env0 (P:Program) (w:World) (K:FG) (mg:SV) (base:Heap) (A:Around) (outer:List Env) (s:Shared) (H:Hp):Prop where
 frames:A.frames=some outer
 mod:Mod K mg base
 bs:∀ b o,base.get? b=some o->s.heap.get? b=some o/\H b=none
 bsz:base.objs.size <= s.heap.objs.size
 funs:s.heap.FunFrames base outer
 frf:∀ b ∈ frs outer,H b=none
 hok:HOk P w H s.heap
 bare:AllBare s.gens
def CE (outer:List Env) (P:Program) (w:World) (H:Hp) (s:Shared) (Q:VK) (u:Value) (s':Shared):Prop :=
 ∃ v H',s'.os=s.os/\AllBare s'.gens/\Un (frs outer) [] H H' s.heap s'.heap/\HOk P w H' s'.heap/\RelV v u/\Q v H'
def CR (CX:CXT) (outer:List Env) (P:Program) (w:World) (H:Hp) (s:Shared) (Q:VK) (E:XK) (r:Result) (s':Shared):Prop :=
 match r with
 | .ok (.ret u)=>CE outer P w H s Q u s'
 | .ok _=>False
 | .error e=>CX outer H s E e s'
structure Ae (P:Program) (w:World) (K:FG) (mg:SV) (base:Heap) (CX:CXT) (k:Nat) (f:Addr) (fd:FuncData) (ps:List Str) (sp:Sp):Prop where
 len:∀ vs H Q E,sp vs H Q E->vs.length=ps.length
 run:∀ (A:Around) (outer:List Env) (s:Shared) (H:Hp) (args:Args) (us:List Value) (vs:List V) (Q:VK) (E:XK),Room k A->Env0 P w K mg base A outer s H->BindsTo s fd args (ps.zip us)->Vals vs us->sp vs H Q E ->
  codeAny (model P w) A (.call (.ref f) args) (CR CX outer P w H s Q E) s
theorem Env0.make {outer:List Env} (e:Env0 P w K mg base A outer s H) (C:Addr) (us:List Value) (kw:List (Str × Value)) :
  Env0 P w K mg base (A.under (.builtin "type.__call__" ⟨.ref C :: us,kw⟩)) outer s H:=⟨by first | exact e.frames | (simpa [Around.under,Code.envs,Code.isFrame,pushEnvs] using e.frames),e.mod,e.bs,e.bsz,e.funs,e.frf,e.hok,e.bare⟩
theorem Env0.in1 {P:Program} {w:World} {K:FG} {mg:SV} {base:Heap} {A:Around} {outer:List Env} {s:Shared} {H:Hp} (e:Env0 P w K mg base A outer s H) :
  Env0 P w K mg base A.in1 outer s H:=⟨e.frames,e.mod,e.bs,e.bsz,e.funs,e.frf,e.hok,e.bare⟩
section
variable {s':Shared}
theorem Inv.env0 (I:Inv X aa σ H s):Env0 X.prog X.w X.K X.mg X.base X.A X.stack s H :=
 ⟨I.ok.frames,I.ok.mod,I.bs,Nat.le_trans I.ok.bsz I.sz,I.stack,I.stkFree,I.hok,I.bare⟩
theorem Inv.after {Q:VK} (I:Inv X aa σ H s) (h:CE X.stack X.prog X.w H s Q u s'):EP X aa σ Q u s':=by
 obtain ⟨v,H',os,bare,un,hok,r,q⟩:=h;obtain ⟨hh,g,d,t,os'⟩:=s';obtain rfl:os'=s.os:=os;exact ⟨v,H',I.call (h':=hh) (g':=g) (d':=d) (t':=t) (ch:=[]) un hok bare (fun b z=>absurd z (by simp)),r,q⟩
end
def RX (sp:Sp) (dvs:List V) (E:XK) (t:TA):TE:=fun σ H Q=>t σ H fun vs H1=>sp (vs++dvs) H1 Q E
def Pt (C:Addr) (m:Str) (sp:Sp) (dvs:List V) (E:XK) (ta:TE) (t:TA):TE:=fun σ H Q=>ta σ H fun x H1=>∃ a dx fs,x=.ref a/\H1 a=some (.ins C dx fs)/\fs.lookup m=none /\
 t σ H1 fun vs H2=>sp (x :: (vs++dvs)) H2 Q E
def RY (C:Addr) (sp:Sp) (dvs:List V) (E:XK) (t:TA):TE:=fun σ H Q=>t σ H fun vs H1=>∀ x dx,H1 x=none->H1 dx=none->dx ≠ x ->
 sp (.ref x :: (vs++dvs)) (upd (upd H1 dx (.own x)) x (.ins C dx [])) (fun v H2=>v=.non/\Q (.ref x) H2) E
def Binds (K:FG) (fd:FuncData) (ps:List Str) (ds:List Value):Prop :=
 ∀ (s:Shared) (us:List Value),K.In s.heap->(us++ds).length=ps.length->BindsTo s fd ⟨us,[]⟩ (ps.zip (us++ds))
theorem Binds.all {fd:FuncData} {ps:List Str} (h:∀ us:List Value,us.length=ps.length->bindArgs fd ⟨us,[]⟩=pure (ps.zip us)):Binds K fd ps []:=fun s us _ hl=>by
 rw [append_nil] at hl ⊢;exact .of_eq (h us hl)
def Di (CX:CXT) (X:Cx) (E:XK):Prop:=∀ (aa:LO) (σ:St) (H:Hp) (s:Shared) (e:Value) (s':Shared),Inv X aa σ H s->CX X.stack H s E e s'->X.xe e s'
section
variable {CX:CXT} {k:Nat} {fd:FuncData} {ps:List Str} {sp:Sp} {dvs:List V} {ds:List Value} {E:XK} {m:Str} {p apos:Pos} {o:Expr} {es:List Expr} {ta:TE} {t:TA}
theorem J9 {Q:VK} {vs:List V} (F:Ae X.prog X.w X.K X.mg X.base CX k f fd ps sp) (hr:Room k X.A) (hb:Binds X.K fd ps ds) (hd:Vals dvs ds) (hx:Di CX X E)
  (I:Inv X aa σ H s) (r:Vals vs us) (h:sp (vs++dvs) H Q E):wpAny (model X.prog X.w) X.A (call (.ref f) us) (EP X aa σ Q) X.xe s:=by
 have r2:Vals (vs++dvs) (us++ds):=r.append hd;have hl:(us++ds).length=ps.length:=by rw [← r2.length]; exact F.len _ _ _ _ h
 refine wpAny_call (codeAny_mono (F.run X.A X.stack s H ⟨us,[]⟩ (us++ds) (vs++dvs) Q E hr I.env0 (hb s us I.kIn hl) r2 h) fun r s' hq=>?_);cases r with
 | error e=>exact hx aa σ H s e s' I hq
 | ok fl =>
  cases fl with
  | ret u=>exact I.after hq
  | next=>exact False.elim hq
  | brk=>exact False.elim hq
  | cont=>exact False.elim hq
theorem AM (F:Ae X.prog X.w X.K X.mg X.base CX k f fd ps sp) (hr:Room k X.A) (hg:Gl X x) (hm:X.mg x=some (.ref f)) (hk:W.keepIn X.K (.ref f)=true) (hb:Binds X.K fd ps ds) (hd:Vals dvs ds) (hx:Di CX X E)
  (ha:PA X (e :: es) t) (hdb:(x == ("__debug__" : Str))=false:=by decide) (he:starEach (e :: es) X.env=(false,eval e X.env) :: starEach es X.env:=by rfl) (hpl:(backTo pos (starEach es X.env)).any (·.1)=false:=by rfl) :
  PE X (.Call (.Name x p) (e :: es) [] pos) (RX sp dvs E t):=by
 intro aa s σ H Q I h;refine wpAny_Call_Name_kw (FQ I hg hm ?_ hdb);refine W.callWith_K (h₀:=X.base) I.ok.mod.kin hk (thn (ha pos aa s σ H _ I h) fun us s1 ⟨vs,H1,I1,r,q⟩=>⟨I1.kIn,?_⟩) he hpl;exact J9 F hr hb hd hx I1 r q
theorem By {pl:Sem Bool} (he:PE X o ta) (c:Cls X.K C) (hm:Ir X.K C m f) (F:Ae X.prog X.w X.K X.mg X.base CX k f fd ps sp) (hr:Room k X.A) (hb:Binds X.K fd ps ds) (hd:Vals dvs ds) (hx:Di CX X E) (ha:PA X (e :: es) t)
  (hst:starEach (e :: es) X.env=(false,eval e X.env) :: starEach es X.env:=by rfl) (hpl:(backTo pos (starEach es X.env)).any (·.1)=false:=by rfl)
  (ht:eval (.Call (.Attribute o m apos) (e :: es) [] pos) X.env=(do
   let ov ← eval o X.env
   standAt apos.atName
   let (f,first) ← holding [ov] (getMethod ov m pl)
   callWith pos f first (backTo pos (starEach (e :: es) X.env)) (backToKw pos (keywordEach [] X.env))):=by rfl) :
  PE X (.Call (.Attribute o m apos) (e :: es) [] pos) (Pt C m sp dvs E ta t):=by
 intro aa s σ H Q I h;refine W.methodCall_KW (pl:=pl) (thn (he aa s σ H _ I h) fun u s1 ⟨x,H1,I1,rx,a,dx,fs,ex,ea,l,q⟩=>?_) ht;subst ex;obtain rfl:u=Value.ref a:=rx;refine Fi I1 ea c hm l ?_;refine W.callWith_K (first:=[.ref a]) (h₀:=X.base) I.ok.mod.kin hm.kp (thn (ha pos aa s1 σ H1 _ I1 q) fun us s2 ⟨vs,H2,I2,r,q2⟩=>⟨I2.kIn,?_⟩) hst hpl;exact J9 (us:=.ref a :: us) (vs:=.ref a :: vs) F hr hb hd hx I2 (.cons rfl r) q2
theorem BG {pl:Sem Bool} (he:PE X o ta) (c:Cls X.K C) (hm:Ir X.K C m f) (F:Ae X.prog X.w X.K X.mg X.base CX k f fd ps sp) (hr:Room k X.A) (hb:Binds X.K fd ps ds) (hd:Vals dvs ds) (hx:Di CX X E)
  (ht:eval (.Call (.Attribute o m apos) [] [] pos) X.env=(do
   let ov ← eval o X.env
   standAt apos.atName
   let (f,first) ← holding [ov] (getMethod ov m pl)
   callWith pos f first (backTo pos (starEach [] X.env)) (backToKw pos (keywordEach [] X.env))):=by rfl) :
  PE X (.Call (.Attribute o m apos) [] [] pos) (Pt C m sp dvs E ta En):=by
 intro aa s σ H Q I h;refine W.methodCall_KW (pl:=pl) (thn (he aa s σ H _ I h) fun u s1 ⟨x,H1,I1,rx,a,dx,fs,ex,ea,l,q⟩=>?_) ht;subst ex;obtain rfl:u=Value.ref a:=rx;refine Fi I1 ea c hm l ?_;exact W.callWith_K0 (first:=[.ref a]) I1.kIn hm.kp (J9 (us:=[.ref a]) (vs:=[.ref a]) F hr hb hd hx I1 (.cons rfl .nil) q)
structure Mk (K:FG) (C f:Addr):Prop where
 makes:W.makesIn K C=true
 init:W.findIn K (.ref C) "__init__" = some (some (.ref f))
 fn:W.isFn K (.ref f)=true
 kp:W.keepIn K (.ref C)=true
theorem NA {Q:VK} {vs:List V} (M:Mk X.K C f) (F:Ae X.prog X.w X.K X.mg X.base CX k f fd ps sp) (hr:Room (k + 1) X.A) (hb:Binds X.K fd ps ds) (hd:Vals dvs ds)
  (hx:Di CX X E) (I:Inv X aa σ H s) (r:Vals vs us)
  (h:∀ x dx,H x=none->H dx=none->dx ≠ x->sp (.ref x :: (vs++dvs)) (upd (upd H dx (.own x)) x (.ins C dx [])) (fun v H2=>v=.non/\Q (.ref x) H2) E) :
  wpAny (model X.prog X.w) X.A (call (.ref C) us) (EP X aa σ Q) X.xe s:=by
 have hq:=h (s.heap.objs.size + 1) s.heap.objs.size (I.hok.fresh (Nat.le_succ _)) (I.hok.fresh (Nat.le_refl _)) (Nat.ne_of_lt (Nat.lt_succ_self _));have I2:=Inv.made (C:=C) I;have r2:Vals (V.ref (s.heap.objs.size + 1) :: (vs++dvs)) (Value.ref (s.heap.objs.size + 1) :: (us++ds)):=.cons rfl (r.append hd)
 have hl:(Value.ref (s.heap.objs.size + 1) :: us++ds).length=ps.length:=by
  have e:=r2.length;rw [F.len _ _ _ _ hq] at e;exact e.symm
 refine wpAny_call (Iq (f:=f) I.kIn M.makes M.init (beq_iff_eq.mp M.fn) (codeAny_mono (F.run _ X.stack _ _ ⟨Value.ref (s.heap.objs.size + 1) :: us,[]⟩ (Value.ref (s.heap.objs.size + 1) :: (us++ds)) _ _ E (hr.make C us [])
  (I2.env0.make C us []) (hb _ (Value.ref (s.heap.objs.size + 1) :: us) I2.kIn hl) r2 hq) fun r s' hq'=>?_))
 cases r with
 | error e=>exact hx aa σ _ _ e s' I2 hq'
 | ok fl =>
  cases fl with
  | ret u =>
   obtain ⟨v,H',I3,rv,ev,q3⟩:=I2.after hq';subst ev;exact ⟨rv,⟨V.ref (s.heap.objs.size + 1),H',I3,rfl,q3⟩⟩
  | next=>exact False.elim hq'
  | brk=>exact False.elim hq'
  | cont=>exact False.elim hq'
theorem FR (M:Mk X.K C f) (F:Ae X.prog X.w X.K X.mg X.base CX k f fd ps sp) (hr:Room (k + 1) X.A) (hg:Gl X x) (hm:X.mg x=some (.ref C)) (hb:Binds X.K fd ps ds) (hd:Vals dvs ds) (hx:Di CX X E)
  (ha:PA X (e :: es) t) (hdb:(x == ("__debug__" : Str))=false:=by decide) (he:starEach (e :: es) X.env=(false,eval e X.env) :: starEach es X.env:=by rfl) (hpl:(backTo pos (starEach es X.env)).any (·.1)=false:=by rfl) :
  PE X (.Call (.Name x p) (e :: es) [] pos) (RY C sp dvs E t):=by
 intro aa s σ H Q I h;refine wpAny_Call_Name_kw (FQ I hg hm ?_ hdb);refine W.callWith_K (h₀:=X.base) I.ok.mod.kin M.kp (thn (ha pos aa s σ H _ I h) fun us s1 ⟨vs,H1,I1,r,q⟩=>⟨I1.kIn,?_⟩) he hpl;exact NA M F hr hb hd hx I1 r q
end
def PK (X:Cx) (kws:List Keyword) (t:TA):Prop :=
 ∀ (pos:Pos) (aa:LO) (s:Shared) (σ:St) (H:Hp) (Q:List V->Hp->Prop),Inv X aa σ H s->t σ H Q->wpAny (model X.prog X.w) X.A (evalAll ((backToKw pos (keywordEach kws X.env)).map (·.2))) (AP X aa σ Q) X.xe s
section
variable {CX:CXT} {k:Nat} {fd:FuncData} {ps ks:List Str} {sp:Sp} {E:XK} {m:Str} {p apos kpos:Pos} {o:Expr} {es:List Expr} {kws:List Keyword} {ta:TE} {t tk:TA} {nm:Option Str}
theorem Fj:PK X [] En:=fun _ _ _ _ H Q I h=>wpAny_evalAll_nil ⟨[],H,I,.nil,h⟩
theorem DR (ha:PE X e te) (hr:PK X kws t):PK X (⟨nm,e,kpos⟩ :: kws) (A2 te t):=by
 intro pos aa s σ H Q I h;show wpAny _ _ (evalAll ((do let v ← eval e X.env; standAt pos; pure v) :: (backToKw pos (keywordEach kws X.env)).map (·.2))) _ _ s;refine wpAny_evalAll_cons (wpAny_bind (thn (ha aa s σ H _ I h) fun u s1 ⟨x,H1,I1,r1,q1⟩=>wpAny_bind (wpAny_standAt (wpAny_pure ?_))));exact thn (hr pos aa s1 σ H1 _ I1 q1) fun us s2 ⟨xs,H2,I2,r2,q2⟩=>⟨x :: xs,H2,I2,.cons r1 r2,q2⟩
structure Fk (K:FG) (fd:FuncData) (ps ks:List Str) (g:List Value->List Value->List Value) (gV:List V->List V->List V):Prop where
 to:∀ (s:Shared) (us ws:List Value),K.In s.heap->(g us ws).length=ps.length->BindsTo s fd ⟨us,ks.zip ws⟩ (ps.zip (g us ws))
 rel:∀ {vs:List V} {us:List Value} {zs:List V} {ws:List Value},Vals vs us->Vals zs ws->Vals (gV vs zs) (g us ws)
variable {g:List Value->List Value->List Value} {gV:List V->List V->List V}
end
structure AN (N P:List Str) (sc:Scope):Prop where
 kind:sc.kind=.function
 co:sc.isCoroutine=false
 gen:sc.isGenerator=false
 nd:N.Nodup
 pre:N.take P.length=P
 par:∀ x ∈ P,sc.names.lookup x=some .local\/sc.names.lookup x=some .cell
 nofree:∀ y ∈ sc.names,y.2 ≠ .free
theorem fsc {N P:List Str} {sc:Scope} (a:sc.kind=.function:=by exact rfl) (b:sc.isCoroutine=false:=by exact rfl) (c:sc.isGenerator=false:=by exact rfl) (d:N.Nodup:=by decide +kernel) (e:N.take P.length=P:=by exact rfl) (f:∀ x ∈ P,sc.names.lookup x=some .local\/sc.names.lookup x=some .cell:=by decide +kernel) (g:∀ y ∈ sc.names,y.2 ≠ .free:=by decide +kernel):AN N P sc:=⟨a,b,c,d,e,f,g⟩
theorem G4 {kindOf:Str->Option NameKind} {x:Str}:∀ {binds:List (Str × Value)} {m:SV},(∀ v,(x,v) ∉ binds)->bindL kindOf binds m x=m x
  | [],_,_=>rfl
  | (n,v) :: r,m,h=>by
    unfold bindL;rw [G4 fun w hw=>h w (mem_cons_of_mem _ hw)];split
    · have:x ≠ n:=by rintro rfl; exact h v mem_cons_self
      simp [this]
    · rfl
theorem G5 {kindOf:Str->Option NameKind} {x:Str}:∀ {binds:List (Str × Value)} {m:SV},(∀ v,(x,v) ∉ binds)->bindC kindOf binds m x=m x
  | [],_,_=>rfl
  | (n,v) :: r,m,h=>by
    unfold bindC;rw [G5 fun w hw=>h w (mem_cons_of_mem _ hw)];split
    · rfl
    · have:x ≠ n:=by rintro rfl; exact h v mem_cons_self
      simp [this]
theorem G6 {kindOf:Str->Option NameKind} {x:Str} {v:Value}:∀ {P:List Str} {vs:List Value} {i:Nat} {m:SV},P.Nodup->P[i]?=some x->vs[i]?=some v->kindOf x=some .local ->
  bindL kindOf (P.zip vs) m x=some v
 | [],_,_,_,_,h,_,_=>by simp at h
 | _ :: _,[],_,_,_,_,h,_=>by simp at h
 | p :: P,w :: vs,0,m,nd,h1,h2,hk=>by
  simp at h1 h2; subst h1; subst h2;show bindL kindOf ((p,w) :: P.zip vs) m p=_;unfold bindL;rw [G4 fun v hv=>(nodup_cons.mp nd).1 (of_mem_zip hv).1,if_pos hk];simp
 | p :: P,w :: vs,i + 1,m,nd,h1,h2,hk=>by
  show bindL kindOf ((p,w) :: P.zip vs) m x=_;unfold bindL;exact G6 (i:=i) (nodup_cons.mp nd).2 (by simpa using h1) (by simpa using h2) hk
theorem G7 {kindOf:Str->Option NameKind} {x:Str} {v:Value}:∀ {P:List Str} {vs:List Value} {i:Nat} {m:SV},P.Nodup->P[i]?=some x->vs[i]?=some v->kindOf x ≠ some .local ->
  bindC kindOf (P.zip vs) m x=some v
 | [],_,_,_,_,h,_,_=>by simp at h
 | _ :: _,[],_,_,_,_,h,_=>by simp at h
 | p :: P,w :: vs,0,m,nd,h1,h2,hk=>by
  simp at h1 h2; subst h1; subst h2;show bindC kindOf ((p,w) :: P.zip vs) m p=_;unfold bindC;rw [G5 fun v hv=>(nodup_cons.mp nd).1 (of_mem_zip hv).1,if_neg hk];simp
 | p :: P,w :: vs,i + 1,m,nd,h1,h2,hk=>by
  show bindC kindOf ((p,w) :: P.zip vs) m x=_;unfold bindC;exact G7 (i:=i) (nodup_cons.mp nd).2 (by simpa using h1) (by simpa using h2) hk
def EE (N:List Str) (vs:List V):St:=vs.map some++replicate (N.length - vs.length) none
def Iu (CX:CXT) (P:Program) (w:World) (K:FG) (mg:SV) (base:Heap) (N:List Str) (qual:Str) (scope:Scope) (f:Addr) (cd:Value) (A:Around) (outer:List Env) (s:Shared) (H:Hp) (E:XK):Cx where
 prog:=P
 w:=w
 K:=K
 mg:=mg
 base:=base
 A:=A.deeper (envOfC qual scope s.heap.objs.size f cd)
 N:=N
 s₀:=s
 H₀:=H
 env:=envOfC qual scope s.heap.objs.size f cd
 outer:=outer
 stack:=envOfC qual scope s.heap.objs.size f cd :: outer
 ex:=[]
 calm:=true
 fn:=fun _=>true
 pn:=[]
 xe:=fun e s'=>wpAny (model P w) (A.deeper (envOfC qual scope s.heap.objs.size f cd)) (leaving (envOfC qual scope s.heap.objs.size f cd) e) (fun _ s''=>CX outer H s E e s'') (fun e' s''=>CX outer H s E e' s'') s'
theorem Ix {sc:Scope} {n:Nat} (h:sc.names.lookup x=some .cell):∃ c,(cellsFrom n sc.names []).lookup x=some c:=by
 have q:=W.cellsFrom_some sc.names n [] (.inl h);exact Option.isSome_iff_exists.mp q
theorem Lm {CX:CXT} {ps:List Str} {qual:Str} {scope:Scope} {cd:Value} {outer:List Env} {s1:Shared} {E:XK} {vs:List V}
  (S:AN N ps scope) (hd:A.handled=none) (e0:Env0 P w K mg base A outer s H) (hl:vs.length=ps.length) (r:Vals vs us)
  (x:InCallC s s.heap.objs.size (bindL (envOfC qual scope s.heap.objs.size f cd).kindOf (ps.zip us) fun _=>none) (cellsFrom (s.heap.objs.size + 1) scope.names []) (bindC (envOfC qual scope s.heap.objs.size f cd).kindOf (ps.zip us) fun _=>none) s1) :
  Inv (Iu CX P w K mg base N qual scope f cd A outer s H E) [] (EE N vs) H s1:=by
 have hpl:ps.length <= N.length:=by have:=congrArg List.length S.pre; rw [length_take] at this; omega
 obtain ⟨h1,tk,rfl,hk⟩:=x.done;have noA:∀ b:Addr,b ∉ (Iu CX P w K mg base N qual scope f cd A outer s H E).ex:=fun b z=>absurd (show b ∈ ([]:List Addr) from z) (by simp)
 refine ⟨⟨e0.mod,S.kind,rfl,rfl,Nat.le_refl _,fun y z c h1 h2=>?_,fun y hy=>?_,fun y c _ h=>?_,fun _=>hd,Around.frames_deeper e0.frames,.inr ⟨rfl,rfl⟩,fun b z=>absurd z (noA b),e0.bs,e0.bsz,fun b _ _=>noA b,fun b z=>absurd z (noA b),e0.funs,e0.frf⟩,
  rfl,e0.bare,Un.kept hk,⟨_,x.toInCall.ns,fun i y v h1 h2 h3=>?_⟩,fun y c h=>⟨_,x.cell y c h⟩,e0.hok.fresh (Nat.le_refl _),fun y c h=>?_,fun p hp=>absurd (show p ∈ ([]:LO) from hp) (by simp),e0.hok.kept hk,?_⟩
 ·exact name_of_addr x.apart (PySem.mem_of_lookup h1) (PySem.mem_of_lookup h2)
 ·have hy:scope.names.lookup y=some .cell\/scope.names.lookup y=some .free:=hy;rcases hy with hy | hy
  ·exact Ix hy
  ·exact absurd rfl (S.nofree _ (PySem.mem_of_lookup hy))
 ·exact Nat.le_of_lt (x.above y c (PySem.mem_of_lookup h))
 ·have hi:i < vs.length:=by
   unfold EE at h2;by_cases hi:i < vs.length
   ·exact hi
   ·rw [List.getElem?_append_right (by simpa using hi)] at h2;rw [List.getElem?_replicate] at h2;split at h2 <;> cases h2
  have ha:vs[i]?=some v:=by
   unfold EE at h2;rw [List.getElem?_append_left (by simpa using hi),getElem?_map] at h2;cases e:vs[i]? with
   | none=>rw [e] at h2; cases h2
   | some a=>rw [e] at h2; cases h2; rfl
  obtain ⟨u,hu,rv⟩:=r.get ha
  have hp:ps[i]?=some y:=by
   rw [← S.pre,List.getElem?_take_of_lt (by omega)]; exact h1
  have ndP:ps.Nodup:=by rw [← S.pre]; exact S.nd.sublist (List.take_sublist _ _)
  refine ⟨u,rv,?_⟩;rcases S.par y (mem_of_getElem? hp) with k | k
  ·exact .inl ⟨k,G6 ndP hp hu k⟩
  ·obtain ⟨c,e⟩:=Ix (n:=s.heap.objs.size + 1) k;refine .inr ⟨.inl k,c,e,?_⟩;have q:=x.cell y c e;rw [G7 ndP hp hu (by show scope.names.lookup y ≠ _; rw [k]; decide)] at q;exact q
 ·exact e0.hok.fresh (Nat.le_of_lt (x.above y c (PySem.mem_of_lookup h)))
 ·unfold EE;show _=N.length;rw [length_append,length_map,List.length_replicate];omega
theorem Pu {CX:CXT} {k:Nat} {name qual:Str} {params:Arguments} {body:List Stmt} {scope:Scope} {dV kV doc pm ad ct oc:Value} {an od:Option Addr}
  {osl:Array (Option Value)} {N ps:List Str} {sp:Sp} (lk:K.lookup f=some ⟨oc,od,.func (W.fnOf name qual params body scope dV kV doc pm an ad ct),osl⟩) (hcd:W.codeIn K ad qual=true) (S:AN N ps scope)
  (len:∀ vs H Q E,sp vs H Q E->vs.length=ps.length)
  (bt:∀ (A:Around) (outer:List Env) (s:Shared) (H:Hp) (vs:List V) (Q:VK) (E:XK),Room k (A.deeper (envOfC qual scope s.heap.objs.size f ad))->sp vs H Q E ->
   ∃ t,PSs (Iu CX P w K mg base N qual scope f ad A outer s H E) body t/\t { nx:=fun _ H'=>Q .non H',rt:=Q } (EE N vs) H) :
  Ae P w K mg base CX (k + 1) f (W.fnOf name qual params body scope dV kV doc pm an ad ct) ps sp:=by
 refine ⟨len,fun A outer s H args us vs Q E hr e0 hb r hsp=>?_⟩;have hl:=len _ _ _ _ hsp;have KX:K.In s.heap:=e0.mod.kin.keeps fun b o e=>(e0.bs b o e).1;have lim:s.heap.NoLimit:=e0.mod.nolimit.keeps fun b o e=>(e0.bs b o e).1
 have hkind:∀ y ∈ ps.zip us,scope.names.lookup y.1=some .local\/(scope.names.lookup y.1=some .cell/\((cellsFrom (s.heap.objs.size + 1) scope.names []).lookup y.1).isSome=true):=fun ⟨n,v⟩ hy=>by
  rcases S.par n (of_mem_zip hy).1 with q | q
  ·exact .inl q
  ·exact .inr ⟨q,W.cellsFrom_some _ _ _ (.inl q)⟩
 refine codeAny_call_function hr.depth (KX _ _ lk) rfl S.co S.gen rfl (W.codeRec_of KX hcd) (hb _ _ _ _ ?_);refine wpAny_newFunctionEnv_cells S.kind hkind fun env he s1 x=>?_;subst he;refine ⟨lim.keeps x.toInCall.keep,codeAny_func ?_⟩;obtain ⟨t,ht,hq⟩:=bt A outer s H vs Q E (hr.deeper _) hsp;have I:Inv (Iu CX P w K mg base N qual scope f ad A outer s H E) [] (EE N vs) H s1:=Lm S hr.hd e0 hl r x;refine wpAny_mono (ht [] s1 (EE N vs) H _ I hq) (fun fl s' hs=>?_) fun e s' hs=>hs
 have fin:∀ {σ':St} {H':Hp} {v:V} {u:Value},Inv (Iu CX P w K mg base N qual scope f ad A outer s H E) [] σ' H' s'->RelV v u->Q v H'->CE outer P w H s Q u s' :=
  fun {σ' H' v u} J rv q=>⟨v,H',J.os,J.bare,J.base,J.hok,rv,q⟩
 cases fl with
 | ret u =>
  obtain ⟨v,σ',H',J,rv,q⟩:=hs;exact fin J rv q
 | next =>
  obtain ⟨σ',H',J,q⟩:=hs;exact fin (v:=V.non) (u:=Value.none) J rfl q
 | brk =>
  obtain ⟨_,_,_,q⟩:=hs;exact False.elim q
 | cont =>
  obtain ⟨_,_,_,q⟩:=hs;exact False.elim q
end L2
namespace L2
open PySem PySem.Spec PyProof.Rows
section
variable {p:Pos} {es:List Expr} {t:TA} {id T:String} {r:List V->Hp->VK->Prop}
def tCB (r:List V->Hp->VK->Prop) (t:TA):TE:=fun σ H Q=>t σ H fun vs H1=>r vs H1 Q
theorem AX (hc:BU X (.builtin id) r) (hg:Gl X x) (hm:X.mg x=none) (hv:bootBuiltins x=some (.builtin id)) (ha:PA X (e :: es) t) (hn:x ≠ "__name__" := by decide) (hdb:(x == ("__debug__" : Str))=false:=by decide)
  (he:starEach (e :: es) X.env=(false,eval e X.env) :: starEach es X.env:=by rfl) (hpl:(backTo pos (starEach es X.env)).any (·.1)=false:=by rfl):PE X (.Call (.Name x p) (e :: es) [] pos) (tCB r t):=by
 intro aa s σ H Q I h;refine wpAny_Call_Name_kw (C8 I hg hm hv ?_ hn hdb);exact PyProof.Rows.callWith_builtin1 (thn (ha pos aa s σ H _ I h) fun us s1 ⟨vs,H1,I1,r1,q1⟩=>hc aa s1 σ H1 vs us Q I1 r1 q1) he hpl
theorem Bq (hc:BU X (.type T) r) (hg:Gl X x) (hm:X.mg x=none) (hv:bootBuiltins x=some (.type T)) (ha:PA X (e :: es) t) (hn:x ≠ "__name__" := by decide) (hdb:(x == ("__debug__" : Str))=false:=by decide)
  (he:starEach (e :: es) X.env=(false,eval e X.env) :: starEach es X.env:=by rfl) (hpl:(backTo pos (starEach es X.env)).any (·.1)=false:=by rfl):PE X (.Call (.Name x p) (e :: es) [] pos) (tCB r t):=by
 intro aa s σ H Q I h;refine wpAny_Call_Name_kw (C8 I hg hm hv ?_ hn hdb);exact PyProof.Rows.callWith_type1 (thn (ha pos aa s σ H _ I h) fun us s1 ⟨vs,H1,I1,r1,q1⟩=>hc aa s1 σ H1 vs us Q I1 r1 q1) he hpl
end
end L2
namespace L2
open PySem PySem.Spec PyProof.Rows
theorem CJ {ns:List Int}:∀ {us:List Value},Vals (ns.map V.int) us->IntsAre us ns:=by
 induction ns with
 | nil=>intro us r; rw [map_nil] at r; cases r; exact .nil
 | cons n ns ih =>
  intro us r;rw [map_cons] at r;cases r with
  | cons r1 r2 =>
   obtain ⟨t,e⟩:=r1;subst e;exact .cons n t (ih r2)
end L2
namespace L2
open PySem PySem.Spec PyProof.Rows
def ixN (n:Nat) (i:Int):Option Nat:=if 0 <= i then (if i < n then some i.toNat else none) else if -(n:Int) <= i then some (i + n).toNat else none
def atI {α:Type} (xs:List α) (i:Int):Option α:=(ixN xs.length i).bind fun j=>xs[j]?
theorem K6 {n:Nat} {i:Int} {j:Nat} (h:ixN n i=some j):seqIndex? i n=some j/\j < n/\-(n:Int) <= i/\i < n:=by
 unfold ixN at h;by_cases h0:0 <= i
 ·rw [if_pos h0] at h;by_cases h1:i < n
  ·rw [if_pos h1] at h;have e:i.toNat=j:=Option.some.inj h;exact ⟨by rw [seqIndex_of h0 h1,e],by omega,by omega,h1⟩
  ·rw [if_neg h1] at h; cases h
 ·rw [if_neg h0] at h;by_cases h1:-(n:Int) <= i
  ·rw [if_pos h1] at h;have e:(i + n).toNat=j:=Option.some.inj h;exact ⟨by rw [seqIndex_neg (by omega) h1,e],by omega,h1,by omega⟩
  ·rw [if_neg h1] at h; cases h
theorem K7 {α:Type} {xs:List α} {i:Int} {v:α} (h:atI xs i=some v):∃ j,seqIndex? i xs.length=some j/\xs[j]?=some v/\j < xs.length/\-(xs.length:Int) <= i/\i < xs.length:=by
 unfold atI at h;cases e:ixN xs.length i with
 | none=>rw [e] at h; cases h
 | some j =>
  rw [e] at h;obtain ⟨h1,h2,h3,h4⟩:=K6 e;exact ⟨j,h1,h,h2,h3,h4⟩
theorem B9 {α:Type} {xs:List α} {j:Nat} {v:α} (h:xs[j]?=some v):atI xs (j:Int)=some v:=by
 have hj:j < xs.length:=(List.getElem?_eq_some_iff.mp h).1
 have e:ixN xs.length (j:Int)=some j:=by
  unfold ixN;rw [if_pos (by omega),if_pos (by omega)]; simp
 unfold atI; rw [e]; exact h
def Ol (b:Expr):Prop:=∀ o i,subscripted b false o i=operate [o,i] (getItem o i)
def IxR (X:Cx) (r:R2):Prop :=
 ∀ (value slice:Expr) (aa:LO) (s:Shared) (σ:St) (H:Hp) (x y:V) (v u:Value) (Q:VK),Inv X aa σ H s->RelV x v->RelV y u->r x y H Q ->
  subscripted slice false v u=operate [v,u] (getItem v u)->wpAny (model X.prog X.w) X.A (subscriptTail value slice v u) (EP X aa σ Q) X.xe s
def MtR (X:Cx) (id:String) (r:V->List V->Hp->VK->Prop):Prop :=
 ∀ (aa:LO) (s:Shared) (σ:St) (H:Hp) (x:V) (xs:List V) (v:Value) (us:List Value) (Q:VK),Inv X aa σ H s->RelV x v->Vals xs us->r x xs H Q ->
  wpAny (model X.prog X.w) X.A (call (.builtin id) (v :: us)) (EP X aa σ Q) X.xe s
section
variable {a b:Expr} {ta tb:TE}
theorem BZ {r:R2} (hr:IxR X r) (ha:PE X a ta) (hb:PE X b tb) (hs:Ol b):PE X (.Subscript a b pos) (tOp r ta tb):=by
 intro aa s σ H Q I h;exact Subscript_ (QD ha hb I h fun v u s2 x y H2 I2 rx ry q=>hr a b aa s2 σ H2 x y v u Q I2 rx ry q (hs _ _))
def RZ (K:FG):R2:=fun x y H Q=>∃ p xs i v,x=.ref p/\y=.int i/\SqL K H p xs/\atI xs i=some v/\Q v H
def Ra (K:FG):R2:=fun x y H Q=>∃ p xs i v,x=.ref p/\y=.int i/\SqT K H p xs/\atI xs i=some v/\Q v H
theorem Om:IxR X (RZ X.K):=by
 intro value slice aa s σ H x y v u Q I rx ry h hs;obtain ⟨p,xs,i,z,rfl,rfl,hq,he,q⟩:=h;cases rx;obtain ⟨t,rfl⟩:=ry;obtain ⟨its,r,pl,hz⟩:=I.list hq;obtain ⟨j,h1,h2,h3,h4,h5⟩:=K7 he;obtain ⟨w,ew,rw'⟩:=r.get h2;have hl:=r.length;have hn:=Fg;have fin:EP X aa σ Q w s:=⟨z,H,I,rw',q⟩;by_cases h0:0 <= i
 ·have hj:i.toNat=j:=by
   rw [seqIndex_of h0 h5] at h1;exact Option.some.inj h1
  exact item_listR pl.isList h0 (by omega) (by rw [hj]; simpa using ew) fin hs
 ·have hj:(i + (its.toArray.size:Int)).toNat=j:=by
   rw [seqIndex_neg (by omega) h4] at h1;rw [size_toArray,← hl];exact Option.some.inj h1
  exact subscriptTail_builtinR (x:=w) pl.isList.typeIs slot_list_getitem.lookup
   (wpAny_getItem_list_neg (Q:=fun r s'=>r=w/\EP X aa σ Q r s') pl.isList (by omega) (by rw [size_toArray] <;> omega) (by omega) (by rw [hj]; simpa using ew) ⟨rfl,fin⟩) hs
theorem QI:IxR X (Ra X.K):=by
 intro value slice aa s σ H x y v u Q I rx ry h hs;obtain ⟨p,xs,i,z,rfl,rfl,hq,he,q⟩:=h;cases rx;obtain ⟨t,rfl⟩:=ry;obtain ⟨its,r,pl,hz⟩:=I.tuple hq;obtain ⟨j,h1,h2,h3,h4,h5⟩:=K7 he;obtain ⟨w,ew,rw'⟩:=r.get h2;have hl:=r.length;have hn:=Fg;have fin:EP X aa σ Q w s:=⟨z,H,I,rw',q⟩
 exact subscriptTail_builtinR (x:=w) pl.typeIs slot_tuple_getitem.lookup
  (getItem_tuple (j:=j) (Q:=fun r s'=>r=w/\EP X aa σ Q r s') pl (by omega) (by omega) (by rw [size_toArray,← hl]; exact h1) (by simpa using ew) ⟨rfl,fin⟩) hs
theorem KC (its:List Value) (n j:Nat) (u:Value):Obj.mapSeq (·.setIfInBounds j u) { cls:=.type "list", data:=.seq its.toArray n }={ cls:=.type "list", data:=.seq (its.set j u).toArray n }:=by
 simp [Obj.mapSeq]
theorem Inv.lst {aa:LO} {σ:St} {H:Hp} {s:Shared} {p:Addr} {xs:List V} (I:Inv X aa σ H s) (h:H p=some (.lst xs)) :
  ∃ (its:List Value) (n:Nat),Vals xs its/\s.heap.get? p=some { cls:=.type "list", data:=.seq its.toArray n }/\xs.length <= sizeLine:=by
 obtain ⟨z,its,n,r,e⟩:=I.hok p _ h;exact ⟨its,n,r,e,z⟩
theorem Inv.lstUpd {p:Addr} {ys:List V} {its its':List Value} {n n':Nat} {f:Obj->Obj} (I:Inv X aa σ H s) (h:H p=some (.lst xs))
  (ho:s.heap.get? p=some { cls:=.type "list", data:=.seq its.toArray n }) (hf:f { cls:=.type "list", data:=.seq its.toArray n }={ cls:=.type "list", data:=.seq its'.toArray n' }) (r:Vals ys its') (hz:ys.length <= sizeLine) (t:Nat) :
  Inv X aa σ (upd H p (.lst ys)) { s with heap:=s.heap.update p f,toks:=t }:=by
 have e:(s.heap.update p f).get? p=some { cls:=.type "list", data:=.seq its'.toArray n' }:=by
  rw [Heap.get?_update_self f ho (by rw [hf] <;> rfl),hf]
 refine I.write (x:=p) (e:=p) (by rw [h]; trivial) (.inl rfl) (fun b u hb q=>(get?_update_other _ _ (Ne.symm hb)).trans q) ⟨_,e⟩ ?_;exact ⟨hz,its',n',r,e⟩
def Rb:V->V->V->Hp->(Hp->Prop)->Prop:=fun o i v H Q=>∃ p xs k j,o=.ref p/\i=.int k/\H p=some (.lst xs)/\ixN xs.length k=some j/\Q (upd H p (.lst (xs.set j v)))
theorem Iy:RP X Rb:=by
 intro aa s σ H o i v ov iv u Q I ro ri rv h;obtain ⟨p,xs,k,j,rfl,rfl,hp,hj,q⟩:=h;cases ro;obtain ⟨t,rfl⟩:=ri;obtain ⟨its,n,r,ho,hz⟩:=I.lst hp;obtain ⟨h1,h2,h3,h4⟩:=K6 hj;have hl:=r.length;have hn:=Fg
 have I':Inv X aa σ (upd H p (.lst (xs.set j v))) { s with heap:=s.heap.update p (Obj.mapSeq (·.setIfInBounds j u)) } :=
  I.lstUpd hp ho (KC its n j u) (r.set rv j) (by rw [List.length_set]; exact hz) s.toks
 by_cases h0:0 <= k
 ·have hk:k.toNat=j:=by
   rw [seqIndex_of h0 h4] at h1;exact Option.some.inj h1
  exact W.ki_setAt ho h0 (by omega) (by rw [size_toArray,← hl]; exact h4) (by rw [hk]; exact ⟨_,I',q⟩)
 ·have hk:(k + (its.toArray.size:Int)).toNat=j:=by
   rw [seqIndex_neg (by omega) h3] at h1;rw [size_toArray,← hl];exact Option.some.inj h1
  exact W.ki_setBack ho (by omega) (by rw [size_toArray,← hl]; exact h3) (by omega) (by rw [hk]; exact ⟨_,I',q⟩)
def Df:V->Bool
 | .non=>true
 | .bl _=>true
 | .int _=>true
 | .str _=>true
 | _=>false
def eqV:V->V->Bool
 | .non,.non=>true
 | .bl a,.bl b=>a == b
 | .bl a,.int b=>(if a then 1 else 0) == b
 | .int a,.bl b=>a == (if b then 1 else 0)
 | .int a,.int b=>a == b
 | .str a,.str b=>a == b
 | _,_=>false
theorem QJ {y x:V} {v:Value} (ry:RelV y u) (rx:RelV x v) (fy:Df y=true) (fx:Df x=true):SeqAt.EqAt A s u v (eqV y x):=by
 cases y with
 | non =>
  cases ry;cases x with
  | non=>cases rx; exact SeqAt.EqAt.same _
  | bl b=>cases rx; exact SeqAt.EqAt.none_bool b
  | int b=>obtain ⟨t,rfl⟩:=rx; exact SeqAt.EqAt.none_int b t
  | str b=>obtain ⟨t,rfl⟩:=rx; exact SeqAt.EqAt.none_str b t
  | _=>exact absurd (show false=true from fx) Bool.false_ne_true
 | bl a =>
  cases ry;cases x with
  | non=>cases rx; exact SeqAt.EqAt.bool_none a
  | bl b=>cases rx; exact SeqAt.EqAt.bool_bool a b
  | int b=>obtain ⟨t,rfl⟩:=rx; exact SeqAt.EqAt.bool_int a b t
  | str b=>obtain ⟨t,rfl⟩:=rx; exact SeqAt.EqAt.bool_str a b t
  | _=>exact absurd (show false=true from fx) Bool.false_ne_true
 | int a =>
  obtain ⟨t',rfl⟩:=ry;cases x with
  | non=>cases rx; exact SeqAt.EqAt.int_none a t'
  | bl b=>cases rx; exact SeqAt.EqAt.int_bool a t' b
  | int b=>obtain ⟨t,rfl⟩:=rx; exact SeqAt.EqAt.int_int a t' b t
  | str b=>obtain ⟨t,rfl⟩:=rx; exact SeqAt.EqAt.int_str a t' b t
  | _=>exact absurd (show false=true from fx) Bool.false_ne_true
 | str a =>
  obtain ⟨t',rfl⟩:=ry;cases x with
  | non=>cases rx; exact SeqAt.EqAt.str_none a t'
  | bl b=>cases rx; exact SeqAt.EqAt.str_bool a t' b
  | int b=>obtain ⟨t,rfl⟩:=rx; exact SeqAt.EqAt.str_int a t' b t
  | str b=>obtain ⟨t,rfl⟩:=rx; exact SeqAt.EqAt.str_str a t' b t
  | _=>exact absurd (show false=true from fx) Bool.false_ne_true
 | _=>exact absurd (show false=true from fy) Bool.false_ne_true
def eqU (x:V) (u:Value):Bool:=match u with
 | .none=>eqV .non x
 | .bool b=>eqV (.bl b) x
 | .int i _=>eqV (.int i) x
 | .str z _=>eqV (.str z) x
 | _=>false
theorem NB {x y:V} (r:RelV y u) (f:Df y=true):eqU x u=eqV y x:=by
 cases y with
 | non=>cases r; rfl
 | bl b=>cases r; rfl
 | int i=>obtain ⟨t,rfl⟩:=r; rfl
 | str z=>obtain ⟨t,rfl⟩:=r; rfl
 | _=>exact absurd (show false=true from f) Bool.false_ne_true
theorem EF {x:V}:∀ {xs:List V} {us:List Value},Vals xs us->xs.all Df=true->us.any (eqU x)=xs.any fun y=>eqV y x
 | _,_,.nil,_=>rfl
 | y :: xs,u :: us,.cons r t,f=>by
  rw [List.all_cons,Bool.and_eq_true] at f;rw [any_cons,any_cons,NB r f.1,EF t f.2]
theorem DB {A:Around} {s:Shared} {x:V} {v:Value} (rx:RelV x v) (fx:Df x=true):∀ {xs:List V} {us:List Value},Vals xs us->xs.all Df=true->∀ u ∈ us,SeqAt.EqAt A s u v (eqU x u)
 | _,_,.nil,_=>fun u hu=>by cases hu
 | y :: xs,u :: us,.cons r t,f=>fun u' hu=>by
  rw [List.all_cons,Bool.and_eq_true] at f;rcases mem_cons.mp hu with rfl | hu
  ·rw [NB r f.1]; exact QJ r rx f.1 fx
  ·exact DB rx fx t f.2 u' hu
def inV (x:V) (xs:List V):Bool:=xs.any fun y=>eqV y x
def rIn (K:FG) (neg:Bool):R2:=fun x y H Q=>∃ p xs,y=.ref p/\(SqL K H p xs\/SqT K H p xs)/\Df x=true/\xs.all Df=true/\Q (.bl (if neg then !inV x xs else inV x xs)) H
theorem CC:OpR X (compareOp .In) (rIn X.K false):=by
 intro aa s σ H x y v u Q I rx ry h;obtain ⟨p,xs,rfl,hq,fx,fs,q⟩:=h;cases ry;rcases hq with hq | hq
 ·obtain ⟨its,r,pl,hz⟩:=I.list hq;refine SeqAt.in_listAt (eqU x) pl.isList (fun w hw=>DB rx fx r fs w (by simpa using hw)) ⟨.bl _,H,I,rfl,?_⟩;rw [show its.toArray.any (eqU x)=its.any (eqU x) by simp,EF r fs];exact q
 ·obtain ⟨its,r,pl,hz⟩:=I.tuple hq;refine SeqAt.in_tupleAt (eqU x) pl (fun w hw=>DB rx fx r fs w (by simpa using hw)) ⟨.bl _,H,I,rfl,?_⟩;rw [show its.toArray.any (eqU x)=its.any (eqU x) by simp,EF r fs];exact q
theorem Hr:OpR X (compareOp .NotIn) (rIn X.K true):=by
 intro aa s σ H x y v u Q I rx ry h;obtain ⟨p,xs,rfl,hq,fx,fs,q⟩:=h;cases ry;rcases hq with hq | hq
 ·obtain ⟨its,r,pl,hz⟩:=I.list hq;refine SeqAt.notIn_listAt (eqU x) pl.isList (fun w hw=>DB rx fx r fs w (by simpa using hw)) ⟨.bl _,H,I,rfl,?_⟩;rw [show its.toArray.any (eqU x)=its.any (eqU x) by simp,EF r fs];exact q
 ·obtain ⟨its,r,pl,hz⟩:=I.tuple hq;refine SeqAt.notIn_tupleAt (eqU x) pl (fun w hw=>DB rx fx r fs w (by simpa using hw)) ⟨.bl _,H,I,rfl,?_⟩;rw [show its.toArray.any (eqU x)=its.any (eqU x) by simp,EF r fs];exact q
theorem EG:BU X (.builtin "len") (fun xs H Q=>∃ p ys,xs=[.ref p]/\(SqL X.K H p ys\/SqT X.K H p ys)/\Q (.int ys.length) H):=by
 intro aa s σ H xs us Q I r h;obtain ⟨p,ys,rfl,hq,q⟩:=h;obtain ⟨u,rfl,rx⟩:=Bb r;cases rx;have hn:=Fg;rcases hq with hq | hq
 ·obtain ⟨its,r',pl,hz⟩:=I.list hq;have ay:=r'.length;exact Calls.call_len_list pl.isList (by simp only [size_toArray] <;> omega) ⟨.int ys.length,H,I.tok _,⟨s.toks + 1,by rw [size_toArray,ay]⟩,q⟩
 ·obtain ⟨its,r',pl,hz⟩:=I.tuple hq;have ay:=r'.length;exact len_tuple pl (by simp only [size_toArray] <;> omega) ⟨.int ys.length,H,I.tok _,⟨s.toks + 1,by rw [size_toArray,ay]⟩,q⟩
theorem Hs:BU X (.builtin "len") (fun xs H Q=>∃ z,xs=[.str z]/\z.length <= sizeLine/\Q (.int z.length) H):=by
 intro aa s σ H xs us Q I r h;obtain ⟨z,rfl,hz,q⟩:=h;obtain ⟨u,rfl,t,rfl⟩:=Bb r;have hn:=Fg;exact len_str (by omega) ⟨.int z.length,H,I.tok _,⟨_,rfl⟩,q⟩
theorem Ht:BU X (.type "list") (fun xs H Q=>∃ p ys,xs=[.ref p]/\(SqL X.K H p ys\/SqT X.K H p ys)/\∀ l,H l=none->Q (.ref l) (upd H l (.lst ys))):=by
 intro aa s σ H xs us Q I r h;obtain ⟨p,ys,rfl,hq,q⟩:=h;obtain ⟨u,rfl,rx⟩:=Bb r;cases rx
 have fin:∀ (its:List Value),Vals ys its->ys.length <= sizeLine->∀ (h':Heap) (c':Nat),(∀ b o',s.heap.get? b=some o'->h'.get? b=some o') ->
   h'.get? s.heap.objs.size=some { cls:=.type "list", dict:=none,data:=.seq its.toArray c',slots:=#[] }->EP X aa σ Q (.ref s.heap.objs.size) { s with heap:=h' }:=fun its r' hz h' c' kp e =>
  ⟨.ref s.heap.objs.size,_,I.laid (t':=s.toks) kp (Nat.le_refl _) (show ObjOk X.prog X.w _ h' _ (.lst ys) from ⟨hz,its,c',r',e⟩),rfl,q _ (I.hok.fresh (Nat.le_refl _))⟩
 rcases hq with hq | hq
 ·obtain ⟨its,r',pl,hz⟩:=I.list hq;have ay:=r'.length;obtain ⟨o,ho,hc,n,hd⟩:=pl.isList;exact call_list_seq p (.inl rfl) ho hc hd (fun h' c' kp e=>fin its r' hz h' c' kp e) (by simp only [size_toArray] <;> omega)
 ·obtain ⟨its,r',pl,hz⟩:=I.tuple hq;have ay:=r'.length;obtain ⟨o,ho,hc,n,hd⟩:=pl;exact call_list_seq p (.inr rfl) ho hc hd (fun h' c' kp e=>fin its r' hz h' c' kp e) (by simp only [size_toArray] <;> omega)
theorem Gr:BU X (.type "tuple") (fun xs H Q=>∃ p ys,xs=[.ref p]/\((SqL X.K H p ys/\∀ l,H l=none->Q (.ref l) (upd H l (.tup ys)))\/(SqT X.K H p ys/\Q (.ref p) H))):=by
 intro aa s σ H xs us Q I r h;obtain ⟨p,ys,rfl,h⟩:=h;obtain ⟨u,rfl,rx⟩:=Bb r;cases rx;rcases h with ⟨hq,q⟩ | ⟨hq,q⟩
 ·obtain ⟨its,r',pl,hz⟩:=I.list hq;have ay:=r'.length;refine call_tuple_list pl.isList (fun h' kp=>?_) (by simp only [size_toArray] <;> omega);have I1:Inv X aa σ H { s with heap:=h' }:=I.kept (t':=s.toks) kp
  have I2:Inv X aa σ (upd H h'.objs.size (.tup ys)) { s with heap:=h'.push { cls:=.type "tuple", data:=.seq its.toArray } } :=
   I1.laid (t':=s.toks) (fun b o e=>get?_push_of_some _ e) (Nat.le_refl _) (show ObjOk X.prog X.w _ _ _ (.tup ys) from ⟨hz,its,r',IsTup.new _ _⟩)
  exact ⟨.ref h'.objs.size,_,I2,rfl,q _ (I1.hok.fresh (Nat.le_refl _))⟩
 ·obtain ⟨its,r',pl,hz⟩:=I.tuple hq;exact call_tuple_same pl ⟨.ref p,H,I,rfl,q⟩
def tyV (K:FG) (T:String) (x:V) (H:Hp):Prop:=match x with
 | .str _=>T = "str"
 | .int _=>T = "int"
 | .ref p=>(T = "list" /\ ∃ xs,SqL K H p xs)\/(T = "tuple" /\ ∃ o,K.lookup p=some o/\o.cls=.type "tuple" /\ o.dict=none) \/
   (T = "dict" /\ ((∃ kvs,H p=some (.dK kvs))\/∃ kvs,H p=some (.dT kvs)))\/(T = "set" /\ ∃ S n,H p=some (.set S n))
 | _=>False
theorem NC {T:String} {x:V} {v:Value} (I:Inv X aa σ H s) (r:RelV x v) (ty:tyV X.K T x H) :
  s.TypeIs v T/\∀ a,v=.ref a->∃ ob,s.heap.get? a=some ob/\ob.dict=none:=by
 cases x with
 | str z =>
  obtain ⟨t,rfl⟩:=r;cases (show T = "str" from ty);exact ⟨typeIs_str s z t,fun _ e=>nomatch e⟩
 | int i =>
  obtain ⟨t,rfl⟩:=r;cases (show T = "int" from ty);exact ⟨typeIs_int s i t,fun _ e=>nomatch e⟩
 | ref p =>
  cases r;rcases ty with ⟨rfl,xs,hq⟩ | ⟨rfl,o,hk,hc,hd⟩ | ⟨rfl,hk⟩ | ⟨rfl,S,n,hk⟩
  ·obtain ⟨its,_,pl,_⟩:=I.list hq;refine ⟨pl.isList.typeIs,fun a e=>?_⟩;cases e;obtain ⟨o,n,e,c,hd,_⟩:=pl;exact ⟨o,e,hd⟩
  ·refine ⟨⟨o,I.kIn p o hk,hc⟩,fun a e=>?_⟩;cases e;exact ⟨o,I.kIn _ o hk,hd⟩
  ·have z:∃ o,s.heap.get? p=some o/\o.ExactDict:=by
    rcases hk with ⟨kvs,hk⟩ | ⟨kvs,hk⟩
    ·obtain ⟨_,_,_,_,o,_,_,e,ex,_⟩:=I.hok p _ hk;exact ⟨o,e,ex⟩
    ·obtain ⟨_,_,_,_,o,_,_,e,ex,_⟩:=I.hok p _ hk;exact ⟨o,e,ex⟩
   obtain ⟨o,e,ex⟩:=z;refine ⟨⟨o,e,ex.1⟩,fun a e2=>?_⟩;cases e2;exact ⟨o,e,ex.2.1⟩
  ·obtain ⟨o,_,_,_,e,ex,_⟩:=I.hok p _ hk;refine ⟨⟨o,e,ex.1⟩,fun a e2=>?_⟩;cases e2;exact ⟨o,e,ex.2.1⟩
 | _=>exact False.elim ty
def SO (K:FG) (T:String) (r:V->List V->Hp->VK->Prop) (to:TE):TE:=fun σ H Q=>to σ H fun x H1=>tyV K T x H1/\r x [] H1 Q
def tBM (K:FG) (T:String) (r:V->List V->Hp->VK->Prop) (to:TE) (t:TA):TE:=fun σ H Q=>to σ H fun x H1=>tyV K T x H1/\t σ H1 fun xs H2=>r x xs H2 Q
variable {o:Expr} {es:List Expr} {to:TE} {t:TA} {name:Str} {apos cpos:Pos} {T id:String} {r:V->List V->Hp->VK->Prop}
theorem QK (pa:PlainAttrs T) (slot:Slot T name id) (hty:typeOf (.builtin id)=pure (.type "method_descriptor")) (hm:MtR X id r) (ho:PE X o to)
  (bi:attributeBase o name X.env (eval o X.env)=eval o X.env:=by rfl) (bj:(apos.endLine == cpos.line)=true:=by rfl):PE X (.Call (.Attribute o name apos) [] [] cpos) (SO X.K T r to):=by
 intro aa s σ H Q I h;refine wpAny_Call_method0_late bi bj (thn (ho aa s σ H _ I h) fun v s1 ⟨x,H1,I1,r1,ty,q1⟩=>?_);obtain ⟨h1,h2⟩:=NC I1 r1 ty;exact ⟨T,id,pa,slot,hty,h1,h2,Calls.callWith_builtin rfl (PySem.evalArgs_none (hm aa s1 σ H1 x [] v [] Q I1 r1 .nil q1))⟩
theorem Iz (pa:PlainAttrs T) (slot:Slot T name id) (hty:typeOf (.builtin id)=pure (.type "method_descriptor")) (hm:MtR X id r) (ho:PE X o to) (ha:PA X (e :: es) t)
  (bi:attributeBase o name X.env (eval o X.env)=eval o X.env:=by rfl)
  (hfew:((backTo cpos (starEach (e :: es) X.env)).all (fun x=>!x.1) && (backToKw cpos (keywordEach [] X.env)).all (fun x=>x.1.isSome)
   && decide ((e :: es).length + ([]:List Keyword).length + (if ([]:List Keyword).isEmpty then 0 else 1) < 30))=true:=by rfl)
  (bj:(apos.endLine == cpos.line)=true:=by rfl) (hs:starEach (e :: es) X.env=(false,eval e X.env) :: starEach es X.env:=by rfl) (hplain:(backTo cpos (starEach es X.env)).any (·.1)=false:=by rfl) :
  PE X (.Call (.Attribute o name apos) (e :: es) [] cpos) (tBM X.K T r to t):=by
 intro aa s σ H Q I h;refine wpAny_Call_method_late bi hfew bj rfl (thn (ho aa s σ H _ I h) fun v s1 ⟨x,H1,I1,r1,ty,q1⟩=>?_);obtain ⟨h1,h2⟩:=NC I1 r1 ty;refine ⟨T,id,pa,slot,hty,h1,h2,?_⟩;have hA:=ha cpos aa s1 σ H1 _ I1 q1;rw [hs] at hA ⊢;refine Calls.callWith_builtin (by show (false || (backTo cpos (starEach es X.env)).any (·.1))=false; rw [hplain] <;> rfl) (Calls.evalArgs_plain ?_);exact thn hA fun us s2 ⟨vs,H2,I2,r2,q2⟩=>hm aa s2 σ H2 x vs v us Q I2 r1 r2 q2
end
end L2
namespace L2
open PySem PySem.Spec PyProof.Rows
def MtM (X:Cx) (id:String) (r:V->List V->Hp->VK->Prop):Prop :=
 ∀ (aa:LO) (s:Shared) (σ:St) (H:Hp) (x:V) (xs:List V) (v:Value) (us:List Value) (Q:VK),Inv X aa σ H s->RelV x v->Vals xs us->r x xs H Q ->
  wpAny (model X.prog X.w) X.A (call (.builtin id) (v :: us)) (EP X aa σ Q) X.xe s
theorem Vals.one:∀ {x:V} {us:List Value},Vals [x] us->∃ u,us=[u]/\RelV x u
 | _,_,.cons r .nil=>⟨_,rfl,r⟩
theorem Vals.rep {xs:List V} {us:List Value} (h:Vals xs us):∀ k:Nat,Vals (replicate k xs).flatten (replicate k us).flatten
 | 0=>.nil
 | k + 1=>by
  rw [replicate_succ,replicate_succ,flatten_cons,flatten_cons];exact Vals.append h (Vals.rep h k)
theorem G8 (its:List Value):∀ (k:Nat) (acc:List Value),
  List.foldl (fun x1 x2=>x1++x2) acc.toArray (replicate k its.toArray)=(acc++(replicate k its).flatten).toArray
 | 0,acc=>by simp
 | k + 1,acc=>by
  have e:acc.toArray++its.toArray=(acc++its).toArray:=by simp
  have e2:(acc++its)++(replicate k its).flatten=acc++(replicate (k + 1) its).flatten:=by
   rw [replicate_succ,flatten_cons,List.append_assoc]
  rw [← e2,← G8 its k (acc++its),← e,replicate_succ,foldl_cons]
section
variable {l b:Addr} {ys zs:List V}
theorem Inv.lset {its its':List Value} {n:Nat} {f:Array Value->Array Value} {t':Nat} (I:Inv X aa σ H s) (hH:H l=some (.lst xs))
  (e:s.heap.get? l=some { cls:=.type "list", data:=.seq its.toArray n }) (hf:f its.toArray=its'.toArray) (hv:Vals ys its') (hz:ys.length <= sizeLine) :
  Inv X aa σ (upd H l (.lst ys)) { s with heap:=s.heap.update l (Obj.mapSeq f),toks:=t' }:=by
 have q:=PySem.IsL.update e f;rw [hf] at q;refine I.write (x:=l) (e:=l) (by rw [hH]; exact trivial) (.inl rfl) (fun b' u hb hu=>(get?_update_other s.heap (Obj.mapSeq f) (Ne.symm hb)).trans hu) ⟨_,q⟩ ?_;exact ⟨hz,its',_,hv,q⟩
theorem Inv.lnew {its:List Value} {t':Nat} (I:Inv X aa σ H s) (hv:Vals ys its) (hz:ys.length <= sizeLine) :
  Inv X aa σ (upd H s.heap.objs.size (.lst ys)) { s with heap:=s.heap.push { cls:=.type "list", data:=.seq its.toArray },toks:=t' } :=
 I.laid (fun _ _ q=>get?_push_of_some _ q) (Nat.le_refl _) ⟨hz,its,0,hv,get?_push_size _ rfl⟩
theorem Inv.fresh (I:Inv X aa σ H s):H s.heap.objs.size=none:=I.hok.fresh (Nat.le_refl _)
theorem Inv.lstM (I:Inv X aa σ H s) (hH:H l=some (.lst xs)):xs.length <= sizeLine/\∃ (its:List Value) (n:Nat),Vals xs its/\xs.length=its.length/\s.heap.get? l=some { cls:=.type "list", data:=.seq its.toArray n }:=by
 obtain ⟨z,its,n,r,e⟩:=I.hok l _ hH;exact ⟨z,its,n,r,r.length,e⟩
theorem ND {n:Nat} (h:n <= sizeLine):Builtin.List.listTooLong n=false:=by
 unfold Builtin.List.listTooLong;exact decide_eq_false (by omega)
end
section
def On:V->List V->Hp->VK->Prop:=fun x vs H Q=>∃ l xs y,x=.ref l/\vs=[y]/\H l=some (.lst xs)/\xs.length < sizeLine/\Q .non (upd H l (.lst (xs++[y])))
theorem DS:MtM X "list.append" On:=by
 intro aa s σ H x vs v us Q I rx rv h;obtain ⟨l,xs,y,rfl,rfl,hH,hz,q⟩:=h;cases rx;obtain ⟨u,rfl,ru⟩:=rv.one;obtain ⟨z,its,n,r,hl,e⟩:=I.lstM hH;refine call_meets F.slot_list_append ⟨_,e,rfl⟩ F.entry_list_append (F.args_list_append_2 _ _) (PySem.list_append l its.toArray n u (by rw [size_toArray]; omega)) ⟨e,?_⟩;refine ⟨.non,_,I.lset (its':=its++[u]) hH e (by simp) (r.append (.cons ru .nil)) ?_,rfl,q⟩;rw [length_append,length_singleton];omega
def SQ:R2:=fun x y H Q=>∃ l b xs zs,x=.ref l/\y=.ref b/\H l=some (.lst xs)/\H b=some (.lst zs)/\xs.length + zs.length <= sizeLine/\∀ p,H p=none->Q (.ref p) (upd H p (.lst (xs++zs)))
theorem NE:OpR X (binaryOp .Add) SQ:=by
 intro aa s σ H x y v u Q I rx ry h;obtain ⟨l,b,xs,zs,rfl,rfl,hH,hB,hz,q⟩:=h;cases rx;cases ry;obtain ⟨z,its,n,r,hl,e⟩:=I.lstM hH;obtain ⟨z2,its2,n2,r2,hl2,e2⟩:=I.lstM hB;refine PySem.P.add_list e e2 ?_ (by rw [size_toArray,size_toArray]; omega);have ea:its.toArray++its2.toArray=(its++its2).toArray:=by simp
 rw [ea];exact ⟨.ref _,_,I.lnew (t':=s.toks) (r.append r2) (by rw [length_append]; omega),rfl,q _ I.fresh⟩
def SR:R2:=fun x y H Q=>∃ l k xs,x=.ref l/\y=.int k/\H l=some (.lst xs)/\-(2 ^ 63) <= k/\k < 2 ^ 63/\xs.length * k.toNat <= sizeLine /\
 ∀ p,H p=none->Q (.ref p) (upd H p (.lst (replicate k.toNat xs).flatten))
theorem Oo {α:Type} (xs:List α) (k:Nat):(replicate k xs).flatten.length=k * xs.length:=by
 induction k with
 | zero=>simp
 | succ k ih=>rw [replicate_succ,flatten_cons,length_append,ih,Nat.succ_mul,Nat.add_comm]
theorem QL:OpR X (binaryOp .Mult) SR:=by
 intro aa s σ H x y v u Q I rx ry h;obtain ⟨l,k,xs,rfl,rfl,hH,h1,h2,hz,q⟩:=h;cases rx;obtain ⟨t,rfl⟩:=ry;obtain ⟨z,its,n,r,hl,e⟩:=I.lstM hH;have ay:its.toArray.size * k.toNat <= sizeLine:=by rw [size_toArray,← hl]; exact hz
 have hcap:¬ its.toArray.size * k.toNat > (2 ^ 63 - 1) / 8:=by
  have:(sizeLine:Nat) <= (2 ^ 63 - 1) / 8:=by decide
  omega
 have hfit:¬ (!Builtin.List.listFitsIndex k)=true:=by
  rw [fitsIndex_both h1 h2];exact Bool.false_ne_true
 have hlong:¬ Builtin.List.listTooLong (its.toArray.size * k.toNat)=true:=by
  rw [ND ay];exact Bool.false_ne_true
 have bo:List.foldl (fun x1 x2=>x1++x2) #[] (replicate (if its.toArray.isEmpty=true then 0 else k.toNat) its.toArray)=(replicate k.toNat its).flatten.toArray:=by
  have f0:∀ m:Nat,List.foldl (fun x1 x2=>x1++x2) #[] (replicate m its.toArray)=(replicate m its).flatten.toArray:=fun m=>by
   have:=G8 its m [];rw [List.nil_append] at this;exact this
  rw [f0];cases its with
  | nil=>simp
  | cons a r'=>rw [if_neg (by simp)]
 refine wpAny_binaryOp_repeat_ref (T := "list") (U := "int") (by decide) ⟨_,e,rfl⟩ (fun s'=>typeIs_int s' k t) noFill_list_mul F.fills_int_mul F.slot_int_rmul repeat_list F.slot_int_index.lookup
  (call_meets F.slot_int_rmul (typeIs_int s k t) F.entry_int_rmul (F.args_int_rmul_2 _ _) (int___rmul___int_list k t l its.toArray n)
   ⟨e,rfl,⟨_,e,rfl⟩,call_meets F.slot_list_mul ⟨_,e,rfl⟩ F.entry_list_mul (F.args_list_mul_2 _ _) (AutoListH.list___mul___list_int_3 l its.toArray n k t hfit hcap hlong) ⟨e,?_⟩⟩)
 rw [bo];exact ⟨.ref _,_,I.lnew (t':=s.toks) (r.rep k.toNat) (by rw [Oo,Nat.mul_comm]; exact hz),rfl,q _ I.fresh⟩
end
end L2
namespace L2
open PySem PySem.Spec PyProof.Rows
section
variable {κ:Type} [DecidableEq κ]
def A7 (kvs:List (κ × V)) (k:κ):Option V:=(kvs.find? fun kv=>decide (kv.1=k)).map (·.2)
def B0 (kvs:List (κ × V)) (k:κ) (v:V):List (κ × V) :=
 if (kvs.any fun kv=>decide (kv.1=k))=true then kvs.map (fun kv=>if kv.1=k then (kv.1,v) else kv) else kvs++[(k,v)]
theorem Cl {p:κ × V} {r:List (κ × V)} {k:κ} (e:p.1=k):A7 (p :: r) k=some p.2:=by simp [A7,find?_cons,e]
theorem Cm {p:κ × V} {r:List (κ × V)} {k:κ} (e:¬ p.1=k):A7 (p :: r) k=A7 r k:=by simp [A7,find?_cons,e]
theorem EH (k:κ):∀ kvs:List (κ × V),(kvs.any fun kv=>decide (kv.1=k))=(A7 kvs k).isSome
 | []=>rfl
 | p :: r=>by
  rw [any_cons];by_cases e:p.1=k
  ·simp only [Cl e,decide_eq_true e,Bool.true_or,Option.isSome_some]
  ·rw [Cm e,decide_eq_false e,Bool.false_or]; exact EH k r
theorem B1 (kvs:List (κ × V)) (k:κ) (v:V):(B0 kvs k v).length <= kvs.length + 1:=by
 unfold B0;split
 ·rw [length_map]; omega
 ·rw [length_append,length_cons,length_nil]; omega
theorem Fl {kvs:List (κ × V)} {k:κ} (v:V) (h:A7 kvs k=none):B0 kvs k v=kvs++[(k,v)]:=by
 unfold B0;rw [EH,h];exact if_neg (by decide)
theorem RelO.isSome_eq {o:Option V} {u:Option Value} (r:RelO o u):o.isSome=u.isSome:=by
 cases o with
 | none=>cases u with
  | none=>rfl
  | some _=>exact (show False from r).elim
 | some _=>cases u with
  | none=>exact (show False from r).elim
  | some _=>rfl
theorem KV.val {kvs:List (κ × V)} {vs:List (κ × Value)} (r:KV kvs vs) (k:κ):RelO (A7 kvs k) (valueAt vs k):=by
 unfold KV at r;induction r with
 | nil=>exact True.intro
 | @cons p q ps qs h t ih =>
  obtain ⟨h1,h2⟩:=h;by_cases e:p.1=k
  ·have e':q.1=k:=h1.symm.trans e;have b:valueAt (q :: qs) k=some q.2:=by simp [valueAt,find?_cons,e']
   rw [Cl e,b]; exact h2
  ·have e':¬ q.1=k:=fun z=>e (h1.trans z);have b:valueAt (q :: qs) k=valueAt qs k:=by simp [valueAt,find?_cons,e']
   rw [Cm e,b]; exact ih
theorem KV.any {kvs:List (κ × V)} {vs:List (κ × Value)} (r:KV kvs vs) (k:κ):(kvs.any fun kv=>decide (kv.1=k))=vs.any fun kv=>decide (kv.1=k):=by
 unfold KV at r;induction r with
 | nil=>rfl
 | cons h t ih=>rw [any_cons,any_cons,ih,h.1]
theorem KV.repl {kvs:List (κ × V)} {vs:List (κ × Value)} (r:KV kvs vs) (k:κ) {y:V} (ry:RelV y u) :
  KV (kvs.map fun kv=>if kv.1=k then (kv.1,y) else kv) (vs.map fun kv=>if kv.1=k then (kv.1,u) else kv):=by
 unfold KV at r ⊢;induction r with
 | nil=>exact .nil
 | @cons p q ps qs h t ih =>
  rw [map_cons,map_cons];refine .cons ?_ ih;obtain ⟨h1,h2⟩:=h;by_cases e:p.1=k
  ·rw [if_pos e,if_pos (h1.symm.trans e)]; exact ⟨h1,ry⟩
  ·rw [if_neg e,if_neg (fun z=>e (h1.trans z))]; exact ⟨h1,h2⟩
theorem KV.put {kvs:List (κ × V)} {vs:List (κ × Value)} (r:KV kvs vs) (k:κ) {y:V} (ry:RelV y u):KV (B0 kvs k y) (stored vs k u):=by
 unfold B0 stored;rw [r.any k];by_cases e:(vs.any fun kv=>decide (kv.1=k))=true
 ·rw [if_pos e,if_pos e]; exact r.repl k ry
 ·rw [if_neg e,if_neg e]; exact Paired.snoc r ⟨rfl,ry⟩
theorem KV.length {kvs:List (κ × V)} {vs:List (κ × Value)} (r:KV kvs vs):kvs.length=vs.length:=Paired.length r
end
theorem FF {k:Key} (r:RelV (kV k) u):(Ah P w).is k u=true:=by
 cases k with
 | inl i=>obtain ⟨t,e⟩:=(show ∃ t,u=Value.int i t from r); subst e; exact Ig P w i t
 | inr x=>obtain ⟨t,e⟩:=(show ∃ t,u=Value.str x t from r); subst e; exact Ih P w x t
theorem G9 {P:Program} {w:World}:∀ {ks:List Key} {us:List Value},Vals (ks.map kV) us->ItemsAre (Ah P w) ks us
 | [],_,r=>by rw [map_nil] at r; cases r; exact .nil
 | k :: ks,_,r=>by
  rw [map_cons] at r;cases r with
  | cons h t=>exact .cons (FF h) (G9 t)
abbrev KT (H:Hp):List (List Key × V)->List (List Key × Addr × Value)->Prop:=Paired fun p q=>p.1=q.1/\H q.2.1=some (.tup (p.1.map kV))/\RelV p.2 q.2.2
theorem KT.val {kvs:List (List Key × V)} {xs:List (List Key × Addr × Value)} (r:KT H kvs xs) (k:List Key):RelO (A7 kvs k) ((atKey xs k).map (·.2)):=by
 induction r with
 | nil=>exact True.intro
 | @cons p q ps qs h t ih =>
  obtain ⟨h1,_,h2⟩:=h;by_cases e:p.1=k
  ·have e':q.1=k:=h1.symm.trans e;have b:atKey (q :: qs) k=some q.2:=by simp [atKey,find?_cons,e']
   rw [Cl e,b]; exact h2
  ·have e':¬ q.1=k:=fun z=>e (h1.trans z);have b:atKey (q :: qs) k=atKey qs k:=by simp [atKey,find?_cons,e']
   rw [Cm e,b]; exact ih
theorem KT.repl {kvs:List (List Key × V)} {xs:List (List Key × Addr × Value)} (r:KT H kvs xs) (k:List Key) {y:V} (ry:RelV y u) :
  KT H (kvs.map fun kv=>if kv.1=k then (kv.1,y) else kv) (xs.map (putAt k u)):=by
 induction r with
 | nil=>exact .nil
 | @cons p q ps qs h t ih =>
  rw [map_cons,map_cons];refine .cons ?_ ih;obtain ⟨h1,h2,h3⟩:=h;unfold putAt;by_cases e:p.1=k
  ·rw [if_pos e,if_pos (h1.symm.trans e)]; exact ⟨h1,h2,ry⟩
  ·rw [if_neg e,if_neg (fun z=>e (h1.trans z))]; exact ⟨h1,h2,h3⟩
theorem KT.put {kvs:List (List Key × V)} {xs:List (List Key × Addr × Value)} (r:KT H kvs xs) (k:List Key) {b:Addr} {y:V} (hb:H b=some (.tup (k.map kV))) (ry:RelV y u) :
  KT H (B0 kvs k y) (storedH xs k b u):=by
 have e:(kvs.any fun kv=>decide (kv.1=k))=(atKey xs k).isSome:=by
  rw [EH,(r.val k).isSome_eq,Option.isSome_map]
 unfold B0 storedH;rw [e];by_cases q:(atKey xs k).isSome=true
 ·rw [if_pos q,if_pos q]; exact r.repl k ry
 ·rw [if_neg q,if_neg q]; exact Paired.snoc r ⟨rfl,hb,ry⟩
theorem KT.keeps {kvs:List (List Key × V)} {xs:List (List Key × Addr × Value)} (r:KT H kvs xs) (ht:∀ b ys,H b=some (.tup ys)->H' b=some (.tup ys)):KT H' kvs xs :=
 Paired.mapP r fun _ _ z=>⟨z.1,ht _ _ z.2.1,z.2.2⟩
section
theorem Pw {u:HO} (ok:HOk P w H h) (e:Rd H a u):ObjOk P w H h a u:=e.ok ok
theorem C6 {kvs:LK} (ok:HOk P w H h) (e:Rd H a (.dK kvs)):kvs.length <= sizeLine/\(a == sysModules)=false/\∃ vs,KV kvs vs/\h.DictOf (Ah P w) a vs :=
 show ObjOk P w H h a (.dK kvs) from Pw ok e
theorem K8 {kvs:LK} (ok:HOk P w H h) (e:H a=some (.dK kvs)):kvs.length <= sizeLine/\(a == sysModules)=false/\∃ vs,KV kvs vs/\h.DictOf (Ah P w) a vs:=C6 ok (.inl e)
theorem Fo {ks:List Key} (ok:HOk P w H h) (e:H a=some (.tup (ks.map kV))):(tupleKind (Ah P w)).is h ks a:=by
 obtain ⟨_,its,r,o,h1,h2,n,h3⟩:=(show ObjOk P w H h a (.tup (ks.map kV)) from ok a _ e);exact ⟨o,its.toArray,n,h1,h2,h3,by simpa using G9 r⟩
theorem HA {kvs:List (List Key × V)} (ok:HOk P w H h) (e:Rd H a (.dT kvs)):kvs.length <= sizeLine/\(a == sysModules)=false /\
  ∃ xs,KT H kvs xs/\h.DictOfH (tupleKind (Ah P w)) a xs:=by
 obtain ⟨z,y,xs,r,o,es,ep,h1,h2,h3,h4,h5⟩:=(show ObjOk P w H h a (.dT kvs) from Pw ok e);refine ⟨z,y,xs,r,o,es,ep,h1,h2,h3,h4,fun x hx=>?_,h5⟩
 have all:∀ {l:List (List Key × V)} {m:List (List Key × Addr × Value)},KT H l m->∀ x ∈ m,(tupleKind (Ah P w)).is h x.1 x.2.1:=by
  intro l m q;induction q with
  | nil=>intro x hx; exact nomatch hx
  | @cons p q ps qs hq t ih =>
   intro x hx;rcases mem_cons.mp hx with e | hx
   ·subst e;exact Fo ok (by rw [← hq.1]; exact hq.2.1)
   ·exact ih x hx
 exact all r x hx
theorem Rc {kvs:List (List Key × V)} (ok:HOk P w H h) (e:H a=some (.dT kvs)):kvs.length <= sizeLine/\(a == sysModules)=false /\
  ∃ xs,KT H kvs xs/\h.DictOfH (tupleKind (Ah P w)) a xs:=HA ok (.inl e)
end
def I0 (H:Hp) (a:Addr) (y:V) (r:Option V):Prop :=
 (∃ kvs k,Rd H a (.dK kvs)/\y=kV k/\r=A7 kvs k)\/∃ kvs k b,Rd H a (.dT kvs)/\y=.ref b/\H b=some (.tup (k.map kV))/\r=A7 kvs k
def DPut (H:Hp) (a:Addr) (y v:V) (H':Hp):Prop :=
 (∃ kvs k,H a=some (.dK kvs)/\y=kV k/\kvs.length < sizeLine/\H'=upd H a (.dK (B0 kvs k v))) \/
 ∃ kvs k b,H a=some (.dT kvs)/\y=.ref b/\H b=some (.tup (k.map kV))/\kvs.length < sizeLine/\H'=upd H a (.dT (B0 kvs k v))
theorem DPut.k {H:Hp} {a:Addr} {kvs:LK} {k:Key} {v:V} (e:H a=some (.dK kvs)) (hl:kvs.length < sizeLine):DPut H a (kV k) v (upd H a (.dK (B0 kvs k v))):=.inl ⟨kvs,k,e,rfl,hl,rfl⟩
section
variable {y v:V} {r:Value} {o:Option V}
theorem Inv.big (I:Inv X aa σ H s):sysModules < s.heap.objs.size:=by
 have h:mainGlobals < s.heap.objs.size:=(I.mod.glob.keeps I.bk).lt;exact Nat.lt_trans (by decide) h
theorem Ln {Q:VS} (hu:A.units + 1 < cLine) (I:Inv X aa σ H s) (g:I0 H a y (some v)) (ry:RelV y u) (h:∀ w' s',Inv X aa σ H s'->RelV v w'->Q w' s') :
  wpAny (model X.prog X.w) A (getItem (.ref a) u) Q E s:=by
 rcases g with ⟨kvs,k,e,ey,l⟩ | ⟨kvs,k,b,e,ey,eb,l⟩
 ·subst ey;obtain ⟨z,hd,vs,rel,dd⟩:=C6 I.hok e;obtain ⟨w',hw,rw'⟩:=RelO.some_of (v:=v) (o:=valueAt vs k) (by rw [l]; exact rel.val k);exact wpAny_getItem_of (FF ry) dd.mapOf hw (h w' _ (I.tok _) rw')
 ·subst ey;cases (show u=Value.ref b from ry);obtain ⟨z,hd,xs,rel,dd⟩:=HA I.hok e;obtain ⟨w',hw,rw'⟩:=RelO.some_of (v:=v) (o:=(atKey xs k).map (·.2)) (by rw [l]; exact rel.val k);obtain ⟨p,hp,ak⟩:=Option.map_eq_some_iff.mp hw;refine wpAny_getItem_heap (tupleKind_room_in1 hu) (Fo I.hok eb) dd hp ?_;rw [ak];exact h w' _ (I.tok _) rw'
theorem SS {Q:VS} (hu:A.units + 1 < cLine) (I:Inv X aa σ H s) (g:I0 H a y o) (ry:RelV y u) (h:∀ s',Inv X aa σ H s'->Q (.bool o.isSome) s') :
  wpAny (model X.prog X.w) A (compareOp .In u (.ref a)) Q E s:=by
 rcases g with ⟨kvs,k,e,ey,l⟩ | ⟨kvs,k,b,e,ey,eb,l⟩
 ·subst ey;obtain ⟨z,hd,vs,rel,dd⟩:=C6 I.hok e;refine wpAny_in_of (FF ry) hd dd.mapOf ?_;rw [← (rel.val k).isSome_eq,← l];exact h _ (I.tok _)
 ·subst ey;cases (show u=Value.ref b from ry);obtain ⟨z,hd,xs,rel,dd⟩:=HA I.hok e;refine wpAny_in_heap (tupleKind_room_in1 hu) (Fo I.hok eb) hd dd ?_;have q:=(rel.val k).isSome_eq;rw [Option.isSome_map] at q;rw [← q,← l];exact h _ (I.tok _)
theorem Op {Q:VS} (hu:A.units + 1 < cLine) (I:Inv X aa σ H s) (g:I0 H a y o) (ry:RelV y u) (h:∀ s',Inv X aa σ H s'->Q (.bool (!o.isSome)) s') :
  wpAny (model X.prog X.w) A (compareOp .NotIn u (.ref a)) Q E s:=by
 rcases g with ⟨kvs,k,e,ey,l⟩ | ⟨kvs,k,b,e,ey,eb,l⟩
 ·subst ey;obtain ⟨z,hd,vs,rel,dd⟩:=C6 I.hok e;refine wpAny_notIn_of (FF ry) hd dd.mapOf ?_;rw [← (rel.val k).isSome_eq,← l];exact h _ (I.tok _)
 ·subst ey;cases (show u=Value.ref b from ry);obtain ⟨z,hd,xs,rel,dd⟩:=HA I.hok e;refine wpAny_notIn_heap (tupleKind_room_in1 hu) (Fo I.hok eb) hd dd ?_;have q:=(rel.val k).isSome_eq;rw [Option.isSome_map] at q;rw [← q,← l];exact h _ (I.tok _)
theorem EI {h':Heap} {t':Nat} {ob:HO} (I:Inv X aa σ H s) (mu:Mut (H a)) (hs:Heap.SameBut a s.heap h') (he:∃ q,h'.get? a=some q) (new:ObjOk X.prog X.w (upd H a ob) h' a ob) :
  Inv X aa σ (upd H a ob) { s with heap:=h',toks:=t' } :=
 I.write (x:=a) (e:=a) mu (.inl rfl) (fun b q hb z=>(hs.2 b hb).trans z) he new
theorem Hu {h':Heap} {kvs:LK} {vs:List (Key × Value)} (z:kvs.length <= sizeLine) (hd:(a == sysModules)=false) (rel:KV kvs vs) (dd:h'.DictOf (Ah P w) a vs) :
  ObjOk P w H' h' a (.dK kvs):=⟨z,hd,vs,rel,dd⟩
theorem Lo {Q:Unit->Shared->Prop} (hu:A.units + 1 < cLine) (I:Inv X aa σ H s) (g:DPut H a y v H') (ry:RelV y u) (rv:RelV v r) (h:∀ s',Inv X aa σ H' s'->Q () s') :
  wpAny (model X.prog X.w) A (setItem (.ref a) u r) Q E s:=by
 rcases g with ⟨kvs,k,e,ey,l,eH⟩ | ⟨kvs,k,b,e,ey,eb,l,eH⟩
 ·subst ey eH;obtain ⟨z,hd,vs,rel,dd⟩:=K8 I.hok e;have hz:vs.length <= sizeLine:=by rw [← rel.length]; exact z
  have hl:(B0 kvs k v).length <= sizeLine:=by have:=B1 kvs k v; omega
  refine wpAny_setItem_pairs (hsz:=hz) (FF ry) dd fun h' dd' hs=>h _ ?_;have he:∃ q,h'.get? a=some q:=let ⟨q,_,_,hq,_⟩:=dd'; ⟨q,hq⟩
  exact EI I (by rw [e]; exact True.intro) hs he (Hu hl hd (rel.put k rv) dd')
 ·subst ey eH;cases (show u=Value.ref b from ry);obtain ⟨z,hd,xs,rel,dd⟩:=Rc I.hok e;have hz:xs.length <= sizeLine:=by rw [← Paired.length rel]; exact z
  have hl:(B0 kvs k v).length <= sizeLine:=by have:=B1 kvs k v; omega
  refine wpAny_setItem_heap (hsz:=hz) (tupleKind_room_in1 hu) (Fo I.hok eb) dd fun h' dd' hs=>h _ ?_;obtain ⟨q,es,ep,hq,h2,h3,h4,_,h5⟩:=dd';refine EI I (by rw [e]; exact True.intro) hs ⟨q,hq⟩ ⟨hl,hd,_,(rel.put k eb rv).keeps fun c ys ec=>?_,q,es,ep,hq,h2,h3,h4,h5⟩;rw [AF (RH ec e (fun z=>nomatch z))];exact ec
end
def Re (i:Expr):Prop:=∀ ov iv,subscripted i false ov iv=operate [ov,iv] (getItem ov iv)
theorem Oq {prog:Program} {env:Env} {value slice:Expr} {T id:String} {Q:VS}
  (hl:typeLookup (.type T) "__getitem__" = pure (some (.builtin id))) (hs:Re slice)
  (h:wpAny (model prog w) A (eval value env) (fun o s₁=>wpAny (model prog w) A (eval slice env) (fun i s₂=>s₂.TypeIs o T/\wpAny (model prog w) A (getItem o i) Q E s₂) E s₁) E s) :
  wpAny (model prog w) A (eval (.Subscript value slice pos) env) Q E s:=by
 refine Subscript_ (wpAny_mono h (fun o s₁ h₁=>wpAny_mono h₁ (fun i s₂ h₂=>?_) fun _ _ x=>x) fun _ _ x=>x);obtain ⟨hT,h₂⟩:=h₂;unfold subscriptTail;refine wpAny_bind ?_;rw [getitemInPython_of_ne hT.not_modules];refine wpAny_bind (wpAny_specialOf hT hl ?_)
 have fin:wpAny (model prog w) A (subscripted slice false o i) (fun r s₃=>wpAny (model prog w) A (letTemporaryGo value o r >>= fun _=>pure r) Q E s₃) E s₂:=by
  rw [hs o i];exact wpAny_operating (wpAny_mono h₂ (fun r s₃ h₃=>wpAny_bind (wpAny_letTemporaryGo (wpAny_pure h₃))) fun _ _ x=>x)
 first
  | exact wpAny_pure (wpAny_bind fin)
  | exact wpAny_bind (wpAny_pure (wpAny_bind fin))
  | exact wpAny_bind fin
theorem JA {y:V} {o:Option V} (I:Inv X aa σ H s) (g:I0 H a y o):s.TypeIs (.ref a) "dict" := by
 rcases g with ⟨kvs,k,e,_,_⟩ | ⟨kvs,k,b,e,_,_,_⟩
 ·obtain ⟨_,_,vs,_,dd⟩:=C6 I.hok e;exact dd.typeIs
 ·obtain ⟨_,_,xs,_,dd⟩:=HA I.hok e;exact dd.typeIs
def Rf (td ty:TE):TE:=fun σ H Q=>td σ H fun x H1=>ty σ H1 fun y H2=>∃ a v,x=.ref a/\I0 H2 a y (some v)/\Q v H2
def SU (ty td:TE):TE:=fun σ H Q=>ty σ H fun y H1=>td σ H1 fun x H2=>∃ a o,x=.ref a/\I0 H2 a y o/\Q (.bl o.isSome) H2
def Os (ty td:TE):TE:=fun σ H Q=>ty σ H fun y H1=>td σ H1 fun x H2=>∃ a o,x=.ref a/\I0 H2 a y o/\Q (.bl (!o.isSome)) H2
def Rg (td ty tv:TE):TS:=fun D σ H=>tv σ H fun v H1=>td σ H1 fun x H2=>ty σ H2 fun y H3=>∃ a H4,x=.ref a/\DPut H3 a y v H4/\D.nx σ H4
section
variable {o i value:Expr} {pos' tpos:Pos} {td ty tv:TE}
theorem BK (hu:X.A.units + 1 < cLine) (ho:PE X o td) (hi:PE X i ty) (hs:Re i):PE X (.Subscript o i pos) (Rf td ty):=by
 intro aa s σ H Q I h;refine Oq PySem.F.slot_dict_getitem.lookup hs (thn (ho aa s σ H _ I h) fun u s1 ⟨x,H1,I1,rx,q1⟩=>thn (hi aa s1 σ H1 _ I1 q1) fun iv s2 ⟨y,H2,I2,ry,a,v,ex,g,q2⟩=>?_);subst ex;obtain rfl:u=Value.ref a:=rx;exact ⟨JA I2 g,Ln hu I2 g ry fun w' s3 I3 rw'=>⟨v,H2,I3,rw',q2⟩⟩
theorem NF (hu:X.A.units + 1 < cLine) (hi:PE X i ty) (ho:PE X o td):PC X .In i o (SU ty td):=by
 intro aa s σ H Q I h;refine thn (hi aa s σ H _ I h) fun iv s1 ⟨y,H1,I1,ry,q1⟩=>thn (ho aa s1 σ H1 _ I1 q1) fun u s2 ⟨x,H2,I2,rx,a,ov,ex,g,q2⟩=>?_;subst ex;obtain rfl:u=Value.ref a:=rx;exact SS hu I2 g ry fun s3 I3=>⟨.bl ov.isSome,H2,I3,rfl,q2⟩
theorem Lp (hu:X.A.units + 1 < cLine) (hi:PE X i ty) (ho:PE X o td):PC X .NotIn i o (Os ty td):=by
 intro aa s σ H Q I h;refine thn (hi aa s σ H _ I h) fun iv s1 ⟨y,H1,I1,ry,q1⟩=>thn (ho aa s1 σ H1 _ I1 q1) fun u s2 ⟨x,H2,I2,rx,a,ov,ex,g,q2⟩=>?_;subst ex;obtain rfl:u=Value.ref a:=rx;exact Op hu I2 g ry fun s3 I3=>⟨.bl (!ov.isSome),H2,I3,rfl,q2⟩
theorem K9 (hu:X.A.units + 1 < cLine) (ho:PE X o td) (hi:PE X i ty) (hv:PE X value tv) (hs:swapsWith value (some (.Subscript o i pos')) pos.line X.env=pure false) :
  PS X (.Assign [.Subscript o i pos'] value pos) (Rg td ty tv):=by
 intro aa s σ H D I h;refine wpAny_Assign_Subscript (thn (hv aa s σ H _ I h) fun r s1 ⟨v,H1,I1,rv,q1⟩=>thn (ho aa s1 σ H1 _ I1 q1) fun u s2 ⟨x,H2,I2,rx,q2⟩=>thn (hi aa s2 σ H2 _ I2 q2) fun iv s3 ⟨y,H3,I3,ry,a,H4,ex,g,q3⟩=>?_) hs;subst ex;obtain rfl:u=Value.ref a:=rx;exact Lo hu I3 g ry rv fun s4 I4=>⟨σ,H4,I4,q3⟩
end
theorem Fp (h:Heap) (hb:sysModules < h.objs.size):ObjOk P w H (h.push { cls:=.type "dict", data:=.dict #[] }) h.objs.size (.dK []) :=
 ⟨Nat.zero_le _,beq_eq_false_iff_ne.mpr (Ne.symm (Nat.ne_of_lt hb)),[],.nil,Heap.DictOf.new h⟩
def QM:TE:=fun _ H Q=>∀ p,H p=none->Q (.ref p) (upd H p (.dK []))
section
theorem Fq:PE X (.Dict [] [] pos) QM:=fun aa s σ H Q I h =>
 wpAny_Dict_empty ⟨.ref s.heap.objs.size,_,I.laid (a:=s.heap.objs.size) (o:=.dK []) (t':=s.toks) (fun _ _ q=>get?_push_of_some _ q) (Nat.le_refl _) (Fp s.heap I.big),rfl,h _ (I.hok.fresh (Nat.le_refl _))⟩
end
def KD:List (TE × TE)->St->Hp->(List (V × V)->Hp->Prop)->Prop
  | [],_,H,Q=>Q [] H
  | (tk,tv) :: r,σ,H,Q=>tk σ H fun x H1=>tv σ H1 fun y H2=>KD r σ H2 fun ps H3=>Q ((x,y) :: ps) H3
abbrev VV:List (V × V)->List (Value × Value)->Prop:=Paired fun p q=>RelV p.1 q.1/\RelV p.2 q.2
def PPs (X:Cx) (pos:Pos) (keys:List (Option Expr)) (values:List Expr) (trs:List (TE × TE)):Prop :=
 ∀ (aa:LO) (s:Shared) (σ:St) (H:Hp) (Q:List (V × V)->Hp->Prop),Inv X aa σ H s->KD trs σ H Q ->
  wpAny (model X.prog X.w) X.A (evalPairs (pairTrees keys values X.env pos)) (fun vs s'=>∃ ps H',Inv X aa σ H' s'/\VV ps vs/\Q ps H') X.xe s
theorem Ot:PPs X pos [] [] []:=fun aa s σ H Q I h=>pairTrees_nil_walk ⟨[],H,I,.nil,h⟩
theorem EJ {k v:Expr} {ks:List (Option Expr)} {vs:List Expr} {tk tv:TE} {trs:List (TE × TE)} (hk:PE X k tk) (hv:PE X v tv) (hr:PPs X pos ks vs trs) :
  PPs X pos (some k :: ks) (v :: vs) ((tk,tv) :: trs):=fun aa s σ H Q I h =>
 pairTrees_cons_walk (thn (hk aa s σ H _ I h) fun u s1 ⟨x,H1,I1,rx,q1⟩=>thn (hv aa s1 σ H1 _ I1 q1) fun w2 s2 ⟨y,H2,I2,ry,q2⟩ =>
  thn (hr aa s2 σ H2 _ I2 q2) fun ws s3 ⟨ps,H3,I3,rel,q3⟩=>⟨(x,y) :: ps,H3,I3,.cons ⟨rx,ry⟩ rel,q3⟩)
def Eo (kvs more:LK):LK:=more.foldl (fun acc kv=>B0 acc kv.1 kv.2) kvs
theorem KV.merge:∀ {more:LK} {rs:List (Key × Value)} {kvs:LK} {vs:List (Key × Value)},KV more rs->KV kvs vs->KV (Eo kvs more) (merged vs rs):=by
 intro more rs kvs vs r;unfold KV at r;induction r generalizing kvs vs with
 | nil=>intro q; exact q
 | @cons p q ps qs h t ih =>
  intro r0
  have e:KV (B0 kvs p.1 p.2) (stored vs q.1 q.2):=by
   have:=r0.put p.1 h.2;rw [← h.1]; exact this
  exact ih e
theorem Dg:∀ (more kvs:LK),(Eo kvs more).length <= kvs.length + more.length
 | [],kvs=>by show kvs.length <= kvs.length + 0; omega
 | p :: r,kvs=>by
  have h1:=Dg r (B0 kvs p.1 p.2);have h2:=B1 kvs p.1 p.2;show (Eo (B0 kvs p.1 p.2) r).length <= _;rw [length_cons]; omega
theorem Fs {P:Program} {w:World}:∀ {kvs:LK} {ws:List (Value × Value)},VV (kvs.map fun kv=>(kV kv.1,kv.2)) ws->∃ rs,Carries (Ah P w) ws rs/\KV kvs rs
 | [],_,r=>by rw [map_nil] at r; cases r; exact ⟨[],True.intro,.nil⟩
 | p :: kvs,_,r=>by
  rw [map_cons] at r;cases r with
  | @cons a b as bs h t =>
   obtain ⟨rs,c,q⟩:=Fs (P:=P) (w:=w) t;obtain ⟨b1,b2⟩:=b;exact ⟨(p.1,b2) :: rs,⟨FF h.1,rfl,c⟩,.cons ⟨rfl,h.2⟩ q⟩
def Rh (trs:List (TE × TE)):TE:=fun σ H Q=>∀ p,H p=none->KD trs σ (upd H p (.dK [])) fun ps H2=>H2 p=some (.dK [])/\∃ kvs:LK,ps=kvs.map (fun kv=>(kV kv.1,kv.2))/\kvs.length <= 15/\Q (.ref p) (upd H2 p (.dK (Eo [] kvs)))
theorem Ou {keys:List (Option Expr)} {values:List Expr} {trs:List (TE × TE)} (h:PPs X pos keys values trs) (bd:keys.all (·.isSome)=true) (hl:keys.length=values.length) (h0:keys ≠ [])
  (h15:keys.length <= 15):PE X (.Dict keys values pos) (Rh trs):=by
 intro aa s σ H Q I q;have hn:=I.hok.fresh (Nat.le_refl s.heap.objs.size);have I1:=I.laid (a:=s.heap.objs.size) (o:=.dK []) (h':=s.heap.push { cls:=.type "dict", data:=.dict #[] }) (t':=s.toks) (fun _ _ q=>get?_push_of_some _ q) (Nat.le_refl _) (Fp s.heap I.big);refine wpAny_Dict_walk (knd:=Ah X.prog X.w) bd hl h0 h15 (thn (h aa _ σ _ _ I1 (q _ hn)) fun ws s2 ⟨ps,H2,I2,rel,e,kvs,ep,lk,q2⟩=>?_);subst ep;obtain ⟨rs,c,rk⟩:=Fs (P:=X.prog) (w:=X.w) rel;obtain ⟨z,hd,vs0,r0,dd⟩:=K8 I2.hok e;cases r0;refine ⟨rs,c,dd,fun h' dd' hs=>⟨.ref s.heap.objs.size,_,?_,rfl,q2⟩⟩
 have hz:(Eo [] kvs).length <= sizeLine:=by
  have h1:=Dg kvs [];rw [length_nil] at h1;rw [sizeLine_eq]; omega
 have he:∃ q,h'.get? s.heap.objs.size=some q:=let ⟨q,_,_,hq,_⟩:=dd'; ⟨q,hq⟩
 exact EI I2 (by rw [e]; exact True.intro) hs he (Hu hz hd (rk.merge .nil) dd')
def IsD (H:Hp) (a:Addr):Prop:=(∃ kvs,Rd H a (.dK kvs))\/∃ kvs,Rd H a (.dT kvs)
theorem NG (I:Inv X aa σ H s) (d:IsD H a) :
  s.TypeIs (.ref a) "dict" /\ (∀ b,Value.ref a=.ref b->∃ ob,s.heap.get? b=some ob/\ob.dict=none)/\(a == sysModules)=false:=by
 rcases d with ⟨kvs,e⟩ | ⟨kvs,e⟩
 ·obtain ⟨_,hd,vs,_,dd⟩:=C6 I.hok e;refine ⟨dd.typeIs,fun b q=>?_,hd⟩;cases q;obtain ⟨ob,_,_,h1,h2,_⟩:=dd;exact ⟨ob,h1,h2.2.1⟩
 ·obtain ⟨_,hd,xs,_,dd⟩:=HA I.hok e;refine ⟨dd.typeIs,fun b q=>?_,hd⟩;cases q;obtain ⟨ob,_,_,h1,h2,_⟩:=dd;exact ⟨ob,h1,h2.2.1⟩
end L2
namespace Att
open PySem PySem.W PySem.Calls PyProof.Rows
theorem FM {P:Params}:∀ (ns:List Int) (vs:List Value),WellAll P h vs (ns.map WData.int)->IntsAre vs ns:=by
 intro ns;induction ns with
 | nil =>
  intro vs w;rw [map_nil] at w;cases w;exact .nil
 | cons n ns ih =>
  intro vs w;rw [map_cons] at w;cases w with
  | cons a b =>
   cases a;exact .cons _ _ (ih _ b)
theorem Lq {l:OpenLaw} {n:Nat} (hn:l.most=some n) {P:Params} {args:List WData} {vals:List Value}
    (b0:l.row.toRowW.claim.pre args=true) (hwl:WellAll P h vals args) :
    ∃ a vs ns,vals=[Value.ref a]/\args=[WData.list (ns.map WData.int)]/\h.get? a=some { cls:=.type "list", data:=.seq vs.toArray }/\IntsAre vs ns/\ns.length <= n:=by
  have ah:WShape.hasAll [] args [.list .int]=true:=(pre_splitW b0).1;have hc:l.pre.holds [] { args:=args }=true:=(pre_splitW b0).2;obtain ⟨d,r,rfl,h1,h2⟩:=hasAllW_cons ah;obtain rfl:=hasAllW_nil h2;obtain ⟨xs,rfl,h3⟩:=hasW_list h1;obtain ⟨ns,rfl⟩:=items_int h3
  have ay:ns.length <= n:=by
    unfold OpenLaw.pre at hc
    have h4:(WTm.not (.lt (.lit (.int (n:Int))) (.len (.arg 0)))).holds [] { args:=[.list (ns.map .int)] }=true:=by
      have h4:=(holds_andW hc).1;rw [hn] at h4;exact h4
    have h5:=condW_of h4 (w_not (w_lt w_lit (w_len_list (w_arg rfl))));rw [length_map] at h5;refine Nat.le_of_not_lt fun q=>?_;have q':(n:Int) < ((ns.length:Nat):Int):=by omega
    first
      | (rw [decide_eq_true q'] at h5; exact absurd h5 (by decide))
      | (simp at h5; omega)
  cases hwl with
  | cons w1 w2 =>
    cases w2;cases w1 with
    | list ho bd=>exact ⟨_,_,ns,rfl,rfl,ho,FM ns _ bd,ay⟩
theorem Lr (l:OpenLaw) (args:List WData):l.row.toRowW.claim.post args (.bool true) args=true :=
 postW_of (r:=l.row.toRowW) (X:=(true == true))
  (show WShape.has [] (.bool true) .bool=true by first | rfl | decide | simp [WShape.has,WShape.arms,WShape.armsAll])
  (show (WTm.eq .res (.lit (.bool true))).value [] { args:=args,res:=some (.bool true),after:=args }=some (.bool (true == true)) from w_eq_bool (w_res rfl) w_lit) rfl
theorem attach_call {l:OpenLaw} {n:Nat} {q:Program} {loose:List Str} {XP:(Str->Option Value)->Heap->Prop} {YP:World->Heap->Prop} {d:DefRec}
  (hn:l.most=some n) (hdf:d.params.defaults=[])
  (call:∀ (w:World) (s₀ s₁:Shared) (mg mb:SV) (fa:Addr) (o:Obj) (pm cd doc:Value) (a:Addr) (vs:List Value) (ns:List Int),
   Ground q loose [] XP w s₀ mg mb s₁.heap->YP w s₁.heap ->
   s₁.heap.get? fa=some o->o.data=.func (docDef d.name d.params d.body d.scope pm cd doc)->s₁.heap.CodeRec cd d.name->mg d.name=some (.ref fa) ->
   s₁.heap.get? a=some { cls:=.type "list", data:=.seq vs.toArray }->IntsAre vs ns->ns.length <= n->s₁.gens=#[] ->
   codeAny (model l.prog w) callerA (.call (.ref fa) ⟨[.ref a],[]⟩) (fun r s'=>r=.ok (.ret (.bool true))/\OldK s₁.heap s'.heap/\s'.os=s₁.os/\AllBare s'.gens) s₁) :
  WalkO q loose XP YP l.row.toRowW d [] (fun f vs=>PySem.call f vs):=by
 intro w s₀ s₁ mg mb G Y fa o pm cd doc dV kV ho hd hcd hD hmg hg args vals as b0 hlay hrd hwl hlo;obtain rfl:dV=.none:=Dflts.none hD hdf;obtain rfl:kV=.none:=Dflts.noKw hD;obtain ⟨a,vs,ns,rfl,rfl,cj,bf,ay⟩:=Lq hn b0 hwl;refine enter_call (codeAny_mono (call w s₀ s₁ mg mb fa o pm cd doc a vs ns G Y ho (fd_plain hd) hcd hmg cj bf ay hg) fun r s' hq=>?_);obtain ⟨rfl,h2,h3,h4⟩:=hq;exact ⟨.inl ⟨.bool true,.bool true,[],rfl,fun _=>rfl,.bool true,Lr l _,fun _=>⟨List.Pairwise.nil,fun _ hm=>(nomatch hm)⟩⟩,h2,h3,h4⟩
end Att
namespace L2
open PySem PySem.Spec PyProof.Rows
theorem DT:∀ {vs:List Value} {ns:List Int},IntsAre vs ns->Vals (ns.map V.int) vs
 | _,_,.nil=>.nil
 | _,_,.cons n t h=>.cons ⟨t,rfl⟩ (DT h)
end L2
namespace L2
open PySem PySem.Spec PyProof.Rows
def inClass (s:Stmt) (j:Nat):Stmt:=match s with
 | .ClassDef _ _ _ body _ _ _ _ _ _ _=>body.getD j (.Pass ⟨0,0,0,0⟩)
 | _=>.Pass ⟨0,0,0,0⟩
def defArgs (s:Stmt):Arguments:=match s with
 | .FunctionDef _ a _ _ _ _ _ _ _ _=>a
 | _=>{ posonlyargs:=[],args:=[],vararg:=none,kwonlyargs:=[],kw_defaults:=[],kwarg:=none,defaults:=[] }
def defBody (s:Stmt):List Stmt:=match s with
 | .FunctionDef _ _ b _ _ _ _ _ _ _=>b
 | _=>[]
def defScope (s:Stmt):Scope:=match s with
 | .FunctionDef _ _ _ _ _ _ sc _ _ _=>sc
 | _=>{ kind:=.function,names:=[],isGenerator:=false,isCoroutine:=false }
abbrev CX0:CXT:=fun _ _ _ _ _ _=>False
abbrev E0:XK:=fun _ _ _=>False
theorem AQ:Di CX0 X E0:=fun _ _ _ _ _ _ _ h=>h.elim
structure Fun (K:FG) (x qual:Str) (st:Stmt) (f:Addr) (fd:FuncData):Prop where
 ex:∃ (oc:Value) (od:Option Addr) (kV doc pm:Value) (an:Option Addr) (ad ct:Value) (osl:Array (Option Value)),
  fd=W.fnOf x qual (defArgs st) (defBody st) (defScope st) .none kV doc pm an ad ct/\K.lookup f=some ⟨oc,od,.func fd,osl⟩/\W.codeIn K ad qual=true
 kp:W.keepIn K (.ref f)=true
section
theorem Fun.ok {qual:Str} {st:Stmt} {fd:FuncData} {ps:List Str} {k:Nat} {sp:Sp} (F:Fun K x qual st f fd) (S:AN N ps (defScope st)) (len:∀ vs H Q E,sp vs H Q E->vs.length=ps.length)
  (bt:∀ (ad:Value) (A:Around) (outer:List Env) (s:Shared) (H:Hp) (vs:List V) (Q:VK) (E:XK),Room k (A.deeper (envOfC qual (defScope st) s.heap.objs.size f ad))->sp vs H Q E ->
   ∃ t,PSs (Iu CX0 P w K mg base N qual (defScope st) f ad A outer s H E).nox (defBody st) t/\t { nx:=fun _ H'=>Q .non H',rt:=Q } (EE N vs) H):Ae P w K mg base CX0 (k + 1) f fd ps sp:=by
 obtain ⟨oc,od,kV,doc,pm,an,ad,ct,osl,rfl,lk,hcd⟩:=F.ex;refine Pu lk hcd S len fun A outer s H vs Q E hr hsp=>?_;obtain ⟨t,h,q⟩:=bt ad A outer s H vs Q E hr hsp;exact ⟨t,h.nox,q⟩
theorem Fun.binds {qual:Str} {st:Stmt} {fd:FuncData} {ps:List Str} (F:Fun K x qual st f fd)
  (h:∀ (kV doc pm:Value) (an:Option Addr) (ad ct:Value) (us:List Value),us.length=ps.length->bindArgs (W.fnOf x qual (defArgs st) (defBody st) (defScope st) .none kV doc pm an ad ct) ⟨us,[]⟩=pure (ps.zip us)):Binds K fd ps []:=by
 obtain ⟨oc,od,kV,doc,pm,an,ad,ct,osl,rfl,lk,hcd⟩:=F.ex;exact .all (h kV doc pm an ad ct)
theorem fun_mk {qual:Str} {st:Stmt} {oc:Value} {od an:Option Addr} {osl:Array (Option Value)} {kV doc pm ad ct:Value} (l:K.lookup f=some ⟨oc,od,.func (W.fnOf x qual (defArgs st) (defBody st) (defScope st) .none kV doc pm an ad ct),osl⟩)
  (c:W.codeIn K ad qual=true) (k:W.keepIn K (.ref f)=true):Fun K x qual st f (W.fnOf x qual (defArgs st) (defBody st) (defScope st) .none kV doc pm an ad ct):=⟨⟨oc,od,kV,doc,pm,an,ad,ct,osl,rfl,l,c⟩,k⟩
end
theorem C7 {k:Nat} (hr:Room k A):A.units + 1 < cLine:=Nat.lt_of_le_of_lt (Nat.add_le_add_left (by decide:1 <= 64) _) hr.units
theorem Ag {n:Nat} (h:n <= 1000):n < sizeLine:=Nat.lt_of_le_of_lt h (by decide)
section
theorem pv (i:Nat) (hN:X.N[i]?=some x:=by rfl) (hv:Vis X.env.scope x:=by first | exact Or.inl rfl | exact Or.inr (Or.inl rfl) | exact Or.inr (Or.inr rfl)) (hd:(x == ("__debug__" : Str))=false:=by decide)
  (hcd:(x == ("__classdict__" : Str))=false:=by decide):PE X (.Name x pos) (Jw i):=P9 hN hv hd hcd
end
theorem As {A B:Prop} (h:B):if false=true then A else B:=by
 rw [if_neg Bool.false_ne_true];exact h
theorem BY {A B:Prop} (h:A):if true=true then A else B:=by
 rw [if_pos rfl];exact h
theorem Bn {c A B:Prop} [Decidable c] (h1:c->A) (h2:¬ c->B):if c then A else B:=by
 by_cases h:c
 ·rw [if_pos h];exact h1 h
 ·rw [if_neg h];exact h2 h
theorem LA {c A B:Prop} [Decidable c] (hc:c) (h:B):if (!decide c)=true then A else B:=by
 rw [decide_eq_true hc];exact As h
def Same (H H':Hp):Prop:=∀ b o,H b=some o->H' b=some o
theorem Same.refl (H:Hp):Same H H:=fun _ _ h=>h
theorem Same.trans {H1 H2:Hp} (a:Same H H1) (b:Same H1 H2):Same H H2:=fun c o h=>b c o (a c o h)
theorem Same.seq (e:Same H H') (h:SqL K H a xs):SqL K H' a xs:=by
 rcases h with (h | ⟨o,h⟩) | h
 ·exact .inl (.inl (e _ _ h))
 ·exact .inl (.inr ⟨o,e _ _ h⟩)
 ·exact .inr h
section
variable {κ:Type} [DecidableEq κ]
theorem Ov {kvs:List (κ × V)} {k:κ} {v:V} (h:A7 kvs k=some v):k ∈ kvs.map (·.1):=by
 have q:(kvs.any fun kv=>decide (kv.1=k))=true:=by
  rw [EH,h]
  all_goals rfl
 obtain ⟨p,hp,e⟩:=any_eq_true.mp q;exact mem_map.mpr ⟨p,hp,of_decide_eq_true e⟩
theorem LB:∀ {l:List κ} {k:κ},l.Nodup->¬ k ∈ l->(l++[k]).Nodup
 | [],k,_,_=>by simp
 | a :: r,k,h,hk=>by
  obtain ⟨h1,h2⟩:=nodup_cons.mp h;show (a :: (r++[k])).Nodup;refine nodup_cons.mpr ⟨fun m=>?_,LB h2 fun m=>hk (mem_cons.mpr (Or.inr m))⟩;rcases mem_append.mp m with q | q
  ·exact h1 q
  ·exact hk (mem_cons.mpr (Or.inl (mem_singleton.mp q).symm))
end
end L2
end
section
variable {X:L2.Cx} {H:L2.Hp} {H':L2.Hp} {s:PySem.Shared} {pos:PySem.Pos} {σ:L2.St} {P:PySem.Program} {w:PySem.World} {A:PySem.Around} {aa:LO} {x:PySem.Str} {a:PySem.Addr} {K:FG} {C:PySem.Addr} {E:VS} {h:PySem.Heap} {us:List PySem.Value} {f:PySem.Addr} {u:PySem.Value} {xs:List L2.V} {e:PySem.Expr} {te:L2.TE} {base:PySem.Heap} {N:List PySem.Str} {mg:SV}
section
namespace L2
open PySem PySem.Spec PyProof.Rows
theorem Inv.track {o:HO} (I:Inv X aa σ H s) (hn:H a=none) (hL:a ≠ X.env.locals) (h1:a ∈ X.ex\/X.s₀.heap.objs.size <= a)
  (h2:∀ x c,X.env.cells.lookup x=some c->c ≠ a) (h3:∀ p ∈ X.pn++aa,p.1 ≠ a) (new:ObjOk X.prog X.w (upd H a o) s.heap a o):Inv X aa σ (upd H a o) s:=by
 have av:∀ b u,H b=some u->b ≠ a:=fun b u e=>AI e hn
 refine I.step (h':=s.heap) (H':=upd H a o) (g':=s.gens) (t':=s.toks) (d':=s.drawn) (ch:=[a])
  (fun b hb=>by have e:b=a:=by simpa using hb
                subst e; exact ⟨h1,hL,h2,h3⟩)
  (fun b o _ _ _ e _=>e) (fun b o _ _ _ e _=>⟨o.slots,e⟩) (fun b o hc e n=>by rw [AF (by simpa using hc)]; exact n)
  (fun b o _ e=>⟨o,e⟩) (fun b xs e=>by rw [AF (av b _ e)]; exact e) (fun b o u e=>by rw [AF (av b _ e)]; exact e)
  (fun b ps e=>⟨#[],by rw [AF (av b _ e),e]; simp⟩) (fun m h=>h) (fun b u e=>?_) I.bare
 by_cases hb:b=a
 ·subst hb; rw [upd_same] at e; cases e; exact new
 ·rw [AF hb] at e;exact (I.hok b u e).stay (fun c v _ q=>q) (fun c q=>by rw [AF (av c _ q)]; exact q) fun c xs q=>by rw [AF (av c _ q)]; exact q
structure CompFits (osc sc:Scope) (N N':List Str) (ix:List (Option Nat)):Prop where
 kind:sc.kind=.function
 nocell:∀ y ∈ sc.names,y.2 ≠ .cell
 free:∀ y ∈ sc.names,y.2=.free->osc.names.lookup y.1=some .cell\/osc.names.lookup y.1=some .free
 loc:∀ y ∈ sc.names,y.2=.local->sc.names.lookup y.1=some .local
 len:ix.length=N'.length
 slot:∀ (j:Nat) (x:Str) (i:Nat),N'[j]?=some x->ix[j]?=some (some i)->N[i]?=some x/\sc.names.lookup x=some .free
def Px (sc:Scope) (N:List Str) (x:Str):Option Nat->Bool
 | none=>true
 | some i=>decide (N[i]?=some x) && decide (sc.names.lookup x=some .free)
def Cd (sc:Scope) (N:List Str):List Str->List (Option Nat)->Bool
 | [],[]=>true
 | x :: r,o :: os=>Px sc N x o && Cd sc N r os
 | _,_=>false
def HB (osc sc:Scope) (N N':List Str) (ix:List (Option Nat)):Bool :=
 decide (sc.kind=.function) && (sc.names.all fun y=>decide (y.2 ≠ .cell) && (decide (y.2 ≠ .free) || decide (osc.names.lookup y.1=some .cell) || decide (osc.names.lookup y.1=some .free)) &&
  (decide (y.2 ≠ .local) || decide (sc.names.lookup y.1=some .local))) && Cd sc N N' ix
theorem Dj {sc:Scope} {N:List Str}:∀ {N':List Str} {ix:List (Option Nat)},Cd sc N N' ix=true->ix.length=N'.length
 | [],[],_=>rfl
 | [],_ :: _,h=>by simp [Cd] at h
 | _ :: _,[],h=>by simp [Cd] at h
 | x :: r,o :: os,h=>by
  simp only [Cd,Bool.and_eq_true] at h;simp only [length_cons,Dj h.2]
theorem Ep {sc:Scope} {N:List Str}:∀ {N':List Str} {ix:List (Option Nat)},Cd sc N N' ix=true->∀ (j:Nat) (x:Str) (i:Nat),N'[j]?=some x->ix[j]?=some (some i)->N[i]?=some x/\sc.names.lookup x=some .free
 | [],_,_,_,_,_,e,_=>by simp at e
 | _ :: _,[],h,_,_,_,_,_=>by simp [Cd] at h
 | y :: r,o :: os,h,j,x,i,e1,e2=>by
  simp only [Cd,Bool.and_eq_true] at h;cases j with
  | zero =>
   simp only [List.getElem?_cons_zero,Option.some.injEq] at e1 e2;subst e1 e2;have h1:=h.1;simp only [Px,Bool.and_eq_true,decide_eq_true_eq] at h1;exact h1
  | succ j =>
   simp only [List.getElem?_cons_succ] at e1 e2;exact Ep h.2 j x i e1 e2
theorem CompFits.of {osc sc:Scope} {N':List Str} {ix:List (Option Nat)} (h:HB osc sc N N' ix=true):CompFits osc sc N N' ix:=by
 simp only [HB,Bool.and_eq_true,decide_eq_true_eq,List.all_eq_true,Bool.or_eq_true] at h;obtain ⟨⟨h1,h2⟩,h3⟩:=h;refine ⟨h1,fun y hy=>(h2 y hy).1.1,fun y hy e=>?_,fun y hy e=>?_,Dj h3,Ep h3⟩
 ·rcases (h2 y hy).1.2 with (z | z) | z
  ·exact absurd e z
  ·exact .inl z
  ·exact .inr z
 ·rcases (h2 y hy).2 with z | z
  ·exact absurd e z
  ·exact z
abbrev CN (env:Env):Str × NameKind->Str × NameKind:=fun (n,k)=>if (k == NameKind.free && env.scope.kind == .function && env.kindOf n == some .cell) then (n,NameKind.cell) else (n,k)
theorem EK (env:Env) (y:Str × NameKind):(CN env y).1=y.1:=by
 obtain ⟨n,k⟩:=y; simp only [CN]; split <;> rfl
theorem Ls (env:Env) (n:Str):(CN env (n,.free)).2=.cell\/(CN env (n,.free)).2=.free:=by
 simp only [CN]; split
 ·exact .inl rfl
 ·exact .inr rfl
theorem Hv (env:Env) (y:Str × NameKind) (h:y.2 ≠ .free):CN env y=y:=by
 obtain ⟨n,k⟩:=y;have e:(k == NameKind.free)=false:=by simpa using h
 simp only [CN,e,Bool.false_and,Bool.false_eq_true,if_false]
theorem Ce {env:Env}:∀ {names:List (Str × NameKind)} {x:Str},names.lookup x=some .free->(names.map (CN env)).lookup x=some .cell\/(names.map (CN env)).lookup x=some .free
  | [],_,h=>by simp at h
  | (n,k) :: r,x,h=>by
    rw [map_cons]
    have e:CN env (n,k)=(n,(CN env (n,k)).2):=by
      have:=EK env (n,k);exact Prod.ext this rfl
    rw [e];cases hx:x == n with
    | true =>
      simp only [lookup_cons,hx] at h ⊢;cases h;rcases Ls env n with z | z
      · rw [z]; exact .inl rfl
      · rw [z]; exact .inr rfl
    | false =>
      simp only [lookup_cons,hx] at h ⊢;exact Ce h
theorem FH {env:Env}:∀ {names:List (Str × NameKind)} {x:Str},(∀ y ∈ names,y.2 ≠ .cell)->((names.map (CN env)).lookup x=some .cell\/(names.map (CN env)).lookup x=some .free)->(x,NameKind.free) ∈ names
  | [],_,_,h=>by simp at h
  | (n,k) :: r,x,hc,h=>by
    rw [map_cons] at h;have e:CN env (n,k)=(n,(CN env (n,k)).2):=Prod.ext (EK env (n,k)) rfl;rw [e] at h;cases hx:x == n with
    | true =>
      simp only [lookup_cons,hx] at h;have exn:x=n:=by simpa using hx
      subst exn;by_cases hk:k=.free
      · subst hk; exact mem_cons_self
      · rw [Hv env (x,k) hk] at h
        rcases h with z | z
        · have:k=.cell:=by simpa using z
          exact absurd this (hc (x,k) mem_cons_self)
        · have:k=.free:=by simpa using z
          exact absurd this hk
    | false =>
      simp only [lookup_cons,hx] at h;exact mem_cons_of_mem _ (FH (fun y hy=>hc y (mem_cons_of_mem _ hy)) h)
theorem Hw {env:Env} {f:Str × NameKind->List (Str × Addr)->Sem (ForInStep (List (Str × Addr)))}
  (h1:∀ y acc,y.2 ≠ .free->f y acc=pure (.yield acc)) (h2:∀ y acc c,y.2=.free->env.cells.lookup y.1=some c->f y acc=pure (.yield ((y.1,c) :: acc))) :
  ∀ (names:List (Str × NameKind)) (acc:List (Str × Addr)),(∀ y ∈ names,y.2=.free->∃ c,env.cells.lookup y.1=some c)->(∀ x c,acc.lookup x=some c->env.cells.lookup x=some c) ->
   ∃ cl,forIn names acc f=(pure cl:Sem _)/\(∀ x c,cl.lookup x=some c->env.cells.lookup x=some c)/\(∀ y ∈ names,y.2=.free->∃ c,cl.lookup y.1=some c)/\∀ x c,acc.lookup x=some c->∃ c',cl.lookup x=some c'
 | [],acc,_,ha=>⟨acc,rfl,ha,fun _ hy=>(nomatch hy),fun x c e=>⟨c,e⟩⟩
 | y :: r,acc,hn,ha=>by
  have hr:∀ z ∈ r,z.2=.free->∃ c,env.cells.lookup z.1=some c:=fun z hz=>hn z (mem_cons_of_mem _ hz);by_cases hy:y.2=.free
  ·obtain ⟨c,hc⟩:=hn y mem_cons_self hy
   obtain ⟨cl,e,p1,p2,p3⟩:=Hw h1 h2 r ((y.1,c) :: acc) hr fun x d e=>by
    cases hx:x == y.1 with
    | true =>
     simp only [lookup_cons,hx,Option.some.injEq] at e;have:x=y.1:=by simpa using hx
     rw [this,← e]; exact hc
    | false =>
     simp only [lookup_cons,hx] at e;exact ha x d e
   refine ⟨cl,by rw [List.forIn_cons,h2 y acc c hy hc,pure_bind]; exact e,p1,fun z hz hf=>?_,fun x d e=>?_⟩
   ·rcases mem_cons.mp hz with rfl | hz
    ·exact p3 z.1 c (by simp [lookup_cons])
    ·exact p2 z hz hf
   ·cases hx:x == y.1 with
    | true=>exact p3 x c (by simp [lookup_cons,hx])
    | false=>exact p3 x d (by simp only [lookup_cons,hx]; exact e)
  ·obtain ⟨cl,e,p1,p2,p3⟩:=Hw h1 h2 r acc hr ha;refine ⟨cl,by rw [List.forIn_cons,h1 y acc hy,pure_bind]; exact e,p1,fun z hz hf=>?_,p3⟩;rcases mem_cons.mp hz with rfl | hz
   ·exact absurd hf hy
   ·exact p2 z hz hf
theorem LD {env:Env} {scope:Scope} (hn:∀ y ∈ scope.names,y.2=.free->∃ c,env.cells.lookup y.1=some c) :
  ∃ cl,closureFor scope env=pure cl/\(∀ x c,cl.lookup x=some c->env.cells.lookup x=some c)/\∀ y ∈ scope.names,y.2=.free->∃ c,cl.lookup y.1=some c:=by
 obtain ⟨cl,e,p1,p2,_⟩:=Hw (env:=env) (f:=fun (x:Str × NameKind) (r:List (Str × Addr))=>if (x.2 == NameKind.free)=true then (cellOf env x.1 >>= fun a=>pure (ForInStep.yield ((x.1,a) :: r))) else pure (ForInStep.yield r)) (fun y acc hy=>by
  have:(y.2 == NameKind.free)=false:=by simpa using hy
  rw [this,if_neg Bool.false_ne_true]) (fun y acc c hy hc=>by
  have h0:(y.2 == NameKind.free)=true:=by rw [hy]; rfl
  rw [if_pos h0];simp only [cellOf,hc]
  rfl) scope.names [] hn fun x c e=>by simp at e
 refine ⟨cl,?_,p1,p2⟩;have e0:closureFor scope env=(forIn scope.names [] (fun (x:Str × NameKind) (r:List (Str × Addr))=>if (x.2 == NameKind.free)=true then (cellOf env x.1 >>= fun a=>pure (ForInStep.yield ((x.1,a) :: r))) else pure (ForInStep.yield r)) >>= fun cs=>pure cs):=rfl;rw [e0,e];rfl
def Ao (X:Cx) (N':List Str) (scope:Scope) (cl:List (Str × Addr)) (s:Shared) (H:Hp) (C:Addr) (fp:List Addr) (pn:LO):Cx where
 prog:=X.prog
 w:=X.w
 K:=X.K
 mg:=X.mg
 base:=X.base
 A:=X.A
 N:=N'
 s₀:=s
 H₀:=H
 env:=compEnvC scope cl C X.env
 outer:=X.stack
 stack:=X.stack
 ex:=fp
 fn:=fun _=>false
 calm:=X.calm
 pn:=pn
 xe:=fun _ _=>False
def B2 (ix:List (Option Nat)) (σ:St):St:=ix.map fun o=>o.bind fun i=>(σ[i]?).join
theorem LF {ix:List (Option Nat)} {j:Nat} {v:V} (h:(B2 ix σ)[j]?=some (some v)):∃ i,ix[j]?=some (some i)/\σ[i]?=some (some v):=by
 unfold B2 at h;rw [getElem?_map] at h;cases e:ix[j]? with
 | none=>rw [e] at h; cases h
 | some o =>
  rw [e] at h;simp only [Option.map_some,Option.some.injEq] at h;cases o with
  | none=>cases h
  | some i =>
   refine ⟨i,rfl,?_⟩;simp only [Option.bind_some] at h;cases q:σ[i]? with
   | none=>rw [q] at h; cases h
   | some u=>rw [q] at h; simp only [Option.join_some] at h; rw [h]
section
variable {N':List Str} {ix:List (Option Nat)} {scope:Scope} {cl:List (Str × Addr)} {fp:List Addr}
theorem Ow (I:Inv X aa σ H s) (hf:CompFits X.env.scope scope X.N N' ix) (c1:∀ x c,cl.lookup x=some c->X.env.cells.lookup x=some c) (c2:∀ y ∈ scope.names,y.2=.free->∃ c,cl.lookup y.1=some c)
  (hC:s.heap.objs.size <= C) (hfp:∀ b ∈ fp,Bf X aa H b) (hlt:∀ b ∈ fp,b < s.heap.objs.size):(Ao X N' scope cl s H C fp (X.pn++aa)).Ok where
 mod:=I.mod
 kind:=hf.kind
 glob:=I.ok.glob
 blt:=I.ok.blt
 above:=hC
 inj:=fun x y c e1 e2=>I.ok.inj x y c (c1 x c e1) (c1 y c e2)
 has:=fun x h=>by
  have hm:(x,NameKind.free) ∈ scope.names:=FH (env:=X.env) hf.nocell h;exact c2 (x,.free) hm rfl
 cab:=fun x c h=>by cases h
 hd:=I.ok.hd
 frames:=I.ok.frames
 stk:=.inl rfl
 exf:=fun b hb=>⟨Nat.ne_of_lt (Nat.lt_of_lt_of_le (hlt b hb) hC),fun x c e=>(hfp b hb).2.2.2.2.1 x c (c1 x c e)⟩
 bs:=I.bs
 bsz:=Nat.le_trans I.ok.bsz I.sz
 noex:=fun b o e hb=>by
  rcases (hfp b hb).2.2.2.1 with z | z
  ·exact I.ok.noex b o e z
  ·exact absurd (Nat.lt_of_lt_of_le (Nat.lt_of_lt_of_le (lt_size e) I.ok.bsz) z) (Nat.lt_irrefl _)
 exfs:=fun b hb z=>by
  rcases mem_cons.mp (I.stkSub b z) with e | e
  ·exact (hfp b hb).2.1 e
  ·exact (hfp b hb).2.2.1 e
 funs:=I.stack
 frf:=I.stkFree
theorem KF (I:Inv X aa σ H s) (hf:CompFits X.env.scope scope X.N N' ix) (c1:∀ x c,cl.lookup x=some c->X.env.cells.lookup x=some c) (c2:∀ y ∈ scope.names,y.2=.free->∃ c,cl.lookup y.1=some c)
  (hC:s.heap.objs.size <= C) (hfp:∀ b ∈ fp,Bf X aa H b) (hlt:∀ b ∈ fp,b < s.heap.objs.size) {h₁:Heap} {tk:Nat} {m:SV} (old:∀ b o,s.heap.get? b=some o->h₁.get? b=some o) (hns:h₁.Ns C m) :
  Inv (Ao X N' scope cl s H C fp (X.pn++aa)) [] (B2 ix σ) H { s with heap:=h₁,toks:=tk } where
 ok:=Ow I hf c1 c2 hC hfp hlt
 os:=rfl
 bare:=I.bare
 base:=Un.kept old
 loc:=⟨m,hns,fun j x v e1 e2 e3=>by
  obtain ⟨i,ei,ev⟩:=LF e2;obtain ⟨hN,bc⟩:=hf.slot j x i e1 ei;obtain ⟨mX,_,hl⟩:=I.loc
  have hm:(x,NameKind.free) ∈ scope.names:=by
   have:∀ {l:List (Str × NameKind)} {k:NameKind},l.lookup x=some k->(x,k) ∈ l:=fun {l k}=>by
    induction l with
    | nil=>intro e; simp at e
    | cons y r ih =>
     intro e;obtain ⟨n,kk⟩:=y;cases hx:x == n with
     | true =>
      simp only [lookup_cons,hx,Option.some.injEq] at e;have:x=n:=by simpa using hx
      subst this e;exact mem_cons_self
     | false =>
      simp only [lookup_cons,hx] at e;exact mem_cons_of_mem _ (ih e)
   exact this bc
  have hk:=hf.free _ hm rfl;obtain ⟨u,r,q⟩:=hl i x v hN ev (.inr hk);refine ⟨u,r,.inr ⟨Ce (env:=X.env) bc,?_⟩⟩;obtain ⟨c,hc⟩:=c2 _ hm rfl;refine ⟨c,hc,?_⟩;rcases q with ⟨k,_⟩ | ⟨_,c',hc',z⟩
  ·have k':X.env.scope.names.lookup x=some .local:=k;rcases hk with a | a <;> (rw [k'] at a; cases a)
  ·rw [c1 x c hc] at hc';cases hc'
   exact z.keeps old⟩
 cell:=fun x c e=>by
  obtain ⟨v,z⟩:=I.cell x c (c1 x c e);exact ⟨v,z.keeps old⟩
 free:=I.hok.fresh hC
 freeC:=fun x c e=>I.freeC x c (c1 x c e)
 pin:=fun p hp=>by
  have hp':p ∈ X.pn++aa:=by
   have z:=hp;rw [append_nil] at z;exact z
  obtain ⟨e,n,ne,nf,d⟩:=I.pin p hp';refine ⟨old _ _ e,n,Nat.ne_of_lt (Nat.lt_of_lt_of_le (lt_size e) hC),fun z=>?_,d⟩;rcases mem_cons.mp (I.stkSub p.1 z) with q | q
  ·exact ne q
  ·exact nf q
 hok:=I.hok.kept old
 len:=by
  show (B2 ix σ).length=N'.length;unfold B2;rw [length_map]; exact hf.len
theorem Lu {pins':LO} {σ':St} {s':Shared} (I:Inv X aa σ H s) (hfp:∀ b ∈ fp,Bf X aa H b) (J:Inv (Ao X N' scope cl s H C fp (X.pn++aa)) pins' σ' H' s'):Inv X aa σ H' s' :=
 I.call' (ch:=fp) J.os J.base J.hok J.bare fun b hb=>⟨(hfp b hb).2.2.2.1,(hfp b hb).2.1,(hfp b hb).2.2.2.2.1,(hfp b hb).2.2.2.2.2⟩
end
def PTs (X:Cx) (ifs:List Expr) (t:TT):Prop :=
 ∀ (aa:LO) (s:Shared) (σ:St) (H:Hp) (Q:Bool->Hp->Prop),Inv X aa σ H s->t σ H Q ->
  wpAny (model X.prog X.w) X.A (forIn ifs true fun c r=>if r=true then do let ok ← isTrue c X.env (eval c X.env); pure (ForInStep.yield ok) else pure (ForInStep.yield r)) (TP X aa σ Q) X.xe s
def SW:TT:=fun _ H Q=>Q true H
theorem BL:PTs X [] SW:=fun aa s σ H Q I h=>wpAny_tests_nil ⟨H,I,h⟩
theorem Bg {c:Expr} {t:TT} (h:PT X c t):PTs X [c] t:=fun aa s σ H Q I q=>wpAny_tests_one (h aa s σ H Q I q)
def B4 (wi:TI) (g:TG) (tt:TT) (te:TE) (ix:List (Option Nat)) (R:List V->Hp->Prop):St->Hp->Prop:=fun σ H=>wi σ H fun J H1=>∃ W:Nat->Nat->List V->Hp->Prop,(∃ m,W 0 m [] H1)/\∀ i m ys H,W i m ys H ->
 (J.stop i H/\ys.length <= sizeLine/\R ys H) \/
 (J.go i H/\∃ N:List V->Hp->Prop,(∀ ys' H',N ys' H'->ys'.length <= sizeLine/\∃ m',m' < m/\W (i + 1) m' ys' H') /\
  ∀ x H',J.yld i H x H'->g x (B2 ix σ) H' fun σ2 H2=>tt σ2 H2 fun b H3=>if b=true then te σ2 H3 fun y H4=>N (ys++[y]) H4 else N ys H3)
def PGk (X:Cx) (tg:Expr) (ix:List (Option Nat)) (g:TG):Prop :=
 ∀ (aa:LO) (s:Shared) (σ:St) (H:Hp) (v:V) (u:Value) (Q:St->Hp->Prop),Inv X aa (B2 ix σ) H s->RelV v u->g v (B2 ix σ) H Q ->
  wpAny (model X.prog X.w) X.A (assign tg X.env u) (fun _ s'=>∃ σ' H',Inv X aa σ' H' s'/\(∀ (j:Nat) (v:V),(B2 ix σ)[j]?=some (some v)->σ'[j]?=some (some v))/\Q σ' H') X.xe s
theorem Ft {ixc:List (Option Nat)} (h:PG X (.Name x pos) (CQ 0)):PGk X (.Name x pos) (none :: ixc) (CQ 0):=by
 intro aa s σ H v u Q I r q;refine thn (h aa s _ H v u (fun σ' H'=>(∀ (j:Nat) (v:V),(B2 (none :: ixc) σ)[j]?=some (some v)->σ'[j]?=some (some v))/\Q σ' H') I r ⟨fun j w e=>?_,q⟩) fun _ s' ⟨σ',H',I',k,q⟩=>⟨σ',H',I',k,q⟩;cases j with
 | zero=>cases e
 | succ j=>exact e
theorem JB {tg:Expr} {ixc:List (Option Nat)} (h:PG X tg (Od K 2 (Fd (CQ 0) (Fd (CQ 1) Oc)))):PGk X tg (none :: none :: ixc) (Od K 2 (Fd (CQ 0) (Fd (CQ 1) Oc))):=by
 intro aa s σ H v u Q I r q;obtain ⟨a,xs,e1,e2,e3,v1,r1,e4,v2,r2,e5,e6,q⟩:=q;refine thn (h aa s _ H v u (fun σ' H'=>(∀ (j:Nat) (v:V),(B2 (none :: none :: ixc) σ)[j]?=some (some v)->σ'[j]?=some (some v))/\Q σ' H') I r ⟨a,xs,e1,e2,e3,v1,r1,e4,v2,r2,e5,e6,fun j w e=>?_,q⟩) fun _ s' ⟨σ',H',I',k,q⟩=>⟨σ',H',I',k,q⟩
 match j with
 | 0=>cases e
 | 1=>cases e
 | j + 2=>exact e
structure Ri (RD:Cx->Prop) (P:Program) (w:World) (K:FG) (tg:Expr) (J:It) (fp:List Addr) (it:Addr) (tn:Nat->Heap->Prop):Prop where
 obj:∀ i h,tn i h->∀ b ∈ fp,∃ o,h.get? b=some o/\∀ v,o.data ≠ .cell v
 keep:∀ i h h',tn i h->(∀ b ∈ fp,∀ o,h.get? b=some o->h'.get? b=some o)->tn i h'
 item:∀ (X:Cx),X.prog=P->X.w=w->X.K=K->RD X->∀ (i:Nat) (aa:LO) (s:Shared) (σ:St) (H:Hp) (E:VS),Inv X aa σ H s->(∀ b ∈ fp,Bf X aa H b)->tn i s.heap->J.go i H ->
  wpAny (model P w) X.A (pyNext (.ref it)) (fun r s1=>∃ u,r=some u/\wpAny (model P w) X.A (letOwnedTupleGo tg (.ref it) u) (fun _ s2=>∃ x H',Inv X aa σ H' s2/\RelV x u/\J.yld i H x H'/\tn (i + 1) s2.heap/\∀ b ∈ fp,H' b=none) E s1) E s
 done:∀ (X:Cx),X.prog=P->X.w=w->X.K=K->RD X->∀ (i:Nat) (aa:LO) (s:Shared) (σ:St) (H:Hp) (E:VS),Inv X aa σ H s->(∀ b ∈ fp,Bf X aa H b)->tn i s.heap->J.stop i H ->
  wpAny (model P w) X.A (pyNext (.ref it)) (fun r s1=>r=none/\Inv X aa σ H s1) E s
 self:∀ (A:Around) (i:Nat) (s:Shared) (Q:VS) (E:VS),tn i s.heap->Q (.ref it) s->wpAny (model P w) A (pyIter (.ref it)) Q E s
def PIg (RD:Cx->Prop) (X:Cx) (tg iter:Expr) (wi:TI):Prop:=∀ (aa:LO) (s:Shared) (σ:St) (H:Hp) (R:It->Hp->Prop),Inv X aa σ H s->wi σ H R ->
 wpAny (model X.prog X.w) X.A (eval iter X.env) (fun v s1=>wpAny (model X.prog X.w) X.A (pyIter v) (fun itv s2=>∃ (it:Addr) (fp:List Addr) (tn:Nat->Heap->Prop) (J:It) (H':Hp),itv=.ref it/\Inv X aa σ H' s2/\Ri RD X.prog X.w X.K tg J fp it tn/\tn 0 s2.heap/\(∀ b ∈ fp,Bf X aa H' b)/\R J H') X.xe s1) X.xe s
theorem PI.g {tg iter:Expr} {wi:TI} (h:PI X tg iter wi):PIg (fun X=>X.calm=true) X tg iter wi:=fun aa s σ H R I q =>
 thn (h aa s σ H R I q) fun v s1 z=>thn z fun itv s2 ⟨it,fp,tn,J,H',e,I',T,r⟩=>⟨it,fp,tn,J,H',e,I',⟨T.obj,T.keep,T.item,T.done,T.self⟩,r⟩
section
variable {tg iter elt:Expr} {ifs:List Expr} {scope:Scope} {pos':Pos} {N':List Str} {ix:List (Option Nat)} {wi:TI} {g:TG} {tt:TT}
theorem Cn {α:Type} {M:Model} {t:Sem α} {Q:α->Shared->Prop} (h:wpAny M A t Q (fun _ _=>False) s):wpAny M A t Q E s :=
 wpAny_mono h (fun _ _ q=>q) fun _ _ z=>z.elim
theorem HC {RD:Cx->Prop} {use:Option (Value->Sem Unit)} {Qv:VS} (hf:CompFits X.env.scope scope X.N N' ix) (hc:∀ cl s H C fp aa,RD (Ao X N' scope cl s H C fp (X.pn++aa))) (hi:PIg RD X tg iter wi)
  (hg:∀ cl s H C fp pn,PGk (Ao X N' scope cl s H C fp pn) tg ix g) (ht:∀ cl s H C fp pn,PTs (Ao X N' scope cl s H C fp pn) ifs tt) (he:∀ cl s H C fp pn,PE (Ao X N' scope cl s H C fp pn) elt te)
  (hs:∀ x,foldedSetIterable iter X.env x=pure x) {aa:LO} {s:Shared} {σ:St} {H:Hp} {R:List V->Hp->Prop} (I:Inv X aa σ H s) (h:B4 wi g tt te ix R σ H)
  (ck:∀ s' ys H' D C m,Inv X aa σ (upd H' D (.lst ys)) s'->R ys H'->H' D=none->s'.heap.Ns C m->X.s₀.heap.objs.size <= C->C ≠ X.env.locals->(∀ x c,X.env.cells.lookup x=some c->c ≠ C)->(∀ p ∈ X.pn++aa,p.1 ≠ C) ->
   upd H' D (.lst ys) C=none->compPost (model X.prog X.w) X.A X.xe use Qv (.ref D) C (.ok .next) s') :
  wpAny (model X.prog X.w) X.A (comprehension (.ListComp elt [⟨tg,iter,ifs,0⟩] scope pos) scope X.env pos' (newList []) false (eval iter X.env) use) Qv X.xe s:=by
 obtain ⟨cl,cm,c1,c2⟩:=LD (env:=X.env) (scope:=scope) fun y hy hyf=>by
  have:=hf.free y hy hyf;exact I.ok.has y.1 this
 refine wpAny_comprehension_free (use:=use) rfl hs cm hf.kind hf.loc (thn (hi aa s σ H _ I h) fun v s1 h1=>thn h1 fun itv s2 h2=>?_);obtain ⟨it,fp,tn,J,H2,e,I2,T,st2,f2,W,⟨m0,w0⟩,turn⟩:=h2;subst e
 have hlt:∀ b ∈ fp,b < s2.heap.objs.size:=fun b hb=>by
  obtain ⟨o,e,_⟩:=T.obj _ _ st2 b hb;exact lt_size e
 refine wpAny_newObj_type (wpAny_newFunctionEnv hf.nocell (by intro y hy; simp at hy) (fun h₁ hns₁ hsb₁=>?_) hf.kind)
 dsimp only at hns₁ hsb₁ ⊢
 generalize hH2:s2.heap.push { cls:=.type "list", dict:=none,data:=.seq ([]:List Value).toArray }=HP at hns₁ hsb₁ ⊢;have hC:HP.objs.size=s2.heap.objs.size + 1:=by rw [← hH2,size_push]
 have hDC:s2.heap.objs.size ≠ HP.objs.size:=by rw [hC]; exact Nat.ne_of_lt (Nat.lt_succ_self _)
 have hCle:s2.heap.objs.size <= HP.objs.size:=by rw [hC]; exact Nat.le_succ _
 have hCne:∀ b,b < s2.heap.objs.size->b ≠ HP.objs.size:=fun b hb=>by rw [hC]; exact Nat.ne_of_lt (Nat.lt_succ_of_lt hb)
 have old:∀ b o,s2.heap.get? b=some o->h₁.get? b=some o:=fun b o e=>hsb₁.extBut b o (hCne b (lt_size e)) (get?_push_of_some _ (hH2 ▸ get?_push_of_some _ e));have bv:h₁.get? s2.heap.objs.size=some { cls:=.type "list", dict:=none,data:=.seq ([]:List Value).toArray }:=hsb₁.extBut _ _ hDC (get?_push_of_some _ (hH2 ▸ get?_push_size _ rfl));generalize hCC:HP.objs.size=C at *;generalize hDD:s2.heap.objs.size=D at *;have IX:=KF (N':=N') (fp:=fp) I2 hf c1 c2 (by rw [hDD]; exact hCle) f2 (by rw [hDD]; exact hlt) (tk:=s2.toks + ([]:List (Str × Value)).length) old hns₁;have hDn:H2 D=none:=I2.hok.fresh (by rw [hDD]; exact Nat.le_refl _)
 have hDfs:D ∉ frs X.stack:=fun z=>by
  rcases mem_cons.mp (I2.stkSub D z) with q | q
  ·have:=I2.lt; rw [← q,hDD] at this; exact Nat.lt_irrefl _ this
  ·exact I2.nofs (by rw [hDD]; exact Nat.le_refl _) q
 have cellLt:∀ x c,X.env.cells.lookup x=some c->c < D:=fun x c e=>by
  obtain ⟨v,z⟩:=I2.cell x c e;rw [← hDD]; exact z.lt
 have pinLt:∀ p ∈ X.pn++aa,p.1 < D:=fun p hp=>by rw [← hDD]; exact lt_size (I2.pin p hp).1
 have s0D:X.s₀.heap.objs.size <= D:=by rw [← hDD]; exact I2.sz
 have locLt:X.env.locals < D:=by rw [← hDD]; exact I2.lt
 let X':Cx:=Ao X N' scope cl s2 H2 C fp (X.pn++aa)
 have stat:∀ {H':Hp} {ob:Obj},(∀ b ∈ fp,H' b=none)->∀ b ∈ fp,Bf X' [(D,ob)] H' b:=fun {H' ob} hn b hb=>by
  refine ⟨hn b hb,Nat.ne_of_lt (Nat.lt_of_lt_of_le (hlt b hb) hCle),fun z=>?_,.inl hb,fun x c e=>(f2 b hb).2.2.2.2.1 x c (c1 x c e),fun p hp=>?_⟩
  ·exact IX.ok.exfs b hb z
  ·rcases mem_append.mp hp with z | z
   ·exact (f2 b hb).2.2.2.2.2 p z
   ·have e:p=(D,ob):=by simpa using z
    subst e;exact Nat.ne_of_gt (hlt b hb)
 have pinD:∀ {σ':St} {H':Hp} {s':Shared} {ob:Obj},Inv X' [] σ' H' s'->s'.heap.get? D=some ob->H' D=none->(∀ v,ob.data ≠ .cell v)->Inv X' [(D,ob)] σ' H' s':=fun {σ' H' s' ob} Ia e n d =>
  Ia.pins_of fun p hp=>by
   have q:p=(D,ob):=by simpa using hp
   subst q;exact ⟨e,n,hDC,hDfs,d⟩
 have loop:∀ s3:Shared,s3={ s2 with heap:=h₁,toks:=s2.toks + ([]:List (Str × Value)).length } ->
   codeAny (model X.prog X.w) X.A (.compLoop (.ListComp elt [⟨tg,iter,ifs,0⟩] scope pos) 0 (.ref it) (.ref D) (compEnvC scope cl C X.env)) (compPost (model X.prog X.w) X.A X.xe use Qv (.ref D) C) s3:=by
  rintro s3 rfl
  refine codeAny_loop rfl (fun n s'=>∃ i ys its k H',Inv X' [(D,({ cls:=.type "list", data:=.seq (List.toArray its) k }:Obj))] (B2 ix σ) H' s'/\tn i s'.heap/\(∀ b ∈ fp,H' b=none)/\W i n ys H'/\Vals ys its)
   (fun n s4 hI=>?_) m0 ⟨0,[],[],_,H2,pinD IX bv hDn (fun v z=>by cases z),T.keep _ _ _ st2 (fun b _ o e=>old b o e),fun b hb=>(f2 b hb).1,w0,.nil⟩
  obtain ⟨i,ys,its,k,H4,I4,st4,fr4,w4,rv⟩:=hI;show wpAny _ X.A ((compTurn (.ListComp elt [⟨tg,iter,ifs,0⟩] scope pos) 0 (.ref it) (.ref D) (compEnvC scope cl C X.env)).onRaise (fun x=>do noteFrame x (compEnvC scope cl C X.env); theTreesLotGoes x)) _ _ s4;refine wpAny_noted ?_;rw [compTurn_list];refine Cn ?_;rcases turn i n ys H4 w4 with ⟨stop,hz,r⟩ | ⟨go,N,hN,step⟩
  ·refine wpAny_bind (wpAny_standAt (wpAny_bind (thn (T.done X' rfl rfl rfl (hc _ _ _ _ _ _) i _ s4 _ H4 _ I4 (stat fr4) st4 stop) fun r' s5 ⟨hr,I5⟩=>?_)));subst hr;have pD:=I5.pin (D,_) (mem_append_right _ mem_cons_self);have Ib:Inv X aa σ H4 s5:=Lu I2 f2 I5;have Ic:Inv X aa σ (upd H4 D (.lst ys)) s5:=Ib.track pD.2.1 (Nat.ne_of_gt locLt) (.inr s0D) (fun x c e=>Nat.ne_of_lt (cellLt x c e)) (fun p hp=>Nat.ne_of_lt (pinLt p hp)) ⟨hz,its,k,rv,pD.1⟩;obtain ⟨m5,n5,_⟩:=I5.loc
   refine wpAny_pure (ck s5 ys H4 D C m5 Ic r pD.2.1 n5 (Nat.le_trans s0D hCle) (Nat.ne_of_gt (Nat.lt_of_lt_of_le locLt hCle)) (fun x c e=>Nat.ne_of_lt (Nat.lt_of_lt_of_le (cellLt x c e) hCle))
    (fun p hp=>Nat.ne_of_lt (Nat.lt_of_lt_of_le (pinLt p hp) hCle)) ?_)
   rw [AF (Ne.symm hDC)];exact I5.free
  ·refine wpAny_bind (wpAny_standAt (wpAny_bind (thn (T.item X' rfl rfl rfl (hc _ _ _ _ _ _) i _ s4 _ H4 _ I4 (stat fr4) st4 go) fun r' s5 ⟨u,hr,h5⟩=>?_)));subst hr;refine wpAny_bind (thn h5 fun _ s6 ⟨x,H6,I6,r6,y6,st6,fr6⟩=>?_);have I6':=I6.pinned (stat fr6) (T.obj _ _ st6);refine wpAny_bind (thn (hg _ _ _ _ _ _ _ s6 _ H6 x u _ I6' r6 (step x H6 y6)) fun _ s7 ⟨σ7,H7,I7,k7,q7⟩=>?_);refine wpAny_bind (thn (ht _ _ _ _ _ _ _ s7 σ7 H7 _ I7 q7) fun b s8 ⟨H8,I8,q8⟩=>?_)
   have again:∀ {H9:Hp} {s9:Shared} {ys':List V} {its':List Value} {k':Nat},Inv X' ([(D,({ cls:=.type "list", data:=.seq (List.toArray its') k' }:Obj))]++Ca fp s6.heap) σ7 H9 s9->Vals ys' its' ->
     (∃ m',m' < n/\W (i + 1) m' ys' H9)->∃ m,m < n/\∃ i ys its k H',Inv X' [(D,({ cls:=.type "list", data:=.seq (List.toArray its) k }:Obj))] (B2 ix σ) H' s9/\tn i s9.heap/\(∀ b ∈ fp,H' b=none)/\W i m ys H'/\Vals ys its:=by
    intro H9 s9 ys' its' k' I9 rv' ⟨m',hm,w9⟩;refine ⟨m',hm,i + 1,ys',its',k',H9,I9.unpinned.weak (I4.len.trans I9.len.symm) k7,T.keep _ _ _ st6 fun b hb o e=>(I9.pin (b,o) (mem_append_right _ (mem_append_right _ (Am hb e)))).1,fun b hb=>?_,w9,rv'⟩;obtain ⟨o,e,d⟩:=T.obj _ _ st6 b hb;exact (I9.pin (b,o) (mem_append_right _ (mem_append_right _ (Am hb e)))).2.1
   cases b with
   | false =>
    rw [if_neg Bool.false_ne_true] at q8;exact wpAny_pure ⟨rfl,again I8 rv (hN _ _ q8).2⟩
   | true =>
    rw [if_pos rfl] at q8;refine wpAny_bind (wpAny_bind (thn (he _ _ _ _ _ _ _ s8 σ7 H8 _ I8 q8) fun y s9 ⟨z,H9,I9,r9,q9⟩=>?_))
    have hz:ys.length < sizeLine:=by
     have:=(hN _ _ q9).1;rw [length_append,length_singleton] at this;omega
    have pD:=I9.pin (D,_) (mem_append_right _ (mem_append_left _ mem_cons_self));have ay:=rv.length;refine wpAny_bind (call_meets F.slot_list_append ⟨_,pD.1,rfl⟩ F.entry_list_append (F.args_list_append_2 _ _) (PySem.list_append D its.toArray k y (by rw [size_toArray]; omega)) ⟨pD.1,wpAny_pure (wpAny_pure ⟨rfl,?_⟩)⟩);have eq':its.toArray.push y=(its++[y]).toArray:=by simp
    obtain ⟨k',q⟩:∃ k',(s9.heap.update D (Obj.mapSeq (·.push y))).get? D=some { cls:=.type "list", data:=.seq (its++[y]).toArray k' }:=⟨_,by rw [← eq']; exact PySem.IsL.update pD.1 (·.push y)⟩;have Iw:Inv X' (Ca fp s6.heap) σ7 H9 s9:=I9.pins_of fun p hp=>I9.pin p (mem_append_right _ (mem_append_right _ hp))
    have It:Inv X' (Ca fp s6.heap) σ7 H9 { s9 with heap:=s9.heap.update D (Obj.mapSeq (·.push y)),toks:=s9.toks }:=Iw.turned (it:=D) (fun b o hb e=>(get?_update_other s9.heap (Obj.mapSeq (·.push y)) (Ne.symm hb)).trans e) pD.2.1 hDC
     (.inr (by show s2.heap.objs.size <= D; rw [hDD]; exact Nat.le_refl _)) (fun x c e=>Nat.ne_of_lt (cellLt x c (c1 x c e))) (fun p hp=>by
      rcases mem_append.mp hp with z' | z'
      ·exact Nat.ne_of_lt (pinLt p z')
      ·exact Nat.ne_of_lt (hlt p.1 (Ek z').1))
    refine again (its':=its++[y]) (k':=k') (It.pins_of fun p hp=>?_) (rv.append (.cons r9 .nil)) (hN _ _ q9).2;rcases mem_append.mp hp with z' | z'
    ·have e:p=(D,({ cls:=.type "list", data:=.seq (its++[y]).toArray k' }:Obj)):=by simpa using z'
     subst e;exact ⟨q,pD.2.1,hDC,hDfs,fun v z=>by cases z⟩
    ·exact It.pin p (mem_append_right _ z')
 exact codeAny_compStart_list (loop _ rfl) (T.self _ 0 _ _ _ (T.keep _ _ _ st2 fun b _ o e=>old b o e) (loop _ rfl))
theorem Lv {RD:Cx->Prop} (hf:CompFits X.env.scope scope X.N N' ix) (hc:∀ cl s H C fp aa,RD (Ao X N' scope cl s H C fp (X.pn++aa))) (hi:PIg RD X tg iter wi)
  (hg:∀ cl s H C fp pn,PGk (Ao X N' scope cl s H C fp pn) tg ix g) (ht:∀ cl s H C fp pn,PTs (Ao X N' scope cl s H C fp pn) ifs tt) (he:∀ cl s H C fp pn,PE (Ao X N' scope cl s H C fp pn) elt te)
  (hs:∀ x,foldedSetIterable iter X.env x=pure x:=by intro _; rfl) :
  PE X (.ListComp elt [⟨tg,iter,ifs,0⟩] scope pos) (fun σ H Q=>B4 wi g tt te ix (fun ys H'=>∀ p,H' p=none->Q (.ref p) (upd H' p (.lst ys))) σ H):=by
 intro aa s σ H Q I h;rw [eval_ListComp];refine HC (use:=none) hf hc hi hg ht he hs I h fun s' ys H' D C m I' r hD hn h1 h2 h3 h4 h5=>?_;refine ⟨m,hn,fun h'' hs''=>⟨.ref D,_,I'.turned (it:=C) (t':=s'.toks) (fun b o hb e=>(hs''.2 b hb).trans e) h5 h2 (.inr h1) h3 h4,rfl,r D hD⟩⟩
theorem JC (hf:CompFits X.env.scope scope X.N N' ix) (hc:X.calm=true) (hi:PI X tg iter wi)
  (hg:∀ cl s H C fp pn,PGk (Ao X N' scope cl s H C fp pn) tg ix g) (ht:∀ cl s H C fp pn,PTs (Ao X N' scope cl s H C fp pn) ifs tt) (he:∀ cl s H C fp pn,PE (Ao X N' scope cl s H C fp pn) elt te)
  (hs:∀ x,foldedSetIterable iter X.env x=pure x:=by intro _; rfl) :
  PE X (.ListComp elt [⟨tg,iter,ifs,0⟩] scope pos) (fun σ H Q=>B4 wi g tt te ix (fun ys H'=>∀ p,H' p=none->Q (.ref p) (upd H' p (.lst ys))) σ H):=Lv hf (fun _ _ _ _ _ _=>hc) hi.g hg ht he hs
theorem JD {i:Nat} {py spos:Pos} (hN:X.N.Nodup) (hi':X.N[i]?=some x) (hx:X.env.scope.names.lookup x=some .local) (hsw:swapsWith (.ListComp elt [⟨tg,iter,ifs,0⟩] scope pos) (some (.Name x py)) spos.line X.env=pure true)
  (hf:CompFits X.env.scope scope X.N N' ix) (hc:X.calm=true) (hi:PI X tg iter wi)
  (hg:∀ cl s H C fp pn,PGk (Ao X N' scope cl s H C fp pn) tg ix g) (ht:∀ cl s H C fp pn,PTs (Ao X N' scope cl s H C fp pn) ifs tt) (he:∀ cl s H C fp pn,PE (Ao X N' scope cl s H C fp pn) elt te)
  (hs:∀ x,foldedSetIterable iter X.env x=pure x:=by intro _; rfl) :
  PS X (.Assign [.Name x py] (.ListComp elt [⟨tg,iter,ifs,0⟩] scope pos) spos) (fun D σ H=>B4 wi g tt te ix (fun ys H'=>∀ p,H' p=none->D.nx (σ.set i (some (.ref p))) (upd H' p (.lst ys))) σ H):=by
 intro aa s σ H D I h;rw [exec_Assign_Name_used _ _ _ _ hsw];refine wpAny_bind (wpAny_standAt (wpAny_bind ?_));show wpAny _ X.A (do let _ ← comprehension (.ListComp elt [⟨tg,iter,ifs,0⟩] scope pos) scope X.env _ (newList []) false (eval iter X.env) (some (assign (.Name x py) X.env))) _ _ s;refine wpAny_bind (thn (HC (use:=some (assign (.Name x py) X.env)) (Qv:=fun _ s'=>SP X aa D .next s') hf (fun _ _ _ _ _ _=>hc) hi.g hg ht he hs I h fun s' ys H' Da C m I' r hD hn h1 h2 h3 h4 h5=>?_) fun _ s' hq=>wpAny_pure (wpAny_pure hq));show wpAny _ X.A (assign (.Name x py) X.env (.ref Da)) _ _ _;refine wpAny_assign_Name (Ei (v:=.ref Da) I' hN hi' (.inl hx) rfl (fun s'' I'' ⟨a,hsb,ha⟩=>?_) (.inr hx))
 have hCa:C ≠ a:=by
  rcases ha with z | z
  ·rw [z]; exact h2
  ·exact (h3 x a z).symm
 refine ⟨m,hn.sameBut hsb hCa,fun h'' hs''=>?_⟩;exact ⟨_,_,I''.turned (it:=C) (t':=s''.toks) (fun b o hb e=>(hs''.2 b hb).trans e) h5 h2 (.inr h1) h3 h4,r Da hD⟩
end
abbrev g2 (K:FG):TG:=Od K 2 (Fd (CQ 0) (Fd (CQ 1) Oc))
section
variable {iter elt:Expr} {ifs:List Expr} {scope:Scope} {px py pt:Pos} {wi:TI} {tt:TT} {y:Str} {kt:Nat}
theorem A3 (Nc:List Str) (ixc:List (Option Nat)) (hf:HB X.env.scope scope X.N (x :: Nc) (none :: ixc)=true) (hnd:(x :: Nc).Nodup) (hx:scope.names.lookup x=some .local) (hc:X.calm=true) (hi:PI X (.Name x px) iter wi)
  (ht:∀ cl s H C fp pn,PTs (Ao X (x :: Nc) scope cl s H C fp pn) ifs tt) (he:∀ cl s H C fp pn,PE (Ao X (x :: Nc) scope cl s H C fp pn) elt te) (hs:∀ x,foldedSetIterable iter X.env x=pure x:=by intro _; rfl) :
  PE X (.ListComp elt [⟨.Name x px,iter,ifs,0⟩] scope pos) (fun σ H Q=>B4 wi (CQ 0) tt te (none :: ixc) (fun ys H'=>∀ p,H' p=none->Q (.ref p) (upd H' p (.lst ys))) σ H) :=
 JC (CompFits.of hf) hc hi (fun cl s H C fp pn=>Ft (AO (i:=0) hnd rfl (.inl (lookup_relabel_local hx)) (.inr (lookup_relabel_local hx)))) ht he hs
theorem EL (Nc:List Str) (ixc:List (Option Nat)) (hf:HB X.env.scope scope X.N (x :: y :: Nc) (none :: none :: ixc)=true) (hnd:(x :: y :: Nc).Nodup) (hx:scope.names.lookup x=some .local) (hy:scope.names.lookup y=some .local) (hc:X.calm=true)
  (hi:PI X (.Tuple [.Name x px,.Name y py] kt pt) iter wi)
  (ht:∀ cl s H C fp pn,PTs (Ao X (x :: y :: Nc) scope cl s H C fp pn) ifs tt) (he:∀ cl s H C fp pn,PE (Ao X (x :: y :: Nc) scope cl s H C fp pn) elt te) (hs:∀ x,foldedSetIterable iter X.env x=pure x:=by intro _; rfl) :
  PE X (.ListComp elt [⟨.Tuple [.Name x px,.Name y py] kt pt,iter,ifs,0⟩] scope pos) (fun σ H Q=>B4 wi (g2 X.K) tt te (none :: none :: ixc) (fun ys H'=>∀ p,H' p=none->Q (.ref p) (upd H' p (.lst ys))) σ H) :=
 JC (CompFits.of hf) hc hi (fun cl s H C fp pn=>JB (BI (X:=Ao X (x :: y :: Nc) scope cl s H C fp pn) hc (AR (AO (i:=0) hnd rfl (.inl (lookup_relabel_local hx)) (.inr (lookup_relabel_local hx)))
  (AR (AO (i:=1) hnd rfl (.inl (lookup_relabel_local hy)) (.inr (lookup_relabel_local hy))) A6)))) ht he hs
theorem EM {i:Nat} {z:Str} {pz spos:Pos} (hN:X.N.Nodup) (hi':X.N[i]?=some z) (hz:X.env.scope.names.lookup z=some .local) (Nc:List Str) (ixc:List (Option Nat)) (hf:HB X.env.scope scope X.N (x :: Nc) (none :: ixc)=true) (hnd:(x :: Nc).Nodup)
  (hx:scope.names.lookup x=some .local) (hc:X.calm=true) (hi:PI X (.Name x px) iter wi)
  (ht:∀ cl s H C fp pn,PTs (Ao X (x :: Nc) scope cl s H C fp pn) ifs tt) (he:∀ cl s H C fp pn,PE (Ao X (x :: Nc) scope cl s H C fp pn) elt te)
  (hsw:swapsWith (.ListComp elt [⟨.Name x px,iter,ifs,0⟩] scope pos) (some (.Name z pz)) spos.line X.env=pure true:=by rfl) (hs:∀ x,foldedSetIterable iter X.env x=pure x:=by intro _; rfl) :
  PS X (.Assign [.Name z pz] (.ListComp elt [⟨.Name x px,iter,ifs,0⟩] scope pos) spos) (fun D σ H=>B4 wi (CQ 0) tt te (none :: ixc) (fun ys H'=>∀ p,H' p=none->D.nx (σ.set i (some (.ref p))) (upd H' p (.lst ys))) σ H) :=
 JD hN hi' hz hsw (CompFits.of hf) hc hi (fun cl s H C fp pn=>Ft (AO (i:=0) hnd rfl (.inl (lookup_relabel_local hx)) (.inr (lookup_relabel_local hx)))) ht he hs
theorem NH {i:Nat} {z:Str} {pz spos:Pos} (hN:X.N.Nodup) (hi':X.N[i]?=some z) (hz:X.env.scope.names.lookup z=some .local) (Nc:List Str) (ixc:List (Option Nat)) (hf:HB X.env.scope scope X.N (x :: y :: Nc) (none :: none :: ixc)=true) (hnd:(x :: y :: Nc).Nodup)
  (hx:scope.names.lookup x=some .local) (hy:scope.names.lookup y=some .local) (hc:X.calm=true) (hi:PI X (.Tuple [.Name x px,.Name y py] kt pt) iter wi)
  (ht:∀ cl s H C fp pn,PTs (Ao X (x :: y :: Nc) scope cl s H C fp pn) ifs tt) (he:∀ cl s H C fp pn,PE (Ao X (x :: y :: Nc) scope cl s H C fp pn) elt te)
  (hsw:swapsWith (.ListComp elt [⟨.Tuple [.Name x px,.Name y py] kt pt,iter,ifs,0⟩] scope pos) (some (.Name z pz)) spos.line X.env=pure true:=by rfl) (hs:∀ x,foldedSetIterable iter X.env x=pure x:=by intro _; rfl) :
  PS X (.Assign [.Name z pz] (.ListComp elt [⟨.Tuple [.Name x px,.Name y py] kt pt,iter,ifs,0⟩] scope pos) spos) (fun D σ H=>B4 wi (g2 X.K) tt te (none :: none :: ixc) (fun ys H'=>∀ p,H' p=none->D.nx (σ.set i (some (.ref p))) (upd H' p (.lst ys))) σ H) :=
 JD hN hi' hz hsw (CompFits.of hf) hc hi (fun cl s H C fp pn=>JB (BI (X:=Ao X (x :: y :: Nc) scope cl s H C fp pn) hc (AR (AO (i:=0) hnd rfl (.inl (lookup_relabel_local hx)) (.inr (lookup_relabel_local hx)))
  (AR (AO (i:=1) hnd rfl (.inl (lookup_relabel_local hy)) (.inr (lookup_relabel_local hy))) A6)))) ht he hs
end
theorem Ai {g:TG} {tt:TT} {ix:List (Option Nat)} {R:List V->Hp->Prop} {H1:Hp} (Pv:Nat->List V->Hp->Prop) (h0:Pv 0 [] H1) (hl:∀ i ys H,i <= xs.length->Pv i ys H->SqL K H a xs) (hz:∀ i ys H,Pv i ys H->ys.length <= 1000)
  (hs:∀ i x ys H,xs[i]?=some x->Pv i ys H->g x (B2 ix σ) H fun σ2 H2=>tt σ2 H2 fun b H3=>if b=true then te σ2 H3 fun y H4=>Pv (i + 1) (ys++[y]) H4 else Pv (i + 1) ys H3) (hd:∀ ys H,Pv xs.length ys H->R ys H) :
  ∃ W:Nat->Nat->List V->Hp->Prop,(∃ m,W 0 m [] H1)/\∀ i m ys H,W i m ys H ->
   ((Itl K a).stop i H/\ys.length <= sizeLine/\R ys H) \/
   ((Itl K a).go i H/\∃ N:List V->Hp->Prop,(∀ ys' H',N ys' H'->ys'.length <= sizeLine/\∃ m',m' < m/\W (i + 1) m' ys' H') /\
    ∀ x H',(Itl K a).yld i H x H'->g x (B2 ix σ) H' fun σ2 H2=>tt σ2 H2 fun b H3=>if b=true then te σ2 H3 fun y H4=>N (ys++[y]) H4 else N ys H3):=by
 refine ⟨fun i m ys H=>m=xs.length - i/\i <= xs.length/\Pv i ys H,⟨_,rfl,Nat.zero_le _,h0⟩,?_⟩;rintro i m ys H ⟨rfl,hi,hp⟩;by_cases hlt:i < xs.length
 ·have hx:xs[i]?=some xs[i]:=List.getElem?_eq_getElem hlt;refine .inr ⟨⟨xs,xs[i],hl i ys H hi hp,hx⟩,Pv (i + 1),fun ys' H' q=>⟨Nat.le_of_lt (Ag (hz _ ys' H' q)),xs.length - (i + 1),by omega,rfl,hlt,q⟩,?_⟩;rintro x H' ⟨rfl,hy⟩
  have ex:x=xs[i]:=by
   have:=hy xs (hl i ys H' hi hp);rw [hx] at this;exact (Option.some.inj this).symm
  subst ex;exact hs i xs[i] ys H' hx hp
 ·have e:i=xs.length:=by omega
  subst e;exact .inl ⟨⟨xs,hl _ ys H hi hp,Nat.le_refl _⟩,Nat.le_of_lt (Ag (hz _ ys H hp)),hd ys H hp⟩
theorem Fu {g:TG} {tt:TT} {ix:List (Option Nat)} {R:List V->Hp->Prop} {H1:Hp} (Pv:Nat->List V->Hp->Prop) (h0:Pv 0 [] H1) (hl:∀ i ys H,i <= xs.length->Pv i ys H->SqT K H a xs) (hz:∀ i ys H,Pv i ys H->ys.length <= 1000)
  (hs:∀ i x ys H,xs[i]?=some x->Pv i ys H->g x (B2 ix σ) H fun σ2 H2=>tt σ2 H2 fun b H3=>if b=true then te σ2 H3 fun y H4=>Pv (i + 1) (ys++[y]) H4 else Pv (i + 1) ys H3) (hd:∀ ys H,Pv xs.length ys H->R ys H) :
  ∃ W:Nat->Nat->List V->Hp->Prop,(∃ m,W 0 m [] H1)/\∀ i m ys H,W i m ys H ->
   ((Itt K a).stop i H/\ys.length <= sizeLine/\R ys H) \/
   ((Itt K a).go i H/\∃ N:List V->Hp->Prop,(∀ ys' H',N ys' H'->ys'.length <= sizeLine/\∃ m',m' < m/\W (i + 1) m' ys' H') /\
    ∀ x H',(Itt K a).yld i H x H'->g x (B2 ix σ) H' fun σ2 H2=>tt σ2 H2 fun b H3=>if b=true then te σ2 H3 fun y H4=>N (ys++[y]) H4 else N ys H3):=by
 refine ⟨fun i m ys H=>m=xs.length - i/\i <= xs.length/\Pv i ys H,⟨_,rfl,Nat.zero_le _,h0⟩,?_⟩;rintro i m ys H ⟨rfl,hi,hp⟩;by_cases hlt:i < xs.length
 ·have hx:xs[i]?=some xs[i]:=List.getElem?_eq_getElem hlt;refine .inr ⟨⟨xs,xs[i],hl i ys H hi hp,hx⟩,Pv (i + 1),fun ys' H' q=>⟨Nat.le_of_lt (Ag (hz _ ys' H' q)),xs.length - (i + 1),by omega,rfl,hlt,q⟩,?_⟩;rintro x H' ⟨rfl,hy⟩
  have ex:x=xs[i]:=by
   have:=hy xs (hl i ys H' hi hp);rw [hx] at this;exact (Option.some.inj this).symm
  subst ex;exact hs i xs[i] ys H' hx hp
 ·have e:i=xs.length:=by omega
  subst e;exact .inl ⟨⟨xs,hl _ ys H hi hp,Nat.le_refl _⟩,Nat.le_of_lt (Ag (hz _ ys H hp)),hd ys H hp⟩
theorem Dk {lo:Int} {n:Nat} {g:TG} {tt:TT} {ix:List (Option Nat)} {R:List V->Hp->Prop} {H1:Hp} (Pv:Nat->List V->Hp->Prop) (h0:Pv 0 [] H1) (hz:∀ i ys H,Pv i ys H->ys.length <= 1000)
  (hs:∀ (i:Nat) ys H,i < n->Pv i ys H->g (.int (lo + i)) (B2 ix σ) H fun σ2 H2=>tt σ2 H2 fun b H3=>if b=true then te σ2 H3 fun y H4=>Pv (i + 1) (ys++[y]) H4 else Pv (i + 1) ys H3) (hd:∀ ys H,Pv n ys H->R ys H) :
  ∃ W:Nat->Nat->List V->Hp->Prop,(∃ m,W 0 m [] H1)/\∀ i m ys H,W i m ys H ->
   ((Itr lo n).stop i H/\ys.length <= sizeLine/\R ys H) \/
   ((Itr lo n).go i H/\∃ N:List V->Hp->Prop,(∀ ys' H',N ys' H'->ys'.length <= sizeLine/\∃ m',m' < m/\W (i + 1) m' ys' H') /\
    ∀ x H',(Itr lo n).yld i H x H'->g x (B2 ix σ) H' fun σ2 H2=>tt σ2 H2 fun b H3=>if b=true then te σ2 H3 fun y H4=>N (ys++[y]) H4 else N ys H3):=by
 refine ⟨fun i m ys H=>m=n - i/\i <= n/\Pv i ys H,⟨_,rfl,Nat.zero_le _,h0⟩,?_⟩;rintro i m ys H ⟨rfl,hi,hp⟩;by_cases hlt:i < n
 ·refine .inr ⟨hlt,Pv (i + 1),fun ys' H' q=>⟨Nat.le_of_lt (Ag (hz _ ys' H' q)),n - (i + 1),by omega,rfl,hlt,q⟩,?_⟩;rintro x H' ⟨rfl,rfl⟩;exact hs i ys H' hlt hp
 ·have e:i=n:=by omega
  subst e;exact .inl ⟨Nat.le_refl _,Nat.le_of_lt (Ag (hz _ ys H hp)),hd ys H hp⟩
section
variable {o:Obj} {kvs:LK}
theorem Inv.newOk (I:Inv X aa σ H s) {p:Addr} (hp:s.heap.objs.size <= p):H p=none/\p ≠ X.env.locals/\X.s₀.heap.objs.size <= p/\(∀ x c,X.env.cells.lookup x=some c->c ≠ p)/\∀ q ∈ X.pn++aa,q.1 ≠ p :=
 ⟨I.hok.fresh hp,Nat.ne_of_gt (Nat.lt_of_lt_of_le I.lt hp),Nat.le_trans I.sz hp,fun x c e=>by
  obtain ⟨v,z⟩:=I.cell x c e
  exact Nat.ne_of_lt (Nat.lt_of_lt_of_le z.lt hp),fun q hq=>Nat.ne_of_lt (Nat.lt_of_lt_of_le (lt_size (I.pin q hq).1) hp)⟩
theorem Inv.freeze (I:Inv X aa σ H s) (h:H a=some (.dK kvs)):∃ o,Inv X aa σ (upd H a (.frz o (.dK kvs))) s:=by
 obtain ⟨z,y,vs,r,ob,es,ep,e,rest⟩:=I.hok a _ h;refine ⟨ob,?_⟩;exact I.write (x:=a) (e:=a) (o:=.frz ob (.dK kvs)) (h':=s.heap) (t':=s.toks) (by rw [h]; exact trivial) (.inl rfl) (fun b u _ q=>q) ⟨ob,e⟩ ⟨e,z,y,vs,r,ob,es,ep,e,rest⟩
theorem Dl {sts:List Stmt} {t:TS} (h:PSs X sts t):PSs X sts (fun D σ H=>∃ a kvs,H a=some (.dK kvs)/\∀ o,t D σ (upd H a (.frz o (.dK kvs)))):=by
 intro aa s σ H D I ⟨a,kvs,e,k⟩;obtain ⟨o,I'⟩:=I.freeze e;exact h aa s σ _ D I' (k o)
def NI (o:Obj):Nat:=match o.data with
 | .dict _ ep=>ep
 | _=>0
theorem Fv (I:Inv X aa σ H s) (h:H a=some (.frz o (.dK kvs))):kvs.length <= sizeLine/\(a == sysModules)=false/\∃ vs,KV kvs vs/\s.heap.DictAt (Ah X.prog X.w) a vs (NI o):=by
 obtain ⟨e,z,y,vs,r,ob,es,ep,e2,ex,d,rest⟩:=I.hok a _ h;rw [e] at e2; cases e2;refine ⟨z,y,vs,r,o,es,e,ex,?_,rest⟩;show o.data=.dict es (NI o);unfold NI; rw [d]
end
theorem KV.get {κ:Type}:∀ {kvs:List (κ × V)} {vs:List (κ × Value)} {i:Nat} {kv:κ × V},KV kvs vs->kvs[i]?=some kv->∃ v,vs[i]?=some (kv.1,v)/\RelV kv.2 v
 | _,_,_,_,.nil,e=>by simp at e
 | _,_,0,_,.cons r _,e=>by
  simp only [List.getElem?_cons_zero,Option.some.injEq] at e;subst e;rename_i q _ _ _;exact ⟨q.2,by rw [r.1]; rfl,r.2⟩
 | _,_,i + 1,kv,.cons _ t,e=>by
  obtain ⟨u,h1,h2⟩:=KV.get (i:=i) (kv:=kv) (show KV _ _ from t) (by simpa using e);exact ⟨u,by simpa using h1,h2⟩
theorem FS {k:Key} (h:(Ah P w).is k u=true):RelV (kV k) u:=by
 rcases Az (show Fb k u=true from h) with ⟨i,t,rfl,rfl⟩ | ⟨x,t,rfl,rfl⟩
 ·exact ⟨t,rfl⟩
 ·exact ⟨t,rfl⟩
def Iti (a:Addr) (o:Obj) (kvs:LK):It:=⟨fun i H=>H a=some (.frz o (.dK kvs))/\i < kvs.length,fun i H x H'=>∃ p kv,H p=none/\x=.ref p/\kvs[i]?=some kv/\H'=upd H p (.tup [kV kv.1,kv.2]),
 fun i H=>H a=some (.frz o (.dK kvs))/\kvs.length <= i⟩
theorem KG {elts:List Expr} {k0:Nat} (a it:Addr) (o:Obj) (kvs:LK) :
  Jy P w K (.Tuple elts k0 pos) (Iti a o kvs) [it] it (fun i h=>∃ ok ov,IsItemIter h it a i kvs.length (NI o) ok ov) where
 mem:=by simp
 obj:=fun i h st b hb=>by
  have e:b=it:=by simpa using hb
  subst e;obtain ⟨ok,ov,e⟩:=st;exact ⟨_,e,fun v z=>by cases z⟩
 keep:=fun i h h' st k=>by
  obtain ⟨ok,ov,e⟩:=st;exact ⟨ok,ov,k it (by simp) _ e⟩
 item:=by
  intro X hP hw hK hc i aa s σ H E I hf st hg;subst hP hw hK;obtain ⟨hfz,hi⟩:=hg;obtain ⟨z,y,vs,rel,dd⟩:=Fv I hfz;obtain ⟨ok,ov,st⟩:=st;have ay:=rel.length;obtain ⟨kv,hkv⟩:∃ kv,kvs[i]?=some kv:=⟨_,List.getElem?_eq_getElem hi⟩;obtain ⟨v,hv,rv⟩:=KV.get rel hkv;obtain ⟨f0,f1,f2,f3,f4,f5⟩:=hf it (by simp);rw [ay] at st;have hlt:it < s.heap.objs.size:=lt_size st;refine wpAny_pyNext_items_item st dd hv fun key h' ci st' hp hsz keep=>?_;have I1:Inv X aa σ H { s with heap:=h' }:=I.turned (t':=s.toks) keep f0 f1 f3 f4 f5;obtain ⟨n1,n2,n3,n4,n5⟩:=I.newOk (Nat.le_refl s.heap.objs.size);have I2:Inv X aa σ (upd H s.heap.objs.size (.tup [kV kv.1,kv.2])) { s with heap:=h' }:=I1.track n1 n2 (.inr n3) n4 n5 ⟨by show 2 <= sizeLine; decide,[key,v],.cons (FS ci) (.cons rv .nil),_,hp,rfl,_,rfl⟩;have fi:(upd H s.heap.objs.size (.tup [kV kv.1,kv.2])) it=none:=by rw [AF (Nat.ne_of_lt hlt)]; exact f0
  refine ⟨.ref s.heap.objs.size,rfl,wpAny_letOwnedTupleGo_items st' fun h'' st'' sb=>?_⟩;refine ⟨.ref s.heap.objs.size,_,I2.turned (it:=it) (t':=s.toks) (fun b o hb e=>(sb.2 b hb).trans e) fi f1 f3 f4 f5,rfl,⟨_,kv,n1,rfl,hkv,rfl⟩,⟨key,v,by rw [ay]; exact st''⟩,fun b hb=>?_⟩;have e:b=it:=by simpa using hb
  rw [e]; exact fi
 done:=by
  intro X hP hw hK hc i aa s σ H E I hf st hg;subst hP hw hK;obtain ⟨hfz,hi⟩:=hg;obtain ⟨z,y,vs,rel,dd⟩:=Fv I hfz;obtain ⟨ok,ov,st⟩:=st;have ay:=rel.length;rw [ay] at st;obtain ⟨f0,f1,f2,f3,f4,f5⟩:=hf it (by simp);exact wpAny_pyNext_items_end (I.ok.hd hc) st dd (List.getElem?_eq_none_iff.mpr (by omega)) fun h' eb=>⟨rfl,I.turned (t':=s.toks) (fun b o hb e=>eb b o hb e) f0 f1 f3 f4 f5⟩
 self:=fun _ _ _ _ _ st h=>by
  obtain ⟨ok,ov,e⟩:=st;exact W.kcp_self e h
def QN (to:TE):TI:=fun σ H R=>to σ H fun x H1=>∃ a o kvs,x=.ref a/\H1 a=some (.frz o (.dK kvs))/\R (Iti a o kvs) H1
theorem NJ {elts:List Expr} {k0:Nat} {o:Expr} {to:TE} {apos cpos:Pos} (ho:PE X o to) (bi:attributeBase o "items" X.env (eval o X.env)=eval o X.env:=by rfl) (bj:(apos.endLine == cpos.line)=true:=by rfl) :
  PI X (.Tuple elts k0 pos) (.Call (.Attribute o "items" apos) [] [] cpos) (QN to):=by
 intro aa s σ H R I h;refine wpAny_Call_method0_late bi bj (thn (ho aa s σ H _ I h) fun v s1 ⟨x,H1,I1,r1,a,ob,kvs,ex,hfz,q⟩=>?_);subst ex;cases r1;obtain ⟨t1,t2,_⟩:=NG I1 (.inl ⟨kvs,.inr ⟨ob,hfz⟩⟩);obtain ⟨z,y,vs,rel,dd⟩:=Fv I1 hfz;refine ⟨"dict", "dict.items", PySem.F.plainAttrs_dict,PySem.F.slot_dict_items,PySem.F.type_dict_items,t1,t2,Calls.callWith_builtin rfl (PySem.evalArgs_none (call_meetsIn PySem.F.slot_dict_items t1 PySem.F.entry_dict_items (PySem.F.args_dict_items_1 _) (meets_dict_items (Ah X.prog X.w) a y) ⟨⟨vs,dd.dictOf⟩,?_⟩))⟩;have I2:Inv X aa σ H1 { s1 with heap:=s1.heap.push { cls:=.type "dict_items", data:=.fields #[.ref a] } }:=I1.kept (t':=s1.toks) fun b o e=>get?_push_of_some _ e;refine wpAny_pyIter_items (knd:=Ah X.prog X.w) (d:=a) (kvs:=vs) (ep:=NI ob) ⟨_,get?_push_size _ rfl,rfl,rfl⟩ (dd.push _) ?_;refine ⟨_,[_],_,_,H1,rfl,I2.kept (t':=s1.toks) fun b o e=>get?_push_of_some _ e,KG a _ ob kvs,⟨.none,.none,by rw [rel.length]; exact get?_push_size _ rfl⟩,fun b hb=>?_,q⟩;have e:b=(s1.heap.push { cls:=.type "dict_items", data:=.fields #[.ref a] }).objs.size:=by simpa using hb
 subst e;exact I2.fpOk (Nat.le_refl _) (I2.hok.fresh (Nat.le_refl _))
def Ite (K:FG) (a:Addr):It:=⟨fun i H=>∃ xs x,SqL K H a xs/\xs[i]?=some x,fun i H x H'=>∃ p y,H p=none/\x=.ref p/\(∀ xs,SqL K H a xs->xs[i]?=some y)/\H'=upd H p (.tup [.int i,y]),fun i H=>∃ xs,SqL K H a xs/\xs.length <= i⟩
theorem Lw {elts:List Expr} {k0:Nat} (a e it:Addr) (av:e ≠ it) :
  Jy P w K (.Tuple elts k0 pos) (Ite K a) [e,it] e (fun i h=>∃ old,IsEnum h e it i old/\h.IsListIter it a i) where
 mem:=by simp
 obj:=fun i h st b hb=>by
  obtain ⟨old,e1,o,e2,c,d⟩:=st;have hb':b=e\/b=it:=by simpa using hb
  rcases hb' with rfl | rfl
  ·exact ⟨_,e1,fun v z=>by cases z⟩
  ·exact ⟨o,e2,fun v z=>by rw [d] at z; cases z⟩
 keep:=fun i h h' st k=>by
  obtain ⟨old,e1,e2⟩:=st;exact ⟨old,k e (by simp) _ e1,e2.at fun o q=>k it (by simp) o q⟩
 item:=by
  intro X hP hw hK hc i aa s σ H E I hf st hg;subst hP hw hK;obtain ⟨xs,x,hq,hx⟩:=hg;obtain ⟨its,rv,p,hz⟩:=I.list hq;obtain ⟨u,hu,ru⟩:=rv.get hx;obtain ⟨old,s1,s2⟩:=st;obtain ⟨f0,f1,f2,f3,f4,f5⟩:=hf e (by simp);obtain ⟨g0,g1,g2,g3,g4,g5⟩:=hf it (by simp);have hlt:e < s.heap.objs.size:=lt_size s1;have b7:it < s.heap.objs.size:=by obtain ⟨o,q,_⟩:=id s2; exact lt_size q
  refine wpAny_pyNext_enum_item s1 s2 p.isList (x:=u) (by simpa using hu) av fun h' st' st2' hp hsz keep=>?_
  have I1:Inv X aa σ H { s with heap:=h',toks:=s.toks + 1 }:=by
   refine I.step (H':=H) (g':=s.gens) (d':=s.drawn) (ch:=[e,it]) (fun b hb=>?_) (fun b o _ _ hb q _=>keep b o (by simp at hb; exact hb.1) (by simp at hb; exact hb.2) q) (fun b o _ _ hb q _=>⟨o.slots,keep b o (by simp at hb; exact hb.1) (by simp at hb; exact hb.2) q⟩)
    (fun _ _ _ _ n=>n) (fun b o hb q=>⟨o,keep b o (by simp at hb; exact hb.1) (by simp at hb; exact hb.2) q⟩) (fun _ _ q=>q) (fun _ _ _ q=>q) (fun b ps q=>⟨#[],by rw [q]; simp⟩) (fun m hm=>?_) (fun b u q=>?_) I.bare
   ·have hb':b=e\/b=it:=by simpa using hb
    rcases hb' with rfl | rfl
    ·exact ⟨f3,f1,f4,f5⟩
    ·exact ⟨g3,g1,g4,g5⟩
   ·obtain ⟨oL,es,ep,hoL,r⟩:=hm;exact ⟨oL,es,ep,keep _ oL (Ne.symm f1) (Ne.symm g1) hoL,r⟩
   ·have ne1:∀ c v,H c=some v->c ≠ e/\c ≠ it:=fun c v q=>⟨AI q f0,AI q g0⟩;refine (I.hok b u q).stay (fun c v hc q'=>keep c v ?_ ?_ q') (fun _ q=>q) fun _ _ q=>q
    ·rcases hc with z | z
     ·rw [z]; exact (ne1 b u q).1
     ·exact (ne1 c _ z).1
    ·rcases hc with z | z
     ·rw [z]; exact (ne1 b u q).2
     ·exact (ne1 c _ z).2
  obtain ⟨n1,n2,n3,n4,n5⟩:=I.newOk (Nat.le_refl s.heap.objs.size);have I2:Inv X aa σ (upd H s.heap.objs.size (.tup [.int i,x])) { s with heap:=h',toks:=s.toks + 1 }:=I1.track n1 n2 (.inr n3) n4 n5 ⟨by show 2 <= sizeLine; decide,[.int i s.toks,u],.cons ⟨_,rfl⟩ (.cons ru .nil),_,hp,rfl,_,rfl⟩;have fe:(upd H s.heap.objs.size (.tup [.int i,x])) e=none:=by rw [AF (Nat.ne_of_lt hlt)]; exact f0
  have fi:(upd H s.heap.objs.size (.tup [.int i,x])) it=none:=by rw [AF (Nat.ne_of_lt b7)]; exact g0
  refine ⟨.ref s.heap.objs.size,rfl,wpAny_letOwnedTupleGo_enum st' fun h'' st'' sb=>?_⟩;refine ⟨.ref s.heap.objs.size,_,I2.turned (it:=e) (t':=s.toks + 1) (fun b o hb q=>(sb.2 b hb).trans q) fe f1 f3 f4 f5,rfl,⟨_,x,n1,rfl,fun ys hy=>by rw [I.list_inj hy hq]; exact hx,rfl⟩,⟨_,by exact_mod_cast st'',st2'.extBut sb.extBut (Ne.symm av)⟩,fun b hb=>?_⟩;have hb':b=e\/b=it:=by simpa using hb
  rcases hb' with rfl | rfl
  ·exact fe
  ·exact fi
 done:=by
  intro X hP hw hK hc i aa s σ H E I hf st hg;subst hP hw hK;obtain ⟨xs,hq,hx⟩:=hg;obtain ⟨its,rv,p,hz⟩:=I.list hq;obtain ⟨old,s1,s2⟩:=st;obtain ⟨g0,g1,g2,g3,g4,g5⟩:=hf it (by simp);have hl:=rv.length;exact wpAny_pyNext_enum_end (I.ok.hd hc) s1 s2 p.isList (by simp; omega) fun h' eb=>⟨rfl,I.turned (t':=s.toks) (fun b o hb e=>eb b o hb e) g0 g1 g3 g4 g5⟩
 self:=fun _ _ _ _ _ st h=>by
  obtain ⟨old,e1,_⟩:=st;exact wpAny_pyIter_enum e1 h
def Rj (K:FG) (tl:TA):TI:=fun σ H R=>tl σ H fun vs H1=>∃ a,vs=[.ref a]/\(∃ xs,SqL K H1 a xs)/\R (Ite K a) H1
theorem Ox {elts:List Expr} {k0:Nat} {p cpos:Pos} {l:Expr} {tl:TA} (hg:Gl X "enumerate") (hm:X.mg "enumerate" = none) (hl:PA X [l] tl) (hs:starEach [l] X.env=[(false,eval l X.env)]:=by rfl) :
  PI X (.Tuple elts k0 pos) (.Call (.Name "enumerate" p) [l] [] cpos) (Rj X.K tl):=by
 intro aa s σ H R I h;refine wpAny_Call_Name_kw (C8 (u:=.type "enumerate") I hg hm (by decide +kernel) ?_);refine PyProof.Rows.callWith_type1 (thn (hl cpos aa s σ H _ I h) fun us s1 ⟨vs,H1,I1,r1,a,ev,⟨xs,hq⟩,q⟩=>?_) hs rfl;subst ev;obtain ⟨u,rfl,ru⟩:=Bb r1;cases ru;obtain ⟨its,rv,pl,hz⟩:=I1.list hq;refine call_enumerate_list pl.isList fun h' he hi hsz keep=>?_;refine wpAny_pyIter_enum he ?_;have I2:Inv X aa σ H1 { s1 with heap:=h' }:=I1.kept (t':=s1.toks) keep;refine ⟨_,[s1.heap.objs.size + 1,s1.heap.objs.size],_,_,H1,rfl,I2,Lw a _ _ (Nat.succ_ne_self _),⟨_,he,hi⟩,fun b hb=>?_,q⟩;have hb':b=s1.heap.objs.size + 1\/b=s1.heap.objs.size:=by simpa using hb
 rcases hb' with rfl | rfl
 ·exact I1.fpOk (Nat.le_succ _) (I1.hok.fresh (Nat.le_succ _))
 ·exact I1.fpOk (Nat.le_refl _) (I1.hok.fresh (Nat.le_refl _))
def Its (x:Str):It:=⟨fun i _=>i < x.cps.size,fun i H v H'=>H'=H/\∃ c,x.cps[i]?=some c/\v=.str ⟨#[c]⟩,fun i _=>x.cps.size <= i⟩
theorem NK {n:Str} (it:Addr) (x:Str) (t:Tok) :
  Jy P w K (.Name n pos) (Its x) [it] it (fun i h=>h.IsStrIter it "str_ascii_iterator" x t i) where
 mem:=by simp
 obj:=fun i h st b hb=>by
  have e:b=it:=by simpa using hb
  subst e;obtain ⟨o,e,c,d⟩:=st;exact ⟨o,e,fun v z=>by rw [d] at z; cases z⟩
 keep:=fun i h h' st k=>by
  obtain ⟨o,e,r⟩:=st;exact ⟨o,k it (by simp) o e,r⟩
 item:=by
  intro X hP hw hK hc i aa s σ H E I hf st hg;subst hP hw hK;have hi:i < x.cps.size:=hg;obtain ⟨f0,f1,f2,f3,f4,f5⟩:=hf it (by simp);refine wpAny_pyNext_ascii_item st (Array.getElem?_eq_getElem hi) fun h' st' sb=>?_;refine ⟨_,rfl,wpAny_pure ⟨.str ⟨#[x.cps[i]]⟩,H,I.turned (t':=s.toks + 1) (fun b o hb e=>(sb.2 b hb).trans e) f0 f1 f3 f4 f5,⟨_,rfl⟩,⟨rfl,_,Array.getElem?_eq_getElem hi,rfl⟩,st',fun b hb=>(hf b hb).1⟩⟩
 done:=by
  intro X hP hw hK hc i aa s σ H E I hf st hg;subst hP hw hK;have hi:x.cps.size <= i:=hg;obtain ⟨f0,f1,f2,f3,f4,f5⟩:=hf it (by simp);exact wpAny_pyNext_ascii_end (I.ok.hd hc) st (Array.getElem?_eq_none hi) fun h' eb=>⟨rfl,I.turned (t':=s.toks) (fun b o hb e=>eb b o hb e) f0 f1 f3 f4 f5⟩
 self:=fun _ _ _ _ _ st h=>wpAny_pyIter_striter_ascii st h
def SX (ts:TE):TI:=fun σ H R=>ts σ H fun v H1=>∃ x,v=.str x/\x.cps.all (· < 128)=true/\R (Its x) H1
theorem QO {n:Str} {ts:TE} (he:PE X e ts):PI X (.Name n pos) e (SX ts):=by
 intro aa s σ H R I h;refine thn (he aa s σ H _ I h) fun v s1 ⟨z,H1,I1,r1,x,ez,ha,q⟩=>?_;subst ez;obtain ⟨t,rfl⟩:=r1;refine wpAny_pyIter_ascii ha ?_;refine ⟨s1.heap.objs.size,[s1.heap.objs.size],_,_,H1,rfl,I1.kept (t':=s1.toks) fun b o e=>get?_push_of_some _ e,NK _ x t,⟨_,get?_push_size _ rfl,rfl,rfl⟩,fun b hb=>?_,q⟩;have e:b=s1.heap.objs.size:=by simpa using hb
 subst e;exact I1.fpOk (Nat.le_refl _) (I1.hok.fresh (Nat.le_refl _))
theorem Gs:entryFor table "proto.unchain" = some Builtin.«proto.unchain»:=entryFor_of_tree (by kernel_rfl)
section
variable {prog:Program}
theorem Oy {α:Type} {c e:Addr} {oc oe:Obj} {vc ve:Array Value} {Q:α->Shared->Prop} (hh:A.handled=some (.ref c)) (hce:c ≠ e) (hc:s.heap.get? c=some oc) (hdc:oc.data=.fields vc) (h2:vc[2]?=some .none)
  (he:s.heap.get? e=some oe) (hde:oe.data=.fields ve) (hz:2 < ve.size) (h:E (.ref e) { s with heap:=s.heap.update e (Obj.mapFields (·.setIfInBounds 2 (.ref c))) }):wpAny (model prog w) A (raiseNew (.ref e):Sem α) Q E s:=by
 unfold raiseNew;refine wpAny_bind (wpAny_handled ?_);rw [hh]
 dsimp only
 rw [if_pos (show (Value.ref c != Value.ref e)=true by simp [hce])];refine wpAny_bind (wpAny_holding (wpAny_runValue (codeAny_builtin Gs ?_)));unfold Builtin.«proto.unchain»
 dsimp only
 refine wpAny_bind (wpAny_field hc hdc h2 ?_);rw [if_pos (by decide)];refine wpAny_pure ?_;show wpAny _ _ _ _ _ _;have up:=wpAny_setField (M:=model prog w) (A:=A) (E:=E) (x:=Value.ref c) (Q:=fun _ s'=>E (.ref e) s') he hde hz h;unfold setField at up;exact wpAny_bind (wpAny_mono up (fun _ s' z=>wpAny_throw z) fun _ _ z=>z)
theorem FN {it l c:Addr} {i:Nat} {xs:Array Value} {oc:Obj} {vc:Array Value} {Q:Option Value->Shared->Prop} (hh:A.handled=some (.ref c)) (hc:s.heap.get? c=some oc) (hdc:oc.data=.fields vc) (h2:vc[2]?=some .none) (hci:c ≠ it)
  (hI:s.heap.IsListIter it l i) (hL:s.heap.IsList l xs) (hx:xs[i]?=none) (fin:∀ h',Heap.ExtBut it s.heap h'->Q none { s with heap:=h' }):wpAny (model prog w) A (pyNext (.ref it)) Q E s:=by
 obtain ⟨o,ho,oc1,hd⟩:=id hI;obtain ⟨ol,hol,_,nl,hdl⟩:=hL;unfold pyNext;refine wpAny_bind (wpAny_attempt (wpAny_callSpecial?_slot (name:=Str.ofString "__next__") hI.typeIs slot_listiter_next (wpAny_call_entry slot_listiter_next hI.typeIs entry_listiter_next ?_ (args_listiter_next _))));show wpAny _ _ (field (.ref it) 0 >>= _) _ _ s;refine wpAny_bind (wpAny_field (x:=.ref l) ho hd rfl ?_);show wpAny _ _ (if (Value.ref l == Value.none)=true then _ else _) _ _ s;rw [if_neg (by simp:¬ (Value.ref l == Value.none)=true)];show wpAny _ _ (field (.ref it) 1 >>= _) _ _ s;refine wpAny_bind (wpAny_field (x:=.int i 0) ho hd rfl ?_);show wpAny _ _ (seqItems? (.ref l) >>= _) _ _ s;refine wpAny_bind (wpAny_seqItems hol hdl ?_);simp only [Int.toNat_natCast,hx];refine wpAny_bind (wpAny_rule (wpAny_bind (wpAny_setField ho hd (by simp) ?_)));show wpAny _ _ (newExc (.type "StopIteration") [] >>= raiseNew) _ _ _;refine wpAny_bind ?_;simp only [newExc,newTuple];refine wpAny_bind (wpAny_newObj_type ?_ (by size_fits));refine wpAny_bind (m:=firstArgMember _ _) (wpAny_of_eq (a:=Value.none) (by first | rfl | (simp only [firstArgMember]; rfl)) (wpAny_newObj_type ?_ (by size_fits)));have k1:=(get?_update_other s.heap (Obj.mapFields (·.setIfInBounds 0 Value.none)) (Ne.symm hci)).trans hc;refine Oy (c:=c) (show A.in1.handled=_ from hh) (fun z=>?_) (get?_push_of_some _ (get?_push_of_some _ k1)) hdc h2 (get?_push_size _ rfl) rfl (by simp; omega) ?_
 ·have:=lt_size (get?_push_of_some { cls:=.type "tuple", data:=.seq #[] } k1);rw [z] at this;exact absurd this (Nat.lt_irrefl _)
 ·refine wpAny_bind (wpAny_isInstance (T := "StopIteration") (b:=true) ⟨_,Heap.get?_update_self _ (get?_push_size _ rfl) rfl,rfl⟩ isSubtype_stop ?_);refine wpAny_pure (fin _ fun b u hb z=>?_);have z1:=(get?_update_other s.heap (Obj.mapFields (·.setIfInBounds 0 Value.none)) (Ne.symm hb)).trans z;have z2:=get?_push_of_some { cls:=.type "tuple", data:=.seq #[] } z1;rw [get?_update_other _ _ (Nat.ne_of_gt (lt_size z2))];exact get?_push_of_some _ z2
end
def Sft (X:Cx):Prop:=∃ e oe vs,X.A.handled=some (.ref e)/\(e,oe) ∈ X.pn/\oe.data=.fields vs/\vs[2]?=some .none
def Rdy (X:Cx):Prop:=X.calm=true\/Sft X
theorem KH {p:Addr} {its:List Value} (hc:Rdy X) (I:Inv X aa σ H s) (pl:s.heap.IsList p its.toArray):∃ fp St,Walks X.prog X.w X.A.in1 s.heap.objs.size fp [s.heap.objs.size] its.toArray.size (fun i v=>its.toArray[i]?=some v) St /\
  St 0 (s.heap.push { cls:=.type "list_iterator", data:=.fields #[.ref p,.int 0 0] })/\∀ b ∈ fp,b < s.heap.objs.size + 1:=by
 have hp:p < s.heap.objs.size:=by obtain ⟨o,e,_⟩:=id pl; exact lt_size e
 have st0:(s.heap.push { cls:=.type "list_iterator", data:=.fields #[.ref p,.int 0 0] }).IsListIter s.heap.objs.size p 0/\(s.heap.push { cls:=.type "list_iterator", data:=.fields #[.ref p,.int 0 0] }).IsList p its.toArray :=
  ⟨⟨_,get?_push_size _ rfl,rfl,rfl⟩,pl.at fun o e=>get?_push_of_some _ e⟩
 rcases hc with hc | ⟨e,oe,vs,a,b,c,d⟩
 ·refine ⟨_,_,Walks.list (A:=X.A.in1) (show X.A.in1.handled=none from I.ok.hd hc) _ p (Nat.ne_of_lt hp) its.toArray,st0,fun b hb=>?_⟩;have z:b=s.heap.objs.size\/b=p:=by simpa using hb
  rcases z with rfl | rfl
  ·exact Nat.lt_succ_self _
  ·exact Nat.lt_succ_of_lt hp
 ·have he:=(I.pin (e,oe) (mem_append_left _ b)).1;have hlt:=lt_size he;refine ⟨[s.heap.objs.size,p,e],fun i h=>(h.IsListIter s.heap.objs.size p i/\h.IsList p its.toArray)/\h.get? e=some oe,⟨fun b hb=>by simp at hb; simp [hb],fun i h h' st k=>⟨⟨st.1.1.at fun o z=>k _ (by simp) o z,st.1.2.at fun o z=>k _ (by simp) o z⟩,k e (by simp) oe st.2⟩,?_,?_,fun _ _ _ _ st hQ=>wpAny_pyIter_listiter st.1.1 hQ⟩,⟨st0,get?_push_of_some _ he⟩,fun b hb=>?_⟩
  ·intro i s1 Q E hi st hQ;refine wpAny_pyNext_list_item st.1.1 st.1.2 (x:=its.toArray[i]) (by simp [hi]) fun h' t1 t2=>?_;exact hQ _ h' s1.toks (by simp [hi]) ⟨⟨t1,st.1.2.extBut t2.extBut (Nat.ne_of_lt hp)⟩,t2.extBut e oe (Nat.ne_of_lt hlt) st.2⟩ fun b o hb z=>t2.extBut b o (fun y=>hb (by simp [y])) z
  ·intro s1 Q E st hQ;exact FN (show X.A.in1.handled=_ from a) st.2 c d (Nat.ne_of_lt hlt) st.1.1 st.1.2 (by simp) fun h' z=>hQ h' s1.toks fun b o hb y=>z b o (fun y'=>hb (by simp [y'])) y
  ·have z:b=s.heap.objs.size\/b=p\/b=e:=by simpa using hb
   rcases z with rfl | rfl | rfl
   ·exact Nat.lt_succ_self _
   ·exact Nat.lt_succ_of_lt hp
   ·exact Nat.lt_succ_of_lt hlt
def LG (a p:Addr):HO:=.ext fun h=>h.IsItemsView p a
def LH (a p:Addr):HO:=.ext fun h=>h.IsValuesView p a
section
variable {o:Expr} {to:TE} {name:Str} {apos cpos:Pos} {id:String} {r:V->List V->Hp->VK->Prop}
theorem KJ (slot:Slot "dict" name id) (hty:typeOf (.builtin id)=pure (.type "method_descriptor")) (hm:MtR X id r) (ho:PE X o to)
  (bi:attributeBase o name X.env (eval o X.env)=eval o X.env:=by rfl) (bj:(apos.endLine == cpos.line)=true:=by rfl) :
  PE X (.Call (.Attribute o name apos) [] [] cpos) (fun σ H Q=>to σ H fun x H1=>∃ a,x=.ref a/\IsD H1 a/\r x [] H1 Q):=by
 intro aa s σ H Q I h;refine wpAny_Call_method0_late bi bj (thn (ho aa s σ H _ I h) fun v s1 ⟨x,H1,I1,r1,a,ex,d,q1⟩=>?_);subst ex;cases r1;obtain ⟨t1,t2,_⟩:=NG I1 d;exact ⟨"dict", id,PySem.F.plainAttrs_dict,slot,hty,t1,t2,Calls.callWith_builtin rfl (PySem.evalArgs_none (hm aa s1 σ H1 (.ref a) [] (.ref a) [] Q I1 rfl .nil q1))⟩
theorem NL:MtR X "dict.items" (fun x xs H Q=>∃ a kvs,x=.ref a/\xs=[]/\Rd H a (.dK kvs)/\∀ p,H p=none->Q (.ref p) (upd H p (LG a p))):=by
 intro aa s σ H x xs v us Q I rx rs h;obtain ⟨a,kvs,rfl,rfl,hd,q⟩:=h;cases rx;cases rs;obtain ⟨z,y,vs,rel,dd⟩:=C6 I.hok hd;refine call_meetsIn PySem.F.slot_dict_items dd.typeIs PySem.F.entry_dict_items (PySem.F.args_dict_items_1 _) (meets_dict_items (Ah X.prog X.w) a y) ⟨⟨vs,dd⟩,?_⟩;refine ⟨.ref s.heap.objs.size,_,I.laid (t':=s.toks) (o:=LG a s.heap.objs.size) (fun b o e=>get?_push_of_some _ e) (Nat.le_refl _) ⟨⟨_,get?_push_size _ rfl,rfl,rfl⟩,⟨_,get?_push_size _ rfl⟩,fun h1 h2 z k=>?_⟩,rfl,q _ (I.hok.fresh (Nat.le_refl _))⟩;obtain ⟨ob,e,r⟩:=z;exact ⟨ob,k ob e,r⟩
theorem HD:MtR X "dict.values" (fun x xs H Q=>∃ a kvs,x=.ref a/\xs=[]/\Rd H a (.dK kvs)/\∀ p,H p=none->Q (.ref p) (upd H p (LH a p))):=by
 intro aa s σ H x xs v us Q I rx rs h;obtain ⟨a,kvs,rfl,rfl,hd,q⟩:=h;cases rx;cases rs;obtain ⟨z,y,vs,rel,dd⟩:=C6 I.hok hd;refine call_meetsIn PySem.F.slot_dict_values dd.typeIs PySem.F.entry_dict_values (PySem.F.args_dict_values_1 _) (meets_dict_values (Ah X.prog X.w) a y) ⟨⟨vs,dd⟩,?_⟩;refine ⟨.ref s.heap.objs.size,_,I.laid (t':=s.toks) (o:=LH a s.heap.objs.size) (fun b o e=>get?_push_of_some _ e) (Nat.le_refl _) ⟨⟨_,get?_push_size _ rfl,rfl,rfl⟩,⟨_,get?_push_size _ rfl⟩,fun h1 h2 z k=>?_⟩,rfl,q _ (I.hok.fresh (Nat.le_refl _))⟩;obtain ⟨ob,e,r⟩:=z;exact ⟨ob,k ob e,r⟩
theorem CD {α β:Type} {F:α->β->Prop}:∀ {xs:List α} {ys:List β},xs.length=ys.length->(∀ (j:Nat) x y,xs[j]?=some x->ys[j]?=some y->F x y)->Paired F xs ys
 | [],[],_,_=>.nil
 | [],_ :: _,h,_=>by simp at h
 | _ :: _,[],h,_=>by simp at h
 | x :: xs,y :: ys,h,k=>.cons (k 0 x y rfl rfl) (CD (by simpa using h) fun j a b ea eb=>k (j + 1) a b (by simpa using ea) (by simpa using eb))
theorem KK (hc:X.calm=true):BU X (.type "list") (fun xs H Q=>∃ a kvs,xs=[.ref a]/\Rd H a (.dK kvs)/\∀ l,H l=none->Q (.ref l) (upd H l (.lst (kvs.map fun kv=>kV kv.1)))):=by
 intro aa s σ H xs us Q I r h;obtain ⟨a,kvs,rfl,hd,q⟩:=h;obtain ⟨u,rfl,ru⟩:=Bb r;cases ru;obtain ⟨z,y,vs,rel,dd⟩:=C6 I.hok hd;obtain ⟨ep,da⟩:=dd.dictAt;have hl:=rel.length;refine W.kdl_call (W.kdl_dict (knd:=Ah X.prog X.w) (kvs:=vs) (ep:=ep) y) (I.ok.hd hc) da (by rw [← hl]; exact z) fun h' tk acc c' keep e hit=>?_;refine ⟨.ref s.heap.objs.size,_,I.laid (t':=tk) keep (Nat.le_refl _) (show ObjOk X.prog X.w _ h' _ (.lst (kvs.map fun kv=>kV kv.1)) from ⟨by rw [length_map]; exact z,acc.toList,c',?_,by rw [Array.toArray_toList]; exact e⟩),rfl,q _ (I.hok.fresh (Nat.le_refl _))⟩
 refine CD (by have e0:acc.toList.length=acc.size:=by simp
               rw [length_map,e0,hit.1,hl]) fun j v w' ev ew=>?_
 rw [Array.getElem?_toList] at ew;obtain ⟨k,x,ex,hk⟩:=hit.2 j w' ew;rw [getElem?_map] at ev;cases e2:kvs[j]? with
 | none=>rw [e2] at ev; cases ev
 | some kv =>
  rw [e2] at ev;simp only [Option.map_some,Option.some.injEq] at ev;obtain ⟨v2,hv2,_⟩:=KV.get rel e2;rw [ex] at hv2;simp only [Option.some.injEq,Prod.mk.injEq] at hv2;rw [← ev,← hv2.1];exact FS hk
theorem Fw (hc:X.calm=true):BU X (.type "list") (fun xs H Q=>∃ p a kvs,xs=[.ref p]/\H p=some (LH a p)/\Rd H a (.dK kvs)/\∀ l,H l=none->Q (.ref l) (upd H l (.lst (kvs.map (·.2))))):=by
 intro aa s σ H xs us Q I r h;obtain ⟨p,a,kvs,rfl,hp,hd,q⟩:=h;obtain ⟨u,rfl,ru⟩:=Bb r;cases ru;obtain ⟨z,y,vs,rel,dd⟩:=C6 I.hok hd;obtain ⟨ep,da⟩:=dd.dictAt;obtain ⟨hv,_⟩:=I.hok p _ hp;have hl:=rel.length;refine W.kdl_call (W.kdl_values (knd:=Ah X.prog X.w) (d:=a) (kvs:=vs) (ep:=ep)) (I.ok.hd hc) ⟨hv,da⟩ (by rw [← hl]; exact z) fun h' tk acc c' keep e hit=>?_;refine ⟨.ref s.heap.objs.size,_,I.laid (t':=tk) keep (Nat.le_refl _) (show ObjOk X.prog X.w _ h' _ (.lst (kvs.map (·.2))) from ⟨by rw [length_map]; exact z,acc.toList,c',?_,by rw [Array.toArray_toList]; exact e⟩),rfl,q _ (I.hok.fresh (Nat.le_refl _))⟩
 refine CD (by have e0:acc.toList.length=acc.size:=by simp
               rw [length_map,e0,hit.1,hl]) fun j v w' ev ew=>?_
 rw [Array.getElem?_toList] at ew;obtain ⟨k,ex⟩:=hit.2 j w' ew;rw [getElem?_map] at ev;cases e2:kvs[j]? with
 | none=>rw [e2] at ev; cases ev
 | some kv =>
  rw [e2] at ev;simp only [Option.map_some,Option.some.injEq] at ev;obtain ⟨v2,hv2,rv2⟩:=KV.get rel e2;rw [ex] at hv2;simp only [Option.some.injEq,Prod.mk.injEq] at hv2;rw [← ev,hv2.2];exact rv2
theorem EN (hc:X.calm=true):BU X (.builtin "sorted") (fun xs H Q=>∃ a kvs,xs=[.ref a]/\Rd H a (.dK kvs)/\kvs.length < 64/\(∀ kv ∈ kvs,∃ i,kv.1=Sum.inl i) /\
  ∀ (l:Addr) (ns:List Int),H l=none->ns.Perm (kvs.map fun kv=>match kv.1 with | Sum.inl i=>i | Sum.inr _=>0)->ns.Pairwise (· <= ·)->Q (.ref l) (upd H l (.lst (ns.map V.int)))):=by
 intro aa s σ H xs us Q I r h;obtain ⟨a,kvs,rfl,hd,h64,hk,q⟩:=h;obtain ⟨u,rfl,ru⟩:=Bb r;cases ru;obtain ⟨z,y,vs,rel,dd⟩:=C6 I.hok hd;obtain ⟨ep,da⟩:=dd.dictAt;have hl:=rel.length;refine Calls.call_function_entry kind_sorted plain_sorted entry_sorted (args_sorted1 _) ?_;unfold Builtin.«sorted»;refine wpAny_bind (m:=checkCount "sorted" 1 1 _) (wpAny_pure ?_);refine wpAny_bind (W.kdu_collect (A:=X.A.in1) (W.kdl_dict (knd:=Ah X.prog X.w) (kvs:=vs) (ep:=ep) y) (I.ok.hd hc) da (by rw [← hl]; exact z) fun h' tk acc keep hit=>?_)
 have ar:acc.toList.length=kvs.length:=by
  have e0:acc.toList.length=acc.size:=by simp
  rw [e0,hit.1,hl]
 refine wpAny_bind (wpAny_newList ?_ (by rw [ar]; exact z))
 have bf:IntsAre acc.toList (kvs.map fun kv=>match kv.1 with | Sum.inl i=>i | Sum.inr _=>0):=by
  refine CJ (CD (by rw [length_map,length_map,ar]) fun j v w' ev ew=>?_);rw [Array.getElem?_toList] at ew;obtain ⟨k,x,ex,hkk⟩:=hit.2 j w' ew;rw [getElem?_map,getElem?_map] at ev;cases e2:kvs[j]? with
  | none=>rw [e2] at ev; cases ev
  | some kv =>
   rw [e2] at ev;simp only [Option.map_some,Option.some.injEq] at ev;obtain ⟨v2,hv2,_⟩:=KV.get rel e2;rw [ex] at hv2;simp only [Option.some.injEq,Prod.mk.injEq] at hv2;obtain ⟨i,hi⟩:=hk kv (mem_of_getElem? e2);rw [hv2.1,hi] at hkk;rw [← ev,hi];exact FS hkk
 have I1:Inv X aa σ H { s with heap:=h',toks:=tk }:=I.kept keep;have hoL:(h'.push { cls:=.type "list", data:=.seq acc.toList.toArray }).get? h'.objs.size=some (seqObj "list" acc.toList.toArray 0):=get?_push_size _ rfl;refine wpAny_bind (wpAny_holding (wpAny_call_entry slot_list_sort ⟨_,hoL,rfl⟩ entry_list_sort (list_sort_tree hoL bf (by rw [ar]; exact h64) fun out ns' a1 a2 a3=>⟨_,rfl,?_⟩) (args_list_sort _)));refine wpAny_pure ⟨_,rfl,?_⟩;have hn:H h'.objs.size=none:=I1.hok.fresh (Nat.le_refl _);have ay:ns'.length=kvs.length:=by rw [a2.length_eq,length_map]
 refine ⟨.ref h'.objs.size,_,I1.laid (t':=tk) (o:=.lst (ns'.map V.int)) (h':=sortedHeap (h'.push { cls:=.type "list", data:=.seq acc.toList.toArray }) h'.objs.size acc.toList out) (fun b o e=>?_) (Nat.le_refl _) ⟨by rw [length_map,ay]; exact z,out.toList,?_⟩,rfl,q _ ns' hn a2 a3⟩
 ·rw [sortedHeap_old (Nat.ne_of_lt (lt_size e)) (lt_size (get?_push_of_some _ e))];exact get?_push_of_some _ e
 ·obtain ⟨c,hcx⟩:=sortedHeap_at (out:=out) hoL;exact ⟨c,DT a1,by rw [Array.toArray_toList]; exact hcx⟩
end
section
theorem EO (hc:X.calm=true):BU X (.builtin "all") (fun xs H Q=>∃ (p:Addr) (bs:List Bool),xs=[.ref p]/\SqL X.K H p (bs.map V.bl)/\Q (.bl (bs.all id)) H):=by
 intro aa s σ H xs us Q I r h;obtain ⟨p,bs,rfl,hq,q⟩:=h;obtain ⟨u,rfl,ru⟩:=Bb r;cases ru;obtain ⟨its,rv,pl,hz⟩:=I.list hq;have hp:p < s.heap.objs.size:=by obtain ⟨o,n,e,_⟩:=id pl; exact lt_size e
 have ay:bs.length=its.length:=by have:=rv.length; rw [length_map] at this; exact this
 refine call_all_walk (wpAny_pyIter_list pl.isList ?_);refine ⟨_,_,_,_,_,_,fun i=>bs.getD i false,rfl,Walks.list (A:=X.A.in1) (show X.A.in1.handled=none from I.ok.hd hc) _ p (Nat.ne_of_lt hp) its.toArray,⟨⟨_,get?_push_size _ rfl,rfl,rfl⟩,pl.isList.at fun o e=>get?_push_of_some _ e⟩,fun i v s' Q' E' hP hQ=>?_,fun h' tk keep=>?_⟩
 ·have hv:its[i]?=some v:=by simpa using hP
  have hi:i < its.length:=(List.getElem?_eq_some_iff.mp hv).1;have hb:bs[i]?=some (bs[i]'(by omega)):=List.getElem?_eq_getElem (by omega);obtain ⟨u',hu',ru'⟩:=rv.get (i:=i) (x:=V.bl (bs[i]'(by omega))) (by rw [getElem?_map,hb]; rfl);rw [hv] at hu';cases hu';cases (show v=Value.bool _ from ru');refine wpAny_truthy_bool ?_;have hQ':Q' (bs.getD i false) s':=hQ;rw [getD_eq_getElem?_getD,hb] at hQ';exact hQ'
 ·have I1:Inv X aa σ H { s with heap:=h',toks:=tk }:=I.kept fun b o e=>keep b o (by simp; exact Nat.ne_of_lt (lt_size e)) (get?_push_of_some _ e);refine ⟨.bl _,H,I1,rfl,?_⟩
  have e:(List.range its.toArray.size).all (fun i=>bs.getD i false)=bs.all id:=by
   rw [size_toArray,← ay,Bool.eq_iff_iff,List.all_eq_true,List.all_eq_true];constructor
   ·intro h b hb;obtain ⟨i,hi,rfl⟩:=List.mem_iff_getElem.mp hb;have:=h i (mem_range.mpr hi);rw [getD_eq_getElem?_getD,List.getElem?_eq_getElem hi] at this;exact this
   ·intro h i hi;have hi':=mem_range.mp hi;rw [getD_eq_getElem?_getD,List.getElem?_eq_getElem hi'];exact h _ (List.getElem_mem hi')
  rw [e];exact q
theorem DC (ns:List Int):∀ k,k <= ns.length->preSum (fun i=>ns.getD i 0) k=(ns.take k).sum
 | 0,_=>by simp [preSum]
 | k + 1,h=>by
  have ih:=DC ns k (by omega);have hk:k < ns.length:=by omega
  simp only [preSum,ih];rw [take_add_one,List.getElem?_eq_getElem hk,sum_append];simp [getD_eq_getElem?_getD,List.getElem?_eq_getElem hk]
theorem Lx (hc:Rdy X):BU X (.builtin "sum") (fun xs H Q=>∃ (p:Addr) (ns:List Int),xs=[.ref p]/\SqL X.K H p (ns.map V.int)/\(∀ n ∈ ns,0 <= n)/\ns.sum < 2 ^ 62/\Q (.int ns.sum) H):=by
 intro aa s σ H xs us Q I r h;obtain ⟨p,ns,rfl,hq,hnn,hsum,q⟩:=h;obtain ⟨u,rfl,ru⟩:=Bb r;cases ru;obtain ⟨its,rv,pl,hz⟩:=I.list hq;have hp:p < s.heap.objs.size:=by obtain ⟨o,n,e,_⟩:=id pl; exact lt_size e
 have ay:ns.length=its.length:=by have:=rv.length; rw [length_map] at this; exact this
 have tk0:∀ k,0 <= (ns.take k).sum:=fun k=>by
  have:∀ l:List Int,(∀ n ∈ l,0 <= n)->0 <= l.sum:=fun l=>by
   induction l with
   | nil=>intro _; simp
   | cons a r ih=>intro h; rw [sum_cons]; have:=h a mem_cons_self; have:=ih fun n hn=>h n (mem_cons_of_mem _ hn); omega
  exact this _ fun n hn=>hnn n (List.mem_of_mem_take hn)
 have tkle:∀ k,(ns.take k).sum <= ns.sum:=fun k=>by
  have e:ns.sum=(ns.take k).sum + (ns.drop k).sum:=by rw [← sum_append,List.take_append_drop]
  have:∀ l:List Int,(∀ n ∈ l,0 <= n)->0 <= l.sum:=fun l=>by
   induction l with
   | nil=>intro _; simp
   | cons a r ih=>intro h; rw [sum_cons]; have:=h a mem_cons_self; have:=ih fun n hn=>h n (mem_cons_of_mem _ hn); omega
  have:=this _ fun n hn=>hnn n (List.mem_of_mem_drop (i:=k) hn);omega
 refine call_sum_walk (wpAny_pyIter_list pl.isList ?_);obtain ⟨fp,St,W,st0,hfp⟩:=KH hc I pl.isList;refine ⟨_,_,_,_,_,_,fun i=>ns.getD i 0,rfl,W,st0,fun b hb=>?_,fun i v hP=>?_,fun j hj=>?_,fun h' tk t' keep=>?_⟩
 ·have hs:(s.heap.push { cls:=.type "list_iterator", data:=.fields #[.ref p,.int 0 0] }).objs.size=s.heap.objs.size + 1:=size_push ..;show b < (s.heap.push { cls:=.type "list_iterator", data:=.fields #[.ref p,.int 0 0] }).objs.size;rw [hs];exact hfp b hb
 ·have hv:its[i]?=some v:=by simpa using hP
  have hi:i < its.length:=(List.getElem?_eq_some_iff.mp hv).1;have hb:ns[i]?=some (ns[i]'(by omega)):=List.getElem?_eq_getElem (by omega);obtain ⟨u',hu',t,ru'⟩:=rv.get (i:=i) (x:=V.int (ns[i]'(by omega))) (by rw [getElem?_map,hb]; rfl);rw [hv] at hu';cases hu';refine ⟨t,?_⟩;show v=Value.int (ns.getD i 0) t;rw [ru',getD_eq_getElem?_getD,hb];rfl
 ·have hj':j < ns.length:=by rw [size_toArray] at hj; omega
  rw [DC ns (j + 1) (by omega)];have h1:=tk0 (j + 1);have h2:=tkle (j + 1);have h3:ns.getD j 0=ns[j]:=by rw [getD_eq_getElem?_getD,List.getElem?_eq_getElem hj']; rfl
  have h4:=hnn _ (List.getElem_mem hj');have h5:(ns.take (j + 1)).sum=(ns.take j).sum + ns[j]:=by rw [take_add_one,List.getElem?_eq_getElem hj',sum_append]; simp
  have h6:=tk0 j;show InLong (ns.getD j 0)/\InLong _;unfold InLong;rw [h3];omega
 ·have I1:Inv X aa σ H { s with heap:=h',toks:=tk }:=I.kept fun b o e=>keep b o (by simp; exact Nat.ne_of_lt (lt_size e)) (get?_push_of_some _ e);refine ⟨.int ns.sum,H,I1,⟨t',?_⟩,q⟩;rw [size_toArray,← ay,DC ns ns.length (Nat.le_refl _),take_length]
theorem NM (hc:X.calm=true):BU X (.builtin "sum") (fun xs H Q=>∃ (p:Addr) (ns:List Int),xs=[.ref p]/\SqL X.K H p (ns.map V.int)/\(∀ n ∈ ns,0 <= n)/\ns.sum < 2 ^ 62/\Q (.int ns.sum) H):=Lx (.inl hc)
theorem Hx:MtR X "int.bit_length" (fun x xs H Q=>∃ i,x=.int i/\xs=[]/\Q (.int (Builtin.Int.intBits i)) H):=by
 intro aa s σ H x xs v us Q I rx rs h;obtain ⟨i,rfl,rfl,q⟩:=h;obtain ⟨t,rfl⟩:=rx;cases rs;exact call_int_bit_length ⟨.int _,H,I.tok _,⟨_,rfl⟩,q⟩
theorem HE:OpR X (compareOp .LtE) (fun x y H Q=>∃ i j,x=.str i/\y=.str j/\Q (.bl (!decide (j.cps.toList < i.cps.toList))) H):=by
 intro aa s σ H x y v u Q I rx ry h;obtain ⟨i,j,rfl,rfl,q⟩:=h;obtain ⟨t,rfl⟩:=rx;obtain ⟨t',rfl⟩:=ry;exact PySem.P.le_str (Aj I q rfl)
theorem Gu:MtR X "dict.setdefault" (fun x xs H Q=>∃ a kvs k v,x=.ref a/\xs=[kV k,v]/\H a=some (.dK kvs)/\kvs.length < sizeLine /\
  (∀ w,A7 kvs k=some w->Q w H)/\(A7 kvs k=none->Q v (upd H a (.dK (B0 kvs k v))))):=by
 intro aa s σ H x xs u us Q I rx rs h;obtain ⟨a,kvs,k,v,rfl,rfl,hd,hl,q1,q2⟩:=h;cases rx;obtain ⟨uk,uv,rfl,rk,rv⟩:=Fh rs;obtain ⟨z,y,vs,rel,dd⟩:=K8 I.hok hd;refine call_meetsIn PySem.F.slot_dict_setdefault dd.typeIs PySem.F.entry_dict_setdefault (PySem.F.args_dict_setdefault_3 _ _ _) (PySem.kt_meets_setdefault (Ah X.prog X.w) a (FF rk) y uv) ⟨vs,dd,by rw [← rel.length]; exact z,fun w' hw=>?_,fun hn h' dd' hs=>?_⟩
 ·have rr:=rel.val k;rw [hw] at rr;cases e:A7 kvs k with
  | none=>rw [e] at rr; exact False.elim rr
  | some w=>rw [e] at rr; exact ⟨w,H,I.tok _,rr,q1 w e⟩
 ·have rr:=rel.val k;rw [hn] at rr
  have e:A7 kvs k=none:=by
   cases e:A7 kvs k with
   | none=>rfl
   | some w=>rw [e] at rr; exact False.elim rr
  have he:∃ q,h'.get? a=some q:=let ⟨q,_,_,hq,_⟩:=dd'; ⟨q,hq⟩
  have hl':(B0 kvs k v).length <= sizeLine:=by have:=B1 kvs k v; omega
  exact ⟨v,_,EI I (by rw [hd]; exact True.intro) hs he (Hu hl' y (rel.put k rv) dd'),rv,q2 e⟩
theorem NN:BU X (.builtin "isinstance") (fun xs H Q=>∃ v T t b,xs=[v,.ty T]/\TyOf X.K H v t/\W.kitOne X.K t (.type T)=some b/\Q (.bl b) H):=by
 intro aa s σ H xs us Q I r h;obtain ⟨v,T,t,b,rfl,ty,hk,q⟩:=h;obtain ⟨u,uT,rfl,ru,ruT⟩:=Fh r;cases (show uT=Value.type T from ruT);exact G3 I ru ty hk fun tk=>⟨.bl b,H,I.tok tk,rfl,q⟩
end
def JE (d:Int):List Int->Int
 | []=>d
 | n :: r=>r.foldl max n
theorem HF (d:Int) (ns:List Int) (n:Int) (h:ns ≠ []):JE d (ns++[n])=max (JE d ns) n:=by
 cases ns with
 | nil=>exact absurd rfl h
 | cons a r=>show (r++[n]).foldl max a=_; rw [foldl_append]; rfl
theorem Ly (a v:Value):argsOk "max" ⟨[a],[(Str.ofString "default", v)]⟩:=by unfold argsOk; kernel_rfl
section
variable {prog:Program} {R:Result->Shared->Prop} {p I S:Addr} {its:List Value} {ns:List Int} {d:Value}
def NO:Option (Int × Tok)->Array Value
 | none=>#[]
 | some (m,t)=>#[.int m t,.int m t]
theorem Lz (hh:A.handled=none) (bf:IntsAre its ns) (hpI:p ≠ I) (hSI:S ≠ I) (hpS:p ≠ S)
  (hR:∀ h' tk v,(∀ b o,b ≠ I->b ≠ S->s.heap.get? b=some o->h'.get? b=some o)->(ns=[]->v=d)->(ns ≠ []->∃ t,v=.int (JE 0 ns) t)->R (.ok (.ret v)) { s with heap:=h',toks:=tk }) :
  ∀ (k i:Nat) (h:Heap) (tk c:Nat) (b:Option (Int × Tok)),its.length - i=k->i <= its.length->h.IsListIter I p i->h.IsList p its.toArray->h.get? S=some { cls:=.type "list", data:=.seq (NO b) c } ->
   (b=none->i=0)->(∀ m t,b=some (m,t)->0 < i/\m=JE 0 (ns.take i))->(∀ b' o,b' ≠ I->b' ≠ S->s.heap.get? b'=some o->h.get? b'=some o) ->
   codeAny (model prog w) A (.builtin "max.loop" ⟨[.ref I,.none,.ref S],[(Str.ofString "default", d)]⟩) R { s with heap:=h,toks:=tk }:=by
 have az:(toString "max" ++ toString ".loop" : String) = "max.loop" := by decide
 have ay:=bf.length;intro k;induction k with
 | zero =>
  intro i h tk c b hk hi hit hl hS hb0 hb1 keep;have e:i=its.length:=by omega
  refine codeAny_builtin PySem.F.entry_max_loop ?_;rw [Around.under_plainId PySem.F.plain_max_loop _];show wpAny _ A.in1 (seqItems? (.ref S) >>= _) _ _ _;refine wpAny_bind (wpAny_seqItems hS rfl ?_);show wpAny _ A.in1 (tryCatch (pyNext (.ref I)) _ >>= _) _ _ _;refine wpAny_bind (wpAny_tryCatch (wpAny_pyNext_list_end (show A.in1.handled=none from hh) hit hl (by simp; omega) fun h' eb=>?_));cases b with
  | none =>
   have hn:ns=[]:=by
    have:=hb0 rfl;exact List.eq_nil_of_length_eq_zero (by omega)
   exact wpAny_bind (wpAny_rule (wpAny_pure (hR h' tk d (fun b o h1 h2 q=>eb b o h1 (keep b o h1 h2 q)) (fun _=>rfl) fun z=>absurd hn z)))
  | some mt =>
   obtain ⟨m,t⟩:=mt;obtain ⟨hpos,hm⟩:=hb1 m t rfl
   have av:ns ≠ []:=fun z=>by
    have:its.length=0:=by rw [ay,z]; rfl
    omega
   show wpAny _ A.in1 (updateSeq S (fun _=>#[]) >>= _) _ _ _;refine wpAny_bind (wpAny_updateSeq (eb S _ hSI hS) rfl (wpAny_bind (wpAny_letGo (wpAny_pure ?_))) sl2);refine hR _ tk _ (fun b o h1 h2 q=>(get?_update_other _ _ (Ne.symm h2)).trans (eb b o h1 (keep b o h1 h2 q))) (fun z=>absurd z av) fun _=>⟨t,?_⟩;rw [hm,e,ay,take_length]
 | succ k ih =>
  intro i h tk c b hk hi hit hl hS hb0 hb1 keep;have hlt:i < its.length:=by omega
  have hv:its[i]?=some its[i]:=List.getElem?_eq_getElem hlt
  obtain ⟨n,t,hn,hvt⟩:∃ n t,ns[i]?=some n/\its[i]=.int n t:=by
   have hi2:i < ns.length:=by omega
   obtain ⟨u,hu,t,ru⟩:=(DT bf).get (i:=i) (x:=V.int ns[i]) (by rw [getElem?_map,List.getElem?_eq_getElem hi2]; rfl);rw [hv] at hu;exact ⟨ns[i],t,List.getElem?_eq_getElem hi2,(Option.some.inj hu).trans ru⟩
  refine codeAny_builtin PySem.F.entry_max_loop ?_;rw [Around.under_plainId PySem.F.plain_max_loop _];show wpAny _ A.in1 (seqItems? (.ref S) >>= _) _ _ _;refine wpAny_bind (wpAny_seqItems hS rfl ?_);show wpAny _ A.in1 (tryCatch (pyNext (.ref I)) _ >>= _) _ _ _;refine wpAny_bind (wpAny_tryCatch (wpAny_pyNext_list_item hit hl (x:=.int n t) (by simpa [hvt] using hv) fun h' hit' sb=>?_));have hS':h'.get? S=some { cls:=.type "list", data:=.seq (NO b) c }:=(sb.2 S hSI).trans hS;have hl':h'.IsList p its.toArray:=hl.at fun o q=>(sb.2 p hpI).trans q;have keep':∀ b' o,b' ≠ I->b' ≠ S->s.heap.get? b'=some o->h'.get? b'=some o:=fun b' o h1 h2 q=>(sb.2 b' h1).trans (keep b' o h1 h2 q);have etk:ns.take (i + 1)=ns.take i++[n]:=by rw [take_add_one,hn]; rfl
  have store:∀ c0,(∀ v,v=Value.int n t->(h'.update S (Obj.mapSeq fun _=>#[v,v])).get? S=some { cls:=.type "list", data:=.seq (NO (some (n,t))) c0 })->n=JE 0 (ns.take (i + 1)) ->
    codeAny (model prog w) A (.builtin "max.loop" ⟨[.ref I,.none,.ref S],[(Str.ofString "default", d)]⟩) R { s with heap:=h'.update S (Obj.mapSeq fun _=>#[.int n t,.int n t]),toks:=tk }:=fun c0 e0 em =>
   ih (i + 1) _ tk c0 (some (n,t)) (by omega) hlt (hit'.at fun o q=>(get?_update_other _ _ hSI).trans q) (hl'.at fun o q=>(get?_update_other _ _ (Ne.symm hpS)).trans q) (e0 _ rfl) (fun z=>by cases z)
    (fun m t' z=>by cases z; exact ⟨Nat.succ_pos _,em⟩) fun b' o h1 h2 q=>(get?_update_other _ _ (Ne.symm h2)).trans (keep' b' o h1 h2 q)
  cases b with
  | none =>
   have hi0:=hb0 rfl;show wpAny _ A.in1 (updateSeq S (fun _=>#[Value.int n t,Value.int n t]) >>= _) _ _ _;refine wpAny_bind (wpAny_updateSeq hS' rfl ?_);rw [az];refine wpAny_pure ⟨plainId_quiet PySem.F.plain_max_loop _,store _ (fun v e=>by subst e; exact get?_update_seq hS' fun _=>#[_,_]) ?_⟩;rw [etk,hi0];rfl
  | some mt =>
   obtain ⟨m,t0⟩:=mt;obtain ⟨hpos,hm⟩:=hb1 m t0 rfl
   have av:ns.take i ≠ []:=fun z=>by
    have:=congrArg List.length z;rw [length_take,length_nil] at this;omega
   show wpAny _ A.in1 (tryCatch (holding [Value.int n t,Value.int n t] (richCompare .Gt (.int n t) (.int m t0) >>= _)) _ >>= _) _ _ _
   refine wpAny_bind (wpAny_tryCatch (wpAny_holding (wpAny_bind (CmpOf.ints_gt (P:=fun i v=>(i=0/\v=.int n t)\/(i=1/\v=.int m t0)) (fun i=>if i=0 then n else m) (fun i v h=>by
    rcases h with ⟨rfl,rfl⟩ | ⟨rfl,rfl⟩
    ·exact ⟨t,rfl⟩
    ·exact ⟨t0,rfl⟩) 0 1 _ _ _ _ _ (.inl ⟨rfl,rfl⟩) (.inr ⟨rfl,rfl⟩) ?_))))
   refine wpAny_bind (wpAny_holding (wpAny_truthy_bool ?_));refine wpAny_bind (wpAny_letGo (wpAny_pure ?_));by_cases hgt:n > m
   ·have e1:(fun (i j:Nat)=>decide ((if i=0 then n else m) > if j=0 then n else m)) 0 1=true:=decide_eq_true hgt;rw [e1];simp only [if_true];refine wpAny_bind (wpAny_updateSeq hS' rfl (wpAny_bind (wpAny_letGo ?_)) sl2);rw [az];refine wpAny_pure ⟨plainId_quiet PySem.F.plain_max_loop _,store _ (fun v e=>by subst e; exact get?_update_seq hS' fun _=>#[_,_]) ?_⟩;rw [etk,HF 0 _ n av,← hm];omega
   ·have e1:(fun (i j:Nat)=>decide ((if i=0 then n else m) > if j=0 then n else m)) 0 1=false:=decide_eq_false hgt;rw [e1];simp only [Bool.false_eq_true,if_false];refine wpAny_bind (wpAny_letGo ?_);rw [az]
    refine wpAny_pure ⟨plainId_quiet PySem.F.plain_max_loop _,ih (i + 1) _ tk c (some (m,t0)) (by omega) hlt hit' hl' hS' (fun z=>by cases z) (fun m' t' z=>by
     cases z;refine ⟨Nat.succ_pos _,?_⟩;rw [etk,HF 0 _ n av,← hm]
     omega) keep'⟩
end
section
variable {c:Expr} {tc:TE} {p kp:Pos}
theorem LI (hc:X.calm=true) (hg:Gl X "max") (hm:X.mg "max" = none) (he:PE X e te) (hcc:PE X c tc) (hs:starEach [e] X.env=(false,eval e X.env) :: starEach [] X.env:=by rfl)
  (hs2:backTo pos (starEach [e] X.env)=(false,eval e X.env) :: backTo pos (starEach [] X.env):=by rfl) :
  PE X (.Call (.Name "max" p) [e] [⟨some "default", c,kp⟩] pos) (fun σ H Q=>te σ H fun x H1=>tc σ H1 fun y H2=>∃ (a:Addr) (ns:List Int) (d:Int),x=.ref a/\y=.int d/\SqL X.K H2 a (ns.map V.int)/\(ns=[]->Q (.int d) H2)/\(ns ≠ []->Q (.int (JE 0 ns)) H2)):=by
 intro aa s σ H Q I h;refine wpAny_Call_Name_kw (C8 (u:=.builtin "max") I hg hm boot_max ?_)
 let R3:V->V->Hp->Prop:=fun x y H2=>∃ (a:Addr) (ns:List Int) (d:Int),x=.ref a/\y=.int d/\SqL X.K H2 a (ns.map V.int)/\(ns=[]->Q (.int d) H2)/\(ns ≠ []->Q (.int (JE 0 ns)) H2)
 refine callWith_kw (thn ((AA he AB hs:PA X [e] (A2 te En)) pos aa s σ H (fun vs H1=>match vs with | [x]=>tc σ H1 (fun y H2=>R3 x y H2) | _=>False) I h) fun us s1 ⟨vs,H1,I1,r1,q1⟩=>?_) hs2 (by rw [hs2]; rfl)
 match vs,r1,q1 with
 | [x],r1,q1 =>
  refine thn ((DR (nm:=some "default") (kpos:=kp) hcc Fj:PK X [⟨some "default", c,kp⟩] (A2 tc En)) pos aa s1 σ H1 (fun vs H2=>match vs with | [y]=>R3 x y H2 | _=>False) I1 q1) fun us2 s2 ⟨vs2,H2,I2,r2,q2⟩=>?_
  match vs2,r2,q2 with
  | [y],r2,q2 =>
   obtain ⟨a,ns,d,rfl,rfl,hq,k1,k2⟩:=q2;obtain ⟨u,rfl,ru⟩:=Bb r1;cases ru;obtain ⟨ud,rfl,td,rud⟩:=Bb r2;subst rud;obtain ⟨its,rv,pl,hz⟩:=I2.list hq;have hp:a < s2.heap.objs.size:=by obtain ⟨o,n,e,_⟩:=id pl; exact lt_size e
   show wpAny _ _ (call (.builtin "max") [.ref a] [(Str.ofString "default", .int d td)]) _ _ _;refine PyProof.Rows.kmk_tree PySem.F.kind_max PySem.F.plain_max PySem.F.entry_max (Ly _ _) ?_;show wpAny _ X.A.in1 (Builtin.Builtins.bindParams "max" ["key", "default"] 0 ⟨[],[(Str.ofString "default", .int d td)]⟩ >>= _) _ _ _;refine wpAny_bind (wpAny_of_eq (show Builtin.Builtins.bindParams "max" ["key", "default"] 0 ⟨[],[(Str.ofString "default", Value.int d td)]⟩=pure [none,some (.int d td)] from rfl) ?_);refine wpAny_bind (wpAny_pure ?_);refine wpAny_bind (wpAny_pyIter_list pl.isList ?_);refine wpAny_bind (wpAny_newList ?_ (Nat.zero_le _));have az:(toString "max" ++ toString ".loop" : String) = "max.loop" := by decide
   rw [az];have hS:(s2.heap.push { cls:=.type "list_iterator", data:=.fields #[.ref a,.int 0 0] }).objs.size=s2.heap.objs.size + 1:=size_push ..
   refine wpAny_pure ⟨plainId_quiet PySem.F.plain_max_loop _,Lz (its:=its) (ns:=ns) (s:=s2) (I.ok.hd hc) (CJ rv) (Nat.ne_of_lt hp) (by rw [hS]; exact Nat.succ_ne_self _) (by rw [hS]; exact Nat.ne_of_lt (Nat.lt_succ_of_lt hp))
    (fun h' tk v keep e1 e2=>?_) _ 0 _ _ 0 none rfl (Nat.zero_le _) ⟨_,get?_push_of_some _ (get?_push_size _ rfl),rfl,rfl⟩ (pl.isList.at fun o q=>get?_push_of_some _ (get?_push_of_some _ q)) (get?_push_size _ rfl) (fun _=>rfl) (fun m t z=>by cases z) fun b o h1 h2 q=>get?_push_of_some _ (get?_push_of_some _ q)⟩
   have I3:Inv X aa σ H2 { s2 with heap:=h',toks:=tk }:=I2.kept fun b o q=>keep b o (Nat.ne_of_lt (lt_size q)) (by rw [hS]; exact Nat.ne_of_lt (Nat.lt_succ_of_lt (lt_size q))) q;by_cases hn:ns=[]
   ·rw [e1 hn];exact ⟨.int d,H2,I3,⟨td,rfl⟩,k1 hn⟩
   ·obtain ⟨t,ev⟩:=e2 hn;rw [ev];exact ⟨.int _,H2,I3,⟨t,rfl⟩,k2 hn⟩
end
def TupsAt (H:Hp):List Addr->List (V × V)->Prop:=Paired fun b p=>H b=some (.tup [p.1,p.2])
theorem TupsAt.same {as:List Addr} {ps:List (V × V)} (s:∀ b o,H b=some o->H' b=some o) (h:TupsAt H as ps):TupsAt H' as ps:=Paired.mapP h fun _ _ e=>s _ _ e
theorem Inv.trackTups {as:List Addr} {ps:List (V × V)} (hr:Paired (fun a (p:V × V)=>∃ its,Vals [p.1,p.2] its/\IsTup s.heap a its.toArray) as ps):∀ (H:Hp),Inv X aa σ H s->as.Pairwise (· < ·) ->
  (∀ a ∈ as,H a=none/\a ≠ X.env.locals/\X.s₀.heap.objs.size <= a/\(∀ x c,X.env.cells.lookup x=some c->c ≠ a)/\∀ q ∈ X.pn++aa,q.1 ≠ a)->∃ H',Inv X aa σ H' s/\Same H H'/\TupsAt H' as ps:=by
 induction hr with
 | nil=>intro H I _ _; exact ⟨H,I,Same.refl H,.nil⟩
 | @cons a p as ps h hr ih =>
  intro H I hp hok;obtain ⟨its,hv,ht⟩:=h;obtain ⟨p1,p2⟩:=pairwise_cons.mp hp;obtain ⟨o1,o2,o3,o4,o5⟩:=hok a mem_cons_self;have I1:Inv X aa σ (upd H a (.tup [p.1,p.2])) s:=I.track o1 o2 (.inr o3) o4 o5 ⟨by show 2 <= sizeLine; decide,its,hv,ht⟩;have s1:Same H (upd H a (.tup [p.1,p.2])):=fun b u e=>by rw [AF (AI e o1)]; exact e
  obtain ⟨H',I',s',t'⟩:=ih _ I1 p2 (fun b hb=>by
   obtain ⟨q1,q2⟩:=hok b (mem_cons_of_mem _ hb)
   exact ⟨by rw [AF (Nat.ne_of_gt (p1 b hb))]; exact q1,q2⟩)
  exact ⟨H',I',s1.trans s',.cons (s' _ _ upd_same) t'⟩
theorem KL (hc:X.calm=true):BU X (.type "list") (fun xs H Q=>∃ p a kvs,xs=[.ref p]/\H p=some (LG a p)/\Rd H a (.dK kvs) /\
  ∀ l as H',Same H H'->H l=none->H' l=some (.lst (as.map V.ref))->TupsAt H' as (kvs.map fun kv=>(kV kv.1,kv.2))->Q (.ref l) H'):=by
 intro aa s σ H xs us Q I r h;obtain ⟨p,a,kvs,rfl,hp,hd,q⟩:=h;obtain ⟨u,rfl,ru⟩:=Bb r;cases ru;obtain ⟨z,y,vs,rel,dd⟩:=C6 I.hok hd;obtain ⟨ep,da⟩:=dd.dictAt;obtain ⟨hv,_⟩:=I.hok p _ hp;have hl:=rel.length;refine W.kdx_call (knd:=Ah X.prog X.w) (kvs:=vs) (ep:=ep) (I.ok.hd hc) hv da (by rw [← hl]; exact z) fun h' tk acc c as keep e ay G bv=>?_;have I1:Inv X aa σ H { s with heap:=h',toks:=tk }:=I.kept keep;obtain ⟨n1,n2,n3,n4,n5⟩:=I.newOk (Nat.le_refl s.heap.objs.size);have el:acc=(as.map Value.ref).toArray:=by rw [← bv]
 have I2:Inv X aa σ (upd H s.heap.objs.size (.lst (as.map V.ref))) { s with heap:=h',toks:=tk }:=I1.track n1 n2 (.inr n3) n4 n5 ⟨by rw [length_map,ay,← hl]; exact z,as.map Value.ref,c,CD (by rw [length_map,length_map]) fun j v w' ev ew=>by
  rw [getElem?_map] at ev ew;cases e2:as[j]? with
  | none=>rw [e2] at ev; cases ev
  | some b=>rw [e2] at ev ew; cases ev; cases ew; rfl,by rw [← el]; exact e⟩
 have hpp:Paired (fun a (p:V × V)=>∃ its,Vals [p.1,p.2] its/\IsTup h' a its.toArray) as (kvs.map fun kv=>(kV kv.1,kv.2)):=(CD (by rw [length_map,ay,hl]) fun j b pr eb ep'=>by
   obtain ⟨key,k,x,ex,hk,ho⟩:=G.pairs j b eb;rw [getElem?_map] at ep';cases e2:kvs[j]? with
   | none=>rw [e2] at ep'; cases ep'
   | some kv =>
    rw [e2] at ep';simp only [Option.map_some,Option.some.injEq] at ep';obtain ⟨v2,hv2,rv2⟩:=KV.get rel e2;rw [ex] at hv2;simp only [Option.some.injEq,Prod.mk.injEq] at hv2;subst ep';refine ⟨[key,x],.cons ?_ (.cons ?_ .nil),_,ho,rfl,_,rfl⟩
    ·show RelV (kV kv.1) key;rw [← hv2.1]; exact FS hk
    ·show RelV kv.2 x
     rw [hv2.2]; exact rv2)
 obtain ⟨H',I',s',t'⟩:=Inv.trackTups (s:={ s with heap:=h',toks:=tk }) hpp _ I2 G.rise (fun b hb=>by
   have hgt:=G.above b hb;obtain ⟨m1,m2,m3,m4,m5⟩:=I.newOk (Nat.le_of_lt hgt)
   exact ⟨by rw [AF (Nat.ne_of_gt hgt)]; exact m1,m2,m3,m4,m5⟩)
 exact ⟨.ref s.heap.objs.size,H',I',rfl,q _ as H' (fun b u e=>s' b u (by rw [AF (AI e n1)]; exact e)) n1 (s' _ _ upd_same) t'⟩
mutual
def CO (K:FG) (H:Hp):PyData->V->Prop
 | .none,v=>v=.non
 | .bool b,v=>v=.bl b
 | .int i,v=>v=.int i
 | .str x,v=>v=.str x
 | .list ds,v=>∃ a xs,v=.ref a/\SqL K H a xs/\BV K H ds xs
 | .tuple ds,v=>∃ a xs,v=.ref a/\SqT K H a xs/\BV K H ds xs
 | .dict _,_=>False
def BV (K:FG) (H:Hp):List PyData->List V->Prop
 | [],xs=>xs=[]
 | d :: ds,xs=>∃ x r,xs=x :: r/\CO K H d x/\BV K H ds r
end
section
mutual
theorem Inv.reads (I:Inv X aa σ H s):∀ (d:PyData) (v:V) (u:Value),RelV v u->CO X.K H d v->∃ as,Reads s.heap u d as
 | .none,v,u,r,h=>by
  have e:v=.non:=by simpa [CO] using h
  subst e; cases r; exact ⟨_,.none⟩
 | .bool b,v,u,r,h=>by
  have e:v=.bl b:=by simpa [CO] using h
  subst e; cases r; exact ⟨_,.bool b⟩
 | .int i,v,u,r,h=>by
  have e:v=.int i:=by simpa [CO] using h
  subst e; obtain ⟨t,rfl⟩:=r; exact ⟨_,.int i t⟩
 | .str x,v,u,r,h=>by
  have e:v=.str x:=by simpa [CO] using h
  subst e; obtain ⟨t,rfl⟩:=r; exact ⟨_,.str x t⟩
 | .list ds,v,u,r,h=>by
  rw [CO] at h;obtain ⟨a,xs,rfl,hq,hd⟩:=h;cases r;obtain ⟨its,rv,⟨o,n,e,c,_,dd⟩,_⟩:=I.list hq;obtain ⟨as,hr⟩:=I.readsAll ds xs its rv hd;exact ⟨_,.list e c dd (by simpa using hr)⟩
 | .tuple ds,v,u,r,h=>by
  rw [CO] at h;obtain ⟨a,xs,rfl,hq,hd⟩:=h;cases r;obtain ⟨its,rv,⟨o,e,c,n,dd⟩,_⟩:=I.tuple hq;obtain ⟨as,hr⟩:=I.readsAll ds xs its rv hd;exact ⟨_,.tuple e c dd (by simpa using hr)⟩
 | .dict kvs,v,u,r,h=>by
  rw [CO] at h;exact h.elim
theorem Inv.readsAll (I:Inv X aa σ H s):∀ (ds:List PyData) (xs:List V) (us:List Value),Vals xs us->BV X.K H ds xs->∃ as,ReadsAll s.heap us ds as
 | [],xs,us,r,h=>by
  have e:xs=[]:=by simpa [BV] using h
  subst e; cases r; exact ⟨_,.nil⟩
 | d :: ds,xs,us,r,h=>by
  rw [BV] at h;obtain ⟨x,xr,rfl,h1,h2⟩:=h;cases r with
  | cons p q =>
   obtain ⟨as,h3⟩:=I.reads d x _ p h1;obtain ⟨bs,h4⟩:=I.readsAll ds xr _ q h2;exact ⟨_,.cons h3 h4⟩
end
end
section
theorem KM (K:FG) (hK:X.K=K) (hu:X.A.units + 64 < cLine):OpR X (compareOp .Eq) (fun x y H Q=>∃ dx dy,CO K H dx x/\CO K H dy y/\SeqAt.shaped dx=true/\SeqAt.shaped dy=true/\Q (.bl (PyData.eqv dx dy)) H):=by
 subst hK;intro aa s σ H x y v u Q I rx ry h;obtain ⟨dx,dy,h1,h2,s1,s2,q⟩:=h;obtain ⟨as,r1⟩:=I.reads dx x v rx h1;obtain ⟨bs,r2⟩:=I.reads dy y u ry h2;exact eq_dataH r1 r2 s1 s2 hu ⟨.bl _,H,I,rfl,q⟩
theorem QP (K:FG) (hK:X.K=K) (hu:X.A.units + 64 < cLine):OpR X (compareOp .NotEq) (fun x y H Q=>∃ dx dy,CO K H dx x/\CO K H dy y/\SeqAt.shaped dx=true/\SeqAt.shaped dy=true/\Q (.bl (!PyData.eqv dx dy)) H):=by
 subst hK;intro aa s σ H x y v u Q I rx ry h;obtain ⟨dx,dy,h1,h2,s1,s2,q⟩:=h;obtain ⟨as,r1⟩:=I.reads dx x v rx h1;obtain ⟨bs,r2⟩:=I.reads dy y u ry h2;exact ne_dataH r1 r2 s1 s2 hu ⟨.bl _,H,I,rfl,q⟩
theorem QQ (K:FG) (hK:X.K=K) (hu:X.A.units + 64 < cLine):OpR X (compareOp .Eq) (fun x y H Q=>∃ (a b:Addr) (ns ms:List Int),x=.ref a/\y=.ref b/\SqL K H a (ns.map V.int)/\SqL K H b (ms.map V.int)/\Q (.bl (decide (ns=ms))) H):=by
 subst hK;intro aa s σ H x y v u Q I rx ry h;obtain ⟨a,b,ns,ms,rfl,rfl,h1,h2,q⟩:=h;cases rx;cases ry;obtain ⟨is1,r1,p1,_⟩:=I.list h1;obtain ⟨is2,r2,p2,_⟩:=I.list h2;exact W.ke_eq_ints p1.isList p2.isList (CJ r1) (CJ r2) hu ⟨.bl _,H,I,rfl,q⟩
def QR (C:Addr) (sp:Sp) (gV:List V->List V->List V) (E:XK) (t tk:TA):TE:=fun σ H Q=>t σ H fun vs H1=>tk σ H1 fun zs H2=>∀ x dx,H2 x=none->H2 dx=none->dx ≠ x ->
 sp (gV (.ref x :: vs) zs) (upd (upd H2 dx (.own x)) x (.ins C dx [])) (fun v H3=>v=.non/\Q (.ref x) H3) E
variable {k:Nat} {fd:FuncData} {ps ks:List Str} {sp:Sp} {p:Pos} {es:List Expr} {kws:List Keyword} {t tk:TA} {g:List Value->List Value->List Value} {gV:List V->List V->List V}
theorem JF (M:Mk X.K C f) (F:Ae X.prog X.w X.K X.mg X.base CX0 k f fd ps sp) (hr:Room (k + 1) X.A) (hg:Gl X x) (hm:X.mg x=some (.ref C)) (hb:Fk X.K fd ps ks g gV)
  (ha:PA X (e :: es) t) (hkw:PK X kws tk) (bd:(backToKw pos (keywordEach kws X.env)).all (·.1.isSome)=true:=by rfl) (hks:(backToKw pos (keywordEach kws X.env)).filterMap (·.1)=ks:=by rfl)
  (hdb:(x == ("__debug__" : Str))=false:=by decide) (he:starEach (e :: es) X.env=(false,eval e X.env) :: starEach es X.env:=by rfl)
  (hpl:((backTo pos (starEach (e :: es) X.env)).any (·.1) || (backToKw pos (keywordEach kws X.env)).any (·.1.isNone))=false:=by rfl) :
  PE X (.Call (.Name x p) (e :: es) kws pos) (QR C sp gV E0 t tk):=by
 intro aa s σ H Q I h;refine wpAny_Call_Name_kw (FQ I hg hm ?_ hdb);refine W.callWith_KW (h₀:=X.base) I.ok.mod.kin M.kp bd (thn (ha pos aa s σ H _ I h) fun us s1 ⟨vs,H1,I1,r,q⟩=>?_) hpl he;refine thn (hkw pos aa s1 σ H1 _ I1 q) fun ws s2 ⟨zs,H2,I2,rz,q2⟩=>⟨I2.kIn,?_⟩;rw [hks];have hq:=q2 (s2.heap.objs.size + 1) s2.heap.objs.size (I2.hok.fresh (Nat.le_succ _)) (I2.hok.fresh (Nat.le_refl _)) (Nat.ne_of_lt (Nat.lt_succ_self _));have I3:=Inv.made (C:=C) I2;have r2:Vals (gV (V.ref (s2.heap.objs.size + 1) :: vs) zs) (g (Value.ref (s2.heap.objs.size + 1) :: us) ws):=hb.rel (.cons rfl r) rz;have hl:(g (Value.ref (s2.heap.objs.size + 1) :: us) ws).length=ps.length:=by rw [← r2.length]; exact F.len _ _ _ _ hq
 refine wpAny_call (Iq (f:=f) I2.kIn M.makes M.init (beq_iff_eq.mp M.fn) (codeAny_mono (F.run _ X.stack _ _ ⟨Value.ref (s2.heap.objs.size + 1) :: us,ks.zip ws⟩ _ _ _ E0 (hr.make C us (ks.zip ws)) (I3.env0.make C us (ks.zip ws)) (hb.to _ _ _ I3.kIn hl) r2 hq) fun r' s' hq'=>?_));cases r' with
 | error e=>exact hq'.elim
 | ok fl =>
  cases fl with
  | ret u =>
   obtain ⟨v,H',I4,rv,ev,q3⟩:=I3.after hq';subst ev;exact ⟨rv,⟨V.ref (s2.heap.objs.size + 1),H',I4,rfl,q3⟩⟩
  | next=>exact False.elim hq'
  | brk=>exact False.elim hq'
  | cont=>exact False.elim hq'
def SY (i j:Int):Prop:=Builtin.Int.intBits i <= 2 ^ 20/\Builtin.Int.intBits j <= 2 ^ 20
theorem Hy:OpR X (binaryOp .Mult) (rI SY fun i j=>.int (i * j)):=opI fun _ _ _ _ _ _ _ hc q=>mul_int q (IntMulOk.of_bits hc.1 hc.2)
def Rk (i j:Int):Prop:=0 < j/\Builtin.divisionGoesByPylong i j=false
theorem NP:OpR X (binaryOp .FloorDiv) (rI Rk fun i j=>.int (i / j)):=opI fun i j _ _ _ _ _ hc q=>by
 have h1:(0:Int) < j:=hc.1;exact floordiv_int (by omega) (by rw [Int.fdiv_eq_ediv_of_nonneg i (by omega)]; exact q) (.inl hc.2)
end
section
variable {prog:Program} {x y:Addr} {ox oy:Obj} {od od':Option Obj}
theorem Hz {M:Model} {args:List Value} {Q:Option Value->Shared->Prop} (X:K.In s.heap) (I:W.InstAt s.heap x ox C od) (hs:W.findIn K (.ref C) "__ne__" = some (some (.builtin "object.__ne__")))
  (h:wpAny M A (call (.builtin "object.__ne__") (.ref x :: args)) (fun v=>Q (some v)) E s):wpAny M A (callSpecialIfBound? (.ref x) "__ne__" args) Q E s:=by
 simp only [callSpecialIfBound?,bindSpecialIfBound?];refine wpAny_holding (wpAny_bind (wpAny_bind (wpAny_bind (I.type.here ((W.looks_findIn X hs).here ?_)))));simp only [PySem.F.cmp_object.ne.bind];refine wpAny_bind (wpAny_askSetting (wpAny_ite ?_));have fin:wpAny M A (call (.builtin "object.__ne__") ([.ref x]++args) >>= fun v=>pure (some v)) Q E s:=wpAny_bind (wpAny_mono h (fun v s' h'=>wpAny_pure h') fun _ _ h'=>h');split
 ·exact wpAny_bind (wpAny_pure (wpAny_pure fin))
 ·exact wpAny_tryCatch (wpAny_bind (wpAny_pure (wpAny_pure fin)))
theorem JG {Q:VS} (hu:A.units + 1 < cLine) (X:K.In s.heap) (I:W.InstAt s.heap x ox C od) (hm:W.mroIn K C (.type "object")=some true) (hr:W.findIn K (.ref C) "__eq__" = some (some (.ref f))) (hf:W.isFn K (.ref f)=true)
    (h:wpAny (model prog w) A.in1 (call (.ref f) [.ref x,.ref y]) (fun v s'=>∃ b,v=.bool b/\Q (.bool (!b)) s') E s):wpAny (model prog w) A (call (.builtin "object.__ne__") [.ref x,.ref y]) Q E s:=by
  refine wpAny_call (codeAny_call_builtin PySem.F.cmp_object.ne.plain PySem.F.cmpEntry_ne (W.check_slot (i := "object.__ne__") (owner := "object") (n := "__ne__") (by decide +kernel) (by decide +kernel) (I.type.andThen (W.looks_mroIn X hm)) (PySem.F.cmpArgs_ne _ _) ?_));unfold Builtin.«object.__ne__»
  repeat (first
    | with_reducible refine wpAny_cRoomFor (by show A.in1.units < cLine; exact hu) ?_
    | (refine wpAny_bind (m:=callSpecialIfBound? (.ref x) (Str.ofString "__eq__") [.ref y])
        (W.ifBound_K X I hr hf (wpAny_mono h (fun r s' hr=>by
          obtain ⟨b,rfl,hq⟩:=hr
          repeat (first | exact hq | exact ⟨_,rfl,hq⟩ | exact wpAny_pure ⟨_,rfl,hq⟩ | (refine wpAny_bind (m:=truthy (.bool _)) (wpAny_truthy_bool ?_)) | wp_step)) fun _ _ e=>e)))
    | wp_step)
theorem QS {Q:VS} (hu:A.units + 1 < cLine) (X:K.In s.heap) (I:W.InstAt s.heap x ox C od) (J:W.InstAt s.heap y oy C od') (hm:W.mroIn K C (.type "object")=some true)
  (hn:W.findIn K (.ref C) "__ne__" = some (some (.builtin "object.__ne__"))) (hr:W.findIn K (.ref C) "__eq__" = some (some (.ref f))) (hf:W.isFn K (.ref f)=true)
  (h:wpAny (model prog w) A.in1 (call (.ref f) [.ref x,.ref y]) (fun v s'=>∃ b,v=.bool b/\Q (.bool (!b)) s') E s):wpAny (model prog w) A (compareOp .NotEq (.ref x) (.ref y)) Q E s:=by
 show wpAny _ _ (richCompare .NotEq (.ref x) (.ref y)) _ _ _
 have one:wpAny (model prog w) A (tryCompare (.ref x) (cmpInfo .NotEq).2.1 (.ref y)) (fun r s'=>∃ v,r=some v/\Q v s') E s:=by
  unfold tryCompare;refine wpAny_bind (Hz X I hn (JG hu X I hm hr hf (wpAny_mono h (fun v s' hv=>?_) fun _ _ e=>e)));obtain ⟨b,rfl,hq⟩:=hv;exact ⟨b,rfl,wpAny_pure ⟨_,rfl,hq⟩⟩
 unfold richCompare;simp only [oneThing_ref];refine wpAny_holding (wpAny_bind (wpAny_cRoomFor (Nat.lt_of_succ_lt hu) ?_));refine wpAny_bind (I.type.here (wpAny_bind (J.type.here ?_)));rw [if_neg (by simp)];refine wpAny_bind (wpAny_pure ?_);simp only [Bool.false_eq_true,if_false];refine wpAny_bind (wpAny_mono one (fun r s' z=>?_) fun _ _ e=>e);obtain ⟨v,rfl,hq⟩:=z;exact wpAny_pure hq
end
section
variable {k:Nat} {fd:FuncData} {sp:Sp}
def Oz (sp:Sp) (a b:Addr) (H:Hp) (Q:VK):Prop:=sp [.ref a,.ref b] H (fun v H'=>∃ t:Bool,v=.bl t/\Q (.bl t) H') E0
theorem KN {b:Addr} {Q:VK} (F:Ae X.prog X.w X.K X.mg X.base CX0 k f fd ["self", "other"] sp) (hr:Room k A) (hA:Env0 X.prog X.w X.K X.mg X.base A X.stack s H) (hb:Binds X.K fd ["self", "other"] []) (I:Inv X aa σ H s) (h:Oz sp a b H Q) :
  wpAny (model X.prog X.w) A (call (.ref f) [.ref a,.ref b]) (fun v s'=>∃ t:Bool,v=.bool t/\EP X aa σ Q (.bool t) s') E s:=by
 refine wpAny_call (codeAny_mono (F.run A X.stack s H ⟨[.ref a,.ref b],[]⟩ [.ref a,.ref b] [.ref a,.ref b] _ E0 hr hA (hb s [.ref a,.ref b] I.kIn rfl) (.cons rfl (.cons rfl .nil)) h) fun r' s' hq=>?_);cases r' with
 | error e=>exact hq.elim
 | ok fl =>
  cases fl with
  | ret u =>
   obtain ⟨v,H',I',rv,t,ev,q'⟩:=I.after hq;subst ev;cases rv;exact ⟨t,rfl,.bl t,H',I',rfl,q'⟩
  | next=>exact False.elim hq
  | brk=>exact False.elim hq
  | cont=>exact False.elim hq
theorem NQ (F:Ae X.prog X.w X.K X.mg X.base CX0 k f fd ["self", "other"] sp) (hr:Room k X.A) (hb:Binds X.K fd ["self", "other"] []) (hm:Ir X.K C "__eq__" f) :
  OpR X (compareOp .Eq) (fun x y H Q=>∃ a dx fs b,x=.ref a/\y=.ref b/\H a=some (.ins C dx fs)/\((∃ dy gs,H b=some (.ins C dy gs))\/((∃ xs,SqL X.K H b xs)/\W.subIn X.K (.type "list") (.ref C)=some false))/\Oz sp a b H Q):=by
 intro aa s σ H x y v u Q I rx ry h;obtain ⟨a,dx,fs,b,rfl,rfl,ha,hy,q⟩:=h;cases rx;cases ry;obtain ⟨m,Fm⟩:=I.fr;obtain ⟨mA,om,_⟩:=Bx I.hok ha;obtain ⟨od,ia,_⟩:=om.look;have run:=KN (E:=X.xe) F hr I.env0 hb I q;have hu:X.A.units < cLine:=Nat.lt_of_le_of_lt (Nat.le_add_right _ 64) hr.units
 have run2:wpAny (model X.prog X.w) X.A (call (.ref f) [.ref a,.ref b]) (W.CmpBack (EP X aa σ Q)) X.xe s:=by
  refine thn run fun v s' hv=>?_;obtain ⟨t,rfl,q⟩:=hv;exact q
 show wpAny _ _ (richCompare .Eq (.ref a) (.ref b)) _ _ _;rcases hy with ⟨dy,gs,hy⟩ | ⟨⟨xs,hy⟩,hn⟩
 ·obtain ⟨mB,ob,_⟩:=Bx I.hok hy;obtain ⟨odb,ib,_⟩:=ob.look;exact W.cmp_K hu Fm I.mod.kin ia ib.type (by simp [W.notFirst]) hm.at_ hm.fn run2
 ·obtain ⟨its,rv,⟨o,n,e,c,dd,_⟩,_⟩:=I.list hy;have T:W.Looks (model X.prog X.w) s.heap (typeOf (.ref b)) (.type "list"):=c ▸ (W.Looks.ld e).andThen .now;exact W.cmp_K hu Fm I.mod.kin ia T (by simp [W.notFirst,hn]) hm.at_ hm.fn run2
theorem JH (F:Ae X.prog X.w X.K X.mg X.base CX0 k f fd ["self", "other"] sp) (hr:Room (k + 1) X.A) (hb:Binds X.K fd ["self", "other"] []) (hm:Ir X.K C "__eq__" f) (hn:W.findIn X.K (.ref C) "__ne__" = some (some (.builtin "object.__ne__"))) (ho:W.mroIn X.K C (.type "object")=some true) :
  OpR X (compareOp .NotEq) (fun x y H Q=>∃ a dx fs b dy gs,x=.ref a/\y=.ref b/\H a=some (.ins C dx fs)/\H b=some (.ins C dy gs)/\Oz sp a b H (fun v H'=>∃ t:Bool,v=.bl t/\Q (.bl (!t)) H')):=by
 intro aa s σ H x y v u Q I rx ry h;obtain ⟨a,dx,fs,b,dy,gs,rfl,rfl,ha,hy,q⟩:=h;cases rx;cases ry;obtain ⟨mA,om,_⟩:=Bx I.hok ha;obtain ⟨od,ia,_⟩:=om.look;obtain ⟨mB,ob,_⟩:=Bx I.hok hy;obtain ⟨odb,ib,_⟩:=ob.look;have run:=KN (E:=X.xe) F hr.in1 I.env0.in1 hb I q;have hu:X.A.units + 1 < cLine:=Nat.lt_of_le_of_lt (Nat.add_le_add_left (by decide) _) hr.units;refine QS hu I.kIn ia ib ho hn hm.at_ hm.fn (thn run fun v s' hv=>?_);obtain ⟨t,rfl,v',H',I',rv,t',e,q⟩:=hv;subst e;cases rv;exact ⟨t,rfl,.bl _,H',I',rfl,q⟩
end
theorem KP (K:FG) (hK:X.K=K):BU X (.builtin "isinstance") (fun xs H Q=>∃ a p ys,xs=[.ref a,.ref p]/\(H a=some (.lst ys)\/H a=some (.tup ys))/\SqT K H p [.ty "list", .ty "tuple"]/\Q (.bl true) H):=by
 subst hK;intro aa s σ H xs us Q I r h;obtain ⟨a,p,ys,rfl,ha,hp,q⟩:=h;obtain ⟨u,uT,rfl,ru,ruT⟩:=Fh r;cases ru;cases ruT;obtain ⟨its,rv,⟨o,e,c,n,dd⟩,_⟩:=I.tuple hp;obtain ⟨ocl,odi,oda,osl⟩:=o;simp only at c dd;subst c;subst dd
 have ei:its=[Value.type "list", Value.type "tuple"]:=by
  cases rv with
  | cons r1 r2 =>
   cases r2 with
   | cons r3 r4 =>
    cases r4;cases (show _=Value.type "list" from r1);cases (show _=Value.type "tuple" from r3);rfl
 subst ei;have fin:∀ tk,EP X aa σ Q (.bool true) { s with toks:=tk }:=fun tk=>⟨.bl true,H,I.tok tk,rfl,q⟩;rcases ha with ha | ha
 ·obtain ⟨_,_,m,_,h1⟩:=(show ObjOk X.prog X.w H s.heap a (.lst ys) from I.hok a _ ha);exact W.kia_tup W.kitx_list I.kIn ⟨_,h1,rfl⟩ e rfl (fun z=>nomatch z) fin
 ·obtain ⟨_,_,_,pp⟩:=(show ObjOk X.prog X.w H s.heap a (.tup ys) from I.hok a _ ha);obtain ⟨o,h1,h2,_⟩:=pp;exact W.kia_tup W.kitx_tuple I.kIn ⟨o,h1,h2⟩ e rfl (fun z=>nomatch z) fin
def SZ (e C:Addr) (dx:Option Addr):HO:=.ext fun h=>∃ oe vs,h.get? e=some oe/\oe.cls=.ref C/\oe.dict=dx/\oe.data=.fields vs/\5 < vs.size/\vs[2]?=some .none
structure Sa (P:Program) (w:World) (l:List Env) (H:Hp) (s:Shared) (e C:Addr) (dx:Option Addr) (H':Hp) (s':Shared):Prop where
 os:s'.os=s.os
 bare:AllBare s'.gens
 un:Un (frs l) [] H H' s.heap s'.heap
 hok:HOk P w H' s'.heap
 at_:H' e=some (SZ e C dx)
def Tb1 (e:Addr) (H':Hp) (s s':Shared) (fl:Value):Prop:=∃ oe vs T oT ts,s'.heap.get? e=some oe/\oe.data=.fields vs/\vs[1]?=some (.ref T)/\T ≠ e/\s'.heap.get? T=some oT/\oT.data=.fields ts/\ts[3]?=some fl/\H' T=none/\s.heap.get? T=none
def Fly (P:Program) (w:World) (l:List Env) (H:Hp) (s:Shared) (e C:Addr) (dx:Option Addr) (H':Hp) (s':Shared):Prop:=Sa P w l H s e C dx H' s'/\Tb1 e H' s s' .none
def CXr (P:Program) (w:World):CXT:=fun outer H s E e s'=>∃ ea C dx H',e=.ref ea/\Fly P w outer H s ea C dx H' s'/\E (.ref C) dx H'
def FnO (f:Addr) (o:Obj):HO:=.ext fun h=>h.get? f=some o
def HG (c:Addr) (qual:Str):HO:=.ext fun h=>h.CodeRec (.ref c) qual
def JI (P:Program) (w:World) (K:FG) (mg:SV) (base:Heap) (N:List Str) (qual:Str) (scope:Scope) (f:Addr) (cd:Value) (cl:List (Str × Addr)) (A:Around) (outer:List Env) (s:Shared) (H:Hp) (E:XK):Cx where
 prog:=P
 w:=w
 K:=K
 mg:=mg
 base:=base
 A:=A.deeper (W.envX qual scope s.heap.objs.size f cd cl)
 N:=N
 s₀:=s
 H₀:=H
 env:=W.envX qual scope s.heap.objs.size f cd cl
 outer:=outer
 stack:=W.envX qual scope s.heap.objs.size f cd cl :: outer
 ex:=[]
 calm:=true
 fn:=fun _=>false
 pn:=[]
 xe:=fun e s'=>wpAny (model P w) (A.deeper (W.envX qual scope s.heap.objs.size f cd cl)) (leaving (W.envX qual scope s.heap.objs.size f cd cl) e) (fun _ s''=>CXr P w outer H s E e s'') (fun e' s''=>CXr P w outer H s E e' s'') s'
structure LJ (N:List Str) (scope:Scope) (cl:List (Str × Addr)) (σ:St) (H:Hp) (h:Heap):Prop where
 inj:∀ x y c,cl.lookup x=some c->cl.lookup y=some c->x=y
 has:∀ x,(scope.names.lookup x=some .cell\/scope.names.lookup x=some .free)->∃ c,cl.lookup x=some c
 cell:∀ x c,cl.lookup x=some c->(∃ v,h.IsCell c v)/\H c=none
 val:∀ (i:Nat) x v,N[i]?=some x->σ[i]?=some (some v)->scope.names.lookup x=some .free/\∃ u c,RelV v u/\cl.lookup x=some c/\h.IsCell c (some u)
 len:σ.length=N.length
theorem FO {q:Pos} {c:Value} (av:(q.line == pos.line && q.col == pos.col)=false) (l:List Value) (h:TriplesOk l):codeAmong q (l++[rawInt pos.line,rawInt pos.col,c])=codeAmong q l:=by
 fun_induction TriplesOk l with
 | case1 =>
  have:((pos.line:Int) == (q.line:Int) && (pos.col:Int) == (q.col:Int))=false:=by
   rw [Bool.and_eq_false_iff] at av ⊢;rcases av with z | z
   ·left; rw [beq_eq_false_iff_ne] at z ⊢; omega
   ·right; rw [beq_eq_false_iff_ne] at z ⊢; omega
  simp [codeAmong,rawInt,this]
 | case2 a t b u x rest ih =>
  simp only [List.cons_append,codeAmong];split
  ·rfl
  ·exact ih h
 | case3 l h1 h2=>exact h.elim
def TabOk (H:Hp) (P0:Addr) (qual:Str) (ls:List Pos):Prop:=∃ ps,H P0=some (.tbl ps)/\TriplesOk ps.toList/\∀ q ∈ ls,codeAmong q ps.toList=none\/∃ c',codeAmong q ps.toList=some (.ref c')/\H c'=some (HG c' qual)
def HH (P0:Addr) (H H':Hp):Prop:=∀ b u,b ≠ P0->H b=some u->H' b=some u
structure Rm (X:Cx) (c P0:Addr):Prop where
 code:X.env.code=.ref c
 hd:W.CodeHd X.base c P0
 bu:X.base.BuiltinsAt X.mg P0
section
variable {c P0:Addr} {ls:List Pos} {lpos:Pos}
def Sb (P0:Addr) (qual:Str) (ls:List Pos) (o:Addr->Value->Obj):TE:=fun σ H Q=>TabOk H P0 qual ls/\∀ f c' ctv H',H f=none->HH P0 H H'->TabOk H' P0 qual ls->H' f=some (FnO f (o c' ctv))->H' c'=some (HG c' qual)->Q (.ref f) H'
theorem O0 {c':Addr} {qual:Str} (r:h.CodeRec (.ref c') qual):ObjOk P w H h c' (HG c' qual):=by
 obtain ⟨c1,oc,vs,t,e,ho,hd,hq⟩:=id r;cases e;exact ⟨r,⟨_,ho⟩,fun h1 h2 ⟨c2,o2,v2,t2,e2,a,b⟩ k=>by cases e2; exact ⟨_,o2,v2,t2,rfl,k _ a,b⟩⟩
theorem Py {o:Obj} (r:h.get? f=some o):ObjOk P w H h f (FnO f o):=⟨r,⟨_,r⟩,fun h1 h2 a k=>k _ a⟩
theorem QT {params:Arguments} {body:Expr} {scope:Scope} {clos:List (Str × Addr)} (L:Rm X c P0) (hm:lpos ∈ ls) (av:∀ q ∈ ls,q=lpos\/(q.line == lpos.line && q.col == lpos.col)=false)
  (af:closureFor scope X.env=pure clos) (hdef:defaultsOf params X.env=([],[])) :
  PE X (.Lambda params body scope lpos) (Sb P0 (X.env.qual ++ "<lambda>") ls (fun c' ctv=>W.kla_obj "<lambda>" (X.env.qual ++ "<lambda>") params body scope clos ((X.mg "__name__").getD .none) c' ctv)):=by
 intro aa s σ H Q I h;obtain ⟨⟨ps,hP,ht,hls⟩,k⟩:=h;have bk:∀ b o,X.base.get? b=some o->s.heap.get? b=some o:=fun b o e=>(I.bs b o e).1;have hPg:s.heap.get? P0=some (W.tabObj ps):=I.hok _ _ hP;have hgs:s.heap.Ns mainGlobals X.mg:=I.ok.mod.glob.keeps bk
 have hgP:mainGlobals ≠ P0:=fun q=>by
  obtain ⟨o,es,ep,e,_⟩:=I.ok.mod.glob;have n:=(I.bs _ _ e).2;rw [q,hP] at n;cases n
 have C:=L.hd.keeps bk
 have B:s.heap.BuiltinsAt X.mg P0:=by
  obtain ⟨bm,o,a1,a2,a3,a4,a5,a6⟩:=L.bu;exact ⟨bm,o,a1,a2,a3,a4,bk _ _ a5,a6⟩
 refine W.kla_eval hdef ?_;rcases hls lpos hm with hn | ⟨c',hf,hc'⟩
 ·refine W.kla_makeFunction (mg:=X.mg) af I.ok.glob hgs L.code C hPg ht hn hgP B fun c' ctv h' tk hx hge hlt hrec au=>?_;have kp:∀ b o,b ≠ P0->s.heap.get? b=some o->(h'.push (W.kla_obj "<lambda>" (X.env.qual ++ "<lambda>") params body scope clos ((X.mg "__name__").getD .none) c' ctv)).get? b=some o:=fun b o n e=>get?_push_of_some _ (hx b o n e);have lt:∀ b u,H b=some u->b < s.heap.objs.size:=fun b u e=>I.hok.lt e;have hfs:s.heap.objs.size <= h'.objs.size:=Nat.le_trans hge (Nat.le_of_lt hlt);have hPl:P0 < s.heap.objs.size:=lt _ _ hP;have hcP:c' ≠ P0:=fun z=>by rw [z] at hge; exact absurd hPl (Nat.not_lt_of_le hge)
  have hfP:h'.objs.size ≠ P0:=fun z=>by rw [z] at hfs; exact absurd hPl (Nat.not_lt_of_le hfs)
  have hcf:c' ≠ h'.objs.size:=Nat.ne_of_lt hlt;generalize bo:upd (upd (upd H P0 (.tbl (ps++#[rawInt lpos.line,rawInt lpos.col,.ref c']))) c' (HG c' (X.env.qual ++ "<lambda>"))) h'.objs.size (FnO h'.objs.size (W.kla_obj "<lambda>" (X.env.qual ++ "<lambda>") params body scope clos ((X.mg "__name__").getD .none) c' ctv))=H'
  have oth:∀ b,b < s.heap.objs.size->b ≠ P0->H' b=H b:=fun b hb n=>by
   rw [← bo,AF (Nat.ne_of_lt (Nat.lt_of_lt_of_le hb hfs)),AF (Nat.ne_of_lt (Nat.lt_of_lt_of_le hb hge)),AF n]
  have atP:H' P0=some (.tbl (ps++#[rawInt lpos.line,rawInt lpos.col,.ref c'])):=by rw [← bo,AF (Ne.symm hfP),AF (Ne.symm hcP),upd_same]
  have atc:H' c'=some (HG c' (X.env.qual ++ "<lambda>")):=by rw [← bo,AF hcf,upd_same]
  have atf:H' h'.objs.size=some (FnO h'.objs.size (W.kla_obj "<lambda>" (X.env.qual ++ "<lambda>") params body scope clos ((X.mg "__name__").getD .none) c' ctv)):=by rw [← bo,upd_same]
  have ntbl:∀ b u,H b=some u->(∀ qs,u ≠ .tbl qs)->b ≠ P0:=fun b u e n z=>by subst z; rw [hP] at e; cases e; exact n _ rfl
  have un:Un X.fs [] H H' s.heap (h'.push (W.kla_obj "<lambda>" (X.env.qual ++ "<lambda>") params body scope clos ((X.mg "__name__").getD .none) c' ctv)):=by
   have nP:∀ b,H b=none->b ≠ P0:=fun b n z=>by subst z; rw [hP] at n; cases n
   refine ⟨fun b o q n _ _=>kp b o (nP b n) q,fun b o q n _ _=>⟨o.slots,kp b o (nP b n) q⟩,fun b o q n _=>by rw [oth b (lt_size q) (nP b n)]; exact n,fun b o q _=>?_,fun b xs e=>?_,fun b o u e=>?_,fun b qs e=>?_⟩
   ·by_cases z:b=P0
    ·subst z; exact ⟨_,get?_push_of_some _ au⟩
    ·exact ⟨o,kp b o z q⟩
   ·rw [oth b (lt _ _ e) (ntbl b _ e fun _ y=>nomatch y)]; exact e
   ·rw [oth b (lt _ _ e) (ntbl b _ e fun _ y=>nomatch y)]; exact e
   ·by_cases z:b=P0
    ·subst z;rw [hP] at e;cases e;exact ⟨_,atP⟩
    ·exact ⟨#[],by rw [oth b (lt _ _ e) z,e]; simp⟩
  have hok:HOk X.prog X.w H' (h'.push (W.kla_obj "<lambda>" (X.env.qual ++ "<lambda>") params body scope clos ((X.mg "__name__").getD .none) c' ctv)):=fun b u e=>by
   by_cases z1:b=h'.objs.size
   ·subst z1;rw [atf] at e;cases e;exact Py (get?_push_size _ rfl)
   by_cases z2:b=c'
   ·subst z2;rw [atc] at e;cases e;obtain ⟨c1,oc,vs,t,ec,ho,hd⟩:=hrec;exact O0 ⟨c1,oc,vs,t,ec,get?_push_of_some _ ho,hd⟩
   by_cases z3:b=P0
   ·subst z3;rw [atP] at e;cases e;exact get?_push_of_some _ au
   ·have e':H b=some u:=by rw [← bo,AF z1,AF z2,AF z3] at e; exact e
    refine (I.hok b u e').stay (fun b2 o hb q=>kp b2 o ?_ q) (fun b2 q=>?_) fun b2 xs q=>?_
    ·rcases hb with z | z
     ·rw [z]; exact z3
     ·exact ntbl b2 _ z fun _ y=>nomatch y
    ·rw [oth b2 (lt _ _ q) (ntbl b2 _ q fun _ y=>nomatch y)]; exact q
    ·rw [oth b2 (lt _ _ q) (ntbl b2 _ q fun _ y=>nomatch y)]; exact q
  have I':=I.un (t':=tk) un hok;refine ⟨.ref h'.objs.size,H',I',rfl,k _ c' ctv H' (I.hok.fresh hfs) (fun b u n e=>by rw [oth b (lt _ _ e) n]; exact e) ⟨_,atP,?_,fun q hq=>?_⟩ atf atc⟩
  ·rw [Array.toList_append]; exact TriplesOk_snoc _ _ _ _ ht
  ·rw [Array.toList_append];rcases av q hq with z | z
   ·subst z;exact .inr ⟨c',codeAmong_snoc _ ht hn,atc⟩
   ·show codeAmong q (ps.toList++[rawInt lpos.line,rawInt lpos.col,.ref c'])=none\/_;rw [FO z _ ht];rcases hls q hq with y | ⟨c2,y1,y2⟩
    ·exact .inl y
    ·exact .inr ⟨c2,y1,by rw [oth c2 (lt _ _ y2) (ntbl c2 _ y2 fun _ y=>nomatch y)]; exact y2⟩
 ·refine W.kla_makeFunctionHit (mg:=X.mg) af I.ok.glob hgs L.code C hPg ht hf B fun ctv h' tk hk hsz=>?_;have I':=I.laid (t':=tk) (a:=h'.objs.size) (o:=FnO h'.objs.size (W.kla_obj "<lambda>" (X.env.qual ++ "<lambda>") params body scope clos ((X.mg "__name__").getD .none) c' ctv)) (fun b o e=>get?_push_of_some _ (hk b o e)) hsz (Py (get?_push_size _ rfl));have fr:H h'.objs.size=none:=I.hok.fresh hsz
  have sm:∀ b u,H b=some u->upd H h'.objs.size (FnO h'.objs.size (W.kla_obj "<lambda>" (X.env.qual ++ "<lambda>") params body scope clos ((X.mg "__name__").getD .none) c' ctv)) b=some u:=fun b u e=>by
   rw [AF (AI e fr)]; exact e
  refine ⟨.ref h'.objs.size,_,I',rfl,k _ c' ctv _ fr (fun b u _ e=>sm b u e) ⟨ps,sm _ _ hP,ht,fun q hq=>?_⟩ upd_same (sm _ _ hc')⟩;rcases hls q hq with y | ⟨c2,y1,y2⟩
  ·exact .inl y
  ·exact .inr ⟨c2,y1,sm _ _ y2⟩
end
def NR (P0:Addr) (H:Hp):Prop:=∀ b,H b=none\/(∃ o xs,H b=some (.frz o (.lst xs)))\/(b=P0/\H b=some (.tbl #[]))
theorem L1 {mb:SV} {CX:CXT} {k:Nat} {fa c P0:Addr} {fd:FuncData} {sp:Sp} {s₁:Shared} {vs:List Value} {ns:List Int}
  (KX:K.In s₁.heap) (hns:s₁.heap.Ns mainGlobals mg) (hb:s₁.heap.Ns builtinsNs mb) (hbb:∀ x:Str,x ≠ "__name__" -> mb x=bootBuiltins x) (hlim:s₁.heap.NoLimit) (hg:s₁.gens=#[])
  (ha:s₁.heap.get? a=some { cls:=.type "list", data:=.seq vs.toArray }) (hi:IntsAre vs ns) (hl:ns.length <= sizeLine) (hr:Room k callerA)
  (hP:s₁.heap.get? P0=some (W.tabObj #[])) (hKP:K.lookup P0=none) (hC:W.CodeHd s₁.heap c P0) (hB:s₁.heap.BuiltinsAt mg P0)
  (F:∀ base:Heap,K.In base->base.Ns mainGlobals mg->W.CodeHd base c P0->base.BuiltinsAt mg P0->Ae P w K mg base CX k fa fd [x] sp) (bw:∀ (s:Shared) (u:Value),BindsTo s fd ⟨[u],[]⟩ [(x,u)])
  (hsp:∀ H:Hp,NR P0 H->H P0=some (.tbl #[])->SqL K H a (ns.map V.int)->sp [.ref a] H (fun v _=>v=.bl true) fun _ _ _=>False)
  (hCX:∀ H e s',CX [] H s₁ (fun _ _ _=>False) e s'->False) :
  codeAny (model P w) callerA (.call (.ref fa) ⟨[.ref a],[]⟩) (fun r s'=>r=.ok (.ret (.bool true))/\OldK s₁.heap s'.heap/\s'.os=s₁.os/\AllBare s'.gens) s₁:=by
 have rv:=DT hi;have lenV:=hi.length;have haP:a ≠ P0:=fun z=>by subst z; rw [ha] at hP; cases hP
 have core:∀ H:Hp,NR P0 H->H P0=some (.tbl #[])->SqL K H a (ns.map V.int)->HOk P w H s₁.heap->(∀ b,H b ≠ none->b=a\/b=P0)->(H a ≠ none->K.lookup a=none) ->
   codeAny (model P w) callerA (.call (.ref fa) ⟨[.ref a],[]⟩) (fun r s'=>r=.ok (.ret (.bool true))/\OldK s₁.heap s'.heap/\s'.os=s₁.os/\AllBare s'.gens) s₁:=by
  intro H hO hHP hS hok hA hK;have base_of:∀ {b:Addr} {o:Obj},s₁.heap.get? b=some o->H b=none->(Fc s₁.heap H).get? b=some o:=fun e n=>Ms e n
  have noS:∀ {b:Addr} {o:Obj},s₁.heap.get? b=some o->(∀ xs n,o.data ≠ .seq xs n)->o.cls ≠ .none->H b=none:=fun {b o} e d1 d2=>by
   cases q:H b with
   | none=>rfl
   | some u =>
    rcases hA b (by rw [q]; simp) with e' | e'
    ·subst e';rw [ha] at e; cases e;exact absurd rfl (d1 _ _)
    ·subst e';rw [hP] at e; cases e;exact absurd rfl d2
  have noA:∀ {b:Addr} {o:Obj} {es:Array DictEntry} {ep:Nat},s₁.heap.get? b=some o->o.data=.dict es ep->H b=none:=fun {b o es ep} e d=>by
   cases q:H b with
   | none=>rfl
   | some u =>
    rcases hA b (by rw [q]; simp) with e' | e'
    ·subst e';rw [ha] at e; cases e;cases (show Data.seq vs.toArray _=Data.dict es ep from d)
    ·subst e';rw [hP] at e; cases e;cases (show Data.fields #[]=Data.dict es ep from d)
  have nsK:∀ {b:Addr} {m:SV},s₁.heap.Ns b m->(Fc s₁.heap H).Ns b m:=fun {b m} ⟨o,es,ep,e,d,r⟩=>⟨o,es,ep,base_of e (noA e d),d,r⟩
  have hKb:K.In (Fc s₁.heap H):=fun b o e=>base_of (KX b o e) (by
   cases q:H b with
   | none=>rfl
   | some u =>
    rcases hA b (by rw [q]; simp) with e' | e'
    ·subst e';rw [hK (by rw [q]; simp)] at e; cases e
    ·subst e'
     rw [hKP] at e; cases e)
  have hM:Mod K mg (Fc s₁.heap H):=⟨hKb,nsK hns,⟨mb,nsK hb,hbb⟩,let ⟨mc,h1,h2⟩:=hlim; ⟨mc,nsK h1,h2⟩⟩
  have hCb:W.CodeHd (Fc s₁.heap H) c P0:=by
   obtain ⟨o,vs',file,tf,flags,tg,inF,text,tt,e,af,hda,r⟩:=id hC;exact ⟨o,vs',file,tf,flags,tg,inF,text,tt,base_of e (noS e (fun xs n z=>by rw [hda] at z; cases z) (by rw [af]; exact fun z=>nomatch z)),af,hda,r⟩
  have hBb:(Fc s₁.heap H).BuiltinsAt mg P0:=by
   obtain ⟨bm,o,a1,a2,a3,a4,a5,a6,a7,a8⟩:=id hB;exact ⟨bm,o,a1,a2,a3,a4,base_of a5 (noS a5 (fun xs n z=>by rw [a8] at z; cases z) (by rw [a6]; exact fun z=>nomatch z)),a6,a7,a8⟩
  have e0:Env0 P w K mg (Fc s₁.heap H) callerA [] s₁ H:=⟨rfl,hM,fun b o e=>Oa e,Nat.le_of_eq (Lg _ _),trivial,fun b hb=>absurd (show b ∈ ([]:List Addr) from hb) (by simp),hok,.of_eq hg⟩;refine codeAny_mono ((F _ hKb (nsK hns) hCb hBb).run callerA [] s₁ H ⟨[.ref a],[]⟩ [.ref a] [.ref a] _ _ hr e0 (bw s₁ (.ref a)) (.cons rfl .nil) (hsp H hO hHP hS)) fun r s' h=>?_;cases r with
  | error e=>exact (hCX H e s' h).elim
  | ok fl =>
   cases fl with
   | next=>exact False.elim h
   | brk=>exact False.elim h
   | cont=>exact False.elim h
   | ret u =>
    obtain ⟨v,H',os,bare,un,hok',r',q⟩:=h;have q':v=.bl true:=q;subst q';obtain rfl:u=Value.bool true:=r'
    have tabNow:∃ more,s'.heap.get? P0=some (W.tabObj (#[]++more)):=by
     obtain ⟨more,e⟩:=un.tbls P0 #[] hHP;exact ⟨more,hok' _ _ e⟩
    have rest:∀ b o,b ≠ P0->s₁.heap.get? b=some o->s'.heap.get? b=some o:=fun b o hb e=>by
     cases q:H b with
     | none=>exact un.keep b o e q (by intro z; exact absurd (show b ∈ ([]:List Addr) from z) (by simp)) (by simp)
     | some u =>
      rcases hO b with z | ⟨ob,xs,z⟩ | ⟨z,_⟩
      ·rw [q] at z; cases z
      ·have z2:=un.frzs b ob _ z;obtain ⟨e1,_⟩:=hok b _ z;obtain ⟨e2,_⟩:=hok' b _ z2;rw [e] at e1; cases e1;exact e2
      ·exact absurd z hb
    refine ⟨rfl,⟨fun b o e=>?_,fun b o e=>?_⟩,os,bare⟩
    ·by_cases hb:b=P0
     ·subst hb;rw [hP] at e;cases e;obtain ⟨more,e2⟩:=tabNow;exact .inr (.inl ⟨(hC.tab hP).isCodeTable,rfl,#[],more,rfl,e2⟩)
     ·exact .inl (rest b o hb e)
    ·by_cases hb:b=P0
     ·subst hb;obtain ⟨more,e2⟩:=tabNow;exact ⟨_,e2⟩
     ·exact ⟨o,rest b o hb e⟩
 cases hk:K.lookup a with
 | some o =>
  have e:=KX a o hk;rw [ha] at e;cases e;refine core (fun b=>if b=P0 then some (.tbl #[]) else none) (fun b=>?_) (if_pos rfl) (.inr ⟨_,vs.toArray,_,hk,rfl,rfl,rfl,by rw [size_toArray,lenV]; exact hl,by simpa using rv⟩) (fun b u z=>?_) (fun b z=>?_) fun z=>absurd (if_neg haP) z
  ·by_cases hb:b=P0
   ·exact .inr (.inr ⟨hb,if_pos hb⟩)
   ·exact .inl (if_neg hb)
  ·by_cases hb:b=P0
   ·have z':=(if_pos hb).symm.trans z;cases z';subst hb;exact hP
   ·have z':=(if_neg hb).symm.trans z;cases z'
  ·by_cases hb:b=P0
   ·exact .inr hb
   ·exact absurd (if_neg hb) z
 | none =>
  refine core (fun b=>if b=P0 then some (.tbl #[]) else if b=a then some (.frz { cls:=.type "list", data:=.seq vs.toArray } (.lst (ns.map V.int))) else none) (fun b=>?_) (if_pos rfl) (.inl (.inr ⟨{ cls:=.type "list", data:=.seq vs.toArray },(if_neg haP).trans (if_pos rfl)⟩)) (fun b u z=>?_) (fun b z=>?_) fun _=>hk
  ·by_cases hb:b=P0
   ·exact .inr (.inr ⟨hb,if_pos hb⟩)
   ·by_cases hb2:b=a
    ·exact .inr (.inl ⟨_,_,(if_neg hb).trans (if_pos hb2)⟩)
    ·exact .inl ((if_neg hb).trans (if_neg hb2))
  ·by_cases hb:b=P0
   ·have z':=(if_pos hb).symm.trans z;cases z';subst hb;exact hP
   ·by_cases hb2:b=a
    ·have z':=((if_neg hb).trans (if_pos hb2)).symm.trans z;cases z';subst hb2;exact ⟨ha,by rw [length_map]; exact hl,vs,_,rv,ha⟩
    ·have z':=((if_neg hb).trans (if_neg hb2)).symm.trans z;cases z'
  ·by_cases hb:b=P0
   ·exact .inr hb
   ·by_cases hb2:b=a
    ·exact .inl hb2
    ·exact absurd ((if_neg hb).trans (if_neg hb2)) z
theorem NS {l:W.OpenLaw} {n k:Nat} {q:Program} {loose:List Str} {XP:(Str->Option Value)->Heap->Prop} {YP:World->Heap->Prop} {d:DefRec} {K:Params->FG} {CX:World->CXT} {sp:World->Sp} {c P0:Addr}
  (hn:l.most=some n) (hn2:n <= sizeLine) (hdf:d.params.defaults=[]) (hr:Room k callerA)
  (hY:∀ (w:World) (h:Heap),YP w h->(K w.params).In h/\h.get? P0=some (W.tabObj #[])/\(K w.params).lookup P0=none/\W.CodeHd h c P0)
  (F:∀ (w:World) (mg:SV) (fa:Addr) (h:Heap),(K w.params).In h->h.Ns mainGlobals mg->mg d.name=some (.ref fa) ->
   ∃ fd:FuncData,(∀ (s:Shared) (u:Value),BindsTo s fd ⟨[u],[]⟩ [(x,u)]) /\
    ∀ base:Heap,(K w.params).In base->base.Ns mainGlobals mg->W.CodeHd base c P0->base.BuiltinsAt mg P0->Ae l.prog w (K w.params) mg base (CX w) k fa fd [x] (sp w))
  (hsp:∀ (w:World) (H:Hp) (a:Addr) (ns:List Int),ns.length <= n->NR P0 H->H P0=some (.tbl #[])->SqL (K w.params) H a (ns.map V.int)->sp w [.ref a] H (fun v _=>v=.bl true) fun _ _ _=>False)
  (hCX:∀ (w:World) (H:Hp) (s:Shared) (e:Value) (s':Shared),CX w [] H s (fun _ _ _=>False) e s'->False) :
  W.WalkO q loose XP YP l.row.toRowW d [] (fun f vs=>PySem.call f vs):=by
 refine Att.attach_call hn hdf fun w s₀ s₁ mg mb fa o pm cd doc a vs ns G Y ho hd hcd hmg cj bf ay hg=>?_;obtain ⟨KX,hP,hKP,hC⟩:=hY w _ Y;obtain ⟨fd,hb,hF⟩:=F w mg fa _ KX G.T.g hmg
 have hB:s₁.heap.BuiltinsAt mg P0:=by
  obtain ⟨bm,ob,b1,b2,b3,b4,b5,b6⟩:=G.T.bmain;refine ⟨bm,ob,b1,b2,fun z=>?_,fun z=>?_,b3,b4,b5,b6⟩
  ·obtain ⟨o',es,ep,e,hd',_⟩:=G.T.g;rw [z,e] at b3; cases b3; rw [hd'] at b6; cases b6
  ·rw [z,hP] at b3; cases b3; cases b4
 exact L1 KX G.T.g G.T.b G.T.builtins G.T.nolimit hg cj bf (Nat.le_trans ay hn2) hr hP hKP hC hB hF hb (fun H hO hH hS=>hsp w H a ns ay hO hH hS) fun H e s'=>hCX w H s₁ e s'
end L2
end
section
namespace PySem
open Sem (wp)
theorem Fx {prog:Program} {xs:Array Value} {o:Obj} {k:Nat} {Q:Option Value->Shared->Prop}
  (hx:s.heap.get? a=some o) (hc:o.cls=.type "list") (b8:o.data=.seq xs k) (hd:o.dict=none) (hA:A.handled=none)
  (h:∀ h' tk,(∀ b ob,s.heap.get? b=some ob->h'.get? b=some ob)->Q none { s with heap:=h',toks:=tk }) :
  wpAny (model prog w) A (getAttr? (.ref a) "keys") Q E s:=by
 obtain ⟨c,dct,dat,sl⟩:=o;simp only at hc b8 hd;subst hc b8 hd;obtain ⟨hp,g,d,tk,os⟩:=s;have hT:∀ tk',(⟨hp,g,d,tk',os⟩:Shared).TypeIs (.ref a) "list" := fun _=>⟨_,hx,rfl⟩;have f1:=sub_AttributeError;have f3:=F.slot_list_getattribute.lookup;have f4:=F.slot_list_getattribute.bind (.ref a);have f5:=am_list_getattr_none;have hmiss:typeLookup (.type "list") "keys" = pure none:=by rw [typeLookup_type,builtinLookup_eq_fast]; kernel_rfl
 unfold getAttr? getAttrBy? getAttrBy
 repeat (any_goals (first | assumption | exact hT _ | ((with_reducible show wpAny _ _ (call (Value.builtin "list.__getattribute__") _ _) _ _ _); refine call_meets F.slot_list_getattribute (hT _) am_entry_list_getattribute (F.args_list_getattribute_2 _ _) (meets_getattribute_miss_list a xs k sl "keys" _ hmiss (by decide +kernel)) ⟨hx,hA,fun h' tk' e hx'=>?_⟩) | wp_step))
 obtain ⟨t',u',he⟩:=hx'.there;show wpAny _ _ (getattributeRaised _ _ _ _ _ _ _) _ _ _;unfold getattributeRaised
 repeat (any_goals (first | assumption | wp_step))
 exact h _ _ hx'.keeps
end PySem
end
section
namespace L2
open PySem PySem.Spec PyProof.Rows
theorem Bh:entryFor table "dict.update.loop" = some Builtin.«dict.update.loop»:=entryFor_of_tree (by kernel_rfl)
theorem Ay:plainId "dict.update.loop" = true:=by decide +kernel
def Cf (kvs ps:LK):LK:=ps.foldl (fun d p=>B0 d p.1 p.2) kvs
section
variable {R:Result->Shared->Prop} {it p:Addr} {bs:List Addr} {ps:LK}
theorem MA (hA:A.in1.handled=none) (hpa:p ≠ a) (hpit:p ≠ it) (hq:SqL X.K H a (bs.map V.ref)) (hl:bs.length=ps.length) (hb:∀ (i:Nat) b q,bs[i]?=some b->ps[i]?=some q->b ≠ p/\SqT X.K H b [kV q.1,q.2]) (hz:ps.length <= 1000)
  (hqs:∀ kvs,SqL X.K (upd H p (.dK kvs)) a (bs.map V.ref)) (hts:∀ kvs b xs,b ≠ p->SqT X.K H b xs->SqT X.K (upd H p (.dK kvs)) b xs) (f0:∀ kvs,(upd H p (.dK kvs)) it=none) (f1:it ≠ X.env.locals) (f3:it ∈ X.ex\/X.s₀.heap.objs.size <= it) (f4:∀ (x:Str) (c:Addr),X.env.cells.lookup x=some c->c ≠ it) (f5:∀ q:Addr × Obj,q ∈ X.pn++aa->q.1 ≠ it) :
  ∀ (k i:Nat) (s:Shared) (kvs:LK),ps.length - i=k->i <= ps.length->kvs.length <= i->Inv X aa σ (upd H p (.dK kvs)) s->s.heap.IsListIter it a i->(∀ s',Inv X aa σ (upd H p (.dK (Cf kvs (ps.drop i)))) s'->R (.ok (.ret .none)) s') ->
   codeAny (model X.prog X.w) A (.builtin "dict.update.loop" ⟨[.ref p,.ref it,rawInt (i:Int),.none],[]⟩) R s:=by
 intro k;induction k with
 | zero =>
  intro i s kvs hk hi hkl I st hR;have hin:i=ps.length:=by omega
  obtain ⟨its,rv,pl,_⟩:=I.list (hqs kvs);have ay:=rv.length;refine codeAny_builtin Bh ?_;rw [Around.under_plainId Ay _];show wpAny _ A.in1 (pyNext (.ref it) >>= _) _ _ s;refine wpAny_bind (wpAny_pyNext_list_end hA st pl.isList (by rw [length_map] at ay; simp; omega) fun h' eb=>?_);show wpAny _ A.in1 (Builtin.Dict.addKeywords p [] >>= _) _ _ _;refine wpAny_bind (wpAny_pure (wpAny_pure (hR _ ?_)));have e:Cf kvs (ps.drop i)=kvs:=by rw [hin,List.drop_length]; rfl
  rw [e];exact I.turned (t':=s.toks) (fun b o hb e=>eb b o hb e) (f0 kvs) f1 f3 f4 f5
 | succ k ih =>
  intro i s kvs hk hi hkl I st hR;have hlt:i < ps.length:=by omega
  obtain ⟨its,rv,pl,_⟩:=I.list (hqs kvs);have hbi:bs[i]?=some (bs[i]'(by omega)):=List.getElem?_eq_getElem (by omega);have hpi:ps[i]?=some ps[i]:=List.getElem?_eq_getElem hlt;obtain ⟨hbp,hT⟩:=hb i _ _ hbi hpi;obtain ⟨u,hu,ru⟩:=rv.get (i:=i) (x:=V.ref (bs[i]'(by omega))) (by rw [getElem?_map,hbi]; rfl);cases (show u=Value.ref _ from ru);refine codeAny_builtin Bh ?_;rw [Around.under_plainId Ay _];show wpAny _ A.in1 (pyNext (.ref it) >>= _) _ _ s;refine wpAny_bind (wpAny_pyNext_list_item st pl.isList (x:=Value.ref (bs[i]'(by omega))) (by simpa using hu) fun h' st' sb=>?_);have I1:Inv X aa σ (upd H p (.dK kvs)) { s with heap:=h' }:=I.turned (t':=s.toks) (fun b o hb e=>(sb.2 b hb).trans e) (f0 kvs) f1 f3 f4 f5;obtain ⟨its2,rv2,⟨ot,et,ct,nt,dt⟩,_⟩:=I1.tuple (hts kvs _ _ hbp hT);obtain ⟨uk,uv,e2,rk,rvv⟩:=Fh rv2;subst e2;show wpAny _ A.in1 (holding [Value.ref (bs[i]'(by omega))] _ >>= _) _ _ _;refine wpAny_bind (wpAny_holding ?_);have hp:(upd H p (.dK kvs)) p=some (.dK kvs):=upd_same;obtain ⟨z,hd,vs,rel,dd⟩:=K8 I1.hok hp;have hvs:vs.length <= sizeLine:=by rw [← rel.length]; exact z
  have hTy:Shared.TypeIs { s with heap:=h' } (.ref (bs[i]'(by omega))) "tuple" := ⟨_,et,ct⟩;refine wpAny_bind (wpAny_tryCatch ?_);unfold Builtin.Dict.pairItems;refine wpAny_bind (wpAny_typeOf hTy ?_);rw [if_pos (by decide)];obtain ⟨oc,odd,oda,osl⟩:=ot;simp only at ct dt;subst ct dt;refine wpAny_bind (m:=seqItems? _) ?_;unfold seqItems?;refine wpAny_bind (wpAny_load et (wpAny_pure ?_));refine wpAny_pure ?_;show wpAny _ _ (holding [uk,uv] (dictSet p uk uv)) _ _ _;refine wpAny_holding (wpAny_dictSet_pairs (hsz:=hvs) (FF rk) dd fun h2 dd2 sb2=>?_);refine wpAny_pure ⟨plainId_quiet Ay _,?_⟩;have hln:(B0 kvs ps[i].1 ps[i].2).length <= i + 1:=by have:=B1 kvs ps[i].1 ps[i].2; omega
  have I2:=EI (t':=s.toks + 1) I1 (by rw [hp]; exact True.intro) sb2 (let ⟨q,_,_,hq',_⟩:=dd2; ⟨q,hq'⟩) (Hu (P:=X.prog) (w:=X.w) (H':=upd (upd H p (.dK kvs)) p (.dK (B0 kvs ps[i].1 ps[i].2))) (Nat.le_of_lt (Ag (by omega))) hd (rel.put ps[i].1 rvv) dd2);rw [K1] at I2;have e3:ps.drop i=ps[i] :: ps.drop (i + 1):=List.drop_eq_getElem_cons hlt;have:=ih (i + 1) _ (B0 kvs ps[i].1 ps[i].2) (by omega) (by omega) hln I2 (st'.extBut sb2.extBut (Ne.symm hpit)) (fun s' I'=>hR s' (by rw [e3]; exact I'));exact this
theorem KQ (hc:X.calm=true):BU X (.type "dict") (fun xs H Q=>∃ (a:Addr) (bs:List Addr) (ps:LK),xs=[.ref a]/\SqL X.K H a (bs.map V.ref)/\bs.length=ps.length/\ps.length <= 1000/\(∀ (i:Nat) b q,bs[i]?=some b->ps[i]?=some q->SqT X.K H b [kV q.1,q.2]) /\
  ∀ p,H p=none->Q (.ref p) (upd H p (.dK (Cf [] ps)))):=by
 intro aa s σ H xs us Q I r h;obtain ⟨a,bs,ps,rfl,hq,hl,hz,hb,q⟩:=h;obtain ⟨u,rfl,ru⟩:=Bb r;cases (show u=Value.ref a from ru);have hp0:H s.heap.objs.size=none:=I.hok.fresh (Nat.le_refl _)
 have sH:∀ o,Same H (upd H s.heap.objs.size o):=fun o b v e=>by
  rw [AF (AI e hp0)];exact e
 refine callType_codes (Q₁:=fun obj s₁=>obj=.ref s.heap.objs.size/\s₁={ s with heap:=s.heap.push { cls:=.type "dict", data:=.dict #[] } }) PySem.F.kt_called_dict (PySem.F.kt_typeCall_dict_1 _) PySem.F.entry_dict_init (kt_code_dict_new _ ⟨rfl,rfl⟩) ?_;rintro obj s₁ ⟨rfl,rfl⟩;have I1:Inv X aa σ (upd H s.heap.objs.size (.dK [])) { s with heap:=s.heap.push { cls:=.type "dict", data:=.dict #[] } }:=I.laid (a:=s.heap.objs.size) (o:=.dK []) (t':=s.toks) (fun _ _ q=>get?_push_of_some _ q) (Nat.le_refl _) (Fp s.heap I.big);obtain ⟨its,rv,pl,_⟩:=I1.list ((sH (.dK [])).seq hq);have hTd:Shared.TypeIs { s with heap:=s.heap.push { cls:=.type "dict", data:=.dict #[] } } (.ref s.heap.objs.size) "dict" := ⟨_,get?_push_size _ rfl,rfl⟩;refine ⟨hTd,PySem.F.args_dict_init_2 _ _,?_⟩;unfold Builtin.«dict.__init__»;refine wpAny_bind ?_;unfold Builtin.Dict.selfAndRest;refine wpAny_bind (wpAny_notOrdered_dict hTd ?_);show wpAny _ _ (pure (s.heap.objs.size,[Value.ref a])) _ _ _;refine wpAny_pure ?_;show wpAny _ _ (Builtin.Dict.updateFrom "dict.__init__" s.heap.objs.size (.ref a) [] .none) _ _ _;unfold Builtin.Dict.updateFrom;refine wpAny_bind (wpAny_typeOf pl.isList.typeIs ?_);rw [if_pos (by decide)];have hA:X.A.handled=none:=I.ok.hd hc;have hA2:X.A.in1.in1.handled=none:=hA;obtain ⟨ol,nl,hol,af,hdl,b8⟩:=id pl;obtain ⟨its0,_,⟨o0,_,e0,_⟩,_⟩:=I.list hq;have ar:a < s.heap.objs.size:=lt_size e0;refine wpAny_bind (Fx hol af b8 hdl hA2 fun h' tk keep=>?_);have I2:Inv X aa σ (upd H s.heap.objs.size (.dK [])) { s with heap:=h',toks:=tk }:=I1.kept keep;show wpAny _ _ (if (Option.isNone (none:Option Value))=true then _ else _) _ _ _;rw [if_pos (show Option.isNone (none:Option Value)=true from rfl)];refine wpAny_bind (wpAny_rule ?_);refine wpAny_bind (wpAny_pyIter_list (pl.isList.at fun o e=>keep _ o e) ?_)
 have hsz:s.heap.objs.size < h'.objs.size:=by
  have:=keep _ _ (get?_push_size s.heap (o:={ cls:=.type "dict", data:=.dict #[] }) rfl);exact lt_size this
 have I3:Inv X aa σ (upd H s.heap.objs.size (.dK [])) { s with heap:=h'.push { cls:=.type "list_iterator", data:=.fields #[.ref a,.int 0 0] },toks:=tk }:=I2.kept (t':=tk) fun b o e=>get?_push_of_some _ e;have av:s.heap.objs.size ≠ h'.objs.size:=Nat.ne_of_lt hsz;have hn0:(upd H s.heap.objs.size (.dK [])) h'.objs.size=none:=I2.hok.fresh (Nat.le_refl _);obtain ⟨_,f1,_,f3,f4,f5⟩:=I2.fpOk (Nat.le_refl h'.objs.size) hn0;have hnb:∀ (i:Nat) b q,bs[i]?=some b->ps[i]?=some q->b ≠ s.heap.objs.size/\SqT X.K H b [kV q.1,q.2]:=fun i b q e1 e2=>⟨fun z=>?_,hb i b q e1 e2⟩
 ·refine wpAny_pure ⟨plainId_quiet Ay _,?_⟩;refine MA (X:=X) (aa:=aa) (σ:=σ) (H:=H) (a:=a) (it:=h'.objs.size) (p:=s.heap.objs.size) (bs:=bs) (ps:=ps) (A:=X.A.in1) hA2 (fun z=>?_) av hq hl hnb hz (fun kvs=>(sH _).seq hq) (fun kvs b xs _ hT=>?_) (fun kvs=>?_) f1 f3 f4 f5 (ps.length - 0) 0 _ [] (by omega) (Nat.zero_le _) (Nat.le_refl _) I3 ⟨_,get?_push_size _ rfl,rfl,rfl⟩ (fun s' I'=>⟨rfl,.ref s.heap.objs.size,_,I',rfl,q _ hp0⟩)
  ·exact absurd ar (by rw [← z]; exact Nat.lt_irrefl _)
  ·rcases hT with (h | ⟨o,h⟩) | h
   ·exact .inl (.inl (sH _ _ _ h))
   ·exact .inl (.inr ⟨o,sH _ _ _ h⟩)
   ·exact .inr h
  ·rw [AF (Ne.symm av)];rw [AF (Ne.symm av)] at hn0;exact hn0
 ·obtain ⟨its2,_,⟨o2,e2',_⟩,_⟩:=I.tuple (hb i b q e1 e2);exact absurd (lt_size e2') (by rw [z]; exact Nat.lt_irrefl _)
end
section
def Rn (i j k:Nat) (ta:TA):TS:=fun D σ H=>ta σ H fun vs H1=>∃ v w z,vs=[v,w,z]/\D.nx (((σ.set k (some z)).set j (some w)).set i (some v)) H1
theorem O1 {i j k:Nat} {y z:Str} {a b c:Expr} {ta:TA} {px py pz pt:Pos} {kt k2 pt2} (hc:X.calm=true) (hN:X.N.Nodup) (hi:X.N[i]?=some x) (hj:X.N[j]?=some y) (hk:X.N[k]?=some z)
  (hx:X.env.scope.names.lookup x=some .local) (hy:X.env.scope.names.lookup y=some .local) (hz:X.env.scope.names.lookup z=some .local) (ha:PA X [a,b,c] ta)
  (hw:swappedStores [.Tuple [.Name x px,.Name y py,.Name z pz] kt pt] (.Tuple [a,b,c] k2 pt2) X.env=pure (some [x,y,z]))
  (hs:swapsWithSole [.Tuple [.Name x px,.Name y py,.Name z pz] kt pt] (.Tuple [a,b,c] k2 pt2) pos.line X.env=pure false:=by rfl) :
  PS X (.Assign [.Tuple [.Name x px,.Name y py,.Name z pz] kt pt] (.Tuple [a,b,c] k2 pt2) pos) (Rn i j k ta):=by
 intro aa s σ H D I h;rw [exec_Assign_arm];refine wpAny_bind (wpAny_standAt ?_);rw [hs];refine wpAny_bind (wpAny_pure ?_);rw [if_neg (by decide)];refine wpAny_bind (Tuple_ (thn (ha _ aa s σ H _ I h) fun us s1 ⟨vs,H1,I1,r1,q1⟩=>?_));obtain ⟨v,w,t,e1,q1⟩:=q1;subst e1
 obtain ⟨u1,u2,u3,rfl,rv,rw',rt⟩:∃ u1 u2 u3,us=[u1,u2,u3]/\RelV v u1/\RelV w u2/\RelV t u3:=by
  cases r1 with
  | cons p q =>
   cases q with
   | cons p' q' =>
    cases q' with
    | cons p'' q'' =>
     cases q'';exact ⟨_,_,_,rfl,p,p',p''⟩
 refine wpAny_newObj_type ?_ sl3;have I2:Inv X aa σ H1 { s1 with heap:=s1.heap.push { cls:=.type "tuple", data:=.seq [u1,u2,u3].toArray } }:=I1.kept (t':=s1.toks) fun b o e=>get?_push_of_some _ e;rw [hw];refine wpAny_bind (wpAny_pure ?_);show wpAny (model X.prog X.w) X.A (do rule "assign.swapped-stores"; let items ← unpackItems (.ref s1.heap.objs.size) 3 none; assignInOrder [fun v=>bindName X.env z v,fun v=>bindName X.env y v,fun v=>bindName X.env x v] items.reverse; pure Flow.next) _ _ _;refine wpAny_bind (wpAny_rule (wpAny_bind (unpackItems_tuple (items:=#[u1,u2,u3]) (I.ok.hd hc) (IsTup.new s1.heap _) fun h' hx'=>?_)));have I3:=I2.kept (h':=h') (t':=s1.toks) fun b o e=>hx' b o (Nat.ne_of_lt (lt_size e)) e;show wpAny _ _ (assignInOrder [fun v=>bindName X.env z v,fun v=>bindName X.env y v,fun v=>bindName X.env x v] [u3,u2,u1] >>= fun _=>pure Flow.next) _ _ _;refine wpAny_bind (assignInOrder_cons (wpAny_bindName (Cj I3 hN hk (.inl hz) rt (fun s2 I4=>?_) (.inr hz))));refine assignInOrder_cons (wpAny_bindName (Cj I4 hN hj (.inl hy) rw' (fun s3 I5=>?_) (.inr hy)));refine assignInOrder_cons (wpAny_bindName (Cj I5 hN hi (.inl hx) rv (fun s4 I6=>assignInOrder_nil (wpAny_pure ?_)) (.inr hx)));exact ⟨_,H1,I6,q1⟩
end
section
open PySem.SeqAt PySem.MeetsSeq PySem.MeetsSeq2 PySem.MeetsSeq3 PySem.SeqRoads2
open PySem.AutoSeq1 (wpAny_loadPart')
def Pz (prog:Program) (w:World) (A:Around) (E:VS) (items ae:Array Value) (T:Nat->Shared->Prop):Prop :=
 ∀ (i:Nat) (x y:Value) (s:Shared) (Q:Bool->Shared->Prop),items[i]?=some x->ae[i]?=some y->T i s->(∀ s',T (i + 1) s'->Q true s')->wpAny (model prog w) A (eqBool x y) Q E s
def JJ (l:Addr) (items:Array Value) (s:Shared):Prop:=∃ n dd sl,s.heap.get? l=some { cls:=.type "list", dict:=dd,data:=.seq items n,slots:=sl }
theorem NT {prog:Program} {R:Result->Shared->Prop} {l b:Addr} {items ae:Array Value} {T:Nat->Shared->Prop} (hsz:items.size=ae.size)
  (hl:∀ i s,T i s->JJ l items s/\JJ b ae s)
  (he:Pz prog w A.in1 (fun e s'=>R (.error e) s') items ae T) (hR:∀ s',T items.size s'->R (.ok (.ret (.bool false))) s') (k:Nat) :
  ∀ (i:Nat) (s:Shared),items.size - i=k->i <= items.size->T i s->wpAny (model prog w) A.in1 (Builtin.«list.__eq__.loop» ⟨[.ref l,.ref b,rawInt i,rawInt 3],[]⟩) (fun fin s'=>match fin with | .done f=>R (.ok f) s' | .again c'=>c'.quiet=true/\codeAny (model prog w) A c' R s') (fun e s'=>R (.error e) s') s:=by
 induction k with
 | zero =>
  intro i s hk hi h;obtain ⟨⟨n,dd,sl,h0⟩,⟨n2,dd2,sl2,h2⟩⟩:=hl i s h;have e:i=items.size:=by omega
  subst e;have hR':=hR s h;obtain ⟨hp,g,d,tk,os⟩:=s
  wp_walk using wpAny_loadPart' h0,wpAny_loadPart' h2
  have hi1:items[((items.size:Nat):Int).toNat]?=none:=by simp
  have hi2:ae[((items.size:Nat):Int).toNat]?=none:=by simp; omega
  rw [hi1,hi2]
  wp_walk using wpAny_loadPart' h0,wpAny_loadPart' h2
  show R (.ok (.ret (.bool (items.size != ae.size)))) _;rw [hsz];simpa using hR'
 | succ k ih =>
  intro i s hk hi h;obtain ⟨⟨n,dd,sl,h0⟩,⟨n2,dd2,sl2,h2⟩⟩:=hl i s h;have hlt:i < items.size:=by omega
  have b7:i < ae.size:=by omega
  have hi1:items[((i:Nat):Int).toNat]?=some items[i]:=by simp [hlt]
  have hi2:ae[((i:Nat):Int).toNat]?=some ae[i]:=by simp [b7]
  have key:=fun Q=>he i items[i] ae[i] s Q (by simp [hlt]) (by simp [b7]) h;obtain ⟨hp,g,d,tk,os⟩:=s
  wp_walk using wpAny_loadPart' h0,wpAny_loadPart' h2
  rw [hi1,hi2];refine wpAny_bind (key _ fun s' hs'=>?_);have hc:((i:Int) + 1)=((i + 1:Nat):Int):=by push_cast; rfl
  wp_walk
  rw [hc]
  exact ⟨plainId_quiet plain_eq_loop _,codeAny_builtin entry_eq_loop (by
   rw [Around.under_plainId plain_eq_loop _]
   exact ih (i + 1) s' (by omega) (by omega) hs')⟩
theorem NU (prog:Program) (w:World) (l b:Addr) (items ae:Array Value) (hsz:items.size=ae.size):MeetsIn prog w (Builtin.«list.__ne__» ⟨[.ref l,.ref b],[]⟩)
  (fun A R s=>∃ T:Nat->Shared->Prop,(∀ i s,T i s->JJ l items s/\JJ b ae s)/\Pz prog w A.in1 (fun e s'=>R (.error e) s') items ae T/\(∀ s',T items.size s'->R (.ok (.ret (.bool false))) s')/\T 0 s):=by
 intro A R s h;obtain ⟨T,hl,he,hR,h⟩:=h;obtain ⟨⟨n,dd,sl,h0⟩,⟨n2,dd2,sl2,h2⟩⟩:=hl 0 s h;have key:=NT (A:=A) (l:=l) (b:=b) hsz hl he hR _ 0 s rfl (Nat.zero_le _) h;obtain ⟨hp,g,d,tk,os⟩:=s;have f3:=AutoSeq1.sub_list_list;have av:¬ (items.size != ae.size)=true:=by simp [hsz]
 wp_walk using wpAny_loadPart' h0,wpAny_loadPart' h2
 exact ⟨plainId_quiet plain_eq_loop _,codeAny_builtin entry_eq_loop (by
  rw [Around.under_plainId plain_eq_loop _]
  exact key)⟩
end
section
variable {k:Nat} {fd:FuncData} {sp:Sp}
theorem HI:∀ (bs:List Addr) (its:List Value),Vals (bs.map V.ref) its->its=bs.map Value.ref
 | [],_,.nil=>rfl
 | z :: zs,_,.cons p r=>by
  cases p;rw [HI zs _ r];rfl
theorem MB (F:Ae X.prog X.w X.K X.mg X.base CX0 k f fd ["self", "other"] sp) (hr:Room (k + 1) X.A) (hb:Binds X.K fd ["self", "other"] []) (hm:Ir X.K C "__eq__" f) :
  OpR X (compareOp .NotEq) (fun x y H Q=>∃ (l l2:Addr) (as bs:List Addr),x=.ref l/\y=.ref l2/\H l=some (.lst (as.map V.ref))/\H l2=some (.lst (bs.map V.ref))/\as.length=bs.length/\(∀ (i:Nat) a b,as[i]?=some a->bs[i]?=some b->(∃ dy gs,H a=some (.ins C dy gs))/\(∃ dy gs,H b=some (.ins C dy gs))/\∀ H' Q',Same H H'->(∀ H2,Same H' H2->Q' (.bl true) H2)->Oz sp a b H' Q')/\∀ H',Same H H'->Q (.bl false) H'):=by
 intro aa s σ H x y v u Q I rx ry h;obtain ⟨l,l2,as,bs,rfl,rfl,hl,hl2,ay,am,q⟩:=h;cases rx;cases ry
 have lst:∀ H' s' l (bs:List Addr),Inv X aa σ H' s'->H' l=some (.lst (bs.map V.ref))->JJ l (bs.map Value.ref).toArray s':=by
  intro H' s' l bs I' e;obtain ⟨its,rv,⟨o,n,e2,c,dd,sl⟩,_⟩:=I'.list (SqL.of e);have:=HI bs its rv;subst this;obtain ⟨ocl,odi,oda,osl⟩:=o;simp only at c dd sl;subst c sl;exact ⟨n,odi,osl,e2⟩
 obtain ⟨n,dd,sl,g0⟩:=lst H s l as I hl;obtain ⟨n2,dd2,sl2,g2⟩:=lst H s l2 bs I hl2;have hu:X.A.units < cLine:=Nat.lt_of_le_of_lt (Nat.le_add_right _ 64) hr.units
 have hu1:X.A.in1.units < cLine:=by
  have:=hr.units;show X.A.units + 1 < cLine;omega
 show wpAny _ _ (richCompare .NotEq (.ref l) (.ref l2)) _ _ _
 refine wpAny_richCompare_same_room (T := "list") ⟨_,g0,rfl⟩ ⟨_,g2,rfl⟩ PySem.F.slot_list_ne (wpAny_mono (call_meetsIn (A:=X.A) PySem.F.slot_list_ne ⟨_,g0,rfl⟩ PySem.F.entry_list_ne (PySem.F.args_list_ne_2 _ _) (NU X.prog X.w l l2 (as.map Value.ref).toArray (bs.map Value.ref).toArray (by simp [ay]))
  (Q:=fun v s'=>v=.bool false/\∃ H',Inv X aa σ H' s'/\Same H H') (E:=X.xe) ?_) (fun v s' hv=>?_) fun _ _ e=>e) hu
 ·refine ⟨fun _ s'=>∃ H',Inv X aa σ H' s'/\Same H H',fun i s' ⟨H',I',sm⟩=>⟨lst H' s' l as I' (sm _ _ hl),lst H' s' l2 bs I' (sm _ _ hl2)⟩,fun i y z s' Q' hy hz ⟨H',I',sm⟩ hq=>?_,fun s' h=>⟨rfl,h⟩,⟨H,I,Same.refl _⟩⟩;have hy':(as.map Value.ref)[i]?=some y:=by simpa using hy
  have hz':(bs.map Value.ref)[i]?=some z:=by simpa using hz
  rw [getElem?_map] at hy' hz';obtain ⟨a,ha1,rfl⟩:=Option.map_eq_some_iff.mp hy';obtain ⟨b,hb1,rfl⟩:=Option.map_eq_some_iff.mp hz';obtain ⟨⟨da,fs,hai⟩,⟨dy,gs,hbi⟩,hsp⟩:=am i a b ha1 hb1;unfold eqBool;refine wpAny_holding ?_;refine wpAny_ite_split (fun _=>?_) (fun _=>?_)
  ·have:=hq s' ⟨H',I',sm⟩
   wp_walk
   exact this
  obtain ⟨m,Fm⟩:=I'.fr;obtain ⟨mB,ob,_⟩:=Bx I'.hok (sm _ _ hbi);obtain ⟨odb,ib,_⟩:=ob.look;obtain ⟨mA,oa,_⟩:=Bx I'.hok (sm _ _ hai);obtain ⟨oda,ia,_⟩:=oa.look;have run:=KN (Q:=fun v H2=>v=.bl true/\Same H' H2) (E:=fun e s'=>wants (fun v s'=>v=.bool false/\∃ H',Inv X aa σ H' s'/\Same H H') X.xe (.error e) s') F hr.in1 I'.env0.in1 hb I' (hsp H' _ sm fun H2 s2=>⟨rfl,s2⟩);refine wpAny_bind (W.cmp_K hu1 Fm I'.mod.kin ia ib.type (by simp [W.notFirst]) hm.at_ hm.fn (thn run fun v s2 hv=>?_));obtain ⟨t,rfl,v',H2,I2,rv,ev,s2⟩:=hv;subst ev;cases rv;exact wpAny_truthy_bool (hq _ ⟨H2,I2,fun b o e=>s2 _ _ (sm _ _ e)⟩)
 ·obtain ⟨rfl,H',I',sm⟩:=hv;exact ⟨(fun z=>nomatch z),.bl false,H',I',rfl,q _ sm⟩
end
theorem HJ:∀ (fuel n r:Nat),r <= 1->minRun' fuel n r <= n + r
 | 0,n,r,_=>Nat.le_refl _
 | f + 1,n,r,h=>by
  rw [minRun'_succ];split
  ·exact Nat.le_refl _
  ·have:=HJ f (n / 2) (max r (n % 2)) (by omega);omega
section
variable {prog:Program} {a₀:Array Keyed}
theorem Gv {st:SortSt} {nrem:Nat} {Q:Option Nat->SortSt->Prop} (h0:IntKeys a₀) (hn:nrem <= a₀.size) (h1:1 <= nrem) (hB:SBase a₀ st) (hr:SortedTo (arrOf st) nrem)
  (h:Q (some nrem) st):wpS (model prog w) A E s (countRun' 0 nrem) Q st:=by
 rw [countRun0_eq];refine wpS_bind (wpS_ascLoop h0 hn (Nat.le_refl 1) h1 hB (fun i j hij hj=>hr i j hij (by omega)) fun n hn1 hn2 hsn hor=>?_)
 dsimp only
 have e:n=nrem:=by
  rcases hor with z | z
  ·exact z
  ·by_cases q:n=nrem
   ·exact q
   ·exact absurd z (Int.not_lt.mpr (hr (n - 1) n (by omega) (by omega)))
 subst e;rw [if_pos (by simp)];exact wpS_pure h
theorem Gw {st:SortSt} {Q:Unit->SortSt->Prop} (h0:IntKeys a₀) (hB:SBase a₀ st) (h2:2 <= a₀.size) (hr:SortedTo (arrOf st) a₀.size)
  (h:∀ st',arrOf st'=arrOf st->failedOf st'=none->Q () st'):wpS (model prog w) A E s sortRuns' Q st:=by
 rw [sortRuns'_eq];refine wpS_bind (wpS_get ?_)
 dsimp only
 have hmr:minRun' a₀.size a₀.size 0 <= a₀.size:=HJ _ _ _ (by decide);simp only [hB.size]
 refine wpS_bind (wpS_mono (wpS_forRange
  (I:=fun x c st'=>(x=0/\c=(none,0)/\st'=st)\/(1 <= x/\c=(none,a₀.size)/\st'=setPending st ((pendingOf st).push (0,a₀.size,0))))
  (Q:=fun c st'=>c=(none,a₀.size)/\st'=setPending st ((pendingOf st).push (0,a₀.size,0))) ?step ?fin (.inl ⟨rfl,rfl,rfl⟩)) ?post)
 case fin =>
  rintro c st' (⟨hx,_,_⟩ | ⟨_,hc,hD⟩)
  ·omega
  ·exact ⟨hc,hD⟩
 case step =>
  rintro x c st' _ hx (⟨rfl,rfl,rfl⟩ | ⟨hx1,rfl,rfl⟩)
  ·dsimp only
   rw [if_neg (by omega)];simp only [Nat.sub_zero,Nat.zero_add];refine wpS_bind (Gv h0 (Nat.le_refl _) (by omega) hB hr ?_)
   dsimp only
   rw [if_neg (by omega)];refine wpS_bind (wpS_get ?_);have hb:(pendingOf st').back?=none:=by rw [hB.pend]; rfl
   rw [hb]
   dsimp only
   exact wpS_bind (wpS_modify (wpS_pure (.inr ⟨by omega,rfl,rfl⟩)))
  ·dsimp only
   rw [if_pos (Nat.le_refl _)];exact wpS_pure ⟨rfl,rfl⟩
 case post =>
  rintro c st' ⟨rfl,hD⟩
  have hpe:pendingOf st'=#[(0,a₀.size,0)]:=by
   rw [hD];show (pendingOf st).push _=_;rw [hB.pend];rfl
  dsimp only
  refine wpS_bind (wpS_mono (wpS_forRange (I:=fun _ c st''=>st''=st'/\c=(none,())) (Q:=fun c st''=>st''=st'/\c=(none,())) ?_ (fun _ _ hh=>hh) ⟨rfl,rfl⟩) ?_)
  ·rintro x c st'' _ _ ⟨rfl,rfl⟩;refine wpS_bind (wpS_get ?_);rw [if_pos (by rw [hpe]; exact Nat.le_refl 1)];exact wpS_pure ⟨rfl,rfl⟩
  ·rintro c st'' ⟨rfl,rfl⟩;refine wpS_pure (h _ ?_ ?_)
   ·rw [hD]
   ·rw [hD];exact hB.failed
theorem JK:∀ {vs:List Value} {ns:List Int},IntsAre vs ns->∀ (i:Nat) (v:Value),vs[i]?=some v->∃ n t,v=.int n t/\ns[i]?=some n
 | _,_,.nil,i,v,e=>by cases e
 | _,_,.cons n t h,0,v,e=>by cases e; exact ⟨n,t,rfl,rfl⟩
 | _,_,.cons n t h,i + 1,v,e=>JK h i v e
theorem JL {vs:List Value} {ns:List Int} (hI:IntsAre vs ns) (hp:ns.Pairwise (· <= ·)):SortedTo (pairsOf vs) (pairsOf vs).size:=by
 have key:∀ i,i < vs.length->ns[i]?=some (PyProof.Rows.K (pairsOf vs) i):=fun i hi=>by
  obtain ⟨n,tk,hn,e⟩:=JK hI i _ (List.getElem?_eq_getElem hi);rw [e];unfold PyProof.Rows.K;have hzz:(vs.zip vs)[i]?=some (vs[i],vs[i]):=List.getElem?_zip_eq_some.mpr ⟨List.getElem?_eq_getElem hi,List.getElem?_eq_getElem hi⟩;rw [← Array.getElem?_toList,pairsOf_toList,hzz,hn];rfl
 intro i j hij hj;rw [pairsOf_size] at hj;have e1:=key i (by omega);have e2:=key j hj;rcases Nat.lt_or_ge i j with z | z
 ·obtain ⟨h1,g1⟩:=List.getElem?_eq_some_iff.mp e1;obtain ⟨h2,g2⟩:=List.getElem?_eq_some_iff.mp e2;have:=List.pairwise_iff_getElem.mp hp i j h1 h2 z;rw [g1,g2] at this;exact this
 ·have:i=j:=by omega
  subst this;exact Int.le_refl _
theorem IA (vs:List Value):((pairsOf vs).map (·.2))=vs.toArray:=by
 apply Array.toList_inj.mp;rw [Array.toList_map,pairsOf_toList,List.map_snd_zip (Nat.le_refl _)]
theorem FP {vs:List Value} {ns:List Int} {n:Nat} {P:Fin->Shared->Prop} (ho:s.heap.get? a=some (seqObj "list" vs.toArray n))
  (hI:IntsAre vs ns) (hpw:ns.Pairwise (· <= ·)) (hz:vs.length <= 1000)
  (h:P (.done (.ret .none)) { s with heap:=sortedHeap s.heap a vs vs.toArray }) :
  wpAny (model prog w) A (Builtin.«list.sort» ⟨[.ref a],[]⟩) P E s:=by
 rw [list_sort_plain];have ha:a < s.heap.objs.size:=lt_size ho;have hsL:vs.toArray.size <= sizeLine:=by rw [sizeLine_eq]; simp only [size_toArray]; omega
 refine wpAny_bind (listItems_at ho rfl ?_);refine wpAny_bind (listUpdate_at ho rfl ?_ hsL);obtain ⟨e1,ho1⟩:∃ e1,(s.heap.update a (Obj.mapSeq fun _=>#[])).get? a=some (seqObj "list" #[] e1):=⟨_,get?_update_seq ho (fun _=>#[])⟩;refine wpAny_bind (seqEpoch_at ho1 rfl ?_);refine wpAny_bind (wpAny_newTuple ?_ (by rw [sizeLine_eq]; show vs.length <= _; omega));refine wpAny_bind (wpAny_newList ?_);refine wpAny_holding ?_
 have ho6:(((s.heap.update a (Obj.mapSeq fun _=>#[])).push (seqObj "tuple" vs.toArray 0)).push (seqObj "list" #[] 0)).get? a=some (seqObj "list" #[] e1):=by
  rw [Heap.get?_push_ne _ _ _ (by rw [size_push',size_update]; exact Nat.ne_of_lt (Nat.lt_succ_of_lt ha)),Heap.get?_push_ne _ _ _ (by rw [size_update]; exact Nat.ne_of_lt ha)];exact ho1
 show wpAny (model prog w) A _ P E { s with heap:=((s.heap.update a (Obj.mapSeq fun _=>#[])).push (seqObj "tuple" vs.toArray 0)).push (seqObj "list" #[] 0) }
 dsimp only
 have hsz:vs.toArray.size=vs.length:=by simp
 by_cases h2:vs.toArray.size < 2
 ·rw [if_pos h2,if_pos h2];refine wpAny_bind (wpAny_pure ?_);rw [StateT.run_pure];refine wpAny_bind (wpAny_pure ?_)
  dsimp only
  refine wpAny_bind (seqEpoch_at ho6 rfl ?_);refine wpAny_bind (listUpdate_at ho6 rfl ?_ (hsz2:=by rw [Array.size_map]; show (pairsOf vs).size <= _; rw [pairsOf_size,sizeLine_eq]; omega));simp only [bne_self_eq_false,Bool.false_eq_true,if_false];refine wpAny_pure ?_;rw [← IA] at h;exact h
 ·rw [if_neg h2,if_neg h2]
  obtain ⟨v₁,v₂,rest,rfl⟩:∃ v₁ v₂ rest,vs=v₁ :: v₂ :: rest:=by
   match vs,hsz,h2 with
   | [],_,h2=>simp at h2
   | [_],_,h2=>simp at h2
   | v₁ :: v₂ :: rest,_,_=>exact ⟨v₁,v₂,rest,rfl⟩
  rw [keyKind_ints hI];refine wpAny_bind (wpAny_pure ?_)
  refine wpAny_bind (wpAny_mono (Gw (a₀:=pairsOf (v₁ :: v₂ :: rest)) (st:=SortSt.mk' oneType' ((v₁ :: v₂ :: rest).toArray.zip (v₁ :: v₂ :: rest).toArray) #[] 7 none)
   (Q:=fun _ st'=>arrOf st'=pairsOf (v₁ :: v₂ :: rest)/\failedOf st'=none)
   hI.intKeys ⟨Array.Perm.refl _,rfl,rfl,rfl⟩ (by rw [pairsOf_size]; simp) (JL hI hpw) fun st' a1 a2=>⟨a1,a2⟩) ?_ fun _ _ e=>e)
  rintro ⟨⟨⟩,st'⟩ s' ⟨rfl,hp,hf⟩
  dsimp only
  refine wpAny_bind (seqEpoch_at ho6 rfl ?_);refine wpAny_bind (listUpdate_at ho6 rfl ?_ (hsz2:=by rw [hp,IA]; exact Nat.le_succ_of_le hsL));rw [hf];simp only [bne_self_eq_false,Bool.false_eq_true,if_false];rw [hp,IA];exact wpAny_pure h
end
section
theorem IB (hK:X.K=K):BU X (.builtin "sorted") (fun xs H Q=>∃ (p:Addr) (ns:List Int),xs=[.ref p]/\SqL K H p (ns.map V.int)/\ns.Pairwise (· <= ·)/\ns.length <= 1000/\∀ l,H l=none->Q (.ref l) (upd H l (.lst (ns.map V.int)))):=by
 subst hK;intro aa s σ H xs us Q I r h;obtain ⟨p,ns,rfl,hq,hpw,hz,q⟩:=h;obtain ⟨u,rfl,ru⟩:=Bb r;cases ru;obtain ⟨its,rv,pl,hzl⟩:=I.list hq;have ay:ns.length=its.length:=by have:=rv.length; rw [length_map] at this; exact this
 have hI:=CJ rv;have hsL:its.length <= sizeLine:=by rw [sizeLine_eq]; omega
 refine Calls.call_function_entry kind_sorted plain_sorted entry_sorted (args_sorted1 _) ?_;unfold Builtin.«sorted»;refine wpAny_bind (m:=checkCount "sorted" 1 1 _) (wpAny_pure ?_);refine wpAny_bind (collect_list pl.isList ?_ hsL);refine wpAny_bind (wpAny_newList ?_ hsL)
 have hsz:((s.heap.push (seqObj "list" #[] 0)).update s.heap.objs.size (Obj.mapSeq (·++its.toArray))).objs.size=s.heap.objs.size + 1:=by
  rw [size_update,size_push']
 have hoL:(((s.heap.push (seqObj "list" #[] 0)).update s.heap.objs.size (Obj.mapSeq (·++its.toArray))).push (seqObj "list" its.toArray 0)).get? (s.heap.objs.size + 1)=some (seqObj "list" its.toArray 0):=by
  rw [← hsz]; exact get?_push_size _ rfl
 show wpAny _ _ _ _ _ { s with heap:=((s.heap.push (seqObj "list" #[] 0)).update s.heap.objs.size (Obj.mapSeq (·++its.toArray))).push (seqObj "list" its.toArray 0) };rw [hsz];refine wpAny_bind (wpAny_holding (wpAny_call_entry slot_list_sort ⟨_,hoL,rfl⟩ entry_list_sort (FP hoL hI hpw (by omega) ⟨_,rfl,?_⟩) (args_list_sort _)));refine wpAny_pure ⟨_,rfl,?_⟩;have hn:H (s.heap.objs.size + 1)=none:=I.hok.fresh (Nat.le_succ _);refine ⟨.ref (s.heap.objs.size + 1),_,I.laid (t':=s.toks) (o:=.lst (ns.map V.int)) (h':=sortedAll s.heap its its.toArray) (fun b o e=>sortedAll_old e) (Nat.le_succ _) ⟨by rw [length_map,ay]; exact hsL,its,?_⟩,rfl,q _ hn⟩;obtain ⟨c,hcx⟩:=sortedAll_at s.heap its its.toArray;exact ⟨c,rv,hcx⟩
end
structure CompFits1 (osc sc:Scope) (N N':List Str) (ix:List (Option Nat)) (z:Str):Prop where
 kind:sc.kind=.function
 one:∀ y ∈ sc.names,y.2=.cell->y.1=z
 own:sc.names.lookup z=some .cell
 free:∀ y ∈ sc.names,y.2=.free->osc.names.lookup y.1=some .cell\/osc.names.lookup y.1=some .free
 loc:∀ y ∈ sc.names,y.2=.local->sc.names.lookup y.1=some .local
 len:ix.length=N'.length
 slot:∀ (j:Nat) (x:Str) (i:Nat),N'[j]?=some x->ix[j]?=some (some i)->N[i]?=some x/\sc.names.lookup x=some .free
 cf:∀ n cl,cellsFrom n sc.names cl=(z,n) :: cl
 pc:∀ h,pushCells h sc.names=h.push { cls:=.type "cell", data:=.cell none }
def KR (osc sc:Scope) (N N':List Str) (ix:List (Option Nat)) (z:Str):Bool :=
 decide (sc.kind=.function) && (sc.names.all fun y=>(decide (y.2 ≠ .cell) || decide (y.1=z)) && (decide (y.2 ≠ .free) || decide (osc.names.lookup y.1=some .cell) || decide (osc.names.lookup y.1=some .free)) &&
  (decide (y.2 ≠ .local) || decide (sc.names.lookup y.1=some .local))) && decide (sc.names.lookup z=some .cell) && Cd sc N N' ix
theorem CompFits1.of {osc sc:Scope} {N':List Str} {ix:List (Option Nat)} {z:Str} (h:KR osc sc N N' ix z=true) (hcf:∀ n cl,cellsFrom n sc.names cl=(z,n) :: cl)
  (hpc:∀ h,pushCells h sc.names=h.push { cls:=.type "cell", data:=.cell none }):CompFits1 osc sc N N' ix z:=by
 simp only [KR,Bool.and_eq_true,decide_eq_true_eq,List.all_eq_true,Bool.or_eq_true] at h;obtain ⟨⟨⟨h1,h2⟩,h4⟩,h3⟩:=h;refine ⟨h1,fun y hy e=>?_,h4,fun y hy e=>?_,fun y hy e=>?_,Dj h3,Ep h3,hcf,hpc⟩
 ·rcases (h2 y hy).1.1 with q | q
  ·exact absurd e q
  ·exact q
 ·rcases (h2 y hy).1.2 with (q | q) | q
  ·exact absurd e q
  ·exact .inl q
  ·exact .inr q
 ·rcases (h2 y hy).2 with q | q
  ·exact absurd e q
  ·exact q
theorem EQ {env:Env} {z:Str}:∀ {names:List (Str × NameKind)} {x:Str},(∀ y ∈ names,y.2=.cell->y.1=z)->((names.map (CN env)).lookup x=some .cell\/(names.map (CN env)).lookup x=some .free)->(x,NameKind.free) ∈ names\/x=z
  | [],_,_,h=>by simp at h
  | (n,k) :: r,x,hc,h=>by
    rw [map_cons] at h;have e:CN env (n,k)=(n,(CN env (n,k)).2):=Prod.ext (EK env (n,k)) rfl;rw [e] at h;cases hx:x == n with
    | true =>
      simp only [lookup_cons,hx] at h;have exn:x=n:=by simpa using hx
      subst exn;by_cases hk:k=.free
      · subst hk; exact .inl mem_cons_self
      · rw [Hv env (x,k) hk] at h
        rcases h with q | q
        · have:k=.cell:=by simpa using q
          exact .inr (hc (x,k) mem_cons_self this)
        · have:k=.free:=by simpa using q
          exact absurd this hk
    | false =>
      simp only [lookup_cons,hx] at h;rcases EQ (fun y hy=>hc y (mem_cons_of_mem _ hy)) h with q | q
      · exact .inl (mem_cons_of_mem _ q)
      · exact .inr q
theorem Dh {env:Env}:∀ {names:List (Str × NameKind)} {x:Str},names.lookup x=some .cell->(names.map (CN env)).lookup x=some .cell
  | [],_,h=>by simp at h
  | (n,k) :: r,x,h=>by
    rw [map_cons];have e:CN env (n,k)=(n,(CN env (n,k)).2):=Prod.ext (EK env (n,k)) rfl;rw [e];cases hx:x == n with
    | true =>
      simp only [lookup_cons,hx,Option.some.injEq] at h ⊢;subst h;rw [Hv env (n,.cell) (fun q=>by cases q)]
    | false =>
      simp only [lookup_cons,hx] at h ⊢;exact Dh h
def BP (z:Str) (X:Cx) (N':List Str) (scope:Scope) (cl:List (Str × Addr)) (s:Shared) (H:Hp) (C:Addr) (fp:List Addr) (pn:LO):Cx where
 prog:=X.prog
 w:=X.w
 K:=X.K
 mg:=X.mg
 base:=X.base
 A:=X.A
 N:=N'
 s₀:=s
 H₀:=H
 env:=compEnvC scope cl C X.env
 outer:=X.stack
 stack:=X.stack
 ex:=fp
 fn:=fun x=>x == z
 calm:=X.calm
 pn:=pn
 xe:=fun _ _=>False
theorem Fy {z:Str} {Z:Addr} {cl:List (Str × Addr)} (c1:∀ x c,cl.lookup x=some c->X.env.cells.lookup x=some c) {c:Addr} (e:((z,Z) :: cl).lookup x=some c):X.env.cells.lookup x=some c\/(x=z/\c=Z):=by
 cases hx:x == z with
 | true =>
  simp only [lookup_cons,hx,Option.some.injEq] at e;exact .inr ⟨by simpa using hx,e.symm⟩
 | false =>
  simp only [lookup_cons,hx] at e;exact .inl (c1 x c e)
theorem QU {z:Str} {Z:Addr} {cl:List (Str × Addr)} {c:Addr} (e:cl.lookup x=some c):∃ c',((z,Z) :: cl).lookup x=some c':=by
 cases hx:x == z with
 | true=>exact ⟨Z,by simp only [lookup_cons,hx]⟩
 | false=>exact ⟨c,by simp only [lookup_cons,hx]; exact e⟩
theorem NV {z:Str} {Z:Addr} {cl:List (Str × Addr)}:((z,Z) :: cl).lookup z=some Z:=by simp [lookup_cons]
theorem NW (h:Heap):((h.push { cls:=.type "dict", data:=.dict #[] }).push { cls:=.type "cell", data:=.cell none }).IsCell (h.objs.size + 1) none:=by
 have e:=get?_push_size (h.push { cls:=.type "dict", data:=.dict #[] }) (o:={ cls:=.type "cell", data:=.cell none }) rfl;rw [size_push] at e;exact ⟨_,e,rfl⟩
theorem KS {M:Model} {scope:Scope} {globals:Addr} {cl:List (Str × Addr)} {qual:Str} {outer:Env} {Q:Env->Shared->Prop} {z:Str}
  (hcf:∀ n cl,cellsFrom n scope.names cl=(z,n) :: cl) (hpc:∀ h,pushCells h scope.names=h.push { cls:=.type "cell", data:=.cell none })
  (hQ:∀ h',h'.Ns s.heap.objs.size (fun _=>none)->h'.IsCell (s.heap.objs.size + 1) none->(∀ b o,s.heap.get? b=some o->h'.get? b=some o) ->
   Q { scope,locals:=s.heap.objs.size,globals,cells:=(z,s.heap.objs.size + 1) :: cl,qual,func:=none,code:=outer.code,frame:=outer.frame,builtins:=outer.builtins } { s with heap:=h' }) :
  wpAny M A (newFunctionEnv scope globals cl [] qual none .none (some outer)) Q E s:=by
 simp only [newFunctionEnv,Option.isSome_some,if_true];refine wpAny_bind (wpAny_alloc ?_);refine wpAny_bind (wpAny_layCells _ (fun name kind cells=>by cases hkc:kind == NameKind.cell <;> simp [hkc]) _ _ _ _ ?_);rw [hcf,hpc,show ({ s with heap:=s.heap.push { cls:=.type "dict", data:=.dict #[] } }:Shared).heap.objs.size=s.heap.objs.size + 1 from size_push ..];refine wpAny_bind ?_;rw [List.forIn_nil];refine wpAny_pure (wpAny_pure (hQ _ ((Heap.Ns.new s.heap (.type "dict")).keeps fun b o e=>get?_push_of_some _ e) (NW s.heap) fun b o e=>get?_push_of_some _ (get?_push_of_some _ e)))
section
variable {N':List Str} {ix:List (Option Nat)} {scope:Scope} {cl:List (Str × Addr)} {Z:Addr} {fp:List Addr} {z:Str}
theorem NX (I:Inv X aa σ H s) (hf:CompFits1 X.env.scope scope X.N N' ix z) (c1:∀ x c,cl.lookup x=some c->X.env.cells.lookup x=some c) (c2:∀ y ∈ scope.names,y.2=.free->∃ c,cl.lookup y.1=some c)
  (hC:s.heap.objs.size <= C) (hZ:s.heap.objs.size <= Z) (hfp:∀ b ∈ fp,Bf X aa H b) (hlt:∀ b ∈ fp,b < s.heap.objs.size):(BP z X N' scope ((z,Z) :: cl) s H C fp (X.pn++aa)).Ok where
 mod:=I.mod
 kind:=hf.kind
 glob:=I.ok.glob
 blt:=I.ok.blt
 above:=hC
 inj:=fun x y c e1 e2=>by
  have lt:∀ x,X.env.cells.lookup x=some c->c < s.heap.objs.size:=fun x e=>by
   obtain ⟨v,q⟩:=I.cell x c e;exact q.lt
  rcases Fy c1 e1 with q1 | q1 <;> rcases Fy c1 e2 with q2 | q2
  ·exact I.ok.inj x y c q1 q2
  ·have:=lt x q1; rw [q2.2] at this; exact absurd this (Nat.not_lt.mpr hZ)
  ·have:=lt y q2; rw [q1.2] at this; exact absurd this (Nat.not_lt.mpr hZ)
  ·rw [q1.1,q2.1]
 has:=fun x h=>by
  rcases EQ (env:=X.env) hf.one h with hm | hm
  ·obtain ⟨c,e⟩:=c2 (x,.free) hm rfl;exact QU e
  ·rw [hm]; exact ⟨Z,NV⟩
 cab:=fun x c h e=>by
  have hx:x=z:=by
   have h':(x == z)=true:=h;simpa using h'
  subst hx;have e':((x,Z) :: cl).lookup x=some c:=e;rw [NV] at e';cases e';exact hZ
 hd:=I.ok.hd
 frames:=I.ok.frames
 stk:=.inl rfl
 exf:=fun b hb=>⟨Nat.ne_of_lt (Nat.lt_of_lt_of_le (hlt b hb) hC),fun x c e=>(Fy c1 e).elim (fun q=>(hfp b hb).2.2.2.2.1 x c q) fun q=>q.2 ▸ Nat.ne_of_gt (Nat.lt_of_lt_of_le (hlt b hb) hZ)⟩
 bs:=I.bs
 bsz:=Nat.le_trans I.ok.bsz I.sz
 noex:=fun b o e hb=>by
  rcases (hfp b hb).2.2.2.1 with z | z
  ·exact I.ok.noex b o e z
  ·exact absurd (Nat.lt_of_lt_of_le (Nat.lt_of_lt_of_le (lt_size e) I.ok.bsz) z) (Nat.lt_irrefl _)
 exfs:=fun b hb z=>by
  rcases mem_cons.mp (I.stkSub b z) with e | e
  ·exact (hfp b hb).2.1 e
  ·exact (hfp b hb).2.2.1 e
 funs:=I.stack
 frf:=I.stkFree
theorem JM (I:Inv X aa σ H s) (hf:CompFits1 X.env.scope scope X.N N' ix z) (c1:∀ x c,cl.lookup x=some c->X.env.cells.lookup x=some c) (c2:∀ y ∈ scope.names,y.2=.free->∃ c,cl.lookup y.1=some c)
  (hC:s.heap.objs.size <= C) (hZ:s.heap.objs.size <= Z) (hfp:∀ b ∈ fp,Bf X aa H b) (hlt:∀ b ∈ fp,b < s.heap.objs.size) {h₁:Heap} {tk:Nat} {m:SV} (old:∀ b o,s.heap.get? b=some o->h₁.get? b=some o) (hns:h₁.Ns C m)
  (af:∃ v,h₁.IsCell Z v):Inv (BP z X N' scope ((z,Z) :: cl) s H C fp (X.pn++aa)) [] (B2 ix σ) H { s with heap:=h₁,toks:=tk } where
 ok:=NX I hf c1 c2 hC hZ hfp hlt
 os:=rfl
 bare:=I.bare
 base:=Un.kept old
 loc:=⟨m,hns,fun j x v e1 e2 e3=>by
  obtain ⟨i,ei,ev⟩:=LF e2;obtain ⟨hN,bc⟩:=hf.slot j x i e1 ei;obtain ⟨mX,_,hl⟩:=I.loc;have hm:(x,NameKind.free) ∈ scope.names:=mem_of_lookup bc;have hk:=hf.free _ hm rfl;obtain ⟨u,r,q⟩:=hl i x v hN ev (.inr hk);refine ⟨u,r,.inr ⟨Ce (env:=X.env) bc,?_⟩⟩;obtain ⟨c,hc⟩:=c2 _ hm rfl
  have hxz:(x == z)=false:=by
   cases hxz:x == z with
   | false=>rfl
   | true =>
    have e:x=z:=by simpa using hxz
    rw [e,hf.own] at bc;cases bc
  refine ⟨c,by show ((z,Z) :: cl).lookup x=some c; simp only [lookup_cons,hxz]; exact hc,?_⟩;rcases q with ⟨k,_⟩ | ⟨_,c',hc',z⟩
  ·have k':X.env.scope.names.lookup x=some .local:=k;rcases hk with a | a <;> (rw [k'] at a; cases a)
  ·rw [c1 x c hc] at hc';cases hc'
   exact z.keeps old⟩
 cell:=fun x c e=>by
  rcases Fy c1 e with q | q
  ·obtain ⟨v,z⟩:=I.cell x c q;exact ⟨v,z.keeps old⟩
  ·rw [q.2]; exact af
 free:=I.hok.fresh hC
 freeC:=fun x c e=>(Fy c1 e).elim (fun q=>I.freeC x c q) fun q=>q.2 ▸ I.hok.fresh hZ
 pin:=fun p hp=>by
  have hp':p ∈ X.pn++aa:=by
   have z:=hp;rw [append_nil] at z;exact z
  obtain ⟨e,n,ne,nf,d⟩:=I.pin p hp';refine ⟨old _ _ e,n,Nat.ne_of_lt (Nat.lt_of_lt_of_le (lt_size e) hC),fun z=>?_,d⟩;rcases mem_cons.mp (I.stkSub p.1 z) with q | q
  ·exact ne q
  ·exact nf q
 hok:=I.hok.kept old
 len:=by
  show (B2 ix σ).length=N'.length;unfold B2;rw [length_map]; exact hf.len
theorem KU {pins':LO} {σ':St} {s':Shared} (I:Inv X aa σ H s) (hfp:∀ b ∈ fp,Bf X aa H b) (J:Inv (BP z X N' scope cl s H C fp (X.pn++aa)) pins' σ' H' s'):Inv X aa σ H' s' :=
 I.call' (ch:=fp) J.os J.base J.hok J.bare fun b hb=>⟨(hfp b hb).2.2.2.1,(hfp b hb).2.1,(hfp b hb).2.2.2.2.1,(hfp b hb).2.2.2.2.2⟩
end
section
variable {tg iter elt:Expr} {ifs:List Expr} {scope:Scope} {pos':Pos} {N':List Str} {ix:List (Option Nat)} {wi:TI} {g:TG} {tt:TT}
theorem KW {z:Str} {RD:Cx->Prop} {use:Option (Value->Sem Unit)} {Qv:VS} (hf:CompFits1 X.env.scope scope X.N N' ix z) (hc:∀ cl s H C fp aa,RD (BP z X N' scope cl s H C fp (X.pn++aa))) (hi:PIg RD X tg iter wi)
  (hg:∀ cl s H C fp pn,PGk (BP z X N' scope cl s H C fp pn) tg ix g) (ht:∀ cl s H C fp pn,PTs (BP z X N' scope cl s H C fp pn) ifs tt) (he:∀ cl s H C fp pn,PE (BP z X N' scope cl s H C fp pn) elt te)
  (hs:∀ x,foldedSetIterable iter X.env x=pure x) {aa:LO} {s:Shared} {σ:St} {H:Hp} {R:List V->Hp->Prop} (I:Inv X aa σ H s) (h:B4 wi g tt te ix R σ H)
  (ck:∀ s' ys H' D C m,Inv X aa σ (upd H' D (.lst ys)) s'->R ys H'->H' D=none->s'.heap.Ns C m->X.s₀.heap.objs.size <= C->C ≠ X.env.locals->(∀ x c,X.env.cells.lookup x=some c->c ≠ C)->(∀ p ∈ X.pn++aa,p.1 ≠ C) ->
   upd H' D (.lst ys) C=none->compPost (model X.prog X.w) X.A X.xe use Qv (.ref D) C (.ok .next) s') :
  wpAny (model X.prog X.w) X.A (comprehension (.ListComp elt [⟨tg,iter,ifs,0⟩] scope pos) scope X.env pos' (newList []) false (eval iter X.env) use) Qv X.xe s:=by
 obtain ⟨cl,cm,c1,c2⟩:=LD (env:=X.env) (scope:=scope) fun y hy hyf=>by
  have:=hf.free y hy hyf;exact I.ok.has y.1 this
 refine wpAny_comprehension_free (use:=use) rfl hs cm hf.kind hf.loc (thn (hi aa s σ H _ I h) fun v s1 h1=>thn h1 fun itv s2 h2=>?_);obtain ⟨it,fp,tn,J,H2,e,I2,T,st2,f2,W,⟨m0,w0⟩,turn⟩:=h2;subst e
 have hlt:∀ b ∈ fp,b < s2.heap.objs.size:=fun b hb=>by
  obtain ⟨o,e,_⟩:=T.obj _ _ st2 b hb;exact lt_size e
 refine wpAny_newObj_type (KS (cl:=cl) hf.cf hf.pc fun h₁ hns₁ hcl₁ old₁=>?_)
 dsimp only at hns₁ hcl₁ old₁ ⊢
 generalize hH2:s2.heap.push { cls:=.type "list", dict:=none,data:=.seq ([]:List Value).toArray }=HP at hns₁ hcl₁ old₁ ⊢;have hC:HP.objs.size=s2.heap.objs.size + 1:=by rw [← hH2,size_push]
 have hDC:s2.heap.objs.size ≠ HP.objs.size:=by rw [hC]; exact Nat.ne_of_lt (Nat.lt_succ_self _)
 have hCle:s2.heap.objs.size <= HP.objs.size:=by rw [hC]; exact Nat.le_succ _
 have hDZ:s2.heap.objs.size < HP.objs.size + 1:=by rw [hC]; omega
 have old:∀ b o,s2.heap.get? b=some o->h₁.get? b=some o:=fun b o e=>old₁ b o (hH2 ▸ get?_push_of_some _ e);have bv:h₁.get? s2.heap.objs.size=some { cls:=.type "list", dict:=none,data:=.seq ([]:List Value).toArray }:=old₁ _ _ (hH2 ▸ get?_push_size _ rfl);generalize hZZ:HP.objs.size + 1=Z at *;generalize hCC:HP.objs.size=C at *;generalize hDD:s2.heap.objs.size=D at *;have IX:=JM (N':=N') (fp:=fp) I2 hf c1 c2 (by rw [hDD]; exact hCle) (by rw [hDD]; exact Nat.le_of_lt hDZ) f2 (by rw [hDD]; exact hlt) (tk:=s2.toks) old hns₁ ⟨_,hcl₁⟩;have hDn:H2 D=none:=I2.hok.fresh (by rw [hDD]; exact Nat.le_refl _)
 have hDfs:D ∉ frs X.stack:=fun z=>by
  rcases mem_cons.mp (I2.stkSub D z) with q | q
  ·have:=I2.lt; rw [← q,hDD] at this; exact Nat.lt_irrefl _ this
  ·exact I2.nofs (by rw [hDD]; exact Nat.le_refl _) q
 have cellLt:∀ x c,X.env.cells.lookup x=some c->c < D:=fun x c e=>by
  obtain ⟨v,z⟩:=I2.cell x c e;rw [← hDD]; exact z.lt
 have pinLt:∀ p ∈ X.pn++aa,p.1 < D:=fun p hp=>by rw [← hDD]; exact lt_size (I2.pin p hp).1
 have s0D:X.s₀.heap.objs.size <= D:=by rw [← hDD]; exact I2.sz
 have locLt:X.env.locals < D:=by rw [← hDD]; exact I2.lt
 let X':Cx:=BP z X N' scope ((z,Z) :: cl) s2 H2 C fp (X.pn++aa)
 have stat:∀ {H':Hp} {ob:Obj},(∀ b ∈ fp,H' b=none)->∀ b ∈ fp,Bf X' [(D,ob)] H' b:=fun {H' ob} hn b hb=>by
  refine ⟨hn b hb,Nat.ne_of_lt (Nat.lt_of_lt_of_le (hlt b hb) hCle),fun z=>?_,.inl hb,fun x c e=>(Fy c1 e).elim (fun q=>(f2 b hb).2.2.2.2.1 x c q) (fun q=>q.2 ▸ Nat.ne_of_gt (Nat.lt_trans (hlt b hb) hDZ)),fun p hp=>?_⟩
  ·exact IX.ok.exfs b hb z
  ·rcases mem_append.mp hp with z | z
   ·exact (f2 b hb).2.2.2.2.2 p z
   ·have e:p=(D,ob):=by simpa using z
    subst e;exact Nat.ne_of_gt (hlt b hb)
 have pinD:∀ {σ':St} {H':Hp} {s':Shared} {ob:Obj},Inv X' [] σ' H' s'->s'.heap.get? D=some ob->H' D=none->(∀ v,ob.data ≠ .cell v)->Inv X' [(D,ob)] σ' H' s':=fun {σ' H' s' ob} Ia e n d =>
  Ia.pins_of fun p hp=>by
   have q:p=(D,ob):=by simpa using hp
   subst q;exact ⟨e,n,hDC,hDfs,d⟩
 have loop:∀ s3:Shared,s3={ s2 with heap:=h₁,toks:=s2.toks } ->
   codeAny (model X.prog X.w) X.A (.compLoop (.ListComp elt [⟨tg,iter,ifs,0⟩] scope pos) 0 (.ref it) (.ref D) (compEnvC scope ((z,Z) :: cl) C X.env)) (compPost (model X.prog X.w) X.A X.xe use Qv (.ref D) C) s3:=by
  rintro s3 rfl
  refine codeAny_loop rfl (fun n s'=>∃ i ys its k H',Inv X' [(D,({ cls:=.type "list", data:=.seq (List.toArray its) k }:Obj))] (B2 ix σ) H' s'/\tn i s'.heap/\(∀ b ∈ fp,H' b=none)/\W i n ys H'/\Vals ys its)
   (fun n s4 hI=>?_) m0 ⟨0,[],[],_,H2,pinD IX bv hDn (fun v z=>by cases z),T.keep _ _ _ st2 (fun b _ o e=>old b o e),fun b hb=>(f2 b hb).1,w0,.nil⟩
  obtain ⟨i,ys,its,k,H4,I4,st4,fr4,w4,rv⟩:=hI;show wpAny _ X.A ((compTurn (.ListComp elt [⟨tg,iter,ifs,0⟩] scope pos) 0 (.ref it) (.ref D) (compEnvC scope ((z,Z) :: cl) C X.env)).onRaise (fun x=>do noteFrame x (compEnvC scope ((z,Z) :: cl) C X.env); theTreesLotGoes x)) _ _ s4;refine wpAny_noted ?_;rw [compTurn_list];refine Cn ?_;rcases turn i n ys H4 w4 with ⟨stop,hz,r⟩ | ⟨go,N,hN,step⟩
  ·refine wpAny_bind (wpAny_standAt (wpAny_bind (thn (T.done X' rfl rfl rfl (hc _ _ _ _ _ _) i _ s4 _ H4 _ I4 (stat fr4) st4 stop) fun r' s5 ⟨hr,I5⟩=>?_)));subst hr;have pD:=I5.pin (D,_) (mem_append_right _ mem_cons_self);have Ib:Inv X aa σ H4 s5:=KU I2 f2 I5;have Ic:Inv X aa σ (upd H4 D (.lst ys)) s5:=Ib.track pD.2.1 (Nat.ne_of_gt locLt) (.inr s0D) (fun x c e=>Nat.ne_of_lt (cellLt x c e)) (fun p hp=>Nat.ne_of_lt (pinLt p hp)) ⟨hz,its,k,rv,pD.1⟩;obtain ⟨m5,n5,_⟩:=I5.loc
   refine wpAny_pure (ck s5 ys H4 D C m5 Ic r pD.2.1 n5 (Nat.le_trans s0D hCle) (Nat.ne_of_gt (Nat.lt_of_lt_of_le locLt hCle)) (fun x c e=>Nat.ne_of_lt (Nat.lt_of_lt_of_le (cellLt x c e) hCle))
    (fun p hp=>Nat.ne_of_lt (Nat.lt_of_lt_of_le (pinLt p hp) hCle)) ?_)
   rw [AF (Ne.symm hDC)];exact I5.free
  ·refine wpAny_bind (wpAny_standAt (wpAny_bind (thn (T.item X' rfl rfl rfl (hc _ _ _ _ _ _) i _ s4 _ H4 _ I4 (stat fr4) st4 go) fun r' s5 ⟨u,hr,h5⟩=>?_)));subst hr;refine wpAny_bind (thn h5 fun _ s6 ⟨x,H6,I6,r6,y6,st6,fr6⟩=>?_);have I6':=I6.pinned (stat fr6) (T.obj _ _ st6);refine wpAny_bind (thn (hg _ _ _ _ _ _ _ s6 _ H6 x u _ I6' r6 (step x H6 y6)) fun _ s7 ⟨σ7,H7,I7,k7,q7⟩=>?_);refine wpAny_bind (thn (ht _ _ _ _ _ _ _ s7 σ7 H7 _ I7 q7) fun b s8 ⟨H8,I8,q8⟩=>?_)
   have again:∀ {H9:Hp} {s9:Shared} {ys':List V} {its':List Value} {k':Nat},Inv X' ([(D,({ cls:=.type "list", data:=.seq (List.toArray its') k' }:Obj))]++Ca fp s6.heap) σ7 H9 s9->Vals ys' its' ->
     (∃ m',m' < n/\W (i + 1) m' ys' H9)->∃ m,m < n/\∃ i ys its k H',Inv X' [(D,({ cls:=.type "list", data:=.seq (List.toArray its) k }:Obj))] (B2 ix σ) H' s9/\tn i s9.heap/\(∀ b ∈ fp,H' b=none)/\W i m ys H'/\Vals ys its:=by
    intro H9 s9 ys' its' k' I9 rv' ⟨m',hm,w9⟩;refine ⟨m',hm,i + 1,ys',its',k',H9,I9.unpinned.weak (I4.len.trans I9.len.symm) k7,T.keep _ _ _ st6 fun b hb o e=>(I9.pin (b,o) (mem_append_right _ (mem_append_right _ (Am hb e)))).1,fun b hb=>?_,w9,rv'⟩;obtain ⟨o,e,d⟩:=T.obj _ _ st6 b hb;exact (I9.pin (b,o) (mem_append_right _ (mem_append_right _ (Am hb e)))).2.1
   cases b with
   | false =>
    rw [if_neg Bool.false_ne_true] at q8;exact wpAny_pure ⟨rfl,again I8 rv (hN _ _ q8).2⟩
   | true =>
    rw [if_pos rfl] at q8;refine wpAny_bind (wpAny_bind (thn (he _ _ _ _ _ _ _ s8 σ7 H8 _ I8 q8) fun y s9 ⟨z,H9,I9,r9,q9⟩=>?_))
    have hz:ys.length < sizeLine:=by
     have:=(hN _ _ q9).1;rw [length_append,length_singleton] at this;omega
    have pD:=I9.pin (D,_) (mem_append_right _ (mem_append_left _ mem_cons_self));have ay:=rv.length;refine wpAny_bind (call_meets F.slot_list_append ⟨_,pD.1,rfl⟩ F.entry_list_append (F.args_list_append_2 _ _) (PySem.list_append D its.toArray k y (by rw [size_toArray]; omega)) ⟨pD.1,wpAny_pure (wpAny_pure ⟨rfl,?_⟩)⟩);have eq':its.toArray.push y=(its++[y]).toArray:=by simp
    obtain ⟨k',q⟩:∃ k',(s9.heap.update D (Obj.mapSeq (·.push y))).get? D=some { cls:=.type "list", data:=.seq (its++[y]).toArray k' }:=⟨_,by rw [← eq']; exact PySem.IsL.update pD.1 (·.push y)⟩;have Iw:Inv X' (Ca fp s6.heap) σ7 H9 s9:=I9.pins_of fun p hp=>I9.pin p (mem_append_right _ (mem_append_right _ hp))
    have It:Inv X' (Ca fp s6.heap) σ7 H9 { s9 with heap:=s9.heap.update D (Obj.mapSeq (·.push y)),toks:=s9.toks }:=Iw.turned (it:=D) (fun b o hb e=>(get?_update_other s9.heap (Obj.mapSeq (·.push y)) (Ne.symm hb)).trans e) pD.2.1 hDC
     (.inr (by show s2.heap.objs.size <= D; rw [hDD]; exact Nat.le_refl _)) (fun x c e=>(Fy c1 e).elim (fun q=>Nat.ne_of_lt (cellLt x c q)) (fun q=>q.2 ▸ Nat.ne_of_gt hDZ)) (fun p hp=>by
      rcases mem_append.mp hp with z' | z'
      ·exact Nat.ne_of_lt (pinLt p z')
      ·exact Nat.ne_of_lt (hlt p.1 (Ek z').1))
    refine again (its':=its++[y]) (k':=k') (It.pins_of fun p hp=>?_) (rv.append (.cons r9 .nil)) (hN _ _ q9).2;rcases mem_append.mp hp with z' | z'
    ·have e:p=(D,({ cls:=.type "list", data:=.seq (its++[y]).toArray k' }:Obj)):=by simpa using z'
     subst e;exact ⟨q,pD.2.1,hDC,hDfs,fun v z=>by cases z⟩
    ·exact It.pin p (mem_append_right _ z')
 exact codeAny_compStart_list (loop _ rfl) (T.self _ 0 _ _ _ (T.keep _ _ _ st2 fun b _ o e=>old b o e) (loop _ rfl))
theorem MC {z:Str} {i:Nat} {py spos:Pos} (hN:X.N.Nodup) (hi':X.N[i]?=some x) (hx:X.env.scope.names.lookup x=some .local) (hsw:swapsWith (.ListComp elt [⟨tg,iter,ifs,0⟩] scope pos) (some (.Name x py)) spos.line X.env=pure true)
  (hf:CompFits1 X.env.scope scope X.N N' ix z) (hc:X.calm=true) (hi:PI X tg iter wi)
  (hg:∀ cl s H C fp pn,PGk (BP z X N' scope cl s H C fp pn) tg ix g) (ht:∀ cl s H C fp pn,PTs (BP z X N' scope cl s H C fp pn) ifs tt) (he:∀ cl s H C fp pn,PE (BP z X N' scope cl s H C fp pn) elt te)
  (hs:∀ x,foldedSetIterable iter X.env x=pure x:=by intro _; rfl) :
  PS X (.Assign [.Name x py] (.ListComp elt [⟨tg,iter,ifs,0⟩] scope pos) spos) (fun D σ H=>B4 wi g tt te ix (fun ys H'=>∀ p,H' p=none->D.nx (σ.set i (some (.ref p))) (upd H' p (.lst ys))) σ H):=by
 intro aa s σ H D I h;rw [exec_Assign_Name_used _ _ _ _ hsw];refine wpAny_bind (wpAny_standAt (wpAny_bind ?_));show wpAny _ X.A (do let _ ← comprehension (.ListComp elt [⟨tg,iter,ifs,0⟩] scope pos) scope X.env _ (newList []) false (eval iter X.env) (some (assign (.Name x py) X.env))) _ _ s;refine wpAny_bind (thn (KW (use:=some (assign (.Name x py) X.env)) (Qv:=fun _ s'=>SP X aa D .next s') hf (fun _ _ _ _ _ _=>hc) hi.g hg ht he hs I h fun s' ys H' Da C m I' r hD hn h1 h2 h3 h4 h5=>?_) fun _ s' hq=>wpAny_pure (wpAny_pure hq));show wpAny _ X.A (assign (.Name x py) X.env (.ref Da)) _ _ _;refine wpAny_assign_Name (Ei (v:=.ref Da) I' hN hi' (.inl hx) rfl (fun s'' I'' ⟨a,hsb,ha⟩=>?_) (.inr hx))
 have hCa:C ≠ a:=by
  rcases ha with z | z
  ·rw [z]; exact h2
  ·exact (h3 x a z).symm
 refine ⟨m,hn.sameBut hsb hCa,fun h'' hs''=>?_⟩;exact ⟨_,_,I''.turned (it:=C) (t':=s''.toks) (fun b o hb e=>(hs''.2 b hb).trans e) h5 h2 (.inr h1) h3 h4,r Da hD⟩
end
section
variable {iter elt:Expr} {ifs:List Expr} {scope:Scope} {px py pt:Pos} {wi:TI} {tt:TT} {y:Str} {kt:Nat}
theorem MD {i:Nat} {z:Str} {pz spos:Pos} (hN:X.N.Nodup) (hi':X.N[i]?=some z) (hz:X.env.scope.names.lookup z=some .local) (Nc:List Str) (ixc:List (Option Nat)) (hf:KR X.env.scope scope X.N (x :: Nc) (none :: ixc) x=true)
  (hcf:∀ n cl,cellsFrom n scope.names cl=(x,n) :: cl) (hpc:∀ h,pushCells h scope.names=h.push { cls:=.type "cell", data:=.cell none }) (hnd:(x :: Nc).Nodup)
  (hx:scope.names.lookup x=some .cell) (hc:X.calm=true) (hi:PI X (.Name x px) iter wi)
  (ht:∀ cl s H C fp pn,PTs (BP x X (x :: Nc) scope cl s H C fp pn) ifs tt) (he:∀ cl s H C fp pn,PE (BP x X (x :: Nc) scope cl s H C fp pn) elt te)
  (hsw:swapsWith (.ListComp elt [⟨.Name x px,iter,ifs,0⟩] scope pos) (some (.Name z pz)) spos.line X.env=pure true:=by rfl) (hs:∀ x,foldedSetIterable iter X.env x=pure x:=by intro _; rfl) :
  PS X (.Assign [.Name z pz] (.ListComp elt [⟨.Name x px,iter,ifs,0⟩] scope pos) spos) (fun D σ H=>B4 wi (CQ 0) tt te (none :: ixc) (fun ys H'=>∀ p,H' p=none->D.nx (σ.set i (some (.ref p))) (upd H' p (.lst ys))) σ H) :=
 MC hN hi' hz hsw (CompFits1.of hf hcf hpc) hc hi (fun cl s H C fp pn=>Ft (AO (i:=0) hnd rfl (.inr (Dh (env:=X.env) hx)) (.inl (beq_self_eq_true x)))) ht he hs
end
def KeyAt (X:Cx) (σ:St) (key:Value) (H:Hp) (kf:Int->Int) (ns:List Int):Prop:=∀ (aa:LO) (s:Shared) (n:Int) (t:Tok),Inv X aa σ H s->n ∈ ns ->
 wpAny (model X.prog X.w) X.A.in1 (call key [.int n t]) (fun v s'=>(∃ t',v=.int (kf n) t')/\Inv X aa σ H s') (fun _ _=>False) s
def Ar (kf:Int->Int) (b x:Int):Int:=if kf x < kf b then x else b
theorem ME (a v:Value):argsOk "min" ⟨[a],[(Str.ofString "key", v)]⟩:=by unfold argsOk; kernel_rfl
theorem MF {p I S q:Addr} {ns:List Int} {kf:Int->Int} {R:Result->Shared->Prop} (hc:X.calm=true) (hq:SqL X.K H p (ns.map V.int)) (hk:KeyAt X σ (.ref q) H kf ns) (fI:Bf X aa H I) (fS:Bf X aa H S) (hSI:S ≠ I) (hpI:p ≠ I)
  (hR:∀ s' t,Inv X aa σ H s'->R (.ok (.ret (.int (ns.foldl (Ar kf) (ns.headD 0)) t))) s') :
  ∀ (k j:Nat) (s:Shared) (b:Int) (tb tk:Tok) (c:Nat),ns.length - j=k->1 <= j->j <= ns.length->Inv X aa σ H s->s.heap.IsListIter I p j->s.heap.get? S=some { cls:=.type "list", data:=.seq #[.int b tb,.int (kf b) tk] c }->b=(ns.take j).foldl (Ar kf) (ns.headD 0) ->
   codeAny (model X.prog X.w) X.A (.builtin "min.loop" ⟨[.ref I,.ref q,.ref S],[]⟩) R s:=by
 have az:(toString "min" ++ toString ".loop" : String) = "min.loop" := by decide
 intro k;induction k with
 | zero =>
  intro j s b tb tk c hk0 h1 hj Iv hit hS hb;have e:j=ns.length:=by omega
  obtain ⟨its,rv,pl,hz⟩:=Iv.list hq;have ay:its.length=ns.length:=by have:=rv.length; rw [length_map] at this; exact this.symm
  refine codeAny_builtin PySem.F.entry_min_loop ?_;rw [Around.under_plainId PySem.F.plain_min_loop _];show wpAny _ X.A.in1 (seqItems? (.ref S) >>= _) _ _ _;refine wpAny_bind (wpAny_seqItems hS rfl ?_);show wpAny _ X.A.in1 (tryCatch (pyNext (.ref I)) _ >>= _) _ _ _;refine wpAny_bind (wpAny_tryCatch (wpAny_pyNext_list_end (show X.A.in1.handled=none from Iv.ok.hd hc) hit pl.isList (by simp; omega) fun h' eb=>?_));have I1:Inv X aa σ H { s with heap:=h',toks:=s.toks }:=Iv.turned (it:=I) (fun b o hb e=>eb b o hb e) fI.1 fI.2.1 fI.2.2.2.1 fI.2.2.2.2.1 fI.2.2.2.2.2;have hS1:=eb S _ hSI hS;show wpAny _ X.A.in1 (updateSeq S (fun _=>#[]) >>= _) _ _ _;refine wpAny_bind (wpAny_updateSeq hS1 rfl (wpAny_bind (wpAny_letGo (wpAny_pure ?_))) sl2);have I2:Inv X aa σ H { s with heap:=h'.update S (Obj.mapSeq fun _=>(#[]:Array Value)),toks:=s.toks }:=Inv.turned (s:={ s with heap:=h',toks:=s.toks }) (it:=S) I1 (fun b o hb e=>(get?_update_other _ _ (Ne.symm hb)).trans e) fS.1 fS.2.1 fS.2.2.2.1 fS.2.2.2.2.1 fS.2.2.2.2.2;rw [e,take_length] at hb;subst hb;exact hR _ tb I2
 | succ k ih =>
  intro j s b tb tk c hk0 h1 hj Iv hit hS hb;obtain ⟨its,rv,pl,hz⟩:=Iv.list hq;have ay:its.length=ns.length:=by have:=rv.length; rw [length_map] at this; exact this.symm
  have hlt:j < ns.length:=by omega
  obtain ⟨n,t,hn,hvt⟩:∃ n t,ns[j]?=some n/\its[j]?=some (.int n t):=by
   obtain ⟨u,hu,t,ru⟩:=rv.get (i:=j) (x:=V.int ns[j]) (by rw [getElem?_map,List.getElem?_eq_getElem hlt]; rfl);exact ⟨ns[j],t,List.getElem?_eq_getElem hlt,by rw [hu,ru]⟩
  refine codeAny_builtin PySem.F.entry_min_loop ?_;rw [Around.under_plainId PySem.F.plain_min_loop _];show wpAny _ X.A.in1 (seqItems? (.ref S) >>= _) _ _ _;refine wpAny_bind (wpAny_seqItems hS rfl ?_);show wpAny _ X.A.in1 (tryCatch (pyNext (.ref I)) _ >>= _) _ _ _;refine wpAny_bind (wpAny_tryCatch (wpAny_pyNext_list_item hit pl.isList (x:=.int n t) (by simpa using hvt) fun h' hit' sb=>?_));have I1:Inv X aa σ H { s with heap:=h',toks:=s.toks }:=Iv.turned (it:=I) (fun b o hb e=>(sb.2 b hb).trans e) fI.1 fI.2.1 fI.2.2.2.1 fI.2.2.2.2.1 fI.2.2.2.2.2;have hS1:=(sb.2 S hSI).trans hS;obtain ⟨oI,hoI,hoc,hod⟩:=id hit'
  have I2:=I1.pinned (fp:=[I,S]) (fun b hb=>by
   simp only [mem_cons,not_mem_nil,or_false] at hb;rcases hb with rfl | rfl
   ·exact fI
   ·exact fS) (fun b hb=>by
   simp only [mem_cons,not_mem_nil,or_false] at hb;rcases hb with rfl | rfl
   ·exact ⟨oI,hoI,fun v z=>by rw [hod] at z; cases z⟩
   ·exact ⟨_,hS1,fun v z=>by cases z⟩)
  show wpAny _ X.A.in1 (tryCatch (holding [.int n t] (call (.ref q) [.int n t])) _ >>= _) _ _ _;refine wpAny_bind (wpAny_tryCatch (wpAny_holding (wpAny_mono (hk _ _ n t I2 (mem_of_getElem? hn)) (fun x s2 he=>?_) fun _ _ hF=>hF.elim)));obtain ⟨⟨t2,rfl⟩,I3⟩:=he;have gI:=(I3.pin (I,oI) (mem_append_right _ (mem_append_right _ (Am (mem_cons_self ..) hoI)))).1;have gS:=(I3.pin (S,_) (mem_append_right _ (mem_append_right _ (Am (mem_cons_of_mem _ (mem_cons_self ..)) hS1)))).1;have I4:=I3.unpinned;have cn:s2.heap.IsListIter I p (j + 1):=⟨oI,gI,hoc,hod⟩;have etk:ns.take (j + 1)=ns.take j++[n]:=by rw [take_add_one,hn]; rfl
  have eb':(ns.take (j + 1)).foldl (Ar kf) (ns.headD 0)=Ar kf b n:=by rw [etk,foldl_append,← hb]; rfl
  show wpAny _ X.A.in1 (tryCatch (holding [.int n t,.int (kf n) t2] (richCompare .Lt (.int (kf n) t2) (.int (kf b) tk) >>= _)) _ >>= _) _ _ _;refine wpAny_bind (wpAny_tryCatch (wpAny_holding (wpAny_bind (CmpOf.ints_lt (prog:=X.prog) (w:=X.w) (A:=X.A.in1) (P:=fun i v=>∃ t,v=.int ([kf n,kf b].getD i 0) t) (fun i=>[kf n,kf b].getD i 0) (fun i v h=>h) 0 1 _ _ _ _ _ ⟨t2,rfl⟩ ⟨tk,rfl⟩ ?_))));refine wpAny_bind (wpAny_holding (wpAny_truthy_bool ?_));refine wpAny_bind (wpAny_letGo (wpAny_pure ?_));show wpAny _ X.A.in1 (if decide (kf n < kf b)=true then _ else _) _ _ _;by_cases hlt':kf n < kf b
  ·rw [decide_eq_true hlt',if_pos rfl];refine wpAny_bind (wpAny_updateSeq gS rfl (wpAny_bind (wpAny_letGo ?_)) sl2);rw [az];obtain ⟨c2,hc2⟩:∃ c2,(s2.heap.update S (Obj.mapSeq fun _=>#[.int n t,.int (kf n) t2])).get? S=some { cls:=.type "list", data:=.seq #[.int n t,.int (kf n) t2] c2 }:=⟨_,PySem.IsL.update gS fun _=>#[.int n t,.int (kf n) t2]⟩;have I5:Inv X aa σ H { s2 with heap:=s2.heap.update S (Obj.mapSeq fun _=>#[.int n t,.int (kf n) t2]),toks:=s2.toks }:=I4.turned (it:=S) (fun b o hb e=>(get?_update_other _ _ (Ne.symm hb)).trans e) fS.1 fS.2.1 fS.2.2.2.1 fS.2.2.2.2.1 fS.2.2.2.2.2;refine wpAny_pure ⟨plainId_quiet PySem.F.plain_min_loop _,ih (j + 1) _ n t t2 c2 (by omega) (by omega) hlt I5 ⟨oI,(get?_update_other _ _ hSI).trans gI,hoc,hod⟩ hc2 ?_⟩;rw [eb'];unfold Ar;rw [if_pos hlt']
  ·rw [decide_eq_false hlt',if_neg Bool.false_ne_true];refine wpAny_bind (wpAny_letGo ?_);rw [az];refine wpAny_pure ⟨plainId_quiet PySem.F.plain_min_loop _,ih (j + 1) _ b tb tk c (by omega) (by omega) hlt I4 cn gS ?_⟩;rw [eb'];unfold Ar;rw [if_neg hlt']
def CS (kf:Int->Int) (b x:Int):Int:=if kf x > kf b then x else b
theorem MH (a v:Value):argsOk "max" ⟨[a],[(Str.ofString "key", v)]⟩:=by unfold argsOk; kernel_rfl
theorem MJ {p I S q:Addr} {ns:List Int} {kf:Int->Int} {R:Result->Shared->Prop} (hc:X.calm=true) (hq:SqL X.K H p (ns.map V.int)) (hk:KeyAt X σ (.ref q) H kf ns) (fI:Bf X aa H I) (fS:Bf X aa H S) (hSI:S ≠ I) (hpI:p ≠ I)
  (hR:∀ s' t,Inv X aa σ H s'->R (.ok (.ret (.int (ns.foldl (CS kf) (ns.headD 0)) t))) s') :
  ∀ (k j:Nat) (s:Shared) (b:Int) (tb tk:Tok) (c:Nat),ns.length - j=k->1 <= j->j <= ns.length->Inv X aa σ H s->s.heap.IsListIter I p j->s.heap.get? S=some { cls:=.type "list", data:=.seq #[.int b tb,.int (kf b) tk] c }->b=(ns.take j).foldl (CS kf) (ns.headD 0) ->
   codeAny (model X.prog X.w) X.A (.builtin "max.loop" ⟨[.ref I,.ref q,.ref S],[]⟩) R s:=by
 have az:(toString "max" ++ toString ".loop" : String) = "max.loop" := by decide
 intro k;induction k with
 | zero =>
  intro j s b tb tk c hk0 h1 hj Iv hit hS hb;have e:j=ns.length:=by omega
  obtain ⟨its,rv,pl,hz⟩:=Iv.list hq;have ay:its.length=ns.length:=by have:=rv.length; rw [length_map] at this; exact this.symm
  refine codeAny_builtin PySem.F.entry_max_loop ?_;rw [Around.under_plainId PySem.F.plain_max_loop _];show wpAny _ X.A.in1 (seqItems? (.ref S) >>= _) _ _ _;refine wpAny_bind (wpAny_seqItems hS rfl ?_);show wpAny _ X.A.in1 (tryCatch (pyNext (.ref I)) _ >>= _) _ _ _;refine wpAny_bind (wpAny_tryCatch (wpAny_pyNext_list_end (show X.A.in1.handled=none from Iv.ok.hd hc) hit pl.isList (by simp; omega) fun h' eb=>?_));have I1:Inv X aa σ H { s with heap:=h',toks:=s.toks }:=Iv.turned (it:=I) (fun b o hb e=>eb b o hb e) fI.1 fI.2.1 fI.2.2.2.1 fI.2.2.2.2.1 fI.2.2.2.2.2;have hS1:=eb S _ hSI hS;show wpAny _ X.A.in1 (updateSeq S (fun _=>#[]) >>= _) _ _ _;refine wpAny_bind (wpAny_updateSeq hS1 rfl (wpAny_bind (wpAny_letGo (wpAny_pure ?_))) sl2);have I2:Inv X aa σ H { s with heap:=h'.update S (Obj.mapSeq fun _=>(#[]:Array Value)),toks:=s.toks }:=Inv.turned (s:={ s with heap:=h',toks:=s.toks }) (it:=S) I1 (fun b o hb e=>(get?_update_other _ _ (Ne.symm hb)).trans e) fS.1 fS.2.1 fS.2.2.2.1 fS.2.2.2.2.1 fS.2.2.2.2.2;rw [e,take_length] at hb;subst hb;exact hR _ tb I2
 | succ k ih =>
  intro j s b tb tk c hk0 h1 hj Iv hit hS hb;obtain ⟨its,rv,pl,hz⟩:=Iv.list hq;have ay:its.length=ns.length:=by have:=rv.length; rw [length_map] at this; exact this.symm
  have hlt:j < ns.length:=by omega
  obtain ⟨n,t,hn,hvt⟩:∃ n t,ns[j]?=some n/\its[j]?=some (.int n t):=by
   obtain ⟨u,hu,t,ru⟩:=rv.get (i:=j) (x:=V.int ns[j]) (by rw [getElem?_map,List.getElem?_eq_getElem hlt]; rfl);exact ⟨ns[j],t,List.getElem?_eq_getElem hlt,by rw [hu,ru]⟩
  refine codeAny_builtin PySem.F.entry_max_loop ?_;rw [Around.under_plainId PySem.F.plain_max_loop _];show wpAny _ X.A.in1 (seqItems? (.ref S) >>= _) _ _ _;refine wpAny_bind (wpAny_seqItems hS rfl ?_);show wpAny _ X.A.in1 (tryCatch (pyNext (.ref I)) _ >>= _) _ _ _;refine wpAny_bind (wpAny_tryCatch (wpAny_pyNext_list_item hit pl.isList (x:=.int n t) (by simpa using hvt) fun h' hit' sb=>?_));have I1:Inv X aa σ H { s with heap:=h',toks:=s.toks }:=Iv.turned (it:=I) (fun b o hb e=>(sb.2 b hb).trans e) fI.1 fI.2.1 fI.2.2.2.1 fI.2.2.2.2.1 fI.2.2.2.2.2;have hS1:=(sb.2 S hSI).trans hS;obtain ⟨oI,hoI,hoc,hod⟩:=id hit'
  have I2:=I1.pinned (fp:=[I,S]) (fun b hb=>by
   simp only [mem_cons,not_mem_nil,or_false] at hb;rcases hb with rfl | rfl
   ·exact fI
   ·exact fS) (fun b hb=>by
   simp only [mem_cons,not_mem_nil,or_false] at hb;rcases hb with rfl | rfl
   ·exact ⟨oI,hoI,fun v z=>by rw [hod] at z; cases z⟩
   ·exact ⟨_,hS1,fun v z=>by cases z⟩)
  show wpAny _ X.A.in1 (tryCatch (holding [.int n t] (call (.ref q) [.int n t])) _ >>= _) _ _ _;refine wpAny_bind (wpAny_tryCatch (wpAny_holding (wpAny_mono (hk _ _ n t I2 (mem_of_getElem? hn)) (fun x s2 he=>?_) fun _ _ hF=>hF.elim)));obtain ⟨⟨t2,rfl⟩,I3⟩:=he;have gI:=(I3.pin (I,oI) (mem_append_right _ (mem_append_right _ (Am (mem_cons_self ..) hoI)))).1;have gS:=(I3.pin (S,_) (mem_append_right _ (mem_append_right _ (Am (mem_cons_of_mem _ (mem_cons_self ..)) hS1)))).1;have I4:=I3.unpinned;have cn:s2.heap.IsListIter I p (j + 1):=⟨oI,gI,hoc,hod⟩;have etk:ns.take (j + 1)=ns.take j++[n]:=by rw [take_add_one,hn]; rfl
  have eb':(ns.take (j + 1)).foldl (CS kf) (ns.headD 0)=CS kf b n:=by rw [etk,foldl_append,← hb]; rfl
  show wpAny _ X.A.in1 (tryCatch (holding [.int n t,.int (kf n) t2] (richCompare .Gt (.int (kf n) t2) (.int (kf b) tk) >>= _)) _ >>= _) _ _ _;refine wpAny_bind (wpAny_tryCatch (wpAny_holding (wpAny_bind (CmpOf.ints_gt (prog:=X.prog) (w:=X.w) (A:=X.A.in1) (P:=fun i v=>∃ t,v=.int ([kf n,kf b].getD i 0) t) (fun i=>[kf n,kf b].getD i 0) (fun i v h=>h) 0 1 _ _ _ _ _ ⟨t2,rfl⟩ ⟨tk,rfl⟩ ?_))));refine wpAny_bind (wpAny_holding (wpAny_truthy_bool ?_));refine wpAny_bind (wpAny_letGo (wpAny_pure ?_));show wpAny _ X.A.in1 (if decide (kf n > kf b)=true then _ else _) _ _ _;by_cases hlt':kf n > kf b
  ·rw [decide_eq_true hlt',if_pos rfl];refine wpAny_bind (wpAny_updateSeq gS rfl (wpAny_bind (wpAny_letGo ?_)) sl2);rw [az];obtain ⟨c2,hc2⟩:∃ c2,(s2.heap.update S (Obj.mapSeq fun _=>#[.int n t,.int (kf n) t2])).get? S=some { cls:=.type "list", data:=.seq #[.int n t,.int (kf n) t2] c2 }:=⟨_,PySem.IsL.update gS fun _=>#[.int n t,.int (kf n) t2]⟩;have I5:Inv X aa σ H { s2 with heap:=s2.heap.update S (Obj.mapSeq fun _=>#[.int n t,.int (kf n) t2]),toks:=s2.toks }:=I4.turned (it:=S) (fun b o hb e=>(get?_update_other _ _ (Ne.symm hb)).trans e) fS.1 fS.2.1 fS.2.2.2.1 fS.2.2.2.2.1 fS.2.2.2.2.2;refine wpAny_pure ⟨plainId_quiet PySem.F.plain_max_loop _,ih (j + 1) _ n t t2 c2 (by omega) (by omega) hlt I5 ⟨oI,(get?_update_other _ _ hSI).trans gI,hoc,hod⟩ hc2 ?_⟩;rw [eb'];unfold CS;rw [if_pos hlt']
  ·rw [decide_eq_false hlt',if_neg Bool.false_ne_true];refine wpAny_bind (wpAny_letGo ?_);rw [az];refine wpAny_pure ⟨plainId_quiet PySem.F.plain_max_loop _,ih (j + 1) _ b tb tk c (by omega) (by omega) hlt I4 cn gS ?_⟩;rw [eb'];unfold CS;rw [if_neg hlt']
theorem O2 {c:Expr} {tc:TE} {p kp:Pos} (hc:X.calm=true) (hg:Gl X "min") (hm:X.mg "min" = none) (he:PE X e te) (hcc:PE X c tc) (hs:starEach [e] X.env=(false,eval e X.env) :: starEach [] X.env:=by rfl)
  (hs2:backTo pos (starEach [e] X.env)=(false,eval e X.env) :: backTo pos (starEach [] X.env):=by rfl) :
  PE X (.Call (.Name "min" p) [e] [⟨some "key", c,kp⟩] pos) (fun σ H Q=>te σ H fun x H1=>tc σ H1 fun y H2=>∃ (a q:Addr) (ns:List Int) (kf:Int->Int),x=.ref a/\y=.ref q/\SqL X.K H2 a (ns.map V.int)/\ns ≠ []/\KeyAt X σ (.ref q) H2 kf ns/\Q (.int (ns.foldl (Ar kf) (ns.headD 0))) H2):=by
 intro aa s σ H Q I h;refine wpAny_Call_Name_kw (C8 (u:=.builtin "min") I hg hm boot_min ?_)
 let R3:V->V->Hp->Prop:=fun x y H2=>∃ (a q:Addr) (ns:List Int) (kf:Int->Int),x=.ref a/\y=.ref q/\SqL X.K H2 a (ns.map V.int)/\ns ≠ []/\KeyAt X σ (.ref q) H2 kf ns/\Q (.int (ns.foldl (Ar kf) (ns.headD 0))) H2
 refine callWith_kw (thn ((AA he AB hs:PA X [e] (A2 te En)) pos aa s σ H (fun vs H1=>match vs with | [x]=>tc σ H1 (fun y H2=>R3 x y H2) | _=>False) I h) fun us s1 ⟨vs,H1,I1,r1,q1⟩=>?_) hs2 (by rw [hs2]; rfl)
 match vs,r1,q1 with
 | [x],r1,q1 =>
  refine thn ((DR (nm:=some "key") (kpos:=kp) hcc Fj:PK X [⟨some "key", c,kp⟩] (A2 tc En)) pos aa s1 σ H1 (fun vs H2=>match vs with | [y]=>R3 x y H2 | _=>False) I1 q1) fun us2 s2 ⟨vs2,H2,I2,r2,q2⟩=>?_
  match vs2,r2,q2 with
  | [y],r2,q2 =>
   obtain ⟨a,q,ns,kf,rfl,rfl,hq,av,hk,k1⟩:=q2;obtain ⟨u,rfl,ru⟩:=Bb r1;cases ru;obtain ⟨ud,rfl,rud⟩:=Bb r2;cases rud;obtain ⟨its,rv,pl,hz⟩:=I2.list hq;have ay:its.length=ns.length:=by have:=rv.length; rw [length_map] at this; exact this.symm
   have h0:0 < ns.length:=length_pos_iff.mpr av;have hp:a < s2.heap.objs.size:=by obtain ⟨o,n,e,_⟩:=id pl; exact lt_size e
   show wpAny _ _ (call (.builtin "min") [.ref a] [(Str.ofString "key", .ref q)]) _ _ _;refine PyProof.Rows.kmk_tree PySem.F.kind_min PySem.F.plain_min PySem.F.entry_min (ME _ _) ?_;show wpAny _ X.A.in1 (Builtin.Builtins.bindParams "min" ["key", "default"] 0 ⟨[],[(Str.ofString "key", .ref q)]⟩ >>= _) _ _ _;refine wpAny_bind (wpAny_of_eq (show Builtin.Builtins.bindParams "min" ["key", "default"] 0 ⟨[],[(Str.ofString "key", Value.ref q)]⟩=pure [some (.ref q),none] from rfl) ?_);refine wpAny_bind (wpAny_pure ?_);refine wpAny_bind (wpAny_pyIter_list pl.isList ?_);refine wpAny_bind (wpAny_newList ?_ (Nat.zero_le _));have az:(toString "min" ++ toString ".loop" : String) = "min.loop" := by decide
   rw [az];have hS:(s2.heap.push { cls:=.type "list_iterator", data:=.fields #[.ref a,.int 0 0] }).objs.size=s2.heap.objs.size + 1:=size_push ..;have gI:=get?_push_of_some { cls:=.type "list", data:=.seq ([]:List Value).toArray } (get?_push_size s2.heap (o:={ cls:=.type "list_iterator", data:=.fields #[.ref a,.int 0 0] }) rfl);have gS:=get?_push_size (s2.heap.push { cls:=.type "list_iterator", data:=.fields #[.ref a,.int 0 0] }) (o:={ cls:=.type "list", data:=.seq ([]:List Value).toArray }) rfl;have fI:Bf X aa H2 s2.heap.objs.size:=I2.fpOk (Nat.le_refl _) (I2.hok.fresh (Nat.le_refl _));have fS:Bf X aa H2 (s2.heap.push { cls:=.type "list_iterator", data:=.fields #[.ref a,.int 0 0] }).objs.size:=by rw [hS]; exact I2.fpOk (Nat.le_succ _) (I2.hok.fresh (Nat.le_succ _))
   have hSI:(s2.heap.push { cls:=.type "list_iterator", data:=.fields #[.ref a,.int 0 0] }).objs.size ≠ s2.heap.objs.size:=by rw [hS]; exact Nat.succ_ne_self _
   have I3:Inv X aa σ H2 { s2 with heap:=(s2.heap.push { cls:=.type "list_iterator", data:=.fields #[.ref a,.int 0 0] }).push { cls:=.type "list", data:=.seq ([]:List Value).toArray },toks:=s2.toks }:=I2.kept fun b o e=>get?_push_of_some _ (get?_push_of_some _ e);have pl3:((s2.heap.push { cls:=.type "list_iterator", data:=.fields #[.ref a,.int 0 0] }).push { cls:=.type "list", data:=.seq ([]:List Value).toArray }).IsList a its.toArray:=pl.isList.at fun o e=>get?_push_of_some _ (get?_push_of_some _ e);refine wpAny_pure ⟨plainId_quiet PySem.F.plain_min_loop _,?_⟩;generalize (s2.heap.push { cls:=.type "list_iterator", data:=.fields #[.ref a,.int 0 0] }).objs.size=S at *;generalize (s2.heap.push { cls:=.type "list_iterator", data:=.fields #[.ref a,.int 0 0] }).push { cls:=.type "list", data:=.seq ([]:List Value).toArray }=h3 at *
   obtain ⟨n,t,hn,hvt⟩:∃ n t,ns[0]?=some n/\its[0]?=some (.int n t):=by
    obtain ⟨u,hu,t,ru⟩:=rv.get (i:=0) (x:=V.int ns[0]) (by rw [getElem?_map,List.getElem?_eq_getElem h0]; rfl);exact ⟨ns[0],t,List.getElem?_eq_getElem h0,by rw [hu,ru]⟩
   refine codeAny_builtin PySem.F.entry_min_loop ?_;rw [Around.under_plainId PySem.F.plain_min_loop _];show wpAny _ X.A.in1 (seqItems? (.ref S) >>= _) _ _ _;refine wpAny_bind (wpAny_seqItems gS rfl ?_);show wpAny _ X.A.in1 (tryCatch (pyNext (.ref s2.heap.objs.size)) _ >>= _) _ _ _;refine wpAny_bind (wpAny_tryCatch (wpAny_pyNext_list_item (i:=0) (l:=a) ⟨_,gI,rfl,rfl⟩ pl3 (x:=.int n t) (by simpa using hvt) fun h' hit' sb=>?_));have I4:Inv X aa σ H2 { s2 with heap:=h',toks:=s2.toks }:=Inv.turned (s:={ s2 with heap:=h3,toks:=s2.toks }) (it:=s2.heap.objs.size) I3 (fun b o hb e=>(sb.2 b hb).trans e) fI.1 fI.2.1 fI.2.2.2.1 fI.2.2.2.2.1 fI.2.2.2.2.2;have gS4:=(sb.2 S hSI).trans gS;obtain ⟨oI,hoI,hoc,hod⟩:=id hit'
   have I5:=I4.pinned (fp:=[s2.heap.objs.size,S]) (fun b hb=>by
    simp only [mem_cons,not_mem_nil,or_false] at hb;rcases hb with rfl | rfl
    ·exact fI
    ·exact fS) (fun b hb=>by
    simp only [mem_cons,not_mem_nil,or_false] at hb;rcases hb with rfl | rfl
    ·exact ⟨oI,hoI,fun v z=>by rw [hod] at z; cases z⟩
    ·exact ⟨_,gS4,fun v z=>by cases z⟩)
   show wpAny _ X.A.in1 (tryCatch (holding [.int n t] (call (.ref q) [.int n t])) _ >>= _) _ _ _;refine wpAny_bind (wpAny_tryCatch (wpAny_holding (wpAny_mono (hk _ _ n t I5 (mem_of_getElem? hn)) (fun x s6 he=>?_) fun _ _ hF=>hF.elim)));obtain ⟨⟨t2,rfl⟩,I6⟩:=he;have gI6:=(I6.pin (s2.heap.objs.size,oI) (mem_append_right _ (mem_append_right _ (Am (mem_cons_self ..) hoI)))).1;have gS6:=(I6.pin (S,_) (mem_append_right _ (mem_append_right _ (Am (mem_cons_of_mem _ (mem_cons_self ..)) gS4)))).1;have I7:=I6.unpinned;show wpAny _ X.A.in1 (updateSeq S (fun _=>#[.int n t,.int (kf n) t2]) >>= _) _ _ _;refine wpAny_bind (wpAny_updateSeq gS6 rfl ?_ (by show 0 <= sizeLine; decide));rw [az];obtain ⟨c2,hc2⟩:∃ c2,(s6.heap.update S (Obj.mapSeq fun _=>#[.int n t,.int (kf n) t2])).get? S=some { cls:=.type "list", data:=.seq #[.int n t,.int (kf n) t2] c2 }:=⟨_,PySem.IsL.update gS6 fun _=>#[.int n t,.int (kf n) t2]⟩;have I8:Inv X aa σ H2 { s6 with heap:=s6.heap.update S (Obj.mapSeq fun _=>#[.int n t,.int (kf n) t2]),toks:=s6.toks }:=I7.turned (it:=S) (fun b o hb e=>(get?_update_other _ _ (Ne.symm hb)).trans e) fS.1 fS.2.1 fS.2.2.2.1 fS.2.2.2.2.1 fS.2.2.2.2.2;refine wpAny_pure ⟨plainId_quiet PySem.F.plain_min_loop _,MF hc hq hk fI fS hSI (Nat.ne_of_lt hp) (fun s' t' I'=>⟨.int _,H2,I',⟨t',rfl⟩,k1⟩) _ 1 _ n t t2 c2 rfl (Nat.le_refl _) h0 I8 ⟨oI,(get?_update_other _ _ hSI).trans gI6,hoc,hod⟩ hc2 ?_⟩
   have e0:ns.headD 0=n:=by
    cases ns with
    | nil=>cases hn
    | cons z r=>exact Option.some.inj hn
   rw [show ns.take 1=[n] by rw [show (1:Nat)=0 + 1 from rfl,take_add_one,hn]; rfl,e0];show n=Ar kf n n;unfold Ar;rw [if_neg (by omega)]
theorem O3 {c:Expr} {tc:TE} {p kp:Pos} (hc:X.calm=true) (hg:Gl X "max") (hm:X.mg "max" = none) (he:PE X e te) (hcc:PE X c tc) (hs:starEach [e] X.env=(false,eval e X.env) :: starEach [] X.env:=by rfl)
  (hs2:backTo pos (starEach [e] X.env)=(false,eval e X.env) :: backTo pos (starEach [] X.env):=by rfl) :
  PE X (.Call (.Name "max" p) [e] [⟨some "key", c,kp⟩] pos) (fun σ H Q=>te σ H fun x H1=>tc σ H1 fun y H2=>∃ (a q:Addr) (ns:List Int) (kf:Int->Int),x=.ref a/\y=.ref q/\SqL X.K H2 a (ns.map V.int)/\ns ≠ []/\KeyAt X σ (.ref q) H2 kf ns/\Q (.int (ns.foldl (CS kf) (ns.headD 0))) H2):=by
 intro aa s σ H Q I h;refine wpAny_Call_Name_kw (C8 (u:=.builtin "max") I hg hm boot_max ?_)
 let R3:V->V->Hp->Prop:=fun x y H2=>∃ (a q:Addr) (ns:List Int) (kf:Int->Int),x=.ref a/\y=.ref q/\SqL X.K H2 a (ns.map V.int)/\ns ≠ []/\KeyAt X σ (.ref q) H2 kf ns/\Q (.int (ns.foldl (CS kf) (ns.headD 0))) H2
 refine callWith_kw (thn ((AA he AB hs:PA X [e] (A2 te En)) pos aa s σ H (fun vs H1=>match vs with | [x]=>tc σ H1 (fun y H2=>R3 x y H2) | _=>False) I h) fun us s1 ⟨vs,H1,I1,r1,q1⟩=>?_) hs2 (by rw [hs2]; rfl)
 match vs,r1,q1 with
 | [x],r1,q1 =>
  refine thn ((DR (nm:=some "key") (kpos:=kp) hcc Fj:PK X [⟨some "key", c,kp⟩] (A2 tc En)) pos aa s1 σ H1 (fun vs H2=>match vs with | [y]=>R3 x y H2 | _=>False) I1 q1) fun us2 s2 ⟨vs2,H2,I2,r2,q2⟩=>?_
  match vs2,r2,q2 with
  | [y],r2,q2 =>
   obtain ⟨a,q,ns,kf,rfl,rfl,hq,av,hk,k1⟩:=q2;obtain ⟨u,rfl,ru⟩:=Bb r1;cases ru;obtain ⟨ud,rfl,rud⟩:=Bb r2;cases rud;obtain ⟨its,rv,pl,hz⟩:=I2.list hq;have ay:its.length=ns.length:=by have:=rv.length; rw [length_map] at this; exact this.symm
   have h0:0 < ns.length:=length_pos_iff.mpr av;have hp:a < s2.heap.objs.size:=by obtain ⟨o,n,e,_⟩:=id pl; exact lt_size e
   show wpAny _ _ (call (.builtin "max") [.ref a] [(Str.ofString "key", .ref q)]) _ _ _;refine PyProof.Rows.kmk_tree PySem.F.kind_max PySem.F.plain_max PySem.F.entry_max (MH _ _) ?_;show wpAny _ X.A.in1 (Builtin.Builtins.bindParams "max" ["key", "default"] 0 ⟨[],[(Str.ofString "key", .ref q)]⟩ >>= _) _ _ _;refine wpAny_bind (wpAny_of_eq (show Builtin.Builtins.bindParams "max" ["key", "default"] 0 ⟨[],[(Str.ofString "key", Value.ref q)]⟩=pure [some (.ref q),none] from rfl) ?_);refine wpAny_bind (wpAny_pure ?_);refine wpAny_bind (wpAny_pyIter_list pl.isList ?_);refine wpAny_bind (wpAny_newList ?_ (Nat.zero_le _));have az:(toString "max" ++ toString ".loop" : String) = "max.loop" := by decide
   rw [az];have hS:(s2.heap.push { cls:=.type "list_iterator", data:=.fields #[.ref a,.int 0 0] }).objs.size=s2.heap.objs.size + 1:=size_push ..;have gI:=get?_push_of_some { cls:=.type "list", data:=.seq ([]:List Value).toArray } (get?_push_size s2.heap (o:={ cls:=.type "list_iterator", data:=.fields #[.ref a,.int 0 0] }) rfl);have gS:=get?_push_size (s2.heap.push { cls:=.type "list_iterator", data:=.fields #[.ref a,.int 0 0] }) (o:={ cls:=.type "list", data:=.seq ([]:List Value).toArray }) rfl;have fI:Bf X aa H2 s2.heap.objs.size:=I2.fpOk (Nat.le_refl _) (I2.hok.fresh (Nat.le_refl _));have fS:Bf X aa H2 (s2.heap.push { cls:=.type "list_iterator", data:=.fields #[.ref a,.int 0 0] }).objs.size:=by rw [hS]; exact I2.fpOk (Nat.le_succ _) (I2.hok.fresh (Nat.le_succ _))
   have hSI:(s2.heap.push { cls:=.type "list_iterator", data:=.fields #[.ref a,.int 0 0] }).objs.size ≠ s2.heap.objs.size:=by rw [hS]; exact Nat.succ_ne_self _
   have I3:Inv X aa σ H2 { s2 with heap:=(s2.heap.push { cls:=.type "list_iterator", data:=.fields #[.ref a,.int 0 0] }).push { cls:=.type "list", data:=.seq ([]:List Value).toArray },toks:=s2.toks }:=I2.kept fun b o e=>get?_push_of_some _ (get?_push_of_some _ e);have pl3:((s2.heap.push { cls:=.type "list_iterator", data:=.fields #[.ref a,.int 0 0] }).push { cls:=.type "list", data:=.seq ([]:List Value).toArray }).IsList a its.toArray:=pl.isList.at fun o e=>get?_push_of_some _ (get?_push_of_some _ e);refine wpAny_pure ⟨plainId_quiet PySem.F.plain_max_loop _,?_⟩;generalize (s2.heap.push { cls:=.type "list_iterator", data:=.fields #[.ref a,.int 0 0] }).objs.size=S at *;generalize (s2.heap.push { cls:=.type "list_iterator", data:=.fields #[.ref a,.int 0 0] }).push { cls:=.type "list", data:=.seq ([]:List Value).toArray }=h3 at *
   obtain ⟨n,t,hn,hvt⟩:∃ n t,ns[0]?=some n/\its[0]?=some (.int n t):=by
    obtain ⟨u,hu,t,ru⟩:=rv.get (i:=0) (x:=V.int ns[0]) (by rw [getElem?_map,List.getElem?_eq_getElem h0]; rfl);exact ⟨ns[0],t,List.getElem?_eq_getElem h0,by rw [hu,ru]⟩
   refine codeAny_builtin PySem.F.entry_max_loop ?_;rw [Around.under_plainId PySem.F.plain_max_loop _];show wpAny _ X.A.in1 (seqItems? (.ref S) >>= _) _ _ _;refine wpAny_bind (wpAny_seqItems gS rfl ?_);show wpAny _ X.A.in1 (tryCatch (pyNext (.ref s2.heap.objs.size)) _ >>= _) _ _ _;refine wpAny_bind (wpAny_tryCatch (wpAny_pyNext_list_item (i:=0) (l:=a) ⟨_,gI,rfl,rfl⟩ pl3 (x:=.int n t) (by simpa using hvt) fun h' hit' sb=>?_));have I4:Inv X aa σ H2 { s2 with heap:=h',toks:=s2.toks }:=Inv.turned (s:={ s2 with heap:=h3,toks:=s2.toks }) (it:=s2.heap.objs.size) I3 (fun b o hb e=>(sb.2 b hb).trans e) fI.1 fI.2.1 fI.2.2.2.1 fI.2.2.2.2.1 fI.2.2.2.2.2;have gS4:=(sb.2 S hSI).trans gS;obtain ⟨oI,hoI,hoc,hod⟩:=id hit'
   have I5:=I4.pinned (fp:=[s2.heap.objs.size,S]) (fun b hb=>by
    simp only [mem_cons,not_mem_nil,or_false] at hb;rcases hb with rfl | rfl
    ·exact fI
    ·exact fS) (fun b hb=>by
    simp only [mem_cons,not_mem_nil,or_false] at hb;rcases hb with rfl | rfl
    ·exact ⟨oI,hoI,fun v z=>by rw [hod] at z; cases z⟩
    ·exact ⟨_,gS4,fun v z=>by cases z⟩)
   show wpAny _ X.A.in1 (tryCatch (holding [.int n t] (call (.ref q) [.int n t])) _ >>= _) _ _ _;refine wpAny_bind (wpAny_tryCatch (wpAny_holding (wpAny_mono (hk _ _ n t I5 (mem_of_getElem? hn)) (fun x s6 he=>?_) fun _ _ hF=>hF.elim)));obtain ⟨⟨t2,rfl⟩,I6⟩:=he;have gI6:=(I6.pin (s2.heap.objs.size,oI) (mem_append_right _ (mem_append_right _ (Am (mem_cons_self ..) hoI)))).1;have gS6:=(I6.pin (S,_) (mem_append_right _ (mem_append_right _ (Am (mem_cons_of_mem _ (mem_cons_self ..)) gS4)))).1;have I7:=I6.unpinned;show wpAny _ X.A.in1 (updateSeq S (fun _=>#[.int n t,.int (kf n) t2]) >>= _) _ _ _;refine wpAny_bind (wpAny_updateSeq gS6 rfl ?_ (by show 0 <= sizeLine; decide));rw [az];obtain ⟨c2,hc2⟩:∃ c2,(s6.heap.update S (Obj.mapSeq fun _=>#[.int n t,.int (kf n) t2])).get? S=some { cls:=.type "list", data:=.seq #[.int n t,.int (kf n) t2] c2 }:=⟨_,PySem.IsL.update gS6 fun _=>#[.int n t,.int (kf n) t2]⟩;have I8:Inv X aa σ H2 { s6 with heap:=s6.heap.update S (Obj.mapSeq fun _=>#[.int n t,.int (kf n) t2]),toks:=s6.toks }:=I7.turned (it:=S) (fun b o hb e=>(get?_update_other _ _ (Ne.symm hb)).trans e) fS.1 fS.2.1 fS.2.2.2.1 fS.2.2.2.2.1 fS.2.2.2.2.2;refine wpAny_pure ⟨plainId_quiet PySem.F.plain_max_loop _,MJ hc hq hk fI fS hSI (Nat.ne_of_lt hp) (fun s' t' I'=>⟨.int _,H2,I',⟨t',rfl⟩,k1⟩) _ 1 _ n t t2 c2 rfl (Nat.le_refl _) h0 I8 ⟨oI,(get?_update_other _ _ hSI).trans gI6,hoc,hod⟩ hc2 ?_⟩
   have e0:ns.headD 0=n:=by
    cases ns with
    | nil=>cases hn
    | cons z r=>exact Option.some.inj hn
   rw [show ns.take 1=[n] by rw [show (1:Nat)=0 + 1 from rfl,take_add_one,hn]; rfl,e0];show n=CS kf n n;unfold CS;rw [if_neg (by omega)]
theorem KeyAt.fn {kf:Int->Int} {ns:List Int} {k:Nat} {fd:FuncData} {a:Str} {sp:Sp} (F:Ae X.prog X.w X.K X.mg X.base CX0 k f fd [a] sp) (hr:Room (k + 1) X.A) (hb:Binds X.K fd [a] []) (h:∀ n ∈ ns,∀ Q:VK,Q (.int (kf n)) H->sp [.int n] H Q E0):KeyAt X σ (.ref f) H kf ns:=by
 intro aa s n t I hn;refine wpAny_call (codeAny_mono (F.run X.A.in1 X.stack s H ⟨[.int n t],[]⟩ [.int n t] [.int n] (fun v H'=>v=.int (kf n)/\H'=H) E0 hr.in1 I.env0.in1 (hb s [.int n t] I.kIn rfl) (.cons ⟨t,rfl⟩ .nil) (h n hn _ ⟨rfl,rfl⟩)) fun r' s' hq=>?_);cases r' with
 | error e=>exact hq.elim
 | ok fl =>
  cases fl with
  | ret u =>
   obtain ⟨v,H',I',rv,ev,eH⟩:=I.after hq;subst ev;subst eH;obtain ⟨t',rfl⟩:=rv;exact ⟨⟨t',rfl⟩,I'⟩
  | next=>exact False.elim hq
  | brk=>exact False.elim hq
  | cont=>exact False.elim hq
section
variable {qual name:Str} {scope:Scope} {c':Addr} {cd:Value} {cl:List (Str × Addr)} {outer:List Env} {E:XK} {v:V}
theorem JN {h1:Heap} {m0:SV} {tk:Nat} (hk0:scope.kind=.function) (hd:A.handled=none) (e0:Env0 P w K mg base A outer s H) (C:LJ N scope cl σ H s.heap) (hns:h1.Ns s.heap.objs.size m0) (hk:∀ b o,s.heap.get? b=some o->h1.get? b=some o)
  (hx:scope.names.lookup x=some .local) (hm:m0 x=some u) (r:RelV v u):Inv (JI P w K mg base (x :: N) qual scope f cd cl A outer s H E) [] (some v :: σ) H { s with heap:=h1,toks:=tk }:=by
 have noA:∀ b:Addr,b ∉ (JI P w K mg base (x :: N) qual scope f cd cl A outer s H E).ex:=fun b z=>absurd (show b ∈ ([]:List Addr) from z) (by simp);have cellK:∀ {c:Addr} {v:Option Value},s.heap.IsCell c v->h1.IsCell c v:=fun {c v} ⟨o,ho,hd⟩=>⟨o,hk _ _ ho,hd⟩
 refine ⟨⟨e0.mod,hk0,rfl,rfl,Nat.le_refl _,C.inj,C.has,fun y c z _=>(by cases (show false=true from z)),fun _=>hd,Around.frames_deeper e0.frames,.inr ⟨rfl,rfl⟩,fun b z=>absurd z (noA b),e0.bs,e0.bsz,fun b _ _=>noA b,fun b z=>absurd z (noA b),e0.funs,e0.frf⟩,
  rfl,e0.bare,Un.kept hk,⟨m0,hns,fun i y v' g1 g2 g3=>?_⟩,fun y c h=>?_,e0.hok.fresh (Nat.le_refl _),fun y c h=>(C.cell y c h).2,fun p hp=>absurd (show p ∈ ([]:LO) from hp) (by simp),e0.hok.kept hk,by show (some v :: σ).length=(x :: N).length; rw [length_cons,length_cons,C.len]⟩
 ·cases i with
  | zero =>
   have e1:x=y:=Option.some.inj g1;have e2:v=v':=Option.some.inj (Option.some.inj g2);subst e1 e2;exact ⟨u,r,.inl ⟨hx,hm⟩⟩
  | succ i =>
   obtain ⟨k,u',c,r',e,z⟩:=C.val i y v' g1 g2;exact ⟨u',r',.inr ⟨.inr k,c,e,cellK z⟩⟩
 ·obtain ⟨⟨v,z⟩,_⟩:=C.cell y c h;exact ⟨v,cellK z⟩
theorem ML {k:Nat} {params:Arguments} {body:Expr} {pm ctv:Value} {Q:VK} {tb:TE} (hr:Room k A) (e0:Env0 P w K mg base A outer s H) (C:LJ N scope cl σ H s.heap)
  (ho:s.heap.get? f=some (W.kla_obj name qual params body scope cl pm c' ctv)) (hcd:s.heap.CodeRec (.ref c') qual) (bw:bindArgs (W.kla_fn name qual params body scope cl pm (.ref c') ctv) ⟨[u],[]⟩=pure [(x,u)])
  (hco:scope.isCoroutine=false) (cp:scope.isGenerator=false) (hk:scope.kind=.function) (be:∀ x ∈ scope.names,x.2 ≠ .cell) (hx:scope.names.lookup x=some .local) (r:RelV v u)
  (hb:PE (JI P w K mg base (x :: N) qual scope f (.ref c') cl A outer s H E) body tb) (h:tb (some v :: σ) H Q):codeAny (model P w) A (.call (.ref f) ⟨[u],[]⟩) (CR (CXr P w) outer P w H s Q E) s:=by
 have lim:s.heap.NoLimit:=e0.mod.nolimit.keeps fun b o e=>(e0.bs b o e).1;refine W.kla_callFunE hr.depth ho rfl hco cp rfl hcd ?_;rw [bw];refine wpAny_pure (wpAny_newFunctionEnv be (fun y hy=>by rw [mem_singleton.mp hy]; exact hx) (fun h₁ hns hsb=>⟨lim.fresh _ hsb,?_⟩) hk);show codeAny _ _ (.expr body (W.envX qual scope s.heap.objs.size f (.ref c') cl)) _ _;have hk₁:∀ b o,s.heap.get? b=some o->h₁.get? b=some o:=fun b o e=>hsb.extBut b o (Nat.ne_of_lt (lt_size e)) (get?_push_of_some _ e);have I:Inv (JI P w K mg base (x :: N) qual scope f (.ref c') cl A outer s H E) [] (some v :: σ) H _:=JN (tk:=s.toks + ([(x,u)]:List (Str × Value)).length) hk hr.hd e0 C hns hk₁ hx (by simp [lookup_cons]) r;exact W.kla_codeExpr (wpAny_mono (hb [] _ (some v :: σ) H Q I h) (fun v s' ⟨x,H',J,rv,q⟩=>⟨x,H',J.os,J.bare,J.base,J.hok,rv,q⟩) fun e s' z=>z)
end
theorem KeyAt.lam {kf:Int->Int} {ns:List Int} {k:Nat} {Nl:List Str} {name qual:Str} {scope:Scope} {cl:List (Str × Addr)} {σl:St} {c':Addr} {params:Arguments} {body:Expr} {pm ctv:Value} {tb:TE}
  (hr:Room (k + 1) X.A) (hC:∀ aa s,Inv X aa σ H s->LJ Nl scope cl σl H s.heap) (hf:H f=some (FnO f (W.kla_obj name qual params body scope cl pm c' ctv))) (hc:H c'=some (HG c' qual))
  (bw:∀ u,bindArgs (W.kla_fn name qual params body scope cl pm (.ref c') ctv) ⟨[u],[]⟩=pure [(x,u)])
  (hco:scope.isCoroutine=false) (cp:scope.isGenerator=false) (hk:scope.kind=.function) (be:∀ x ∈ scope.names,x.2 ≠ .cell) (hx:scope.names.lookup x=some .local)
  (hb:∀ s,PE (JI X.prog X.w X.K X.mg X.base (x :: Nl) qual scope f (.ref c') cl X.A.in1 X.stack s H E0) body tb) (h:∀ n ∈ ns,∀ Q:VK,Q (.int (kf n)) H->tb (some (.int n) :: σl) H Q):KeyAt X σ (.ref f) H kf ns:=by
 intro aa s n t I hn;obtain ⟨ho,_,_⟩:=I.hok _ _ hf;obtain ⟨hcd,_,_⟩:=I.hok _ _ hc;refine wpAny_call (codeAny_mono (ML (E:=E0) (Q:=fun v H'=>v=.int (kf n)/\H'=H) (v:=.int n) hr.in1 I.env0.in1 (hC _ _ I) ho hcd (bw _) hco cp hk be hx ⟨t,rfl⟩ (hb s) (h n hn _ ⟨rfl,rfl⟩)) fun r' s' hq=>?_);cases r' with
 | error e =>
  obtain ⟨_,_,_,_,_,_,q⟩:=hq;exact q.elim
 | ok fl =>
  cases fl with
  | ret u =>
   obtain ⟨v,H',I',rv,ev,eH⟩:=I.after hq;subst ev;subst eH;obtain ⟨t',rfl⟩:=rv;exact ⟨⟨t',rfl⟩,I'⟩
  | next=>exact False.elim hq
  | brk=>exact False.elim hq
  | cont=>exact False.elim hq
theorem NY {prog:Program} {Q:VS} {x y:Int} {t u:Tok} (h:Q (.bool (decide (x < y))) s):wpAny (model prog w) A (richCompare .Lt (.int x t) (.int y u)) Q E s :=
 CmpOf.ints_lt (prog:=prog) (w:=w) (A:=A) (P:=fun i v=>∃ t,v=.int ([x,y].getD i 0) t) (fun i=>[x,y].getD i 0) (fun i v h=>h) 0 1 _ _ _ _ _ ⟨t,rfl⟩ ⟨u,rfl⟩ h
theorem MM (l b:Addr) (x1 y1 x2 y2:Int) (t1 u1 t2 u2:Tok) (n n2:Nat) (dd dd2:Option Addr) (sl sl2:Array (Option Value)) :
  Meets (Builtin.«tuple.__lt__» ⟨[.ref l,.ref b],[]⟩)
   (fun A R s=>s.heap.get? l=some { cls:=.type "tuple", dict:=dd,data:=.seq #[.int x1 t1,.int y1 u1] n,slots:=sl }/\s.heap.get? b=some { cls:=.type "tuple", dict:=dd2,data:=.seq #[.int x2 t2,.int y2 u2] n2,slots:=sl2 } /\
    R (.ok (.ret (.bool (decide (x1 < x2\/x1=x2/\y1 < y2))))) s) :=
 .of_wp fun prog w A R s h=>by
  obtain ⟨hp,g,d,tk,os⟩:=s; obtain ⟨hl,hb,h⟩:=h;have f2:=AutoSeq1.sub_tuple_tuple
  wp_walk using wpAny_loadPart' hl,wpAny_loadPart' hb,wpAny_forIn_list _ (fun rest b s'=>b.1=none/\s'=⟨hp,g,d,tk,os⟩/\(rest=[(.int x1 t1,.int x2 t2),(.int y1 u1,.int y2 u2)]\/(x1=x2/\rest=[(.int y1 u1,.int y2 u2)])\/(x1=x2/\y1=y2/\rest=[]))) _
  case turn =>
   rintro ⟨y,x⟩ rest b s' ⟨hb',rfl,hz⟩;rcases hz with hz | ⟨e1,hz⟩ | ⟨_,_,hz⟩
   ·cases hz;refine wpAny_bind (wpAny_eqBool_int ?_);cases hx:(x1 == x2) with
    | true =>
     wp_walk
     exact ⟨rfl,rfl,.inr (.inl ⟨by simpa using hx,rfl⟩)⟩
    | false =>
     wp_walk using NY
     have av:¬ x1=x2:=by simpa using hx
     have e:decide (x1 < x2\/x1=x2/\y1 < y2)=decide (x1 < x2):=decide_eq_decide.mpr (by omega);rw [e] at h;exact ⟨_,rfl,h⟩
   ·cases hz;refine wpAny_bind (wpAny_eqBool_int ?_);cases hx:(y1 == y2) with
    | true =>
     wp_walk
     exact ⟨rfl,rfl,.inr (.inr ⟨e1,by simpa using hx,rfl⟩)⟩
    | false =>
     wp_walk using NY
     have e:decide (x1 < x2\/x1=x2/\y1 < y2)=decide (y1 < y2):=decide_eq_decide.mpr (by omega);rw [e] at h;exact ⟨_,rfl,h⟩
   ·cases hz
  case fin =>
   rintro ⟨b1,b2⟩ s' ⟨hb',rfl,hz⟩;simp only at hb';subst hb';rcases hz with hz | ⟨e1,hz⟩ | ⟨e1,e2,_⟩
   ·cases hz
   ·cases hz
   ·wp_walk
    have e:decide (x1 < x2\/x1=x2/\y1 < y2)=false:=decide_eq_false (by omega);rw [e] at h;exact ⟨_,rfl,by simpa [Builtin.Tuple.tupleCompareSizes] using h⟩
  case h=>exact ⟨rfl,rfl,.inl rfl⟩
theorem QV {prog:Program} {Q:VS} {l b:Addr} {x1 y1 x2 y2:Int} {t1 u1 t2 u2:Tok} (hl:s.heap.IsTuple l #[.int x1 t1,.int y1 u1]) (hb:s.heap.IsTuple b #[.int x2 t2,.int y2 u2]) (hu:A.units < cLine)
  (h:Q (.bool (decide (x1 < x2\/x1=x2/\y1 < y2))) s):wpAny (model prog w) A (richCompare .Lt (.ref l) (.ref b)) Q E s:=by
 obtain ⟨⟨cls,dd,data,sl⟩,ho,hc,n,hd⟩:=id hl;obtain ⟨⟨cls2,dd2,data2,sl2⟩,ho2,hc2,n2,hd2⟩:=id hb;simp only at hc hd hc2 hd2;subst hc hd hc2 hd2
 exact richCompare_meets_room (op:=.Lt) ⟨_,ho,rfl⟩ ⟨_,ho2,rfl⟩ F.slot_tuple_lt F.entry_tuple_lt (F.args_tuple_lt_2 _ _) (MM l b x1 y1 x2 y2 t1 u1 t2 u2 n n2 dd dd2 sl sl2)
  ⟨ho,ho2,show Value.bool (decide (x1 < x2\/x1=x2/\y1 < y2)) ≠ Value.notImplemented/\Q (.bool (decide (x1 < x2\/x1=x2/\y1 < y2))) s from ⟨(fun x=>nomatch x),h⟩⟩ hu
def ltP (p q:Int × Int):Prop:=p.1 < q.1\/p.1=q.1/\p.2 < q.2
instance (p q:Int × Int):Decidable (ltP p q):=by unfold ltP; exact inferInstance
def stP (b x:Int × Int):Int × Int:=if ltP x b then x else b
theorem Dm {α β:Type} {F:α->β->Prop}:∀ {xs:List α} {ys:List β} {i:Nat} {a:α},Paired F xs ys->xs[i]?=some a->∃ b,ys[i]?=some b/\F a b
 | _,_,_,_,.nil,e=>by simp at e
 | _,_,0,_,.cons r _,e=>by simp at e; subst e; exact ⟨_,rfl,r⟩
 | _,_,i + 1,_,.cons _ r,e=>by simp at e; obtain ⟨b,h1,h2⟩:=Dm r e; exact ⟨b,by simpa using h1,h2⟩
def Br (H:Hp) (as:List Addr) (ps:List (Int × Int)):Prop:=Paired (fun a p=>H a=some (.tup [.int p.1,.int p.2])) as ps
theorem HK (I:Inv X aa σ H s) {p:Int × Int} (h:H a=some (.tup [.int p.1,.int p.2])):∃ t u,s.heap.IsTuple a #[.int p.1 t,.int p.2 u]:=by
 obtain ⟨its,rv,ht,_⟩:=I.tuple (SqT.of (K:=X.K) h);cases rv with
 | cons r1 r2 =>
  cases r2 with
  | cons r3 r4 =>
   cases r4;obtain ⟨t,rfl⟩:=r1;obtain ⟨u,rfl⟩:=r3;exact ⟨t,u,ht⟩
theorem MO {p I S:Addr} {as:List Addr} {ps:List (Int × Int)} {R:Result->Shared->Prop} (hc:X.calm=true) (hu:X.A.in1.units < cLine) (hq:SqL X.K H p (as.map V.ref)) (hps:Br H as ps) (fI:Bf X aa H I) (fS:Bf X aa H S) (hSI:S ≠ I)
  (hR:∀ s' b,Inv X aa σ H s'->H b=some (.tup [.int (ps.foldl stP (ps.headD (0,0))).1,.int (ps.foldl stP (ps.headD (0,0))).2])->R (.ok (.ret (.ref b))) s') :
  ∀ (k j:Nat) (s:Shared) (b:Addr) (m:Int × Int) (c:Nat),as.length - j=k->1 <= j->j <= as.length->Inv X aa σ H s->s.heap.IsListIter I p j->s.heap.get? S=some { cls:=.type "list", data:=.seq #[.ref b,.ref b] c }->H b=some (.tup [.int m.1,.int m.2])->m=(ps.take j).foldl stP (ps.headD (0,0)) ->
   codeAny (model X.prog X.w) X.A (.builtin "min.loop" ⟨[.ref I,.none,.ref S],[]⟩) R s:=by
 have az:(toString "min" ++ toString ".loop" : String) = "min.loop" := by decide
 have hpl:as.length=ps.length:=hps.length;intro k;induction k with
 | zero =>
  intro j s b m c hk0 h1 hj Iv hit hS ai hb;have e:j=as.length:=by omega
  obtain ⟨its,rv,pl,hz⟩:=Iv.list hq;have ay:its.length=as.length:=by have:=rv.length; rw [length_map] at this; exact this.symm
  refine codeAny_builtin PySem.F.entry_min_loop ?_;rw [Around.under_plainId PySem.F.plain_min_loop _];show wpAny _ X.A.in1 (seqItems? (.ref S) >>= _) _ _ _;refine wpAny_bind (wpAny_seqItems hS rfl ?_);show wpAny _ X.A.in1 (tryCatch (pyNext (.ref I)) _ >>= _) _ _ _;refine wpAny_bind (wpAny_tryCatch (wpAny_pyNext_list_end (show X.A.in1.handled=none from Iv.ok.hd hc) hit pl.isList (by simp; omega) fun h' eb=>?_));have I1:Inv X aa σ H { s with heap:=h',toks:=s.toks }:=Iv.turned (it:=I) (fun b o hb e=>eb b o hb e) fI.1 fI.2.1 fI.2.2.2.1 fI.2.2.2.2.1 fI.2.2.2.2.2;have hS1:=eb S _ hSI hS;show wpAny _ X.A.in1 (updateSeq S (fun _=>#[]) >>= _) _ _ _;refine wpAny_bind (wpAny_updateSeq hS1 rfl (wpAny_bind (wpAny_letGo (wpAny_pure ?_))) sl2);have I2:Inv X aa σ H { s with heap:=h'.update S (Obj.mapSeq fun _=>(#[]:Array Value)),toks:=s.toks }:=Inv.turned (s:={ s with heap:=h',toks:=s.toks }) (it:=S) I1 (fun b o hb e=>(get?_update_other _ _ (Ne.symm hb)).trans e) fS.1 fS.2.1 fS.2.2.2.1 fS.2.2.2.2.1 fS.2.2.2.2.2;rw [e,hpl,take_length] at hb;subst hb;exact hR _ b I2 ai
 | succ k ih =>
  intro j s b m c hk0 h1 hj Iv hit hS ai hb;obtain ⟨its,rv,pl,hz⟩:=Iv.list hq;have ay:its.length=as.length:=by have:=rv.length; rw [length_map] at this; exact this.symm
  have hlt:j < as.length:=by omega
  have ha:as[j]?=some as[j]:=List.getElem?_eq_getElem hlt
  have hvt:its[j]?=some (.ref as[j]):=by
   obtain ⟨u,hu,ru⟩:=rv.get (i:=j) (x:=V.ref as[j]) (by rw [getElem?_map,ha]; rfl);cases ru;exact hu
  obtain ⟨n,hn,hnt⟩:∃ n,ps[j]?=some n/\H as[j]=some (.tup [.int n.1,.int n.2]):=Dm hps ha;refine codeAny_builtin PySem.F.entry_min_loop ?_;rw [Around.under_plainId PySem.F.plain_min_loop _];show wpAny _ X.A.in1 (seqItems? (.ref S) >>= _) _ _ _;refine wpAny_bind (wpAny_seqItems hS rfl ?_);show wpAny _ X.A.in1 (tryCatch (pyNext (.ref I)) _ >>= _) _ _ _;refine wpAny_bind (wpAny_tryCatch (wpAny_pyNext_list_item hit pl.isList (x:=.ref as[j]) (by simpa using hvt) fun h' hit' sb=>?_));have I1:Inv X aa σ H { s with heap:=h',toks:=s.toks }:=Iv.turned (it:=I) (fun b o hb e=>(sb.2 b hb).trans e) fI.1 fI.2.1 fI.2.2.2.1 fI.2.2.2.2.1 fI.2.2.2.2.2;have hS1:=(sb.2 S hSI).trans hS;obtain ⟨t1,u1,i1⟩:=HK I1 hnt;obtain ⟨t2,u2,i2⟩:=HK I1 ai;have etk:ps.take (j + 1)=ps.take j++[n]:=by rw [take_add_one,hn]; rfl
  have eb':(ps.take (j + 1)).foldl stP (ps.headD (0,0))=stP m n:=by rw [etk,foldl_append,← hb]; rfl
  show wpAny _ X.A.in1 (tryCatch (holding [.ref as[j],.ref as[j]] (richCompare .Lt (.ref as[j]) (.ref b) >>= _)) _ >>= _) _ _ _;refine wpAny_bind (wpAny_tryCatch (wpAny_holding (wpAny_bind (QV i1 i2 hu ?_))));refine wpAny_bind (wpAny_holding (wpAny_truthy_bool ?_));refine wpAny_bind (wpAny_letGo (wpAny_pure ?_));show wpAny _ X.A.in1 (if decide (ltP n m)=true then _ else _) _ _ _;by_cases hlt':ltP n m
  ·rw [decide_eq_true hlt',if_pos rfl];refine wpAny_bind (wpAny_updateSeq hS1 rfl (wpAny_bind (wpAny_letGo ?_)) sl2);rw [az];obtain ⟨c2,hc2⟩:∃ c2,(h'.update S (Obj.mapSeq fun _=>#[.ref as[j],.ref as[j]])).get? S=some { cls:=.type "list", data:=.seq #[.ref as[j],.ref as[j]] c2 }:=⟨_,PySem.IsL.update hS1 fun _=>#[.ref as[j],.ref as[j]]⟩;have I5:Inv X aa σ H { s with heap:=h'.update S (Obj.mapSeq fun _=>#[.ref as[j],.ref as[j]]),toks:=s.toks }:=Inv.turned (s:={ s with heap:=h',toks:=s.toks }) (it:=S) I1 (fun b o hb e=>(get?_update_other _ _ (Ne.symm hb)).trans e) fS.1 fS.2.1 fS.2.2.2.1 fS.2.2.2.2.1 fS.2.2.2.2.2;obtain ⟨oI,hoI,hoc,hod⟩:=id hit';refine wpAny_pure ⟨plainId_quiet PySem.F.plain_min_loop _,ih (j + 1) _ as[j] n c2 (by omega) (by omega) hlt I5 ⟨oI,(get?_update_other _ _ hSI).trans hoI,hoc,hod⟩ hc2 hnt ?_⟩;rw [eb'];unfold stP;rw [if_pos hlt']
  ·rw [decide_eq_false hlt',if_neg Bool.false_ne_true];refine wpAny_bind (wpAny_letGo ?_);rw [az];refine wpAny_pure ⟨plainId_quiet PySem.F.plain_min_loop _,ih (j + 1) _ b m c (by omega) (by omega) hlt I1 hit' hS1 ai ?_⟩;rw [eb'];unfold stP;rw [if_neg hlt']
theorem MP (a:Value):argsOk "min" ⟨[a],[]⟩:=by unfold argsOk; kernel_rfl
theorem HL (K:FG) (hK:X.K=K) (hc:X.calm=true) (hu:X.A.in1.units < cLine):BU X (.builtin "min") (fun xs H Q=>∃ (p:Addr) (as:List Addr) (ps:List (Int × Int)),xs=[.ref p]/\SqL K H p (as.map V.ref)/\Br H as ps/\as ≠ []/\∀ b,H b=some (.tup [.int (ps.foldl stP (ps.headD (0,0))).1,.int (ps.foldl stP (ps.headD (0,0))).2])->Q (.ref b) H):=by
 subst hK;intro aa s σ H xs us Q I2 r h;obtain ⟨a,as,ps,rfl,hq,hps,av,k1⟩:=h;obtain ⟨u,rfl,ru⟩:=Bb r;cases ru;obtain ⟨its,rv,pl,hz⟩:=I2.list hq;have ay:its.length=as.length:=by have:=rv.length; rw [length_map] at this; exact this.symm
 have h0:0 < as.length:=length_pos_iff.mpr av;refine PyProof.Rows.kmk_tree PySem.F.kind_min PySem.F.plain_min PySem.F.entry_min (MP _) ?_;show wpAny _ X.A.in1 (Builtin.Builtins.bindParams "min" ["key", "default"] 0 ⟨[],[]⟩ >>= _) _ _ _;refine wpAny_bind (wpAny_of_eq (show Builtin.Builtins.bindParams "min" ["key", "default"] 0 ⟨[],[]⟩=pure [none,none] from rfl) ?_);refine wpAny_bind (wpAny_pure ?_);refine wpAny_bind (wpAny_pyIter_list pl.isList ?_);refine wpAny_bind (wpAny_newList ?_ (Nat.zero_le _));have az:(toString "min" ++ toString ".loop" : String) = "min.loop" := by decide
 rw [az];have hS:(s.heap.push { cls:=.type "list_iterator", data:=.fields #[.ref a,.int 0 0] }).objs.size=s.heap.objs.size + 1:=size_push ..;have gI:=get?_push_of_some { cls:=.type "list", data:=.seq ([]:List Value).toArray } (get?_push_size s.heap (o:={ cls:=.type "list_iterator", data:=.fields #[.ref a,.int 0 0] }) rfl);have gS:=get?_push_size (s.heap.push { cls:=.type "list_iterator", data:=.fields #[.ref a,.int 0 0] }) (o:={ cls:=.type "list", data:=.seq ([]:List Value).toArray }) rfl;have fI:Bf X aa H s.heap.objs.size:=I2.fpOk (Nat.le_refl _) (I2.hok.fresh (Nat.le_refl _));have fS:Bf X aa H (s.heap.push { cls:=.type "list_iterator", data:=.fields #[.ref a,.int 0 0] }).objs.size:=by rw [hS]; exact I2.fpOk (Nat.le_succ _) (I2.hok.fresh (Nat.le_succ _))
 have hSI:(s.heap.push { cls:=.type "list_iterator", data:=.fields #[.ref a,.int 0 0] }).objs.size ≠ s.heap.objs.size:=by rw [hS]; exact Nat.succ_ne_self _
 have I3:Inv X aa σ H { s with heap:=(s.heap.push { cls:=.type "list_iterator", data:=.fields #[.ref a,.int 0 0] }).push { cls:=.type "list", data:=.seq ([]:List Value).toArray },toks:=s.toks }:=I2.kept fun b o e=>get?_push_of_some _ (get?_push_of_some _ e);have pl3:((s.heap.push { cls:=.type "list_iterator", data:=.fields #[.ref a,.int 0 0] }).push { cls:=.type "list", data:=.seq ([]:List Value).toArray }).IsList a its.toArray:=pl.isList.at fun o e=>get?_push_of_some _ (get?_push_of_some _ e);refine wpAny_pure ⟨plainId_quiet PySem.F.plain_min_loop _,?_⟩;generalize (s.heap.push { cls:=.type "list_iterator", data:=.fields #[.ref a,.int 0 0] }).objs.size=S at *;generalize (s.heap.push { cls:=.type "list_iterator", data:=.fields #[.ref a,.int 0 0] }).push { cls:=.type "list", data:=.seq ([]:List Value).toArray }=h3 at *;have ha:as[0]?=some as[0]:=List.getElem?_eq_getElem h0
 have hvt:its[0]?=some (.ref as[0]):=by
  obtain ⟨u,hu,ru⟩:=rv.get (i:=0) (x:=V.ref as[0]) (by rw [getElem?_map,ha]; rfl);cases ru;exact hu
 obtain ⟨n,hn,hnt⟩:∃ n,ps[0]?=some n/\H as[0]=some (.tup [.int n.1,.int n.2]):=Dm hps ha;refine codeAny_builtin PySem.F.entry_min_loop ?_;rw [Around.under_plainId PySem.F.plain_min_loop _];show wpAny _ X.A.in1 (seqItems? (.ref S) >>= _) _ _ _;refine wpAny_bind (wpAny_seqItems gS rfl ?_);show wpAny _ X.A.in1 (tryCatch (pyNext (.ref s.heap.objs.size)) _ >>= _) _ _ _;refine wpAny_bind (wpAny_tryCatch (wpAny_pyNext_list_item (i:=0) (l:=a) ⟨_,gI,rfl,rfl⟩ pl3 (x:=.ref as[0]) (by simpa using hvt) fun h' hit' sb=>?_));have I4:Inv X aa σ H { s with heap:=h',toks:=s.toks }:=Inv.turned (s:={ s with heap:=h3,toks:=s.toks }) (it:=s.heap.objs.size) I3 (fun b o hb e=>(sb.2 b hb).trans e) fI.1 fI.2.1 fI.2.2.2.1 fI.2.2.2.2.1 fI.2.2.2.2.2;have gS4:=(sb.2 S hSI).trans gS;obtain ⟨oI,hoI,hoc,hod⟩:=id hit';show wpAny _ X.A.in1 (updateSeq S (fun _=>#[.ref as[0],.ref as[0]]) >>= _) _ _ _;refine wpAny_bind (wpAny_updateSeq gS4 rfl ?_ (by show 0 <= sizeLine; decide));rw [az];obtain ⟨c2,hc2⟩:∃ c2,(h'.update S (Obj.mapSeq fun _=>#[.ref as[0],.ref as[0]])).get? S=some { cls:=.type "list", data:=.seq #[.ref as[0],.ref as[0]] c2 }:=⟨_,PySem.IsL.update gS4 fun _=>#[.ref as[0],.ref as[0]]⟩;have I8:Inv X aa σ H { s with heap:=h'.update S (Obj.mapSeq fun _=>#[.ref as[0],.ref as[0]]),toks:=s.toks }:=Inv.turned (s:={ s with heap:=h',toks:=s.toks }) (it:=S) I4 (fun b o hb e=>(get?_update_other _ _ (Ne.symm hb)).trans e) fS.1 fS.2.1 fS.2.2.2.1 fS.2.2.2.2.1 fS.2.2.2.2.2;refine wpAny_pure ⟨plainId_quiet PySem.F.plain_min_loop _,MO hc hu hq hps fI fS hSI (fun s' b I' hb=>⟨.ref b,H,I',rfl,k1 b hb⟩) _ 1 _ as[0] n c2 rfl (Nat.le_refl _) h0 I8 ⟨oI,(get?_update_other _ _ hSI).trans hoI,hoc,hod⟩ hc2 hnt ?_⟩
 have e0:ps.headD (0,0)=n:=by
  cases ps with
  | nil=>cases hn
  | cons z r=>exact Option.some.inj hn
 rw [show ps.take 1=[n] by rw [show (1:Nat)=0 + 1 from rfl,take_add_one,hn]; rfl,e0];show n=stP n n;unfold stP;rw [if_neg (by unfold ltP; omega)]
end L2
end
section
namespace MK
open PySem
theorem BE (a b:Nat):Builtin.bitAnd (a:Int) (b:Int)=((a &&& b:Nat):Int):=by
 rw [PyProof.Rows.bitAnd_pp (Int.natCast_nonneg _) (Int.natCast_nonneg _)]; simp
theorem Cg (a b:Nat):Builtin.bitOr (a:Int) (b:Int)=((a ||| b:Nat):Int):=by
 have ha:¬ (0:Int) <= Builtin.bitNot (a:Int):=by unfold Builtin.bitNot; omega
 have hb:¬ (0:Int) <= Builtin.bitNot (b:Int):=by unfold Builtin.bitNot; omega
 unfold Builtin.bitOr;rw [PyProof.Rows.bitAnd_nn ha hb];have e:∀ n:Nat,(Builtin.bitNot (Builtin.bitNot (n:Int))).toNat=n:=fun n=>by unfold Builtin.bitNot; omega
 rw [e a,e b];unfold Builtin.bitNot; omega
theorem Fz (a b:Nat):Builtin.bitAnd (a:Int) (Builtin.bitNot (b:Int))=((a - (a &&& b):Nat):Int):=by
 rw [PyProof.Rows.bitAnd_not,BE];have:a &&& b <= a:=Nat.and_le_left;omega
def AZ (l:List Nat):Nat:=l.foldl (· ||| ·) 0
theorem ER (k:Nat):∀ (l:List Nat) (a:Nat),(l.foldl (· ||| ·) a).testBit k=(a.testBit k || l.any (·.testBit k))
 | [],a=>by simp
 | x :: r,a=>by rw [foldl_cons,ER k r,Nat.testBit_or,any_cons,Bool.or_assoc]
theorem BQ (l:List Nat) (k:Nat):(AZ l).testBit k=l.any (·.testBit k):=by
 unfold AZ; rw [ER]; simp
theorem F0 {l:List Nat} {m:Nat} (h:∀ n ∈ l,n < 2 ^ m):AZ l < 2 ^ m:=by
 have:∀ (l:List Nat) (a:Nat),a < 2 ^ m->(∀ n ∈ l,n < 2 ^ m)->l.foldl (· ||| ·) a < 2 ^ m:=by
  intro l;induction l with
  | nil=>intro a ha _; exact ha
  | cons x r ih=>intro a ha hl; exact ih _ (Nat.or_lt_two_pow ha (hl x mem_cons_self)) fun n hn=>hl n (mem_cons_of_mem _ hn)
 exact this l 0 (Nat.two_pow_pos m) h
theorem Do (l:List Nat) (n:Nat):AZ (l++[n])=AZ l ||| n:=by unfold AZ; rw [foldl_append]; rfl
def Al (n:Nat):Bool:=decide (0 < n) && decide (n &&& (n - 1)=0)
theorem KY (k:Nat):Al (2 ^ k)=true:=by
 unfold Al;have h0:0 < 2 ^ k:=Nat.two_pow_pos k
 have h1:2 ^ k &&& (2 ^ k - 1)=0:=by
  apply Nat.eq_of_testBit_eq;intro i;rw [Nat.testBit_and,Nat.testBit_two_pow,Nat.testBit_two_pow_sub_one,Nat.zero_testBit];by_cases e:k=i
  ·subst e; simp
  ·simp [e]
 simp [h0,h1]
theorem A1 {n:Nat} (h:Al n=true):∃ k,n=2 ^ k:=by
 unfold Al at h;simp only [Bool.and_eq_true,decide_eq_true_eq] at h;obtain ⟨h0,h1⟩:=h;refine ⟨n.log2,?_⟩;have hlo:2 ^ n.log2 <= n:=Nat.log2_self_le (by omega);have hhi:n < 2 ^ (n.log2 + 1):=Nat.lt_log2_self;rcases Nat.eq_or_lt_of_le hlo with e | hlt
 ·exact e.symm
 ·exfalso
  have b1:n.testBit n.log2=true:=by
   rw [Nat.testBit_eq_decide_div_mod_eq];simp
   have:n / 2 ^ n.log2=1:=by
    apply Nat.div_eq_of_lt_le <;> (try rw [Nat.pow_succ] at hhi) <;> omega
   rw [this]
  have b2:(n - 1).testBit n.log2=true:=by
   rw [Nat.testBit_eq_decide_div_mod_eq];simp
   have:(n - 1) / 2 ^ n.log2=1:=by
    apply Nat.div_eq_of_lt_le <;> (try rw [Nat.pow_succ] at hhi) <;> omega
   rw [this]
  have:(n &&& (n - 1)).testBit n.log2=true:=by rw [Nat.testBit_and,b1,b2]; rfl
  rw [h1,Nat.zero_testBit] at this;cases this
def B5 (n:Nat):List Nat:=(List.range 42).filter fun k=>n.testBit k
theorem F1 {α:Type} [DecidableEq α] {p:α->Bool}:∀ {l:List α} {a:α},l.Nodup->a ∈ l->(∀ b ∈ l,p b=true ↔ b=a)->l.filter p=[a]
 | [],_,_,h,_=>by cases h
 | b :: r,a,hn,ha,hp=>by
  obtain ⟨n1,n2⟩:=nodup_cons.mp hn;by_cases e:b=a
  ·subst e;have hb:p b=true:=(hp b mem_cons_self).mpr rfl;rw [filter_cons,if_pos hb];congr 1;apply filter_eq_nil_iff.mpr;intro c hc hpc;have:=(hp c (mem_cons_of_mem _ hc)).mp hpc;exact n1 (this ▸ hc)
  ·have hb:¬ p b=true:=fun z=>e ((hp b mem_cons_self).mp z);rw [filter_cons,if_neg hb];rcases mem_cons.mp ha with z | z
   ·exact absurd z.symm e
   ·exact F1 n2 z fun c hc=>hp c (mem_cons_of_mem _ hc)
theorem Gx {n:Nat} (hn:n < 2 ^ 42):decide ((B5 n).length=1)=Al n:=by
 rw [Bool.eq_iff_iff,decide_eq_true_eq];constructor
 ·intro h;obtain ⟨k,hk⟩:∃ k,B5 n=[k]:=List.length_eq_one_iff.mp h
  have mem:∀ i,i < 42->(n.testBit i=true ↔ i=k):=fun i hi=>by
   have:i ∈ B5 n ↔ i=k:=by rw [hk]; simp
   unfold B5 at this;rw [mem_filter] at this;constructor
   ·intro hb; exact this.mp ⟨mem_range.mpr hi,hb⟩
   ·intro e; exact (this.mpr e).2
  have hk42:k < 42:=by
   have:k ∈ B5 n:=by rw [hk]; simp
   unfold B5 at this;exact mem_range.mp (mem_filter.mp this).1
  have e:n=2 ^ k:=by
   apply Nat.eq_of_testBit_eq;intro i;rw [Nat.testBit_two_pow];by_cases hi:i < 42
   ·rw [Bool.eq_iff_iff,mem i hi,decide_eq_true_eq]; exact eq_comm
   ·have h1:n.testBit i=false:=Nat.testBit_lt_two_pow (Nat.lt_of_lt_of_le hn (Nat.pow_le_pow_right (by decide) (by omega)));rw [h1]; symm; rw [decide_eq_false_iff_not]; omega
  rw [e]; exact KY k
 ·intro h;obtain ⟨k,rfl⟩:=A1 h;have hk:k < 42:=(Nat.pow_lt_pow_iff_right (by decide)).mp hn
  have:B5 (2 ^ k)=[k]:=by
   unfold B5;refine F1 List.nodup_range (mem_range.mpr hk) fun b _=>?_;rw [Nat.testBit_two_pow,decide_eq_true_eq]; exact eq_comm
  rw [this]; rfl
def BN (m:Nat):Nat:=2 ^ (Builtin.Int.intBits (m:Int))
theorem DD {m:Nat} (h:0 < m):Builtin.Int.intBits (m:Int)=m.log2 + 1:=by
 unfold Builtin.Int.intBits;have:((m:Int) == 0)=false:=by rw [beq_eq_false_iff_ne]; omega
 rw [this]; simp
theorem JO {m k:Nat} (h1:m < 2 ^ k) (h2:k=0\/2 ^ (k - 1) <= m):2 ^ k=BN m:=by
 unfold BN;congr 1;rcases Nat.eq_zero_or_pos m with e | hm
 ·subst e
  have:k=0:=by
   rcases h2 with z | z
   ·exact z
   ·have:=Nat.two_pow_pos (k - 1); omega
  rw [this]; rfl
 ·rw [DD hm];rcases h2 with z | z
  ·subst z; simp at h1; omega
  ·have hk:0 < k:=by rcases Nat.eq_zero_or_pos k with e | e
                     ·subst e; simp at h1; omega
                     ·exact e
   have e:m.log2=k - 1:=by
    apply Nat.le_antisymm
    ·have:m.log2 < k:=(Nat.log2_lt (by omega)).mpr h1;omega
    ·exact (Nat.le_log2 (by omega)).mpr z
   omega
theorem NZ:∀ {l:List Nat} {a:Nat},(∀ n ∈ l,Al n=true)->l.Pairwise (· < ·)->(∀ n ∈ l,a &&& n=0)->a + l.sum=l.foldl (· ||| ·) a
 | [],a,_,_,_=>by simp
 | n :: r,a,hm,hp,ha=>by
  obtain ⟨p1,p2⟩:=pairwise_cons.mp hp;have han:=ha n mem_cons_self
  have e:a ||| n=a + n:=by
   have h:=PyProof.Rows.bitOr_and (a:Int) (n:Int);rw [Cg,BE,han] at h;omega
  rw [sum_cons,foldl_cons,← NZ (a:=a ||| n) (fun m hm'=>hm m (mem_cons_of_mem _ hm')) p2 (fun m hm'=>?_),e]
  ·omega
  ·obtain ⟨i,rfl⟩:=A1 (hm n mem_cons_self);obtain ⟨j,rfl⟩:=A1 (hm m (mem_cons_of_mem _ hm'));have hlt:=p1 _ hm';have haj:=ha _ (mem_cons_of_mem _ hm');apply Nat.eq_of_testBit_eq;intro t;rw [Nat.testBit_and,Nat.testBit_or,Nat.zero_testBit];have h1:(a &&& 2 ^ j).testBit t=false:=by rw [haj]; exact Nat.zero_testBit t
   rw [Nat.testBit_and] at h1;rw [Bool.and_or_distrib_right,h1,Nat.testBit_two_pow,Nat.testBit_two_pow];have:i ≠ j:=fun e=>by subst e; omega
   by_cases e1:i=t
   ·have:¬ j=t:=by omega
    simp [this]
   ·simp [e1]
theorem MQ {l:List Nat} (hm:∀ n ∈ l,Al n=true) (hp:l.Pairwise (· < ·)):l.sum=AZ l:=by
 have:=NZ (a:=0) hm hp (fun n _=>by simp);unfold AZ;omega
end MK
end
end
variable {P:PySem.Program} {w:PySem.World} {K:FG} {mg:SV} {base:PySem.Heap} {f:PySem.Addr} {fd:PySem.FuncData} {H:L2.Hp} {H':L2.Hp} {due:LN} {ac:LN} {C:PySem.Addr} {VC:PySem.Addr} {EC:PySem.Addr}
section
namespace Mk
open PySem L2 MK
def top (i:Nat):Stmt:=PySem.Challenge.pw_markworks_k41_whole_mended.main.body.getD i (.Pass ⟨0,0,0,0⟩)
abbrev F2:Stmt:=top 15
abbrev IC:Stmt:=top 16
abbrev ID:Stmt:=top 17
abbrev F3:Stmt:=top 18
abbrev Er:Stmt:=top 19
abbrev F4:Stmt:=top 20
abbrev Es:Stmt:=top 21
abbrev Et:Stmt:=top 22
abbrev Dp:Stmt:=top 23
abbrev C0:Stmt:=top 24
abbrev Dq:Stmt:=top 25
abbrev Eu:Stmt:=top 26
abbrev DE:Stmt:=top 27
abbrev BH:Stmt:=inClass (top 28) 0
abbrev Ev:Stmt:=inClass (top 28) 1
abbrev Dr:Stmt:=inClass (top 28) 5
abbrev Ds:Stmt:=inClass (top 28) 6
abbrev Ew:Stmt:=inClass (top 28) 7
abbrev IE:Stmt:=inClass (top 28) 8
abbrev Ex:Stmt:=top 31
abbrev IF:Stmt:=top 32
abbrev Dt:Stmt:=inClass (top 33) 0
abbrev C1:Stmt:=inClass (top 33) 1
abbrev Du:Stmt:=inClass (top 33) 2
abbrev F5:Stmt:=inClass (top 33) 5
abbrev IG:Stmt:=top 35
abbrev F6:Stmt:=top 36
abbrev F7:Stmt:=top 37
abbrev DU:Stmt:=inClass (top 38) 0
abbrev B6:Stmt:=inClass (top 38) 2
abbrev CK:Stmt:=inClass (top 38) 3
abbrev Dv:Stmt:=inClass (top 38) 6
abbrev DF:Stmt:=inClass (top 38) 7
abbrev BB:Stmt:=inClass (top 38) 8
abbrev F8:Stmt:=top 40
abbrev Ey:Stmt:=top 41
abbrev F9:Stmt:=top 42
abbrev Dw:Stmt:=top 43
abbrev Dx:Stmt:=top 44
abbrev Dy:Stmt:=top 45
abbrev Bs:Stmt:=top 46
abbrev DH:Stmt:=top 47
abbrev C2:Stmt:=top 48
abbrev C3:Stmt:=top 49
abbrev Dz:Stmt:=top 50
abbrev Ez:Stmt:=top 51
abbrev Na:Stmt:=top 52
structure Fn (P:Program) (w:World) (K:FG) (mg:SV) (base:Heap) (x:Str) (k:Nat) (ps:List Str) (sp:Sp):Prop where
 ex:∃ f fd,Ae P w K mg base CX0 k f fd ps sp/\mg x=some (.ref f)/\W.keepIn K (.ref f)=true/\Binds K fd ps []
structure Bl (mg:SV):Prop where
 len:mg "len" = none
 isi:mg "isinstance" = none
 max:mg "max" = none
 min:mg "min" = none
 range:mg "range" = none
 list:mg "list" = none
 tuple:mg "tuple" = none
 sorted:mg "sorted" = none
 sum:mg "sum" = none
 all:mg "all" = none
 enum:mg "enumerate" = none
 int:mg "int" = none
 bool:mg "bool" = none
 str:mg "str" = none
def AT (ns:List Nat):List V:=ns.map fun (n:Nat)=>V.int (n:Int)
section
def GA:Sp:=fun vs H Q _=>∃ n:Nat,vs=[.int (n:Int)]/\Q (.bl (Al n)) H
theorem Nb:AN ["number"] ["number"] (defScope ID):=fsc
theorem KZ (n:Nat):(decide (0 < (n:Int)) && decide (V.int (Builtin.bitAnd (n:Int) ((n:Int) - 1))=V.int 0))=Al n:=by
 unfold Al;rcases Nat.eq_zero_or_pos n with e | h
 ·subst e; rfl
 ·have e1:((n:Int) - 1)=((n - 1:Nat):Int):=by omega
  rw [e1,BE];have e2:decide (0 < (n:Int))=true:=decide_eq_true (by omega);have e3:decide (0 < n)=true:=decide_eq_true h;rw [e2,e3];congr 1;rw [Bool.eq_iff_iff,decide_eq_true_eq,decide_eq_true_eq];constructor
  ·intro z; injection z with z; omega
  ·intro z; rw [z]; rfl
theorem MR (F:Fun K "is_mark" "is_mark" ID f fd):Ae P w K mg base CX0 1 f fd ["number"] GA:=by
 refine F.ok Nb (fun vs H Q E h=>?_) (fun ad A outer s H vs Q E hr h=>?_)
 ·obtain ⟨n,rfl,_⟩:=h;rfl
 ·obtain ⟨n,rfl,k⟩:=h;refine ⟨_,AD (AS (CH (Bw G2 (pv 0) AH (AY _)) (Cy (Bw Ck (AW BJ (pv 0) (AW Hn (pv 0) AH)) AH (AY _))))),?_⟩;rw [← KZ] at k;refine ⟨_,rfl,_,_,rfl,rfl,_,rfl,?_⟩;refine Bn (fun h=>?_) (fun h=>?_)
  ·rw [h,Bool.true_and] at k;exact ⟨_,rfl,_,rfl,_,_,rfl,rfl,_,_,rfl,rfl,rfl,k⟩
  ·rw [Bool.eq_false_iff.mpr h,Bool.false_and] at k;exact k
def Co (K:FG):Sp:=fun vs H Q _=>∃ (a:Addr) (ns:List Nat),vs=[.ref a]/\SqL K H a (AT ns)/\Q (.int (AZ ns:Nat)) H
theorem scUnionOf:AN ["numbers", "bits", "number"] ["numbers"] (defScope F3):=fsc
theorem Bz {ns:List Nat} {i:Nat} {x:V} (h:(AT ns)[i]?=some x):∃ n,ns[i]?=some n/\x=V.int (n:Int):=by
 unfold AT at h;rw [getElem?_map] at h;cases e:ns[i]? with
 | none=>rw [e] at h; cases h
 | some n=>rw [e] at h; exact ⟨n,rfl,(Option.some.inj h).symm⟩
theorem Ka (F:Fun K "union_of" "union_of" F3 f fd):Ae P w K mg base CX0 1 f fd ["numbers"] (Co K):=by
 refine F.ok scUnionOf (fun vs H Q E h=>?_) (fun ad A outer s H vs Q E hr h=>?_)
 ·obtain ⟨a,ns,rfl,_⟩:=h;rfl
 ·obtain ⟨a,ns,rfl,hS,k⟩:=h
  refine ⟨_,AE (Ac (i:=1) scUnionOf.nd rfl (Or.inl rfl) AH)
   (AE (BW PassesOwn.never rfl (Ad (pv 0)) (AO (i:=2) scUnionOf.nd rfl (Or.inl rfl))
    (AD (Jx (i:=1) scUnionOf.nd rfl (Or.inl rfl) (pv 2) (QG:OpR _ _ _))))
   (AD (AS (pv 1)))),?_⟩
  refine ⟨_,rfl,a,rfl,⟨_,hS⟩,BM (K:=K) (a:=a) (xs:=AT ns) (fun i σ H2=>∃ v:Option V,σ=[some (.ref a),some (.int (AZ (ns.take i):Nat)),v]/\H2=H) ⟨none,rfl,rfl⟩ (fun i σ H2 _ ⟨_,_,e⟩=>e ▸ hS) ?_ ?_⟩
  ·rintro i x σ H2 hi ⟨v,rfl,rfl⟩;obtain ⟨n,hn,rfl⟩:=Bz hi;refine ⟨_,rfl,_,rfl,_,_,rfl,rfl,?_⟩;refine ⟨some (V.int (n:Int)),?_,rfl⟩;rw [take_add_one,hn,Option.toList_some,Do];show [some (V.ref a),some (V.int (Builtin.bitOr (AZ (ns.take i):Nat) (n:Nat))),some (V.int (n:Int))]=_;rw [Cg]
  ·rintro σ H2 ⟨v,rfl,rfl⟩;refine ⟨_,rfl,?_⟩;have e:(AT ns).length=ns.length:=by unfold AT; rw [length_map]
   rw [e,take_length];exact k
end
end Mk
end
section
namespace L2
open PySem
theorem Nd {x:Str} {g:TG} {tt:TT} {te:TE} {ix:List (Option Nat)} {R:List V->Hp->Prop} {σ:St} {H1:Hp} (Pv:Nat->List V->Hp->Prop) (h0:Pv 0 [] H1) (hz:∀ i ys H,Pv i ys H->ys.length <= 1000)
  (hs:∀ (i c:Nat) ys H,x.cps[i]?=some c->Pv i ys H->g (.str ⟨#[c]⟩) (B2 ix σ) H fun σ2 H2=>tt σ2 H2 fun b H3=>if b=true then te σ2 H3 fun y H4=>Pv (i + 1) (ys++[y]) H4 else Pv (i + 1) ys H3) (hd:∀ ys H,Pv x.cps.size ys H->R ys H) :
  ∃ W:Nat->Nat->List V->Hp->Prop,(∃ m,W 0 m [] H1)/\∀ i m ys H,W i m ys H ->
   ((Its x).stop i H/\ys.length <= sizeLine/\R ys H) \/
   ((Its x).go i H/\∃ N:List V->Hp->Prop,(∀ ys' H',N ys' H'->ys'.length <= sizeLine/\∃ m',m' < m/\W (i + 1) m' ys' H') /\
    ∀ v H',(Its x).yld i H v H'->g v (B2 ix σ) H' fun σ2 H2=>tt σ2 H2 fun b H3=>if b=true then te σ2 H3 fun y H4=>N (ys++[y]) H4 else N ys H3):=by
 refine ⟨fun i m ys H=>m=x.cps.size - i/\i <= x.cps.size/\Pv i ys H,⟨_,rfl,Nat.zero_le _,h0⟩,?_⟩;rintro i m ys H ⟨rfl,hi,hp⟩;by_cases hlt:i < x.cps.size
 ·refine .inr ⟨hlt,Pv (i + 1),fun ys' H' q=>⟨Nat.le_of_lt (Ag (hz _ ys' H' q)),x.cps.size - (i + 1),by omega,rfl,hlt,q⟩,?_⟩;rintro v H' ⟨rfl,c,hc,rfl⟩;exact hs i c ys H' hc hp
 ·have e:i=x.cps.size:=by omega
  subst e;exact .inl ⟨Nat.le_refl _,Nat.le_of_lt (Ag (hz _ ys H hp)),hd ys H hp⟩
end L2
namespace Mk
open PySem L2 MK
theorem IH:bootBuiltins "all" = some (.builtin "all"):=by decide +kernel
theorem II:bootBuiltins "isinstance" = some (.builtin "isinstance"):=by decide +kernel
theorem E1:bootBuiltins "sorted" = some (.builtin "sorted"):=by decide +kernel
theorem QW:bootBuiltins "sum" = some (.builtin "sum"):=by decide +kernel
theorem QX:bootBuiltins "min" = some (.builtin "min"):=by decide +kernel
theorem QY:bootBuiltins "max" = some (.builtin "max"):=by decide +kernel
theorem Kb:bootBuiltins "str" = some (.type "str"):=by decide +kernel
theorem QZ:bootBuiltins "int" = some (.type "int"):=by decide +kernel
theorem O4:bootBuiltins "bool" = some (.type "bool"):=by decide +kernel
theorem DI:bootBuiltins "tuple" = some (.type "tuple"):=by decide +kernel
theorem C4:bootBuiltins "list" = some (.type "list"):=by decide +kernel
theorem AC {H1:Hp} {p:Addr} {o:HO} (s:Same H H1) (hp:H1 p=none):Same H (upd H1 p o):=fun b u e=>by
 have e':=s b u e;rw [AF (AI e' hp)];exact e'
def Gy (c:Nat):Bool:=decide (65 <= c) && decide (c <= 90)
def Gz (x:Str):Bool:=(decide (1 <= x.length) && decide (x.length <= 6)) && x.cps.toList.all Gy
section
theorem CA {X:Cx} {e:Expr} {te:TE} {T:String} {x:Str} {p p2 pos:Pos} (K:FG) (hK:X.K=K) (hg:Gl X "isinstance") (hm:X.mg "isinstance" = none) (hgT:Gl X x) (hmT:X.mg x=none) (hvT:bootBuiltins x=some (.type T)) (he:PE X e te)
  (hn:x ≠ "__name__" := by decide) (hdb:(x == ("__debug__" : Str))=false:=by decide)
  (hs:starEach [e,.Name x p2] X.env=(false,eval e X.env) :: starEach [.Name x p2] X.env:=by rfl) (hpl:(backTo pos (starEach [.Name x p2] X.env)).any (·.1)=false:=by rfl) (hs2:starEach [.Name x p2] X.env=(false,eval (.Name x p2) X.env) :: starEach [] X.env:=by rfl) :
  PE X (.Call (.Name "isinstance" p) [e,.Name x p2] [] pos) (tCB (fun xs H Q=>∃ v T t b,xs=[v,.ty T]/\TyOf K H v t/\W.kitOne K t (.type T)=some b/\Q (.bl b) H) (A2 te (A2 (tC (.ty T)) En))):=by
 subst hK;exact AX NN hg hm II (AA he (AA (Hm hgT hmT hvT rfl hn hdb) AB hs2) hs) (by decide) (by decide) hs hpl
theorem A4 {X:Cx} (K:FG) (hK:X.K=K):IxR X (RZ K):=hK ▸ Om
theorem DV {X:Cx} (K:FG) (hK:X.K=K):IxR X (Ra K):=hK ▸ QI
theorem Av {X:Cx} (K:FG) (hK:X.K=K):BU X (.builtin "len") (fun xs H Q=>∃ p ys,xs=[.ref p]/\(SqL K H p ys\/SqT K H p ys)/\Q (.int ys.length) H):=hK ▸ EG
theorem O5 {X:Cx} {e:Expr} {f:Str} {pos:Pos} {ta:TE} (K:FG) (hK:X.K=K) (he:PE X e ta) (hb:attributeBase e f X.env (eval e X.env)=eval e X.env):PE X (.Attribute e f pos) (RW K ta f):=hK ▸ Ak he hb
def GG:Sp:=fun vs H Q _=>∃ x:Str,vs=[.str x]/\x.cps.all (· < 128)=true/\x.length <= 1000/\∀ H',Same H H'->Q (.bl (Gz x)) H'
theorem Nf:AN ["thing"] ["thing"] (defScope IC):=fsc
theorem Ng (c:Nat):(if (!decide ((⟨#[c]⟩:Str).cps.toList < ("A" : Str).cps.toList))=true then (!decide (("Z" : Str).cps.toList < (⟨#[c]⟩:Str).cps.toList)) else false)=Gy c:=by
 have hA:("A" : Str).cps.toList=[65]:=by decide +kernel
 have hZ:("Z" : Str).cps.toList=[90]:=by decide +kernel
 rw [hA,hZ];show (if (!decide ([c] < [65]))=true then !decide ([90] < [c]) else false)=Gy c;unfold Gy
 have e1:decide ([c] < [65])=decide (c < 65):=by
  rw [Bool.eq_iff_iff,decide_eq_true_eq,decide_eq_true_eq,List.cons_lt_cons_iff];simp
 have e2:decide ([90] < [c])=decide (90 < c):=by
  rw [Bool.eq_iff_iff,decide_eq_true_eq,decide_eq_true_eq,List.cons_lt_cons_iff];simp
 rw [e1,e2];by_cases h1:c < 65 <;> by_cases h2:90 < c <;> simp [h1,h2] <;> omega
theorem MS {t6:Tok} (F:Fun K "is_name" "is_name" IC f fd) (B:Bl mg) (hL:mg "LONGEST_NAME" = some (.int 6 t6)):Ae P w K mg base CX0 1 f fd ["thing"] GG:=by
 refine F.ok Nf (fun vs H Q E h=>?_) (fun ad A outer s H vs Q E hr h=>?_)
 ·obtain ⟨x,rfl,_⟩:=h;rfl
 ·obtain ⟨x,rfl,ha,hz,k⟩:=h
  refine ⟨_,AE (Au (PW.pt (De (B3 (Bp (CA K rfl rfl B.isi rfl B.str Kb (pv 0)))) (CZ (B3 (Ff FE FE AH (AX Hs rfl B.len PySem.boot_len (AA (pv 0) AB)) (CP (v:=.int 6) rfl hL ⟨t6,rfl⟩))))))
    (AD (AS Pp)) Aa)
   (AD (AS (AX (EO rfl) rfl B.all IH (AA (A3 [] [] (by kernel_rfl) (by decide +kernel) (by kernel_rfl) rfl (QO (pv 0)) (fun _ _ _ _ _ _=>BL) (fun _ _ _ _ _ _=>Ip HE HE Aw (pv 0) Aw)) AB)))),?_⟩
  refine ⟨_,rfl,_,_,_,true,rfl,.str x,rfl,_,rfl,?_⟩;refine As ?_;refine ⟨_,rfl,x,rfl,Nat.le_of_lt (Ag hz),_,_,rfl,rfl,_,rfl,?_⟩;refine Bn (fun h1=>?_) (fun h1=>?_)
  ·have h1':1 <= x.length:=by have:=of_decide_eq_true h1; omega
   refine ⟨_,_,rfl,rfl,_,rfl,?_⟩;refine Bn (fun h2=>?_) (fun h2=>?_)
   ·have h2':¬ x.length <= 6:=by
     intro z;rw [decide_eq_true (show (x.length:Int) <= 6 by omega)] at h2;cases h2
    have e:Gz x=false:=by unfold Gz; simp [h2']
    have:=k H (Same.refl H);rw [e] at this;exact this
   ·have h2':x.length <= 6:=Decidable.byContradiction fun z=>h2 (by rw [decide_eq_false (show ¬ (x.length:Int) <= 6 by omega)]; rfl);refine ⟨_,rfl,x,rfl,ha,Nd (x:=x) (fun i ys H2=>H2=H/\ys=(x.cps.toList.take i).map fun c=>V.bl (Gy c)) ⟨rfl,rfl⟩ (fun i ys H2 ⟨_,e⟩=>?_) ?_ ?_⟩
    ·rw [e,length_map,length_take];have:x.cps.toList.length=x.length:=by rw [Array.length_toList]; rfl
     omega
    ·rintro i c ys H2 hc ⟨rfl,rfl⟩;refine ⟨_,rfl,_,_,rfl,rfl,_,rfl,?_⟩
     have fin:∀ b,b=Gy c->(H2=H2/\(x.cps.toList.take i).map (fun c=>V.bl (Gy c))++[V.bl b]=(x.cps.toList.take (i + 1)).map fun c=>V.bl (Gy c)):=fun b hb=>by
      refine ⟨rfl,?_⟩;have hc':x.cps.toList[i]?=some c:=by rw [Array.getElem?_toList]; exact hc
      rw [take_add_one,hc',map_append,hb];rfl
     have hu:=Ng c;refine Bn (fun h3=>?_) (fun h3=>?_)
     ·rw [if_pos h3] at hu;exact ⟨_,_,rfl,rfl,fin _ hu⟩
     ·rw [if_neg h3] at hu;exact fin _ hu
    ·rintro ys H2 ⟨rfl,rfl⟩ p hp;have el:x.cps.toList.take x.cps.size=x.cps.toList:=List.take_of_length_le (by rw [Array.length_toList]; exact Nat.le_refl _);refine ⟨p,x.cps.toList.map Gy,rfl,SqL.of (by rw [upd_same,el,map_map]; rfl),?_⟩
     have e:Gz x=((x.cps.toList.map Gy).all id):=by
      unfold Gz;rw [decide_eq_true h1',decide_eq_true h2',all_map];rfl
     rw [← e];exact k _ (AC (Same.refl _) hp)
  ·have h1':¬ 1 <= x.length:=fun z=>h1 (decide_eq_true (by omega));refine ⟨_,rfl,?_⟩;refine BY ?_;have e:Gz x=false:=by unfold Gz; simp [h1']
   have:=k H (Same.refl H);rw [e] at this;exact this
end
inductive Th where
 | non | num (n:Nat) | nms (ns:List Str)
def ThAt (H:Hp) (v:V):Th->Prop
 | .non=>v=.non
 | .num n=>v=.int (n:Int)
 | .nms ns=>∃ a,v=.ref a/\H a=some (.tup (ns.map V.str))
def DJ (ns:List Nat):Nat:=ns.foldl max 0
def look (due:LN) (x:Str):Nat:=((due.find? fun p=>decide (p.1=x)).map (·.2)).getD 0
def A8 (due:LN):LK:=due.map fun p=>(Sum.inr p.1,V.int (p.2:Int))
def CT (due:LN):Th->Nat
 | .non=>BN (DJ (due.map (·.2)))
 | .num n=>n
 | .nms ns=>AZ (ns.map (look due))
theorem D0 (x:Str):∀ due:LN,A7 (A8 due) (Sum.inr x)=(due.find? fun p=>decide (p.1=x)).map fun p=>V.int (p.2:Int)
 | []=>rfl
 | p :: r=>by
  show A7 ((Sum.inr p.1,V.int (p.2:Int)) :: A8 r) (Sum.inr x)=_;by_cases e:p.1=x
  ·rw [Cl (p:=(Sum.inr p.1,V.int (p.2:Int))) (by rw [← e]),List.find?_cons_of_pos (by simpa using e)]; rfl
  ·rw [Cm (p:=(Sum.inr p.1,V.int (p.2:Int))) (fun z=>e (Sum.inr.inj z)),List.find?_cons_of_neg (by simpa using e)]; exact D0 x r
theorem MU {x:Str} (h:x ∈ due.map (·.1)):(due.find? fun p=>decide (p.1=x)).isSome=true:=by
 obtain ⟨p,hp,e⟩:=mem_map.mp h;rw [List.find?_isSome];exact ⟨p,hp,by simpa using e⟩
theorem FI {x:Str} (h:x ∈ due.map (·.1)):A7 (A8 due) (Sum.inr x)=some (V.int (look due x:Int)):=by
 rw [D0];unfold look;obtain ⟨p,hp⟩:=Option.isSome_iff_exists.mp (MU h);rw [hp]; rfl
theorem ES {x:Str} (h:x ∉ due.map (·.1)):A7 (A8 due) (Sum.inr x)=none:=by
 rw [D0]
 have:(due.find? fun p=>decide (p.1=x))=none:=by
  rw [find?_eq_none];intro p hp e;exact h (mem_map.mpr ⟨p,hp,by simpa using e⟩)
 rw [this]; rfl
theorem ET {m:Nat}:∀ (l:List Nat) (a:Nat),a < m->(∀ n ∈ l,n < m)->l.foldl max a < m
 | [],a,h,_=>h
 | x :: r,a,h,k=>ET r (max a x) (by have:=k x mem_cons_self; omega) fun n hn=>k n (mem_cons_of_mem _ hn)
theorem JP {ns:List Nat} {m:Nat} (h0:0 < m) (h:∀ n ∈ ns,n < m):DJ ns < m:=ET ns 0 h0 h
theorem Nh (a b:Nat):max (a:Int) (b:Int)=((max a b:Nat):Int):=by omega
theorem GJ:∀ (r:List Nat) (a:Nat),(r.map fun n:Nat=>(n:Int)).foldl max (a:Int)=((r.foldl max a:Nat):Int)
 | [],_=>rfl
 | x :: r,a=>by rw [map_cons,foldl_cons,Nh,GJ r]; rfl
theorem JQ {ns:List Nat} (h:ns ≠ []):JE 0 (ns.map fun n:Nat=>(n:Int))=(DJ ns:Nat):=by
 cases ns with
 | nil=>exact absurd rfl h
 | cons a r =>
  show (r.map fun n:Nat=>(n:Int)).foldl max (a:Int)=_;rw [GJ];unfold DJ;rw [foldl_cons];have:max 0 a=a:=by omega
  rw [this]
theorem Kc {m:Nat} (h:m < 2 ^ 20):Builtin.Int.intBits (m:Int) <= 20:=by
 rcases Nat.eq_zero_or_pos m with e | hm
 ·subst e; decide
 ·rw [DD hm];have:m.log2 < 20:=(Nat.log2_lt (by omega)).mpr h;omega
section
def D1 (K:FG):Sp:=fun vs H Q _=>∃ (a:Addr) (ns:List Nat),vs=[.ref a]/\SqL K H a (AT ns)/\(∀ n ∈ ns,n < 2 ^ 20)/\Q (.int (BN (DJ ns):Nat)) H
theorem Kd:AN ["numbers"] ["numbers"] (defScope Et):=fsc
theorem C5 (ns:List Nat):AT ns=(ns.map fun n:Nat=>(n:Int)).map V.int:=by unfold AT; rw [map_map]; rfl
theorem JR (F:Fun K "next_mark" "next_mark" Et f fd) (B:Bl mg):Ae P w K mg base CX0 1 f fd ["numbers"] (D1 K):=by
 refine F.ok Kd (fun vs H Q E h=>?_) (fun ad A outer s H vs Q E hr h=>?_)
 ·obtain ⟨a,ns,rfl,_⟩:=h;rfl
 ·obtain ⟨a,ns,rfl,hS,hlt,k⟩:=h;refine ⟨_,AD (AS (AW Hq AH (QK PySem.F.plainAttrs_int PySem.F.slot_int_bit_length PySem.F.type_int_bit_length Hx (LI rfl rfl B.max (pv 0) AH)))),?_⟩;have hm:=JP (m:=2 ^ 20) (by decide) hlt
  have fin:∀ m:Int,m=(DJ ns:Nat)->tyV K "int" (.int m) H/\∃ i,V.int m=.int i/\([]:List V)=[]/\∃ i' j,V.int 1=.int i'/\V.int (Builtin.Int.intBits i:Nat)=.int j/\QE i' j/\Q (.int (i' * 2 ^ j.toNat)) H:=fun m e=>by
   subst e;refine ⟨rfl,_,rfl,rfl,1,_,rfl,rfl,⟨Int.natCast_nonneg _,?_,by decide⟩,?_⟩
   ·have:=Kc hm; omega
   ·have e:(1:Int) * 2 ^ ((Builtin.Int.intBits (DJ ns:Nat):Nat):Int).toNat=((BN (DJ ns):Nat):Int):=by
     unfold BN;rw [Int.one_mul,Int.toNat_natCast];simp
    rw [e];exact k
  refine ⟨_,rfl,a,ns.map (fun n:Nat=>(n:Int)),0,rfl,rfl,by rw [← C5]; exact hS,fun e=>?_,fun e=>?_⟩
  ·have e':ns=[]:=List.map_eq_nil_iff.mp e;exact fin 0 (by rw [e']; rfl)
  ·have e':ns ≠ []:=fun z=>e (by rw [z]; rfl);exact fin _ (JQ e')
def Cp (K:FG):Sp:=fun vs H Q _=>(∃ (x:Str) (d:Addr) (kvs:LK),vs=[.str x,.ref d]/\Rd H d (.dK kvs)/\Q (.bl (A7 kvs (Sum.inr x:Key)).isSome) H) \/
 (∃ (x:Str) (t:Addr) (xs:List Str),vs=[.str x,.ref t]/\SqT K H t (xs.map V.str)/\Q (.bl (inV (.str x) (xs.map V.str))) H)
theorem MW:AN ["thing", "names"] ["thing", "names"] (defScope F4):=fsc
theorem CG:∀ xs:List Str,(xs.map V.str).all Df=true
 | []=>rfl
 | _ :: r=>CG r
theorem Ke (F:Fun K "is_one_of" "is_one_of" F4 f fd) (B:Bl mg):Ae P w K mg base CX0 1 f fd ["thing", "names"] (Cp K):=by
 refine F.ok MW (fun vs H Q E h=>?_) (fun ad A outer s H vs Q E hr h=>?_)
 ·rcases h with ⟨x,d,kvs,rfl,_⟩ | ⟨x,t,xs,rfl,_⟩ <;> rfl
 ·have hu:=C7 hr;rcases h with ⟨x,d,kvs,rfl,hd,k⟩ | ⟨x,t,xs,rfl,ht,k⟩
  ·refine ⟨_,AD (AS (CH (CA K rfl rfl B.isi rfl B.str Kb (pv 0)) (Cy (Mu (NF hu (pv 0) (pv 1)))))),?_⟩;refine ⟨_,rfl,_,_,_,true,rfl,.str x,rfl,_,rfl,?_⟩;exact ⟨_,rfl,_,rfl,d,_,rfl,.inl ⟨kvs,Sum.inr x,hd,rfl,rfl⟩,k⟩
  ·refine ⟨_,AD (AS (CH (CA K rfl rfl B.isi rfl B.str Kb (pv 0)) (Cy (Bw CC (pv 0) (pv 1) (by with_unfolding_all rfl))))),?_⟩;refine ⟨_,rfl,_,_,_,true,rfl,.str x,rfl,_,rfl,?_⟩;exact ⟨_,rfl,_,rfl,t,_,rfl,.inr ht,rfl,CG xs,k⟩
def DK:Sp:=fun vs H Q _=>∃ (a d:Addr) (ns:List Str) (kvs:LK),vs=[.ref a,.ref d]/\H a=some (.tup (ns.map V.str))/\ns.length <= 1000/\Rd H d (.dK kvs) /\
 ∀ H',Same H H'->Q (.bl (decide (0 < ns.length) && ns.all fun x=>(A7 kvs (Sum.inr x:Key)).isSome)) H'
theorem JS:AN ["parts", "ahead"] ["parts", "ahead"] (defScope Dp):=fsc
theorem Same.rd {a:Addr} {u:HO} (s:Same H H') (h:Rd H a u):Rd H' a u:=by
 rcases h with h | ⟨o,h⟩
 ·exact .inl (s _ _ h)
 ·exact .inr ⟨o,s _ _ h⟩
theorem IJ (F:Fun K "is_names_of" "is_names_of" Dp f fd) (B:Bl mg) (GO:Fn P w K mg base "is_one_of" 1 ["thing", "names"] (Cp K)):Ae P w K mg base CX0 2 f fd ["parts", "ahead"] DK:=by
 obtain ⟨fO,dO,GO,mO,kO,bO⟩:=GO.ex;refine F.ok JS (fun vs H Q E h=>?_) (fun ad A outer s H vs Q E hr h=>?_)
 ·obtain ⟨a,d,ns,kvs,rfl,_⟩:=h;rfl
 ·obtain ⟨a,d,ns,kvs,rfl,ha,hz,hd,k⟩:=h;have hu:=C7 hr
  refine ⟨_,AD (AS (CH (Bw G2 (AX EG rfl B.len PySem.boot_len (AA (pv 0) AB)) AH (AY _))
   (Cy (AX (EO rfl) rfl B.all IH (AA (A3 ["ahead"] [some 1] (by kernel_rfl) (by decide +kernel) (by kernel_rfl) rfl (J1 (pv 0)) (fun _ _ _ _ _ _=>BL)
    (fun _ _ _ _ _ _=>AM GO hr rfl mO kO bO .nil AQ (AA (pv 0) (AA (pv 1) AB)))) AB))))),?_⟩
  have hl:(ns.map V.str).length=ns.length:=length_map _;refine ⟨_,rfl,a,_,rfl,.inr (SqT.of ha),_,_,rfl,rfl,_,rfl,?_⟩;refine Bn (fun h1=>?_) (fun h1=>?_)
  ·have h1':0 < ns.length:=by have:=of_decide_eq_true h1; rw [hl] at this; omega
   refine ⟨_,rfl,a,rfl,⟨_,SqT.of ha⟩,Fu (K:=K) (a:=a) (xs:=ns.map V.str) (fun i ys H2=>H2=H/\ys=(ns.take i).map fun x=>V.bl (A7 kvs (Sum.inr x:Key)).isSome) ⟨rfl,rfl⟩ (fun i ys H2 _ ⟨e,_⟩=>e ▸ SqT.of ha) (fun i ys H2 ⟨_,e⟩=>?_) ?_ ?_⟩
   ·rw [e,length_map,length_take]; omega
   ·rintro i v ys H2 hi ⟨rfl,rfl⟩;rw [getElem?_map] at hi
    obtain ⟨x,hx,rfl⟩:∃ x,ns[i]?=some x/\v=V.str x:=by
     cases e:ns[i]? with
     | none=>rw [e] at hi; cases hi
     | some x=>rw [e] at hi; exact ⟨x,rfl,(Option.some.inj hi).symm⟩
    refine ⟨_,rfl,_,rfl,.inl ⟨x,d,kvs,rfl,hd,rfl,?_⟩⟩;rw [take_add_one,hx,map_append];rfl
   ·rintro ys H2 ⟨rfl,rfl⟩ p hp;have el:ns.take (ns.map V.str).length=ns:=by rw [hl]; exact take_length
    refine ⟨p,ns.map fun x=>(A7 kvs (Sum.inr x:Key)).isSome,rfl,SqL.of (by rw [upd_same,el,map_map]; rfl),?_⟩
    have e:(decide (0 < ns.length) && ns.all fun x=>(A7 kvs (Sum.inr x:Key)).isSome)=(ns.map fun x=>(A7 kvs (Sum.inr x:Key)).isSome).all id:=by
     rw [decide_eq_true h1',Bool.true_and,all_map];rfl
    rw [← e];exact k _ (AC (Same.refl _) hp)
  ·have h1':¬ 0 < ns.length:=fun z=>h1 (decide_eq_true (by rw [hl]; omega));have:=k H (Same.refl H);rw [decide_eq_false h1',Bool.false_and] at this;exact this
def DW:Sp:=fun vs H Q _=>∃ n:Int,vs=[.int n]/\Q (.bl true) H
theorem MX:AN ["thing"] ["thing"] (defScope F2):=fsc
theorem Kh (F:Fun K "is_whole" "is_whole" F2 f fd) (B:Bl mg):Ae P w K mg base CX0 1 f fd ["thing"] DW:=by
 refine F.ok MX (fun vs H Q E h=>?_) (fun ad A outer s H vs Q E hr h=>?_)
 ·obtain ⟨n,rfl,_⟩:=h;rfl
 ·obtain ⟨n,rfl,k⟩:=h;refine ⟨_,AD (AS (CH (CA K rfl rfl B.isi rfl B.int QZ (pv 0)) (Cy (QA (CA K rfl rfl B.isi rfl B.bool O4 (pv 0)))))),?_⟩;refine ⟨_,rfl,_,_,_,true,rfl,.int n,rfl,_,rfl,?_⟩;exact ⟨_,rfl,_,_,_,false,rfl,.int n,(by kernel_rfl),_,rfl,k⟩
structure JT (due:LN):Prop where
 len:due.length <= 10
 lt:∀ p ∈ due,p.2 < 2 ^ 20
 nd:(due.map (·.1)).Nodup
 nm:∀ p ∈ due,Gz p.1=true/\p.1.cps.all (· < 128)=true/\p.1.length <= 1000
def O6 (due:LN):Th->Prop
 | .non=>True
 | .num _=>True
 | .nms ns=>ns ≠ []/\ns.length <= 10/\∀ x ∈ ns,x ∈ due.map (·.1)
def IK:Sp:=fun vs H Q _=>∃ (tv:V) (th:Th) (d:Addr) (due:LN),vs=[tv,.ref d]/\ThAt H tv th/\Rd H d (.dK (A8 due))/\JT due/\O6 due th/\∀ H',Same H H'->Q (.int (CT due th:Nat)) H'
theorem O7:AN ["thing", "ahead"] ["thing", "ahead"] (defScope C0):=fsc
theorem Ni (due:LN):(A8 due).map (·.2)=AT (due.map (·.2)):=by unfold A8 AT; rw [map_map,map_map]; rfl
theorem Nj (F:Fun K "thing_number" "thing_number" C0 f fd) (B:Bl mg) (GN:Fn P w K mg base "next_mark" 1 ["numbers"] (D1 K)) (GI:Fn P w K mg base "is_names_of" 2 ["parts", "ahead"] DK)
  (GU:Fn P w K mg base "union_of" 1 ["numbers"] (Co K)) (GW:Fn P w K mg base "is_whole" 1 ["thing"] DW):Ae P w K mg base CX0 3 f fd ["thing", "ahead"] IK:=by
 obtain ⟨fN,dN,GN,mN,kN,bN⟩:=GN.ex;obtain ⟨fI,dI,GI,mI,kI,bI⟩:=GI.ex;obtain ⟨fU,dU,GU,mU,kU,bU⟩:=GU.ex;obtain ⟨fW,dW,GW,mW,kW,bW⟩:=GW.ex;refine F.ok O7 (fun vs H Q E h=>?_) (fun ad A outer s H vs Q E hr h=>?_)
 ·obtain ⟨tv,th,d,due,rfl,_⟩:=h;rfl
 ·obtain ⟨tv,th,d,due,rfl,hT,hd,DO,TO,k⟩:=h;have hu:=C7 hr;have hr1:Room 1 _:=hr.mono (by decide)
  refine ⟨_,AE (Au (C9 (Ej (pv 0))) (AD (AS (AM GN hr1 rfl mN kN bN .nil AQ (AA (Bq (Fw rfl) rfl B.list C4 (AA (KJ PySem.F.slot_dict_values PySem.F.type_dict_values HD (pv 1)) AB)) AB)))) Aa)
   (AE (Au (PW.pt (Cw (Bp (CA K rfl rfl B.isi rfl B.tuple DI (pv 0))) (B7 (Bp (AM GI hr rfl mI kI bI .nil AQ (AA (pv 0) (AA (pv 1) AB)))))))
    (AD (AS (AM GU hr1 rfl mU kU bU .nil AQ (AA (A3 ["ahead"] [some 1] (by kernel_rfl) (by decide +kernel) (by kernel_rfl) rfl (J1 (pv 0)) (fun _ _ _ _ _ _=>BL) (fun _ _ _ _ _ _=>BK hu (pv 1) (pv 0) (fun _ _=>rfl))) AB)))) Aa)
   (AE (Au (Bp (AM GW hr1 rfl mW kW bW .nil AQ (AA (pv 0) AB))) (AD (AS (pv 0))) Aa)
   (AD Ax))),?_⟩
  refine ⟨_,rfl,_,rfl,?_⟩;cases th with
  | non =>
   have e:tv=.non:=hT;subst e;refine Bn (fun _=>?_) (fun z=>absurd rfl z);refine ⟨_,rfl,d,rfl,.inl ⟨_,hd⟩,d,_,rfl,rfl,hd,fun p hp=>?_⟩;refine ⟨p,d,_,rfl,upd_same,Same.rd (AC (Same.refl _) hp) hd,fun l hl=>?_⟩;refine ⟨l,due.map (·.2),rfl,SqL.of (by rw [upd_same,Ni]),fun n hn=>?_,?_⟩
   ·obtain ⟨q,hq,rfl⟩:=mem_map.mp hn;exact DO.lt q hq
   ·exact k _ (AC (AC (Same.refl _) hp) hl)
  | num n =>
   have e:tv=.int (n:Int):=hT;subst e;refine Bn (fun z=>absurd (of_decide_eq_true z) (by intro q; cases q)) (fun _=>?_);refine ⟨_,rfl,_,_,_,false,rfl,.int _,(by kernel_rfl),_,rfl,?_⟩;refine As ?_;refine ⟨_,rfl,n,rfl,_,rfl,?_⟩;refine BY ?_;exact ⟨_,rfl,k H (Same.refl H)⟩
  | nms ns =>
   obtain ⟨a,rfl,ha⟩:=hT;obtain ⟨av,hln,hin⟩:=TO;refine Bn (fun z=>absurd (of_decide_eq_true z) (by intro q; cases q)) (fun _=>?_);refine ⟨_,rfl,_,_,_,true,rfl,.tup ha,rfl,_,rfl,?_⟩;have hl:(ns.map V.str).length=ns.length:=length_map _;refine ⟨_,rfl,_,rfl,a,d,ns,A8 due,rfl,ha,by omega,hd,fun H1 s1=>⟨_,rfl,?_⟩⟩
   have e1:(decide (0 < ns.length) && ns.all fun x=>(A7 (A8 due) (Sum.inr x:Key)).isSome)=true:=by
    rw [Bool.and_eq_true,decide_eq_true_eq,List.all_eq_true];refine ⟨length_pos_iff.mpr av,fun x hx=>?_⟩;rw [FI (hin x hx)];rfl
   rw [e1];refine BY ?_;refine ⟨_,rfl,a,rfl,⟨_,SqT.of (s1 _ _ ha)⟩,Fu (K:=K) (a:=a) (xs:=ns.map V.str) (fun i ys H2=>H2=H1/\ys=AT ((ns.take i).map (look due))) ⟨rfl,rfl⟩ (fun i ys H2 _ ⟨e,_⟩=>e ▸ SqT.of (s1 _ _ ha)) (fun i ys H2 ⟨_,e⟩=>?_) ?_ ?_⟩
   ·rw [e];unfold AT;rw [length_map,length_map,length_take];omega
   ·rintro i v ys H2 hi ⟨rfl,rfl⟩;rw [getElem?_map] at hi
    obtain ⟨x,hx,rfl⟩:∃ x,ns[i]?=some x/\v=V.str x:=by
     cases e:ns[i]? with
     | none=>rw [e] at hi; cases hi
     | some x=>rw [e] at hi; exact ⟨x,rfl,(Option.some.inj hi).symm⟩
    refine ⟨_,rfl,_,rfl,d,_,rfl,.inl ⟨A8 due,Sum.inr x,Same.rd s1 hd,rfl,(FI (hin x (mem_of_getElem? hx))).symm⟩,rfl,?_⟩;rw [take_add_one,hx,map_append];unfold AT;rw [map_append];rfl
   ·rintro ys H2 ⟨rfl,rfl⟩ p hp;have el:ns.take (ns.map V.str).length=ns:=by rw [hl]; exact take_length
    refine ⟨p,ns.map (look due),rfl,SqL.of (by rw [upd_same,el]),?_⟩;exact k _ (AC s1 hp)
end
end Mk
end
section
namespace L2
open PySem
theorem Nk {a:Addr} {xs:List V} {g:TG} {tb:TS} {D:Gq} {σ:St} (Pv:Nat->St->Hp->Prop) (h0:Pv 0 σ H) (hl:∀ i σ H,i <= xs.length->Pv i σ H->SqL K H a xs)
  (hs:∀ i x σ H p,xs[i]?=some x->Pv i σ H->H p=none->g (.ref p) σ (upd H p (.tup [.int i,x])) fun σ2 H2=>tb { D with nx:=Pv (i + 1),ct:=Pv (i + 1),bk:=D.nx } σ2 H2) (hd:∀ σ H,Pv xs.length σ H->D.nx σ H) :
  ∃ W:Nat->Nat->St->Hp->Prop,(∃ m,W 0 m σ H)/\∀ i m σ H,W i m σ H ->
   ((Ite K a).stop i H/\D.nx σ H)\/((Ite K a).go i H/\∃ N:St->Hp->Prop,(∀ σ' H',N σ' H'->∃ m',m' < m/\W (i + 1) m' σ' H')/\∀ x H',(Ite K a).yld i H x H'->g x σ H' fun σ2 H2=>tb { D with nx:=N,ct:=N,bk:=D.nx } σ2 H2):=by
 refine ⟨fun i m σ H=>m=xs.length - i/\i <= xs.length/\Pv i σ H,⟨_,rfl,Nat.zero_le _,h0⟩,?_⟩;rintro i m σ H ⟨rfl,hi,hp⟩;by_cases hlt:i < xs.length
 ·have hx:xs[i]?=some xs[i]:=List.getElem?_eq_getElem hlt;refine .inr ⟨⟨xs,xs[i],hl i σ H hi hp,hx⟩,Pv (i + 1),fun σ' H' q=>⟨xs.length - (i + 1),by omega,rfl,hlt,q⟩,?_⟩;rintro x H' ⟨p,y,hn,rfl,hy,rfl⟩
  have ex:y=xs[i]:=by
   have:=hy xs (hl i σ H hi hp);rw [hx] at this;exact (Option.some.inj this).symm
  subst ex;exact hs i xs[i] σ H p hx hp hn
 ·have e:i=xs.length:=by omega
  subst e;exact .inl ⟨⟨xs,hl _ σ H hi hp,Nat.le_refl _⟩,hd σ H hp⟩
theorem MY {a:Addr} {o:Obj} {kvs:LK} {g:TG} {tb:TS} {D:Gq} {σ:St} (Pv:Nat->St->Hp->Prop) (h0:Pv 0 σ H) (hl:∀ i σ H,Pv i σ H->H a=some (.frz o (.dK kvs)))
  (hs:∀ i kv σ H p,kvs[i]?=some kv->Pv i σ H->H p=none->g (.ref p) σ (upd H p (.tup [kV kv.1,kv.2])) fun σ2 H2=>tb { D with nx:=Pv (i + 1),ct:=Pv (i + 1),bk:=D.nx } σ2 H2) (hd:∀ σ H,Pv kvs.length σ H->D.nx σ H) :
  ∃ W:Nat->Nat->St->Hp->Prop,(∃ m,W 0 m σ H)/\∀ i m σ H,W i m σ H ->
   ((Iti a o kvs).stop i H/\D.nx σ H)\/((Iti a o kvs).go i H/\∃ N:St->Hp->Prop,(∀ σ' H',N σ' H'->∃ m',m' < m/\W (i + 1) m' σ' H')/\∀ x H',(Iti a o kvs).yld i H x H'->g x σ H' fun σ2 H2=>tb { D with nx:=N,ct:=N,bk:=D.nx } σ2 H2):=by
 refine ⟨fun i m σ H=>m=kvs.length - i/\i <= kvs.length/\Pv i σ H,⟨_,rfl,Nat.zero_le _,h0⟩,?_⟩;rintro i m σ H ⟨rfl,hi,hp⟩;by_cases hlt:i < kvs.length
 ·refine .inr ⟨⟨hl i σ H hp,hlt⟩,Pv (i + 1),fun σ' H' q=>⟨kvs.length - (i + 1),by omega,rfl,hlt,q⟩,?_⟩;rintro x H' ⟨p,kv,hn,rfl,hkv,rfl⟩;exact hs i kv σ H p hkv hp hn
 ·have e:i=kvs.length:=by omega
  subst e;exact .inl ⟨⟨hl _ σ H hp,Nat.le_refl _⟩,hd σ H hp⟩
end L2
namespace Mk
open PySem L2 MK
def Ro (x:Str):Prop:=Gz x=true/\x.cps.all (· < 128)=true/\x.length <= 1000
structure LL (due:LN) (r:Str × Th):Prop where
 ahead:JT due
 few:due.length < 10
 nm:Ro r.1
 new:r.1 ∉ due.map (·.1)
 th:O6 due r.2
 lt:CT due r.2 < 2 ^ 20
def AL (rows:List (Str × Th)):LN:=rows.foldl (fun due r=>due++[(r.1,CT due r.2)]) []
theorem E2 (rows:List (Str × Th)) (r:Str × Th):AL (rows++[r])=AL rows++[(r.1,CT (AL rows) r.2)]:=by unfold AL; rw [foldl_append]; rfl
def D2 (rows:List (Str × Th)):Prop:=∀ (i:Nat) r,rows[i]?=some r->LL (AL (rows.take i)) r
def RowAt (H:Hp) (b:Addr) (r:Str × Th):Prop:=∃ tv,H b=some (.tup [.str r.1,tv])/\ThAt H tv r.2
def Nm (H:Hp) (l:Addr) (rows:List (Str × Th)):Prop:=∃ as:List Addr,H l=some (.lst (as.map V.ref))/\Paired (RowAt H) as rows
theorem ThAt.same {v:V} {th:Th} (s:Same H H') (h:ThAt H v th):ThAt H' v th:=by
 cases th with
 | non=>exact h
 | num n=>exact h
 | nms ns=>obtain ⟨a,e,h⟩:=h; exact ⟨a,e,s _ _ h⟩
theorem RowAt.same {b:Addr} {r:Str × Th} (s:Same H H') (h:RowAt H b r):RowAt H' b r:=by
 obtain ⟨tv,e,t⟩:=h;exact ⟨tv,s _ _ e,t.same s⟩
theorem Bt {α β:Type} {F:α->β->Prop}:∀ {xs:List α} {ys:List β} {i:Nat} {x:α},Paired F xs ys->xs[i]?=some x->∃ y,ys[i]?=some y/\F x y
 | _,_,_,_,.nil,e=>by simp at e
 | _,_,0,_,.cons r _,e=>by simp at e; subst e; exact ⟨_,rfl,r⟩
 | _,_,i + 1,x,.cons _ t,e=>by
  obtain ⟨u,h1,h2⟩:=Bt (i:=i) (x:=x) t (by simpa using e);exact ⟨u,by simpa using h1,h2⟩
theorem GQ {H1:Hp} {d:Addr} {o:HO} (s:Same H H1) (hd:H d=none):Same H (upd H1 d o):=fun b u e=>by
 rw [AF (AI e hd)];exact s b u e
section
def Nn:Sp:=fun vs H Q _=>∃ (b d:Addr) (r:Str × Th) (due:LN),vs=[.ref b,.ref d]/\RowAt H b r/\Rd H d (.dK (A8 due))/\LL due r/\∀ H',Same H H'->Q (.int (CT due r.2:Nat)) H'
theorem scRow:AN ["row", "ahead", "name", "thing", "number"] ["row", "ahead"] (defScope Dq):=fsc
theorem Qa {tg:Tok} (F:Fun K "row_number" "row_number" Dq f fd) (B:Bl mg) (hG:mg "GREATEST" = some (.int 1048575 tg)) (GN:Fn P w K mg base "is_name" 1 ["thing"] GG) (GT:Fn P w K mg base "thing_number" 3 ["thing", "ahead"] IK) :
  Ae P w K mg base CX0 4 f fd ["row", "ahead"] Nn:=by
 obtain ⟨fN,dN,GN,mN,kN,bN⟩:=GN.ex;obtain ⟨fT,dT,GT,mT,kT,bT⟩:=GT.ex;refine F.ok scRow (fun vs H Q E h=>?_) (fun ad A outer s H vs Q E hr h=>?_)
 ·obtain ⟨b,d,r,due,rfl,_⟩:=h;rfl
 ·obtain ⟨b,d,r,due,rfl,⟨tv,hb,hT⟩,hd,RO,k⟩:=h;have hu:=C7 hr;have hr1:Room 1 _:=hr.mono (by decide)
  refine ⟨_,AE (Au (PW.pt (De (B3 (Bp (CA K rfl rfl B.isi rfl B.tuple DI (pv 0)))) (CZ (AU CI (AX (Av K rfl) rfl B.len PySem.boot_len (AA (pv 0) AB)) AH (AY _))))) (AD Ax) Aa)
   (AE (Cz (pv 0) (BI rfl (AR (AO (i:=2) scRow.nd rfl (Or.inl rfl)) (AR (AO (i:=3) scRow.nd rfl (Or.inl rfl)) A6))))
   (AE (Au (PW.pt (De (B3 (Bp (AM GN hr1 rfl mN kN bN .nil AQ (AA (pv 2) AB)))) (CZ (C9 (NF hu (pv 2) (pv 1)))))) (AD Ax) Aa)
   (AE (Ac (i:=4) scRow.nd rfl (Or.inl rfl) (AM GT hr rfl mT kT bT .nil AQ (AA (pv 3) (AA (pv 1) AB))))
   (AE (Au (PW.pt (De (C9 (Ej (pv 4))) (CZ (B3 (Ff FE FE AH (pv 4) (CP (v:=.int 1048575) rfl hG ⟨tg,rfl⟩)))))) (AD Ax) Aa)
   (AD (AS (pv 4))))))),?_⟩
  refine ⟨_,rfl,_,_,_,true,rfl,.tup hb,rfl,_,rfl,?_⟩;refine As ?_;refine ⟨_,rfl,b,_,rfl,.inr (SqT.of hb),rfl,_,rfl,?_⟩;refine LA rfl ?_;refine ⟨_,rfl,b,_,rfl,SqT.of hb,rfl,_,_,rfl,_,_,rfl,rfl,?_⟩;refine ⟨_,rfl,r.1,rfl,RO.nm.2.1,RO.nm.2.2,fun H1 s1=>⟨_,rfl,?_⟩⟩;rw [RO.nm.1];refine As ?_;refine ⟨_,rfl,_,rfl,d,_,rfl,.inl ⟨A8 due,Sum.inr r.1,Same.rd s1 hd,rfl,(ES RO.new).symm⟩,_,rfl,?_⟩;refine As ?_;refine ⟨_,rfl,_,rfl,tv,r.2,d,due,rfl,hT.same s1,Same.rd s1 hd,RO.ahead,RO.th,fun H2 s2=>?_⟩;refine ⟨_,rfl,_,rfl,?_⟩;refine Bn (fun z=>absurd (of_decide_eq_true z) (by intro q; cases q)) (fun _=>?_);refine ⟨_,rfl,_,_,rfl,rfl,_,rfl,?_⟩;refine Bn (fun _=>?_) (fun z=>absurd (decide_eq_true (Int.natCast_nonneg _)) z);refine ⟨_,_,rfl,rfl,_,rfl,?_⟩;have hlt:=RO.lt;refine LA (show ((CT due r.2:Nat):Int) <= 1048575 by omega) ?_;exact ⟨_,rfl,k _ (s1.trans s2)⟩
def D3:Sp:=fun vs H Q _=>∃ (l:Addr) (rows:List (Str × Th)),vs=[.ref l]/\Nm H l rows/\0 < rows.length/\rows.length <= 10/\D2 rows /\
 ∀ d H',Same H H'->H d=none->H' d=some (.dK (A8 (AL rows)))->Q (.ref d) H'
theorem scNumbered:AN ["rows", "numbers", "at", "row", "number"] ["rows"] (defScope Eu):=fsc
theorem O9 {x:Str} {n:Nat} (h:x ∉ due.map (·.1)):B0 (A8 due) (Sum.inr x:Key) (V.int (n:Int))=A8 (due++[(x,n)]):=by
 rw [Fl _ (ES h)];unfold A8;rw [map_append];rfl
theorem HM (due:LN):(A8 due).length=due.length:=length_map _
theorem Bi:∀ rows:List (Str × Th),(AL rows).length=rows.length:=fun rows=>by
 have:∀ (l:List (Str × Th)) (a:LN),(l.foldl (fun due r=>due++[(r.1,CT due r.2)]) a).length=a.length + l.length:=by
  intro l;induction l with
  | nil=>intro a; rfl
  | cons x r ih=>intro a; rw [foldl_cons,ih,length_append,length_cons,length_cons,length_nil]; omega
 have e:=this rows [];rw [length_nil] at e;unfold AL;omega
theorem JU {tm:Tok} (F:Fun K "numbered" "numbered" Eu f fd) (B:Bl mg) (hM:mg "MOST_ROWS" = some (.int 10 tm)) (GR:Fn P w K mg base "row_number" 4 ["row", "ahead"] Nn):Ae P w K mg base CX0 5 f fd ["rows"] D3:=by
 obtain ⟨fR,dR,GR,mR,kR,bR⟩:=GR.ex;refine F.ok scNumbered (fun vs H Q E h=>?_) (fun ad A outer s H vs Q E hr h=>?_)
 ·obtain ⟨l,rows,rfl,_⟩:=h;rfl
 ·obtain ⟨l,rows,rfl,⟨as,hl,hP⟩,h0,h10,RO,k⟩:=h;have hu:=C7 hr;have ay:as.length=rows.length:=hP.length
  refine ⟨_,AE (Au (PW.pt (De (B3 (Bp (CA K rfl rfl B.isi rfl B.list C4 (pv 0)))) (CZ (B3 (Ff FE FE AH (AX (Av K rfl) rfl B.len PySem.boot_len (AA (pv 0) AB)) (CP (v:=.int 10) rfl hM ⟨tm,rfl⟩)))))) (AD Ax) Aa)
   (AE (Ac (i:=1) scNumbered.nd rfl (Or.inl rfl) Fq)
   (AE (BW PassesOwn.never rfl (Ox rfl B.enum (AA (pv 0) AB)) (BI rfl (AR (AO (i:=2) scNumbered.nd rfl (Or.inl rfl)) (AR (AO (i:=3) scNumbered.nd rfl (Or.inl rfl)) A6)))
    (AE (Ac (i:=4) scNumbered.nd rfl (Or.inl rfl) (AM GR hr rfl mR kR bR .nil AQ (AA (pv 3) (AA (pv 1) AB))))
    (AE (Au (C9 (Ej (pv 4))) (AD Ax) Aa)
    (AD (K9 hu (pv 1) (BZ (DV K rfl) (pv 3) AH (fun _ _=>rfl)) (pv 4) rfl)))))
   (AD (AS (pv 1))))),?_⟩
  refine ⟨_,rfl,_,_,_,true,rfl,.lst hl,rfl,_,rfl,?_⟩;refine As ?_;have hll:(as.map V.ref).length=rows.length:=by rw [length_map,ay]
  refine ⟨_,rfl,l,_,rfl,.inl (SqL.of hl),_,_,rfl,rfl,_,rfl,?_⟩;refine Bn (fun _=>?_) (fun z=>absurd (decide_eq_true (by rw [hll]; omega)) z);refine ⟨_,_,rfl,rfl,_,rfl,?_⟩;refine LA (show (((as.map V.ref).length:Nat):Int) <= 10 by rw [hll]; omega) ?_;intro d hdn
  refine ⟨_,rfl,l,rfl,⟨_,SqL.of (AC (Same.refl _) hdn _ _ hl)⟩,Nk (K:=K) (a:=l) (xs:=as.map V.ref) (fun i σ H2=>∃ v1 v2 v3:Option V,σ=[some (.ref l),some (.ref d),v1,v2,v3]/\Same H H2/\H2 d=some (.dK (A8 (AL (rows.take i)))))
   ⟨none,none,none,rfl,AC (Same.refl _) hdn,upd_same⟩ (fun i σ H2 _ ⟨_,_,_,_,s2,_⟩=>SqL.of (s2 _ _ hl)) ?_ ?_⟩
  ·rintro i y σ H2 p hi ⟨v1,v2,v3,rfl,s2,hd2⟩ hp;rw [getElem?_map] at hi
   obtain ⟨b,hb,rfl⟩:∃ b,as[i]?=some b/\y=V.ref b:=by
    cases e:as[i]? with
    | none=>rw [e] at hi; cases hi
    | some x=>rw [e] at hi; exact ⟨x,rfl,(Option.some.inj hi).symm⟩
   obtain ⟨r,hr',hra⟩:=Bt hP hb;have R1:=RO i r hr';have s3:Same H (upd H2 p (.tup [.int i,.ref b])):=AC s2 hp;have hd3:(upd H2 p (.tup [.int i,.ref b])) d=some (.dK (A8 (AL (rows.take i)))):=by rw [AF (AI hd2 hp)]; exact hd2
   refine ⟨p,_,rfl,SqT.of upd_same,rfl,_,_,rfl,_,_,rfl,rfl,?_⟩;refine ⟨_,rfl,_,rfl,b,d,r,AL (rows.take i),rfl,hra.same s3,.inl hd3,R1,fun H4 s4=>?_⟩;refine ⟨_,rfl,_,rfl,?_⟩;refine Bn (fun z=>absurd (of_decide_eq_true z) (by intro q; cases q)) (fun _=>?_);obtain ⟨tv,ai,_⟩:=hra.same (s3.trans s4);refine ⟨_,rfl,_,rfl,_,rfl,b,_,0,.str r.1,rfl,rfl,SqT.of ai,rfl,d,_,rfl,DPut.k (k:=Sum.inr r.1) (s4 _ _ hd3) (Ag (by rw [HM,Bi,length_take]; omega)),?_⟩;refine ⟨_,_,_,rfl,GQ (s3.trans s4) hdn,?_⟩;rw [upd_same,O9 R1.new,take_add_one,hr',Option.toList_some,E2]
  ·rintro σ H2 ⟨v1,v2,v3,rfl,s2,hd2⟩;rw [hll,take_length] at hd2;exact ⟨_,rfl,k d H2 s2 hdn hd2⟩
end
def AV (due:LN):List (Nat × Str):=due.foldl (fun fs p=>if (fs.map (·.1)).contains p.2 then fs else fs++[(p.2,p.1)]) []
def Bo (fs:List (Nat × Str)):LK:=fs.map fun q=>(Sum.inl (q.1:Int),V.str q.2)
def Bc (fs:List (Nat × Str)) (n:Nat):Str:=((fs.find? fun q=>decide (q.1=n)).map (·.2)).getD (Str.ofString "")
theorem CV (due:LN) (p:Str × Nat):AV (due++[p])=if ((AV due).map (·.1)).contains p.2 then AV due else AV due++[(p.2,p.1)]:=by unfold AV; rw [foldl_append]; rfl
theorem E3 (n:Nat):∀ fs:List (Nat × Str),A7 (Bo fs) (Sum.inl (n:Int):Key)=(fs.find? fun q=>decide (q.1=n)).map fun q=>V.str q.2
 | []=>rfl
 | q :: r=>by
  show A7 ((Sum.inl (q.1:Int),V.str q.2) :: Bo r) (Sum.inl (n:Int))=_;by_cases e:q.1=n
  ·rw [Cl (p:=(Sum.inl (q.1:Int),V.str q.2)) (by rw [← e]),List.find?_cons_of_pos (by simpa using e)]; rfl
  ·rw [Cm (p:=(Sum.inl (q.1:Int),V.str q.2)) (fun z=>e (by have:=Sum.inl.inj z; omega)),List.find?_cons_of_neg (by simpa using e)]; exact E3 n r
theorem GS {fs:List (Nat × Str)} {n:Nat} (h:n ∈ fs.map (·.1)):(fs.find? fun q=>decide (q.1=n)).isSome=true:=by
 obtain ⟨q,hq,e⟩:=mem_map.mp h;rw [List.find?_isSome];exact ⟨q,hq,by simpa using e⟩
theorem EU {fs:List (Nat × Str)} {n:Nat} (h:n ∈ fs.map (·.1)):A7 (Bo fs) (Sum.inl (n:Int):Key)=some (V.str (Bc fs n)):=by
 rw [E3];unfold Bc;obtain ⟨q,hq⟩:=Option.isSome_iff_exists.mp (GS h);rw [hq]; rfl
theorem E4 {fs:List (Nat × Str)} {n:Nat} (h:n ∉ fs.map (·.1)):A7 (Bo fs) (Sum.inl (n:Int):Key)=none:=by
 rw [E3]
 have:(fs.find? fun q=>decide (q.1=n))=none:=by
  rw [find?_eq_none];intro q hq e;exact h (mem_map.mpr ⟨q,hq,by simpa using e⟩)
 rw [this]; rfl
theorem JV {fs:List (Nat × Str)} {n:Nat} {x:Str} (h:n ∉ fs.map (·.1)):B0 (Bo fs) (Sum.inl (n:Int):Key) (V.str x)=Bo (fs++[(n,x)]):=by
 rw [Fl _ (E4 h)];unfold Bo;rw [map_append];rfl
theorem CL (due:LN):(AV due).length <= due.length:=by
 have:∀ (l:LN) (a:List (Nat × Str)),(l.foldl (fun fs p=>if (fs.map (·.1)).contains p.2 then fs else fs++[(p.2,p.1)]) a).length <= a.length + l.length:=by
  intro l;induction l with
  | nil=>intro a; exact Nat.le_refl _
  | cons x r ih =>
   intro a;rw [foldl_cons];refine Nat.le_trans (ih _) ?_;split
   ·rw [length_cons]; omega
   ·rw [length_append,length_cons,length_cons,length_nil]; omega
 have e:=this due [];rw [length_nil] at e;unfold AV;omega
theorem DL (due:LN):∀ (a:List (Nat × Str)),(a.map (·.1)).Nodup->(∀ n ∈ a.map (·.1),n ∈ (due.foldl (fun fs p=>if (fs.map (·.1)).contains p.2 then fs else fs++[(p.2,p.1)]) a).map (·.1)) /\
  ((due.foldl (fun fs p=>if (fs.map (·.1)).contains p.2 then fs else fs++[(p.2,p.1)]) a).map (·.1)).Nodup/\(∀ p ∈ due,p.2 ∈ (due.foldl (fun fs p=>if (fs.map (·.1)).contains p.2 then fs else fs++[(p.2,p.1)]) a).map (·.1)) /\
  (∀ q ∈ due.foldl (fun fs p=>if (fs.map (·.1)).contains p.2 then fs else fs++[(p.2,p.1)]) a,q ∈ a\/(q.2,q.1) ∈ due):=by
 induction due with
 | nil=>intro a ha; exact ⟨fun n hn=>hn,ha,fun p hp=>(nomatch hp),fun q hq=>.inl hq⟩
 | cons p r ih =>
  intro a ha;rw [foldl_cons];by_cases hc:(a.map (·.1)).contains p.2=true
  ·rw [if_pos hc];obtain ⟨i1,i2,i3,i4⟩:=ih a ha;refine ⟨i1,i2,fun q hq=>?_,fun q hq=>?_⟩
   ·rcases mem_cons.mp hq with rfl | hq
    ·exact i1 _ (by simpa using hc)
    ·exact i3 q hq
   ·rcases i4 q hq with z | z
    ·exact .inl z
    ·exact .inr (mem_cons_of_mem _ z)
  ·rw [if_neg hc];have hnot:p.2 ∉ a.map (·.1):=fun z=>hc (by simpa using z);obtain ⟨i1,i2,i3,i4⟩:=ih (a++[(p.2,p.1)]) (by rw [map_append]; exact LB ha hnot);refine ⟨fun n hn=>i1 n (by rw [map_append]; exact mem_append_left _ hn),i2,fun q hq=>?_,fun q hq=>?_⟩
   ·rcases mem_cons.mp hq with rfl | hq
    ·exact i1 _ (by rw [map_append]; exact mem_append_right _ (by simp))
    ·exact i3 q hq
   ·rcases i4 q hq with z | z
    ·rcases mem_append.mp z with z | z
     ·exact .inl z
     ·have:q=(p.2,p.1):=by simpa using z
      subst this;exact .inr mem_cons_self
    ·exact .inr (mem_cons_of_mem _ z)
theorem HN (due:LN):((AV due).map (·.1)).Nodup:=(DL due [] nodup_nil).2.1
theorem MZ {p:Str × Nat} (h:p ∈ due):p.2 ∈ (AV due).map (·.1):=(DL due [] nodup_nil).2.2.1 p h
theorem E5 {q:Nat × Str} (h:q ∈ AV due):(q.2,q.1) ∈ due:=by
 rcases (DL due [] nodup_nil).2.2.2 q h with z | z
 ·cases z
 ·exact z
section
def GX:Sp:=fun vs H Q _=>∃ (d:Addr) (o:Obj) (due:LN),vs=[.ref d]/\H d=some (.frz o (.dK (A8 due)))/\due.length <= 100/\∀ e H',Same H H'->H e=none->H' e=some (.dK (Bo (AV due)))->Q (.ref e) H'
theorem scFirsts:AN ["numbers", "firsts", "name", "number"] ["numbers"] (defScope DE):=fsc
theorem No {i:Nat} {kv:Key × V} (h:(A8 due)[i]?=some kv):∃ p,due[i]?=some p/\kv=(Sum.inr p.1,V.int (p.2:Int)):=by
 unfold A8 at h;rw [getElem?_map] at h;cases e:due[i]? with
 | none=>rw [e] at h; cases h
 | some p=>rw [e] at h; exact ⟨p,rfl,(Option.some.inj h).symm⟩
theorem Ma (F:Fun K "first_names" "first_names" DE f fd):Ae P w K mg base CX0 1 f fd ["numbers"] GX:=by
 refine F.ok scFirsts (fun vs H Q E h=>?_) (fun ad A outer s H vs Q E hr h=>?_)
 ·obtain ⟨d,o,due,rfl,_⟩:=h;rfl
 ·obtain ⟨d,o,due,rfl,hd,hz,k⟩:=h
  refine ⟨_,AE (Ac (i:=1) scFirsts.nd rfl (Or.inl rfl) Fq)
   (AE (BW PassesOwn.never rfl (NJ (pv 0)) (BI rfl (AR (AO (i:=2) scFirsts.nd rfl (Or.inl rfl)) (AR (AO (i:=3) scFirsts.nd rfl (Or.inl rfl)) A6)))
    (AD (ED (Iz PySem.F.plainAttrs_dict PySem.F.slot_dict_setdefault PySem.F.type_dict_setdefault Gu (pv 1) (AA (pv 3) (AA (pv 2) AB))))))
   (AD (AS (pv 1)))),?_⟩
  intro e he
  refine ⟨_,rfl,d,o,A8 due,rfl,AC (Same.refl _) he _ _ hd,MY (a:=d) (o:=o) (kvs:=A8 due) (fun i σ H2=>∃ v1 v2:Option V,σ=[some (.ref d),some (.ref e),v1,v2]/\Same H H2/\H2 e=some (.dK (Bo (AV (due.take i)))))
   ⟨none,none,rfl,AC (Same.refl _) he,upd_same⟩ (fun i σ H2 ⟨_,_,_,s2,_⟩=>s2 _ _ hd) ?_ ?_⟩
  ·rintro i kv σ H2 p hkv ⟨v1,v2,rfl,s2,he2⟩ hp;obtain ⟨pr,hpr,rfl⟩:=No hkv;have s3:Same H (upd H2 p (.tup [.str pr.1,.int (pr.2:Int)])):=AC s2 hp;have he3:(upd H2 p (.tup [.str pr.1,.int (pr.2:Int)])) e=some (.dK (Bo (AV (due.take i)))):=by rw [AF (AI he2 hp)]; exact he2
   have et:due.take (i + 1)=due.take i++[pr]:=by rw [take_add_one,hpr]; rfl
   have hle:(Bo (AV (due.take i))).length <= 100:=by
    unfold Bo;rw [length_map];have:=CL (due.take i);rw [length_take] at this;omega
   refine ⟨p,_,rfl,SqT.of upd_same,rfl,_,_,rfl,_,_,rfl,rfl,?_⟩;refine ⟨_,rfl,.inr (.inr (.inl ⟨rfl,.inl ⟨_,he3⟩⟩)),_,rfl,_,rfl,e,_,Sum.inl (pr.2:Int),.str pr.1,rfl,rfl,he3,Ag (by omega),fun w' hw=>?_,fun hn=>?_⟩
   ·refine ⟨_,_,rfl,s3,?_⟩;have z:pr.2 ∈ (AV (due.take i)).map (·.1):=Decidable.byContradiction fun z=>by rw [E4 z] at hw; cases hw
    rw [et,CV,if_pos (by simpa using z)];exact he3
   ·have z:pr.2 ∉ (AV (due.take i)).map (·.1):=fun z=>by rw [EU z] at hn; cases hn
    refine ⟨_,_,rfl,GQ s3 he,?_⟩;rw [upd_same,et,CV,if_neg (by simpa using z),JV z]
  ·rintro σ H2 ⟨v1,v2,rfl,s2,he2⟩;rw [HM,take_length] at he2;exact ⟨_,rfl,k e H2 s2 he he2⟩
end
theorem n12:¬ (("numbers" : Str) = "firsts"):=by decide +kernel
theorem n13:¬ (("numbers" : Str) = "rule"):=by decide +kernel
theorem n23:¬ (("firsts" : Str) = "rule"):=by decide +kernel
def G0 (d1 d2:Addr) (r:Str):List (Str × V):=Aq "rule" (.str r) (Aq "firsts" (.ref d2) (Aq "numbers" (.ref d1) []))
theorem JW (d1 d2:Addr) (r:Str):(G0 d1 d2 r).lookup ("numbers" : Str)=some (.ref d1):=by
 unfold G0;rw [AJ,if_neg n13,AJ,if_neg n12,AJ,if_pos rfl]
theorem GY (d1 d2:Addr) (r:Str):(G0 d1 d2 r).lookup ("firsts" : Str)=some (.ref d2):=by
 unfold G0;rw [AJ,if_neg n23,AJ,if_pos rfl]
theorem E6 (d1 d2:Addr) (r:Str):(G0 d1 d2 r).lookup ("rule" : Str)=some (.str r):=by
 unfold G0;rw [AJ,if_pos rfl]
theorem DX (d1 d2:Addr) (r:Str) {m:Str} (h1:¬ m = "rule" := by decide +kernel) (h2:¬ m = "firsts" := by decide +kernel) (h3:¬ m = "numbers" := by decide +kernel):(G0 d1 d2 r).lookup m=none:=by
 unfold G0;rw [AJ,if_neg h1,AJ,if_neg h2,AJ,if_neg h3];rfl
theorem PD (d1:Addr):(Aq "numbers" (V.ref d1) []).lookup ("numbers" : Str)=some (.ref d1):=by rw [AJ,if_pos rfl]
structure KindAt (C:Addr) (H:Hp) (p:Addr) (due:LN) (r:Str):Prop where
 ex:∃ dx d1 o1 d2 o2,H p=some (.ins C dx (G0 d1 d2 r))/\H d1=some (.frz o1 (.dK (A8 due)))/\H d2=some (.frz o2 (.dK (Bo (AV due))))
theorem KindAt.same {p:Addr} {r:Str} (s:Same H H') (h:KindAt C H p due r):KindAt C H' p due r:=by
 obtain ⟨dx,d1,o1,d2,o2,a,b,c⟩:=h.ex;exact ⟨⟨dx,d1,o1,d2,o2,s _ _ a,s _ _ b,s _ _ c⟩⟩
structure E7 (K:FG) (C:Addr):Prop where
 cl:Cls K C
 nN:NoAttr K C "numbers"
 nF:NoAttr K C "firsts"
 nR:NoAttr K C "rule"
def ruleNames:List Str:=["bar", "drop", "keep", "leave"]
section
def Np (C:Addr):Sp:=fun vs H Q _=>∃ (p dx l:Addr) (rows:List (Str × Th)) (r:Str),vs=[.ref p,.ref l,.str r]/\H p=some (.ins C dx [])/\Nm H l rows/\0 < rows.length/\rows.length <= 10/\D2 rows/\r ∈ ruleNames /\
 ∀ H',(∀ b o,H b=some o->b ≠ p->H' b=some o)->KindAt C H' p (AL rows) r->Q .non H'
theorem Qb:AN ["self", "rows", "rest"] ["self", "rows", "rest"] (defScope BH):=fsc
theorem Nq {r:Str} (h:r ∈ ruleNames):inV (.str r) (ruleNames.map V.str)=true:=by
 unfold inV;rw [any_map,any_eq_true];exact ⟨r,h,by show (r == r)=true; simp⟩
theorem PH {aR:Addr} (F:Fun K "__init__" "Kind.__init__" BH f fd) (B:Bl mg) (T:E7 K C) (hR:mg "RULES" = some (.ref aR)) (hRT:∀ H:Hp,SqT K H aR (ruleNames.map V.str))
  (GN:Fn P w K mg base "numbered" 5 ["rows"] D3) (GF:Fn P w K mg base "first_names" 1 ["numbers"] GX) (GO:Fn P w K mg base "is_one_of" 1 ["thing", "names"] (Cp K)):Ae P w K mg base CX0 6 f fd ["self", "rows", "rest"] (Np C):=by
 obtain ⟨fN,dN,GN,mN,kN,bN⟩:=GN.ex;obtain ⟨fF,dF,GF,mF,kF,bF⟩:=GF.ex;obtain ⟨fO,dO,GO,mO,kO,bO⟩:=GO.ex;refine F.ok Qb (fun vs H Q E h=>?_) (fun ad A outer s H vs Q E hr h=>?_)
 ·obtain ⟨p,dx,l,rows,r,rfl,_⟩:=h;rfl
 ·obtain ⟨p,dx,l,rows,r,rfl,hp,RA,h0,h10,RO,ao,k⟩:=h;have hr1:Room 1 _:=hr.mono (by decide)
  refine ⟨_,AE (Cc (pv 0) (AM GN hr rfl mN kN bN .nil AQ (AA (pv 1) AB)) rfl)
   (Dl (AE (Au (B3 (Bp (AM GO hr1 rfl mO kO bO .nil AQ (AA (pv 2) (AA (CP (v:=.ref aR) rfl hR rfl) AB))))) (AD Ax) Aa)
   (AE (Cc (pv 0) (AM GF hr1 rfl mF kF bF .nil AQ (AA (Ak (pv 0) rfl) AB)) rfl)
   (Dl (AD (Cc (pv 0) (pv 2) rfl)))))),?_⟩
  refine ⟨_,rfl,l,rows,rfl,RA,h0,h10,RO,fun d1 H1 s1 hd1n hd1=>?_⟩;have npd:p ≠ d1:=AI hp hd1n;refine ⟨_,rfl,p,C,dx,[],rfl,s1 _ _ hp,T.cl,T.nN,(by show 0 < 1000; decide),?_⟩;refine ⟨d1,A8 (AL rows),by rw [AF (Ne.symm npd)]; exact hd1,fun o1=>?_⟩;refine ⟨_,rfl,.inr ⟨r,aR,ruleNames,rfl,hRT _,_,rfl,?_⟩⟩;rw [Nq ao];refine As ?_;have ak:∀ o,(upd (upd H1 p (.ins C dx (Aq "numbers" (.ref d1) []))) d1 o) p=some (.ins C dx (Aq "numbers" (.ref d1) [])):=fun o=>by rw [AF npd,upd_same]
  refine ⟨_,rfl,p,C,dx,_,_,rfl,ak _,T.cl,T.nN,PD d1,d1,o1,AL rows,rfl,upd_same,by rw [Bi]; omega,fun d2 H2 s2 hd2n hd2=>?_⟩;have npd2:p ≠ d2:=AI (ak _) hd2n;have hp3:=s2 _ _ (ak _);refine ⟨_,rfl,p,C,dx,_,rfl,hp3,T.cl,T.nF,(by show 1 < 1000; decide),?_⟩;refine ⟨d2,Bo (AV (AL rows)),by rw [AF (Ne.symm npd2)]; exact hd2,fun o2=>?_⟩;have hp4:∀ o,(upd (upd H2 p (.ins C dx (Aq "firsts" (.ref d2) (Aq "numbers" (.ref d1) [])))) d2 o) p=some (.ins C dx (Aq "firsts" (.ref d2) (Aq "numbers" (.ref d1) []))):=fun o=>by rw [AF npd2,upd_same]
  refine ⟨_,rfl,_,rfl,p,C,dx,_,rfl,hp4 _,T.cl,T.nR,Nat.lt_of_le_of_lt (A0 _ _ _) (by show 2 < 1000; decide),?_⟩;have nd12:d1 ≠ d2:=AI (upd_same (H:=upd H1 p (.ins C dx (Aq "numbers" (.ref d1) []))) (o:=.frz o1 (.dK (A8 (AL rows))))) hd2n;refine k _ (fun b o e hb=>?_) ⟨⟨dx,d1,o1,d2,o2,upd_same,?_,?_⟩⟩
  ·rw [AF hb,AF,AF hb]
   ·refine s2 _ _ ?_;rw [AF (AI e hd1n),AF hb];exact s1 _ _ e
   ·intro z;subst z
    have:(upd (upd H1 p (.ins C dx (Aq "numbers" (.ref d1) []))) d1 (.frz o1 (.dK (A8 (AL rows))))) b=some o:=by
     rw [AF (AI e hd1n),AF hb];exact s1 _ _ e
    rw [hd2n] at this;cases this
  ·rw [AF (Ne.symm npd),AF nd12,AF (Ne.symm npd)];exact s2 _ _ upd_same
  ·rw [AF (Ne.symm npd2),upd_same]
end
structure Mt (P:Program) (w:World) (K:FG) (mg:SV) (base:Heap) (C:Addr) (m:Str) (k:Nat) (ps:List Str) (sp:Sp):Prop where
 ex:∃ f fd,Ae P w K mg base CX0 k f fd ps sp/\Ir K C m f/\Binds K fd ps []
def DN (due:LN):List (V × V):=due.map fun p=>(V.str p.1,V.int (p.2:Int))
def An (due:LN):List Nat:=((AV due).map (·.1)).mergeSort fun a b=>decide (a <= b)
def AG (due:LN):List Nat:=(An due).filter Al
def Cq (due:LN):List (V × V):=(AG due).map fun n=>(V.str (Bc (AV due) n),V.int (n:Int))
theorem CM (due:LN):(An due).Perm ((AV due).map (·.1)):=List.mergeSort_perm _ _
theorem EV (due:LN):(An due).Pairwise (· <= ·):=by
 have:=List.pairwise_mergeSort (le:=fun a b:Nat=>decide (a <= b)) (fun a b c h1 h2=>by simp at h1 h2 ⊢; omega) (fun a b=>by simp; omega) ((AV due).map (·.1));exact this.imp fun h=>by simpa using h
theorem JX {ns:List Int} (hp:ns.Perm ((Bo (AV due)).map fun kv=>match kv.1 with | Sum.inl i=>i | Sum.inr _=>0)) (hs:ns.Pairwise (· <= ·)):ns=(An due).map fun n:Nat=>(n:Int):=by
 refine List.Perm.eq_of_pairwise (le:=(· <= ·)) (fun a b _ _ h1 h2=>Int.le_antisymm h1 h2) hs ?_ ?_
 ·rw [pairwise_map];exact (EV due).imp fun h=>by omega
 ·have e:((Bo (AV due)).map fun kv=>match kv.1 with | Sum.inl i=>i | Sum.inr _=>0)=((AV due).map (·.1)).map fun n:Nat=>(n:Int):=by
   unfold Bo;rw [map_map,map_map];rfl
  rw [e] at hp;exact hp.trans ((CM due).symm.map _)
theorem mem_keysS {n:Nat}:n ∈ An due ↔ n ∈ (AV due).map (·.1):=(CM due).mem_iff
theorem DY (due:LN):(An due).length <= due.length:=by
 rw [(CM due).length_eq,length_map];exact CL due
section
def Ki (C:Addr):Sp:=fun vs H Q _=>∃ (p:Addr) (due:LN) (r:Str),vs=[.ref p]/\KindAt C H p due r/\∀ l as H',Same H H'->H' l=some (.lst (as.map V.ref))->TupsAt H' as (DN due)->Q (.ref l) H'
theorem Qc:AN ["self"] ["self"] (defScope Ev):=fsc
theorem PJ (due:LN):(A8 due).map (fun kv=>(kV kv.1,kv.2))=DN due:=by unfold A8 DN; rw [map_map]; rfl
theorem PL (F:Fun K "rows" "Kind.rows" Ev f fd) (B:Bl mg) (T:E7 K C):Ae P w K mg base CX0 1 f fd ["self"] (Ki C):=by
 refine F.ok Qc (fun vs H Q E h=>?_) (fun ad A outer s H vs Q E hr h=>?_)
 ·obtain ⟨p,due,r,rfl,_⟩:=h;rfl
 ·obtain ⟨p,due,r,rfl,KA,k⟩:=h;obtain ⟨dx,d1,o1,d2,o2,hp,h1,h2⟩:=KA.ex;refine ⟨_,AD (AS (Bq (KL rfl) rfl B.list C4 (AA (KJ PySem.F.slot_dict_items PySem.F.type_dict_items NL (Ak (pv 0) rfl)) AB))),?_⟩;refine ⟨_,rfl,p,C,dx,_,_,rfl,hp,T.cl,T.nN,JW _ _ _,d1,rfl,.inl ⟨_,.inr ⟨o1,h1⟩⟩,d1,_,rfl,rfl,.inr ⟨o1,h1⟩,fun v hv=>?_⟩;have s1:Same H (upd H v (LG d1 v)):=AC (Same.refl _) hv;refine ⟨v,d1,_,rfl,upd_same,Same.rd s1 (.inr ⟨o1,h1⟩),fun l as H' s2 _ hl ht=>?_⟩;rw [PJ] at ht;exact k l as H' (s1.trans s2) hl ht
def IL (C:Addr):Sp:=fun vs H Q _=>∃ (p:Addr) (due:LN) (r:Str),vs=[.ref p]/\KindAt C H p due r/\∀ H',Same H H'->Q (.int (AZ ((AV due).map (·.1)):Nat)) H'
theorem PM:AN ["self"] ["self"] (defScope Ds):=fsc
theorem Nr (F:Fun K "known" "Kind.known" Ds f fd) (B:Bl mg) (T:E7 K C) (GU:Fn P w K mg base "union_of" 1 ["numbers"] (Co K)):Ae P w K mg base CX0 2 f fd ["self"] (IL C):=by
 obtain ⟨fU,dU,GU,mU,kU,bU⟩:=GU.ex;refine F.ok PM (fun vs H Q E h=>?_) (fun ad A outer s H vs Q E hr h=>?_)
 ·obtain ⟨p,due,r,rfl,_⟩:=h;rfl
 ·obtain ⟨p,due,r,rfl,KA,k⟩:=h;obtain ⟨dx,d1,o1,d2,o2,hp,h1,h2⟩:=KA.ex;refine ⟨_,AD (AS (AM GU hr rfl mU kU bU .nil AQ (AA (Bq (KK rfl) rfl B.list C4 (AA (Ak (pv 0) rfl) AB)) AB))),?_⟩;refine ⟨_,rfl,p,C,dx,_,_,rfl,hp,T.cl,T.nF,GY _ _ _,d2,_,rfl,.inr ⟨o2,h2⟩,fun l hl=>?_⟩;refine ⟨l,(AV due).map (·.1),rfl,SqL.of (by rw [upd_same]; unfold Bo AT; rw [map_map,map_map]; rfl),k _ (AC (Same.refl _) hl)⟩
def FU (C:Addr):Sp:=fun vs H Q _=>∃ (p:Addr) (due:LN) (r:Str),vs=[.ref p]/\KindAt C H p due r/\due.length <= 60/\∀ l as H',Same H H'->H' l=some (.lst (as.map V.ref))->TupsAt H' as (Cq due)->Q (.ref l) H'
theorem PO:AN ["self"] ["self"] (defScope Dr):=fsc
theorem HQ {as:List Addr} {ps:List (V × V)} {b:Addr} {p:V × V} (s:Same H H') (h:TupsAt H as ps) (hb:H' b=some (.tup [p.1,p.2])):TupsAt H' (as++[b]) (ps++[p]):=Paired.snoc (TupsAt.same s h) hb
theorem Nt (F:Fun K "marks" "Kind.marks" Dr f fd) (B:Bl mg) (T:E7 K C) (GM:Fn P w K mg base "is_mark" 1 ["number"] GA):Ae P w K mg base CX0 2 f fd ["self"] (FU C):=by
 obtain ⟨fM,dM,GM,mM,kM,bM⟩:=GM.ex;refine F.ok PO (fun vs H Q E h=>?_) (fun ad A outer s H vs Q E hr h=>?_)
 ·obtain ⟨p,due,r,rfl,_⟩:=h;rfl
 ·obtain ⟨p,due,r,rfl,KA,h60,k⟩:=h;have hu:=C7 hr;obtain ⟨dx,d1,o1,d2,o2,hp,h1,h2⟩:=KA.ex
  refine ⟨_,AD (AS (A3 ["self"] [some 0] (by kernel_rfl) (by decide +kernel) (by kernel_rfl) rfl (Ad (AX (EN rfl) rfl B.sorted E1 (AA (Ak (pv 0) rfl) AB)))
   (fun _ _ _ _ _ _=>Bg (Bp (AM GM hr rfl mM kM bM .nil AQ (AA (pv 0) AB))))
   (fun _ _ _ _ _ _=>BD (AA (BK hu (O5 K rfl (pv 1) rfl) (pv 0) (fun _ _=>rfl)) (AA (pv 0) AB))))),?_⟩
  have hle:(Bo (AV due)).length <= due.length:=by unfold Bo; rw [length_map]; exact CL due
  refine ⟨_,rfl,p,C,dx,_,_,rfl,hp,T.cl,T.nF,GY _ _ _,d2,_,rfl,.inr ⟨o2,h2⟩,by omega,fun kv hkv=>?_,fun l ns hl cq cr=>?_⟩
  ·unfold Bo at hkv;obtain ⟨q,_,rfl⟩:=mem_map.mp hkv;exact ⟨_,rfl⟩
  ·have en:=JX cq cr;subst en;have s1:Same H (upd H l (.lst (((An due).map fun n:Nat=>(n:Int)).map V.int))):=AC (Same.refl _) hl;have exs:((An due).map fun n:Nat=>(n:Int)).map V.int=AT (An due):=(C5 _).symm
   refine ⟨l,rfl,⟨_,SqL.of upd_same⟩,Ai (K:=K) (a:=l) (xs:=AT (An due))
    (fun i ys H2=>∃ as,ys=as.map V.ref/\Same H H2/\H2 l=some (.lst (AT (An due)))/\TupsAt H2 as ((((An due).take i).filter Al).map fun n=>(V.str (Bc (AV due) n),V.int (n:Int)))) ⟨[],rfl,s1,by rw [upd_same,exs],.nil⟩
    (fun i ys H2 _ ⟨_,_,_,e,_⟩=>SqL.of e) (fun i ys H2 ⟨as,e,_,_,t⟩=>?_) ?_ ?_⟩
   ·have:=t.length;rw [e,length_map,this,length_map];have h3:(((An due).take i).filter Al).length <= ((An due).take i).length:=length_filter_le _ _;rw [length_take] at h3;have:=DY due;omega
   ·rintro i v ys H2 hi ⟨as,rfl,s2,hl2,ht⟩;obtain ⟨n,hn,rfl⟩:=Bz hi;have bg:n ∈ (AV due).map (·.1):=mem_keysS.mp (mem_of_getElem? hn);have et:((An due).take (i + 1)).filter Al=((An due).take i).filter Al++(if Al n then [n] else []):=PySem.take_succ_filter Al _ i n hn;refine ⟨_,rfl,n,rfl,_,rfl,?_⟩;refine Bn (fun hm=>?_) (fun hm=>?_)
    ·refine ⟨_,rfl,p,C,dx,_,_,rfl,s2 _ _ hp,T.cl,T.nF,GY _ _ _,_,rfl,d2,_,rfl,.inl ⟨_,Sum.inl (n:Int),Same.rd s2 (.inr ⟨o2,h2⟩),rfl,(EU bg).symm⟩,_,rfl,sl2,fun b hb=>?_⟩;refine ⟨as++[b],by rw [map_append]; rfl,AC s2 hb,by rw [AF (AI hl2 hb)]; exact hl2,?_⟩;rw [et,hm,if_pos rfl,map_append];exact HQ (AC (Same.refl _) hb) ht upd_same
    ·refine ⟨as,rfl,s2,hl2,?_⟩;rw [et,if_neg hm,append_nil];exact ht
   ·rintro ys H2 ⟨as,rfl,s2,_,ht⟩ q hq
    have el:(An due).take (AT (An due)).length=An due:=by
     have:(AT (An due)).length=(An due).length:=by unfold AT; rw [length_map]
     rw [this]; exact take_length
    rw [el] at ht;exact k q as _ (AC s2 hq) upd_same (TupsAt.same (AC (Same.refl _) hq) ht)
end
theorem JY {as:List Addr} {ps:List (V × V)} {i:Nat} {b:Addr} (h:TupsAt H as ps) (e:as[i]?=some b):∃ p,ps[i]?=some p/\H b=some (.tup [p.1,p.2]):=Bt h e
section
theorem KindAt.ins {p:Addr} {r:Str} (h:KindAt C H p due r):∃ dx d1 d2,H p=some (.ins C dx (G0 d1 d2 r)):=by
 obtain ⟨dx,d1,o1,d2,o2,a,_⟩:=h.ex;exact ⟨dx,d1,d2,a⟩
theorem HR (due:LN):(Cq due).length=(AG due).length:=length_map _
end
theorem LM (h:∀ p ∈ due,p.2 < 2 ^ 20):∀ n ∈ (AV due).map (·.1),n < 2 ^ 20:=fun n hn=>by
 obtain ⟨q,hq,rfl⟩:=mem_map.mp hn;exact h _ (E5 hq)
theorem Nu (h:∀ p ∈ due,p.2 < 2 ^ 20):∀ n ∈ AG due,n < 2 ^ 20:=fun n hn=>LM h n (mem_keysS.mp (mem_filter.mp hn).1)
theorem EW {x:Int} {n:Nat} (h0:0 <= x) (h:x < 2 ^ n):Builtin.Int.intBits x <= n:=by
 obtain ⟨m,rfl⟩:=Int.eq_ofNat_of_zero_le h0;have hm:m < 2 ^ n:=by exact_mod_cast h
 rcases Nat.eq_zero_or_pos m with e | hp
 ·subst e; exact Nat.zero_le _
 ·rw [DD hp];exact (Nat.log2_lt (by omega)).mpr hm
theorem IM {xs:List V} {i:Int} (h0:0 <= i) (h1:i < xs.length):∃ v,atI xs i=some v/\xs[i.toNat]?=some v:=by
 have hlt:i.toNat < xs.length:=by omega
 refine ⟨xs[i.toNat],?_,List.getElem?_eq_getElem hlt⟩;unfold atI ixN;rw [if_pos h0,if_pos h1];exact List.getElem?_eq_getElem hlt
structure SameX (d:Addr) (H H':Hp):Prop where
 old:∀ b o,H b=some o->b ≠ d->H' b=some o
 dice:∃ a b:Int,H' d=some (.lst [.int a,.int b])
theorem SameX.trans {d:Addr} {H1 H2:Hp} (x:SameX d H H1) (y:SameX d H1 H2):SameX d H H2:=⟨fun b o e hb=>y.old _ _ (x.old b o e hb) hb,y.dice⟩
section
def Kj (K:FG):Sp:=fun vs H Q _=>∃ (a:Addr) (ns:List Int) (k:Int),vs=[.ref a,.int k]/\SqL K H a (ns.map V.int)/\ns.length <= 63/\0 <= k/\∀ (v:Int) H',Same H H'->Q (.int v) H'
theorem Qd:AN ["_law_script", "_law_k"] ["_law_script", "_law_k"] (defScope F8):=fsc
theorem PP (F:Fun K "_law_cell" "_law_cell" F8 f fd) (B:Bl mg):Ae P w K mg base CX0 1 f fd ["_law_script", "_law_k"] (Kj K):=by
 refine F.ok Qd (fun vs H Q E h=>?_) (fun ad A outer s H vs Q E hr h=>?_)
 ·obtain ⟨a,ns,k,rfl,_⟩:=h;rfl
 ·obtain ⟨a,ns,kk,rfl,hS,h63,hk,k⟩:=h;have hu:=hr.units
  refine ⟨_,AE (Au (AU (QQ K rfl hu) (pv 0) (BX AB) (AY _)) (AD (AS (AW Fe (pv 1) AH))) Aa)
   (AD (AS (AW Cb (BZ (A4 K rfl) (pv 0) (AW DA (pv 1) (AX (Av K rfl) rfl B.len PySem.boot_len (AA (pv 0) AB))) (fun _ _=>rfl))
    (AW Fe (AW Ho (pv 1) (AX (Av K rfl) rfl B.len PySem.boot_len (AA (pv 0) AB))) AH)))),?_⟩
  refine ⟨_,rfl,Nat.zero_le _,fun p hp=>?_⟩;have s1:Same H (upd H p (.lst [])):=AC (Same.refl _) hp;refine ⟨a,p,ns,[],rfl,rfl,s1.seq hS,SqL.of upd_same,_,rfl,?_⟩;refine Bn (fun h0=>?_) (fun h0=>?_)
  ·exact ⟨_,rfl,_,_,rfl,rfl,.inr ⟨by decide,by decide⟩,k _ _ s1⟩
  ·have av:ns ≠ []:=fun z=>h0 (decide_eq_true z);have hpos:0 < ns.length:=length_pos_iff.mpr av;have hl:(ns.map V.int).length=ns.length:=length_map _;have hm0:0 <= kk % ((ns.map V.int).length:Int):=Int.emod_nonneg _ (by rw [hl]; omega);have hm1:kk % ((ns.map V.int).length:Int) < ((ns.map V.int).length:Nat):=Int.emod_lt_of_pos _ (by rw [hl]; omega);obtain ⟨v,hv,hv2⟩:=IM (xs:=ns.map V.int) hm0 hm1
   obtain ⟨n,rfl⟩:∃ n,v=V.int n:=by
    rw [getElem?_map] at hv2;cases e:ns[(kk % ((ns.map V.int).length:Int)).toNat]? with
    | none=>rw [e] at hv2; cases hv2
    | some n=>rw [e] at hv2; exact ⟨n,(Option.some.inj hv2).symm⟩
   refine ⟨_,rfl,_,rfl,_,rfl,a,_,rfl,.inl (s1.seq hS),_,_,rfl,rfl,(by rw [hl]; omega),a,_,_,_,rfl,rfl,s1.seq hS,hv,?_⟩;exact ⟨_,rfl,_,rfl,a,_,rfl,.inl (s1.seq hS),_,_,rfl,rfl,⟨by rw [hl]; omega,by rw [hl]; omega⟩,_,_,rfl,rfl,.inr ⟨by decide,by decide⟩,_,_,rfl,rfl,k _ _ s1⟩
def IN:Sp:=fun vs H Q _=>∃ (c k:Int),vs=[.int c,.int k]/\∀ r:Int,0 <= r->Q (.int r) H
theorem scDrawn:AN ["_law_cell_here", "_law_k", "_law_more"] ["_law_cell_here", "_law_k"] (defScope Ey):=fsc
theorem Nv (F:Fun K "_law_drawn" "_law_drawn" Ey f fd):Ae P w K mg base CX0 1 f fd ["_law_cell_here", "_law_k"] IN:=by
 refine F.ok scDrawn (fun vs H Q E h=>?_) (fun ad A outer s H vs Q E hr h=>?_)
 ·obtain ⟨c,k,rfl,_⟩:=h;rfl
 ·obtain ⟨c,kk,rfl,k⟩:=h
  refine ⟨_,AE (Ac (i:=2) scDrawn.nd rfl (Or.inl rfl) (AW DA (AW Cb (AW Fe (pv 0) AH) (AW Fe (AW Cb (pv 1) AH) AH)) AH))
   (AE (Ac (i:=2) scDrawn.nd rfl (Or.inl rfl) (AW DA (AW Hy (pv 2) (pv 2)) AH))
   (AE (Ac (i:=2) scDrawn.nd rfl (Or.inl rfl) (AW Hy (AW Hy (AW Cb (AW DA (pv 2) AH) AH) (AW Cb (AW NP (pv 2) AH) AH)) (pv 2)))
   (AD (AS (AW DA (pv 2) AH))))),?_⟩
  refine ⟨_,rfl,_,_,rfl,rfl,.inr ⟨by decide,by decide⟩,_,rfl,_,_,rfl,rfl,_,_,rfl,rfl,.inr ⟨by decide,by decide⟩,_,_,rfl,rfl,_,_,rfl,rfl,(by show (0:Int) < _; decide),?_⟩;generalize ha:(c * 6364136223846793005 + (kk + 1) * 1442695040888963407) % 340282366920938463463374607431768211507=m1
  have h1:0 <= m1/\m1 < 2 ^ 130:=by
   rw [← ha];exact ⟨Int.emod_nonneg _ (by decide),Int.lt_trans (Int.emod_lt_of_pos _ (by decide)) (by decide)⟩
  have b1:Builtin.Int.intBits m1 <= 2 ^ 20:=Nat.le_trans (EW h1.1 h1.2) (by decide);subst ha;refine ⟨_,rfl,_,rfl,_,_,rfl,rfl,⟨b1,b1⟩,_,_,rfl,rfl,(by show (0:Int) < _; decide),?_⟩;generalize hb:(c * 6364136223846793005 + (kk + 1) * 1442695040888963407) % 340282366920938463463374607431768211507 * ((c * 6364136223846793005 + (kk + 1) * 1442695040888963407) % 340282366920938463463374607431768211507) % 340282366920938463463374607431768211297=m2
  have h2:0 <= m2/\m2 < 2 ^ 130:=by
   rw [← hb];exact ⟨Int.emod_nonneg _ (by decide),Int.lt_trans (Int.emod_lt_of_pos _ (by decide)) (by decide)⟩
  have b2:Builtin.Int.intBits m2 <= 2 ^ 20:=Nat.le_trans (EW h2.1 h2.2) (by decide)
  have p1:0 <= m2 % 18446744073709551557 + 1/\m2 % 18446744073709551557 + 1 < 2 ^ 65:=by
   have:=Int.emod_nonneg m2 (show (18446744073709551557:Int) ≠ 0 by decide);have:=Int.emod_lt_of_pos m2 (show (0:Int) < 18446744073709551557 by decide);omega
  have p2:0 <= m2 / 18446744073709551557 + 1/\m2 / 18446744073709551557 + 1 < 2 ^ 131:=by
   have h3:=Int.ediv_nonneg h2.1 (show (0:Int) <= 18446744073709551557 by decide);have h4:=Int.ediv_le_self (18446744073709551557) h2.1;omega
  have p3:0 <= (m2 % 18446744073709551557 + 1) * (m2 / 18446744073709551557 + 1):=Int.mul_nonneg p1.1 p2.1
  have p4:(m2 % 18446744073709551557 + 1) * (m2 / 18446744073709551557 + 1) < 2 ^ 196:=by
   have:=Int.mul_lt_mul' (Int.le_of_lt p1.2) p2.2 p2.1 (show (0:Int) < 2 ^ 65 by decide);exact Int.lt_of_lt_of_le this (by decide)
  have c1:Builtin.Int.intBits (m2 % 18446744073709551557 + 1) <= 2 ^ 20:=Nat.le_trans (EW p1.1 p1.2) (by decide);have c2:Builtin.Int.intBits (m2 / 18446744073709551557 + 1) <= 2 ^ 20:=Nat.le_trans (EW p2.1 p2.2) (by decide);have c3:Builtin.Int.intBits ((m2 % 18446744073709551557 + 1) * (m2 / 18446744073709551557 + 1)) <= 2 ^ 20:=Nat.le_trans (EW p3 p4) (by decide);subst hb;refine ⟨_,rfl,_,_,rfl,rfl,(by show (0:Int) < _; decide),_,_,rfl,rfl,_,rfl,_,_,rfl,rfl,⟨by decide,PyProof.noPylong_of_log2 (by decide +kernel)⟩,_,_,rfl,rfl,_,_,rfl,rfl,⟨c1,c2⟩,?_⟩;refine ⟨_,rfl,_,_,rfl,rfl,⟨c3,b2⟩,?_⟩;exact ⟨_,rfl,_,_,rfl,rfl,(by show (0:Int) < _; decide),k _ (Int.emod_nonneg _ (by decide))⟩
def D4:Sp:=fun vs H Q _=>∃ (d:Addr) (a b m:Int),vs=[.ref d,.int m]/\H d=some (.lst [.int a,.int b])/\0 < m/\m < 1073741824/\∀ r a' b':Int,0 <= r->r < m->Q (.int r) (upd H d (.lst [.int a',.int b']))
theorem scRoll:AN ["_law_dice", "_law_many", "_law_told"] ["_law_dice", "_law_many"] (defScope F9):=fsc
theorem PQ (F:Fun K "_law_roll" "_law_roll" F9 f fd) (GD:Fn P w K mg base "_law_drawn" 1 ["_law_cell_here", "_law_k"] IN):Ae P w K mg base CX0 2 f fd ["_law_dice", "_law_many"] D4:=by
 obtain ⟨fD,dD,GD,mD,kD,bD⟩:=GD.ex;refine F.ok scRoll (fun vs H Q E h=>?_) (fun ad A outer s H vs Q E hr h=>?_)
 ·obtain ⟨d,a,b,m,rfl,_⟩:=h;rfl
 ·obtain ⟨d,a,b,m,rfl,hd,m0,m1,k⟩:=h
  refine ⟨_,AE (Au (AU Ps (BZ (A4 K rfl) (pv 0) AH (fun _ _=>rfl)) (AW J3 AH AH) (AY _))
    (AE (Ac (i:=2) scRoll.nd rfl (Or.inl rfl) (AW DA (BZ (A4 K rfl) (pv 0) AH (fun _ _=>rfl)) (pv 1)))
    (AE (Cz (AW Ho (BZ (A4 K rfl) (pv 0) AH (fun _ _=>rfl)) (pv 1)) (Mv (pv 0) AH Iy))
    (AD (AS (pv 2))))) Aa)
   (AE (Cz (AW Cb (BZ (A4 K rfl) (pv 0) AH (fun _ _=>rfl)) AH) (Mv (pv 0) AH Iy))
   (AD (AS (AW DA (AW Ho (AM GD hr rfl mD kD bD .nil AQ (AA (BZ (A4 K rfl) (pv 0) AH (fun _ _=>rfl)) (AA (BZ (A4 K rfl) (pv 0) AH (fun _ _=>rfl)) AB))) AH) (pv 1))))),?_⟩
  refine ⟨_,rfl,d,_,0,.int a,rfl,rfl,SqL.of hd,B9 (j:=0) rfl,_,_,rfl,rfl,⟨by decide,by decide,by decide⟩,_,_,rfl,rfl,_,rfl,?_⟩;refine Bn (fun _=>?_) (fun _=>?_)
  ·refine ⟨_,rfl,d,_,0,.int a,rfl,rfl,SqL.of hd,B9 (j:=0) rfl,_,rfl,_,_,rfl,rfl,m0,?_⟩;refine ⟨_,rfl,d,_,0,.int a,rfl,rfl,SqL.of hd,B9 (j:=0) rfl,_,rfl,_,_,rfl,rfl,⟨m0,m1⟩,_,rfl,d,_,0,0,rfl,rfl,hd,rfl,?_⟩;exact ⟨_,rfl,k _ (a / m) b (Int.emod_nonneg _ (by omega)) (Int.emod_lt_of_pos _ m0)⟩
  ·refine ⟨_,rfl,d,_,1,.int b,rfl,rfl,SqL.of hd,B9 (j:=1) rfl,_,_,rfl,rfl,_,rfl,d,_,1,1,rfl,rfl,hd,rfl,?_⟩;have hd2:(upd H d (.lst ([V.int a,V.int b].set 1 (V.int (b + 1))))) d=some (.lst [.int a,.int (b + 1)]):=upd_same;refine ⟨_,rfl,d,_,0,.int a,rfl,rfl,SqL.of hd2,B9 (j:=0) rfl,_,rfl,d,_,1,.int (b + 1),rfl,rfl,SqL.of hd2,B9 (j:=1) rfl,_,_,rfl,fun r hr0=>?_⟩;refine ⟨_,_,rfl,rfl,⟨by decide,by decide⟩,_,rfl,_,_,rfl,rfl,m0,?_⟩;exact k _ a (b + 1) (Int.emod_nonneg _ (by omega)) (Int.emod_lt_of_pos _ m0)
def GZ:Sp:=fun vs H Q _=>∃ (d:Addr) (a b:Int),vs=[.ref d]/\H d=some (.lst [.int a,.int b])/\∀ (r:Str) H',r ∈ (["bar", "drop", "keep", "leave"]:List Str)->SameX d H H'->Q (.str r) H'
theorem Nw:AN ["_law_dice"] ["_law_dice"] (defScope Dy):=fsc
theorem Mb (F:Fun K "_law_rule_of" "_law_rule_of" Dy f fd) (GR:Fn P w K mg base "_law_roll" 2 ["_law_dice", "_law_many"] D4):Ae P w K mg base CX0 3 f fd ["_law_dice"] GZ:=by
 obtain ⟨fR,dR,GR,mR,kR,bR⟩:=GR.ex;refine F.ok Nw (fun vs H Q E h=>?_) (fun ad A outer s H vs Q E hr h=>?_)
 ·obtain ⟨d,a,b,rfl,_⟩:=h;rfl
 ·obtain ⟨d,a,b,rfl,hd,k⟩:=h;refine ⟨_,AD (AS (BZ (A4 K rfl) (BX (AA Aw (AA Aw (AA Aw (AA Aw AB))))) (AM GR hr rfl mR kR bR .nil AQ (AA (pv 0) (AA AH AB))) (fun _ _=>rfl))),?_⟩;refine ⟨sl4,fun p hp=>?_⟩;have npd:d ≠ p:=AI hd hp;refine ⟨_,rfl,d,a,b,4,rfl,by rw [AF npd]; exact hd,by decide,by decide,fun r a' b' h0 h1=>?_⟩;have hl:(upd (upd H p (.lst [.str "bar", .str "drop", .str "keep", .str "leave"])) d (.lst [.int a',.int b'])) p=some (.lst [.str "bar", .str "drop", .str "keep", .str "leave"]):=by rw [AF (Ne.symm npd),upd_same]
  obtain ⟨v,hv,hv2⟩:=IM (xs:=[V.str "bar", V.str "drop", V.str "keep", V.str "leave"]) h0 (by show r < 4; exact h1)
  have hin:∃ x,v=.str x/\x ∈ (["bar", "drop", "keep", "leave"]:List Str):=by
   have:=mem_of_getElem? hv2;simp only [mem_cons,not_mem_nil,or_false] at this;rcases this with z | z | z | z
   ·exact ⟨_,z,by simp⟩
   ·exact ⟨_,z,by simp⟩
   ·exact ⟨_,z,by simp⟩
   ·exact ⟨_,z,by simp⟩
  obtain ⟨x,rfl,hx⟩:=hin;refine ⟨p,_,r,_,rfl,rfl,SqL.of hl,hv,k x _ hx ⟨fun c o e hc=>?_,⟨a',b',upd_same⟩⟩⟩;rw [AF hc,AF (AI e hp)];exact e
end
theorem LP (n k:Nat):decide (V.int (Builtin.bitAnd ((n:Int) / 2 ^ ((0:Int) + (k:Int)).toNat) 1)=V.int 1)=n.testBit k:=by
 have e0:((0:Int) + (k:Int)).toNat=k:=by omega
 have e1:(n:Int) / 2 ^ k=((n / 2 ^ k:Nat):Int):=by push_cast; rfl
 have e2:Builtin.bitAnd ((n / 2 ^ k:Nat):Int) 1=((n / 2 ^ k % 2:Nat):Int):=by
  have:=BE (n / 2 ^ k) 1;rw [Nat.and_one_is_mod] at this;exact this
 rw [e0,e1,e2,Nat.testBit_eq_decide_div_mod_eq];refine decide_eq_decide.mpr ⟨fun h=>?_,fun h=>?_⟩
 ·have:=V.int.inj h;omega
 ·rw [h]; rfl
section
def Ga (K:FG):Sp:=fun vs H Q _=>∃ (a:Addr) (ns:List Int),vs=[.ref a,.int 3]/\SqL K H a (ns.map V.int)/\ns.length <= 63 /\
 ∀ (l:Addr) (as:List Addr) H',Same H H'->H' l=some (.lst (as.map V.ref))->as.Nodup->l ∉ as->as.length <= 4->(∀ b ∈ as,H b=none/\∃ x y:Int,H' b=some (.lst [.int x,.int y]))->Q (.ref l) H'
theorem Nx:AN ["_law_script", "_law_most"] ["_law_script", "_law_most"] (defScope Dw):=fsc
theorem Mc (F:Fun K "_law_rounds" "_law_rounds" Dw f fd) (B:Bl mg) (GC:Fn P w K mg base "_law_cell" 1 ["_law_script", "_law_k"] (Kj K)):Ae P w K mg base CX0 2 f fd ["_law_script", "_law_most"] (Ga K):=by
 obtain ⟨fC,dC,GC,mC,kC,bC⟩:=GC.ex;refine F.ok Nx (fun vs H Q E h=>?_) (fun ad A outer s H vs Q E hr h=>?_)
 ·obtain ⟨a,ns,rfl,_⟩:=h;rfl
 ·obtain ⟨a,ns,rfl,hS,h63,k⟩:=h
  refine ⟨_,AD (AS (A3 ["_law_script"] [some 0] (by kernel_rfl) (by decide +kernel) (by kernel_rfl) rfl
   (CB rfl B.range (AA (AX (Li rfl) rfl B.max QY (AA AH (AA (AX (Lj rfl) rfl B.min QX (AA (pv 1) (AA (AX (Av K rfl) rfl B.len PySem.boot_len (AA (pv 0) AB)) AB))) AB))) AB))
   (fun _ _ _ _ _ _=>BL)
   (fun _ _ _ _ _ _=>BX (AA (AM GC hr rfl mC kC bC .nil AQ (AA (pv 1) (AA (pv 0) AB))) (AA AH AB))))),?_⟩
  have hl:(ns.map V.int).length=ns.length:=length_map _;refine ⟨_,rfl,_,rfl,a,_,rfl,.inl hS,_,_,rfl,_,_,rfl,_,rfl,?_,?_,?_⟩
  ·split <;> split <;> omega
  ·split <;> split <;> omega
  ·generalize hn:(if (if (((ns.map V.int).length:Nat):Int) < 3 then (((ns.map V.int).length:Nat):Int) else 3) > 1 then (if (((ns.map V.int).length:Nat):Int) < 3 then (((ns.map V.int).length:Nat):Int) else 3) else 1).toNat=n
   have n5:n <= 4:=by
    rw [← hn];split <;> split <;> omega
   refine Dk (lo:=0) (n:=n) (fun i ys H2=>∃ as:List Addr,ys=as.map V.ref/\as.length=i/\i <= 4/\Same H H2/\as.Nodup/\∀ b ∈ as,H b=none/\∃ x y:Int,H2 b=some (.lst [.int x,.int y])) ⟨[],rfl,rfl,by decide,Same.refl _,nodup_nil,fun b hb=>nomatch hb⟩ ?_ ?_ ?_
   ·rintro i ys H2 ⟨as,rfl,e,h5,_⟩;rw [length_map]; omega
   ·rintro i ys H2 hi ⟨as,rfl,e,h5,s2,nd,hb⟩;refine ⟨_,rfl,_,rfl,a,ns,_,rfl,s2.seq hS,h63,by omega,fun v H3 s3=>⟨sl2,fun p hp=>?_⟩⟩;refine ⟨as++[p],by rw [map_append]; rfl,by rw [length_append,e]; rfl,by omega,AC (s2.trans s3) hp,?_,fun b hb'=>?_⟩
    ·refine List.nodup_append.mpr ⟨nd,nodup_cons.mpr ⟨not_mem_nil,nodup_nil⟩,?_⟩;intro x hx y hy;rw [mem_singleton] at hy;subst hy;obtain ⟨_,x1,y1,e1⟩:=hb x hx;exact AI (s3 _ _ e1) hp
    ·rcases mem_append.mp hb' with z | z
     ·obtain ⟨h0,x1,y1,e1⟩:=hb b z;exact ⟨h0,x1,y1,AC s3 hp _ _ e1⟩
     ·rw [mem_singleton] at z;subst z;refine ⟨?_,v,0,upd_same⟩;cases e:H b with
      | none=>rfl
      | some o =>
       have:=s3 _ _ (s2 _ _ e);rw [this] at hp;cases hp
   ·rintro ys H2 ⟨as,rfl,e,h5,s2,nd,hb⟩ l hl;refine k l as _ (AC s2 hl) upd_same nd ?_ (by omega) fun b hb'=>?_
    ·intro z;obtain ⟨_,x,y,e1⟩:=hb l z;rw [e1] at hl; cases hl
    ·obtain ⟨h0,x,y,e1⟩:=hb b hb';exact ⟨h0,x,y,AC (Same.refl _) hl _ _ e1⟩
def EX:Sp:=fun vs H Q _=>∃ n:Nat,vs=[.int (n:Int)]/\∀ l ys H',Same H H'->H' l=some (.lst ys)->ys.length=(B5 n).length->Q (.ref l) H'
theorem Ny:AN ["_law_number"] ["_law_number"] (defScope Dx):=fsc
theorem Md (F:Fun K "_law_bits_of" "_law_bits_of" Dx f fd) (B:Bl mg):Ae P w K mg base CX0 1 f fd ["_law_number"] EX:=by
 refine F.ok Ny (fun vs H Q E h=>?_) (fun ad A outer s H vs Q E hr h=>?_)
 ·obtain ⟨n,rfl,_⟩:=h;rfl
 ·obtain ⟨n,rfl,k⟩:=h
  refine ⟨_,AD (AS (A3 ["_law_number"] [some 0] (by kernel_rfl) (by decide +kernel) (by kernel_rfl) rfl (CB rfl B.range (AA AH AB))
   (fun _ _ _ _ _ _=>Bg (AU Ck (AW BJ (AW QF (pv 1) (pv 0)) AH) AH (AY _)))
   (fun _ _ _ _ _ _=>AW Hq AH (pv 0)))),?_⟩
  refine ⟨42,rfl,by decide,by decide,?_⟩;refine Dk (lo:=0) (n:=42) (fun i ys H2=>ys.length=((List.range i).filter fun k=>n.testBit k).length/\i <= 42/\H2=H) ⟨rfl,by decide,rfl⟩ ?_ ?_ ?_
  ·rintro i ys H2 ⟨e,hi,_⟩;rw [e];have:=length_filter_le (fun k=>n.testBit k) (List.range i);rw [List.length_range] at this;omega
  ·rintro i ys H2 hi ⟨e,_,rfl⟩;refine ⟨_,rfl,_,rfl,_,_,rfl,rfl,(by omega),_,_,rfl,rfl,?_⟩;refine ⟨rfl,_,rfl,?_⟩
   have er:((List.range (i + 1)).filter fun k=>n.testBit k).length=((List.range i).filter fun k=>n.testBit k).length + (if n.testBit i then 1 else 0):=by
    rw [List.range_succ,filter_append,length_append,filter_cons,filter_nil];split <;> rfl
   refine Bn (fun h=>?_) (fun h=>?_)
   ·have hb:n.testBit i=true:=by rw [← LP]; exact h
    refine ⟨_,rfl,_,_,rfl,rfl,⟨by omega,by first | decide | omega,by first | decide | omega⟩,?_,by omega,rfl⟩;rw [er,hb,length_append,e]; rfl
   ·have hb:n.testBit i=false:=by rw [← LP]; exact Bool.eq_false_iff.mpr h
    refine ⟨?_,by omega,rfl⟩;rw [er,hb,e]; rfl
  ·rintro ys H2 ⟨e,_,rfl⟩ l hl;exact k l ys _ (AC (Same.refl _) hl) upd_same e
end
end Mk
end
section
namespace L2
open PySem
def Sc (t u:TS):TS:=fun D σ H=>∃ G:St->Hp->Prop,(∀ R:St->Hp->Prop,(∀ σ H,G σ H->R σ H)->t { D with nx:=R } σ H)/\∀ σ H,G σ H->u D σ H
theorem BF {X:Cx} {st:Stmt} {rest:List Stmt} {t u:TS} (h1:PS X st t) (h2:PSs X rest u):PSs X (st :: rest) (Sc t u):=fun aa s σ H D I ⟨_,a,b⟩=>AE h1 h2 aa s σ H D I (a (u D) b)
end L2
namespace Mk
open PySem L2 MK
def SameT (H H':Hp):Prop:=∀ b xs,H b=some (.tup xs)->H' b=some (.tup xs)
theorem SameT.of (s:Same H H'):SameT H H':=fun b xs e=>s _ _ e
theorem SameT.upd {d:Addr} {xs ys:List V} (h:H d=some (.lst xs)):SameT H (upd H d (.lst ys)):=fun b zs e=>by
 rw [AF (fun z=>by subst z; rw [h] at e; cases e)]; exact e
theorem SameT.trans {H1 H2:Hp} (x:SameT H H1) (y:SameT H1 H2):SameT H H2:=fun b xs e=>y _ _ (x _ _ e)
theorem TupsAt.sameT {as:List Addr} {ps:List (V × V)} (s:SameT H H') (h:TupsAt H as ps):TupsAt H' as ps:=Paired.mapP h fun _ _ e=>s _ _ e
theorem ThAt.sameT {v:V} {th:Th} (s:SameT H H') (h:ThAt H v th):ThAt H' v th:=by
 cases th with
 | non=>exact h
 | num n=>exact h
 | nms ns=>obtain ⟨a,e,h⟩:=h; exact ⟨a,e,s _ _ h⟩
theorem RowAt.sameT {b:Addr} {r:Str × Th} (s:SameT H H') (h:RowAt H b r):RowAt H' b r:=by
 obtain ⟨tv,e,t⟩:=h;exact ⟨tv,s _ _ e,t.sameT s⟩
theorem A5 {as:List Addr} {rows:List (Str × Th)} (s:SameT H H') (h:Paired (RowAt H) as rows):Paired (RowAt H') as rows:=Paired.mapP h fun _ _ e=>e.sameT s
def D5 (due:LN):List PyData:=due.map fun p=>.tuple [.str p.1,.int (p.2:Int)]
theorem Nz {b:Addr} {x:Str} {n:Int} (h:H b=some (.tup [.str x,.int n])):CO K H (.tuple [.str x,.int n]) (.ref b):=by
 rw [CO];refine ⟨b,_,rfl,SqT.of h,?_⟩;rw [BV];refine ⟨_,_,rfl,by rw [CO],?_⟩;rw [BV];refine ⟨_,_,rfl,by rw [CO],?_⟩;rw [BV]
theorem EY:∀ {due:LN} {bs:List Addr},TupsAt H bs (DN due)->BV K H (D5 due) (bs.map V.ref)
 | [],bs,h=>by
  have:bs=[]:=List.eq_nil_of_length_eq_zero (by rw [h.length]; rfl);subst this;show BV K H [] [];rw [BV]
 | p :: r,[],h=>by have:=h.length; simp [DN] at this
 | p :: r,b :: bs,h=>by
  have hh:H b=some (.tup [.str p.1,.int (p.2:Int)])/\TupsAt H bs (DN r):=by
   cases h with
   | cons h1 h2=>exact ⟨h1,h2⟩
  show BV K H (.tuple [.str p.1,.int (p.2:Int)] :: D5 r) (V.ref b :: bs.map V.ref);rw [BV];exact ⟨_,_,rfl,Nz hh.1,EY hh.2⟩
theorem EZ:∀ xs:List Nat,BV K H (xs.map fun n:Nat=>PyData.int (n:Int)) (AT xs)
 | []=>by show BV K H [] []; rw [BV]
 | x :: r=>by
  show BV K H (.int x :: r.map fun n:Nat=>PyData.int (n:Int)) (V.int x :: AT r);rw [BV];exact ⟨_,_,rfl,by rw [CO],EZ r⟩
theorem Ba {l:Addr} {ds:List PyData} {xs:List V} (h:H l=some (.lst xs)) (d:BV K H ds xs):CO K H (.list ds) (.ref l):=by
 rw [CO];exact ⟨l,xs,rfl,SqL.of h,d⟩
theorem FV:BV K H [] []:=by rw [BV]
theorem FW (ds:List PyData):PyData.eqv (.list ds) (.list [])=ds.isEmpty:=by
 cases ds with
 | nil=>rfl
 | cons a r=>simp [PyData.eqv,PyData.eqvAll]
theorem N0 {x:Str} (h:x.cps.all (· < 128)=true):PyData.strOk x=true:=by
 unfold PyData.strOk;simp only [Array.all_eq_true,decide_eq_true_eq] at h ⊢;intro i hi;have:=h i hi;simp;omega
theorem N1 {ds:List PyData} (h:∀ d ∈ ds,d.canLay0=true):PyData.canLayAll0 ds=true:=by
 induction ds with
 | nil=>rfl
 | cons a r ih=>rw [PyData.canLayAll0,h a mem_cons_self,ih fun d hd=>h d (mem_cons_of_mem _ hd)]; rfl
theorem Qe {ds:List PyData} {k:Nat} (h:∀ d ∈ ds,d.depth <= k):PyData.depthAll ds <= k:=by
 induction ds with
 | nil=>rw [PyData.depthAll]; exact Nat.zero_le _
 | cons a r ih=>rw [PyData.depthAll]; exact Nat.max_le.mpr ⟨h a mem_cons_self,ih fun d hd=>h d (mem_cons_of_mem _ hd)⟩
theorem FJ {ds:List PyData} (h:∀ d ∈ ds,d.canLay0=true/\d.depth <= 60):SeqAt.shaped (.list ds)=true:=by
 unfold SeqAt.shaped;rw [Bool.and_eq_true,decide_eq_true_eq];refine ⟨by rw [PyData.canLay0]; exact N1 fun d hd=>(h d hd).1,?_⟩;rw [PyData.depth];have:=Qe (k:=60) fun d hd=>(h d hd).2;omega
theorem N2 {x:Str} {n:Int} (h:x.cps.all (· < 128)=true):(PyData.tuple [.str x,.int n]).canLay0=true/\(PyData.tuple [.str x,.int n]).depth <= 60:=by
 refine ⟨?_,?_⟩
 ·rw [PyData.canLay0];refine N1 fun d hd=>?_;simp only [mem_cons,not_mem_nil,or_false] at hd;rcases hd with rfl | rfl
  ·rw [PyData.canLay0]; exact N0 h
  ·rw [PyData.canLay0]
 ·simp only [PyData.depth,PyData.depthAll];omega
theorem DP (h:∀ p ∈ due,p.1.cps.all (· < 128)=true):SeqAt.shaped (.list (D5 due))=true:=FJ fun d hd=>by
 obtain ⟨p,hp,rfl⟩:=mem_map.mp hd;exact N2 (h p hp)
theorem Bd (xs:List Nat):SeqAt.shaped (.list (xs.map fun n:Nat=>PyData.int (n:Int)))=true:=FJ fun d hd=>by
 obtain ⟨x,hx,rfl⟩:=mem_map.mp hd;exact ⟨by rw [PyData.canLay0],by simp [PyData.depth]⟩
theorem Kk:SeqAt.shaped (.list [])=true:=by decide +kernel
def uni (due:LN) (ns:List Str):Nat:=AZ (due.map fun p=>if inV (.str p.1) (ns.map V.str) then p.2 else 0)
theorem IP (x:Str) (ns:List Str):inV (.str x) (ns.map V.str)=ns.any (· == x):=by
 unfold inV;rw [any_map];rfl
theorem Cr {p:Str × Nat} (nd:(due.map (·.1)).Nodup) (h:p ∈ due):look due p.1=p.2:=by
 induction due with
 | nil=>cases h
 | cons q r ih =>
  rw [map_cons,nodup_cons] at nd;unfold look;by_cases e:q.1=p.1
  ·rw [List.find?_cons_of_pos (by simpa using e)];rcases mem_cons.mp h with z | z
   ·subst z; rfl
   ·exact absurd (mem_map.mpr ⟨p,z,e.symm⟩) nd.1
  ·rw [List.find?_cons_of_neg (by simpa using e)];rcases mem_cons.mp h with z | z
   ·subst z; exact absurd rfl e
   ·exact ih nd.2 z
theorem Qf {ns:List Str} (nd:(due.map (·.1)).Nodup) (hs:∀ x ∈ ns,x ∈ due.map (·.1)):uni due ns=AZ (ns.map (look due)):=by
 refine Nat.eq_of_testBit_eq fun k=>?_;unfold uni;rw [BQ,BQ,any_map,any_map,Bool.eq_iff_iff,any_eq_true,any_eq_true];constructor
 ·rintro ⟨p,hp,hb⟩;simp only [Function.comp] at hb;by_cases hi:inV (.str p.1) (ns.map V.str)=true
  ·rw [if_pos hi] at hb;rw [IP,any_eq_true] at hi;obtain ⟨x,hx,e⟩:=hi;have e':x=p.1:=by simpa using e
   subst e';exact ⟨p.1,hx,by simp only [Function.comp]; rw [Cr nd hp]; exact hb⟩
  ·rw [if_neg hi,Nat.zero_testBit] at hb;cases hb
 ·rintro ⟨x,hx,hb⟩;obtain ⟨p,hp,rfl⟩:=mem_map.mp (hs x hx);refine ⟨p,hp,?_⟩;simp only [Function.comp] at hb ⊢;rw [Cr nd hp] at hb;rw [if_pos (by rw [IP,any_eq_true]; exact ⟨p.1,hx,by simp⟩)];exact hb
theorem JZ {rows:List (Str × Th)} {r:Str × Th} (h:D2 rows) (hr:LL (AL rows) r):D2 (rows++[r]):=by
 intro i q e;rcases Nat.lt_trichotomy i rows.length with z | z | z
 ·rw [List.getElem?_append_left z] at e;rw [List.take_append_of_le_length (Nat.le_of_lt z)];exact h i q e
 ·subst z;rw [List.getElem?_append_right (Nat.le_refl _),Nat.sub_self] at e;have:r=q:=by simpa using e
  subst this;rw [List.take_append_of_le_length (Nat.le_refl _),take_length];exact hr
 ·rw [List.getElem?_eq_none (by rw [length_append,length_singleton]; omega)] at e;cases e
theorem Ja {rows:List (Str × Th)} (h:D2 rows) (h10:rows.length <= 10):JT (AL rows):=by
 have key:∀ n,n <= rows.length->JT (AL (rows.take n)):=by
  intro n;induction n with
  | zero=>intro _; rw [List.take_zero]; exact ⟨by decide,(fun p hp=>nomatch hp),nodup_nil,(fun p hp=>nomatch hp)⟩
  | succ n ih =>
   intro hn;have D:=ih (by omega);have hq:rows[n]?=some rows[n]:=List.getElem?_eq_getElem (by omega);have R:=h n _ hq;rw [take_add_one,hq,Option.toList_some,E2];refine ⟨?_,fun p hp=>?_,?_,fun p hp=>?_⟩
   ·rw [length_append,length_singleton]; have:=R.few; omega
   ·rcases mem_append.mp hp with z | z
    ·exact D.lt p z
    ·rw [mem_singleton] at z; subst z; exact R.lt
   ·rw [map_append];refine List.nodup_append.mpr ⟨D.nd,nodup_cons.mpr ⟨not_mem_nil,nodup_nil⟩,?_⟩;intro x hx y hy;have ey:y=(rows[n]).1:=by simpa using hy
    subst ey;exact fun z=>R.new (z ▸ hx)
   ·rcases mem_append.mp hp with z | z
    ·exact D.nm p z
    ·rw [mem_singleton] at z; subst z; exact R.nm
 have:=key rows.length (Nat.le_refl _);rw [take_length] at this;exact this
theorem Qg {A B:TT} {σ:St} {Q:Bool->Hp->Prop} (p q:Bool) (hA:∀ Q':Bool->Hp->Prop,Q' p H->A σ H Q') (hB:∀ Q':Bool->Hp->Prop,Q' q H->B σ H Q') (h:Q (p || q) H):tOr A B σ H Q:=by
 refine hA _ ?_;cases p with
 | true=>exact BY h
 | false=>exact As (hB _ h)
theorem PR {A B:TT} {σ:St} {Q:Bool->Hp->Prop} (p q:Bool) (hA:∀ Q':Bool->Hp->Prop,Q' p H->A σ H Q') (hB:∀ Q':Bool->Hp->Prop,(∀ H',Same H H'->Q' q H')->B σ H Q') (h:∀ H',Same H H'->Q (p && q) H'):RJ A B σ H Q:=by
 refine hA _ ?_;cases p with
 | true=>exact BY (hB _ h)
 | false=>exact As (h _ (Same.refl _))
theorem HS {p:Addr} (s:Same H H') (h:H' p=none):H p=none:=by
 cases e:H p with
 | none=>rfl
 | some o=>rw [s _ _ e] at h; cases h
theorem Ch {X:Cx} {x:Str} {j} {p:Pos} {es:List Expr} {t:TA} (h:PA X es t):PA X (.Constant (.str x) j p :: es) (A2 (tC (.str x)) t):=AA Aw h
theorem Me {X:Cx} {x0 x1 x2 x3 x4 x5 x6 x7 x8 x9:Str} {j0} {j1} {j2} {j3} {j4} {j5} {j6} {j7} {j8} {j9} {p0 p1 p2 p3 p4 p5 p6 p7 p8 p9:Pos}:PA X [.Constant (.str x0) j0 p0,.Constant (.str x1) j1 p1,.Constant (.str x2) j2 p2,.Constant (.str x3) j3 p3,.Constant (.str x4) j4 p4,.Constant (.str x5) j5 p5,.Constant (.str x6) j6 p6,.Constant (.str x7) j7 p7,.Constant (.str x8) j8 p8,.Constant (.str x9) j9 p9] (A2 (tC (.str x0)) (A2 (tC (.str x1)) (A2 (tC (.str x2)) (A2 (tC (.str x3)) (A2 (tC (.str x4)) (A2 (tC (.str x5)) (A2 (tC (.str x6)) (A2 (tC (.str x7)) (A2 (tC (.str x8)) (A2 (tC (.str x9)) (En))))))))))):=Ch (Ch (Ch (Ch (Ch (Ch (Ch (Ch (Ch (Ch (AB))))))))))
theorem DZ {bs:List Addr} {i:Nat} {v:V} (h:TupsAt H bs (DN due)) (e:(bs.map V.ref)[i]?=some v):∃ b p,v=.ref b/\bs[i]?=some b/\due[i]?=some p/\H b=some (.tup [.str p.1,.int (p.2:Int)]):=by
 rw [getElem?_map] at e
 obtain ⟨b,hb,rfl⟩:∃ b,bs[i]?=some b/\v=V.ref b:=by
  cases q:bs[i]? with
  | none=>rw [q] at e; cases e
  | some x=>rw [q] at e; exact ⟨x,rfl,(Option.some.inj e).symm⟩
 obtain ⟨pq,hpq,ai⟩:=JY h hb;unfold DN at hpq;rw [getElem?_map] at hpq
 obtain ⟨pr,hpr,rfl⟩:∃ q,due[i]?=some q/\pq=(V.str q.1,V.int (q.2:Int)):=by
  cases q:due[i]? with
  | none=>rw [q] at hpq; cases hpq
  | some x=>rw [q] at hpq; exact ⟨x,rfl,(Option.some.inj hpq).symm⟩
 exact ⟨b,pr,rfl,hb,hpr,ai⟩
def wordsL:List Str:=["A", "B", "CD", "EFG", "H", "IJKLMN", "O", "P", "Q", "R"]
theorem N3:∀ x ∈ wordsL,Ro x:=by
 have:∀ x ∈ wordsL,(Gz x && x.cps.all (· < 128) && decide (x.length <= 1000))=true:=by decide +kernel
 intro x hx;have:=this x hx;simp only [Bool.and_eq_true,decide_eq_true_eq] at this;exact ⟨this.1.1,this.1.2,this.2⟩
theorem Mf:∀ i:Fin 10,(wordsL[i.1]?.map fun x=>decide (x ∈ wordsL.take i.1))=some false:=by decide +kernel
structure LW (d w f u:Addr) (H0 H:Hp) (rows:List (Str × Th)):Prop where
 old:∀ b o,H0 b=some o->b ≠ d->H b=some o
 dice:∃ a b:Int,H d=some (.lst [.int a,.int b])
 words:H w=some (.lst (wordsL.map V.str))
 found:∃ as:List Addr,H f=some (.lst (as.map V.ref))/\Paired (RowAt H) as rows
 due:∃ bs:List Addr,H u=some (.lst (bs.map V.ref))/\TupsAt H bs (DN (AL rows))
structure Ap (d w f u:Addr) (H0:Hp):Prop where
 wd:w ≠ d
 fd:f ≠ d
 ud:u ≠ d
 wf:w ≠ f
 wu:w ≠ u
 fu:f ≠ u
 nf:H0 f=none
 nu:H0 u=none
section
variable {d w u:Addr} {H0:Hp} {rows:List (Str × Th)}
theorem LW.same (h:LW d w f u H0 H rows) (s:Same H H'):LW d w f u H0 H' rows:=by
 obtain ⟨a,b,e⟩:=h.dice;obtain ⟨as,e1,p1⟩:=h.found;obtain ⟨bs,e2,p2⟩:=h.due;exact ⟨fun c o ec hc=>s _ _ (h.old c o ec hc),⟨a,b,s _ _ e⟩,s _ _ h.words,⟨as,s _ _ e1,A5 (SameT.of s) p1⟩,⟨bs,s _ _ e2,TupsAt.sameT (SameT.of s) p2⟩⟩
theorem LW.roll (A:Ap d w f u H0) (h:LW d w f u H0 H rows) (a' b':Int):LW d w f u H0 (upd H d (.lst [.int a',.int b'])) rows:=by
 obtain ⟨a,b,e⟩:=h.dice;obtain ⟨as,e1,p1⟩:=h.found;obtain ⟨bs,e2,p2⟩:=h.due;have t:SameT H (upd H d (.lst [.int a',.int b'])):=SameT.upd e;exact ⟨fun c o ec hc=>by rw [AF hc]; exact h.old c o ec hc,⟨a',b',upd_same⟩,by rw [AF A.wd]; exact h.words,⟨as,by rw [AF A.fd]; exact e1,A5 t p1⟩,⟨bs,by rw [AF A.ud]; exact e2,TupsAt.sameT t p2⟩⟩
end
theorem Ct {rows:List (Str × Th)} {bs:List Addr} (h:TupsAt H bs (DN (AL rows))):bs.length=rows.length:=by
 rw [h.length]; unfold DN; rw [length_map,Bi]
theorem N4 (rows:List (Str × Th)):(AL rows).map (·.1)=rows.map (·.1):=by
 have:∀ (l:List (Str × Th)) (a:LN),((l.foldl (fun due r=>due++[(r.1,CT due r.2)]) a).map (·.1))=a.map (·.1)++l.map (·.1):=by
  intro l;induction l with
  | nil=>intro a; simp
  | cons x r ih=>intro a; rw [foldl_cons,ih,map_append]; simp
 have e:=this rows [];unfold AL;rw [e]; rfl
def Sd:St->Nat
 | [_,_,_,_,_,_,_,_,_,some (.int i),_,_]=>(2 ^ 22 - i).toNat
 | _=>0
section
def IQ:Sp:=fun vs H Q _=>∃ (d:Addr) (a b M:Int),vs=[.ref d,.int M]/\1 <= M/\M <= 10/\H d=some (.lst [.int a,.int b]) /\
 ∀ (q f u:Addr) (as bs:List Addr) (rows:List (Str × Th)) H',SameX d H H'->H' q=some (.tup [.ref f,.ref u])->H f=none->H u=none->H' f=some (.lst (as.map V.ref))->Paired (RowAt H') as rows->H' u=some (.lst (bs.map V.ref))->TupsAt H' bs (DN (AL rows)) ->
  0 < rows.length->(rows.length:Int) <= M->D2 rows->(∀ x ∈ rows.map (·.1),x ∈ wordsL)->Q (.ref q) H'
abbrev Qh:List Str:=["_law_dice", "_law_most", "_law_words", "_law_found", "_law_due", "_law_at", "_law_high", "_law_kind", "_law_thing", "_law_number", "_law_name", "_law_more"]
@[irreducible] def Kl:Expr:=match defBody Bs with | .Assign _ (.Tuple (e :: _) _ _) _ :: _=>e | _=>.Constant .none 0 ⟨0,0,0,0⟩
abbrev PU:Stmt:=match defBody Bs with | .Assign t (.Tuple (_ :: r) k p) q :: _=>.Assign t (.Tuple (Kl :: r) k p) q | _=>.Pass ⟨0,0,0,0⟩
abbrev Qi:List Stmt:=(defBody Bs).drop 1
theorem Qj:defBody Bs=PU :: Qi:=by kernel_rfl
theorem Mg {X:Cx}:PE X Kl (QH (A2 (tC (.str "A")) (A2 (tC (.str "B")) (A2 (tC (.str "CD")) (A2 (tC (.str "EFG")) (A2 (tC (.str "H")) (A2 (tC (.str "IJKLMN")) (A2 (tC (.str "O")) (A2 (tC (.str "P")) (A2 (tC (.str "Q")) (A2 (tC (.str "R")) (En)))))))))))):=by
 unfold Kl;exact BX Me
theorem scLines:AN Qh ["_law_dice", "_law_most"] (defScope Bs):=fsc
theorem N5 {f0:Addr} (F:Fun K "_law_lines" "_law_lines" Bs f0 fd) (B:Bl mg) (GR:Fn P w K mg base "_law_roll" 2 ["_law_dice", "_law_many"] D4):Ae P w K mg base CX0 3 f0 fd ["_law_dice", "_law_most"] IQ:=by
 obtain ⟨fR,dR,GR,mR,kR,bR⟩:=GR.ex;refine F.ok scLines (fun vs H Q E h=>?_) (fun ad A outer s H vs Q E hr h=>?_)
 ·obtain ⟨d,a,b,M,rfl,_⟩:=h;rfl
 ·obtain ⟨d,a,b,M,rfl,M1,M10,hd,k⟩:=h;have hu64:=hr.units;have nd:=scLines.nd;rw [Qj]
  refine ⟨_,AE (Cz (hs:=by kernel_rfl) (hw:=by kernel_rfl) (BD (AA (hs:=by kernel_rfl) Mg (AA (BX AB) (AA (BX AB) AB))))
    (BI rfl (AR (AO (i:=2) scLines.nd rfl (Or.inl rfl)) (AR (AO (i:=3) scLines.nd rfl (Or.inl rfl)) (AR (AO (i:=4) scLines.nd rfl (Or.inr rfl)) A6)))))
   (AE (BW PassesOwn.never rfl (CB rfl B.range (AA (AW Cb AH (AM GR hr rfl mR kR bR .nil AQ (AA (pv 0) (AA (pv 1) AB)))) AB)) (AO (i:=5) scLines.nd rfl (Or.inl rfl))
    (BF (Ac (i:=6) scLines.nd rfl (Or.inl rfl) (LI rfl rfl B.max (EL [] [] (by kernel_rfl) (by decide +kernel) (by kernel_rfl) (by kernel_rfl) rfl (Ad (pv 4)) (fun _ _ _ _ _ _=>BL) (fun _ _ _ _ _ _=>pv 1)) AH))
    (AE (Ac (i:=7) scLines.nd rfl (Or.inl rfl) (AM GR hr rfl mR kR bR .nil AQ (AA (pv 0) (AA AH AB))))
    (AE (Cz (hs:=by kernel_rfl) (hw:=by kernel_rfl) (BD (AA Hl (AA AH AB))) (BI rfl (AR (AO (i:=8) scLines.nd rfl (Or.inl rfl)) (AR (AO (i:=9) scLines.nd rfl (Or.inl rfl)) A6))))
    (BF (Il PassesOwn.never (AU FE (pv 9) (pv 6) (AY _)) (AD (Ac (i:=9) scLines.nd rfl (Or.inl rfl) (AW Fe (pv 9) AH))))
    (BF (Au (PW.pt (De (AU Ck (pv 7) AH (AY _)) (CZ (AU Ps (pv 9) (AW J3 AH AH) (AY _)))))
      (AE (Ac (i:=8) scLines.nd rfl (Or.inl rfl) (BZ (A4 K rfl) (BX (AA (AW Hq AH (AM GR hr rfl mR kR bR .nil AQ (AA (pv 0) (AA AH AB)))) (AA (AM GR hr rfl mR kR bR .nil AQ (AA (pv 0) (AA AH AB)))
       (AA (AW Hq AH (AM GR hr rfl mR kR bR .nil AQ (AA (pv 0) (AA AH AB)))) (AA AH AB))))) (AM GR hr rfl mR kR bR .nil AQ (AA (pv 0) (AA AH AB))) (fun _ _=>rfl)))
      (AD (Ac (i:=9) scLines.nd rfl (Or.inl rfl) (pv 8)))) Aa)
    (BF (Au (PW.pt (Cw (AU G2 (pv 7) AH (AY _)) (B7 (AU (QP K rfl hu64) (pv 4) (BX AB) (AY _)))))
      (AE (Ac (i:=8) scLines.nd rfl (Or.inl rfl) (Bq Gr rfl B.tuple DI (AA (A3 ["_law_due", "_law_dice"] [some 4,some 0] (by kernel_rfl) (by decide +kernel) (by kernel_rfl) rfl (CB rfl B.range (AA (AW Cb AH (AM GR hr rfl mR kR bR .nil AQ (AA (pv 0) (AA AH AB)))) AB)) (fun _ _ _ _ _ _=>BL)
       (fun _ _ _ _ _ _=>BZ (DV K rfl) (BZ (A4 K rfl) (pv 1) (AM GR hr rfl mR kR bR .nil AQ (AA (pv 2) (AA (AX (Av K rfl) rfl B.len PySem.boot_len (AA (pv 1) AB)) AB))) (fun _ _=>rfl)) AH (fun _ _=>rfl))) AB)))
      (AE (Ac (i:=9) scLines.nd rfl (Or.inl rfl) AH)
      (AD (BW PassesOwn.never rfl (Ad (pv 4)) (BI rfl (AR (AO (i:=10) scLines.nd rfl (Or.inl rfl)) (AR (AO (i:=11) scLines.nd rfl (Or.inl rfl)) A6)))
       (AD (Ac (i:=9) scLines.nd rfl (Or.inl rfl) (AW Io (pv 9) (Ik (AU CC (pv 10) (pv 8) rfl) (pv 11) AH)))))))) Aa)
    (AE (ED (Iz PySem.F.plainAttrs_list PySem.F.slot_list_append PySem.F.type_list_append DS (pv 3) (AA (BD (AA (BZ (A4 K rfl) (pv 2) (pv 5) (fun _ _=>rfl)) (AA (pv 8) AB))) AB)))
    (AD (ED (Iz PySem.F.plainAttrs_list PySem.F.slot_list_append PySem.F.type_list_append DS (pv 4) (AA (BD (AA (BZ (A4 K rfl) (pv 2) (pv 5) (fun _ _=>rfl)) (AA (pv 9) AB))) AB))))))))))))
   (AD (AS (BD (AA (pv 3) (AA (pv 4) AB)))))),?_⟩
  refine ⟨(by show 10 <= sizeLine; decide),fun pw hpw=>⟨Nat.zero_le _,fun pf hpf=>⟨Nat.zero_le _,fun pu hpu=>⟨sl3,fun q0 hq0=>?_⟩⟩⟩⟩;refine ⟨q0,_,rfl,SqT.of upd_same,rfl,_,_,rfl,_,_,rfl,_,_,rfl,rfl,?_⟩;have dw:pw ≠ d:=Ne.symm (AI hd hpw);have s1:Same H (upd H pw (.lst (wordsL.map V.str))):=AC (Same.refl _) hpw;have s2:Same (upd H pw (.lst (wordsL.map V.str))) (upd (upd H pw (.lst (wordsL.map V.str))) pf (.lst [])):=AC (Same.refl _) hpf;have s3:Same (upd (upd H pw (.lst (wordsL.map V.str))) pf (.lst [])) (upd (upd (upd H pw (.lst (wordsL.map V.str))) pf (.lst [])) pu (.lst [])):=AC (Same.refl _) hpu;have s4:=AC (Same.refl _) hq0 (o:=HO.tup [.ref pw,.ref pf,.ref pu]);have nf0:H pf=none:=HS s1 hpf;have nu0:H pu=none:=HS (s1.trans s2) hpu;have AP:Ap d pw pf pu H:=⟨dw,Ne.symm (AI hd nf0),Ne.symm (AI hd nu0),AI upd_same hpf,AI (s2 _ _ upd_same) hpu,AI upd_same hpu,nf0,nu0⟩;have L0:LW d pw pf pu H _ []:=⟨fun b o e _=>s4 _ _ (s3 _ _ (s2 _ _ (s1 _ _ e))),⟨a,b,s4 _ _ (s3 _ _ (s2 _ _ (s1 _ _ hd)))⟩,s4 _ _ (s3 _ _ (s2 _ _ upd_same)),⟨[],s4 _ _ (s3 _ _ upd_same),.nil⟩,⟨[],s4 _ _ upd_same,.nil⟩⟩;obtain ⟨a1,b1,hd1⟩:=L0.dice;refine ⟨_,rfl,_,rfl,d,a1,b1,M,rfl,hd1,by omega,by omega,fun r a' b' h0 h1=>?_⟩;refine ⟨_,_,rfl,rfl,_,rfl,by omega,by omega,?_⟩
  refine El (lo:=0) (n:=(1 + r).toNat) (fun i σ H2=>∃ (v5 v6 v7 v8 v9 v10 v11:Option V) (rows:List (Str × Th)),σ=[some (.ref d),some (.int M),some (.ref pw),some (.ref pf),some (.ref pu),v5,v6,v7,v8,v9,v10,v11]/\rows.length=i/\D2 rows/\rows.map (·.1)=wordsL.take i/\LW d pw pf pu H H2 rows)
   ⟨none,none,none,none,none,none,none,[],rfl,rfl,(fun i r e=>by simp at e),rfl,L0.roll AP a' b'⟩ ?_ ?_
  ·rintro i σ H2 hi ⟨v5,v6,v7,v8,v9,v10,v11,rows,rfl,ay,RO,ca,L⟩;have hi10:i < 10:=by omega
   have DO:JT (AL rows):=Ja RO (by omega);generalize bp:DJ ((AL rows).map (·.2))=a0
   have hh20:a0 < 2 ^ 20:=by
    rw [← bp];exact JP (by decide) fun n hn=>by obtain ⟨p,hp,rfl⟩:=mem_map.mp hn; exact DO.lt p hp
   refine ⟨fun σ H3=>σ=[some (.ref d),some (.int M),some (.ref pw),some (.ref pf),some (.ref pu),some (.int (0 + (i:Int))),some (.int (a0:Int)),v7,v8,v9,v10,v11]/\LW d pw pf pu H H3 rows,fun R hR=>?_,?_⟩
   ·obtain ⟨bs,hu,am⟩:=L.due;have hbl:=Ct am;refine ⟨_,rfl,pu,rfl,⟨_,SqL.of hu⟩,Ai (K:=K) (a:=pu) (xs:=bs.map V.ref) (fun j ys H3=>ys=AT (((AL rows).take j).map (·.2))/\H3=H2) ⟨by rfl,rfl⟩ (fun j ys H3 _ ⟨_,e⟩=>e ▸ SqL.of hu) (fun j ys H3 ⟨e,_⟩=>?_) ?_ ?_⟩
    ·rw [e]; unfold AT; rw [length_map,length_map,length_take,Bi]; omega
    ·rintro j v ys H3 hj ⟨rfl,rfl⟩;obtain ⟨bb,p,rfl,hb1,aj,ai⟩:=DZ am hj;refine ⟨bb,_,rfl,SqT.of ai,rfl,_,_,rfl,_,_,rfl,rfl,?_⟩;refine ⟨_,rfl,?_,rfl⟩;rw [take_add_one,aj,Option.toList_some,map_append];unfold AT;rw [map_append];rfl
    ·rintro ys H3 ⟨rfl,rfl⟩ p hp;have sp:=AC (Same.refl _) hp (o:=HO.lst (AT (((AL rows).take (bs.map V.ref).length).map (·.2))));have el:(AL rows).take (bs.map V.ref).length=AL rows:=by rw [length_map,hbl,← Bi,take_length]
     refine ⟨p,((AL rows).map (·.2)).map (fun n:Nat=>(n:Int)),0,rfl,rfl,SqL.of (by rw [upd_same,el,C5]),fun e=>?_,fun e=>?_⟩
     ·refine hR _ _ ⟨?_,L.same sp⟩;have:(AL rows).map (·.2)=[]:=List.map_eq_nil_iff.mp e;rw [this] at bp;subst bp;rfl
     ·refine hR _ _ ⟨?_,L.same sp⟩;have av:(AL rows).map (·.2) ≠ []:=fun z=>e (by rw [z]; rfl);rw [JQ av,bp];rfl
   ·rintro σ H3 ⟨rfl,L3⟩;obtain ⟨a3,b3,hd3⟩:=L3.dice;refine ⟨_,rfl,d,a3,b3,8,rfl,hd3,by decide,by decide,fun kd a4 b4 kd0 kd1=>?_⟩;have L4:=L3.roll AP a4 b4;refine ⟨sl2,fun q hq=>⟨q,_,rfl,SqT.of upd_same,rfl,_,_,rfl,_,_,rfl,rfl,?_⟩⟩;have L5:=L4.same (AC (Same.refl _) hq (o:=HO.tup [V.non,V.int 1]));refine ⟨fun σ H6=>σ=[some (.ref d),some (.int M),some (.ref pw),some (.ref pf),some (.ref pu),some (.int (0 + (i:Int))),some (.int (a0:Int)),some (.int kd),some .non,some (.int (BN a0:Nat)),v10,v11]/\LW d pw pf pu H H6 rows,fun R hR=>?_,?_⟩
    ·refine Mz (fun σ H6=>LW d pw pf pu H H6 rows/\∃ j:Nat,j <= 20/\σ=[some (.ref d),some (.int M),some (.ref pw),some (.ref pf),some (.ref pu),some (.int (0 + (i:Int))),some (.int (a0:Int)),some (.int kd),some .non,some (.int ((2 ^ j:Nat):Int)),v10,v11]/\(j=0\/2 ^ (j - 1) <= a0)) (fun σ _=>Sd σ) ⟨L5,0,by omega,rfl,.inl rfl⟩ ?_ ?_
     ·rintro σ H6 ⟨L6,j,hj,rfl,hjj⟩;refine ⟨_,rfl,_,rfl,_,_,rfl,rfl,_,rfl,?_⟩;refine Bn (fun hle=>?_) (fun hle=>?_)
      ·have hle':2 ^ j <= a0:=by have:=of_decide_eq_true hle; exact_mod_cast this
       have hj20:j < 20:=(Nat.pow_lt_pow_iff_right (by decide)).mp (Nat.lt_of_le_of_lt hle' hh20);refine ⟨_,rfl,_,_,rfl,rfl,.inr ⟨by decide,by decide⟩,?_⟩;have e2:(((2 ^ j:Nat):Int) * 2)=((2 ^ (j + 1):Nat):Int):=by rw [Nat.pow_succ]; omega
       refine ⟨⟨L6,j + 1,by omega,?_,.inr hle'⟩,?_⟩
       ·show [some (V.ref d),some (V.int M),some (V.ref pw),some (V.ref pf),some (V.ref pu),some (V.int (0 + (i:Int))),some (V.int (a0:Int)),some (V.int kd),some V.non,some (V.int (((2 ^ j:Nat):Int) * 2)),v10,v11]=_;rw [e2]
       ·show (2 ^ 22 - (((2 ^ j:Nat):Int) * 2)).toNat < (2 ^ 22 - ((2 ^ j:Nat):Int)).toNat;have h1:0 < 2 ^ j:=Nat.two_pow_pos j;have h2:2 ^ j <= 2 ^ 20:=Nat.pow_le_pow_right (by decide) hj;omega
      ·have hgt:a0 < 2 ^ j:=by
        have:¬ ((2 ^ j:Nat):Int) <= (a0:Int):=fun z=>hle (decide_eq_true z);omega
       refine hR _ _ ⟨?_,L6⟩;rw [JO hgt hjj]
     ·rintro σ H6 Q1 Q2 hQ ⟨v,e1,v2,e2,i,j,a,b,c,ec,q⟩;exact ⟨v,e1,v2,e2,i,j,a,b,c,ec,hQ _ _ q⟩
    ·rintro σ H6 ⟨rfl,L6⟩;have hsig:∀ (tv nv w10 w11:V),True:=fun _ _ _ _=>trivial;refine ⟨fun σ H7=>∃ (tv:V) (th:Th) (w10 w11:Option V),σ=[some (.ref d),some (.int M),some (.ref pw),some (.ref pf),some (.ref pu),some (.int (0 + (i:Int))),some (.int (a0:Int)),some (.int kd),some tv,some (.int (CT (AL rows) th:Nat)),w10,w11]/\LW d pw pf pu H H7 rows/\ThAt H7 tv th/\O6 (AL rows) th/\CT (AL rows) th < 2 ^ 20,fun R hR=>?_,?_⟩
     ·refine Qg (decide (V.int kd=V.int 5)) (decide ((2:Int) ^ (20:Int).toNat <= (BN a0:Nat))) (fun Q' h=>⟨_,rfl,rfl,_,rfl,h⟩) (fun Q' h=>⟨_,rfl,_,_,rfl,rfl,⟨by decide,by decide,by decide⟩,_,_,rfl,rfl,_,rfl,h⟩) ?_;refine Bn (fun _=>?_) (fun hc=>?_)
      ·obtain ⟨x1,y1,e1⟩:=L6.dice;refine ⟨_,rfl,d,x1,y1,8,rfl,e1,by decide,by decide,fun r1 a1 b1 r10 r11=>?_⟩;have M1:=L6.roll AP a1 b1;refine ⟨_,_,rfl,rfl,⟨r10,by omega,by decide⟩,?_⟩;obtain ⟨x2,y2,e2⟩:=M1.dice;refine ⟨_,rfl,d,x2,y2,64,rfl,e2,by decide,by decide,fun r2 a2 b2 r20 r21=>?_⟩;have M2:=M1.roll AP a2 b2;obtain ⟨x3,y3,e3⟩:=M2.dice;refine ⟨_,rfl,d,x3,y3,20,rfl,e3,by decide,by decide,fun r3 a3 b3 r30 r31=>?_⟩;have M3:=M2.roll AP a3 b3;refine ⟨_,_,rfl,rfl,⟨r30,by omega,by decide⟩,?_⟩;refine ⟨sl4,fun p hp=>?_⟩;have M4:=M3.same (AC (Same.refl _) hp (o:=HO.lst [V.int (1 * 2 ^ r1.toNat),V.int r2,V.int (1 * 2 ^ r3.toNat),V.int 0]));obtain ⟨x4,y4,e4⟩:=M4.dice;have npd:p ≠ d:=Ne.symm (AI upd_same hp);refine ⟨_,rfl,d,x4,y4,4,rfl,e4,by decide,by decide,fun r4 a4 b4 r40 r41=>?_⟩;have M5:=M4.roll AP a4 b4;obtain ⟨v,hv,hv2⟩:=IM (xs:=[V.int (1 * 2 ^ r1.toNat),V.int r2,V.int (1 * 2 ^ r3.toNat),V.int 0]) r40 (by show r4 < 4; exact r41)
       have hin:∃ n:Nat,v=.int (n:Int)/\n < 2 ^ 20:=by
        have:=mem_of_getElem? hv2;simp only [mem_cons,not_mem_nil,or_false] at this;rcases this with z | z | z | z
        ·refine ⟨2 ^ r1.toNat,by rw [z]; simp,?_⟩;exact (Nat.pow_lt_pow_iff_right (by decide)).mpr (by omega)
        ·exact ⟨r2.toNat,by rw [z,Int.toNat_of_nonneg r20],by omega⟩
        ·refine ⟨2 ^ r3.toNat,by rw [z]; simp,?_⟩;exact (Nat.pow_lt_pow_iff_right (by decide)).mpr (by omega)
        ·exact ⟨0,z,by decide⟩
       obtain ⟨n,rfl,hn⟩:=hin;refine ⟨p,_,r4,_,rfl,rfl,SqL.of (by rw [AF npd]; exact upd_same),hv,?_⟩;exact ⟨_,rfl,hR _ _ ⟨.int (n:Int),.num n,v10,v11,rfl,M5,rfl,trivial,hn⟩⟩
      ·refine hR _ _ ⟨.non,.non,v10,v11,?_,L6,rfl,trivial,?_⟩
       ·show _=[some (V.ref d),some (V.int M),some (V.ref pw),some (V.ref pf),some (V.ref pu),some (V.int (0 + (i:Int))),some (V.int (a0:Int)),some (V.int kd),some V.non,some (V.int ((BN (DJ ((AL rows).map (·.2))):Nat):Int)),v10,v11];rw [bp]
       ·show BN (DJ ((AL rows).map (·.2))) < 2 ^ 20;rw [bp];have h2:¬ ((2:Int) ^ (20:Int).toNat <= (BN a0:Nat)):=fun z=>hc (by rw [decide_eq_true z,Bool.or_true]);have h3:((2:Int) ^ (20:Int).toNat)=1048576:=by decide
        omega
     ·rintro σ H7 ⟨tv,th,w10,w11,rfl,L7,hT,hTO,hlt⟩;obtain ⟨bs,hu,am⟩:=L7.due;have hbl:=Ct am;refine ⟨fun σ H8=>∃ (tv:V) (th:Th) (w10 w11:Option V),σ=[some (.ref d),some (.int M),some (.ref pw),some (.ref pf),some (.ref pu),some (.int (0 + (i:Int))),some (.int (a0:Int)),some (.int kd),some tv,some (.int (CT (AL rows) th:Nat)),w10,w11]/\LW d pw pf pu H H8 rows/\ThAt H8 tv th/\O6 (AL rows) th/\CT (AL rows) th < 2 ^ 20,fun R hR=>?_,?_⟩
      ·refine PR (decide ((5:Int) < kd)) (!(D5 (AL rows)).isEmpty) (fun Q' h=>⟨_,rfl,_,_,rfl,rfl,_,rfl,h⟩) (fun Q' h=>⟨_,rfl,Nat.zero_le _,fun p hp=>?_⟩) (fun H8 s8=>?_)
       ·have sp:=AC (Same.refl _) hp (o:=HO.lst []);refine ⟨.list (D5 (AL rows)),.list [],Ba (sp _ _ hu) (EY (TupsAt.sameT (SameT.of sp) am)),Ba upd_same FV,DP fun p hp=>(DO.nm p hp).2.1,Kk,_,rfl,?_⟩;rw [FW];exact h _ sp
       ·refine Bn (fun hc=>?_) (fun hc=>?_)
        ·have av:0 < bs.length:=by
          rw [Bool.and_eq_true] at hc;have h2:=hc.2;rw [hbl,← Bi];cases hz:AL rows with
          | nil=>rw [hz] at h2; cases h2
          | cons x r=>simp
         have L8:=L7.same s8;obtain ⟨x1,y1,e1⟩:=L8.dice;refine ⟨_,rfl,d,x1,y1,3,rfl,e1,by decide,by decide,fun r1 a1 b1 r10 r11=>?_⟩;have M1:=L8.roll AP a1 b1;refine ⟨_,_,rfl,rfl,_,rfl,by omega,by omega,?_⟩;refine Dk (lo:=0) (n:=(1 + r1).toNat) (fun j ys H9=>∃ ns:List Str,ys=ns.map V.str/\ns.length=j/\j <= 3/\(∀ x ∈ ns,x ∈ (AL rows).map (·.1))/\LW d pw pf pu H H9 rows) ⟨[],rfl,rfl,by decide,(fun x hx=>nomatch hx),M1⟩ ?_ ?_ ?_
         ·rintro j ys H9 ⟨ns,rfl,e,h3,_⟩;rw [length_map]; omega
         ·rintro j ys H9 hj ⟨ns,rfl,e,h3,hin,L9⟩;obtain ⟨x2,y2,e2⟩:=L9.dice;obtain ⟨cs,hu9,ax⟩:=L9.due;have af:=Ct ax;have aq:(cs.map V.ref).length=bs.length:=by rw [length_map,af,hbl]
          refine ⟨_,rfl,_,rfl,_,rfl,pu,_,rfl,.inl (SqL.of hu9),d,x2,y2,_,rfl,e2,by rw [aq]; omega,by rw [aq]; omega,fun r2 a2 b2 r20 r21=>?_⟩;have M2:=L9.roll AP a2 b2;have hu10:(upd H9 d (.lst [.int a2,.int b2])) pu=some (.lst (cs.map V.ref)):=by rw [AF AP.ud]; exact hu9
          have hcs2:TupsAt (upd H9 d (.lst [.int a2,.int b2])) cs (DN (AL rows)):=TupsAt.sameT (SameT.upd e2) ax;obtain ⟨v,hv,hv2⟩:=IM (xs:=cs.map V.ref) r20 (by exact r21);obtain ⟨bb,p,rfl,_,aj,ai⟩:=DZ hcs2 hv2;refine ⟨pu,_,r2,_,rfl,rfl,SqL.of hu10,hv,bb,_,0,.str p.1,rfl,rfl,SqT.of ai,rfl,?_⟩;refine ⟨ns++[p.1],by rw [map_append]; rfl,by rw [length_append,e]; rfl,by omega,fun x hx=>?_,M2⟩;rcases mem_append.mp hx with z | z
          ·exact hin x z
          ·rw [mem_singleton] at z;subst z;exact mem_map.mpr ⟨p,mem_of_getElem? aj,rfl⟩
         ·rintro ys H9 ⟨ns,rfl,e,h3,hin,L9⟩ l hl;have L10:=L9.same (AC (Same.refl _) hl (o:=HO.lst (ns.map V.str)));refine ⟨l,_,rfl,.inl ⟨SqL.of upd_same,fun t ht=>?_⟩⟩;have L11:=L10.same (AC (Same.refl _) ht (o:=HO.tup (ns.map V.str)));obtain ⟨cs,hu11,ax⟩:=L11.due;have af:=Ct ax;refine ⟨_,rfl,pu,rfl,⟨_,SqL.of hu11⟩,BM (K:=K) (a:=pu) (xs:=cs.map V.ref) (fun j σ H12=>H12=upd (upd H9 l (.lst (ns.map V.str))) t (.tup (ns.map V.str))/\∃ w10 w11:Option V,σ=[some (.ref d),some (.int M),some (.ref pw),some (.ref pf),some (.ref pu),some (.int (0 + (i:Int))),some (.int (a0:Int)),some (.int kd),some (.ref t),some (.int (uni ((AL rows).take j) ns:Nat)),w10,w11]) ⟨rfl,w10,w11,rfl⟩ (fun j σ H12 _ ⟨e,_⟩=>e ▸ SqL.of hu11) ?_ ?_⟩
          ·rintro j v σ H12 hj ⟨rfl,w10,w11,rfl⟩;obtain ⟨bb,p,rfl,_,aj,ai⟩:=DZ ax hj;refine ⟨bb,_,rfl,SqT.of ai,rfl,_,_,rfl,_,_,rfl,rfl,?_⟩;refine ⟨_,rfl,_,rfl,_,rfl,t,_,rfl,.inr (SqT.of upd_same),rfl,?_,_,rfl,?_⟩
           ·rw [all_map];exact List.all_eq_true.mpr fun _ _=>rfl
           ·have eu:uni ((AL rows).take (j + 1)) ns=uni ((AL rows).take j) ns ||| (if inV (.str p.1) (ns.map V.str) then p.2 else 0):=by
             unfold uni;rw [take_add_one,aj,Option.toList_some,map_append];exact Do _ _
            refine Bn (fun hc2=>?_) (fun hc2=>?_)
            ·refine ⟨_,rfl,_,_,rfl,rfl,rfl,some (.str p.1),some (.int (p.2:Int)),?_⟩;have hc3:inV (.str p.1) (ns.map V.str)=true:=hc2;rw [hc3,if_pos rfl] at eu;rw [eu,← Cg];rfl
            ·refine ⟨_,_,rfl,rfl,rfl,some (.str p.1),some (.int (p.2:Int)),?_⟩;have hc3:inV (.str p.1) (ns.map V.str)=false:=Bool.eq_false_iff.mpr hc2;rw [hc3,if_neg Bool.false_ne_true] at eu;rw [eu,← Cg];rfl
          ·rintro σ H12 ⟨rfl,w10,w11,rfl⟩;have el:(AL rows).take (cs.map V.ref).length=AL rows:=by rw [length_map,af,← Bi,take_length]
           have en:CT (AL rows) (.nms ns)=uni (AL rows) ns:=(Qf DO.nd hin).symm;have eL:ns.length=(1 + r1).toNat:=e;refine hR _ _ ⟨.ref t,.nms ns,w10,w11,by rw [el,en],L11,⟨t,rfl,upd_same⟩,⟨?_,by omega,hin⟩,?_⟩
           ·intro z; subst z; simp at eL; omega
           ·show AZ (ns.map (look (AL rows))) < 2 ^ 20;refine F0 fun n hn=>?_;obtain ⟨x,hx,rfl⟩:=mem_map.mp hn;obtain ⟨p,hp,rfl⟩:=mem_map.mp (hin x hx);rw [Cr DO.nd hp];exact DO.lt p hp
        ·exact hR _ _ ⟨tv,th,w10,w11,rfl,L7.same s8,hT.same s8,hTO,hlt⟩
      ·rintro σ H8 ⟨tv,th,w10,w11,rfl,L8,hT,hTO,hlt⟩;obtain ⟨as,hf,hP⟩:=L8.found;have ar:as.length=rows.length:=hP.length;have hw:wordsL[i]?=some wordsL[i]:=List.getElem?_eq_getElem hi10;generalize ap:wordsL[i]=wd at hw
       have hat:atI (wordsL.map V.str) (0 + (i:Int))=some (.str wd):=by
        have:(0:Int) + (i:Int)=((i:Nat):Int):=by omega
        rw [this];exact B9 (by rw [getElem?_map,hw]; rfl)
       refine ⟨_,rfl,.inl ⟨rfl,_,SqL.of hf⟩,_,rfl,_,rfl,pw,_,_,.str wd,rfl,rfl,SqL.of L8.words,hat,_,rfl,sl2,fun p hp=>?_⟩;have sp:=AC (Same.refl _) hp (o:=HO.tup [V.str wd,tv]);have hz1:(as.map V.ref).length < sizeLine:=Ag (by rw [length_map]; omega);refine ⟨pf,_,.ref p,rfl,rfl,sp _ _ hf,hz1,?_⟩;have t1:SameT (upd H8 p (.tup [V.str wd,tv])) (upd (upd H8 p (.tup [V.str wd,tv])) pf (.lst (as.map V.ref++[.ref p]))):=SameT.upd (sp _ _ hf);obtain ⟨bs,hu,am⟩:=L8.due;have hbl:=Ct am;have hu1:(upd (upd H8 p (.tup [V.str wd,tv])) pf (.lst (as.map V.ref++[.ref p]))) pu=some (.lst (bs.map V.ref)):=by rw [AF (Ne.symm AP.fu)]; exact sp _ _ hu
       have hw1:(upd (upd H8 p (.tup [V.str wd,tv])) pf (.lst (as.map V.ref++[.ref p]))) pw=some (.lst (wordsL.map V.str)):=by rw [AF AP.wf]; exact sp _ _ L8.words
       refine ⟨_,rfl,.inl ⟨rfl,_,SqL.of hu1⟩,_,rfl,_,rfl,pw,_,_,.str wd,rfl,rfl,SqL.of hw1,hat,_,rfl,sl2,fun q hq=>?_⟩;have sq:=AC (Same.refl _) hq (o:=HO.tup [V.str wd,V.int ((CT (AL rows) th:Nat):Int)]);have hz2:(bs.map V.ref).length < sizeLine:=Ag (by rw [length_map]; omega);refine ⟨pu,_,.ref q,rfl,rfl,sq _ _ hu1,hz2,?_⟩;have t2:=SameT.upd (sq _ _ hu1) (ys:=bs.map V.ref++[.ref q]);have tall:=((SameT.of sp).trans t1).trans ((SameT.of sq).trans t2);obtain ⟨x,y,ed⟩:=L8.dice;have RR:LL (AL rows) (wd,th):=⟨DO,by rw [Bi]; omega,N3 wd (mem_of_getElem? hw),?_,hTO,hlt⟩;refine ⟨_,_,_,_,_,_,_,rows++[(wd,th)],rfl,by rw [length_append,ay]; rfl,JZ RO RR,?_,?_⟩
       ·rw [map_append,ca,take_add_one,hw,Option.toList_some]; rfl
       ·refine ⟨fun c o ec hc=>?_,⟨x,y,?_⟩,?_,⟨as++[p],?_,?_⟩,⟨bs++[q],?_,?_⟩⟩
        ·have n1:c ≠ pu:=AI ec AP.nu;have n2:c ≠ pf:=AI ec AP.nf;rw [AF n1];refine sq _ _ ?_;rw [AF n2];exact sp _ _ (L8.old c o ec hc)
        ·rw [AF (Ne.symm AP.ud)];refine sq _ _ ?_;rw [AF (Ne.symm AP.fd)];exact sp _ _ ed
        ·rw [AF AP.wu];exact sq _ _ hw1
        ·rw [AF AP.fu];refine sq _ _ ?_;rw [upd_same,map_append]; rfl
        ·refine Paired.snoc (A5 tall hP) ?_;exact ⟨tv,t2 _ _ (sq _ _ (t1 _ _ upd_same)),hT.sameT tall⟩
        ·rw [upd_same,map_append]; rfl
        ·rw [E2];unfold DN;rw [map_append];exact Paired.snoc (TupsAt.sameT tall am) (t2 _ _ upd_same)
       ·rw [N4,ca];intro z;have key:=Mf ⟨i,hi10⟩;rw [hw] at key;have:=Option.some.inj key;exact of_decide_eq_false this z
  ·rintro σ H2 ⟨v5,v6,v7,v8,v9,v10,v11,rows,rfl,ay,RO,ca,L⟩;obtain ⟨as,hf,hP⟩:=L.found;obtain ⟨bs,hu,am⟩:=L.due;refine ⟨_,rfl,_,rfl,sl2,fun q hq=>?_⟩;have sq:=AC (Same.refl _) hq (o:=HO.tup [V.ref pf,V.ref pu]);refine k q pf pu as bs rows _ ⟨fun c o e hc=>sq _ _ (L.old c o e hc),?_⟩ upd_same nf0 nu0 (sq _ _ hf) (A5 (SameT.of sq) hP) (sq _ _ hu) (TupsAt.sameT (SameT.of sq) am) (by omega) (by omega) RO (fun x hx=>List.mem_of_mem_take (ca ▸ hx));obtain ⟨x,y,e⟩:=L.dice;exact ⟨x,y,sq _ _ e⟩
end
end Mk
end
section
namespace L2
open PySem
theorem HU {X:Cx} (K:FG) (hK:X.K=K):BU X (.builtin "isinstance") (fun xs H Q=>∃ v C t b,xs=[v,.ref C]/\TyOf K H v t/\W.kitOne K t (.ref C)=some b/\Q (.bl b) H):=by
 subst hK;intro aa s σ H xs us Q I r h;obtain ⟨v,C,t,b,rfl,ty,hk,q⟩:=h;obtain ⟨u,uT,rfl,ru,ruT⟩:=Fh r;cases ruT;exact G3 I ru ty hk fun tk=>⟨.bl b,H,I.tok tk,rfl,q⟩
end L2
namespace Mk
open PySem L2 MK
structure KIsi (K:FG) (C:Addr):Prop where
 cl:Cls K C
 ha:W.findIn K (.ref C) "__class__" = some (some (.builtin "object.__class__"))
 hn:W.specialIn K (.builtin "object.__class__") "__get__" = some (some (.builtin "getset_descriptor.__get__"))
 ht:W.takesIn K (.builtin "object.__class__")=some true
 hm:W.mroIn K C (.type "object")=some true
 nl:W.kitOne K (.type "list") (.ref C)=some false
theorem KIsi.ty {a dx:Addr} {fs:List (Str × V)} (k:KIsi K C) (e:H a=some (.ins C dx fs)):TyOf K H (.ref a) (.ref C):=.ins e k.cl k.ha k.hn k.ht k.hm
theorem Jb (K:FG) (C:Addr):W.kitOne K (.ref C) (.ref C)=some true:=by
 unfold W.kitOne;rw [if_pos (by simp)]
section
def Km (C:Addr):Sp:=fun vs H Q _=>∃ (p:Addr) (due:LN) (r:Str),vs=[.ref p]/\KindAt C H p due r/\Q (.str r) H
theorem Qk:AN ["self"] ["self"] (defScope Ew):=fsc
theorem PV (F:Fun K "rest" "Kind.rest" Ew f fd) (T:E7 K C):Ae P w K mg base CX0 1 f fd ["self"] (Km C):=by
 refine F.ok Qk (fun vs H Q E h=>?_) (fun ad A outer s H vs Q E hr h=>?_)
 ·obtain ⟨p,due,r,rfl,_⟩:=h;rfl
 ·obtain ⟨p,due,r,rfl,KA,k⟩:=h;obtain ⟨dx,d1,o1,d2,o2,hp,h1,h2⟩:=KA.ex;refine ⟨_,AD (AS (Ak (pv 0) rfl)),?_⟩;exact ⟨_,rfl,p,C,dx,_,_,rfl,hp,T.cl,T.nR,E6 _ _ _,k⟩
theorem N6 {p q:Str × Nat}:PyData.eqv (.tuple [.str p.1,.int (p.2:Int)]) (.tuple [.str q.1,.int (q.2:Int)])=decide (p=q):=by
 rw [Bool.eq_iff_iff];simp only [PyData.eqv,PyData.eqvAll,Bool.and_true,Bool.and_eq_true,decide_eq_true_eq,beq_iff_eq];constructor
 ·rintro ⟨a,b⟩;exact Prod.ext a (by exact_mod_cast b)
 ·rintro rfl;exact ⟨rfl,rfl⟩
theorem Jc:∀ (a b:LN),PyData.eqv (.list (D5 a)) (.list (D5 b))=decide (a=b)
 | [],[]=>by simp [D5,PyData.eqv,PyData.eqvAll]
 | [],q :: r=>by simp [D5,PyData.eqv,PyData.eqvAll]
 | p :: r,[]=>by simp [D5,PyData.eqv,PyData.eqvAll]
 | p :: r,q :: s=>by
  have ih:=Jc r s
  have h:PyData.eqv (.list (D5 (p :: r))) (.list (D5 (q :: s)))=(PyData.eqv (.tuple [.str p.1,.int (p.2:Int)]) (.tuple [.str q.1,.int (q.2:Int)]) && PyData.eqv (.list (D5 r)) (.list (D5 s))):=by
   simp only [D5,map_cons,PyData.eqv,PyData.eqvAll]
  rw [h,N6,ih,Bool.eq_iff_iff];simp
def Asc (due:LN):Prop:=∀ p ∈ due,p.1.cps.all (· < 128)=true
def Jd (C:Addr):Sp:=fun vs H Q _=>∃ (a b:Addr) (due:LN) (r:Str),vs=[.ref a,.ref b]/\KindAt C H a due r/\Asc due /\
 ((∃ xs,H b=some (.lst xs)/\∀ H',Same H H'->Q (.bl false) H')\/∃ (due':LN) (r':Str),KindAt C H b due' r'/\Asc due'/\∀ H',Same H H'->Q (.bl (decide (due=due'/\r=r'))) H')
theorem Se:AN ["self", "other"] ["self", "other"] (defScope IE):=fsc
theorem Ql (F:Fun K "__eq__" "Kind.__eq__" IE f fd) (B:Bl mg) (T:E7 K C) (KI:KIsi K C) (mC:mg "Kind" = some (.ref C)) (GR:Mt P w K mg base C "rows" 1 ["self"] (Ki C)):Ae P w K mg base CX0 2 f fd ["self", "other"] (Jd C):=by
 obtain ⟨fR,dR,GR,mR,bR⟩:=GR.ex;refine F.ok Se (fun vs H Q E h=>?_) (fun ad A outer s H vs Q E hr h=>?_)
 ·obtain ⟨a,b,due,r,rfl,_⟩:=h;rfl
 ·obtain ⟨a,b,due,r,rfl,KA,h1,h⟩:=h;have hu64:=hr.units
  refine ⟨_,AD (AS (CH (AX (HU K rfl) rfl B.isi II (AA (pv 1) (AA (CP (v:=.ref C) rfl mC rfl) AB)))
   (CH (Bw (KM K rfl hu64) (BG (pv 0) T.cl mR GR hr bR .nil AQ) (BG (pv 1) T.cl mR GR hr bR .nil AQ) (AY _))
    (Cy (Bw Ck (Ak (pv 0) rfl) (Ak (pv 1) rfl) (AY _)))))),?_⟩
  obtain ⟨dx,d1,d2,hp⟩:=KA.ins;rcases h with ⟨xs,hb,k⟩ | ⟨due',r',KB,h2,k⟩
  ·refine ⟨_,rfl,_,C,_,false,rfl,.lst hb,KI.nl,_,rfl,?_⟩;exact As (k _ (Same.refl _))
  ·obtain ⟨dy,e1,e2,hq⟩:=KB.ins;refine ⟨_,rfl,_,C,_,true,rfl,KI.ty hq,Jb K C,_,rfl,?_⟩;refine BY ?_;refine ⟨_,rfl,a,dx,_,rfl,hp,(DX _ _ _),a,due,r,rfl,KA,fun l as H1 s1 hl ht=>?_⟩;refine ⟨_,rfl,b,dy,_,rfl,s1 _ _ hq,(DX _ _ _),b,due',r',rfl,KB.same s1,fun l2 as2 H2 s2 hl2 ht2=>?_⟩;refine ⟨_,_,Ba (s2 _ _ hl) (EY (TupsAt.same s2 ht)),Ba hl2 (EY ht2),DP h1,DP h2,_,rfl,?_⟩;rw [Jc];have s12:=s1.trans s2;refine Bn (fun e=>?_) (fun e=>?_)
   ·have e':due=due':=of_decide_eq_true e;refine ⟨_,rfl,a,C,dx,_,_,rfl,s12 _ _ hp,T.cl,T.nR,E6 _ _ _,_,rfl,b,C,dy,_,_,rfl,s12 _ _ hq,T.cl,T.nR,E6 _ _ _,rfl,?_⟩;have:=k _ s12;have ev:decide (V.str r=V.str r')=decide (due=due'/\r=r'):=decide_eq_decide.mpr ⟨fun z=>⟨e',V.str.inj z⟩,fun z=>by rw [z.2]⟩;rw [ev];exact this
   ·have:=k _ s12;rw [decide_eq_false (fun z=>e (decide_eq_true z.1))] at this;exact this
end
def Mh (due:LN) (e m:Addr):LK:=[(Sum.inr "known", V.int (AZ (due.map (·.2)):Nat)),(Sum.inr "firsts", V.ref e),(Sum.inr "marks", V.ref m),(Sum.inr "bits", V.int (AZ (AG due):Nat))]
theorem Qm (a b c d:V):Eo [] [((Sum.inr "known" : Key),a),(Sum.inr "firsts", b),(Sum.inr "marks", c),(Sum.inr "bits", d)]=[((Sum.inr "known" : Key),a),(Sum.inr "firsts", b),(Sum.inr "marks", c),(Sum.inr "bits", d)]:=by kernel_rfl
theorem Mi (due:LN) (e m:Addr):A7 (Mh due e m) (Sum.inr "known")=some (V.int (AZ (due.map (·.2)):Nat)):=by kernel_rfl
theorem E8 (due:LN) (e m:Addr):A7 (Mh due e m) (Sum.inr "marks")=some (V.ref m):=by kernel_rfl
theorem Gb (due:LN) (e m:Addr):A7 (Mh due e m) (Sum.inr "bits")=some (V.int (AZ (AG due):Nat)):=by kernel_rfl
theorem E9 (due:LN):(AG due).Pairwise (· < ·):=by
 have h1:=EV due;have h2:(An due).Nodup:=(CM due).nodup_iff.mpr (HN due);have h3:(An due).Pairwise (· < ·):=List.Pairwise.imp₂ (fun a b h n=>Nat.lt_of_le_of_ne h n) h1 h2;exact h3.filter _
theorem HV (due:LN):((AG due).map fun n:Nat=>(n:Int)).sum=((AZ (AG due):Nat):Int):=by
 have hs:(AG due).sum=AZ (AG due):=MQ (fun n hn=>(mem_filter.mp hn).2) (E9 due);rw [← hs];clear hs;generalize AG due=l;induction l with
 | nil=>rfl
 | cons a r ih=>rw [map_cons,sum_cons,sum_cons,ih]; push_cast; rfl
theorem N7 (due:LN):AZ ((AV due).map (·.1))=AZ (due.map (·.2)):=by
 refine Nat.eq_of_testBit_eq fun k=>?_;rw [BQ,BQ,Bool.eq_iff_iff,any_eq_true,any_eq_true];constructor
 ·rintro ⟨n,hn,hb⟩;obtain ⟨q,hq,rfl⟩:=mem_map.mp hn;exact ⟨q.1,mem_map.mpr ⟨_,E5 hq,rfl⟩,hb⟩
 ·rintro ⟨n,hn,hb⟩;obtain ⟨p,hp,rfl⟩:=mem_map.mp hn;exact ⟨p.2,MZ hp,hb⟩
section
def IR:Sp:=fun vs H Q _=>∃ (u:Addr) (bs:List Addr) (due:LN),vs=[.ref u]/\H u=some (.lst (bs.map V.ref))/\TupsAt H bs (DN due)/\due.length <= 10/\(∀ p ∈ due,p.2 < 2 ^ 20) /\
 ∀ t e m ms H',Same H H'->H' t=some (.dK (Mh due e m))->H' e=some (.dK (Bo (AV due)))->H' m=some (.lst (ms.map V.ref))->TupsAt H' ms (Cq due)->Q (.ref t) H'
abbrev Qn:List Str:=["_law_due", "_law_known", "_law_firsts", "_law_name", "_law_number", "_law_marks"]
theorem scTable:AN Qn ["_law_due"] (defScope DH):=fsc
theorem N8 (F:Fun K "_law_table_of" "_law_table_of" DH f fd) (B:Bl mg) (GB:Fn P w K mg base "_law_bits_of" 1 ["_law_number"] EX):Ae P w K mg base CX0 2 f fd ["_law_due"] IR:=by
 obtain ⟨fB,dB,GB,mB,kB,bB⟩:=GB.ex;refine F.ok scTable (fun vs H Q E h=>?_) (fun ad A outer s H vs Q E hr h=>?_)
 ·obtain ⟨u,bs,due,rfl,_⟩:=h;rfl
 ·obtain ⟨u,bs,due,rfl,hu0,am,h10,hlt,k⟩:=h;have hu:=C7 hr
  refine ⟨_,AE (Cz (hs:=by kernel_rfl) (hw:=by kernel_rfl) (BD (AA AH (AA Fq AB))) (BI rfl (AR (AO (i:=1) scTable.nd rfl (Or.inl rfl)) (AR (AO (i:=2) scTable.nd rfl (Or.inr rfl)) A6))))
   (AE (BW PassesOwn.never rfl (Ad (pv 0)) (BI rfl (AR (AO (i:=3) scTable.nd rfl (Or.inl rfl)) (AR (AO (i:=4) scTable.nd rfl (Or.inl rfl)) A6)))
    (AE (Ac (i:=1) scTable.nd rfl (Or.inl rfl) (AW Io (pv 1) (pv 4)))
    (AD (Au (C9 (Lp hu (pv 4) (pv 2))) (AD (K9 hu (pv 2) (pv 4) (pv 3) rfl)) Aa))))
   (AE (EM (i:=5) scTable.nd rfl (by kernel_rfl) ["_law_firsts"] [some 2] (by kernel_rfl) (by decide +kernel) (by kernel_rfl) rfl (Ad (AX (EN rfl) rfl B.sorted E1 (AA (pv 2) AB)))
    (fun _ _ _ _ _ _=>Bg (AU Ck (AX (Av K rfl) rfl B.len PySem.boot_len (AA (AM GB hr rfl mB kB bB .nil AQ (AA (pv 0) AB)) AB)) AH (AY _)))
    (fun _ _ _ _ _ _=>BD (AA (BK hu (pv 1) (pv 0) (fun _ _=>rfl)) (AA (pv 0) AB))))
   (AD (AS (Ou (EJ Aw (pv 1) (EJ Aw (pv 2) (EJ Aw (pv 5) (EJ Aw (AX (NM rfl) rfl B.sum QW (AA (EL [] [] (by kernel_rfl) (by decide +kernel) (by kernel_rfl) (by kernel_rfl) rfl (Ad (pv 5)) (fun _ _ _ _ _ _=>BL) (fun _ _ _ _ _ _=>pv 1)) AB)) Ot)))) rfl rfl (by simp) (by decide)))))),?_⟩
  refine fun e he=>⟨sl2,fun q hq=>⟨q,_,rfl,SqT.of upd_same,rfl,_,_,rfl,_,_,rfl,rfl,?_⟩⟩;have s1:=AC (AC (Same.refl _) he (o:=HO.dK [])) hq (o:=HO.tup [V.int 0,V.ref e]);have hbl:bs.length=due.length:=by rw [am.length]; unfold DN; rw [length_map]
  refine ⟨_,rfl,u,rfl,⟨_,SqL.of (s1 _ _ hu0)⟩,BM (K:=K) (a:=u) (xs:=bs.map V.ref) (fun i σ H2=>∃ v3 v4:Option V,σ=[some (.ref u),some (.int (AZ ((due.take i).map (·.2)):Nat)),some (.ref e),v3,v4,none]/\Same H H2/\H2 e=some (.dK (Bo (AV (due.take i)))))
   ⟨none,none,rfl,s1,AC (Same.refl _) hq _ _ upd_same⟩ (fun i σ H2 _ ⟨_,_,_,s2,_⟩=>SqL.of (s2 _ _ hu0)) ?_ ?_⟩
  ·rintro i v σ H2 hi ⟨v3,v4,rfl,s2,he2⟩;obtain ⟨bb,p,rfl,_,aj,ai⟩:=DZ (TupsAt.same s2 am) hi;have et:due.take (i + 1)=due.take i++[p]:=by rw [take_add_one,aj]; rfl
   have ek:(((AZ ((due.take (i + 1)).map (·.2)):Nat)):Int)=Builtin.bitOr ((AZ ((due.take i).map (·.2)):Nat):Int) (p.2:Int):=by
    rw [et,map_append,Cg];exact congrArg _ (Do _ _)
   have hle:(Bo (AV (due.take i))).length <= 100:=by
    unfold Bo;rw [length_map];have:=CL (due.take i);rw [length_take] at this;omega
   refine ⟨bb,_,rfl,SqT.of ai,rfl,_,_,rfl,_,_,rfl,rfl,?_⟩;refine ⟨_,rfl,_,rfl,_,_,rfl,rfl,?_⟩;by_cases z:p.2 ∈ (AV (due.take i)).map (·.1)
   ·refine ⟨_,rfl,_,rfl,e,_,rfl,.inl ⟨_,Sum.inl (p.2:Int),.inl he2,rfl,(EU z).symm⟩,_,rfl,?_⟩;refine As ⟨_,_,by rw [ek]; rfl,s2,?_⟩;rw [et,CV,if_pos (by simpa using z)];exact he2
   ·refine ⟨_,rfl,_,rfl,e,_,rfl,.inl ⟨_,Sum.inl (p.2:Int),.inl he2,rfl,(E4 z).symm⟩,_,rfl,?_⟩;refine BY ⟨_,rfl,_,rfl,_,rfl,e,_,rfl,DPut.k (k:=Sum.inl (p.2:Int)) he2 (Ag (by omega)),?_⟩;refine ⟨_,_,by rw [ek]; rfl,GQ s2 he,?_⟩;rw [upd_same,et,CV,if_neg (by simpa using z),JV z]
  ·rintro σ H2 ⟨v3,v4,rfl,s2,he2⟩;have e1:due.take (bs.map V.ref).length=due:=by rw [length_map,hbl,take_length]
   rw [e1] at he2 ⊢;have hle:(Bo (AV due)).length <= due.length:=by unfold Bo; rw [length_map]; exact CL due
   refine ⟨_,rfl,e,_,rfl,.inl he2,by omega,fun kv hkv=>?_,fun l ns hl cq cr=>?_⟩
   ·unfold Bo at hkv;obtain ⟨q,_,rfl⟩:=mem_map.mp hkv;exact ⟨_,rfl⟩
   ·have en:=JX cq cr;subst en;have s3:=AC (Same.refl _) hl (o:=HO.lst (((An due).map fun n:Nat=>(n:Int)).map V.int));have exs:((An due).map fun n:Nat=>(n:Int)).map V.int=AT (An due):=(C5 _).symm
    refine ⟨l,rfl,⟨_,SqL.of upd_same⟩,Ai (K:=K) (a:=l) (xs:=AT (An due))
     (fun i ys H3=>∃ as,ys=as.map V.ref/\Same H2 H3/\H3 l=some (.lst (AT (An due)))/\TupsAt H3 as ((((An due).take i).filter Al).map fun n=>(V.str (Bc (AV due) n),V.int (n:Int)))) ⟨[],rfl,s3,by rw [upd_same,exs],.nil⟩
     (fun i ys H3 _ ⟨_,_,_,e,_⟩=>SqL.of e) (fun i ys H3 ⟨as,e,_,_,t⟩=>?_) ?_ ?_⟩
    ·have:=t.length;rw [e,length_map,this,length_map];have h3:(((An due).take i).filter Al).length <= ((An due).take i).length:=length_filter_le _ _;rw [length_take] at h3;have:=DY due;omega
    ·rintro i v ys H3 hi ⟨as,rfl,s4,hl3,ht⟩;obtain ⟨n,hn,rfl⟩:=Bz hi;have bg:n ∈ (AV due).map (·.1):=mem_keysS.mp (mem_of_getElem? hn);have hn42:n < 2 ^ 42:=Nat.lt_trans (LM hlt n bg) (by decide);have et:((An due).take (i + 1)).filter Al=((An due).take i).filter Al++(if Al n then [n] else []):=PySem.take_succ_filter Al _ i n hn;refine ⟨_,rfl,n,rfl,fun l2 zs H4 s5 hl4 hz=>⟨l2,_,rfl,.inl (SqL.of hl4),rfl,_,rfl,?_⟩⟩
     have eb:decide (V.int ((zs.length:Nat):Int)=V.int 1)=Al n:=by
      rw [← Gx hn42,hz];refine decide_eq_decide.mpr ⟨fun h=>?_,fun h=>by rw [h]; rfl⟩;have:=V.int.inj h;omega
     rw [eb];have hl5:=s5 _ _ hl3;refine Bn (fun hm=>?_) (fun hm=>?_)
     ·refine ⟨_,rfl,_,rfl,e,_,rfl,.inl ⟨_,Sum.inl (n:Int),.inl (s5 _ _ (s4 _ _ he2)),rfl,(EU bg).symm⟩,_,rfl,sl2,fun b hb=>?_⟩;refine ⟨as++[b],by rw [map_append]; rfl,AC (s4.trans s5) hb,by rw [AF (AI hl5 hb)]; exact hl5,?_⟩;rw [et,hm,if_pos rfl,map_append];exact HQ (AC s5 hb) ht upd_same
     ·refine ⟨as,rfl,s4.trans s5,hl5,?_⟩;rw [et,if_neg hm,append_nil];exact TupsAt.same s5 ht
    ·rintro ys H3 ⟨as,rfl,s4,_,ht⟩ m hm
     have el:(An due).take (AT (An due)).length=An due:=by
      have:(AT (An due)).length=(An due).length:=by unfold AT; rw [length_map]
      rw [this]; exact take_length
     rw [el] at ht;have ht':TupsAt H3 as (Cq due):=ht;have s5:=AC (Same.refl _) hm (o:=HO.lst (as.map V.ref));have ar:as.length=(AG due).length:=by rw [ht'.length]; exact HR due
     refine fun t ht0=>⟨_,rfl,_,rfl,_,rfl,?_⟩;have s6:=AC (Same.refl _) ht0 (o:=HO.dK []);have htm:=TupsAt.same (s5.trans s6) ht';have hm6:=s6 _ _ (upd_same (H:=H3) (a:=m) (o:=HO.lst (as.map V.ref)));refine ⟨_,rfl,m,rfl,⟨_,SqL.of hm6⟩,Ai (K:=K) (a:=m) (xs:=as.map V.ref) (fun j ys H7=>ys=AT ((AG due).take j)/\H7=upd (upd H3 m (.lst (as.map V.ref))) t (.dK [])) ⟨by rfl,rfl⟩ (fun j ys H7 _ ⟨_,e⟩=>e ▸ SqL.of hm6) (fun j ys H7 ⟨e,_⟩=>?_) ?_ ?_⟩
     ·rw [e]; unfold AT; rw [length_map,length_take];have h3:(AG due).length <= (An due).length:=length_filter_le _ _;have:=DY due;omega
     ·rintro j v ys H7 hj ⟨rfl,rfl⟩;rw [getElem?_map] at hj
      obtain ⟨b,hb,rfl⟩:∃ b,as[j]?=some b/\v=V.ref b:=by
       cases q:as[j]? with
       | none=>rw [q] at hj; cases hj
       | some x=>rw [q] at hj; exact ⟨x,rfl,(Option.some.inj hj).symm⟩
      obtain ⟨pq,hpq,ai⟩:=JY htm hb;unfold Cq at hpq;rw [getElem?_map] at hpq
      obtain ⟨n,hn,rfl⟩:∃ n,(AG due)[j]?=some n/\pq=(V.str (Bc (AV due) n),V.int (n:Int)):=by
       cases q:(AG due)[j]? with
       | none=>rw [q] at hpq; cases hpq
       | some x=>rw [q] at hpq; exact ⟨x,rfl,(Option.some.inj hpq).symm⟩
      refine ⟨b,_,rfl,SqT.of ai,rfl,_,_,rfl,_,_,rfl,rfl,?_⟩;refine ⟨_,rfl,?_,rfl⟩;rw [take_add_one,hn,Option.toList_some];unfold AT;rw [map_append];rfl
     ·rintro ys H7 ⟨rfl,rfl⟩ l2 hl2;have el2:(AG due).take (as.map V.ref).length=AG due:=by rw [length_map,ar,take_length]
      rw [el2];have s7:=AC (Same.refl _) hl2 (o:=HO.lst (AT (AG due)));refine ⟨l2,(AG due).map fun n:Nat=>(n:Int),rfl,SqL.of (by rw [upd_same,C5]),fun n hn=>?_,?_,?_⟩
      ·obtain ⟨x,_,rfl⟩:=mem_map.mp hn;exact Int.natCast_nonneg _
      ·rw [HV];have:=F0 (Nu hlt);omega
      ·rw [HV];refine ⟨s7 _ _ upd_same,[((Sum.inr "known" : Key),V.int (AZ (due.map (·.2)):Nat)),(Sum.inr "firsts", .ref e),(Sum.inr "marks", .ref m),(Sum.inr "bits", V.int (AZ (AG due):Nat))],rfl,(by show 4 <= 15; decide),?_⟩;rw [Qm];have nt:∀ b o,H3 b=some o->b ≠ t:=fun b o ebo=>AI (s5 _ _ ebo) ht0
       have sAll:Same (upd H3 m (.lst (as.map V.ref))) (upd (upd (upd (upd H3 m (.lst (as.map V.ref))) t (.dK [])) l2 (.lst (AT (AG due)))) t (.dK (Mh due e m))):=fun b o ebo=>by
        rw [AF (AI ebo ht0)];exact s7 _ _ (s6 _ _ ebo)
       refine k t e m as _ ?_ upd_same ?_ (sAll _ _ upd_same) (TupsAt.same (s5.trans sAll) ht')
       ·intro b o ebo;exact sAll _ _ (s5 _ _ (s4 _ _ (s2 _ _ ebo)))
       ·exact sAll _ _ (s5 _ _ (s4 _ _ he2))
end
theorem Mj {fs:List (Nat × Str)} {n:Nat} (h:n ∈ fs.map (·.1)):(n,Bc fs n) ∈ fs:=by
 unfold Bc;obtain ⟨q,hq⟩:=Option.isSome_iff_exists.mp (GS h);rw [hq];have e:q.1=n:=by simpa using List.find?_some hq
 have hm:=List.mem_of_find?_eq_some hq;subst e;exact hm
theorem Sf:¬ (("own_kind" : Str) = "bits"):=by decide +kernel
def Gc (kp:Addr) (n:Nat):List (Str × V):=Aq "bits" (.int (n:Int)) (Aq "own_kind" (.ref kp) [])
theorem IS (kp:Addr) (n:Nat):(Gc kp n).lookup ("own_kind" : Str)=some (.ref kp):=by
 unfold Gc;rw [AJ,if_neg Sf,AJ,if_pos rfl]
theorem IT (kp:Addr) (n:Nat):(Gc kp n).lookup ("bits" : Str)=some (.int (n:Int)):=by
 unfold Gc;rw [AJ,if_pos rfl]
theorem HW (kp:Addr) (n:Nat) {m:Str} (h1:¬ m = "bits") (h2:¬ m = "own_kind"):(Gc kp n).lookup m=none:=by
 unfold Gc;rw [AJ,if_neg h1,AJ,if_neg h2];rfl
def ValAt (VC:Addr) (H:Hp) (p kp:Addr) (n:Nat):Prop:=∃ dx,H p=some (.ins VC dx (Gc kp n))
theorem ValAt.same {p kp:Addr} {n:Nat} (s:Same H H') (h:ValAt VC H p kp n):ValAt VC H' p kp n:=by
 obtain ⟨dx,h⟩:=h;exact ⟨dx,s _ _ h⟩
structure Kn (K:FG) (VC:Addr):Prop where
 cl:Cls K VC
 nK:NoAttr K VC "own_kind"
 nB:NoAttr K VC "bits"
def kn (due:LN):Nat:=AZ (due.map (·.2))
section
def D6:Sp:=fun vs H Q _=>∃ n:Nat,vs=[.int (n:Int)]/\n < 2 ^ 40/\Q (.bl true) H
theorem Ko:AN ["thing"] ["thing"] (defScope Ex):=fsc
theorem Je {tL:Tok} (F:Fun K "is_number" "is_number" Ex f fd) (hL:mg "LIMIT" = some (.int 1099511627776 tL)) (GW:Fn P w K mg base "is_whole" 1 ["thing"] DW):Ae P w K mg base CX0 2 f fd ["thing"] D6:=by
 obtain ⟨fW,dW,GW,mW,kW,bW⟩:=GW.ex;refine F.ok Ko (fun vs H Q E h=>?_) (fun ad A outer s H vs Q E hr h=>?_)
 ·obtain ⟨n,rfl,_⟩:=h;rfl
 ·obtain ⟨n,rfl,hn,k⟩:=h;refine ⟨_,AD (AS (CH (AM GW hr rfl mW kW bW .nil AQ (AA (pv 0) AB)) (Cy (Ip FE Pr AH (pv 0) (CP (v:=.int 1099511627776) rfl hL ⟨tL,rfl⟩))))),?_⟩;refine ⟨_,rfl,(n:Int),rfl,_,rfl,?_⟩;refine BY ?_;refine ⟨_,rfl,_,_,rfl,rfl,_,rfl,?_⟩;rw [decide_eq_true (show (0:Int) <= (n:Int) by omega)];refine BY ?_;refine ⟨_,_,rfl,rfl,?_⟩;show Q (V.bl (decide ((n:Int) < 1099511627776))) H
  rw [decide_eq_true (show (n:Int) < 1099511627776 by have:(2:Nat) ^ 40=1099511627776:=by decide
                                                      omega)]
  exact k
def Gd (C:Addr):Sp:=fun vs H Q _=>∃ (kp:Addr) (due:LN) (r:Str) (n:Nat),vs=[.ref kp,.int (n:Int)]/\KindAt C H kp due r/\∀ H',Same H H'->Q (.int ((n - (n &&& kn due):Nat):Int)) H'
theorem N9:AN ["kind", "number"] ["kind", "number"] (defScope IF):=fsc
theorem Ml (F:Fun K "rest_of" "rest_of" IF f fd) (T:E7 K C) (GK:Mt P w K mg base C "known" 2 ["self"] (IL C)):Ae P w K mg base CX0 3 f fd ["kind", "number"] (Gd C):=by
 obtain ⟨fK,dK,GK,mK,bK⟩:=GK.ex;refine F.ok N9 (fun vs H Q E h=>?_) (fun ad A outer s H vs Q E hr h=>?_)
 ·obtain ⟨kp,due,r,n,rfl,_⟩:=h;rfl
 ·obtain ⟨kp,due,r,n,rfl,KA,k⟩:=h;obtain ⟨dx,d1,d2,hp⟩:=KA.ins;refine ⟨_,AD (AS (AW BJ (pv 1) (M0 J4 (BG (pv 0) T.cl mK GK hr bK .nil AQ)))),?_⟩;refine ⟨_,rfl,_,rfl,kp,dx,_,rfl,hp,(DX _ _ _),kp,due,r,rfl,KA,fun H1 s1=>?_⟩;refine ⟨_,rfl,_,_,rfl,rfl,?_⟩;show Q (V.int (Builtin.bitAnd (n:Int) (Builtin.bitNot ((AZ ((AV due).map (·.1)):Nat):Int)))) H1;rw [Fz,N7];exact k H1 s1
def IU (C VC:Addr):Sp:=fun vs H Q _=>∃ (p dx kp:Addr) (due:LN) (r:Str) (n:Nat),vs=[.ref p,.ref kp,.int (n:Int)]/\H p=some (.ins VC dx [])/\KindAt C H kp due r/\n < 2 ^ 40/\(r = "keep" \/ n - (n &&& kn due)=0) /\
 ∀ H',(∀ b o,H b=some o->b ≠ p->H' b=some o)->ValAt VC H' p kp n->Q .non H'
theorem PX:AN ["self", "kind", "number"] ["self", "kind", "number"] (defScope Dt):=fsc
theorem Jf (F:Fun K "__init__" "Value.__init__" Dt f fd) (T:E7 K C) (VT:Kn K VC)
  (GN:Fn P w K mg base "is_number" 2 ["thing"] D6) (GR:Fn P w K mg base "rest_of" 3 ["kind", "number"] (Gd C)) (GRe:Mt P w K mg base C "rest" 1 ["self"] (Km C)):Ae P w K mg base CX0 4 f fd ["self", "kind", "number"] (IU C VC):=by
 obtain ⟨fN,dN,GN,mN,kN,bN⟩:=GN.ex;obtain ⟨fR,dR,GR,mR,kR,bR⟩:=GR.ex;obtain ⟨fE,dE,GE,mE,bE⟩:=GRe.ex;refine F.ok PX (fun vs H Q E h=>?_) (fun ad A outer s H vs Q E hr h=>?_)
 ·obtain ⟨p,dx,kp,due,r,n,rfl,_⟩:=h;rfl
 ·obtain ⟨p,dx,kp,due,r,n,rfl,hp,KA,hn,hrest,k⟩:=h;have hr1:Room 1 _:=hr.mono (by decide);have hr2:Room 2 _:=hr.mono (by decide);obtain ⟨dxk,d1,d2,ag⟩:=KA.ins
  refine ⟨_,AE (Au (B3 (Bp (AM GN hr2 rfl mN kN bN .nil AQ (AA (pv 2) AB)))) (AD Ax) Aa)
   (BF (Au (PW.pt (Cw (AU CI (BG (pv 1) T.cl mE GE hr1 bE .nil AQ) Aw (AY _)) (B7 (AU CI (AM GR hr rfl mR kR bR .nil AQ (AA (pv 1) (AA (pv 2) AB))) AH (AY _))))) (AD Ax) Aa)
   (AE (Cc (pv 0) (pv 1) rfl) (AD (Cc (pv 0) (pv 2) rfl)))),?_⟩
  refine ⟨_,rfl,n,rfl,hn,_,rfl,?_⟩;refine As ?_;refine ⟨fun σ H1=>σ=[some (.ref p),some (.ref kp),some (.int (n:Int))]/\Same H H1,fun R hR=>?_,?_⟩
  ·refine ⟨_,rfl,kp,dxk,_,rfl,ag,(DX _ _ _),kp,due,r,rfl,KA,rfl,_,rfl,?_⟩;by_cases hk:r = "keep"
   ·rw [decide_eq_true (show V.str r=V.str "keep" by rw [hk])];exact As (As (hR _ _ ⟨rfl,Same.refl _⟩))
   ·rw [decide_eq_false (show ¬ V.str r=V.str "keep" from fun z=>hk (V.str.inj z))];refine BY ?_;refine ⟨_,rfl,_,rfl,kp,due,r,n,rfl,KA,fun H1 s1=>⟨rfl,_,rfl,?_⟩⟩;have h0:=hrest.resolve_left hk;rw [h0];exact As (hR _ _ ⟨rfl,s1⟩)
  ·rintro σ H1 ⟨rfl,s1⟩;refine ⟨_,rfl,_,rfl,p,VC,dx,[],rfl,s1 _ _ hp,VT.cl,VT.nK,(by show 0 < 1000; decide),?_⟩;refine ⟨_,rfl,_,rfl,p,VC,dx,_,rfl,upd_same,VT.cl,VT.nB,Nat.lt_of_le_of_lt (A0 _ _ _) (by show 1 < 1000; decide),?_⟩;refine k _ (fun b o e hb=>?_) ⟨dx,upd_same⟩;rw [AF hb,AF hb];exact s1 _ _ e
def Db (VC:Addr):Sp:=fun vs H Q _=>∃ (p kp:Addr) (n:Nat),vs=[.ref p]/\ValAt VC H p kp n/\Q (.int (n:Int)) H
theorem Mm:AN ["self"] ["self"] (defScope C1):=fsc
theorem Kp (F:Fun K "number" "Value.number" C1 f fd) (VT:Kn K VC):Ae P w K mg base CX0 1 f fd ["self"] (Db VC):=by
 refine F.ok Mm (fun vs H Q E h=>?_) (fun ad A outer s H vs Q E hr h=>?_)
 ·obtain ⟨p,kp,n,rfl,_⟩:=h;rfl
 ·obtain ⟨p,kp,n,rfl,⟨dx,hp⟩,k⟩:=h;refine ⟨_,AD (AS (Ak (pv 0) rfl)),?_⟩;exact ⟨_,rfl,p,VC,dx,_,_,rfl,hp,VT.cl,VT.nB,IT _ _,k⟩
def FX (VC:Addr):Sp:=fun vs H Q _=>∃ (p kp:Addr) (n:Nat),vs=[.ref p]/\ValAt VC H p kp n/\Q (.ref kp) H
theorem PY:AN ["self"] ["self"] (defScope Du):=fsc
theorem OA (F:Fun K "kind" "Value.kind" Du f fd) (VT:Kn K VC):Ae P w K mg base CX0 1 f fd ["self"] (FX VC):=by
 refine F.ok PY (fun vs H Q E h=>?_) (fun ad A outer s H vs Q E hr h=>?_)
 ·obtain ⟨p,kp,n,rfl,_⟩:=h;rfl
 ·obtain ⟨p,kp,n,rfl,⟨dx,hp⟩,k⟩:=h;refine ⟨_,AD (AS (Ak (pv 0) rfl)),?_⟩;exact ⟨_,rfl,p,VC,dx,_,_,rfl,hp,VT.cl,VT.nK,IS _ _,k⟩
def OB (C VC:Addr):Sp:=fun vs H Q _=>∃ (a:Addr) (v:V) (ka:Addr) (na:Nat) (due:LN) (r:Str),vs=[.ref a,v]/\ValAt VC H a ka na/\KindAt C H ka due r/\Asc due /\
 ((∃ i,v=.int i/\Q (.bl false) H)\/∃ (b kb:Addr) (nb:Nat) (due':LN) (r':Str),v=.ref b/\ValAt VC H b kb nb/\KindAt C H kb due' r'/\Asc due'/\∀ H',Same H H'->Q (.bl (decide ((due=due'/\r=r')/\na=nb))) H')
theorem Rp:AN ["self", "other"] ["self", "other"] (defScope F5):=fsc
theorem Qo (F:Fun K "__eq__" "Value.__eq__" F5 f fd) (B:Bl mg) (T:E7 K C) (VT:Kn K VC) (VI:KIsi K VC) (hI:W.kitOne K (.type "int") (.ref VC)=some false) (mV:mg "Value" = some (.ref VC))
  (GE:Mt P w K mg base C "__eq__" 2 ["self", "other"] (Jd C)):Ae P w K mg base CX0 3 f fd ["self", "other"] (OB C VC):=by
 obtain ⟨fE,dE,GE,mE,bE⟩:=GE.ex;refine F.ok Rp (fun vs H Q E h=>?_) (fun ad A outer s H vs Q E hr h=>?_)
 ·obtain ⟨a,v,ka,na,due,r,rfl,_⟩:=h;rfl
 ·obtain ⟨a,v,ka,na,due,r,rfl,⟨dx,hp⟩,KA,h1,h⟩:=h
  refine ⟨_,AD (AS (CH (AX (HU K rfl) rfl B.isi II (AA (pv 1) (AA (CP (v:=.ref VC) rfl mV rfl) AB)))
   (CH (Bw (NQ GE hr bE mE) (Ak (pv 0) rfl) (Ak (pv 1) rfl) (AY _))
    (Cy (Bw Ck (Ak (pv 0) rfl) (Ak (pv 1) rfl) (AY _)))))),?_⟩
  rcases h with ⟨i,rfl,k⟩ | ⟨b,kb,nb,due',r',rfl,⟨dy,hq⟩,KB,h2,k⟩
  ·refine ⟨_,rfl,_,VC,_,false,rfl,.int i,hI,_,rfl,?_⟩;exact As k
  ·refine ⟨_,rfl,_,VC,_,true,rfl,VI.ty hq,Jb K VC,_,rfl,?_⟩;refine BY ?_;obtain ⟨dka,d1,d2,hka⟩:=KA.ins;obtain ⟨dkb,e1,e2,hkb⟩:=KB.ins;refine ⟨_,rfl,a,VC,dx,_,_,rfl,hp,VT.cl,VT.nK,IS _ _,_,rfl,b,VC,dy,_,_,rfl,hq,VT.cl,VT.nK,IS _ _,?_⟩;refine ⟨ka,dka,_,kb,rfl,rfl,hka,.inl ⟨_,_,hkb⟩,ka,kb,due,r,rfl,KA,h1,.inr ⟨due',r',KB,h2,fun H1 s1=>⟨_,rfl,_,rfl,?_⟩⟩⟩;refine Bn (fun e=>?_) (fun e=>?_)
   ·have e':=of_decide_eq_true e;refine ⟨_,rfl,a,VC,dx,_,_,rfl,s1 _ _ hp,VT.cl,VT.nB,IT _ _,_,rfl,b,VC,dy,_,_,rfl,s1 _ _ hq,VT.cl,VT.nB,IT _ _,rfl,?_⟩;have ev:decide (V.int (na:Int)=V.int (nb:Int))=decide ((due=due'/\r=r')/\na=nb):=decide_eq_decide.mpr ⟨fun z=>⟨e',by have:=V.int.inj z; omega⟩,fun z=>by rw [z.2]⟩;rw [ev];exact k _ s1
   ·have:=k _ s1;rw [decide_eq_false (fun z=>e (decide_eq_true z.1))] at this;exact this
structure Jg (P:Program) (w:World) (K:FG) (mg:SV) (base:Heap) (C VC:Addr):Prop where
 VT:Kn K VC
 cls:mg "Value" = some (.ref VC)
 make:∃ f fd,Mk K VC f/\Ae P w K mg base CX0 4 f fd ["self", "kind", "number"] (IU C VC)/\Binds K fd ["self", "kind", "number"] []
 eq:∃ f fd,Ae P w K mg base CX0 3 f fd ["self", "other"] (OB C VC)/\Ir K VC "__eq__" f/\Binds K fd ["self", "other"] []
 isi:KIsi K VC
 ne:W.findIn K (.ref VC) "__ne__" = some (some (.builtin "object.__ne__"))
 ni:W.subIn K (.type "int") (.ref VC)=some false
theorem Cu {D kp dx:Addr} (hkp:H kp=none) (aw:H dx=none) (av:dx ≠ kp):Same H (upd (upd H dx (.own kp)) kp (.ins D dx [])):=by
 refine AC (AC (Same.refl _) aw) ?_;rw [AF (Ne.symm av)];exact hkp
theorem Be {Hc:Hp} {kp:Addr} (sN:Same H H') (hkp:H kp=none) (sc:∀ b o,H' b=some o->b ≠ kp->Hc b=some o):Same H Hc:=fun b o e=>sc b o (sN _ _ e) (AI e hkp)
theorem Rq (h:∀ p ∈ due,p.2 < 2 ^ 20):kn due < 2 ^ 20:=by
 unfold kn;exact F0 fun n hn=>by obtain ⟨p,hp,rfl⟩:=mem_map.mp hn; exact h p hp
theorem Qp (x y:Nat):(x ||| y) + (x &&& y)=x + y:=by
 have h:=PyProof.Rows.bitOr_and (x:Int) (y:Int);rw [Cg,BE] at h;omega
end
section
variable {CU:Addr}
theorem none_of {x:Addr} (s:Same H H') (h:H' x=none):H x=none:=by
 cases e:H x with
 | none=>rfl
 | some u=>rw [s _ _ e] at h; cases h
end
theorem HX {α β:Type} {F:α->β->Prop}:∀ {xs:List α} {ys:List β} {i:Nat} {a:α},Paired F xs ys->xs[i]?=some a->∃ b,ys[i]?=some b/\F a b
 | _,_,_,_,.nil,e=>by simp at e
 | _,_,0,_,.cons r _,e=>by simp at e; subst e; exact ⟨_,rfl,r⟩
 | _,_,i + 1,x,.cons _ t,e=>by
  obtain ⟨u,h1,h2⟩:=HX (i:=i) (a:=x) t (by simpa using e);exact ⟨u,by simpa using h1,h2⟩
theorem BO (due:LN):(AG due).length <= due.length:=Nat.le_trans (length_filter_le _ _) (DY due)
section
def D7 (C:Addr):Sp:=fun vs H Q _=>∃ (kp:Addr) (due:LN) (r:Str),vs=[.ref kp]/\KindAt C H kp due r/\due.length <= 60/\∀ H',Same H H'->Q (.int (AZ (AG due):Nat)) H'
theorem Kq:AN ["kind"] ["kind"] (defScope Es):=fsc
theorem Jh (F:Fun K "mark_bits" "mark_bits" Es f fd) (T:E7 K C) (GM:Mt P w K mg base C "marks" 2 ["self"] (FU C)) (GU:Fn P w K mg base "union_of" 1 ["numbers"] (Co K)):Ae P w K mg base CX0 3 f fd ["kind"] (D7 C):=by
 obtain ⟨fM,dM,GM,mM,bM⟩:=GM.ex;obtain ⟨fU,dU,GU,mU,kU,bU⟩:=GU.ex;refine F.ok Kq (fun vs H Q E h=>?_) (fun ad A outer s H vs Q E hr h=>?_)
 ·obtain ⟨kp,due,r,rfl,_⟩:=h;rfl
 ·obtain ⟨kp,due,r,rfl,KA,h60,k⟩:=h;obtain ⟨dxk,d1,d2,ag⟩:=KA.ins;have hr1:Room 1 _:=hr.mono (by decide);refine ⟨_,AD (AS (AM GU hr1 rfl mU kU bU .nil AQ (AA (EL [] [] (by kernel_rfl) (by decide +kernel) (by kernel_rfl) (by kernel_rfl) rfl (Ad (BG (pv 0) T.cl mM GM hr bM .nil AQ)) (fun _ _ _ _ _ _=>BL) (fun _ _ _ _ _ _=>pv 1)) AB))),?_⟩;refine ⟨_,rfl,kp,dxk,_,rfl,ag,(DX _ _ _),kp,due,r,rfl,KA,h60,fun l as H1 s1 hl ht=>?_⟩;have aq:=BO due;have ar:as.length=(AG due).length:=by rw [ht.length]; unfold Cq; rw [length_map]
  refine ⟨l,rfl,⟨_,SqL.of hl⟩,Ai (K:=K) (a:=l) (xs:=as.map V.ref) (fun i ys H2=>ys=AT ((AG due).take i)/\H2=H1) ⟨rfl,rfl⟩ (fun i ys H2 _ ⟨_,e⟩=>e ▸ SqL.of hl) (fun i ys H2 ⟨e,_⟩=>?_) ?_ ?_⟩
  ·rw [e]; unfold AT; rw [length_map,length_take]; omega
  ·rintro i v ys H2 hi ⟨rfl,rfl⟩;rw [getElem?_map] at hi;obtain ⟨b,hb,rfl⟩:=Option.map_eq_some_iff.mp hi;obtain ⟨pr,hpr,ai⟩:∃ pr,(Cq due)[i]?=some pr/\H2 b=some (.tup [pr.1,pr.2]):=HX ht hb;unfold Cq at hpr;rw [getElem?_map] at hpr;obtain ⟨m,hm,rfl⟩:=Option.map_eq_some_iff.mp hpr;refine ⟨b,_,rfl,SqT.of ai,rfl,_,_,rfl,_,_,rfl,rfl,_,rfl,?_,rfl⟩;rw [take_add_one,hm,Option.toList_some];unfold AT;rw [map_append];rfl
  ·rintro ys H2 ⟨rfl,rfl⟩ q hq;have el:(AG due).take (as.map V.ref).length=AG due:=by rw [length_map,ar]; exact take_length
   rw [el];exact ⟨q,AG due,rfl,SqL.of upd_same,k _ (AC s1 hq)⟩
end
theorem Kr (x m:Nat):(x &&& m) - ((x &&& m) &&& m)=0:=by
 have h:(x &&& m) &&& m=x &&& m:=by
  refine Nat.eq_of_testBit_eq fun k=>?_;simp only [Nat.testBit_and];cases x.testBit k <;> cases m.testBit k <;> rfl
 omega
section
def D8:Sp:=fun vs H Q _=>∃ (d:Addr) (a b:Int) (m:Nat) (r:Str),vs=[.ref d,.int (m:Int),.str r]/\H d=some (.lst [.int a,.int b]) /\
 ∀ (n:Nat) H',n < 2 ^ 40->(r = "keep" \/ n - (n &&& m)=0)->SameX d H H'->Q (.int (n:Int)) H'
theorem scNumberIn:AN ["_law_dice", "_law_known", "_law_way", "_law_number"] ["_law_dice", "_law_known", "_law_way"] (defScope C2):=fsc
theorem Dc {d:Addr} {x y x' y':Int} (h:H d=some (.lst [.int x,.int y])):SameX d H (upd H d (.lst [.int x',.int y'])):=⟨fun b o e hb=>by rw [AF hb]; exact e,⟨x',y',upd_same⟩⟩
theorem Ji (F:Fun K "_law_number_in" "_law_number_in" C2 f fd) (GR:Fn P w K mg base "_law_roll" 2 ["_law_dice", "_law_many"] D4):Ae P w K mg base CX0 3 f fd ["_law_dice", "_law_known", "_law_way"] D8:=by
 obtain ⟨fR,dR,GR,mR,kR,bR⟩:=GR.ex;refine F.ok scNumberIn (fun vs H Q E h=>?_) (fun ad A outer s H vs Q E hr h=>?_)
 ·obtain ⟨d,a,b,m,r,rfl,_⟩:=h;rfl
 ·obtain ⟨d,a,b,m,r,rfl,hd,k⟩:=h
  refine ⟨_,AE (Ac (i:=3) scNumberIn.nd rfl (Or.inl rfl) (AW BJ (AM GR hr rfl mR kR bR .nil AQ (AA (pv 0) (AA (AW J3 AH AH) AB))) (pv 1)))
   (BF (Au (PW.pt (Cw (AU Ck (pv 2) Aw (AY _)) (B7 (AU Ck (AM GR hr rfl mR kR bR .nil AQ (AA (pv 0) (AA AH AB))) AH (AY _)))))
     (AD (Ac (i:=3) scNumberIn.nd rfl (Or.inl rfl) (AW Io (pv 3) (AM GR hr rfl mR kR bR .nil AQ (AA (pv 0) (AA AH AB)))))) Aa)
   (AD (AS (pv 3)))),?_⟩
  refine ⟨_,rfl,_,_,rfl,rfl,⟨by decide,by decide,by decide⟩,d,a,b,_,rfl,hd,by decide,by decide,fun x a1 b1 hx0 hx1=>?_⟩;refine ⟨_,rfl,_,_,rfl,rfl,?_⟩;obtain ⟨x,rfl⟩:∃ x':Nat,x=(x':Int):=⟨x.toNat,by omega⟩
  have hx1':x < 2 ^ 21:=by
   have:(x:Int) < 2 ^ (21:Int).toNat:=hx1;have e:(2:Int) ^ (21:Int).toNat=2097152:=by decide
   rw [e] at this;have e2:(2:Nat) ^ 21=2097152:=by decide
   omega
  have s1:SameX d H (upd H d (.lst [.int a1,.int b1])):=Dc hd;have ea:(fun i j=>V.int (Builtin.bitAnd i j)) (x:Int) (m:Int)=V.int ((x &&& m:Nat):Int):=congrArg V.int (BE _ _);rw [ea];have hle:x &&& m <= x:=Nat.and_le_left;refine ⟨fun σ H1=>∃ n:Nat,σ=[some (.ref d),some (.int (m:Int)),some (.str r),some (.int (n:Int))]/\n < 2 ^ 40/\(r = "keep" \/ n - (n &&& m)=0)/\SameX d H H1,fun R hR=>?_,?_⟩
  ·have g1:x &&& m < 2 ^ 40:=by
    have:(2:Nat) ^ 21 < 2 ^ 40:=by decide
    omega
   have stop:∀ H1,SameX d H H1->R [some (.ref d),some (.int (m:Int)),some (.str r),some (.int ((x &&& m:Nat):Int))] H1:=fun H1 sx=>hR _ _ ⟨_,rfl,g1,.inr (Kr x m),sx⟩;refine ⟨_,rfl,rfl,_,rfl,?_⟩;by_cases hk:r = "keep"
   ·rw [decide_eq_true (show V.str r=V.str "keep" by rw [hk])];refine BY ?_;refine ⟨_,rfl,d,a1,b1,3,rfl,upd_same,by decide,by decide,fun y a2 b2 hy0 hy1=>?_⟩;have s2:=s1.trans (Dc (x':=a2) (y':=b2) upd_same);refine ⟨rfl,_,rfl,?_⟩;refine Bn (fun hc=>?_) (fun hc=>stop _ s2);refine ⟨_,rfl,_,rfl,d,a2,b2,256,rfl,upd_same,by decide,by decide,fun z a3 b3 hz0 hz1=>?_⟩;obtain ⟨z,rfl⟩:∃ z':Nat,z=(z':Int):=⟨z.toNat,by omega⟩;refine ⟨_,_,rfl,rfl,?_⟩;have eo:(fun i j=>V.int (Builtin.bitOr i j)) ((x &&& m:Nat):Int) (z:Int)=V.int (((x &&& m) ||| z:Nat):Int):=congrArg V.int (Cg _ _);refine hR _ _ ⟨(x &&& m) ||| z,?_,?_,.inl hk,s2.trans (Dc upd_same)⟩
    ·show [some (V.ref d),some (V.int (m:Int)),some (V.str r),some ((fun i j=>V.int (Builtin.bitOr i j)) ((x &&& m:Nat):Int) (z:Int))]=_;rw [eo]
    ·refine Nat.or_lt_two_pow g1 ?_;have:(256:Nat) < 2 ^ 40:=by decide
     omega
   ·rw [decide_eq_false (show ¬ V.str r=V.str "keep" from fun z=>hk (V.str.inj z))];exact As (As (stop _ s1))
  ·rintro σ H1 ⟨n,rfl,h1,h2,sx⟩;exact ⟨_,rfl,k n H1 h1 h2 sx⟩
end
end Mk
end
section
namespace MK
def Ge:List Nat->List Nat->List Nat
 | us,[]=>us
 | us,m :: r=>Ge (us++us.map (· ||| m)) r
def uns (ms:List Nat):List Nat:=Ge [0] ms
theorem Jj:∀ (us a b:List Nat),Ge us (a++b)=Ge (Ge us a) b
 | us,[],b=>rfl
 | us,m :: r,b=>Jj _ r b
theorem Jk (ms:List Nat) (m:Nat):uns (ms++[m])=uns ms++(uns ms).map (· ||| m):=Jj [0] ms [m]
theorem Jl:∀ (us ms:List Nat),(Ge us ms).length=us.length * 2 ^ ms.length
 | us,[]=>(Nat.mul_one _).symm
 | us,m :: r=>by
  show (Ge _ r).length=_;rw [Jl,length_append,length_map,length_cons,Nat.pow_succ,← Nat.mul_two,Nat.mul_assoc,Nat.mul_comm 2]
theorem Ea (ms:List Nat):(uns ms).length=2 ^ ms.length:=by unfold uns; rw [Jl,length_singleton,Nat.one_mul]
theorem Jm {k:Nat}:∀ {ms us:List Nat} {u:Nat},u ∈ Ge us ms->u.testBit k=true->(∃ v ∈ us,v.testBit k=true)\/∃ m ∈ ms,m.testBit k=true
 | [],us,u,h,hb=>.inl ⟨u,h,hb⟩
 | m :: r,us,u,h,hb=>by
  rcases Jm (ms:=r) h hb with ⟨v,hv,hvb⟩ | ⟨m',h1,h2⟩
  ·rcases mem_append.mp hv with z | z
   ·exact .inl ⟨v,z,hvb⟩
   ·obtain ⟨x,hx,rfl⟩:=mem_map.mp z;rw [Nat.testBit_or,Bool.or_eq_true] at hvb;rcases hvb with y | y
    ·exact .inl ⟨x,hx,y⟩
    ·exact .inr ⟨m,mem_cons_self ..,y⟩
  ·exact .inr ⟨m',mem_cons_of_mem _ h1,h2⟩
theorem LQ {k:Nat} {ms:List Nat} {u:Nat} (h:u ∈ uns ms) (hb:u.testBit k=true):∃ m ∈ ms,m.testBit k=true:=by
 rcases Jm h hb with ⟨v,hv,hvb⟩ | z
 ·rw [mem_singleton.mp hv,Nat.zero_testBit] at hvb;cases hvb
 ·exact z
theorem FY {u k:Nat} (h:u < 2 ^ k):u ||| 2 ^ k=u + 2 ^ k:=by
 have:=Nat.two_pow_add_eq_or_of_lt h 1;rw [Nat.mul_one] at this;rw [Nat.or_comm,← this,Nat.add_comm]
theorem HY:∀ {ms us:List Nat},us.Pairwise (· < ·)->(∀ u ∈ us,∀ m ∈ ms,u < m)->(∀ m ∈ ms,Al m=true)->ms.Pairwise (· < ·)->(Ge us ms).Pairwise (· < ·)
 | [],us,h,_,_,_=>h
 | m :: r,us,h,hu,hm,hp=>by
  obtain ⟨k,rfl⟩:=A1 (hm m (mem_cons_self ..));have hb:∀ u ∈ us,u < 2 ^ k:=fun u h=>hu u h _ (mem_cons_self ..);have hp':=pairwise_cons.mp hp;refine HY (ms:=r) ?_ ?_ (fun m h=>hm m (mem_cons_of_mem _ h)) hp'.2
  ·refine List.pairwise_append.mpr ⟨h,?_,fun u hu' v hv=>?_⟩
   ·rw [pairwise_map];refine h.imp_of_mem fun {a b} ha hb' hab=>?_;rw [FY (hb a ha),FY (hb b hb')];omega
   ·obtain ⟨x,hx,rfl⟩:=mem_map.mp hv;rw [FY (hb x hx)];have:=hb u hu';omega
  ·intro u hu' m' hm';have hlt:=hp'.1 m' hm';obtain ⟨k',rfl⟩:=A1 (hm m' (mem_cons_of_mem _ hm'));rcases mem_append.mp hu' with z | z
   ·exact Nat.lt_trans (hb u z) hlt
   ·obtain ⟨x,hx,rfl⟩:=mem_map.mp z;rw [FY (hb x hx)];have h1:=hb x hx;have h2:k < k':=(Nat.pow_lt_pow_iff_right (by decide)).mp hlt;have h3:2 ^ (k + 1) <= 2 ^ k':=Nat.pow_le_pow_right (by decide) h2;rw [Nat.pow_succ] at h3;omega
theorem Jn {ms:List Nat} (hm:∀ m ∈ ms,Al m=true) (hp:ms.Pairwise (· < ·)):(uns ms).Pairwise (· < ·):=by
 refine HY (List.pairwise_singleton _ _) (fun u hu m h=>?_) hm hp;rw [mem_singleton.mp hu];obtain ⟨k,rfl⟩:=A1 (hm m h);exact Nat.two_pow_pos k
theorem FA {u n:Nat} (h:∀ k,u.testBit k=true->n.testBit k=true):u &&& n=u:=by
 refine Nat.eq_of_testBit_eq fun k=>?_;rw [Nat.testBit_and];cases e:u.testBit k with
 | false=>rfl
 | true=>rw [h k e]; rfl
end MK
end
section
namespace Mk
open PySem L2 MK
theorem PZ:bootBuiltins "dict" = some (.type "dict"):=by decide +kernel
def Eb (due:LN):LK:=(AG due).map fun n=>((Sum.inr (Bc (AV due) n):Key),V.int (n:Int))
def kM (due:LN):LK:=Cf [] (Eb due)
theorem Rr {as:List Addr} {ps:LK} (t:TupsAt H as (ps.map fun q=>(kV q.1,q.2))):as.length=ps.length/\∀ (i:Nat) b q,as[i]?=some b->ps[i]?=some q->SqT K H b [kV q.1,q.2]:=by
 refine ⟨by rw [t.length,length_map],fun i b q hb hq=>?_⟩;obtain ⟨p,hp,h⟩:=Bt t hb;rw [getElem?_map,hq] at hp;cases hp;exact SqT.of h
theorem OC (due:LN):Cq due=(Eb due).map fun q=>(kV q.1,q.2):=by
 unfold Cq Eb;rw [map_map];rfl
theorem FK {α β:Type} {f:α->β}:∀ {l:List α},l.Nodup->(∀ a ∈ l,∀ b ∈ l,f a=f b->a=b)->(l.map f).Nodup
 | [],_,_=>nodup_nil
 | a :: r,hn,h=>by
  rw [nodup_cons] at hn;rw [map_cons,nodup_cons];refine ⟨fun z=>?_,FK hn.2 fun b hb c hc=>h b (mem_cons_of_mem _ hb) c (mem_cons_of_mem _ hc)⟩;obtain ⟨b,hb,e⟩:=mem_map.mp z;exact hn.1 (h a (mem_cons_self ..) b (mem_cons_of_mem _ hb) e.symm ▸ hb)
def Ab (due:LN):List Str:=(AG due).map (Bc (AV due))
theorem Bu {n:Nat} (h:n ∈ AG due):n ∈ (AV due).map (·.1)/\Al n=true:=by
 unfold AG at h;obtain ⟨h1,h2⟩:=mem_filter.mp h;exact ⟨mem_keysS.mp h1,h2⟩
theorem A9 {n:Nat} (h:n ∈ AG due):(Bc (AV due) n,n) ∈ due:=E5 (Mj (Bu h).1)
theorem Mn (due:LN):(AG due).Nodup:=((CM due).nodup_iff.mpr (HN due)).filter _
theorem OD (nd:(due.map (·.1)).Nodup) {x:Str} {m n:Nat} (h1:(x,m) ∈ due) (h2:(x,n) ∈ due):m=n:=by
 induction due with
 | nil=>cases h1
 | cons p r ih =>
  rw [map_cons,nodup_cons] at nd;rcases mem_cons.mp h1 with z1 | z1 <;> rcases mem_cons.mp h2 with z2 | z2
  ·rw [← z2] at z1;exact (Prod.mk.inj z1).2
  ·exact absurd (mem_map.mpr ⟨_,z2,by rw [← z1]⟩) nd.1
  ·exact absurd (mem_map.mpr ⟨_,z1,by rw [← z2]⟩) nd.1
  ·exact ih nd.2 z1 z2
theorem HZ (nd:(due.map (·.1)).Nodup):(Ab due).Nodup :=
 FK (Mn due) fun a ha b hb e=>OD nd (A9 ha) (e ▸ A9 hb)
theorem Hg:∀ (ps kvs:LK),((kvs++ps).map (·.1)).Nodup->Cf kvs ps=kvs++ps
 | [],kvs,_=>(append_nil _).symm
 | p :: r,kvs,h=>by
  have hn:A7 kvs p.1=none:=by
   cases e:A7 kvs p.1 with
   | none=>rfl
   | some v =>
    have h1:=Ov e;rw [map_append,List.nodup_append] at h;exact absurd rfl (h.2.2 _ h1 p.1 (mem_cons_self ..))
  show Cf (B0 kvs p.1 p.2) r=_;rw [Fl _ hn,Hg r,List.append_assoc]
  ·rfl
  ·rw [List.append_assoc];exact h
theorem P1 (nd:(due.map (·.1)).Nodup):kM due=Eb due:=by
 unfold kM;refine Hg _ [] ?_;show ((Eb due).map (·.1)).Nodup;have h:=HZ nd;unfold Eb;rw [map_map];unfold Ab at h;refine pairwise_map.mpr ((pairwise_map.mp h).imp fun q z=>q (Sum.inr.inj z))
theorem Ks (nd:(due.map (·.1)).Nodup) {x:Str} (h:x ∈ Ab due):A7 (kM due) (Sum.inr x:Key)=some (.int ((look due x:Nat):Int)):=by
 obtain ⟨n,hn,rfl⟩:=mem_map.mp h;rw [P1 nd,Cr nd (A9 hn)]
 have key:∀ l:List Nat,(∀ m ∈ l,m ∈ AG due)->n ∈ l->A7 (l.map fun n=>((Sum.inr (Bc (AV due) n):Key),V.int (n:Int))) (Sum.inr (Bc (AV due) n):Key)=some (V.int (n:Int)):=by
  intro l hl hin;induction l with
  | nil=>cases hin
  | cons m r ih =>
   rw [map_cons];by_cases e:Bc (AV due) m=Bc (AV due) n
   ·have:m=n:=OD nd (A9 (hl m (mem_cons_self ..))) (e ▸ A9 hn);rw [Cl (by rw [e]),this]
   ·rw [Cm (fun z=>e (Sum.inr.inj z))];rcases mem_cons.mp hin with z | z
    ·exact absurd (by rw [z]) e
    ·exact ih (fun m hm=>hl m (mem_cons_of_mem _ hm)) z
 exact key _ (fun _ h=>h) hn
def Bj (due:LN) (n:Nat) (x:Str):Bool:=decide (n &&& look due x ≠ 0)
def Bk (due:LN) (n:Nat) (p:Str × Str):Bool:=Bj due n p.1 && !Bj due n p.2
def Ci (due:LN) (n:Nat) (p:Str × Str):Bool:=Bj due n p.1 && Bj due n p.2
def At (due:LN) (ns bs:List (Str × Str)) (n:Nat):Option (Str × Str × Str):=match ns.find? (Bk due n) with
 | some p=>some ("need", p)
 | none=>(bs.find? (Ci due n)).map fun p=>("bar", p)
def AK (due:LN) (ns bs:List (Str × Str)):List Nat:=(uns (AG due)).filter fun n=>(At due ns bs n).isNone
def Pa (H:Hp) (v:V):Option (Str × Str × Str)->Prop
 | none=>v=.non
 | some t=>∃ q,v=.ref q/\H q=some (.tup [.str t.1,.str t.2.1,.str t.2.2])
theorem Ec {α:Type} {f:α->Bool} {l:List α} {i:Nat} {a:α} (h:(l.take i).find? f=none) (e:l[i]?=some a) (hf:f a=true):l.find? f=some a:=by
 have hi:=(List.getElem?_eq_some_iff.mp e).1
 have:l=l.take i++a :: l.drop (i + 1):=by
  have h1:=List.take_append_drop i l;rw [List.drop_eq_getElem_cons hi,(List.getElem?_eq_some_iff.mp e).2] at h1;exact h1.symm
 rw [this,List.find?_append,h,find?_cons,hf];rfl
theorem BR {α:Type} {f:α->Bool} {l:List α} {i:Nat} {a:α} (h:(l.take i).find? f=none) (e:l[i]?=some a) (hf:f a=false):(l.take (i + 1)).find? f=none:=by
 rw [take_add_one,e,List.find?_append,h];show Option.or none (List.find? f [a])=none;rw [find?_cons,hf];rfl
theorem Ed (n m:Nat):decide (V.int (Builtin.bitAnd (n:Int) (m:Int))=V.int 0)=decide (n &&& m=0):=by
 rw [BE];exact decide_eq_decide.mpr ⟨fun z=>by have:=V.int.inj z; omega,fun z=>by rw [z]; rfl⟩
theorem IV (due:LN) (n:Nat) (x:Str):Bj due n x=!decide (n &&& look due x=0):=by
 unfold Bj;by_cases h:n &&& look due x=0
 ·rw [decide_eq_false (fun z=>z h),decide_eq_true h]; rfl
 ·rw [decide_eq_true h,decide_eq_false h]; rfl
theorem Pb {a:Addr} {o:HO} (s:Same H H') (h:Rd H a o):Rd H' a o:=by
 rcases h with h | ⟨ob,h⟩
 ·exact .inl (s _ _ h)
 ·exact .inr ⟨ob,s _ _ h⟩
def prV (ps:List (Str × Str)):List (V × V):=ps.map fun p=>(V.str p.1,V.str p.2)
def PrsL (H:Hp) (l:Addr) (ps:List (Str × Str)):Prop:=∃ as:List Addr,H l=some (.lst (as.map V.ref))/\TupsAt H as (prV ps)
theorem PrsL.same {l:Addr} {ps:List (Str × Str)} (s:Same H H') (h:PrsL H l ps):PrsL H' l ps:=by
 obtain ⟨as,h1,h2⟩:=h;exact ⟨as,s _ _ h1,TupsAt.sameT (fun b xs e=>s _ _ e) h2⟩
theorem Ee {as:List Addr} {ps:List (Str × Str)} {i:Nat} {v:V} (h:TupsAt H as (prV ps)) (e:(as.map V.ref)[i]?=some v):∃ b p,v=.ref b/\ps[i]?=some p/\H b=some (.tup [.str p.1,.str p.2]):=by
 rw [getElem?_map] at e;obtain ⟨b,hb,rfl⟩:=Option.map_eq_some_iff.mp e;obtain ⟨p,hp,ht⟩:=Bt h hb;unfold prV at hp;rw [getElem?_map] at hp;obtain ⟨q,hq,rfl⟩:=Option.map_eq_some_iff.mp hp;exact ⟨b,q,rfl,hq,ht⟩
def DQ (due:LN) (ps:List (Str × Str)):Prop:=ps.length <= 100/\∀ p ∈ ps,p.1 ∈ Ab due/\p.2 ∈ Ab due/\p.1 ≠ p.2
section
variable {RC:Addr}
def OE (K:FG):Sp:=fun vs H Q _=>∃ (a:Addr) (ms:List Nat),vs=[.ref a]/\SqL K H a (AT ms)/\ms.length <= 8/\∀ l H',Same H H'->H' l=some (.lst (AT (uns ms)))->Q (.ref l) H'
theorem scUnions:AN ["marks", "unions", "mark"] ["marks"] (defScope Er):=fsc
theorem OF {n:Nat} (h:n <= 8):2 ^ n <= 256:=Nat.pow_le_pow_right (by decide) h
theorem Af (l:List Nat):(AT l).length=l.length:=length_map _
theorem Qq (F:Fun K "unions_of" "unions_of" Er f fd):Ae P w K mg base CX0 1 f fd ["marks"] (OE K):=by
 refine F.ok scUnions (fun vs H Q E h=>?_) (fun ad A outer s H vs Q E hr h=>?_)
 ·obtain ⟨a,ms,rfl,_⟩:=h;rfl
 ·obtain ⟨a,ms,rfl,hS,h8,k⟩:=h
  refine ⟨_,AE (Ac (i:=1) scUnions.nd rfl (Or.inl rfl) (BX (AA AH AB)))
   (AE (BW PassesOwn.never rfl (Ad (pv 0)) (AO (i:=2) scUnions.nd rfl (Or.inr rfl))
    (AD (Ac (i:=1) scUnions.nd rfl (Or.inl rfl) (AW NE (pv 1) (A3 ["mark"] [some 2] (by kernel_rfl) (by decide +kernel) (by kernel_rfl) rfl (Ad (pv 1)) (fun _ _ _ _ _ _=>BL) (fun _ _ _ _ _ _=>AW Io (pv 0) (pv 1))))))) (AD (AS (pv 1)))),?_⟩
  refine ⟨sl1,fun l hl=>?_⟩;have s1:=AC (Same.refl _) hl (o:=HO.lst [V.int 0]);have hl1:=upd_same (H:=H) (a:=l) (o:=HO.lst [V.int 0]);generalize upd H l (HO.lst [V.int 0])=H1 at s1 hl1 ⊢;refine ⟨_,rfl,a,rfl,⟨_,s1.seq hS⟩,BM (K:=K) (a:=a) (xs:=AT ms) (fun i σ H2=>(∃ (l:Addr) (v:Option V),σ=[some (.ref a),some (.ref l),v]/\H2 l=some (.lst (AT (uns (ms.take i)))))/\Same H H2) ⟨⟨l,none,rfl,hl1⟩,s1⟩ (fun i σ H2 _ ⟨_,e⟩=>e.seq hS) ?_ ?_⟩
  ·rintro i x σ H2 hi ⟨⟨l2,v,rfl,hl2⟩,s2⟩;unfold AT at hi;rw [getElem?_map] at hi;obtain ⟨m,hm,rfl⟩:=Option.map_eq_some_iff.mp hi;have hi8:=(List.getElem?_eq_some_iff.mp hm).1;have ay:(uns (ms.take i)).length <= 256:=by rw [Ea]; exact OF (by rw [length_take]; omega)
   refine ⟨_,rfl,_,rfl,l2,rfl,⟨_,SqL.of hl2⟩,Ai (K:=K) (a:=l2) (xs:=AT (uns (ms.take i))) (fun j ys H3=>ys=AT (((uns (ms.take i)).take j).map (· ||| m))/\H3=H2) ⟨rfl,rfl⟩ (fun j ys H3 _ ⟨_,e⟩=>e ▸ SqL.of hl2) (fun j ys H3 ⟨e,_⟩=>by rw [e,Af,length_map,length_take]; omega) ?_ ?_⟩
   ·rintro j v ys H3 hj ⟨rfl,rfl⟩;unfold AT at hj;rw [getElem?_map] at hj;obtain ⟨u,hu,rfl⟩:=Option.map_eq_some_iff.mp hj;refine ⟨_,rfl,_,rfl,_,_,rfl,rfl,?_,rfl⟩;rw [take_add_one,hu];unfold AT;rw [map_append,map_append];show _++[V.int (Builtin.bitOr _ _)]=_++[V.int _];rw [Cg]
   ·rintro ys H3 ⟨rfl,rfl⟩ p hp;rw [Af,take_length] at *;have s3:=AC (Same.refl _) hp (o:=HO.lst (AT ((uns (ms.take i)).map (· ||| m))));refine ⟨l2,p,_,_,rfl,rfl,s3 _ _ hl2,upd_same,Nat.le_of_lt (Ag (by rw [Af,Af,length_map]; omega)),fun q hq=>?_⟩;refine ⟨⟨q,_,rfl,?_⟩,s2.trans (AC s3 hq)⟩;rw [upd_same,take_add_one,hm];show _=some (HO.lst (AT (uns (ms.take i++[m]))));rw [Jk];unfold AT;rw [map_append]
  ·rintro σ H2 ⟨⟨l2,v,rfl,hl2⟩,s2⟩;rw [Af,take_length] at hl2;exact ⟨_,rfl,k l2 _ s2 hl2⟩
def Gf:Sp:=fun vs H Q _=>∃ (b d:Addr) (km:LK) (x y:Str),vs=[.ref b,.ref d]/\H b=some (.tup [.str x,.str y])/\Rd H d (.dK km)/\(A7 km (Sum.inr x:Key)).isSome=true/\(A7 km (Sum.inr y:Key)).isSome=true/\x ≠ y/\∀ H',Same H H'->Q (.bl true) H'
theorem OG:AN ["thing", "marks"] ["thing", "marks"] (defScope IG):=fsc
theorem Mo (F:Fun K "is_pair" "is_pair" IG f fd) (B:Bl mg) (GO:Fn P w K mg base "is_one_of" 1 ["thing", "names"] (Cp K)):Ae P w K mg base CX0 2 f fd ["thing", "marks"] Gf:=by
 obtain ⟨fO,dO,GO,mO,kO,bO⟩:=GO.ex;refine F.ok OG (fun vs H Q E h=>?_) (fun ad A outer s H vs Q E hr h=>?_)
 ·obtain ⟨b,d,km,x,y,rfl,_⟩:=h;rfl
 ·obtain ⟨b,d,km,x,y,rfl,hb,hd,hx,hy,av,k⟩:=h
  refine ⟨_,AE (Au (PW.pt (De (B3 (Bp (CA K rfl rfl B.isi rfl B.tuple DI (pv 0)))) (CZ (AU CI (AX (Av K rfl) rfl B.len PySem.boot_len (AA (pv 0) AB)) AH (AY _))))) (AD Ax) Aa)
   (AD (AS (CH (AX (EO rfl) rfl B.all IH (AA (A3 ["marks"] [some 1] (by kernel_rfl) (by decide +kernel) (by kernel_rfl) rfl (J1 (pv 0)) (fun _ _ _ _ _ _=>BL) (fun _ _ _ _ _ _=>AM GO hr rfl mO kO bO .nil AQ (AA (pv 0) (AA (pv 1) AB)))) AB))
    (Cy (Bw CI (BZ (DV K rfl) (pv 0) AH (fun _ _=>rfl)) (BZ (DV K rfl) (pv 0) AH (fun _ _=>rfl)) (AY _)))))),?_⟩
  refine ⟨_,rfl,_,_,_,true,rfl,.tup hb,rfl,_,rfl,As ?_⟩;refine ⟨_,rfl,b,_,rfl,.inr (SqT.of hb),rfl,_,rfl,?_⟩;refine LA rfl ?_;refine ⟨_,rfl,b,rfl,⟨_,SqT.of hb⟩,Fu (K:=K) (a:=b) (xs:=[V.str x,V.str y]) (fun i zs H2=>H2=H/\zs=([V.str x,V.str y].take i).map fun _=>V.bl true) ⟨rfl,rfl⟩ (fun i zs H2 _ ⟨e,_⟩=>e ▸ SqT.of hb) (fun i zs H2 ⟨_,e⟩=>by rw [e,length_map,length_take]; show min i 2 <= _; omega) ?_ ?_⟩
  ·rintro i z zs H2 hi ⟨rfl,rfl⟩
   have hz:∃ q,z=V.str q/\(A7 km (Sum.inr q:Key)).isSome=true:=by
    have:=mem_of_getElem? hi;simp only [mem_cons,not_mem_nil,or_false] at this;rcases this with rfl | rfl
    ·exact ⟨x,rfl,hx⟩
    ·exact ⟨y,rfl,hy⟩
   obtain ⟨q,rfl,hq⟩:=hz;refine ⟨_,rfl,_,rfl,.inl ⟨q,d,km,rfl,hd,rfl,?_⟩⟩;rw [hq,take_add_one,hi,map_append];rfl
  ·rintro zs H2 ⟨rfl,rfl⟩ q hq;have sq:=AC (Same.refl _) hq (o:=HO.lst (([V.str x,V.str y].take [V.str x,V.str y].length).map fun _=>V.bl true));refine ⟨q,[true,true],rfl,SqL.of upd_same,_,rfl,BY ⟨_,rfl,b,_,0,.str x,rfl,rfl,SqT.of (sq _ _ hb),rfl,_,rfl,b,_,1,.str y,rfl,rfl,SqT.of (sq _ _ hb),rfl,rfl,?_⟩⟩;rw [decide_eq_false (show ¬ V.str x=V.str y from fun z=>av (V.str.inj z))];exact k _ sq
def IW:Sp:=fun vs H Q _=>∃ (l d:Addr) (km:LK) (ps:List (Str × Str)),vs=[.ref l,.ref d]/\PrsL H l ps/\Rd H d (.dK km)/\ps.length <= 100/\(∀ p ∈ ps,(A7 km (Sum.inr p.1:Key)).isSome=true/\(A7 km (Sum.inr p.2:Key)).isSome=true/\p.1 ≠ p.2)/\∀ l' H',Same H H'->H l'=none->PrsL H' l' ps->Q (.ref l') H'
theorem Pc:AN ["things", "marks"] ["things", "marks"] (defScope F6):=fsc
theorem OH (F:Fun K "pairs_of" "pairs_of" F6 f fd) (B:Bl mg) (GP:Fn P w K mg base "is_pair" 2 ["thing", "marks"] Gf):Ae P w K mg base CX0 3 f fd ["things", "marks"] IW:=by
 obtain ⟨fP,dP,GP,mP,kP,bP⟩:=GP.ex;refine F.ok Pc (fun vs H Q E h=>?_) (fun ad A outer s H vs Q E hr h=>?_)
 ·obtain ⟨l,d,km,ps,rfl,_⟩:=h;rfl
 ·obtain ⟨l,d,km,ps,rfl,⟨as,hl,has⟩,hd,h100,hps,k⟩:=h
  refine ⟨_,AE (Au (PW.pt (De (B3 (Bp (AX (KP K rfl) rfl B.isi II (AA (pv 0) (AA (BD (AA (Hm (v:=.ty "list") rfl B.list C4 rfl) (AA (Hm (v:=.ty "tuple") rfl B.tuple DI rfl) AB))) AB))))) (CZ (B3 (Bp (AX (EO rfl) rfl B.all IH (AA (A3 ["marks"] [some 1] (by kernel_rfl) (by decide +kernel) (by kernel_rfl) rfl (Ad (pv 0)) (fun _ _ _ _ _ _=>BL) (fun _ _ _ _ _ _=>AM GP hr rfl mP kP bP .nil AQ (AA (pv 0) (AA (pv 1) AB)))) AB))))))) (AD Ax) Aa)
   (AD (AS (Bq Ht rfl B.list C4 (AA (pv 0) AB)))),?_⟩
  refine ⟨_,rfl,sl2,fun t ht=>?_⟩;have s1:=AC (Same.refl _) ht (o:=HO.tup [V.ty "list", V.ty "tuple"]);have ht1:=upd_same (H:=H) (a:=t) (o:=HO.tup [V.ty "list", V.ty "tuple"]);generalize upd H t (HO.tup [V.ty "list", V.ty "tuple"])=H1 at s1 ht1 ⊢;have ar:as.length=ps.length:=by have:=has.length; unfold prV at this; rw [length_map] at this; exact this
  refine ⟨l,t,_,rfl,.inl (s1 _ _ hl),SqT.of ht1,_,rfl,As ?_⟩;refine ⟨_,rfl,l,rfl,⟨_,SqL.of (s1 _ _ hl)⟩,Ai (K:=K) (a:=l) (xs:=as.map V.ref) (fun i ys H2=>Same H1 H2/\ys=(as.take i).map fun _=>V.bl true) ⟨Same.refl _,rfl⟩ (fun i ys H2 _ ⟨e,_⟩=>SqL.of (e _ _ (s1 _ _ hl))) (fun i ys H2 ⟨_,e⟩=>by rw [e,length_map,length_take]; omega) ?_ ?_⟩
  ·rintro i z ys H2 hi ⟨s2,rfl⟩;have s12:=s1.trans s2;have hi':=hi;obtain ⟨b,p,rfl,hp,hb⟩:=Ee (TupsAt.sameT (fun b xs e=>s12 _ _ e) has) hi;obtain ⟨q1,q2,q3⟩:=hps p (mem_of_getElem? hp);refine ⟨_,rfl,_,rfl,b,d,km,p.1,p.2,rfl,hb,Pb s12 hd,q1,q2,q3,fun H3 s3=>⟨s2.trans s3,?_⟩⟩;rw [getElem?_map] at hi';obtain ⟨c,hc,_⟩:=Option.map_eq_some_iff.mp hi';rw [take_add_one,hc,map_append];rfl
  ·rintro ys H2 ⟨s2,rfl⟩ q hq;have sq:=AC s2 hq (o:=HO.lst ((as.take (as.map V.ref).length).map fun _=>V.bl true));refine ⟨q,(as.take (as.map V.ref).length).map fun _=>true,rfl,SqL.of (by rw [upd_same,map_map]; rfl),_,rfl,?_⟩;rw [show (((as.take (as.map V.ref).length).map fun _=>true).all id)=true by rw [all_map]; exact List.all_eq_true.mpr fun _ _=>rfl];refine As ⟨_,rfl,l,_,rfl,.inl (SqL.of (sq _ _ (s1 _ _ hl))),fun l' hl'=>?_⟩;have sl:=AC (s1.trans sq) hl' (o:=HO.lst (as.map V.ref));exact k l' _ sl (none_of (s1.trans sq) hl') ⟨as,upd_same,TupsAt.sameT (fun b xs e=>sl _ _ e) has⟩
end
def ruF:List Str:=["own_kind", "numbered_marks", "needs", "bars", "let_numbers"]
def rf2 (k d:Addr):List (Str × V):=Aq "numbered_marks" (.ref d) (Aq "own_kind" (.ref k) [])
def rf3 (k d ln:Addr):List (Str × V):=Aq "needs" (.ref ln) (rf2 k d)
def rf4 (k d ln lb:Addr):List (Str × V):=Aq "bars" (.ref lb) (rf3 k d ln)
def rf5 (k d ln lb ll:Addr):List (Str × V):=Aq "let_numbers" (.ref ll) (rf4 k d ln lb)
structure RF (fs:List (Str × V)) (k d ln lb:Addr):Prop where
 ok:fs.lookup ("own_kind" : Str)=some (.ref k)
 om:fs.lookup ("numbered_marks" : Str)=some (.ref d)
 on:fs.lookup ("needs" : Str)=some (.ref ln)
 ob:fs.lookup ("bars" : Str)=some (.ref lb)
 no:∀ m:Str,m ∉ ruF->fs.lookup m=none
theorem OI {m:Str} (h:m ∉ ruF):¬ m = "own_kind" /\ ¬ m = "numbered_marks" /\ ¬ m = "needs" /\ ¬ m = "bars" /\ ¬ m = "let_numbers" := by
 unfold ruF at h;simp only [mem_cons,not_mem_nil,or_false,not_or] at h;exact h
theorem P2 (k d:Addr):(rf2 k d).lookup ("numbered_marks" : Str)=some (.ref d):=by unfold rf2; rw [AJ,if_pos rfl]
theorem P3 (k d ln:Addr):(rf3 k d ln).lookup ("numbered_marks" : Str)=some (.ref d):=by unfold rf3; rw [AJ,if_neg (by decide +kernel)]; exact P2 k d
theorem OJ (k d ln lb:Addr):RF (rf4 k d ln lb) k d ln lb:=by
 refine ⟨?_,?_,?_,?_,fun m h=>?_⟩
 ·unfold rf4 rf3 rf2;rw [AJ,if_neg (by decide +kernel),AJ,if_neg (by decide +kernel),AJ,if_neg (by decide +kernel),AJ,if_pos rfl]
 ·unfold rf4;rw [AJ,if_neg (by decide +kernel)];exact P3 k d ln
 ·unfold rf4 rf3;rw [AJ,if_neg (by decide +kernel),AJ,if_pos rfl]
 ·unfold rf4;rw [AJ,if_pos rfl]
 ·obtain ⟨h1,h2,h3,h4,h5⟩:=OI h;unfold rf4 rf3 rf2;rw [AJ,if_neg h4,AJ,if_neg h3,AJ,if_neg h2,AJ,if_neg h1];rfl
theorem P4 (k d ln lb ll:Addr):(rf5 k d ln lb ll).lookup ("let_numbers" : Str)=some (.ref ll):=by unfold rf5; rw [AJ,if_pos rfl]
theorem Qr (k d ln lb ll:Addr):RF (rf5 k d ln lb ll) k d ln lb:=by
 have h:=OJ k d ln lb;refine ⟨?_,?_,?_,?_,fun m hm=>?_⟩
 ·unfold rf5; rw [AJ,if_neg (by decide +kernel)]; exact h.ok
 ·unfold rf5; rw [AJ,if_neg (by decide +kernel)]; exact h.om
 ·unfold rf5; rw [AJ,if_neg (by decide +kernel)]; exact h.on
 ·unfold rf5; rw [AJ,if_neg (by decide +kernel)]; exact h.ob
 ·unfold rf5; rw [AJ,if_neg (OI hm).2.2.2.2]; exact h.no m hm
structure IY (K:FG) (RC:Addr):Prop where
 cl:Cls K RC
 nK:NoAttr K RC "own_kind"
 nM:NoAttr K RC "numbered_marks"
 nN:NoAttr K RC "needs"
 nB:NoAttr K RC "bars"
 nL:NoAttr K RC "let_numbers"
def RuB (RC:Addr) (H:Hp) (p k:Addr) (due:LN) (ns bs:List (Str × Str)):Prop:=∃ dx fs d ln lb ob,H p=some (.ins RC dx fs)/\RF fs k d ln lb/\H d=some (.frz ob (.dK (kM due)))/\PrsL H ln ns/\PrsL H lb bs
def RuAt (RC:Addr) (H:Hp) (p k:Addr) (due:LN) (ns bs:List (Str × Str)):Prop:=∃ dx fs d ln lb ob ll,H p=some (.ins RC dx fs)/\RF fs k d ln lb/\H d=some (.frz ob (.dK (kM due)))/\PrsL H ln ns/\PrsL H lb bs/\fs.lookup ("let_numbers" : Str)=some (.ref ll)/\H ll=some (.lst (AT (AK due ns bs)))
def Qs (RC:Addr) (H:Hp) (p ll:Addr):Prop:=∃ dx fs,H p=some (.ins RC dx fs)/\fs.lookup ("let_numbers" : Str)=some (.ref ll)
theorem RuB.same {RC:Addr} {p k:Addr} {ns bs:List (Str × Str)} (s:Same H H') (h:RuB RC H p k due ns bs):RuB RC H' p k due ns bs:=by
 obtain ⟨dx,fs,d,ln,lb,ob,h1,h2,h3,h4,h5⟩:=h;exact ⟨dx,fs,d,ln,lb,ob,s _ _ h1,h2,s _ _ h3,h4.same s,h5.same s⟩
theorem RuAt.same {RC:Addr} {p k:Addr} {ns bs:List (Str × Str)} (s:Same H H') (h:RuAt RC H p k due ns bs):RuAt RC H' p k due ns bs:=by
 obtain ⟨dx,fs,d,ln,lb,ob,ll,h1,h2,h3,h4,h5,h6,h7⟩:=h;exact ⟨dx,fs,d,ln,lb,ob,ll,s _ _ h1,h2,s _ _ h3,h4.same s,h5.same s,h6,s _ _ h7⟩
section
variable {RC:Addr}
def Qt (RC:Addr):Sp:=fun vs H Q _=>∃ (p k:Addr) (due:LN) (ns bs:List (Str × Str)) (n:Nat),vs=[.ref p,.int (n:Int)]/\RuB RC H p k due ns bs/\(due.map (·.1)).Nodup/\DQ due ns/\DQ due bs/\∀ v H',Same H H'->Pa H' v (At due ns bs n)->Q v H'
abbrev NFF:List Str:=["self", "number", "name", "needed", "barred"]
theorem scFF:AN NFF ["self", "number"] (defScope B6):=fsc
theorem Rs (F:Fun K "first_fault" "Rule.first_fault" B6 f fd) (RT:IY K RC):Ae P w K mg base CX0 1 f fd ["self", "number"] (Qt RC):=by
 refine F.ok scFF (fun vs H Q E h=>?_) (fun ad A outer s H vs Q E hr h=>?_)
 ·obtain ⟨p,k,due,ns,bs,n,rfl,_⟩:=h;rfl
 ·obtain ⟨p,k,due,ns,bs,n,rfl,⟨dx,fs,d,ln,lb,ob,hp,R,hd,⟨as,hln,has⟩,⟨cs,hlb,ax⟩⟩,nd,⟨l1,PN⟩,⟨l2,PB⟩,q⟩:=h;have hu:=C7 hr
  refine ⟨_,AE (BW PassesOwn.never rfl (Ad (Ak (pv 0) rfl)) (BI rfl (AR (AO (i:=2) scFF.nd rfl (Or.inl rfl)) (AR (AO (i:=3) scFF.nd rfl (Or.inl rfl)) A6)))
    (AD (Au (PW.pt (Cw (AU CI (AW BJ (pv 1) (BK hu (Ak (pv 0) rfl) (pv 2) (fun _ _=>rfl))) AH (AY _)) (B7 (AU Ck (AW BJ (pv 1) (BK hu (Ak (pv 0) rfl) (pv 3) (fun _ _=>rfl))) AH (AY _)))))
     (AD (AS (BD (AA Aw (AA (pv 2) (AA (pv 3) AB)))))) Aa)))
   (AE (BW PassesOwn.never rfl (Ad (Ak (pv 0) rfl)) (BI rfl (AR (AO (i:=2) scFF.nd rfl (Or.inl rfl)) (AR (AO (i:=4) scFF.nd rfl (Or.inl rfl)) A6)))
    (AD (Au (PW.pt (Cw (AU CI (AW BJ (pv 1) (BK hu (Ak (pv 0) rfl) (pv 2) (fun _ _=>rfl))) AH (AY _)) (B7 (AU CI (AW BJ (pv 1) (BK hu (Ak (pv 0) rfl) (pv 4) (fun _ _=>rfl))) AH (AY _)))))
     (AD (AS (BD (AA Aw (AA (pv 2) (AA (pv 4) AB)))))) Aa)))
   (AD (AS Hl))),?_⟩
  have ar:as.length=ns.length:=by have:=has.length; unfold prV at this; rw [length_map] at this; exact this
  have af:cs.length=bs.length:=by have:=ax.length; unfold prV at this; rw [length_map] at this; exact this
  have g:∀ x ∈ Ab due,I0 H d (.str x) (some (.int ((look due x:Nat):Int))):=fun x hx=>.inl ⟨kM due,Sum.inr x,.inr ⟨ob,hd⟩,rfl,(Ks nd hx).symm⟩;refine ⟨_,rfl,p,RC,dx,_,_,rfl,hp,RT.cl,RT.nN,R.on,ln,rfl,⟨_,SqL.of hln⟩,BM (K:=K) (a:=ln) (xs:=as.map V.ref) (fun i σ H2=>(∃ v2 v3:Option V,σ=[some (.ref p),some (.int (n:Int)),v2,v3,none])/\H2=H/\(ns.take i).find? (Bk due n)=none) ⟨⟨none,none,rfl⟩,rfl,rfl⟩ (fun i σ H2 _ ⟨_,e,_⟩=>e ▸ SqL.of hln) ?_ ?_⟩
  ·rintro i v σ H2 hi ⟨⟨v2,v3,rfl⟩,rfl,hf⟩;obtain ⟨b,pr,rfl,hpr,hb⟩:=Ee has hi;obtain ⟨m1,m2,_⟩:=PN pr (mem_of_getElem? hpr);refine ⟨b,_,rfl,SqT.of hb,rfl,_,_,rfl,_,_,rfl,rfl,?_⟩;refine ⟨_,rfl,_,rfl,p,RC,dx,_,_,rfl,hp,RT.cl,RT.nM,R.om,_,rfl,d,_,rfl,g _ m1,_,_,rfl,rfl,rfl,_,rfl,?_⟩;rw [Ed];have hnb:Bk due n pr=((!decide (n &&& look due pr.1=0)) && decide (n &&& look due pr.2=0)):=by unfold Bk; rw [IV,IV,Bool.not_not]
   by_cases h1:n &&& look due pr.1=0
   ·rw [decide_eq_true h1] at hnb ⊢;exact As (As ⟨⟨_,_,rfl⟩,rfl,BR hf hpr hnb⟩)
   ·rw [decide_eq_false h1] at hnb ⊢;refine BY ⟨_,rfl,_,rfl,p,RC,dx,_,_,rfl,hp,RT.cl,RT.nM,R.om,_,rfl,d,_,rfl,g _ m2,_,_,rfl,rfl,rfl,_,rfl,?_⟩;rw [Ed];by_cases h2:n &&& look due pr.2=0
    ·rw [decide_eq_true h2] at hnb ⊢;refine BY ⟨_,rfl,_,rfl,sl3,fun t ht=>?_⟩;refine q (.ref t) _ (AC (Same.refl _) ht) ?_;unfold At;rw [Ec hf hpr hnb];exact ⟨t,rfl,upd_same⟩
    ·rw [decide_eq_false h2] at hnb ⊢;exact As ⟨⟨_,_,rfl⟩,rfl,BR hf hpr hnb⟩
  ·rintro σ H2 ⟨⟨v2,v3,rfl⟩,rfl,hf⟩;rw [length_map,ar,take_length] at hf;refine ⟨_,rfl,p,RC,dx,_,_,rfl,hp,RT.cl,RT.nB,R.ob,lb,rfl,⟨_,SqL.of hlb⟩,BM (K:=K) (a:=lb) (xs:=cs.map V.ref) (fun i σ H3=>(∃ v2 v3 v4:Option V,σ=[some (.ref p),some (.int (n:Int)),v2,v3,v4])/\H3=H2/\(bs.take i).find? (Ci due n)=none) ⟨⟨_,_,_,rfl⟩,rfl,rfl⟩ (fun i σ H3 _ ⟨_,e,_⟩=>e ▸ SqL.of hlb) ?_ ?_⟩
   ·rintro i v σ H3 hi ⟨⟨v2,v3,v4,rfl⟩,rfl,hf2⟩;obtain ⟨b,pr,rfl,hpr,hb⟩:=Ee ax hi;obtain ⟨m1,m2,_⟩:=PB pr (mem_of_getElem? hpr);refine ⟨b,_,rfl,SqT.of hb,rfl,_,_,rfl,_,_,rfl,rfl,?_⟩;refine ⟨_,rfl,_,rfl,p,RC,dx,_,_,rfl,hp,RT.cl,RT.nM,R.om,_,rfl,d,_,rfl,g _ m1,_,_,rfl,rfl,rfl,_,rfl,?_⟩;rw [Ed];have hnb:Ci due n pr=((!decide (n &&& look due pr.1=0)) && !decide (n &&& look due pr.2=0)):=by unfold Ci; rw [IV,IV]
    by_cases h1:n &&& look due pr.1=0
    ·rw [decide_eq_true h1] at hnb ⊢;exact As (As ⟨⟨_,_,_,rfl⟩,rfl,BR hf2 hpr hnb⟩)
    ·rw [decide_eq_false h1] at hnb ⊢;refine BY ⟨_,rfl,_,rfl,p,RC,dx,_,_,rfl,hp,RT.cl,RT.nM,R.om,_,rfl,d,_,rfl,g _ m2,_,_,rfl,rfl,rfl,_,rfl,?_⟩;rw [Ed];by_cases h2:n &&& look due pr.2=0
     ·rw [decide_eq_true h2] at hnb ⊢;exact As ⟨⟨_,_,_,rfl⟩,rfl,BR hf2 hpr hnb⟩
     ·rw [decide_eq_false h2] at hnb ⊢;refine BY ⟨_,rfl,_,rfl,sl3,fun t ht=>?_⟩;refine q (.ref t) _ (AC (Same.refl _) ht) ?_;unfold At;rw [hf,Ec hf2 hpr hnb];exact ⟨t,rfl,upd_same⟩
   ·rintro σ H3 ⟨⟨v2,v3,v4,rfl⟩,rfl,hf2⟩;rw [length_map,af,take_length] at hf2;refine q .non _ (Same.refl _) ?_;unfold At;rw [hf,hf2];rfl
end
def SameN (p:Addr) (H H':Hp):Prop:=∀ b o,H b=some o->b ≠ p->H' b=some o
theorem SameN.then {p:Addr} {H1 H2:Hp} (a:SameN p H H1) (s:Same H1 H2):SameN p H H2:=fun b o e h=>s _ _ (a b o e h)
theorem SameN.upd {p:Addr} {H1:Hp} {o:HO} (a:SameN p H H1):SameN p H (upd H1 p o):=fun b u e h=>by rw [AF h]; exact a b u e h
def Hh (p:Addr) (H:Hp):Prop:=∃ D dx fs,H p=some (.ins D dx fs)
theorem KindAt.sameN {p:Addr} {k:Addr} {r:Str} (s:SameN p H H') (hk:k ≠ p) (hp:Hh p H) (h:KindAt C H k due r):KindAt C H' k due r:=by
 obtain ⟨x,d1,o1,d2,o2,a,b,c⟩:=h.ex;obtain ⟨D,dx,fs,hp⟩:=hp;refine ⟨⟨x,d1,o1,d2,o2,s _ _ a hk,s _ _ b fun e=>?_,s _ _ c fun e=>?_⟩⟩
 ·subst e;rw [hp] at b;cases b
 ·subst e;rw [hp] at c;cases c
theorem PrsL.sameN {p l:Addr} {ps:List (Str × Str)} (s:SameN p H H') (hp:Hh p H) (h:PrsL H l ps):PrsL H' l ps:=by
 obtain ⟨as,h1,h2⟩:=h;obtain ⟨D,dx,fs,hp⟩:=hp;refine ⟨as,s _ _ h1 fun e=>?_,TupsAt.sameT (fun b xs e=>s _ _ e fun q=>?_) h2⟩
 ·subst e;rw [hp] at h1;cases h1
 ·subst q;rw [hp] at e;cases e
section
variable {RC:Addr}
def LR (C RC:Addr):Sp:=fun vs H Q _=>∃ (p dx k l1 l2:Addr) (due:LN) (r:Str) (ns bs:List (Str × Str)),vs=[.ref p,.ref k,.ref l1,.ref l2]/\H p=some (.ins RC dx [])/\KindAt C H k due r/\due.length <= 8/\(due.map (·.1)).Nodup/\PrsL H l1 ns/\PrsL H l2 bs/\DQ due ns/\DQ due bs /\
 ∀ H',SameN p H H'->RuAt RC H' p k due ns bs->(∀ ll,Qs RC H' p ll->H ll=none)->Q .non H'
abbrev NRI:List Str:=["self", "kind", "needs", "bars", "unions"]
theorem scRI:AN NRI ["self", "kind", "needs", "bars"] (defScope DU):=fsc
theorem OK (F:Fun K "__init__" "Rule.__init__" DU f fd) (B:Bl mg) (hD:mg "dict" = none) (T:E7 K C) (RT:IY K RC) (GM:Mt P w K mg base C "marks" 2 ["self"] (FU C)) (GP:Fn P w K mg base "pairs_of" 3 ["things", "marks"] IW) (GU:Fn P w K mg base "unions_of" 1 ["marks"] (OE K)) (GF:Mt P w K mg base RC "first_fault" 1 ["self", "number"] (Qt RC)) :
  Ae P w K mg base CX0 4 f fd ["self", "kind", "needs", "bars"] (LR C RC):=by
 obtain ⟨fM,dM,GM,mM,bM⟩:=GM.ex;obtain ⟨fP,dP,GP,mP,kP,bP⟩:=GP.ex;obtain ⟨fU,dU,GU,mU,kU,bU⟩:=GU.ex;obtain ⟨fF,dF,GF,mF,bF⟩:=GF.ex;refine F.ok scRI (fun vs H Q E h=>?_) (fun ad A outer s H vs Q E hr h=>?_)
 ·obtain ⟨p,dx,k,l1,l2,due,r,ns,bs,rfl,_⟩:=h;rfl
 ·obtain ⟨p,dx,k,l1,l2,due,r,ns,bs,rfl,hp,KA,h8,nd,PL1,PL2,PN,PB,hG⟩:=h;have hr1:Room 1 _:=hr.mono (by decide);have hr2:Room 2 _:=hr.mono (by decide)
  refine ⟨_,AE (Cc (pv 0) (pv 1) rfl)
   (AE (Cc (pv 0) (Bq (KQ rfl) rfl hD PZ (AA (BG (pv 1) T.cl mM GM hr2 bM .nil AQ) AB)) rfl)
   (Dl (AE (Cc (pv 0) (AM GP hr rfl mP kP bP .nil AQ (AA (pv 2) (AA (Ak (pv 0) rfl) AB))) rfl)
   (AE (Cc (pv 0) (AM GP hr rfl mP kP bP .nil AQ (AA (pv 3) (AA (Ak (pv 0) rfl) AB))) rfl)
   (AE (Ac (i:=4) scRI.nd rfl (Or.inl rfl) (AM GU hr1 rfl mU kU bU .nil AQ (AA (Bq (Fw rfl) rfl B.list C4 (AA (KJ PySem.F.slot_dict_values PySem.F.type_dict_values HD (Ak (pv 0) rfl)) AB)) AB)))
   (AD (Cc (pv 0) (A3 ["self"] [some 0] (by kernel_rfl) (by decide +kernel) (by kernel_rfl) rfl (Ad (pv 4)) (fun _ _ _ _ _ _=>Bg (C9 (Ej (By (pv 1) RT.cl mF GF hr1 bF .nil AQ (AA (pv 0) AB))))) (fun _ _ _ _ _ _=>pv 0)) rfl))))))),?_⟩
  have hkp:k ≠ p:=fun z=>by
   obtain ⟨x,d1,o1,d2,o2,a,_⟩:=KA.ex;subst z;rw [hp] at a;have q:=JW d1 d2 r;cases a
  have iP:Hh p H:=⟨_,_,_,hp⟩;refine ⟨_,rfl,_,rfl,p,RC,dx,_,rfl,hp,RT.cl,RT.nK,(by show 0 < 1000; decide),?_⟩;have s1:SameN p H (upd H p (.ins RC dx (Aq "own_kind" (.ref k) []))):=SameN.upd (fun _ _ e _=>e);have aj:=upd_same (H:=H) (a:=p) (o:=.ins RC dx (Aq "own_kind" (.ref k) []));generalize upd H p (.ins RC dx (Aq "own_kind" (.ref k) []))=H1 at s1 aj ⊢;have KA1:=KA.sameN s1 hkp iP;obtain ⟨dk,e1,e2,hk1⟩:=KA1.ins;refine ⟨_,rfl,k,dk,_,rfl,hk1,(DX _ _ _),k,due,r,rfl,KA1,by omega,fun la as1 H2 s2 hla hta=>?_⟩;rw [OC] at hta;obtain ⟨n1,q1⟩:=Rr (K:=K) hta
  have z1:(Eb due).length <= 1000:=by
   have h3:(Eb due).length=(AG due).length:=length_map _;have:=BO due;omega
  refine ⟨la,as1,Eb due,rfl,SqL.of hla,n1,z1,q1,fun d hd=>?_⟩;have ak:=s2 _ _ aj;have npd:p ≠ d:=AI ak hd;refine ⟨_,rfl,p,RC,dx,_,rfl,by rw [AF npd]; exact ak,RT.cl,RT.nM,(by show 1 < 1000; decide),?_⟩;refine ⟨d,kM due,by rw [AF (Ne.symm npd),upd_same]; rfl,fun ob=>?_⟩
  have s3:SameN p H (upd (upd (upd H2 d (HO.dK (Cf [] (Eb due)))) p (HO.ins RC dx (Aq "numbered_marks" (V.ref d) (Aq "own_kind" (V.ref k) [])))) d (HO.frz ob (HO.dK (kM due)))):=fun b o e h=>by
   have e2:=s2 _ _ (s1 b o e h);rw [AF (AI e2 hd),AF h,AF (AI e2 hd)];exact e2
  have hp3:(upd (upd (upd H2 d (HO.dK (Cf [] (Eb due)))) p (HO.ins RC dx (Aq "numbered_marks" (V.ref d) (Aq "own_kind" (V.ref k) [])))) d (HO.frz ob (HO.dK (kM due)))) p=some (.ins RC dx (rf2 k d)):=by rw [AF npd,upd_same]; rfl
  have hd3:(upd (upd (upd H2 d (HO.dK (Cf [] (Eb due)))) p (HO.ins RC dx (Aq "numbered_marks" (V.ref d) (Aq "own_kind" (V.ref k) [])))) d (HO.frz ob (HO.dK (kM due)))) d=some (.frz ob (.dK (kM due))):=upd_same;generalize upd (upd (upd H2 d (HO.dK (Cf [] (Eb due)))) p (HO.ins RC dx (Aq "numbered_marks" (V.ref d) (Aq "own_kind" (V.ref k) [])))) d (HO.frz ob (HO.dK (kM due)))=H3 at s3 hp3 hd3 ⊢;clear hla hta n1 q1 s2 ak hd hk1 KA1 aj s1
  have hIn:∀ ps:List (Str × Str),DQ due ps->∀ q ∈ ps,(A7 (kM due) (Sum.inr q.1:Key)).isSome=true/\(A7 (kM due) (Sum.inr q.2:Key)).isSome=true/\q.1 ≠ q.2:=fun ps hps q hq=>by
   obtain ⟨a1,a2,a3⟩:=hps.2 q hq;exact ⟨by rw [Ks nd a1]; rfl,by rw [Ks nd a2]; rfl,a3⟩
  refine ⟨_,rfl,_,rfl,p,RC,dx,_,_,rfl,hp3,RT.cl,RT.nM,P2 k d,l1,d,kM due,ns,rfl,PL1.sameN s3 iP,.inr ⟨ob,hd3⟩,PN.1,hIn ns PN,fun ln H4 s4 hln0 hln=>?_⟩;have hp4:=s4 _ _ hp3;have nln:ln ≠ p:=Ne.symm (AI hp3 hln0);refine ⟨_,rfl,p,RC,dx,_,rfl,hp4,RT.cl,RT.nN,Nat.lt_of_le_of_lt (A0 _ _ _) (by show 2 < 1000; decide),?_⟩;have iP4:Hh p H4:=⟨_,_,_,hp4⟩;have sN4:SameN p H4 (upd H4 p (HO.ins RC dx (Aq "needs" (V.ref ln) (rf2 k d)))):=SameN.upd (fun _ _ e _=>e);have s5:SameN p H (upd H4 p (HO.ins RC dx (Aq "needs" (V.ref ln) (rf2 k d)))):=SameN.upd (s3.then s4);have hp5:(upd H4 p (HO.ins RC dx (Aq "needs" (V.ref ln) (rf2 k d)))) p=some (.ins RC dx (rf3 k d ln)):=upd_same;have hd5:(upd H4 p (HO.ins RC dx (Aq "needs" (V.ref ln) (rf2 k d)))) d=some (.frz ob (.dK (kM due))):=by rw [AF (Ne.symm npd)]; exact s4 _ _ hd3
  have cu:=hln.sameN sN4 iP4;generalize upd H4 p (HO.ins RC dx (Aq "needs" (V.ref ln) (rf2 k d)))=H5 at sN4 s5 hp5 hd5 cu ⊢;clear sN4 iP4 hln hp4 hd3 hp3 s4 s3;refine ⟨_,rfl,_,rfl,p,RC,dx,_,_,rfl,hp5,RT.cl,RT.nM,P3 k d ln,l2,d,kM due,bs,rfl,PL2.sameN s5 iP,.inr ⟨ob,hd5⟩,PB.1,hIn bs PB,fun lb H6 s6 hlb0 hlb=>?_⟩;have hp6:=s6 _ _ hp5;refine ⟨_,rfl,p,RC,dx,_,rfl,hp6,RT.cl,RT.nB,Nat.lt_of_le_of_lt (Nat.le_trans (A0 _ _ _) (Nat.succ_le_succ (A0 _ _ _))) (by show 3 < 1000; decide),?_⟩;have iP6:Hh p H6:=⟨_,_,_,hp6⟩;have sN6:SameN p H6 (upd H6 p (HO.ins RC dx (Aq "bars" (V.ref lb) (rf3 k d ln)))):=SameN.upd (fun _ _ e _=>e);have s7:SameN p H (upd H6 p (HO.ins RC dx (Aq "bars" (V.ref lb) (rf3 k d ln)))):=SameN.upd (s5.then s6);have hp7:(upd H6 p (HO.ins RC dx (Aq "bars" (V.ref lb) (rf3 k d ln)))) p=some (.ins RC dx (rf4 k d ln lb)):=upd_same;have hd7:(upd H6 p (HO.ins RC dx (Aq "bars" (V.ref lb) (rf3 k d ln)))) d=some (.frz ob (.dK (kM due))):=by rw [AF (Ne.symm npd)]; exact s6 _ _ hd5
  have cv:=(cu.same s6).sameN sN6 iP6;have cw:=hlb.sameN sN6 iP6;generalize upd H6 p (HO.ins RC dx (Aq "bars" (V.ref lb) (rf3 k d ln)))=H7 at sN6 s7 hp7 hd7 cv cw ⊢;clear sN6 iP6 cu hlb hp6 hd5 hp5 s6 s5;have R4:=OJ k d ln lb;refine ⟨_,rfl,p,RC,dx,_,_,rfl,hp7,RT.cl,RT.nM,R4.om,d,rfl,.inl ⟨_,.inr ⟨ob,hd7⟩⟩,d,kM due,rfl,rfl,.inr ⟨ob,hd7⟩,fun vw hvw=>?_⟩;have sv:=AC (Same.refl _) hvw (o:=LH d vw);refine ⟨vw,d,kM due,rfl,upd_same,.inr ⟨ob,sv _ _ hd7⟩,fun lv hlv=>?_⟩;have sl:=AC sv hlv (o:=HO.lst ((kM due).map (·.2)))
  have hkv:(kM due).map (·.2)=AT (AG due):=by
   rw [P1 nd];unfold Eb AT;rw [map_map];rfl
  have hm8:(AG due).length <= 8:=Nat.le_trans (BO due) h8;refine ⟨lv,AG due,rfl,SqL.of (by rw [upd_same,hkv]),hm8,fun lu H8 s8 hlu=>?_⟩;have s78:=sl.trans s8;have hul:(uns (AG due)).length <= 256:=by rw [Ea]; exact OF hm8
  have B8:RuB RC H8 p k due ns bs:=RuB.same s78 ⟨dx,_,d,ln,lb,ob,hp7,R4,hd7,cv,cw⟩;refine ⟨_,rfl,lu,rfl,⟨_,SqL.of hlu⟩,Ai (K:=K) (a:=lu) (xs:=AT (uns (AG due))) (fun i ys H9=>ys=AT (((uns (AG due)).take i).filter fun n=>(At due ns bs n).isNone)/\Same H8 H9) ⟨rfl,Same.refl _⟩ (fun i ys H9 _ ⟨_,e⟩=>SqL.of (e _ _ hlu)) (fun i ys H9 ⟨e,_⟩=>?_) ?_ ?_⟩
  ·have:=length_filter_le (fun n=>(At due ns bs n).isNone) ((uns (AG due)).take i);rw [length_take] at this;rw [e,Af];omega
  ·rintro i v ys H9 hi ⟨rfl,s9⟩;unfold AT at hi;rw [getElem?_map] at hi;obtain ⟨u,hu,rfl⟩:=Option.map_eq_some_iff.mp hi;have hp9:=s9 _ _ (s78 _ _ hp7);have ht:((uns (AG due)).take (i + 1)).filter (fun n=>(At due ns bs n).isNone)=((uns (AG due)).take i).filter (fun n=>(At due ns bs n).isNone)++[u].filter (fun n=>(At due ns bs n).isNone):=by rw [take_add_one,hu,filter_append]; rfl
   refine ⟨_,rfl,p,dx,_,rfl,hp9,R4.no _ (by decide +kernel),_,rfl,p,k,due,ns,bs,u,rfl,B8.same s9,nd,PN,PB,fun v H10 s10 hv=>⟨_,rfl,?_⟩⟩;cases hf:At due ns bs u with
   | none =>
    rw [hf] at hv;have hv':v=.non:=hv;rw [decide_eq_true hv'];refine BY ⟨_,rfl,?_,s9.trans s10⟩;rw [ht,List.filter_cons_of_pos (by rw [hf]; rfl),filter_nil];unfold AT;rw [map_append];rfl
   | some t =>
    rw [hf] at hv;obtain ⟨q',rfl,_⟩:=hv;rw [decide_eq_false (show ¬ V.ref q'=V.non from fun z=>nomatch z)];refine As ⟨?_,s9.trans s10⟩;rw [ht,List.filter_cons_of_neg (by rw [hf]; simp),filter_nil,append_nil]
  ·rintro ys H9 ⟨rfl,s9⟩ ll hll;rw [Af,take_length];have s79:=s78.trans s9;have hp9:=s79 _ _ hp7;have npl:ll ≠ p:=Ne.symm (AI hp9 hll);have sl9:=AC (Same.refl _) hll (o:=HO.lst (AT (AK due ns bs)));refine ⟨_,rfl,p,RC,dx,_,rfl,by rw [AF (Ne.symm npl)]; exact hp9,RT.cl,RT.nL,Nat.lt_of_le_of_lt (Nat.le_trans (A0 _ _ _) (Nat.succ_le_succ (Nat.le_trans (A0 _ _ _) (Nat.succ_le_succ (A0 _ _ _))))) (by show 4 < 1000; decide),?_⟩;have sE:=s79.trans sl9;have iPE:Hh p (upd H9 ll (HO.lst (AT (AK due ns bs)))):=⟨_,_,_,sE _ _ hp7⟩;have sNE:SameN p (upd H9 ll (HO.lst (AT (AK due ns bs)))) (upd (upd H9 ll (HO.lst (AT (AK due ns bs)))) p (HO.ins RC dx (rf5 k d ln lb ll))):=SameN.upd (fun _ _ e _=>e);refine hG _ (SameN.upd (s7.then sE)) ⟨dx,_,d,ln,lb,ob,ll,upd_same,Qr k d ln lb ll,?_,(cv.same sE).sameN sNE iPE,(cw.same sE).sameN sNE iPE,P4 k d ln lb ll,?_⟩ fun l' ⟨dx',fs',e1,e2⟩=>?_
   ·rw [AF (Ne.symm npd)];exact sE _ _ hd7
   ·rw [AF npl,upd_same];rfl
   ·have e3:some (HO.ins RC dx (rf5 k d ln lb ll))=some (HO.ins RC dx' fs'):=upd_same.symm.trans e1;have e4:fs'=rf5 k d ln lb ll:=by cases e3; rfl
    rw [e4,P4] at e2;have e5:l'=ll:=by cases e2; rfl
    rw [e5];cases e6:H ll with
    | none=>rfl
    | some o =>
     have:=s79 _ _ (s7 ll o e6 npl);rw [hll] at this;cases this
end
def LU (due:LN) (ns bs:List (Str × Str)) (n:Nat):Option (List Str):=if n &&& AZ (AG due)=n then (At due ns bs n).map (fun t=>[t.1,t.2.1,t.2.2]) else some ["rest"]
def OL (H:Hp) (v:V):Option (List Str)->Prop
 | none=>v=.non
 | some ts=>∃ q,v=.ref q/\H q=some (.tup (ts.map V.str))
theorem Pd {x:V} {o:Option (List Str)} (h:OL H x o):decide (x=.non)=o.isNone:=by
 cases o with
 | none=>exact decide_eq_true h
 | some t =>
  obtain ⟨q,rfl,_⟩:=h;exact decide_eq_false fun z=>nomatch z
theorem LV {ns bs:List (Str × Str)} {n:Nat} (h:n ∈ AK due ns bs):n ∈ uns (AG due):=(mem_filter.mp h).1
theorem Pe {u:Nat} (h:u ∈ uns (AG due)):u &&& kn due=u:=FA fun k hk=>by
 obtain ⟨m,hm,hb⟩:=LQ h hk;unfold kn;rw [BQ];exact any_eq_true.mpr ⟨m,mem_map.mpr ⟨_,A9 hm,rfl⟩,hb⟩
theorem D9 {u:Nat} (h:u ∈ uns (AG due)):u &&& AZ (AG due)=u:=FA fun k hk=>by
 obtain ⟨m,hm,hb⟩:=LQ h hk;rw [BQ];exact any_eq_true.mpr ⟨m,hm,hb⟩
theorem EA {ms:List Addr} {i:Nat} {v:V} (h:TupsAt H ms (Cq due)) (e:(ms.map V.ref)[i]?=some v):∃ b n,v=.ref b/\(AG due)[i]?=some n/\H b=some (.tup [.str (Bc (AV due) n),.int (n:Int)]):=by
 rw [getElem?_map] at e;obtain ⟨b,hb,rfl⟩:=Option.map_eq_some_iff.mp e;obtain ⟨p,hp,ht⟩:=Bt h hb;unfold Cq at hp;rw [getElem?_map] at hp;obtain ⟨n,hn,rfl⟩:=Option.map_eq_some_iff.mp hp;exact ⟨b,n,rfl,hn,ht⟩
structure LTab (H:Hp) (t e m:Addr) (ms:List Addr) (due:LN):Prop where
 ht:H t=some (.dK (Mh due e m))
 hm:H m=some (.lst (ms.map V.ref))
 hms:TupsAt H ms (Cq due)
theorem LTab.same {t e m:Addr} {ms:List Addr} (s:Same H H') (h:LTab H t e m ms due):LTab H' t e m ms due:=⟨s _ _ h.ht,s _ _ h.hm,TupsAt.sameT (fun b xs e=>s _ _ e) h.hms⟩
theorem LTab.len {t e m:Addr} {ms:List Addr} (h:LTab H t e m ms due):(ms.map V.ref).length=(AG due).length:=by
 have h1:=h.hms.length;rw [HR] at h1;rw [length_map,h1]
def Bm (due:LN) (n:Nat) (l:List Nat):List Str:=(l.filter fun m=>decide (n &&& m ≠ 0)).map (Bc (AV due))
theorem Ef (nd:(due.map (·.1)).Nodup) {n:Nat} {x:Str} (h:x ∈ Ab due):inV (.str x) ((Bm due n (AG due)).map V.str)=Bj due n x:=by
 rw [IP];obtain ⟨m,hm,rfl⟩:=mem_map.mp h;unfold Bj;rw [Cr nd (A9 hm)];refine Bool.eq_iff_iff.mpr ?_;rw [any_eq_true,decide_eq_true_eq];unfold Bm;constructor
 ·rintro ⟨y,hy,e⟩;obtain ⟨m',hm',rfl⟩:=mem_map.mp hy;obtain ⟨h1,h2⟩:=mem_filter.mp hm';have ee:=eq_of_beq e;have:m'=m:=OD nd (A9 h1) (ee ▸ A9 hm);subst this;exact of_decide_eq_true h2
 ·intro hb;exact ⟨_,mem_map.mpr ⟨m,mem_filter.mpr ⟨hm,decide_eq_true hb⟩,rfl⟩,by simp⟩
theorem Gg {ns bs:List (Str × Str)} {n:Nat} (h:n &&& AZ (AG due)=n):LU due ns bs n=(At due ns bs n).map (fun t=>[t.1,t.2.1,t.2.2]):=by
 unfold LU;rw [if_pos h]
section
variable {RC:Addr}
def Kt:Sp:=fun vs H Q _=>∃ (t e m lw lf:Addr) (ms:List Addr) (due:LN) (ns bs:List (Str × Str)) (n:Nat),vs=[.ref t,.ref lw,.ref lf,.int (n:Int)]/\LTab H t e m ms due/\PrsL H lw ns/\PrsL H lf bs/\(due.map (·.1)).Nodup/\due.length <= 10/\DQ due ns/\DQ due bs/\∀ x H',Same H H'->OL H' x (LU due ns bs n)->Q x H'
abbrev NBr:List Str:=["_law_table", "_law_wants", "_law_fences", "_law_number", "_law_names", "_law_name", "_law_other"]
theorem scBr:AN NBr ["_law_table", "_law_wants", "_law_fences", "_law_number"] (defScope Dz):=fsc
theorem Pf (F:Fun K "_law_broken" "_law_broken" Dz f fd):Ae P w K mg base CX0 1 f fd ["_law_table", "_law_wants", "_law_fences", "_law_number"] Kt:=by
 refine F.ok scBr (fun vs H Q E h=>?_) (fun ad A outer s H vs Q E hr h=>?_)
 ·obtain ⟨t,e,m,lw,lf,ms,due,ns,bs,n,rfl,_⟩:=h;rfl
 ·obtain ⟨t,e,m,lw,lf,ms,due,ns,bs,n,rfl,LT,PLw,PF,nd,h10,PN,PB,q⟩:=h;have hu:=C7 hr
  refine ⟨_,AE (Au (AU CI (AW BJ (pv 3) (BK hu (pv 0) Aw (fun _ _=>rfl))) (pv 3) (AY _)) (AD (AS (BD (AA Aw AB)))) Aa)
   (AE (NH (i:=4) scBr.nd rfl (by kernel_rfl) ["_law_number"] [some 3] (by kernel_rfl) (by decide +kernel) (by kernel_rfl) (by kernel_rfl) rfl (Ad (BK hu (pv 0) Aw (fun _ _=>rfl))) (fun _ _ _ _ _ _=>Bg (AU CI (AW BJ (pv 2) (pv 1)) AH (AY _))) (fun _ _ _ _ _ _=>pv 0))
   (AE (BW PassesOwn.never rfl (Ad (pv 1)) (BI rfl (AR (AO (i:=5) scBr.nd rfl (Or.inl rfl)) (AR (AO (i:=6) scBr.nd rfl (Or.inl rfl)) A6)))
    (AD (Au (PW.pt (Cw (AU CC (pv 5) (pv 4) rfl) (B7 (AU Hr (pv 6) (pv 4) rfl)))) (AD (AS (BD (AA Aw (AA (pv 5) (AA (pv 6) AB)))))) Aa)))
   (AE (BW PassesOwn.never rfl (Ad (pv 2)) (BI rfl (AR (AO (i:=5) scBr.nd rfl (Or.inl rfl)) (AR (AO (i:=6) scBr.nd rfl (Or.inl rfl)) A6)))
    (AD (Au (PW.pt (Cw (AU CC (pv 5) (pv 4) rfl) (B7 (AU CC (pv 6) (pv 4) rfl)))) (AD (AS (BD (AA Aw (AA (pv 5) (AA (pv 6) AB)))))) Aa)))
   (AD (AS Hl))))),?_⟩
  refine ⟨_,rfl,_,rfl,t,_,rfl,.inl ⟨_,Sum.inr "bits", .inl LT.ht,rfl,(Gb _ _ _).symm⟩,_,_,rfl,rfl,_,rfl,rfl,_,rfl,?_⟩;rw [show decide (V.int (Builtin.bitAnd (n:Int) ((AZ (AG due):Nat):Int))=V.int (n:Int))=decide (n &&& AZ (AG due)=n) by rw [BE]; exact decide_eq_decide.mpr ⟨fun z=>by have:=V.int.inj z; omega,fun z=>by rw [z]⟩];by_cases hb:n &&& AZ (AG due)=n
  ·rw [decide_eq_true hb];refine As ?_;rw [Gg hb] at q;have aq:=LT.len;have hmk:=BO due;refine ⟨_,rfl,t,_,rfl,.inl ⟨_,Sum.inr "marks", .inl LT.ht,rfl,(E8 _ _ _).symm⟩,m,rfl,⟨_,SqL.of LT.hm⟩,Ai (K:=K) (a:=m) (xs:=ms.map V.ref) (fun i ys H1=>ys=(Bm due n ((AG due).take i)).map V.str/\H1=H) ⟨rfl,rfl⟩ (fun i ys H1 _ ⟨_,e⟩=>e ▸ SqL.of LT.hm) (fun i ys H1 ⟨e,_⟩=>?_) ?_ ?_⟩
   ·have:=length_filter_le (fun m=>decide (n &&& m ≠ 0)) ((AG due).take i);rw [length_take] at this;unfold Bm at e;rw [e,length_map,length_map];omega
   ·rintro i v ys H1 hi ⟨rfl,rfl⟩;obtain ⟨b,mk,rfl,hmk',ai⟩:=EA LT.hms hi;refine ⟨b,_,rfl,SqT.of ai,rfl,_,_,rfl,_,_,rfl,rfl,?_⟩;refine ⟨_,rfl,_,rfl,_,_,rfl,rfl,rfl,_,rfl,?_⟩;rw [Ed]
    have ht:Bm due n ((AG due).take (i + 1))=Bm due n ((AG due).take i)++(([mk].filter fun m=>decide (n &&& m ≠ 0)).map (Bc (AV due))):=by
     unfold Bm;rw [take_add_one,hmk',filter_append,map_append];rfl
    by_cases h0:n &&& mk=0
    ·rw [decide_eq_true h0];refine As ⟨?_,rfl⟩;rw [ht,List.filter_cons_of_neg (by simpa using h0),filter_nil,map_nil,append_nil]
    ·rw [decide_eq_false h0];refine BY ⟨_,rfl,?_,rfl⟩;rw [ht,List.filter_cons_of_pos (by simpa using h0),filter_nil,map_append];rfl
   rintro ys H1 ⟨rfl,rfl⟩ nl hnl;rw [aq,take_length];have s1:=AC (Same.refl _) hnl (o:=HO.lst ((Bm due n (AG due)).map V.str));have ba:=upd_same (H:=H1) (a:=nl) (o:=HO.lst ((Bm due n (AG due)).map V.str));generalize upd H1 nl (HO.lst ((Bm due n (AG due)).map V.str))=H2 at s1 ba ⊢;obtain ⟨as,hlw,has⟩:=PLw.same s1;obtain ⟨cs,hlf,ax⟩:=PF.same s1;have ar:as.length=ns.length:=by have:=has.length; unfold prV at this; rw [length_map] at this; exact this
   have af:cs.length=bs.length:=by have:=ax.length; unfold prV at this; rw [length_map] at this; exact this
   refine ⟨_,rfl,lw,rfl,⟨_,SqL.of hlw⟩,BM (K:=K) (a:=lw) (xs:=as.map V.ref) (fun i σ H3=>(∃ v5 v6:Option V,σ=[some (.ref t),some (.ref lw),some (.ref lf),some (.int (n:Int)),some (.ref nl),v5,v6])/\H3=H2/\(ns.take i).find? (Bk due n)=none) ⟨⟨none,none,rfl⟩,rfl,rfl⟩ (fun i σ H3 _ ⟨_,e,_⟩=>e ▸ SqL.of hlw) ?_ ?_⟩
   ·rintro i v σ H3 hi ⟨⟨v5,v6,rfl⟩,rfl,hf⟩;obtain ⟨b,pr,rfl,hpr,ai⟩:=Ee has hi;obtain ⟨m1,m2,_⟩:=PN.2 pr (mem_of_getElem? hpr);refine ⟨b,_,rfl,SqT.of ai,rfl,_,_,rfl,_,_,rfl,rfl,?_⟩;refine ⟨_,rfl,_,rfl,nl,_,rfl,.inl (SqL.of ba),rfl,CG _,_,rfl,?_⟩;have hnb:Bk due n pr=(Bj due n pr.1 && !Bj due n pr.2):=rfl;show if inV (.str pr.1) ((Bm due n (AG due)).map V.str)=true then _ else _
    rw [Ef nd m1];cases h1:Bj due n pr.1 with
    | false =>
     rw [h1] at hnb;exact As (As ⟨⟨_,_,rfl⟩,rfl,BR hf hpr hnb⟩)
    | true =>
     rw [h1] at hnb;refine BY ⟨_,rfl,_,rfl,nl,_,rfl,.inl (SqL.of ba),rfl,CG _,_,rfl,?_⟩;show if (!inV (.str pr.2) ((Bm due n (AG due)).map V.str))=true then _ else _
     rw [Ef nd m2];cases h2:Bj due n pr.2 with
     | true =>
      rw [h2] at hnb;exact As ⟨⟨_,_,rfl⟩,rfl,BR hf hpr hnb⟩
     | false =>
      rw [h2] at hnb;refine BY ⟨_,rfl,_,rfl,sl3,fun q' hq'=>?_⟩;refine q (.ref q') _ (AC s1 hq') ?_;unfold At;rw [Ec hf hpr hnb];exact ⟨q',rfl,upd_same⟩
   ·rintro σ H3 ⟨⟨v5,v6,rfl⟩,rfl,hf⟩;rw [length_map,ar,take_length] at hf;refine ⟨_,rfl,lf,rfl,⟨_,SqL.of hlf⟩,BM (K:=K) (a:=lf) (xs:=cs.map V.ref) (fun i σ H4=>(∃ v5 v6:Option V,σ=[some (.ref t),some (.ref lw),some (.ref lf),some (.int (n:Int)),some (.ref nl),v5,v6])/\H4=H3/\(bs.take i).find? (Ci due n)=none) ⟨⟨_,_,rfl⟩,rfl,rfl⟩ (fun i σ H4 _ ⟨_,e,_⟩=>e ▸ SqL.of hlf) ?_ ?_⟩
    ·rintro i v σ H4 hi ⟨⟨v5,v6,rfl⟩,rfl,hf2⟩;obtain ⟨b,pr,rfl,hpr,ai⟩:=Ee ax hi;obtain ⟨m1,m2,_⟩:=PB.2 pr (mem_of_getElem? hpr);refine ⟨b,_,rfl,SqT.of ai,rfl,_,_,rfl,_,_,rfl,rfl,?_⟩;refine ⟨_,rfl,_,rfl,nl,_,rfl,.inl (SqL.of ba),rfl,CG _,_,rfl,?_⟩;have hnb:Ci due n pr=(Bj due n pr.1 && Bj due n pr.2):=rfl;show if inV (.str pr.1) ((Bm due n (AG due)).map V.str)=true then _ else _
     rw [Ef nd m1];cases h1:Bj due n pr.1 with
     | false =>
      rw [h1] at hnb;exact As (As ⟨⟨_,_,rfl⟩,rfl,BR hf2 hpr hnb⟩)
     | true =>
      rw [h1] at hnb;refine BY ⟨_,rfl,_,rfl,nl,_,rfl,.inl (SqL.of ba),rfl,CG _,_,rfl,?_⟩;show if inV (.str pr.2) ((Bm due n (AG due)).map V.str)=true then _ else _
      rw [Ef nd m2];cases h2:Bj due n pr.2 with
      | false =>
       rw [h2] at hnb;exact As ⟨⟨_,_,rfl⟩,rfl,BR hf2 hpr hnb⟩
      | true =>
       rw [h2] at hnb;refine BY ⟨_,rfl,_,rfl,sl3,fun q' hq'=>?_⟩;refine q (.ref q') _ (AC s1 hq') ?_;unfold At;rw [hf,Ec hf2 hpr hnb];exact ⟨q',rfl,upd_same⟩
    ·rintro σ H4 ⟨⟨v5,v6,rfl⟩,rfl,hf2⟩;rw [length_map,af,take_length] at hf2;refine q .non _ s1 ?_;unfold At;rw [hf,hf2];rfl
  ·rw [decide_eq_false hb];refine BY ⟨sl1,fun q' hq'=>q (.ref q') _ (AC (Same.refl _) hq') ?_⟩;unfold LU;rw [if_neg hb];exact ⟨q',rfl,upd_same⟩
def IZ:Sp:=fun vs H Q _=>∃ (t e m lw lf:Addr) (ms:List Addr) (due:LN) (ns bs:List (Str × Str)),vs=[.ref t,.ref lw,.ref lf]/\LTab H t e m ms due/\PrsL H lw ns/\PrsL H lf bs/\(due.map (·.1)).Nodup/\due.length <= 8/\DQ due ns/\DQ due bs/\∀ l H',Same H H'->H l=none->H' l=some (.lst (AT (AK due ns bs)))->Q (.ref l) H'
abbrev NLB:List Str:=["_law_table", "_law_wants", "_law_fences", "_law_numbers", "_law_name", "_law_bit"]
theorem scLB:AN NLB ["_law_table", "_law_wants", "_law_fences"] (defScope Ez):=fsc
theorem OM (F:Fun K "_law_let_by" "_law_let_by" Ez f fd) (B:Bl mg) (GB:Fn P w K mg base "_law_broken" 1 ["_law_table", "_law_wants", "_law_fences", "_law_number"] Kt):Ae P w K mg base CX0 2 f fd ["_law_table", "_law_wants", "_law_fences"] IZ:=by
 obtain ⟨fB,dB,GB,mB,kB,bB⟩:=GB.ex;refine F.ok scLB (fun vs H Q E h=>?_) (fun ad A outer s H vs Q E hr h=>?_)
 ·obtain ⟨t,e,m,lw,lf,ms,due,ns,bs,rfl,_⟩:=h;rfl
 ·obtain ⟨t,e,m,lw,lf,ms,due,ns,bs,rfl,LT,PLw,PF,nd,h8,PN,PB,q⟩:=h;have hu:=C7 hr
  refine ⟨_,AE (Ac (i:=3) scLB.nd rfl (Or.inl rfl) (BX (AA AH AB)))
   (AE (BW PassesOwn.never rfl (Ad (BK hu (pv 0) Aw (fun _ _=>rfl))) (BI rfl (AR (AO (i:=4) scLB.nd rfl (Or.inl rfl)) (AR (AO (i:=5) scLB.nd rfl (Or.inr rfl)) A6)))
    (AD (Ac (i:=3) scLB.nd rfl (Or.inl rfl) (AW NE (pv 3) (A3 ["_law_bit"] [some 5] (by kernel_rfl) (by decide +kernel) (by kernel_rfl) rfl (Ad (pv 3)) (fun _ _ _ _ _ _=>BL) (fun _ _ _ _ _ _=>AW Io (pv 0) (pv 1)))))))
   (AD (AS (A3 ["_law_table", "_law_wants", "_law_fences"] [some 0,some 1,some 2] (by kernel_rfl) (by decide +kernel) (by kernel_rfl) rfl (Ad (AX (IB (K:=K) rfl) rfl B.sorted E1 (AA (pv 3) AB)))
    (fun _ _ _ _ _ _=>Bg (C9 (Ej (AM GB hr rfl mB kB bB .nil AQ (AA (pv 1) (AA (pv 2) (AA (pv 3) (AA (pv 0) AB)))))))) (fun _ _ _ _ _ _=>pv 0))))),?_⟩
  refine ⟨sl1,fun nl hnl=>?_⟩;have s1:=AC (Same.refl _) hnl (o:=HO.lst [V.int 0]);have ba:=upd_same (H:=H) (a:=nl) (o:=HO.lst [V.int 0]);generalize upd H nl (HO.lst [V.int 0])=H1 at s1 ba ⊢;have LT1:=LT.same s1;have aq:=LT.len;have hmk:=BO due
  have htk:∀ i,(uns ((AG due).take i)).length <= 256:=fun i=>by
   rw [Ea];exact OF (by rw [length_take]; omega)
  refine ⟨_,rfl,t,_,rfl,.inl ⟨_,Sum.inr "marks", .inl LT1.ht,rfl,(E8 _ _ _).symm⟩,m,rfl,⟨_,SqL.of LT1.hm⟩,BM (K:=K) (a:=m) (xs:=ms.map V.ref) (fun i σ H2=>(∃ (nl:Addr) (v4 v5:Option V),σ=[some (.ref t),some (.ref lw),some (.ref lf),some (.ref nl),v4,v5]/\H2 nl=some (.lst (AT (uns ((AG due).take i)))))/\Same H1 H2) ⟨⟨nl,none,none,rfl,ba⟩,Same.refl _⟩ (fun i σ H2 _ ⟨_,s2⟩=>SqL.of (s2 _ _ LT1.hm)) ?_ ?_⟩
  ·rintro i v σ H2 hi ⟨⟨nl,v4,v5,rfl,bq⟩,s2⟩;obtain ⟨bb,n,rfl,hn,ai⟩:=EA (LT1.same s2).hms hi;refine ⟨bb,_,rfl,SqT.of ai,rfl,_,_,rfl,_,_,rfl,rfl,?_⟩;have ay:=htk i;refine ⟨_,rfl,_,rfl,nl,rfl,⟨_,SqL.of bq⟩,Ai (K:=K) (a:=nl) (xs:=AT (uns ((AG due).take i))) (fun j ys H4=>ys=AT (((uns ((AG due).take i)).take j).map (· ||| n))/\H4=H2) ⟨rfl,rfl⟩ (fun j ys H4 _ ⟨_,e⟩=>e ▸ SqL.of bq) (fun j ys H4 ⟨e,_⟩=>by rw [e,Af,length_map,length_take]; omega) ?_ ?_⟩
   ·rintro j v ys H4 hj ⟨rfl,rfl⟩;unfold AT at hj;rw [getElem?_map] at hj;obtain ⟨z,hz,rfl⟩:=Option.map_eq_some_iff.mp hj;refine ⟨_,rfl,_,rfl,_,_,rfl,rfl,?_,rfl⟩;rw [take_add_one,hz];unfold AT;rw [map_append,map_append];show _++[V.int (Builtin.bitOr _ _)]=_++[V.int _];rw [Cg]
   ·rintro ys H4 ⟨rfl,rfl⟩ c hc;have sc:=AC (Same.refl _) hc (o:=HO.lst (AT (((uns ((AG due).take i)).take (AT (uns ((AG due).take i))).length).map (· ||| n))));have hcn:=upd_same (H:=H4) (a:=c) (o:=HO.lst (AT (((uns ((AG due).take i)).take (AT (uns ((AG due).take i))).length).map (· ||| n))));rw [Af,take_length] at sc hcn ⊢;refine ⟨nl,c,_,_,rfl,rfl,sc _ _ bq,hcn,Nat.le_of_lt (Ag (by rw [Af,Af,length_map]; omega)),fun q hq=>?_⟩;refine ⟨⟨q,_,_,rfl,?_⟩,s2.trans (AC sc hq)⟩;rw [upd_same,take_add_one,hn];show _=some (HO.lst (AT (uns ((AG due).take i++[n]))));rw [Jk];unfold AT;rw [map_append]
  ·rintro σ H2 ⟨⟨nl,v4,v5,rfl,bq⟩,s2⟩;rw [aq,take_length] at bq;have hul:=htk (AG due).length;rw [take_length] at hul
   have hle:((uns (AG due)).map fun n:Nat=>(n:Int)).Pairwise (· <= ·):=by
    rw [pairwise_map];exact (Jn (fun m h=>(Bu h).2) (E9 due)).imp fun h=>by omega
   refine ⟨_,rfl,nl,(uns (AG due)).map fun n:Nat=>(n:Int),rfl,SqL.of (by rw [← C5]; exact bq),hle,by rw [length_map]; omega,fun ls hls=>?_⟩;rw [← C5];have s3:=AC (s1.trans s2) hls (o:=HO.lst (AT (uns (AG due))));have cx:=upd_same (H:=H2) (a:=ls) (o:=HO.lst (AT (uns (AG due))));generalize upd H2 ls (HO.lst (AT (uns (AG due))))=H3 at s3 cx ⊢;refine ⟨ls,rfl,⟨_,SqL.of cx⟩,Ai (K:=K) (a:=ls) (xs:=AT (uns (AG due))) (fun i ys H4=>ys=AT (((uns (AG due)).take i).filter fun n=>(At due ns bs n).isNone)/\Same H3 H4) ⟨rfl,Same.refl _⟩ (fun i ys H4 _ ⟨_,e⟩=>SqL.of (e _ _ cx)) (fun i ys H4 ⟨e,_⟩=>?_) ?_ ?_⟩
   ·have:=length_filter_le (fun n=>(At due ns bs n).isNone) ((uns (AG due)).take i);rw [length_take] at this;rw [e,Af];omega
   ·rintro i v ys H4 hi ⟨rfl,s4⟩;unfold AT at hi;rw [getElem?_map] at hi;obtain ⟨u,hu',rfl⟩:=Option.map_eq_some_iff.mp hi;have s04:=s3.trans s4;have ht:((uns (AG due)).take (i + 1)).filter (fun n=>(At due ns bs n).isNone)=((uns (AG due)).take i).filter (fun n=>(At due ns bs n).isNone)++[u].filter (fun n=>(At due ns bs n).isNone):=by rw [take_add_one,hu',filter_append]; rfl
    refine ⟨_,rfl,_,rfl,_,rfl,_,rfl,t,e,m,lw,lf,ms,due,ns,bs,u,rfl,LT.same s04,PLw.same s04,PF.same s04,nd,by omega,PN,PB,fun x H5 s5 hx=>⟨_,rfl,?_⟩⟩;rw [Pd hx,Gg (D9 (mem_of_getElem? hu')),Option.isNone_map];cases hf:(At due ns bs u).isNone with
    | true =>
     refine BY ⟨_,rfl,?_,s4.trans s5⟩;rw [ht,List.filter_cons_of_pos (p:=fun n=>(At due ns bs n).isNone) hf,filter_nil];unfold AT;rw [map_append];rfl
    | false =>
     refine As ⟨?_,s4.trans s5⟩;rw [ht,List.filter_cons_of_neg (by rw [hf]; simp),filter_nil,append_nil]
   ·rintro ys H4 ⟨rfl,s4⟩ p hp;rw [Af,take_length];exact q p _ (s3.trans (AC s4 hp)) (none_of (s3.trans s4) hp) upd_same
end
def gV3 (vs zs:List V):List V:=match vs,zs with | [a,b],[c]=>[a,b,c] | _,_=>[]
def gU3 (us ws:List Value):List Value:=match us,ws with | [a,b],[c]=>[a,b,c] | _,_=>[]
structure ON (P:Program) (w:World) (K:FG) (mg:SV) (base:Heap) (C:Addr):Prop where
 T:E7 K C
 cls:mg "Kind" = some (.ref C)
 make:∃ f fd,Mk K C f/\Ae P w K mg base CX0 6 f fd ["self", "rows", "rest"] (Np C) /\
  (∃ g,Fk K fd ["self", "rows", "rest"] ["rest"] g gV3)/\∃ ds,Binds K fd ["self", "rows", "rest"] ds/\Vals [.str "bar"] ds
def gV4 (vs zs:List V):List V:=match vs,zs with | [a,b],[c,d]=>[a,b,c,d] | _,_=>[]
def gU4 (us ws:List Value):List Value:=match us,ws with | [a,b],[c,d]=>[a,b,c,d] | _,_=>[]
structure OO (P:Program) (w:World) (K:FG) (mg:SV) (base:Heap) (C RC:Addr):Prop where
 RT:IY K RC
 cls:mg "Rule" = some (.ref RC)
 make:∃ f fd,Mk K RC f/\Ae P w K mg base CX0 4 f fd ["self", "kind", "needs", "bars"] (LR C RC)/\∃ g,Fk K fd ["self", "kind", "needs", "bars"] ["needs", "bars"] g gV4
section
variable {RC:Addr}
def KeepL (H H':Hp):Prop:=∀ b o,H b=some o->(∀ xs,o ≠ .lst xs)->H' b=some o
theorem KindAt.keepL {p:Addr} {r:Str} (s:KeepL H H') (h:KindAt C H p due r):KindAt C H' p due r:=by
 obtain ⟨dx,d1,o1,d2,o2,a,b,c⟩:=h.ex;exact ⟨⟨dx,d1,o1,d2,o2,s _ _ a (fun _ z=>nomatch z),s _ _ b (fun _ z=>nomatch z),s _ _ c (fun _ z=>nomatch z)⟩⟩
theorem KeepL.sameX {d:Addr} {xs:List V} (hd:H d=some (.lst xs)) (s:SameX d H H'):KeepL H H':=fun b o e h=>s.old b o e fun z=>by subst z; rw [hd] at e; cases e; exact h _ rfl
def DueL (H:Hp) (u:Addr) (due:LN):Prop:=∃ bs:List Addr,H u=some (.lst (bs.map V.ref))/\TupsAt H bs (DN due)
theorem DueL.sameX {d u:Addr} {xs:List V} (hd:H d=some (.lst xs)) (hu:u ≠ d) (s:SameX d H H') (h:DueL H u due):DueL H' u due:=by
 obtain ⟨bs,h1,h2⟩:=h;exact ⟨bs,s.old _ _ h1 hu,TupsAt.sameT (fun b xs e=>KeepL.sameX hd s _ _ e (fun _ z=>nomatch z)) h2⟩
def St3 (d lw lf:Addr) (H H':Hp):Prop:=∀ b o,H b=some o->b ≠ d->b ≠ lw->b ≠ lf->H' b=some o
theorem Hi {i:Nat} {x:Str} (h:(Ab due)[i]?=some x):x ∈ Ab due:=mem_of_getElem? h
theorem EB {α β:Type} {F:α->β->Prop}:∀ {xs xs':List α} {ys ys':List β},Paired F xs ys->Paired F xs' ys'->Paired F (xs++xs') (ys++ys')
 | _,_,_,_,.nil,h=>h
 | _,_,_,_,.cons a r,h=>.cons a (EB r h)
theorem OP {l:List Str} (h:l.Nodup) {i j:Nat} {x y:Str} (hi:l[i]?=some x) (hj:l[j]?=some y) (hij:i ≠ j):x ≠ y:=fun z=>by
 subst z;obtain ⟨h1,g1⟩:=List.getElem?_eq_some_iff.mp hi;obtain ⟨h2,g2⟩:=List.getElem?_eq_some_iff.mp hj;rcases Nat.lt_or_gt_of_ne hij with q | q
 ·exact List.pairwise_iff_getElem.mp h i j h1 h2 q (by rw [g1,g2])
 ·exact List.pairwise_iff_getElem.mp h j i h2 h1 q (by rw [g1,g2])
theorem Qu {i j L:Nat} (h1:i < L) (h2:j < L - 1):(i + 1 + j) % L ≠ i:=by
 by_cases h:i + 1 + j < L
 ·rw [Nat.mod_eq_of_lt h];omega
 ·rw [Nat.mod_eq_sub_mod (by omega),Nat.mod_eq_of_lt (by omega)];omega
theorem PrsL.snoc {l b:Addr} {ps:List (Str × Str)} {as:List Addr} {x y:Str} (h:TupsAt H as (prV ps)) (hb:H b=some (.tup [.str x,.str y])) (hl:∀ c xs,H c=some (.tup xs)->c ≠ l):PrsL (upd H l (.lst ((as.map V.ref)++[V.ref b]))) l (ps++[(x,y)]):=by
 refine ⟨as++[b],by rw [upd_same,map_append]; rfl,?_⟩;unfold prV;rw [map_append];refine EB (TupsAt.sameT (fun c xs e=>by rw [AF (hl c xs e)]; exact e) h) (.cons ?_ .nil);show upd H l _ b=some (.tup [.str x,.str y]);rw [AF (hl b _ hb)];exact hb
def Qw (C RC:Addr):Sp:=fun vs H Q _=>∃ (d k t e m:Addr) (a b:Int) (ms:List Addr) (due:LN) (r:Str),vs=[.ref d,.ref k,.ref t]/\H d=some (.lst [.int a,.int b])/\KindAt C H k due r/\LTab H t e m ms due/\m ≠ d/\due.length <= 8/\(due.map (·.1)).Nodup /\
 ∀ (q p lw lf:Addr) (ns bs:List (Str × Str)) H',SameX d H H'->H lw=none->H lf=none->H' q=some (.tup [.ref p,.ref lw,.ref lf])->RuAt RC H' p k due ns bs->PrsL H' lw ns->PrsL H' lf bs->DQ due ns->DQ due bs->(∀ ll,Qs RC H' p ll->H ll=none)->Q (.ref q) H'
abbrev NRW:List Str:=["_law_dice", "_law_kind", "_law_table", "_law_names", "_law_wants", "_law_fences", "_law_turn", "_law_at", "_law_pair"]
theorem scRW:AN NRW ["_law_dice", "_law_kind", "_law_table"] (defScope C3):=fsc
theorem Rt (F:Fun K "_law_rule_with" "_law_rule_with" C3 f fd) (B:Bl mg) (RO:OO P w K mg base C RC) (GR:Fn P w K mg base "_law_roll" 2 ["_law_dice", "_law_many"] D4):Ae P w K mg base CX0 6 f fd ["_law_dice", "_law_kind", "_law_table"] (Qw C RC):=by
 obtain ⟨fR,dR,GR,mR,kR,bR⟩:=GR.ex;obtain ⟨fI,dI,MI,GI,gI,kbI⟩:=RO.make;have mC:=RO.cls;refine F.ok scRW (fun vs H Q E h=>?_) (fun ad A outer s H vs Q E hr h=>?_)
 ·obtain ⟨d,k,t,e,m,a,b,ms,due,r,rfl,_⟩:=h;rfl
 ·obtain ⟨d,k,t,e,m,a,b,ms,due,r,rfl,hd,KA,LT,hmd,h8,ndn,q⟩:=h;have hu:=C7 hr;have hr2:Room 2 _:=hr.mono (by decide);have nd:=scRW.nd
  refine ⟨_,AE (O1 (i:=3) (j:=4) (k:=5) rfl nd rfl rfl rfl rfl rfl rfl (AA (EL [] [] (by kernel_rfl) (by decide +kernel) (by kernel_rfl) (by kernel_rfl) rfl (Ad (BK hu (pv 2) Aw (fun _ _=>rfl))) (fun _ _ _ _ _ _=>BL) (fun _ _ _ _ _ _=>pv 0)) (AA (BX AB) (AA (BX AB) AB))) (by kernel_rfl))
   (AE (BW PassesOwn.never rfl (CB rfl B.range (AA (AM GR hr2 rfl mR kR bR .nil AQ (AA (pv 0) (AA AH AB))) AB)) (AO (i:=6) nd rfl (Or.inl rfl))
    (AD (Au (AU G2 (AX (Av K rfl) rfl B.len PySem.boot_len (AA (pv 3) AB)) AH (AY _))
     (AE (Ac (i:=7) nd rfl (Or.inl rfl) (AM GR hr2 rfl mR kR bR .nil AQ (AA (pv 0) (AA (AX (Av K rfl) rfl B.len PySem.boot_len (AA (pv 3) AB)) AB))))
     (AE (Ac (i:=8) nd rfl (Or.inl rfl) (BD (AA (BZ (A4 K rfl) (pv 3) (pv 7) (fun _ _=>rfl)) (AA (BZ (A4 K rfl) (pv 3) (AW DA (AW Cb (AW Cb (pv 7) AH) (AM GR hr2 rfl mR kR bR .nil AQ (AA (pv 0) (AA (AW Hn (AX (Av K rfl) rfl B.len PySem.boot_len (AA (pv 3) AB)) AH) AB)))) (AX (Av K rfl) rfl B.len PySem.boot_len (AA (pv 3) AB))) (fun _ _=>rfl)) AB))))
     (AD (Au (AU Pr (AM GR hr2 rfl mR kR bR .nil AQ (AA (pv 0) (AA AH AB))) AH (AY _)) (AD (ED (Iz PySem.F.plainAttrs_list PySem.F.slot_list_append PySem.F.type_list_append DS (pv 4) (AA (pv 8) AB)))) (AD (ED (Iz PySem.F.plainAttrs_list PySem.F.slot_list_append PySem.F.type_list_append DS (pv 5) (AA (pv 8) AB))))))))
     Aa)))
   (AD (AS (BD (AA (JF MI GI hr rfl mC kbI (AA (pv 1) AB) (DR (pv 4) (DR (pv 5) Fj))) (AA (pv 4) (AA (pv 5) AB))))))),?_⟩
  have aq:=LT.len;have hmk:=BO due;refine ⟨_,rfl,t,_,rfl,.inl ⟨_,Sum.inr "marks", .inl LT.ht,rfl,(E8 _ _ _).symm⟩,m,rfl,⟨_,SqL.of LT.hm⟩,Ai (K:=K) (a:=m) (xs:=ms.map V.ref) (fun i ys H1=>ys=(((AG due).take i).map (Bc (AV due))).map V.str/\H1=H) ⟨rfl,rfl⟩ (fun i ys H1 _ ⟨_,e⟩=>e ▸ SqL.of LT.hm) (fun i ys H1 ⟨e,_⟩=>by rw [e,length_map,length_map,length_take]; omega) ?_ ?_⟩
  ·rintro i v ys H1 hi ⟨rfl,rfl⟩;obtain ⟨bb,n,rfl,hn,ai⟩:=EA LT.hms hi;refine ⟨bb,_,rfl,SqT.of ai,rfl,_,_,rfl,_,_,rfl,rfl,_,rfl,?_,rfl⟩;rw [take_add_one,hn,Option.toList_some,map_append,map_append];rfl
  rintro ys H1 ⟨rfl,rfl⟩ nl hnl;rw [aq,take_length];have s1:=AC (Same.refl _) hnl (o:=HO.lst ((Ab due).map V.str));have ba:=upd_same (H:=H1) (a:=nl) (o:=HO.lst ((Ab due).map V.str));show _/\_;have hmn:(((AG due).map (Bc (AV due))).map V.str)=(Ab due).map V.str:=rfl;rw [hmn];generalize upd H1 nl (HO.lst ((Ab due).map V.str))=H2 at s1 ba ⊢;refine ⟨Nat.zero_le _,fun lw hlw=>⟨Nat.zero_le _,fun lf hlf=>⟨_,_,_,rfl,?_⟩⟩⟩;have s2:=AC (Same.refl _) hlw (o:=HO.lst []);have s3:=AC (Same.refl _) hlf (o:=HO.lst []);have hw2:=upd_same (H:=H2) (a:=lw) (o:=HO.lst []);have nwf:lw ≠ lf:=AI hw2 hlf;have nlw:nl ≠ lw:=AI ba hlw;have nlf:nl ≠ lf:=AI (s2 _ _ ba) hlf;have ndw:d ≠ lw:=AI (s1 _ _ hd) hlw;have ndf:d ≠ lf:=AI (s2 _ _ (s1 _ _ hd)) hlf;have nld:nl ≠ d:=Ne.symm (AI hd hnl);have cb:H1 lw=none:=none_of s1 hlw;have cc:H1 lf=none:=none_of (s1.trans s2) hlf;have sA:=(s1.trans s2).trans s3;have hnl3:=s3 _ _ (s2 _ _ ba);have hlw3:=s3 _ _ hw2;have hlf3:=upd_same (H:=upd H2 lw (.lst [])) (a:=lf) (o:=HO.lst []);generalize upd (upd H2 lw (HO.lst [])) lf (HO.lst [])=H3 at sA hnl3 hlw3 hlf3 s3 ⊢;clear s1 s2 s3 hlw hlf hnl ba hw2 hmn;have hL10:((Ab due).map V.str).length <= 8:=by rw [length_map]; unfold Ab; rw [length_map]; omega
  refine ⟨_,rfl,d,a,b,6,rfl,sA _ _ hd,by decide,by decide,fun r0 a' b' hr0 hr6=>?_⟩;obtain ⟨mm,rfl⟩:=Int.eq_ofNat_of_zero_le hr0
  refine ⟨_,rfl,by omega,by omega,El (lo:=0) (n:=((mm:Nat):Int).toNat) (fun i σ H4=>∃ (ns bs:List (Str × Str)) (v6 v7 v8:Option V),σ=[some (.ref d),some (.ref k),some (.ref t),some (.ref nl),some (.ref lw),some (.ref lf),v6,v7,v8]/\ns.length <= i/\bs.length <= i/\i <= 6/\DQ due ns/\DQ due bs/\St3 d lw lf H3 H4/\(∃ x y:Int,H4 d=some (.lst [.int x,.int y]))/\PrsL H4 lw ns/\PrsL H4 lf bs)
   ⟨[],[],none,none,none,rfl,Nat.le_refl _,Nat.le_refl _,by decide,⟨by decide,fun q hq=>by cases hq⟩,⟨by decide,fun q hq=>by cases hq⟩,fun b o e h _ _=>by rw [AF h]; exact e,⟨_,_,upd_same⟩,⟨[],by rw [AF (Ne.symm ndw)]; exact hlw3,.nil⟩,⟨[],by rw [AF (Ne.symm ndf)]; exact hlf3,.nil⟩⟩ ?_ ?_⟩
  ·rintro i σ H4 hi ⟨ns,bs,v6,v7,v8,rfl,l1,l2,hi6,PN,PB,S4,⟨x,y,hd4⟩,PW4,PF4⟩;have hi6':i + 1 <= 6:=by omega
   have ce:=S4 _ _ hnl3 nld nlw nlf;refine ⟨_,rfl,nl,_,rfl,.inl (SqL.of ce),_,_,rfl,rfl,_,rfl,?_⟩;refine Bn (fun hc=>?_) (fun _=>⟨ns,bs,_,_,_,rfl,by omega,by omega,hi6',PN,PB,S4,⟨x,y,hd4⟩,PW4,PF4⟩);have hL:1 < (((Ab due).map V.str).length:Int):=of_decide_eq_true hc;refine ⟨_,rfl,_,rfl,nl,_,rfl,.inl (SqL.of ce),d,x,y,(((Ab due).map V.str).length:Int),rfl,hd4,by omega,by omega,fun r1 a1 b1 r10 r11=>?_⟩;obtain ⟨i1,rfl⟩:=Int.eq_ofNat_of_zero_le r10;have hi1:i1 < (Ab due).length:=by rw [length_map] at r11; omega
   have hx1:(Ab due)[i1]?=some (Ab due)[i1]:=List.getElem?_eq_getElem hi1;have hd5:=upd_same (H:=H4) (a:=d) (o:=HO.lst [V.int a1,V.int b1]);have hnl5:(upd H4 d (HO.lst [V.int a1,V.int b1])) nl=some (.lst ((Ab due).map V.str)):=by rw [AF nld]; exact ce
   refine ⟨_,rfl,_,rfl,nl,_,(i1:Int),.str (Ab due)[i1],rfl,rfl,SqL.of hnl5,B9 (by rw [getElem?_map,hx1]; rfl),_,rfl,_,rfl,_,_,rfl,rfl,_,rfl,_,rfl,nl,_,rfl,.inl (SqL.of hnl5),_,_,rfl,rfl,d,a1,b1,(((Ab due).map V.str).length:Int) - 1,rfl,hd5,by omega,by omega,fun r2 a2 b2 r20 r21=>?_⟩;obtain ⟨i2,rfl⟩:=Int.eq_ofNat_of_zero_le r20;rw [K1];have hnl6:(upd H4 d (HO.lst [V.int a2,V.int b2])) nl=some (.lst ((Ab due).map V.str)):=by rw [AF nld]; exact ce
   have hi2:i2 < (Ab due).length - 1:=by rw [length_map] at r21; omega
   have hm2:(i1 + 1 + i2) % (Ab due).length < (Ab due).length:=Nat.mod_lt _ (by omega);have hx2:(Ab due)[(i1 + 1 + i2) % (Ab due).length]?=some (Ab due)[(i1 + 1 + i2) % (Ab due).length]:=List.getElem?_eq_getElem hm2;have e2:((i1:Int) + 1 + (i2:Int)) % ((((Ab due).map V.str).length:Nat):Int)=(((i1 + 1 + i2) % (Ab due).length:Nat):Int):=by rw [length_map]; push_cast; rfl
   refine ⟨_,_,rfl,rfl,_,rfl,nl,_,rfl,.inl (SqL.of hnl6),_,_,rfl,rfl,by omega,nl,_,_,.str (Ab due)[(i1 + 1 + i2) % (Ab due).length],rfl,rfl,SqL.of hnl6,by rw [e2]; exact B9 (by rw [getElem?_map,hx2]; rfl),sl2,fun tp htp=>?_⟩;have av:=OP (HZ ndn) hx1 hx2 (Ne.symm (Qu hi1 hi2));have m1:=Hi hx1;have m2:=Hi hx2;generalize (Ab due)[i1]=x1 at av m1 htp ⊢;generalize (Ab due)[(i1 + 1 + i2) % (Ab due).length]=x2 at av m2 htp ⊢;have st:=AC (Same.refl _) htp (o:=HO.tup [V.str x1,V.str x2]);have cg:=upd_same (H:=upd H4 d (HO.lst [V.int a2,V.int b2])) (a:=tp) (o:=HO.tup [V.str x1,V.str x2]);have hd7:=st _ _ (upd_same (H:=H4) (a:=d) (o:=HO.lst [V.int a2,V.int b2]));have S7:∀ b o,H4 b=some o->b ≠ d->(upd (upd H4 d (HO.lst [V.int a2,V.int b2])) tp (HO.tup [V.str x1,V.str x2])) b=some o:=fun b o e h=>st _ _ (by rw [AF h]; exact e);generalize upd (upd H4 d (HO.lst [V.int a2,V.int b2])) tp (HO.tup [V.str x1,V.str x2])=H7 at st cg hd7 S7 ⊢;refine ⟨_,rfl,d,a2,b2,5,rfl,hd7,by decide,by decide,fun r3 a3 b3 r30 r31=>⟨_,_,rfl,rfl,_,rfl,?_⟩⟩;have S8:∀ b o,H4 b=some o->b ≠ d->(upd H7 d (HO.lst [V.int a3,V.int b3])) b=some o:=fun b o e h=>by rw [AF h]; exact S7 b o e h
   have ntd:tp ≠ d:=fun z=>by rw [z,hd7] at cg; cases cg
   have cy:(upd H7 d (HO.lst [V.int a3,V.int b3])) tp=some (.tup [.str x1,.str x2]):=by rw [AF ntd]; exact cg
   have hd8:=upd_same (H:=H7) (a:=d) (o:=HO.lst [V.int a3,V.int b3]);generalize upd H7 d (HO.lst [V.int a3,V.int b3])=H8 at S8 cy hd8 ⊢;have tupd:∀ b xs,H4 b=some (.tup xs)->H8 b=some (.tup xs):=fun b xs e=>S8 b _ e fun z=>by rw [z,hd4] at e; cases e
   obtain ⟨as,hlw4,has4⟩:=id PW4;obtain ⟨cs,hlf4,hcs4⟩:=id PF4;have bx:=S8 _ _ hlw4 (Ne.symm ndw);have bz:=S8 _ _ hlf4 (Ne.symm ndf);have ar:as.length=ns.length:=by have:=has4.length; unfold prV at this; rw [length_map] at this; exact this
   have af:cs.length=bs.length:=by have:=hcs4.length; unfold prV at this; rw [length_map] at this; exact this
   have has8:TupsAt H8 as (prV ns):=TupsAt.sameT tupd has4;have hcs8:TupsAt H8 cs (prV bs):=TupsAt.sameT tupd hcs4
   have pok:∀ ps:List (Str × Str),ps.length <= i->DQ due ps->DQ due (ps++[(x1,x2)]):=fun ps hl h=>⟨by rw [length_append]; show ps.length + 1 <= _; omega,fun q hq=>by
    rcases mem_append.mp hq with z | z
    ·exact h.2 q z
    ·rw [mem_singleton.mp z]
     exact ⟨m1,m2,av⟩⟩
   refine Bn (fun _=>?_) (fun _=>?_)
   ·refine ⟨_,rfl,.inl ⟨rfl,_,SqL.of bx⟩,_,rfl,lw,_,_,rfl,rfl,bx,Ag (by rw [length_map]; omega),?_⟩;refine ⟨ns++[(x1,x2)],bs,_,_,_,rfl,by rw [length_append]; show ns.length + 1 <= _; omega,by omega,hi6',pok ns l1 PN,PB,fun b o e h1 h2 h3=>by rw [AF h2]; exact S8 b o (S4 b o e h1 h2 h3) h1,⟨_,_,by rw [AF ndw]; exact hd8⟩,PrsL.snoc has8 cy (fun c xs e z=>by rw [z,bx] at e; cases e),⟨cs,by rw [AF (Ne.symm nwf)]; exact bz,TupsAt.sameT (fun c xs e=>by rw [AF (fun z=>by rw [z,bx] at e; cases e)]; exact e) hcs8⟩⟩
   ·refine ⟨_,rfl,.inl ⟨rfl,_,SqL.of bz⟩,_,rfl,lf,_,_,rfl,rfl,bz,Ag (by rw [length_map]; omega),?_⟩;refine ⟨ns,bs++[(x1,x2)],_,_,_,rfl,by omega,by rw [length_append]; show bs.length + 1 <= _; omega,hi6',PN,pok bs l2 PB,fun b o e h1 h2 h3=>by rw [AF h3]; exact S8 b o (S4 b o e h1 h2 h3) h1,⟨_,_,by rw [AF ndf]; exact hd8⟩,⟨as,by rw [AF nwf]; exact bx,TupsAt.sameT (fun c xs e=>by rw [AF (fun z=>by rw [z,bz] at e; cases e)]; exact e) has8⟩,PrsL.snoc hcs8 cy (fun c xs e z=>by rw [z,bz] at e; cases e)⟩
  ·rintro σ H4 ⟨ns,bs,v6,v7,v8,rfl,l1,l2,hi6,PN,PB,S4,⟨x,y,hd4⟩,PW4,PF4⟩;have old:∀ b o,H1 b=some o->b ≠ d->H4 b=some o:=fun b o e h=>S4 b o (sA _ _ e) h (AI e cb) (AI e cc);have kl:KeepL H1 H4:=fun b o e hn=>old b o e fun z=>by subst z; rw [hd] at e; cases e; exact hn _ rfl
   refine ⟨_,rfl,_,rfl,_,rfl,?_⟩;intro p dx hp aw av;have sN:=Cu (D:=RC) hp aw av;refine ⟨p,dx,k,lw,lf,due,r,ns,bs,rfl,upd_same,(KA.keepL kl).same sN,h8,ndn,PW4.same sN,PF4.same sN,PN,PB,fun H5 s5 RU hLL=>⟨rfl,?_⟩⟩;have sE:=Be sN hp s5;refine ⟨_,rfl,_,rfl,sl3,fun qq hqq=>?_⟩;have sQ:=AC (Same.refl _) hqq (o:=HO.tup [V.ref p,V.ref lw,V.ref lf])
   exact q qq p lw lf ns bs _ ⟨fun b o e h=>sQ _ _ (sE _ _ (old b o e h)),⟨x,y,sQ _ _ (sE _ _ hd4)⟩⟩ cb cc upd_same (RU.same sQ) ((PW4.same sE).same sQ) ((PF4.same sE).same sQ) PN PB fun ll ⟨dx1,fs1,e1,e2⟩=>by
    obtain ⟨dx2,fs2,_,_,_,_,_,h1,_⟩:=id RU;have h2:=sQ _ _ h1;rw [e1] at h2;have h3:H4 ll=none:=none_of sN (hLL ll ⟨dx2,fs2,h1,by cases h2; exact e2⟩);cases e6:H1 ll with
    | none=>rfl
    | some o =>
     by_cases z:ll=d
     ·rw [z,hd4] at h3;cases h3
     ·rw [old ll o e6 z] at h3;cases h3
end
end Mk
end
section
namespace Mk
open PySem MK
def pop (n:Nat):Nat:=(B5 n).length
def cnt (w n:Nat):Nat:=((List.range w).filter fun k=>n.testBit k).length
theorem Eg (w n:Nat):cnt (w + 1) n=n % 2 + cnt w (n / 2):=by
 unfold cnt;rw [List.range_succ_eq_map,filter_cons]
 have e:((List.map Nat.succ (List.range w)).filter fun k=>n.testBit k).length=((List.range w).filter fun k=>(n / 2).testBit k).length:=by
  rw [List.filter_map,length_map];refine congrArg List.length (List.filter_congr fun k _=>?_);show n.testBit (k + 1)=(n / 2).testBit k;rw [Nat.testBit_succ]
 cases h:n.testBit 0 with
 | true =>
  rw [if_pos rfl,length_cons,e]
  have:n % 2=1:=by
   rw [Nat.testBit_zero,decide_eq_true_eq] at h;exact h
  omega
 | false =>
  rw [if_neg Bool.false_ne_true,e]
  have:n % 2=0:=by
   rw [Nat.testBit_zero,decide_eq_false_iff_not] at h;omega
  omega
theorem OQ (m:Nat):(2 * m + 1) &&& (2 * m)=2 * m:=by
 refine Nat.eq_of_testBit_eq fun k=>?_;rw [Nat.testBit_and];cases k with
 | zero=>simp [Nat.testBit_zero]
 | succ k=>rw [Nat.testBit_succ,Nat.testBit_succ,show (2 * m + 1) / 2=m by omega,show 2 * m / 2=m by omega,Bool.and_self]
theorem Mp {m:Nat} (h:0 < m):(2 * m) &&& (2 * m - 1)=2 * (m &&& (m - 1)):=by
 refine Nat.eq_of_testBit_eq fun k=>?_;rw [Nat.testBit_and];cases k with
 | zero=>simp [Nat.testBit_zero]
 | succ k =>
  rw [Nat.testBit_succ,Nat.testBit_succ,Nat.testBit_succ,show 2 * m / 2=m by omega,show (2 * m - 1) / 2=m - 1 by omega,show 2 * (m &&& (m - 1)) / 2=m &&& (m - 1) by omega,Nat.testBit_and]
theorem Jo:∀ (w n:Nat),0 < n->n < 2 ^ w->cnt w n=cnt w (n &&& (n - 1)) + 1
 | 0,n,h0,h1=>by omega
 | w + 1,n,h0,h1=>by
  have h2:n / 2 < 2 ^ w:=by
   rw [Nat.pow_succ] at h1;omega
  rcases Nat.mod_two_eq_zero_or_one n with h | h
  ·have e:n=2 * (n / 2):=by omega
   have hm:0 < n / 2:=by omega
   rw [Eg,Eg,Jo w (n / 2) hm h2]
   have e2:n &&& (n - 1)=2 * (n / 2 &&& (n / 2 - 1)):=by
    have:=Mp hm;rw [← e] at this;exact this
   rw [e2,show 2 * (n / 2 &&& (n / 2 - 1)) % 2=0 by omega,show 2 * (n / 2 &&& (n / 2 - 1)) / 2=n / 2 &&& (n / 2 - 1) by omega];omega
  ·have e:n=2 * (n / 2) + 1:=by omega
   have e2:n &&& (n - 1)=2 * (n / 2):=by
    have:=OQ (n / 2);rw [← e,show 2 * (n / 2)=n - 1 by omega] at this;rw [this];omega
   rw [Eg,Eg,e2,show 2 * (n / 2) % 2=0 by omega,show 2 * (n / 2) / 2=n / 2 by omega];omega
theorem Jp {n:Nat} (h0:0 < n) (h1:n < 2 ^ 42):pop n=pop (n &&& (n - 1)) + 1:=Jo 42 n h0 h1
theorem Jq:pop 0=0:=by
 unfold pop B5;rw [List.length_eq_zero_iff,filter_eq_nil_iff];intro k _;rw [Nat.zero_testBit];exact Bool.false_ne_true
theorem Pg {n:Nat} (h0:0 < n) (h1:n < 2 ^ 42):0 < pop n:=by rw [Jp h0 h1]; omega
theorem Qx {a b:Nat} (h:a &&& b=a) (hb:b < 2 ^ 42) (av:a ≠ b):pop a < pop b:=by
 have key:∃ k,k < 42/\a.testBit k=false/\b.testBit k=true:=by
  refine Classical.byContradiction fun z=>av (Nat.eq_of_testBit_eq fun k=>?_);cases ha:a.testBit k with
  | true =>
   rw [← h,Nat.testBit_and,Bool.and_eq_true] at ha;exact ha.2.symm
  | false =>
   cases hbk:b.testBit k with
   | false=>rfl
   | true =>
    refine absurd ⟨k,?_,ha,hbk⟩ z;refine Classical.byContradiction fun hk=>?_;have:b < 2 ^ k:=Nat.lt_of_lt_of_le hb (Nat.pow_le_pow_right (by decide) (by omega));rw [Nat.testBit_lt_two_pow this] at hbk;cases hbk
 obtain ⟨k,hk,hka,hkb⟩:=key;unfold pop B5
 have:∀ l:List Nat,k ∈ l->(l.filter fun k=>a.testBit k).length < (l.filter fun k=>b.testBit k).length:=by
  intro l hl;induction l with
  | nil=>cases hl
  | cons j r ih =>
   have le:(r.filter fun k=>a.testBit k).length <= (r.filter fun k=>b.testBit k).length:=by
    clear ih hl;induction r with
    | nil=>exact Nat.le_refl _
    | cons i q ihq =>
     rw [filter_cons,filter_cons];cases ha:a.testBit i with
     | false =>
      rw [if_neg Bool.false_ne_true];split
      ·rw [length_cons]; omega
      ·exact ihq
     | true =>
      have hb:b.testBit i=true:=by
       rw [← h,Nat.testBit_and,Bool.and_eq_true] at ha;exact ha.2
      rw [if_pos rfl,if_pos hb,length_cons,length_cons];omega
   rw [filter_cons,filter_cons];rcases mem_cons.mp hl with e | e
   ·subst e;rw [hka,hkb,if_neg Bool.false_ne_true,if_pos rfl,length_cons];omega
   ·have:=ih e;cases ha:a.testBit j with
    | false =>
     rw [if_neg Bool.false_ne_true];split
     ·rw [length_cons]; omega
     ·exact this
    | true =>
     have hb:b.testBit j=true:=by
      rw [← h,Nat.testBit_and,Bool.and_eq_true] at ha;exact ha.2
     rw [if_pos rfl,if_pos hb,length_cons,length_cons];omega
 exact this _ (mem_range.mpr hk)
end Mk
end
section
namespace Mk
open PySem L2 MK
theorem Gh {n:Nat}:∀ {ms us:List Nat} {u:Nat},u ∈ us->(∀ k,u.testBit k=true->n.testBit k=true)->(∀ m ∈ ms,Al m=true)->(∀ k,n.testBit k=true->u.testBit k=true\/∃ m ∈ ms,m.testBit k=true)->n ∈ Ge us ms
 | [],us,u,hu,h1,_,h2=>by
  have e:u=n:=Nat.eq_of_testBit_eq fun k=>by
   cases e1:u.testBit k with
   | true=>rw [h1 k e1]
   | false =>
    cases e2:n.testBit k with
    | false=>rfl
    | true =>
     rcases h2 k e2 with z | ⟨m,hm,_⟩
     ·rw [e1] at z; cases z
     ·cases hm
  exact e ▸ hu
 | m :: r,us,u,hu,h1,hm,h2=>by
  obtain ⟨j,rfl⟩:=A1 (hm m (mem_cons_self ..));have hm':∀ m ∈ r,Al m=true:=fun m h=>hm m (mem_cons_of_mem _ h)
  have tb:∀ k,(2 ^ j).testBit k=true->k=j:=fun k h=>by
   rw [Nat.testBit_two_pow] at h;exact (of_decide_eq_true h).symm
  show n ∈ Ge (us++us.map (· ||| 2 ^ j)) r;cases e:n.testBit j with
  | true =>
   refine Gh (u:=u ||| 2 ^ j) (mem_append_right _ (mem_map.mpr ⟨u,hu,rfl⟩)) (fun k h=>?_) hm' (fun k h=>?_)
   ·rw [Nat.testBit_or,Bool.or_eq_true] at h;rcases h with z | z
    ·exact h1 k z
    ·rw [tb k z]; exact e
   ·rcases h2 k h with z | ⟨m',hm2,z⟩
    ·exact .inl (by rw [Nat.testBit_or,z]; rfl)
    ·rcases mem_cons.mp hm2 with y | y
     ·exact .inl (by rw [Nat.testBit_or,← y,z,Bool.or_true])
     ·exact .inr ⟨m',y,z⟩
  | false =>
   refine Gh (u:=u) (mem_append_left _ hu) h1 hm' (fun k h=>?_);rcases h2 k h with z | ⟨m',hm2,z⟩
   ·exact .inl z
   ·rcases mem_cons.mp hm2 with y | y
    ·rw [y] at z;rw [tb k z,e] at h;cases h
    ·exact .inr ⟨m',y,z⟩
theorem LX {ms:List Nat} {n:Nat} (hm:∀ m ∈ ms,Al m=true) (h:n &&& AZ ms=n):n ∈ uns ms:=by
 refine Gh (u:=0) (mem_singleton.mpr rfl) (fun k h=>by rw [Nat.zero_testBit] at h; cases h) hm (fun k hk=>.inr ?_);rw [← h,Nat.testBit_and,Bool.and_eq_true,BQ,any_eq_true] at hk;exact hk.2
theorem Ph (j n:Nat):2 ^ j &&& n ≠ 0 ↔ n.testBit j=true:=by
 constructor
 ·intro h;cases e:n.testBit j with
  | true=>rfl
  | false =>
   refine absurd (Nat.eq_of_testBit_eq fun k=>?_) h;rw [Nat.testBit_and,Nat.testBit_two_pow,Nat.zero_testBit];by_cases hk:j=k
   ·rw [← hk,e,Bool.and_false]
   ·rw [decide_eq_false hk,Bool.false_and]
 ·intro h z;have:=congrArg (fun n=>n.testBit j) z;simp only [Nat.testBit_and,Nat.testBit_two_pow_self,h,Nat.zero_testBit] at this;cases this
theorem Mq (nd:(due.map (·.1)).Nodup) {x:Str} (hx:x ∈ Ab due):∃ j,look due x=2 ^ j:=by
 obtain ⟨n,hn,rfl⟩:=mem_map.mp hx;rw [Cr nd (A9 hn)];exact A1 (Bu hn).2
theorem FZ (nd:(due.map (·.1)).Nodup) {x:Str} (hx:x ∈ Ab due) (a b:Nat):Bj due (a &&& b) x=(Bj due a x && Bj due b x):=by
 obtain ⟨j,hj⟩:=Mq nd hx
 have key:∀ n,Bj due n x=n.testBit j:=fun n=>by
  unfold Bj;rw [hj,Nat.and_comm,Bool.eq_iff_iff,decide_eq_true_eq];exact Ph j n
 rw [key,key,key,Nat.testBit_and]
theorem fault_none {ns bs:List (Str × Str)} {n:Nat}:(At due ns bs n).isNone=true ↔ (∀ p ∈ ns,Bk due n p=false)/\∀ p ∈ bs,Ci due n p=false:=by
 unfold At;cases h:ns.find? (Bk due n) with
 | some p =>
  refine ⟨fun z=>(by cases z),fun z=>?_⟩;have:=List.find?_some h;rw [z.1 p (List.mem_of_find?_eq_some h)] at this;cases this
 | none =>
  have h1:∀ p ∈ ns,Bk due n p=false:=fun p hp=>by
   have:=find?_eq_none.mp h p hp;simpa using this
  show ((bs.find? (Ci due n)).map _).isNone=true ↔ _;rw [Option.isNone_map,Option.isNone_iff_eq_none,find?_eq_none];exact ⟨fun z=>⟨h1,fun p hp=>by have:=z p hp; simpa using this⟩,fun z p hp=>by rw [z.2 p hp]; exact Bool.false_ne_true⟩
theorem OR {ns bs:List (Str × Str)} (nd:(due.map (·.1)).Nodup) (PN:DQ due ns) (PB:DQ due bs) {a b:Nat} (ha:a ∈ AK due ns bs) (hb:b ∈ AK due ns bs):a &&& b ∈ AK due ns bs:=by
 obtain ⟨a1,a2⟩:=mem_filter.mp ha;obtain ⟨b1,b2⟩:=mem_filter.mp hb;refine mem_filter.mpr ⟨LX (fun m hm=>(Bu hm).2) ?_,?_⟩
 ·have:=D9 a1;rw [Nat.and_assoc,Nat.and_comm b,← Nat.and_assoc,this]
 ·obtain ⟨an,ab⟩:=fault_none.mp a2;obtain ⟨bn,bb⟩:=fault_none.mp b2;refine fault_none.mpr ⟨fun p hp=>?_,fun p hp=>?_⟩
  ·obtain ⟨m1,m2,_⟩:=PN.2 p hp;have h1:=an p hp;have h2:=bn p hp;unfold Bk at h1 h2 ⊢;rw [FZ nd m1,FZ nd m2];revert h1 h2;cases Bj due a p.1 <;> cases Bj due a p.2 <;> cases Bj due b p.1 <;> cases Bj due b p.2 <;> simp
  ·obtain ⟨m1,m2,_⟩:=PB.2 p hp;have h1:=ab p hp;unfold Ci at h1 ⊢;rw [FZ nd m1,FZ nd m2];revert h1;cases Bj due a p.1 <;> cases Bj due a p.2 <;> simp
theorem FB (due:LN) (ns bs:List (Str × Str)):(AK due ns bs).Pairwise (· < ·):=(Jn (fun m hm=>(Bu hm).2) (E9 due)).filter _
theorem Dd (due:LN) (ns bs:List (Str × Str)):0 ∈ AK due ns bs:=by
 refine mem_filter.mpr ⟨LX (fun m hm=>(Bu hm).2) (Nat.zero_and _),fault_none.mpr ⟨fun p _=>?_,fun p _=>?_⟩⟩
 ·unfold Bk Bj;rw [Nat.zero_and,decide_eq_false (fun z=>z rfl)];rfl
 ·unfold Ci Bj;rw [Nat.zero_and,decide_eq_false (fun z=>z rfl)];rfl
def BC (gs:List Nat) (n:Nat):List Nat:=gs.filter fun o=>decide (o &&& n=n)
def Ku (gs:List Nat) (n:Nat):List Nat:=(BC gs n).filter fun o=>((BC gs n).filter fun q=>decide (q &&& o ≠ o)).isEmpty
def BA (gs:List Nat) (n:Nat):Option Nat:=gs.find? fun o=>decide (n - (n &&& o)=0)
theorem Jr (o n:Nat):n - (n &&& o)=0 ↔ o &&& n=n:=by
 have h1:=Nat.and_le_left (n:=n) (m:=o);rw [Nat.and_comm o n];omega
theorem Gi (gs:List Nat) (n:Nat):BA gs n=(BC gs n).head?:=by
 unfold BA BC;induction gs with
 | nil=>rfl
 | cons a r ih =>
  rw [find?_cons,filter_cons];by_cases h:a &&& n=n
  ·rw [decide_eq_true ((Jr a n).mpr h),decide_eq_true h,if_pos rfl];rfl
  ·rw [decide_eq_false (fun z=>h ((Jr a n).mp z)),decide_eq_false h,if_neg Bool.false_ne_true];exact ih
theorem OS {gs:List Nat} (hr:gs.Pairwise (· < ·)) (hc:∀ a ∈ gs,∀ b ∈ gs,a &&& b ∈ gs) (n:Nat):Ku gs n=(BA gs n).toList:=by
 rw [Gi];unfold Ku;have hr2:(BC gs n).Pairwise (· < ·):=hr.filter _
 have hc2:∀ a ∈ BC gs n,∀ b ∈ BC gs n,a &&& b ∈ BC gs n:=fun a ha b hb=>by
  obtain ⟨a1,a2⟩:=mem_filter.mp ha;obtain ⟨b1,b2⟩:=mem_filter.mp hb;refine mem_filter.mpr ⟨hc a a1 b b1,decide_eq_true ?_⟩;rw [Nat.and_assoc,of_decide_eq_true b2,of_decide_eq_true a2]
 generalize BC gs n=ov at hr2 hc2;cases ov with
 | nil=>rfl
 | cons f r =>
  have hf:∀ o ∈ f :: r,o &&& f=f:=fun o ho=>by
   have h1:=hc2 o ho f (mem_cons_self ..);have h2:=Nat.and_le_right (n:=o) (m:=f);rcases mem_cons.mp h1 with z | z
   ·exact z
   ·have:=(pairwise_cons.mp hr2).1 _ z;omega
  show ((f :: r).filter _)=[f];rw [List.filter_cons_of_pos]
  ·refine congrArg _ (filter_eq_nil_iff.mpr fun o ho=>?_);rw [List.isEmpty_iff,filter_eq_nil_iff];intro z;have h1:=z f (mem_cons_self ..);have h2:=(pairwise_cons.mp hr2).1 o ho;refine h1 (decide_eq_true fun e=>?_);have h3:=Nat.and_le_left (n:=f) (m:=o);omega
  ·rw [List.isEmpty_iff,filter_eq_nil_iff];intro o ho;rw [decide_eq_true_eq];exact fun z=>z (hf o ho)
theorem Gj (kf:Int->Int):∀ (l:List Int) (b:Int),(∀ x ∈ l,b < x)->l.Pairwise (· < ·)->(l.map fun n=>(kf n,n)).foldl stP (kf b,b)=(kf (l.foldl (Ar kf) b),l.foldl (Ar kf) b)
 | [],b,_,_=>rfl
 | x :: r,b,hb,hp=>by
  rw [map_cons,foldl_cons,foldl_cons];obtain ⟨h1,h2⟩:=pairwise_cons.mp hp;have hx:=hb x (mem_cons_self ..);by_cases h:kf x < kf b
  ·have e1:stP (kf b,b) (kf x,x)=(kf x,x):=by unfold stP; rw [if_pos (.inl h)]
   have e2:Ar kf b x=x:=by unfold Ar; rw [if_pos h]
   rw [e1,e2];exact Gj kf r x h1 h2
  ·have e1:stP (kf b,b) (kf x,x)=(kf b,b):=by
    unfold stP;rw [if_neg];unfold ltP;show ¬ (kf x < kf b\/kf x=kf b/\x < b);omega
   have e2:Ar kf b x=b:=by unfold Ar; rw [if_neg h]
   rw [e1,e2];exact Gj kf r b (fun y hy=>Int.lt_trans hx (h1 y hy)) h2
theorem LY (kf:Int->Int) {l:List Int} (hp:l.Pairwise (· < ·)) (av:l ≠ []):((l.map fun n=>(kf n,n)).foldl stP ((l.map fun n=>(kf n,n)).headD (0,0))).2=l.foldl (Ar kf) (l.headD 0):=by
 cases l with
 | nil=>exact absurd rfl av
 | cons x r =>
  obtain ⟨h1,h2⟩:=pairwise_cons.mp hp;show ((r.map fun n=>(kf n,n)).foldl stP (stP (kf x,x) (kf x,x))).2=r.foldl (Ar kf) (Ar kf x x)
  have e1:stP (kf x,x) (kf x,x)=(kf x,x):=by
   unfold stP;rw [if_neg];unfold ltP;show ¬ (kf x < kf x\/kf x=kf x/\x < x);omega
  have e2:Ar kf x x=x:=by unfold Ar; rw [if_neg (by omega)]
  rw [e1,e2,Gj kf r x h1 h2]
theorem FC (kf:Int->Int):CS kf=Ar fun n=>0 - kf n:=by
 funext b x;unfold CS Ar;by_cases h:kf x > kf b
 ·rw [if_pos h,if_pos (show 0 - kf x < 0 - kf b by omega)]
 ·rw [if_neg h,if_neg (show ¬ 0 - kf x < 0 - kf b by omega)]
theorem LZ (kf:Int->Int):∀ (l:List Int) (b:Int),l.foldl (Ar kf) b=b\/l.foldl (Ar kf) b ∈ l
 | [],b=>.inl rfl
 | x :: r,b=>by
  rw [foldl_cons];rcases LZ kf r (Ar kf b x) with h | h
  ·rw [h];unfold Ar;split
   ·exact .inr (mem_cons_self ..)
   ·exact .inl rfl
  ·exact .inr (mem_cons_of_mem _ h)
theorem Kv (kf:Int->Int):∀ (l:List Int) (b:Int),kf (l.foldl (Ar kf) b) <= kf b/\∀ x ∈ l,kf (l.foldl (Ar kf) b) <= kf x
 | [],b=>⟨Int.le_refl _,fun x hx=>by cases hx⟩
 | y :: r,b=>by
  rw [foldl_cons];obtain ⟨h1,h2⟩:=Kv kf r (Ar kf b y)
  have h3:kf (Ar kf b y) <= kf b/\kf (Ar kf b y) <= kf y:=by
   unfold Ar;split <;> omega
  refine ⟨by omega,fun x hx=>?_⟩;rcases mem_cons.mp hx with z | z
  ·rw [z]; omega
  ·exact h2 x z
theorem Eh (kf:Int->Int) {l:List Int} (av:l ≠ []):l.foldl (Ar kf) (l.headD 0) ∈ l:=by
 cases l with
 | nil=>exact absurd rfl av
 | cons x r =>
  rcases LZ kf (x :: r) x with h | h
  ·show (x :: r).foldl (Ar kf) x ∈ _;rw [h];exact mem_cons_self ..
  ·exact h
structure OwnG (C VC RC:Addr) (H:Hp) (p v k:Addr) (n:Nat) (due:LN) (r:Str) (ns bs:List (Str × Str)):Prop where
 ru:RuAt RC H p k due ns bs
 ka:KindAt C H k due r
 asc:Asc due
 hv:ValAt VC H v k n
theorem OwnG.same {RC:Addr} {p v k:Addr} {n:Nat} {r:Str} {ns bs:List (Str × Str)} (s:Same H H') (h:OwnG C VC RC H p v k n due r ns bs):OwnG C VC RC H' p v k n due r ns bs:=⟨h.ru.same s,h.ka.same s,h.asc,h.hv.same s⟩
section
variable {RC:Addr}
def La:Sp:=fun vs H Q _=>∃ n:Nat,vs=[.int (n:Int)]/\n < 2 ^ 42/\Q (.int (pop n:Nat)) H
theorem scHow:AN ["bits", "many"] ["bits"] (defScope F7):=fsc
theorem Qy (F:Fun K "how_many" "how_many" F7 f fd):Ae P w K mg base CX0 1 f fd ["bits"] La:=by
 refine F.ok scHow (fun vs H Q E h=>?_) (fun ad A outer s H vs Q E hr h=>?_)
 ·obtain ⟨n,rfl,_⟩:=h;rfl
 ·obtain ⟨n,rfl,hn,q⟩:=h
  refine ⟨_,AE (Ac (i:=1) scHow.nd rfl (Or.inl rfl) AH)
   (AE (Il PassesOwn.never (AU G2 (pv 0) AH (AY _)) (AE (Jx (i:=0) scHow.nd rfl (Or.inl rfl) (AW Hn (pv 0) AH) (Og:OpR _ _ _)) (AD (Jx (i:=1) scHow.nd rfl (Or.inl rfl) AH (Of:OpR _ _ _)))))
   (AD (AS (pv 1)))),?_⟩
  refine ⟨fun m σ H2=>∃ a b:Nat,σ=[some (.int (a:Int)),some (.int (b:Int))]/\H2=H/\a < 2 ^ 42/\b + pop a=pop n/\m=pop a,⟨pop n,n,0,rfl,rfl,hn,Nat.zero_add _,rfl⟩,?_⟩;rintro m σ H2 ⟨a,b,rfl,rfl,ha,hab,rfl⟩;refine ⟨_,rfl,_,_,rfl,rfl,_,rfl,?_⟩;by_cases h0:0 < a
  ·have e:decide ((a:Int) > 0)=true:=decide_eq_true (by omega);rw [e];have hp:=Jp h0 ha;refine BY ⟨fun σ H3=>∃ a' b':Nat,σ=[some (.int (a':Int)),some (.int (b':Int))]/\H3=H2/\a' < 2 ^ 42/\b' + pop a'=pop n/\pop a' < pop a,fun σ' H' ⟨a',b',e1,e2,e3,e4,e5⟩=>⟨pop a',e5,a',b',e1,e2,e3,e4,rfl⟩,?_⟩;have hle:=Nat.and_le_left (n:=a) (m:=a - 1);refine ⟨_,rfl,_,rfl,_,_,rfl,rfl,_,_,rfl,rfl,?_⟩;refine ⟨_,rfl,_,_,rfl,rfl,?_⟩;refine ⟨a &&& (a - 1),b + 1,?_,rfl,by omega,by omega,by omega⟩;show [some (V.int (Builtin.bitAnd (a:Int) ((a:Int) - 1))),some (V.int ((b:Int) + 1))]=_;rw [show (a:Int) - 1=((a - 1:Nat):Int) by omega,BE]
   push_cast
   rfl
  ·have e:decide ((a:Int) > 0)=false:=decide_eq_false (by omega);have ea:a=0:=by omega
   subst ea;rw [e];rw [Jq] at hab;have eb:b=pop n:=hab;subst eb;exact As ⟨_,rfl,q⟩
def Gk (C VC RC:Addr):Sp:=fun vs H Q _=>∃ (p v k:Addr) (n:Nat) (due:LN) (r:Str) (ns bs:List (Str × Str)),vs=[.ref p,.ref v]/\OwnG C VC RC H p v k n due r ns bs/\∀ H',Same H H'->Q (.int (n:Int)) H'
theorem Ru:AN ["self", "value"] ["self", "value"] (defScope CK):=fsc
theorem Qz (F:Fun K "own_number" "Rule.own_number" CK f fd) (RT:IY K RC) (VT:Kn K VC) (neK:W.findIn K (.ref C) "__ne__" = some (some (.builtin "object.__ne__"))) (hm:W.mroIn K C (.type "object")=some true)
  (GE:Mt P w K mg base C "__eq__" 2 ["self", "other"] (Jd C)) (GVK:Mt P w K mg base VC "kind" 1 ["self"] (FX VC)) (GVN:Mt P w K mg base VC "number" 1 ["self"] (Db VC)):Ae P w K mg base CX0 4 f fd ["self", "value"] (Gk C VC RC):=by
 obtain ⟨fE,dE,GE,mE,bE⟩:=GE.ex;obtain ⟨fK,dK,GVK,mK,bK⟩:=GVK.ex;obtain ⟨fN,dN,GVN,mN,bN⟩:=GVN.ex;refine F.ok Ru (fun vs H Q E h=>?_) (fun ad A outer s H vs Q E hr h=>?_)
 ·obtain ⟨p,v,k,n,due,r,ns,bs,rfl,_⟩:=h;rfl
 ·obtain ⟨p,v,k,n,due,r,ns,bs,rfl,O,q⟩:=h;have hr1:Room 1 _:=hr.mono (by decide);obtain ⟨dx,fs,d,ln,lb,ob,ll,hp,R,_⟩:=id O.ru;obtain ⟨dv,hv⟩:=id O.hv;obtain ⟨dk,e1,e2,hk⟩:=O.ka.ins
  refine ⟨_,AE (Au (AU (JH GE hr bE mE neK hm) (BG (pv 1) VT.cl mK GVK hr1 bK .nil AQ) (Ak (pv 0) rfl) (AY _)) (AD Ax) Aa)
   (AD (AS (BG (pv 1) VT.cl mN GVN hr1 bN .nil AQ))),?_⟩
  refine ⟨_,rfl,v,dv,_,rfl,hv,HW _ _ (by decide +kernel) (by decide +kernel),v,k,n,rfl,O.hv,_,rfl,p,RC,dx,_,_,rfl,hp,RT.cl,RT.nK,R.ok,?_⟩;refine ⟨k,dk,_,k,dk,_,rfl,rfl,hk,hk,k,k,due,r,rfl,O.ka,O.asc,.inr ⟨due,r,O.ka,O.asc,fun H1 s1=>⟨_,rfl,_,rfl,_,rfl,?_⟩⟩⟩;rw [decide_eq_true (show due=due/\r=r from ⟨rfl,rfl⟩)];refine As ?_;exact ⟨_,rfl,v,dv,_,rfl,s1 _ _ hv,HW _ _ (by decide +kernel) (by decide +kernel),v,k,n,rfl,O.hv.same s1,q _ s1⟩
end
def BS (l:List Nat):List Int:=l.map fun n:Nat=>(n:Int)
theorem OT (l:List Nat):(BS l).map V.int=AT l:=by
 unfold BS AT;rw [map_map];rfl
theorem Cv {l:List Nat} {i:Int} (h:i ∈ BS l):∃ n ∈ l,i=(n:Int):=by
 obtain ⟨n,hn,e⟩:=mem_map.mp h;exact ⟨n,hn,e.symm⟩
theorem Hj {l:List Nat} (h:l.Pairwise (· < ·)):(BS l).Pairwise (· < ·):=pairwise_map.mpr (h.imp fun z=>by omega)
def G1 (i:Int):Int:=((pop i.toNat:Nat):Int)
def Bv (gs:List Nat) (n:Nat):List Nat:=gs.filter fun o=>decide (o - (o &&& n)=0)
def Kw (gs:List Nat) (n:Nat):Int:=(BS (Bv gs n)).foldl (CS G1) ((BS (Bv gs n)).headD 0)
def Js (VC k:Addr) (H:Hp) (x:V):Option Nat->Prop
 | none=>x=.non
 | some o=>∃ q,x=.ref q/\ValAt VC H q k o
theorem CW {ns bs:List (Str × Str)} (hlt:∀ q ∈ due,q.2 < 2 ^ 20) {n:Nat} (h:n ∈ AK due ns bs):n < 2 ^ 20/\n - (n &&& kn due)=0:=by
 have hkn:=Pe (LV h);have h3:=Nat.and_le_right (n:=n) (m:=kn due);have h4:=Rq hlt;omega
theorem Gm (n m:Nat):decide (V.int (Builtin.bitAnd (n:Int) (Builtin.bitNot (m:Int)))=V.int 0)=decide (n - (n &&& m)=0):=by
 rw [Fz];exact decide_eq_decide.mpr ⟨fun z=>by have:=V.int.inj z; omega,fun z=>by rw [z]; rfl⟩
section
variable {RC:Addr}
def Q0 (C VC RC:Addr):Sp:=fun vs H Q _=>∃ (p v k:Addr) (n:Nat) (due:LN) (r:Str) (ns bs:List (Str × Str)),vs=[.ref p,.ref v]/\OwnG C VC RC H p v k n due r ns bs/\(∀ q ∈ due,q.2 < 2 ^ 20)/\∀ x H',Same H H'->Js VC k H' x (BA (AK due ns bs) n)->Q x H'
abbrev NGr:List Str:=["self", "value", "number", "let_number"]
theorem scGr:AN NGr ["self", "value"] (defScope Dv):=fsc
theorem Rv (F:Fun K "grown" "Rule.grown" Dv f fd) (RT:IY K RC) (VO:Jg P w K mg base C VC) (GO:Mt P w K mg base RC "own_number" 4 ["self", "value"] (Gk C VC RC)):Ae P w K mg base CX0 6 f fd ["self", "value"] (Q0 C VC RC):=by
 obtain ⟨fO,dO,GO,mO,bO⟩:=GO.ex;obtain ⟨fI,dI,MI,GI,bI⟩:=VO.make;have mV:=VO.cls;refine F.ok scGr (fun vs H Q E h=>?_) (fun ad A outer s H vs Q E hr h=>?_)
 ·obtain ⟨p,v,k,n,due,r,ns,bs,rfl,_⟩:=h;rfl
 ·obtain ⟨p,v,k,n,due,r,ns,bs,rfl,O,hlt,q⟩:=h;have hr4:Room 4 _:=hr.mono (by decide)
  refine ⟨_,AE (Ac (i:=2) scGr.nd rfl (Or.inl rfl) (By (pv 0) RT.cl mO GO hr4 bO .nil AQ (AA (pv 1) AB)))
   (AE (BW PassesOwn.never rfl (Ad (Ak (pv 0) rfl)) (AO (i:=3) scGr.nd rfl (Or.inl rfl))
    (AD (Au (AU Ck (AW BJ (pv 2) (M0 J4 (pv 3))) AH (AY _)) (AD (AS (FR MI GI hr rfl mV bI .nil AQ (AA (Ak (pv 0) rfl) (AA (pv 3) AB))))) Aa)))
   (AD (AS Hl))),?_⟩
  obtain ⟨dx,fs,d,ln,lb,ob,ll,hp,R,hd,hln,hlb,hll,hl⟩:=id O.ru;refine ⟨_,rfl,p,dx,_,rfl,hp,R.no _ (by decide +kernel),_,rfl,p,v,k,n,due,r,ns,bs,rfl,O,fun H1 s1=>?_⟩;refine ⟨_,rfl,p,RC,dx,_,_,rfl,s1 _ _ hp,RT.cl,RT.nL,hll,ll,rfl,⟨_,SqL.of (s1 _ _ hl)⟩,BM (K:=K) (a:=ll) (xs:=AT (AK due ns bs)) (fun i σ H2=>(∃ v3:Option V,σ=[some (.ref p),some (.ref v),some (.int (n:Int)),v3])/\H2=H1/\((AK due ns bs).take i).find? (fun o=>decide (n - (n &&& o)=0))=none) ⟨⟨none,rfl⟩,rfl,rfl⟩ (fun i σ H2 _ ⟨_,e,_⟩=>e ▸ SqL.of (s1 _ _ hl)) ?_ ?_⟩
  ·rintro i x σ H2 hi ⟨⟨v3,rfl⟩,rfl,hf⟩;obtain ⟨o,ho,rfl⟩:=Bz hi;refine ⟨_,rfl,_,rfl,_,rfl,_,_,rfl,rfl,rfl,_,rfl,?_⟩;rw [Gm];by_cases h0:n - (n &&& o)=0
   ·rw [decide_eq_true h0];refine BY ⟨_,rfl,p,RC,dx,_,_,rfl,s1 _ _ hp,RT.cl,RT.nK,R.ok,_,rfl,?_⟩;intro vq dq hq hdq av;have sN:=Cu (D:=VC) hq hdq av;obtain ⟨h20,hkn⟩:=CW hlt (mem_of_getElem? ho);refine ⟨vq,dq,k,due,r,o,rfl,upd_same,(O.ka.same s1).same sN,by omega,.inr hkn,fun H4 s4 hV=>⟨rfl,q _ H4 (s1.trans (Be sN hq s4)) ?_⟩⟩;unfold BA;rw [Ec hf ho (decide_eq_true h0)];exact ⟨vq,rfl,hV⟩
   ·rw [decide_eq_false h0];exact As ⟨⟨_,rfl⟩,rfl,BR hf ho (decide_eq_false h0)⟩
  ·rintro σ H2 ⟨⟨v3,rfl⟩,rfl,hf⟩;rw [Af,take_length] at hf;refine q .non _ s1 ?_;unfold BA;rw [hf];rfl
def Q3 (C VC RC:Addr):Sp:=fun vs H Q _=>∃ (p v k:Addr) (n:Nat) (due:LN) (r:Str) (ns bs:List (Str × Str)),vs=[.ref p,.ref v]/\OwnG C VC RC H p v k n due r ns bs/\(∀ q ∈ due,q.2 < 2 ^ 20)/\due.length <= 8/\∀ (m:Nat) q H',(m:Int)=Kw (AK due ns bs) n->Same H H'->ValAt VC H' q k m->Q (.ref q) H'
abbrev NSh:List Str:=["self", "value", "number", "inner"]
theorem scSh:AN NSh ["self", "value"] (defScope DF):=fsc
theorem Gn {ns bs:List (Str × Str)} {n:Nat}:0 ∈ Bv (AK due ns bs) n:=mem_filter.mpr ⟨Dd _ _ _,decide_eq_true (by rw [Nat.zero_and])⟩
theorem Rw (F:Fun K "shrunk" "Rule.shrunk" DF f fd) (B:Bl mg) (RT:IY K RC) (VO:Jg P w K mg base C VC) (GO:Mt P w K mg base RC "own_number" 4 ["self", "value"] (Gk C VC RC)) (GH:Fn P w K mg base "how_many" 1 ["bits"] La):Ae P w K mg base CX0 6 f fd ["self", "value"] (Q3 C VC RC):=by
 obtain ⟨fO,dO,GO,mO,bO⟩:=GO.ex;obtain ⟨fH,dH,GH,mH,kH,bH⟩:=GH.ex;obtain ⟨fI,dI,MI,GI,bI⟩:=VO.make;have mV:=VO.cls;refine F.ok scSh (fun vs H Q E h=>?_) (fun ad A outer s H vs Q E hr h=>?_)
 ·obtain ⟨p,v,k,n,due,r,ns,bs,rfl,_⟩:=h;rfl
 ·obtain ⟨p,v,k,n,due,r,ns,bs,rfl,O,hlt,h8,q⟩:=h;have hr4:Room 4 _:=hr.mono (by decide);have hr2:Room 2 _:=hr.mono (by decide)
  refine ⟨_,AE (Ac (i:=2) scSh.nd rfl (Or.inr rfl) (By (pv 0) RT.cl mO GO hr4 bO .nil AQ (AA (pv 1) AB)))
   (AE (EM (i:=3) scSh.nd rfl (by kernel_rfl) ["number"] [some 2] (by kernel_rfl) (by decide +kernel) (by kernel_rfl) rfl (Ad (Ak (pv 0) rfl)) (fun _ _ _ _ _ _=>Bg (AU Ck (AW BJ (pv 0) (M0 J4 (pv 1))) AH (AY _))) (fun _ _ _ _ _ _=>pv 0))
   (AD (AS (FR MI GI hr rfl mV bI .nil AQ (AA (Ak (pv 0) rfl) (AA (O3 rfl rfl B.max (pv 3) (CP (v:=.ref fH) rfl mH rfl)) AB)))))),?_⟩
  obtain ⟨dx,fs,d,ln,lb,ob,ll,hp,R,hd,hln,hlb,hll,hl⟩:=id O.ru;refine ⟨_,rfl,p,dx,_,rfl,hp,R.no _ (by decide +kernel),_,rfl,p,v,k,n,due,r,ns,bs,rfl,O,fun H1 s1=>?_⟩
  have hgl:(AK due ns bs).length <= 256:=by
   have h1:=length_filter_le (fun n=>(At due ns bs n).isNone) (uns (AG due));have h2:(uns (AG due)).length <= 256:=by rw [Ea]; exact OF (Nat.le_trans (BO _) h8)
   exact Nat.le_trans h1 h2
  refine ⟨_,rfl,p,RC,dx,_,_,rfl,s1 _ _ hp,RT.cl,RT.nL,hll,ll,rfl,⟨_,SqL.of (s1 _ _ hl)⟩,Ai (K:=K) (a:=ll) (xs:=AT (AK due ns bs)) (fun i ys H2=>ys=AT (Bv ((AK due ns bs).take i) n)/\H2=H1) ⟨rfl,rfl⟩ (fun i ys H2 _ ⟨_,e⟩=>e ▸ SqL.of (s1 _ _ hl)) (fun i ys H2 ⟨e,_⟩=>?_) ?_ ?_⟩
  ·have:=length_filter_le (fun o=>decide (o - (o &&& n)=0)) ((AK due ns bs).take i);rw [length_take] at this;rw [e,Af];unfold Bv;omega
  ·rintro i x ys H2 hi ⟨rfl,rfl⟩;obtain ⟨o,ho,rfl⟩:=Bz hi;have et:Bv ((AK due ns bs).take (i + 1)) n=_:=PySem.take_succ_filter (fun o=>decide (o - (o &&& n)=0)) _ i o ho;refine ⟨_,rfl,_,rfl,_,rfl,_,_,rfl,rfl,rfl,_,rfl,?_⟩;rw [Gm];by_cases h0:o - (o &&& n)=0
   ·rw [decide_eq_true h0];rw [decide_eq_true h0,if_pos rfl] at et;refine BY ⟨_,rfl,?_,rfl⟩;rw [et];unfold AT;rw [map_append];rfl
   ·rw [decide_eq_false h0];rw [decide_eq_false h0,if_neg Bool.false_ne_true,append_nil] at et;exact As ⟨by rw [et]; rfl,rfl⟩
  ·rintro ys H2 ⟨rfl,rfl⟩ li hli;rw [Af,take_length] at *;have s2:=AC (Same.refl _) hli (o:=HO.lst (AT (Bv (AK due ns bs) n)));have hli2:=upd_same (H:=H2) (a:=li) (o:=HO.lst (AT (Bv (AK due ns bs) n)));generalize upd H2 li (HO.lst (AT (Bv (AK due ns bs) n)))=H3 at s2 hli2 ⊢;have s12:=s1.trans s2
   have av:BS (Bv (AK due ns bs) n) ≠ []:=fun z=>by
    have:((0:Nat):Int) ∈ BS (Bv (AK due ns bs) n):=mem_map.mpr ⟨0,Gn,rfl⟩;rw [z] at this;cases this
   have bg:Kw (AK due ns bs) n ∈ BS (Bv (AK due ns bs) n):=by
    unfold Kw;rw [FC];exact Eh _ av
   obtain ⟨m,hm,em⟩:=Cv bg;refine ⟨_,rfl,p,RC,dx,_,_,rfl,s12 _ _ hp,RT.cl,RT.nK,R.ok,_,rfl,li,fH,BS (Bv (AK due ns bs) n),G1,rfl,rfl,SqL.of (by rw [OT]; exact hli2),av,KeyAt.fn GH hr2 bH (fun i hi Q q=>?_),?_⟩
   ·obtain ⟨o,ho,rfl⟩:=Cv hi;have:=(CW hlt (mem_filter.mp ho).1).1;exact ⟨o,rfl,by omega,q⟩
   ·intro vq dq hq hdq cz;have sN:=Cu (D:=VC) hq hdq cz;obtain ⟨h20,hkn⟩:=CW hlt (mem_filter.mp hm).1;have em2:(BS (Bv (AK due ns bs) n)).foldl (CS G1) ((BS (Bv (AK due ns bs) n)).headD 0)=(m:Int):=em;rw [em2];exact ⟨vq,dq,k,due,r,m,rfl,upd_same,(O.ka.same s12).same sN,by omega,.inr hkn,fun H4 s4 hV=>⟨rfl,q m vq H4 em.symm (s12.trans (Be sN hq s4)) hV⟩⟩
end
end Mk
end
section
namespace L2
open PySem PySem.Spec PyProof.Rows
def Q4 (ix:List Nat) (σ:St):St:=ix.map fun j=>(σ[j]?).getD none
structure LamN (X:Cx) (Nl:List Str) (ix:List Nat) (scope:Scope) (clos:List (Str × Addr)):Prop where
 len:ix.length=Nl.length
 nm:∀ (i:Nat) (x:Str),Nl[i]?=some x->∃ j:Nat,ix[i]?=some j/\X.N[j]?=some x/\X.env.scope.names.lookup x=some .cell/\scope.names.lookup x=some .free
 cl:∀ x c,clos.lookup x=some c->X.env.cells.lookup x=some c
 has:∀ x,(scope.names.lookup x=some .cell\/scope.names.lookup x=some .free)->∃ c,clos.lookup x=some c
 fn:∀ x,X.fn x=true
section
variable {X:Cx} {aa:LO} {σ:St} {s:Shared} {Nl:List Str} {ix:List Nat} {scope:Scope} {clos:List (Str × Addr)}
theorem LamN.cells (L:LamN X Nl ix scope clos) (I:Inv X aa σ H s):LJ Nl scope clos (Q4 ix σ) H s.heap:=by
 refine ⟨fun x y c h1 h2=>I.ok.inj x y c (L.cl x c h1) (L.cl y c h2),L.has,fun x c h=>⟨I.cell x c (L.cl x c h),I.freeC x c (L.cl x c h)⟩,fun i x v h1 h2=>?_,?_⟩
 ·obtain ⟨j,hj,hN,hk,hf⟩:=L.nm i x h1;refine ⟨hf,?_⟩;unfold Q4 at h2;rw [getElem?_map,hj] at h2
  have hv:σ[j]?=some (some v):=by
   simp only [Option.map_some,Option.some.injEq] at h2;cases e:σ[j]? with
   | none=>rw [e] at h2; cases h2
   | some o=>rw [e] at h2; simp only [Option.getD_some] at h2; rw [h2]
  obtain ⟨m,_,hl⟩:=I.loc;obtain ⟨u,r,l⟩:=hl j x v hN hv (.inr (.inl hk));rcases l with ⟨l,_⟩ | ⟨_,c,e,z⟩
  ·rw [show X.env.kindOf x=X.env.scope.names.lookup x from rfl,hk] at l; cases l
  ·obtain ⟨c2,e2⟩:=L.has x (.inr hf);have e3:=L.cl x c2 e2;rw [e] at e3;cases e3;exact ⟨u,c,r,e2,z⟩
 ·unfold Q4; rw [length_map]; exact L.len
end
end L2
namespace Mk
open PySem L2 MK
structure FunC (K:FG) (x qual:Str) (st:Stmt) (f:Addr) (fd:FuncData) (c:Addr):Prop where
 ex:∃ (oc:Value) (od:Option Addr) (kV doc pm:Value) (an:Option Addr) (ct:Value) (osl:Array (Option Value)),
  fd=W.fnOf x qual (defArgs st) (defBody st) (defScope st) .none kV doc pm an (.ref c) ct/\K.lookup f=some ⟨oc,od,.func fd,osl⟩/\W.codeIn K (.ref c) qual=true
theorem FunC.ok {x qual:Str} {st:Stmt} {c:Addr} {N ps:List Str} {k:Nat} {sp:Sp} (F:FunC K x qual st f fd c) (S:AN N ps (defScope st)) (len:∀ vs H Q E,sp vs H Q E->vs.length=ps.length)
  (bt:∀ (A:Around) (outer:List Env) (s:Shared) (H:Hp) (vs:List V) (Q:VK) (E:XK),Room k (A.deeper (PyProof.Rows.envOfC qual (defScope st) s.heap.objs.size f (.ref c)))->sp vs H Q E ->
   ∃ t,PSs (Iu CX0 P w K mg base N qual (defScope st) f (.ref c) A outer s H E).nox (defBody st) t/\t { nx:=fun _ H'=>Q .non H',rt:=Q } (EE N vs) H):Ae P w K mg base CX0 (k + 1) f fd ps sp:=by
 obtain ⟨oc,od,kV,doc,pm,an,ct,osl,rfl,lk,hcd⟩:=F.ex;refine Pu lk hcd S len fun A outer s H vs Q E hr hsp=>?_;obtain ⟨t,h,q⟩:=bt A outer s H vs Q E hr hsp;exact ⟨t,h.nox,q⟩
theorem FD {α β:Type} [BEq α] [LawfulBEq α] {x:α} {v:β}:∀ {l:List (α × β)},l.lookup x=some v->(x,v) ∈ l
  | [],h=>by cases h
  | (y,u) :: r,h=>by
    rw [lookup_cons] at h;cases e:x == y with
    | true =>
      rw [e] at h;cases h;rw [eq_of_beq e];exact mem_cons_self ..
    | false =>
      rw [e] at h;exact mem_cons_of_mem _ (FD h)
theorem Pi {scope:Scope} {clos:List (Str × Addr)} (h:scope.names.all (fun p=>!(p.2 == .cell || p.2 == .free) || (clos.lookup p.1).isSome)=true):∀ x,(scope.names.lookup x=some .cell\/scope.names.lookup x=some .free)->∃ c,clos.lookup x=some c:=fun x hx=>by
 have g:∀ k,scope.names.lookup x=some k->(k == .cell || k == .free)=true->∃ c,clos.lookup x=some c:=fun k e hk=>by
  have:=List.all_eq_true.mp h _ (FD e);simp only [hk,Bool.not_true,Bool.false_or] at this;exact Option.isSome_iff_exists.mp this
 rcases hx with z | z
 ·exact g _ z rfl
 ·exact g _ z rfl
def Sg (l:List Stmt) (i:Nat):Stmt:=l.getD i (.Pass ⟨0,0,0,0⟩)
def Q5:Stmt->Expr | .Return (some e) _=>e | _=>.Name "" ⟨0,0,0,0⟩
def Rx (i:Nat):Expr->Expr | .Call _ es _ _=>es.getD i (.Name "" ⟨0,0,0,0⟩) | e=>e
def Sh:Expr->Expr | .Call _ _ [⟨_,e,_⟩] _=>e | e=>e
def Q6:Expr->Pos | .Lambda _ _ _ p=>p | _=>⟨0,0,0,0⟩
def LS:List Pos:=[Q6 (Sh (Rx 1 (Q5 (Sg (defBody BB) 1))))]
def qL:Str := "Rule.mended.<locals>." ++ "<lambda>"
theorem TabOk.same {P0:Addr} {q:Str} {ls:List Pos} (s:Same H H') (h:TabOk H P0 q ls):TabOk H' P0 q ls:=by
 obtain ⟨ps,h1,h2,h3⟩:=h;refine ⟨ps,s _ _ h1,h2,fun x hx=>?_⟩;rcases h3 x hx with z | ⟨c,z1,z2⟩
 ·exact .inl z
 ·exact .inr ⟨c,z1,s _ _ z2⟩
theorem TabOk.sameX {d:Addr} {P0:Addr} {q:Str} {ls:List Pos} {x y:Int} (hd:H d=some (.lst [.int x,.int y])) (s:SameX d H H') (h:TabOk H P0 q ls):TabOk H' P0 q ls:=by
 obtain ⟨ps,h1,h2,h3⟩:=h;refine ⟨ps,s.old _ _ h1 (fun z=>by subst z; rw [hd] at h1; cases h1),h2,fun x hx=>?_⟩;rcases h3 x hx with z | ⟨c,z1,z2⟩
 ·exact .inl z
 ·exact .inr ⟨c,z1,s.old _ _ z2 (fun z=>by subst z; rw [hd] at z2; cases z2)⟩
theorem TabOk.ne {d:Addr} {P0:Addr} {q:Str} {ls:List Pos} {xs:List V} (hd:H d=some (.lst xs)) (h:TabOk H P0 q ls):d ≠ P0:=fun z=>by
 obtain ⟨ps,h1,_⟩:=h;subst z;rw [hd] at h1;cases h1
section
theorem Pj {X:Cx} {Nl:List Str} {ix:List Nat} {scope:Scope} {clos:List (Str × Addr)} (h1:ix.length=Nl.length)
  (h2:(List.range Nl.length).all (fun i=>match Nl[i]?,ix[i]? with | some x,some j=>decide (X.N[j]?=some x) && decide (X.env.scope.names.lookup x=some .cell) && decide (scope.names.lookup x=some .free) | _,_=>false)=true)
  (h3:∀ p ∈ clos,X.env.cells.lookup p.1=some p.2) (h4:scope.names.all (fun p=>!(p.2 == .cell || p.2 == .free) || (clos.lookup p.1).isSome)=true) (h5:∀ x,X.fn x=true):LamN X Nl ix scope clos:=by
 refine ⟨h1,fun i x h=>?_,fun x c h=>h3 _ (FD h),Pi h4,h5⟩;have hi:i < Nl.length:=(List.getElem?_eq_some_iff.mp h).1;have:=List.all_eq_true.mp h2 i (mem_range.mpr hi);rw [h] at this;cases e:ix[i]? with
 | none=>rw [e] at this; cases this
 | some j =>
  rw [e] at this;simp only [Bool.and_eq_true,decide_eq_true_eq] at this;exact ⟨j,rfl,this.1.1,this.1.2,this.2⟩
end
def OU (gs:List Nat) (n:Nat):Int:=(BS gs).foldl (Ar fun i=>((pop (i.toNat ^^^ n):Nat):Int)) ((BS gs).headD 0)
theorem Lb (a b:Nat):Builtin.bitXor (a:Int) (b:Int)=((a ^^^ b:Nat):Int):=by
 have h1:(a ^^^ b) ||| (a &&& b)=a ||| b:=by
  refine Nat.eq_of_testBit_eq fun k=>?_;simp only [Nat.testBit_and,Nat.testBit_xor,Nat.testBit_or];cases a.testBit k <;> cases b.testBit k <;> rfl
 have h2:(a ^^^ b) &&& (a &&& b)=0:=by
  refine Nat.eq_of_testBit_eq fun k=>?_;simp only [Nat.testBit_and,Nat.testBit_xor,Nat.zero_testBit];cases a.testBit k <;> cases b.testBit k <;> rfl
 have h3:=Qp (a ^^^ b) (a &&& b);rw [h1,h2] at h3;have h4:Builtin.bitXor (a:Int) (b:Int)=Builtin.bitOr (a:Int) (b:Int) - Builtin.bitAnd (a:Int) (b:Int):=rfl;rw [h4,Cg,BE];omega
section
variable {RC c P0:Addr}
def Q7 (C VC RC P0:Addr):Sp:=fun vs H Q _=>∃ (p v k:Addr) (n:Nat) (due:LN) (r:Str) (ns bs:List (Str × Str)),vs=[.ref p,.ref v]/\OwnG C VC RC H p v k n due r ns bs/\(∀ q ∈ due,q.2 < 2 ^ 20)/\due.length <= 8/\n < 2 ^ 40/\TabOk H P0 qL LS /\
 ∀ (m:Nat) q H',(m:Int)=OU (AK due ns bs) (n &&& AZ (AG due))->HH P0 H H'->TabOk H' P0 qL LS->ValAt VC H' q k m->Q (.ref q) H'
abbrev NMe:List Str:=["self", "value", "number"]
theorem scMe:AN NMe ["self", "value"] (defScope BB):=fsc
theorem Ry (F:FunC K "mended" "Rule.mended" BB f fd c) (hC:W.CodeHd base c P0) (hBu:base.BuiltinsAt mg P0) (B:Bl mg) (RT:IY K RC) (VO:Jg P w K mg base C VC) (GO:Mt P w K mg base RC "own_number" 4 ["self", "value"] (Gk C VC RC)) (GB:Fn P w K mg base "mark_bits" 3 ["kind"] (D7 C)) (GH:Fn P w K mg base "how_many" 1 ["bits"] La):Ae P w K mg base CX0 6 f fd ["self", "value"] (Q7 C VC RC P0):=by
 obtain ⟨fO,dO,GO,mO,bO⟩:=GO.ex;obtain ⟨fH,dH,GH,mH,kH,bH⟩:=GH.ex;obtain ⟨fB,dB,GB,mB,kB,bB⟩:=GB.ex;obtain ⟨fI,dI,MI,GI,bI⟩:=VO.make;have mV:=VO.cls;refine F.ok scMe (fun vs H Q E h=>?_) (fun A outer s H vs Q E hr h=>?_)
 ·obtain ⟨p,v,k,n,due,r,ns,bs,rfl,_⟩:=h;rfl
 ·obtain ⟨p,v,k,n,due,r,ns,bs,rfl,O,hlt,h8,h40,hT,q⟩:=h;have hr4:Room 4 _:=hr.mono (by decide);have hr3:Room 3 _:=hr.mono (by decide);have LC:Rm (Iu CX0 P w K mg base NMe "Rule.mended" (defScope BB) f (.ref c) A outer s H E).nox c P0:=⟨rfl,hC,hBu⟩
  refine ⟨_,AE (Ac (i:=2) scMe.nd rfl (Or.inr rfl) (AW BJ (By (pv 0) RT.cl mO GO hr4 bO .nil AQ (AA (pv 1) AB)) (AM GB hr3 rfl mB kB bB .nil AQ (AA (Ak (pv 0) rfl) AB))))
   (AD (AS (FR MI GI hr rfl mV bI .nil AQ (AA (Ak (pv 0) rfl) (AA (O2 rfl rfl B.min (Ak (pv 0) rfl) (QT (ls:=LS) LC (mem_of_getElem? (i:=0) rfl) (fun q hq=>.inl (mem_singleton.mp hq)) rfl rfl)) AB))))),?_⟩
  obtain ⟨dx,fs,d,ln,lb,ob,ll,hp,R,hd,hln,hlb,hll,hl⟩:=id O.ru;refine ⟨_,rfl,p,dx,_,rfl,hp,R.no _ (by decide +kernel),_,rfl,p,v,k,n,due,r,ns,bs,rfl,O,fun H1 s1=>?_⟩;refine ⟨_,rfl,p,RC,dx,_,_,rfl,s1 _ _ hp,RT.cl,RT.nK,R.ok,k,due,r,rfl,O.ka.same s1,by omega,fun H2 s2=>?_⟩;have s12:=s1.trans s2;refine ⟨_,_,rfl,rfl,?_⟩;refine ⟨_,rfl,p,RC,dx,_,_,rfl,s12 _ _ hp,RT.cl,RT.nK,R.ok,_,rfl,p,RC,dx,_,_,rfl,s12 _ _ hp,RT.cl,RT.nL,hll,TabOk.same s12 hT,fun lf c' ctv H3 hfn sB T3 hf hc'=>?_⟩;have hll2:=s12 _ _ hl
  have hP:ll ≠ P0:=fun z=>by
   obtain ⟨ps,hp0,_⟩:=TabOk.same s12 hT;rw [← z,hll2] at hp0;cases hp0
  have hpP:∀ {b:Addr} {D dx:Addr} {fs:List (Str × V)},H2 b=some (.ins D dx fs)->b ≠ P0:=fun {b D dx fs} hb z=>by
   obtain ⟨ps,hp0,_⟩:=TabOk.same s12 hT;rw [← z,hb] at hp0;cases hp0
  have kb:∀ b o,H2 b=some o->(∀ ps,o ≠ .tbl ps)->H3 b=some o:=fun b o e hn=>sB b o (fun z=>by
   obtain ⟨ps,hp0,_⟩:=TabOk.same s12 hT;rw [z,hp0] at e;cases e
   exact hn _ rfl) e
  have KA3:KindAt C H3 k due r:=by
   obtain ⟨x,d1,o1,d2,o2,a1,a2,a3⟩:=(O.ka.same s12).ex;exact ⟨⟨x,d1,o1,d2,o2,kb _ _ a1 (fun _ z=>nomatch z),kb _ _ a2 (fun _ z=>nomatch z),kb _ _ a3 (fun _ z=>nomatch z)⟩⟩
  have av:BS (AK due ns bs) ≠ []:=fun z=>by
   have:((0:Nat):Int) ∈ BS (AK due ns bs):=mem_map.mpr ⟨0,Dd _ _ _,rfl⟩;rw [z] at this;cases this
  have bg:OU (AK due ns bs) (n &&& AZ (AG due)) ∈ BS (AK due ns bs):=Eh _ av;obtain ⟨m,hm,em⟩:=Cv bg;refine ⟨ll,lf,BS (AK due ns bs),fun i=>((pop (i.toNat ^^^ (n &&& AZ (AG due))):Nat):Int),rfl,rfl,SqL.of (by rw [OT]; exact sB _ _ hP hll2),av,?_,?_⟩
  ·refine KeyAt.lam (x := "let_number") (Nl:=["number"]) (σl:=[some (.int (Builtin.bitAnd (n:Int) ((AZ (AG due):Nat):Int)))]) hr3 (fun aa s' I=>?_) hf hc' (fun _=>rfl) rfl rfl rfl (by decide +kernel) (by kernel_rfl) (fun s'=>AM GH ((hr3.in1).deeper _) rfl mH kH bH .nil AQ (AA (AW M6 (pv 0) (pv 1)) AB)) (fun i hi Q' q'=>?_)
   ·exact LamN.cells (ix:=[2]) (Pj rfl (by kernel_rfl) (by intro p hp; simp only [mem_cons,not_mem_nil,or_false] at hp; rcases hp with rfl <;> kernel_rfl) (by kernel_rfl) (fun _=>rfl)) I
   ·obtain ⟨o,ho,rfl⟩:=Cv hi;have h20:=(CW hlt ho).1;have hle:=Nat.and_le_left (n:=n) (m:=AZ (AG due));have hx:o ^^^ (n &&& AZ (AG due)) < 2 ^ 42:=Nat.xor_lt_two_pow (by omega) (by omega);refine ⟨_,rfl,_,rfl,_,_,rfl,rfl,o ^^^ (n &&& AZ (AG due)),?_,hx,q'⟩;show [V.int (Builtin.bitXor (o:Int) (Builtin.bitAnd (n:Int) ((AZ (AG due):Nat):Int)))]=_;rw [BE,Lb]
  ·intro vq dq hq hdq cz;have sN:=Cu (D:=VC) hq hdq cz;obtain ⟨h20,hkn⟩:=CW hlt hm;have em2:(BS (AK due ns bs)).foldl (Ar fun i=>((pop (i.toNat ^^^ (n &&& AZ (AG due))):Nat):Int)) ((BS (AK due ns bs)).headD 0)=(m:Int):=em;rw [em2];refine ⟨vq,dq,k,due,r,m,rfl,upd_same,KA3.same sN,by omega,.inr hkn,fun H4 s4 hV=>⟨rfl,q m vq H4 em.symm (fun b o hb e=>Be sN hq s4 _ _ (sB b o hb (s12 _ _ e))) (TabOk.same (Be sN hq s4) T3) hV⟩⟩
end
def Jt (H H':Hp):Prop:=∀ b o,H b=some o->(∀ x y:Int,o ≠ .lst [.int x,.int y])->(∀ ps,o ≠ .tbl ps)->(∀ g,o ≠ .ext g)->H' b=some o
theorem KindAt.keeps {p:Addr} {r:Str} (s:Jt H H') (h:KindAt C H p due r):KindAt C H' p due r:=by
 obtain ⟨dx,d1,o1,d2,o2,a,b,c⟩:=h.ex;exact ⟨⟨dx,d1,o1,d2,o2,s _ _ a (fun _ _ z=>nomatch z) (fun _ z=>nomatch z) (fun _ z=>nomatch z),s _ _ b (fun _ _ z=>nomatch z) (fun _ z=>nomatch z) (fun _ z=>nomatch z),s _ _ c (fun _ _ z=>nomatch z) (fun _ z=>nomatch z) (fun _ z=>nomatch z)⟩⟩
theorem TupsAt.keeps {as:List Addr} {ps:List (V × V)} (s:Jt H H') (h:TupsAt H as ps):TupsAt H' as ps:=TupsAt.sameT (fun b xs e=>s _ _ e (fun _ _ z=>nomatch z) (fun _ z=>nomatch z) (fun _ z=>nomatch z)) h
theorem Fa {ms:List Addr} {x y:Int}:HO.lst (ms.map V.ref) ≠ .lst [.int x,.int y]:=fun z=>by
 injection z with z
 cases ms with
 | nil=>cases z
 | cons a r=>cases z
def Rl (d P0:Addr) (H H':Hp):Prop:=∀ b o,H b=some o->b ≠ d->b ≠ P0->(∀ g,o ≠ .ext g)->H' b=some o
theorem Rl.trans {d P0:Addr} {H1 H2:Hp} (a:Rl d P0 H H1) (b:Rl d P0 H1 H2):Rl d P0 H H2:=fun c o e h1 h2 h3=>b c o (a c o e h1 h2 h3) h1 h2 h3
theorem Rl.same {d P0:Addr} (s:Same H H'):Rl d P0 H H':=fun b o e _ _ _=>s b o e
theorem Rl.sameX {d P0:Addr} (s:SameX d H H'):Rl d P0 H H':=fun b o e h _ _=>s.old b o e h
theorem Rl.sameB {d P0:Addr} (s:HH P0 H H'):Rl d P0 H H':=fun b o e _ h _=>s b o h e
structure Wb (d P0:Addr) (H:Hp):Prop where
 dice:∃ x y:Int,H d=some (.lst [.int x,.int y])
 tab:TabOk H P0 qL LS
theorem Wb.keeps {d P0:Addr} (s:Rl d P0 H H') (h:Wb d P0 H):Jt H H':=fun b o eb h1 h2 h3=>by
 refine s b o eb (fun z=>?_) (fun z=>?_) h3
 ·subst z;obtain ⟨x,y,hd⟩:=h.dice;rw [hd] at eb;cases eb;exact h1 _ _ rfl
 ·subst z;obtain ⟨ps,hp,_⟩:=h.tab;rw [hp] at eb;cases eb;exact h2 _ rfl
theorem Wb.same {d P0:Addr} (s:Same H H') (h:Wb d P0 H):Wb d P0 H':=⟨by obtain ⟨x,y,z⟩:=h.dice; exact ⟨x,y,s _ _ z⟩,TabOk.same s h.tab⟩
theorem Wb.sameB {d P0:Addr} (s:HH P0 H H') (ht:TabOk H' P0 qL LS) (h:Wb d P0 H):Wb d P0 H':=by
 obtain ⟨x,y,hd⟩:=h.dice;exact ⟨⟨x,y,s _ _ (TabOk.ne hd h.tab) hd⟩,ht⟩
theorem PrsL.keeps {l:Addr} {ps:List (Str × Str)} (s:Jt H H') (h:PrsL H l ps):PrsL H' l ps:=by
 obtain ⟨as,h1,h2⟩:=h;exact ⟨as,s _ _ h1 (fun _ _=>Fa) (fun _ z=>nomatch z) (fun _ z=>nomatch z),TupsAt.keeps s h2⟩
theorem LTab.keeps {t e m:Addr} {ms:List Addr} (s:Jt H H') (h:LTab H t e m ms due):LTab H' t e m ms due :=
 ⟨s _ _ h.ht (fun _ _ z=>nomatch z) (fun _ z=>nomatch z) (fun _ z=>nomatch z),s _ _ h.hm (fun _ _=>Fa) (fun _ z=>nomatch z) (fun _ z=>nomatch z),TupsAt.keeps s h.hms⟩
structure Wr (C RC d P0 k t e m p lw lf gl f:Addr) (ms fs:List Addr) (rows:List (Str × Th)) (r:Str) (ns bs:List (Str × Str)) (H:Hp):Prop where
 wb:Wb d P0 H
 ka:KindAt C H k (AL rows) r
 lt:LTab H t e m ms (AL rows)
 ru:RuAt RC H p k (AL rows) ns bs
 nll:∀ ll,Qs RC H p ll->ll ≠ d
 hgl:H gl=some (.lst (AT (AK (AL rows) ns bs)))
 ngl:gl ≠ d
 pw:PrsL H lw ns
 pf:PrsL H lf bs
 hf:H f=some (.lst (fs.map V.ref))
 hro:Paired (RowAt H) fs rows
section
variable {RC d P0 k t e m p lw lf gl:Addr} {ms fs:List Addr} {rows:List (Str × Th)} {r:Str} {ns bs:List (Str × Str)}
theorem Wr.go (s:Rl d P0 H H') (wb':Wb d P0 H') (h:Wr C RC d P0 k t e m p lw lf gl f ms fs rows r ns bs H):Wr C RC d P0 k t e m p lw lf gl f ms fs rows r ns bs H':=by
 have kp:=h.wb.keeps s;have kt:∀ b xs,H b=some (.tup xs)->H' b=some (.tup xs):=fun b xs e=>kp _ _ e (fun _ _ z=>nomatch z) (fun _ z=>nomatch z) (fun _ z=>nomatch z);obtain ⟨dx,fs',d',ln,lb,ob,ll,h1,h2,h3,h4,h5,h6,h7⟩:=h.ru;have hp':=kp _ _ h1 (fun _ _ z=>nomatch z) (fun _ z=>nomatch z) (fun _ z=>nomatch z);refine ⟨wb',h.ka.keeps kp,h.lt.keeps kp,⟨dx,fs',d',ln,lb,ob,ll,hp',h2,kp _ _ h3 (fun _ _ z=>nomatch z) (fun _ z=>nomatch z) (fun _ z=>nomatch z),h4.keeps kp,h5.keeps kp,h6,s _ _ h7 (h.nll ll ⟨dx,fs',h1,h6⟩) (TabOk.ne h7 h.wb.tab) (fun _ z=>nomatch z)⟩,fun l' hl'=>?_,s _ _ h.hgl h.ngl (TabOk.ne h.hgl h.wb.tab) (fun _ z=>nomatch z),h.ngl,h.pw.keeps kp,h.pf.keeps kp,kp _ _ h.hf (fun _ _=>Fa) (fun _ z=>nomatch z) (fun _ z=>nomatch z),A5 kt h.hro⟩;obtain ⟨dx2,fs2,e1,e2⟩:=hl';rw [hp'] at e1;refine h.nll l' ⟨dx,fs',h1,?_⟩;cases e1;exact e2
theorem Wr.same (s:Same H H') (h:Wr C RC d P0 k t e m p lw lf gl f ms fs rows r ns bs H):Wr C RC d P0 k t e m p lw lf gl f ms fs rows r ns bs H':=h.go (Rl.same s) (h.wb.same s)
theorem Wr.sameX (s:SameX d H H') (h:Wr C RC d P0 k t e m p lw lf gl f ms fs rows r ns bs H):Wr C RC d P0 k t e m p lw lf gl f ms fs rows r ns bs H':=by
 obtain ⟨x,y,hd⟩:=h.wb.dice;exact h.go (Rl.sameX s) ⟨s.dice,TabOk.sameX hd s h.wb.tab⟩
end
theorem Pk (n:Nat):(n &&& AZ (AG due)) - ((n &&& AZ (AG due)) &&& kn due)=0:=by
 have h:(n &&& AZ (AG due)) &&& kn due=n &&& AZ (AG due):=FA fun k hk=>by
  rw [Nat.testBit_and,Bool.and_eq_true,BQ,any_eq_true] at hk;obtain ⟨m,hm,hb⟩:=hk.2;unfold kn;rw [BQ];exact any_eq_true.mpr ⟨m,mem_map.mpr ⟨_,A9 hm,rfl⟩,hb⟩
 omega
def Lc (K:FG) (P0:Addr):Sp:=fun vs H Q _=>∃ (a:Addr) (ns:List Int),vs=[.ref a]/\SqL K H a (ns.map V.int)/\ns.length <= 63/\TabOk H P0 qL LS/\∀ H',Q (.bl true) H'
abbrev Si:List Str:=["_law_script", "_law_dice", "_law_rows", "_law_due", "_law_way", "_law_table", "_law_kind", "_law_rule", "_law_wants", "_law_fences", "_law_good", "_law_turn", "_law_number", "_law_value", "_law_over", "_law_least", "_law_found", "_law_under", "_law_near"]
theorem scLaw:AN Si ["_law_script"] (defScope Na):=fsc
def Sj (K:FG):R2:=fun x y H Q=>∃ dx dy,CO K H dx x/\CO K H dy y/\SeqAt.shaped dx=true/\SeqAt.shaped dy=true/\Q (.bl (PyData.eqv dx dy)) H
def Rz (K:FG):TT:=K5 (tOp (Sj K) (fun σ H Q=>B4 (Pq K (Jw 1)) (CQ 0) (K5 (tOp rNe (tOp (rI0 fun i j=>.int (Builtin.bitAnd i j)) (Jw 0) (Jw 1)) (Jw 1))) (Jw 0) [none,some 0] (fun ys H'=>∀ p,H' p=none->Q (.ref p) (upd H' p (.lst ys))) σ H) (QH En))
theorem Ju (o n:Nat):decide (V.int (Builtin.bitAnd (o:Int) (n:Int))=V.int (n:Int))=decide (o &&& n=n):=by
 rw [BE];exact decide_eq_decide.mpr ⟨fun z=>by have:=V.int.inj z; omega,fun z=>by rw [z]⟩
theorem OV (o n:Nat):decide (V.int (Builtin.bitAnd (o:Int) (n:Int))=V.int (o:Int))=decide (o &&& n=o):=by
 rw [BE];exact decide_eq_decide.mpr ⟨fun z=>by have:=V.int.inj z; omega,fun z=>by rw [z]⟩
theorem Kx (gs:List Nat) (n:Nat):Bv gs n=gs.filter fun o=>decide (o &&& n=o):=by
 unfold Bv;refine List.filter_congr fun o _=>decide_eq_decide.mpr ?_;have:=Nat.and_le_left (n:=o) (m:=n);omega
def Ky (l:List Nat):List (Int × Int):=l.map fun o:Nat=>(0 - ((pop o:Nat):Int),(o:Int))
def Go (l:List Nat) (n:Nat):List (Int × Int):=l.map fun o:Nat=>(((pop (o ^^^ n):Nat):Int),(o:Int))
theorem Pl (l:List Nat):Ky l=(BS l).map fun i=>(0 - G1 i,i):=by
 unfold Ky BS;rw [map_map];rfl
theorem OW (l:List Nat) (n:Nat):Go l n=(BS l).map fun i=>(((pop (i.toNat ^^^ n):Nat):Int),i):=by
 unfold Go BS;rw [map_map];rfl
theorem CY {as:List Addr} {ps:List (Int × Int)} (s:Same H H') (h:Br H as ps):Br H' as ps:=Paired.imp' (fun _ _ q=>s _ _ q) h
theorem FL {as:List Addr} {ps:List (Int × Int)} {b:Addr} {p:Int × Int} (s:Same H H') (h:Br H as ps) (hb:H' b=some (.tup [.int p.1,.int p.2])):Br H' (as++[b]) (ps++[p]):=EB (CY s h) (.cons hb .nil)
theorem OX {ns bs:List (Str × Str)} {n:Nat}:BS (Bv (AK due ns bs) n) ≠ []:=fun z=>by
 have:((0:Nat):Int) ∈ BS (Bv (AK due ns bs) n):=mem_map.mpr ⟨0,Gn,rfl⟩;rw [z] at this;cases this
theorem Q8 {ns bs:List (Str × Str)} {n:Nat}:((Ky (Bv (AK due ns bs) n)).foldl stP ((Ky (Bv (AK due ns bs) n)).headD (0,0))).2=Kw (AK due ns bs) n:=by
 rw [Pl];unfold Kw;rw [FC];exact LY (fun i=>0 - G1 i) (Hj ((FB due ns bs).filter _)) OX
theorem Ld {ns bs:List (Str × Str)}:BS (AK due ns bs) ≠ []:=fun z=>by
 have:((0:Nat):Int) ∈ BS (AK due ns bs):=mem_map.mpr ⟨0,Dd _ _ _,rfl⟩;rw [z] at this;cases this
theorem Q9 {ns bs:List (Str × Str)} {n:Nat}:((Go (AK due ns bs) n).foldl stP ((Go (AK due ns bs) n).headD (0,0))).2=OU (AK due ns bs) n:=by
 rw [OW];exact LY (fun i=>((pop (i.toNat ^^^ n):Nat):Int)) (Hj (FB due ns bs)) Ld
theorem Kz {gs:List Nat} (hr:gs.Pairwise (· < ·)) {n:Nat} (hn:n ∈ gs):BA gs n=some n:=by
 rw [Gi];have hin:n ∈ BC gs n:=mem_filter.mpr ⟨hn,decide_eq_true (Nat.and_self n)⟩
 have bd:∀ o ∈ BC gs n,n <= o:=fun o ho=>by
  have h1:=of_decide_eq_true (mem_filter.mp ho).2;have h2:=Nat.and_le_left (n:=o) (m:=n);omega
 have hr2:(BC gs n).Pairwise (· < ·):=hr.filter _;cases hov:BC gs n with
 | nil=>rw [hov] at hin; cases hin
 | cons f w =>
  rw [hov] at hin bd hr2;rcases mem_cons.mp hin with z | z
  ·rw [z]; rfl
  ·have h1:=(pairwise_cons.mp hr2).1 n z;have h2:=bd f (mem_cons_self ..);omega
theorem OY {ns bs:List (Str × Str)} {n m:Nat} (hn:n ∈ AK due ns bs) (hb:n < 2 ^ 42) (em:(m:Int)=Kw (AK due ns bs) n):m=n:=by
 have hin:(n:Int) ∈ BS (Bv (AK due ns bs) n):=mem_map.mpr ⟨n,by rw [Kx]; exact mem_filter.mpr ⟨hn,decide_eq_true (Nat.and_self n)⟩,rfl⟩;unfold Kw at em;rw [FC] at em;have h1:=(Kv (fun i=>0 - G1 i) (BS (Bv (AK due ns bs) n)) ((BS (Bv (AK due ns bs) n)).headD 0)).2 _ hin;have h2:=Eh (fun i=>0 - G1 i) (OX (due:=due) (ns:=ns) (bs:=bs) (n:=n));rw [← em] at h1 h2;obtain ⟨o,ho,eo⟩:=Cv h2;have e3:m=o:=by omega
 subst e3;rw [Kx] at ho;have h4:=of_decide_eq_true (mem_filter.mp ho).2;refine Classical.byContradiction fun z=>?_;have h5:=Qx h4 hb z;have h6:0 - G1 (m:Int) <= 0 - G1 (n:Int):=h1;unfold G1 at h6;rw [Int.toNat_natCast,Int.toNat_natCast] at h6;omega
theorem OZ {ns bs:List (Str × Str)} {n m:Nat} (hn:n ∈ AK due ns bs) (hlt:∀ q ∈ due,q.2 < 2 ^ 20) (em:(m:Int)=OU (AK due ns bs) (n &&& AZ (AG due))):m=n:=by
 rw [D9 (LV hn)] at em;have hin:(n:Int) ∈ BS (AK due ns bs):=mem_map.mpr ⟨n,hn,rfl⟩;unfold OU at em;have h1:=(Kv (fun i=>((pop (i.toNat ^^^ n):Nat):Int)) (BS (AK due ns bs)) ((BS (AK due ns bs)).headD 0)).2 _ hin;have h2:=Eh (fun i=>((pop (i.toNat ^^^ n):Nat):Int)) (Ld (due:=due) (ns:=ns) (bs:=bs));rw [← em] at h1 h2;obtain ⟨o,ho,eo⟩:=Cv h2;have e3:m=o:=by omega
 subst e3;have h6:((pop ((m:Int).toNat ^^^ n):Nat):Int) <= ((pop ((n:Int).toNat ^^^ n):Nat):Int):=h1;rw [Int.toNat_natCast,Int.toNat_natCast,Nat.xor_self,Jq] at h6;refine Classical.byContradiction fun z=>?_
 have hx:m ^^^ n ≠ 0:=fun e=>z (Nat.eq_of_testBit_eq fun k=>by
  have h:=congrArg (fun x=>x.testBit k) e;simp only [Nat.testBit_xor,Nat.zero_testBit] at h;revert h
  cases m.testBit k <;> cases n.testBit k <;> simp)
 have hm:=(CW hlt ho).1;have hn2:=(CW hlt hn).1;have h7:=Pg (n:=m ^^^ n) (by omega) (Nat.lt_trans (Nat.xor_lt_two_pow hm hn2) (by decide));omega
theorem Ie {P0:Addr} {q:Str} {ls:List Pos} (T:TabOk H P0 q ls) (s:HH P0 H H') {b:Addr} {o:HO} (e:H b=some o) (h:∀ ps,o ≠ .tbl ps):H' b=some o:=s b o (fun z=>by
 obtain ⟨ps,hp,_⟩:=T;rw [z,hp] at e;cases e
 exact h _ rfl) e
theorem Mr {P0:Addr} {q:Str} {ls:List Pos} (T:TabOk H P0 q ls) (s:HH P0 H H') {as:List Addr} {ps:List (Int × Int)} (h:Br H as ps):Br H' as ps:=by
 unfold Br at h ⊢;exact Paired.imp' (fun a p z=>Ie T s z (fun ps y=>by cases y)) h
theorem Hk:∀ xs:List Nat,(AT xs).all Df=true
 | []=>rfl
 | _ :: r=>Hk r
theorem Pm {n:Nat} {gs:List Nat} (h:inV (.int (n:Int)) (AT gs)=true):n ∈ gs:=by
 unfold inV at h;obtain ⟨y,hy,e⟩:=any_eq_true.mp h;unfold AT at hy;obtain ⟨m,hm,rfl⟩:=mem_map.mp hy;have e2:((m:Int) == (n:Int))=true:=e;have e3:(m:Int)=n:=by simpa using e2
 have:m=n:=by omega
 exact this ▸ hm
theorem RB {σ:St} {gl:Addr} {gs:List Nat} {n:Nat} {Q:Bool->Hp->Prop} (hσ:σ=[some (.int (n:Int)),some (.ref gl)]) (hgl:H gl=some (.lst (AT gs))) (hg:gs.length <= 256)
  (q:∀ H',Same H H'->Q (gs.filter fun o=>decide (o &&& n ≠ n)).isEmpty H'):Rz K σ H Q:=by
 subst hσ;refine ⟨_,rfl,gl,rfl,⟨_,SqL.of hgl⟩,Ai (K:=K) (a:=gl) (xs:=AT gs) (fun j zs H5=>zs=AT ((gs.take j).filter fun o=>decide (o &&& n ≠ n))/\H5=H) ⟨rfl,rfl⟩ (fun j zs H5 _ ⟨_,e⟩=>e ▸ SqL.of hgl) (fun j zs H5 ⟨e,_⟩=>?_) ?_ ?_⟩
 ·have:=length_filter_le (fun o=>decide (o &&& n ≠ n)) (gs.take j);rw [length_take] at this;rw [e,Af];omega
 ·rintro j x zs H5 hj ⟨rfl,rfl⟩;obtain ⟨o,ho,rfl⟩:=Bz hj;have et:=PySem.take_succ_filter (fun o=>decide (o &&& n ≠ n)) _ j o ho;refine ⟨_,rfl,_,rfl,_,_,rfl,rfl,_,rfl,rfl,_,rfl,?_⟩;rw [Ju];by_cases h1:o &&& n=n
  ·rw [decide_eq_true h1];rw [decide_eq_false (fun z=>z h1),if_neg Bool.false_ne_true,append_nil] at et;exact As ⟨by rw [et],rfl⟩
  ·rw [decide_eq_false h1];rw [decide_eq_true h1,if_pos rfl] at et;refine BY ⟨_,rfl,?_,rfl⟩;rw [et];unfold AT;rw [map_append];rfl
 ·rintro zs H5 ⟨rfl,rfl⟩ z hz;rw [Af,take_length] at *;have sz:=AC (Same.refl _) hz (o:=HO.lst (AT (gs.filter fun o=>decide (o &&& n ≠ n))));refine ⟨Nat.zero_le _,fun y hy=>?_⟩;have sy:=AC (Same.refl _) hy (o:=HO.lst []);refine ⟨_,_,Ba (sy _ _ upd_same) (EZ _),Ba upd_same FV,Bd _,Bd [],_,rfl,?_⟩;rw [FW,List.isEmpty_map];exact q _ (sz.trans sy)
section
variable {RC P0:Addr}
theorem RE {f0:Addr} (F:Fun K "law" "law" Na f0 fd) (B:Bl mg) (KO:ON P w K mg base C) (VO:Jg P w K mg base C VC) (RT:IY K RC) (neK:W.findIn K (.ref C) "__ne__" = some (some (.builtin "object.__ne__"))) (hmK:W.mroIn K C (.type "object")=some true)
  (GRd:Fn P w K mg base "_law_rounds" 2 ["_law_script", "_law_most"] (Ga K)) (GL:Fn P w K mg base "_law_lines" 3 ["_law_dice", "_law_most"] IQ) (GRu:Fn P w K mg base "_law_rule_of" 3 ["_law_dice"] GZ) (GT:Fn P w K mg base "_law_table_of" 2 ["_law_due"] IR) (GRl:Fn P w K mg base "_law_roll" 2 ["_law_dice", "_law_many"] D4)
  (GNi:Fn P w K mg base "_law_number_in" 3 ["_law_dice", "_law_known", "_law_way"] D8) (GRW:Fn P w K mg base "_law_rule_with" 6 ["_law_dice", "_law_kind", "_law_table"] (Qw C RC)) (GLB:Fn P w K mg base "_law_let_by" 2 ["_law_table", "_law_wants", "_law_fences"] IZ) (GBt:Fn P w K mg base "_law_bits_of" 1 ["_law_number"] EX)
  (GE:Mt P w K mg base C "__eq__" 2 ["self", "other"] (Jd C)) (GVK:Mt P w K mg base VC "kind" 1 ["self"] (FX VC)) (GVN:Mt P w K mg base VC "number" 1 ["self"] (Db VC)) (GGr:Mt P w K mg base RC "grown" 6 ["self", "value"] (Q0 C VC RC)) (GSh:Mt P w K mg base RC "shrunk" 6 ["self", "value"] (Q3 C VC RC)) (GMe:Mt P w K mg base RC "mended" 6 ["self", "value"] (Q7 C VC RC P0)) :
  Ae P w K mg base CX0 10 f0 fd ["_law_script"] (Lc K P0):=by
 obtain ⟨fRd,dRd,GRd,mRd,kRd,bRd⟩:=GRd.ex;obtain ⟨fL,dL,GL,mL,kL,bL⟩:=GL.ex;obtain ⟨fRu,dRu,GRu,mRu,kRu,bRu⟩:=GRu.ex;obtain ⟨fT,dT,GT,mT,kT,bT⟩:=GT.ex;obtain ⟨fRl,dRl,GRl,mRl,kRl,bRl⟩:=GRl.ex;obtain ⟨fNi,dNi,GNi,mNi,kNi,bNi⟩:=GNi.ex;obtain ⟨fRW,dRW,GRW,mRW,kRW,bRW⟩:=GRW.ex;obtain ⟨fLB,dLB,GLB,mLB,kLB,bLB⟩:=GLB.ex;obtain ⟨fBt,dBt,GBt,mBt,kBt,bBt⟩:=GBt.ex;obtain ⟨fE,dE,GE,mE,bE⟩:=GE.ex;obtain ⟨fVK,dVK,GVK,mVK,bVK⟩:=GVK.ex;obtain ⟨fVN,dVN,GVN,mVN,bVN⟩:=GVN.ex;obtain ⟨fGr,dGr,GGr,mGr,bGr⟩:=GGr.ex;obtain ⟨fSh,dSh,GSh,mSh,bSh⟩:=GSh.ex;obtain ⟨fMe,dMe,GMe,mMe,bMe⟩:=GMe.ex;obtain ⟨fI,dI,MI,GI,⟨gI,kbI⟩,ds,bI,vI⟩:=KO.make;obtain ⟨fV,dV,MV,GV,bV⟩:=VO.make;obtain ⟨fVE,dVE,GVE,mVE,bVE⟩:=VO.eq;have mC:=KO.cls;have mV:=VO.cls;have VT:=VO.VT;refine F.ok scLaw (fun vs H Q E h=>?_) (fun ad A outer s H vs Q E hr h=>?_)
 ·obtain ⟨a,ns,rfl,_⟩:=h;rfl
 ·obtain ⟨a,ns0,rfl,hS,h63,hTab,kend⟩:=h;have hu:=C7 hr;have hu64:=hr.units;have hui:=(hr.in1).units0;have hr1:Room 1 _:=hr.mono (by decide);have hr2:Room 2 _:=hr.mono (by decide);have hr3:Room 3 _:=hr.mono (by decide);have hr4:Room 4 _:=hr.mono (by decide);have hr5:Room 5 _:=hr.mono (by decide);have hr6:Room 6 _:=hr.mono (by decide);have hr7:Room 7 _:=hr.mono (by decide);have nd:=scLaw.nd
  refine ⟨_,AE (BW PassesOwn.never rfl (Ad (AM GRd hr2 rfl mRd kRd bRd .nil AQ (AA (pv 0) (AA AH AB)))) (AO (i:=1) nd rfl (Or.inl rfl))
    (AE (Cz (AM GL hr3 rfl mL kL bL .nil AQ (AA (pv 1) (AA AH AB))) (BI rfl (AR (AO (i:=2) nd rfl (Or.inl rfl)) (AR (AO (i:=3) nd rfl (Or.inl rfl)) A6))))
    (AE (Cz (hs:=by kernel_rfl) (hw:=by kernel_rfl) (BD (AA (AM GRu hr3 rfl mRu kRu bRu .nil AQ (AA (pv 1) AB)) (AA (AM GT hr2 rfl mT kT bT .nil AQ (AA (pv 3) AB)) AB))) (BI rfl (AR (AO (i:=4) nd rfl (Or.inl rfl)) (AR (AO (i:=5) nd rfl (Or.inr rfl)) A6))))
    (AE (Ac (i:=6) nd rfl (Or.inl rfl) (JF MI GI hr7 rfl mC kbI (AA (pv 2) AB) (DR (pv 4) Fj)))
    (AE (Cz (AM GRW hr6 rfl mRW kRW bRW .nil AQ (AA (pv 1) (AA (pv 6) (AA (pv 5) AB)))) (BI rfl (AR (AO (i:=7) nd rfl (Or.inl rfl)) (AR (AO (i:=8) nd rfl (Or.inl rfl)) (AR (AO (i:=9) nd rfl (Or.inl rfl)) A6)))))
    (AE (Ac (i:=10) nd rfl (Or.inl rfl) (AM GLB hr2 rfl mLB kLB bLB .nil AQ (AA (pv 5) (AA (pv 8) (AA (pv 9) AB)))))
    (AD (BW PassesOwn.never rfl (CB rfl B.range (AA AH AB)) (AO (i:=11) nd rfl (Or.inl rfl))
     (AE (Ac (i:=12) nd rfl (Or.inr rfl) (AM GNi hr3 rfl mNi kNi bNi .nil AQ (AA (pv 1) (AA (BK hu (pv 5) Aw (fun _ _=>rfl)) (AA (pv 4) AB)))))
     (BF (Ac (i:=12) nd rfl (Or.inr rfl) (Ik (AU G2 (AM GRl hr2 rfl mRl kRl bRl .nil AQ (AA (pv 1) (AA AH AB))) AH (AY _)) (AW BJ (pv 12) (BK hu (pv 5) Aw (fun _ _=>rfl))) (pv 12)))
     (AE (Ac (i:=13) nd rfl (Or.inl rfl) (FR MV GV hr5 rfl mV bV .nil AQ (AA (pv 6) (AA (pv 12) AB))))
     (BF (Ac (i:=14) nd rfl (Or.inr rfl) (A3 ["_law_number"] [some 12] (by kernel_rfl) (by decide +kernel) (by kernel_rfl) rfl (Ad (pv 10)) (fun _ _ _ _ _ _=>Bg (AU Ck (AW BJ (pv 0) (pv 1)) (pv 1) (AY _))) (fun _ _ _ _ _ _=>pv 0)))
     (BF (MD (tt:=Rz K) (i:=15) nd rfl (by kernel_rfl) ["_law_over"] [some 14] (by kernel_rfl) (fun _ _=>rfl) (fun _=>rfl) (by decide +kernel) (by kernel_rfl) rfl (Ad (pv 14)) ?lst (fun _ _ _ _ _ _=>pv 0))
     (BF (Ac (i:=16) nd rfl (Or.inl rfl) (By (pv 7) RT.cl mGr GGr hr6 bGr .nil AQ (AA (pv 13) AB)))
     (BF (Au (PW.pt (De (AU CI (Mu (Ej (pv 16))) (Bw (KM K rfl hu64) (pv 15) (BX AB) (AY _)) (AY _)) (CZ (PW.pt (Cw (C9 (Ob (pv 16))) (B7 (AU CI (BG (pv 16) VT.cl mVN GVN hr1 bVN .nil AQ) (BZ (A4 K rfl) (pv 15) AH (fun _ _=>rfl)) (AY _)))))))) (AD Ax) Aa)
     (BF (EM (i:=17) nd rfl (by kernel_rfl) ["_law_number"] [some 12] (by kernel_rfl) (by decide +kernel) (by kernel_rfl) rfl (Ad (pv 10)) (fun _ _ _ _ _ _=>Bg (AU Ck (AW BJ (pv 0) (pv 1)) (pv 0) (AY _))) (fun _ _ _ _ _ _=>BD (AA (AW Hn AH (AX (Av K rfl) rfl B.len PySem.boot_len (AA (AM GBt hr1 rfl mBt kBt bBt .nil AQ (AA (pv 0) AB)) AB))) (AA (pv 0) AB))))
     (BF (Au (PW.pt (De (AU CI (BG (By (pv 7) RT.cl mSh GSh hr6 bSh .nil AQ (AA (pv 13) AB)) VT.cl mVN GVN hr1 bVN .nil AQ) (BZ (DV K rfl) (AX (HL K rfl rfl hui) rfl B.min PyProof.Rows.boot_min (AA (pv 17) AB)) AH (fun _ _=>rfl)) (AY _)) (CZ (AU (JH GE hr3 bE mE neK hmK) (BG (By (pv 7) RT.cl mSh GSh hr6 bSh .nil AQ (AA (pv 13) AB)) VT.cl mVK GVK hr1 bVK .nil AQ) (pv 6) (AY _))))) (AD Ax) Aa)
     (BF (EM (i:=18) nd rfl (by kernel_rfl) ["_law_number", "_law_table"] [some 12,some 5] (by kernel_rfl) (by decide +kernel) (by kernel_rfl) rfl (Ad (pv 10)) (fun _ _ _ _ _ _=>BL) (fun _ _ _ _ _ _=>BD (AA (AX (Av K rfl) rfl B.len PySem.boot_len (AA (AM GBt hr1 rfl mBt kBt bBt .nil AQ (AA (AW M6 (pv 0) (AW BJ (pv 1) (BK hu (pv 2) Aw (fun _ _=>rfl)))) AB)) AB)) (AA (pv 0) AB))))
     (BF (Au (AU CI (BG (By (pv 7) RT.cl mMe GMe hr6 bMe .nil AQ (AA (pv 13) AB)) VT.cl mVN GVN hr1 bVN .nil AQ) (BZ (DV K rfl) (AX (HL K rfl rfl hui) rfl B.min PyProof.Rows.boot_min (AA (pv 18) AB)) AH (fun _ _=>rfl)) (AY _)) (AD Ax) Aa)
     (AD (Au (AU CC (pv 12) (pv 10) rfl) (AD (Au (AU (MB GVE hr4 bVE mVE) (BX (AA (pv 16) (AA (By (pv 7) RT.cl mSh GSh hr6 bSh .nil AQ (AA (pv 13) AB)) (AA (By (pv 7) RT.cl mMe GMe hr6 bMe .nil AQ (AA (pv 13) AB)) AB)))) (AW QL (BX (AA (pv 13) AB)) AH) (AY _)) (AD Ax) Aa)) Aa)))))))))))))))))))))
   (AD (AS Pp)),?_⟩
  case lst =>
   intro cl s' H' C' fp pn;exact Bg (AU (KM K rfl hu64) (A3 ["_law_one"] [some 0] (by kernel_rfl) (by decide +kernel) (by kernel_rfl) rfl (Ad (pv 1)) (fun _ _ _ _ _ _=>Bg (AU CI (AW BJ (pv 0) (pv 1)) (pv 1) (AY _))) (fun _ _ _ _ _ _=>pv 0)) (BX AB) (AY _))
  refine ⟨_,rfl,a,ns0,rfl,hS,h63,fun l as H1 s1 hl nd' hla h5 bd=>?_⟩
  refine ⟨l,rfl,⟨_,SqL.of hl⟩,BM (K:=K) (a:=l) (xs:=as.map V.ref) (fun i σ H2=>(∃ v1 v2 v3 v4 v5 v6 v7 v8 v9 v10 v11 v12 v13 v14 v15 v16 v17 v18:Option V,σ=[some (.ref a),v1,v2,v3,v4,v5,v6,v7,v8,v9,v10,v11,v12,v13,v14,v15,v16,v17,v18])/\H2 l=some (.lst (as.map V.ref))/\TabOk H2 P0 qL LS/\∀ (j:Nat) b,i <= j->as[j]?=some b->∃ x y:Int,H2 b=some (.lst [.int x,.int y]))
   ⟨⟨none,none,none,none,none,none,none,none,none,none,none,none,none,none,none,none,none,none,rfl⟩,hl,TabOk.same s1 hTab,fun j b _ e=>(bd b (mem_of_getElem? e)).2⟩ (fun i σ H2 _ ⟨_,e,_⟩=>SqL.of e) ?_ (fun σ H2 ⟨⟨v1,v2,v3,v4,v5,v6,v7,v8,v9,v10,v11,v12,v13,v14,v15,v16,v17,v18,e⟩,_⟩=>by subst e; exact kend _)⟩
  rintro i v σ H2 hi ⟨⟨v1,v2,v3,v4,v5,v6,v7,v8,v9,v10,v11,v12,v13,v14,v15,v16,v17,v18,rfl⟩,hl2,hT2,hds⟩;rw [getElem?_map] at hi;obtain ⟨d,hdi,rfl⟩:=Option.map_eq_some_iff.mp hi;obtain ⟨x,y,hd⟩:=hds i d (Nat.le_refl _) hdi;have hld:l ≠ d:=fun z=>hla (z ▸ mem_of_getElem? hdi);have hlP:l ≠ P0:=TabOk.ne hl2 hT2
  have fin:∀ v1 v2 v3 v4 v5 v6 v7 v8 v9 v10 v11 v12 v13 v14 v15 v16 v17 v18:Option V,∀ H',Rl d P0 H2 H'->TabOk H' P0 qL LS->(∃ w1 w2 w3 w4 w5 w6 w7 w8 w9 w10 w11 w12 w13 w14 w15 w16 w17 w18:Option V,[some (.ref a),v1,v2,v3,v4,v5,v6,v7,v8,v9,v10,v11,v12,v13,v14,v15,v16,v17,v18]=[some (.ref a),w1,w2,w3,w4,w5,w6,w7,w8,w9,w10,w11,w12,w13,w14,w15,w16,w17,w18])/\H' l=some (.lst (as.map V.ref))/\TabOk H' P0 qL LS/\∀ (j:Nat) b,i + 1 <= j->as[j]?=some b->∃ x y:Int,H' b=some (.lst [.int x,.int y]):=fun v1 v2 v3 v4 v5 v6 v7 v8 v9 v10 v11 v12 v13 v14 v15 v16 v17 v18 H' R hT=>by
   refine ⟨⟨v1,v2,v3,v4,v5,v6,v7,v8,v9,v10,v11,v12,v13,v14,v15,v16,v17,v18,rfl⟩,R _ _ hl2 hld hlP (fun _ z=>nomatch z),hT,fun j b hj e=>?_⟩
   have hbd:b ≠ d:=fun z=>by
    subst z;obtain ⟨hj2,ej⟩:=List.getElem?_eq_some_iff.mp e;obtain ⟨hi2,ei⟩:=List.getElem?_eq_some_iff.mp hdi;exact (List.pairwise_iff_getElem.mp nd') i j hi2 hj2 (by omega) (by rw [ei,ej])
   obtain ⟨x5,y5,e5⟩:=hds j b (by omega) e;exact ⟨x5,y5,R _ _ e5 hbd (TabOk.ne e5 hT2) (fun _ z=>nomatch z)⟩
  refine ⟨_,rfl,d,x,y,8,rfl,by decide,by decide,hd,fun q f u fs bs0 rows Ha sXa hq hfn hun hf hP hu0 am r0 r8 RO ap=>?_⟩;refine ⟨q,_,rfl,SqT.of hq,rfl,_,_,rfl,_,_,rfl,rfl,?_⟩;obtain ⟨xa,ya,hda⟩:=sXa.dice;have fd_:f ≠ d:=fun z=>by rw [z,hd] at hfn; cases hfn
  have ud:u ≠ d:=fun z=>by rw [z,hd] at hun; cases hun
  have r8':rows.length <= 8:=by omega
  have DO:=Ja RO (by omega);have h8:(AL rows).length <= 8:=by rw [Bi]; exact r8'
  have asc:Asc (AL rows):=fun p hp=>(DO.nm p hp).2.1;refine ⟨_,rfl,d,xa,ya,rfl,hda,fun r Hb ao sXb=>?_⟩;obtain ⟨xb,yb,hdb⟩:=sXb.dice;have D1b:DueL Hb u (AL rows):=DueL.sameX hda ud sXb ⟨bs0,hu0,am⟩;obtain ⟨bs1,al,hbsb⟩:=D1b;refine ⟨_,rfl,u,bs1,AL rows,rfl,al,hbsb,DO.len,DO.lt,fun t e m ms Hc0 sc0 ht0 he0 hm0 hms0=>⟨sl2,fun tq htq=>⟨tq,_,rfl,SqT.of upd_same,rfl,_,_,rfl,_,_,rfl,rfl,?_⟩⟩⟩;have stq:=AC (Same.refl _) htq (o:=HO.tup [V.str r,V.ref t]);have sc:=sc0.trans stq;have ht:=stq _ _ ht0;have hm:=stq _ _ hm0;have hms:=TupsAt.same stq hms0;clear ht0 he0 hm0 hms0 sc0;generalize upd Hc0 tq (HO.tup [V.str r,V.ref t])=Hc at stq sc ht hm hms ⊢;clear stq htq;have hPb:Paired (RowAt Hb) fs rows:=A5 (fun b xs e=>KeepL.sameX hda sXb _ _ e (fun _ z=>nomatch z)) hP;have hfb:=sXb.old _ _ hf fd_
  have hmd:m ≠ d:=fun z=>by
   rw [z,sc _ _ hdb] at hm;exact Fa (Option.some.inj hm).symm
  refine ⟨_,rfl,_,rfl,?_⟩;intro k dk hk hdk av;have sN:=Cu (D:=C) hk hdk av;refine ⟨k,dk,f,rows,r,rfl,upd_same,⟨fs,sN _ _ (sc _ _ hfb),A5 (SameT.of sN) (A5 (SameT.of sc) hPb)⟩,r0,by omega,RO,ao,fun Hd sd KA=>⟨rfl,?_⟩⟩;have sbd:=sc.trans (Be sN hk sd);have LT:LTab Hd t e m ms (AL rows):=(⟨ht,hm,hms⟩:LTab Hc t e m ms (AL rows)).same (Be sN hk sd);have hdd:=sbd _ _ hdb;have R0:Rl d P0 H2 Hd:=((Rl.sameX sXa).trans (Rl.sameX sXb)).trans (Rl.same sbd);have hT0:TabOk Hd P0 qL LS:=TabOk.same sbd (TabOk.sameX hda sXb (TabOk.sameX hd sXa hT2));have hfd:=sbd _ _ hfb;have hPd:Paired (RowAt Hd) fs rows:=A5 (SameT.of sbd) hPb;clear sN hk hdk av sd ht hm hms sc al hbsb hPb hfb sXb hdb hda sXa hu0 am hf hP hq hfn hun;refine ⟨_,rfl,_,rfl,_,rfl,d,k,t,e,m,xb,yb,ms,AL rows,r,rfl,hdd,KA,LT,hmd,h8,DO.nd,fun q2 p lw lf ns bs He sXe cb cc hq2 RU PWe PFe PN PB hLL=>?_⟩;refine ⟨q2,_,rfl,SqT.of hq2,rfl,_,_,rfl,_,_,rfl,_,_,rfl,rfl,?_⟩;have kl:=KeepL.sameX hdd sXe;have KAe:=KA.keepL kl;have LTe:LTab He t e m ms (AL rows):=⟨kl _ _ LT.ht (fun _ z=>nomatch z),sXe.old _ _ LT.hm hmd,TupsAt.sameT (fun b xs e=>kl _ _ e (fun _ z=>nomatch z)) LT.hms⟩;refine ⟨_,rfl,_,rfl,_,rfl,t,e,m,lw,lf,ms,AL rows,ns,bs,rfl,LTe,PWe,PFe,DO.nd,h8,PN,PB,fun gl Hf sf c4 hgl=>?_⟩;obtain ⟨xe,ye,hde⟩:=sXe.dice
  have W0:Wr C RC d P0 k t e m p lw lf gl f ms fs rows r ns bs Hf:=by
   obtain ⟨dx,fs',d',ln,lb,ob,ll,h1,h2⟩:=id RU;refine ⟨⟨⟨xe,ye,sf _ _ hde⟩,TabOk.same sf (TabOk.sameX hdd sXe hT0)⟩,KAe.same sf,LTe.same sf,RU.same sf,fun l' ⟨dx2,fs2,e1,e2⟩ z=>?_,hgl,(fun z=>by rw [z,hde] at c4; cases c4),PWe.same sf,PFe.same sf,sf _ _ (sXe.old _ _ hfd fd_),A5 (SameT.of sf) (A5 (fun b xs e=>kl _ _ e (fun _ z=>nomatch z)) hPd)⟩;have h3:=sf _ _ h1;rw [e1] at h3;have:=hLL l' ⟨dx,fs',h1,by cases h3; exact e2⟩;rw [z,hdd] at this;cases this
  have R1:Rl d P0 H2 Hf:=(R0.trans (Rl.sameX sXe)).trans (Rl.same sf);clear hgl c4 sf LTe KAe kl hLL PFe PWe RU hq2 cb cc sXe hPd hfd hT0 R0 hdd LT KA hde
  have av:(AK (AL rows) ns bs).length <= 256:=by
   have h1:=length_filter_le (fun n=>(At (AL rows) ns bs n).isNone) (uns (AG (AL rows)));have h2:(uns (AG (AL rows))).length <= 256:=by rw [Ea]; exact OF (Nat.le_trans (BO _) h8)
   exact Nat.le_trans h1 h2
  have ndn:=DO.nd;have bh:=DO.lt;have rise:=FB (AL rows) ns bs;have clos:∀ a ∈ AK (AL rows) ns bs,∀ b ∈ AK (AL rows) ns bs,a &&& b ∈ AK (AL rows) ns bs:=fun a ha b hb=>OR ndn PN PB ha hb;refine ⟨6,rfl,by decide,by decide,El (lo:=0) (n:=6) (fun i σ H4=>(∃ v11 v12 v13 v14 v15 v16 v17 v18:Option V,σ=[some (.ref a),some (.ref d),some (.ref f),some (.ref u),some (.str r),some (.ref t),some (.ref k),some (.ref p),some (.ref lw),some (.ref lf),some (.ref gl),v11,v12,v13,v14,v15,v16,v17,v18])/\Wr C RC d P0 k t e m p lw lf gl f ms fs rows r ns bs H4/\Rl d P0 H2 H4) ⟨⟨_,_,_,_,_,_,_,_,rfl⟩,W0,R1⟩ ?_ (fun σ H4 ⟨⟨v11,v12,v13,v14,v15,v16,v17,v18,e⟩,W4,R4⟩=>by subst e; exact fin _ _ _ _ _ _ _ _ _ _ _ _ _ _ _ _ _ _ _ R4 W4.wb.tab)⟩;rintro ii σ H4 hii ⟨⟨v11,v12,v13,v14,v15,v16,v17,v18,rfl⟩,W4,R4⟩;obtain ⟨x4,y4,hd4⟩:=W4.wb.dice;refine ⟨_,rfl,_,rfl,t,_,rfl,.inl ⟨_,Sum.inr "known", .inl W4.lt.ht,rfl,(Mi _ _ _).symm⟩,_,rfl,d,x4,y4,kn (AL rows),r,rfl,hd4,fun n0 H5 h40 hb s5=>?_⟩;have W5:=W4.sameX s5;have R5:=R4.trans (Rl.sameX s5);refine ⟨fun σ H'=>∃ n:Nat,σ=[some (.ref a),some (.ref d),some (.ref f),some (.ref u),some (.str r),some (.ref t),some (.ref k),some (.ref p),some (.ref lw),some (.ref lf),some (.ref gl),some (.int (0 + (ii:Int))),some (.int (n:Int)),v13,v14,v15,v16,v17,v18]/\n < 2 ^ 40/\(r = "keep" \/ n - (n &&& kn (AL rows))=0)/\Wr C RC d P0 k t e m p lw lf gl f ms fs rows r ns bs H'/\Rl d P0 H2 H',fun R hR=>?_,?_⟩
  ·obtain ⟨x5,y5,hd5⟩:=W5.wb.dice;refine ⟨_,rfl,d,x5,y5,3,rfl,hd5,by decide,by decide,fun r1 a1 b1 r10 r11=>⟨_,_,rfl,rfl,_,rfl,?_⟩⟩;have sx:SameX d H5 (upd H5 d (.lst [.int a1,.int b1])):=Dc hd5;have W6:=W5.sameX sx;have R6:=R5.trans (Rl.sameX sx);refine Bn (fun _=>?_) (fun _=>?_)
   ·refine ⟨_,rfl,_,rfl,t,_,rfl,.inl ⟨_,Sum.inr "bits", .inl W6.lt.ht,rfl,(Gb _ _ _).symm⟩,_,_,rfl,rfl,hR _ _ ⟨n0 &&& AZ (AG (AL rows)),?_,Nat.lt_of_le_of_lt Nat.and_le_left h40,.inr (Pk n0),W6,R6⟩⟩;rw [← BE];rfl
   ·exact ⟨_,rfl,hR _ _ ⟨n0,rfl,h40,hb,W6,R6⟩⟩
  rintro σ H6 ⟨n,rfl,hn40,hnb,W6,R6⟩;clear W5 R5 h40 hb;refine ⟨_,rfl,_,rfl,?_⟩;intro vq dq hq hdq hneq;have sN:=Cu (D:=VC) hq hdq hneq;refine ⟨vq,dq,k,AL rows,r,n,rfl,upd_same,W6.ka.same sN,hn40,hnb,fun H7 s7 hV=>⟨rfl,?_⟩⟩;have s67:=Be sN hq s7;have W7:=W6.same s67;have R7:=R6.trans (Rl.same s67);clear W6 R6 sN s7 hq hdq hneq s67;refine ⟨fun σ H'=>∃ lo:Addr,σ=[some (.ref a),some (.ref d),some (.ref f),some (.ref u),some (.str r),some (.ref t),some (.ref k),some (.ref p),some (.ref lw),some (.ref lf),some (.ref gl),some (.int (0 + (ii:Int))),some (.int (n:Int)),some (.ref vq),some (.ref lo),v15,v16,v17,v18]/\H' lo=some (.lst (AT (BC (AK (AL rows) ns bs) n)))/\Same H7 H',fun R hR=>?_,?_⟩
  ·refine ⟨_,rfl,gl,rfl,⟨_,SqL.of W7.hgl⟩,Ai (K:=K) (a:=gl) (xs:=AT (AK (AL rows) ns bs)) (fun j zs H5=>zs=AT (BC ((AK (AL rows) ns bs).take j) n)/\H5=H7) ⟨rfl,rfl⟩ (fun j zs H5 _ ⟨_,e⟩=>e ▸ SqL.of W7.hgl) (fun j zs H5 ⟨e,_⟩=>?_) ?_ ?_⟩
   ·have:=length_filter_le (fun o=>decide (o &&& n=n)) ((AK (AL rows) ns bs).take j);rw [length_take] at this;rw [e,Af];unfold BC;omega
   ·rintro j x zs H5 hj ⟨rfl,rfl⟩;obtain ⟨o,ho,rfl⟩:=Bz hj;have et:BC ((AK (AL rows) ns bs).take (j + 1)) n=_:=PySem.take_succ_filter (fun o=>decide (o &&& n=n)) _ j o ho;refine ⟨_,rfl,_,rfl,_,_,rfl,rfl,_,rfl,rfl,_,rfl,?_⟩;rw [Ju];by_cases h1:o &&& n=n
    ·rw [decide_eq_true h1];rw [decide_eq_true h1,if_pos rfl] at et;refine BY ⟨_,rfl,?_,rfl⟩;rw [et];unfold AT;rw [map_append];rfl
    ·rw [decide_eq_false h1];rw [decide_eq_false h1,if_neg Bool.false_ne_true,append_nil] at et;exact As ⟨by rw [et]; rfl,rfl⟩
   ·rintro zs H5 ⟨rfl,rfl⟩ z hz;rw [Af,take_length];exact hR _ _ ⟨z,rfl,upd_same,AC (Same.refl _) hz⟩
  rintro σ H8 ⟨lo,rfl,hlo,s8⟩;have hol:(BC (AK (AL rows) ns bs) n).length <= 256:=Nat.le_trans (length_filter_le _ _) av;refine ⟨fun σ H'=>∃ le:Addr,σ=[some (.ref a),some (.ref d),some (.ref f),some (.ref u),some (.str r),some (.ref t),some (.ref k),some (.ref p),some (.ref lw),some (.ref lf),some (.ref gl),some (.int (0 + (ii:Int))),some (.int (n:Int)),some (.ref vq),some (.ref lo),some (.ref le),v16,v17,v18]/\H' le=some (.lst (AT (Ku (AK (AL rows) ns bs) n)))/\Same H7 H',fun R hR=>?_,?_⟩
  ·refine ⟨_,rfl,lo,rfl,⟨_,SqL.of hlo⟩,Ai (K:=K) (a:=lo) (xs:=AT (BC (AK (AL rows) ns bs) n)) (fun j zs H5=>zs=AT (((BC (AK (AL rows) ns bs) n).take j).filter fun o=>((BC (AK (AL rows) ns bs) n).filter fun q=>decide (q &&& o ≠ o)).isEmpty)/\Same H8 H5) ⟨rfl,Same.refl _⟩ (fun j zs H5 _ ⟨_,s5⟩=>SqL.of (s5 _ _ hlo)) (fun j zs H5 ⟨e,_⟩=>?_) ?_ ?_⟩
   ·have:=length_filter_le (fun o=>((BC (AK (AL rows) ns bs) n).filter fun q=>decide (q &&& o ≠ o)).isEmpty) ((BC (AK (AL rows) ns bs) n).take j);rw [length_take] at this;rw [e,Af];omega
   ·rintro j x zs H5 hj ⟨rfl,s5⟩;obtain ⟨o,ho,rfl⟩:=Bz hj;have et:=PySem.take_succ_filter (fun o=>((BC (AK (AL rows) ns bs) n).filter fun q=>decide (q &&& o ≠ o)).isEmpty) _ j o ho;refine RB (gs:=BC (AK (AL rows) ns bs) n) (n:=o) rfl (s5 _ _ hlo) hol fun H9 s9=>?_;cases hb:((BC (AK (AL rows) ns bs) n).filter fun q=>decide (q &&& o ≠ o)).isEmpty with
    | true =>
     rw [hb,if_pos rfl] at et;refine BY ⟨_,rfl,?_,s5.trans s9⟩;rw [et];unfold AT;rw [map_append];rfl
    | false =>
     rw [hb,if_neg Bool.false_ne_true,append_nil] at et;exact As ⟨by rw [et],s5.trans s9⟩
   ·rintro zs H5 ⟨rfl,s5⟩ z hz;rw [Af,take_length];exact hR _ _ ⟨z,rfl,upd_same,s8.trans (AC s5 hz)⟩
  clear hlo s8;rintro σ H8 ⟨le,rfl,hle,s8⟩;rw [OS rise clos] at hle;have W8:=W7.same s8;have R8:=R7.trans (Rl.same s8);have hV8:=hV.same s8;have O8:OwnG C VC RC H8 p vq k n (AL rows) r ns bs:=⟨W8.ru,W8.ka,asc,hV8⟩;clear W7 R7 hV s8;refine ⟨fun σ H'=>∃ xg:V,σ=[some (.ref a),some (.ref d),some (.ref f),some (.ref u),some (.str r),some (.ref t),some (.ref k),some (.ref p),some (.ref lw),some (.ref lf),some (.ref gl),some (.int (0 + (ii:Int))),some (.int (n:Int)),some (.ref vq),some (.ref lo),some (.ref le),some xg,v17,v18]/\Js VC k H' xg (BA (AK (AL rows) ns bs) n)/\Same H8 H',fun R hR=>?_,?_⟩
  ·obtain ⟨dx,fs',d',ln,lb,ob,ll,hp,RFp,_⟩:=id W8.ru;exact ⟨_,rfl,p,dx,_,rfl,hp,RFp.no _ (by decide +kernel),_,rfl,p,vq,k,n,AL rows,r,ns,bs,rfl,O8,bh,fun x H9 s9 hG=>hR _ _ ⟨x,rfl,hG,s9⟩⟩
  rintro σ H9 ⟨xg,rfl,hG,s9⟩;have br:=s9 _ _ hle;refine ⟨fun σ H'=>σ=[some (.ref a),some (.ref d),some (.ref f),some (.ref u),some (.str r),some (.ref t),some (.ref k),some (.ref p),some (.ref lw),some (.ref lf),some (.ref gl),some (.int (0 + (ii:Int))),some (.int (n:Int)),some (.ref vq),some (.ref lo),some (.ref le),some xg,v17,v18]/\Same H9 H',fun R hR=>?_,?_⟩
  ·cases hg:BA (AK (AL rows) ns bs) n with
   | none =>
    rw [hg] at hG br;have ex:xg=.non:=hG;subst ex;refine ⟨_,rfl,_,rfl,Nat.zero_le _,fun z hz=>?_⟩;have sz:=AC (Same.refl _) hz (o:=HO.lst []);refine ⟨_,_,Ba (sz _ _ br) (EZ _),Ba upd_same FV,Bd _,Bd [],rfl,_,rfl,?_⟩;rw [FW];refine As ⟨_,rfl,_,rfl,?_⟩;exact As (As (hR _ _ ⟨rfl,sz⟩))
   | some o =>
    rw [hg] at hG br;obtain ⟨gq,rfl,hGV⟩:=hG;refine ⟨_,rfl,_,rfl,Nat.zero_le _,fun z hz=>?_⟩;have sz:=AC (Same.refl _) hz (o:=HO.lst []);refine ⟨_,_,Ba (sz _ _ br) (EZ _),Ba upd_same FV,Bd _,Bd [],rfl,_,rfl,?_⟩;rw [FW];refine As ⟨_,rfl,_,rfl,?_⟩;obtain ⟨dg,hgq⟩:=id (hGV.same sz);refine BY ⟨_,rfl,gq,dg,_,rfl,hgq,HW _ _ (by decide +kernel) (by decide +kernel),gq,k,o,rfl,hGV.same sz,_,rfl,le,_,0,.int (o:Int),rfl,rfl,SqL.of (sz _ _ br),rfl,rfl,_,rfl,?_⟩;rw [decide_eq_true (rfl:V.int (o:Int)=V.int (o:Int))];exact As (hR _ _ ⟨rfl,sz⟩)
  rintro σ H10 ⟨rfl,s10⟩;have W10:=(W8.same s9).same s10;have R10:=R8.trans (Rl.same (s9.trans s10));have O10:=(O8.same s9).same s10
  have hG10:Js VC k H10 xg (BA (AK (AL rows) ns bs) n):=by
   revert hG;cases BA (AK (AL rows) ns bs) n with
   | none=>exact fun h=>h
   | some o=>exact fun ⟨q,e,h⟩=>⟨q,e,h.same s10⟩
  clear W8 R8 O8 hV8 hle br hG s9 s10;refine ⟨fun σ H'=>∃ (lu:Addr) (us:List Addr),σ=[some (.ref a),some (.ref d),some (.ref f),some (.ref u),some (.str r),some (.ref t),some (.ref k),some (.ref p),some (.ref lw),some (.ref lf),some (.ref gl),some (.int (0 + (ii:Int))),some (.int (n:Int)),some (.ref vq),some (.ref lo),some (.ref le),some xg,some (.ref lu),v18]/\H' lu=some (.lst (us.map V.ref))/\Br H' us (Ky (Bv (AK (AL rows) ns bs) n))/\Same H10 H',fun R hR=>?_,?_⟩
  ·refine ⟨_,rfl,gl,rfl,⟨_,SqL.of W10.hgl⟩,Ai (K:=K) (a:=gl) (xs:=AT (AK (AL rows) ns bs)) (fun j zs H5=>(∃ us:List Addr,zs=us.map V.ref/\us.length <= j/\j <= 256/\Br H5 us (Ky (((AK (AL rows) ns bs).take j).filter fun o=>decide (o &&& n=o))))/\Same H10 H5) ⟨⟨[],rfl,Nat.le_refl _,by decide,.nil⟩,Same.refl _⟩ (fun j zs H5 _ ⟨_,s5⟩=>SqL.of (s5 _ _ W10.hgl)) (fun j zs H5 ⟨⟨us,e,h1,h2,_⟩,_⟩=>by rw [e,length_map]; omega) ?_ ?_⟩
   ·rintro j x zs H5 hj ⟨⟨us,rfl,hul,hj2,hus⟩,s5⟩;obtain ⟨o,ho,rfl⟩:=Bz hj;have et:=PySem.take_succ_filter (fun o=>decide (o &&& n=o)) _ j o ho;have hj3:j + 1 <= 256:=by have:=(List.getElem?_eq_some_iff.mp ho).1; omega
    refine ⟨_,rfl,_,rfl,_,_,rfl,rfl,_,rfl,rfl,_,rfl,?_⟩;rw [OV];by_cases h1:o &&& n=o
    ·rw [decide_eq_true h1];rw [decide_eq_true h1,if_pos rfl] at et;refine BY ⟨_,rfl,o,rfl,fun lb ys H6 s6 hlb ay=>⟨lb,_,rfl,.inl (SqL.of hlb),_,_,rfl,rfl,_,rfl,sl2,fun tb au=>?_⟩⟩;have st:=AC s6 au (o:=HO.tup [V.int (0 - ((ys.length:Nat):Int)),V.int (o:Int)]);refine ⟨⟨us++[tb],by rw [map_append]; rfl,by rw [length_append]; show us.length + 1 <= j + 1; omega,hj3,?_⟩,s5.trans st⟩;rw [et];unfold Ky;rw [map_append];refine FL st hus ?_;rw [upd_same,ay];rfl
    ·rw [decide_eq_false h1];rw [decide_eq_false h1,if_neg Bool.false_ne_true,append_nil] at et;exact As ⟨⟨us,rfl,by omega,hj3,by rw [et]; exact hus⟩,s5⟩
   ·rintro zs H5 ⟨⟨us,rfl,hul,hj2,hus⟩,s5⟩ z hz;rw [Af,take_length,← Kx] at hus;exact hR _ _ ⟨z,us,rfl,upd_same,CY (AC (Same.refl _) hz) hus,AC s5 hz⟩
  rintro σ H11 ⟨lu,us,rfl,hlu,hus,s11⟩;have W11:=W10.same s11;have R11:=R10.trans (Rl.same s11);have O11:=O10.same s11
  have hG11:Js VC k H11 xg (BA (AK (AL rows) ns bs) n):=by
   revert hG10;cases BA (AK (AL rows) ns bs) n with
   | none=>exact fun h=>h
   | some o=>exact fun ⟨q,e,h⟩=>⟨q,e,h.same s11⟩
  have hun:us ≠ []:=fun z=>by
   have h1:=hus.length;rw [z] at h1;have h2:(0:Nat) ∈ Bv (AK (AL rows) ns bs) n:=Gn;cases hi:Bv (AK (AL rows) ns bs) n with
   | nil=>rw [hi] at h2; cases h2
   | cons q w=>rw [hi] at h1; cases h1
  clear W10 R10 O10 hG10 s11;refine ⟨fun σ H'=>σ=[some (.ref a),some (.ref d),some (.ref f),some (.ref u),some (.str r),some (.ref t),some (.ref k),some (.ref p),some (.ref lw),some (.ref lf),some (.ref gl),some (.int (0 + (ii:Int))),some (.int (n:Int)),some (.ref vq),some (.ref lo),some (.ref le),some xg,some (.ref lu),v18]/\Same H11 H',fun R hR=>?_,?_⟩
  ·obtain ⟨dx,fs',d',ln,lb,ob,ll,hp,RFp,_⟩:=id W11.ru;refine ⟨_,rfl,p,dx,_,rfl,hp,RFp.no _ (by decide +kernel),_,rfl,p,vq,k,n,AL rows,r,ns,bs,rfl,O11,bh,h8,fun m1 q1 H12 em1 s12 hV1=>?_⟩;obtain ⟨dq1,hq1⟩:=id hV1;refine ⟨q1,dq1,_,rfl,hq1,HW _ _ (by decide +kernel) (by decide +kernel),q1,k,m1,rfl,hV1,_,rfl,lu,us,_,rfl,SqL.of (s12 _ _ hlu),CY s12 hus,hun,fun tb au=>⟨tb,_,1,_,rfl,rfl,SqT.of au,rfl,rfl,_,rfl,?_⟩⟩;rw [Q8,← em1,decide_eq_true (rfl:V.int (m1:Int)=V.int (m1:Int))];refine As ?_;refine ⟨_,rfl,p,dx,_,rfl,s12 _ _ hp,RFp.no _ (by decide +kernel),_,rfl,p,vq,k,n,AL rows,r,ns,bs,rfl,O11.same s12,bh,h8,fun m2 q2 H13 em2 s13 hV2=>?_⟩;obtain ⟨dq2,hq2⟩:=id hV2;have W13:=(W11.same s12).same s13;obtain ⟨dk,e1,e2,hk⟩:=W13.ka.ins;refine ⟨q2,dq2,_,rfl,hq2,HW _ _ (by decide +kernel) (by decide +kernel),q2,k,m2,rfl,hV2,_,rfl,?_⟩;refine ⟨k,dk,_,k,dk,_,rfl,rfl,hk,hk,k,k,AL rows,r,rfl,W13.ka,asc,.inr ⟨AL rows,r,W13.ka,asc,fun H14 s14=>⟨_,rfl,_,rfl,_,rfl,?_⟩⟩⟩;rw [decide_eq_true (show AL rows=AL rows/\r=r from ⟨rfl,rfl⟩)];exact As (hR _ _ ⟨rfl,(s12.trans s13).trans s14⟩)
  rintro σ H12 ⟨rfl,s12⟩;have W12:=W11.same s12;have R12:=R11.trans (Rl.same s12);have O12:=O11.same s12
  have hG12:Js VC k H12 xg (BA (AK (AL rows) ns bs) n):=by
   revert hG11;cases BA (AK (AL rows) ns bs) n with
   | none=>exact fun h=>h
   | some o=>exact fun ⟨q,e,h⟩=>⟨q,e,h.same s12⟩
  clear W11 R11 O11 hG11 hlu hus hun s12;refine ⟨fun σ H'=>∃ (ln:Addr) (us:List Addr),σ=[some (.ref a),some (.ref d),some (.ref f),some (.ref u),some (.str r),some (.ref t),some (.ref k),some (.ref p),some (.ref lw),some (.ref lf),some (.ref gl),some (.int (0 + (ii:Int))),some (.int (n:Int)),some (.ref vq),some (.ref lo),some (.ref le),some xg,some (.ref lu),some (.ref ln)]/\H' ln=some (.lst (us.map V.ref))/\Br H' us (Go (AK (AL rows) ns bs) (n &&& AZ (AG (AL rows))))/\Same H12 H',fun R hR=>?_,?_⟩
  ·refine ⟨_,rfl,gl,rfl,⟨_,SqL.of W12.hgl⟩,Ai (K:=K) (a:=gl) (xs:=AT (AK (AL rows) ns bs)) (fun j zs H5=>(∃ us:List Addr,zs=us.map V.ref/\us.length <= j/\j <= 256/\Br H5 us (Go ((AK (AL rows) ns bs).take j) (n &&& AZ (AG (AL rows)))))/\Same H12 H5) ⟨⟨[],rfl,Nat.le_refl _,by decide,.nil⟩,Same.refl _⟩ (fun j zs H5 _ ⟨_,s5⟩=>SqL.of (s5 _ _ W12.hgl)) (fun j zs H5 ⟨⟨us,e,h1,h2,_⟩,_⟩=>by rw [e,length_map]; omega) ?_ ?_⟩
   ·rintro j x zs H5 hj ⟨⟨us,rfl,hul,hj2,hus⟩,s5⟩;obtain ⟨o,ho,rfl⟩:=Bz hj;have hj3:j + 1 <= 256:=by have:=(List.getElem?_eq_some_iff.mp ho).1; omega
    refine ⟨_,rfl,_,rfl,_,rfl,t,_,rfl,.inl ⟨_,Sum.inr "bits", .inl (W12.same s5).lt.ht,rfl,(Gb _ _ _).symm⟩,_,_,rfl,rfl,_,_,rfl,rfl,o ^^^ (n &&& AZ (AG (AL rows))),?_,fun lb ys H6 s6 hlb ay=>⟨lb,_,rfl,.inl (SqL.of hlb),_,rfl,sl2,fun tb au=>?_⟩⟩
    ·show [V.int (Builtin.bitXor (o:Int) (Builtin.bitAnd (n:Int) ((AZ (AG (AL rows)):Nat):Int)))]=_;rw [BE,Lb]
    have st:=AC s6 au (o:=HO.tup [V.int ((ys.length:Nat):Int),V.int (o:Int)]);refine ⟨⟨us++[tb],by rw [map_append]; rfl,by rw [length_append]; show us.length + 1 <= j + 1; omega,hj3,?_⟩,s5.trans st⟩;rw [take_add_one,ho];unfold Go;rw [map_append];refine FL st hus ?_;rw [upd_same,ay];rfl
   ·rintro zs H5 ⟨⟨us,rfl,hul,hj2,hus⟩,s5⟩ z hz;rw [Af,take_length] at hus;exact hR _ _ ⟨z,us,rfl,upd_same,CY (AC (Same.refl _) hz) hus,AC s5 hz⟩
  rintro σ H13 ⟨lnr,us,rfl,hln,hus,s13⟩;have W13:=W12.same s13;have R13:=R12.trans (Rl.same s13);have O13:=O12.same s13
  have hG13:Js VC k H13 xg (BA (AK (AL rows) ns bs) n):=by
   revert hG12;cases BA (AK (AL rows) ns bs) n with
   | none=>exact fun h=>h
   | some o=>exact fun ⟨q,e,h⟩=>⟨q,e,h.same s13⟩
  have hun:us ≠ []:=fun z=>by
   have h1:=hus.length;rw [z] at h1;have h2:(0:Nat) ∈ AK (AL rows) ns bs:=Dd _ _ _;cases hi:AK (AL rows) ns bs with
   | nil=>rw [hi] at h2; cases h2
   | cons q w=>rw [hi] at h1; cases h1
  clear W12 R12 O12 hG12 s13;refine ⟨fun σ H'=>σ=[some (.ref a),some (.ref d),some (.ref f),some (.ref u),some (.str r),some (.ref t),some (.ref k),some (.ref p),some (.ref lw),some (.ref lf),some (.ref gl),some (.int (0 + (ii:Int))),some (.int (n:Int)),some (.ref vq),some (.ref lo),some (.ref le),some xg,some (.ref lu),some (.ref lnr)]/\Wr C RC d P0 k t e m p lw lf gl f ms fs rows r ns bs H'/\Rl d P0 H2 H'/\OwnG C VC RC H' p vq k n (AL rows) r ns bs/\Js VC k H' xg (BA (AK (AL rows) ns bs) n),fun R hR=>?_,?_⟩
  ·obtain ⟨dx,fs',d',ln,lb,ob,ll,hp,RFp,_⟩:=id W13.ru;refine ⟨_,rfl,p,dx,_,rfl,hp,RFp.no _ (by decide +kernel),_,rfl,p,vq,k,n,AL rows,r,ns,bs,rfl,O13,bh,h8,hn40,W13.wb.tab,fun m1 q1 H14 em1 sB T14 hV1=>?_⟩;have kp:∀ {b:Addr} {o:HO},H13 b=some o->(∀ ps,o ≠ .tbl ps)->H14 b=some o:=fun e h=>Ie W13.wb.tab sB e h;have W14:=W13.go (Rl.sameB sB) (W13.wb.sameB sB T14);have R14:=R13.trans (Rl.sameB sB)
   have hV14:ValAt VC H14 vq k n:=by
    obtain ⟨dv,hv⟩:=O13.hv;exact ⟨dv,kp hv (fun _ z=>nomatch z)⟩
   have O14:OwnG C VC RC H14 p vq k n (AL rows) r ns bs:=⟨W14.ru,W14.ka,asc,hV14⟩
   have hG14:Js VC k H14 xg (BA (AK (AL rows) ns bs) n):=by
    revert hG13;cases BA (AK (AL rows) ns bs) n with
    | none=>exact fun h=>h
    | some o=>exact fun ⟨q,e,dv,h⟩=>⟨q,e,dv,kp h (fun _ z=>nomatch z)⟩
   obtain ⟨dq1,hq1⟩:=id hV1;refine ⟨q1,dq1,_,rfl,hq1,HW _ _ (by decide +kernel) (by decide +kernel),q1,k,m1,rfl,hV1,_,rfl,lnr,us,_,rfl,SqL.of (kp hln (fun _ z=>nomatch z)),Mr W13.wb.tab sB hus,hun,fun tb au=>⟨tb,_,1,_,rfl,rfl,SqT.of au,rfl,rfl,_,rfl,?_⟩⟩;rw [Q9,← em1,decide_eq_true (rfl:V.int (m1:Int)=V.int (m1:Int))];exact As (hR _ _ ⟨rfl,W14,R14,O14,hG14⟩)
  clear W13 R13 O13 hG13 hln hus hun;rintro σ H14 ⟨rfl,W14,R14,O14,hG14⟩;refine ⟨_,rfl,_,rfl,gl,_,rfl,.inl (SqL.of W14.hgl),rfl,Hk _,_,rfl,?_⟩;refine Bn (fun hin=>?_) (fun _=>⟨⟨_,_,_,_,_,_,_,_,rfl⟩,W14,R14⟩);have hng:=Pm hin;have hn20:=(CW bh hng).1;rw [Kz rise hng] at hG14;obtain ⟨gq,rfl,hGV⟩:=hG14;obtain ⟨dx,fs',d',ln,lb,ob,ll,hp,RFp,_⟩:=id W14.ru;refine ⟨_,rfl,_,rfl,p,dx,_,rfl,hp,RFp.no _ (by decide +kernel),_,rfl,p,vq,k,n,AL rows,r,ns,bs,rfl,O14,bh,h8,fun m2 q2 H15 em2 s15 hV2=>?_⟩;have em2':n=m2:=(OY hng (by omega) em2).symm;subst em2';have W15:=W14.same s15;refine ⟨_,rfl,p,dx,_,rfl,s15 _ _ hp,RFp.no _ (by decide +kernel),_,rfl,p,vq,k,n,AL rows,r,ns,bs,rfl,O14.same s15,bh,h8,hn40,W15.wb.tab,fun m3 q3 H16 em3 sB T16 hV3=>?_⟩;have em3':n=m3:=(OZ hng bh em3).symm;subst em3';have kp:∀ {b:Addr} {o:HO},H15 b=some o->(∀ ps,o ≠ .tbl ps)->H16 b=some o:=fun e h=>Ie W15.wb.tab sB e h;have W16:=W15.go (Rl.sameB sB) (W15.wb.sameB sB T16);have R16:=(R14.trans (Rl.same s15)).trans (Rl.sameB sB)
  have hvq:ValAt VC H16 vq k n:=by
   obtain ⟨dv,hv⟩:=(O14.same s15).hv;exact ⟨dv,kp hv (fun _ z=>nomatch z)⟩
  have hgq:ValAt VC H16 gq k n:=by
   obtain ⟨dv,hv⟩:=hGV.same s15;exact ⟨dv,kp hv (fun _ z=>nomatch z)⟩
  have hq2:ValAt VC H16 q2 k n:=by
   obtain ⟨dv,hv⟩:=hV2;exact ⟨dv,kp hv (fun _ z=>nomatch z)⟩
  refine ⟨sl3,fun z1 hz1=>?_⟩;have g1:=AC (Same.refl _) hz1 (o:=HO.lst [V.ref gq,V.ref q2,V.ref q3]);have e1:=upd_same (H:=H16) (a:=z1) (o:=HO.lst [V.ref gq,V.ref q2,V.ref q3]);generalize upd H16 z1 (HO.lst [V.ref gq,V.ref q2,V.ref q3])=H17 at g1 e1 ⊢;refine ⟨_,rfl,sl1,fun z2 hz2=>?_⟩;have g2:=AC (Same.refl _) hz2 (o:=HO.lst [V.ref vq]);have e2:=upd_same (H:=H17) (a:=z2) (o:=HO.lst [V.ref vq]);generalize upd H17 z2 (HO.lst [V.ref vq])=H18 at g2 e2 ⊢;refine ⟨z2,3,_,rfl,rfl,e2,by decide,by decide,(by show 1 * 3 <= sizeLine; decide),fun z3 hz3=>?_⟩;have g3:=AC (Same.refl _) hz3 (o:=HO.lst (replicate (3:Int).toNat [V.ref vq]).flatten);have e3:(upd H18 z3 (HO.lst (replicate (3:Int).toNat [V.ref vq]).flatten)) z3=some (.lst ([vq,vq,vq].map V.ref)):=by rw [upd_same]; rfl
  generalize upd H18 z3 (HO.lst (replicate (3:Int).toNat [V.ref vq]).flatten)=H19 at g3 e3 ⊢;have g13:=g1.trans (g2.trans g3);have W19:=W16.same g13;refine ⟨z1,z3,[gq,q2,q3],[vq,vq,vq],rfl,rfl,g3 _ _ (g2 _ _ e1),e3,rfl,fun i a9 b9 ha hb=>?_,fun H20 s20=>⟨_,rfl,As ⟨⟨_,_,_,_,_,_,_,_,rfl⟩,W19.same s20,(R16.trans (Rl.same g13)).trans (Rl.same s20)⟩⟩⟩
  have hb9:b9=vq:=by
   have:=mem_of_getElem? hb;simp only [mem_cons,not_mem_nil,or_false,or_self] at this;exact this
  subst hb9
  have ha9:ValAt VC H19 a9 k n:=by
   have:=mem_of_getElem? ha;simp only [mem_cons,not_mem_nil,or_false] at this;rcases this with rfl | rfl | rfl
   ·exact hgq.same g13
   ·exact hq2.same g13
   ·exact hV3.same g13
  have hb19:=hvq.same g13;obtain ⟨da,hda⟩:=id ha9;obtain ⟨db,hdb⟩:=id hb19;refine ⟨⟨_,_,hda⟩,⟨_,_,hdb⟩,fun H' Q' s' q'=>?_⟩;refine ⟨a9,.ref b9,k,n,AL rows,r,rfl,ha9.same s',W19.ka.same s',asc,.inr ⟨b9,k,n,AL rows,r,rfl,hb19.same s',W19.ka.same s',asc,fun H'' s''=>?_⟩⟩;rw [decide_eq_true ⟨⟨rfl,rfl⟩,rfl⟩];exact ⟨true,rfl,q' H'' s''⟩
end
theorem K0 {h:Heap} {N:Addr} {n:Str} {v:Value} (X:K.In h) (G:h.Ns N mg) (e:W.nsIn K N n=some (some v)):mg n=some v:=by
 obtain ⟨o,es,ep,ho,hd,_,hf⟩:=G;unfold W.nsIn at e;split at e
 ·rename_i c d es' n' sl q;have:=X _ _ q;rw [ho] at this;cases this;cases hd;split at e
  ·rename_i he;cases e;rw [← hf];unfold nsFind findBy;rw [← Array.find?_toList,he];rfl
  ·split at e <;> cases e
 ·cases e
theorem Pn {kV doc pm ad ct:Value} {an:Option Addr} :
  Fk K (W.fnOf "__init__" "Kind.__init__" (defArgs BH) (defBody BH) (defScope BH) .none kV doc pm an ad ct) ["self", "rows", "rest"] ["rest"] gU3 gV3:=by
 refine ⟨fun s us ws _ hl=>?_,fun {vs us zs ws} r rz=>?_⟩
 ·unfold gU3 at hl ⊢;split at hl
  ·exact .of_eq (by kernel_rfl)
  ·cases hl
 ·cases r with
  | nil=>exact .nil
  | cons r1 rr =>
   cases rr with
   | nil=>exact .nil
   | cons r2 rr =>
    cases rr with
    | cons _ _=>exact .nil
    | nil =>
     cases rz with
     | nil=>exact .nil
     | cons z1 zz =>
      cases zz with
      | nil=>exact .cons r1 (.cons r2 (.cons z1 .nil))
      | cons _ _=>exact .nil
theorem RG {kd:Addr} {v doc pm ad ct:Value} {an:Option Addr} (ok:W.nsOkIn K kd=true) (e:W.nsIn K kd "rest" = some (some v)) :
  Binds K (W.fnOf "__init__" "Kind.__init__" (defArgs BH) (defBody BH) (defScope BH) .none (.ref kd) doc pm an ad ct) ["self", "rows", "rest"] [v]:=by
 intro s us hK hl
 have hl2:us.length=2:=by
  rw [length_append] at hl;exact Nat.succ.inj hl
 match us,hl2 with
 | [u1,u2],_ =>
  have G:s.heap.Ns kd (s.heap.nsMap kd):=.of_isNs (W.isNs_of_in hK ok);have hm:s.heap.nsMap kd "rest" = some v:=K0 hK G e;intro M A E Q hq;unfold bindArgs;simp only [W.fnOf]
  repeat (first | (with_reducible refine wpAny_nsGet G ?_; rw [hm]) | wp_step)
  exact Eq.mp (congrArg (fun z=>Q z s) (by kernel_rfl)) hq
end Mk
end
section
namespace Mk
open PySem L2 MK PySem.W
abbrev fO (x q:Str) (s:Stmt):=fnOf x q (defArgs s) (defBody s) (defScope s)
theorem Gp {K:Frag} {C:Addr} {T:String} (h:isClsIn K C=true) (h2:typeIn K (.ref C)=some (.type "type")) (e:subIn K (.type T) (.ref C)=some false):kitOne K (.type T) (.ref C)=some false:=by
 unfold kitOne;rw [if_neg (by simp)];unfold kitCls;show (if _ then _ else _)=_;rw [if_pos (by unfold isClsIn at h; rw [h,h2]; simp)];exact e
def Jv (K:Frag) (c P:Addr):Bool:=match K.lookup c with
 | some ⟨.type "code", _,.fields vs,_⟩=>(match (vs[11]?:Option Value),vs.getD 18 Value.none,vs.getD 7 Value.none,vs.getD 9 Value.none,vs.getD 10 Value.none with
  | some (.ref p),.str _ _,.int _ _,.bool _,.int _ _=>p == P && !(c == P)
  | _,_,_,_,_=>false)
 | _=>false
theorem codeHd_of {K:Frag} {h:Heap} {c P:Addr} (X:K.In h) (q:Jv K c P=true):CodeHd h c P:=by
 unfold Jv at q;split at q
 ·rename_i d vs sl ho;split at q
  ·rename_i p f tf fl tg b tx tt h11 h18 h7 h9 h10;rw [Bool.and_eq_true,beq_iff_eq] at q;obtain ⟨rfl,hn⟩:=q;refine ⟨_,vs,f,tf,fl,tg,b,tx,tt,X _ _ ho,rfl,rfl,h11,?_,h18,h7,h9,h10,fun z=>by simp [z] at hn⟩;rw [Array.getD_eq_getD_getElem?,h11];rfl
  ·cases q
 ·cases q
section
variable {P:Program} {w:World} {K:Frag} {mg:SV} {base:Heap} {x q:Str} {st:Stmt} {k:Nat} {ps:List Str} {sp:Sp} {f C:Addr} {fd:FuncData} {p1 p2 p3 p4 p5:Str}
theorem fnT (F:Fun K x x st f fd) (ok:Ae P w K mg base CX0 k f fd ps sp) (m:mg x=some (.ref f)) (b:Binds K fd ps []):Fn P w K mg base x k ps sp:=⟨⟨f,fd,ok,m,F.kp,b⟩⟩
theorem mtT (a:findIn K (.ref C) x=some (some (.ref f))) (i:isFn K (.ref f)=true) (F:Fun K x q st f fd) (ok:Ae P w K mg base CX0 k f fd ps sp) (b:Binds K fd ps []):Mt P w K mg base C x k ps sp:=⟨⟨f,fd,ok,⟨a,i,F.kp⟩,b⟩⟩
abbrev fB (x q:Str) (st:Stmt) (kV doc pm:Value) (an:Option Addr) (ad ct:Value) (us:List Value):Sem (List (Str × Value)):=bindArgs (fO x q st .none kV doc pm an ad ct) ⟨us,[]⟩
theorem bi1 (F:Fun K x q st f fd) (h:∀ a b c d e g u1,fB x q st a b c d e g [u1]=pure [(p1,u1)]):Binds K fd [p1] []:=F.binds fun _ _ _ _ _ _ us hl=>match us,hl with | [_],_=>h ..
theorem bi2 (F:Fun K x q st f fd) (h:∀ a b c d e g u1 u2,fB x q st a b c d e g [u1,u2]=pure [(p1,u1),(p2,u2)]):Binds K fd [p1,p2] []:=F.binds fun _ _ _ _ _ _ us hl=>match us,hl with | [_,_],_=>h ..
theorem bi3 (F:Fun K x q st f fd) (h:∀ a b c d e g u1 u2 u3,fB x q st a b c d e g [u1,u2,u3]=pure [(p1,u1),(p2,u2),(p3,u3)]):Binds K fd [p1,p2,p3] []:=F.binds fun _ _ _ _ _ _ us hl=>match us,hl with | [_,_,_],_=>h ..
theorem bi4 (F:Fun K x q st f fd) (h:∀ a b c d e g u1 u2 u3 u4,fB x q st a b c d e g [u1,u2,u3,u4]=pure [(p1,u1),(p2,u2),(p3,u3),(p4,u4)]):Binds K fd [p1,p2,p3,p4] []:=F.binds fun _ _ _ _ _ _ us hl=>match us,hl with | [_,_,_,_],_=>h ..
end
def DG (K:Frag) (x:Str) (st:Stmt):Prop:=∃ f fd,nsIn K mainGlobals x=some (some (.ref f))/\Fun K x x st f fd
def DM (K:Frag) (C:Addr) (x q:Str) (st:Stmt):Prop:=∃ f fd,findIn K (.ref C) x=some (some (.ref f))/\isFn K (.ref f)=true/\(∃ o,K.lookup f=some o/\o.cls=.type "function")/\Fun K x q st f fd
structure CF (K:Frag) (C:Addr):Prop where
 pg:plainGet K C Str.empty=true
 hd:hasDictIn K C=true
 po:plainOver K C=true
 sa:findIn K (.ref C) "__setattr__" = some (some (.builtin "object.__setattr__"))
 mz:makesIn K C=true
 kc:keepIn K (.ref C)=true
 qa:findIn K (.ref C) "__class__" = some (some (.builtin "object.__class__"))
 qm:mroIn K C (.type "object")=some true
 ql:isClsIn K C=true
 qy:typeIn K (.ref C)=some (.type "type")
 qs:subIn K (.type "list") (.ref C)=some false
 qi:subIn K (.type "int") (.ref C)=some false
 qt:subIn K (.type "tuple") (.ref C)=some false
 ne:findIn K (.ref C) "__ne__" = some (some (.builtin "object.__ne__"))
theorem Po {K:Frag} {f:Addr} {fd:FuncData} (F:Fun K "__init__" "Rule.__init__" DU f fd):Fk K fd ["self", "kind", "needs", "bars"] ["needs", "bars"] gU4 gV4:=by
 obtain ⟨oc,od,kV,doc,pm,an,ad,ct,osl,rfl,_⟩:=F.ex;refine ⟨fun s us ws _ hl=>?_,fun {vs us zs ws} r rz=>?_⟩
 ·unfold gU4 at hl ⊢;split at hl
  ·exact .of_eq (by kernel_rfl)
  ·cases hl
 ·cases r with
  | nil=>exact .nil
  | cons r1 rr =>
   cases rr with
   | nil=>exact .nil
   | cons r2 rr =>
    cases rr with
    | cons _ _=>exact .nil
    | nil =>
     cases rz with
     | nil=>exact .nil
     | cons z1 zz =>
      cases zz with
      | nil=>exact .nil
      | cons z2 zz =>
       cases zz with
       | nil=>exact .cons r1 (.cons r2 (.cons z1 (.cons z2 .nil)))
       | cons _ _=>exact .nil
theorem all_mk {l:OpenLaw} {w:World} {K:Frag} {h:Heap} {mg:SV} {fz C VC RC aR kd fin fla:Addr} (X:K.In h) (G:h.Ns mainGlobals mg) (hfa:mg "law" = some (.ref fz))
  {ocla kVla dcla pmla cdla ctla ocin dcin pmin cdin ctin ocK:Value} {odla anla odin anin odR odK:Option Addr} {slla slin slK slR:Array (Option Value)} {tG tM tL tLi tB t1 t2 t3 t4:Tok} {nRR epK:Nat} {esK:Array DictEntry}  {c P0 fme:Addr} {ocme kVme dcme pmme ctme:Value} {odme anme:Option Addr} {slme:Array (Option Value)}
  (aC:nsIn K mainGlobals "Kind" = some (some (.ref C)))
  (aVC:nsIn K mainGlobals "Value" = some (some (.ref VC)))
  (aRC:nsIn K mainGlobals "Rule" = some (some (.ref RC)))
  (hwh:DG K "is_whole" F2)
  (hnm:DG K "is_name" IC)
  (huo:DG K "union_of" F3)
  (hnx:DG K "next_mark" Et)
  (hoo:DG K "is_one_of" F4)
  (hno:DG K "is_names_of" Dp)
  (hth:DG K "thing_number" C0)
  (hro:DG K "row_number" Dq)
  (hnb:DG K "numbered" Eu)
  (hfi:DG K "first_names" DE)
  (him:DG K "is_mark" ID)
  (hmR:DM K C "rows" "Kind.rows" Ev)
  (hmK:DM K C "known" "Kind.known" Ds)
  (hmT:DM K C "rest" "Kind.rest" Ew)
  (hmM:DM K C "marks" "Kind.marks" Dr)
  (hmE:DM K C "__eq__" "Kind.__eq__" IE)
  (hlc:DG K "_law_cell" F8)
  (hld:DG K "_law_drawn" Ey)
  (hlr:DG K "_law_roll" F9)
  (hls:DG K "_law_rounds" Dw)
  (hll:DG K "_law_lines" Bs)
  (hxn:DG K "is_number" Ex)
  (hxr:DG K "rest_of" IF)
  (hxi:DM K VC "__init__" "Value.__init__" Dt)
  (hxN:DM K VC "number" "Value.number" C1)
  (hxK:DM K VC "kind" "Value.kind" Du)
  (hxE:DM K VC "__eq__" "Value.__eq__" F5)
  (hmb:DG K "mark_bits" Es)
  (huq:DG K "unions_of" Er)
  (hhw:DG K "how_many" F7)
  (hlb:DG K "_law_bits_of" Dx)
  (hlu:DG K "_law_rule_of" Dy)
  (hlt:DG K "_law_table_of" DH)
  (hli:DG K "_law_number_in" C2)
  (hrp:DG K "is_pair" IG)
  (hrq:DG K "pairs_of" F6)
  (hrf:DM K RC "first_fault" "Rule.first_fault" B6)
  (hrO:DM K RC "own_number" "Rule.own_number" CK)
  (hrG:DM K RC "grown" "Rule.grown" Dv)
  (hrS:DM K RC "shrunk" "Rule.shrunk" DF)
  (hlB:DG K "_law_broken" Dz)
  (hlY:DG K "_law_let_by" Ez)
  (hlW:DG K "_law_rule_with" C3)
  (ain:findIn K (.ref C) "__init__" = some (some (.ref fin)))
  (iin:isFn K (.ref fin)=true)
  (lin:K.lookup fin=some ⟨ocin,odin,.func (fO "__init__" "Kind.__init__" BH .none (.ref kd) dcin pmin anin cdin ctin),slin⟩)
  (cin:codeIn K cdin "Kind.__init__" = true)
  (kin:keepIn K (.ref fin)=true)
  (ala:nsIn K mainGlobals "law" = some (some (.ref fla)))
  (lla:K.lookup fla=some ⟨ocla,odla,.func (fO "law" "law" Na .none kVla dcla pmla anla cdla ctla),slla⟩)
  (cla:codeIn K cdla "law" = true)
  (kla:keepIn K (.ref fla)=true)
  (ame:findIn K (.ref RC) "mended" = some (some (.ref fme)))
  (ime:isFn K (.ref fme)=true)
  (lme:K.lookup fme=some ⟨ocme,odme,.func (fO "mended" "Rule.mended" BB .none kVme dcme pmme anme (.ref c) ctme),slme⟩)
  (cme:codeIn K (.ref c) "Rule.mended" = true)
  (kme:keepIn K (.ref fme)=true)
  (kdl:K.lookup kd=some ⟨ocK,odK,.dict esK epK,slK⟩)
  (kde:(esK.all fun e=>match e.key with | .str _ _=>true | _=>false)=true)
  (kdr:nsIn K kd "rest" = some (some (.str "bar" tB)))
  (vG:nsIn K mainGlobals "GREATEST" = some (some (.int 1048575 tG)))
  (vM:nsIn K mainGlobals "MOST_ROWS" = some (some (.int 10 tM)))
  (vL:nsIn K mainGlobals "LONGEST_NAME" = some (some (.int 6 tL)))
  (vLi:nsIn K mainGlobals "LIMIT" = some (some (.int 1099511627776 tLi)))
  (vR:nsIn K mainGlobals "RULES" = some (some (.ref aR)))
  (qn:specialIn K (.builtin "object.__class__") "__get__" = some (some (.builtin "getset_descriptor.__get__")))
  (qt:takesIn K (.builtin "object.__class__")=some true)
  (fC:CF K C)
  (fVC:CF K VC)
  (fRC:CF K RC)
  (nC_numbers:findIn K (.ref C) "numbers" = some none)
  (nC_firsts:findIn K (.ref C) "firsts" = some none)
  (nC_rule:findIn K (.ref C) "rule" = some none)
  (nVC_own_kind:findIn K (.ref VC) "own_kind" = some none)
  (nVC_bits:findIn K (.ref VC) "bits" = some none)
  (nRC_own_kind:findIn K (.ref RC) "own_kind" = some none)
  (nRC_numbered_marks:findIn K (.ref RC) "numbered_marks" = some none)
  (nRC_needs:findIn K (.ref RC) "needs" = some none)
  (nRC_bars:findIn K (.ref RC) "bars" = some none)
  (nRC_let_numbers:findIn K (.ref RC) "let_numbers" = some none)
  (rL:K.lookup aR=some ⟨.type "tuple", odR,.seq #[.str "bar" t1,.str "drop" t2,.str "keep" t3,.str "leave" t4] nRR,slR⟩)
  (z_len:nsIn K mainGlobals "len" = some none)
  (z_isinstance:nsIn K mainGlobals "isinstance" = some none)
  (z_max:nsIn K mainGlobals "max" = some none)
  (z_min:nsIn K mainGlobals "min" = some none)
  (z_range:nsIn K mainGlobals "range" = some none)
  (z_list:nsIn K mainGlobals "list" = some none)
  (z_tuple:nsIn K mainGlobals "tuple" = some none)
  (z_sorted:nsIn K mainGlobals "sorted" = some none)
  (z_sum:nsIn K mainGlobals "sum" = some none)
  (z_all:nsIn K mainGlobals "all" = some none)
  (z_enumerate:nsIn K mainGlobals "enumerate" = some none)
  (z_int:nsIn K mainGlobals "int" = some none)
  (z_bool:nsIn K mainGlobals "bool" = some none)
  (z_str:nsIn K mainGlobals "str" = some none)
  (z_dict:nsIn K mainGlobals "dict" = some none)
  (hri:DM K RC "__init__" "Rule.__init__" DU)
  : ∃ fd:FuncData,(∀ (s:Shared) (v:Value),BindsTo s fd ⟨[v],[]⟩ [("_law_script", v)])/\∀ base:Heap,K.In base->base.Ns mainGlobals mg->CodeHd base c P0->base.BuiltinsAt mg P0->Ae l.prog w K mg base CX0 10 fz fd ["_law_script"] (Lc K P0):=by
 have MG:∀ {x:Str} {v:Value},nsIn K mainGlobals x=some (some v)->mg x=some v:=fun h=>mg_of X G h;have MN:∀ {x:Str},nsIn K mainGlobals x=some none->mg x=none:=fun h=>mg_none_of X G h;have T:E7 K C:=⟨⟨fC.pg,fC.hd,fC.po,fC.sa⟩,nC_numbers,nC_firsts,nC_rule⟩;have VT:Kn K VC:=⟨⟨fVC.pg,fVC.hd,fVC.po,fVC.sa⟩,nVC_own_kind,nVC_bits⟩;have RT:IY K RC:=⟨⟨fRC.pg,fRC.hd,fRC.po,fRC.sa⟩,nRC_own_kind,nRC_numbered_marks,nRC_needs,nRC_bars,nRC_let_numbers⟩;have KI:KIsi K C:=⟨⟨fC.pg,fC.hd,fC.po,fC.sa⟩,fC.qa,qn,qt,fC.qm,Gp fC.ql fC.qy fC.qs⟩;have VI:KIsi K VC:=⟨⟨fVC.pg,fVC.hd,fVC.po,fVC.sa⟩,fVC.qa,qn,qt,fVC.qm,Gp fVC.ql fVC.qy fVC.qs⟩;have mCg:=MG aC;have mVg:=MG aVC;have hLi:=MG vLi;have vI:=Gp fVC.ql fVC.qy fVC.qi;have qeC:=fC.ne;have qm:=fC.qm;have B:Bl mg:=⟨MN z_len,MN z_isinstance,MN z_max,MN z_min,MN z_range,MN z_list,MN z_tuple,MN z_sorted,MN z_sum,MN z_all,MN z_enumerate,MN z_int,MN z_bool,MN z_str⟩;have rT:∀ H:Hp,SqT K H aR (ruleNames.map V.str):=fun H=>.inr ⟨_,_,_,rL,rfl,rfl,sl4,.cons ⟨_,rfl⟩ (.cons ⟨_,rfl⟩ (.cons ⟨_,rfl⟩ (.cons ⟨_,rfl⟩ .nil)))⟩
 have kdo:nsOkIn K kd=true:=by
  unfold nsOkIn;rw [kdl];exact kde
 have hG:=MG vG;have hM:=MG vM;have hL:=MG vL;have hR:=MG vR;have Fin:=fun_mk (st:=BH) lin cin kin;have Fla:=fun_mk (st:=Na) lla cla kla;have e:=hfa.symm.trans (MG ala);cases e;obtain ⟨fwh,dwh,awh,Fwh⟩:=hwh;have bwh:=bi1 (p1 := "thing") Fwh fun _ _ _ _ _ _ _=>rfl;obtain ⟨fnm,dnm,anm,Fnm⟩:=hnm;have bnm:=bi1 (p1 := "thing") Fnm fun _ _ _ _ _ _ _=>rfl;obtain ⟨fuo,duo,auo,Fuo⟩:=huo;have buo:=bi1 (p1 := "numbers") Fuo fun _ _ _ _ _ _ _=>rfl;obtain ⟨fnx,dnx,anx,Fnx⟩:=hnx;have bnx:=bi1 (p1 := "numbers") Fnx fun _ _ _ _ _ _ _=>rfl;obtain ⟨foo,doo,aoo,Foo⟩:=hoo;have boo:=bi2 (p1 := "thing") (p2 := "names") Foo fun _ _ _ _ _ _ _ _=>rfl;obtain ⟨fno,dno,ano,Fno⟩:=hno;have bno:=bi2 (p1 := "parts") (p2 := "ahead") Fno fun _ _ _ _ _ _ _ _=>rfl;obtain ⟨fth,dth,ath,Fth⟩:=hth;have bth:=bi2 (p1 := "thing") (p2 := "ahead") Fth fun _ _ _ _ _ _ _ _=>rfl;obtain ⟨fro,dro,aro,Fro⟩:=hro;have bro:=bi2 (p1 := "row") (p2 := "ahead") Fro fun _ _ _ _ _ _ _ _=>rfl;obtain ⟨fnb,dnb,anb,Fnb⟩:=hnb;have bnb:=bi1 (p1 := "rows") Fnb fun _ _ _ _ _ _ _=>rfl;obtain ⟨ffi,dfi,afi,Ffi⟩:=hfi;have bfi:=bi1 (p1 := "numbers") Ffi fun _ _ _ _ _ _ _=>rfl;obtain ⟨fim,dim,aim,Fim⟩:=him;have bim:=bi1 (p1 := "number") Fim fun _ _ _ _ _ _ _=>rfl;obtain ⟨fmR,dmR,amR,imR,omR,FmR⟩:=hmR;have bmR:=bi1 (p1 := "self") FmR fun _ _ _ _ _ _ _=>rfl;obtain ⟨fmK,dmK,amK,imK,omK,FmK⟩:=hmK;have bmK:=bi1 (p1 := "self") FmK fun _ _ _ _ _ _ _=>rfl;obtain ⟨fmT,dmT,amT,imT,omT,FmT⟩:=hmT;have bmT:=bi1 (p1 := "self") FmT fun _ _ _ _ _ _ _=>rfl;obtain ⟨fmM,dmM,amM,imM,omM,FmM⟩:=hmM;have bmM:=bi1 (p1 := "self") FmM fun _ _ _ _ _ _ _=>rfl;obtain ⟨fmE,dmE,amE,imE,omE,FmE⟩:=hmE;have bmE:=bi2 (p1 := "self") (p2 := "other") FmE fun _ _ _ _ _ _ _ _=>rfl;obtain ⟨flc,dlc,alc,Flc⟩:=hlc;have blc:=bi2 (p1 := "_law_script") (p2 := "_law_k") Flc fun _ _ _ _ _ _ _ _=>rfl;obtain ⟨fld,dld,ald,Fld⟩:=hld;have bld:=bi2 (p1 := "_law_cell_here") (p2 := "_law_k") Fld fun _ _ _ _ _ _ _ _=>rfl;obtain ⟨flr,dlr,alr,Flr⟩:=hlr;have blr:=bi2 (p1 := "_law_dice") (p2 := "_law_many") Flr fun _ _ _ _ _ _ _ _=>rfl;obtain ⟨fls,dls,als,Fls⟩:=hls;have bls:=bi2 (p1 := "_law_script") (p2 := "_law_most") Fls fun _ _ _ _ _ _ _ _=>rfl;obtain ⟨fll,dll,all,Fll⟩:=hll;have bll:=bi2 (p1 := "_law_dice") (p2 := "_law_most") Fll fun _ _ _ _ _ _ _ _=>rfl;obtain ⟨fxn,dxn,axn,Fxn⟩:=hxn;have bxn:=bi1 (p1 := "thing") Fxn fun _ _ _ _ _ _ _=>rfl;obtain ⟨fxr,dxr,axr,Fxr⟩:=hxr;have bxr:=bi2 (p1 := "kind") (p2 := "number") Fxr fun _ _ _ _ _ _ _ _=>rfl;obtain ⟨fxi,dxi,axi,ixi,oxi,Fxi⟩:=hxi;have bxi:=bi3 (p1 := "self") (p2 := "kind") (p3 := "number") Fxi fun _ _ _ _ _ _ _ _ _=>rfl;obtain ⟨fxN,dxN,axN,ixN,oxN,FxN⟩:=hxN;have bxN:=bi1 (p1 := "self") FxN fun _ _ _ _ _ _ _=>rfl;obtain ⟨fxK,dxK,axK,ixK,oxK,FxK⟩:=hxK;have bxK:=bi1 (p1 := "self") FxK fun _ _ _ _ _ _ _=>rfl;obtain ⟨fxE,dxE,axE,ixE,oxE,FxE⟩:=hxE;have bxE:=bi2 (p1 := "self") (p2 := "other") FxE fun _ _ _ _ _ _ _ _=>rfl;obtain ⟨fmb,dmb,amb,Fmb⟩:=hmb;have bmb:=bi1 (p1 := "kind") Fmb fun _ _ _ _ _ _ _=>rfl;obtain ⟨fuq,duq,auq,Fuq⟩:=huq;have buq:=bi1 (p1 := "marks") Fuq fun _ _ _ _ _ _ _=>rfl;obtain ⟨fhw,dhw,ahw,Fhw⟩:=hhw;have bhw:=bi1 (p1 := "bits") Fhw fun _ _ _ _ _ _ _=>rfl;obtain ⟨flb,dlb,alb,Flb⟩:=hlb;have blb:=bi1 (p1 := "_law_number") Flb fun _ _ _ _ _ _ _=>rfl;obtain ⟨flu,dlu,alu,Flu⟩:=hlu;have blu:=bi1 (p1 := "_law_dice") Flu fun _ _ _ _ _ _ _=>rfl;obtain ⟨flt,dlt,alt,Flt⟩:=hlt;have blt:=bi1 (p1 := "_law_due") Flt fun _ _ _ _ _ _ _=>rfl;obtain ⟨fli,dli,ali,Fli⟩:=hli;have bli:=bi3 (p1 := "_law_dice") (p2 := "_law_known") (p3 := "_law_way") Fli fun _ _ _ _ _ _ _ _ _=>rfl;obtain ⟨frp,drp,arp,Frp⟩:=hrp;have brp:=bi2 (p1 := "thing") (p2 := "marks") Frp fun _ _ _ _ _ _ _ _=>rfl;obtain ⟨frq,drq,arq,Frq⟩:=hrq;have brq:=bi2 (p1 := "things") (p2 := "marks") Frq fun _ _ _ _ _ _ _ _=>rfl;obtain ⟨frf,drf,arf,irf,orf,Frf⟩:=hrf;have brf:=bi2 (p1 := "self") (p2 := "number") Frf fun _ _ _ _ _ _ _ _=>rfl;obtain ⟨frO,drO,arO,irO,orO,FrO⟩:=hrO;have brO:=bi2 (p1 := "self") (p2 := "value") FrO fun _ _ _ _ _ _ _ _=>rfl;obtain ⟨frG,drG,arG,irG,orG,FrG⟩:=hrG;have brG:=bi2 (p1 := "self") (p2 := "value") FrG fun _ _ _ _ _ _ _ _=>rfl;obtain ⟨frS,drS,arS,irS,orS,FrS⟩:=hrS;have brS:=bi2 (p1 := "self") (p2 := "value") FrS fun _ _ _ _ _ _ _ _=>rfl;obtain ⟨flB,dlB,alB,FlB⟩:=hlB;have blB:=bi4 (p1 := "_law_table") (p2 := "_law_wants") (p3 := "_law_fences") (p4 := "_law_number") FlB fun _ _ _ _ _ _ _ _ _ _=>rfl;obtain ⟨flY,dlY,alY,FlY⟩:=hlY;have blY:=bi3 (p1 := "_law_table") (p2 := "_law_wants") (p3 := "_law_fences") FlY fun _ _ _ _ _ _ _ _ _=>rfl;obtain ⟨flW,dlW,alW,FlW⟩:=hlW;have blW:=bi3 (p1 := "_law_dice") (p2 := "_law_kind") (p3 := "_law_table") FlW fun _ _ _ _ _ _ _ _ _=>rfl;refine ⟨fO "law" "law" Na .none kVla dcla pmla anla cdla ctla,fun s v=>.of_eq rfl,fun base _ _ hC hBu=>?_⟩;have FT:=@fnT l.prog w K mg base;have MT:=@mtT l.prog w K mg base;have Gwh:=FT (sp:=DW) Fwh (Kh Fwh B) (MG awh) bwh;have Gnm:=FT (sp:=GG) Fnm (MS Fnm B hL) (MG anm) bnm;have Guo:=FT (sp:=(Co K)) Fuo (Ka Fuo) (MG auo) buo;have Gnx:=FT (sp:=(D1 K)) Fnx (JR Fnx B) (MG anx) bnx;have Goo:=FT (sp:=(Cp K)) Foo (Ke Foo B) (MG aoo) boo;have Gno:=FT (sp:=DK) Fno (IJ Fno B Goo) (MG ano) bno;have Gth:=FT (sp:=IK) Fth (Nj Fth B Gnx Gno Guo Gwh) (MG ath) bth;have Gro:=FT (sp:=Nn) Fro (Qa Fro B hG Gnm Gth) (MG aro) bro;have Gnb:=FT (sp:=D3) Fnb (JU Fnb B hM Gro) (MG anb) bnb;have Gfi:=FT (sp:=GX) Ffi (Ma Ffi) (MG afi) bfi;have Gim:=FT (sp:=GA) Fim (MR Fim) (MG aim) bim;have GmR:=MT (sp:=(Ki C)) amR imR FmR (PL FmR B T) bmR;have GmK:=MT (sp:=(IL C)) amK imK FmK (Nr FmK B T Guo) bmK;have GmT:=MT (sp:=(Km C)) amT imT FmT (PV FmT T) bmT;have GmM:=MT (sp:=(FU C)) amM imM FmM (Nt FmM B T Gim) bmM;have GmE:=MT (sp:=(Jd C)) amE imE FmE (Ql FmE B T KI mCg GmR) bmE;have Glc:=FT (sp:=(Kj K)) Flc (PP Flc B) (MG alc) blc;have Gld:=FT (sp:=IN) Fld (Nv Fld) (MG ald) bld;have Glr:=FT (sp:=D4) Flr (PQ Flr Gld) (MG alr) blr;have Gls:=FT (sp:=(Ga K)) Fls (Mc Fls B Glc) (MG als) bls;have Gll:=FT (sp:=IQ) Fll (N5 Fll B Glr) (MG all) bll;have Gxn:=FT (sp:=D6) Fxn (Je Fxn hLi Gwh) (MG axn) bxn;have Gxr:=FT (sp:=(Gd C)) Fxr (Ml Fxr T GmK) (MG axr) bxr;have Gxi:=MT (sp:=(IU C VC)) axi ixi Fxi (Jf Fxi T VT Gxn Gxr GmT) bxi;have GxN:=MT (sp:=(Db VC)) axN ixN FxN (Kp FxN VT) bxN;have GxK:=MT (sp:=(FX VC)) axK ixK FxK (OA FxK VT) bxK;have GxE:=MT (sp:=(OB C VC)) axE ixE FxE (Qo FxE B T VT VI vI mVg GmE) bxE;obtain ⟨fE0,dE0,gE0,mE0,bE0⟩:=GxE.ex;have VO:Jg l.prog w K mg base C VC:=⟨VT,mVg,⟨_,_,⟨fVC.mz,axi,ixi,fVC.kc⟩,Jf Fxi T VT Gxn Gxr GmT,bxi⟩,⟨_,_,gE0,mE0,bE0⟩,VI,fVC.ne,fVC.qi⟩;have Gmb:=FT (sp:=(D7 C)) Fmb (Jh Fmb T GmM Guo) (MG amb) bmb;have Guq:=FT (sp:=(OE K)) Fuq (Qq Fuq) (MG auq) buq;have Ghw:=FT (sp:=La) Fhw (Qy Fhw) (MG ahw) bhw;have Glb:=FT (sp:=EX) Flb (Md Flb B) (MG alb) blb;have Glu:=FT (sp:=GZ) Flu (Mb Flu Glr) (MG alu) blu;have Glt:=FT (sp:=IR) Flt (N8 Flt B Glb) (MG alt) blt;have Gli:=FT (sp:=D8) Fli (Ji Fli Glr) (MG ali) bli;have Grp:=FT (sp:=Gf) Frp (Mo Frp B Goo) (MG arp) brp;have Grq:=FT (sp:=IW) Frq (OH Frq B Grp) (MG arq) brq;have Grf:=MT (sp:=(Qt RC)) arf irf Frf (Rs Frf RT) brf;have GrO:=MT (sp:=(Gk C VC RC)) arO irO FrO (Qz FrO RT VT qeC qm GmE GxK GxN) brO;have GrG:=MT (sp:=(Q0 C VC RC)) arG irG FrG (Rv FrG RT VO GrO) brG;have GrS:=MT (sp:=(Q3 C VC RC)) arS irS FrS (Rw FrS B RT VO GrO Ghw) brS;have GlB:=FT (sp:=Kt) FlB (Pf FlB) (MG alB) blB;have GlY:=FT (sp:=IZ) FlY (OM FlY B GlB) (MG alY) blY;have KO:ON l.prog w K mg base C:=⟨T,mCg,⟨_,_,⟨fC.mz,ain,iin,fC.kc⟩,PH Fin B T hR rT Gnb Gfi Goo,⟨_,Pn⟩,_,RG kdo kdr,.cons ⟨_,rfl⟩ .nil⟩⟩;obtain ⟨fri,dri,ari,iri,ori,Fri⟩:=hri;have RuO:OO l.prog w K mg base C RC:=⟨RT,MG aRC,⟨_,_,⟨fRC.mz,ari,iri,fRC.kc⟩,OK Fri B (MN z_dict) T RT GmM Grq Guq Grf,_,Po Fri⟩⟩;have GlW:=FT (sp:=Qw C RC) FlW (Rt FlW B RuO Glr) (MG alW) blW;have Fme:FunC K "mended" "Rule.mended" BB fme (fO "mended" "Rule.mended" BB .none kVme dcme pmme anme (.ref c) ctme) c:=⟨⟨_,_,_,_,_,_,_,_,rfl,lme,cme⟩⟩;have bme:=bi2 (p1 := "self") (p2 := "value") (fun_mk (st:=BB) lme cme kme) fun _ _ _ _ _ _ _ _=>rfl;have GMe:Mt l.prog w K mg base RC "mended" 6 ["self", "value"] (Q7 C VC RC P0):=⟨⟨_,_,Ry Fme hC hBu B RT VO GrO Gmb Ghw,⟨ame,ime,kme⟩,bme⟩⟩;exact RE Fla B KO VO RT qeC qm Gls Gll Glu Glt Glr Gli GlW GlY Glb GmE GxK GxN GrG GrS GMe
theorem walk {l:OpenLaw} {q:Program} {loose:List Str} {XP:(Str->Option Value)->Heap->Prop} {YP:World->Heap->Prop} {d:DefRec} {K:Params->Frag} {c P0:Addr} (hn:l.most=some 63) (hdf:d.params.defaults=[])
  (hY:∀ (w:World) (h:Heap),YP w h->(K w.params).In h/\h.get? P0=some (tabObj #[])/\(K w.params).lookup P0=none/\CodeHd h c P0)
  (F:∀ (w:World) (mg:SV) (fa:Addr) (h:Heap),(K w.params).In h->h.Ns mainGlobals mg->mg d.name=some (.ref fa) ->
   ∃ fd:FuncData,(∀ (s:Shared) (u:Value),BindsTo s fd ⟨[u],[]⟩ [("_law_script", u)])/\∀ base:Heap,(K w.params).In base->base.Ns mainGlobals mg->CodeHd base c P0->base.BuiltinsAt mg P0->Ae l.prog w (K w.params) mg base CX0 10 fa fd ["_law_script"] (Lc (K w.params) P0)) :
  WalkO q loose XP YP l.row.toRowW d [] (fun f vs=>PySem.call f vs) :=
 L2.NS (n:=63) (k:=10) (x := "_law_script") (CX:=fun _=>CX0) (sp:=fun w=>Lc (K w.params) P0) hn (by decide) hdf ⟨rfl,by decide,by decide⟩ hY F
  (fun _ _ a ns hl _ hP hS=>⟨a,ns,rfl,hS,hl,⟨#[],hP,trivial,fun _ _=>.inl rfl⟩,fun _=>rfl⟩) fun _ _ _ _ _ z=>z
end Mk
end
section
namespace Hd
open PySem PySem.W PySem.Calls PyProof.Rows
def runT (tb : String -> Option Builtin) (p : Program) (w : World) (n₀ : Nat) (ann : Option Value) : Nat -> SharedT -> Thread -> Option SharedT
  | 0,_,_=>none
  | n + 1,s,t=>match through t with
    | true=>some s
    | false=>match stepOk n₀ ann t with
      | false=>none
      | true=>match stepT (denote tb) p w s t with
        | some (s',t')=>runT tb p w n₀ ann n s' t'
        | none=>none
theorem runT_of {tb : String -> Option Builtin} {p : Program} {w : World} {n₀ : Nat} {ann : Option Value} : ∀ {n : Nat} {s s' : SharedT} {t : Thread},runT tb p w n₀ ann n s t = some s' -> topRun tb p w n₀ ann n s.abs t = some s'.abs
  | 0,_,_,_,h=>by cases h
  | n + 1,s,s',t,h=>by
    unfold runT at h
    unfold topRun
    cases ht : through t with
    | true=>rw [ht] at h; cases h; rfl
    | false =>
      rw [ht] at h
      cases hk : stepOk n₀ ann t with
      | false=>rw [hk] at h; cases h
      | true =>
        rw [hk] at h
        cases hs : stepT (denote tb) p w s t with
        | none=>rw [hs] at h; cases h
        | some r=>obtain ⟨s₂,t₂⟩:=r; rw [hs] at h; rw [stepT_spec hs]; exact runT_of h
def looksAt (p q : Program) (loose : List Str) (Xt : Shared -> Bool) (as : List Addr) (h₀ : Heap) (s : Shared) :=
  (staticsOk (importedModules p.main.body) h₀ s.heap && namesBound p s.heap && gensDone s && laidKept h₀ s.heap,openSeen q loose (importedModules p.main.body) Xt true s,as.map s.heap.get?)
theorem left_of {p q : Program} {loose : List Str} {Xt : Shared -> Bool} {as : List Addr} {K : Params -> Frag} {N M m₀ : Nat} {ann : Option Value} {T0 : Params -> BT} {life : Life}
    (open_ : ∀ w : World,(fencedOpening treeTable p w N).map (fun s=>(s.heap,s.gens,s.drawn,s.toks)) = some (boot_heap w.params,#[],boot_drawn,boot_toks))
    (tree : ∀ P : Params,absHeap (T0 P) m₀ life = boot_heap P)
    (size : ∀ w : World,((boot_heap w.params).isNs mainGlobals,(boot_heap w.params).objs.size,(boot_heap w.params).nsMap mainGlobals "__annotations__") = (true,m₀,ann))
    (le : Nat.ble M N = true)
    (run : ∀ (w : World) (os : OsState),(runT treeTable p w m₀ ann M ⟨T0 w.params,m₀,life,#[],boot_drawn,boot_toks,os⟩ (topStub p)).map (fun s=>looksAt p q loose Xt as (boot_heap w.params) s.abs) = some (true,openGood q loose,(K w.params).map fun x=>some x.2)) :
    LeftO p q loose Xt (fun s=>as.map s.heap.get?) (fun w=>(K w.params).map fun x=>some x.2) N:=fun w=>by
  obtain ⟨⟨h,gs,d,k,os⟩,e,e'⟩:=Option.map_eq_some_iff.mp (open_ w)
  obtain ⟨rfl,rfl,rfl,rfl⟩ : h = boot_heap w.params /\ gs = #[] /\ d = boot_drawn /\ k = boot_toks:=by simpa using e'
  obtain ⟨z1,z2,z3⟩ : _ /\ _ /\ _:=by simpa only [Prod.mk.injEq] using size w
  obtain ⟨sT,r1,r2⟩:=Option.map_eq_some_iff.mp (run w os)
  have r3:=runT_of r1
  have r4 : topRun treeTable p w m₀ ann M ⟨boot_heap w.params,#[],boot_drawn,boot_toks,os⟩ (topStub p) = some sT.abs:=by
    rw [← tree w.params]
    exact r3
  have r:=topRun_mono (N - M) _ _ _ _ r4
  rw [show M + (N - M) = N by have:=Nat.le_of_ble_eq_true le; omega] at r
  unfold looksAt at r2
  obtain ⟨l1,l2,l3⟩ : _ /\ _ /\ _:=by simpa only [Prod.mk.injEq] using r2
  have t : topFrom treeTable p w N ⟨boot_heap w.params,#[],boot_drawn,boot_toks,os⟩ = some sT.abs:=by
    unfold topFrom
    dsimp only
    rw [z1,z2,z3,r]
    show (match staticsOk (importedModules p.main.body) (boot_heap w.params) sT.abs.heap && namesBound p sT.abs.heap && gensDone sT.abs && laidKept (boot_heap w.params) sT.abs.heap with | true=>_ | false=>_) = _
    rw [l1]
  unfold openEnds
  rw [e]
  show (topFrom treeTable p w N _).map _ = _
  rw [t]
  exact congrArg some (Prod.ext l2 l3)
end Hd
end
noncomputable section
open PySem PySem.W PySem.Calls PyProof.Rows
abbrev Mk.fS (x q : Str) (s : Stmt) (dV kV doc pm : Value) (an : Option Addr) (cd ct : Value) : FuncData:=fnOf x q (L2.defArgs s) (L2.defBody s) (L2.defScope s) dV kV doc pm an cd ct
abbrev Mk.cO (x : Str) (a : Nat) (q : Str) (b c : Nat) (d e f g h : Int) (i j l m n : Nat) (o p : Int) (r : Nat) : Obj:=⟨.type "code", none,.fields #[.str x a,.str q b,.str "/claim/cut.py" c,.int d 0,.int e 0,.int f 0,.int g 0,.int h 0,.ref i,.bool true,.int 181 0,.ref j,.none,.ref l,.ref m,.ref n,.int o 0,.int p 0,.str "/claim/cut.py" r],#[]⟩
abbrev Mk.dE (P : PySem.Params) (x : Str) (t : Nat) (v : Value) : DictEntry:=⟨PyData.keyHash P x,.str x t,v⟩
abbrev Mk.fN (x q : Str) (s : Stmt) (m : Str) (t c : Nat) : Obj:=⟨.type "function", none,.func (Mk.fS x q s .none .none .none (.str m t) none (.ref c) .none),#[]⟩
abbrev Mk.eC (x : Str) (a b c d e f : Nat) : Obj:=⟨.type "type", none,.cls ⟨x,[.ref a],[.ref b,.ref a,.type "ValueError", .type "Exception", .type "BaseException", .type "object"],c,x,true,[],[],false,none,false⟩,#[some (.ref d),none,some (.str x e),some (.str x f),some (.builtin "ValueError.__new__"),some (.bool true)]⟩
noncomputable def Mk.Kg (P : PySem.Params) : PySem.W.Frag :=
 (nat_lit 2,⟨.none,none,(.dict #[] 0),#[]⟩) ::
 (nat_lit 3,⟨(.type "dict"),none,(.dict #[Mk.dE P "__name__" 165 (.str "law_markworks_k41_whole_mended" 821),Mk.dE P "__doc__" 166 .none,Mk.dE P "__package__" 167 .none,Mk.dE P "__loader__" 168 (.builtin "__main__.__loader__#opaque"),Mk.dE P "__spec__" 169 .none,Mk.dE P "__annotations__" 170 (.ref 6),Mk.dE P "__builtins__" 171 (.ref 4),Mk.dE P "__file__" 173 (.str "/claim/cut.py" 172),Mk.dE P "__cached__" 174 .none,Mk.dE P "_wall" 193 (.ref 21),Mk.dE P "MarkError" 222 (.ref 39),Mk.dE P "BadRows" 247 (.ref 59),Mk.dE P "BadRule" 263 (.ref 71),Mk.dE P "BadName" 279 (.ref 83),Mk.dE P "BadNumber" 295 (.ref 95),Mk.dE P "Unlike" 311 (.ref 107),Mk.dE P "BadPairs" 327 (.ref 119),Mk.dE P "Never" 343 (.ref 131),Mk.dE P "GREATEST" 351 (.int 1048575 350),Mk.dE P "MOST_ROWS" 353 (.int 10 352),Mk.dE P "LONGEST_NAME" 355 (.int 6 354),Mk.dE P "RULES" 360 (.ref 134),Mk.dE P "is_whole" 367 (.ref 141),Mk.dE P "is_name" 373 (.ref 146),Mk.dE P "is_mark" 380 (.ref 153),Mk.dE P "union_of" 389 (.ref 160),Mk.dE P "unions_of" 395 (.ref 165),Mk.dE P "is_one_of" 403 (.ref 172),Mk.dE P "mark_bits" 409 (.ref 177),Mk.dE P "next_mark" 416 (.ref 184),Mk.dE P "is_names_of" 422 (.ref 189),Mk.dE P "thing_number" 428 (.ref 194),Mk.dE P "row_number" 439 (.ref 201),Mk.dE P "numbered" 450 (.ref 208),Mk.dE P "first_names" 460 (.ref 215),Mk.dE P "Kind" 558 (.ref 292),Mk.dE P "LIMIT" 564 (.int 1099511627776 563),Mk.dE P "is_number" 571 (.ref 303),Mk.dE P "rest_of" 579 (.ref 310),Mk.dE P "Value" 653 (.ref 367),Mk.dE P "is_pair" 661 (.ref 376),Mk.dE P "pairs_of" 667 (.ref 381),Mk.dE P "how_many" 675 (.ref 388),Mk.dE P "Rule" 820 (.ref 500),Mk.dE P "_law_cell" 830 (.ref 511),Mk.dE P "_law_drawn" 839 (.ref 518),Mk.dE P "_law_roll" 848 (.ref 525),Mk.dE P "_law_rounds" 854 (.ref 530),Mk.dE P "_law_bits_of" 860 (.ref 535),Mk.dE P "_law_rule_of" 867 (.ref 542),Mk.dE P "_law_lines" 873 (.ref 547),Mk.dE P "_law_table_of" 879 (.ref 552),Mk.dE P "_law_number_in" 889 (.ref 559),Mk.dE P "_law_rule_with" 895 (.ref 564),Mk.dE P "_law_broken" 901 (.ref 569),Mk.dE P "_law_let_by" 907 (.ref 574),Mk.dE P "law" 913 (.ref 579)] 57),#[]⟩) ::
 (nat_lit 39,⟨(.type "type"),none,(.cls ⟨"MarkError", [(.type "ValueError")],[(.ref 39),(.type "ValueError"),(.type "Exception"),(.type "BaseException"),(.type "object")],38, "MarkError", true,[],[(.ref 59),(.ref 71),(.ref 83),(.ref 95),(.ref 107),(.ref 119),(.ref 131)],false,none,false⟩),#[(some (.ref 22)),none,(some (.str "MarkError" 196)),(some (.str "MarkError" 204)),(some (.builtin "ValueError.__new__")),(some (.bool true))]⟩) ::
 (nat_lit 59,Mk.eC "BadRows" 39 59 58 43 223 231) ::
 (nat_lit 71,Mk.eC "BadRule" 39 71 70 62 248 256) ::
 (nat_lit 83,Mk.eC "BadName" 39 83 82 74 264 272) ::
 (nat_lit 95,Mk.eC "BadNumber" 39 95 94 86 280 288) ::
 (nat_lit 107,Mk.eC "Unlike" 39 107 106 98 296 304) ::
 (nat_lit 119,Mk.eC "BadPairs" 39 119 118 110 312 320) ::
 (nat_lit 131,Mk.eC "Never" 39 131 130 122 328 336) ::
 (nat_lit 134,⟨(.type "tuple"),none,(.seq #[(.str "bar" 356),(.str "drop" 357),(.str "keep" 358),(.str "leave" 359)] 0),#[]⟩) ::
 (nat_lit 140,Mk.cO "is_whole" 361 "is_whole" 362 363 31 1 0 0 3 135 136 137 138 139 365 31 366) ::
 (nat_lit 141,Mk.fN "is_whole" "is_whole" (Mk.top 15) "markworks.kinds" 344 140) ::
 (nat_lit 145,⟨(.type "code"),none,(.fields #[(.str "is_name" 368),(.str "is_name" 369),(.str "/claim/cut.py" 370),(.int 33 0),(.int 1 0),(.int 0 0),(.int 0 0),(.int 3 0),(.ref 142),(.bool true),(.int 181 0),(.ref 143),.none,.none,.none,(.ref 144),(.int 371 0),(.int 33 0),(.str "/claim/cut.py" 372)]),#[]⟩) ::
 (nat_lit 146,Mk.fN "is_name" "is_name" (Mk.top 16) "markworks.kinds" 344 145) ::
 (nat_lit 152,Mk.cO "is_mark" 374 "is_mark" 375 376 37 1 0 0 3 147 148 149 150 151 378 37 379) ::
 (nat_lit 153,Mk.fN "is_mark" "is_mark" (Mk.top 17) "markworks.kinds" 344 152) ::
 (nat_lit 159,Mk.cO "union_of" 381 "union_of" 382 383 39 1 0 0 3 154 155 156 157 158 387 39 388) ::
 (nat_lit 160,Mk.fN "union_of" "union_of" (Mk.top 18) "markworks.kinds" 344 159) ::
 (nat_lit 164,⟨(.type "code"),none,(.fields #[(.str "unions_of" 390),(.str "unions_of" 391),(.str "/claim/cut.py" 392),(.int 44 0),(.int 1 0),(.int 0 0),(.int 0 0),(.int 3 0),(.ref 161),(.bool true),(.int 181 0),(.ref 162),.none,.none,.none,(.ref 163),(.int 393 0),(.int 44 0),(.str "/claim/cut.py" 394)]),#[]⟩) ::
 (nat_lit 165,Mk.fN "unions_of" "unions_of" (Mk.top 19) "markworks.kinds" 344 164) ::
 (nat_lit 171,Mk.cO "is_one_of" 396 "is_one_of" 397 398 49 2 0 0 3 166 167 168 169 170 401 49 402) ::
 (nat_lit 172,Mk.fN "is_one_of" "is_one_of" (Mk.top 20) "markworks.kinds" 344 171) ::
 (nat_lit 176,⟨(.type "code"),none,(.fields #[(.str "mark_bits" 404),(.str "mark_bits" 405),(.str "/claim/cut.py" 406),(.int 51 0),(.int 1 0),(.int 0 0),(.int 0 0),(.int 3 0),(.ref 173),(.bool true),(.int 181 0),(.ref 174),.none,.none,.none,(.ref 175),(.int 407 0),(.int 51 0),(.str "/claim/cut.py" 408)]),#[]⟩) ::
 (nat_lit 177,Mk.fN "mark_bits" "mark_bits" (Mk.top 21) "markworks.kinds" 344 176) ::
 (nat_lit 183,Mk.cO "next_mark" 410 "next_mark" 411 412 53 1 0 0 3 178 179 180 181 182 414 53 415) ::
 (nat_lit 184,Mk.fN "next_mark" "next_mark" (Mk.top 22) "markworks.kinds" 344 183) ::
 (nat_lit 188,⟨(.type "code"),none,(.fields #[(.str "is_names_of" 417),(.str "is_names_of" 418),(.str "/claim/cut.py" 419),(.int 55 0),(.int 2 0),(.int 0 0),(.int 0 0),(.int 3 0),(.ref 185),(.bool true),(.int 181 0),(.ref 186),.none,.none,.none,(.ref 187),(.int 420 0),(.int 55 0),(.str "/claim/cut.py" 421)]),#[]⟩) ::
 (nat_lit 189,Mk.fN "is_names_of" "is_names_of" (Mk.top 23) "markworks.kinds" 344 188) ::
 (nat_lit 193,⟨(.type "code"),none,(.fields #[(.str "thing_number" 423),(.str "thing_number" 424),(.str "/claim/cut.py" 425),(.int 57 0),(.int 2 0),(.int 0 0),(.int 0 0),(.int 3 0),(.ref 190),(.bool true),(.int 181 0),(.ref 191),.none,.none,.none,(.ref 192),(.int 426 0),(.int 57 0),(.str "/claim/cut.py" 427)]),#[]⟩) ::
 (nat_lit 194,Mk.fN "thing_number" "thing_number" (Mk.top 24) "markworks.kinds" 344 193) ::
 (nat_lit 200,Mk.cO "row_number" 429 "row_number" 430 431 65 2 0 0 3 195 196 197 198 199 437 65 438) ::
 (nat_lit 201,Mk.fN "row_number" "row_number" (Mk.top 25) "markworks.kinds" 344 200) ::
 (nat_lit 207,Mk.cO "numbered" 440 "numbered" 441 442 75 1 0 0 3 202 203 204 205 206 448 75 449) ::
 (nat_lit 208,Mk.fN "numbered" "numbered" (Mk.top 26) "markworks.kinds" 344 207) ::
 (nat_lit 214,Mk.cO "first_names" 451 "first_names" 452 453 85 1 0 0 3 209 210 211 212 213 458 85 459) ::
 (nat_lit 215,Mk.fN "first_names" "first_names" (Mk.top 27) "markworks.kinds" 344 214) ::
 (nat_lit 223,⟨(.type "dict"),none,(.dict #[Mk.dE P "rest" 474 (.str "bar" 473)] 1),#[]⟩) ::
 (nat_lit 229,Mk.cO "__init__" 475 "Kind.__init__" 476 477 92 2 0 1 3 224 225 226 227 228 481 92 482) ::
 (nat_lit 230,⟨(.type "function"),none,(.func (Mk.fS "__init__" "Kind.__init__" (L2.inClass (Mk.top 28) 0) .none (.ref 223) .none (.str "markworks.kinds" 344) none (.ref 229) .none)),#[]⟩) ::
 (nat_lit 236,Mk.cO "rows" 484 "Kind.rows" 485 486 99 1 0 0 3 231 232 233 234 235 488 99 489) ::
 (nat_lit 237,Mk.fN "rows" "Kind.rows" (L2.inClass (Mk.top 28) 1) "markworks.kinds" 344 236) ::
 (nat_lit 260,⟨(.type "code"),none,(.fields #[(.str "marks" 512),(.str "Kind.marks" 513),(.str "/claim/cut.py" 514),(.int 114 0),(.int 1 0),(.int 0 0),(.int 0 0),(.int 3 0),(.ref 257),(.bool true),(.int 181 0),(.ref 258),.none,.none,.none,(.ref 259),(.int 515 0),(.int 114 0),(.str "/claim/cut.py" 516)]),#[]⟩) ::
 (nat_lit 261,Mk.fN "marks" "Kind.marks" (L2.inClass (Mk.top 28) 5) "markworks.kinds" 344 260) ::
 (nat_lit 267,Mk.cO "known" 518 "Kind.known" 519 520 117 1 0 0 3 262 263 264 265 266 522 117 523) ::
 (nat_lit 268,Mk.fN "known" "Kind.known" (L2.inClass (Mk.top 28) 6) "markworks.kinds" 344 267) ::
 (nat_lit 274,Mk.cO "rest" 525 "Kind.rest" 526 527 120 1 0 0 3 269 270 271 272 273 529 120 530) ::
 (nat_lit 275,Mk.fN "rest" "Kind.rest" (L2.inClass (Mk.top 28) 7) "markworks.kinds" 344 274) ::
 (nat_lit 281,Mk.cO "__eq__" 532 "Kind.__eq__" 533 534 123 2 0 0 3 276 277 278 279 280 537 123 538) ::
 (nat_lit 282,Mk.fN "__eq__" "Kind.__eq__" (L2.inClass (Mk.top 28) 8) "markworks.kinds" 344 281) ::
 (nat_lit 291,⟨(.type "dict"),none,(.dict #[Mk.dE P "__module__" 468 (.str "markworks.kinds" 344),Mk.dE P "__firstlineno__" 472 (.int 90 471),Mk.dE P "__init__" 483 (.ref 230),Mk.dE P "rows" 490 (.ref 237),Mk.dE P "number" 498 (.ref 244),Mk.dE P "names" 505 (.ref 251),Mk.dE P "aliases" 511 (.ref 256),Mk.dE P "marks" 517 (.ref 261),Mk.dE P "known" 524 (.ref 268),Mk.dE P "rest" 531 (.ref 275),Mk.dE P "__eq__" 539 (.ref 282),Mk.dE P "__len__" 546 (.ref 289),Mk.dE P "__static_attributes__" 550 (.ref 290),Mk.dE P "__dict__" 552 (.ref 293),Mk.dE P "__weakref__" 554 (.ref 294),Mk.dE P "__doc__" 555 .none,Mk.dE P "__hash__" 556 .none] 5),#[]⟩) ::
 (nat_lit 292,⟨(.type "type"),none,(.cls ⟨"Kind", [(.type "object")],[(.ref 292),(.type "object")],291, "Kind", true,[],[],false,none,false⟩),#[none,none,(some (.str "Kind" 461)),(some (.str "Kind" 469)),(some (.builtin "object.__new__")),(some (.bool true))]⟩) ::
 (nat_lit 302,Mk.cO "is_number" 565 "is_number" 566 567 130 1 0 0 3 297 298 299 300 301 569 130 570) ::
 (nat_lit 303,Mk.fN "is_number" "is_number" (Mk.top 31) "markworks.values" 559 302) ::
 (nat_lit 309,Mk.cO "rest_of" 572 "rest_of" 573 574 132 2 0 0 3 304 305 306 307 308 577 132 578) ::
 (nat_lit 310,Mk.fN "rest_of" "rest_of" (Mk.top 32) "markworks.values" 559 309) ::
 (nat_lit 323,Mk.cO "__init__" 592 "Value.__init__" 593 594 136 3 0 0 3 318 319 320 321 322 598 136 599) ::
 (nat_lit 324,Mk.fN "__init__" "Value.__init__" (L2.inClass (Mk.top 33) 0) "markworks.values" 559 323) ::
 (nat_lit 330,Mk.cO "number" 601 "Value.number" 602 603 144 1 0 0 3 325 326 327 328 329 605 144 606) ::
 (nat_lit 331,Mk.fN "number" "Value.number" (L2.inClass (Mk.top 33) 1) "markworks.values" 559 330) ::
 (nat_lit 337,Mk.cO "kind" 608 "Value.kind" 609 610 147 1 0 0 3 332 333 334 335 336 612 147 613) ::
 (nat_lit 338,Mk.fN "kind" "Value.kind" (L2.inClass (Mk.top 33) 2) "markworks.values" 559 337) ::
 (nat_lit 356,Mk.cO "__eq__" 628 "Value.__eq__" 629 630 156 2 0 0 3 351 352 353 354 355 633 156 634) ::
 (nat_lit 357,Mk.fN "__eq__" "Value.__eq__" (L2.inClass (Mk.top 33) 5) "markworks.values" 559 356) ::
 (nat_lit 366,⟨(.type "dict"),none,(.dict #[Mk.dE P "__module__" 587 (.str "markworks.values" 559),Mk.dE P "__firstlineno__" 591 (.int 134 590),Mk.dE P "__init__" 600 (.ref 324),Mk.dE P "number" 607 (.ref 331),Mk.dE P "kind" 614 (.ref 338),Mk.dE P "marks" 620 (.ref 343),Mk.dE P "rest" 627 (.ref 350),Mk.dE P "__eq__" 635 (.ref 357),Mk.dE P "__len__" 642 (.ref 364),Mk.dE P "__static_attributes__" 645 (.ref 365),Mk.dE P "__dict__" 647 (.ref 368),Mk.dE P "__weakref__" 649 (.ref 369),Mk.dE P "__doc__" 650 .none,Mk.dE P "__hash__" 651 .none] 5),#[]⟩) ::
 (nat_lit 367,⟨(.type "type"),none,(.cls ⟨"Value", [(.type "object")],[(.ref 367),(.type "object")],366, "Value", true,[],[],false,none,false⟩),#[none,none,(some (.str "Value" 580)),(some (.str "Value" 588)),(some (.builtin "object.__new__")),(some (.bool true))]⟩) ::
 (nat_lit 375,⟨(.type "code"),none,(.fields #[(.str "is_pair" 656),(.str "is_pair" 657),(.str "/claim/cut.py" 658),(.int 162 0),(.int 2 0),(.int 0 0),(.int 0 0),(.int 3 0),(.ref 372),(.bool true),(.int 181 0),(.ref 373),.none,.none,.none,(.ref 374),(.int 659 0),(.int 162 0),(.str "/claim/cut.py" 660)]),#[]⟩) ::
 (nat_lit 376,Mk.fN "is_pair" "is_pair" (Mk.top 35) "markworks.rules" 654 375) ::
 (nat_lit 380,⟨(.type "code"),none,(.fields #[(.str "pairs_of" 662),(.str "pairs_of" 663),(.str "/claim/cut.py" 664),(.int 166 0),(.int 2 0),(.int 0 0),(.int 0 0),(.int 3 0),(.ref 377),(.bool true),(.int 181 0),(.ref 378),.none,.none,.none,(.ref 379),(.int 665 0),(.int 166 0),(.str "/claim/cut.py" 666)]),#[]⟩) ::
 (nat_lit 381,Mk.fN "pairs_of" "pairs_of" (Mk.top 36) "markworks.rules" 654 380) ::
 (nat_lit 387,Mk.cO "how_many" 668 "how_many" 669 670 170 1 0 0 3 382 383 384 385 386 673 170 674) ::
 (nat_lit 388,Mk.fN "how_many" "how_many" (Mk.top 37) "markworks.rules" 654 387) ::
 (nat_lit 396,⟨(.type "tuple"),none,(.seq #[] 0),#[]⟩) ::
 (nat_lit 397,⟨(.type "tuple"),none,(.seq #[] 0),#[]⟩) ::
 (nat_lit 398,⟨(.type "dict"),none,(.dict #[Mk.dE P "needs" 688 (.ref 396),Mk.dE P "bars" 689 (.ref 397)] 2),#[]⟩) ::
 (nat_lit 402,⟨(.type "code"),none,(.fields #[(.str "__init__" 690),(.str "Rule.__init__" 691),(.str "/claim/cut.py" 692),(.int 178 0),(.int 2 0),(.int 0 0),(.int 2 0),(.int 3 0),(.ref 399),(.bool true),(.int 181 0),(.ref 400),.none,.none,.none,(.ref 401),(.int 693 0),(.int 178 0),(.str "/claim/cut.py" 694)]),#[]⟩) ::
 (nat_lit 403,⟨(.type "function"),none,(.func (Mk.fS "__init__" "Rule.__init__" (L2.inClass (Mk.top 38) 0) .none (.ref 398) .none (.str "markworks.rules" 654) none (.ref 402) .none)),#[]⟩) ::
 (nat_lit 416,Mk.cO "first_fault" 703 "Rule.first_fault" 704 705 189 2 0 0 3 411 412 413 414 415 711 189 712) ::
 (nat_lit 417,Mk.fN "first_fault" "Rule.first_fault" (L2.inClass (Mk.top 38) 2) "markworks.rules" 654 416) ::
 (nat_lit 423,Mk.cO "own_number" 714 "Rule.own_number" 715 716 198 2 0 0 3 418 419 420 421 422 719 198 720) ::
 (nat_lit 424,Mk.fN "own_number" "Rule.own_number" (L2.inClass (Mk.top 38) 3) "markworks.rules" 654 423) ::
 (nat_lit 444,Mk.cO "grown" 739 "Rule.grown" 740 741 210 2 0 0 3 439 440 441 442 443 746 210 747) ::
 (nat_lit 445,Mk.fN "grown" "Rule.grown" (L2.inClass (Mk.top 38) 6) "markworks.rules" 654 444) ::
 (nat_lit 449,⟨(.type "code"),none,(.fields #[(.str "shrunk" 749),(.str "Rule.shrunk" 750),(.str "/claim/cut.py" 751),(.int 217 0),(.int 2 0),(.int 0 0),(.int 0 0),(.int 3 0),(.ref 446),(.bool true),(.int 181 0),(.ref 447),.none,.none,.none,(.ref 448),(.int 752 0),(.int 217 0),(.str "/claim/cut.py" 753)]),#[]⟩) ::
 (nat_lit 450,Mk.fN "shrunk" "Rule.shrunk" (L2.inClass (Mk.top 38) 7) "markworks.rules" 654 449) ::
 (nat_lit 456,Mk.cO "mended" 755 "Rule.mended" 756 757 222 2 0 0 3 451 452 453 454 455 761 222 762) ::
 (nat_lit 457,Mk.fN "mended" "Rule.mended" (L2.inClass (Mk.top 38) 8) "markworks.rules" 654 456) ::
 (nat_lit 499,⟨(.type "dict"),none,(.dict #[Mk.dE P "__module__" 683 (.str "markworks.rules" 654),Mk.dE P "__firstlineno__" 687 (.int 176 686),Mk.dE P "__init__" 695 (.ref 403),Mk.dE P "kind" 702 (.ref 410),Mk.dE P "first_fault" 713 (.ref 417),Mk.dE P "own_number" 721 (.ref 424),Mk.dE P "lets" 729 (.ref 431),Mk.dE P "fault" 738 (.ref 438),Mk.dE P "grown" 748 (.ref 445),Mk.dE P "shrunk" 754 (.ref 450),Mk.dE P "mended" 763 (.ref 457),Mk.dE P "count" 770 (.ref 464),Mk.dE P "nth" 778 (.ref 471),Mk.dE P "place" 786 (.ref 478),Mk.dE P "names_in" 792 (.ref 483),Mk.dE P "never" 799 (.ref 490),Mk.dE P "always" 807 (.ref 497),Mk.dE P "__static_attributes__" 813 (.ref 498),Mk.dE P "__dict__" 815 (.ref 501),Mk.dE P "__weakref__" 817 (.ref 502),Mk.dE P "__doc__" 818 .none] 4),#[]⟩) ::
 (nat_lit 500,⟨(.type "type"),none,(.cls ⟨"Rule", [(.type "object")],[(.ref 500),(.type "object")],499, "Rule", true,[],[],false,none,false⟩),#[none,none,(some (.str "Rule" 676)),(some (.str "Rule" 684)),(some (.builtin "object.__new__")),(some (.bool true))]⟩) ::
 (nat_lit 510,Mk.cO "_law_cell" 823 "_law_cell" 824 825 246 2 0 0 3 505 506 507 508 509 828 246 829) ::
 (nat_lit 511,Mk.fN "_law_cell" "_law_cell" (Mk.top 40) "law_markworks_k41_whole_mended" 821 510) ::
 (nat_lit 517,Mk.cO "_law_drawn" 831 "_law_drawn" 832 833 250 2 0 0 3 512 513 514 515 516 837 250 838) ::
 (nat_lit 518,Mk.fN "_law_drawn" "_law_drawn" (Mk.top 41) "law_markworks_k41_whole_mended" 821 517) ::
 (nat_lit 524,Mk.cO "_law_roll" 840 "_law_roll" 841 842 255 2 0 0 3 519 520 521 522 523 846 255 847) ::
 (nat_lit 525,Mk.fN "_law_roll" "_law_roll" (Mk.top 42) "law_markworks_k41_whole_mended" 821 524) ::
 (nat_lit 529,⟨(.type "code"),none,(.fields #[(.str "_law_rounds" 849),(.str "_law_rounds" 850),(.str "/claim/cut.py" 851),(.int 262 0),(.int 2 0),(.int 0 0),(.int 0 0),(.int 3 0),(.ref 526),(.bool true),(.int 181 0),(.ref 527),.none,.none,.none,(.ref 528),(.int 852 0),(.int 262 0),(.str "/claim/cut.py" 853)]),#[]⟩) ::
 (nat_lit 530,Mk.fN "_law_rounds" "_law_rounds" (Mk.top 43) "law_markworks_k41_whole_mended" 821 529) ::
 (nat_lit 534,⟨(.type "code"),none,(.fields #[(.str "_law_bits_of" 855),(.str "_law_bits_of" 856),(.str "/claim/cut.py" 857),(.int 264 0),(.int 1 0),(.int 0 0),(.int 0 0),(.int 3 0),(.ref 531),(.bool true),(.int 181 0),(.ref 532),.none,.none,.none,(.ref 533),(.int 858 0),(.int 264 0),(.str "/claim/cut.py" 859)]),#[]⟩) ::
 (nat_lit 535,Mk.fN "_law_bits_of" "_law_bits_of" (Mk.top 44) "law_markworks_k41_whole_mended" 821 534) ::
 (nat_lit 541,Mk.cO "_law_rule_of" 861 "_law_rule_of" 862 863 266 1 0 0 3 536 537 538 539 540 865 266 866) ::
 (nat_lit 542,Mk.fN "_law_rule_of" "_law_rule_of" (Mk.top 45) "law_markworks_k41_whole_mended" 821 541) ::
 (nat_lit 546,⟨(.type "code"),none,(.fields #[(.str "_law_lines" 868),(.str "_law_lines" 869),(.str "/claim/cut.py" 870),(.int 268 0),(.int 2 0),(.int 0 0),(.int 0 0),(.int 3 0),(.ref 543),(.bool true),(.int 181 0),(.ref 544),.none,.none,.none,(.ref 545),(.int 871 0),(.int 268 0),(.str "/claim/cut.py" 872)]),#[]⟩) ::
 (nat_lit 547,Mk.fN "_law_lines" "_law_lines" (Mk.top 46) "law_markworks_k41_whole_mended" 821 546) ::
 (nat_lit 551,⟨(.type "code"),none,(.fields #[(.str "_law_table_of" 874),(.str "_law_table_of" 875),(.str "/claim/cut.py" 876),(.int 287 0),(.int 1 0),(.int 0 0),(.int 0 0),(.int 3 0),(.ref 548),(.bool true),(.int 181 0),(.ref 549),.none,.none,.none,(.ref 550),(.int 877 0),(.int 287 0),(.str "/claim/cut.py" 878)]),#[]⟩) ::
 (nat_lit 552,Mk.fN "_law_table_of" "_law_table_of" (Mk.top 47) "law_markworks_k41_whole_mended" 821 551) ::
 (nat_lit 558,Mk.cO "_law_number_in" 880 "_law_number_in" 881 882 295 3 0 0 3 553 554 555 556 557 887 295 888) ::
 (nat_lit 559,Mk.fN "_law_number_in" "_law_number_in" (Mk.top 48) "law_markworks_k41_whole_mended" 821 558) ::
 (nat_lit 563,⟨(.type "code"),none,(.fields #[(.str "_law_rule_with" 890),(.str "_law_rule_with" 891),(.str "/claim/cut.py" 892),(.int 300 0),(.int 3 0),(.int 0 0),(.int 0 0),(.int 3 0),(.ref 560),(.bool true),(.int 181 0),(.ref 561),.none,.none,.none,(.ref 562),(.int 893 0),(.int 300 0),(.str "/claim/cut.py" 894)]),#[]⟩) ::
 (nat_lit 564,Mk.fN "_law_rule_with" "_law_rule_with" (Mk.top 49) "law_markworks_k41_whole_mended" 821 563) ::
 (nat_lit 568,⟨(.type "code"),none,(.fields #[(.str "_law_broken" 896),(.str "_law_broken" 897),(.str "/claim/cut.py" 898),(.int 311 0),(.int 4 0),(.int 0 0),(.int 0 0),(.int 3 0),(.ref 565),(.bool true),(.int 181 0),(.ref 566),.none,.none,.none,(.ref 567),(.int 899 0),(.int 311 0),(.str "/claim/cut.py" 900)]),#[]⟩) ::
 (nat_lit 569,Mk.fN "_law_broken" "_law_broken" (Mk.top 50) "law_markworks_k41_whole_mended" 821 568) ::
 (nat_lit 573,⟨(.type "code"),none,(.fields #[(.str "_law_let_by" 902),(.str "_law_let_by" 903),(.str "/claim/cut.py" 904),(.int 322 0),(.int 3 0),(.int 0 0),(.int 0 0),(.int 3 0),(.ref 570),(.bool true),(.int 181 0),(.ref 571),.none,.none,.none,(.ref 572),(.int 905 0),(.int 322 0),(.str "/claim/cut.py" 906)]),#[]⟩) ::
 (nat_lit 574,Mk.fN "_law_let_by" "_law_let_by" (Mk.top 51) "law_markworks_k41_whole_mended" 821 573) ::
 (nat_lit 578,⟨(.type "code"),none,(.fields #[(.str "law" 908),(.str "law" 909),(.str "/claim/cut.py" 910),(.int 327 0),(.int 1 0),(.int 0 0),(.int 0 0),(.int 3 0),(.ref 575),(.bool true),(.int 181 0),(.ref 576),.none,.none,.none,(.ref 577),(.int 911 0),(.int 327 0),(.str "/claim/cut.py" 912)]),#[]⟩) ::
 (nat_lit 579,Mk.fN "law" "law" (Mk.top 52) "law_markworks_k41_whole_mended" 821 578) ::
 []
noncomputable def Mk.Kf (P : PySem.Params) : PySem.W.Frag:=(nat_lit 452,⟨.none,none,(.fields #[]),#[]⟩) :: Mk.Kg P
noncomputable def Mk.Kas : List Nat:=452 :: 2 :: 3 :: 39 :: 59 :: 71 :: 83 :: 95 :: 107 :: 119 :: 131 :: 134 :: 140 :: 141 :: 145 :: 146 :: 152 :: 153 :: 159 :: 160 :: 164 :: 165 :: 171 :: 172 :: 176 :: 177 :: 183 :: 184 :: 188 :: 189 :: 193 :: 194 :: 200 :: 201 :: 207 :: 208 :: 214 :: 215 :: 223 :: 229 :: 230 :: 236 :: 237 :: 260 :: 261 :: 267 :: 268 :: 274 :: 275 :: 281 :: 282 :: 291 :: 292 :: 302 :: 303 :: 309 :: 310 :: 323 :: 324 :: 330 :: 331 :: 337 :: 338 :: 356 :: 357 :: 366 :: 367 :: 375 :: 376 :: 380 :: 381 :: 387 :: 388 :: 396 :: 397 :: 398 :: 402 :: 403 :: 416 :: 417 :: 423 :: 424 :: 444 :: 445 :: 449 :: 450 :: 456 :: 457 :: 499 :: 500 :: 510 :: 511 :: 517 :: 518 :: 524 :: 525 :: 529 :: 530 :: 534 :: 535 :: 541 :: 542 :: 546 :: 547 :: 551 :: 552 :: 558 :: 559 :: 563 :: 564 :: 568 :: 569 :: 573 :: 574 :: 578 :: 579 :: []
noncomputable def Mk.loose : List PySem.Str:=Str.ofString "_wall" :: Str.ofString "MarkError" :: Str.ofString "BadRows" :: Str.ofString "BadRule" :: Str.ofString "BadName" :: Str.ofString "BadNumber" :: Str.ofString "Unlike" :: Str.ofString "BadPairs" :: Str.ofString "Never" :: Str.ofString "GREATEST" :: Str.ofString "MOST_ROWS" :: Str.ofString "LONGEST_NAME" :: Str.ofString "RULES" :: Str.ofString "is_whole" :: Str.ofString "is_name" :: Str.ofString "is_mark" :: Str.ofString "union_of" :: Str.ofString "unions_of" :: Str.ofString "is_one_of" :: Str.ofString "mark_bits" :: Str.ofString "next_mark" :: Str.ofString "is_names_of" :: Str.ofString "thing_number" :: Str.ofString "row_number" :: Str.ofString "numbered" :: Str.ofString "first_names" :: Str.ofString "Kind" :: Str.ofString "LIMIT" :: Str.ofString "is_number" :: Str.ofString "rest_of" :: Str.ofString "Value" :: Str.ofString "is_pair" :: Str.ofString "pairs_of" :: Str.ofString "how_many" :: Str.ofString "Rule" :: Str.ofString "_law_cell" :: Str.ofString "_law_drawn" :: Str.ofString "_law_roll" :: Str.ofString "_law_rounds" :: Str.ofString "_law_bits_of" :: Str.ofString "_law_rule_of" :: Str.ofString "_law_lines" :: Str.ofString "_law_table_of" :: Str.ofString "_law_number_in" :: Str.ofString "_law_rule_with" :: Str.ofString "_law_broken" :: Str.ofString "_law_let_by" :: []
def Mk.T0 (P : Params) : BT:=.node (boot_o_0 P)
  (.node (boot_o_1 P) (.node (boot_o_3 P) (.node (boot_o_7 P) .nil .nil) .nil) (.node (boot_o_5 P) (.node (boot_o_9 P) .nil .nil) .nil))
  (.node (boot_o_2 P) (.node (boot_o_4 P) (.node (boot_o_8 P) .nil .nil) .nil) (.node (boot_o_6 P) (.node (boot_o_10 P) .nil .nil) .nil))
theorem Mk.tree (P : Params) : absHeap (Mk.T0 P) (nat_lit 11) {} = boot_heap P:=by kernel_rfl
theorem Mk.size (w : World) : ((boot_heap w.params).isNs mainGlobals,(boot_heap w.params).objs.size,(boot_heap w.params).nsMap mainGlobals "__annotations__") = (true,(nat_lit 11),some (.ref (nat_lit 6))):=by kernel_rfl
theorem Mk.opens (w : World) : (fencedOpening treeTable PySem.Challenge.pw_markworks_k41_whole_mended w (nat_lit 8860)).map (fun s=>(s.heap,s.gens,s.drawn,s.toks)) = some (boot_heap w.params,#[],boot_drawn,boot_toks):=boot_open (by kernel_rfl) (by decide) (fun s=>by kernel_rfl) w
theorem Mk.twin : Function.const _ true (@Hd.runT,@Hd.looksAt,PySem.Challenge.pw_markworks_k41_whole_mended,Mk.Kf,Mk.loose) = true:=by k_qdec
abbrev Mk.qv : Program := view PySem.Challenge.pw_markworks_k41_whole_mended [nat_lit 52]
abbrev Mk.Xt (s : Shared) : Bool := xlAt Mk.qv [] s && recOk [] s
theorem Mk.run_q (w : World) (os : OsState) : (Option.map (fun s => Fast.tw8257016192812374322 Fast.tw16500963091489345003 (view Fast.tw16500963091489345003 [nat_lit 52]) Fast.tw2924075613660010442 (fun s => xlAt (view Fast.tw16500963091489345003 [nat_lit 52]) [] s && recOk [] s) Mk.Kas (boot_heap w.params) s.abs)
      (Fast.tw16599536794577742827 Fast.tw14364793385576792824 Fast.tw16500963091489345003 w (nat_lit 11) (some (Value.ref (nat_lit 6))) (nat_lit 4382) ⟨Mk.T0 w.params,nat_lit 11,{},#[],boot_drawn,boot_toks,os⟩ (topStub Fast.tw16500963091489345003))) =
    some (true,openGood (view Fast.tw16500963091489345003 [nat_lit 52]) Fast.tw2924075613660010442,(Fast.tw12104304683883722232 w.params).map fun x=>some x.2):=by kernel_rfl
theorem Mk.left : LeftO PySem.Challenge.pw_markworks_k41_whole_mended Mk.qv Mk.loose Mk.Xt (fun s=>Mk.Kas.map s.heap.get?) (fun w=>(Mk.Kf w.params).map fun x=>some x.2) (nat_lit 8860):=by
  refine Hd.left_of (M:=nat_lit 4382) (T0:=Mk.T0) Mk.opens Mk.tree Mk.size (by decide) fun w os=>?_
  have h:=Mk.run_q w os
  rw [← Fast.te8257016192812374322,← Fast.te16500963091489345003,← Fast.te2924075613660010442,← Fast.te16599536794577742827,← Fast.te14364793385576792824,← Fast.te12104304683883722232] at h
  exact h
theorem Mk.kg_in {P : Params} {h : Heap} (X : (Mk.Kf P).In h) : (Mk.Kg P).In h /\ h.get? 452 = some (tabObj #[]):=by
  have e : (Mk.Kg P).lookup 452 = none:=by kernel_rfl
  refine ⟨fun b o z=>X b o ?_,X _ _ (by unfold Mk.Kf; rw [List.lookup_cons]; rfl)⟩
  unfold Mk.Kf
  rw [List.lookup_cons]
  have nb : (b == 452) = false:=by
    cases q : (b == 452) with
    | false=>rfl
    | true=>rw [beq_iff_eq.mp q,e] at z; cases z
  rw [nb]
  exact z
def Mk.dL : DefRec:=⟨"law", L2.defArgs (Mk.top (nat_lit 52)),L2.defBody (Mk.top (nat_lit 52)),L2.defScope (Mk.top (nat_lit 52)),match Mk.top (nat_lit 52) with | .FunctionDef _ _ _ _ _ _ _ _ _ p=>p | _=>⟨0,0,0,0⟩⟩
end
open PySem PySem.W PyProof.Rows
set_option maxRecDepth 100000 in
set_option maxHeartbeats 0 in
theorem PySem.Challenge.cw_markworks_k41_whole_mended_holds : PySem.Challenge.rw_markworks_k41_whole_mended.Holds := by
  w_on; o_law
  refine PySem.W.holds_open (r:=PySem.Challenge.rw_markworks_k41_whole_mended.row) (q:=Mk.qv) (loose:=Mk.loose) (Xt:=Mk.Xt) (XP:=XL Mk.qv []) (YP:=InK Mk.Kf) (d:=Mk.dL) (kwd:=[]) Mk.left
    (fun w s e=>InK.of (fun P=>by kernel_rfl) w s e) InK.keeps (fun s e=>xl_of s (Bool.and_eq_true_iff.mp e).1) XL.keeps (by kernel_rfl) (by kernel_rfl) (by kernel_rfl) (fun s e=>recFacts_of (Bool.and_eq_true_iff.mp e).2) (by rfl) (by assumption) (by decide +kernel) ⟨rfl,rfl,rfl,rfl,rfl,by decide +kernel⟩ ?hw ?hc
  case hw=>w_witness2
  have aux : Function.const _ True (PySem.Challenge.rw_markworks_k41_whole_mended,Mk.Kg):=by k_fill; trivial
  refine Mk.walk (l:=PySem.Challenge.rw_markworks_k41_whole_mended) (c:=456) (P0:=452) (K:=Mk.Kg) rfl rfl (fun w h Y=>⟨(Mk.kg_in Y).1,(Mk.kg_in Y).2,by kernel_rfl,Mk.codeHd_of (Mk.kg_in Y).1 (by kernel_rfl)⟩) ?F
  case F =>
    intro w mg fa h KX G hmg
    refine' Mk.all_mk KX G hmg ?aC ?aVC ?aRC ?hwh ?hnm ?huo ?hnx ?hoo ?hno ?hth ?hro ?hnb ?hfi ?him ?hmR ?hmK ?hmT ?hmM ?hmE ?hlc ?hld ?hlr ?hls ?hll ?hxn ?hxr ?hxi ?hxN ?hxK ?hxE ?hmb ?huq ?hhw ?hlb ?hlu ?hlt ?hli ?hrp ?hrq ?hrf ?hrO ?hrG ?hrS ?hlB ?hlY ?hlW ?ain ?iin ?lin ?cin ?kin ?ala ?lla ?cla ?kla ?ame ?ime ?lme ?cme ?kme ?kdl ?kde ?kdr ?vG ?vM ?vL ?vLi ?vR ?qn ?qt ?fC ?fVC ?fRC ?nC_numbers ?nC_firsts ?nC_rule ?nVC_own_kind ?nVC_bits ?nRC_own_kind ?nRC_numbered_marks ?nRC_needs ?nRC_bars ?nRC_let_numbers ?rL ?z_len ?z_isinstance ?z_max ?z_min ?z_range ?z_list ?z_tuple ?z_sorted ?z_sum ?z_all ?z_enumerate ?z_int ?z_bool ?z_str ?z_dict ?hri
    case aC | aVC | aRC=>k_is
    case hwh | hnm | huo | hnx | hoo | hno | hth | hro | hnb | hfi | him =>
      refine' ⟨_,_,?a,L2.fun_mk ?b ?c ?d⟩
      case a | b | c | d=>k_is
    case hmR | hmK | hmT | hmM | hmE =>
      refine' ⟨_,_,?a,?i,⟨_,?o,?q⟩,L2.fun_mk ?b ?c ?d⟩
      case a | i | b=>k_is
      case o | q=>first | rfl | k_is
      case c | d=>k_is
    case hlc | hld | hlr | hls | hll | hxn | hxr =>
      refine' ⟨_,_,?a,L2.fun_mk ?b ?c ?d⟩
      case a | b | c | d=>k_is
    case hxi | hxN | hxK | hxE =>
      refine' ⟨_,_,?a,?i,⟨_,?o,?q⟩,L2.fun_mk ?b ?c ?d⟩
      case a | i | b=>k_is
      case o | q=>first | rfl | k_is
      case c | d=>k_is
    case hmb | huq | hhw | hlb | hlu | hlt | hli | hrp | hrq =>
      refine' ⟨_,_,?a,L2.fun_mk ?b ?c ?d⟩
      case a | b | c | d=>k_is
    case hrf | hrO | hrG | hrS =>
      refine' ⟨_,_,?a,?i,⟨_,?o,?q⟩,L2.fun_mk ?b ?c ?d⟩
      case a | i | b=>k_is
      case o | q=>first | rfl | k_is
      case c | d=>k_is
    case hlB | hlY | hlW =>
      refine' ⟨_,_,?a,L2.fun_mk ?b ?c ?d⟩
      case a | b | c | d=>k_is
    case ain | iin | lin | cin | kin | ala | lla | cla | kla | ame | ime | lme | cme | kme | kdl=>k_is
    case kde=>simp
    case kdr | vG | vM | vL | vLi | vR | qn | qt=>k_is
    case fC | fVC | fRC =>
      refine' ⟨?_,?_,?_,?_,?_,?_,?_,?_,?_,?_,?_,?_,?_,?_⟩ <;> k_is
    case nC_numbers | nC_firsts | nC_rule | nVC_own_kind | nVC_bits | nRC_own_kind | nRC_numbered_marks | nRC_needs | nRC_bars | nRC_let_numbers | rL | z_len | z_isinstance | z_max | z_min | z_range | z_list | z_tuple | z_sorted | z_sum | z_all | z_enumerate | z_int | z_bool | z_str | z_dict=>k_is
    case hri =>
      refine' ⟨_,_,?a,?i,⟨_,?o,?q⟩,L2.fun_mk ?b ?c ?d⟩
      case a | i | b=>k_is
      case o | q=>first | rfl | k_is
      case c | d=>k_is
