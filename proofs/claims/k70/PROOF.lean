import PyProof.Rows.All
import KE.KDictOf
import KE.KLam
import KE.KEqSeq
import Wide.All
import KE.KRevSl
import KE.KIntText
import KE.KIsAll
import KE.KMinKey
import KE.KItemsList
import KE.KPairComp
import KE.KFromBytes
import PySem.Challenge.RW_markworks_k70_whole_books
set_option genSizeOf false
set_option Elab.async false
set_option linter.all false
set_option maxRecDepth 100000
set_option maxHeartbeats 4000000
noncomputable section
abbrev hZ:String:="self"
abbrev ia:String:="_law_dice"
abbrev ib:String:="object.__class__"
abbrev ie:String:="<lambda>"
abbrev ig:String:="thing"
abbrev ij:String:="name"
abbrev ik:String:="BaseException.__getattribute__"
abbrev il:String:="number"
abbrev ip:String:="__init__"
abbrev iq:String:="_law_told"
abbrev ir:String:="getset_descriptor.__get__"
abbrev iu:String:="_law_book"
abbrev iw:String:="_law_name"
abbrev iy:String:="kind"
abbrev iz:String:="ValueError"
abbrev iA:String:="_law_number"
abbrev iB:String:="list"
abbrev iC:String:="numbers"
abbrev iD:String:="_law_script"
abbrev iE:String:="_law_reckoning"
abbrev iF:String:="tuple"
abbrev iG:String:="isinstance"
abbrev iH:String:="refused"
abbrev iI:String:="object.__setattr__"
abbrev iJ:String:="_law_deed"
abbrev iK:String:="own_kind"
abbrev iL:String:="_law_table"
abbrev iM:String:="_law_e"
abbrev iN:String:="_law_due"
abbrev iO:String:="_law_many"
abbrev iP:String:="_law_roll"
abbrev iQ:String:="__name__"
abbrev iR:String:="lettered"
abbrev iS:String:="other"
abbrev iT:String:="dict"
abbrev iU:String:="BaseException"
abbrev iV:String:="_law_step"
abbrev iW:String:="BadName"
abbrev iX:String:="_law_tree_here"
abbrev iY:String:="_law_most"
abbrev iZ:String:="_law_written"
abbrev i1:String:="names"
abbrev i4:String:="_law_names_here"
abbrev i5:String:="object.__ne__"
abbrev i6:String:="text"
abbrev i7:String:="bits"
abbrev i9:String:="_law_word"
abbrev ja:String:="BadRest"
abbrev jb:String:="Nothing"
abbrev jc:String:="__getattribute__"
abbrev jd:String:="set_iterator"
abbrev je:String:="_law_way"
abbrev jf:String:="known"
abbrev jg:String:="_law_words"
abbrev jh:String:="MarkError.__init__"
abbrev ji:String:="BadNumber"
abbrev jj:String:="__setattr__"
abbrev jk:String:="_law_tables"
abbrev jm:String:="steps"
abbrev jo:String:="keep"
abbrev jq:String:="set-order"
abbrev jr:String:="_law_tree"
abbrev js:String:="_law_come"
abbrev jt:String:="steps_of"
abbrev ju:String:="type.__call__"
abbrev jv:String:="object"
abbrev jw:String:="entries"
abbrev jx:String:="rest"
abbrev jy:String:="table"
abbrev jz:String:="is_one_of"
abbrev jA:String:="is_whole"
abbrev jB:String:="firsts"
abbrev jC:String:="is_number"
abbrev jD:String:="ahead"
abbrev jE:String:="_law_cell_here"
abbrev jF:String:="value"
abbrev jG:String:="Kind.__init__"
abbrev jH:String:="_law_table_of"
abbrev jI:String:="sign"
abbrev jJ:String:="enumerate"
abbrev jK:String:="__class__"
abbrev jM:String:="type.__getattribute__"
abbrev jN:String:="set_iterator.__next__"
abbrev jO:String:="set_iterator.__iter__"
abbrev jP:String:="is_letter"
abbrev jQ:String:="one"
abbrev jR:String:="rows"
abbrev jS:String:="wants_part"
abbrev jU:String:="_law_letters_to"
abbrev jV:String:="is_book_name"
abbrev jW:String:="__get__"
abbrev jX:String:="_law_book_like"
abbrev jY:String:="range"
abbrev jZ:String:="leave"
abbrev j5:String:="part_number"
abbrev j6:String:="set.scan.the-table-gave-way"
abbrev j7:String:="bar"
abbrev j8:String:="_law_k"
abbrev j9:String:="list_iterator"
abbrev kb:String:="method_descriptor"
abbrev kf:String:="_law_drawn"
abbrev kg:String:="_law_found"
abbrev kh:String:="_law_signs"
abbrev ki:String:="waiting"
abbrev kj:String:="function"
abbrev ko:String:="union_of"
abbrev kr:String:="thing_number"
abbrev ku:String:="_law_rule_of"
abbrev ky:String:="_law_bits_of"
abbrev kz:String:="reckoned"
abbrev kA:String:="_law_formula"
abbrev kG:String:="_law_numbers"
abbrev kH:String:="value_of"
abbrev kK:String:="_law_word_of"
abbrev kQ:String:="number_of"
abbrev kX:String:="same_kind"
abbrev kY:String:="_law_give"
abbrev kZ:String:="is_names_of"
abbrev k4:String:="first_names"
abbrev la:String:="_law_rounds"
abbrev lh:String:="Kind.number"
abbrev lj:String:="value_alone"
abbrev ll:String:="sorted"
abbrev lp:String:="__len__"
abbrev lq:String:="is_name"
abbrev lr:String:="rest_of"
abbrev lx:String:="binding"
abbrev ly:String:="letter"
abbrev lA:String:="law"
abbrev lB:String:="row_number"
abbrev lC:String:="_law_lines"
abbrev lG:String:="_law_known"
abbrev lH:String:="words"
abbrev lI:String:="is_figures"
abbrev lJ:String:="letters_in"
abbrev lK:String:="_law_names"
abbrev lL:String:="__classdict__"
abbrev lM:String:="int"
abbrev lN:String:="LEAST_BINDING"
abbrev lO:String:="__ne__"
abbrev lP:String:="__eq__"
abbrev lQ:String:="next_mark"
abbrev lR:String:="_law_cell"
abbrev lS:String:="_law_made"
abbrev lT:String:="part"
abbrev lU:String:="_law_text"
abbrev lV:String:="take_back"
abbrev lW:String:="default"
abbrev lX:String:="BadText"
abbrev lY:String:="deeds"
abbrev lZ:String:="max"
abbrev l7:String:="type"
abbrev ma:String:="drop"
abbrev md:String:="str"
abbrev me:String:="set"
abbrev hX:=PySem.Shared
abbrev hO:=PySem.Addr
abbrev hE:=List PySem.Value
abbrev hA:=List PySem.Str
def zJ{α:Sort _}{a:α}:a=a:=rfl
abbrev Z9:=@Array.getElem?_eq_some_iff
abbrev Z8:=@List.getElem?_eq_some_iff
abbrev Z7:=@List.getElem?_eq_getElem
abbrev Z6:=@Option.map_eq_some_iff
abbrev Z5:=@PySem.lookup_relabel_local
abbrev Z4:=@PySem.wpAny_isSubtype_exc
abbrev Z3:=@PySem.wpAny_Call_Name_kw
abbrev Z2:=@Nat.lt_of_lt_of_le
abbrev Z1:=@Int.natCast_nonneg
abbrev Z0:=@PySem.wpAny_truthy_bool
abbrev Zz:=@PySem.wpAny_loadPart_at
abbrev Zy:=@PySem.Heap.get?_push_of_some
abbrev Zx:=@PySem.Heap.get?_update_other
abbrev Zv:=@of_decide_eq_true
abbrev Zu:=@PySem.Heap.get?_update_self
abbrev Zt:=@List.mem_append_right
abbrev Zs:=@List.mem_cons_of_mem
abbrev Zr:=@List.mem_of_getElem?
abbrev Zq:=@List.mem_append_left
abbrev Zp:=@decide_eq_false
abbrev Zo:=@PySem.Heap.get?_push_size
abbrev Zn:=@List.filterMap_cons
abbrev Zm:=@decide_eq_true
abbrev Zl:=@PySem.wpAny_holding
abbrev z9:=@PySem.wpAny_standAt
abbrev z8:=@List.mem_cons_self
abbrev z7:=@List.length_append
abbrev z6:=@List.mem_singleton
abbrev z5:=@Nat.lt_irrefl
abbrev z4:=@List.getElem?_map
abbrev z0:=@List.take_add_one
abbrev zZ:=@Nat.ne_of_lt
abbrev zY:=@List.take_length
abbrev zX:=@List.length_take
abbrev zW:=@List.lookup_cons
abbrev zV:=@Nat.le_refl
abbrev zU:=@PySem.wpAny_bind
abbrev zT:=@PySem.wpAny_pure
abbrev zS:=@PySem.wpAny_mono
abbrev zR:=@List.map_append
abbrev zQ:=@List.append_nil
abbrev zP:=@List.nodup_cons
abbrev zO:=@List.mem_map
abbrev zN:=@if_neg
abbrev zM:=@if_pos
def qb{p:Prop}(h:p:=by decide +kernel):p:=h
def qc{p:Prop}(h:p:=by decide):p:=h
def qe{p:Prop}(h:p:=by omega):p:=h
def qd{α:Sort _}{a b:α}(h:a=b:=by kernel_rfl):a=b:=h
def AQ{α:Type u}{d:Type v}{a:List α}(f:α->d):(a.map f).length=a.length:=List.length_map f
abbrev Aa:=List (PySem.Str×Nat)
abbrev VS:=PySem.Value->PySem.Shared->Prop
abbrev LO:=List (PySem.Addr×PySem.Obj)
abbrev SV:=PySem.Str->Option PySem.Value
open PySem in
abbrev FG:=W.Frag
open PySem.F hiding entry_list_append entry_list_sort fills_int_mul slot_dict_getitem slot_int_bit_length slot_list_append slot_list_getitem slot_list_sort slot_str_getitem slot_tuple_getitem type_int_bit_length type_list_append
open List (all_eq_true all_map any_cons any_eq_true any_map append_assoc append_inj' append_nil cons_lt_cons_iff contains_cons dropLast_concat filterMap_cons filter_cons foldl_cons getElem?_map length_append length_cons length_filter_le length_nil length_singleton length_take lookup_cons map_append map_cons map_map mem_append mem_append_left mem_append_right mem_cons mem_cons_of_mem mem_cons_self mem_filter mem_map mem_of_getElem? mem_range mem_singleton nil_append nodup_cons nodup_nil not_mem_nil of_mem_zip pairwise_cons pairwise_map size_toArray sum_append sum_cons take_add_one take_length take_of_length_le)
open PySem.Heap (get?_push_of_some get?_push_size get?_update_other get?_update_self lt_size)
section
namespace L2
open PySem
def sl1:1<=sizeLine:=by decide
def dh:2<=sizeLine:=by decide
def gk:3<=sizeLine:=by decide
def sl4:4<=sizeLine:=by decide
end L2
end
section
namespace L2
open PySem PySem.Spec PyProof.Rows
abbrev Key:=Sum Int Str
noncomputable def Js:Key->Value->Bool
 |.inl k,v=>Value.isInt k v
 |.inr x,v=>Value.isStrOf x v
noncomputable def Yj(w:World):Key->Int
 |.inl k=>hashInt k
 |.inr x=>hashStr w x
def BF:∀{k}{v},Js k v=true->(∃i t,k=Sum.inl i/\v=Value.int i t)\/(∃x t,k=Sum.inr x/\v=Value.str x t)
 |.inl i,v,h=>by
  obtain⟨t,e⟩:=Value.isInt_shape h
  simp_all
 |.inr x,v,h=>by
  obtain⟨t,e⟩:=Value.isStrOf_shape h
  simp_all
def Pz(i)(t):Js (.inl i) (.int i t)=true:=by simp[Js,Value.isInt]
def P1(x)(t):Js (.inr x) (.str x t)=true:=by simp[Js,Value.isStrOf]
def Vb(a b):decide ((Sum.inl a:Key)=Sum.inl b)=(a==b):=by
 lia
def Vc(a b):decide ((Sum.inr a:Key)=Sum.inr b)=decide (a=b):=by
 simp_all
def Vd(a)(b):decide ((Sum.inl a:Key)=Sum.inr b)=false:=Zp (λq=>nomatch q)
def Ve(a)(b):decide ((Sum.inr a:Key)=Sum.inl b)=false:=Zp (λq=>nomatch q)
def Ac(prog:Program)(w:World):PySem.KeyKind prog w Key where
 is:=Js
 hash:=Yj w
 inj:=λv a b ha hb=>by
  rcases BF ha with⟨i,t,rfl,rfl⟩|⟨x,t,rfl,rfl⟩
  ·rcases BF hb with⟨j,u,rfl,e⟩|⟨y,u,rfl,e⟩
   ·simp_all
   trivial
  ·rcases BF hb with⟨j,u,rfl,e⟩|⟨y,u,rfl,e⟩
   ·trivial
   simp_all
 byValue:=λk v h=>by
  rcases BF h with⟨i,t,rfl,rfl⟩|⟨x,t,rfl,rfl⟩<;>rfl
 pyHash:=λhv h=>by
  rcases BF hv with⟨i,t,rfl,rfl⟩|⟨x,t,rfl,rfl⟩
  ·exact wpAny_pyHash_int h
  ·exact wpAny_pyHash_str h
 eqBool:=λhu hv h=>by
  rcases BF hu with⟨i,t,rfl,rfl⟩|⟨x,t,rfl,rfl⟩
  ·rcases BF hv with⟨j,u,rfl,rfl⟩|⟨y,u,rfl,rfl⟩
   ·rw[Vb]at h;exact wpAny_eqBool_int h
   ·rw[Vd]at h;exact SeqAt.EqAt.int_str i t y u _ _ _ _ h
  ·rcases BF hv with⟨j,u,rfl,rfl⟩|⟨y,u,rfl,rfl⟩
   ·rw[Ve]at h;exact SeqAt.EqAt.str_int x t j u _ _ _ _ h
   ·rw[Vc]at h;exact wpAny_eqBool_str h
 «strs»:=λk x t v h=>by
  rcases BF h with⟨i,u,rfl,e⟩|⟨y,u,rfl,e⟩
  ·trivial
  ·injection e with e1 _
   subst e1;cases v<;>rfl
def Lh(prog)(w)(i)(t):(Ac prog w).is (.inl i) (.int i t)=true:=Pz i t
def EG(prog)(w)(x)(t):(Ac prog w).is (.inr x) (.str x t)=true:=P1 x t
inductive V where
 |aO|bl (b:Bool)|int (i:Int)|str (x:Str)|fq (b:Array UInt8)|gT (b:UInt64)|ref (a:hO)|ty (n:String)
 deriving DecidableEq
abbrev _root_.hK:=List V
def RelV:V->Value->Prop
 |.aO,u=>u=Value.none
 |.bl b,u=>u=Value.bool b
 |.int i,u=>∃t,u=Value.int i t
 |.str x,u=>∃t,u=Value.str x t
 |.fq b,u=>∃t,u=Value.bytes b t
 |.gT b,u=>∃t,u=Value.float b t
 |.ref a,u=>u=Value.ref a
 |.ty n,u=>u=Value.type n
abbrev Vals:hK->hE->Prop:=Paired RelV
def Vals.length(r:Vals xs us):xs.length=us.length:=Paired.length r
def Vals.get:∀{xs}{a}{i:Nat}{x},Vals xs a->xs[i]?=some x->∃u,a[i]?=some u/\RelV x u
 |_,_,_,_,.nil,e=>by simp at e
 |_,_,0,_,.cons r _,e=>by simp_all
 |_,_,i+1,x,.cons _ t,e=>by
  obtain⟨u,d,h⟩:=Vals.get t (by trivial)
  simp_all
def Vals.set(r:RelV x u):∀{xs}{a}i,Vals xs a->Vals (xs.set i x) (a.set i u)
 |_,_,_,.nil=>.nil
 |_,_,0,.cons _ t=>.cons r t
 |_,_,i+1,.cons q t=>.cons q (Vals.set r i t)
def Vals.append:∀{xs ys}{d a},Vals xs d->Vals ys a->Vals (xs++ys) (d++a)
 |_,_,_,_,.nil,s=>s
 |_,_,_,_,.cons r t,s=>.cons r (Vals.append t s)
def cG:Option V->Option Value->Prop
 |some v,some u=>RelV v u
 |none,none=>True
 |_,_=>False
def KV{κ:Type}:List (κ×V)->List (κ×Value)->Prop:=Paired λp q=>p.1=q.1/\RelV p.2 q.2
noncomputable def kV:Key->V
 |.inl i=>.int i
 |.inr x=>.str x
abbrev LK:=List (Key×V)
inductive HO where
 |lst (xs:hK)
 |tup (xs:hK)
 |dK (kvs:LK)|dT (kvs:List (List Key×V))
 |set (S:Int->Bool) (n:Nat)
 |ins (C dx:hO) (fs:List (Str×V))
 |own (x:hO)
 |xd (fs:List (Str×V))
 |met (f x:hO)
 |rng (lo hi:Int)
 |cb (o:Obj) (u:HO)
 |dy (ps:Array Value)
 |ext (φ:Heap->Prop)
set_option genInjectivity false
abbrev Hp:=hO->Option HO
noncomputable def upd(H:Hp)(a:hO)(o:HO):Hp:=λb=>if b=a then some o else H b
def aA:upd H a o a=some o:=by unfold upd;simp
def AD(h:b≠a):upd H a o b=H b:=by unfold upd;simp_all
def Tg:upd (upd H a o) a u=upd H a u:=by
 funext b;unfold upd;simp_all
def Ol{H:Hp}(h:H a=some o)(h':H b=some u)(d:o≠u):a≠b:=by
 lia
def AJ{H:Hp}(h:H a=some o)(h':H b=none):a≠b:=by
 lia
section
variable (P:Program) (w:World)
def bD(H:Hp)(h:Heap)(a:hO):HO->Prop
 |.lst xs=>xs.length<=sizeLine/\∃(ac:hE)(n:Nat),Vals xs ac/\h.get? a=some {cls:=.type iB,data:=.seq ac.toArray n}
 |.tup xs=>xs.length<=sizeLine/\∃ac,Vals xs ac/\IsTup h a ac.toArray
 |.dK kvs=>kvs.length<=sizeLine/\(a==sysModules)=false/\∃vs,KV kvs vs/\h.DictOf (Ac P w) a vs
 |.dT kvs=>kvs.length<=sizeLine/\(a==sysModules)=false/\∃xs,
   Paired (λp q=>p.1=q.1/\H q.2.1=some (.tup (p.1.map kV))/\RelV p.2 q.2.2) kvs xs /\
   ∃o es ep,h.get? a=some o/\o.ExactDict/\o.data=.dict es ep/\es.toList=xs.map (entryOfKey (tupleKind (Ac P w)))/\(xs.map (·.1)).Nodup
 |.set S n=>h.SetOf (intKind P w) a S n
 |.ins C dx fs=>H dx=some (.own a)/\fs.length<=1000/\dx≠a/\h.get? a=some (W.instObj C dx) /\
   ∃mA,h.Ns1 dx mA/\(∀f,cG (fs.lookup f) (mA f))/\PySem.Within mA (fs.map (·.1))
 |.own _=>∃o,h.get? a=some o
 |.xd fs=>∃mA,h.Ns1 a mA/\∀f,cG (fs.lookup f) (mA f)
 |.rng lo hi=>∃t u v,h.get? a=some {cls:=.type jY,data:=.fields #[.int lo t,.int hi u,.int 1 v]}
 |.cb o u=>h.get? a=some o/\bD H h a u
 |.dy ps=>h.get? a=some {cls:=.none,data:=.fields ps}
 |.met f x=>h.get? a=some (W.methodObj (.ref f) (.ref x))
 |.ext φ=>φ h/\(∃o,h.get? a=some o)/\∀h1 h2,φ h1->(∀o,h1.get? a=some o->h2.get? a=some o)->φ h2
def cD(H:Hp)(h:Heap):Prop:=∀a o,H a=some o->bD P w H h a o
end
section
def bD.lt(x:bD P w H h a o):a<h.objs.size:=by
 cases o with
 |lst i=>obtain⟨_,_,_,_,e⟩:=x;exact lt_size e
 |tup i=>obtain⟨_,_,_,p⟩:=x;exact p.lt
 |dK d=>obtain⟨_,_,_,_,o,_,_,e,_⟩:=x;exact lt_size e
 |dT d=>obtain⟨_,_,_,_,o,_,_,e,_⟩:=x;exact lt_size e
 |set S n=>obtain⟨o,_,_,_,e,_⟩:=x;exact lt_size e
 |ins C q fs=>obtain⟨_,_,_,e,_⟩:=x;exact lt_size e
 |own y=>obtain⟨_,e⟩:=x;exact lt_size e
 |xd fs=>obtain⟨_,⟨_,_,_,e,_⟩,_⟩:=x;exact lt_size e
 |rng j t=>obtain⟨_,_,_,e⟩:=x;exact lt_size e
 |cb v u=>obtain⟨e,_⟩:=x;exact lt_size e
 |dy r=>exact lt_size (x)
 |met f y=>exact lt_size (x)
 |ext l=>obtain⟨_,⟨_,e⟩,_⟩:=x;exact lt_size e
def Paired.mapP{α h}{F G}:∀{d:List α}{e:List h},Paired F d e->(∀a b,F a b->G a b)->Paired G d e
 |_,_,.nil,_=>.nil
 |_,_,.cons r t,f=>.cons (f _ _ r) (Paired.mapP t f)
def Paired.imp'{α h}{F G}(f:∀a b,F a b->G a b){e:List α}{d:List h}(r:Paired F e d):Paired G e d:=Paired.mapP r f
def bD.df(x:bD P w H h a o)(k:∀b u,(b=a\/H b=some (.own a))->h.get? b=some u->h'.get? b=some u)
  (L:∀b,H b=some (.own a)->H' b=some (.own a)) (ht:∀b xs,H b=some (.tup xs)->H' b=some (.tup xs)):bD P w H' h' a o:=by
 induction o with
 |lst xs=>obtain⟨z,l,n,r,e⟩:=x;exact⟨z,l,n,r,k _ _ (.inl zJ) e⟩
 |tup xs=>obtain⟨z,l,r,i,e,c⟩:=x;exact⟨z,l,r,i,k _ _ (.inl zJ) e,c⟩
 |dK D=>obtain⟨z,y,J,r,i,j,ep,e,c⟩:=x;exact⟨z,y,J,r,i,j,ep,k _ _ (.inl zJ) e,c⟩
 |dT D=>
  obtain⟨z,y,xs,r,i,j,ep,e,c⟩:=x;exact⟨z,y,xs,Paired.mapP r λp q z=>⟨z.1,ht _ _ z.2.1,z.2.2⟩,i,j,ep,k _ _ (.inl zJ) e,c⟩
 |set S n=>obtain⟨i,j,ep,t,e,c⟩:=x;exact⟨i,j,ep,t,k _ _ (.inl zJ) e,c⟩
 |ins C R fs=>
  obtain⟨d,z,M,e,A,⟨B,j,ep,G,c⟩,r⟩:=x;exact⟨L _ d,z,M,k _ _ (.inl zJ) e,A,⟨B,j,ep,k _ _ (.inr d) G,c⟩,r⟩
 |own y=>obtain⟨i,e⟩:=x;exact⟨i,k _ _ (.inl zJ) e⟩
 |xd fs=>obtain⟨A,⟨B,j,ep,e,c⟩,r⟩:=x;exact⟨A,⟨B,j,ep,k _ _ (.inl zJ) e,c⟩,r⟩
 |rng N O=>obtain⟨t,u,v,e⟩:=x;exact⟨t,u,v,k _ _ (.inl zJ) e⟩
 |cb i u I=>obtain⟨e,q⟩:=x;exact⟨k _ _ (.inl zJ) e,I q⟩
 |dy E=>
  have e:h.get? a=some {cls:=.none,data:=.fields E}:=x;show h'.get? a=some {cls:=.none,data:=.fields E}
  simp_all
 |met f y=>
  have e:h.get? a=some (W.methodObj (.ref f) (.ref y)):=x;show h'.get? a=some (W.methodObj (.ref f) (.ref y))
  simp_all
 |ext Q=>obtain⟨p,⟨o,e⟩,F⟩:=x;exact⟨F _ _ p λo q=>k _ _ (.inl zJ) q,⟨o,k _ _ (.inl zJ) e⟩,F⟩
def cD.lt(x:cD P w H h)(e:H a=some o):a<h.objs.size:=(x a o e).lt
def cD.fresh(x:cD P w H h)(e:h.objs.size<=a):H a=none:=by
 cases q:H a with
 |none=>rfl
 |some u=>exact absurd (Z2 (x.lt q) e) (z5 _)
def cD.kept(x:cD P w H h)(k:∀b u,h.get? b=some u->h'.get? b=some u):cD P w H h':=λa o e=>
 (x a o e).df (λb u _ q=>k b u q) (λ_ q=>q) λ_ _ q=>q
def cD.laid(x:cD P w H h)(k:∀b u,h.get? b=some u->h'.get? b=some u)(j:h.objs.size<=a)(new:bD P w (upd H a o) h' a o):cD P w (upd H a o) h':=λb u e=>by
 have i:=x.fresh j;by_cases d:b=a
 ·subst d;rw[aA]at e;cases e;exact new
 ·rw[AD d]at e;exact(x b u e).df (λc v _ q=>k c v q) (λc q=>by rwa[AD (AJ q i)]) λc l q=>by rwa[AD (AJ q i)]
end
def Rd(H:Hp)(a:hO)(u:HO):Prop:=H a=some u\/∃o,H a=some (.cb o u)
def Rd.ok(r:Rd H a u)(x:cD P w H h):bD P w H h a u:=by
 rcases r with r|⟨o,r⟩
 ·exact x a u r
 ·obtain⟨_,q⟩:=x a _ r;exact q
def Mut:Option HO->Prop
 |some (.lst _)=>True
 |some (.dK _)=>True
 |some (.dT _)=>True
 |some (.set _ _)=>True
 |some (.ins _ _ _)=>True
 |some (.ext _)=>True
 |_=>False
section
def cD.write(ok:cD P w H h)(l:Mut (H x))(A:e=x\/H e=some (.own x))(k:∀b u,b≠e->h.get? b=some u->h'.get? b=some u)(j:∃u,h'.get? e=some u)
  (new:bD P w (upd H x o) h' x o):cD P w (upd H x o) h':=λb u q=>by
 have d:∀c y,H c=some (.own y)->c≠x:=λc y r z=>by subst z;rwa[r]at l
 have a:∀c i,H c=some (.tup i)->c≠x:=λc i r z=>by subst z;rwa[r]at l
 by_cases t:b=x
 ·subst t;rw[aA]at q;cases q;exact new
 ·rw[AD t]at q;by_cases B:b=e
  ·have p:H b=some (.own x):=by
    rcases A with z|z
    ·simp_all
    ·simp_all
   rw[q]at p;cases p;obtain⟨v,C⟩:=j;exact⟨v,by simp_all⟩
  ·refine(ok b u q).df (λc v D r=>k c v ?_ r) (λc r=>by rwa[AD (d c b r)]) λc i r=>by rwa[AD (a c i r)]
   grind
end
structure Un(fs ex:List hO)(H H':Hp)(h h':Heap):Prop where
 keep:∀b o,h.get? b=some o->H b=none->b∉ fs->b∉ ex->h'.get? b=some o
 slot:∀b o,h.get? b=some o->H b=none->b∈fs->b∉ ex->∃sl,h'.get? b=some {o with slots:=sl}
 free:∀b o,h.get? b=some o->H b=none->b∉ ex->H' b=none
 there:∀b o,h.get? b=some o->b∉ ex->∃o',h'.get? b=some o'
 dG:∀b xs,H b=some (.tup xs)->H' b=some (.tup xs)
 dj:∀b o u,H b=some (.cb o u)->H' b=some (.cb o u)
 dm:∀b ps,H b=some (.dy ps)->∃more,H' b=some (.dy (ps++more))
section
def Un.any(u:Un fs ex H H1 h h1)(q:h.get? b=some a)(n:H b=none)(d:b∉ ex):∃sl,h1.get? b=some {a with slots:=sl}:=by
 by_cases e:b∈fs
 ·exact u.slot b a q n e d
 ·exact⟨a.slots,u.keep b a q n e d⟩
def Un.kept(k:∀b u,h.get? b=some u->h'.get? b=some u):Un fs ex H H h h':=
 ⟨λb a q _ _ _=>k b a q,λb a q _ _ _=>⟨a.slots,k b a q⟩,λ_ _ _ n _=>n,λb a q _=>⟨a,k b a q⟩,λ_ _ q=>q,λ_ _ _ q=>q,λ_ d q=>⟨#[],by trivial⟩⟩
def Un.refl:Un fs ex H H h h:=Un.kept λ_ _ q=>q
def Un.laid(k:∀b u,h.get? b=some u->h'.get? b=some u)(e:h.objs.size<=a)(d:H a=none):Un fs ex H (upd H a o) h h' where
 keep:=λb u q _ _ _=>k b u q
 slot:=λb u q _ _ _=>⟨u.slots,k b u q⟩
 free:=λb u q n _=>by rwa[AD (zZ (Z2 (lt_size q) e))]
 there:=λb u q _=>⟨u,k b u q⟩
 dG:=λb i q=>by rwa[AD (AJ q d)]
 dj:=λb u i q=>by rwa[AD (AJ q d)]
 dm:=λb j q=>⟨#[],by rw[AD (AJ q d),q];simp⟩
def Un.write(i:Mut (H x))(r:e=x\/H e=some (.own x))(k:∀b u,b≠e->h.get? b=some u->h'.get? b=some u)(p:∃u,h'.get? e=some u):Un fs ex H (upd H x o) h h':=by
 have j:∀b,H b=none->b≠x:=λb n z=>by subst z;rwa[n]at i
 have d:∀b,H b=none->b≠e:=λb n z=>by
  simp_all
 have a:∀b u,H b=some u->¬ Mut (some u)->b≠x:=λb u q nm z=>by simp_all
 refine⟨λb u q n _ _=>k b u (d b n) q,λb u q n _ _=>⟨u.slots,k b u (d b n) q⟩,λb u q n _=>by rw[AD (j b n)];exact n,λb u q _=>?_,
  λb l q=>by rw[AD (a b _ q λz=>z)];exact q,λb u l q=>by rw[AD (a b _ q λz=>z)];exact q,λb t q=>⟨#[],by rw[AD (a b _ q λz=>z),q];simp⟩⟩
 grind
end
noncomputable def trk(h:Heap)(H:Hp):List hO:=(List.range h.objs.size).filter λa=>(H a).isSome
def Ke(h:Heap)(H:Hp):Heap:=W.hideAll h (trk h H)
def P2(h)(H):(Ke h H).objs.size=h.objs.size:=W.hideAll_size _ _
def RF(e:h.get? b=some o)(n:H b=none):(Ke h H).get? b=some o:=
 W.hideAll_get _ e λa=>by
  have q:=(mem_filter.mp a).2;rw[n]at q;simp at q
def Ti(e:(Ke h H).get? b=some o):h.get? b=some o/\H b=none:=by
 have a:=W.of_hideAll (trk h H) e;refine⟨a,?_⟩;cases q:H b with
 |none=>rfl
 |some x=>
  have z:(Ke h H).get? b=none:=W.hideAll_none (trk h H) (mem_filter.mpr ⟨mem_range.mpr (lt_size a),by simp[q]⟩);rw[z]at e;cases e
structure Mod(K:FG)(mg:SV)(base:Heap):Prop where
 kin:K.In base
 glob:base.Ns mainGlobals mg
 blt:∃mb,base.Ns builtinsNs mb/\∀x:Str,x≠ iQ -> mb x=bootBuiltins x
 nolimit:base.NoLimit
structure Cx where
 prog:Program
 w:World
 K:FG
 mg:Str->Option Value
 base:Heap
 A:Around
 N:hA
 bY:hX
 cZ:Hp
 env:Env
 outer:List Env
 stack:List Env
 ex:List hO
 fn:Str->Bool
 calm:Bool
 pn:LO
 xe:Value->hX->Prop
noncomputable def cA(l:List Env):List hO:=l.filterMap (·.frame)
abbrev Cx.fs(X:Cx):List hO:=cA X.outer
def Vis(sc:Scope)(x:Str):Prop:=sc.names.lookup x=some .local\/sc.names.lookup x=some .cell\/sc.names.lookup x=some .free
def Loc(sc:Scope)(x:Str):Prop:=sc.names.lookup x=some .local\/sc.names.lookup x=some .cell
def Yk(env:Env)(h:Heap)(m:SV)(x:Str)(u:Value):Prop:=
 (env.kindOf x=some .local/\m x=some u)\/((env.kindOf x=some .cell\/env.kindOf x=some .free)/\∃c,env.cells.lookup x=some c/\h.IsCell c (some u))
structure Cx.Ok(X:Cx):Prop where
 mod:Mod X.K X.mg X.base
 kind:X.env.scope.kind=.function
 glob:X.env.globals=mainGlobals
 blt:X.env.builtins=builtinsNs
 above:X.bY.heap.objs.size<=X.env.locals
 inj:∀x y c,X.env.cells.lookup x=some c->X.env.cells.lookup y=some c->x=y
 has:∀x,(X.env.kindOf x=some .cell\/X.env.kindOf x=some .free)->∃c,X.env.cells.lookup x=some c
 fH:∀x c,X.fn x=true->X.env.cells.lookup x=some c->X.bY.heap.objs.size<=c
 hd:X.calm=true->X.A.handled=none
 frames:X.A.frames=some X.stack
 eh:X.stack=X.outer\/(X.stack=X.env::X.outer/\X.env.frame=some X.env.locals)
 exf:∀b∈X.ex,b≠X.env.locals/\∀x c,X.env.cells.lookup x=some c->c≠b
 bs:∀b o,X.base.get? b=some o->X.bY.heap.get? b=some o/\X.cZ b=none
 eK:X.base.objs.size<=X.bY.heap.objs.size
 d3:∀b o,X.base.get? b=some o->b∉ X.ex
 d5:∀b∈X.ex,b∉ X.fs
 cu:X.bY.heap.FunFrames X.base X.outer
 eY:∀b∈X.fs,X.cZ b=none
structure Inv(X:Cx)(aa:LO)(σ:List (Option V))(H:Hp)(s:hX):Prop where
 ok:X.Ok
 os:s.os=X.bY.os
 bare:AllBare s.gens
 base:Un X.fs X.ex X.cZ H X.bY.heap s.heap
 loc:∃m,s.heap.Ns X.env.locals m/\∀(i:Nat)x v,X.N[i]?=some x->σ[i]?=some (some v)->Vis X.env.scope x->∃u,RelV v u/\Yk X.env s.heap m x u
 cell:∀x c,X.env.cells.lookup x=some c->∃v,s.heap.IsCell c v
 free:H X.env.locals=none
 cc:∀x c,X.env.cells.lookup x=some c->H c=none
 pin:∀p∈X.pn++aa,s.heap.get? p.1=some p.2/\H p.1=none/\p.1≠X.env.locals/\p.1∉ X.fs/\∀v,p.2.data≠ .cell v
 aI:cD X.prog X.w H s.heap
 len:σ.length=X.N.length
section
def Cx.Ok.nofr{X:Cx}(ok:X.Ok)(e:X.base.get? b=some o):b∉ X.fs:=λa=>by
 have:=(ok.cu.mem a).1;rw[e]at this;cases this
def Inv.bs(I:Inv X aa σ H s):∀b o,X.base.get? b=some o->s.heap.get? b=some o/\H b=none:=λb o e=>
 ⟨I.base.keep b o (I.ok.bs b o e).1 (I.ok.bs b o e).2 (I.ok.nofr e) (I.ok.d3 b o e),I.base.free b o (I.ok.bs b o e).1 (I.ok.bs b o e).2 (I.ok.d3 b o e)⟩
def Inv.bk{X}{s}(I:Inv X aa σ H s):∀b o,X.base.get? b=some o->s.heap.get? b=some o:=λb o e=>(I.bs b o e).1
def Inv.mod(I:Inv X aa σ H s):Mod X.K X.mg X.base:=I.ok.mod
def Inv.cp(I:Inv X aa σ H s):X.K.In s.heap:=I.ok.mod.kin.keeps I.bk
def Inv.fr(I:Inv X aa σ H s):∃m,Fr X.base X.env.locals s.heap m:=
 let ⟨m,a,_⟩:=I.loc
 ⟨m,a,I.bk,Nat.le_trans I.ok.eK I.ok.above⟩
def Inv.lt(I:Inv X aa σ H s):X.env.locals<s.heap.objs.size:=let ⟨_,a,_⟩:=I.loc;a.lt
def Inv.sz(I:Inv X aa σ H s):X.bY.heap.objs.size<=s.heap.objs.size:=Nat.le_trans I.ok.above (Nat.le_of_lt I.lt)
def Inv.nofs(I:Inv X aa σ H s)(h:s.heap.objs.size<=a):a∉ X.fs:=λd=>by
 obtain⟨_,o,e,_⟩:=I.ok.cu.mem d;exact absurd (Z2 (lt_size e) (Nat.le_trans I.sz h)) (z5 _)
def Inv.gf(I:Inv X aa σ H s):∀x c,X.env.cells.lookup x=some c->c≠X.env.locals:=λx c e z=>by
 obtain⟨v,o,l,i⟩:=I.cell x c e;obtain⟨m,⟨h,j,ep,d,a,_⟩,_⟩:=I.loc
 simp_all
def Inv.cu(I:Inv X aa σ H s):s.heap.FunFrames X.base X.outer:=by
 have all:∀l,(∀b∈cA l,b∈X.fs)->X.bY.heap.FunFrames X.base l->s.heap.FunFrames X.base l:=by
  intro l;induction l with
  |nil=>intro _ _;trivial
  |cons x r p=>
   rintro h ⟨t,⟨L,o,i,u,v,q⟩,j⟩;have a:=h L (by unfold cA;simp_all);obtain⟨sl,e⟩:=I.base.slot L o v (I.ok.eY L a) a λz=>I.ok.d5 L z a;exact⟨t,⟨L,_,i,u,e,q⟩,p (λb d=>h b (by unfold cA;rw[Zn,i];exact Zs _ d)) j⟩
 exact all X.outer (λ_ d=>d) I.ok.cu
def Inv.stack(I:Inv X aa σ H s):s.heap.FunFrames X.base X.stack:=by
 rcases I.ok.eh with e|⟨e,a⟩
 ·rw[e];exact I.cu
 ·rw[e];obtain⟨m,d,_⟩:=I.loc;refine .cons (by rw[I.ok.kind];decide) a d ?_ I.cu;exact Heap.get?_none_of_le (Nat.le_trans I.ok.eK I.ok.above)
def Inv.cQ(I:Inv X aa σ H s):∀b∈cA X.stack,b∈X.env.locals::X.fs:=λb a=>by
 rcases I.ok.eh with e|⟨e,d⟩
 ·simp_all
 ·rw[e]at a;unfold cA at a
  rwa[Zn,d]at a
def Inv.stkFree(I:Inv X aa σ H s):∀b∈cA X.stack,H b=none:=λb a=>by
 rcases mem_cons.mp (I.cQ b a)with e|a
 ·rw[e];exact I.free
 ·obtain⟨_,o,d,_⟩:=I.ok.cu.mem a;exact I.base.free b o d (I.ok.eY b a) λz=>I.ok.d5 b z a
def Inv.step{σ}{H H'}{s}{h'}{g'}{t'}{d'}{ch:List hO}(I:Inv X y σ H s)
  (j:∀b∈ch,(b∈X.ex\/X.bY.heap.objs.size<=b)/\b≠X.env.locals/\(∀x c,X.env.cells.lookup x=some c->c≠b)/\∀p∈X.pn++y,p.1≠b)
  (keep:∀b o,b≠X.env.locals->b∉ X.fs->b∉ ch->s.heap.get? b=some o->H b=none->h'.get? b=some o)
  (t:∀b o,b≠X.env.locals->b∈X.fs->b∉ ch->s.heap.get? b=some o->H b=none->∃sl,h'.get? b=some {o with slots:=sl}) (h:∀b o,b∉ ch->s.heap.get? b=some o->H b=none->H' b=none)
  (O:∀b o,b∉ ch->s.heap.get? b=some o->∃N,h'.get? b=some N)
  (F:∀b xs,H b=some (.tup xs)->H' b=some (.tup xs)) (J:∀b o u,H b=some (.cb o u)->H' b=some (.cb o u)) (T:∀b M,H b=some (.dy M)->∃more,H' b=some (.dy (M++more)))
  (ns:∀m,s.heap.Ns X.env.locals m->h'.Ns X.env.locals m) (Q:cD X.prog X.w H' h') (hg:AllBare g'):
  Inv X y σ H' {s with heap:=h',gens:=g',drawn:=d',toks:=t'}:=by
 have G:∀b o,X.bY.heap.get? b=some o->b≠X.env.locals:=λb o e=>zZ (Z2 (lt_size e) I.ok.above)
 have A:∀b o,X.bY.heap.get? b=some o->b∉ X.ex->b∉ ch:=λb o e a D=>by
  rcases (j b D).1 with z|z
  ·exact a z
  ·exact absurd (Z2 (lt_size e) z) (z5 _)
 have B:∀x c,X.env.cells.lookup x=some c->∀v,s.heap.IsCell c v->h'.IsCell c v:=λx c e v ⟨o,E,R⟩=>by
  have L:=λz=>(j c z).2.2.1 x c e rfl;by_cases U:c∈X.fs
  ·obtain⟨sl,q⟩:=t c o (I.gf x c e) U L E (I.cc x c e);exact⟨_,q,R⟩
  ·exact⟨o,keep c o (I.gf x c e) U L E (I.cc x c e),R⟩
 refine⟨I.ok,I.os,hg,⟨λb o e n D a=>?_,λb o e n D a=>?_,λb o e n a=>?_,λb o e a=>?_,λb xs e=>F b xs (I.base.dG b xs e),λb o xs e=>J b o xs (I.base.dj b o xs e),λb M e=>?_⟩,?_,λx c e=>?_,?_,λx c e=>?_,λp Z=>?_,Q,I.len⟩
 ·exact keep b o (G b o e) D (A b o e a) (I.base.keep b o e n D a) (I.base.free b o e n a)
 ·obtain⟨sl,C⟩:=I.base.slot b o e n D a;obtain⟨sl',S⟩:=t b _ (G b o e) D (A b o e a) C (I.base.free b o e n a)
  simp_all
 ·obtain⟨N,C⟩:=I.base.there b o e a;exact h b N (A b o e a) C (I.base.free b o e n a)
 ·obtain⟨N,C⟩:=I.base.there b o e a
  simp_all
 ·obtain⟨m1,C⟩:=I.base.dm b M e
  grind
 ·obtain⟨m,hn,hl⟩:=I.loc;refine⟨m,ns m hn,λi x v C S Y=>?_⟩;obtain⟨u,r,l⟩:=hl i x v C S Y;refine⟨u,r,?_⟩;rcases l with l|⟨k,c,e,z⟩
  ·exact .inl l
  ·exact .inr ⟨k,c,e,B x c e _ z⟩
 ·obtain⟨v,z⟩:=I.cell x c e
  grind
 ·obtain⟨m,⟨o,_,_,E,_⟩,_⟩:=I.loc;exact h _ o (λz=>(j _ z).2.1 zJ) E I.free
 ·obtain⟨v,o,E,R⟩:=I.cell x c e;exact h c o (λz=>(j c z).2.2.1 x c e zJ) E (I.cc x c e)
 ·obtain⟨e,n,ne,nf,d⟩:=I.pin p Z
  grind
def Inv.un(I:Inv X aa σ H s)(u:Un X.fs [] H H' s.heap h')(j:cD X.prog X.w H' h'):Inv X aa σ H' {s with heap:=h',toks:=t'}:=by
 obtain⟨m,⟨o,y,ep,l,r⟩,_⟩:=id I.loc;obtain⟨sl,q⟩:=u.any l I.free (by simp)
 exact I.step (ch:=[]) (λ_ z=>nomatch z) (λb o _ h _ e n=>u.keep b o e n h (by simp)) (λb o _ h _ e n=>u.slot b o e n h (by simp)) (λb o _ e n=>u.free b o e n (by simp)) (λb o _ e=>u.there b o e (by simp)) u.dG u.dj u.dm (λv t=>by
  obtain⟨x,d,i,a,p⟩:=t;rw[l]at a;cases a
  exact⟨_,d,i,q,p⟩) j I.bare
def Inv.call(I:Inv X a σ H s)(u:Un (cA X.stack) ch H H' s.heap h')(l:cD X.prog X.w H' h')(B:AllBare g')
  (h:∀b∈ch,(b∈X.ex\/X.bY.heap.objs.size<=b)/\b≠X.env.locals/\(∀x c,X.env.cells.lookup x=some c->c≠b)/\∀p∈X.pn++a,p.1≠b):
  Inv X a σ H' {s with heap:=h',gens:=g',drawn:=d',toks:=t'}:=by
 obtain⟨m,⟨o,F,ep,v,r⟩,_⟩:=id I.loc;obtain⟨sl,q⟩:=u.any v I.free λz=>(h _ z).2.1 rfl
 exact I.step h (λb o q C d e n=>u.keep b o e n (λz=>(mem_cons.mp (I.cQ b z)).elim q C) d) (λb o _ _ d e n=>u.any e n d) (λb o d e n=>u.free b o e n d) (λb o d e=>u.there b o e d) u.dG u.dj u.dm (λD A=>by
  obtain⟨E,t,j,i,y⟩:=A;rw[v]at i;cases i
  exact⟨_,t,j,q,y⟩) l B
def Inv.turned(I:Inv X a σ H s)(k:∀b o,b≠it->s.heap.get? b=some o->h'.get? b=some o)(D:H it=none)(i:it≠X.env.locals)
  (B:it∈X.ex\/X.bY.heap.objs.size<=it) (t:∀x c,X.env.cells.lookup x=some c->c≠it) (y:∀p∈X.pn++a,p.1≠it):Inv X a σ H {s with heap:=h',toks:=t'}:=by
 refine I.step (ch:=[it]) (λb C=>?_) (λb o _ _ d e _=>k b o (λz=>d (by simp[z])) e) (λb o _ _ d e _=>⟨o.slots,k b o (λz=>d (by simp[z])) e⟩) (λ_ _ _ _ n=>n)
  (λb o d e=>⟨o,k b o (λz=>d (by simp[z])) e⟩) (λ_ _ e=>e) (λ_ _ _ e=>e) (λb A e=>⟨#[],by trivial⟩) (λm h=>?_) (λb u e=>?_) I.bare
 ·grind
 ·obtain⟨o,l,ep,j,r⟩:=h;exact⟨o,l,ep,k _ o (Ne.symm i) j,r⟩
 ·refine(I.aI b u e).df (λc v d q=>k c v ?_ q) (λ_ q=>q) λ_ _ q=>q
  grind
def Inv.tok(I:Inv X aa σ H s)(t):Inv X aa σ H {s with toks:=t}:=I.un Un.refl I.aI
def Inv.kept(I:Inv X aa σ H s)(k:∀b u,s.heap.get? b=some u->h'.get? b=some u):Inv X aa σ H {s with heap:=h',toks:=t'}:=I.un (Un.kept k) (I.aI.kept k)
def Inv.laid(I:Inv X aa σ H s)(k:∀b u,s.heap.get? b=some u->h'.get? b=some u)(d:s.heap.objs.size<=a)(new:bD X.prog X.w (upd H a o) h' a o):
  Inv X aa σ (upd H a o) {s with heap:=h',toks:=t'}:=I.un (Un.laid k d (I.aI.fresh d)) (I.aI.laid k d new)
def Inv.write(I:Inv X aa σ H s)(d:Mut (H x))(h:e=x\/H e=some (.own x))(k:∀b u,b≠e->s.heap.get? b=some u->h'.get? b=some u)(a:∃u,h'.get? e=some u)
  (new:bD X.prog X.w (upd H x o) h' x o):Inv X aa σ (upd H x o) {s with heap:=h',toks:=t'}:=I.un (Un.write d h k a) (I.aI.write d h k a new)
def Inv.weak(I:Inv X aa σ H s)(l:a.length=σ.length)(w:∀(i:Nat)v,a[i]?=some (some v)->σ[i]?=some (some v)):Inv X aa a H s:=
 ⟨I.ok,I.os,I.bare,I.base,let ⟨m,o,d⟩:=I.loc;⟨m,o,λi x v h j e=>d i x v h (w i v j) e⟩,I.cell,I.free,I.cc,I.pin,I.aI,l.trans I.len⟩
def Inv.pins_of(I:Inv X aa σ H s)(h:∀p∈a,s.heap.get? p.1=some p.2/\H p.1=none/\p.1≠X.env.locals/\p.1∉ X.fs/\∀v,p.2.data≠ .cell v):Inv X a σ H s:=
 ⟨I.ok,I.os,I.bare,I.base,I.loc,I.cell,I.free,I.cc,λp d=>(mem_append.mp d).elim (λz=>I.pin p (by grind)) (h p),I.aI,I.len⟩
def Li{N:hA}(h:N.Nodup){i j:Nat}{x}(a:N[i]?=some x)(b:N[j]?=some x):i=j:=by
 obtain⟨l,d⟩:=Z8.mp a;obtain⟨o,e⟩:=Z8.mp b;exact(List.getElem_inj h).mp (d.trans e.symm)
def Jt(I:Inv X aa σ H s)(hN:X.N.Nodup)(T:X.N[i]?=some x)(C:Loc X.env.scope x)(r:RelV v u)
  (h:∀s',Inv X aa (σ.set i (some v)) H s'->(∃a,Heap.SameBut a s.heap s'.heap/\(a=X.env.locals\/X.env.cells.lookup x=some a))->Q () s') (hf:X.fn x=true\/X.env.scope.names.lookup x=some .local:=by first|exact .inl rfl|exact .inr rfl|assumption):wpAny M A (storeName X.env x u) Q E s:=by
 obtain⟨m,hn,hl⟩:=id I.loc;have S:(X.env.scope.kind == .class||(X.env.scope.kind == .module&&X.env.locals != X.env.globals))=false:=by rw[I.ok.kind];rfl
 have G:i<σ.length:=by rw[I.len];exact(Z8.mp T).1
 have gf:=I.gf
 have t:∀{a:hO}{O:Heap},(∃o,s.heap.get? a=some o/\H a=none)->Heap.SameBut a s.heap O->cD X.prog X.w H O:=λ{a O}ha l b ob e=>by
  obtain⟨_,_,hfree⟩:=ha;refine(I.aI b ob e).df (λc w' D q=>(l.2 c ?_).trans q) (λ_ q=>q) λ_ _ q=>q
  grind
 rcases C with R|R
 ·refine wpAny_storeName_local R hn (λO hn' l=>?_) S;obtain⟨oL,_,_,hoL,_⟩:=id hn;refine h _ ⟨I.ok,I.os,I.bare,⟨λb o e n N C=>?_,λb o e n N C=>?_,I.base.free,λb o e C=>?_,I.base.dG,I.base.dj,I.base.dm⟩,⟨_,hn',λj y v' B F Z=>?_⟩,λy c e=>?_,I.free,I.cc,λp hp=>?_,t ⟨oL,hoL,I.free⟩ l,by simpa using I.len⟩ ⟨_,l,.inl zJ⟩
  ·exact(l.2 b (zZ (Z2 (lt_size e) I.ok.above))).trans (I.base.keep b o e n N C)
  ·obtain⟨sl,B⟩:=I.base.slot b o e n N C;exact⟨sl,(l.2 b (zZ (Z2 (lt_size e) I.ok.above))).trans B⟩
  ·obtain⟨o',B⟩:=I.base.there b o e C;exact⟨o',(l.2 b (zZ (Z2 (lt_size e) I.ok.above))).trans B⟩
  ·by_cases J:j=i
   ·subst J;rw[T]at B;cases B;rw[List.getElem?_set_self G]at F;cases F;exact⟨u,r,.inl ⟨R,by simp⟩⟩
   ·rw[List.getElem?_set_ne (Ne.symm J)]at F;obtain⟨u',r',q⟩:=hl j y v' B F Z;refine⟨u',r',?_⟩;rcases q with⟨k,e⟩|⟨k,c,e,z⟩
    ·refine .inl ⟨k,?_⟩;have:y≠x:=λe=>J (Li hN B (e ▸ T));simp[this,e]
    ·exact .inr ⟨k,c,e,z.sameBut l (gf y c e)⟩
  ·obtain⟨w',z⟩:=I.cell y c e;exact⟨w',z.sameBut l (gf y c e)⟩
  ·obtain⟨e,n,Y,nf,d⟩:=I.pin p hp;exact⟨(l.2 p.1 Y).trans e,n,Y,nf,d⟩
 ·have L:X.fn x=true:=by
   rcases hf with z|z
   ·exact z
   ·simp_all
  obtain⟨c,D⟩:=I.ok.has x (.inl R);obtain⟨w',z⟩:=I.cell x c D;refine wpAny_storeName_cell I.ok.kind R D z (λO fm l=>?_);obtain⟨oc,hoc,hocd⟩:=id z;refine h {s with heap:=O} ⟨I.ok,I.os,I.bare,⟨λb o e n N C=>?_,λb o e n N C=>?_,I.base.free,λb o e C=>?_,I.base.dG,I.base.dj,I.base.dm⟩,⟨m,hn.sameBut l (by grind),λj y v' B F Z=>?_⟩,λy U e=>?_,I.free,I.cc,λp hp=>?_,t ⟨oc,hoc,I.cc x c D⟩ l,by simpa using I.len⟩ ⟨c,l,.inr D⟩
  ·exact(l.2 b (zZ (Z2 (lt_size e) (I.ok.fH x c L D)))).trans (I.base.keep b o e n N C)
  ·obtain⟨sl,B⟩:=I.base.slot b o e n N C;exact⟨sl,(l.2 b (zZ (Z2 (lt_size e) (I.ok.fH x c L D)))).trans B⟩
  ·obtain⟨o',B⟩:=I.base.there b o e C;exact⟨o',(l.2 b (zZ (Z2 (lt_size e) (I.ok.fH x c L D)))).trans B⟩
  ·by_cases J:j=i
   ·subst J;rw[T]at B;cases B;rw[List.getElem?_set_self G]at F;cases F;exact⟨u,r,.inr ⟨.inl R,c,D,fm⟩⟩
   ·rw[List.getElem?_set_ne (Ne.symm J)]at F;obtain⟨u',r',q⟩:=hl j y v' B F Z;refine⟨u',r',?_⟩;rcases q with q|⟨k,U,e,z'⟩
    ·exact .inl q
    ·refine .inr ⟨k,U,e,z'.sameBut l ?_⟩;rintro rfl;exact J (Li hN B (I.ok.inj _ _ _ e D ▸ T))
  ·by_cases hcc:U=c
   ·grind
   ·obtain⟨w2,z2⟩:=I.cell y U e;exact⟨w2,z2.sameBut l hcc⟩
  ·obtain⟨e,n,Y,nf,d⟩:=I.pin p hp;refine⟨(l.2 p.1 ?_).trans e,n,Y,nf,d⟩
   grind
def DQ(I:Inv X aa σ H s)(j:X.N.Nodup)(l:X.N[i]?=some x)(e:Loc X.env.scope x)(r:RelV v u)
  (h:∀a,Inv X aa (σ.set i (some v)) H a->Q () a) (o:X.fn x=true\/X.env.scope.names.lookup x=some .local:=by first|exact .inl rfl|exact .inr rfl|assumption):wpAny M A (storeName X.env x u) Q E s:=
 Jt I j l e r (λa d _=>h a d) o
def Inv.call'(I:Inv X a σ H s)(i:s'.os=s.os)(u:Un (cA X.stack) ch H H' s.heap s'.heap)(e:cD X.prog X.w H' s'.heap)(h:AllBare s'.gens)
  (d:∀b∈ch,(b∈X.ex\/X.bY.heap.objs.size<=b)/\b≠X.env.locals/\(∀x c,X.env.cells.lookup x=some c->c≠b)/\∀p∈X.pn++a,p.1≠b):Inv X a σ H' s':=by
 obtain⟨q,l,j,r,o⟩:=s';subst i;exact I.call u e h d
end
abbrev XK:=Value->Option hO->Hp->Prop
abbrev St:=List (Option V)
abbrev VK:=V->Hp->Prop
abbrev TE:=St->Hp->VK->Prop
abbrev TT:=St->Hp->(Bool->Hp->Prop)->Prop
abbrev TA:=St->Hp->(hK->Hp->Prop)->Prop
structure IV where
 nx:St->Hp->Prop
 rt:VK
 bk:St->Hp->Prop:=λ_ _=>False
 ct:St->Hp->Prop:=λ_ _=>False
abbrev TS:=IV->St->Hp->Prop
inductive EP(X:Cx)(aa:LO)(σ:St)(Q:VK)(u:Value)(s':hX):Prop
 |mk (v) (H') (i:Inv X aa σ H' s') (r:RelV v u) (q:Q v H'):EP X aa σ Q u s'
def TP(X:Cx)(aa:LO)(σ:St)(Q:Bool->Hp->Prop)(b:Bool)(s':hX):Prop:=∃H',Inv X aa σ H' s'/\Q b H'
inductive AP(X:Cx)(aa:LO)(σ:St)(Q:hK->Hp->Prop)(us:hE)(s':hX):Prop
 |mk (vs) (H') (i:Inv X aa σ H' s') (r:Vals vs us) (q:Q vs H'):AP X aa σ Q us s'
def SP(X:Cx)(aa:LO)(D:IV)(f:Flow)(s':hX):Prop:=
 match f with
 |.next=>∃cK H',Inv X aa cK H' s'/\D.nx cK H'
 |.brk=>∃cK H',Inv X aa cK H' s'/\D.bk cK H'
 |.cont=>∃cK H',Inv X aa cK H' s'/\D.ct cK H'
 |.ret u=>∃v cK H',Inv X aa cK H' s'/\RelV v u/\D.rt v H'
abbrev cn(X:Cx){β:Type}(t:PySem.Sem β):=PySem.wpAny (PySem.model X.prog X.w) X.A t
def PE(X:Cx)(e:Expr)(t:TE):Prop:=
 ∀aa s(σ:St)H Q,Inv X aa σ H s->t σ H Q->cn X (eval e X.env) (EP X aa σ Q) X.xe s
def PT(X:Cx)(e:Expr)(t:TT):Prop:=
 ∀aa s(σ:St)H Q,Inv X aa σ H s->t σ H Q->cn X (isTrue e X.env (eval e X.env)) (TP X aa σ Q) X.xe s
def PW(X:Cx)(e:Expr)(t:TT):Prop:=
 ∀whole aa s(σ:St)H Q,Inv X aa σ H s->t σ H Q->cn X (isTrue e X.env whole) (TP X aa σ Q) X.xe s
def PW.pt(h:PW X e t):PT X e t:=h _
def PA(X:Cx)(es:List Expr)(t:TA):Prop:=
 ∀pos aa s(σ:St)H Q,Inv X aa σ H s->t σ H Q->cn X (spliced (backTo pos (starEach es X.env))) (AP X aa σ Q) X.xe s
def PS(X:Cx)(st:Stmt)(t:TS):Prop:=
 ∀aa s(σ:St)H D,Inv X aa σ H s->t D σ H->cn X (exec st X.env) (SP X aa D) X.xe s
def c8(X:Cx)(st:List Stmt)(t:TS):Prop:=
 ∀aa s(σ:St)H D,Inv X aa σ H s->t D σ H->cn X (execs st X.env) (SP X aa D) X.xe s
def aL{α}{t:Sem α}{Q d}(h:wpAny M A t Q E s)(e:∀a s,Q a s->d a s):wpAny M A t d E s:=zS h e λ_ _ x=>x
section
inductive ExV(o:Option (Option V))(k:V->Prop):Prop
 |mk (v) (h:o=some (some v)) (q:k v):ExV o k
inductive ExB(x:V)(k:Bool->Prop):Prop
 |mk (c) (h:x=.bl c) (q:k c):ExB x k
inductive ExI(x y:V)(k:Int->Int->Prop):Prop
 |mk (i j) (h:x=.int i) (h':y=.int j) (q:k i j):ExI x y k
def Kh(i:Nat):TE:=λσ H Q=>ExV σ[i]? λv=>Q v H
def tC(v:V):TE:=λ_ H Q=>Q v H
abbrev dr(x:PySem.Str):Prop:=(x==("__debug__":PySem.Str))=false
def RG(z:X.N[i]?=some x)(y:Vis X.env.scope x)(p:dr x:=by decide)(q:(x==(lL:Str))=false:=by decide):PE X (.Name x pos) (Kh i):=by
 rintro o s B H Q I ⟨v,e,h⟩;obtain⟨m,D,C⟩:=I.loc;obtain⟨u,r,l⟩:=C i x v z e y;have d:EP X o B Q u s:=⟨v,H,I,r,h⟩;rcases l with⟨j,A⟩|⟨j,c,t,a⟩
 ·exact wpAny_Name (wpAny_loadName_local I.ok.kind j D A d) p
 ·rcases j with j|j
  ·exact wpAny_Name (wpAny_loadName_cell I.ok.kind j t a d) p
  ·exact wpAny_Name (wpAny_loadName_free I.ok.kind j t a d q) p
def AF:PE X (.Constant (.int i) j pos) (tC (.int i)):=λ_ _ _ H _ I h=>wpAny_Constant_int ⟨.int i,H,I.tok _,⟨_,rfl⟩,h⟩
def DR:PE X (.Constant (.bool b) j pos) (tC (.bl b)):=λ_ _ _ H _ I h=>Constant_bool ⟨.bl b,H,I,rfl,h⟩
def EH:PE X (.Constant .none j pos) (tC .aO):=λ_ _ _ H _ I h=>Constant_none ⟨.aO,H,I,rfl,h⟩
def AL:PE X (.Constant (.str x) j pos) (tC (.str x)):=λ_ _ _ H _ I h=>Calls.Constant_str ⟨.str x,H,I.tok _,⟨_,rfl⟩,h⟩
def Gl(X:Cx)(x:Str):Prop:=X.env.kindOf x=some .globalImplicit
def Bv(I:Inv X aa σ H s)(a:Gl X x)(e:X.mg x=some u)(h:Q u s)
  (d:dr x:=by decide):cn X (eval (.Name x pos) X.env) Q E s:=
 Calls.Name_function_global I.ok.kind a (Calls.loadGlobal_global (by rw[I.ok.glob];exact I.mod.glob.keeps I.bk) e h) d
def FH(I:Inv X aa σ H s)(e:Gl X x)(l:X.mg x=none)(j:bootBuiltins x=some u)(h:Q u s)
  (o:x≠ iQ:=by decide) (i:dr x:=by decide):cn X (eval (.Name x pos) X.env) Q E s:=by
 obtain⟨p,a,d⟩:=I.mod.blt;exact Calls.Name_function_global I.ok.kind e (Calls.loadGlobal_builtin (by rw[I.ok.glob];exact I.mod.glob.keeps I.bk) l (by rw[I.ok.blt];exact a.keeps I.bk) ((d x o).trans j) h) i
def BJ(a:Gl X x)(e:X.mg x=some u)(r:RelV v u)(d:dr x:=by decide):PE X (.Name x pos) (tC v):=
 λ_ _ _ H _ I h=>Bv I a e ⟨v,H,I,r,h⟩ d
def De(a:Gl X x)(i:X.mg x=none)(e:bootBuiltins x=some u)(r:RelV v u)(j:x≠ iQ:=by decide)(d:dr x:=by decide):PE X (.Name x pos) (tC v):=
 λ_ _ _ H _ I h=>FH I a i e ⟨v,H,I,r,h⟩ j d
def PC(X:Cx)(op:CmpOp)(a b:Expr)(t:TE):Prop:=
 ∀aa s(σ:St)H Q,Inv X aa σ H s->t σ H Q ->
  cn X (eval a X.env) (λv s₁=>cn X (eval b X.env) (λu s₂=>cn X (compareOp op v u) (EP X aa σ Q) X.xe s₂) X.xe s₁) X.xe s
def Lj(b)(h:op≠ .In)(e:op≠ .NotIn):behindInMarks op b=false:=by
 have a:(op==CmpOp.In)=false:=by cases op<;>first|rfl|trivial
 have d:(op==CmpOp.NotIn)=false:=by cases op<;>first|rfl|trivial
 cases b<;>simp[behindInMarks,a,d]
def Yl(ta:TE):TE:=λσ H Q=>ta σ H λx H1=>Q (.bl (decide (x=.aO))) H1
def Wx(ta:TE):TE:=λσ H Q=>ta σ H λx H1=>Q (.bl (!decide (x=.aO))) H1
def RelV.none_iff(r:RelV x v):(v==Value.none)=decide (x=.aO):=by
 cases x with
 |aO=>cases r;rfl
 |bl _=>cases r;rfl
 |int _=>obtain⟨t,rfl⟩:=r;rfl
 |str _=>obtain⟨t,rfl⟩:=r;rfl
 |fq _=>obtain⟨t,rfl⟩:=r;rfl
 |gT _=>obtain⟨t,rfl⟩:=r;rfl
 |ref _=>cases r;rfl
 |ty _=>cases r;rfl
def Ki(i:PE X a p):PC X .Is a (.Constant .none j pos') (Yl p):=by
 intro d s e H Q I h;refine aL (i d s e H _ I h) λv r z=>?_;obtain⟨x,l,q,o,q1⟩:=z;exact Constant_none (is_none_gen ⟨.bl _,l,q,by rw[o.none_iff];rfl,q1⟩)
def Om(i:PE X a p):PC X .IsNot a (.Constant .none j pos') (Wx p):=by
 intro d s e H Q I h;refine aL (i d s e H _ I h) λv r z=>?_;obtain⟨x,l,q,o,q1⟩:=z;exact Constant_none (isnot_none_gen ⟨.bl _,l,q,by rw[o.none_iff];rfl,q1⟩)
def tB(t:TE):TT:=λσ H Q=>t σ H λx H1=>ExB x λc=>Q c H1
def NY(h:PC X op a b t)(e:behindInMarks op b=false:=by first|exact Lj _ qc qc|rfl):PE X (.Compare a [op] [b] pos) t:=λd s i H Q I j=>wpAny_Compare1 (h d s i H Q I j) e
def Cr(h:PC X op a b t)(i:behindInMarks op b=false:=by first|exact Lj _ qc qc|rfl):PT X (.Compare a [op] [b] pos) (tB t):=by
 intro e s l H Q I p;refine wpAny_isTrue_Compare1 (aL (h e s l H _ I p) λv z i=>aL i λu A j=>aL j λc s3 v=>?_) i;obtain⟨x,o,y,r,q1⟩:=v;obtain⟨d,rfl,q⟩:=q1;cases r;exact Z0 ⟨o,y,q⟩
def Ao(h:PE X e t)(r:∀a,isTrue e X.env a=(do let v ←a;standAt e.pos;holding [v] (truthy v)):=by intro _;rfl):PT X e (tB t):=by
 intro i s j H Q I o;refine isTrue_plain (aL (h i s j H _ I o) λv y z=>?_) (r _);obtain⟨x,l,u,p,q1⟩:=z;obtain⟨d,rfl,q⟩:=q1;cases p;exact Z0 ⟨l,u,q⟩
def Wy(t u:TT):TT:=λσ H Q=>t σ H λc H1=>if c=true then u σ H1 Q else Q false H1
def tOr(t u:TT):TT:=λσ H Q=>t σ H λc H1=>if c=true then Q true H1 else u σ H1 Q
def Wz(t:TT):TT:=λσ H Q=>t σ H λc H1=>Q (!c) H1
def Bg(j:PT X a l):PW X (.BoolOp .And [a] pos) l:=by
 intro p d s i H Q I h;refine isTrue_and (aL (j d s i H Q I h) λc o e=>?_);cases c with
 |true=>exact isTrue_and_nil e
 |false=>exact e
def Bc(j:PT X a l):PW X (.BoolOp .Or [a] pos) l:=by
 intro p d s i H Q I h;refine isTrue_or (aL (j d s i H Q I h) λc o e=>?_);cases c with
 |false=>exact isTrue_or_nil e
 |true=>exact e
def CA(p:PT X a q)(r:PW X (.BoolOp .And (b::rest) pos) e):PW X (.BoolOp .And (a::b::rest) pos) (Wy q e):=by
 intro t d s i H Q I h;refine isTrue_and (aL (p d s i H _ I h) λc o z=>?_);obtain⟨j,l,q1⟩:=z;cases c with
 |true=>exact r t d o i j Q l q1
 |false=>exact⟨j,l,q1⟩
def CW(p:PT X a q)(r:PW X (.BoolOp .Or (b::rest) pos) e):PW X (.BoolOp .Or (a::b::rest) pos) (tOr q e):=by
 intro t d s i H Q I h;refine isTrue_or (aL (p d s i H _ I h) λc o z=>?_);obtain⟨j,l,q1⟩:=z;cases c with
 |true=>exact⟨j,l,q1⟩
 |false=>exact r t d o i j Q l q1
def Aw(i:PT X a l):PT X (.UnaryOp .Not a pos) (Wz l):=by
 intro d s e H Q I h;exact isTrue_not (i d s e H (λc j=>Q (!c) j) I h)
def W0(ta tb:TE):TE:=λσ H Q=>ta σ H λx H1=>ExB x λc=>if c=true then tb σ H1 Q else Q (.bl false) H1
def Ym(ta tb:TE):TE:=λσ H Q=>ta σ H λx H1=>ExB x λc=>if c=true then Q (.bl true) H1 else tb σ H1 Q
def XA(ta:TE):TE:=λσ H Q=>ta σ H λx H1=>ExB x λc=>Q (.bl (!c)) H1
def Cs(h:PE X a t):PE X (.BoolOp op [a] pos) t:=λd s e H Q I i=>BoolOp_one (h d s e H Q I i)
def Ce(l:PE X a q)(o:PE X (.BoolOp .And (b::rest) pos) tb):PE X (.BoolOp .And (a::b::rest) pos) (W0 q tb):=by
 intro d s e H Q I h;refine BoolOp_and (aL (l d s e H _ I h) λv r z=>?_);obtain⟨x,i,j,p,q1⟩:=z;obtain⟨c,rfl,q1⟩:=q1;cases p;apply Z0;cases c with
 |true=>exact o d r e i Q j q1
 |false=>exact⟨.bl false,i,j,rfl,q1⟩
def VD(l:PE X a q)(o:PE X (.BoolOp .Or (b::rest) pos) tb):PE X (.BoolOp .Or (a::b::rest) pos) (Ym q tb):=by
 intro d s e H Q I h;refine BoolOp_or (aL (l d s e H _ I h) λv r z=>?_);obtain⟨x,i,j,p,q1⟩:=z;obtain⟨c,rfl,q1⟩:=q1;cases p;apply Z0;cases c with
 |false=>exact o d r e i Q j q1
 |true=>exact⟨.bl true,i,j,rfl,q1⟩
def RH(i:PE X a o):PE X (.UnaryOp .Not a pos) (XA o):=by
 intro d s e H Q I h;refine UnaryOp_ (aL (i d s e H _ I h) λv q z=>?_);obtain⟨x,j,p,l,q1⟩:=z;obtain⟨c,rfl,q1⟩:=q1;cases l;exact not_of (Z0 ⟨.bl (!c),j,p,zJ,q1⟩)
def tIf(t:TT)(ta tb:TE):TE:=λσ H Q=>t σ H λc H1=>if c=true then ta σ H1 Q else tb σ H1 Q
def BU(u:PT X c t)(p:PE X a r)(q:PE X b tb):PE X (.IfExp c a b pos) (tIf t r tb):=by
 intro e s i H Q I h;refine wpAny_IfExp (aL (u e s i H _ I h) λd o z=>?_);obtain⟨l,j,q1⟩:=z;cases d with
 |true=>exact p e o i l Q j q1
 |false=>exact q e o i l Q j q1
end
def aH(ω:FG)(H:Hp)(a:hO)(xs:hK):Prop:=
 Rd H a (.lst xs) \/
  ∃(o:Obj)(ac:Array Value)(n:Nat),ω.lookup a=some o/\o.cls=.type iB /\ o.dict=none/\o.data=.seq ac n/\ac.size<=sizeLine/\Vals xs ac.toList
def aP(ω:FG)(H:Hp)(a:hO)(xs:hK):Prop:=
 Rd H a (.tup xs) \/
  ∃(o:Obj)(ac:Array Value)(n:Nat),ω.lookup a=some o/\o.cls=.type iF /\ o.data=.seq ac n/\ac.size<=sizeLine/\Vals xs ac.toList
noncomputable def Yn:Value->Option V
 |.none=>some .aO
 |.bool b=>some (.bl b)
 |.int i _=>some (.int i)
 |.str x _=>some (.str x)
 |.bytes b _=>some (.fq b)
 |.float b _=>some (.gT b)
 |.ref a=>some (.ref a)
 |.type n=>some (.ty n)
 |_=>none
def RelV.abs(r:RelV x u):Yn u=some x:=by
 cases x with
 |aO=>cases r;rfl
 |bl _=>cases r;rfl
 |int _=>obtain⟨t,rfl⟩:=r;rfl
 |str _=>obtain⟨t,rfl⟩:=r;rfl
 |fq _=>obtain⟨t,rfl⟩:=r;rfl
 |gT _=>obtain⟨t,rfl⟩:=r;rfl
 |ref _=>cases r;rfl
 |ty _=>cases r;rfl
def RelV.inj(r:RelV x u)(q:RelV y u):x=y:=Option.some.inj (r.abs.symm.trans q.abs)
def Vals.inj:∀{xs ys}{a},Vals xs a->Vals ys a->xs=ys
 |_,_,_,.nil,.nil=>rfl
 |_,_,_,.cons r t,.cons d e=>by rw[r.inj d,Vals.inj t e]
section
def aH.of(h:H a=some (.lst xs)):aH ω H a xs:=.inl (.inl h)
def aP.of(h:H a=some (.tup xs)):aP ω H a xs:=.inl (.inl h)
def Inv.list(I:Inv X aa σ H s)(h:aH X.K H a xs):∃d,Vals xs d/\PlainL s.heap a d.toArray/\xs.length<=sizeLine:=by
 rcases h with h|⟨o,d,n,j,l,i,q,p,r⟩
 ·obtain⟨z,d,n,r,e⟩:=h.ok I.aI;exact⟨d,r,⟨_,n,e,zJ,zJ,zJ⟩,z⟩
 ·refine⟨d.toList,r,⟨o,n,I.cp a o j,l,i,qe⟩,?_⟩;have e:=r.length;simp at e
  lia
def Inv.tuple(I:Inv X aa σ H s)(h:aP X.K H a xs):∃d,Vals xs d/\IsTup s.heap a d.toArray/\xs.length<=sizeLine:=by
 rcases h with h|⟨o,d,n,i,j,q,l,r⟩
 ·obtain⟨z,d,r,p⟩:=h.ok I.aI
  grind
 ·refine⟨d.toList,r,⟨o,I.cp a o i,j,n,qe⟩,?_⟩;have e:=r.length;simp at e
  lia
def Inv.list_inj(I:Inv X aa σ H s)(h:aH X.K H a xs)(h':aH X.K H a ys):xs=ys:=by
 obtain⟨j,r,⟨o,n,e,_,_,d⟩,_⟩:=I.list h;obtain⟨i,q,⟨u,v,p,_,_,l⟩,_⟩:=I.list h';rw[e]at p;cases p;rw[d]at l;injection l with t _
 have:j=i:=by simpa using congrArg Array.toList t
 subst this;exact r.inj q
def Inv.tuple_inj(I:Inv X aa σ H s)(h:aP X.K H a xs)(h':aP X.K H a ys):xs=ys:=by
 obtain⟨j,r,⟨o,e,_,n,d⟩,_⟩:=I.tuple h;obtain⟨i,q,⟨u,p,_,v,l⟩,_⟩:=I.tuple h';rw[e]at p;cases p;rw[d]at l;injection l with t _
 have:j=i:=by simpa using congrArg Array.toList t
 subst this;exact r.inj q
end
noncomputable abbrev Cx.dY(X:Cx)(E:VS):Cx:={X with xe:=E}
abbrev Cx.gm(X:Cx):Cx:=X.dY λ_ _=>False
def Cx.Ok.dY{X:Cx}(ok:X.Ok)(E):(X.dY E).Ok:=
 ⟨ok.mod,ok.kind,ok.glob,ok.blt,ok.above,ok.inj,ok.has,ok.fH,ok.hd,ok.frames,ok.eh,ok.exf,ok.bs,ok.eK,ok.d3,ok.d5,ok.cu,ok.eY⟩
def Cx.Ok.cL{X:L2.Cx}(ok:(X.dY E).Ok):X.Ok:=
 ⟨ok.mod,ok.kind,ok.glob,ok.blt,ok.above,ok.inj,ok.has,ok.fH,ok.hd,ok.frames,ok.eh,ok.exf,ok.bs,ok.eK,ok.d3,ok.d5,ok.cu,ok.eY⟩
section
def Inv.dY(I:Inv X aa σ H s)(E):Inv (X.dY E) aa σ H s:=⟨I.ok.dY E,I.os,I.bare,I.base,I.loc,I.cell,I.free,I.cc,I.pin,I.aI,I.len⟩
def Inv.cL(I:Inv (X.dY E) aa σ H s):Inv X aa σ H s:=⟨I.ok.cL,I.os,I.bare,I.base,I.loc,I.cell,I.free,I.cc,I.pin,I.aI,I.len⟩
def SP.cL(h:SP (X.dY E) aa D f s'):SP X aa D f s':=by
 cases f with
 |next=>obtain⟨a,d,I,q⟩:=h;exact⟨a,d,I.cL,q⟩
 |brk=>obtain⟨a,d,I,q⟩:=h;exact⟨a,d,I.cL,q⟩
 |cont=>obtain⟨a,d,I,q⟩:=h;exact⟨a,d,I.cL,q⟩
 |ret u=>obtain⟨v,a,d,I,r,q⟩:=h;exact⟨v,a,d,I.cL,r,q⟩
def c8.gm{st}(h:c8 X.gm st t):c8 X st t:=λa s d H D I e=>
 zS (h a s d H D (I.dY _) e) (λ_ _ q=>q.cL) λ_ _ z=>False.elim z
end
section
def RJ:TS:=λD σ H=>D.nx σ H
def Vf(t u:TS):TS:=λD σ H=>t {D with nx:=u D} σ H
def AM:c8 X [] RJ:=λ_ _ a H _ I h=>wpAny_execs_nil ⟨a,H,I,h⟩
def AC{st}(e:PS X st t)(l:c8 X rest u):c8 X (st::rest) (Vf t u):=by
 intro a s j H D I h;refine wpAny_execs_cons (aL (e a s j H {D with nx:=u D} I h) λf p q=>?_);cases f with
 |next=>
  obtain⟨d,o,i,q⟩:=q;exact l a p d o D i q
 |ret v=>exact q
 |brk=>exact q
 |cont=>exact q
def AB{st}(d:PS X st t):c8 X [st] t:=by
 intro a s e H D I h;refine wpAny_execs_cons (aL (d a s e H D I h) λf i q=>?_);cases f with
 |next=>exact wpAny_execs_nil q
 |ret v=>exact q
 |brk=>exact q
 |cont=>exact q
def Inv.quiet(I:Inv X aa σ H s):interactive X.env=false:=by simp[interactive,I.ok.kind]
def XB(te:TE):TS:=λD σ H=>te σ H λ_ H1=>D.nx σ H1
def Ae(j:PE X e te)(hs:swapsWith e none pos.line X.env=pure false:=by rfl):PS X (.Expr e pos) (XB te):=by
 intro a s d H D I h;exact wpAny_Expr_any (aL (j a s d H _ I h) λv p z=>by obtain⟨x,i,l,o,q1⟩:=z;exact ⟨d,i,l,q1⟩) I.quiet hs
def RL(te:TE):TS:=λD σ H=>te σ H D.rt
def AI(l:PE X e te):PS X (.Return (some e) pos) (RL te):=by
 intro a s d H D I h;exact wpAny_Return_some (aL (l a s d H _ I h) λv p z=>by obtain⟨x,i,o,j,q1⟩:=z;exact ⟨x,d,i,o,j,q1⟩)
def Tj(c:TT)(t u:TS):TS:=λD σ H=>c σ H λb H1=>if b=true then t D σ H1 else u D σ H1
def AY(v:PT X c q)(p:c8 X a t)(r:c8 X b u):PS X (.If c a b pos) (Tj q t u):=by
 intro e s i H D I h;refine wpAny_If (aL (v e s i H _ I h) λd o z=>?_);obtain⟨l,j,q1⟩:=z;cases d with
 |true=>exact p e o i l D j q1
 |false=>exact r e o i l D j q1
def Vg:TS:=λ_ _ _=>False
def Ag{st}:PS X st Vg:=λ_ _ _ _ _ _ h=>h.elim
end
abbrev TG:=V->St->Hp->(St->Hp->Prop)->Prop
abbrev TGs:=hK->St->Hp->(St->Hp->Prop)->Prop
def PG(X:Cx)(target:Expr)(t:TG):Prop:=
 ∀aa s(σ:St)H v u Q,Inv X aa σ H s->RelV v u->t v σ H Q ->
  cn X (assign target X.env u) (λ_ s'=>∃cK H',Inv X aa cK H' s'/\Q cK H') X.xe s
def PGs(X:Cx)(ts:List Expr)(t:TGs):Prop:=
 ∀aa s(σ:St)H vs us Q,Inv X aa σ H s->Vals vs us->t vs σ H Q ->
  cn X (assignInOrder ((assignEach ts X.env).map (·.2)) us) (λ_ s'=>∃cK H',Inv X aa cK H' s'/\Q cK H') X.xe s
abbrev XC:=V->V->V->Hp->(Hp->Prop)->Prop
def XD(X:Cx)(t:XC):Prop:=
 ∀aa s(σ:St)H o i v ov iv u Q,Inv X aa σ H s->RelV o ov->RelV i iv->RelV v u->t o i v H Q ->
  cn X (setItem ov iv u) (λ_ s'=>∃H',Inv X aa σ H' s'/\Q H') X.xe s
abbrev TIp:=V->V->Hp->VK->Prop
def PIp(X:Cx)(op:Operator)(t:TIp):Prop:=
 ∀aa s(σ:St)H x y v u Q,Inv X aa σ H s->RelV x v->RelV y u->t x y H Q ->
  cn X (inplaceOp op v u) (EP X aa σ Q) X.xe s
section
def Ct(i:Nat):TG:=λv σ H Q=>Q (σ.set i (some v)) H
def AU{i}(j:X.N.Nodup)(l:X.N[i]?=some x)(e:Loc X.env.scope x)(o:X.fn x=true\/X.env.scope.names.lookup x=some .local:=by first|exact .inl rfl|exact .inr rfl|assumption):PG X (.Name x pos) (Ct i):=by
 intro a s p H v u Q I r h;exact wpAny_assign_Name (DQ I j l e r (λq d=>⟨_,H,d,h⟩) o)
def Tk:TGs:=λvs σ H Q=>vs=[]/\Q σ H
inductive ExC(vs:hK)(k:V->hK->Prop):Prop
 |mk (v) (r) (h:vs=v::r) (q:k v r):ExC vs k
def IW(t:TG)(u:TGs):TGs:=λvs σ H Q=>ExC vs λv r=>t v σ H λcK H'=>u r cK H' Q
def A9:PGs X [] Tk:=by
 rintro a s d H i j Q I r ⟨e,h⟩;subst e;cases r;exact assignInOrder_nil ⟨d,H,I,h⟩
def AW(l:PG X e t)(i:PGs X es u)
  (hs:(assignEach (e::es) X.env).map (·.2)=assign e X.env::(assignEach es X.env).map (·.2):=by rfl):PGs X (e::es) (IW t u):=by
 rintro a s q H A z Q I r ⟨v,B,o,h⟩;subst o;cases r with
 |cons r p=>
  rw[hs];refine assignInOrder_cons (aL (l a s q H _ _ _ I r h) λ_ j w=>?_);obtain⟨d,x,y,q1⟩:=w;exact i a j d x _ _ Q y p q1
inductive ExT(K:FG)(n:Nat)(v:V)(H:Hp)(k:hK->Prop):Prop
 |mk (a) (xs) (h1:v=.ref a) (h2:aP K H a xs) (h3:xs.length=n) (q:k xs):ExT K n v H k
def Tl(ω:FG)(n:Nat)(t:TGs):TG:=λv σ H Q=>ExT ω n v H λxs=>t xs σ H Q
def BM{k}{n}(D:X.calm=true)(h:PGs X es t)
  (B:(assignEach es X.env).length=n:=by rfl) (i:(assignEach es X.env).findIdx? (·.1)=none:=by rfl):PG X (.Tuple es k pos) (Tl X.K n t):=by
 rintro d s q H v u Q I r ⟨a,A,p,z,y,x⟩;subst p;cases r;obtain⟨l,j,ht,E⟩:=I.tuple z;refine assign_Tuple_tuple (I.ok.hd D) ht (by simp[B,←y,j.length]) i λF C=>?_;exact h d _ q H A _ Q (I.kept (t':=s.toks) λb o e=>C b o (zZ (lt_size e)) e) (by simpa using j) x
noncomputable def Lk(to ti:TE)(t:XC):TG:=λv σ H Q=>to σ H λo H1=>ti σ H1 λi H2=>t o i v H2 λH3=>Q σ H3
def Kj(D:PE X o to)(E:PE X i z)(hs:XD X t)
  (M:∀v,assign (.Subscript o i pos) X.env v=(do
   let d ←holding [v] (eval o X.env)
   let e ←holding [v,d] (eval i X.env)
   standAt pos
   holding [v,d,e] (setItem d e v)
   release [v,d,e] []):=by intro _;rfl):PG X (.Subscript o i pos) (Lk to z t):=by
 intro a s j H v u Q I r h;refine zU (Zl (aL (D a s j H _ I h) λd q w=>?_));obtain⟨x,A,F,C,q1⟩:=w;refine zU (Zl (aL (E a q j A _ F q1) λe L k=>?_));obtain⟨y,J,G,l,q2⟩:=k;refine zU (z9 (zU (Zl (aL (hs a L j J x y v d e u _ G C l r q2) λ_ s3 m=>?_))));obtain⟨p,B,q3⟩:=m;exact wpAny_release ⟨j,p,B,q3⟩
def Vh(te:TE)(g:TG):TS:=λD σ H=>te σ H λx H1=>g x σ H1 D.nx
def Bd(p:PE X e te)(j:PG X tg g)(hs:swapsWithSole [tg] e pos.line X.env=pure false:=by rfl)(hw:swappedStores [tg] e X.env=pure none:=by rfl)
  (i:(assignEach [tg] X.env).map (·.2)=[assign tg X.env]:=by rfl):PS X (.Assign [tg] e pos) (Vh te g):=by
 intro a s d H D I h;refine wpAny_Assign_stores (aL (p a s d H _ I h) λv r z=>?_) hs hw;obtain⟨x,l,t,o,q1⟩:=z;rw[i];exact aL (j a r d l x v _ t o q1) λ_ u q=>q
def Ab{i}(d:X.N.Nodup)(q:X.N[i]?=some x)(u:Loc X.env.scope x)(z:PE X e te)(hs:swapsWith e (some (.Name x pos')) pos.line X.env=pure false:=by rfl)(j:X.fn x=true\/X.env.scope.names.lookup x=some .local:=by first|exact .inl rfl|exact .inr rfl|assumption):
  PS X (.Assign [.Name x pos'] e pos) (Vh te (Ct i)):=by
 intro a s l H D I h;refine wpAny_Assign_Name (aL (z a s l H _ I h) λv A v=>?_) hs;obtain⟨y,o,r,p,q1⟩:=v;exact DQ r d q u p (λB t=>⟨_,o,t,q1⟩) j
def Yo(i j:Nat)(ta:TA):TS:=λD σ H=>ta σ H λvs H1=>∃v w,vs=[v,w]/\D.nx ((σ.set i (some v)).set j (some w)) H1
def RM(hc:X.calm=true)(C:X.N.Nodup)(hi:X.N[i]?=some x)(N:X.N[j]?=some y)(z:i≠j)
  (J:X.env.scope.names.lookup x=some .local) (G:X.env.scope.names.lookup y=some .local) (M:PA X [a,b] ta)
  (hw:swappedStores [.Tuple [.Name x F,.Name y py] kt pt] (.Tuple [a,b] k2 d) X.env=pure (some [x,y]))
  (hs:swapsWithSole [.Tuple [.Name x F,.Name y py] kt pt] (.Tuple [a,b] k2 d) pos.line X.env=pure false:=by rfl):
  PS X (.Assign [.Tuple [.Name x F,.Name y py] kt pt] (.Tuple [a,b] k2 d) pos) (Yo i j ta):=by
 intro l s T H D I h;refine zU (z9 ?_);refine zU (zT ?_);refine zU (Tuple_ (aL (M _ l s T H _ I h) λQ E k=>?_));obtain⟨vs,U,I1,Z,q1⟩:=k;obtain⟨v,w,R,q1⟩:=q1;subst R
 obtain⟨r,t,rfl,L,u⟩:∃r t,Q=[r,t]/\RelV v r/\RelV w t:=by
  cases Z with
  |cons p q=>
   cases q with
   |cons p' O=>
    cases O
    lia
 refine wpAny_newObj_type ?_ dh;rw[hw];refine zU (zT ?_);refine zU (wpAny_rule (zU (unpackItems_tuple (items:=#[r,t]) (I.ok.hd hc) (IsTup.new E.heap _) λh' A=>?_)));have Y:=(I1.kept λb o e=>Zy _ e).kept (t':=E.toks) λb o e=>A b o (zZ (lt_size e)) e;refine zU (assignInOrder_cons (wpAny_bindName (DQ Y C N (.inl G) u (λs2 S=>?_) (.inr G))));refine assignInOrder_cons (wpAny_bindName (DQ S C hi (.inl J) L (λs3 B=>assignInOrder_nil (zT ?_)) (.inr J)));rw[List.set_comm _ _ (Ne.symm z)]at B;exact⟨_,U,B,q1⟩
def Yp(i:Nat)(te:TE)(ti:TIp):TS:=λD σ H=>∃x,σ[i]?=some (some x)/\te σ H λy H1=>ti x y H1 λz H2=>D.nx (σ.set i (some z)) H2
def Na{i}(F:X.N.Nodup)(C:X.N[i]?=some x)(t:Loc X.env.scope x)(he:PE X e te)(T:PIp X op N)(L:X.fn x=true\/X.env.scope.names.lookup x=some .local:=by first|exact .inl rfl|exact .inr rfl|assumption):
  PS X (.AugAssign (.Name x pos') op e pos) (Yp i te N):=by
 rintro a s B H D I ⟨v,M,h⟩;obtain⟨m,U,S⟩:=I.loc;have q:Vis X.env.scope x:=by rcases t with k|k;exact .inl k;exact .inr (.inl k)
 obtain⟨u,r,l⟩:=S i x v C M q;apply wpAny_AugAssign_Name
 have A:cn X (eval e X.env) (λw o=>cn X (inplaceOp op u w) (λr p=>cn X (storeName X.env x r) (λ_=>SP X a D .next) X.xe p) X.xe o) X.xe s:=by
  refine aL (he a s B H _ I h) λw J z=>?_;obtain⟨y,O,Y,R,q1⟩:=z;refine aL (T a J B O v y u w _ Y r R q1) λz s2 n=>?_;obtain⟨zv,H2,Z,E,q2⟩:=n;exact DQ Z F C t E (λs3 Q=>⟨_,H2,Q,q2⟩) L
 rcases l with⟨d,G⟩|⟨d,c,hc,j⟩
 ·exact wpAny_loadName_local I.ok.kind d U G A
 ·rcases d with d|d
  ·exact wpAny_loadName_cell I.ok.kind d hc j A
  ·rcases t with k|k
   ·have:X.env.scope.names.lookup x=some .free:=d;rw[k]at this;cases this
   ·have:X.env.scope.names.lookup x=some .free:=d;rw[k]at this;cases this
end
section
def RP(c:TT)(tb:TS):TS:=λD σ H=>∃W:Nat->St->Hp->Prop,(∃m,W m σ H)/\∀m σ H,W m σ H ->
 c σ H λb H1=>if b=true then ∃N,(∀cK H',N cK H'->∃m',m'<m/\W m' cK H')/\tb {D with nx:=N,ct:=N,bk:=D.nx} σ H1 else D.nx σ H1
def Fx(t:PassesOwn (model X.prog X.w) X.A X.env X.xe)(R:PT X c B)(M:c8 X body tb):PS X (.While c body [] pos) (RP B tb):=by
 rintro d s F H D I ⟨W,⟨Q,G⟩,j⟩;refine wpAny_While (codeAny_whileLoop (λn E=>∃i u,Inv X d i u E/\W n i u) ?_ Q ⟨F,H,I,G⟩);rintro n C ⟨e,y,L,J⟩;refine wpAny_passesOwn t (aL (R d C e y _ L (j n e y J)) λb O w=>?_);obtain⟨A,z,q2⟩:=w;cases b with
 |true=>
  obtain⟨N,x,q2⟩:=q2;refine wpAny_passesOwn t (aL (M d O e A _ z q2) λf s3 q3=>?_);cases f with
  |next=>
   obtain⟨a,h,r,o⟩:=q3;obtain⟨l,p,q⟩:=x a h o;exact⟨l,p,a,h,r,q⟩
  |cont=>
   obtain⟨a,h,r,o⟩:=q3;obtain⟨l,p,q⟩:=x a h o;exact⟨l,p,a,h,r,q⟩
  |brk=>exact q3
  |ret v=>exact q3
 |false=>
  exact wpAny_execs_nil ⟨e,A,z,q2⟩
end
structure It where
 go:Nat->Hp->Prop
 fZ:Nat->Hp->V->Hp->Prop
 stop:Nat->Hp->Prop
def FI(X:Cx)(aa:LO)(H:Hp)(b:hO):Prop:=
 H b=none/\b≠X.env.locals/\b∉ X.fs/\(b∈X.ex\/X.bY.heap.objs.size<=b)/\(∀x c,X.env.cells.lookup x=some c->c≠b)/\∀p∈X.pn++aa,p.1≠b
def Inv.eA(I:Inv X aa σ H s)(a:s.heap.objs.size<=b)(h:H' b=none):FI X aa H' b:=by
 refine⟨h,Nat.ne_of_gt (Z2 I.lt a),I.nofs a,.inr (Nat.le_trans I.sz a),λx c e z=>?_,λp d z=>?_⟩
 ·obtain⟨v,q⟩:=I.cell x c e;exact absurd (Z2 q.lt (by simp_all)) (z5 _)
 ·exact absurd (Z2 (lt_size (I.pin p d).1) (by simp_all)) (z5 _)
structure Ll(P:Program)(w:World)(K:FG)(tg:Expr)(J:It)(fp:List hO)(it:hO)(tn:Nat->Heap->Prop):Prop where
 mem:it∈fp
 obj:∀i h,tn i h->∀b∈fp,∃o,h.get? b=some o/\∀v,o.data≠ .cell v
 keep:∀i h h',tn i h->(∀b∈fp,∀o,h.get? b=some o->h'.get? b=some o)->tn i h'
 item:∀X,X.prog=P->X.w=w->X.K=K->X.calm=true->∀i aa s(σ:St)H(E:VS),Inv X aa σ H s->(∀b∈fp,FI X aa H b)->tn i s.heap->J.go i H ->
  wpAny (model P w) X.A (pyNext (.ref it)) (λr s1=>∃u,r=some u /\
   wpAny (model P w) X.A (letOwnedTupleGo tg (.ref it) u) (λ_ s2=>∃x H',Inv X aa σ H' s2/\RelV x u/\J.fZ i H x H'/\tn (i+1) s2.heap/\∀b∈fp,H' b=none) E s1) E s
 done:∀X,X.prog=P->X.w=w->X.K=K->X.calm=true->∀i aa s(σ:St)H(E:VS),Inv X aa σ H s->(∀b∈fp,FI X aa H b)->tn i s.heap->J.stop i H ->
  wpAny (model P w) X.A (pyNext (.ref it)) (λr s1=>r=none/\Inv X aa σ H s1) E s
 self:∀A i s(Q:VS)(E:VS),tn i s.heap->Q (.ref it) s->wpAny (model P w) A (pyIter (.ref it)) Q E s
abbrev TI:=St->Hp->(It->Hp->Prop)->Prop
def PIE(X:Cx)(aa:LO)(σ:St)(tg:Expr)(R:It->Hp->Prop)(itv:Value)(s2:hX):Prop:=
 ∃(it:hO)(fp:List hO)(tn:Nat->Heap->Prop)(J:It)(H':Hp),itv=.ref it/\Inv X aa σ H' s2/\Ll X.prog X.w X.K tg J fp it tn/\tn 0 s2.heap/\(∀b∈fp,FI X aa H' b)/\R J H'
def PI(X:Cx)(tg iter:Expr)(wi:TI):Prop:=
 ∀aa s(σ:St)H R,Inv X aa σ H s->wi σ H R ->
  cn X (eval iter X.env) (λv s1=>cn X (pyIter v) (PIE X aa σ tg R) X.xe s1) X.xe s
def Lm(e:s.heap.get? it=some o)(h:o.cls=.type n)(d:o.data=.fields vs)
    (i:[jJ,"zip","dict_itemiterator","dict_reverseitemiterator","odict_iterator","itertools.zip_longest","itertools.pairwise"].contains n=false) (a:Q () s):wpAny M A (letOwnedTupleGo tg (.ref it) u) Q E s:=by
  cases tg<;>first
    |exact zT a
    | (cases u<;>first
        |exact zT a
        | (refine zU (wpAny_load e ?_)
           rw[h,d];show wpAny M A (if ([jJ,"zip","dict_itemiterator","dict_reverseitemiterator","odict_iterator","itertools.zip_longest","itertools.pairwise"].contains n&&vs[0]?==some (rawInt _))=true then _ else _) Q E s;rw[zN (by simp_all)]
           exact zT a))
noncomputable def gG(ω:FG)(a:hO):It:=
 ⟨λi H=>∃xs x,aH ω H a xs/\xs[i]?=some x,λi H x H'=>H'=H/\∀xs,aH ω H a xs->xs[i]?=some x,λi H=>∃xs,aH ω H a xs/\xs.length<=i⟩
noncomputable def Itt(ω:FG)(a:hO):It:=
 ⟨λi H=>∃xs x,aP ω H a xs/\xs[i]?=some x,λi H x H'=>H'=H/\∀xs,aP ω H a xs->xs[i]?=some x,λi H=>∃xs,aP ω H a xs/\xs.length<=i⟩
noncomputable def Itr(lo:Int)(n:Nat):It:=⟨λi _=>i<n,λi H x H'=>H'=H/\x=.int (lo+i),λi _=>n<=i⟩
def Ju(a it):Ll P w ω tg (gG ω a) [it] it (λi h=>h.IsListIter it a i) where
 mem:=by simp
 obj:=λi h j b l=>by
  have e:b=it:=by simpa using l
  subst e;obtain⟨o,e,c,d⟩:=j;exact⟨o,e,λv z=>by simp_all⟩
 keep:=λi h R j k=>j.at λo e=>k it (by simp) o e
 item:=by
  intro X Q L M S i q s Z H E I t j J;subst Q L M;obtain⟨xs,x,y,O⟩:=J;obtain⟨B,C,p,T⟩:=I.list y;obtain⟨u,hu,ru⟩:=C.get O;obtain⟨G,D,U,N,A,F⟩:=t it (by simp);refine wpAny_pyNext_list_item j p.isList (x:=u) (by simp_all) λR r sb=>?_;obtain⟨o,e,c,d⟩:=id r;exact⟨u,zJ,Lm e c d qc ⟨x,H,I.turned (t':=s.toks) (λb o l e=>(sb.2 b l).trans e) G D N A F,ru,⟨zJ,λys Y=>by rw[I.list_inj Y y];exact O⟩,r,λb l=>(t b l).1⟩⟩
 done:=by
  intro X Q L M S i q s Z H E I t j J;subst Q L M;obtain⟨xs,y,O⟩:=J;obtain⟨B,C,p,T⟩:=I.list y;obtain⟨G,D,U,N,A,F⟩:=t it (by simp);have hl:=C.length;exact wpAny_pyNext_list_end (I.ok.hd S) j p.isList (by simp;lia) λR eb=>⟨zJ,I.turned (λb o l e=>eb b o l e) G D N A F⟩
 self:=λ_ _ _ _ _ j h=>wpAny_pyIter_listiter j h
def Nb(a it):Ll P w ω tg (Itt ω a) [it] it (λi h=>h.IsTupleIter it a i) where
 mem:=by simp
 obj:=λi h j b l=>by
  have e:b=it:=by simpa using l
  subst e;obtain⟨o,e,c,d⟩:=j;exact⟨o,e,λv z=>by simp_all⟩
 keep:=λi h R j k=>j.at λo e=>k it (by simp) o e
 item:=by
  intro X Q L M S i q s Z H E I t j J;subst Q L M;obtain⟨xs,x,y,O⟩:=J;obtain⟨B,C,p,T⟩:=I.tuple y;obtain⟨u,hu,ru⟩:=C.get O;obtain⟨G,D,U,N,A,F⟩:=t it (by simp);refine wpAny_pyNext_tuple_item j (p) (x:=u) (by simp_all) λR r sb=>?_;obtain⟨o,e,c,d⟩:=id r;exact⟨u,zJ,Lm e c d qc ⟨x,H,I.turned (t':=s.toks) (λb o l e=>(sb.2 b l).trans e) G D N A F,ru,⟨zJ,λys Y=>by rw[I.tuple_inj Y y];exact O⟩,r,λb l=>(t b l).1⟩⟩
 done:=by
  intro X Q L M S i q s Z H E I t j J;subst Q L M;obtain⟨xs,y,O⟩:=J;obtain⟨B,C,p,T⟩:=I.tuple y;obtain⟨G,D,U,N,A,F⟩:=t it (by simp);have hl:=C.length;exact wpAny_pyNext_tuple_end (I.ok.hd S) j (p) (by simp;lia) λR eb=>⟨zJ,I.turned (λb o l e=>eb b o l e) G D N A F⟩
 self:=λ_ _ _ _ _ j h=>wpAny_pyIter_tupleiter j h
def Nc(it)(lo)(n):Ll P w ω tg (Itr lo n) [it] it (λi h=>IsRangeIter h it (lo+(i)*1) ((n:Int)-(i:Nat)) 1) where
 mem:=by simp
 obj:=λi h a b j=>by
  simp_all
 keep:=λi h F a k=>k it (by simp) _ a
 item:=by
  intro X C z A D i d s M H E I p a y;subst C z A;obtain⟨x,r,J,B,q,u⟩:=p it (by simp);refine(Walks.range (prog:=X.prog) (w:=X.w) (I.ok.hd D) it lo 1 n).item i s _ _ y a λv F O G l L=>?_;obtain⟨t,rfl⟩:=G;refine⟨_,zJ,Lm l zJ zJ qc ⟨.int (lo+i),H,I.turned (λb o j e=>L b o (by simp_all) e) x r B q u,⟨t,?_⟩,⟨zJ,zJ⟩,l,λb j=>(p b j).1⟩⟩;simp
 done:=by
  intro X C z A D i d s M H E I p a y;subst C z A;obtain⟨x,r,J,B,q,u⟩:=p it (by simp);exact wpAny_pyNext_range_end (I.ok.hd D) a (by have:n<=i:=y;lia) λF N=>⟨zJ,I.turned (λb o j e=>N b o j e) x r B q u⟩
 self:=λ_ _ _ _ _ a h=>wpAny_pyIter_rangeiter a h
section
def VE(ω:FG)(tl:TE):TI:=λσ H R=>tl σ H λx H1=>∃a,x=.ref a/\(∃xs,aH ω H1 a xs)/\R (gG ω a) H1
def Yq(ω:FG)(tl:TE):TI:=λσ H R=>tl σ H λx H1=>∃a,x=.ref a/\(∃xs,aP ω H1 a xs)/\R (Itt ω a) H1
def Bh(A:PE X l t):PI X tg l (VE X.K t):=by
 intro d s u H R I h;refine aL (A d s u H _ I h) λv j v=>?_;obtain⟨x,y,i,z,q1⟩:=v;obtain⟨a,e,⟨F,B⟩,q⟩:=q1;subst e;cases z;obtain⟨r,D,p,E⟩:=i.list B;apply wpAny_pyIter_list p.isList;refine⟨j.heap.objs.size,[j.heap.objs.size],_,_,y,zJ,i.kept λb o e=>Zy _ e,Ju a _,⟨_,Zo _ zJ,zJ,zJ⟩,λb C=>?_,q⟩;have e:b=j.heap.objs.size:=by simpa using C
 subst e;exact i.eA (zV _) (i.aI.fresh (zV _))
def Nf(A:PE X l t):PI X tg l (Yq X.K t):=by
 intro d s u H R I h;refine aL (A d s u H _ I h) λv i v=>?_;obtain⟨x,y,j,z,q1⟩:=v;obtain⟨a,e,⟨F,B⟩,q⟩:=q1;subst e;cases z;obtain⟨r,D,p,E⟩:=j.tuple B;apply wpAny_pyIter_tuple (show i.heap.IsTuple a r.toArray from p);refine⟨i.heap.objs.size,[i.heap.objs.size],_,_,y,zJ,j.kept λb o e=>Zy _ e,Nb a _,⟨_,Zo _ zJ,zJ,zJ⟩,λb C=>?_,q⟩;have e:b=i.heap.objs.size:=by simpa using C
 subst e;exact j.eA (zV _) (j.aI.fresh (zV _))
def RS{lo}(I:Inv X aa σ H s)(d:-(2^62)<=lo)(h:lo<2^62)(l:-(2^62)<=hi)(p:hi<2^62)
  (q:R (Itr lo (hi-lo).toNat) H):cn X (pyIter (.ref s.heap.objs.size)) (PIE X aa σ tg R) E {s with heap:=s.heap.push {cls:=.type jY,data:=.fields #[.int lo t,.int hi u,.int 1 v]},toks:=tk}:=by
 apply wpAny_pyIter_range (IsRange.new ..) (small_one d h l p);have a:Inv X aa σ H {s with heap:=s.heap.push {cls:=.type jY,data:=.fields #[.int lo t,.int hi u,.int 1 v]},toks:=tk}:=I.kept λb o e=>Zy _ e
 refine⟨(s.heap.push {cls:=.type jY,data:=.fields #[.int lo t,.int hi u,.int 1 v]}).objs.size,[(s.heap.push {cls:=.type jY,data:=.fields #[.int lo t,.int hi u,.int 1 v]}).objs.size],_,_,H,zJ,
  a.kept λb o e=>Zy _ e,Nc _ lo (hi-lo).toNat,?_,λb r=>?_,q⟩
 ·have i:lo+((0:Nat))*1=lo:=by simp
  have j:(((hi-lo).toNat:Nat))-((0:Nat))=Builtin.Range.rangeSize lo hi 1:=by rw[rangeSize_one];split<;>lia
  rw[i,j];exact Zo _ rfl
 ·have e:b=(s.heap.push {cls:=.type jY,data:=.fields #[.int lo t,.int hi u,.int 1 v]}).objs.size:=by simpa using r
  subst e;exact a.eA (zV _) (a.aI.fresh (zV _))
def XG(ta:TA):TI:=λσ H R=>ta σ H λvs H1=>∃j,vs=[.int j]/\-(2^62)<=j/\j<2^62/\R (Itr 0 j.toNat) H1
def CB(v:Gl X jY)(l:X.mg jY=none)(i:PA X [a] z)(hs:starEach [a] X.env=[(false,eval a X.env)]:=by rfl):PI X tg (.Call (.Name jY p) [a] [] pos) (XG z):=by
 intro d s u H R I h;refine Call_ (FH I v l boot_range (PyProof.Rows.callWith_type1 (aL (i pos d s u H _ I h) λB A w=>?_) hs rfl));obtain⟨C,D,y,x,q1⟩:=w;obtain⟨j,e,q1,q2,q⟩:=q1;subst e;cases x with
 |cons r o=>
  cases o;obtain⟨t,rfl⟩:=r;exact call_range_1 (RS y (by lia) (by lia) q1 q2 (by simpa using q))
def Yr(wi:TI)(g:TG)(tb:TS):TS:=λD σ H=>wi σ H λJ H1=>∃W:Nat->Nat->St->Hp->Prop,(∃m,W 0 m σ H1)/\∀i m σ H,W i m σ H ->
 (J.stop i H/\D.nx σ H)\/(J.go i H/\∃N,(∀cK H',N cK H'->∃m',m'<m/\W (i+1) m' cK H')/\∀x H',J.fZ i H x H'->g x σ H' λgK H2=>tb {D with nx:=N,ct:=N,bk:=D.nx} gK H2)
noncomputable def IY(fp:List hO)(h:Heap):LO:=fp.filterMap λb=>(h.get? b).map λo=>(b,o)
def Df(a:b∈fp)(e:h.get? b=some o):(b,o)∈IY fp h:=List.mem_filterMap.mpr ⟨b,a,by rw[e];rfl⟩
def Jv(a:p∈IY fp h):p.1∈fp/\h.get? p.1=some p.2:=by
 obtain⟨b,d,e⟩:=List.mem_filterMap.mp a;cases q:h.get? b with
 |none=>simp_all
 |some o=>
  grind
def Inv.pinned(I:Inv X aa σ H s)(h:∀b∈fp,FI X aa H b)(q:∀b∈fp,∃o,s.heap.get? b=some o/\∀v,o.data≠ .cell v):Inv X (aa++IY fp s.heap) σ H s:=
 I.pins_of λp a=>(mem_append.mp a).elim (λz=>I.pin p (by grind)) λz=>by
  obtain⟨d,e⟩:=Jv z;obtain⟨j,l,i,_⟩:=h p.1 d
  grind
def Inv.unpinned(I:Inv X (aa++pl) σ H s):Inv X aa σ H s:=I.pins_of λp a=>I.pin p (by grind)
def Bw{l}(R:PassesOwn (model X.prog X.w) X.A X.env X.xe)(hc:X.calm=true)(hi:PI X tg l wi)(hg:PG X tg g)(y:c8 X body tb)
  (hs:∀x,foldedSetIterable l X.env x=pure x:=by intro _;rfl):PS X (.For tg l body [] pos) (Yr wi g tb):=by
 intro a s σ H D I h;refine wpAny_For (aL (hi a s σ H _ I h) λv s1 h1=>aL h1 λitv s2 h2=>?_) hs;obtain⟨it,O,tn,J,H2,e,I2,T,st2,f2,W,⟨m0,w0⟩,Q⟩:=h2;subst e;have z:∀{C:Hp},(∀b∈O,C b=none)->∀b∈O,FI X a C b:=λhn b y=>⟨hn b y,(f2 b y).2⟩;refine codeAny_forLoop_any (λn s'=>∃i B C,Inv X a B C s'/\tn i s'.heap/\(∀b∈O,C b=none)/\W i n B C) ?_ m0 ⟨0,σ,H2,I2,st2,λb y=>(f2 b y).1,w0⟩;rintro n s3 ⟨i,p,U,I3,S,M,w3⟩;rcases Q i n p U w3 with⟨G,qn⟩|⟨go,N,hN,step⟩
 ·refine wpAny_passesOwn R (aL (T.done X zJ zJ zJ hc i a s3 p U X.xe I3 (z M) S G) λr s4 w=>?_);obtain⟨Z,I4⟩:=w;subst Z;exact wpAny_execs_nil ⟨p,U,I4,qn⟩
 ·refine wpAny_passesOwn R (aL (T.item X zJ zJ zJ hc i a s3 p U X.xe I3 (z M) S go) λr s4 k=>?_);obtain⟨u,Z,h4⟩:=k;subst Z;refine wpAny_passesOwn R (aL h4 λ_ s5 c=>?_);obtain⟨x,H5,I5,r5,y5,F,fr5⟩:=c;refine wpAny_passesOwn R (aL (hg _ s5 p H5 x u _ (I5.pinned (z fr5) (T.obj _ _ F)) r5 (step x H5 y5)) λ_ s6 r=>?_);obtain⟨σ6,H6,I6,q6⟩:=r;refine wpAny_passesOwn R (aL (y _ s6 σ6 H6 _ I6 q6) λf Y E=>?_)
  have A:∀{j:St}{t:Hp},Inv X (a++IY O s5.heap) j t Y->N j t->∃m,m<n/\∃i B C,Inv X a B C Y/\tn i Y.heap/\(∀b∈O,C b=none)/\W i m B C:=λ{j t}q L=>by
   obtain⟨m',hm,w7⟩:=hN j t L;refine⟨m',hm,i+1,j,t,q.unpinned,T.keep _ _ _ F λb y o e=>(q.pin (b,o) (Zt _ (Zt _ (Df y e)))).1,λb y=>?_,w7⟩;obtain⟨o,e,d⟩:=T.obj _ _ F b y;exact(q.pin (b,o) (Zt _ (Zt _ (Df y e)))).2.1
  cases f with
  |next=>obtain⟨j,t,q,L⟩:=E;exact A q L
  |cont=>obtain⟨j,t,q,L⟩:=E;exact A q L
  |brk=>obtain⟨j,t,q,E⟩:=E;exact⟨j,t,q.unpinned,E⟩
  |ret v=>obtain⟨x7,j,t,q,r7,E⟩:=E;exact⟨x7,j,t,q.unpinned,r7,E⟩
end
def DS{a}{ω}{xs}{g:TG}{tb:TS}{D:IV}(d:Nat->St->Hp->Prop)(v:d 0 σ H)(z:∀i σ H,i<=xs.length->d i σ H->aH ω H a xs)
  (hs:∀i x σ H,xs[i]?=some x->d i σ H->g x σ H λh l=>tb {D with nx:=d (i+1),ct:=d (i+1),bk:=D.nx} h l) (u:∀σ H,d xs.length σ H->D.nx σ H):
  ∃W:Nat->Nat->St->Hp->Prop,(∃m,W 0 m σ H)/\∀i m σ H,W i m σ H ->
   ((gG ω a).stop i H/\D.nx σ H)\/((gG ω a).go i H/\∃N,(∀j H',N j H'->∃r,r<m/\W (i+1) r j H')/\∀x H',(gG ω a).fZ i H x H'->g x σ H' λh l=>tb {D with nx:=N,ct:=N,bk:=D.nx} h l):=by
 refine⟨λi m σ H=>m=xs.length-i/\i<=xs.length/\d i σ H,⟨xs.length,by simp,Nat.zero_le _,v⟩,?_⟩;rintro i m σ H ⟨rfl,A,p⟩;have q:=z i σ H A p;by_cases o:i<xs.length
 ·refine .inr ⟨⟨xs,xs[i],q,by simp⟩,d (i+1),λj H' t=>⟨xs.length-(i+1),by lia,zJ,o,t⟩,λx H' y=>?_⟩;obtain⟨e,y⟩:=y;subst e;exact hs i x σ _ (y xs q) p
 ·have e:i=xs.length:=by lia
  subst e;exact .inl ⟨⟨xs,q,zV _⟩,u σ H p⟩
def Ep{lo}{n}{g:TG}{tb:TS}{D:IV}(d:Nat->St->Hp->Prop)(t:d 0 σ H)
  (hs:∀i σ H,i<n->d i σ H->g (.int (lo+i)) σ H λa l=>tb {D with nx:=d (i+1),ct:=d (i+1),bk:=D.nx} a l) (r:∀σ H,d n σ H->D.nx σ H):
  ∃W:Nat->Nat->St->Hp->Prop,(∃m,W 0 m σ H)/\∀i m σ H,W i m σ H ->
   ((Itr lo n).stop i H/\D.nx σ H)\/((Itr lo n).go i H/\∃N,(∀h H',N h H'->∃o,o<m/\W (i+1) o h H')/\∀x H',(Itr lo n).fZ i H x H'->g x σ H' λa l=>tb {D with nx:=N,ct:=N,bk:=D.nx} a l):=by
 refine⟨λi m σ H=>m=n-i/\i<=n/\d i σ H,⟨n,by simp,Nat.zero_le _,t⟩,?_⟩;rintro i m σ H ⟨rfl,u,p⟩;by_cases j:i<n
 ·refine .inr ⟨j,d (i+1),λh H' q=>⟨n-(i+1),by lia,zJ,j,q⟩,λx H' y=>?_⟩;obtain⟨e,y⟩:=y;subst e y;exact hs i σ _ j p
 ·have e:i=n:=by lia
  subst e;exact .inl ⟨zV _,r σ H p⟩
def RT(e:St->Hp->Prop)(h:St->Hp->Nat)(o:e σ H)
  (hs:∀σ H,e σ H->c σ H λb d=>if b=true then tb {D with nx:=λa H'=>e a H'/\h a H'<h σ H,ct:=λa H'=>e a H'/\h a H'<h σ H,bk:=D.nx} σ d else D.nx σ d)
  (mono:∀σ H Q i,(∀b d,Q b d->i b d)->c σ H Q->c σ H i):RP c tb D σ H:=by
 refine⟨λm σ H=>m=h σ H/\e σ H,⟨_,rfl,o⟩,?_⟩;rintro m σ H ⟨rfl,p⟩;refine mono σ H _ _ (λb d q=>?_) (hs σ H p);cases b with
 |true=>exact⟨_,λa H' z=>by obtain⟨j,l⟩:=z;exact ⟨_,l,rfl,j⟩,q⟩
 |false=>exact q
abbrev R2:=V->V->Hp->VK->Prop
def cy(X:Cx)(f:Value->Value->Sem Value)(r:R2):Prop:=
 ∀aa s(σ:St)H x y v u Q,Inv X aa σ H s->RelV x v->RelV y u->r x y H Q ->
  cn X (f v u) (EP X aa σ Q) X.xe s
def UnR(X:Cx)(f:Value->Sem Value)(r:V->Hp->VK->Prop):Prop:=
 ∀aa s(σ:St)H x v Q,Inv X aa σ H s->RelV x v->r x H Q ->
  cn X (f v) (EP X aa σ Q) X.xe s
def aT(X:Cx)(f:Value)(r:hK->Hp->VK->Prop):Prop:=
 ∀aa s(σ:St)H xs us Q,Inv X aa σ H s->Vals xs us->r xs H Q ->
  cn X (call f us) (EP X aa σ Q) X.xe s
def gj(r:R2)(ta tb:TE):TE:=λσ H Q=>ta σ H λx H1=>tb σ H1 λy H2=>r x y H2 Q
def tUn(r:V->Hp->VK->Prop)(ta:TE):TE:=λσ H Q=>ta σ H λx H1=>r x H1 Q
def rI(C:Int->Int->Prop)(g:Int->Int->V):R2:=λx y H Q=>ExI x y λi j=>C i j/\Q (g i j) H
def fh(g:Int->Int->V):R2:=λx y H Q=>ExI x y λi j=>Q (g i j) H
def rU(g:Int->V):V->Hp->VK->Prop:=λx H Q=>∃i,x=.int i/\Q (g i) H
section
def Vi{X}{o tb}(p:PE X a o)(t:PE X b tb){R:V->V->Hp->Prop}(I:Inv X aa σ H s)
  (h:o σ H λx l=>tb σ l λy d=>R x y d)  {f:Value->Value->Sem Value}
  (B:∀v u j x y d,Inv X aa σ d j->RelV x v->RelV y u->R x y d->cn X (f v u) Q X.xe j):
  cn X (eval a X.env) (λv i=>cn X (eval b X.env) (λu e=>cn X (f v u) Q X.xe e) X.xe i) X.xe s:=by
 refine aL (p aa s σ H _ I h) λv A w=>?_;obtain⟨x,l,C,r,q1⟩:=w;refine aL (t aa A σ l _ C q1) λu j k=>?_;obtain⟨y,d,q,z,q2⟩:=k;exact B v u j x y d q r z q2
def AZ(l:cy X (binaryOp op) r)(e:PE X a A)(z:PE X b tb):PE X (.BinOp a op b pos) (gj r A tb):=by
 intro d s j H Q I h;exact wpAny_BinOp (Vi e z I h λv u B x y t p o i q=>l d B j t x y v u Q p o i q)
def Cu(p:UnR X (unaryOp op) r)(i:PE X a o):PE X (.UnaryOp op a pos) (tUn r o):=by
 intro d s e H Q I h;exact UnaryOp_ (aL (i d s e H _ I h) λv q z=>by obtain⟨x,j,t,l,q1⟩:=z;exact p d q e j x v Q t l q1)
def gM{f}{C}{g:Int->Int->Int}
  (a:∀i j t u s(Q:VS)(E:VS),C i j->Q (.int (g i j) s.toks) {s with toks:=s.toks+1}->cn X (f (.int i t) (.int j u)) Q E s):
  cy X f (rI C λi j=>.int (g i j)):=by
 rintro d s p H x y v u Q I o e ⟨i,j,rfl,rfl,h,q⟩;obtain⟨t,rfl⟩:=o;obtain⟨l,rfl⟩:=e;exact a i j t l s _ _ h ⟨.int (g i j),H,I.tok _,⟨_,zJ⟩,q⟩
def Ng{f}{g:Int->Int->Int}
  (a:∀i j t u s(Q:VS)(E:VS),Q (.int (g i j) s.toks) {s with toks:=s.toks+1}->cn X (f (.int i t) (.int j u)) Q E s):
  cy X f (fh λi j=>.int (g i j)):=by
 rintro d s o H x y v u Q I l e ⟨i,j,rfl,rfl,q⟩;obtain⟨t,rfl⟩:=l;obtain⟨h,rfl⟩:=e;exact a i j t h s _ _ ⟨.int (g i j),H,I.tok _,⟨_,zJ⟩,q⟩
def Tm{f}{g:Int->Int->Bool}
  (a:∀i j t u s(Q:VS)(E:VS),Q (.bool (g i j)) s->cn X (f (.int i t) (.int j u)) Q E s):
  cy X f (fh λi j=>.bl (g i j)):=by
 rintro d s o H x y v u Q I l e ⟨i,j,rfl,rfl,q⟩;obtain⟨t,rfl⟩:=l;obtain⟨h,rfl⟩:=e;exact a i j t h s _ _ ⟨.bl (g i j),H,I,zJ,q⟩
def Ys(i j:Int):Prop:=0<j/\j<1073741824
def Vj(i j:Int):Prop:=0<=j/\j<=1000000/\i.natAbs<2^64
def CMul(i j:Int):Prop:=(-(2^64)<i/\i<2^64)\/(-(2^64)<j/\j<2^64)
def CMul.ok{i j}(h:CMul i j):IntMulOk i j:=by
 rcases h with⟨a,d⟩|⟨a,d⟩
 ·exact .of_left (intBits_le_64 a d)
 ·exact .of_right (intBits_le_64 a d)
def Nh(k):(0:Int)<=2^k:=by
 lia
def CC:cy X (binaryOp .Add) (fh λi j=>.int (i+j)):=Ng λ_ _ _ _ _ _ _ q=>add_int q
def Bx:cy X (binaryOp .Sub) (fh λi j=>.int (i-j)):=Ng λ_ _ _ _ _ _ _ q=>sub_int q
def IZ:cy X (binaryOp .Mult) (rI CMul λi j=>.int (i*j)):=gM λ_ _ _ _ _ _ _ a q=>mul_int q a.ok
def On:cy X (binaryOp .FloorDiv) (rI Ys λi j=>.int (i/j)):=gM λi j _ _ _ _ _ a q=>by
 have d:=a.1;have e:=a.2;exact floordiv_int (by lia) (by rwa[Int.fdiv_eq_ediv_of_nonneg i (by lia)]) (.inl (PyProof.noPylong_small (by lia)))
def FJ:cy X (binaryOp .Mod) (rI (λ_ j=>0<j) λi j=>.int (i%j)):=gM λi j _ _ _ _ _ a q=>by
 exact mod_int' (by lia) (by rwa[Int.fmod_eq_emod_of_nonneg i (by lia)])
def Ni:cy X (binaryOp .Pow) (rI Vj λi j=>.int (i^j.toNat)):=gM λ_ _ _ _ _ _ _ a q=>pow_int_small a.1 a.2.1 a.2.2 q
def Kk:cy X (binaryOp .LShift) (rI Vj λi j=>.int (i*2^j.toNat)):=gM λ_ _ _ _ _ _ _ a q=>lshift_int_small a.1 a.2.1 a.2.2 q
def Vk:cy X (binaryOp .RShift) (rI (λ_ j=>0<=j) λi j=>.int (i/2^j.toNat)):=gM λi j _ _ _ _ _ a q=>
 rshift_int a (by rwa[Int.fdiv_eq_ediv_of_nonneg i (Nh _)])
def CD:cy X (binaryOp .BitAnd) (fh λi j=>.int (Builtin.bitAnd i j)):=Ng λ_ _ _ _ _ _ _ q=>and_int q
def Ia:cy X (binaryOp .BitOr) (fh λi j=>.int (Builtin.bitOr i j)):=Ng λ_ _ _ _ _ _ _ q=>or_int q
def RU:cy X (binaryOp .BitXor) (fh λi j=>.int (Builtin.bitXor i j)):=Ng λ_ _ _ _ _ _ _ q=>xor_int q
def Oo:cy X (inplaceOp .Add) (fh λi j=>.int (i+j)):=Ng λ_ _ _ _ _ _ _ q=>iadd_int q
def Vl:cy X (inplaceOp .BitOr) (fh λi j=>.int (Builtin.bitOr i j)):=Ng λ_ _ _ _ _ _ _ q=>ior_int q
def unI{f}{g:Int->Int}
  (a:∀i t s(Q:VS)(E:VS),Q (.int (g i) s.toks) {s with toks:=s.toks+1}->cn X (f (.int i t)) Q E s):
  UnR X f (rU λi=>.int (g i)):=by
 rintro d s h H x v Q I e ⟨i,rfl,q⟩;obtain⟨t,rfl⟩:=e;exact a i t s _ _ ⟨.int (g i),H,I.tok _,⟨_,zJ⟩,q⟩
def Cw:UnR X (unaryOp .USub) (rU λi=>.int (-i)):=unI λ_ _ _ _ _ q=>neg_int q
def Kl:UnR X (unaryOp .Invert) (rU λi=>.int (Builtin.bitNot i)):=unI λ_ _ _ _ _ q=>invert_int q
end
noncomputable def XH:V->V->Bool
 |.aO,.aO=>true|.aO,.int _=>true|.int _,.aO=>true|.aO,.bl _=>true|.bl _,.aO=>true|.aO,.str _=>true|.str _,.aO=>true
 |.int _,.int _=>true|.bl _,.bl _=>true|.str _,.str _=>true|.fq _,.fq _=>true
 |.int _,.str _=>true|.str _,.int _=>true|.bl _,.str _=>true|.str _,.bl _=>true
 |_,_=>false
def rEq:R2:=λx y H Q=>XH x y=true/\Q (.bl (decide (x=y))) H
def rNe:R2:=λx y H Q=>XH x y=true/\Q (.bl (!decide (x=y))) H
def Tn:decide (V.int i=V.int j)=(i==j):=by
 lia
def Vm:decide (V.bl i=V.bl j)=(i==j):=by
 lia
def To:decide (V.str i=V.str j)=(i==j):=by
 lia
def Op:decide (V.fq i=V.fq j)=(i.toList==j.toList):=by
 rw[Bool.eq_iff_iff]
 simp_all
section
def Ax(I:Inv X aa σ H s)(q:Q (.bl k) H)(e:k=a):EP X aa σ Q (.bool a) s:=by
 subst e;exact⟨.bl k,H,I,zJ,q⟩
def As:cy X (compareOp .Eq) rEq:=by
 rintro l s o H x y v u Q I h a ⟨e,q⟩;cases x with
 |aO=>
  cases h;cases y with
  |aO=>cases a;exact PySem.EqNone.eq_none_none (Ax I q (by simp))
  |bl j=>cases a;exact PySem.EqNone.eq_none_bool (Ax I q (by simp))
  |int j=>obtain⟨d,rfl⟩:=a;exact PySem.EqNone.eq_none_int (Ax I q (by simp))
  |str j=>obtain⟨d,rfl⟩:=a;exact PySem.EqNone.eq_none_str (Ax I q (by simp))
  |_=>exact absurd (e) Bool.false_ne_true
 |bl i=>
  cases h;cases y with
  |aO=>cases a;exact PySem.EqNone.eq_bool_none (Ax I q (by simp))
  |bl j=>cases a;exact eq_bool (Ax I q Vm)
  |str j=>obtain⟨d,rfl⟩:=a;exact PySem.EqMixed.eq_bool_str (Ax I q (by simp))
  |_=>exact absurd (e) Bool.false_ne_true
 |int i=>
  obtain⟨t,rfl⟩:=h;cases y with
  |aO=>cases a;exact PySem.EqNone.eq_int_none (Ax I q (by simp))
  |int j=>obtain⟨d,rfl⟩:=a;exact eq_int (Ax I q Tn)
  |str j=>obtain⟨d,rfl⟩:=a;exact PySem.EqMixed.eq_int_str (Ax I q (by simp))
  |_=>exact absurd (show false=true from e) Bool.false_ne_true
 |str i=>
  obtain⟨t,rfl⟩:=h;cases y with
  |aO=>cases a;exact PySem.EqNone.eq_str_none (Ax I q (by simp))
  |bl j=>cases a;exact PySem.EqMixed.eq_str_bool (Ax I q (by simp))
  |int j=>obtain⟨d,rfl⟩:=a;exact PySem.EqMixed.eq_str_int (Ax I q (by simp))
  |str j=>obtain⟨d,rfl⟩:=a;exact eq_str (Ax I q To)
  |_=>exact absurd (e) Bool.false_ne_true
 |fq i=>
  obtain⟨t,rfl⟩:=h;cases y with
  |fq j=>obtain⟨d,rfl⟩:=a;exact W.eq_bytes (Ax I q Op)
  |_=>exact absurd (e) Bool.false_ne_true
 |_=>cases y<;>exact absurd (show false=true from e) Bool.false_ne_true
def DU:cy X (compareOp .NotEq) rNe:=by
 rintro l s o H x y v u Q I h a ⟨e,q⟩;cases x with
 |aO=>
  cases h;cases y with
  |aO=>cases a;exact PySem.EqNone.ne_none_none (Ax I q (by simp))
  |bl j=>cases a;exact PySem.EqNone.ne_none_bool (Ax I q (by simp))
  |int j=>obtain⟨d,rfl⟩:=a;exact PySem.EqNone.ne_none_int (Ax I q (by simp))
  |str j=>obtain⟨d,rfl⟩:=a;exact PySem.EqNone.ne_none_str (Ax I q (by simp))
  |_=>exact absurd (e) Bool.false_ne_true
 |bl i=>
  cases h;cases y with
  |aO=>cases a;exact PySem.EqNone.ne_bool_none (Ax I q (by simp))
  |bl j=>cases a;exact ne_bool (Ax I q (by lia))
  |str j=>obtain⟨d,rfl⟩:=a;exact PySem.EqMixed.ne_bool_str (Ax I q (by simp))
  |_=>exact absurd (e) Bool.false_ne_true
 |int i=>
  obtain⟨t,rfl⟩:=h;cases y with
  |aO=>cases a;exact PySem.EqNone.ne_int_none (Ax I q (by simp))
  |int j=>obtain⟨d,rfl⟩:=a;exact ne_int (Ax I q (by lia))
  |str j=>obtain⟨d,rfl⟩:=a;exact PySem.EqMixed.ne_int_str (Ax I q (by simp))
  |_=>exact absurd (e) Bool.false_ne_true
 |str i=>
  obtain⟨t,rfl⟩:=h;cases y with
  |aO=>cases a;exact PySem.EqNone.ne_str_none (Ax I q (by simp))
  |bl j=>cases a;exact PySem.EqMixed.ne_str_bool (Ax I q (by simp))
  |int j=>obtain⟨d,rfl⟩:=a;exact PySem.EqMixed.ne_str_int (Ax I q (by simp))
  |str j=>obtain⟨d,rfl⟩:=a;exact ne_str (Ax I q (by lia))
  |_=>exact absurd (e) Bool.false_ne_true
 |fq i=>
  obtain⟨t,rfl⟩:=h;cases y with
  |fq j=>obtain⟨d,rfl⟩:=a;exact W.ne_bytes (Ax I q (congrArg not Op))
  |_=>exact absurd (e) Bool.false_ne_true
 |_=>cases y<;>exact absurd (e) Bool.false_ne_true
def E7:cy X (compareOp .Lt) (fh λi j=>.bl (decide (i<j))):=Tm λ_ _ _ _ _ _ _ q=>lt_int q
def EI:cy X (compareOp .LtE) (fh λi j=>.bl (decide (i<=j))):=Tm λ_ _ _ _ _ _ _ q=>le_int q
def Hx:cy X (compareOp .Gt) (fh λi j=>.bl (decide (j<i))):=Tm λ_ _ _ _ _ _ _ q=>gt_int q
def Ln:cy X (compareOp .GtE) (fh λi j=>.bl (decide (j<=i))):=Tm λ_ _ _ _ _ _ _ q=>ge_int q
def AN(b)(h:op≠ .In:=by decide)(e:op≠ .NotIn:=by decide):behindInMarks op b=false:=by
 have a:(op==CmpOp.In)=false:=by cases op<;>first|rfl|trivial
 have d:(op==CmpOp.NotIn)=false:=by cases op<;>first|rfl|trivial
 cases b<;>simp[behindInMarks,a,d]
def Ck(o:cy X (compareOp op) r)(e:PE X a B)(A:PE X b tb)(i:behindInMarks op b=false):PE X (.Compare a [op] [b] pos) (gj r B tb):=by
 intro d s l H Q I h;exact wpAny_Compare1 (Vi e A I h λv u C x y z t p j q=>o d C l z x y v u Q t p j q) i
def Oq(t:TE):TT:=λσ H Q=>t σ H λx H'=>ExB x λk=>Q k H'
def AK(C:cy X (compareOp op) r)(j:PE X a J)(G:PE X b tb)(o:behindInMarks op b=false):PT X (.Compare a [op] [b] pos) (Oq (gj r J tb)):=by
 intro d s i H Q I h
 refine wpAny_isTrue_Compare1 (aL (j d s i H _ I h) λv q ⟨x,t,D,B,q1⟩=>aL (G d q i t _ D q1) λu L ⟨y,F,E,l,q2⟩=>
  aL (C d L i F x y v u _ E B l q2) λc s3 ⟨z,p,A,r3,k,e,q3⟩=>?_) o
 subst e;cases r3;exact Z0 ⟨p,A,q3⟩
def RV(r r':R2)(ta tb tc:TE):TE:=λσ H Q=>ta σ H λx H1=>tb σ H1 λy H2=>r x y H2 λz H3=>∃k,z=.bl k /\
 (if k=true then tc σ H3 λw' H4=>r' y w' H4 Q else Q (.bl false) H3)
def EJ(ho:cy X (compareOp op) r)(ho':cy X (compareOp op') r')(ha:PE X a ta)(hb:PE X b tb)(hc:PE X c tc)
  (hm:lastMarks [op,op'] [b,c]=false:=by with_unfolding_all rfl):PE X (.Compare a [op,op'] [b,c] pos) (RV r r' ta tb tc):=by
 intro aa s σ H Q I h
 refine Compare_chain (aL (ha aa s σ H _ I h) λv s1 ⟨x,H1,I1,r1,q1⟩=>chain_link (aL (hb aa s1 σ H1 _ I1 q1) λu s2 ⟨y,H2,I2,r2,q2⟩=>
  aL (ho aa s2 σ H2 x y v u _ I2 r1 r2 q2) λd s3 ⟨z,H3,I3,r3,k,e,q3⟩=>?_)) hm
 subst e;cases r3;apply Z0;cases k with
 |false=>exact ite_ff ⟨.bl false,H3,I3,rfl,q3⟩
 |true=>exact ite_tt (chain_last (aL (hc aa s3 σ H3 _ I3 q3) λw' s4 n=>by obtain⟨z',H4,I4,r4,q4⟩:=n;exact ho' aa s4 σ H4 y z' u w' Q I4 r2 r4 q4))
def EL(ho:cy X (compareOp op) r)(ho':cy X (compareOp op') r')(ha:PE X a ta)(hb:PE X b tb)(hc:PE X c tc)
  (hm:lastMarks [op,op'] [b,c]=false:=by with_unfolding_all rfl):PT X (.Compare a [op,op'] [b,c] pos) (Oq (RV r r' ta tb tc)):=by
 intro aa s σ H Q I h
 refine isTrue_chain (aL (ha aa s σ H _ I h) λv s1 ⟨x,H1,I1,r1,q1⟩=>test_link (aL (hb aa s1 σ H1 _ I1 q1) λu s2 ⟨y,H2,I2,r2,q2⟩=>
  aL (ho aa s2 σ H2 x y v u _ I2 r1 r2 q2) λd s3 ⟨z,H3,I3,r3,k,e,q3⟩=>?_)) hm
 subst e;cases r3;apply Z0;cases k with
 |false=>
  obtain⟨k',e',q'⟩:=q3;cases e';exact ite_ff ⟨H3,I3,q'⟩
 |true=>
  refine ite_tt (test_last (aL (hc aa s3 σ H3 _ I3 q3) λw' s4 ⟨z',H4,I4,r4,q4⟩=>aL (ho' aa s4 σ H4 y z' u w' _ I4 r2 r4 q4) λd' s5 g=>?_));obtain⟨z2,H5,I5,r5,k2,e2,q5⟩:=g;subst e2;cases r5;exact Z0 ⟨H5,I5,q5⟩
def G6:(sizeLine:Nat)<2^63:=by trivial
def Be:cy X (binaryOp .Add) (λx y H Q=>∃i j,x=.str i/\y=.str j/\i.length+j.length<=sizeLine/\Q (.str (i++j)) H):=by
 rintro a s o H x y v u Q I l d ⟨i,j,rfl,rfl,e,q⟩;obtain⟨t,rfl⟩:=l;obtain⟨h,rfl⟩:=d;exact add_str (λh p=>⟨.str (i++j),H,I.tok _,⟨_,zJ⟩,q⟩) e
def BY(r:Vals [x] us):∃u,us=[u]/\RelV x u:=by
 cases r with
 |cons d a=>cases a;simp_all
def Hy(r:Vals [x,y] us):∃u a,us=[u,a]/\RelV x u/\RelV y a:=by
 cases r with
 |cons h e=>
  cases e with
  |cons r3 d=>cases d;lia
def P3(e:X.calm=true):aT X (.builtin lZ) (λxs H Q=>∃i j,xs=[.int i,.int j]/\Q (.int (if j>i then j else i)) H):=by
 rintro d s h H xs x Q I r ⟨i,j,rfl,q⟩;obtain⟨u,o,rfl,⟨t,rfl⟩,⟨v,rfl⟩⟩:=Hy r;refine max_two_ints (I.ok.hd e) λl p k=>⟨_,H,I.kept k,?_,q⟩;by_cases a:j>i
 ·rw[zM a,zM a];exact⟨_,zJ⟩
 ·rw[zN a,zN a];exact⟨_,zJ⟩
def P4(e:X.calm=true):aT X (.builtin "min") (λxs H Q=>∃i j,xs=[.int i,.int j]/\Q (.int (if j<i then j else i)) H):=by
 rintro d s h H xs x Q I r ⟨i,j,rfl,q⟩;obtain⟨u,o,rfl,⟨t,rfl⟩,⟨v,rfl⟩⟩:=Hy r;refine min_two_ints (I.ok.hd e) λl p k=>⟨_,H,I.kept k,?_,q⟩;by_cases a:j<i
 ·rw[zM a,zM a];exact⟨_,zJ⟩
 ·rw[zN a,zN a];exact⟨_,zJ⟩
def G7:aT X (.type lM) (λxs H Q=>(∃i,xs=[.int i]/\Q (.int i) H)\/∃k,xs=[.bl k]/\Q (.int (if k then 1 else 0)) H):=by
 intro a s e H xs j Q I r h;rcases h with⟨i,rfl,q⟩|⟨k,rfl,q⟩
 ·obtain⟨u,rfl,t,rfl⟩:=BY r;exact call_int_int ⟨.int i,H,I,⟨_,zJ⟩,q⟩
 ·obtain⟨u,rfl,d⟩:=BY r;cases d;exact call_int_bool ⟨.int (if k then 1 else 0),H,I.tok _,⟨_,zJ⟩,q⟩
def Km:aT X (.type md) (λxs H Q=>∃i,xs=[.int i]/\i.natAbs.log2<1920/\Q (.str (toString i)) H):=by
 rintro a s e H xs h Q I r ⟨i,rfl,d,q⟩;obtain⟨u,rfl,t,rfl⟩:=BY r;exact PySem.P.str_of_int d ⟨.str _,H,I.tok _,⟨_,zJ⟩,q⟩
end
structure ObjM(h:Heap)(x dx C:hO)(mA:SV):Prop where
 obj:h.get? x=some (W.instObj C dx)
 ns:h.Ns1 dx mA
 ne:dx≠x
def Jw{h:PySem.Heap}{j:SV}(n:h.Ns1 dx j):∃l,h.get? dx=some l/\∀d,W.lookIn d l=some (j d):=by
 obtain⟨o,p,ep,A,u,x,_,r⟩:=n;refine⟨o,A,λd=>?_⟩;have e:=r d;unfold nsFind findBy at e;rw[←Array.find?_toList]at e;unfold W.lookIn;rw[u]
 dsimp only
 split
 ·rename_i y q;rw[q]at e;exact congrArg some e
 ·rename_i q;rw[q]at e
  have a:p.toList.any (·.refKey)=false:=by
   rw[List.any_eq_false];intro y B;obtain⟨z,t,i⟩:=x y (by grind);simp[DictEntry.refKey,i]
  have v:¬ p.toList.any (·.refKey)=true:=by rw[a];exact Bool.false_ne_true
  rw[zN v];exact congrArg some e
def ObjM.look(I:ObjM h x dx C mA):∃d,W.InstAt h x (W.instObj C dx) C (some d)/\∀a,W.lookIn a d=some (mA a):=
 let ⟨d,i,e⟩:=Jw I.ns
 ⟨d,⟨I.obj,rfl,rfl,i⟩,e⟩
section
def Tp(X:ω.In s.heap)(I:ObjM s.heap x dx C mA)(i:W.plainGet ω C name=true)(e:W.hasDictIn ω C=true)
  (d:W.findIn ω (.ref C) name=some none) (l:mA name=some v) (a:W.handedIn v=true) (h:Q v {s with toks:=s.toks+1}):
  wpAny (model prog w) A (getAttr (.ref x) name expr) Q E s:=by
 obtain⟨o,J,j⟩:=I.look;exact W.get_value X J (W.plainGet_of i).1 (W.findObj_own e d zJ (by rw[j,l])) a h
def RW(X:ω.In s.heap)(I:ObjM s.heap x dx C mA)(a:W.plainGet ω C name=true)
  (e:W.findIn ω (.ref C) name=some (some (.ref f))) (ht:W.isFn ω (.ref f)=true) (j:mA name=none) (h:Q (.ref f,[.ref x]) s):
  wpAny (model prog w) A (getMethod (.ref x) name pl) Q E s:=by
 obtain⟨d,J,i⟩:=I.look;exact W.method_fn X J (W.plainGet_of a).1 (W.plainGet_of a).2 e (beq_iff_eq.mp ht) (by show(W.lookIn name d).map (·.isSome)=some false;simp_all) h
def Tq(X:ω.In s.heap)(I:ObjM s.heap x dx C mA)
  (hs:W.findIn ω (.ref C) jj=some (some (.builtin iI))) (p:W.plainOver ω C=true) (ht:W.takerIn ω C name=some none) (l:W.hasDictIn ω C=true)
  (hw:PySem.Within mA ns) (hsz:ns.length<=sizeLine)
  (h:∀h',ObjM h' x dx C (λy=>if y=name then some v else mA y)->Heap.SameBut dx s.heap h'->Q () {s with heap:=h',toks:=s.toks+2}):
  wpAny (model prog w) A (setAttr (.ref x) name v) Q E s:=by
 obtain⟨B,J,z⟩:=I.look;refine W.set_plain X J hs (W.osa_open X J p ht λb=>?_);obtain⟨t,r,e⟩:=W.any_some l;refine zU (zT (zU (zU (wpAny_loadPart I.obj (zU (W.Looks.here (W.looks_clsIn X r) ?_))))));rw[e];refine zT (zU (zT (zU ?_)));refine wpAny_nsSet1 I.ns λh' a d=>?_;obtain⟨u,q,j,hoD,i,o⟩:=a.count (PySem.Within.cons name v hw);refine zU (wpAny_lookBehind hoD (by rw[i];exact pastItsLine_dict (by grind)) ?_);exact zT (h _ ⟨(d.2 _ (Ne.symm I.ne)).trans I.obj,a,I.ne⟩ d)
def Lo(X:ω.In s.heap)(e:W.makesIn ω C=true)
  (i:W.findIn ω (.ref C) ip=some (some (.ref f))) (j:W.typeIn ω (.ref f)=some (.type kj))
  (h:codeAny (model prog w) (A.under (.builtin ju ⟨.ref C::vs,kw⟩)) (.call (.ref f) ⟨.ref (s.heap.objs.size+1)::vs,kw⟩) (W.InitBack (s.heap.objs.size+1) R)
   {s with heap:=(s.heap.push W.emptyDict).push (W.instObj C s.heap.objs.size)}):
  codeAny (model prog w) A (.call (.ref C) ⟨vs,kw⟩) R s:=by
 obtain⟨l,g,d,t,o⟩:=s;exact W.make_core (W.makes_of X e) (W.looks_findIn X i) (λa=>W.bind_fn X a j) (.inl zJ) h
end
noncomputable def BD(f:Str)(v:V):List (Str×V)->List (Str×V)
  | []=>[(f,v)]
  | (g,x)::r=>if g=f then (g,v)::r else (g,x)::BD f v r
def Ay(f g)(v):∀fs,(BD f v fs).lookup g=if g=f then some v else fs.lookup g
  | []=>by
    show List.lookup g [(f,v)]=_
    grind
  | (k,x)::r=>by
    rw[show BD f v ((k,x)::r)=(if k=f then (k,v)::r else (k,x)::BD f v r)from rfl];by_cases d:k=f
    · rw[zM d]
      by_cases h:g=k
      · have a:=beq_iff_eq.mpr h
        simp[List.lookup,a,zM (h.trans d)]
      · have a:=beq_eq_false_iff_ne.mpr h
        simp[List.lookup,a,zN (λe:g=f=>h (e.trans d.symm))]
    · rw[zN d]
      by_cases h:g=k
      · have a:=beq_iff_eq.mpr h
        simp[List.lookup,a,zN (λe=>d (h.symm.trans e))]
      · simp[List.lookup,beq_eq_false_iff_ne.mpr h]
        exact Ay f g v r
def G8(f)(v):∀fs,f∈(BD f v fs).map (·.1)/\∀g,g∈fs.map (·.1)->g∈(BD f v fs).map (·.1)
  | []=>⟨by simp[BD],λg h=>by simp at h⟩
  | (k,x)::r=>by
    obtain⟨d,a⟩:=G8 f v r;rw[show BD f v ((k,x)::r)=(if k=f then (k,v)::r else (k,x)::BD f v r)from rfl]
    grind
def Az(f)(v):∀fs,(BD f v fs).length<=fs.length+1
  | []=>by simp[BD]
  | (k,x)::r=>by
    have d:=Az f v r;rw[show BD f v ((k,x)::r)=(if k=f then (k,v)::r else (k,x)::BD f v r)from rfl];by_cases a:k=f
    · rw[zM a,length_cons,length_cons];lia
    · rw[zN a,length_cons,length_cons];lia
def cG.some_of(r:cG (some v) o):∃u,o=some u/\RelV v u:=by
 cases o with
 |none=>trivial
 |some u=>exact⟨u,rfl,r⟩
def cG.none_of(r:cG none o):o=none:=by
 cases o with
 |none=>rfl
 |some u=>trivial
def Jx(r:RelV v u):W.handedIn u=true:=by
 cases v with
 |aO=>cases (r);rfl
 |bl b=>cases (r);rfl
 |int i=>obtain⟨t,e⟩:=(r);cases e;rfl
 |str x=>obtain⟨t,e⟩:=(r);cases e;rfl
 |fq b=>obtain⟨t,e⟩:=(r);cases e;rfl
 |gT b=>obtain⟨t,e⟩:=(r);cases e;rfl
 |ref a=>cases (r);rfl
 |ty n=>cases (r);rfl
section
def Dg(j:cD P w H h)(e:H a=some (.ins C dx fs)):∃i,ObjM h a dx C i/\(∀f,cG (fs.lookup f) (i f))/\PySem.Within i (fs.map (·.1))/\fs.length<=1000/\H dx=some (.own a):=by
 obtain⟨d,z,l,o,i,n,r,q⟩:=(j a _ e);exact⟨i,⟨o,n,l⟩,r,q,z,d⟩
end
structure eJ(K:FG)(C:hO):Prop where
 pg:W.plainGet K C Str.empty=true
 hd:W.hasDictIn K C=true
 po:W.plainOver K C=true
 sa:W.findIn K (.ref C) jj=some (some (.builtin iI))
def eJ.get(c:eJ ω C)(f):W.plainGet ω C f=true:=c.pg
def b8(ω:FG)(C:hO)(f:Str):Prop:=W.findIn ω (.ref C) f=some none
def b8.taker(n:b8 ω C f):W.takerIn ω C f=some none:=by
 unfold W.takerIn;rw[show W.findIn ω (.ref C) f=some none from n];rfl
structure Nj(K:FG)(C:hO)(m:Str)(f:hO):Prop where
 at_:W.findIn K (.ref C) m=some (some (.ref f))
 fn:W.isFn K (.ref f)=true
 kp:W.keepIn K (.ref f)=true
section
def Nk(I:Inv X aa σ H s)(e:H a=some (.ins C dx fs))(c:eJ X.K C)(n:b8 X.K C f)(l:fs.lookup f=some v)
  (h:∀u d,Inv X aa σ H d->RelV v u->Q u d):wpAny (model X.prog X.w) A (getAttr (.ref a) f b) Q E s:=by
 obtain⟨o,O,r,_,_,_⟩:=Dg I.aI e;obtain⟨u,j,i⟩:=cG.some_of (by rw[←l];exact r f);exact Tp I.cp O (c.get f) c.hd n j (Jx i) (h u _ (I.tok _) i)
def Ie(I:Inv X aa σ H s)(e:H a=some (.ins C dx fs))(c:eJ X.K C)(k:Nj X.K C m g)(l:fs.lookup m=none)
  (h:Q (.ref g,[.ref a]) s):wpAny (model X.prog X.w) A (getMethod (.ref a) m pl) Q E s:=by
 obtain⟨d,O,r,_,_,_⟩:=Dg I.aI e;exact RW I.cp O (c.get m) k.at_ k.fn (cG.none_of (by rw[←l];exact r m)) h
def No(I:Inv X aa σ H s)(e:H a=some (.ins C dx fs))(c:eJ X.K C)(n:b8 X.K C f)(M:fs.length<1000)(L:RelV y u)
  (h:∀i,Inv X aa σ (upd H a (.ins C dx (BD f y fs))) i->Q () i):wpAny (model X.prog X.w) A (setAttr (.ref a) f u) Q E s:=by
 obtain⟨J,O,r,l,_,j⟩:=Dg I.aI e;have p:(fs.map (·.1)).length<=sizeLine:=by rw[AQ,sizeLine_eq];lia
 refine Tq I.cp O c.sa c.po n.taker c.hd l p λv d D=>h _ ?_;have t:∃o,v.get? dx=some o:=let ⟨o,_,_,G,_⟩:=d.ns;⟨o,G⟩
 apply I.write (x:=a) (e:=dx) (by rw[e];exact True.intro) (.inr j) (λb q F z=>(D.2 b F).trans z) t;refine⟨by rw[AD O.ne];exact j,?_,O.ne,d.obj,_,d.ns,λg=>?_,λg B=>?_⟩
 ·have:=Az f y fs;lia
 ·rw[Ay];by_cases q:g=f
  ·rwa[zM q,zM q]
  ·rw[zN q,zN q];exact r g
 ·by_cases q:g=f
  ·rw[q];exact(G8 f y fs).1
  ·refine(G8 f y fs).2 g (l g λz=>B ?_)
   simp_all
def Inv.made(I:Inv X aa σ H s):Inv X aa σ (upd (upd H s.heap.objs.size (.own (s.heap.objs.size+1))) (s.heap.objs.size+1) (.ins C s.heap.objs.size []))
  {s with heap:=(s.heap.push W.emptyDict).push (W.instObj C s.heap.objs.size)}:=by
 have a:(s.heap.push W.emptyDict).get? s.heap.objs.size=some W.emptyDict:=Zo s.heap rfl
 have h:((s.heap.push W.emptyDict).push (W.instObj C s.heap.objs.size)).get? (s.heap.objs.size+1)=some (W.instObj C s.heap.objs.size):=by
  have:=Zo (s.heap.push W.emptyDict) (o:=W.instObj C s.heap.objs.size) rfl
  rwa[Heap.size_push]at this
 refine(I.laid (o:=.own (s.heap.objs.size+1)) (t':=s.toks) (λb u q=>Zy _ q) (zV _) ⟨_,a⟩).laid (λb u q=>Zy _ q) (by simp) ?_;have d:s.heap.objs.size≠s.heap.objs.size+1:=zZ (by simp);refine⟨by rw[AD d,aA],Nat.zero_le _,d,h,λ_=>none,(Heap.Ns1.of_empty (⟨W.emptyDict,#[],_,a,zJ,(λe j=>absurd j (by simp)),λ_=>rfl⟩)).at λo q=>Zy _ q,λ_=>True.intro,λy i=>absurd zJ i⟩
def Os(d:attributeBase e f env (eval e env)=eval e env)
  (h:wpAny (model prog w) A (eval e env) (λo a=>wpAny (model prog w) A (getAttr o f true) Q E a) E s):wpAny (model prog w) A (eval (.Attribute e f pos) env) Q E s:=
 Attribute_any_ h (by rw[arm_eval_Attribute,d])
end
inductive ExF(K:FG)(x:V)(H:Hp)(f:Str)(k:V->Prop):Prop
 |mk (a C dx) (fs) (v) (h1:x=.ref a) (h2:H a=some (.ins C dx fs)) (h3:eJ K C) (h4:b8 K C f) (h5:fs.lookup f=some v) (q:k v):ExF K x H f k
def Yt(ω:FG)(ta:TE)(f:Str):TE:=λσ H Q=>ta σ H λx H1=>ExF ω x H1 f λv=>Q v H1
def Yu(ω:FG)(ta tv:TE)(f:Str):TS:=λD σ H=>tv σ H λy H1=>ta σ H1 λx H2=>∃a C dx fs,x=.ref a/\H2 a=some (.ins C dx fs)/\eJ ω C/\b8 ω C f/\fs.length<1000 /\
 D.nx σ (upd H2 a (.ins C dx (BD f y fs)))
section
def Af(B:PE X e D)(A:attributeBase e f X.env (eval e X.env)=eval e X.env):PE X (.Attribute e f pos) (Yt X.K D f):=by
 intro d s i H Q I h;refine Os A (aL (B d s i H _ I h) λu E w=>?_);obtain⟨x,j,r,t,a,C,G,fs,v,y,o,c,n,l,q⟩:=w;subst y;obtain rfl:u=Value.ref a:=t;exact Nk r o c n l λF J z p=>⟨v,j,z,p,q⟩
def CG(i:PE X o J)(j:PE X value tv)(hs:swapsWith value (some (.Attribute o f pos')) pos.line X.env=pure false):PS X (.Assign [.Attribute o f pos'] value pos) (Yu X.K J tv f):=by
 intro d s e H D I h;refine plainObj_wpAny_Assign_Attribute (aL (j d s e H _ I h) λu p ⟨y,v,E,t,q⟩=>aL (i d p e v _ E q) λr N k=>?_) hs;obtain⟨x,L,G,B,a,C,M,fs,F,A,c,n,l,q2⟩:=k;subst F;obtain rfl:r=Value.ref a:=B;exact No G A c n l t λs3 z=>⟨e,_,z,q2⟩
end
section
inductive cF(K:FG)(H:Hp):V->Value->Prop where
 |aO:cF K H .aO (.type "NoneType")
 |bl (x):cF K H (.bl x) (.type "bool")
 |int (i):cF K H (.int i) (.type lM)
 |str (x):cF K H (.str x) (.type md)
 |gT (x):cF K H (.gT x) (.type "float")
 |lst {a}{xs} (e:H a=some (.lst xs)):cF K H (.ref a) (.type iB)
 |cb {a}{o}{xs} (e:H a=some (.cb o (.lst xs))):cF K H (.ref a) (.type iB)
 |tup {a}{xs} (e:H a=some (.tup xs)):cF K H (.ref a) (.type iF)
 |dK {a}{kvs} (e:H a=some (.dK kvs)):cF K H (.ref a) (.type iT)
 |dT {a}{kvs} (e:H a=some (.dT kvs)):cF K H (.ref a) (.type iT)
 |ins {a C dx}{fs} (e:H a=some (.ins C dx fs)) (cl:eJ K C) (ha:W.findIn K (.ref C) jK=some (some (.builtin ib)))
   (hn:W.specialIn K (.builtin ib) jW=some (some (.builtin ir))) (htk:W.takesIn K (.builtin ib)=some true)
   (hm:W.mroIn K C (.type jv)=some true):cF K H (.ref a) (.ref C)
def Jy(I:Inv X aa σ H s)(j:RelV x u)(ty:cF X.K H x t)(e:W.kitOne X.K t c=some b)(h:∀tk,Q (.bool b) {s with toks:=tk}):
  wpAny (model X.prog X.w) A (call (.builtin iG) [u,c]) Q E s:=by
 cases ty with
 |aO=>cases (j);exact W.kia_one W.kitx_none I.cp True.intro e (λz=>nomatch z) h
 |bl y=>cases (j);exact W.kia_one W.kitx_bool I.cp True.intro e (λz=>nomatch z) h
 |int i=>obtain⟨t,q⟩:=(j);cases q;exact W.kia_one W.kitx_int I.cp True.intro e (λz=>nomatch z) h
 |str y=>obtain⟨t,q⟩:=(j);cases q;exact W.kia_one W.kitx_str I.cp True.intro e (λz=>nomatch z) h
 |gT y=>obtain⟨t,q⟩:=(j);cases q;exact W.kia_one W.kitx_float I.cp True.intro e (λz=>nomatch z) h
 | @lst a B d=>
  cases (j);obtain⟨_,_,n,_,l⟩:=(I.aI a _ d);exact W.kia_one W.kitx_list I.cp ⟨_,l,rfl⟩ e (λz=>nomatch z) h
 | @cb a U B d=>
  cases (j);obtain⟨_,_,_,n,_,l⟩:=(I.aI a _ d);exact W.kia_one W.kitx_list I.cp ⟨_,l,rfl⟩ e (λz=>nomatch z) h
 | @tup a B d=>
  cases (j);obtain⟨_,_,_,p⟩:=(I.aI a _ d);obtain⟨o,l,r,_⟩:=p;exact W.kia_one W.kitx_tuple I.cp ⟨o,l,r⟩ e (λz=>nomatch z) h
 | @dK a v d=>
  cases (j);obtain⟨_,_,T,_,p⟩:=(I.aI a _ d);obtain⟨o,N,ep,l,r,_⟩:=p;exact W.kia_one W.kitx_dict I.cp ⟨o,l,r.1⟩ e (λz=>nomatch z) h
 | @dT a v d=>
  cases (j);obtain⟨_,_,B,_,o,N,ep,l,r,_⟩:=(I.aI a _ d);exact W.kia_one W.kitx_dict I.cp ⟨o,l,r.1⟩ e (λz=>nomatch z) h
 | @ins a C Y fs d F G M D L=>
  cases (j);obtain⟨R,O,_⟩:=Dg I.aI d;obtain⟨S,J,_⟩:=O.look;exact W.kia_one (W.kitx_own (F.get _) F.hd G M D L) I.cp J e (λz=>nomatch z) h
end
structure aJ(k:Nat)(A:Around):Prop where
 hd:A.handled=none
 dp:A.depth+3*k+5<recursionLimit
 un:A.units+16*k+200<cLine
def aJ.mono{j k}(r:aJ k A)(h:j<=k):aJ j A:=⟨r.hd,by have:=r.dp;lia,by have:=r.un;lia⟩
def aJ.deeper(r:aJ (k+1) A)(env):aJ k (A.deeper env):=
 ⟨r.hd,by have:=r.dp;show A.depth+1+3*k+5<_;lia,by have:=r.un;show A.units+3+16*k+200<_;lia⟩
def aJ.in1(r:aJ (k+1) A):aJ k A.in1:=
 ⟨r.hd,by have:=r.dp;show A.depth+3*k+5<_;lia,by have:=r.un;show A.units+1+16*k+200<_;lia⟩
def Np{A:PySem.Around}:(A.under (.builtin ju ⟨.ref C::us,kw⟩)).depth=A.depth+1:=by
 rfl
def Nq{A:PySem.Around}:(A.under (.builtin ju ⟨.ref C::us,kw⟩)).units=A.units+1:=by
 rfl
def aJ.make{k}(r:aJ (k+1) A)(C)(d)(a):aJ k (A.under (.builtin ju ⟨.ref C::d,a⟩)):=
 ⟨r.hd,by have:=r.dp;rw[Np];lia,by have:=r.un;rw[Nq];lia⟩
def aJ.depth(r:aJ k A):A.depth<recursionLimit:=by have:=r.dp;lia
def aJ.units(r:aJ k A):A.units+64<cLine:=by have:=r.un;lia
def B8:TA:=λ_ H Q=>Q [] H
def At(ta:TE)(tr:TA):TA:=λσ H Q=>ta σ H λx H1=>tr σ H1 λxs H2=>Q (x::xs) H2
section
def AG:PA X [] B8:=λ_ _ _ _ H Q I h=>Calls.spliced_nil ⟨[],H,I,.nil,h⟩
abbrev et(X:Cx)(e:PySem.Expr)(es:List PySem.Expr):Prop:=starEach (e::es) X.env=(false,eval e X.env)::starEach es X.env
def AA(j:PE X e te)(y:PA X es t)(hs:et X e es:=by rfl):PA X (e::es) (At te t):=by
 intro d a s i H Q I h;rw[hs];refine Calls.spliced_cons (aL (j a s i H _ I h) λu o w=>?_);obtain⟨x,p,v,q,q1⟩:=w;exact aL (y d a o i p _ v q1) λB C k=>by obtain⟨r,A,z,l,q2⟩:=k;exact ⟨x::r,A,z,.cons q l,q2⟩
def Ts(t:TA):TE:=λσ H Q=>t σ H λxs H1=>xs.length<=sizeLine/\∀p,H1 p=none->Q (.ref p) (upd H1 p (.tup xs))
def Vn(t:TA):TE:=λσ H Q=>t σ H λxs H1=>xs.length<=sizeLine/\∀p,H1 p=none->Q (.ref p) (upd H1 p (.lst xs))
def Ai(h:PA X es t):PE X (.Tuple es x1 pos) (Ts t):=by
 intro a s j H Q I p;refine wpAny_Tuple_spliced (aL (h pos a s j H _ I p) λl d ⟨v,o,i,r,z,q⟩=>⟨by rw[←r.length];exact z,?_⟩);refine⟨.ref d.heap.objs.size,upd o d.heap.objs.size (.tup v),i.laid (λb u e=>Zy _ e) (zV _) ?_,zJ,q _ (i.aI.fresh (zV _))⟩;exact⟨z,l,r,⟨_,Zo _ zJ,zJ,_,zJ⟩⟩
def A5(h:PA X es t):PE X (.List es pos) (Vn t):=by
 intro a s j H Q I p;refine wpAny_List_spliced (aL (h pos a s j H _ I p) λl d ⟨v,o,i,r,z,q⟩=>⟨by rw[←r.length];exact z,?_⟩);refine⟨.ref d.heap.objs.size,upd o d.heap.objs.size (.lst v),i.laid (λb u e=>Zy _ e) (zV _) ?_,zJ,q _ (i.aI.fresh (zV _))⟩;exact⟨z,l,0,r,Zo _ zJ⟩
end
abbrev Sp:=hK->Hp->VK->XK->Prop
abbrev CXT:=List Env->Hp->hX->XK->Value->hX->Prop
structure cW(P:Program)(w:World)(K:FG)(mg:SV)(base:Heap)(A:Around)(outer:List Env)(s:hX)(H:Hp):Prop where
 frames:A.frames=some outer
 mod:Mod K mg base
 bs:∀b o,base.get? b=some o->s.heap.get? b=some o/\H b=none
 eK:base.objs.size<=s.heap.objs.size
 cu:s.heap.FunFrames base outer
 eY:∀b∈cA outer,H b=none
 aI:cD P w H s.heap
 bare:AllBare s.gens
def CE(outer:List Env)(P:Program)(w:World)(H:Hp)(s:hX)(Q:VK)(u:Value)(s':hX):Prop:=
 ∃v H',s'.os=s.os/\AllBare s'.gens/\Un (cA outer) [] H H' s.heap s'.heap/\cD P w H' s'.heap/\RelV v u/\Q v H'
def CR(CX:CXT)(outer:List Env)(P:Program)(w:World)(H:Hp)(s:hX)(Q:VK)(E:XK)(r:Result)(s':hX):Prop:=
 match r with
 |.ok (.ret u)=>CE outer P w H s Q u s'
 |.ok _=>False
 |.error e=>CX outer H s E e s'
structure aE(P:Program)(w:World)(K:FG)(mg:SV)(base:Heap)(CX:CXT)(k:Nat)(f:hO)(fd:FuncData)(ps:hA)(sp:Sp):Prop where
 len:∀vs H Q E,sp vs H Q E->vs.length=ps.length
 run:∀A outer s H args us vs Q E,aJ k A->cW P w K mg base A outer s H->BindsTo s fd args (ps.zip us)->Vals vs us->sp vs H Q E ->
  codeAny (model P w) A (.call (.ref f) args) (CR CX outer P w H s Q E) s
def cW.make(e:cW P w ω mg base A outer s H)(C)(d)(a):
  cW P w ω mg base (A.under (.builtin ju ⟨.ref C::d,a⟩)) outer s H:=⟨by first|exact e.frames| (simpa[Code.envs,pushEnvs]using e.frames),e.mod,e.bs,e.eK,e.cu,e.eY,e.aI,e.bare⟩
def cW.in1(e:cW P w ω mg base A outer s H):
  cW P w ω mg base A.in1 outer s H:=⟨e.frames,e.mod,e.bs,e.eK,e.cu,e.eY,e.aI,e.bare⟩
section
def Inv.eB(I:Inv X aa σ H s):cW X.prog X.w X.K X.mg X.base X.A X.stack s H:=
 ⟨I.ok.frames,I.ok.mod,I.bs,Nat.le_trans I.ok.eK I.sz,I.stack,I.stkFree,I.aI,I.bare⟩
def Inv.after(I:Inv X aa σ H s)(h:CE X.stack X.prog X.w H s Q u s'):EP X aa σ Q u s':=by
 obtain⟨v,j,l,a,un,i,r,q⟩:=h;obtain⟨o,g,d,t,e⟩:=s';obtain rfl:e=s.os:=l;exact⟨v,j,I.call un i a (λb z=>absurd z (by simp)),r,q⟩
end
def Lp(sp:Sp)(dvs:hK)(E:XK)(t:TA):TE:=λσ H Q=>t σ H λvs H1=>sp (vs++dvs) H1 Q E
inductive ExM(C:hO)(m:Str)(x:V)(H:Hp)(k:Prop):Prop
 |mk (a dx) (fs) (h1:x=.ref a) (h2:H a=some (.ins C dx fs)) (h3:fs.lookup m=none) (q:k):ExM C m x H k
def Jz(C:hO)(m:Str)(sp:Sp)(dvs:hK)(E:XK)(ta:TE)(t:TA):TE:=λσ H Q=>ta σ H λx H1=>ExM C m x H1 (t σ H1 λvs H2=>sp (x::(vs++dvs)) H2 Q E)
def RX(C:hO)(sp:Sp)(dvs:hK)(E:XK)(t:TA):TE:=λσ H Q=>t σ H λvs H1=>∀x dx,H1 x=none->H1 dx=none->dx≠x ->
 sp (.ref x::(vs++dvs)) (upd (upd H1 dx (.own x)) x (.ins C dx [])) (λv H2=>v=.aO/\Q (.ref x) H2) E
def Binds(ω:FG)(fd:FuncData)(ps:hA)(ds:hE):Prop:=
 ∀s us,ω.In s.heap->(us++ds).length=ps.length->BindsTo s fd ⟨us,[]⟩ (ps.zip (us++ds))
def Binds.all{d}(h:∀a,a.length=d.length->bindArgs fd ⟨a,[]⟩=pure (d.zip a)):Binds ω fd d []:=λs a _ e=>by
 rw[zQ]at e ⊢;exact .of_eq (h a e)
def BK(CX:CXT)(X:Cx)(E:XK):Prop:=∀aa(σ:St)H s e s',Inv X aa σ H s->CX X.stack H s E e s'->X.xe e s'
section
def Kn(F:aE X.prog X.w X.K X.mg X.base CX k f fd ps sp)(j:aJ k X.A)(o:Binds X.K fd ps ds)(p:Vals a ds)(l:BK CX X E)
  (I:Inv X aa σ H s) (r:Vals vs us) (h:sp (vs++a) H Q E):cn X (call (.ref f) us) (EP X aa σ Q) X.xe s:=by
 have i:=r.append p;have q:(us++ds).length=ps.length:=by rw[←i.length];exact F.len _ _ _ _ h
 refine wpAny_call (codeAny_mono (F.run X.A X.stack s H ⟨us,[]⟩ (us++ds) (vs++a) Q E j I.eB (o s us I.cp q) i h) λr t d=>?_);cases r with
 |error e=>exact l aa σ H s e t I d
 |ok fl=>
  cases fl with
  |ret u=>exact I.after d
  |next=>exact False.elim d
  |brk=>exact False.elim d
  |cont=>exact False.elim d
def AO{k}{l}(F:aE X.prog X.w X.K X.mg X.base CX k f fd l sp)(C:aJ k X.A)(A:Gl X x)(v:X.mg x=some (.ref f))(B:W.keepIn X.K (.ref f)=true)(G:Binds X.K fd l ds)(y:Vals d ds)(D:BK CX X E)
  (u:PA X (e::es) t) (j:dr x:=by decide) (J:et X e es:=by rfl) (i:(backTo pos (starEach es X.env)).any (·.1)=false:=by rfl):
  PE X (.Call (.Name x p) (e::es) [] pos) (Lp sp d E t):=by
 intro a s z H Q I h;refine Z3 (Bv I A v ?_ j);refine W.callWith_K I.ok.mod.kin B (aL (u pos a s z H _ I h) λM L ⟨N,O,o,r,q⟩=>⟨o.cp,?_⟩) J i;exact Kn F C G y D o r q
def CQ(Y:PE X o Z)(c:eJ X.K C)(v:Nj X.K C m f)(F:aE X.prog X.w X.K X.mg X.base CX k f fd ps sp)(R:aJ k X.A)(U:Binds X.K fd ps ds)(L:Vals i ds)(T:BK CX X E)(G:PA X (e::es) t)
  (p:et X e es:=by rfl) (j:(backTo pos (starEach es X.env)).any (·.1)=false:=by rfl)
  (ht:eval (.Call (.Attribute o m apos) (e::es) [] pos) X.env=(do
   let y ←eval o X.env
   standAt apos.atName
   let (f,first) ←holding [y] (getMethod y m pl)
   callWith pos f first (backTo pos (starEach (e::es) X.env)) (backToKw pos (keywordEach [] X.env))):=by rfl):
  PE X (.Call (.Attribute o m apos) (e::es) [] pos) (Jz C m sp i E Z t):=by
 intro d s A H Q I h;refine W.methodCall_KW (aL (Y d s A H _ I h) λu J w=>?_) ht;obtain⟨x,M,B,O,a,dx,fs,S,N,l,q⟩:=w;subst S;obtain rfl:u=Value.ref a:=O;apply Ie B N c v l;refine W.callWith_K I.ok.mod.kin v.kp (aL (G pos d J A M _ B q) λus s2 ⟨z,H2,D,r,q2⟩=>⟨D.cp,?_⟩) p j;exact Kn (vs:=.ref a::z) F R U L T D (.cons zJ r) q2
def BV{k}{j}{m}(L:PE X o J)(c:eJ X.K C)(p:Nj X.K C m f)(F:aE X.prog X.w X.K X.mg X.base CX k f fd j sp)(A:aJ k X.A)(G:Binds X.K fd j ds)(t:Vals e ds)(D:BK CX X E)
  (ht:eval (.Call (.Attribute o m apos) [] [] pos) X.env=(do
   let r ←eval o X.env
   standAt apos.atName
   let (f,first) ←holding [r] (getMethod r m pl)
   callWith pos f first (backTo pos (starEach [] X.env)) (backToKw pos (keywordEach [] X.env))):=by rfl):
  PE X (.Call (.Attribute o m apos) [] [] pos) (Jz C m sp e E J B8):=by
 intro d s v H Q I h;refine W.methodCall_KW (aL (L d s v H _ I h) λu M w=>?_) ht;obtain⟨x,N,i,z,a,O,fs,B,y,l,q⟩:=w;subst B;obtain rfl:u=Value.ref a:=z;apply Ie i y c p l;exact W.callWith_K0 i.cp p.kp (Kn (vs:=[.ref a]) F A G t D i (.cons zJ .nil) q)
structure Mk(K:FG)(C f:hO):Prop where
 makes:W.makesIn K C=true
 init:W.findIn K (.ref C) ip=some (some (.ref f))
 fn:W.isFn K (.ref f)=true
 kp:W.keepIn K (.ref C)=true
def Lq(M:Mk X.K C f)(F:aE X.prog X.w X.K X.mg X.base CX k f fd ps sp)(B:aJ (k+1) X.A)(J:Binds X.K fd ps ds)(t:Vals d ds)
  (D:BK CX X E) (I:Inv X aa σ H s) (r:Vals vs us)
  (h:∀x j,H x=none->H j=none->j≠x->sp (.ref x::(vs++d)) (upd (upd H j (.own x)) x (.ins C j [])) (λv G=>v=.aO/\Q (.ref x) G) E):
  cn X (call (.ref C) us) (EP X aa σ Q) X.xe s:=by
 have o:=h (s.heap.objs.size+1) s.heap.objs.size (I.aI.fresh (Nat.le_succ _)) (I.aI.fresh (zV _)) (by simp);have i:=Inv.made (C:=C) I;have l:Vals (V.ref (s.heap.objs.size+1)::(vs++d)) (Value.ref (s.heap.objs.size+1)::(us++ds)):=.cons rfl (r.append t)
 have A:(Value.ref (s.heap.objs.size+1)::us++ds).length=ps.length:=by
  have e:=l.length;rw[F.len _ _ _ _ o]at e;exact e.symm
 refine wpAny_call (Lo I.cp M.makes M.init (beq_iff_eq.mp M.fn) (codeAny_mono (F.run _ X.stack _ _ ⟨Value.ref (s.heap.objs.size+1)::us,[]⟩ (Value.ref (s.heap.objs.size+1)::(us++ds)) _ _ E (B.make C us [])
  (i.eB.make C us []) (J _ (Value.ref (s.heap.objs.size+1)::us) i.cp A) l o) λr y a=>?_))
 cases r with
 |error e=>exact D aa σ _ _ e y i a
 |ok fl=>
  cases fl with
  |ret u=>
   obtain⟨v,q,z,p,L,q3⟩:=i.after a;subst L;exact⟨p,⟨V.ref (s.heap.objs.size+1),q,z,zJ,q3⟩⟩
  |next=>exact False.elim a
  |brk=>exact False.elim a
  |cont=>exact False.elim a
def Ko{k}{l}(M:Mk X.K C f)(F:aE X.prog X.w X.K X.mg X.base CX k f fd l sp)(B:aJ (k+1) X.A)(A:Gl X x)(v:X.mg x=some (.ref C))(G:Binds X.K fd l ds)(y:Vals d ds)(D:BK CX X E)
  (u:PA X (e::es) t) (j:dr x:=by decide) (J:et X e es:=by rfl) (i:(backTo pos (starEach es X.env)).any (·.1)=false:=by rfl):
  PE X (.Call (.Name x p) (e::es) [] pos) (RX C sp d E t):=by
 intro a s z H Q I h;refine Z3 (Bv I A v ?_ j);refine W.callWith_K I.ok.mod.kin M.kp (aL (u pos a s z H _ I h) λN L ⟨O,R,o,r,q⟩=>⟨o.cp,?_⟩) J i;exact Lq M F B G y D o r q
def RY(M:Mk X.K C f)(F:aE X.prog X.w X.K X.mg X.base CX k f fd ps sp)(i:aJ (k+1) X.A)(j:Gl X x)(r:X.mg x=some (.ref C))(o:Binds X.K fd ps ds)(q:Vals d ds)(l:BK CX X E)
  (a:dr x:=by decide):PE X (.Call (.Name x p) [] [] pos) (RX C sp d E B8):=by
 intro e s t H Q I h;refine Z3 (Bv I j r ?_ a);exact W.callWith_K0 I.cp M.kp (Lq M F i o q l I .nil h)
end
def PK(X:Cx)(kws:List Keyword)(t:TA):Prop:=
 ∀pos aa s(σ:St)H Q,Inv X aa σ H s->t σ H Q->cn X (evalAll ((backToKw pos (keywordEach kws X.env)).map (·.2))) (AP X aa σ Q) X.xe s
section
def RZ:PK X [] B8:=λ_ _ _ _ H Q I h=>wpAny_evalAll_nil ⟨[],H,I,.nil,h⟩
def Ot(l:PE X e te)(z:PK X d t):PK X (⟨nm,e,kpos⟩::d) (At te t):=by
 intro i a s j H Q I h;refine wpAny_evalAll_cons (zU (aL (l a s j H _ I h) λu p ⟨x,q,y,r,q1⟩=>zU (z9 (zT ?_))));exact aL (z i a p j q _ y q1) λC D k=>by obtain⟨v,B,A,o,q2⟩:=k;exact ⟨x::v,B,A,.cons r o,q2⟩
structure Nr(K:FG)(fd:FuncData)(ps ks:hA)(g:hE->hE->hE)(gV:hK->hK->hK):Prop where
 to:∀s us ws,K.In s.heap->(g us ws).length=ps.length->BindsTo s fd ⟨us,ks.zip ws⟩ (ps.zip (g us ws))
 rel:∀{vs}{us}{zs}{ws},Vals vs us->Vals zs ws->Vals (gV vs zs) (g us ws)
end
structure AH(N P:hA)(sc:Scope):Prop where
 kind:sc.kind=.function
 co:sc.isCoroutine=false
 gen:sc.isGenerator=false
 nd:N.Nodup
 pre:N.take P.length=P
 par:∀x∈P,sc.names.lookup x=some .local\/sc.names.lookup x=some .cell
 nofree:∀y∈sc.names,y.2≠ .free
def bA(a:sc.kind=.function:=by exact rfl)(b:sc.isCoroutine=false:=by exact rfl)(c:sc.isGenerator=false:=by exact rfl)(d:N.Nodup:=by decide +kernel)(e:N.take P.length=P:=by exact rfl)(f:∀x∈P,sc.names.lookup x=some .local\/sc.names.lookup x=some .cell:=by decide +kernel)(g:∀y∈sc.names,y.2≠ .free:=by decide +kernel):AH N P sc:=⟨a,b,c,d,e,f,g⟩
def J0{a}{x}:∀{binds}{m:SV},(∀v,(x,v)∉ binds)->bindL a binds m x=m x
  | [],_,_=>rfl
  | (n,v)::r,m,h=>by
    unfold bindL;rw[J0 λw d=>h w (by grind)];split
    · grind
    · rfl
def J1{a}{x}:∀{binds}{m:SV},(∀v,(x,v)∉ binds)->bindC a binds m x=m x
  | [],_,_=>rfl
  | (n,v)::r,m,h=>by
    unfold bindC;rw[J1 λw d=>h w (by grind)];split
    · rfl
    grind
def J2{a}:∀{P:hA}{vs}{i:Nat}{m:SV},P.Nodup->P[i]?=some x->vs[i]?=some v->a x=some .local ->
  bindL a (P.zip vs) m x=some v
 | [],_,_,_,_,h,_,_=>by simp at h
 |_::_,[],_,_,_,_,h,_=>by simp at h
 |p::P,w::vs,0,m,nd,h1,h2,hk=>by
  simp at h1 h2;subst h1;subst h2;show bindL a ((p,w)::P.zip vs) m p=_;unfold bindL;rw[J0 λv d=>(zP.mp nd).1 (of_mem_zip d).1,zM hk];simp
 |p::P,w::vs,i+1,m,nd,h1,h2,hk=>by
  unfold bindL;exact J2 (zP.mp nd).2 (by trivial) (by trivial) hk
def J3{a}:∀{P:hA}{vs}{i:Nat}{m:SV},P.Nodup->P[i]?=some x->vs[i]?=some v->a x≠some .local ->
  bindC a (P.zip vs) m x=some v
 | [],_,_,_,_,h,_,_=>by simp at h
 |_::_,[],_,_,_,_,h,_=>by simp at h
 |p::P,w::vs,0,m,nd,h1,h2,hk=>by
  simp at h1 h2;subst h1;subst h2;show bindC a ((p,w)::P.zip vs) m p=_;unfold bindC;rw[J1 λv d=>(zP.mp nd).1 (of_mem_zip d).1,zN hk];simp
 |p::P,w::vs,i+1,m,nd,h1,h2,hk=>by
  unfold bindC;exact J3 (zP.mp nd).2 (by trivial) (by trivial) hk
noncomputable def start(N:hA)(vs:hK):St:=vs.map some++List.replicate (N.length-vs.length) none
noncomputable def By(CX:CXT)(P:Program)(w:World)(ω:FG)(mg:SV)(base:Heap)(N:hA)(qual:Str)(scope:Scope)(f:hO)(cd:Value)(A:Around)(outer:List Env)(s:hX)(H:Hp)(E:XK):Cx where
 prog:=P
 w:=w
 K:=ω
 mg:=mg
 base:=base
 A:=A.deeper (envOfC qual scope s.heap.objs.size f cd)
 N:=N
 bY:=s
 cZ:=H
 env:=envOfC qual scope s.heap.objs.size f cd
 outer:=outer
 stack:=envOfC qual scope s.heap.objs.size f cd::outer
 ex:=[]
 calm:=true
 fn:=λ_=>true
 pn:=[]
 xe:=λe s'=>wpAny (model P w) (A.deeper (envOfC qual scope s.heap.objs.size f cd)) (leaving (envOfC qual scope s.heap.objs.size f cd) e) (λ_ s''=>CX outer H s E e s'') (λe' s''=>CX outer H s E e' s'') s'
def Lr{sc:Scope}(h:sc.names.lookup x=some .cell):∃c,(cellsFrom n sc.names []).lookup x=some c:=by
 exact Option.isSome_iff_exists.mp (W.cellsFrom_some sc.names n [] (.inl h))
def G9          
  (S:AH N ps scope) (M:A.handled=none) (d:cW P w ω mg base A outer s H) (Q:vs.length=ps.length) (r:Vals vs us)
  (x:InCallC s s.heap.objs.size (bindL (envOfC qual scope s.heap.objs.size f cd).kindOf (ps.zip us) λ_=>none) (cellsFrom (s.heap.objs.size+1) scope.names []) (bindC (envOfC qual scope s.heap.objs.size f cd).kindOf (ps.zip us) λ_=>none) s1):
  Inv (By CX P w ω mg base N qual scope f cd A outer s H E) [] (start N vs) H s1:=by
 have L:ps.length<=N.length:=by have:=congrArg List.length S.pre;rw[zX]at this;lia
 obtain⟨C,R,rfl,F⟩:=x.done;have j:∀b,b∉ (By CX P w ω mg base N qual scope f cd A outer s H E).ex:=λb z=>absurd (show b∈([])from z) (by simp)
 refine⟨⟨d.mod,S.kind,zJ,zJ,zV _,λy z c C l=>?_,λy t=>?_,λy c _ h=>?_,λ_=>M,Around.frames_deeper d.frames,.inr ⟨zJ,zJ⟩,λb z=>absurd z (j b),d.bs,d.eK,λb _ _=>j b,λb z=>absurd z (j b),d.cu,d.eY⟩,
  rfl,d.bare,Un.kept F,⟨_,x.toInCall.ns,λi y v C l O=>?_⟩,λy c h=>⟨_,x.cell y c h⟩,d.aI.fresh (zV _),λy c h=>?_,λp B=>absurd (show p∈([])from B) (by simp),d.aI.kept F,?_⟩
 ·exact name_of_addr x.apart (PySem.mem_of_lookup C) (PySem.mem_of_lookup l)
 ·rcases t with t|t
  ·exact Lr t
  ·exact absurd zJ (S.nofree _ (PySem.mem_of_lookup t))
 ·exact Nat.le_of_lt (x.above y c (PySem.mem_of_lookup h))
 ·have G:i<vs.length:=by
   unfold start at l;by_cases G:i<vs.length
   ·exact G
   ·grind
  have J:vs[i]?=some v:=by
   unfold start at l;rw[List.getElem?_append_left (by simp_all)]at l;cases e:vs[i]? with
   |none=>simp_all
   |some a=>simp_all
  obtain⟨u,D,I⟩:=r.get J
  have B:ps[i]?=some y:=by
   rwa[←S.pre,List.getElem?_take_of_lt (by lia)]
  have o:ps.Nodup:=by rw[←S.pre];exact S.nd.sublist (by grind)
  refine⟨u,I,?_⟩;rcases S.par y (by grind)with k|k
  ·exact .inl ⟨k,J2 o B D k⟩
  ·obtain⟨c,e⟩:=Lr k;refine .inr ⟨.inl k,c,e,?_⟩;have q:=x.cell y c e
   rwa[J3 o B D (by show scope.names.lookup y≠_;simp_all)]at q
 ·exact d.aI.fresh (Nat.le_of_lt (x.above y c (PySem.mem_of_lookup h)))
 ·unfold start;show _=N.length
  simp_all
def Ou{kV} 
   (L:ω.lookup f=some ⟨oc,od,.func (W.fnOf name qual params body scope dV kV doc pm an ae ct),f7⟩) (D:W.codeIn ω ae qual=true) (S:AH N B scope)
  (len:∀vs H Q E,sp vs H Q E->vs.length=B.length)
  (h:∀(A:Around)outer s H vs Q E,aJ k (A.deeper (envOfC qual scope s.heap.objs.size f ae))->sp vs H Q E ->
   ∃t,c8 (By CX P w ω mg base N qual scope f ae A outer s H E) body t/\t {nx:=λ_ H'=>Q .aO H',rt:=Q} (start N vs) H):
  aE P w ω mg base CX (k+1) f (W.fnOf name qual params body scope dV kV doc pm an ae ct) B sp:=by
 refine⟨len,λA outer s H G R vs Q E F p Y r j=>?_⟩;have U:=len _ _ _ _ j;have I:=p.mod.kin.keeps λb o e=>(p.bs b o e).1
 have d:∀y∈B.zip R,scope.names.lookup y.1=some .local\/(scope.names.lookup y.1=some .cell/\((cellsFrom (s.heap.objs.size+1) scope.names []).lookup y.1).isSome=true):=λ⟨n,v⟩ T=>by
  rcases S.par n (of_mem_zip T).1 with q|q
  ·simp_all
  ·exact .inr ⟨q,W.cellsFrom_some _ _ _ (.inl q)⟩
 refine codeAny_call_function F.depth (I _ _ L) zJ S.co S.gen zJ (W.codeRec_of I D) (Y _ _ _ _ ?_);refine wpAny_newFunctionEnv_cells S.kind d λO Z M x=>?_;subst Z;refine⟨(p.mod.nolimit.keeps λb o e=>(p.bs b o e).1).keeps x.toInCall.keep,codeAny_func ?_⟩;obtain⟨t,ht,X⟩:=h A outer s H vs Q E (F.deeper _) j;refine zS (ht [] M (start N vs) H _ (G9 S F.hd p U r x) X) (λfl C i=>?_) λe C i=>i
 have l:∀{a:St}{H':Hp}{v:V}{u:Value},Inv (By CX P w ω mg base N qual scope f ae A outer s H E) [] a H' C->RelV v u->Q v H'->CE outer P w H s Q u C:=
  λ{a H' v u}J z q=>⟨v,H',J.os,J.bare,J.base,J.aI,z,q⟩
 cases fl with
 |ret u=>
  obtain⟨v,a,H',J,z,q⟩:=i;exact l J z q
 |next=>
  obtain⟨a,H',J,q⟩:=i;exact l (v:=V.aO) J zJ q
 |brk=>
  obtain⟨_,_,_,q⟩:=i;exact False.elim q
 |cont=>
  obtain⟨_,_,_,q⟩:=i;exact False.elim q
section
def tCB(r:hK->Hp->VK->Prop)(t:TA):TE:=λσ H Q=>t σ H λvs H1=>r vs H1 Q
def AR{X}{d}{x}{e}{p}{i}{t}{id}{r}(J:aT X (.builtin id) r)(B:Gl X x)(v:X.mg x=none)(u:bootBuiltins x=some (.builtin id))(q:PA X (e::i) t)(G:x≠ iQ:=by decide)(l:dr x:=by decide)
  (F:et X e i:=by rfl) (j:(backTo d (starEach i X.env)).any (·.1)=false:=by rfl):PE X (.Call (.Name x p) (e::i) [] d) (tCB r t):=by
 intro a s o H Q I h;refine Z3 (FH I B v u ?_ G l);exact PyProof.Rows.callWith_builtin1 (aL (q d a s o H _ I h) λz y w=>by obtain⟨A,C,E,D,q1⟩:=w;exact J a y o C A z Q E D q1) F j
def BG{T}(F:aT X (.type T) r)(z:Gl X x)(q:X.mg x=none)(o:bootBuiltins x=some (.type T))(l:PA X (e::es) t)(C:x≠ iQ:=by decide)(i:dr x:=by decide)
  (E:et X e es:=by rfl) (d:(backTo pos (starEach es X.env)).any (·.1)=false:=by rfl):PE X (.Call (.Name x p) (e::es) [] pos) (tCB r t):=by
 intro a s j H Q I h;refine Z3 (FH I z q o ?_ C i);exact PyProof.Rows.callWith_type1 (aL (l pos a s j H _ I h) λv u w=>by obtain⟨y,A,D,B,q1⟩:=w;exact F a u j A y v Q D B q1) E d
end
end L2
namespace HT
open PySem PyProof.Rows
section
def cat_tup(ht:IsTup s.heap t vs.toArray)(y:IsTup s.heap b ws.toArray)(B:vs≠ [])
  (v:ws=[]->Q (.ref t) s) (u:ws≠ []->Q (.ref s.heap.objs.size) {s with heap:=s.heap.push {cls:=.type iF,data:=.seq (vs++ws).toArray}})
  (hsz:vs.length+ws.length<=sizeLine):wpAny (model prog w) A (binaryOp .Add (.ref t) (.ref b)) Q E s:=by
 obtain⟨⟨cls,r,data,sl⟩,h,z,n,x⟩:=id ht;obtain⟨⟨p,d,o,dh⟩,a,i,q,j⟩:=id y;subst z x i j;have e:vs.toArray++ws.toArray=(vs++ws).toArray:=by simp
 by_cases l:ws=[]
 ·exact concat_meets ⟨_,h,zJ⟩ ⟨_,a,zJ⟩ noFill_tuple_add seq_tuple_add slot_tuple_add entry_tuple_add (args_tuple_add_2 _ _)
   (tuple_addW1 t b vs.toArray ws.toArray n q r d sl dh (by simp_all) (by simp[l])) ⟨h,a,v l⟩
 ·refine concat_meets ⟨_,h,zJ⟩ ⟨_,a,zJ⟩ noFill_tuple_add seq_tuple_add slot_tuple_add entry_tuple_add (args_tuple_add_2 _ _)
   (tuple_addW2 t b vs.toArray ws.toArray n q r d sl dh (by simp_all) (by simp_all) qe) ⟨h,a,?_⟩
  rw[e];exact u l
end
end HT
namespace L2
open PySem PySem.Spec PyProof.Rows
abbrev TO:=St->Hp->(Option Int->Hp->Prop)->Prop
def PO(X:Cx)(e:Option Expr)(t:TO):Prop:=
 ∀aa s(σ:St)H Q,Inv X aa σ H s->t σ H Q ->
  cn X (evalPart e X.env) (λu s'=>∃o H',Inv X aa σ H' s'/\IsPart u o/\Q o H') X.xe s
def XI(t:TE):TO:=λσ H Q=>t σ H λx H1=>∃i,x=.int i/\Q (some i) H1
def Dh:∀{a},Vals (d.map V.int) a->IntsAre a d:=by
 induction d with
 |nil=>intro a r;cases r;exact .nil
 |cons n d h=>
  intro a r;cases r with
  |cons i j=>
   obtain⟨t,e⟩:=i;subst e;exact .cons n t (h j)
section
def IN(h:PE X e te):PO X (some e) (XI te):=by
 intro a s d H Q I l;refine aL (h a s d H _ I l) λu r z=>?_;obtain⟨x,j,p,o,q1⟩:=z;obtain⟨i,rfl,q⟩:=q1;obtain⟨t,rfl⟩:=o;exact⟨some i,j,p,.int i t,q⟩
def SlR(X:Cx)(r:V->Option Int->Option Int->Hp->VK->Prop):Prop:=
 ∀aa s(σ:St)H x v vl vu lo hi sl Q,Inv X aa σ H s->RelV x v->s.heap.IsSliceOf sl vl vu .none->IsPart vl lo->IsPart vu hi->r x lo hi H Q ->
  ∃T id,typeLookup (.type T) "__getitem__"=pure (some (.builtin id))/\s.TypeIs v T/\cn X (getItem v (.ref sl)) (EP X aa σ Q) X.xe s
def tSl(r:V->Option Int->Option Int->Hp->VK->Prop)(te:TE)(tl th:TO):TE:=λσ H Q=>te σ H λx H1=>tl σ H1 λl H2=>th σ H2 λu H3=>r x l u H3 Q
def Ls{lo o}(L:SlR X r)(O:PE X e te)(G:PO X lo B)(p:PO X o th):PE X (.Subscript e (.Slice lo o none p2) pos) (tSl r te B th):=by
 intro a s d H Q I h;refine Subscript_ (aL (O a s d H _ I h) λv y w=>?_);obtain⟨x,D,J,F,q1⟩:=w;refine wpAny_Slice (aL (G a y d D _ J q1) λj R ⟨l,N,M,pl,q2⟩=>aL (p a R d N _ M q2) λi s3 m=>?_);obtain⟨u,t,E,z,q3⟩:=m;apply zT;obtain⟨T,id,A,ht,C⟩:=L a {s3 with heap:=s3.heap.push {cls:=.type "slice",data:=.fields #[j,i,.none]}} d t x v j i l u s3.heap.objs.size Q (E.kept λb S q=>Zy _ q) F (Heap.IsSliceOf.new ..) pl z q3;exact tail_any ht A C (by rfl)
def Ov(ω:FG):R2:=λx y H Q=>∃a b xs ys,x=.ref a/\y=.ref b/\aP ω H a xs/\aP ω H b ys/\xs≠ []/\xs.length+ys.length<=sizeLine /\
 (ys=[]->Q (.ref a) H)/\(ys≠ []->∀p,H p=none->Q (.ref p) (upd H p (.tup (xs++ys))))
def Vals.nil_iff(r:Vals xs us):us=[] ↔ xs=[]:=by
 cases r with
 |nil=>simp
 |cons _ _=>simp
def Tt:cy X (binaryOp .Add) (Ov X.K):=by
 rintro i s F H x y v u Q I t r ⟨a,b,G,D,rfl,rfl,l,B,A,C,q1,q2⟩;cases t;cases r;obtain⟨j,e,o,_⟩:=I.tuple l;obtain⟨h,d,p,_⟩:=I.tuple B;refine HT.cat_tup o p (λz=>A (e.nil_iff.mp z)) (λz=>⟨.ref a,H,I,zJ,q1 (d.nil_iff.mp z)⟩) (λz=>?_) (by rwa[←e.length,←d.length]);refine⟨.ref s.heap.objs.size,_,I.laid (λb E q=>Zy _ q) (zV _) ?_,zJ,q2 (λw=>z (d.nil_iff.mpr w)) _ (I.aI.fresh (zV _))⟩;exact⟨by simp_all,_,e.append d,IsTup.new _ _⟩
end
noncomputable def fc(n:Nat)(i:Int):Option Nat:=if 0<=i then (if i<n then some i.toNat else none)else if -(n)<=i then some (i+n).toNat else none
def eM{α:Type}(xs:List α)(i:Int):Option α:=(fc xs.length i).bind λj=>xs[j]?
def Ow(h:fc n i=some j):seqIndex? i n=some j/\j<n/\-(n)<=i/\i<n:=by
 unfold fc at h;by_cases d:0<=i
 ·rw[zM d]at h;by_cases a:i<n
  ·rw[zM a]at h;have e:=Option.some.inj h;exact⟨by rw[seqIndex_of d a,e],by lia,by lia,a⟩
  simp_all
 ·rw[zN d]at h;by_cases a:-n<=i
  ·rw[zM a]at h;have e:=Option.some.inj h;exact⟨by rw[seqIndex_neg (by lia) a,e],by lia,a,by lia⟩
  simp_all
def Kq{α}{xs}{v:α}(h:eM xs i=some v):∃j,seqIndex? i xs.length=some j/\xs[j]?=some v/\j<xs.length/\-(xs.length:Int)<=i/\i<xs.length:=by
 unfold eM at h;cases e:fc xs.length i with
 |none=>simp_all
 |some j=>
  obtain⟨a,d,l,o⟩:=Ow e
  simp_all
def BR{α}{xs}{j:Nat}{v:α}(h:xs[j]?=some v):eM xs (j:Int)=some v:=by
 have a:=(Z8.mp h).1
 have e:fc xs.length j=some j:=by
  unfold fc;rw[zM (by lia),zM (by lia)];simp
 unfold eM;rwa[e]
def Ox(b:Expr):Prop:=∀o i,subscripted b false o i=operate [o,i] (getItem o i)
def IxR(X:Cx)(r:R2):Prop:=
 ∀value slice aa s(σ:St)H x y v u Q,Inv X aa σ H s->RelV x v->RelV y u->r x y H Q ->
  subscripted slice false v u=operate [v,u] (getItem v u)->cn X (subscriptTail value slice v u) (EP X aa σ Q) X.xe s
def MtR(X:Cx)(id:String)(r:V->hK->Hp->VK->Prop):Prop:=
 ∀aa s(σ:St)H x xs v us Q,Inv X aa σ H s->RelV x v->Vals xs us->r x xs H Q ->
  cn X (call (.builtin id) (v::us)) (EP X aa σ Q) X.xe s
section
def An(o:IxR X r)(e:PE X a A)(z:PE X b tb)(hs:Ox b):PE X (.Subscript a b pos) (gj r A tb):=by
 intro d s j H Q I h;exact Subscript_ (Vi e z I h λv u B x y t p l i q=>o a b d B j t x y v u Q p l i q (hs _ _))
inductive ExrIxL(K:FG)(x y:V)(H:Hp)(k:V->Prop):Prop
 |mk (p) (xs) (i) (v) (h1:x=.ref p) (h2:y=.int i) (h3:aH K H p xs) (h4:eM xs i=some v) (q:k v):ExrIxL K x y H k
def XJ(ω:FG):R2:=λx y H Q=>ExrIxL ω x y H λv=>Q v H
inductive ExrIxT(K:FG)(x y:V)(H:Hp)(k:V->Prop):Prop
 |mk (p) (xs) (i) (v) (h1:x=.ref p) (h2:y=.int i) (h3:aP K H p xs) (h4:eM xs i=some v) (q:k v):ExrIxT K x y H k
def Vo(ω:FG):R2:=λx y H Q=>ExrIxT ω x y H λv=>Q v H
def Yv:R2:=λx y H Q=>∃z i c,x=.str z/\y=.int i/\z.length<=sizeLine/\eM z.cps.toList i=some c/\Q (.str ⟨#[c]⟩) H
def Tu:IxR X (XJ X.K):=by
 intro value slice aa s σ H x y v u Q I rx ry h hs;obtain⟨p,xs,i,z,rfl,rfl,hq,he,q⟩:=h;cases rx;obtain⟨t,rfl⟩:=ry;obtain⟨ac,r,pl,hz⟩:=I.list hq;obtain⟨j,h1,h2,h3,h4,h5⟩:=Kq he;obtain⟨w,ew,rw'⟩:=r.get h2;have hl:=r.length;have hn:=G6;have fin:EP X aa σ Q w s:=⟨z,H,I,rw',q⟩;by_cases h0:0<=i
 ·have hj:i.toNat=j:=by
   rw[seqIndex_of h0 h5]at h1;exact Option.some.inj h1
  exact item_listR pl.isList h0 (by lia) (by simp_all) fin hs
 ·have hj:(i+ac.toArray.size).toNat=j:=by
   rw[seqIndex_neg (by lia) h4]at h1;rw[size_toArray,←hl];exact Option.some.inj h1
  exact subscriptTail_builtinR pl.isList.typeIs slot_list_getitem.lookup
   (wpAny_getItem_list_neg pl.isList (by lia) (by simp_all) (by lia) (by simp_all) ⟨rfl,fin⟩) hs
def Vp:IxR X (Vo X.K):=by
 intro value slice aa s σ H x y v u Q I rx ry h hs;obtain⟨p,xs,i,z,rfl,rfl,hq,he,q⟩:=h;cases rx;obtain⟨t,rfl⟩:=ry;obtain⟨ac,r,pl,hz⟩:=I.tuple hq;obtain⟨j,h1,h2,h3,h4,h5⟩:=Kq he;obtain⟨w,ew,rw'⟩:=r.get h2;have hl:=r.length;have hn:=G6
 exact subscriptTail_builtinR pl.typeIs slot_tuple_getitem.lookup
  (getItem_tuple (j:=j) pl (by lia) (by lia) (by simp_all) (by simp_all) ⟨rfl,⟨z,H,I,rw',q⟩⟩) hs
def Kr:IxR X Yv:=by
 intro value slice aa s σ H x y v u Q I rx ry h hs;obtain⟨z,i,c,rfl,rfl,hz,he,q⟩:=h;obtain⟨t,rfl⟩:=rx;obtain⟨t',rfl⟩:=ry;obtain⟨j,h1,h2,h3,h4,h5⟩:=Kq he;have hl:z.cps.toList.length=z.length:=by simp[Str.length]
 have hn:=G6
 exact tail_any (typeIs_str s z t) slot_str_getitem.lookup (getItem_str (by
  lia) (by simp_all) ⟨.str ⟨#[c]⟩,H,I.tok _,⟨_,rfl⟩,q⟩) hs
def Nt(a:hE)(n j)(u):Obj.mapSeq (·.setIfInBounds j u) {cls:=.type iB,data:=.seq a.toArray n}={cls:=.type iB,data:=.seq (a.set j u).toArray n}:=by
 simp[Obj.mapSeq]
def Inv.lst{X}{d}{σ:St}{H}{s}{p}{xs}(I:Inv X d σ H s)(h:H p=some (.lst xs)):
  ∃(a:hE)(n:Nat),Vals xs a/\s.heap.get? p=some {cls:=.type iB,data:=.seq a.toArray n}/\xs.length<=sizeLine:=by
 obtain⟨z,a,n,r,e⟩:=I.aI p _ h
 simp_all
def Inv.lstUpd{H}{s}{ys}{d a:hE}(I:Inv X aa σ H s)(h:H p=some (.lst xs))
  (o:s.heap.get? p=some {cls:=.type iB,data:=.seq d.toArray n}) (j:f {cls:=.type iB,data:=.seq d.toArray n}={cls:=.type iB,data:=.seq a.toArray i}) (r:Vals ys a) (hz:ys.length<=sizeLine) (t):
  Inv X aa σ (upd H p (.lst ys)) {s with heap:=s.heap.update p f,toks:=t}:=by
 have e:(s.heap.update p f).get? p=some {cls:=.type iB,data:=.seq a.toArray i}:=by
  rw[Zu f o (by rw[j]<;>rfl),j]
 refine I.write (by rw[h];trivial) (.inl zJ) (λb u l q=>(Zx _ _ (Ne.symm l)).trans q) ⟨_,e⟩ ?_;exact⟨hz,a,i,r,e⟩
def XM:V->V->V->Hp->(Hp->Prop)->Prop:=λo i v H Q=>∃p xs k j,o=.ref p/\i=.int k/\H p=some (.lst xs)/\fc xs.length k=some j/\Q (upd H p (.lst (xs.set j v)))
def Fy:XD X XM:=by
 rintro aa s σ H o i v ov iv u Q I ro ri rv ⟨p,xs,k,j,rfl,rfl,hp,hj,q⟩;cases ro;obtain⟨t,rfl⟩:=ri;obtain⟨ac,n,r,ho,hz⟩:=I.lst hp;obtain⟨h1,h2,h3,h4⟩:=Ow hj;have hl:=r.length;have hn:=G6
 have I':=
  I.lstUpd hp ho (Nt ac n j u) (r.set rv j) (by simp_all) s.toks
 by_cases h0:0<=k
 ·have hk:k.toNat=j:=by
   rw[seqIndex_of h0 h4]at h1;exact Option.some.inj h1
  exact W.ki_setAt ho h0 (by lia) (by simp_all) (by grind)
 ·have hk:(k+ac.toArray.size).toNat=j:=by
   rw[seqIndex_neg (by lia) h3]at h1;rw[size_toArray,←hl];exact Option.some.inj h1
  exact W.ki_setBack ho (by lia) (by simp_all) (by lia) (by grind)
noncomputable def Fz:V->Bool
 |.aO=>true
 |.bl _=>true
 |.int _=>true
 |.str _=>true
 |_=>false
noncomputable def gu:V->V->Bool
 |.aO,.aO=>true
 |.bl a,.bl b=>a==b
 |.bl a,.int b=>(if a then 1 else 0)==b
 |.int a,.bl b=>a==(if b then 1 else 0)
 |.int a,.int b=>a==b
 |.str a,.str b=>a==b
 |_,_=>false
def Vq(i:RelV y u)(d:RelV x v)(j:Fz y=true)(h:Fz x=true):SeqAt.EqAt A s u v (gu y x):=by
 cases y with
 |aO=>
  cases i;cases x with
  |aO=>cases d;exact SeqAt.EqAt.same _
  |bl b=>cases d;exact SeqAt.EqAt.none_bool b
  |int b=>obtain⟨t,rfl⟩:=d;exact SeqAt.EqAt.none_int b t
  |str b=>obtain⟨t,rfl⟩:=d;exact SeqAt.EqAt.none_str b t
  |_=>exact absurd (h) Bool.false_ne_true
 |bl a=>
  cases i;cases x with
  |aO=>cases d;exact SeqAt.EqAt.bool_none a
  |bl b=>cases d;exact SeqAt.EqAt.bool_bool a b
  |int b=>obtain⟨t,rfl⟩:=d;exact SeqAt.EqAt.bool_int a b t
  |str b=>obtain⟨t,rfl⟩:=d;exact SeqAt.EqAt.bool_str a b t
  |_=>exact absurd (h) Bool.false_ne_true
 |int a=>
  obtain⟨e,rfl⟩:=i;cases x with
  |aO=>cases d;exact SeqAt.EqAt.int_none a e
  |bl b=>cases d;exact SeqAt.EqAt.int_bool a e b
  |int b=>obtain⟨t,rfl⟩:=d;exact SeqAt.EqAt.int_int a e b t
  |str b=>obtain⟨t,rfl⟩:=d;exact SeqAt.EqAt.int_str a e b t
  |_=>exact absurd (h) Bool.false_ne_true
 |str a=>
  obtain⟨e,rfl⟩:=i;cases x with
  |aO=>cases d;exact SeqAt.EqAt.str_none a e
  |bl b=>cases d;exact SeqAt.EqAt.str_bool a e b
  |int b=>obtain⟨t,rfl⟩:=d;exact SeqAt.EqAt.str_int a e b t
  |str b=>obtain⟨t,rfl⟩:=d;exact SeqAt.EqAt.str_str a e b t
  |_=>exact absurd (h) Bool.false_ne_true
 |_=>exact absurd (j) Bool.false_ne_true
def fb(x:V)(u:Value):Bool:=match u with
 |.none=>gu .aO x
 |.bool b=>gu (.bl b) x
 |.int i _=>gu (.int i) x
 |.str z _=>gu (.str z) x
 |_=>false
def Ra(r:RelV y u)(f:Fz y=true):fb x u=gu y x:=by
 cases y with
 |aO=>cases r;rfl
 |bl b=>cases r;rfl
 |int i=>obtain⟨t,rfl⟩:=r;rfl
 |str z=>obtain⟨t,rfl⟩:=r;rfl
 |_=>trivial
def F3:∀{xs}{a},Vals xs a->xs.all Fz=true->a.any (fb x)=xs.any λy=>gu y x
 |_,_,.nil,_=>rfl
 |y::xs,u::a,.cons r t,f=>by
  rw[List.all_cons,Bool.and_eq_true]at f;rw[any_cons,any_cons,Ra r f.1,F3 t f.2]
def EM(h:RelV x v)(e:Fz x=true):∀{xs}{d},Vals xs d->xs.all Fz=true->∀u∈d,SeqAt.EqAt A s u v (fb x u)
 |_,_,.nil,_=>λu a=>by cases a
 |y::xs,u::d,.cons r t,f=>λi a=>by
  rw[List.all_cons,Bool.and_eq_true]at f;rcases mem_cons.mp a with rfl|a
  ·rw[Ra r f.1];exact Vq r h f.1 e
  ·exact EM h e t f.2 i a
def dz(x:V)(xs:hK):Bool:=xs.any λy=>gu y x
def rIn(ω:FG)(neg:Bool):R2:=λx y H Q=>∃p xs,y=.ref p/\(aH ω H p xs\/aP ω H p xs)/\Fz x=true/\xs.all Fz=true/\Q (.bl (if neg then !dz x xs else dz x xs)) H
def Er:cy X (compareOp .In) (rIn X.K false):=by
 rintro i s t H x y v u Q I e l ⟨p,z,rfl,d,h,fs,q⟩;cases l;rcases d with d|d
 ·obtain⟨a,r,pl,j⟩:=I.list d;refine SeqAt.in_listAt (fb x) pl.isList (λw o=>EM e h r fs w (by simp_all)) ⟨.bl _,H,I,zJ,?_⟩
  rwa[show a.toArray.any (fb x)=a.any (fb x) by simp,F3 r fs]
 ·obtain⟨a,r,pl,j⟩:=I.tuple d;refine SeqAt.in_tupleAt (fb x) pl (λw o=>EM e h r fs w (by simp_all)) ⟨.bl _,H,I,zJ,?_⟩
  rwa[show a.toArray.any (fb x)=a.any (fb x) by simp,F3 r fs]
def Ks:cy X (compareOp .NotIn) (rIn X.K true):=by
 rintro i s t H x y v u Q I e l ⟨p,z,rfl,d,h,fs,q⟩;cases l;rcases d with d|d
 ·obtain⟨a,r,pl,j⟩:=I.list d;refine SeqAt.notIn_listAt (fb x) pl.isList (λw o=>EM e h r fs w (by simp_all)) ⟨.bl _,H,I,zJ,?_⟩
  rwa[show a.toArray.any (fb x)=a.any (fb x) by simp,F3 r fs]
 ·obtain⟨a,r,pl,j⟩:=I.tuple d;refine SeqAt.notIn_tupleAt (fb x) pl (λw o=>EM e h r fs w (by simp_all)) ⟨.bl _,H,I,zJ,?_⟩
  rwa[show a.toArray.any (fb x)=a.any (fb x) by simp,F3 r fs]
def F4:aT X (.builtin "len") (λxs H Q=>∃p ys,xs=[.ref p]/\(aH X.K H p ys\/aP X.K H p ys)/\Q (.int ys.length) H):=by
 rintro aa s σ H xs us Q I r ⟨p,ys,rfl,hq,q⟩;obtain⟨u,rfl,rx⟩:=BY r;cases rx;have hn:=G6;rcases hq with hq|hq
 ·obtain⟨ac,r',pl,hz⟩:=I.list hq;have bg:=r'.length;exact Calls.call_len_list pl.isList (by grind) ⟨.int ys.length,H,I.tok _,⟨s.toks+1,by simp_all⟩,q⟩
 ·obtain⟨ac,r',pl,hz⟩:=I.tuple hq;have bg:=r'.length;exact len_tuple pl (by grind) ⟨.int ys.length,H,I.tok _,⟨s.toks+1,by simp_all⟩,q⟩
def A4:aT X (.builtin "len") (λxs H Q=>∃z,xs=[.str z]/\z.length<=sizeLine/\Q (.int z.length) H):=by
 rintro aa s σ H xs us Q I r ⟨z,rfl,hz,q⟩;obtain⟨u,rfl,t,rfl⟩:=BY r;have hn:=G6;exact len_str (by lia) ⟨.int z.length,H,I.tok _,⟨_,zJ⟩,q⟩
def aT.or(h:aT X f r)(h':aT X f r'):aT X f (λxs H Q=>r xs H Q\/r' xs H Q):=by
 intro a s d H xs i Q I e q;rcases q with q|q
 ·exact h a s d H xs i Q I e q
 ·exact h' a s d H xs i Q I e q
def E8:aT X (.type iF) (λxs H Q=>∃p ys,xs=[.ref p]/\((aH X.K H p ys/\∀l,H l=none->Q (.ref l) (upd H l (.tup ys)))\/(aP X.K H p ys/\Q (.ref p) H))):=by
 rintro x s C H xs B Q I r ⟨p,ys,rfl,h⟩;obtain⟨u,rfl,z⟩:=BY r;cases z;rcases h with⟨i,q⟩|⟨i,q⟩
 ·obtain⟨a,d,pl,j⟩:=I.list i;have v:=d.length;refine call_tuple_list pl.isList (λy kp=>?_) (by simp_all);have t:=I.kept (t':=s.toks) kp
  have A:=
   t.laid (t':=s.toks) (λb o e=>Zy _ e) (zV _) (show bD X.prog X.w _ _ _ (.tup ys)from⟨j,a,d,IsTup.new _ _⟩)
  exact⟨.ref y.objs.size,_,A,zJ,q _ (t.aI.fresh (zV _))⟩
 ·obtain⟨a,d,pl,j⟩:=I.tuple i;exact call_tuple_same pl ⟨.ref p,H,I,zJ,q⟩
def tyV(ω:FG)(T:String)(x:V)(H:Hp):Prop:=match x with
 |.str _=>T=md
 |.int _=>T=lM
 |.ref p=>(T=iB /\ ∃xs,aH ω H p xs)\/(T=iF /\ ∃o,ω.lookup p=some o/\o.cls=.type iF /\ o.dict=none) \/
   (T=iT /\ ((∃kvs,H p=some (.dK kvs))\/∃kvs,H p=some (.dT kvs)))\/(T=me /\ ∃S n,H p=some (.set S n))
 |_=>False
def Rb(I:Inv X aa σ H s)(r:RelV x v)(ty:tyV X.K T x H):
  s.TypeIs v T/\∀a,v=.ref a->∃u,s.heap.get? a=some u/\u.dict=none:=by
 cases x with
 |str z=>
  obtain⟨t,rfl⟩:=r;cases (ty);exact⟨typeIs_str s z t,λ_ e=>nomatch e⟩
 |int i=>
  obtain⟨t,rfl⟩:=r;cases (ty);exact⟨typeIs_int s i t,λ_ e=>nomatch e⟩
 |ref p=>
  cases r;rcases ty with⟨rfl,C,A⟩|⟨rfl,o,d,B,q⟩|⟨rfl,d⟩|⟨rfl,S,n,d⟩
  ·obtain⟨y,_,pl,_⟩:=I.list A;refine⟨pl.isList.typeIs,λa e=>?_⟩;cases e;obtain⟨o,n,e,c,q,_⟩:=pl
   simp_all
  ·refine⟨⟨o,I.cp p o d,B⟩,λa e=>?_⟩;cases e;exact⟨o,I.cp _ o d,q⟩
  ·have z:∃o,s.heap.get? p=some o/\o.ExactDict:=by
    rcases d with⟨j,d⟩|⟨j,d⟩
    ·obtain⟨_,_,_,_,o,_,_,e,h,_⟩:=I.aI p _ d
     simp_all
    ·obtain⟨_,_,_,_,o,_,_,e,h,_⟩:=I.aI p _ d
     simp_all
   obtain⟨o,e,h⟩:=z;refine⟨⟨o,e,h.1⟩,λa l=>?_⟩;cases l;exact⟨o,e,h.2.1⟩
  ·obtain⟨o,_,_,_,e,h,_⟩:=I.aI p _ d;refine⟨⟨o,e,h.1⟩,λa l=>?_⟩;cases l;exact⟨o,e,h.2.1⟩
 |_=>trivial
def Yw(ω:FG)(T:String)(r:V->hK->Hp->VK->Prop)(to:TE):TE:=λσ H Q=>to σ H λx H1=>tyV ω T x H1/\r x [] H1 Q
def tBM(ω:FG)(T:String)(r:V->hK->Hp->VK->Prop)(to:TE)(t:TA):TE:=λσ H Q=>to σ H λx H1=>tyV ω T x H1/\t σ H1 λxs H2=>r x xs H2 Q
def EO{X}{o}{to}{a}{d e}{T id}{r}(F:PlainAttrs T)(p:Slot T a id)(q:typeOf (.builtin id)=pure (.type kb))(A:MtR X id r)(E:PE X o to)
  (j:attributeBase o a X.env (eval o X.env)=eval o X.env:=by rfl) (l:(d.endLine==e.line)=true:=by rfl):PE X (.Call (.Attribute o a d) [] [] e) (Yw X.K T r to):=by
 intro i s t H Q I h;refine wpAny_Call_method0_late j l (aL (E i s t H _ I h) λv B w=>?_);obtain⟨x,D,y,u,ty,q1⟩:=w;obtain⟨C,z⟩:=Rb y u ty;exact⟨T,id,F,p,q,C,z,Calls.callWith_builtin zJ (PySem.evalArgs_none (A i B t D x [] v [] Q y u .nil q1))⟩
def Bn{X}{e}{o}{q}{to}{t}{i}{j a}{T id}{r}(pa:PlainAttrs T)(u:Slot T i id)(A:typeOf (.builtin id)=pure (.type kb))(L:MtR X id r)(U:PE X o to)(F:PA X (e::q) t)
  (l:attributeBase o i X.env (eval o X.env)=eval o X.env:=by rfl)
  (y:((backTo a (starEach (e::q) X.env)).all (λx=>!x.1)&&(backToKw a (keywordEach [] X.env)).all (λx=>x.1.isSome)
   && decide ((e::q).length+([]:List Keyword).length+(if ([]:List Keyword).isEmpty then 0 else 1)<30))=true:=by rfl)
  (p:(j.endLine==a.line)=true:=by rfl) (hs:et X e q:=by rfl) (z:(backTo a (starEach q X.env)).any (·.1)=false:=by rfl):
  PE X (.Call (.Attribute o i j) (e::q) [] a) (tBM X.K T r to t):=by
 intro d s B H Q I h;refine wpAny_Call_method_late l y p zJ (aL (U d s B H _ I h) λv M w=>?_);obtain⟨x,S,E,D,ty,q1⟩:=w;obtain⟨O,G⟩:=Rb E D ty;refine⟨T,id,pa,u,A,O,G,?_⟩;have C:=F a d M B S _ E q1;rw[hs]at C ⊢;refine Calls.callWith_builtin (by assumption) (Calls.evalArgs_plain ?_);exact aL C λN s2 k=>by obtain⟨R,Z,Y,J,q2⟩:=k;exact L d s2 B Z x R v N Q Y D J q2
end
def MtM(X:Cx)(id:String)(r:V->hK->Hp->VK->Prop):Prop:=
 ∀aa s(σ:St)H x xs v us Q,Inv X aa σ H s->RelV x v->Vals xs us->r x xs H Q ->
  cn X (call (.builtin id) (v::us)) (EP X aa σ Q) X.xe s
def Vals.one:∀{x}{a},Vals [x] a->∃u,a=[u]/\RelV x u
 |_,_,.cons r .nil=>⟨_,rfl,r⟩
def Vals.zero:∀{a},Vals [] a->a=[]
 |_,.nil=>rfl
def Vals.dropLast(h:Vals xs us):Vals xs.dropLast us.dropLast:=by
 induction h with
 |nil=>exact .nil
 |cons r t a=>
  cases t with
  |nil=>exact .nil
  |cons q d=>exact .cons r a
section
def Inv.lset{H}{s}{ys}{d a:hE}{f}(I:Inv X aa σ H s)(h:H l=some (.lst xs))
  (e:s.heap.get? l=some {cls:=.type iB,data:=.seq d.toArray n}) (p:f d.toArray=a.toArray) (o:Vals ys a) (hz:ys.length<=sizeLine):
  Inv X aa σ (upd H l (.lst ys)) {s with heap:=s.heap.update l (Obj.mapSeq f),toks:=t'}:=by
 have q:=PySem.IsL.update e f;rw[p]at q;refine I.write (by rw[h];exact trivial) (.inl zJ) (λr u j i=>(Zx s.heap (Obj.mapSeq f) (Ne.symm j)).trans i) ⟨_,q⟩ ?_;exact⟨hz,a,_,o,q⟩
def Inv.lnew(I:Inv X aa σ H s)(d:Vals ys a)(hz:ys.length<=sizeLine):
  Inv X aa σ (upd H s.heap.objs.size (.lst ys)) {s with heap:=s.heap.push {cls:=.type iB,data:=.seq a.toArray},toks:=t'}:=
 I.laid (λ_ _ q=>Zy _ q) (zV _) ⟨hz,a,0,d,Zo _ rfl⟩
def Inv.fresh(I:Inv X aa σ H s):H s.heap.objs.size=none:=I.aI.fresh (zV _)
def Inv.lstM(I:Inv X aa σ H s)(d:H l=some (.lst xs)):xs.length<=sizeLine/\∃(a:hE)(n:Nat),Vals xs a/\xs.length=a.length/\s.heap.get? l=some {cls:=.type iB,data:=.seq a.toArray n}:=by
 obtain⟨z,a,n,r,e⟩:=I.aI l _ d;exact⟨z,a,n,r,r.length,e⟩
end
section
def Tv:V->hK->Hp->VK->Prop:=λx vs H Q=>∃l xs y,x=.ref l/\vs=[y]/\H l=some (.lst xs)/\xs.length<sizeLine/\Q .aO (upd H l (.lst (xs++[y])))
def Au:MtM X "list.append" Tv:=by
 rintro h s B H x A v t Q I o i ⟨l,D,y,rfl,rfl,d,p,q⟩;cases o;obtain⟨u,rfl,j⟩:=i.one;obtain⟨z,a,n,r,C,e⟩:=I.lstM d;refine call_meets F.slot_list_append ⟨_,e,zJ⟩ F.entry_list_append (F.args_list_append_2 _ _) (PySem.list_append l a.toArray n u (by simp_all)) ⟨e,?_⟩;refine⟨.aO,_,I.lset d e (by simp) (r.append (.cons j .nil)) ?_,zJ,q⟩
 grind
def Yx:V->hK->Hp->VK->Prop:=λx vs H Q=>∃l xs y,x=.ref l/\vs=[]/\H l=some (.lst xs)/\xs[xs.length-1]?=some y/\Q y (upd H l (.lst xs.dropLast))
def FK:MtM X "list.pop" Yx:=by
 rintro j s G H x E v D Q I B o ⟨l,J,y,rfl,rfl,i,p,q⟩;cases B;have d:=o.zero;subst d;obtain⟨z,a,n,r,t,e⟩:=I.lstM i;obtain⟨u,C,A⟩:=r.get p
 have h:a.toArray[a.toArray.size-1]?=some u:=by
  show a.toArray[a.length-1]?=some u
  rwa[←Array.getElem?_toList,←t]
 refine call_meets F.slot_list_pop ⟨_,e,zJ⟩ F.entry_list_pop (F.args_list_pop_1 _) (MeetsSeq.list_pop_last l a.toArray n u h (by simp_all)) ⟨e,?_⟩;refine⟨y,_,I.lset i e ?_ r.dropLast ?_,A,q⟩
 ·simp_all
 grind
def Yy:R2:=λx y H Q=>∃l b xs zs,x=.ref l/\y=.ref b/\H l=some (.lst xs)/\H b=some (.lst zs)/\xs.length+zs.length<=sizeLine/\∀p,H p=none->Q (.ref p) (upd H p (.lst (xs++zs)))
def Ig:cy X (binaryOp .Add) Yy:=by
 rintro h s J H x y v u Q I B p ⟨l,b,M,F,rfl,rfl,C,o,D,q⟩;cases B;cases p;obtain⟨z,d,n,r,L,e⟩:=I.lstM C;obtain⟨E,a,G,j,t,i⟩:=I.lstM o;refine PySem.P.add_list e i ?_ (by simp_all);have A:d.toArray++a.toArray=(d++a).toArray:=by simp
 rw[A];exact⟨.ref _,_,I.lnew (r.append j) (by simp_all),zJ,q _ I.fresh⟩
end
section
variable {κ:Type} [DecidableEq κ]
noncomputable def Am(kvs:List (κ×V))(k:κ):Option V:=(kvs.find? λkv=>decide (kv.1=k)).map (·.2)
noncomputable def Ba(kvs:List (κ×V))(k:κ)(v:V):List (κ×V):=
 if (kvs.any λkv=>decide (kv.1=k))=true then kvs.map (λkv=>if kv.1=k then (kv.1,v)else kv)else kvs++[(k,v)]
noncomputable def Bo(kvs:List (κ×V))(k:κ):List (κ×V):=kvs.filter λkv=>decide (kv.1≠k)
def Lu{k}:Am ([]:List (κ×V)) k=none:=rfl
def BA{p}{r}{k:κ}(e:p.1=k):Am (p::r) k=some p.2:=by simp[Am,e]
def A6{p}{r}{k:κ}(e:¬ p.1=k):Am (p::r) k=Am r k:=by simp[Am,e]
def Cy(k:κ):∀kvs,(kvs.any λa=>decide (a.1=k))=(Am kvs k).isSome
 | []=>rfl
 |p::r=>by
  rw[any_cons];by_cases e:p.1=k
  ·simp[BA e,Zm e,Bool.true_or,Option.isSome_some]
  ·rw[A6 e,Zp e];exact Cy k r
def Lv(k j:κ)(y):∀kvs,Am (kvs.map λa=>if a.1=k then (a.1,y)else a) j=(Am kvs j).map λx=>if j=k then y else x
 | []=>rfl
 |p::r=>by
  have d:=Lv k j y r;rw[map_cons];by_cases h:p.1=k
  ·rw[zM h];by_cases e:p.1=j
   ·rw[BA (p:=(p.1,y)) e,BA e,Option.map_some,zM (e.symm.trans h)]
   ·rw[A6 (p:=(p.1,y)) e,A6 e,d]
  ·rw[zN h];by_cases e:p.1=j
   ·rw[BA e,BA e,Option.map_some,zN (λz=>h (e.trans z))]
   ·rw[A6 e,A6 e,d]
def J4(k j:κ)(y):∀kvs,Am kvs k=none->Am (kvs++[(k,y)]) j=if j=k then some y else Am kvs j
 | [],_=>by
  by_cases e:k=j
  ·rw[zM e.symm];exact BA e
  ·rw[zN (λz=>e z.symm)];exact A6 e
 |p::r,hn=>by
  rw[List.cons_append];have a:¬ p.1=k:=λz=>by rw[BA z]at hn;cases hn
  rw[A6 a]at hn;by_cases e:p.1=j
  ·rw[BA e,BA e,zN (λz=>a (e.trans z))]
  ·rw[A6 e,A6 e,J4 k j y r hn]
def Ih(kvs)(k j:κ)(y):Am (Ba kvs k y) j=if j=k then some y else Am kvs j:=by
 unfold Ba;by_cases a:(kvs.any λd=>decide (d.1=k))=true
 ·rw[zM a,Lv];rw[Cy]at a;by_cases e:j=k
  ·obtain⟨x,h⟩:=Option.isSome_iff_exists.mp a
   simp_all
  simp_all
 ·rw[zN a];apply J4 k j y kvs;rw[Cy]at a
  simp_all
def CY(kvs)(k:κ)(v):(Ba kvs k v).length<=kvs.length+1:=by
 unfold Ba
 grind
def F6{kvs}{k:κ}(v)(h:Am kvs k=none):Ba kvs k v=kvs++[(k,v)]:=by
 unfold Ba;rw[Cy,h];rfl
def cG.isSome_eq(r:cG o u):o.isSome=u.isSome:=by
 cases o with
 |none=>cases u with
  |none=>rfl
  |some _=>trivial
 |some _=>cases u with
  |none=>trivial
  |some _=>rfl
def cG.getD(r:cG o u)(rd:RelV d d'):RelV (o.getD d) (u.getD d'):=by
 cases o with
 |none=>cases u with
  |none=>exact rd
  |some _=>exact(r).elim
 |some _=>cases u with
  |none=>exact(r).elim
  |some _=>exact r
def KV.val{kvs}{vs}(r:KV kvs vs)(k:κ):cG (Am kvs k) (valueAt vs k):=by
 induction r with
 |nil=>exact True.intro
 | @cons p q o d h t l=>
  obtain⟨i,j⟩:=h;by_cases e:p.1=k
  ·have a:=i.symm.trans e;have b:valueAt (q::d) k=some q.2:=by simp[valueAt,a]
   rwa[BA e,b]
  ·have a:¬ q.1=k:=λz=>e (i.trans z);have b:valueAt (q::d) k=valueAt d k:=by simp[valueAt,a]
   rwa[A6 e,b]
def KV.any{kvs}{vs}(r:KV kvs vs)(k:κ):(kvs.any λa=>decide (a.1=k))=vs.any λa=>decide (a.1=k):=by
 induction r with
 |nil=>rfl
 |cons h t d=>simp_all
def KV.repl{kvs}{vs}(r:KV kvs vs)(k:κ)(e:RelV y u):
  KV (kvs.map λa=>if a.1=k then (a.1,y)else a) (vs.map λa=>if a.1=k then (a.1,u)else a):=by
 induction r with
 |nil=>exact .nil
 | @cons p q i j h t d=>
  refine .cons ?_ d
  lia
def KV.put{kvs}{vs}(r:KV kvs vs)(k:κ)(a:RelV y u):KV (Ba kvs k y) (stored vs k u):=by
 unfold Ba stored;rw[r.any k];by_cases e:(vs.any λd=>decide (d.1=k))=true
 ·rw[zM e,zM e];exact r.repl k a
 ·rw[zN e,zN e];exact Paired.snoc r ⟨zJ,a⟩
def KV.drop{kvs}{vs}(r:KV kvs vs)(k:κ):KV (Bo kvs k) (without vs k):=by
 unfold Bo without;induction r with
 |nil=>exact .nil
 | @cons p q o u h t l=>
  obtain⟨d,j⟩:=h;rw[filter_cons,filter_cons];by_cases e:p.1=k
  ·have a:¬ decide (p.1≠k)=true:=by simp[e]
   have b:¬ decide (q.1≠k)=true:=by simp[d.symm.trans e]
   rwa[zN a,zN b]
  ·have i:¬ q.1=k:=λz=>e (d.trans z);rw[zM (by simp[e]),zM (by simp[i])];exact .cons ⟨d,j⟩ l
def KV.length{kvs:List (κ×V)}{vs}(r:KV kvs vs):kvs.length=vs.length:=Paired.length r
def Rc(kvs)(k:κ):(Bo kvs k).length<=kvs.length:=length_filter_le _ _
end
def EQ(r:RelV (kV k) u):(Ac P w).is k u=true:=by
 cases k with
 |inl i=>obtain⟨t,e⟩:=(r);subst e;exact Lh P w i t
 |inr x=>obtain⟨t,e⟩:=(r);subst e;exact EG P w x t
def J5:∀{a}{d},Vals (a.map kV) d->ItemsAre (Ac P w) a d
 | [],_,r=>by rw[List.map_nil]at r;cases r;exact .nil
 |k::a,_,r=>by
  cases r with
  |cons h t=>exact .cons (EQ h) (J5 t)
abbrev KT(H:Hp):List (List Key×V)->List (List Key×hO×Value)->Prop:=Paired λp q=>p.1=q.1/\H q.2.1=some (.tup (p.1.map kV))/\RelV p.2 q.2.2
def KT.val(r:KT H kvs xs)(k):cG (Am kvs k) ((atKey xs k).map (·.2)):=by
 induction r with
 |nil=>exact True.intro
 | @cons p q o d h t j=>
  obtain⟨i,_,l⟩:=h;by_cases e:p.1=k
  ·have a:=i.symm.trans e;have b:atKey (q::d) k=some q.2:=by simp[atKey,a]
   rwa[BA e,b]
  ·have a:¬ q.1=k:=λz=>e (i.trans z);have b:atKey (q::d) k=atKey d k:=by simp[atKey,a]
   rwa[A6 e,b]
def KT.repl(r:KT H kvs xs)(k)(l:RelV y u):
  KT H (kvs.map λa=>if a.1=k then (a.1,y)else a) (xs.map (putAt k u)):=by
 induction r with
 |nil=>exact .nil
 | @cons p q o v h t d=>
  refine .cons ?_ d;obtain⟨e,i,j⟩:=h;unfold putAt
  lia
def KT.put(r:KT H kvs xs)(k)(d:H b=some (.tup (k.map kV)))(a:RelV y u):
  KT H (Ba kvs k y) (storedH xs k b u):=by
 have e:(kvs.any λh=>decide (h.1=k))=(atKey xs k).isSome:=by
  rw[Cy,(r.val k).isSome_eq,Option.isSome_map]
 unfold Ba storedH;rw[e];by_cases q:(atKey xs k).isSome=true
 ·rw[zM q,zM q];exact r.repl k a
 ·rw[zN q,zN q];exact Paired.snoc r ⟨zJ,d,a⟩
def KT.keeps(r:KT H kvs xs)(ht:∀b ys,H b=some (.tup ys)->H' b=some (.tup ys)):KT H' kvs xs:=
 Paired.mapP r λ_ _ z=>⟨z.1,ht _ _ z.2.1,z.2.2⟩
section
def VF(ok:cD P w H h)(e:Rd H a u):bD P w H h a u:=e.ok ok
def CZ(ok:cD P w H h)(e:Rd H a (.dK kvs)):kvs.length<=sizeLine/\(a==sysModules)=false/\∃vs,KV kvs vs/\h.DictOf (Ac P w) a vs:=
 show bD P w H h a (.dK kvs)from VF ok e
def Oy(ok:cD P w H h)(e:H a=some (.dK kvs)):kvs.length<=sizeLine/\(a==sysModules)=false/\∃vs,KV kvs vs/\h.DictOf (Ac P w) a vs:=CZ ok (.inl e)
def HA(ok:cD P w H h)(e:H a=some (.tup (ks.map kV))):(tupleKind (Ac P w)).is h ks a:=by
 obtain⟨_,d,r,o,i,j,n,l⟩:=(ok a _ e);exact⟨o,d.toArray,n,i,j,l,by simpa using J5 r⟩
def Ii(ok:cD P w H h)(e:Rd H a (.dT kvs)):kvs.length<=sizeLine/\(a==sysModules)=false /\
  ∃xs,KT H kvs xs/\h.DictOfH (tupleKind (Ac P w)) a xs:=by
 obtain⟨z,y,xs,r,o,C,ep,u,i,j,A,B⟩:=(VF ok e);refine⟨z,y,xs,r,o,C,ep,u,i,j,A,λx d=>?_,B⟩
 have all:∀{l:List (List Key×V)}{m:List (List Key×hO×Value)},KT H l m->∀x∈m,(tupleKind (Ac P w)).is h x.1 x.2.1:=by
  intro l m q;induction q with
  |nil=>simp_all
  | @cons p q D E F t v=>
   intro x d;rcases mem_cons.mp d with e|d
   ·subst e;exact HA ok (by simp_all)
   ·exact v x d
 exact all r x d
def XN(ok:cD P w H h)(e:H a=some (.dT kvs)):kvs.length<=sizeLine/\(a==sysModules)=false /\
  ∃xs,KT H kvs xs/\h.DictOfH (tupleKind (Ac P w)) a xs:=Ii ok (.inl e)
end
def Ku(H:Hp)(a:hO)(y:V)(r:Option V):Prop:=
 (∃kvs k,Rd H a (.dK kvs)/\y=kV k/\r=Am kvs k)\/∃kvs k b,Rd H a (.dT kvs)/\y=.ref b/\H b=some (.tup (k.map kV))/\r=Am kvs k
def eI(H:Hp)(a:hO)(y v:V)(H':Hp):Prop:=
 (∃kvs k,H a=some (.dK kvs)/\y=kV k/\kvs.length<sizeLine/\H'=upd H a (.dK (Ba kvs k v))) \/
 ∃kvs k b,H a=some (.dT kvs)/\y=.ref b/\H b=some (.tup (k.map kV))/\kvs.length<sizeLine/\H'=upd H a (.dT (Ba kvs k v))
def eI.k{H:Hp}{a}{kvs}{k}{v}(e:H a=some (.dK kvs))(d:kvs.length<sizeLine):eI H a (kV k) v (upd H a (.dK (Ba kvs k v))):=.inl ⟨kvs,k,e,rfl,d,rfl⟩
section
def Inv.big(I:Inv X aa σ H s):sysModules<s.heap.objs.size:=by
 exact Nat.lt_trans qc ((I.mod.glob.keeps I.bk).lt)
def P5(F:A.units+1<cLine)(I:Inv X aa σ H s)(g:Ku H a y (some v))(C:RelV y u)(h:∀j B,Inv X aa σ H B->RelV v j->Q j B):
  wpAny (model X.prog X.w) A (getItem (.ref a) u) Q E s:=by
 rcases g with⟨q,k,e,x,l⟩|⟨q,k,b,e,x,J,l⟩
 ·subst x;obtain⟨z,G,L,d,r⟩:=CZ I.aI e;obtain⟨j,t,i⟩:=cG.some_of (by rw[l];exact d.val k);exact wpAny_getItem_of (EQ C) r.mapOf t (h j _ (I.tok _) i)
 ·subst x;cases (C);obtain⟨z,G,M,d,r⟩:=Ii I.aI e;obtain⟨j,t,i⟩:=cG.some_of (by rw[l];exact d.val k);obtain⟨p,D,o⟩:=Z6.mp t;apply wpAny_getItem_heap (tupleKind_room_in1 F) (HA I.aI J) r D;rw[o];exact h j _ (I.tok _) i
def Yz(x:A.units+1<cLine)(I:Inv X aa σ H s)(g:Ku H a y o)(t:RelV y u)(h:∀v,Inv X aa σ H v->Q (.bool o.isSome) v):
  wpAny (model X.prog X.w) A (compareOp .In u (.ref a)) Q E s:=by
 rcases g with⟨i,k,e,r,l⟩|⟨i,k,b,e,r,B,l⟩
 ·subst r;obtain⟨z,j,C,d,p⟩:=CZ I.aI e;apply wpAny_in_of (EQ t) j p.mapOf;rw[←(d.val k).isSome_eq,←l];exact h _ (I.tok _)
 ·subst r;cases (t);obtain⟨z,j,D,d,p⟩:=Ii I.aI e;apply wpAny_in_heap (tupleKind_room_in1 x) (HA I.aI B) j p;have q:=(d.val k).isSome_eq;rw[Option.isSome_map]at q;rw[←q,←l];exact h _ (I.tok _)
def Tw(x:A.units+1<cLine)(I:Inv X aa σ H s)(g:Ku H a y o)(t:RelV y u)(h:∀v,Inv X aa σ H v->Q (.bool (!o.isSome)) v):
  wpAny (model X.prog X.w) A (compareOp .NotIn u (.ref a)) Q E s:=by
 rcases g with⟨i,k,e,r,l⟩|⟨i,k,b,e,r,B,l⟩
 ·subst r;obtain⟨z,j,C,d,p⟩:=CZ I.aI e;apply wpAny_notIn_of (EQ t) j p.mapOf;rw[←(d.val k).isSome_eq,←l];exact h _ (I.tok _)
 ·subst r;cases (t);obtain⟨z,j,D,d,p⟩:=Ii I.aI e;apply wpAny_notIn_heap (tupleKind_room_in1 x) (HA I.aI B) j p;have q:=(d.val k).isSome_eq;rw[Option.isSome_map]at q;rw[←q,←l];exact h _ (I.tok _)
def F7(I:Inv X aa σ H s)(e:Mut (H a))(hs:Heap.SameBut a s.heap h')(i:∃q,h'.get? a=some q)(new:bD X.prog X.w (upd H a d) h' a d):
  Inv X aa σ (upd H a d) {s with heap:=h',toks:=t'}:=
 I.write e (.inl rfl) (λb q h z=>(hs.2 b h).trans z) i new
def HB(z:kvs.length<=sizeLine)(h:(a==sysModules)=false)(d:KV kvs vs)(e:h'.DictOf (Ac P w) a vs):
  bD P w H' h' a (.dK kvs):=⟨z,h,vs,d,e⟩
def P6(S:A.units+1<cLine)(I:Inv X aa σ H s)(g:eI H a y v H')(L:RelV y u)(F:RelV v r)(h:∀J,Inv X aa σ H' J->Q () J):
  wpAny (model X.prog X.w) A (setItem (.ref a) u r) Q E s:=by
 rcases g with⟨d,k,e,D,l,t⟩|⟨d,k,b,e,D,M,l,t⟩
 ·subst D t;obtain⟨z,p,U,i,x⟩:=Oy I.aI e;have O:U.length<=sizeLine:=by rwa[←i.length]
  have C:(Ba d k v).length<=sizeLine:=by have:=CY d k v;lia
  refine wpAny_setItem_pairs (EQ L) x λG j B=>h _ ?_;have he:∃q,G.get? a=some q:=let ⟨q,_,_,o,_⟩:=j;⟨q,o⟩
  exact F7 I (by rw[e];exact True.intro) B he (HB C p (i.put k F) j)
 ·subst D t;cases (L);obtain⟨z,p,xs,i,x⟩:=XN I.aI e;have O:xs.length<=sizeLine:=by rwa[←Paired.length i]
  have C:(Ba d k v).length<=sizeLine:=by have:=CY d k v;lia
  refine wpAny_setItem_heap (tupleKind_room_in1 S) (HA I.aI M) x λG j B=>h _ ?_;obtain⟨q,es,ep,o,N,R,T,_,Y⟩:=j;refine F7 I (by rw[e];exact True.intro) B ⟨q,o⟩ ⟨C,p,_,(i.put k M F).keeps λc ys Z=>?_,q,es,ep,o,N,R,T,Y⟩
  rwa[AD (Ol Z e (λz=>nomatch z))]
end
section
def XO(I:Inv X aa σ H s)(e:H a=some (.dK kvs))(p:RelV (kV k) u)(l:Am kvs k=some v)(y:more=[]\/∃x,more=[x])
  (h:∀j B,Inv X aa σ (upd H a (.dK (Bo kvs k))) B->RelV v j->Q j B):wpAny (model X.prog X.w) A (call (.builtin "dict.pop") (.ref a::u::more)) Q E s:=by
 obtain⟨z,G,J,d,C⟩:=Oy I.aI e;obtain⟨j,N,r⟩:=cG.some_of (by rw[←l];exact d.val k)
 have F:(keyPart u).isSome=true:=by
  cases k with
  |inl i=>obtain⟨t,q⟩:=(p);subst q;rfl
  |inr x=>obtain⟨t,q⟩:=(p);subst q;rfl
 have D:argsOk "dict.pop" ⟨.ref a::u::more,[]⟩:=by
  rcases y with q|⟨x,q⟩
  ·subst q;exact args_dict_pop_2 _ _
  ·subst q;exact args_dict_pop_3 _ _ _
 refine call_meetsIn slot_dict_pop C.typeIs entry_dict_pop D (meets_dict_pop_there (Ac X.prog X.w) a (EQ p) more y F)
  ⟨J,j,C,by rw[←d.length];exact z,N,λL o M=>h j _ ?_ r⟩
 have R:∃q,L.get? a=some q:=let ⟨q,_,_,O,_⟩:=o;⟨q,O⟩
 exact F7 I (by rw[e];exact True.intro) M R (HB (Nat.le_trans (Rc kvs k) z) G (d.drop k) o)
def XQ(I:Inv X aa σ H s)(e:Rd H a (.dK kvs))(h:∀t i,Inv X aa σ H i->Q (.int kvs.length t) i):wpAny (model X.prog X.w) A (call (.builtin "len") [.ref a]) Q E s:=by
 obtain⟨z,j,o,d,l⟩:=CZ I.aI e;apply call_len_dict j l (by rw[←d.length];rw[sizeLine_eq]at z;lia);rw[←d.length];exact h _ _ (I.tok _)
end
def XR(i:Expr):Prop:=∀ov iv,subscripted i false ov iv=operate [ov,iv] (getItem ov iv)
def Tx{s}{v}{w}{A}{E:VS}{prog}{env}{d a}{T id}{Q:VS}
  (y:typeLookup (.type T) "__getitem__"=pure (some (.builtin id))) (hs:XR a)
  (h:wpAny (model prog w) A (eval d env) (λo p=>wpAny (model prog w) A (eval a env) (λi e=>e.TypeIs o T/\wpAny (model prog w) A (getItem o i) Q E e) E p) E s):
  wpAny (model prog w) A (eval (.Subscript d a v) env) Q E s:=by
 refine Subscript_ (zS h (λo p t=>zS t (λi e j=>?_) λ_ _ x=>x) λ_ _ x=>x);obtain⟨z,j⟩:=j;apply zU;refine zU (wpAny_specialOf z y ?_)
 have q:wpAny (model prog w) A (subscripted a false o i) (λr l=>wpAny (model prog w) A (letTemporaryGo d o r >>= λ_=>pure r) Q E l) E e:=by
  rw[hs o i];exact wpAny_operating (zS j (λr l u=>zU (wpAny_letTemporaryGo (zT u))) λ_ _ x=>x)
 first
  |exact zT (zU q)
  |exact zU (zT (zU q))
  |exact zU q
def Lw(I:Inv X aa σ H s)(g:Ku H a y o):s.TypeIs (.ref a) iT:=by
 rcases g with⟨d,k,e,_,_⟩|⟨d,k,b,e,_,_,_⟩
 ·obtain⟨_,_,i,_,h⟩:=CZ I.aI e;exact h.typeIs
 ·obtain⟨_,_,j,_,h⟩:=Ii I.aI e;exact h.typeIs
inductive ExD(x:V)(H:Hp)(y:V)(k:V->Prop):Prop
 |mk (a) (v) (h1:x=.ref a) (h2:Ku H a y (some v)) (q:k v):ExD x H y k
def XS(td ty:TE):TE:=λσ H Q=>td σ H λx H1=>ty σ H1 λy H2=>ExD x H2 y λv=>Q v H2
def Y0(ty td:TE):TE:=λσ H Q=>ty σ H λy H1=>td σ H1 λx H2=>∃a o,x=.ref a/\Ku H2 a y o/\Q (.bl o.isSome) H2
def Ty(ty td:TE):TE:=λσ H Q=>ty σ H λy H1=>td σ H1 λx H2=>∃a o,x=.ref a/\Ku H2 a y o/\Q (.bl (!o.isSome)) H2
def XT(td ty tv:TE):TS:=λD σ H=>tv σ H λv H1=>td σ H1 λx H2=>ty σ H2 λy H3=>∃a H4,x=.ref a/\eI H3 a y v H4/\D.nx σ H4
section
def Av(p:X.A.units+1<cLine)(A:PE X o td)(B:PE X i ty)(hs:XR i):PE X (.Subscript o i pos) (XS td ty):=by
 intro d s j H Q I h;refine Tx PySem.F.slot_dict_getitem.lookup hs (aL (A d s j H _ I h) λu q ⟨x,z,C,D,q1⟩=>aL (B d q j z _ C q1) λJ L k=>?_);obtain⟨y,F,l,r,a,v,E,g,q2⟩:=k;subst E;obtain rfl:u=Value.ref a:=D;exact⟨Lw l g,P5 p l g r λG s3 t e=>⟨v,F,t,e,q2⟩⟩
def HC(j:X.A.units+1<cLine)(z:PE X i ty)(v:PE X o td):PC X .In i o (Y0 ty td):=by
 intro d s e H Q I h;refine aL (z d s e H _ I h) λF l ⟨y,t,B,q,q1⟩=>aL (v d l e t _ B q1) λu G k=>?_;obtain⟨x,E,D,A,a,p,C,g,q2⟩:=k;subst C;obtain rfl:u=Value.ref a:=A;exact Yz j D g q λs3 r=>⟨.bl p.isSome,E,r,zJ,q2⟩
def J6(j:X.A.units+1<cLine)(z:PE X i ty)(v:PE X o td):PC X .NotIn i o (Ty ty td):=by
 intro d s e H Q I h;refine aL (z d s e H _ I h) λF l ⟨y,t,B,q,q1⟩=>aL (v d l e t _ B q1) λu G k=>?_;obtain⟨x,E,D,A,a,p,C,g,q2⟩:=k;subst C;obtain rfl:u=Value.ref a:=A;exact Tw j D g q λs3 r=>⟨.bl (!p.isSome),E,r,zJ,q2⟩
def Di(l:X.A.units+1<cLine)(E:PE X o td)(F:PE X i ty)(p:PE X value tv)(hs:swapsWith value (some (.Subscript o i pos')) pos.line X.env=pure false):
  PS X (.Assign [.Subscript o i pos'] value pos) (XT td ty tv):=by
 intro d s e H D I h;refine wpAny_Assign_Subscript (aL (p d s e H _ I h) λr q ⟨v,B,J,j,q1⟩=>aL (E d q e B _ J q1) λu O ⟨x,N,M,G,q2⟩=>aL (F d O e N _ M q2) λS s3 m=>?_) hs;obtain⟨y,R,C,z,a,t,L,g,q3⟩:=m;subst L;obtain rfl:u=Value.ref a:=G;exact P6 l C g z j λQ A=>⟨e,t,A,q3⟩
end
def Lx(h:Heap)(a:sysModules<h.objs.size):bD P w H (h.push {cls:=.type iT,data:=.dict #[]}) h.objs.size (.dK []):=
 ⟨Nat.zero_le _,beq_eq_false_iff_ne.mpr (by lia),[],.nil,Heap.DictOf.new h⟩
def Vr:TE:=λ_ H Q=>∀p,H p=none->Q (.ref p) (upd H p (.dK []))
section
def Cz:PE X (.Dict [] [] pos) Vr:=λa s d H Q I h=>
 wpAny_Dict_empty ⟨.ref s.heap.objs.size,_,I.laid (λ_ _ q=>Zy _ q) (zV _) (Lx s.heap I.big),rfl,h _ (I.aI.fresh (zV _))⟩
end
def Nu:List (TE×TE)->St->Hp->(List (V×V)->Hp->Prop)->Prop
  | [],_,H,Q=>Q [] H
  | (tk,tv)::r,σ,H,Q=>tk σ H λx H1=>tv σ H1 λy H2=>Nu r σ H2 λps H3=>Q ((x,y)::ps) H3
abbrev VV:List (V×V)->List (Value×Value)->Prop:=Paired λp q=>RelV p.1 q.1/\RelV p.2 q.2
def PPs(X:Cx)(pos:Pos)(keys:List (Option Expr))(values:List Expr)(trs:List (TE×TE)):Prop:=
 ∀aa s(σ:St)H Q,Inv X aa σ H s->Nu trs σ H Q ->
  cn X (evalPairs (pairTrees keys values X.env pos)) (λvs s'=>∃ps H',Inv X aa σ H' s'/\VV ps vs/\Q ps H') X.xe s
def Oz:PPs X pos [] [] []:=λa s d H Q I h=>pairTrees_nil_walk ⟨[],H,I,.nil,h⟩
def Ca(z:PE X k tk)(j:PE X v tv)(B:PPs X pos ks vs d):
  PPs X pos (some k::ks) (v::vs) ((tk,tv)::d):=λa s i H Q I h=>
 pairTrees_cons_walk (aL (z a s i H _ I h) λu p ⟨x,r,C,A,q1⟩=>aL (j a p i r _ C q1) λJ F ⟨y,E,D,q,q2⟩=>
  aL (B a F i E _ D q2) λG s3 m=>by obtain⟨l,o,t,e,q3⟩:=m;exact ⟨(x,y)::l,o,t,.cons ⟨A,q⟩ e,q3⟩)
def Dj(kvs more:LK):LK:=more.foldl (λacc kv=>Ba acc kv.1 kv.2) kvs
def KV.merge:∀{more:LK}{a}{kvs:LK}{vs},KV more a->KV kvs vs->KV (Dj kvs more) (merged vs a):=by
 intro more a kvs vs r;induction r generalizing kvs vs with
 |nil=>intro q;exact q
 | @cons p q j l h t d=>
  intro i
  have e:KV (Ba kvs p.1 p.2) (stored vs q.1 q.2):=by
   have:=i.put p.1 h.2
   rwa[←h.1]
  exact d e
def E9:∀more kvs,(Dj kvs more).length<=kvs.length+more.length
 | [],kvs=>by show kvs.length<=kvs.length+0;lia
 |p::r,kvs=>by
  have a:=E9 r (Ba kvs p.1 p.2);have d:=CY kvs p.1 p.2;show(Dj (Ba kvs p.1 p.2) r).length<=_
  grind
def Ij:∀{kvs:LK}{e},VV (kvs.map λi=>(kV i.1,i.2)) e->∃d,Carries (Ac P w) e d/\KV kvs d
 | [],_,r=>by rw[List.map_nil]at r;cases r;exact⟨[],True.intro,.nil⟩
 |p::kvs,_,r=>by
  cases r with
  | @cons a b l bs h t=>
   obtain⟨d,c,q⟩:=Ij t;obtain⟨b1,j⟩:=b;exact⟨(p.1,j)::d,⟨EQ h.1,zJ,c⟩,.cons ⟨zJ,h.2⟩ q⟩
def XU(trs:List (TE×TE)):TE:=λσ H Q=>∀p,H p=none->Nu trs σ (upd H p (.dK [])) λps H2=>H2 p=some (.dK [])/\∃kvs,ps=kvs.map (λkv=>(kV kv.1,kv.2))/\kvs.length<=15/\Q (.ref p) (upd H2 p (.dK (Dj [] kvs)))
def O0(h:PPs X pos keys values l)(d:keys.all (·.isSome)=true)(E:keys.length=values.length)(G:keys≠ [])
  (p:keys.length<=15):PE X (.Dict keys values pos) (XU l):=by
 intro j s D H Q I q;refine wpAny_Dict_walk (knd:=Ac X.prog X.w) d E G p (aL (h j _ D _ _ (I.laid (t':=s.toks) (λ_ _ q=>Zy _ q) (zV _) (Lx s.heap I.big)) (q _ (I.aI.fresh (zV s.heap.objs.size)))) λM S w=>?_);obtain⟨O,R,r,o,e,a,ep,N,q2⟩:=w;subst ep;obtain⟨J,c,rk⟩:=Ij o;obtain⟨z,x,v,B,A⟩:=Oy r.aI e;cases B;refine⟨J,c,A,λy i C=>⟨.ref s.heap.objs.size,_,?_,zJ,q2⟩⟩
 have t:(Dj [] a).length<=sizeLine:=by
  have u:=E9 a [];rw[length_nil]at u;rw[sizeLine_eq];lia
 have L:∃q,y.get? s.heap.objs.size=some q:=let ⟨q,_,_,F,_⟩:=i;⟨q,F⟩
 exact F7 r (by rw[e];exact True.intro) C L (HB t x (rk.merge .nil) i)
structure M1(X:Cx)(o:Expr)(m:Str)(apos:Pos)(e:Expr)(dv:Pos):Prop where
 base:attributeBase o m X.env (eval o X.env)=eval o X.env
 few:((backTo dv (starEach [e] X.env)).all (λx=>!x.1)&&(backToKw dv (keywordEach [] X.env)).all (λx=>x.1.isSome)
  && decide (([e]:List Expr).length+([]:List Keyword).length+(if ([]:List Keyword).isEmpty then 0 else 1)<30))=true
 line:(apos.endLine==dv.line)=true
 trees:backTo dv (starEach [e] X.env)=[(false,eval e X.env)]
def IsD(H:Hp)(a:hO):Prop:=(∃kvs,Rd H a (.dK kvs))\/∃kvs,Rd H a (.dT kvs)
def Kv(I:Inv X aa σ H s)(d:IsD H a):
  s.TypeIs (.ref a) iT /\ (∀b,Value.ref a=.ref b->∃h,s.heap.get? b=some h/\h.dict=none)/\(a==sysModules)=false:=by
 rcases d with⟨j,e⟩|⟨j,e⟩
 ·obtain⟨_,p,r,_,i⟩:=CZ I.aI e;refine⟨i.typeIs,λb q=>?_,p⟩;cases q;obtain⟨h,_,_,l,o,_⟩:=i;exact⟨h,l,o.2.1⟩
 ·obtain⟨_,p,t,_,i⟩:=Ii I.aI e;refine⟨i.typeIs,λb q=>?_,p⟩;cases q;obtain⟨h,_,_,l,o,_⟩:=i;exact⟨h,l,o.2.1⟩
section
def Vs(x:A.units+1<cLine)(I:Inv X aa σ H s)(g:Ku H a y o)(r:RelV y u)(h:∀t v,Inv X aa σ H v->RelV (o.getD .aO) t->Q t v):
  wpAny (model X.prog X.w) A (call (.builtin "dict.get") [.ref a,u]) Q E s:=by
 rcases g with⟨j,k,e,q,l⟩|⟨j,k,b,e,q,B,l⟩
 ·subst q;obtain⟨z,p,D,d,i⟩:=CZ I.aI e;refine call_meetsIn slot_dict_get i.typeIs entry_dict_get (args_dict_get_2 _ _) (meets_dict_get (Ac X.prog X.w) a (EQ r) p) ⟨_,i.mapOf,h _ _ (I.tok _) ?_⟩;rw[l];exact(d.val k).getD rfl
 ·subst q;cases (r);obtain⟨z,p,C,d,i⟩:=Ii I.aI e;refine call_meetsIn slot_dict_get i.typeIs entry_dict_get (args_dict_get_2 _ _) (meetsH_dict_get (tupleKind (Ac X.prog X.w)) a b p) ⟨tupleKind_room_in1 x,k,C,HA I.aI B,i,h _ _ (I.tok _) ?_⟩;rw[l];exact(d.val k).getD rfl
end
def Vt(td ty:TE):TE:=λσ H Q=>td σ H λx H1=>∃a,x=.ref a/\IsD H1 a/\ty σ H1 λy H2=>∃o,Ku H2 a y o/\Q (o.getD .aO) H2
def Vu(td ty:TE):TE:=λσ H Q=>td σ H λx H1=>∃a,x=.ref a/\IsD H1 a/\ty σ H1 λy H2=>∃kvs k v,H2 a=some (.dK kvs)/\y=kV k/\Am kvs k=some v/\Q v (upd H2 a (.dK (Bo kvs k)))
section
def Re(q:X.A.units+1<cLine)(B:PE X o td)(J:PE X e ty)(m:M1 X o "get" apos e dv):PE X (.Call (.Attribute o "get" apos) [e] [] dv) (Vt td ty):=by
 intro i s l H Q I h;refine wpAny_Call_method m.base m.few m.line plainAttrs_dict slot_dict_get type_dict_get (aL (B i s l H _ I h) λu r w=>?_);obtain⟨x,A,p,C,a,D,d,q1⟩:=w;subst D;obtain rfl:u=Value.ref a:=C;obtain⟨v,E,_⟩:=Kv p d;refine⟨v,E,?_⟩;rw[m.trees];refine Calls.callWith_builtin zJ (Calls.evalArgs_plain (Calls.spliced_cons (aL (J i r l A _ p q1) λN O ⟨y,G,F,t,L,g,q2⟩=>Calls.spliced_nil ?_)));exact Vs q F g t λM s3 z j=>⟨_,G,z,j,q2⟩
def Ik(E:PE X o td)(M:PE X e ty)(m:M1 X o "pop" apos e dv):PE X (.Call (.Attribute o "pop" apos) [e] [] dv) (Vu td ty):=by
 intro i s p H Q I h;refine wpAny_Call_method m.base m.few m.line plainAttrs_dict slot_dict_pop type_dict_pop (aL (E i s p H _ I h) λu r w=>?_);obtain⟨x,B,q,F,a,G,d,q1⟩:=w;subst G;obtain rfl:u=Value.ref a:=F;obtain⟨A,J,_⟩:=Kv q d;refine⟨A,J,?_⟩;rw[m.trees];refine Calls.callWith_builtin zJ (Calls.evalArgs_plain (Calls.spliced_cons (aL (M i r p B _ q q1) λR T ⟨y,S,L,z,t,k,v,D,N,l,q2⟩=>Calls.spliced_nil ?_)));subst N;exact XO L D z l (.inl zJ) λO s3 C j=>⟨v,_,C,j,q2⟩
end
end L2
namespace Att
open PySem PySem.W PySem.Calls PyProof.Rows
def IJ:∀d vs,WellAll P h vs (d.map WData.int)->IntsAre vs d:=by
 intro d;induction d with
 |nil=>
  intro vs w;cases w;exact .nil
 |cons n d e=>
  intro vs w;cases w with
  |cons a b=>
   cases a;exact .cons _ _ (e _ b)
def P7{h}{l:OpenLaw}(C:l.most=some n)   
    (i:l.row.toRowW.claim.pre args=true) (p:WellAll P h vals args):
    ∃a vs e,vals=[Value.ref a]/\args=[WData.list (e.map WData.int)]/\h.get? a=some {cls:=.type iB,data:=.seq vs.toArray}/\IntsAre vs e/\e.length<=n:=by
  obtain⟨d,r,rfl,y,v⟩:=hasAllW_cons ((pre_splitW i).1);obtain rfl:=hasAllW_nil v;obtain⟨D,rfl,x⟩:=hasW_list y;obtain⟨e,rfl⟩:=items_int x
  have o:e.length<=n:=by
    have t:(WTm.not (.lt (.lit (.int n)) (.len (.arg 0)))).holds [] {args:=[.list (e.map .int)]}=true:=by
      have t:=(holds_andW ((pre_splitW i).2)).1
      rwa[C]at t
    have u:=condW_of t (w_not (w_lt w_lit (w_len_list (w_arg rfl))));refine Nat.le_of_not_lt λq=>?_
    first
      | (rw[Zm q']at u;exact absurd u qc)
      | (simp at u;lia)
  cases p with
  |cons A z=>
    cases z;cases A with
    |list B j=>exact⟨_,_,e,rfl,rfl,B,IJ e _ j,o⟩
def P8(l:OpenLaw)(a):l.row.toRowW.claim.post a (.bool true) a=true:=
 postW_of
  (by rfl)
  (w_eq_bool (w_res rfl) w_lit) rfl
def attach_call{l:OpenLaw}{XP}{YP}{d}
  (hn:l.most=some n) (z:d.params.defaults=[])
  (call:∀w h e(mg C:SV)t o B cd j a vs y,
   Ground q loose [] XP w h mg C e.heap->YP w e.heap ->
   e.heap.get? t=some o->o.data=.func (docDef d.name d.params d.body d.scope B cd j)->e.heap.CodeRec cd d.name->mg d.name=some (.ref t) ->
   e.heap.get? a=some {cls:=.type iB,data:=.seq vs.toArray}->IntsAre vs y->y.length<=n->e.gens=#[] ->
   codeAny (model l.prog w) callerA (.call (.ref t) ⟨[.ref a],[]⟩) (λr x=>r=.ok (.ret (.bool true))/\OldK e.heap x.heap/\x.os=e.os/\AllBare x.gens) e):
  WalkO q loose XP YP l.row.toRowW d [] (λf vs=>PySem.call f vs):=by
 intro w h e mg C G Y t o B cd j O kV U S D J E T F H as u I N A Z;obtain rfl:O=.none:=Dflts.none J z;obtain rfl:kV=.none:=Dflts.noKw J;obtain⟨a,vs,y,rfl,rfl,p,i,v⟩:=P7 hn u A;refine enter_call (codeAny_mono (call w h e mg C t o B cd j a vs y G Y U (fd_plain S) D E p i v T) λr x X=>?_);obtain⟨rfl,L,M,R⟩:=X;exact⟨.inl ⟨.bool true,.bool true,[],rfl,λ_=>rfl,.bool true,P8 l _,λ_=>⟨List.Pairwise.nil,λ_ Q=>(nomatch Q)⟩⟩,L,M,R⟩
end Att
namespace L2
open PySem PySem.Spec PyProof.Rows
def Es:∀{vs}{a},IntsAre vs a->Vals (a.map V.int) vs
 |_,_,.nil=>.nil
 |_,_,.cons n t h=>.cons ⟨t,rfl⟩ (Es h)
noncomputable def inClass(s:Stmt)(j:Nat):Stmt:=match s with
 |.ClassDef _ _ _ body _ _ _ _ _ _ _=>body.getD j (.Pass ⟨0,0,0,0⟩)
 |_=>.Pass ⟨0,0,0,0⟩
noncomputable def defArgs(s:Stmt):Arguments:=match s with
 |.FunctionDef _ a _ _ _ _ _ _ _ _=>a
 |_=>{posonlyargs:=[],args:=[],vararg:=none,kwonlyargs:=[],kw_defaults:=[],kwarg:=none,defaults:=[]}
noncomputable def defBody(s:Stmt):List Stmt:=match s with
 |.FunctionDef _ _ b _ _ _ _ _ _ _=>b
 |_=>[]
noncomputable def defScope(s:Stmt):Scope:=match s with
 |.FunctionDef _ _ _ _ _ _ sc _ _ _=>sc
 |_=>{kind:=.function,names:=[],isGenerator:=false,isCoroutine:=false}
abbrev aS:CXT:=λ_ _ _ _ _ _=>False
abbrev E0:XK:=λ_ _ _=>False
def AT:BK aS X E0:=λ_ _ _ _ _ _ _ h=>h.elim
structure aN(K:FG)(x qual:Str)(st:Stmt)(f:hO)(fd:FuncData):Prop where
 ex:∃(oc:Value)(od:Option hO)(kV doc pm:Value)(an:Option hO)(ae ct:Value)(f7:Array (Option Value)),
  fd=W.fnOf x qual (defArgs st) (defBody st) (defScope st) .none kV doc pm an ae ct/\K.lookup f=some ⟨oc,od,.func fd,f7⟩/\W.codeIn K ae qual=true
 kp:W.keepIn K (.ref f)=true
section
def aN.ok{qual}{st}{i}{k}(F:aN ω x qual st f fd)(S:AH N i (defScope st))(len:∀vs H Q E,sp vs H Q E->vs.length=i.length)
  (d:∀a A outer s H vs Q E,aJ k (A.deeper (envOfC qual (defScope st) s.heap.objs.size f a))->sp vs H Q E ->
   ∃t,c8 (By aS P w ω mg base N qual (defScope st) f a A outer s H E).gm (defBody st) t/\t {nx:=λ_ H'=>Q .aO H',rt:=Q} (start N vs) H):aE P w ω mg base aS (k+1) f fd i sp:=by
 obtain⟨u,B,kV,o,z,y,a,v,r,rfl,p,j⟩:=F.ex;refine Ou p j S len λA outer s H vs Q E l e=>?_;obtain⟨t,h,q⟩:=d a A outer s H vs Q E l e;exact⟨t,h.gm,q⟩
structure BdC(P:Program)(w:World)(K:FG)(mg:SV)(base:Heap)(f:hO)(qual:Str)(st:Stmt)(N ps:hA)(k:Nat)(vs:hK)(H:Hp)(Q:VK)(E:XK):Prop where
 len:vs.length=ps.length
 ok:∀ae A outer s,aJ k (A.deeper (envOfC qual (defScope st) s.heap.objs.size f ae)) ->
  ∃t,c8 (By aS P w K mg base N qual (defScope st) f ae A outer s H E|>.gm) (defBody st) t/\t {nx:=λ_ H'=>Q .aO H',rt:=Q} (start N vs) H
def aN.m{qual}{st}{a}{k}(F:aN ω x qual st f fd)(S:AH N a (defScope st))(h:∀vs H Q E,sp vs H Q E->BdC P w ω mg base f qual st N a k vs H Q E):
  aE P w ω mg base aS (k+1) f fd a sp:=F.ok S (λvs H Q E q=>(h vs H Q E q).len) λc A o s H vs Q E r q=>(h vs H Q E q).ok c A o s r
def aN.binds{st}(F:aN ω x qual st f fd)
  (h:∀kV a j i d l e,e.length=ps.length->bindArgs (W.fnOf x qual (defArgs st) (defBody st) (defScope st) .none kV a j i d l) ⟨e,[]⟩=pure (ps.zip e)):Binds ω fd ps []:=by
 obtain⟨q,t,kV,a,j,i,d,l,o,rfl,r,p⟩:=F.ex;exact .all (by grind)
def fun_mk{x:PySem.Str}{K:FG}{qual:Str}{st:Stmt}{f:hO}{oc:Value}{od an:Option hO}{f7:Array (Option Value)}{kV doc pm ae ct:Value}(l:K.lookup f=some ⟨oc,od,.func (W.fnOf x qual (defArgs st) (defBody st) (defScope st) .none kV doc pm an ae ct),f7⟩)
  (c:W.codeIn K ae qual=true) (k:W.keepIn K (.ref f)=true):aN K x qual st f (W.fnOf x qual (defArgs st) (defBody st) (defScope st) .none kV doc pm an ae ct):=⟨⟨oc,od,kV,doc,pm,an,ae,ct,f7,rfl,l,c⟩,k⟩
end
def Bp{k}(a:aJ k A):A.units+1<cLine:=Nat.lt_of_le_of_lt (by simp) a.units
def AS{n}(h:n<=1000):n<sizeLine:=Nat.lt_of_le_of_lt h qc
section
def pv(i)(d:X.N[i]?=some x:=by rfl)(e:Vis X.env.scope x:=by first|exact Or.inl rfl|exact Or.inr (Or.inl rfl)|exact Or.inr (Or.inr rfl))(h:dr x:=by decide)
  (a:(x==(lL:Str))=false:=by decide):PE X (.Name x pos) (Kh i):=RG d e h a
def J7:aT X (.builtin "len") (λxs H Q=>∃a kvs,xs=[V.ref a]/\H a=some (.dK kvs)/\Q (.int kvs.length) H):=by
 rintro d s j H xs o Q I r ⟨a,kvs,rfl,h,q⟩;obtain⟨u,rfl,i⟩:=BY r;cases i;exact XQ I (.inl h) λt l e=>⟨.int kvs.length,H,e,⟨t,zJ⟩,q⟩
end
def AV{A B:Prop}(h:B):if false=true then A else B:=by
 rwa[zN Bool.false_ne_true]
def Ah{A B:Prop}(h:A):if true=true then A else B:=by
 rwa[zM rfl]
def BH{c A B:Prop}[Decidable c](a:c->A)(d:¬ c->B):if c then A else B:=by
 by_cases h:c
 ·rw[zM h];exact a h
 ·rw[zN h];exact d h
def Rg{c A B:Prop}[Decidable c](a:c)(h:B):if (!decide c)=true then A else B:=by
 rw[Zm a];exact AV h
def aB(H H':Hp):Prop:=∀b o,H b=some o->H' b=some o
def aB.refl(H):aB H H:=λ_ _ h=>h
def aB.trans(a:aB H H1)(b:aB H1 d):aB H d:=λc o h=>b c o (a c o h)
def aB.seq(e:aB H H')(h:aH ω H a xs):aH ω H' a xs:=by
 rcases h with (h|⟨o,h⟩)|h
 ·exact .inl (.inl (e _ _ h))
 ·exact .inl (.inr ⟨o,e _ _ h⟩)
 ·exact .inr h
section
variable {κ:Type} [DecidableEq κ]
def Tz{kvs}{k:κ}(h:Am kvs k=some v):k∈kvs.map (·.1):=by
 have q:(kvs.any λd=>decide (d.1=k))=true:=by
  rw[Cy,h]
  all_goals rfl
 obtain⟨p,a,e⟩:=any_eq_true.mp q;exact zO.mpr ⟨p,a,Zv e⟩
def T4:∀{l}{k:κ},l.Nodup->¬ k∈l->(l++[k]).Nodup
 | [],k,_,_=>by simp
 |a::r,k,h,hk=>by
  grind
def P9{p}{r}{k:κ}(e:p.1=k):Bo (p::r) k=Bo r k:=by
 unfold Bo
 simp_all
def QA{p}{r}{k:κ}(e:¬ p.1=k):Bo (p::r) k=p::Bo r k:=by
 unfold Bo
 simp_all
end
end L2
end
section
section
namespace L2
open PySem PySem.Spec PyProof.Rows
def Inv.track(I:Inv X i σ H s)(z:H a=none)(t:a≠X.env.locals)(l:a∈X.ex\/X.bY.heap.objs.size<=a)
  (r:∀x c,X.env.cells.lookup x=some c->c≠a) (y:∀p∈X.pn++i,p.1≠a) (new:bD X.prog X.w (upd H a o) s.heap a o):Inv X i σ (upd H a o) s:=by
 have d:∀b u,H b=some u->b≠a:=λb u e=>AJ e z
 refine I.step (h':=s.heap) (H':=upd H a o) (g':=s.gens) (t':=s.toks) (d':=s.drawn) (ch:=[a])
  (λb j=>by have e:b=a:=by simpa using j
            subst e;exact⟨l,t,r,y⟩)
  (λb o _ _ _ e _=>e) (λb o _ _ _ e _=>⟨o.slots,e⟩) (λb o B e n=>by rw[AD (by simpa using B)];exact n)
  (λb o _ e=>⟨o,e⟩) (λb A e=>by rw[AD (d b _ e)];exact e) (λb o u e=>by rw[AD (d b _ e)];exact e)
  (λb C e=>⟨#[],by rw[AD (d b _ e),e];simp⟩) (λm h=>h) (λb u e=>?_) I.bare
 by_cases j:b=a
 ·subst j;rw[aA]at e;cases e;exact new
 ·rw[AD j]at e;exact(I.aI b u e).df (λc v _ q=>q) (λc q=>by rw[AD (d c _ q)];exact q) λc A q=>by rw[AD (d c _ q)];exact q
structure aZ(gA sc:Scope)(N N':hA)(ix:List (Option Nat))(z:Option Str):Prop where
 kind:sc.kind=.function
 one:∀y∈sc.names,y.2=.cell->z=some y.1
 own:∀x,z=some x->sc.names.lookup x=some .cell
 free:∀y∈sc.names,y.2=.free->gA.names.lookup y.1=some .cell\/gA.names.lookup y.1=some .free
 loc:∀y∈sc.names,y.2=.local->sc.names.lookup y.1=some .local
 len:ix.length=N'.length
 slot:∀(j:Nat)x i,N'[j]?=some x->ix[j]?=some (some i)->N[i]?=some x/\sc.names.lookup x=some .free
 cf:∀n cl,cellsFrom n sc.names cl=(z.map (·,n)).toList++cl
 pc:∀h,pushCells h sc.names=if z=none then h else h.push {cls:=.type "cell",data:=.cell none}
noncomputable def VG(sc:Scope)(N:hA)(x:Str):Option Nat->Bool
 |none=>true
 |some i=>decide (N[i]?=some x)&&decide (sc.names.lookup x=some .free)
def Dk(sc:Scope)(N:hA):hA->List (Option Nat)->Bool
 | [],[]=>true
 |x::r,o::os=>VG sc N x o&&Dk sc N r os
 |_,_=>false
def Il:∀{N'}{a},Dk sc N N' a=true->a.length=N'.length
 | [],[],_=>rfl
 | [],_::_,h=>by simp[Dk]at h
 |_::_,[],h=>by simp[Dk]at h
 |x::r,o::os,h=>by
  simp only[Dk,Bool.and_eq_true]at h;simp only[length_cons,Il h.2]
def J8:∀{N'}{d},Dk sc N N' d=true->∀(j:Nat)x i,N'[j]?=some x->d[j]?=some (some i)->N[i]?=some x/\sc.names.lookup x=some .free
 | [],_,_,_,_,_,e,_=>by simp at e
 |_::_,[],h,_,_,_,_,_=>by simp[Dk]at h
 |y::r,o::os,h,j,x,i,e1,e2=>by
  simp only[Dk,Bool.and_eq_true]at h;cases j with
  |zero=>
   simp only[List.getElem?_cons_zero,Option.some.injEq]at e1 e2;subst e1 e2;have a:=h.1;simp only[VG,Bool.and_eq_true,decide_eq_true_eq]at a;exact a
  |succ j=>
   simp only[List.getElem?_cons_succ]at e1 e2;exact J8 h.2 j x i e1 e2
def Kw(z:Option Str)(gA sc:Scope)(N N':hA)(ix:List (Option Nat)):Bool:=
 decide (sc.kind=.function)&&(sc.names.all λy=>(decide (y.2≠ .cell)||decide (z=some y.1))&&(decide (y.2≠ .free)||decide (gA.names.lookup y.1=some .cell)||decide (gA.names.lookup y.1=some .free)) &&
  (decide (y.2≠ .local)||decide (sc.names.lookup y.1=some .local)))&&(match z with|none=>true|some x=>decide (sc.names.lookup x=some .cell))&&Dk sc N N' ix
noncomputable abbrev Hz:=Kw none
def Im:∀{d},(∀y∈d,y.2=.cell->(none:Option Str)=some y.1)->(∀n cl,cellsFrom n d cl=cl)/\∀h,pushCells h d=h
  | [],_=>⟨λ_ _=>rfl,λ_=>rfl⟩
  | (x,k)::r,h=>by
    have e:(k==NameKind.cell)=false:=by
      rw[beq_eq_false_iff_ne];exact λe=>nomatch h (x,k) z8 e
    obtain⟨a,b⟩:=Im λy i=>h y (Zs _ i);unfold cellsFrom pushCells;simp only[e];exact⟨a,b⟩
def aZ.ofz(h:Kw z gA sc N N' ix=true)(j:∀n cl,cellsFrom n sc.names cl=(z.map (·,n)).toList++cl)(d:∀h,pushCells h sc.names=if z=none then h else h.push {cls:=.type "cell",data:=.cell none}):aZ gA sc N N' ix z:=by
 simp only[Kw,Bool.and_eq_true,decide_eq_true_eq,all_eq_true,Bool.or_eq_true]at h;obtain⟨⟨⟨o,i⟩,p⟩,l⟩:=h;refine⟨o,λy a e=>?_,λx e=>?_,λy a e=>?_,λy a e=>?_,Il l,J8 l,j,d⟩
 ·exact(i y a).1.1.elim (λq=>absurd e q) id
 ·subst e;exact Zv p
 ·rcases (i y a).1.2 with (q|q)|q
  ·exact absurd e q
  ·exact .inl q
  ·exact .inr q
 ·exact(i y a).2.elim (λq=>absurd e q) id
def aZ.of{N'}(h:Hz gA sc N N' ix=true):aZ gA sc N N' ix none:=by
 have g:∀y∈sc.names,y.2=.cell->(none:Option Str)=some y.1:=by
  simp only[Hz,Kw,Bool.and_eq_true,decide_eq_true_eq,all_eq_true,Bool.or_eq_true]at h;exact λy a e=>(h.1.1.2 y a).1.1.elim (λq=>absurd e q) id
 exact .ofz h (Im g).1 (Im g).2
noncomputable abbrev FL(env:Env):Str×NameKind->Str×NameKind:=λ(n,k)=>if (k==NameKind.free&&env.scope.kind == .function&&env.kindOf n==some .cell)then (n,NameKind.cell)else (n,k)
def Ly(env)(y):(FL env y).1=y.1:=by
 obtain⟨n,k⟩:=y;simp only[FL];split<;>rfl
def QB(env)(n):(FL env (n,.free)).2=.cell\/(FL env (n,.free)).2=.free:=by
 simp only[FL];split
 ·exact .inl rfl
 ·exact .inr rfl
def T5(env)(y)(h:y.2≠ .free):FL env y=y:=by
 obtain⟨n,k⟩:=y;have e:(k==NameKind.free)=false:=by simpa using h
 simp only[FL,e,Bool.false_and,Bool.false_eq_true,if_false]
def FA:∀{a:List (Str×NameKind)}{x},a.lookup x=some .free->(a.map (FL env)).lookup x=some .cell\/(a.map (FL env)).lookup x=some .free
  | [],_,h=>by simp at h
  | (n,k)::r,x,h=>by
    rw[map_cons]
    have e:FL env (n,k)=(n,(FL env (n,k)).2):=by
      have:=Ly env (n,k);exact Prod.ext this rfl
    rw[e];cases d:x==n with
    |true=>
      simp only[zW,d]at h ⊢;cases h;rcases QB env n with z|z
      · rw[z];exact .inl rfl
      · rw[z];exact .inr rfl
    |false=>
      simp only[zW,d]at h ⊢;exact FA h
def IA:∀{a:List (Str×NameKind)}{x},(∀y∈a,y.2=.cell->z=some y.1)->((a.map (FL env)).lookup x=some .cell\/(a.map (FL env)).lookup x=some .free)->(x,NameKind.free)∈a\/z=some x
  | [],_,_,h=>by simp at h
  | (n,k)::r,x,hc,h=>by
    rw[map_cons]at h;have e:FL env (n,k)=(n,(FL env (n,k)).2):=Prod.ext (Ly env (n,k)) rfl;rw[e]at h;cases d:x==n with
    |true=>
      simp only[zW,d]at h;have j:x=n:=by simpa using d
      subst j;by_cases i:k=.free
      · subst i;exact .inl z8
      · rw[T5 env (x,k) i]at h
        rcases h with q|q
        · exact .inr (hc (x,k) z8 (by simpa using q))
        · exact absurd (by simpa using q) i
    |false=>
      simp only[zW,d]at h;exact(IA (λy l=>hc y (Zs _ l)) h).imp_left (Zs _)
def Kx{env:Env}{f}
  (h1:∀y acc,y.2≠ .free->f y acc=pure (.yield acc)) (h2:∀y acc c,y.2=.free->env.cells.lookup y.1=some c->f y acc=pure (.yield ((y.1,c)::acc))):
  ∀(names:List (Str×NameKind))acc,(∀y∈names,y.2=.free->∃c,env.cells.lookup y.1=some c)->(∀x c,acc.lookup x=some c->env.cells.lookup x=some c) ->
   ∃cl,forIn names acc f=(pure cl:Sem _)/\(∀x c,cl.lookup x=some c->env.cells.lookup x=some c)/\(∀y∈names,y.2=.free->∃c,cl.lookup y.1=some c)/\∀x c,acc.lookup x=some c->∃c',cl.lookup x=some c'
 | [],acc,_,ha=>⟨acc,rfl,ha,λ_ hy=>(nomatch hy),λx c e=>⟨c,e⟩⟩
 |y::r,acc,hn,ha=>by
  have hr:∀z∈r,z.2=.free->∃c,env.cells.lookup z.1=some c:=λz hz=>hn z (Zs _ hz);by_cases hy:y.2=.free
  ·obtain⟨c,hc⟩:=hn y z8 hy
   obtain⟨cl,e,p1,p2,p3⟩:=Kx h1 h2 r ((y.1,c)::acc) hr λx d e=>by
    cases hx:x==y.1 with
    |true=>
     simp only[zW,hx,Option.some.injEq]at e;have:x=y.1:=by simpa using hx
     rw[this,←e];exact hc
    |false=>
     simp only[zW,hx]at e;exact ha x d e
   refine⟨cl,by rw[List.forIn_cons,h2 y acc c hy hc,pure_bind];exact e,p1,λz hz hf=>?_,λx d e=>?_⟩
   ·rcases mem_cons.mp hz with rfl|hz
    ·exact p3 z.1 c (by simp[zW])
    ·exact p2 z hz hf
   ·cases hx:x==y.1 with
    |true=>exact p3 x c (by simp[zW,hx])
    |false=>exact p3 x d (by simp only[zW,hx];exact e)
  ·obtain⟨cl,e,p1,p2,p3⟩:=Kx h1 h2 r acc hr ha;refine⟨cl,by rw[List.forIn_cons,h1 y acc hy,pure_bind];exact e,p1,λz hz hf=>?_,p3⟩;rcases mem_cons.mp hz with rfl|hz
   ·exact absurd hf hy
   ·exact p2 z hz hf
def T6(hn:∀y∈scope.names,y.2=.free->∃c,env.cells.lookup y.1=some c):
  ∃cl,closureFor scope env=pure cl/\(∀x c,cl.lookup x=some c->env.cells.lookup x=some c)/\∀y∈scope.names,y.2=.free->∃c,cl.lookup y.1=some c:=by
 obtain⟨cl,e,p1,p2,_⟩:=Kx (env:=env) (f:=λ(x:Str×NameKind)(r:List (Str×hO))=>if (x.2==NameKind.free)=true then (cellOf env x.1 >>= λa=>pure (ForInStep.yield ((x.1,a)::r)))else pure (ForInStep.yield r)) (λy acc hy=>by
  have:(y.2==NameKind.free)=false:=by simpa using hy
  rw[this,zN Bool.false_ne_true]) (λy acc c hy hc=>by
  have h0:(y.2==NameKind.free)=true:=by rw[hy];rfl
  rw[zM h0];simp only[cellOf,hc]
  rfl) scope.names [] hn λx c e=>by simp at e
 refine⟨cl,?_,p1,p2⟩;have e0:closureFor scope env=(forIn scope.names [] (λ(x:Str×NameKind)(r:List (Str×hO))=>if (x.2==NameKind.free)=true then (cellOf env x.1 >>= λa=>pure (ForInStep.yield ((x.1,a)::r)))else pure (ForInStep.yield r)) >>= λcs=>pure cs):=rfl;rw[e0,e];rfl
abbrev XE:=List (Str×hO)->hX->Hp->hO->List hO->LO->Value->hX->Prop
def eP(z:Option Str)(xe:XE)(X:Cx)(N':hA)(scope:Scope)(cl:List (Str×hO))(s:hX)(H:Hp)(C:hO)(fp:List hO)(pn:LO):Cx where
 prog:=X.prog
 w:=X.w
 K:=X.K
 mg:=X.mg
 base:=X.base
 A:=X.A
 N:=N'
 bY:=s
 cZ:=H
 env:=compEnvC scope cl C X.env
 outer:=X.stack
 stack:=X.stack
 ex:=fp
 fn:=λx=>decide (z=some x)
 calm:=X.calm
 pn:=pn
 xe:=xe cl s H C fp pn
abbrev xN:XE:=λ_ _ _ _ _ _ _ _=>False
noncomputable abbrev Bj:=eP none xN
abbrev fk(z:Option Str)(Z:hO)(cl:List (Str×hO)):List (Str×hO):=(z.map (·,Z)).toList++cl
def IB{X:L2.Cx}{z}{Z}{cl}(d:∀x c,cl.lookup x=some c->X.env.cells.lookup x=some c){c}(e:(fk z Z cl).lookup x=some c):X.env.cells.lookup x=some c\/(z=some x/\c=Z):=by
 cases z with
 |none=>exact .inl (d x c e)
 |some z=>
  have e:((z,Z)::cl).lookup x=some c:=e;cases a:x==z with
  |true=>
   simp only[zW,a,Option.some.injEq]at e;exact .inr ⟨by simpa using Eq.symm (by simpa using a:x=z),e.symm⟩
  |false=>
   simp only[zW,a]at e;exact .inl (d x c e)
def Rh(e:cl.lookup x=some c)(n:z≠some x):(fk z Z cl).lookup x=some c:=by
 cases z with
 |none=>exact e
 |some z=>
  show((z,Z)::cl).lookup x=some c
  have:(x==z)=false:=by
   rw[beq_eq_false_iff_ne];exact λq=>n (by rw[q])
  simp only[zW,this];exact e
def Ri:(fk (some x) Z cl).lookup x=some Z:=by
 show((x,Z)::cl).lookup x=some Z;simp[zW]
def Rj        
  (l:∀n cl,cellsFrom n scope.names cl=fk z n cl) (d:∀h,pushCells h scope.names=if z=none then h else h.push {cls:=.type "cell",data:=.cell none})
  (p:∀h',h'.Ns s.heap.objs.size (λ_=>none)->(z≠none->h'.IsCell (s.heap.objs.size+1) none)->(∀b o,s.heap.get? b=some o->h'.get? b=some o) ->
   Q ({scope,locals:=s.heap.objs.size,globals,cells:=fk z (s.heap.objs.size+1) cl,qual,func:=none,code:=outer.code,frame:=outer.frame,builtins:=outer.builtins}) ({s with heap:=h'})):
  wpAny M A (newFunctionEnv scope globals cl [] qual none .none (some outer)) Q E s:=by
 simp only[newFunctionEnv,Option.isSome_some,if_true];refine zU (wpAny_alloc ?_);refine zU (wpAny_layCells _ (λr a cells=>by cases j:a==NameKind.cell<;>simp[j]) _ _ _ _ ?_);rw[l,d,show({s with heap:=s.heap.push {cls:=.type iT,data:=.dict #[]}}:hX).heap.objs.size=s.heap.objs.size+1 from Heap.size_push ..];refine zU ?_;rw[List.forIn_nil];refine zT (zT ?_);by_cases i:z=none
 ·rw[zM i];exact p _ (Heap.Ns.new s.heap (.type iT)) (λq=>absurd i q) λb o e=>Zy _ e
 ·rw[zN i];refine p _ ((Heap.Ns.new s.heap (.type iT)).keeps λb o e=>Zy _ e) (λ_=>?_) λb o e=>Zy _ (Zy _ e);have e:=Zo (s.heap.push {cls:=.type iT,data:=.dict #[]}) (o:={cls:=.type "cell",data:=.cell none}) rfl;rw[Heap.size_push]at e;exact⟨_,e,zJ⟩
noncomputable def HD(ix:List (Option Nat))(σ:St):St:=ix.map λo=>o.bind λi=>(σ[i]?).join
def T7{σ}{a}{j:Nat}{v}(h:(HD a σ)[j]?=some (some v)):∃i,a[j]?=some (some i)/\σ[i]?=some (some v):=by
 unfold HD at h;rw[z4]at h;cases e:a[j]? with
 |none=>rw[e]at h;cases h
 |some o=>
  rw[e]at h;simp only[Option.map_some,Option.some.injEq]at h;cases o with
  |none=>cases h
  |some i=>
   refine⟨i,rfl,?_⟩;simp only[Option.bind_some]at h;cases q:σ[i]? with
   |none=>rw[q]at h;cases h
   |some u=>rw[q]at h;simp only[Option.join_some]at h;rw[h]
section
def T8(I:Inv X aa σ H s)(r:aZ X.env.scope scope X.N N' ix z)(p:∀x c,cl.lookup x=some c->X.env.cells.lookup x=some c)(A:∀y∈scope.names,y.2=.free->∃c,cl.lookup y.1=some c)
  (t:s.heap.objs.size<=C) (j:s.heap.objs.size<=Z) (a:∀b∈fp,FI X aa H b) (i:∀b∈fp,b<s.heap.objs.size):(eP z xe X N' scope (fk z Z cl) s H C fp (X.pn++aa)).Ok where
 mod:=I.mod
 kind:=r.kind
 glob:=I.ok.glob
 blt:=I.ok.blt
 above:=t
 inj:=λx y c D B=>by
  have lt:∀x,X.env.cells.lookup x=some c->c<s.heap.objs.size:=λx e=>let ⟨v,q⟩:=I.cell x c e;q.lt
  rcases IB p D with q1|q1<;>rcases IB p B with q2|q2
  ·exact I.ok.inj x y c q1 q2
  ·have:=lt x q1;rw[q2.2]at this;exact absurd this (Nat.not_lt.mpr j)
  ·have:=lt y q2;rw[q1.2]at this;exact absurd this (Nat.not_lt.mpr j)
  ·exact Option.some.inj (q1.1.symm.trans q2.1)
 has:=λx h=>by
  by_cases l:z=some x
  ·subst l;exact⟨Z,Ri⟩
  ·obtain⟨c,e⟩:=A (x,.free) ((IA (env:=X.env) r.one h).resolve_right l) rfl;exact⟨c,Rh e l⟩
 fH:=λx c h e=>by
  have E:z=some x:=Zv h;subst E;have u:(fk (some x) Z cl).lookup x=some c:=e;rw[Ri]at u;cases u;exact j
 hd:=I.ok.hd
 frames:=I.ok.frames
 eh:=.inl rfl
 exf:=λb d=>⟨zZ (Z2 (i b d) t),λx c e=>(IB p e).elim (λq=>(a b d).2.2.2.2.1 x c q) λq=>q.2 ▸ Nat.ne_of_gt (Z2 (i b d) j)⟩
 bs:=I.bs
 eK:=Nat.le_trans I.ok.eK I.sz
 d3:=λb o e d=>by
  rcases (a b d).2.2.2.1 with z|z
  ·exact I.ok.d3 b o e z
  ·exact absurd (Z2 (Z2 (lt_size e) I.ok.eK) z) (z5 _)
 d5:=λb d z=>by
  rcases mem_cons.mp (I.cQ b z)with e|e
  ·exact(a b d).2.1 e
  ·exact(a b d).2.2.1 e
 cu:=I.stack
 eY:=I.stkFree
def Io:∀{l:List (Str×NameKind)},l.lookup x=some k->(x,k)∈l
  | [],e=>nomatch e
  | (n,d)::r,e=>by
    cases a:x==n with
    |true=>
      simp only[zW,a,Option.some.injEq]at e;have:x=n:=by simpa using a
      subst this e;exact z8
    |false=>
      simp only[zW,a]at e;exact Zs _ (Io e)
def Nw(I:Inv X aa σ H s)(B:aZ X.env.scope scope X.N N' ix z)(D:∀x c,cl.lookup x=some c->X.env.cells.lookup x=some c)(N:∀y∈scope.names,y.2=.free->∃c,cl.lookup y.1=some c)
  (E:s.heap.objs.size<=C) (O:s.heap.objs.size<=Z) (J:∀b∈fp,FI X aa H b) (L:∀b∈fp,b<s.heap.objs.size)    (l:∀b o,s.heap.get? b=some o->t.get? b=some o) (M:t.Ns C m)
  (F:z≠none->t.IsCell Z none):Inv (eP z xe X N' scope (fk z Z cl) s H C fp (X.pn++aa)) [] (HD ix σ) H {s with heap:=t,toks:=tk} where
 ok:=T8 I B D N E O J L
 os:=rfl
 bare:=I.bare
 base:=Un.kept l
 loc:=⟨m,M,λj x v e1 T e3=>by
  obtain⟨i,ei,ev⟩:=T7 T;obtain⟨Y,h⟩:=B.slot j x i e1 ei;obtain⟨mX,_,hl⟩:=I.loc;have Q:=Io h;have R:=B.free _ Q rfl;obtain⟨u,r,q⟩:=hl i x v Y ev (.inr R);refine⟨u,r,.inr ⟨FA (env:=X.env) h,?_⟩⟩;obtain⟨c,S⟩:=N _ Q rfl;refine⟨c,Rh S λe=>?_,?_⟩
  ·rw[B.own x e]at h;cases h
  rcases q with⟨k,_⟩|⟨_,c',A,z⟩
  ·have k':X.env.scope.names.lookup x=some .local:=k;rcases R with a|a<;>(rw[k']at a;cases a)
  ·rw[D x c S]at A;cases A
   exact z.keeps l⟩
 cell:=λx c e=>by
  rcases IB D e with q|q
  ·obtain⟨v,z⟩:=I.cell x c q;exact⟨v,z.keeps l⟩
  ·rw[q.2];exact⟨_,F (by rw[q.1];exact λz=>nomatch z)⟩
 free:=I.aI.fresh E
 cc:=λx c e=>(IB D e).elim (λq=>I.cc x c q) λq=>q.2 ▸ I.aI.fresh O
 pin:=λp U=>by
  have G:p∈X.pn++aa:=by
   have z:=U;rw[zQ]at z;exact z
  obtain⟨e,n,ne,nf,d⟩:=I.pin p G;refine⟨l _ _ e,n,zZ (Z2 (lt_size e) E),λz=>?_,d⟩;rcases mem_cons.mp (I.cQ p.1 z)with q|q
  ·exact ne q
  ·exact nf q
 aI:=I.aI.kept l
 len:=by
  show(HD ix σ).length=N'.length;unfold HD;rw[AQ];exact B.len
def QC(I:Inv X aa σ H s)(a:∀b∈fp,FI X aa H b)(J:Inv (eP z xe X N' scope cl s H C fp (X.pn++aa)) e h H' s'):Inv X aa σ H' s':=
 I.call' (ch:=fp) J.os J.base J.aI J.bare λb d=>⟨(a b d).2.2.2.1,(a b d).2.1,(a b d).2.2.2.2.1,(a b d).2.2.2.2.2⟩
end
def gg(X:Cx)(ifs:List Expr)(t:TT):Prop:=
 ∀aa s(σ:St)H Q,Inv X aa σ H s->t σ H Q ->
  cn X (forIn ifs true λc r=>if r=true then do let ok ←isTrue c X.env (eval c X.env);pure (ForInStep.yield ok)else pure (ForInStep.yield r)) (TP X aa σ Q) X.xe s
def Y1:TT:=λ_ H Q=>Q true H
def BS:gg X [] Y1:=λa s d H Q I h=>wpAny_tests_nil ⟨H,I,h⟩
def F8(h:PT X c t):gg X [c] t:=λa s d H Q I q=>wpAny_tests_one (h a s d H Q I q)
def tW{α:Type}(J:It)(e0:α)(ok:α->Prop)(B:V->α->(α->Hp->Prop)->Hp->Prop)(R:α->Hp->Prop)(H1:Hp):Prop:=∃W:Nat->Nat->α->Hp->Prop,(∃m,W 0 m e0 H1)/\∀i m ys H,W i m ys H ->
 (J.stop i H/\ok ys/\R ys H)\/(J.go i H/\∃N,(∀eV H',N eV H'->ok eV/\∃m',m'<m/\W (i+1) m' eV H')/\∀x H',J.fZ i H x H'->B x ys N H')
abbrev TAd(α:Type):=α->St->Hp->(α->Hp->Prop)->Prop
abbrev bT{α:Type}(g:TG)(tt:TT)(ta:TAd α)(ix:List (Option Nat))(σ:St):V->α->(α->Hp->Prop)->Hp->Prop:=λx ys N H'=>g x (HD ix σ) H' λgK H2=>tt gK H2 λb H3=>if b=true then ta ys gK H3 N else N ys H3
abbrev HE{α:Type}(e0:α)(ok:α->Prop)(wi:TI)(g:TG)(tt:TT)(ta:TAd α)(ix:List (Option Nat))(R:α->Hp->Prop):St->Hp->Prop:=λσ H=>wi σ H λJ H1=>tW J e0 ok (bT g tt ta ix σ) R H1
abbrev fy{β:Type}(ys:List β):Prop:=ys.length<=sizeLine
abbrev fx(te:TE):TAd (hK):=λys σ H N=>te σ H λy H'=>N (ys++[y]) H'
abbrev Ky(wi:TI)(g:TG)(tt:TT)(te:TE):=HE [] fy wi g tt (fx te)
def DV{α}{o}{ok}{B}{R}(d:Nat->α->Hp->Prop)(r:d 0 o H1)(hz:∀i ys H,d i ys H->ok ys)
  (hs:∀i ys H,i<n->d i ys H->J.go i H/\∀x H',J.fZ i H x H'->B x ys (d (i+1)) H') (l:∀ys H,d n ys H->J.stop n H/\R ys H):tW J o ok B R H1:=by
 refine⟨λi m ys H=>m=n-i/\i<=n/\d i ys H,⟨_,rfl,Nat.zero_le _,r⟩,?_⟩;rintro i m ys H ⟨rfl,u,j⟩;rcases Nat.lt_or_ge i n with h|p
 ·obtain⟨a,b⟩:=hs i ys H h j;exact .inr ⟨a,d (i+1),λt H' q=>⟨hz _ _ _ q,n-(i+1),by lia,zJ,h,q⟩,b⟩
 ·have e:i=n:=by lia
  subst e;exact .inl ⟨(l _ _ j).1,hz _ _ _ j,(l _ _ j).2⟩
def PGk(X:Cx)(tg:Expr)(ix:List (Option Nat))(g:TG):Prop:=
 ∀aa s σ H v u Q,Inv X aa (HD ix σ) H s->RelV v u->g v (HD ix σ) H Q ->
  cn X (assign tg X.env u) (λ_ s'=>∃cK H',Inv X aa cK H' s'/\(∀(j:Nat)v,(HD ix σ)[j]?=some (some v)->cK[j]?=some (some v))/\Q cK H') X.xe s
def F9(h:PG X (.Name x pos) (Ct 0)):PGk X (.Name x pos) (none::l) (Ct 0):=by
 intro d s p H v u Q I r q;refine aL (h d s _ H v u (λa i=>(∀(j:Nat)(v:V),(HD (none::l) p)[j]?=some (some v)->a[j]?=some (some v))/\Q a i) I r ⟨λj w e=>?_,q⟩) λ_ t ⟨a,i,o,k,q⟩=>⟨a,i,o,k,q⟩;cases j with
 |zero=>cases e
 |succ j=>exact e
def Lz(h:PG X tg (Tl ω 2 (IW (Ct 0) (IW (Ct 1) Tk)))):PGk X tg (none::none::o) (Tl ω 2 (IW (Ct 0) (IW (Ct 1) Tk))):=by
 intro i s B H v u Q I r q;obtain⟨a,D,z,x,p,E,C,J,A,y,G,F,q⟩:=q;refine aL (h i s _ H v u (λd l=>(∀(j:Nat)(v:V),(HD (none::none::o) B)[j]?=some (some v)->d[j]?=some (some v))/\Q d l) I r ⟨a,D,z,x,p,E,C,J,A,y,G,F,λj w e=>?_,q⟩) λ_ L ⟨d,l,t,k,q⟩=>⟨d,l,t,k,q⟩
 match j with
 |0=>cases e
 |1=>cases e
 |j+2=>exact e
structure VH(RD:Cx->Prop)(P:Program)(w:World)(K:FG)(tg:Expr)(J:It)(fp:List hO)(it:hO)(tn:Nat->Heap->Prop):Prop where
 obj:∀i h,tn i h->∀b∈fp,∃o,h.get? b=some o/\∀v,o.data≠ .cell v
 keep:∀i h h',tn i h->(∀b∈fp,∀o,h.get? b=some o->h'.get? b=some o)->tn i h'
 item:∀X,X.prog=P->X.w=w->X.K=K->RD X->∀i aa s(σ:St)H(E:VS),Inv X aa σ H s->(∀b∈fp,FI X aa H b)->tn i s.heap->J.go i H ->
  wpAny (model P w) X.A (pyNext (.ref it)) (λr s1=>∃u,r=some u/\wpAny (model P w) X.A (letOwnedTupleGo tg (.ref it) u) (λ_ s2=>∃x H',Inv X aa σ H' s2/\RelV x u/\J.fZ i H x H'/\tn (i+1) s2.heap/\∀b∈fp,H' b=none) E s1) E s
 done:∀X,X.prog=P->X.w=w->X.K=K->RD X->∀i aa s(σ:St)H(E:VS),Inv X aa σ H s->(∀b∈fp,FI X aa H b)->tn i s.heap->J.stop i H ->
  wpAny (model P w) X.A (pyNext (.ref it)) (λr s1=>r=none/\Inv X aa σ H s1) E s
 self:∀A i s(Q:VS)(E:VS),tn i s.heap->Q (.ref it) s->wpAny (model P w) A (pyIter (.ref it)) Q E s
def PIg(RD:Cx->Prop)(X:Cx)(tg iter:Expr)(wi:TI):Prop:=∀aa s(σ:St)H R,Inv X aa σ H s->wi σ H R ->
 cn X (eval iter X.env) (λv s1=>cn X (pyIter v) (λitv s2=>∃(it:hO)(fp:List hO)(tn:Nat->Heap->Prop)(J:It)(H':Hp),itv=.ref it/\Inv X aa σ H' s2/\VH RD X.prog X.w X.K tg J fp it tn/\tn 0 s2.heap/\(∀b∈fp,FI X aa H' b)/\R J H') X.xe s1) X.xe s
def PI.g{a}(h:PI X tg a x):PIg (λX=>X.calm=true) X tg a x:=λd s o H R I q=>
 aL (h d s o H R I q) λv y z=>aL z λp A v=>by obtain⟨l,t,u,J,j,e,i,T,r⟩:=v;exact ⟨l,t,u,J,j,e,i,⟨T.obj,T.keep,T.item,T.done,T.self⟩,r⟩
def XV(tg iter:Expr)(ifs:List Expr)(it:Value)(env:Env)(add:Sem Unit)(c:Code):Sem PySem.Fin:=do
 standAt iter.pos
 match ←pyNext it with
 |none=>pure (.done .next)
 |some v=>
  letOwnedTupleGo tg it v
  assign tg env v
  let mut ok:=true
  for c in ifs do
   if ok then ok ←isTrue c env (eval c env)
  if ok then
   add
  again c
structure QD{α:Type}(P:Program)(w:World)(d:Expr)(mk:Sem Value)(tg iter:Expr)(ifs:List Expr)(add:hO->Env->Sem Unit)(e0:α)(ok:α->Prop)(ho:hO->α->HO)(RA:Heap->hO->α->Prop):Prop where
 cl:clausesOf d=[⟨tg,iter,ifs,0⟩]
 new:∃ob,ob.isFreed=false/\(∀v,ob.data≠ .cell v)/\(∀h D,h.get? D=some ob->RA h D e0)/\∀A(Q:VS)(E:VS)s,Q (.ref s.heap.objs.size) {s with heap:=s.heap.push ob}->wpAny (model P w) A mk Q E s
 turn:∀(A:Around)it D env,A.under (.compLoop d 0 it (.ref D) env)=A/\(model P w).den (.compLoop d 0 it (.ref D) env)=(XV tg iter ifs it env (add D env) (.compLoop d 0 it (.ref D) env)).onRaise λx=>do noteFrame x env;theTreesLotGoes x
 start:∀A R s it D env,codeAny (model P w) A (.compLoop d 0 it (.ref D) env) R s->wpAny (model P w) A (pyIter it) (λit' s'=>codeAny (model P w) A (.compLoop d 0 it' (.ref D) env) R s') (notedBy (model P w) A env λx s'=>R (.error x) s') s->codeAny (model P w) A (.compStart d 0 it (.ref D) env) R s
 at_:∀h h' D a,RA h D a->(∀o,h.get? D=some o->h'.get? D=some o)->RA h' D a
 fin:∀H h D a,ok a->(D==sysModules)=false->RA h D a->bD P w H h D (ho D a)
structure AtD(X:Cx)(D:hO)(aa:LO):Prop where
 up:X.bY.heap.objs.size<=D
 ce:∀x c,X.env.cells.lookup x=some c->c≠D
 pi:∀p∈X.pn++aa,p.1≠D
def PAd{α:Type}(X:Cx)(add:hO->Env->Sem Unit)(ok:α->Prop)(RA:Heap->hO->α->Prop)(ta:TAd α):Prop:=∀(D:hO)(ob:Obj)ys aa s(σ:St)H N,Inv X ([(D,ob)]++aa) σ H s->AtD X D aa->RA s.heap D ys->(∀eV H',N eV H'->ok eV)->ta ys σ H N ->
 cn X (add D X.env) (λ_ s'=>∃ob' eV H',Inv X ([(D,ob')]++aa) σ H' s'/\RA s'.heap D eV/\N eV H') X.xe s
def Inv.dZ(I:Inv X ([(D,a)]++aa) σ H s):s.heap.get? D=some a/\H D=none/\D≠X.env.locals/\D∉ X.fs/\∀v,a.data≠ .cell v:=I.pin (D,a) (Zt _ (Zq _ z8))
def Inv.reD(I:Inv X ([(D,A)]++aa) σ H s)(a:AtD X D aa)(y:∀b,b≠D->h2.get? b=s.heap.get? b)(q:h2.get? D=some d)(z:∀v,d.data≠ .cell v):Inv X ([(D,d)]++aa) σ H {s with heap:=h2,toks:=t}:=by
 obtain⟨_,l,r,x,_⟩:=I.dZ;have u:Inv X aa σ H s:=I.pins_of λp i=>I.pin p (Zt _ (Zt _ i));have It:=u.turned (it:=D) (h':=h2) (t':=t) (λb o j e=>(y b j).trans e) l r (.inr a.up) a.ce a.pi;refine It.pins_of λp i=>?_;rcases mem_append.mp i with h|h
 ·have e:p=(D,d):=by simpa using h
  subst e;exact⟨q,l,r,x,z⟩
 ·exact It.pin p (Zt _ h)
section
variable {α:Type}
def XCv(X:Cx)(scope:Scope)(xe:XE):Prop:=∀cl s H C D fp aa(σ:St)use(Qv:VS)x s',Inv X aa σ H s->(∀b∈fp,FI X aa H b)->xe cl s H C fp (X.pn++aa) x s'->notedBy (model X.prog X.w) X.A (compEnvC scope cl C X.env) (λx s'=>compPost (model X.prog X.w) X.A X.xe use Qv (.ref D) C (.error x) s') x s'
def DW:XCv X scope xN:=λ_ _ _ _ _ _ _ _ _ _ _ _ _ _ h=>h.elim
abbrev Far(X:Cx)(z:Option Str)(cl:List (Str×hO)):Prop:=(∀x,X.fn x=true)->∀x c,cl.lookup x=some c->z=some x\/c∉ cA X.stack
def J9{iter}{e0:α}{ok}{ho}{RA}{ta}(G:QD X.prog X.w d mk tg iter ifs add e0 ok ho RA)(hx:XCv X scope xe)(hf:aZ X.env.scope scope X.N N' ix z)(hc:∀cl s H C fp aa,RD (eP z xe X N' scope cl s H C fp (X.pn++aa)))(hi:PIg RD X tg iter wi)
  (hg:∀cl s H C fp pn,PGk (eP z xe X N' scope cl s H C fp pn) tg ix g) (ht:∀cl s H C fp pn,gg (eP z xe X N' scope cl s H C fp pn) ifs tt) (he:∀cl s H C fp pn,Far X z cl->PAd (eP z xe X N' scope cl s H C fp pn) add ok RA ta)
  (hs:∀x,foldedSetIterable iter X.env x=pure x)     {R} (I:Inv X aa σ H s) (h:HE e0 ok wi g tt ta ix R σ H)
  (hpost:∀s' ys H' D C m,Inv X aa σ (upd H' D (ho D ys)) s'->R ys H'->H' D=none->s'.heap.Ns C m->X.bY.heap.objs.size<=C->C≠X.env.locals->(∀x c,X.env.cells.lookup x=some c->c≠C)->(∀p∈X.pn++aa,p.1≠C) ->
   upd H' D (ho D ys) C=none->compPost (model X.prog X.w) X.A X.xe use Qv (.ref D) C (.ok .next) s'):
  cn X (comprehension d scope X.env pos' mk false (eval iter X.env) use) Qv X.xe s:=by
 obtain⟨cl,hclos,c1,c2⟩:=T6 (env:=X.env) (scope:=scope) λy hy hyf=>by
  have:=hf.free y hy hyf;exact I.ok.has y.1 this
 obtain⟨ob0,fr0,nc0,ra0,bp⟩:=G.new;refine wpAny_comprehension_free (use:=use) G.cl hs hclos hf.kind hf.loc (aL (hi aa s σ H _ I h) λv s1 h1=>aL h1 λitv s2 h2=>?_);obtain⟨it,fp,tn,J,H2,e,I2,T,st2,f2,W,⟨m0,w0⟩,turn⟩:=h2;subst e
 have hlt:∀b∈fp,b<s2.heap.objs.size:=λb hb=>by
  obtain⟨o,e,_⟩:=T.obj _ _ st2 b hb;exact lt_size e
 refine bp _ _ _ _ (Rj (cl:=cl) hf.cf hf.pc λh₁ hns₁ hcl₁ old₁=>?_)
 dsimp only at hns₁ hcl₁ old₁ ⊢
 generalize hH2:s2.heap.push ob0=HP at hns₁ hcl₁ old₁ ⊢;have hC:HP.objs.size=s2.heap.objs.size+1:=by rw[←hH2,Heap.size_push]
 have hDC:s2.heap.objs.size≠HP.objs.size:=by rw[hC];exact zZ (Nat.lt_succ_self _)
 have hCle:s2.heap.objs.size<=HP.objs.size:=by rw[hC];exact Nat.le_succ _
 have hDZ:s2.heap.objs.size<HP.objs.size+1:=by rw[hC];lia
 have old:∀b o,s2.heap.get? b=some o->h₁.get? b=some o:=λb o e=>old₁ b o (hH2 ▸ Zy _ e);have hacc:h₁.get? s2.heap.objs.size=some ob0:=old₁ _ _ (hH2 ▸ Zo _ fr0);generalize hZZ:HP.objs.size+1=Z at *;generalize hCC:HP.objs.size=C at *;generalize fG:s2.heap.objs.size=D at *;have IX:=Nw (xe:=xe) (N':=N') (fp:=fp) I2 hf c1 c2 (by rw[fG];exact hCle) (by rw[fG];exact Nat.le_of_lt hDZ) f2 (by rw[fG];exact hlt) (tk:=s2.toks) old hns₁ hcl₁;have hDn:H2 D=none:=I2.aI.fresh (by rw[fG];exact zV _)
 have hDfs:D∉ cA X.stack:=λz=>by
  rcases mem_cons.mp (I2.cQ D z)with q|q
  ·have:=I2.lt;rw[←q,fG]at this;exact z5 _ this
  ·exact I2.nofs (by rw[fG];exact zV _) q
 have cellLt:∀x c,X.env.cells.lookup x=some c->c<D:=λx c e=>by
  obtain⟨v,z⟩:=I2.cell x c e;rw[←fG];exact z.lt
 have gf:∀x c,(fk z Z cl).lookup x=some c->c≠D:=λx c e=>(IB c1 e).elim (λq=>zZ (cellLt x c q)) (λq=>q.2 ▸ Nat.ne_of_gt hDZ);have pinLt:∀p∈X.pn++aa,p.1<D:=λp hp=>by rw[←fG];exact lt_size (I2.pin p hp).1
 have s0D:X.bY.heap.objs.size<=D:=by rw[←fG];exact I2.sz
 have locLt:X.env.locals<D:=by rw[←fG];exact I2.lt
 have sysD:(D==sysModules)=false:=by
  rw[beq_eq_false_iff_ne,←fG];exact Nat.ne_of_gt I2.big
 have gU:Far X z (fk z Z cl):=λhfn x c e=>(IB c1 e).elim (λq=>.inr λy=>by
  rcases mem_cons.mp (I2.cQ c y)with y|y
  ·exact I2.gf x c q y
  ·obtain⟨_,o,ho,_⟩:=I2.ok.cu.mem y
   exact absurd (Z2 (lt_size ho) (I2.ok.fH x c (hfn x) q)) (z5 _)) λq=>.inl q.1
 let X':Cx:=eP z xe X N' scope (fk z Z cl) s2 H2 C fp (X.pn++aa)
 have stat:∀{H':Hp}{ob:Obj},(∀b∈fp,H' b=none)->∀b∈fp,FI X' [(D,ob)] H' b:=λ{H' ob}hn b hb=>by
  refine⟨hn b hb,zZ (Z2 (hlt b hb) hCle),λz=>?_,.inl hb,λx c e=>(IB c1 e).elim (λq=>(f2 b hb).2.2.2.2.1 x c q) (λq=>q.2 ▸ Nat.ne_of_gt (Nat.lt_trans (hlt b hb) hDZ)),λp hp=>?_⟩
  ·exact IX.ok.d5 b hb z
  ·rcases mem_append.mp hp with z|z
   ·exact(f2 b hb).2.2.2.2.2 p z
   ·have e:p=(D,ob):=by simpa using z
    subst e;exact Nat.ne_of_gt (hlt b hb)
 have loop:∀s3:hX,s3={s2 with heap:=h₁,toks:=s2.toks} ->
   codeAny (model X.prog X.w) X.A (.compLoop d 0 (.ref it) (.ref D) (compEnvC scope (fk z Z cl) C X.env)) (compPost (model X.prog X.w) X.A X.xe use Qv (.ref D) C) s3:=by
  rintro s3 rfl
  refine codeAny_loop zJ (λn s'=>∃i ys ob H',Inv X' [(D,ob)] (HD ix σ) H' s'/\tn i s'.heap/\(∀b∈fp,H' b=none)/\W i n ys H'/\RA s'.heap D ys)
   (λn s4 hI=>?_) m0 ⟨0,e0,ob0,H2,IX.pins_of (λp hp=>by
    have q:p=(D,ob0):=by simpa using hp
    subst q
    exact⟨hacc,hDn,hDC,hDfs,nc0⟩),T.keep _ _ _ st2 (λb _ o e=>old b o e),λb hb=>(f2 b hb).1,w0,ra0 _ _ hacc⟩
  obtain⟨i,ys,ob,H4,I4,st4,fr4,w4,dd4⟩:=hI;rw[(G.turn _ _ _ _).1,(G.turn X.A _ _ _).2];refine wpAny_noted ?_;refine zS (E:=X'.xe) ?_ (λ_ _ q=>q) (λx s' q=>hx _ _ _ _ _ _ _ _ _ _ _ _ I2 f2 q);have pD4:=I4.pin (D,_) (Zt _ z8);rcases turn i n ys H4 w4 with⟨stop,hz,r⟩|⟨go,N,hN,step⟩
  ·refine zU (z9 (zU (aL (T.done X' zJ zJ zJ (hc _ _ _ _ _ _) i _ s4 _ H4 _ I4 (stat fr4) st4 stop) λr' s5 w=>?_)));obtain⟨hr,I5⟩:=w;subst hr;have pD:=I5.pin (D,_) (Zt _ z8);have Ib:Inv X aa σ H4 s5:=QC I2 f2 I5;have Ic:Inv X aa σ (upd H4 D (ho D ys)) s5:=Ib.track pD.2.1 (Nat.ne_of_gt locLt) (.inr s0D) (λx c e=>zZ (cellLt x c e)) (λp hp=>zZ (pinLt p hp)) (G.fin _ _ _ _ hz sysD (G.at_ _ _ _ _ dd4 λo e=>by rw[pD4.1]at e;cases e;exact pD.1));obtain⟨m5,n5,_⟩:=I5.loc
   refine zT (hpost s5 ys H4 D C m5 Ic r pD.2.1 n5 (Nat.le_trans s0D hCle) (Nat.ne_of_gt (Z2 locLt hCle)) (λx c e=>zZ (Z2 (cellLt x c e) hCle))
    (λp hp=>zZ (Z2 (pinLt p hp) hCle)) ?_)
   rw[AD (Ne.symm hDC)];exact I5.free
  ·refine zU (z9 (zU (aL (T.item X' zJ zJ zJ (hc _ _ _ _ _ _) i _ s4 _ H4 _ I4 (stat fr4) st4 go) λr' s5 k=>?_)));obtain⟨u,hr,h5⟩:=k;subst hr;refine zU (aL h5 λ_ s6 j=>?_);obtain⟨x,H6,I6,r6,y6,st6,fr6⟩:=j;have I6':=I6.pinned (stat fr6) (T.obj _ _ st6);refine zU (aL (hg _ _ _ _ _ _ _ s6 _ H6 x u _ I6' r6 (step x H6 y6)) λ_ s7 l=>?_);obtain⟨σ7,H7,I7,k7,q7⟩:=l;refine zU (aL (ht _ _ _ _ _ _ _ s7 σ7 H7 _ I7 q7) λb s8 a=>?_);obtain⟨H8,I8,q8⟩:=a
   have again:∀{H9:Hp}{s9:hX}{eV:α}{ob':Obj},Inv X' ([(D,ob')]++IY fp s6.heap) σ7 H9 s9->RA s9.heap D eV ->
     (∃m',m'<n/\W (i+1) m' eV H9)->∃m,m<n/\∃i ys ob H',Inv X' [(D,ob)] (HD ix σ) H' s9/\tn i s9.heap/\(∀b∈fp,H' b=none)/\W i m ys H'/\RA s9.heap D ys:=by
    intro H9 s9 eV ob' I9 rv' ⟨m',hm,w9⟩;refine⟨m',hm,i+1,eV,ob',H9,I9.unpinned.weak (I4.len.trans I9.len.symm) k7,T.keep _ _ _ st6 λb hb o e=>(I9.pin (b,o) (Zt _ (Zt _ (Df hb e)))).1,λb hb=>?_,w9,rv'⟩;obtain⟨o,e,d⟩:=T.obj _ _ st6 b hb;exact(I9.pin (b,o) (Zt _ (Zt _ (Df hb e)))).2.1
   have dd8:=G.at_ _ _ _ _ dd4 λo e=>by rw[pD4.1]at e;cases e;exact I8.dZ.1
   cases b with
   |false=>
    rw[zN Bool.false_ne_true]at q8;exact zT ⟨zJ,again I8 dd8 (hN _ _ q8).2⟩
   |true=>
    rw[zM rfl]at q8;refine zU (aL (he _ _ _ _ _ _ gU D ob ys _ s8 σ7 H8 N I8 ⟨by show s2.heap.objs.size<=D;rw[fG];exact zV _,gf,λp hp=>?_⟩ dd8 (λeV H' q=>(hN _ _ q).1) q8) λ_ s9 f=>by obtain⟨ob9,ys9,H9,I9,d9,n9⟩:=f;exact zT ⟨rfl,again I9 d9 (hN _ _ n9).2⟩);rcases mem_append.mp hp with z'|z'
    ·exact zZ (pinLt p z')
    ·exact zZ (hlt p.1 (Jv z').1)
 exact G.start _ _ _ _ _ _ (loop _ zJ) (T.self _ 0 _ _ _ (T.keep _ _ _ st2 λb _ o e=>old b o e) (loop _ zJ))
def GC{a}{u:α}{ok}{t}{q}{v}(G:QD X.prog X.w d mk tg a ifs add u ok t q)(T:XCv X scope xe)(E:aZ X.env.scope scope X.N N' ix z)(hc:∀cl s H C fp i,RD (eP z xe X N' scope cl s H C fp (X.pn++i)))(R:PIg RD X tg a wi)
  (O:∀cl s H C fp l,PGk (eP z xe X N' scope cl s H C fp l) tg ix g) (ht:∀cl s H C fp l,gg (eP z xe X N' scope cl s H C fp l) ifs tt) (Y:∀cl s H C fp l,Far X z cl->PAd (eP z xe X N' scope cl s H C fp l) add ok q v) (hs:∀x,foldedSetIterable a X.env x=pure x) (L:eval d X.env=comprehension d scope X.env pos' mk false (eval a X.env)):
  PE X d (λσ H Q=>HE u ok wi g tt v ix (λys H'=>∀p,H' p=none->Q (.ref p) (upd H' p (t p ys))) σ H):=by
 intro i s σ H Q I h;rw[L];refine J9 (use:=none) G T E hc R O ht Y hs I h λM ys H' D C m y r S hn F A B J N=>?_;exact⟨m,hn,λZ j=>⟨.ref D,_,y.turned (it:=C) (t':=M.toks) (λb o U e=>(j.2 b U).trans e) N A (.inr F) B J,zJ,r D S⟩⟩
def L1{j}{T:α}{ok}{S}{R}{U}(hN:X.N.Nodup)(L:X.N[i]?=some x)(y:X.env.scope.names.lookup x=some .local)(B:swapsWith d (some (.Name x py)) t.line X.env=pure true)
  (G:QD X.prog X.w d mk tg j ifs add T ok S R) (hx:XCv X scope xe) (hf:aZ X.env.scope scope X.N N' ix z) (hc:∀cl s H C fp l,RD (eP z xe X N' scope cl s H C fp (X.pn++l))) (hi:PIg RD X tg j wi)
  (hg:∀cl s H C fp u,PGk (eP z xe X N' scope cl s H C fp u) tg ix g) (ht:∀cl s H C fp u,gg (eP z xe X N' scope cl s H C fp u) ifs tt) (he:∀cl s H C fp u,Far X z cl->PAd (eP z xe X N' scope cl s H C fp u) add ok R U) (hs:∀x,foldedSetIterable j X.env x=pure x)
  (hd:evalThenUse d X.env (assign (.Name x py) X.env)=(do let _ ←comprehension d scope X.env pos' mk false (eval j X.env) (some (assign (.Name x py) X.env)))):
  PS X (.Assign [.Name x py] d t) (λD σ H=>HE T ok wi g tt U ix (λys H'=>∀p,H' p=none->D.nx (σ.set i (some (.ref p))) (upd H' p (S p ys))) σ H):=by
 intro l s σ H D I h;rw[exec_Assign_Name_used _ _ _ _ B];refine zU (z9 (zU ?_));rw[hd];refine zU (aL (J9 (use:=some (assign (.Name x py) X.env)) (Qv:=λ_ E=>SP X l D .next E) G hx hf hc hi hg ht he hs I h λE ys H' F C m Y r hD hn h1 O Q h4 h5=>?_) λ_ E hq=>zT (zT hq));show wpAny _ X.A (assign (.Name x py) X.env (.ref F)) _ _ _;refine wpAny_assign_Name (Jt (v:=.ref F) Y hN L (.inl y) zJ (λJ N w=>?_) (.inr y));obtain⟨a,M,Z⟩:=w
 have A:C≠a:=by
  rcases Z with z|z
  ·rw[z];exact O
  ·exact(Q x a z).symm
 refine⟨m,hn.sameBut M A,λh'' q=>?_⟩;exact⟨_,_,N.turned (it:=C) (t':=J.toks) (λb o hb e=>(q.2 b hb).trans e) h5 O (.inr h1) Q h4,r F hD⟩
abbrev XW(elt:Expr)(D:hO)(env:Env):Sem Unit:=do let _ ←call (.builtin "list.append") [.ref D,←eval elt env]
abbrev hoR(_:hO)(ys:hK):HO:=.lst ys
def RAl(h:Heap)(D:hO)(ys:hK):Prop:=∃ac k,Vals ys ac/\h.get? D=some {cls:=.type iB,data:=.seq (List.toArray ac) k}
def Et{d}:QD P w (.ListComp elt [⟨tg,d,ifs,0⟩] scope pos) (newList []) tg d ifs (XW elt) [] fy hoR RAl where
 cl:=rfl
 new:=⟨{cls:=.type iB,dict:=none,data:=.seq ([]:hE).toArray},rfl,(λv z=>nomatch z),λh D e=>⟨[],_,.nil,e⟩,λA Q E s h=>wpAny_newObj_type h⟩
 turn:=λA t D j=>⟨rfl,rfl⟩
 start:=λA R s t D j p l=>codeAny_compStart_list p l
 at_:=λh u D a ⟨i,k,r,e⟩ q=>⟨i,k,r,q _ e⟩
 fin:=λH h D a o _ y=>by obtain⟨i,k,r,e⟩:=y;exact ⟨o,i,k,r,e⟩
def GD(L:PE X elt te):PAd X (XW elt) fy RAl (fx te):=by
 intro D B u p s C H N I a ⟨d,k,j,E⟩ x q;obtain rfl:B=_:=Option.some.inj (I.dZ.1.symm.trans E);refine zU (aL (L _ s C H _ I q) λy i v=>?_);obtain⟨z,G,e,A,o⟩:=v;have r:(u++[z]).length<=sizeLine:=x _ _ o;rw[z7,length_singleton,j.length]at r;refine zU (call_meets F.slot_list_append ⟨_,e.dZ.1,zJ⟩ F.entry_list_append (F.args_list_append_2 _ _) (PySem.list_append D d.toArray k y (by rw[size_toArray];lia)) ⟨e.dZ.1,zT ?_⟩);have h:d.toArray.push y=(d++[y]).toArray:=by simp
 obtain⟨l,q⟩:∃l,(i.heap.update D (Obj.mapSeq (·.push y))).get? D=some {cls:=.type iB,data:=.seq (d++[y]).toArray l}:=⟨_,by rw[←h];exact PySem.IsL.update e.dZ.1 (·.push y)⟩;exact⟨_,_,G,e.reD (t:=i.toks) a (λb J=>Zx i.heap (Obj.mapSeq (·.push y)) (Ne.symm J)) q (λv z=>nomatch z),⟨_,_,j.append (.cons A .nil),q⟩,o⟩
end
abbrev g2(ω:FG):TG:=Tl ω 2 (IW (Ct 0) (IW (Ct 1) Tk))
section
def BW{a}(h)(d)(t:Hz X.env.scope scope X.N (x::h) (none::d)=true)(j:(x::h).Nodup)(l:scope.names.lookup x=some .local)(v:X.calm=true)(r:PI X (.Name x o) a u)
  (ht:∀cl s H C fp e,gg (Bj X (x::h) scope cl s H C fp e) ifs tt) (q:∀cl s H C fp e,PE (Bj X (x::h) scope cl s H C fp e) elt te) (hs:∀x,foldedSetIterable a X.env x=pure x:=by intro _;rfl):
  PE X (.ListComp elt [⟨.Name x o,a,ifs,0⟩] scope pos) (λσ H Q=>Ky u (Ct 0) tt te (none::d) (λys H'=>∀p,H' p=none->Q (.ref p) (upd H' p (.lst ys))) σ H):=
 GC Et DW (aZ.of t) (λ_ _ _ _ _ _=>v) r.g (λcl s H C fp e=>F9 (AU (i:=0) j rfl (.inl (Z5 l)) (.inr (Z5 l)))) ht (λ_ _ _ _ _ _ _=>GD (q _ _ _ _ _ _)) hs rfl
def GH{a}{y}{q}(j)(h)(z:Hz X.env.scope scope X.N (x::y::j) (none::none::h)=true)(e:(x::y::j).Nodup)(o:scope.names.lookup x=some .local)(l:scope.names.lookup y=some .local)(r:X.calm=true)
  (v:PI X (.Tuple [.Name x t,.Name y py] q pt) a A)
  (ht:∀cl s H C fp d,gg (Bj X (x::y::j) scope cl s H C fp d) ifs tt) (u:∀cl s H C fp d,PE (Bj X (x::y::j) scope cl s H C fp d) elt te) (hs:∀x,foldedSetIterable a X.env x=pure x:=by intro _;rfl):
  PE X (.ListComp elt [⟨.Tuple [.Name x t,.Name y py] q pt,a,ifs,0⟩] scope pos) (λσ H Q=>Ky A (g2 X.K) tt te (none::none::h) (λys H'=>∀p,H' p=none->Q (.ref p) (upd H' p (.lst ys))) σ H):=
 GC Et DW (aZ.of z) (λ_ _ _ _ _ _=>r) v.g (λcl s H C fp d=>Lz (BM (X:=Bj X (x::y::j) scope cl s H C fp d) r (AW (AU (i:=0) e rfl (.inl (Z5 o)) (.inr (Z5 o)))
  (AW (AU (i:=1) e rfl (.inl (Z5 l)) (.inr (Z5 l))) A9)))) ht (λ_ _ _ _ _ _ _=>GD (u _ _ _ _ _ _)) hs rfl
def Rk{a}{i}{z}(y:X.N.Nodup)(o:X.N[i]?=some z)(hz:X.env.scope.names.lookup z=some .local)(j)(d)(B:Hz X.env.scope scope X.N (x::j) (none::d)=true)(q:(x::j).Nodup)
  (t:scope.names.lookup x=some .local) (F:X.calm=true) (A:PI X (.Name x r) a E)
  (ht:∀cl s H C fp h,gg (Bj X (x::j) scope cl s H C fp h) ifs tt) (v:∀cl s H C fp h,PE (Bj X (x::j) scope cl s H C fp h) elt te)
  (l:swapsWith (.ListComp elt [⟨.Name x r,a,ifs,0⟩] scope pos) (some (.Name z u)) e.line X.env=pure true:=by rfl) (hs:∀x,foldedSetIterable a X.env x=pure x:=by intro _;rfl):
  PS X (.Assign [.Name z u] (.ListComp elt [⟨.Name x r,a,ifs,0⟩] scope pos) e) (λD σ H=>Ky E (Ct 0) tt te (none::d) (λys H'=>∀p,H' p=none->D.nx (σ.set i (some (.ref p))) (upd H' p (.lst ys))) σ H):=
 L1 y o hz l Et DW (aZ.of B) (λ_ _ _ _ _ _=>F) A.g (λcl s H C fp h=>F9 (AU (i:=0) q rfl (.inl (Z5 t)) (.inr (Z5 t)))) ht (λ_ _ _ _ _ _ _=>GD (v _ _ _ _ _ _)) hs rfl
end
def KB{a:Type}{ys:List a}(h:ys.length<=1000):ys.length<=sizeLine:=Nat.le_of_lt (AS h)
def KC{a}{ω}{xs}{α}{p}{ok}{B}{R}{l}(d:Nat->α->Hp->Prop)(u:d 0 p l)(j:∀i ys H,i<=xs.length->d i ys H->aH ω H a xs)(hz:∀i ys H,d i ys H->ok ys)(hs:∀i x ys H,xs[i]?=some x->d i ys H->B x ys (d (i+1)) H)(t:∀ys H,d xs.length ys H->R ys H):tW (gG ω a) p ok B R l:=by
 refine DV (n:=xs.length) d u hz (λi ys H e h=>?_) λys H h=>⟨⟨xs,j _ ys H (zV _) h,zV _⟩,t ys H h⟩;have r:xs[i]?=some xs[i]:=Z7 e;refine⟨⟨xs,xs[i],j i ys H (Nat.le_of_lt e) h,r⟩,?_⟩;rintro x o ⟨rfl,q⟩;exact hs i x ys o (q xs (j i ys o (Nat.le_of_lt e) h)) h
def Rl{a}{ω}{xs}{α}{p}{ok}{B}{R}{l}(d:Nat->α->Hp->Prop)(u:d 0 p l)(j:∀i ys H,i<=xs.length->d i ys H->aP ω H a xs)(hz:∀i ys H,d i ys H->ok ys)(hs:∀i x ys H,xs[i]?=some x->d i ys H->B x ys (d (i+1)) H)(t:∀ys H,d xs.length ys H->R ys H):tW (Itt ω a) p ok B R l:=by
 refine DV (n:=xs.length) d u hz (λi ys H e h=>?_) λys H h=>⟨⟨xs,j _ ys H (zV _) h,zV _⟩,t ys H h⟩;have r:xs[i]?=some xs[i]:=Z7 e;refine⟨⟨xs,xs[i],j i ys H (Nat.le_of_lt e) h,r⟩,?_⟩;rintro x o ⟨rfl,q⟩;exact hs i x ys o (q xs (j i ys o (Nat.le_of_lt e) h)) h
def CH{σ}{a}{ω}{xs}{te}{g}{tt}{e}{R}{h}(d:Nat->hK->Hp->Prop)(l:d 0 [] h)(o:∀i ys H,i<=xs.length->d i ys H->aH ω H a xs)(hz:∀i ys H,d i ys H->ys.length<=1000)(hs:∀i x ys H,xs[i]?=some x->d i ys H->bT g tt (fx te) e σ x ys (d (i+1)) H)(j:∀ys H,d xs.length ys H->R ys H):tW (gG ω a) [] fy (bT g tt (fx te) e σ) R h:=KC d l o (λi ys H q=>KB (hz i ys H q)) hs j
def Ip{σ}{a}{ω}{xs}{te}{g}{tt}{e}{R}{h}(d:Nat->hK->Hp->Prop)(l:d 0 [] h)(o:∀i ys H,i<=xs.length->d i ys H->aP ω H a xs)(hz:∀i ys H,d i ys H->ys.length<=1000)(hs:∀i x ys H,xs[i]?=some x->d i ys H->bT g tt (fx te) e σ x ys (d (i+1)) H)(j:∀ys H,d xs.length ys H->R ys H):tW (Itt ω a) [] fy (bT g tt (fx te) e σ) R h:=Rl d l o (λi ys H q=>KB (hz i ys H q)) hs j
def FM{σ}{te}{lo}{n}{g}{tt}{h}{R}{j}(a:Nat->hK->Hp->Prop)(o:a 0 [] j)(hz:∀i ys H,a i ys H->ys.length<=1000)(hs:∀i ys H,i<n->a i ys H->bT g tt (fx te) h σ (.int (lo+i)) ys (a (i+1)) H)(l:∀ys H,a n ys H->R ys H):tW (Itr lo n) [] fy (bT g tt (fx te) h σ) R j:=
 DV (n:=n) a o (λi ys H q=>KB (hz i ys H q)) (λi ys H d e=>⟨d,by rintro x p ⟨rfl,rfl⟩;exact hs i ys p d e⟩) λys H e=>⟨zV _,l ys H e⟩
section
def Inv.newOk(I:Inv X a σ H s)(d:s.heap.objs.size<=p):H p=none/\p≠X.env.locals/\X.bY.heap.objs.size<=p/\(∀x c,X.env.cells.lookup x=some c->c≠p)/\∀q∈X.pn++a,q.1≠p:=
 ⟨I.aI.fresh d,Nat.ne_of_gt (Z2 I.lt d),Nat.le_trans I.sz d,λx c e=>by
  obtain⟨v,z⟩:=I.cell x c e
  exact zZ (Z2 z.lt d),λq h=>zZ (Z2 (lt_size (I.pin q h).1) d)⟩
def Inv.freeze(I:Inv X aa σ H s)(h:H a=some (.dK kvs)):∃o,Inv X aa σ (upd H a (.cb o (.dK kvs))) s:=by
 obtain⟨z,y,j,r,i,l,ep,e,d⟩:=I.aI a _ h;refine⟨i,?_⟩;exact I.write (by rw[h];exact trivial) (.inl zJ) (λb u _ q=>q) ⟨i,e⟩ ⟨e,z,y,j,r,i,l,ep,e,d⟩
def FN(h:c8 X i t):c8 X i (λD σ H=>∃a kvs,H a=some (.dK kvs)/\∀o,t D σ (upd H a (.cb o (.dK kvs)))):=by
 intro d s σ H D I ⟨a,kvs,e,k⟩;obtain⟨o,j⟩:=I.freeze e;exact h d s σ _ D j (k o)
noncomputable def T9(o:Obj):Nat:=match o.data with
 |.dict _ ep=>ep
 |_=>0
def DX(I:Inv X aa σ H s)(h:H a=some (.cb o (.dK kvs))):kvs.length<=sizeLine/\(a==sysModules)=false/\∃vs,KV kvs vs/\s.heap.DictAt (Ac X.prog X.w) a vs (T9 o):=by
 obtain⟨e,z,y,vs,r,q,p,ep,j,l,d,i⟩:=I.aI a _ h;rw[e]at j;cases j;refine⟨z,y,vs,r,o,p,e,l,?_,i⟩;unfold T9;rw[d]
end
def KV.get{κ}:∀{kvs}{vs}{i:Nat}{a:κ×V},KV kvs vs->kvs[i]?=some a->∃v,vs[i]?=some (a.1,v)/\RelV a.2 v
 |_,_,_,_,.nil,e=>by simp at e
 |_,_,0,_,.cons r _,e=>by
  grind
 |_,_,i+1,a,.cons _ t,e=>by
  obtain⟨u,d,h⟩:=KV.get (t) (by trivial)
  simp_all
def Dl(h:(Ac P w).is k u=true):RelV (kV k) u:=by
 rcases BF (h)with⟨i,t,rfl,rfl⟩|⟨x,t,rfl,rfl⟩
 ·exact⟨t,zJ⟩
 ·exact⟨t,zJ⟩
def g8(a:hO)(o:Obj)(kvs:LK):It:=⟨λi H=>H a=some (.cb o (.dK kvs))/\i<kvs.length,λi H x H'=>∃p kv,H p=none/\x=.ref p/\kvs[i]?=some kv/\H'=upd H p (.tup [kV kv.1,kv.2]),
 λi H=>H a=some (.cb o (.dK kvs))/\kvs.length<=i⟩
def Ny(a it)(o)(kvs):
  Ll P w ω (.Tuple elts k0 pos) (g8 a o kvs) [it] it (λi h=>∃ok G,IsItemIter h it a i kvs.length (T9 o) ok G) where
 mem:=by simp
 obj:=λi h d b B=>by
  grind
 keep:=λi h N d k=>by
  grind
 item:=by
  intro X U S T hc i p s Y H E I L d R;subst U S T;obtain⟨r,Z⟩:=R;obtain⟨z,y,vs,l,O⟩:=DX I r;obtain⟨ok,G,d⟩:=d;have j:=l.length;obtain⟨q,t⟩:∃q,kvs[i]?=some q:=⟨_,Z7 Z⟩;obtain⟨v,hv,rv⟩:=KV.get l t;obtain⟨M,D,f2,J,C,F⟩:=L it (by simp);rw[j]at d;refine wpAny_pyNext_items_item d O hv λx N u Q hp hsz keep=>?_;obtain⟨n1,n2,n3,n4,n5⟩:=I.newOk (zV s.heap.objs.size);have I2:Inv X p Y (upd H s.heap.objs.size (.tup [kV q.1,q.2])) {s with heap:=N}:=(I.turned (t':=s.toks) keep M D J C F).track n1 n2 (.inr n3) n4 n5 ⟨by show 2<=sizeLine;decide,[x,v],.cons (Dl u) (.cons rv .nil),_,hp,rfl,_,rfl⟩;have fi:(upd H s.heap.objs.size (.tup [kV q.1,q.2])) it=none:=by rwa[AD (zZ (lt_size d))]
  refine⟨.ref s.heap.objs.size,zJ,wpAny_letOwnedTupleGo_items Q λh'' A sb=>?_⟩;refine⟨.ref s.heap.objs.size,_,I2.turned (λb o B e=>(sb.2 b B).trans e) fi D J C F,zJ,⟨_,q,n1,zJ,t,zJ⟩,⟨x,v,by rw[j];exact A⟩,λb B=>?_⟩
  simp_all
 done:=by
  intro X U S T hc i p s Y H E I L d R;subst U S T;obtain⟨r,Z⟩:=R;obtain⟨z,y,vs,l,O⟩:=DX I r;obtain⟨ok,G,d⟩:=d;have j:=l.length;rw[j]at d;obtain⟨M,D,f2,J,C,F⟩:=L it (by simp);exact wpAny_pyNext_items_end (I.ok.hd hc) d O (by grind) λN eb=>⟨zJ,I.turned (λb o B e=>eb b o B e) M D J C F⟩
 self:=λ_ _ _ _ _ d h=>by
  obtain⟨ok,G,e⟩:=d;exact W.kcp_self e h
def Vv(to:TE):TI:=λσ H R=>to σ H λx H1=>∃a o kvs,x=.ref a/\H1 a=some (.cb o (.dK kvs))/\R (g8 a o kvs) H1
def Iq{J}(M:PE X o to)(i:attributeBase o "items" X.env (eval o X.env)=eval o X.env:=by rfl)(j:(apos.endLine==dv.line)=true:=by rfl):
  PI X (.Tuple elts J pos) (.Call (.Attribute o "items" apos) [] [] dv) (Vv to):=by
 intro d s E H R I h;refine wpAny_Call_method0_late i j (aL (M d s E H _ I h) λv r v=>?_);obtain⟨x,F,u,L,a,C,l,N,p,q⟩:=v;subst N;cases L;obtain⟨D,O,_⟩:=Kv u (.inl ⟨l,.inr ⟨C,p⟩⟩);obtain⟨z,y,G,t,B⟩:=DX u p;refine⟨iT,"dict.items",plainAttrs_dict,slot_dict_items,type_dict_items,D,O,Calls.callWith_builtin rfl (PySem.evalArgs_none (call_meetsIn slot_dict_items D entry_dict_items (args_dict_items_1 _) (meets_dict_items (Ac X.prog X.w) a y) ⟨⟨G,B.dictOf⟩,?_⟩))⟩;have A:Inv X d E F {r with heap:=r.heap.push {cls:=.type "dict_items",data:=.fields #[.ref a]}}:=u.kept λb o e=>Zy _ e;refine wpAny_pyIter_items ⟨_,Zo _ rfl,rfl,rfl⟩ (B.push _) ?_;refine⟨_,[_],_,_,F,rfl,A.kept λb o e=>Zy _ e,Ny a _ C l,⟨.none,.none,by rw[t.length];exact Zo _ rfl⟩,λb Q=>?_,q⟩;have e:b=(r.heap.push {cls:=.type "dict_items",data:=.fields #[.ref a]}).objs.size:=by simpa using Q
 subst e;exact A.eA (zV _) (A.aI.fresh (zV _))
def Ite(ω:FG)(a:hO):It:=⟨λi H=>∃xs x,aH ω H a xs/\xs[i]?=some x,λi H x H'=>∃p y,H p=none/\x=.ref p/\(∀xs,aH ω H a xs->xs[i]?=some y)/\H'=upd H p (.tup [.int i,y]),λi H=>∃xs,aH ω H a xs/\xs.length<=i⟩
def QE(a e it)(A:e≠it):
  Ll P w ω (.Tuple elts k0 pos) (Ite ω a) [e,it] e (λi h=>∃j,IsEnum h e it i j/\h.IsListIter it a i) where
 mem:=by simp
 obj:=λi h t b y=>by
  obtain⟨j,F,o,e2,c,d⟩:=t
  grind
 keep:=λi h G t k=>by
  obtain⟨j,F,e2⟩:=t;exact⟨j,k e (by simp) _ F,e2.at λo q=>k it (by simp) o q⟩
 item:=by
  intro X Z T U hc i l s R H E I D t S;subst Z T U;obtain⟨xs,x,J,Y⟩:=S;obtain⟨M,N,p,hz⟩:=I.list J;obtain⟨u,hu,ru⟩:=N.get Y;obtain⟨j,C,L⟩:=t;obtain⟨f0,f1,f2,f3,f4,f5⟩:=D e (by simp);obtain⟨g0,O,g2,g3,g4,g5⟩:=D it (by simp);have hlt2:it<s.heap.objs.size:=by obtain⟨o,q,_⟩:=id L;exact lt_size q
  refine wpAny_pyNext_enum_item C L p.isList (x:=u) (by simp_all) A λG st' z hp hsz keep=>?_
  have I1:Inv X l R H {s with heap:=G,toks:=s.toks+1}:=by
   refine I.step (ch:=[e,it]) (λb y=>?_) (λb o _ _ y q _=>keep b o (by simp_all) (by simp_all) q) (λb o _ _ y q _=>⟨o.slots,keep b o (by simp_all) (by simp_all) q⟩)
    (λ_ _ _ _ n=>n) (λb o y q=>⟨o,keep b o (by simp_all) (by simp_all) q⟩) (λ_ _ q=>q) (λ_ _ _ q=>q) (λb ps q=>⟨#[],by trivial⟩) (λm hm=>?_) (λb u q=>?_) I.bare
   ·grind
   ·obtain⟨oL,es,ep,Q,r⟩:=hm;exact⟨oL,es,ep,keep _ oL (Ne.symm f1) (Ne.symm O) Q,r⟩
   ·refine(I.aI b u q).df (λc v hc q'=>keep c v ?_ ?_ q') (λ_ q=>q) λ_ _ q=>q
    ·grind
    grind
  obtain⟨n1,n2,n3,n4,n5⟩:=I.newOk (zV s.heap.objs.size);have I2:Inv X l R (upd H s.heap.objs.size (.tup [.int i,x])) {s with heap:=G,toks:=s.toks+1}:=I1.track n1 n2 (.inr n3) n4 n5 ⟨by show 2<=sizeLine;decide,[.int i s.toks,u],.cons ⟨_,rfl⟩ (.cons ru .nil),_,hp,rfl,_,rfl⟩;have fe:(upd H s.heap.objs.size (.tup [.int i,x])) e=none:=by rwa[AD (zZ (lt_size C))]
  have fi:(upd H s.heap.objs.size (.tup [.int i,x])) it=none:=by rwa[AD (by grind)]
  refine⟨.ref s.heap.objs.size,zJ,wpAny_letOwnedTupleGo_enum st' λh'' B sb=>?_⟩;refine⟨.ref s.heap.objs.size,_,I2.turned (λb o y q=>(sb.2 b y).trans q) fe f1 f3 f4 f5,zJ,⟨_,x,n1,zJ,λys hy=>by rw[I.list_inj hy J];exact Y,zJ⟩,⟨_,by exact_mod_cast B,z.extBut sb.extBut (Ne.symm A)⟩,λb y=>?_⟩
  grind
 done:=by
  intro X Z T U hc i l s R H E I D t S;subst Z T U;obtain⟨xs,J,Y⟩:=S;obtain⟨M,N,p,hz⟩:=I.list J;obtain⟨j,C,L⟩:=t;obtain⟨g0,O,g2,g3,g4,g5⟩:=D it (by simp);have hl:=N.length;exact wpAny_pyNext_enum_end (I.ok.hd hc) C L p.isList (by simp;lia) λG eb=>⟨zJ,I.turned (λb o y e=>eb b o y e) g0 O g3 g4 g5⟩
 self:=λ_ _ _ _ _ t h=>by
  obtain⟨j,F,_⟩:=t;exact wpAny_pyIter_enum F h
def XX(ω:FG)(tl:TA):TI:=λσ H R=>tl σ H λvs H1=>∃a,vs=[.ref a]/\(∃xs,aH ω H1 a xs)/\R (Ite ω a) H1
def UA(y:Gl X jJ)(t:X.mg jJ=none)(B:PA X [l] v)(hs:starEach [l] X.env=[(false,eval l X.env)]:=by rfl):
  PI X (.Tuple elts Q pos) (.Call (.Name jJ p) [l] [] dv) (XX X.K v):=by
 intro e s x H R I h;refine Z3 (FH I y t (by rfl) ?_);refine PyProof.Rows.callWith_type1 (aL (B dv e s x H _ I h) λM i w=>?_) hs rfl;obtain⟨N,z,d,A,a,G,⟨S,D⟩,q⟩:=w;subst G;obtain⟨u,rfl,C⟩:=BY A;cases C;obtain⟨o,J,pl,L⟩:=d.list D;refine call_enumerate_list pl.isList λO j E r keep=>?_;apply wpAny_pyIter_enum j;refine⟨_,[i.heap.objs.size+1,i.heap.objs.size],_,_,z,zJ,d.kept (t':=i.toks) keep,QE a _ _ (by simp),⟨_,j,E⟩,λb F=>?_,q⟩;rcases (by simpa using F)with rfl|rfl
 ·exact d.eA (Nat.le_succ _) (d.aI.fresh (Nat.le_succ _))
 ·exact d.eA (zV _) (d.aI.fresh (zV _))
noncomputable def Its(x:Str):It:=⟨λi _=>i<x.cps.size,λi H v H'=>H'=H/\∃c,x.cps[i]?=some c/\v=.str ⟨#[c]⟩,λi _=>x.cps.size<=i⟩
def Rm(it)(x)(t):
  Ll P w ω (.Name n pos) (Its x) [it] it (λi h=>h.IsStrIter it "str_ascii_iterator" x t i) where
 mem:=by simp
 obj:=λi h a b j=>by
  have e:b=it:=by simpa using j
  subst e;obtain⟨o,e,c,d⟩:=a;exact⟨o,e,λv z=>by simp_all⟩
 keep:=λi h L a k=>by
  obtain⟨o,e,r⟩:=a;exact⟨o,k it (by simp) o e,r⟩
 item:=by
  intro X G C D N i l s Q H E I p a B;subst G C D;have M:=B;obtain⟨A,u,O,F,q,y⟩:=p it (by simp);refine wpAny_pyNext_ascii_item a (Array.getElem?_eq_getElem M) λL J R=>?_;refine⟨_,zJ,zT ⟨.str ⟨#[x.cps[i]]⟩,H,I.turned (λb o j e=>(R.2 b j).trans e) A u F q y,⟨_,zJ⟩,⟨zJ,_,Array.getElem?_eq_getElem M,zJ⟩,J,λb j=>(p b j).1⟩⟩
 done:=by
  intro X G C D N i l s Q H E I p a B;subst G C D;obtain⟨A,u,O,F,q,y⟩:=p it (by simp);exact wpAny_pyNext_ascii_end (I.ok.hd N) a (Array.getElem?_eq_none B) λL S=>⟨zJ,I.turned (λb o j e=>S b o j e) A u F q y⟩
 self:=λ_ _ _ _ _ a h=>wpAny_pyIter_striter_ascii a h
def Y2(ts:TE):TI:=λσ H R=>ts σ H λv H1=>∃x,v=.str x/\x.cps.all (· < 128)=true/\R (Its x) H1
def Ir(y:PE X e ts):PI X (.Name n pos) e (Y2 ts):=by
 intro a s l H R I h;refine aL (y a s l H _ I h) λv d v=>?_;obtain⟨z,p,i,r,x,A,j,q⟩:=v;subst A;obtain⟨t,rfl⟩:=r;apply wpAny_pyIter_ascii j;refine⟨d.heap.objs.size,[d.heap.objs.size],_,_,p,zJ,i.kept λb o e=>Zy _ e,Rm _ x t,⟨_,Zo _ zJ,zJ,zJ⟩,λb u=>?_,q⟩;have e:b=d.heap.objs.size:=by simpa using u
 subst e;exact i.eA (zV _) (i.aI.fresh (zV _))
def Jk:entryFor table "proto.unchain"=some Builtin.«proto.unchain»:=entryFor_of_tree (by rfl)
section
def UB{α}{Q}(o:A.handled=some (.ref c))(i:c≠e)(t:s.heap.get? c=some oc)(a:oc.data=.fields l)(p:l[2]?=some .none)
  (r:s.heap.get? e=some oe) (d:oe.data=.fields q) (hz:2<q.size) (h:E (.ref e) {s with heap:=s.heap.update e (Obj.mapFields (·.setIfInBounds 2 (.ref c)))}):wpAny (model prog w) A (raiseNew (.ref e):Sem α) Q E s:=by
 refine zU (wpAny_handled ?_);rw[o]
 dsimp only
 rw[zM (by simp[i])];refine zU (Zl (wpAny_runValue (codeAny_builtin Jk ?_)));refine zU (wpAny_field t a p ?_);apply zT;exact zU (zS (wpAny_setField (M:=model prog w) (A:=A) (E:=E) (Q:=λ_ j=>E (.ref e) j) r d hz h) (λ_ j z=>wpAny_throw z) λ_ _ z=>z)
def D9(C:A.handled=some (.ref c))(H:s.heap.get? c=some oc)(a:oc.data=.fields x)(y:x[2]?=some .none)(p:c≠it)
  (e:s.heap.IsListIter it l i) (B:s.heap.IsList l xs) (F:xs[i]?=none) (h:∀h',Heap.ExtBut it s.heap h'->Q none {s with heap:=h'}):wpAny (model prog w) A (pyNext (.ref it)) Q E s:=by
 obtain⟨o,j,D,d⟩:=id e;obtain⟨I,q,_,J,r⟩:=B;refine zU (wpAny_attempt (wpAny_callSpecial?_slot e.typeIs slot_listiter_next (wpAny_call_entry slot_listiter_next e.typeIs entry_listiter_next ?_ (args_listiter_next _))));show wpAny _ _ (field (.ref it) 0 >>= _) _ _ s;refine zU (wpAny_field j d zJ ?_);refine zU (wpAny_field j d zJ ?_);refine zU (wpAny_seqItems q r ?_);simp[Int.toNat_natCast,F];refine zU (wpAny_rule (zU (wpAny_setField j d (by simp) ?_)));apply zU;refine zU (wpAny_newObj_type ?_ (by size_fits));refine zU (wpAny_of_eq (by rfl) (wpAny_newObj_type ?_ (by size_fits)));have v:=(Zx s.heap (Obj.mapFields (·.setIfInBounds 0 Value.none)) (Ne.symm p)).trans H;refine UB (C) (λz=>?_) (Zy _ (Zy _ v)) a y (Zo _ zJ) zJ (by grind) ?_
 ·have:=lt_size (Zy {cls:=.type iF,data:=.seq #[]} v);rw[z]at this;exact absurd this (z5 _)
 ·refine zU (wpAny_isInstance ⟨_,Zu _ (Zo _ zJ) zJ,zJ⟩ isSubtype_stop ?_);refine zT (h _ λb u G z=>?_);have t:=Zy {cls:=.type iF,data:=.seq #[]} ((Zx s.heap (Obj.mapFields (·.setIfInBounds 0 Value.none)) (Ne.symm G)).trans z);rw[Zx _ _ (Nat.ne_of_gt (lt_size t))];exact Zy _ t
end
def Sft(X:Cx):Prop:=∃e oe vs,X.A.handled=some (.ref e)/\(e,oe)∈X.pn/\oe.data=.fields vs/\vs[2]?=some .none
def fQ(X:Cx):Prop:=X.calm=true\/Sft X
def fQ.comp(h:fQ X):fQ (Bj X N' scope cl s H C fp (X.pn++aa)):=by
 rcases h with h|⟨e,j,i,a,b,c,d⟩
 ·exact .inl h
 ·exact .inr ⟨e,j,i,a,Zq _ b,c,d⟩
section
def Ro(j:fQ X)(I:Inv X aa σ H s)(t:FI X aa H it)(o:s.heap.IsListIter it l i)(p:s.heap.IsList l xs)(q:xs[i]?=none)
  (h:∀h',Heap.ExtBut it s.heap h'->Q none {s with heap:=h'}):cn X (pyNext (.ref it)) Q E s:=by
 rcases j with j|⟨e,r,u,a,b,c,d⟩
 ·exact wpAny_pyNext_list_end (I.ok.hd j) o p q h
 ·exact D9 a (I.pin (e,r) (by grind)).1 c d (t.2.2.2.2.2 (e,r) (by grind)) o p q h
end
def Nz(a it):VH fQ P w ω tg (gG ω a) [it] it (λi h=>h.IsListIter it a i):=by
 have T:=Ju (P:=P) (w:=w) (ω:=ω) (tg:=tg) a it;refine⟨T.obj,T.keep,?_,?_,T.self⟩
 ·intro X F B C G i j s S H E I r z A;subst F B C;obtain⟨Z,x,t,D⟩:=A;obtain⟨v,y,p,L⟩:=I.list t;obtain⟨u,hu,U⟩:=y.get D;obtain⟨O,M,f2,Y,J,N⟩:=r it (by simp);refine wpAny_pyNext_list_item z p.isList (x:=u) (by simp_all) λR q sb=>?_;obtain⟨o,e,c,d⟩:=id q;exact⟨u,zJ,Lm e c d qc ⟨x,H,I.turned (λb o l e=>(sb.2 b l).trans e) O M Y J N,U,⟨zJ,λys Q=>by rw[I.list_inj Q t];exact D⟩,q,λb l=>(r b l).1⟩⟩
 ·intro X F B C G i j s S H E I r z A;subst F B C;obtain⟨Z,t,D⟩:=A;obtain⟨v,y,p,L⟩:=I.list t;have f:=r it (by simp);have hl:=y.length;exact Ro G I f z p.isList (by simp;lia) λR eb=>⟨zJ,I.turned (λb o l e=>eb b o l e) f.1 f.2.1 f.2.2.2.1 f.2.2.2.2.1 f.2.2.2.2.2⟩
section
def Rp(A:PE X l t):PIg fQ X tg l (VE X.K t):=by
 intro d s u H R I h;refine aL (A d s u H _ I h) λv j v=>?_;obtain⟨x,y,i,z,a,e,⟨E,B⟩,q⟩:=v;subst e;cases z;obtain⟨r,C,p,D⟩:=i.list B;refine wpAny_pyIter_list p.isList ⟨j.heap.objs.size,[j.heap.objs.size],_,_,y,zJ,i.kept λb o e=>Zy _ e,Nz a _,⟨_,Zo _ zJ,zJ,zJ⟩,λb F=>?_,q⟩;obtain rfl:b=j.heap.objs.size:=by simp_all
 exact i.eA (zV _) (i.aI.fresh (zV _))
def QF{a}(h)(d)(r:Hz X.env.scope scope X.N (x::h) (none::d)=true)(i:(x::h).Nodup)(j:scope.names.lookup x=some .local)(u:fQ X)(q:PIg fQ X (.Name x l) a t)
  (ht:∀cl s H C fp e,gg (Bj X (x::h) scope cl s H C fp e) ifs tt) (o:∀cl s H C fp e,PE (Bj X (x::h) scope cl s H C fp e) elt te) (hs:∀x,foldedSetIterable a X.env x=pure x:=by intro _;rfl):
  PE X (.ListComp elt [⟨.Name x l,a,ifs,0⟩] scope pos) (λσ H Q=>Ky t (Ct 0) tt te (none::d) (λys H'=>∀p,H' p=none->Q (.ref p) (upd H' p (.lst ys))) σ H):=
 GC Et DW (aZ.of r) (λ_ _ _ _ _ _=>u.comp) q (λcl s H C fp e=>F9 (AU i rfl (.inl (Z5 j)) (.inr (Z5 j)))) ht (λ_ _ _ _ _ _ _=>GD (o _ _ _ _ _ _)) hs rfl
end
def N0{X}{s}{j:hE}(D:fQ X)(I:Inv X aa σ H s)(pl:s.heap.IsList p j.toArray):∃fp St,Walks X.prog X.w X.A.in1 s.heap.objs.size fp [s.heap.objs.size] j.toArray.size (λi v=>j.toArray[i]?=some v) St /\
  St 0 (s.heap.push {cls:=.type j9,data:=.fields #[.ref p,.int 0 0]})/\∀b∈fp,b<s.heap.objs.size+1:=by
 have F:p<s.heap.objs.size:=by obtain⟨o,e,_⟩:=id pl;exact lt_size e
 have st0:(s.heap.push {cls:=.type j9,data:=.fields #[.ref p,.int 0 0]}).IsListIter s.heap.objs.size p 0/\(s.heap.push {cls:=.type j9,data:=.fields #[.ref p,.int 0 0]}).IsList p j.toArray:=
  ⟨⟨_,Zo _ rfl,rfl,rfl⟩,pl.at λo e=>Zy _ e⟩
 rcases D with D|⟨e,u,N,a,b,c,d⟩
 ·refine⟨_,_,Walks.list (A:=X.A.in1) (I.ok.hd D) _ p (zZ F) j.toArray,st0,λb q=>?_⟩
  grind
 ·have G:=(I.pin (e,u) (by grind)).1;have M:=lt_size G;refine⟨[s.heap.objs.size,p,e],λi h=>(h.IsListIter s.heap.objs.size p i/\h.IsList p j.toArray)/\h.get? e=some u,⟨λb q=>by simp_all,λi h t l k=>⟨⟨l.1.1.at λo z=>k _ (by simp) o z,l.1.2.at λo z=>k _ (by simp) o z⟩,k e (by simp) u l.2⟩,?_,?_,λ_ _ _ _ l r=>wpAny_pyIter_listiter l.1.1 r⟩,⟨st0,Zy _ G⟩,λb q=>?_⟩
  ·intro i B Q E O l r;refine wpAny_pyNext_list_item l.1.1 l.1.2 (x:=j.toArray[i]) (by simp) λt L C=>?_;exact r _ t B.toks (by simp) ⟨⟨L,l.1.2.extBut C.extBut (zZ F)⟩,C.extBut e u (by grind) l.2⟩ λb o q z=>C.extBut b o (λy=>q (by simp[y])) z
  ·intro B Q E l r;exact D9 (a) l.2 c d (by grind) l.1.1 l.1.2 (by simp) λt z=>r t B.toks λb o q y=>z b o (λJ=>q (by simp[J])) y
  grind
noncomputable def O1(a p:hO):HO:=.ext λh=>h.IsItemsView p a
noncomputable def Rq(a p:hO):HO:=.ext λh=>h.IsValuesView p a
section
def Rr{X}{o}{to}{e}{i j}{id}{r}(t:Slot iT e id)(y:typeOf (.builtin id)=pure (.type kb))(A:MtR X id r)(E:PE X o to)
  (p:attributeBase o e X.env (eval o X.env)=eval o X.env:=by rfl) (q:(i.endLine==j.line)=true:=by rfl):
  PE X (.Call (.Attribute o e i) [] [] j) (λσ H Q=>to σ H λx u=>∃a,x=.ref a/\IsD u a/\r x [] u Q):=by
 intro l s σ H Q I h;refine wpAny_Call_method0_late p q (aL (E l s σ H _ I h) λv B v=>?_);obtain⟨x,u,z,D,a,F,d,q1⟩:=v;subst F;cases D;obtain⟨C,G,_⟩:=Kv z d;exact⟨iT,id,plainAttrs_dict,t,y,C,G,Calls.callWith_builtin zJ (PySem.evalArgs_none (A l B σ u (.ref a) [] (.ref a) [] Q z zJ .nil q1))⟩
def Rs:MtR X "dict.items" (λx xs H Q=>∃a kvs,x=.ref a/\xs=[]/\Rd H a (.dK kvs)/\∀p,H p=none->Q (.ref p) (upd H p (O1 a p))):=by
 rintro i s E H x xs v C Q I u A ⟨a,kvs,rfl,rfl,l,q⟩;cases u;cases A;obtain⟨z,y,t,j,d⟩:=CZ I.aI l;refine call_meetsIn slot_dict_items d.typeIs entry_dict_items (args_dict_items_1 _) (meets_dict_items (Ac X.prog X.w) a y) ⟨⟨t,d⟩,?_⟩;refine⟨.ref s.heap.objs.size,_,I.laid (o:=O1 a s.heap.objs.size) (λb o e=>Zy _ e) (zV _) ⟨⟨_,Zo _ zJ,zJ,zJ⟩,⟨_,Zo _ zJ⟩,λD B z k=>?_⟩,zJ,q _ (I.aI.fresh (zV _))⟩;obtain⟨h,e,r⟩:=z;exact⟨h,k h e,r⟩
def QG:MtR X "dict.values" (λx xs H Q=>∃a kvs,x=.ref a/\xs=[]/\Rd H a (.dK kvs)/\∀p,H p=none->Q (.ref p) (upd H p (Rq a p))):=by
 rintro i s E H x xs v C Q I u A ⟨a,kvs,rfl,rfl,l,q⟩;cases u;cases A;obtain⟨z,y,t,j,d⟩:=CZ I.aI l;refine call_meetsIn slot_dict_values d.typeIs entry_dict_values (args_dict_values_1 _) (meets_dict_values (Ac X.prog X.w) a y) ⟨⟨t,d⟩,?_⟩;refine⟨.ref s.heap.objs.size,_,I.laid (o:=Rq a s.heap.objs.size) (λb o e=>Zy _ e) (zV _) ⟨⟨_,Zo _ zJ,zJ,zJ⟩,⟨_,Zo _ zJ⟩,λD B z k=>?_⟩,zJ,q _ (I.aI.fresh (zV _))⟩;obtain⟨h,e,r⟩:=z;exact⟨h,k h e,r⟩
def CI{α d}{F}:∀{xs:List α}{ys:List d},xs.length=ys.length->(∀(j:Nat)x y,xs[j]?=some x->ys[j]?=some y->F x y)->Paired F xs ys
 | [],[],_,_=>.nil
 | [],_::_,h,_=>by simp at h
 |_::_,[],h,_=>by simp at h
 |x::xs,y::ys,h,k=>.cons (k 0 x y rfl rfl) (CI (by simp_all) λj a b e i=>k (j+1) a b (by trivial) (by trivial))
def N1(S:X.calm=true):aT X (.type iB) (λxs H Q=>∃a kvs,xs=[.ref a]/\Rd H a (.dK kvs)/\∀l,H l=none->Q (.ref l) (upd H l (.lst (kvs.map λp=>kV p.1)))):=by
 rintro B s Y H xs T Q I r ⟨a,kvs,rfl,D,q⟩;obtain⟨u,rfl,M⟩:=BY r;cases M;obtain⟨z,y,U,i,G⟩:=CZ I.aI D;obtain⟨ep,N⟩:=G.dictAt;have L:=i.length;refine W.kdl_call (W.kdl_dict y) (I.ok.hd S) N (by lia) λE Z acc C keep e o=>?_;refine⟨.ref s.heap.objs.size,_,I.laid keep (zV _) (show bD X.prog X.w _ E _ (.lst (kvs.map λp=>kV p.1))from⟨by simp_all,acc.toList,C,?_,qe⟩),zJ,q _ (I.aI.fresh (zV _))⟩
 refine CI (by have O:acc.toList.length=acc.size:=by simp
               rw[AQ,O,o.1,L]) λj v F h A=>?_
 rw[Array.getElem?_toList]at A;obtain⟨k,x,R,J⟩:=o.2 j F A;rw[z4]at h;cases t:kvs[j]? with
 |none=>rw[t]at h;cases h
 |some p=>
  rw[t]at h;simp at h;obtain⟨v2,d,_⟩:=KV.get i t;rw[R]at d;simp at d;rw[←h,←d.1];exact Dl J
def N2(T:X.calm=true):aT X (.type iB) (λxs H Q=>∃p a kvs,xs=[.ref p]/\H p=some (Rq a p)/\Rd H a (.dK kvs)/\∀l,H l=none->Q (.ref l) (upd H l (.lst (kvs.map (·.2))))):=by
 rintro A s σ H xs U Q I r ⟨p,a,kvs,rfl,B,F,q⟩;obtain⟨u,rfl,N⟩:=BY r;cases N;obtain⟨z,y,Y,i,L⟩:=CZ I.aI F;obtain⟨ep,O⟩:=L.dictAt;obtain⟨D,_⟩:=I.aI p _ B;have M:=i.length;refine W.kdl_call (W.kdl_values) (I.ok.hd T) ⟨D,O⟩ (by lia) λG tk acc E keep e o=>?_;refine⟨.ref s.heap.objs.size,_,I.laid keep (zV _) (show bD X.prog X.w _ G _ (.lst (kvs.map (·.2)))from⟨by simp_all,acc.toList,E,?_,qe⟩),zJ,q _ (I.aI.fresh (zV _))⟩
 refine CI (by have R:acc.toList.length=acc.size:=by simp
               rw[AQ,R,o.1,M]) λj v J h x=>?_
 rw[Array.getElem?_toList]at x;obtain⟨k,S⟩:=o.2 j J x;rw[z4]at h;cases t:kvs[j]? with
 |none=>rw[t]at h;cases h
 |some Z=>
  rw[t]at h;simp at h;obtain⟨v2,d,C⟩:=KV.get i t;rw[S]at d;simp at d
  rwa[←h,d.2]
def Kz(hc:X.calm=true):aT X (.builtin ll) (λxs H Q=>∃a kvs,xs=[.ref a]/\Rd H a (.dK kvs)/\kvs.length<64/\(∀h∈kvs,∃i,h.1=Sum.inl i) /\
  ∀l(L:List Int),H l=none->L.Perm (kvs.map λh=>match h.1 with|Sum.inl i=>i|Sum.inr _=>0)->L.Pairwise (· <= ·)->Q (.ref l) (upd H l (.lst (L.map V.int)))):=by
 rintro F s σ H xs us Q I r ⟨a,kvs,rfl,Y,h64,hk,q⟩;obtain⟨u,rfl,ru⟩:=BY r;cases ru;obtain⟨z,y,vs,D,dd⟩:=CZ I.aI Y;obtain⟨ep,da⟩:=dd.dictAt;have hl:=D.length;apply Calls.call_function_entry kind_sorted plain_sorted entry_sorted (args_sorted1 _);refine zU (zT ?_);refine zU (W.kdu_collect (W.kdl_dict y) (I.ok.hd hc) da (by lia) λG tk acc keep E=>?_)
 have U:acc.toList.length=kvs.length:=by
  have e0:acc.toList.length=acc.size:=by simp
  rw[e0,E.1,hl]
 refine zU (wpAny_newList ?_ (by lia))
 have d:IntsAre acc.toList (kvs.map λh=>match h.1 with|Sum.inl i=>i|Sum.inr _=>0):=by
  refine Dh (CI (by simp_all) λj v Z B N=>?_);rw[Array.getElem?_toList]at N;obtain⟨k,x,ex,C⟩:=E.2 j Z N;rw[z4,z4]at B;cases J:kvs[j]? with
  |none=>rw[J]at B;cases B
  |some h=>
   rw[J]at B;simp at B;obtain⟨v2,A,_⟩:=KV.get D J;rw[ex]at A;simp at A;obtain⟨i,R⟩:=hk h (by grind);rw[A.1,R]at C;rw[←B,R];exact Dl C
 have S:Inv X F σ H {s with heap:=G,toks:=tk}:=I.kept keep;have p:(G.push {cls:=.type iB,data:=.seq acc.toList.toArray}).get? G.objs.size=some (seqObj iB acc.toList.toArray 0):=Zo _ rfl;refine zU (Zl (wpAny_call_entry slot_list_sort ⟨_,p,zJ⟩ entry_list_sort (list_sort_tree p d (by lia) λM t a1 O a3=>⟨_,zJ,?_⟩) (args_list_sort _)));refine zT ⟨_,zJ,?_⟩;have T:t.length=kvs.length:=by rw[O.length_eq,AQ]
 refine⟨.ref G.objs.size,_,S.laid (o:=.lst (t.map V.int)) (λb o e=>?_) (zV _) ⟨by simp_all,M.toList,?_⟩,zJ,q _ t (S.aI.fresh (zV _)) O a3⟩
 ·rw[sortedHeap_old (zZ (lt_size e)) (lt_size (Zy _ e))];exact Zy _ e
 ·obtain⟨c,hcx⟩:=sortedHeap_at p;exact⟨c,Es a1,qe⟩
end
section
def DY(R:X.calm=true):aT X (.builtin "all") (λxs H Q=>∃(p:hO)(bs:List Bool),xs=[.ref p]/\aH X.K H p (bs.map V.bl)/\Q (.bl (bs.all id)) H):=by
 rintro E s σ H xs T Q I r ⟨p,bs,rfl,L,q⟩;obtain⟨u,rfl,J⟩:=BY r;cases J;obtain⟨a,C,pl,S⟩:=I.list L;have F:p<s.heap.objs.size:=by obtain⟨o,n,e,_⟩:=id pl;exact lt_size e
 have j:bs.length=a.length:=by have:=C.length;rwa[AQ]at this
 refine call_all_walk (wpAny_pyIter_list pl.isList ?_);refine⟨_,_,_,_,_,_,λi=>bs.getD i false,zJ,Walks.list (A:=X.A.in1) (I.ok.hd R) _ p (zZ F) a.toArray,⟨⟨_,Zo _ zJ,zJ,zJ⟩,pl.isList.at λo e=>Zy _ e⟩,λi v G M Z N O=>?_,λU tk keep=>?_⟩
 ·have D:a[i]?=some v:=by simpa using N
  have l:=(Z8.mp D).1;have B:bs[i]?=some (bs[i]'(by lia)):=Z7 (by lia);obtain⟨Y,d,t⟩:=C.get (i:=i) (x:=V.bl (bs[i]'(by lia))) (by simp_all);rw[D]at d;cases d;cases (t);apply Z0;have y:M (bs.getD i false) G:=O
  rwa[List.getD_eq_getElem?_getD,B]at y
 ·refine⟨.bl _,H,I.kept λb o e=>keep b o (by simp;exact zZ (lt_size e)) (Zy _ e),zJ,?_⟩
  have e:(List.range a.toArray.size).all (λi=>bs.getD i false)=bs.all id:=by
   rw[size_toArray,←j,Bool.eq_iff_iff,all_eq_true,all_eq_true];constructor
   ·intro h b B;obtain⟨i,l,rfl⟩:=List.mem_iff_getElem.mp B;have:=h i (by grind)
    rwa[List.getD_eq_getElem?_getD,Z7 l]at this
   ·intro h i l;have z:=mem_range.mp l;rw[List.getD_eq_getElem?_getD,Z7 z];exact h _ (by simp)
  rwa[e]
def ER(a:List Int):∀k,k<=a.length->preSum (λi=>a.getD i 0) k=(a.take k).sum
 |0,_=>by rfl
 |k+1,h=>by
  have d:k<a.length:=by lia
  simp only[preSum,ER a k (by lia)];rw[z0,sum_append];simp[Z7 d]
def KD(hc:fQ X):aT X (.builtin "sum") (λxs H Q=>∃(p:hO)(d:List Int),xs=[.ref p]/\aH X.K H p (d.map V.int)/\(∀n∈d,0<=n)/\d.sum<2^62/\Q (.int d.sum) H):=by
 rintro N s σ H xs us Q I r ⟨p,d,rfl,U,z,M,q⟩;obtain⟨u,rfl,T⟩:=BY r;cases T;obtain⟨A,J,pl,hz⟩:=I.list U;have hp:p<s.heap.objs.size:=by obtain⟨o,n,e,_⟩:=id pl;exact lt_size e
 have D:d.length=A.length:=by have:=J.length;rwa[AQ]at this
 have F:∀k,0<=(d.take k).sum:=λk=>by
  have:∀l:List Int,(∀n∈l,0<=n)->0<=l.sum:=λl=>by
   induction l with
   |nil=>simp
   |cons a r G=>intro h;rw[sum_cons];have:=h a z8;have:=G λn E=>h n (by grind);lia
  exact this _ λn E=>z n (by grind)
 have B:∀k,(d.take k).sum<=d.sum:=λk=>by
  have e:d.sum=(d.take k).sum+(d.drop k).sum:=by rw[←sum_append,List.take_append_drop]
  have:∀l:List Int,(∀n∈l,0<=n)->0<=l.sum:=λl=>by
   induction l with
   |nil=>simp
   |cons a r G=>intro h;rw[sum_cons];have:=h a z8;have:=G λn E=>h n (by grind);lia
  have:=this _ λn E=>z n (List.mem_of_mem_drop (i:=k) E)
  lia
 refine call_sum_walk (wpAny_pyIter_list pl.isList ?_);obtain⟨fp,St,W,st0,Y⟩:=N0 hc I pl.isList;refine⟨_,_,_,_,_,_,λi=>d.getD i 0,zJ,W,st0,λb hb=>?_,λi v Z=>?_,λj O=>?_,λh' tk R keep=>?_⟩
 ·simp_all
 ·have L:A[i]?=some v:=by simpa using Z
  have hi:=(Z8.mp L).1;obtain⟨u',C,t,S⟩:=J.get (i:=i) (x:=V.int (d[i]'(by lia))) (by simp_all);rw[L]at C;cases C;refine⟨t,?_⟩
  simp_all
 ·have y:j<d.length:=by rw[size_toArray]at O;lia
  rw[ER d (j+1) (by lia)];have h2:=B (j+1);have h3:d.getD j 0=d[j]:=by rw[List.getD_eq_getElem?_getD,Z7 y];rfl
  have h4:=z _ (List.getElem_mem y);have h5:(d.take (j+1)).sum=(d.take j).sum+d[j]:=by rw[z0,Z7 y,sum_append];simp
  have h6:=F j;show InLong (d.getD j 0)/\InLong _;unfold InLong
  lia
 ·refine⟨.int d.sum,H,I.kept λb o e=>keep b o (by simp;exact zZ (lt_size e)) (Zy _ e),⟨R,?_⟩,q⟩;rw[size_toArray,←D,ER d d.length (zV _),zY]
def Rt(d:X.calm=true):aT X (.builtin "sum") (λxs H Q=>∃(p:hO)(a:List Int),xs=[.ref p]/\aH X.K H p (a.map V.int)/\(∀n∈a,0<=n)/\a.sum<2^62/\Q (.int a.sum) H):=KD (.inl d)
def K0:MtR X "int.bit_length" (λx xs H Q=>∃i,x=.int i/\xs=[]/\Q (.int (Builtin.Int.intBits i)) H):=by
 rintro a s h H x xs v j Q I e d ⟨i,rfl,rfl,q⟩;obtain⟨t,rfl⟩:=e;cases d;exact call_int_bit_length ⟨.int _,H,I.tok _,⟨_,zJ⟩,q⟩
def Bu:cy X (compareOp .LtE) (λx y H Q=>∃i j,x=.str i/\y=.str j/\Q (.bl (!decide (j.cps.toList<i.cps.toList))) H):=by
 rintro a s h H x y v u Q I e d ⟨i,j,rfl,rfl,q⟩;obtain⟨t,rfl⟩:=e;obtain⟨l,rfl⟩:=d;exact PySem.P.le_str (Ax I q zJ)
def Jl:MtR X "dict.setdefault" (λx xs H Q=>∃a kvs k v,x=.ref a/\xs=[kV k,v]/\H a=some (.dK kvs)/\kvs.length<sizeLine /\
  (∀w,Am kvs k=some w->Q w H)/\(Am kvs k=none->Q v (upd H a (.dK (Ba kvs k v))))):=by
 rintro r s O H x xs u M Q I F G ⟨a,kvs,k,v,rfl,rfl,o,R,q1,q2⟩;cases F;obtain⟨S,t,rfl,rk,l⟩:=Hy G;obtain⟨z,y,A,d,p⟩:=Oy I.aI o;refine call_meetsIn slot_dict_setdefault p.typeIs entry_dict_setdefault (args_dict_setdefault_3 _ _ _) (PySem.kt_meets_setdefault (Ac X.prog X.w) a (EQ rk) y t) ⟨A,p,by rw[←d.length];exact z,λN D=>?_,λL B i C=>?_⟩
 ·have h:=d.val k;rw[D]at h;cases e:Am kvs k with
  |none=>rw[e]at h;exact False.elim h
  |some w=>rw[e]at h;exact⟨w,H,I.tok _,h,q1 w e⟩
 ·have h:=d.val k;rw[L]at h
  have e:Am kvs k=none:=by
   cases e:Am kvs k with
   |none=>rfl
   |some w=>rw[e]at h;trivial
  have J:∃q,B.get? a=some q:=let ⟨q,_,_,E,_⟩:=i;⟨q,E⟩
  have j:(Ba kvs k v).length<=sizeLine:=by have:=CY kvs k v;lia
  exact⟨v,_,F7 I (by rw[o];exact True.intro) C J (HB j y (d.put k l) i),l,q2 e⟩
def MA:aT X (.builtin iG) (λxs H Q=>∃v T t b,xs=[v,.ty T]/\cF X.K H v t/\W.kitOne X.K t (.type T)=some b/\Q (.bl b) H):=by
 rintro d s j H xs o Q I r ⟨v,T,t,b,rfl,ty,e,q⟩;obtain⟨u,l,rfl,i,a⟩:=Hy r;cases (a);exact Jy I i ty e λh=>⟨.bl b,H,I.tok h,zJ,q⟩
end
noncomputable def MC(d:Int):List Int->Int
 | []=>d
 |n::r=>r.foldl max n
def KF(d)(e)(n)(h:e≠ []):MC d (e++[n])=max (MC d e) n:=by
 cases e with
 |nil=>trivial
 |cons a r=>show(r++[n]).foldl max a=_;rw[List.foldl_append];rfl
def QH(a v):argsOk lZ ⟨[a],[(Str.ofString lW,v)]⟩:=by rfl
section
noncomputable def VJ:Option (Int×Tok)->Array Value
 |none=>#[]
 |some (m,t)=>#[.int m t,.int m t]
def QI{s:PySem.Shared}{A}{R}{a}{l}(hh:A.handled=none)(y:IntsAre a l)(hpI:p≠I)(L:S≠I)(hpS:p≠S)
  (hR:∀h' tk v,(∀b o,b≠I->b≠S->s.heap.get? b=some o->h'.get? b=some o)->(l=[]->v=d)->(l≠ []->∃t,v=.int (MC 0 l) t)->R (.ok (.ret v)) {s with heap:=h',toks:=tk}):
  ∀k i h tk c b,a.length-i=k->i<=a.length->h.IsListIter I p i->h.IsList p a.toArray->h.get? S=some {cls:=.type iB,data:=.seq (VJ b) c} ->
   (b=none->i=0)->(∀m t,b=some (m,t)->0<i/\m=MC 0 (l.take i))->(∀G o,G≠I->G≠S->s.heap.get? G=some o->h.get? G=some o) ->
   codeAny (model prog w) A (.builtin "max.loop" ⟨[.ref I,.none,.ref S],[(Str.ofString lW,d)]⟩) R {s with heap:=h,toks:=tk}:=by
 have hname:(toString lZ ++ toString ".loop")="max.loop":=by decide
 have bg:=y.length;intro k;induction k with
 |zero=>
  intro i h tk c b hk hi N hl Y J O keep;have e:i=a.length:=by lia
  apply codeAny_builtin entry_max_loop;refine zU (wpAny_seqItems Y rfl ?_);refine zU (wpAny_tryCatch (wpAny_pyNext_list_end (hh) N hl (by simp;lia) λh' eb=>?_));cases b with
  |none=>
   have hn:l=[]:=by
    have:=J rfl;exact List.eq_nil_of_length_eq_zero (by lia)
   exact zU (wpAny_rule (zT (hR h' tk d (λb o D E q=>eb b o D (keep b o D E q)) (λ_=>rfl) λz=>absurd hn z)))
  |some mt=>
   obtain⟨m,t⟩:=mt;obtain⟨T,hm⟩:=O m t rfl
   have F:l≠ []:=λz=>by
    simp_all
   refine zU (wpAny_updateSeq (eb S _ L Y) zJ (zU (wpAny_letGo (zT ?_))) dh);refine hR _ tk _ (λb o D E q=>(Zx _ _ (Ne.symm E)).trans (eb b o D (keep b o D E q))) (λz=>absurd z F) λ_=>⟨t,?_⟩
   simp_all
 |succ k ih=>
  intro i h tk c b hk hi N hl Y J O keep;have Q:i<a.length:=by lia
  have hv:=Z7 Q
  obtain⟨n,t,hn,hvt⟩:∃n t,l[i]?=some n/\a[i]=.int n t:=by
   have fD:i<l.length:=by lia
   obtain⟨u,hu,t,ru⟩:=(Es y).get (i:=i) (x:=V.int l[i]) (by simp_all);rw[hv]at hu;exact⟨l[i],t,Z7 fD,(Option.some.inj hu).trans ru⟩
  apply codeAny_builtin entry_max_loop;refine zU (wpAny_seqItems Y zJ ?_);refine zU (wpAny_tryCatch (wpAny_pyNext_list_item N hl (x:=.int n t) (by simp_all) λh' H sb=>?_));have B:=(sb.2 S L).trans Y;have U:=hl.at λo q=>(sb.2 p hpI).trans q;have C:=λG o D E q=>(sb.2 G D).trans (keep G o D E q);have M:l.take (i+1)=l.take i++[n]:=by rw[z0,hn];rfl
  have r:∀c0,(∀v,v=Value.int n t->(h'.update S (Obj.mapSeq λ_=>#[v,v])).get? S=some {cls:=.type iB,data:=.seq (VJ (some (n,t))) c0})->n=MC 0 (l.take (i+1)) ->
    codeAny (model prog w) A (.builtin "max.loop" ⟨[.ref I,.none,.ref S],[(Str.ofString lW,d)]⟩) R {s with heap:=h'.update S (Obj.mapSeq λ_=>#[.int n t,.int n t]),toks:=tk}:=λc0 e0 em=>
   ih (i+1) _ tk c0 (some (n,t)) (by lia) Q (H.at λo q=>(Zx _ _ L).trans q) (U.at λo q=>(Zx _ _ (Ne.symm hpS)).trans q) (e0 _ rfl) (λz=>by cases z)
    (λm t' z=>by cases z;lia) λG o D E q=>(Zx _ _ (Ne.symm E)).trans (C G o D E q)
  cases b with
  |none=>
   have hi0:=J rfl;show wpAny _ A.in1 (updateSeq S (λ_=>#[Value.int n t,Value.int n t]) >>= _) _ _ _;refine zU (wpAny_updateSeq B zJ ?_);refine zT ⟨plainId_quiet plain_max_loop _,r _ (λv e=>by subst e;exact get?_update_seq B λ_=>#[_,_]) ?_⟩;rw[M,hi0];rfl
  |some mt=>
   obtain⟨m,Z⟩:=mt;obtain⟨T,hm⟩:=O m Z rfl
   have F:l.take i≠ []:=λz=>by
    have:=congrArg List.length z;rw[zX,length_nil]at this
    lia
   show wpAny _ A.in1 (tryCatch (holding [Value.int n t,Value.int n t] (richCompare .Gt (.int n t) (.int m Z) >>= _)) _ >>= _) _ _ _
   refine zU (wpAny_tryCatch (Zl (zU (CmpOf.ints_gt (P:=λi v=>(i=0/\v=.int n t)\/(i=1/\v=.int m Z)) (λi=>if i=0 then n else m) (λi v h=>by
    rcases h with⟨rfl,rfl⟩|⟨rfl,rfl⟩
    ·simp
    simp) 0 1 _ _ _ _ _ (.inl ⟨rfl,rfl⟩) (.inr ⟨rfl,rfl⟩) ?_))))
   refine zU (Zl (Z0 ?_));refine zU (wpAny_letGo (zT ?_));by_cases X:n>m
   ·have e1:(λ(i j:Nat)=>decide ((if i=0 then n else m)>if j=0 then n else m)) 0 1=true:=Zm X;rw[e1];refine zU (wpAny_updateSeq B zJ (zU (wpAny_letGo ?_)) dh);refine zT ⟨plainId_quiet plain_max_loop _,r _ (λv e=>by subst e;exact get?_update_seq B λ_=>#[_,_]) ?_⟩;rw[M,KF 0 _ n F,←hm]
    lia
   ·have e1:(λ(i j:Nat)=>decide ((if i=0 then n else m)>if j=0 then n else m)) 0 1=false:=Zp X;rw[e1];refine zU (wpAny_letGo ?_)
    refine zT ⟨plainId_quiet plain_max_loop _,ih (i+1) _ tk c (some (m,Z)) (by lia) Q H U B (λz=>by cases z) (λm' t' z=>by
     cases z;refine⟨Nat.succ_pos _,?_⟩;rw[M,KF 0 _ n F,←hm]
     lia) C⟩
end
section
def O2(hc:X.calm=true)(hg:Gl X lZ)(hm:X.mg lZ=none)(he:PE X e te)(M:PE X c N)(hs:starEach [e] X.env=(false,eval e X.env)::starEach [] X.env:=by rfl)
  (r:backTo pos (starEach [e] X.env)=(false,eval e X.env)::backTo pos (starEach [] X.env):=by rfl):
  PE X (.Call (.Name lZ p) [e] [⟨some lW,c,kp⟩] pos) (λσ H Q=>te σ H λx B=>N σ B λy i=>∃(a:hO)(j:List Int)(d:Int),x=.ref a/\y=.int d/\aH X.K i a (j.map V.int)/\(j=[]->Q (.int d) i)/\(j≠ []->Q (.int (MC 0 j)) i)):=by
 intro l s σ H Q I h;refine Z3 (FH I hg hm boot_max ?_)
 let O:V->V->Hp->Prop:=λx y i=>∃(a:hO)(j:List Int)(d:Int),x=.ref a/\y=.int d/\aH X.K i a (j.map V.int)/\(j=[]->Q (.int d) i)/\(j≠ []->Q (.int (MC 0 j)) i)
 refine callWith_kw (aL (AA he AG hs pos l s σ H (λA B=>match A with| [x]=>N σ B (λy i=>O x y i)|_=>False) I h) λus s1 w=>?_) r (by rw[r];rfl);obtain⟨A,B,I1,J,q1⟩:=w
 match A,J,q1 with
 | [x],J,q1=>
  refine aL ((Ot (nm:=some lW) (kpos:=kp) M RZ) pos l s1 σ B (λA i=>match A with| [y]=>O x y i|_=>False) I1 q1) λus2 C k=>?_;obtain⟨F,i,S,G,q2⟩:=k
  match F,G,q2 with
  | [y],G,q2=>
   obtain⟨a,j,d,rfl,rfl,hq,k1,Z⟩:=q2;obtain⟨u,rfl,ru⟩:=BY J;cases ru;obtain⟨ud,rfl,td,E⟩:=BY G;subst E;obtain⟨T,U,pl,hz⟩:=S.list hq;have hp:a<C.heap.objs.size:=by obtain⟨o,n,e,_⟩:=id pl;exact lt_size e
   apply PyProof.Rows.kmk_tree kind_max plain_max entry_max (QH _ _);refine zU (wpAny_of_eq (zJ) ?_);refine zU (zT ?_);refine zU (wpAny_pyIter_list pl.isList ?_);refine zU (wpAny_newList ?_ (Nat.zero_le _));have L:(toString lZ ++ toString ".loop")="max.loop":=by decide
   have hS:(C.heap.push {cls:=.type j9,data:=.fields #[.ref a,.int 0 0]}).objs.size=C.heap.objs.size+1:=Heap.size_push ..
   refine zT ⟨plainId_quiet plain_max_loop _,QI (s:=C) (I.ok.hd hc) (Dh U) (zZ hp) (by simp_all) (by lia)
    (λh' tk v keep e1 Y=>?_) _ 0 _ _ 0 none rfl (Nat.zero_le _) ⟨_,Zy _ (Zo _ rfl),rfl,rfl⟩ (pl.isList.at λo q=>Zy _ (Zy _ q)) (Zo _ rfl) (λ_=>rfl) (λm t z=>by cases z) λb o h1 h2 q=>Zy _ (Zy _ q)⟩
   have R:Inv X l σ i {C with heap:=h',toks:=tk}:=S.kept λb o q=>keep b o (zZ (lt_size q)) (by rw[hS];exact zZ (Nat.lt_succ_of_lt (lt_size q))) q;by_cases D:j=[]
   ·rw[e1 D];exact⟨.int d,i,R,⟨td,zJ⟩,k1 D⟩
   ·obtain⟨t,ev⟩:=Y D;rw[ev];exact⟨.int _,i,R,⟨t,zJ⟩,Z D⟩
end
def aF(H:Hp):List hO->List (V×V)->Prop:=Paired λb p=>H b=some (.tup [p.1,p.2])
def aF.same(s:∀b o,H b=some o->H' b=some o)(h:aF H as ps):aF H' as ps:=Paired.mapP h λ_ _ e=>s _ _ e
def Inv.trackTups(v:Paired (λa p=>∃i,Vals [p.1,p.2] i/\IsTup s.heap a i.toArray) l o):∀H,Inv X d σ H s->l.Pairwise (· < ·) ->
  (∀a∈l,H a=none/\a≠X.env.locals/\X.bY.heap.objs.size<=a/\(∀x c,X.env.cells.lookup x=some c->c≠a)/\∀q∈X.pn++d,q.1≠a)->∃H',Inv X d σ H' s/\aB H H'/\aF H' l o:=by
 induction v with
 |nil=>intro H I _ _;exact⟨H,I,aB.refl H,.nil⟩
 | @cons a p l o h v F=>
  intro H I z j;obtain⟨i,A,ht⟩:=h;obtain⟨N,G⟩:=pairwise_cons.mp z;obtain⟨t,M,E,D,L⟩:=j a z8;have J:Inv X d σ (upd H a (.tup [p.1,p.2])) s:=I.track t M (.inr E) D L ⟨by show 2<=sizeLine;decide,i,A,ht⟩;have C:aB H (upd H a (.tup [p.1,p.2])):=λb u e=>by rwa[AD (AJ e t)]
  obtain⟨H',y,r,B⟩:=F _ J G (λb O=>by
   obtain⟨q1,q2⟩:=j b (by grind)
   exact⟨by rw[AD (by grind)];exact q1,q2⟩)
  exact⟨H',y,C.trans r,.cons (r _ _ aA) B⟩
def N3(hc:X.calm=true):aT X (.type iB) (λxs H Q=>∃p a kvs,xs=[.ref p]/\H p=some (O1 a p)/\Rd H a (.dK kvs) /\
  ∀l h H',aB H H'->H l=none->H' l=some (.lst (h.map V.ref))->aF H' h (kvs.map λo=>(kV o.1,o.2))->Q (.ref l) H'):=by
 rintro D s σ H xs us Q I r ⟨p,a,kvs,rfl,U,hd,q⟩;obtain⟨u,rfl,ru⟩:=BY r;cases ru;obtain⟨z,y,vs,B,dd⟩:=CZ I.aI hd;obtain⟨ep,da⟩:=dd.dictAt;obtain⟨Z,_⟩:=I.aI p _ U;have hl:=B.length;refine W.kdx_call (I.ok.hd hc) Z da (by lia) λO tk acc c h keep e S G C=>?_;obtain⟨M,n2,n3,n4,n5⟩:=I.newOk (zV s.heap.objs.size);have el:acc=(h.map Value.ref).toArray:=by rw[←C]
 have I2:Inv X D σ (upd H s.heap.objs.size (.lst (h.map V.ref))) {s with heap:=O,toks:=tk}:=(I.kept keep).track M n2 (.inr n3) n4 n5 ⟨by simp_all,h.map Value.ref,c,CI (by simp_all) λj v w' E F=>by
  rw[z4]at E F;cases A:h[j]? with
  |none=>rw[A]at E;cases E
  |some b=>rw[A]at E F;cases E;cases F;rfl,by simp_all⟩
 have J:Paired (λa p=>∃t,Vals [p.1,p.2] t/\IsTup O a t.toArray) h (kvs.map λo=>(kV o.1,o.2)):=(CI (by simp_all) λj b pr eb d=>by
   obtain⟨L,k,x,ex,hk,ho⟩:=G.pairs j b eb;rw[z4]at d;cases A:kvs[j]? with
   |none=>simp_all
   |some o=>
    rw[A]at d;simp at d;obtain⟨v2,i,Y⟩:=KV.get B A;rw[ex]at i;simp at i;subst d;refine⟨[L,x],.cons ?_ (.cons ?_ .nil),_,ho,zJ,_,zJ⟩
    ·rw[←i.1];exact Dl hk
    ·rwa[i.2])
 obtain⟨H',T,R,t'⟩:=Inv.trackTups J _ I2 G.rise (λb hb=>by
   have N:=G.above b hb;obtain⟨m1,m2,m3,m4,m5⟩:=I.newOk (Nat.le_of_lt N)
   exact⟨by rw[AD (by lia)];exact m1,m2,m3,m4,m5⟩)
 exact⟨.ref s.heap.objs.size,H',T,zJ,q _ h H' (λb u e=>R b u (by rwa[AD (AJ e M)])) M (R _ _ aA) t'⟩
mutual
def CJ(ω:FG)(H:Hp):PyData->V->Prop
 |.none,v=>v=.aO
 |.bool b,v=>v=.bl b
 |.int i,v=>v=.int i
 |.str x,v=>v=.str x
 |.list ds,v=>∃a xs,v=.ref a/\aH ω H a xs/\Bq ω H ds xs
 |.tuple ds,v=>∃a xs,v=.ref a/\aP ω H a xs/\Bq ω H ds xs
 |.dict _,_=>False
def Bq(ω:FG)(H:Hp):List PyData->hK->Prop
 | [],xs=>xs=[]
 |d::ds,xs=>∃x r,xs=x::r/\CJ ω H d x/\Bq ω H ds r
end
section
mutual
def Inv.reads(I:Inv X aa σ H s):∀d v u,RelV v u->CJ X.K H d v->∃y,Reads s.heap u d y
 |.none,v,u,r,h=>by
  have e:v=.aO:=by simpa[CJ]using h
  subst e;cases r;exact⟨_,.none⟩
 |.bool b,v,u,r,h=>by
  have e:v=.bl b:=by simpa[CJ]using h
  subst e;cases r;exact⟨_,.bool b⟩
 |.int i,v,u,r,h=>by
  have e:v=.int i:=by simpa[CJ]using h
  subst e;obtain⟨t,rfl⟩:=r;exact⟨_,.int i t⟩
 |.str x,v,u,r,h=>by
  have e:v=.str x:=by simpa[CJ]using h
  subst e;obtain⟨t,rfl⟩:=r;exact⟨_,.str x t⟩
 |.list C,v,u,r,h=>by
  obtain⟨a,A,rfl,z,p⟩:=h;cases r;obtain⟨j,l,⟨o,n,e,c,_,q⟩,_⟩:=I.list z;obtain⟨y,B⟩:=I.readsAll C A j l p;exact⟨_,.list e c q (by simpa using B)⟩
 |.tuple C,v,u,r,h=>by
  obtain⟨a,A,rfl,z,p⟩:=h;cases r;obtain⟨j,l,⟨o,e,c,n,q⟩,_⟩:=I.tuple z;obtain⟨y,B⟩:=I.readsAll C A j l p;exact⟨_,.tuple e c q (by simpa using B)⟩
 |.dict D,v,u,r,h=>by
  trivial
def Inv.readsAll(I:Inv X aa σ H s):∀ds xs a,Vals xs a->Bq X.K H ds xs->∃e,ReadsAll s.heap a ds e
 | [],xs,a,r,h=>by
  subst (by simpa[Bq]using h);cases r;exact⟨_,.nil⟩
 |d::ds,xs,a,r,h=>by
  obtain⟨x,j,rfl,i,l⟩:=h;cases r with
  |cons p q=>
   obtain⟨e,o⟩:=I.reads d x _ p i;obtain⟨bs,t⟩:=I.readsAll ds j _ q l;exact⟨_,.cons o t⟩
end
end
section
def Vw(ω)(t:X.K=ω)(i:X.A.units+64<cLine):cy X (compareOp .Eq) (λx y H Q=>∃d a,CJ ω H d x/\CJ ω H a y/\SeqAt.shaped d=true/\SeqAt.shaped a=true/\Q (.bl (PyData.eqv d a)) H):=by
 subst t;rintro e s B H x y v u Q I z p ⟨d,a,o,h,l,A,q⟩;obtain⟨C,r⟩:=I.reads d x v z o;obtain⟨bs,j⟩:=I.reads a y u p h;exact eq_dataH r j l A i ⟨.bl _,H,I,zJ,q⟩
def Iu(ω)(t:X.K=ω)(i:X.A.units+64<cLine):cy X (compareOp .NotEq) (λx y H Q=>∃d a,CJ ω H d x/\CJ ω H a y/\SeqAt.shaped d=true/\SeqAt.shaped a=true/\Q (.bl (!PyData.eqv d a)) H):=by
 subst t;rintro e s B H x y v u Q I z p ⟨d,a,o,h,l,A,q⟩;obtain⟨C,r⟩:=I.reads d x v z o;obtain⟨bs,j⟩:=I.reads a y u p h;exact ne_dataH r j l A i ⟨.bl _,H,I,zJ,q⟩
def Vx(ω)(A:X.K=ω)(j:X.A.units+64<cLine):cy X (compareOp .Eq) (λx y H Q=>∃(a b:hO)(e d:List Int),x=.ref a/\y=.ref b/\aH ω H a (e.map V.int)/\aH ω H b (d.map V.int)/\Q (.bl (decide (e=d))) H):=by
 subst A;rintro h s E H x y v u Q I B t ⟨a,b,e,d,rfl,rfl,p,i,q⟩;cases B;cases t;obtain⟨C,z,l,_⟩:=I.list p;obtain⟨D,o,r,_⟩:=I.list i;exact W.ke_eq_ints l.isList r.isList (Dh z) (Dh o) j ⟨.bl _,H,I,zJ,q⟩
def IC(F:aE X.prog X.w X.K X.mg X.base aS k f fd [hZ] sp)(G:aJ (k+1) X.A)(J:Binds X.K fd [hZ] [])(h:Nj X.K C lp f):
  aT X (.builtin "len") (λxs H Q=>∃a j fs,xs=[.ref a]/\H a=some (.ins C j fs)/\sp [.ref a] H (λv H'=>∃n:Nat,v=.int (n)/\n<2^62/\Q (.int (n:Int)) H') E0):=by
 rintro i s R H xs N Q I r ⟨a,j,fs,rfl,p,q⟩;obtain⟨u,rfl,E⟩:=BY r;cases E;obtain⟨m,D⟩:=I.fr;obtain⟨L,B,_⟩:=Dg I.aI p;obtain⟨M,z,_⟩:=B.look;apply W.len_K D I.mod.kin z h.at_ h.fn;refine wpAny_call (codeAny_mono (F.run X.A.in1 X.stack s H ⟨[.ref a],[]⟩ [.ref a] [.ref a] _ E0 G.in1 I.eB.in1 (J s [.ref a] I.cp rfl) (.cons rfl .nil) q) λx O d=>?_);cases x with
 |error e=>exact d.elim
 |ok fl=>
  cases fl with
  |ret u=>
   obtain⟨v,H',l,o,n,A,S,y⟩:=I.after d;subst A;obtain⟨t,rfl⟩:=o;exact⟨⟨Z1 _,by lia⟩,.int n,H',l.tok _,⟨_,zJ⟩,y⟩
  |next=>exact False.elim d
  |brk=>exact False.elim d
  |cont=>exact False.elim d
def Vy(C:hO)(sp:Sp)(gV:hK->hK->hK)(E:XK)(t tk:TA):TE:=λσ H Q=>t σ H λvs H1=>tk σ H1 λzs H2=>∀x dx,H2 x=none->H2 dx=none->dx≠x ->
 sp (gV (.ref x::vs) zs) (upd (upd H2 dx (.own x)) x (.ins C dx [])) (λv H3=>v=.aO/\Q (.ref x) H3) E
def Ru(M:Mk X.K C f)(F:aE X.prog X.w X.K X.mg X.base aS k f fd ps sp)(hr:aJ (k+1) X.A)(hg:Gl X x)(Z:X.mg x=some (.ref C))(O:Nr X.K fd ps ks g gV)
  (S:PA X (e::es) t) (D:PK X d tk) (y:(backToKw pos (keywordEach d X.env)).all (·.1.isSome)=true:=by rfl) (A:(backToKw pos (keywordEach d X.env)).filterMap (·.1)=ks:=by rfl)
  (E:dr x:=by decide) (he:et X e es:=by rfl)
  (B:((backTo pos (starEach (e::es) X.env)).any (·.1)||(backToKw pos (keywordEach d X.env)).any (·.1.isNone))=false:=by rfl):
  PE X (.Call (.Name x p) (e::es) d pos) (Vy C sp gV E0 t tk):=by
 intro i s L H Q I h;refine Z3 (Bv I hg Z ?_ E);refine W.callWith_KW I.ok.mod.kin M.kp y (aL (S pos i s L H _ I h) λo s1 w=>?_) B he;obtain⟨vs,H1,I1,r,q⟩:=w;refine aL (D pos i s1 L H1 _ I1 q) λl j ⟨U,H2,z,rz,q2⟩=>⟨z.cp,?_⟩;rw[A];have N:=q2 (j.heap.objs.size+1) j.heap.objs.size (z.aI.fresh (Nat.le_succ _)) (z.aI.fresh (zV _)) (by simp);have G:=Inv.made (C:=C) z;have J:Vals (gV (V.ref (j.heap.objs.size+1)::vs) U) (g (Value.ref (j.heap.objs.size+1)::o) l):=O.rel (.cons rfl r) rz;have hl:(g (Value.ref (j.heap.objs.size+1)::o) l).length=ps.length:=by rw[←J.length];exact F.len _ _ _ _ N
 refine wpAny_call (Lo z.cp M.makes M.init (beq_iff_eq.mp M.fn) (codeAny_mono (F.run _ X.stack _ _ ⟨Value.ref (j.heap.objs.size+1)::o,ks.zip l⟩ _ _ _ E0 (hr.make C o (ks.zip l)) (G.eB.make C o (ks.zip l)) (O.to _ _ _ G.cp hl) J N) λT s' a=>?_));cases T with
 |error e=>exact a.elim
 |ok fl=>
  cases fl with
  |ret u=>
   obtain⟨v,Y,I4,R,ev,q3⟩:=G.after a;subst ev;exact⟨R,⟨V.ref (j.heap.objs.size+1),Y,I4,zJ,q3⟩⟩
  |next=>exact False.elim a
  |brk=>exact False.elim a
  |cont=>exact False.elim a
def Y3(i j:Int):Prop:=Builtin.Int.intBits i<=2^20/\Builtin.Int.intBits j<=2^20
def K1:cy X (binaryOp .Mult) (rI Y3 λi j=>.int (i*j)):=gM λ_ _ _ _ _ _ _ a q=>mul_int q (IntMulOk.of_bits a.1 a.2)
def XY(i j:Int):Prop:=0<j/\Builtin.divisionGoesByPylong i j=false
def MD:cy X (binaryOp .FloorDiv) (rI XY λi j=>.int (i/j)):=gM λi j _ _ _ _ _ a q=>by
 have d:=a.1;exact floordiv_int (by lia) (by rwa[Int.fdiv_eq_ediv_of_nonneg i (by lia)]) (.inl a.2)
end
section
def K2(X:ω.In s.heap)(I:W.InstAt s.heap x i C od)(hs:W.findIn ω (.ref C) lO=some (some (.builtin i5)))
  (h:wpAny M A (call (.builtin i5) (.ref x::args)) (λv=>Q (some v)) E s):wpAny M A (callSpecialIfBound? (.ref x) lO args) Q E s:=by
 refine Zl (zU (zU (zU (I.type.here ((W.looks_findIn X hs).here ?_)))));refine zU (wpAny_askSetting (wpAny_ite ?_));have a:=zU (zS h (λv e d=>zT d) λ_ _ d=>d);split
 ·exact zU (zT (zT a))
 ·exact wpAny_tryCatch (zU (zT (zT a)))
def MF(l:A.units+1<cLine)(X:ω.In s.heap)(I:W.InstAt s.heap x q C od)(o:W.mroIn ω C (.type jv)=some true)(a:W.findIn ω (.ref C) lP=some (some (.ref f)))(p:W.isFn ω (.ref f)=true)
    (h:wpAny (model prog w) A.in1 (call (.ref f) [.ref x,.ref y]) (λv j=>∃b,v=.bool b/\Q (.bool (!b)) j) E s):wpAny (model prog w) A (call (.builtin i5) [.ref x,.ref y]) Q E s:=by
  refine wpAny_call (codeAny_call_builtin cmp_object.ne.plain cmpEntry_ne (W.check_slot (i:=i5) (by rfl) (by rfl) (I.type.andThen (W.looks_mroIn X o)) (cmpArgs_ne _ _) ?_))
  repeat (first
    |with_reducible refine wpAny_cRoomFor (by show A.in1.units<cLine;exact l) ?_
    | (refine zU
        (W.ifBound_K X I a p (zS h (λr j a=>by
          obtain⟨b,rfl,d⟩:=a
          repeat (first|exact d|exact⟨_,rfl,d⟩|exact zT ⟨_,rfl,d⟩| (refine zU (Z0 ?_))|wp_step)) λ_ _ e=>e)))
    |wp_step)
def Vz(l:A.units+1<cLine)(X:ω.In s.heap)(I:W.InstAt s.heap x B C od)(J:W.InstAt s.heap y u C j)(p:W.mroIn ω C (.type jv)=some true)
  (t:W.findIn ω (.ref C) lO=some (some (.builtin i5))) (i:W.findIn ω (.ref C) lP=some (some (.ref f))) (q:W.isFn ω (.ref f)=true)
  (h:wpAny (model prog w) A.in1 (call (.ref f) [.ref x,.ref y]) (λv a=>∃b,v=.bool b/\Q (.bool (!b)) a) E s):wpAny (model prog w) A (compareOp .NotEq (.ref x) (.ref y)) Q E s:=by
 show wpAny _ _ (richCompare .NotEq (.ref x) (.ref y)) _ _ _
 have one:wpAny (model prog w) A (tryCompare (.ref x) (cmpInfo .NotEq).2.1 (.ref y)) (λr a=>∃v,r=some v/\Q v a) E s:=by
  refine zU (K2 X I t (MF l X I p i q (zS h (λv a o=>?_) λ_ _ e=>e)));obtain⟨b,rfl,d⟩:=o;exact⟨b,zJ,zT ⟨_,zJ,d⟩⟩
 refine Zl (zU (wpAny_cRoomFor (by lia) ?_));refine zU (I.type.here (zU (J.type.here ?_)));rw[zN (by simp)];refine zU (zT ?_);refine zU (zS one (λr a z=>?_) λ_ _ e=>e);obtain⟨v,rfl,d⟩:=z;exact zT d
end
section
def XZ(sp:Sp)(a b:hO)(H:Hp)(Q:VK):Prop:=sp [.ref a,.ref b] H (λv H'=>∃t,v=.bl t/\Q (.bl t) H') E0
def V0(F:aE X.prog X.w X.K X.mg X.base aS k f fd [hZ,iS] sp)(j:aJ k A)(y:cW X.prog X.w X.K X.mg X.base A X.stack s H)(r:Binds X.K fd [hZ,iS] [])(I:Inv X aa σ H s)(h:XZ sp a b H Q):
  wpAny (model X.prog X.w) A (call (.ref f) [.ref a,.ref b]) (λv i=>∃t,v=.bool t/\EP X aa σ Q (.bool t) i) E s:=by
 refine wpAny_call (codeAny_mono (F.run A X.stack s H ⟨[.ref a,.ref b],[]⟩ [.ref a,.ref b] [.ref a,.ref b] _ E0 j y (r s [.ref a,.ref b] I.cp rfl) (.cons rfl (.cons rfl .nil)) h) λp i d=>?_);cases p with
 |error e=>exact d.elim
 |ok fl=>
  cases fl with
  |ret u=>
   obtain⟨v,x,l,o,t,q,z⟩:=I.after d;subst q;cases o;exact⟨t,zJ,.bl t,x,l,zJ,z⟩
  |next=>exact False.elim d
  |brk=>exact False.elim d
  |cont=>exact False.elim d
def Rv(F:aE X.prog X.w X.K X.mg X.base aS k f fd [hZ,iS] sp)(j:aJ (k+1) X.A)(S:Binds X.K fd [hZ,iS] [])(d:Nj X.K C lP f)(T:W.findIn X.K (.ref C) lO=some (some (.builtin i5)))(N:W.mroIn X.K C (.type jv)=some true):
  cy X (compareOp .NotEq) (λx y H Q=>∃a o fs b i h,x=.ref a/\y=.ref b/\H a=some (.ins C o fs)/\H b=some (.ins C i h)/\XZ sp a b H (λv H'=>∃t,v=.bl t/\Q (.bl (!t)) H')):=by
 rintro l s σ H x y v u Q I O G ⟨a,o,fs,b,i,h,rfl,rfl,z,D,q⟩;cases O;cases G;obtain⟨U,L,_⟩:=Dg I.aI z;obtain⟨Z,B,_⟩:=L.look;obtain⟨mB,J,_⟩:=Dg I.aI D;obtain⟨R,M,_⟩:=J.look;refine Vz (Nat.lt_of_le_of_lt (Nat.add_le_add_left qc _) j.units) I.cp B M N T d.at_ d.fn (aL (V0 (E:=X.xe) F j.in1 I.eB.in1 S I q) λv s' A=>?_);obtain⟨t,rfl,v',H',p,r,Y,e,q⟩:=A;subst e;cases r;exact⟨t,zJ,.bl _,H',p,zJ,q⟩
end
def Iv(ω)(L:X.K=ω):aT X (.builtin iG) (λxs H Q=>∃a p ys,xs=[.ref a,.ref p]/\(H a=some (.lst ys)\/H a=some (.tup ys))/\aP ω H p [.ty iB,.ty iF]/\Q (.bl true) H):=by
 subst L;rintro i s G H xs S Q I r ⟨a,p,ys,rfl,d,A,q⟩;obtain⟨u,T,rfl,M,t⟩:=Hy r;cases M;cases t;obtain⟨j,x,⟨o,e,c,n,C⟩,_⟩:=I.tuple A;obtain⟨fk,R,F,O⟩:=o;subst c;subst C
 have N:j=[Value.type iB,Value.type iF]:=by
  cases x with
  |cons J B=>
   cases B with
   |cons r3 D=>
    cases D;cases (J);cases (r3);rfl
 subst N;have h:∀v,EP X i G Q (.bool true) {s with toks:=v}:=λv=>⟨.bl true,H,I.tok v,rfl,q⟩;rcases d with d|d
 ·obtain⟨_,_,m,_,l⟩:=(I.aI a _ d);exact W.kia_tup W.kitx_list I.cp ⟨_,l,rfl⟩ e rfl (λz=>nomatch z) h
 ·obtain⟨_,_,_,E⟩:=(I.aI a _ d);obtain⟨o,l,y,_⟩:=E;exact W.kia_tup W.kitx_tuple I.cp ⟨o,l,y⟩ e rfl (λz=>nomatch z) h
structure Iw(fs:List hO)(e:hO)(oe:Obj)(vs:Array Value)(old:hO->Prop)(h h':Heap):Prop where
 tb:∃T oT ts,h.objs.size<=T/\h'.get? T=some oT/\oT.data=.fields ts/\ts[3]?=some .none/\h'.get? e=some {oe with data:=.fields (vs.setIfInBounds 1 (.ref T))}
 keep:∀b o,h.get? b=some o->b≠e->¬ old b->b∉ fs->h'.get? b=some o
 slot:∀b o,h.get? b=some o->b≠e->¬ old b->b∈fs->∃sl,h'.get? b=some {o with slots:=sl}
 there:∀b o,h.get? b=some o->∃o',h'.get? b=some o'
section
def FP(a:o.data=.fields vs)(f):Obj.mapFields f o={o with data:=.fields (f vs)}:=by
 obtain⟨c,d,e,sl⟩:=o;cases a;rfl
def QJ{h:PySem.Heap}{f}(i:∀o,h.get? a=some o->(f o).isFreed=false):∀o,h.get? b=some o->∃e,(h.update a f).get? b=some e:=λo d=>by
 by_cases q:b=a
 ·subst q;exact⟨_,Zu f d (i o d)⟩
 ·exact⟨o,(Zx _ _ (Ne.symm q)).trans d⟩
def O3        
  (hfr:A.frames=some (env::outer)) (J:s.heap.FunFrames base (env::outer)) (S:env.frame=some L) (X:s.heap.get? e=some oe) (B:oe.data=.fields vs) (hsz:1<vs.size)
  (h:∀h',Iw (cA (env::outer)) e oe vs (λ_=>False) s.heap h'->Q () {s with heap:=h'}):
  wpAny M A (do let a ←frameOf env;let pl ←entryPlaceOf L l;let b ←EntryCells.newEntry head a .none (rawInt L) .none pl;setField (.ref e) 1 b) (λ_ T=>wpAny M A (setFlight (.ref e) none) Q E T) E s:=by
 have u:e∉ cA (env::outer):=λR=>by
  obtain⟨_,o,Y,O⟩:=J.mem R
  simp_all
 refine zU (wpAny_frameOf_fun hfr J S λd p=>zU (wpAny_entryPlaceOf λpl y=>?_));refine zU (wpAny_newObj_type ?_ (y.sizeOk5 _ _ _ _ _));generalize z:([head,Value.ref L,.none,rawInt L,.none]++(if pl.isEmpty then List.replicate 6 Value.none else pl)).toArray=pg;have r:3<pg.size:=by rw[←z];simp only[size_toArray,z7,length_cons];lia
 have I:=(p.2.1 e u).trans X;have F:=Zy ⟨.type "traceback",none,.fields pg,#[]⟩ I;apply wpAny_setField F B hsz;have C:=Nat.ne_of_gt (lt_size I);have G:=Obj.data_mapFields B (·.setIfInBounds 1 (Value.ref d.objs.size));have v:=Zu (Obj.mapFields (·.setIfInBounds 1 (Value.ref d.objs.size))) F (Obj.isFreed_of_fields G);have D:=(Zx (d.push ⟨.type "traceback",none,.fields pg,#[]⟩) (Obj.mapFields (·.setIfInBounds 1 (Value.ref d.objs.size))) (Ne.symm C)).trans (Zo d rfl);refine zU (wpAny_field v G (x:=.ref d.objs.size) (by simp[hsz]) ?_);refine wpAny_setField D zJ r (h _ ?_)
 have i:∀b o,b≠e->d.get? b=some o->∀g,(((d.push ⟨.type "traceback",none,.fields pg,#[]⟩).update e (Obj.mapFields (·.setIfInBounds 1 (Value.ref d.objs.size)))).update d.objs.size g).get? b=some o:=λb o j t g=>by
  rw[Zx _ _ (Nat.ne_of_gt (lt_size t)),Zx _ _ (Ne.symm j)];exact Zy _ t
 refine⟨⟨d.objs.size,_,_,Nat.le_of_eq p.1.symm,Zu _ D (Obj.isFreed_of_fields (Obj.data_mapFields zJ _)),Obj.data_mapFields zJ _,by simp[r],?_⟩,λb o j N _ H=>?_,λb o j N _ H=>?_,λb o j=>?_⟩
 ·rw[Zx _ _ C,v,FP B]
 ·exact i b o N ((p.2.1 b H).trans j) _
 ·obtain⟨sl,U⟩:=p.2.2 b o j
  simp_all
 ·obtain⟨sl,U⟩:=p.2.2 b o j;by_cases q:b=e
  ·subst q;exact⟨_,(Zx _ _ C).trans v⟩
  simp_all
def MH      
  (hfr:A.frames=some (env::outer)) (l:s.heap.FunFrames base (env::outer)) (j:env.frame=some L) (i:s.heap.get? e=some oe) (d:oe.data=.fields vs) (a:vs[1]?=some .none)
  (h:∀h',Iw (cA (env::outer)) e oe vs (λ_=>False) s.heap h'->Q () {s with heap:=h'}):wpAny M A (leaving env (.ref e)) Q E s:=by
 unfold leaving noteFrame;simp only[j];refine zU (zU (wpAny_field i d a ?_));exact O3 hfr l j i d (Z9.mp a).1 h
def KG      
  (hfr:A.frames=some (env::outer)) (R:s.heap.FunFrames base (env::outer)) (B:env.frame=some L) (G:s.heap.get? e=some oe) (D:oe.data=.fields vs) (C:vs[1]?=some (.ref T)) (t:T≠e)
  (p:s.heap.get? T=some oT) (d:oT.data=.fields ts) (y:ts[3]?=some .none)
  (h:∀h',Iw (cA (env::outer)) e oe vs (·=T) s.heap h'->Q () {s with heap:=h'}):wpAny M A (noteFrame (.ref e) env) (λ_ S=>wpAny M A (setFlight (.ref e) none) Q E S) E s:=by
 unfold noteFrame;simp[B];refine zU (wpAny_field G D C ?_);refine zU (wpAny_field p d y ?_);refine zU (wpAny_setField p d (Z9.mp y).1 ?_);have gU:∀b,b≠T->(s.heap.update T (Obj.mapFields (·.setIfInBounds 3 Value.none))).get? b=s.heap.get? b:=λb a=>Zx _ _ (Ne.symm a)
 have O:∀b o,s.heap.get? b=some o->(∀vs,o.data≠ .fields vs)->b≠T:=λb o a H q=>by
  simp_all
 refine O3 (hfr:=hfr) (R.of_keeps λb o a H=>⟨o,(gU b (O b o a H)).trans a,zJ⟩) B ((gU e (Ne.symm t)).trans G) D (Z9.mp C).1 λh' x=>h h' ?_
 have fr:∀o,s.heap.get? T=some o->(Obj.mapFields (·.setIfInBounds 3 Value.none) o).isFreed=false:=λo F=>by
  rw[p]at F;cases F;exact Obj.isFreed_of_fields (Obj.data_mapFields d _)
 obtain⟨I,r,j,U,N⟩:=x.tb;refine⟨⟨I,r,j,by simp_all,N⟩,λb o a u l i=>x.keep b o ((gU b l).trans a) u (λz=>z) i,λb o a u l i=>x.slot b o ((gU b l).trans a) u (λz=>z) i,λb o a=>?_⟩;obtain⟨J,v⟩:=QJ fr o a;exact x.there b J v
def N4      
  (hfr:A.frames=some (env::outer)) (o:s.heap.FunFrames base (env::outer)) (q:env.frame=some L) (p:s.heap.get? e=some oe) (l:oe.data=.fields vs) (i:vs[1]?=some (.ref T)) (a:T≠e)
  (r:s.heap.get? T=some oT) (d:oT.data=.fields ts) (j:ts[3]?=some .none)
  (h:∀h',Iw (cA (env::outer)) e oe vs (·=T) s.heap h'->Q () {s with heap:=h'}):wpAny M A (leaving env (.ref e)) Q E s:=by
 exact zU (KG hfr o q p l i a r d j h)
end
noncomputable def GO(e C:hO)(dx:Option hO):HO:=.ext λh=>∃oe vs,h.get? e=some oe/\oe.cls=.ref C/\oe.dict=dx/\oe.data=.fields vs/\5<vs.size/\vs[2]?=some .none
structure Rw(P:Program)(w:World)(l:List Env)(H:Hp)(s:hX)(e C:hO)(dx:Option hO)(H':Hp)(s':hX):Prop where
 os:s'.os=s.os
 bare:AllBare s'.gens
 un:Un (cA l) [] H H' s.heap s'.heap
 aI:cD P w H' s'.heap
 at_:H' e=some (GO e C dx)
def Tb0(e:hO)(s':hX):Prop:=∃oe vs,s'.heap.get? e=some oe/\oe.data=.fields vs/\vs[1]?=some .none
def Tb1(e:hO)(H':Hp)(s s':hX)(fl:Value):Prop:=∃oe vs T oT ts,s'.heap.get? e=some oe/\oe.data=.fields vs/\vs[1]?=some (.ref T)/\T≠e/\s'.heap.get? T=some oT/\oT.data=.fields ts/\ts[3]?=some fl/\H' T=none/\s.heap.get? T=none
def Fly(P:Program)(w:World)(l:List Env)(H:Hp)(s:hX)(e C:hO)(dx:Option hO)(H':Hp)(s':hX):Prop:=Rw P w l H s e C dx H' s'/\Tb1 e H' s s' .none
def cz(P:Program)(w:World):CXT:=λouter H s E e s'=>∃ea C dx H',e=.ref ea/\Fly P w outer H s ea C dx H' s'/\E (.ref C) dx H'
def O4(u:Un fs [] H H' h h'):∀{l},(∀b∈cA l,b∈fs)->(∀b∈cA l,H b=none)->h.FunFrames base l->h'.FunFrames base l
 | [],_,_,_=>trivial
 |a::r,hs,hn,⟨hk,⟨L,o,hf,hb,ho,hd⟩,i⟩=>by
  have d:L∈cA (a::r):=by unfold cA;rw[Zn,hf];exact z8
  have sub:∀b∈cA r,b∈cA (a::r):=λb z=>by unfold cA;rw[Zn,hf];exact Zs _ z
  obtain⟨sl,e⟩:=u.slot L o ho (hn L d) (hs L d) (by simp);exact⟨hk,⟨L,_,hf,hb,e,hd⟩,O4 u (λb z=>hs b (sub b z)) (λb z=>hn b (sub b z)) i⟩
section
structure N5(X:Cx):Prop where
 eh:X.stack=X.env::X.outer
 fr:X.env.frame=some X.env.locals
 ex:X.ex=[]
def MJ(ok:cD P w d h)(L:Iw fs e oe vs old h h')(M:∀b∈fs,d b=none)(R:∀b,old b->d b=none)
  (F:h.get? e=some oe) (x:oe.data=.fields vs) (a:d e=some (GO e C dx)):cD P w d h':=λb u q=>by
 have kp:∀c v,c≠e->(∃z,d c=some z)->h.get? c=some v->h'.get? c=some v:=λc v n ⟨z,J⟩ t=>L.keep c v t n (λy=>by simp_all) λy=>by simp_all
 by_cases E:b=e
 ·subst E;rw[a]at q;cases q;obtain⟨⟨A,p,o,B,G,l,S,H⟩,_,D⟩:=ok _ _ a;rw[F]at o;cases o;rw[x]at l;cases l;obtain⟨T,Q,N,b1,O,U,I,j⟩:=L.tb;exact⟨⟨_,_,j,B,G,zJ,by simp_all,by simp_all⟩,⟨_,j⟩,D⟩
 ·refine(ok b u q).df (λc v i r=>?_) (λ_ z=>z) λ_ _ z=>z;rcases i with rfl|i
  ·simp_all
  ·refine kp c v (λz=>?_) ⟨_,i⟩ r;subst z;rw[a]at i;cases i
def ML(O:N5 X)(I:Inv X aa σ H1 s1)(F:Rw X.prog X.w X.stack H1 s1 e C dx t s2)(U:s2.heap.get? e=some oe)(G:oe.data=.fields vs)(D:1<vs.size)
  (j:∀b,old b->t b=none/\s1.heap.get? b=none) (L:Iw (cA X.stack) e oe vs old s2.heap h'):Fly X.prog X.w X.outer X.cZ X.bY e C dx t {s2 with heap:=h'}:=by
 have d:Un (cA X.outer) [] X.cZ H1 X.bY.heap s1.heap:=by have:=I.base;rwa[O.ex]at this
 have i:∀b∈cA X.stack,t b=none:=λb a=>by
  obtain⟨_,o,Q,_⟩:=I.stack.mem a;exact F.un.free b o Q (I.stkFree b a) (by simp)
 have S:∀b,t b=none->b≠e:=λb n z=>by subst z;rw[F.at_]at n;cases n
 have p:∀b o,X.bY.heap.get? b=some o->b∉ cA X.outer->b∉ cA X.stack:=λb o a hn z=>by
  rw[O.eh]at z;unfold cA at z;rw[Zn,O.fr]at z;rcases mem_cons.mp z with z|z
  ·exact absurd (Z2 (lt_size a) I.ok.above) (by simp_all)
  trivial
 have y:∀b,b∈cA X.outer->b∈cA X.stack:=λb a=>by
  rw[O.eh];unfold cA;rw[Zn,O.fr];exact Zs _ a
 have h:∀b o,X.bY.heap.get? b=some o->¬ old b:=λb o a z=>by
  obtain⟨o',Y⟩:=d.there b o a (by simp)
  simp_all
 have v:Un (cA X.outer) [] X.cZ t X.bY.heap h':=by
  refine⟨λb o q n a _=>?_,λb o q n a _=>?_,λb o q n _=>?_,λb o q _=>?_,λb r q=>F.un.dG b r (d.dG b r q),λb o r q=>F.un.dj b o r (d.dj b o r q),λb B q=>?_⟩
  ·have q1:=d.keep b o q n a (by simp);have u:=d.free b o q n (by simp);have q2:=F.un.keep b o q1 u (p b o q a) (by simp);exact L.keep b o q2 (S b (F.un.free b o q1 u (by simp))) (h b o q) (p b o q a)
  ·obtain⟨sl,q1⟩:=d.slot b o q n a (by simp);have u:=d.free b o q n (by simp);obtain⟨dh,q2⟩:=F.un.slot b _ q1 u (y b a) (by simp);obtain⟨gk,q3⟩:=L.slot b _ q2 (by grind) (h b o q) (y b a);exact⟨gk,q3⟩
  ·obtain⟨l,q1⟩:=d.there b o q (by simp);exact F.un.free b l q1 (d.free b o q n (by simp)) (by simp)
  ·obtain⟨l,q1⟩:=d.there b o q (by simp);obtain⟨x,q2⟩:=F.un.there b l q1 (by simp);exact L.there b x q2
  ·obtain⟨m1,E⟩:=d.dm b B q;obtain⟨m2,Z⟩:=F.un.dm b _ E
   grind
 refine⟨⟨F.os.trans I.os,F.bare,v,MJ F.aI L i (λb z=>(j b z).1) U G F.at_,F.at_⟩,?_⟩;obtain⟨T,N,J,b1,M,R,A,H⟩:=L.tb;have hT:=Heap.get?_none_of_le b1;refine⟨_,_,T,N,J,H,zJ,by simp[D],λz=>?_,M,R,A,F.aI.fresh b1,?_⟩
 ·simp_all
 ·cases q:X.bY.heap.get? T with
  |none=>rfl
  |some o=>
   obtain⟨l,q1⟩:=d.there T o q (by simp);obtain⟨x,q2⟩:=F.un.there T l q1 (by simp)
   simp_all
def FQ(I:Inv X aa σ H1 s1)(F:Rw X.prog X.w X.stack H1 s1 e C dx a s2):s2.heap.FunFrames X.base X.stack:=O4 F.un (λ_ z=>z) I.stkFree I.stack
def Ix(O:N5 X)(I:Inv X aa σ H1 s1)(F:Fly X.prog X.w X.stack H1 s1 e C dx p s2):
  cn X (leaving X.env (.ref e)) (λ_ s3=>Fly X.prog X.w X.outer X.cZ X.bY e C dx p s3) v s2:=by
 obtain⟨B,A,r,T,x,u,h,d,i,l,o,j,q,D,y⟩:=F;have fr:=FQ I B;have a:=I.ok.frames;rw[O.eh]at fr a;refine N4 a fr O.fr h d i l o j q λt L=>?_;rw[←O.eh]at L;exact ML O I B h d (Z9.mp i).1 (λb z=>by simp_all) L
def N6(O:N5 X)(I:Inv X aa σ H1 s1)(B:Rw X.prog X.w X.stack H1 s1 e C dx j s2)(T:Tb0 e s2):
  cn X (leaving X.env (.ref e)) (λ_ s3=>Fly X.prog X.w X.outer X.cZ X.bY e C dx j s3) l s2:=by
 obtain⟨q,o,d,a,h⟩:=T;have fr:=FQ I B;have i:=I.ok.frames;rw[O.eh]at fr i;refine MH i fr O.fr d a h λp L=>?_;rw[←O.eh]at L;exact ML O I B d a (Z9.mp h).1 (λb z=>z.elim) L
end
def V1:
  N5 (By CX P w ω mg base N qual scope f cd A outer s H E):=⟨rfl,rfl,rfl⟩
def ES:
  BK (cz P w) (By (cz P w) P w ω mg base N qual scope f cd A outer s H E) E:=by
 rintro a j l p e o I ⟨i,C,h,d,rfl,F,q⟩;exact zS (Ix V1 I F) (λ_ s3 G=>⟨i,C,h,d,zJ,G,q⟩) λ_ _ z=>z
def Rx(X:Cx)(E:XK):Prop:=∀aa(σ:St)H s e C dx H' s',Inv X aa σ H s->Rw X.prog X.w X.stack H s e C dx H' s'->Tb0 e s'->E (.ref C) dx H'->X.xe (.ref e) s'
def Eu{qual}:
  Rx (By (cz P w) P w ω mg base N qual scope f cd A outer s H E) E:=by
 intro a i j o h C e d l I F T q;exact zS (N6 V1 I F T) (λ_ s3 G=>⟨h,C,e,d,zJ,G,q⟩) λ_ _ z=>z
structure MM(B:String)(bm:hE):Prop where
 b:bm.contains (.type B)=true
 base:bm.contains (.type iU)=true
 na:bm.contains (.type "AttributeError")=false
 nn:bm.contains (.type "NameError")=false
section
def N7{l}{sub}(F:ExcBaseFacts B newId e p)(T:MM B bm)(a:h.get? C=some (excClassObj nm v C N bs bm j sn sub x col z y u k2 q D newId))
  (i:Q () ⟨h,g,d,t,l⟩):wpAny M A (checkBuiltinCall newId ⟨.ref C::rest,[]⟩) Q E ⟨h,g,d,t,l⟩:=by
 have o:(Value.ref C::bm).contains (.type B)=true:=by rw[contains_cons,T.b];simp
 have r:=F.noStar;simp[checkBuiltinCall,F.newKind,F.newSplit,F.newRow]
 repeat (first|refine Zz a ?_| (refine Z4 a ?_;rw[o])|refine wpAny_staticBase_exc a ?_|refine wpAny_madeBy_exc a ?_|simp only[bne_self_eq_false,if_false]|wp_step)
 exact i
end
section
noncomputable abbrev Ry(C:hO)(h:Heap):Obj:={cls:=.ref C,data:=.fields #[.ref h.objs.size,.none,.none,.none,.bool false,.none]}
abbrev Iy(C:hO)(rest:hE)(h:Heap):Heap:=(h.push {cls:=.type iF,data:=.seq rest.toArray}).push (Ry C h)
def Rz{l}{sub}(F:ExcBaseFacts B newId a q)(T:MM B bm)(e:h.get? C=some (excClassObj nm I C N bs bm j sn sub y col G E D k2 x H newId))
  (u:R (.ok (.ret (.ref (h.objs.size+1)))) ⟨Iy C rest h,g,d,t,l⟩) (hz:rest.length<=sizeLine):codeAny (model prog w) A (.builtin newId ⟨.ref C::rest,[]⟩) R ⟨h,g,d,t,l⟩:=by
 have z:=F.ends;have r:(Value.ref C::bm).contains (.type B)=true:=by rw[contains_cons,T.b];simp
 have o:(Value.ref C::bm).contains (.type "AttributeError")=false:=by rw[contains_cons,T.na];rfl
 have v:(Value.ref C::bm).contains (.type "NameError")=false:=by rw[contains_cons,T.nn];rfl
 apply codeAny_builtinAt F.entry;apply PySem.wpAt_bind;refine PySem.wpAt_bind (PySem.wpAt_stack λp i=>PySem.wpAt_of_wpAny ?_)
 wp_walk
 apply PySem.wpAt_of_wpAny;rw[F.owner]
 repeat (first|with_reducible refine wpAny_madeHere_exc F.canon e ?_|with_reducible refine Zz e ?_| (with_reducible refine Z4 e ?_;first|rw[r]|rw[o]|rw[v])|wp_step)
 rwa[Heap.size_push]
def N8{j}{sub}(F:ExcBaseFacts B newId e u)(T:MM B bm)    
  (a:h.get? C=some (excClassObj nm U C N bs bm p sn sub L col R O M k2 J S newId)) (H:W.Looks (model prog w) h (typeLookup (.ref C) ip) (some (.ref q))) (y:h.get? q=some v) (G:v.cls=.type kj) (hz:rest.length<=sizeLine)
  (i:wpAny (model prog w) A (call (.ref q) (.ref (h.objs.size+1)::rest)) (λr l=>r=.none/\Q (.done (.ret (.ref (h.objs.size+1)))) l) E ⟨Iy C rest h,g,d,t,j⟩):
  wpAny (model prog w) A (Builtin.«type.__call__» ⟨.ref C::rest,[]⟩) Q E ⟨h,g,d,t,j⟩:=by
 repeat (first|with_reducible refine Zz a ?_|with_reducible refine wpAny_madeBy_exc a ?_|wp_step)
 refine codeAny_call_builtin_code (Code.quiet_builtin _ F.quiet) (N7 F T a (Rz F T a ?_ hz));have kp:∀b o,h.get? b=some o->(Iy C rest h).get? b=some o:=λb o z=>Zy _ (Zy _ z)
 heap_get
 have D:(Value.ref C::bm).contains (.ref C)=true:=by simp
 repeat (first|with_reducible refine Zz ge ?_| (with_reducible refine Z4 (kp _ _ a) ?_;rw[D])|wp_step)
 apply H A _ E ⟨Iy C rest h,g,d,t,j⟩ kp;refine Zl (zU ?_);refine zU (wpAny_typeOf ⟨_,kp _ _ y,G⟩ ?_);refine zT (zU (zS i (λr l z=>?_) λ_ _ x=>x));obtain⟨rfl,I⟩:=z
 wp_walk
 exact I
def QK{o}{sub}(F:ExcBaseFacts B newId a p)(T:MM B bm)    
  (e:h.get? C=some (excClassObj nm O C N bs bm j sn sub G col L J I k2 z M newId)) (y:W.Looks (model prog w) h (typeLookup (.ref C) ip) (some (.ref l))) (u:h.get? l=some q) (x:q.cls=.type kj) (hz:rest.length<=sizeLine)
  (i:wpAny (model prog w) (A.under (.builtin ju ⟨.ref C::rest,[]⟩)) (call (.ref l) (.ref (h.objs.size+1)::rest)) (λr v=>r=.none/\Q (.ref (h.objs.size+1)) v) E ⟨Iy C rest h,g,d,t,o⟩):
  wpAny (model prog w) A (call (.ref C) rest) Q E ⟨h,g,d,t,o⟩:=by
 have D:=tc_lookup;have H:=tc_bind (.ref C);refine wpAny_call (codeAny_of_tree ?_)
 repeat (any_goals (first|assumption|with_reducible refine Zz e ?_|wp_step))
 refine⟨zJ,?_⟩;exact codeAny_call_builtin_at (Code.quiet_builtin _ (by simp)) entry_typeCall (wpAny_check_type_call_sub e (N8 F T e y u x hz i))
end
noncomputable def E5(e C:hO)(dx:Option hO):HO:=.ext λh=>∃oe vs,h.get? e=some oe/\oe.cls=.ref C/\oe.dict=dx/\oe.data=.fields vs/\vs.size=6/\vs[1]?=some .none/\vs[2]?=some .none
noncomputable def BB(ω:FG)(C:hO):Bool:=match ω.lookup C with
 |some ⟨.type "type",_,.cls cd,sl⟩=>(match cd.mro,sl.toList with
  |.ref C'::bm,[_,_,_,_,some (.builtin n),_]=>C'==C && !cd.hasDel&&n == "ValueError.__new__" && bm.contains (.type "BaseException")&&bm.contains (.type "ValueError") && !bm.contains (.type "AttributeError") && !bm.contains (.type "NameError")
  |_,_=>false)
 |_=>false
def IP(X:ω.In h)(q:BB ω C=true):∃nm v N bs i d x sub o a t r p k2 j u,h.get? C=some (excClassObj nm v C N bs i d x sub o a t r p k2 j u "ValueError.__new__")/\MM iz i:=by
 unfold BB at q;split at q
 ·rename_i t D sl G;split at q
  ·rename_i J i r p k2 j n u z B;simp only[Bool.and_eq_true,beq_iff_eq,Bool.not_eq_true']at q;obtain⟨⟨⟨⟨⟨⟨rfl,e⟩,rfl⟩,H⟩,ht⟩,y⟩,I⟩:=q;obtain⟨nm,bs,E,F,v,A,x,sub,o,a,del⟩:=D;subst z e;obtain⟨l⟩:=sl;subst B;exact⟨nm,v,F,bs,i,A,x,sub,o,a,t,r,p,k2,j,u,X _ _ G,⟨ht,H,y,I⟩⟩
  ·cases q
 ·cases q
structure MkX(K:FG)(C f:hO):Prop where
 cls:BB K C=true
 init:W.findIn K (.ref C) ip=some (some (.ref f))
 fn:W.isFn K (.ref f)=true
 fo:∃o,K.lookup f=some o/\o.cls=.type kj
 kp:W.keepIn K (.ref C)=true
section
def QL(C)(a)(h):(Iy C a h).get? (h.objs.size+1)=some (Ry C h):=by heap_get
def Inv.madeX(I:Inv X aa σ H s)(d):Inv X aa σ (upd H (s.heap.objs.size+1) (E5 (s.heap.objs.size+1) C none)) {s with heap:=Iy C d s.heap}:=by
 apply I.laid (t':=s.toks) (λb o z=>Zy _ (Zy _ z)) (Nat.le_succ _);have e:=QL C d s.heap;exact⟨⟨_,_,e,zJ,zJ,zJ,zJ,zJ,zJ⟩,⟨_,e⟩,λj l q k=>by obtain⟨i,h,a,r⟩:=q;exact ⟨i,h,k _ a,r⟩⟩
def QM(M:MkX X.K C f)(F:aE X.prog X.w X.K X.mg X.base CX k f fd ps sp)(S:aJ (k+1) X.A)(Y:Binds X.K fd ps ds)(D:Vals i ds)(Z:BK CX X E)(I:Inv X aa σ H s)(r:Vals vs us)(hz:vs.length<=1000)
  (h:∀x,H x=none->sp (.ref x::(vs++i)) (upd H x (E5 x C none)) (λv U=>v=.aO/\Q (.ref x) U) E):cn X (call (.ref C) us) (EP X aa σ Q) X.xe s:=by
 have q:=h (s.heap.objs.size+1) (I.aI.fresh (Nat.le_succ _));have j:=Inv.madeX (C:=C) I us;have o:Vals (V.ref (s.heap.objs.size+1)::(vs++i)) (Value.ref (s.heap.objs.size+1)::(us++ds)):=.cons rfl (r.append D)
 have O:(Value.ref (s.heap.objs.size+1)::us++ds).length=ps.length:=by
  have e:=o.length;rw[F.len _ _ _ _ q]at e;exact e.symm
 obtain⟨nm,qn,N,bs,bm,p,sn,sub,ab,z,dd,k0,k1,k2,k3,k5,t,T⟩:=IP I.cp M.cls;obtain⟨oF,B,R⟩:=M.fo;obtain⟨l,g,d,tk,os⟩:=s;apply QK excBase_ValueError T t (W.looks_findIn I.cp M.init) (I.cp _ _ B) R (by rw[←r.length];exact Nat.le_of_lt (AS hz));refine wpAny_call (codeAny_mono (F.run _ X.stack _ _ ⟨_,[]⟩ (Value.ref (l.objs.size+1)::(us++ds)) _ _ E (S.make C us []) (j.eB.make C us []) (Y _ (Value.ref (l.objs.size+1)::us) j.cp O) o q) λr G a=>?_);cases r with
 |error e=>exact Z aa σ _ _ e G j a
 |ok fl=>
  cases fl with
  |ret u=>
   obtain⟨v,A,L,y,J,q3⟩:=j.after a;subst J;exact⟨y,⟨V.ref (l.objs.size+1),A,L,zJ,q3⟩⟩
  |next=>exact False.elim a
  |brk=>exact False.elim a
  |cont=>exact False.elim a
def HF(C:hO)(sp:Sp)(dvs:hK)(E:XK)(t:TA):TE:=λσ H Q=>t σ H λvs H1=>vs.length<=1000/\∀x,H1 x=none->sp (.ref x::(vs++dvs)) (upd H1 x (E5 x C none)) (λv H2=>v=.aO/\Q (.ref x) H2) E
def C0{k}{l}(M:MkX X.K C f)(F:aE X.prog X.w X.K X.mg X.base CX k f fd l sp)(B:aJ (k+1) X.A)(A:Gl X x)(v:X.mg x=some (.ref C))(G:Binds X.K fd l ds)(y:Vals d ds)(D:BK CX X E)
  (u:PA X (e::es) t) (j:dr x:=by decide) (J:et X e es:=by rfl) (i:(backTo pos (starEach es X.env)).any (·.1)=false:=by rfl):
  PE X (.Call (.Name x p) (e::es) [] pos) (HF C sp d E t):=by
 intro a s z H Q I h;refine Z3 (Bv I A v ?_ j);refine W.callWith_K I.ok.mod.kin M.kp (aL (u pos a s z H _ I h) λN L ⟨O,R,o,r,q⟩=>⟨o.cp,?_⟩) J i;exact QM M F B G y D o r q.1 q.2
def HG(C:hO)(te:TE)(E:XK):TS:=λ_ σ H=>te σ H λv H1=>∃e dx,v=.ref e/\H1 e=some (E5 e C dx)/\E (.ref C) dx (upd H1 e (GO e C dx))
def QN(ok:cD P w H1 h)(d:H1 e=some (E5 e C dx)):cD P w (upd H1 e (GO e C dx)) h:=by
 obtain⟨⟨l,j,i,o,t,p,A,y,v⟩,_,_⟩:=ok _ _ d;refine ok.write (by rw[d];exact True.intro) (.inl zJ) (λb u _ q=>q) ⟨_,i⟩ ⟨⟨l,j,i,o,t,p,by lia,v⟩,⟨_,i⟩,λx z x k=>by obtain⟨l,j,a,r⟩:=x;exact ⟨l,j,k _ a,r⟩⟩
end
section
def MN(O:A.handled=none)
  (h:wpAny M A x (λv j=>∃e oe vs,v=.ref e/\j.heap.get? e=some oe/\oe.cls=.ref C/\oe.data=.fields vs/\vs[1]?=some .none /\
   (∃nm G N bs p a H sub t i D B u k2 r F o,j.heap.get? C=some (excClassObj nm G C N bs p a H sub t i D B u k2 r F o)/\p.contains (.type iU)=true)/\E (.ref e) j) E s):
  wpAny M A (raiseStmt env (some x) none) Q E s:=by
 refine zU (zS h (λv j z=>?_) λ_ _ y=>y);obtain⟨e,oe,vs,rfl,T,l,L,J,⟨nm,G,N,bs,p,a,H,sub,t,i,D,B,u,k2,r,F,o,q,S⟩,I⟩:=z;have R:(Value.ref C::p).contains (.type iU)=true:=by rw[contains_cons,S,Bool.or_true]
 obtain⟨U,g,d,X,Y⟩:=j
 repeat (first| (with_reducible refine Zz T ?_;rw[l])|with_reducible refine Zz q ?_| (with_reducible refine Z4 q ?_;rw[R])|wp_step)
 rw[L];apply zT;rw[J];apply zT;exact zT (wpAny_raiseNew_none O I)
end
section
def C1(R:Rx X E)(hc:X.calm=true)(S:BB X.K C=true)(he:PE X o te):PS X (.Raise (some o) none pos) (HG C te E):=by
 intro a s B H D I h;refine zU (z9 (MN (C:=C) (I.ok.hd hc) (zU (zS (he a s B H _ I h) (λv x z=>zU (z9 (zT ?_))) λ_ _ y=>y))));obtain⟨u,H1,j,ru,e,dx,rfl,d,q⟩:=z;obtain rfl:v=.ref e:=ru;obtain⟨⟨G,A,p,a2,a3,F,a5,t,a7⟩,_,_⟩:=j.aI _ _ d;obtain⟨nm,qn,N,bs,J,i,sn,sub,Q,l,Z,Y,U,O,M,k5,L,T⟩:=IP j.cp S;refine⟨e,G,A,zJ,p,a2,F,t,⟨nm,qn,N,bs,J,i,sn,sub,Q,l,Z,Y,U,O,M,k5,_,L,T.base⟩,?_⟩;refine R a B H1 x e C dx _ x j ⟨zJ,j.bare,Un.write (by rw[d];exact True.intro) (.inl zJ) (λb u _ r=>r) ⟨_,p⟩,QN j.aI d,aA⟩ ⟨G,A,p,F,t⟩ q
end
section
def MO{q}{sub}(F:ExcBaseFacts B newId i r)(T:MM B bm)     
  (o:h.get? C=some (excClassObj nm L C N bs bm p sn sub z col H G D k2 y I newId)) (v:h.get? e=some oe) (j:oe.cls=.ref C) (l:Q () ⟨h,g,d,t,q⟩):
  wpAny M A (checkBuiltinCall i ⟨.ref e::rest,[]⟩) Q E ⟨h,g,d,t,q⟩:=by
 have u:(Value.ref C::bm).contains (.type B)=true:=by rw[contains_cons,T.b];simp
 have J:=F.noStar;simp[checkBuiltinCall,F.initKind,F.initSplit,F.initRow]
 repeat (first| (with_reducible refine Zz v ?_;rw[j])|with_reducible refine Zz o ?_| (with_reducible refine Z4 o ?_;rw[u])|wp_step)
 apply wpAny_onRaise;rw[show ∀a b n,Bind.check ⟨.positional,"*",B,.self,[⟨"args",.varPos,false⟩]⟩ a b n (List.map (λx=>x.fst) ({pos:=Value.ref e::rest}:Args).kw)=pure ()from λa b n=>check_star_args _ _ _ _ _ _];exact zT l
def N9{l}{sub}(F:ExcBaseFacts B newId a D)(T:MM B bm)      
  (y:h.get? C=some (excClassObj nm O C N bs bm r sn sub H col L J I k2 G M newId)) (x:h.get? e=some oe) (i:oe.cls=.ref C) (o:oe.data=.fields vs) (v:vs[0]?=some v0) (hz:rest.length<=sizeLine)
  (j:Q .none ⟨(h.push {cls:=.type "tuple",data:=.seq rest.toArray}).update e (Obj.mapFields (·.setIfInBounds 0 (.ref h.objs.size))),g,d,t,l⟩):
  wpAny (model prog w) A (call (.builtin a) (.ref e::rest)) Q E ⟨h,g,d,t,l⟩:=by
 refine wpAny_call (codeAny_call_builtin F.init.plain F.initEntry (MO F T y x i ?_))
 wp_walk
 rw[o];apply zT;rw[v];refine zT (zU (wpAny_setField (Zy {cls:=.type "tuple",data:=.seq rest.toArray} x) o (Z9.mp v).1 ?_))
 have done:∀{u:VS},wpAny (model prog w) A.in1 (match v0 with|Value.ref _=>letGo [v0]|_=>pure ()) (λ_ p=>Q .none p) u ⟨(h.push {cls:=.type "tuple",data:=.seq rest.toArray}).update e (Obj.mapFields (·.setIfInBounds 0 (.ref h.objs.size))),g,d,t,l⟩:=λ{u}=>by
  cases v0<;>first|exact zT j| (wp_walk;exact j)
 exact zS done (λ_ p q=>zT q) λ_ _ z=>z
end
def R0(h:H a=some o):upd H a o=H:=by
 funext b;unfold upd
 simp_all
def QO:∀{d},Vals (x::xs) d->∃u ls,d=u::ls/\RelV x u/\Vals xs ls
 |_::_,.cons a b=>⟨_,_,rfl,a,b⟩
section
def V2(ω:FG)(t:TA):TE:=λσ H Q=>t σ H λvs H1=>∃a C dx rest,vs=.ref a::rest/\rest.length<=1000/\BB ω C=true/\H1 a=some (E5 a C dx)/\Q .aO H1
def UC:typeOf (.type iz)=pure (.type l7):=by rfl
def UD:Manifest.isStub iz=false:=by rfl
def UE(ω:FG):W.findCls ω (.type iz) (.type l7) ip=some (.val (.builtin "ValueError.__init__")):=by rfl
def UF:W.handedIn (.builtin "ValueError.__init__")=true:=by rfl
def O5:bootBuiltins iz=some (.type iz):=by rfl
def R5(hg:Gl X iz)(hm:X.mg iz=none)(Y:PA X (e::es) t)(he:et X e es:=by rfl)(p:(backTo pos (starEach es X.env)).any (·.1)=false:=by rfl)
  (ht:eval (.Call (.Attribute (.Name iz np) ip apos) (e::es) [] pos) X.env=(do
   let B ←eval (.Name iz np) X.env
   standAt apos.atName
   let (f,first) ←holding [B] (getMethod B ip pl)
   callWith pos f first (backTo pos (starEach (e::es) X.env)) (backToKw pos (keywordEach [] X.env))):=by rfl):
  PE X (.Call (.Attribute (.Name iz np) ip apos) (e::es) [] pos) (V2 X.K t):=by
 intro j s σ H Q I h;refine W.methodCall_KW ?_ ht;apply FH (u:=.type iz) I hg hm O5;obtain⟨m,Fm⟩:=I.fr;apply (λQ' hq=>W.method_type (prog:=X.prog) (w:=X.w) (A:=X.A) (E:=X.xe) (T:=iz) (pl:=pl) (Q:=Q') Fm I.ok.mod.kin UC UD (UE X.K) UF hq) _;refine PyProof.Rows.callWith_builtin1 (aL (Y pos j _ σ H _ (I.tok _) h) λus s1 k=>?_) he p;obtain⟨vs,H1,v,r1,a,C,dx,x,ev,Z,hC,i,q⟩:=k;subst ev;obtain⟨nm,qn,N,bs,bm,D,sn,sub,ab,U,dd,k0,k1,k2,k3,k5,R,T⟩:=IP v.cp hC;obtain⟨⟨oe,S,M,F,O,r,a5,a6,a7⟩,_,st⟩:=v.aI _ _ i;obtain⟨u0,J,eu,ra,rr⟩:=QO r1;subst eu
 ·obtain rfl:=ra;obtain⟨y,g,d,G,os⟩:=s1;apply N9 excBase_ValueError T R M F r (v0:=S[0]'(by lia)) (by simp_all) (by rw[←rr.length];exact Nat.le_of_lt (AS Z));have l:=Zu (Obj.mapFields (·.setIfInBounds 0 (.ref y.objs.size))) (Zy {cls:=.type iF,data:=.seq J.toArray} M) (Obj.isFreed_of_fields (Obj.data_mapFields r _));rw[FP r]at l
  have L:=(v.kept (h':=y.push {cls:=.type iF,data:=.seq J.toArray}) (t':=G) λb u z=>Zy _ z).write (o:=E5 a C dx) (t':=G) (by rw[i];exact True.intro) (.inl rfl) (λb u n z=>(Zx _ _ (Ne.symm n)).trans z) ⟨_,l⟩
   ⟨⟨_,_,l,F,O,rfl,by simp_all,by simp_all,by simp_all⟩,⟨_,l⟩,st⟩
  rw[R0 i]at L;exact⟨.aO,H1,L,zJ,q⟩
end
def KH(P:Program)(w:World)(ω:FG)(mg:SV)(base:Heap)(N:hA)(qual:Str)(scope:Scope)(f:hO)(cd:Value)(A:Around)(outer:List Env)(s:hX)(H:Hp)(e:hO)(oe:Obj):Cx:=
 {By aS P w ω mg base N qual scope f cd A outer s H (λ_ _ _=>False)with calm:=false,pn:=[(e,oe)],xe:=λ_ _=>False}
structure RoomS(k:Nat)(A:Around):Prop where
 dp:A.depth+3*k+5<recursionLimit
 un:A.units+16*k+200<cLine
def RoomS.deeper(r:RoomS (k+1) A)(env):RoomS k (A.deeper env):=⟨by have:=r.dp;show A.depth+1+3*k+5<_;lia,by have:=r.un;show A.units+3+16*k+200<_;lia⟩
def OA          
  (S:AH N ps scope) (a:cW P w ω mg base A outer s H) (u:vs.length=ps.length) (r:Vals vs us) (h:s.heap.get? e=some oe) (B:H e=none) (y:e∉ cA outer) (o:∀v,oe.data≠ .cell v)
  (x:InCallC s s.heap.objs.size (bindL (envOfC qual scope s.heap.objs.size f cd).kindOf (ps.zip us) λ_=>none) (cellsFrom (s.heap.objs.size+1) scope.names []) (bindC (envOfC qual scope s.heap.objs.size f cd).kindOf (ps.zip us) λ_=>none) s1):
  Inv (KH P w ω mg base N qual scope f cd A outer s H e oe) [] (start N vs) H s1:=by
 have d:∃d:Around,d.handled=none/\d.frames=A.frames:=⟨{A with handled:=none},rfl,rfl⟩;obtain⟨d,i,j⟩:=d;have I:=G9 (CX:=aS) (E:=λ_ _ _=>False) S i ⟨j.trans a.frames,a.mod,a.bs,a.eK,a.cu,a.eY,a.aI,a.bare⟩ u r x;obtain⟨C,D,rfl,t⟩:=x.done;have ok:=I.ok;refine⟨⟨ok.mod,ok.kind,ok.glob,ok.blt,ok.above,ok.inj,ok.has,ok.fH,(λz=>by trivial),Around.frames_deeper a.frames,ok.eh,ok.exf,ok.bs,ok.eK,ok.d3,ok.d5,ok.cu,ok.eY⟩,I.os,I.bare,I.base,I.loc,I.cell,I.free,I.cc,λp l=>?_,I.aI,I.len⟩;have q:p=(e,oe):=by simpa[KH]using l
 subst q;exact⟨t _ _ h,B,zZ (lt_size h),y,o⟩
abbrev SpS:=hO->Obj->hK->Hp->VK->Prop
structure O6(P:Program)(w:World)(K:FG)(mg:SV)(base:Heap)(k:Nat)(f:hO)(fd:FuncData)(ps:hA)(sp:SpS):Prop where
 len:∀e oe vs H Q,sp e oe vs H Q->vs.length=ps.length
 run:∀A outer s H args us vs Q e oe,RoomS k A->cW P w K mg base A outer s H->A.handled=some (.ref e)->s.heap.get? e=some oe->H e=none->e∉ cA outer->(∀v,oe.data≠ .cell v) ->
  BindsTo s fd args (ps.zip us)->Vals vs us->sp e oe vs H Q->codeAny (model P w) A (.call (.ref f) args) (CR aS outer P w H s Q λ_ _ _=>False) s
section
def aN.okS{st}(F:aN ω x qual st f fd)(S:AH N j (defScope st))(len:∀e oe vs H Q,sp e oe vs H Q->vs.length=j.length)
  (d:∀a A outer s H vs Q e oe,A.handled=some (.ref e)->RoomS k (A.deeper (envOfC qual (defScope st) s.heap.objs.size f a))->sp e oe vs H Q ->
   ∃t,c8 (KH P w ω mg base N qual (defScope st) f a A outer s H e oe) (defBody st) t/\t {nx:=λ_ H'=>Q .aO H',rt:=Q} (start N vs) H):O6 P w ω mg base (k+1) f fd j sp:=by
 obtain⟨oc,od,kV,doc,pm,an,a,ct,f7,rfl,L,p⟩:=F.ex;refine⟨len,λA outer s H B R vs Q e oe C i X he hn Z U hb r h=>?_⟩;have D:=i.mod.kin.keeps λb o z=>(i.bs b o z).1
 have Y:∀y∈j.zip R,(defScope st).names.lookup y.1=some .local\/((defScope st).names.lookup y.1=some .cell/\((cellsFrom (s.heap.objs.size+1) (defScope st).names []).lookup y.1).isSome=true):=λ⟨n,v⟩ T=>by
  rcases S.par n (of_mem_zip T).1 with q|q
  ·simp_all
  ·exact .inr ⟨q,W.cellsFrom_some _ _ _ (.inl q)⟩
 refine codeAny_call_function (by have:=C.dp;lia) (D _ _ L) rfl S.co S.gen rfl (W.codeRec_of D p) (hb _ _ _ _ (wpAny_newFunctionEnv_cells S.kind Y λO G M x=>?_));subst G;refine⟨(i.mod.nolimit.keeps λb o z=>(i.bs b o z).1).keeps x.toInCall.keep,codeAny_func ?_⟩;obtain⟨t,ht,hq⟩:=d a A outer s H vs Q e oe X (C.deeper _) h;have I:=OA S i (len _ _ _ _ _ h) r he hn Z U x;refine zS (ht [] M (start N vs) H _ I hq) (λfl s' z=>?_) λ_ _ z=>z.elim;cases fl with
 |ret u=>
  obtain⟨v,l,H',J,E,q⟩:=z;exact⟨v,H',J.os,J.bare,J.base,J.aI,E,q⟩
 |next=>
  obtain⟨l,H',J,q⟩:=z;exact⟨.aO,H',J.os,J.bare,J.base,J.aI,zJ,q⟩
 |brk=>
  obtain⟨_,_,_,q⟩:=z;exact q.elim
 |cont=>
  obtain⟨_,_,_,q⟩:=z;exact q.elim
def UG(a:A.handled=some (.ref e))(h:oe.data=.fields vs)(d:vs[2]?=some .none):
  fQ (KH P w ω mg base N qual scope f cd A outer s H e oe):=.inr ⟨e,oe,vs,a,z8,h,d⟩
end
noncomputable def del(H:Hp)(a:hO):Hp:=λb=>if b=a then none else H b
def MP:del H a a=none:=zM rfl
def ET(h:b≠a):del H a b=H b:=zN h
section
def R6(u:Un fs [] H1 j h h2)(L:Iw fs e oe vs old h2 h')(l:j e=some (GO e C dx))(x:∀b,old b->j b=none/\h.get? b=none):Un fs [] H1 (del j e) h h':=by
 have r:∀b,j b=none->b≠e:=λb n z=>by simp_all
 have a:∀b o,h.get? b=some o->¬ old b:=λb o i z=>by simp_all
 have d:∀b v,j b=some v->(∀D,v≠ .ext D)->b≠e:=λb v t E z=>by subst z;rw[l]at t;cases t;exact E _ rfl
 refine⟨λb o q n i _=>?_,λb o q n i _=>?_,λb o q n _=>?_,λb o q _=>?_,λb p q=>?_,λb o p q=>?_,λb A q=>?_⟩
 ·exact L.keep b o (u.keep b o q n i (by simp)) (r b (u.free b o q n (by simp))) (a b o q) i
 ·obtain⟨sl,q1⟩:=u.slot b o q n i (by simp);obtain⟨dh,q2⟩:=L.slot b _ q1 (r b (u.free b o q n (by simp))) (a b o q) i
  simp_all
 ·have z:=u.free b o q n (by simp)
  rwa[ET (r b z)]
 ·obtain⟨B,q1⟩:=u.there b o q (by simp);exact L.there b B q1
 ·have z:=u.dG b p q
  rwa[ET (d b _ z λ_ y=>nomatch y)]
 ·have z:=u.dj b o p q
  rwa[ET (d b _ z λ_ y=>nomatch y)]
 ·obtain⟨m,z⟩:=u.dm b A q;exact⟨m,by rw[ET (d b _ z λ_ y=>nomatch y)];exact z⟩
def UH(ok:cD P w i h)(d:i e=some (GO e C dx)):cD P w (del i e) h:=λb u q=>by
 have o:b≠e:=λz=>by subst z;rw[MP]at q;cases q
 rw[ET o]at q;have a:∀c v,i c=some v->(∀l,v≠ .ext l)->c≠e:=λc v j p z=>by subst z;rw[d]at j;cases j;exact p _ rfl
 exact(ok b u q).df (λ_ _ _ z=>z) (λc z=>by rwa[ET (a c _ z λ_ y=>nomatch y)]) λc r z=>by rwa[ET (a c _ z λ_ y=>nomatch y)]
structure Cgt(C:hO)(dx:Option hO)(e:hO)(oe:Obj)(T:hO)(oT:Obj):Prop where
 cls:oe.cls=.ref C
 dict:oe.dict=dx
 fld:∃vs,oe.data=.fields vs/\vs[1]?=some (.ref T)/\vs[2]?=some .none
 tb:∃ts,oT.data=.fields ts/\ts[3]?=some .none
def V3(O:N5 X)(I:Inv X aa σ H1 s1)(F:Fly X.prog X.w X.stack H1 s1 e C dx r s2)
  (h:∀s3 oe T A,Cgt C dx e oe T A->Inv X ((e,oe)::(T,A)::aa) σ (del r e) s3->Q () s3):
  cn X (noteFrame (.ref e) X.env) (λ_ s3=>cn X (setFlight (.ref e) none) Q E' s3) E' s2:=by
 obtain⟨B,oe,H,T,A,ts,D,x,a3,a4,a5,U,a7,a8,a9⟩:=F;have fr:=FQ I B;have E:=I.ok.frames;rw[O.eh]at fr E;refine KG E fr O.fr D x a3 a4 a5 U a7 λh' L=>?_;rw[←O.eh]at L;have d:∀b,b=T->r b=none/\s1.heap.get? b=none:=λb z=>by simp_all
 have a:∀b∈cA X.stack,r b=none:=λb j=>by
  obtain⟨_,o,i,_⟩:=I.stack.mem j;exact B.un.free b o i (I.stkFree b j) (by simp)
 obtain⟨t,y,u,b1,b2,b3,Z,b5⟩:=L.tb;obtain⟨⟨oe',Y,N,S,c3,J,c5,c6⟩,_,_⟩:=B.aI _ _ B.at_;rw[D]at N;cases N;rw[x]at J;cases J;have R:Inv X aa σ (del r e) {s2 with heap:=h'}:=I.call' B.os (R6 B.un L B.at_ d) (UH (MJ B.aI L a (λb z=>(d b z).1) D x B.at_) B.at_) B.bare λb z=>nomatch z;have hT0:=Heap.get?_none_of_le b1;have hTH:=B.aI.fresh b1
 have G:∃o,s2.heap.get? X.env.locals=some o:=by
  obtain⟨m,⟨o,_,_,i,_⟩,_⟩:=id I.loc;exact B.un.there _ o i (by simp)
 have M:∀b∈X.fs,∃o,s2.heap.get? b=some o:=λb j=>by
  obtain⟨_,o,i,_⟩:=I.cu.mem j;exact B.un.there b o i (by simp)
 have l:∀b∈X.fs,b∈cA X.stack:=λb j=>by
  rw[O.eh];unfold cA;rw[Zn,O.fr];exact Zs _ j
 refine h _ {oe with data:=.fields (H.setIfInBounds 1 (.ref t))} t y ⟨S,c3,⟨H.setIfInBounds 1 (.ref t),rfl,by grind,by simp_all⟩,⟨u,b3,Z⟩⟩ (R.pins_of λp hp=>?_);rcases mem_cons.mp hp with z|z
 ·subst z;refine⟨b5,MP,λz=>?_,λz=>?_,λv z=>by cases z⟩
  ·obtain⟨m,⟨o,_,_,i,_⟩,_⟩:=id I.loc;have q:=B.un.free _ _ i I.free (by simp);rw[←z,B.at_]at q;cases q
  ·have q:=a e (l e z);rw[B.at_]at q;cases q
 rcases mem_cons.mp z with z|z
 ·subst z;refine⟨b2,by rw[ET (λz=>by simp_all)];lia,λz=>?_,λz=>?_,λv z=>by simp_all⟩
  ·simp_all
  grind
 ·exact R.pin p (by grind)
end
noncomputable def ED(ω:FG)(C:hO):hE:=match ω.lookup C with
 |some ⟨_,_,.cls cd,_⟩=>cd.mro
 |_=>[]
def MQ(X:ω.In h)(q:BB ω C=true):∃nm u N bs i a v sub l d r p o k2 j t,h.get? C=some (excClassObj nm u C N bs i a v sub l d r p o k2 j t "ValueError.__new__")/\MM iz i/\ED ω C=.ref C::i:=by
 obtain⟨nm,u,N,bs,i,a,v,sub,l,d,r,p,o,k2,j,t,x,T⟩:=IP X q;refine⟨nm,u,N,bs,i,a,v,sub,l,d,r,p,o,k2,j,t,x,T,?_⟩;unfold BB at q;unfold ED;split at q
 ·rename_i B D sl y;rw[y];have e:=X _ _ y;rw[x]at e;have A:=Option.some.inj e;injection (congrArg Obj.data A)with z
  rw[←z]
 ·cases q
section
def K3{y}{sub}(B:h.get? C=some (excClassObj nm qn C N bs bm r sn sub S col Z Y X k2 R k5 newId))(x:h.get? D=some (excClassObj I G D N' z j o H u F q J l0 l1 T l3 U l))
  (O:h.get? e=some oe) (i:oe.cls=.ref C) (a:j.contains (.type iU)=true) (v:Q ((Value.ref C::bm).contains (.ref D)) ⟨h,g,d,t,y⟩):wpAny M A (excMatches (.ref e) (.ref D)) Q E ⟨h,g,d,t,y⟩:=by
 have p:(Value.ref D::j).contains (.type iU)=true:=by rw[contains_cons,a,Bool.or_true]
 have f:=tc_notTuple;generalize L:(Value.ref C::bm).contains (.ref D)=b at v
 repeat (first| (with_reducible refine Zz O ?_;rw[i])|with_reducible refine Zz x ?_| (with_reducible refine Z4 x ?_;rw[p])| (with_reducible refine Z4 B ?_;rw[L])|wp_step)
 cases b<;>(wp_walk;exact v)
end
noncomputable def CK(X:Cx)(e:hO)(oe:Obj)(T:hO)(oT:Obj):Cx:={X with A:=X.A.mark (some (.ref e)),calm:=false,pn:=X.pn++[(e,oe),(T,oT)],xe:=λ_ _=>False}
section
def Inv.mark(I:Inv X ((e,oe)::(T,oT)::aa) σ H s):Inv (CK X e oe T oT) aa σ H s:=
 ⟨⟨I.ok.mod,I.ok.kind,I.ok.glob,I.ok.blt,I.ok.above,I.ok.inj,I.ok.has,I.ok.fH,(λz=>by trivial),I.ok.frames,I.ok.eh,I.ok.exf,I.ok.bs,I.ok.eK,I.ok.d3,I.ok.d5,I.ok.cu,I.ok.eY⟩,I.os,I.bare,I.base,I.loc,I.cell,I.free,I.cc,
  λp a=>I.pin p (by simpa[CK]using a),I.aI,I.len⟩
def Inv.unmark(ok:X.Ok)(I:Inv (CK X e oe T oT) aa σ H s):Inv X ((e,oe)::(T,oT)::aa) σ H s:=
 ⟨ok,I.os,I.bare,I.base,I.loc,I.cell,I.free,I.cc,λp a=>I.pin p (by simpa[CK]using a),I.aI,I.len⟩
def Inv.less(I:Inv X (q++aa) σ H s):Inv X aa σ H s:=I.pins_of λp a=>I.pin p (by grind)
def Inv.nameless(I:Inv X aa σ H s)(D:h'.Ns X.env.locals F)(hs:Heap.SameBut X.env.locals s.heap h'):Inv X aa (List.replicate σ.length none) H {s with heap:=h',toks:=tk}:=by
 obtain⟨m,⟨J,_,_,A,_⟩,_⟩:=id I.loc;refine⟨I.ok,I.os,I.bare,⟨λb o e n r a=>?_,λb o e n r a=>?_,I.base.free,λb o e a=>?_,I.base.dG,I.base.dj,I.base.dm⟩,⟨_,D,λj y G h l E=>?_⟩,λy c e=>?_,I.free,I.cc,λp v=>?_,λb B e=>?_,by simpa using I.len⟩
 ·exact(hs.2 b (zZ (Z2 (lt_size e) I.ok.above))).trans (I.base.keep b o e n r a)
 ·obtain⟨sl,h⟩:=I.base.slot b o e n r a;exact⟨sl,(hs.2 b (zZ (Z2 (lt_size e) I.ok.above))).trans h⟩
 ·obtain⟨x,h⟩:=I.base.there b o e a;exact⟨x,(hs.2 b (zZ (Z2 (lt_size e) I.ok.above))).trans h⟩
 ·rw[List.getElem?_replicate]at l;split at l<;>cases l
 ·obtain⟨t,z⟩:=I.cell y c e;exact⟨t,z.sameBut hs (I.gf y c e)⟩
 ·obtain⟨e,n,u,C,d⟩:=I.pin p v;exact⟨(hs.2 p.1 u).trans e,n,u,C,d⟩
 ·refine(I.aI b B e).df (λc t i q=>(hs.2 c ?_).trans q) (λ_ q=>q) λ_ _ q=>q;intro z;subst z;rcases i with z|i
  ·rw[←z,I.free]at e;cases e
  ·rw[I.free]at i;cases i
end
def PH(X:Cx)(C:hO)(dx:Option hO)(hs:List ExceptHandler)(t:hO->TS):Prop:=
 ∀(aa:LO)s(σ:St)H D e oe T oT,Cgt C dx e oe T oT->Inv X ((e,oe)::(T,oT)::aa) σ H s->t e D σ H->cn X (handleBy (.ref e) X.env hs) (SP X aa D) X.xe s
section
def KJ(e):Value.ref e≠byPass:=by intro q;cases q
def KK(t:BB X.K C=true)(B:BB X.K Dn=true)(c:Cgt C dx e oe T oT)(I:Inv X ((e,oe)::(T,oT)::aa) σ H s) 
  (h:Q ((ED X.K C).contains (.ref Dn)) s):wpAny (model X.prog X.w) A (excMatches (.ref e) (.ref Dn)) Q E s:=by
 obtain⟨nm,qn,N,bs,J,j,sn,sub,U,q,dd,k0,k1,S,L,k5,p,T1,u⟩:=MQ I.cp t;obtain⟨z,v,M,o,y,a,x,l,r,i,D,l0,Z,Y,l3,l5,G,F,O⟩:=MQ I.cp B;rw[u]at h;obtain⟨R,g,d,tk,os⟩:=s;exact K3 p G ((I.pin (e,oe) (by simp)).1) c.cls F.base h
def CS(l:BB X.K C=true)(o:BB X.K Dn=true)(q:Gl X x)(v:X.mg x=some (.ref Dn))(i:(ED X.K C).contains (.ref Dn)=false)(j:PH X C dx hs t)(d:dr x:=by decide):
  PH X C dx (.ExceptHandler (some (.Name x np)) name body pos::hs) t:=by
 intro a s p H D e u T r c I h;refine wpAny_handleBy_cons (codeAny_handlers_test ?_) (KJ e);refine Bv I.mark q v ?_ d;apply KK l o c I;rw[i];exact j a s p H D e u T r c I h
def O7(i:Nat)(tb:TS):hO->TS:=λe D σ H=>tb {nx:=λ_ _=>False,rt:=D.rt} (σ.set i (some (.ref e))) H
def O8{X}{tb:hO->TS}(R:X.N.Nodup)(hi:X.N[i]?=some n)(B:X.env.scope.names.lookup n=some .local)(Y:BB X.K C=true)(hD:BB X.K Dn=true)(hg:Gl X x)(S:X.mg x=some (.ref Dn))(j:(ED X.K C).contains (.ref Dn)=true)
  (hb:∀e oe T d,Cgt C dx e oe T d->c8 (CK X e oe T d) (o::body) (tb e)) (A:dr x:=by decide):
  PH X C dx (.ExceptHandler (some (.Name x np)) (some n) (o::body) pos::hs) (λe=>O7 i (tb e) e):=by
 intro p s σ H D e oe T d c I h;refine wpAny_handleBy_cons (codeAny_handlers_test ?_) (KJ e);refine Bv I.mark hg S ?_ A;apply KK Y hD c I;rw[j];apply codeAny_handlers_suite_as;obtain⟨vs,hd,U,h2⟩:=c.fld;obtain⟨L,a,E⟩:=c.tb;have t:=(I.pin (T,d) (by simp)).1;refine wpAny_setFlight_none ((I.pin (e,oe) (by simp)).1) hd U t a (Z9.mp E).1 ?_
 have I1:=I.kept (t':=s.toks) λb u q=>by
  by_cases z:b=T
  ·subst z;have r:=Zu (Obj.mapFields (·.setIfInBounds 3 Value.none)) t (Obj.isFreed_of_fields (Obj.data_mapFields a _));rw[FP a]at r
   have N:L.setIfInBounds 3 Value.none=L:=by
    obtain⟨G,Q⟩:=Z9.mp E;rw[Array.setIfInBounds,dif_pos G]
    conv=>lhs;rw[←Q]
    exact Array.set_getElem_self G
   rw[N,←a]at r;rw[show s.heap.get? b=some d from t]at q;cases q;exact r
  ·exact(Zx _ _ (Ne.symm z)).trans q
 refine DQ (X:=CK X e oe T d) (v:=.ref e) I1.mark R hi (.inl B) rfl (λs2 I2=>?_) (.inr B);refine zS (hb e oe T d c p s2 _ H _ I2 h) (λfl s3 z=>?_) λ_ _ z=>z.elim;cases fl with
 |ret u=>
  obtain⟨v,Z,O,J,M,q⟩:=z;have F:=J.unmark I.ok;obtain⟨m,hn,_⟩:=id F.loc;have l:(X.env.scope.kind == .class||(X.env.scope.kind == .module&&X.env.locals != X.env.globals))=false:=by rw[I.ok.kind];rfl
  exact wpAny_nameGoes B hn l λh' m' y j=>⟨v,_,O,(F.nameless y j).less (q:=[(e,oe),(T,d)]),M,q⟩
 |next=>
  obtain⟨_,_,_,q⟩:=z;exact q.elim
 |brk=>
  obtain⟨_,_,_,q⟩:=z;exact q.elim
 |cont=>
  obtain⟨_,_,_,q⟩:=z;exact q.elim
end
noncomputable def ID(X:Cx)(P0:LO)(xe:VS):Cx:={X with pn:=X.pn++P0,xe:=xe}
section
def Cx.Ok.tr{X}{a}{xe}(ok:X.Ok):(ID X a xe).Ok:=⟨ok.mod,ok.kind,ok.glob,ok.blt,ok.above,ok.inj,ok.has,ok.fH,ok.hd,ok.frames,ok.eh,ok.exf,ok.bs,ok.eK,ok.d3,ok.d5,ok.cu,ok.eY⟩
def Cx.Ok.untr{X}{a}{xe}(ok:(ID X a xe).Ok):X.Ok:=⟨ok.mod,ok.kind,ok.glob,ok.blt,ok.above,ok.inj,ok.has,ok.fH,ok.hd,ok.frames,ok.eh,ok.exf,ok.bs,ok.eK,ok.d3,ok.d5,ok.cu,ok.eY⟩
def Inv.tr(I:Inv X P0 σ H s):Inv (ID X P0 xe) [] σ H s:=⟨I.ok.tr,I.os,I.bare,I.base,I.loc,I.cell,I.free,I.cc,λp a=>I.pin p (by simpa[ID]using a),I.aI,I.len⟩
def Inv.untr(I:Inv (ID X P0 xe) aa σ H s):Inv X P0 σ H s:=⟨I.ok.untr,I.os,I.bare,I.base,I.loc,I.cell,I.free,I.cc,λp a=>I.pin p (by
 rcases mem_append.mp a with z|z
 ·exact Zq _ (Zq _ z)
 ·exact Zq _ (Zt _ z)),I.aI,I.len⟩
end
def UI(n:Nat)(th:hO->Option hO->hO->TS)(D:IV):XK:=λCv dx H2=>∃C,Cv=.ref C/\∀e,H2 e=some (GO e C dx)->th C dx e D (List.replicate n none) (del H2 e)
def Y4(n:Nat)(tb:XK->TS)(th:hO->Option hO->hO->TS):TS:=λD σ H=>tb (UI n th D) {D with nx:=D.nx} σ H
section
def V4(O:N5 X)(hb:∀M xe E,BK (cz X.prog X.w) (ID X M xe) E->c8 (ID X M xe) body (tb E))(Z:∀C l,PH X C l (x::hs) (th C l)):
  PS X (.Try body (x::hs) [] [] pos) (Y4 X.N.length tb th):=by
 intro a s Y H D I h;apply wpAny_Try_except
 let E:XK:=UI X.N.length th D
 let xe:Value->hX->Prop:=λL G=>∃e y p j C l t,L=.ref j/\Inv X a e y p/\Fly X.prog X.w X.stack y p j C l t G/\E (.ref C) l t
 have S:BK (cz X.prog X.w) (ID X a xe) E:=by
  rintro B e y p L G A ⟨j,C,l,t,rfl,F,q⟩;exact⟨e,y,p,j,C,l,t,zJ,A.untr,F,q⟩
 refine zS (hb a xe E S [] s Y H _ I.tr h) (λfl p z=>?_) λL G z=>?_
 ·cases fl with
  |next=>
   obtain⟨d,o,J,q⟩:=z;exact wpAny_execs_nil ⟨d,o,J.untr,q⟩
  |brk=>obtain⟨d,o,J,q⟩:=z;exact⟨d,o,J.untr,q⟩
  |cont=>obtain⟨d,o,J,q⟩:=z;exact⟨d,o,J.untr,q⟩
  |ret u=>obtain⟨v,d,o,J,r,q⟩:=z;exact⟨v,d,o,J.untr,r,q⟩
 ·obtain⟨e,y,p,j,C,l,t,rfl,A,F,C',eC,q⟩:=z;cases eC;refine V3 O A F λs3 R T Q c N=>?_
  have U:Inv X ((j,R)::(T,Q)::a) (List.replicate X.N.length none) (del t j) s3:=N.weak (by rw[List.length_replicate,N.len]) λi v z=>by
   grind
  exact Z C l a s3 _ _ D j R T Q c U (q j F.1.at_)
end
structure FR(K:FG)(C:hO):Prop where
 ga:W.findIn K (.ref C) jc=some (some (.builtin ik))
 gr:W.findIn K (.ref C) "__getattr__"=some none
 mb:W.mroIn K C (.type iU)=some true
section
def QP{i}(p:FR ω C)(X:ω.In h)(I:W.InstAt h x o C od)(j:Q () ⟨h,g,d,t,i⟩):wpAny M A (checkBuiltinCall ik ⟨[.ref x,e],[]⟩) Q E ⟨h,g,d,t,i⟩:=by
 have l:builtinKind ik=some .slot:=by decide +kernel
 have a:splitId ik=some (iU,jc):=by decide +kernel
 simp[checkBuiltinCall,a];apply zU
 ·repeat (first|with_reducible refine(I.type (M:=M)).at ?_|with_reducible refine(W.looks_mroIn (M:=M) X p.mb).at ?_|wp_step)
  exact j
def QQ{a}(X:ω.In h)(I:W.InstAt h x i C od)(e:W.findObj ω C od name=some (.value v))(j:Q (.done (.ret v)) ⟨h,g,d,t,a⟩):
  wpAny (model prog w) A (Builtin.«object.__getattribute__» ⟨[.ref x,.str name tk],[]⟩) Q E ⟨h,g,d,t,a⟩:=by
 repeat (any_goals (first|assumption|with_reducible refine(I.type (M:=model prog w)).at ?_|with_reducible refine(W.looks_find (M:=model prog w) X I e).at ?_|wp_step))
def QR{a}(X:ω.In h)(I:W.InstAt h x l C od)(j:W.findObj ω C od name=some (.bind (.builtin ir) (.builtin ib)))(i:W.mroIn ω C (.type jv)=some true)
  (e:Q (.done (.ret (.ref C))) ⟨h,g,d,t,a⟩):
  wpAny (model prog w) A (Builtin.«object.__getattribute__» ⟨[.ref x,.str name tk],[]⟩) Q E ⟨h,g,d,t,a⟩:=by
 repeat (any_goals (first|assumption|with_reducible refine(I.type (M:=model prog w)).at ?_|with_reducible refine(W.looks_find (M:=model prog w) X I j).at ?_|wp_step))
 exact W.class_get X I i (zT e)
def R7{a}(p:FR ω C)(X:ω.In h)(I:W.InstAt h x o C od)
  (j:∀i(e:VS)(Q:Fin->hX->Prop),Q (.done (.ret v)) ⟨h,g,d,t,a⟩->wpAny (model prog w) i (Builtin.«object.__getattribute__» ⟨[.ref x,.str name tk],[]⟩) Q e ⟨h,g,d,t,a⟩) (l:R (.ok (.ret v)) ⟨h,g,d,t,a⟩):
  codeAny (model prog w) A (.call (.builtin ik) ⟨[.ref x,.str name tk],[]⟩) R ⟨h,g,d,t,a⟩:=
 codeAny_call_builtin F.excAttr_ValueError.ga.plain F.entry_bexc_ga (QP p X I (j _ _ _ l))
def R8{e}{a}(p:FR ω C)(X:ω.In h)(I:W.InstAt h x z C od)(l:W.handedIn v=true)
  (q:∀o(j:VS)(Q:Fin->hX->Prop),Q (.done (.ret v)) ⟨h,g,d,t,e⟩->wpAny (model prog w) o (Builtin.«object.__getattribute__» ⟨[.ref x,.str name tk],[]⟩) Q j ⟨h,g,d,t,e⟩) (y:Q v ⟨h,g,d,t,e⟩):
  wpAny (model prog w) A (getAttrBy (.ref x) (.str name tk) a expr) Q E ⟨h,g,d,t,e⟩:=by
 have B:=F.excAttr_ValueError.ga.bind (.ref x);have r:(expr&&onTheHeap (Value.builtin ik))=false:=by cases expr<;>rfl
 have i:(Value.builtin ik == Value.builtin "object.__getattribute__")=false:=by decide +kernel
 have u:(onTheHeap (Value.ref C)&&Value.builtin ik == Value.builtin "object.__getattribute__")=false:=by rw[i];rfl
 repeat (any_goals (first|assumption|with_reducible refine(I.type (M:=model prog w)).at ?_|with_reducible refine(W.looks_findIn (M:=model prog w) X p.ga).at ?_|with_reducible refine(W.looks_findIn (M:=model prog w) X p.gr).at ?_|wp_step))
 apply R7 p X I q
 repeat (any_goals (first|assumption| (rw[W.handedOut_of l];exact zT y)|wp_step))
def R9{a}(p:FR ω C)(X:ω.In h)(I:W.InstAt h x r C od)(j:W.findObj ω C od name=some (.value v))(e:W.handedIn v=true)(i:Q v ⟨h,g,d,t+1,a⟩):
  wpAny (model prog w) A (getAttr (.ref x) name expr) Q E ⟨h,g,d,t,a⟩:=by
 refine zU (wpAny_mkText ?_);exact R8 p X I e (λq l o z=>QQ X I j z) i
def MR{a}(p:FR ω C)(X:ω.In h)(I:W.InstAt h x r C od)(j:W.findObj ω C od jK=some (.bind (.builtin ir) (.builtin ib)))(i:W.mroIn ω C (.type jv)=some true)
  (e:Q (some (.ref C)) ⟨h,g,d,t+1,a⟩):wpAny (model prog w) A (getAttr? (.ref x) jK) Q E ⟨h,g,d,t,a⟩:=by
 refine zU (wpAny_mkText (zU (wpAny_attempt ?_)));exact R8 p X I zJ (λq l o z=>QR X I j i z) (zT e)
end
def Jm(d:(W.clsIn ω C).isSome=true)(i:W.findIn ω (.ref C) name=some (some a))(h:W.specialIn ω a jW=some (some g))(ht:W.takesIn ω a=some true):W.findObj ω C od name=some (.bind g a):=by
 obtain⟨e,d⟩:=Option.isSome_iff_exists.mp d;unfold W.findObj
 simp_all
structure UJ(K:FG)(C:hO):Prop where
 hg:FR K C
 hc:(W.clsIn K C).isSome=true
 ha:W.findIn K (.ref C) jK=some (some (.builtin ib))
 hn:W.specialIn K (.builtin ib) jW=some (some (.builtin ir))
 htk:W.takesIn K (.builtin ib)=some true
 hm:W.mroIn K C (.type jv)=some true
def SA(k:UJ ω D):W.KitX ω (.ref x) (.ref D) (λh=>W.InstAt h x B D od) where
 ty:=λ_ _ _ I=>I.type
 it:=λ_ _ X _=>by
  have a:=k.hc;unfold W.clsIn at a;split at a
  ·rename_i r u i o j;intro v G C y k q;exact zU (wpAny_loadPart (k _ _ (X _ _ j)) (zT q))
  ·cases a
 ne:=λh tp z p n sl X l=>by
  have a:=k.hc;refine Bool.eq_false_iff.mpr λq=>?_;have e:=Value.ref.inj (beq_iff_eq.mp q);subst e;unfold W.clsIn at a;split at a
  ·rename_i r u i o j;cases ((X _ _ j).symm.trans l)
  ·cases a
 ca:=λ{prog w A E Q s}X I h=>by
  obtain⟨F,g,d,t,H⟩:=s;exact MR k.hg X I (Jm k.hc k.ha k.hn k.htk) k.hm h
structure ExcP(X:Cx)(e:hO)(oe:Obj)(C:hO):Prop where
 at_:(e,oe)∈X.pn
 cls:oe.cls=.ref C
 fld:∃vs,oe.data=.fields vs
section
def ExcP.inst(p:ExcP X e oe C)(I:Inv X aa σ H s)(r:oe.dict=none\/∃d u,oe.dict=some d/\H d=some u):∃l,W.InstAt s.heap e oe C l:=by
 have h:=(I.pin (e,oe) (Zq _ p.at_)).1;obtain⟨B,j⟩:=p.fld;have no:W.notCls oe=true:=by unfold W.notCls;rw[j]
 rcases r with z|⟨d,u,z,i⟩
 ·exact⟨none,h,p.cls,no,by rw[z];trivial⟩
 ·have:∃o,s.heap.get? d=some o:=by
   have q:=(I.aI d u i);cases u with
   |lst v=>obtain⟨_,_,_,_,e⟩:=q;exact⟨_,e⟩
   |tup v=>obtain⟨_,_,_,o,e,_⟩:=q;exact⟨o,e⟩
   |dK a=>obtain⟨_,_,_,_,o,_,_,e,_⟩:=q;exact⟨o,e⟩
   |dT a=>obtain⟨_,_,_,_,o,_,_,e,_⟩:=q;exact⟨o,e⟩
   |set S n=>obtain⟨o,_,_,_,e,_⟩:=q;exact⟨o,e⟩
   |ins C G fs=>obtain⟨_,_,_,e,_⟩:=q;exact⟨_,e⟩
   |own y=>exact q
   |xd fs=>obtain⟨_,⟨o,_,_,e,_⟩,_⟩:=q;exact⟨o,e⟩
   |rng A E=>obtain⟨_,_,_,e⟩:=q;exact⟨_,e⟩
   |cb D u=>exact⟨_,q.1⟩
   |dy x=>exact⟨_,(q)⟩
   |met f y=>exact⟨_,(q)⟩
   |ext F=>exact q.2.1
  obtain⟨o,t⟩:=this;exact⟨some o,h,p.cls,no,by rw[z];exact t⟩
def KL(p:ExcP X e oe C)(k:UJ X.K C):aT X (.builtin iG) (λxs H Q=>∃v c b,xs=[.ref e,v]/\((∃D,v=.ref D/\c=.ref D)\/∃T,v=.ty T/\c=.type T)/\(oe.dict=none\/∃d u,oe.dict=some d/\H d=some u)/\W.kitOne X.K (.ref C) c=some b/\Q (.bl b) H):=by
 rintro h s A H xs E Q I r ⟨v,c,b,rfl,t,j,l,q⟩;obtain⟨u,i,rfl,y,a⟩:=Hy r;cases (y);obtain⟨B,J⟩:=p.inst I j
 have o:i=c:=by
  rcases t with⟨D,rfl,rfl⟩|⟨T,rfl,rfl⟩
  ·exact a
  ·exact a
 subst o;exact W.kia_one (SA k) I.cp J l (λz=>nomatch z) λx=>⟨.bl b,H,I.tok x,rfl,q⟩
end
section
def K4(sp:SpS)(e:hO)(oe:Obj)(t:TA):TE:=λσ H Q=>t σ H λvs H1=>sp e oe vs H1 Q
def MS(F:O6 X.prog X.w X.K X.mg X.base k f fd ps sp)(U:RoomS k X.A)(M:X.A.handled=some (.ref e))(N:(e,oe)∈X.pn)(O:Gl X x)(E:X.mg x=some (.ref f))(S:W.keepIn X.K (.ref f)=true)(Y:Binds X.K fd ps [])
  (C:PA X (a::es) t) (v:dr x:=by decide) (he:et X a es:=by rfl) (o:(backTo pos (starEach es X.env)).any (·.1)=false:=by rfl):
  PE X (.Call (.Name x p) (a::es) [] pos) (K4 sp e oe t):=by
 intro j s L H Q I h;refine Z3 (Bv I O E ?_ v);refine W.callWith_K I.ok.mod.kin S (aL (C pos j s L H _ I h) λl y ⟨J,R,d,r,q⟩=>⟨d.cp,?_⟩) he o;obtain⟨G,D,B,e4,Z⟩:=d.pin (e,oe) (by grind);have T:(l++[]).length=ps.length:=by rw[zQ,←r.length];exact F.len _ _ _ _ _ q
 have A:=Y y l d.cp T;rw[zQ]at A;refine wpAny_call (codeAny_mono (F.run X.A X.stack y R ⟨l,[]⟩ l J Q e oe U d.eB M G D (λz=>(mem_cons.mp (d.cQ e z)).elim B e4) Z A r q) λr s' i=>?_);cases r with
 |error e=>exact False.elim i
 |ok fl=>
  cases fl with
  |ret u=>exact d.after i
  |next=>exact False.elim i
  |brk=>exact False.elim i
  |cont=>exact False.elim i
end
def SB(a b):MeetsSeq.EqGives (.bool a) (.bool b) (a==b):=λprog w A E s Q h=>SeqAt.EqAt.bool_bool a b prog w E Q h
def KM:∀{bs:List Bool}{a},Vals (bs.map V.bl) a->a=bs.map Value.bool
 | [],_,.nil=>rfl
 |_::_,_,.cons r t=>by rw[map_cons,←KM t];cases r;rfl
def UK:V->hK->Hp->VK->Prop:=λx vs H Q=>∃(l:hO)(bs:List Bool)(j:Nat),x=.ref l/\vs=[.bl true]/\H l=some (.lst (bs.map V.bl))/\bs[j]?=some true/\(∀m,m<j->bs[m]?=some false)/\Q (.int (j:Nat)) H
section
def QS:MtM X "list.index" UK:=by
 rintro p s R H x N v M Q I E A ⟨l,bs,j,rfl,rfl,G,o,d,q⟩;cases E;obtain⟨u,rfl,D⟩:=A.one;obtain rfl:u=Value.bool true:=D;obtain⟨z,t,n,r,S,e⟩:=I.lstM G;have J:=KM r;subst J;have h:=(Z8.mp o).1
 have B:(j:Int)<2^63-1:=by
  have O:sizeLine<2^62:=by decide
  rw[AQ]at z
  lia
 refine call_meets F.slot_list_index ⟨_,e,zJ⟩ F.entry_list_index (F.args_list_index_2 _ _)
  (MeetsSeq.list_index l (bs.map Value.bool).toArray n (.bool true) (λy=>match y with|.bool a=>a==true|_=>false) (λy C=>?_) j (by simpa using h) B ?_ λm L i=>?_) ⟨e,?_⟩
 ·obtain⟨a,_,rfl⟩:=zO.mp (List.mem_toArray.mp C);exact SB a true
 ·have:=(Z8.mp o).2;simp[this]
 ·have:=(Z8.mp (d m i)).2;simp[this]
 ·exact⟨.int j,H,I.tok _,⟨_,zJ⟩,q⟩
end
noncomputable def gH(f:hO)(o:Obj):HO:=.ext λh=>h.get? f=some o
noncomputable def GQ(c:hO)(qual:Str):HO:=.ext λh=>h.CodeRec (.ref c) qual
noncomputable def GV(P:Program)(w:World)(ω:FG)(mg:SV)(base:Heap)(N:hA)(qual:Str)(scope:Scope)(f:hO)(cd:Value)(cl:List (Str×hO))(A:Around)(outer:List Env)(s:hX)(H:Hp)(E:XK):Cx where
 prog:=P
 w:=w
 K:=ω
 mg:=mg
 base:=base
 A:=A.deeper (W.envX qual scope s.heap.objs.size f cd cl)
 N:=N
 bY:=s
 cZ:=H
 env:=W.envX qual scope s.heap.objs.size f cd cl
 outer:=outer
 stack:=W.envX qual scope s.heap.objs.size f cd cl::outer
 ex:=[]
 calm:=true
 fn:=λ_=>false
 pn:=[]
 xe:=λe s'=>wpAny (model P w) (A.deeper (W.envX qual scope s.heap.objs.size f cd cl)) (leaving (W.envX qual scope s.heap.objs.size f cd cl) e) (λ_ s''=>cz P w outer H s E e s'') (λe' s''=>cz P w outer H s E e' s'') s'
structure Iz(N:hA)(scope:Scope)(cl:List (Str×hO))(σ:St)(H:Hp)(h:Heap):Prop where
 inj:∀x y c,cl.lookup x=some c->cl.lookup y=some c->x=y
 has:∀x,(scope.names.lookup x=some .cell\/scope.names.lookup x=some .free)->∃c,cl.lookup x=some c
 cell:∀x c,cl.lookup x=some c->(∃v,h.IsCell c v)/\H c=none
 val:∀(i:Nat)x v,N[i]?=some x->σ[i]?=some (some v)->scope.names.lookup x=some .free/\∃u c,RelV v u/\cl.lookup x=some c/\h.IsCell c (some u)
 len:σ.length=N.length
section
def Y5:N5 (GV P w ω mg base N qual scope f cd cl A outer s H E):=⟨rfl,rfl,rfl⟩
def EA:BK (cz P w) (GV P w ω mg base N qual scope f cd cl A outer s H E) E:=by
 rintro a j l p e o I ⟨i,C,h,d,rfl,F,q⟩;exact zS (Ix Y5 I F) (λ_ s3 G=>⟨i,C,h,d,zJ,G,q⟩) λ_ _ z=>z
def OB(B:scope.kind=.function)(q:A.handled=none)(a:cW P w ω mg base A outer s H)(C:Iz N scope cl σ H s.heap)(D:l.Ns s.heap.objs.size m0)(t:∀b o,s.heap.get? b=some o->l.get? b=some o):
  Inv (GV P w ω mg base N qual scope f cd cl A outer s H E) [] σ H {s with heap:=l,toks:=tk}:=by
 have j:∀b,b∉ (GV P w ω mg base N qual scope f cd cl A outer s H E).ex:=λb z=>absurd (show b∈([])from z) (by simp);have d:∀{c:hO}{v:Option Value},s.heap.IsCell c v->l.IsCell c v:=λ{c v} ⟨o,I,q⟩=>⟨o,t _ _ I,q⟩
 refine⟨⟨a.mod,B,zJ,zJ,zV _,C.inj,C.has,λy c z _=>(by trivial),λ_=>q,Around.frames_deeper a.frames,.inr ⟨zJ,zJ⟩,λb z=>absurd z (j b),a.bs,a.eK,λb _ _=>j b,λb z=>absurd z (j b),a.cu,a.eY⟩,
  rfl,a.bare,Un.kept t,⟨m0,D,λi x v l F J=>?_⟩,λy c h=>?_,a.aI.fresh (zV _),λy c h=>(C.cell y c h).2,λp G=>absurd (show p∈([])from G) (by simp),a.aI.kept t,C.len⟩
 ·obtain⟨k,u,c,r,e,z⟩:=C.val i x v l F;exact⟨u,r,.inr ⟨.inr k,c,e,d z⟩⟩
 ·obtain⟨⟨v,z⟩,_⟩:=C.cell y c h
  grind
def SC(I:aJ k A)(u:cW P w ω mg base A outer s H)(C:Iz N scope cl σ H s.heap)
  (S:s.heap.get? f=some (W.kla_obj name qual params body scope cl pm t p)) (B:s.heap.CodeRec (.ref t) qual) (i:bindArgs (W.kla_fn name qual params body scope cl pm (.ref t) p) ⟨[],[]⟩=pure [])
  (r:scope.isCoroutine=false) (j:scope.isGenerator=false) (G:scope.kind=.function) (a:∀x∈scope.names,x.2≠ .cell)
  (T:PE (GV P w ω mg base N qual scope f (.ref t) cl A outer s H E) body tb) (h:tb σ H Q):codeAny (model P w) A (.call (.ref f) ⟨[],[]⟩) (CR (cz P w) outer P w H s Q E) s:=by
 apply W.kla_callFunE I.depth S rfl r j rfl B;rw[i];refine zT (wpAny_newFunctionEnv a (λy O=>nomatch O) (λF D l=>⟨(u.mod.nolimit.keeps λb o e=>(u.bs b o e).1).fresh _ l,?_⟩) G);have d:=λb o e=>l.extBut b o (zZ (lt_size e)) (Zy _ e);exact W.kla_codeExpr (zS (T [] _ σ H Q (OB (tk:=s.toks+([]:List (Str×Value)).length) G I.hd u C D d) h) (λv R v=>by obtain⟨x,M,J,L,q⟩:=v;exact ⟨x,M,J.os,J.bare,J.base,J.aI,L,q⟩) λe R z=>z)
end
section
def Inv.cells(I:Inv X aa σ H s)(C:Iz N scope cl a X.cZ X.bY.heap)(h:∀x c,cl.lookup x=some c->c∉ X.fs)(l:X.ex=[]):Iz N scope cl a H s.heap:=by
 have kp:∀x c v,cl.lookup x=some c->X.bY.heap.IsCell c v->s.heap.IsCell c v:=λx c v e ⟨o,d,q⟩=>⟨o,I.base.keep c o d (C.cell x c e).2 (h x c e) (by simp_all),q⟩;refine⟨C.inj,C.has,λx c e=>?_,λi x v j p=>?_,C.len⟩
 ·obtain⟨⟨v,z⟩,n⟩:=C.cell x c e;obtain⟨o,d,_⟩:=id z;exact⟨⟨v,kp x c v e z⟩,I.base.free c o d n (by simp_all)⟩
 ·obtain⟨k,u,c,r,e,z⟩:=C.val i x v j p
  grind
def MU(i:Nat)(f c':hO)(qual:Str)(o:Obj)(σl:St)(tb:TE):TE:=λσ H Q=>σ[i]?=some (some (.ref f))/\H f=some (gH f o)/\H c'=some (GQ c' qual)/\tb σl H Q
def OC             
  (S:X.N[i]?=some x) (R:Vis X.env.scope x) (hr:aJ k X.A) (C:Iz Nl scope cl A X.cZ X.bY.heap) (B:∀x c,cl.lookup x=some c->c∉ X.fs) (y:X.ex=[]) (hx:BK (cz X.prog X.w) X E)
  (h:bindArgs (W.kla_fn name qual params body scope cl pm (.ref z) q) ⟨[],[]⟩=pure [])
  (t:scope.isCoroutine=false) (o:scope.isGenerator=false) (hk:scope.kind=.function) (d:∀x∈scope.names,x.2≠ .cell)
  (hb:∀s H,PE (GV X.prog X.w X.K X.mg X.base Nl qual scope f (.ref z) cl X.A X.stack s H E) body tb) (Y:dr x:=by decide) (D:(x==(lL:Str))=false:=by decide):
  PE X (.Call (.Name x p) [] [] pos) (MU i f z qual (W.kla_obj name qual params body scope cl pm z q) A tb):=by
 rintro a s G H Q I ⟨T,M,N,U⟩;refine Z3 (aL (RG S R Y D a s G H (λv O=>v=.ref f/\O=H) I ⟨_,T,rfl,rfl⟩) λu F w=>?_);obtain⟨v,J,j,r,ev,Z⟩:=w;subst ev Z;obtain rfl:u=Value.ref f:=r;obtain⟨L,_,_⟩:=j.aI _ _ M;obtain⟨hc,_,_⟩:=j.aI _ _ N;refine callWith_meth0 rfl L (wpAny_call (codeAny_mono (SC hr j.eB (j.cells C B y) L hc h t o hk d (hb F J) U) λr s' l=>?_));cases r with
 |error e=>exact hx a G J F e s' j l
 |ok fl=>
  cases fl with
  |ret u=>exact j.after l
  |next=>exact False.elim l
  |brk=>exact False.elim l
  |cont=>exact False.elim l
end
section
def aN.at{st}(F:aN ω x qual st f fd)(S:AH N h (defScope st))(R:vs.length=h.length)
  (l:aJ (k+1) A) (e:cW P w ω mg base A outer s H) (X:BindsTo s fd args (h.zip p)) (r:Vals vs p)
  (d:∀a,aJ k (A.deeper (envOfC qual (defScope st) s.heap.objs.size f a))->∃t,c8 (By CX P w ω mg base N qual (defScope st) f a A outer s H E) (defBody st) t/\t {nx:=λ_ H'=>Q .aO H',rt:=Q} (start N vs) H):
  codeAny (model P w) A (.call (.ref f) args) (CR CX outer P w H s Q E) s:=by
 obtain⟨oc,Z,kV,U,pm,an,a,ct,Y,rfl,G,j⟩:=F.ex;have B:=e.mod.kin.keeps λb o z=>(e.bs b o z).1
 have O:∀y∈h.zip p,(defScope st).names.lookup y.1=some .local\/((defScope st).names.lookup y.1=some .cell/\((cellsFrom (s.heap.objs.size+1) (defScope st).names []).lookup y.1).isSome=true):=λ⟨n,v⟩ M=>by
  rcases S.par n (of_mem_zip M).1 with q|q
  ·simp_all
  ·exact .inr ⟨q,W.cellsFrom_some _ _ _ (.inl q)⟩
 refine codeAny_call_function l.depth (B _ _ G) rfl S.co S.gen rfl (W.codeRec_of B j) (X _ _ _ _ (wpAny_newFunctionEnv_cells S.kind O λL D I x=>?_));subst D;refine⟨(e.mod.nolimit.keeps λb o z=>(e.bs b o z).1).keeps x.toInCall.keep,codeAny_func ?_⟩;obtain⟨t,ht,T⟩:=d a (l.deeper _);refine zS (ht [] I (start N vs) H _ (G9 S l.hd e R r x) T) (λfl s' z=>?_) λ_ _ z=>z;cases fl with
 |ret u=>
  obtain⟨v,i,H',J,C,q⟩:=z;exact⟨v,H',J.os,J.bare,J.base,J.aI,C,q⟩
 |next=>
  obtain⟨i,H',J,q⟩:=z;exact⟨.aO,H',J.os,J.bare,J.base,J.aI,zJ,q⟩
 |brk=>
  obtain⟨_,_,_,q⟩:=z;exact q.elim
 |cont=>
  obtain⟨_,_,_,q⟩:=z;exact q.elim
end
def IK{d:PySem.Pos}{q}(e:(q.line==d.line&&q.col==d.col)=false)(l)(h:TriplesOk l):codeAmong q (l++[rawInt d.line,rawInt d.col,c])=codeAmong q l:=by
 fun_induction TriplesOk l with
 |case1=>
  have:(d.line==(q.line:Int)&&d.col==(q.col:Int))=false:=by
   rw[Bool.and_eq_false_iff]at e ⊢;rcases e with z|z
   ·lia
   ·lia
  simp[codeAmong,rawInt,this]
 |case2 a t b u x i p=>
  simp[List.cons_append,codeAmong]
  simp_all
 |case3 l j o=>trivial
def aY(H:Hp)(P0:hO)(qual:Str)(ls:List Pos):Prop:=∃ps,H P0=some (.dy ps)/\TriplesOk ps.toList/\∀q∈ls,codeAmong q ps.toList=none\/∃c',codeAmong q ps.toList=some (.ref c')/\H c'=some (GQ c' qual)
def MV(P0:hO)(H H':Hp):Prop:=∀b u,b≠P0->H b=some u->H' b=some u
structure V5(X:Cx)(c P0:hO):Prop where
 code:X.env.code=.ref c
 hd:W.CodeHd X.base c P0
 bu:X.base.BuiltinsAt X.mg P0
section
def Y6(P0:hO)(qual:Str)(ls:List Pos)(o:hO->Value->Obj):TE:=λσ H Q=>aY H P0 qual ls/\∀f c' ctv H',H f=none->MV P0 H H'->aY H' P0 qual ls->H' f=some (gH f (o c' ctv))->H' c'=some (GQ c' qual)->Q (.ref f) H'
def UL(r:h.CodeRec (.ref d) qual):bD P w H h d (GQ d qual):=by
 obtain⟨y,x,A,t,e,o,z,B⟩:=id r;cases e;exact⟨r,⟨_,o⟩,λq v q k=>by obtain⟨u,i,p,j,l,a,b⟩:=q;cases l;exact⟨_,i,p,j,zJ,k _ a,b⟩⟩
def VL(r:h.get? f=some o):bD P w H h f (gH f o):=⟨r,⟨_,r⟩,λd e a k=>k _ a⟩
def V6(L:V5 X c P0)(hm:a∈ls)(ay:∀q∈ls,q=a\/(q.line==a.line&&q.col==a.col)=false)
  (v:closureFor scope X.env=pure cm) (A:defaultsOf params X.env=([],[])):
  PE X (.Lambda params body scope a) (Y6 P0 (X.env.qual ++ ie) ls (λh d=>W.kla_obj ie (X.env.qual ++ ie) params body scope cm ((X.mg iQ).getD .none) h d)):=by
 rintro aa s σ H Q I ⟨⟨T,hP,ht,r⟩,k⟩;have bk:=λb o e=>(I.bs b o e).1;have O:s.heap.get? P0=some (W.tabObj T):=I.aI _ _ hP;have D:=I.ok.mod.glob.keeps bk
 have hgP:mainGlobals≠P0:=λq=>by
  obtain⟨o,es,ep,e,_⟩:=I.ok.mod.glob
  simp_all
 have C:=L.hd.keeps bk
 have B:s.heap.BuiltinsAt X.mg P0:=by
  obtain⟨bm,o,a1,a2,a3,a4,a5,a6⟩:=L.bu;exact⟨bm,o,a1,a2,a3,a4,bk _ _ a5,a6⟩
 apply W.kla_eval A;rcases r a hm with hn|⟨h,hf,fm⟩
 ·refine W.kla_makeFunction v I.ok.glob D L.code C O ht hn hgP B λh d j tk hx M S R x=>?_;have kp:∀b o,b≠P0->s.heap.get? b=some o->(j.push (W.kla_obj ie (X.env.qual ++ ie) params body scope cm ((X.mg iQ).getD .none) h d)).get? b=some o:=λb o n e=>Zy _ (hx b o n e);have lt:∀b u,H b=some u->b<s.heap.objs.size:=λb u e=>I.aI.lt e;have G:=Nat.le_trans M (Nat.le_of_lt S);have Y:h≠P0:=λz=>by grind
  have hcf:=zZ S;generalize i:upd (upd (upd H P0 (.dy (T++#[rawInt a.line,rawInt a.col,.ref h]))) h (GQ h (X.env.qual ++ ie))) j.objs.size (gH j.objs.size (W.kla_obj ie (X.env.qual ++ ie) params body scope cm ((X.mg iQ).getD .none) h d))=H'
  have E:∀b,b<s.heap.objs.size->b≠P0->H' b=H b:=λb hb n=>by
   rw[←i,AD (zZ (Z2 hb G)),AD (zZ (Z2 hb M)),AD n]
  have N:H' P0=some (.dy (T++#[rawInt a.line,rawInt a.col,.ref h])):=by rw[←i,AD (Ne.symm (λz=>by grind)),AD (Ne.symm Y),aA]
  have l:H' h=some (GQ h (X.env.qual ++ ie)):=by rw[←i,AD hcf,aA]
  have p:H' j.objs.size=some (gH j.objs.size (W.kla_obj ie (X.env.qual ++ ie) params body scope cm ((X.mg iQ).getD .none) h d)):=by rw[←i,aA]
  have F:∀b u,H b=some u->(∀qs,u≠ .dy qs)->b≠P0:=λb u e n z=>by grind
  have un:Un X.fs [] H H' s.heap (j.push (W.kla_obj ie (X.env.qual ++ ie) params body scope cm ((X.mg iQ).getD .none) h d)):=by
   have nP:∀b,H b=none->b≠P0:=λb n z=>by simp_all
   refine⟨λb o q n _ _=>kp b o (nP b n) q,λb o q n _ _=>⟨o.slots,kp b o (nP b n) q⟩,λb o q n _=>by rw[E b (lt_size q) (nP b n)];exact n,λb o q _=>?_,λb xs e=>?_,λb o u e=>?_,λb qs e=>?_⟩
   ·by_cases z:b=P0
    ·subst z;exact⟨_,Zy _ x⟩
    simp_all
   ·simp_all
   ·simp_all
   ·by_cases z:b=P0
    ·grind
    simp_all
  have Z:cD X.prog X.w H' (j.push (W.kla_obj ie (X.env.qual ++ ie) params body scope cm ((X.mg iQ).getD .none) h d)):=λb u e=>by
   by_cases z1:b=j.objs.size
   ·subst z1;rw[p]at e;cases e;exact VL (Zo _ zJ)
   by_cases z2:b=h
   ·subst z2;rw[l]at e;cases e;obtain⟨c1,oc,vs,t,ec,ho,hd⟩:=R;exact UL ⟨c1,oc,vs,t,ec,Zy _ ho,hd⟩
   by_cases z3:b=P0
   ·subst z3;rw[N]at e;cases e;exact Zy _ x
   ·refine(I.aI b u (by rwa[←i,AD z1,AD z2,AD z3]at e)).df (λb2 o hb q=>kp b2 o ?_ q) (λb2 q=>?_) λb2 xs q=>?_
    ·grind
    ·simp_all
    simp_all
  have I':=I.un (t':=tk) un Z;refine⟨.ref j.objs.size,H',I',zJ,k _ h d H' (I.aI.fresh G) (λb u n e=>by simp_all) ⟨_,N,?_,λq hq=>?_⟩ p l⟩
  ·rw[Array.toList_append];exact TriplesOk_snoc _ _ _ _ ht
  ·rw[Array.toList_append];rcases ay q hq with z|z
   ·subst z;exact .inr ⟨h,codeAmong_snoc _ ht hn,l⟩
   ·rw[IK z _ ht];rcases r q hq with y|⟨U,y1,y2⟩
    ·simp_all
    ·exact .inr ⟨U,y1,by rw[E U (lt _ _ y2) (F U _ y2 λ_ y=>nomatch y)];exact y2⟩
 ·refine W.kla_makeFunctionHit v I.ok.glob D L.code C O ht hf B λd j tk hk J=>?_;have I':=I.laid (t':=tk) (o:=gH j.objs.size (W.kla_obj ie (X.env.qual ++ ie) params body scope cm ((X.mg iQ).getD .none) h d)) (λb o e=>Zy _ (hk b o e)) J (VL (Zo _ rfl));have fr:=I.aI.fresh J
  have sm:∀b u,H b=some u->upd H j.objs.size (gH j.objs.size (W.kla_obj ie (X.env.qual ++ ie) params body scope cm ((X.mg iQ).getD .none) h d)) b=some u:=λb u e=>by
   rwa[AD (AJ e fr)]
  refine⟨.ref j.objs.size,_,I',zJ,k _ h d _ fr (λb u _ e=>sm b u e) ⟨T,sm _ _ hP,ht,λq hq=>?_⟩ aA (sm _ _ fm)⟩
  grind
end
section
def aN.fj{st}(F:aN ω x qual st f fd)(S:AH N ps (defScope st))(len:∀vs H Q E,sp vs H Q E->vs.length=ps.length)
  (d:∀a A outer s H vs Q E,aJ k (A.deeper (envOfC qual (defScope st) s.heap.objs.size f a))->sp vs H Q E ->
   ∃t,c8 (By (cz P w) P w ω mg base N qual (defScope st) f a A outer s H E) (defBody st) t/\t {nx:=λ_ H'=>Q .aO H',rt:=Q} (start N vs) H):aE P w ω mg base (cz P w) (k+1) f fd ps sp:=by
 obtain⟨p,v,kV,j,u,r,a,q,o,rfl,l,h⟩:=F.ex;exact Ou l h S len λA outer s H vs Q E i e=>d a A outer s H vs Q E i e
structure BdX(P:Program)(w:World)(K:FG)(mg:SV)(base:Heap)(f:hO)(qual:Str)(st:Stmt)(N ps:hA)(k:Nat)(vs:hK)(H:Hp)(Q:VK)(E:XK):Prop where
 len:vs.length=ps.length
 ok:∀ae A outer s,aJ k (A.deeper (envOfC qual (defScope st) s.heap.objs.size f ae)) ->
  ∃t,c8 (By (cz P w) P w K mg base N qual (defScope st) f ae A outer s H E) (defBody st) t/\t {nx:=λ_ H'=>Q .aO H',rt:=Q} (start N vs) H
def aN.n{qual}{st}{a}{k}(F:aN ω x qual st f fd)(S:AH N a (defScope st))(h:∀vs H Q E,sp vs H Q E->BdX P w ω mg base f qual st N a k vs H Q E):
  aE P w ω mg base (cz P w) (k+1) f fd a sp:=F.fj S (λvs H Q E q=>(h vs H Q E q).len) λc A o s H vs Q E r q=>(h vs H Q E q).ok c A o s r
structure FunD(K:FG)(x qual:Str)(st:Stmt)(f:hO)(fd:FuncData):Prop where
 ex:∃(oc:Value)(od:Option hO)(dV kV doc pm:Value)(an:Option hO)(ae ct:Value)(f7:Array (Option Value)),
  fd=W.fnOf x qual (defArgs st) (defBody st) (defScope st) dV kV doc pm an ae ct/\K.lookup f=some ⟨oc,od,.func fd,f7⟩/\W.codeIn K ae qual=true
def FunD.ok{qual}{st}{i}{k}(F:FunD ω x qual st f fd)(S:AH N i (defScope st))(len:∀vs H Q E,sp vs H Q E->vs.length=i.length)
  (d:∀a A outer s H vs Q E,aJ k (A.deeper (envOfC qual (defScope st) s.heap.objs.size f a))->sp vs H Q E ->
   ∃t,c8 (By aS P w ω mg base N qual (defScope st) f a A outer s H E).gm (defBody st) t/\t {nx:=λ_ H'=>Q .aO H',rt:=Q} (start N vs) H):aE P w ω mg base aS (k+1) f fd i sp:=by
 obtain⟨u,C,B,kV,o,z,y,a,v,r,rfl,p,j⟩:=F.ex;refine Ou p j S len λA outer s H vs Q E l e=>?_;obtain⟨t,h,q⟩:=d a A outer s H vs Q E l e;exact⟨t,h.gm,q⟩
end
end L2
end
section
namespace L2
open PySem PySem.Spec PyProof.Rows Builtin Builtin.ObjectAttr
noncomputable def I0(C M:hO):hE:=[.ref C,.ref M,.type iz,.type "Exception",.type iU,.type jv]
section
def UM(X:ω.In s.heap)(D:s.heap.get? x=some l)(p:l.cls=.ref C)(q:l.dict=none)(N:l.data=.fields vs)(L:W.clsIn ω C=some cd)(i:cd.mro=I0 C M)(u:cd.hasDict=true)(hn:W.findIn ω (.ref C) name=some none)
  (h:∀(h':Heap)F,h'.get? x=some {l with dict:=some s.heap.objs.size}->h'.Ns1 s.heap.objs.size (λy=>if y=name then some v else none)->(∀b o,b≠x->s.heap.get? b=some o->h'.get? b=some o)->R (.ok (.ret .none)) {s with heap:=h',toks:=F}):
  codeAny (model prog w) A (.call (.builtin iI) ⟨[.ref x,.str name tk,v],[]⟩) R s:=by
 have B:=store_object;have I:W.InstAt s.heap x l C none:=⟨D,p,by unfold W.notCls;rw[N],by rw[q];trivial⟩;have ne:cd.mro.isEmpty=false:=by rw[i];rfl
 refine codeAny_call_builtin B.slot.plain B.entry (@W.check_slot (model prog w) _ _ s iI jv jj (.ref x) [.str name tk,v] [] _ B.kind B.split (I.type.andThen (W.looks_mroIn X (by unfold W.mroIn;rw[L,Option.bind_some,i];rfl))) (B.args (.ref x) (.str name tk) v) ?_);have T:W.Looks (model prog w) s.heap (mroOf (.ref C)) cd.mro:=(W.looks_clsIn X L).andThen .now;have Z:W.Looks (model prog w) s.heap (storeTaker? none) none:=.now;rw[W.osa_eq];refine zU (zU (I.type.here (zU (T.here ?_))));rw[i];refine zT (zU (I.type.here (zU ((W.looks_findIn X hn).here (zU (Z.here ?_))))));obtain⟨oc,odi,Y,f7⟩:=l;subst p q N;refine zU (zT (zU (zU (wpAny_loadPart D (zU ((W.looks_clsIn X L).here ?_))))));rw[u];have a:(s.heap.push {cls:=.type iT,data:=.dict #[]}).get? x=some _:=Zy _ D;have z:=zZ (lt_size D);obtain⟨j,g,d,t,os⟩:=s;refine zU (wpAny_alloc' ?_);refine zU (wpAny_update' a ?_);apply zT
 have H:((j.push {cls:=.type iT,data:=.dict #[]}).update x λo=>{cls:=o.cls,dict:=some j.objs.size,data:=o.data,slots:=o.slots}).get? j.objs.size=some {cls:=.type iT,data:=.dict #[]}:=
  (Heap.get?_update_ne _ _ _ _ z.symm).trans (Heap.get?_push_at rfl rfl)
 have G:((j.push {cls:=.type iT,data:=.dict #[]}).update x λo=>{cls:=o.cls,dict:=some j.objs.size,data:=o.data,slots:=o.slots}).Ns j.objs.size (λ_=>none):=
  ⟨_,#[],_,H,rfl,λe he=>absurd he (by simp),λ_=>rfl⟩
 refine zU (zT (zU (wpAny_nsSet1 (Heap.Ns1.of_empty G) λh' r O=>?_)));obtain⟨oD,S,U,hoD,J,hcD⟩:=r.count (Within.cons name v Within.nil);refine zU (wpAny_lookBehind hoD (by rw[J];exact pastItsLine_dict (by grind)) ?_)
 wp_walk
 exact h h' _ ((O.2 x z).trans (Zu _ a zJ)) r λb ob E Q=>(O.2 b (zZ (lt_size Q))).trans ((Heap.get?_update_ne _ _ _ _ E).trans (Zy _ Q))
def UN(X:ω.In s.heap)(q:s.heap.get? x=some j)(i:j.cls=.ref C)(p:j.dict=none)(r:j.data=.fields vs)(u:W.clsIn ω C=some cd)(e:cd.mro=I0 C M)(l:cd.hasDict=true)(t:W.findIn ω (.ref C) name=some none)
  (hs:W.findIn ω (.ref C) jj=some (some (.builtin iI)))
  (h:∀(h':Heap)d,h'.get? x=some {j with dict:=some s.heap.objs.size}->h'.Ns1 s.heap.objs.size (λy=>if y=name then some v else none)->(∀b o,b≠x->s.heap.get? b=some o->h'.get? b=some o)->Q () {s with heap:=h',toks:=d}):
  wpAny (model prog w) A (setAttr (.ref x) name v) Q E s:=by
 have I:W.InstAt s.heap x j C none:=⟨q,i,by unfold W.notCls;rw[r],by rw[p];trivial⟩;exact W.set_plain X I hs (UM X q i p r u e l t λh' d a b c=>h h' d a b c)
end
end L2
end
section
namespace L2
open PySem PySem.Spec PyProof.Rows
structure MW(K:FG)(C M:hO)(f:Str):Prop where
 cls:∃cd,W.clsIn K C=some cd/\cd.mro=I0 C M/\cd.hasDict=true
 nf:W.findIn K (.ref C) f=some none
 sa:W.findIn K (.ref C) jj=some (some (.builtin iI))
section
def Xa(ω:FG)(M:hO)(ta tv:TE)(f:Str):TS:=λD σ H=>tv σ H λy H1=>ta σ H1 λx H2=>∃e C,x=.ref e/\H2 e=some (E5 e C none)/\MW ω C M f /\
 ∀d,H2 d=none->d≠e->D.nx σ (upd (upd H2 e (E5 e C (some d))) d (.xd [(f,y)]))
def O9(ha:PE X o ta)(hv:PE X value tv)(hs:swapsWith value (some (.Attribute o f pos')) pos.line X.env=pure false):PS X (.Assign [.Attribute o f pos'] value pos) (Xa X.K M ta tv f):=by
 intro l s O H D I h;refine plainObj_wpAny_Assign_Attribute (aL (hv l s O H _ I h) λu s1 ⟨y,H1,I1,ry,q⟩=>aL (ha l s1 O H1 _ I1 q) λov j c=>?_) hs;obtain⟨x,t,p,rx,e,C,ex,ea,S,q2⟩:=c;subst ex;obtain rfl:ov=Value.ref e:=rx;obtain⟨⟨oe,J,a1,Z,a3,a4,a5,a6,a7⟩,_,_⟩:=p.aI _ _ ea;obtain⟨cd,hc,hm,hd⟩:=S.cls;refine UN p.cp a1 Z a3 a4 hc hm hd S.nf S.sa λY G hx hn R=>?_;have v:=Nat.ne_of_gt (lt_size a1);generalize d:upd (upd t e (E5 e C (some j.heap.objs.size))) j.heap.objs.size (.xd [(f,y)])=H';have lt:∀b u,t b=some u->b<j.heap.objs.size:=λb u z=>p.aI.lt z;have N:∀b,b<j.heap.objs.size->b≠e->H' b=t b:=λb B n=>by rw[←d,AD (zZ B),AD n]
 have U:H' e=some (E5 e C (some j.heap.objs.size)):=by rw[←d,AD (Ne.symm v),aA]
 have F:H' j.heap.objs.size=some (.xd [(f,y)]):=by rw[←d,aA]
 have next:∀b u,t b=some u->(∀φ,u≠ .ext φ)->b≠e:=λb u z n w=>by subst w;rw[ea]at z;cases z;exact n _ rfl
 have T:∀b,t b=none->b≠e:=λb z w=>by simp_all
 have un:Un X.fs [] t H' j.heap Y:=by
  refine⟨λb i z n _ _=>R b i (T b n) z,λb i z n _ _=>⟨i.slots,R b i (T b n) z⟩,λb i z n _=>by rw[N b (lt_size z) (T b n)];exact n,λb i z _=>?_,λb xs z=>?_,λb i w z=>?_,λb ps z=>⟨#[],?_⟩⟩
  ·grind
  ·simp_all
  ·simp_all
  ·simp_all
 have E:cD X.prog X.w H' Y:=λb w z=>by
  by_cases B:b=j.heap.objs.size
  ·subst B;rw[F]at z;cases z;refine⟨_,hn,λg=>?_⟩;by_cases Q:g=f
   ·subst Q;simp;exact ry
   ·simp[zN Q,zW,beq_eq_false_iff_ne.mpr Q];trivial
  by_cases A:b=e
  ·subst A;rw[U]at z;cases z;exact⟨⟨_,J,hx,Z,zJ,a4,a5,a6,a7⟩,⟨_,hx⟩,λh1 h2 zz k=>by obtain⟨oe,J,a,r⟩:=zz;exact ⟨oe,J,k _ a,r⟩⟩
  ·refine(p.aI b w (by rwa[←d,AD B,AD A]at z)).df (λL i hc2 q=>R L i ?_ q) (λL q=>?_) λL xs q=>?_
   ·grind
   ·simp_all
   simp_all
 have q3:=q2 j.heap.objs.size (p.aI.fresh (zV _)) v;rw[d]at q3;exact⟨O,H',p.un (t':=G) un E,q3⟩
end
section
def JA(G:Gl X x)(v:X.mg x=some (.ref C))(A:W.specialIn X.K (.ref C) jc=some (some (.builtin jM)))(j:W.readsIn X.K C z=true)(y:W.findCls X.K (.ref C) z name=some (.val (.ref f)))
  (F:aE X.prog X.w X.K X.mg X.base CX k f fd ps sp) (L:aJ k X.A) (J:W.keepIn X.K (.ref f)=true) (N:Binds X.K fd ps ds) (B:Vals d ds) (M:BK CX X E) (u:PA X (e::es) t) (l:dr x:=by decide)
  (O:et X e es:=by rfl) (i:(backTo pos (starEach es X.env)).any (·.1)=false:=by rfl)
  (ht:eval (.Call (.Attribute (.Name x np) name apos) (e::es) [] pos) X.env=(do
   let o ←eval (.Name x np) X.env
   standAt apos.atName
   let (f,first) ←holding [o] (getMethod o name pl)
   callWith pos f first (backTo pos (starEach (e::es) X.env)) (backToKw pos (keywordEach [] X.env))):=by rfl):
  PE X (.Call (.Attribute (.Name x np) name apos) (e::es) [] pos) (Lp sp d E t):=by
 intro a s D H Q I h;refine W.methodCall_KW ?_ ht;refine Bv I G v ?_ l;refine W.method_cls I.cp A (W.cls_value I.cp j y zJ ?_);refine W.callWith_K I.ok.mod.kin J (aL (u pos a _ D H _ (I.tok _) h) λS R ⟨T,U,p,r,q⟩=>⟨p.cp,?_⟩) O i;exact Kn F L N B M p r q
end
section
def Xb(c:Str)(te:TE):TE:=λσ H Q=>te σ H λx H1=>((∃i,x=.int i/\i.natAbs.log2<1920)\/(∃z,x=.str z/\z.length<=1000)\/x=.aO)/\∀z,Q (.str z) H1
def A1(a b:Str):(a++b).length=a.length+b.length:=strLen_append a b
def PB(F:c.length<=1000)(v:PE X e te):PE X (.JoinedStr [.Constant (.str c) E A,.FormattedValue e (-1) none fp] pos) (Xb c te):=by
 intro d s p H Q I h;refine JoinedStr_many (joinParts_cons (Calls.Constant_str ?_));have y:(Str.empty++c).length<=1000:=by rw[A1];show 0+c.length<=1000;lia
 have sz:3000<=sizeLine:=by decide
 refine⟨Nat.le_trans y (Nat.le_trans qc sz),joinParts_cons ?_⟩;refine wpAny_FormattedValue_plain (aL (v d _ p H _ (I.tok _) h) λu C w=>?_);obtain⟨x,j,l,r,q,k⟩:=w;rcases q with⟨i,rfl,o⟩|⟨z,rfl,B⟩|rfl
 ·obtain⟨t,rfl⟩:=r;apply PySem.wpAny_formatField_int o;have D:(Str.ofString (toString i)).length<=1921:=by rw[PySem.ofString_length];exact int_text_length_le qc o
  have a:((Str.empty++c)++Str.ofString (toString i)).length<=sizeLine:=by
   rw[A1]
   lia
  exact⟨a,joinParts_nil ⟨.str _,j,(l.tok _).tok _,⟨_,zJ⟩,k _⟩ a⟩
 ·obtain⟨t,rfl⟩:=r
  have a:((Str.empty++c)++z).length<=sizeLine:=by
   rw[A1]
   lia
  exact PySem.wpAny_formatField_str ⟨a,joinParts_nil ⟨.str _,j,l.tok _,⟨_,zJ⟩,k _⟩ a⟩ ⟨a,joinParts_nil ⟨.str _,j,(l.tok _).tok _,⟨_,zJ⟩,k _⟩ a⟩ (by lia)
 ·obtain rfl:u=Value.none:=r
  have a:((Str.empty++c)++("None")).length<=sizeLine:=by
   have:("None":Str).length=4:=by decide +kernel
   rw[A1]
   lia
  exact PySem.wpAny_formatField_none ⟨a,joinParts_nil ⟨.str _,j,(l.tok _).tok _,⟨_,zJ⟩,k _⟩ a⟩
end
structure Xc(K:FG)(C:hO)(f:Str):Prop where
 hg:FR K C
 hh:W.hasDictIn K C=true
 ha:W.findIn K (.ref C) f=some none
section
def SD(e:hO)(oe:Obj)(f:Str)(ta:TE):TE:=λσ H Q=>ta σ H λx H1=>∃d fs v,x=.ref e/\oe.dict=some d/\H1 d=some (.xd fs)/\fs.lookup f=some v/\Q v H1
def UO(p:ExcP X e oe C)(g:Xc X.K C f)(R:PE X o O)(N:attributeBase o f X.env (eval o X.env)=eval o X.env):PE X (.Attribute o f pos) (SD e oe f O):=by
 intro i s A H Q I h;refine Os N (aL (R i s A H _ I h) λu T k=>?_);obtain⟨x,B,j,J,d,fs,v,L,z,M,l,q⟩:=k;subst L;obtain rfl:u=Value.ref e:=J;obtain⟨S,G,r⟩:=j.aI _ _ M;obtain⟨U,F,E⟩:=Jw G;obtain⟨w,D,a⟩:=cG.some_of (by rw[←l];exact r f);have t:=(j.pin (e,oe) (Zq _ p.at_)).1;obtain⟨Y,y⟩:=p.fld;exact R9 g.hg j.cp (⟨t,p.cls,by unfold W.notCls;rw[y],by rw[z];exact F⟩) (W.findObj_own g.hh g.ha zJ (by rw[E,D])) (Jx a) ⟨v,B,j.tok _,a,q⟩
end
section
def aE.or{k}{i}(F:aE P w ω mg base CX k f fd i e)(G:aE P w ω mg base CX k f fd i j):aE P w ω mg base CX k f fd i (λvs H Q E=>e vs H Q E\/j vs H Q E):=by
 refine⟨λvs H Q E h=>?_,λA a s H d r vs Q E l p o q h=>?_⟩
 ·rcases h with h|h
  ·exact F.len _ _ _ _ h
  ·exact G.len _ _ _ _ h
 ·rcases h with h|h
  ·exact F.run A a s H d r vs Q E l p o q h
  ·exact G.run A a s H d r vs Q E l p o q h
end
structure cU(X:Cx)(e:Expr)(t:TE):Prop where
 h:PE X e t
structure PAw(X:Cx)(es:List Expr)(t:TA):Prop where
 h:PA X es t
section
def IE:PAw X [] B8:=⟨AG⟩
def MY(h:PAw X es t):PAw X (.Constant (.str x) j pos::es) (At (tC (.str x)) t):=⟨AA AL h.h⟩
end
structure PSw(X:Cx)(st:Stmt)(t:TS):Prop where
 h:PS X st t
structure d7(X:Cx)(st:List Stmt)(t:TS):Prop where
 h:c8 X st t
section
def HH:d7 X [] RJ:=⟨AM⟩
def FS{st}(a:PSw X st t)(b:d7 X rest u):d7 X (st::rest) (Vf t u):=⟨AC a.h b.h⟩
def FB{st}(a:PSw X st t):d7 X [st] t:=⟨AB a.h⟩
end
def QT(kvs:LK)(k)(v):kvs.length<=(Ba kvs k v).length:=by
 unfold Ba;split
 ·rw[AQ];exact zV _
 ·rw[z7];lia
abbrev Xd(kx vx:Expr)(D:hO)(env:Env):Sem Unit:=do
 let kv ←eval kx env
 let vv ←holding [kv] (eval vx env)
 standAt {kx.pos with endLine:=vx.pos.endLine,endCol:=vx.pos.endCol}
 holding [kv,vv] (dictSet D kv vv)
abbrev hoD(_:hO)(ys:LK):HO:=.dK ys
def RAd(P:Program)(w:World)(h:Heap)(D:hO)(ys:LK):Prop:=∃vs,KV ys vs/\h.DictOf (Ac P w) D vs
abbrev taD(tk te:TE):TAd (LK):=λys σ H N=>tk σ H λyk H4=>te σ H4 λy H5=>∃k,yk=kV k/\N (Ba ys k y) H5
abbrev V7(wi:TI)(g:TG)(tt:TT)(tk te:TE):=HE [] fy wi g tt (taD tk te)
section
def QU{i}:QD P w (.DictComp kx y [⟨tg,i,ifs,0⟩] scope pos) newDict tg i ifs (Xd kx y) [] fy hoD (RAd P w) where
 cl:=rfl
 new:=⟨{cls:=.type iT,data:=.dict #[]},rfl,(λv z=>nomatch z),λh D e=>⟨[],.nil,_,#[],0,e,⟨rfl,rfl,rfl⟩,rfl,λ_ B=>by simp at B,Pairs.nil,nodup_nil⟩,λA Q E s h=>wpAny_newObj_type h⟩
 turn:=λA u D j=>⟨rfl,rfl⟩
 start:=λA R s u D j t o=>codeAny_compStart_dict t o
 at_:=λh C D a ⟨l,r,d⟩ q=>⟨l,r,d.at q⟩
 fin:=λH h D a p x k=>by obtain⟨l,r,d⟩:=k;exact HB p x r d
def SE(hk:PE X kx tk)(he:PE X vx te):PAd X (Xd kx vx) fy (RAd X.prog X.w) (taD tk te):=by
 intro D ob F h s L H N I a ⟨G,C,hD⟩ U q
 have p:∀{d:St}{E:Hp}{u:hX},Inv X ([(D,ob)]++h) d E u->u.heap.DictOf (Ac X.prog X.w) D G:=λ{d E u}Q=>hD.at λo e=>by
  rw[I.dZ.1]at e;cases e;exact Q.dZ.1
 refine zU (aL (hk _ s L H _ I q) λyk Z v=>?_);obtain⟨zk,R,I8,rk,O⟩:=v;refine zU (Zl (aL (he _ Z L R _ I8 O) λy s9 w=>?_));obtain⟨z,H9,J,r9,l,Y,M⟩:=w;subst Y;refine zU (z9 ?_);have hz:(Ba F l z).length<=sizeLine:=U _ _ M
 have B:G.length<=sizeLine:=by
  have h1:=QT F l z;rw[←C.length]
  lia
 refine Zl (wpAny_dictSet_pairs (hsz:=B) (EQ rk) (p J) λh2 i A=>?_);obtain⟨j,S,T,q,ex2,r,x⟩:=id i;exact⟨j,_,H9,J.reD (t:=s9.toks+1) a (λb hb=>A.2 b hb) q (λv z=>by rw[r]at z;cases z),⟨_,C.put l r9,i⟩,M⟩
end
def Itk(a:hO)(o:Obj)(kvs:LK):It:=⟨λi H=>H a=some (.cb o (.dK kvs))/\i<kvs.length,λi H x H'=>H'=H/\∃kv,kvs[i]?=some kv/\x=kV kv.1,λi H=>H a=some (.cb o (.dK kvs))/\kvs.length<=i⟩
def QV(a it)(o)(kvs):
  Ll P w ω tg (Itk a o kvs) [it] it (λi h=>h.IsKeyIter it a i kvs.length (T9 o)) where
 mem:=by simp
 obj:=λi h l b q=>by
  have e:b=it:=by simpa using q
  subst e;obtain⟨O,e,c,d⟩:=l;exact⟨O,e,λv z=>by simp_all⟩
 keep:=λi h Y l k=>by
  obtain⟨O,e,r⟩:=l;exact⟨O,k it (by simp) _ e,r⟩
 item:=by
  intro X U R S hc i A s σ H E I C l Q;subst U R S;obtain⟨t,Z⟩:=Q;obtain⟨z,y,vs,p,M⟩:=DX I t;have j:=p.length;obtain⟨D,u⟩:∃D,kvs[i]?=some D:=⟨_,Z7 Z⟩;obtain⟨v,hv,rv⟩:=KV.get p u;obtain⟨L,G,f2,T,F,J⟩:=C it (by simp);rw[j]at l;refine wpAny_pyNext_dict_item l M hv λN Y x B sb=>?_;obtain⟨o',e',c',d'⟩:=id B;exact⟨N,zJ,Lm e' c' d' qc ⟨kV D.1,H,I.turned (t':=s.toks) (λb o q e=>(sb.2 b q).trans e) L G T F J,Dl x,⟨zJ,D,u,zJ⟩,by rw[j];exact B,λb q=>(C b q).1⟩⟩
 done:=by
  intro X U R S hc i A s σ H E I C l Q;subst U R S;obtain⟨t,Z⟩:=Q;obtain⟨z,y,vs,p,M⟩:=DX I t;have j:=p.length;rw[j]at l;obtain⟨L,G,f2,T,F,J⟩:=C it (by simp);exact wpAny_pyNext_dict_end (I.ok.hd hc) l M (by grind) λY eb=>⟨zJ,I.turned (λb o q e=>eb b o q e) L G T F J⟩
 self:=λ_ _ _ _ _ l h=>wpAny_pyIter_keyiter l h
def Xe(to:TE):TI:=λσ H R=>to σ H λx H1=>∃a o kvs,x=.ref a/\H1 a=some (.cb o (.dK kvs))/\R (Itk a o kvs) H1
def UP(D:PE X o to):PI X tg o (Xe to):=by
 intro d s A H R I h;refine aL (D d s A H _ I h) λv r v=>?_;obtain⟨x,B,i,C,a,u,j,E,p,q⟩:=v;subst E;cases C;obtain⟨z,y,G,l,t⟩:=DX i p;apply wpAny_pyIter_dict y t;refine⟨_,[_],_,_,B,zJ,i.kept λb o e=>Zy _ e,QV a _ u j,⟨_,Zo _ zJ,zJ,by rw[l.length];rfl⟩,λb F=>?_,q⟩;have e:b=r.heap.objs.size:=by simpa using F
 subst e;exact i.eA (zV _) (i.aI.fresh (zV _))
def Y7:V->Option Int->Option Int->Hp->VK->Prop:=λx lo hi H Q=>∃z,x=.str z/\z.length<=sizeLine/\Q (.str (Txt.slice z lo hi)) H
def PD(h:IsPart v o):∃l,v=partValue l/\o=l.map (·.1):=by
 cases h with
 |none=>exact⟨none,rfl,rfl⟩
 |int i t=>exact⟨some (i,t),rfl,rfl⟩
def SF:SlR X Y7:=by
 rintro a s y H x v r p o A sl Q I j i pl h ⟨z,rfl,d,q⟩;obtain⟨t,rfl⟩:=j;obtain⟨l,rfl,rfl⟩:=PD pl;obtain⟨u,rfl,rfl⟩:=PD h;refine⟨md,_,F.slot_str_getitem.lookup,typeIs_str s z t,?_⟩;exact wpAny_getItem_str_slice (st:=none) i zJ (post_val_or_str ⟨Nat.le_trans (Txt.slice_le z _ _) d,λe k=>⟨.str (Txt.slice z _ _),H,I.tok k,⟨e,zJ⟩,q⟩⟩)
def FC:aT X (.type lM) (λxs H Q=>∃x n,xs=[.str x]/\x.length<=640/\intText? x=some n/\Q (.int n) H):=by
 rintro a s h H xs i Q I r ⟨x,n,rfl,d,e,q⟩;obtain⟨u,rfl,t,rfl⟩:=BY r;exact W.KIN.call_text e d ⟨.int n,H,I.tok _,⟨_,zJ⟩,q⟩
section
def UQ:cy X (binaryOp .Mult) (λx y H Q=>∃(i:Str)(n:Int),x=.str i/\y=.int n/\((n=0/\Q (.str "") H)\/(n=1/\Q (.str i) H))):=by
 rintro a s j H x y v u Q I e d ⟨i,n,rfl,rfl,h⟩;obtain⟨t,rfl⟩:=e;obtain⟨l,rfl⟩:=d;rcases h with⟨rfl,q⟩|⟨rfl,q⟩
 ·apply PySem.P.mul_str rfl (λz _=>absurd qc z) (λz _=>absurd qc z);exact⟨qc,.str "",H,I.tok _,⟨_,zJ⟩,q⟩
 ·apply PySem.P.mul_str rfl (λ_ z=>by simp at z) (λ_ z=>by simp at z);exact⟨.str i,H,I,⟨_,zJ⟩,q⟩
def K5:aT X (.type md) (λxs H Q=>∃x,xs=[.str x]/\Q (.str x) H):=by
 rintro a s d H xs e Q I r ⟨x,rfl,q⟩;obtain⟨u,rfl,t,rfl⟩:=BY r;exact PySem.P.str_of_str ⟨.str x,H,I,⟨_,zJ⟩,q⟩
end
structure PTw(X:Cx)(e:Expr)(t:TT):Prop where
 h:PT X e t
section
def KN{i}(h:X.N.Nodup)(j:X.N[i]?=some x)(a:Loc X.env.scope x)(d:cU X e te)(hs:swapsWith e (some (.Name x pos')) pos.line X.env=pure false:=by rfl)(l:X.fn x=true\/X.env.scope.names.lookup x=some .local:=by first|exact .inl rfl|exact .inr rfl):
  PSw X (.Assign [.Name x pos'] e pos) (Vh te (Ct i)):=⟨Ab h j a d.h hs l⟩
def FU(d:cy X (binaryOp op) r)(h:cU X a e)(i:cU X b tb):cU X (.BinOp a op b pos) (gj r e tb):=⟨AZ d h.h i.h⟩
def Dm(d:IxR X r)(h:cU X a e)(i:cU X b tb)(hs:Ox b):cU X (.Subscript a b pos) (gj r e tb):=⟨An d h.h i.h hs⟩
def OD(h:PTw X c e)(a:d7 X s1 t)(d:d7 X s2 u):PSw X (.If c s1 s2 pos) (Tj e t u):=⟨AY h.h a.h d.h⟩
def VM(j:PTw X c d)(e:cU X a i)(h:cU X b tb):cU X (.IfExp c a b pos) (tIf d i tb):=⟨BU j.h e.h h.h⟩
def Br(a:cU X e te)(h:PAw X es ts)(hs:et X e es:=by rfl):PAw X (e::es) (At te ts):=⟨AA a.h h.h hs⟩
def FV{k}{i}(F:aE X.prog X.w X.K X.mg X.base CX k f fd i sp)(j:aJ k X.A)(o:Gl X x)(y:X.mg x=some (.ref f))(u:W.keepIn X.K (.ref f)=true)(r:Binds X.K fd i ds)(t:Vals d ds)(q:BK CX X E)
  (l:PAw X (e::es) ts) (a:dr x:=by decide) (v:et X e es:=by rfl) (h:(backTo pos (starEach es X.env)).any (·.1)=false:=by rfl):
  cU X (.Call (.Name x p) (e::es) [] pos) (Lp sp d E ts):=⟨AO F j o y u r t q l.h a v h⟩
def Xf(h:PAw X es ts):cU X (.List es pos) (Vn ts):=⟨A5 h.h⟩
end
abbrev DcE:=Str×Tok×Int×Tok
noncomputable def Xg(P:Params)(e:DcE):DictEntry:=⟨PyData.keyHash P e.1,.str e.1 e.2.1,.int e.2.2.1 e.2.2.2⟩
def dcObj(P:Params)(l:List DcE)(ep:Nat):Obj:=⟨.type iT,none,.dict (l.map (Xg P)).toArray ep,#[]⟩
noncomputable def gE(l:List DcE):LK:=l.map λe=>(Sum.inr e.1,.int e.2.2.1)
def Xh{w}{h:PySem.Heap}{l}(e:h.get? bd=some (dcObj w.params l ep))(j:(l.map (·.1)).Nodup):∃vs,KV (gE l) vs/\h.DictOf (Ac P w) bd vs:=by
 refine⟨l.map λe=>(Sum.inr e.1,.int e.2.2.1 e.2.2.2),?_,_,_,_,e,⟨zJ,zJ,zJ⟩,zJ,λx o=>?_,?_,?_⟩
 ·clear e j;induction l with
  |nil=>exact .nil
  |cons a r d=>exact .cons ⟨rfl,_,rfl⟩ d
 ·obtain⟨a,_,rfl⟩:=zO.mp (List.mem_toArray.mp o);exact⟨Sum.inr a.1,EG P w _ _,zJ⟩
 ·rw[List.toList_toArray];clear e j;induction l with
  |nil=>exact .nil
  |cons a r d=>exact .cons (EG P w _ _) rfl d
 ·rw[map_map];have:(l.map ((λx:Key×Value=>x.1) ∘ λe=>((Sum.inr e.1),Value.int e.2.2.1 e.2.2.2)))=(l.map (·.1)).map (λx=>(Sum.inr x)):=by rw[map_map];rfl
  rw[this];exact List.Pairwise.map _ (λa b i z=>i (Sum.inr.inj z)) j
section
def JB:aT X (.type iT) (λxs H Q=>∃a kvs,xs=[.ref a]/\Rd H a (.dK kvs)/\∀p,H p=none->Q (.ref p) (upd H p (.dK kvs))):=by
 rintro i s C H xs x Q I r ⟨a,kvs,rfl,j,q⟩;obtain⟨u,rfl,v⟩:=BY r;cases (v);obtain⟨z,y,A,d,l⟩:=CZ I.aI j;refine kt_call_dict y l (by rwa[←d.length]) λB h t=>?_;refine⟨.ref s.heap.objs.size,_,I.laid (λb o e=>?_) (zV _) (HB z (by rw[beq_eq_false_iff_ne];exact Nat.ne_of_gt I.big) d h),zJ,q _ (I.aI.fresh (zV _))⟩;exact(t.2 b (zZ (lt_size e))).trans (Zy _ e)
def OE:cy X (compareOp .In) (λx y H Q=>∃(c:Nat)(j:Str),x=.str ⟨#[c]⟩/\y=.str j/\Q (.bl (decide (c∈j.cps.toList))) H):=by
 rintro a s h H x y v u Q I e d ⟨c,j,rfl,rfl,q⟩;obtain⟨t,rfl⟩:=e;obtain⟨i,rfl⟩:=d;apply PyProof.Rows.in_str;rw[StrLaws.found_one];exact⟨.bl _,H,I,zJ,q⟩
end
def QW:aT X (.builtin iG) (λxs H Q=>∃a o kvs,xs=[.ref a,.ty iT]/\H a=some (.cb o (.dK kvs))/\Q (.bl true) H):=by
 rintro h s B H xs x Q I r ⟨a,o,kvs,rfl,e,q⟩;obtain⟨u,y,rfl,t,d⟩:=Hy r;cases (d);cases (t);obtain⟨_,_,A,_,j⟩:=CZ I.aI (.inr ⟨o,e⟩);obtain⟨l,C,ep,i,v,_⟩:=id j;exact W.kia_one W.kitx_dict I.cp ⟨l,i,v.1⟩ rfl (λz=>nomatch z) λp=>⟨.bl true,H,I.tok p,rfl,q⟩
def QX{P}{w}{a}{ω}{mg:SV}{mb:SV}{CX}{k}{fa bd}{T:List (hO×hO)}{l}{ep}{fd}{sp}{i}{vs}{M}
  (KX:ω.In i.heap) (hns:i.heap.Ns mainGlobals mg) (y:i.heap.Ns builtinsNs mb) (hbb:∀x:Str,x≠ iQ -> mb x=bootBuiltins x) (hlim:i.heap.NoLimit) (hg:i.gens=#[])
  (I:i.heap.get? a=some {cls:=.type iB,data:=.seq vs.toArray}) (hi:IntsAre vs M) (hl:M.length<=sizeLine) (hr:aJ k callerA)
  (hP:∀t∈T,i.heap.get? t.2=some (W.tabObj #[])/\ω.lookup t.2=none/\W.CodeHd i.heap t.1 t.2/\i.heap.BuiltinsAt mg t.2)
  (D:i.heap.get? bd=some (dcObj w.params l ep)) (hKD:ω.lookup bd=none) (hb5:5<=bd) (gD:l.length<=1000) (gQ:(l.map (·.1)).Nodup)
  (F:∀base,ω.In base->base.Ns mainGlobals mg->(∀t∈T,W.CodeHd base t.1 t.2/\base.BuiltinsAt mg t.2)->aE P w ω mg base CX k fa fd [x] sp) (G:∀s u,BindsTo s fd ⟨[u],[]⟩ [(x,u)])
  (hsp:∀H,(∀t∈T,H t.2=some (.dy #[]))->Rd H bd (.dK (gE l))->aH ω H a (M.map V.int)->sp [.ref a] H (λv _=>v=.bl true) λ_ _ _=>False)
  (hCX:∀H e C,CX [] H i (λ_ _ _=>False) e C->False):
  codeAny (model P w) callerA (.call (.ref fa) ⟨[.ref a],[]⟩) (λr C=>r=.ok (.ret (.bool true))/\OldK i.heap C.heap/\C.os=i.os/\AllBare C.gens) i:=by
 have rv:=Es hi;generalize hT:T.map (·.2)=TT;have tt:∀b,b∈TT->∃t∈T,t.2=b:=λb z=>by grind
 have tP:∀b,b∈TT->i.heap.get? b=some (W.tabObj #[])/\ω.lookup b=none:=λb z=>by
  grind
 have haP:a∉ TT:=λz=>by simp_all
 have hab:a≠bd:=λz=>by subst z;rw[I]at D;cases congrArg Obj.data (Option.some.inj D)
 have hPb:bd∉ TT:=λz=>by have e:=(tP bd z).1;rw[D]at e;cases congrArg Obj.data (Option.some.inj e)
 generalize eD:dcObj w.params l ep=J at D;generalize eL:({cls:=.type iB,data:=.seq vs.toArray}:Obj)=N at I
 have okD:∀H,bD P w H i.heap bd (.cb J (.dK (gE l))):=λH=>⟨D,by unfold gE;rw[AQ];exact Nat.le_of_lt (AS gD),by
  cases q:(bd==sysModules)with
  |false=>rfl
  |true=>
   rw[beq_iff_eq.mp q]at hb5
   trivial,Xh (eD ▸ D) gQ⟩
 obtain⟨H,hH⟩:∃H:Hp,H=λb=>if b∈TT then some (.dy #[])else if b=bd then some (.cb J (.dK (gE l)))else if b=a/\ω.lookup a=none then some (.cb N (.lst (M.map V.int)))else none:=⟨_,rfl⟩
 have cs:∀b u,H b=some u->(b∈TT/\u=.dy #[])\/(b=bd/\u=.cb J (.dK (gE l)))\/(b=a/\ω.lookup a=none/\u=.cb N (.lst (M.map V.int))):=λb u z=>by
  grind
 have obj:∀{b:hO}{u:HO},H b=some u->i.heap.get? b=some (W.tabObj #[])\/i.heap.get? b=some J\/i.heap.get? b=some N:=λ{b u}z=>by
  rcases cs b u z with⟨h,_⟩|⟨rfl,_⟩|⟨rfl,_⟩
  ·exact .inl (tP _ h).1
  ·exact .inr (.inl D)
  simp_all
 have X:∀t∈T,H t.2=some (.dy #[]):=λt ht=>by
  rw[hH];exact zM (by rw[←hT];exact zO.mpr ⟨t,ht,zJ⟩)
 have hD0:H bd=some (.cb J (.dK (gE l))):=by
  rw[hH];exact(zN hPb).trans (zM zJ)
 have none_of:∀{b:hO}{o:Obj},i.heap.get? b=some o->o≠W.tabObj #[]->o≠J->o≠N->H b=none:=λ{b o}e n1 n2 n3=>by
  cases q:H b with
  |none=>rfl
  |some u=>rcases obj q with z|z|z<;>(rw[e]at z;cases z;trivial)
 have j:∀{b:hO}{o:Obj},i.heap.get? b=some o->H b=none->(Ke i.heap H).get? b=some o:=λe n=>RF e n;have dD:∃es n,J.data=.dict es n:=by rw[←eD];exact⟨_,_,zJ⟩
 have dL:∃xs n,N.data=.seq xs n:=by rw[←eL];exact⟨_,_,zJ⟩
 have noF:∀{b:hO}{o:Obj}{xs:Array Value},i.heap.get? b=some o->o.data=.fields xs->o.cls≠ .none->H b=none:=λ{b o xs}e d n=>none_of e (λz=>n (by rw[z])) (λz=>by obtain⟨_,_,q⟩:=dD;rw[←z,d]at q;cases q) (λz=>by obtain⟨_,_,q⟩:=dL;rw[←z,d]at q;cases q)
 have B:∀{b:hO}{m:SV},b<5->i.heap.Ns b m->(Ke i.heap H).Ns b m:=λ{b m}Y ⟨o,es,ep,e,d,r⟩=>⟨o,es,ep,j e (by
  cases q:H b with
  |none=>rfl
  |some u=>
   rcases cs b u q with⟨h,_⟩|⟨rfl,_⟩|⟨rfl,_⟩
   ·rw[(tP _ h).1]at e;cases e;cases d
   ·exact absurd Y (by grind)
   ·rw[I]at e;cases e;obtain⟨_,_,q⟩:=dL;rw[q]at d;cases d),d,r⟩
 have Z:=λb o e=>j (KX b o e) (by
  cases q:H b with
  |none=>rfl
  |some u=>
   rcases cs b u q with⟨h,_⟩|⟨rfl,_⟩|⟨rfl,h,_⟩
   ·rw[(tP _ h).2]at e;cases e
   ·rw[hKD]at e;cases e
   simp_all)
 have hM:Mod ω mg (Ke i.heap H):=⟨Z,B qc hns,⟨mb,B qc y,hbb⟩,let ⟨mc,h1,h2⟩:=hlim;⟨mc,B qc h1,h2⟩⟩
 have hCb:∀t∈T,W.CodeHd (Ke i.heap H) t.1 t.2/\(Ke i.heap H).BuiltinsAt mg t.2:=λt ht=>by
  obtain⟨_,_,hC,hB⟩:=hP t ht;obtain⟨o,vs',Q,tf,L,tg,inF,S,tt,e,O,U,r⟩:=id hC;obtain⟨bm,o',a1,a2,a3,a4,a5,a6,a7,a8⟩:=id hB;exact⟨⟨o,vs',Q,tf,L,tg,inF,S,tt,j e (noF e U (by rw[O];simp)),O,U,r⟩,⟨bm,o',a1,a2,a3,a4,j a5 (none_of a5 (λz=>by rw[z]at a6;cases a6) (λz=>by obtain⟨_,_,q⟩:=dD;rw[←z,a8]at q;cases q) (λz=>by obtain⟨_,_,q⟩:=dL;rw[←z,a8]at q;cases q)),a6,a7,a8⟩⟩
 have aI:cD P w H i.heap:=λb u z=>by
  rcases cs b u z with⟨h,rfl⟩|⟨rfl,rfl⟩|⟨rfl,_,rfl⟩
  ·exact(tP _ h).1
  ·exact okD _
  ·exact⟨I,by rw[AQ];exact hl,vs,_,rv,by rw[I,←eL]⟩
 have hS:aH ω H a (M.map V.int):=by
  cases hk:ω.lookup a with
  |none=>exact .inl (.inr ⟨N,by rw[hH];exact(zN haP).trans ((zN hab).trans (zM ⟨rfl,hk⟩))⟩)
  |some o=>
   have e:=KX a o hk;rw[I,←eL]at e;cases e;exact .inr ⟨_,vs.toArray,_,hk,zJ,zJ,zJ,by rw[size_toArray,hi.length];exact hl,by simpa using rv⟩
 refine codeAny_mono ((F _ Z (B qc hns) hCb).run callerA [] i H ⟨[.ref a],[]⟩ [.ref a] [.ref a] _ _ hr (⟨rfl,hM,λb o e=>Ti e,Nat.le_of_eq (P2 _ _),trivial,λb y=>absurd (show b∈([])from y) (by simp),aI,.of_eq hg⟩) (G i (.ref a)) (.cons rfl .nil) (hsp H X (.inr ⟨_,hD0⟩) hS)) λr C h=>?_;cases r with
 |error e=>exact(hCX H e C h).elim
 |ok fl=>
  cases fl with
  |next=>trivial
  |brk=>trivial
  |cont=>trivial
  |ret u=>
   obtain⟨v,H',os,R,un,A,r',q⟩:=h;subst q;obtain rfl:u=Value.bool true:=r'
   have p:∀b,b∈TT->∃more,C.heap.get? b=some (W.tabObj (#[]++more)):=λb y=>by
    obtain⟨t,ht,rfl⟩:=tt b y;obtain⟨more,e⟩:=un.dm _ #[] (X t ht);exact⟨more,A _ _ e⟩
   have E:∀b o,b∉ TT->i.heap.get? b=some o->C.heap.get? b=some o:=λb o y e=>by
    cases q:H b with
    |none=>exact un.keep b o e q (by intro z;trivial) (by simp)
    |some u=>
     rcases cs b u q with⟨h,_⟩|⟨rfl,rfl⟩|⟨rfl,_,rfl⟩
     ·trivial
     ·rw[D]at e;cases e;exact(A _ _ (un.dj _ _ _ q)).1
     ·rw[I]at e;cases e;exact(A _ _ (un.dj _ _ _ q)).1
   refine⟨zJ,⟨λb o e=>?_,λb o e=>?_⟩,os,R⟩
   ·by_cases y:b∈TT
    ·obtain⟨t,ht,rfl⟩:=tt b y;obtain⟨hp,_,hC,_⟩:=hP t ht;rw[hp]at e;cases e;obtain⟨more,e2⟩:=p _ y;exact .inr (.inl ⟨(hC.tab hp).isCodeTable,zJ,#[],more,zJ,e2⟩)
    ·exact .inl (E b o y e)
   ·by_cases y:b∈TT
    ·obtain⟨more,e2⟩:=p _ y;exact⟨_,e2⟩
    ·exact⟨o,E b o y e⟩
def SG{x}{l:W.OpenLaw}{n k}{q}{loose}{XP}{YP}{d}{ω:Params->FG}{CX:World->CXT}{sp:World->Sp}{T:List (hO×hO)}{bd}{dl}{ep}
  (hn:l.most=some n) (hn2:n<=sizeLine) (B:d.params.defaults=[]) (hr:aJ k callerA) (J:5<=bd) (N:dl.length<=1000) (E:(dl.map (·.1)).Nodup)
  (hY:∀w h,YP w h->(ω w.params).In h/\(∀t∈T,h.get? t.2=some (W.tabObj #[])/\(ω w.params).lookup t.2=none/\W.CodeHd h t.1 t.2)/\h.get? bd=some (dcObj w.params dl ep)/\(ω w.params).lookup bd=none)
  (F:∀w(mg:SV)y h,(ω w.params).In h->h.Ns mainGlobals mg->mg d.name=some (.ref y) ->
   ∃fd,(∀s u,BindsTo s fd ⟨[u],[]⟩ [(x,u)]) /\
    ∀base,(ω w.params).In base->base.Ns mainGlobals mg->(∀t∈T,W.CodeHd base t.1 t.2/\base.BuiltinsAt mg t.2)->aE l.prog w (ω w.params) mg base (CX w) k y fd [x] (sp w))
  (D:∀w H a(A:List Int),A.length<=n->(∀t∈T,H t.2=some (.dy #[]))->Rd H bd (.dK (gE dl))->aH (ω w.params) H a (A.map V.int)->sp w [.ref a] H (λv _=>v=.bl true) λ_ _ _=>False)
  (I:∀w H s e C,CX w [] H s (λ_ _ _=>False) e C->False):
  W.WalkO q loose XP YP l.row.toRowW d [] (λf vs=>PySem.call f vs):=by
 refine Att.attach_call hn B λw Q i mg mb y o pm cd doc a vs A G Y ho hd hcd O p j r hg=>?_;obtain⟨R,M,hD,L⟩:=hY w _ Y;obtain⟨fd,hb,hF⟩:=F w mg y _ R G.T.g O
 have hB:∀t∈T,i.heap.BuiltinsAt mg t.2:=λt ht=>by
  obtain⟨S,ob,b1,b2,b3,U,b5,Z⟩:=G.T.bmain;refine⟨S,ob,b1,b2,λz=>?_,λz=>?_,b3,U,b5,Z⟩
  ·obtain⟨o',es,ep,e,hd',_⟩:=G.T.g
   simp_all
  grind
 exact QX R G.T.g G.T.b G.T.builtins G.T.nolimit hg p j (by lia) hr (λt ht=>⟨(M t ht).1,(M t ht).2.1,(M t ht).2.2,hB t ht⟩) hD L J N E hF hb (λH hH X hS=>D w H a A r hH X hS) λH e C=>I w H i e C
def Inv.thaw(I:Inv X aa σ H s)(h:H a=some (.cb o (.dK kvs)))(t:∀o u,X.cZ a≠some (.cb o u)):Inv X aa σ (upd H a (.dK kvs)) s:=by
 have i:∀{b:hO}{u:HO},H b=some u->(∀r v,u≠ .cb r v)->b≠a:=λe n z=>by
  subst z;rw[h]at e;cases e;exact n _ _ rfl
 have no:∀{b:hO},H b=none->b≠a:=λe z=>by
  subst z;rw[h]at e;cases e
 have d:∀{b:hO},H b=none->(upd H a (.dK kvs)) b=none:=λe=>by
  rw[AD (no e)];exact e
 refine⟨I.ok,I.os,I.bare,⟨I.base.keep,I.base.slot,λb o q n x=>d (I.base.free b o q n x),I.base.there,λb A e=>?_,λb o u e=>?_,λb y e=>?_⟩,I.loc,I.cell,d I.free,λx c e=>d (I.cc x c e),λp l=>?_,λb u e=>?_,I.len⟩
 ·have:=I.base.dG b A e;rw[AD (i this λ_ _ z=>nomatch z)];exact this
 ·rw[AD (show b≠a from λz=>by subst z;exact t o u e)];exact I.base.dj b o u e
 ·obtain⟨more,q⟩:=I.base.dm b y e;exact⟨more,by rw[AD (i q λ_ _ z=>nomatch z)];exact q⟩
 ·obtain⟨q1,q2,q3⟩:=I.pin p l;exact⟨q1,d q2,q3⟩
 ·by_cases j:b=a
  ·subst j;rw[aA]at e;cases e;exact(I.aI _ _ h).2
  ·rw[AD j]at e;refine(I.aI b u e).df (λ_ _ _ q=>q) (λc q=>?_) λc x q=>?_
   ·rw[AD (i q λ_ _ z=>nomatch z)];exact q
   ·rw[AD (i q λ_ _ z=>nomatch z)];exact q
def MZ{st}(h:PS X st t):PS X st (λD σ H=>∃a kvs,H a=some (.dK kvs)/\(∀o u,X.cZ a≠some (.cb o u))/\∀o,t {D with nx:=λd j=>j a=some (.cb o (.dK kvs))/\D.nx d (upd j a (.dK kvs))} σ (upd H a (.cb o (.dK kvs)))):=by
 intro i s σ H D I ⟨a,kvs,e,r,k⟩;obtain⟨o,l⟩:=I.freeze e;refine aL (h i s σ _ _ l (k o)) λfl y q=>?_;cases fl with
 |next=>obtain⟨d,j,x,p,q1⟩:=q;exact⟨d,_,x.thaw p r,q1⟩
 |brk=>exact q
 |cont=>exact q
 |ret v=>exact q
section
def QY{a}(B:X.N.Nodup)(q:X.N[i]?=some z)(hz:X.env.scope.names.lookup z=some .local)(e)(l)(E:Hz X.env.scope scope X.N (x::y::e) (none::none::l)=true)(h:(x::y::e).Nodup)(v:scope.names.lookup x=some .local)(t:scope.names.lookup y=some .local)(A:X.calm=true)(I:PI X (.Tuple [.Name x r,.Name y py] kt pt) a L)
  (ht:∀cl s H C fp d,gg (Bj X (x::y::e) scope cl s H C fp d) ifs tt) (G:∀cl s H C fp d,PE (Bj X (x::y::e) scope cl s H C fp d) kx tk) (J:∀cl s H C fp d,PE (Bj X (x::y::e) scope cl s H C fp d) u te)
  (o:swapsWith (.DictComp kx u [⟨.Tuple [.Name x r,.Name y py] kt pt,a,ifs,0⟩] scope pos) (some (.Name z F)) j.line X.env=pure true:=by rfl) (hs:∀x,foldedSetIterable a X.env x=pure x:=by intro _;rfl):
  PS X (.Assign [.Name z F] (.DictComp kx u [⟨.Tuple [.Name x r,.Name y py] kt pt,a,ifs,0⟩] scope pos) j) (λD σ H=>V7 L (g2 X.K) tt tk te (none::none::l) (λys H'=>∀p,H' p=none->D.nx (σ.set i (some (.ref p))) (upd H' p (.dK ys))) σ H):=
 L1 B q hz o QU DW (aZ.of E) (λ_ _ _ _ _ _=>A) I.g (λcl s H C fp d=>Lz (BM (X:=Bj X (x::y::e) scope cl s H C fp d) A (AW (AU (i:=0) h rfl (.inl (Z5 v)) (.inr (Z5 v)))
  (AW (AU (i:=1) h rfl (.inl (Z5 t)) (.inr (Z5 t))) A9)))) ht (λ_ _ _ _ _ _ _=>SE (G _ _ _ _ _ _) (J _ _ _ _ _ _)) hs rfl
end
end L2
end
section
namespace L2
open PySem PySem.Spec PyProof.Rows PySem.W
section
def PF{α:Type}(v):∀n a,(List.replicate n (#[v]:Array α)).foldl (·++·) a=a++(List.replicate n v).toArray
 |0,a=>by simp
 |n+1,a=>by
  rw[List.replicate_succ,foldl_cons,PF v n]
  grind
def Ma(h:RelV x u):∀n,Vals (List.replicate n x) (List.replicate n u)
 |0=>.nil
 |n+1=>.cons h (Ma h n)
def UR(ω)(D:X.K=ω):cy X (binaryOp .Mult) (λx y H Q=>∃(a:hO)(t:V)(n:Int),x=.ref a/\y=.int n/\aH ω H a [t]/\1<=n/\n<=20/\∀l,H l=none->Q (.ref l) (upd H l (.lst (List.replicate n.toNat t)))):=by
 subst D;rintro p s U H x y v u Q I L C ⟨a,t,n,rfl,rfl,J,S,O,q⟩;cases L;obtain⟨i,rfl⟩:=C;obtain⟨r,z,pl,R⟩:=I.list J;obtain⟨u,rfl,G⟩:=BY z;obtain⟨⟨N,d,o,sl⟩,h,j,k,A⟩:=pl.isList;subst j A
 refine wpAny_binaryOp_repeat_ref qc ⟨_,h,zJ⟩ (λB=>typeIs_int B n i) noFill_list_mul F.fills_int_mul F.slot_int_rmul repeat_list F.slot_int_index.lookup
  (call_meets F.slot_int_rmul (typeIs_int s n i) F.entry_int_rmul (F.args_int_rmul_2 _ _) (lm_int_rmul_list_any n i a _ k d sl)
   ⟨h,rfl,⟨_,h,rfl⟩,call_meets F.slot_list_mul ⟨_,h,rfl⟩ F.entry_list_mul (F.args_list_mul_2 _ _)
    (lm_list_mul_any a _ k d sl n i (by simp[Builtin.List.listFitsIndex];lia) (by grind) (by simp[Builtin.List.listTooLong,sizeLine];lia))
    ⟨h,?_⟩⟩)
 refine⟨.ref s.heap.objs.size,_,I.laid (λb T q=>Zy _ q) (zV _) ?_,zJ,q _ (I.aI.fresh (zV _))⟩;refine⟨by rw[List.length_replicate];show _<=2^24;lia,_,0,Ma G n.toNat,?_⟩
 have e:(List.replicate (if (#[u]).isEmpty=true then 0 else n.toNat) (#[u])).foldl (λE M=>E++M) #[]=(List.replicate n.toNat u).toArray:=by
  rw[PF];apply Array.ext';simp
 rw[e];exact Zo _ rfl
end
end L2
end
section
namespace L2
open PySem PySem.Spec PyProof.Rows
def GY(xs:Array Nat):Prop:=∀i j hi(hj:j<xs.size),i<j->xs[i]<xs[j]
structure BlS(xs:Array Nat)(j k:Nat):Prop where
 le:k<=xs.size
 lo:∀i h,i<k->xs[i]<j
 hi:∀i h,k<=i->j<=xs[i]
def JC(hs:GY xs)(j):∀d lo a,lo<=a->a<=xs.size->a-lo<=d->(∀i h,i<lo->xs[i]<j)->(∀i h,a<=i->j<=xs[i])->BlS xs j (SetTable.below.go xs j d lo a)
 |0,lo,a,v,p,x,q,r=>by
  have e:lo=a:=by lia
  subst e;exact⟨p,q,r⟩
 |d+1,lo,a,v,p,x,q,r=>by
  rw[SetTable.below.go];by_cases o:lo<a
  ·rw[zM o];have t:(lo+a)/2<xs.size:=by lia
   have y:xs.getD ((lo+a)/2) j=xs[(lo+a)/2]:=by
    rw[Array.getD_eq_getD_getElem?,Array.getElem?_eq_getElem t];rfl
   show BlS xs j (if xs.getD ((lo+a)/2) j<j then _ else _);rw[y];by_cases u:xs[(lo+a)/2]<j
   ·rw[zM u];refine JC hs j d _ _ (by lia) p (by lia) (λi l z=>?_) r;by_cases e:i=(lo+a)/2
    ·simp_all
    ·exact Nat.lt_trans (hs i ((lo+a)/2) l t (by lia)) u
   ·rw[zN u];refine JC hs j d _ _ (by lia) (by lia) (by lia) q (λi l z=>?_);by_cases e:i=(lo+a)/2
    ·simp_all
    ·have:=hs ((lo+a)/2) i t l (by lia)
     lia
  ·rw[zN o];have e:lo=a:=by lia
   subst e;exact⟨p,q,r⟩
def GZ(hs:GY xs)(j):BlS xs j (SetTable.below xs j):=by
 exact JC hs j xs.size 0 xs.size (Nat.zero_le _) (zV _) (by lia) (λi _ h=>absurd h (by simp)) (λi h a=>absurd h (by lia))
def V8(hs:GY xs)(h:SetTable.has xs j=false):∀i(h:i<xs.size),xs[i]≠j:=by
 intro i a e;have B:=GZ hs j;unfold SetTable.has at h
 have d:SetTable.below xs j=i:=by
  rcases Nat.lt_trichotomy (SetTable.below xs j) i with z|z|z
  ·have l:=B.hi _ (by lia) (zV (SetTable.below xs j));have o:=hs (SetTable.below xs j) i (by lia) a z
   lia
  ·exact z
  ·have:=B.lo i a z
   lia
 rw[d,Array.getElem?_eq_getElem a,e]at h;simp at h
def Jn{α}(xs)(p)(x:α):(SetTable.insertAt xs p x).toList=xs.toList.take p++x::xs.toList.drop p:=by
 unfold SetTable.insertAt;simp;exact take_of_length_le (by simp)
def SH(l:List Nat):Prop:=l.Pairwise (· < ·)
def Mb:GY xs ↔ SH xs.toList:=by
 unfold SH;rw[List.pairwise_iff_getElem];rfl
def Mc(hs:GY xs)(x:∀i(h:i<xs.size),xs[i]≠j):GY (SetTable.insertAt xs (SetTable.below xs j) j):=by
 have B:=GZ hs j;rw[Mb]at hs ⊢;rw[Jn];generalize SetTable.below xs j=k at B;unfold SH at hs ⊢;have q:=hs;rw[←List.take_append_drop k xs.toList,List.pairwise_append]at q;obtain⟨r,t,u⟩:=q;rw[List.pairwise_append,pairwise_cons];refine⟨r,⟨λy v=>?_,t⟩,λa p b l=>?_⟩
 ·obtain⟨i,o,rfl⟩:=List.getElem_of_mem v;rw[List.length_drop]at o;have d:k+i<xs.size:=by have:xs.toList.length=xs.size:=Array.length_toList;lia
  have:=B.hi (k+i) d (by lia);have z:=x (k+i) d;simp
  lia
 ·have e:a<j:=by
   obtain⟨i,o,rfl⟩:=List.getElem_of_mem p;rw[zX]at o;have d:i<xs.size:=by have:xs.toList.length=xs.size:=Array.length_toList;lia
   have:=B.lo i d (by lia);simpa using this
  rcases mem_cons.mp l with rfl|l
  ·exact e
  ·exact u a p b l
def OF(n):GY (Array.range n):=λi j d a h=>by simp_all
structure Ga(t:SetTable)(n:Nat):Prop where
 fits:t.fits n=true
 rise:GY t.place
 nod:t.dummies=#[]
def US{t:SetTable}(h:t.slot j=.empty)(hs:GY t.place):∀i(h:i<t.place.size),t.place[i]≠j:=by
 apply V8 hs;unfold SetTable.slot at h;unfold SetTable.has
 lia
def SI(j):SetTable.has #[] j=false:=by
 rfl
def OG{t:SetTable}(a:t.dummies=#[]):t.slot j≠ .dummy:=by
 unfold SetTable.slot;rw[a,SI]
 lia
def QZ(t:SetTable)(p):(t.advance p).dummy=p.dummy:=by
 unfold SetTable.advance
 lia
def Md{l}(o:t.dummies=#[]):∀a p{j}{d},p.dummy=none->SetTable.probe.go t l h a p=some (.empty j d)->d=none/\t.slot j=.empty
 |0,p,j,d,r,e=>by trivial
 |a+1,p,j,d,r,e=>by
  rw[SetTable.probe.go]at e;cases q:t.slot p.j with
  |empty=>
   simp_all
  |dummy=>exact absurd q (OG o)
  |live i=>
   rw[q]at e;simp only at e;split at e
   ·cases e
   ·exact Md o a _ (by rwa[QZ]) e
def UT{t:SetTable}{wd}(hs:GY t.place)(l:t.dummies=#[])(e:t.freeSlot h=some (j,wd)):(∀i(h:i<t.place.size),t.place[i]≠j)/\wd=false:=by
 unfold SetTable.freeSlot at e;cases q:t.probe (λ_=>h+1) h (t.probeStart h)with
 |none=>simp_all
 |some m=>
  rw[q]at e;cases m with
  |candidate a b c=>cases e
  |empty a b=>
   obtain⟨rfl,d⟩:=Md l _ _ rfl q;cases e;exact⟨US d hs,zJ⟩
def Gb(t:SetTable)(n):Ga (t.standIn n) n/\(t.standIn n).led=t.led:=⟨⟨SetTable.standIn_fits t n,OF n,rfl⟩,rfl⟩
def OH{t:SetTable}(n)(hs:GY t.place)(a:t.dummies=#[]):Ga (t.orStandIn n) n/\(t.orStandIn n).led=t.led:=by
 unfold SetTable.orStandIn;split
 ·rename_i h;exact⟨⟨h,hs,a⟩,zJ⟩
 ·exact Gb t n
def Qa(h)(x)(T:Ga t es.size):Ga (layNew t es h x).2.1 (layNew t es h x).1.size/\(layNew t es h x).2.1.led=t.led:=by
 unfold layNew;cases e:t.freeSlot h with
 |none=>
  have:=Gb t (es.size+1);simpa using this
 |some q=>
  obtain⟨j,wd⟩:=q;obtain⟨a,_⟩:=UT T.rise T.nod e
  exact OH _ (Mc T.rise a) (by
   show(if SetTable.has t.dummies j=true then _ else t.dummies)=#[];rw[T.nod]
   rfl)
def Qb(f:Nat->Option Nat)(n):GY (((List.range n).filterMap λj=>(f j).map λx=>(j,x)).map (·.1)).toArray:=by
 rw[Mb];show List.Pairwise _ _;rw[pairwise_map,List.pairwise_filterMap];refine List.Pairwise.imp ?_ (List.pairwise_lt_range)
 simp_all
def Me(n)(T:Ga t es.size):Ga (relayAll t es n).2.1 (relayAll t es n).1.size/\(relayAll t es n).2.1.led=t.led:=by
 unfold relayAll;cases e:t.relaid (es.map (·.1)) n with
 |none=>exact Gb t es.size
 |some q=>
  obtain⟨l,d⟩:=q;simp only;split
  ·rename_i h;rw[Bool.and_eq_true]at h;obtain⟨a,_,i⟩:=Option.bind_eq_some_iff.mp e;cases i;exact⟨⟨h.2,Qb (λj=>a.getD j none) _,zJ⟩,zJ⟩
  ·exact Gb t es.size
def SJ(b)(T:Ga t n):Ga {t with plain:=b} n:=⟨T.fits,T.rise,T.nod⟩
def SK(a b)(d):Ga (SetTable.fresh a b d) 0:=⟨by rfl,λi j e _ _=>absurd e (Nat.not_lt_zero _),rfl⟩
section
variable {prog:Program}{ω:Type} [DecidableEq ω]
structure gJ(knd:KeyKind prog w ω)(k:ω)(e:Int×Value):Prop where
 is:knd.is k e.2=true
 hs:e.1=knd.hash k
 sc:e.2.scannable=true
def cJ(knd:KeyKind prog w ω)(h:Heap)(a:hO)(ks:List ω)(led:Bool):Prop:=
 ∃(o:Obj)(ar:Array (Int×Value))(ep:Nat)(t:SetTable)(ks':List ω),h.get? a=some o/\o.ExactSet/\o.data=.set ar ep t/\Ga t ar.size/\t.led=led/\ks'.Perm ks/\Paired (gJ knd) ks' ar.toList/\ar.size<scanBound
def Qc{w}{knd:KeyKind prog w ω}{i}{d}(h:Paired (gJ knd) i d):ElemsOf knd d:=by
 induction h with
 |nil=>intro e a;cases a
 |cons r t j=>
  intro e a;rcases mem_cons.mp a with rfl|a
  ·exact⟨⟨_,r.is,r.hs⟩,r.sc⟩
  ·exact j e a
def Mf:∀{a:List ω}{d},Paired (gJ knd) a d->(d.findIdx? (λe=>knd.is k e.2)).isSome=decide (k∈a)
 |_,_,.nil=>rfl
 |k'::a,e::d,.cons r t=>by
  rw[List.findIdx?_cons]
  have h:knd.is k e.2=decide (k=k'):=by
   cases q:knd.is k e.2 with
   |true=>rw[knd.inj _ _ _ q r.is,Zm rfl]
   |false=>
    symm
    refine Zp λz=>?_;rw[z,r.is]at q;cases q
  rw[h];by_cases z:k=k'
  ·rw[Zm z,z];simp
  ·rw[Zp z,zN qc];have:=Mf (k:=k) t;simp[Option.isSome_map,this,mem_cons,z,false_or]
def Mg(p:e.Perm es):∀{d:List ω},Paired (gJ knd) d es->∃a,a.Perm d/\Paired (gJ knd) a e:=by
 induction p with
 |nil=>grind
 |cons x p j=>
  intro d h;cases h with
  |cons r t=>
   obtain⟨a,i,u⟩:=j t;exact⟨_::a,i.cons _,.cons r u⟩
 |swap x y l=>
  intro d h;cases h with
  |cons r t=>
   cases t with
   |cons v t=>exact⟨_::_::_,List.Perm.swap ..,.cons v (.cons r t)⟩
 |trans z A o q=>
  grind
def cJ.put{h:PySem.Heap}{o}(e:h.get? a=some o)(x:o.ExactSet)(d:o.data=.set r ep t){i}{t'}{j:List ω} 
  (T:Ga t' i.size) (q:t'.led=led) (p:j.Perm ks) (l:Paired (gJ knd) j i.toList) (hs:i.size<scanBound):cJ knd (h.update a (Obj.putSet i t')) a ks led:=by
 refine⟨_,i,ep+1,t',j,Zu _ e (by rw[putSet_of i t' d];rfl),?_,?_,T,q,p,l,hs⟩
 ·rw[putSet_of i t' d];exact⟨x.1,x.2.1,x.2.2⟩
 ·rw[putSet_of i t' d]
def Y8{s}{knd:KeyKind prog w ω}{y}{x}{Q}(hx:knd.is k x=true)(F:x.scannable=true)(hS:cJ knd s.heap a y led)(hn:y.length+1<scanBound)
  (h1:k∈y->Q false s) (h2:k∉ y->∀h',Heap.SameBut a s.heap h'->cJ knd h' a (k::y) led->Q true {s with heap:=h'}):wpAny (model prog w) A (setAddHashed a x (knd.hash k)) Q E s:=by
 obtain⟨o,D,ep,t,ks',e,xs,d,T,hl,p,Z,hs⟩:=hS;have el:=Qc Z
 have bg:D.size=y.length:=by
  have:=Z.length;rw[←p.length_eq,this];simp
 apply Zl;refine zU (wpAny_setState_of e d T.fits ?_);show wpAny _ _ (if byScan x D=true then _ else _) _ _ _;rw[zM (byScan_of F hs el)];apply zU;apply zU
 wp_step
 refine zU (wpAny_setScan_of hx e d T.fits el ?_);have X:=Mf (k:=k) Z;cases q:D.toList.findIdx? (λe=>knd.is k e.2)with
 |some j=>
  rw[q]at X;have hm:=p.mem_iff.mp (Zv X.symm);exact zT (zT (h1 hm))
 |none=>
  rw[q]at X;obtain⟨T1,Y⟩:=Qa (knd.hash k) x T;have p1:=layNew_perm t D (knd.hash k) x
  have hq:∃R,R.Perm (k::y)/\Paired (gJ knd) R (layNew t D (knd.hash k) x).1.toList:=by
   have pr2:Paired (gJ knd) (ks'++[k]) (D.push (knd.hash k,x)).toList:=by
    rw[Array.toList_push];exact Paired.snoc Z ⟨hx,zJ,F⟩
   obtain⟨k2,q2,h2'⟩:=Mg p1 pr2;refine⟨k2,q2.trans ?_,h2'⟩;exact(List.perm_append_comm).trans (p.cons k)
  have u:(layNew t D (knd.hash k) x).1.size<scanBound:=by
   have:=p1.length_eq;rw[Array.length_toList,Array.length_toList,Array.size_push]at this
   lia
  rw[hl]at Y;generalize layNew t D (knd.hash k) x=L at T1 Y hq u ⊢;obtain⟨h,v,wd,gv⟩:=L;obtain⟨kn1,N,M⟩:=hq;have u:h.size<scanBound:=u
  have O:∀l,Ga l h.size->l.led=led->∀g:Bool->Sem Unit,(∀b i H,H () i->wpAny (model prog w) A (g b) H E i) ->
    wpAny (model prog w) A (do storeSet a h l;if (!wd&&l.tooFull)=true then (do g (relayAll l h (SetTable.grown h.size)).2.2;storeSet a (relayAll l h (SetTable.grown h.size)).1 (relayAll l h (SetTable.grown h.size)).2.1;pure (some true))else pure (some true)) (λb C=>b=some true/\∃h',Heap.SameBut a s.heap h'/\cJ knd h' a (k::y) led/\C={s with heap:=h'}) E s:=λl T2 J g hg=>by
   refine zU (wpAny_storeSet_of e d ?_ (fits_of_scanBound u));have B1:Heap.SameBut a s.heap (s.heap.update a (Obj.putSet h l)):=Heap.SameBut.update _ _ _;split
   ·refine zU (hg _ _ _ ?_);have e1:(s.heap.update a (Obj.putSet h l)).get? a=some (Obj.putSet h l o):=Zu _ e (by rw[putSet_of h l d];rfl);have d1:(Obj.putSet h l o).data=.set h (ep+1) l:=by rw[putSet_of h l d]
    have x1:(Obj.putSet h l o).ExactSet:=by rw[putSet_of h l d];exact⟨xs.1,xs.2.1,xs.2.2⟩
    obtain⟨T3,l3⟩:=Me (SetTable.grown h.size) T2;have p3:=relayAll_perm l h (SetTable.grown h.size)
    have I:(relayAll l h (SetTable.grown h.size)).1.size<scanBound:=by
     have:=p3.length_eq;rw[Array.length_toList,Array.length_toList]at this
     lia
    obtain⟨k3,q3,pr3⟩:=Mg p3 M;refine zU (wpAny_storeSet_of e1 d1 ?_ (fits_of_scanBound I));exact zT ⟨zJ,_,B1.trans (Heap.SameBut.update _ _ _),cJ.put e1 x1 d1 T3 (l3.trans J) (q3.trans N) pr3 I,zJ⟩
   ·exact zT ⟨zJ,_,B1,cJ.put e xs d T2 J N M u,zJ⟩
  have out:∀{b:Option Bool}{C:hX},(b=some true/\∃h',Heap.SameBut a s.heap h'/\cJ knd h' a (k::y) led/\C={s with heap:=h'})->wpAny (model prog w) A (match b with|some G=>pure G|none=>setAddHashedIn a x (knd.hash k) 99999) Q E C:=λ{b C}hb=>by
   obtain⟨rfl,h',B,S,rfl⟩:=hb;exact zT (h2 (λz=>absurd (p.mem_iff.mpr z) (of_decide_eq_false X.symm)) h' B S)
  refine zS ?_ (λb C hb=>out hb) (λ_ _ z=>z)
  have gw:∀b i H,H () i->wpAny (model prog w) A (match b with|true=>rule j6 |false=>pure ()) H E i:=λb i H U=>by
   cases b
   ·exact zT U
   ·wp_step
    exact U
  refine zU (gw gv s _ ?_)
  have go:∀r,wpAny (model prog w) A (do storeSet a h (if r=true then v else {v with plain:=false});if (!wd&&(if r=true then v else {v with plain:=false}).tooFull)=true then (do (match (relayAll (if r=true then v else {v with plain:=false}) h (SetTable.grown h.size)).2.2 with|true=>rule j6 |false=>pure ());storeSet a (relayAll (if r=true then v else {v with plain:=false}) h (SetTable.grown h.size)).1 (relayAll (if r=true then v else {v with plain:=false}) h (SetTable.grown h.size)).2.1;pure (some true))else pure (some true)) (λb C=>b=some true/\∃h',Heap.SameBut a s.heap h'/\cJ knd h' a (k::y) led/\C={s with heap:=h'}) E s:=λr=>by
   cases r
   ·exact O _ (SJ false T1) Y _ gw
   ·exact O _ T1 Y _ gw
  split
  ·rw[hashByValue_scannable 8 F];refine zU (zT ?_);exact go _
  ·exact go true
end
noncomputable abbrev K6(w:World):Bool:=!w.params.followText jq
def Qd(P:Program)(w:World)(a:hO)(ks:List Key):HO:=.ext λh=>cJ (Ac P w) h a ks (K6 w)
def V9(hs:cJ (Ac P w) h a ks (K6 w)):bD P w H h a (Qd P w a ks):=by
 refine⟨hs,?_,λp q l j=>?_⟩
 ·obtain⟨o,_,_,_,_,e,_⟩:=hs;exact⟨o,e⟩
 ·obtain⟨o,i,ep,t,d,e,r⟩:=l;exact⟨o,i,ep,t,d,j _ e,r⟩
def WA(d:cD P w H h)(e:H a=some (Qd P w a ks)):cJ (Ac P w) h a ks (K6 w):=(d a _ e).1
open Classical in
noncomputable def K7(acc:List Key)(k:Key):List Key:=if k∈acc then acc else k::acc
def SL(h:(Ac P w).is k v=true):v.scannable=true:=by
 cases v<;>first|rfl| (cases k<;>cases h)
section
def Qe(e:h.get? d=some {cls:=.type me,data:=.set #[] 0 (SetTable.fresh 0 0 (K6 w))}):cJ (Ac P w) h d [] (K6 w):=
 ⟨_,#[],0,_,[],e,⟨rfl,rfl,rfl⟩,rfl,SK _ _ _,rfl,List.Perm.refl _,.nil,qc⟩
end
def aG:Slot jd "__next__" jN:=
 .of (by rfl) (by rfl) (by rfl) (by rfl)
  (by trivial) (by rfl)
def Bi:entryFor table jN=some Builtin.«set_iterator.__next__»:=entryFor_of_tree (by rfl)
def Bs(a):argsOk jN ⟨[a],[]⟩:=by kernel_rfl
def JD:entryFor table "set.__iter__"=some Builtin.«frozenset.__iter__»:=entryFor_alias (id':="frozenset.__iter__") qd (by rfl) qb qd
def FW{α:Type}:∀(xs:List α)i h,(xs[i]::xs.eraseIdx i).Perm xs
 | [],i,h=>absurd h (by simp)
 |x::r,0,h=>List.Perm.refl _
 |x::r,i+1,h=>(List.Perm.swap ..).trans ((FW r i (by grind)).cons x)
def eU(h:Heap)(I a:hO)(first:Value)(i n ep:Nat):Prop:=∃o,h.get? I=some o/\o.cls=.type jd /\ o.data=.fields #[first,.int i 0,.ref a,.int n 0,.int ep 0]
def eU.typeIs{s:PySem.Shared}(x:eU s.heap I a first i n ep):s.TypeIs (.ref I) jd:=let ⟨o,e,d,_⟩:=x;⟨o,e,d⟩
section
def K8(e:n≠0)(h:∀i d,i<n->Q i {s with drawn:=d}):wpAny (model prog w) A (choose src n) Q E s:=λΓ p a=>⟨e,h _ _ (Nat.mod_lt _ (by lia))⟩
def EB{α}:∀n(xs:List α)s{Q},xs.length<=n->(∀ys d,List.Perm ys xs->Q ys {s with drawn:=d})->wpAny (model prog w) A (drawOrder n xs) Q E s
 |0,xs,s,Q,j,h=>by
  have e:=List.length_eq_zero_iff.mp (Nat.le_zero.mp j);subst e;unfold drawOrder;exact zT (h _ s.drawn (by simp))
 |n+1,[],s,Q,j,h=>by
  exact zT (h _ s.drawn (by simp))
 |n+1,x::r,s,Q,j,h=>by
  refine zU (K8 (by simp) λi d l=>?_);rw[Z7 l]
  have a:((x::r).eraseIdx i).length<=n:=by
   rw[List.length_eraseIdx,zM l]
   lia
  refine zU (EB n _ _ a λys p o=>zT (h _ p ?_));exact(o.cons _).trans (FW _ _ l)
def PJ{α}(next):∀a k(left:List α)d,left.length<=a->(pickOrder.go next a k left d).toList.Perm (d.toList++left)
 |0,k,left,d,h=>by
  have e:=List.length_eq_zero_iff.mp (Nat.le_zero.mp h);subst e;unfold pickOrder.go;simp
 |a+1,k,[],d,h=>by
  unfold pickOrder.go;simp
 |a+1,k,x::r,d,h=>by
  unfold pickOrder.go;have j:next k%(x::r).length<(x::r).length:=Nat.mod_lt _ (by simp)
  rw[Z7 j]
  have i:((x::r).eraseIdx (next k%(x::r).length)).length<=a:=by
   rw[List.length_eraseIdx,zM j]
   lia
  apply (PJ next a (k+1) _ _ i).trans;rw[Array.toList_push,append_assoc];exact(FW _ _ j).append_left _
def KP{α}(next)(xs:Array α):(pickOrder next xs).toList.Perm xs.toList:=by
 exact(PJ next xs.size 0 xs.toList #[] (by simp)).trans (by simp)
section
def Gc{s}{w}{x}{a}{prog}{I}{slot nx i n ep:Nat}{o}{ar}{t}(hit:eU s.heap I a (.int slot 0) i n ep)(ho:s.heap.get? a=some o)(hd:o.data=.set ar ep t)(hf:t.fits ar.size=true)(hn:ar.size=n)
  (hN:∀{A}{E:VS}{Q},Q (some (x,nx)) s->wpAny (model prog w) A (setNext a slot i ep) Q E s)
  (hQ:∀h',eU h' I a (.int nx 0) (i+1) n ep->Heap.SameBut I s.heap h'->Q (some x) {s with heap:=h'}):wpAny (model prog w) A (pyNext (.ref I)) Q E s:=by
 obtain⟨oi,hoi,hci,f9⟩:=id hit
 refine zU (wpAny_attempt (wpAny_callSpecial?_slot hit.typeIs aG
  (wpAny_call_entry aG hit.typeIs Bi ?_ (Bs _))))
 refine zU (zT ?_);refine zU (wpAny_fieldsOf hoi f9 ?_);refine zU (wpAny_setEntries_of ho hd hf ?_);rw[zN (by simp_all)];refine zU (hN ?_);refine zU (wpAny_setField hoi f9 (by simp) ?_);have hoi1:=Zu (Obj.mapFields (·.setIfInBounds 0 (rawInt nx))) hoi (Obj.isFreed_of_fields (Obj.data_mapFields f9 _));have gq:=Obj.data_mapFields f9 (·.setIfInBounds 0 (rawInt nx));refine zU (wpAny_setField hoi1 gq (by simp) ?_);refine zT ⟨_,zJ,zT (hQ _ ?_ ((Heap.SameBut.update ..).trans (Heap.SameBut.update ..)))⟩;exact⟨_,Zu _ hoi1 (Obj.isFreed_of_fields (Obj.data_mapFields gq _)),(Obj.cls_mapFields ..).trans ((Obj.cls_mapFields ..).trans hci),by rw[Obj.data_mapFields gq];rfl⟩
def IF{s}{w}{a}{prog}{I}{slot i n ep:Nat}{o}{ar}{t}(hh:A.handled=none)(hit:eU s.heap I a (.int slot 0) i n ep)(ho:s.heap.get? a=some o)(hd:o.data=.set ar ep t)(hf:t.fits ar.size=true)(hn:ar.size=n)
  (hN:∀{A}{E:VS}{Q},Q none s->wpAny (model prog w) A (setNext a slot i ep) Q E s)
  (hQ:∀h',Heap.ExtBut I s.heap h'->Q none {s with heap:=h'}):wpAny (model prog w) A (pyNext (.ref I)) Q E s:=by
 obtain⟨oi,hoi,hci,f9⟩:=id hit
 refine zU (wpAny_attempt (wpAny_callSpecial?_slot hit.typeIs aG
  (wpAny_call_entry aG hit.typeIs Bi ?_ (Bs _))))
 refine zU (zT ?_);refine zU (wpAny_fieldsOf hoi f9 ?_);refine zU (wpAny_setEntries_of ho hd hf ?_);rw[zN (by simp_all)];refine zU (hN ?_);refine zU (wpAny_setField hoi f9 (by simp) ?_);apply zU;refine zU (wpAny_newObj_type ?_ (by size_fits));refine zU (wpAny_of_eq (by rfl) ?_);refine wpAny_newObj_type ?_ (by size_fits);refine zU (wpAny_handled ?_);rw[show A.in1.handled=none from hh];refine zU (zT (wpAny_throw ?_));refine zU (wpAny_isInstance ⟨_,Zo _ zJ,zJ⟩ isSubtype_stop ?_);exact zT (hQ _ (((Heap.SameBut.update ..).extBut.push _).push _))
def K9{s}{w}{A}{x}{a}{E:VS}{prog}{I}{i n ep}{o}{j}{t}{Q}{T}{q}{tp}{m pl:Nat}{y}(h:eU s.heap I a (.ref T) i n ep)(u:s.heap.get? a=some o)(r:o.data=.set j ep t)(v:t.fits j.size=true)(G:j.size=n)
  (D:s.heap.get? T=some q) (p:q.data=.seq tp m) (C:tp[i]?=some (.int pl 0)) (z:j[pl]?=some (y,x))
  (B:∀h',eU h' I a (.ref T) (i+1) n ep->Heap.SameBut I s.heap h'->Q (some x) {s with heap:=h'}):wpAny (model prog w) A (pyNext (.ref I)) Q E s:=by
 obtain⟨F,e,l,d⟩:=id h
 refine zU (wpAny_attempt (wpAny_callSpecial?_slot h.typeIs aG
  (wpAny_call_entry aG h.typeIs Bi ?_ (Bs _))))
 refine zU (zT ?_);refine zU (wpAny_fieldsOf e d ?_);refine zU (wpAny_setEntries_of u r v ?_);rw[zN (by simp_all)];apply zU;refine zU (wpAny_load D ?_);rw[p];apply zT
 dsimp only
 rw[Int.toNat_natCast,C];refine zU (zU (wpAny_setState_of u r v ?_))
 dsimp only
 rw[zN (by simp),Int.toNat_natCast,z];apply zT;refine zU (wpAny_setField e d (by simp) ?_);refine zT ⟨_,zJ,zT (B _ ?_ (Heap.SameBut.update ..))⟩;exact⟨_,Zu _ e (Obj.isFreed_of_fields (Obj.data_mapFields d _)),(Obj.cls_mapFields ..).trans l,by rw[Obj.data_mapFields d];rfl⟩
def Mh(q:A.handled=none)(h:eU s.heap I a (.ref T) i n ep)(x:s.heap.get? a=some o)(u:o.data=.set l ep t)(z:t.fits l.size=true)(D:l.size=n)
  (B:s.heap.get? T=some p) (j:p.data=.seq tp m) (y:tp[i]?=none)
  (v:∀h',Heap.ExtBut I s.heap h'->Q none {s with heap:=h'}):wpAny (model prog w) A (pyNext (.ref I)) Q E s:=by
 obtain⟨C,e,r,d⟩:=id h
 refine zU (wpAny_attempt (wpAny_callSpecial?_slot h.typeIs aG
  (wpAny_call_entry aG h.typeIs Bi ?_ (Bs _))))
 refine zU (zT ?_);refine zU (wpAny_fieldsOf e d ?_);refine zU (wpAny_setEntries_of x u z ?_);rw[zN (by simp_all)];apply zU;refine zU (wpAny_load B ?_);rw[j];apply zT
 dsimp only
 rw[Int.toNat_natCast,y];refine zU (wpAny_setField e d (by simp) ?_);refine zU (wpAny_setField (Zu (Obj.mapFields (·.setIfInBounds 0 (rawInt 0))) e (Obj.isFreed_of_fields (Obj.data_mapFields d _))) (Obj.data_mapFields d (·.setIfInBounds 0 (rawInt 0))) (by simp) ?_);apply zU;refine zU (wpAny_newObj_type ?_ (by size_fits));refine zU (wpAny_of_eq (by rfl) ?_);refine wpAny_newObj_type ?_ (by size_fits);refine zU (wpAny_handled ?_);rw[show A.in1.handled=none from q];refine zU (zT (wpAny_throw ?_));refine zU (wpAny_isInstance ⟨_,Zo _ zJ,zJ⟩ isSubtype_stop ?_);exact zT (v _ ((((Heap.SameBut.update ..).trans (Heap.SameBut.update ..)).extBut.push _).push _))
end
end
def EC:Slot jd "__iter__" jO:=
 .of (by rfl) (by rfl) (by rfl) (by rfl)
  (by trivial) (by rfl)
def HI:entryFor table jO=some Builtin.«dict_keyiterator.__iter__»:=entryFor_alias (id':="dict_keyiterator.__iter__") qd (by rfl) qb qd
def IL(a):argsOk jO ⟨[a],[]⟩:=by kernel_rfl
def eU.at(x:eU h I a first i n ep)(e:∀o,h.get? I=some o->h'.get? I=some o):eU h' I a first i n ep:=let ⟨o,d,r⟩:=x;⟨o,e _ d,r⟩
section
def OI(d:eU s.heap I a first i n ep)(h:Q (.ref I) s):wpAny (model prog w) A (pyIter (.ref I)) Q E s:=by
 refine wpAny_pyIter_slot d.typeIs EC (wpAny_call_entry EC d.typeIs HI ?_ (IL _));exact zT ⟨_,zJ,jd,_,d.typeIs,aG.lookup,h⟩
def HJ{G:Nat->Value->Prop}{vs:hE}(y:a≠I)(D:T≠I)
  (u:∀i s first,i<n->s.heap.get? a=some o->s.heap.get? T=some H->eU s.heap I a first i n ep->G i first->∀Q(E:VS),(∀d h' v,vs[i]?=some v->eU h' I a d (i+1) n ep->G (i+1) d->Heap.SameBut I s.heap h'->Q (some v) {s with heap:=h'})->wpAny (model prog w) A (pyNext (.ref I)) Q E s)
  (B:∀s first,s.heap.get? a=some o->s.heap.get? T=some H->eU s.heap I a first n n ep->G n first->∀Q(E:VS),(∀h',Heap.ExtBut I s.heap h'->Q none {s with heap:=h'})->wpAny (model prog w) A (pyNext (.ref I)) Q E s):
  WalksS prog w A I [I,a,T] [I] (λa b=>b=a) n (λi v=>vs[i]?=some v) (λi s=>s.heap.get? a=some o/\s.heap.get? T=some H/\∃first,eU s.heap I a first i n ep/\G i first) where
 sub:=λb t=>by simp_all
 grefl:=λ_=>rfl
 gtrans:=λ_ _ _ N L=>L.trans N
 frame:=λi s h' U h _ C=>⟨C a (by simp) _ h.1,C T (by simp) _ h.2.1,let ⟨f,x,g⟩:=h.2.2;⟨f,x.at λo e=>C I (by simp) o e,g⟩⟩
 item:=λi s Q E O h p=>by
  obtain⟨q,r,first,j,g⟩:=h;refine u i s first O q r j g Q E λd h' v M l S F=>?_
  exact p v _ M ⟨(F.2 a y).trans q,(F.2 T D).trans r,d,l,S⟩ ⟨λb J t e=>(F.2 b (λz=>t (by simp[z]))).trans e,zJ,zJ,zJ,zV _⟩
 done:=λs Q E h p=>by
  obtain⟨q,r,first,j,g⟩:=h;exact B s first q r j g Q E λh' R=>p _ ⟨λb J t e=>R b J (λz=>t (by simp[z])) e,zJ,zJ,zJ,zV _⟩
 self:=λi s Q E h p=>let ⟨_,_,f,x,_⟩:=h;OI x p
def OJ(hs:GY xs):SetTable.below xs 0=0:=by
 have B:=GZ hs 0;rcases Nat.eq_zero_or_pos (SetTable.below xs 0)with h|h
 ·exact h
 ·exact absurd (B.lo 0 (Z2 h B.le) h) (by simp)
def OK(hs:GY xs)(d:i<xs.size):SetTable.below xs (xs[i]+1)=i+1:=by
 have B:=GZ hs (xs[i]+1)
 have e:i<SetTable.below xs (xs[i]+1):=by
  rcases Nat.lt_or_ge i (SetTable.below xs (xs[i]+1))with h|h
  ·exact h
  ·exact absurd (B.hi i d h) (by lia)
 have j:SetTable.below xs (xs[i]+1)<=i+1:=by
  rcases Nat.lt_or_ge (i+1) (SetTable.below xs (xs[i]+1))with h|h
  ·have a:=Z2 h B.le;have l:=B.lo (i+1) a h;have o:=hs i (i+1) d a (by simp)
   lia
  ·exact h
 lia
def KQ(l:s.heap.get? a=some o)(d:o.data=.set j ep t)(p:t.fits j.size=true)(hw:w.params.followText jq=true)
  (h:Q ((pickOrder (w.params.setOrder a ep) j)[i]?.map λe=>(e.2,slot)) s):wpAny (model prog w) A (setNext a slot i ep) Q E s:=by
 refine zU (wpAny_setState_of l d p ?_);refine zU (zU (wpAny_askSetting (zT ?_)));show wpAny _ _ (if w.params.followText jq=true then _ else _) _ _ _;rw[zM hw,zN (by simp)];refine zU (zU (wpAny_setState_of l d p ?_));refine zU (zU (wpAny_askSetting (zT ?_)));show wpAny _ _ (if w.params.followText jq=true then _ else _) _ _ _;rw[zM hw];refine zU (wpAny_askSetting (zT ?_));exact zT h
def KR(l:s.heap.get? a=some o)(e:o.data=.set d ep t)(p:t.fits d.size=true)(hw:w.params.followText jq=false)(r:t.led=true)(q:(!t.plain&&decide (d.size>1))=false)
  (h:Q (match d[SetTable.below t.place slot]?,t.place[SetTable.below t.place slot]? with|some (_,x),some j=>some (x,j+1)|_,_=>none) s):wpAny (model prog w) A (setNext a slot i ep) Q E s:=by
 refine zU (wpAny_setState_of l e p ?_);refine zU (zU (wpAny_askSetting (zT ?_)));show wpAny _ _ (if w.params.followText jq=true then _ else _) _ _ _;rw[zN (by simp_all)];show wpAny _ _ (if (!t.plain&&decide (d.size>1))=true then _ else _) _ _ _;rw[zN (by simp_all)];show wpAny _ _ ((if (!t.led && !d.isEmpty)=true then unsupported _ else pure ()) >>= _) _ _ _;rw[zN (by simp_all)];exact zU (zT (zT h))
end
section
def OL{α e:Type}(a:Array α)(f)(z:e){ys:List Nat}(j:ys.Perm (List.range a.size)):(ys.map λi=>(a[i]?.map f).getD z).Perm (a.toList.map f):=by
 refine(j.map _).trans (List.Perm.of_eq ?_);refine List.ext_getElem (by simp) λi h d=>?_;simp at h d;simp[d]
def OM(hx:o.ExactSet)(ho:s.heap.get? a=some o)(hd:o.data=.set ar ep t)(ω:Ga t ar.size)(hl:t.led=K6 w)(hb:ar.size<scanBound)
  (hQ:∀h' d I fp(vs:hE)St,vs.Perm (ar.toList.map (·.2))->(∀A,A.handled=none->WalksS prog w A I fp [I] (λa b=>b=a) ar.size (λi v=>vs[i]?=some v) St)->St 0 {s with heap:=h',drawn:=d} ->
   (∀b o,s.heap.get? b=some o->h'.get? b=some o)->s.heap.objs.size<=I->(∀b∈fp,b=a\/s.heap.objs.size<=b)->Q (.ref I) {s with heap:=h',drawn:=d}):
  wpAny (model prog w) A (pyIter (.ref a)) Q E s:=by
 have hT:s.TypeIs (.ref a) me:=⟨o,ho,hx.1⟩;have aw:=lt_size ho
 have hps:t.place.size=ar.size:=by
  have:=ω.fits;unfold SetTable.fits at this;simp at this;exact this.1
 refine wpAny_pyIter_slot hT slot_set_iter (wpAny_call_entry slot_set_iter hT JD ?_ (args_set_iter_1 _));refine zU (zT ?_);refine zU (zU (wpAny_setEntries_of ho hd ω.fits (zT ?_)));refine zU (zU (wpAny_setState_of ho hd ω.fits ?_));refine zU (zU (wpAny_askSetting (zT (zT ?_))));show wpAny _ _ (if (!w.params.followText jq && (!t.plain&&decide (ar.size>1)))=true then _ else _) _ _ _;cases hw:w.params.followText jq with
 |true=>
  refine zU (zT ?_);refine zU (wpAny_setEpoch_of ho hd ω.fits ?_);refine zU (wpAny_newObj_type (zT ⟨_,zJ,jd,_,⟨_,Zo _ zJ,zJ⟩,aG.lookup,?_⟩));have haI:=zZ aw
  have hsz:(pickOrder (w.params.setOrder a ep) ar).size=ar.size:=by
   have:=(KP (w.params.setOrder a ep) ar).length_eq;simpa using this
  refine hQ _ s.drawn _ [s.heap.objs.size,a,a] ((pickOrder (w.params.setOrder a ep) ar).toList.map (·.2)) _ ((KP _ ar).map _) (λA' hA'=>HJ (G:=λi f=>f=.int 0 0) haI haI ?_ ?_) ⟨Zy _ ho,Zy _ ho,_,⟨_,Zo _ zJ,zJ,zJ⟩,zJ⟩ (λb o e=>Zy _ e) (zV _) ?_
  ·rintro i s1 first hi ha _ hit rfl Q1 E1 h1
   have hg:(pickOrder (w.params.setOrder a ep) ar)[i]?=some (pickOrder (w.params.setOrder a ep) ar)[i]:=Array.getElem?_eq_getElem (by lia);refine Gc (x:=(pickOrder (w.params.setOrder a ep) ar)[i].2) hit ha hd ω.fits zJ (λ{A2 E2 Q2}h2=>KQ ha hd ω.fits hw ?_) (λh' hit' sb=>h1 _ h' _ ?_ hit' zJ sb)
   ·rwa[hg]
   simp_all
  ·rintro s1 first ha _ hit rfl Q1 E1 h1
   have hg:(pickOrder (w.params.setOrder a ep) ar)[ar.size]?=none:=Array.getElem?_eq_none (by lia);refine IF hA' hit ha hd ω.fits zJ (λ{A2 E2 Q2}h2=>KQ ha hd ω.fits hw ?_) h1
   rwa[hg]
  simp_all
 |false=>
  have hled:t.led=true:=by rw[hl];show(!w.params.followText jq)=true;rw[hw];rfl
  cases hp:(!t.plain&&decide (ar.size>1))with
  |false=>
   refine zU (zT ?_);refine zU (wpAny_setEpoch_of ho hd ω.fits ?_);refine zU (wpAny_newObj_type (zT ⟨_,zJ,jd,_,⟨_,Zo _ zJ,zJ⟩,aG.lookup,?_⟩));have haI:=zZ aw;refine hQ _ s.drawn _ [s.heap.objs.size,a,a] (ar.toList.map (·.2)) _ (by simp) (λA' hA'=>HJ (G:=λi f=>∃slot:Nat,f=.int slot 0/\SetTable.below t.place slot=i) haI haI ?_ ?_) ⟨Zy _ ho,Zy _ ho,_,⟨_,Zo _ zJ,zJ,zJ⟩,0,zJ,OJ ω.rise⟩ (λb o e=>Zy _ e) (zV _) ?_
   ·rintro i s1 first hi ha _ hit ⟨slot,rfl,hsl⟩ Q1 E1 h1
    have hg:=Array.getElem?_eq_getElem hi;have fD:i<t.place.size:=by lia
    refine Gc (x:=ar[i].2) hit ha hd ω.fits zJ (λ{A2 E2 Q2}h2=>KR ha hd ω.fits hw hled hp ?_) (λh' hit' sb=>h1 _ h' _ ?_ hit' ⟨_,zJ,OK ω.rise fD⟩ sb)
    ·rwa[hsl,hg,Array.getElem?_eq_getElem fD]
    simp_all
   ·rintro s1 first ha _ hit ⟨slot,rfl,hsl⟩ Q1 E1 h1
    refine IF hA' hit ha hd ω.fits zJ (λ{A2 E2 Q2}h2=>KR ha hd ω.fits hw hled hp ?_) h1
    rwa[hsl,Array.getElem?_eq_none (zV _)]
   simp_all
  |true=>
   refine zU (EB _ _ _ (by simp) λys d bq=>?_);have hyl:ys.length=ar.size:=by rw[bq.length_eq];simp
   have h4:scanBound=4096:=rfl;refine zU (wpAny_newObj_type ?_ (by size_fits));have ho1:(s.heap.push {cls:=.type iF,data:=.seq (ys.map λ(i:Nat)=>rawInt i).toArray}).get? a=some o:=Zy _ ho;refine zU (wpAny_setEpoch_of ho1 hd ω.fits ?_);refine zU (wpAny_newObj_type (zT ⟨_,zJ,jd,_,⟨_,Zo _ zJ,zJ⟩,aG.lookup,?_⟩));have hs1:(s.heap.push {cls:=.type iF,data:=.seq (ys.map λ(i:Nat)=>rawInt i).toArray}).objs.size=s.heap.objs.size+1:=Heap.size_push _ _;have haI:a≠(s.heap.push {cls:=.type iF,data:=.seq (ys.map λ(i:Nat)=>rawInt i).toArray}).objs.size:=by rw[hs1];exact zZ (by lia)
   have hTI:s.heap.objs.size≠(s.heap.push {cls:=.type iF,data:=.seq (ys.map λ(i:Nat)=>rawInt i).toArray}).objs.size:=by rw[hs1];exact zZ (by simp)
   refine hQ _ d _ [(s.heap.push {cls:=.type iF,data:=.seq (ys.map λ(i:Nat)=>rawInt i).toArray}).objs.size,a,s.heap.objs.size] (ys.map λi=>(ar[i]?.map (·.2)).getD .none) _ (OL ar _ _ bq) (λA' hA'=>HJ (G:=λi f=>f=.ref s.heap.objs.size) haI hTI ?_ ?_) ⟨Zy _ ho1,Zy _ (Zo _ zJ),_,⟨_,Zo _ zJ,zJ,zJ⟩,zJ⟩ (λb o e=>Zy _ (Zy _ e)) (by simp) ?_
   ·rintro i s1 first hi ha hT1 hit rfl Q1 E1 h1
    have hyr:ys[i]'(by lia)<ar.size:=by
     have:=bq.mem_iff.mp (List.getElem_mem (n:=i) (by lia));simpa using this
    refine K9 hit ha hd ω.fits zJ hT1 zJ ?_ (Array.getElem?_eq_getElem hyr) (λh' hit' sb=>h1 _ h' _ ?_ hit' zJ sb)
    ·rw[List.getElem?_toArray,z4,Z7 (by lia)];rfl
    simp_all
   ·rintro s1 first ha hT1 hit rfl Q1 E1 h1
    refine Mh hA' hit ha hd ω.fits zJ hT1 zJ ?_ h1
    simp_all
   simp_all
end
def Mi{α o}{F}{q e:List o}(p:e.Perm q):∀{d:List α},Paired F d q->∃a,a.Perm d/\Paired F a e:=by
 induction p with
 |nil=>intro d h;exact⟨d,List.Perm.refl _,h⟩
 |cons x p B=>
  intro d h;cases h with
  |cons r t=>
   obtain⟨a,A,D⟩:=B t;exact⟨_::a,A.cons _,.cons r D⟩
 |swap x y l=>
  intro d h;cases h with
  |cons r t=>
   cases t with
   |cons v t=>exact⟨_::_::_,List.Perm.swap ..,.cons v (.cons r t)⟩
 |trans G H i j=>
  intro d h;obtain⟨E,q2,u⟩:=j h;obtain⟨C,q1,z⟩:=i u;exact⟨C,q1.trans q2,z⟩
def JE:∀{a}{d},Paired (gJ (Ac P w)) a d->Paired (λk v=>RelV (kV k) v) a (d.map (·.2))
 |_,_,.nil=>.nil
 |_,_,.cons r t=>.cons (Dl r.is) (JE t)
section
def UU:typeLookup (.type me) lp=pure (some (.builtin "set.__len__")):=by rfl
def Mj(X:A.handled=none)(T:o.ExactSet)(Y:s.heap.get? a=some o)(hd:o.data=.set D ep t)(ω:Ga t D.size)(hl:t.led=K6 w)(r:D.size<scanBound)
  (hQ:∀C acc,(∀b o,s.heap.get? b=some o->C.heap.get? b=some o)->C.gens=s.gens->C.os=s.os->acc.Perm (D.toList.map (·.2))->Q acc C):
  wpAny (model prog w) A (collect (.ref a)) Q E s:=by
 have L:=lt_size Y;have N:=zZ L
 have hn:D.size<=sizeLine:=by
  have h4:scanBound=4096:=rfl;have:sizeLine=2^24:=rfl
  lia
 refine zU (wpAny_runValue (codeAny_builtin entry_proto_collect ?_));refine zU (wpAny_newObj_type ?_);refine zT ⟨plainId_quiet plain_list_iadd _,codeAny_builtin entry_list_iadd ?_⟩;show wpAny _ A.in1 (Builtin.List.listExtendWith (.ref s.heap.objs.size) (.ref a) (.ref s.heap.objs.size)) _ _ _;have x:(s.heap.push {cls:=.type iB,data:=.seq ([]).toArray}).get? a=some o:=Zy _ Y;refine zU (wpAny_typeOf (⟨o,x,T.1⟩) ?_);have h1:Builtin.List.listSameRef (.ref s.heap.objs.size) (.ref a)=false:=by simp[Builtin.List.listSameRef,Ne.symm N]
 have h2:(Value.type me == Value.type iB)=false:=by decide
 have h3:(Value.type me == Value.type iF)=false:=by decide
 simp[h1,h2,Bool.or_false,if_false];refine zU (OM T x hd ω hl r λJ d I fp U St z W R keep hI hfp=>?_);have y:Shared.TypeIs {s with heap:=J,drawn:=d} (.ref a) me:=⟨o,keep _ _ x,T.1⟩;refine zU (Zl ?_);refine zU (wpAny_specialOf y UU ?_)
 wp_delta
 refine zU (wpAny_isInstance y (by rfl) ?_);refine zU (wpAny_typeOf y ?_);apply zT;have S:(s.heap.push {cls:=.type iB,data:=.seq ([]).toArray}).objs.size=s.heap.objs.size+1:=Heap.size_push _ _
 have G:s.heap.objs.size∉ fp:=λH=>by
  grind
 have Z:=keep _ _ (Zo _ rfl);refine zU (wpAny_rule ?_);apply zU;refine zU (wpAny_updateSeq Z zJ ?_);have l:=Zu (Obj.mapSeq (·.push Value.none)) Z rfl;apply wpAny_updateSeq (hz:=by seq_fits) l rfl;have u:=Zu (Obj.mapSeq (·.pop)) l rfl
 have F:∀b o,b≠s.heap.objs.size->J.get? b=some o->((J.update s.heap.objs.size (Obj.mapSeq (·.push Value.none))).update s.heap.objs.size (Obj.mapSeq (·.pop))).get? b=some o:=
  λb o r e=>(Zx _ _ (Ne.symm r)).trans ((Zx _ _ (Ne.symm r)).trans e)
 refine zT ⟨plainId_quiet plain_extend_loop _,codeAny_extend_loopS (W A.in1 X) hn _ G _ D.size 0 _ _ _ zJ (Nat.zero_le _) ((W A.in1 X).frame 0 {s with heap:=J,drawn:=d} _ s.toks R (zV _) λb r o e=>F b o (λh=>G (h ▸ r)) e) u (ItemsOf.nil _) λC j c' H M p=>?_⟩;refine zU (wpAny_load M ?_);refine zT (hQ C j.toList (λb ob e=>H.heap b ob (λr=>?_) (F _ _ (zZ (lt_size e)) (keep _ _ (Zy _ e)))) H.gens H.os ?_)
 ·have B:=lt_size e;rcases mem_cons.mp r with h|h
  ·exact absurd B (h ▸ z5 _)
  ·rw[z6.mp h]at B;have O:s.heap.objs.size+1<=I:=by rwa[←S]
   exact absurd (Z2 B (Nat.le_of_succ_le O)) (z5 _)
 ·have e:j.toList=U:=by
   refine List.ext_getElem? λi=>?_;rw[Array.getElem?_toList];cases q:j[i]? with
   |none=>
    have hv:U.length=D.size:=by rw[z.length_eq];simp
    rw[Array.getElem?_eq_none_iff,p.1]at q;rw[List.getElem?_eq_none (by lia)]
   |some v=>exact(p.2 i v q).symm
  rwa[e]
end
section
def Inv.went(I:Inv X aa σ H s)(k:∀b u,s.heap.get? b=some u->s'.heap.get? b=some u)(e:s'.gens=s.gens)(d:s'.os=s.os):Inv X aa σ H s':=by
 have a:=I.kept (t':=s'.toks) k;exact⟨a.ok,d.trans I.os,e ▸ I.bare,a.base,a.loc,a.cell,a.free,a.cc,a.pin,a.aI,a.len⟩
end
def PL(e:∀o,h.get? a=some o->h'.get? a=some o)(x:cJ (Ac P w) h a ks led):cJ (Ac P w) h' a ks led:=
 let ⟨o,i,ep,t,d,q,r⟩:=x;⟨o,i,ep,t,d,e _ q,r⟩
def UV(acc)(k):acc.length<=(K7 acc k).length:=by
 unfold K7;split
 ·exact zV _
 ·exact Nat.le_succ _
section
def EE{iter}
    (h0:codeAny (model prog w) A (.compLoop (.SetComp elt (⟨target,iter,ifs,0⟩::rest) scope pos) 0 it acc env) R s)
    (h:wpAny (model prog w) A (pyIter it) (λit' s'=>codeAny (model prog w) A (.compLoop (.SetComp elt (⟨target,iter,ifs,0⟩::rest) scope pos) 0 it' acc env) R s')
      (notedBy (model prog w) A env λx s'=>R (.error x) s') s):
    codeAny (model prog w) A (.compStart (.SetComp elt (⟨target,iter,ifs,0⟩::rest) scope pos) 0 it acc env) R s:=by
  refine codeAny_of_tree ?_;show wpAny _ A ((compStart (.SetComp elt (⟨target,iter,ifs,0⟩::rest) scope pos) 0 it acc env).onRaise (λx=>do noteFrame x env;standAt theWindowsPlace)) _ _ s;refine wpAny_notedAt ?_;unfold compStart;show wpAny _ A (ask >>= _) _ _ s;refine zU (wpAny_askSetting (wpAny_ite ?_));split
  · first
      |exact zU (zT (zT (And.intro rfl h0)))
      |exact zT (And.intro rfl h0)
  · first
      |exact zU (wpAny_rule (zU (z9 (zU (zS h (λit' s' h'=>zT (And.intro rfl h')) λ_ _ x=>x)))))
      | (refine zU (wpAny_rule ?_);show wpAny _ _ (standAt iter.pos >>= _) _ _ s;exact zU (z9 (zU (zS h (λit' s' h'=>zT (And.intro rfl h')) λ_ _ x=>x))))
def Ml(d:(Ac prog w).is k x=true)(i:cJ (Ac prog w) s.heap a ks led)(y:ks.length+1<scanBound)
  (j:k∈ks->Q .none {s with toks:=s.toks+1}) (v:k∉ ks->∀h',Heap.SameBut a s.heap h'->cJ (Ac prog w) h' a (k::ks) led->Q .none {s with heap:=h',toks:=s.toks+1}):
  wpAny (model prog w) A (call (.builtin "set.add") [.ref a,x]) Q E s:=by
 have u:s.TypeIs (.ref a) me:=by
  obtain⟨o,z,ep,t,l,e,p,_⟩:=id i;exact⟨o,e,p.1⟩
 refine wpAny_call_entry slot_set_add u entry_set_add ?_ (args_set_add_2 _ _);unfold Builtin.«set.add» Builtin.Frozenset.oneOther;simp only[List.isEmpty_nil,bind_assoc];unfold Builtin.Frozenset.addrOf setAdd;refine zU (zT ?_)
 try dsimp only
 refine zU (zT ?_)
 try dsimp only
 refine zU ?_;refine Zl (zU ((Ac prog w).pyHash d ?_));refine Y8 d (SL d) i y (λh=>?_) (λh h' r q=>?_)
 ·exact zT ⟨_,zJ,j h⟩
 ·exact zT ⟨_,zJ,v h h' r q⟩
end
abbrev Xi(elt:Expr)(D:hO)(env:Env):Sem Unit:=do
 let v ←eval elt env
 standAt elt.pos
 let _ ←call (.builtin "set.add") [.ref D,v]
abbrev LA{β:Type}(ys:List β):Prop:=ys.length<=1000
abbrev taS(te:TE):TAd (List Key):=λys σ H N=>te σ H λy H'=>∃k,y=kV k/\N (K7 ys k) H'
abbrev WB(wi:TI)(g:TG)(tt:TT)(te:TE):=HE [] LA wi g tt (taS te)
abbrev RAs(P:Program)(w:World)(h:Heap)(D:hO)(ys:List Key):Prop:=cJ (Ac P w) h D ys (K6 w)
section
def SM{i}:QD P w (.SetComp elt [⟨tg,i,ifs,0⟩] scope pos) (newSet (.type me)) tg i ifs (Xi elt) [] LA (Qd P w) (RAs P w) where
 cl:=rfl
 new:=by
  refine⟨{cls:=.type me,data:=.set #[] 0 (SetTable.fresh 0 0 (K6 w))},rfl,(λv z=>nomatch z),λh D e=>Qe e,λA Q E s h=>?_⟩;unfold newSet setsByText;refine zU (zU (wpAny_askSetting (zT ?_)));exact wpAny_newObj_type h
 turn:=λA p D j=>⟨rfl,rfl⟩
 start:=λA R s p D j o l=>EE o l
 at_:=λh t D a d q=>PL q d
 fin:=λH h D a r u d=>V9 d
def UW(he:PE X elt te):PAd X (Xi elt) LA (RAs X.prog X.w) (taS te):=by
 intro D S d G s U H N I a Z O q;refine zU (aL (he _ s U H _ I q) λy x v=>?_);obtain⟨z,J,u,R,h,Q,i⟩:=v;subst Q;refine zU (z9 ?_);have hz:(K7 d h).length<=1000:=O _ _ i
 have E:d.length+1<scanBound:=by
  have h1:=UV d h;have:(4096:Nat)=scanBound:=rfl
  lia
 have F:RAs X.prog X.w x.heap D d:=PL (λo e=>by rw[I.dZ.1]at e;cases e;exact u.dZ.1) Z;refine zU (Ml (EQ R) F E (λp=>?_) (λp h2 C j=>?_))
 ·have A:K7 d h=d:=by unfold K7;rw[zM p]
  rw[A]at i;exact zT ⟨S,d,J,u.tok (x.toks+1),F,i⟩
 ·have A:K7 d h=h::d:=by unfold K7;rw[zN p]
  rw[A]at i;obtain⟨l,Y,M,t2,L,q,T,r,B⟩:=id j;exact zT ⟨l,_,J,u.reD (t:=x.toks+1) a (λb E=>C.2 b E) q (λv z=>by rw[r]at z;cases z),j,i⟩
def Qf{a}(h)(d)(t:Hz X.env.scope scope X.N (x::h) (none::d)=true)(j:(x::h).Nodup)(l:scope.names.lookup x=some .local)(v:X.calm=true)(r:PI X (.Name x o) a u)
  (ht:∀cl s H C fp e,gg (Bj X (x::h) scope cl s H C fp e) ifs tt) (q:∀cl s H C fp e,PE (Bj X (x::h) scope cl s H C fp e) elt te)
  (hs:∀x,foldedSetIterable a X.env x=pure x:=by intro _;rfl):
  PE X (.SetComp elt [⟨.Name x o,a,ifs,0⟩] scope pos) (λσ H Q=>WB u (Ct 0) tt te (none::d) (λys H'=>∀p,H' p=none->Q (.ref p) (upd H' p (Qd X.prog X.w p ys))) σ H):=
 GC SM DW (aZ.of t) (λ_ _ _ _ _ _=>v) r.g (λcl s H C fp e=>F9 (AU (i:=0) j rfl (.inl (Z5 l)) (.inr (Z5 l)))) ht (λ_ _ _ _ _ _ _=>UW (q _ _ _ _ _ _)) hs rfl
end
def JF:∀{a},Vals (d.map V.str) a->StrsAre a d:=by
 induction d with
 |nil=>intro a r;cases r;exact .nil
 |cons x d e=>
  intro a r;cases r with
  |cons h t=>
   obtain⟨i,rfl⟩:=(h);exact .cons x i (e t)
def FX:∀{vs}{a},StrsAre vs a->Vals (a.map V.str) vs
 |_,_,.nil=>.nil
 |_,_,.cons x t h=>.cons ⟨t,rfl⟩ (FX h)
section
def LB(hc:X.calm=true):aT X (.builtin ll) (λxs H Q=>∃(a:hO)(j:hA),xs=[.ref a]/\H a=some (Qd X.prog X.w a (j.map Sum.inr))/\j.length<64 /\
  ∀l J,H l=none->J.Perm j->sortedS J=true->Q (.ref l) (upd H l (.lst (J.map V.str)))):=by
 rintro Y s σ H xs us Q I r ⟨a,j,rfl,hS,h64,q⟩;obtain⟨u,rfl,ru⟩:=BY r;cases ru;obtain⟨o,ar,ep,t,ks',ho,hx,hd,ω,hl,hp,E,hb⟩:=WA I.aI hS;apply Calls.call_function_entry kind_sorted plain_sorted entry_sorted (args_sorted1 _);refine zU (zT ?_);refine zU (Mj (I.ok.hd hc) hx ho hd ω hl hb λF acc keep hg G z=>?_);obtain⟨D,p2,h2⟩:=Mi z (JE E)
 obtain⟨C,e2⟩:∃C:hA,D=C.map Sum.inr:=by
  refine⟨D.map λk=>match k with|Sum.inl i=>"" |Sum.inr x=>x,?_⟩;rw[map_map];refine(List.map_id D).symm.trans (List.map_congr_left λk hk=>?_)
  grind
 subst e2
 have A:C.Perm j:=by
  have:=(p2.trans hp).map (λk=>match k with|Sum.inl i=>("":Str)|Sum.inr x=>x);simpa[Function.comp_def]using this
 have d:StrsAre acc C:=by
  refine JF (?_)
  have:∀{j:hA}{B:hE},Paired (λk v=>RelV (kV k) v) (j.map Sum.inr) B->Vals (j.map V.str) B:=by
   intro j;induction j with
   |nil=>intro B h;cases h;exact .nil
   |cons x r ih=>intro B h;cases h with|cons r t=>exact .cons r (ih t)
  exact this h2
 have aw:acc.length=j.length:=by
  rw[←A.length_eq,←d.strs,AQ]
 have hz:acc.length<=sizeLine:=by
  have:sizeLine=2^24:=rfl
  lia
 refine zU (wpAny_newList ?_ hz);have T:=I.went keep hg G;have p:(F.heap.push {cls:=.type iB,data:=.seq acc.toArray}).get? F.heap.objs.size=some (seqObj iB acc.toArray 0):=Zo _ rfl;refine zU (Zl (wpAny_call_entry slot_list_sort ⟨_,p,zJ⟩ entry_list_sort (list_sort_treeK strKind_oneLt p d.keysOf (λS Z O e=>keyKind_strs (by rwa[←e])) (by lia) λN L M=>⟨_,zJ,?_⟩) (args_list_sort _)));refine zT ⟨_,zJ,?_⟩;obtain⟨y,a1,R,a3⟩:=sorted_out_str d L M;have U:y.length=acc.length:=by rw[R.length_eq,←d.strs,AQ]
 refine⟨.ref F.heap.objs.size,_,T.laid (o:=.lst (y.map V.str)) (λb o e=>?_) (zV _) ⟨by simp_all,((arrOf N).map (·.2)).toList,?_⟩,zJ,q _ y (T.aI.fresh (zV _)) (R.trans A) a3⟩
 ·rw[sortedHeap_old (zZ (lt_size e)) (lt_size (Zy _ e))];exact Zy _ e
 ·obtain⟨c,hcx⟩:=sortedHeap_at p;exact⟨c,FX a1,qe⟩
end
section
def FD(hc:X.calm=true):aT X (.builtin ll) (λxs H Q=>∃(a:hO)(kvs:LK)(h:hA),xs=[.ref a]/\Rd H a (.dK kvs)/\kvs.map (·.1)=h.map Sum.inr/\h.length<64 /\
  ∀l L,H l=none->L.Perm h->sortedS L=true->Q (.ref l) (upd H l (.lst (L.map V.str)))):=by
 rintro D s σ H xs us Q I r ⟨a,kvs,h,rfl,hd,hk,h64,q⟩;obtain⟨u,rfl,ru⟩:=BY r;cases ru
 have E:kvs.length=h.length:=by
  have:=congrArg List.length hk
  rwa[AQ,AQ]at this
 obtain⟨z,y,vs,B,dd⟩:=CZ I.aI hd;obtain⟨ep,da⟩:=dd.dictAt;have hl:=B.length;apply Calls.call_function_entry kind_sorted plain_sorted entry_sorted (args_sorted1 _);refine zU (zT ?_);refine zU (W.kdu_collect (W.kdl_dict y) (I.ok.hd hc) da (by lia) λF tk acc keep C=>?_)
 have J:acc.toList.length=h.length:=by
  have e0:acc.toList.length=acc.size:=by simp
  rw[e0,C.1,←hl,E]
 refine zU (wpAny_newList ?_ (by rwa[J,←E]))
 have d:StrsAre acc.toList h:=by
  refine JF (CI (by simp_all) λj v w' G Z=>?_);rw[Array.getElem?_toList]at Z;obtain⟨k,x,ex,A⟩:=C.2 j w' Z;rw[z4]at G;cases Y:kvs[j]? with
  |none=>
   exfalso
   simp_all
  |some kv=>
   have U:(h.map Sum.inr)[j]?=some kv.1:=by rw[←hk,z4,Y];rfl
   rw[z4]at U;obtain⟨x',N,O⟩:=Z6.mp U;rw[N]at G;simp at G;obtain⟨v2,t,_⟩:=KV.get B Y;rw[ex]at t;simp at t;rw[t.1,←O]at A;rw[←G];exact Dl A
 have I1:Inv X D σ H {s with heap:=F,toks:=tk}:=I.kept keep;have i:(F.push {cls:=.type iB,data:=.seq acc.toList.toArray}).get? F.objs.size=some (seqObj iB acc.toList.toArray 0):=Zo _ rfl;refine zU (Zl (wpAny_call_entry slot_list_sort ⟨_,i,zJ⟩ entry_list_sort (list_sort_treeK strKind_oneLt i d.keysOf (λv₁ v₂ T e=>keyKind_strs (by rwa[←e])) (by lia) λS M R=>⟨_,zJ,?_⟩) (args_list_sort _)));refine zT ⟨_,zJ,?_⟩;obtain⟨p,a1,a2,a3⟩:=sorted_out_str d M R;have bg:p.length=acc.toList.length:=by rw[a2.length_eq,←d.strs,AQ]
 refine⟨.ref F.objs.size,_,I1.laid (o:=.lst (p.map V.str)) (λb o e=>?_) (zV _) ⟨by simp_all,((arrOf S).map (·.2)).toList,?_⟩,zJ,q _ p (I1.aI.fresh (zV _)) a2 a3⟩
 ·rw[sortedHeap_old (zZ (lt_size e)) (lt_size (Zy _ e))];exact Zy _ e
 ·obtain⟨c,hcx⟩:=sortedHeap_at i;exact⟨c,FX a1,qe⟩
end
end L2
end
section
namespace MK
open PySem
def Cl(a b:Nat):Builtin.bitAnd (a) (b)=((a&&&b:Nat):Int):=by
 rfl
def Cf(a b:Nat):Builtin.bitOr (a) (b)=((a|||b:Nat):Int):=by
 have d:¬ 0<=Builtin.bitNot a:=by unfold Builtin.bitNot;lia
 have h:¬ 0<=Builtin.bitNot b:=by unfold Builtin.bitNot;lia
 unfold Builtin.bitOr;rw[PyProof.Rows.bitAnd_nn d h];have e:∀n:Nat,(Builtin.bitNot (Builtin.bitNot n)).toNat=n:=λn=>by unfold Builtin.bitNot;lia
 rw[e a,e b];unfold Builtin.bitNot;lia
def Do(a b:Nat):Builtin.bitAnd (a) (Builtin.bitNot (b))=((a-(a&&&b):Nat):Int):=by
 rw[PyProof.Rows.bitAnd_not,Cl];have:a&&&b<=a:=Nat.and_le_left
 lia
noncomputable def Aj(l:List Nat):Nat:=l.foldl (· ||| ·) 0
def Gd(k):∀(l:List Nat)a,(l.foldl (· ||| ·) a).testBit k=(a.testBit k||l.any (·.testBit k))
 | [],a=>by simp
 |x::r,a=>by rw[foldl_cons,Gd k r,Nat.testBit_or,any_cons,Bool.or_assoc]
def Co(l)(k):(Aj l).testBit k=l.any (·.testBit k):=by
 unfold Aj;rw[Gd];simp
def EU{l}{m}(h:∀n∈l,n<2^m):Aj l<2^m:=by
 have:∀(l:List Nat)a,a<2^m->(∀n∈l,n<2^m)->l.foldl (· ||| ·) a<2^m:=by
  intro l;induction l with
  |nil=>intro a d _;exact d
  |cons x r i=>intro a d e;exact i _ (Nat.or_lt_two_pow d (e x z8)) λn j=>e n (by grind)
 exact this l 0 (by grind) h
def FY(l)(n):Aj (l++[n])=Aj l|||n:=by unfold Aj;simp_all
noncomputable def Cg(n:Nat):Bool:=decide (0<n)&&decide (n&&&(n-1)=0)
def ON(k):Cg (2^k)=true:=by
 unfold Cg
 have a:2^k&&&(2^k-1)=0:=by
  apply Nat.eq_of_testBit_eq;intro i;by_cases e:k=i
  ·subst e;simp
  ·simp
 simp[Nat.two_pow_pos k]
def DJ(h:Cg n=true):∃k,n=2^k:=by
 unfold Cg at h;simp at h;obtain⟨o,i⟩:=h;refine⟨n.log2,?_⟩;have d:2^n.log2<=n:=Nat.log2_self_le (by lia);have a:n<2^(n.log2+1):=Nat.lt_log2_self;rcases Nat.eq_or_lt_of_le d with e|j
 ·exact e.symm
 ·exfalso
  have b1:n.testBit n.log2=true:=by
   rw[Nat.testBit_eq_decide_div_mod_eq];simp
   have:n/2^n.log2=1:=by
    apply Nat.div_eq_of_lt_le<;>(try rw[Nat.pow_succ]at a)<;>lia
   rw[this]
  have l:(n-1).testBit n.log2=true:=by
   rw[Nat.testBit_eq_decide_div_mod_eq];simp
   have:(n-1)/2^n.log2=1:=by
    apply Nat.div_eq_of_lt_le<;>(try rw[Nat.pow_succ]at a)<;>lia
   rw[this]
  have:(n&&&(n-1)).testBit n.log2=true:=by rw[Nat.testBit_and,b1,l];rfl
  rw[i,Nat.zero_testBit]at this;cases this
noncomputable def FZ(n:Nat):List Nat:=(List.range 42).filter λk=>n.testBit k
def JG{α:Type}[DecidableEq α]{p}:∀{l:List α}{a},l.Nodup->a∈l->(∀b∈l,p b=true ↔ b=a)->l.filter p=[a]
 | [],_,_,h,_=>by cases h
 |b::r,a,hn,ha,hp=>by
  obtain⟨j,i⟩:=zP.mp hn;by_cases e:b=a
  ·subst e;have d:=(hp b z8).mpr rfl;rw[filter_cons,zM d];congr 1;apply List.filter_eq_nil_iff.mpr
   grind
  ·rw[filter_cons,zN (λz=>e ((hp b z8).mp z))];rcases mem_cons.mp ha with z|z
   ·exact absurd z.symm e
   ·exact JG i z λc o=>hp c (by grind)
def Jo{n}(j:n<2^42):decide ((FZ n).length=1)=Cg n:=by
 rw[Bool.eq_iff_iff,decide_eq_true_eq];constructor
 ·intro h;obtain⟨k,a⟩:∃k,FZ n=[k]:=List.length_eq_one_iff.mp h
  have l:∀i,i<42->(n.testBit i=true ↔ i=k):=λi o=>by
   have:i∈FZ n ↔ i=k:=by rw[a];simp
   unfold FZ at this;constructor
   ·simp_all
   grind
  have d:k<42:=by
   have:k∈FZ n:=by rw[a];simp
   exact mem_range.mp (mem_filter.mp this).1
  have e:n=2^k:=by
   apply Nat.eq_of_testBit_eq;intro i;by_cases o:i<42
   ·grind
   ·have p:n.testBit i=false:=Nat.testBit_lt_two_pow (Z2 j (Nat.pow_le_pow_right qc (by lia)))
    symm;grind
  rw[e];exact ON k
 ·intro h;obtain⟨k,rfl⟩:=DJ h
  have:FZ (2^k)=[k]:=by
   refine JG List.nodup_range (mem_range.mpr ((Nat.pow_lt_pow_iff_right qc).mp j)) λb _=>?_;rw[Nat.testBit_two_pow,decide_eq_true_eq];exact eq_comm
  rw[this];rfl
noncomputable def Bz(m:Nat):Nat:=2^(Builtin.Int.intBits (m:Int))
def EV{m:Nat}(h:0<m):Builtin.Int.intBits (m)=m.log2+1:=by
 unfold Builtin.Int.intBits
 grind
def Mm(d:m<2^k)(a:k=0\/2^(k-1)<=m):2^k=Bz m:=by
 congr 1;rcases Nat.eq_zero_or_pos m with e|h
 ·subst e
  have:k=0:=by
   rcases a with z|z
   ·exact z
   ·simp_all
  rw[this];rfl
 ·rw[EV h];rcases a with z|z
  ·simp_all
  ·have i:0<k:=by rcases Nat.eq_zero_or_pos k with e|e
                  ·simp_all
                  ·exact e
   have e:m.log2=k-1:=by
    apply Nat.le_antisymm
    ·have:=(Nat.log2_lt (by lia)).mpr d
     lia
    ·exact(Nat.le_log2 (by lia)).mpr z
   lia
def SN:∀{l:List Nat}{a},(∀n∈l,Cg n=true)->l.Pairwise (· < ·)->(∀n∈l,a&&&n=0)->a+l.sum=l.foldl (· ||| ·) a
 | [],a,_,_,_=>by simp
 |n::r,a,hm,hp,ha=>by
  obtain⟨q,o⟩:=pairwise_cons.mp hp;have p:=ha n z8
  have e:a|||n=a+n:=by
   have h:=PyProof.Rows.bitOr_and a n;rw[Cf,Cl]at h
   lia
  rw[sum_cons,foldl_cons,←SN (λm d=>hm m (by grind)) o (λm d=>?_)]
  ·lia
  ·obtain⟨i,rfl⟩:=DJ (hm n z8);obtain⟨j,rfl⟩:=DJ (hm m (by grind));apply Nat.eq_of_testBit_eq
   grind
def Qg(d:∀n∈l,Cg n=true)(e:l.Pairwise (· < ·)):l.sum=Aj l:=by
 have:=SN (a:=0) d e (λn _=>by simp);unfold Aj
 lia
end MK
end
end
section
namespace Mk
open PySem L2 MK
noncomputable def top(i:Nat):Stmt:=PySem.Challenge.pw_markworks_k70_whole_books.main.body.getD i (.Pass ⟨0,0,0,0⟩)
abbrev BI:Stmt:=inClass (top 2) 0
abbrev Dp:Stmt:=inClass (top 7) 0
abbrev Dr:Stmt:=inClass (top 9) 0
abbrev Ge:Stmt:=top 19
abbrev LC:Stmt:=top 20
abbrev JH:Stmt:=top 22
abbrev JI:Stmt:=top 23
abbrev HK:Stmt:=top 25
abbrev Fa:Stmt:=top 26
abbrev Ds:Stmt:=top 27
abbrev Fb:Stmt:=top 28
abbrev HL:Stmt:=top 29
abbrev EW:Stmt:=top 30
abbrev BX:Stmt:=inClass (top 31) 0
abbrev HM:Stmt:=inClass (top 31) 1
abbrev Cb:Stmt:=inClass (top 31) 2
abbrev Fc:Stmt:=inClass (top 31) 6
abbrev HN:Stmt:=inClass (top 31) 7
abbrev LF:Stmt:=inClass (top 31) 8
abbrev Ew:Stmt:=top 34
abbrev LG:Stmt:=top 35
abbrev Fd:Stmt:=inClass (top 36) 0
abbrev Dt:Stmt:=inClass (top 36) 1
abbrev Fe:Stmt:=inClass (top 36) 2
abbrev PM:Stmt:=top 37
abbrev JJ:Stmt:=top 38
abbrev HQ:Stmt:=top 39
abbrev OO:Stmt:=top 40
abbrev JK:Stmt:=top 41
abbrev LH:Stmt:=top 42
abbrev HR:Stmt:=top 47
abbrev Ff:Stmt:=top 48
abbrev LI:Stmt:=top 49
abbrev JL:Stmt:=top 50
abbrev Du:Stmt:=inClass (top 51) 0
abbrev CL:Stmt:=inClass (top 51) 1
abbrev CM:Stmt:=inClass (top 51) 2
abbrev B0:Stmt:=inClass (top 51) 3
abbrev Bm:Stmt:=inClass (top 51) 4
abbrev B2:Stmt:=inClass (top 51) 5
abbrev C2:Stmt:=inClass (top 51) 6
abbrev Dv:Stmt:=inClass (top 51) 7
abbrev Cc:Stmt:=top 52
abbrev Fg:Stmt:=top 53
abbrev LJ:Stmt:=top 54
abbrev DB:Stmt:=top 55
abbrev Ex:Stmt:=top 56
abbrev JM:Stmt:=top 58
abbrev DZ:Stmt:=top 59
abbrev EY:Stmt:=top 62
abbrev EZ:Stmt:=top 63
abbrev HS:Stmt:=inClass (top 65) 0
abbrev Fh:Stmt:=inClass (top 65) 1
abbrev HU:Stmt:=inClass (top 65) 2
abbrev JN:Stmt:=inClass (top 65) 3
abbrev HV:Stmt:=inClass (top 65) 4
abbrev Ea:Stmt:=inClass (top 65) 5
abbrev HW:Stmt:=inClass (top 65) 6
abbrev HX:Stmt:=inClass (top 65) 7
abbrev Eb:Stmt:=inClass (top 65) 8
abbrev DK:Stmt:=inClass (top 65) 9
abbrev Fi:Stmt:=inClass (top 65) 10
abbrev Dw:Stmt:=inClass (top 65) 11
abbrev Fj:Stmt:=inClass (top 65) 13
abbrev JO:Stmt:=inClass (top 65) 17
abbrev JP:Stmt:=top 67
abbrev HY:Stmt:=top 68
abbrev Gf:Stmt:=top 69
abbrev Fk:Stmt:=top 70
abbrev Ec:Stmt:=top 71
abbrev A7:Stmt:=top 72
abbrev Fl:Stmt:=top 73
abbrev Fp:Stmt:=top 74
abbrev CN:Stmt:=top 75
abbrev Ed:Stmt:=top 76
abbrev JQ:Stmt:=top 77
abbrev Gg:Stmt:=top 78
abbrev DD:Stmt:=top 79
abbrev Gh:Stmt:=top 80
abbrev Ee:Stmt:=top 81
abbrev HZ:Stmt:=top 82
abbrev Dx:Stmt:=top 83
abbrev JR:Stmt:=top 84
abbrev Fq:Stmt:=top 85
abbrev C3:Stmt:=top 86
abbrev BL:Stmt:=top 87
abbrev OP:Stmt:=top 88
structure Fn(P:Program)(w:World)(K:FG)(mg:SV)(base:Heap)(x:Str)(k:Nat)(ps:hA)(sp:Sp):Prop where
 ex:∃f fd,aE P w K mg base aS k f fd ps sp/\mg x=some (.ref f)/\W.keepIn K (.ref f)=true/\Binds K fd ps []
structure Bl(mg:SV):Prop where
 len:mg "len"=none
 c9:mg iG=none
 max:mg lZ=none
 min:mg "min"=none
 range:mg jY=none
 list:mg iB=none
 tuple:mg iF=none
 sorted:mg ll=none
 sum:mg "sum"=none
 all:mg "all"=none
 enum:mg jJ=none
 int:mg lM=none
 bool:mg "bool"=none
 str:mg md=none
noncomputable def A0(ns:List Nat):hK:=ns.map λ(n:Nat)=>V.int (n:Int)
section
inductive spUnionOf(K:FG)(vs:hK)(H:Hp)(Q:VK)(_E:XK):Prop
 |mk (a) (ns) (aW:vs=[.ref a]) (aX:aH K H a (A0 ns)) (bz:Q (.int (Aj ns:Nat)) H)
def scUnionOf:AH [iC,i7,il] [iC] (defScope JH):=bA
def PN{a}{i:Nat}{x}(h:(A0 a)[i]?=some x):∃n,a[i]?=some n/\x=V.int (n:Int):=by
 unfold A0 at h;rw[z4]at h;cases e:a[i]? with
 |none=>rw[e]at h;cases h
 |some n=>rw[e]at h;exact⟨n,zJ,(Option.some.inj h).symm⟩
def OQ(F:aN ω ko ko JH f fd):aE P w ω mg base aS 1 f fd [iC] (spUnionOf ω):=by
 refine F.m scUnionOf λu H Q E h=>?_;obtain⟨a,d,rfl,p,k⟩:=h;refine⟨zJ,λq A o s y=>?_⟩
 refine⟨_,AC (Ab (i:=1) scUnionOf.nd zJ (Or.inl zJ) AF)
  (AC (Bw PassesOwn.never rfl (Bh (pv 0)) (AU (i:=2) scUnionOf.nd rfl (Or.inl rfl))
   (AB (Na (i:=1) scUnionOf.nd rfl (Or.inl rfl) (pv 2) Vl)))
  (AB (AI (pv 1)))),?_⟩
 refine⟨_,zJ,a,zJ,⟨_,p⟩,DS (λi j l=>∃v,j=[some (.ref a),some (.int (Aj (d.take i))),v]/\l=H) ⟨none,zJ,zJ⟩ (λi j l _ z=>by obtain⟨_,_,e⟩:=z;exact e ▸ p) ?_ ?_⟩
 ·rintro i x j l r ⟨v,rfl,rfl⟩;obtain⟨n,t,rfl⟩:=PN r;refine⟨_,zJ,_,zJ,_,_,zJ,zJ,?_⟩;refine⟨some (V.int n),?_,zJ⟩;rw[z0,t,Option.toList_some,FY];show [some (V.ref a),some (V.int (Builtin.bitOr (Aj (d.take i)) n)),some (V.int n)]=_;rw[Cf]
 ·rintro j l ⟨v,rfl,rfl⟩;refine⟨_,zJ,?_⟩;have e:(A0 d).length=d.length:=by unfold A0;rw[AQ]
  rwa[e,zY]
end
end Mk
end
section
namespace L2
open PySem
def Gi{x}{g}{tt}{te}{h}{R}{σ}{j}(a:Nat->hK->Hp->Prop)(o:a 0 [] j)(hz:∀i ys H,a i ys H->ys.length<=1000)
  (hs:∀i c ys H,x.cps[i]?=some c->a i ys H->bT g tt (fx te) h σ (.str ⟨#[c]⟩) ys (a (i+1)) H) (l:∀ys H,a x.cps.size ys H->R ys H):tW (Its x) [] fy (bT g tt (fx te) h σ) R j:=
 DV (n:=x.cps.size) a o (λi ys H q=>KB (hz i ys H q)) (λi ys H e d=>⟨e,by rintro v p ⟨rfl,c,r,rfl⟩;exact hs i c ys p r d⟩) λys H d=>⟨zV _,l ys H d⟩
end L2
namespace Mk
open PySem L2 MK
def He:bootBuiltins "all"=some (.builtin "all"):=by rfl
def Ef:bootBuiltins iG=some (.builtin iG):=by rfl
def Ey:bootBuiltins ll=some (.builtin ll):=by rfl
def SQ:bootBuiltins "sum"=some (.builtin "sum"):=by rfl
def WC:bootBuiltins "min"=some (.builtin "min"):=by rfl
def WD:bootBuiltins lZ=some (.builtin lZ):=by rfl
def Ft:bootBuiltins md=some (.type md):=by rfl
def Hg:bootBuiltins lM=some (.type lM):=by rfl
def UX:bootBuiltins "bool"=some (.type "bool"):=by rfl
def C4:bootBuiltins iF=some (.type iF):=by rfl
def Ez:bootBuiltins iB=some (.type iB):=by rfl
def AE(s:aB H H1)(d:H1 p=none):aB H (upd H1 p o):=λb u e=>by
 have a:=s b u e
 rwa[AD (AJ a d)]
noncomputable def DL(c:Nat):Bool:=decide (65<=c)&&decide (c<=90)
def B3(x:Str):Bool:=(decide (1<=x.length)&&decide (x.length<=6))&&x.cps.toList.all DL
section
def Bt(ω)(q:X.K=ω)(o:Gl X iG)(u:X.mg iG=none)(h:Gl X x)(d:X.mg x=none)(j:bootBuiltins x=some (.type T))(r:PE X e te)
  (y:x≠ iQ:=by decide) (a:dr x:=by decide)
  (hs:starEach [e,.Name x p2] X.env=(false,eval e X.env)::starEach [.Name x p2] X.env:=by rfl) (l:(backTo pos (starEach [.Name x p2] X.env)).any (·.1)=false:=by rfl) (i:starEach [.Name x p2] X.env=(false,eval (.Name x p2) X.env)::starEach [] X.env:=by rfl):
  PE X (.Call (.Name iG p) [e,.Name x p2] [] pos) (tCB (λxs H Q=>∃v T t b,xs=[v,.ty T]/\cF ω H v t/\W.kitOne ω t (.type T)=some b/\Q (.bl b) H) (At te (At (tC (.ty T)) B8))):=by
 subst q;exact AR MA o u Ef (AA r (AA (De h d j zJ y a) AG i) hs) qc qc hs l
def Ak(ω)(a:X.K=ω):IxR X (XJ ω):=a ▸ Tu
def Ad(ω)(a:X.K=ω):IxR X (Vo ω):=a ▸ Vp
def A3(ω)(a:X.K=ω):aT X (.builtin "len") (λxs H Q=>∃p ys,xs=[.ref p]/\(aH ω H p ys\/aP ω H p ys)/\Q (.int ys.length) H):=a ▸ F4
inductive spIsName(vs:hK)(H:Hp)(Q:VK)(_E:XK):Prop
 |mk (x) (aW:vs=[.str x]) (aX:x.cps.all (· < 128)=true) (bz:x.length<=1000) (bQ:∀H',aB H H'->Q (.bl (B3 x)) H')
def SR:AH [ig] [ig] (defScope LC):=bA
def SS(c):(if (!decide ((⟨#[c]⟩:Str).cps.toList<("A":Str).cps.toList))=true then (!decide (("Z":Str).cps.toList<(⟨#[c]⟩:Str).cps.toList))else false)=DL c:=by
 have i:("A":Str).cps.toList=[65]:=by decide +kernel
 have h:("Z":Str).cps.toList=[90]:=by decide +kernel
 rw[i,h];unfold DL
 have d:decide ([c]<[65])=decide (c<65):=by
  rw[Bool.eq_iff_iff,decide_eq_true_eq,cons_lt_cons_iff];simp
 have e:decide ([90]<[c])=decide (90<c):=by
  rw[Bool.eq_iff_iff,decide_eq_true_eq,cons_lt_cons_iff];simp
 rw[d,e];by_cases j:c<65<;>by_cases a:90<c<;>simp[a]<;>lia
def Qh(F:aN ω lq lq LC f fd)(B:Bl mg)(hL:mg "LONGEST_NAME"=some (.int 6 t6)):aE P w ω mg base aS 1 f fd [ig] spIsName:=by
 refine F.m SR λvs H Q E h=>?_;obtain⟨x,rfl,ha,hz,k⟩:=h;refine⟨zJ,λae A outer s hr=>?_⟩
 refine⟨_,AC (AY (PW.pt (CW (Aw (Ao (Bt ω zJ zJ B.c9 zJ B.str Ft (pv 0)))) (Bc (Aw (EL EI EI AF (AR A4 zJ B.len PySem.boot_len (AA (pv 0) AG)) (BJ (v:=.int 6) zJ hL ⟨t6,zJ⟩))))))
   (AB (AI DR)) AM)
  (AB (AI (AR (DY rfl) rfl B.all He (AA (BW [] [] (by rfl) (by simp) (by rfl) rfl (Ir (pv 0)) (λ_ _ _ _ _ _=>BS) (λ_ _ _ _ _ _=>EJ Bu Bu AL (pv 0) AL)) AG)))),?_⟩
 refine⟨_,zJ,_,_,_,true,zJ,.str x,zJ,_,zJ,?_⟩;apply AV;refine⟨_,zJ,x,zJ,Nat.le_of_lt (AS hz),_,_,zJ,zJ,_,zJ,?_⟩;refine BH (λh1=>?_) (λh1=>?_)
 ·have h1':1<=x.length:=by have:=Zv h1;lia
  refine⟨_,_,zJ,zJ,_,zJ,?_⟩;refine BH (λh2=>?_) (λh2=>?_)
  ·have h2':¬ x.length<=6:=by
    intro z;rw[Zm (by lia)]at h2;cases h2
   have e:B3 x=false:=by unfold B3;simp[h2']
   have:=k H (aB.refl H)
   rwa[e]at this
  ·have h2':x.length<=6:=Decidable.byContradiction λz=>h2 (by lia);refine⟨_,zJ,x,zJ,ha,Gi (λi ys H2=>H2=H/\ys=(x.cps.toList.take i).map λc=>V.bl (DL c)) ⟨zJ,zJ⟩ (λi ys H2 ⟨_,e⟩=>?_) ?_ ?_⟩
   ·rw[e,AQ,zX];have:x.cps.toList.length=x.length:=by rw[Array.length_toList];rfl
    lia
   ·rintro i c ys H2 hc ⟨rfl,rfl⟩;refine⟨_,zJ,_,_,zJ,zJ,_,zJ,?_⟩
    have fin:∀b,b=DL c->(H2=H2/\(x.cps.toList.take i).map (λc=>V.bl (DL c))++[V.bl b]=(x.cps.toList.take (i+1)).map λc=>V.bl (DL c)):=λb hb=>by
     refine⟨zJ,?_⟩;have fm:x.cps.toList[i]?=some c:=by rwa[Array.getElem?_toList]
     rw[z0,fm,zR,hb];rfl
    have hu:=SS c;refine BH (λh3=>?_) (λh3=>?_)
    ·rw[zM h3]at hu;exact⟨_,_,zJ,zJ,fin _ hu⟩
    ·simp_all
   ·rintro ys H2 ⟨rfl,rfl⟩ p hp;refine⟨p,x.cps.toList.map DL,zJ,aH.of (by rw[aA,take_of_length_le (by simp_all),map_map];rfl),?_⟩
    have e:B3 x=((x.cps.toList.map DL).all id):=by
     unfold B3;rw[Zm h1',Zm h2',all_map];rfl
    rw[←e];exact k _ (AE (aB.refl _) hp)
 ·have h1':¬ 1<=x.length:=λz=>h1 (Zm (by lia));refine⟨_,zJ,?_⟩;apply Ah;have e:B3 x=false:=by unfold B3;simp[h1']
  have:=k H (aB.refl H)
  rwa[e]at this
end
inductive Th where
 |aO|num (n:Nat)|gO (ns:hA)
def d6(H:Hp)(v:V):Th->Prop
 |.aO=>v=.aO
 |.num n=>v=.int (n:Int)
 |.gO ns=>∃a,v=.ref a/\H a=some (.tup (ns.map V.str))
noncomputable def Eg(ns:List Nat):Nat:=ns.foldl max 0
noncomputable def look(aD:Aa)(x:Str):Nat:=((aD.find? λp=>decide (p.1=x)).map (·.2)).getD 0
noncomputable def A8(aD:Aa):LK:=aD.map λp=>(Sum.inr p.1,V.int (p.2:Int))
def DE(aD:Aa):Th->Nat
 |.aO=>Bz (Eg (aD.map (·.2)))
 |.num n=>n
 |.gO ns=>Aj (ns.map (look aD))
def Fu(x):∀a,Am (A8 a) (Sum.inr x)=(a.find? λp=>decide (p.1=x)).map λp=>V.int (p.2:Int)
 | []=>rfl
 |p::r=>by
  show Am ((Sum.inr p.1,V.int p.2)::A8 r) (Sum.inr x)=_;by_cases e:p.1=x
  ·rw[BA (by rw[←e]),List.find?_cons_of_pos (by simp_all)];rfl
  ·rw[A6 (λz=>e (Sum.inr.inj z)),List.find?_cons_of_neg (by simp_all)];exact Fu x r
def Qi{a:Aa}(h:x∈a.map (·.1)):(a.find? λp=>decide (p.1=x)).isSome=true:=by
 simp_all
def Bf(h:x∈a.map (·.1)):Am (A8 a) (Sum.inr x)=some (V.int (look a x:Int)):=by
 rw[Fu];unfold look;obtain⟨p,d⟩:=Option.isSome_iff_exists.mp (Qi h)
 simp_all
def Dy(h:x∉ aD.map (·.1)):Am (A8 aD) (Sum.inr x)=none:=by
 rw[Fu]
 grind
def Gj:∀(l:List Nat)a,a<m->(∀n∈l,n<m)->l.foldl max a<m
 | [],a,h,_=>h
 |x::r,a,h,k=>Gj r (max a x) (by have:=k x z8;lia) λn d=>k n (by grind)
def Mn{a}{m}(d:0<m)(h:∀n∈a,n<m):Eg a<m:=Gj a 0 d h
def SU(a b:Nat):max (a:Int) (b)=((max a b:Nat):Int):=by lia
def JS:∀(r:List Nat)(a:Nat),(r.map λn:Nat=>(n:Int)).foldl max (a:Int)=((r.foldl max a:Nat):Int)
 | [],_=>rfl
 |x::r,a=>by rw[map_cons,foldl_cons,SU,JS r];rfl
def Mo{d}(h:d≠ []):MC 0 (d.map λn:Nat=>(n:Int))=(Eg d:Nat):=by
 cases d with
 |nil=>rfl
 |cons a r=>
  show(r.map λn:Nat=>(n:Int)).foldl max (a:Int)=_;rw[JS];rfl
def OR{m:Nat}(h:m<2^20):Builtin.Int.intBits (m:Int)<=20:=by
 rcases Nat.eq_zero_or_pos m with e|a
 ·subst e;decide
 ·rw[EV a];have:=(Nat.log2_lt (by lia)).mpr h
  lia
section
inductive spNextMark(K:FG)(vs:hK)(H:Hp)(Q:VK)(_E:XK):Prop
 |mk (a) (ns) (aW:vs=[.ref a]) (aX:aH K H a (A0 ns)) (bz:(∀n∈ns,n<2^20)) (bQ:Q (.int (Bz (Eg ns):Nat)) H)
def OS:AH [iC] [iC] (defScope HK):=bA
def IQ(a):A0 a=(a.map λn:Nat=>(n:Int)).map V.int:=by unfold A0;simp_all
def Mp(F:aN ω lQ lQ HK f fd)(B:Bl mg):aE P w ω mg base aS 1 f fd [iC] (spNextMark ω):=by
 refine F.m OS λu H Q E h=>?_;obtain⟨a,d,rfl,r,p,k⟩:=h;refine⟨zJ,λq A o s v=>?_⟩;refine⟨_,AB (AI (AZ Kk AF (EO plainAttrs_int PySem.F.slot_int_bit_length PySem.F.type_int_bit_length K0 (O2 zJ zJ B.max (pv 0) AF)))),?_⟩
 have l:∀m:Int,m=Eg d->tyV ω lM (.int m) H/\∃i,V.int m=.int i/\([]:hK)=[]/\rI Vj (λi j=>V.int (i*2^j.toNat)) (V.int 1) (V.int (Builtin.Int.intBits i)) H Q:=λm e=>by
  subst e;refine⟨zJ,_,zJ,zJ,1,_,zJ,zJ,⟨Z1 _,?_,qc⟩,?_⟩
  ·have:=OR (Mn qc p);lia
  ·have e:(1:Int)*2^((Builtin.Int.intBits (Eg d:Nat)):Int).toNat=((Bz (Eg d):Nat)):=by
    unfold Bz;simp
   show Q (V.int (1*2^((Builtin.Int.intBits (Eg d:Nat)):Int).toNat)) H
   rwa[e]
 refine⟨_,zJ,a,d.map (λn:Nat=>n),0,zJ,zJ,by rw[←IQ];exact r,λe=>?_,λe=>?_⟩
 ·have t:=List.map_eq_nil_iff.mp e;exact l 0 (by rw[t];rfl)
 ·exact l _ (Mo (λz=>e (by rw[z];rfl)))
def Cp(ω:FG):Sp:=λvs H Q _=>(∃(x:Str)(d:hO)(kvs:LK),vs=[.str x,.ref d]/\Rd H d (.dK kvs)/\Q (.bl (Am kvs (Sum.inr x:Key)).isSome) H) \/
 (∃(x:Str)(t:hO)(xs:hA),vs=[.str x,.ref t]/\aP ω H t (xs.map V.str)/\Q (.bl (dz (.str x) (xs.map V.str))) H)
def Qj:AH [ig,i1] [ig,i1] (defScope JI):=bA
def KS:∀xs:hA,(xs.map V.str).all Fz=true
 | []=>rfl
 |_::r=>KS r
def OT(F:aN ω jz jz JI f fd)(B:Bl mg):aE P w ω mg base aS 1 f fd [ig,i1] (Cp ω):=by
 refine F.ok Qj (λp H Q E h=>?_) (λl A e s H p Q E j h=>?_)
 ·rcases h with⟨x,d,a,rfl,_⟩|⟨x,t,i,rfl,_⟩<;>rfl
 ·rcases h with⟨x,d,a,rfl,o,k⟩|⟨x,t,i,rfl,ht,k⟩
  ·refine⟨_,AB (AI (Ce (Bt ω zJ zJ B.c9 zJ B.str Ft (pv 0)) (Cs (NY (HC (Bp j) (pv 0) (pv 1)))))),?_⟩;refine⟨_,zJ,_,_,_,true,zJ,.str x,zJ,_,zJ,?_⟩;exact⟨_,zJ,_,zJ,d,_,zJ,.inl ⟨a,Sum.inr x,o,zJ,zJ⟩,k⟩
  ·refine⟨_,AB (AI (Ce (Bt ω zJ zJ B.c9 zJ B.str Ft (pv 0)) (Cs (Ck Er (pv 0) (pv 1) (by rfl))))),?_⟩;refine⟨_,zJ,_,_,_,true,zJ,.str x,zJ,_,zJ,?_⟩;exact⟨_,zJ,_,zJ,t,_,zJ,.inr ht,zJ,KS i,k⟩
inductive spIsNamesOf(vs:hK)(H:Hp)(Q:VK)(_E:XK):Prop
 |mk (a d) (ns:hA) (kvs) (aW:vs=[.ref a,.ref d]) (aX:H a=some (.tup (ns.map V.str))) (bz:ns.length<=1000) (bQ:Rd H d (.dK kvs)) (cw:∀H',aB H H'->Q (.bl (decide (0<ns.length)&&ns.all λx=>(Am kvs (Sum.inr x:Key)).isSome)) H')
def Mq:AH ["parts",jD] ["parts",jD] (defScope Fa):=bA
def aB.rd(s:aB H H')(h:Rd H a u):Rd H' a u:=by
 rcases h with h|⟨o,h⟩
 ·exact .inl (s _ _ h)
 ·exact .inr ⟨o,s _ _ h⟩
def LL(F:aN ω kZ kZ Fa f fd)(B:Bl mg)(y:Fn P w ω mg base jz 1 [ig,i1] (Cp ω)):aE P w ω mg base aS 2 f fd ["parts",jD] spIsNamesOf:=by
 obtain⟨fO,U,y,S,I,J⟩:=y.ex;refine F.m Mq λX H Q E h=>?_;obtain⟨a,d,j,l,rfl,r,T,M,k⟩:=h;refine⟨zJ,λD A C s O=>?_⟩
 refine⟨_,AB (AI (Ce (Ck Hx (AR F4 zJ B.len PySem.boot_len (AA (pv 0) AG)) AF (AN _))
  (Cs (AR (DY rfl) rfl B.all He (AA (BW [jD] [some 1] (by rfl) (by trivial) (by rfl) rfl (Nf (pv 0)) (λ_ _ _ _ _ _=>BS)
   (λ_ _ _ _ _ _=>AO y O rfl S I J .nil AT (AA (pv 0) (AA (pv 1) AG)))) AG))))),?_⟩
 have N:(j.map V.str).length=j.length:=AQ _;refine⟨_,zJ,a,_,zJ,.inr (aP.of r),_,_,zJ,zJ,_,zJ,?_⟩;refine BH (λt=>?_) (λt=>?_)
 ·have u:0<j.length:=by have:=Zv t;lia
  refine⟨_,zJ,a,zJ,⟨_,aP.of r⟩,Ip (λi o q=>q=H/\o=(j.take i).map λx=>V.bl (Am l (Sum.inr x)).isSome) ⟨zJ,zJ⟩ (λi o q _ z=>by obtain⟨e,_⟩:=z;exact e ▸ aP.of r) (λi o q ⟨_,e⟩=>?_) ?_ ?_⟩
  ·grind
  ·rintro i v o q Y ⟨rfl,rfl⟩
   obtain⟨x,R,rfl⟩:∃x,j[i]?=some x/\v=V.str x:=by
    cases e:j[i]? with
    |none=>simp_all
    |some x=>simp_all
   refine⟨_,zJ,_,zJ,.inl ⟨x,d,l,zJ,M,zJ,?_⟩⟩;rw[z0,R,zR];rfl
  ·rintro o q ⟨rfl,rfl⟩ p G;have L:j.take (j.map V.str).length=j:=by rw[N];exact zY
   refine⟨p,j.map λx=>(Am l (Sum.inr x)).isSome,zJ,aH.of (by rw[aA,L,map_map];rfl),?_⟩
   have e:(decide (0<j.length)&&j.all λx=>(Am l (Sum.inr x)).isSome)=(j.map λx=>(Am l (Sum.inr x)).isSome).all id:=by
    rw[Zm u,all_map];rfl
   rw[←e];exact k _ (AE (aB.refl _) G)
 ·have:=k H (aB.refl H)
  rwa[Zp (λz=>t (Zm (by lia))),Bool.false_and]at this
inductive spIsWhole(vs:hK)(H:Hp)(Q:VK)(_E:XK):Prop
 |mk (n) (aW:vs=[.int n]) (aX:Q (.bl true) H)
def Qk:AH [ig] [ig] (defScope Ge):=bA
structure DF(aD:Aa):Prop where
 len:aD.length<=10
 lt:∀p∈aD,p.2<2^20
 nd:(aD.map (·.1)).Nodup
 nm:∀p∈aD,B3 p.1=true/\p.1.cps.all (· < 128)=true/\p.1.length<=1000
def UY(aD:Aa):Th->Prop
 |.aO=>True
 |.num _=>True
 |.gO ns=>ns≠ []/\ns.length<=10/\∀x∈ns,x∈aD.map (·.1)
inductive spThing(vs:hK)(H:Hp)(Q:VK)(_E:XK):Prop
 |mk (tv) (th) (d) (aD) (aW:vs=[tv,.ref d]) (aX:d6 H tv th) (bz:Rd H d (.dK (A8 aD))) (bQ:DF aD) (cw:UY aD th) (cX:∀H',aB H H'->Q (.int (DE aD th:Nat)) H')
def UZ:AH [ig,jD] [ig,jD] (defScope Ds):=bA
def SW(a):(A8 a).map (·.2)=A0 (a.map (·.2)):=by unfold A8 A0;simp_all
def SX(F:aN ω kr kr Ds f fd)(B:Bl mg)(N:Fn P w ω mg base lQ 1 [iC] (spNextMark ω))(O:Fn P w ω mg base kZ 2 ["parts",jD] spIsNamesOf)
  (L:Fn P w ω mg base ko 1 [iC] (spUnionOf ω)) (J:Fn P w ω mg base jA 1 [ig] spIsWhole):aE P w ω mg base aS 3 f fd [ig,jD] spThing:=by
 obtain⟨fN,dN,N,mN,kN,bN⟩:=N.ex;obtain⟨fI,dI,O,mI,kI,bI⟩:=O.ex;obtain⟨fU,dU,L,mU,kU,bU⟩:=L.ex;obtain⟨fW,dW,J,mW,kW,bW⟩:=J.ex;refine F.m UZ λvs H Q E h=>?_;obtain⟨tv,th,d,j,rfl,R,u,DO,TO,k⟩:=h;refine⟨zJ,λX A T s S=>?_⟩;have Y:=Bp S;have r:aJ 1 _:=S.mono qc
 refine⟨_,AC (AY (Cr (Ki (pv 0))) (AB (AI (AO N r zJ mN kN bN .nil AT (AA (BG (N2 zJ) zJ B.list Ez (AA (Rr slot_dict_values type_dict_values QG (pv 1)) AG)) AG)))) AM)
  (AC (AY (PW.pt (CA (Ao (Bt ω rfl rfl B.c9 rfl B.tuple C4 (pv 0))) (Bg (Ao (AO O S rfl mI kI bI .nil AT (AA (pv 0) (AA (pv 1) AG)))))))
   (AB (AI (AO L r rfl mU kU bU .nil AT (AA (BW [jD] [some 1] (by rfl) (by trivial) (by rfl) rfl (Nf (pv 0)) (λ_ _ _ _ _ _=>BS) (λ_ _ _ _ _ _=>Av Y (pv 1) (pv 0) (λ_ _=>rfl))) AG)))) AM)
  (AC (AY (Ao (AO J r rfl mW kW bW .nil AT (AA (pv 0) AG))) (AB (AI (pv 0))) AM)
  (AB Ag))),?_⟩
 refine⟨_,rfl,_,rfl,?_⟩;cases th with
 |aO=>
  have e:=R;subst e;refine BH (λ_=>?_) (λz=>absurd zJ z);refine⟨_,zJ,d,zJ,.inl ⟨_,u⟩,d,_,zJ,zJ,u,λp G=>?_⟩;refine⟨p,d,_,zJ,aA,aB.rd (AE (aB.refl _) G) u,λl hl=>?_⟩;refine⟨l,j.map (·.2),zJ,aH.of (by rw[aA,SW]),λn hn=>?_,?_⟩
  ·obtain⟨q,hq,rfl⟩:=zO.mp hn;exact DO.lt q hq
  ·exact k _ (AE (AE (aB.refl _) G) hl)
 |num n=>
  have e:=R;subst e;refine BH (λz=>absurd (Zv z) (by simp)) (λ_=>?_);refine⟨_,zJ,_,_,_,false,zJ,.int _,(by rfl),_,zJ,?_⟩;apply AV;refine⟨_,zJ,n,zJ,_,zJ,?_⟩;apply Ah;exact⟨_,zJ,k H (aB.refl H)⟩
 |gO o=>
  obtain⟨a,rfl,D⟩:=R;obtain⟨M,hln,y⟩:=TO;refine BH (λz=>absurd (Zv z) (by simp)) (λ_=>?_);refine⟨_,zJ,_,_,_,true,zJ,.tup D,zJ,_,zJ,?_⟩;refine⟨_,zJ,_,zJ,a,d,o,A8 j,zJ,D,by lia,u,λH1 I=>⟨_,zJ,?_⟩⟩
  have e1:(decide (0<o.length)&&o.all λx=>(Am (A8 j) (Sum.inr x)).isSome)=true:=by
   rw[Bool.and_eq_true,decide_eq_true_eq,all_eq_true];refine⟨List.length_pos_iff.mpr M,λx U=>?_⟩;rw[Bf (y x U)];rfl
  rw[e1];apply Ah;refine⟨_,zJ,a,zJ,⟨_,aP.of (I _ _ D)⟩,Ip (λi t C=>C=H1/\t=A0 ((o.take i).map (look j))) ⟨zJ,zJ⟩ (λi t C _ m=>by obtain⟨e,_⟩:=m;exact e ▸ aP.of (I _ _ D)) (λi t C ⟨_,e⟩=>?_) ?_ ?_⟩
  ·rw[e];unfold A0
   grind
  ·rintro i v t C hi ⟨rfl,rfl⟩
   obtain⟨x,U,rfl⟩:∃x,o[i]?=some x/\v=V.str x:=by
    grind
   refine⟨_,zJ,_,zJ,d,_,zJ,.inl ⟨A8 j,Sum.inr x,aB.rd I u,zJ,(Bf (y x (by grind))).symm⟩,zJ,?_⟩;rw[z0,U];unfold A0
   simp_all
  ·rintro t C ⟨rfl,rfl⟩ p G;have Z:o.take (o.map V.str).length=o:=by rw[AQ _];exact zY
   refine⟨p,o.map (look j),zJ,aH.of (by rw[aA,Z]),?_⟩;exact k _ (AE I G)
end
end Mk
end
section
namespace L2
open PySem
def SY{ω}{a}{xs}{g:TG}{tb:TS}{D:IV}{σ}(d:Nat->St->Hp->Prop)(E:d 0 σ H)(u:∀i σ H,i<=xs.length->d i σ H->aH ω H a xs)
  (hs:∀i x σ H p,xs[i]?=some x->d i σ H->H p=none->g (.ref p) σ (upd H p (.tup [.int i,x])) λh t=>tb {D with nx:=d (i+1),ct:=d (i+1),bk:=D.nx} h t) (C:∀σ H,d xs.length σ H->D.nx σ H):
  ∃W:Nat->Nat->St->Hp->Prop,(∃m,W 0 m σ H)/\∀i m σ H,W i m σ H ->
   ((Ite ω a).stop i H/\D.nx σ H)\/((Ite ω a).go i H/\∃N,(∀j H',N j H'->∃z,z<m/\W (i+1) z j H')/\∀x H',(Ite ω a).fZ i H x H'->g x σ H' λh t=>tb {D with nx:=N,ct:=N,bk:=D.nx} h t):=by
 refine⟨λi m σ H=>m=xs.length-i/\i<=xs.length/\d i σ H,⟨_,zJ,Nat.zero_le _,E⟩,?_⟩;rintro i m σ H ⟨rfl,v,l⟩;by_cases o:i<xs.length
 ·have r:=Z7 o;refine .inr ⟨⟨xs,xs[i],u i σ H v l,r⟩,d (i+1),λj H' q=>⟨xs.length-(i+1),by lia,zJ,o,q⟩,?_⟩;rintro x H' ⟨p,y,F,rfl,B,rfl⟩
  have A:y=xs[i]:=by
   have:=B xs (u i σ H v l);rw[r]at this;exact(Option.some.inj this).symm
  subst A;exact hs i xs[i] σ H p r l F
 ·have e:i=xs.length:=by lia
  subst e;exact .inl ⟨⟨xs,u _ σ H v l,zV _⟩,C σ H l⟩
def Ql{a}{o}{kvs}{g:TG}{tb:TS}{D:IV}{σ}(d:Nat->St->Hp->Prop)(B:d 0 σ H)(z:∀i σ H,d i σ H->H a=some (.cb o (.dK kvs)))
  (hs:∀i r σ H p,kvs[i]?=some r->d i σ H->H p=none->g (.ref p) σ (upd H p (.tup [kV r.1,r.2])) λh v=>tb {D with nx:=d (i+1),ct:=d (i+1),bk:=D.nx} h v) (A:∀σ H,d kvs.length σ H->D.nx σ H):
  ∃W:Nat->Nat->St->Hp->Prop,(∃m,W 0 m σ H)/\∀i m σ H,W i m σ H ->
   ((g8 a o kvs).stop i H/\D.nx σ H)\/((g8 a o kvs).go i H/\∃N,(∀j H',N j H'->∃y,y<m/\W (i+1) y j H')/\∀x H',(g8 a o kvs).fZ i H x H'->g x σ H' λh v=>tb {D with nx:=N,ct:=N,bk:=D.nx} h v):=by
 refine⟨λi m σ H=>m=kvs.length-i/\i<=kvs.length/\d i σ H,⟨_,zJ,Nat.zero_le _,B⟩,?_⟩;rintro i m σ H ⟨rfl,E,t⟩;by_cases l:i<kvs.length
 ·refine .inr ⟨⟨z i σ H t,l⟩,d (i+1),λj H' q=>⟨kvs.length-(i+1),by lia,zJ,l,q⟩,?_⟩;rintro x H' ⟨p,r,C,rfl,u,rfl⟩;exact hs i r σ H p u t C
 ·have e:i=kvs.length:=by lia
  subst e;exact .inl ⟨⟨z _ σ H t,zV _⟩,A σ H t⟩
def JT{α}{r}{ok}{B}{R}(d:Nat->α->Hp->Prop)(u:d 0 r H1)(q:∀i ys H,d i ys H->H a=some (.cb o (.dK kvs)))(hz:∀i ys H,d i ys H->ok ys)
  (hs:∀i h ys H p,kvs[i]?=some h->d i ys H->H p=none->B (.ref p) ys (d (i+1)) (upd H p (.tup [kV h.1,h.2]))) (t:∀ys H,d kvs.length ys H->R ys H):tW (g8 a o kvs) r ok B R H1:=
 DV (n:=kvs.length) d u hz (λi ys H l e=>⟨⟨q i ys H e,l⟩,by rintro x y ⟨p,h,v,rfl,j,rfl⟩;exact hs i h ys H p j e v⟩) λys H e=>⟨⟨q _ ys H e,zV _⟩,t ys H e⟩
def OU{a}{o}{kvs}{g}{tt}{te}{h}{R}{σ}{j}(d:Nat->hK->Hp->Prop)(r:d 0 [] j)(t:∀i ys H,d i ys H->H a=some (.cb o (.dK kvs)))(hz:∀i ys H,d i ys H->ys.length<=1000)
  (hs:∀i e ys H p,kvs[i]?=some e->d i ys H->H p=none->bT g tt (fx te) h σ (.ref p) ys (d (i+1)) (upd H p (.tup [kV e.1,e.2]))) (l:∀ys H,d kvs.length ys H->R ys H):tW (g8 a o kvs) [] fy (bT g tt (fx te) h σ) R j:=JT d r t (λi ys H q=>KB (hz i ys H q)) hs l
end L2
namespace Mk
open PySem L2 MK
def Xj(x:Str):Prop:=B3 x=true/\x.cps.all (· < 128)=true/\x.length<=1000
structure PP(aD:Aa)(r:Str×Th):Prop where
 ahead:DF aD
 few:aD.length<10
 nm:Xj r.1
 new:r.1∉ aD.map (·.1)
 th:UY aD r.2
 lt:DE aD r.2<2^20
def Ar(rows:List (Str×Th)):Aa:=rows.foldl (λaD r=>aD++[(r.1,DE aD r.2)]) []
def Hh(a)(r):Ar (a++[r])=Ar a++[(r.1,DE (Ar a) r.2)]:=by unfold Ar;simp_all
def Fv(rows:List (Str×Th)):Prop:=∀i r,rows[i]?=some r->PP (Ar (rows.take i)) r
inductive cC(H:Hp)(b:hO)(r:Str×Th):Prop
 |mk (tv) (aW:H b=some (.tup [.str r.1,tv])) (aX:d6 H tv r.2)
inductive RowsAt(H:Hp)(l:hO)(rows:List (Str×Th)):Prop
 |mk (as) (aW:H l=some (.lst (as.map V.ref))) (aX:Paired (cC H) as rows)
def d6.same(s:aB H H')(h:d6 H v th):d6 H' v th:=by
 cases th with
 |aO=>exact h
 |num n=>exact h
 |gO d=>obtain⟨a,e,h⟩:=h;exact⟨a,e,s _ _ h⟩
def cC.same{r}(s:aB H H')(h:cC H b r):cC H' b r:=by
 obtain⟨a,e,t⟩:=h;exact⟨a,s _ _ e,t.same s⟩
def Dz{α a}{F}:∀{xs}{ys:List a}{i:Nat}{x:α},Paired F xs ys->xs[i]?=some x->∃y,ys[i]?=some y/\F x y
 |_,_,_,_,.nil,e=>by simp at e
 |_,_,0,_,.cons r _,e=>by simp_all
 |_,_,i+1,x,.cons _ t,e=>by
  obtain⟨u,d,h⟩:=Dz t (by trivial)
  simp_all
def JU(s:aB H H1)(a:H d=none):aB H (upd H1 d o):=λb u e=>by
 rw[AD (AJ e a)];exact s b u e
section
inductive spRow(vs:hK)(H:Hp)(Q:VK)(_E:XK):Prop
 |mk (b d) (r) (aD) (aW:vs=[.ref b,.ref d]) (aX:cC H b r) (bz:Rd H d (.dK (A8 aD))) (bQ:PP aD r) (cw:∀H',aB H H'->Q (.int (DE aD r.2:Nat)) H')
def scRow:AH ["row",jD,ij,ig,il] ["row",jD] (defScope Fb):=bA
def WE(F:aN ω lB lB Fb f fd)(B:Bl mg)(hG:mg "GREATEST"=some (.int 1048575 tg))(GN:Fn P w ω mg base lq 1 [ig] spIsName)(GT:Fn P w ω mg base kr 3 [ig,jD] spThing):
  aE P w ω mg base aS 4 f fd ["row",jD] spRow:=by
 obtain⟨fN,dN,GN,mN,kN,bN⟩:=GN.ex;obtain⟨fT,dT,GT,mT,kT,bT⟩:=GT.ex;refine F.m scRow λvs H Q E h=>?_;obtain⟨b,d,r,aD,rfl,⟨tv,hb,hT⟩,hd,RO,k⟩:=h;refine⟨zJ,λae A outer s hr=>?_⟩
 refine⟨_,AC (AY (PW.pt (CW (Aw (Ao (Bt ω zJ zJ B.c9 zJ B.tuple C4 (pv 0)))) (Bc (AK DU (AR (A3 ω zJ) zJ B.len PySem.boot_len (AA (pv 0) AG)) AF (AN _))))) (AB Ag) AM)
  (AC (Bd (pv 0) (BM rfl (AW (AU (i:=2) scRow.nd rfl (Or.inl rfl)) (AW (AU (i:=3) scRow.nd rfl (Or.inl rfl)) A9))))
  (AC (AY (PW.pt (CW (Aw (Ao (AO GN (hr.mono qc) rfl mN kN bN .nil AT (AA (pv 2) AG)))) (Bc (Cr (HC (Bp hr) (pv 2) (pv 1)))))) (AB Ag) AM)
  (AC (Ab (i:=4) scRow.nd rfl (Or.inl rfl) (AO GT hr rfl mT kT bT .nil AT (AA (pv 3) (AA (pv 1) AG))))
  (AC (AY (PW.pt (CW (Cr (Ki (pv 4))) (Bc (Aw (EL EI EI AF (pv 4) (BJ (v:=.int 1048575) rfl hG ⟨tg,rfl⟩)))))) (AB Ag) AM)
  (AB (AI (pv 4))))))),?_⟩
 refine⟨_,zJ,_,_,_,true,zJ,.tup hb,zJ,_,zJ,?_⟩;apply AV;refine⟨_,zJ,b,_,zJ,.inr (aP.of hb),zJ,_,zJ,?_⟩;apply Rg rfl;refine⟨_,zJ,b,_,zJ,aP.of hb,zJ,_,_,zJ,_,_,zJ,zJ,?_⟩;refine⟨_,zJ,r.1,zJ,RO.nm.2.1,RO.nm.2.2,λH1 s1=>⟨_,zJ,?_⟩⟩;rw[RO.nm.1];apply AV;refine⟨_,zJ,_,zJ,d,_,zJ,.inl ⟨A8 aD,Sum.inr r.1,aB.rd s1 hd,zJ,(Dy RO.new).symm⟩,_,zJ,?_⟩;apply AV;refine⟨_,zJ,_,zJ,tv,r.2,d,aD,zJ,hT.same s1,aB.rd s1 hd,RO.ahead,RO.th,λH2 s2=>?_⟩;refine⟨_,zJ,_,zJ,?_⟩;refine BH (λz=>absurd (Zv z) (by simp)) (λ_=>?_);refine⟨_,zJ,_,_,zJ,zJ,_,zJ,?_⟩;refine BH (λ_=>?_) (λz=>absurd (Zm (by simp)) z);refine⟨_,_,zJ,zJ,_,zJ,?_⟩;have hlt:=RO.lt;apply Rg (show((DE aD r.2:Nat):Int)<=1048575 by lia);exact⟨_,zJ,k _ (s1.trans s2)⟩
inductive spNumbered(vs:hK)(H:Hp)(Q:VK)(_E:XK):Prop
 |mk (l) (rows) (aW:vs=[.ref l]) (aX:RowsAt H l rows) (bz:0<rows.length) (bQ:rows.length<=10) (cw:Fv rows) (cX:∀d H',aB H H'->H d=none->H' d=some (.dK (A8 (Ar rows)))->Q (.ref d) H')
def scNumbered:AH [jR,iC,"at","row",il] [jR] (defScope HL):=bA
def PQ{a}{x}{n:Nat}(h:x∉ a.map (·.1)):Ba (A8 a) (Sum.inr x:Key) (V.int (n))=A8 (a++[(x,n)]):=by
 rw[F6 _ (Dy h)];unfold A8
 simp_all
def KU(a):(A8 a).length=a.length:=AQ _
def B6:∀d,(Ar d).length=d.length:=λd=>by
 have:∀(l:List (Str×Th))a,(l.foldl (λh r=>h++[(r.1,DE h r.2)]) a).length=a.length+l.length:=by
  intro l;induction l with
  |nil=>simp
  |cons x r i=>grind
 have e:=this d [];rw[length_nil]at e;unfold Ar
 lia
def Mr(F:aN ω "numbered" "numbered" HL f fd)(B:Bl mg)(hM:mg "MOST_ROWS"=some (.int 10 tm))(GR:Fn P w ω mg base lB 4 ["row",jD] spRow):aE P w ω mg base aS 5 f fd [jR] spNumbered:=by
 obtain⟨fR,dR,GR,mR,kR,bR⟩:=GR.ex;refine F.m scNumbered λvs H Q E h=>?_;obtain⟨l,rows,rfl,⟨as,hl,hP⟩,h0,gS,RO,k⟩:=h;refine⟨zJ,λae A outer s hr=>?_⟩
 refine⟨_,AC (AY (PW.pt (CW (Aw (Ao (Bt ω zJ zJ B.c9 zJ B.list Ez (pv 0)))) (Bc (Aw (EL EI EI AF (AR (A3 ω zJ) zJ B.len PySem.boot_len (AA (pv 0) AG)) (BJ (v:=.int 10) zJ hM ⟨tm,zJ⟩)))))) (AB Ag) AM)
  (AC (Ab (i:=1) scNumbered.nd rfl (Or.inl rfl) Cz)
  (AC (Bw PassesOwn.never rfl (UA rfl B.enum (AA (pv 0) AG)) (BM rfl (AW (AU (i:=2) scNumbered.nd rfl (Or.inl rfl)) (AW (AU (i:=3) scNumbered.nd rfl (Or.inl rfl)) A9)))
   (AC (Ab (i:=4) scNumbered.nd rfl (Or.inl rfl) (AO GR hr rfl mR kR bR .nil AT (AA (pv 3) (AA (pv 1) AG))))
   (AC (AY (Cr (Ki (pv 4))) (AB Ag) AM)
   (AB (Di (Bp hr) (pv 1) (An (Ad ω rfl) (pv 3) AF (λ_ _=>rfl)) (pv 4) rfl)))))
  (AB (AI (pv 1))))),?_⟩
 refine⟨_,zJ,_,_,_,true,zJ,.lst hl,zJ,_,zJ,?_⟩;apply AV;have hll:(as.map V.ref).length=rows.length:=by rw[AQ,hP.length]
 refine⟨_,zJ,l,_,zJ,.inl (aH.of hl),_,_,zJ,zJ,_,zJ,?_⟩;refine BH (λ_=>?_) (λz=>absurd (Zm (by lia)) z);refine⟨_,_,zJ,zJ,_,zJ,?_⟩;apply Rg (show(((as.map V.ref).length:Nat):Int)<=10 by lia);intro d gQ
 refine⟨_,zJ,l,zJ,⟨_,aH.of (AE (aB.refl _) gQ _ _ hl)⟩,SY (λi σ H2=>∃v1 v2 v3,σ=[some (.ref l),some (.ref d),v1,v2,v3]/\aB H H2/\H2 d=some (.dK (A8 (Ar (rows.take i)))))
  ⟨none,none,none,rfl,AE (aB.refl _) gQ,aA⟩ (λi σ H2 _ q=>by obtain⟨_,_,_,_,s2,_⟩:=q;exact aH.of (s2 _ _ hl)) ?_ ?_⟩
 ·rintro i y σ H2 p hi ⟨v1,v2,v3,rfl,s2,hd2⟩ hp
  obtain⟨b,hb,rfl⟩:∃b,as[i]?=some b/\y=V.ref b:=by
   grind
  obtain⟨r,hr',hra⟩:=Dz hP hb;have R1:=RO i r hr';have s3:aB H (upd H2 p (.tup [.int i,.ref b])):=AE s2 hp;have gR:(upd H2 p (.tup [.int i,.ref b])) d=some (.dK (A8 (Ar (rows.take i)))):=by rwa[AD (AJ hd2 hp)]
  refine⟨p,_,zJ,aP.of aA,zJ,_,_,zJ,_,_,zJ,zJ,?_⟩;refine⟨_,zJ,_,zJ,b,d,r,Ar (rows.take i),zJ,hra.same s3,.inl gR,R1,λH4 s4=>?_⟩;refine⟨_,zJ,_,zJ,?_⟩;refine BH (λz=>absurd (Zv z) (by simp)) (λ_=>?_);obtain⟨tv,aj,_⟩:=hra.same (s3.trans s4);refine⟨_,zJ,_,zJ,_,zJ,b,_,0,.str r.1,zJ,zJ,aP.of aj,zJ,d,_,zJ,eI.k (k:=Sum.inr r.1) (s4 _ _ gR) (AS (by rw[KU,B6,zX];lia)),?_⟩;refine⟨_,_,_,zJ,JU (s3.trans s4) gQ,?_⟩;rw[aA,PQ R1.new,z0,hr',Option.toList_some,Hh]
 ·rintro σ H2 ⟨v1,v2,v3,rfl,s2,hd2⟩;rw[hll,zY]at hd2;exact⟨_,zJ,k d H2 s2 gQ hd2⟩
end
def Al(aD:Aa):List (Nat×Str):=aD.foldl (λfs p=>if (fs.map (·.1)).contains p.2 then fs else fs++[(p.2,p.1)]) []
def Ci(fs:List (Nat×Str)):LK:=fs.map λq=>(Sum.inl (q.1:Int),V.str q.2)
def Ms(fs:List (Nat×Str))(n:Nat):Str:=((fs.find? λq=>decide (q.1=n)).map (·.2)).getD (Str.ofString "")
def DH(a)(p):Al (a++[p])=if ((Al a).map (·.1)).contains p.2 then Al a else Al a++[(p.2,p.1)]:=by unfold Al;simp_all
def Hi(n:Nat):∀fs,Am (Ci fs) (Sum.inl (n):Key)=(fs.find? λq=>decide (q.1=n)).map λq=>V.str q.2
 | []=>rfl
 |q::r=>by
  show Am ((Sum.inl (q.1:Int),V.str q.2)::Ci r) (Sum.inl n)=_;by_cases e:q.1=n
  ·rw[BA (by rw[←e]),List.find?_cons_of_pos (by simp_all)];rfl
  ·rw[A6 (λz=>e (by lia)),List.find?_cons_of_neg (by simp_all)];exact Hi n r
def OV{fs:List (Nat×Str)}(h:n∈fs.map (·.1)):(fs.find? λq=>decide (q.1=n)).isSome=true:=by
 simp_all
def JV{fs}{n:Nat}(h:n∈fs.map (·.1)):Am (Ci fs) (Sum.inl (n):Key)=some (V.str (Ms fs n)):=by
 rw[Hi];unfold Ms;obtain⟨q,a⟩:=Option.isSome_iff_exists.mp (OV h)
 simp_all
def Hj{fs}{n:Nat}(h:n∉ fs.map (·.1)):Am (Ci fs) (Sum.inl (n:Int):Key)=none:=by
 rw[Hi]
 grind
def Mu{fs}{n:Nat}{x}(h:n∉ fs.map (·.1)):Ba (Ci fs) (Sum.inl (n):Key) (V.str x)=Ci (fs++[(n,x)]):=by
 rw[F6 _ (Hj h)];unfold Ci
 simp_all
def D3(d):(Al d).length<=d.length:=by
 have:∀(l:Aa)(a:List (Nat×Str)),(l.foldl (λfs p=>if (fs.map (·.1)).contains p.2 then fs else fs++[(p.2,p.1)]) a).length<=a.length+l.length:=by
  intro l;induction l with
  |nil=>simp_all
  |cons x r h=>
   grind
 have e:=this d [];rw[length_nil]at e;unfold Al;omega
def Eh(d:Aa):∀a,(a.map (·.1)).Nodup->(∀n∈a.map (·.1),n∈(d.foldl (λfs p=>if (fs.map (·.1)).contains p.2 then fs else fs++[(p.2,p.1)]) a).map (·.1)) /\
  ((d.foldl (λfs p=>if (fs.map (·.1)).contains p.2 then fs else fs++[(p.2,p.1)]) a).map (·.1)).Nodup/\(∀p∈d,p.2∈(d.foldl (λfs p=>if (fs.map (·.1)).contains p.2 then fs else fs++[(p.2,p.1)]) a).map (·.1)) /\
  (∀q∈d.foldl (λfs p=>if (fs.map (·.1)).contains p.2 then fs else fs++[(p.2,p.1)]) a,q∈a\/(q.2,q.1)∈d):=by
 induction d with
 |nil=>simp_all
 |cons p r u=>
  intro a t;rw[foldl_cons];by_cases i:(a.map (·.1)).contains p.2=true
  ·rw[zM i];obtain⟨h,j,l,o⟩:=u a t;refine⟨h,j,λq e=>?_,λq e=>?_⟩
   ·rcases mem_cons.mp e with rfl|e
    ·exact h _ (by simpa using i)
    ·exact l q e
   ·rcases o q e with z|z
    ·exact .inl z
    ·exact .inr (by grind)
  ·rw[zN i];obtain⟨h,j,l,o⟩:=u (a++[(p.2,p.1)]) (by rw[zR];exact T4 t (λz=>i (by simpa using z)));refine⟨λn v=>h n (by rw[zR];exact Zq _ v),j,λq e=>?_,λq e=>?_⟩
   ·rcases mem_cons.mp e with rfl|e
    ·exact h _ (by simp)
    ·exact l q e
   ·rcases o q e with z|z
    ·rcases mem_append.mp z with z|z
     ·exact .inl z
     ·have:q=(p.2,p.1):=by simpa using z
      subst this;exact .inr z8
    ·exact .inr (by grind)
def Qm(a):((Al a).map (·.1)).Nodup:=(Eh a [] nodup_nil).2.1
def Qn(h:p∈aD):p.2∈(Al aD).map (·.1):=(Eh aD [] nodup_nil).2.2.1 p h
def KW(h:q∈Al aD):(q.2,q.1)∈aD:=by
 rcases (Eh aD [] nodup_nil).2.2.2 q h with z|z
 ·cases z
 lia
section
inductive spFirsts(vs:hK)(H:Hp)(Q:VK)(_E:XK):Prop
 |mk (d) (o) (aD) (aW:vs=[.ref d]) (aX:H d=some (.cb o (.dK (A8 aD)))) (bz:aD.length<=100) (bQ:∀e H',aB H H'->H e=none->H' e=some (.dK (Ci (Al aD)))->Q (.ref e) H')
def scFirsts:AH [iC,jB,ij,il] [iC] (defScope EW):=bA
def SZ{a}{i:Nat}{d}(h:(A8 a)[i]?=some d):∃p,a[i]?=some p/\d=(Sum.inr p.1,V.int (p.2:Int)):=by
 unfold A8 at h;rw[z4]at h;cases e:a[i]? with
 |none=>rw[e]at h;cases h
 |some p=>rw[e]at h;exact⟨p,zJ,(Option.some.inj h).symm⟩
def Qo(F:aN ω k4 k4 EW f fd):aE P w ω mg base aS 1 f fd [iC] spFirsts:=by
 refine F.m scFirsts λS H Q E h=>?_;obtain⟨d,o,a,rfl,J,R,k⟩:=h;refine⟨zJ,λN A C s X=>?_⟩
 refine⟨_,AC (Ab (i:=1) scFirsts.nd zJ (Or.inl zJ) Cz)
  (AC (Bw PassesOwn.never rfl (Iq (pv 0)) (BM rfl (AW (AU (i:=2) scFirsts.nd rfl (Or.inl rfl)) (AW (AU (i:=3) scFirsts.nd rfl (Or.inl rfl)) A9)))
   (AB (Ae (Bn plainAttrs_dict slot_dict_setdefault type_dict_setdefault Jl (pv 1) (AA (pv 3) (AA (pv 2) AG))))))
  (AB (AI (pv 1)))),?_⟩
 intro e v
 refine⟨_,zJ,d,o,A8 a,zJ,AE (aB.refl _) v _ _ J,Ql (λi u q=>∃B D,u=[some (.ref d),some (.ref e),B,D]/\aB H q/\q e=some (.dK (Ci (Al (a.take i)))))
  ⟨none,none,rfl,AE (aB.refl _) v,aA⟩ (λi u q m=>by obtain⟨_,_,_,t,_⟩:=m;exact t _ _ J) ?_ ?_⟩
 ·rintro i U u q p x ⟨B,D,rfl,t,j⟩ G;obtain⟨l,y,rfl⟩:=SZ x;have s3:aB H (upd q p (.tup [.str l.1,.int l.2])):=AE t G;have r:(upd q p (.tup [.str l.1,.int l.2])) e=some (.dK (Ci (Al (a.take i)))):=by rwa[AD (AJ j G)]
  have I:a.take (i+1)=a.take i++[l]:=by rw[z0,y];rfl
  have O:(Ci (Al (a.take i))).length<=100:=by
   unfold Ci;rw[AQ];have:=D3 (a.take i);rw[zX]at this
   lia
  refine⟨p,_,zJ,aP.of aA,zJ,_,_,zJ,_,_,zJ,zJ,?_⟩;refine⟨_,zJ,.inr (.inr (.inl ⟨zJ,.inl ⟨_,r⟩⟩)),_,zJ,_,zJ,e,_,Sum.inl l.2,.str l.1,zJ,zJ,r,AS (by lia),λT L=>?_,λM=>?_⟩
  ·refine⟨_,_,zJ,s3,?_⟩;have z:=Decidable.byContradiction λz=>by rw[Hj z]at L;cases L
   rwa[I,DH,zM (by simp_all)]
  ·have z:l.2∉ (Al (a.take i)).map (·.1):=λz=>by rw[JV z]at M;cases M
   refine⟨_,_,zJ,JU s3 v,?_⟩;rw[aA,I,DH,zN (by simp_all),Mu z]
 ·rintro u q ⟨B,D,rfl,t,j⟩;rw[KU,zY]at j;exact⟨_,zJ,k e q t v j⟩
end
def Mv(d1 d2:hO)(r:Str):List (Str×V):=BD "rule" (.str r) (BD jB (.ref d2) (BD iC (.ref d1) []))
def C5(a d)(r):(Mv a d r).lookup (iC:Str)=some (.ref a):=by
 rfl
def Sa(d a)(r):(Mv d a r).lookup (jB:Str)=some (.ref a):=by
 rfl
def Hk(a d)(r):(Mv a d r).lookup ("rule":Str)=some (.str r):=by
 rfl
def CT(h i)(r){m:Str}(a:¬ m="rule":=by decide +kernel)(d:¬ m=jB:=by decide +kernel)(e:¬ m=iC:=by decide +kernel):(Mv h i r).lookup m=none:=by
 unfold Mv;rw[Ay,zN a,Ay,zN d,Ay,zN e];rfl
def Ua(a):(BD iC (V.ref a) []).lookup (iC:Str)=some (.ref a):=by rfl
structure aQ(C:hO)(H:Hp)(p:hO)(aD:Aa)(r:Str):Prop where
 ex:∃dx d1 o1 d2 o2,H p=some (.ins C dx (Mv d1 d2 r))/\H d1=some (.cb o1 (.dK (A8 aD)))/\H d2=some (.cb o2 (.dK (Ci (Al aD))))
def aQ.same{d}{r}(s:aB H H')(h:aQ C H p d r):aQ C H' p d r:=by
 obtain⟨j,l,e,o,i,a,b,c⟩:=h.ex;exact⟨⟨j,l,e,o,i,s _ _ a,s _ _ b,s _ _ c⟩⟩
structure E6(K:FG)(C:hO):Prop where
 cl:eJ K C
 nN:b8 K C iC
 nF:b8 K C jB
 nR:b8 K C "rule"
noncomputable def b9:hA:=[j7,ma,jo,jZ]
section
inductive spInit(C:hO)(vs:hK)(H:Hp)(Q:VK)(_E:XK):Prop
 |mk (p dx l) (rows) (r) (aW:vs=[.ref p,.ref l,.str r]) (aX:H p=some (.ins C dx [])) (bz:RowsAt H l rows) (bQ:0<rows.length) (cw:rows.length<=10) (cX:Fv rows) (eN:r∈b9) (ff:∀H',(∀b o,H b=some o->b≠p->H' b=some o)->aQ C H' p (Ar rows) r->Q .aO H')
def WF:AH [hZ,jR,jx] [hZ,jR,jx] (defScope BX):=bA
def Sb(h:r∈b9):dz (.str r) (b9.map V.str)=true:=by
 unfold dz;rw[any_map,any_eq_true];exact⟨r,h,by show(r==r)=true;simp⟩
def Ub(F:aN ω ip jG BX f fd)(B:Bl mg)(T:E6 ω C)(hR:mg "RULES"=some (.ref M))(R:∀H,aP ω H M (b9.map V.str))
  (O:Fn P w ω mg base "numbered" 5 [jR] spNumbered) (J:Fn P w ω mg base k4 1 [iC] spFirsts) (U:Fn P w ω mg base jz 1 [ig,i1] (Cp ω)):aE P w ω mg base aS 6 f fd [hZ,jR,jx] (spInit C):=by
 obtain⟨fN,dN,O,mN,kN,bN⟩:=O.ex;obtain⟨fF,dF,J,mF,kF,bF⟩:=J.ex;obtain⟨fO,dO,U,mO,kO,bO⟩:=U.ex;refine F.m WF λvs H Q E h=>?_;obtain⟨p,t,l,a,r,rfl,hp,RA,h0,N,RO,L,k⟩:=h;refine⟨zJ,λae A Y s hr=>?_⟩;have D:aJ 1 _:=hr.mono qc
 refine⟨_,AC (CG (pv 0) (AO O hr zJ mN kN bN .nil AT (AA (pv 1) AG)) zJ)
  (FN (AC (AY (Aw (Ao (AO U D rfl mO kO bO .nil AT (AA (pv 2) (AA (BJ (v:=.ref M) rfl hR rfl) AG))))) (AB Ag) AM)
  (AC (CG (pv 0) (AO J D rfl mF kF bF .nil AT (AA (Af (pv 0) rfl) AG)) rfl)
  (FN (AB (CG (pv 0) (pv 2) rfl)))))),?_⟩
 refine⟨_,zJ,l,a,zJ,RA,h0,N,RO,λq H1 I i gq=>?_⟩;have u:=AJ hp i;refine⟨_,zJ,p,C,t,[],zJ,I _ _ hp,T.cl,T.nN,(by simp),?_⟩;refine⟨q,A8 (Ar a),by rw[AD (Ne.symm u)];lia,λS=>?_⟩;refine⟨_,zJ,.inr ⟨r,M,b9,zJ,R _,_,zJ,?_⟩⟩;rw[Sb L];apply AV;have x:∀o,(upd (upd H1 p (.ins C t (BD iC (.ref q) []))) q o) p=some (.ins C t (BD iC (.ref q) [])):=λo=>by rw[AD u,aA]
 refine⟨_,zJ,p,C,t,_,_,zJ,x _,T.cl,T.nN,Ua q,q,S,Ar a,zJ,aA,by rw[B6];lia,λy H2 Z d hd2=>?_⟩;have j:=AJ (x _) d;refine⟨_,zJ,p,C,t,_,zJ,Z _ _ (x _),T.cl,T.nF,(by show 1<1000;decide),?_⟩;refine⟨y,Ci (Al (Ar a)),by rw[AD (Ne.symm j)];lia,λo2=>?_⟩;have X:∀o,(upd (upd H2 p (.ins C t (BD jB (.ref y) (BD iC (.ref q) [])))) y o) p=some (.ins C t (BD jB (.ref y) (BD iC (.ref q) []))):=λo=>by rw[AD j,aA]
 refine⟨_,zJ,_,zJ,p,C,t,_,zJ,X _,T.cl,T.nR,Nat.lt_of_le_of_lt (Az _ _ _) (by show 2<1000;decide),?_⟩;refine k _ (λb o e G=>?_) ⟨⟨t,q,S,y,o2,aA,?_,?_⟩⟩
 ·rw[AD G,AD,AD G]
  ·apply Z _ _;rw[AD (AJ e i),AD G];exact I _ _ e
  ·intro z;subst z
   have:(upd (upd H1 p (.ins C t (BD iC (.ref q) []))) q (.cb S (.dK (A8 (Ar a))))) b=some o:=by
    rw[AD (AJ e i),AD G];exact I _ _ e
   rw[d]at this;cases this
 ·rw[AD (Ne.symm u),AD (AJ (aA) d),AD (Ne.symm u)];exact Z _ _ aA
 ·rw[AD (Ne.symm j),aA]
end
structure Mt(P:Program)(w:World)(K:FG)(mg:SV)(base:Heap)(C:hO)(m:Str)(k:Nat)(ps:hA)(sp:Sp):Prop where
 ex:∃f fd,aE P w K mg base aS k f fd ps sp/\Nj K C m f/\Binds K fd ps []
noncomputable def Da(aD:Aa):List (V×V):=aD.map λp=>(V.str p.1,V.int (p.2:Int))
def B9(aD:Aa):List Nat:=((Al aD).map (·.1)).mergeSort λa b=>decide (a<=b)
def BN(aD:Aa):List Nat:=(B9 aD).filter Cg
def PR(aD:Aa):List (V×V):=(BN aD).map λn=>(V.str (Ms (Al aD) n),V.int (n:Int))
def D4(a):(B9 a).Perm ((Al a).map (·.1)):=List.mergeSort_perm _ _
def Gk(d):(B9 d).Pairwise (· <= ·):=by
 have:=List.pairwise_mergeSort (le:=λa b=>decide (a<=b)) (λa b c e i=>by lia) (λa b=>by lia) ((Al d).map (·.1));exact this.imp λh=>by simp_all
def Sc{d}{j}(o:j.Perm ((Ci (Al d)).map λl=>match l.1 with|Sum.inl i=>i|Sum.inr _=>0))(hs:j.Pairwise (· <= ·)):j=(B9 d).map λn:Nat=>(n:Int):=by
 apply List.Perm.eq_of_pairwise (le:=(· <= ·)) (λa b _ _ p q=>Int.le_antisymm p q) hs
 ·rw[pairwise_map];exact(Gk d).imp λh=>by lia
 ·have e:((Ci (Al d)).map λl=>match l.1 with|Sum.inl i=>i|Sum.inr _=>0)=((Al d).map (·.1)).map λn:Nat=>(n:Int):=by
   unfold Ci;rw[map_map,map_map];rfl
  rw[e]at o;exact o.trans ((D4 d).symm.map _)
def mem_keysS{a}{n}:n∈B9 a ↔ n∈(Al a).map (·.1):=(D4 a).mem_iff
def KY(a):(B9 a).length<=a.length:=by
 rw[(D4 a).length_eq,AQ];exact D3 a
section
inductive spRows(C:hO)(vs:hK)(H:Hp)(Q:VK)(_E:XK):Prop
 |mk (p) (aD) (r) (aW:vs=[.ref p]) (aX:aQ C H p aD r) (bz:∀l as H',aB H H'->H' l=some (.lst (as.map V.ref))->aF H' as (Da aD)->Q (.ref l) H')
def WG:AH [hZ] [hZ] (defScope HM):=bA
def Uc(a):(A8 a).map (λd=>(kV d.1,d.2))=Da a:=by unfold A8 Da;rw[map_map];rfl
def Ud(F:aN ω jR "Kind.rows" HM f fd)(B:Bl mg)(T:E6 ω C):aE P w ω mg base aS 1 f fd [hZ] (spRows C):=by
 refine F.m WG λM H Q E h=>?_;obtain⟨p,z,r,rfl,I,k⟩:=h;refine⟨zJ,λo A i s N=>?_⟩;obtain⟨D,a,e,L,O,q,d,J⟩:=I.ex;refine⟨_,AB (AI (BG (N3 zJ) zJ B.list Ez (AA (Rr slot_dict_items type_dict_items Rs (Af (pv 0) zJ)) AG))),?_⟩;refine⟨_,zJ,p,C,D,_,_,zJ,q,T.cl,T.nN,C5 _ _ _,a,zJ,.inl ⟨_,.inr ⟨e,d⟩⟩,a,_,zJ,zJ,.inr ⟨e,d⟩,λv u=>?_⟩;have j:aB H (upd H v (O1 a v)):=AE (aB.refl _) u;refine⟨v,a,_,zJ,aA,aB.rd j (.inr ⟨e,d⟩),λl x t G _ y ht=>?_⟩;rw[Uc]at ht;exact k l x t (j.trans G) y ht
inductive spKnown(C:hO)(vs:hK)(H:Hp)(Q:VK)(_E:XK):Prop
 |mk (p) (aD) (r) (aW:vs=[.ref p]) (aX:aQ C H p aD r) (bz:∀H',aB H H'->Q (.int (Aj ((Al aD).map (·.1)):Nat)) H')
def Ue:AH [hZ] [hZ] (defScope Fc):=bA
def Sd(F:aN ω jf "Kind.known" Fc f fd)(B:Bl mg)(T:E6 ω C)(a:Fn P w ω mg base ko 1 [iC] (spUnionOf ω)):aE P w ω mg base aS 2 f fd [hZ] (spKnown C):=by
 obtain⟨L,M,a,D,t,u⟩:=a.ex;refine F.m Ue λJ H Q E h=>?_;obtain⟨p,d,r,rfl,G,k⟩:=h;refine⟨zJ,λi A e s x=>?_⟩;obtain⟨z,O,N,q,y,o,I,j⟩:=G.ex;refine⟨_,AB (AI (AO a x zJ D t u .nil AT (AA (BG (N1 zJ) zJ B.list Ez (AA (Af (pv 0) zJ) AG)) AG))),?_⟩;refine⟨_,zJ,p,C,z,_,_,zJ,o,T.cl,T.nF,Sa _ _ _,q,_,zJ,.inr ⟨y,j⟩,λl v=>?_⟩;refine⟨l,(Al d).map (·.1),zJ,aH.of (by rw[aA];unfold Ci A0;rw[map_map,map_map];rfl),k _ (AE (aB.refl _) v)⟩
def Qp(s:aB H H')(h:aF H as ps)(a:H' b=some (.tup [p.1,p.2])):aF H' (as++[b]) (ps++[p]):=Paired.snoc (aF.same s h) a
end
def Mw{H}{d}{a}{i:Nat}{b}(h:aF H d a)(e:d[i]?=some b):∃p,a[i]?=some p/\H b=some (.tup [p.1,p.2]):=Dz h e
section
def aQ.ins{H}{d}{C}{p}{r}(h:aQ C H p d r):∃e i j,H p=some (.ins C e (Mv i j r)):=by
 obtain⟨e,i,l,j,o,a,_⟩:=h.ex
 grind
def Qq(a):(PR a).length=(BN a).length:=AQ _
end
def PU(h:∀p∈a,p.2<2^20):∀n∈(Al a).map (·.1),n<2^20:=λn d=>by
 obtain⟨q,e,rfl⟩:=zO.mp d;exact h _ (KW e)
def Se(h:∀p∈a,p.2<2^20):∀n∈BN a,n<2^20:=λn d=>PU h n (mem_keysS.mp (mem_filter.mp d).1)
def Gm(a:0<=x)(h:x<2^n):Builtin.Int.intBits x<=n:=by
 obtain⟨m,rfl⟩:=Int.eq_ofNat_of_zero_le a;rcases Nat.eq_zero_or_pos m with e|d
 ·subst e;exact Nat.zero_le _
 ·rw[EV d];exact(Nat.log2_lt (by lia)).mpr (by exact_mod_cast h)
def Hl(a:0<=i)(d:i<xs.length):∃v,eM xs i=some v/\xs[i.toNat]?=some v:=by
 refine⟨xs[i.toNat],?_,Z7 (by lia)⟩;unfold eM fc
 simp_all
structure aK(d:hO)(H H':Hp):Prop where
 old:∀b o,H b=some o->b≠d->H' b=some o
 b6:∃a b,H' d=some (.lst [.int a,.int b])
def aK.step(x:aK d H H1)(s:aB H1 i):aK d H i:=
 ⟨λb o e h=>s _ _ (x.old b o e h),by obtain⟨a,b,e⟩:=x.b6;exact⟨a,b,s _ _ e⟩⟩
def aK.upd(x:aK d H H1):aK d H (upd H1 d (.lst [.int a,.int b])):=
 ⟨λc o e h=>by rw[AD h];exact x.old c o e h,⟨a,b,aA⟩⟩
def aK.trans(x:aK d H H1)(y:aK d H1 h):aK d H h:=⟨λb o e a=>y.old _ _ (x.old b o e a) a,y.b6⟩
section
inductive spCell(K:FG)(vs:hK)(H:Hp)(Q:VK)(_E:XK):Prop
 |mk (a) (ns:List Int) (k) (aW:vs=[.ref a,.int k]) (aX:aH K H a (ns.map V.int)) (bz:ns.length<=63) (bQ:0<=k) (cw:∀v H',aB H H'->Q (.int v) H')
def WH:AH [iD,j8] [iD,j8] (defScope JP):=bA
def Uf(F:aN ω lR lR JP f fd)(B:Bl mg):aE P w ω mg base aS 1 f fd [iD,j8] (spCell ω):=by
 refine F.m WH λI H Q E h=>?_;obtain⟨a,e,y,rfl,i,x,J,k⟩:=h;refine⟨zJ,λr A l s D=>?_⟩
 refine⟨_,AC (AY (AK (Vx ω zJ D.units) (pv 0) (A5 AG) (AN _)) (AB (AI (AZ IZ (pv 1) AF))) AM)
  (AB (AI (AZ CC (An (Ak ω rfl) (pv 0) (AZ FJ (pv 1) (AR (A3 ω rfl) rfl B.len PySem.boot_len (AA (pv 0) AG))) (λ_ _=>rfl))
   (AZ IZ (AZ On (pv 1) (AR (A3 ω rfl) rfl B.len PySem.boot_len (AA (pv 0) AG))) AF)))),?_⟩
 refine⟨_,zJ,Nat.zero_le _,λp t=>?_⟩;have d:aB H (upd H p (.lst [])):=AE (aB.refl _) t;refine⟨a,p,e,[],zJ,zJ,d.seq i,aH.of aA,_,zJ,?_⟩;refine BH (λq=>?_) (λq=>?_)
 ·exact⟨_,zJ,_,_,zJ,zJ,.inr ⟨qc,qc⟩,k _ _ d⟩
 ·have o:=List.length_pos_iff.mpr (λz=>q (Zm z));have C:(e.map V.int).length=e.length:=AQ _;have j:0<=y%((e.map V.int).length):=Int.emod_nonneg _ (by lia);obtain⟨v,u,G⟩:=Hl j (Int.emod_lt_of_pos _ (by lia))
  obtain⟨n,rfl⟩:∃n,v=V.int n:=by
   grind
  refine⟨_,zJ,_,zJ,_,zJ,a,_,zJ,.inl (d.seq i),_,_,zJ,zJ,(by rw[C];lia),a,_,_,_,zJ,zJ,d.seq i,u,?_⟩;exact⟨_,zJ,_,zJ,a,_,zJ,.inl (d.seq i),_,_,zJ,zJ,⟨by lia,by lia⟩,_,_,zJ,zJ,.inr ⟨qc,qc⟩,_,_,zJ,zJ,k _ _ d⟩
inductive spDrawn(vs:hK)(H:Hp)(Q:VK)(_E:XK):Prop
 |mk (c k) (aW:vs=[.int c,.int k]) (aX:∀r,0<=r->Q (.int r) H)
def scDrawn:AH [jE,j8,"_law_more"] [jE,j8] (defScope HY):=bA
def Sf(F:aN ω kf kf HY f fd):aE P w ω mg base aS 1 f fd [jE,j8] spDrawn:=by
 refine F.m scDrawn λv H Q E h=>?_;obtain⟨c,e,rfl,k⟩:=h;refine⟨zJ,λr A j s x=>?_⟩
 refine⟨_,AC (Ab (i:=2) scDrawn.nd zJ (Or.inl zJ) (AZ FJ (AZ CC (AZ IZ (pv 0) AF) (AZ IZ (AZ CC (pv 1) AF) AF)) AF))
  (AC (Ab (i:=2) scDrawn.nd rfl (Or.inl rfl) (AZ FJ (AZ K1 (pv 2) (pv 2)) AF))
  (AC (Ab (i:=2) scDrawn.nd rfl (Or.inl rfl) (AZ K1 (AZ K1 (AZ CC (AZ FJ (pv 2) AF) AF) (AZ CC (AZ MD (pv 2) AF) AF)) (pv 2)))
  (AB (AI (AZ FJ (pv 2) AF))))),?_⟩
 refine⟨_,zJ,_,_,zJ,zJ,.inr ⟨qc,qc⟩,_,zJ,_,_,zJ,zJ,_,_,zJ,zJ,.inr ⟨qc,qc⟩,_,_,zJ,zJ,_,_,zJ,zJ,(by show 0<_;decide),?_⟩;generalize l:(c*6364136223846793005+(e+1)*1442695040888963407)%340282366920938463463374607431768211507=m1
 have p:0<=m1/\m1<2^130:=by
  rw[←l];exact⟨Int.emod_nonneg _ qc,Int.lt_trans (Int.emod_lt_of_pos _ qc) qc⟩
 have b1:Builtin.Int.intBits m1<=2^20:=Nat.le_trans (Gm p.1 p.2) qc;subst l;refine⟨_,zJ,_,zJ,_,_,zJ,zJ,⟨b1,b1⟩,_,_,zJ,zJ,(by show 0<_;decide),?_⟩;generalize q:(c*6364136223846793005+(e+1)*1442695040888963407)%340282366920938463463374607431768211507*((c*6364136223846793005+(e+1)*1442695040888963407)%340282366920938463463374607431768211507)%340282366920938463463374607431768211297=m2
 have o:0<=m2/\m2<2^130:=by
  rw[←q];exact⟨Int.emod_nonneg _ qc,Int.lt_trans (Int.emod_lt_of_pos _ qc) qc⟩
 have d:0<=m2%18446744073709551557+1/\m2%18446744073709551557+1<2^65:=by
  lia
 have a:0<=m2/18446744073709551557+1/\m2/18446744073709551557+1<2^131:=by
  lia
 have t:=Int.mul_nonneg d.1 a.1
 have u:(m2%18446744073709551557+1)*(m2/18446744073709551557+1)<2^196:=by
  have:=Int.mul_lt_mul' (Int.le_of_lt d.2) a.2 a.1 qc;exact Int.lt_of_lt_of_le this qc
 subst q;refine⟨_,zJ,_,_,zJ,zJ,(by show 0<_;decide),_,_,zJ,zJ,_,zJ,_,_,zJ,zJ,⟨qc,PyProof.noPylong_of_log2 (by trivial)⟩,_,_,zJ,zJ,_,_,zJ,zJ,⟨Nat.le_trans (Gm d.1 d.2) qc,Nat.le_trans (Gm a.1 a.2) qc⟩,?_⟩;refine⟨_,zJ,_,_,zJ,zJ,⟨Nat.le_trans (Gm t u) qc,Nat.le_trans (Gm o.1 o.2) qc⟩,?_⟩;exact⟨_,zJ,_,_,zJ,zJ,(by show 0<_;decide),k _ (by lia)⟩
inductive cE(vs:hK)(H:Hp)(Q:VK)(_E:XK):Prop
 |mk (d) (a b m) (aW:vs=[.ref d,.int m]) (aX:H d=some (.lst [.int a,.int b])) (bz:0<m) (bQ:m<1073741824) (cw:∀r a' b',0<=r->r<m->Q (.int r) (upd H d (.lst [.int a',.int b'])))
def scRoll:AH [ia,iO,"_law_told_here"] [ia,iO] (defScope Gf):=bA
inductive spRollB(vs:hK)(H:Hp)(Q:VK)(_E:XK):Prop
 |mk (d) (a b m) (aW:vs=[.ref d,.int m]) (aX:H d=some (.lst [.int a,.int b])) (bz:0<m) (bQ:m.natAbs.log2<9000) (cw:∀r a' b',0<=r->r<m->Q (.int r) (upd H d (.lst [.int a',.int b'])))
def Mx(F:aN ω iP iP Gf f fd)(o:Fn P w ω mg base kf 1 [jE,j8] spDrawn):aE P w ω mg base aS 2 f fd [ia,iO] spRollB:=by
 obtain⟨B,D,o,x,z,u⟩:=o.ex;refine F.m scRoll λC H Q E h=>?_;obtain⟨d,a,b,m,rfl,e,l,v,k⟩:=h;refine⟨zJ,λq A p s y=>?_⟩
 refine⟨_,AC (AY (AK Ln (An (Ak ω zJ) (pv 0) AF (λ_ _=>rfl)) (AZ Ni AF AF) (AN _))
   (AC (Ab (i:=2) scRoll.nd rfl (Or.inl rfl) (AZ FJ (An (Ak ω rfl) (pv 0) AF (λ_ _=>rfl)) (pv 1)))
   (AC (Bd (AZ MD (An (Ak ω rfl) (pv 0) AF (λ_ _=>rfl)) (pv 1)) (Kj (pv 0) AF Fy))
   (AB (AI (pv 2))))) AM)
  (AC (Bd (AZ CC (An (Ak ω rfl) (pv 0) AF (λ_ _=>rfl)) AF) (Kj (pv 0) AF Fy))
  (AB (AI (AZ FJ (AZ On (AO o y rfl x z u .nil AT (AA (An (Ak ω rfl) (pv 0) AF (λ_ _=>rfl)) (AA (An (Ak ω rfl) (pv 0) AF (λ_ _=>rfl)) AG))) AF) (pv 1))))),?_⟩
 refine⟨_,zJ,d,_,0,.int a,zJ,zJ,aH.of e,BR zJ,_,_,zJ,zJ,⟨qc,qc,qc⟩,_,_,zJ,zJ,_,zJ,?_⟩;refine BH (λ_=>?_) (λ_=>?_)
 ·refine⟨_,zJ,d,_,0,.int a,zJ,zJ,aH.of e,BR zJ,_,zJ,_,_,zJ,zJ,l,?_⟩;refine⟨_,zJ,d,_,0,.int a,zJ,zJ,aH.of e,BR zJ,_,zJ,_,_,zJ,zJ,⟨l,PyProof.noPylong_of_log2 v⟩,_,zJ,d,_,0,0,zJ,zJ,e,zJ,?_⟩;exact⟨_,zJ,k _ (a/m) b (Int.emod_nonneg _ (by lia)) (Int.emod_lt_of_pos _ l)⟩
 ·refine⟨_,zJ,d,_,1,.int b,zJ,zJ,aH.of e,BR zJ,_,_,zJ,zJ,_,zJ,d,_,1,1,zJ,zJ,e,zJ,?_⟩;have j:(upd H d (.lst ([V.int a,V.int b].set 1 (V.int (b+1))))) d=some (.lst [.int a,.int (b+1)]):=aA;refine⟨_,zJ,d,_,0,.int a,zJ,zJ,aH.of j,BR zJ,_,zJ,d,_,1,.int (b+1),zJ,zJ,aH.of j,BR zJ,_,_,zJ,λr t=>?_⟩;refine⟨_,_,zJ,zJ,⟨qc,qc⟩,_,zJ,_,_,zJ,zJ,l,?_⟩;exact k _ a (b+1) (Int.emod_nonneg _ (by lia)) (Int.emod_lt_of_pos _ l)
def Sh(F:aE P w ω mg base CX k f fd ps sp)(h:∀vs H Q E,e vs H Q E->sp vs H Q E):aE P w ω mg base CX k f fd ps e:=
 ⟨λvs H Q E q=>F.len _ _ _ _ (h _ _ _ _ q),λA a s H d p vs Q E i l j o q=>F.run A a s H d p vs Q E i l j o (h _ _ _ _ q)⟩
def Ug(F:aN ω iP iP Gf f fd)(j:Fn P w ω mg base kf 1 [jE,j8] spDrawn):aE P w ω mg base aS 2 f fd [ia,iO] cE:=Sh (Mx F j) λp H Q E h=>by
 obtain⟨d,a,b,m,e,i,l,o,q⟩:=h;refine⟨d,a,b,m,e,i,l,?_,q⟩
 have:m.natAbs<2^30:=by
  lia
 have:=(Nat.log2_lt (by lia)).mpr this
 lia
inductive spRuleOf(vs:hK)(H:Hp)(Q:VK)(_E:XK):Prop
 |mk (d) (a b) (aW:vs=[.ref d]) (aX:H d=some (.lst [.int a,.int b])) (bz:∀r H',r∈([j7,ma,jo,jZ]:hA)->aK d H H'->Q (.str r) H')
def Si:AH [ia] [ia] (defScope Fp):=bA
def Qr(F:aN ω ku ku Fp f fd)(l:Fn P w ω mg base iP 2 [ia,iO] cE):aE P w ω mg base aS 3 f fd [ia] spRuleOf:=by
 obtain⟨X,T,l,M,C,G⟩:=l.ex;refine F.m Si λU H Q E h=>?_;obtain⟨d,a,b,rfl,y,k⟩:=h;refine⟨zJ,λB A q s L=>?_⟩;refine⟨_,AB (AI (An (Ak ω zJ) (A5 (AA AL (AA AL (AA AL (AA AL AG))))) (AO l L zJ M C G .nil AT (AA (pv 0) (AA AF AG))) (λ_ _=>rfl))),?_⟩;refine⟨(by trivial),λp u=>?_⟩;have i:=AJ y u;refine⟨_,zJ,d,a,b,4,zJ,by rw[AD i];exact y,qc,qc,λr I J N S=>?_⟩;obtain⟨v,D,t⟩:=Hl (xs:=[V.str j7,V.str ma,V.str jo,V.str jZ]) N qe
 have j:∃x,v=.str x/\x∈([j7,ma,jo,jZ]:hA):=by
  have:=Zr t;simp at this;rcases this with z|z|z|z
  ·exact⟨_,z,by simp⟩
  ·exact⟨_,z,by simp⟩
  ·exact⟨_,z,by simp⟩
  ·exact⟨_,z,by simp⟩
 obtain⟨x,rfl,O⟩:=j;refine⟨p,_,r,_,zJ,zJ,aH.of (by rw[AD (Ne.symm i),aA]),D,k x _ O ⟨λc o e R=>?_,⟨I,J,aA⟩⟩⟩
 rwa[AD R,AD (AJ e u)]
end
def PV(n k:Nat):decide (V.int (Builtin.bitAnd ((n)/2^((0:Int)+(k)).toNat) 1)=V.int 1)=n.testBit k:=by
 have d:(0+(k:Int)).toNat=k:=by lia
 have a:(n:Int)/2^k=((n/2^k:Nat)):=by push_cast;rfl
 have e:Builtin.bitAnd ((n/2^k:Nat)) 1=((n/2^k%2:Nat)):=by
  have:=Cl (n/2^k) 1
  rwa[Nat.and_one_is_mod]at this
 rw[d,a,Nat.testBit_eq_decide_div_mod_eq];refine decide_eq_decide.mpr ⟨λh=>?_,λh=>?_⟩
 ·lia
 simp_all
section
inductive spRounds(K:FG)(vs:hK)(H:Hp)(Q:VK)(_E:XK):Prop
 |mk (a) (ns:List Int) (aW:vs=[.ref a,.int 3]) (aX:aH K H a (ns.map V.int)) (bz:ns.length<=63) (bQ:∀l(as:List hO)H',aB H H'->H' l=some (.lst (as.map V.ref))->as.Nodup->l∉ as->as.length<=4->(∀b∈as,H b=none/\∃x y,H' b=some (.lst [.int x,.int y]))->Q (.ref l) H')
def Sj:AH [iD,iY] [iD,iY] (defScope Fk):=bA
def Qs(F:aN ω la la Fk f fd)(B:Bl mg)(M:Fn P w ω mg base lR 1 [iD,j8] (spCell ω)):aE P w ω mg base aS 2 f fd [iD,iY] (spRounds ω):=by
 obtain⟨fC,dC,M,Y,kC,bC⟩:=M.ex;refine F.m Sj λvs H Q E h=>?_;obtain⟨a,u,rfl,U,I,k⟩:=h;refine⟨zJ,λX A L s hr=>?_⟩
 refine⟨_,AB (AI (BW [iD] [some 0] (by rfl) (by trivial) (by rfl) rfl
  (CB rfl B.range (AA (AR (P3 rfl) rfl B.max WD (AA AF (AA (AR (P4 rfl) rfl B.min WC (AA (pv 1) (AA (AR (A3 ω rfl) rfl B.len PySem.boot_len (AA (pv 0) AG)) AG))) AG))) AG))
  (λ_ _ _ _ _ _=>BS)
  (λ_ _ _ _ _ _=>A5 (AA (AO M hr rfl Y kC bC .nil AT (AA (pv 1) (AA (pv 0) AG))) (AA AF AG))))),?_⟩
 refine⟨_,zJ,_,zJ,a,_,zJ,.inl U,_,_,zJ,_,_,zJ,_,zJ,?_,?_,?_⟩
 ·lia
 ·lia
 ·generalize hn:(if (if (((u.map V.int).length):Int)<3 then (((u.map V.int).length):Int)else 3)>1 then (if (((u.map V.int).length):Int)<3 then (((u.map V.int).length):Int)else 3)else 1).toNat=n
  have n5:n<=4:=by
   rw[←hn];split<;>split<;>lia
  apply FM (lo:=0) (n:=n) (λi G D=>∃d,G=d.map V.ref/\d.length=i/\i<=4/\aB H D/\d.Nodup/\∀b∈d,H b=none/\∃x y,D b=some (.lst [.int x,.int y])) ⟨[],rfl,rfl,qc,aB.refl _,nodup_nil,λb q=>nomatch q⟩
  ·grind
  ·rintro i G D hi ⟨d,rfl,e,Z,C,J,q⟩;refine⟨_,zJ,_,zJ,a,u,_,zJ,C.seq U,I,by lia,λv H3 s3=>⟨dh,λp r=>?_⟩⟩;refine⟨d++[p],by simp_all,by simp_all,by lia,AE (C.trans s3) r,?_,λb j=>?_⟩
   ·refine List.nodup_append.mpr ⟨J,zP.mpr ⟨not_mem_nil,nodup_nil⟩,?_⟩;intro x hx y R;rw[z6]at R;subst R;obtain⟨_,T,O,t⟩:=q x hx;exact AJ (s3 _ _ t) r
   ·rcases mem_append.mp j with z|z
    ·obtain⟨N,T,O,t⟩:=q b z;exact⟨N,T,O,AE s3 r _ _ t⟩
    ·rw[z6]at z;subst z;refine⟨?_,v,0,aA⟩;cases e:H b with
     |none=>rfl
     |some o=>
      have:=s3 _ _ (C _ _ e);rw[this]at r;cases r
  ·rintro G D ⟨d,rfl,e,Z,C,J,q⟩ l S;refine k l d _ (AE C S) aA J ?_ (by lia) λb j=>?_
   ·grind
   ·obtain⟨N,x,y,t⟩:=q b j;exact⟨N,x,y,AE (aB.refl _) S _ _ t⟩
inductive spBitsOf(vs:hK)(H:Hp)(Q:VK)(_E:XK):Prop
 |mk (n:Nat) (aW:vs=[.int (n)]) (aX:∀l ys H',aB H H'->H' l=some (.lst ys)->ys.length=(FZ n).length->Q (.ref l) H')
def Sk:AH [iA] [iA] (defScope Fl):=bA
def Qt(F:aN ω ky ky Fl f fd)(B:Bl mg):aE P w ω mg base aS 1 f fd [iA] spBitsOf:=by
 refine F.m Sk λt H Q E h=>?_;obtain⟨n,rfl,k⟩:=h;refine⟨zJ,λo A d s v=>?_⟩
 refine⟨_,AB (AI (BW [iA] [some 0] (by rfl) (by trivial) (by rfl) zJ (CB zJ B.range (AA AF AG))
  (λ_ _ _ _ _ _=>F8 (AK As (AZ CD (AZ Vk (pv 1) (pv 0)) AF) AF (AN _)))
  (λ_ _ _ _ _ _=>AZ Kk AF (pv 0)))),?_⟩
 refine⟨42,zJ,qc,qc,?_⟩;apply FM (lo:=0) (n:=42) (λi a j=>a.length=((List.range i).filter λk=>n.testBit k).length/\i<=42/\j=H) ⟨rfl,qc,rfl⟩
 ·grind
 ·rintro i a j u ⟨e,_,rfl⟩;refine⟨_,zJ,_,zJ,_,_,zJ,zJ,(by lia),_,_,zJ,zJ,?_⟩;refine⟨zJ,_,zJ,?_⟩
  have r:((List.range (i+1)).filter λk=>n.testBit k).length=((List.range i).filter λk=>n.testBit k).length+(if n.testBit i then 1 else 0):=by
   rw[List.range_succ,List.filter_append,z7,filter_cons];split<;>rfl
  refine BH (λh=>?_) (λh=>?_)
  ·have q:n.testBit i=true:=by rwa[←PV]
   refine⟨_,zJ,_,_,zJ,zJ,⟨by lia,by lia,by lia⟩,?_,by lia,zJ⟩
   simp_all
  ·have q:n.testBit i=false:=by rw[←PV];exact Bool.eq_false_iff.mpr h
   refine⟨?_,by lia,zJ⟩
   simp_all
 ·rintro a j ⟨e,_,rfl⟩ l p;exact k l a _ (AE (aB.refl _) p) aA e
end
end Mk
end
section
namespace L2
open PySem
def Xk(t u:TS):TS:=λD σ H=>∃G:St->Hp->Prop,(∀R,(∀σ H,G σ H->R σ H)->t {D with nx:=R} σ H)/\∀σ H,G σ H->u D σ H
def Aq{st}(e:PS X st t)(i:c8 X rest u):c8 X (st::rest) (Xk t u):=λd s h H D I z=>by obtain⟨_,a,b⟩:=z;exact AC e i d s h H D I (a (u D) b)
end L2
namespace Mk
open PySem L2 MK
def aU(H H':Hp):Prop:=∀b xs,H b=some (.tup xs)->H' b=some (.tup xs)
def aU.of(s:aB H H'):aU H H':=λb a e=>s _ _ e
def aU.upd(h:H d=some (.lst xs)):aU H (upd H d (.lst ys)):=λb a e=>by
 rwa[AD (λz=>by simp_all)]
def aU.trans(x:aU H H1)(y:aU H1 a):aU H a:=λb d e=>y _ _ (x _ _ e)
def aF.aV(s:aU H H')(h:aF H as ps):aF H' as ps:=Paired.mapP h λ_ _ e=>s _ _ e
def d6.aV(s:aU H H')(h:d6 H v th):d6 H' v th:=by
 cases th with
 |aO=>exact h
 |num n=>exact h
 |gO d=>obtain⟨a,e,h⟩:=h;exact⟨a,e,s _ _ h⟩
def cC.aV{r}(s:aU H H')(h:cC H b r):cC H' b r:=by
 obtain⟨a,e,t⟩:=h;exact⟨a,s _ _ e,t.aV s⟩
def CO(s:aU H H')(h:Paired (cC H) as rows):Paired (cC H') as rows:=Paired.mapP h λ_ _ e=>e.aV s
noncomputable def IM(aD:Aa):List PyData:=aD.map λp=>.tuple [.str p.1,.int (p.2:Int)]
def Sl(h:H b=some (.tup [.str x,.int n])):CJ ω H (.tuple [.str x,.int n]) (.ref b):=by
 refine⟨b,_,zJ,aP.of h,?_⟩;refine⟨_,_,zJ,by rw[CJ],?_⟩;refine⟨_,_,zJ,by rw[CJ],?_⟩;rw[Bq]
def Gn:∀{a}{bs},aF H bs (Da a)->Bq ω H (IM a) (bs.map V.ref)
 | [],bs,h=>by
  have:=List.eq_nil_of_length_eq_zero (by rw[h.length];rfl);subst this;show Bq ω H [] [];rw[Bq]
 |p::r,[],h=>by have:=h.length;simp[Da]at this
 |p::r,b::bs,h=>by
  have d:H b=some (.tup [.str p.1,.int p.2])/\aF H bs (Da r):=by
   cases h with
   |cons e i=>trivial
  show Bq ω H (.tuple [.str p.1,.int p.2]::IM r) (V.ref b::bs.map V.ref);exact⟨_,_,zJ,Sl d.1,Gn d.2⟩
def Go:∀xs:hA,Bq ω H (xs.map PyData.str) (xs.map V.str)
 | []=>by show Bq ω H [] [];rw[Bq]
 |x::r=>by
  show Bq ω H (.str x::r.map PyData.str) (V.str x::r.map V.str);exact⟨_,_,zJ,by rw[CJ],Go r⟩
def Cd(h:H l=some (.lst xs))(d:Bq ω H ds xs):CJ ω H (.list ds) (.ref l):=by
 exact⟨l,xs,zJ,aH.of h,d⟩
def Uh:Bq ω H [] []:=by rw[Bq]
def PX(ds):PyData.eqv (.list ds) (.list [])=ds.isEmpty:=by
 cases ds with
 |nil=>rfl
 |cons a r=>rfl
def Gp(h:x.cps.all (· < 128)=true):PyData.strOk x=true:=by
 unfold PyData.strOk
 grind
def OW(h:∀d∈ds,d.canLay0=true):PyData.canLayAll0 ds=true:=by
 induction ds with
 |nil=>rfl
 |cons a r e=>rw[PyData.canLayAll0,h a z8,e λd i=>h d (by grind)];rfl
def WI(h:∀d∈ds,d.depth<=k):PyData.depthAll ds<=k:=by
 induction ds with
 |nil=>rw[PyData.depthAll];simp
 |cons a r e=>rw[PyData.depthAll];grind
def IG(h:∀d∈ds,d.canLay0=true/\d.depth<=60):SeqAt.shaped (.list ds)=true:=by
 unfold SeqAt.shaped;rw[Bool.and_eq_true,decide_eq_true_eq];refine⟨by rw[PyData.canLay0];exact OW λd a=>(h d a).1,?_⟩;rw[PyData.depth];have:=WI λd a=>(h d a).2
 lia
def Sm(h:x.cps.all (· < 128)=true):(PyData.tuple [.str x,.int n]).canLay0=true/\(PyData.tuple [.str x,.int n]).depth<=60:=by
 refine⟨?_,?_⟩
 ·refine OW λd a=>?_;simp at a;rcases a with rfl|rfl
  ·exact Gp h
  rfl
 ·simp only[PyData.depth,PyData.depthAll]
  lia
def Ei(h:∀p∈a,p.1.cps.all (· < 128)=true):SeqAt.shaped (.list (IM a))=true:=IG λd i=>by
 obtain⟨p,e,rfl⟩:=zO.mp i;exact Sm (h p e)
def Ej{xs:hA}(h:∀x∈xs,x.cps.all (· < 128)=true):SeqAt.shaped (.list (xs.map PyData.str))=true:=IG λd e=>by
 obtain⟨x,a,rfl⟩:=zO.mp e;exact⟨by rw[PyData.canLay0];exact Gp (h x a),by simp[PyData.depth]⟩
def OX:SeqAt.shaped (.list [])=true:=by rfl
def uni(aD:Aa)(ns:hA):Nat:=Aj (aD.map λp=>if dz (.str p.1) (ns.map V.str)then p.2 else 0)
def PY(x)(a:hA):dz (.str x) (a.map V.str)=a.any (· == x):=by
 unfold dz;rw[any_map];rfl
def C6(a:(aD.map (·.1)).Nodup)(h:p∈aD):look aD p.1=p.2:=by
 induction aD with
 |nil=>cases h
 |cons q r d=>
  rw[map_cons,zP]at a;unfold look;by_cases e:q.1=p.1
  ·simp_all
  ·rw[List.find?_cons_of_neg (by simp_all)];rcases mem_cons.mp h with z|z
   ·simp_all
   ·exact d a.2 z
def WJ(l:(aD.map (·.1)).Nodup)(hs:∀x∈h,x∈aD.map (·.1)):uni aD h=Aj (h.map (look aD)):=by
 refine Nat.eq_of_testBit_eq λk=>?_;unfold uni;rw[Co,Co,any_map,any_map,Bool.eq_iff_iff,any_eq_true,any_eq_true];constructor
 ·rintro⟨p,d,a⟩;simp at a;by_cases j:dz (.str p.1) (h.map V.str)=true
  ·rw[zM j]at a;rw[PY,any_eq_true]at j;obtain⟨x,i,e⟩:=j;have o:x=p.1:=by simpa using e
   subst o;exact⟨p.1,i,by simp;rw[C6 l d];exact a⟩
  simp_all
 ·rintro⟨x,i,a⟩;obtain⟨p,d,rfl⟩:=zO.mp (hs x i);refine⟨p,d,?_⟩;simp at a ⊢;rw[C6 l d]at a;rw[zM (by rw[PY];simp_all)];exact a
def My(h:Fv rows)(a:PP (Ar rows) r):Fv (rows++[r]):=by
 intro i q e;rcases Nat.lt_trichotomy i rows.length with z|z|z
 ·rw[List.getElem?_append_left z]at e;rw[List.take_append_of_le_length (Nat.le_of_lt z)];exact h i q e
 ·subst z;have:r=q:=by simpa using e
  subst this
  rwa[List.take_append_of_le_length (zV _),zY]
 ·rw[List.getElem?_eq_none (by grind)]at e;cases e
def Mz(h:Fv rows)(o:rows.length<=10):DF (Ar rows):=by
 have d:∀n,n<=rows.length->DF (Ar (rows.take n)):=by
  intro n;induction n with
  |zero=>intro _;rw[List.take_zero];exact⟨qc,(λp a=>nomatch a),nodup_nil,(λp a=>nomatch a)⟩
  |succ n i=>
   intro r;have D:=i (by lia);have e:rows[n]?=some rows[n]:=Z7 (by lia);have R:=h n _ e;rw[z0,e,Option.toList_some,Hh];refine⟨?_,λp a=>?_,?_,λp a=>?_⟩
   ·rw[z7,length_singleton];have:=R.few;lia
   ·rcases mem_append.mp a with z|z
    ·exact D.lt p z
    ·rw[z6]at z;subst z;exact R.lt
   ·rw[zR];refine List.nodup_append.mpr ⟨D.nd,zP.mpr ⟨not_mem_nil,nodup_nil⟩,?_⟩;intro x l y j;have q:y=(rows[n]).1:=by simpa using j
    subst q;exact λz=>R.new (z ▸ l)
   ·rcases mem_append.mp a with z|z
    ·exact D.nm p z
    ·rw[z6]at z;subst z;exact R.nm
 have:=d rows.length (zV _)
 rwa[zY]at this
def WK(p q)(d:∀a:Bool->Hp->Prop,a p H->A σ H a)(e:∀a,a q H->B σ H a)(h:Q (p||q) H):tOr A B σ H Q:=by
 apply d _;cases p with
 |true=>exact Ah h
 |false=>exact AV (e _ h)
def Ui(p q)(d:∀a:Bool->Hp->Prop,a p H->A σ H a)(e:∀a,(∀H',aB H H'->a q H')->B σ H a)(h:∀H',aB H H'->Q (p&&q) H'):Wy A B σ H Q:=by
 apply d _;cases p with
 |true=>exact Ah (e _ h)
 |false=>exact AV (h _ (aB.refl _))
def KZ(s:aB H H')(h:H' p=none):H p=none:=by
 cases e:H p with
 |none=>rfl
 |some o=>rw[s _ _ e]at h;cases h
def DN(h:PA X es t):PA X (.Constant (.str x) j p::es) (At (tC (.str x)) t):=AA AL h
def Qu:PA X [.Constant (.str x0) v A,.Constant (.str x1) l p1,.Constant (.str x2) z p2,.Constant (.str x3) x p3,.Constant (.str j) j4 p4,.Constant (.str i) y p5,.Constant (.str e) t p6,.Constant (.str a) p u,.Constant (.str d) B o,.Constant (.str h) r q] (At (tC (.str x0)) (At (tC (.str x1)) (At (tC (.str x2)) (At (tC (.str x3)) (At (tC (.str j)) (At (tC (.str i)) (At (tC (.str e)) (At (tC (.str a)) (At (tC (.str d)) (At (tC (.str h)) (B8))))))))))):=DN (DN (DN (DN (DN (DN (DN (DN (DN (DN (AG))))))))))
def Cq{H}{a}{bs}{i:Nat}{v}(h:aF H bs (Da a))(e:(bs.map V.ref)[i]?=some v):∃b p,v=.ref b/\bs[i]?=some b/\a[i]?=some p/\H b=some (.tup [.str p.1,.int (p.2:Int)]):=by
 obtain⟨b,l,rfl⟩:∃b,bs[i]?=some b/\v=V.ref b:=by
  grind
 obtain⟨o,d,j⟩:=Mw h l;unfold Da at d
 grind
noncomputable def bZ:hA:=["A","B","CD","EFG","H","IJKLMN","O","P","Q","R"]
def Sn:∀x∈bZ,Xj x:=by
 have:∀x∈bZ,(B3 x&&x.cps.all (· < 128)&&decide (x.length<=1000))=true:=by decide +kernel
 intro x a;have:=this x a;simp only[Bool.and_eq_true,decide_eq_true_eq]at this;exact⟨this.1.1,this.1.2,this.2⟩
def Qw:∀i:Fin 10,(bZ[i.1]?.map λx=>decide (x∈bZ.take i.1))=some false:=by trivial
structure LW(d w f u:hO)(H0 H:Hp)(rows:List (Str×Th)):Prop where
 old:∀b o,H0 b=some o->b≠d->H b=some o
 b6:∃a b,H d=some (.lst [.int a,.int b])
 words:H w=some (.lst (bZ.map V.str))
 found:∃as,H f=some (.lst (as.map V.ref))/\Paired (cC H) as rows
 aD:∃bs,H u=some (.lst (bs.map V.ref))/\aF H bs (Da (Ar rows))
structure Ap(d w f u:hO)(H0:Hp):Prop where
 wd:w≠d
 fd:f≠d
 ud:u≠d
 wf:w≠f
 wu:w≠u
 fu:f≠u
 nf:H0 f=none
 nu:H0 u=none
section
def LW.same{i}(h:LW d w f u H0 H i)(s:aB H H'):LW d w f u H0 H' i:=by
 obtain⟨a,b,e⟩:=h.b6;obtain⟨p,j,q⟩:=h.found;obtain⟨bs,l,r⟩:=h.aD;exact⟨λc o t v=>s _ _ (h.old c o t v),⟨a,b,s _ _ e⟩,s _ _ h.words,⟨p,s _ _ j,CO (aU.of s) q⟩,⟨bs,s _ _ l,aF.aV (aU.of s) r⟩⟩
def LW.roll(A:Ap d w f u H0)(h:LW d w f u H0 H rows)(i j):LW d w f u H0 (upd H d (.lst [.int i,.int j])) rows:=by
 obtain⟨a,b,e⟩:=h.b6;obtain⟨r,p,v⟩:=h.found;obtain⟨bs,q,x⟩:=h.aD;have t:aU H (upd H d (.lst [.int i,.int j])):=aU.upd e;exact⟨λc o y l=>by rw[AD l];exact h.old c o y l,⟨i,j,aA⟩,by rw[AD A.wd];exact h.words,⟨r,by rw[AD A.fd];exact p,CO t v⟩,⟨bs,by rw[AD A.ud];exact q,aF.aV t x⟩⟩
end
def Db(h:aF H bs (Da (Ar rows))):bs.length=rows.length:=by
 rw[h.length];unfold Da;rw[AQ,B6]
def So(d):(Ar d).map (·.1)=d.map (·.1):=by
 have:∀(l:List (Str×Th))a,((l.foldl (λe r=>e++[(r.1,DE e r.2)]) a).map (·.1))=a.map (·.1)++l.map (·.1):=by
  intro l;induction l with
  |nil=>simp
  |cons x r h=>simp_all
 unfold Ar;rw[this d []];rfl
noncomputable def Y9:St->Nat
 | [_,_,_,_,_,_,_,_,_,some (.int i),_,_]=>(2^22-i).toNat
 |_=>0
section
inductive spLines(vs:hK)(H:Hp)(Q:VK)(_E:XK):Prop
 |mk (d) (a b M) (aW:vs=[.ref d,.int M]) (aX:1<=M) (bz:M<=10) (bQ:H d=some (.lst [.int a,.int b])) (cw:∀q f u as bs rows H',aK d H H'->H' q=some (.tup [.ref f,.ref u])->H f=none->H u=none->H' f=some (.lst (as.map V.ref))->Paired (cC H') as rows->H' u=some (.lst (bs.map V.ref))->aF H' bs (Da (Ar rows)) ->     0<rows.length->(rows.length:Int)<=M->Fv rows->(∀x∈rows.map (·.1),x∈bZ)->Q (.ref q) H')
noncomputable abbrev WL:hA:=[ia,iY,jg,kg,iN,"_law_at","_law_high","_law_kind","_law_thing",iA,iw,"_law_more"]
@[irreducible] def OY:Expr:=match defBody CN with|.Assign _ (.Tuple (e::_) _ _) _::_=>e|_=>.Constant .none 0 ⟨0,0,0,0⟩
abbrev Uj:Stmt:=match defBody CN with|.Assign t (.Tuple (_::r) k p) q::_=>.Assign t (.Tuple (OY::r) k p) q|_=>.Pass ⟨0,0,0,0⟩
abbrev WM:List Stmt:=(defBody CN).drop 1
def WN:defBody CN=Uj::WM:=by kernel_rfl
def Qx:PE X OY (Vn (At (tC (.str "A")) (At (tC (.str "B")) (At (tC (.str "CD")) (At (tC (.str "EFG")) (At (tC (.str "H")) (At (tC (.str "IJKLMN")) (At (tC (.str "O")) (At (tC (.str "P")) (At (tC (.str "Q")) (At (tC (.str "R")) (B8)))))))))))):=by
 unfold OY;exact A5 Qu
def bx:AH WL [ia,iY] (defScope CN):=bA
def Sq(F:aN ω lC lC CN f0 fd)(B:Bl mg)(GR:Fn P w ω mg base iP 2 [ia,iO] cE):aE P w ω mg base aS 3 f0 fd [ia,iY] spLines:=by
 obtain⟨fR,dR,GR,mR,kR,bR⟩:=GR.ex;refine F.m bx λvs H Q E h=>?_;obtain⟨d,a,b,M,rfl,M1,M10,hd,k⟩:=h;refine⟨zJ,λae A outer s hr=>?_⟩;have hu64:=hr.units;have nd:=bx.nd;rw[WN]
 refine⟨_,AC (Bd (hs:=by rfl) (hw:=by kernel_rfl) (Ai (AA (hs:=by kernel_rfl) Qx (AA (A5 AG) (AA (A5 AG) AG))))
   (BM rfl (AW (AU (i:=2) bx.nd rfl (Or.inl rfl)) (AW (AU (i:=3) bx.nd rfl (Or.inl rfl)) (AW (AU (i:=4) bx.nd rfl (Or.inr rfl)) A9)))))
  (AC (Bw PassesOwn.never rfl (CB rfl B.range (AA (AZ CC AF (AO GR hr rfl mR kR bR .nil AT (AA (pv 0) (AA (pv 1) AG)))) AG)) (AU (i:=5) bx.nd rfl (Or.inl rfl))
   (Aq (Ab (i:=6) bx.nd rfl (Or.inl rfl) (O2 rfl rfl B.max (GH [] [] (by rfl) (by trivial) (by rfl) (by rfl) rfl (Bh (pv 4)) (λ_ _ _ _ _ _=>BS) (λ_ _ _ _ _ _=>pv 1)) AF))
   (AC (Ab (i:=7) bx.nd rfl (Or.inl rfl) (AO GR hr rfl mR kR bR .nil AT (AA (pv 0) (AA AF AG))))
   (AC (Bd (hs:=by rfl) (hw:=by rfl) (Ai (AA EH (AA AF AG))) (BM rfl (AW (AU (i:=8) bx.nd rfl (Or.inl rfl)) (AW (AU (i:=9) bx.nd rfl (Or.inl rfl)) A9))))
   (Aq (Fx PassesOwn.never (AK EI (pv 9) (pv 6) (AN _)) (AB (Ab (i:=9) bx.nd rfl (Or.inl rfl) (AZ IZ (pv 9) AF))))
   (Aq (AY (PW.pt (CW (AK As (pv 7) AF (AN _)) (Bc (AK Ln (pv 9) (AZ Ni AF AF) (AN _)))))
     (AC (Ab (i:=8) bx.nd rfl (Or.inl rfl) (An (Ak ω rfl) (A5 (AA (AZ Kk AF (AO GR hr rfl mR kR bR .nil AT (AA (pv 0) (AA AF AG)))) (AA (AO GR hr rfl mR kR bR .nil AT (AA (pv 0) (AA AF AG)))
      (AA (AZ Kk AF (AO GR hr rfl mR kR bR .nil AT (AA (pv 0) (AA AF AG)))) (AA AF AG))))) (AO GR hr rfl mR kR bR .nil AT (AA (pv 0) (AA AF AG))) (λ_ _=>rfl)))
     (AB (Ab (i:=9) bx.nd rfl (Or.inl rfl) (pv 8)))) AM)
   (Aq (AY (PW.pt (CA (AK Hx (pv 7) AF (AN _)) (Bg (AK (Iu ω rfl hu64) (pv 4) (A5 AG) (AN _)))))
     (AC (Ab (i:=8) bx.nd rfl (Or.inl rfl) (BG E8 rfl B.tuple C4 (AA (BW [iN,ia] [some 4,some 0] (by rfl) (by trivial) (by rfl) rfl (CB rfl B.range (AA (AZ CC AF (AO GR hr rfl mR kR bR .nil AT (AA (pv 0) (AA AF AG)))) AG)) (λ_ _ _ _ _ _=>BS)
      (λ_ _ _ _ _ _=>An (Ad ω rfl) (An (Ak ω rfl) (pv 1) (AO GR hr rfl mR kR bR .nil AT (AA (pv 2) (AA (AR (A3 ω rfl) rfl B.len PySem.boot_len (AA (pv 1) AG)) AG))) (λ_ _=>rfl)) AF (λ_ _=>rfl))) AG)))
     (AC (Ab (i:=9) bx.nd rfl (Or.inl rfl) AF)
     (AB (Bw PassesOwn.never rfl (Bh (pv 4)) (BM rfl (AW (AU (i:=10) bx.nd rfl (Or.inl rfl)) (AW (AU (i:=11) bx.nd rfl (Or.inl rfl)) A9)))
      (AB (Ab (i:=9) bx.nd rfl (Or.inl rfl) (AZ Ia (pv 9) (BU (AK Er (pv 10) (pv 8) rfl) (pv 11) AF)))))))) AM)
   (AC (Ae (Bn plainAttrs_list PySem.F.slot_list_append PySem.F.type_list_append Au (pv 3) (AA (Ai (AA (An (Ak ω rfl) (pv 2) (pv 5) (λ_ _=>rfl)) (AA (pv 8) AG))) AG)))
   (AB (Ae (Bn plainAttrs_list PySem.F.slot_list_append PySem.F.type_list_append Au (pv 4) (AA (Ai (AA (An (Ak ω rfl) (pv 2) (pv 5) (λ_ _=>rfl)) (AA (pv 9) AG))) AG))))))))))))
  (AB (AI (Ai (AA (pv 3) (AA (pv 4) AG)))))),?_⟩
 refine⟨(by trivial),λI hpw=>⟨Nat.zero_le _,λG hpf=>⟨Nat.zero_le _,λD hpu=>⟨gk,λq0 hq0=>?_⟩⟩⟩⟩;refine⟨q0,_,zJ,aP.of aA,zJ,_,_,zJ,_,_,zJ,_,_,zJ,zJ,?_⟩;have dw:I≠d:=Ne.symm (AJ hd hpw);have s1:aB H (upd H I (.lst (bZ.map V.str))):=AE (aB.refl _) hpw;have s2:aB (upd H I (.lst (bZ.map V.str))) (upd (upd H I (.lst (bZ.map V.str))) G (.lst [])):=AE (aB.refl _) hpf;have s3:aB (upd (upd H I (.lst (bZ.map V.str))) G (.lst [])) (upd (upd (upd H I (.lst (bZ.map V.str))) G (.lst [])) D (.lst [])):=AE (aB.refl _) hpu;have s4:=AE (aB.refl _) hq0 (o:=HO.tup [.ref I,.ref G,.ref D]);have nf0:H G=none:=KZ s1 hpf;have nu0:H D=none:=KZ (s1.trans s2) hpu;have AP:Ap d I G D H:=⟨dw,Ne.symm (AJ hd nf0),Ne.symm (AJ hd nu0),AJ aA hpf,AJ (s2 _ _ aA) hpu,AJ aA hpu,nf0,nu0⟩;have L0:LW d I G D H _ []:=⟨λb o e _=>s4 _ _ (s3 _ _ (s2 _ _ (s1 _ _ e))),⟨a,b,s4 _ _ (s3 _ _ (s2 _ _ (s1 _ _ hd)))⟩,s4 _ _ (s3 _ _ (s2 _ _ aA)),⟨[],s4 _ _ (s3 _ _ aA),.nil⟩,⟨[],s4 _ _ aA,.nil⟩⟩;obtain⟨a1,b1,gq⟩:=L0.b6;refine⟨_,zJ,_,zJ,d,a1,b1,M,zJ,gq,by lia,by lia,λr a' b' h0 h1=>?_⟩;refine⟨_,_,zJ,zJ,_,zJ,by lia,by lia,?_⟩
 refine Ep (lo:=0) (n:=(1+r).toNat) (λi O H2=>∃(v5 v6 v7 v8 v9 Y X:Option V)(u:List (Str×Th)),O=[some (.ref d),some (.int M),some (.ref I),some (.ref G),some (.ref D),v5,v6,v7,v8,v9,Y,X]/\u.length=i/\Fv u/\u.map (·.1)=bZ.take i/\LW d I G D H H2 u)
  ⟨none,none,none,none,none,none,none,[],rfl,rfl,(λi r e=>by simp at e),rfl,L0.roll AP a' b'⟩ ?_ ?_
 ·rintro i O H2 hi ⟨v5,v6,v7,v8,v9,Y,X,u,rfl,bg,RO,bi,L⟩;have hi10:i<10:=by lia
  have DO:DF (Ar u):=Mz RO (by lia);generalize S:Eg ((Ar u).map (·.2))=C
  have hh20:C<2^20:=by
   rw[←S];exact Mn qc λn hn=>by obtain⟨p,hp,rfl⟩:=zO.mp hn;exact DO.lt p hp
  refine⟨λO H3=>O=[some (.ref d),some (.int M),some (.ref I),some (.ref G),some (.ref D),some (.int (0+(i:Int))),some (.int (C:Int)),v7,v8,v9,Y,X]/\LW d I G D H H3 u,λR hR=>?_,?_⟩
  ·obtain⟨bs,hu,U⟩:=L.aD;have gd:=Db U;refine⟨_,zJ,D,zJ,⟨_,aH.of hu⟩,CH (ω:=ω) (a:=D) (xs:=bs.map V.ref) (λj ys H3=>ys=A0 (((Ar u).take j).map (·.2))/\H3=H2) ⟨by rfl,zJ⟩ (λj ys H3 _ m=>by obtain⟨_,e⟩:=m;exact e ▸ aH.of hu) (λj ys H3 ⟨e,_⟩=>?_) ?_ ?_⟩
   ·rw[e];unfold A0;rw[AQ,AQ,zX,B6];lia
   ·rintro j v ys H3 hj ⟨rfl,rfl⟩;obtain⟨bb,p,rfl,hb1,ak,aj⟩:=Cq U hj;refine⟨bb,_,zJ,aP.of aj,zJ,_,_,zJ,_,_,zJ,zJ,?_⟩;refine⟨_,zJ,?_,zJ⟩;rw[z0,ak,Option.toList_some,zR];unfold A0
    simp_all
   ·rintro ys H3 ⟨rfl,rfl⟩ p hp;have sp:=AE (aB.refl _) hp (o:=HO.lst (A0 (((Ar u).take (bs.map V.ref).length).map (·.2))));have el:(Ar u).take (bs.map V.ref).length=Ar u:=by rw[AQ,gd,←B6,zY]
    refine⟨p,((Ar u).map (·.2)).map (λn:Nat=>(n:Int)),0,zJ,zJ,aH.of (by rw[aA,el,IQ]),λe=>?_,λe=>?_⟩
    ·refine hR _ _ ⟨?_,L.same sp⟩;have:(Ar u).map (·.2)=[]:=List.map_eq_nil_iff.mp e;rw[this]at S;subst S;rfl
    ·refine hR _ _ ⟨?_,L.same sp⟩;have ay:(Ar u).map (·.2)≠ []:=λz=>e (by rw[z];rfl);rw[Mo ay,S];rfl
  ·rintro O H3 ⟨rfl,L3⟩;obtain⟨a3,b3,gR⟩:=L3.b6;refine⟨_,zJ,d,a3,b3,8,zJ,gR,qc,qc,λkd a4 b4 kd0 kd1=>?_⟩;have L4:=L3.roll AP a4 b4;refine⟨(by trivial),λq hq=>⟨q,_,zJ,aP.of aA,zJ,_,_,zJ,_,_,zJ,zJ,?_⟩⟩;have L5:=L4.same (AE (aB.refl _) hq (o:=HO.tup [V.aO,V.int 1]));refine⟨λO H6=>O=[some (.ref d),some (.int M),some (.ref I),some (.ref G),some (.ref D),some (.int (0+(i:Int))),some (.int (C:Int)),some (.int kd),some .aO,some (.int (Bz C:Nat)),Y,X]/\LW d I G D H H6 u,λR hR=>?_,?_⟩
   ·apply RT (λO H6=>LW d I G D H H6 u/\∃j:Nat,j<=20/\O=[some (.ref d),some (.int M),some (.ref I),some (.ref G),some (.ref D),some (.int (0+(i:Int))),some (.int (C:Int)),some (.int kd),some .aO,some (.int ((2^j:Nat):Int)),Y,X]/\(j=0\/2^(j-1)<=C)) (λO _=>Y9 O) ⟨L5,0,by lia,rfl,.inl rfl⟩
    ·rintro O H6 ⟨L6,j,hj,rfl,hjj⟩;refine⟨_,zJ,_,zJ,_,_,zJ,zJ,_,zJ,?_⟩;refine BH (λhle=>?_) (λhle=>?_)
     ·have hle':2^j<=C:=by have:=Zv hle;exact_mod_cast this
      have hj20:j<20:=(Nat.pow_lt_pow_iff_right qc).mp (Nat.lt_of_le_of_lt hle' hh20);refine⟨_,zJ,_,_,zJ,zJ,.inr ⟨qc,qc⟩,?_⟩;have e2:(((2^j:Nat):Int)*2)=((2^(j+1):Nat):Int):=by rw[Nat.pow_succ];lia
      refine⟨⟨L6,j+1,by lia,?_,.inr hle'⟩,?_⟩
      ·rfl
      ·show(2^22-(((2^j:Nat):Int)*2)).toNat<(2^22-((2^j:Nat):Int)).toNat
       grind
     ·have hgt:C<2^j:=by
       have:¬ ((2^j:Nat):Int)<=(C:Int):=λz=>hle (Zm z)
       lia
      refine hR _ _ ⟨?_,L6⟩;rw[Mm hgt hjj]
    ·rintro O H6 Q1 Q2 hQ ⟨v,e1,v2,e2,i,j,a,b,c,ec,q⟩;exact⟨v,e1,v2,e2,i,j,a,b,c,ec,hQ _ _ q⟩
   ·rintro O H6 ⟨rfl,L6⟩;have hsig:∀(tv nv J N:V),True:=λ_ _ _ _=>trivial;refine⟨λO H7=>∃(tv:V)(Z:Th)(J N:Option V),O=[some (.ref d),some (.int M),some (.ref I),some (.ref G),some (.ref D),some (.int (0+(i:Int))),some (.int (C:Int)),some (.int kd),some tv,some (.int (DE (Ar u) Z:Nat)),J,N]/\LW d I G D H H7 u/\d6 H7 tv Z/\UY (Ar u) Z/\DE (Ar u) Z<2^20,λR hR=>?_,?_⟩
    ·apply WK (decide (V.int kd=V.int 5)) (decide ((2:Int)^(20:Int).toNat<=(Bz C:Nat))) (λQ' h=>⟨_,rfl,rfl,_,rfl,h⟩) (λQ' h=>⟨_,rfl,_,_,rfl,rfl,⟨qc,qc,qc⟩,_,_,rfl,rfl,_,rfl,h⟩);refine BH (λ_=>?_) (λhc=>?_)
     ·obtain⟨x1,y1,e1⟩:=L6.b6;refine⟨_,zJ,d,x1,y1,8,zJ,e1,qc,qc,λr1 a1 b1 r10 r11=>?_⟩;have M1:=L6.roll AP a1 b1;refine⟨_,_,zJ,zJ,⟨r10,by lia,qc⟩,?_⟩;obtain⟨x2,y2,e2⟩:=M1.b6;refine⟨_,zJ,d,x2,y2,64,zJ,e2,qc,qc,λr2 a2 b2 r20 r21=>?_⟩;have M2:=M1.roll AP a2 b2;obtain⟨x3,y3,e3⟩:=M2.b6;refine⟨_,zJ,d,x3,y3,20,zJ,e3,qc,qc,λr3 a3 b3 r30 r31=>?_⟩;have M3:=M2.roll AP a3 b3;refine⟨_,_,zJ,zJ,⟨r30,by lia,qc⟩,?_⟩;refine⟨sl4,λp hp=>?_⟩;have M4:=M3.same (AE (aB.refl _) hp (o:=HO.lst [V.int (1*2^r1.toNat),V.int r2,V.int (1*2^r3.toNat),V.int 0]));obtain⟨x4,y4,e4⟩:=M4.b6;have npd:p≠d:=Ne.symm (AJ aA hp);refine⟨_,zJ,d,x4,y4,4,zJ,e4,qc,qc,λr4 a4 b4 r40 r41=>?_⟩;have M5:=M4.roll AP a4 b4;obtain⟨v,hv,hv2⟩:=Hl (xs:=[V.int (1*2^r1.toNat),V.int r2,V.int (1*2^r3.toNat),V.int 0]) r40 qe
      have gC:∃n:Nat,v=.int (n:Int)/\n<2^20:=by
       have:=Zr hv2;simp only[mem_cons,not_mem_nil,or_false]at this;rcases this with z|z|z|z
       ·refine⟨2^r1.toNat,by simp_all,?_⟩;exact(Nat.pow_lt_pow_iff_right qc).mpr (by lia)
       ·exact⟨r2.toNat,by rw[z,Int.toNat_of_nonneg r20],by lia⟩
       ·refine⟨2^r3.toNat,by simp_all,?_⟩;exact(Nat.pow_lt_pow_iff_right qc).mpr (by lia)
       ·exact⟨0,z,qc⟩
      obtain⟨n,rfl,hn⟩:=gC;refine⟨p,_,r4,_,zJ,zJ,aH.of (by rw[AD npd];exact aA),hv,?_⟩;exact⟨_,zJ,hR _ _ ⟨.int (n:Int),.num n,Y,X,zJ,M5,zJ,trivial,hn⟩⟩
     ·refine hR _ _ ⟨.aO,.aO,Y,X,?_,L6,zJ,trivial,?_⟩
      ·show _=[some (V.ref d),some (V.int M),some (V.ref I),some (V.ref G),some (V.ref D),some (V.int (0+(i:Int))),some (V.int (C:Int)),some (V.int kd),some V.aO,some (V.int ((Bz (Eg ((Ar u).map (·.2))):Nat):Int)),Y,X];rw[S]
      ·show Bz (Eg ((Ar u).map (·.2)))<2^20
       grind
    ·rintro O H7 ⟨tv,Z,J,N,rfl,L7,hT,hTO,hlt⟩;obtain⟨bs,hu,U⟩:=L7.aD;have gd:=Db U;refine⟨λO H8=>∃(tv:V)(Z:Th)(J N:Option V),O=[some (.ref d),some (.int M),some (.ref I),some (.ref G),some (.ref D),some (.int (0+(i:Int))),some (.int (C:Int)),some (.int kd),some tv,some (.int (DE (Ar u) Z:Nat)),J,N]/\LW d I G D H H8 u/\d6 H8 tv Z/\UY (Ar u) Z/\DE (Ar u) Z<2^20,λR hR=>?_,?_⟩
     ·refine Ui (decide ((5:Int)<kd)) (!(IM (Ar u)).isEmpty) (λQ' h=>⟨_,zJ,_,_,zJ,zJ,_,zJ,h⟩) (λQ' h=>⟨_,zJ,Nat.zero_le _,λp hp=>?_⟩) (λH8 s8=>?_)
      ·have sp:=AE (aB.refl _) hp (o:=HO.lst []);refine⟨.list (IM (Ar u)),.list [],Cd (sp _ _ hu) (Gn (aF.aV (aU.of sp) U)),Cd aA Uh,Ei λp hp=>(DO.nm p hp).2.1,OX,_,zJ,?_⟩;rw[PX];exact h _ sp
      ·refine BH (λhc=>?_) (λhc=>?_)
       ·have ay:0<bs.length:=by
         rw[Bool.and_eq_true]at hc;have h2:=hc.2;rw[gd,←B6];cases hz:Ar u with
         |nil=>rw[hz]at h2;cases h2
         |cons x r=>simp
        have L8:=L7.same s8;obtain⟨x1,y1,e1⟩:=L8.b6;refine⟨_,rfl,d,x1,y1,3,rfl,e1,qc,qc,λr1 a1 b1 r10 r11=>?_⟩;have M1:=L8.roll AP a1 b1;refine⟨_,_,rfl,rfl,_,rfl,by lia,by lia,?_⟩;apply FM (lo:=0) (n:=(1+r1).toNat) (λj ys H9=>∃T:hA,ys=T.map V.str/\T.length=j/\j<=3/\(∀x∈T,x∈(Ar u).map (·.1))/\LW d I G D H H9 u) ⟨[],rfl,rfl,qc,(λx hx=>nomatch hx),M1⟩
        ·rintro j ys H9 ⟨T,rfl,e,h3,_⟩
         grind
        ·rintro j ys H9 hj ⟨T,rfl,e,h3,gC,L9⟩;obtain⟨x2,y2,e2⟩:=L9.b6;obtain⟨cs,hu9,bf⟩:=L9.aD;have ah:=Db bf;have av:(cs.map V.ref).length=bs.length:=by rw[AQ,ah,gd]
         refine⟨_,zJ,_,zJ,_,zJ,D,_,zJ,.inl (aH.of hu9),d,x2,y2,_,zJ,e2,by lia,by lia,λr2 a2 b2 r20 r21=>?_⟩;have M2:=L9.roll AP a2 b2;have hu10:(upd H9 d (.lst [.int a2,.int b2])) D=some (.lst (cs.map V.ref)):=by rw[AD AP.ud];exact hu9
         obtain⟨v,hv,hv2⟩:=Hl (xs:=cs.map V.ref) r20 (by lia);obtain⟨bb,p,rfl,_,ak,aj⟩:=Cq (aF.aV (aU.upd e2) bf) hv2;refine⟨D,_,r2,_,rfl,rfl,aH.of hu10,hv,bb,_,0,.str p.1,rfl,rfl,aP.of aj,rfl,?_⟩;refine⟨T++[p.1],by simp,by simp_all,by lia,λx hx=>?_,M2⟩;rcases mem_append.mp hx with z|z
         ·simp_all
         ·rw[z6]at z;subst z;exact zO.mpr ⟨p,Zr ak,zJ⟩
        ·rintro ys H9 ⟨T,rfl,e,h3,gC,L9⟩ l hl;have L10:=L9.same (AE (aB.refl _) hl (o:=HO.lst (T.map V.str)));refine⟨l,_,zJ,.inl ⟨aH.of aA,λt ht=>?_⟩⟩;have L11:=L10.same (AE (aB.refl _) ht (o:=HO.tup (T.map V.str)));obtain⟨cs,hu11,bf⟩:=L11.aD;have ah:=Db bf;refine⟨_,zJ,D,zJ,⟨_,aH.of hu11⟩,DS (ω:=ω) (a:=D) (xs:=cs.map V.ref) (λj O H12=>H12=upd (upd H9 l (.lst (T.map V.str))) t (.tup (T.map V.str))/\∃J N:Option V,O=[some (.ref d),some (.int M),some (.ref I),some (.ref G),some (.ref D),some (.int (0+(i:Int))),some (.int (C:Int)),some (.int kd),some (.ref t),some (.int (uni ((Ar u).take j) T:Nat)),J,N]) ⟨zJ,J,N,zJ⟩ (λj O H12 _ f=>by obtain⟨e,_⟩:=f;exact e ▸ aH.of hu11) ?_ ?_⟩
         ·rintro j v O H12 hj ⟨rfl,J,N,rfl⟩;obtain⟨bb,p,rfl,_,ak,aj⟩:=Cq bf hj;refine⟨bb,_,zJ,aP.of aj,zJ,_,_,zJ,_,_,zJ,zJ,?_⟩;refine⟨_,zJ,_,zJ,_,zJ,t,_,zJ,.inr (aP.of aA),zJ,?_,_,zJ,?_⟩
          ·rw[all_map];exact all_eq_true.mpr λ_ _=>rfl
          ·have eu:uni ((Ar u).take (j+1)) T=uni ((Ar u).take j) T|||(if dz (.str p.1) (T.map V.str)then p.2 else 0):=by
            unfold uni;rw[z0,ak,Option.toList_some,zR];exact FY _ _
           refine BH (λhc2=>?_) (λhc2=>?_)
           ·refine⟨_,zJ,_,_,zJ,zJ,zJ,some (.str p.1),some (.int (p.2:Int)),?_⟩;have hc3:dz (.str p.1) (T.map V.str)=true:=hc2;rw[hc3,zM rfl]at eu;rw[eu,←Cf];rfl
           ·refine⟨_,_,zJ,zJ,zJ,some (.str p.1),some (.int (p.2:Int)),?_⟩;have hc3:dz (.str p.1) (T.map V.str)=false:=Bool.eq_false_iff.mpr hc2;rw[hc3,zN Bool.false_ne_true]at eu;rw[eu,←Cf];rfl
         ·rintro O H12 ⟨rfl,J,N,rfl⟩;have el:(Ar u).take (cs.map V.ref).length=Ar u:=by rw[AQ,ah,←B6,zY]
          have en:DE (Ar u) (.gO T)=uni (Ar u) T:=(WJ DO.nd gC).symm;have eL:T.length=(1+r1).toNat:=e;refine hR _ _ ⟨.ref t,.gO T,J,N,by rw[el,en],L11,⟨t,zJ,aA⟩,⟨?_,by lia,gC⟩,?_⟩
          ·intro z;subst z;simp at eL;lia
          ·show Aj (T.map (look (Ar u)))<2^20;refine EU λn hn=>?_;obtain⟨x,hx,rfl⟩:=zO.mp hn;obtain⟨p,hp,rfl⟩:=zO.mp (gC x hx);rw[C6 DO.nd hp];exact DO.lt p hp
       ·exact hR _ _ ⟨tv,Z,J,N,zJ,L7.same s8,hT.same s8,hTO,hlt⟩
     ·rintro O H8 ⟨tv,Z,J,N,rfl,L8,hT,hTO,hlt⟩;obtain⟨as,hf,hP⟩:=L8.found;have aw:as.length=u.length:=hP.length;have hw:bZ[i]?=some bZ[i]:=Z7 hi10;generalize au:bZ[i]=wd at hw
      have hat:eM (bZ.map V.str) (0+(i:Int))=some (.str wd):=by
       have:(0:Int)+(i:Int)=((i:Nat):Int):=by lia
       rw[this];exact BR (by simp_all)
      refine⟨_,zJ,.inl ⟨zJ,_,aH.of hf⟩,_,zJ,_,zJ,I,_,_,.str wd,zJ,zJ,aH.of L8.words,hat,_,zJ,dh,λp hp=>?_⟩;have sp:=AE (aB.refl _) hp (o:=HO.tup [V.str wd,tv]);refine⟨G,_,.ref p,zJ,zJ,sp _ _ hf,AS (by grind),?_⟩;have t1:aU (upd H8 p (.tup [V.str wd,tv])) (upd (upd H8 p (.tup [V.str wd,tv])) G (.lst (as.map V.ref++[.ref p]))):=aU.upd (sp _ _ hf);obtain⟨bs,hu,U⟩:=L8.aD;have gd:=Db U;have gB:(upd (upd H8 p (.tup [V.str wd,tv])) G (.lst (as.map V.ref++[.ref p]))) D=some (.lst (bs.map V.ref)):=by rw[AD (Ne.symm AP.fu)];exact sp _ _ hu
      have hw1:(upd (upd H8 p (.tup [V.str wd,tv])) G (.lst (as.map V.ref++[.ref p]))) I=some (.lst (bZ.map V.str)):=by rw[AD AP.wf];exact sp _ _ L8.words
      refine⟨_,zJ,.inl ⟨zJ,_,aH.of gB⟩,_,zJ,_,zJ,I,_,_,.str wd,zJ,zJ,aH.of hw1,hat,_,zJ,dh,λq hq=>?_⟩;have sq:=AE (aB.refl _) hq (o:=HO.tup [V.str wd,V.int ((DE (Ar u) Z:Nat):Int)]);refine⟨D,_,.ref q,zJ,zJ,sq _ _ gB,AS (by grind),?_⟩;have t2:=aU.upd (sq _ _ gB) (ys:=bs.map V.ref++[.ref q]);have tall:=((aU.of sp).trans t1).trans ((aU.of sq).trans t2);obtain⟨x,y,ed⟩:=L8.b6;have RR:PP (Ar u) (wd,Z):=⟨DO,by rw[B6];lia,Sn wd (Zr hw),?_,hTO,hlt⟩;refine⟨_,_,_,_,_,_,_,u++[(wd,Z)],zJ,by simp_all,My RO RR,?_,?_⟩
      ·rw[zR,bi,z0,hw,Option.toList_some];rfl
      ·refine⟨λc o ec hc=>?_,⟨x,y,?_⟩,?_,⟨as++[p],?_,?_⟩,⟨bs++[q],?_,?_⟩⟩
       ·have n1:c≠D:=AJ ec AP.nu;rw[AD n1];refine sq _ _ ?_;rw[AD (AJ ec AP.nf)];exact sp _ _ (L8.old c o ec hc)
       ·rw[AD (Ne.symm AP.ud)];refine sq _ _ ?_;rw[AD (Ne.symm AP.fd)];exact sp _ _ ed
       ·rw[AD AP.wu];exact sq _ _ hw1
       ·rw[AD AP.fu];refine sq _ _ ?_;rw[aA,zR];rfl
       ·refine Paired.snoc (CO tall hP) ?_;exact⟨tv,t2 _ _ (sq _ _ (t1 _ _ aA)),hT.aV tall⟩
       ·rw[aA,zR];rfl
       ·rw[Hh];unfold Da;rw[zR];exact Paired.snoc (aF.aV tall U) (t2 _ _ aA)
      ·rw[So,bi];intro z;have key:=Qw ⟨i,hi10⟩;rw[hw]at key;have:=Option.some.inj key;exact of_decide_eq_false this z
 ·rintro O H2 ⟨v5,v6,v7,v8,v9,Y,X,u,rfl,bg,RO,bi,L⟩;obtain⟨as,hf,hP⟩:=L.found;obtain⟨bs,hu,U⟩:=L.aD;refine⟨_,zJ,_,zJ,dh,λq hq=>?_⟩;have sq:=AE (aB.refl _) hq (o:=HO.tup [V.ref G,V.ref D]);refine k q G D as bs u _ ⟨λc o e hc=>sq _ _ (L.old c o e hc),?_⟩ aA nf0 nu0 (sq _ _ hf) (CO (aU.of sq) hP) (sq _ _ hu) (aF.aV (aU.of sq) U) (by lia) (by lia) RO (λx hx=>List.mem_of_mem_take (bi ▸ hx));obtain⟨x,y,e⟩:=L.b6;exact⟨x,y,sq _ _ e⟩
end
end Mk
end
section
namespace L2
open PySem
def Ka(ω)(h:X.K=ω):aT X (.builtin iG) (λxs H Q=>∃v C t b,xs=[v,.ref C]/\cF ω H v t/\W.kitOne ω t (.ref C)=some b/\Q (.bl b) H):=by
 subst h;rintro d s l H xs p Q I r ⟨v,C,t,b,rfl,ty,e,q⟩;obtain⟨u,o,rfl,j,a⟩:=Hy r;cases a;exact Jy I j ty e λi=>⟨.bl b,H,I.tok i,zJ,q⟩
end L2
namespace Mk
open PySem L2 MK
structure KIsi(K:FG)(C:hO):Prop where
 cl:eJ K C
 ha:W.findIn K (.ref C) jK=some (some (.builtin ib))
 hn:W.specialIn K (.builtin ib) jW=some (some (.builtin ir))
 ht:W.takesIn K (.builtin ib)=some true
 hm:W.mroIn K C (.type jv)=some true
 nl:W.kitOne K (.type iB) (.ref C)=some false
def KIsi.ty(k:KIsi ω C)(e:H a=some (.ins C dx fs)):cF ω H (.ref a) (.ref C):=.ins e k.cl k.ha k.hn k.ht k.hm
def Gq(ω:FG)(C):W.kitOne ω (.ref C) (.ref C)=some true:=by
 unfold W.kitOne;simp
section
inductive spNumber(C:hO)(vs:hK)(H:Hp)(Q:VK)(_E:XK):Prop
 |mk (p) (aD) (r) (x) (aW:vs=[.ref p,.str x]) (aX:aQ C H p aD r) (bz:x∈aD.map (·.1)) (bQ:Q (.int (look aD x:Nat)) H)
def M0:AH [hZ,ij] [hZ,ij] (defScope Cb):=bA
def Qy(F:aN ω il lh Cb f fd)(T:E6 ω C)(a:Fn P w ω mg base jz 1 [ig,i1] (Cp ω)):aE P w ω mg base aS 2 f fd [hZ,ij] (spNumber C):=by
 obtain⟨fO,I,a,B,y,z⟩:=a.ex;refine F.m M0 λL H Q E h=>?_;obtain⟨p,d,r,x,rfl,D,q,k⟩:=h;refine⟨zJ,λv A e s o=>?_⟩;obtain⟨t,u,l,J,M,i,j,G⟩:=D.ex
 refine⟨_,AC (AY (Aw (Ao (AO a o zJ B y z .nil AT (AA (pv 1) (AA (Af (pv 0) zJ) AG))))) (AB Ag) AM)
  (AB (AI (Av (Bp o) (Af (pv 0) rfl) (pv 1) (λ_ _=>rfl)))),?_⟩
 refine⟨_,zJ,_,zJ,p,C,t,_,_,zJ,i,T.cl,T.nN,C5 _ _ _,.inl ⟨x,u,A8 d,zJ,.inr ⟨l,j⟩,_,zJ,?_⟩⟩;rw[Bf q];apply AV;exact⟨_,zJ,p,C,t,_,_,zJ,i,T.cl,T.nN,C5 _ _ _,_,zJ,u,_,zJ,.inl ⟨_,Sum.inr x,.inr ⟨l,j⟩,zJ,(Bf q).symm⟩,k⟩
inductive spRest(C:hO)(vs:hK)(H:Hp)(Q:VK)(_E:XK):Prop
 |mk (p) (aD) (r) (aW:vs=[.ref p]) (aX:aQ C H p aD r) (bz:Q (.str r) H)
def WO:AH [hZ] [hZ] (defScope HN):=bA
def Uk(F:aN ω jx "Kind.rest" HN f fd)(T:E6 ω C):aE P w ω mg base aS 1 f fd [hZ] (spRest C):=by
 refine F.m WO λu H Q E h=>?_;obtain⟨p,i,r,rfl,l,k⟩:=h;refine⟨zJ,λd A a s x=>?_⟩;obtain⟨j,z,v,q,y,e,t,o⟩:=l.ex;refine⟨_,AB (AI (Af (pv 0) zJ)),?_⟩;exact⟨_,zJ,p,C,j,_,_,zJ,e,T.cl,T.nR,Hk _ _ _,k⟩
def Sr{p q:Str×Nat}:PyData.eqv (.tuple [.str p.1,.int (p.2:Int)]) (.tuple [.str q.1,.int (q.2:Int)])=decide (p=q):=by
 simp[PyData.eqv,PyData.eqvAll,Bool.and_eq_true,beq_iff_eq]
 grind
def M6:∀a b,PyData.eqv (.list (IM a)) (.list (IM b))=decide (a=b)
 | [],[]=>by rfl
 | [],q::r=>by rfl
 |p::r,[]=>by rfl
 |p::r,q::s=>by
  have h:PyData.eqv (.list (IM (p::r))) (.list (IM (q::s)))=(PyData.eqv (.tuple [.str p.1,.int p.2]) (.tuple [.str q.1,.int q.2])&&PyData.eqv (.list (IM r)) (.list (IM s))):=by
   simp[IM,map_cons,PyData.eqv,PyData.eqvAll]
  rw[h,Sr,M6 r s];simp
def Asc(aD:Aa):Prop:=∀p∈aD,p.1.cps.all (· < 128)=true
inductive spEqK(C:hO)(vs:hK)(H:Hp)(Q:VK)(_E:XK):Prop
 |mk (a b) (aD) (r) (aW:vs=[.ref a,.ref b]) (aX:aQ C H a aD r) (bz:Asc aD) (bQ:((∃xs,H b=some (.lst xs)/\∀H',aB H H'->Q (.bl false) H')\/∃(due':Aa)(r':Str),aQ C H b due' r'/\Asc due'/\∀H',aB H H'->Q (.bl (decide (aD=due'/\r=r'))) H'))
def ZA:AH [hZ,iS] [hZ,iS] (defScope LF):=bA
def WP(F:aN ω lP "Kind.__eq__" LF f fd)(B:Bl mg)(T:E6 ω C)(S:KIsi ω C)(Y:mg "Kind"=some (.ref C))(o:Mt P w ω mg base C jR 1 [hZ] (spRows C)):aE P w ω mg base aS 2 f fd [hZ,iS] (spEqK C):=by
 obtain⟨fR,dR,o,N,L⟩:=o.ex;refine F.m ZA λvs H Q E h=>?_;obtain⟨a,b,j,r,rfl,R,Z,h⟩:=h;refine⟨zJ,λU A D s y=>?_⟩
 refine⟨_,AB (AI (Ce (AR (Ka ω zJ) zJ B.c9 Ef (AA (pv 1) (AA (BJ (v:=.ref C) zJ Y zJ) AG)))
  (Ce (Ck (Vw ω rfl y.units) (BV (pv 0) T.cl N o y L .nil AT) (BV (pv 1) T.cl N o y L .nil AT) (AN _))
   (Cs (Ck As (Af (pv 0) rfl) (Af (pv 1) rfl) (AN _)))))),?_⟩
 obtain⟨O,d1,d2,J⟩:=R.ins;rcases h with⟨xs,hb,k⟩|⟨i,p,I,X,k⟩
 ·refine⟨_,zJ,_,C,_,false,zJ,.lst hb,S.nl,_,zJ,?_⟩;exact AV (k _ (aB.refl _))
 ·obtain⟨M,e1,e2,x⟩:=I.ins;refine⟨_,zJ,_,C,_,true,zJ,S.ty x,Gq ω C,_,zJ,?_⟩;apply Ah;refine⟨_,zJ,a,O,_,zJ,J,(CT _ _ _),a,j,r,zJ,R,λl as H1 q hl ht=>?_⟩;refine⟨_,zJ,b,M,_,zJ,q _ _ x,(CT _ _ _),b,i,p,zJ,I.same q,λl2 as2 H2 G t u=>?_⟩;refine⟨_,_,Cd (G _ _ hl) (Gn (aF.same G ht)),Cd t (Gn u),Ei Z,Ei X,_,zJ,?_⟩;rw[M6];have d:=q.trans G;refine BH (λe=>?_) (λe=>?_)
  ·refine⟨_,zJ,a,C,O,_,_,zJ,d _ _ J,T.cl,T.nR,Hk _ _ _,_,zJ,b,C,M,_,_,zJ,d _ _ x,T.cl,T.nR,Hk _ _ _,zJ,?_⟩;have:=k _ d;have ev:decide (V.str r=V.str p)=decide (j=i/\r=p):=decide_eq_decide.mpr ⟨λz=>⟨Zv e,V.str.inj z⟩,λz=>by rw[z.2]⟩
   rwa[ev]
  ·have:=k _ d
   rwa[Zp (λz=>e (Zm z.1))]at this
end
def Ss(aD:Aa)(e m:hO):LK:=[(Sum.inr jf,V.int (Aj (aD.map (·.2)):Nat)),(Sum.inr jB,V.ref e),(Sum.inr "marks",V.ref m),(Sum.inr i7,V.int (Aj (BN aD):Nat))]
def WQ(a b c d):Dj [] [((Sum.inr jf:Key),a),(Sum.inr jB,b),(Sum.inr "marks",c),(Sum.inr i7,d)]=[((Sum.inr jf:Key),a),(Sum.inr jB,b),(Sum.inr "marks",c),(Sum.inr i7,d)]:=by rfl
def CP(a)(e m):Am (Ss a e m) (Sum.inr jf)=some (V.int (Aj (a.map (·.2)):Nat)):=by rfl
def Qz(d):(BN d).Pairwise (· < ·):=by
 have e:=Gk d;have i:=(D4 d).nodup_iff.mpr (Qm d);exact(List.Pairwise.imp₂ (λa b h n=>Nat.lt_of_le_of_ne h n) e i).filter _
def Kb(d):((BN d).map λn:Nat=>(n:Int)).sum=((Aj (BN d):Nat):Int):=by
 have h:(BN d).sum=Aj (BN d):=Qg (λn i=>(mem_filter.mp i).2) (Qz d);rw[←h];generalize BN d=l;induction l with
 |nil=>rfl
 |cons a r e=>rw[map_cons,sum_cons,e];push_cast;rfl
def JW(a):Aj ((Al a).map (·.1))=Aj (a.map (·.2)):=by
 refine Nat.eq_of_testBit_eq λk=>?_;rw[Co,Co,Bool.eq_iff_iff,any_eq_true,any_eq_true];constructor
 ·rintro⟨n,e,d⟩;obtain⟨q,i,rfl⟩:=zO.mp e;exact⟨q.1,zO.mpr ⟨_,KW i,zJ⟩,d⟩
 ·rintro⟨n,e,d⟩;obtain⟨p,h,rfl⟩:=zO.mp e;exact⟨p.2,Qn h,d⟩
section
inductive spTable(vs:hK)(H:Hp)(Q:VK)(_E:XK):Prop
 |mk (u) (bs) (aD) (aW:vs=[.ref u]) (aX:H u=some (.lst (bs.map V.ref))) (bz:aF H bs (Da aD)) (bQ:aD.length<=10) (cw:(∀p∈aD,p.2<2^20)) (cX:∀t e m ms H',aB H H'->H' t=some (.dK (Ss aD e m))->H' e=some (.dK (Ci (Al aD)))->H' m=some (.lst (ms.map V.ref))->aF H' ms (PR aD)->Q (.ref t) H')
noncomputable abbrev WR:hA:=[iN,lG,"_law_firsts",iw,iA,"_law_marks"]
def scTable:AH WR [iN] (defScope Ed):=bA
def Su(F:aN ω jH jH Ed f fd)(B:Bl mg)(GB:Fn P w ω mg base ky 1 [iA] spBitsOf):aE P w ω mg base aS 2 f fd [iN] spTable:=by
 obtain⟨fB,dB,GB,mB,kB,bB⟩:=GB.ex;refine F.m scTable λvs H Q E h=>?_;obtain⟨u,bs,d,rfl,hu0,Z,gS,hlt,k⟩:=h;refine⟨zJ,λae A outer s hr=>?_⟩;have hu:=Bp hr
 refine⟨_,AC (Bd (hs:=by rfl) (hw:=by rfl) (Ai (AA AF (AA Cz AG))) (BM zJ (AW (AU (i:=1) scTable.nd zJ (Or.inl zJ)) (AW (AU (i:=2) scTable.nd zJ (Or.inr zJ)) A9))))
  (AC (Bw PassesOwn.never rfl (Bh (pv 0)) (BM rfl (AW (AU (i:=3) scTable.nd rfl (Or.inl rfl)) (AW (AU (i:=4) scTable.nd rfl (Or.inl rfl)) A9)))
   (AC (Ab (i:=1) scTable.nd rfl (Or.inl rfl) (AZ Ia (pv 1) (pv 4)))
   (AB (AY (Cr (J6 hu (pv 4) (pv 2))) (AB (Di hu (pv 2) (pv 4) (pv 3) rfl)) AM))))
  (AC (Rk (i:=5) scTable.nd rfl (by rfl) ["_law_firsts"] [some 2] (by rfl) (by trivial) (by rfl) rfl (Bh (AR (Kz rfl) rfl B.sorted Ey (AA (pv 2) AG)))
   (λ_ _ _ _ _ _=>F8 (AK As (AR (A3 ω rfl) rfl B.len PySem.boot_len (AA (AO GB hr rfl mB kB bB .nil AT (AA (pv 0) AG)) AG)) AF (AN _)))
   (λ_ _ _ _ _ _=>Ai (AA (Av hu (pv 1) (pv 0) (λ_ _=>rfl)) (AA (pv 0) AG))))
  (AB (AI (O0 (Ca AL (pv 1) (Ca AL (pv 2) (Ca AL (pv 5) (Ca AL (AR (Rt rfl) rfl B.sum SQ (AA (GH [] [] (by rfl) (by trivial) (by rfl) (by rfl) rfl (Bh (pv 5)) (λ_ _ _ _ _ _=>BS) (λ_ _ _ _ _ _=>pv 1)) AG)) Oz)))) rfl rfl (by simp) qc))))),?_⟩
 refine λe he=>⟨dh,λq hq=>⟨q,_,zJ,aP.of aA,zJ,_,_,zJ,_,_,zJ,zJ,?_⟩⟩;have s1:=AE (AE (aB.refl _) he (o:=HO.dK [])) hq (o:=HO.tup [V.int 0,V.ref e]);have gd:bs.length=d.length:=by rw[Z.length];unfold Da;rw[AQ]
 refine⟨_,zJ,u,zJ,⟨_,aH.of (s1 _ _ hu0)⟩,DS (ω:=ω) (a:=u) (xs:=bs.map V.ref) (λi σ U=>∃v3 v4:Option V,σ=[some (.ref u),some (.int (Aj ((d.take i).map (·.2)):Nat)),some (.ref e),v3,v4,none]/\aB H U/\U e=some (.dK (Ci (Al (d.take i)))))
  ⟨none,none,rfl,s1,AE (aB.refl _) hq _ _ aA⟩ (λi σ U _ g=>by obtain⟨_,_,_,R,_⟩:=g;exact aH.of (R _ _ hu0)) ?_ ?_⟩
 ·rintro i v σ U hi ⟨v3,v4,rfl,R,x⟩;obtain⟨bb,p,rfl,_,ak,N⟩:=Cq (aF.same R Z) hi;have S:d.take (i+1)=d.take i++[p]:=by rw[z0,ak];rfl
  have ek:(((Aj ((d.take (i+1)).map (·.2)):Nat)):Int)=Builtin.bitOr ((Aj ((d.take i).map (·.2)):Nat):Int) (p.2:Int):=by
   rw[S,zR,Cf];exact congrArg _ (FY _ _)
  have hle:(Ci (Al (d.take i))).length<=100:=by
   unfold Ci;rw[AQ];have:=D3 (d.take i);rw[zX]at this
   lia
  refine⟨bb,_,zJ,aP.of N,zJ,_,_,zJ,_,_,zJ,zJ,?_⟩;refine⟨_,zJ,_,zJ,_,_,zJ,zJ,?_⟩;by_cases z:p.2∈(Al (d.take i)).map (·.1)
  ·refine⟨_,zJ,_,zJ,e,_,zJ,.inl ⟨_,Sum.inl (p.2:Int),.inl x,zJ,(JV z).symm⟩,_,zJ,?_⟩;refine AV ⟨_,_,by rw[ek];rfl,R,?_⟩;rw[S,DH,zM (by simp_all)]
   lia
  ·refine⟨_,zJ,_,zJ,e,_,zJ,.inl ⟨_,Sum.inl (p.2:Int),.inl x,zJ,(Hj z).symm⟩,_,zJ,?_⟩;refine Ah ⟨_,zJ,_,zJ,_,zJ,e,_,zJ,eI.k (k:=Sum.inl (p.2:Int)) x (AS (by lia)),?_⟩;refine⟨_,_,by rw[ek];rfl,JU R he,?_⟩;rw[aA,S,DH,zN (by simp_all),Mu z]
 ·rintro σ U ⟨v3,v4,rfl,R,x⟩;have e1:d.take (bs.map V.ref).length=d:=by rw[AQ,gd,zY]
  rw[e1]at x ⊢;have hle:(Ci (Al d)).length<=d.length:=by unfold Ci;rw[AQ];exact D3 d
  refine⟨_,zJ,e,_,zJ,.inl x,by lia,λkv hkv=>?_,λl ns hl M O=>?_⟩
  ·unfold Ci at hkv
   grind
  ·have en:=Sc M O;subst en;have s3:=AE (aB.refl _) hl (o:=HO.lst (((B9 d).map λn:Nat=>(n:Int)).map V.int))
   refine⟨l,zJ,⟨_,aH.of aA⟩,CH (ω:=ω) (a:=l) (xs:=A0 (B9 d))
    (λi G C=>∃r,G=r.map V.ref/\aB U C/\C l=some (.lst (A0 (B9 d)))/\aF C r ((((B9 d).take i).filter Cg).map λn=>(V.str (Ms (Al d) n),V.int (n:Int)))) ⟨[],rfl,s3,by rw[aA,(IQ _).symm],.nil⟩
    (λi G C _ c=>by obtain⟨_,_,_,e,_⟩:=c;exact aH.of e) (λi G C ⟨r,e,_,_,t⟩=>?_) ?_ ?_⟩
   ·have:=t.length;rw[e,AQ,this,AQ];have h3:(((B9 d).take i).filter Cg).length<=((B9 d).take i).length:=length_filter_le _ _;rw[zX]at h3;have:=KY d
    lia
   ·rintro i v G C hi ⟨r,rfl,T,hl3,ht⟩;obtain⟨n,hn,rfl⟩:=PN hi;have J:n∈(Al d).map (·.1):=mem_keysS.mp (Zr hn);have hn42:n<2^42:=Nat.lt_trans (PU hlt n J) qc;have S:=PySem.take_succ_filter Cg _ i n hn;refine⟨_,zJ,n,zJ,λl2 zs H4 D hl4 hz=>⟨l2,_,zJ,.inl (aH.of hl4),zJ,_,zJ,?_⟩⟩
    have eb:decide (V.int ((zs.length:Nat):Int)=V.int 1)=Cg n:=by
     rw[←Jo hn42,hz];refine decide_eq_decide.mpr ⟨λh=>?_,λh=>by rw[h];rfl⟩;have:=V.int.inj h
     lia
    rw[eb];have Y:=D _ _ hl3;refine BH (λX=>?_) (λX=>?_)
    ·refine⟨_,zJ,_,zJ,e,_,zJ,.inl ⟨_,Sum.inl (n:Int),.inl (D _ _ (T _ _ x)),zJ,(JV J).symm⟩,_,zJ,dh,λb hb=>?_⟩;refine⟨r++[b],by simp_all,AE (T.trans D) hb,by rw[AD (AJ Y hb)];lia,?_⟩;rw[S,X,zM rfl,zR];exact Qp (AE D hb) ht aA
    ·refine⟨r,zJ,T.trans D,Y,?_⟩;rw[S,zN X,zQ];exact aF.same D ht
   ·rintro G C ⟨r,rfl,T,_,ht⟩ m X
    have el:(B9 d).take (A0 (B9 d)).length=B9 d:=by
     have:(A0 (B9 d)).length=(B9 d).length:=by unfold A0;rw[AQ]
     rw[this];exact zY
    rw[el]at ht;have L:aF C r (PR d):=ht;have D:=AE (aB.refl _) X (o:=HO.lst (r.map V.ref));have aw:r.length=(BN d).length:=by rw[L.length];exact Qq d
    refine λt ht0=>⟨_,zJ,_,zJ,_,zJ,?_⟩;have s6:=AE (aB.refl _) ht0 (o:=HO.dK []);have htm:=aF.same (D.trans s6) L;have hm6:=s6 _ _ (aA (H:=C) (a:=m) (o:=HO.lst (r.map V.ref)));refine⟨_,zJ,m,zJ,⟨_,aH.of hm6⟩,CH (ω:=ω) (a:=m) (xs:=r.map V.ref) (λj G H7=>G=A0 ((BN d).take j)/\H7=upd (upd C m (.lst (r.map V.ref))) t (.dK [])) ⟨by rfl,zJ⟩ (λj G H7 _ zq=>by obtain⟨_,e⟩:=zq;exact e ▸ aH.of hm6) (λj G H7 ⟨e,_⟩=>?_) ?_ ?_⟩
    ·rw[e];unfold A0;rw[AQ,zX];have h3:(BN d).length<=(B9 d).length:=length_filter_le _ _;have:=KY d
     lia
    ·rintro j v G H7 hj ⟨rfl,rfl⟩;rw[z4]at hj
     obtain⟨b,hb,rfl⟩:∃b,r[j]?=some b/\v=V.ref b:=by
      grind
     obtain⟨pq,hpq,N⟩:=Mw htm hb;unfold PR at hpq;rw[z4]at hpq
     obtain⟨n,hn,rfl⟩:∃n,(BN d)[j]?=some n/\pq=(V.str (Ms (Al d) n),V.int (n:Int)):=by
      grind
     refine⟨b,_,zJ,aP.of N,zJ,_,_,zJ,_,_,zJ,zJ,?_⟩;refine⟨_,zJ,?_,zJ⟩;rw[z0,hn,Option.toList_some];unfold A0
     simp_all
    ·rintro G H7 ⟨rfl,rfl⟩ l2 hl2;have el2:(BN d).take (r.map V.ref).length=BN d:=by rw[AQ,aw,zY]
     rw[el2];have s7:=AE (aB.refl _) hl2 (o:=HO.lst (A0 (BN d)));refine⟨l2,(BN d).map λn:Nat=>(n:Int),zJ,aH.of (by rw[aA,IQ]),λn hn=>?_,?_,?_⟩
     ·grind
     ·rw[Kb];have:=EU (Se hlt)
      lia
     ·rw[Kb];refine⟨s7 _ _ aA,[((Sum.inr jf:Key),V.int (Aj (d.map (·.2)):Nat)),(Sum.inr jB,.ref e),(Sum.inr "marks",.ref m),(Sum.inr i7,V.int (Aj (BN d):Nat))],zJ,(by simp),?_⟩;rw[WQ]
      have y:aB (upd C m (.lst (r.map V.ref))) (upd (upd (upd (upd C m (.lst (r.map V.ref))) t (.dK [])) l2 (.lst (A0 (BN d)))) t (.dK (Ss d e m))):=λb o I=>by
       rw[AD (AJ I ht0)];exact s7 _ _ (s6 _ _ I)
      refine k t e m r _ ?_ aA ?_ (y _ _ aA) (aF.same (D.trans y) L)
      ·intro b o I;exact y _ _ (D _ _ (T _ _ (R _ _ I)))
      ·exact y _ _ (D _ _ (T _ _ x))
end
def Ek:∀{ds},(∀d∈ds,PyData.eqv d d=true)->PyData.eqvAll ds ds=true
 | [],_=>by rfl
 |d::r,h=>by
  rw[PyData.eqvAll,h d z8,Ek λx a=>h x (by grind)];rfl
def FE(h:∀d∈ds,PyData.eqv d d=true):PyData.eqv (.list ds) (.list ds)=true:=by
 exact Ek h
def Gr(h:∀d∈ds,PyData.eqv d d=true):PyData.eqv (.tuple ds) (.tuple ds)=true:=by
 exact Ek h
def Cm(x):PyData.eqv (.str x) (.str x)=true:=by simp[PyData.eqv]
def LM(n):PyData.eqv (.int n) (.int n)=true:=by simp[PyData.eqv]
def LP:PyData.eqv .none .none=true:=by rfl
def Jp(xs:hA):PyData.eqv (.list (xs.map PyData.str)) (.list (xs.map PyData.str))=true:=FE λd a=>by
 obtain⟨n,_,rfl⟩:=zO.mp a;exact Cm _
def M7(kp:hO)(n:Nat):List (Str×V):=BD i7 (.int (n:Int)) (BD iK (.ref kp) [])
def Ul(kp)(n):(M7 kp n).lookup (iK:Str)=some (.ref kp):=by
 rfl
def Um(kp)(n):(M7 kp n).lookup (i7:Str)=some (.int (n:Int)):=by
 rfl
def VN(kp)(n){m:Str}(a:¬ m=i7)(d:¬ m=iK):(M7 kp n).lookup m=none:=by
 unfold M7;rw[Ay,zN a,Ay,zN d];rfl
def bV(VC:hO)(H:Hp)(p kp:hO)(n:Nat):Prop:=∃dx,H p=some (.ins VC dx (M7 kp n))
def bV.same{n}(s:aB H H')(h:bV VC H p kp n):bV VC H' p kp n:=by
 obtain⟨a,h⟩:=h;exact⟨a,s _ _ h⟩
structure M8(K:FG)(VC:hO):Prop where
 cl:eJ K VC
 nK:b8 K VC iK
 nB:b8 K VC i7
def kn(aD:Aa):Nat:=Aj (aD.map (·.2))
section
inductive spIsNumber(vs:hK)(H:Hp)(Q:VK)(_E:XK):Prop
 |mk (n:Nat) (aW:vs=[.int (n)]) (aX:n<2^40) (bz:Q (.bl true) H)
def OZ:AH [ig] [ig] (defScope Ew):=bA
inductive spRestOf(C:hO)(vs:hK)(H:Hp)(Q:VK)(_E:XK):Prop
 |mk (kp) (aD) (r) (n:Nat) (aW:vs=[.ref kp,.int (n)]) (aX:aQ C H kp aD r) (bz:∀H',aB H H'->Q (.int ((n-(n&&&kn aD):Nat):Int)) H')
def Sv:AH [iy,il] [iy,il] (defScope LG):=bA
def Q0(F:aN ω lr lr LG f fd)(T:E6 ω C)(d:Mt P w ω mg base C jf 2 [hZ] (spKnown C)):aE P w ω mg base aS 3 f fd [iy,il] (spRestOf C):=by
 obtain⟨y,B,d,t,q⟩:=d.ex;refine F.m Sv λz H Q E h=>?_;obtain⟨kp,a,r,n,rfl,j,k⟩:=h;refine⟨zJ,λl A e s u=>?_⟩;obtain⟨v,D,x,o⟩:=j.ins;refine⟨_,AB (AI (AZ CD (pv 1) (Cu Kl (BV (pv 0) T.cl t d u q .nil AT)))),?_⟩;refine⟨_,zJ,_,zJ,kp,v,_,zJ,o,(CT _ _ _),kp,a,r,zJ,j,λi p=>?_⟩;refine⟨_,zJ,_,_,zJ,zJ,?_⟩;show Q (V.int (Builtin.bitAnd n (Builtin.bitNot ((Aj ((Al a).map (·.1)):Nat))))) i;rw[Do,JW];exact k i p
inductive spVInit(C VC:hO)(vs:hK)(H:Hp)(Q:VK)(_E:XK):Prop
 |mk (p dx kp) (aD) (r) (n:Nat) (aW:vs=[.ref p,.ref kp,.int (n)]) (aX:H p=some (.ins VC dx [])) (bz:aQ C H kp aD r) (bQ:n<2^40) (cw:(r=jo \/ n-(n&&&kn aD)=0)) (cX:∀H',(∀b o,H b=some o->b≠p->H' b=some o)->bV VC H' p kp n->Q .aO H')
def Uo:AH [hZ,iy,il] [hZ,iy,il] (defScope Fd):=bA
def M9(F:aN ω ip "Value.__init__" Fd f fd)(T:E6 ω C)(j:M8 ω VC)
  (l:Fn P w ω mg base jC 2 [ig] spIsNumber) (t:Fn P w ω mg base lr 3 [iy,il] (spRestOf C)) (x:Mt P w ω mg base C jx 1 [hZ] (spRest C)):aE P w ω mg base aS 4 f fd [hZ,iy,il] (spVInit C VC):=by
 obtain⟨fN,dN,l,mN,Z,Y⟩:=l.ex;obtain⟨fR,dR,t,mR,S,X⟩:=t.ex;obtain⟨fE,dE,U,mE,bE⟩:=x.ex;refine F.m Uo λvs H Q E h=>?_;obtain⟨p,G,kp,d,r,n,rfl,O,I,hn,a,k⟩:=h;refine⟨zJ,λN A D s y=>?_⟩;obtain⟨q,d1,d2,B⟩:=I.ins
 refine⟨_,AC (AY (Aw (Ao (AO l (y.mono qc) zJ mN Z Y .nil AT (AA (pv 2) AG)))) (AB Ag) AM)
  (Aq (AY (PW.pt (CA (AK DU (BV (pv 1) T.cl mE U (y.mono qc) bE .nil AT) AL (AN _)) (Bg (AK DU (AO t y rfl mR S X .nil AT (AA (pv 1) (AA (pv 2) AG))) AF (AN _))))) (AB Ag) AM)
  (AC (CG (pv 0) (pv 1) rfl) (AB (CG (pv 0) (pv 2) rfl)))),?_⟩
 refine⟨_,zJ,n,zJ,hn,_,zJ,?_⟩;apply AV;refine⟨λL u=>L=[some (.ref p),some (.ref kp),some (.int n)]/\aB H u,λR J=>?_,?_⟩
 ·refine⟨_,zJ,kp,q,_,zJ,B,(CT _ _ _),kp,d,r,zJ,I,zJ,_,zJ,?_⟩;by_cases v:r=jo
  ·rw[Zm (by rw[v])];exact AV (AV (J _ _ ⟨zJ,aB.refl _⟩))
  ·rw[Zp (λz=>v (V.str.inj z))];apply Ah;refine⟨_,zJ,_,zJ,kp,d,r,n,zJ,I,λu i=>⟨zJ,_,zJ,?_⟩⟩;rw[a.resolve_left v];exact AV (J _ _ ⟨zJ,i⟩)
 ·rintro L u ⟨rfl,i⟩;refine⟨_,zJ,_,zJ,p,VC,G,[],zJ,i _ _ O,j.cl,j.nK,(by simp),?_⟩;refine⟨_,zJ,_,zJ,p,VC,G,_,zJ,aA,j.cl,j.nB,Nat.lt_of_le_of_lt (Az _ _ _) (by simp),?_⟩;refine k _ (λb o e M=>?_) ⟨G,aA⟩;rw[AD M,AD M];exact i _ _ e
inductive spVNumber(VC:hO)(vs:hK)(H:Hp)(Q:VK)(_E:XK):Prop
 |mk (p kp) (n) (aW:vs=[.ref p]) (aX:bV VC H p kp n) (bz:Q (.int (n:Int)) H)
def Q3:AH [hZ] [hZ] (defScope Dt):=bA
def Oa(F:aN ω il "Value.number" Dt f fd)(d:M8 ω VC):aE P w ω mg base aS 1 f fd [hZ] (spVNumber VC):=by
 refine F.m Q3 λo H Q E h=>?_;obtain⟨p,kp,n,rfl,⟨j,i⟩,k⟩:=h;refine⟨zJ,λe A a s l=>?_⟩;refine⟨_,AB (AI (Af (pv 0) zJ)),?_⟩;exact⟨_,zJ,p,VC,j,_,_,zJ,i,d.cl,d.nB,Um _ _,k⟩
inductive spVKind(VC:hO)(vs:hK)(H:Hp)(Q:VK)(_E:XK):Prop
 |mk (p kp) (n) (aW:vs=[.ref p]) (aX:bV VC H p kp n) (bz:Q (.ref kp) H)
def Up:AH [hZ] [hZ] (defScope Fe):=bA
def Sw(F:aN ω iy "Value.kind" Fe f fd)(d:M8 ω VC):aE P w ω mg base aS 1 f fd [hZ] (spVKind VC):=by
 refine F.m Up λo H Q E h=>?_;obtain⟨p,kp,n,rfl,⟨j,i⟩,k⟩:=h;refine⟨zJ,λe A a s l=>?_⟩;refine⟨_,AB (AI (Af (pv 0) zJ)),?_⟩;exact⟨_,zJ,p,VC,j,_,_,zJ,i,d.cl,d.nK,Ul _ _,k⟩
structure IH(P:Program)(w:World)(K:FG)(mg:SV)(base:Heap)(C VC:hO):Prop where
 VT:M8 K VC
 cls:mg "Value"=some (.ref VC)
 make:∃f fd,Mk K VC f/\aE P w K mg base aS 4 f fd [hZ,iy,il] (spVInit C VC)/\Binds K fd [hZ,iy,il] []
def El(e:H kp=none)(d:H dx=none)(a:dx≠kp):aB H (upd (upd H dx (.own kp)) kp (.ins D dx [])):=by
 apply AE (AE (aB.refl _) d);rw[AD (Ne.symm a)]
 lia
def E3(sN:aB H H')(a:H kp=none)(sc:∀b o,H' b=some o->b≠kp->d b=some o):aB H d:=λb o e=>sc b o (sN _ _ e) (AJ e a)
def VP(h:∀p∈a,p.2<2^20):kn a<2^20:=by
 exact EU λn d=>by grind
def Sx(x y:Nat):(x|||y)+(x&&&y)=x+y:=by
 have h:=PyProof.Rows.bitOr_and x y;rw[Cf,Cl]at h
 lia
def II(a b:Nat):a-(a&&&b)=a^^^(a&&&b):=by
 have d:(a^^^(a&&&b))|||(a&&&b)=a:=by
  refine Nat.eq_of_testBit_eq λk=>?_;simp;cases a.testBit k<;>cases b.testBit k<;>rfl
 have h:(a^^^(a&&&b))&&&(a&&&b)=0:=by
  refine Nat.eq_of_testBit_eq λk=>?_;simp only[Nat.testBit_and,Nat.testBit_xor,Nat.zero_testBit];cases a.testBit k<;>cases b.testBit k<;>rfl
 have e:=Sx (a^^^(a&&&b)) (a&&&b)
 lia
def LQ(a b k:Nat):(a-(a&&&b)).testBit k=(a.testBit k && !b.testBit k):=by
 rw[II]
 grind
def PZ(a b):(a-(a&&&b))-((a-(a&&&b))&&&a)=0:=by
 have h:(a-(a&&&b))&&&a=a-(a&&&b):=by
  rw[II a b];refine Nat.eq_of_testBit_eq λk=>?_;simp only[Nat.testBit_and,Nat.testBit_xor];cases a.testBit k<;>cases b.testBit k<;>rfl
 lia
end
section
inductive spErrInit(K:FG)(vs:hK)(H:Hp)(Q:VK)(_E:XK):Prop
 |mk (e C) (dx) (x) (aW:vs=[.ref e,.str x]) (aX:BB K C=true) (bz:H e=some (E5 e C dx)) (bQ:Q .aO H)
def Q4:AH [hZ,lH] [hZ,lH] (defScope BI):=bA
def D5(F:FunD ω ip jh BI f fd)(p:mg iz=none):aE P w ω mg base aS 1 f fd [hZ,lH] (spErrInit ω):=by
 refine F.ok Q4 (λl H Q E h=>?_) (λj A a s H l Q E q h=>?_)
 ·obtain⟨e,C,d,x,rfl,_⟩:=h;rfl
 ·obtain⟨e,C,d,x,rfl,i,o,k⟩:=h;refine⟨_,AB (Ae (R5 zJ p (AA (pv 0) (AA (pv 1) AG)))),?_⟩;exact⟨_,zJ,_,zJ,e,C,d,[.str x],zJ,(by simp_all),i,o,k⟩
structure cY(P:Program)(w:World)(K:FG)(mg:SV)(base:Heap)(x:Str)(CU:hO):Prop where
 cls:mg x=some (.ref CU)
 make:∃f fd,MkX K CU f/\aE P w K mg base aS 1 f fd [hZ,lH] (spErrInit K)/\Binds K fd [hZ,lH] []
def Uq(H:Hp)(E:XK)(CU:hO):Prop:=∀e H',aB H H'->H e=none->H' e=some (GO e CU none)->E (.ref CU) none H'
def none_of(s:aB H H')(h:H' x=none):H x=none:=by
 cases e:H x with
 |none=>rfl
 |some u=>rw[s _ _ e]at h;cases h
def Uq.of(s:aB H H')(h:Uq H E CU):Uq H' E CU:=λe i j a d=>h e i (s.trans j) (none_of s a) d
def C7{ω}{H}{d}{te:XK->TE}{σ}{i}{E}{D}{x}(l:BB ω d=true)(j:aB H i)(h:Uq H E d):HG d (HF d (spErrInit ω) [] E0 (At (tC (.str x)) B8)) E D σ i:=by
 refine⟨(by simp_all),λa e=>?_⟩;refine⟨a,d,none,x,zJ,l,aA,zJ,a,none,zJ,aA,?_⟩;refine h a _ (j.trans ?_) (none_of j e) aA;rw[Tg];exact AE (aB.refl _) e
end
noncomputable def wds:hA:=["BadRows",ja,lX,"Unled","BadRule",iW,ji,"Unlike","BadPairs","Never",jb]
def wd(j:Nat):Str:=wds.getD j ""
noncomputable def eZ(j:Nat):List Bool:=(List.range 11).map λi=>decide (i=j)
noncomputable def b1(b:Bool):Int:=if b then 1 else 0
noncomputable abbrev zA(j:Nat):hK:=[V.bl (decide (0=j)),V.bl (decide (1=j)),V.bl (decide (2=j)),V.bl (decide (3=j))]
noncomputable abbrev zB(j:Nat):hK:=[V.bl (decide (4=j)),V.bl (decide (5=j)),V.bl (decide (6=j))]
noncomputable abbrev zC(j:Nat):hK:=[V.bl (decide (7=j))]
noncomputable abbrev zD(j:Nat):hK:=[V.bl (decide (8=j)),V.bl (decide (9=j)),V.bl (decide (10=j))]
noncomputable abbrev yA:hK:=[V.str "BadRows",V.str ja,V.str lX,V.str "Unled",V.str "BadRule",V.str iW,V.str ji]
noncomputable abbrev yB:hK:=[V.str "Unlike",V.str "BadPairs"]
def Pa:∀j,j<11->((eZ j).map b1).sum=1:=by trivial
def WS:∀j,j<11->(eZ j)[j]?=some true/\∀m,m<j->(eZ j)[m]?=some false:=by trivial
def WT:∀j:Nat,j<11->eM (wds.map V.str) (j)=some (V.str (wd j)):=by trivial
structure Q5(mg:SV)(ec:Nat->hO):Prop where
 e0:mg "BadRows"=some (.ref (ec 0))
 e1:mg ja=some (.ref (ec 1))
 e2:mg lX=some (.ref (ec 2))
 e3:mg "Unled"=some (.ref (ec 3))
 e4:mg "BadRule"=some (.ref (ec 4))
 e5:mg iW=some (.ref (ec 5))
 e6:mg ji=some (.ref (ec 6))
 e7:mg "Unlike"=some (.ref (ec 7))
 e8:mg "BadPairs"=some (.ref (ec 8))
 e9:mg "Never"=some (.ref (ec 9))
 e10:mg jb=some (.ref (ec 10))
 ev:mg iz=none
structure Pb(K:FG)(ec:Nat->hO)(C:hO)(j:Nat):Prop where
 hj:j<11
 kx:UJ K C
 kit:∀i,i<11->W.kitOne K (.ref C) (.ref (ec i))=some (decide (i=j))
 val:W.kitOne K (.ref C) (.type iz)=some true
section
def B7(ω)(t:X.K=ω)(q:ExcP X e oe C)(k:UJ ω C)(r:Gl X iG)(z:X.mg iG=none)(j:Gl X x)(i:X.mg x=some (.ref c))(y:PE X a te)
  (h:dr x:=by decide)
  (hs:starEach [a,.Name x p2] X.env=(false,eval a X.env)::starEach [.Name x p2] X.env:=by rfl) (o:(backTo pos (starEach [.Name x p2] X.env)).any (·.1)=false:=by rfl) (l:starEach [.Name x p2] X.env=(false,eval (.Name x p2) X.env)::starEach [] X.env:=by rfl):
  PE X (.Call (.Name iG p) [a,.Name x p2] [] pos) (tCB (λxs H Q=>∃v c b,xs=[.ref e,v]/\((∃D,v=.ref D/\c=.ref D)\/∃T,v=.ty T/\c=.type T)/\(oe.dict=none\/∃d u,oe.dict=some d/\H d=some u)/\W.kitOne ω (.ref C) c=some b/\Q (.bl b) H) (At te (At (tC (.ref c)) B8))):=by
 subst t;exact AR (KL q k) r z Ef (AA y (AA (BJ j i zJ h) AG l) hs) qc qc hs o
def D6(ω:FG)(ec:Nat->hO):SpS:=λe oe vs H Q=>vs=[.ref e]/\∃(C:hO)(j:Nat)(fs:Array Value),oe.cls=.ref C/\oe.data=.fields fs/\fs[2]?=some .none/\(oe.dict=none\/∃d u,oe.dict=some d/\H d=some u)/\Pb ω ec C j /\
 ∀p H',aB H H'->H' p=some (.tup [.str iH,.str (wd j)])->Q (.ref p) H'
def scWord:AH [iM,"_law_flags",jg] [iM] (defScope Ec):=bA
def Ur(F:aN ω i9 i9 Ec f fd)(B:Bl mg)(M:Q5 mg ec):O6 P w ω mg base 1 f fd [iM] (D6 ω ec):=by
 refine F.okS scWord (λe I vs H Q h=>?_) (λL A D s H vs Q e I hh hr h=>?_)
 ·obtain⟨rfl,_⟩:=h;rfl
 ·obtain⟨rfl,C,j,fs,hc,hf,h2,hd,r,k⟩:=h;have Z:=r.hj
  have l:∀H',aB H H'->(I.dict=none\/∃d u,I.dict=some d/\H' d=some u):=λH' s=>by
   rcases hd with z|⟨d,u,z,y⟩
   ·simp_all
   ·exact .inr ⟨d,u,z,s _ _ y⟩
  have x:=r.kit;have t:ExcP (KH P w ω mg base [iM,"_law_flags",jg] i9 (defScope Ec) f L A D s H e I) e I C:=⟨z8,hc,⟨fs,hf⟩⟩;have rd:fQ (KH P w ω mg base [iM,"_law_flags",jg] i9 (defScope Ec) f L A D s H e I):=UG hh hf h2
  refine⟨_,AC (Ab (i:=1) scWord.nd zJ (Or.inl zJ) (A5 (AA (B7 ω zJ t r.kx zJ B.c9 zJ M.e0 (pv 0)) (AA (B7 ω zJ t r.kx zJ B.c9 zJ M.e1 (pv 0)) (AA (B7 ω zJ t r.kx zJ B.c9 zJ M.e2 (pv 0)) (AA (B7 ω zJ t r.kx zJ B.c9 zJ M.e3 (pv 0)) AG))))))
   (AC (Ab (i:=1) scWord.nd rfl (Or.inl rfl) (AZ Ig (pv 1) (A5 (AA (B7 ω rfl t r.kx rfl B.c9 rfl M.e4 (pv 0)) (AA (B7 ω rfl t r.kx rfl B.c9 rfl M.e5 (pv 0)) (AA (B7 ω rfl t r.kx rfl B.c9 rfl M.e6 (pv 0)) AG))))))
   (AC (Ab (i:=1) scWord.nd rfl (Or.inl rfl) (AZ Ig (pv 1) (A5 (AA (B7 ω rfl t r.kx rfl B.c9 rfl M.e7 (pv 0)) AG))))
   (AC (Ab (i:=1) scWord.nd rfl (Or.inl rfl) (AZ Ig (pv 1) (A5 (AA (B7 ω rfl t r.kx rfl B.c9 rfl M.e8 (pv 0)) (AA (B7 ω rfl t r.kx rfl B.c9 rfl M.e9 (pv 0)) (AA (B7 ω rfl t r.kx rfl B.c9 rfl M.e10 (pv 0)) AG))))))
   (AC (Ab (i:=2) scWord.nd rfl (Or.inl rfl) (A5 (AA AL (AA AL (AA AL (AA AL (AA AL (AA AL (AA AL AG)))))))))
   (AC (Ab (i:=2) scWord.nd rfl (Or.inl rfl) (AZ Ig (pv 2) (A5 (AA AL (AA AL AG)))))
   (AC (AY (PW.pt (CW (AK DU (AR (KD rd) rfl B.sum SQ (AA (QF [] [] (by rfl) (by simp) (by rfl) rd (Rp (pv 1)) (λ_ _ _ _ _ _=>BS) (λ_ _ _ _ _ _=>BG G7 rfl B.int Hg (AA (pv 0) AG))) AG)) AF (AN _))
     (Bc (Aw (Ao (AR (KL t r.kx) rfl B.c9 Ef (AA (pv 0) (AA (De (v:=.ty iz) rfl M.ev O5 rfl) AG)))))))) (AB Ag) AM)
   (AB (AI (Ai (AA AL (AA (An (Ak ω rfl) (AZ Ig (pv 2) (A5 (AA AL (AA AL AG)))) (Bn plainAttrs_list slot_list_index type_list_index QS (pv 1) (AA DR AG)) (λ_ _=>rfl)) AG))))))))))),?_⟩
  refine⟨_,zJ,_,_,_,zJ,.inl ⟨_,zJ,zJ⟩,l _ (aB.refl _),x 0 qc,_,zJ,_,_,_,zJ,.inl ⟨_,zJ,zJ⟩,l _ (aB.refl _),x 1 qc,_,zJ,_,_,_,zJ,.inl ⟨_,zJ,zJ⟩,l _ (aB.refl _),x 2 qc,_,zJ,_,_,_,zJ,.inl ⟨_,zJ,zJ⟩,l _ (aB.refl _),x 3 qc,sl4,λl1 h1=>?_⟩;have T:=AE (aB.refl H) h1 (o:=.lst (zA j));have a1:=aA (H:=H) (a:=l1) (o:=.lst (zA j));generalize upd H l1 (.lst (zA j))=H1 at T a1 ⊢;refine⟨_,zJ,_,zJ,_,_,_,zJ,.inl ⟨_,zJ,zJ⟩,l _ T,x 4 qc,_,zJ,_,_,_,zJ,.inl ⟨_,zJ,zJ⟩,l _ T,x 5 qc,_,zJ,_,_,_,zJ,.inl ⟨_,zJ,zJ⟩,l _ T,x 6 qc,gk,λl2 N=>?_⟩;refine⟨l1,l2,_,_,zJ,zJ,(AE (aB.refl H1) N) _ _ a1,aA,(by show 4+3<=sizeLine;decide),λl3 h3=>?_⟩;have s3:=T.trans (AE (AE (aB.refl H1) N (o:=.lst (zB j))) h3 (o:=.lst (zA j++zB j)));generalize e3:upd (upd H1 l2 (.lst (zB j))) l3 (.lst (zA j++zB j))=H3 at s3 ⊢;have a3:H3 l3=some (.lst (zA j++zB j)):=by rw[←e3,aA]
  refine⟨_,zJ,_,zJ,_,_,_,zJ,.inl ⟨_,zJ,zJ⟩,l _ s3,x 7 qc,sl1,λl4 h4=>?_⟩;refine⟨l3,l4,_,_,zJ,zJ,(AE (aB.refl H3) h4) _ _ a3,aA,(by show 7+1<=sizeLine;decide),λl5 h5=>?_⟩;have O:=s3.trans (AE (AE (aB.refl H3) h4 (o:=.lst (zC j))) h5 (o:=.lst ((zA j++zB j)++(zC j))));generalize e5:upd (upd H3 l4 (.lst (zC j))) l5 (.lst ((zA j++zB j)++(zC j)))=H5 at O ⊢;refine⟨_,zJ,_,zJ,_,_,_,zJ,.inl ⟨_,zJ,zJ⟩,l _ O,x 8 qc,_,zJ,_,_,_,zJ,.inl ⟨_,zJ,zJ⟩,l _ O,x 9 qc,_,zJ,_,_,_,zJ,.inl ⟨_,zJ,zJ⟩,l _ O,x 10 qc,gk,λl6 h6=>?_⟩;refine⟨l5,l6,_,_,zJ,zJ,(AE (aB.refl H5) h6) _ _ (by rw[←e5,aA]),aA,(by show 8+3<=sizeLine;decide),λY h7=>?_⟩;have s7:=O.trans (AE (AE (aB.refl H5) h6 (o:=.lst (zD j))) h7 (o:=.lst (((zA j++zB j)++(zC j))++(zD j))));generalize e7:upd (upd H5 l6 (.lst (zD j))) Y (.lst (((zA j++zB j)++(zC j))++(zD j)))=H7 at s7 ⊢;have a7:H7 Y=some (.lst ((eZ j).map V.bl)):=by rw[←e7];exact aA
  refine⟨(by trivial),λl8 h8=>?_⟩;refine⟨_,zJ,(by trivial),λl9 h9=>?_⟩;refine⟨l8,l9,_,_,zJ,zJ,(AE (aB.refl _) h9) _ _ aA,aA,(by trivial),λG gS=>?_⟩;have E:=AE (AE (AE (aB.refl H7) h8 (o:=.lst yA)) h9 (o:=.lst yB)) gS (o:=.lst (yA++yB));generalize e10:upd (upd (upd H7 l8 (.lst yA)) l9 (.lst yB)) G (.lst (yA++yB))=H10 at E ⊢;have a10:H10 G=some (.lst (yA++yB)):=by rw[←e10];exact aA
  have b7:=E _ _ a7;refine⟨_,zJ,Y,zJ,⟨_,aH.of b7⟩,CH (ω:=ω) (a:=Y) (xs:=(eZ j).map V.bl) (λi X J=>X=((eZ j).take i).map (λb=>V.int (b1 b))/\J=H10) ⟨zJ,zJ⟩ (λi X J _ m=>by obtain⟨_,e⟩:=m;exact e ▸ aH.of b7) (λi X J ⟨e,_⟩=>?_) ?_ ?_⟩
  ·rw[e,AQ,zX];have:(eZ j).length=11:=rfl
   lia
  ·rintro i v X J hi ⟨rfl,rfl⟩;rw[z4]at hi;obtain⟨b,hb,rfl⟩:=Z6.mp hi;refine⟨_,zJ,.inr ⟨b,zJ,?_,zJ⟩⟩;rw[z0,hb,Option.toList_some,zR];rfl
  ·rintro X J ⟨rfl,rfl⟩ p hp;have el:(eZ j).take ((eZ j).map V.bl).length=eZ j:=by rw[AQ];exact zY
   rw[el];have em:(eZ j).map (λb=>V.int (b1 b))=((eZ j).map b1).map V.int:=by rw[map_map];rfl
   rw[em];have S:=AE (aB.refl J) hp (o:=.lst (((eZ j).map b1).map V.int));refine⟨p,(eZ j).map b1,zJ,aH.of aA,λn hn=>?_,(by rw[Pa j Z];decide),zJ,_,zJ,?_⟩
   ·obtain⟨b,_,rfl⟩:=zO.mp hn;unfold b1
    lia
   rw[Pa j Z];refine AV ?_;refine⟨_,zJ,_,_,true,zJ,.inr ⟨_,zJ,zJ⟩,l _ (s7.trans (E.trans S)),r.val,_,zJ,?_⟩;refine AV ?_;refine⟨_,zJ,(by trivial),λl11 h11=>?_⟩;have R:=AE S h11 (o:=.lst [V.str "Never",V.str jb]);refine⟨G,l11,_,_,zJ,zJ,R _ _ a10,aA,(by trivial),λl12 h12=>?_⟩;have U:=AE R h12 (o:=.lst ((yA++yB)++[V.str "Never",V.str jb]));have c7:=U _ _ b7;obtain⟨f1,f2⟩:=WS j Z;refine⟨_,zJ,.inl ⟨zJ,_,aH.of c7⟩,Y,eZ j,j,zJ,zJ,c7,f1,f2,l12,_,(j:Int),_,zJ,zJ,aH.of aA,WT j Z,dh,λq hq=>?_⟩;exact k q _ (s7.trans (E.trans (AE U hq))) aA
end
structure Gs(K:FG)(ec:Nat->hO)(cM C:hO)(j:Nat):Prop where
 ea:Pb K ec C j
 cx:BB K C=true
 n0:(ED K C).contains (.ref (ec 0))=false
 n1:(ED K C).contains (.ref (ec 1))=false
 n2:(ED K C).contains (.ref (ec 2))=false
 n3:(ED K C).contains (.ref (ec 3))=false
 m:(ED K C).contains (.ref cM)=true
noncomputable def LR(j:Nat):Str:=(["at",i7,"at",ij]:hA).getD j ""
structure NA(K:FG)(ec:Nat->hO)(C:hO)(j:Nat):Prop where
 ea:Pb K ec C j
 cx:BB K C=true
 j4:j<4
 no:∀i,i<j->(ED K C).contains (.ref (ec i))=false
 m:(ED K C).contains (.ref (ec j))=true
 g:Xc K C (LR j)
structure Sy(K:FG)(mg:SV)(ec:Nat->hO)(cM:hO):Prop where
 m:mg "MarkError"=some (.ref cM)
 xm:BB K cM=true
 x0:BB K (ec 0)=true
 x1:BB K (ec 1)=true
 x2:BB K (ec 2)=true
 x3:BB K (ec 3)=true
structure FnS(P:Program)(w:World)(K:FG)(mg:SV)(base:Heap)(x:Str)(k:Nat)(ps:hA)(sp:SpS):Prop where
 ex:∃f fd,O6 P w K mg base k f fd ps sp/\mg x=some (.ref f)/\W.keepIn K (.ref f)=true/\Binds K fd ps []
def Sz(ω:FG)(ec:Nat->hO)(cM C:hO)(dx:Option hO)(e:hO):TS:=λD σ H=>σ.length=2 /\
 ((∃j,Gs ω ec cM C j/\dx=none/\∀p H',aB H H'->H' p=some (.tup [.str iH,.str (wd j)])->D.rt (.ref p) H') \/
  ∃j d v,NA ω ec C j/\dx=some d/\H d=some (.xd [(LR j,v)])/\∀p H',aB H H'->H' p=some (.tup [.str iH,.str (wd j),v])->D.rt (.ref p) H')
def JX(ω:FG)(ec:Nat->hO)(cM:hO)(Q:VK):XK:=λCv dx H2=>∃C,Cv=.ref C/\∀e,H2 e=some (GO e C dx) ->
 ((∃j,Gs ω ec cM C j/\dx=none/\∀p H',aB (del H2 e) H'->H' p=some (.tup [.str iH,.str (wd j)])->Q (.ref p) H') \/
  ∃j d v,NA ω ec C j/\dx=some d/\(del H2 e) d=some (.xd [(LR j,v)])/\∀p H',aB (del H2 e) H'->H' p=some (.tup [.str iH,.str (wd j),v])->Q (.ref p) H')
def scTold:AH [iJ,iM] [iJ] (defScope A7):=bA
section
def S0(ω)(a:X.K=ω):cy X (binaryOp .Add) (Ov ω):=a ▸ Tt
def Us(F:aN ω iq iq A7 f fd)(M:Q5 mg ec)(G:Sy ω mg ec cM)(GW:FnS P w ω mg base i9 1 [iM] (D6 ω ec))
   {s}{H}   {scope}{cl}      {tl:XK->TE} 
  (hr:aJ (k+2) A) (e0:cW P w ω mg base A outer s H) (hb:BindsTo s fd args (([iJ]:hA).zip [Value.ref lf])) (C:Iz Nl scope cl σl H s.heap) (hfs:∀x c,cl.lookup x=some c->c∉ cA outer)
  (h1:H lf=some (gH lf (W.kla_obj name qual params body scope cl pm Y ctv))) (h2:H Y=some (GQ Y qual))
  (U:bindArgs (W.kla_fn name qual params body scope cl pm (.ref Y) ctv) ⟨[],[]⟩=pure [])
  (hco:scope.isCoroutine=false) (hgen:scope.isGenerator=false) (hk:scope.kind=.function) (Z:∀x∈scope.names,x.2≠ .cell)
  (hlam:∀A' O s' H' E,aJ k (A'.deeper (W.envX qual scope s'.heap.objs.size lf (.ref Y) cl))->PE (GV P w ω mg base Nl qual scope lf (.ref Y) cl A' O s' H' E) body (tl E))
  (h:tl (JX ω ec cM Q) σl H Q):codeAny (model P w) A (.call (.ref f) args) (CR aS outer P w H s Q E0) s:=by
 obtain⟨fW,dW,GW,mW,kW,bW⟩:=GW.ex;refine F.at (N:=[iJ,iM]) scTold (vs:=[.ref lf]) zJ (k:=k+1) hr e0 hb (.cons zJ .nil) λl X=>?_
 have hrm:∀e,RoomS 1 ((A.deeper (PyProof.Rows.envOfC iq (defScope A7) s.heap.objs.size f l)).mark (some (.ref e))):=λe=>by
  have q:=X.mono (show 1<=k+1 by lia);exact⟨q.dp,q.un⟩
 refine⟨_,AB (V4 (tb:=λE=>RL (MU 0 lf Y qual (W.kla_obj name qual params body scope cl pm Y ctv) σl (tl E))) (th:=Sz ω ec cM) (V1 (CX:=aS) (P:=P) (w:=w) (ω:=ω) (mg:=mg) (base:=base) (N:=[iJ,iM]) (qual:=iq) (scope:=defScope A7) (f:=f) (cd:=l) (A:=A) (outer:=outer) (s:=s) (H:=H) (E:=E0)) (λP0 xe E hx=>?_) (λL dx=>?_)),?_⟩
 ·exact AB (AI (OC (i:=0) (k:=k+1) zJ (Or.inl zJ) X C hfs zJ hx U hco hgen hk Z (λs' H'=>hlam _ _ s' H' E (X.deeper _))))
 ·rintro u s1 S H1 D e a T y c I ⟨hl,⟨j,EP,rfl,kq⟩|⟨j,d,v,t,rfl,hxd,kq⟩⟩
  ·refine(?hp:PH (By aS P w ω mg base [iJ,iM] iq (defScope A7) f l A outer s H E0) L none _ (λe=>O7 1 (λD S H=>S[1]?=some (some (.ref e))/\∀p H',aB H H'->H' p=some (.tup [.str iH,.str (wd j)])->D.rt (.ref p) H') e)) u s1 S H1 D e a T y c I ?_
   ·refine CS (Dn:=ec 0) EP.cx G.x0 zJ M.e0 EP.n0 ?_;refine CS (Dn:=ec 1) EP.cx G.x1 zJ M.e1 EP.n1 ?_;refine CS (Dn:=ec 2) EP.cx G.x2 zJ M.e2 EP.n2 ?_;refine CS (Dn:=ec 3) EP.cx G.x3 zJ M.e3 EP.n3 ?_;refine O8 (Dn:=cM) (i:=1) scTold.nd zJ zJ EP.cx G.xm zJ G.m EP.m (λe a T y c=>?_);refine λu s2 gK H2 D2 I2 h2=>?_;obtain⟨fs,hd,hf1,hf2⟩:=c.fld;refine(?hb2:c8 (CK (By aS P w ω mg base [iJ,iM] iq (defScope A7) f l A outer s H E0) e a T y) _ (RL (K4 (D6 ω ec) e a (At (Kh 1) B8)))) u s2 gK H2 D2 I2 ⟨_,h2.1,zJ,L,j,fs,c.cls,hd,hf2,.inl c.dict,EP.ea,h2.2⟩;exact AB (AI (MS (e:=e) (oe:=a) GW (hrm e) zJ (by simp[CK]) zJ mW kW bW (AA (pv 1) AG)))
   ·exact⟨by simp_all,kq⟩
  ·have hj4:=t.j4;refine(?hq:PH (By aS P w ω mg base [iJ,iM] iq (defScope A7) f l A outer s H E0) L (some d) _ (λe=>O7 1 (λD S H=>S[1]?=some (some (.ref e))/\H d=some (.xd [(LR j,v)])/\∀p H',aB H H'->H' p=some (.tup [.str iH,.str (wd j),v])->D.rt (.ref p) H') e)) u s1 S H1 D e a T y c I ?_
   ·have take:∀{x:Str}{J:Stmt}{np pos:Pos}{hs:List ExceptHandler}(B:hO),BB ω B=true->(hg:Gl (By aS P w ω mg base [iJ,iM] iq (defScope A7) f l A outer s H E0) x)->mg x=some (.ref B)->(ED ω L).contains (.ref B)=true->dr x ->
      (∀e a T y,Cgt L (some d) e a T y->c8 (CK (By aS P w ω mg base [iJ,iM] iq (defScope A7) f l A outer s H E0) e a T y) [J] (RL (gj (Ov ω) (K4 (D6 ω ec) e a (At (Kh 1) B8)) (Ts (At (SD e a (LR j) (Kh 1)) B8))))) ->
      PH (By aS P w ω mg base [iJ,iM] iq (defScope A7) f l A outer s H E0) L (some d) (.ExceptHandler (some (.Name x np)) (some iM) [J] pos::hs) (λe=>O7 1 (λD S H=>S[1]?=some (some (.ref e))/\H d=some (.xd [(LR j,v)])/\∀p H',aB H H'->H' p=some (.tup [.str iH,.str (wd j),v])->D.rt (.ref p) H') e):=λ{x J np pos hs}B hD hg hm hc hdb hbod=>
     O8 (Dn:=B) (i:=1) scTold.nd rfl rfl t.cx hD hg hm hc (λe a T y c=>by
      refine λu s2 gK H2 D2 I2 h2=>?_;obtain⟨fs,hd,hf1,hf2⟩:=c.fld;obtain⟨g1,g2,g3⟩:=h2;refine hbod e a T y c u s2 gK H2 D2 I2 ⟨_,g1,rfl,L,j,fs,c.cls,hd,hf2,.inr ⟨d,_,c.dict,g2⟩,t.ea,λp H' sp hp=>?_⟩;refine⟨_,g1,d,_,v,rfl,c.dict,sp _ _ g2,(by simp),sl1,λq hq=>?_⟩;have sq:=AE (aB.refl H') hq (o:=.tup [v]);refine⟨p,q,_,_,rfl,rfl,aP.of (sq _ _ hp),aP.of aA,(by simp),(by show 2+1<=sizeLine;decide),(λz=>nomatch z),λ_ r hr=>?_⟩
      exact g3 r _ (sp.trans (AE sq hr)) aA) hdb
    have pX:∀e a T y,Cgt L (some d) e a T y->ExcP (CK (By aS P w ω mg base [iJ,iM] iq (defScope A7) f l A outer s H E0) e a T y) e a L:=λe a T y c=>by
     obtain⟨fs,hd,_⟩:=c.fld;exact⟨by simp[CK],c.cls,⟨fs,hd⟩⟩
    have R:∀{fl:Str}{p1 p2 p3 p4 p5 p6 p7:Pos}{kt:Nat},LR j=fl->∀e a T y,Cgt L (some d) e a T y->c8 (CK (By aS P w ω mg base [iJ,iM] iq (defScope A7) f l A outer s H E0) e a T y) [.Return (some (.BinOp (.Call (.Name i9 p1) [.Name iM p2] [] p3) .Add (.Tuple [.Attribute (.Name iM p4) fl p5] kt p6) p7)) p7] (RL (gj (Ov ω) (K4 (D6 ω ec) e a (At (Kh 1) B8)) (Ts (At (SD e a (LR j) (Kh 1)) B8)))):=λaf e a T y c=>by
     subst af;exact AB (AI (AZ (S0 ω zJ) (MS (e:=e) (oe:=a) GW (hrm e) zJ (by simp[CK]) zJ mW kW bW (AA (pv 1) AG)) (Ai (AA (UO (pX e a T y c) t.g (pv 1) zJ) AG))))
    rcases (show j=0\/j=1\/j=2\/j=3 by lia)with z|z|z|z
    ·subst z;exact take (ec 0) G.x0 zJ M.e0 t.m qc (R zJ)
    ·subst z;refine CS (Dn:=ec 0) t.cx G.x0 zJ M.e0 (t.no 0 qc) ?_;exact take (ec 1) G.x1 zJ M.e1 t.m qc (R zJ)
    ·subst z;refine CS (Dn:=ec 0) t.cx G.x0 zJ M.e0 (t.no 0 qc) ?_;refine CS (Dn:=ec 1) t.cx G.x1 zJ M.e1 (t.no 1 qc) ?_;exact take (ec 2) G.x2 zJ M.e2 t.m qc (R zJ)
    ·subst z;refine CS (Dn:=ec 0) t.cx G.x0 zJ M.e0 (t.no 0 qc) ?_;refine CS (Dn:=ec 1) t.cx G.x1 zJ M.e1 (t.no 1 qc) ?_;refine CS (Dn:=ec 2) t.cx G.x2 zJ M.e2 (t.no 2 qc) ?_;exact take (ec 3) G.x3 zJ M.e3 t.m qc (R zJ)
   ·exact⟨by simp_all,hxd,kq⟩
 ·refine⟨zJ,h1,h2,?_⟩
  have e:UI (By aS P w ω mg base [iJ,iM] iq (defScope A7) f l A outer s H E0).N.length (Sz ω ec cM) {nx:=λ_ H'=>Q .aO H',rt:=Q}=JX ω ec cM Q:=by
   funext Cv dx H2;unfold UI JX Sz;simp[By]
  rw[←e]at h;exact h
end
end Mk
end
section
namespace L2
open PySem PySem.Spec PyProof.Rows
noncomputable def Ut(ix:List Nat)(σ:St):St:=ix.map λj=>(σ[j]?).getD none
structure LamN(X:Cx)(Nl:hA)(ix:List Nat)(scope:Scope)(cm:List (Str×hO)):Prop where
 len:ix.length=Nl.length
 nm:∀(i:Nat)x,Nl[i]?=some x->∃j,ix[i]?=some j/\X.N[j]?=some x/\X.env.scope.names.lookup x=some .cell/\scope.names.lookup x=some .free
 cl:∀x c,cm.lookup x=some c->X.env.cells.lookup x=some c
 has:∀x,(scope.names.lookup x=some .cell\/scope.names.lookup x=some .free)->∃c,cm.lookup x=some c
 fn:∀x,X.fn x=true
section
def LamN.cells(L:LamN X Nl ix scope cm)(I:Inv X aa σ H s):Iz Nl scope cm (Ut ix σ) H s.heap:=by
 refine⟨λx y c d a=>I.ok.inj x y c (L.cl x c d) (L.cl y c a),L.has,λx c h=>⟨I.cell x c (L.cl x c h),I.cc x c (L.cl x c h)⟩,λi x v d a=>?_,?_⟩
 ·obtain⟨j,F,D,A,t⟩:=L.nm i x d;refine⟨t,?_⟩;unfold Ut at a
  have C:σ[j]?=some (some v):=by
   cases e:σ[j]? with
   |none=>simp_all
   |some o=>simp_all
  obtain⟨m,_,E⟩:=I.loc;obtain⟨u,r,l⟩:=E j x v D C (.inr (.inl A));rcases l with⟨l,_⟩|⟨_,c,e,z⟩
  ·rw[show X.env.kindOf x=X.env.scope.names.lookup x from rfl,A]at l;cases l
  ·obtain⟨B,q⟩:=L.has x (.inr t);have p:=L.cl x B q;rw[e]at p;cases p;exact⟨u,c,r,q,z⟩
 ·unfold Ut;rw[AQ];exact L.len
def LamN.gU(L:LamN X Nl ix scope cm)(I:Inv X aa σ H s):∀x c,cm.lookup x=some c->c∉ cA X.stack:=λx c h z=>by
 have a:=L.cl x c h;rcases mem_cons.mp (I.cQ c z)with z|z
 ·exact I.gf x c a z
 ·obtain⟨_,o,d,_⟩:=I.ok.cu.mem z;exact absurd (Z2 (lt_size d) (I.ok.fH x c (L.fn x) a)) (z5 _)
end
end L2
namespace Mk
open PySem L2 MK
section
def VQ(ω:FG)(ec:Nat->hO)(cM P0:hO)(qual:Str)(ls:List Pos)(ix:List Nat)(tl:XK->TE):TE:=λσ H Q=>aY H P0 qual ls/\∀H',MV P0 H H'->aY H' P0 qual ls->tl (JX ω ec cM Q) (Ut ix σ) H' Q
def Uu(F:aN X.K iq iq A7 f fd)(M:Q5 X.mg ec)(EX:Sy X.K X.mg ec cM)(GW:FnS X.prog X.w X.K X.mg X.base i9 1 [iM] (D6 X.K ec))
  (hr:aJ (k+2) X.A) (hg:Gl X iq) (hm:X.mg iq=some (.ref f)) (Z:W.keepIn X.K (.ref f)=true) (hB:Binds X.K fd [iJ] [])

  (L:V5 X c P0) (R:a∈ls) (S:∀q∈ls,q=a\/(q.line==a.line&&q.col==a.col)=false) (T:closureFor scope X.env=pure cm) (z:defaultsOf params X.env=([],[])) (LN:LamN X Nl ix scope cm)
  (t:∀pm j d,bindArgs (W.kla_fn ie (X.env.qual ++ ie) params body scope cm pm (.ref j) d) ⟨[],[]⟩=pure [])
  (N:scope.isCoroutine=false) (C:scope.isGenerator=false) (hk:scope.kind=.function) (o:∀x∈scope.names,x.2≠ .cell)
  (A:∀i j A' l U H' E,aJ k (A'.deeper (W.envX (X.env.qual ++ ie) scope U.heap.objs.size i (.ref j) cm))->PE (GV X.prog X.w X.K X.mg X.base Nl (X.env.qual ++ ie) scope i (.ref j) cm A' l U H' E) body (tl E))
  (he:starEach [.Lambda params body scope a] X.env=(false,eval (.Lambda params body scope a) X.env)::starEach [] X.env:=by rfl) (J:(backTo pos (starEach [] X.env)).any (·.1)=false:=by rfl):
  PE X (.Call (.Name iq p) [.Lambda params body scope a] [] pos) (VQ X.K ec cM P0 (X.env.qual ++ ie) ls ix tl):=by
 intro D s σ H Q I ⟨hT,h⟩;refine Z3 (Bv I hg hm ?_ qc);refine W.callWith_K I.ok.mod.kin Z (aL ((AA (V6 L R S T z) AG he) pos D s σ H (λvs v=>∃i j d,vs=[.ref i]/\MV P0 H v/\aY v P0 (X.env.qual ++ ie) ls/\v i=some (gH i (W.kla_obj ie (X.env.qual ++ ie) params body scope cm ((X.mg iQ).getD .none) j d))/\v j=some (GQ j (X.env.qual ++ ie))) I ⟨hT,λi j d H' _ Y ht O G=>⟨i,j,d,rfl,Y,ht,O,G⟩⟩) λus s1 ⟨vs,v,y,r,i,j,d,ev,Y,ht,O,G⟩=>⟨y.cp,?_⟩) he J;subst ev;obtain⟨u,eu,ru⟩:=BY r;subst eu;obtain rfl:u=Value.ref i:=ru;refine wpAny_call (codeAny_mono (Us F M EX GW hr y.eB (hB s1 [.ref i] y.cp rfl) (LN.cells y) (LN.gU y) O G (t _ _ _) N C hk o (A i j) (h v Y ht)) λr U B=>?_);cases r with
 |error e=>exact False.elim B
 |ok fl=>
  cases fl with
  |ret u=>exact y.after B
  |next=>exact False.elim B
  |brk=>exact False.elim B
  |cont=>exact False.elim B
end
section
structure WU(P:Program)(w:World)(K:FG)(mg:SV)(base:Heap)(cM:hO):Prop where
 cls:mg "MarkError"=some (.ref cM)
 ga:W.specialIn K (.ref cM) jc=some (some (.builtin jM))
 rd:W.readsIn K cM (.type l7)=true
 fn:∃f fd,W.findCls K (.ref cM) (.type l7) ip=some (.val (.ref f))/\aE P w K mg base aS 1 f fd [hZ,lH] (spErrInit K)/\W.keepIn K (.ref f)=true/\Binds K fd [hZ,lH] []
inductive spRestInit(K:FG)(cM:hO)(vs:hK)(H:Hp)(Q:VK)(_E:XK):Prop
 |mk (e C) (n) (aW:vs=[.ref e,.int n]) (aX:n.natAbs.log2<1920) (bz:BB K C=true) (bQ:H e=some (E5 e C none)) (cw:MW K C cM i7) (cX:∀d,H d=none->d≠e->Q .aO (upd (upd H e (E5 e C (some d))) d (.xd [(i7,.int n)])))
def Ob:AH [hZ,i7] [hZ,i7] (defScope Dp):=bA
def NB(F:aN ω ip "BadRest.__init__" Dp f fd)(a:WU P w ω mg base cM):aE P w ω mg base aS 2 f fd [hZ,i7] (spRestInit ω cM):=by
 obtain⟨y,x,l,p,q,u⟩:=a.fn;refine F.m Ob λv H Q E h=>?_;obtain⟨e,C,n,rfl,r,o,i,S,k⟩:=h;refine⟨zJ,λj A d s t=>?_⟩;refine⟨_,AC (Ae (JA zJ a.cls a.ga a.rd l p t q u .nil AT (AA (pv 0) (AA (PB (by trivial) (pv 1)) AG)))) (AB (O9 (M:=cM) (pv 0) (pv 1) zJ)),?_⟩;refine⟨_,zJ,_,zJ,.inl ⟨n,zJ,r⟩,λz=>⟨e,C,none,z,zJ,o,i,?_⟩⟩;exact⟨_,zJ,_,zJ,e,C,zJ,i,S,k⟩
def gY(H:Hp)(E:XK)(cR:hO)(n:Int):Prop:=∀e d H',aB H H'->H e=none->H d=none->d≠e->H' e=some (GO e cR (some d))->H' d=some (.xd [(i7,.int n)])->E (.ref cR) (some d) H'
structure Oc(P:Program)(w:World)(K:FG)(mg:SV)(base:Heap)(cM cR:hO):Prop where
 cls:mg ja=some (.ref cR)
 make:∃f fd,MkX K cR f/\aE P w K mg base aS 2 f fd [hZ,i7] (spRestInit K cM)/\Binds K fd [hZ,i7] []
 st:MW K cR cM i7
def Kc{n}(q:BB ω cR=true)(S:MW ω cR cM i7)(t:n.natAbs.log2<1920)(l:aB H H1)(h:gY H E cR n)(ht:te σ H1=λQ=>Q (.int n) H1):
  HG cR (HF cR (spRestInit ω cM) [] E0 (At te B8)) E D σ H1:=by
 show te σ H1 _;rw[ht];refine⟨(by simp_all),λa o=>?_⟩;refine⟨a,cR,n,zJ,t,q,aA,S,λd r i=>⟨zJ,a,some d,zJ,?_,?_⟩⟩
 ·rw[AD (Ne.symm i),aA]
 ·have j:H1 d=none:=by rwa[AD i]at r
  refine h a d _ (λb u e=>?_) (none_of l o) (none_of l j) i aA ?_
  ·have p:=l _ _ e;have nb:=AJ p o
   rwa[AD nb,AD (AJ p j),AD nb,AD nb]
  ·rw[AD i,aA]
end
noncomputable def plain(i:Int):Nat:=if 0<=i then i.toNat else (-i-1).toNat
def AX(aD:Aa)(i:Int):Nat:=plain i-(plain i&&&kn aD)
def Hm(i):(plain i)=if 0<=i then i else -i-1:=by
 unfold plain
 lia
def S4{i}(a:-1099511627776<=i)(d:i<1099511627776):plain i<2^40:=by
 unfold plain;split<;>lia
def Hn{n:Nat}(h:n<2^40):((n:Int)).natAbs.log2<1920:=by
 rw[Int.natAbs_natCast];rcases Nat.eq_zero_or_pos n with z|z
 ·simp_all
 ·have:=(Nat.log2_lt (by lia)).mpr h
  lia
section
inductive spMade(C VC cR:hO)(vs:hK)(H:Hp)(Q:VK)(E:XK):Prop
 |mk (kp) (aD) (r) (i) (aW:vs=[.ref kp,.int i]) (aX:aQ C H kp aD r) (bz:kn aD<2^20) (bQ:0<=i) (cw:i<1099511627776) (cX:((AX aD i≠0/\r=j7 /\ gY H E cR (AX aD i)) \/    (¬ (AX aD i≠0/\r=j7)/\AX aD i≠0/\r=jZ /\ ∀H',aB H H'->Q (.int i) H') \/    (¬ (AX aD i≠0/\r=j7)/\¬ (AX aD i≠0/\r=jZ)/\∀q H',aB H H'->bV VC H' q kp (if r=jo then plain i else plain i-AX aD i)->Q (.ref q) H')))
def scMade:AH [iy,il,i7,jx] [iy,il] (defScope PM):=bA
def Uv(F:aN ω "made" "made" PM f fd)(hL:mg "LIMIT"=some (.int 1099511627776 tL))(T:E6 ω C)(VO:IH P w ω mg base C VC)(RO:Oc P w ω mg base cM cR)
  (GW:Fn P w ω mg base jA 1 [ig] spIsWhole) (GR:Fn P w ω mg base lr 3 [iy,il] (spRestOf C)) (GRe:Mt P w ω mg base C jx 1 [hZ] (spRest C)):
  aE P w ω mg base (cz P w) 6 f fd [iy,il] (spMade C VC cR):=by
 obtain⟨fW,dW,GW,mW,kW,bW⟩:=GW.ex;obtain⟨fR,dR,GR,mR,kR,bR⟩:=GR.ex;obtain⟨fE,dE,GE,mE,bE⟩:=GRe.ex;obtain⟨fI,dI,MI,GI,bI⟩:=VO.make;obtain⟨fX,dX,MX,GX,bX⟩:=RO.make;have mV:=VO.cls;have mB:=RO.cls;refine F.n scMade λvs H Q E h=>?_;obtain⟨kp,aD,r,i,rfl,KA,hk20,hi1,fD,h⟩:=h;refine⟨zJ,λae A outer s hr=>?_⟩;have hr1:aJ 1 _:=hr.mono qc;have hr3:aJ 3 _:=hr.mono qc;have rz:=Eu (P:=P) (w:=w) (ω:=ω) (mg:=mg) (base:=base) (N:=[iy,il,i7,jx]) (qual:="made") (scope:=defScope PM) (f:=f) (cd:=ae) (A:=A) (outer:=outer) (s:=s) (H:=H) (E:=E);obtain⟨dxk,d1,d2,ai⟩:=KA.ins
 refine⟨_,AC (AY (PW.pt (CW (Aw (Ao (AO GW hr1 zJ mW kW bW .nil AT (AA (pv 1) AG)))) (Bc (Aw (EL EI E7 (Cu Cw (BJ (v:=.int 1099511627776) zJ hL ⟨tL,zJ⟩)) (pv 1) (BJ (v:=.int 1099511627776) zJ hL ⟨tL,zJ⟩)))))) (AB Ag) AM)
  (Aq (Ab (i:=2) scMade.nd rfl (Or.inl rfl) (BU (AK Ln (pv 1) AF (AN _)) (pv 1) (AZ Bx (Cu Cw (pv 1)) AF)))
  (AC (Ab (i:=3) scMade.nd rfl (Or.inl rfl) (AO GR hr3 rfl mR kR bR .nil AT (AA (pv 0) (AA (pv 2) AG))))
  (Aq (AY (PW.pt (CA (AK DU (pv 3) AF (AN _)) (Bg (AK As (BV (pv 0) T.cl mE GE hr1 bE .nil AT) AL (AN _))))) (AB (C1 rz rfl MX.cls (C0 MX GX hr3 rfl mB bX .nil AT (AA (pv 3) AG)))) AM)
  (AC (AY (AK E7 (pv 1) AF (AN _)) (AB Ag) AM)
  (Aq (AY (PW.pt (CA (AK DU (pv 3) AF (AN _)) (Bg (AK As (BV (pv 0) T.cl mE GE hr1 bE .nil AT) AL (AN _))))) (AB (AI (pv 1))) AM)
  (AB (AI (Ko MI GI hr rfl mV bI .nil AT (AA (pv 0) (AA (BU (AK As (BV (pv 0) T.cl mE GE hr1 bE .nil AT) AL (AN _)) (pv 2) (AZ Bx (pv 2) (pv 3))) AG)))))))))),?_⟩
 have noR:(Mv d1 d2 r).lookup (jx:Str)=none:=(CT _ _ _);refine⟨_,zJ,i,zJ,_,zJ,?_⟩;refine AV ?_;refine⟨_,zJ,_,zJ,_,_,zJ,zJ,_,zJ,?_⟩;rw[Zm (by lia)];apply Ah;refine⟨_,_,zJ,zJ,_,zJ,?_⟩;rw[Zm (fD)];apply AV;refine⟨λσ H1=>σ=[some (.ref kp),some (.int i),some (.int (plain i)),none]/\H1=H,λR hR=>?_,?_⟩
 ·refine⟨_,zJ,_,_,zJ,zJ,_,zJ,?_⟩;have e:=Hm i;rw[zM hi1]at e;rw[Zm (hi1)];refine Ah ⟨_,zJ,hR _ _ ⟨?_,zJ⟩⟩;rw[e];rfl
 rintro σ H0 ⟨rfl,rfl⟩;refine⟨_,zJ,_,zJ,kp,aD,r,plain i,zJ,KA,λH1 s1=>?_⟩;have hb40:=S4 (by lia) fD;have KA1:=KA.same s1;have bj:=s1 _ _ ai;have eS:∀n:Nat,decide (V.int (n:Int)=V.int 0)=decide (n=0):=λn=>decide_eq_decide.mpr ⟨λz=>by simp_all,λz=>by rw[z];rfl⟩;refine⟨λσ H2=>¬ (AX aD i≠0/\r=j7)/\σ=[some (.ref kp),some (.int i),some (.int (plain i)),some (.int (AX aD i))]/\H2=H1,λR hR=>?_,?_⟩
 ·refine⟨_,zJ,zJ,_,zJ,?_⟩;show if (!decide (V.int ((AX aD i:Nat))=V.int 0))=true then _ else _
  rw[eS];by_cases hz:AX aD i=0
  ·rw[Zm hz];exact AV (AV (hR _ _ ⟨λz=>z.1 hz,zJ,zJ⟩))
  ·rw[Zp hz];apply Ah;refine⟨_,zJ,kp,dxk,_,zJ,bj,noR,kp,aD,r,zJ,KA1,zJ,_,zJ,?_⟩;by_cases bh:r=j7
   ·rw[Zm (by rw[bh])];refine Ah ?_;rcases h with⟨_,_,hU⟩|⟨hn,_⟩|⟨hn,_⟩
    ·exact Kc MX.cls RO.st (Hn (Nat.lt_of_le_of_lt (Nat.sub_le _ _) hb40)) s1 hU (by funext Q';exact propext ⟨λ y=>by obtain⟨v,e,q⟩:=y;cases e;exact q,λq=>⟨_,zJ,q⟩⟩)
    ·exact absurd ⟨hz,bh⟩ hn
    ·exact absurd ⟨hz,bh⟩ hn
   ·rw[Zp (λz=>bh (V.str.inj z))];exact AV (hR _ _ ⟨λz=>bh z.2,zJ,zJ⟩)
 rintro σ H2 ⟨hnb,rfl,rfl⟩;refine⟨_,rfl,_,_,rfl,rfl,_,rfl,?_⟩;rcases h with⟨z1,z2,_⟩|⟨_,hs0,hlv,k⟩|⟨_,hnl,k⟩
 ·exact absurd ⟨z1,z2⟩ hnb
 ·rw[Zp (by lia)];apply AV;refine⟨λ_ _=>False,λR hR=>?_,λ_ _ z=>z.elim⟩;refine⟨_,zJ,zJ,_,zJ,?_⟩;rw[eS,Zp hs0];apply Ah;refine⟨_,zJ,kp,dxk,_,zJ,bj,noR,kp,aD,r,zJ,KA1,zJ,_,zJ,?_⟩;rw[Zm (by rw[hlv])];exact Ah ⟨_,zJ,k _ s1⟩
 ·rw[Zp (by lia)];apply AV;refine⟨λσ H3=>σ=[some (.ref kp),some (.int i),some (.int (plain i)),some (.int (AX aD i))]/\H3=H2,λR hR=>?_,?_⟩
  ·refine⟨_,zJ,zJ,_,zJ,?_⟩;rw[eS];by_cases hz:AX aD i=0
   ·rw[Zm hz];exact AV (AV (hR _ _ ⟨zJ,zJ⟩))
   ·rw[Zp hz];refine Ah ?_;refine⟨_,zJ,kp,dxk,_,zJ,bj,noR,kp,aD,r,zJ,KA1,zJ,_,zJ,?_⟩;rw[Zp (λz=>hnl ⟨hz,V.str.inj z⟩)];exact AV (hR _ _ ⟨zJ,zJ⟩)
  rintro σ H3 ⟨rfl,rfl⟩;refine⟨_,zJ,_,zJ,kp,dxk,_,zJ,bj,noR,kp,aD,r,zJ,KA1,zJ,_,zJ,?_⟩
  have fin:∀n:Nat,n=(if r=jo then plain i else plain i-AX aD i)->n<2^40->(r=jo \/ n-(n&&&kn aD)=0)->∀q dq,H3 q=none->H3 dq=none->dq≠q->spVInit C VC [.ref q,.ref kp,.int (n:Int)] (upd (upd H3 dq (.own q)) q (.ins VC dq [])) (λv H4=>v=.aO/\Q (.ref q) H4) E0:=λn en hn hk q dq hq hdq ay=>by
   have sN:=El (D:=VC) hq hdq ay;exact⟨q,dq,kp,aD,r,n,zJ,aA,KA1.same sN,hn,hk,λH4 s4 hV=>⟨zJ,k q H4 (s1.trans (E3 sN hq s4)) (en ▸ hV)⟩⟩
  by_cases bt:r=jo
  ·rw[Zm (by rw[bt])];refine Ah ⟨_,zJ,?_⟩;exact fin (plain i) (by simp_all) hb40 (.inl bt)
  ·rw[Zp (λz=>bt (V.str.inj z))];refine AV ⟨_,zJ,_,zJ,_,_,zJ,zJ,?_⟩;have hle:AX aD i<=plain i:=Nat.sub_le _ _;have es:((plain i):Int)-((AX aD i:Nat))=((plain i-AX aD i:Nat)):=by lia
   have ek:plain i-AX aD i=plain i&&&kn aD:=by
    unfold AX;have:=Nat.and_le_left (n:=plain i) (m:=kn aD)
    lia
   intro q dq hq hdq ay;have:=fin (plain i-AX aD i) (by simp_all) (by lia) (.inr (by grind)) q dq hq hdq ay
   rwa[←es]at this
end
section
def BP{x y x' y'}(h:H d=some (.lst [.int x,.int y])):aK d H (upd H d (.lst [.int x',.int y'])):=⟨λb o e a=>by rw[AD a];exact e,⟨x',y',aA⟩⟩
inductive spLMade(vs:hK)(H:Hp)(Q:VK)(_E:XK):Prop
 |mk (t e m) (aD) (r) (i) (aW:vs=[.ref t,.str r,.int i]) (aX:H t=some (.dK (Ss aD e m))) (bz:0<=i) (bQ:((AX aD i≠0/\r=j7 /\ ∀p,H p=none->Q (.ref p) (upd H p (.tup [.str iH,.str ja,.int (AX aD i)]))) \/    (¬ (AX aD i≠0/\r=j7)/\AX aD i≠0/\r=jZ /\ ∀p,H p=none->Q (.ref p) (upd H p (.tup [.str "left",.int i]))) \/    (¬ (AX aD i≠0/\r=j7)/\¬ (AX aD i≠0/\r=jZ)/\Q (.int ((if r=jo then plain i else plain i-AX aD i:Nat):Int)) H)))
def scLMade:AH [iL,je,iA,"_law_plain","_law_strange"] [iL,je,iA] (defScope JQ):=bA
def S5(F:aN ω lS lS JQ f fd):aE P w ω mg base aS 1 f fd [iL,je,iA] spLMade:=by
 refine F.m scLMade λvs H Q E h=>?_;obtain⟨t,e,m,a,r,i,rfl,ht,u,h⟩:=h;refine⟨zJ,λN A D s Y=>?_⟩;have J:=Bp Y
 refine⟨_,Aq (Ab (i:=3) scLMade.nd zJ (Or.inl zJ) (BU (AK Ln (pv 2) AF (AN _)) (pv 2) (AZ Bx (AZ Bx AF (pv 2)) AF)))
  (AC (Ab (i:=4) scLMade.nd rfl (Or.inl rfl) (AZ Bx (pv 3) (AZ CD (pv 3) (Av J (pv 0) AL (λ_ _=>rfl)))))
  (Aq (AY (PW.pt (CA (AK Hx (pv 4) AF (AN _)) (Bg (AK As (pv 1) AL (AN _))))) (AB (AI (Ai (AA AL (AA AL (AA (pv 4) AG)))))) AM)
  (AC (AY (AK E7 (pv 2) AF (AN _)) (AB Ag) AM)
  (Aq (AY (PW.pt (CA (AK Hx (pv 4) AF (AN _)) (Bg (AK As (pv 1) AL (AN _))))) (AB (AI (Ai (AA AL (AA (pv 2) AG))))) AM)
  (AB (AI (BU (AK As (pv 1) AL (AN _)) (pv 2) (AZ CD (pv 2) (Av J (pv 0) AL (λ_ _=>rfl)))))))))),?_⟩
 refine⟨λq U=>q=[some (.ref t),some (.str r),some (.int i),some (.int (plain i)),none]/\U=H,λR p=>?_,?_⟩
 ·refine⟨_,zJ,_,_,zJ,zJ,_,zJ,?_⟩;have e:=Hm i;rw[zM u]at e;rw[Zm (u)];refine Ah ⟨_,zJ,p _ _ ⟨?_,zJ⟩⟩;rw[e];rfl
 rintro q S ⟨rfl,rfl⟩;refine⟨_,zJ,_,zJ,_,zJ,t,_,zJ,.inl ⟨_,Sum.inr jf,.inl ht,zJ,(CP _ _ _).symm⟩,_,_,zJ,zJ,_,_,zJ,zJ,?_⟩
 have M:(λi j=>V.int (i-j)) ((plain i:Nat)) (Builtin.bitAnd ((plain i:Nat)) ((Aj (a.map (·.2)):Nat)))=V.int ((AX a i:Nat)):=by
  show V.int (((plain i:Nat))-Builtin.bitAnd ((plain i:Nat)) ((Aj (a.map (·.2)):Nat)))=_;have:=Nat.and_le_left (n:=plain i) (m:=kn a);unfold AX;congr 1;show(plain i:Int)-((plain i&&&kn a:Nat))=_
  lia
 have B:∀n:Nat,decide (0<(n:Int))=!decide (n=0):=λn=>by
  lia
 refine⟨λq G=>¬ (AX a i≠0/\r=j7)/\q=[some (.ref t),some (.str r),some (.int i),some (.int (plain i)),some (.int (AX a i))]/\G=S,λR p=>?_,?_⟩
 ·refine⟨_,congrArg (λz=>some (some z)) M,_,_,zJ,zJ,_,zJ,?_⟩;rw[B];by_cases o:AX a i=0
  ·rw[Zm o];refine AV (AV (p _ _ ⟨λz=>z.1 o,?_,zJ⟩))
   simp_all
  ·rw[Zp o];apply Ah;refine⟨_,zJ,zJ,_,zJ,?_⟩;by_cases l:r=j7
   ·rw[Zm (by rw[l])];apply Ah;rcases h with⟨_,_,k⟩|⟨I,_⟩|⟨I,_⟩
    ·exact⟨_,congrArg (λz=>some (some z)) M,gk,k⟩
    ·exact absurd ⟨o,l⟩ I
    ·exact absurd ⟨o,l⟩ I
   ·rw[Zp (λz=>l (V.str.inj z))];refine AV (p _ _ ⟨λz=>l z.2,?_,zJ⟩)
    simp_all
 rintro q G ⟨v,rfl,rfl⟩;refine⟨_,rfl,_,_,rfl,rfl,_,rfl,?_⟩;rcases h with⟨X,O,_⟩|⟨_,C,y,k⟩|⟨_,x,k⟩
 ·exact absurd ⟨X,O⟩ v
 ·rw[Zp (by lia)];apply AV;refine⟨λ_ _=>False,λR p=>?_,λ_ _ z=>z.elim⟩;refine⟨_,zJ,_,_,zJ,zJ,_,zJ,?_⟩;rw[B,Zp C];apply Ah;refine⟨_,zJ,zJ,_,zJ,?_⟩;rw[Zm (by rw[y])];exact Ah ⟨_,zJ,dh,k⟩
 ·rw[Zp (by lia)];apply AV;refine⟨λq L=>q=[some (.ref t),some (.str r),some (.int i),some (.int (plain i)),some (.int (AX a i))]/\L=G,λR p=>?_,?_⟩
  ·refine⟨_,zJ,_,_,zJ,zJ,_,zJ,?_⟩;rw[B];by_cases o:AX a i=0
   ·rw[Zm o];exact AV (AV (p _ _ ⟨zJ,zJ⟩))
   ·rw[Zp o];apply Ah;refine⟨_,zJ,zJ,_,zJ,?_⟩;rw[Zp (λz=>x ⟨o,V.str.inj z⟩)];exact AV (p _ _ ⟨zJ,zJ⟩)
  rintro q L ⟨rfl,rfl⟩;have ep:=Hm i;rw[zM u]at ep;refine⟨_,zJ,zJ,_,zJ,?_⟩;by_cases d:r=jo
  ·rw[Zm (by rw[d])];rw[zM d,ep]at k;exact Ah ⟨_,zJ,k⟩
  ·rw[Zp (λz=>d (V.str.inj z))];refine AV ⟨_,zJ,_,zJ,t,_,zJ,.inl ⟨_,Sum.inr jf,.inl ht,zJ,(CP _ _ _).symm⟩,_,_,zJ,zJ,?_⟩
   have T:(λi j=>V.int (Builtin.bitAnd i j)) i ((Aj (a.map (·.2)):Nat))=V.int ((plain i-AX a i:Nat)):=by
    show V.int (Builtin.bitAnd i ((Aj (a.map (·.2)):Nat)))=_;have Z:Builtin.bitAnd i ((Aj (a.map (·.2)):Nat))=Builtin.bitAnd ((plain i:Nat)) ((Aj (a.map (·.2)):Nat)):=by rw[ep]
    rw[Z];have:=Nat.and_le_left (n:=plain i) (m:=kn a);unfold AX;congr 1;show((plain i&&&kn a):Int)=_
    lia
   rwa[zN d,←T]at k
end
def AtV(v:V):Prop:=v=.aO\/∃n,v=.int n/\n.natAbs.log2<1920
def dH(ω:FG)(T:String)(H:Hp)(v:V):Prop:=(∃t,(∀H,cF ω H v t)/\W.kitOne ω t (.type T)=some false)\/(∃a xs,v=.ref a/\H a=some (.tup xs)/\W.kitOne ω (.type iF) (.type T)=some false) \/
 ∃a xs,v=.ref a/\H a=some (.lst xs)/\(∀x y,xs≠ [.int x,.int y])/\W.kitOne ω (.type iB) (.type T)=some false
def dH.ty(h:dH ω T H v):∃t,cF ω H v t/\W.kitOne ω t (.type T)=some false:=by
 rcases h with⟨t,h,k⟩|⟨a,d,rfl,h,k⟩|⟨a,d,rfl,h,_,k⟩
 ·grind
 ·exact⟨_,.tup h,k⟩
 ·exact⟨_,.lst h,k⟩
def dH.same{T}(s:aB H H')(h:dH ω T H v):dH ω T H' v:=by
 rcases h with h|⟨a,d,e,h,k⟩|⟨a,d,e,h,n,k⟩
 ·exact .inl h
 ·exact .inr (.inl ⟨a,d,e,s _ _ h,k⟩)
 ·exact .inr (.inr ⟨a,d,e,s _ _ h,n,k⟩)
section
def WV(h:W.kitOne ω (.type "NoneType") (.type T)=some false):dH ω T H .aO:=.inl ⟨_,λ_=>.aO,h⟩
def WW(h:W.kitOne ω (.type lM) (.type T)=some false):dH ω T H (.int i):=.inl ⟨_,λ_=>.int i,h⟩
inductive spTextInit(K:FG)(cM:hO)(vs:hK)(H:Hp)(Q:VK)(_E:XK):Prop
 |mk (e C) (v) (aW:vs=[.ref e,v]) (aX:AtV v) (bz:BB K C=true) (bQ:H e=some (E5 e C none)) (cw:MW K C cM "at") (cX:∀d,H d=none->d≠e->Q .aO (upd (upd H e (E5 e C (some d))) d (.xd [("at",v)])))
def Od:AH [hZ,"at"] [hZ,"at"] (defScope Dr):=bA
def NC(F:aN ω ip "BadText.__init__" Dr f fd)(a:WU P w ω mg base cM):aE P w ω mg base aS 2 f fd [hZ,"at"] (spTextInit ω cM):=by
 obtain⟨B,y,l,p,q,u⟩:=a.fn;refine F.m Od λx H Q E h=>?_;obtain⟨e,C,v,rfl,r,o,i,S,k⟩:=h;refine⟨zJ,λj A d s t=>?_⟩;refine⟨_,AC (Ae (JA zJ a.cls a.ga a.rd l p t q u .nil AT (AA (pv 0) (AA (PB (by trivial) (pv 1)) AG)))) (AB (O9 (M:=cM) (pv 0) (pv 1) zJ)),?_⟩;refine⟨_,zJ,_,zJ,r.elim (λz=>.inr (.inr z)) .inl,λz=>⟨e,C,none,z,zJ,o,i,?_⟩⟩;exact⟨_,zJ,_,zJ,e,C,zJ,i,S,k⟩
def UqA(H:Hp)(E:XK)(cR:hO)(v:V):Prop:=∀e d H',aB H H'->H e=none->H d=none->d≠e->H' e=some (GO e cR (some d))->H' d=some (.xd [("at",v)])->E (.ref cR) (some d) H'
structure Pc(P:Program)(w:World)(K:FG)(mg:SV)(base:Heap)(cM cR:hO):Prop where
 cls:mg lX=some (.ref cR)
 make:∃f fd,MkX K cR f/\aE P w K mg base aS 2 f fd [hZ,"at"] (spTextInit K cM)/\Binds K fd [hZ,"at"] []
 st:MW K cR cM "at"
def Q6(q:BB ω cR=true)(S:MW ω cR cM "at")(t:AtV v)(l:aB H H1)(h:UqA H E cR v)(ht:∀Q,Q v H1->te σ H1 Q):
  HG cR (HF cR (spTextInit ω cM) [] E0 (At te B8)) E D σ H1:=by
 apply ht _;refine⟨(by simp_all),λa o=>?_⟩;refine⟨a,cR,v,zJ,t,q,aA,S,λd r i=>⟨zJ,a,some d,zJ,?_,?_⟩⟩
 ·rw[AD (Ne.symm i),aA]
 ·have j:H1 d=none:=by rwa[AD i]at r
  refine h a d _ (λb u e=>?_) (none_of l o) (none_of l j) i aA ?_
  ·have p:=l _ _ e;have nb:=AJ p o
   rwa[AD nb,AD (AJ p j),AD nb,AD nb]
  ·rw[AD i,aA]
def Xl(ω:FG)(H:Hp)(v:V):Prop:=v=.bl true\/dH ω lM H v
def Gu(ω:FG):Sp:=λvs H Q _=>(∃i,vs=[.int i]/\Q (.bl true) H)\/∃v,vs=[v]/\Xl ω H v/\Q (.bl false) H
def Ho(F:aN ω jA jA Ge f fd)(B:Bl mg):aE P w ω mg base aS 1 f fd [ig] (Gu ω):=by
 refine F.ok Qk (λl H Q E h=>?_) (λe A a s H l Q E o h=>?_)
 ·rcases h with⟨i,rfl,_⟩|⟨v,rfl,_⟩<;>rfl
 ·refine⟨_,AB (AI (Ce (Bt ω rfl rfl B.c9 rfl B.int Hg (pv 0)) (Cs (RH (Bt ω rfl rfl B.c9 rfl B.bool UX (pv 0)))))),?_⟩;rcases h with⟨n,rfl,k⟩|⟨v,rfl,d,k⟩
  ·refine⟨_,zJ,_,_,_,true,zJ,.int n,zJ,_,zJ,?_⟩;exact⟨_,zJ,_,_,_,false,zJ,.int n,(by rfl),_,zJ,k⟩
  ·rcases d with rfl|d
   ·refine⟨_,zJ,_,_,_,true,zJ,.bl true,(by rfl),_,zJ,?_⟩;exact⟨_,zJ,_,_,_,true,zJ,.bl true,zJ,_,zJ,k⟩
   ·obtain⟨t,ht,j⟩:=d.ty;exact⟨_,zJ,_,_,_,false,zJ,ht,j,_,zJ,AV k⟩
noncomputable def okN(i:Int):Bool:=decide (0<=i)&&decide (i<1099511627776)
def Oe(ω:FG):Sp:=λvs H Q _=>(∃i,vs=[.int i]/\Q (.bl (okN i)) H)\/∃v,vs=[v]/\Xl ω H v/\Q (.bl false) H
def Pd(F:aN ω jC jC Ew f fd)(hL:mg "LIMIT"=some (.int 1099511627776 tL))(GW:Fn P w ω mg base jA 1 [ig] (Gu ω)):aE P w ω mg base aS 2 f fd [ig] (Oe ω):=by
 obtain⟨fW,dW,GW,mW,kW,bW⟩:=GW.ex;refine F.ok OZ (λvs H Q E h=>?_) (λae A outer s H vs Q E hr h=>?_)
 ·rcases h with⟨i,rfl,_⟩|⟨v,rfl,_⟩<;>rfl
 ·refine⟨_,AB (AI (Ce (AO GW hr rfl mW kW bW .nil AT (AA (pv 0) AG)) (Cs (EJ EI E7 AF (pv 0) (BJ (v:=.int 1099511627776) rfl hL ⟨tL,rfl⟩))))),?_⟩;rcases h with⟨i,rfl,k⟩|⟨v,rfl,hv,k⟩
  ·refine⟨_,zJ,.inl ⟨i,zJ,_,zJ,Ah ⟨_,zJ,_,_,zJ,zJ,_,zJ,?_⟩⟩⟩;unfold okN at k;by_cases h0:0<=i
   ·rw[Zm h0]at k ⊢;exact Ah ⟨_,_,zJ,zJ,k⟩
   ·rw[Zp h0]at k ⊢;exact AV k
  ·exact⟨_,zJ,.inr ⟨v,zJ,hv,_,zJ,AV k⟩⟩
def ND(F:aN ω jA jA Ge f fd)(B:Bl mg):aE P w ω mg base aS 1 f fd [ig] spIsWhole:=Sh (Ho F B) λa H Q E h=>by obtain⟨i,e,q⟩:=h;exact .inl ⟨i,e,q⟩
def LS(F:aN ω jC jC Ew f fd)(d:mg "LIMIT"=some (.int 1099511627776 i))(a:Fn P w ω mg base jA 1 [ig] (Gu ω)):aE P w ω mg base aS 2 f fd [ig] spIsNumber:=Sh (Pd F d a) λj H Q E h=>by
 obtain⟨n,e,l,q⟩:=h;refine .inl ⟨n,e,?_⟩;unfold okN
 rwa[Zm (show(0:Int)<=(n:Int) by lia),Zm (show(n:Int)<1099511627776 by lia)]
end
end Mk
end
section
namespace Mk
open PySem L2 MK PySem.NumText
noncomputable def Cn(c:Nat):Bool:=decide (48<=c)&&decide (c<=57)
noncomputable def C9(c:Nat):Bool:=decide (97<=c)&&decide (c<=122)
def Hq(lo a)(x y:Str)(j:x.cps.toList=[lo])(i:y.cps.toList=[a])(c):(if (!decide ((⟨#[c]⟩:Str).cps.toList<x.cps.toList))=true then (!decide (y.cps.toList<(⟨#[c]⟩:Str).cps.toList))else false)=(decide (lo<=c)&&decide (c<=a)):=by
 rw[j,i]
 have e:decide ([c]<[lo])=decide (c<lo):=by
  rw[Bool.eq_iff_iff,decide_eq_true_eq,cons_lt_cons_iff];simp
 have h:decide ([a]<[c])=decide (a<c):=by
  rw[Bool.eq_iff_iff,decide_eq_true_eq,cons_lt_cons_iff];simp
 rw[e,h];by_cases l:c<lo<;>by_cases d:a<c<;>simp[d]<;>lia
def LU(x:Str):Bool:=x.cps.toList.all Cn&&(decide (x="0")||(!decide (x.cps.toList.head?=some 48)&&decide (digitsVal x.cps.toList<1099511627776)))
def BE(x:Str):Bool:=match x.cps.toList with| [c]=>C9 c|_=>false
section
inductive spFig(vs:hK)(H:Hp)(Q:VK)(_E:XK):Prop
 |mk (x) (aW:vs=[.str x]) (aX:x.cps.all (· < 128)=true) (bz:0<x.length) (bQ:x.length<=200) (cw:∀H',aB H H'->Q (.bl (LU x)) H')
def Xm:AH [i6] [i6] (defScope Ff):=bA
def WX(F:aN ω lI lI Ff f fd)(B:Bl mg)(GN:Fn P w ω mg base jC 2 [ig] (Oe ω)):aE P w ω mg base aS 3 f fd [i6] spFig:=by
 obtain⟨fN,dN,GN,mN,kN,bN⟩:=GN.ex;refine F.m Xm λvs H Q E h=>?_;obtain⟨x,rfl,ha,h0,h60,k⟩:=h;refine⟨zJ,λae A outer s hr=>?_⟩
 refine⟨_,AC (AY (PW.pt (CW (AK As (AR A4 zJ B.len PySem.boot_len (AA (pv 0) AG)) AF (AN _)) (Bc (Aw (Ao (AR (DY zJ) zJ B.all He (AA (BW [] [] (by rfl) (by simp) (by rfl) zJ (Ir (pv 0)) (λ_ _ _ _ _ _=>BS) (λ_ _ _ _ _ _=>EJ Bu Bu AL (pv 0) AL)) AG))))))) (AB (AI DR)) AM)
  (AC (AY (AK As (An Kr (pv 0) AF (λ_ _=>rfl)) AL (AN _)) (AB (AI (Ck As (pv 0) AL (AN _)))) AM)
  (AB (AI (AO GN hr rfl mN kN bN .nil AT (AA (BG FC rfl B.int Hg (AA (pv 0) AG)) AG))))),?_⟩
 refine⟨_,zJ,x,zJ,Nat.le_of_lt (AS (by lia)),zJ,_,zJ,?_⟩;rw[Zp (λz=>by simp_all)];apply AV;have hlx:x.cps.toList.length=x.length:=by rw[Array.length_toList];rfl
 refine⟨_,zJ,x,zJ,ha,Gi (λi ys H2=>H2=H/\ys=(x.cps.toList.take i).map λc=>V.bl (Cn c)) ⟨zJ,zJ⟩ (λi ys H2 ⟨_,e⟩=>?_) ?_ ?_⟩
 ·grind
 ·rintro i c ys H2 hc ⟨rfl,rfl⟩;refine⟨_,zJ,_,_,zJ,zJ,_,zJ,?_⟩
  have fin:∀b,b=Cn c->(H2=H2/\(x.cps.toList.take i).map (λc=>V.bl (Cn c))++[V.bl b]=(x.cps.toList.take (i+1)).map λc=>V.bl (Cn c)):=λb hb=>by
   refine⟨zJ,?_⟩;have fm:x.cps.toList[i]?=some c:=by rwa[Array.getElem?_toList]
   rw[z0,fm,zR,hb];rfl
  have hu:=Hq 48 57 "0" "9" (by rfl) (by rfl) c;refine BH (λh3=>?_) (λh3=>?_)
  ·rw[zM h3]at hu;exact⟨_,_,zJ,zJ,fin _ hu⟩
  ·rw[zN h3]at hu;exact fin _ hu
 rintro ys H2 ⟨rfl,rfl⟩ p hp;refine⟨p,x.cps.toList.map Cn,zJ,aH.of (by rw[aA,take_of_length_le (by simp_all),map_map];rfl),_,zJ,?_⟩;rw[show(x.cps.toList.map Cn).all id=x.cps.toList.all Cn by simp_all];have kk:=k _ (AE (aB.refl _) hp (o:=HO.lst ((x.cps.toList.take x.cps.size).map λc=>V.bl (Cn c))));unfold LU at kk;by_cases bo:x.cps.toList.all Cn=true
 ·rw[bo]at kk ⊢;apply AV
  obtain⟨c,cs,ec⟩:∃c cs,x.cps.toList=c::cs:=by
   cases e:x.cps.toList with
   |nil=>simp_all
   |cons c cs=>simp_all
  refine⟨_,zJ,x,0,c,zJ,zJ,Nat.le_of_lt (AS (by lia)),(BR (by simp_all)),zJ,_,zJ,?_⟩;have e0:("0":Str).cps.toList=[48]:=by decide +kernel
  by_cases h48:c=48
  ·subst h48;rw[Zm (show x.cps.toList.head?=some 48 by simp_all),Bool.not_true,Bool.false_and,Bool.or_false]at kk;refine Ah ⟨_,zJ,zJ,?_⟩
   rwa[decide_eq_decide.mpr ⟨λz=>V.str.inj z,λz=>by rw[z]⟩]
  ·rw[Zp (λz=>h48 (by
    grind))]
   rw[Zp (λz=>h48 (by simp_all)),Zp (by simp_all),Bool.true_and]at kk;apply AV
   have hd:=λc hc=>by
    have:=all_eq_true.mp bo c hc;unfold Cn at this
    rwa[Bool.and_eq_true,decide_eq_true_eq,decide_eq_true_eq]at this
   refine⟨_,zJ,x,_,zJ,by lia,intText_digits hd (by simp_all) (by lia),.inl ⟨(digitsVal x.cps.toList),zJ,?_⟩⟩
   have eo:okN ((digitsVal x.cps.toList:Nat))=decide (digitsVal x.cps.toList<1099511627776):=by
    unfold okN;rw[Zm (by lia),Bool.true_and];exact decide_eq_decide.mpr (by lia)
   rwa[eo]
 ·have hno:x.cps.toList.all Cn=false:=by
   cases e:x.cps.toList.all Cn with
   |true=>trivial
   |false=>rfl
  rw[hno]at kk ⊢;exact Ah kk
inductive spLet(K:FG)(vs:hK)(H:Hp)(Q:VK)(_E:XK):Prop
 |txt (x) (aW:vs=[.str x]) (aX:x.length<=200) (bz:Q (.bl (BE x)) H)
 |aO (v) (aW:vs=[v]) (aX:dH K md H v) (bz:Q (.bl false) H)
def Xn:AH [ig] [ig] (defScope HR):=bA
def WY(F:aN ω jP jP HR f fd)(B:Bl mg):aE P w ω mg base aS 1 f fd [ig] (spLet ω):=by
 refine F.ok Xn (λvs H Q E h=>?_) (λae A outer s H vs Q E hr h=>?_)
 ·cases h with
  |txt x e _ _=>simp_all
  |aO v e _ _=>simp_all
 ·refine⟨_,AB (AI (Ce (Bt ω rfl rfl B.c9 rfl B.str Ft (pv 0)) (Ce (Ck As (AR A4 rfl B.len PySem.boot_len (AA (pv 0) AG)) AF (AN _)) (Cs (EJ Bu Bu AL (pv 0) AL))))),?_⟩;cases h with
  |aO v e hv k=>
   subst e;obtain⟨t,ht,hk⟩:=hv.ty;exact⟨_,zJ,_,_,_,false,zJ,ht,hk,_,zJ,AV k⟩
  |txt x e h60 k=>
   subst e;refine⟨_,zJ,_,_,_,true,zJ,.str x,zJ,_,zJ,Ah ?_⟩;refine⟨_,zJ,x,zJ,Nat.le_of_lt (AS (by lia)),zJ,_,zJ,?_⟩;have hlx:x.cps.toList.length=x.length:=by rw[Array.length_toList];rfl
   unfold BE at k;refine BH (λh1=>?_) (λh1=>?_)
   ·obtain⟨c,ec⟩:∃c,x.cps.toList=[c]:=by
     have e1:x.length=1:=by have:=V.int.inj (Zv h1);lia
     rw[e1]at hlx;exact List.length_eq_one_iff.mp hlx
    rw[ec]at k;refine⟨_,zJ,_,_,zJ,zJ,_,zJ,?_⟩;have hu:=Hq 97 122 "a" "z" (by rfl) (by rfl) c;have ex:(⟨#[c]⟩:Str).cps.toList=x.cps.toList:=by rw[ec]
    rw[ex]at hu;change _=C9 c at hu;change Q (V.bl (C9 c)) H at k;rw[←hu]at k;refine BH (λh3=>?_) (λh3=>?_)
    ·rw[zM h3]at k;exact⟨_,_,zJ,zJ,k⟩
    ·rwa[zN h3]at k
   ·have e2:(match x.cps.toList with| [c]=>C9 c|_=>false)=false:=by
     cases e:x.cps.toList with
     |nil=>rfl
     |cons a r=>
      grind
    rwa[e2]at k
end
def A1(x:Str):x.cps.toList.length=x.length:=by rfl
def Gv(z){a b:Nat}(d:a<=b)(i:b<=z.length):(Txt.slice z (some (a)) (some (b))).cps.toList=(z.cps.toList.drop a).take (b-a):=by
 unfold Txt.slice;split
 ·rename_i h;rw[StrLaws.strSliceIndices_plain d i,AQ]at h
  have e:b-a=z.length:=by
   simp at h;exact h
  have j:a=0:=by lia
  subst j;rw[List.drop_zero,take_of_length_le (by rw[A1];lia)]
 ·rw[StrLaws.sliced_plain z d i]
def Jq(lt:Bool)(x:Str):Bool:=B3 x||(LU x||(lt&&BE x))
section
inductive spPart(vs:hK)(H:Hp)(Q:VK)(_E:XK):Prop
 |mk (x) (lt) (aW:vs=[.str x,.bl lt]) (aX:x.cps.all (· < 128)=true) (bz:0<x.length) (bQ:x.length<=200) (cw:∀H',aB H H'->Q (.bl (Jq lt x)) H')
def WZ:AH [i6,iR] [i6,iR] (defScope LI):=bA
def Uw(F:aN ω "is_part" "is_part" LI f fd)(j:Fn P w ω mg base lq 1 [ig] spIsName)(i:Fn P w ω mg base lI 3 [i6] spFig)(l:Fn P w ω mg base jP 1 [ig] (spLet ω)):aE P w ω mg base aS 4 f fd [i6,iR] spPart:=by
 obtain⟨fN,S,j,mN,G,D⟩:=j.ex;obtain⟨N,O,i,L,C,B⟩:=i.ex;obtain⟨M,dL,l,y,I,z⟩:=l.ex;refine F.m WZ λR H Q E h=>?_;obtain⟨x,lt,rfl,q,J,a,k⟩:=h;refine⟨rfl,λv A o s t=>?_⟩;have d:aJ 1 _:=t.mono qc;refine⟨_,AB (AI (VD (AO j d rfl mN G D .nil AT (AA (pv 0) AG)) (VD (AO i t rfl L C B .nil AT (AA (pv 0) AG)) (Cs (Ce (pv 1) (Cs (AO l d rfl y I z .nil AT (AA (pv 0) AG)))))))),?_⟩;refine⟨_,rfl,x,rfl,q,by lia,λT e=>⟨_,rfl,?_⟩⟩;unfold Jq at k;cases u:B3 x with
 |true=>
  rw[u]at k;exact Ah (k _ e)
 |false=>
  rw[u]at k;refine AV ⟨_,rfl,x,rfl,q,J,a,λU p=>⟨_,rfl,?_⟩⟩;cases r:LU x with
  |true=>
   rw[r]at k;exact Ah (k _ (e.trans p))
  |false=>
   rw[r]at k;refine AV ⟨_,rfl,_,rfl,?_⟩;cases lt with
   |true=>exact Ah ⟨_,rfl,.txt x rfl a (k _ (e.trans p))⟩
   |false=>exact AV (k _ (e.trans p))
structure Q7(lt:Bool)(z:Str)(a n:Nat):Prop where
 le:a+n<=z.length
 ok:∀k,0<k->k<=n->Jq lt (Txt.slice z (some (a)) (some ((a+k:Nat):Int)))=true
 no:a+n<z.length->Jq lt (Txt.slice z (some (a)) (some ((a+n+1:Nat):Int)))=false
def Q8{z:Str}{a b}(d:a<=b)(e:b<=z.length)(h:z.cps.all (· < 128)=true):(Txt.slice z (some (a:Int)) (some (b:Int))).cps.all (· < 128)=true:=by
 rw[←Array.all_toList]at h ⊢;rw[Gv z d e]
 grind
def Q9{z}{a b:Nat}(d:a<=b)(e:b<=z.length):(Txt.slice z (some (a)) (some (b))).length=b-a:=by
 rw[←A1,Gv z d e,zX,List.length_drop,A1]
 lia
inductive spPE(vs:hK)(H:Hp)(Q:VK)(_E:XK):Prop
 |mk (z) (a n:Nat) (lt) (aW:vs=[.str z,.int (a),.bl lt]) (aX:z.cps.all (· < 128)=true) (bz:z.length<=200) (bQ:Q7 lt z a n) (cw:∀H',aB H H'->Q (.int ((a+n:Nat):Int)) H')
def scPE:AH [i6,"at",iR,"end"] [i6,"at",iR] (defScope JL):=bA
def Ux(F:aN ω "part_end" "part_end" JL f fd)(B:Bl mg)(j:Fn P w ω mg base "is_part" 4 [i6,iR] spPart):aE P w ω mg base aS 5 f fd [i6,"at",iR] spPE:=by
 obtain⟨S,X,j,r,u,I⟩:=j.ex;refine F.m scPE λR H Q E h=>?_;obtain⟨z,a,n,lt,rfl,v,L,PA,q⟩:=h;refine⟨zJ,λt A l s J=>?_⟩
 refine⟨_,AC (Ab (i:=3) scPE.nd zJ (Or.inl zJ) (pv 1))
  (AC (Fx PassesOwn.never (PW.pt (CA (AK E7 (pv 3) (AR A4 rfl B.len PySem.boot_len (AA (pv 0) AG)) (AN _)) (Bg (Ao (AO j J rfl r u I .nil AT (AA (Ls SF (pv 0) (IN (pv 1)) (IN (AZ CC (pv 3) AF))) (AA (pv 2) AG))))))) (AB (Na (i:=3) scPE.nd rfl (Or.inl rfl) AF Oo)))
  (AB (AI (pv 3)))),?_⟩
 refine⟨_,zJ,λm d p=>∃k,d=[some (.str z),some (.int a),some (.bl lt),some (.int ((a+k:Nat)))]/\aB H p/\k<=n/\m=n-k,⟨n,0,zJ,aB.refl _,Nat.zero_le _,zJ⟩,?_⟩;rintro m d p ⟨k,rfl,o,T,rfl⟩;have M:=PA.le;refine⟨_,zJ,_,zJ,z,zJ,Nat.le_of_lt (AS (by lia)),_,_,zJ,zJ,_,zJ,?_⟩;by_cases x:a+k<z.length
 ·rw[Zm (by lia)];apply Ah;refine⟨_,zJ,_,zJ,a,zJ,_,zJ,_,_,zJ,zJ,((a+k+1:Nat)),congrArg V.int (by lia),z,zJ,Nat.le_of_lt (AS (by lia)),_,zJ,?_⟩;have U:=Q9 (z:=z) (a:=a) (b:=a+k+1) (by lia) (by lia);refine⟨_,lt,zJ,Q8 (a:=a) (b:=a+k+1) (by lia) (by lia) v,by lia,by lia,λO s3=>⟨_,zJ,?_⟩⟩;by_cases D:k<n
  ·have ok:=PA.ok (k+1) (by lia) (by lia);rw[show a+(k+1)=a+k+1 by lia]at ok;rw[ok];refine Ah ⟨λd C=>d=[some (.str z),some (.int a),some (.bl lt),some (.int ((a+(k+1):Nat)))]/\aB H C,λy N y=>by obtain⟨e,G⟩:=y;exact ⟨n-(k+1),by lia,k+1,e,G,by lia,zJ⟩,?_⟩;refine⟨_,zJ,_,_,zJ,zJ,?_,o.trans s3⟩;rfl
  ·have e:k=n:=by lia
   subst e;rw[PA.no x];exact AV ⟨_,zJ,q _ (o.trans s3)⟩
 ·rw[Zp (by lia)];have e:k=n:=by lia
  subst e;exact AV (AV ⟨_,zJ,q _ o⟩)
end
structure Jr(K:FG)(DC:hO):Prop where
 cl:eJ K DC
 nS:b8 K DC jm
 nW:b8 K DC ki
 nP:b8 K DC jS
def gz(ls lw:hO)(wp:Bool):List (Str×V):=BD jS (.bl wp) (BD ki (.ref lw) (BD jm (.ref ls) []))
def S6(ls a)(wp):(gz ls a wp).lookup (jm:Str)=some (.ref ls):=by
 rfl
def FF(ls a)(wp):(gz ls a wp).lookup (ki:Str)=some (.ref a):=by
 rfl
def JY(ls a)(wp):(gz ls a wp).lookup (jS:Str)=some (.bl wp):=by
 rfl
def C8(ls d)(wp){m:Str}(a:¬ m=jm:=by decide +kernel)(h:¬ m=ki:=by decide +kernel)(e:¬ m=jS:=by decide +kernel):(gz ls d wp).lookup m=none:=by
 unfold gz;rw[Ay,zN e,Ay,zN h,Ay,zN a];rfl
structure bH(DC:hO)(H:Hp)(p ls lw:hO)(ss ws:hA)(wp:Bool):Prop where
 ex:∃dx,H p=some (.ins DC dx (gz ls lw wp))
 hs:H ls=some (.lst (ss.map V.str))
 hw:H lw=some (.lst (ws.map V.str))
 ne:ls≠lw
def eT(p ls lw:hO)(H H':Hp):Prop:=∀b o,H b=some o->b≠p->b≠ls->b≠lw->H' b=some o
def eT.refl(p ls a)(H):eT p ls a H H:=λ_ _ e _ _ _=>e
def bH.np(h:bH DC H p ls lw ss ws wp):ls≠p/\lw≠p:=by
 obtain⟨i,e⟩:=h.ex;have a:=h.hs;have d:=h.hw;exact⟨λz=>(by simp_all),λz=>(by simp_all)⟩
def bH.steps(a)(h:bH DC H p ls lw ss ws wp):bH DC (upd H ls (.lst (a.map V.str))) p ls lw a ws wp:=by
 obtain⟨d,e⟩:=h.ex;exact⟨⟨d,by rw[AD (Ne.symm h.np.1)];exact e⟩,aA,by rw[AD (Ne.symm h.ne)];exact h.hw,h.ne⟩
def bH.waits(a)(h:bH DC H p ls lw ss ws wp):bH DC (upd H lw (.lst (a.map V.str))) p ls lw ss a wp:=by
 obtain⟨d,e⟩:=h.ex;exact⟨⟨d,by rw[AD (Ne.symm h.np.2)];exact e⟩,by rw[AD h.ne];exact h.hs,aA,h.ne⟩
def bH.wants(b)(h:bH DC H p ls lw ss ws wp):bH DC (upd H p (.ins DC dx (gz ls lw b))) p ls lw ss ws b:=
 ⟨⟨dx,aA⟩,by rw[AD h.np.1];exact h.hs,by rw[AD h.np.2];exact h.hw,h.ne⟩
def Pe(ls a)(wp):(gz ls a wp).length<1000:=by
 have d:=Az jS (.bl wp) (BD ki (.ref a) (BD jm (.ref ls) []));have e:=Az ki (.ref a) (BD jm (.ref ls) []);have h:=Az jm (.ref ls) [];have i:([]:List (Str×V)).length=0:=rfl;unfold gz
 lia
section
inductive spTP(DC:hO)(vs:hK)(H:Hp)(Q:VK)(_E:XK):Prop
 |mk (p ls lw) (ss ws) (wp) (x) (aW:vs=[.ref p,.str x]) (aX:bH DC H p ls lw ss ws wp) (bz:ss.length<=400) (bQ:∀H',eT p ls lw H H'->bH DC H' p ls lw (ss++[x]) ws false->Q .aO H')
def ZB:AH [hZ,lT] [hZ,lT] (defScope CL):=bA
def Xo(F:aN ω "take_part" "Reading.take_part" CL f fd)(a:Jr ω DC):aE P w ω mg base aS 1 f fd [hZ,lT] (spTP DC):=by
 refine F.m ZB λG H Q E h=>?_;obtain⟨p,v,D,y,B,wp,x,rfl,R,j,q⟩:=h;refine⟨zJ,λr A d s I=>?_⟩;obtain⟨l,t⟩:=id R.ex;refine⟨_,AC (Ae (Bn plainAttrs_list PySem.F.slot_list_append PySem.F.type_list_append Au (Af (pv 0) zJ) (AA (pv 1) AG))) (AB (CG (pv 0) DR zJ)),?_⟩;refine⟨_,zJ,p,DC,l,_,_,zJ,t,a.cl,a.nS,S6 _ _ _,.inl ⟨zJ,_,aH.of R.hs⟩,_,zJ,v,_,_,zJ,zJ,R.hs,AS (by grind),?_⟩;have i:=R.steps (y++[x]);rw[zR]at i;refine⟨_,zJ,p,DC,l,_,zJ,by rwa[AD (Ne.symm R.np.1)],a.cl,a.nP,Pe _ _ _,?_⟩;exact q _ (λb o e z u C=>by rwa[AD z,AD u]) (i.wants false)
inductive spRd0(DC:hO)(vs:hK)(H:Hp)(Q:VK)(_E:XK):Prop
 |mk (p dx) (aW:vs=[.ref p]) (aX:H p=some (.ins DC dx [])) (bz:∀ls lw H',(∀b o,H b=some o->b≠p->H' b=some o)->H ls=none->H lw=none->bH DC H' p ls lw [] [] true->Q .aO H')
def Xp:AH [hZ] [hZ] (defScope Du):=bA
def Wc(F:aN ω ip "Reading.__init__" Du f fd)(u:Jr ω DC):aE P w ω mg base aS 1 f fd [hZ] (spRd0 DC):=by
 refine F.m Xp λI H Q E h=>?_;obtain⟨p,x,rfl,D,q⟩:=h;refine⟨zJ,λG A B s J=>?_⟩;refine⟨_,AC (CG (pv 0) (A5 AG) zJ) (AC (CG (pv 0) (A5 AG) zJ) (AB (CG (pv 0) DR zJ))),?_⟩;refine⟨(by simp_all),λy l=>?_⟩;have i:=AJ D l;refine⟨_,zJ,p,DC,x,_,zJ,by rw[AD i];exact D,u.cl,u.nS,(by simp),?_⟩;refine⟨(by simp_all),λv r=>?_⟩;have d:p≠v:=λz=>by rw[←z,aA]at r;cases r
 have a:(upd H y (.lst [])) v=none:=by rwa[AD (Ne.symm d)]at r
 have t:y≠v:=λz=>by rw[←z,aA]at a;cases a
 have j:H v=none:=by rwa[AD (Ne.symm t)]at a
 refine⟨_,zJ,p,DC,x,_,zJ,by rw[AD d,aA],u.cl,u.nW,Nat.lt_of_le_of_lt (Az _ _ _) (by simp_all),?_⟩;refine⟨_,zJ,p,DC,x,_,zJ,aA,u.cl,u.nP,Nat.lt_of_le_of_lt (Nat.le_trans (Az _ _ _) (Nat.succ_le_succ (Az _ _ _))) (by simp_all),?_⟩;refine q y v _ (λb o e C=>?_) l j ⟨⟨x,aA⟩,?_,?_,t⟩
 ·rwa[AD C,AD C,AD (AJ e j),AD C,AD (AJ e l)]
 ·rw[AD (Ne.symm i),AD (Ne.symm i),AD t,AD (Ne.symm i),aA];rfl
 ·rw[AD (Ne.symm d),AD (Ne.symm d),aA];rfl
end
noncomputable abbrev sl(z:Str)(a b:Nat):Str:=Txt.slice z (some (a:Int)) (some (b:Int))
inductive Sg|br|or|xo|an|no
deriving DecidableEq
noncomputable def Sg.s:Sg->Str|.br=>"(" |.or=>"|" |.xo=>"^" |.an=>"&" |.no=>"~"
noncomputable def Sg.b:Sg->Nat|.br=>0|.or=>1|.xo=>2|.an=>3|.no=>4
noncomputable def Sg.c:Sg->Nat|.br=>40|.or=>124|.xo=>94|.an=>38|.no=>126
def Sg.cH:Sg->Prop|.or=>True|.xo=>True|.an=>True|_=>False
noncomputable abbrev ck(W:List Sg):hA:=W.map Sg.s
noncomputable def NE(W:List Sg):Nat:=match W.getLast? with|some s=>s.b|none=>0
inductive Out
 |ok (T:hA)
 |bad (e:Nat)
inductive Rn(lt:Bool)(z:Str)(o:Out):Nat->hA->List Sg->Bool->Prop
 |done (S) (Q) (h:∀q∈Q,1<=q.b) (e:o=.ok (S++(ck Q).reverse)):Rn lt z o z.length S Q false
 |blank (a) (S) (W) (wp) (h:z.cps.toList[a]?=some 32) (r:Rn lt z o (a+1) S W wp):Rn lt z o a S W wp
 |part (a n) (S) (W) (h:Q7 lt z a n) (hn:0<n) (r:Rn lt z o (a+n) (S++[sl z a (a+n)]) W false):Rn lt z o a S W true
 |ahead (a) (S) (W) (g) (hg:g=.no\/g=.br) (h:z.cps.toList[a]?=some g.c) (r:Rn lt z o (a+1) S (W++[g]) true):Rn lt z o a S W true
 |join (a) (S) (W Q) (g) (hg:g.cH) (h:z.cps.toList[a]?=some g.c) (hq:∀q∈Q,g.b<=q.b) (hw:NE W<g.b) (r:Rn lt z o (a+1) (S++(ck Q).reverse) (W++[g]) true):Rn lt z o a S (W++Q) false
 |close (a) (S) (W Q) (h:z.cps.toList[a]?=some 41) (hq:∀q∈Q,1<=q.b) (r:Rn lt z o (a+1) (S++(ck Q).reverse) W false):Rn lt z o a S ((W++[.br])++Q) false
 |ends (S) (W) (wp) (hw:wp=true\/∃W1 W2,W=(W1++[.br])++W2/\∀q∈W2,1<=q.b) (e:o=.bad z.length):Rn lt z o z.length S W wp
inductive Tr
 |wd (x:Str)
 |ng (t:Tr)
 |bn (g:Sg) (a b:Tr)
noncomputable def Tr.post:Tr->hA
 |.wd x=>[x]
 |.ng t=>t.post++[("~":Str)]
 |.bn g a b=>a.post++b.post++[g.s]
abbrev Bk(u:List Nat):Prop:=u=[]\/u=[32]
structure gZ(lt:Bool)(w:List Nat):Prop where
 ne:0<w.length
 ok:∀k,0<k->k<=w.length->∀x,x.cps.toList=w.take k->Jq lt x=true
inductive Wr(lt:Bool):Tr->Nat->List Nat->Prop
 |wd (x) (r) (bl) (hb:Bk bl) (h:gZ lt x.cps.toList):Wr lt (.wd x) r (bl++x.cps.toList)
 |ng (t) (r) (u) (hr:r<=3) (h:Wr lt t 3 u):Wr lt (.ng t) r (126::u)
 |bn (g) (a b) (r) (u v bl) (hg:g.cH) (hr:r+1<=g.b) (hb:Bk bl) (ha:Wr lt a (g.b-1) u) (hv:Wr lt b g.b v):Wr lt (.bn g a b) r (u++(bl++(g.c::v)))
 |br (t) (r) (u bl) (hb:Bk bl) (h:Wr lt t 0 u):Wr lt t r (bl++(40::(u++[41])))
def Sep(u:List Nat):Prop:=∀c,u.head?=some c->DL c=false/\Cn c=false
def S7(d:DL c=false/\Cn c=false)(h:x.cps.toList=w++[c])(hw:w≠ []\/C9 c=false):Jq lt x=false:=by
 have e:B3 x=false:=by
  unfold B3
  have:x.cps.toList.all DL=false:=by
   rw[h];simp[d.1]
  rw[this,Bool.and_false]
 have i:LU x=false:=by
  unfold LU
  have:x.cps.toList.all Cn=false:=by
   rw[h];simp[d.2]
  rw[this,Bool.false_and]
 have j:BE x=false:=by
  unfold BE;rw[h];cases w with
  |nil=>simp_all
  |cons a r=>simp
 unfold Jq;rw[e,i,j];cases lt<;>rfl
def LV{x y:Str}(h:x.cps.toList=y.cps.toList):x=y:=by
 cases x with
 |mk a=>simp_all
def Xq(hz:z.cps.toList=pre++(w++post))(hw:gZ lt w)(e:Sep post):Q7 lt z pre.length w.length/\sl z pre.length (pre.length+w.length)=⟨w.toArray⟩:=by
 have a:z.length=pre.length+(w.length+post.length):=by rw[←A1,hz,z7,z7]
 have j:∀k,k<=w.length+post.length->(sl z pre.length (pre.length+k)).cps.toList=(w++post).take k:=λk d=>by
  rw[Gv z (by lia) (by lia),hz,List.drop_left,Nat.add_sub_cancel_left]
 refine⟨⟨by lia,λk h d=>?_,λi=>?_⟩,?_⟩
 ·apply hw.ok k h d _
  grind
 ·cases post with
  |nil=>simp_all
  |cons c r=>
   refine S7 (w:=w) (e c zJ) ?_ (.inl λz=>by have:=hw.ne;rw[z]at this;exact absurd this qc);have:=j (w.length+1) (by simp);rw[show pre.length+w.length+1=pre.length+(w.length+1) by lia,this,List.take_append];simp;exact take_of_length_le (by lia)
 ·apply LV
  simp_all
def JZ{z:Str}{pre}(hz:z.cps.toList=pre++c::post):z.cps.toList[pre.length]?=some c:=by
 simp_all
def Dc(W)(g):NE (W++[g])=g.b:=by
 unfold NE
 simp_all
def S8(a:Bk bl)(hz:z.cps.toList=pre++(bl++post))(r:Rn lt z o (pre++bl).length S W wp):Rn lt z o pre.length S W wp:=by
 rcases a with rfl|rfl
 ·rwa[zQ]at r
 ·exact .blank _ _ _ _ (JZ hz) (by simpa using r)
def Sep.of{c}{r}(h:DL c=false/\Cn c=false):Sep (c::r):=λd a=>by simp_all
def Sep.bk{a u}(d:Bk a)(h:Sep u):Sep (a++u):=by
 rcases d with rfl|rfl
 ·exact h
 ·exact Sep.of ⟨zJ,zJ⟩
def Sep.sg{g:Sg}:Sep (g.c::r):=Sep.of (by cases g<;>exact⟨rfl,rfl⟩)
def We(hW:Wr lt t r u):∀{pre eW}{S}{W},z.cps.toList=pre++(u++eW)->Sep eW->(r<3->NE W<=r) ->
  (∀S' Q,(∀q∈Q,r+1<=q.b)->S'++(ck Q).reverse=S++t.post->Rn lt z o (pre++u).length S' (W++Q) false)->Rn lt z o pre.length S W true:=by
 induction hW with
 |wd x r bl hb h=>
  intro pre eW S W hz hs hw k;rw[append_assoc]at hz;apply S8 hb hz;obtain⟨p1,p2⟩:=Xq (z:=z) (pre:=pre++bl) (by simp_all) h hs;refine .part _ _ _ _ p1 h.ne ?_;rw[p2];have:=k (S++[x]) [] (λq hq=>nomatch hq) (by show S++[x]++[]=S++[x];simp);rw[zQ]at this
  rwa[←append_assoc,z7]at this
 |ng t r u hr h ih=>
  intro pre eW S W hz hs hw k;refine .ahead _ _ _ .no (.inl zJ) (JZ (by trivial)) ?_;have:=ih (pre:=pre++[126]) (S:=S) (W:=W++[.no]) (by simp_all) hs (λh=>absurd h qc) (λS' Q hq e=>?_)
  ·simpa using this
  ·have:=k S' (.no::Q) (λq hq'=>by
    rcases mem_cons.mp hq' with rfl|h
    ·show r+1<=4;lia
    grind) (by
    show S'++(Sg.no.s::ck Q).reverse=S++(t.post++[("~":Str)]);rw[List.reverse_cons,←append_assoc,e,append_assoc]
    rfl)
   simpa using this
 |bn g a b r u v bl hg hr hb ha hv iha ihb=>
  intro pre eW S W hz hs hw k;have hg1:1<=g.b:=by cases g<;>first|lia|decide
  have hg3:g.b<=3:=by cases g<;>first|trivial|decide
  refine iha (eW:=bl++(g.c::(v++eW))) (by simp_all) (Sep.bk hb Sep.sg) (λ_=>by lia) λS1 Q1 h1 e1=>?_;apply S8 (pre:=pre++u) (post:=g.c::(v++eW)) hb (by simp_all);refine .join _ _ _ _ g hg (JZ (post:=v++eW) (by simp_all)) (λq hq=>by simp_all) (by lia) ?_;rw[e1];have:=ihb (pre:=pre++u++bl++[g.c]) (S:=S++a.post) (W:=W++[g]) (by simp_all) hs (λ_=>by rw[Dc];simp) λS2 Q2 h2 e2=>?_
  ·have el:(pre++u++bl++[g.c]).length=(pre++u++bl).length+1:=by simp;lia
   rwa[el]at this
  ·have:=k S2 (g::Q2) (λq hq'=>by
    grind) (by
    show S2++(g.s::ck Q2).reverse=S++(a.post++b.post++[g.s])
    grind)
   rw[show W++[g]++Q2=W++(g::Q2) by simp];have el:(pre++u++bl++[g.c]++v).length=(pre++(u++(bl++g.c::v))).length:=by simp
   rwa[el]
 |br t r u bl hb h ih=>
  intro pre eW S W hz hs hw k;rw[append_assoc]at hz;apply S8 hb hz;refine .ahead _ _ _ .br (.inr zJ) (JZ (post:=u++41::eW) (by rw[hz];simp[Sg.c])) ?_;have:=ih (pre:=pre++bl++[40]) (eW:=41::eW) (S:=S) (W:=W++[.br]) (by simp_all) (Sep.of ⟨rfl,rfl⟩) (λ_=>by rw[Dc];trivial) (λS' Q hq e=>?_)
  ·have el:(pre++bl++[40]).length=(pre++bl).length+1:=by simp;lia
   rwa[el]at this
  ·refine .close _ _ _ _ (JZ (post:=eW) (by simp_all)) (λq h=>by simp_all) ?_;rw[e];have:=k (S++t.post) [] (λq hq=>nomatch hq) (by simp_all);rw[zQ]at this;have el:(pre++(bl++40::(u++[41]))).length=(pre++bl++[40]++u).length+1:=by simp;lia
   rwa[el]at this
def S9(h:Wr lt t 0 z.cps.toList):Rn lt z (.ok t.post) 0 [] [] true:=by
 refine We h (pre:=[]) (eW:=[]) (by simp) (λc hc=>nomatch hc) (λ_=>qc) λS' Q hq e=>?_;have el:([]++z.cps.toList).length=z.length:=by rw[nil_append,A1]
 rw[el,nil_append];exact .done _ _ (λq h=>hq q h) (by rw[e];rfl)
noncomputable def Cj:LK:=[((Sum.inr "(":Key),.int 0),(Sum.inr "|",.int 1),(Sum.inr "^",.int 2),(Sum.inr "&",.int 3),(Sum.inr "~",.int 4)]
def Pf(g:Sg):Am Cj (Sum.inr g.s:Key)=some (.int (g.b:Int)):=by cases g<;>decide +kernel
def Xr(R:bH DC H p ls lw ss ws wp)(s:eT p ls lw H H')(h:Rd H bd (.dK kvs)):Rd H' bd (.dK kvs):=by
 obtain⟨r,q⟩:=R.ex
 have d:∀{o:HO},H bd=some o->(∀i,o≠ .lst i)->(∀a b c,o≠ .ins a b c)->bd≠p/\bd≠ls/\bd≠lw:=λ{o}e j l=>by
  refine⟨λz=>?_,λz=>?_,λz=>?_⟩
  ·grind
  ·rw[z,R.hs]at e
   grind
  ·rw[z,R.hw]at e
   grind
 rcases h with h|⟨o,h⟩
 ·obtain⟨a,b,c⟩:=d h (λ_ z=>nomatch z) (λ_ _ _ z=>nomatch z);exact .inl (s _ _ h a b c)
 ·obtain⟨a,b,c⟩:=d h (λ_ z=>nomatch z) (λ_ _ _ z=>nomatch z);exact .inr ⟨o,s _ _ h a b c⟩
def NG(L)(g):eM ((ck (L++[g])).map V.str) (-1)=some (V.str g.s)/\((ck (L++[g])).map V.str)[((ck (L++[g])).map V.str).length-1]?=some (V.str g.s)/\((ck (L++[g])).map V.str).dropLast=(ck L).map V.str:=by
 have e:(ck (L++[g])).map V.str=(ck L).map V.str++[V.str g.s]:=by simp
 refine⟨?_,?_,?_⟩
 ·unfold eM
  have e2:fc ((ck L).map V.str++[V.str g.s]).length (-1)=some ((ck L).map V.str).length:=by
   unfold fc;simp
   lia
  simp_all
 ·simp_all
 simp_all
section
inductive spSet(DC bd:hO)(vs:hK)(H:Hp)(Q:VK)(_E:XK):Prop
 |mk (p ls lw) (ss) (W G) (b:Nat) (wp) (aW:vs=[.ref p,.int (b)]) (aX:bH DC H p ls lw ss (ck (W++G)) wp) (bz:ss.length+(W.length+G.length)<=400) (bQ:Rd H bd (.dK Cj))
  (cw:∀q∈G,b<=q.b) (cX:W=[]\/NE W<b) (eN:∀H',eT p ls lw H H'->bH DC H' p ls lw (ss++(ck G).reverse) (ck W) wp->Q .aO H')
def Xs:AH [hZ,lx] [hZ,lx] (defScope C2):=bA
def Wf(F:aN ω "settle" "Reading.settle" C2 f fd)(B:Bl mg)(DT:Jr ω DC)(mB:mg "BINDING"=some (.ref bd)):aE P w ω mg base aS 1 f fd [hZ,lx] (spSet DC bd):=by
 refine F.m Xs λvs H Q E h=>?_;obtain⟨p,ls,lw,ss,W,G,b,wp,rfl,R,h400,hB,hG,hW,q⟩:=h;refine⟨zJ,λae A outer s hr=>?_⟩;have hu:=Bp hr
 refine⟨_,AB (Fx PassesOwn.never (PW.pt (CA (AK Hx (AR (A3 ω zJ) zJ B.len PySem.boot_len (AA (Af (pv 0) zJ) AG)) AF (AN _)) (Bg (AK Ln (Av hu (BJ (v:=.ref bd) zJ mB zJ) (An (Ak ω zJ) (Af (pv 0) zJ) (Cu Cw AF) (λ_ _=>rfl)) (λ_ _=>rfl)) (pv 1) (AN _)))))
  (AB (Ae (Bn plainAttrs_list PySem.F.slot_list_append PySem.F.type_list_append Au (Af (pv 0) rfl) (AA (EO plainAttrs_list slot_list_pop type_list_pop FK (Af (pv 0) rfl)) AG))))),?_⟩
 refine⟨λm σ H2=>σ=[some (.ref p),some (.int (b:Int))]/\∃G1 G2,G=G1++G2/\G1.length=m/\eT p ls lw H H2/\bH DC H2 p ls lw (ss++(ck G2).reverse) (ck (W++G1)) wp,⟨G.length,zJ,G,[],(zQ _).symm,zJ,eT.refl _ _ _ _,by simpa using R⟩,?_⟩;rintro m σ H2 ⟨rfl,G1,G2,eG,em,s2,R2⟩;obtain⟨dx,hp⟩:=id R2.ex;refine⟨_,zJ,p,DC,dx,_,_,zJ,hp,DT.cl,DT.nW,FF _ _ _,lw,_,zJ,.inl (aH.of R2.hw),_,_,zJ,zJ,_,zJ,?_⟩;have bg:((ck (W++G1)).map V.str).length=(W++G1).length:=by simp[ck]
 rw[bg];rcases List.eq_nil_or_concat (W++G1)with e|⟨L,g,e⟩
 ·have e1:=List.append_eq_nil_iff.mp e;rw[e,Zp (show ¬ (([]:List Sg).length:Int)>0 by simp)];refine AV (AV (q _ s2 ?_));rw[e1.2]at eG R2;rw[eG];simpa[e1.1]using R2
 ·rw[List.concat_eq_append]at e;rw[Zm (show((W++G1).length:Int)>0 by rw[e,z7,length_singleton];lia)];refine Ah ?_;have hsl:=NG L g;rw[←e]at hsl;obtain⟨hat,bv,bw⟩:=hsl;refine⟨_,rfl,p,DC,dx,_,_,rfl,hp,DT.cl,DT.nW,FF _ _ _,_,rfl,lw,_,-1,.str g.s,rfl,rfl,aH.of R2.hw,hat,bd,.int (g.b:Int),rfl,.inl ⟨_,Sum.inr g.s,Xr R s2 hB,rfl,(Pf g).symm⟩,_,rfl,_,_,rfl,rfl,_,rfl,?_⟩;rcases List.eq_nil_or_concat G1 with e1|⟨G0,g',e1⟩
  ·-- all are settled
   subst e1;rw[zQ]at e
   have hb:¬ ((g.b:Int) ≥ (b:Int)):=by
    rcases hW with z|z
    ·rw[z]at e;have:=congrArg List.length e;simp at this
    ·rw[e,Dc]at z
     lia
   rw[Zp hb];refine AV (q _ s2 ?_);rw[eG];simpa using R2
  ·rw[List.concat_eq_append]at e1;subst e1;have e3:W++(G0++[g'])=L++[g]:=e;rw[←append_assoc]at e3;obtain⟨eL,eg⟩:=append_inj' e3 rfl;have eg':g'=g:=by simpa using eg
   subst eg'
   have hb:(g'.b:Int) ≥ (b:Int):=by
    have:=hG g' (by rw[eG];simp)
    lia
   rw[Zm hb];refine Ah ⟨λσ H3=>σ=[some (.ref p),some (.int (b:Int))]/\eT p ls lw H H3/\bH DC H3 p ls lw (ss++(ck ([g']++G2)).reverse) (ck (W++G0)) wp,λcK H' y=>by obtain⟨e,s',R'⟩:=y;exact ⟨G0.length,by rw[←em,z7];exact Nat.lt_succ_self _,e,G0,[g']++G2,by rw[eG,append_assoc],zJ,s',R'⟩,?_⟩;refine⟨_,zJ,p,DC,dx,_,_,zJ,hp,DT.cl,DT.nS,S6 _ _ _,.inl ⟨zJ,_,aH.of R2.hs⟩,_,zJ,p,DC,dx,_,_,zJ,hp,DT.cl,DT.nW,FF _ _ _,.inl ⟨zJ,_,aH.of R2.hw⟩,lw,_,.str g'.s,zJ,zJ,R2.hw,bv,?_⟩;rw[bw,←eL];have es:ss++(ck G2).reverse++[g'.s]=ss++(ck ([g']++G2)).reverse:=by simp[ck]
   have R3:=R2.waits (ck (W++G0));have R4:=R3.steps (ss++(ck ([g']++G2)).reverse);refine⟨ls,_,_,zJ,zJ,R3.hs,AS ?_,zJ,λb o e n1 n2 n3=>?_,?_⟩
   ·have h1:=congrArg List.length eG;simp only[z7,length_singleton]at h1;simp only[AQ,z7,List.length_reverse]
    lia
   ·rw[AD n2,AD n3];exact s2 b o e n1 n2 n3
   ·rw[←es,zR]at R4;rw[←es];exact R4
inductive SgStep:Str->hA->List Sg->Bool->hA->List Sg->Bool->Prop
 |blank (S) (W) (wp):SgStep " " S W wp S W wp
 |ahead (S) (W) (g) (hg:g=.no\/g=.br):SgStep g.s S W true S (W++[g]) true
 |join (S) (W G) (g) (hg:g.cH) (hq:∀q∈G,g.b<=q.b) (hw:NE W<g.b):SgStep g.s S (W++G) false (S++(ck G).reverse) (W++[g]) true
 |close (S) (W G) (hq:∀q∈G,1<=q.b):SgStep ")" S ((W++[.br])++G) false (S++(ck G).reverse) W false
inductive spTB(DC bd:hO)(vs:hK)(H:Hp)(Q:VK)(_E:XK):Prop
 |mk (p ls lw) (ss) (W G) (g) (aW:vs=[.ref p,.str g.s]) (aX:g.cH) (bz:bH DC H p ls lw ss (ck (W++G)) false) (bQ:ss.length+(W.length+G.length)<=390) (cw:Rd H bd (.dK Cj))
  (cX:∀q∈G,g.b<=q.b) (eN:NE W<g.b) (ff:∀H',eT p ls lw H H'->bH DC H' p ls lw (ss++(ck G).reverse) (ck (W++[g])) true->Q (.bl true) H')
def ZC:AH [hZ,jI] [hZ,jI] (defScope Bm):=bA
def Uy{g:Sg}(h:g.cH):(if true=true then !dz (V.str g.s) [V.str "&",V.str "^",V.str "|"]else dz (V.str g.s) [V.str "&",V.str "^",V.str "|"])=false:=by
 cases g<;>first|trivial|rfl
def Xu(F:aN ω "take_between" "Reading.take_between" Bm f fd)(j:Jr ω DC)(O:mg "BINDING"=some (.ref bd))(S:mg "JOINING"=some (.ref t))(X:∀H,aP ω H t [.str "&",.str "^",.str "|"])(l:Mt P w ω mg base DC "settle" 1 [hZ,lx] (spSet DC bd)):
  aE P w ω mg base aS 2 f fd [hZ,jI] (spTB DC bd):=by
 obtain⟨fS,dS,l,Y,J⟩:=l.ex;refine F.m ZC λvs H Q E h=>?_;obtain⟨p,ls,x,ss,W,G,g,rfl,T,R,C,y,Z,U,q⟩:=h;refine⟨zJ,λD A r s z=>?_⟩;obtain⟨dx,I⟩:=id R.ex
 refine⟨_,AC (AY (AK Ks (pv 1) (BJ (v:=.ref t) zJ S zJ) zJ) (AB Ag) AM)
  (AC (Ae (CQ (pv 0) j.cl Y l z J .nil AT (AA (Av (Bp z) (BJ (v:=.ref bd) rfl O rfl) (pv 1) (λ_ _=>rfl)) AG)))
  (AC (Ae (Bn plainAttrs_list PySem.F.slot_list_append PySem.F.type_list_append Au (Af (pv 0) rfl) (AA (pv 1) AG)))
  (AC (CG (pv 0) DR rfl)
  (AB (AI DR))))),?_⟩
 refine⟨_,zJ,t,_,zJ,.inr (X H),zJ,zJ,_,zJ,?_⟩;rw[Uy T];apply AV;refine⟨_,zJ,p,dx,_,zJ,I,C8 _ _ _,_,zJ,bd,.int g.b,zJ,.inl ⟨_,Sum.inr g.s,y,zJ,(Pf g).symm⟩,p,ls,x,ss,W,G,g.b,false,zJ,R,by lia,y,Z,.inr U,λH1 M d=>?_⟩;obtain⟨a,i⟩:=id d.ex;refine⟨_,zJ,p,DC,a,_,_,zJ,i,j.cl,j.nW,FF _ _ _,.inl ⟨zJ,_,aH.of d.hw⟩,_,zJ,x,_,_,zJ,zJ,d.hw,AS (by grind),?_⟩;have L:(ck W).map V.str++[V.str g.s]=(ck (W++[g])).map V.str:=by simp
 rw[L];refine⟨_,zJ,p,DC,a,_,zJ,by rw[AD (Ne.symm d.np.2)];exact i,j.cl,j.nP,Pe _ _ _,?_⟩;exact q _ (λb o e B N u=>by rw[AD B,AD u];exact M b o e B N u) ((d.waits (ck (W++[g]))).wants true)
inductive spTA(DC:hO)(vs:hK)(H:Hp)(Q:VK)(_E:XK):Prop
 |mk (p ls lw) (ss) (W) (g) (wp) (aW:vs=[.ref p,.str g.s]) (aX:g=.no\/g=.br) (bz:bH DC H p ls lw ss (ck W) wp) (bQ:W.length<=390)
  (cw:∀H',eT p ls lw H H'->bH DC H' p ls lw ss (ck (W++[g])) wp->Q (.bl true) H')
def ZD:AH [hZ,jI] [hZ,jI] (defScope B0):=bA
def Xv(F:aN ω "take_ahead" "Reading.take_ahead" B0 f fd)(a:Jr ω DC):aE P w ω mg base aS 1 f fd [hZ,jI] (spTA DC):=by
 refine F.m ZD λG H Q E h=>?_;obtain⟨p,I,r,L,W,g,wp,rfl,z,R,v,q⟩:=h;refine⟨zJ,λx A i s J=>?_⟩;obtain⟨u,j⟩:=id R.ex
 refine⟨_,AC (AY (PW.pt (CA (AK DU (pv 1) AL (AN _)) (Bg (AK DU (pv 1) AL (AN _))))) (AB Ag) AM)
  (AC (Ae (Bn plainAttrs_list PySem.F.slot_list_append PySem.F.type_list_append Au (Af (pv 0) rfl) (AA (pv 1) AG)))
  (AB (AI DR))),?_⟩
 have B:∀{t:Prop},t->(∀b,b=false->if b=true then False else t):=λh b D=>by subst D;exact h
 refine⟨_,zJ,zJ,_,zJ,?_⟩;have l:(ck W).map V.str++[V.str g.s]=(ck (W++[g])).map V.str:=by simp
 have R2:=R.waits (ck (W++[g]));rcases z with rfl|rfl
 ·refine AV (AV ?_);refine⟨_,zJ,p,DC,u,_,_,zJ,j,a.cl,a.nW,FF _ _ _,.inl ⟨zJ,_,aH.of R.hw⟩,_,zJ,r,_,_,zJ,zJ,R.hw,AS (by grind),?_⟩;rw[l];exact q _ (λb o e C y d=>by rwa[AD d]) R2
 ·refine Ah ⟨_,zJ,zJ,_,zJ,?_⟩;apply AV;refine⟨_,zJ,p,DC,u,_,_,zJ,j,a.cl,a.nW,FF _ _ _,.inl ⟨zJ,_,aH.of R.hw⟩,_,zJ,r,_,_,zJ,zJ,R.hw,AS (by grind),?_⟩;rw[l];exact q _ (λb o e C y d=>by rwa[AD d]) R2
inductive spTC(DC bd:hO)(vs:hK)(H:Hp)(Q:VK)(_E:XK):Prop
 |mk (p ls lw) (ss) (W G) (wp) (aW:vs=[.ref p]) (bz:bH DC H p ls lw ss (ck ((W++[.br])++G)) wp) (bQ:ss.length+(W.length+G.length)<=390) (cw:Rd H bd (.dK Cj))
  (cX:∀q∈G,1<=q.b) (ff:∀H',eT p ls lw H H'->bH DC H' p ls lw (ss++(ck G).reverse) (ck W) wp->Q (.bl true) H')
def ZE:AH [hZ] [hZ] (defScope B2):=bA
def Xw{tB}(F:aN ω "take_close" "Reading.take_close" B2 f fd)(B:Bl mg)(DT:Jr ω DC)(mL:mg lN=some (.int 1 tB))(GS:Mt P w ω mg base DC "settle" 1 [hZ,lx] (spSet DC bd)):aE P w ω mg base aS 2 f fd [hZ] (spTC DC bd):=by
 obtain⟨fS,dS,GS,mS,bS⟩:=GS.ex;refine F.m ZE λvs H Q E h=>?_;obtain⟨p,ls,lw,ss,W,G,wp,rfl,R,h390,hB,hq,q⟩:=h;refine⟨zJ,λae A outer s hr=>?_⟩;obtain⟨dx,hp⟩:=id R.ex
 refine⟨_,AC (Ae (CQ (pv 0) DT.cl mS GS hr bS .nil AT (AA (BJ (v:=.int 1) zJ mL ⟨tB,zJ⟩) AG)))
  (AC (AY (AK As (AR (A3 ω rfl) rfl B.len PySem.boot_len (AA (Af (pv 0) rfl) AG)) AF (AN _)) (AB Ag) AM)
  (AC (Ae (EO plainAttrs_list slot_list_pop type_list_pop FK (Af (pv 0) rfl)))
  (AB (AI DR)))),?_⟩
 refine⟨_,zJ,p,dx,_,zJ,hp,C8 _ _ _,p,ls,lw,ss,W++[.br],G,1,wp,zJ,R,by grind,hB,hq,.inr (by rw[Dc];decide),λH1 s1 R1=>?_⟩;obtain⟨dx1,ak⟩:=id R1.ex;obtain⟨hat,bv,bw⟩:=NG W .br;refine⟨_,zJ,p,DC,dx1,_,_,zJ,ak,DT.cl,DT.nW,FF _ _ _,lw,_,zJ,.inl (aH.of R1.hw),zJ,_,zJ,?_⟩
 rw[Zp (λz=>by
  grind)]
 apply AV;refine⟨_,zJ,p,DC,dx1,_,_,zJ,ak,DT.cl,DT.nW,FF _ _ _,.inl ⟨zJ,_,aH.of R1.hw⟩,lw,_,.str Sg.br.s,zJ,zJ,R1.hw,bv,?_⟩;rw[bw];exact q _ (λb o e n1 n2 n3=>by rw[AD n3];exact s1 b o e n1 n2 n3) (R1.waits (ck W))
inductive spTS(DC bd:hO)(vs:hK)(H:Hp)(Q:VK)(_E:XK):Prop
 |mk (p ls lw) (x) (S S') (W W') (wp gL) (aW:vs=[.ref p,.str x]) (aX:bH DC H p ls lw S (ck W) wp) (bz:SgStep x S W wp S' W' gL) (bQ:S.length+W.length<=380) (cw:Rd H bd (.dK Cj))
  (cX:∀H',eT p ls lw H H'->bH DC H' p ls lw S' (ck W') gL->Q (.bl true) H')
def ZF:AH [hZ,jI] [hZ,jI] (defScope CM):=bA
def Ja(g:Sg):decide (V.str g.s=V.str " ")=false/\decide (V.str g.s=V.str ")")=false:=by cases g<;>decide +kernel
def Xx(F:aN ω "take_sign" "Reading.take_sign" CM f fd)(a:Jr ω DC)(z:Mt P w ω mg base DC "take_between" 2 [hZ,jI] (spTB DC bd))(l:Mt P w ω mg base DC "take_ahead" 1 [hZ,jI] (spTA DC))(y:Mt P w ω mg base DC "take_close" 2 [hZ] (spTC DC bd)):aE P w ω mg base aS 3 f fd [hZ,jI] (spTS DC bd):=by
 obtain⟨fB,Z,z,L,Y⟩:=z.ex;obtain⟨fA,dA,l,I,O⟩:=l.ex;obtain⟨fC,dC,y,J,X⟩:=y.ex;refine F.m ZF λvs H Q E h=>?_;obtain⟨p,t,j,x,S,S',W,N,wp,M,rfl,R,T,d,B,q⟩:=h;refine⟨zJ,λC A v s u=>?_⟩;obtain⟨i,e⟩:=id R.ex
 refine⟨_,AC (AY (AK As (pv 1) AL (AN _)) (AB (AI DR)) AM)
  (AC (AY (Ao (Af (pv 0) rfl)) (AB (AI (CQ (pv 0) a.cl I l (u.mono qc) O .nil AT (AA (pv 1) AG)))) AM)
  (AB (AI (BU (AK As (pv 1) AL (AN _)) (BV (pv 0) a.cl J y u X .nil AT) (CQ (pv 0) a.cl L z u Y .nil AT (AA (pv 1) AG)))))),?_⟩
 refine⟨_,rfl,rfl,_,rfl,?_⟩;cases T with
 |blank=>
  rw[show decide (V.str " "=V.str " ")=true by rfl];exact Ah (q _ (eT.refl _ _ _ _) R)
 |ahead _ _ g o=>
  rw[(Ja g).1];refine AV ⟨_,zJ,p,DC,i,_,_,zJ,e,a.cl,a.nP,JY _ _ _,_,zJ,Ah ?_⟩;exact⟨_,zJ,p,i,_,zJ,e,C8 _ _ _,_,zJ,p,t,j,S,W,g,true,zJ,o,R,by lia,q⟩
 |join _ D G g o r U=>
  rw[(Ja g).1];rw[z7]at d;refine AV ⟨_,zJ,p,DC,i,_,_,zJ,e,a.cl,a.nP,JY _ _ _,_,zJ,AV ?_⟩;refine⟨_,zJ,zJ,_,zJ,?_⟩;rw[(Ja g).2];exact AV ⟨_,zJ,p,i,_,zJ,e,C8 _ _ _,_,zJ,p,t,j,S,D,G,g,zJ,o,R,by lia,B,r,U,q⟩
 |close _ _ G r=>
  rw[z7,z7]at d;refine AV ⟨_,zJ,p,DC,i,_,_,zJ,e,a.cl,a.nP,JY _ _ _,_,zJ,AV ?_⟩;refine⟨_,zJ,zJ,_,zJ,?_⟩;exact Ah ⟨_,zJ,p,i,_,zJ,e,C8 _ _ _,p,t,j,S,N,G,false,zJ,R,by lia,B,r,q⟩
inductive spEnds(DC bd:hO)(vs:hK)(H:Hp)(Q:VK)(_E:XK):Prop
 |mk (p ls lw) (ss) (G) (aW:vs=[.ref p]) (aX:bH DC H p ls lw ss (ck G) false) (bz:ss.length+G.length<=390) (bQ:∀q∈G,1<=q.b) (cw:Rd H bd (.dK Cj))
  (cX:∀H',eT p ls lw H H'->bH DC H' p ls lw (ss++(ck G).reverse) [] false->Q (.bl true) H')
 |no (p ls lw) (ss) (W) (wp) (aW:vs=[.ref p]) (aX:bH DC H p ls lw ss (ck W) wp) (bz:ss.length+W.length<=390) (bQ:wp=true\/∃W1 W2,W=(W1++[.br])++W2/\∀q∈W2,1<=q.b) (cw:Rd H bd (.dK Cj)) (cX:∀H',eT p ls lw H H'->Q (.bl false) H')
def NH:∀W:List Sg,(∀q∈W,1<=q.b)\/∃d a,W=(d++[.br])++a/\∀q∈a,1<=q.b
 | []=>.inl λq h=>nomatch h
 |g::W=>by
  rcases NH W with h|⟨d,a,e,h⟩
  ·by_cases i:1<=g.b
   ·simp_all
   ·have:g=.br:=by cases g<;>first|rfl|trivial
    subst this;exact .inr ⟨[],W,zJ,h⟩
  grind
def Wg:AH [hZ] [hZ] (defScope Dv):=bA
def Uz{tB}(F:aN ω "ends" "Reading.ends" Dv f fd)(B:Bl mg)(i:Jr ω DC)(T:mg lN=some (.int 1 tB))(D:Mt P w ω mg base DC "settle" 1 [hZ,lx] (spSet DC bd)):aE P w ω mg base aS 2 f fd [hZ] (spEnds DC bd):=by
 obtain⟨fS,dS,D,mS,S⟩:=D.ex;refine F.ok Wg (λX H Q E h=>?_) (λN A I s H X Q E hr h=>?_)
 ·cases h with
  |mk p t l u G e=>simp_all
  |no p t l u W wp e=>simp_all
 ·
  refine⟨_,AC (Ae (CQ (pv 0) i.cl mS D hr S .nil AT (AA (BJ (v:=.int 1) zJ T ⟨tB,zJ⟩) AG)))
   (AB (AI (Ce (RH (Af (pv 0) rfl)) (Cs (Ck As (AR (A3 ω rfl) rfl B.len PySem.boot_len (AA (Af (pv 0) rfl) AG)) AF (AN _)))))),?_⟩
  cases h with
  |no p t l u W wp e R j Z C q=>
   subst e;obtain⟨J,y⟩:=id R.ex
   obtain⟨o,G,O,U,h0,hn⟩:∃o G,W=o++G/\(∀q∈G,1<=q.b)/\(o=[]\/NE o<1)/\(wp=true\/o≠ []):=by
    rcases NH W with h|⟨M,L,e,h⟩
    ·refine⟨[],W,rfl,h,.inl rfl,?_⟩;rcases Z with z|⟨M,L,e,_⟩
     ·simp_all
     ·have:=h .br (by simp_all);exact absurd this qc
    ·exact⟨M++[.br],L,e,h,.inr (by rw[Dc];decide),.inr (by simp)⟩
   subst O;rw[z7]at j;refine⟨_,rfl,p,J,_,rfl,y,C8 _ _ _,p,t,l,u,o,G,1,wp,rfl,R,by lia,C,U,h0,λY x r=>?_⟩;obtain⟨a,d⟩:=id r.ex;refine⟨_,rfl,p,DC,a,_,_,rfl,d,i.cl,i.nP,JY _ _ _,_,rfl,_,rfl,?_⟩;cases wp with
   |true=>exact AV (q _ x)
   |false=>
    refine Ah ⟨_,zJ,p,DC,a,_,_,zJ,d,i.cl,i.nW,FF _ _ _,l,_,zJ,.inl (aH.of r.hw),zJ,?_⟩
    rw[Zp (λz=>by
     simp_all)]
    exact q _ x
  |mk p t l u G e R j hq C q=>
  subst e;obtain⟨J,y⟩:=id R.ex;refine⟨_,zJ,p,J,_,zJ,y,C8 _ _ _,p,t,l,u,[],G,1,false,zJ,R,by grind,C,hq,.inl zJ,λY x r=>?_⟩;obtain⟨a,d⟩:=id r.ex;refine⟨_,zJ,p,DC,a,_,_,zJ,d,i.cl,i.nP,JY _ _ _,_,zJ,_,zJ,Ah ?_⟩;exact⟨_,zJ,p,DC,a,_,_,zJ,d,i.cl,i.nW,FF _ _ _,l,_,zJ,.inl (aH.of r.hw),zJ,q _ x r⟩
end
def U0(s:aB H H')(h:Rd H a o):Rd H' a o:=by
 rcases h with h|⟨o,h⟩
 ·exact .inl (s _ _ h)
 ·exact .inr ⟨o,s _ _ h⟩
def bH.same{a d}(s:aB H H')(h:bH DC H p ls lw a d wp):bH DC H' p ls lw a d wp:=by
 obtain⟨i,e⟩:=h.ex;exact⟨⟨i,s _ _ e⟩,s _ _ h.hs,s _ _ h.hw,h.ne⟩
def LX(g:Sg):(⟨#[g.c]⟩:Str)=g.s:=by cases g<;>decide +kernel
def VR(g:Sg):DL g.c=false/\Cn g.c=false:=by cases g<;>exact⟨rfl,rfl⟩
inductive RnN(lt:Bool)(z:Str)(o:Out)(a:Nat)(S:hA)(W:List Sg)(wp:Bool):Prop
 |done (ea:a=z.length) (ew:wp=false) (h:∀q∈W,1<=q.b) (e:o=.ok (S++(ck W).reverse))
 |part (ew:wp=true) (n) (h:Q7 lt z a n) (hn:0<n) (r:Rn lt z o (a+n) (S++[sl z a (a+n)]) W false)
 |sign (c) (S') (W') (gL) (hc:z.cps.toList[a]?=some c) (no:Q7 lt z a 0) (st:SgStep ⟨#[c]⟩ S W wp S' W' gL) (r:Rn lt z o (a+1) S' W' gL) (l:S'.length+W'.length<=S.length+W.length+1)
 |ends (ea:a=z.length) (hw:wp=true\/∃W1 W2,W=(W1++[.br])++W2/\∀q∈W2,1<=q.b) (e:o=.bad z.length)
def LY(j:z.cps.toList[a]?=some c)(no:DL c=false/\Cn c=false)(e:C9 c=false):Q7 lt z a 0:=by
 obtain⟨d,i⟩:=Z8.mp j;rw[A1]at d;refine⟨by lia,λk l h=>absurd h (by lia),λ_=>S7 (w:=[]) no ?_ (.inr e)⟩;rw[Gv z (by lia) (by lia),show a+0+1-a=1 by lia,List.drop_eq_getElem_cons (by lia),i];rfl
def Rn.next(h:Rn lt z o a S W wp):RnN lt z o a S W wp:=by
 cases h with
 |done _ _ h e=>exact .done rfl rfl h e
 |blank _ _ _ _ h r=>exact .sign 32 _ _ _ h (LY h ⟨rfl,rfl⟩ rfl) (by rw[show(⟨#[32]⟩:Str)=" " by decide +kernel];exact .blank _ _ _) r (by lia)
 |part _ n _ _ h l r=>exact .part rfl n h l r
 |ahead _ _ _ g d h r=>exact .sign g.c _ _ _ h (LY h (VR g) (by cases g<;>rfl)) (by rw[LX];exact .ahead _ _ g d) r (by simp;lia)
 |join _ _ W Q g d h j i r=>exact .sign g.c _ _ _ h (LY h (VR g) (by cases g<;>rfl)) (by rw[LX];exact .join _ W Q g d j i) r (by simp;lia)
 |close _ _ W Q h j r=>exact .sign 41 _ _ _ h (LY h ⟨rfl,rfl⟩ rfl) (by rw[show(⟨#[41]⟩:Str)=")" by decide +kernel];exact .close _ W Q j) r (by simp;lia)
 |ends _ _ _ i e=>exact .ends rfl i e
structure Xy(P:Program)(w:World)(K:FG)(mg:SV)(base:Heap)(DC bd:hO):Prop where
 T:Jr K DC
 cls:mg "Reading"=some (.ref DC)
 make:∃f fd,Mk K DC f/\aE P w K mg base aS 1 f fd [hZ] (spRd0 DC)/\Binds K fd [hZ] []
 tp:Mt P w K mg base DC "take_part" 1 [hZ,lT] (spTP DC)
 ts:Mt P w K mg base DC "take_sign" 3 [hZ,jI] (spTS DC bd)
 en:Mt P w K mg base DC "ends" 2 [hZ] (spEnds DC bd)
def ZG(H:Hp)(Q:VK)(E:XK)(cT:hO):Out->Prop
 |.ok T=>∀l H',aB H H'->H' l=some (.lst (T.map V.str))->Q (.ref l) H'
 |.bad e=>UqA H E cT (.int (e:Int))
inductive spSt(K:FG)(DC bd cT:hO)(vs:hK)(H:Hp)(Q:VK)(E:XK):Prop
 |mk (z) (lt) (o) (aW:vs=[.str z,.bl lt]) (aX:z.cps.all (· < 128)=true) (bz:z.length<=100) (bQ:Rn lt z o 0 [] [] true) (cw:Rd H bd (.dK Cj)) (cX:ZG H Q E cT o)
noncomputable abbrev NSt:hA:=[i6,iR,"reading","at","end"]
def scSt:AH NSt [i6,iR] (defScope Cc):=bA
inductive StA(lt:Bool)(DC:hO)(z:Str)(o:Out)(p ls lw:hO)(H:Hp)(a:Nat):Prop
 |mk (S) (W) (wp) (R:bH DC H p ls lw S (ck W) wp) (t:Rn lt z o a S W wp) (l:S.length+W.length<=a) (h:a<=z.length)
section
def TC{n:Nat}(h:n<=1000):AtV (.int (n:Int)):=.inr ⟨_,rfl,Hn (by lia)⟩
def Xz(F:aN ω jt jt Cc f fd)(B:Bl mg)(RO:Xy P w ω mg base DC bd)(TX:Pc P w ω mg base cM cT)(GE:Fn P w ω mg base "part_end" 5 [i6,"at",iR] spPE):aE P w ω mg base (cz P w) 6 f fd [i6,iR] (spSt ω DC bd cT):=by
 obtain⟨fE,dE,GE,mE,kE,bE⟩:=GE.ex;obtain⟨fI,dI,MI,GI,bI⟩:=RO.make;obtain⟨fT,dT,GT,mT,bT⟩:=RO.tp.ex;obtain⟨fS,dS,GS,mS,bS⟩:=RO.ts.ex;obtain⟨fN,dN,GN,mN,bN⟩:=RO.en.ex;have mC:=RO.cls;have T:=RO.T;obtain⟨fX,dX,MX,GX,bX⟩:=TX.make;have mX:=TX.cls;refine F.fj scSt (λvs H Q E h=>?_) (λae A J s H vs Q E hr h=>?_)
 ·cases h with
  |mk z lt o e=>simp_all
 ·have rz:=Eu (P:=P) (w:=w) (ω:=ω) (mg:=mg) (base:=base) (N:=NSt) (qual:=jt) (scope:=defScope Cc) (f:=f) (cd:=ae) (A:=A) (outer:=J) (s:=s) (H:=H) (E:=E);have eX:aJ 2 _:=hr.mono qc;have hr3:aJ 3 _:=hr.mono qc;have nd:=scSt.nd
  refine⟨_,AC (AY (Aw (Ao (Bt ω zJ zJ B.c9 zJ B.str Ft (pv 0)))) (AB Ag) AM)
   (AC (Ab (i:=2) nd rfl (Or.inl rfl) (RY MI GI eX rfl mC bI .nil AT))
   (AC (Ab (i:=3) nd rfl (Or.inl rfl) AF)
   (Aq (Fx PassesOwn.leaving (AK E7 (pv 3) (AR A4 rfl B.len PySem.boot_len (AA (pv 0) AG)) (AN _))
    (Aq (Ab (i:=4) nd rfl (Or.inl rfl) (BU (Ao (Af (pv 2) rfl)) (AO GE hr rfl mE kE bE .nil AT (AA (pv 0) (AA (pv 3) (AA (pv 1) AG)))) (pv 3)))
    (AB (AY (AK Hx (pv 4) (pv 3) (AN _))
     (AC (Ae (CQ (pv 2) T.cl mT GT (hr.mono qc) bT .nil AT (AA (Ls SF (pv 0) (IN (pv 3)) (IN (pv 4))) AG))) (AB (Ab (i:=3) nd rfl (Or.inl rfl) (pv 4))))
     (AB (AY (Ao (CQ (pv 2) T.cl mS GS hr3 bS .nil AT (AA (An Kr (pv 0) (pv 3) (λ_ _=>rfl)) AG))) (AB (Na (i:=3) nd rfl (Or.inl rfl) AF Oo)) (AB Ag)))))))
   (AC (AY (Aw (Ao (BV (pv 2) T.cl mN GN eX bN .nil AT))) (AB (C1 rz rfl MX.cls (C0 MX GX hr3 rfl mX bX .nil AT (AA (AR A4 rfl B.len PySem.boot_len (AA (pv 0) AG)) AG)))) AM)
   (AB (AI (Af (pv 2) rfl))))))),?_⟩
  cases h with
  |mk z lt o e ha h40 RN hB q=>
  subst e;refine⟨_,zJ,_,_,_,true,zJ,.str z,zJ,_,zJ,AV ?_⟩;intro p dx hp ba ay;have sN:=El (D:=DC) hp ba ay;refine⟨p,dx,zJ,aA,λu G H1 s1 hls hlw R1=>⟨zJ,?_⟩⟩;have S1:=λb o e=>s1 b o (sN _ _ e) (AJ e hp);have hls0:=none_of sN hls;have hlw0:=none_of sN hlw;have U:∀{x d:Hp},aB H x->eT p u G x d->aB H d:=λ{x d}a b c o e=>b c o (a c o e) (AJ e hp) (AJ e hls0) (AJ e hlw0);have Z:∀{x:Hp},aB H x->Rd x bd (.dK Cj):=λ{x}a=>U0 a hB;refine⟨λj H'=>(∃O,j=[some (.str z),some (.bl lt),some (.ref p),some (.int z.length),O])/\aB H H'/\∃S W wp,bH DC H' p u G S (ck W) wp/\S.length+W.length<=300/\((wp=false/\(∀q∈W,1<=q.b)/\o=.ok (S++(ck W).reverse))\/((wp=true\/∃W1 W2,W=(W1++[.br])++W2/\∀q∈W2,1<=q.b)/\o=.bad z.length)),λR Y=>?_,?_⟩
  ·refine⟨λm j x=>∃a O,j=[some (.str z),some (.bl lt),some (.ref p),some (.int ((a:Nat))),O]/\m=z.length-a/\aB H x/\StA lt DC z o p u G x a,⟨z.length,0,none,rfl,rfl,S1,.mk [] [] true R1 RN (Nat.zero_le _) (Nat.zero_le _)⟩,?_⟩;rintro m j x ⟨a,O,rfl,rfl,M,S,W,wp,R2,t,l,aw⟩;refine⟨_,rfl,_,rfl,z,rfl,Nat.le_of_lt (AS (by lia)),_,_,rfl,rfl,_,rfl,?_⟩;obtain⟨L,I⟩:=id R2.ex;cases t.next with
   |done ea ew h e=>
    subst ea ew;rw[Zp (by lia)];exact AV (Y _ _ ⟨⟨_,zJ⟩,M,S,W,false,R2,by lia,.inl ⟨zJ,h,e⟩⟩)
   |ends ea hw e=>
    subst ea;rw[Zp (by lia)];exact AV (Y _ _ ⟨⟨_,zJ⟩,M,S,W,wp,R2,by lia,.inr ⟨hw,e⟩⟩)
   |part ew n pt hn r=>
    subst ew;have hle:=pt.le;rw[Zm (by lia)];refine Ah ⟨λj d=>∃b O,j=[some (.str z),some (.bl lt),some (.ref p),some (.int ((b:Nat))),O]/\z.length-b<z.length-a/\aB H d/\StA lt DC z o p u G d b,λcK H' g=>by obtain⟨b,v,e1,e2,e3,e4⟩:=g;exact ⟨z.length-b,e2,b,v,e1,zJ,e3,e4⟩,?_⟩;refine⟨λj d=>j=[some (.str z),some (.bl lt),some (.ref p),some (.int ((a:Nat))),some (.int ((a+n:Nat)))]/\aB H d/\bH DC d p u G S (ck W) true,λR Y=>?_,?_⟩
    ·refine⟨_,zJ,p,DC,L,_,_,zJ,I,T.cl,T.nP,JY _ _ _,_,zJ,Ah ?_⟩;exact⟨_,zJ,_,zJ,_,zJ,z,a,n,lt,zJ,ha,by lia,pt,λd s3=>Y _ _ ⟨zJ,M.trans s3,R2.same s3⟩⟩
    ·rintro j d ⟨rfl,S3,X⟩;obtain⟨y,C⟩:=id X.ex;refine⟨_,zJ,_,zJ,_,_,zJ,zJ,_,zJ,?_⟩;rw[Zm (by lia)];apply Ah;refine⟨_,zJ,p,y,_,zJ,C,C8 _ _ _,_,zJ,_,zJ,_,zJ,_,zJ,_,zJ,z,zJ,Nat.le_of_lt (AS (by lia)),p,u,G,S,ck W,true,_,zJ,X,by lia,λH4 s4 R4=>?_⟩;exact⟨_,zJ,a+n,_,zJ,by lia,U S3 s4,.mk _ W false R4 r (by grind) hle⟩
   |sign c S' W' gL hc no st r hl'=>
    have hlt:a<z.length:=by
     have:=(Z8.mp hc).1
     rwa[A1]at this
    rw[Zm (by lia)];refine Ah ⟨λj d=>∃b O,j=[some (.str z),some (.bl lt),some (.ref p),some (.int ((b:Nat))),O]/\z.length-b<z.length-a/\aB H d/\StA lt DC z o p u G d b,λcK H' zz=>by obtain⟨b,v,e1,e2,e3,e4⟩:=zz;exact ⟨z.length-b,e2,b,v,e1,zJ,e3,e4⟩,?_⟩;refine⟨λj d=>j=[some (.str z),some (.bl lt),some (.ref p),some (.int ((a:Nat))),some (.int ((a:Nat)))]/\aB H d/\bH DC d p u G S (ck W) wp,λR Y=>?_,?_⟩
    ·refine⟨_,rfl,p,DC,L,_,_,rfl,I,T.cl,T.nP,JY _ _ _,_,rfl,?_⟩;cases wp with
     |false=>exact AV ⟨_,rfl,Y _ _ ⟨rfl,M,R2⟩⟩
     |true=>exact Ah ⟨_,rfl,_,rfl,_,rfl,z,a,0,lt,rfl,ha,by lia,no,λd s3=>Y _ _ ⟨rfl,M.trans s3,R2.same s3⟩⟩
    ·rintro j d ⟨rfl,S3,X⟩;obtain⟨y,C⟩:=id X.ex;refine⟨_,zJ,_,zJ,_,_,zJ,zJ,_,zJ,?_⟩;rw[Zp (by lia)];apply AV;refine⟨_,zJ,p,y,_,zJ,C,C8 _ _ _,_,zJ,_,zJ,z,a,c,zJ,zJ,Nat.le_of_lt (AS (by lia)),BR hc,p,u,G,⟨#[c]⟩,S,S',W,W',wp,gL,zJ,X,st,by lia,Z S3,λH4 s4 R4=>⟨_,zJ,Ah ?_⟩⟩;refine⟨_,zJ,_,_,zJ,zJ,a+1,some (.int ((a:Nat))),?_,by lia,U S3 s4,.mk S' W' gL R4 r (by lia) (by lia)⟩;rfl
  rintro j x ⟨⟨O,rfl⟩,M,S,W,wp,R2,l80,hend⟩;obtain⟨L,I⟩:=id R2.ex;rcases hend with⟨rfl,hq,rfl⟩|⟨hw,rfl⟩
  ·refine⟨_,zJ,p,L,_,zJ,I,C8 _ _ _,.mk p u G S W zJ R2 (by lia) hq (Z M) λd s3 X=>⟨_,zJ,AV ?_⟩⟩;obtain⟨y,C⟩:=id X.ex;exact⟨_,zJ,p,DC,y,_,_,zJ,C,T.cl,T.nS,S6 _ _ _,q u d (U M s3) X.hs⟩
  ·refine⟨_,zJ,p,L,_,zJ,I,C8 _ _ _,.no p u G S W wp zJ R2 (by lia) hw (Z M) λd s3=>⟨_,zJ,Ah ?_⟩⟩;exact Q6 MX.cls TX.st (TC (by lia)) (U M s3) q (λ_ k=>⟨_,zJ,z,zJ,Nat.le_of_lt (AS (by lia)),k⟩)
end
def Pg(a b:Nat):Builtin.bitXor (a) (b)=((a^^^b:Nat):Int):=by
 have e:(a^^^b)|||(a&&&b)=a|||b:=by
  refine Nat.eq_of_testBit_eq λk=>?_;simp;cases a.testBit k<;>cases b.testBit k<;>rfl
 have i:(a^^^b)&&&(a&&&b)=0:=by
  refine Nat.eq_of_testBit_eq λk=>?_;simp only[Nat.testBit_and,Nat.testBit_xor,Nat.zero_testBit];cases a.testBit k<;>cases b.testBit k<;>rfl
 have h:=Sx (a^^^b) (a&&&b);have d:Builtin.bitXor a b=Builtin.bitOr a b-Builtin.bitAnd a b:=rfl;rw[d,Cf,Cl]
 lia
structure Nv where
 aD:Aa
 kvs:LK
 tb:Str->Nat
noncomputable def wv(n:Nv)(x:Str):Nat:=if BE x then n.tb x else if B3 x then look n.aD x else digitsVal x.cps.toList
structure WdOk(n:Nv)(x:Str):Prop where
 as:x.cps.all (· < 128)=true
 l0:0<x.length
 l6:x.length<=200
 or:(BE x=true/\Am n.kvs (Sum.inr x)=some (.int (n.tb x:Nat)))\/(BE x=false/\B3 x=true/\x∈n.aD.map (·.1))\/(BE x=false/\B3 x=false/\AllDigits x.cps.toList)
def WdOk.nb(h:WdOk n x):x≠ "|" /\ x≠ "&" /\ x≠ "^" /\ x≠ "~":=by
 have d:∀y,BE y=false->B3 y=false->(∃c∈y.cps.toList,¬ (48<=c/\c<=57))->x≠y:=λy l j ⟨c,i,e⟩ z=>by
  subst z;rcases h.or with⟨a,_⟩|⟨_,a,_⟩|⟨_,_,b⟩
  ·simp_all
  ·simp_all
  ·exact e (b c i)
 exact⟨d _ (by rfl) (by rfl) ⟨124,by trivial,qc⟩,d _ (by rfl) (by rfl) ⟨38,by trivial,qc⟩,d _ (by rfl) (by rfl) ⟨94,by trivial,qc⟩,d _ (by rfl) (by rfl) ⟨126,by trivial,qc⟩⟩
structure NmNo(n:Nv)(x:Str):Prop where
 as:x.cps.all (· < 128)=true
 l6:x.length<=200
 lt:BE x=false
 nm:B3 x=true
 no:x∉ n.aD.map (·.1)
def NmNo.nb(h:NmNo n x):x≠ "|" /\ x≠ "&" /\ x≠ "^" /\ x≠ "~":=by
 have a:∀y,B3 y=false->x≠y:=λy d z=>by
  subst z;have:=h.nm;rw[d]at this;cases this
 exact⟨a _ (by rfl),a _ (by rfl),a _ (by rfl),a _ (by rfl)⟩
noncomputable def Sg.f:Sg->Nat->Nat->Nat|.an,a,b=>a&&&b|.xo,a,b=>a^^^b|_,a,b=>a|||b
inductive EvS(n:Nv):List Nat->Str->List Nat->Prop
 |ng (h) (v):EvS n (h++[v]) "~" (h++[kn n.aD-(kn n.aD&&&v)])
 |bn (g:Sg) (hg:g.cH) (h) (a b):EvS n (h++[a]++[b]) g.s (h++[g.f a b])
 |wd (x) (W:WdOk n x) (h):EvS n h x (h++[wv n x])
inductive Ev(n:Nv)(o:Option Nat):List Nat->hA->Prop
 |nil (v) (e:o=some v):Ev n o [v] []
 |cons (h h') (x) (S) (a:EvS n h x h') (b:Ev n o h' S):Ev n o h (x::S)
 |no (h) (x) (S) (a:NmNo n x) (e:o=none):Ev n o h (x::S)
noncomputable def Tr.cv(n:Nv):Tr->Nat
 |.wd x=>wv n x
 |.ng t=>kn n.aD-(kn n.aD&&&t.cv n)
 |.bn g a b=>g.f (a.cv n) (b.cv n)
def Tr.Ok(n:Nv):Tr->Prop
 |.wd x=>WdOk n x
 |.ng t=>t.Ok n
 |.bn g a b=>g.cH/\a.Ok n/\b.Ok n
def IR:∀(t:Tr),t.Ok n->∀h S,Ev n o (h++[t.cv n]) S->Ev n o h (t.post++S)
 |.wd x,k,h,S,r=>.cons _ _ _ _ (.wd x k h) r
 |.ng t,k,h,S,r=>by
  show Ev n o h ((t.post++[("~":Str)])++S);rw[append_assoc];exact IR t k h _ (.cons _ _ _ _ (.ng h _) r)
 |.bn g a b,k,h,S,r=>by
  show Ev n o h ((a.post++b.post++[g.s])++S);rw[append_assoc,append_assoc];exact IR a k.2.1 h _ (IR b k.2.2 _ _ (.cons _ _ _ _ (.bn g k.1 h _ _) r))
def TF{t:Tr}(k:t.Ok n):Ev n (some (t.cv n)) [] t.post:=by
 have:=IR t k [] [] (.nil _ rfl)
 rwa[zQ]at this
def EvS.len{h h'}{x}(e:EvS n h x h'):h'.length<=h.length+1:=by
 cases e<;>simp<;>lia
section
inductive spJn(vs:hK)(H:Hp)(Q:VK)(_E:XK):Prop
 |mk (g:Sg) (a b:Nat) (aW:vs=[.str g.s,.int (a),.int (b)]) (aX:g.cH) (bz:Q (.int ((g.f a b:Nat):Int)) H)
def ZH:AH [jI,jQ,iS] [jI,jQ,iS] (defScope LJ):=bA
def X0(F:aN ω "joined" "joined" LJ f fd):aE P w ω mg base aS 1 f fd [jI,jQ,iS] spJn:=by
 refine F.m ZH λl H Q E h=>?_;obtain⟨g,a,b,rfl,e,q⟩:=h;refine⟨rfl,λi A d s j=>?_⟩;refine⟨_,AC (AY (AK As (pv 0) AL (AN _)) (AB (AI (AZ CD (pv 1) (pv 2)))) AM) (AC (AY (AK As (pv 0) AL (AN _)) (AB (AI (AZ RU (pv 1) (pv 2)))) AM) (AB (AI (AZ Ia (pv 1) (pv 2))))),?_⟩;refine⟨_,rfl,rfl,_,rfl,?_⟩;cases g with
 |br=>exact e.elim
 |no=>exact e.elim
 |an=>
  refine Ah ⟨_,zJ,_,zJ,_,_,zJ,zJ,?_⟩;show Q (V.int (Builtin.bitAnd _ _)) H
  rwa[Cl]
 |xo=>
  refine AV ⟨_,zJ,zJ,_,zJ,?_⟩;refine Ah ⟨_,zJ,_,zJ,_,_,zJ,zJ,?_⟩;show Q (V.int (Builtin.bitXor _ _)) H
  rwa[Pg]
 |or=>
  refine AV ⟨_,zJ,zJ,_,zJ,?_⟩;refine AV ⟨_,zJ,_,zJ,_,_,zJ,zJ,?_⟩;show Q (V.int (Builtin.bitOr _ _)) H
  rwa[Cf]
inductive spKN(C cB:hO)(vs:hK)(H:Hp)(Q:VK)(E:XK):Prop
 |mk (p) (aD) (r) (x) (aW:vs=[.ref p,.str x]) (aX:aQ C H p aD r) (bz:x∈aD.map (·.1)) (bQ:Q (.int (look aD x)) H)
 |no (p) (aD) (r) (x) (aW:vs=[.ref p,.str x]) (aX:aQ C H p aD r) (bz:x∉ aD.map (·.1)) (bQ:Uq H E cB)
def X1(F:aN ω il lh Cb f fd)(T:E6 ω C)(D:cY P w ω mg base iW cB)(v:Fn P w ω mg base jz 1 [ig,i1] (Cp ω)):aE P w ω mg base (cz P w) 3 f fd [hZ,ij] (spKN C cB):=by
 obtain⟨fO,dO,v,Y,L,M⟩:=v.ex;obtain⟨fX,Z,y,U,S⟩:=D.make;refine F.fj M0 (λO H Q E h=>?_) (λu A d s H O Q E z h=>?_)
 ·cases h with
  |mk p a r x e=>simp_all
  |no p a r x e=>simp_all
 ·have I:=Bp z
  refine⟨_,AC (AY (Aw (Ao (AO v (z.mono qc) zJ Y L M .nil AT (AA (pv 1) (AA (Af (pv 0) zJ) AG))))) (AB (C1 (Eu (P:=P) (w:=w) (ω:=ω) (mg:=mg) (base:=base) (N:=[hZ,ij]) (qual:=lh) (scope:=defScope Cb) (f:=f) (cd:=u) (A:=A) (outer:=d) (s:=s) (H:=H) (E:=E)) zJ y.cls (C0 y U z zJ D.cls S .nil AT (AA AL AG)))) AM)
   (AB (AI (Av I (Af (pv 0) rfl) (pv 1) (λ_ _=>rfl)))),?_⟩
  cases h with
  |mk p a r x e B o k=>
   subst e;obtain⟨q,t,l,J,X,i,j,G⟩:=B.ex;refine⟨_,zJ,_,zJ,p,C,q,_,_,zJ,i,T.cl,T.nN,C5 _ _ _,?_⟩;refine .inl ⟨x,t,A8 a,zJ,.inr ⟨l,j⟩,_,zJ,?_⟩;rw[Bf o];apply AV;exact⟨_,zJ,p,C,q,_,_,zJ,i,T.cl,T.nN,C5 _ _ _,_,zJ,t,_,zJ,.inl ⟨_,Sum.inr x,.inr ⟨l,j⟩,zJ,(Bf o).symm⟩,k⟩
  |no p a r x e B o R=>
   subst e;obtain⟨q,t,l,J,X,i,j,G⟩:=B.ex;refine⟨_,zJ,_,zJ,p,C,q,_,_,zJ,i,T.cl,T.nN,C5 _ _ _,?_⟩;refine .inl ⟨x,t,A8 a,zJ,.inr ⟨l,j⟩,_,zJ,?_⟩;rw[Dy o];apply Ah;exact C7 (te:=λ_=>tC (.str "")) y.cls (aB.refl _) R
structure Dd(P:Program)(w:World)(K:FG)(mg:SV)(base:Heap)(C:hO)(m:Str)(k:Nat)(ps:hA)(sp:Sp):Prop where
 ex:∃f fd,aE P w K mg base (cz P w) k f fd ps sp/\Nj K C m f/\Binds K fd ps []
structure g9(P:Program)(w:World)(K:FG)(mg:SV)(base:Heap)(x:Str)(k:Nat)(ps:hA)(sp:Sp):Prop where
 ex:∃f fd,aE P w K mg base (cz P w) k f fd ps sp/\mg x=some (.ref f)/\W.keepIn K (.ref f)=true/\Binds K fd ps []
inductive spPN(C cB:hO)(vs:hK)(H:Hp)(Q:VK)(E:XK):Prop
 |mk (k t) (x) (n) (r) (aW:vs=[.ref k,.str x,.ref t]) (aX:aQ C H k n.aD r) (z_t:Rd H t (.dK n.kvs)) (bz:WdOk n x) (bQ:∀H',aB H H'->Q (.int (wv n x)) H')
 |no (k t) (x) (n) (r) (aW:vs=[.ref k,.str x,.ref t]) (aX:aQ C H k n.aD r) (bz:NmNo n x) (bQ:Uq H E cB)
def ZI:AH [iy,lT,jy] [iy,lT,jy] (defScope DB):=bA
def X2(F:aN ω j5 j5 DB f fd)(B:Bl mg)(T:E6 ω C)(J:Fn P w ω mg base jP 1 [ig] (spLet ω))(D:Fn P w ω mg base lq 1 [ig] spIsName)(y:Dd P w ω mg base C il 3 [hZ,ij] (spKN C cB)):aE P w ω mg base (cz P w) 4 f fd [iy,lT,jy] (spPN C cB):=by
 obtain⟨fL,dL,J,R,kL,Z⟩:=J.ex;obtain⟨fN,dN,D,mN,kN,bN⟩:=D.ex;obtain⟨fK,dK,y,mK,Y⟩:=y.ex;refine F.fj ZI (λX H Q E h=>?_) (λv A d s H X Q E I h=>?_)
 ·cases h with
  |mk k t x n r e=>simp_all
  |no k t x n r e=>simp_all
 ·have l:aJ 1 _:=I.mono qc
  refine⟨_,AC (AY (Ao (AO J l zJ R kL Z .nil AT (AA (pv 1) AG))) (AB (AI (Av (Bp I) (pv 2) (pv 1) (λ_ _=>rfl)))) AM)
   (AC (AY (Ao (AO D l rfl mN kN bN .nil AT (AA (pv 1) AG))) (AB (AI (CQ (pv 0) T.cl mK y I Y .nil (ES (P:=P) (w:=w) (ω:=ω) (mg:=mg) (base:=base) (N:=[iy,lT,jy]) (qual:=j5) (scope:=defScope DB) (f:=f) (cd:=v) (A:=A) (outer:=d) (s:=s) (H:=H) (E:=E)) (AA (pv 1) AG)))) AM)
   (AB (AI (BG FC rfl B.int Hg (AA (pv 1) AG))))),?_⟩
  cases h with
  |no k t x n r e p W hU=>
   subst e;obtain⟨dk,S,L,G⟩:=p.ins;have M:=W.l6;refine⟨_,zJ,.txt x zJ W.l6 ⟨_,zJ,?_⟩⟩;rw[W.lt];refine AV ⟨_,zJ,x,zJ,W.as,by lia,λu i=>⟨_,zJ,?_⟩⟩;rw[W.nm];exact Ah ⟨_,zJ,k,dk,_,zJ,i _ _ G,(CT _ _ _),_,zJ,.no k n.aD r x zJ (p.same i) W.no (hU.of i)⟩
  |mk k t x n r e p ht W q=>
   subst e;obtain⟨dk,S,L,G⟩:=p.ins;have M:=W.l6;refine⟨_,rfl,.txt x rfl W.l6 ⟨_,rfl,?_⟩⟩;rcases W.or with⟨j,O⟩|⟨j,o,hx⟩|⟨j,o,U⟩
   ·have a:=q H (aB.refl _);unfold wv at a;rw[j]at a;rw[j];exact Ah ⟨_,zJ,_,zJ,t,_,zJ,.inl ⟨_,Sum.inr x,ht,zJ,O.symm⟩,a⟩
   ·rw[j];refine AV ⟨_,zJ,x,zJ,W.as,by lia,λu i=>⟨_,zJ,?_⟩⟩;have a:=q u i;unfold wv at a;rw[j,o]at a;rw[o];exact Ah ⟨_,zJ,k,dk,_,zJ,i _ _ G,(CT _ _ _),_,zJ,.mk k n.aD r x zJ (p.same i) hx a⟩
   ·rw[j];refine AV ⟨_,zJ,x,zJ,W.as,by lia,λu i=>⟨_,zJ,?_⟩⟩;have a:=q u i;unfold wv at a;rw[j,o]at a;rw[o];have l0:=W.l0;exact AV ⟨_,zJ,x,_,zJ,by lia,intText_digits U (λz=>by have:=A1 x;rw[z]at this;simp at this;lia) (by lia),a⟩
def NoK(H:Hp)(Q:VK)(E:XK)(cB:hO):Option Nat->Prop
 |some v=>∀H',aB H H'->Q (.int ((v:Nat):Int)) H'
 |none=>Uq H E cB
inductive spNo(C cB:hO)(vs:hK)(H:Hp)(Q:VK)(E:XK):Prop
 |mk (k l t) (S) (o) (n) (r) (aW:vs=[.ref k,.ref l,.ref t]) (aX:aQ C H k n.aD r) (z_t:Rd H t (.dK n.kvs)) (bz:H l=some (.lst (S.map V.str))) (bQ:S.length<=400) (cw:Ev n o [] S) (cX:NoK H Q E cB o)
noncomputable abbrev NNo:hA:=[iy,jm,jy,"held","step","last"]
def scNo:AH NNo [iy,jm,jy] (defScope Ex):=bA
def E4(h)(v:Nat):eM (A0 (h++[v])) (-1)=some (V.int (v))/\(A0 (h++[v]))[(A0 (h++[v])).length-1]?=some (V.int (v))/\(A0 (h++[v])).dropLast=A0 h/\fc (A0 (h++[v])).length (-1)=some h.length/\∀u,(A0 (h++[v])).set h.length u=A0 h++[u]:=by
 have e:A0 (h++[v])=A0 h++[V.int v]:=by unfold A0;rw[zR];rfl
 have d:(A0 h).length=h.length:=AQ _;rw[e]
 have a:fc (A0 h++[V.int v]).length (-1)=some h.length:=by
  unfold fc;simp
  lia
 refine⟨?_,?_,dropLast_concat,a,λu=>?_⟩
 ·unfold eM
  simp_all
 ·simp_all
 simp_all
def TH{g:Sg}(h:g.cH):(if false=true then !dz (V.str g.s) [V.str "&",V.str "^",V.str "|"]else dz (V.str g.s) [V.str "&",V.str "^",V.str "|"])=true:=by
 cases g<;>first|trivial|rfl
def X3(F:aN ω kQ kQ Ex f fd)(T:E6 ω C)(mJ:mg "JOINING"=some (.ref O))(hJ:∀H,aP ω H O [.str "&",.str "^",.str "|"])(GK:Mt P w ω mg base C jf 2 [hZ] (spKnown C))(GJ:Fn P w ω mg base "joined" 1 [jI,jQ,iS] spJn)(GP:g9 P w ω mg base j5 4 [iy,lT,jy] (spPN C cB)):aE P w ω mg base (cz P w) 5 f fd [iy,jm,jy] (spNo C cB):=by
 obtain⟨fJ,dJ,GJ,mJn,kJ,bJ⟩:=GJ.ex;obtain⟨fP,dP,GP,mP,kP,bP⟩:=GP.ex;obtain⟨fK,dK,GK,mK,bK⟩:=GK.ex;refine F.n scNo λvs H Q E h=>?_;obtain⟨k,l,t,S,o,n,r,rfl,KA,hT,hl,h400,G,q⟩:=h;refine⟨zJ,λae A j s hr=>?_⟩;have nd:=scNo.nd
 refine⟨_,AC (Ab (i:=3) nd zJ (Or.inl zJ) (A5 AG))
  (AC (Bw PassesOwn.leaving rfl (Bh (pv 1)) (AU (i:=4) nd rfl (Or.inl rfl))
   (AB (AY (AK As (pv 4) AL (AN _))
    (AB (Bd (AZ CD (BV (pv 0) T.cl mK GK (hr.mono qc) bK .nil AT) (Cu Kl (An (Ak ω rfl) (pv 3) (Cu Cw AF) (λ_ _=>rfl)))) (Kj (pv 3) (Cu Cw AF) Fy)))
    (AB (AY (AK Er (pv 4) (BJ (v:=.ref O) rfl mJ rfl) rfl)
     (AC (Ab (i:=5) nd rfl (Or.inl rfl) (EO plainAttrs_list slot_list_pop type_list_pop FK (pv 3)))
     (AB (Bd (AO GJ (hr.mono qc) rfl mJn kJ bJ .nil AT (AA (pv 4) (AA (An (Ak ω rfl) (pv 3) (Cu Cw AF) (λ_ _=>rfl)) (AA (pv 5) AG)))) (Kj (pv 3) (Cu Cw AF) Fy))))
     (AB (Ae (Bn plainAttrs_list PySem.F.slot_list_append PySem.F.type_list_append Au (pv 3) (AA (AO GP hr rfl mP kP bP .nil (ES (P:=P) (w:=w) (ω:=ω) (mg:=mg) (base:=base) (N:=NNo) (qual:=kQ) (scope:=defScope Ex) (f:=f) (cd:=ae) (A:=A) (outer:=j) (s:=s) (H:=H) (E:=E)) (AA (pv 0) (AA (pv 4) (AA (pv 2) AG)))) AG)))))))))
  (AB (AI (EO plainAttrs_list slot_list_pop type_list_pop FK (pv 3))))),?_⟩
 refine⟨(by simp_all),λd I=>?_⟩;have s1:=AE (aB.refl _) I (o:=HO.lst []);have h1:=aA (H:=H) (a:=d) (o:=HO.lst []);generalize upd H d (HO.lst [])=H1 at s1 h1 ⊢;refine⟨_,zJ,l,zJ,⟨_,aH.of (s1 _ _ hl)⟩,DS (λi Z L=>(∃v4 v5,Z=[some (.ref k),some (.ref l),some (.ref t),some (.ref d),v4,v5])/\aB H L/\∃h,L d=some (.lst (A0 h))/\Ev n o h (S.drop i)/\h.length<=i) ⟨⟨_,_,zJ⟩,s1,[],h1,G,Nat.zero_le _⟩ (λi Z L _ e=>aH.of (e.2.1 _ _ hl)) ?_ ?_⟩
 ·rintro i x Z L hi ⟨⟨v4,v5,rfl⟩,D,h,p,U,hle⟩;rw[z4]at hi;obtain⟨y,hy,rfl⟩:=Z6.mp hi;obtain⟨fD,ey⟩:=Z8.mp hy;rw[List.drop_eq_getElem_cons fD,ey]at U;have keep:∀{M:Hp}o,aB H M->aB H (upd M d o):=λ{M}o a b u e=>by rw[AD (AJ e I)];exact a b u e
  refine⟨_,rfl,rfl,_,rfl,?_⟩;cases U with
  |no _ _ _ W e=>
   subst e;obtain⟨n1,Y,X,n4⟩:=W.nb;rw[Zp (λz=>n4 (V.str.inj z))];refine AV ⟨_,zJ,O,_,zJ,.inr (hJ _),zJ,zJ,_,zJ,?_⟩
   have J:(if false=true then !dz (V.str y) [V.str "&",V.str "^",V.str "|"]else dz (V.str y) [V.str "&",V.str "^",V.str "|"])=false:=by
    unfold dz;simp[gu,n1,X,Ne.symm n1,Ne.symm Y,Ne.symm X]
   rw[J];exact AV ⟨_,zJ,.inl ⟨zJ,_,aH.of p⟩,_,zJ,_,zJ,_,zJ,.no k t y n r zJ (KA.same D) W (Uq.of D q)⟩
  |cons _ h' _ _ es er=>
   have bg:=es.len;cases es with
   |ng B a=>
    obtain⟨l1,l2,l3,l4,l5⟩:=E4 B a;have R:=KA.same D;obtain⟨dxk,e1,e2,ai⟩:=R.ins;refine Ah ⟨_,zJ,k,dxk,_,zJ,ai,(CT _ _ _),k,n.aD,r,zJ,R,λM s3=>?_⟩;refine⟨_,zJ,_,zJ,d,_,-1,.int a,zJ,zJ,aH.of (s3 _ _ p),l1,_,zJ,_,_,zJ,zJ,?_⟩;refine⟨_,zJ,_,zJ,d,_,-1,B.length,zJ,zJ,s3 _ _ p,l4,⟨_,_,zJ⟩,keep _ (D.trans s3),B++[kn n.aD-(kn n.aD&&&a)],?_,er,by lia⟩;rw[aA,l5];show some (HO.lst (A0 B++[V.int (Builtin.bitAnd ((Aj ((Al n.aD).map (·.1)):Nat)) (Builtin.bitNot a))]))=_;rw[JW,Do];unfold A0;rw[zR];rfl
   |bn g hg B a b=>
    obtain⟨l1,l2,l3,l4,l5⟩:=E4 (B++[a]) b;obtain⟨m1,m2,m3,m4,m5⟩:=E4 B a;rw[show decide (V.str g.s=V.str "~")=false by cases g<;>first|exact hg.elim|decide +kernel];refine AV ⟨_,zJ,O,_,zJ,.inr (hJ _),zJ,zJ,_,zJ,?_⟩;rw[TH hg];apply Ah;refine⟨_,zJ,.inl ⟨zJ,_,aH.of p⟩,d,_,.int b,zJ,zJ,p,l2,?_⟩;rw[l3];have h3:=aA (H:=L) (a:=d) (o:=HO.lst (A0 (B++[a])));refine⟨_,zJ,_,zJ,_,zJ,d,_,-1,.int a,zJ,zJ,aH.of h3,m1,_,zJ,g,a,b,zJ,hg,_,zJ,_,zJ,d,_,-1,B.length,zJ,zJ,h3,m4,⟨_,_,zJ⟩,keep _ (keep _ D),B++[g.f a b],?_,er,by lia⟩;rw[aA];unfold A0
    simp_all
   |wd _ W _=>
    obtain⟨n1,Y,X,n4⟩:=W.nb;rw[Zp (λz=>n4 (V.str.inj z))];refine AV ⟨_,zJ,O,_,zJ,.inr (hJ _),zJ,zJ,_,zJ,?_⟩
    have J:(if false=true then !dz (V.str y) [V.str "&",V.str "^",V.str "|"]else dz (V.str y) [V.str "&",V.str "^",V.str "|"])=false:=by
     unfold dz;simp[gu,Y,Ne.symm n1,Ne.symm Y,Ne.symm X]
    rw[J];refine AV ⟨_,zJ,.inl ⟨zJ,_,aH.of p⟩,_,zJ,_,zJ,_,zJ,.mk k t y n r zJ (KA.same D) (aB.rd D hT) W λM s3=>?_⟩;refine⟨d,_,_,zJ,zJ,s3 _ _ p,AS (by unfold A0;grind),⟨_,_,zJ⟩,keep _ (D.trans s3),h++[wv n y],?_,er,by lia⟩;rw[aA];unfold A0
    simp_all
 ·rintro Z L ⟨⟨v4,v5,rfl⟩,D,h,p,U,_⟩;rw[AQ,List.drop_length]at U;cases U with
  |nil v e=>
   subst e;obtain⟨l1,l2,l3,l4,l5⟩:=E4 [] v;refine⟨_,zJ,.inl ⟨zJ,_,aH.of p⟩,d,_,.int v,zJ,zJ,p,zJ,q _ λb u e=>?_⟩;rw[AD (AJ e I)];exact D b u e
end
end Mk
end
section
namespace L2
open PySem
def Of{ω}{a}{xs}{g}{tt}{te}{e}{R}{σ}{h}(d:Nat->List Key->Hp->Prop)(l:d 0 [] h)(o:∀i ys H,i<=xs.length->d i ys H->aH ω H a xs)(hz:∀i ys H,d i ys H->ys.length<=1000)
  (hs:∀i x ys H,xs[i]?=some x->d i ys H->bT g tt (taS te) e σ x ys (d (i+1)) H) (j:∀ys H,d xs.length ys H->R ys H):tW (gG ω a) [] LA (bT g tt (taS te) e σ) R h:=KC d l o hz hs j
end L2
namespace Mk
open PySem L2 MK PySem.NumText
structure LtL(ns S:hA):Prop where
 nd:ns.Nodup
 so:PyProof.Rows.sortedS ns=true
 mem:∀x,x∈ns ↔ (x∈S/\BE x=true)
section
inductive spLi(vs:hK)(H:Hp)(Q:VK)(_E:XK):Prop
 |mk (l) (S) (aW:vs=[.ref l]) (aX:H l=some (.lst (S.map V.str))) (bz:S.length<=400) (bQ:(S.filter BE).length<64) (cw:∀x∈S,x.length<=200) (cX:∀p ns H',aB H H'->H' p=some (.lst (ns.map V.str))->LtL ns S->Q (.ref p) H')
def ZJ:AH [jm] [jm] (defScope Fg):=bA
def X4(F:aN ω lJ lJ Fg f fd)(B:Bl mg)(L:Fn P w ω mg base jP 1 [ig] (spLet ω)):aE P w ω mg base aS 2 f fd [jm] spLi:=by
 obtain⟨fL,dL,L,mL,kL,bL⟩:=L.ex;refine F.m ZJ λvs H Q E h=>?_;obtain⟨l,S,rfl,O,T,h64,u,q⟩:=h;refine⟨zJ,λU A M s hr=>?_⟩;refine⟨_,AB (AI (AR (LB zJ) zJ B.sorted Ey (AA (Qf [] [] (by rfl) (by simp) (by rfl) zJ (Bh (pv 0)) (λ_ _ _ _ _ _=>F8 (Ao (AO L hr zJ mL kL bL .nil AT (AA (pv 0) AG)))) (λ_ _ _ _ _ _=>pv 0)) AG))),?_⟩;refine⟨_,zJ,l,zJ,⟨_,aH.of O⟩,Of (λi r C=>C=H/\∃a:hA,r=a.map Sum.inr/\a.Nodup/\(∀x,x∈a ↔ x∈(S.take i).filter BE)/\a.length<=((S.take i).filter BE).length) ⟨zJ,[],zJ,nodup_nil,λx=>by simp,Nat.zero_le _⟩ (λi r C _ k=>by obtain⟨e,_⟩:=k;exact e ▸ aH.of O) (λi r C ⟨_,a,e,_,_,d⟩=>?_) ?_ ?_⟩
 ·grind
 ·rintro i v r C R ⟨rfl,a,rfl,G,N,d⟩;rw[z4]at R;obtain⟨y,hy,rfl⟩:=Z6.mp R;have e1:(S.take (i+1)).filter BE=(S.take i).filter BE++[y].filter BE:=by rw[z0,hy,Option.toList_some,List.filter_append]
  refine⟨_,rfl,.txt y rfl (u y (by grind)) ⟨_,rfl,?_⟩⟩;cases D:BE y with
  |false=>
   have X:[y].filter BE=[]:=by simp[D]
   exact AV ⟨zJ,a,zJ,G,by simp_all,by simp_all⟩
  |true=>
   have X:[y].filter BE=[y]:=by simp[D]
   refine Ah ⟨_,zJ,Sum.inr y,zJ,zJ,?_⟩;unfold K7;by_cases t:(Sum.inr y:Key)∈a.map Sum.inr
   ·grind
   ·rw[zN t];refine⟨y::a,zJ,zP.mpr ⟨λz=>t (zO.mpr ⟨_,z,zJ⟩),G⟩,λx=>?_,?_⟩
    ·grind
    simp_all
 ·rintro r C ⟨rfl,a,rfl,G,N,d⟩ p Y;rw[AQ,zY]at N d;refine⟨p,a,zJ,aA,by lia,λZ ns I j J=>?_⟩;refine q Z ns _ (AE (AE (aB.refl _) Y (o:=Qd P w p (a.map Sum.inr))) I) aA ⟨j.nodup_iff.mpr G,J,λx=>?_⟩
  grind
def ZK:Key->Bool|Sum.inr x=>BE x|Sum.inl _=>false
def TJ:V->Bool|.int i=>okN i|_=>false
def f6(kv:Key×V):Bool:=ZK kv.1&&TJ kv.2
structure Ph(kvs:LK):Prop where
 len:kvs.length<=1000
 key:∀kv∈kvs,∀x,kv.1=Sum.inr x->x.length<=200
 val:∀kv∈kvs,(∃i,kv.2=.int i)\/kv.2=.bl true\/kv.2=.aO
inductive spTab(K:FG)(vs:hK)(H:Hp)(Q:VK)(_E:XK):Prop
 |mk (a) (o) (kvs) (aW:vs=[.ref a]) (aX:H a=some (.cb o (.dK kvs))) (bz:Ph kvs) (bQ:∀H',aB H H'->Q (.bl (kvs.all f6)) H')
 |aO (v) (aW:vs=[v]) (aX:dH K iT H v) (bz:Q (.bl false) H)
def X5:AH [ig] [ig] (defScope JM):=bA
def Og(ω)(d:X.K=ω):aT X (.builtin iG) (λxs H Q=>(∃v T t b,xs=[v,.ty T]/\cF ω H v t/\W.kitOne ω t (.type T)=some b/\Q (.bl b) H)\/∃a o kvs,xs=[.ref a,.ty iT]/\H a=some (.cb o (.dK kvs))/\Q (.bl true) H):=d ▸ aT.or MA QW
def LZ:bootBuiltins iT=some (.type iT):=by rfl
def Wh(F:aN ω "is_table" "is_table" JM f fd)(B:Bl mg)(Z:mg iT=none)(L:Fn P w ω mg base jP 1 [ig] (spLet ω))(G:Fn P w ω mg base jC 2 [ig] (Oe ω)):aE P w ω mg base aS 3 f fd [ig] (spTab ω):=by
 obtain⟨fL,dL,L,T,kL,X⟩:=L.ex;obtain⟨fN,dN,G,mN,kN,bN⟩:=G.ex;refine F.ok X5 (λU H Q E h=>?_) (λR A N s H U Q E O h=>?_)
 ·cases h with
  |mk a o d e=>simp_all
  |aO v e=>simp_all
 ·refine⟨_,AC (AY (Aw (Ao (AR (Og ω zJ) zJ B.c9 Ef (AA (pv 0) (AA (De (v:=.ty iT) zJ Z LZ zJ) AG))))) (AB (AI DR)) AM)
   (AB (AI (AR (DY rfl) rfl B.all He (AA (GH [] [] (by rfl) (by trivial) (by rfl) (by rfl) rfl (Iq (pv 0)) (λ_ _ _ _ _ _=>BS) (λ_ _ _ _ _ _=>Ce (AO L (O.mono qc) rfl T kL X .nil AT (AA (pv 0) AG)) (Cs (AO G O rfl mN kN bN .nil AT (AA (pv 1) AG))))) AG)))),?_⟩
  cases h with
  |aO v e S k=>
   subst e;obtain⟨t,ht,Y⟩:=S.ty;exact⟨_,zJ,.inl ⟨_,_,_,false,zJ,ht,Y,_,zJ,Ah k⟩⟩
  |mk a o d e C J k=>
   subst e;refine⟨_,zJ,.inr ⟨a,o,d,zJ,C,_,zJ,AV ?_⟩⟩;refine⟨_,zJ,a,o,d,zJ,C,OU (λi y r=>aB H r/\y=((d.take i).map f6).map V.bl) ⟨aB.refl _,zJ⟩ (λi y r m=>by obtain⟨z,_⟩:=m;exact z _ _ C) (λi y r ⟨_,e⟩=>?_) ?_ ?_⟩
   ·have:=J.len;rw[e,AQ,AQ,zX]
    lia
   ·rintro i q y r p u ⟨z,rfl⟩ D;have s3:=AE (aB.refl _) D (o:=HO.tup [kV q.1,q.2]);have l:=Zr u;refine⟨p,_,zJ,aP.of aA,zJ,_,_,zJ,_,_,zJ,zJ,?_⟩
    have j:∀b,b=f6 q->aB H (upd r p (.tup [kV q.1,q.2]))/\((d.take i).map f6).map V.bl++[V.bl b]=((d.take (i+1)).map f6).map V.bl:=λb hb=>by
     refine⟨z.trans s3,?_⟩;rw[z0,u,zR,zR,hb];rfl
    obtain⟨I,val⟩:=q;cases I with
    |inl n=>
     refine⟨_,zJ,.aO (.int n) zJ (WW (by rfl)) ⟨_,zJ,AV (j _ zJ)⟩⟩
    |inr x=>
     refine⟨_,rfl,.txt x rfl (J.key _ l x rfl) ⟨_,rfl,?_⟩⟩;cases hx:BE x with
     |false=>
      refine AV (j _ ?_);show false=(BE x&&TJ val)
      simp_all
     |true=>
      have M:f6 (Sum.inr x,val)=TJ val:=by
       show(BE x&&TJ val)=TJ val;rw[hx];rfl
      refine Ah ⟨_,rfl,?_⟩;rcases J.val _ l with⟨n,e⟩|e|e
      ·subst e;exact .inl ⟨n,zJ,j _ M.symm⟩
      ·subst e;exact .inr ⟨_,zJ,.inl zJ,j _ M.symm⟩
      ·subst e;exact .inr ⟨_,zJ,.inr (WV (by rfl)),j _ M.symm⟩
   ·rintro y r ⟨z,rfl⟩ p D;rw[zY];refine⟨p,d.map f6,zJ,aH.of aA,?_⟩;rw[all_map];exact k _ (z.trans (AE (aB.refl _) D (o:=HO.lst ((d.map f6).map V.bl))))
structure X6(P:Program)(w:World)(K:FG)(mg:SV)(base:Heap)(DC bd cT:hO):Prop where
 ex:∃f fd,aE P w K mg base (cz P w) 6 f fd [i6,iR] (spSt K DC bd cT)/\mg jt=some (.ref f)/\W.keepIn K (.ref f)=true/\∃ds,Binds K fd [i6,iR] ds/\Vals [.bl true] ds
structure TK(T:hA):Prop where
 l4:T.length<=400
 l64:(T.filter BE).length<64
 sh:∀x∈T,x.length<=200
inductive RkG(C VC cR cB cN:hO)(T:hA)(kp:hO)(n:Nv)(H:Hp)(Q:VK)(E:XK):Prop
 |d4 (x) (hx:x∈T) (hl:BE x=true) (hn:Am n.kvs (Sum.inr x)=none) (q:Uq H E cN)
 |go (o) (hs:∀x∈T,BE x=true->Am n.kvs (Sum.inr x)≠none) (ev:Ev n o [] T) (q:match o with|none=>Uq H E cB|some v=>∀H1,aB H H1->spMade C VC cR [.ref kp,.int (v:Int)] H1 Q E)
inductive RkK(K:FG)(C VC cR cB cN:hO)(T:hA)(kp:hO)(n:Nv)(tv:V)(H:Hp)(Q:VK)(E:XK):Prop
 |tab (h:(dH K iT H tv)\/∃a o kvs,tv=.ref a/\H a=some (.cb o (.dK kvs))/\Ph kvs/\kvs.all f6=false) (q:Uq H E cN)
 |is (a) (o) (e:tv=.ref a) (h:H a=some (.cb o (.dK n.kvs))) (t:Ph n.kvs) (al:n.kvs.all f6=true) (g:RkG C VC cR cB cN T kp n H Q E)
inductive spRk(K:FG)(C VC cR cB cN bd cT:hO)(vs:hK)(H:Hp)(Q:VK)(E:XK):Prop
 |mk (kp) (z) (T) (tv) (n) (r) (aW:vs=[.ref kp,.str z,tv]) (aX:aQ C H kp n.aD r) (bz:z.cps.all (· < 128)=true) (bQ:z.length<=100) (cw:Rn true z (.ok T) 0 [] [] true) (cX:TK T) (eN:Rd H bd (.dK Cj)) (ff:RkK K C VC cR cB cN T kp n tv H Q E)
 |bad (kp z e tv) (aW:vs=[.ref kp,.str z,tv]) (aX:z.cps.all (· < 128)=true) (bz:z.length<=100) (bQ:Rn true z (.bad e) 0 [] [] true) (cX:Rd H bd (.dK Cj)) (eN:UqA H E cT (.int (e:Int)))
noncomputable abbrev NRk:hA:=[iy,i6,jy,jm]
def scRk:AH NRk [iy,i6,jy] (defScope DZ):=bA
def RkG.same{T}(s:aB H H')(h:RkG C VC cR cB cN T kp n H Q E):RkG C VC cR cB cN T kp n H' Q E:=by
 cases h with
 |d4 x i j l q=>exact .d4 x i j l (q.of s)
 |go o p d q=>
  refine .go o p d ?_;cases o with
  |none=>exact Uq.of s q
  |some v=>exact λe a=>q e (s.trans a)
def X7(F:aN ω kz kz DZ f fd)(B:Bl mg)(EN:cY P w ω mg base ji cN)(SO:X6 P w ω mg base DC bd cT)(GI:Fn P w ω mg base lJ 2 [jm] spLi)(GT:Fn P w ω mg base "is_table" 3 [ig] (spTab ω))(GN:g9 P w ω mg base kQ 5 [iy,jm,jy] (spNo C cB))(GM:g9 P w ω mg base "made" 6 [iy,il] (spMade C VC cR)):aE P w ω mg base (cz P w) 7 f fd [iy,i6,jy] (spRk ω C VC cR cB cN bd cT):=by
 obtain⟨fS,dS,GS,mS,kS,ds,bS,vS⟩:=SO.ex;obtain⟨fI,dI,GI,mI,kI,bI⟩:=GI.ex;obtain⟨fT,dT,GT,mT,kT,bT⟩:=GT.ex;obtain⟨fN,dN,GN,mN,kN,bN⟩:=GN.ex;obtain⟨fM,dM,GM,mM,kM,bM⟩:=GM.ex;obtain⟨fX,dX,O,GX,bX⟩:=EN.make;have mX:=EN.cls;refine F.fj scRk (λvs H Q E h=>?_) (λY A d s H vs Q E X h=>?_)
 ·cases h with
  |mk kp z T tv n r e=>simp_all
  |bad kp z a tv e=>simp_all
 ·have M:aJ 2 _:=X.mono qc;have nd:=scRk.nd;have rz:=Eu (P:=P) (w:=w) (ω:=ω) (mg:=mg) (base:=base) (N:=NRk) (qual:=kz) (scope:=defScope DZ) (f:=f) (cd:=Y) (A:=A) (outer:=d) (s:=s) (H:=H) (E:=E);have ps:=ES (P:=P) (w:=w) (ω:=ω) (mg:=mg) (base:=base) (N:=NRk) (qual:=kz) (scope:=defScope DZ) (f:=f) (cd:=Y) (A:=A) (outer:=d) (s:=s) (H:=H) (E:=E)
  refine⟨_,AC (Ab (i:=3) nd zJ (Or.inl zJ) (AO GS X zJ mS kS bS vS ps (AA (pv 1) AG)))
   (Aq (AY (Aw (Ao (AO GT (X.mono qc) rfl mT kT bT .nil AT (AA (pv 2) AG)))) (AB (C1 rz rfl O.cls (C0 O GX M rfl mX bX .nil AT (AA AL AG)))) AM)
   (Aq (AY (Aw (Ao (AR (DY rfl) rfl B.all He (AA (BW [jy] [some 2] (by rfl) (by trivial) (by rfl) rfl (Bh (AO GI M rfl mI kI bI .nil AT (AA (pv 3) AG))) (λ_ _ _ _ _ _=>BS) (λ_ _ _ _ _ _=>NY (HC (Bp X) (pv 0) (pv 1)))) AG)))) (AB (C1 rz rfl O.cls (C0 O GX M rfl mX bX .nil AT (AA AL AG)))) AM)
   (AB (AI (AO GM X rfl mM kM bM .nil ps (AA (pv 0) (AA (AO GN (X.mono qc) rfl mN kN bN .nil ps (AA (pv 0) (AA (pv 3) (AA (pv 2) AG)))) AG))))))),?_⟩
  cases h with
  |bad kp z a tv e ha j RN hB q=>
   subst e;exact⟨_,zJ,.mk z true (.bad a) zJ ha j RN hB q⟩
  |mk kp z T tv n r e KA ha j RN SP hB RK=>
   subst e;refine⟨_,zJ,.mk z true (.ok T) zJ ha j RN hB λl H1 G hl=>?_⟩;have KA1:=KA.same G;refine⟨λσ S=>∃a o,σ=[some (.ref kp),some (.str z),some (.ref a),some (.ref l)]/\aB H1 S/\S a=some (.cb o (.dK n.kvs))/\RkG C VC cR cB cN T kp n S Q E,λR hR=>?_,?_⟩
   ·cases RK with
    |tab h q=>
     rcases h with h|⟨a,o,kvs,e,h,t,al⟩
     ·exact⟨_,zJ,.aO tv zJ (h.same G) ⟨_,zJ,Ah (C7 (te:=λ_=>tC (.str "")) O.cls G q)⟩⟩
     ·subst e;refine⟨_,zJ,.mk a o kvs zJ (G _ _ h) t λS I=>⟨_,zJ,?_⟩⟩;rw[al];exact Ah (C7 (te:=λ_=>tC (.str "")) O.cls (G.trans I) q)
    |is a o e h t al g=>
     subst e;refine⟨_,zJ,.mk a o n.kvs zJ (G _ _ h) t λS I=>⟨_,zJ,?_⟩⟩;rw[al];exact AV (hR _ _ ⟨a,o,zJ,I,I _ _ (G _ _ h),g.same (G.trans I)⟩)
   rintro σ S ⟨a,o,rfl,I,ha2,RK2⟩;have hl2:=I _ _ hl;refine⟨λσ Z=>σ=[some (.ref kp),some (.str z),some (.ref a),some (.ref l)]/\aB S Z/\RkG C VC cR cB cN T kp n Z Q E/\(∀x∈T,BE x=true->Am n.kvs (Sum.inr x)≠none),λR hR=>?_,?_⟩
   ·refine⟨_,zJ,l,T,zJ,hl2,SP.l4,SP.l64,SP.sh,λp u Z s3 hp L=>?_⟩
    have bg:u.length<=1000:=by
     have h1:(u.map V.str).length<=1000:=by
      rcases Nat.lt_or_ge 1000 (u.map V.str).length with z|z
      ·exfalso;have h4:=SP.l4
       have hn:u.length<=T.length:=by
        have:∀(l:hA),l.Nodup->∀m:hA,(∀x∈l,x∈m)->l.length<=m.length:=by
         intro l;induction l with
         |nil=>simp_all
         |cons y l ih=>
          intro nd m hm;obtain⟨n1,n2⟩:=zP.mp nd;have hy:=hm y (by simp);have:=ih n2 (m.erase y) λx D=>(List.mem_erase_of_ne (λe=>n1 (by simp_all))).mpr (hm x (Zs _ D));rw[List.length_erase_of_mem hy]at this;have:=List.length_pos_of_mem hy;rw[length_cons]
          lia
        exact this u L.nd T λx D=>((L.mem x).mp D).1
       rw[AQ]at z
       lia
      ·exact z
     rwa[AQ]at h1
    refine⟨p,zJ,⟨_,aH.of hp⟩,CH (λi ys H4=>H4=Z/\ys=((u.take i).map λx=>(Am n.kvs (Sum.inr x)).isSome).map V.bl) ⟨zJ,zJ⟩ (λi ys H4 _ k=>by obtain⟨e,_⟩:=k;exact e ▸ aH.of hp) (λi ys H4 ⟨_,e⟩=>?_) ?_ ?_⟩
    ·grind
    ·rintro i v ys H4 hi ⟨rfl,rfl⟩;rw[z4]at hi;obtain⟨y,hy,rfl⟩:=Z6.mp hi;refine⟨_,zJ,_,zJ,a,_,zJ,.inl ⟨_,Sum.inr y,.inr ⟨o,s3 _ _ ha2⟩,zJ,zJ⟩,zJ,?_⟩;rw[z0,hy,zR,zR];rfl
    ·rintro ys H4 ⟨rfl,rfl⟩ p2 am;rw[AQ,zY];have U:=s3.trans (AE (aB.refl _) am (o:=HO.lst ((u.map λx=>(Am n.kvs (Sum.inr x)).isSome).map V.bl)));refine⟨p2,u.map λx=>(Am n.kvs (Sum.inr x)).isSome,zJ,aH.of aA,_,zJ,?_⟩
     have good:(∀x∈T,BE x=true->Am n.kvs (Sum.inr x)≠none)->(u.map λx=>(Am n.kvs (Sum.inr x)).isSome).all id=true:=λh=>by
      rw[all_map];refine all_eq_true.mpr λx D=>?_;obtain⟨h1,h2⟩:=(L.mem x).mp D;exact Option.isSome_iff_ne_none.mpr (h x h1 h2)
     cases id RK2 with
     |d4 x D J hn q=>
      have:(u.map λx=>(Am n.kvs (Sum.inr x)).isSome).all id=false:=by
       rw[all_map,List.all_eq_false];refine⟨x,(L.mem x).mpr ⟨D,J⟩,?_⟩;show ¬ (Am n.kvs (Sum.inr x)).isSome=true;rw[hn];decide
      rw[this];exact Ah (C7 (te:=λ_=>tC (.str "")) O.cls U q)
     |go o' hs ev q=>
      rw[good hs];exact AV (hR _ _ ⟨zJ,U,RK2.same U,hs⟩)
   rintro σ Z ⟨rfl,s3,RK3,hs⟩;have s13:=I.trans s3;cases RK3 with
   |d4 x D J hn q=>exact absurd hn (hs x D J)
   |go o' hs ev q=>
    refine⟨_,rfl,_,rfl,_,rfl,_,rfl,.mk kp l a T o' n r rfl (KA1.same s13) (.inr ⟨o,s3 _ _ ha2⟩) (s13 _ _ hl) SP.l4 ev ?_⟩;cases o' with
    |none=>exact q
    |some v=>exact q
end
def U1(i:0<w.length)(o:w.length<=6)(e:w.all DL=true):gZ lt w:=by
 refine⟨i,λk j d x a=>?_⟩
 suffices h:B3 x=true by unfold Jq;rw[h];rfl
 have l:x.length=k:=by rw[←A1,a,zX];lia
 unfold B3;rw[a,Zm (by lia),Zm (by lia)];refine all_eq_true.mpr λc p=>all_eq_true.mp e c (by grind)
noncomputable abbrev dg(m:Nat):List Nat:=(Nat.toDigits 10 m).map Char.toNat
def Pi(h:¬ m<10):dg m=dg (m/10)++dg (m%10):=by
 have t:Nat.toDigits 10 (m/10)++Nat.toDigits 10 (m%10)=Nat.toDigits 10 (10*(m/10)+m%10):=Nat.toDigits_append_toDigits qc (by lia) (Nat.mod_lt m qc)
 grind
def La(h:m<10):dg m=[m+48]:=by
 show(Nat.toDigits 10 m).map Char.toNat=_;rw[Nat.toDigits_of_lt_base h];have:∀d,d<10->[(Nat.digitChar d)].map Char.toNat=[d+48]:=by decide
 exact this m h
def Pj(m)(h:0<m):∃c r,dg m=c::r/\c≠48:=by
 induction m using Nat.strongRecOn with
 |_ m d=>
  by_cases a:m<10
  ·exact⟨m+48,[],La a,by lia⟩
  ·obtain⟨c,r,e,i⟩:=d (m/10) (by lia) (by lia);exact⟨c,r++dg (m%10),by rw[Pi a,e];rfl,i⟩
def Oh(m):(dg m).all Cn=true:=by
 induction m using Nat.strongRecOn with
 |_ m d=>
  by_cases a:m<10
  ·rw[La a];simp[Cn]
   lia
  ·rw[Pi a,List.all_append,d (m/10) (by lia),d (m%10) (by lia)];rfl
def TL(l)(k):digitsVal (l.take k)<=digitsVal l:=by
 have e:∀(r:List Nat)a b,a<=b->a<=r.foldl (λacc c=>acc*10+(c-48)) b:=λr=>by
  induction r with
  |nil=>simp
  |cons c r d=>exact λa b h=>d a _ (by lia)
 unfold digitsVal
 conv=>rhs;rw[←List.take_append_drop k l,List.foldl_append]
 simp_all
def Wi(h:n<1099511627776):gZ lt (dg n):=by
 have j:0<(dg n).length:=by
  by_cases l:n<10
  ·rw[La l];simp
  ·obtain⟨c,r,e,_⟩:=Pj n (by lia)
   simp_all
 refine⟨j,λk q a x i=>?_⟩;have d:x.cps.toList.all Cn=true:=by rw[i];exact all_eq_true.mpr λc p=>all_eq_true.mp (Oh n) c (by grind)
 suffices h:LU x=true by unfold Jq;rw[h];cases B3 x<;>rfl
 unfold LU;rw[d,Bool.true_and,Bool.or_eq_true,decide_eq_true_eq,Bool.and_eq_true,decide_eq_true_eq,Bool.not_eq_true'];rcases Nat.eq_zero_or_pos n with rfl|o
 ·refine .inl (LV ?_);rw[i];have:k=1:=by rw[La qc]at a;simp at a;lia
  subst this;decide +kernel
 ·obtain⟨c,r,e,p⟩:=Pj n o;refine .inr ⟨?_,?_⟩
  ·cases k with
   |zero=>lia
   |succ k=>simp_all
  ·rw[i];exact Nat.lt_of_le_of_lt (TL _ _) (by rwa[show digitsVal (dg n)=n from W.KIN.val_back n])
structure Wd(n:Nv)(x:Str)(v:Nat):Prop where
 ok:WdOk n x
 pw:∀lt,BE x=false\/lt=true->gZ lt x.cps.toList
 v:wv n x=v
 len:x.length<=13
def Pk(h:∀c∈x.cps.toList,c<97):BE x=false:=by
 unfold BE;cases e:x.cps.toList with
 |nil=>rfl
 |cons a r=>
  cases r with
  |cons b r=>rfl
  |nil=>
   have:=h a (by simp_all);unfold C9
   lia
def Pl(D:DF n.aD)(d:p∈n.aD):Wd n p.1 p.2/\p.1.length<=6/\BE p.1=false:=by
 obtain⟨a,j,_⟩:=D.nm p d;have e:=a;unfold B3 at e;simp only[Bool.and_eq_true,decide_eq_true_eq]at e;obtain⟨⟨q,l⟩,i⟩:=e;have sl:=A1 p.1
 have h:=Pk λc o=>by
  have:=all_eq_true.mp i c o;simp[DL]at this
  lia
 refine⟨⟨⟨j,by lia,by lia,.inr (.inl ⟨h,a,zO.mpr ⟨_,d,zJ⟩⟩)⟩,λlt _=>U1 (by lia) (by lia) i,?_,by lia⟩,l,h⟩;unfold wv;rw[h,zM a];exact C6 D.nd d
noncomputable abbrev Gw(n:Nat):Str:=Str.ofString (toString ((n:Nat):Int))
def Pm(n):(Gw n).cps.toList=dg n:=by
 show(Str.ofString (toString (Int.ofNat n))).cps.toList=_;rw[PyProof.Rows.text_ofNat]
def Lb{v}(h:v<2^40):Wd n (Gw v) v/\BE (Gw v)=false:=by
 have e:=Pm v;have o:=Oh v;have l:∀lt,gZ lt (dg v):=λlt=>Wi (by lia);have sl:=A1 (Gw v)
 have t:(dg v).length<=13:=by
  rw[AQ];exact toDigits_len_pow qc qc (by lia)
 rw[e]at sl;have p:=(l true).ne
 have d:∀c∈(Gw v).cps.toList,48<=c/\c<=57:=λc j=>by
  rw[e]at j;have:=all_eq_true.mp o c j;simpa[Cn]using this
 have a:BE (Gw v)=false:=Pk λc j=>by grind
 have i:B3 (Gw v)=false:=by
  unfold B3
  have:(Gw v).cps.toList.all DL=false:=by
   cases q:(Gw v).cps.toList with
   |nil=>simp_all
   |cons c r=>
    have:=d c (by grind);simp[DL]
    lia
  rw[this,Bool.and_false]
 refine⟨⟨⟨?_,by lia,by lia,.inr (.inr ⟨a,i,d⟩)⟩,λlt _=>by rw[e];exact l lt,?_,by lia⟩,a⟩
 ·grind
 ·unfold wv;rw[a,i,e];exact W.KIN.val_back v
def Lc{c}(i:C9 c=true)(h:Am n.kvs (Sum.inr ⟨#[c]⟩)=some (.int (n.tb ⟨#[c]⟩:Nat))):Wd n ⟨#[c]⟩ (n.tb ⟨#[c]⟩):=by
 have e:BE ⟨#[c]⟩=true:=i;have l:97<=c/\c<=122:=by simpa[C9]using i
 refine⟨⟨?_,(by show 0<1;decide),(by show 1<=200;decide),.inl ⟨e,h⟩⟩,λlt d=>?_,?_,(by show 1<=13;decide)⟩
 ·grind
 ·rcases d with z|rfl
  ·rw[e]at z;cases z
  ·refine⟨(by simp),λk o a x j=>?_⟩
   have:k=1:=by
    have:k<=1:=a
    lia
   subst this
   have:BE x=true:=by
    unfold BE
    rwa[j]
   unfold Jq;rw[this];cases B3 x<;>cases LU x<;>rfl
 ·unfold wv
  simp_all
inductive LT
 |nm (x:Str)
 |no (n:Nat)
 |le (c:Nat)
 |ng (t:LT)
 |bn (g:Sg) (a b:LT)
noncomputable def LT.tr:LT->Tr
 |.nm x=>.wd x
 |.no n=>.wd (Gw n)
 |.le c=>.wd ⟨#[c]⟩
 |.ng t=>.ng t.tr
 |.bn g a b=>.bn g a.tr b.tr
noncomputable def LT.ht:LT->Nat
 |.nm _=>0
 |.no _=>0
 |.le _=>0
 |.ng t=>t.ht+1
 |.bn _ a b=>max a.ht b.ht+1
def LT.Ok(ws:hA)(sg:List Nat):LT->Prop
 |.nm x=>x∈ws
 |.no n=>n<2^20
 |.le c=>c∈sg
 |.ng t=>t.Ok ws sg
 |.bn g a b=>g.cH/\a.Ok ws sg/\b.Ok ws sg
def dc(H:Hp):V->LT->Prop
 |v,.nm x=>∃p,v=.ref p/\H p=some (.tup [.str ij,.str x])
 |v,.no n=>∃p,v=.ref p/\H p=some (.tup [.str il,.int (n:Int)])
 |v,.le c=>∃p,v=.ref p/\H p=some (.tup [.str ly,.str ⟨#[c]⟩])
 |v,.ng t=>∃p u,v=.ref p/\H p=some (.tup [.str "~",u])/\dc H u t
 |v,.bn g a b=>∃p u1 u2,v=.ref p/\H p=some (.tup [.str g.s,u1,u2])/\dc H u1 a/\dc H u2 b
def dc.aV(s:aU H H'):∀{t}{v},dc H v t->dc H' v t
 |.nm x,v,h=>by
  obtain⟨p,e,h⟩:=h;exact⟨p,e,s _ _ h⟩
 |.no n,v,h=>by
  obtain⟨p,e,h⟩:=h;exact⟨p,e,s _ _ h⟩
 |.le c,v,h=>by
  obtain⟨p,e,h⟩:=h;exact⟨p,e,s _ _ h⟩
 |.ng t,v,h=>by
  obtain⟨p,u,e,h,a⟩:=h;exact⟨p,u,e,s _ _ h,a.aV s⟩
 |.bn g a b,v,h=>by
  obtain⟨p,d,i,e,h,x,y⟩:=h;exact⟨p,d,i,e,s _ _ h,x.aV s,y.aV s⟩
def aK.tt{x y}(a:H d=some (.lst [.int x,.int y]))(s:aK d H H'):aU H H':=λb h e=>s.old _ _ e (Ol e a λz=>nomatch z)
def Gx{H:L2.Hp}{e:hA}(h:H d=some (.lst [.int x,.int y]))(hw:H wl=some (.lst (e.map V.str)))(i:0<e.length):wl≠d:=Ol hw h λz=>by
 cases e with
 |nil=>simp_all
 |cons a r=>simp_all
section
noncomputable abbrev Jb:hA:=[ia,jg,kh,"_law_deep"]
inductive spTree(D:Nat)(vs:hK)(H:Hp)(Q:VK)(_E:XK):Prop
 |mk (d wl) (a b) (ws) (sg) (aW:vs=[.ref d,.ref wl,.str sg,.int (D)]) (aX:H d=some (.lst [.int a,.int b])) (bz:H wl=some (.lst (ws.map V.str))) (bQ:0<ws.length) (cw:ws.length<=10) (z_s:sg.length<=10)
  (cX:∀v t H',aK d H H'->dc H' v t->t.Ok ws sg.cps.toList->t.ht<=D->Q v H')
inductive tNum(D:IV)(σ:St)(H:Hp):Prop
 |mk (d) (x y) (e:σ[0]?=some (some (.ref d))) (hd:H d=some (.lst [.int x,.int y])) (k:∀(n:Nat)p H',aK d H H'->H' p=some (.tup [.str il,.int (n)])->n<2^20->D.rt (.ref p) H')
def VU:Nat->Sp
 |0=>λ_ _ _ _=>False
 |D+1=>spTree D
noncomputable abbrev X8:hA:=[ia,jg,kh,"_law_deep","_law_kind","_law_one"]
def scTree:AH X8 Jb (defScope Gg):=bA
def X9{st}(h:PS X st t)(hw:∀D σ H,t' D σ H->t D σ H):PS X st t':=λa s σ H D I k=>h a s σ H D I (hw D σ H k)
def NI(F:aN ω jr jr Gg f fd)(B:Bl mg)(I:Fn P w ω mg base iP 2 [ia,iO] cE)(D)(G:Fn P w ω mg base jr (2+D) Jb (VU D)):aE P w ω mg base aS (3+D) f fd Jb (spTree D):=by
 obtain⟨fR,dR,I,Y,T,X⟩:=I.ex;obtain⟨fT,dT,GT,mT,kT,bT⟩:=G.ex;have S:3+D=2+D+1:=by lia
 rw[S];refine F.m scTree λvs H Q E h=>?_;obtain⟨d,wl,a,b,ws,sg,rfl,hd,hw,h0,gS,hsg,q⟩:=h;refine⟨zJ,λae A outer s hr=>?_⟩;have u:aJ 2 _:=hr.mono (by lia);have nd:=scTree.nd
 refine⟨_,Aq (Ab (i:=4) nd zJ (Or.inl zJ) (BU (AK Hx (pv 3) AF (AN _)) (AO I u zJ Y T X .nil AT (AA (pv 0) (AA AF AG))) (AO I u zJ Y T X .nil AT (AA (pv 0) (AA AF AG)))))
  (AC (AY (AK E7 (pv 4) AF (AN _)) (AB (AI (Ai (AA AL (AA (An (Ak ω rfl) (pv 1) (AO I u rfl Y T X .nil AT (AA (pv 0) (AA (AR (A3 ω rfl) rfl B.len PySem.boot_len (AA (pv 1) AG)) AG))) (λ_ _=>rfl)) AG))))) AM)
  (Aq (AY (PW.pt (CW (AK As (pv 4) AF (AN _)) (Bc (PW.pt (CA (AK As (pv 4) AF (AN _)) (Bg (AK As (pv 2) AL (AN _)))))))) (AB (X9 (t':=tNum) (AI (Ai (AA AL (AA (An (Ak ω rfl) (A5 (AA (AO I u rfl Y T X .nil AT (AA (pv 0) (AA AF AG))) (AA (AO I u rfl Y T X .nil AT (AA (pv 0) (AA (AZ Ni AF AF) AG))) (AA (AO I u rfl Y T X .nil AT (AA (pv 0) (AA AF AG))) AG)))) (AO I u rfl Y T X .nil AT (AA (pv 0) (AA AF AG))) (λ_ _=>rfl)) AG)))) ?numH)) AM)
  (AC (AY (AK As (pv 4) AF (AN _)) (AB (AI (Ai (AA AL (AA (An Kr (pv 2) (AO I u rfl Y T X .nil AT (AA (pv 0) (AA (AR A4 rfl B.len PySem.boot_len (AA (pv 2) AG)) AG))) (λ_ _=>rfl)) AG))))) AM)
  (AC (AY (AK As (pv 4) AF (AN _)) (AB (AI (Ai (AA AL (AA (AO GT hr rfl mT kT bT .nil AT (AA (pv 0) (AA (pv 1) (AA (pv 2) (AA (AZ Bx (pv 3) AF) AG))))) AG))))) AM)
  (AC (Ab (i:=5) nd rfl (Or.inl rfl) (AO GT hr rfl mT kT bT .nil AT (AA (pv 0) (AA (pv 1) (AA (pv 2) (AA (AZ Bx (pv 3) AF) AG))))))
  (AB (AI (Ai (AA (An Kr AL (AZ Bx (pv 4) AF) (λ_ _=>rfl)) (AA (pv 5) (AA (AO GT hr rfl mT kT bT .nil AT (AA (pv 0) (AA (pv 1) (AA (pv 2) (AA (AZ Bx (pv 3) AF) AG))))) AG))))))))))),?_⟩
 case numH=>
  rintro D σ H1 ⟨d,x1,y1,e0,r,k⟩;refine⟨_,e0,d,x1,y1,9,zJ,r,qc,qc,λn1 N M n10 n11=>?_⟩;have sA:=BP (x':=N) (y':=M) r;refine⟨_,e0,_,_,zJ,zJ,⟨qc,qc,qc⟩,d,N,M,_,zJ,aA,qc,qc,λn2 a3 b3 n20 n21=>?_⟩;have sB:=BP (x':=a3) (y':=b3) (aA (H:=H1) (a:=d) (o:=.lst [.int N,.int M]));refine⟨_,e0,d,a3,b3,64,zJ,aA,qc,qc,λn3 a4 b4 n30 n31=>?_⟩;have sC:=BP (x':=a4) (y':=b4) (aA (H:=upd H1 d (.lst [.int N,.int M])) (a:=d) (o:=.lst [.int a3,.int b3]));have s4:=(sA.trans sB).trans sC;have gc:=aA (H:=upd (upd H1 d (.lst [.int N,.int M])) d (.lst [.int a3,.int b3])) (a:=d) (o:=.lst [.int a4,.int b4]);generalize upd (upd (upd H1 d (.lst [.int N,.int M])) d (.lst [.int a3,.int b3])) d (.lst [.int a4,.int b4])=H4 at s4 gc ⊢;refine⟨gk,λp C=>?_⟩;have hpd:p≠d:=Ne.symm (AJ gc C);have s5:=s4.step (AE (aB.refl _) C (o:=HO.lst [V.int n1,V.int n2,V.int n3]));have hd5:(upd H4 p (.lst [V.int n1,V.int n2,V.int n3])) d=some (.lst [.int a4,.int b4]):=by rw[AD (Ne.symm hpd)];exact gc
  have gp:=aA (H:=H4) (a:=p) (o:=HO.lst [V.int n1,V.int n2,V.int n3]);generalize upd H4 p (.lst [V.int n1,V.int n2,V.int n3])=H5 at s5 hd5 gp ⊢;refine⟨_,e0,d,a4,b4,3,zJ,hd5,qc,qc,λix a5 b5 ix0 ix1=>?_⟩;have sD:=BP (x':=a5) (y':=b5) hd5;have gP:=sD.old _ _ gp hpd;obtain⟨v,hv,x⟩:=Hl (xs:=[V.int n1,V.int n2,V.int n3]) ix0 ix1;have e20:(2:Int)^(20:Int).toNat=1048576:=by decide
  have n21':n2<1048576:=e20 ▸ n21
  obtain⟨n,rfl,hn⟩:∃n:Nat,v=V.int (n:Int)/\n<2^20:=by
   have hm:=Zr x;simp only[mem_cons,not_mem_nil,or_false]at hm;have p20:(2:Nat)^20=1048576:=by decide
   rcases hm with rfl|rfl|rfl
   ·exact⟨n1.toNat,by rw[Int.toNat_of_nonneg n10],by lia⟩
   ·exact⟨n2.toNat,by rw[Int.toNat_of_nonneg n20],by lia⟩
   ·exact⟨n3.toNat,by rw[Int.toNat_of_nonneg n30],by lia⟩
  refine⟨p,_,ix,_,zJ,zJ,aH.of gP,hv,dh,λp2 am=>?_⟩;exact k n p2 _ ((s5.trans sD).step (AE (aB.refl _) am)) aA hn
 refine⟨λσ U=>∃l:Int,σ=[some (.ref d),some (.ref wl),some (.str sg),some (.int (D:Int)),some (.int l),none]/\0<=l/\l<8/\(D=0->l<4)/\aK d H U,λR hR=>?_,?_⟩
 ·refine⟨_,zJ,_,_,zJ,zJ,_,zJ,?_⟩;refine BH (λC=>?_) (λC=>?_)
  ·have hD:(0:Int)<(D:Int):=Zv C;exact⟨_,zJ,d,a,b,8,zJ,hd,qc,qc,λl a1 b1 k0 k1=>hR _ _ ⟨l,zJ,k0,k1,λz=>absurd hD (by lia),BP hd⟩⟩
  ·exact⟨_,zJ,d,a,b,4,zJ,hd,qc,qc,λl a1 b1 k0 k1=>hR _ _ ⟨l,zJ,k0,by lia,λ_=>k1,BP hd⟩⟩
 rintro σ H1 ⟨l,rfl,k0,k8,kD,L⟩;have hw1:=L.old _ _ hw (Gx hd hw h0);obtain⟨x1,y1,r⟩:=L.b6;have hwl:(ws.map V.str).length=ws.length:=AQ _;refine⟨_,zJ,_,_,zJ,zJ,_,zJ,?_⟩;refine BH (λ_=>?_) (λh2=>?_)
 ·-- a name
  refine⟨_,zJ,_,zJ,_,zJ,wl,_,zJ,.inl (aH.of hw1),d,x1,y1,_,zJ,r,by lia,by lia,λr2 N M r20 r21=>?_⟩;have O:=BP (x':=N) (y':=M) r;have hw2:=O.old _ _ hw1 (Gx r hw1 h0);obtain⟨v,hv,x⟩:=Hl (xs:=ws.map V.str) r20 (by exact r21);rw[z4]at x;obtain⟨y,hy,rfl⟩:=Z6.mp x;refine⟨wl,_,r2,_,zJ,zJ,aH.of hw2,hv,dh,λp C=>?_⟩;exact q (.ref p) (.nm y) _ ((L.trans O).step (AE (aB.refl _) C)) ⟨p,zJ,aA⟩ (Zr hy) (Nat.zero_le _)
 have hk2:¬ l<2:=λz=>h2 (Zm z);refine⟨λσ U=>σ=[some (.ref d),some (.ref wl),some (.str sg),some (.int (D:Int)),some (.int l),none]/\U=H1/\l≠2/\(l=3->sg≠ ""),λR hR=>?_,?_⟩
 ·have num:tNum {nx:=R,rt:=Q} [some (.ref d),some (.ref wl),some (.str sg),some (.int (D:Int)),some (.int l),none] H1:=⟨d,x1,y1,rfl,r,λn p U O C hn=>q (.ref p) (.no n) _ (L.trans O) ⟨p,rfl,C⟩ hn (Nat.zero_le _)⟩;refine⟨_,zJ,zJ,_,zJ,?_⟩;by_cases e2:l=2
  ·rw[Zm (show V.int l=V.int 2 by rw[e2])];exact Ah (Ah num)
  rw[Zp (show ¬ V.int l=V.int 2 from λz=>e2 (V.int.inj z))];refine AV ⟨_,zJ,zJ,_,zJ,?_⟩;by_cases S:l=3
  ·rw[Zm (show V.int l=V.int 3 by rw[S])];refine Ah ⟨_,zJ,zJ,_,zJ,?_⟩;by_cases es:sg=""
   ·rw[Zm (show V.str sg=V.str "" by rw[es])];exact Ah num
   ·rw[Zp (show ¬ V.str sg=V.str "" from λz=>es (V.str.inj z))];exact AV (hR _ _ ⟨zJ,zJ,e2,λ_=>es⟩)
  ·rw[Zp (show ¬ V.int l=V.int 3 from λz=>S (V.int.inj z))];exact AV (AV (hR _ _ ⟨zJ,zJ,e2,λz=>absurd z S⟩))
 rintro σ H1' ⟨rfl,rfl,e2,hs3⟩;refine⟨_,zJ,zJ,_,zJ,?_⟩;by_cases S:l=3
 ·-- a letter
  rw[Zm (show V.int l=V.int 3 by rw[S])]
  have ay:0<sg.length:=by
   rcases Nat.eq_zero_or_pos sg.length with z|z
   ·exfalso;refine hs3 S (LV ?_);have:=A1 sg;rw[z]at this;rw[List.length_eq_zero_iff.mp this];decide +kernel
   ·exact z
  refine Ah ⟨_,zJ,_,zJ,_,zJ,sg,zJ,Nat.le_of_lt (AS (by lia)),d,x1,y1,_,zJ,r,by lia,by lia,λr2 N M r20 r21=>?_⟩;have O:=BP (x':=N) (y':=M) r;obtain⟨j,rfl⟩:∃j:Nat,r2=(j:Int):=⟨r2.toNat,by lia⟩;have hj:j<sg.cps.toList.length:=by rw[A1];lia
  obtain⟨c,x⟩:∃c,sg.cps.toList[j]?=some c:=⟨_,Z7 hj⟩;have hv:=BR x;refine⟨sg,(j:Int),c,zJ,zJ,Nat.le_of_lt (AS (by lia)),hv,dh,λp C=>?_⟩;exact q (.ref p) (.le c) _ ((L.trans O).step (AE (aB.refl _) C)) ⟨p,zJ,aA⟩ (Zr x) (Nat.zero_le _)
 rw[Zp (show ¬ V.int l=V.int 3 from λz=>S (V.int.inj z))];refine AV ?_
 obtain⟨J,rfl⟩:∃J,D=J+1:=by
  cases D with
  |zero=>have:=kD rfl;lia
  |succ J=>exact⟨J,rfl⟩
 have eD:((J+1:Nat):Int)-1=(J:Int):=by lia
 have step:∀{H2:Hp}{vs:hK}{Q:VK}{E:XK},aK d H H2->vs=[.ref d,.ref wl,.str sg,.int (((J+1:Nat):Int)-1)]->(∀v t U,aK d H2 U->dc U v t->t.Ok ws sg.cps.toList->t.ht<=J->Q v U)->VU (J+1) vs H2 Q E:=λ{H2 vs Q E}O e k=>by
  obtain⟨x2,y2,Z⟩:=O.b6;exact⟨d,wl,x2,y2,ws,sg,by rw[e,eD],Z,O.old _ _ hw (Gx hd hw h0),h0,gS,hsg,k⟩
 refine⟨_,zJ,zJ,_,zJ,?_⟩;by_cases e4:l=4
 ·rw[Zm (show V.int l=V.int 4 by rw[e4])];refine Ah ⟨_,zJ,_,zJ,_,zJ,_,zJ,_,_,zJ,zJ,step L zJ λv t H2 s2 lt ok ht=>⟨dh,λp C=>?_⟩⟩;have sp:=AE (aB.refl _) C (o:=HO.tup [V.str "~",v]);exact q (.ref p) (.ng t) _ ((L.trans s2).step sp) ⟨p,v,zJ,aA,lt.aV (aU.of sp)⟩ ok (Nat.succ_le_succ ht)
 rw[Zp (show ¬ V.int l=V.int 4 from λz=>e4 (V.int.inj z))];refine AV ⟨_,zJ,_,zJ,_,zJ,_,zJ,_,_,zJ,zJ,step L zJ λv1 t1 H2 s2 lt1 ok1 ht1=>?_⟩
 obtain⟨g,hg,hat⟩:∃g:Sg,g.cH/\eM ("|^&":Str).cps.toList (l-5)=some g.c:=by
  have:l=5\/l=6\/l=7:=by lia
  rcases this with rfl|rfl|rfl
  ·exact⟨.or,True.intro,qb⟩
  ·exact⟨.xo,True.intro,qb⟩
  ·exact⟨.an,True.intro,qb⟩
 refine⟨_,zJ,_,_,zJ,zJ,"|^&",l-5,g.c,zJ,zJ,gk,hat,_,zJ,_,zJ,_,zJ,_,zJ,_,zJ,_,_,zJ,zJ,step (L.trans s2) zJ λv2 t2 H3 s3 lt2 ok2 ht2=>⟨gk,λp C=>?_⟩⟩;obtain⟨x2,y2,Z⟩:=s2.b6;rw[LX];have sp:=AE (aB.refl _) C (o:=HO.tup [V.str g.s,v1,v2]);exact q (.ref p) (.bn g t1 t2) _ (((L.trans s2).trans s3).step sp) ⟨p,v1,v2,zJ,aA,(lt1.aV (aK.tt Z s3)).aV (aU.of sp),lt2.aV (aU.of sp)⟩ ⟨hg,ok1,ok2⟩ (by show max t1.ht t2.ht+1<=J+1;lia)
def Pn(F:aN ω jr jr Gg f fd)(B:Bl mg)(m:mg jr=some (.ref f))(b:Binds ω fd Jb [])(a:Fn P w ω mg base iP 2 [ia,iO] cE):∀D,aE P w ω mg base aS (3+D) f fd Jb (spTree D)
 |0=>NI F B a 0 ⟨⟨f,fd,F.ok scTree (λi H Q E h=>h.elim) (λe A d s H i Q E j h=>h.elim),m,F.kp,b⟩⟩
 |D+1=>NI F B a (D+1) ⟨⟨f,fd,by have:=Pn F B m b a D;rw[show 3+D=2+(D+1) by lia]at this;exact this,m,F.kp,b⟩⟩
end
end Mk
end
section
namespace L2
open PySem
def Po{st}(a:PSw X st t)(d:d7 X rest u):d7 X (st::rest) (Xk t u):=⟨Aq a.h d.h⟩
end L2
namespace Mk
open PySem L2 MK PySem.NumText
structure NW(x:Str):Prop where
 pw:gZ true x.cps.toList
 as:x.cps.all (· < 128)=true
 l6:x.length<=6
 sm:∀c∈x.cps.toList,c<97
noncomputable def lb:Nat->Nat
 |0=>14
 |h+1=>2*lb h+5
def VW:∀D,D<=5->lb D<=603:=by decide
def TM:∀D,14<=lb D
 |0=>zV _
 |h+1=>by have:=TM h;show 14<=2*lb h+5;lia
def CV(x y:Str):(x++y).cps.toList=x.cps.toList++y.cps.toList:=by
 show(x.cps++y.cps).toList=_
 simp_all
def BZ(x y:Str):(x++y).length=x.length+y.length:=by rw[←A1,CV,z7,A1,A1]
def DI{x y:Str}(h:x.cps.all (· < 128)=true)(h':y.cps.all (· < 128)=true):(x++y).cps.all (· < 128)=true:=by
 rw[←Array.all_toList]at h h' ⊢;rw[CV,List.all_append,h,h'];rfl
structure BlS(x:Str):Prop where
 bk:Bk x.cps.toList
 as:x.cps.all (· < 128)=true
 l1:x.length<=1
def ZL:BlS "":=⟨.inl (by rfl),qb,by trivial⟩
def ZM:BlS " ":=⟨.inr (by rfl),qb,by trivial⟩
def NoL:LT->Prop
 |.nm _=>False
 |.no _=>False
 |.le _=>False
 |_=>True
noncomputable def TN:LT->Nat
 |.ng _=>3
 |.bn g _ _=>g.b-1
 |_=>0
section
noncomputable abbrev Oi:hA:=[ia,iX,"_law_rank"]
inductive spWrt(D:Nat)(vs:hK)(H:Hp)(Q:VK)(_E:XK):Prop
 |mk (d) (a b) (v) (t) (ws) (sg) (r:Nat) (aW:vs=[.ref d,v,.int (r)]) (aX:H d=some (.lst [.int a,.int b])) (bz:dc H v t) (bQ:t.Ok ws sg) (cw:t.ht<=D) (cX:r<=3) (eN:D<=5) (ff:∀x∈ws,NW x) (z_s:∀c∈sg,C9 c=true)
  (z_8:∀z H',aK d H H'->Wr true t.tr r z.cps.toList->z.cps.all (· < 128)=true->z.length<=lb D->Q (.str z) H')
def Wj:Nat->Sp
 |0=>λ_ _ _ _=>False
 |D+1=>spWrt D
noncomputable abbrev ZN:hA:=[ia,iX,"_law_rank","_law_blank","_law_own",kg]
def scWrt:AH ZN Oi (defScope DD):=bA
noncomputable abbrev U2:LK:=[((Sum.inr "|":Key),.int 0),(Sum.inr "^",.int 1),(Sum.inr "&",.int 2),(Sum.inr "~",.int 3)]
def Wk{g:Sg}(h:g.cH):Am (Dj [] U2) (Sum.inr g.s:Key)=some (.int ((g.b-1:Nat):Int)):=by cases g<;>first|trivial|rfl
def own_no:Am (Dj [] U2) (Sum.inr "~":Key)=some (.int ((3:Nat):Int)):=by rfl
def Pp(F:aN ω iZ iZ DD f fd)(B:Bl mg)(GR:Fn P w ω mg base iP 2 [ia,iO] cE)(D)(G:Fn P w ω mg base iZ (2+D) Oi (Wj D)):aE P w ω mg base aS (3+D) f fd Oi (spWrt D):=by
 obtain⟨fR,dR,GR,mR,kR,bR⟩:=GR.ex;obtain⟨fT,dT,GT,mT,kT,bT⟩:=G.ex;have e3:3+D=2+D+1:=by lia
 rw[e3];refine F.m scWrt λvs H Q E h=>?_;obtain⟨d,a,b,v,t,ws,sg,r,rfl,hd,lt,ok,ht,hr3,hD5,hW,X,q⟩:=h;refine⟨zJ,λae A outer s hr=>?_⟩;have hu:=Bp hr;have eX:aJ 2 _:=hr.mono (by lia);have nd:=scWrt.nd;have hlb:=VW D hD5
 refine⟨_,d7.h (Po (KN (i:=3) nd zJ (Or.inl zJ) (FU UQ (.mk AL) (.mk (BG G7 zJ B.int Hg (AA (Ck As (cU.h (FV GR eX zJ mR kR bR .nil AT (Br (.mk (pv 0)) (Br (.mk AF) IE)))) AF (AN _)) AG)))))
  (Po (OD (.mk (AK Er (cU.h (Dm (Ad ω rfl) (.mk (pv 1)) (.mk AF) (λ_ _=>rfl))) (Ai (AA AL (AA AL (AA AL AG)))) rfl)) (FB (.mk (AI (cU.h (FU Be (.mk (pv 3)) (.mk (BG (aT.or Km K5) rfl B.str Ft (AA (cU.h (Dm (Ad ω rfl) (.mk (pv 1)) (.mk AF) (λ_ _=>rfl))) AG)))))))) HH)
  (Po (KN (i:=4) nd rfl (Or.inl rfl) (.mk (Av hu (O0 (Ca AL AF (Ca AL AF (Ca AL AF (Ca AL AF Oz)))) rfl rfl qc qc) (cU.h (Dm (Ad ω rfl) (.mk (pv 1)) (.mk AF) (λ_ _=>rfl))) (λ_ _=>rfl))))
  (Po (OD (.mk (AK As (cU.h (Dm (Ad ω rfl) (.mk (pv 1)) (.mk AF) (λ_ _=>rfl))) AL (AN _)))
   (FB (KN (i:=5) nd rfl (Or.inl rfl) (FU Be (.mk AL) (FV GT hr rfl mT kT bT .nil AT (Br (.mk (pv 0)) (Br (Dm (Ad ω rfl) (.mk (pv 1)) (.mk AF) (λ_ _=>rfl)) (Br (.mk AF) IE)))))))
   (FB (KN (i:=5) nd rfl (Or.inl rfl) (FU Be (FU Be (FU Be (FV GT hr rfl mT kT bT .nil AT (Br (.mk (pv 0)) (Br (Dm (Ad ω rfl) (.mk (pv 1)) (.mk AF) (λ_ _=>rfl)) (Br (.mk (pv 4)) IE)))) (.mk (pv 3))) (Dm (Ad ω rfl) (.mk (pv 1)) (.mk AF) (λ_ _=>rfl))) (FV GT hr rfl mT kT bT .nil AT (Br (.mk (pv 0)) (Br (Dm (Ad ω rfl) (.mk (pv 1)) (.mk AF) (λ_ _=>rfl)) (Br (FU CC (.mk (pv 4)) (.mk AF)) IE))))))))
  (FB (.mk (AI (cU.h (VM (.mk (PW.pt (CW (AK E7 (pv 4) (pv 2) (AN _)) (Bc (AK As (cU.h (FV GR eX rfl mR kR bR .nil AT (Br (.mk (pv 0)) (Br (.mk AF) IE)))) AF (AN _)))))) (FU Be (FU Be (FU Be (.mk (pv 3)) (.mk AL)) (.mk (pv 5))) (.mk AL)) (.mk (pv 5))))))))))),?_⟩
 refine⟨λS H'=>∃I:Str,S=[some (.ref d),some v,some (.int (r:Int)),some (.str I),none,none]/\BlS I/\aK d H H',λR N=>?_,?_⟩
 ·refine⟨_,zJ,d,a,b,6,zJ,hd,qc,qc,λk a1 b1 k0 k1=>⟨zJ,?_⟩⟩;refine .inr ⟨_,zJ," ",_,zJ,zJ,?_⟩;cases decide (V.int k=V.int 0)with
  |true=>exact .inr ⟨rfl,N _ _ ⟨" ",rfl,ZM,BP hd⟩⟩
  |false=>exact .inl ⟨rfl,N _ _ ⟨"",rfl,ZL,BP hd⟩⟩
 rintro S H1 ⟨I,rfl,C,s1⟩;have M:=lt.aV (aK.tt hd s1);obtain⟨x1,y1,gq⟩:=s1.b6
 have J:∀{x:Str}{H2:Hp},aK d H H2->gZ true x.cps.toList->x.cps.all (· < 128)=true->x.length<=13->(t.tr=.wd x)->I.length+x.length<=sizeLine/\Q (.str (I++x)) H2:=λ{x H2}s2 pw as l13 e=>by
  have l1:=C.l1;have:=TM D;refine⟨Nat.le_of_lt (AS (by lia)),q _ _ s2 ?_ (DI C.as as) (by rw[BZ];lia)⟩;rw[e,CV];exact .wd x r _ C.bk pw
 refine⟨λS H'=>S=[some (.ref d),some v,some (.int (r:Int)),some (.str I),none,none]/\NoL t/\aK d H H',λR N=>?_,?_⟩
 ·have sa:∀{tp},H1 tp=none->aB H1 (upd H1 tp (.tup [V.str ij,V.str il,V.str ly])):=λl=>AE (aB.refl _) l;cases t with
  |nm x=>
   obtain⟨p,rfl,y⟩:=M;have nw:=hW x ok;have l6:=nw.l6;refine⟨_,zJ,p,_,0,.str ij,zJ,zJ,aP.of y,zJ,(by trivial),λtp l=>⟨tp,_,zJ,.inr (aP.of aA),zJ,zJ,_,zJ,?_⟩⟩;refine Ah ⟨_,zJ,_,zJ,p,_,1,.str x,zJ,zJ,aP.of (sa l _ _ y),zJ,.inr ⟨x,zJ,?_⟩⟩;obtain⟨h1,h2⟩:=J (s1.step (sa l)) nw.pw nw.as (by lia) rfl
   simp_all
  |no n=>
   obtain⟨p,rfl,y⟩:=M;have n40:n<2^40:=Nat.lt_trans ok qc;have fw:=(Lb (n:=⟨[],[],λ_=>0⟩) n40).1;refine⟨_,zJ,p,_,0,.str il,zJ,zJ,aP.of y,zJ,(by trivial),λtp l=>⟨tp,_,zJ,.inr (aP.of aA),zJ,zJ,_,zJ,?_⟩⟩;refine Ah ⟨_,zJ,_,zJ,p,_,1,.int (n:Int),zJ,zJ,aP.of (sa l _ _ y),zJ,.inl ⟨(n:Int),zJ,Hn n40,?_⟩⟩;obtain⟨h1,h2⟩:=J (x:=Gw n) (s1.step (sa l)) (fw.pw true (.inr rfl)) fw.ok.as fw.len rfl
   grind
  |le c=>
   obtain⟨p,rfl,y⟩:=M;have lw:=Lc (n:=⟨[],[(Sum.inr ⟨#[c]⟩,.int ((0:Nat):Int))],λ_=>0⟩) (X c ok) (by simp[Am]);refine⟨_,zJ,p,_,0,.str ly,zJ,zJ,aP.of y,zJ,(by trivial),λtp l=>⟨tp,_,zJ,.inr (aP.of aA),zJ,zJ,_,zJ,?_⟩⟩;refine Ah ⟨_,zJ,_,zJ,p,_,1,.str ⟨#[c]⟩,zJ,zJ,aP.of (sa l _ _ y),zJ,.inr ⟨⟨#[c]⟩,zJ,?_⟩⟩;obtain⟨h1,h2⟩:=J (x:=⟨#[c]⟩) (s1.step (sa l)) (lw.pw true (.inr rfl)) lw.ok.as lw.len rfl
   simp_all
  |ng t'=>
   obtain⟨p,u,rfl,y,lu⟩:=M;refine⟨_,zJ,p,_,0,.str "~",zJ,zJ,aP.of y,zJ,(by trivial),λtp l=>⟨tp,_,zJ,.inr (aP.of aA),zJ,zJ,_,zJ,?_⟩⟩;exact AV (N _ _ ⟨zJ,True.intro,s1.step (sa l)⟩)
  |bn g t1 t2=>
   obtain⟨p,u1,u2,rfl,y,lu1,lu2⟩:=M;refine⟨_,zJ,p,_,0,.str g.s,zJ,zJ,aP.of y,zJ,(by trivial),λtp l=>⟨tp,_,zJ,.inr (aP.of aA),zJ,zJ,_,zJ,?_⟩⟩;rw[show(if false=true then !dz (V.str g.s) [V.str ij,V.str il,V.str ly]else dz (V.str g.s) [V.str ij,V.str il,V.str ly])=false by cases g<;>decide +kernel];exact AV (N _ _ ⟨zJ,True.intro,s1.step (sa l)⟩)
 rintro S H2 ⟨rfl,L,s2⟩;have lt2:=lt.aV (aK.tt hd s2);clear J M gq;refine⟨λS H'=>S=[some (.ref d),some v,some (.int (r:Int)),some (.str I),some (.int (TN t:Int)),none]/\aK d H H',λR N=>?_,?_⟩
 ·intro dp hdp;have sb:aB H2 (upd (upd H2 dp (.dK [])) dp (.dK (Dj [] U2))):=λb o e=>by rw[AD (AJ e hdp),AD (AJ e hdp)];exact e
  refine⟨aA,U2,rfl,qc,?_⟩;cases t with
  |nm x=>exact L.elim
  |no n=>exact L.elim
  |le c=>exact L.elim
  |ng t'=>
   obtain⟨p,u,rfl,y,lu⟩:=lt2;exact⟨_,zJ,p,_,0,.str "~",zJ,zJ,aP.of (sb _ _ y),zJ,dp,.int ((3:Nat):Int),zJ,.inl ⟨_,Sum.inr "~",.inl aA,zJ,own_no.symm⟩,N _ _ ⟨zJ,s2.step sb⟩⟩
  |bn g t1 t2=>
   obtain⟨p,u1,u2,rfl,y,lu1,lu2⟩:=lt2;exact⟨_,zJ,p,_,0,.str g.s,zJ,zJ,aP.of (sb _ _ y),zJ,dp,.int ((g.b-1:Nat):Int),zJ,.inl ⟨_,Sum.inr g.s,.inl aA,zJ,(Wk ok.1).symm⟩,N _ _ ⟨zJ,s2.step sb⟩⟩
 rintro S H3 ⟨rfl,s3⟩;have lt3:=lt.aV (aK.tt hd s3);obtain⟨x3,y3,Y⟩:=s3.b6;clear lt2 s2 s1;refine⟨λS H'=>∃T:Str,S=[some (.ref d),some v,some (.int (r:Int)),some (.str I),some (.int (TN t:Int)),some (.str T)]/\aK d H H'/\(∀r',r'<=TN t->Wr true t.tr r' T.cps.toList)/\T.cps.all (· < 128)=true/\T.length+3<=lb D,λR N=>?_,?_⟩
 ·obtain⟨Z,rfl⟩:∃Z,D=Z+1:=by
   cases D with
   |zero=>cases t with
    |nm x=>trivial
    |no n=>trivial
    |le c=>trivial
    |ng t'=>trivial
    |bn g t1 t2=>trivial
   |succ Z=>simp
  have hlb':=VW Z (by lia);have elb:lb (Z+1)=2*lb Z+5:=rfl;have l1:=C.l1;cases t with
  |nm x=>exact L.elim
  |no n=>exact L.elim
  |le c=>exact L.elim
  |ng t'=>
   obtain⟨p,u,rfl,y,lu⟩:=lt3;refine⟨_,zJ,p,_,0,.str "~",zJ,zJ,aP.of y,zJ,zJ,_,zJ,?_⟩;rw[show decide (V.str "~"=V.str "~")=true by rfl];refine Ah ⟨_,zJ,_,zJ,p,_,1,u,zJ,zJ,aP.of y,zJ,d,x3,y3,u,t',ws,sg,3,zJ,Y,lu,ok,Nat.le_of_succ_le_succ ht,qc,by lia,hW,X,λz H4 U wz az lz=>?_⟩;refine⟨"~",z,zJ,zJ,Nat.le_of_lt (AS (by rw[show("~":Str).length=1 by rfl];lia)),N _ _ ⟨"~" ++ z,zJ,s3.trans U,λr' O=>?_,DI qb az,?_⟩⟩
   ·rw[CV,show("~":Str).cps.toList=[126] by rfl];exact .ng _ r' _ O wz
   ·rw[BZ,show("~":Str).length=1 by rfl]
    lia
  |bn g t1 t2=>
   obtain⟨p,u1,u2,rfl,y,lu1,lu2⟩:=lt3;have hg1:1<=g.b:=by have:=ok.1;cases g<;>first|exact this.elim|decide
   have hg3:g.b<=3:=by have:=ok.1;cases g<;>first|exact this.elim|decide
   have hm:t1.ht<=Z/\t2.ht<=Z:=by
    have:max t1.ht t2.ht+1<=Z+1:=ht
    lia
   refine⟨_,zJ,p,_,0,.str g.s,zJ,zJ,aP.of y,zJ,zJ,_,zJ,?_⟩;rw[show decide (V.str g.s=V.str "~")=false by have:=ok.1;cases g<;>first|exact this.elim|decide +kernel];refine AV ⟨_,zJ,_,zJ,p,_,1,u1,zJ,zJ,aP.of y,zJ,_,zJ,d,x3,y3,u1,t1,ws,sg,g.b-1,zJ,Y,lu1,ok.2.1,hm.1,by lia,by lia,hW,X,λz1 H4 U wz1 az1 lz1=>?_⟩;have hp4:H4 p=_:=(aK.tt Y U) _ _ y;have lu24:=lu2.aV (aK.tt Y U);obtain⟨x4,y4,gc⟩:=U.b6;have lg:g.s.length=1:=by cases g<;>decide +kernel
   have ag:g.s.cps.all (· < 128)=true:=by cases g<;>decide +kernel
   have cg:g.s.cps.toList=[g.c]:=by cases g<;>decide +kernel
   refine⟨_,zJ,z1,I,zJ,zJ,Nat.le_of_lt (AS (by lia)),_,zJ,p,_,0,.str g.s,zJ,zJ,aP.of hp4,zJ,z1++I,g.s,zJ,zJ,Nat.le_of_lt (AS (by rw[BZ];lia)),?_⟩;refine⟨_,zJ,_,zJ,p,_,2,u2,zJ,zJ,aP.of hp4,zJ,_,zJ,_,_,zJ,zJ,d,x4,y4,u2,t2,ws,sg,g.b,?_,gc,lu24,ok.2.2,hm.2,by lia,by lia,hW,X,λz2 H5 s5 wz2 az2 lz2=>?_⟩
   ·show [V.ref d,u2,V.int (((g.b-1:Nat):Int)+1)]=[V.ref d,u2,V.int (g.b:Int)]
    grind
   refine⟨z1++I++g.s,z2,zJ,zJ,Nat.le_of_lt (AS (by rw[BZ,BZ];lia)),N _ _ ⟨_,zJ,(s3.trans U).trans s5,λr' O=>?_,DI (DI (DI az1 C.as) ag) az2,by rw[BZ,BZ,BZ];lia⟩⟩
   have e:(z1++I++g.s++z2).cps.toList=z1.cps.toList++(I.cps.toList++(g.c::z2.cps.toList)):=by
    rw[CV,CV,CV,cg];simp
   rw[e];have hr2':r'<=g.b-1:=O;exact .bn g t1.tr t2.tr r' _ _ _ ok.1 (by lia) C.bk wz1 wz2
 rintro S H4 ⟨T,rfl,U,wz,az,lz⟩;obtain⟨x4,y4,gc⟩:=U.b6;have l1:=C.l1
 have brk:∀{H5:Hp},aK d H H5->∃i j,V.str I=.str i/\V.str "("=.str j/\i.length+j.length<=sizeLine/\∃i2 j2,V.str (i++j)=.str i2/\V.str T=.str j2/\i2.length+j2.length<=sizeLine/\∃i3 j3,V.str (i2++j2)=.str i3/\V.str ")"=.str j3/\i3.length+j3.length<=sizeLine/\Q (.str (i3++j3)) H5:=λ{H5}s5=>by
  have o1:("(":Str).length=1:=by decide +kernel
  have c1:(")":Str).length=1:=by decide +kernel
  refine⟨I,"(",zJ,zJ,Nat.le_of_lt (AS (by lia)),I ++ "(",T,zJ,zJ,Nat.le_of_lt (AS (by rw[BZ];lia)),I ++ "(" ++ T,")",zJ,zJ,Nat.le_of_lt (AS (by rw[BZ,BZ];lia)),q _ _ s5 ?_ (DI (DI (DI C.as qb) az) qb) (by rw[BZ,BZ,BZ];lia)⟩
  have e:(I ++ "(" ++ T ++ ")":Str).cps.toList=I.cps.toList++(40::(T.cps.toList++[41])):=by
   rw[CV,CV,CV,show("(":Str).cps.toList=[40] by rfl,show(")":Str).cps.toList=[41] by rfl];simp
  rw[e];exact .br _ r _ _ C.bk (wz 0 (Nat.zero_le _))
 refine⟨_,zJ,_,zJ,_,_,zJ,zJ,_,zJ,?_⟩;refine BH (λ_=>?_) (λh=>?_)
 ·refine Ah ?_;obtain⟨i,j,e1,e2,e3,i2,j2,e4,e5,e6,i3,j3,e7,e8,e9,e10⟩:=brk U;exact⟨_,zJ,i,j,e1,e2,e3,_,zJ,i2,j2,e4,e5,e6,i3,j3,e7,e8,e9,e10⟩
 ·refine⟨_,zJ,d,x4,y4,6,zJ,gc,qc,qc,λk a1 b1 k0 k1=>⟨zJ,_,zJ,?_⟩⟩;have s5:=U.trans (BP (x':=a1) (y':=b1) gc);refine BH (λ_=>?_) (λ_=>?_)
  ·obtain⟨i,j,e1,e2,e3,i2,j2,e4,e5,e6,i3,j3,e7,e8,e9,e10⟩:=brk s5;exact⟨_,zJ,i,j,e1,e2,e3,_,zJ,i2,j2,e4,e5,e6,i3,j3,e7,e8,e9,e10⟩
  ·have O:r<=TN t:=by
    have:¬ ((TN t:Int)<(r:Int)):=λz=>h (Zm z)
    lia
   exact⟨_,zJ,q _ _ s5 (wz r O) az (by lia)⟩
def TQ(F:aN ω iZ iZ DD f fd)(B:Bl mg)(m:mg iZ=some (.ref f))(b:Binds ω fd Oi [])(a:Fn P w ω mg base iP 2 [ia,iO] cE):∀D,aE P w ω mg base aS (3+D) f fd Oi (spWrt D)
 |0=>Pp F B a 0 ⟨⟨f,fd,F.ok scWrt (λi H Q E h=>h.elim) (λe A d s H i Q E j h=>h.elim),m,F.kp,b⟩⟩
 |D+1=>Pp F B a (D+1) ⟨⟨f,fd,by have:=TQ F B m b a D;rw[show 3+D=2+(D+1) by lia]at this;exact this,m,F.kp,b⟩⟩
end
section
noncomputable abbrev TR:hA:=[ia,jg,kh]
inductive spForm(vs:hK)(H:Hp)(Q:VK)(_E:XK):Prop
 |mk (d wl) (a b) (ws) (sg) (aW:vs=[.ref d,.ref wl,.str sg]) (aX:H d=some (.lst [.int a,.int b])) (bz:H wl=some (.lst (ws.map V.str))) (bQ:0<ws.length) (cw:ws.length<=10) (cX:∀x∈ws,NW x) (z_s:sg.length<=10) (z_s2:∀c∈sg.cps.toList,C9 c=true)
  (eN:∀q z v t H',aK d H H'->H' q=some (.tup [.str z,v])->dc H' v t->t.Ok ws sg.cps.toList->t.ht<=3->Wr true t.tr 0 z.cps.toList->z.cps.all (· < 128)=true->z.length<=56->Q (.ref q) H')
noncomputable abbrev YA:hA:=[ia,jg,kh,iX,lU]
def scForm:AH YA TR (defScope Ee):=bA
def U3(F:aN ω kA kA Ee f fd)(B:Bl mg)(O:Fn P w ω mg base jr 6 Jb (spTree 3))(L:Fn P w ω mg base iZ 6 Oi (spWrt 3)):aE P w ω mg base aS 7 f fd TR spForm:=by
 obtain⟨fT,dT,O,mT,kT,bT⟩:=O.ex;obtain⟨fW,dW,L,mW,kW,bW⟩:=L.ex;refine F.m scForm λvs H Q E h=>?_;obtain⟨d,G,a,b,I,sg,rfl,hd,X,h0,T,hW,Y,U,q⟩:=h;refine⟨zJ,λae A Z s hr=>?_⟩;have J:=scForm.nd
 refine⟨_,AC (Ab (i:=3) J zJ (Or.inl zJ) (AO O hr zJ mT kT bT .nil AT (AA (pv 0) (AA (pv 1) (AA (pv 2) (AA AF AG))))))
  (AC (Ab (i:=4) J rfl (Or.inl rfl) (AO L hr rfl mW kW bW .nil AT (AA (pv 0) (AA (pv 3) (AA AF AG)))))
  (Aq (AY (AK Hx (AR A4 rfl B.len PySem.boot_len (AA (pv 4) AG)) AF (AN _))
   (AC (Ab (i:=3) J rfl (Or.inl rfl) (Ai (AA AL (AA (An (Ak ω rfl) (pv 1) AF (λ_ _=>rfl)) AG))))
   (AB (Ab (i:=4) J rfl (Or.inl rfl) (An (Ak ω rfl) (pv 1) AF (λ_ _=>rfl))))) AM)
  (AB (AI (Ai (AA (pv 4) (AA (pv 3) AG))))))),?_⟩
 refine⟨_,zJ,_,zJ,_,zJ,d,G,a,b,I,sg,zJ,hd,X,h0,T,Y,λv t H1 s1 j l u=>?_⟩;obtain⟨x1,y1,y⟩:=s1.b6;refine⟨_,zJ,_,zJ,d,x1,y1,v,t,I,sg.cps.toList,0,zJ,y,j,l,u,qc,qc,hW,U,λz H2 s2 wz S lz=>?_⟩;have e:=s1.trans s2;have C:=e.old _ _ X (Gx hd X h0);have hl3:lb 3=147:=by decide
 refine⟨λσ H'=>∃(z:Str)(v:V)(t:LT),σ=[some (.ref d),some (.ref G),some (.str sg),some v,some (.str z)]/\aK d H H'/\dc H' v t/\t.Ok I sg.cps.toList/\t.ht<=3/\Wr true t.tr 0 z.cps.toList/\z.cps.all (· < 128)=true/\z.length<=56,λR hR=>?_,?_⟩
 ·refine⟨_,zJ,z,zJ,Nat.le_of_lt (AS (by lia)),_,_,zJ,zJ,_,zJ,?_⟩;refine BH (λ_=>?_) (λh=>?_)
  ·cases I with
   |nil=>exact absurd h0 qc
   |cons x r=>
    have N:=hW x (by simp);have l6:=N.l6;refine⟨_,zJ,G,_,0,.str x,zJ,zJ,aH.of C,BR zJ,dh,λp M=>?_⟩;have D:=AE (aB.refl _) M (o:=HO.tup [V.str ij,V.str x]);refine⟨_,zJ,G,_,0,.str x,zJ,zJ,aH.of (D _ _ C),BR zJ,hR _ _ ⟨x,.ref p,.nm x,zJ,e.step D,⟨p,zJ,aA⟩,z8 ..,Nat.zero_le _,?_,N.as,by lia⟩⟩;have:=Wr.wd x 0 [] (.inl rfl) N.pw;exact this
  ·exact hR _ _ ⟨z,v,t,zJ,e,j.aV (aK.tt y s2),l,u,wz,S,by
    lia⟩
 rintro σ H3 ⟨z,v,t,rfl,s3,lt,ok,ht,wz,S,lz⟩;refine⟨_,zJ,_,zJ,dh,λp M=>?_⟩;have D:=AE (aB.refl _) M (o:=HO.tup [V.str z,v]);exact q p z v t _ (s3.step D) aA (lt.aV (aU.of D)) ok ht wz S lz
noncomputable abbrev Jc:hA:=[iX,kG,lG,jU]
inductive spCome(D:Nat)(vs:hK)(H:Hp)(Q:VK)(_E:XK):Prop
 |mk (v) (nu le) (t) (n:Nv) (sg) (aW:vs=[v,.ref nu,.int (kn n.aD:Int),.ref le]) (aX:dc H v t) (bz:t.Ok (n.aD.map (·.1)) sg) (z_l:Rd H le (.dK n.kvs)) (z_l2:∀c∈sg,C9 c=true/\Am n.kvs (Sum.inr ⟨#[c]⟩)=some (.int (n.tb ⟨#[c]⟩:Nat))) (bQ:t.ht<=D) (cw:H nu=some (.dK (A8 n.aD))) (cX:DF n.aD)
  (eN:Q (.int (t.tr.cv n:Nat)) H)
def TU:Nat->Sp
 |0=>λ_ _ _ _=>False
 |D+1=>spCome D
noncomputable abbrev YB:hA:=[iX,kG,lG,jU,"_law_one","_law_other"]
def scCome:AH YB Jc (defScope Gh):=bA
def Pq(d:DF n.aD)(h:x∈n.aD.map (·.1)):wv n x=look n.aD x:=by
 obtain⟨p,a,rfl⟩:=zO.mp h;rw[(Pl d a).1.v];exact(C6 d.nd a).symm
def TV(h:v<2^20):wv n (Gw v)=v:=(Lb (by lia)).1.v
def DP(d:σ[0]?=some (some (.ref p)))(e:H p=some (.tup (.str s::xs)))(a:decide (V.str s=V.str y)=false)(k:tb D σ H):Tj (Oq (gj rEq (gj (Vo ω) (Kh 0) (tC (.int 0))) (tC (.str y)))) h tb D σ H:=by
 refine⟨_,d,p,_,0,.str s,zJ,zJ,aP.of e,BR zJ,zJ,_,zJ,?_⟩;rw[a];exact AV k
def NJ(F:aN ω js js Gh f fd)(D)(G:Fn P w ω mg base js (1+D) Jc (TU D)):aE P w ω mg base aS (2+D) f fd Jc (spCome D):=by
 obtain⟨fT,dT,GT,mT,kT,bT⟩:=G.ex;have e3:2+D=1+D+1:=by lia
 rw[e3];refine F.m scCome λvs H Q E h=>?_;obtain⟨v,nu,le,t,n,sg,rfl,lt,ok,hle,hsg,ht,hn,DO,q⟩:=h;refine⟨zJ,λae A outer s hr=>?_⟩;have hu:=Bp hr;have nd:=scCome.nd
 refine⟨_,d7.h (FS (OD (.mk (AK As (cU.h (Dm (Ad ω zJ) (.mk (pv 0)) (.mk AF) (λ_ _=>rfl))) AL (AN _))) (FB (.mk (AI (Av hu (pv 1) (cU.h (Dm (Ad ω zJ) (.mk (pv 0)) (.mk AF) (λ_ _=>rfl))) (λ_ _=>rfl))))) HH)
  (FS (OD (.mk (AK As (cU.h (Dm (Ad ω rfl) (.mk (pv 0)) (.mk AF) (λ_ _=>rfl))) AL (AN _))) (FB (.mk (AI (cU.h (Dm (Ad ω rfl) (.mk (pv 0)) (.mk AF) (λ_ _=>rfl)))))) HH)
  (FS (OD (.mk (AK As (cU.h (Dm (Ad ω rfl) (.mk (pv 0)) (.mk AF) (λ_ _=>rfl))) AL (AN _))) (FB (.mk (AI (Av hu (pv 3) (cU.h (Dm (Ad ω rfl) (.mk (pv 0)) (.mk AF) (λ_ _=>rfl))) (λ_ _=>rfl))))) HH)
  (FS (KN (i:=4) nd rfl (Or.inl rfl) (FV GT hr rfl mT kT bT .nil AT (Br (Dm (Ad ω rfl) (.mk (pv 0)) (.mk AF) (λ_ _=>rfl)) (Br (.mk (pv 1)) (Br (.mk (pv 2)) (Br (.mk (pv 3)) IE))))))
  (FS (OD (.mk (AK As (cU.h (Dm (Ad ω rfl) (.mk (pv 0)) (.mk AF) (λ_ _=>rfl))) AL (AN _))) (FB (.mk (AI (cU.h (FU Bx (.mk (pv 2)) (FU CD (.mk (pv 2)) (.mk (pv 4)))))))) HH)
  (FS (KN (i:=5) nd rfl (Or.inl rfl) (FV GT hr rfl mT kT bT .nil AT (Br (Dm (Ad ω rfl) (.mk (pv 0)) (.mk AF) (λ_ _=>rfl)) (Br (.mk (pv 1)) (Br (.mk (pv 2)) (Br (.mk (pv 3)) IE))))))
  (FS (OD (.mk (AK As (cU.h (Dm (Ad ω rfl) (.mk (pv 0)) (.mk AF) (λ_ _=>rfl))) AL (AN _))) (FB (.mk (AI (cU.h (FU CD (.mk (pv 4)) (.mk (pv 5))))))) HH)
  (FB (.mk (AI (cU.h (VM (.mk (AK As (cU.h (Dm (Ad ω rfl) (.mk (pv 0)) (.mk AF) (λ_ _=>rfl))) AL (AN _))) (FU Ia (.mk (pv 4)) (.mk (pv 5))) (FU RU (.mk (pv 4)) (.mk (pv 5))))))))))))))),?_⟩
 have rec_:∀{t':LT}{u:V}{Q':VK},dc H u t'->t'.Ok (n.aD.map (·.1)) sg->t'.ht+1<=D->Q' (.int (t'.tr.cv n)) H->TU D [u,.ref nu,.int (kn n.aD),.ref le] H Q' E0:=λ{t' u Q'}l o h q'=>by
  cases D with
  |zero=>exact absurd h (by lia)
  |succ D'=>exact⟨u,nu,le,t',n,sg,rfl,l,o,hle,hsg,by lia,hn,DO,q'⟩
 cases t with
 |nm x=>
  obtain⟨p,rfl,hp⟩:=lt;refine⟨_,zJ,p,_,0,.str ij,zJ,zJ,aP.of hp,zJ,zJ,_,zJ,?_⟩;refine Ah ⟨_,zJ,_,zJ,p,_,1,.str x,zJ,zJ,aP.of hp,zJ,nu,_,zJ,.inl ⟨_,Sum.inr x,.inl hn,zJ,(Bf ok).symm⟩,?_⟩;have:(LT.nm x).tr.cv n=look n.aD x:=Pq DO ok
  rwa[this]at q
 |le c=>
  obtain⟨p,rfl,hp⟩:=lt;obtain⟨h1,h2⟩:=hsg c ok;apply DP rfl hp (by rfl);apply DP rfl hp (by rfl);refine⟨_,zJ,p,_,0,.str ly,zJ,zJ,aP.of hp,zJ,zJ,_,zJ,?_⟩;have e:(LT.le c).tr.cv n=n.tb ⟨#[c]⟩:=(Lc h1 h2).v;rw[e]at q;exact Ah ⟨_,zJ,_,zJ,p,_,1,.str ⟨#[c]⟩,zJ,zJ,aP.of hp,zJ,le,_,zJ,.inl ⟨_,Sum.inr ⟨#[c]⟩,hle,zJ,h2.symm⟩,q⟩
 |no m=>
  obtain⟨p,rfl,hp⟩:=lt;apply DP rfl hp (by rfl);refine⟨_,zJ,p,_,0,.str il,zJ,zJ,aP.of hp,zJ,zJ,_,zJ,?_⟩;have:(LT.no m).tr.cv n=m:=TV ok;rw[this]at q;exact Ah ⟨_,zJ,p,_,1,.int m,zJ,zJ,aP.of hp,zJ,q⟩
 |ng t'=>
  obtain⟨p,u,rfl,hp,lu⟩:=lt;apply DP rfl hp (by rfl);apply DP rfl hp (by rfl);apply DP rfl hp qb;refine⟨_,zJ,p,_,1,u,zJ,zJ,aP.of hp,zJ,_,zJ,_,zJ,_,zJ,rec_ lu ok ht ?_⟩;refine⟨_,zJ,p,_,0,.str "~",zJ,zJ,aP.of hp,zJ,zJ,_,zJ,?_⟩;refine Ah ⟨_,zJ,_,zJ,_,zJ,_,_,zJ,zJ,_,_,zJ,zJ,?_⟩
  have e:((kn n.aD:Nat))-Builtin.bitAnd ((kn n.aD:Nat)) ((t'.tr.cv n:Nat))=(((LT.ng t').tr.cv n:Nat)):=by
   rw[Cl];show _=((kn n.aD-(kn n.aD&&&t'.tr.cv n):Nat):Int);have:=Nat.and_le_left (n:=kn n.aD) (m:=t'.tr.cv n)
   lia
  show Q (V.int (((kn n.aD:Nat))-Builtin.bitAnd ((kn n.aD:Nat)) ((t'.tr.cv n:Nat)))) H
  rwa[e]
 |bn g t1 t2=>
  obtain⟨p,u1,u2,rfl,hp,lu1,lu2⟩:=lt;obtain⟨hg,ok1,ok2⟩:=ok
  have hm:t1.ht+1<=D/\t2.ht+1<=D:=by
   have:max t1.ht t2.ht+1<=D:=ht
   lia
  have ne:∀y,y=ij \/ y=il \/ y=ly \/ y="~" -> decide (V.str g.s=V.str y)=false:=λy hy=>by
   rcases hy with rfl|rfl|rfl|rfl<;>cases g<;>first|exact hg.elim|decide +kernel
  apply DP rfl hp (ne _ (.inl rfl));apply DP rfl hp (by grind);apply DP rfl hp (by grind);refine⟨_,rfl,p,_,1,u1,rfl,rfl,aP.of hp,rfl,_,rfl,_,rfl,_,rfl,rec_ lu1 ok1 hm.1 ?_⟩;apply DP rfl hp (by grind);refine⟨_,rfl,p,_,2,u2,rfl,rfl,aP.of hp,rfl,_,rfl,_,rfl,_,rfl,rec_ lu2 ok2 hm.2 ?_⟩;refine⟨_,rfl,p,_,0,.str g.s,rfl,rfl,aP.of hp,rfl,rfl,_,rfl,?_⟩;cases g with
  |br=>exact hg.elim
  |no=>exact hg.elim
  |an=>
   refine Ah ⟨_,zJ,_,zJ,_,_,zJ,zJ,?_⟩;show Q (V.int (Builtin.bitAnd _ _)) H
   rwa[Cl]
  |or=>
   refine AV ⟨_,zJ,p,_,0,.str Sg.or.s,zJ,zJ,aP.of hp,zJ,zJ,_,zJ,?_⟩;refine Ah ⟨_,zJ,_,zJ,_,_,zJ,zJ,?_⟩;show Q (V.int (Builtin.bitOr _ _)) H
   rwa[Cf]
  |xo=>
   refine AV ⟨_,zJ,p,_,0,.str Sg.xo.s,zJ,zJ,aP.of hp,zJ,zJ,_,zJ,?_⟩;refine AV ⟨_,zJ,_,zJ,_,_,zJ,zJ,?_⟩;show Q (V.int (Builtin.bitXor _ _)) H
   rwa[Pg]
section
variable {P:PySem.Program}{w:PySem.World}{ω:FG}{mg:SV}{base:PySem.Heap}{fd:PySem.FuncData}
def Pr{f}(F:aN ω js js Gh f fd)(m:mg js=some (.ref f))(b:Binds ω fd Jc []):∀D,aE P w ω mg base aS (2+D) f fd Jc (spCome D)
 |0=>NJ F 0 ⟨⟨f,fd,F.ok scCome (λe H Q E h=>h.elim) (λd A a s H e Q E i h=>h.elim),m,F.kp,b⟩⟩
 |D+1=>NJ F (D+1) ⟨⟨f,fd,by have:=Pr F m b D;rw[show 2+D=1+(D+1) by lia]at this;exact this,m,F.kp,b⟩⟩
end
end
section
def cI(G:Fn X.prog X.w X.K X.mg X.base x k ps sp)(h:aJ q X.A)(i:PA X (e::es) t)(l:k<=q:=by decide)(j:Gl X x:=by rfl)(a:dr x:=by decide)(o:et X e es:=by rfl)(d:(backTo pos (starEach es X.env)).any (·.1)=false:=by rfl):PE X (.Call (.Name x p) (e::es) [] pos) (Lp sp [] E0 t):=
 let ⟨_,_,F,m,kp,b⟩:=G.ex
 AO F (h.mono l) j m kp b .nil AT i a o d
def c_r(G:g9 X.prog X.w X.K X.mg X.base x k ps sp)(h:aJ r X.A)(l:BK (cz X.prog X.w) X E)(i:PA X (e::es) t)(o:k<=r:=by decide)(j:Gl X x:=by rfl)(a:dr x:=by decide)(q:et X e es:=by rfl)(d:(backTo pos (starEach es X.env)).any (·.1)=false:=by rfl):PE X (.Call (.Name x p) (e::es) [] pos) (Lp sp [] E t):=
 let ⟨_,_,F,m,kp,b⟩:=G.ex
 AO F (h.mono o) j m kp b .nil l i a q d
def Gy(e:PE X o to)(c:eJ X.K C)(G:Mt X.prog X.w X.K X.mg X.base C m k ps sp)(d:aJ i X.A)(h:k<=i:=by decide)
  (ht:eval (.Call (.Attribute o m apos) [] [] pos) X.env=(do
   let a ←eval o X.env
   standAt apos.atName
   let (f,first) ←holding [a] (getMethod a m pl)
   callWith pos f first (backTo pos (starEach [] X.env)) (backToKw pos (keywordEach [] X.env))):=by rfl):PE X (.Call (.Attribute o m apos) [] [] pos) (Jz C m sp [] E0 to B8):=
 let ⟨_,_,F,m,b⟩:=G.ex
 BV e c m F (d.mono h) b .nil AT ht
def gW(j:PE X o to)(c:eJ X.K C)(G:Mt X.prog X.w X.K X.mg X.base C m k ps sp)(i:aJ q X.A)(l:PA X (e::es) t)(p:k<=q:=by decide)(d:et X e es:=by rfl)(a:(backTo pos (starEach es X.env)).any (·.1)=false:=by rfl)
  (ht:eval (.Call (.Attribute o m apos) (e::es) [] pos) X.env=(do
   let h ←eval o X.env
   standAt apos.atName
   let (f,first) ←holding [h] (getMethod h m pl)
   callWith pos f first (backTo pos (starEach (e::es) X.env)) (backToKw pos (keywordEach [] X.env))):=by rfl):PE X (.Call (.Attribute o m apos) (e::es) [] pos) (Jz C m sp [] E0 to t):=
 let ⟨_,_,F,m,b⟩:=G.ex
 CQ j c m F (i.mono p) b .nil AT l d a ht
def Em(q:PE X o to)(c:eJ X.K C)(G:Dd X.prog X.w X.K X.mg X.base C m k ps sp)(i:aJ r X.A)(l:BK (cz X.prog X.w) X E)(j:PA X (e::es) t)(p:k<=r:=by decide)(d:et X e es:=by rfl)(a:(backTo pos (starEach es X.env)).any (·.1)=false:=by rfl)
  (ht:eval (.Call (.Attribute o m apos) (e::es) [] pos) X.env=(do
   let h ←eval o X.env
   standAt apos.atName
   let (f,first) ←holding [h] (getMethod h m pl)
   callWith pos f first (backTo pos (starEach (e::es) X.env)) (backToKw pos (keywordEach [] X.env))):=by rfl):PE X (.Call (.Attribute o m apos) (e::es) [] pos) (Jz C m sp [] E to t):=
 let ⟨_,_,F,m,b⟩:=G.ex
 CQ q c m F (i.mono p) b .nil l j d a ht
def c_v(d:IH X.prog X.w X.K X.mg X.base C VC)(h:aJ q X.A)(i:PA X (e::es) t)(l:5<=q:=by decide)(j:Gl X "Value":=by rfl)(o:et X e es:=by rfl)(a:(backTo pos (starEach es X.env)).any (·.1)=false:=by rfl):PE X (.Call (.Name "Value" p) (e::es) [] pos) (RX VC (spVInit C VC) [] E0 t):=
 let ⟨_,_,M,F,b⟩:=d.make
 Ko M F (h.mono l) j d.cls b .nil AT i qc o a
def cj(h:PE X a d)(hs:starEach [a] X.env=(false,eval a X.env)::starEach [] X.env:=by rfl):PA X [a] (At d B8):=AA h AG hs
def bG(h:PE X a i)(e:PE X b tb)(hs:starEach [a,b] X.env=(false,eval a X.env)::starEach [b] X.env:=by rfl)(d:starEach [b] X.env=(false,eval b X.env)::starEach [] X.env:=by rfl):PA X [a,b] (At i (At tb B8)):=AA h (AA e AG d) hs
def VX{q1 q2}(e:cY P w ω mg base x C)(h:aJ r (By (cz P w) P w ω mg base N qual scope f cd A outer s H E).A)(o:2<=r:=by decide)(l:Gl (By (cz P w) P w ω mg base N qual scope f cd A outer s H E) x:=by rfl)(a:dr x:=by decide):
  PS (By (cz P w) P w ω mg base N qual scope f cd A outer s H E) (.Raise (some (.Call (.Name x p) [.Constant (.str y) j q1] [] pos)) none q2) (HG C (HF C (spErrInit ω) [] E0 (At (tC (.str y)) B8)) E):=by
 obtain⟨_,_,d,i,q⟩:=e.make;exact C1 Eu zJ d.cls (C0 d i (h.mono o) l e.cls q .nil AT (AA AL AG) a)
def cY.rd(d:cY P w ω mg base x C)(e:aB H H1)(h:Uq H E C):HG C (HF C (spErrInit ω) [] E0 (At (tC (.str y)) B8)) E D σ H1:=
 let ⟨_,_,a,_,_⟩:=d.make
 C7 (te:=λ_=>tC .aO) a.cls e h
end
section
def Jd(h:bV VC H v k n)(q:Q (.int (n:Int)) H):ExM VC il (.ref v) H (B8 σ H λvs e=>spVNumber VC (.ref v::(vs++[])) e Q E):=by
 obtain⟨a,d⟩:=id h;exact⟨v,a,_,zJ,d,VN _ _ (by trivial) (by trivial),v,k,n,zJ,h,q⟩
def Je(h:bV VC H v k n)(q:Q (.ref k) H):ExM VC iy (.ref v) H (B8 σ H λvs e=>spVKind VC (.ref v::(vs++[])) e Q E):=by
 obtain⟨a,d⟩:=id h;exact⟨v,a,_,zJ,d,VN _ _ (by trivial) (by trivial),v,k,n,zJ,h,q⟩
def U4(h:aQ C H k a r)(q:∀H',aB H H'->Q (.int (kn a:Int)) H'):ExM C jf (.ref k) H (B8 σ H λvs i=>spKnown C (.ref k::(vs++[])) i Q E):=by
 obtain⟨j,o,p,d⟩:=h.ins;refine⟨k,j,_,zJ,d,(CT _ _ _),k,a,r,zJ,h,λe l=>?_⟩;rw[JW];exact q e l
def NK{H}{a}{C e}{k}{n:Nat}{Q:VK}{E}{r}{i:Int}(h:aQ C H k a r)(z:i=(n))(u:n<2^40)(y:r=jo \/ n-(n&&&kn a)=0)(q:∀p H',aB H H'->bV e H' p k n->Q (.ref p) H'):∀x d,H x=none->H d=none->d≠x->spVInit C e (.ref x::([.ref k,.int i]++[])) (upd (upd H d (.own x)) x (.ins e d [])) (λv j=>v=.aO/\Q (.ref x) j) E:=by
 intro p d t o l;subst z;have sN:=El (D:=e) t o l;exact⟨p,d,k,a,r,n,zJ,aA,h.same sN,u,y,λj B A=>⟨zJ,q p j (E3 sN t B) A⟩⟩
end
section
inductive spSK(C VC:hO)(vs:hK)(H:Hp)(Q:VK)(_E:XK):Prop
 |mk (p1 p2 k) (n1 n2) (aD) (r) (aW:vs=[.ref p1,.ref p2]) (aX:bV VC H p1 k n1) (bz:bV VC H p2 k n2) (bQ:aQ C H k aD r) (cw:Asc aD) (cX:∀H',aB H H'->Q (.ref k) H')
def ZO:AH [jQ,iS] [jQ,iS] (defScope HQ):=bA
def YC(F:aN ω kX kX HQ f fd)(o:M8 ω VC)(a:Mt P w ω mg base VC iy 1 [hZ] (spVKind VC))(j:Mt P w ω mg base C lP 2 [hZ,iS] (spEqK C))
  (l:W.findIn ω (.ref C) lO=some (some (.builtin i5))) (z:W.mroIn ω C (.type jv)=some true):aE P w ω mg base aS 4 f fd [jQ,iS] (spSK C VC):=by
 obtain⟨R,dE,j,D,G⟩:=j.ex;refine F.m ZO λN H Q E h=>?_;obtain⟨J,O,k,S,M,e,r,rfl,x,I,t,d,q⟩:=h;refine⟨zJ,λy A p s i=>?_⟩;refine⟨_,AC (AY (AK (Rv j i G D l z) (Gy (pv 0) o.cl a i) (Gy (pv 1) o.cl a i) (AN _)) (AB Ag) AM) (AB (AI (Gy (pv 0) o.cl a i))),?_⟩;obtain⟨dk,T,L,v⟩:=t.ins;refine⟨_,zJ,Je x ⟨_,zJ,Je I ⟨k,dk,_,k,dk,_,zJ,zJ,v,v,k,k,e,r,zJ,t,d,.inr ⟨e,r,t,d,λB u=>⟨_,zJ,_,zJ,_,zJ,?_⟩⟩⟩⟩⟩;rw[Zm (⟨rfl,rfl⟩)];exact AV ⟨_,zJ,Je (x.same u) (q B u)⟩
inductive spOp(g:Nat->Nat->Nat)(C VC:hO)(vs:hK)(H:Hp)(Q:VK)(_E:XK):Prop
 |mk (p1 p2 k) (n1 n2) (aD) (r) (aW:vs=[.ref p1,.ref p2]) (aX:bV VC H p1 k n1) (bz:bV VC H p2 k n2) (bQ:aQ C H k aD r) (cw:Asc aD) (cX:g n1 n2<2^40) (eN:r=jo \/ g n1 n2-(g n1 n2&&&kn aD)=0) (ff:∀q H',aB H H'->bV VC H' q k (g n1 n2)->Q (.ref q) H')
noncomputable abbrev gOr(a b:Nat):Nat:=a|||b
noncomputable abbrev Lk(a b:Nat):Nat:=a-(a&&&b)
def ZP:AH [jQ,iS] [jQ,iS] (defScope OO):=bA
def YD(F:aN ω "union" "union" OO f fd)(t:IH P w ω mg base C VC)(a:Mt P w ω mg base VC il 1 [hZ] (spVNumber VC))(J:Fn P w ω mg base kX 4 [jQ,iS] (spSK C VC)):aE P w ω mg base aS 6 f fd [jQ,iS] (spOp gOr C VC):=by
 have u:=t.VT.cl;refine F.m ZP λN H Q E h=>?_;obtain⟨G,I,k,x,v,l,r,rfl,y,z,B,i,lt,j,q⟩:=h;refine⟨zJ,λD A o s e=>?_⟩;exact⟨_,AB (AI (c_v t e (bG (cI J e (bG (pv 0) (pv 1))) (AZ Ia (Gy (pv 0) u a e) (Gy (pv 1) u a e))))),_,zJ,_,zJ,G,I,k,x,v,l,r,zJ,y,z,B,i,λO d=>⟨_,zJ,Jd (y.same d) ⟨_,zJ,Jd (z.same d) ⟨_,_,zJ,zJ,NK (B.same d) (Cf x v) lt j λp L M=>q p L (d.trans M)⟩⟩⟩⟩
def ZQ:AH [jQ,iS] [jQ,iS] (defScope JK):=bA
def YE(F:aN ω "without" "without" JK f fd)(t:IH P w ω mg base C VC)(a:Mt P w ω mg base VC il 1 [hZ] (spVNumber VC))(J:Fn P w ω mg base kX 4 [jQ,iS] (spSK C VC)):aE P w ω mg base aS 6 f fd [jQ,iS] (spOp Lk C VC):=by
 have u:=t.VT.cl;refine F.m ZQ λN H Q E h=>?_;obtain⟨G,I,k,x,v,l,r,rfl,y,z,B,i,lt,j,q⟩:=h;refine⟨zJ,λD A o s e=>?_⟩;exact⟨_,AB (AI (c_v t e (bG (cI J e (bG (pv 0) (pv 1))) (AZ CD (Gy (pv 0) u a e) (Cu Kl (Gy (pv 1) u a e)))))),_,zJ,_,zJ,G,I,k,x,v,l,r,zJ,y,z,B,i,λO d=>⟨_,zJ,Jd (y.same d) ⟨_,zJ,Jd (z.same d) ⟨_,zJ,_,_,zJ,zJ,NK (B.same d) (Do x v) lt j λp L M=>q p L (d.trans M)⟩⟩⟩⟩
inductive spTu(C VC:hO)(vs:hK)(H:Hp)(Q:VK)(_E:XK):Prop
 |mk (p k) (n) (aD) (r) (aW:vs=[.ref p]) (aX:bV VC H p k n) (bz:aQ C H k aD r) (bQ:kn aD<2^20) (cw:∀q H',aB H H'->bV VC H' q k (kn aD-(kn aD&&&n))->Q (.ref q) H')
def ZR:AH [jQ] [jQ] (defScope LH):=bA
def YF(F:aN ω "turned" "turned" LH f fd)(T:E6 ω C)(t:IH P w ω mg base C VC)(e:Mt P w ω mg base VC il 1 [hZ] (spVNumber VC))(a:Mt P w ω mg base VC iy 1 [hZ] (spVKind VC))(x:Mt P w ω mg base C jf 2 [hZ] (spKnown C)):aE P w ω mg base aS 6 f fd [jQ] (spTu C VC):=by
 have l:=t.VT.cl;refine F.m ZR λD H Q E h=>?_;obtain⟨p,k,n,y,r,rfl,i,u,lt,q⟩:=h;refine⟨zJ,λv A o s d=>?_⟩;refine⟨_,AB (AI (c_v t d (bG (Gy (pv 0) l a d) (AZ CD (Gy (Gy (pv 0) l a d) T.cl x d) (Cu Kl (Gy (pv 0) l e d)))))),_,zJ,Je i ⟨_,zJ,Je i (U4 u λG j=>⟨_,zJ,Jd (i.same j) ⟨_,zJ,_,_,zJ,zJ,NK (u.same j) (Do _ n) ?_ (.inr (PZ _ _)) λp z B=>q p z (j.trans B)⟩⟩)⟩⟩
 lia
end
abbrev En:=Str->Option (Nat×Nat)
noncomputable def c4:hA:=["a","ab","b","cdefghij","q","x"]
def IS{α:Type}[BEq α][LawfulBEq α]:∀{l m:List α},l.Nodup->(∀x∈l,x∈m)->l.length<=m.length
 | [],m,_,_=>Nat.zero_le _
 |a::l,m,h,s=>by
  obtain⟨e,i⟩:=zP.mp h;have d:=s a (by simp);have:=IS (m:=m.erase a) i λx j=>(List.mem_erase_of_ne (λz=>e (by simp_all))).mpr (s x (by grind));rw[List.length_erase_of_mem d]at this;have:=List.length_pos_of_mem d;rw[length_cons]
  lia
def Eo(f:En)(x:Str)(v:Option (Nat×Nat)):En:=λy=>if y=x then v else f y
def D7(f)(x)(v):Eo f x v x=v:=zM rfl
def D8(f)(v)(h:y≠x):Eo f x v y=f y:=zN h
structure eE(ms:hA)(f:En):Prop where
 nd:ms.Nodup
 w:∀x∈ms,x∈c4
 mem:∀x,x∈ms ↔ f x≠none
def eE.len{a}(h:eE a f):a.length<=6:=IS h.nd h.w
def eE.eqlen(h:eE ms f)(g:eE ns f):ms.length=ns.length:=Nat.le_antisymm (IS h.nd λx a=>(g.mem x).mpr ((h.mem x).mp a)) (IS g.nd λx a=>(h.mem x).mpr ((g.mem x).mp a))
abbrev TpE(H:Hp)(t:hO)(n c:Nat):Prop:=H t=some (.tup [.int (n:Int),.int (c:Int)])
structure d8(H:Hp)(kvs:LK)(f:En):Prop where
 ks:∃ms,kvs.map (·.1)=ms.map Sum.inr/\eE ms f
 vl:∀x n c,f x=some (n,c)->∃t,Am kvs (Sum.inr x)=some (.ref t)/\TpE H t n c
def inr_mem{a:hA}:(Sum.inr x:Key)∈a.map Sum.inr ↔ x∈a:=by
 simp_all
def RB{kvs:LK}(h:k∉ kvs.map (·.1)):Am kvs k=none:=by
 cases e:Am kvs k with
 |none=>rfl
 |some v=>exact absurd (Tz e) h
section
def d8.no{f}{x}(h:d8 H kvs f)(e:f x=none):Am kvs (Sum.inr x)=none:=by
 obtain⟨i,a,d⟩:=h.ks;apply RB;rw[a,inr_mem,d.mem]
 simp_all
def d8.is(h:d8 H kvs f)(x):(Am kvs (Sum.inr x)).isSome=(f x).isSome:=by
 cases e:f x with
 |none=>rw[h.no e];rfl
 |some v=>obtain⟨t,a,_⟩:=h.vl x v.1 v.2 e;simp_all
def d8.len(h:d8 H kvs f):∃a,eE a f/\kvs.length=a.length:=by
 obtain⟨a,d,e⟩:=h.ks;refine⟨a,e,?_⟩;have:=congrArg List.length d
 rwa[AQ,AQ]at this
def d8.small(h:d8 H kvs f):kvs.length<sizeLine:=by
 obtain⟨d,a,e⟩:=h.len;have:=a.len;exact AS (by lia)
def d8.keep(s:∀b xs,H b=some (.tup xs)->H' b=some (.tup xs))(h:d8 H kvs f):d8 H' kvs f:=⟨h.ks,λx n c e=>let ⟨t,a,d⟩:=h.vl x n c e;⟨t,a,s _ _ d⟩⟩
def d8.put(h:d8 H kvs f)(u:x∈c4)(ht:TpE H t n c):d8 H (Ba kvs (Sum.inr x) (.ref t)) (Eo f x (some (n,c))):=by
 obtain⟨l,p,i⟩:=h.ks;refine⟨?_,λy m d e=>?_⟩
 ·by_cases o:x∈l
  ·refine⟨l,?_,i.nd,i.w,λy=>?_⟩
   ·have:(Ba kvs (Sum.inr x) (.ref t)).map (·.1)=kvs.map (·.1):=by
     unfold Ba
     have q:(kvs.any λj=>decide (j.1=Sum.inr x))=true:=by
      rw[Cy,h.is x];cases e:f x with
      |none=>exact absurd e ((i.mem x).mp o)
      |some v=>rfl
     rw[zM q,map_map];refine List.map_congr_left λj _=>?_;show(if j.1=Sum.inr x then (j.1,V.ref t)else j).1=j.1;split<;>rfl
    rw[this,p]
   ·rw[i.mem];by_cases e:y=x
    ·subst e;rw[D7];exact⟨λ_=>(λz=>nomatch z),λ_=>(i.mem y).mp o⟩
    ·rw[D8 _ _ e]
  ·refine⟨l++[x],?_,?_,λy r=>?_,λy=>?_⟩
   ·rw[F6 _ (h.no (Classical.byContradiction λz=>o ((i.mem x).mpr z))),zR,zR,p];rfl
   ·refine List.nodup_append.mpr ⟨i.nd,zP.mpr ⟨not_mem_nil,nodup_nil⟩,λa q b A=>?_⟩
    grind
   ·rcases mem_append.mp r with z|z
    ·exact i.w y z
    simp_all
   ·rw[mem_append,i.mem];by_cases e:y=x
    ·subst e;rw[D7]
     simp_all
    ·rw[D8 _ _ e]
     simp_all
 ·rw[Ih];by_cases z:y=x
  ·subst z;rw[D7]at e
   grind
  ·rw[D8 _ _ z]at e;obtain⟨B,a,b⟩:=h.vl y m d e
   grind
def Hr(k j):∀kvs:LK,Am (Bo kvs k) j=if j=k then none else Am kvs j
 | []=>by unfold Bo;rw[List.filter_nil,Lu];simp
 |p::r=>by
  by_cases e:p.1=k
  ·rw[P9 e,Hr k j r];by_cases z:j=k
   ·simp_all
   ·rw[zN z,zN z,A6 (λq=>z (q.symm.trans e))]
  ·rw[QA e];by_cases z:p.1=j
   ·rw[BA z,BA z,zN (λq=>e (z.trans q))]
   ·rw[A6 z,A6 z,Hr k j r]
def d8.drop(h:d8 H kvs f):d8 H (Bo kvs (Sum.inr x)) (Eo f x none):=by
 obtain⟨j,o,i⟩:=h.ks;refine⟨⟨j.filter λy=>decide (y≠x),?_,i.nd.sublist List.filter_sublist,λy t=>i.w y (mem_filter.mp t).1,λy=>?_⟩,λy m d e=>?_⟩
 ·have:∀(l:LK)(m:hA),l.map (·.1)=m.map Sum.inr->(l.filter λu=>decide (u.1≠Sum.inr x)).map (·.1)=(m.filter λy=>decide (y≠x)).map Sum.inr:=by
   intro l;induction l with
   |nil=>simp_all
   |cons p r A=>
    intro m e;cases m with
    |nil=>cases e
    |cons y m=>
     grind
  exact this kvs j o
 ·rw[mem_filter,i.mem];by_cases e:y=x
  ·subst e;rw[D7]
   simp_all
  ·rw[D8 _ _ e]
   simp_all
 ·by_cases z:y=x
  ·subst z;rw[D7]at e;cases e
  ·rw[D8 _ _ z]at e;obtain⟨v,a,b⟩:=h.vl y m d e;exact⟨v,by rw[Hr,zN (λq=>z (Sum.inr.inj q))];exact a,b⟩
end
def BfAt(H:Hp)(v:V)(b:Option (Nat×Nat)):Prop:=(b=none/\v=.aO)\/∃n c t,b=some (n,c)/\v=.ref t/\TpE H t n c
inductive eR(H:Hp)(a:hO)(p:Str×Option (Nat×Nat)):Prop
 |mk (v) (aW:H a=some (.tup [.str p.1,v])) (aX:BfAt H v p.2)
structure Za where
 (b k e l:hO)
def Gz(k:V)(d l:hO):List (Str×V):=BD lY (.ref l) (BD jw (.ref d) (BD iK k []))
def gi(aD:Aa)(r:Str)(f:En):Prop:=∀x n c,f x=some (n,c)->n<2^20/\(r=jo \/ n-(n&&&kn aD)=0)
abbrev gx:=List (PySem.Str×Option (Nat×Nat))
structure cq(BC C:hO)(z:Za)(aD:Aa)(r:Str)(f:En)(D:gx)(H:Hp):Prop where
 bk:∃dx,H z.b=some (.ins BC dx (Gz (.ref z.k) z.e z.l))
 ka:aQ C H z.k aD r
 en:∃kvs,H z.e=some (.dK kvs)/\d8 H kvs f
 de:∃as,H z.l=some (.lst (as.map V.ref))/\Paired (eR H) as D/\D.length<=100
 ok:gi aD r f
def BfAt.keep(s:∀b xs,H b=some (.tup xs)->H' b=some (.tup xs))(h:BfAt H v b):BfAt H' v b:=by
 rcases h with h|⟨n,c,t,a,d,e⟩
 ·exact .inl h
 ·exact .inr ⟨n,c,t,a,d,s _ _ e⟩
def eR.keep(s:∀b xs,H b=some (.tup xs)->H' b=some (.tup xs))(h:eR H a p):eR H' a p:=by
 obtain⟨v,d,e⟩:=h;exact⟨v,s _ _ d,e.keep s⟩
structure DA(K:FG)(BC:hO):Prop where
 cl:eJ K BC
 nK:b8 K BC iK
 nE:b8 K BC jw
 nD:b8 K BC lY
def YG(k)(d l){m:Str}(a:¬ m=lY:=by decide +kernel)(h:¬ m=jw:=by decide +kernel)(e:¬ m=iK:=by decide +kernel):(Gz k d l).lookup m=none:=by
 unfold Gz;rw[Ay,zN a,Ay,zN h,Ay,zN e];rfl
def ZS(k)(d l):(Gz k d l).lookup (iK:Str)=some k:=by
 rfl
def RC(k)(d l):(Gz k d l).lookup (jw:Str)=some (.ref d):=by
 rfl
def ZT(k)(d l):(Gz k d l).lookup (lY:Str)=some (.ref l):=by
 rfl
section
def cq.same{a}{r}(s:aB H H')(h:cq BC C z a r f D H):cq BC C z a r f D H':=by
 obtain⟨⟨u,i⟩,l,⟨d,p,t⟩,⟨o,y,v,j⟩,x⟩:=h;exact⟨⟨u,s _ _ i⟩,l.same s,⟨d,s _ _ p,t.keep λb A e=>s _ _ e⟩,⟨o,s _ _ y,Paired.imp' (λ_ _ q=>q.keep λb A e=>s _ _ e) v,j⟩,x⟩
def g_e(a:DA ω BC)(h:cq BC C z aD r f D H)(q:i (.ref z.e)):ExF ω (.ref z.b) H jw i:=by
 obtain⟨e,d⟩:=h.bk;exact⟨z.b,BC,e,_,_,zJ,d,a.cl,a.nE,RC _ _ _,q⟩
def g_d(a:DA ω BC)(h:cq BC C z aD r f D H)(q:i (.ref z.l)):ExF ω (.ref z.b) H lY i:=by
 obtain⟨e,d⟩:=h.bk;exact⟨z.b,BC,e,_,_,zJ,d,a.cl,a.nD,ZT _ _ _,q⟩
def g_k(a:DA ω BC)(h:cq BC C z aD r f D H)(q:i (.ref z.k)):ExF ω (.ref z.b) H iK i:=by
 obtain⟨e,d⟩:=h.bk;exact⟨z.b,BC,e,_,_,zJ,d,a.cl,a.nK,ZS _ _ _,q⟩
end
section
inductive spEn(BC C cB:hO)(vs:hK)(H:Hp)(Q:VK)(E:XK):Prop
 |mk (z) (aD) (r) (g) (D) (x) (n c) (aW:vs=[.ref z.b,.str x]) (aX:cq BC C z aD r g D H) (bz:g x=some (n,c)) (bQ:∀t,TpE H t n c->Q (.ref t) H)
 |no (z) (aD) (r) (g) (D) (x) (aW:vs=[.ref z.b,.str x]) (aX:cq BC C z aD r g D H) (bz:g x=none) (bQ:Uq H E cB)
def ZU:AH [hZ,ij] [hZ,ij] (defScope Fh):=bA
def YH(F:aN ω "entry" "Book.entry" Fh f fd)(e:DA ω BC)(v:cY P w ω mg base iW cB)(J:Fn P w ω mg base jz 1 [ig,i1] (Cp ω)):aE P w ω mg base (cz P w) 3 f fd [hZ,ij] (spEn BC C cB):=by
 refine F.fj ZU (λI H Q E h=>?_) (λy A p s H I Q E l h=>?_)
 ·rcases h with⟨_,_,_,_,_,_,_,_,rfl⟩|⟨_,_,_,_,_,_,rfl⟩<;>rfl
 ·refine⟨_,AC (AY (Aw (Ao (cI J l (bG (pv 1) (Af (pv 0) rfl))))) (AB (VX v l)) AM) (AB (AI (Av (Bp l) (Af (pv 0) rfl) (pv 1) (λ_ _=>rfl)))),?_⟩;rcases h with⟨z,j,r,g,D,x,n,c,rfl,B,o,q⟩|⟨z,j,r,g,D,x,rfl,B,o,L⟩
  ·obtain⟨a,d,i⟩:=B.en;refine⟨_,zJ,_,zJ,g_e e B (.inl ⟨x,z.e,a,zJ,.inl d,_,zJ,?_⟩)⟩;obtain⟨t,u,G⟩:=i.vl x n c o;rw[u];exact AV ⟨_,zJ,g_e e B ⟨_,zJ,z.e,_,zJ,.inl ⟨_,Sum.inr x,.inl d,zJ,u.symm⟩,q t G⟩⟩
  ·obtain⟨a,d,i⟩:=B.en;refine⟨_,zJ,_,zJ,g_e e B (.inl ⟨x,z.e,a,zJ,.inl d,_,zJ,?_⟩)⟩;rw[i.no o];exact Ah (v.rd (aB.refl _) L)
inductive spVl(BC C VC cB:hO)(vs:hK)(H:Hp)(Q:VK)(E:XK):Prop
 |mk (z) (aD) (r) (g) (D) (x) (n c) (aW:vs=[.ref z.b,.str x]) (aX:cq BC C z aD r g D H) (bz:g x=some (n,c)) (bQ:∀p H',aB H H'->bV VC H' p z.k n->Q (.ref p) H')
 |no (z) (aD) (r) (g) (D) (x) (aW:vs=[.ref z.b,.str x]) (aX:cq BC C z aD r g D H) (bz:g x=none) (bQ:Uq H E cB)
def cq.no{H}{a}{C}{d}{z}{r}{g}{D}{m:Str}{σ}{t:TA}{k}(B:cq d C z a r g D H)(q:t σ H k)(e:¬ m=lY:=by decide +kernel)(h:¬ m=jw:=by decide +kernel)(i:¬ m=iK:=by decide +kernel):ExM d m (.ref z.b) H (t σ H k):=by
 obtain⟨l,j⟩:=B.bk;exact⟨z.b,l,_,zJ,j,YG _ _ _ e h i,q⟩
def ZV:AH [hZ,ij] [hZ,ij] (defScope Fi):=bA
def YI(F:aN ω jF "Book.value" Fi f fd)(e:DA ω BC)(o:IH P w ω mg base C VC)(u:Dd P w ω mg base BC "entry" 3 [hZ,ij] (spEn BC C cB)):aE P w ω mg base (cz P w) 6 f fd [hZ,ij] (spVl BC C VC cB):=by
 refine F.fj ZV (λv H Q E h=>?_) (λp A j s H v Q E l h=>?_)
 ·rcases h with⟨_,_,_,_,_,_,_,_,rfl⟩|⟨_,_,_,_,_,_,rfl⟩<;>rfl
 ·refine⟨_,AB (AI (c_v o l (bG (Af (pv 0) rfl) (An (Ad ω rfl) (Em (pv 0) e.cl u l ES (cj (pv 1))) AF (λ_ _=>rfl))))),?_⟩;rcases h with⟨z,a,r,g,D,x,n,c,rfl,B,d,q⟩|⟨z,a,r,g,D,x,rfl,B,d,y⟩
  ·obtain⟨lt,i⟩:=B.ok x n c d;exact⟨_,zJ,g_k e B ⟨_,zJ,B.no ⟨_,zJ,.mk z a r g D x n c zJ B d λt ht=>⟨t,_,0,_,zJ,zJ,aP.of ht,zJ,NK B.ka zJ (by lia) i q⟩⟩⟩⟩
  ·exact⟨_,zJ,g_k e B ⟨_,zJ,B.no ⟨_,zJ,.no z a r g D x zJ B d y⟩⟩⟩
inductive spCh(BC C:hO)(vs:hK)(H:Hp)(Q:VK)(_E:XK):Prop
 |mk (z) (aD) (r) (g) (D) (x) (n c) (aW:vs=[.ref z.b,.str x]) (aX:cq BC C z aD r g D H) (bz:g x=some (n,c)) (bQ:Q (.int (c:Int)) H)
def ZW:AH [hZ,ij] [hZ,ij] (defScope Dw):=bA
def YJ(F:aN ω "changes" "Book.changes" Dw f fd)(i:DA ω BC)(j:Dd P w ω mg base BC "entry" 3 [hZ,ij] (spEn BC C cB)):aE P w ω mg base (cz P w) 4 f fd [hZ,ij] (spCh BC C):=by
 refine F.n ZW λp H Q E h=>?_;obtain⟨z,a,r,g,D,x,n,c,rfl,B,o,q⟩:=h;refine⟨zJ,λe A d s l=>?_⟩;exact⟨_,AB (AI (An (Ad ω zJ) (Em (pv 0) i.cl j l ES (cj (pv 1))) AF (λ_ _=>rfl))),_,zJ,B.no ⟨_,zJ,.mk z a r g D x n c zJ B o λt ht=>⟨t,_,1,_,zJ,zJ,aP.of ht,zJ,q⟩⟩⟩
inductive spNs(BC C:hO)(vs:hK)(H:Hp)(Q:VK)(_E:XK):Prop
 |mk (z) (aD) (r) (g) (D) (aW:vs=[.ref z.b]) (aX:cq BC C z aD r g D H) (bz:∀l ns H',aB H H'->H' l=some (.lst (ns.map V.str))->eE ns g->PyProof.Rows.sortedS ns=true->Q (.ref l) H')
def eE.perm(h:eE ms g)(p:ns.Perm ms):eE ns g:=⟨p.nodup_iff.mpr h.nd,λx a=>h.w x (p.mem_iff.mp a),λx=>(p.mem_iff).trans (h.mem x)⟩
def ZX:AH [hZ] [hZ] (defScope Fj):=bA
def YK(F:aN ω i1 "Book.names" Fj f fd)(B:Bl mg)(t:DA ω BC):aE P w ω mg base aS 1 f fd [hZ] (spNs BC C):=by
 refine F.m ZX λL H Q E h=>?_;obtain⟨z,J,r,g,D,rfl,i,q⟩:=h;refine⟨zJ,λo A d s M=>?_⟩;obtain⟨a,G,y⟩:=i.en;obtain⟨j,u,e⟩:=y.ks;have:=e.len;exact⟨_,AB (AI (AR (FD zJ) zJ B.sorted Ey (cj (Af (pv 0) zJ)))),_,zJ,g_e t i ⟨z.e,a,j,zJ,.inl G,u,by lia,λl x I p v=>q l x _ (AE (aB.refl _) I) aA (e.perm p) v⟩⟩
inductive spLn(BC C:hO)(vs:hK)(H:Hp)(Q:VK)(_E:XK):Prop
 |mk (z) (aD) (r) (g) (D) (aW:vs=[.ref z.b]) (aX:cq BC C z aD r g D H) (bz:∀ms,eE ms g->Q (.int (ms.length:Int)) H)
def ZY:AH [hZ] [hZ] (defScope JO):=bA
def YL(F:aN ω lp "Book.__len__" JO f fd)(B:Bl mg)(o:DA ω BC):aE P w ω mg base aS 1 f fd [hZ] (spLn BC C):=by
 refine F.m ZY λx H Q E h=>?_;obtain⟨z,v,r,g,D,rfl,e,q⟩:=h;refine⟨zJ,λj A d s y=>?_⟩;obtain⟨a,u,t⟩:=e.en;obtain⟨i,p,l⟩:=t.len;refine⟨_,AB (AI (AR J7 zJ B.len PySem.boot_len (cj (Af (pv 0) zJ)))),_,zJ,g_e o e ⟨z.e,a,zJ,u,?_⟩⟩;rw[l];exact q i p
def fY(z:Za)(H H':Hp):Prop:=∀b o,H b=some o->b≠z.e->b≠z.l->H' b=some o
def ez(g:En)(x:Str)(n:Nat):En:=Eo g x (some (n,match g x with|none=>0|some (m,c)=>if n=m then c else c+1))
def cq.deed(B:cq BC C z aD r g D H)(s:fY z H H')(L:∃kvs,H' z.e=some (.dK kvs)/\d8 H' kvs g')(Q:∃d a,H z.l=some (.lst (d.map V.ref))/\H' z.l=some (.lst ((d++[a]).map V.ref))/\eR H' a p)(hl:D.length<100)(ok:gi aD r g'):cq BC C z aD r g' (D++[p]) H':=by
 obtain⟨⟨t,I⟩,A,⟨kvs,U,Z⟩,⟨d,M,F,Y⟩,X⟩:=B;have j:∀{b:hO}{o:HO},H b=some o->(∀R,o≠ .dK R)->(∀i,o≠ .lst i)->H' b=some o:=λ{b o}e n1 n2=>s b o e (λz=>by grind) (λz=>by grind);have O:∀b i,H b=some (.tup i)->H' b=some (.tup i):=λb i e=>j e (λ_ z=>nomatch z) (λ_ z=>nomatch z);obtain⟨bs,a,u,E,v⟩:=Q;rw[M]at u;have:=HO.lst.inj (Option.some.inj u);have q:=(List.map_inj_right (λx y h=>V.ref.inj h)).mp this;subst q;refine⟨⟨t,j I (λ_ z=>nomatch z) (λ_ z=>nomatch z)⟩,?_,L,⟨d++[a],E,?_,by grind⟩,ok⟩
 ·obtain⟨t,T,N,G,S,a,b,c⟩:=A.ex;exact⟨⟨t,T,N,G,S,j a (λ_ z=>nomatch z) (λ_ z=>nomatch z),j b (λ_ z=>nomatch z) (λ_ z=>nomatch z),j c (λ_ z=>nomatch z) (λ_ z=>nomatch z)⟩⟩
 ·have l:∀{d:List hO}{D:gx},Paired (eR H) d D->Paired (eR H') (d++[a]) (D++[p]):=λh=>by
   induction h with
   |nil=>exact .cons v .nil
   |cons a r J=>exact .cons (a.keep O) J
  exact l F
inductive eO(BC C VC:hO)(vs:hK)(H:Hp)(Q:VK)(_E:XK):Prop
 |mk (z) (aD) (r) (g) (D) (x) (v) (n) (aW:vs=[.ref z.b,.str x,.ref v]) (aX:cq BC C z aD r g D H) (bz:bV VC H v z.k n) (bQ:x∈c4) (cw:D.length<100) (cX:n<2^20/\(r=jo \/ n-(n&&&kn aD)=0)) (eN:∀H',fY z H H'->cq BC C z aD r (ez g x n) (D++[(x,g x)]) H'->Q .aO H')
noncomputable abbrev NGv:hA:=[hZ,ij,jF,"before",il,"changes"]
def scGv:AH NGv [hZ,ij,jF] (defScope HU):=bA
def YM(F:aN ω "give" "Book.give" HU f fd)(O:DA ω BC)(VT:M8 ω VC)(Z:Mt P w ω mg base VC il 1 [hZ] (spVNumber VC)):aE P w ω mg base aS 2 f fd [hZ,ij,jF] (eO BC C VC):=by
 refine F.m scGv λvs H Q E h=>?_;obtain⟨z,aD,r,g,D,x,v,n,rfl,B,hv,hx,hl,hn,q⟩:=h;refine⟨zJ,λae A outer s hr=>?_⟩;have hu:=Bp hr;have S:=scGv.nd
 refine⟨_,AC (Ab (i:=3) S zJ (Or.inl zJ) (Re hu (Af (pv 0) zJ) (pv 1) ⟨zJ,zJ,zJ,zJ⟩))
  (AC (Ab (i:=4) S rfl (Or.inl rfl) (Gy (pv 2) VT.cl Z hr))
  (AC (Ab (i:=5) S rfl (Or.inl rfl) AF)
  (Aq (AY (Cr (Om (pv 3))) (AB (Ab (i:=5) S rfl (Or.inl rfl) (BU (AK As (pv 4) (An (Ad ω rfl) (pv 3) AF (λ_ _=>rfl)) (AN _)) (An (Ad ω rfl) (pv 3) AF (λ_ _=>rfl)) (AZ CC (An (Ad ω rfl) (pv 3) AF (λ_ _=>rfl)) AF)))) AM)
  (AC (Ae (Bn plainAttrs_list PySem.F.slot_list_append PySem.F.type_list_append Au (Af (pv 0) rfl) (cj (Ai (bG (pv 1) (pv 3))))))
  (AB (Di hu (Af (pv 0) rfl) (pv 1) (Ai (bG (pv 4) (pv 5))) rfl)))))),?_⟩
 obtain⟨l,hk,T⟩:=B.en;obtain⟨as,p,hpd,_⟩:=B.de
 obtain⟨u,gB,N⟩:∃u,(Am l (Sum.inr x)).getD .aO=u/\BfAt H u (g x):=by
  refine⟨_,rfl,?_⟩;cases e:g x with
  |none=>rw[T.no e];exact .inl ⟨zJ,zJ⟩
  |some y=>obtain⟨t,h1,X⟩:=T.vl x y.1 y.2 e;rw[h1];exact .inr ⟨_,_,t,zJ,zJ,X⟩
 refine⟨_,zJ,g_e O B ⟨z.e,zJ,.inl ⟨_,.inl hk⟩,_,zJ,_,.inl ⟨_,Sum.inr x,.inl hk,zJ,zJ⟩,?_⟩⟩;rw[gB];refine⟨_,zJ,Jd hv ?_⟩;refine⟨λσ H'=>H'=H/\∃c:Nat,σ=[some (.ref z.b),some (.str x),some (.ref v),some u,some (.int n),some (.int c)]/\Eo g x (some (n,c))=ez g x n,λR hR=>?_,?_⟩
 ·refine⟨_,rfl,_,rfl,?_⟩;rcases N with⟨e,rfl⟩|⟨m,c,t,e,rfl,ht⟩
  ·refine AV (hR _ _ ⟨zJ,0,zJ,?_⟩);unfold ez;rw[e]
  ·refine Ah ⟨_,zJ,_,zJ,t,_,0,_,zJ,zJ,aP.of ht,zJ,zJ,_,zJ,?_⟩;refine BH (λh=>?_) (λh=>?_)
   ·have hh:n=m:=by have:=V.int.inj (Zv h);lia
    refine⟨_,zJ,t,_,1,_,zJ,zJ,aP.of ht,zJ,hR _ _ ⟨zJ,c,zJ,?_⟩⟩;unfold ez
    simp_all
   ·have hh:¬ n=m:=λe=>h (Zm (by rw[e]));refine⟨_,zJ,t,_,1,_,zJ,zJ,aP.of ht,zJ,_,_,zJ,zJ,hR _ _ ⟨zJ,c+1,zJ,?_⟩⟩;unfold ez
    simp_all
 rintro σ J ⟨rfl,c,rfl,eg⟩;refine⟨_,zJ,g_d O B ⟨.inl ⟨zJ,_,aH.of p⟩,_,zJ,_,zJ,dh,λa ha=>?_⟩⟩;have sa:=AE (aB.refl J) ha (o:=HO.tup [V.str x,u]);have bg:=hpd.length;refine⟨z.l,_,_,zJ,zJ,sa _ _ p,AS (by grind),?_⟩;generalize Y:upd (upd J a (HO.tup [V.str x,u])) z.l (HO.lst (as.map V.ref++[V.ref a]))=H2;have M:z.e≠z.l:=λy=>by simp_all
 have U:∀b o,J b=some o->b≠z.l->H2 b=some o:=λb o e hb=>by rw[←Y,AD hb];exact sa _ _ e
 have L:=U _ _ hk M;obtain⟨dx,hb⟩:=B.bk;refine⟨_,zJ,_,zJ,dh,λt ht=>?_⟩;have j:=AE (aB.refl H2) ht (o:=HO.tup [V.int n,V.int c]);refine⟨_,zJ,⟨z.b,BC,dx,_,_,zJ,j _ _ (U _ _ hb (λy=>by simp_all)),O.cl,O.nE,RC _ _ _,_,zJ,z.e,_,zJ,eI.k (k:=Sum.inr x) (j _ _ L) T.small,?_⟩⟩;have I:(upd H2 t (HO.tup [V.int n,V.int c])) t=some (.tup [.int n,.int c]):=aA;generalize e3:upd H2 t (HO.tup [V.int n,V.int c])=H3 at j I;have ef:fY z J (upd H3 z.e (.dK (Ba l (Sum.inr x) (.ref t)))):=λb o e h1 X=>by rw[AD h1];exact j _ _ (U b o e X)
 have tk:∀b G,H3 b=some (.tup G)->(upd H3 z.e (.dK (Ba l (Sum.inr x) (.ref t)))) b=some (.tup G):=λb G e=>by rw[AD (λy=>by rw[y,j _ _ L]at e;cases e)];exact e
 have t1:∀b G,J b=some (.tup G)->H3 b=some (.tup G):=λb G e=>j _ _ (U b _ e (λy=>by simp_all));refine q _ ef (B.deed ef ⟨_,aA,?_⟩ ⟨as,a,p,?_,u,?_,?_⟩ hl ?_)
 ·rw[←eg];exact((T.keep t1).put hx I).keep tk
 ·rw[AD (Ne.symm M),zR];apply j _ _;rw[←Y,aA];rfl
 ·refine tk _ _ (j _ _ ?_);rw[←Y,AD (λy=>by simp_all),aA]
 ·exact(N.keep t1).keep tk
 ·rw[←eg];intro y m d e;by_cases hy:y=x
  ·subst hy;rw[D7]at e
   simp_all
  ·rw[D8 _ _ hy]at e;exact B.ok y m d e
end
def Ps(h:x∈a.map (·.1)):∃p∈a,look a x=p.2:=by
 unfold look;cases q:a.find? λp=>decide (p.1=x)with
 |none=>
  grind
 |some p=>grind
def eH(aD:Aa)(n:Nat):Prop:=n-(n&&&kn aD)=0
def eH.iff:eH aD n ↔ ∀k,n.testBit k=true->(kn aD).testBit k=true:=by
 constructor
 ·intro h k a;have:=congrArg (λm=>m.testBit k) h;simp[LQ,a]at this;simpa using this
 ·intro h;refine Nat.eq_of_testBit_eq λk=>?_;rw[LQ]
  simp_all
def eH.or{a}{n m}(h:eH a n)(g:eH a m):eH a (n|||m):=eH.iff.mpr λk d=>by
 rw[Nat.testBit_or,Bool.or_eq_true]at d;exact d.elim (eH.iff.mp h k) (eH.iff.mp g k)
def eH.sub(m)(h:eH aD n):eH aD (n-(n&&&m)):=eH.iff.mpr λk a=>by
 rw[LQ,Bool.and_eq_true]at a;exact eH.iff.mp h k a.1
def Jf{a}{d:hA}(hs:∀x∈d,x∈a.map (·.1)):eH a (Aj (d.map (look a))):=eH.iff.mpr λk e=>by
 rw[Co,any_map,any_eq_true]at e;obtain⟨x,h,j⟩:=e;obtain⟨p,i,e⟩:=Ps (hs x h);unfold kn;rw[Co,any_map]
 grind
def NL{d:hA}(hs:∀x∈d,x∈a.map (·.1))(h:∀p∈a,p.2<2^20):Aj (d.map (look a))<2^20:=by
 refine EU λn j=>?_;obtain⟨x,i,rfl⟩:=zO.mp j;obtain⟨p,l,e⟩:=Ps (hs x i)
 grind
section
structure g6(aD:Aa)(ns:hA):Prop where
 l:ns.length<=100
 s:∀x∈ns,x∈aD.map (·.1)
 lt:∀p∈aD,p.2<2^20
inductive spVo(b:Bool)(C VC:hO)(vs:hK)(H:Hp)(Q:VK)(_E:XK):Prop
 |mk (k l) (aD) (r) (ns) (aW:vs=[.ref k,.ref l]) (aX:aQ C H k aD r) (bz:H l=some (if b then .tup (ns.map V.str)else .lst (ns.map V.str))) (bQ:g6 aD ns) (cw:∀q H',aB H H'->bV VC H' q k (Aj (ns.map (look aD)))->Q (.ref q) H')
def ZZ:AH [iy,i1] [iy,i1] (defScope JJ):=bA
def VY(b)(F:aN ω kH kH JJ f fd)(B:Bl mg)(T:E6 ω C)(VO:IH P w ω mg base C VC)(GU:Fn P w ω mg base ko 1 [iC] (spUnionOf ω))(GN:Mt P w ω mg base C il 2 [hZ,ij] (spNumber C)):aE P w ω mg base aS 6 f fd [iy,i1] (spVo b C VC):=by
 refine F.m ZZ λvs H Q E h=>?_;obtain⟨k,l,a,r,z,rfl,KA,X,N,q⟩:=h;refine⟨zJ,λae A outer s L=>?_⟩;obtain⟨dk,d1,d2,hk⟩:=KA.ins;have bg:=N.l
 have I:∀{t1 t2:TS}{D:IV}{Y:St},Y[1]?=some (some (.ref l))->(∀y,aB H y->t2 D Y y)->Vf (Tj (Wz (Oq (tCB (λxs H Q=>∃p t u,xs=[.ref p,.ref t]/\((H p=some (.lst u))\/(H p=some (.tup u)))/\aP ω H t [V.ty iB,V.ty iF]/\Q (.bl true) H) (At (Kh 1) (At (Ts (At (tC (.ty iB)) (At (tC (.ty iF)) B8))) B8))))) t1 RJ) t2 D Y H:=λ{t1 t2 D Y}hσ k2=>by
  refine⟨_,hσ,(by trivial),λt ht=>?_⟩;have d:=AE (aB.refl _) ht (o:=HO.tup [V.ty iB,V.ty iF]);have:=d _ _ X;refine⟨l,t,z.map V.str,zJ,?_,aP.of aA,_,zJ,AV (k2 _ d)⟩
  simp_all
 have S:∀{i:Nat}{v:V},(z.map V.str)[i]?=some v->∃x,v=V.str x/\x∈a.map (·.1)/\A0 ((z.take i).map (look a))++[V.int (look a x)]=A0 ((z.take (i+1)).map (look a)):=λ{i v}J=>by
  rw[z4]at J;obtain⟨x,M,rfl⟩:=Z6.mp J;refine⟨x,zJ,N.s x (Zr M),?_⟩;rw[z0,M,zR];unfold A0
  simp_all
 have R:∀{y:Hp}{q:Prop},aB H y->q->ExM C il (.ref k) y q:=λd q=>⟨k,dk,_,rfl,d _ _ hk,(CT _ _ _),q⟩;have G:∀i,(A0 ((z.take i).map (look a))).length<=1000:=λi=>by unfold A0;grind
 have U:∀{y:Hp},aB H y->∀p,y p=none->spUnionOf ω [.ref p] (upd y p (.lst (A0 (z.map (look a))))) (λv j=>∀x Z,j x=none->j Z=none->Z≠x->spVInit C VC (.ref x::([.ref k,v]++[])) (upd (upd j Z (.own x)) x (.ins VC Z [])) (λv H3=>v=.aO/\Q (.ref x) H3) E0) E0:=λ{y}d p O=>by
  have s2:=d.trans (AE (aB.refl _) O (o:=HO.lst (A0 (z.map (look a)))));exact⟨p,z.map (look a),zJ,aH.of aA,NK (KA.same s2) zJ (Nat.lt_trans (NL N.s N.lt) qc) (.inr (Jf N.s)) λq' H3 s3=>q q' H3 (s2.trans s3)⟩
 have el:z.take (z.map V.str).length=z:=by rw[AQ];exact zY
 cases b with
 |false=>
  refine⟨_,AC (AY (Aw (Ao (AR (Iv ω zJ) zJ B.c9 Ef (bG (pv 1) (Ai (bG (De (v:=.ty iB) zJ B.list Ez zJ) (De (v:=.ty iF) zJ B.tuple C4 zJ))))))) (AB Ag) AM)
   (AB (AI (c_v VO L (bG (pv 0) (cI GU L (cj (BW [iy] [some 0] (by rfl) (by trivial) (by rfl) rfl (Bh (pv 1)) (λ_ _ _ _ _ _=>BS) (λ_ _ _ _ _ _=>gW (pv 1) T.cl GN L (cj (pv 0)))))))))),I rfl λy d=>?_⟩
  refine⟨_,zJ,_,zJ,l,zJ,⟨_,aH.of (d _ _ X)⟩,CH (λi u j=>u=A0 ((z.take i).map (look a))/\j=y) ⟨zJ,zJ⟩ (λi u j _ m=>by obtain⟨_,e⟩:=m;exact e ▸ aH.of (d _ _ X)) (λi u j n=>by obtain⟨e,_⟩:=n;exact e ▸ G i) ?_ ?_⟩
  ·rintro i v u j J ⟨rfl,rfl⟩;obtain⟨x,rfl,M,e⟩:=S J;exact⟨_,zJ,R d ⟨_,zJ,k,a,r,x,zJ,KA.same d,M,e,zJ⟩⟩
  ·rintro u j ⟨rfl,rfl⟩ p O;rw[el];exact U d p O
 |true=>
  refine⟨_,AC (AY (Aw (Ao (AR (Iv ω zJ) zJ B.c9 Ef (bG (pv 1) (Ai (bG (De (v:=.ty iB) zJ B.list Ez zJ) (De (v:=.ty iF) zJ B.tuple C4 zJ))))))) (AB Ag) AM)
   (AB (AI (c_v VO L (bG (pv 0) (cI GU L (cj (BW [iy] [some 0] (by rfl) (by trivial) (by rfl) rfl (Nf (pv 1)) (λ_ _ _ _ _ _=>BS) (λ_ _ _ _ _ _=>gW (pv 1) T.cl GN L (cj (pv 0)))))))))),I rfl λy d=>?_⟩
  refine⟨_,zJ,_,zJ,l,zJ,⟨_,aP.of (d _ _ X)⟩,Ip (λi u j=>u=A0 ((z.take i).map (look a))/\j=y) ⟨zJ,zJ⟩ (λi u j _ g=>by obtain⟨_,e⟩:=g;exact e ▸ aP.of (d _ _ X)) (λi u j c=>by obtain⟨e,_⟩:=c;exact e ▸ G i) ?_ ?_⟩
  ·rintro i v u j J ⟨rfl,rfl⟩;obtain⟨x,rfl,M,e⟩:=S J;exact⟨_,zJ,R d ⟨_,zJ,k,a,r,x,zJ,KA.same d,M,e,zJ⟩⟩
  ·rintro u j ⟨rfl,rfl⟩ p O;rw[el];exact U d p O
inductive spIb(vs:hK)(H:Hp)(Q:VK)(_E:XK):Prop
 |mk (x) (aW:vs=[.str x]) (aX:x∈c4) (bz:∀H',aB H H'->Q (.bl true) H')
def Oj:∀x∈c4,x.cps.all (· < 128)=true/\1<=x.length/\x.length<=8/\x.cps.toList.all C9=true:=by decide +kernel
def Zb:AH [ig] [ig] (defScope EY):=bA
def YN(F:aN ω jV jV EY f fd)(B:Bl mg)(hL:mg "LONGEST_BOOK_NAME"=some (.int 8 tg)):aE P w ω mg base aS 1 f fd [ig] spIb:=by
 refine F.m Zb λvs H Q E h=>?_;obtain⟨x,rfl,hx,q⟩:=h;refine⟨zJ,λae A outer s hr=>?_⟩;obtain⟨ha,h1,h8,hs⟩:=Oj x hx
 refine⟨_,AC (AY (PW.pt (CW (Aw (Ao (Bt ω zJ zJ B.c9 zJ B.str Ft (pv 0)))) (Bc (Aw (EL EI EI AF (AR A4 zJ B.len PySem.boot_len (cj (pv 0))) (BJ (v:=.int 8) zJ hL ⟨tg,zJ⟩)))))) (AB Ag) AM)
  (AB (AI (AR (DY rfl) rfl B.all He (cj (BW [] [] (by rfl) (by simp) (by rfl) rfl (Ir (pv 0)) (λ_ _ _ _ _ _=>BS) (λ_ _ _ _ _ _=>EJ Bu Bu AL (pv 0) AL)))))),?_⟩
 refine⟨_,zJ,_,_,_,true,zJ,.str x,zJ,_,zJ,AV ⟨_,zJ,x,zJ,Nat.le_of_lt (AS (by lia)),_,_,zJ,zJ,_,zJ,?_⟩⟩;rw[Zm (by lia)];refine Ah ⟨_,_,zJ,zJ,_,zJ,?_⟩;rw[Zm (by lia)];refine AV ⟨_,zJ,x,zJ,ha,Gi (λi ys H2=>i<=8/\H2=H/\ys=List.replicate i (V.bl true)) ⟨qc,zJ,zJ⟩ (λi ys H2 y=>by obtain⟨h,_,e⟩:=y;grind) ?_ ?_⟩
 ·rintro i c ys H2 hc ⟨_,rfl,rfl⟩;have hlx:x.cps.size=x.length:=rfl
  have hi:i<x.cps.size:=by
   rcases Nat.lt_or_ge i x.cps.size with z|z
   ·exact z
   ·simp_all
  have hu:=Hq 97 122 "a" "z" (by rfl) (by rfl) c;have fin:∀b,b=C9 c->(i+1<=8/\H2=H2/\List.replicate i (V.bl true)++[V.bl b]=List.replicate (i+1) (V.bl true)):=λb hb=>⟨by lia,rfl,by rw[hb,all_eq_true.mp hs c (by grind),List.replicate_succ']⟩;refine⟨_,zJ,_,_,zJ,zJ,_,zJ,?_⟩;refine BH (λh3=>?_) (λh3=>?_)
  ·rw[zM h3]at hu;exact⟨_,_,zJ,zJ,fin _ hu⟩
  ·rw[zN h3]at hu;exact fin _ hu
 ·rintro ys H2 ⟨h8',rfl,rfl⟩ p hp;refine⟨p,List.replicate x.cps.size true,zJ,aH.of (by rw[aA,List.map_replicate]),?_⟩;rw[show(List.replicate x.cps.size true).all id=true by simp];exact q _ (AE (aB.refl _) hp)
end
section
def NM(BC C:hO)(z:Za)(aD:Aa)(r:Str)(g:En)(D:gx)(H:Hp)(Q:VK):Prop:=∀H',fY z H H'->cq BC C z aD r g D H'->Q .aO H'
def Vok(aD:Aa)(r:Str)(n:Nat):Prop:=n<2^20/\(r=jo \/ n-(n&&&kn aD)=0)
def Jg(B:cq BC C z aD r g D H)(e:bV VC H v z.k n)(a:x∈c4)(d:D.length<100)(h:Vok aD r n)(q:NM BC C z aD r (ez g x n) (D++[(x,g x)]) H Q):eO BC C VC (.ref z.b::([.str x,.ref v]++[])) H Q E:=⟨z,aD,r,g,D,x,v,n,rfl,B,e,a,d,h,q⟩
def cq.nm(B:cq BC C z aD r g D H)(d:H l=some (if b then .tup (ns.map V.str)else .lst (ns.map V.str)))(N:g6 aD ns)(q:∀q H',aB H H'->bV VC H' q z.k (Aj (ns.map (look aD)))->a (.ref q) H'):spVo b C VC (.ref z.k::([.ref l]++[])) H a E:=⟨z.k,l,aD,r,ns,rfl,B.ka,d,N,q⟩
def g6.ok{a}{r}{d}(N:g6 a d):Vok a r (Aj (d.map (look a))):=⟨NL N.s N.lt,.inr (Jf N.s)⟩
abbrev Pt(C VC:hO):Sp:=λvs H Q E=>spVo false C VC vs H Q E\/spVo true C VC vs H Q E
def cq.nmE(b:Bool)(B:cq BC C z aD r g D H)(a:H l=some (if b then .tup (ns.map V.str)else .lst (ns.map V.str)))(N:g6 aD ns)(q:∀q H',aB H H'->bV VC H' q z.k (Aj (ns.map (look aD)))->d (.ref q) H'):Pt C VC (.ref z.k::([.ref l]++[])) H d E:=by
 cases b with
 |false=>exact .inl (B.nm a N q)
 |true=>exact .inr (B.nm a N q)
inductive spPu(BC C:hO)(vs:hK)(H:Hp)(Q:VK)(_E:XK):Prop
 |mk (z) (aD) (r) (g) (D) (x) (l) (ns) (aW:vs=[.ref z.b,.str x,.ref l]) (aX:cq BC C z aD r g D H) (bz:x∈c4) (bQ:D.length<100) (cw:H l=some (.lst (ns.map V.str))) (cX:g6 aD ns) (eN:NM BC C z aD r (ez g x (Aj (ns.map (look aD)))) (D++[(x,g x)]) H Q)
def Zc:AH [hZ,ij,i1] [hZ,ij,i1] (defScope JN):=bA
def YO(F:aN ω "put" "Book.put" JN f fd)(j:DA ω BC)(M:Fn P w ω mg base jV 1 [ig] spIb)(L:Fn P w ω mg base kH 6 [iy,i1] (Pt C VC))(y:Mt P w ω mg base BC "give" 2 [hZ,ij,jF] (eO BC C VC)):aE P w ω mg base aS 7 f fd [hZ,ij,i1] (spPu BC C):=by
 refine F.m Zc λU H Q E h=>?_;obtain⟨z,R,r,g,D,x,l,X,rfl,B,p,T,S,N,q⟩:=h;refine⟨zJ,λu A i s d=>?_⟩;exact⟨_,AC (AY (Aw (Ao (cI M d (cj (pv 1))))) (AB Ag) AM) (AB (Ae (gW (pv 0) j.cl y d (bG (pv 1) (cI L d (bG (Af (pv 0) zJ) (pv 2))))))),_,zJ,x,zJ,p,λY a=>⟨_,zJ,AV ⟨_,zJ,(B.same a).no ⟨_,zJ,_,zJ,g_k j (B.same a) ⟨_,zJ,.inl ((B.same a).nm (a _ _ S) N λv Z t I=>Jg (Q:=λ_ G=>Q .aO G) ((B.same a).same t) I p T N.ok λJ O=>q J λb o e=>O b o (t _ _ (a _ _ e)))⟩⟩⟩⟩⟩
inductive spMr(p:Nat->Nat->Nat)(BC C cB:hO)(vs:hK)(H:Hp)(Q:VK)(E:XK):Prop
 |mk (z) (aD) (r) (g) (D) (x) (l) (ns) (b:Bool) (n c) (aW:vs=[.ref z.b,.str x,.ref l]) (aX:cq BC C z aD r g D H) (bz:x∈c4) (bQ:D.length<100) (cw:H l=some (if b then .tup (ns.map V.str)else .lst (ns.map V.str))) (cX:g6 aD ns) (z_a:Asc aD) (eN:g x=some (n,c)) (ff:NM BC C z aD r (ez g x (p n (Aj (ns.map (look aD))))) (D++[(x,g x)]) H Q)
 |no (z) (aD) (r) (g) (D) (x) (l) (aW:vs=[.ref z.b,.str x,l]) (aX:cq BC C z aD r g D H) (bz:g x=none) (bQ:Uq H E cB)
def Zd:AH [hZ,ij,"more"] [hZ,ij,"more"] (defScope HV):=bA
def YQ(F:aN ω "mark" "Book.mark" HV f fd)(u:DA ω BC)(S:Fn P w ω mg base "union" 6 [jQ,iS] (spOp gOr C VC))(Z:Fn P w ω mg base kH 6 [iy,i1] (Pt C VC))(I:Dd P w ω mg base BC jF 6 [hZ,ij] (spVl BC C VC cB))(R:Mt P w ω mg base BC "give" 2 [hZ,ij,jF] (eO BC C VC)):aE P w ω mg base (cz P w) 7 f fd [hZ,ij,"more"] (spMr gOr BC C cB):=by
 refine F.fj Zd (λvs H Q E h=>?_) (λM A G s H vs Q E j h=>?_)
 ·rcases h with⟨_,_,_,_,_,_,_,_,_,_,_,rfl⟩|⟨_,_,_,_,_,_,_,rfl⟩<;>rfl
 ·refine⟨_,AB (Ae (gW (pv 0) u.cl R j (bG (pv 1) (cI S j (bG (Em (pv 0) u.cl I j ES (cj (pv 1))) (cI Z j (bG (Af (pv 0) rfl) (pv 2)))))))),?_⟩;rcases h with⟨z,a,r,g,D,x,l,L,b,n,c,rfl,B,hx,hD,hl,N,t,i,q⟩|⟨z,a,r,g,D,x,l,rfl,B,i,hU⟩
  ·refine⟨_,zJ,B.no ⟨_,zJ,_,zJ,B.no ⟨_,zJ,.mk z a r g D x n c zJ B i λv1 H1 d Y=>⟨_,zJ,g_k u (B.same d) ⟨_,zJ,?_⟩⟩⟩⟩⟩;have J:=B.ok x n c i;have X:Vok a r (Aj (L.map (look a))):=N.ok;have v:Vok a r (gOr n (Aj (L.map (look a)))):=⟨Nat.or_lt_two_pow J.1 X.1,J.2.imp id λz=>eH.or z (Jf N.s)⟩;have y:=B.same d;exact y.nmE b (d _ _ hl) N λv2 H2 p O=>⟨v1,v2,z.k,n,_,a,r,zJ,Y.same p,O,y.ka.same p,t,Nat.lt_trans v.1 qc,v.2,λv3 H3 s3 T=>Jg (Q:=λ_ U=>Q .aO U) ((y.same p).same s3) T hx hD v λH4 ef=>q H4 λb o e=>ef b o (s3 _ _ (p _ _ (d _ _ e)))⟩
  ·exact⟨_,zJ,B.no ⟨_,zJ,_,zJ,B.no ⟨_,zJ,.no z a r g D x zJ B i hU⟩⟩⟩
def Ze:AH [hZ,ij,"less"] [hZ,ij,"less"] (defScope Ea):=bA
def YR(F:aN ω "unmark" "Book.unmark" Ea f fd)(u:DA ω BC)(R:Fn P w ω mg base "without" 6 [jQ,iS] (spOp Lk C VC))(X:Fn P w ω mg base kH 6 [iy,i1] (Pt C VC))(I:Dd P w ω mg base BC jF 6 [hZ,ij] (spVl BC C VC cB))(O:Mt P w ω mg base BC "give" 2 [hZ,ij,jF] (eO BC C VC)):aE P w ω mg base (cz P w) 7 f fd [hZ,ij,"less"] (spMr Lk BC C cB):=by
 refine F.fj Ze (λZ H Q E h=>?_) (λL A G s H Z Q E j h=>?_)
 ·rcases h with⟨_,_,_,_,_,_,_,_,_,_,_,rfl⟩|⟨_,_,_,_,_,_,_,rfl⟩<;>rfl
 ·refine⟨_,AB (Ae (gW (pv 0) u.cl O j (bG (pv 1) (cI R j (bG (Em (pv 0) u.cl I j ES (cj (pv 1))) (cI X j (bG (Af (pv 0) rfl) (pv 2)))))))),?_⟩;rcases h with⟨z,a,r,g,D,x,l,ns,b,n,c,rfl,B,hx,hD,hl,N,t,i,q⟩|⟨z,a,r,g,D,x,l,rfl,B,i,hU⟩
  ·refine⟨_,zJ,B.no ⟨_,zJ,_,zJ,B.no ⟨_,zJ,.mk z a r g D x n c zJ B i λv1 H1 d U=>⟨_,zJ,g_k u (B.same d) ⟨_,zJ,?_⟩⟩⟩⟩⟩;have J:=B.ok x n c i;have v:Vok a r (Lk n (Aj (ns.map (look a)))):=⟨Nat.lt_of_le_of_lt (Nat.sub_le _ _) J.1,J.2.imp id λz=>eH.sub _ z⟩;have y:=B.same d;exact y.nmE b (d _ _ hl) N λv2 H2 p M=>⟨v1,v2,z.k,n,_,a,r,zJ,U.same p,M,y.ka.same p,t,Nat.lt_trans v.1 qc,v.2,λv3 H3 s3 S=>Jg (Q:=λ_ T=>Q .aO T) ((y.same p).same s3) S hx hD v λY ef=>q Y λb o e=>ef b o (s3 _ _ (p _ _ (d _ _ e)))⟩
  ·exact⟨_,zJ,B.no ⟨_,zJ,_,zJ,B.no ⟨_,zJ,.no z a r g D x zJ B i hU⟩⟩⟩
inductive spTn(BC C cB:hO)(vs:hK)(H:Hp)(Q:VK)(E:XK):Prop
 |mk (z) (aD) (r) (g) (D) (x) (n c) (aW:vs=[.ref z.b,.str x]) (aX:cq BC C z aD r g D H) (bz:x∈c4) (bQ:D.length<100) (cw:kn aD<2^20) (eN:g x=some (n,c)) (ff:NM BC C z aD r (ez g x (kn aD-(kn aD&&&n))) (D++[(x,g x)]) H Q)
 |no (z) (aD) (r) (g) (D) (x) (aW:vs=[.ref z.b,.str x]) (aX:cq BC C z aD r g D H) (bz:g x=none) (bQ:Uq H E cB)
def Zf:AH [hZ,ij] [hZ,ij] (defScope HW):=bA
def YS(F:aN ω "turn" "Book.turn" HW f fd)(t:DA ω BC)(J:Fn P w ω mg base "turned" 6 [jQ] (spTu C VC))(p:Dd P w ω mg base BC jF 6 [hZ,ij] (spVl BC C VC cB))(y:Mt P w ω mg base BC "give" 2 [hZ,ij,jF] (eO BC C VC)):aE P w ω mg base (cz P w) 7 f fd [hZ,ij] (spTn BC C cB):=by
 refine F.fj Zf (λN H Q E h=>?_) (λv A l s H N Q E j h=>?_)
 ·rcases h with⟨_,_,_,_,_,_,_,_,rfl⟩|⟨_,_,_,_,_,_,rfl⟩<;>rfl
 ·refine⟨_,AB (Ae (gW (pv 0) t.cl y j (bG (pv 1) (cI J j (cj (Em (pv 0) t.cl p j ES (cj (pv 1)))))))),?_⟩;rcases h with⟨z,a,r,g,D,x,n,c,rfl,B,U,S,u,i,q⟩|⟨z,a,r,g,D,x,rfl,B,i,O⟩
  ·exact⟨_,zJ,B.no ⟨_,zJ,_,zJ,B.no ⟨_,zJ,.mk z a r g D x n c zJ B i λT Z d L=>⟨T,z.k,n,a,r,zJ,L,B.ka.same d,u,λY X s3 G=>Jg (Q:=λ_ I=>Q .aO I) ((B.same d).same s3) G U S ⟨Nat.lt_of_le_of_lt (Nat.sub_le _ _) u,.inr (PZ _ _)⟩ λM R=>q M λb o e=>R b o (s3 _ _ (d _ _ e))⟩⟩⟩⟩
  ·exact⟨_,zJ,B.no ⟨_,zJ,_,zJ,B.no ⟨_,zJ,.no z a r g D x zJ B i O⟩⟩⟩
end
section
def cq.kp(B:cq BC C z aD r g D H)(s:fY z H H')(e:H b=some o)(h:∀d,o≠ .dK d:=by intro _;exact λz=>nomatch z)(l:∀xs,o≠ .lst xs:=by intro _;exact λz=>nomatch z):H' b=some o:=by
 obtain⟨a,j,_⟩:=B.en;obtain⟨i,p,_⟩:=B.de;exact s b o e (λz=>by grind) (λz=>by grind)
def cq.to(B:cq BC C z aD r g D H)(s:fY z H H')(v:∃kvs,H' z.e=some (.dK kvs)/\d8 H' kvs g')(u:∃d,H' z.l=some (.lst (d.map V.ref))/\Paired (eR H) d i)(x:i.length<=100)(ok:gi aD r g'):cq BC C z aD r g' i H':=by
 obtain⟨h,j⟩:=B.bk;obtain⟨d,p,t⟩:=u;refine⟨⟨h,B.kp s j⟩,?_,v,⟨d,p,Paired.imp' (λ_ _ q=>q.keep λb E e=>B.kp s e) t,x⟩,ok⟩;obtain⟨h,y,l,A,o,a,b,c⟩:=B.ka.ex;exact⟨⟨h,y,l,A,o,B.kp s a,B.kp s b,B.kp s c⟩⟩
def gi.set(h:gi aD r g)(v)(i:∀n c,v=some (n,c)->Vok aD r n):gi aD r (Eo g x v):=λy m d e=>by
 by_cases a:y=x
 ·subst a;rw[D7]at e;exact i m d e
 ·rw[D8 _ _ a]at e;exact h y m d e
inductive spDr(BC C cB:hO)(vs:hK)(H:Hp)(Q:VK)(E:XK):Prop
 |mk (z) (aD) (r) (g) (D) (x) (n c) (aW:vs=[.ref z.b,.str x]) (aX:cq BC C z aD r g D H) (bQ:D.length<100) (eN:g x=some (n,c)) (ff:NM BC C z aD r (Eo g x none) (D++[(x,g x)]) H Q)
 |no (z) (aD) (r) (g) (D) (x) (aW:vs=[.ref z.b,.str x]) (aX:cq BC C z aD r g D H) (bz:g x=none) (bQ:Uq H E cB)
def Zg:AH [hZ,ij] [hZ,ij] (defScope HX):=bA
def YT(F:aN ω ma "Book.drop" HX f fd)(l:DA ω BC)(GE:Dd P w ω mg base BC "entry" 3 [hZ,ij] (spEn BC C cB)):aE P w ω mg base (cz P w) 4 f fd [hZ,ij] (spDr BC C cB):=by
 refine F.fj Zg (λvs H Q E h=>?_) (λZ A R s H vs Q E hr h=>?_)
 ·rcases h with⟨_,_,_,_,_,_,_,_,rfl⟩|⟨_,_,_,_,_,_,rfl⟩<;>rfl
 ·refine⟨_,AC (Ae (Bn plainAttrs_list PySem.F.slot_list_append PySem.F.type_list_append Au (Af (pv 0) rfl) (cj (Ai (bG (pv 1) (Em (pv 0) l.cl GE hr ES (cj (pv 1)))))))) (AB (Ae (Ik (Af (pv 0) rfl) (pv 1) ⟨rfl,rfl,rfl,rfl⟩))),?_⟩;rcases h with⟨z,j,r,g,D,x,n,c,rfl,B,hD,p,q⟩|⟨z,j,r,g,D,x,rfl,B,p,hU⟩
  ·obtain⟨i,hk,T⟩:=B.en;obtain⟨G,d,N,_⟩:=B.de;obtain⟨dx,S⟩:=B.bk;obtain⟨t0,O,_⟩:=T.vl x n c p;refine⟨_,zJ,g_d l B ⟨.inl ⟨zJ,_,aH.of d⟩,_,zJ,_,zJ,B.no ⟨_,zJ,.mk z j r g D x n c zJ B p λt ht=>⟨dh,λa ha=>?_⟩⟩⟩⟩;have U:=AE (aB.refl H) ha (o:=HO.tup [V.str x,V.ref t]);have X:=N.length;refine⟨z.l,_,_,zJ,zJ,U _ _ d,AS (by grind),?_⟩;have v:z.e≠z.l:=λy=>by simp_all
   have M:a≠z.l:=λy=>by simp_all
   generalize L:upd (upd H a (HO.tup [V.str x,V.ref t])) z.l (HO.lst (G.map V.ref++[V.ref a]))=H2;have Y:∀b o,H b=some o->b≠z.l->H2 b=some o:=λb o e S=>by rw[←L,AD S];exact U _ _ e
   have u:=Y _ _ hk v;have l2:H2 z.l=some (.lst ((G++[a]).map V.ref)):=by rw[←L,aA,zR];rfl
   refine⟨_,zJ,⟨z.b,BC,dx,_,_,zJ,Y _ _ S (λy=>by simp_all),l.cl,l.nE,RC _ _ _,z.e,zJ,.inl ⟨_,.inl u⟩,_,zJ,i,Sum.inr x,_,u,zJ,O,?_⟩⟩;have I:fY z H (upd H2 z.e (.dK (Bo i (Sum.inr x)))):=λb o e h1 h2=>by rw[AD h1];simp_all
   have tk:∀b J,H2 b=some (.tup J)->(upd H2 z.e (.dK (Bo i (Sum.inr x)))) b=some (.tup J):=λb J e=>by rwa[AD (λy=>by simp_all)]
   refine q _ I (B.deed I ⟨_,aA,(T.keep λb J e=>B.kp I e).drop⟩ ⟨G,a,d,by rw[AD (Ne.symm v)];exact l2,.ref t,tk _ _ (by rw[←L,AD M,aA]),?_⟩ hD (B.ok.set none λ_ _ e=>nomatch e));exact .inr ⟨n,c,t,p,rfl,B.kp I ht⟩
  ·obtain⟨G,d,_⟩:=B.de;exact⟨_,zJ,g_d l B ⟨.inl ⟨zJ,_,aH.of d⟩,_,zJ,_,zJ,B.no ⟨_,zJ,.no z j r g D x zJ B p hU⟩⟩⟩
inductive spTk(BC C cN:hO)(vs:hK)(H:Hp)(Q:VK)(E:XK):Prop
 |mk (z) (aD) (r) (g) (D) (x) (b) (aW:vs=[.ref z.b]) (aX:cq BC C z aD r g (D++[(x,b)]) H) (bz:x∈c4) (bQ:b=none->g x≠none) (cw:∀n c,b=some (n,c)->Vok aD r n) (ff:NM BC C z aD r (Eo g x b) D H Q)
 |no (z) (aD) (r) (g) (aW:vs=[.ref z.b]) (aX:cq BC C z aD r g [] H) (bQ:Uq H E cN)
def BQ{α d}{F}:∀{h:List α}{D}{p:d},Paired F h (D++[p])->∃bs a,h=bs++[a]/\Paired F bs D/\F a p
 |_,[],_,.cons a .nil=>⟨[],_,rfl,.nil,a⟩
 |_,_::D,_,.cons a r=>by
  obtain⟨bs,c,e,i,j⟩:=BQ r;exact⟨_::bs,c,by rw[e];rfl,.cons a i,j⟩
def scTk:AH [hZ,ij,"before"] [hZ] (defScope DK):=bA
def YU(F:aN ω lV "Book.take_back" DK f fd)(B:Bl mg)(p:DA ω BC)(EN:cY P w ω mg base jb cN):aE P w ω mg base (cz P w) 3 f fd [hZ] (spTk BC C cN):=by
 refine F.fj scTk (λvs H Q E h=>?_) (λae A Y s H vs Q E hr h=>?_)
 ·rcases h with⟨_,_,_,_,_,_,_,rfl⟩|⟨_,_,_,_,rfl⟩<;>rfl
 ·have nd:=scTk.nd
  refine⟨_,AC (AY (AK As (AR (A3 ω zJ) zJ B.len PySem.boot_len (cj (Af (pv 0) zJ))) AF (AN _)) (AB (VX EN hr)) AM)
   (AC (Bd (EO plainAttrs_list slot_list_pop type_list_pop FK (Af (pv 0) rfl)) (BM rfl (AW (AU (i:=1) nd rfl (Or.inl rfl)) (AW (AU (i:=2) nd rfl (Or.inl rfl)) A9))))
   (AB (AY (Cr (Ki (pv 2))) (AB (Ae (Ik (Af (pv 0) rfl) (pv 1) ⟨rfl,rfl,rfl,rfl⟩))) (AB (Di (Bp hr) (Af (pv 0) rfl) (pv 1) (pv 2) rfl))))),?_⟩
  rcases h with⟨z,X,r,g,D,x,b,rfl,d,hx,hb0,U,q⟩|⟨z,X,r,g,rfl,d,hU⟩
  ·obtain⟨u,hk,N⟩:=d.en;obtain⟨as,j,G,hD⟩:=d.de;obtain⟨bs,a,rfl,L,v,ha,hv⟩:=BQ G;obtain⟨dx,Z⟩:=d.bk;refine⟨_,zJ,g_d p d ⟨z.l,_,zJ,.inl (aH.of j),zJ,_,zJ,?_⟩⟩;rw[Zp (λy=>by grind)];refine AV ⟨_,zJ,g_d p d ⟨.inl ⟨zJ,_,aH.of j⟩,z.l,_,.ref a,zJ,zJ,j,by simp,?_⟩⟩;have J:z.e≠z.l:=λy=>by simp_all
   have el:((bs++[a]).map V.ref).dropLast=bs.map V.ref:=by rw[zR];exact dropLast_concat
   rw[el];have O:∀b o,H b=some o->b≠z.l->(upd H z.l (.lst (bs.map V.ref))) b=some o:=λb o e Z=>by rwa[AD Z]
   have R:(upd H z.l (.lst (bs.map V.ref))) z.l=some (.lst (bs.map V.ref)):=aA;generalize upd H z.l (.lst (bs.map V.ref))=H2 at O R;have I:=O _ _ hk J;have M:=O _ _ Z (λy=>by simp_all);refine⟨a,_,zJ,aP.of (O _ _ ha (λy=>by simp_all)),zJ,_,_,zJ,_,_,zJ,zJ,_,zJ,_,zJ,?_⟩;have lD:D.length<=100:=by rw[z7]at hD;lia
   rcases hv with⟨e,rfl⟩|⟨n,c,t,e,rfl,ht⟩
   ·have he:=e;subst he
    obtain⟨y,hy⟩:∃y,g x=some y:=by
     cases e:g x with
     |none=>simp_all
     |some y=>simp
    obtain⟨t0,T,_⟩:=N.vl x y.1 y.2 hy;have l:fY z H (upd H2 z.e (.dK (Bo u (Sum.inr x)))):=λb o e S h2=>by rw[AD S];simp_all
    exact Ah ⟨_,rfl,⟨z.b,BC,dx,_,_,rfl,M,p.cl,p.nE,RC _ _ _,z.e,rfl,.inl ⟨_,.inl I⟩,_,rfl,u,Sum.inr x,_,I,rfl,T,q _ l (d.to l ⟨_,aA,(N.keep λb xs e=>d.kp l e).drop⟩ ⟨bs,by rw[AD (Ne.symm J)];exact R,L⟩ lD (d.ok.set none λ_ _ e=>nomatch e))⟩⟩
   ·subst e;have l:fY z H (upd H2 z.e (.dK (Ba u (Sum.inr x) (.ref t)))):=λb o e S h2=>by rw[AD S];simp_all
    exact AV ⟨_,zJ,_,zJ,⟨z.b,BC,dx,_,_,zJ,M,p.cl,p.nE,RC _ _ _,_,zJ,z.e,_,zJ,eI.k (k:=Sum.inr x) I N.small,q _ l (d.to l ⟨_,aA,(N.keep λb xs e=>d.kp l e).put hx (d.kp l ht)⟩ ⟨bs,by rw[AD (Ne.symm J)];exact R,L⟩ lD (d.ok.set _ λn c e=>U n c e))⟩⟩
  ·obtain⟨as,j,G,_⟩:=d.de;cases G;exact⟨_,zJ,g_d p d ⟨z.l,_,zJ,.inl (aH.of j),zJ,_,zJ,Ah (EN.rd (aB.refl _) hU)⟩⟩
def gY.of{n}(s:aB H H')(h:gY H E cR n):gY H' E cR n:=λe d j l a i=>h e d j (s.trans l) (none_of s a) (none_of s i)
inductive spVa(C VC cR:hO)(vs:hK)(H:Hp)(Q:VK)(E:XK):Prop
 |mk (k p) (n) (aW:vs=[.ref k,.ref p]) (aX:bV VC H p k n) (bz:Q (.ref p) H)
 |no (k) (aD) (r) (n:Nat) (aW:vs=[.ref k,.int (n)]) (aX:aQ C H k aD r) (bz:n<2^40) (bQ:gY H E cR ((n-(n&&&kn aD):Nat):Int))
def Zh:AH [iy,ig] [iy,ig] (defScope EZ):=bA
def YV(F:aN ω lj lj EZ f fd)(B:Bl mg)(J:KIsi ω VC)(O:mg "Value"=some (.ref VC))(z:W.kitOne ω (.type lM) (.ref VC)=some false)(i:Oc P w ω mg base cM cR)(G:Fn P w ω mg base lr 3 [iy,il] (spRestOf C)):aE P w ω mg base (cz P w) 4 f fd [iy,ig] (spVa C VC cR):=by
 obtain⟨_,_,d,M,L⟩:=i.make;refine F.fj Zh (λy H Q E h=>?_) (λt A e s H y Q E l h=>?_)
 ·rcases h with⟨_,_,_,rfl⟩|⟨_,_,_,_,rfl⟩<;>rfl
 ·refine⟨_,AC (AY (Aw (Ao (AR (Ka ω rfl) rfl B.c9 Ef (bG (pv 1) (BJ (v:=.ref VC) rfl O rfl))))) (AB (C1 Eu rfl d.cls (C0 d M l rfl i.cls L .nil AT (cj (cI G l (bG (pv 0) (pv 1))))))) AM) (AB (AI (pv 1))),?_⟩;rcases h with⟨k,p,n,rfl,⟨T,u⟩,q⟩|⟨k,a,r,n,rfl,R,N,I⟩
  ·exact⟨_,zJ,_,VC,_,true,zJ,J.ty u,Gq ω VC,_,zJ,AV ⟨_,zJ,q⟩⟩
  ·refine⟨_,rfl,_,VC,_,false,rfl,.int _,z,_,rfl,Ah ⟨_,rfl,_,rfl,k,a,r,n,rfl,R,λS x=>?_⟩⟩;refine Kc (σ:=[]) (D:={nx:=λ_ _=>True,rt:=λ_ _=>True}) (te:=tC (.int ((n-(n&&&kn a):Nat)))) d.cls i.st ?_ x I rfl;have j:n-(n&&&kn a)<2^40:=Nat.lt_of_le_of_lt (Nat.sub_le _ _) N;generalize n-(n&&&kn a)=m at j;rcases Nat.eq_zero_or_pos m with o|o
   ·rw[o];decide
   ·exact Nat.lt_trans ((Nat.log2_lt (by lia)).mpr j) qc
end
end Mk
end
section
namespace L2
open PySem PySem.Spec PyProof.Rows
def NN{a}{o}{kvs}{g}{tt}{tk te}{h}{R:LK->Hp->Prop}{σ}{j}(d:Nat->LK->Hp->Prop)(r:d 0 [] j)(t:∀i ys H,d i ys H->H a=some (.cb o (.dK kvs)))(hz:∀i ys H,d i ys H->ys.length<=1000)
  (hs:∀i e ys H p,kvs[i]?=some e->d i ys H->H p=none->bT g tt (taD tk te) h σ (.ref p) ys (d (i+1)) (upd H p (.tup [kV e.1,e.2]))) (l:∀ys H,d kvs.length ys H->R ys H):tW (g8 a o kvs) [] fy (bT g tt (taD tk te) h σ) R j:=JT d r t (λi ys H q=>KB (hz i ys H q)) hs l
end L2
namespace Mk
open PySem L2 MK PySem.NumText
noncomputable def fg(g:En)(s:Str):Nat:=((g s).map (·.1)).getD 0
structure TbG(g:En)(kvs:LK):Prop where
 v:∀s,BE s=true->Am kvs (Sum.inr s)=(g s).map λp=>V.int (p.1:Int)
 ok:Ph kvs
 al:kvs.all f6=true
structure TbI(g:En)(S:hA)(ys:LK):Prop where
 v:∀s,Am ys (Sum.inr s)=if s.length=1/\s∈S then (g s).map λp=>V.int (p.1:Int)else none
 e:∀kv∈ys,∃(s:Str)(n:Nat),kv=(Sum.inr s,V.int (n))/\s∈c4/\s.length=1/\n<2^20
 l:ys.length<=S.length
def Wl:∀s∈c4,s.length=1->BE s=true:=by trivial
def U5(h:BE s=true):s.length=1:=by
 unfold BE at h;rw[←A1]
 grind
def TbI.done(h:TbI g ms ys)(k:eE ms g):TbG g ys:=by
 have r:=k.len;have q:=h.l;refine⟨λs p=>?_,⟨by lia,λd a s e=>?_,λd a=>?_⟩,all_eq_true.mpr λd a=>?_⟩
 ·rw[h.v];by_cases j:s∈ms
  ·rw[zM ⟨U5 p,j⟩]
  ·rw[zN (λz=>j z.2),Classical.byContradiction λz=>j ((k.mem s).mpr z)];rfl
 ·obtain⟨i,n,rfl,o,l,_⟩:=h.e d a
  simp_all
 ·obtain⟨i,n,rfl,_⟩:=h.e d a
  simp_all
 ·obtain⟨i,n,rfl,o,l,t⟩:=h.e d a;show(BE i&&okN n)=true;rw[Wl i o l];unfold okN;rw[Zm (show(n:Int)<1099511627776 by lia)];rfl
def NO:∀{kvs:LK}{i:Nat}{k}{v},(kvs.map (·.1)).Nodup->kvs[i]?=some (k,v)->Am kvs k=some v
 |p::r,0,k,v,_,h=>by cases h;exact BA rfl
 |p::r,i+1,k,v,nd,h=>by
  obtain⟨j,d⟩:=zP.mp nd;have a:r[i]?=some (k,v):=h;rw[A6 (λe=>j (by show p.1∈_;rw[e];exact zO.mpr ⟨_,Zr a,rfl⟩))];exact NO d a
section
def mkN(r:Str)(aD:Aa)(v:Nat):Nat:=if r=jo then v else v-AX aD (v:Int)
def NP(r:Str)(aD:Aa)(v:Nat):Prop:=AX aD (v:Int)≠0/\(r=j7 \/ r=jZ)
inductive RcO(BC C cR cN:hO)(z:Za)(aD:Aa)(r:Str)(g:En)(D:gx)(x:Str)(T:hA)(H:Hp)(Q:VK)(E:XK):Prop
 |d4 (y) (hy:y∈T) (hl:BE y=true) (hn:g y=none) (q:Uq H E cN)
 |go (v) (hs:∀y∈T,BE y=true->g y≠none) (ev:∀kvs,TbG g kvs->Ev ⟨aD,kvs,fg g⟩ (some v) [] T) (hv:v<2^20) (q:(NP r aD v/\gY H E cR (AX aD (v):Nat))\/(¬ NP r aD v/\NM BC C z aD r (ez g x (mkN r aD v)) (D++[(x,g x)]) H Q))
inductive spRc(BC C cR cN bd:hO)(vs:hK)(H:Hp)(Q:VK)(E:XK):Prop
 |mk (z) (aD) (r) (g) (D) (x t) (T) (aW:vs=[.ref z.b,.str x,.str t]) (aX:cq BC C z aD r g D H) (bz:x∈c4) (bQ:D.length<100) (cw:kn aD<2^20) (cX:t.cps.all (· < 128)=true) (eN:t.length<=100) (ff:Rn true t (.ok T) 0 [] [] true) (z_8:TK T) (z_9:Rd H bd (.dK Cj)) (z_r:r∈b9) (z_10:RcO BC C cR cN z aD r g D x T H Q E)
noncomputable abbrev NRc:hA:=[hZ,ij,i6,jy]
def scRc:AH NRc [hZ,ij,i6] (defScope Eb):=bA
def YW(F:aN ω "reckon" "Book.reckon" Eb f fd)(B:Bl mg)(BT:DA ω BC)(GI:Fn P w ω mg base jV 1 [ig] spIb)(GA:g9 P w ω mg base lj 4 [iy,ig] (spVa C VC cR))(GK:g9 P w ω mg base kz 7 [iy,i6,jy] (spRk ω C VC cR cB cN bd cT))(GG:Mt P w ω mg base BC "give" 2 [hZ,ij,jF] (eO BC C VC)):aE P w ω mg base (cz P w) 8 f fd [hZ,ij,i6] (spRc BC C cR cN bd):=by
 refine F.n scRc λvs H Q E h=>?_;obtain⟨z,d,r,g,D,x,t,T,rfl,Bb,hx,hD,kl,ta,tl,rn,st,hbd,hr4,RO⟩:=h;refine⟨zJ,λae A outer s hr=>?_⟩;have nd:=scRc.nd
 refine⟨_,AC (AY (Aw (Ao (cI GI hr (cj (pv 1))))) (AB Ag) AM)
  (AC (MZ (QY (i:=3) nd rfl rfl [] [] (by rfl) (by trivial) (by rfl) (by rfl) rfl (Iq (Af (pv 0) rfl)) (λ_ _ _ _ _ _=>F8 (AK As (AR A4 rfl B.len PySem.boot_len (cj (pv 0))) AF (AN _))) (λ_ _ _ _ _ _=>pv 0) (λ_ _ _ _ _ _=>An (Ad ω rfl) (pv 1) AF (λ_ _=>rfl))))
  (FN (AB (Ae (gW (pv 0) BT.cl GG hr (bG (pv 1) (c_r GA hr ES (bG (Af (pv 0) rfl) (c_r GK hr ES (AA (Af (pv 0) rfl) (bG (pv 2) (pv 3)))))))))))),?_⟩
 refine⟨_,zJ,x,zJ,hx,λO s1=>⟨_,zJ,AV ?_⟩⟩;obtain⟨a,hk,E'⟩:=Bb.en;obtain⟨ms,km,Z⟩:=E'.ks;obtain⟨dx,hb⟩:=Bb.bk;have hk1:=s1 _ _ hk
 have ndk:(a.map (·.1)).Nodup:=by
  rw[km];exact pairwise_map.mpr (Z.nd.imp λh e=>h (Sum.inr.inj e))
 refine⟨z.e,a,hk1,λo u e=>(by have e':H z.e=some (.cb o u):=e;rw[hk]at e';cases e'),λo=>?_⟩;have N:∀{b:hO}{u:HO},O b=some u->b≠z.e->(upd O z.e (.cb o (.dK a))) b=some u:=λe hb=>by rwa[AD hb]
 have I:(upd O z.e (.cb o (.dK a))) z.e=some (.cb o (.dK a)):=aA
 have hfr:∀{b:hO},(upd O z.e (.cb o (.dK a))) b=none->O b=none:=λ{b}e=>by
  by_cases y:b=z.e
  ·simp_all
  ·rwa[AD y]at e
 have huu:upd (upd O z.e (.cb o (.dK a))) z.e (.dK a)=O:=by
  funext b;by_cases y:b=z.e
  ·rw[y,aA,hk1]
  ·rw[AD y,AD y]
 generalize e0:upd O z.e (.cb o (.dK a))=Hf at N I hfr huu;refine⟨_,zJ,⟨z.b,BC,dx,_,_,zJ,N (s1 _ _ hb) (λy=>by simp_all),BT.cl,BT.nE,RC _ _ _,z.e,o,a,zJ,I,NN (λi l M=>aB Hf M/\TbI g (ms.take i) l) ⟨aB.refl _,λs=>by rw[Lu,zN (λy=>by simp_all)],λkv hk=>(by cases hk),zV _⟩ (λi l M k=>by obtain⟨U,_⟩:=k;exact U _ _ I) (λi l M zz=>by obtain⟨_,t⟩:=zz;have X:=t.l;have h2:=Z.len;rw[zX]at X;lia) ?_ ?_⟩⟩
 ·rintro i ⟨key,val⟩ l M p hkv ⟨U,TI⟩ hp;have ax:(ms.map Sum.inr)[i]?=some key:=by rw[←km,z4,hkv];rfl
  rw[z4]at ax;obtain⟨G,J,rfl⟩:=Z6.mp ax;have Y:=Zr J;obtain⟨⟨n,c⟩,hg⟩:∃y,g G=some y:=Option.ne_none_iff_exists'.mp ((Z.mem G).mp Y);obtain⟨t',hv,ht'⟩:=E'.vl G n c hg;rw[NO ndk hkv]at hv;cases hv;have s3:=AE U hp (o:=HO.tup [V.str G,V.ref t']);have hw8:=Oj G (Z.w G Y);have L:ms.take (i+1)=ms.take i++[G]:=by rw[z0,J];rfl
  refine⟨p,_,zJ,aP.of aA,zJ,_,_,zJ,_,_,zJ,zJ,_,zJ,G,zJ,Nat.le_of_lt (AS (by lia)),zJ,_,zJ,?_⟩;refine BH (λX=>?_) (λX=>?_)
  ·have hl1:G.length=1:=by have:=V.int.inj (Zv X);lia
   have htH:(upd M p (.tup [V.str G,V.ref t'])) t'=some (.tup [.int (n:Int),.int (c:Int)]):=by
    refine s3 _ _ (N (s1 _ _ ht') λy=>?_);have e':H z.e=some (.tup [.int (n:Int),.int (c:Int)]):=y ▸ ht';rw[hk]at e';cases e'
   refine⟨_,zJ,_,zJ,t',_,0,_,zJ,zJ,aP.of htH,zJ,Sum.inr G,zJ,s3,λy=>?_,λkv S=>?_,?_⟩
   ·rw[Ih,L];by_cases e:y=G
    ·simp_all
    ·rw[TI.v]
     simp_all
   ·have bp:Am l (Sum.inr G)=none:=by
     rw[TI.v,zN];rintro⟨_,hm⟩;obtain⟨j,hj,e⟩:=List.mem_take_iff_getElem.mp hm;exact(List.pairwise_iff_getElem.mp Z.nd j i _ ((Z8.mp J).1) (by lia)) (e.trans ((Z8.mp J).2).symm)
    rw[F6 _ bp]at S;rcases mem_append.mp S with y|y
    ·exact TI.e kv y
    ·exact⟨G,n,z6.mp y,Z.w G Y,hl1,(Bb.ok G n c hg).1⟩
   ·have X:=TI.l;have h2:=CY l (Sum.inr G) (V.int (n:Int));rw[L,z7];show _<=(ms.take i).length+1
    lia
  ·refine⟨s3,λy=>?_,TI.e,?_⟩
   ·rw[TI.v,L]
    grind
   ·have X:=TI.l;rw[L,z7]
    lia
 ·rintro l M ⟨U,TI⟩ p hp;have hkl:a.length=ms.length:=by have:=congrArg List.length km;rwa[AQ,AQ]at this
  rw[hkl,zY]at TI;have TG:=TI.done Z;have ne:p≠z.e:=λy=>by rw[y,U _ _ I]at hp;cases hp
  refine⟨by rw[AD (Ne.symm ne)];exact U _ _ I,?_⟩
  have s3:aB O (upd (upd M p (.dK l)) z.e (.dK a)):=λb u e=>by
   by_cases y:b=z.e
   ·rw[y,aA,←hk1,←y,e]
   ·rw[AD y];exact AE U hp _ _ (N e y)
  have hp3:(upd (upd M p (.dK l)) z.e (.dK a)) p=some (.dK l):=by rw[AD ne,aA]
  have bc:=hfr (none_of U hp);generalize upd (upd M p (.dK l)) z.e (.dK a)=H3 at s3 hp3;refine⟨p,l,hp3,λo2=>?_⟩;have s4:aB H (upd H3 p (.cb o2 (.dK l))):=λb u e=>by rw[AD (AJ (s1 _ _ e) bc)];exact s3 _ _ (s1 _ _ e)
  have hp4:(upd H3 p (.cb o2 (.dK l))) p=some (.cb o2 (.dK l)):=aA;generalize upd H3 p (.cb o2 (.dK l))=H4 at s4 hp4;have B4:=Bb.same s4;refine⟨_,rfl,B4.no ⟨_,rfl,_,rfl,g_k BT B4 ⟨_,rfl,g_k BT B4 ⟨_,rfl,_,rfl,.mk z.k t T (.ref p) ⟨d,l,fg g⟩ r rfl B4.ka ta tl rn st (aB.rd s4 hbd) (.is p o2 rfl hp4 TG.ok TG.al ?_)⟩⟩⟩⟩;cases RO with
  |d4 y hy hl hn q=>exact .d4 y hy hl (by show Am l _=none;rw[TG.v y hl,hn];rfl) (q.of s4)
  |go v hs ev hv q=>
   refine .go (some v) (λy hy hl=>?_) (ev l TG) λH5 s5=>?_
   ·rw[TG.v y hl]
    simp_all
   have B5:=B4.same s5;have s15:=s4.trans s5;have pl:plain (v:Int)=v:=by unfold plain;rw[zM (Z1 v),Int.toNat_natCast]
   have hv40:(v:Int)<1099511627776:=by have:(2:Nat)^20=1048576:=by decide
                                       lia
   refine⟨z.k,d,r,(v:Int),zJ,B5.ka,kl,Z1 _,hv40,?_⟩;have R:AX d (v:Int)=v-(v&&&kn d):=by unfold AX;rw[pl]
   rcases q with⟨⟨hb1,hb2⟩,hU⟩|⟨hnb,hdone⟩
   ·rcases hb2 with rfl|rfl
    ·exact .inl ⟨hb1,zJ,hU.of s15⟩
    ·refine .inr (.inl ⟨λq=>absurd q.2 (by trivial),hb1,zJ,λH6 s6=>?_⟩);exact .no z.k d jZ v zJ (B5.ka.same s6) (Nat.lt_trans hv qc) (by rw[←R];exact hU.of (s15.trans s6))
   ·refine .inr (.inr ⟨λq=>hnb ⟨q.1,.inl q.2⟩,λq=>hnb ⟨q.1,.inr q.2⟩,λp' H6 s6 hV=>?_⟩);rw[pl]at hV;have em:(if r=jo then v else v-AX d (v:Int))=mkN r d v:=rfl;rw[em]at hV;refine .mk z.k p' _ zJ hV (Jg (Q:=λ_ H'=>Q .aO H') (B5.same s6) hV hx hD ?_ λH7 ef=>hdone H7 λb o e=>ef b o (s6 _ _ (s15 _ _ e)));unfold mkN;by_cases hkp:r=jo
    ·rw[zM hkp];exact⟨hv,.inl hkp⟩
    ·rw[zN hkp,R];refine⟨Nat.lt_of_le_of_lt (Nat.sub_le _ _) hv,.inr ?_⟩;have X:v-(v-(v&&&kn d))=v&&&kn d:=by have:=Nat.and_le_left (n:=v) (m:=kn d);lia
     exact eH.iff.mpr λk hk=>by grind
end
end Mk
end
section
namespace L2
open PySem
def TW{a}{o}{kvs}{g:TG}{tb:TS}{D:IV}{σ}(d:Nat->St->Hp->Prop)(A:d 0 σ H)(y:∀i σ H,d i σ H->H a=some (.cb o (.dK kvs)))
  (hs:∀i r σ H,kvs[i]?=some r->d i σ H->g (kV r.1) σ H λh u=>tb {D with nx:=d (i+1),ct:=d (i+1),bk:=D.nx} h u) (z:∀σ H,d kvs.length σ H->D.nx σ H):
  ∃W:Nat->Nat->St->Hp->Prop,(∃m,W 0 m σ H)/\∀i m σ H,W i m σ H ->
   ((Itk a o kvs).stop i H/\D.nx σ H)\/((Itk a o kvs).go i H/\∃N,(∀j H',N j H'->∃v,v<m/\W (i+1) v j H')/\∀x H',(Itk a o kvs).fZ i H x H'->g x σ H' λh u=>tb {D with nx:=N,ct:=N,bk:=D.nx} h u):=by
 refine⟨λi m σ H=>m=kvs.length-i/\i<=kvs.length/\d i σ H,⟨_,zJ,Nat.zero_le _,A⟩,?_⟩;rintro i m σ H ⟨rfl,B,p⟩;by_cases l:i<kvs.length
 ·refine .inr ⟨⟨y i σ H p,l⟩,d (i+1),λj H' q=>⟨kvs.length-(i+1),by lia,zJ,l,q⟩,?_⟩;rintro x H' ⟨rfl,r,t,rfl⟩;exact hs i r σ _ t p
 ·have e:i=kvs.length:=by lia
  subst e;exact .inl ⟨⟨y _ σ H p,zV _⟩,z σ H p⟩
end L2
namespace Mk
open PySem L2 MK PySem.NumText
def TY:BK (cz P w) X E0:=λ_ _ _ _ _ _ _ z=>by obtain⟨_,_,_,_,_,_,q⟩:=z;exact q.elim
section
def Pu(e:PE X o to)(c:eJ X.K C)(G:Dd X.prog X.w X.K X.mg X.base C m k ps sp)(d:aJ j X.A)(h:BK (cz X.prog X.w) X E)(i:k<=j:=by decide)
  (ht:eval (.Call (.Attribute o m apos) [] [] pos) X.env=(do
   let a ←eval o X.env
   standAt apos.atName
   let (f,first) ←holding [a] (getMethod a m pl)
   callWith pos f first (backTo pos (starEach [] X.env)) (backToKw pos (keywordEach [] X.env))):=by rfl):PE X (.Call (.Attribute o m apos) [] [] pos) (Jz C m sp [] E to B8):=
 let ⟨_,_,F,m,b⟩:=G.ex
 BV e c m F (d.mono i) b .nil h ht
end
def rk(x:Str):Nat:=c4.findIdx (· == x)
def YX:∀x∈c4,∀y∈c4,PySem.Spec.ltCps x.cps.toList y.cps.toList=decide (rk x<rk y):=by trivial
def TZ:∀x∈c4,∀y∈c4,rk x=rk y->x=y:=by trivial
def Jh:∀{l m:List Nat},l.Pairwise (· < ·)->m.Pairwise (· < ·)->(∀x,x∈l ↔ x∈m)->l=m
 | [],[],_,_,_=>rfl
 | [],b::m,_,_,h=>nomatch (h b).mpr (by simp)
 |a::l,[],_,_,h=>nomatch (h a).mp (by simp)
 |a::l,b::m,hl,hm,h=>by
  obtain⟨p,j⟩:=pairwise_cons.mp hl;obtain⟨o,i⟩:=pairwise_cons.mp hm
  have d:a=b:=by
   rcases mem_cons.mp ((h a).mp (by simp))with z|z
   ·exact z
   ·rcases mem_cons.mp ((h b).mpr (by simp))with y|y
    ·lia
    grind
  subst d;congr 1;refine Jh j i λx=>⟨λe=>?_,λe=>?_⟩
  ·grind
  grind
def Kd:∀xs p,(∀x∈p::xs,x∈c4)->PyProof.Rows.risingS p xs=true->((p::xs).map rk).Pairwise (· <= ·)
 | [],p,_,_=>List.pairwise_singleton ..
 |c::cs,p,hw,h=>by
  change (!PySem.Spec.ltCps c.cps.toList p.cps.toList&&PyProof.Rows.risingS c cs)=true at h;rw[YX c (hw c (by simp)) p (hw p (by simp)),Bool.and_eq_true,Bool.not_eq_true',decide_eq_false_iff_not]at h;have a:=Kd cs c (λx d=>hw x (by grind)) h.2;refine pairwise_cons.mpr ⟨λx d=>?_,a⟩;rcases mem_cons.mp d with rfl|z
  ·lia
  ·have:=(pairwise_cons.mp a).1 x z
   lia
def eE.uniq(h:eE ms g)(k:eE ns g)(hs:PyProof.Rows.sortedS ms=true)(D:PyProof.Rows.sortedS ns=true):ms=ns:=by
 have r:∀{l:hA},eE l g->PyProof.Rows.sortedS l=true->(l.map rk).Pairwise (· < ·):=λ{l}h s=>by
  cases l with
  |nil=>exact List.Pairwise.nil
  |cons p t=>
   have i:=Kd t p h.w s;have d:((p::t).map rk).Pairwise (· ≠ ·):=pairwise_map.mpr (List.Pairwise.imp_of_mem (λu E j e=>j (TZ _ (h.w _ u) _ (h.w _ E) e)) h.nd);exact(i.and d).imp λz=>Nat.lt_of_le_of_ne z.1 z.2
 have q:∀{l m:hA},eE l g->eE m g->∀x,x∈l.map rk->x∈m.map rk:=λ{l m}h k x o=>by
  obtain⟨y,C,rfl⟩:=zO.mp o;exact zO.mpr ⟨y,(k.mem y).mpr ((h.mem y).mp C),zJ⟩
 have e:=Jh (r h hs) (r k D) λx=>⟨q h k x,q k h x⟩
 have inj:∀{l m:hA},(∀x∈l,x∈c4)->(∀x∈m,x∈c4)->l.map rk=m.map rk->l=m:=by
  intro l;induction l with
  |nil=>simp_all
  |cons a l A=>
   intro m i d e;cases m with
   |nil=>cases e
   |cons b m=>
    injection e with B v
    rw[TZ a (i a (by simp)) b (d b (by simp)) B,A (λx o=>i x (by grind)) (λx o=>d x (by grind)) v]
 exact inj h.w k.w e
section
inductive spBi(BC C:hO)(vs:hK)(H:Hp)(Q:VK)(_E:XK):Prop
 |mk (p dx k) (aD) (r) (aW:vs=[.ref p,.ref k]) (aX:H p=some (.ins BC dx [])) (bz:aQ C H k aD r) (bQ:∀d l H',(∀b o,H b=some o->b≠p->H' b=some o)->H d=none->H l=none->cq BC C ⟨p,k,d,l⟩ aD r (λ_=>none) [] H'->Q .aO H')
def Zi:AH [hZ,iy] [hZ,iy] (defScope HS):=bA
def YY(F:aN ω ip "Book.__init__" HS f fd)(u:DA ω BC):aE P w ω mg base aS 1 f fd [hZ,iy] (spBi BC C):=by
 refine F.m Zi λvs H Q E h=>?_;obtain⟨p,i,k,aD,r,rfl,hp,KA,q⟩:=h;refine⟨zJ,λae A U s hr=>?_⟩;refine⟨_,AC (CG (pv 0) (pv 1) zJ) (AC (CG (pv 0) Cz zJ) (AB (CG (pv 0) (A5 AG) zJ))),?_⟩;refine⟨_,zJ,_,zJ,p,BC,i,[],zJ,hp,u.cl,u.nK,(by simp),?_⟩;intro d O;have h1:=aA (H:=H) (a:=p) (o:=HO.ins BC i (BD iK (.ref k) []));have o1:∀b o,H b=some o->b≠p->upd H p (HO.ins BC i (BD iK (.ref k) [])) b=some o:=λb o e t=>by rwa[AD t]
 have T:∀b,upd H p (HO.ins BC i (BD iK (.ref k) [])) b=none->H b=none:=λb e=>by
  by_cases y:b=p
  ·simp_all
  ·rwa[AD y]at e
 generalize upd H p (HO.ins BC i (BD iK (.ref k) []))=H1 at h1 o1 T O ⊢;have I:=AE (aB.refl _) O (o:=HO.dK []);have Z:(upd H1 d (.dK [])) d=some (.dK []):=aA;generalize upd H1 d (.dK [])=H2 at I Z ⊢;refine⟨_,zJ,p,BC,i,_,zJ,I _ _ h1,u.cl,u.nE,Nat.lt_of_le_of_lt (Az _ _ _) (by simp),(by simp_all),λl G=>?_⟩;have v:d≠p:=λy=>by simp_all
 have J:=aA (H:=H2) (a:=p) (o:=HO.ins BC i (BD jw (.ref d) (BD iK (.ref k) [])));have L:∀b o,H2 b=some o->b≠p->upd H2 p (HO.ins BC i (BD jw (.ref d) (BD iK (.ref k) []))) b=some o:=λb o e t=>by rwa[AD t]
 have Y:∀b,upd H2 p (HO.ins BC i (BD jw (.ref d) (BD iK (.ref k) []))) b=none->H2 b=none:=λb e=>by
  by_cases y:b=p
  ·simp_all
  ·rwa[AD y]at e
 generalize upd H2 p (HO.ins BC i (BD jw (.ref d) (BD iK (.ref k) [])))=H3 at J L Y G ⊢;have B:=AE (aB.refl _) G (o:=HO.lst []);have l4:(upd H3 l (.lst [])) l=some (.lst []):=aA;generalize upd H3 l (.lst [])=H4 at B l4 ⊢;refine⟨_,zJ,p,BC,i,_,zJ,B _ _ J,u.cl,u.nD,Nat.lt_of_le_of_lt (Az _ _ _) (Nat.succ_lt_succ (Nat.lt_of_le_of_lt (Az _ _ _) (by simp))),?_⟩;have j:∀b o,H b=some o->b≠p->upd H4 p (HO.ins BC i (Gz (.ref k) d l)) b=some o:=λb o e t=>by rw[AD t];exact B _ _ (L b o (I _ _ (o1 b o e t)) t)
 refine q d l _ j (T d O) (T l (none_of I (Y l G))) ⟨⟨i,aA⟩,?_,⟨[],by show(upd H4 p (HO.ins BC i (Gz (.ref k) d l))) d=_;rw[AD v];exact B _ _ (L _ _ Z v),⟨[],rfl,nodup_nil,λx hx=>(by cases hx),λx=>⟨λz=>(by cases z),λz=>absurd rfl z⟩⟩,λx n c e=>nomatch e⟩,⟨[],by show(upd H4 p (HO.ins BC i (Gz (.ref k) d l))) l=_;rw[AD (Ne.symm (AJ J G))];exact l4,.nil,Nat.zero_le _⟩,λx n c e=>nomatch e⟩;obtain⟨N,e1,M,X,S,a,b,c⟩:=KA.ex;have R:∀{b:hO}{o:HO},H b=some o->(∀D x,o≠ .ins D x [])->b≠p:=λe n y=>by grind
 refine⟨⟨N,e1,M,X,S,j _ _ a (R a λD x z=>?_),j _ _ b (R b λ_ _ z=>nomatch z),j _ _ c (R c λ_ _ z=>nomatch z)⟩⟩;have:=C5 e1 X r;rw[HO.ins.inj z|>.2.2]at this;cases this
inductive cV(H:Hp)(t:hO)(g:En):Prop
 |mk (kvs) (aW:H t=some (.dK kvs)) (aX:d8 H kvs g)
inductive spLgv(vs:hK)(H:Hp)(Q:VK)(_E:XK):Prop
 |mk (t) (g) (x) (n:Nat) (aW:vs=[.ref t,.str x,.int (n)]) (aX:cV H t g) (bz:x∈c4) (bQ:∀q H',aB H H'->H q=none->cV H' q (ez g x n)->Q (.ref q) H')
noncomputable abbrev Zj:hA:=[iL,iw,iA,kg,iO]
def scLgv:AH Zj [iL,iw,iA] (defScope JR):=bA
def Wm(F:aN ω kY kY JR f fd)(B:Bl mg)(hD:mg iT=none):aE P w ω mg base aS 1 f fd [iL,iw,iA] spLgv:=by
 refine F.m scLgv λvs H Q E h=>?_;obtain⟨t,g,x,n,rfl,⟨d,ht,D⟩,hx,q⟩:=h;refine⟨zJ,λU A J s hr=>?_⟩;have C:=Bp hr;have O:=scLgv.nd
 refine⟨_,AC (RM (i:=3) (j:=4) zJ O zJ zJ qc zJ zJ (bG (BG JB zJ hD LZ (cj (pv 0))) AF) (by rfl))
  (Aq (AY (Cr (HC C (pv 1) (pv 0))) (AB (Ab (i:=4) O rfl (Or.inl rfl) (AZ CC (An (Ad ω rfl) (Av C (pv 0) (pv 1) (λ_ _=>rfl)) AF (λ_ _=>rfl)) (BG G7 rfl B.int Hg (cj (Ck DU (An (Ad ω rfl) (Av C (pv 0) (pv 1) (λ_ _=>rfl)) AF (λ_ _=>rfl)) (pv 2) (AN _))))))) AM)
  (AC (Di C (pv 3) (pv 1) (Ai (bG (pv 2) (pv 4))) rfl)
  (AB (AI (pv 3))))),?_⟩
 refine⟨_,zJ,t,d,zJ,.inl ht,λp G=>?_⟩;have l:=AE (aB.refl H) G (o:=HO.dK d);have r:(upd H p (.dK d)) p=some (.dK d):=aA;generalize upd H p (.dK d)=H1 at l r;refine⟨_,_,zJ,?_⟩;refine⟨λS Y=>Y=H1/\∃c:Nat,S=[some (.ref t),some (.str x),some (.int n),some (.ref p),some (.int c)]/\Eo g x (some (n,c))=ez g x n,λR N=>?_,?_⟩
 ·refine⟨_,rfl,_,rfl,t,_,rfl,.inl ⟨_,Sum.inr x,.inl (l _ _ ht),rfl,rfl⟩,_,rfl,?_⟩;cases e:g x with
  |none=>
   rw[D.no e];refine AV (N _ _ ⟨zJ,0,zJ,?_⟩);unfold ez;rw[e]
  |some y=>
   obtain⟨m,c⟩:=y;obtain⟨M,I,X⟩:=D.vl x m c e;rw[I];have u:=l _ _ X;refine Ah ⟨_,zJ,_,zJ,t,_,zJ,.inl ⟨_,Sum.inr x,.inl (l _ _ ht),zJ,I.symm⟩,M,_,1,_,zJ,zJ,aP.of u,zJ,_,zJ,_,zJ,t,_,zJ,.inl ⟨_,Sum.inr x,.inl (l _ _ ht),zJ,I.symm⟩,M,_,0,_,zJ,zJ,aP.of u,zJ,_,zJ,zJ,.inr ⟨_,zJ,_,_,zJ,zJ,?_⟩⟩;refine N _ _ ⟨zJ,if n=m then c else c+1,?_,by unfold ez;rw[e]⟩;by_cases T:n=m
   ·subst T;simp;rfl
   ·have:¬ m=(n:Int):=by lia
    rw[zN T];simp[this];rfl
 rintro S L ⟨rfl,c,rfl,Z⟩;refine⟨_,zJ,_,zJ,dh,λb hb=>?_⟩;have v:=AE (aB.refl L) hb (o:=HO.tup [V.int n,V.int c]);have z:(upd L b (.tup [V.int n,V.int c])) b=some (.tup [.int n,.int c]):=aA;generalize upd L b (.tup [V.int n,V.int c])=H3 at v z;refine⟨_,zJ,_,zJ,p,_,zJ,eI.k (k:=Sum.inr x) (v _ _ r) D.small,_,zJ,q p _ (λa o e=>?_) G ⟨_,aA,?_⟩⟩
 ·rw[AD (AJ e G)];exact v _ _ (l _ _ e)
 ·rw[←Z];refine((D.keep λa xs e=>v _ _ (l _ _ e)).put hx z).keep λa xs e=>?_;rw[AD (λy=>by rw[y,v _ _ r]at e;cases e)];exact e
inductive spLwo(vs:hK)(H:Hp)(Q:VK)(_E:XK):Prop
 |mk (d) (a b) (aW:vs=[.ref d]) (aX:H d=some (.lst [.int a,.int b])) (bz:∀x H',aK d H H'->x∈c4->Q (.str x) H')
def YZ:AH [ia] [ia] (defScope Fq):=bA
def Wn(F:aN ω kK kK Fq f fd)(C:Fn P w ω mg base iP 2 [ia,iO] cE):aE P w ω mg base aS 3 f fd [ia] spLwo:=by
 refine F.m YZ λO H Q E h=>?_;obtain⟨d,a,b,rfl,z,q⟩:=h;refine⟨zJ,λu A p s I=>?_⟩;refine⟨_,AB (AI (An (Ak ω zJ) (cU.h (Xf (MY (MY (MY (MY (MY IE))))))) (cI C I (bG (pv 0) AF)) (λ_ _=>rfl))),?_⟩;refine⟨(by trivial),λl t=>⟨_,zJ,d,a,b,5,zJ,AE (aB.refl H) t _ _ z,qc,qc,λi B G L R=>?_⟩⟩;obtain⟨j,rfl⟩:=Int.eq_ofNat_of_zero_le L;have r:j<5:=by lia
 obtain⟨x,J,D⟩:∃x,([("a":Str),"b","x","ab","cdefghij"].map V.str)[j]?=some (.str x)/\x∈c4:=by
  have:∀j,j<5->∃x,([("a":Str),"b","x","ab","cdefghij"])[j]?=some x/\x∈c4:=by
   intro j r;rcases (show j=0\/j=1\/j=2\/j=3\/j=4 by lia)with rfl|rfl|rfl|rfl|rfl
   ·trivial
   ·trivial
   ·trivial
   ·trivial
   ·trivial
  obtain⟨x,N,v⟩:=this j r;exact⟨x,by grind,v⟩
 refine⟨l,_,_,_,zJ,zJ,aH.of (by rw[AD (λy=>by simp_all)];exact aA),BR J,q x _ ⟨λc o e M=>?_,B,G,aA⟩ D⟩;rw[AD M];exact AE (aB.refl H) t _ _ e
end
section
inductive spLn'(vs:hK)(H:Hp)(Q:VK)(_E:XK):Prop
 |mk (d u) (m:Nat) (a b) (bs) (aD) (aW:vs=[.ref d,.ref u,.int (m)]) (aX:H d=some (.lst [.int a,.int b])) (bz:H u=some (.lst (bs.map V.ref))) (bQ:aF H bs (Da aD)) (cw:0<aD.length) (cX:DF aD) (eN:m<=20) (z_u:u≠d) (ff:∀q l ns H',aK d H H'->H l=none->H' q=some (.tup [.ref l,.int (Aj (ns.map (look aD)):Nat)])->H' l=some (.lst (ns.map V.str))->g6 aD ns->Q (.ref q) H')
noncomputable abbrev Zk:hA:=[ia,iN,iY,i4,iA,"_law_turn",iw,"_law_more"]
def scLnm:AH Zk [ia,iN,iY] (defScope HZ):=bA
def Wo(F:aN ω lK lK HZ f fd)(B:Bl mg)(GR:Fn P w ω mg base iP 2 [ia,iO] cE):aE P w ω mg base aS 3 f fd [ia,iN,iY] spLn':=by
 refine F.m scLnm λvs H Q E h=>?_;obtain⟨d,u,m,a,b,bs,r,rfl,hd,hu,I,h0,DO,hm,J,q⟩:=h;refine⟨zJ,λae A outer s hr=>?_⟩;have L:=scLnm.nd
 refine⟨_,AC (RM (i:=3) (j:=4) zJ L zJ zJ qc zJ zJ (bG (A5 AG) AF) (by rfl))
  (AC (Bw PassesOwn.never rfl (CB rfl B.range (cj (cI GR hr (bG (pv 0) (AZ CC (pv 2) AF))))) (AU (i:=5) L rfl (Or.inl rfl))
   (AC (Bd (An (Ak ω rfl) (pv 1) (cI GR hr (bG (pv 0) (AR (A3 ω rfl) rfl B.len PySem.boot_len (cj (pv 1))))) (λ_ _=>rfl)) (BM rfl (AW (AU (i:=6) L rfl (Or.inl rfl)) (AW (AU (i:=7) L rfl (Or.inl rfl)) A9))))
   (AC (Ae (Bn plainAttrs_list PySem.F.slot_list_append PySem.F.type_list_append Au (pv 3) (cj (pv 6))))
   (AB (Ab (i:=4) L rfl (Or.inl rfl) (AZ Ia (pv 4) (pv 7)))))))
  (AB (AI (Ai (bG (pv 3) (pv 4)))))),?_⟩
 have gd:bs.length=r.length:=by have:=I.length;unfold Da at this;rwa[AQ]at this
 refine⟨(by simp_all),λl hl=>⟨_,_,zJ,?_⟩⟩;have T:=AE (aB.refl H) hl (o:=HO.lst []);have l1:(upd H l (.lst [])) l=some (.lst []):=aA;have C:l≠d:=λy=>by simp_all
 generalize upd H l (.lst [])=H1 at T l1;refine⟨_,zJ,_,zJ,_,_,zJ,zJ,d,a,b,_,zJ,T _ _ hd,by lia,by lia,λi a' b' h0' hi=>?_⟩;obtain⟨n,rfl⟩:=Int.eq_ofNat_of_zero_le h0';refine⟨n,zJ,by lia,by lia,Ep (λi Z H'=>∃(t:hA)(v5 U v7:Option V),Z=[some (.ref d),some (.ref u),some (.int m),some (.ref l),some (.int (Aj (t.map (look r)))),v5,U,v7]/\t.length=i/\aK d H H'/\H' l=some (.lst (t.map V.str))/\∀x∈t,x∈r.map (·.1)) ?_ ?_ ?_⟩
 ·refine⟨[],none,none,none,zJ,zJ,⟨λc o e hc=>?_,a',b',aA⟩,?_,λx hx=>by cases hx⟩
  ·rw[AD hc];exact T _ _ e
  ·rwa[AD C]
 ·rintro i Z D hi ⟨t,v5,U,v7,rfl,hn,G,N,M⟩;obtain⟨x2,y2,X⟩:=G.b6;have hu2:=G.old _ _ hu J;refine⟨_,zJ,_,zJ,_,zJ,u,_,zJ,.inl (aH.of hu2),d,x2,y2,_,zJ,X,by simp_all,by have:=DO.len;rw[AQ];lia,λj O R j0 jl=>?_⟩;obtain⟨j,rfl⟩:=Int.eq_ofNat_of_zero_le j0;rw[AQ]at jl;have hj:j<bs.length:=by lia
  have v:aK d H (upd D d (.lst [.int O,.int R])):=G.upd;have Y:(upd D d (.lst [.int O,.int R])) l=some (.lst (t.map V.str)):=by rwa[AD C]
  have u3:(upd D d (.lst [.int O,.int R])) u=some (.lst (bs.map V.ref)):=by rwa[AD J]
  generalize upd D d (.lst [.int O,.int R])=H3 at v Y u3;obtain⟨pr,z,hb⟩:=Dz I (Z7 hj);unfold Da at z;rw[z4]at z;obtain⟨p,S,rfl⟩:=Z6.mp z;refine⟨u,_,_,_,zJ,zJ,aH.of u3,BR (by simp_all),_,_,zJ,aP.of (v.old _ _ hb (λy=>by simp_all)),zJ,_,_,zJ,_,_,zJ,zJ,?_⟩;refine⟨_,zJ,.inl ⟨zJ,_,aH.of Y⟩,_,zJ,l,_,_,zJ,zJ,Y,AS (by grind),_,zJ,_,zJ,_,_,zJ,zJ,t++[p.1],some (.int (0+i)),some (.str p.1),some (.int p.2),?_,by simp_all,⟨λc o e hc=>?_,?_⟩,by rw[aA,zR];rfl,λx hx=>?_⟩
  ·rw[zR];have:=C6 DO.nd (Zr S)
   have e:Aj (t.map (look r)++[p].map (λq=>look r q.1))=Aj (t.map (look r))|||p.2:=by
    rw[List.map_singleton,this];unfold Aj;rw[List.foldl_append];rfl
   have e2:Builtin.bitOr ((Aj (t.map (look r)):Nat)) p.2=((Aj (t.map (look r)++[p.1].map (look r)):Nat)):=by
    rw[Cf];exact congrArg _ e.symm
   rw[←e2];rfl
  ·rw[AD (λy=>by simp_all)];exact v.old c o e hc
  ·obtain⟨x4,y4,h4⟩:=v.b6;exact⟨x4,y4,by rw[AD (Ne.symm C)];exact h4⟩
  grind
 ·rintro Z D ⟨t,v5,U,v7,rfl,hn,G,N,M⟩;refine⟨_,zJ,_,zJ,dh,λp S=>?_⟩;have sp:=AE (aB.refl D) S (o:=HO.tup [V.ref l,V.int (Aj (t.map (look r)))]);exact q p l t _ (G.step sp) hl aA (sp _ _ N) ⟨by lia,M,DO.lt⟩
end
section
def cq.but(s:∀b o,H b=some o->b≠t->H' b=some o)(ht:H t=some (.dK kvs))(i:t≠z.e)(h:cq BC C z aD r g D H):cq BC C z aD r g D H':=by
 have kp:∀{b:hO}{o:HO},H b=some o->(∀l,o≠ .dK l)->H' b=some o:=λ{b o}e n=>s b o e λy=>by grind
 have p:∀b j,H b=some (.tup j)->H' b=some (.tup j):=λb j e=>kp e λ_ z=>nomatch z;obtain⟨⟨N,E⟩,u,⟨l,v,G⟩,⟨L,I,x,F⟩,A⟩:=h;obtain⟨d,O,J,B,M,a,b,c⟩:=u.ex;exact⟨⟨N,kp E (λ_ z=>nomatch z)⟩,⟨⟨d,O,J,B,M,kp a (λ_ z=>nomatch z),kp b (λ_ z=>nomatch z),kp c (λ_ z=>nomatch z)⟩⟩,⟨l,s _ _ v (Ne.symm i),G.keep p⟩,⟨L,kp I (λ_ z=>nomatch z),Paired.imp' (λ_ _ q=>q.keep p) x,F⟩,A⟩
inductive spBl(BC C:hO)(vs:hK)(H:Hp)(Q:VK)(_E:XK):Prop
 |mk (z) (aD) (r) (g) (D) (t) (aW:vs=[.ref z.b,.ref t]) (aX:cq BC C z aD r g D H) (bz:cV H t g) (bQ:t≠z.e) (cw:∀H',aB H H'->Q (.bl true) H')
noncomputable abbrev NBl:hA:=[iu,iL,iw]
def scBl:AH NBl [iu,iL] (defScope Dx):=bA
def Ya(F:aN ω jX jX Dx f fd)(B:Bl mg)(BT:DA ω BC)(VT:M8 ω VC)(GNs:Mt P w ω mg base BC i1 1 [hZ] (spNs BC C))(GLn:Mt P w ω mg base BC lp 1 [hZ] (spLn BC C))(GVl:Dd P w ω mg base BC jF 6 [hZ,ij] (spVl BC C VC cB))(GCh:Dd P w ω mg base BC "changes" 4 [hZ,ij] (spCh BC C))(GVN:Mt P w ω mg base VC il 1 [hZ] (spVNumber VC)):aE P w ω mg base aS 7 f fd [iu,iL] (spBl BC C):=by
 obtain⟨fL,dL,GL,mL,bL⟩:=GLn.ex;refine F.m scBl λvs H Q E h=>?_;obtain⟨z,G,r,g,D,t,rfl,R,⟨a,ht,E'⟩,hte,q⟩:=h;refine⟨zJ,λae A outer s L=>?_⟩;have hu:=Bp L
 refine⟨_,AC (AY (PW.pt (CW (AK (Iu ω zJ L.units) (Gy (pv 0) BT.cl GNs L) (AR (FD zJ) zJ B.sorted Ey (cj (pv 1))) (AN _)) (Bc (AK DU (AR (IC GL (L.mono qc) bL mL) zJ B.len PySem.boot_len (cj (pv 0))) (AR J7 zJ B.len PySem.boot_len (cj (pv 1))) (AN _))))) (AB Ag) AM)
  (AC (MZ (Bw PassesOwn.never rfl (UP (pv 1)) (AU (i:=2) scBl.nd rfl (Or.inl rfl)) (AB (AY (PW.pt (CW (AK DU (Gy (Em (pv 0) BT.cl GVl L TY (cj (pv 2))) VT.cl GVN L) (An (Ad ω rfl) (Av hu (pv 1) (pv 2) (λ_ _=>rfl)) AF (λ_ _=>rfl)) (AN _)) (Bc (AK DU (Em (pv 0) BT.cl GCh L TY (cj (pv 2))) (An (Ad ω rfl) (Av hu (pv 1) (pv 2) (λ_ _=>rfl)) AF (λ_ _=>rfl)) (AN _))))) (AB Ag) AM))))
  (AB (AI DR))),?_⟩
 obtain⟨ms,km,kE⟩:=E'.ks;have hl6:=kE.len;obtain⟨dx,hb⟩:=R.bk;refine⟨_,zJ,R.no ⟨z,G,r,g,D,zJ,R,λl1 T H1 s1 h1 k1 so1=>⟨_,zJ,t,a,ms,zJ,.inl (s1 _ _ ht),km,by lia,λl2 n2 O hp so2=>?_⟩⟩⟩;have e12:=k1.uniq (kE.perm hp) so1 so2;subst e12;have I:=AE s1 O (o:=HO.lst (T.map V.str));have as:=λx hx=>(Oj x (k1.w x hx)).1;have N:=AE (aB.refl H1) O (o:=HO.lst (T.map V.str)) _ _ h1;have J:(upd H1 l2 (HO.lst (T.map V.str))) l2=some (.lst (T.map V.str)):=aA;generalize upd H1 l2 (HO.lst (T.map V.str))=H2 at I N J;refine⟨_,_,Cd N (Go _),Cd J (Go _),Ej as,Ej as,_,zJ,?_⟩;rw[Jp];obtain⟨ms',kE',eL⟩:=E'.len;refine AV ⟨_,zJ,z.b,dx,_,zJ,I _ _ hb,z,G,r,g,D,zJ,R.same I,λm3 k3=>⟨m3.length,zJ,Nat.lt_of_le_of_lt k3.len qc,⟨_,zJ,t,a,zJ,I _ _ ht,zJ,_,zJ,?_⟩⟩⟩;rw[Zm (by rw[eL,k3.eqlen kE'])];refine AV ⟨t,a,I _ _ ht,λo u e=>(by have e':H t=some (.cb o u):=e;rw[ht]at e';cases e'),λo=>?_⟩;have X:∀b u,H2 b=some u->b≠t->(upd H2 t (.cb o (.dK a))) b=some u:=λb u e y=>by rwa[AD y]
 have M:(upd H2 t (.cb o (.dK a))) t=some (.cb o (.dK a)):=aA
 have uu:∀j,aB (upd H2 t (.cb o (.dK a))) j->aB H (upd j t (.dK a)):=λj d b u e=>by
  by_cases y:b=t
  ·rw[y,aA,←ht,←y,e]
  ·rw[AD y];exact d _ _ (X _ _ (I _ _ e) y)
 generalize upd H2 t (.cb o (.dK a))=H3 at X M uu;refine⟨_,zJ,t,o,a,zJ,M,TW (λi Y j=>∃v,Y=[some (.ref z.b),some (.ref t),v]/\aB H3 j) ⟨none,zJ,aB.refl _⟩ (λi Y j k=>by obtain⟨_,_,d⟩:=k;exact d _ _ M) ?_ ?_⟩
 ·rintro i ⟨key,val⟩ Y j hkv ⟨v,rfl,d⟩;have S:(ms.map Sum.inr)[i]?=some key:=by rw[←km,z4,hkv];rfl
  rw[z4]at S;obtain⟨x,hx,rfl⟩:=Z6.mp S;obtain⟨⟨n,c⟩,hg⟩:∃y,g x=some y:=Option.ne_none_iff_exists'.mp ((kE.mem x).mp (by grind));obtain⟨t',hv,Z⟩:=E'.vl x n c hg;have U:=((R.same I).but X (I _ _ ht) hte).same d;have tp:∀{H5:Hp},aB j H5->H5 t'=some (.tup [.int n,.int c]):=λl=>l _ _ (d _ _ (X _ _ (I _ _ Z) λy=>by simp_all));refine⟨_,zJ,U.no ⟨_,zJ,.mk z G r g D x n c zJ U hg λp H5 l hV=>Jd hV ⟨_,zJ,_,zJ,t,_,zJ,.inl ⟨_,Sum.inr x,.inr ⟨o,l _ _ (d _ _ M)⟩,zJ,hv.symm⟩,t',_,0,_,zJ,zJ,aP.of (tp l),zJ,zJ,_,zJ,?_⟩⟩⟩;rw[Zm (rfl)];refine AV ⟨_,zJ,(U.same l).no ⟨_,zJ,z,G,r,g,D,x,n,c,zJ,U.same l,hg,⟨_,zJ,_,zJ,t,_,zJ,.inl ⟨_,Sum.inr x,.inr ⟨o,l _ _ (d _ _ M)⟩,zJ,hv.symm⟩,t',_,1,_,zJ,zJ,aP.of (tp l),zJ,zJ,_,zJ,?_⟩⟩⟩;rw[Zm (rfl)];exact AV ⟨_,zJ,d.trans l⟩
 ·rintro Y j ⟨v,rfl,d⟩;exact⟨d _ _ M,q _ (uu j d)⟩
end
structure eQ(K:FG)(x qual:Str)(st:Stmt)(f:hO)(fd:FuncData)(c:hO):Prop where
 ex:∃(oc:Value)(od:Option hO)(kV doc pm:Value)(an:Option hO)(ct:Value)(f7:Array (Option Value)),
  fd=W.fnOf x qual (defArgs st) (defBody st) (defScope st) .none kV doc pm an (.ref c) ct/\K.lookup f=some ⟨oc,od,.func fd,f7⟩/\W.codeIn K (.ref c) qual=true
def eQ.ok{x qual}{st}{N e}{k}(F:eQ ω x qual st f fd c)(S:AH N e (defScope st))(len:∀vs H Q E,sp vs H Q E->vs.length=e.length)
  (a:∀A outer s H vs Q E,aJ k (A.deeper (PyProof.Rows.envOfC qual (defScope st) s.heap.objs.size f (.ref c)))->sp vs H Q E ->
   ∃t,c8 (By aS P w ω mg base N qual (defScope st) f (.ref c) A outer s H E).gm (defBody st) t/\t {nx:=λ_ H'=>Q .aO H',rt:=Q} (start N vs) H):aE P w ω mg base aS (k+1) f fd e sp:=by
 obtain⟨r,z,kV,l,y,v,u,p,rfl,o,i⟩:=F.ex;refine Ou o i S len λA outer s H vs Q E j d=>?_;obtain⟨t,h,q⟩:=a A outer s H vs Q E j d;exact⟨t,h.gm,q⟩
def Hs{α a:Type}[BEq α][LawfulBEq α]{x}{v}:∀{l:List (α×a)},l.lookup x=some v->(x,v)∈l
  | [],h=>by cases h
  | (y,u)::r,h=>by
    rw[zW]at h;cases e:x==y with
    |true=>
      simp_all
    |false=>
      rw[e]at h;exact Zs _ (Hs h)
def U6{scope:Scope}{a:List (Str×hO)}(h:scope.names.all (λp=>!(p.2 == .cell||p.2 == .free)||(a.lookup p.1).isSome)=true):∀x,(scope.names.lookup x=some .cell\/scope.names.lookup x=some .free)->∃c,a.lookup x=some c:=λx d=>by
 have g:∀k,scope.names.lookup x=some k->(k == .cell||k == .free)=true->∃c,a.lookup x=some c:=λk e i=>by
  have:=all_eq_true.mp h _ (Hs e);simp only[i,Bool.false_or]at this;exact Option.isSome_iff_exists.mp this
 rcases d with z|z
 ·exact g _ z rfl
 ·exact g _ z rfl
def aY.same{q}(s:aB H H')(h:aY H P0 q ls):aY H' P0 q ls:=by
 obtain⟨o,a,d,e⟩:=h;refine⟨o,s _ _ a,d,λx i=>?_⟩;rcases e x i with z|⟨c,l,j⟩
 ·simp_all
 ·exact .inr ⟨c,l,s _ _ j⟩
def aY.sameX(o:H d=some (.lst [.int x,.int y]))(s:aK d H H')(h:aY H P0 q ls):aY H' P0 q ls:=by
 obtain⟨r,e,i,j⟩:=h;refine⟨r,s.old _ _ e (λz=>by simp_all),i,λx l=>?_⟩;rcases j x l with z|⟨c,p,a⟩
 ·simp_all
 ·exact .inr ⟨c,p,s.old _ _ a (λz=>by subst z;rw[o]at a;cases a)⟩
def NQ:GQ a q≠GO a C dx:=λz=>by
 have h:({objs:=Array.replicate (a+1) ⟨.ref C,dx,.fields (Array.replicate 6 .none),#[]⟩}:Heap).get? a=some ⟨.ref C,dx,.fields (Array.replicate 6 .none),#[]⟩:=by
  unfold Heap.get?;rw[Array.getElem?_replicate,zM (by simp)]
 have j:=congrFun (HO.ext.inj z) {objs:=Array.replicate (a+1) ⟨.ref C,dx,.fields (Array.replicate 6 .none),#[]⟩};obtain⟨p,o,r,t,e,i,l,d⟩:=(j.mpr ⟨_,_,h,rfl,rfl,rfl,qc,qc⟩);cases e;rw[h]at i;cases i;cases l;rw[Array.getElem?_replicate]at d;split at d<;>cases d
def NS(h:H b=some (.tup [.str x,.str y,.int n])):CJ ω H (.tuple [.str x,.str y,.int n]) (.ref b):=by
 refine⟨b,_,zJ,aP.of h,?_⟩;refine⟨_,_,zJ,by rw[CJ],?_⟩;refine⟨_,_,zJ,by rw[CJ],?_⟩;refine⟨_,_,zJ,by rw[CJ],?_⟩;rw[Bq]
def NT(e:x.cps.all (· < 128)=true)(h:y.cps.all (· < 128)=true):SeqAt.shaped (.tuple [.str x,.str y,.int n])=true:=by
 unfold SeqAt.shaped;simp;refine⟨?_,?_⟩
 ·refine OW λd a=>?_;simp at a;rcases a with rfl|rfl|rfl
  ·exact Gp e
  ·exact Gp h
  rfl
 ·simp only[PyData.depth,PyData.depthAll]
  lia
def Ta(x y)(n):PyData.eqv (.tuple [.str x,.str y,.int n]) (.tuple [.str x,.str y,.int n])=true:=Gr λd a=>by
 simp at a;rcases a with rfl|rfl|rfl
 ·exact Cm _
 ·exact Cm _
 ·exact LM _
def NU(a)(n:Nat):AX a (n)=n-(n&&&kn a):=by
 rfl
def U7(d:ix.length=Nl.length)
  (q:(List.range Nl.length).all (λi=>match Nl[i]?,ix[i]? with|some x,some j=>decide (X.N[j]?=some x)&&decide (X.env.scope.names.lookup x=some .cell)&&decide (scope.names.lookup x=some .free)|_,_=>false)=true)
  (e:∀p∈a,X.env.cells.lookup p.1=some p.2) (l:scope.names.all (λp=>!(p.2 == .cell||p.2 == .free)||(a.lookup p.1).isSome)=true) (o:∀x,X.fn x=true):LamN X Nl ix scope a:=by
 refine⟨d,λi x h=>?_,λx c h=>e _ (Hs h),U6 l,o⟩
 grind
def Tb{α d:Type}{f g:α->d}:∀{l:List α},l.map f=l.map g->∀p∈l,f p=g p
 |a::r,h,p,hp=>by
  simp at h;rcases mem_cons.mp hp with rfl|z
  ·exact h.1
  simp_all
structure Yb(X:Cx)(ec:Nat->hO)(cM c P0:hO)(ls:List Pos):Prop where
 fn:∃f fd,aN X.K iq iq A7 f fd/\X.mg iq=some (.ref f)/\Binds X.K fd [iJ] []
 M:Q5 X.mg ec
 EX:Sy X.K X.mg ec cM
 GW:FnS X.prog X.w X.K X.mg X.base i9 1 [iM] (D6 X.K ec)
 L:V5 X c P0
 ne:(ls.all λl=>ls.all λq=>decide (q=l) || !(q.line==l.line&&q.col==l.col))=true
def Ht(T:Yb X ec cM c P0 ls)(hr:aJ (k+2) X.A)(i:Nat)(t)(C:List Nat)(l:∀D r G d H H' E,aJ k (G.deeper (W.envX (X.env.qual ++ ie) scope H.heap.objs.size D (.ref r) cm))->PE (GV X.prog X.w X.K X.mg X.base t (X.env.qual ++ ie) scope D (.ref r) cm G d H H' E) body (U E))
  (B:closureFor scope X.env=pure cm:=by rfl) (I:(List.range t.length).all (λi=>match t[i]?,C[i]? with|some x,some j=>decide (X.N[j]?=some x)&&decide (X.env.scope.names.lookup x=some .cell)&&decide (scope.names.lookup x=some .free)|_,_=>false)=true:=by kernel_rfl)
  (L:cm.map (λp=>X.env.cells.lookup p.1)=cm.map (λp=>some p.2):=by kernel_rfl) (Q:scope.names.all (λp=>!(p.2 == .cell||p.2 == .free)||(cm.lookup p.1).isSome)=true:=by kernel_rfl) (A:scope.names.all (λx=>!(x.2 == .cell))=true:=by kernel_rfl)
  (hi:ls[i]?=some a:=by rfl) (N:C.length=t.length:=by rfl) (h:defaultsOf params X.env=([],[]):=by rfl) (Y:Gl X iq:=by rfl) (S:∀x,X.fn x=true:=by intro _;rfl)
  (e:∀R r u,bindArgs (W.kla_fn ie (X.env.qual ++ ie) params body scope cm R (.ref r) u) ⟨[],[]⟩=pure []:=by intro _ _ _;rfl)
  (y:scope.isCoroutine=false:=by rfl) (o:scope.isGenerator=false:=by rfl) (Z:scope.kind=.function:=by rfl)
  (he:starEach [.Lambda params body scope a] X.env=(false,eval (.Lambda params body scope a) X.env)::starEach [] X.env:=by rfl) (v:(backTo pos (starEach [] X.env)).any (·.1)=false:=by rfl):
  PE X (.Call (.Name iq p) [.Lambda params body scope a] [] pos) (VQ X.K ec cM P0 (X.env.qual ++ ie) ls C U):=by
 obtain⟨f,fd,F,M,O⟩:=T.fn;refine Uu F T.M T.EX T.GW hr Y M F.kp O T.L (by grind) (λq hq=>?_) B h (U7 N I (λp J=>Tb L p J) Q S) e y o Z (λx hx z=>by grind) l he v;have z:=all_eq_true.mp (all_eq_true.mp T.ne a (by grind)) q hq;rw[Bool.or_eq_true]at z;rcases z with z|z
 ·exact .inl (Zv z)
 ·exact .inr (by grind)
def Nx(H H':Hp):Prop:=∀b o,H b=some o->(∀C dx,o≠GO b C dx)->H' b=some o
def Nx.same(s:aB H H'):Nx H H':=λb o e _=>s b o e
def Nx.exc(j:aB H H1)(l:H1 a=some (GO a p dx))(h:aB (del H1 a) e):Nx H e:=λb o i q=>by
 have d:=j _ _ i;apply h _ _;unfold del
 rwa[zN (λz=>by grind)]
def aY.nx(s:Nx H H')(h:aY H P0 q ls):aY H' P0 q ls:=by
 obtain⟨o,a,d,e⟩:=h;refine⟨o,s _ _ a (λ_ _ z=>nomatch z),d,λx i=>?_⟩;rcases e x i with z|⟨c,l,j⟩
 ·simp_all
 ·exact .inr ⟨c,l,s _ _ j (λ_ _=>NQ)⟩
def aY.but(h:aY H P0 q ls)(t:∀a,H P0=some (.dy a)->H' P0=some (.dy a))(p:∀b d,H b=some (.ext d)->H' b=some (.ext d)):aY H' P0 q ls:=by
 obtain⟨a,e,i,j⟩:=h;refine⟨a,t _ e,i,λx l=>?_⟩;rcases j x l with z|⟨c,r,o⟩
 ·simp_all
 ·exact .inr ⟨c,r,p _ _ o⟩
section
def Yc(EP:Gs ω ec cM d j)(h:∀p H',Nx H H'->H' p=some (.tup [.str iH,.str (wd j)])->Q (.ref p) H'):Uq H (JX ω ec cM Q) d:=λe r q _ _=>⟨d,rfl,λt a=>.inl ⟨j,EP,rfl,λp l o i=>h p l (Nx.exc q a o) i⟩⟩
def Wp(r:NA ω ec cR 1)(h:∀p H',Nx H H'->H' p=some (.tup [.str iH,.str ja,.int n])->Q (.ref p) H'):gY H (JX ω ec cM Q) cR n:=λe j v t _ _ _ _ i=>⟨cR,rfl,λu a=>.inr ⟨1,j,.int n,r,rfl,by
 have d:j≠u:=λz=>by rw[←z,i]at a;cases a
 unfold del;rw[zN d]
 exact i,λp o q l=>h p o (Nx.exc t a q) l⟩⟩
end
inductive Ch(aD:Aa)(r:Str):List En->gx->En->Prop
 |nil:Ch aD r [λ_=>none] [] (λ_=>none)
 |snoc (F D g g' x) (h:Ch aD r F D g) (hx:x∈c4) (e:∀y,y≠x->g' y=g y) (n:g x=none->g' x≠none) (ok:gi aD r g):Ch aD r (F++[g']) (D++[(x,g x)]) g'
def Ch.last(h:Ch aD r F D g):(∃a,F=a++[g])/\F.length=D.length+1:=by
 induction h with
 |nil=>simp_all
 |snoc F D g d x h _ _ _ _ e=>simp_all
structure Zw where
 (z:Za) (d t u:hO)
def Kp(y:Zw)(H H':Hp):Prop:=∀b o,H b=some o->b≠y.d->b≠y.z.e->b≠y.z.l->b≠y.t->(∀ps,o≠ .dy ps)->(∀φ,o≠ .ext φ)->H' b=some o
def Kp.trans(a:Kp y H H1)(b:Kp y H1 q):Kp y H q:=λc o e d h i j p l=>b c o (a c o e d h i j p l) d h i j p l
def Kp.nx(s:Nx H H'):Kp y H H':=λb o e _ _ _ _ _ h=>s b o e λC a=>h _
structure Nd(bd:hO)(y:Zw):Prop where
 dl:y.d≠y.z.l
 dt:y.d≠y.t
 lt:y.z.l≠y.t
 ud:y.u≠y.d
 ul:y.u≠y.z.l
 ut:y.u≠y.t
 be:bd≠y.z.e
abbrev TbL(y:Zw)(F:List En)(H:Hp):Prop:=∃tas,H y.t=some (.lst (tas.map V.ref))/\Paired (cV H) tas F/\∀a∈tas,a≠y.z.e
structure Ws(BC C bd:hO)(T:List (hO×Str×List Pos))(y:Zw)(aD:Aa)(r:Str)(g:En)(D:gx)(F:List En)(H:Hp):Prop where
 di:∃a b,H y.d=some (.lst [.int a,.int b])
 B:cq BC C y.z aD r g D H
 tb:TbL y F H
 du:∃bs,H y.u=some (.lst (bs.map V.ref))/\aF H bs (Da aD)
 hb:Rd H bd (.dK Cj)
 tabs:∀p∈T,aY H p.1 p.2.1 p.2.2
section
def cV.keep(s:∀b xs,H b=some (.tup xs)->H' b=some (.tup xs))(st:∀kvs,H t=some (.dK kvs)->H' t=some (.dK kvs))(h:cV H t g):cV H' t g:=by
 obtain⟨kvs,a,d⟩:=h;exact⟨kvs,st _ a,d.keep s⟩
def Ji{α e}{F G}:∀{d:List α}{bs:List e},Paired F d bs->(∀a∈d,∀b,F a b->G a b)->Paired G d bs
 |_,_,.nil,_=>.nil
 |_,_,.cons a r,f=>.cons (f _ (by simp) _ a) (Ji r λc h=>f c (by grind))
def Ws.gen(W:Ws BC C bd T y aD r g D F H)(N:Nd bd y)(s:Kp y H H')(A:∃a b,H' y.d=some (.lst [.int a,.int b]))(B:cq BC C y.z aD r g' J H')(tb:TbL y E H')(d:∀p∈T,aY H' p.1 p.2.1 p.2.2):Ws BC C bd T y aD r g' J E H':=by
 obtain⟨t,Q,_⟩:=W.B.en;obtain⟨O,R,_⟩:=W.B.de;obtain⟨a,b,L⟩:=W.di;obtain⟨x,ht,_⟩:=W.tb;have kp:∀{b:hO}{o:HO},H b=some o->(∀i,o≠ .lst i)->(∀G,o≠ .dK G)->(∀l,o≠ .dy l)->(∀I,o≠ .ext I)->H' b=some o:=λ{b o}e S M q v=>s b o e (λz=>by grind) (λz=>by grind) (λz=>by grind) (λz=>by grind) q v;refine⟨A,B,tb,?_,?_,d⟩
 ·obtain⟨bs,u,j⟩:=W.du;exact⟨bs,s _ _ u N.ud (λz=>by simp_all) N.ul N.ut (λ_ z=>nomatch z) (λ_ z=>nomatch z),aF.aV (λb i e=>kp e (λ_ z=>nomatch z) (λ_ z=>nomatch z) (λ_ z=>nomatch z) (λ_ z=>nomatch z)) j⟩
 ·rcases W.hb with h|⟨o,h⟩
  ·exact .inl (s _ _ h (λz=>by simp_all) N.be (λz=>by simp_all) (λz=>by simp_all) (λ_ z=>nomatch z) (λ_ z=>nomatch z))
  ·exact .inr ⟨o,kp h (λ_ z=>nomatch z) (λ_ z=>nomatch z) (λ_ z=>nomatch z) (λ_ z=>nomatch z)⟩
def cq.nx(s:Nx H H')(h:cq BC C z aD r g D H):cq BC C z aD r g D H':=by
 have kp:∀{b:hO}{o:HO},H b=some o->(∀L,o≠ .ext L)->H' b=some o:=λ{b o}e n=>s b o e λC l=>n _;have j:∀b i,H b=some (.tup i)->H' b=some (.tup i):=λb i e=>kp e λ_ z=>nomatch z;obtain⟨⟨l,y⟩,p,⟨I,t,B⟩,⟨G,E,u,A⟩,v⟩:=h;obtain⟨d,M,F,x,J,a,b,c⟩:=p.ex;exact⟨⟨l,kp y (λ_ z=>nomatch z)⟩,⟨⟨d,M,F,x,J,kp a (λ_ z=>nomatch z),kp b (λ_ z=>nomatch z),kp c (λ_ z=>nomatch z)⟩⟩,⟨I,kp t (λ_ z=>nomatch z),B.keep j⟩,⟨G,kp E (λ_ z=>nomatch z),Paired.imp' (λ_ _ q=>q.keep j) u,A⟩,v⟩
def Ws.nx(W:Ws BC C bd T y aD r g D F H)(N:Nd bd y)(s:Nx H H'):Ws BC C bd T y aD r g D F H':=by
 have kp:∀{b:hO}{o:HO},H b=some o->(∀i,o≠ .ext i)->H' b=some o:=λ{b o}e n=>s b o e λC t=>n _;obtain⟨a,b,j⟩:=W.di;obtain⟨d,ht,h,l⟩:=W.tb;exact W.gen N (.nx s) ⟨a,b,kp j (λ_ z=>nomatch z)⟩ (W.B.nx s) ⟨d,kp ht (λ_ z=>nomatch z),Paired.imp' (λ_ _ q=>q.keep (λb u e=>kp e (λ_ z=>nomatch z)) λ_ e=>kp e (λ_ z=>nomatch z)) h,l⟩ λp h=>aY.nx s (W.tabs p h)
def Ws.same{a}{r}(W:Ws BC C bd T y a r g D F H)(N:Nd bd y)(s:aB H H'):Ws BC C bd T y a r g D F H':=W.nx N (.same s)
def Ws.lst{H H'}{h}{C}{j bd}{T}{y}{r}{g}{D}{F l}{a}{xs}(W:Ws j C bd T y h r g D F H)(N:Nd bd y)(s:∀b o,H b=some o->b≠a->H' b=some o)(ha:H a=some (.lst xs))(U:a≠y.z.l)(kp:Kp y H H')(M:∃a b,H' y.d=some (.lst [.int a,.int b]))(tb:TbL y l H'):Ws j C bd T y h r g D l H':=by
 have d:∀{b:hO}{o:HO},H b=some o->(∀xs,o≠ .lst xs)->H' b=some o:=λ{b o}e n=>s b o e λz=>by grind
 obtain⟨⟨dx,G⟩,u,⟨Y,x,L⟩,⟨S,O,B,I⟩,A⟩:=W.B;obtain⟨i,d1,Q,E,Z,R,X,J⟩:=u.ex;have t:∀b xs,H b=some (.tup xs)->H' b=some (.tup xs):=λb xs e=>d e λ_ z=>nomatch z;exact W.gen N kp M ⟨⟨dx,d G (λ_ z=>nomatch z)⟩,⟨⟨i,d1,Q,E,Z,d R (λ_ z=>nomatch z),d X (λ_ z=>nomatch z),d J (λ_ z=>nomatch z)⟩⟩,⟨Y,d x (λ_ z=>nomatch z),L.keep t⟩,⟨S,s _ _ O (Ne.symm U),Paired.imp' (λ_ _ q=>q.keep t) B,I⟩,A⟩ tb λp v=>aY.but (W.tabs p v) (λps e=>d e λ_ z=>nomatch z) λb φ e=>d e λ_ z=>nomatch z
def Kp.one(s:∀b o,H b=some o->b≠a->H' b=some o)(h:a=y.d\/a=y.t):Kp y H H':=λb o e i _ _ d _ _=>s b o e (by lia)
def Ws.b6{d}{r}(W:Ws BC C bd T y d r g D F H)(N:Nd bd y)(s:aK y.d H H'):Ws BC C bd T y d r g D F H':=by
 obtain⟨a,b,p⟩:=W.di;obtain⟨h,ht,l,t⟩:=W.tb;have i:∀{b:hO}{o:HO},H b=some o->(∀j,o≠ .lst j)->H' b=some o:=λ{b o}e n=>s.old b o e λz=>by grind
 exact W.lst N s.old p N.dl (.one s.old (.inl rfl)) s.b6 ⟨h,s.old _ _ ht (Ne.symm N.dt),Paired.imp' (λ_ _ q=>q.keep (λb j e=>i e λ_ z=>nomatch z) λ_ e=>i e λ_ z=>nomatch z) l,t⟩
def Ld{α d}{G}{e}{bs}{a:α}{b:d}(h:Paired G e bs)(k:G a b):Paired G (e++[a]) (bs++[b]):=by
 induction h with
 |nil=>exact .cons k .nil
 |cons a r i=>exact .cons a i
def Ws.push(W:Ws BC C bd T y aD r g D F H)(N:Nd bd y)(ht:H y.t=some (.lst (d.map V.ref)))(v:Paired (cV H) d F)(G:∀a∈d,a≠y.z.e)(u:cV H a g')(p:a≠y.z.e):Ws BC C bd T y aD r g D (F++[g']) (upd H y.t (.lst (d.map V.ref++[.ref a]))):=by
 have s:∀b o,H b=some o->b≠y.t->(upd H y.t (.lst (d.map V.ref++[.ref a]))) b=some o:=λb o e h=>by rwa[AD h]
 have i:∀{b:hO}{o:HO},H b=some o->(∀l,o≠ .lst l)->(upd H y.t (.lst (d.map V.ref++[.ref a]))) b=some o:=λ{b o}e n=>s b o e λz=>by grind
 obtain⟨B,A,x⟩:=W.di;have j:∀{t:hO}{k:En},cV H t k->cV (upd H y.t (.lst (d.map V.ref++[.ref a]))) t k:=λq=>q.keep (λb l e=>i e λ_ z=>nomatch z) λ_ e=>i e λ_ z=>nomatch z;refine W.lst N s ht (Ne.symm N.lt) (.one s (.inr rfl)) ⟨B,A,s _ _ x N.dt⟩ ⟨d++[a],by rw[aA,zR];rfl,Ld (Paired.imp' (λ_ _=>j) v) (j u),λb E=>?_⟩
 grind
def Ws.pop(W:Ws BC C bd T y aD r g D (F++[g']) H)(N:Nd bd y)(ht:H y.t=some (.lst ((d++[a]).map V.ref)))(l:Paired (cV H) d F)(v:∀a∈d,a≠y.z.e):Ws BC C bd T y aD r g D F (upd H y.t (.lst (d.map V.ref))):=by
 have s:∀b o,H b=some o->b≠y.t->(upd H y.t (.lst (d.map V.ref))) b=some o:=λb o e h=>by rwa[AD h]
 have i:∀{b:hO}{o:HO},H b=some o->(∀j,o≠ .lst j)->(upd H y.t (.lst (d.map V.ref))) b=some o:=λ{b o}e n=>s b o e λz=>by grind
 obtain⟨u,t,p⟩:=W.di;exact W.lst N s ht (Ne.symm N.lt) (.one s (.inr rfl)) ⟨u,t,s _ _ p N.dt⟩ ⟨d,aA,Paired.imp' (λ_ _ q=>q.keep (λb j e=>i e λ_ z=>nomatch z) λ_ e=>i e λ_ z=>nomatch z) l,v⟩
def Ws.tab(W:Ws BC C bd T y aD r g D F H)(N:Nd bd y)(un:∀q∈T,q.1=p.1->q=p)(E:p∈T)(s:MV p.1 H H')(ht:aY H' p.1 p.2.1 p.2.2):Ws BC C bd T y aD r g D F H':=by
 obtain⟨i,h0,_⟩:=W.tabs p E;have d:∀{b:hO}{o:HO},H b=some o->(∀i,o≠ .dy i)->H' b=some o:=λ{b o}e n=>s b o (λz=>by grind) e;obtain⟨a,b,R⟩:=W.di;obtain⟨j,h,t,hn⟩:=W.tb;obtain⟨⟨dx,L⟩,A,⟨ks,B,Q⟩,⟨Y,S,G,M⟩,I⟩:=W.B;obtain⟨l,d1,U,J,o2,X,Z,O⟩:=A.ex;have u:∀b v,H b=some (.tup v)->H' b=some (.tup v):=λb v e=>d e λ_ z=>nomatch z;refine W.gen N (λb o e _ _ _ _ n _=>d e n) ⟨a,b,d R (λ_ z=>nomatch z)⟩ ⟨⟨dx,d L (λ_ z=>nomatch z)⟩,⟨⟨l,d1,U,J,o2,d X (λ_ z=>nomatch z),d Z (λ_ z=>nomatch z),d O (λ_ z=>nomatch z)⟩⟩,⟨ks,d B (λ_ z=>nomatch z),Q.keep u⟩,⟨Y,d S (λ_ z=>nomatch z),Paired.imp' (λ_ _ q=>q.keep u) G,M⟩,I⟩ ⟨j,d h (λ_ z=>nomatch z),Paired.imp' (λ_ _ q=>q.keep u λ_ e=>d e (λ_ z=>nomatch z)) t,hn⟩ λq x=>?_;by_cases z:q.1=p.1
 ·rwa[un q x z]
 ·exact aY.but (W.tabs q x) (λi e=>s _ _ z e) λb φ e=>d e λ_ z=>nomatch z
def Ws.deed(W:Ws BC C bd T y aD r g D F H)(N:Nd bd y)(s:fY y.z H H')(B:cq BC C y.z aD r g' v H'):Ws BC C bd T y aD r g' v F H':=by
 obtain⟨a,b,x⟩:=W.di;obtain⟨i,ht,d,j⟩:=W.tb;obtain⟨h,G,_⟩:=W.B.en;refine W.gen N (λb o e _ t u _ _ _=>s b o e t u) ⟨a,b,s _ _ x (λz=>by simp_all) N.dl⟩ B ⟨i,s _ _ ht (λz=>by simp_all) (Ne.symm N.lt),Ji d λa l k q=>q.keep (λb J e=>W.B.kp s e) λh e=>s _ _ e (j a l) λz=>?_,j⟩ λp d=>aY.but (W.tabs p d) (λA e=>W.B.kp s e) λb L e=>W.B.kp s e;obtain⟨E,I,_⟩:=W.B.de
 simp_all
end
noncomputable def gV3(vs zs:hK):hK:=match vs,zs with| [a,b],[c]=>[a,b,c]|_,_=>[]
noncomputable def gU3(us ws:hE):hE:=match us,ws with| [a,b],[c]=>[a,b,c]|_,_=>[]
structure Tc(P:Program)(w:World)(K:FG)(mg:SV)(base:Heap)(C:hO):Prop where
 T:E6 K C
 cls:mg "Kind"=some (.ref C)
 make:∃f fd,Mk K C f/\aE P w K mg base aS 6 f fd [hZ,jR,jx] (spInit C) /\
  (∃g,Nr K fd [hZ,jR,jx] [jx] g gV3)/\∃ds,Binds K fd [hZ,jR,jx] ds/\Vals [.str j7] ds
def LtN(n:Nv)(sg:List Nat):Prop:=∀c∈sg,C9 c=true/\Am n.kvs (Sum.inr ⟨#[c]⟩)=some (.int (n.tb ⟨#[c]⟩:Nat))/\n.tb ⟨#[c]⟩<2^20
def Pv(D:DF n.aD)(hs:LtN n sg):∀{t:LT},t.Ok (n.aD.map (·.1)) sg->t.tr.Ok n
 |.nm x,h=>by
  obtain⟨p,d,rfl⟩:=zO.mp h;exact(Pl D d).1.ok
 |.no m,h=>(Lb (Nat.lt_trans h qc)).1.ok
 |.le c,h=>(Lc (hs c h).1 (hs c h).2.1).ok
 |.ng t,h=>Pv D hs (t:=t) h
 |.bn g a b,h=>⟨h.1,Pv D hs h.2.1,Pv D hs h.2.2⟩
def Yd{g:Sg}(d:a<2^20)(e:b<2^20):g.f a b<2^20:=by
 cases g<;>first|exact Nat.or_lt_two_pow d e|exact Nat.xor_lt_two_pow d e|exact Nat.lt_of_le_of_lt Nat.and_le_left d
def Le(D:DF n.aD)(hs:LtN n sg):∀{t:LT},t.Ok (n.aD.map (·.1)) sg->t.tr.cv n<2^20
 |.nm x,h=>by
  show wv n x<2^20;rw[Pq D h];obtain⟨p,d,rfl⟩:=zO.mp h;rw[C6 D.nd d];exact D.lt p d
 |.no m,h=>by
  show wv n (Gw m)<2^20
  rwa[TV h]
 |.le c,h=>by
  show wv n ⟨#[c]⟩<2^20;rw[(Lc (hs c h).1 (hs c h).2.1).v];exact(hs c h).2.2
 |.ng t,h=>Nat.lt_of_le_of_lt (Nat.sub_le _ _) (VP D.lt)
 |.bn g a b,h=>Yd (Le D hs h.2.1) (Le D hs h.2.2)
def G3:∀t:LT,t.tr.post.length+1<=2^(t.ht+1)
 |.nm x=>by show 1+1<=2^1;decide
 |.no n=>by show 1+1<=2^1;decide
 |.le n=>by show 1+1<=2^1;decide
 |.ng t=>by
  have:=G3 t;show(t.tr.post++[_]).length+1<=2^(t.ht+1+1)
  grind
 |.bn g a b=>by
  have d:=G3 a;have e:=G3 b;show(a.tr.post++b.tr.post++[_]).length+1<=2^(max a.ht b.ht+1+1);rw[z7,z7,length_singleton];have h:2^(a.ht+1)<=2^(max a.ht b.ht+1):=Nat.pow_le_pow_right qc (by lia);have i:2^(b.ht+1)<=2^(max a.ht b.ht+1):=Nat.pow_le_pow_right qc (by lia)
  lia
def Wq(g:Sg):g.s.length=1:=by cases g<;>decide +kernel
def Wt(g:Sg):BE g.s=false:=by cases g<;>decide +kernel
structure PtW(sg:List Nat)(x:Str):Prop where
 l:x.length<=200
 m:BE x=true->∃c∈sg,x=⟨#[c]⟩
 s:BE x=true\/∀c∈x.cps.toList,C9 c=false
def VZ(h:c<97):C9 c=false:=by
 unfold C9
 lia
def IT{n:Nv}(D:DF n.aD):∀{t:LT},t.Ok (n.aD.map (·.1)) sg->(∀c∈sg,C9 c=true)->∀x∈t.tr.post,PtW sg x
 |.nm y,h,e,x,d=>by
  obtain rfl:x=y:=z6.mp d;obtain⟨p,l,rfl⟩:=zO.mp h;obtain⟨w,q,o⟩:=Pl D l;refine⟨by lia,λz=>(by simp_all),.inr λc i=>?_⟩;have j:=(D.nm p l).1;unfold B3 at j;simp only[Bool.and_eq_true]at j;have:=all_eq_true.mp j.2 c i;simp[DL]at this;exact VZ (by lia)
 |.no m,h,e,x,d=>by
  obtain rfl:x=Gw m:=z6.mp d;obtain⟨w,o⟩:=Lb (n:=n) (Nat.lt_trans h qc);have:=w.len;refine⟨by lia,λz=>(by simp_all),.inr λc i=>?_⟩;rw[Pm]at i;have:=all_eq_true.mp (Oh m) c i;simp[Cn]at this;exact VZ (by lia)
 |.le c,h,e,x,d=>by
  obtain rfl:x=⟨#[c]⟩:=z6.mp d;exact⟨(by show 1<=200;decide),λ_=>⟨c,h,zJ⟩,.inl (e c h)⟩
 |.ng t,h,e,x,d=>by
  rcases mem_append.mp d with z|z
  ·exact IT D (t:=t) h e x z
  ·obtain rfl:=z6.mp z;exact⟨(by trivial),λz=>absurd z (by trivial),.inr (by trivial)⟩
 |.bn g a b,h,e,x,d=>by
  rcases mem_append.mp d with z|z
  ·rcases mem_append.mp z with z|z
   ·exact IT D h.2.1 e x z
   ·exact IT D h.2.2 e x z
  ·obtain rfl:=z6.mp z;refine⟨by rw[Wq];decide,λz=>(by rw[Wt]at z;cases z),.inr ?_⟩;cases g<;>decide +kernel
def Ye(h:Wr lt t r u)(k:∀x∈t.post,PtW sg x)(hc:C9 c=true):c∈u ↔ (⟨#[c]⟩:Str)∈t.post:=by
 have nc:∀d,C9 d=false->c≠d:=λd hd z=>by simp_all
 have nb:∀bl,Bk bl->c∉ bl:=λbl hb hm=>by
  rcases hb with rfl|rfl
  ·cases hm
  ·exact nc 32 zJ (by grind)
 induction h with
 |wd x r bl hb h=>
  have hx:=k x (z6.mpr rfl);show c∈bl++x.cps.toList ↔ _∈ [x];rw[mem_append];refine⟨λz=>?_,λz=>.inr (by grind)⟩;rcases z with z|z
  ·grind
  ·rcases hx.s with hl|hn
   ·obtain⟨d,_,e⟩:=hx.m hl
    simp_all
   simp_all
 |ng t r u hr h ih=>
  show c∈126::u ↔ _∈t.post++[("~":Str)];rw[mem_cons,mem_append,z6,(show c∈u ↔ (⟨#[c]⟩)∈t.post from ih λx hx=>k x (Zq _ hx))];refine⟨λz=>z.elim (λz=>absurd z (nc 126 zJ)) .inl,λz=>z.elim .inr λz=>?_⟩;have:=congrArg (λy=>y.cps.toList) z;injection this with this
  exact absurd this (nc 126 zJ)
 |bn g a b r u v bl hg hr hb ha hv iha ihb=>
  show c∈u++(bl++(g.c::v)) ↔ _∈a.post++b.post++[g.s];have ng:c≠g.c:=nc _ (by cases g<;>rfl)
  have ng2:(⟨#[c]⟩)≠g.s:=λz=>by
   rw[←LX]at z
   simp_all
  simp[mem_append,mem_cons,not_mem_nil,iha (λx hx=>k x (Zq _ (by grind))),ihb (λx hx=>k x (Zq _ (by grind)))];refine⟨λz=>?_,λz=>?_⟩
  ·grind
  grind
 |br t r u bl hb h ih=>
  rw[←(show c∈u ↔ (⟨#[c]⟩)∈t.post from ih k)];simp;refine⟨λz=>?_,λz=>.inr (.inr (.inl z))⟩;rcases z with z|z|z|z
  ·grind
  ·exact absurd z (nc 40 zJ)
  ·exact z
  ·exact absurd z (nc 41 zJ)
def Td{l:Aa}{p}(t:(l.map (·.1)).Nodup)(h:l[j]?=some p):p.1∉ (l.take j).map (·.1):=λo=>by
 obtain⟨q,r,e⟩:=zO.mp o;obtain⟨i,d⟩:=List.getElem?_of_mem r;rw[List.getElem?_take]at d;split at d
 ·rename_i a;obtain⟨u,x⟩:=Z8.mp d;obtain⟨v,y⟩:=Z8.mp h;apply (List.pairwise_iff_getElem.mp t) i j (by simp_all) (by simp_all) a
  simp_all
 trivial
def Wu(h:∀x∈T,PtW sg x)(a:T.length<64):TK T:=⟨by lia,Nat.lt_of_le_of_lt (by grind) a,λx d=>(h x d).l⟩
noncomputable def fv:List Pos:=[⟨570,26,570,75⟩,⟨572,32,572,82⟩,⟨573,36,573,88⟩,⟨574,36,574,69⟩,⟨575,36,575,69⟩,⟨579,26,579,83⟩,⟨582,26,582,78⟩,⟨585,26,585,59⟩,⟨590,26,590,59⟩,⟨593,30,593,59⟩,⟨595,26,595,55⟩]
noncomputable abbrev q2:Str:="_law_step.<locals>." ++ ie
inductive Dq(K:FG)(H:Hp)(a b:V):Prop
 |mk (d) (h1:CJ K H d a) (h2:CJ K H d b) (h3:SeqAt.shaped d=true) (h4:PyData.eqv d d=true)
structure TdB(P:Program)(w:World)(K:FG)(mg:SV)(base:Heap)(ec:Nat->hO)(cM:hO):Prop where
 fn:∃f fd,aN K iq iq A7 f fd/\mg iq=some (.ref f)/\Binds K fd [iJ] []
 M:Q5 mg ec
 EX:Sy K mg ec cM
 GW:FnS P w K mg base i9 1 [iM] (D6 K ec)
section
def RE(ω)(a:X.K=ω):aT X (.type iF) (λxs H Q=>∃p ys,xs=[.ref p]/\((aH ω H p ys/\∀l,H l=none->Q (.ref l) (upd H l (.tup ys)))\/(aP ω H p ys/\Q (.ref p) H))):=a ▸ E8
def TdB.at(B:TdB P w ω mg base ec cM)(d:W.CodeHd base c P0)(e:base.BuiltinsAt mg P0)(a:(ls.all λl=>ls.all λq=>decide (q=l) || !(q.line==l.line&&q.col==l.col))=true):Yb (By aS P w ω mg base N q sc f (.ref c) A outer s H E).gm ec cM c P0 ls:=⟨B.fn,B.M,B.EX,B.GW,⟨rfl,d,e⟩,a⟩
def Hu(h:H b=some (.tup [.str x,.str y])):CJ ω H (.tuple [.str x,.str y]) (.ref b):=by
 refine⟨b,_,zJ,aP.of h,?_⟩;refine⟨_,_,zJ,by rw[CJ],?_⟩;refine⟨_,_,zJ,by rw[CJ],?_⟩;rw[Bq]
def Te(h:H l=some (.lst [.ref a,.ref b,.ref c,.ref e]))(d:H a=some (.tup [.str x,.str y]))(i:H b=some (.tup [.str x,.str y]))(j:H c=some (.tup [.str x,.str y]))(o:H e=some (.tup [.str x,.str y])):CJ ω H (.list [.tuple [.str x,.str y],.tuple [.str x,.str y],.tuple [.str x,.str y],.tuple [.str x,.str y]]) (.ref l):=by
 refine⟨l,_,zJ,aH.of h,?_⟩;refine⟨_,_,zJ,Hu d,?_⟩;refine⟨_,_,zJ,Hu i,?_⟩;refine⟨_,_,zJ,Hu j,?_⟩;refine⟨_,_,zJ,Hu o,?_⟩;rw[Bq]
def Dq.aO:Dq ω H .aO .aO:=⟨.none,by rw[CJ],by rw[CJ],by rfl,LP⟩
def U8(x y):PyData.eqv (.tuple [.str x,.str y]) (.tuple [.str x,.str y])=true:=Gr λd a=>by
 simp at a;rcases a with rfl|rfl<;>exact Cm _
def Dq.two(d:H a=some (.tup [.str iH,.str x]))(e:H b=some (.tup [.str iH,.str x]))(hs:SeqAt.shaped (.tuple [.str iH,.str x])=true):Dq ω H (.ref a) (.ref b):=⟨_,Hu d,Hu e,hs,U8 _ _⟩
def IU(d)(a):eM ((d++[a]).map V.ref) (-1)=some (V.ref a):=by
 unfold eM fc;rw[AQ,z7,zN qc,zM (by simp;lia)];show((d++[a]).map V.ref)[((-1:Int)+((d.length+1:Nat):Int)).toNat]?=_;rw[show((-1:Int)+((d.length+1:Nat):Int)).toNat=d.length by lia,zR];simp
def Kt(H H':Hp):Prop:=∀b o,H b=some o->(∀ps,o≠ .dy ps)->H' b=some o
section
def Kt.kp(s:Kt H H'):Kp y H H':=λb o e _ _ _ _ n _=>s b o e n
def fY.kp(s:fY y.z H H'):Kp y H H':=λb o e _ d a _ _ _=>s b o e d a
def Ws.td(W:Ws BC C bd T y aD r g D F H)(N:Nd bd y)(a:(P0,q,ls)∈T)(un:∀p∈T,p.1=P0->p=(P0,q,ls))(s:MV P0 H H')(t:aY H' P0 q ls):Kt H H'/\Ws BC C bd T y aD r g D F H':=by
 obtain⟨h,d,_⟩:=W.tabs _ a;exact⟨λb o e n=>s b o (λz=>by grind) e,W.tab N un a s t⟩
def Ws.dn(W:Ws BC C bd T y aD r g D F H)(N:Nd bd y)(q:∀H',Kp y H H'->Ws BC C bd T y aD r g' d F H'->Q .aO H'):NM BC C y.z aD r g' d H Q:=λH' a B=>q H' a.kp (W.deed N a B)
def Ws.uq(W:Ws BC C bd T y aD r g D F H)(N:Nd bd y)(EP:Gs ω ec cM a j)(q:∀p H',Nx H H'->Ws BC C bd T y aD r g D F H'->H' p=some (.tup [.str iH,.str (wd j)])->Q (.ref p) H'):Uq H (JX ω ec cM Q) a:=Yc EP λp H' nx h=>q p H' nx (W.nx N nx) h
def Fw{α a}{G}{d:List α}{bs:List a}(h:Paired G d bs):d.length=bs.length:=by
 induction h with
 |nil=>rfl
 |cons _ _ e=>simp_all
def Ws.ze(W:Ws BC C bd T y aD r g D F H)(h:H p=none):p≠y.z.e:=λz=>by
 obtain⟨_,a,_⟩:=W.B.en
 simp_all
def NV:∀{xs ys:List hO},xs.map V.ref=ys.map V.ref->xs=ys
 | [],[],_=>rfl
 |x::xs,y::ys,h=>by
  simp at h;rw[h.1,NV h.2]
 | [],_::_,h=>by cases h
 |_::_,[],h=>by cases h
def Ws.at(W:Ws BC C bd T y aD r g D (F++[g']) H)(h:H y.t=some (.lst ((i++[a]).map V.ref))):Paired (cV H) i F/\cV H a g'/\a≠y.z.e/\∀b∈i,b≠y.z.e:=by
 obtain⟨l,d,j,o⟩:=W.tb;rw[h]at d;cases NV (HO.lst.inj (Option.some.inj d));obtain⟨bs,b,e,p,q⟩:=BQ j
 simp_all
def Ws.gv(W:Ws BC C bd T y aD r g D F H)(N:Nd bd y)(h:aB H H1)(q:H p=none)(ht:cV H1 p g')(u:F.length<200):∃xs,H1 y.t=some (.lst xs)/\xs.length<sizeLine/\(∀b o,H b=some o->b≠y.t->(upd H1 y.t (.lst (xs++[.ref p]))) b=some o)/\Ws BC C bd T y aD r g D (F++[g']) (upd H1 y.t (.lst (xs++[.ref p]))):=by
 have i:=W.same N h;obtain⟨j,a,d,l⟩:=i.tb;exact⟨_,a,by rw[AQ,Fw d];exact Z2 u qc,λb o e t=>by rw[AD t];exact h _ _ e,i.push N a d l ht (W.ze q)⟩
def Ws.own{i}{r}(W:Ws BC C bd T y i r g D F H)(ha:H a=some (.lst xs))(n1:a≠y.d)(X:a≠y.z.l)(L:a≠y.t)(R:a≠y.u):Ws BC C bd T y i r g D F (upd H a o):=by
 have s:∀b t,H b=some t->b≠a->(upd H a o) b=some t:=λb t e h=>by rwa[AD h]
 have d:∀{b:hO}{u:HO},H b=some u->(∀xs,u≠ .lst xs)->(upd H a o) b=some u:=λ{b u}e n=>s b u e λz=>by grind
 generalize upd H a o=H' at s d;have j:∀b xs,H b=some (.tup xs)->H' b=some (.tup xs):=λb xs e=>d e λ_ z=>nomatch z;obtain⟨⟨dx,N⟩,B,⟨ks,E,S⟩,⟨as,Y,I,O⟩,J⟩:=W.B;obtain⟨v,d1,Z,M,o2,a',b',Q⟩:=B.ex;obtain⟨x1,x2,U⟩:=W.di;obtain⟨x,ht,l,hn⟩:=W.tb;obtain⟨bs,G,A⟩:=W.du;refine⟨⟨x1,x2,s _ _ U (Ne.symm n1)⟩,⟨⟨dx,d N (λ_ z=>nomatch z)⟩,⟨⟨v,d1,Z,M,o2,d a' (λ_ z=>nomatch z),d b' (λ_ z=>nomatch z),d Q (λ_ z=>nomatch z)⟩⟩,⟨ks,d E (λ_ z=>nomatch z),S.keep j⟩,⟨as,s _ _ Y (Ne.symm X),Paired.imp' (λ_ _ q=>q.keep j) I,O⟩,J⟩,⟨x,s _ _ ht (Ne.symm L),Paired.imp' (λ_ _ q=>q.keep j λ_ e=>d e (λ_ z=>nomatch z)) l,hn⟩,⟨bs,s _ _ G (Ne.symm R),aF.aV j A⟩,?_,λp l=>aY.but (W.tabs p l) (λps e=>d e λ_ z=>nomatch z) λb φ e=>d e λ_ z=>nomatch z⟩;rcases W.hb with h|⟨o,h⟩
 ·exact .inl (d h (λ_ z=>nomatch z))
 ·exact .inr ⟨o,d h (λ_ z=>nomatch z)⟩
noncomputable abbrev ee(x:Str):HO:=.tup [.str iH,.str x]
structure Rf(BC C bd:hO)(T:List (hO×Str×List Pos))(y:Zw)(aD:Aa)(r:Str)(g:En)(D:gx)(F:List En)(H0:Hp)(l:hO)(as:List hO)(H:Hp):Prop where
 W:Ws BC C bd T y aD r g D F H
 n1:l≠y.d
 n2:l≠y.z.l
 n3:l≠y.t
 n4:l≠y.u
 nw:∀o,H0 l=some o->(∀ps,o≠ .dy ps)->(∀φ,o≠ .ext φ)->l=y.z.e
 kp:Kp y H0 H
 h:H l=some (.lst (as.map V.ref))
 ts:∀b∈as,H b=some (ee iW)
def Rf.new(W:Ws BC C bd T y aD r g D F H)(N:Nd bd y)(kp:Kp y H0 H)(i:H l=none)(t:H p=some (ee iW)):Rf BC C bd T y aD r g D F H0 l [p] (upd H l (.lst [.ref p])):=by
 have a:∀{b:hO}{o:HO},H b=some o->l≠b:=λ{b o}e z=>by simp_all
 have s:=AE (aB.refl H) i (o:=HO.lst [.ref p]);obtain⟨B,E,h⟩:=W.di;obtain⟨u,ht,_⟩:=W.tb;obtain⟨bs,v,_⟩:=W.du;obtain⟨A,d,_⟩:=W.B.de;refine⟨W.same N s,a h,a d,a ht,a v,λo e j q=>Classical.byContradiction λz=>?_,kp.trans (.nx (.same s)),aA,λb x=>?_⟩
 ·have:=kp l o e (a h) z (a d) (a ht) j q;rw[i]at this;cases this
 ·cases z6.mp x;exact s _ _ t
def Rf.more(R:Rf BC C bd T y aD r g D F H0 l as H)(k:Kt H H1)(n:Nx H1 a)(t:Ws BC C bd T y aD r g D F a)(A:a p=some (ee iW)):a l=some (.lst (as.map V.ref))/\Rf BC C bd T y aD r g D F H0 l (as++[p]) (upd a l (.lst (as.map V.ref++[.ref p]))):=by
 have h:=n _ _ (k _ _ R.h λ_ z=>nomatch z) λ_ _ z=>nomatch z;refine⟨h,t.own h R.n1 R.n2 R.n3 R.n4,R.n1,R.n2,R.n3,R.n4,R.nw,λb o e q i u x j d=>?_,by rw[aA,zR];rfl,λb v=>?_⟩
 ·by_cases z:b=l
  ·subst z;exact absurd (R.nw o e j d) i
  ·rw[AD z];exact((R.kp.trans k.kp).trans (.nx n)) b o e q i u x j d
 ·have e:a b=some (ee iW):=by
   rcases mem_append.mp v with z|z
   ·exact n _ _ (k _ _ (R.ts b z) λ_ z=>nomatch z) λ_ _ z=>nomatch z
   ·simp_all
  rwa[AD (λz=>by simp_all)]
def Lf(a b:Nat):(a)-Builtin.bitAnd (a) (b)=((a-(a&&&b):Nat):Int):=by
 rw[Cl,Int.ofNat_sub Nat.and_le_left]
def Ch.gv(h:Ch aD r F D g)(a:x∈c4)(ok:gi aD r g):Ch aD r (F++[ez g x n]) (D++[(x,g x)]) (ez g x n):=.snoc F D g _ x h a (λy d=>by unfold ez Eo;simp_all) (λ_=>by unfold ez Eo;simp_all) ok
def Ch.take{a}{r}(h:Ch a r (F++[g']) D g):(D=[]/\F=[])\/∃i d x,D=i++[(x,d x)]/\Ch a r F i d/\x∈c4/\Eo g x (d x)=d/\(d x=none->g x≠none)/\gi a r d:=by
 generalize e:F++[g']=F1 at h;cases h with
 |nil=>exact .inl ⟨rfl,(append_inj' (e.trans (nil_append _).symm) rfl).1⟩
 |snoc o l g2 _ x h j p n ok=>
  obtain⟨rfl,_⟩:=append_inj' e rfl;refine .inr ⟨l,g2,x,zJ,h,j,?_,n,ok⟩;funext y;unfold Eo
  simp_all
def Ch.drop(h:Ch aD r F D g)(d:x∈c4)(ok:gi aD r g)(a:g x≠none):Ch aD r (F++[Eo g x none]) (D++[(x,g x)]) (Eo g x none):=.snoc F D g _ x h d (λy e=>by unfold Eo;simp_all) (λz=>absurd z a) ok
end
inductive spLr(K:FG)(BC C bd:hO)(T:List (hO×Str×List Pos))(vs:hK)(H:Hp)(Q:VK)(_E:XK):Prop
 |mk (y) (aD) (r) (g) (D) (F) (x) (aW:vs=[.ref y.d,.ref y.z.b,.ref y.t,.ref y.u,.str r,.str x]) (aX:Ws BC C bd T y aD r g D F H) (bz:Nd bd y) (bQ:Ch aD r F D g) (cw:D.length<99) (cX:DF aD) (eN:0<aD.length) (ff:r∈b9) (z_x:x∈c4)
  (z_8:∀q a b g' D' F' H',H' q=some (.tup [a,b])->Dq K H' a b->Ws BC C bd T y aD r g' D' F' H'->Ch aD r F' D' g'->Kp y H H'->D'.length<=D.length+1->Q (.ref q) H')
end
section
inductive spLs(K:FG)(BC C bd:hO)(T:List (hO×Str×List Pos))(vs:hK)(H:Hp)(Q:VK)(_E:XK):Prop
 |mk (y) (aD) (r) (g) (D) (F) (aW:vs=[.ref y.d,.ref y.z.b,.ref y.t,.ref y.u,.str r]) (aX:Ws BC C bd T y aD r g D F H) (bz:Nd bd y) (bQ:Ch aD r F D g) (cw:D.length<99) (cX:DF aD) (eN:0<aD.length) (ff:r∈b9)
  (z_8:∀q a b g' D' F' H',H' q=some (.tup [a,b])->Dq K H' a b->Ws BC C bd T y aD r g' D' F' H'->Ch aD r F' D' g'->Kp y H H'->D'.length<=D.length+1->Q (.ref q) H')
noncomputable abbrev NLs:hA:=[ia,iu,jk,iN,je,iL,"_law_own",iw,"_law_kind",i4,iA,"_law_is_there","_law_deeds","_law_fewer"]
noncomputable abbrev pLs:hA:=[ia,iu,jk,iN,je]
def scLs:AH NLs pLs (defScope C3):=bA
def Yf(F:eQ ω iV iV C3 f fd c)(hC:W.CodeHd base c P0)(hBu:base.BuiltinsAt mg P0)(TB:TdB P w ω mg base ec cM)(M:(P0,q2,fv)∈T)(un:∀q∈T,q.1=P0->q=(P0,q2,fv))(B:Bl mg)(mD:mg iT=none)(BT:DA ω BC)(EPB:Gs ω ec cM cB 5)(EPN:Gs ω ec cM cN 10)
  (GT:Fn P w ω mg base jH 2 [iN] spTable) (GWo:Fn P w ω mg base kK 3 [ia] spLwo) (GRo:Fn P w ω mg base iP 2 [ia,iO] spRollB) (GNm:Fn P w ω mg base lK 3 [ia,iN,iY] spLn') (GGv:Fn P w ω mg base kY 1 [iL,iw,iA] spLgv)
  (GPu:Mt P w ω mg base BC "put" 7 [hZ,ij,i1] (spPu BC C)) (GMk:Dd P w ω mg base BC "mark" 7 [hZ,ij,"more"] (spMr gOr BC C cB)) (GUm:Dd P w ω mg base BC "unmark" 7 [hZ,ij,"less"] (spMr Lk BC C cB)) (GTn:Dd P w ω mg base BC "turn" 7 [hZ,ij] (spTn BC C cB)) (GDr:Dd P w ω mg base BC ma 4 [hZ,ij] (spDr BC C cB)) (GTk:Dd P w ω mg base BC lV 3 [hZ] (spTk BC C cN))
  (GRk:Fn P w ω mg base iE 11 [ia,iu,jk,iN,je,iw] (spLr ω BC C bd T)):aE P w ω mg base aS 12 f fd pLs (spLs ω BC C bd T):=by
 refine F.ok scLs (λvs H Q E h=>?_) (λA outer s H vs Q E G h=>?_)
 ·obtain⟨_,_,_,_,_,_,rfl⟩:=h;rfl
 ·have nd:=scLs.nd;have hu:=Bp G;have TD:=TB.at (N:=NLs) (q:=iV) (sc:=defScope C3) (f:=f) (A:=A) (outer:=outer) (s:=s) (H:=H) (E:=E) hC hBu (ls:=fv) (by rfl);have L:aJ (8+2) _:=G.mono qc
  refine⟨_,AC (Bd (hs:=by rfl) (hw:=by rfl) (Ai (AA (An (Ak ω zJ) (pv 2) (Cu Cw AF) (λ_ _=>rfl)) (bG (cI GT G (cj (pv 3))) (cI GWo G (cj (pv 0)))))) (BM zJ (AW (AU (i:=5) nd zJ (Or.inl zJ)) (AW (AU (i:=6) nd zJ (Or.inl zJ)) (AW (AU (i:=7) nd zJ (Or.inr zJ)) A9)))))
   (AC (Ab (i:=8) nd rfl (Or.inl rfl) (cI GRo G (bG (pv 0) AF)))
   (AC (Bd (cI GNm G (AA (pv 0) (bG (pv 3) AF))) (BM rfl (AW (AU (i:=9) nd rfl (Or.inr rfl)) (AW (AU (i:=10) nd rfl (Or.inl rfl)) A9))))
   (Aq (Ab (i:=11) nd rfl (Or.inl rfl) (NY (HC hu (pv 7) (pv 5))))
   (AC (AY (AK E7 (pv 8) AF (AN _)) (AC (Ae (Bn plainAttrs_list PySem.F.slot_list_append PySem.F.type_list_append Au (pv 2) (cj (cI GGv G (AA (pv 5) (bG (pv 7) (pv 10)))))))
     (AB (AI (Ai (bG (Ht TD L 0 [iu,iw,i4] [1,7,9] (λlf c' A' j s' U E G=>gW (pv 0) BT.cl GPu G (bG (pv 1) (pv 2)))) EH))))) AM)
    (AC (AY (PW.pt (CA (AK E7 (pv 8) AF (AN _)) (Bg (Aw (Ao (pv 11))))))
     (AC (Ab (i:=12) nd rfl (Or.inl rfl) (A5 (cj (Ht TD L 1 [iu,iw,i4] [1,7,9] (λlf c' A' j s' U E G=>Em (pv 0) BT.cl GMk G EA (bG (pv 1) (pv 2)))))))
     (AC (Ae (Bn plainAttrs_list PySem.F.slot_list_append PySem.F.type_list_append Au (pv 12) (cj (Ht TD L 2 [iu,iw,i4] [1,7,9] (λlf c' A' j s' U E G=>Em (pv 0) BT.cl GUm G EA (bG (pv 1) (pv 2)))))))
     (AC (Ae (Bn plainAttrs_list PySem.F.slot_list_append PySem.F.type_list_append Au (pv 12) (cj (Ht TD L 3 [iu,iw] [1,7] (λlf c' A' j s' U E G=>Em (pv 0) BT.cl GTn G EA (cj (pv 1)))))))
     (AC (Ae (Bn plainAttrs_list PySem.F.slot_list_append PySem.F.type_list_append Au (pv 12) (cj (Ht TD L 4 [iu,iw] [1,7] (λlf c' A' j s' U E G=>Em (pv 0) BT.cl GDr G EA (cj (pv 1)))))))
     (AB (AI (Ai (bG (pv 12) (AZ (UR ω rfl) (A5 (cj (Ai (bG AL AL)))) AF))))))))) AM)
    (AC (AY (AK As (pv 8) AF (AN _)) (AC (Ae (Bn plainAttrs_list PySem.F.slot_list_append PySem.F.type_list_append Au (pv 2) (cj (cI GGv G (AA (pv 5) (bG (pv 7) (AZ Ia (An (Ad ω rfl) (Av hu (pv 5) (pv 7) (λ_ _=>rfl)) AF (λ_ _=>rfl)) (pv 10)))))))) (AB (AI (Ai (bG (Ht TD L 5 [iu,iw,i4] [1,7,9] (λlf c' A' j s' U E G=>Em (pv 0) BT.cl GMk G EA (bG (pv 1) (BG (RE ω rfl) rfl B.tuple C4 (cj (pv 2)))))) EH))))) AM)
    (AC (AY (AK As (pv 8) AF (AN _)) (AC (Ae (Bn plainAttrs_list PySem.F.slot_list_append PySem.F.type_list_append Au (pv 2) (cj (cI GGv G (AA (pv 5) (bG (pv 7) (AZ Bx (An (Ad ω rfl) (Av hu (pv 5) (pv 7) (λ_ _=>rfl)) AF (λ_ _=>rfl)) (AZ CD (An (Ad ω rfl) (Av hu (pv 5) (pv 7) (λ_ _=>rfl)) AF (λ_ _=>rfl)) (pv 10))))))))) (AB (AI (Ai (bG (Ht TD L 6 [iu,iw,i4] [1,7,9] (λlf c' A' j s' U E G=>Em (pv 0) BT.cl GUm G EA (bG (pv 1) (pv 2)))) EH))))) AM)
    (AC (AY (AK As (pv 8) AF (AN _)) (AC (Ae (Bn plainAttrs_list PySem.F.slot_list_append PySem.F.type_list_append Au (pv 2) (cj (cI GGv G (AA (pv 5) (bG (pv 7) (AZ Bx (Av hu (pv 6) AL (λ_ _=>rfl)) (AZ CD (Av hu (pv 6) AL (λ_ _=>rfl)) (An (Ad ω rfl) (Av hu (pv 5) (pv 7) (λ_ _=>rfl)) AF (λ_ _=>rfl)))))))))) (AB (AI (Ai (bG (Ht TD L 7 [iu,iw] [1,7] (λlf c' A' j s' U E G=>Em (pv 0) BT.cl GTn G EA (cj (pv 1)))) EH))))) AM)
    (AC (AY (AK As (pv 8) AF (AN _)) (AC (Ab (i:=13) nd rfl (Or.inl rfl) (BG JB rfl mD LZ (cj (pv 5)))) (AC (Ae (Ik (pv 13) (pv 7) ⟨rfl,rfl,rfl,rfl⟩)) (AC (Ae (Bn plainAttrs_list PySem.F.slot_list_append PySem.F.type_list_append Au (pv 2) (cj (pv 13)))) (AB (AI (Ai (bG (Ht TD L 8 [iu,iw] [1,7] (λlf c' A' j s' U E G=>Em (pv 0) BT.cl GDr G EA (cj (pv 1)))) EH))))))) AM)
    (AC (AY (AK As (pv 8) AF (AN _)) (AC (AY (AK As (AR (A3 ω rfl) rfl B.len PySem.boot_len (cj (pv 2))) AF (AN _)) (AB (AI (Ai (bG (Ht TD L 9 [iu] [1] (λlf c' A' j s' U E G=>Pu (pv 0) BT.cl GTk G EA)) (Ai (bG AL AL)))))) AM) (AC (Ae (EO plainAttrs_list slot_list_pop type_list_pop FK (pv 2))) (AB (AI (Ai (bG (Ht TD L 10 [iu] [1] (λlf c' A' j s' U E G=>Pu (pv 0) BT.cl GTk G EA)) EH)))))) AM)
    (AB (AI (cI GRk G (AA (pv 0) (AA (pv 1) (AA (pv 2) (AA (pv 3) (bG (pv 4) (pv 7))))))))))))))))))),?_⟩
  obtain⟨y,t,r,g,D,Fs,rfl,W,v,ch,hD,dk,gD,hrn,q⟩:=h;obtain⟨tas,ht,Z,hn⟩:=W.tb;obtain⟨⟨F0,eF⟩,lF⟩:=ch.last;obtain⟨bs,gB,hu2⟩:=W.du;subst eF;obtain⟨ts,a,rfl,ak,ha⟩:=BQ Z;refine⟨_,zJ,_,zJ,⟨y.t,_,-1,.ref a,zJ,zJ,aH.of ht,IU _ _,_,zJ,⟨y.u,bs,t,zJ,gB,hu2,dk.len,dk.lt,λo e m ms H1 s1 h1 h2 h3 h4=>?_⟩⟩⟩;have W1:=W.same v s1;obtain⟨a0,b0,gq⟩:=W1.di;refine⟨_,zJ,⟨y.d,a0,b0,zJ,gq,λx H2 s2 hx=>⟨by show 3<=sizeLine;decide,λp am=>?_⟩⟩⟩;have W2:=W1.b6 v s2;have s3:=AE (aB.refl H2) am (o:=HO.tup [.ref a,.ref o,.str x]);refine⟨p,_,zJ,aP.of aA,zJ,_,_,zJ,_,_,zJ,_,_,zJ,zJ,?_⟩;generalize upd H2 p (HO.tup [.ref a,.ref o,.str x])=H3 at s3;have W3:=W2.same v s3;obtain⟨a1,b1,gR⟩:=W3.di;refine⟨_,zJ,⟨y.d,a1,b1,8,zJ,gR,qc,by trivial,λi a' b' i0 i8=>?_⟩⟩;have s4:aK y.d H3 (upd H3 y.d (.lst [.int a',.int b'])):=⟨λb o e h=>by rw[AD h];exact e,⟨a',b',aA⟩⟩;generalize upd H3 y.d (.lst [.int a',.int b'])=H4 at s4;have W4:=W3.b6 v s4;obtain⟨a2,b2,gc⟩:=W4.di;obtain⟨bs4,hu4,ht4⟩:=W4.du;refine⟨_,zJ,_,zJ,⟨y.d,y.u,4,a2,b2,bs4,t,zJ,gc,hu4,ht4,gD,dk,qc,v.ud,λp5 l ns H5 s5 hl0 hq hl Nm=>?_⟩⟩;refine⟨p5,_,zJ,aP.of hq,zJ,_,_,zJ,_,_,zJ,zJ,?_⟩;have W5:=W4.b6 v s5;have Y:Kp y H H5:=((((Kp.nx (.same s1)).trans (.one s2.old (.inl rfl))).trans (.nx (.same s3))).trans (.one s4.old (.inl rfl))).trans (.one s5.old (.inl rfl));have ol:∀b u,H b=some u->b≠y.d->H5 b=some u:=λb u e hb=>s5.old _ _ (s4.old _ _ (s3 _ _ (s2.old _ _ (s1 _ _ e) hb)) hb) hb;have S:=ol _ _ ht (Ne.symm v.dt)
  have ho5:H5 o=some (.dK (Ss t e m)):=by
   have hod:o≠y.d:=λz=>by simp_all
   exact s5.old _ _ (s4.old _ _ (s3 _ _ (s2.old _ _ h1 hod)) hod) hod
  have lne:∀b u,H4 b=some u->l≠b:=λb u e z=>by simp_all
  obtain⟨_,⟨I,hk,EK⟩,hae,_⟩:=W5.at S
  have eis:(Am I (Sum.inr x)).isSome=(g x).isSome:=by
   cases e:g x with
   |none=>rw[EK.no e];rfl
   |some z=>
    obtain⟨t',h1,_⟩:=EK.vl x z.1 z.2 e
    simp_all
  refine⟨λσ U=>U=H5/\σ=[some (.ref y.d),some (.ref y.z.b),some (.ref y.t),some (.ref y.u),some (.str r),some (.ref a),some (.ref o),some (.str x),some (.int i),some (.ref l),some (.int (Aj (ns.map (look t)):Nat)),some (.bl (g x).isSome),none,none],λR hR=>⟨_,zJ,_,zJ,a,_,zJ,.inl ⟨_,Sum.inr x,.inl hk,zJ,zJ⟩,by rw[eis];exact hR _ _ ⟨zJ,zJ⟩⟩,?_⟩;rintro σ U ⟨rfl,rfl⟩
  have lt:l≠y.t:=by
   obtain⟨_,h,_⟩:=W4.tb;exact lne _ _ h
  have kl:kn t<2^20:=EU λn hn=>by
   obtain⟨p,Z,rfl⟩:=zO.mp hn;exact dk.lt p Z
  have asc:Asc t:=λp Z=>(dk.nm p Z).2.1;have hF:(F0++[g]).length<200:=by rw[lF];lia
  have hTb:cV U a g:=⟨I,hk,EK⟩
  have fin:∀{g' D' F' H6},Kp y H H6->Ws BC C bd T y t r g' D' F' H6->Ch t r F' D' g'->D'.length<=D.length+1->∀p,H6 p=none->Q (.ref p) (upd H6 p (.tup [.aO,.aO])):=λ{g' D' F' H6}k6 J c6 l6 p Z=>by
   have sp:=AE (aB.refl H6) Z (o:=HO.tup [V.aO,V.aO]);exact q p .aO .aO g' D' F' _ aA .aO (J.same v sp) c6 (k6.trans (.nx (.same sp))) l6
  have lD1:∀b,(D++[(x,b)]).length<=D.length+1:=λb=>by simp
  refine⟨_,zJ,_,_,zJ,zJ,_,zJ,BH (λh=>?_) (λh=>?_)⟩
  ·refine⟨_,rfl,.inl ⟨rfl,_,aH.of S⟩,_,rfl,_,rfl,_,rfl,⟨a,g,x,_,rfl,hTb,hx,λp H1 s1 Z ht=>?_⟩⟩;obtain⟨xs,X,ln,o6,J⟩:=W5.gv v s1 Z ht hF;refine⟨y.t,_,_,rfl,rfl,X,ln,J.tabs _ M,λH7 s7 t7=>?_⟩;obtain⟨k7,O⟩:=J.td v M un s7 t7;exact⟨_,rfl,O.B.no ⟨_,rfl,_,rfl,⟨y.z,t,r,g,D,x,l,ns,rfl,O.B,hx,by lia,k7 _ _ (o6 _ _ hl lt) (λ_ z=>nomatch z),Nm,O.dn v λH8 k8 W8=>⟨by trivial,fin (((Y.trans (.one o6 (.inr rfl))).trans k7.kp).trans k8) W8 (ch.gv hx W.B.ok) (lD1 _)⟩⟩⟩⟩
  have fD:¬ i<2:=λz=>h (Zm z);refine⟨_,zJ,_,_,zJ,zJ,_,zJ,?_⟩;by_cases h6:i<6
  ·rw[Zm h6];refine Ah ⟨_,rfl,_,rfl,?_⟩;cases hg:g x with
   |none=>
    refine Ah ⟨W5.tabs _ M,λH6 s6 t6=>?_⟩;obtain⟨k6,J⟩:=W5.td v M un s6 t6;refine⟨_,zJ,J.B.no ⟨_,zJ,_,zJ,.no y.z t r g D x _ zJ J.B hg (J.uq v EPB λp1 H7 n7 O e7=>⟨by show 1<=sizeLine;decide,λl1 hl1=>?_⟩)⟩⟩;have R1:=Rf.new O v ((Y.trans k6.kp).trans (.nx n7)) hl1 e7;generalize upd H7 l1 (.lst [.ref p1])=H8 at R1;refine⟨_,zJ,.inl ⟨zJ,_,aH.of R1.h⟩,R1.W.tabs _ M,λHa sa ta=>?_⟩;obtain⟨ka,Wa⟩:=R1.W.td v M un sa ta;refine⟨_,zJ,Wa.B.no ⟨_,zJ,_,zJ,.no y.z t r g D x _ zJ Wa.B hg (Wa.uq v EPB λp2 Hb nb Wb eb=>?_)⟩⟩;obtain⟨X,R2⟩:=R1.more ka nb Wb eb;refine⟨l1,_,_,zJ,zJ,X,by show 1<sizeLine;decide,?_⟩;generalize upd Hb l1 (.lst (([p1]:List hO).map V.ref++[.ref p2]))=H11 at R2;clear sa ta ka Wa nb Wb eb X;refine⟨_,zJ,.inl ⟨zJ,_,aH.of R2.h⟩,R2.W.tabs _ M,λHa sa ta=>?_⟩;obtain⟨ka,Wa⟩:=R2.W.td v M un sa ta;refine⟨_,zJ,Wa.B.no ⟨_,zJ,.no y.z t r g D x zJ Wa.B hg (Wa.uq v EPB λp3 Hb nb Wb eb=>?_)⟩⟩;obtain⟨e2,R3⟩:=R2.more ka nb Wb eb;refine⟨l1,_,_,zJ,zJ,e2,by show 2<sizeLine;decide,?_⟩;generalize upd Hb l1 (.lst (([p1]++[p2]:List hO).map V.ref++[.ref p3]))=H12 at R3;clear sa ta ka Wa nb Wb eb e2;refine⟨_,zJ,.inl ⟨zJ,_,aH.of R3.h⟩,R3.W.tabs _ M,λHa sa ta=>?_⟩;obtain⟨ka,Wa⟩:=R3.W.td v M un sa ta;refine⟨_,zJ,Wa.B.no ⟨_,zJ,.no y.z t r g D x zJ Wa.B hg (Wa.uq v EPB λp4 Hb nb Wb eb=>?_)⟩⟩;obtain⟨e3,R4⟩:=R3.more ka nb Wb eb;refine⟨l1,_,_,zJ,zJ,e3,by show 3<sizeLine;decide,?_⟩;generalize upd Hb l1 (.lst (([p1]++[p2]++[p3]:List hO).map V.ref++[.ref p4]))=H13 at R4;clear sa ta ka Wa nb Wb eb e3;refine⟨_,zJ,by trivial,λp5 gp=>⟨by show 1<=sizeLine;decide,λl5 hl5=>⟨l5,_,4,zJ,zJ,aH.of aA,qc,qc,λl6 hl6=>⟨by show 2<=sizeLine;decide,λp6 gP=>?_⟩⟩⟩⟩;have sa:=AE (aB.refl _) gp (o:=ee iW);have ha:(upd H13 p5 (ee iW)) p5=some (ee iW):=aA;generalize upd H13 p5 (ee iW)=Ha at sa ha hl5 hl6 gP;have sb:=AE (aB.refl _) hl5 (o:=HO.lst [.ref p5]);generalize upd Ha l5 (HO.lst [.ref p5])=Hb at sb hl6 gP;have sc:=AE (aB.refl _) hl6 (o:=HO.lst (List.replicate (4:Int).toNat (.ref p5)));have hc:(upd Hb l6 (HO.lst (List.replicate (4:Int).toNat (.ref p5)))) l6=some (.lst (List.replicate (4:Int).toNat (.ref p5))):=aA;generalize upd Hb l6 (HO.lst (List.replicate (4:Int).toNat (.ref p5)))=Hc at sc hc gP;have sd:=AE (aB.refl _) gP (o:=HO.tup [.ref l1,.ref l6]);have hq6:(upd Hc p6 (HO.tup [.ref l1,.ref l6])) p6=some (.tup [.ref l1,.ref l6]):=aA;generalize upd Hc p6 (HO.tup [.ref l1,.ref l6])=Hd at sd hq6;have s4:aB H13 Hd:=λb o e=>sd _ _ (sc _ _ (sb _ _ (sa _ _ e)));have h5:=sd _ _ (sc _ _ (sb _ _ ha));have tt:∀{b},b∈ [p1]++[p2]++[p3]++[p4]->Hd b=some (ee iW):=λhb=>s4 _ _ (R4.ts _ hb)
    exact q p6 _ _ g D _ Hd hq6 ⟨_,Te (s4 _ _ R4.h) (tt (by simp)) (tt (by simp)) (tt (by simp)) (tt (by simp)),Te (sd _ _ hc) h5 h5 h5 h5,qd,FE λd hd=>by
     simp at hd;subst hd
     rfl⟩ (R4.W.same v s4) ch (R4.kp.trans (.nx (.same s4))) (Nat.le_succ _)
   |some z=>
    obtain⟨n0,c0⟩:=z;obtain⟨t',v1,v2⟩:=EK.vl x n0 c0 hg;refine AV ?_;refine⟨_,zJ,zJ,_,zJ,BH (λe2=>?_) (λe2=>?_)⟩
    ·refine⟨_,rfl,.inl ⟨rfl,_,aH.of S⟩,_,rfl,_,rfl,_,rfl,_,rfl,a,_,rfl,.inl ⟨_,Sum.inr x,.inl hk,rfl,v1.symm⟩,t',_,0,_,rfl,rfl,aP.of v2,rfl,_,rfl,_,_,rfl,rfl,⟨a,g,x,gOr n0 (Aj (ns.map (look t))),congrArg (λz=>[V.ref a,V.str x,V.int z]) (Cf _ _),hTb,hx,λp H1 s1 Z ht=>?_⟩⟩;obtain⟨xs,X,ln,o6,J⟩:=W5.gv v s1 Z ht hF;refine⟨y.t,_,_,rfl,rfl,X,ln,J.tabs _ M,λH7 s7 t7=>?_⟩;obtain⟨k7,O⟩:=J.td v M un s7 t7;have hl7:=k7 _ _ (o6 _ _ hl lt) (λ_ z=>nomatch z);have kp7:=(Y.trans (.one o6 (.inr rfl))).trans k7.kp;refine⟨_,rfl,O.B.no ⟨_,rfl,_,rfl,l,_,rfl,.inl ⟨aH.of hl7,λtp htp=>?_⟩⟩⟩;have sp:=AE (aB.refl H7) htp (o:=HO.tup (ns.map V.str));have W8:=O.same v sp;exact .mk y.z t r g D x tp ns true n0 c0 rfl W8.B hx (by lia) aA Nm asc hg (W8.dn v λH9 k9 W9=>⟨by trivial,fin ((kp7.trans (.nx (.same sp))).trans k9) W9 (ch.gv hx W.B.ok) (lD1 _)⟩)
    refine⟨_,zJ,zJ,_,zJ,BH (λe3=>?_) (λe3=>?_)⟩
    ·refine⟨_,rfl,.inl ⟨rfl,_,aH.of S⟩,_,rfl,_,rfl,_,rfl,_,rfl,a,_,rfl,.inl ⟨_,Sum.inr x,.inl hk,rfl,v1.symm⟩,t',_,0,_,rfl,rfl,aP.of v2,rfl,_,rfl,_,rfl,a,_,rfl,.inl ⟨_,Sum.inr x,.inl hk,rfl,v1.symm⟩,t',_,0,_,rfl,rfl,aP.of v2,rfl,_,rfl,_,_,rfl,rfl,_,_,rfl,rfl,⟨a,g,x,Lk n0 (Aj (ns.map (look t))),congrArg (λz=>[V.ref a,V.str x,V.int z]) (Lf _ _),hTb,hx,λp H1 s1 Z ht=>?_⟩⟩;obtain⟨xs,X,ln,o6,J⟩:=W5.gv v s1 Z ht hF;refine⟨y.t,_,_,rfl,rfl,X,ln,J.tabs _ M,λH7 s7 t7=>?_⟩;obtain⟨k7,O⟩:=J.td v M un s7 t7;have kp7:=(Y.trans (.one o6 (.inr rfl))).trans k7.kp;exact⟨_,rfl,O.B.no ⟨_,rfl,_,rfl,.mk y.z t r g D x l ns false n0 c0 rfl O.B hx (by lia) (k7 _ _ (o6 _ _ hl lt) (λ_ z=>nomatch z)) Nm asc hg (O.dn v λH9 k9 W9=>⟨by trivial,fin (kp7.trans k9) W9 (ch.gv hx W.B.ok) (lD1 _)⟩)⟩⟩
    refine⟨_,zJ,zJ,_,zJ,BH (λe4=>?_) (λe4=>?_)⟩
    ·refine⟨_,zJ,.inl ⟨zJ,_,aH.of S⟩,_,zJ,_,zJ,_,zJ,o,_,zJ,.inl ⟨_,Sum.inr jf,.inl ho5,zJ,(CP _ _ _).symm⟩,_,zJ,o,_,zJ,.inl ⟨_,Sum.inr jf,.inl ho5,zJ,(CP _ _ _).symm⟩,_,zJ,_,zJ,a,_,zJ,.inl ⟨_,Sum.inr x,.inl hk,zJ,v1.symm⟩,t',_,0,_,zJ,zJ,aP.of v2,zJ,_,_,zJ,zJ,_,_,zJ,zJ,⟨a,g,x,kn t-(kn t&&&n0),congrArg (λz=>[V.ref a,V.str x,V.int z]) (Lf _ _),hTb,hx,λp H1 s1 Z ht=>?_⟩⟩;obtain⟨xs,X,ln,o6,J⟩:=W5.gv v s1 Z ht hF;refine⟨y.t,_,_,zJ,zJ,X,ln,J.tabs _ M,λH7 s7 t7=>?_⟩;obtain⟨k7,O⟩:=J.td v M un s7 t7;exact⟨_,zJ,O.B.no ⟨_,zJ,.mk y.z t r g D x n0 c0 zJ O.B hx (by lia) kl hg (O.dn v λH9 k9 W9=>⟨by trivial,fin (((Y.trans (.one o6 (.inr zJ))).trans k7.kp).trans k9) W9 (ch.gv hx W.B.ok) (lD1 _)⟩)⟩⟩
    refine⟨_,zJ,zJ,_,zJ,BH (λe5=>?_) (λe5=>?_)⟩
    ·refine⟨_,zJ,a,I,zJ,.inl hk,λp Z=>?_⟩;have s6:=AE (aB.refl U) Z (o:=HO.dK I);have u6:(upd U p (.dK I)) p=some (.dK I):=aA;generalize upd U p (.dK I)=H6 at s6 u6;refine⟨_,zJ,p,zJ,.inl ⟨_,.inl u6⟩,_,zJ,I,Sum.inr x,_,u6,zJ,v1,?_⟩;have s7:aB U (upd H6 p (.dK (Bo I (Sum.inr x)))):=λb o e=>by rw[AD (AJ e Z)];exact s6 _ _ e
     have u7:(upd H6 p (.dK (Bo I (Sum.inr x)))) p=some (.dK (Bo I (Sum.inr x))):=aA;generalize upd H6 p (.dK (Bo I (Sum.inr x)))=H7 at s7 u7;obtain⟨xs,X,ln,o8,W8⟩:=W5.gv v s7 Z ⟨_,u7,(EK.keep λb xs e=>s7 _ _ e).drop⟩ hF;refine⟨_,zJ,.inl ⟨zJ,_,aH.of X⟩,_,zJ,y.t,_,_,zJ,zJ,X,ln,W8.tabs _ M,λH9 s9 t9=>?_⟩;obtain⟨k9,W9⟩:=W8.td v M un s9 t9;exact⟨_,zJ,W9.B.no ⟨_,zJ,.mk y.z t r g D x n0 c0 zJ W9.B (by lia) hg (W9.dn v λH10 k10 W10=>⟨by trivial,fin (((Y.trans (.one o8 (.inr zJ))).trans k9.kp).trans k10) W10 (ch.drop hx W.B.ok (by rw[hg];simp)) (lD1 _)⟩)⟩⟩
    ·have n2:i≠2:=λz=>e2 (Zm (congrArg V.int z));have n3:i≠3:=λz=>e3 (Zm (congrArg V.int z));have n4:i≠4:=λz=>e4 (Zm (congrArg V.int z));have n5:i≠5:=λz=>e5 (Zm (congrArg V.int z))
     lia
  ·rw[Zp h6]
   have no:∀k:Int,k<6->decide (V.int i=V.int k)=true->False:=λk hk z=>by
    have:=V.int.inj (Zv z)
    lia
   refine AV (AV ⟨_,zJ,zJ,_,zJ,BH (λz=>(no _ qc z).elim) λ_=>⟨_,zJ,zJ,_,zJ,BH (λz=>(no _ qc z).elim) λ_=>⟨_,zJ,zJ,_,zJ,BH (λz=>(no _ qc z).elim) λ_=>⟨_,zJ,zJ,_,zJ,BH (λz=>(no _ qc z).elim) λ_=>?_⟩⟩⟩⟩);refine⟨_,zJ,zJ,_,zJ,BH (λ_=>?_) (λ_=>?_)⟩
   ·obtain⟨hpt,_,_,hnt⟩:=W5.at S;have lt0:=Fw hpt;refine⟨_,zJ,y.t,_,zJ,.inl (aH.of S),zJ,_,zJ,BH (λX=>?_) (λX=>?_)⟩
    ·have l1:(((ts++[a]).map V.ref).length:Int)=1:=V.int.inj (Zv X);rw[AQ,z7]at l1;rw[z7]at lF;have d0:D=[]:=List.eq_nil_of_length_eq_zero (by simp at l1 lF;lia);subst d0;refine⟨W5.tabs _ M,λH6 s6 t6=>?_⟩;obtain⟨k6,J⟩:=W5.td v M un s6 t6;refine⟨_,zJ,J.B.no (.no y.z t r g zJ J.B (J.uq v EPN λp1 H7 n7 O e7=>⟨by trivial,λp2 am=>⟨by show 2<=sizeLine;decide,λp3 hp3=>?_⟩⟩))⟩;have sa:=AE (aB.refl _) am (o:=ee jb);have ha:(upd H7 p2 (ee jb)) p2=some (ee jb):=aA;generalize upd H7 p2 (ee jb)=H8 at sa ha hp3;have sb:=AE (aB.refl _) hp3 (o:=HO.tup [.ref p1,.ref p2]);have s2:aB H7 _:=λb o e=>sb _ _ (sa _ _ e);exact q p3 _ _ g [] _ _ aA (.two (s2 _ _ e7) (sb _ _ ha) qd) (O.same v s2) ch (((Y.trans k6.kp).trans (.nx n7)).trans (.nx (.same s2))) (Nat.le_succ _)
    ·refine⟨_,zJ,.inl ⟨zJ,_,aH.of S⟩,y.t,_,.ref a,zJ,zJ,S,by simp,?_⟩;have el:((ts++[a]).map V.ref).dropLast=ts.map V.ref:=by rw[zR];exact dropLast_concat
     rw[el];have o6:∀b o,U b=some o->b≠y.t->(upd U y.t (.lst (ts.map V.ref))) b=some o:=λb o e hb=>by rw[AD hb];exact e
     have J:=W5.pop v S hpt hnt;generalize upd U y.t (.lst (ts.map V.ref))=H6 at o6 J;refine⟨J.tabs _ M,λH7 s7 t7=>?_⟩;obtain⟨k7,O⟩:=J.td v M un s7 t7;rcases ch.take with⟨rfl,z⟩|⟨D0,g0,x0,rfl,c0,hx0,eg,hn0,ok0⟩
     ·rw[z]at lt0;exact absurd (Zm (by simp_all)) X
     ·refine⟨_,zJ,O.B.no (.mk y.z t r g D0 x0 (g0 x0) zJ O.B hx0 hn0 (λn c e=>ok0 x0 n c e) (O.dn v λH9 k9 W9=>⟨by trivial,fin (((Y.trans (.one o6 (.inr zJ))).trans k7.kp).trans k9) (eg ▸ W9) c0 (by rw[z7];lia)⟩))⟩
   ·exact⟨_,zJ,_,zJ,_,zJ,_,zJ,_,zJ,_,zJ,.mk y t r g D _ x zJ W5 v ch hD dk gD hrn hx λp a b g' D' F' H6 X e2 e3 e4 k l=>q p a b g' D' F' H6 X e2 e3 e4 (Y.trans k) l⟩
end
noncomputable abbrev cS:List Nat:=[97,98,120]
def Pw:("abx":Str).cps.toList=cS:=by rfl
def Hv:∀c∈cS,C9 c=true:=by decide
def U9{z}{g:TG}{tb:TS}{D:IV}{σ}(d:Nat->St->Hp->Prop)(t:d 0 σ H)
  (hs:∀i c σ H,z.cps[i]?=some c->d i σ H->g (.str ⟨#[c]⟩) σ H λa l=>tb {D with nx:=d (i+1),ct:=d (i+1),bk:=D.nx} a l) (r:∀σ H,d z.cps.size σ H->D.nx σ H):
  ∃W:Nat->Nat->St->Hp->Prop,(∃m,W 0 m σ H)/\∀i m σ H,W i m σ H ->
   ((Its z).stop i H/\D.nx σ H)\/((Its z).go i H/\∃N,(∀h H',N h H'->∃o,o<m/\W (i+1) o h H')/\∀x H',(Its z).fZ i H x H'->g x σ H' λa l=>tb {D with nx:=N,ct:=N,bk:=D.nx} a l):=by
 refine⟨λi m σ H=>m=z.cps.size-i/\i<=z.cps.size/\d i σ H,⟨z.cps.size,by simp,Nat.zero_le _,t⟩,?_⟩;rintro i m σ H ⟨rfl,A,p⟩;by_cases j:i<z.cps.size
 ·refine .inr ⟨j,d (i+1),λh H' q=>⟨z.cps.size-(i+1),by lia,zJ,j,q⟩,λx H' y=>?_⟩;obtain⟨e,c,v,u⟩:=y;subst e;subst u;exact hs i c σ _ v p
 ·have e:i=z.cps.size:=by lia
  subst e;exact .inl ⟨zV _,r σ H p⟩
noncomputable abbrev sgn(c:Nat):Str:=⟨#[c]⟩
structure g7(g:En)(cs:List Nat)(lk:LK):Prop where
 v:∀c,Am lk (Sum.inr (sgn c))=if c∈cs then (g (sgn c)).map λp=>V.int (p.1:Int)else none
 l:lk.length<=cs.length
def Tf{a:LK}:(Ba a k v).length<=a.length+1:=by
 unfold Ba
 grind
def g7.no{g}{a}{c}(h:g7 g a lk)(i:c∉ a)(e:g (sgn c)=none):g7 g (a++[c]) lk:=by
 refine⟨λd=>?_,Nat.le_trans h.l (by simp_all)⟩;rw[h.v]
 grind
def g7.yes(h:g7 g cs lk)(e:g (sgn c)=some (n,k)):g7 g (cs++[c]) (Ba lk (Sum.inr (sgn c)) (.int (n:Int))):=by
 refine⟨λd=>?_,Nat.le_trans Tf (by rw[z7];exact Nat.succ_le_succ h.l)⟩;rw[Ih,h.v]
 grind
def Hw:∀{t:LT},t.Ok ws sg->(∀c∈sg,sgn c∈t.tr.post->c∈i)->t.Ok ws i
 |.nm _,h,_=>h
 |.no _,h,_=>h
 |.le c,h,k=>k c h (z6.mpr rfl)
 |.ng t,h,k=>Hw (t:=t) h λc d e=>k c d (Zq _ e)
 |.bn _ a b,h,k=>⟨h.1,Hw h.2.1 λc d e=>k c d (Zq _ (by grind)),Hw h.2.2 λc d e=>k c d (Zq _ (by grind))⟩
def G4:∀t:LT,t.tr.cv ⟨aD,d,tb⟩=t.tr.cv ⟨aD,k2,tb⟩
 |.nm _=>rfl
 |.no _=>rfl
 |.le _=>rfl
 |.ng t=>congrArg (λz=>kn aD-(kn aD&&&z)) (G4 t)
 |.bn g a b=>by
  show g.f (a.tr.cv _) (b.tr.cv _)=g.f (a.tr.cv _) (b.tr.cv _);rw[G4 a,G4 b]
noncomputable def sgH(g:En):List Nat:=cS.filter λc=>(g (sgn c)).isSome
def Lg(ok:gi aD r g)(h:∀c∈cS,Am kvs (Sum.inr (sgn c))=(g (sgn c)).map λp=>V.int (p.1:Int)):LtN ⟨aD,kvs,fg g⟩ (sgH g):=λc j=>by
 obtain⟨a,d⟩:=mem_filter.mp j;obtain⟨⟨n,k⟩,e⟩:=Option.isSome_iff_exists.mp d;have i:fg g (sgn c)=n:=by unfold fg;rw[e];rfl
 refine⟨Hv c a,?_,?_⟩
 ·grind
 ·show fg g (sgn c)<2^20;rw[i];exact(ok (sgn c) n k e).1
section
def Kp.dk(k:Kp y H H')(W:Ws BC C bd T y aD r g D F H)(e:H b=some (.dK kvs))(n:b≠y.z.e):H' b=some (.dK kvs):=by
 obtain⟨_,_,a⟩:=W.di;obtain⟨_,h,_⟩:=W.B.de;obtain⟨_,d,_⟩:=W.tb;exact k b _ e (λz=>by simp_all) n (λz=>by simp_all) (λz=>by simp_all) (λ_ z=>nomatch z) (λ_ z=>nomatch z)
def Kp.tp(k:Kp y H H')(W:Ws BC C bd T y aD r g D F H)(e:H b=some (.tup xs)):H' b=some (.tup xs):=by
 obtain⟨_,_,a⟩:=W.di;obtain⟨_,d,_⟩:=W.B.de;obtain⟨_,h,_⟩:=W.tb;obtain⟨_,i,_⟩:=W.B.en;exact k b _ e (λz=>by simp_all) (λz=>by simp_all) (λz=>by simp_all) (λz=>by simp_all) (λ_ z=>nomatch z) (λ_ z=>nomatch z)
end
inductive Fo(BC C bd:hO)(T:List (hO×Str×List Pos))(y:Zw)(aD:Aa)(r:Str)(g:En)(D:gx)(F:List En)(x:Str)(t:LT)(v:Nat)(fo:V)(H:Hp):Prop
 |d4 (p) (e:fo=.ref p) (h:H p=some (ee ji)) (c) (hc:c∈cS) (hm:sgn c∈t.tr.post) (hn:g (sgn c)=none) (W:Ws BC C bd T y aD r g D F H)
 |bad (p) (e:fo=.ref p) (h:H p=some (.tup [.str iH,.str ja,.int (AX aD (v):Nat)])) (hs:∀c∈cS,sgn c∈t.tr.post->g (sgn c)≠none) (hb:NP r aD v) (W:Ws BC C bd T y aD r g D F H)
 |ok (e:fo=.aO) (hs:∀c∈cS,sgn c∈t.tr.post->g (sgn c)≠none) (hb:¬ NP r aD v) (W:Ws BC C bd T y aD r (ez g x (mkN r aD v)) (D++[(x,g x)]) F H)
noncomputable def dQ(tx:Str)(g:En)(c:Nat):Bool:=decide (c∈tx.cps.toList) && !(g (sgn c)).isSome
noncomputable def ft:List Pos:=[⟨606,27,606,73⟩]
noncomputable abbrev q3:Str:="_law_reckoning.<locals>." ++ ie
noncomputable abbrev NLr:hA:=[ia,iu,jk,iN,je,iw,iL,"_law_own",kG,"_law_one",iA,iX,jU,"_law_sign",kg,"_law_left",lU]
noncomputable abbrev pLr:hA:=[ia,iu,jk,iN,je,iw]
def scLr:AH NLr pLr (defScope BL):=bA
section
def Yg(F:eQ ω iE iE BL f fd c)(hC:W.CodeHd base c P0)(hBu:base.BuiltinsAt mg P0)(TB:TdB P w ω mg base ec cM)(hT:(P0,q3,ft)∈T)(un:∀q∈T,q.1=P0->q=(P0,q3,ft))(B:Bl mg)(BT:DA ω BC)(EF:NA ω ec cR 1)(EPN:Gs ω ec cM cN 6)
  (GT:Fn P w ω mg base jH 2 [iN] spTable) (GGv:Fn P w ω mg base kY 1 [iL,iw,iA] spLgv) (GF:Fn P w ω mg base kA 7 TR spForm) (GCo:Fn P w ω mg base js 5 Jc (spCome 3)) (GLm:Fn P w ω mg base lS 1 [iL,je,iA] spLMade)
  (GRc:Dd P w ω mg base BC "reckon" 8 [hZ,ij,i6] (spRc BC C cR cN bd)):aE P w ω mg base aS 11 f fd pLr (spLr ω BC C bd T):=by
 refine F.ok scLr (λvs H Q E h=>?_) (λA outer s H vs Q E hr h=>?_)
 ·obtain⟨_,_,_,_,_,_,_,rfl⟩:=h;rfl
 ·have nd:=scLr.nd;have hu:=Bp hr;have TD:=TB.at (N:=NLr) (q:=iE) (sc:=defScope BL) (f:=f) (A:=A) (outer:=outer) (s:=s) (H:=H) (E:=E) hC hBu (ls:=ft) (by rfl)
  refine⟨_,AC (Bd (hs:=by rfl) (hw:=by rfl) (Ai (AA (An (Ak ω zJ) (pv 2) (Cu Cw AF) (λ_ _=>rfl)) (bG (cI GT hr (cj (pv 3))) Cz))) (BM zJ (AW (AU (i:=6) nd zJ (Or.inr zJ)) (AW (AU (i:=7) nd zJ (Or.inl zJ)) (AW (AU (i:=8) nd zJ (Or.inl zJ)) A9)))))
   (Aq (Bw PassesOwn.never rfl (Bh (pv 3)) (BM rfl (AW (AU (i:=9) nd rfl (Or.inl rfl)) (AW (AU (i:=10) nd rfl (Or.inl rfl)) A9))) (AB (Di hu (pv 8) (pv 9) (pv 10) rfl)))
   (Aq (Bd (cI GF hr (AA (pv 0) (bG (GH [] [] (by rfl) (by trivial) (by rfl) (by rfl) rfl (Bh (pv 3)) (λ_ _ _ _ _ _=>BS) (λ_ _ _ _ _ _=>pv 0)) AL))) (BM rfl (AW (AU (i:=16) nd rfl (Or.inr rfl)) (AW (AU (i:=11) nd rfl (Or.inl rfl)) A9))))
   (AC (Ab (i:=12) nd rfl (Or.inl rfl) Cz)
   (Aq (Bw PassesOwn.never rfl (Ir AL) (AU (i:=13) nd rfl (Or.inl rfl)) (AB (AY (Cr (HC hu (pv 13) (pv 6))) (AB (Di hu (pv 12) (pv 13) (An (Ad ω rfl) (Av hu (pv 6) (pv 13) (λ_ _=>rfl)) AF (λ_ _=>rfl)) rfl)) AM)))
   (Aq (Ab (i:=14) nd rfl (Or.inl rfl) (Ht (k:=8) TD hr 0 [iu,iw,lU] [1,5,16] (λlf c' A' outer' s' u E hr=>Em (pv 0) BT.cl GRc hr EA (bG (pv 1) (pv 2)))))
   (AC (AY (AK (Iu ω rfl hr.units) (BW [lU,iL] [some 16,some 6] (by rfl) (by trivial) (by rfl) rfl (Ir AL) (λ_ _ _ _ _ _=>F8 (PW.pt (CA (AK OE (pv 0) (pv 1) rfl) (Bg (Cr (J6 hu (pv 0) (pv 2))))))) (λ_ _ _ _ _ _=>pv 0)) (A5 AG) (AN _)) (AB (AI (Ai (bG (pv 14) (Ai (bG AL AL)))))) AM)
   (AC (Ab (i:=10) nd rfl (Or.inl rfl) (cI GLm hr (AA (pv 7) (bG (pv 4) (cI GCo hr (AA (pv 11) (AA (pv 8) (bG (Av hu (pv 7) AL (λ_ _=>rfl)) (pv 12)))))))))
   (AC (AY (Ao (Bt ω rfl rfl B.c9 rfl B.tuple C4 (pv 10))) (AC (Ab (i:=15) nd rfl (Or.inl rfl) (BU (AK As (An (Ad ω rfl) (pv 10) AF (λ_ _=>rfl)) AL (AN _)) (An (Ad ω rfl) (pv 10) AF (λ_ _=>rfl)) AF))
     (AB (AI (Ai (bG (pv 14) (BU (AK As (An (Ad ω rfl) (pv 10) AF (λ_ _=>rfl)) AL (AN _)) (Ai (AA AL (bG AL (AZ Bx (pv 15) (AZ CD (pv 15) (Av hu (pv 7) AL (λ_ _=>rfl))))))) (pv 10))))))) AM)
   (AC (Ae (Bn plainAttrs_list PySem.F.slot_list_append PySem.F.type_list_append Au (pv 2) (cj (cI GGv hr (AA (pv 6) (bG (pv 5) (pv 10)))))))
   (AB (AI (Ai (bG (pv 14) EH))))))))))))),?_⟩
  obtain⟨y,d,r,g,D,Fs,x,rfl,W,M,ch,hD,dk,gD,hrn,hx,q⟩:=h;obtain⟨tas,ht,hp,hn⟩:=W.tb;obtain⟨⟨F0,eF⟩,lF⟩:=ch.last;obtain⟨bs,gB,hu2⟩:=W.du;subst eF;obtain⟨ts,a,rfl,X,ha⟩:=BQ hp;refine⟨_,zJ,_,zJ,⟨y.t,_,-1,.ref a,zJ,zJ,aH.of ht,IU _ _,_,zJ,⟨y.u,bs,d,zJ,gB,hu2,dk.len,dk.lt,λo e m ms H1 s1 h1 h2 h3 h4=>?_⟩⟩⟩;have W1:=W.same M s1;refine λS hnu=>⟨by show 3<=sizeLine;decide,λp am=>?_⟩;have s2:=AE (aB.refl H1) hnu (o:=HO.dK []);have hn2:=aA (H:=H1) (a:=S) (o:=HO.dK []);generalize upd H1 S (HO.dK [])=H2 at s2 hn2 am;have s3:=AE (aB.refl H2) am (o:=HO.tup [.ref a,.ref o,.ref S]);refine⟨p,_,zJ,aP.of aA,zJ,_,_,zJ,_,_,zJ,_,_,zJ,zJ,?_⟩;generalize upd H2 p (HO.tup [.ref a,.ref o,.ref S])=H3 at s3;have hn3:=s3 _ _ hn2;have s13:=s2.trans s3;obtain⟨bs1,hv1,hv2⟩:=W1.du
  have gd:bs1.length=d.length:=by
   rw[hv2.length];unfold Da;rw[AQ]
  have keep:∀{H3:Hp}(o:HO),aB H1 H3->aB H1 (upd H3 S o):=λ{H3}o s b w e=>by rw[AD (AJ e hnu)];exact s b w e
  refine⟨λJ u=>(∃x9 L,J=[some (.ref y.d),some (.ref y.z.b),some (.ref y.t),some (.ref y.u),some (.str r),some (.str x),some (.ref a),some (.ref o),some (.ref S),x9,L,none,none,none,none,none,none])/\u S=some (.dK (A8 d))/\aB H1 u,λR hR=>?_,?_⟩
  ·refine⟨_,zJ,y.u,zJ,⟨_,aH.of (s13 _ _ hv1)⟩,DS (ω:=ω) (a:=y.u) (xs:=bs1.map V.ref) (λj J u=>(∃x9 L,J=[some (.ref y.d),some (.ref y.z.b),some (.ref y.t),some (.ref y.u),some (.str r),some (.str x),some (.ref a),some (.ref o),some (.ref S),x9,L,none,none,none,none,none,none])/\u S=some (.dK (A8 (d.take j)))/\aB H1 u) ⟨⟨_,_,zJ⟩,hn3,s13⟩ (λj J u _ h=>aH.of (h.2.2 _ _ hv1)) ?_ (λJ u h=>hR _ _ ?_)⟩
   ·rintro j v J H4 hj ⟨⟨x9,L,rfl⟩,hn4,s4⟩;obtain⟨bb,pr,rfl,_,X,aj⟩:=Cq (aF.aV (aU.of s4) hv2) hj;refine⟨bb,_,zJ,aP.of aj,zJ,_,_,zJ,_,_,zJ,zJ,?_⟩;have gS:=dk.len;refine⟨_,zJ,_,zJ,_,zJ,S,_,zJ,.inl ⟨_,Sum.inr pr.1,hn4,zJ,AS ?_,zJ⟩,⟨_,_,zJ⟩,?_,keep _ s4⟩
    ·unfold A8;rw[AQ,zX]
     lia
    ·rw[aA,PQ (Td dk.nd X),z0,X];rfl
   ·obtain⟨h1,h2,h3⟩:=h;rw[AQ,gd,zY]at h2;trivial
  rintro J H4 ⟨⟨x9,L,rfl⟩,hn4,s4⟩;have W4:=W1.same M s4;have ho4:=s4 _ _ h1;have ht4:=s4 _ _ (s1 _ _ ht);have hv4:=s4 _ _ hv1;have hw4:=aF.aV (aU.of s4) hv2;have kp4:Kp y H H4:=.nx (.same (s1.trans s4));refine⟨λJ u=>∃(G:Str)(tv:V)(t:LT),J=[some (.ref y.d),some (.ref y.z.b),some (.ref y.t),some (.ref y.u),some (.str r),some (.str x),some (.ref a),some (.ref o),some (.ref S),x9,L,some tv,none,none,none,none,some (.str G)]/\dc u tv t/\t.Ok (d.map (·.1)) cS/\t.ht<=3/\Wr true t.tr 0 G.cps.toList/\G.cps.all (· < 128)=true/\G.length<=56/\aK y.d H4 u,λR hR=>?_,?_⟩
  ·refine⟨_,zJ,_,zJ,y.u,zJ,⟨_,aH.of hv4⟩,CH (ω:=ω) (a:=y.u) (xs:=bs1.map V.ref) (λi ys u=>ys=((d.take i).map (·.1)).map V.str/\u=H4) ⟨zJ,zJ⟩ (λi ys u _ zz=>by obtain⟨_,e⟩:=zz;exact e ▸ aH.of hv4) (λi ys u ⟨e,_⟩=>?_) ?_ ?_⟩
   ·have:=dk.len;rw[e,AQ,AQ,zX]
    lia
   ·rintro i v ys u hi ⟨rfl,rfl⟩;obtain⟨bb,pr,rfl,_,X,aj⟩:=Cq hw4 hi;refine⟨bb,_,zJ,aP.of aj,zJ,_,_,zJ,_,_,zJ,zJ,?_⟩;refine⟨_,zJ,?_,zJ⟩;rw[z0,X,Option.toList_some,zR,zR];rfl
   ·rintro ys u ⟨rfl,rfl⟩ wl hwl;rw[AQ,gd,zY];have sw:=AE (aB.refl _) hwl (o:=HO.lst ((d.map (·.1)).map V.str));have hw5:=aA (H:=u) (a:=wl) (o:=HO.lst ((d.map (·.1)).map V.str));generalize upd u wl (HO.lst ((d.map (·.1)).map V.str))=H5 at sw hw5 ⊢;have W5:=W4.same M sw;obtain⟨x5,y5,hd5⟩:=W5.di;refine⟨y.d,wl,x5,y5,d.map (·.1),"abx",zJ,hd5,hw5,by rw[AQ];lia,by rw[AQ];exact dk.len,λx hx=>?_,by trivial,Pw ▸ Hv,λq G tv t H6 s6 hq lt ok ht wz az lz=>?_⟩
    ·obtain⟨p,hp,rfl⟩:=zO.mp hx;obtain⟨h1,h2,h3⟩:=Pl (n:=⟨d,[],fg g⟩) dk hp;have hn:=(dk.nm p hp).1;unfold B3 at hn;simp only[Bool.and_eq_true,decide_eq_true_eq]at hn;exact⟨h1.pw true (.inr zJ),h1.ok.as,h2,λc l=>by have:=all_eq_true.mp hn.2 c l;simp[DL]at this;lia⟩
    ·rw[Pw]at ok;exact⟨q,_,zJ,aP.of hq,zJ,_,_,zJ,_,_,zJ,zJ,hR _ _ ⟨G,tv,t,zJ,lt,ok,ht,wz,az,lz,⟨λb o e hb=>s6.old _ _ (sw _ _ e) hb,s6.b6⟩⟩⟩
  rintro J H5 ⟨G,tv,t,rfl,lt5,ok,ht3,wz,az,lz,s5⟩;have W5:=W4.b6 M s5;obtain⟨xd,yd,gc⟩:=W4.di;have ht5:=s5.old _ _ ht4 (Ne.symm M.dt);have hn5:=s5.old _ _ hn4 λz=>by simp_all
  obtain⟨_,⟨kvs,hk,EK⟩,hae,_⟩:=W5.at ht5;have kp5:=kp4.trans (.one s5.old (.inl rfl));have nue:S≠y.z.e:=W1.ze hnu;refine λle hle=>?_;have s6:=AE (aB.refl H5) hle (o:=HO.dK []);have hl6:=aA (H:=H5) (a:=le) (o:=HO.dK []);generalize upd H5 le (HO.dK [])=H6 at s6 hl6;have keep:∀{H3:Hp}(o:HO),aB H5 H3->aB H5 (upd H3 le o):=λ{H3}o s b w e=>by rw[AD (AJ e hle)];exact s b w e
  refine⟨λJ u=>(∃x13,J=[some (.ref y.d),some (.ref y.z.b),some (.ref y.t),some (.ref y.u),some (.str r),some (.str x),some (.ref a),some (.ref o),some (.ref S),x9,L,some tv,some (.ref le),x13,none,none,some (.str G)])/\(∃U,u le=some (.dK U)/\g7 g cS U)/\aB H5 u,λR hR=>?_,?_⟩
  ·refine⟨"abx",zJ,qb,U9 (z:="abx") (λj J u=>(∃x13,J=[some (.ref y.d),some (.ref y.z.b),some (.ref y.t),some (.ref y.u),some (.str r),some (.str x),some (.ref a),some (.ref o),some (.ref S),x9,L,some tv,some (.ref le),x13,none,none,some (.str G)])/\(∃U,u le=some (.dK U)/\g7 g (cS.take j) U)/\aB H5 u) ⟨⟨_,zJ⟩,⟨[],hl6,λc=>rfl,zV _⟩,s6⟩ ?_ (λJ u h=>hR _ _ h)⟩;rintro j c J H7 l ⟨⟨x13,rfl⟩,⟨U,hl7,LD⟩,s7⟩;have fm:cS[j]?=some c:=by rwa[←Pw,Array.getElem?_toList]
   have tk:cS.take (j+1)=cS.take j++[c]:=by rw[z0,fm];rfl
   have hnc:c∉ cS.take j:=λz=>by
    have hj:=(Z8.mp fm).1;have:j=0\/j=1\/j=2:=by simp at hj;lia
    rcases this with rfl|rfl|rfl<;>(cases fm;revert z;decide)
   have hk7:=s7 _ _ hk;refine⟨_,zJ,_,zJ,a,_,zJ,.inl ⟨_,Sum.inr (sgn c),.inl hk7,zJ,zJ⟩,_,zJ,?_⟩;cases eg:g (sgn c)with
   |none=>
    rw[EK.no eg];exact AV ⟨⟨_,zJ⟩,⟨U,hl7,tk ▸ LD.no hnc eg⟩,s7⟩
   |some z=>
    obtain⟨n0,c0⟩:=z;obtain⟨t',v1,v2⟩:=EK.vl (sgn c) n0 c0 eg;rw[v1];refine Ah ⟨_,zJ,_,zJ,a,_,zJ,.inl ⟨_,Sum.inr (sgn c),.inl hk7,zJ,v1.symm⟩,t',_,0,_,zJ,zJ,aP.of (s7 _ _ v2),zJ,_,zJ,_,zJ,le,_,zJ,.inl ⟨_,Sum.inr (sgn c),hl7,zJ,AS ?_,zJ⟩,⟨_,zJ⟩,⟨_,aA,tk ▸ LD.yes eg⟩,keep _ s7⟩;have:=LD.l;have h3:cS.length=3:=rfl;rw[zX]at this
    lia
  rintro J H7 ⟨⟨x13,rfl⟩,⟨U,hl7,LD⟩,s7⟩;have W7:=W5.same M s7;have ho7:=s7 _ _ (s5.old _ _ ho4 λz=>by simp_all);have hn7:=s7 _ _ hn5;have lt7:=lt5.aV λb xs e=>s7 _ _ e;have kp7:=kp5.trans (.nx (.same s7))
  have oe:o≠y.z.e:=λz=>by
   obtain⟨ks,h1,h2⟩:=W7.B.en;rw[←z,ho7]at h1;cases h1;obtain⟨ms,e1,e2⟩:=h2.ks;have:(Sum.inr jf:Key)∈ms.map Sum.inr:=e1 ▸ z8 ..;exact absurd (e2.w _ (inr_mem.mp this)) (by trivial)
  have EK7:=EK.keep λb xs e=>s7 _ _ e;obtain⟨v,hv⟩:∃v,v=t.tr.cv ⟨d,U,fg g⟩:=⟨_,rfl⟩;have PW:=IT (n:=⟨d,U,fg g⟩) dk ok Hv
  have hpl:t.tr.post.length<=15:=by
   have h1:=G3 t;have h2:2^(t.ht+1)<=2^4:=Nat.pow_le_pow_right qc (by lia);have h3:(2:Nat)^4=16:=by decide
   lia
  refine⟨λJ u=>∃fo,J=[some (.ref y.d),some (.ref y.z.b),some (.ref y.t),some (.ref y.u),some (.str r),some (.str x),some (.ref a),some (.ref o),some (.ref S),x9,L,some tv,some (.ref le),x13,some fo,none,some (.str G)]/\Fo BC C bd T y d r g D (F0++[g]) x t v fo u/\Kp y H7 u,λR hR=>?_,?_⟩
  ·refine⟨W7.tabs _ hT,λH8 s8 t8=>?_⟩;obtain⟨k8,W8⟩:=W7.td M hT un s8 t8;refine⟨_,zJ,W8.B.no ⟨_,zJ,_,zJ,.mk y.z d r g D x G t.tr.post zJ W8.B hx (by lia) (VP dk.lt) az (by lia) (S9 wz) (Wu PW (by lia)) W8.hb hrn ?_⟩⟩;by_cases O:∀c∈cS,sgn c∈t.tr.post->g (sgn c)≠none
   ·have ok':t.Ok (d.map (·.1)) (sgH g):=Hw ok λc l hm=>mem_filter.mpr ⟨l,Option.isSome_iff_ne_none.mpr (O c l hm)⟩;have LN:=Lg (kvs:=U) W7.B.ok λc l=>by rw[LD.v,zM l]
    refine .go v (λs hs hl=>?_) (λkvs' TG=>?_) (hv ▸ Le (n:=⟨d,U,fg g⟩) dk LN ok') ?_
    ·obtain⟨c,l,rfl⟩:=(PW s hs).m hl;exact O c l hs
    ·rw[hv,G4 (k2:=kvs') t];exact TF (Pv (n:=⟨d,kvs',fg g⟩) dk (Lg W7.B.ok λc l=>TG.v _ (Hv c l)) ok')
    ·by_cases hb:NP r d v
     ·exact .inl ⟨hb,Wp EF λp H9 n9 e9=>hR _ _ ⟨_,zJ,.bad p zJ e9 O hb (W8.nx M n9),k8.kp.trans (.nx n9)⟩⟩
     ·exact .inr ⟨hb,W8.dn M λH9 k9 W9=>hR _ _ ⟨_,zJ,.ok zJ O hb W9,k8.kp.trans k9⟩⟩
   ·obtain⟨c,l,hm,hn⟩:∃c,c∈cS/\sgn c∈t.tr.post/\g (sgn c)=none:=Classical.byContradiction λz=>O λc l hm e=>z ⟨c,l,hm,e⟩;exact .d4 (sgn c) hm (Hv c l) hn (W8.uq M EPN λp H9 n9 W9 e9=>hR _ _ ⟨_,zJ,.d4 p zJ e9 c l hm hn W9,k8.kp.trans (.nx n9)⟩)
  rintro J H8 ⟨fo,rfl,FO,k8⟩;have hk8:=k8.dk W7 (s7 _ _ hk) hae;have ho8:=k8.dk W7 ho7 oe;have hn8:=k8.dk W7 hn7 nue;have hl8:=k8.dk W7 hl7 (W5.ze hle);have EK8:=EK7.keep λb xs e=>k8.tp W7 e;have lt8:=lt7.aV λb xs e=>k8.tp W7 e;have kp8:=kp7.trans k8
  have vis:∀c,(Am kvs (Sum.inr (sgn c))).isSome=(g (sgn c)).isSome:=λc=>by
   cases e:g (sgn c)with
   |none=>rw[EK8.no e];rfl
   |some z=>
    obtain⟨t',h1,_⟩:=EK8.vl _ z.1 z.2 e
    simp_all
  refine⟨"abx",zJ,qb,Gi (x:="abx") (λi ys u=>u=H8/\ys=(((cS.take i).filter (dQ G g)).map sgn).map V.str) ⟨zJ,zJ⟩ (λi ys u ⟨_,e⟩=>?_) ?_ ?_⟩
  ·rw[e,AQ,AQ];have h1:=length_filter_le (dQ G g) (cS.take i);rw[zX]at h1;have h2:cS.length=3:=rfl
   lia
  ·rintro i c ys u l ⟨rfl,rfl⟩;have fm:cS[i]?=some c:=by rwa[←Pw,Array.getElem?_toList]
   have e1:(cS.take (i+1)).filter (dQ G g)=(cS.take i).filter (dQ G g)++[c].filter (dQ G g):=by rw[z0,fm,Option.toList_some,List.filter_append]
   have y1:dQ G g c=true->(((cS.take (i+1)).filter (dQ G g)).map sgn).map V.str=(((cS.take i).filter (dQ G g)).map sgn).map V.str++[V.str (sgn c)]:=λz=>by
    simp_all
   have y0:dQ G g c=false->(((cS.take (i+1)).filter (dQ G g)).map sgn).map V.str=(((cS.take i).filter (dQ G g)).map sgn).map V.str:=λz=>by
    rw[e1,List.filter_cons_of_neg (by rw[z];decide)];simp
   refine⟨_,zJ,_,zJ,c,G,zJ,zJ,_,zJ,BH (λz=>?_) (λz=>?_)⟩
   ·refine⟨_,zJ,_,zJ,a,_,zJ,.inl ⟨_,Sum.inr (sgn c),.inl hk8,zJ,zJ⟩,_,zJ,?_⟩;rw[vis c];refine BH (λw=>⟨_,zJ,zJ,(y1 ?_).symm⟩) (λw=>⟨zJ,(y0 ?_).symm⟩)
    ·unfold dQ;rw[z,w];rfl
    ·unfold dQ;rw[Bool.eq_false_iff.mpr w,Bool.and_false]
   ·refine AV ⟨zJ,(y0 ?_).symm⟩;unfold dQ;rw[Bool.eq_false_iff.mpr z];rfl
  rintro ys u ⟨rfl,rfl⟩ p1 X;rw[take_of_length_le (by trivial)];have sa:=AE (aB.refl _) X (o:=HO.lst (((cS.filter (dQ G g)).map sgn).map V.str));have ha:=aA (H:=u) (a:=p1) (o:=HO.lst (((cS.filter (dQ G g)).map sgn).map V.str));generalize upd u p1 (HO.lst (((cS.filter (dQ G g)).map sgn).map V.str))=Ha at sa ha;refine⟨by simp,λp2 am=>?_⟩;have sb:=AE (aB.refl _) am (o:=HO.lst []);have hb:=aA (H:=Ha) (a:=p2) (o:=HO.lst []);generalize upd Ha p2 (HO.lst [])=Hb at sb hb;have s9:=sa.trans sb;refine⟨_,_,Cd (sb _ _ ha) (Go _),Cd (ds:=[]) hb (by rw[Bq]),Ej λz hz=>?_,by rfl,_,zJ,?_⟩
  ·obtain⟨c,l,rfl⟩:=zO.mp hz;have:=(mem_filter.mp l).1;simp at this;rcases this with rfl|rfl|rfl<;>decide +kernel
  rw[PX];have txm:=λc l=>Ye wz PW (Hv c l);have kp9:=kp8.trans (.nx (.same s9));have ho9:=s9 _ _ ho8;have hl9:=s9 _ _ hl8;have hn9:=s9 _ _ hn8;have lt9:=lt8.aV λb xs e=>s9 _ _ e
  have nil:(∀c∈cS,sgn c∈t.tr.post->g (sgn c)≠none)->cS.filter (dQ G g)=[]:=λhs=>by
   refine List.filter_eq_nil_iff.mpr λc l z=>?_;unfold dQ at z;rw[Bool.and_eq_true]at z;have:=hs c l ((txm c l).mp (Zv z.1));exact this (Option.isNone_iff_eq_none.mp (by simpa using z.2))
  rcases FO with⟨p,rfl,h,c,l,hm,hn,W8⟩|⟨p,rfl,h,hs,Y,W8⟩|⟨rfl,hs,Y,W8⟩
  ·have gC:c∈cS.filter (dQ G g):=mem_filter.mpr ⟨l,by unfold dQ;rw[Zm ((txm c l).mpr hm),hn];rfl⟩;have W9:=W8.same M s9;cases e:cS.filter (dQ G g)with
   |nil=>rw[e]at gC;cases gC
   |cons c2 gy=>
    refine Ah ⟨_,zJ,by trivial,λp5 gp=>⟨by show 2<=sizeLine;decide,λp6 Z=>?_⟩⟩;have sc:=AE (aB.refl _) gp (o:=ee ji);have hc5:=aA (H:=Hb) (a:=p5) (o:=ee ji);generalize upd Hb p5 (ee ji)=Hc at sc hc5 Z;have sd:=AE (aB.refl _) Z (o:=HO.tup [.ref p,.ref p5]);have s2:aB Hb _:=λb o e=>sd _ _ (sc _ _ e);exact q p6 _ _ g D _ _ aA (.two (s2 _ _ (s9 _ _ h)) (sd _ _ hc5) qd) (W9.same M s2) ch (kp9.trans (.nx (.same s2))) (Nat.le_succ _)
  ·have ok':t.Ok (d.map (·.1)) (sgH g):=Hw ok λc l hm=>mem_filter.mpr ⟨l,Option.isSome_iff_ne_none.mpr (hs c l hm)⟩;have LN:=Lg (kvs:=U) W.B.ok λc l=>by rw[LD.v,zM l]
   have W9:=W8.same M s9;rw[nil hs];refine AV ⟨_,zJ,_,zJ,_,zJ,_,zJ,_,zJ,o,_,zJ,.inl ⟨_,Sum.inr jf,.inl ho9,zJ,(CP _ _ _).symm⟩,_,zJ,.mk tv S le t ⟨d,U,fg g⟩ (sgH g) zJ lt9 ok' (.inl hl9) (λc l=>⟨(LN c l).1,(LN c l).2.1⟩) ht3 hn9 dk (.mk o e m d r _ zJ ho9 (Z1 _) ?_)⟩;rw[←hv];have h9:=s9 _ _ h
   have w3:∀{p5:hO}{Hc:Hp},aB Hb Hc->Hc p5=some (.tup [.str iH,.str ja,.int (AX d (v:Int):Nat)])->∀p6,Hc p6=none->Q (.ref p6) (upd Hc p6 (.tup [.ref p,.ref p5])):=λ{p5 Hc}sc l p6 Z=>by
    have sd:=AE (aB.refl _) Z (o:=HO.tup [.ref p,.ref p5]);have s2:=sc.trans sd;exact q p6 _ _ g D _ _ aA ⟨_,NS (s2 _ _ h9),NS (sd _ _ l),NT qb qb,Ta _ _ _⟩ (W9.same M s2) ch (kp9.trans (.nx (.same s2))) (Nat.le_succ _)
   obtain⟨st,eX⟩:=Y;have no1:¬ decide (V.str iH=V.str "left")=true:=by decide +kernel
   rcases eX with eX|eX
   ·refine .inl ⟨st,eX,λp9 hp9=>?_⟩;have sc:=AE (aB.refl _) hp9 (o:=HO.tup [.str iH,.str ja,.int (AX d (v:Int):Nat)]);have I:=aA (H:=Hb) (a:=p9) (o:=HO.tup [.str iH,.str ja,.int (AX d (v:Int):Nat)]);generalize upd Hb p9 (HO.tup [.str iH,.str ja,.int (AX d (v:Int):Nat)])=Hc at sc I;refine⟨_,zJ,_,_,_,true,zJ,.tup I,zJ,_,zJ,Ah ?_⟩;refine⟨_,zJ,p9,_,0,_,zJ,zJ,aP.of I,zJ,zJ,_,zJ,BH (λz=>absurd z no1) λ_=>?_⟩;exact⟨_,zJ,_,zJ,p9,_,0,_,zJ,zJ,aP.of I,zJ,zJ,_,zJ,BH (λz=>absurd z no1) λ_=>⟨_,zJ,by show 2<=sizeLine;decide,w3 sc I⟩⟩
   ·refine .inr (.inl ⟨λz=>absurd (eX.symm.trans z.2) (by trivial),st,eX,λp9 hp9=>?_⟩);have sc:=AE (aB.refl _) hp9 (o:=HO.tup [.str "left",.int (v:Int)]);have I:=aA (H:=Hb) (a:=p9) (o:=HO.tup [.str "left",.int (v:Int)]);generalize upd Hb p9 (HO.tup [.str "left",.int (v:Int)])=Hc at sc I;have hoc:=sc _ _ ho9;have es:(v:Int)-Builtin.bitAnd (v:Int) ((kn d:Nat):Int)=((AX d (v:Int):Nat)):=by rw[Lf,NU]
    refine⟨_,zJ,_,_,_,true,zJ,.tup I,zJ,_,zJ,Ah ?_⟩;refine⟨_,zJ,p9,_,0,_,zJ,zJ,aP.of I,zJ,zJ,_,zJ,BH (λ_=>?_) λz=>absurd (by rfl) z⟩;refine⟨_,zJ,p9,_,1,_,zJ,zJ,aP.of I,zJ,?_⟩;refine⟨_,zJ,_,zJ,p9,_,0,_,zJ,zJ,aP.of I,zJ,zJ,_,zJ,BH (λ_=>?_) λz=>absurd (by rfl) z⟩;refine⟨_,zJ,_,zJ,_,zJ,o,_,zJ,.inl ⟨_,Sum.inr jf,.inl hoc,zJ,(CP _ _ _).symm⟩,_,_,zJ,zJ,_,_,zJ,zJ,by show 3<=sizeLine;decide,λp5 gp=>⟨by show 2<=sizeLine;decide,?_⟩⟩;have sd:=AE sc gp (o:=HO.tup [.str iH,.str ja,.int ((v:Int)-Builtin.bitAnd (v:Int) ((kn d:Nat):Int))]);exact w3 sd (aA.trans (congrArg (λz=>some (HO.tup [.str iH,.str ja,.int z])) es))
  ·have ok':=Hw ok λc l hm=>mem_filter.mpr ⟨l,Option.isSome_iff_ne_none.mpr (hs c l hm)⟩;have LN:=Lg (kvs:=U) W.B.ok λc l=>by rw[LD.v,zM l]
   have W9:=W8.same M s9;rw[nil hs];refine AV ⟨_,zJ,_,zJ,_,zJ,_,zJ,_,zJ,o,_,zJ,.inl ⟨_,Sum.inr jf,.inl ho9,zJ,(CP _ _ _).symm⟩,_,zJ,.mk tv S le t ⟨d,U,fg g⟩ (sgH g) zJ lt9 ok' (.inl hl9) (λc l=>⟨(LN c l).1,(LN c l).2.1⟩) ht3 hn9 dk (.mk o e m d r _ zJ ho9 (Z1 _) ?_)⟩;rw[←hv];refine .inr (.inr ⟨λz=>Y ⟨z.1,.inl z.2⟩,λz=>Y ⟨z.1,.inr z.2⟩,?_⟩);refine⟨_,zJ,_,_,_,false,zJ,.int _,zJ,_,zJ,AV ?_⟩;obtain⟨tas9,ht9,_⟩:=W9.tb;refine⟨_,zJ,.inl ⟨zJ,_,aH.of ht9⟩,_,zJ,_,zJ,_,zJ,⟨a,g,x,mkN r d v,zJ,⟨kvs,s9 _ _ hk8,EK8.keep λb xs e=>s9 _ _ e⟩,hx,λp H1 s1 hp ht=>?_⟩⟩;obtain⟨xs,e1,ln,o6,W6⟩:=W9.gv M s1 hp ht (by lia);refine⟨y.t,_,_,zJ,zJ,e1,ln,_,zJ,by trivial,λp6 Z=>?_⟩;have sd:=AE (aB.refl _) Z (o:=HO.tup [V.aO,V.aO]);exact q p6 .aO .aO _ _ _ _ aA .aO (W6.same M sd) (ch.gv hx W.B.ok) ((kp9.trans (.one o6 (.inr zJ))).trans (.nx (.same sd))) (by simp)
end
noncomputable def fV:List Pos:=[⟨628,21,628,50⟩]
noncomputable abbrev q1:Str:="law.<locals>." ++ ie
noncomputable abbrev Yh:hA:=[iD,ia,"_law_rows",iN,je,iu,jk,"_law_turn",kg,"_law_right"]
def scLaw:AH Yh [iD] (defScope OP):=bA
structure Yi(P:Program)(w:World)(K:FG)(mg:SV)(base:Heap)(BC C:hO):Prop where
 T:DA K BC
 cls:mg "Book"=some (.ref BC)
 make:∃f fd,Mk K BC f/\aE P w K mg base aS 1 f fd [hZ,iy] (spBi BC C)/\Binds K fd [hZ,iy] []
abbrev st0(a:hO)(f:Nat->Option V):St:=[some (.ref a),f 1,f 2,f 3,f 4,f 5,f 6,f 7,f 8,f 9]
structure RdI(a l bd:hO)(T:List (hO×Str×List Pos))(as:List hO)(i:Nat)(σ:St)(H:Hp):Prop where
 st:∃f,σ=st0 a f
 hl:H l=some (.lst (as.map V.ref))
 hb:Rd H bd (.dK Cj)
 tb:∀p∈T,aY H p.1 p.2.1 p.2.2
 ds:∀j b,i<=j->as[j]?=some b->∃x y,H b=some (.lst [.int x,.int y])
section
inductive spLaw(K:FG)(T:List (hO×Str×List Pos))(bd:hO)(vs:hK)(H:Hp)(Q:VK)(_E:XK):Prop
 |mk (a) (ns:List Int) (aW:vs=[.ref a]) (aX:aH K H a (ns.map V.int)) (bz:ns.length<=63) (bQ:(∀p∈T,aY H p.1 p.2.1 p.2.2)) (cw:Rd H bd (.dK Cj)) (cX:∀H',Q (.bl true) H')
def Wv(F:eQ ω lA lA OP f fd c)(hC:W.CodeHd base c P0)(hBu:base.BuiltinsAt mg P0)(TB:TdB P w ω mg base ec cM)(hT:(P0,q1,fV)∈T)(un:∀p∈T,∀q∈T,q.1=p.1->q=p)(B:Bl mg)(EPN:Gs ω ec cM cN 10)(KO:Tc P w ω mg base C)(BO:Yi P w ω mg base BC C)
  (GRd:Fn P w ω mg base la 2 [iD,iY] (spRounds ω)) (GL:Fn P w ω mg base lC 3 [ia,iY] spLines) (GRu:Fn P w ω mg base ku 3 [ia] spRuleOf) (GRo:Fn P w ω mg base iP 2 [ia,iO] spRollB)
  (GSt:Fn P w ω mg base iV 12 pLs (spLs ω BC C bd T)) (GBl:Fn P w ω mg base jX 7 [iu,iL] (spBl BC C)) (GTk:Dd P w ω mg base BC lV 3 [hZ] (spTk BC C cN)) (GLn:Mt P w ω mg base BC lp 1 [hZ] (spLn BC C)):aE P w ω mg base aS 13 f fd [iD] (spLaw ω T bd):=by
 obtain⟨fI,dI,MI,GI,⟨gI,kbI⟩,ds,bI,vI⟩:=KO.make;obtain⟨fB,dB,MB,GB,bB⟩:=BO.make;obtain⟨fL,dL,GLn,mL,bL⟩:=GLn.ex;have BT:=BO.T;refine F.ok scLaw (λvs H Q E h=>?_) (λA Z s H vs Q E M h=>?_)
 ·obtain⟨a,ns,rfl,_⟩:=h;rfl
 ·have nd:=scLaw.nd;have hu64:=M.units;have eX:aJ 2 _:=M.mono qc;have hr7:aJ 7 _:=M.mono qc;have TD:=TB.at (N:=Yh) (q:=lA) (sc:=defScope OP) (f:=f) (A:=A) (outer:=Z) (s:=s) (H:=H) (E:=E) hC hBu (ls:=fV) qb;have hrT:aJ (3+2) _:=M.mono qc
  refine⟨_,AC (Bw PassesOwn.never zJ (Bh (cI GRd M (bG (pv 0) AF))) (AU (i:=1) nd zJ (Or.inl zJ))
    (AC (Bd (cI GL M (bG (pv 1) AF)) (BM rfl (AW (AU (i:=2) nd rfl (Or.inl rfl)) (AW (AU (i:=3) nd rfl (Or.inl rfl)) A9))))
    (AC (Ab (i:=4) nd rfl (Or.inl rfl) (cI GRu M (cj (pv 1))))
    (Aq (Bd (hs:=by kernel_rfl) (hw:=by kernel_rfl) (Ai (bG (Ko MB GB eX rfl BO.cls bB .nil AT (cj (Ru MI GI hr7 rfl KO.cls kbI (cj (pv 2)) (Ot (pv 4) RZ))) qc) (A5 (cj Cz)))) (BM rfl (AW (AU (i:=5) nd rfl (Or.inr rfl)) (AW (AU (i:=6) nd rfl (Or.inl rfl)) A9))))
    (Aq (Bw PassesOwn.never rfl (CB rfl B.range (cj (cI GRo M (bG (pv 1) AF)))) (AU (i:=7) nd rfl (Or.inl rfl))
     (AC (Bd (cI GSt M (AA (pv 1) (AA (pv 5) (AA (pv 6) (bG (pv 3) (pv 4)))))) (BM rfl (AW (AU (i:=8) nd rfl (Or.inl rfl)) (AW (AU (i:=9) nd rfl (Or.inl rfl)) A9))))
     (AB (AY (PW.pt (CW (AK (Iu ω rfl hu64) (pv 8) (pv 9) (AN _)) (Bc (Aw (Ao (cI GBl M (bG (pv 5) (An (Ak ω rfl) (pv 6) (Cu Cw AF) (λ_ _=>rfl))))))))) (AB Ag) AM))))
    (Aq (Bw PassesOwn.never rfl (CB rfl B.range (cj (AZ Bx (AR (A3 ω rfl) rfl B.len PySem.boot_len (cj (pv 6))) AF))) (AU (i:=7) nd rfl (Or.inl rfl))
     (AC (Ae (EO plainAttrs_list slot_list_pop type_list_pop FK (pv 6)))
     (AB (AY (PW.pt (CW (Cr (Om (Pu (pv 5) BT.cl GTk M TY))) (Bc (Aw (Ao (cI GBl M (bG (pv 5) (An (Ak ω rfl) (pv 6) (Cu Cw AF) (λ_ _=>rfl))))))))) (AB Ag) AM))))
    (AB (AY (PW.pt (CW (AK (Iu ω rfl hu64) (Ht TD hrT 0 [iu] [5] (λlf c' A' outer' s' I E M=>Pu (pv 0) BT.cl GTk M EA)) (Ai (bG AL AL)) (AN _)) (Bc (AK DU (AR (IC GLn eX bL mL) rfl B.len PySem.boot_len (cj (pv 5))) AF (AN _))))) (AB Ag) AM))))))))
   (AB (AI DR)),?_⟩
  obtain⟨a,ns,rfl,hS,h63,hTab,hB,kend⟩:=h;refine⟨_,zJ,a,ns,zJ,hS,h63,λl as H1 s1 hl nd' hla h5 bo=>?_⟩;refine⟨l,zJ,⟨_,aH.of hl⟩,DS (ω:=ω) (a:=l) (xs:=as.map V.ref) (λi J H2=>RdI a l bd T as i J H2) ⟨⟨λ_=>none,zJ⟩,hl,aB.rd s1 hB,λp hp=>aY.same s1 (hTab p hp),λj b _ e=>(bo b (Zr e)).2⟩ (λi J H2 _ R=>aH.of R.hl) ?_ (λJ H2 R=>by obtain⟨f,rfl⟩:=R.st;exact kend _)⟩;rintro i v J H2 hi RI;rw[z4]at hi;obtain⟨d,f9,rfl⟩:=Z6.mp hi;obtain⟨x,y,hd⟩:=RI.ds i d (zV _) f9;obtain⟨g,rfl⟩:=RI.st;refine⟨_,zJ,d,x,y,6,zJ,qc,qc,hd,λq f u fs bs0 G Ha sXa hq hfn hun hf hP hu0 ap r0 r10 RO au=>?_⟩;refine⟨q,_,zJ,aP.of hq,zJ,_,_,zJ,_,_,zJ,zJ,?_⟩;obtain⟨xa,ya,hda⟩:=sXa.b6;have fd_:f≠d:=λz=>by rw[z,hd]at hfn;cases hfn
  have ud:u≠d:=λz=>by rw[z,hd]at hun;cases hun
  have DO:=Mz RO (by lia);refine⟨_,rfl,d,xa,ya,rfl,hda,λr X aq S=>?_⟩;obtain⟨xb,yb,hdb⟩:=S.b6;have tX:aU Ha X:=λb xs e=>S.old _ _ e (Ol e hda λz=>nomatch z);have ao:=S.old _ _ hu0 ud;have hbsb:=aF.aV tX ap;have hPb:Paired (cC X) fs G:=CO tX hP;have hfb:=S.old _ _ hf fd_;have ob:∀b o,H2 b=some o->b≠d->X b=some o:=λb o e hb=>S.old _ _ (sXa.old _ _ e hb) hb;refine⟨λJ I=>∃yy:Zw,J=[some (.ref a),some (.ref d),some (.ref f),some (.ref u),some (.str r),some (.ref yy.z.b),some (.ref yy.t),g 7,g 8,g 9]/\yy.d=d/\yy.u=u/\Nd bd yy/\Ws BC C bd T yy (Ar G) r (λ_=>none) [] [λ_=>none] I/\aB X I/\X yy.z.e=none/\X yy.z.l=none/\X yy.t=none,λR hR=>?_,?_⟩
  ·refine⟨_,zJ,_,zJ,?_⟩;intro k dk hk hdk ay;have sN:=El (D:=C) hk hdk ay;refine⟨k,dk,f,G,r,zJ,aA,⟨fs,sN _ _ hfb,CO (aU.of sN) hPb⟩,r0,by lia,RO,aq,λH0 sd KA=>⟨zJ,?_⟩⟩;have s0:=E3 sN hk sd;intro p dx hp ba hne2;have sM:=El (D:=BC) hp ba hne2;refine⟨p,dx,k,Ar G,r,zJ,aA,KA.same sM,λdE lE O s3 hdE hlE Bk=>⟨zJ,?_⟩⟩;have s03:=E3 sM hp s3;have nE:=none_of sM hdE;have nL:=none_of sM hlE;refine λt0 ht0=>⟨by show 1<=sizeLine;decide,λt ht=>⟨by show 2<=sizeLine;decide,λpp hpp=>?_⟩⟩;have s4:=AE (aB.refl _) ht0 (o:=HO.dK []);have h4:=aA (H:=O) (a:=t0) (o:=HO.dK []);generalize upd O t0 (.dK [])=H4 at s4 h4 ht hpp;have s5:=AE (aB.refl _) ht (o:=HO.lst [.ref t0]);have h5':=aA (H:=H4) (a:=t) (o:=HO.lst [.ref t0]);generalize upd H4 t (.lst [.ref t0])=H5 at s5 h5' hpp;have s6:=AE (aB.refl _) hpp (o:=HO.tup [.ref p,.ref t]);refine⟨pp,_,zJ,aP.of aA,zJ,_,_,zJ,_,_,zJ,zJ,?_⟩;generalize upd H5 pp (.tup [.ref p,.ref t])=H6 at s6;have s36:aB O H6:=λb o e=>s6 _ _ (s5 _ _ (s4 _ _ e));have L:aB X H6:=λb o e=>s36 _ _ (s03 _ _ (s0 _ _ e));have Bk6:=Bk.same s36;have nt:O t=none:=none_of s4 ht;obtain⟨_,hen,_⟩:=Bk.en;obtain⟨_,hde,_⟩:=Bk.de;have pr:∀{b:hO}{o:HO},X b=some o->∀{c:hO},H0 c=none->b≠c:=λ{b o}e{c}n z=>by rw[z]at e;rw[s0 _ _ e]at n;cases n
   have pr3:∀{b:hO}{o:HO},X b=some o->b≠t:=λ{b o}e z=>by rw[z]at e;rw[s03 _ _ (s0 _ _ e)]at nt;cases nt
   have hbb:∃o,X bd=some o:=by
    rcases RI.hb with h|⟨o,h⟩
    ·exact⟨_,ob _ _ h λz=>by rw[z,hd]at h;cases h⟩
    ·exact⟨_,ob _ _ h λz=>by rw[z,hd]at h;cases h⟩
   obtain⟨ob',hbb⟩:=hbb;refine hR _ _ ⟨⟨⟨p,k,dE,lE⟩,d,t,u⟩,rfl,rfl,rfl,⟨pr hdb nL,pr3 hdb,λz=>?_,ud,pr ao nL,pr3 ao,pr hbb nE⟩,⟨⟨xb,yb,L _ _ hdb⟩,Bk6,⟨[t0],s6 _ _ h5',.cons ⟨[],s6 _ _ (s5 _ _ h4),⟨⟨[],rfl,nodup_nil,λx hx=>(by cases hx),λx=>⟨λz=>(by cases z),λz=>absurd rfl z⟩⟩,λx n c e=>nomatch e⟩⟩ .nil,λb hb=>?_⟩,⟨bs0,L _ _ ao,aF.aV (aU.of L) hbsb⟩,?_,λp hp=>aY.same L (aY.sameX hda S (aY.sameX hd sXa (RI.tb p hp)))⟩,L,none_of s0 nE,none_of s0 nL,none_of s0 (none_of s03 nt)⟩
   ·rw[show lE=t from z]at hde;rw[nt]at hde;cases hde
   ·cases z6.mp hb;exact λz=>by rw[show t0=dE from z,hen]at ht0;cases ht0
   ·rcases RI.hb with h|⟨o,h⟩
    ·exact .inl (L _ _ (ob _ _ h λz=>by rw[z,hd]at h;cases h))
    ·exact .inr ⟨o,L _ _ (ob _ _ h λz=>by rw[z,hd]at h;cases h)⟩
  rintro J O ⟨y,rfl,ey1,ey2,Nn,W3,s3,nE,nL,nt⟩;subst ey1;subst ey2;have gD:0<(Ar G).length:=by rw[B6];exact r0
  have fin:∀{g':En}{D':gx}{F':List En}{I:Hp}{cK:St},Kp y O I->Ws BC C bd T y (Ar G) r g' D' F' I->(∃f,cK=st0 a f)->RdI a l bd T as (i+1) cK I:=λ{g' D' F' I cK}k W' e=>by
   have kl:∀{b:hO}{xs:hK},H2 b=some (.lst xs)->b≠y.d->I b=some (.lst xs):=λ{b xs}e hb=>by
    have e1:=ob _ _ e hb;exact k b _ (s3 _ _ e1) hb (λz=>by rw[z,nE]at e1;cases e1) (λz=>by rw[z,nL]at e1;cases e1) (λz=>by rw[z,nt]at e1;cases e1) (λ_ z=>nomatch z) (λ_ z=>nomatch z)
   refine⟨e,kl RI.hl (λz=>hla (z ▸ Zr f9)),W'.hb,W'.tabs,λj b hj eb=>?_⟩
   have hbd:b≠y.d:=λz=>by
    subst z;obtain⟨hj2,ej⟩:=Z8.mp eb;obtain⟨fD,ei⟩:=Z8.mp f9;exact(List.pairwise_iff_getElem.mp nd') i j fD hj2 (by lia) (by rw[ei,ej])
   obtain⟨x5,y5,e5⟩:=RI.ds j b (by lia) eb;exact⟨x5,y5,kl e5 hbd⟩
  obtain⟨x3,y3,gR⟩:=W3.di;refine⟨λJ I=>(∃x7 x8 x9,J=[some (.ref a),some (.ref y.d),some (.ref f),some (.ref y.u),some (.str r),some (.ref y.z.b),some (.ref y.t),x7,x8,x9])/\∃g D F,Ws BC C bd T y (Ar G) r g D F I/\Ch (Ar G) r F D g/\D.length<=31/\Kp y O I,λR hR=>?_,?_⟩
  ·refine⟨_,zJ,y.d,x3,y3,31,zJ,gR,qc,qb,λn a' b' n0 n31=>⟨n,zJ,?_⟩⟩;have s4:aK y.d O (upd O y.d (.lst [.int a',.int b'])):=⟨λb o e h=>by rw[AD h];exact e,⟨a',b',aA⟩⟩;generalize upd O y.d (.lst [.int a',.int b'])=H4 at s4;have W4:=W3.b6 Nn s4;refine⟨by lia,by lia,Ep (lo:=0) (n:=n.toNat) (λj J I=>(∃x7 x8 x9,J=[some (.ref a),some (.ref y.d),some (.ref f),some (.ref y.u),some (.str r),some (.ref y.z.b),some (.ref y.t),x7,x8,x9])/\∃g D F,Ws BC C bd T y (Ar G) r g D F I/\Ch (Ar G) r F D g/\D.length<=j/\Kp y O I) ⟨⟨_,_,_,zJ⟩,_,_,_,W4,.nil,zV _,.one s4.old (.inl zJ)⟩ ?_ (λJ I m=>by obtain⟨h1,g,D,F,h2,h3,h4,h5⟩:=m;exact hR _ _ ⟨h1,g,D,F,h2,h3,by lia,h5⟩)⟩;rintro j J H5 hj ⟨⟨x7,x8,x9,rfl⟩,g,D,F,W5,ch,lD,kp⟩;refine⟨_,zJ,_,zJ,_,zJ,_,zJ,_,zJ,.mk y (Ar G) r g D F zJ W5 Nn ch (by lia) DO gD aq λq a1 b1 g' D' F' H6 e6 dq U ch6 k6 l6=>⟨q,_,zJ,aP.of e6,zJ,_,_,zJ,_,_,zJ,zJ,?_⟩⟩;obtain⟨dd,q1',q2',Y,q4'⟩:=dq;refine⟨_,zJ,_,zJ,dd,dd,q1',q2',Y,Y,_,zJ,?_⟩;rw[q4'];obtain⟨⟨F0,eF⟩,_⟩:=ch6.last;subst eF;obtain⟨tas,ht6,gP,_⟩:=U.tb;obtain⟨ts,ta,rfl,_,_⟩:=BQ gP;obtain⟨_,tb6,te6,_⟩:=U.at ht6;refine AV ⟨_,zJ,_,zJ,_,zJ,⟨y.t,_,-1,.ref ta,zJ,zJ,aH.of ht6,IU _ _,.mk y.z (Ar G) r g' D' ta zJ U.B tb6 te6 λH7 s7=>⟨_,zJ,AV ⟨⟨_,_,_,zJ⟩,g',D',_,U.same Nn s7,ch6,by lia,(kp.trans k6).trans (.nx (.same s7))⟩⟩⟩⟩
  rintro J H4 ⟨⟨x7,x8,x9,rfl⟩,g0,D0,F0,W4,ch4,lD4,kp4⟩;clear W3;obtain⟨tas4,ht4,hp4,_⟩:=W4.tb;have lt4:tas4.length=D0.length+1:=by rw[Fw hp4,ch4.last.2]
  refine⟨λJ I=>(∃x7 x8 x9,J=[some (.ref a),some (.ref y.d),some (.ref f),some (.ref y.u),some (.str r),some (.ref y.z.b),some (.ref y.t),x7,x8,x9])/\∃F,Ws BC C bd T y (Ar G) r (λ_=>none) [] F I/\Kp y O I,λR hR=>?_,?_⟩
  ·refine⟨_,zJ,y.t,_,zJ,.inl (aH.of ht4),_,_,zJ,zJ,_,zJ,by rw[AQ,lt4];lia,by rw[AQ,lt4];lia,?_⟩;rw[show(((tas4.map V.ref).length:Int)-1).toNat=D0.length by rw[AQ,lt4];lia];refine Ep (lo:=0) (n:=D0.length) (λj J I=>(∃x7 x8 x9,J=[some (.ref a),some (.ref y.d),some (.ref f),some (.ref y.u),some (.str r),some (.ref y.z.b),some (.ref y.t),x7,x8,x9])/\∃g D F,Ws BC C bd T y (Ar G) r g D F I/\Ch (Ar G) r F D g/\D.length+j=D0.length/\Kp y O I) ⟨⟨_,_,_,zJ⟩,_,_,_,W4,ch4,zJ,kp4⟩ ?_ (λJ I ⟨h1,g,D,F,h2,h3,h4,h5⟩=>hR _ _ ⟨h1,F,?_,h5⟩)
   ·rintro j J H5 hj ⟨⟨x7,x8,x9,rfl⟩,g,D,F,W5,ch,lD,kp⟩;obtain⟨⟨F1,eF⟩,_⟩:=ch.last;subst eF;obtain⟨tas,ht5,gp,_⟩:=W5.tb;obtain⟨ts,ta,rfl,_,_⟩:=BQ gp;obtain⟨hpt,_,_,hnt⟩:=W5.at ht5;rcases ch.take with⟨rfl,_⟩|⟨D1,g1,x1,rfl,c1,hx1,eg,hn1,ok1⟩
    ·exact absurd lD (by simp;lia)
    refine⟨_,zJ,.inl ⟨zJ,_,aH.of ht5⟩,y.t,_,.ref ta,zJ,zJ,ht5,by simp,?_⟩;have el:((ts++[ta]).map V.ref).dropLast=ts.map V.ref:=by rw[zR];exact dropLast_concat
    rw[el];have o6:∀b o,H5 b=some o->b≠y.t->(upd H5 y.t (.lst (ts.map V.ref))) b=some o:=λb o e hb=>by rw[AD hb];exact e
    have U:=W5.pop Nn ht5 hpt hnt;generalize upd H5 y.t (.lst (ts.map V.ref))=H6 at o6 U;refine⟨_,zJ,U.B.no (.mk y.z (Ar G) r g D1 x1 (g1 x1) zJ U.B hx1 hn1 (λn c e=>ok1 x1 n c e) (U.dn Nn λH7 k7 W7=>⟨_,zJ,AV ?_⟩))⟩;rw[eg]at W7;obtain⟨⟨F2,eF2⟩,_⟩:=c1.last;subst eF2;obtain⟨tas7,ht7,hp7,_⟩:=W7.tb;obtain⟨ts7,ta7,rfl,_,_⟩:=BQ hp7;obtain⟨_,tb7,te7,_⟩:=W7.at ht7;refine⟨_,zJ,_,zJ,_,zJ,⟨y.t,_,-1,.ref ta7,zJ,zJ,aH.of ht7,IU _ _,.mk y.z (Ar G) r g1 D1 ta7 zJ W7.B tb7 te7 λH8 s8=>⟨_,zJ,AV ⟨⟨_,_,_,zJ⟩,g1,D1,_,W7.same Nn s8,c1,?_,((kp.trans (.one o6 (.inr zJ))).trans k7).trans (.nx (.same s8))⟩⟩⟩⟩;rw[z7]at lD;have:D1.length+1+j=D0.length:=lD
    lia
   ·have d0:D=[]:=List.eq_nil_of_length_eq_zero (by lia);subst d0
    have g0':g=λ_=>none:=by
     generalize e:([]:gx)=D' at h3;cases h3 with
     |nil=>rfl
     |snoc F D g g' x h hx e2 n ok=>exact absurd e (by simp)
    exact g0' ▸ h2
  rintro J H5 ⟨⟨x7',x8',x9',rfl⟩,F5,W5,kp5⟩;refine⟨W5.tabs _ hT,λH6 s6 t6=>?_⟩;obtain⟨k6,U⟩:=W5.td Nn hT (λp hp e=>un _ hT p hp e) s6 t6;refine⟨_,zJ,U.B.no (.no y.z (Ar G) r (λ_=>none) zJ U.B (U.uq Nn EPN λp1 H7 n7 W7 e7=>⟨by show 2<=sizeLine;decide,λp2 am=>?_⟩))⟩;have sa:=AE (aB.refl _) am (o:=ee jb);have ha:=aA (H:=H7) (a:=p2) (o:=ee jb);generalize upd H7 p2 (ee jb)=H8 at sa ha;have W8:=W7.same Nn sa;have dq:Dq ω H8 (.ref p1) (.ref p2):=.two (sa _ _ e7) ha qd;obtain⟨dd,q1',q2',Y,q4'⟩:=dq;refine⟨dd,dd,q1',q2',Y,Y,_,zJ,?_⟩;rw[q4'];obtain⟨dx8,hb8⟩:=W8.B.bk;refine AV ⟨_,zJ,y.z.b,dx8,_,zJ,hb8,.mk y.z (Ar G) r (λ_=>none) [] zJ W8.B λm3 k3=>⟨m3.length,zJ,Nat.lt_of_le_of_lt k3.len qc,zJ,_,zJ,?_⟩⟩;have e0:m3=[]:=List.eq_nil_iff_forall_not_mem.mpr λx hx=>(k3.mem x).mp hx rfl;rw[e0,Zm (show V.int ((([]:hA).length:Nat):Int)=V.int 0 from rfl)];exact AV (fin (((kp5.trans k6.kp).trans (.nx n7)).trans (.nx (.same sa))) W8 ⟨λj=>[some (.ref a),some (.ref y.d),some (.ref f),some (.ref y.u),some (.str r),some (.ref y.z.b),some (.ref y.t),x7',x8',x9'].getD j none,zJ⟩)
end
end Mk
end
section
namespace Mk
open PySem L2 MK
def Px{kV}(h:ω.lookup dt=some ⟨.type iF,none,.seq #[.str "" tk] n,#[]⟩):
  Binds ω (W.fnOf ip jh (defArgs BI) (defBody BI) (defScope BI) (.ref dt) kV doc pm an ae ct) [hZ,lH] []:=by
 intro s e i j
 have a:e.length=2:=by
  rwa[zQ]at j
 match e,a with
 | [o,p],_=>
  have d:=i _ _ h;intro M A E Q l;unfold bindArgs;simp only
  repeat (first|with_reducible refine wpAny_seqItems d rfl ?_| (with_reducible refine zU (wpAny_seqItems d rfl ?_))|wp_step)
  exact Eq.mp (congrArg (λz=>Q z s) qd) l
def Jj(X:ω.In h)(G:h.Ns N mg)(e:W.nsIn ω N n=some (some v)):mg n=some v:=by
 obtain⟨o,r,ep,l,i,_,p⟩:=G;unfold W.nsIn at e;split at e
 ·rename_i c d a t sl q;have:=X _ _ q;rw[l]at this;cases this;cases i;split at e
  ·rename_i j;cases e;rw[←p];unfold nsFind findBy;rw[←Array.find?_toList,j];rfl
  ·split at e<;>cases e
 ·cases e
def VA{kV}:
  Nr ω (W.fnOf ip jG (defArgs BX) (defBody BX) (defScope BX) .none kV doc pm an ae ct) [hZ,jR,jx] [jx] gU3 gV3:=by
 refine⟨λs p e _ d=>?_,λ{t p q e}r i=>?_⟩
 ·unfold gU3 at d ⊢;split at d
  ·exact .of_eq qd
  ·cases d
 ·cases r with
  |nil=>exact .nil
  |cons l a=>
   cases a with
   |nil=>exact .nil
   |cons h a=>
    cases a with
    |cons _ _=>exact .nil
    |nil=>
     cases i with
     |nil=>exact .nil
     |cons o j=>
      cases j with
      |nil=>exact .cons l (.cons h (.cons o .nil))
      |cons _ _=>exact .nil
def Ww(ok:W.nsOkIn ω a=true)(e:W.nsIn ω a jx=some (some v)):
  Binds ω (W.fnOf ip jG (defArgs BX) (defBody BX) (defScope BX) .none (.ref a) doc pm an ae ct) [hZ,jR,jx] [v]:=by
 intro s j h i
 have d:j.length=2:=by
  rw[z7]at i;exact Nat.succ.inj i
 match j,d with
 | [o,p],_=>
  have G:s.heap.Ns a (s.heap.nsMap a):=.of_isNs (W.isNs_of_in h ok);intro M A E Q l;unfold bindArgs;simp only
  repeat (first| (with_reducible refine wpAny_nsGet G ?_;rw[Jj h G e])|wp_step)
  exact Eq.mp (congrArg (λz=>Q z s) qd) l
def VB(ok:W.nsOkIn ω a=true)(e:W.nsIn ω a iR=some (some v)):
  Binds ω (W.fnOf jt jt (defArgs Cc) (defBody Cc) (defScope Cc) .none (.ref a) doc pm an ae ct) [i6,iR] [v]:=by
 intro s j h i
 have d:j.length=1:=by
  rw[z7]at i;exact Nat.succ.inj i
 match j,d with
 | [o],_=>
  have G:s.heap.Ns a (s.heap.nsMap a):=.of_isNs (W.isNs_of_in h ok);intro M A E Q l;unfold bindArgs;simp only
  repeat (first| (with_reducible refine wpAny_nsGet G ?_;rw[Jj h G e])|wp_step)
  exact Eq.mp (congrArg (λz=>Q z s) qd) l
end Mk
end
section
namespace Mk
open PySem L2 MK PySem.W
abbrev fO(x q:Str)(s:Stmt):=fnOf x q (defArgs s) (defBody s) (defScope s)
def G5(h:isClsIn ω C=true)(a:typeIn ω (.ref C)=some (.type l7))(e:subIn ω (.type T) (.ref C)=some false):kitOne ω (.type T) (.ref C)=some false:=by
 unfold kitOne;rw[zN (by simp)];unfold kitCls;show(if _ then _ else _)=_;rw[zM (by unfold isClsIn at h;rw[h,a];simp)];exact e
def Py(h:(clsIn ω C).map (λcd=>(cd.mro,cd.hasDict))=some (I0 C M,true))(n:findIn ω (.ref C) f=some none)(s:findIn ω (.ref C) jj=some (some (.builtin iI))):MW ω C M f:=by
 obtain⟨cd,e,z⟩:=Z6.mp h;exact⟨⟨cd,e,congrArg Prod.fst z,congrArg Prod.snd z⟩,n,s⟩
noncomputable def NX(ω:Frag)(c P:hO):Bool:=match ω.lookup c with
 |some ⟨.type "code",_,.fields vs,_⟩=>(match (vs[11]?:Option Value),vs.getD 18 Value.none,vs.getD 7 Value.none,vs.getD 9 Value.none,vs.getD 10 Value.none with
  |some (.ref p),.str _ _,.int _ _,.bool _,.int _ _=>p==P && !(c==P)
  |_,_,_,_,_=>false)
 |_=>false
def codeHd_of{K:Frag}{h:Heap}{c P:hO}(X:K.In h)(q:NX K c P=true):CodeHd h c P:=by
 unfold NX at q;split at q
 ·rename_i d vs sl ho;split at q
  ·rename_i p f tf fl tg b tx tt h11 h18 h7 h9 gS;rw[Bool.and_eq_true,beq_iff_eq]at q;obtain⟨rfl,hn⟩:=q;refine⟨_,vs,f,tf,fl,tg,b,tx,tt,X _ _ ho,zJ,zJ,h11,?_,h18,h7,h9,gS,λz=>by simp[z]at hn⟩;rw[Array.getD_eq_getD_getElem?,h11];rfl
  ·cases q
 ·cases q
section
def fnT{P}{w}{ω:Frag}{mg}{base}{fd}{x}{st}{k}{a}{sp}{f}(F:aN ω x x st f fd)(ok:aE P w ω mg base aS k f fd a sp)(m:mg x=some (.ref f))(b:Binds ω fd a []):Fn P w ω mg base x k a sp:=⟨⟨f,fd,ok,m,F.kp,b⟩⟩
def mtT{P}{w}{ω}{mg}{base}{fd}{C}{x q}{st}{k}{d}{sp}{f}(a:findIn ω (.ref C) x=some (some (.ref f)))(i:isFn ω (.ref f)=true)(F:aN ω x q st f fd)(ok:aE P w ω mg base aS k f fd d sp)(b:Binds ω fd d []):Mt P w ω mg base C x k d sp:=⟨⟨f,fd,ok,⟨a,i,F.kp⟩,b⟩⟩
abbrev fB(x q:Str)(st:Stmt)(kV doc pm:Value)(an:Option hO)(ae ct:Value)(us:hE):Sem (List (Str×Value)):=bindArgs (fO x q st .none kV doc pm an ae ct) ⟨us,[]⟩
def gX{st}(F:aN ω x q st f fd)(h:∀a b c d e g i,fB x q st a b c d e g [i]=pure [(p1,i)]):Binds ω fd [p1] []:=F.binds λ_ _ _ _ _ _ o p=>by rcases o with _|⟨_,_|_⟩<;>first|exact h ..|cases p
def bi2{st}(F:aN ω x q st f fd)(h:∀a b c d e g i j,fB x q st a b c d e g [i,j]=pure [(p1,i),(p2,j)]):Binds ω fd [p1,p2] []:=F.binds λ_ _ _ _ _ _ o p=>by rcases o with _|⟨_,_|⟨_,_|_⟩⟩<;>first|exact h ..|cases p
def bi3{st}(F:aN ω x q st f fd)(h:∀a b c d e g i l j,fB x q st a b c d e g [i,l,j]=pure [(p1,i),(p2,l),(p3,j)]):Binds ω fd [p1,p2,p3] []:=F.binds λ_ _ _ _ _ _ o p=>by rcases o with _|⟨_,_|⟨_,_|⟨_,_|_⟩⟩⟩<;>first|exact h ..|cases p
def bi4{st}(F:aN ω x q st f fd)(h:∀a b c d e g i l j o,fB x q st a b c d e g [i,l,j,o]=pure [(p1,i),(p2,l),(p3,j),(p4,o)]):Binds ω fd [p1,p2,p3,p4] []:=F.binds λ_ _ _ _ _ _ o p=>by rcases o with _|⟨_,_|⟨_,_|⟨_,_|⟨_,_|_⟩⟩⟩⟩<;>first|exact h ..|cases p
def bi5{st}(F:aN ω x q st f fd)(h:∀a b c d e g j o l p i,fB x q st a b c d e g [j,o,l,p,i]=pure [(p1,j),(p2,o),(p3,l),(p4,p),(p5,i)]):Binds ω fd [p1,p2,p3,p4,p5] []:=F.binds λ_ _ _ _ _ _ o p=>by rcases o with _|⟨_,_|⟨_,_|⟨_,_|⟨_,_|⟨_,_|_⟩⟩⟩⟩⟩<;>first|exact h ..|cases p
end
def DG(ω:Frag)(x:Str)(st:Stmt):Prop:=∃f fd,nsIn ω mainGlobals x=some (some (.ref f))/\aN ω x x st f fd
def DM(ω:Frag)(C:hO)(x q:Str)(st:Stmt):Prop:=∃f fd,findIn ω (.ref C) x=some (some (.ref f))/\isFn ω (.ref f)=true/\(∃o,ω.lookup f=some o/\o.cls=.type kj)/\aN ω x q st f fd
structure CF(K:Frag)(C:hO):Prop where
 pg:plainGet K C Str.empty=true
 hd:hasDictIn K C=true
 po:plainOver K C=true
 sa:findIn K (.ref C) jj=some (some (.builtin iI))
 mz:makesIn K C=true
 kc:keepIn K (.ref C)=true
 qa:findIn K (.ref C) jK=some (some (.builtin ib))
 qm:mroIn K C (.type jv)=some true
 ql:isClsIn K C=true
 qy:typeIn K (.ref C)=some (.type l7)
 qs:subIn K (.type iB) (.ref C)=some false
 qi:subIn K (.type lM) (.ref C)=some false
 qt:subIn K (.type iF) (.ref C)=some false
 ne:findIn K (.ref C) lO=some (some (.builtin i5))
structure XF(K:Frag)(ec:Nat->hO)(C:hO)(j:Nat):Prop where
 cx:L2.BB K C=true
 ga:findIn K (.ref C) jc=some (some (.builtin ik))
 gr:findIn K (.ref C) "__getattr__"=some none
 gb:mroIn K C (.type iU)=some true
 kc:(clsIn K C).isSome=true
 ka:findIn K (.ref C) jK=some (some (.builtin ib))
 km:mroIn K C (.type jv)=some true
 kt:((List.range 11).all λi=>i==j||decide (kitOne K (.ref C) (.ref (ec i))=some false))=true
 tv:kitOne K (.ref C) (.type iz)=some true
 ke:keepIn K (.ref C)=true
def XF.at(F:XF ω ec C j)(l:j<11)(e:C=ec j)(d:specialIn ω (.builtin ib) jW=some (some (.builtin ir)))(a:takesIn ω (.builtin ib)=some true):Pb ω ec C j:=by
 refine⟨l,⟨⟨F.ga,F.gr,F.gb⟩,F.kc,F.ka,d,a,F.km⟩,λi o=>?_,F.tv⟩;have h:=all_eq_true.mp F.kt i (mem_range.mpr o);rw[Bool.or_eq_true]at h;rcases h with z|z
 ·rw[eq_of_beq z,e,Zm rfl];exact Gq ω _
 ·by_cases q:i=j
  ·rw[q,e,Zm rfl];exact Gq ω _
  ·rw[Zp q];exact Zv z
structure XP(K:Frag)(ec:Nat->hO)(cM C f:hO)(j:Nat):Prop where
 F:XF K ec C j
 n:((List.range 4).all λi=>!(ED K C).contains (.ref (ec i)))=true
 m:(ED K C).contains (.ref cM)=true
 i:findIn K (.ref C) ip=some (some (.ref f))
def XP.pl(F:XP ω ec cM C f j)(l:j<11)(e:C=ec j)(d:specialIn ω (.builtin ib) jW=some (some (.builtin ir)))(a:takesIn ω (.builtin ib)=some true):Gs ω ec cM C j:=by
 have h:∀i,i<4->(ED ω C).contains (.ref (ec i))=false:=λi o=>by
  have:=all_eq_true.mp F.n i (mem_range.mpr o);rw[Bool.not_eq_true']at this;exact this
 exact⟨F.F.at l e d a,F.F.cx,h 0 qc,h 1 qc,h 2 qc,h 3 qc,F.m⟩
structure XL(K:Frag)(ec:Nat->hO)(cM C:hO)(j:Nat)(fld:Str):Prop where
 F:XF K ec C j
 n:((List.range j).all λi=>!(ED K C).contains (.ref (ec i)))=true
 m:(ED K C).contains (.ref (ec j))=true
 gh:hasDictIn K C=true
 gn:findIn K (.ref C) fld=some none
 gs:findIn K (.ref C) jj=some (some (.builtin iI))
 s:(clsIn K C).map (λcd=>(cd.mro,cd.hasDict))=some (I0 C cM,true)
def XL.fl(F:XL ω ec cM C j (LR j))(h:j<4)(e:C=ec j)(d:specialIn ω (.builtin ib) jW=some (some (.builtin ir)))(a:takesIn ω (.builtin ib)=some true):NA ω ec C j:=by
 refine⟨F.F.at (by lia) e d a,F.F.cx,h,λi l=>?_,F.m,⟨⟨F.F.ga,F.F.gr,F.F.gb⟩,F.gh,F.gn⟩⟩;have:=all_eq_true.mp F.n i (mem_range.mpr l);rw[Bool.not_eq_true']at this;exact this
def bi6{st}(F:aN ω x q st f fd)(h:∀a b c d e g j p o r i l,fB x q st a b c d e g [j,p,o,r,i,l]=pure [(p1,j),(p2,p),(p3,o),(p4,r),(p5,i),(p6,l)]):Binds ω fd [p1,p2,p3,p4,p5,p6] []:=F.binds λ_ _ _ _ _ _ o p=>by rcases o with _|⟨_,_|⟨_,_|⟨_,_|⟨_,_|⟨_,_|⟨_,_|_⟩⟩⟩⟩⟩⟩<;>first|exact h ..|cases p
def Va:∀{T:List (hO×Str×List Pos)},(T.map (·.1)).Nodup->∀p∈T,∀q∈T,q.1=p.1->q=p
 |a::r,h,p,hp,q,hq,e=>by
  obtain⟨j,l⟩:=zP.mp h;rcases mem_cons.mp hp with rfl|i<;>rcases mem_cons.mp hq with rfl|d
  ·rfl
  ·exact absurd (zO.mpr ⟨q,d,e⟩) j
  ·exact absurd (show q.1∈r.map (·.1)from zO.mpr ⟨p,i,e.symm⟩) j
  ·exact Va l p i q d e
abbrev NR(ω:Frag)(x:Str)(a:hO):=nsIn ω mainGlobals x=some (some (.ref a))
abbrev NZ(ω:Frag)(x:Str):=nsIn ω mainGlobals x=some none
abbrev NF(ω:Frag)(C:hO)(x:Str):=findIn ω (.ref C) x=some none
def gN{P}{w}{ω}{mg}{base}(e:∀{x}{v},nsIn ω mainGlobals x=some (some v)->mg x=some v){x}{st}{k}{d}{sp}(h:DG ω x st)(ok:∀{f fd},aN ω x x st f fd->aE P w ω mg base aS k f fd d sp)(b:∀{f fd},aN ω x x st f fd->Binds ω fd d []:=by intro _ _ F;first|exact gX F λ_ _ _ _ _ _ _=>rfl|exact bi2 F λ_ _ _ _ _ _ _ _=>rfl):Fn P w ω mg base x k d sp:=let ⟨_,_,a,F⟩:=h;⟨⟨_,_,ok F,e a,F.kp,b F⟩⟩
def rN{P}{w}{ω}{mg}{base}(e:∀{x}{v},nsIn ω mainGlobals x=some (some v)->mg x=some v){x}{st}{k}{d}{sp}(h:DG ω x st)(ok:∀{f fd},aN ω x x st f fd->aE P w ω mg base (cz P w) k f fd d sp)(b:∀{f fd},aN ω x x st f fd->Binds ω fd d []:=by intro _ _ F;first|exact gX F λ_ _ _ _ _ _ _=>rfl|exact bi2 F λ_ _ _ _ _ _ _ _=>rfl):g9 P w ω mg base x k d sp:=let ⟨_,_,a,F⟩:=h;⟨⟨_,_,ok F,e a,F.kp,b F⟩⟩
def mN{P}{w}{ω}{mg}{base}{C}{x q}{st}{k}{d}{sp}(h:DM ω C x q st)(ok:∀{f fd},aN ω x q st f fd->aE P w ω mg base aS k f fd d sp)(b:∀{f fd},aN ω x q st f fd->Binds ω fd d []:=by intro _ _ F;first|exact gX F λ_ _ _ _ _ _ _=>rfl|exact bi2 F λ_ _ _ _ _ _ _ _=>rfl):Mt P w ω mg base C x k d sp:=let ⟨_,_,a,i,_,F⟩:=h;⟨⟨_,_,ok F,⟨a,i,F.kp⟩,b F⟩⟩
def sN{P}{w}{ω}{mg}{base}{C}{x q}{st}{k}{d}{sp}(h:DM ω C x q st)(ok:∀{f fd},aN ω x q st f fd->aE P w ω mg base (cz P w) k f fd d sp)(b:∀{f fd},aN ω x q st f fd->Binds ω fd d []:=by intro _ _ F;first|exact gX F λ_ _ _ _ _ _ _=>rfl|exact bi2 F λ_ _ _ _ _ _ _ _=>rfl):Dd P w ω mg base C x k d sp:=let ⟨_,_,a,i,_,F⟩:=h;⟨⟨_,_,ok F,⟨a,i,F.kp⟩,b F⟩⟩
def g3{P}{w}{ω}{mg}{base}(e:∀{x}{v},nsIn ω mainGlobals x=some (some v)->mg x=some v){x}{st}{k}{d}{sp}(h:DG ω x st)(ok:∀{f fd},aN ω x x st f fd->aE P w ω mg base aS k f fd d sp)(b:∀{f fd},aN ω x x st f fd->Binds ω fd d []:=by intro _ _ F;first|exact bi3 F λ_ _ _ _ _ _ _ _ _=>rfl|exact bi4 F λ_ _ _ _ _ _ _ _ _ _=>rfl|exact bi5 F λ_ _ _ _ _ _ _ _ _ _ _=>rfl):Fn P w ω mg base x k d sp:=let ⟨_,_,a,F⟩:=h;⟨⟨_,_,ok F,e a,F.kp,b F⟩⟩
def r3{P:Program}{w:World}{K:Frag}{mg:SV}{base:Heap}(MG:∀{x:Str}{v:Value},nsIn K mainGlobals x=some (some v)->mg x=some v){x:Str}{st:Stmt}{k:Nat}{ps:hA}{sp:Sp}(h:DG K x st)(ok:∀{f fd},aN K x x st f fd->aE P w K mg base (cz P w) k f fd ps sp)(b:∀{f fd},aN K x x st f fd->Binds K fd ps []:=by intro _ _ F;first|exact bi3 F λ_ _ _ _ _ _ _ _ _=>rfl|exact bi4 F λ_ _ _ _ _ _ _ _ _ _=>rfl|exact bi5 F λ_ _ _ _ _ _ _ _ _ _ _=>rfl):g9 P w K mg base x k ps sp:=let ⟨_,_,a,F⟩:=h;⟨⟨_,_,ok F,MG a,F.kp,b F⟩⟩
def m3{P}{w}{ω}{mg}{base}{C}{x q}{st}{k}{d}{sp}(h:DM ω C x q st)(ok:∀{f fd},aN ω x q st f fd->aE P w ω mg base aS k f fd d sp)(b:∀{f fd},aN ω x q st f fd->Binds ω fd d []:=by intro _ _ F;first|exact bi3 F λ_ _ _ _ _ _ _ _ _=>rfl|exact bi4 F λ_ _ _ _ _ _ _ _ _ _=>rfl|exact bi5 F λ_ _ _ _ _ _ _ _ _ _ _=>rfl):Mt P w ω mg base C x k d sp:=let ⟨_,_,a,i,_,F⟩:=h;⟨⟨_,_,ok F,⟨a,i,F.kp⟩,b F⟩⟩
def s3{P}{w}{ω}{mg}{base}{C}{x q}{st}{k}{d}{sp}(h:DM ω C x q st)(ok:∀{f fd},aN ω x q st f fd->aE P w ω mg base (cz P w) k f fd d sp)(b:∀{f fd},aN ω x q st f fd->Binds ω fd d []:=by intro _ _ F;first|exact bi3 F λ_ _ _ _ _ _ _ _ _=>rfl|exact bi4 F λ_ _ _ _ _ _ _ _ _ _=>rfl|exact bi5 F λ_ _ _ _ _ _ _ _ _ _ _=>rfl):Dd P w ω mg base C x k d sp:=let ⟨_,_,a,i,_,F⟩:=h;⟨⟨_,_,ok F,⟨a,i,F.kp⟩,b F⟩⟩
def all_mk{l:OpenLaw}{w:World}{K:Frag}{h:Heap}{mg:SV}{fz C VC Y o aR kd dt U c P0 e0 e1 e2 e3 e4 e5 e6 e7 e8 e9 p fin I fla:hO}(X:K.In h)(G:h.Ns mainGlobals mg)(hfa:mg lA=some (.ref fz))
  {ocla kVla dcla pmla ctla ocin dcin pmin cdin ctin kVei dcei pmei cdei ctei ocK:Value}{odla anla odin anin odei anei odR odK:Option hO}{slla slin slei slK slR:Array (Option Value)}{tG tM tL tLi tB t1 t2 t3 t4 tE:Tok}{nRR epK nE:Nat}{esK:Array DictEntry}{jn fst k2:hO}{j1 j2 j3 tLB:Tok}{odJ odst anst odK2:Option hO}{nJ epK2:Nat}{slJ slst slK2:Array (Option Value)}{ocst dcst pmst cdst ctst ocK2:Value}{esK2:Array DictEntry}{tLN:Tok}{bd:hO}{fs2 gy u:hO}{ocs2 kVs2 dcs2 pms2 cts2:Value}{ods2 ans2:Option hO}{sls2:Array (Option Value)}{fs3 gF z:hO}{ocs3 kVs3 dcs3 pms3 cts3:Value}{ods3 ans3:Option hO}{sls3:Array (Option Value)}
  (aC:NR K "Kind" C)
  (aVC:NR K "Value" VC)
  (aDC:NR K "Reading" Y)
  (aBC:NR K "Book" o)
  (aM:NR K "MarkError" U)
  (aX0:NR K "BadRows" e0)
  (aX1:NR K ja e1)
  (aX2:NR K lX e2)
  (aX3:NR K "Unled" e3)
  (aX4:NR K "BadRule" e4)
  (aX5:NR K iW e5)
  (aX6:NR K ji e6)
  (aX7:NR K "Unlike" e7)
  (aX8:NR K "BadPairs" e8)
  (aX9:NR K "Never" e9)
  (aX10:NR K jb p)
  (R:NZ K iz)
  (hwh:DG K jA Ge)
  (hnm:DG K lq LC)
  (huo:DG K ko JH)
  (hnx:DG K lQ HK)
  (hoo:DG K jz JI)
  (hno:DG K kZ Fa)
  (hth:DG K kr Ds)
  (hro:DG K lB Fb)
  (hnb:DG K "numbered" HL)
  (hfi:DG K k4 EW)
  (hmK:DM K C jf "Kind.known" Fc)
  (hmT:DM K C jx "Kind.rest" HN)
  (hlc:DG K lR JP)
  (hld:DG K kf HY)
  (hlr:DG K iP Gf)
  (hls:DG K la Fk)
  (hll:DG K lC CN)
  (hxn:DG K jC Ew)
  (hxr:DG K lr LG)
  (hxi:DM K VC ip "Value.__init__" Fd)
  (hxN:DM K VC il "Value.number" Dt)
  (hlb:DG K ky Fl)
  (hlu:DG K ku Fp)
  (hlt:DG K jH Ed)
  (hgl:DG K jP HR)
  (hgi:DG K lJ Fg)
  (hdS:DM K Y "settle" "Reading.settle" C2)
  (hdP:DM K Y "take_part" "Reading.take_part" CL)
  (hdB:DM K Y "take_between" "Reading.take_between" Bm)
  (hdA:DM K Y "take_ahead" "Reading.take_ahead" B0)
  (hdC:DM K Y "take_close" "Reading.take_close" B2)
  (hdG:DM K Y "take_sign" "Reading.take_sign" CM)
  (hdN:DM K Y "ends" "Reading.ends" Dv)
  (hgj:DG K "joined" LJ)
  (hmR:DM K C jR "Kind.rows" HM)
  (hmE:DM K C lP "Kind.__eq__" LF)
  (hxK:DM K VC iy "Value.kind" Fe)
  (hlm:DG K lS JQ)
  (hsk:DG K kX HQ)
  (hib:DG K jV EY)
  (hbN:DM K o i1 "Book.names" Fj)
  (hbL:DM K o lp "Book.__len__" JO)
  (hbG:DM K o "give" "Book.give" HU)
  (hlg:DG K kY JR)
  (hlx:DG K kK Fq)
  (hly:DG K lK HZ)
  (hmN:DM K C il lh Cb)
  (hgf:DG K lI Ff)
  (hgp:DG K "is_part" LI)
  (hge:DG K "part_end" JL)
  (hgn:DG K j5 DB)
  (hgo:DG K kQ Ex)
  (hdI:DM K Y ip "Reading.__init__" Du)
  (hti:DM K e2 ip "BadText.__init__" Dr)
  (hle:DG K jr Gg)
  (hlp:DG K iZ DD)
  (hlf:DG K kA Ee)
  (hlw:DG K i9 Ec)
  (hlo:DG K iq A7)
  (hga:DG K "is_table" JM)
  (hrk:DG K kz DZ)
  (hmd:DG K "made" PM)
  (hri:DM K e1 ip "BadRest.__init__" Dp)
  (hlq:DG K js Gh)
  (hva:DG K lj EZ)
  (hvo:DG K kH JJ)
  (huu:DG K "union" OO)
  (huw:DG K "without" JK)
  (hut:DG K "turned" LH)
  (hbE:DM K o "entry" "Book.entry" Fh)
  (hbV:DM K o jF "Book.value" Fi)
  (hbC:DM K o "changes" "Book.changes" Dw)
  (hbP:DM K o "put" "Book.put" JN)
  (hbM:DM K o "mark" "Book.mark" HV)
  (hbU:DM K o "unmark" "Book.unmark" Ea)
  (hbT:DM K o "turn" "Book.turn" HW)
  (hbD:DM K o ma "Book.drop" HX)
  (hbK:DM K o lV "Book.take_back" DK)
  (hbR:DM K o "reckon" "Book.reckon" Eb)
  (hbI:DM K o ip "Book.__init__" HS)
  (hlk:DG K jX Dx)
  (ain:findIn K (.ref C) ip=some (some (.ref fin)))
  (iin:isFn K (.ref fin)=true)
  (lin:K.lookup fin=some ⟨ocin,odin,.func (fO ip jG BX .none (.ref kd) dcin pmin anin cdin ctin),slin⟩)
  (cin:codeIn K cdin jG=true)
  (kin:keepIn K (.ref fin)=true)
  (ala:NR K lA fla)
  (lla:K.lookup fla=some ⟨ocla,odla,.func (fO lA lA OP .none kVla dcla pmla anla (.ref c) ctla),slla⟩)
  (cla:codeIn K (.ref c) lA=true)
  (kla:keepIn K (.ref fla)=true)
  (aei:findIn K (.ref U) ip=some (some (.ref I)))
  (iei:isFn K (.ref I)=true)
  (lei:K.lookup I=some ⟨(.type kj),odei,.func (fO ip jh BI (.ref dt) kVei dcei pmei anei cdei ctei),slei⟩)
  (cei:codeIn K cdei jh=true)
  (kei:keepIn K (.ref I)=true)
  (as2:NR K iV fs2)
  (ls2:K.lookup fs2=some ⟨ocs2,ods2,.func (fO iV iV C3 .none kVs2 dcs2 pms2 ans2 (.ref gy) cts2),sls2⟩)
  (c_s2:codeIn K (.ref gy) iV=true)
  (ks2:keepIn K (.ref fs2)=true)
  (as3:NR K iE fs3)
  (ls3:K.lookup fs3=some ⟨ocs3,ods3,.func (fO iE iE BL .none kVs3 dcs3 pms3 ans3 (.ref gF) cts3),sls3⟩)
  (c_s3:codeIn K (.ref gF) iE=true)
  (ks3:keepIn K (.ref fs3)=true)
  (pd:([P0,u,z]:List hO).Nodup)
  (kdl:K.lookup kd=some ⟨ocK,odK,.dict esK epK,slK⟩)
  (kde:(esK.all λe=>match e.key with|.str _ _=>true|_=>false)=true)
  (kdr:nsIn K kd jx=some (some (.str j7 tB)))
  (dtl:K.lookup dt=some ⟨.type iF,none,.seq #[.str "" tE] nE,#[]⟩)
  (vG:nsIn K mainGlobals "GREATEST"=some (some (.int 1048575 tG)))
  (vM:nsIn K mainGlobals "MOST_ROWS"=some (some (.int 10 tM)))
  (vL:nsIn K mainGlobals "LONGEST_NAME"=some (some (.int 6 tL)))
  (vLi:nsIn K mainGlobals "LIMIT"=some (some (.int 1099511627776 tLi)))
  (vR:NR K "RULES" aR)
  (qn:specialIn K (.builtin ib) jW=some (some (.builtin ir)))
  (qt:takesIn K (.builtin ib)=some true)
  (S:CF K C)
  (d:CF K VC)
  (fDC:CF K Y)
  (fBC:CF K o)
  (Q:NF K C iC)
  (Z:NF K C jB)
  (nC_rule:NF K C "rule")
  (y:NF K VC iK)
  (nVC_bits:NF K VC i7)
  (nDC_steps:NF K Y jm)
  (N:NF K Y ki)
  (q:NF K Y jS)
  (A:NF K o iK)
  (L:NF K o jw)
  (nBC_deeds:NF K o lY)
  (xm:L2.BB K U=true)
  (xc0:L2.BB K e0=true)
  (xc1:L2.BB K e1=true)
  (xc2:L2.BB K e2=true)
  (xc3:L2.BB K e3=true)
  (y5:XP K (λi=>([e0,e1,e2,e3,e4,e5,e6,e7,e8,e9,p]:List hO).getD i 0) U e5 I 5)
  (y6:XP K (λi=>([e0,e1,e2,e3,e4,e5,e6,e7,e8,e9,p]:List hO).getD i 0) U e6 I 6)
  (y10:XP K (λi=>([e0,e1,e2,e3,e4,e5,e6,e7,e8,e9,p]:List hO).getD i 0) U p I 10)
  (y1:XL K (λi=>([e0,e1,e2,e3,e4,e5,e6,e7,e8,e9,p]:List hO).getD i 0) U e1 1 i7)
  (y2:XL K (λi=>([e0,e1,e2,e3,e4,e5,e6,e7,e8,e9,p]:List hO).getD i 0) U e2 2 "at")
  (xmg:specialIn K (.ref U) jc=some (some (.builtin jM)))
  (xmr:readsIn K U (.type l7)=true)
  (xmf:findCls K (.ref U) (.type l7) ip=some (.val (.ref I)))
  (rL:K.lookup aR=some ⟨.type iF,odR,.seq #[.str j7 t1,.str ma t2,.str jo t3,.str jZ t4] nRR,slR⟩)
  (z_len:NZ K "len")
  (D:NZ K iG)
  (z_max:NZ K lZ)
  (z_min:NZ K "min")
  (z_range:NZ K jY)
  (z_list:NZ K iB)
  (z_tuple:NZ K iF)
  (z_sorted:NZ K ll)
  (z_sum:NZ K "sum")
  (z_all:NZ K "all")
  (J:NZ K jJ)
  (z_int:NZ K lM)
  (z_bool:NZ K "bool")
  (z_str:NZ K md)
  (E:NZ K iT)
  (vBD:NR K "BINDING" bd)
  (vJN:NR K "JOINING" jn)
  (vLB:nsIn K mainGlobals lN=some (some (.int 1 tLB)))
  (jL:K.lookup jn=some ⟨.type iF,odJ,.seq #[.str "&" j1,.str "^" j2,.str "|" j3] nJ,slJ⟩)
  (ast:NR K jt fst)
  (lst:K.lookup fst=some ⟨ocst,odst,.func (fO jt jt Cc .none (.ref k2) dcst pmst anst cdst ctst),slst⟩)
  (cst:codeIn K cdst jt=true)
  (kst:keepIn K (.ref fst)=true)
  (k2l:K.lookup k2=some ⟨ocK2,odK2,.dict esK2 epK2,slK2⟩)
  (k2e:(esK2.all λe=>match e.key with|.str _ _=>true|_=>false)=true)
  (k2n:nsIn K k2 iR=some (some (.bool true)))
  (vLN:nsIn K mainGlobals "LONGEST_BOOK_NAME"=some (some (.int 8 tLN)))
  :∃fd:FuncData,(∀(s:hX)(v:Value),BindsTo s fd ⟨[v],[]⟩ [(iD,v)])/\∀base:Heap,K.In base->base.Ns mainGlobals mg->(∀t∈([(c,P0),(gy,u),(gF,z)]:List (hO×hO)),CodeHd base t.1 t.2/\base.BuiltinsAt mg t.2)->aE l.prog w K mg base aS 13 fz fd [iD] (spLaw K [(P0,q1,fV),(u,q2,fv),(z,q3,ft)] bd):=by
 have a:∀{x:Str}{v:Value},nsIn K mainGlobals x=some (some v)->mg x=some v:=λh=>mg_of X G h;have r:∀{x:Str},nsIn K mainGlobals x=some none->mg x=none:=λh=>mg_none_of X G h;have T:E6 K C:=⟨⟨S.pg,S.hd,S.po,S.sa⟩,Q,Z,nC_rule⟩;have VT:M8 K VC:=⟨⟨d.pg,d.hd,d.po,d.sa⟩,y,nVC_bits⟩;have DT:Jr K Y:=⟨⟨fDC.pg,fDC.hd,fDC.po,fDC.sa⟩,nDC_steps,N,q⟩;have O:DA K o:=⟨⟨fBC.pg,fBC.hd,fBC.po,fBC.sa⟩,A,L,nBC_deeds⟩;have KI:KIsi K C:=⟨⟨S.pg,S.hd,S.po,S.sa⟩,S.qa,qn,qt,S.qm,G5 S.ql S.qy S.qs⟩;have VI:KIsi K VC:=⟨⟨d.pg,d.hd,d.po,d.sa⟩,d.qa,qn,qt,d.qm,G5 d.ql d.qy d.qs⟩;have mCg:=a aC;have mVg:=a aVC;have hLi:=a vLi;have vI:=G5 d.ql d.qy d.qi;have vT:=G5 d.ql d.qy d.qt;have qeC:=S.ne;have qm:=S.qm;have B:Bl mg:=⟨r z_len,r D,r z_max,r z_min,r z_range,r z_list,r z_tuple,r z_sorted,r z_sum,r z_all,r J,r z_int,r z_bool,r z_str⟩;have rT:∀H:Hp,aP K H aR (b9.map V.str):=λH=>.inr ⟨_,_,_,rL,rfl,rfl,sl4,.cons ⟨_,rfl⟩ (.cons ⟨_,rfl⟩ (.cons ⟨_,rfl⟩ (.cons ⟨_,rfl⟩ .nil)))⟩;have jT:∀H:Hp,aP K H jn [.str "&",.str "^",.str "|"]:=λH=>.inr ⟨_,_,_,jL,rfl,rfl,gk,.cons ⟨_,rfl⟩ (.cons ⟨_,rfl⟩ (.cons ⟨_,rfl⟩ .nil))⟩
 have kdo:nsOkIn K kd=true:=by
  unfold nsOkIn;rw[kdl];exact kde
 have hG:=a vG;have hM:=a vM;have hL:=a vL;have hR:=a vR;have M:Q5 mg (λi=>([e0,e1,e2,e3,e4,e5,e6,e7,e8,e9,p]:List hO).getD i 0):=⟨a aX0,a aX1,a aX2,a aX3,a aX4,a aX5,a aX6,a aX7,a aX8,a aX9,a aX10,r R⟩;have EX:Sy K mg (λi=>([e0,e1,e2,e3,e4,e5,e6,e7,e8,e9,p]:List hO).getD i 0) U:=⟨a aM,xm,xc0,xc1,xc2,xc3⟩;have EPB5:=y5.pl qc rfl qn qt;have EPN6:=y6.pl qc rfl qn qt;have EPN10:=y10.pl qc rfl qn qt;have EFR:=XL.fl (j:=1) y1 qc rfl qn qt;have EFT:=XL.fl (j:=2) y2 qc rfl qn qt;have Fin:=fun_mk (st:=BX) lin cin kin;have e:=hfa.symm.trans (a ala);cases e;have Fla:eQ K lA lA OP fz (fO lA lA OP .none kVla dcla pmla anla (.ref c) ctla) c:=⟨⟨_,_,_,_,_,_,_,_,rfl,lla,cla⟩⟩;have Fei:FunD K ip jh BI I _:=⟨⟨_,_,_,_,_,_,_,_,_,_,rfl,lei,cei⟩⟩;obtain⟨fwh,dwh,awh,Fwh⟩:=id hwh;have bwh:=gX (p1:=ig) Fwh λ_ _ _ _ _ _ _=>rfl;obtain⟨fll,dll,all,Fll⟩:=id hll;obtain⟨fxi,dxi,axi,ixi,oxi,Fxi⟩:=id hxi;have bxi:=bi3 (p1:=hZ) (p2:=iy) (p3:=il) Fxi λ_ _ _ _ _ _ _ _ _=>rfl;obtain⟨fdI,ddI,adI,idI,odI,FdI⟩:=hdI;have bdI:=gX (p1:=hZ) FdI λ_ _ _ _ _ _ _=>rfl;obtain⟨fti,dti,ati,iti,oti,Fti⟩:=hti;have bti:=bi2 (p1:=hZ) (p2:="at") Fti λ_ _ _ _ _ _ _ _=>rfl;obtain⟨fle,dle,ale,Fle⟩:=hle;have ble:=bi4 (p1:=ia) (p2:=jg) (p3:=kh) (p4:="_law_deep") Fle λ_ _ _ _ _ _ _ _ _ _=>rfl;obtain⟨flp,dlp,alp,Flp⟩:=hlp;have blp:=bi3 (p1:=ia) (p2:=iX) (p3:="_law_rank") Flp λ_ _ _ _ _ _ _ _ _=>rfl;obtain⟨flw,dlw,alw,Flw⟩:=hlw;have blw:=gX (p1:=iM) Flw λ_ _ _ _ _ _ _=>rfl;obtain⟨flo,dlo,alo,Flo⟩:=hlo;have blo:=gX (p1:=iJ) Flo λ_ _ _ _ _ _ _=>rfl;obtain⟨fri,dri,ari,iri,ori,Fri⟩:=hri;have bri:=bi2 (p1:=hZ) (p2:=i7) Fri λ_ _ _ _ _ _ _ _=>rfl;obtain⟨flq,dlq,alq,Flq⟩:=hlq;have blq:=bi4 (p1:=iX) (p2:=kG) (p3:=lG) (p4:=jU) Flq λ_ _ _ _ _ _ _ _ _ _=>rfl;obtain⟨fbI,dbI,abI,ibI,obI,FbI⟩:=hbI;have bbI:=bi2 (p1:=hZ) (p2:=iy) FbI λ_ _ _ _ _ _ _ _=>rfl;refine⟨fO lA lA OP .none kVla dcla pmla anla (.ref c) ctla,λs v=>.of_eq zJ,λbase _ _ hTT=>?_⟩;have Fs2:eQ K iV iV C3 fs2 (fO iV iV C3 .none kVs2 dcs2 pms2 ans2 (.ref gy) cts2) gy:=⟨⟨_,_,_,_,_,_,_,_,rfl,ls2,c_s2⟩⟩;have Fs3:eQ K iE iE BL fs3 (fO iE iE BL .none kVs3 dcs3 pms3 ans3 (.ref gF) cts3) gF:=⟨⟨_,_,_,_,_,_,_,_,rfl,ls3,c_s3⟩⟩;have g3:=@g3 l.prog w K mg base a;have r3:=@r3 l.prog w K mg base a;have m3:=@m3 l.prog w K mg base;have s3:=@s3 l.prog w K mg base;have gN:=@gN l.prog w K mg base a;have rN:=@rN l.prog w K mg base a;have mN:=@mN l.prog w K mg base;have sN:=@sN l.prog w K mg base;have FT:=@fnT l.prog w K mg base;have MT:=@mtT l.prog w K mg base;have Gwh:=gN hwh λF=>ND F B;have Gnm:=gN hnm λF=>Qh F B hL;have Guo:=gN huo λF=>OQ F;have Gnx:=gN hnx λF=>Mp F B;have Goo:=gN hoo λF=>OT F B;have Gno:=gN hno λF=>LL F B Goo;have Gth:=gN hth λF=>SX F B Gnx Gno Guo Gwh;have Gro:=gN hro λF=>WE F B hG Gnm Gth;have Gnb:=gN hnb λF=>Mr F B hM Gro;have Gfi:=gN hfi λF=>Qo F;have GmK:=mN hmK λF=>Sd F B T Guo;have GmT:=mN hmT λF=>Uk F T;have Glc:=gN hlc λF=>Uf F B;have Gld:=gN hld λF=>Sf F;have Glr:=gN hlr λF=>Ug F Gld;have Gls:=gN hls λF=>Qs F B Glc;have Gll:=gN hll λF=>Sq F B Glr;have Gxn:=gN hxn λF=>LS F hLi (FT (sp:=Gu K) Fwh (Ho Fwh B) (a awh) bwh);have Gxr:=gN hxr λF=>Q0 F T GmK;have Gxi:=m3 hxi λF=>M9 F T VT Gxn Gxr GmT;have GxN:=mN hxN λF=>Oa F VT;have Glb:=gN hlb λF=>Qt F B;have Glu:=gN hlu λF=>Qr F Glr;have Glt:=gN hlt λF=>Su F B Glb;have Ggl:=gN hgl λF=>WY F B;have Ggi:=gN hgi λF=>X4 F B Ggl;have GdS:=mN hdS λF=>Wf F B DT (a vBD);have GdP:=mN hdP λF=>Xo F DT;have GdB:=mN hdB λF=>Xu F DT (a vBD) (a vJN) jT GdS;have GdA:=mN hdA λF=>Xv F DT;have GdC:=mN hdC λF=>Xw F B DT (a vLB) GdS;have GdG:=mN hdG λF=>Xx F DT GdB GdA GdC;have GdN:=mN hdN λF=>Uz F B DT (a vLB) GdS;have Ggj:=g3 hgj λF=>X0 F;have GmR:=mN hmR λF=>Ud F B T;have GmE:=mN hmE λF=>WP F B T KI mCg GmR;have GxK:=mN hxK λF=>Sw F VT;have Glm:=g3 hlm λF=>S5 F;have Gsk:=gN hsk λF=>YC F VT GxK GmE qeC qm;have Gib:=gN hib λF=>YN F B (a vLN);have GbN:=mN (sp:=(spNs o C)) hbN λF=>YK F B O;have GbL:=mN (sp:=(spLn o C)) hbL λF=>YL F B O;have GbG:=m3 (sp:=(eO o C VC)) hbG λF=>YM F O VT GxN;have Glg:=g3 hlg λF=>Wm F B (r E);have Glx:=gN hlx λF=>Wn F Glr;have Gly:=g3 hly λF=>Wo F B Glr;have GW:FnS l.prog w K mg base i9 1 [iM] (D6 K (λi=>([e0,e1,e2,e3,e4,e5,e6,e7,e8,e9,p]:List hO).getD i 0)):=⟨⟨_,_,Ur Flw B M,a alw,Flw.kp,blw⟩⟩;have KO:Tc l.prog w K mg base C:=⟨T,mCg,⟨_,_,⟨S.mz,ain,iin,S.kc⟩,Ub Fin B T hR rT Gnb Gfi Goo,⟨_,VA⟩,_,Ww kdo kdr,.cons ⟨_,rfl⟩ .nil⟩⟩;have ME:WU l.prog w K mg base U:=⟨a aM,xmg,xmr,⟨_,_,xmf,D5 Fei (r R),kei,Px dtl⟩⟩;have EO5:cY l.prog w K mg base iW e5:=⟨a aX5,⟨_,_,⟨y5.F.cx,y5.i,iei,⟨_,lei,rfl⟩,y5.F.ke⟩,D5 Fei (r R),Px dtl⟩⟩;have EO6:cY l.prog w K mg base ji e6:=⟨a aX6,⟨_,_,⟨y6.F.cx,y6.i,iei,⟨_,lei,rfl⟩,y6.F.ke⟩,D5 Fei (r R),Px dtl⟩⟩;have EO10:cY l.prog w K mg base jb p:=⟨a aX10,⟨_,_,⟨y10.F.cx,y10.i,iei,⟨_,lei,rfl⟩,y10.F.ke⟩,D5 Fei (r R),Px dtl⟩⟩;have VO:IH l.prog w K mg base C VC:=⟨VT,mVg,⟨_,_,⟨d.mz,axi,ixi,d.kc⟩,M9 Fxi T VT Gxn Gxr GmT,bxi⟩⟩;have GwX:=gN hwh λF=>Ho F B;have GnG:=gN hxn λF=>Pd F hLi GwX;have Ggf:=gN hgf λF=>WX F B GnG;have Ggp:=gN hgp λF=>Uw F Gnm Ggf Ggl;have Gge:=g3 hge λF=>Ux F B Ggp;have TX:Pc l.prog w K mg base U e2:=⟨a aX2,⟨_,_,⟨xc2,ati,iti,oti,y2.F.ke⟩,NC Fti ME,bti⟩,Py y2.s y2.gn y2.gs⟩;have RD:Xy l.prog w K mg base Y bd:=⟨DT,a aDC,⟨_,_,⟨fDC.mz,adI,idI,fDC.kc⟩,Wc FdI DT,bdI⟩,GdP,GdG,GdN⟩;have Fst:=fun_mk (st:=Cc) lst cst kst
 have k2o:nsOkIn K k2=true:=by
  unfold nsOkIn;rw[k2l];exact k2e
 have SO:X6 l.prog w K mg base Y bd e2:=⟨⟨_,_,Xz Fst B RD TX Gge,a ast,kst,_,VB k2o k2n,.cons rfl .nil⟩⟩;have GmN:=sN hmN λF=>X1 F T EO5 Goo;have Ggn:=r3 hgn λF=>X2 F B T Ggl Gnm GmN;have Ggo:=r3 hgo λF=>X3 F T (a vJN) jT GmK Ggj Ggn;have Gle:Fn l.prog w K mg base jr 6 Jb (spTree 3):=⟨⟨_,_,Pn Fle B (a ale) ble Glr 3,a ale,Fle.kp,ble⟩⟩;have Glp:Fn l.prog w K mg base iZ 6 Oi (spWrt 3):=⟨⟨_,_,TQ Flp B (a alp) blp Glr 3,a alp,Flp.kp,blp⟩⟩;have Glf:=g3 hlf λF=>U3 F B Gle Glp;have RO:Oc l.prog w K mg base U e1:=⟨a aX1,⟨_,_,⟨xc1,ari,iri,ori,y1.F.ke⟩,NB Fri ME,bri⟩,Py y1.s y1.gn y1.gs⟩;have Gmd:=rN hmd λF=>Uv F hLi T VO RO Gwh Gxr GmT;have Gga:=gN hga λF=>Wh F B (r E) Ggl GnG;have Grk:=r3 hrk λF=>X7 F B EO6 SO Ggi Gga Ggo Gmd;have GrB:=gN hlr λF=>Mx F Gld;have Glq:Fn l.prog w K mg base js 5 Jc (spCome 3):=⟨⟨_,_,Pr Flq (a alq) blq 3,a alq,Flq.kp,blq⟩⟩;have Guu:=gN huu λF=>YD F VO GxN Gsk;have Guw:=gN huw λF=>YE F VO GxN Gsk;have Gut:=gN hut λF=>YF F T VO GxN GxK GmK;have Gva:=rN hva λF=>YV F B VI mVg vI RO Gxr;have GmN2:=mN hmN λF=>Qy F T Goo;have Gvo:=gN hvo λF=>aE.or (VY false F B T VO Guo GmN2) (VY true F B T VO Guo GmN2);have GbE:=sN (sp:=(spEn o C e5)) hbE λF=>YH F O EO5 Goo;have GbV:=sN hbV λF=>YI F O VO GbE;have GbC:=sN hbC λF=>YJ F O GbE;have GbP:=m3 hbP λF=>YO F O Gib Gvo GbG;have GbM:=s3 hbM λF=>YQ F O Guu Gvo GbV GbG;have GbU:=s3 hbU λF=>YR F O Guw Gvo GbV GbG;have GbT:=sN hbT λF=>YS F O Gut GbV GbG;have GbD:=sN hbD λF=>YT F O GbE;have GbK:=sN (sp:=(spTk o C p)) hbK λF=>YU F B O EO10;have GbR:=s3 hbR λF=>YW F B O Gib Gva Grk GbG;have BO:Yi l.prog w K mg base o C:=⟨O,a aBC,⟨_,_,⟨fBC.mz,abI,ibI,fBC.kc⟩,YY FbI O,bbI⟩⟩;have Glk:=gN hlk λF=>Ya F B O VT GbN GbL GbV GbC GxN;have TB:TdB l.prog w K mg base (λi=>([e0,e1,e2,e3,e4,e5,e6,e7,e8,e9,p]:List hO).getD i 0) U:=⟨⟨_,_,Flo,a alo,blo⟩,M,EX,GW⟩;obtain⟨hC1,hBu1⟩:=hTT _ (z8 ..);obtain⟨hC2,hBu2⟩:=hTT _ (Zs _ (z8 ..));obtain⟨hC3,hBu3⟩:=hTT _ (Zs _ (Zs _ (z8 ..)));have un:=Va (T:=[(P0,q1,fV),(u,q2,fv),(z,q3,ft)]) pd;have hT1:(P0,q1,fV)∈([(P0,q1,fV),(u,q2,fv),(z,q3,ft)]:List (hO×Str×List Pos)):=z8 ..;have hT2:(u,q2,fv)∈([(P0,q1,fV),(u,q2,fv),(z,q3,ft)]:List (hO×Str×List Pos)):=Zs _ (z8 ..);have hT3:(z,q3,ft)∈([(P0,q1,fV),(u,q2,fv),(z,q3,ft)]:List (hO×Str×List Pos)):=Zs _ (Zs _ (z8 ..));have bs2:=bi5 (p1:=ia) (p2:=iu) (p3:=jk) (p4:=iN) (p5:=je) (fun_mk (st:=C3) ls2 c_s2 ks2) λ_ _ _ _ _ _ _ _ _ _ _=>rfl;have bs3:=bi6 (p1:=ia) (p2:=iu) (p3:=jk) (p4:=iN) (p5:=je) (p6:=iw) (fun_mk (st:=BL) ls3 c_s3 ks3) λ_ _ _ _ _ _ _ _ _ _ _ _=>rfl;have Gs3:Fn l.prog w K mg base iE 11 pLr (spLr K o C bd [(P0,q1,fV),(u,q2,fv),(z,q3,ft)]):=⟨⟨_,_,Yg Fs3 hC3 hBu3 TB hT3 (un _ hT3) B O EFR EPN6 Glt Glg Glf Glq Glm GbR,a as3,ks3,bs3⟩⟩;have Gs2:Fn l.prog w K mg base iV 12 pLs (spLs K o C bd [(P0,q1,fV),(u,q2,fv),(z,q3,ft)]):=⟨⟨_,_,Yf Fs2 hC2 hBu2 TB hT2 (un _ hT2) B (r E) O EPB5 EPN10 Glt Glx GrB Gly Glg GbP GbM GbU GbT GbD GbK Gs3,a as2,ks2,bs2⟩⟩;exact Wv Fla hC1 hBu1 TB hT1 un B EPN10 KO BO Gls Gll Glu GrB Gs2 Glk GbK GbL
def walk{l:OpenLaw}{q:Program}{loose:hA}{XP:(Str->Option Value)->Heap->Prop}{YP:World->Heap->Prop}{d:DefRec}{K:Params->Frag}{c P0 gy Ps2 gF Ps3 bd:hO}{dl:List DcE}{ep:Nat}(hn:l.most=some 63)(hdf:d.params.defaults=[])(hb5:5<=bd)(gD:dl.length<=1000)(gQ:(dl.map (·.1)).Nodup)(he:gE dl=Cj)
  (hY:∀(w:World)(h:Heap),YP w h->(K w.params).In h/\(∀t∈([(c,P0),(gy,Ps2),(gF,Ps3)]:List (hO×hO)),h.get? t.2=some (tabObj #[])/\(K w.params).lookup t.2=none/\CodeHd h t.1 t.2)/\h.get? bd=some (dcObj w.params dl ep)/\(K w.params).lookup bd=none)
  (F:∀(w:World)(mg:SV)(fa:hO)(h:Heap),(K w.params).In h->h.Ns mainGlobals mg->mg d.name=some (.ref fa) ->
   ∃fd:FuncData,(∀(s:hX)(u:Value),BindsTo s fd ⟨[u],[]⟩ [(iD,u)])/\∀base:Heap,(K w.params).In base->base.Ns mainGlobals mg->(∀t∈([(c,P0),(gy,Ps2),(gF,Ps3)]:List (hO×hO)),CodeHd base t.1 t.2/\base.BuiltinsAt mg t.2)->aE l.prog w (K w.params) mg base aS 13 fa fd [iD] (spLaw (K w.params) [(P0,q1,fV),(Ps2,q2,fv),(Ps3,q3,ft)] bd)):
  WalkO q loose XP YP l.row.toRowW d [] (λf vs=>PySem.call f vs):=
 L2.SG (n:=63) (k:=13) (x:=iD) (CX:=λ_=>aS) (sp:=λw=>spLaw (K w.params) [(P0,q1,fV),(Ps2,q2,fv),(Ps3,q3,ft)] bd) hn qc hdf ⟨rfl,qc,qc⟩ hb5 gD gQ hY F
  (λ_ _ a ns hl hP hB hS=>⟨a,ns,rfl,hS,hl,λp hp=>by
   simp only[mem_cons,not_mem_nil,or_false]at hp;rcases hp with rfl|rfl|rfl
   ·exact⟨#[],hP (c,P0) (z8 ..),trivial,λ_ _=>.inl zJ⟩
   ·exact⟨#[],hP (gy,Ps2) (Zs _ (z8 ..)),trivial,λ_ _=>.inl zJ⟩
   ·exact⟨#[],hP (gF,Ps3) (Zs _ (Zs _ (z8 ..))),trivial,λ_ _=>.inl zJ⟩,he ▸ hB,λ_=>rfl⟩) λ_ _ _ _ _ z=>z
end Mk
end
section
namespace Hd
open PySem PySem.W PySem.Calls PyProof.Rows
def runT (tb:String->Option Builtin) (p:Program) (w:World) (n₀:Nat) (ann:Option Value):Nat->SharedT->Thread->Option SharedT
 |0,_,_=>none
 |n+1,s,t=>match through t with
  |true=>some s
  |false=>match stepOk n₀ ann t with
   |false=>none
   |true=>match stepT (denote tb) p w s t with
    |some (s',t')=>runT tb p w n₀ ann n s' t'
    |none=>none
def runT_of {tb:String->Option Builtin}{p:Program}{w:World}{n₀:Nat}{ann:Option Value}:∀ {n:Nat}{s s':SharedT}{t:Thread},runT tb p w n₀ ann n s t=some s'->topRun tb p w n₀ ann n s.abs t=some s'.abs
 |0,_,_,_,h=>by cases h
 |n+1,s,s',t,h=>by
  unfold runT at h
  unfold topRun
  cases ht:through t with
  |true=>rw[ht]at h;cases h;rfl
  |false=>
   rw[ht]at h
   cases hk:stepOk n₀ ann t with
   |false=>rw[hk]at h;cases h
   |true=>
    rw[hk]at h
    cases hs:stepT (denote tb) p w s t with
    |none=>rw[hs]at h;cases h
    |some r=>obtain⟨s₂,t₂⟩:=r;rw[hs]at h;rw[stepT_spec hs];exact runT_of h
def looksAt (p q:Program) (loose:List Str) (Xt:Shared->Bool) (as:List Addr) (h₀:Heap) (s:Shared):=
 (staticsOk (importedModules p.main.body) h₀ s.heap&&namesBound p s.heap&&gensDone s&&laidKept h₀ s.heap,openSeen q loose (importedModules p.main.body) Xt true s,as.map s.heap.get?)
def left_of {p q:Program}{loose:List Str}{Xt:Shared->Bool}{as:List Addr}{K:Params->Frag}{N M m₀:Nat}{ann:Option Value}{T0:Params->BT}{life:Life}
  (open_:∀w:World,(fencedOpening treeTable p w N).map (fun s=>(s.heap,s.gens,s.drawn,s.toks))=some (boot_heap w.params,#[],boot_drawn,boot_toks))
  (tree:∀P:Params,absHeap (T0 P) m₀ life=boot_heap P)
  (size:∀w:World,((boot_heap w.params).isNs mainGlobals,(boot_heap w.params).objs.size,(boot_heap w.params).nsMap mainGlobals "__annotations__")=(true,m₀,ann))
  (le:Nat.ble M N=true)
  (run:∀(w:World) (os:OsState),(runT treeTable p w m₀ ann M ⟨T0 w.params,m₀,life,#[],boot_drawn,boot_toks,os⟩ (topStub p)).map (fun s=>looksAt p q loose Xt as (boot_heap w.params) s.abs)=some (true,openGood q loose,(K w.params).map fun x=>some x.2)):
  LeftO p q loose Xt (fun s=>as.map s.heap.get?) (fun w=>(K w.params).map fun x=>some x.2) N:=fun w=>by
 obtain⟨⟨h,gs,d,k,os⟩,e,e'⟩:=Option.map_eq_some_iff.mp (open_ w)
 obtain⟨rfl,rfl,rfl,rfl⟩:h=boot_heap w.params/\gs=#[]/\d=boot_drawn/\k=boot_toks:=by simpa using e'
 obtain⟨z1,z2,z3⟩:_/\_/\_:=by simpa only[Prod.mk.injEq]using size w
 obtain⟨sT,r1,r2⟩:=Option.map_eq_some_iff.mp (run w os)
 have r3:=runT_of r1
 have r4:topRun treeTable p w m₀ ann M ⟨boot_heap w.params,#[],boot_drawn,boot_toks,os⟩ (topStub p)=some sT.abs:=by
  rw[←tree w.params]
  exact r3
 have r:=topRun_mono (N-M) _ _ _ _ r4
 rw[show M+(N-M)=N by have:=Nat.le_of_ble_eq_true le;omega]at r
 unfold looksAt at r2
 obtain⟨l1,l2,l3⟩:_/\_/\_:=by simpa only[Prod.mk.injEq]using r2
 have t:topFrom treeTable p w N ⟨boot_heap w.params,#[],boot_drawn,boot_toks,os⟩=some sT.abs:=by
  unfold topFrom
  dsimp only
  rw[z1,z2,z3,r]
  show(match staticsOk (importedModules p.main.body) (boot_heap w.params) sT.abs.heap&&namesBound p sT.abs.heap&&gensDone sT.abs&&laidKept (boot_heap w.params) sT.abs.heap with|true=>_|false=>_)=_
  rw[l1]
 unfold openEnds
 rw[e]
 show(topFrom treeTable p w N _).map _=_
 rw[t]
 exact congrArg some (Prod.ext l2 l3)
end Hd
end
noncomputable section
open PySem PySem.W PySem.Calls PyProof.Rows
abbrev Mk.fS (x q:Str) (s:Stmt) (dV kV doc pm:Value) (an:Option Addr) (cd ct:Value):FuncData:=fnOf x q (L2.defArgs s) (L2.defBody s) (L2.defScope s) dV kV doc pm an cd ct
abbrev Mk.cO (x:Str) (a:Nat) (q:Str) (b c:Nat) (d e f g h:Int) (i j l m n:Nat) (o p:Int) (r:Nat):Obj:=⟨.type "code",none,.fields #[.str x a,.str q b,.str "/claim/cut.py" c,.int d 0,.int e 0,.int f 0,.int g 0,.int h 0,.ref i,.bool true,.int 181 0,.ref j,.none,.ref l,.ref m,.ref n,.int o 0,.int p 0,.str "/claim/cut.py" r],#[]⟩
abbrev ad (P:PySem.Params) (x:Str) (t:Nat) (v:Value):DictEntry:=⟨PyData.keyHash P x,.str x t,v⟩
abbrev Mk.fN (x q:Str) (s:Stmt) (m:Str) (t c:Nat):Obj:=⟨.type "function",none,.func (Mk.fS x q s .none .none .none (.str m t) none (.ref c) .none),#[]⟩
abbrev Mk.eC (x:Str) (a b c d e f:Nat):Obj:=⟨.type "type",none,.cls ⟨x,[.ref a],[.ref b,.ref a,.type "ValueError",.type "Exception",.type "BaseException",.type "object"],c,x,true,[],[],false,none,false⟩,#[some (.ref d),none,some (.str x e),some (.str x f),some (.builtin "ValueError.__new__"),some (.bool true)]⟩
abbrev Mk.cP (a:Nat) (x q:Str) (t:Nat) (l n:Int) (u:Nat):Obj:=Mk.cO x t q (t+1) (t+2) l n 0 0 3 (a-5) (a-4) (a-3) (a-2) (a-1) u l (u+1)
noncomputable abbrev Mk.ic (i j:Nat):=L2.inClass (Mk.top i) j
abbrev Mk.fM0 (x q:Str) (s:Stmt):=Mk.fN x q s "markworks.errors" 194
abbrev Mk.fM1 (x q:Str) (s:Stmt):=Mk.fN x q s "markworks.kinds" 435
abbrev Mk.fM2 (x q:Str) (s:Stmt):=Mk.fN x q s "markworks.values" 644
abbrev Mk.fM3 (x q:Str) (s:Stmt):=Mk.fN x q s "markworks.grammar" 786
abbrev Mk.fM4 (x q:Str) (s:Stmt):=Mk.fN x q s "markworks.formulas" 973
abbrev Mk.fM5 (x q:Str) (s:Stmt):=Mk.fN x q s "markworks.books" 987
abbrev Mk.fM6 (x q:Str) (s:Stmt):=Mk.fN x q s "law_markworks_k70_whole_books" 1188
noncomputable def Mk.Kg (P:PySem.Params):PySem.W.Frag:=
 (nat_lit 2,⟨.none,none,(.dict #[] 0),#[]⟩)::(nat_lit 3,⟨.type "dict",none,(.dict #[ad P "__name__" 165 (.str "law_markworks_k70_whole_books" 1188),ad P "__doc__" 166 .none,ad P "__package__" 167 .none,ad P "__loader__" 168 (.builtin "__main__.__loader__#opaque"),ad P "__spec__" 169 .none,ad P "__annotations__" 170 (.ref 6),ad P "__builtins__" 171 (.ref 4),ad P "__file__" 173 (.str "/claim/cut.py" 172),ad P "__cached__" 174 .none,ad P "_wall" 193 (.ref 21),ad P "MarkError" 222 (.ref 39),ad P "BadRows" 247 (.ref 59),ad P "BadRule" 263 (.ref 71),ad P "BadName" 279 (.ref 83),ad P "BadNumber" 295 (.ref 95),ad P "BadRest" 320 (.ref 114),ad P "Unlike" 336 (.ref 126),ad P "BadText" 361 (.ref 145),ad P "BadPairs" 377 (.ref 157),ad P "Never" 393 (.ref 169),ad P "Unled" 418 (.ref 188),ad P "Nothing" 434 (.ref 200),ad P "GREATEST" 442 (.int 1048575 441),ad P "MOST_ROWS" 444 (.int 10 443),ad P "LONGEST_NAME" 446 (.int 6 445),ad P "RULES" 451 (.ref 203),ad P "is_whole" 458 (.ref 210),ad P "is_name" 464 (.ref 215),ad P "is_mark" 471 (.ref 222),ad P "union_of" 480 (.ref 229),ad P "is_one_of" 488 (.ref 236),ad P "mark_bits" 494 (.ref 241),ad P "next_mark" 501 (.ref 248),ad P "is_names_of" 507 (.ref 253),ad P "thing_number" 513 (.ref 258),ad P "row_number" 524 (.ref 265),ad P "numbered" 535 (.ref 272),ad P "first_names" 545 (.ref 279),ad P "Kind" 643 (.ref 356),ad P "LIMIT" 649 (.int 1099511627776 648),ad P "is_number" 656 (.ref 367),ad P "rest_of" 664 (.ref 374),ad P "Value" 738 (.ref 431),ad P "made" 748 (.ref 442),ad P "value_of" 754 (.ref 447),ad P "same_kind" 762 (.ref 454),ad P "union" 770 (.ref 461),ad P "without" 778 (.ref 468),ad P "turned" 785 (.ref 475),ad P "JOINING" 791 (.ref 476),ad P "BINDING" 807 (.ref 477),ad P "LEAST_BINDING" 809 (.int 1 808),ad P "is_letter" 816 (.ref 484),ad P "is_figures" 822 (.ref 489),ad P "is_part" 830 (.ref 496),ad P "part_end" 840 (.ref 503),ad P "Reading" 924 (.ref 569),ad P "steps_of" 936 (.ref 581),ad P "letters_in" 942 (.ref 586),ad P "joined" 951 (.ref 593),ad P "part_number" 960 (.ref 600),ad P "number_of" 972 (.ref 607),ad P "is_table" 980 (.ref 612),ad P "reckoned" 986 (.ref 617),ad P "LONGEST_BOOK_NAME" 990 (.int 8 989),ad P "is_book_name" 996 (.ref 622),ad P "value_alone" 1004 (.ref 629),ad P "book_of" 1013 (.ref 636),ad P "Book" 1187 (.ref 770),ad P "_law_cell" 1197 (.ref 781),ad P "_law_drawn" 1206 (.ref 788),ad P "_law_roll" 1215 (.ref 795),ad P "_law_rounds" 1221 (.ref 800),ad P "_law_word" 1227 (.ref 805),ad P "_law_told" 1235 (.ref 812),ad P "_law_bits_of" 1241 (.ref 817),ad P "_law_rule_of" 1248 (.ref 824),ad P "_law_lines" 1254 (.ref 829),ad P "_law_table_of" 1260 (.ref 834),ad P "_law_made" 1271 (.ref 841),ad P "_law_tree" 1283 (.ref 848),ad P "_law_written" 1295 (.ref 855),ad P "_law_come" 1307 (.ref 862),ad P "_law_formula" 1318 (.ref 869),ad P "_law_names" 1332 (.ref 876),ad P "_law_book_like" 1341 (.ref 883),ad P "_law_give" 1352 (.ref 890),ad P "_law_word_of" 1359 (.ref 897),ad P "_law_step" 1380 (.ref 904),ad P "_law_reckoning" 1386 (.ref 909),ad P "law" 1402 (.ref 916)] 91),#[]⟩)::(nat_lit 29,⟨.type "tuple",none,(.seq #[(.str "" 208)] 0),#[]⟩)::(nat_lit 35,Mk.cP 35 "__init__" "MarkError.__init__" 209 7 2 214)::(nat_lit 36,⟨.type "function",none,(.func (Mk.fS "__init__" "MarkError.__init__" (L2.inClass (Mk.top 2) 0) (.ref 29) .none .none (.str "markworks.errors" 194) none (.ref 35) .none)),#[]⟩)::(nat_lit 38,⟨.type "dict",none,(.dict #[ad P "__module__" 203 (.str "markworks.errors" 194),ad P "__firstlineno__" 207 (.int 5 206),ad P "__init__" 216 (.ref 36),ad P "__static_attributes__" 217 (.ref 37),ad P "__weakref__" 219 (.ref 40),ad P "__doc__" 220 .none] 3),#[]⟩)::(nat_lit 39,⟨.type "type",none,(.cls ⟨"MarkError",[(.type "ValueError")],[(.ref 39),(.type "ValueError"),(.type "Exception"),(.type "BaseException"),(.type "object")],38,"MarkError",true,[],[(.ref 59),(.ref 71),(.ref 83),(.ref 95),(.ref 114),(.ref 126),(.ref 145),(.ref 157),(.ref 169),(.ref 188),(.ref 200)],false,none,false⟩),#[(some (.ref 22)),none,(some (.str "MarkError" 196)),(some (.str "MarkError" 204)),(some (.builtin "ValueError.__new__")),(some (.bool true))]⟩)::(nat_lit 59,Mk.eC "BadRows" 39 59 58 43 223 231)::(nat_lit 71,Mk.eC "BadRule" 39 71 70 62 248 256)::(nat_lit 82,⟨.type "dict",none,(.dict #[ad P "__module__" 271 (.str "markworks.errors" 194),ad P "__firstlineno__" 275 (.int 16 274),ad P "__static_attributes__" 276 (.ref 81),ad P "__doc__" 277 .none] 2),#[]⟩)::(nat_lit 83,Mk.eC "BadName" 39 83 82 74 264 272)::(nat_lit 94,⟨.type "dict",none,(.dict #[ad P "__module__" 287 (.str "markworks.errors" 194),ad P "__firstlineno__" 291 (.int 18 290),ad P "__static_attributes__" 292 (.ref 93),ad P "__doc__" 293 .none] 2),#[]⟩)::(nat_lit 95,Mk.eC "BadNumber" 39 95 94 86 280 288)::(nat_lit 110,Mk.cP 110 "__init__" "BadRest.__init__" 308 22 2 313)::(nat_lit 111,Mk.fM0 "__init__" "BadRest.__init__" (Mk.ic 7 0) 110)::(nat_lit 113,⟨.type "dict",none,(.dict #[ad P "__module__" 303 (.str "markworks.errors" 194),ad P "__firstlineno__" 307 (.int 20 306),ad P "__init__" 315 (.ref 111),ad P "__static_attributes__" 317 (.ref 112),ad P "__doc__" 318 .none] 2),#[]⟩)::(nat_lit 114,Mk.eC "BadRest" 39 114 113 98 296 304)::(nat_lit 126,Mk.eC "Unlike" 39 126 125 117 321 329)::(nat_lit 141,Mk.cP 141 "__init__" "BadText.__init__" 349 29 2 354)::(nat_lit 142,Mk.fM0 "__init__" "BadText.__init__" (Mk.ic 9 0) 141)::(nat_lit 144,⟨.type "dict",none,(.dict #[ad P "__module__" 344 (.str "markworks.errors" 194),ad P "__firstlineno__" 348 (.int 27 347),ad P "__init__" 356 (.ref 142),ad P "__static_attributes__" 358 (.ref 143),ad P "__doc__" 359 .none] 2),#[]⟩)::(nat_lit 145,Mk.eC "BadText" 39 145 144 129 337 345)::(nat_lit 157,Mk.eC "BadPairs" 39 157 156 148 362 370)::(nat_lit 169,Mk.eC "Never" 39 169 168 160 378 386)::(nat_lit 188,Mk.eC "Unled" 39 188 187 172 394 402)::(nat_lit 199,⟨.type "dict",none,(.dict #[ad P "__module__" 426 (.str "markworks.errors" 194),ad P "__firstlineno__" 430 (.int 41 429),ad P "__static_attributes__" 431 (.ref 198),ad P "__doc__" 432 .none] 2),#[]⟩)::(nat_lit 200,Mk.eC "Nothing" 39 200 199 191 419 427)::(nat_lit 203,⟨.type "tuple",none,(.seq #[(.str "bar" 447),(.str "drop" 448),(.str "keep" 449),(.str "leave" 450)] 0),#[]⟩)::(nat_lit 209,Mk.cP 209 "is_whole" "is_whole" 452 48 1 456)::(nat_lit 210,Mk.fM1 "is_whole" "is_whole" (Mk.top 19) 209)::(nat_lit 214,⟨.type "code",none,(.fields #[(.str "is_name" 459),(.str "is_name" 460),(.str "/claim/cut.py" 461),(.int 50 0),(.int 1 0),(.int 0 0),(.int 0 0),(.int 3 0),(.ref 211),(.bool true),(.int 181 0),(.ref 212),.none,.none,.none,(.ref 213),(.int 462 0),(.int 50 0),(.str "/claim/cut.py" 463)]),#[]⟩)::(nat_lit 215,Mk.fM1 "is_name" "is_name" (Mk.top 20) 214)::(nat_lit 228,Mk.cP 228 "union_of" "union_of" 472 56 1 478)::(nat_lit 229,Mk.fM1 "union_of" "union_of" (Mk.top 22) 228)::(nat_lit 235,Mk.cP 235 "is_one_of" "is_one_of" 481 61 2 486)::(nat_lit 236,Mk.fM1 "is_one_of" "is_one_of" (Mk.top 23) 235)::(nat_lit 247,Mk.cP 247 "next_mark" "next_mark" 495 65 1 499)::(nat_lit 248,Mk.fM1 "next_mark" "next_mark" (Mk.top 25) 247)::(nat_lit 252,⟨.type "code",none,(.fields #[(.str "is_names_of" 502),(.str "is_names_of" 503),(.str "/claim/cut.py" 504),(.int 67 0),(.int 2 0),(.int 0 0),(.int 0 0),(.int 3 0),(.ref 249),(.bool true),(.int 181 0),(.ref 250),.none,.none,.none,(.ref 251),(.int 505 0),(.int 67 0),(.str "/claim/cut.py" 506)]),#[]⟩)::(nat_lit 253,Mk.fM1 "is_names_of" "is_names_of" (Mk.top 26) 252)::(nat_lit 257,⟨.type "code",none,(.fields #[(.str "thing_number" 508),(.str "thing_number" 509),(.str "/claim/cut.py" 510),(.int 69 0),(.int 2 0),(.int 0 0),(.int 0 0),(.int 3 0),(.ref 254),(.bool true),(.int 181 0),(.ref 255),.none,.none,.none,(.ref 256),(.int 511 0),(.int 69 0),(.str "/claim/cut.py" 512)]),#[]⟩)::(nat_lit 258,Mk.fM1 "thing_number" "thing_number" (Mk.top 27) 257)::(nat_lit 264,Mk.cP 264 "row_number" "row_number" 514 77 2 522)::(nat_lit 265,Mk.fM1 "row_number" "row_number" (Mk.top 28) 264)::(nat_lit 271,Mk.cP 271 "numbered" "numbered" 525 87 1 533)::(nat_lit 272,Mk.fM1 "numbered" "numbered" (Mk.top 29) 271)::(nat_lit 278,Mk.cP 278 "first_names" "first_names" 536 97 1 543)::(nat_lit 279,Mk.fM1 "first_names" "first_names" (Mk.top 30) 278)::(nat_lit 287,⟨.type "dict",none,(.dict #[ad P "rest" 559 (.str "bar" 558)] 1),#[]⟩)::(nat_lit 293,Mk.cO "__init__" 560 "Kind.__init__" 561 562 104 2 0 1 3 288 289 290 291 292 566 104 567)::(nat_lit 294,⟨.type "function",none,(.func (Mk.fS "__init__" "Kind.__init__" (L2.inClass (Mk.top 31) 0) .none (.ref 287) .none (.str "markworks.kinds" 435) none (.ref 293) .none)),#[]⟩)::(nat_lit 300,Mk.cP 300 "rows" "Kind.rows" 569 111 1 573)::(nat_lit 301,Mk.fM1 "rows" "Kind.rows" (Mk.ic 31 1) 300)::(nat_lit 307,Mk.cP 307 "number" "Kind.number" 576 114 2 581)::(nat_lit 308,Mk.fM1 "number" "Kind.number" (Mk.ic 31 2) 307)::(nat_lit 331,Mk.cP 331 "known" "Kind.known" 603 129 1 607)::(nat_lit 332,Mk.fM1 "known" "Kind.known" (Mk.ic 31 6) 331)::(nat_lit 338,Mk.cP 338 "rest" "Kind.rest" 610 132 1 614)::(nat_lit 339,Mk.fM1 "rest" "Kind.rest" (Mk.ic 31 7) 338)::(nat_lit 345,Mk.cP 345 "__eq__" "Kind.__eq__" 617 135 2 622)::(nat_lit 346,Mk.fM1 "__eq__" "Kind.__eq__" (Mk.ic 31 8) 345)::(nat_lit 355,⟨.type "dict",none,(.dict #[ad P "__module__" 553 (.str "markworks.kinds" 435),ad P "__firstlineno__" 557 (.int 102 556),ad P "__init__" 568 (.ref 294),ad P "rows" 575 (.ref 301),ad P "number" 583 (.ref 308),ad P "names" 590 (.ref 315),ad P "aliases" 596 (.ref 320),ad P "marks" 602 (.ref 325),ad P "known" 609 (.ref 332),ad P "rest" 616 (.ref 339),ad P "__eq__" 624 (.ref 346),ad P "__len__" 631 (.ref 353),ad P "__static_attributes__" 635 (.ref 354),ad P "__dict__" 637 (.ref 357),ad P "__weakref__" 639 (.ref 358),ad P "__doc__" 640 .none,ad P "__hash__" 641 .none] 5),#[]⟩)::(nat_lit 356,⟨.type "type",none,(.cls ⟨"Kind",[(.type "object")],[(.ref 356),(.type "object")],355,"Kind",true,[],[],false,none,false⟩),#[none,none,(some (.str "Kind" 546)),(some (.str "Kind" 554)),(some (.builtin "object.__new__")),(some (.bool true))]⟩)::(nat_lit 366,Mk.cP 366 "is_number" "is_number" 650 142 1 654)::(nat_lit 367,Mk.fM2 "is_number" "is_number" (Mk.top 34) 366)::(nat_lit 373,Mk.cP 373 "rest_of" "rest_of" 657 144 2 662)::(nat_lit 374,Mk.fM2 "rest_of" "rest_of" (Mk.top 35) 373)::(nat_lit 387,Mk.cP 387 "__init__" "Value.__init__" 677 148 3 683)::(nat_lit 388,Mk.fM2 "__init__" "Value.__init__" (Mk.ic 36 0) 387)::(nat_lit 394,Mk.cP 394 "number" "Value.number" 686 156 1 690)::(nat_lit 395,Mk.fM2 "number" "Value.number" (Mk.ic 36 1) 394)::(nat_lit 401,Mk.cP 401 "kind" "Value.kind" 693 159 1 697)::(nat_lit 402,Mk.fM2 "kind" "Value.kind" (Mk.ic 36 2) 401)::(nat_lit 430,⟨.type "dict",none,(.dict #[ad P "__module__" 672 (.str "markworks.values" 644),ad P "__firstlineno__" 676 (.int 146 675),ad P "__init__" 685 (.ref 388),ad P "number" 692 (.ref 395),ad P "kind" 699 (.ref 402),ad P "marks" 705 (.ref 407),ad P "rest" 712 (.ref 414),ad P "__eq__" 720 (.ref 421),ad P "__len__" 727 (.ref 428),ad P "__static_attributes__" 730 (.ref 429),ad P "__dict__" 732 (.ref 432),ad P "__weakref__" 734 (.ref 433),ad P "__doc__" 735 .none,ad P "__hash__" 736 .none] 5),#[]⟩)::(nat_lit 431,⟨.type "type",none,(.cls ⟨"Value",[(.type "object")],[(.ref 431),(.type "object")],430,"Value",true,[],[],false,none,false⟩),#[none,none,(some (.str "Value" 665)),(some (.str "Value" 673)),(some (.builtin "object.__new__")),(some (.bool true))]⟩)::(nat_lit 441,Mk.cP 441 "made" "made" 739 173 2 746)::(nat_lit 442,Mk.fM2 "made" "made" (Mk.top 37) 441)::(nat_lit 446,⟨.type "code",none,(.fields #[(.str "value_of" 749),(.str "value_of" 750),(.str "/claim/cut.py" 751),(.int 185 0),(.int 2 0),(.int 0 0),(.int 0 0),(.int 3 0),(.ref 443),(.bool true),(.int 181 0),(.ref 444),.none,.none,.none,(.ref 445),(.int 752 0),(.int 185 0),(.str "/claim/cut.py" 753)]),#[]⟩)::(nat_lit 447,Mk.fM2 "value_of" "value_of" (Mk.top 38) 446)::(nat_lit 453,Mk.cP 453 "same_kind" "same_kind" 755 189 2 760)::(nat_lit 454,Mk.fM2 "same_kind" "same_kind" (Mk.top 39) 453)::(nat_lit 460,Mk.cP 460 "union" "union" 763 193 2 768)::(nat_lit 461,Mk.fM2 "union" "union" (Mk.top 40) 460)::(nat_lit 467,Mk.cP 467 "without" "without" 771 195 2 776)::(nat_lit 468,Mk.fM2 "without" "without" (Mk.top 41) 467)::(nat_lit 474,Mk.cP 474 "turned" "turned" 779 197 1 783)::(nat_lit 475,Mk.fM2 "turned" "turned" (Mk.top 42) 474)::(nat_lit 476,⟨.type "tuple",none,(.seq #[(.str "&" 788),(.str "^" 789),(.str "|" 790)] 0),#[]⟩)::(nat_lit 483,Mk.cP 483 "is_letter" "is_letter" 810 203 1 814)::(nat_lit 484,Mk.fM3 "is_letter" "is_letter" (Mk.top 47) 483)::(nat_lit 488,⟨.type "code",none,(.fields #[(.str "is_figures" 817),(.str "is_figures" 818),(.str "/claim/cut.py" 819),(.int 205 0),(.int 1 0),(.int 0 0),(.int 0 0),(.int 3 0),(.ref 485),(.bool true),(.int 181 0),(.ref 486),.none,.none,.none,(.ref 487),(.int 820 0),(.int 205 0),(.str "/claim/cut.py" 821)]),#[]⟩)::(nat_lit 489,Mk.fM3 "is_figures" "is_figures" (Mk.top 48) 488)::(nat_lit 495,Mk.cP 495 "is_part" "is_part" 823 211 2 828)::(nat_lit 496,Mk.fM3 "is_part" "is_part" (Mk.top 49) 495)::(nat_lit 502,Mk.cP 502 "part_end" "part_end" 831 213 3 838)::(nat_lit 503,Mk.fM3 "part_end" "part_end" (Mk.top 50) 502)::(nat_lit 516,Mk.cP 516 "__init__" "Reading.__init__" 853 220 1 857)::(nat_lit 517,Mk.fM3 "__init__" "Reading.__init__" (Mk.ic 51 0) 516)::(nat_lit 523,Mk.cP 523 "take_part" "Reading.take_part" 860 225 2 865)::(nat_lit 524,Mk.fM3 "take_part" "Reading.take_part" (Mk.ic 51 1) 523)::(nat_lit 530,Mk.cP 530 "take_sign" "Reading.take_sign" 868 229 2 873)::(nat_lit 531,Mk.fM3 "take_sign" "Reading.take_sign" (Mk.ic 51 2) 530)::(nat_lit 537,Mk.cP 537 "take_ahead" "Reading.take_ahead" 876 236 2 881)::(nat_lit 538,Mk.fM3 "take_ahead" "Reading.take_ahead" (Mk.ic 51 3) 537)::(nat_lit 544,Mk.cP 544 "take_between" "Reading.take_between" 884 242 2 889)::(nat_lit 545,Mk.fM3 "take_between" "Reading.take_between" (Mk.ic 51 4) 544)::(nat_lit 551,Mk.cP 551 "take_close" "Reading.take_close" 892 250 1 896)::(nat_lit 552,Mk.fM3 "take_close" "Reading.take_close" (Mk.ic 51 5) 551)::(nat_lit 558,Mk.cP 558 "settle" "Reading.settle" 899 257 2 904)::(nat_lit 559,Mk.fM3 "settle" "Reading.settle" (Mk.ic 51 6) 558)::(nat_lit 565,Mk.cP 565 "ends" "Reading.ends" 907 261 1 911)::(nat_lit 566,Mk.fM3 "ends" "Reading.ends" (Mk.ic 51 7) 565)::(nat_lit 568,⟨.type "dict",none,(.dict #[ad P "__module__" 848 (.str "markworks.grammar" 786),ad P "__firstlineno__" 852 (.int 218 851),ad P "__init__" 859 (.ref 517),ad P "take_part" 867 (.ref 524),ad P "take_sign" 875 (.ref 531),ad P "take_ahead" 883 (.ref 538),ad P "take_between" 891 (.ref 545),ad P "take_close" 898 (.ref 552),ad P "settle" 906 (.ref 559),ad P "ends" 913 (.ref 566),ad P "__static_attributes__" 917 (.ref 567),ad P "__dict__" 919 (.ref 570),ad P "__weakref__" 921 (.ref 571),ad P "__doc__" 922 .none] 4),#[]⟩)::(nat_lit 569,⟨.type "type",none,(.cls ⟨"Reading",[(.type "object")],[(.ref 569),(.type "object")],568,"Reading",true,[],[],false,none,false⟩),#[none,none,(some (.str "Reading" 841)),(some (.str "Reading" 849)),(some (.builtin "object.__new__")),(some (.bool true))]⟩)::(nat_lit 574,⟨.type "dict",none,(.dict #[ad P "lettered" 925 (.bool true)] 1),#[]⟩)::(nat_lit 580,Mk.cO "steps_of" 926 "steps_of" 927 928 264 1 0 1 3 575 576 577 578 579 934 264 935)::(nat_lit 581,⟨.type "function",none,(.func (Mk.fS "steps_of" "steps_of" (Mk.top 52) .none (.ref 574) .none (.str "markworks.grammar" 786) none (.ref 580) .none)),#[]⟩)::(nat_lit 585,⟨.type "code",none,(.fields #[(.str "letters_in" 937),(.str "letters_in" 938),(.str "/claim/cut.py" 939),(.int 281 0),(.int 1 0),(.int 0 0),(.int 0 0),(.int 3 0),(.ref 582),(.bool true),(.int 181 0),(.ref 583),.none,.none,.none,(.ref 584),(.int 940 0),(.int 281 0),(.str "/claim/cut.py" 941)]),#[]⟩)::(nat_lit 586,Mk.fM3 "letters_in" "letters_in" (Mk.top 53) 585)::(nat_lit 592,Mk.cP 592 "joined" "joined" 943 283 3 949)::(nat_lit 593,Mk.fM3 "joined" "joined" (Mk.top 54) 592)::(nat_lit 599,Mk.cP 599 "part_number" "part_number" 952 289 3 958)::(nat_lit 600,Mk.fM3 "part_number" "part_number" (Mk.top 55) 599)::(nat_lit 606,Mk.cP 606 "number_of" "number_of" 961 295 3 970)::(nat_lit 607,Mk.fM3 "number_of" "number_of" (Mk.top 56) 606)::(nat_lit 611,⟨.type "code",none,(.fields #[(.str "is_table" 975),(.str "is_table" 976),(.str "/claim/cut.py" 977),(.int 307 0),(.int 1 0),(.int 0 0),(.int 0 0),(.int 3 0),(.ref 608),(.bool true),(.int 181 0),(.ref 609),.none,.none,.none,(.ref 610),(.int 978 0),(.int 307 0),(.str "/claim/cut.py" 979)]),#[]⟩)::(nat_lit 612,Mk.fM4 "is_table" "is_table" (Mk.top 58) 611)::(nat_lit 616,⟨.type "code",none,(.fields #[(.str "reckoned" 981),(.str "reckoned" 982),(.str "/claim/cut.py" 983),(.int 311 0),(.int 3 0),(.int 0 0),(.int 0 0),(.int 3 0),(.ref 613),(.bool true),(.int 181 0),(.ref 614),.none,.none,.none,(.ref 615),(.int 984 0),(.int 311 0),(.str "/claim/cut.py" 985)]),#[]⟩)::(nat_lit 617,Mk.fM4 "reckoned" "reckoned" (Mk.top 59) 616)::(nat_lit 621,⟨.type "code",none,(.fields #[(.str "is_book_name" 991),(.str "is_book_name" 992),(.str "/claim/cut.py" 993),(.int 320 0),(.int 1 0),(.int 0 0),(.int 0 0),(.int 3 0),(.ref 618),(.bool true),(.int 181 0),(.ref 619),.none,.none,.none,(.ref 620),(.int 994 0),(.int 320 0),(.str "/claim/cut.py" 995)]),#[]⟩)::(nat_lit 622,Mk.fM5 "is_book_name" "is_book_name" (Mk.top 62) 621)::(nat_lit 628,Mk.cP 628 "value_alone" "value_alone" 997 324 2 1002)::(nat_lit 629,Mk.fM5 "value_alone" "value_alone" (Mk.top 63) 628)::(nat_lit 649,Mk.cP 649 "__init__" "Book.__init__" 1026 334 2 1031)::(nat_lit 650,Mk.fM5 "__init__" "Book.__init__" (Mk.ic 65 0) 649)::(nat_lit 656,Mk.cP 656 "entry" "Book.entry" 1034 339 2 1039)::(nat_lit 657,Mk.fM5 "entry" "Book.entry" (Mk.ic 65 1) 656)::(nat_lit 663,Mk.cP 663 "give" "Book.give" 1042 344 3 1051)::(nat_lit 664,Mk.fM5 "give" "Book.give" (Mk.ic 65 2) 663)::(nat_lit 670,Mk.cP 670 "put" "Book.put" 1054 353 3 1060)::(nat_lit 671,Mk.fM5 "put" "Book.put" (Mk.ic 65 3) 670)::(nat_lit 677,Mk.cP 677 "mark" "Book.mark" 1063 358 3 1069)::(nat_lit 678,Mk.fM5 "mark" "Book.mark" (Mk.ic 65 4) 677)::(nat_lit 684,Mk.cP 684 "unmark" "Book.unmark" 1072 361 3 1078)::(nat_lit 685,Mk.fM5 "unmark" "Book.unmark" (Mk.ic 65 5) 684)::(nat_lit 691,Mk.cP 691 "turn" "Book.turn" 1081 364 2 1086)::(nat_lit 692,Mk.fM5 "turn" "Book.turn" (Mk.ic 65 6) 691)::(nat_lit 698,Mk.cP 698 "drop" "Book.drop" 1089 367 2 1094)::(nat_lit 699,Mk.fM5 "drop" "Book.drop" (Mk.ic 65 7) 698)::(nat_lit 703,⟨.type "code",none,(.fields #[(.str "reckon" 1097),(.str "Book.reckon" 1098),(.str "/claim/cut.py" 1099),(.int 371 0),(.int 3 0),(.int 0 0),(.int 0 0),(.int 3 0),(.ref 700),(.bool true),(.int 181 0),(.ref 701),.none,.none,.none,(.ref 702),(.int 1100 0),(.int 371 0),(.str "/claim/cut.py" 1101)]),#[]⟩)::(nat_lit 704,Mk.fM5 "reckon" "Book.reckon" (Mk.ic 65 8) 703)::(nat_lit 710,Mk.cP 710 "take_back" "Book.take_back" 1103 377 1 1109)::(nat_lit 711,Mk.fM5 "take_back" "Book.take_back" (Mk.ic 65 9) 710)::(nat_lit 717,Mk.cP 717 "value" "Book.value" 1112 386 2 1117)::(nat_lit 718,Mk.fM5 "value" "Book.value" (Mk.ic 65 10) 717)::(nat_lit 724,Mk.cP 724 "changes" "Book.changes" 1120 389 2 1125)::(nat_lit 725,Mk.fM5 "changes" "Book.changes" (Mk.ic 65 11) 724)::(nat_lit 738,Mk.cP 738 "names" "Book.names" 1135 395 1 1139)::(nat_lit 739,Mk.fM5 "names" "Book.names" (Mk.ic 65 13) 738)::(nat_lit 766,Mk.cP 766 "__len__" "Book.__len__" 1169 413 1 1173)::(nat_lit 767,Mk.fM5 "__len__" "Book.__len__" (Mk.ic 65 17) 766)::(nat_lit 769,⟨.type "dict",none,(.dict #[ad P "__module__" 1021 (.str "markworks.books" 987),ad P "__firstlineno__" 1025 (.int 332 1024),ad P "__init__" 1033 (.ref 650),ad P "entry" 1041 (.ref 657),ad P "give" 1053 (.ref 664),ad P "put" 1062 (.ref 671),ad P "mark" 1071 (.ref 678),ad P "unmark" 1080 (.ref 685),ad P "turn" 1088 (.ref 692),ad P "drop" 1096 (.ref 699),ad P "reckon" 1102 (.ref 704),ad P "take_back" 1111 (.ref 711),ad P "value" 1119 (.ref 718),ad P "changes" 1127 (.ref 725),ad P "kind" 1134 (.ref 732),ad P "names" 1141 (.ref 739),ad P "having" 1149 (.ref 746),ad P "lead" 1160 (.ref 753),ad P "__eq__" 1168 (.ref 760),ad P "__len__" 1175 (.ref 767),ad P "__static_attributes__" 1179 (.ref 768),ad P "__dict__" 1181 (.ref 771),ad P "__weakref__" 1183 (.ref 772),ad P "__doc__" 1184 .none,ad P "__hash__" 1185 .none] 5),#[]⟩)::(nat_lit 770,⟨.type "type",none,(.cls ⟨"Book",[(.type "object")],[(.ref 770),(.type "object")],769,"Book",true,[],[],false,none,false⟩),#[none,none,(some (.str "Book" 1014)),(some (.str "Book" 1022)),(some (.builtin "object.__new__")),(some (.bool true))]⟩)::(nat_lit 780,Mk.cP 780 "_law_cell" "_law_cell" 1190 416 2 1195)::(nat_lit 781,Mk.fM6 "_law_cell" "_law_cell" (Mk.top 67) 780)::(nat_lit 787,Mk.cP 787 "_law_drawn" "_law_drawn" 1198 420 2 1204)::(nat_lit 788,Mk.fM6 "_law_drawn" "_law_drawn" (Mk.top 68) 787)::(nat_lit 794,Mk.cP 794 "_law_roll" "_law_roll" 1207 425 2 1213)::(nat_lit 795,Mk.fM6 "_law_roll" "_law_roll" (Mk.top 69) 794)::(nat_lit 799,⟨.type "code",none,(.fields #[(.str "_law_rounds" 1216),(.str "_law_rounds" 1217),(.str "/claim/cut.py" 1218),(.int 432 0),(.int 2 0),(.int 0 0),(.int 0 0),(.int 3 0),(.ref 796),(.bool true),(.int 181 0),(.ref 797),.none,.none,.none,(.ref 798),(.int 1219 0),(.int 432 0),(.str "/claim/cut.py" 1220)]),#[]⟩)::(nat_lit 800,Mk.fM6 "_law_rounds" "_law_rounds" (Mk.top 70) 799)::(nat_lit 804,⟨.type "code",none,(.fields #[(.str "_law_word" 1222),(.str "_law_word" 1223),(.str "/claim/cut.py" 1224),(.int 434 0),(.int 1 0),(.int 0 0),(.int 0 0),(.int 3 0),(.ref 801),(.bool true),(.int 181 0),(.ref 802),.none,.none,.none,(.ref 803),(.int 1225 0),(.int 434 0),(.str "/claim/cut.py" 1226)]),#[]⟩)::(nat_lit 805,Mk.fM6 "_law_word" "_law_word" (Mk.top 71) 804)::(nat_lit 811,Mk.cP 811 "_law_told" "_law_told" 1228 444 1 1233)::(nat_lit 812,Mk.fM6 "_law_told" "_law_told" (Mk.top 72) 811)::(nat_lit 816,⟨.type "code",none,(.fields #[(.str "_law_bits_of" 1236),(.str "_law_bits_of" 1237),(.str "/claim/cut.py" 1238),(.int 457 0),(.int 1 0),(.int 0 0),(.int 0 0),(.int 3 0),(.ref 813),(.bool true),(.int 181 0),(.ref 814),.none,.none,.none,(.ref 815),(.int 1239 0),(.int 457 0),(.str "/claim/cut.py" 1240)]),#[]⟩)::(nat_lit 817,Mk.fM6 "_law_bits_of" "_law_bits_of" (Mk.top 73) 816)::(nat_lit 823,Mk.cP 823 "_law_rule_of" "_law_rule_of" 1242 459 1 1246)::(nat_lit 824,Mk.fM6 "_law_rule_of" "_law_rule_of" (Mk.top 74) 823)::(nat_lit 828,⟨.type "code",none,(.fields #[(.str "_law_lines" 1249),(.str "_law_lines" 1250),(.str "/claim/cut.py" 1251),(.int 461 0),(.int 2 0),(.int 0 0),(.int 0 0),(.int 3 0),(.ref 825),(.bool true),(.int 181 0),(.ref 826),.none,.none,.none,(.ref 827),(.int 1252 0),(.int 461 0),(.str "/claim/cut.py" 1253)]),#[]⟩)::(nat_lit 829,Mk.fM6 "_law_lines" "_law_lines" (Mk.top 75) 828)::(nat_lit 833,⟨.type "code",none,(.fields #[(.str "_law_table_of" 1255),(.str "_law_table_of" 1256),(.str "/claim/cut.py" 1257),(.int 480 0),(.int 1 0),(.int 0 0),(.int 0 0),(.int 3 0),(.ref 830),(.bool true),(.int 181 0),(.ref 831),.none,.none,.none,(.ref 832),(.int 1258 0),(.int 480 0),(.str "/claim/cut.py" 1259)]),#[]⟩)::(nat_lit 834,Mk.fM6 "_law_table_of" "_law_table_of" (Mk.top 76) 833)::(nat_lit 840,Mk.cP 840 "_law_made" "_law_made" 1261 488 3 1269)::(nat_lit 841,Mk.fM6 "_law_made" "_law_made" (Mk.top 77) 840)::(nat_lit 847,Mk.cP 847 "_law_tree" "_law_tree" 1272 498 4 1281)::(nat_lit 848,Mk.fM6 "_law_tree" "_law_tree" (Mk.top 78) 847)::(nat_lit 854,Mk.cP 854 "_law_written" "_law_written" 1284 510 3 1293)::(nat_lit 855,Mk.fM6 "_law_written" "_law_written" (Mk.top 79) 854)::(nat_lit 861,Mk.cP 861 "_law_come" "_law_come" 1296 520 4 1305)::(nat_lit 862,Mk.fM6 "_law_come" "_law_come" (Mk.top 80) 861)::(nat_lit 868,Mk.cP 868 "_law_formula" "_law_formula" 1308 534 3 1316)::(nat_lit 869,Mk.fM6 "_law_formula" "_law_formula" (Mk.top 81) 868)::(nat_lit 875,Mk.cP 875 "_law_names" "_law_names" 1319 541 3 1330)::(nat_lit 876,Mk.fM6 "_law_names" "_law_names" (Mk.top 82) 875)::(nat_lit 882,Mk.cP 882 "_law_book_like" "_law_book_like" 1333 548 2 1339)::(nat_lit 883,Mk.fM6 "_law_book_like" "_law_book_like" (Mk.top 83) 882)::(nat_lit 889,Mk.cP 889 "_law_give" "_law_give" 1342 555 3 1350)::(nat_lit 890,Mk.fM6 "_law_give" "_law_give" (Mk.top 84) 889)::(nat_lit 896,Mk.cP 896 "_law_word_of" "_law_word_of" 1353 561 1 1357)::(nat_lit 897,Mk.fM6 "_law_word_of" "_law_word_of" (Mk.top 85) 896)::(nat_lit 903,Mk.cP 903 "_law_step" "_law_step" 1360 563 5 1378)::(nat_lit 904,Mk.fM6 "_law_step" "_law_step" (Mk.top 86) 903)::(nat_lit 908,⟨.type "code",none,(.fields #[(.str "_law_reckoning" 1381),(.str "_law_reckoning" 1382),(.str "/claim/cut.py" 1383),(.int 597 0),(.int 6 0),(.int 0 0),(.int 0 0),(.int 3 0),(.ref 905),(.bool true),(.int 181 0),(.ref 906),.none,.none,.none,(.ref 907),(.int 1384 0),(.int 597 0),(.str "/claim/cut.py" 1385)]),#[]⟩)::(nat_lit 909,Mk.fM6 "_law_reckoning" "_law_reckoning" (Mk.top 87) 908)::(nat_lit 915,Mk.cP 915 "law" "law" 1387 615 1 1400)::(nat_lit 916,Mk.fM6 "law" "law" (Mk.top 88) 915)::
 []
noncomputable def Mk.Kf (P:PySem.Params):PySem.W.Frag:=(nat_lit 911,⟨.none,none,(.fields #[]),#[]⟩)::(nat_lit 899,⟨.none,none,(.fields #[]),#[]⟩)::(nat_lit 906,⟨.none,none,(.fields #[]),#[]⟩)::(nat_lit 477,⟨.type "dict",none,(.dict #[ad P "(" 792 (.int 0 793),ad P "|" 794 (.int 1 795),ad P "^" 796 (.int 2 797),ad P "&" 798 (.int 3 799),ad P "~" 800 (.int 4 801)] 5),#[]⟩)::Mk.Kg P
noncomputable def Mk.Kas:List Nat:=911::899::906::477::2::3::29::35::36::38::39::59::71::82::83::94::95::110::111::113::114::126::141::142::144::145::157::169::188::199::200::203::209::210::214::215::228::229::235::236::247::248::252::253::257::258::264::265::271::272::278::279::287::293::294::300::301::307::308::331::332::338::339::345::346::355::356::366::367::373::374::387::388::394::395::401::402::430::431::441::442::446::447::453::454::460::461::467::468::474::475::476::483::484::488::489::495::496::502::503::516::517::523::524::530::531::537::538::544::545::551::552::558::559::565::566::568::569::574::580::581::585::586::592::593::599::600::606::607::611::612::616::617::621::622::628::629::649::650::656::657::663::664::670::671::677::678::684::685::691::692::698::699::703::704::710::711::717::718::724::725::738::739::766::767::769::770::780::781::787::788::794::795::799::800::804::805::811::812::816::817::823::824::828::829::833::834::840::841::847::848::854::855::861::862::868::869::875::876::882::883::889::890::896::897::903::904::908::909::915::916::[]
noncomputable def Mk.loose:List PySem.Str:="_wall"::"MarkError"::"BadRows"::"BadRule"::"BadName"::"BadNumber"::"BadRest"::"Unlike"::"BadText"::"BadPairs"::"Never"::"Unled"::"Nothing"::"GREATEST"::"MOST_ROWS"::"LONGEST_NAME"::"RULES"::"is_whole"::"is_name"::"is_mark"::"union_of"::"is_one_of"::"mark_bits"::"next_mark"::"is_names_of"::"thing_number"::"row_number"::"numbered"::"first_names"::"Kind"::"LIMIT"::"is_number"::"rest_of"::"Value"::"made"::"value_of"::"same_kind"::"union"::"without"::"turned"::"JOINING"::"BINDING"::"LEAST_BINDING"::"is_letter"::"is_figures"::"is_part"::"part_end"::"Reading"::"steps_of"::"letters_in"::"joined"::"part_number"::"number_of"::"is_table"::"reckoned"::"LONGEST_BOOK_NAME"::"is_book_name"::"value_alone"::"book_of"::"Book"::"_law_cell"::"_law_drawn"::"_law_roll"::"_law_rounds"::"_law_word"::"_law_told"::"_law_bits_of"::"_law_rule_of"::"_law_lines"::"_law_table_of"::"_law_made"::"_law_tree"::"_law_written"::"_law_come"::"_law_formula"::"_law_names"::"_law_book_like"::"_law_give"::"_law_word_of"::"_law_step"::"_law_reckoning"::[]
abbrev Mk.dl:List L2.DcE:=[("(",792,0,793),("|",794,1,795),("^",796,2,797),("&",798,3,799),("~",800,4,801)]
abbrev Mk.ep:Nat:=5
def Mk.T0 (P:Params):BT:=.node (boot_o_0 P)
 (.node (boot_o_1 P) (.node (boot_o_3 P) (.node (boot_o_7 P) .nil .nil) .nil) (.node (boot_o_5 P) (.node (boot_o_9 P) .nil .nil) .nil))
 (.node (boot_o_2 P) (.node (boot_o_4 P) (.node (boot_o_8 P) .nil .nil) .nil) (.node (boot_o_6 P) (.node (boot_o_10 P) .nil .nil) .nil))
def Mk.tree (P:Params):absHeap (Mk.T0 P) (nat_lit 11) {}=boot_heap P:=by kernel_rfl
def Mk.size (w:World):((boot_heap w.params).isNs mainGlobals,(boot_heap w.params).objs.size,(boot_heap w.params).nsMap mainGlobals "__annotations__")=(true,(nat_lit 11),some (.ref (nat_lit 6))):=by kernel_rfl
def Mk.opens (w:World):(fencedOpening treeTable PySem.Challenge.pw_markworks_k70_whole_books w (nat_lit 13730)).map (fun s=>(s.heap,s.gens,s.drawn,s.toks))=some (boot_heap w.params,#[],boot_drawn,boot_toks):=boot_open qd qc (fun s=>qd) w
def Mk.twin:Function.const _ true (@Hd.runT,@Hd.looksAt)=true:=by k_qdec
abbrev Mk.qv:Program:=view PySem.Challenge.pw_markworks_k70_whole_books [nat_lit 88]
abbrev Mk.Xt (s:Shared):Bool:=xlAt Mk.qv [] s&&recOk [] s
abbrev Mk.RQ (w:World) (os:OsState):Prop:=(Option.map (fun s=>Fast.tw8257016192812374322 PySem.Challenge.pw_markworks_k70_whole_books (view PySem.Challenge.pw_markworks_k70_whole_books [nat_lit 88]) Mk.loose (fun s=>xlAt (view PySem.Challenge.pw_markworks_k70_whole_books [nat_lit 88]) [] s&&recOk [] s) Mk.Kas (boot_heap w.params) s.abs)
   (Fast.tw16599536794577742827 Fast.tw14364793385576792824 PySem.Challenge.pw_markworks_k70_whole_books w (nat_lit 11) (some (Value.ref (nat_lit 6))) (nat_lit 6817) ⟨Mk.T0 w.params,nat_lit 11,{},#[],boot_drawn,boot_toks,os⟩ (topStub PySem.Challenge.pw_markworks_k70_whole_books)))=
  some (true,openGood (view PySem.Challenge.pw_markworks_k70_whole_books [nat_lit 88]) Mk.loose,(Mk.Kf w.params).map fun x=>some x.2)
def Mk.sF (b:Bool) (w:World):World:={w with params:={w.params with followText:=fun s=>if s== "special-get-raises" then b else w.params.followText s}}
def Mk.sF_eq (w:World):Mk.sF (w.params.followText "special-get-raises") w=w:=by
 have:(fun s=>if s== "special-get-raises" then w.params.followText "special-get-raises" else w.params.followText s)=w.params.followText:=funext fun s=>by
  by_cases h:s="special-get-raises"
  · rw[h];rfl
  · rw[if_neg (by simpa using h)]
 unfold Mk.sF
 rw[this]
def Mk.run_t (w:World) (os:OsState):Mk.RQ (Mk.sF true w) os:=by kernel_rfl
def Mk.run_f (w:World) (os:OsState):Mk.RQ (Mk.sF false w) os:=by kernel_rfl
def Mk.run_q (w:World) (os:OsState):Mk.RQ w os:=by
 have e:=Mk.sF_eq w
 cases h:w.params.followText "special-get-raises" with
 |true=>rw[h]at e;rw[←e];exact Mk.run_t w os
 |false=>rw[h]at e;rw[←e];exact Mk.run_f w os
def Mk.left:LeftO PySem.Challenge.pw_markworks_k70_whole_books Mk.qv Mk.loose Mk.Xt (fun s=>Mk.Kas.map s.heap.get?) (fun w=>(Mk.Kf w.params).map fun x=>some x.2) (nat_lit 13730):=by
 refine Hd.left_of (M:=nat_lit 6817) (T0:=Mk.T0) Mk.opens Mk.tree Mk.size qc fun w os=>?_
 have h:=Mk.run_q w os
 unfold Mk.RQ at h
 rw[←Fast.te8257016192812374322,←Fast.te16599536794577742827,←Fast.te14364793385576792824]at h
 exact h
theorem Mk.wsA:PySem.Challenge.rw_markworks_k70_whole_books.row.wellSaid=true:=by kernel_rfl
theorem Mk.wsB:PySem.Challenge.rw_markworks_k70_whole_books.wellSaid=true:=by
 unfold OpenLaw.wellSaid
 repeat' with_reducible refine look_both ?_ ?_
 exact Mk.wsA
 all_goals kernel_rfl
def Mk.in_of {K:Frag}{h:Heap}{a:Addr}{o:Obj} (X:Frag.In ((a,o)::K) h) (e:K.lookup a=none):K.In h/\h.get? a=some o:=⟨fun b o' z=>X b o' (by
  rw[List.lookup_cons]
  cases q:(b== a)with
  |false=>exact z
  |true=>rw[beq_iff_eq.mp q,e]at z;cases z),X _ _ (by rw[List.lookup_cons,beq_self_eq_true])⟩
def Mk.kg_in {P:Params}{h:Heap} (X:(Mk.Kf P).In h):(Mk.Kg P).In h/\(∀t∈([(915,911),(903,899),(908,906)]:List (Addr×Addr)),h.get? t.2=some (tabObj #[])/\(Mk.Kg P).lookup t.2=none/\CodeHd h t.1 t.2)/\h.get? 477=some (L2.dcObj P Mk.dl Mk.ep)/\(Mk.Kg P).lookup 477=none:=by
 obtain⟨X,h0⟩:=Mk.in_of X qd
 obtain⟨X,h1⟩:=Mk.in_of X qd
 obtain⟨X,h2⟩:=Mk.in_of X qd
 obtain⟨X,hd⟩:=Mk.in_of X qd
 refine⟨X,fun t ht=>?_,hd,qd⟩
 simp only[List.mem_cons,List.not_mem_nil,or_false]at ht
 rcases ht with rfl|rfl|rfl
 · exact⟨h0,qd,Mk.codeHd_of X qd⟩
 · exact⟨h1,qd,Mk.codeHd_of X qd⟩
 · exact⟨h2,qd,Mk.codeHd_of X qd⟩
def Mk.dL:DefRec:=⟨"law",L2.defArgs (Mk.top (nat_lit 88)),L2.defBody (Mk.top (nat_lit 88)),L2.defScope (Mk.top (nat_lit 88)),match Mk.top (nat_lit 88)with|.FunctionDef _ _ _ _ _ _ _ _ _ p=>p|_=>⟨0,0,0,0⟩⟩
end
open PySem PySem.W PyProof.Rows
set_option maxRecDepth 100000 in
set_option maxHeartbeats 0 in
theorem PySem.Challenge.cw_markworks_k70_whole_books_holds : PySem.Challenge.rw_markworks_k70_whole_books.Holds := by
 w_on
 refine PySem.W.holds_law Mk.wsB fun said=>?_
 refine PySem.W.holds_open (r:=PySem.Challenge.rw_markworks_k70_whole_books.row) (q:=Mk.qv) (loose:=Mk.loose) (Xt:=Mk.Xt) (XP:=XL Mk.qv []) (YP:=InK Mk.Kf) (d:=Mk.dL) (kwd:=[]) Mk.left
  (fun w s e=>InK.of (fun P=>qd) w s e) InK.keeps (fun s e=>xl_of s (Bool.and_eq_true_iff.mp e).1) XL.keeps qd qd qd (fun s e=>recFacts_of (Bool.and_eq_true_iff.mp e).2) (by rfl) (by assumption) qb ⟨rfl,rfl,rfl,rfl,rfl,qb⟩ ?hw ?hc
 case hw=>w_witness2
 have aux:Function.const _ True (PySem.Challenge.rw_markworks_k70_whole_books,Mk.Kg):=by k_fill;trivial
 refine Mk.walk (l:=PySem.Challenge.rw_markworks_k70_whole_books) (bd:=477) (dl:=Mk.dl) (ep:=Mk.ep) (K:=Mk.Kg) rfl rfl qc qc qb rfl (fun w h Y=>Mk.kg_in Y) ?F
 case F=>
  intro w mg fa h KX G hmg
  refine' Mk.all_mk KX G hmg ?aC ?aVC ?aDC ?aBC ?aM ?aX0 ?aX1 ?aX2 ?aX3 ?aX4 ?aX5 ?aX6 ?aX7 ?aX8 ?aX9 ?aX10 ?z_VE ?hwh ?hnm ?huo ?hnx ?hoo ?hno ?hth ?hro ?hnb ?hfi ?hmK ?hmT ?hlc ?hld ?hlr ?hls ?hll ?hxn ?hxr ?hxi ?hxN ?hlb ?hlu ?hlt ?hgl ?hgi ?hdS ?hdP ?hdB ?hdA ?hdC ?hdG ?hdN ?hgj ?hmR ?hmE ?hxK ?hlm ?hsk ?hib ?hbN ?hbL ?hbG ?hlg ?hlx ?hly ?hmN ?hgf ?hgp ?hge ?hgn ?hgo ?hdI ?hti ?hle ?hlp ?hlf ?hlw ?hlo ?hga ?hrk ?hmd ?hri ?hlq ?hva ?hvo ?huu ?huw ?hut ?hbE ?hbV ?hbC ?hbP ?hbM ?hbU ?hbT ?hbD ?hbK ?hbR ?hbI ?hlk ?ain ?iin ?lin ?cin ?kin ?ala ?lla ?cla ?kla ?aei ?iei ?lei ?cei ?kei ?as2 ?ls2 ?c_s2 ?ks2 ?as3 ?ls3 ?c_s3 ?ks3 ?pd ?kdl ?kde ?kdr ?dtl ?vG ?vM ?vL ?vLi ?vR ?qn ?qt ?fC ?fVC ?fDC ?fBC ?nC_numbers ?nC_firsts ?nC_rule ?nVC_own_kind ?nVC_bits ?nDC_steps ?nDC_waiting ?nDC_wants_part ?nBC_own_kind ?nBC_entries ?nBC_deeds ?xm ?xc0 ?xc1 ?xc2 ?xc3 ?y5 ?y6 ?y10 ?y1 ?y2 ?xmg ?xmr ?xmf ?rL ?z_len ?z_isinstance ?z_max ?z_min ?z_range ?z_list ?z_tuple ?z_sorted ?z_sum ?z_all ?z_enumerate ?z_int ?z_bool ?z_str ?z_dict ?vBD ?vJN ?vLB ?jL ?ast ?lst ?cst ?kst ?k2l ?k2e ?k2n ?vLN
  case aC|aVC|aDC|aBC|aM|aX0|aX1|aX2|aX3|aX4|aX5|aX6|aX7|aX8|aX9|aX10|z_VE=>(show _=_;k_is)
  case hwh|hnm|huo|hnx|hoo|hno|hth|hro|hnb|hfi|hlc|hld|hlr|hls|hll|hxn|hxr|hlb|hlu|hlt|hgl|hgi|hgj|hlm|hsk|hib|hlg|hlx|hly|hgf|hgp|hge|hgn|hgo|hle|hlp|hlf|hlw|hlo|hga|hrk|hmd|hlq|hva|hvo|huu|huw|hut|hlk=>
   refine' ⟨_,_,?a,L2.fun_mk ?b ?c ?d⟩
   case a|b|c|d=>k_is
  case hmK|hmT|hxi|hxN|hdS|hdP|hdB|hdA|hdC|hdG|hdN|hmR|hmE|hxK|hbN|hbL|hbG|hmN|hdI|hti|hri|hbE|hbV|hbC|hbP|hbM|hbU|hbT|hbD|hbK|hbR|hbI=>
   refine' ⟨_,_,?a,?i,⟨_,?o,?q⟩,L2.fun_mk ?b ?c ?d⟩
   case a|i|b=>k_is
   case o|q=>first|rfl|k_is
   case c|d=>k_is
  case ain|iin|lin|cin|kin|ala|lla|cla|kla|aei|iei|lei|cei|kei|as2|ls2|c_s2|ks2|as3|ls3|c_s3|ks3=>(show _=_;k_is)
  case pd=>simp
  case kdl=>(show _=_;k_is)
  case kde=>simp
  case kdr|dtl|vG|vM|vL|vLi|vR|qn|qt=>(show _=_;k_is)
  case fC|fVC|fDC|fBC=>
   refine' ⟨?_,?_,?_,?_,?_,?_,?_,?_,?_,?_,?_,?_,?_,?_⟩<;>k_is
  case nC_numbers|nC_firsts|nC_rule|nVC_own_kind|nVC_bits|nDC_steps|nDC_waiting|nDC_wants_part|nBC_own_kind|nBC_entries|nBC_deeds=>(show _=_;k_is)
  case xm|xc0|xc1|xc2|xc3=>kernel_rfl
  case y5|y6|y10=>
   exact⟨⟨qd,qd,qd,qd,qd,qd,qd,qd,qd,qd⟩,qd,qd,qd⟩
  case y1|y2=>
   exact⟨⟨qd,qd,qd,qd,qd,qd,qd,qd,qd,qd⟩,qd,qd,qd,qd,qd,qd⟩
  case xmg|xmr|xmf=>kernel_rfl
  case rL|z_len|z_isinstance|z_max|z_min|z_range|z_list|z_tuple|z_sorted|z_sum|z_all|z_enumerate|z_int|z_bool|z_str|z_dict|vBD|vJN|vLB|jL|ast|lst|cst|kst|k2l=>(show _=_;k_is)
  case k2e=>simp
  case k2n|vLN=>(show _=_;k_is)





