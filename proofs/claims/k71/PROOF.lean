import PyProof.Rows.All
import KE.KDictOf
import KE.KLam
import KE.KEqSeq
import Wide.All
import KE.KRevSl
import KE.KIntText
import KE.KIsAll
import KE.KMinKey
import KE.KItemsList
import KE.KPairComp
import KE.KFromBytes
import PySem.Challenge.RW_markworks_k71_books_refused
set_option genSizeOf false
set_option Elab.async false
set_option linter.all false
set_option maxRecDepth 100000
set_option maxHeartbeats 4000000
open Option renaming some→U,some→eq,none→J,none→f8
open Bool renaming true→L,true→gl,false→O,false→gt
open Array renaming getElem?_eq_some_iff→z9
open List renaming getElem?_eq_some_iff→z8,getElem?_eq_getElem→z7,mem_append_right→zR,mem_cons_of_mem→zQ,mem_of_getElem?→zP,mem_append_left→zO,filterMap_cons→zL,mem_cons_self→zH,length_append→zG,mem_singleton→zF,getElem?_map→zy,take_add_one→zx,take_length→zu,length_take→zt,lookup_cons→zr,map_append→zm,append_nil→zl,nodup_cons→zj,mem_map→zi
open Option renaming map_eq_some_iff→z6
open PySem renaming lookup_relabel_local→z5,wpAny_isSubtype_exc→z4,wpAny_Call_Name_kw→z0,wpAny_truthy_bool→zX,wpAny_loadPart_at→zW,wpAny_holding→zJ,wpAny_standAt→zI,wpAny_bind→zp,wpAny_pure→zo,wpAny_mono→zn
open Nat renaming lt_of_lt_of_le→zZ,lt_irrefl→zE,ne_of_lt→zw,le_refl→zq
open Int renaming natCast_nonneg→zY
open PySem.Heap renaming get?_push_of_some→zV,get?_update_other→zU,get?_update_self→zS,get?_push_size→zM
section
set_option hygiene false
local macro_rules
|`(($a,($b)))=>`(Prod.mk $a $b)
|`(($a,$b,($c)))=>`(Prod.mk $a (Prod.mk $b $c))
|`(($a,$b,$c,($d)))=>`(Prod.mk $a (Prod.mk $b (Prod.mk $c $d)))
|`(($a,$b,*))=>`(⟨$a,$b,*⟩)
noncomputable section
abbrev jt:String:="self"
abbrev ju:String:="_law_book_here"
abbrev jv:String:="_law_dice"
abbrev jw:String:="object.__class__"
abbrev jx:String:="name"
abbrev jy:String:="<lambda>"
abbrev jz:String:="thing"
abbrev jA:String:="BaseException.__getattribute__"
abbrev jB:String:="_law_told"
abbrev jC:String:="number"
abbrev jD:String:="BadName"
abbrev jE:String:="refused"
abbrev jF:String:="__init__"
abbrev jG:String:="_law_name"
abbrev jH:String:="list"
abbrev jI:String:="getset_descriptor.__get__"
abbrev jJ:String:="kind"
abbrev jK:String:="ValueError"
abbrev jM:String:="_law_number"
abbrev jN:String:="tuple"
abbrev jO:String:="numbers"
abbrev jP:String:="_law_script"
abbrev jQ:String:="_law_reckoning"
abbrev jR:String:="isinstance"
abbrev jS:String:="_law_table"
abbrev jU:String:="object.__setattr__"
abbrev jV:String:="_law_deed"
abbrev jW:String:="_law_due"
abbrev jX:String:="own_kind"
abbrev jY:String:="_law_e"
abbrev jZ:String:="names"
abbrev j5:String:="_law_most"
abbrev j6:String:="_law_many"
abbrev j7:String:="_law_roll"
abbrev j8:String:="__name__"
abbrev j9:String:="lettered"
abbrev kf:String:="other"
abbrev kg:String:="dict"
abbrev kh:String:="_law_bad"
abbrev ki:String:="BaseException"
abbrev kj:String:="BadNumber"
abbrev ko:String:="_law_step"
abbrev kr:String:="_law_tree_here"
abbrev ku:String:="text"
abbrev ky:String:="_law_written"
abbrev kz:String:="BadText"
abbrev kA:String:="_law_names_here"
abbrev kB:String:="object.__ne__"
abbrev kG:String:="_law_way"
abbrev kH:String:="bits"
abbrev kJ:String:="_law_word"
abbrev kK:String:="BadRest"
abbrev kQ:String:="__getattribute__"
abbrev kX:String:="set_iterator"
abbrev kY:String:="known"
abbrev kZ:String:="_law_words"
abbrev k4:String:="MarkError.__init__"
abbrev lh:String:="__setattr__"
abbrev lj:String:="_law_tables"
abbrev ll:String:="steps"
abbrev lp:String:="keep"
abbrev lq:String:="set-order"
abbrev lr:String:="is_one_of"
abbrev lx:String:="_law_tree"
abbrev ly:String:="_law_come"
abbrev lA:String:="steps_of"
abbrev lB:String:="type.__call__"
abbrev lC:String:="object"
abbrev lG:String:="Nothing"
abbrev lH:String:="entries"
abbrev lI:String:="value"
abbrev lJ:String:="is_whole"
abbrev lK:String:="firsts"
abbrev lL:String:="is_number"
abbrev lM:String:="value_of"
abbrev lN:String:="ahead"
abbrev lO:String:="_law_cell_here"
abbrev lP:String:="table"
abbrev lQ:String:="_law_table_of"
abbrev lR:String:="rest"
abbrev lS:String:="sign"
abbrev lT:String:="enumerate"
abbrev lU:String:="__class__"
abbrev lV:String:="traceback"
abbrev lW:String:="type.__getattribute__"
abbrev lX:String:="set_iterator.__next__"
abbrev lY:String:="set_iterator.__iter__"
abbrev lZ:String:="is_letter"
abbrev l7:String:="one"
abbrev ma:String:="_law_found"
abbrev md:String:="wants_part"
abbrev me:String:="_law_letters_to"
abbrev mf:String:="is_book_name"
abbrev mh:String:="__get__"
abbrev mi:String:="_law_book_like"
abbrev mj:String:="range"
abbrev mm:String:="leave"
abbrev mn:String:="set.scan.the-table-gave-way"
abbrev mq:String:="_law_k"
abbrev mr:String:="list_iterator"
abbrev mu:String:="rows"
abbrev mv:String:="Kind.__init__"
abbrev mw:String:="method_descriptor"
abbrev mx:String:="bar"
abbrev my:String:="_law_drawn"
abbrev mG:String:="_law_signs"
abbrev mH:String:="waiting"
abbrev mQ:String:="str"
abbrev mU:String:="function"
abbrev mY:String:="union_of"
abbrev mZ:String:="thing_number"
abbrev m6:String:="_law_rule_of"
abbrev m7:String:="_law_bits_of"
abbrev m8:String:="reckoned"
abbrev m9:String:="_law_formula"
abbrev nh:String:="_law_numbers"
abbrev ni:String:="_law_word_of"
abbrev nj:String:="same_kind"
abbrev nk:String:="_law_give"
abbrev nq:String:="law"
abbrev nr:String:="abcdefghi"
abbrev nv:String:="is_names_of"
abbrev ny:String:="first_names"
abbrev nz:String:="_law_rounds"
abbrev nA:String:="part_number"
abbrev nC:String:="value_alone"
abbrev nG:String:="sorted"
abbrev nH:String:="is_name"
abbrev nI:String:="rest_of"
abbrev nM:String:="binding"
abbrev nO:String:="letter"
abbrev nQ:String:="row_number"
abbrev nT:String:="_law_lines"
abbrev nU:String:="_law_known"
abbrev nV:String:="words"
abbrev nY:String:="is_figures"
abbrev nZ:String:="letters_in"
abbrev n6:String:="_law_names"
abbrev n8:String:="__classdict__"
abbrev oa:String:="int"
abbrev og:String:="LEAST_BINDING"
abbrev oh:String:="__ne__"
abbrev oj:String:="__eq__"
abbrev om:String:="next_mark"
abbrev oo:String:="drop"
abbrev oq:String:="_law_cell"
abbrev ot:String:="_law_made"
abbrev ou:String:="number_of"
abbrev ow:String:="_law_text"
abbrev ox:String:="_law_book"
abbrev oy:String:="default"
abbrev oz:String:="__len__"
abbrev oA:String:="deeds"
abbrev oB:String:="changes"
abbrev oE:String:="max"
abbrev oG:String:="type"
abbrev oH:String:="part"
abbrev oI:String:="set"
abbrev js:=PySem.Shared
abbrev jr:=PySem.Addr
abbrev jo:=List PySem.Value
abbrev jm:=List PySem.Str
def zd{b:Sort _}{a:b}:a=a:=rfl
def Y{α:Sort _}{a:α}:a=a:=rfl
abbrev zT:=@of_decide_eq_true
abbrev zN:=@decide_eq_false
abbrev zK:=@decide_eq_true
abbrev zh:=@if_neg
abbrev zg:=@if_pos
def qb{p:Prop}(h:p:=by decide +kernel):p:=h
def qc{p:Prop}(h:p:=by decide):p:=h
def qe{p:Prop}(h:p:=by omega):p:=h
def qd{α:Sort _}{a b:α}(h:a=b:=by kernel_rfl):a=b:=h
def AO{b:Type u}{d:Type v}{a:List b}(f:b->d):(a.map f).length=a.length:=List.length_map f
abbrev Aa:=List (PySem.Str×Nat)
abbrev VS:=PySem.Value->PySem.Shared->Prop
abbrev LO:=List (PySem.Addr×PySem.Obj)
abbrev SV:=PySem.Str->Option PySem.Value
open PySem in
abbrev FG:=W.Frag
open PySem.F hiding entry_list_append entry_list_sort fills_int_mul slot_dict_getitem slot_int_bit_length slot_list_append slot_list_getitem slot_list_sort slot_str_getitem slot_tuple_getitem type_int_bit_length type_list_append
open List (all_eq_true all_map any_cons any_eq_true any_map append_inj' append_nil cons_lt_cons_iff contains_cons filterMap_cons filter_cons foldl_cons getElem?_map length_append length_cons length_filter_le length_nil length_replicate length_take lookup_cons map_append map_cons map_map mem_append mem_append_left mem_append_right mem_cons mem_cons_of_mem mem_cons_self mem_filter mem_map mem_of_getElem? mem_range mem_replicate mem_singleton nil_append nodup_cons nodup_nil not_mem_nil of_mem_zip pairwise_cons pairwise_map size_toArray sum_append sum_cons take_add_one take_length take_of_length_le)
open PySem.Heap (get?_push_of_some get?_push_size get?_update_other get?_update_self lt_size)
namespace L2
open PySem
def sl1:1<=sizeLine:=by decide
def fb:2<=sizeLine:=by decide
def iu:3<=sizeLine:=by decide
def sl4:4<=sizeLine:=by decide
end L2
namespace L2
open PySem PySem.Spec PyProof.Rows
abbrev Key:=Sum Int Str
noncomputable def KM:Key->Value->Bool
 |.inl k,v=>Value.isInt k v
 |.inr x,v=>Value.isStrOf x v
noncomputable def Zm(w:World):Key->Int
 |.inl k=>hashInt k
 |.inr x=>hashStr w x
def BE:∀{k}{v},KM k v=L->(∃i t,k=Sum.inl i/\v=Value.int i t)\/(∃x t,k=Sum.inr x/\v=Value.str x t)
 |.inl i,v,h=>by
  obtain⟨t,e⟩:=Value.isInt_shape h
  simp_all
 |.inr x,v,h=>by
  obtain⟨t,e⟩:=Value.isStrOf_shape h
  simp_all
def Qg(i)(t):KM (.inl i) (.int i t)=L:=by simp[KM,Value.isInt]
def Qh(x)(t):KM (.inr x) (.str x t)=L:=by simp[KM,Value.isStrOf]
def Wg(a b):decide ((Sum.inl a:Key)=Sum.inl b)=(a==b):=by
 grind
def Wh(a b):decide ((Sum.inr a:Key)=Sum.inr b)=decide (a=b):=by
 simp_all
def Wi(a)(b):decide ((Sum.inl a:Key)=Sum.inr b)=O:=zN (λq=>nomatch q)
def Wj(a)(b):decide ((Sum.inr a:Key)=Sum.inl b)=O:=zN (λq=>nomatch q)
def Ac(c:Program)(w:World):PySem.KeyKind c w Key where
 is:=KM
 hash:=Zm w
 inj:=λv a b l f=>by
  rcases BE l with⟨i,t,rfl,rfl⟩|⟨x,t,rfl,rfl⟩
  .rcases BE f with⟨j,u,rfl,e⟩|⟨y,u,rfl,e⟩
   .simp_all
   trivial
  .rcases BE f with⟨j,u,rfl,e⟩|⟨y,u,rfl,e⟩
   .trivial
   simp_all
 byValue:=λk v h=>by
  rcases BE h with⟨i,t,rfl,rfl⟩|⟨x,t,rfl,rfl⟩<;>rfl
 pyHash:=λd h=>by
  rcases BE d with⟨i,t,rfl,rfl⟩|⟨x,t,rfl,rfl⟩
  .exact wpAny_pyHash_int h
  .exact wpAny_pyHash_str h
 eqBool:=λm d h=>by
  rcases BE m with⟨i,t,rfl,rfl⟩|⟨x,t,rfl,rfl⟩
  .rcases BE d with⟨j,u,rfl,rfl⟩|⟨y,u,rfl,rfl⟩
   .rw[Wg]at h;exact wpAny_eqBool_int h
   .rw[Wi]at h;exact SeqAt.EqAt.int_str i t y u _ _ _ _ h
  .rcases BE d with⟨j,u,rfl,rfl⟩|⟨y,u,rfl,rfl⟩
   .rw[Wj]at h;exact SeqAt.EqAt.str_int x t j u _ _ _ _ h
   .rw[Wh]at h;exact wpAny_eqBool_str h
 «strs»:=λk x t v h=>by
  rcases BE h with⟨i,u,rfl,e⟩|⟨y,u,rfl,e⟩
  .trivial
  .injection e with g _
   subst g;cases v<;>rfl
def MW(a)(w)(i)(t):(Ac a w).is (.inl i) (.int i t)=L:=Qg i t
def Em(a)(w)(x)(t):(Ac a w).is (.inr x) (.str x t)=L:=Qh x t
inductive V where
 |bQ|bl (b:Bool)|int (i:Int)|str (x:Str)|hE (b:Array UInt8)|jd (b:UInt64)|ref (a:jr)|ty (n:String)
 deriving DecidableEq
abbrev _root_.jq:=List V
def RelV:V->Value->Prop
 |.bQ,u=>u=Value.none
 |.bl b,u=>u=Value.bool b
 |.int i,u=>∃t,u=Value.int i t
 |.str x,u=>∃t,u=Value.str x t
 |.hE b,u=>∃t,u=Value.bytes b t
 |.jd b,u=>∃t,u=Value.float b t
 |.ref a,u=>u=Value.ref a
 |.ty n,u=>u=Value.type n
abbrev Vals:jq->jo->Prop:=Paired RelV
def Vals.length(r:Vals b a):b.length=a.length:=Paired.length r
theorem Vals.get:∀{b}{a}{i:Nat}{x},Vals b a->b[i]?=U x->∃u,a[i]?=U u/\RelV x u
 |_,_,_,_,.nil,e=>by simp at e
 |_,_,0,_,.cons r _,e=>by simp_all
 |_,_,i+1,x,.cons _ t,e=>by
  obtain⟨u,d,h⟩:=Vals.get t (by trivial)
  simp_all
theorem Vals.set(r:RelV x u):∀{b}{a}i,Vals b a->Vals (b.set i x) (a.set i u)
 |_,_,_,.nil=>.nil
 |_,_,0,.cons _ t=>.cons r t
 |_,_,i+1,.cons q t=>.cons q (Vals.set r i t)
theorem Vals.append:∀{b c}{a d},Vals b a->Vals c d->Vals (b++c) (a++d)
 |_,_,_,_,.nil,s=>s
 |_,_,_,_,.cons r t,s=>.cons r (Vals.append t s)
def eJ:Option V->Option Value->Prop
 |some v,U u=>RelV v u
 |none,J=>True
 |_,_=>False
def KV{a:Type}:List (a×V)->List (a×Value)->Prop:=Paired λp q=>p.1=q.1/\RelV p.2 q.2
noncomputable def kV:Key->V
 |.inl i=>.int i
 |.inr x=>.str x
abbrev LK:=List (Key×V)
inductive HO where
 |lst(b:jq)
 |tup(b:jq)
 |dK(a:LK) |dT (a:List (List Key×V))
 |set(S:Int->Bool)(n:Nat)
 |ins(C c:jr)(fs:List (Str×V))
 |own(x:jr)
 |xd(fs:List (Str×V))
 |met(f x:jr)
 |rng(lo d:Int)
 |dz(o:Obj)(u:HO)
 |fJ(e:Array Value)
 |ext(φ:Heap->Prop)
set_option genInjectivity false
abbrev Hp:=jr->Option HO
noncomputable def upd(H:Hp)(a:jr)(o:HO):Hp:=λb=>if b=a then U o else H b
def bA:upd H a o a=U o:=by unfold upd;simp
def AE(h:b≠a):upd H a o b=H b:=by unfold upd;simp_all
def Uf:upd (upd H a o) a u=upd H a u:=by
 funext b;unfold upd;simp_all
def PY{H:Hp}(h:H a=U o)(c:H b=U u)(d:o≠u):a≠b:=by
 lia
def AK{H:Hp}(h:H a=U o)(c:H b=J):a≠b:=by
 lia
section
variable (P:Program) (w:World)
def df(H:Hp)(h:Heap)(a:jr):HO->Prop
 |.lst b=>b.length<=sizeLine/\∃(d:jo)(n:Nat),Vals b d/\h.get? a=U {cls:=.type jH,data:=.seq d.toArray n}
 |.tup b=>b.length<=sizeLine/\∃d,Vals b d/\IsTup h a d.toArray
 |.dK e=>e.length<=sizeLine/\(a==sysModules)=O/\∃r,KV e r/\h.DictOf (Ac P w) a r
 |.dT e=>e.length<=sizeLine/\(a==sysModules)=O/\∃b,
   Paired (λp q=>p.1=q.1/\H q.2.1=U (.tup (p.1.map kV))/\RelV p.2 q.2.2) e b /\
   ∃o j ep,h.get? a=U o/\o.ExactDict/\o.data=.dict j ep/\j.toList=b.map (entryOfKey (tupleKind (Ac P w)))/\(b.map (·.1)).Nodup
 |.set S n=>h.SetOf (intKind P w) a S n
 |.ins C g fs=>H g=U (.own a)/\fs.length<=1000/\g≠a/\h.get? a=U (W.instObj C g) /\
   ∃c,h.Ns1 g c/\(∀f,eJ (fs.lookup f) (c f))/\PySem.Within c (fs.map (·.1))
 |.own _=>∃o,h.get? a=U o
 |.xd fs=>∃c,h.Ns1 a c/\∀f,eJ (fs.lookup f) (c f)
 |.rng lo s=>∃t u v,h.get? a=U {cls:=.type mj,data:=.fields #[.int lo t,.int s u,.int 1 v]}
 |.dz o u=>h.get? a=U o/\df H h a u
 |.fJ y=>h.get? a=U {cls:=.none,data:=.fields y}
 |.met f x=>h.get? a=U (W.methodObj (.ref f) (.ref x))
 |.ext i=>i h/\(∃o,h.get? a=U o)/\∀l m,i l->(∀o,l.get? a=U o->m.get? a=U o)->i m
def eA(H:Hp)(h:Heap):Prop:=∀a o,H a=U o->df P w H h a o
end
def df.lt(x:df P w H h a o):a<h.objs.size:=by
 cases o with
 |lst i=>obtain⟨_,_,_,_,e⟩:=x;exact lt_size e
 |tup i=>obtain⟨_,_,_,p⟩:=x;exact p.lt
 |dK d=>obtain⟨_,_,_,_,o,_,_,e,_⟩:=x;exact lt_size e
 |dT d=>obtain⟨_,_,_,_,o,_,_,e,_⟩:=x;exact lt_size e
 |set S n=>obtain⟨o,_,_,_,e,_⟩:=x;exact lt_size e
 |ins C v fs=>obtain⟨_,_,_,e,_⟩:=x;exact lt_size e
 |own y=>obtain⟨_,e⟩:=x;exact lt_size e
 |xd fs=>obtain⟨_,⟨_,_,_,e,_⟩,_⟩:=x;exact lt_size e
 |rng r l=>obtain⟨_,_,_,e⟩:=x;exact lt_size e
 |dz q u=>obtain⟨e,_⟩:=x;exact lt_size e
 |fJ j=>exact lt_size (x)
 |met f y=>exact lt_size (x)
 |ext t=>obtain⟨_,⟨_,e⟩,_⟩:=x;exact lt_size e
theorem Paired.mapP{c h}{F G}:∀{e:List c}{d:List h},Paired F e d->(∀a b,F a b->G a b)->Paired G e d
 |_,_,.nil,_=>.nil
 |_,_,.cons r t,f=>.cons (f _ _ r) (Paired.mapP t f)
def Paired.imp'{c h}{F G}(f:∀a b,F a b->G a b){e:List c}{d:List h}(r:Paired F e d):Paired G e d:=Paired.mapP r f
def df.fq(x:df P w H h a o)(k:∀b u,(b=a\/H b=U (.own a))->h.get? b=U u->m.get? b=U u)
  (G:∀b,H b=U (.own a)->s b=U (.own a)) (ht:∀b g,H b=U (.tup g)->s b=U (.tup g)):df P w s m a o:=by
 induction o with
 |lst g=>obtain⟨z,l,n,r,e⟩:=x;exact(z,l,n,r,k _ _ (.inl Y) e)
 |tup g=>obtain⟨z,l,r,i,e,c⟩:=x;exact(z,l,r,i,k _ _ (.inl Y) e,c)
 |dK A=>obtain⟨z,y,R,r,i,j,ep,e,c⟩:=x;exact(z,y,R,r,i,j,ep,k _ _ (.inl Y) e,c)
 |dT A=>
  obtain⟨z,y,g,r,i,j,ep,e,c⟩:=x;exact(z,y,g,Paired.mapP r λp q z=>(z.1,ht _ _ z.2.1,z.2.2),i,j,ep,k _ _ (.inl Y) e,c)
 |set S n=>obtain⟨i,j,ep,t,e,c⟩:=x;exact(i,j,ep,t,k _ _ (.inl Y) e,c)
 |ins C X fs=>
  obtain⟨d,z,T,e,B,⟨D,j,ep,I,c⟩,r⟩:=x;exact(G _ d,z,T,k _ _ (.inl Y) e,B,(D,j,ep,k _ _ (.inr d) I,c),r)
 |own y=>obtain⟨i,e⟩:=x;exact(i,k _ _ (.inl Y) e)
 |xd fs=>obtain⟨B,⟨D,j,ep,e,c⟩,r⟩:=x;exact(B,(D,j,ep,k _ _ (.inl Y) e,c),r)
 |rng M N=>obtain⟨t,u,v,e⟩:=x;exact(t,u,v,k _ _ (.inl Y) e)
 |dz i u F=>obtain⟨e,q⟩:=x;exact(k _ _ (.inl Y) e,F q)
 |fJ E=>
  have e:h.get? a=U {cls:=.none,data:=.fields E}:=x;show m.get? a=U {cls:=.none,data:=.fields E}
  simp_all
 |met f y=>
  have e:h.get? a=U (W.methodObj (.ref f) (.ref y)):=x;show m.get? a=U (W.methodObj (.ref f) (.ref y))
  simp_all
 |ext Q=>obtain⟨p,⟨o,e⟩,st⟩:=x;exact(st _ _ p λo q=>k _ _ (.inl Y) q,(o,k _ _ (.inl Y) e),st)
def eA.lt(x:eA P w H h)(e:H a=U o):a<h.objs.size:=(x a o e).lt
def eA.fresh(x:eA P w H h)(e:h.objs.size<=a):H a=J:=by
 cases q:H a with
 |none=>rfl
 |some u=>exact absurd (zZ (x.lt q) e) (zE _)
def eA.kept(x:eA P w H h)(k:∀b u,h.get? b=U u->h'.get? b=U u):eA P w H h':=λa o e=>
 (x a o e).fq (λb u _ q=>k b u q) (λ_ q=>q) λ_ _ q=>q
def eA.laid(x:eA P w H h)(k:∀b u,h.get? b=U u->f.get? b=U u)(j:h.objs.size<=a)(new:df P w (upd H a o) f a o):eA P w (upd H a o) f:=λb u e=>by
 have i:=x.fresh j;by_cases d:b=a
 .subst d;rw[bA]at e;cases e;exact new
 .rw[AE d]at e;exact(x b u e).fq (λc v _ q=>k c v q) (λc q=>by rwa[AE (AK q i)]) λc l q=>by rwa[AE (AK q i)]
def Rd(H:Hp)(a:jr)(u:HO):Prop:=H a=U u\/∃o,H a=U (.dz o u)
def Rd.ok(r:Rd H a u)(x:eA P w H h):df P w H h a u:=by
 rcases r with r|⟨o,r⟩
 .exact x a u r
 .obtain⟨_,q⟩:=x a _ r;exact q
def Mut:Option HO->Prop
 |some (.lst _)=>True
 |some (.dK _)=>True
 |some (.dT _)=>True
 |some (.set _ _)=>True
 |some (.ins _ _ _)=>True
 |some (.ext _)=>True
 |_=>False
def eA.write(ok:eA P w H h)(l:Mut (H x))(B:e=x\/H e=U (.own x))(k:∀b u,b≠e->h.get? b=U u->f.get? b=U u)(j:∃u,f.get? e=U u)
  (new:df P w (upd H x p) f x p):eA P w (upd H x p) f:=λb u q=>by
 have a:∀c y,H c=U (.own y)->c≠x:=λc y r z=>by subst z;rwa[r]at l
 have d:∀c i,H c=U (.tup i)->c≠x:=λc i r z=>by subst z;rwa[r]at l
 by_cases o:b=x
 .subst o;rw[bA]at q;cases q;exact new
 .rw[AE o]at q;by_cases A:b=e
  .have t:H b=U (.own x):=by
    rcases B with z|z
    .simp_all
    .simp_all
   rw[q]at t;cases t;obtain⟨v,D⟩:=j;exact(v,by simp_all)
  .refine(ok b u q).fq (λc v C r=>k c v ?_ r) (λc r=>by rwa[AE (a c b r)]) λc i r=>by rwa[AE (d c i r)]
   grind
structure Un(fs ex:List jr)(H H':Hp)(h h':Heap):Prop where
 keep:∀b o,h.get? b=U o->H b=J->b∉ fs->b∉ ex->h'.get? b=U o
 slot:∀b o,h.get? b=U o->H b=J->b∈fs->b∉ ex->∃sl,h'.get? b=U {o with slots:=sl}
 free:∀b o,h.get? b=U o->H b=J->b∉ ex->H' b=J
 there:∀b o,h.get? b=U o->b∉ ex->∃a,h'.get? b=U a
 fm:∀b xs,H b=U (.tup xs)->H' b=U (.tup xs)
 fc:∀b o u,H b=U (.dz o u)->H' b=U (.dz o u)
 fh:∀b ps,H b=U (.fJ ps)->∃more,H' b=U (.fJ (ps++more))
def Un.any(u:Un fs c H g h f)(q:h.get? b=U a)(n:H b=J)(e:b∉ c):∃sl,f.get? b=U {a with slots:=sl}:=by
 by_cases d:b∈fs
 .exact u.slot b a q n d e
 .exact(a.slots,u.keep b a q n d e)
def Un.kept(k:∀b u,h.get? b=U u->h'.get? b=U u):Un fs c H H h h':=
 (λb a q _ _ _=>k b a q,λb a q _ _ _=>(a.slots,k b a q),λ_ _ _ n _=>n,λb a q _=>(a,k b a q),λ_ _ q=>q,λ_ _ _ q=>q,λ_ d q=>(#[],by trivial))
def Un.refl:Un fs a H H h h:=Un.kept λ_ _ q=>q
def Un.laid(k:∀b u,h.get? b=U u->c.get? b=U u)(e:h.objs.size<=a)(d:H a=J):Un fs f H (upd H a o) h c where
 keep:=λb u q _ _ _=>k b u q
 slot:=λb u q _ _ _=>(u.slots,k b u q)
 free:=λb u q n _=>by rwa[AE (zw (zZ (lt_size q) e))]
 there:=λb u q _=>(u,k b u q)
 fm:=λb i q=>by rwa[AE (AK q d)]
 fc:=λb u i q=>by rwa[AE (AK q d)]
 fh:=λb j q=>(#[],by rw[AE (AK q d),q];simp)
def Un.write(i:Mut (H x))(t:e=x\/H e=U (.own x))(k:∀b u,b≠e->h.get? b=U u->c.get? b=U u)(l:∃u,c.get? e=U u):Un fs f H (upd H x o) h c:=by
 have j:∀b,H b=J->b≠x:=λb n z=>by subst z;rwa[n]at i
 have d:∀b,H b=J->b≠e:=λb n z=>by
  simp_all
 have a:∀b u,H b=U u->¬ Mut (U u)->b≠x:=λb u q v z=>by simp_all
 refine(λb u q n _ _=>k b u (d b n) q,λb u q n _ _=>(u.slots,k b u (d b n) q),λb u q n _=>by rw[AE (j b n)];exact n,λb u q _=>?_,
  λb p q=>by rw[AE (a b _ q λz=>z)];exact q,λb u p q=>by rw[AE (a b _ q λz=>z)];exact q,λb r q=>(#[],by rw[AE (a b _ q λz=>z),q];simp))
 grind
noncomputable def trk(h:Heap)(H:Hp):List jr:=(List.range h.objs.size).filter λa=>(H a).isSome
def LI(h:Heap)(H:Hp):Heap:=W.hideAll h (trk h H)
def Qi(h)(H):(LI h H).objs.size=h.objs.size:=W.hideAll_size _ _
def R6(e:h.get? b=U o)(n:H b=J):(LI h H).get? b=U o:=
 W.hideAll_get _ e λa=>by
  have q:=(mem_filter.mp a).2;rw[n]at q;simp at q
def Ug(e:(LI h H).get? b=U o):h.get? b=U o/\H b=J:=by
 have a:=W.of_hideAll (trk h H) e;refine(a,?_);cases q:H b with
 |none=>rfl
 |some x=>
  have z:(LI h H).get? b=J:=W.hideAll_none (trk h H) (mem_filter.mpr (mem_range.mpr (lt_size a),by simp[q]));rw[z]at e;cases e
structure Mod(K:FG)(mg:SV)(base:Heap):Prop where
 kin:K.In base
 glob:base.Ns mainGlobals mg
 blt:∃mb,base.Ns builtinsNs mb/\∀x:Str,x≠ j8 -> mb x=bootBuiltins x
 nolimit:base.NoLimit
structure Cx where
 prog:Program
 w:World
 K:FG
 mg:Str->Option Value
 base:Heap
 A:Around
 N:jm
 cG:js
 eR:Hp
 env:Env
 outer:List Env
 stack:List Env
 ex:List jr
 fn:Str->Bool
 calm:Bool
 pn:LO
 xe:Value->js->Prop
noncomputable def dj(l:List Env):List jr:=l.filterMap (·.frame)
abbrev Cx.fs(X:Cx):List jr:=dj X.outer
def Vis(a:Scope)(x:Str):Prop:=a.names.lookup x=U .local\/a.names.lookup x=U .cell\/a.names.lookup x=U .free
def Loc(a:Scope)(x:Str):Prop:=a.names.lookup x=U .local\/a.names.lookup x=U .cell
def Zn(a:Env)(h:Heap)(m:SV)(x:Str)(u:Value):Prop:=
 (a.kindOf x=U .local/\m x=U u)\/((a.kindOf x=U .cell\/a.kindOf x=U .free)/\∃c,a.cells.lookup x=U c/\h.IsCell c (U u))
structure Cx.Ok(X:Cx):Prop where
 mod:Mod X.K X.mg X.base
 kind:X.env.scope.kind=.function
 glob:X.env.globals=mainGlobals
 blt:X.env.builtins=builtinsNs
 above:X.cG.heap.objs.size<=X.env.locals
 inj:∀x y c,X.env.cells.lookup x=U c->X.env.cells.lookup y=U c->x=y
 has:∀x,(X.env.kindOf x=U .cell\/X.env.kindOf x=U .free)->∃c,X.env.cells.lookup x=U c
 ik:∀x c,X.fn x=L->X.env.cells.lookup x=U c->X.cG.heap.objs.size<=c
 hd:X.calm=L->X.A.handled=J
 frames:X.A.frames=U X.stack
 fV:X.stack=X.outer\/(X.stack=X.env::X.outer/\X.env.frame=U X.env.locals)
 exf:∀b∈X.ex,b≠X.env.locals/\∀x c,X.env.cells.lookup x=U c->c≠b
 bs:∀b o,X.base.get? b=U o->X.cG.heap.get? b=U o/\X.eR b=J
 gA:X.base.objs.size<=X.cG.heap.objs.size
 gc:∀b o,X.base.get? b=U o->b∉ X.ex
 gd:∀b∈X.ex,b∉ X.fs
 d7:X.cG.heap.FunFrames X.base X.outer
 gP:∀b∈X.fs,X.eR b=J
structure Inv(X:Cx)(ba:LO)(σ:List (Option V))(H:Hp)(s:js):Prop where
 ok:X.Ok
 os:s.os=X.cG.os
 bare:AllBare s.gens
 base:Un X.fs X.ex X.eR H X.cG.heap s.heap
 loc:∃m,s.heap.Ns X.env.locals m/\∀(i:Nat)x v,X.N[i]?=U x->σ[i]?=U (U v)->Vis X.env.scope x->∃u,RelV v u/\Zn X.env s.heap m x u
 cell:∀x c,X.env.cells.lookup x=U c->∃v,s.heap.IsCell c v
 free:H X.env.locals=J
 dG:∀x c,X.env.cells.lookup x=U c->H c=J
 pin:∀p∈X.pn++ba,s.heap.get? p.1=U p.2/\H p.1=J/\p.1≠X.env.locals/\p.1∉ X.fs/\∀v,p.2.data≠ .cell v
 cy:eA X.prog X.w H s.heap
 len:σ.length=X.N.length
def Cx.Ok.nofr{X:Cx}(ok:X.Ok)(e:X.base.get? b=U o):b∉ X.fs:=λa=>by
 have:=(ok.d7.mem a).1;rw[e]at this;cases this
def Inv.bs(I:Inv X a c H s):∀b o,X.base.get? b=U o->s.heap.get? b=U o/\H b=J:=λb o e=>
 (I.base.keep b o (I.ok.bs b o e).1 (I.ok.bs b o e).2 (I.ok.nofr e) (I.ok.gc b o e),I.base.free b o (I.ok.bs b o e).1 (I.ok.bs b o e).2 (I.ok.gc b o e))
def Inv.bk{X}{s}(I:Inv X a c H s):∀b o,X.base.get? b=U o->s.heap.get? b=U o:=λb o e=>(I.bs b o e).1
def Inv.mod(I:Inv X a b H s):Mod X.K X.mg X.base:=I.ok.mod
def Inv.dZ(I:Inv X a b H s):X.K.In s.heap:=I.ok.mod.kin.keeps I.bk
def Inv.fr(I:Inv X b c H s):∃m,Fr X.base X.env.locals s.heap m:=
 let ⟨m,a,_⟩:=I.loc
 (m,a,I.bk,Nat.le_trans I.ok.gA I.ok.above)
def Inv.lt(I:Inv X b c H s):X.env.locals<s.heap.objs.size:=let ⟨_,a,_⟩:=I.loc;a.lt
def Inv.sz(I:Inv X a b H s):X.cG.heap.objs.size<=s.heap.objs.size:=Nat.le_trans I.ok.above (Nat.le_of_lt I.lt)
def Inv.nofs(I:Inv X b c H s)(h:s.heap.objs.size<=a):a∉ X.fs:=λe=>by
 obtain⟨_,o,d,_⟩:=I.ok.d7.mem e;exact absurd (zZ (lt_size d) (Nat.le_trans I.sz h)) (zE _)
def Inv.iD(I:Inv X b f H s):∀x c,X.env.cells.lookup x=U c->c≠X.env.locals:=λx c e z=>by
 obtain⟨v,o,h,i⟩:=I.cell x c e;obtain⟨m,⟨l,j,ep,a,d,_⟩,_⟩:=I.loc
 simp_all
def Inv.d7(I:Inv X c f H s):s.heap.FunFrames X.base X.outer:=by
 have all:∀l,(∀b∈dj l,b∈X.fs)->X.cG.heap.FunFrames X.base l->s.heap.FunFrames X.base l:=by
  intro l;induction l with
  |nil=>intro _ _;trivial
  |cons u r v=>
   rintro i ⟨q,⟨g,o,h,x,p,j⟩,t⟩;have d:=i g (by unfold dj;simp_all);obtain⟨sl,e⟩:=I.base.slot g o p (I.ok.gP g d) d λz=>I.ok.gd g z d;exact(q,(g,_,h,x,e,j),v (λb a=>i b (by unfold dj;rw[zL,h];exact zQ _ a)) t)
 exact all X.outer (λ_ a=>a) I.ok.d7
def Inv.stack(I:Inv X b c H s):s.heap.FunFrames X.base X.stack:=by
 rcases I.ok.fV with e|⟨e,a⟩
 .rw[e];exact I.d7
 .rw[e];obtain⟨m,d,_⟩:=I.loc;exact .cons (by rw[I.ok.kind];decide) a d (Heap.get?_none_of_le (Nat.le_trans I.ok.gA I.ok.above)) I.d7
def Inv.eV(I:Inv X c f H s):∀b∈dj X.stack,b∈X.env.locals::X.fs:=λb a=>by
 rcases I.ok.fV with e|⟨e,d⟩
 .simp_all
 .rw[e]at a;unfold dj at a
  rwa[zL,d]at a
def Inv.stkFree(I:Inv X c f H s):∀b∈dj X.stack,H b=J:=λb a=>by
 rcases mem_cons.mp (I.eV b a)with e|a
 .rw[e];exact I.free
 .obtain⟨_,o,d,_⟩:=I.ok.d7.mem a;exact I.base.free b o d (I.ok.gP b a) λz=>I.ok.gd b z a
def Inv.step{i}{H F}{s}{f}{T}{t'}{q}{ch:List jr}(I:Inv X t i H s)
  (j:∀b∈ch,(b∈X.ex\/X.cG.heap.objs.size<=b)/\b≠X.env.locals/\(∀x c,X.env.cells.lookup x=U c->c≠b)/\∀p∈X.pn++t,p.1≠b)
  (keep:∀b o,b≠X.env.locals->b∉ X.fs->b∉ ch->s.heap.get? b=U o->H b=J->f.get? b=U o)
  (y:∀b o,b≠X.env.locals->b∈X.fs->b∉ ch->s.heap.get? b=U o->H b=J->∃sl,f.get? b=U {o with slots:=sl}) (h:∀b o,b∉ ch->s.heap.get? b=U o->H b=J->F b=J)
  (ar:∀b o,b∉ ch->s.heap.get? b=U o->∃N,f.get? b=U N)
  (M:∀b d,H b=U (.tup d)->F b=U (.tup d)) (G:∀b o u,H b=U (.dz o u)->F b=U (.dz o u)) (as:∀b g,H b=U (.fJ g)->∃more,F b=U (.fJ (g++more)))
  (ns:∀m,s.heap.Ns X.env.locals m->f.Ns X.env.locals m) (S:eA X.prog X.w F f) (r:AllBare T):
  Inv X t i F {s with heap:=f,gens:=T,drawn:=q,toks:=t'}:=by
 have P:∀b o,X.cG.heap.get? b=U o->b≠X.env.locals:=λb o e=>zw (zZ (lt_size e) I.ok.above)
 have C:∀b o,X.cG.heap.get? b=U o->b∉ X.ex->b∉ ch:=λb o e a A=>by
  rcases (j b A).1 with z|z
  .exact a z
  .exact absurd (zZ (lt_size e) z) (zE _)
 have B:∀x c,X.env.cells.lookup x=U c->∀v,s.heap.IsCell c v->f.IsCell c v:=λx c e v ⟨o,E,R⟩=>by
  have w:=λz=>(j c z).2.2.1 x c e rfl;by_cases Q:c∈X.fs
  .obtain⟨sl,al⟩:=y c o (I.iD x c e) Q w E (I.dG x c e);exact(_,al,R)
  .exact(o,keep c o (I.iD x c e) Q w E (I.dG x c e),R)
 refine(I.ok,I.os,r,(λb o e n A a=>?_,λb o e n A a=>?_,λb o e n a=>?_,λb o e a=>?_,λb d e=>M b d (I.base.fm b d e),λb o d e=>G b o d (I.base.fc b o d e),λb g e=>?_),?_,λx c e=>?_,?_,λx c e=>?_,λp hp=>?_,S,I.len)
 .exact keep b o (P b o e) A (C b o e a) (I.base.keep b o e n A a) (I.base.free b o e n a)
 .obtain⟨sl,D⟩:=I.base.slot b o e n A a;obtain⟨aC,ab⟩:=y b _ (P b o e) A (C b o e a) D (I.base.free b o e n a)
  simp_all
 .obtain⟨N,D⟩:=I.base.there b o e a;exact h b N (C b o e a) D (I.base.free b o e n a)
 .obtain⟨N,D⟩:=I.base.there b o e a
  simp_all
 .obtain⟨m1,D⟩:=I.base.fh b g e
  grind
 .obtain⟨m,hn,hl⟩:=I.loc;refine(m,ns m hn,λag x v D ab e3=>?_);obtain⟨u,an,l⟩:=hl ag x v D ab e3;refine(u,an,?_);rcases l with l|⟨k,c,e,z⟩
  .exact .inl l
  .exact .inr (k,c,e,B x c e _ z)
 .obtain⟨v,z⟩:=I.cell x c e
  grind
 .obtain⟨m,⟨o,_,_,E,_⟩,_⟩:=I.loc;exact h _ o (λz=>(j _ z).2.1 Y) E I.free
 .obtain⟨v,o,E,R⟩:=I.cell x c e;exact h c o (λz=>(j c z).2.2.1 x c e Y) E (I.dG x c e)
 .obtain⟨e,n,ne,nf,az⟩:=I.pin p hp
  grind
def Inv.un(I:Inv X g w H s)(u:Un X.fs [] H c s.heap f)(j:eA X.prog X.w c f):Inv X g w c {s with heap:=f,toks:=t'}:=by
 obtain⟨m,⟨o,v,ep,l,r⟩,_⟩:=id I.loc;obtain⟨sl,q⟩:=u.any l I.free (by simp)
 exact I.step (ch:=[]) (λ_ z=>nomatch z) (λb o _ d _ e n=>u.keep b o e n d (by simp)) (λb o _ d _ e n=>u.slot b o e n d (by simp)) (λb o _ e n=>u.free b o e n (by simp)) (λb o _ e=>u.there b o e (by simp)) u.fm u.fc u.fh (λy p=>by
  obtain⟨x,i,h,a,t⟩:=p;rw[l]at a;cases a
  exact(_,i,h,q,t)) j I.bare
def Inv.call(I:Inv X a M H s)(u:Un (dj X.stack) w H f s.heap g)(t:eA X.prog X.w f g)(C:AllBare y)
  (h:∀b∈w,(b∈X.ex\/X.cG.heap.objs.size<=b)/\b≠X.env.locals/\(∀x c,X.env.cells.lookup x=U c->c≠b)/\∀p∈X.pn++a,p.1≠b):
  Inv X a M f {s with heap:=g,gens:=y,drawn:=N,toks:=P}:=by
 obtain⟨m,⟨o,E,ep,v,r⟩,_⟩:=id I.loc;obtain⟨sl,q⟩:=u.any v I.free λz=>(h _ z).2.1 rfl
 exact I.step h (λb o q A d e n=>u.keep b o e n (λz=>(mem_cons.mp (I.eV b z)).elim q A) d) (λb o _ _ d e n=>u.any e n d) (λb o d e n=>u.free b o e n d) (λb o d e=>u.there b o e d) u.fm u.fc u.fh (λG B=>by
  obtain⟨F,l,j,i,D⟩:=B;rw[v]at i;cases i
  exact(_,l,j,q,D)) t C
def Inv.turned(I:Inv X a w H s)(k:∀b o,b≠f->s.heap.get? b=U o->g.get? b=U o)(A:H f=J)(l:f≠X.env.locals)
  (t:f∈X.ex\/X.cG.heap.objs.size<=f) (D:∀x c,X.env.cells.lookup x=U c->c≠f) (C:∀p∈X.pn++a,p.1≠f):Inv X a w H {s with heap:=g,toks:=t'}:=by
 refine I.step (ch:=[f]) (λb y=>?_) (λb o _ _ d e _=>k b o (λz=>d (by simp[z])) e) (λb o _ _ d e _=>(o.slots,k b o (λz=>d (by simp[z])) e)) (λ_ _ _ _ n=>n)
  (λb o d e=>(o,k b o (λz=>d (by simp[z])) e)) (λ_ _ e=>e) (λ_ _ _ e=>e) (λb B e=>(#[],by trivial)) (λm j=>?_) (λb u e=>?_) I.bare
 .grind
 .obtain⟨o,h,ep,i,r⟩:=j;exact(o,h,ep,k _ o (Ne.symm l) i,r)
 .refine(I.cy b u e).fq (λc v d q=>k c v ?_ q) (λ_ q=>q) λ_ _ q=>q
  lia
def Inv.tok(I:Inv X a b H s)(t):Inv X a b H {s with toks:=t}:=I.un Un.refl I.cy
def Inv.kept(I:Inv X a c H s)(k:∀b u,s.heap.get? b=U u->h'.get? b=U u):Inv X a c H {s with heap:=h',toks:=t'}:=I.un (Un.kept k) (I.cy.kept k)
def Inv.laid(I:Inv X e f H s)(k:∀b u,s.heap.get? b=U u->c.get? b=U u)(d:s.heap.objs.size<=a)(new:df X.prog X.w (upd H a o) c a o):
  Inv X e f (upd H a o) {s with heap:=c,toks:=t'}:=I.un (Un.laid k d (I.cy.fresh d)) (I.cy.laid k d new)
def Inv.write(I:Inv X f g H s)(d:Mut (H x))(h:e=x\/H e=U (.own x))(k:∀b u,b≠e->s.heap.get? b=U u->c.get? b=U u)(a:∃u,c.get? e=U u)
  (new:df X.prog X.w (upd H x o) c x o):Inv X f g (upd H x o) {s with heap:=c,toks:=t'}:=I.un (Un.write d h k a) (I.cy.write d h k a new)
def Inv.weak(I:Inv X c b H s)(e:a.length=b.length)(w:∀(i:Nat)v,a[i]?=U (U v)->b[i]?=U (U v)):Inv X c a H s:=
 (I.ok,I.os,I.bare,I.base,let ⟨m,l,d⟩:=I.loc;(m,l,λi x v j h o=>d i x v j (w i v h) o),I.cell,I.free,I.dG,I.pin,I.cy,e.trans I.len)
def Inv.pins_of(I:Inv X c b H s)(h:∀p∈a,s.heap.get? p.1=U p.2/\H p.1=J/\p.1≠X.env.locals/\p.1∉ X.fs/\∀v,p.2.data≠ .cell v):Inv X a b H s:=
 (I.ok,I.os,I.bare,I.base,I.loc,I.cell,I.free,I.dG,λp d=>(mem_append.mp d).elim (λz=>I.pin p (by simp[*])) (h p),I.cy,I.len)
def MY{N:jm}(e:N.Nodup){i j:Nat}{x}(a:N[i]?=U x)(b:N[j]?=U x):i=j:=by
 obtain⟨l,h⟩:=z8.mp a;obtain⟨o,d⟩:=z8.mp b;exact(List.getElem_inj e).mp (h.trans d.symm)
def KN(I:Inv X ba al H s)(g:X.N.Nodup)(S:X.N[i]?=U x)(C:Loc X.env.scope x)(ab:RelV v u)
  (h:∀f,Inv X ba (al.set i (U v)) H f->(∃a,Heap.SameBut a s.heap f.heap/\(a=X.env.locals\/X.env.cells.lookup x=U a))->an () f) (hf:X.fn x=gl\/X.env.scope.names.lookup x=U .local:=by first|exact .inl rfl|exact .inr rfl|assumption):wpAny a2 a0 (storeName X.env x u) an a1 s:=by
 obtain⟨aR,P,hl⟩:=id I.loc;have ar:(X.env.scope.kind == .class||(X.env.scope.kind == .module&&X.env.locals != X.env.globals))=gt:=by rw[I.ok.kind];rfl
 have G:i<al.length:=by rw[I.len];exact(z8.mp S).1
 have iD:=I.iD
 have ag:∀{a:jr}{r:Heap},(∃o,s.heap.get? a=U o/\H a=f8)->Heap.SameBut a s.heap r->eA X.prog X.w H r:=λ{a r}ha l b ob e=>by
  obtain⟨_,_,a3⟩:=ha;refine(I.cy b ob e).fq (λc w' D q=>(l.2 c ?_).trans q) (λ_ q=>q) λ_ _ q=>q
  lia
 rcases C with R|R
 .refine wpAny_storeName_local R P (λr az l=>?_) ar;obtain⟨oL,_,_,aC,_⟩:=id P;refine h _ (I.ok,I.os,I.bare,(λb o e n m C=>?_,λb o e n m C=>?_,I.base.free,λb o e C=>?_,I.base.fm,I.base.fc,I.base.fh),(_,az,λj y E B F M=>?_),λy c e=>?_,I.free,I.dG,λp Q=>?_,ag (oL,aC,I.free) l,by simpa using I.len) (_,l,.inl zd)
  .exact(l.2 b (zw (zZ (lt_size e) I.ok.above))).trans (I.base.keep b o e n m C)
  .obtain⟨sl,B⟩:=I.base.slot b o e n m C;exact(sl,(l.2 b (zw (zZ (lt_size e) I.ok.above))).trans B)
  .obtain⟨o',B⟩:=I.base.there b o e C;exact(o',(l.2 b (zw (zZ (lt_size e) I.ok.above))).trans B)
  .by_cases N:j=i
   .subst N;rw[S]at B;cases B;rw[List.getElem?_set_self G]at F;cases F;exact(u,ab,.inl (R,by simp))
   .rw[List.getElem?_set_ne (Ne.symm N)]at F;obtain⟨u',r',q⟩:=hl j y E B F M;refine(u',r',?_);rcases q with⟨k,e⟩|⟨k,c,e,z⟩
    .refine .inl (k,?_);have:y≠x:=λe=>N (MY g B (e ▸ S));simp[this,e]
    .exact .inr (k,c,e,z.sameBut l (iD y c e))
  .obtain⟨w',z⟩:=I.cell y c e;exact(w',z.sameBut l (iD y c e))
  .obtain⟨e,n,t,T,d⟩:=I.pin p Q;exact((l.2 p.1 t).trans e,n,t,T,d)
 .have A:X.fn x=gl:=by
   rcases hf with z|z
   .exact z
   .simp_all
  obtain⟨c,D⟩:=I.ok.has x (.inl R);obtain⟨w',z⟩:=I.cell x c D;refine wpAny_storeName_cell I.ok.kind R D z (λr g9 l=>?_);obtain⟨oc,aM,a4⟩:=id z;refine h {s with heap:=r} (I.ok,I.os,I.bare,(λb o e n m C=>?_,λb o e n m C=>?_,I.base.free,λb o e C=>?_,I.base.fm,I.base.fc,I.base.fh),(aR,P.sameBut l (by grind),λj y E B F M=>?_),λy w e=>?_,I.free,I.dG,λp Q=>?_,ag (oc,aM,I.dG x c D) l,by simpa using I.len) (c,l,.inr D)
  .exact(l.2 b (zw (zZ (lt_size e) (I.ok.ik x c A D)))).trans (I.base.keep b o e n m C)
  .obtain⟨sl,B⟩:=I.base.slot b o e n m C;exact(sl,(l.2 b (zw (zZ (lt_size e) (I.ok.ik x c A D)))).trans B)
  .obtain⟨o',B⟩:=I.base.there b o e C;exact(o',(l.2 b (zw (zZ (lt_size e) (I.ok.ik x c A D)))).trans B)
  .by_cases N:j=i
   .subst N;rw[S]at B;cases B;rw[List.getElem?_set_self G]at F;cases F;exact(u,ab,.inr (.inl R,c,D,g9))
   .rw[List.getElem?_set_ne (Ne.symm N)]at F;obtain⟨u',r',q⟩:=hl j y E B F M;refine(u',r',?_);rcases q with q|⟨k,w,e,z'⟩
    .exact .inl q
    .refine .inr (k,w,e,z'.sameBut l ?_);rintro rfl;exact N (MY g B (I.ok.inj _ _ _ e D ▸ S))
  .by_cases as:w=c
   .grind
   .obtain⟨w2,z2⟩:=I.cell y w e;exact(w2,z2.sameBut l as)
  .obtain⟨e,n,t,T,d⟩:=I.pin p Q;refine((l.2 p.1 ?_).trans e,n,t,T,d)
   grind
def B8(I:Inv X b c H s)(e:X.N.Nodup)(o:X.N[i]?=U x)(d:Loc X.env.scope x)(r:RelV v u)
  (h:∀a,Inv X b (c.set i (U v)) H a->Q () a) (j:X.fn x=L\/X.env.scope.names.lookup x=U .local:=by first|exact .inl rfl|exact .inr rfl|assumption):wpAny M A (storeName X.env x u) Q E s:=
 KN I e o d r (λa l _=>h a l) j
def Inv.call'(I:Inv X a n H s)(h:f.os=s.os)(u:Un (dj X.stack) m H g s.heap f.heap)(e:eA X.prog X.w g f.heap)(i:AllBare f.gens)
  (d:∀b∈m,(b∈X.ex\/X.cG.heap.objs.size<=b)/\b≠X.env.locals/\(∀x c,X.env.cells.lookup x=U c->c≠b)/\∀p∈X.pn++a,p.1≠b):Inv X a n g f:=by
 obtain⟨l,o,j,q,r⟩:=f;subst h;exact I.call u e i d
abbrev XK:=Value->Option jr->Hp->Prop
abbrev St:=List (Option V)
abbrev VK:=V->Hp->Prop
abbrev TE:=St->Hp->VK->Prop
abbrev TT:=St->Hp->(Bool->Hp->Prop)->Prop
abbrev TA:=St->Hp->(jq->Hp->Prop)->Prop
structure I0 where
 nx:St->Hp->Prop
 rt:VK
 bk:St->Hp->Prop:=λ_ _=>False
 ct:St->Hp->Prop:=λ_ _=>False
abbrev TS:=I0->St->Hp->Prop
inductive EP(X:Cx)(a:LO)(c:St)(Q:VK)(u:Value)(b:js):Prop
 |mk v H'(i:Inv X a c H' b)(r:RelV v u)(q:Q v H'):EP X a c Q u b
def TP(X:Cx)(a:LO)(d:St)(Q:Bool->Hp->Prop)(b:Bool)(c:js):Prop:=∃e,Inv X a d e c/\Q b e
inductive AP(X:Cx)(a:LO)(d:St)(Q:jq->Hp->Prop)(c:jo)(b:js):Prop
 |mk vs H'(i:Inv X a d H' b)(r:Vals vs c)(q:Q vs H'):AP X a d Q c b
def SP(X:Cx)(a:LO)(D:I0)(f:Flow)(b:js):Prop:=
 match f with
 |.next=>∃d c,Inv X a d c b/\D.nx d c
 |.brk=>∃d c,Inv X a d c b/\D.bk d c
 |.cont=>∃d c,Inv X a d c b/\D.ct d c
 |.ret u=>∃v d c,Inv X a d c b/\RelV v u/\D.rt v c
abbrev dH(X:Cx){a:Type}(t:PySem.Sem a):=PySem.wpAny (PySem.model X.prog X.w) X.A t
def PE(X:Cx)(e:Expr)(t:TE):Prop:=
 ∀b s(a:St)H Q,Inv X b a H s->t a H Q->dH X (eval e X.env) (EP X b a Q) X.xe s
def PT(X:Cx)(e:Expr)(t:TT):Prop:=
 ∀b s(a:St)H Q,Inv X b a H s->t a H Q->dH X (isTrue e X.env (eval e X.env)) (TP X b a Q) X.xe s
def PW(X:Cx)(e:Expr)(t:TT):Prop:=
 ∀c b s(a:St)H Q,Inv X b a H s->t a H Q->dH X (isTrue e X.env c) (TP X b a Q) X.xe s
def PW.pt(h:PW X e t):PT X e t:=h _
def PA(X:Cx)(a:List Expr)(t:TA):Prop:=
 ∀d c s(b:St)H Q,Inv X c b H s->t b H Q->dH X (spliced (backTo d (starEach a X.env))) (AP X c b Q) X.xe s
def PS(X:Cx)(st:Stmt)(t:TS):Prop:=
 ∀a s(b:St)H D,Inv X a b H s->t D b H->dH X (exec st X.env) (SP X a D) X.xe s
def fk(X:Cx)(st:List Stmt)(t:TS):Prop:=
 ∀a s(b:St)H D,Inv X a b H s->t D b H->dH X (execs st X.env) (SP X a D) X.xe s
def cA{b}{t:Sem b}{Q d}(h:wpAny M A t Q E s)(e:∀a s,Q a s->d a s):wpAny M A t d E s:=zn h e λ_ _ x=>x
inductive ExV(o:Option (Option V))(k:V->Prop):Prop
 |mk v(h:o=U (U v))(q:k v):ExV o k
inductive ExB(x:V)(k:Bool->Prop):Prop
 |mk c(h:x=.bl c)(q:k c):ExB x k
inductive ExI(x y:V)(k:Int->Int->Prop):Prop
 |mk i j(h:x=.int i)(a:y=.int j)(q:k i j):ExI x y k
def Ij(i:Nat):TE:=λa H Q=>ExV a[i]? λv=>Q v H
def tC(v:V):TE:=λ_ H Q=>Q v H
abbrev fQ(x:PySem.Str):Prop:=(x==("__debug__":PySem.Str))=O
def R7(B:X.N[i]?=U x)(D:Vis X.env.scope x)(p:fQ x:=by decide)(q:(x==(n8:Str))=O:=by decide):PE X (.Name x b) (Ij i):=by
 rintro o s C H Q I ⟨v,e,h⟩;obtain⟨m,z,y⟩:=I.loc;obtain⟨u,r,l⟩:=y i x v B e D;have d:EP X o C Q u s:=(v,H,I,r,h);rcases l with⟨j,A⟩|⟨j,c,t,a⟩
 .exact wpAny_Name (wpAny_loadName_local I.ok.kind j z A d) p
 .rcases j with j|j
  .exact wpAny_Name (wpAny_loadName_cell I.ok.kind j t a d) p
  .exact wpAny_Name (wpAny_loadName_free I.ok.kind j t a d q) p
def AF:PE X (.Constant (.int i) j a) (tC (.int i)):=λ_ _ _ H _ I h=>wpAny_Constant_int (.int i,H,I.tok _,(_,rfl),h)
def CQ:PE X (.Constant (.bool b) j a) (tC (.bl b)):=λ_ _ _ H _ I h=>Constant_bool (.bl b,H,I,rfl,h)
def B9:PE X (.Constant .none j a) (tC .bQ):=λ_ _ _ H _ I h=>Constant_none (.bQ,H,I,rfl,h)
def AI:PE X (.Constant (.str x) j a) (tC (.str x)):=λ_ _ _ H _ I h=>Calls.Constant_str (.str x,H,I.tok _,(_,rfl),h)
def Gl(X:Cx)(x:Str):Prop:=X.env.kindOf x=U .globalImplicit
def CA(I:Inv X b f H s)(e:Gl X x)(a:X.mg x=U u)(h:Q u s)
  (d:fQ x:=by decide):dH X (eval (.Name x c) X.env) Q E s:=
 Calls.Name_function_global I.ok.kind e (Calls.loadGlobal_global (by rw[I.ok.glob];exact I.mod.glob.keeps I.bk) a h) d
def Fm(I:Inv X b f H s)(l:Gl X x)(d:X.mg x=J)(e:bootBuiltins x=U u)(h:Q u s)
  (o:x≠ j8:=by decide) (a:fQ x:=by decide):dH X (eval (.Name x c) X.env) Q E s:=by
 obtain⟨p,i,j⟩:=I.mod.blt;exact Calls.Name_function_global I.ok.kind l (Calls.loadGlobal_builtin (by rw[I.ok.glob];exact I.mod.glob.keeps I.bk) d (by rw[I.ok.blt];exact i.keeps I.bk) ((j x o).trans e) h) a
def BM(e:Gl X x)(d:X.mg x=U u)(r:RelV v u)(a:fQ x:=by decide):PE X (.Name x b) (tC v):=
 λ_ _ _ H _ I h=>CA I e d (v,H,I,r,h) a
def C6(i:Gl X x)(d:X.mg x=J)(e:bootBuiltins x=U u)(r:RelV v u)(j:x≠ j8:=by decide)(a:fQ x:=by decide):PE X (.Name x b) (tC v):=
 λ_ _ _ H _ I h=>Fm I i d e (v,H,I,r,h) j a
def PC(X:Cx)(c:CmpOp)(a b:Expr)(t:TE):Prop:=
 ∀e s(d:St)H Q,Inv X e d H s->t d H Q ->
  dH X (eval a X.env) (λv f=>dH X (eval b X.env) (λu g=>dH X (compareOp c v u) (EP X e d Q) X.xe g) X.xe f) X.xe s
def MZ(b)(h:c≠ .In)(e:c≠ .NotIn):behindInMarks c b=O:=by
 have d:(c==CmpOp.In)=O:=by cases c<;>first|rfl|trivial
 have a:(c==CmpOp.NotIn)=O:=by cases c<;>first|rfl|trivial
 cases b<;>simp[behindInMarks,d,a]
def Zo(a:TE):TE:=λc H Q=>a c H λx b=>Q (.bl (decide (x=.bQ))) b
def X9(a:TE):TE:=λc H Q=>a c H λx b=>Q (.bl (!decide (x=.bQ))) b
def RelV.none_iff(r:RelV x v):(v==Value.none)=decide (x=.bQ):=by
 cases x with
 |bQ=>cases r;rfl
 |bl _=>cases r;rfl
 |int _=>obtain⟨t,rfl⟩:=r;rfl
 |str _=>obtain⟨t,rfl⟩:=r;rfl
 |hE _=>obtain⟨t,rfl⟩:=r;rfl
 |jd _=>obtain⟨t,rfl⟩:=r;rfl
 |ref _=>cases r;rfl
 |ty _=>cases r;rfl
def LJ(q:PE X a p):PC X .Is a (.Constant .none j b) (Zo p):=by
 intro d s l H Q I h;exact cA (q d s l H _ I h) λv r z=>by obtain⟨x,e,o,i,q1⟩:=z;exact Constant_none (is_none_gen (.bl _,e,o,by rw[i.none_iff];rfl,q1))
def Uh(q:PE X a p):PC X .IsNot a (.Constant .none j b) (X9 p):=by
 intro d s l H Q I h;exact cA (q d s l H _ I h) λv r z=>by obtain⟨x,e,o,i,q1⟩:=z;exact Constant_none (isnot_none_gen (.bl _,e,o,by rw[i.none_iff];rfl,q1))
def tB(t:TE):TT:=λb H Q=>t b H λx a=>ExB x λc=>Q c a
def LL(h:PC X c a b t)(i:behindInMarks c b=O:=by first|exact MZ _ qc qc|rfl):PE X (.Compare a [c] [b] f) t:=λd s e H Q I j=>wpAny_Compare1 (h d s e H Q I j) i
def Db(h:PC X f a b t)(i:behindInMarks f b=O:=by first|exact MZ _ qc qc|rfl):PT X (.Compare a [f] [b] g) (tB t):=by
 intro e s o H Q I r;refine wpAny_isTrue_Compare1 (cA (h e s o H _ I r) λv z i=>cA i λu A y=>cA y λc s3 v=>?_) i;obtain⟨x,j,p,l,q1⟩:=v;obtain⟨d,rfl,q⟩:=q1;cases l;exact zX (j,p,q)
def Ak(h:PE X e t)(u:∀a,isTrue e X.env a=(do let v ←a;standAt e.pos;holding [v] (truthy v)):=by intro _;rfl):PT X e (tB t):=by
 intro i s o H Q I r;refine isTrue_plain (cA (h i s o H _ I r) λv y z=>?_) (u _);obtain⟨x,j,p,l,q1⟩:=z;obtain⟨d,rfl,q⟩:=q1;cases l;exact zX (j,p,q)
def YA(t u:TT):TT:=λb H Q=>t b H λc a=>if c=L then u b a Q else Q O a
def tOr(t u:TT):TT:=λb H Q=>t b H λc a=>if c=L then Q L a else u b a Q
def YB(t:TT):TT:=λb H Q=>t b H λc a=>Q (!c) a
def Bj(l:PT X a j):PW X (.BoolOp .And [a] b) j:=by
 intro p d s i H Q I h;refine isTrue_and (cA (l d s i H Q I h) λc o e=>?_);cases c with
 |true=>exact isTrue_and_nil e
 |false=>exact e
def By(l:PT X a j):PW X (.BoolOp .Or [a] b) j:=by
 intro p d s i H Q I h;refine isTrue_or (cA (l d s i H Q I h) λc o e=>?_);cases c with
 |false=>exact isTrue_or_nil e
 |true=>exact e
def CV(q:PT X a r)(p:PW X (.BoolOp .And (b::g) f) e):PW X (.BoolOp .And (a::b::g) f) (YA r e):=by
 intro t d s j H Q I h;refine isTrue_and (cA (q d s j H _ I h) λc o z=>?_);obtain⟨i,l,q1⟩:=z;cases c with
 |true=>exact p t d o j i Q l q1
 |false=>exact(i,l,q1)
def DH(q:PT X a r)(p:PW X (.BoolOp .Or (b::g) f) e):PW X (.BoolOp .Or (a::b::g) f) (tOr r e):=by
 intro t d s j H Q I h;refine isTrue_or (cA (q d s j H _ I h) λc o z=>?_);obtain⟨i,l,q1⟩:=z;cases c with
 |true=>exact(i,l,q1)
 |false=>exact p t d o j i Q l q1
def Ar(l:PT X a j):PT X (.UnaryOp .Not a b) (YB j):=by
 intro d s i H Q I h;exact isTrue_not (l d s i H (λc e=>Q (!c) e) I h)
def YC(a b:TE):TE:=λe H Q=>a e H λx d=>ExB x λc=>if c=L then b e d Q else Q (.bl O) d
def Zp(a b:TE):TE:=λe H Q=>a e H λx d=>ExB x λc=>if c=L then Q (.bl L) d else b e d Q
def YD(a:TE):TE:=λd H Q=>a d H λx b=>ExB x λc=>Q (.bl (!c)) b
def CW(h:PE X a t):PE X (.BoolOp b [a] c) t:=λd s e H Q I i=>BoolOp_one (h d s e H Q I i)
def CB(r:PE X a q)(p:PE X (.BoolOp .And (b::g) f) m):PE X (.BoolOp .And (a::b::g) f) (YC q m):=by
 intro d s i H Q I h;refine BoolOp_and (cA (r d s i H _ I h) λv l z=>?_);obtain⟨x,e,j,o,q1⟩:=z;obtain⟨c,rfl,q1⟩:=q1;cases o;apply zX;cases c with
 |true=>exact p d l i e Q j q1
 |false=>exact(.bl O,e,j,rfl,q1)
def WK(r:PE X a q)(p:PE X (.BoolOp .Or (b::g) f) m):PE X (.BoolOp .Or (a::b::g) f) (Zp q m):=by
 intro d s i H Q I h;refine BoolOp_or (cA (r d s i H _ I h) λv l z=>?_);obtain⟨x,e,j,o,q1⟩:=z;obtain⟨c,rfl,q1⟩:=q1;cases o;apply zX;cases c with
 |false=>exact p d l i e Q j q1
 |true=>exact(.bl L,e,j,rfl,q1)
def R8(p:PE X a o):PE X (.UnaryOp .Not a b) (YD o):=by
 intro d s j H Q I h;refine UnaryOp_ (cA (p d s j H _ I h) λv q z=>?_);obtain⟨x,e,l,i,q1⟩:=z;obtain⟨c,rfl,q1⟩:=q1;cases i;exact not_of (zX (.bl (!c),e,l,Y,q1))
def tIf(t:TT)(a b:TE):TE:=λd H Q=>t d H λc e=>if c=L then a d e Q else b d e Q
def BX(u:PT X c r)(t:PE X a q)(p:PE X b f):PE X (.IfExp c a b g) (tIf r q f):=by
 intro e s i H Q I h;refine wpAny_IfExp (cA (u e s i H _ I h) λd j z=>?_);obtain⟨l,o,q1⟩:=z;cases d with
 |true=>exact t e j i l Q o q1
 |false=>exact p e j i l Q o q1
def bZ(c:FG)(H:Hp)(a:jr)(b:jq):Prop:=
 Rd H a (.lst b) \/
  ∃(o:Obj)(d:Array Value)(n:Nat),c.lookup a=U o/\o.cls=.type jH /\ o.dict=J/\o.data=.seq d n/\d.size<=sizeLine/\Vals b d.toList
def cD(c:FG)(H:Hp)(a:jr)(b:jq):Prop:=
 Rd H a (.tup b) \/
  ∃(o:Obj)(d:Array Value)(n:Nat),c.lookup a=U o/\o.cls=.type jN /\ o.data=.seq d n/\d.size<=sizeLine/\Vals b d.toList
noncomputable def Zq:Value->Option V
 |.none=>U .bQ
 |.bool b=>U (.bl b)
 |.int i _=>U (.int i)
 |.str x _=>U (.str x)
 |.bytes b _=>U (.hE b)
 |.float b _=>U (.jd b)
 |.ref a=>U (.ref a)
 |.type n=>U (.ty n)
 |_=>J
def RelV.abs(r:RelV x u):Zq u=U x:=by
 cases x with
 |bQ=>cases r;rfl
 |bl _=>cases r;rfl
 |int _=>obtain⟨t,rfl⟩:=r;rfl
 |str _=>obtain⟨t,rfl⟩:=r;rfl
 |hE _=>obtain⟨t,rfl⟩:=r;rfl
 |jd _=>obtain⟨t,rfl⟩:=r;rfl
 |ref _=>cases r;rfl
 |ty _=>cases r;rfl
def RelV.inj(r:RelV x u)(q:RelV y u):x=y:=Option.some.inj (r.abs.symm.trans q.abs)
theorem Vals.inj:∀{b c}{a},Vals b a->Vals c a->b=c
 |_,_,_,.nil,.nil=>rfl
 |_,_,_,.cons r t,.cons e d=>by rw[r.inj e,Vals.inj t d]
def bZ.of(h:H a=U (.lst b)):bZ c H a b:=.inl (.inl h)
def cD.of(h:H a=U (.tup b)):cD c H a b:=.inl (.inl h)
def Inv.list(I:Inv X c f H s)(h:bZ X.K H a b):∃d,Vals b d/\PlainL s.heap a d.toArray/\b.length<=sizeLine:=by
 rcases h with h|⟨o,d,n,j,l,i,p,q,r⟩
 .obtain⟨z,d,n,r,e⟩:=h.ok I.cy;exact(d,r,(_,n,e,Y,Y,Y),z)
 .refine(d.toList,r,(o,n,I.dZ a o j,l,i,qe),?_);have e:=r.length;simp at e
  simp_all
def Inv.tuple(I:Inv X c f H s)(h:cD X.K H a b):∃d,Vals b d/\IsTup s.heap a d.toArray/\b.length<=sizeLine:=by
 rcases h with h|⟨o,d,n,i,j,l,q,r⟩
 .obtain⟨z,d,r,p⟩:=h.ok I.cy
  grind
 .refine(d.toList,r,(o,I.dZ a o i,j,n,qe),?_);have e:=r.length;simp at e
  simp_all
def Inv.list_inj(I:Inv X g m H s)(h:bZ X.K H a c)(b:bZ X.K H a f):c=f:=by
 obtain⟨j,r,⟨o,n,e,_,_,d⟩,_⟩:=I.list h;obtain⟨i,t,⟨v,u,p,_,_,l⟩,_⟩:=I.list b;rw[e]at p;cases p;rw[d]at l;injection l with q _
 have:j=i:=by simpa using congrArg Array.toList q
 subst this;exact r.inj t
def Inv.tuple_inj(I:Inv X g m H s)(h:cD X.K H a c)(b:cD X.K H a f):c=f:=by
 obtain⟨j,r,⟨o,e,_,n,d⟩,_⟩:=I.tuple h;obtain⟨i,t,⟨v,p,_,u,l⟩,_⟩:=I.tuple b;rw[e]at p;cases p;rw[d]at l;injection l with q _
 have:j=i:=by simpa using congrArg Array.toList q
 subst this;exact r.inj t
noncomputable abbrev Cx.f7(X:Cx)(E:VS):Cx:={X with xe:=E}
abbrev Cx.gX(X:Cx):Cx:=X.f7 λ_ _=>False
def Cx.Ok.f7{X:Cx}(ok:X.Ok)(E):(X.f7 E).Ok:=
 (ok.mod,ok.kind,ok.glob,ok.blt,ok.above,ok.inj,ok.has,ok.ik,ok.hd,ok.frames,ok.fV,ok.exf,ok.bs,ok.gA,ok.gc,ok.gd,ok.d7,ok.gP)
def Cx.Ok.eU{X:L2.Cx}(ok:(X.f7 E).Ok):X.Ok:=
 (ok.mod,ok.kind,ok.glob,ok.blt,ok.above,ok.inj,ok.has,ok.ik,ok.hd,ok.frames,ok.fV,ok.exf,ok.bs,ok.gA,ok.gc,ok.gd,ok.d7,ok.gP)
def Inv.f7(I:Inv X a b H s)(E):Inv (X.f7 E) a b H s:=(I.ok.f7 E,I.os,I.bare,I.base,I.loc,I.cell,I.free,I.dG,I.pin,I.cy,I.len)
def Inv.eU(I:Inv (X.f7 E) a b H s):Inv X a b H s:=(I.ok.eU,I.os,I.bare,I.base,I.loc,I.cell,I.free,I.dG,I.pin,I.cy,I.len)
def SP.eU(h:SP (X.f7 E) b D f c):SP X b D f c:=by
 cases f with
 |next=>obtain⟨a,d,I,q⟩:=h;exact(a,d,I.eU,q)
 |brk=>obtain⟨a,d,I,q⟩:=h;exact(a,d,I.eU,q)
 |cont=>obtain⟨a,d,I,q⟩:=h;exact(a,d,I.eU,q)
 |ret u=>obtain⟨v,a,d,I,r,q⟩:=h;exact(v,a,d,I.eU,r,q)
def fk.gX{st}(h:fk X.gX st t):fk X st t:=λa s d H D I e=>
 zn (h a s d H D (I.f7 _) e) (λ_ _ q=>q.eU) λ_ _ z=>False.elim z
def R9:TS:=λD a H=>D.nx a H
def Ui(t u:TS):TS:=λD a H=>t {D with nx:=u D} a H
def AM:fk X [] R9:=λ_ _ a H _ I h=>wpAny_execs_nil (a,H,I,h)
def AB{st}(j:PS X st t)(p:fk X b u):fk X (st::b) (Ui t u):=by
 intro a s i H D I h;refine wpAny_execs_cons (cA (j a s i H {D with nx:=u D} I h) λf e q=>?_);cases f with
 |next=>
  obtain⟨d,o,l,q⟩:=q;exact p a e d o D l q
 |ret v=>exact q
 |brk=>exact q
 |cont=>exact q
def AC{st}(e:PS X st t):fk X [st] t:=by
 intro a s d H D I h;refine wpAny_execs_cons (cA (e a s d H D I h) λf i q=>?_);cases f with
 |next=>exact wpAny_execs_nil q
 |ret v=>exact q
 |brk=>exact q
 |cont=>exact q
def Inv.quiet(I:Inv X a b H s):interactive X.env=O:=by simp[interactive,I.ok.kind]
def SA(a:TE):TS:=λD b H=>a b H λ_ c=>D.nx b c
def AV(l:PE X e f)(b:swapsWith e J c.line X.env=pure O:=by rfl):PS X (.Expr e c) (SA f):=by
 intro a s d H D I h;exact wpAny_Expr_any (cA (l a s d H _ I h) λv o z=>by obtain⟨x,i,j,p,q1⟩:=z;exact (d,i,j,q1)) I.quiet b
def SB(a:TE):TS:=λD b H=>a b H D.rt
def AJ(o:PE X e b):PS X (.Return (U e) c) (SB b):=by
 intro a s d H D I h;exact wpAny_Return_some (cA (o a s d H _ I h) λv p z=>by obtain⟨x,i,l,j,q1⟩:=z;exact (x,d,i,l,j,q1))
def Uj(c:TT)(t u:TS):TS:=λD a H=>c a H λb d=>if b=L then t D a d else u D a d
def AU(v:PT X c p)(r:fk X a t)(q:fk X b u):PS X (.If c a b f) (Uj p t u):=by
 intro e s i H D I h;refine wpAny_If (cA (v e s i H _ I h) λd j z=>?_);obtain⟨l,o,q1⟩:=z;cases d with
 |true=>exact r e j i l D o q1
 |false=>exact q e j i l D o q1
def Wk:TS:=λ_ _ _=>False
def Ag{st}:PS X st Wk:=λ_ _ _ _ _ _ h=>h.elim
abbrev TG:=V->St->Hp->(St->Hp->Prop)->Prop
abbrev TGs:=jq->St->Hp->(St->Hp->Prop)->Prop
def PG(X:Cx)(a:Expr)(t:TG):Prop:=
 ∀c s(e:St)H v u Q,Inv X c e H s->RelV v u->t v e H Q ->
  dH X (assign a X.env u) (λ_ f=>∃d b,Inv X c d b f/\Q d b) X.xe s
def PGs(X:Cx)(a:List Expr)(t:TGs):Prop:=
 ∀c s(g:St)H f e Q,Inv X c g H s->Vals f e->t f g H Q ->
  dH X (assignInOrder ((assignEach a X.env).map (·.2)) e) (λ_ h=>∃d b,Inv X c d b h/\Q d b) X.xe s
abbrev YE:=V->V->V->Hp->(Hp->Prop)->Prop
def YF(X:Cx)(t:YE):Prop:=
 ∀b s(e:St)H o i v d c u Q,Inv X b e H s->RelV o d->RelV i c->RelV v u->t o i v H Q ->
  dH X (setItem d c u) (λ_ f=>∃a,Inv X b e a f/\Q a) X.xe s
abbrev TIp:=V->V->Hp->VK->Prop
def PIp(X:Cx)(a:Operator)(t:TIp):Prop:=
 ∀b s(c:St)H x y v u Q,Inv X b c H s->RelV x v->RelV y u->t x y H Q ->
  dH X (inplaceOp a v u) (EP X b c Q) X.xe s
def Bz(i:Nat):TG:=λv a H Q=>Q (a.set i (U v)) H
def BI{i}(e:X.N.Nodup)(o:X.N[i]?=U x)(d:Loc X.env.scope x)(j:X.fn x=L\/X.env.scope.names.lookup x=U .local:=by first|exact .inl rfl|exact .inr rfl|assumption):PG X (.Name x b) (Bz i):=by
 intro a s q H v u Q I r h;exact wpAny_assign_Name (B8 I e o d r (λp l=>(_,H,l,h)) j)
def Uk:TGs:=λa b H Q=>a=[]/\Q b H
inductive ExC(a:jq)(k:V->jq->Prop):Prop
 |mk v r(h:a=v::r)(q:k v r):ExC a k
def JA(t:TG)(u:TGs):TGs:=λc d H Q=>ExC c λv r=>t v d H λb a=>u r b a Q
def A3:PGs X [] Uk:=by
 rintro a s d H j i Q I r ⟨e,h⟩;subst e;cases r;exact assignInOrder_nil (d,H,I,h)
def AT(j:PG X e t)(y:PGs X b u)
  (c:(assignEach (e::b) X.env).map (·.2)=assign e X.env::(assignEach b X.env).map (·.2):=by rfl):PGs X (e::b) (JA t u):=by
 rintro a s q H B A Q I r ⟨v,z,x,h⟩;subst x;cases r with
 |cons r o=>
  rw[c];exact assignInOrder_cons (cA (j a s q H _ _ _ I r h) λ_ p w=>by obtain⟨d,i,l,q1⟩:=w;exact y a p d i _ _ Q l o q1)
inductive ExT(b:FG)(n:Nat)(v:V)(H:Hp)(k:jq->Prop):Prop
 |mk a xs(c:v=.ref a)(d:cD b H a xs)(e:xs.length=n)(q:k xs):ExT b n v H k
def Ul(a:FG)(n:Nat)(t:TGs):TG:=λv c H Q=>ExT a n v H λb=>t b c H Q
def BN{k}{n}(y:X.calm=L)(h:PGs X c t)
  (q:(assignEach c X.env).length=n:=by rfl) (i:(assignEach c X.env).findIdx? (·.1)=J:=by rfl):PG X (.Tuple c k f) (Ul X.K n t):=by
 rintro d s A H v u Q I r ⟨a,B,D,p,l,C⟩;subst D;cases r;obtain⟨x,j,ht,F⟩:=I.tuple p;exact assign_Tuple_tuple (I.ok.hd y) ht (by simp[q,←l,j.length]) i λE z=>h d _ A H B _ Q (I.kept (t':=s.toks) λb o e=>z b o (zw (lt_size e)) e) (by simpa using j) C
noncomputable def LM(to a:TE)(t:YE):TG:=λv b H Q=>to b H λo c=>a b c λi d=>t o i v d λe=>Q b e
def LP(q:PE X o to)(E:PE X i F)(c:YF X t)
  (M:∀v,assign (.Subscript o i b) X.env v=(do
   let d ←holding [v] (eval o X.env)
   let e ←holding [v,d] (eval i X.env)
   standAt b
   holding [v,d,e] (setItem d e v)
   release [v,d,e] []):=by intro _;rfl):PG X (.Subscript o i b) (LM to F t):=by
 intro a s j H v u Q I r h;refine zp (zJ (cA (q a s j H _ I h) λd G w=>?_));obtain⟨x,l,C,A,q1⟩:=w;refine zp (zJ (cA (E a G j l _ C q1) λe p k=>?_));obtain⟨y,z,B,f,q2⟩:=k;exact zp (zI (zp (zJ (cA (c a p j z x y v d e u _ B A f r q2) λ_ s3 m=>by obtain⟨g,D,q3⟩:=m;exact wpAny_release (j,g,D,q3)))))
def Um(a:TE)(g:TG):TS:=λD b H=>a b H λx c=>g x b c D.nx
def Bg(t:PE X e f)(r:PG X b g)(hs:swapsWithSole [b] e c.line X.env=pure O:=by rfl)(hw:swappedStores [b] e X.env=pure J:=by rfl)
  (o:(assignEach [b] X.env).map (·.2)=[assign b X.env]:=by rfl):PS X (.Assign [b] e c) (Um f g):=by
 intro a s d H D I h;refine wpAny_Assign_stores (cA (t a s d H _ I h) λv i z=>?_) hs hw;obtain⟨x,j,p,l,q1⟩:=z;rw[o];exact cA (r a i d j x v _ p l q1) λ_ u q=>q
def DI{i}(o:X.N.Nodup)(r:X.N[i]?=U x)(t:Loc X.env.scope x)(j:PE X e g)(b:swapsWith e (U (.Name x f)) c.line X.env=pure O:=by rfl)(z:X.fn x=L\/X.env.scope.names.lookup x=U .local:=by first|exact .inl rfl|exact .inr rfl|assumption):
  PS X (.Assign [.Name x f] e c) (Um g (Bz i)):=by
 intro a s u H D I h;exact wpAny_Assign_Name (cA (j a s u H _ I h) λv B v=>by obtain⟨y,d,q,l,q1⟩:=v;exact B8 q o r t l (λA p=>(_,d,p,q1)) z) b
def Zr(i j:Nat)(a:TA):TS:=λD b H=>a b H λd c=>∃v w,d=[v,w]/\D.nx ((b.set i (U v)).set j (U w)) c
def SC(T:X.calm=gl)(C:X.N.Nodup)(S:X.N[i]?=U x)(n:X.N[j]?=U y)(u:i≠j)
  (F:X.env.scope.names.lookup x=U .local) (G:X.env.scope.names.lookup y=U .local) (M:PA X [a,b] z)
  (p:swappedStores [.Tuple [.Name x c,.Name y m] g pt] (.Tuple [a,b] f l) X.env=pure (U [x,y]))
  (hs:swapsWithSole [.Tuple [.Name x c,.Name y m] g pt] (.Tuple [a,b] f l) w.line X.env=pure gt:=by rfl):
  PS X (.Assign [.Tuple [.Name x c,.Name y m] g pt] (.Tuple [a,b] f l) w) (Zr i j z):=by
 intro d s ag H as I h;refine zp (zI ?_);refine zp (zo (zp (Tuple_ (cA (M _ d s ag H _ I h) λus E k=>?_))));obtain⟨vs,P,ab,N,q1⟩:=k;obtain⟨v,an,e1,q1⟩:=q1;subst e1
 obtain⟨t,r,rfl,R,ar⟩:∃t r,us=[t,r]/\RelV v t/\RelV an r:=by
  cases N with
  |cons az q=>
   cases q with
   |cons p' al=>
    cases al
    grind
 refine wpAny_newObj_type ?_ fb;rw[p];refine zp (zo (zp (wpAny_rule (zp (unpackItems_tuple (items:=#[t,r]) (I.ok.hd T) (IsTup.new E.heap _) λh' A=>?_)))));have Q:=(ab.kept λb o e=>zV _ e).kept (t':=E.toks) λb o e=>A b o (zw (lt_size e)) e;refine zp (assignInOrder_cons (wpAny_bindName (B8 Q C n (.inl G) ar (λs2 D=>assignInOrder_cons (wpAny_bindName (B8 D C S (.inl F) R (λs3 B=>assignInOrder_nil (zo ?_)) (.inr F)))) (.inr G))));rw[List.set_comm _ _ (Ne.symm u)]at B;exact(_,P,B,q1)
def Zs(i:Nat)(a:TE)(b:TIp):TS:=λD c H=>∃x,c[i]?=U (U x)/\a c H λy d=>b x y d λz e=>D.nx (c.set i (U z)) e
def OI{i}(Q:X.N.Nodup)(A:X.N[i]?=eq x)(q:Loc X.env.scope x)(f:PE X e P)(g:PIp X b n)(z:X.fn x=L\/X.env.scope.names.lookup x=eq .local:=by first|exact .inl rfl|exact .inr rfl|assumption):
  PS X (.AugAssign (.Name x al) b e ag) (Zs i P n):=by
 rintro a s B H D I ⟨v,e1,h⟩;obtain⟨m,G,E⟩:=I.loc;have t:Vis X.env.scope x:=by rcases q with k|k;exact .inl k;exact .inr (.inl k)
 obtain⟨u,r,l⟩:=E i x v A e1 t;apply wpAny_AugAssign_Name
 have C:dH X (eval e X.env) (λw p=>dH X (inplaceOp b u w) (λr o=>dH X (storeName X.env x r) (λ_=>SP X a D .next) X.xe o) X.xe p) X.xe s:=by
  refine cA (f a s B H _ I h) λw ab zz=>?_;obtain⟨y,F,S,N,q1⟩:=zz;exact cA (g a ab B F v y u w _ S r N q1) λan s2 ⟨zv,M,R,r2,q2⟩=>B8 R Q A q r2 (λs3 T=>(_,M,T,q2)) z
 rcases l with⟨d,O⟩|⟨d,c,U,j⟩
 .exact wpAny_loadName_local I.ok.kind d G O C
 .rcases d with d|d
  .exact wpAny_loadName_cell I.ok.kind d U j C
  .rcases q with k|k
   .have:X.env.scope.names.lookup x=eq .free:=d;rw[k]at this;cases this
   .have:X.env.scope.names.lookup x=eq .free:=d;rw[k]at this;cases this
def SD(c:TT)(a:TS):TS:=λD d H=>∃W:Nat->St->Hp->Prop,(∃m,W m d H)/\∀m d H,W m d H ->
 c d H λb f=>if b=L then ∃N,(∀g e,N g e->∃h,h<m/\W h g e)/\a {D with nx:=N,ct:=N,bk:=D.nx} d f else D.nx d f
def Gi(z:PassesOwn (model X.prog X.w) X.A X.env X.xe)(g:PT X c E)(B:fk X m w):PS X (.While c m [] P) (SD E w):=by
 rintro d s Q H D I ⟨W,⟨F,S⟩,h⟩;refine wpAny_While (codeAny_whileLoop (λn T=>∃i A,Inv X d i A T/\W n i A) ?_ F (Q,H,I,S));rintro n M ⟨e,t,G,R⟩;refine wpAny_passesOwn z (cA (g d M e t _ G (h n e t R)) λb C k=>?_);obtain⟨u,y,q2⟩:=k;cases b with
 |true=>
  obtain⟨N,x,q2⟩:=q2;refine wpAny_passesOwn z (cA (B d C e u _ y q2) λf s3 q3=>?_);cases f with
  |next=>
   obtain⟨a,j,p,q⟩:=q3;obtain⟨l,o,r⟩:=x a j q;exact(l,o,a,j,p,r)
  |cont=>
   obtain⟨a,j,p,q⟩:=q3;obtain⟨l,o,r⟩:=x a j q;exact(l,o,a,j,p,r)
  |brk=>exact q3
  |ret v=>exact q3
 |false=>
  exact wpAny_execs_nil (e,u,y,q2)
structure It where
 go:Nat->Hp->Prop
 ir:Nat->Hp->V->Hp->Prop
 stop:Nat->Hp->Prop
def Fd(X:Cx)(a:LO)(H:Hp)(b:jr):Prop:=
 H b=J/\b≠X.env.locals/\b∉ X.fs/\(b∈X.ex\/X.cG.heap.objs.size<=b)/\(∀x c,X.env.cells.lookup x=U c->c≠b)/\∀p∈X.pn++a,p.1≠b
def Inv.gm(I:Inv X g i H s)(a:s.heap.objs.size<=b)(h:f b=J):Fd X g f b:=by
 refine(h,Nat.ne_of_gt (zZ I.lt a),I.nofs a,.inr (Nat.le_trans I.sz a),λx c e z=>?_,λp d z=>?_)
 .obtain⟨v,q⟩:=I.cell x c e;exact absurd (zZ q.lt (by simp_all)) (zE _)
 .exact absurd (zZ (lt_size (I.pin p d).1) (by simp_all)) (zE _)
structure Ma(P:Program)(w:World)(K:FG)(tg:Expr)(J:It)(fp:List jr)(it:jr)(tn:Nat->Heap->Prop):Prop where
 mem:it∈fp
 obj:∀i h,tn i h->∀b∈fp,∃o,h.get? b=U o/\∀v,o.data≠ .cell v
 keep:∀i h h',tn i h->(∀b∈fp,∀o,h.get? b=U o->h'.get? b=U o)->tn i h'
 item:∀X,X.prog=P->X.w=w->X.K=K->X.calm=L->∀i ba s(σ:St)H(E:VS),Inv X ba σ H s->(∀b∈fp,Fd X ba H b)->tn i s.heap->J.go i H ->
  wpAny (model P w) X.A (pyNext (.ref it)) (λr a=>∃u,r=U u /\
   wpAny (model P w) X.A (letOwnedTupleGo tg (.ref it) u) (λ_ s2=>∃x H',Inv X ba σ H' s2/\RelV x u/\J.ir i H x H'/\tn (i+1) s2.heap/\∀b∈fp,H' b=f8) E a) E s
 done:∀X,X.prog=P->X.w=w->X.K=K->X.calm=L->∀i ba s(σ:St)H(E:VS),Inv X ba σ H s->(∀b∈fp,Fd X ba H b)->tn i s.heap->J.stop i H ->
  wpAny (model P w) X.A (pyNext (.ref it)) (λr a=>r=f8/\Inv X ba σ H a) E s
 self:∀A i s(Q:VS)(E:VS),tn i s.heap->Q (.ref it) s->wpAny (model P w) A (pyIter (.ref it)) Q E s
abbrev TI:=St->Hp->(It->Hp->Prop)->Prop
def PIE(X:Cx)(a:LO)(f:St)(e:Expr)(R:It->Hp->Prop)(d:Value)(c:js):Prop:=
 ∃(j:jr)(i:List jr)(l:Nat->Heap->Prop)(h:It)(g:Hp),d=.ref j/\Inv X a f g c/\Ma X.prog X.w X.K e h i j l/\l 0 c.heap/\(∀b∈i,Fd X a g b)/\R h g
def PI(X:Cx)(a iter:Expr)(b:TI):Prop:=
 ∀d s(c:St)H R,Inv X d c H s->b c H R ->
  dH X (eval iter X.env) (λv e=>dH X (pyIter v) (PIE X d c a R) X.xe e) X.xe s
def Mb(d:s.heap.get? b=U o)(h:o.cls=.type n)(e:o.data=.fields f)
    (i:[lT,"zip","dict_itemiterator","dict_reverseitemiterator","odict_iterator","itertools.zip_longest","itertools.pairwise"].contains n=O) (a:Q () s):wpAny M A (letOwnedTupleGo c (.ref b) u) Q E s:=by
  cases c<;>first
    |exact zo a
    | (cases u<;>first
        |exact zo a
        | (refine zp (wpAny_load d ?_)
           rw[h,e];show wpAny M A (if ([lT,"zip","dict_itemiterator","dict_reverseitemiterator","odict_iterator","itertools.zip_longest","itertools.pairwise"].contains n&&f[0]?==U (rawInt _))=L then _ else _) Q E s;rw[zh (by grind)]
           exact zo a))
noncomputable def iL(b:FG)(a:jr):It:=
 (λi H=>∃c x,bZ b H a c/\c[i]?=U x,λi H x d=>d=H/\∀c,bZ b H a c->c[i]?=U x,λi H=>∃c,bZ b H a c/\c.length<=i)
noncomputable def Itt(b:FG)(a:jr):It:=
 (λi H=>∃c x,cD b H a c/\c[i]?=U x,λi H x d=>d=H/\∀c,cD b H a c->c[i]?=U x,λi H=>∃c,cD b H a c/\c.length<=i)
noncomputable def Itr(lo:Int)(n:Nat):It:=(λi _=>i<n,λi H x a=>a=H/\x=.int (lo+i),λi _=>n<=i)
def KP(a j):Ma P w ω tg (iL ω a) [j] j (λi h=>h.IsListIter j a i) where
 mem:=by simp
 obj:=λi h st b l=>by
  have e:b=j:=by simpa using l
  subst e;obtain⟨o,e,c,d⟩:=st;exact(o,e,λab ag=>by simp_all)
 keep:=λi h R st k=>st.at λo e=>k j (by simp) o e
 item:=by
  intro X Q g M S i q s v H E I y st m;subst Q g M;obtain⟨z,x,t,f⟩:=m;obtain⟨D,F,p,n⟩:=I.list t;obtain⟨u,hu,T⟩:=F.get f;obtain⟨C,N,f2,B,G,A⟩:=y j (by simp);refine wpAny_pyNext_list_item st p.isList (x:=u) (by simp_all) λR r sb=>?_;obtain⟨o,e,c,d⟩:=id r;exact(u,Y,Mb e c d qc (x,H,I.turned (t':=s.toks) (λb o l e=>(sb.2 b l).trans e) C N B G A,T,(Y,λys hy=>by rw[I.list_inj hy t];exact f),r,λb l=>(y b l).1))
 done:=by
  intro X Q g M S i q s v H E I y st m;subst Q g M;obtain⟨z,t,f⟩:=m;obtain⟨D,F,p,n⟩:=I.list t;obtain⟨C,N,f2,B,G,A⟩:=y j (by simp);have hl:=F.length;exact wpAny_pyNext_list_end (I.ok.hd S) st p.isList (by simp;simp_all) λR eb=>(Y,I.turned (λb o l e=>eb b o l e) C N B G A)
 self:=λ_ _ _ _ _ st h=>wpAny_pyIter_listiter st h
def OJ(a j):Ma P ag f tg (Itt f a) [j] j (λi h=>h.IsTupleIter j a i) where
 mem:=by simp
 obj:=λi h st b l=>by
  have e:b=j:=by simpa using l
  subst e;obtain⟨o,e,c,d⟩:=st;exact(o,e,λab al=>by simp_all)
 keep:=λi h R st k=>st.at λo e=>k j (by simp) o e
 item:=by
  intro X Q m M S i q s w H E I y st n;subst Q m M;obtain⟨z,x,t,g⟩:=n;obtain⟨D,F,p,v⟩:=I.tuple t;obtain⟨u,hu,T⟩:=F.get g;obtain⟨C,N,f2,B,G,A⟩:=y j (by simp);refine wpAny_pyNext_tuple_item st (p) (x:=u) (by simp_all) λR r sb=>?_;obtain⟨o,e,c,d⟩:=id r;exact(u,Y,Mb e c d qc (x,H,I.turned (t':=s.toks) (λb o l e=>(sb.2 b l).trans e) C N B G A,T,(Y,λys hy=>by rw[I.tuple_inj hy t];exact g),r,λb l=>(y b l).1))
 done:=by
  intro X Q m M S i q s w H E I y st n;subst Q m M;obtain⟨z,t,g⟩:=n;obtain⟨D,F,p,v⟩:=I.tuple t;obtain⟨C,N,f2,B,G,A⟩:=y j (by simp);have hl:=F.length;exact wpAny_pyNext_tuple_end (I.ok.hd S) st (p) (by simp;simp_all) λR eb=>(Y,I.turned (λb o l e=>eb b o l e) C N B G A)
 self:=λ_ _ _ _ _ st h=>wpAny_pyIter_tupleiter st h
def OK(a)(lo)(n):Ma P w f c (Itr lo n) [a] a (λi h=>IsRangeIter h a (lo+(i)*1) ((n:Int)-(i:Nat)) 1) where
 mem:=by simp
 obj:=λi h st b d=>by
  simp_all
 keep:=λi h F st k=>k a (by simp) _ st
 item:=by
  intro X D z A y i j s g H E I p st C;subst D z A;obtain⟨u,B,M,r,x,q⟩:=p a (by simp);refine(Walks.range (prog:=X.prog) (w:=X.w) (I.ok.hd y) a lo 1 n).item i s _ _ C st λv F Q m l G=>?_;obtain⟨t,rfl⟩:=m;refine(_,Y,Mb l Y Y qc (.int (lo+i),H,I.turned (λb o d e=>G b o (by simp_all) e) u B r x q,(t,?_),(Y,Y),l,λb d=>(p b d).1));simp
 done:=by
  intro X D z A y i j s g H E I p st C;subst D z A;obtain⟨u,B,M,r,x,q⟩:=p a (by simp);exact wpAny_pyNext_range_end (I.ok.hd y) st (by have:n<=i:=C;lia) λF N=>(Y,I.turned (λb o d e=>N b o d e) u B r x q)
 self:=λ_ _ _ _ _ st h=>wpAny_pyIter_rangeiter st h
def PZ(b:FG)(c:TE):TI:=λf H R=>c f H λx d=>∃a,x=.ref a/\(∃e,bZ b d a e)/\R (iL b a) d
def Zt(b:FG)(c:TE):TI:=λf H R=>c f H λx d=>∃a,x=.ref a/\(∃e,cD b d a e)/\R (Itt b a) d
def BW(r:PE X l A):PI X c l (PZ X.K A):=by
 intro d s C H R I h;refine cA (r d s C H _ I h) λv j v=>?_;obtain⟨x,t,i,z,q1⟩:=v;obtain⟨a,e,⟨F,y⟩,q⟩:=q1;subst e;cases z;obtain⟨B,D,p,E⟩:=i.list y;apply wpAny_pyIter_list p.isList;refine(j.heap.objs.size,[j.heap.objs.size],_,_,t,Y,i.kept λb o e=>zV _ e,KP a _,(_,zM _ Y,Y,Y),λb u=>?_,q);have e:b=j.heap.objs.size:=by simpa using u
 subst e;exact i.gm (zq _) (i.cy.fresh (zq _))
def OL(t:PE X l B):PI X c l (Zt X.K B):=by
 intro d s C H R I h;refine cA (t d s C H _ I h) λv j v=>?_;obtain⟨x,u,i,A,q1⟩:=v;obtain⟨a,e,⟨F,z⟩,q⟩:=q1;subst e;cases A;obtain⟨r,D,p,E⟩:=i.tuple z;apply wpAny_pyIter_tuple (show j.heap.IsTuple a r.toArray from p);refine(j.heap.objs.size,[j.heap.objs.size],_,_,u,Y,i.kept λb o e=>zV _ e,OJ a _,(_,zM _ Y,Y,Y),λb y=>?_,q);have e:b=j.heap.objs.size:=by simpa using y
 subst e;exact i.gm (zq _) (i.cy.fresh (zq _))
def SE{lo}(I:Inv X f g H s)(l:-(2^62)<=lo)(r:lo<2^62)(h:-(2^62)<=c)(d:c<2^62)
  (q:R (Itr lo (c-lo).toNat) H):dH X (pyIter (.ref s.heap.objs.size)) (PIE X f g n R) E {s with heap:=s.heap.push {cls:=.type mj,data:=.fields #[.int lo t,.int c u,.int 1 v]},toks:=m}:=by
 apply wpAny_pyIter_range (IsRange.new ..) (small_one l r h d);have a:Inv X f g H {s with heap:=s.heap.push {cls:=.type mj,data:=.fields #[.int lo t,.int c u,.int 1 v]},toks:=m}:=I.kept λb o e=>zV _ e
 refine((s.heap.push {cls:=.type mj,data:=.fields #[.int lo t,.int c u,.int 1 v]}).objs.size,[(s.heap.push {cls:=.type mj,data:=.fields #[.int lo t,.int c u,.int 1 v]}).objs.size],_,_,H,Y,
  a.kept λb o e=>zV _ e,OK _ lo (c-lo).toNat,?_,λb p=>?_,q)
 .have j:lo+((0:Nat))*1=lo:=by simp
  have i:(((c-lo).toNat:Nat))-((0:Nat))=Builtin.Range.rangeSize lo c 1:=by rw[rangeSize_one];split<;>lia
  rw[j,i];exact zM _ rfl
 .have e:b=(s.heap.push {cls:=.type mj,data:=.fields #[.int lo t,.int c u,.int 1 v]}).objs.size:=by simpa using p
  subst e;exact a.gm (zq _) (a.cy.fresh (zq _))
def YG(a:TA):TI:=λd H R=>a d H λc b=>∃j,c=[.int j]/\-(2^62)<=j/\j<2^62/\R (Itr 0 j.toNat) b
def DB(y:Gl X mj)(o:X.mg mj=J)(i:PA X [a] z)(b:starEach [a] X.env=[(O,(eval a X.env))]:=by rfl):PI X f (.Call (.Name mj p) [a] [] c) (YG z):=by
 intro d s x H R I h;refine Call_ (Fm I y o boot_range (PyProof.Rows.callWith_type1 (cA (i c d s x H _ I h) λC B w=>?_) b rfl));obtain⟨D,A,u,l,q1⟩:=w;obtain⟨j,e,q1,q2,q⟩:=q1;subst e;cases l with
 |cons r v=>
  cases v;obtain⟨t,rfl⟩:=r;exact call_range_1 (SE u (by decide) (by decide) q1 q2 (by simpa using q))
def Uo(b:TI)(g:TG)(a:TS):TS:=λD c H=>b c H λe j=>∃W:Nat->Nat->St->Hp->Prop,(∃m,W 0 m c j)/\∀i m c H,W i m c H ->
 (e.stop i H/\D.nx c H)\/(e.go i H/\∃N,(∀f d,N f d->∃h,h<m/\W (i+1) h f d)/\∀x d,e.ir i H x d->g x c d λn l=>a {D with nx:=N,ct:=N,bk:=D.nx} n l)
noncomputable def JB(a:List jr)(h:Heap):LO:=a.filterMap λb=>(h.get? b).map λo=>(b,(o))
def Dz(a:b∈c)(e:h.get? b=U o):(b,(o))∈JB c h:=List.mem_filterMap.mpr (b,a,by rw[e];rfl)
def KQ(a:p∈JB c h):p.1∈c/\h.get? p.1=U p.2:=by
 obtain⟨b,d,e⟩:=List.mem_filterMap.mp a;cases q:h.get? b with
 |none=>simp_all
 |some o=>
  grind
def Inv.pinned(I:Inv X c f H s)(d:∀b∈a,Fd X c H b)(j:∀b∈a,∃o,s.heap.get? b=U o/\∀v,o.data≠ .cell v):Inv X (c++JB a s.heap) f H s:=
 I.pins_of λp h=>(mem_append.mp h).elim (λz=>I.pin p (by simp_all)) λz=>by
  obtain⟨i,e⟩:=KQ z;obtain⟨q,l,r,_⟩:=d p.1 i
  grind
def Inv.unpinned(I:Inv X (b++pl) c H s):Inv X b c H s:=I.pins_of λp a=>I.pin p (by simp_all)
def CY{y}(R:PassesOwn (model X.prog X.w) X.A X.env X.xe)(c:X.calm=gl)(hi:PI X d y wi)(hg:PG X d aC)(l:fk X ar tb)
  (hs:∀x,foldedSetIterable y X.env x=pure x:=by intro _;rfl):PS X (.For d y ar [] a8) (Uo wi aC tb):=by
 intro j a0 P H a4 I aM;refine wpAny_For (cA (hi j a0 P H _ I aM) λa2 s1 h1=>cA h1 λa7 s2 h2=>?_) hs;obtain⟨it,f,N,a5,S,e,I2,T,an,w,W,⟨m0,w0⟩,ab⟩:=h2;subst e;have B:∀{C:Hp},(∀b∈f,C b=J)->∀b∈f,Fd X j C b:=λhn b l=>(hn b l,(w b l).2);refine codeAny_forLoop_any (λn D=>∃i q C,Inv X j q C D/\N i D.heap/\(∀b∈f,C b=J)/\W i n q C) ?_ m0 (0,P,S,I2,an,λb l=>(w b l).1,w0);rintro n s3 ⟨i,p,g,u,G,v,w3⟩;rcases ab i n p g w3 with⟨al,qn⟩|⟨go,ag,hN,step⟩
 .refine wpAny_passesOwn R (cA (T.done X Y Y Y c i j s3 p g X.xe u (B v) G al) λaR s4 ⟨r,I4⟩=>?_);subst r;exact wpAny_execs_nil (p,g,I4,qn)
 .refine wpAny_passesOwn R (cA (T.item X Y Y Y c i j s3 p g X.xe u (B v) G go) λaR s4 ⟨a1,r,h4⟩=>?_);subst r;refine wpAny_passesOwn R (cA h4 λ_ M zq=>?_);obtain⟨x,s,I5,r5,y5,F,az⟩:=zq;refine wpAny_passesOwn R (cA (hg _ M p s x a1 _ (I5.pinned (B az) (T.obj _ _ F)) r5 (step x s y5)) λ_ s6 ⟨a3,H6,I6,q6⟩=>wpAny_passesOwn R (cA (l _ s6 a3 H6 _ I6 q6) λas h E=>?_))
  have t:∀{a:St}{A:Hp},Inv X (j++JB f M.heap) a A h->ag a A->∃m,m<n/\∃i q C,Inv X j q C h/\N i h.heap/\(∀b∈f,C b=J)/\W i m q C:=λ{a A}z Q=>by
   obtain⟨m',hm,w7⟩:=hN a A Q;refine(m',hm,i+1,a,A,z.unpinned,T.keep _ _ _ F λb l o e=>(z.pin (b,(o)) (zR _ (zR _ (Dz l e)))).1,λb l=>?_,w7);obtain⟨o,e,a6⟩:=T.obj _ _ F b l;exact(z.pin (b,(o)) (zR _ (zR _ (Dz l e)))).2.1
  cases as with
  |next=>obtain⟨a,A,z,Q⟩:=E;exact t z Q
  |cont=>obtain⟨a,A,z,Q⟩:=E;exact t z Q
  |brk=>obtain⟨a,A,z,E⟩:=E;exact(a,A,z.unpinned,E)
  |ret a2=>obtain⟨x7,a,A,z,r7,E⟩:=E;exact(x7,a,A,z.unpinned,r7,E)
def CC{a}{ω}{xs}{g:TG}{c:TS}{D:I0}(d:Nat->St->Hp->Prop)(A:d 0 b H)(v:∀i b H,i<=xs.length->d i b H->bZ ω H a xs)
  (f:∀i x b H,xs[i]?=U x->d i b H->g x b H λl o=>c {D with nx:=d (i+1),ct:=d (i+1),bk:=D.nx} l o) (u:∀b H,d xs.length b H->D.nx b H):
  ∃W:Nat->Nat->St->Hp->Prop,(∃m,W 0 m b H)/\∀i m b H,W i m b H ->
   ((iL ω a).stop i H/\D.nx b H)\/((iL ω a).go i H/\∃N,(∀j h,N j h->∃t,t<m/\W (i+1) t j h)/\∀x h,(iL ω a).ir i H x h->g x b h λl o=>c {D with nx:=N,ct:=N,bk:=D.nx} l o):=by
 refine(λi m b H=>m=xs.length-i/\i<=xs.length/\d i b H,(xs.length,by simp,Nat.zero_le _,A),?_);rintro i m b H ⟨rfl,z,p⟩;have q:=v i b H z p;by_cases r:i<xs.length
 .refine .inr ((xs,xs[i],q,by simp),d (i+1),λj h B=>(xs.length-(i+1),by lia,Y,r,B),λx h y=>?_);obtain⟨e,y⟩:=y;subst e;exact f i x b _ (y xs q) p
 .have e:i=xs.length:=by lia
  subst e;exact .inl ((xs,q,zq _),u b H p)
def HW{lo}{n}{g:TG}{c:TS}{D:I0}(d:Nat->St->Hp->Prop)(t:d 0 b H)
  (f:∀i b H,i<n->d i b H->g (.int (lo+i)) b H λl o=>c {D with nx:=d (i+1),ct:=d (i+1),bk:=D.nx} l o) (r:∀b H,d n b H->D.nx b H):
  ∃W:Nat->Nat->St->Hp->Prop,(∃m,W 0 m b H)/\∀i m b H,W i m b H ->
   ((Itr lo n).stop i H/\D.nx b H)\/((Itr lo n).go i H/\∃N,(∀j h,N j h->∃q,q<m/\W (i+1) q j h)/\∀x h,(Itr lo n).ir i H x h->g x b h λl o=>c {D with nx:=N,ct:=N,bk:=D.nx} l o):=by
 refine(λi m b H=>m=n-i/\i<=n/\d i b H,(n,by simp,Nat.zero_le _,t),?_);rintro i m b H ⟨rfl,v,p⟩;by_cases a:i<n
 .refine .inr (a,d (i+1),λj h u=>(n-(i+1),by lia,Y,a,u),λx h y=>?_);obtain⟨e,y⟩:=y;subst e y;exact f i b _ a p
 .have e:i=n:=by lia
  subst e;exact .inl (zq _,r b H p)
def SF(i:St->Hp->Prop)(h:St->Hp->Nat)(o:i f H)
  (g:∀f H,i f H->c f H λb d=>if b=L then n {D with nx:=λa e=>i a e/\h a e<h f H,ct:=λa e=>i a e/\h a e<h f H,bk:=D.nx} f d else D.nx f d)
  (mono:∀f H Q j,(∀b d,Q b d->j b d)->c f H Q->c f H j):SD c n D f H:=by
 refine(λm f H=>m=h f H/\i f H,(_,rfl,o),?_);rintro m f H ⟨rfl,p⟩;refine mono f H _ _ (λb d q=>?_) (g f H p);cases b with
 |true=>exact(_,λa e z=>by obtain⟨r,l⟩:=z;exact (_,l,rfl,r),q)
 |false=>exact q
abbrev R2:=V->V->Hp->VK->Prop
def ee(X:Cx)(f:Value->Value->Sem Value)(r:R2):Prop:=
 ∀a s(b:St)H x y v u Q,Inv X a b H s->RelV x v->RelV y u->r x y H Q ->
  dH X (f v u) (EP X a b Q) X.xe s
def UnR(X:Cx)(f:Value->Sem Value)(r:V->Hp->VK->Prop):Prop:=
 ∀a s(b:St)H x v Q,Inv X a b H s->RelV x v->r x H Q ->
  dH X (f v) (EP X a b Q) X.xe s
def cH(X:Cx)(f:Value)(r:jq->Hp->VK->Prop):Prop:=
 ∀a s(d:St)H c b Q,Inv X a d H s->Vals c b->r c H Q ->
  dH X (call f b) (EP X a d Q) X.xe s
def iH(r:R2)(a b:TE):TE:=λc H Q=>a c H λx d=>b c d λy e=>r x y e Q
def tUn(r:V->Hp->VK->Prop)(a:TE):TE:=λc H Q=>a c H λx b=>r x b Q
def rI(C:Int->Int->Prop)(g:Int->Int->V):R2:=λx y H Q=>ExI x y λi j=>C i j/\Q (g i j) H
def g7(g:Int->Int->V):R2:=λx y H Q=>ExI x y λi j=>Q (g i j) H
def rU(g:Int->V):V->Hp->VK->Prop:=λx H Q=>∃i,x=.int i/\Q (g i) H
def Wl{X}{o m}(C:PE X a o)(B:PE X b m){R:V->V->Hp->Prop}(I:Inv X g c H s)
  (h:o c H λx l=>m c l λy d=>R x y d)  {f:Value->Value->Sem Value}
  (t:∀v u j x y d,Inv X g c d j->RelV x v->RelV y u->R x y d->dH X (f v u) Q X.xe j):
  dH X (eval a X.env) (λv i=>dH X (eval b X.env) (λu e=>dH X (f v u) Q X.xe e) X.xe i) X.xe s:=by
 refine cA (C g s c H _ I h) λv p ⟨x,l,A,q,q1⟩=>cA (B g p c l _ A q1) λu j k=>?_;obtain⟨y,d,z,r,q2⟩:=k;exact t v u j x y d z q r q2
def AX(l:ee X (binaryOp c) r)(j:PE X a B)(e:PE X b f):PE X (.BinOp a c b g) (iH r B f):=by
 intro d s z H Q I h;exact wpAny_BinOp (Wl j e I h λv u i x y o t A p q=>l d i z o x y v u Q t A p q)
def DW(j:UnR X (unaryOp b) r)(t:PE X a q):PE X (.UnaryOp b a c) (tUn r q):=by
 intro d s e H Q I h;exact UnaryOp_ (cA (t d s e H _ I h) λv i z=>by obtain⟨x,l,p,o,q1⟩:=z;exact j d i e l x v Q p o q1)
def i5{f}{C}{g:Int->Int->Int}
  (a:∀i j t u s(Q:VS)(E:VS),C i j->Q (.int (g i j) s.toks) {s with toks:=s.toks+1}->dH X (f (.int i t) (.int j u)) Q E s):
  ee X f (rI C λi j=>.int (g i j)):=by
 rintro d s p H x y v u Q I l e ⟨i,j,rfl,rfl,o,q⟩;obtain⟨t,rfl⟩:=l;obtain⟨h,rfl⟩:=e;exact a i j t h s _ _ o (.int (g i j),H,I.tok _,(_,Y),q)
def OM{f}{g:Int->Int->Int}
  (a:∀i j t u s(Q:VS)(E:VS),Q (.int (g i j) s.toks) {s with toks:=s.toks+1}->dH X (f (.int i t) (.int j u)) Q E s):
  ee X f (g7 λi j=>.int (g i j)):=by
 rintro d s o H x y v u Q I l e ⟨i,j,rfl,rfl,q⟩;obtain⟨t,rfl⟩:=l;obtain⟨h,rfl⟩:=e;exact a i j t h s _ _ (.int (g i j),H,I.tok _,(_,Y),q)
def Up{f}{g:Int->Int->Bool}
  (a:∀i j t u s(Q:VS)(E:VS),Q (.bool (g i j)) s->dH X (f (.int i t) (.int j u)) Q E s):
  ee X f (g7 λi j=>.bl (g i j)):=by
 rintro d s o H x y v u Q I l e ⟨i,j,rfl,rfl,q⟩;obtain⟨t,rfl⟩:=l;obtain⟨h,rfl⟩:=e;exact a i j t h s _ _ (.bl (g i j),H,I,Y,q)
def Zu(i j:Int):Prop:=0<j/\j<1073741824
def Wm(i j:Int):Prop:=0<=j/\j<=1000000/\i.natAbs<2^64
def CMul(i j:Int):Prop:=(-(2^64)<i/\i<2^64)\/(-(2^64)<j/\j<2^64)
def CMul.ok{i j}(h:CMul i j):IntMulOk i j:=by
 rcases h with⟨a,d⟩|⟨a,d⟩
 .exact .of_left (intBits_le_64 a d)
 .exact .of_right (intBits_le_64 a d)
def ON(k):(0:Int)<=2^k:=by
 grind
def CD:ee X (binaryOp .Add) (g7 λi j=>.int (i+j)):=OM λ_ _ _ _ _ _ _ q=>add_int q
def CZ:ee X (binaryOp .Sub) (g7 λi j=>.int (i-j)):=OM λ_ _ _ _ _ _ _ q=>sub_int q
def JC:ee X (binaryOp .Mult) (rI CMul λi j=>.int (i*j)):=i5 λ_ _ _ _ _ _ _ a q=>mul_int q a.ok
def Pa:ee X (binaryOp .FloorDiv) (rI Zu λi j=>.int (i/j)):=i5 λi j _ _ _ _ _ a q=>by
 have d:=a.1;have e:=a.2;exact floordiv_int (by lia) (by rwa[Int.fdiv_eq_ediv_of_nonneg i (by lia)]) (.inl (PyProof.noPylong_small (by lia)))
def Fp:ee X (binaryOp .Mod) (rI (λ_ j=>0<j) λi j=>.int (i%j)):=i5 λi j _ _ _ _ _ a q=>by
 exact mod_int' (by lia) (by rwa[Int.fmod_eq_emod_of_nonneg i (by lia)])
def OO:ee X (binaryOp .Pow) (rI Wm λi j=>.int (i^j.toNat)):=i5 λ_ _ _ _ _ _ _ a q=>pow_int_small a.1 a.2.1 a.2.2 q
def LQ:ee X (binaryOp .LShift) (rI Wm λi j=>.int (i*2^j.toNat)):=i5 λ_ _ _ _ _ _ _ a q=>lshift_int_small a.1 a.2.1 a.2.2 q
def Wn:ee X (binaryOp .RShift) (rI (λ_ j=>0<=j) λi j=>.int (i/2^j.toNat)):=i5 λi j _ _ _ _ _ a q=>
 rshift_int a (by rwa[Int.fdiv_eq_ediv_of_nonneg i (ON _)])
def Ca:ee X (binaryOp .BitAnd) (g7 λi j=>.int (Builtin.bitAnd i j)):=OM λ_ _ _ _ _ _ _ q=>and_int q
def JD:ee X (binaryOp .BitOr) (g7 λi j=>.int (Builtin.bitOr i j)):=OM λ_ _ _ _ _ _ _ q=>or_int q
def SG:ee X (binaryOp .BitXor) (g7 λi j=>.int (Builtin.bitXor i j)):=OM λ_ _ _ _ _ _ _ q=>xor_int q
def Pb:ee X (inplaceOp .Add) (g7 λi j=>.int (i+j)):=OM λ_ _ _ _ _ _ _ q=>iadd_int q
def Wo:ee X (inplaceOp .BitOr) (g7 λi j=>.int (Builtin.bitOr i j)):=OM λ_ _ _ _ _ _ _ q=>ior_int q
def unI{f}{g:Int->Int}
  (a:∀i t s(Q:VS)(E:VS),Q (.int (g i) s.toks) {s with toks:=s.toks+1}->dH X (f (.int i t)) Q E s):
  UnR X f (rU λi=>.int (g i)):=by
 rintro d s h H x v Q I e ⟨i,rfl,q⟩;obtain⟨t,rfl⟩:=e;exact a i t s _ _ (.int (g i),H,I.tok _,(_,Y),q)
def Dc:UnR X (unaryOp .USub) (rU λi=>.int (-i)):=unI λ_ _ _ _ _ q=>neg_int q
def LR:UnR X (unaryOp .Invert) (rU λi=>.int (Builtin.bitNot i)):=unI λ_ _ _ _ _ q=>invert_int q
noncomputable def YH:V->V->Bool
 |.bQ,.bQ=>L|.bQ,.int _=>L|.int _,.bQ=>L|.bQ,.bl _=>L|.bl _,.bQ=>L|.bQ,.str _=>L|.str _,.bQ=>L
 |.int _,.int _=>L|.bl _,.bl _=>L|.str _,.str _=>L|.hE _,.hE _=>L
 |.int _,.str _=>L|.str _,.int _=>L|.bl _,.str _=>L|.str _,.bl _=>L
 |_,_=>O
def rEq:R2:=λx y H Q=>YH x y=L/\Q (.bl (decide (x=y))) H
def rNe:R2:=λx y H Q=>YH x y=L/\Q (.bl (!decide (x=y))) H
def Ur:decide (V.int i=V.int j)=(i==j):=by
 grind
def Wq:decide (V.bl i=V.bl j)=(i==j):=by
 grind
def Us:decide (V.str i=V.str j)=(i==j):=by
 grind
def Pc:decide (V.hE i=V.hE j)=(i.toList==j.toList):=by
 rw[Bool.eq_iff_iff]
 simp_all
def Av(I:Inv X b c H s)(q:Q (.bl k) H)(e:k=a):EP X b c Q (.bool a) s:=by
 subst e;exact(.bl k,H,I,Y,q)
def Ao:ee X (compareOp .Eq) rEq:=by
 rintro l s o H x y v u Q I h a ⟨e,q⟩;cases x with
 |bQ=>
  cases h;cases y with
  |bQ=>cases a;exact PySem.EqNone.eq_none_none (Av I q (by simp))
  |bl j=>cases a;exact PySem.EqNone.eq_none_bool (Av I q (by simp))
  |int j=>obtain⟨d,rfl⟩:=a;exact PySem.EqNone.eq_none_int (Av I q (by simp))
  |str j=>obtain⟨d,rfl⟩:=a;exact PySem.EqNone.eq_none_str (Av I q (by simp))
  |_=>exact absurd (e) Bool.false_ne_true
 |bl i=>
  cases h;cases y with
  |bQ=>cases a;exact PySem.EqNone.eq_bool_none (Av I q (by simp))
  |bl j=>cases a;exact eq_bool (Av I q Wq)
  |str j=>obtain⟨d,rfl⟩:=a;exact PySem.EqMixed.eq_bool_str (Av I q (by simp))
  |_=>exact absurd (e) Bool.false_ne_true
 |int i=>
  obtain⟨t,rfl⟩:=h;cases y with
  |bQ=>cases a;exact PySem.EqNone.eq_int_none (Av I q (by simp))
  |int j=>obtain⟨d,rfl⟩:=a;exact eq_int (Av I q Ur)
  |str j=>obtain⟨d,rfl⟩:=a;exact PySem.EqMixed.eq_int_str (Av I q (by simp))
  |_=>exact absurd (show O=L from e) Bool.false_ne_true
 |str i=>
  obtain⟨t,rfl⟩:=h;cases y with
  |bQ=>cases a;exact PySem.EqNone.eq_str_none (Av I q (by simp))
  |bl j=>cases a;exact PySem.EqMixed.eq_str_bool (Av I q (by simp))
  |int j=>obtain⟨d,rfl⟩:=a;exact PySem.EqMixed.eq_str_int (Av I q (by simp))
  |str j=>obtain⟨d,rfl⟩:=a;exact eq_str (Av I q Us)
  |_=>exact absurd (e) Bool.false_ne_true
 |hE i=>
  obtain⟨t,rfl⟩:=h;cases y with
  |hE j=>obtain⟨d,rfl⟩:=a;exact W.eq_bytes (Av I q Pc)
  |_=>exact absurd (e) Bool.false_ne_true
 |_=>cases y<;>exact absurd (show O=L from e) Bool.false_ne_true
def Ed:ee X (compareOp .NotEq) rNe:=by
 rintro l s o H x y v u Q I h a ⟨e,q⟩;cases x with
 |bQ=>
  cases h;cases y with
  |bQ=>cases a;exact PySem.EqNone.ne_none_none (Av I q (by simp))
  |bl j=>cases a;exact PySem.EqNone.ne_none_bool (Av I q (by simp))
  |int j=>obtain⟨d,rfl⟩:=a;exact PySem.EqNone.ne_none_int (Av I q (by simp))
  |str j=>obtain⟨d,rfl⟩:=a;exact PySem.EqNone.ne_none_str (Av I q (by simp))
  |_=>exact absurd (e) Bool.false_ne_true
 |bl i=>
  cases h;cases y with
  |bQ=>cases a;exact PySem.EqNone.ne_bool_none (Av I q (by simp))
  |bl j=>cases a;exact ne_bool (Av I q (by grind))
  |str j=>obtain⟨d,rfl⟩:=a;exact PySem.EqMixed.ne_bool_str (Av I q (by simp))
  |_=>exact absurd (e) Bool.false_ne_true
 |int i=>
  obtain⟨t,rfl⟩:=h;cases y with
  |bQ=>cases a;exact PySem.EqNone.ne_int_none (Av I q (by simp))
  |int j=>obtain⟨d,rfl⟩:=a;exact ne_int (Av I q (by grind))
  |str j=>obtain⟨d,rfl⟩:=a;exact PySem.EqMixed.ne_int_str (Av I q (by simp))
  |_=>exact absurd (e) Bool.false_ne_true
 |str i=>
  obtain⟨t,rfl⟩:=h;cases y with
  |bQ=>cases a;exact PySem.EqNone.ne_str_none (Av I q (by simp))
  |bl j=>cases a;exact PySem.EqMixed.ne_str_bool (Av I q (by simp))
  |int j=>obtain⟨d,rfl⟩:=a;exact PySem.EqMixed.ne_str_int (Av I q (by simp))
  |str j=>obtain⟨d,rfl⟩:=a;exact ne_str (Av I q (by grind))
  |_=>exact absurd (e) Bool.false_ne_true
 |hE i=>
  obtain⟨t,rfl⟩:=h;cases y with
  |hE j=>obtain⟨d,rfl⟩:=a;exact W.ne_bytes (Av I q (congrArg not Pc))
  |_=>exact absurd (e) Bool.false_ne_true
 |_=>cases y<;>exact absurd (e) Bool.false_ne_true
def Ff:ee X (compareOp .Lt) (g7 λi j=>.bl (decide (i<j))):=Up λ_ _ _ _ _ _ _ q=>lt_int q
def Eo:ee X (compareOp .LtE) (g7 λi j=>.bl (decide (i<=j))):=Up λ_ _ _ _ _ _ _ q=>le_int q
def IW:ee X (compareOp .Gt) (g7 λi j=>.bl (decide (j<i))):=Up λ_ _ _ _ _ _ _ q=>gt_int q
def Mc:ee X (compareOp .GtE) (g7 λi j=>.bl (decide (j<=i))):=Up λ_ _ _ _ _ _ _ q=>ge_int q
def AN(b)(h:c≠ .In:=by decide)(e:c≠ .NotIn:=by decide):behindInMarks c b=O:=by
 have d:(c==CmpOp.In)=O:=by cases c<;>first|rfl|trivial
 have a:(c==CmpOp.NotIn)=O:=by cases c<;>first|rfl|trivial
 cases b<;>simp[behindInMarks,d,a]
def Cn(l:ee X (compareOp c) r)(j:PE X a C)(e:PE X b f)(t:behindInMarks c b=O):PE X (.Compare a [c] [b] g) (iH r C f):=by
 intro d s A H Q I h;exact wpAny_Compare1 (Wl j e I h λv u i x y o z B p q=>l d i A o x y v u Q z B p q) t
def Pd(t:TE):TT:=λb H Q=>t b H λx a=>ExB x λk=>Q k a
def AL(q:ee X (compareOp f) r)(p:PE X a g)(l:PE X b m)(B:behindInMarks f b=O):PT X (.Compare a [f] [b] n) (Pd (iH r g m)):=by
 intro d s i H Q I h
 refine wpAny_isTrue_Compare1 (cA (p d s i H _ I h) λv F ⟨x,j,D,A,q1⟩=>cA (l d F i j _ D q1) λu o ⟨y,t,C,G,q2⟩=>
  cA (q d o i t x y v u _ C A G q2) λc s3 ⟨z,w,E,r3,k,e,q3⟩=>?_) B
 subst e;cases r3;exact zX (w,E,q3)
def SH(r a:R2)(b c d:TE):TE:=λe H Q=>b e H λx g=>c e g λy h=>r x y h λz f=>∃k,z=.bl k /\
 (if k=L then d e f λj i=>a y j i Q else Q (.bl O) f)
def Ep(m:ee X (compareOp d) r)(n:ee X (compareOp f) o)(g:PE X a p)(i:PE X b q)(j:PE X c t)
  (l:lastMarks [d,f] [b,c]=O:=by with_unfolding_all rfl):PE X (.Compare a [d,f] [b,c] ag) (SH r o p q t):=by
 intro w s z H Q I h
 refine Compare_chain (cA (g w s z H _ I h) λv s1 ⟨x,D,M,S,q1⟩=>chain_link (cA (i w s1 z D _ M q1) λu s2 ⟨y,E,N,C,q2⟩=>
  cA (m w s2 z E x y v u _ N S C q2) λab s3 ⟨al,A,B,r3,k,e,q3⟩=>?_)) l
 subst e;cases r3;apply zX;cases k with
 |false=>exact ite_ff (.bl O,A,B,rfl,q3)
 |true=>exact ite_tt (chain_last (cA (j w s3 z A _ B q3) λw' s4 zw=>by obtain⟨z',G,P,T,R⟩:=zw;exact n w s4 z G y z' u w' Q P C T R))
def Er(m:ee X (compareOp d) r)(n:ee X (compareOp f) o)(g:PE X a p)(i:PE X b tb)(j:PE X c tc)
  (l:lastMarks [d,f] [b,c]=O:=by with_unfolding_all rfl):PT X (.Compare a [d,f] [b,c] ar) (Pd (SH r o p tb tc)):=by
 intro q s t H al I h
 refine isTrue_chain (cA (g q s t H _ I h) λab s1 ⟨ag,z,D,T,q1⟩=>test_link (cA (i q s1 t z _ D q1) λu s2 ⟨y,A,E,x,q2⟩=>
  cA (m q s2 t A ag y ab u _ E T x q2) λan s3 ⟨as,v,w,r3,k,e,q3⟩=>?_)) l
 subst e;cases r3;apply zX;cases k with
 |false=>
  obtain⟨k',N,Q⟩:=q3;cases N;exact ite_ff (v,w,Q)
 |true=>
  refine ite_tt (test_last (cA (j q s3 t v _ w q3) λw' s4 ⟨z',B,G,r4,R⟩=>cA (n q s4 t B y z' u w' _ G x r4 R) λd' s5 zy=>?_));obtain⟨z2,C,M,r5,k2,P,S⟩:=zy;subst P;cases r5;exact zX (C,M,S)
def HX:(sizeLine:Nat)<2^63:=by trivial
def Bh:ee X (binaryOp .Add) (λx y H Q=>∃i j,x=.str i/\y=.str j/\i.length+j.length<=sizeLine/\Q (.str (i++j)) H):=by
 rintro a s p H x y v u Q I h d ⟨i,j,rfl,rfl,l,q⟩;obtain⟨t,rfl⟩:=h;obtain⟨e,rfl⟩:=d;exact add_str (λe o=>(.str (i++j),H,I.tok _,(_,Y),q)) l
def Bc(r:Vals [x] b):∃u,b=[u]/\RelV x u:=by
 cases r with
 |cons d a=>cases a;simp_all
def Gj(r:Vals [x,y] b):∃u a,b=[u,a]/\RelV x u/\RelV y a:=by
 cases r with
 |cons h e=>
  cases e with
  |cons r3 d=>cases d;grind
def Qj(e:X.calm=L):cH X (.builtin oE) (λb H Q=>∃i j,b=[.int i,.int j]/\Q (.int (if j>i then j else i)) H):=by
 rintro d s v H b h Q I r ⟨i,j,rfl,q⟩;obtain⟨u,l,rfl,⟨t,rfl⟩,⟨x,rfl⟩⟩:=Gj r;refine max_two_ints (I.ok.hd e) λp o k=>(_,H,I.kept k,?_,q);by_cases a:j>i
 .rw[zg a,zg a];exact(_,Y)
 .rw[zh a,zh a];exact(_,Y)
def Qk(e:X.calm=L):cH X (.builtin "min") (λb H Q=>∃i j,b=[.int i,.int j]/\Q (.int (if j<i then j else i)) H):=by
 rintro d s v H b h Q I r ⟨i,j,rfl,q⟩;obtain⟨u,l,rfl,⟨t,rfl⟩,⟨x,rfl⟩⟩:=Gj r;refine min_two_ints (I.ok.hd e) λp o k=>(_,H,I.kept k,?_,q);by_cases a:j<i
 .rw[zg a,zg a];exact(_,Y)
 .rw[zh a,zh a];exact(_,Y)
def HY:cH X (.type oa) (λb H Q=>(∃i,b=[.int i]/\Q (.int i) H)\/∃k,b=[.bl k]/\Q (.int (if k then 1 else 0)) H):=by
 intro a s j H b e Q I r h;rcases h with⟨i,rfl,q⟩|⟨k,rfl,q⟩
 .obtain⟨u,rfl,t,rfl⟩:=Bc r;exact call_int_int (.int i,H,I,(_,Y),q)
 .obtain⟨u,rfl,d⟩:=Bc r;cases d;exact call_int_bool (.int (if k then 1 else 0),H,I.tok _,(_,Y),q)
def LS:cH X (.type mQ) (λb H Q=>∃i,b=[.int i]/\i.natAbs.log2<1920/\Q (.str (toString i)) H):=by
 rintro a s h H b e Q I r ⟨i,rfl,d,q⟩;obtain⟨u,rfl,t,rfl⟩:=Bc r;exact PySem.P.str_of_int d (.str _,H,I.tok _,(_,Y),q)
structure ObjM(h:Heap)(x dx C:jr)(mA:SV):Prop where
 obj:h.get? x=U (W.instObj C dx)
 ns:h.Ns1 dx mA
 ne:dx≠x
def KR{h:PySem.Heap}{j:SV}(n:h.Ns1 b j):∃l,h.get? b=U l/\∀d,W.lookIn d l=U (j d):=by
 obtain⟨o,p,ep,r,u,v,_,x⟩:=n;refine(o,r,λd=>?_);have e:=x d;unfold nsFind findBy at e;rw[←Array.find?_toList]at e;unfold W.lookIn;rw[u]
 dsimp only
 split
 .rename_i y q;rw[q]at e;exact congrArg U e
 .rename_i q;rw[q]at e
  have a:p.toList.any (·.refKey)=O:=by
   rw[List.any_eq_false];intro y B;obtain⟨z,t,i⟩:=v y (by simp_all);simp[DictEntry.refKey,i]
  have A:¬ p.toList.any (·.refKey)=L:=by rw[a];exact Bool.false_ne_true
  rw[zh A];exact congrArg U e
def ObjM.look(I:ObjM h x b C c):∃d,W.InstAt h x (W.instObj C b) C (U d)/\∀a,W.lookIn a d=U (c a):=
 let ⟨d,e,i⟩:=KR I.ns
 (d,(I.obj,rfl,rfl,e),i)
def Ut(X:c.In s.heap)(I:ObjM s.heap x g C f)(i:W.plainGet c C b=L)(j:W.hasDictIn c C=L)
  (l:W.findIn c (.ref C) b=U J) (e:f b=U v) (a:W.handedIn v=L) (h:Q v {s with toks:=s.toks+1}):
  wpAny (model n w) A (getAttr (.ref x) b m) Q E s:=by
 obtain⟨o,p,d⟩:=I.look;exact W.get_value X p (W.plainGet_of i).1 (W.findObj_own j l Y (by rw[d,e])) a h
def SI(X:c.In s.heap)(I:ObjM s.heap x l C g)(a:W.plainGet c C b=L)
  (e:W.findIn c (.ref C) b=U (U (.ref f))) (ht:W.isFn c (.ref f)=L) (j:g b=J) (h:Q (.ref f,([.ref x])) s):
  wpAny (model m w) A (getMethod (.ref x) b pl) Q E s:=by
 obtain⟨d,n,i⟩:=I.look;exact W.method_fn X n (W.plainGet_of a).1 (W.plainGet_of a).2 e (beq_iff_eq.mp ht) (by show(W.lookIn b d).map (·.isSome)=U O;simp_all) h
def Uu(X:f.In s.heap)(I:ObjM s.heap x m C n)
  (G:W.findIn f (.ref C) lh=U (U (.builtin jU))) (q:W.plainOver f C=L) (ht:W.takerIn f C g=U J) (t:W.hasDictIn f C=L)
  (H:PySem.Within n M) (o:M.length<=sizeLine)
  (h:∀c,ObjM c x m C (λy=>if y=g then U v else n y)->Heap.SameBut m s.heap c->Q () {s with heap:=c,toks:=s.toks+2}):
  wpAny (model N w) A (setAttr (.ref x) g v) Q E s:=by
 obtain⟨z,P,u⟩:=I.look;refine W.set_plain X P G (W.osa_open X P q ht λb=>?_);obtain⟨D,j,i⟩:=W.any_some t;refine zp (zo (zp (zp (wpAny_loadPart I.obj (zp (W.Looks.here (W.looks_clsIn X j) ?_))))));rw[i];refine zo (zp (zo (zp (wpAny_nsSet1 I.ns λc d a=>?_))));obtain⟨B,l,p,hoD,e,r⟩:=d.count (PySem.Within.cons g v H);exact zp (wpAny_lookBehind hoD (by rw[e];exact pastItsLine_dict (by grind)) (zo (h _ ((a.2 _ (Ne.symm I.ne)).trans I.obj,d,I.ne) a)))
def Md(X:b.In s.heap)(e:W.makesIn b C=L)
  (j:W.findIn b (.ref C) jF=U (U (.ref f))) (i:W.typeIn b (.ref f)=U (.type mU))
  (h:codeAny (model n w) (A.under (.builtin lB (.ref C::m,c))) (.call (.ref f) (.ref (s.heap.objs.size+1)::m,c)) (W.InitBack (s.heap.objs.size+1) R)
   {s with heap:=(s.heap.push W.emptyDict).push (W.instObj C s.heap.objs.size)}):
  codeAny (model n w) A (.call (.ref C) (m,c)) R s:=by
 obtain⟨o,g,d,t,l⟩:=s;exact W.make_core (W.makes_of X e) (W.looks_findIn X j) (λa=>W.bind_fn X a i) (.inl Y) h
noncomputable def BB(f:Str)(v:V):List (Str×V)->List (Str×V)
  | []=>[(f,(v))]
  | (g,x)::r=>if g=f then (g,(v))::r else (g,(x))::BB f v r
theorem Ax(f g)(v):∀fs,(BB f v fs).lookup g=if g=f then U v else fs.lookup g
  | []=>by
    show List.lookup g [(f,(v))]=_
    grind
  | (k,x)::r=>by
    rw[show BB f v ((k,(x))::r)=(if k=f then (k,(v))::r else (k,(x))::BB f v r)from rfl];by_cases a:k=f
    · rw[zg a]
      by_cases h:g=k
      · have d:=beq_iff_eq.mpr h
        simp[List.lookup,d,zg (h.trans a)]
      · have d:=beq_eq_false_iff_ne.mpr h
        simp[List.lookup,d,zh (λe:g=f=>h (e.trans a.symm))]
    · rw[zh a]
      by_cases h:g=k
      · have d:=beq_iff_eq.mpr h
        simp[List.lookup,d,zh (λe=>a (h.symm.trans e))]
      · simp[List.lookup,beq_eq_false_iff_ne.mpr h]
        exact Ax f g v r
theorem HZ(f)(v):∀fs,f∈(BB f v fs).map (·.1)/\∀g,g∈fs.map (·.1)->g∈(BB f v fs).map (·.1)
  | []=>(by simp[BB],λg h=>by simp at h)
  | (k,x)::r=>by
    obtain⟨a,d⟩:=HZ f v r;rw[show BB f v ((k,(x))::r)=(if k=f then (k,(v))::r else (k,(x))::BB f v r)from rfl]
    grind
theorem Ay(f)(v):∀fs,(BB f v fs).length<=fs.length+1
  | []=>by simp[BB]
  | (k,x)::r=>by
    have d:=Ay f v r;rw[show BB f v ((k,(x))::r)=(if k=f then (k,(v))::r else (k,(x))::BB f v r)from rfl];by_cases a:k=f
    · rw[zg a,length_cons,length_cons];simp_all
    · rw[zh a,length_cons,length_cons];simp_all
def eJ.some_of(r:eJ (U v) o):∃u,o=U u/\RelV v u:=by
 cases o with
 |none=>trivial
 |some u=>exact(u,rfl,r)
def eJ.none_of(r:eJ J o):o=J:=by
 cases o with
 |none=>rfl
 |some u=>trivial
def KS(r:RelV v u):W.handedIn u=L:=by
 cases v with
 |bQ=>cases (r);rfl
 |bl b=>cases (r);rfl
 |int i=>obtain⟨t,e⟩:=(r);cases e;rfl
 |str x=>obtain⟨t,e⟩:=(r);cases e;rfl
 |hE b=>obtain⟨t,e⟩:=(r);cases e;rfl
 |jd b=>obtain⟨t,e⟩:=(r);cases e;rfl
 |ref a=>cases (r);rfl
 |ty n=>cases (r);rfl
def D1(j:eA P w H h)(e:H a=U (.ins C b fs)):∃i,ObjM h a b C i/\(∀f,eJ (fs.lookup f) (i f))/\PySem.Within i (fs.map (·.1))/\fs.length<=1000/\H b=U (.own a):=by
 obtain⟨d,z,o,l,i,n,r,q⟩:=(j a _ e);exact(i,(l,n,o),r,q,z,d)
structure gy(K:FG)(C:jr):Prop where
 pg:W.plainGet K C Str.empty=L
 hd:W.hasDictIn K C=L
 po:W.plainOver K C=L
 sa:W.findIn K (.ref C) lh=U (U (.builtin jU))
def gy.get(c:gy a C)(f):W.plainGet a C f=L:=c.pg
def dy(a:FG)(C:jr)(f:Str):Prop:=W.findIn a (.ref C) f=U J
def dy.taker(n:dy a C f):W.takerIn a C f=U J:=by
 unfold W.takerIn;rw[show W.findIn a (.ref C) f=U J from n];rfl
structure OP(K:FG)(C:jr)(m:Str)(f:jr):Prop where
 at_:W.findIn K (.ref C) m=U (U (.ref f))
 fn:W.isFn K (.ref f)=L
 kp:W.keepIn K (.ref f)=L
def OQ(I:Inv X g m H s)(e:H a=U (.ins C p fs))(c:gy X.K C)(n:dy X.K C f)(l:fs.lookup f=U v)
  (h:∀u i,Inv X g m H i->RelV v u->Q u i):wpAny (model X.prog X.w) A (getAttr (.ref a) f b) Q E s:=by
 obtain⟨o,q,r,_,_,_⟩:=D1 I.cy e;obtain⟨u,j,d⟩:=eJ.some_of (by rw[←l];exact r f);exact Ut I.dZ q (c.get f) c.hd n j (KS d) (h u _ (I.tok _) d)
def JE(I:Inv X b i H s)(e:H a=U (.ins C f fs))(c:gy X.K C)(k:OP X.K C m g)(l:fs.lookup m=J)
  (h:Q (.ref g,([.ref a])) s):wpAny (model X.prog X.w) A (getMethod (.ref a) m pl) Q E s:=by
 obtain⟨d,j,r,_,_,_⟩:=D1 I.cy e;exact SI I.dZ j (c.get m) k.at_ k.fn (eJ.none_of (by rw[←l];exact r m)) h
def OR(I:Inv X w N H s)(e:H a=U (.ins C m fs))(c:gy X.K C)(n:dy X.K C f)(P:fs.length<1000)(M:RelV y u)
  (h:∀l,Inv X w N (upd H a (.ins C m (BB f y fs))) l->Q () l):wpAny (model X.prog X.w) A (setAttr (.ref a) f u) Q E s:=by
 obtain⟨S,R,r,i,_,j⟩:=D1 I.cy e;have v:(fs.map (·.1)).length<=sizeLine:=by rw[AO,sizeLine_eq];lia
 refine Uu I.dZ R c.sa c.po n.taker c.hd i v λt d G=>h _ ?_;have B:∃o,t.get? m=U o:=let ⟨o,_,_,D,_⟩:=d.ns;(o,D)
 apply I.write (x:=a) (e:=m) (by rw[e];exact True.intro) (.inr j) (λb q p z=>(G.2 b p).trans z) B;refine(by rw[AE R.ne];exact j,?_,R.ne,d.obj,_,d.ns,λg=>?_,λg F=>?_)
 .have:=Ay f y fs;lia
 .rw[Ax];by_cases q:g=f
  .rwa[zg q,zg q]
  .rw[zh q,zh q];exact r g
 .by_cases q:g=f
  .rw[q];exact(HZ f y fs).1
  .refine(HZ f y fs).2 g (i g λz=>F ?_)
   simp[*]
def Inv.made(I:Inv X c f H s):Inv X c f (upd (upd H s.heap.objs.size (.own (s.heap.objs.size+1))) (s.heap.objs.size+1) (.ins C s.heap.objs.size []))
  {s with heap:=(s.heap.push W.emptyDict).push (W.instObj C s.heap.objs.size)}:=by
 have a:(s.heap.push W.emptyDict).get? s.heap.objs.size=U W.emptyDict:=zM s.heap rfl
 have h:((s.heap.push W.emptyDict).push (W.instObj C s.heap.objs.size)).get? (s.heap.objs.size+1)=U (W.instObj C s.heap.objs.size):=by
  have:=zM (s.heap.push W.emptyDict) (o:=W.instObj C s.heap.objs.size) rfl
  rwa[Heap.size_push]at this
 refine(I.laid (o:=.own (s.heap.objs.size+1)) (t':=s.toks) (λb u q=>zV _ q) (zq _) (_,a)).laid (λb u q=>zV _ q) (by simp) ?_;have d:s.heap.objs.size≠s.heap.objs.size+1:=zw (by simp);refine(by rw[AE d,bA],Nat.zero_le _,d,h,λ_=>J,(Heap.Ns1.of_empty ((W.emptyDict,#[],_,a,Y,(λe i=>absurd i (by simp)),λ_=>rfl))).at λo q=>zV _ q,λ_=>True.intro,λy j=>absurd Y j)
def Pe(d:attributeBase e f b (eval e b)=eval e b)
  (h:wpAny (model c w) A (eval e b) (λo a=>wpAny (model c w) A (getAttr o f L) Q E a) E s):wpAny (model c w) A (eval (.Attribute e f g) b) Q E s:=
 Attribute_any_ h (by rw[arm_eval_Attribute,d])
inductive ExF(b:FG)(x:V)(H:Hp)(f:Str)(k:V->Prop):Prop
 |mk a C dx fs v(c:x=.ref a)(d:H a=U (.ins C dx fs))(e:gy b C)(g:dy b C f)(h:fs.lookup f=U v)(q:k v):ExF b x H f k
def Zv(b:FG)(a:TE)(f:Str):TE:=λd H Q=>a d H λx c=>ExF b x c f λv=>Q v c
def Zx(b:FG)(c d:TE)(f:Str):TS:=λD e H=>d e H λy i=>c e i λx g=>∃a C h fs,x=.ref a/\g a=U (.ins C h fs)/\gy b C/\dy b C f/\fs.length<1000 /\
 D.nx e (upd g a (.ins C h (BB f y fs)))
def Ae(p:PE X e B)(o:attributeBase e f X.env (eval e X.env)=eval e X.env):PE X (.Attribute e f b) (Zv X.K B f):=by
 intro d s z H Q I h;refine Pe o (cA (p d s z H _ I h) λu G w=>?_);obtain⟨x,i,y,A,a,C,F,fs,v,D,r,c,n,l,q⟩:=w;subst D;obtain rfl:u=Value.ref a:=A;exact OQ y r c n l λg E t j=>(v,i,t,j,q)
def Cb(p:PE X o G)(E:PE X b P)(g:swapsWith b (U (.Attribute o f w)) m.line X.env=pure O):PS X (.Assign [.Attribute o f w] b m) (Zx X.K G P f):=by
 intro d s e H D I h;refine plainObj_wpAny_Assign_Attribute (cA (E d s e H _ I h) λu A ⟨y,i,v,r,q⟩=>cA (p d A e i _ v q) λF R u=>?_) g;obtain⟨x,M,t,B,a,C,N,fs,Q,j,c,n,l,q2⟩:=u;subst Q;obtain rfl:F=Value.ref a:=B;exact OR t j c n l r λs3 z=>(e,_,z,q2)
inductive eh(b:FG)(H:Hp):V->Value->Prop where
 |bQ:eh b H .bQ (.type "NoneType")
 |bl x:eh b H (.bl x) (.type "bool")
 |int i:eh b H (.int i) (.type oa)
 |str x:eh b H (.str x) (.type mQ)
 |jd x:eh b H (.jd x) (.type "float")
 |lst{a}{xs}(e:H a=U (.lst xs)):eh b H (.ref a) (.type jH)
 |dz{a}{o}{xs}(e:H a=U (.dz o (.lst xs))):eh b H (.ref a) (.type jH)
 |tup{a}{xs}(e:H a=U (.tup xs)):eh b H (.ref a) (.type jN)
 |dK{a}{kvs}(e:H a=U (.dK kvs)):eh b H (.ref a) (.type kg)
 |dT{a}{kvs}(e:H a=U (.dT kvs)):eh b H (.ref a) (.type kg)
 |ins{a C dx}{fs}(e:H a=U (.ins C dx fs))(c:gy b C)(d:W.findIn b (.ref C) lU=U (U (.builtin jw)))
   (g:W.specialIn b (.builtin jw) mh=U (U (.builtin jI))) (h:W.takesIn b (.builtin jw)=U L)
   (f:W.mroIn b C (.type lC)=U L):eh b H (.ref a) (.ref C)
def KU(I:Inv X ba σ H s)(j:RelV x u)(ty:eh X.K H x t)(e:W.kitOne X.K t c=some b)(h:∀tk,Q (.bool b) {s with toks:=tk}):
  wpAny (model X.prog X.w) A (call (.builtin jR) [u,c]) Q E s:=by
 cases ty with
 |bQ=>cases (j);exact W.kia_one W.kitx_none I.dZ True.intro e (λz=>nomatch z) h
 |bl y=>cases (j);exact W.kia_one W.kitx_bool I.dZ True.intro e (λz=>nomatch z) h
 |int i=>obtain⟨t,q⟩:=(j);cases q;exact W.kia_one W.kitx_int I.dZ True.intro e (λz=>nomatch z) h
 |str y=>obtain⟨t,q⟩:=(j);cases q;exact W.kia_one W.kitx_str I.dZ True.intro e (λz=>nomatch z) h
 |jd y=>obtain⟨t,q⟩:=(j);cases q;exact W.kia_one W.kitx_float I.dZ True.intro e (λz=>nomatch z) h
 | @lst a D d=>
  cases (j);obtain⟨_,_,n,_,l⟩:=(I.cy a _ d);exact W.kia_one W.kitx_list I.dZ (_,l,rfl) e (λz=>nomatch z) h
 | @dz a T D d=>
  cases (j);obtain⟨_,_,_,n,_,l⟩:=(I.cy a _ d);exact W.kia_one W.kitx_list I.dZ (_,l,rfl) e (λz=>nomatch z) h
 | @tup a D d=>
  cases (j);obtain⟨_,_,_,p⟩:=(I.cy a _ d);obtain⟨o,l,r,_⟩:=p;exact W.kia_one W.kitx_tuple I.dZ (o,l,r) e (λz=>nomatch z) h
 | @dK a v d=>
  cases (j);obtain⟨_,_,Y,_,p⟩:=(I.cy a _ d);obtain⟨o,G,ep,l,r,_⟩:=p;exact W.kia_one W.kitx_dict I.dZ (o,l,r.1) e (λz=>nomatch z) h
 | @dT a v d=>
  cases (j);obtain⟨_,_,D,_,o,G,ep,l,r,_⟩:=(I.cy a _ d);exact W.kia_one W.kitx_dict I.dZ (o,l,r.1) e (λz=>nomatch z) h
 | @ins a C S fs d F M L B N=>
  cases (j);obtain⟨R,O,_⟩:=D1 I.cy d;obtain⟨U,J,_⟩:=O.look;exact W.kia_one (W.kitx_own (F.get _) F.hd M L B N) I.dZ J e (λz=>nomatch z) h
structure bJ(k:Nat)(A:Around):Prop where
 hd:A.handled=J
 dp:A.depth+3*k+5<recursionLimit
 un:A.units+16*k+200<cLine
def bJ.mono{j k}(r:bJ k A)(h:j<=k):bJ j A:=(r.hd,by have:=r.dp;lia,by have:=r.un;lia)
def bJ.deeper(r:bJ (k+1) A)(a):bJ k (A.deeper a):=
 (r.hd,by have:=r.dp;show A.depth+1+3*k+5<_;lia,by have:=r.un;show A.units+3+16*k+200<_;lia)
def bJ.in1(r:bJ (k+1) A):bJ k A.in1:=
 (r.hd,by have:=r.dp;show A.depth+3*k+5<_;lia,by have:=r.un;show A.units+1+16*k+200<_;lia)
def OS{A:PySem.Around}:(A.under (.builtin lB (.ref C::b,a))).depth=A.depth+1:=by
 rfl
def OT{A:PySem.Around}:(A.under (.builtin lB (.ref C::b,a))).units=A.units+1:=by
 rfl
def bJ.make{k}(r:bJ (k+1) A)(C)(a)(d):bJ k (A.under (.builtin lB (.ref C::a,d))):=
 (r.hd,by have:=r.dp;rw[OS];lia,by have:=r.un;rw[OT];lia)
def bJ.depth(r:bJ k A):A.depth<recursionLimit:=by have:=r.dp;lia
def bJ.units(r:bJ k A):A.units+64<cLine:=by have:=r.un;lia
def BS:TA:=λ_ H Q=>Q [] H
def AY(a:TE)(tr:TA):TA:=λb H Q=>a b H λx c=>tr b c λe d=>Q (x::e) d
def AG:PA X [] BS:=λ_ _ _ _ H Q I h=>Calls.spliced_nil ([],H,I,.nil,h)
abbrev gj(X:Cx)(e:PySem.Expr)(a:List PySem.Expr):Prop:=starEach (e::a) X.env=(O,(eval e X.env))::starEach a X.env
def AA(l:PE X e c)(o:PA X b t)(hs:gj X e b:=by rfl):PA X (e::b) (AY c t):=by
 intro d a s i H Q I h;rw[hs];refine Calls.spliced_cons (cA (l a s i H _ I h) λu y w=>?_);obtain⟨x,j,v,q,q1⟩:=w;exact cA (o d a y i j _ v q1) λC B k=>by obtain⟨z,p,r,A,q2⟩:=k;exact (x::z,p,r,.cons q A,q2)
def JF(t:TA):TE:=λc H Q=>t c H λb a=>b.length<=sizeLine/\∀p,a p=J->Q (.ref p) (upd a p (.tup b))
def LU(t:TA):TE:=λc H Q=>t c H λb a=>b.length<=sizeLine/\∀p,a p=J->Q (.ref p) (upd a p (.lst b))
def Ab(h:PA X c t):PE X (.Tuple c g f) (JF t):=by
 intro a s o H Q I v;refine wpAny_Tuple_spliced (cA (h f a s o H _ I v) λj d ⟨p,l,i,r,z,q⟩=>(by rw[←r.length];exact z,(.ref d.heap.objs.size,upd l d.heap.objs.size (.tup p),i.laid (λb u e=>zV _ e) (zq _) ?_,Y,q _ (i.cy.fresh (zq _)))));exact(z,j,r,(_,zM _ Y,Y,_,Y))
def As(h:PA X c t):PE X (.List c f) (LU t):=by
 intro a s o H Q I v;refine wpAny_List_spliced (cA (h f a s o H _ I v) λj d ⟨p,l,i,r,z,q⟩=>(by rw[←r.length];exact z,(.ref d.heap.objs.size,upd l d.heap.objs.size (.lst p),i.laid (λb u e=>zV _ e) (zq _) ?_,Y,q _ (i.cy.fresh (zq _)))));exact(z,j,0,r,zM _ Y)
abbrev Sp:=jq->Hp->VK->XK->Prop
abbrev CXT:=List Env->Hp->js->XK->Value->js->Prop
structure fg(P:Program)(w:World)(K:FG)(mg:SV)(base:Heap)(A:Around)(outer:List Env)(s:js)(H:Hp):Prop where
 frames:A.frames=U outer
 mod:Mod K mg base
 bs:∀b o,base.get? b=U o->s.heap.get? b=U o/\H b=J
 gA:base.objs.size<=s.heap.objs.size
 d7:s.heap.FunFrames base outer
 gP:∀b∈dj outer,H b=J
 cy:eA P w H s.heap
 bare:AllBare s.gens
def CE(b:List Env)(P:Program)(w:World)(H:Hp)(s:js)(Q:VK)(u:Value)(a:js):Prop:=
 ∃v c,a.os=s.os/\AllBare a.gens/\Un (dj b) [] H c s.heap a.heap/\eA P w c a.heap/\RelV v u/\Q v c
def CR(c:CXT)(a:List Env)(P:Program)(w:World)(H:Hp)(s:js)(Q:VK)(E:XK)(r:Result)(b:js):Prop:=
 match r with
 |.ok (.ret u)=>CE a P w H s Q u b
 |.ok _=>False
 |.error e=>c a H s E e b
structure bH(P:Program)(w:World)(K:FG)(mg:SV)(base:Heap)(CX:CXT)(k:Nat)(f:jr)(fd:FuncData)(ps:jm)(sp:Sp):Prop where
 len:∀vs H Q E,sp vs H Q E->vs.length=ps.length
 run:∀A outer s H a us vs Q E,bJ k A->fg P w K mg base A outer s H->BindsTo s fd a (ps.zip us)->Vals vs us->sp vs H Q E ->
  codeAny (model P w) A (.call (.ref f) a) (CR CX outer P w H s Q E) s
def fg.make(e:fg P w g c b A f s H)(C)(a)(d):
  fg P w g c b (A.under (.builtin lB (.ref C::a,d))) f s H:=(by first|exact e.frames| (simpa[Code.envs,pushEnvs]using e.frames),e.mod,e.bs,e.gA,e.d7,e.gP,e.cy,e.bare)
def fg.in1(e:fg P w d b a A c s H):
  fg P w d b a A.in1 c s H:=(e.frames,e.mod,e.bs,e.gA,e.d7,e.gP,e.cy,e.bare)
def Inv.gp(I:Inv X a b H s):fg X.prog X.w X.K X.mg X.base X.A X.stack s H:=
 (I.ok.frames,I.ok.mod,I.bs,Nat.le_trans I.ok.gA I.sz,I.stack,I.stkFree,I.cy,I.bare)
def Inv.after(I:Inv X f m H s)(h:CE X.stack X.prog X.w H s Q u c):EP X f m Q u c:=by
 obtain⟨v,l,j,a,un,i,r,q⟩:=h;obtain⟨o,g,d,t,e⟩:=c;obtain rfl:e=s.os:=j;exact(v,l,I.call un i a (λb z=>absurd z (by simp)),r,q)
def Me(b:Sp)(a:jq)(E:XK)(t:TA):TE:=λe H Q=>t e H λd c=>b (d++a) c Q E
inductive ExM(C:jr)(m:Str)(x:V)(H:Hp)(k:Prop):Prop
 |mk a dx fs(b:x=.ref a)(c:H a=U (.ins C dx fs))(d:fs.lookup m=J)(q:k):ExM C m x H k
def KW(C:jr)(m:Str)(b:Sp)(a:jq)(E:XK)(c:TE)(t:TA):TE:=λe H Q=>c e H λx d=>ExM C m x d (t e d λg f=>b (x::(g++a)) f Q E)
def SJ(C:jr)(b:Sp)(a:jq)(E:XK)(t:TA):TE:=λg H Q=>t g H λf d=>∀x c,d x=J->d c=J->c≠x ->
 b (.ref x::(f++a)) (upd (upd d c (.own x)) x (.ins C c [])) (λv e=>v=.bQ/\Q (.ref x) e) E
def Binds(d:FG)(c:FuncData)(b:jm)(a:jo):Prop:=
 ∀s e,d.In s.heap->(e++a).length=b.length->BindsTo s c (e,[]) (b.zip (e++a))
def Binds.all{d}(h:∀a,a.length=d.length->bindArgs b (a,[])=pure (d.zip a)):Binds c b d []:=λs a _ e=>by
 rw[zl]at e ⊢;exact .of_eq (h a e)
def BK(a:CXT)(X:Cx)(E:XK):Prop:=∀c(d:St)H s e b,Inv X c d H s->a X.stack H s E e b->X.xe e b
def LV(F:bH X.prog X.w X.K X.mg X.base v k f w m x)(l:bJ k X.A)(t:Binds X.K w m c)(j:Vals a c)(p:BK v X E)
  (I:Inv X g n H s) (r:Vals vs b) (h:x (vs++a) H Q E):dH X (call (.ref f) b) (EP X g n Q) X.xe s:=by
 have i:=r.append j;have o:(b++c).length=m.length:=by rw[←i.length];exact F.len _ _ _ _ h
 refine wpAny_call (codeAny_mono (F.run X.A X.stack s H (b,[]) (b++c) (vs++a) Q E l I.gp (t s b I.dZ o) i h) λr q d=>?_);cases r with
 |error e=>exact p g n H s e q I d
 |ok fl=>
  cases fl with
  |ret u=>exact I.after d
  |next=>exact False.elim d
  |brk=>exact False.elim d
  |cont=>exact False.elim d
def At{k}{l}(F:bH X.prog X.w X.K X.mg X.base g k f w l P)(z:bJ k X.A)(m:Gl X x)(A:X.mg x=U (.ref f))(C:W.keepIn X.K (.ref f)=L)(u:Binds X.K w l n)(B:Vals j n)(D:BK g X E)
  (y:PA X (e::b) t) (d:fQ x:=by decide) (v:gj X e b:=by rfl) (i:(backTo c (starEach b X.env)).any (·.1)=O:=by rfl):
  PE X (.Call (.Name x p) (e::b) [] c) (Me P j E t):=by
 intro a s G H Q I h;refine z0 (CA I m A (W.callWith_K I.ok.mod.kin C (cA (y c a s G H _ I h) λN M ⟨S,R,o,r,q⟩=>(o.dZ,?_)) v i) d);exact LV F z u B D o r q
def Co(x:PE X o Q)(c:gy X.K C)(v:OP X.K C m f)(F:bH X.prog X.w X.K X.mg X.base u k f fd ps sp)(P:bJ k X.A)(w:Binds X.K fd ps ds)(S:Vals j ds)(T:BK u X E)(N:PA X (e::g) t)
  (p:gj X e g:=by rfl) (i:(backTo b (starEach g X.env)).any (·.1)=gt:=by rfl)
  (ht:eval (.Call (.Attribute o m n) (e::g) [] b) X.env=(do
   let B ←eval o X.env
   standAt n.atName
   let (f,first) ←holding [B] (getMethod B m pl)
   callWith b f first (backTo b (starEach (e::g) X.env)) (backToKw b (keywordEach [] X.env))):=by rfl):
  PE X (.Call (.Attribute o m n) (e::g) [] b) (KW C m sp j E Q t):=by
 intro d s A H an I h;refine W.methodCall_KW (cA (x d s A H _ I h) λal R zz=>?_) ht;obtain⟨ar,G,z,ab,a,dx,fs,ag,M,l,q⟩:=zz;subst ag;obtain rfl:al=Value.ref a:=ab;apply JE z M c v l;exact W.callWith_K I.ok.mod.kin v.kp (cA (N b d R A G _ z q) λus s2 zq=>by obtain⟨D,H2,y,r,q2⟩:=zq;exact (y.dZ,LV (vs:=.ref a::D) F P w S T y (.cons zd r) q2)) p i
def BY{k}{j}{m}(v:PE X o w)(c:gy X.K C)(p:OP X.K C m f)(F:bH X.prog X.w X.K X.mg X.base n k f R j S)(z:bJ k X.A)(t:Binds X.K R j P)(A:Vals i P)(B:BK n X E)
  (ht:eval (.Call (.Attribute o m g) [] [] b) X.env=(do
   let r ←eval o X.env
   standAt g.atName
   let (f,first) ←holding [r] (getMethod r m pl)
   callWith b f first (backTo b (starEach [] X.env)) (backToKw b (keywordEach [] X.env))):=by rfl):
  PE X (.Call (.Attribute o m g) [] [] b) (KW C m S i E w BS):=by
 intro d s D H Q I h;refine W.methodCall_KW (cA (v d s D H _ I h) λu ab zz=>?_) ht;obtain⟨x,M,e,G,a,N,fs,T,y,l,q⟩:=zz;subst T;obtain rfl:u=Value.ref a:=G;apply JE e y c p l;exact W.callWith_K0 e.dZ p.kp (LV (vs:=[.ref a]) F z t A B e (.cons Y .nil) q)
structure Mk(K:FG)(C f:jr):Prop where
 makes:W.makesIn K C=L
 init:W.findIn K (.ref C) jF=U (U (.ref f))
 fn:W.isFn K (.ref f)=L
 kp:W.keepIn K (.ref C)=L
def Mf(M:Mk X.K C f)(F:bH X.prog X.w X.K X.mg X.base N k f P m R)(t:bJ (k+1) X.A)(q:Binds X.K P m c)(D:Vals d c)
  (G:BK N X E) (I:Inv X g w H s) (r:Vals n b)
  (h:∀x j,H x=J->H j=J->j≠x->R (.ref x::(n++d)) (upd (upd H j (.own x)) x (.ins C j [])) (λv y=>v=.bQ/\Q (.ref x) y) E):
  dH X (call (.ref C) b) (EP X g w Q) X.xe s:=by
 have l:=h (s.heap.objs.size+1) s.heap.objs.size (I.cy.fresh (Nat.le_succ _)) (I.cy.fresh (zq _)) (by simp);have i:=Inv.made (C:=C) I;have o:Vals (V.ref (s.heap.objs.size+1)::(n++d)) (Value.ref (s.heap.objs.size+1)::(b++c)):=.cons rfl (r.append D)
 have p:(Value.ref (s.heap.objs.size+1)::b++c).length=m.length:=by
  have e:=o.length;rw[F.len _ _ _ _ l]at e;exact e.symm
 refine wpAny_call (Md I.dZ M.makes M.init (beq_iff_eq.mp M.fn) (codeAny_mono (F.run _ X.stack _ _ (Value.ref (s.heap.objs.size+1)::b,[]) (Value.ref (s.heap.objs.size+1)::(b++c)) _ _ E (t.make C b [])
  (i.gp.make C b []) (q _ (Value.ref (s.heap.objs.size+1)::b) i.dZ p) o l) λr S a=>?_))
 cases r with
 |error e=>exact G g w _ _ e S i a
 |ok fl=>
  cases fl with
  |ret u=>
   obtain⟨v,T,z,A,B,q3⟩:=i.after a;subst B;exact(A,(V.ref (s.heap.objs.size+1),T,z,Y,q3))
  |next=>exact False.elim a
  |brk=>exact False.elim a
  |cont=>exact False.elim a
def LX{k}{l}(M:Mk X.K C f)(F:bH X.prog X.w X.K X.mg X.base g k f w l P)(z:bJ (k+1) X.A)(m:Gl X x)(A:X.mg x=U (.ref C))(u:Binds X.K w l n)(B:Vals j n)(D:BK g X E)
  (y:PA X (e::b) t) (d:fQ x:=by decide) (v:gj X e b:=by rfl) (i:(backTo c (starEach b X.env)).any (·.1)=O:=by rfl):
  PE X (.Call (.Name x p) (e::b) [] c) (SJ C P j E t):=by
 intro a s G H Q I h;refine z0 (CA I m A (W.callWith_K I.ok.mod.kin M.kp (cA (y c a s G H _ I h) λT N ⟨R,S,o,r,q⟩=>(o.dZ,?_)) v i) d);exact Mf M F z u B D o r q
def SK(M:Mk X.K C f)(F:bH X.prog X.w X.K X.mg X.base b k f g m n)(j:bJ (k+1) X.A)(r:Gl X x)(o:X.mg x=U (.ref C))(q:Binds X.K g m c)(i:Vals a c)(l:BK b X E)
  (d:fQ x:=by decide):PE X (.Call (.Name x p) [] [] u) (SJ C n a E BS):=by
 intro e s t H Q I h;exact z0 (CA I r o (W.callWith_K0 I.dZ M.kp (Mf M F j q i l I .nil h)) d)
def PK(X:Cx)(a:List Keyword)(t:TA):Prop:=
 ∀d c s(b:St)H Q,Inv X c b H s->t b H Q->dH X (evalAll ((backToKw d (keywordEach a X.env)).map (·.2))) (AP X c b Q) X.xe s
def SL:PK X [] BS:=λ_ _ _ _ H Q I h=>wpAny_evalAll_nil ([],H,I,.nil,h)
def Pf(o:PE X e b)(p:PK X i t):PK X ((nm,e,kpos)::i) (AY b t):=by
 intro d a s j H Q I h;exact wpAny_evalAll_cons (zp (cA (o a s j H _ I h) λu z w=>by obtain⟨x,l,y,r,q1⟩:=w;exact zp (zI (zo (cA (p d a z j l _ y q1) λD C k=>by obtain⟨A,q,v,B,q2⟩:=k;exact (x::A,q,v,.cons r B,q2))))))
structure OU(K:FG)(fd:FuncData)(ps ks:jm)(g:jo->jo->jo)(gV:jq->jq->jq):Prop where
 to:∀s us ws,K.In s.heap->(g us ws).length=ps.length->BindsTo s fd (us,ks.zip ws) (ps.zip (g us ws))
 rel:∀{vs}{us}{a}{ws},Vals vs us->Vals a ws->Vals (gV vs a) (g us ws)
structure AH(N P:jm)(sc:Scope):Prop where
 kind:sc.kind=.function
 co:sc.isCoroutine=O
 gen:sc.isGenerator=O
 nd:N.Nodup
 pre:N.take P.length=P
 par:∀x∈P,sc.names.lookup x=U .local\/sc.names.lookup x=U .cell
 nofree:∀y∈sc.names,y.2≠ .free
def cY(a:h.kind=.function:=by exact rfl)(b:h.isCoroutine=O:=by exact rfl)(c:h.isGenerator=O:=by exact rfl)(d:N.Nodup:=by decide +kernel)(e:N.take P.length=P:=by exact rfl)(f:∀x∈P,h.names.lookup x=U .local\/h.names.lookup x=U .cell:=by decide +kernel)(g:∀y∈h.names,y.2≠ .free:=by decide +kernel):AH N P h:=(a,b,c,d,e,f,g)
theorem KY{a}{x}:∀{binds}{m:SV},(∀v,(x,(v))∉ binds)->bindL a binds m x=m x
  | [],_,_=>rfl
  | (n,v)::r,m,h=>by
    unfold bindL;rw[KY λw d=>h w (by simp_all)];split
    · grind
    · rfl
theorem KZ{a}{x}:∀{binds}{m:SV},(∀v,(x,(v))∉ binds)->bindC a binds m x=m x
  | [],_,_=>rfl
  | (n,v)::r,m,h=>by
    unfold bindC;rw[KZ λw d=>h w (by simp_all)];split
    · rfl
    grind
theorem Ka{a}:∀{P:jm}{b}{i:Nat}{m:SV},P.Nodup->P[i]?=U x->b[i]?=U v->a x=U .local ->
  bindL a (P.zip b) m x=U v
 | [],_,_,_,_,h,_,_=>by simp at h
 |_::_,[],_,_,_,_,h,_=>by simp at h
 |p::P,w::b,0,m,nd,h1,h2,hk=>by
  simp at h1 h2;subst h1;subst h2;show bindL a ((p,(w))::P.zip b) m p=_;unfold bindL;rw[KY λv d=>(zj.mp nd).1 (of_mem_zip d).1,zg hk];simp
 |p::P,w::b,i+1,m,nd,h1,h2,hk=>by
  unfold bindL;exact Ka (zj.mp nd).2 (by trivial) (by trivial) hk
theorem Kb{a}:∀{P:jm}{b}{i:Nat}{m:SV},P.Nodup->P[i]?=U x->b[i]?=U v->a x≠U .local ->
  bindC a (P.zip b) m x=U v
 | [],_,_,_,_,h,_,_=>by simp at h
 |_::_,[],_,_,_,_,h,_=>by simp at h
 |p::P,w::b,0,m,nd,h1,h2,hk=>by
  simp at h1 h2;subst h1;subst h2;show bindC a ((p,(w))::P.zip b) m p=_;unfold bindC;rw[KZ λv d=>(zj.mp nd).1 (of_mem_zip d).1,zh hk];simp
 |p::P,w::b,i+1,m,nd,h1,h2,hk=>by
  unfold bindC;exact Kb (zj.mp nd).2 (by trivial) (by trivial) hk
noncomputable def start(N:jm)(a:jq):St:=a.map U++List.replicate (N.length-a.length) J
noncomputable def Bf(d:CXT)(P:Program)(w:World)(g:FG)(mg:SV)(base:Heap)(N:jm)(b:Str)(c:Scope)(f:jr)(a:Value)(A:Around)(outer:List Env)(s:js)(H:Hp)(E:XK):Cx where
 prog:=P
 w:=w
 K:=g
 mg:=mg
 base:=base
 A:=A.deeper (envOfC b c s.heap.objs.size f a)
 N:=N
 cG:=s
 eR:=H
 env:=envOfC b c s.heap.objs.size f a
 outer:=outer
 stack:=envOfC b c s.heap.objs.size f a::outer
 ex:=[]
 calm:=L
 fn:=λ_=>L
 pn:=[]
 xe:=λe j=>wpAny (model P w) (A.deeper (envOfC b c s.heap.objs.size f a)) (leaving (envOfC b c s.heap.objs.size f a) e) (λ_ h=>d outer H s E e h) (λi h=>d outer H s E i h) j
def Mg{a:Scope}(h:a.names.lookup x=U .cell):∃c,(cellsFrom n a.names []).lookup x=U c:=by
 exact Option.isSome_iff_exists.mp (W.cellsFrom_some a.names n [] (.inl h))
def He          
  (S:AH N a g) (M:A.handled=J) (d:fg P w ab R Q A T s H) (ar:m.length=a.length) (r:Vals m X)
  (x:InCallC s s.heap.objs.size (bindL (envOfC v g s.heap.objs.size f n).kindOf (a.zip X) λ_=>J) (cellsFrom (s.heap.objs.size+1) g.names []) (bindC (envOfC v g s.heap.objs.size f n).kindOf (a.zip X) λ_=>J) s1):
  Inv (Bf CX P w ab R Q N v g f n A T s H E) [] (start N m) H s1:=by
 have an:a.length<=N.length:=by have:=congrArg List.length S.pre;rw[zt]at this;lia
 obtain⟨C,as,rfl,F⟩:=x.done;have j:∀b,b∉ (Bf CX P w ab R Q N v g f n A T s H E).ex:=λb z=>absurd (show b∈([])from z) (by simp)
 refine((d.mod,S.kind,Y,Y,zq _,λy z c C t=>?_,λy o=>?_,λy c _ h=>?_,λ_=>M,Around.frames_deeper d.frames,.inr (Y,Y),λb z=>absurd z (j b),d.bs,d.gA,λb _ _=>j b,λb z=>absurd z (j b),d.d7,d.gP),
  rfl,d.bare,Un.kept F,(_,x.toInCall.ns,λi y al C t az=>?_),λy c h=>(_,x.cell y c h),d.cy.fresh (zq _),λy c h=>?_,λp B=>absurd (show p∈([])from B) (by simp),d.cy.kept F,?_)
 .exact name_of_addr x.apart (PySem.mem_of_lookup C) (PySem.mem_of_lookup t)
 .rcases o with o|o
  .exact Mg o
  .exact absurd Y (S.nofree _ (PySem.mem_of_lookup o))
 .exact Nat.le_of_lt (x.above y c (PySem.mem_of_lookup h))
 .have D:i<m.length:=by
   unfold start at t;by_cases D:i<m.length
   .exact D
   .grind
  have I:m[i]?=U al:=by
   unfold start at t;rw[List.getElem?_append_left (by simp_all)]at t;cases e:m[i]? with
   |none=>simp_all
   |some aC=>simp_all
  obtain⟨u,G,ag⟩:=r.get I
  have B:a[i]?=U y:=by
   rwa[←S.pre,List.getElem?_take_of_lt (by lia)]
  have l:a.Nodup:=by rw[←S.pre];exact S.nd.sublist (by grind)
  refine(u,ag,?_);rcases S.par y (by grind)with k|k
  .exact .inl (k,Ka l B G k)
  .obtain⟨c,e⟩:=Mg k;refine .inr (.inl k,c,e,?_);have q:=x.cell y c e
   rwa[Kb l B G (by show g.names.lookup y≠_;simp_all)]at q
 .exact d.cy.fresh (Nat.le_of_lt (x.above y c (PySem.mem_of_lookup h)))
 .unfold start;show _=N.length
  simp_all
def Pg{kV} 
   (R:n.lookup f=U (oc,od,.func (W.fnOf a1 m a2 X c dV kV aC pm an h ct),iw)) (G:W.codeIn n h m=L) (S:AH N B c)
  (len:∀g H Q E,sp g H Q E->g.length=B.length)
  (aR:∀(A:Around)i s H g Q E,bJ k (A.deeper (envOfC m c s.heap.objs.size f h))->sp g H Q E ->
   ∃t,fk (Bf r P w n mg T N m c f h A i s H E) X t/\t {nx:=λ_ d=>Q .bQ d,rt:=Q} (start N g) H):
  bH P w n mg T r (k+1) f (W.fnOf a1 m a2 X c dV kV aC pm an h ct) B sp:=by
 refine(len,λA i s H a4 us g Q E C p ag a3 z=>?_);have M:=len _ _ _ _ z;have I:=p.mod.kin.keeps λb o e=>(p.bs b o e).1
 have aM:∀y∈B.zip us,c.names.lookup y.1=U .local\/(c.names.lookup y.1=U .cell/\((cellsFrom (s.heap.objs.size+1) c.names []).lookup y.1).isSome=L):=λ⟨a0,v⟩ az=>by
  rcases S.par a0 (of_mem_zip az).1 with q|q
  .simp_all
  .exact .inr (q,W.cellsFrom_some _ _ _ (.inl q))
 refine codeAny_call_function C.depth (I _ _ R) Y S.co S.gen Y (W.codeRec_of I G) (ag _ _ _ _ (wpAny_newFunctionEnv_cells S.kind aM λa5 ar as x=>?_));subst ar;refine((p.mod.nolimit.keeps λb o e=>(p.bs b o e).1).keeps x.toInCall.keep,codeAny_func ?_);obtain⟨t,ht,al⟩:=aR A i s H g Q E (C.deeper _) z;refine zn (ht [] as (start N g) H _ (He S C.hd p M a3 x) al) (λfl F j=>?_) λe F j=>j
 have l:∀{a:St}{d:Hp}{v:V}{u:Value},Inv (Bf r P w n mg T N m c f h A i s H E) [] a d F->RelV v u->Q v d->CE i P w H s Q u F:=
  λ{a d v u}ab D q=>(v,d,ab.os,ab.bare,ab.base,ab.cy,D,q)
 cases fl with
 |ret u=>
  obtain⟨v,a,d,ab,D,q⟩:=j;exact l ab D q
 |next=>
  obtain⟨a,d,ab,q⟩:=j;exact l (v:=V.bQ) ab Y q
 |brk=>
  obtain⟨_,_,_,q⟩:=j;exact False.elim q
 |cont=>
  obtain⟨_,_,_,q⟩:=j;exact False.elim q
def tCB(r:jq->Hp->VK->Prop)(t:TA):TE:=λc H Q=>t c H λb a=>r b a Q
def AR{X}{d}{x}{e}{p}{i}{t}{id}{r}(C:cH X (.builtin id) r)(G:Gl X x)(A:X.mg x=J)(F:bootBuiltins x=U (.builtin id))(y:PA X (e::i) t)(u:x≠ j8:=by decide)(j:fQ x:=by decide)
  (v:gj X e i:=by rfl) (l:(backTo d (starEach i X.env)).any (·.1)=O:=by rfl):PE X (.Call (.Name x p) (e::i) [] d) (tCB r t):=by
 intro a s o H Q I h;exact z0 (Fm I G A F (PyProof.Rows.callWith_builtin1 (cA (y d a s o H _ I h) λE D w=>by obtain⟨b,q,B,z,q1⟩:=w;exact C a D o q b E Q B z q1) v l) u j)
def BF{T}(A:cH X (.type T) r)(E:Gl X x)(y:X.mg x=J)(D:bootBuiltins x=U (.type T))(u:PA X (e::b) t)(o:x≠ j8:=by decide)(d:fQ x:=by decide)
  (q:gj X e b:=by rfl) (i:(backTo c (starEach b X.env)).any (·.1)=O:=by rfl):PE X (.Call (.Name x p) (e::b) [] c) (tCB r t):=by
 intro a s j H Q I h;exact z0 (Fm I E y D (PyProof.Rows.callWith_type1 (cA (u c a s j H _ I h) λC B w=>by obtain⟨F,l,z,v,q1⟩:=w;exact A a B j l F C Q z v q1) q i) o d)
end L2
namespace HT
open PySem PyProof.Rows
def cat_tup(ht:IsTup s.heap t f.toArray)(v:IsTup s.heap b c.toArray)(C:f≠ [])
  (u:c=[]->Q (.ref t) s) (B:c≠ []->Q (.ref s.heap.objs.size) {s with heap:=s.heap.push {cls:=.type jN,data:=.seq (f++c).toArray}})
  (z:f.length+c.length<=sizeLine):wpAny (model g w) A (binaryOp .Add (.ref t) (.ref b)) Q E s:=by
 obtain⟨⟨cls,q,data,sl⟩,h,x,n,y⟩:=id ht;obtain⟨⟨r,d,j,fb⟩,a,o,p,i⟩:=id v;subst x y o i;have e:f.toArray++c.toArray=(f++c).toArray:=by simp
 by_cases l:c=[]
 .exact concat_meets (_,h,Y) (_,a,Y) noFill_tuple_add seq_tuple_add slot_tuple_add entry_tuple_add (args_tuple_add_2 _ _)
   (tuple_addW1 t b f.toArray c.toArray n p q d sl fb (by simp_all) (by simp[l])) (h,a,u l)
 .refine concat_meets (_,h,Y) (_,a,Y) noFill_tuple_add seq_tuple_add slot_tuple_add entry_tuple_add (args_tuple_add_2 _ _)
   (tuple_addW2 t b f.toArray c.toArray n p q d sl fb (by simp_all) (by simp_all) qe) (h,a,?_)
  rw[e];exact B l
end HT
namespace L2
open PySem PySem.Spec PyProof.Rows
abbrev TO:=St->Hp->(Option Int->Hp->Prop)->Prop
def PO(X:Cx)(e:Option Expr)(t:TO):Prop:=
 ∀c s(a:St)H Q,Inv X c a H s->t a H Q ->
  dH X (evalPart e X.env) (λu d=>∃o b,Inv X c a b d/\IsPart u o/\Q o b) X.xe s
def YI(t:TE):TO:=λb H Q=>t b H λx a=>∃i,x=.int i/\Q (U i) a
def D3:∀{a},Vals (d.map V.int) a->IntsAre a d:=by
 induction d with
 |nil=>intro a r;cases r;exact .nil
 |cons n d j=>
  intro a r;cases r with
  |cons i h=>
   obtain⟨t,e⟩:=i;subst e;exact .cons n t (j h)
def Iq(h:PE X e b):PO X (U e) (YI b):=by
 intro a s l H Q I p;refine cA (h a s l H _ I p) λu r z=>?_;obtain⟨x,d,o,j,q1⟩:=z;obtain⟨i,rfl,q⟩:=q1;obtain⟨t,rfl⟩:=j;exact(U i,d,o,.int i t,q)
def SlR(X:Cx)(r:V->Option Int->Option Int->Hp->VK->Prop):Prop:=
 ∀a s(e:St)H x v c d lo b sl Q,Inv X a e H s->RelV x v->s.heap.IsSliceOf sl c d .none->IsPart c lo->IsPart d b->r x lo b H Q ->
  ∃T id,typeLookup (.type T) "__getitem__"=pure (U (.builtin id))/\s.TypeIs v T/\dH X (getItem v (.ref sl)) (EP X a e Q) X.xe s
def tSl(r:V->Option Int->Option Int->Hp->VK->Prop)(a:TE)(c b:TO):TE:=λd H Q=>a d H λx e=>c d e λl f=>b d f λu g=>r x l u g Q
def Mh{lo j}(B:SlR X r)(z:PE X e c)(t:PO X lo E)(R:PO X j f):PE X (.Subscript e (.Slice lo j J g) m) (tSl r c E f):=by
 intro a s d H Q I h;refine Subscript_ (cA (z a s d H _ I h) λv w k=>?_);obtain⟨x,y,G,D,q1⟩:=k;refine wpAny_Slice (cA (t a w d y _ G q1) λi A ⟨l,C,F,pl,q2⟩=>cA (R a A d C _ F q2) λo s3 zz=>?_);obtain⟨u,N,n,M,q3⟩:=zz;apply zo;obtain⟨T,id,p,ht,P⟩:=B a {s3 with heap:=s3.heap.push {cls:=.type "slice",data:=.fields #[i,o,.none]}} d N x v i o l u s3.heap.objs.size Q (n.kept λb S q=>zV _ q) D (Heap.IsSliceOf.new ..) pl M q3;exact tail_any ht p P (by rfl)
def Ph(c:FG):R2:=λx y H Q=>∃a b e d,x=.ref a/\y=.ref b/\cD c H a e/\cD c H b d/\e≠ []/\e.length+d.length<=sizeLine /\
 (d=[]->Q (.ref a) H)/\(d≠ []->∀p,H p=J->Q (.ref p) (upd H p (.tup (e++d))))
def Vals.nil_iff(r:Vals b a):a=[] ↔ b=[]:=by
 cases r with
 |nil=>simp
 |cons _ _=>simp
def Uv:ee X (binaryOp .Add) (Ph X.K):=by
 rintro h s F H x y v u Q I B p ⟨a,b,G,C,rfl,rfl,o,j,A,D,q1,q2⟩;cases B;cases p;obtain⟨t,e,l,_⟩:=I.tuple o;obtain⟨i,d,r,_⟩:=I.tuple j;refine HT.cat_tup l r (λz=>A (e.nil_iff.mp z)) (λz=>(.ref a,H,I,Y,q1 (d.nil_iff.mp z))) (λz=>(.ref s.heap.objs.size,_,I.laid (λb E q=>zV _ q) (zq _) ?_,Y,q2 (λw=>z (d.nil_iff.mpr w)) _ (I.cy.fresh (zq _)))) (by rwa[←e.length,←d.length]);exact(by simp_all,_,e.append d,IsTup.new _ _)
noncomputable def gY(n:Nat)(i:Int):Option Nat:=if 0<=i then (if i<n then U i.toNat else J)else if -(n)<=i then U (i+n).toNat else J
def gB{b:Type}(a:List b)(i:Int):Option b:=(gY a.length i).bind λj=>a[j]?
def Pi(h:gY n i=U j):seqIndex? i n=U j/\j<n/\-(n)<=i/\i<n:=by
 unfold gY at h;by_cases d:0<=i
 .rw[zg d]at h;by_cases a:i<n
  .rw[zg a]at h;have e:=Option.some.inj h;exact(by rw[seqIndex_of d a,e],by lia,by lia,a)
  simp_all
 .rw[zh d]at h;by_cases a:-n<=i
  .rw[zg a]at h;have e:=Option.some.inj h;exact(by rw[seqIndex_neg (by simp_all) a,e],by lia,a,by lia)
  simp_all
def LY{c}{b}{v:c}(h:gB b i=U v):∃j,seqIndex? i b.length=U j/\b[j]?=U v/\j<b.length/\-(b.length:Int)<=i/\i<b.length:=by
 unfold gB at h;cases e:gY b.length i with
 |none=>simp_all
 |some j=>
  obtain⟨l,o,d,a⟩:=Pi e
  simp_all
def BQ{c}{b}{j:Nat}{v:c}(h:b[j]?=U v):gB b (j:Int)=U v:=by
 have a:=(z8.mp h).1
 have e:gY b.length j=U j:=by
  unfold gY;rw[zg (by simp_all),zg (by simp_all)];simp
 unfold gB;rwa[e]
def Pj(b:Expr):Prop:=∀o i,subscripted b O o i=operate [o,i] (getItem o i)
def IxR(X:Cx)(r:R2):Prop:=
 ∀d b a s(c:St)H x y v u Q,Inv X a c H s->RelV x v->RelV y u->r x y H Q ->
  subscripted b O v u=operate [v,u] (getItem v u)->dH X (subscriptTail d b v u) (EP X a c Q) X.xe s
def MtR(X:Cx)(id:String)(r:V->jq->Hp->VK->Prop):Prop:=
 ∀a s(d:St)H x c v b Q,Inv X a d H s->RelV x v->Vals c b->r x c H Q ->
  dH X (call (.builtin id) (v::b)) (EP X a d Q) X.xe s
def Am(l:IxR X r)(j:PE X a B)(e:PE X b f)(c:Pj b):PE X (.Subscript a b g) (iH r B f):=by
 intro d s z H Q I h;exact Subscript_ (Wl j e I h λv u i x y o t A p q=>l a b d i z o x y v u Q t A p q (c _ _))
inductive ExrIxL(a:FG)(x y:V)(H:Hp)(k:V->Prop):Prop
 |mk p xs i v(b:x=.ref p)(c:y=.int i)(d:bZ a H p xs)(e:gB xs i=U v)(q:k v):ExrIxL a x y H k
def YJ(a:FG):R2:=λx y H Q=>ExrIxL a x y H λv=>Q v H
inductive ExrIxT(a:FG)(x y:V)(H:Hp)(k:V->Prop):Prop
 |mk p xs i v(b:x=.ref p)(c:y=.int i)(d:cD a H p xs)(e:gB xs i=U v)(q:k v):ExrIxT a x y H k
def Wt(a:FG):R2:=λx y H Q=>ExrIxT a x y H λv=>Q v H
def Zy:R2:=λx y H Q=>∃z i c,x=.str z/\y=.int i/\z.length<=sizeLine/\gB z.cps.toList i=U c/\Q (.str ⟨#[c]⟩) H
def Uw:IxR X (YJ X.K):=by
 intro T S e s G H x y v u Q I D E h d;obtain⟨p,xs,i,z,rfl,rfl,B,n,q⟩:=h;cases D;obtain⟨t,rfl⟩:=E;obtain⟨f,r,pl,R⟩:=I.list B;obtain⟨j,a,g,N,l,m⟩:=LY n;obtain⟨w,M,C⟩:=r.get g;have A:=r.length;have P:=HX;have b:EP X e G Q w s:=(z,H,I,C,q);by_cases c:0<=i
 .have o:i.toNat=j:=by
   rw[seqIndex_of c m]at a;exact Option.some.inj a
  exact item_listR pl.isList c (by lia) (by simp_all) b d
 .have o:(i+f.toArray.size).toNat=j:=by
   rw[seqIndex_neg (by lia) l]at a;rw[size_toArray,←A];exact Option.some.inj a
  exact subscriptTail_builtinR pl.isList.typeIs slot_list_getitem.lookup
   (wpAny_getItem_list_neg pl.isList (by lia) (by simp_all) (by lia) (by simp_all) (rfl,b)) d
def Wu:IxR X (Wt X.K):=by
 intro N M l s R H x y v u Q I f g h d;obtain⟨p,P,i,z,rfl,rfl,c,b,q⟩:=h;cases f;obtain⟨t,rfl⟩:=g;obtain⟨m,r,pl,G⟩:=I.tuple c;obtain⟨j,o,a,A,B,C⟩:=LY b;obtain⟨w,n,e⟩:=r.get a;have D:=r.length;have E:=HX
 exact subscriptTail_builtinR pl.typeIs slot_tuple_getitem.lookup
  (getItem_tuple (j:=j) pl (by lia) (by lia) (by simp_all) (by simp[*]) (rfl,(z,H,I,e,q))) d
def LZ:IxR X Zy:=by
 intro C A f s D H x y v u Q I d e h b;obtain⟨z,i,c,rfl,rfl,w,a,q⟩:=h;obtain⟨t,rfl⟩:=d;obtain⟨B,rfl⟩:=e;obtain⟨j,g,l,m,n,o⟩:=LY a;have p:z.cps.toList.length=z.length:=by simp[Str.length]
 have r:=HX
 exact tail_any (typeIs_str s z t) slot_str_getitem.lookup (getItem_str (by
  lia) (by simp_all) (.str ⟨#[c]⟩,H,I.tok _,(_,rfl),q)) b
def OV(a:jo)(n j)(u):Obj.mapSeq (·.setIfInBounds j u) {cls:=.type jH,data:=.seq a.toArray n}={cls:=.type jH,data:=.seq (a.set j u).toArray n}:=by
 simp[Obj.mapSeq]
def Inv.lst{X}{d}{c:St}{H}{s}{p}{b}(I:Inv X d c H s)(h:H p=U (.lst b)):
  ∃(a:jo)(n:Nat),Vals b a/\s.heap.get? p=U {cls:=.type jH,data:=.seq a.toArray n}/\b.length<=sizeLine:=by
 obtain⟨z,a,n,r,e⟩:=I.cy p _ h
 simp_all
def Inv.lstUpd{H}{s}{c}{d a:jo}(I:Inv X g v H s)(h:H p=U (.lst w))
  (l:s.heap.get? p=U {cls:=.type jH,data:=.seq d.toArray n}) (i:f {cls:=.type jH,data:=.seq d.toArray n}={cls:=.type jH,data:=.seq a.toArray j}) (r:Vals c a) (m:c.length<=sizeLine) (t):
  Inv X g v (upd H p (.lst c)) {s with heap:=s.heap.update p f,toks:=t}:=by
 have e:(s.heap.update p f).get? p=U {cls:=.type jH,data:=.seq a.toArray j}:=by
  rw[zS f l (by rw[i]<;>rfl),i]
 refine I.write (by rw[h];trivial) (.inl Y) (λb u o q=>(zU _ _ (Ne.symm o)).trans q) (_,e) ?_;exact(m,a,j,r,e)
def YK:V->V->V->Hp->(Hp->Prop)->Prop:=λo i v H Q=>∃p a k j,o=.ref p/\i=.int k/\H p=U (.lst a)/\gY a.length k=U j/\Q (upd H p (.lst (a.set j v)))
def Gk:YF X YK:=by
 rintro A s N H o i v G E u Q I x w y ⟨p,M,k,j,rfl,rfl,e,h,q⟩;cases x;obtain⟨t,rfl⟩:=w;obtain⟨c,n,r,b,D⟩:=I.lst e;obtain⟨a,B,f,g⟩:=Pi h;have m:=r.length;have C:=HX
 have z:=
  I.lstUpd e b (OV c n j u) (r.set y j) (by simp_all) s.toks
 by_cases d:0<=k
 .have l:k.toNat=j:=by
   rw[seqIndex_of d g]at a;exact Option.some.inj a
  exact W.ki_setAt b d (by lia) (by simp_all) (by grind)
 .have l:(k+c.toArray.size).toNat=j:=by
   rw[seqIndex_neg (by lia) f]at a;rw[size_toArray,←m];exact Option.some.inj a
  exact W.ki_setBack b (by lia) (by simp_all) (by lia) (by grind)
noncomputable def Gm:V->Bool
 |.bQ=>L
 |.bl _=>L
 |.int _=>L
 |.str _=>L
 |_=>O
noncomputable def iB:V->V->Bool
 |.bQ,.bQ=>L
 |.bl a,.bl b=>a==b
 |.bl a,.int b=>(if a then 1 else 0)==b
 |.int a,.bl b=>a==(if b then 1 else 0)
 |.int a,.int b=>a==b
 |.str a,.str b=>a==b
 |_,_=>O
def Wv(h:RelV y u)(d:RelV x v)(j:Gm y=L)(i:Gm x=L):SeqAt.EqAt A s u v (iB y x):=by
 cases y with
 |bQ=>
  cases h;cases x with
  |bQ=>cases d;exact SeqAt.EqAt.same _
  |bl b=>cases d;exact SeqAt.EqAt.none_bool b
  |int b=>obtain⟨t,rfl⟩:=d;exact SeqAt.EqAt.none_int b t
  |str b=>obtain⟨t,rfl⟩:=d;exact SeqAt.EqAt.none_str b t
  |_=>exact absurd (i) Bool.false_ne_true
 |bl a=>
  cases h;cases x with
  |bQ=>cases d;exact SeqAt.EqAt.bool_none a
  |bl b=>cases d;exact SeqAt.EqAt.bool_bool a b
  |int b=>obtain⟨t,rfl⟩:=d;exact SeqAt.EqAt.bool_int a b t
  |str b=>obtain⟨t,rfl⟩:=d;exact SeqAt.EqAt.bool_str a b t
  |_=>exact absurd (i) Bool.false_ne_true
 |int a=>
  obtain⟨e,rfl⟩:=h;cases x with
  |bQ=>cases d;exact SeqAt.EqAt.int_none a e
  |bl b=>cases d;exact SeqAt.EqAt.int_bool a e b
  |int b=>obtain⟨t,rfl⟩:=d;exact SeqAt.EqAt.int_int a e b t
  |str b=>obtain⟨t,rfl⟩:=d;exact SeqAt.EqAt.int_str a e b t
  |_=>exact absurd (i) Bool.false_ne_true
 |str a=>
  obtain⟨e,rfl⟩:=h;cases x with
  |bQ=>cases d;exact SeqAt.EqAt.str_none a e
  |bl b=>cases d;exact SeqAt.EqAt.str_bool a e b
  |int b=>obtain⟨t,rfl⟩:=d;exact SeqAt.EqAt.str_int a e b t
  |str b=>obtain⟨t,rfl⟩:=d;exact SeqAt.EqAt.str_str a e b t
  |_=>exact absurd (i) Bool.false_ne_true
 |_=>exact absurd (j) Bool.false_ne_true
def gR(x:V)(u:Value):Bool:=match u with
 |.none=>iB .bQ x
 |.bool b=>iB (.bl b) x
 |.int i _=>iB (.int i) x
 |.str z _=>iB (.str z) x
 |_=>O
def SM(r:RelV y u)(f:Gm y=L):gR x u=iB y x:=by
 cases y with
 |bQ=>cases r;rfl
 |bl b=>cases r;rfl
 |int i=>obtain⟨t,rfl⟩:=r;rfl
 |str z=>obtain⟨t,rfl⟩:=r;rfl
 |_=>trivial
theorem Gn:∀{b}{a},Vals b a->b.all Gm=L->a.any (gR x)=b.any λy=>iB y x
 |_,_,.nil,_=>rfl
 |y::b,u::a,.cons r t,f=>by
  rw[List.all_cons,Bool.and_eq_true]at f;rw[any_cons,any_cons,SM r f.1,Gn t f.2]
theorem Es(h:RelV x v)(e:Gm x=L):∀{b}{d},Vals b d->b.all Gm=L->∀u∈d,SeqAt.EqAt A s u v (gR x u)
 |_,_,.nil,_=>λu a=>by cases a
 |y::b,u::d,.cons r t,f=>λi a=>by
  rw[List.all_cons,Bool.and_eq_true]at f;rcases mem_cons.mp a with rfl|a
  .rw[SM r f.1];exact Wv r h f.1 e
  .exact Es h e t f.2 i a
def fG(x:V)(a:jq):Bool:=a.any λy=>iB y x
def rIn(a:FG)(b:Bool):R2:=λx y H Q=>∃p c,y=.ref p/\(bZ a H p c\/cD a H p c)/\Gm x=L/\c.all Gm=L/\Q (.bl (if b then !fG x c else fG x c)) H
def FV:ee X (compareOp .In) (rIn X.K O):=by
 rintro e s t H x y v u Q I h j ⟨p,z,rfl,d,i,fs,q⟩;cases j;rcases d with d|d
 .obtain⟨a,r,pl,l⟩:=I.list d;refine SeqAt.in_listAt (gR x) pl.isList (λw o=>Es h i r fs w (by simp_all)) (.bl _,H,I,Y,?_)
  rwa[show a.toArray.any (gR x)=a.any (gR x) by simp,Gn r fs]
 .obtain⟨a,r,pl,l⟩:=I.tuple d;refine SeqAt.in_tupleAt (gR x) pl (λw o=>Es h i r fs w (by simp_all)) (.bl _,H,I,Y,?_)
  rwa[show a.toArray.any (gR x)=a.any (gR x) by simp,Gn r fs]
def La:ee X (compareOp .NotIn) (rIn X.K L):=by
 rintro e s t H x y v u Q I h j ⟨p,z,rfl,d,i,fs,q⟩;cases j;rcases d with d|d
 .obtain⟨a,r,pl,l⟩:=I.list d;refine SeqAt.notIn_listAt (gR x) pl.isList (λw o=>Es h i r fs w (by simp_all)) (.bl _,H,I,Y,?_)
  rwa[show a.toArray.any (gR x)=a.any (gR x) by simp,Gn r fs]
 .obtain⟨a,r,pl,l⟩:=I.tuple d;refine SeqAt.notIn_tupleAt (gR x) pl (λw o=>Es h i r fs w (by simp_all)) (.bl _,H,I,Y,?_)
  rwa[show a.toArray.any (gR x)=a.any (gR x) by simp,Gn r fs]
def Go:cH X (.builtin "len") (λb H Q=>∃p a,b=[.ref p]/\(bZ X.K H p a\/cD X.K H p a)/\Q (.int a.length) H):=by
 rintro i s m H b l Q I r ⟨p,a,rfl,c,q⟩;obtain⟨u,rfl,h⟩:=Bc r;cases h;have j:=HX;rcases c with c|c
 .obtain⟨e,d,pl,g⟩:=I.list c;have f:=d.length;exact Calls.call_len_list pl.isList (by grind) (.int a.length,H,I.tok _,(s.toks+1,by simp_all),q)
 .obtain⟨e,d,pl,g⟩:=I.tuple c;have f:=d.length;exact len_tuple pl (by grind) (.int a.length,H,I.tok _,(s.toks+1,by simp_all),q)
def A4:cH X (.builtin "len") (λa H Q=>∃z,a=[.str z]/\z.length<=sizeLine/\Q (.int z.length) H):=by
 rintro b s f H a e Q I r ⟨z,rfl,d,q⟩;obtain⟨u,rfl,t,rfl⟩:=Bc r;have c:=HX;exact len_str (by lia) (.int z.length,H,I.tok _,(_,Y),q)
def cH.or(h:cH X f r)(c:cH X f g):cH X f (λb H Q=>r b H Q\/g b H Q):=by
 intro a s i H b d Q I e q;rcases q with q|q
 .exact h a s i H b d Q I e q
 .exact c a s i H b d Q I e q
def Fg:cH X (.type jN) (λf H Q=>∃p c,f=[.ref p]/\((bZ X.K H p c/\∀l,H l=J->Q (.ref l) (upd H l (.tup c)))\/(cD X.K H p c/\Q (.ref p) H))):=by
 rintro t s B H f C Q I r ⟨p,c,rfl,h⟩;obtain⟨u,rfl,A⟩:=Bc r;cases A;rcases h with⟨d,q⟩|⟨d,q⟩
 .obtain⟨a,i,pl,x⟩:=I.list d;have j:=i.length;refine call_tuple_list pl.isList (λy kp=>?_) (by simp_all);have v:=I.kept (t':=s.toks) kp
  have z:=
   v.laid (t':=s.toks) (λb o e=>zV _ e) (zq _) (show df X.prog X.w _ _ _ (.tup c)from(x,a,i,IsTup.new _ _))
  exact(.ref y.objs.size,_,z,Y,q _ (v.cy.fresh (zq _)))
 .obtain⟨a,i,pl,x⟩:=I.tuple d;exact call_tuple_same pl (.ref p,H,I,Y,q)
def tyV(a:FG)(T:String)(x:V)(H:Hp):Prop:=match x with
 |.str _=>T=mQ
 |.int _=>T=oa
 |.ref p=>(T=jH /\ ∃c,bZ a H p c)\/(T=jN /\ ∃o,a.lookup p=U o/\o.cls=.type jN /\ o.dict=J) \/
   (T=kg /\ ((∃b,H p=U (.dK b))\/∃b,H p=U (.dT b)))\/(T=oI /\ ∃S n,H p=U (.set S n))
 |_=>False
def SN(I:Inv X b f H s)(r:RelV x v)(ty:tyV X.K T x H):
  s.TypeIs v T/\∀a,v=.ref a->∃u,s.heap.get? a=U u/\u.dict=J:=by
 cases x with
 |str z=>
  obtain⟨t,rfl⟩:=r;cases (ty);exact(typeIs_str s z t,λ_ e=>nomatch e)
 |int i=>
  obtain⟨t,rfl⟩:=r;cases (ty);exact(typeIs_int s i t,λ_ e=>nomatch e)
 |ref p=>
  cases r;rcases ty with⟨rfl,C,A⟩|⟨rfl,o,d,y,q⟩|⟨rfl,d⟩|⟨rfl,S,n,d⟩
  .obtain⟨B,_,pl,_⟩:=I.list A;refine(pl.isList.typeIs,λa e=>?_);cases e;obtain⟨o,n,e,c,q,_⟩:=pl
   simp_all
  .refine((o,I.dZ p o d,y),λa e=>?_);cases e;exact(o,I.dZ _ o d,q)
  .have z:∃o,s.heap.get? p=U o/\o.ExactDict:=by
    rcases d with⟨l,d⟩|⟨l,d⟩
    .obtain⟨_,_,_,_,o,_,_,e,h,_⟩:=I.cy p _ d
     simp_all
    .obtain⟨_,_,_,_,o,_,_,e,h,_⟩:=I.cy p _ d
     simp_all
   obtain⟨o,e,h⟩:=z;refine((o,e,h.1),λa j=>?_);cases j;exact(o,e,h.2.1)
  .obtain⟨o,_,_,_,e,h,_⟩:=I.cy p _ d;refine((o,e,h.1),λa j=>?_);cases j;exact(o,e,h.2.1)
 |_=>trivial
def Zz(a:FG)(T:String)(r:V->jq->Hp->VK->Prop)(to:TE):TE:=λc H Q=>to c H λx b=>tyV a T x b/\r x [] b Q
def tBM(a:FG)(T:String)(r:V->jq->Hp->VK->Prop)(to:TE)(t:TA):TE:=λc H Q=>to c H λx b=>tyV a T x b/\t c b λe d=>r x e d Q
def Fq{X}{o}{to}{a}{e i}{T id}{r}(A:PlainAttrs T)(p:Slot T a id)(q:typeOf (.builtin id)=pure (.type mw))(D:MtR X id r)(C:PE X o to)
  (l:attributeBase o a X.env (eval o X.env)=eval o X.env:=by rfl) (j:(e.endLine==i.line)=L:=by rfl):PE X (.Call (.Attribute o a e) [] [] i) (Zz X.K T r to):=by
 intro d s y H Q I h;refine wpAny_Call_method0_late l j (cA (C d s y H _ I h) λv E w=>?_);obtain⟨x,z,u,t,ty,q1⟩:=w;obtain⟨B,F⟩:=SN u t ty;exact(T,id,A,p,q,B,F,Calls.callWith_builtin Y (PySem.evalArgs_none (D d E y z x [] v [] Q u t .nil q1)))
def SQ{X}{e}{o}{q}{to}{t}{i}{j a}{T id}{r}(G:PlainAttrs T)(u:Slot T i id)(A:typeOf (.builtin id)=pure (.type mw))(R:MtR X id r)(N:PE X o to)(M:PA X (e::q) t)
  (p:attributeBase o i X.env (eval o X.env)=eval o X.env:=by rfl)
  (y:((backTo a (starEach (e::q) X.env)).all (λx=>!x.1)&&(backToKw a (keywordEach [] X.env)).all (λx=>x.1.isSome)
   && decide ((e::q).length+([]:List Keyword).length+(if ([]:List Keyword).isEmpty then 0 else 1)<30))=L:=by rfl)
  (l:(j.endLine==a.line)=L:=by rfl) (b:gj X e q:=by rfl) (z:(backTo a (starEach q X.env)).any (·.1)=O:=by rfl):
  PE X (.Call (.Attribute o i j) (e::q) [] a) (tBM X.K T r to t):=by
 intro d s B H Q I h;refine wpAny_Call_method_late p y l Y (cA (N d s B H _ I h) λv m k=>?_);obtain⟨x,F,D,C,ty,q1⟩:=k;obtain⟨c,P⟩:=SN D C ty;refine(T,id,G,u,A,c,P,?_);have E:=M a d m B F _ D q1;rw[b]at E ⊢;exact Calls.callWith_builtin (by assumption) (Calls.evalArgs_plain (cA E λn f zz=>by obtain⟨vs,g,S,w,q2⟩:=zz;exact R d f B g x vs v n Q S C w q2))
def MtM(X:Cx)(id:String)(r:V->jq->Hp->VK->Prop):Prop:=
 ∀a s(d:St)H x c v b Q,Inv X a d H s->RelV x v->Vals c b->r x c H Q ->
  dH X (call (.builtin id) (v::b)) (EP X a d Q) X.xe s
def Vals.one:∀{x}{a},Vals [x] a->∃u,a=[u]/\RelV x u
 |_,_,.cons r .nil=>(_,rfl,r)
def Vals.zero:∀{a},Vals [] a->a=[]
 |_,.nil=>rfl
def Vals.dropLast(h:Vals c b):Vals c.dropLast b.dropLast:=by
 induction h with
 |nil=>exact .nil
 |cons r t a=>
  cases t with
  |nil=>exact .nil
  |cons q d=>exact .cons r a
def Inv.lset{H}{s}{b}{d a:jo}{f}(I:Inv X c m H s)(h:H l=U (.lst v))
  (e:s.heap.get? l=U {cls:=.type jH,data:=.seq d.toArray n}) (j:f d.toArray=a.toArray) (i:Vals b a) (g:b.length<=sizeLine):
  Inv X c m (upd H l (.lst b)) {s with heap:=s.heap.update l (Obj.mapSeq f),toks:=t}:=by
 have q:=PySem.IsL.update e f;rw[j]at q;refine I.write (by rw[h];exact trivial) (.inl Y) (λr u o p=>(zU s.heap (Obj.mapSeq f) (Ne.symm o)).trans p) (_,q) ?_;exact(g,a,_,i,q)
def Inv.lnew(I:Inv X c f H s)(d:Vals b a)(e:b.length<=sizeLine):
  Inv X c f (upd H s.heap.objs.size (.lst b)) {s with heap:=s.heap.push {cls:=.type jH,data:=.seq a.toArray},toks:=g}:=
 I.laid (λ_ _ q=>zV _ q) (zq _) (e,a,0,d,zM _ rfl)
def Inv.fresh(I:Inv X a b H s):H s.heap.objs.size=J:=I.cy.fresh (zq _)
def Inv.lstM(I:Inv X c f H s)(d:H l=U (.lst b)):b.length<=sizeLine/\∃(a:jo)(n:Nat),Vals b a/\b.length=a.length/\s.heap.get? l=U {cls:=.type jH,data:=.seq a.toArray n}:=by
 obtain⟨z,a,n,r,e⟩:=I.cy l _ d;exact(z,a,n,r,r.length,e)
def Ir:V->jq->Hp->VK->Prop:=λx b H Q=>∃l a y,x=.ref l/\b=[y]/\H l=U (.lst a)/\a.length<sizeLine/\Q .bQ (upd H l (.lst (a++[y])))
def Ql:MtM X "list.append" Ir:=by
 rintro d s A H x D v C Q I o j ⟨l,B,y,rfl,rfl,h,t,q⟩;cases o;obtain⟨u,rfl,i⟩:=j.one;obtain⟨z,a,n,r,p,e⟩:=I.lstM h;refine call_meets F.slot_list_append (_,e,Y) F.entry_list_append (F.args_list_append_2 _ _) (PySem.list_append l a.toArray n u (by simp_all)) (e,(.bQ,_,I.lset h e (by simp) (r.append (.cons i .nil)) ?_,Y,q))
 grind
def Z0:V->jq->Hp->VK->Prop:=λx b H Q=>∃l a y,x=.ref l/\b=[]/\H l=U (.lst a)/\a[a.length-1]?=U y/\Q y (upd H l (.lst a.dropLast))
def Hg:MtM X "list.pop" Z0:=by
 rintro i s C H x G v E Q I A t ⟨l,D,y,rfl,rfl,j,B,q⟩;cases A;have h:=t.zero;subst h;obtain⟨z,a,n,r,o,e⟩:=I.lstM j;obtain⟨u,b,p⟩:=r.get B
 have d:a.toArray[a.toArray.size-1]?=U u:=by
  show a.toArray[a.length-1]?=U u
  rwa[←Array.getElem?_toList,←o]
 refine call_meets F.slot_list_pop (_,e,Y) F.entry_list_pop (F.args_list_pop_1 _) (MeetsSeq.list_pop_last l a.toArray n u d (by simp_all)) (e,(y,_,I.lset j e ?_ r.dropLast ?_,p,q))
 .simp_all
 grind
def Z1:R2:=λx y H Q=>∃l b a c,x=.ref l/\y=.ref b/\H l=U (.lst a)/\H b=U (.lst c)/\a.length+c.length<=sizeLine/\∀p,H p=J->Q (.ref p) (upd H p (.lst (a++c)))
def Hh:ee X (binaryOp .Add) Z1:=by
 rintro h s f H x y v u Q I t o ⟨l,b,M,F,rfl,rfl,A,i,c,q⟩;cases t;cases o;obtain⟨z,d,n,r,D,e⟩:=I.lstM A;obtain⟨G,a,E,B,p,C⟩:=I.lstM i;refine PySem.P.add_list e C ?_ (by simp_all);have j:d.toArray++a.toArray=(d++a).toArray:=by simp
 rw[j];exact(.ref _,_,I.lnew (r.append B) (by simp_all),Y,q _ I.fresh)
section
variable {κ:Type} [DecidableEq κ]
noncomputable def Ai(a:List (κ×V))(k:κ):Option V:=(a.find? λb=>decide (b.1=k)).map (·.2)
noncomputable def Bi(a:List (κ×V))(k:κ)(v:V):List (κ×V):=
 if (a.any λb=>decide (b.1=k))=L then a.map (λb=>if b.1=k then (b.1,(v))else b)else a++[(k,(v))]
noncomputable def Br(a:List (κ×V))(k:κ):List (κ×V):=a.filter λb=>decide (b.1≠k)
def Mi{k}:Ai ([]:List (κ×V)) k=J:=rfl
def A9{p}{r}{k:κ}(e:p.1=k):Ai (p::r) k=U p.2:=by simp[Ai,e]
def A6{p}{r}{k:κ}(e:¬ p.1=k):Ai (p::r) k=Ai r k:=by simp[Ai,e]
theorem DJ(k:κ):∀b,(b.any λa=>decide (a.1=k))=(Ai b k).isSome
 | []=>rfl
 |p::r=>by
  rw[any_cons];by_cases e:p.1=k
  .simp[A9 e,zK e,Bool.true_or,Option.isSome_some]
  .rw[A6 e,zN e];exact DJ k r
theorem Mj(k j:κ)(y):∀b,Ai (b.map λa=>if a.1=k then (a.1,(y))else a) j=(Ai b j).map λx=>if j=k then y else x
 | []=>rfl
 |p::r=>by
  have d:=Mj k j y r;rw[map_cons];by_cases h:p.1=k
  .rw[zg h];by_cases e:p.1=j
   .rw[A9 (p:=(p.1,(y))) e,A9 e,Option.map_some,zg (e.symm.trans h)]
   .rw[A6 (p:=(p.1,(y))) e,A6 e,d]
  .rw[zh h];by_cases e:p.1=j
   .rw[A9 e,A9 e,Option.map_some,zh (λz=>h (e.trans z))]
   .rw[A6 e,A6 e,d]
theorem Kc(k j:κ)(y):∀b,Ai b k=J->Ai (b++[(k,(y))]) j=if j=k then U y else Ai b j
 | [],_=>by
  by_cases e:k=j
  .rw[zg e.symm];exact A9 e
  .rw[zh (λz=>e z.symm)];exact A6 e
 |p::r,hn=>by
  rw[List.cons_append];have a:¬ p.1=k:=λz=>by rw[A9 z]at hn;cases hn
  rw[A6 a]at hn;by_cases e:p.1=j
  .rw[A9 e,A9 e,zh (λz=>a (e.trans z))]
  .rw[A6 e,A6 e,Kc k j y r hn]
def JG(b)(k j:κ)(y):Ai (Bi b k y) j=if j=k then U y else Ai b j:=by
 unfold Bi;by_cases a:(b.any λd=>decide (d.1=k))=L
 .rw[zg a,Mj];rw[DJ]at a;by_cases e:j=k
  .obtain⟨x,h⟩:=Option.isSome_iff_exists.mp a
   simp_all
  simp_all
 .rw[zh a];apply Kc k j y b;rw[DJ]at a
  simp_all
def Cs(a)(k:κ)(v):(Bi a k v).length<=a.length+1:=by
 unfold Bi
 grind
def Gp{a}{k:κ}(v)(h:Ai a k=J):Bi a k v=a++[(k,(v))]:=by
 unfold Bi;rw[DJ,h];rfl
def eJ.isSome_eq(r:eJ o u):o.isSome=u.isSome:=by
 cases o with
 |none=>cases u with
  |none=>rfl
  |some _=>trivial
 |some _=>cases u with
  |none=>trivial
  |some _=>rfl
def eJ.getD(r:eJ o u)(rd:RelV d a):RelV (o.getD d) (u.getD a):=by
 cases o with
 |none=>cases u with
  |none=>exact rd
  |some _=>exact(r).elim
 |some _=>cases u with
  |none=>exact(r).elim
  |some _=>exact r
def KV.val{c}{f}(r:KV c f)(k:κ):eJ (Ai c k) (valueAt f k):=by
 induction r with
 |nil=>exact True.intro
 | @cons p q j d h t l=>
  obtain⟨i,o⟩:=h;by_cases e:p.1=k
  .have a:=i.symm.trans e;have b:valueAt (q::d) k=U q.2:=by simp[valueAt,a]
   rwa[A9 e,b]
  .have a:¬ q.1=k:=λz=>e (i.trans z);have b:valueAt (q::d) k=valueAt d k:=by simp[valueAt,a]
   rwa[A6 e,b]
def KV.any{b}{c}(r:KV b c)(k:κ):(b.any λa=>decide (a.1=k))=c.any λa=>decide (a.1=k):=by
 induction r with
 |nil=>rfl
 |cons h t d=>simp_all
def KV.repl{b}{c}(r:KV b c)(k:κ)(i:RelV y u):
  KV (b.map λa=>if a.1=k then (a.1,(y))else a) (c.map λa=>if a.1=k then (a.1,(u))else a):=by
 induction r with
 |nil=>exact .nil
 | @cons p q e j h t d=>
  refine .cons ?_ d
  lia
def KV.put{c}{b}(r:KV c b)(k:κ)(a:RelV y u):KV (Bi c k y) (stored b k u):=by
 unfold Bi stored;rw[r.any k];by_cases e:(b.any λd=>decide (d.1=k))=L
 .rw[zg e,zg e];exact r.repl k a
 .rw[zh e,zh e];exact Paired.snoc r (Y,a)
def KV.drop{c}{f}(r:KV c f)(k:κ):KV (Br c k) (without f k):=by
 unfold Br without;induction r with
 |nil=>exact .nil
 | @cons p q o u h t j=>
  obtain⟨d,l⟩:=h;rw[filter_cons,filter_cons];by_cases e:p.1=k
  .have a:¬ decide (p.1≠k)=L:=by simp[e]
   have b:¬ decide (q.1≠k)=L:=by simp[d.symm.trans e]
   rwa[zh a,zh b]
  .have i:¬ q.1=k:=λz=>e (d.trans z);rw[zg (by simp[e]),zg (by simp[i])];exact .cons (d,l) j
def KV.length{a:List (κ×V)}{b}(r:KV a b):a.length=b.length:=Paired.length r
def SR(a)(k:κ):(Br a k).length<=a.length:=length_filter_le _ _
end
def Et(r:RelV (kV k) u):(Ac P w).is k u=L:=by
 cases k with
 |inl i=>obtain⟨t,e⟩:=(r);subst e;exact MW P w i t
 |inr x=>obtain⟨t,e⟩:=(r);subst e;exact Em P w x t
theorem Kd:∀{a}{d},Vals (a.map kV) d->ItemsAre (Ac P w) a d
 | [],_,r=>by rw[List.map_nil]at r;cases r;exact .nil
 |k::a,_,r=>by
  cases r with
  |cons h t=>exact .cons (Et h) (Kd t)
abbrev KT(H:Hp):List (List Key×V)->List (List Key×jr×Value)->Prop:=Paired λp q=>p.1=q.1/\H q.2.1=U (.tup (p.1.map kV))/\RelV p.2 q.2.2
def KT.val(r:KT H c f)(k):eJ (Ai c k) ((atKey f k).map (·.2)):=by
 induction r with
 |nil=>exact True.intro
 | @cons p q j d h t l=>
  obtain⟨i,_,o⟩:=h;by_cases e:p.1=k
  .have a:=i.symm.trans e;have b:atKey (q::d) k=U q.2:=by simp[atKey,a]
   rwa[A9 e,b]
  .have a:¬ q.1=k:=λz=>e (i.trans z);have b:atKey (q::d) k=atKey d k:=by simp[atKey,a]
   rwa[A6 e,b]
def KT.repl(r:KT H b c)(k)(j:RelV y u):
  KT H (b.map λa=>if a.1=k then (a.1,(y))else a) (c.map (putAt k u)):=by
 induction r with
 |nil=>exact .nil
 | @cons p q e v h t d=>
  refine .cons ?_ d;obtain⟨l,o,i⟩:=h;unfold putAt
  lia
def KT.put(r:KT H f c)(k)(h:H b=U (.tup (k.map kV)))(a:RelV y u):
  KT H (Bi f k y) (storedH c k b u):=by
 have e:(f.any λd=>decide (d.1=k))=(atKey c k).isSome:=by
  rw[DJ,(r.val k).isSome_eq,Option.isSome_map]
 unfold Bi storedH;rw[e];by_cases q:(atKey c k).isSome=L
 .rw[zg q,zg q];exact r.repl k a
 .rw[zh q,zh q];exact Paired.snoc r (Y,h,a)
def KT.keeps(r:KT H d e)(ht:∀b a,H b=U (.tup a)->c b=U (.tup a)):KT c d e:=
 Paired.mapP r λ_ _ z=>(z.1,ht _ _ z.2.1,z.2.2)
def WL(ok:eA P w H h)(e:Rd H a u):df P w H h a u:=e.ok ok
def Ct(ok:eA P w H h)(e:Rd H a (.dK b)):b.length<=sizeLine/\(a==sysModules)=O/\∃c,KV b c/\h.DictOf (Ac P w) a c:=
 show df P w H h a (.dK b)from WL ok e
def Pk(ok:eA P w H h)(e:H a=U (.dK b)):b.length<=sizeLine/\(a==sysModules)=O/\∃c,KV b c/\h.DictOf (Ac P w) a c:=Ct ok (.inl e)
def Hi(ok:eA P w H h)(e:H a=U (.tup (b.map kV))):(tupleKind (Ac P w)).is h b a:=by
 obtain⟨_,d,r,o,j,l,n,i⟩:=(ok a _ e);exact(o,d.toArray,n,j,l,i,by simpa using Kd r)
def JH(ok:eA P w H h)(e:Rd H a (.dT c)):c.length<=sizeLine/\(a==sysModules)=O /\
  ∃b,KT H c b/\h.DictOfH (tupleKind (Ac P w)) a b:=by
 obtain⟨z,y,b,r,o,j,ep,u,C,B,A,i⟩:=(WL ok e);refine(z,y,b,r,o,j,ep,u,C,B,A,λx d=>?_,i)
 have all:∀{l:List (List Key×V)}{m:List (List Key×jr×Value)},KT H l m->∀x∈m,(tupleKind (Ac P w)).is h x.1 x.2.1:=by
  intro l m q;induction q with
  |nil=>simp_all
  | @cons p q E F D t v=>
   intro x d;rcases mem_cons.mp d with e|d
   .subst e;exact Hi ok (by simp_all)
   .exact v x d
 exact all r x d
def YL(ok:eA P w H h)(e:H a=U (.dT b)):b.length<=sizeLine/\(a==sysModules)=O /\
  ∃c,KT H b c/\h.DictOfH (tupleKind (Ac P w)) a c:=JH ok (.inl e)
def Lb(H:Hp)(a:jr)(y:V)(r:Option V):Prop:=
 (∃c k,Rd H a (.dK c)/\y=kV k/\r=Ai c k)\/∃c k b,Rd H a (.dT c)/\y=.ref b/\H b=U (.tup (k.map kV))/\r=Ai c k
def gx(H:Hp)(a:jr)(y v:V)(c:Hp):Prop:=
 (∃d k,H a=U (.dK d)/\y=kV k/\d.length<sizeLine/\c=upd H a (.dK (Bi d k v))) \/
 ∃d k b,H a=U (.dT d)/\y=.ref b/\H b=U (.tup (k.map kV))/\d.length<sizeLine/\c=upd H a (.dT (Bi d k v))
def gx.k{H:Hp}{a}{b}{k}{v}(e:H a=U (.dK b))(d:b.length<sizeLine):gx H a (kV k) v (upd H a (.dK (Bi b k v))):=.inl (b,k,e,rfl,d,rfl)
def Inv.big(I:Inv X a b H s):sysModules<s.heap.objs.size:=by
 exact Nat.lt_trans qc ((I.mod.glob.keeps I.bk).lt)
def Qm(D:A.units+1<cLine)(I:Inv X c f H s)(g:Lb H a y (U v))(B:RelV y u)(h:∀j C,Inv X c f H C->RelV v j->Q j C):
  wpAny (model X.prog X.w) A (getItem (.ref a) u) Q E s:=by
 rcases g with⟨o,k,e,t,l⟩|⟨o,k,b,e,t,J,l⟩
 .subst t;obtain⟨z,F,M,d,q⟩:=Ct I.cy e;obtain⟨j,x,i⟩:=eJ.some_of (by rw[l];exact d.val k);exact wpAny_getItem_of (Et B) q.mapOf x (h j _ (I.tok _) i)
 .subst t;cases (B);obtain⟨z,F,m,d,q⟩:=JH I.cy e;obtain⟨j,x,i⟩:=eJ.some_of (by rw[l];exact d.val k);obtain⟨p,G,r⟩:=z6.mp x;apply wpAny_getItem_heap (tupleKind_room_in1 D) (Hi I.cy J) q G;rw[r];exact h j _ (I.tok _) i
def Z2(x:A.units+1<cLine)(I:Inv X c f H s)(g:Lb H a y o)(t:RelV y u)(h:∀v,Inv X c f H v->Q (.bool o.isSome) v):
  wpAny (model X.prog X.w) A (compareOp .In u (.ref a)) Q E s:=by
 rcases g with⟨p,k,e,r,l⟩|⟨p,k,b,e,r,B,l⟩
 .subst r;obtain⟨z,i,D,d,j⟩:=Ct I.cy e;apply wpAny_in_of (Et t) i j.mapOf;rw[←(d.val k).isSome_eq,←l];exact h _ (I.tok _)
 .subst r;cases (t);obtain⟨z,i,C,d,j⟩:=JH I.cy e;apply wpAny_in_heap (tupleKind_room_in1 x) (Hi I.cy B) i j;have q:=(d.val k).isSome_eq;rw[Option.isSome_map]at q;rw[←q,←l];exact h _ (I.tok _)
def Ux(x:A.units+1<cLine)(I:Inv X c f H s)(g:Lb H a y o)(t:RelV y u)(h:∀v,Inv X c f H v->Q (.bool (!o.isSome)) v):
  wpAny (model X.prog X.w) A (compareOp .NotIn u (.ref a)) Q E s:=by
 rcases g with⟨p,k,e,r,l⟩|⟨p,k,b,e,r,B,l⟩
 .subst r;obtain⟨z,i,D,d,j⟩:=Ct I.cy e;apply wpAny_notIn_of (Et t) i j.mapOf;rw[←(d.val k).isSome_eq,←l];exact h _ (I.tok _)
 .subst r;cases (t);obtain⟨z,i,C,d,j⟩:=JH I.cy e;apply wpAny_notIn_heap (tupleKind_room_in1 x) (Hi I.cy B) i j;have q:=(d.val k).isSome_eq;rw[Option.isSome_map]at q;rw[←q,←l];exact h _ (I.tok _)
def Gq(I:Inv X f j H s)(e:Mut (H a))(g:Heap.SameBut a s.heap c)(i:∃q,c.get? a=U q)(new:df X.prog X.w (upd H a d) c a d):
  Inv X f j (upd H a d) {s with heap:=c,toks:=l}:=
 I.write e (.inl rfl) (λb q h z=>(g.2 b h).trans z) i new
def Hj(z:b.length<=sizeLine)(e:(a==sysModules)=O)(d:KV b c)(h:f.DictOf (Ac P w) a c):
  df P w g f a (.dK b):=(z,e,c,d,h)
def Qn(S:A.units+1<cLine)(I:Inv X m n H s)(g:gx H a y v f)(G:RelV y u)(b:RelV v r)(h:∀c,Inv X m n f c->Q () c):
  wpAny (model X.prog X.w) A (setItem (.ref a) u r) Q E s:=by
 rcases g with⟨d,k,e,x,l,B⟩|⟨d,k,al,e,x,M,l,B⟩
 .subst x B;obtain⟨z,C,vs,i,t⟩:=Pk I.cy e;have P:vs.length<=sizeLine:=by rwa[←i.length]
  have p:(Bi d k v).length<=sizeLine:=by have:=Cs d k v;lia
  refine wpAny_setItem_pairs (Et G) t λF j D=>h _ ?_;have R:∃q,F.get? a=U q:=let ⟨q,_,_,o,_⟩:=j;(q,o)
  exact Gq I (by rw[e];exact True.intro) D R (Hj p C (i.put k b) j)
 .subst x B;cases (G);obtain⟨z,C,ag,i,t⟩:=YL I.cy e;have P:ag.length<=sizeLine:=by rwa[←Paired.length i]
  have p:(Bi d k v).length<=sizeLine:=by have:=Cs d k v;lia
  refine wpAny_setItem_heap (tupleKind_room_in1 S) (Hi I.cy M) t λF j D=>h _ ?_;obtain⟨q,w,ep,o,h2,h3,ab,_,N⟩:=j;refine Gq I (by rw[e];exact True.intro) D (q,o) (p,C,_,(i.put k M b).keeps λan ys T=>?_,q,w,ep,o,h2,h3,ab,N)
  rwa[AE (PY T e (λz=>nomatch z))]
def YM(I:Inv X c f H s)(e:H a=U (.dK b))(p:RelV (kV k) u)(l:Ai b k=U v)(y:more=[]\/∃x,more=[x])
  (h:∀j C,Inv X c f (upd H a (.dK (Br b k))) C->RelV v j->Q j C):wpAny (model X.prog X.w) A (call (.builtin "dict.pop") (.ref a::u::more)) Q E s:=by
 obtain⟨z,m,R,d,B⟩:=Pk I.cy e;obtain⟨j,n,r⟩:=eJ.some_of (by rw[←l];exact d.val k)
 have N:(keyPart u).isSome=L:=by
  cases k with
  |inl i=>obtain⟨t,q⟩:=(p);subst q;rfl
  |inr x=>obtain⟨t,q⟩:=(p);subst q;rfl
 have G:argsOk "dict.pop" (.ref a::u::more,[]):=by
  rcases y with q|⟨x,q⟩
  .subst q;exact args_dict_pop_2 _ _
  .subst q;exact args_dict_pop_3 _ _ _
 refine call_meetsIn slot_dict_pop B.typeIs entry_dict_pop G (meets_dict_pop_there (Ac X.prog X.w) a (Et p) more y N)
  (R,j,B,by rw[←d.length];exact z,n,λg o M=>h j _ ?_ r)
 have F:∃q,g.get? a=U q:=let ⟨q,_,_,D,_⟩:=o;(q,D)
 exact Gq I (by rw[e];exact True.intro) M F (Hj (Nat.le_trans (SR b k) z) m (d.drop k) o)
def YN(I:Inv X b f H s)(e:Rd H a (.dK c))(h:∀t i,Inv X b f H i->Q (.int c.length t) i):wpAny (model X.prog X.w) A (call (.builtin "len") [.ref a]) Q E s:=by
 obtain⟨z,j,o,d,l⟩:=Ct I.cy e;apply call_len_dict j l (by rw[←d.length];rw[sizeLine_eq]at z;lia);rw[←d.length];exact h _ _ (I.tok _)
def YO(i:Expr):Prop:=∀b a,subscripted i O b a=operate [b,a] (getItem b a)
def Uy{s}{y}{w}{A}{E:VS}{b}{q}{d a}{T id}{Q:VS}
  (B:typeLookup (.type T) "__getitem__"=pure (U (.builtin id))) (c:YO a)
  (h:wpAny (model b w) A (eval d q) (λo p=>wpAny (model b w) A (eval a q) (λi e=>e.TypeIs o T/\wpAny (model b w) A (getItem o i) Q E e) E p) E s):
  wpAny (model b w) A (eval (.Subscript d a y) q) Q E s:=by
 refine Subscript_ (zn h (λo p u=>zn u (λi e j=>?_) λ_ _ x=>x) λ_ _ x=>x);obtain⟨z,j⟩:=j;apply zp;refine zp (wpAny_specialOf z B ?_)
 have t:wpAny (model b w) A (subscripted a O o i) (λr l=>wpAny (model b w) A (letTemporaryGo d o r >>= λ_=>pure r) Q E l) E e:=by
  rw[c o i];exact wpAny_operating (zn j (λr l v=>zp (wpAny_letTemporaryGo (zo v))) λ_ _ x=>x)
 first
  |exact zo (zp t)
  |exact zp (zo (zp t))
  |exact zp t
def Ml(I:Inv X c f H s)(g:Lb H a y o):s.TypeIs (.ref a) kg:=by
 rcases g with⟨h,k,e,_,_⟩|⟨h,k,b,e,_,_,_⟩
 .obtain⟨_,_,j,_,d⟩:=Ct I.cy e;exact d.typeIs
 .obtain⟨_,_,i,_,d⟩:=JH I.cy e;exact d.typeIs
inductive ExD(x:V)(H:Hp)(y:V)(k:V->Prop):Prop
 |mk a v(b:x=.ref a)(c:Lb H a y (U v))(q:k v):ExD x H y k
def YQ(td ty:TE):TE:=λb H Q=>td b H λx c=>ty b c λy a=>ExD x a y λv=>Q v a
def Z3(ty td:TE):TE:=λc H Q=>ty c H λy d=>td c d λx b=>∃a o,x=.ref a/\Lb b a y o/\Q (.bl o.isSome) b
def Uz(ty td:TE):TE:=λc H Q=>ty c H λy d=>td c d λx b=>∃a o,x=.ref a/\Lb b a y o/\Q (.bl (!o.isSome)) b
def YR(td ty b:TE):TS:=λD c H=>b c H λv e=>td c e λx f=>ty c f λy g=>∃a d,x=.ref a/\gx g a y v d/\D.nx c d
def Au(E:X.A.units+1<cLine)(q:PE X o td)(B:PE X i ty)(b:YO i):PE X (.Subscript o i c) (YQ td ty):=by
 intro d s l H Q I h;refine Uy PySem.F.slot_dict_getitem.lookup b (cA (q d s l H _ I h) λu C ⟨x,p,z,D,q1⟩=>cA (B d C l p _ z q1) λG f k=>?_);obtain⟨y,r,j,t,a,v,F,g,q2⟩:=k;subst F;obtain rfl:u=Value.ref a:=D;exact(Ml j g,Qm E j g t λm s3 A e=>(v,r,A,e,q2))
def Ft(D:X.A.units+1<cLine)(z:PE X i ty)(l:PE X o td):PC X .In i o (Z3 ty td):=by
 intro d s e H Q I h;refine cA (z d s e H _ I h) λF A ⟨y,j,t,q,q1⟩=>cA (l d A e j _ t q1) λu G k=>?_;obtain⟨x,p,r,B,a,C,E,g,q2⟩:=k;subst E;obtain rfl:u=Value.ref a:=B;exact Z2 D r g q λs3 v=>(.bl C.isSome,p,v,Y,q2)
def Ke(D:X.A.units+1<cLine)(z:PE X i ty)(l:PE X o td):PC X .NotIn i o (Uz ty td):=by
 intro d s e H Q I h;refine cA (z d s e H _ I h) λF A ⟨y,j,t,q,q1⟩=>cA (l d A e j _ t q1) λu G k=>?_;obtain⟨x,p,r,B,a,C,E,g,q2⟩:=k;subst E;obtain rfl:u=Value.ref a:=B;exact Ux D r g q λs3 v=>(.bl (!C.isSome),p,v,Y,q2)
def D4(N:X.A.units+1<cLine)(q:PE X o td)(F:PE X i ty)(M:PE X b n)(c:swapsWith b (U (.Subscript o i m)) f.line X.env=pure O):
  PS X (.Assign [.Subscript o i m] b f) (YR td ty n):=by
 intro d s e H D I h;refine wpAny_Assign_Subscript (cA (M d s e H _ I h) λr G ⟨v,j,B,E,q1⟩=>cA (q d G e j _ B q1) λu l ⟨x,t,A,w,q2⟩=>cA (F d l e t _ A q2) λQ s3 zz=>?_) c;obtain⟨y,S,C,z,a,p,T,g,q3⟩:=zz;subst T;obtain rfl:u=Value.ref a:=w;exact Qn N C g z E λR P=>(e,p,P,q3)
def Mm(h:Heap)(a:sysModules<h.objs.size):df P w H (h.push {cls:=.type kg,data:=.dict #[]}) h.objs.size (.dK []):=
 (Nat.zero_le _,beq_eq_false_iff_ne.mpr (by grind),[],.nil,Heap.DictOf.new h)
def Ww:TE:=λ_ H Q=>∀p,H p=J->Q (.ref p) (upd H p (.dK []))
def DK:PE X (.Dict [] [] b) Ww:=λa s d H Q I h=>
 wpAny_Dict_empty (.ref s.heap.objs.size,_,I.laid (λ_ _ q=>zV _ q) (zq _) (Mm s.heap I.big),rfl,h _ (I.cy.fresh (zq _)))
def OW:List (TE×TE)->St->Hp->(List (V×V)->Hp->Prop)->Prop
  | [],_,H,Q=>Q [] H
  | (e,f)::r,σ,H,Q=>e σ H λx a=>f σ a λy b=>OW r σ b λd c=>Q ((x,(y))::d) c
abbrev VV:List (V×V)->List (Value×Value)->Prop:=Paired λp q=>RelV p.1 q.1/\RelV p.2 q.2
def PPs(X:Cx)(b:Pos)(a:List (Option Expr))(d:List Expr)(c:List (TE×TE)):Prop:=
 ∀g s(e:St)H Q,Inv X g e H s->OW c e H Q ->
  dH X (evalPairs (pairTrees a d X.env b)) (λj i=>∃h f,Inv X g e f i/\VV h j/\Q h f) X.xe s
def Pl:PPs X b [] [] []:=λa s d H Q I h=>pairTrees_nil_walk ([],H,I,.nil,h)
def Cu(C:PE X k f)(F:PE X v g)(p:PPs X c b m i):
  PPs X c (U k::b) (v::m) ((f,(g))::i):=λa s d H Q I h=>
 pairTrees_cons_walk (cA (C a s d H _ I h) λu B ⟨x,j,t,D,q1⟩=>cA (F a B d j _ t q1) λG l ⟨y,q,z,r,q2⟩=>
  cA (p a l d q _ z q2) λn s3 n=>by obtain⟨o,E,A,e,q3⟩:=n;exact ((x,(y))::o,E,A,.cons (D,r) e,q3))
def D5(a more:LK):LK:=more.foldl (λacc b=>Bi acc b.1 b.2) a
def KV.merge:∀{more:LK}{a}{b:LK}{c},KV more a->KV b c->KV (D5 b more) (merged c a):=by
 intro more a b c r;induction r generalizing b c with
 |nil=>intro q;exact q
 | @cons p q j l h t d=>
  intro i
  have e:KV (Bi b p.1 p.2) (stored c q.1 q.2):=by
   have:=i.put p.1 h.2
   rwa[←h.1]
  exact d e
theorem Fh:∀more b,(D5 b more).length<=b.length+more.length
 | [],b=>by show b.length<=b.length+0;simp_all
 |p::r,b=>by
  have a:=Fh r (Bi b p.1 p.2);have d:=Cs b p.1 p.2;show(D5 (Bi b p.1 p.2) r).length<=_
  grind
theorem JI:∀{f:LK}{i},VV (f.map λe=>(kV e.1,(e.2))) i->∃d,Carries (Ac P w) i d/\KV f d
 | [],_,r=>by rw[List.map_nil]at r;cases r;exact([],True.intro,.nil)
 |p::f,_,r=>by
  cases r with
  | @cons a b l bs h t=>
   obtain⟨d,c,q⟩:=JI t;obtain⟨b1,j⟩:=b;exact((p.1,(j))::d,(Et h.1,Y,c),.cons (Y,h.2) q)
def YS(a:List (TE×TE)):TE:=λf H Q=>∀p,H p=J->OW a f (upd H p (.dK [])) λe c=>c p=U (.dK [])/\∃b,e=b.map (λd=>(kV d.1,(d.2)))/\b.length<=15/\Q (.ref p) (upd c p (.dK (D5 [] b)))
def Pm(h:PPs X g b f p)(d:b.all (·.isSome)=L)(t:b.length=f.length)(G:b≠ [])
  (l:b.length<=15):PE X (.Dict b f g) (YS p):=by
 intro i s E H Q I q;refine wpAny_Dict_walk (knd:=Ac X.prog X.w) d t G l (cA (h i _ E _ _ (I.laid (t':=s.toks) (λ_ _ q=>zV _ q) (zq _) (Mm s.heap I.big)) (q _ (I.cy.fresh (zq s.heap.objs.size)))) λS N k=>?_);obtain⟨w,R,r,o,e,a,ep,M,q2⟩:=k;subst ep;obtain⟨m,c,rk⟩:=JI o;obtain⟨z,D,n,C,A⟩:=Pk r.cy e;cases C;refine(m,c,A,λy j F=>(.ref s.heap.objs.size,_,?_,Y,q2))
 have B:(D5 [] a).length<=sizeLine:=by
  have u:=Fh a [];rw[length_nil]at u;rw[sizeLine_eq];lia
 have x:∃q,y.get? s.heap.objs.size=U q:=let ⟨q,_,_,v,_⟩:=j;(q,v)
 exact Gq r (by rw[e];exact True.intro) F x (Hj B D (rk.merge .nil) j)
structure M1(X:Cx)(o:Expr)(m:Str)(apos:Pos)(e:Expr)(fx:Pos):Prop where
 base:attributeBase o m X.env (eval o X.env)=eval o X.env
 few:((backTo fx (starEach [e] X.env)).all (λx=>!x.1)&&(backToKw fx (keywordEach [] X.env)).all (λx=>x.1.isSome)
  && decide (([e]:List Expr).length+([]:List Keyword).length+(if ([]:List Keyword).isEmpty then 0 else 1)<30))=L
 line:(apos.endLine==fx.line)=L
 trees:backTo fx (starEach [e] X.env)=[(O,(eval e X.env))]
def IsD(H:Hp)(a:jr):Prop:=(∃b,Rd H a (.dK b))\/∃b,Rd H a (.dT b)
def Lc(I:Inv X c f H s)(d:IsD H a):
  s.TypeIs (.ref a) kg /\ (∀b,Value.ref a=.ref b->∃h,s.heap.get? b=U h/\h.dict=J)/\(a==sysModules)=O:=by
 rcases d with⟨p,e⟩|⟨p,e⟩
 .obtain⟨_,j,t,_,i⟩:=Ct I.cy e;refine(i.typeIs,λb q=>?_,j);cases q;obtain⟨h,_,_,l,o,_⟩:=i;exact(h,l,o.2.1)
 .obtain⟨_,j,r,_,i⟩:=JH I.cy e;refine(i.typeIs,λb q=>?_,j);cases q;obtain⟨h,_,_,l,o,_⟩:=i;exact(h,l,o.2.1)
def Wx(B:A.units+1<cLine)(I:Inv X c f H s)(g:Lb H a y o)(t:RelV y u)(h:∀r v,Inv X c f H v->RelV (o.getD .bQ) r->Q r v):
  wpAny (model X.prog X.w) A (call (.builtin "dict.get") [.ref a,u]) Q E s:=by
 rcases g with⟨p,k,e,q,l⟩|⟨p,k,b,e,q,C,l⟩
 .subst q;obtain⟨z,j,D,d,i⟩:=Ct I.cy e;refine call_meetsIn slot_dict_get i.typeIs entry_dict_get (args_dict_get_2 _ _) (meets_dict_get (Ac X.prog X.w) a (Et t) j) (_,i.mapOf,h _ _ (I.tok _) ?_);rw[l];exact(d.val k).getD rfl
 .subst q;cases (t);obtain⟨z,j,x,d,i⟩:=JH I.cy e;refine call_meetsIn slot_dict_get i.typeIs entry_dict_get (args_dict_get_2 _ _) (meetsH_dict_get (tupleKind (Ac X.prog X.w)) a b j) (tupleKind_room_in1 B,k,x,Hi I.cy C,i,h _ _ (I.tok _) ?_);rw[l];exact(d.val k).getD rfl
def Wy(td ty:TE):TE:=λd H Q=>td d H λx b=>∃a,x=.ref a/\IsD b a/\ty d b λy c=>∃o,Lb c a y o/\Q (o.getD .bQ) c
def Wz(td ty:TE):TE:=λe H Q=>td e H λx c=>∃a,x=.ref a/\IsD c a/\ty e c λy d=>∃b k v,d a=U (.dK b)/\y=kV k/\Ai b k=U v/\Q v (upd d a (.dK (Br b k)))
def SS(F:X.A.units+1<cLine)(t:PE X o td)(r:PE X e ty)(m:M1 X o "get" b e c):PE X (.Call (.Attribute o "get" b) [e] [] c) (Wy td ty):=by
 intro i s p H Q I h;refine wpAny_Call_method m.base m.few m.line plainAttrs_dict slot_dict_get type_dict_get (cA (t i s p H _ I h) λu D w=>?_);obtain⟨x,q,l,E,a,G,d,q1⟩:=w;subst G;obtain rfl:u=Value.ref a:=E;obtain⟨C,t2,_⟩:=Lc l d;refine(C,t2,?_);rw[m.trees];exact Calls.callWith_builtin Y (Calls.evalArgs_plain (Calls.spliced_cons (cA (r i D p q _ l q1) λf n k=>by obtain⟨y,v,A,z,N,g,q2⟩:=k;exact Calls.spliced_nil (Wx F A g z λM s3 B j=>(_,v,B,j,q2)))))
def JJ(B:PE X o td)(z:PE X e ty)(m:M1 X o "pop" b e c):PE X (.Call (.Attribute o "pop" b) [e] [] c) (Wz td ty):=by
 intro i s q H Q I h;refine wpAny_Call_method m.base m.few m.line plainAttrs_dict slot_dict_pop type_dict_pop (cA (B i s q H _ I h) λu f w=>?_);obtain⟨x,r,p,g,a,M,d,q1⟩:=w;subst M;obtain rfl:u=Value.ref a:=g;obtain⟨F,t2,_⟩:=Lc p d;refine(F,t2,?_);rw[m.trees];refine Calls.callWith_builtin Y (Calls.evalArgs_plain (Calls.spliced_cons (cA (z i f q r _ p q1) λN n ⟨y,R,D,C,t,k,v,A,G,l,q2⟩=>Calls.spliced_nil ?_)));subst G;exact YM D A C l (.inl Y) λS s3 E j=>(v,_,E,j,q2)
end L2
namespace Att
open PySem PySem.W PySem.Calls PyProof.Rows
def Ik:∀d c,WellAll P h c (d.map WData.int)->IntsAre c d:=by
 intro d;induction d with
 |nil=>
  intro c w;cases w;exact .nil
 |cons n d e=>
  intro c w;cases w with
  |cons a b=>
   cases a;exact .cons _ _ (e _ b)
def Qo{h}{l:OpenLaw}(A:l.most=U n)   
    (e:l.row.toRowW.claim.pre args=L) (t:WellAll P h c args):
    ∃a b i,c=[Value.ref a]/\args=[WData.list (i.map WData.int)]/\h.get? a=U {cls:=.type jH,data:=.seq b.toArray}/\IntsAre b i/\i.length<=n:=by
  obtain⟨d,r,rfl,z,B⟩:=hasAllW_cons ((pre_splitW e).1);obtain rfl:=hasAllW_nil B;obtain⟨D,rfl,x⟩:=hasW_list z;obtain⟨i,rfl⟩:=items_int x
  have j:i.length<=n:=by
    have p:(WTm.not (.lt (.lit (.int n)) (.len (.arg 0)))).holds [] {args:=[.list (i.map .int)]}=L:=by
      have p:=(holds_andW ((pre_splitW e).2)).1
      rwa[A]at p
    have u:=condW_of p (w_not (w_lt w_lit (w_len_list (w_arg rfl))));refine Nat.le_of_not_lt λq=>?_
    first
      | (rw[zK q']at u;exact absurd u qc)
      | (simp at u;lia)
  cases t with
  |cons C y=>
    cases y;cases C with
    |list v o=>exact(_,_,i,rfl,rfl,v,Ik i _ o,j)
def Qp(l:OpenLaw)(a):l.row.toRowW.claim.post a (.bool L) a=L:=
 postW_of
  (by rfl)
  (w_eq_bool (w_res rfl) w_lit) rfl
def attach_call{l:OpenLaw}{XP}{m}{d}
  (s:l.most=U n) (E:d.params.defaults=[])
  (call:∀w h e(g z:SV)v o A c i a b x,
   Ground q loose [] XP w h g z e.heap->m w e.heap ->
   e.heap.get? v=U o->o.data=.func (docDef d.name d.params d.body d.scope A c i)->e.heap.CodeRec c d.name->g d.name=U (.ref v) ->
   e.heap.get? a=U {cls:=.type jH,data:=.seq b.toArray}->IntsAre b x->x.length<=n->e.gens=#[] ->
   codeAny (model l.prog w) callerA (.call (.ref v) ([.ref a],[])) (λr y=>r=.ok (.ret (.bool L))/\OldK e.heap y.heap/\y.os=e.os/\AllBare y.gens) e):
  WalkO q loose XP m l.row.toRowW d [] (λf b=>PySem.call f b):=by
 intro w h e g z G ab v o A c i X kV N S B F C ag al I as u H an D Q;obtain rfl:X=.none:=Dflts.none F E;obtain rfl:kV=.none:=Dflts.noKw F;obtain⟨a,b,x,rfl,rfl,t,j,p⟩:=Qo s u D;refine enter_call (codeAny_mono (call w h e g z v o A c i a b x G ab N (fd_plain S) B C t j p ag) λr y M=>?_);obtain⟨rfl,h2,T,R⟩:=M;exact(.inl (.bool L,.bool L,[],rfl,λ_=>rfl,.bool L,Qp l _,λ_=>(List.Pairwise.nil,λ_ P=>(nomatch P))),h2,T,R)
end Att
namespace L2
open PySem PySem.Spec PyProof.Rows
theorem FW:∀{b}{a},IntsAre b a->Vals (a.map V.int) b
 |_,_,.nil=>.nil
 |_,_,.cons n t h=>.cons (t,rfl) (FW h)
noncomputable def inClass(s:Stmt)(j:Nat):Stmt:=match s with
 |.ClassDef _ _ _ a _ _ _ _ _ _ _=>a.getD j (.Pass (0,0,0,0))
 |_=>.Pass (0,0,0,0)
noncomputable def defArgs(s:Stmt):Arguments:=match s with
 |.FunctionDef _ a _ _ _ _ _ _ _ _=>a
 |_=>{posonlyargs:=[],args:=[],vararg:=J,kwonlyargs:=[],kw_defaults:=[],kwarg:=J,defaults:=[]}
noncomputable def defBody(s:Stmt):List Stmt:=match s with
 |.FunctionDef _ _ b _ _ _ _ _ _ _=>b
 |_=>[]
noncomputable def defScope(s:Stmt):Scope:=match s with
 |.FunctionDef _ _ _ _ _ _ a _ _ _=>a
 |_=>{kind:=.function,names:=[],isGenerator:=O,isCoroutine:=O}
abbrev cF:CXT:=λ_ _ _ _ _ _=>False
abbrev E0:XK:=λ_ _ _=>False
def Af:BK cF X E0:=λ_ _ _ _ _ _ _ h=>h.elim
structure cC(K:FG)(x qual:Str)(st:Stmt)(f:jr)(fd:FuncData):Prop where
 ex:∃(oc:Value)(od:Option jr)(kV doc pm:Value)(an:Option jr)(bf ct:Value)(iw:Array (Option Value)),
  fd=W.fnOf x qual (defArgs st) (defBody st) (defScope st) .none kV doc pm an bf ct/\K.lookup f=U (oc,od,.func fd,iw)/\W.codeIn K bf qual=L
 kp:W.keepIn K (.ref f)=L
def cC.ok{g}{st}{e}{k}(F:cC G x g st f M)(S:AH N e (defScope st))(len:∀b H Q E,D b H Q E->b.length=e.length)
  (d:∀a A c s H b Q E,bJ k (A.deeper (envOfC g (defScope st) s.heap.objs.size f a))->D b H Q E ->
   ∃t,fk (Bf cF P w G R I N g (defScope st) f a A c s H E).gX (defBody st) t/\t {nx:=λ_ r=>Q .bQ r,rt:=Q} (start N b) H):bH P w G R I cF (k+1) f M e D:=by
 obtain⟨B,y,kV,u,v,C,a,z,o,rfl,p,i⟩:=F.ex;refine Pg p i S len λA c s H b Q E l j=>?_;obtain⟨t,h,q⟩:=d a A c s H b Q E l j;exact(t,h.gX,q)
structure BdC(P:Program)(w:World)(K:FG)(mg:SV)(base:Heap)(f:jr)(qual:Str)(st:Stmt)(N ps:jm)(k:Nat)(vs:jq)(H:Hp)(Q:VK)(E:XK):Prop where
 len:vs.length=ps.length
 ok:∀bf A outer s,bJ k (A.deeper (envOfC qual (defScope st) s.heap.objs.size f bf)) ->
  ∃t,fk (Bf cF P w K mg base N qual (defScope st) f bf A outer s H E|>.gX) (defBody st) t/\t {nx:=λ_ H'=>Q .bQ H',rt:=Q} (start N vs) H
def cC.m{d}{st}{a}{k}(F:cC e x d st f i)(S:AH N a (defScope st))(h:∀b H Q E,l b H Q E->BdC P w e j g f d st N a k b H Q E):
  bH P w e j g cF (k+1) f i a l:=F.ok S (λb H Q E q=>(h b H Q E q).len) λc A o s H b Q E r q=>(h b H Q E q).ok c A o s r
def cC.binds{st}(F:cC s x g st f c)
  (h:∀kV d i l a j e,e.length=b.length->bindArgs (W.fnOf x g (defArgs st) (defBody st) (defScope st) .none kV d i l a j) (e,[])=pure (b.zip e)):Binds s c b []:=by
 obtain⟨t,q,kV,d,i,l,a,j,o,rfl,r,p⟩:=F.ex;exact .all (by simp_all)
def fun_mk{x:PySem.Str}{K:FG}{qual:Str}{st:Stmt}{f:jr}{oc:Value}{od an:Option jr}{iw:Array (Option Value)}{kV doc pm bf ct:Value}(l:K.lookup f=U (oc,od,.func (W.fnOf x qual (defArgs st) (defBody st) (defScope st) .none kV doc pm an bf ct),iw))
  (c:W.codeIn K bf qual=L) (k:W.keepIn K (.ref f)=L):cC K x qual st f (W.fnOf x qual (defArgs st) (defBody st) (defScope st) .none kV doc pm an bf ct):=((oc,od,kV,doc,pm,an,bf,ct,iw,rfl,l,c),k)
def Bs{k}(a:bJ k A):A.units+1<cLine:=Nat.lt_of_le_of_lt (by simp) a.units
def AQ{n}(h:n<=1000):n<sizeLine:=Nat.lt_of_le_of_lt h qc
def pv(i)(h:X.N[i]?=U x:=by rfl)(d:Vis X.env.scope x:=by first|exact Or.inl rfl|exact Or.inr (Or.inl rfl)|exact Or.inr (Or.inr rfl))(e:fQ x:=by decide)
  (a:(x==(n8:Str))=O:=by decide):PE X (.Name x b) (Ij i):=R7 h d e a
abbrev _root_.Z:=@pv
def Kh:cH X (.builtin "len") (λc H Q=>∃a b,c=[V.ref a]/\H a=U (.dK b)/\Q (.int b.length) H):=by
 rintro d s l H c j Q I r ⟨a,b,rfl,i,q⟩;obtain⟨u,rfl,e⟩:=Bc r;cases e;exact YN I (.inl i) λt o h=>(.int b.length,H,h,(t,Y),q)
def AS{A B:Prop}(h:B):if O=L then A else B:=by
 rwa[zh Bool.false_ne_true]
def AZ{A B:Prop}(h:A):if L=L then A else B:=by
 rwa[zg rfl]
def BL{c A B:Prop}[Decidable c](a:c->A)(d:¬ c->B):if c then A else B:=by
 by_cases h:c
 .rw[zg h];exact a h
 .rw[zh h];exact d h
def SU{c A B:Prop}[Decidable c](a:c)(h:B):if (!decide c)=L then A else B:=by
 rw[zK a];exact AS h
def bD(H a:Hp):Prop:=∀b o,H b=U o->a b=U o
def bD.refl(H):bD H H:=λ_ _ h=>h
def bD.trans(a:bD H d)(b:bD d e):bD H e:=λc o h=>b c o (a c o h)
def bD.seq(e:bD H b)(h:bZ d H a c):bZ d b a c:=by
 rcases h with (h|⟨o,h⟩)|h
 .exact .inl (.inl (e _ _ h))
 .exact .inl (.inr (o,e _ _ h))
 .exact .inr h
section
variable {κ:Type} [DecidableEq κ]
def U0{b}{k:κ}(h:Ai b k=U v):k∈b.map (·.1):=by
 have q:(b.any λa=>decide (a.1=k))=L:=by
  rw[DJ,h]
  all_goals rfl
 obtain⟨p,d,e⟩:=any_eq_true.mp q;exact zi.mpr (p,d,zT e)
def U1:∀{l}{k:κ},l.Nodup->¬ k∈l->(l++[k]).Nodup
 | [],k,_,_=>by simp
 |a::r,k,h,hk=>by
  grind
def Qq{p}{r}{k:κ}(e:p.1=k):Br (p::r) k=Br r k:=by
 unfold Br
 simp_all
def Qr{p}{r}{k:κ}(e:¬ p.1=k):Br (p::r) k=p::Br r k:=by
 unfold Br
 simp_all
end
end L2
namespace L2
open PySem PySem.Spec PyProof.Rows
def Inv.track(I:Inv X i f H s)(y:H a=J)(A:a≠X.env.locals)(r:a∈X.ex\/X.cG.heap.objs.size<=a)
  (z:∀x c,X.env.cells.lookup x=U c->c≠a) (l:∀p∈X.pn++i,p.1≠a) (new:df X.prog X.w (upd H a o) s.heap a o):Inv X i f (upd H a o) s:=by
 have d:∀b u,H b=U u->b≠a:=λb u e=>AK e y
 refine I.step (ch:=[a])
  (λb j=>by have e:b=a:=by simpa using j
            subst e;exact(r,A,z,l))
  (λb o _ _ _ e _=>e) (λb o _ _ _ e _=>(o.slots,e)) (λb o B e n=>by rwa[AE (by simpa using B)])
  (λb o _ e=>(o,e)) (λb t e=>by rwa[AE (d b _ e)]) (λb o u e=>by rwa[AE (d b _ e)])
  (λb C e=>(#[],by rw[AE (d b _ e),e];simp)) (λm h=>h) (λb u e=>?_) I.bare
 by_cases j:b=a
 .subst j;rw[bA]at e;cases e;exact new
 .rw[AE j]at e;exact(I.cy b u e).fq (λc v _ q=>q) (λc q=>by rwa[AE (d c _ q)]) λc t q=>by rwa[AE (d c _ q)]
structure cL(iO sc:Scope)(N N':jm)(ix:List (Option Nat))(z:Option Str):Prop where
 kind:sc.kind=.function
 one:∀y∈sc.names,y.2=.cell->z=U y.1
 own:∀x,z=U x->sc.names.lookup x=U .cell
 free:∀y∈sc.names,y.2=.free->iO.names.lookup y.1=U .cell\/iO.names.lookup y.1=U .free
 loc:∀y∈sc.names,y.2=.local->sc.names.lookup y.1=U .local
 len:ix.length=N'.length
 slot:∀(j:Nat)x i,N'[j]?=U x->ix[j]?=U (U i)->N[i]?=U x/\sc.names.lookup x=U .free
 cf:∀n cl,cellsFrom n sc.names cl=(z.map (λq=>(q,(n)))).toList++cl
 pc:∀h,pushCells h sc.names=if z=J then h else h.push {cls:=.type "cell",data:=.cell J}
noncomputable def WM(a:Scope)(N:jm)(x:Str):Option Nat->Bool
 |none=>L
 |some i=>decide (N[i]?=U x)&&decide (a.names.lookup x=U .free)
def D6(a:Scope)(N:jm):jm->List (Option Nat)->Bool
 | [],[]=>L
 |x::r,o::os=>WM a N x o&&D6 a N r os
 |_,_=>O
theorem JK:∀{a}{d},D6 b N a d=L->d.length=a.length
 | [],[],_=>rfl
 | [],_::_,h=>by simp[D6]at h
 |_::_,[],h=>by simp[D6]at h
 |x::r,o::os,h=>by
  simp[D6,Bool.and_eq_true]at h;simp[length_cons,JK h.2]
theorem Ki:∀{d}{l},D6 b N d l=L->∀(j:Nat)x i,d[j]?=U x->l[j]?=U (U i)->N[i]?=U x/\b.names.lookup x=U .free
 | [],_,_,_,_,_,e,_=>by simp at e
 |_::_,[],h,_,_,_,_,_=>by simp[D6]at h
 |y::r,o::os,h,j,x,i,e1,e2=>by
  simp[D6,Bool.and_eq_true]at h;cases j with
  |zero=>
   simp at e1 e2;subst e1 e2;have a:=h.1;simp[WM,Bool.and_eq_true,decide_eq_true_eq]at a;exact a
  |succ j=>
   exact Ki h.2 j x i e1 e2
def JL(z:Option Str)(b a:Scope)(N c:jm)(d:List (Option Nat)):Bool:=
 decide (a.kind=.function)&&(a.names.all λy=>(decide (y.2≠ .cell)||decide (z=U y.1))&&(decide (y.2≠ .free)||decide (b.names.lookup y.1=U .cell)||decide (b.names.lookup y.1=U .free)) &&
  (decide (y.2≠ .local)||decide (a.names.lookup y.1=U .local)))&&(match z with|none=>L|some x=>decide (a.names.lookup x=U .cell))&&D6 a N c d
noncomputable abbrev IY:=JL J
theorem JM:∀{d},(∀y∈d,y.2=.cell->(J:Option Str)=U y.1)->(∀n i,cellsFrom n d i=i)/\∀h,pushCells h d=h
  | [],_=>(λ_ _=>rfl,λ_=>rfl)
  | (x,k)::r,h=>by
    have e:(k==NameKind.cell)=O:=by
      rw[beq_eq_false_iff_ne];exact λe=>nomatch h (x,(k)) zH e
    obtain⟨a,b⟩:=JM λy j=>h y (zQ _ j);unfold cellsFrom pushCells;simp[e];exact(a,b)
def cL.ofz(h:JL z f b N c g=L)(j:∀n o,cellsFrom n b.names o=(z.map (λq=>(q,(n)))).toList++o)(d:∀h,pushCells h b.names=if z=J then h else h.push {cls:=.type "cell",data:=.cell J}):cL f b N c g z:=by
 simp only[JL,Bool.and_eq_true,decide_eq_true_eq,all_eq_true,Bool.or_eq_true]at h;obtain⟨⟨⟨r,i⟩,p⟩,l⟩:=h;refine(r,λy a e=>?_,λx e=>?_,λy a e=>?_,λy a e=>?_,JK l,Ki l,j,d)
 .exact(i y a).1.1.elim (λq=>absurd e q) id
 .subst e;exact zT p
 .rcases (i y a).1.2 with (q|q)|q
  .exact absurd e q
  .exact .inl q
  .exact .inr q
 .exact(i y a).2.elim (λq=>absurd e q) id
def cL.of{a}(h:IY c b N a f=L):cL c b N a f J:=by
 have g:∀y∈b.names,y.2=.cell->J=U y.1:=by
  simp only[JL,Bool.and_eq_true,decide_eq_true_eq,all_eq_true,Bool.or_eq_true]at h;exact λy d e=>(h.1.1.2 y d).1.1.elim (λq=>absurd e q) id
 exact .ofz h (JM g).1 (JM g).2
noncomputable abbrev Ej(a:Env):Str×NameKind->Str×NameKind:=λ(n,k)=>if (k==NameKind.free&&a.scope.kind == .function&&a.kindOf n==U .cell)then (n,(NameKind.cell))else (n,(k))
def JN(a)(y):(Ej a y).1=y.1:=by
 obtain⟨n,k⟩:=y;simp[Ej];split<;>rfl
def Qs(a)(n):(Ej a (n,(.free))).2=.cell\/(Ej a (n,(.free))).2=.free:=by
 simp[Ej];split
 .exact .inl rfl
 .exact .inr rfl
def Pn(a)(y)(h:y.2≠ .free):Ej a y=y:=by
 obtain⟨n,k⟩:=y;have e:(k==NameKind.free)=O:=by simpa using h
 simp[Ej,e,Bool.false_and,Bool.false_eq_true,if_false]
theorem Fi:∀{a:List (Str×NameKind)}{x},a.lookup x=U .free->(a.map (Ej b)).lookup x=U .cell\/(a.map (Ej b)).lookup x=U .free
  | [],_,h=>by simp at h
  | (n,k)::r,x,h=>by
    rw[map_cons]
    have e:Ej b (n,(k))=(n,((Ej b (n,(k))).2)):=by
      have:=JN b (n,(k));exact Prod.ext this rfl
    rw[e];cases d:x==n with
    |true=>
      simp[zr,d]at h ⊢;cases h;rcases Qs b n with z|z
      · rw[z];exact .inl rfl
      · rw[z];exact .inr rfl
    |false=>
      simp[zr,d]at h ⊢;exact Fi h
theorem IZ:∀{a:List (Str×NameKind)}{x},(∀y∈a,y.2=.cell->z=U y.1)->((a.map (Ej b)).lookup x=U .cell\/(a.map (Ej b)).lookup x=U .free)->(x,(NameKind.free))∈a\/z=U x
  | [],_,_,h=>by simp at h
  | (n,k)::r,x,hc,h=>by
    rw[map_cons]at h;have e:Ej b (n,(k))=(n,((Ej b (n,(k))).2)):=Prod.ext (JN b (n,(k))) rfl;rw[e]at h;cases j:x==n with
    |true=>
      have d:x=n:=by simpa using j
      subst d;by_cases i:k=.free
      · subst i;exact .inl zH
      · rw[Pn b (x,(k)) i]at h
        rcases h with q|q
        · exact .inr (hc (x,(k)) zH (by simpa using q))
        · exact absurd (by simpa using q) i
    |false=>
      simp[zr,j]at h;exact(IZ (λy l=>hc y (zQ _ l)) h).imp_left (zQ _)
theorem Fj:∀{a:List (Str×NameKind)}{x},a.lookup x=U .cell->(a.map (Ej b)).lookup x=U .cell
  | [],_,h=>by simp at h
  | (n,k)::r,x,h=>by
    rw[map_cons];have e:Ej b (n,(k))=(n,((Ej b (n,(k))).2)):=Prod.ext (JN b (n,(k))) rfl;rw[e];cases d:x==n with
    |true=>
      simp[zr,d,Option.some.injEq]at h ⊢;subst h;rw[Pn b (n,(.cell)) (λq=>by cases q)]
    |false=>
      simp[zr,d]at h ⊢;exact Fj h
theorem Ld{b:Env}{f}
  (g:∀y acc,y.2≠ .free->f y acc=pure (.yield acc)) (h:∀y acc c,y.2=.free->b.cells.lookup y.1=U c->f y acc=pure (.yield ((y.1,(c))::acc))):
  ∀(i:List (Str×NameKind))acc,(∀y∈i,y.2=.free->∃c,b.cells.lookup y.1=U c)->(∀x c,acc.lookup x=U c->b.cells.lookup x=U c) ->
   ∃a,forIn i acc f=(pure a:Sem _)/\(∀x c,a.lookup x=U c->b.cells.lookup x=U c)/\(∀y∈i,y.2=.free->∃c,a.lookup y.1=U c)/\∀x c,acc.lookup x=U c->∃j,a.lookup x=U j
 | [],acc,_,p=>(acc,rfl,p,λ_ n=>(nomatch n),λx c e=>(c,e))
 |y::r,acc,hn,p=>by
  have u:=λz l=>hn z (zQ _ l);by_cases n:y.2=.free
  .obtain⟨c,v⟩:=hn y zH n
   obtain⟨a,e,s,t,o⟩:=Ld g h r ((y.1,(c))::acc) u λx d e=>by
    cases m:x==y.1 with
    |true=>
     simp[zr,m]at e;have:x=y.1:=by simpa using m
     rwa[this,←e]
    |false=>
     simp[zr,m]at e;exact p x d e
   refine(a,by rw[List.forIn_cons,h y acc c n v];exact e,s,λz l q=>?_,λx d e=>?_)
   .rcases mem_cons.mp l with rfl|l
    .exact o z.1 c (by simp)
    .exact t z l q
   .cases m:x==y.1 with
    |true=>exact o x c (by simp[zr,m])
    |false=>exact o x d (by simp[zr,m];exact e)
  .obtain⟨a,e,s,t,o⟩:=Ld g h r acc u p;refine(a,by rw[List.forIn_cons,g y acc n];exact e,s,λz l q=>?_,o);rcases mem_cons.mp l with rfl|l
   .exact absurd q n
   .exact t z l q
def Po(g:∀y∈scope.names,y.2=.free->∃c,d.cells.lookup y.1=U c):
  ∃b,closureFor scope d=pure b/\(∀x c,b.lookup x=U c->d.cells.lookup x=U c)/\∀y∈scope.names,y.2=.free->∃c,b.lookup y.1=U c:=by
 obtain⟨b,e,n,o,_⟩:=Ld (f:=λx r=>if (x.2==NameKind.free)=L then (cellOf d x.1 >>= λa=>pure (ForInStep.yield ((x.1,(a))::r)))else pure (ForInStep.yield r)) (λy acc h=>by
  have:(y.2==NameKind.free)=O:=by simpa using h
  rw[this,zh Bool.false_ne_true]) (λy acc c h m=>by
  have l:(y.2==NameKind.free)=L:=by rw[h];rfl
  rw[zg l];simp only[cellOf,m]
  rfl) scope.names [] g λx c e=>by simp at e
 refine(b,?_,n,o);have j:closureFor scope d=(forIn scope.names [] (λx r=>if (x.2==NameKind.free)=L then (cellOf d x.1 >>= λa=>pure (ForInStep.yield ((x.1,(a))::r)))else pure (ForInStep.yield r)) >>= λi=>pure i):=rfl;rw[j,e];rfl
abbrev XE:=List (Str×jr)->js->Hp->jr->List jr->LO->Value->js->Prop
def f6(z:Option Str)(xe:XE)(X:Cx)(c:jm)(d:Scope)(a:List (Str×jr))(s:js)(H:Hp)(C:jr)(b:List jr)(pn:LO):Cx where
 prog:=X.prog
 w:=X.w
 K:=X.K
 mg:=X.mg
 base:=X.base
 A:=X.A
 N:=c
 cG:=s
 eR:=H
 env:=compEnvC d a C X.env
 outer:=X.stack
 stack:=X.stack
 ex:=b
 fn:=λx=>decide (z=U x)
 calm:=X.calm
 pn:=pn
 xe:=xe a s H C b pn
abbrev xN:XE:=λ_ _ _ _ _ _ _ _=>False
noncomputable abbrev CG:=f6 J xN
abbrev gW(z:Option Str)(a:jr)(b:List (Str×jr)):List (Str×jr):=(z.map (λq=>(q,(a)))).toList++b
def Ia{X:L2.Cx}{z}{b}{a}(h:∀x c,a.lookup x=U c->X.env.cells.lookup x=U c){c}(e:(gW z b a).lookup x=U c):X.env.cells.lookup x=U c\/(z=U x/\c=b):=by
 cases z with
 |none=>exact .inl (h x c e)
 |some z=>
  have e:((z,(b))::a).lookup x=U c:=e;cases d:x==z with
  |true=>
   simp[zr,d,Option.some.injEq]at e;exact .inr (by simpa using Eq.symm (by simpa using d),e.symm)
  |false=>
   simp[zr,d]at e;exact .inl (h x c e)
def SW(e:a.lookup x=U c)(n:z≠U x):(gW z b a).lookup x=U c:=by
 cases z with
 |none=>exact e
 |some z=>
  show((z,(b))::a).lookup x=U c
  have:(x==z)=O:=by
   rw[beq_eq_false_iff_ne];exact λq=>n (by rw[q])
  simp[zr,this];exact e
def SX:(gW (U x) a b).lookup x=U a:=by
 show((x,(a))::b).lookup x=U a;simp
def SY        
  (l:∀n d,cellsFrom n scope.names d=gW z n d) (i:∀h,pushCells h scope.names=if z=none then h else h.push {cls:=.type "cell",data:=.cell none})
  (p:∀h',h'.Ns s.heap.objs.size (λ_=>none)->(z≠none->h'.IsCell (s.heap.objs.size+1) none)->(∀b o,s.heap.get? b=some o->h'.get? b=some o) ->
   Q ({scope,locals:=s.heap.objs.size,globals,cells:=gW z (s.heap.objs.size+1) d,qual,func:=none,code:=outer.code,frame:=outer.frame,builtins:=outer.builtins}) ({s with heap:=h'})):
  wpAny M A (newFunctionEnv scope globals d [] qual none .none (some outer)) Q E s:=by
 simp only[newFunctionEnv,Option.isSome_some,if_true];refine zp (wpAny_alloc (zp (wpAny_layCells _ (λr a cells=>by cases t:a==NameKind.cell<;>simp) _ _ _ _ ?_)));rw[l,i,show({s with heap:=s.heap.push {cls:=.type kg,data:=.dict #[]}}:js).heap.objs.size=s.heap.objs.size+1 from Heap.size_push ..];apply zp;refine zo (zo ?_);by_cases j:z=none
 .rw[zg j];exact p _ (Heap.Ns.new s.heap (.type kg)) (λq=>absurd j q) λb o e=>zV _ e
 .rw[zh j];refine p _ ((Heap.Ns.new s.heap (.type kg)).keeps λb o e=>zV _ e) (λ_=>?_) λb o e=>zV _ (zV _ e);have e:=zM (s.heap.push {cls:=.type kg,data:=.dict #[]}) (o:={cls:=.type "cell",data:=.cell none}) rfl;rw[Heap.size_push]at e;exact(_,e,zd)
noncomputable def Il(a:List (Option Nat))(b:St):St:=a.map λo=>o.bind λi=>(b[i]?).join
def U2{b}{a}{j:Nat}{v}(h:(Il a b)[j]?=U (U v)):∃i,a[j]?=U (U i)/\b[i]?=U (U v):=by
 unfold Il at h;rw[zy]at h;cases e:a[j]? with
 |none=>rw[e]at h;cases h
 |some o=>
  rw[e]at h;simp at h;cases o with
  |none=>cases h
  |some i=>
   refine(i,rfl,?_);simp at h;cases q:b[i]? with
   |none=>rw[q]at h;cases h
   |some u=>rw[q]at h;simp at h;rw[h]
def U3(I:Inv X m N H s)(A:cL X.env.scope n X.N w G z)(l:∀x c,g.lookup x=U c->X.env.cells.lookup x=U c)(B:∀y∈n.names,y.2=.free->∃c,g.lookup y.1=U c)
  (r:s.heap.objs.size<=C) (j:s.heap.objs.size<=f) (a:∀b∈u,Fd X m H b) (i:∀b∈u,b<s.heap.objs.size):(f6 z M X w n (gW z f g) s H C u (X.pn++m)).Ok where
 mod:=I.mod
 kind:=A.kind
 glob:=I.ok.glob
 blt:=I.ok.blt
 above:=r
 inj:=λx y c F E=>by
  have lt:=λx e=>let ⟨v,q⟩:=I.cell x c e;q.lt
  rcases Ia l F with q1|q1<;>rcases Ia l E with q2|q2
  .exact I.ok.inj x y c q1 q2
  .have:=lt x q1;rw[q2.2]at this;exact absurd this (Nat.not_lt.mpr j)
  .have:=lt y q2;rw[q1.2]at this;exact absurd this (Nat.not_lt.mpr j)
  .exact Option.some.inj (q1.1.symm.trans q2.1)
 has:=λx h=>by
  by_cases p:z=U x
  .subst p;exact(f,SX)
  .obtain⟨c,e⟩:=B (x,(.free)) ((IZ A.one h).resolve_right p) rfl;exact(c,SW e p)
 ik:=λx c h e=>by
  have D:=zT h;subst D;have t:(gW (U x) f g).lookup x=U c:=e;rw[SX]at t;cases t;exact j
 hd:=I.ok.hd
 frames:=I.ok.frames
 fV:=.inl rfl
 exf:=λb d=>(zw (zZ (i b d) r),λx c e=>(Ia l e).elim (λq=>(a b d).2.2.2.2.1 x c q) λq=>q.2 ▸ Nat.ne_of_gt (zZ (i b d) j))
 bs:=I.bs
 gA:=Nat.le_trans I.ok.gA I.sz
 gc:=λb o e d=>by
  rcases (a b d).2.2.2.1 with z|z
  .exact I.ok.gc b o e z
  .exact absurd (zZ (zZ (lt_size e) I.ok.gA) z) (zE _)
 gd:=λb d z=>by
  rcases mem_cons.mp (I.eV b z)with e|e
  .exact(a b d).2.1 e
  .exact(a b d).2.2.1 e
 d7:=I.stack
 gP:=I.stkFree
theorem D7:∀{l:List (Str×NameKind)},l.lookup x=U k->(x,(k))∈l
  | [],e=>nomatch e
  | (n,d)::r,e=>by
    cases a:x==n with
    |true=>
      simp[zr,a,Option.some.injEq]at e;have:x=n:=by simpa using a
      subst this e;exact zH
    |false=>
      simp[zr,a]at e;exact zQ _ (D7 e)
def OX(I:Inv X f az H s)(B:cL X.env.scope n X.N w ix z)(D:∀x c,m.lookup x=U c->X.env.cells.lookup x=U c)(N:∀y∈n.names,y.2=.free->∃c,m.lookup y.1=U c)
  (E:s.heap.objs.size<=C) (g:s.heap.objs.size<=j) (u:∀b∈T,Fd X f H b) (F:∀b∈T,b<s.heap.objs.size)    (t:∀b o,s.heap.get? b=U o->l.get? b=U o) (r:l.Ns C al)
  (M:z≠J->l.IsCell j J):Inv (f6 z xe X w n (gW z j m) s H C T (X.pn++f)) [] (Il ix az) H {s with heap:=l,toks:=tk} where
 ok:=U3 I B D N E g u F
 os:=rfl
 bare:=I.bare
 base:=Un.kept t
 loc:=(al,r,λag x v e1 e2 e3=>by
  obtain⟨i,ei,ev⟩:=U2 e2;obtain⟨hN,h⟩:=B.slot ag x i e1 ei;obtain⟨mX,_,P⟩:=I.loc;have Q:=D7 h;have S:=B.free _ Q rfl;obtain⟨as,ar,q⟩:=P i x v hN ev (.inr S);refine(as,ar,.inr (Fi h,?_));obtain⟨c,R⟩:=N _ Q rfl;refine(c,SW R λe=>?_,?_)
  .rw[B.own x e]at h;cases h
  rcases q with⟨k,_⟩|⟨_,c',A,z⟩
  .have k':X.env.scope.names.lookup x=U .local:=k;rcases S with a|a<;>(rw[k']at a;cases a)
  .rw[D x c R]at A;cases A
   exact z.keeps t)
 cell:=λx c e=>by
  rcases Ia D e with q|q
  .obtain⟨v,z⟩:=I.cell x c q;exact(v,z.keeps t)
  .rw[q.2];exact(_,M (by rw[q.1];exact λz=>nomatch z))
 free:=I.cy.fresh E
 dG:=λx c e=>(Ia D e).elim (λq=>I.dG x c q) λq=>q.2 ▸ I.cy.fresh g
 pin:=λp hp=>by
  have G:p∈X.pn++f:=by
   have z:=hp
   rwa[zl]at z
  obtain⟨e,an,ab,nf,d⟩:=I.pin p G;refine(t _ _ e,an,zw (zZ (lt_size e) E),λz=>?_,d);rcases mem_cons.mp (I.eV p.1 z)with q|q
  .exact ab q
  .exact nf q
 cy:=I.cy.kept t
 len:=by
  unfold Il;rw[AO];exact B.len
def Kj(I:Inv X f l H s)(a:∀b∈i,Fd X f H b)(c:Inv (f6 z p X m o n s H C i (X.pn++f)) e h g j):Inv X f l g j:=
 I.call' c.os c.base c.cy c.bare λb d=>((a b d).2.2.2.1,(a b d).2.1,(a b d).2.2.2.2.1,(a b d).2.2.2.2.2)
def hO(X:Cx)(a:List Expr)(t:TT):Prop:=
 ∀d s(b:St)H Q,Inv X d b H s->t b H Q ->
  dH X (forIn a L λc r=>if r=L then do let ok ←isTrue c X.env (eval c X.env);pure (ForInStep.yield ok)else pure (ForInStep.yield r)) (TP X d b Q) X.xe s
def Z4:TT:=λ_ H Q=>Q L H
def BR:hO X [] Z4:=λa s d H Q I h=>wpAny_tests_nil (H,I,h)
def Gr(h:PT X c t):hO X [c] t:=λa s d H Q I q=>wpAny_tests_one (h a s d H Q I q)
def tW{a:Type}(b:It)(d:a)(ok:a->Prop)(B:V->a->(a->Hp->Prop)->Hp->Prop)(R:a->Hp->Prop)(c:Hp):Prop:=∃W:Nat->Nat->a->Hp->Prop,(∃m,W 0 m d c)/\∀i m f H,W i m f H ->
 (b.stop i H/\ok f/\R f H)\/(b.go i H/\∃N,(∀g e,N g e->ok g/\∃h,h<m/\W (i+1) h g e)/\∀x e,b.ir i H x e->B x f N e)
abbrev TAd(a:Type):=a->St->Hp->(a->Hp->Prop)->Prop
abbrev bT{a:Type}(g:TG)(tt:TT)(d:TAd a)(c:List (Option Nat))(e:St):V->a->(a->Hp->Prop)->Hp->Prop:=λx i N j=>g x (Il c e) j λh l=>tt h l λb f=>if b=L then d i h f N else N i f
abbrev Hk{a:Type}(b:a)(ok:a->Prop)(e:TI)(g:TG)(tt:TT)(d:TAd a)(c:List (Option Nat))(R:a->Hp->Prop):St->Hp->Prop:=λf H=>e f H λi h=>tW i b ok (bT g tt d c f) R h
abbrev ie{b:Type}(a:List b):Prop:=a.length<=sizeLine
abbrev ia(a:TE):TAd (jq):=λc d H N=>a d H λy b=>N (c++[y]) b
abbrev Hl(b:TI)(g:TG)(tt:TT)(a:TE):=Hk [] ie b g tt (ia a)
def Dl{y}{p}{ok}{B}{R}(d:Nat->y->Hp->Prop)(t:d 0 p s)(g:∀i c H,d i c H->ok c)
  (w:∀i c H,i<n->d i c H->f.go i H/\∀x l,f.ir i H x l->B x c (d (i+1)) l) (o:∀c H,d n c H->f.stop n H/\R c H):tW f p ok B R s:=by
 refine(λi m c H=>m=n-i/\i<=n/\d i c H,(_,rfl,Nat.zero_le _,t),?_);rintro i m c H ⟨rfl,v,j⟩;rcases Nat.lt_or_ge i n with h|r
 .obtain⟨a,b⟩:=w i c H h j;exact .inr (a,d (i+1),λu l q=>(g _ _ _ q,n-(i+1),by lia,Y,h,q),b)
 .have e:i=n:=by lia
  subst e;exact .inl ((o _ _ j).1,g _ _ _ j,(o _ _ j).2)
def PGk(X:Cx)(b:Expr)(a:List (Option Nat))(g:TG):Prop:=
 ∀f s d H v u Q,Inv X f (Il a d) H s->RelV v u->g v (Il a d) H Q ->
  dH X (assign b X.env u) (λ_ h=>∃c e,Inv X f c e h/\(∀(j:Nat)v,(Il a d)[j]?=U (U v)->c[j]?=U (U v))/\Q c e) X.xe s
def Dm(h:PG X (.Name x b) (Bz 0)):PGk X (.Name x b) (J::l) (Bz 0):=by
 intro d s o H v u Q I r q;refine cA (h d s _ H v u (λa i=>(∀j v,(Il (J::l) o)[j]?=U (U v)->a[j]?=U (U v))/\Q a i) I r (λj w e=>?_,q)) λ_ t ⟨a,i,p,k,q⟩=>(a,i,p,k,q);cases j with
 |zero=>cases e
 |succ j=>exact e
def Mn(h:PG X b (Ul c 2 (JA (Bz 0) (JA (Bz 1) Uk)))):PGk X b (J::J::l) (Ul c 2 (JA (Bz 0) (JA (Bz 1) Uk))):=by
 intro i s B H v u Q I r q;obtain⟨a,D,f,F,x,C,y,G,A,E,p,t,q⟩:=q;refine cA (h i s _ H v u (λd o=>(∀j v,(Il (J::J::l) B)[j]?=U (U v)->d[j]?=U (U v))/\Q d o) I r (a,D,f,F,x,C,y,G,A,E,p,t,λj w e=>?_,q)) λ_ g ⟨d,o,z,k,q⟩=>(d,o,z,k,q)
 match j with
 |0=>cases e
 |1=>cases e
 |j+2=>exact e
structure WN(RD:Cx->Prop)(P:Program)(w:World)(K:FG)(tg:Expr)(J:It)(fp:List jr)(it:jr)(tn:Nat->Heap->Prop):Prop where
 obj:∀i h,tn i h->∀b∈fp,∃o,h.get? b=U o/\∀v,o.data≠ .cell v
 keep:∀i h h',tn i h->(∀b∈fp,∀o,h.get? b=U o->h'.get? b=U o)->tn i h'
 item:∀X,X.prog=P->X.w=w->X.K=K->RD X->∀i ba s(σ:St)H(E:VS),Inv X ba σ H s->(∀b∈fp,Fd X ba H b)->tn i s.heap->J.go i H ->
  wpAny (model P w) X.A (pyNext (.ref it)) (λr a=>∃u,r=U u/\wpAny (model P w) X.A (letOwnedTupleGo tg (.ref it) u) (λ_ s2=>∃x H',Inv X ba σ H' s2/\RelV x u/\J.ir i H x H'/\tn (i+1) s2.heap/\∀b∈fp,H' b=f8) E a) E s
 done:∀X,X.prog=P->X.w=w->X.K=K->RD X->∀i ba s(σ:St)H(E:VS),Inv X ba σ H s->(∀b∈fp,Fd X ba H b)->tn i s.heap->J.stop i H ->
  wpAny (model P w) X.A (pyNext (.ref it)) (λr a=>r=f8/\Inv X ba σ H a) E s
 self:∀A i s(Q:VS)(E:VS),tn i s.heap->Q (.ref it) s->wpAny (model P w) A (pyIter (.ref it)) Q E s
def PIg(a:Cx->Prop)(X:Cx)(c iter:Expr)(d:TI):Prop:=∀f s(g:St)H R,Inv X f g H s->d g H R ->
 dH X (eval iter X.env) (λv o=>dH X (pyIter v) (λn l=>∃(j:jr)(i:List jr)(m:Nat->Heap->Prop)(h:It)(e:Hp),n=.ref j/\Inv X f g e l/\WN a X.prog X.w X.K c h i j m/\m 0 l.heap/\(∀b∈i,Fd X f e b)/\R h e) X.xe o) X.xe s
def PI.g{a}(h:PI X b a i):PIg (λX=>X.calm=L) X b a i:=λd s t H R I q=>
 cA (h d s t H R I q) λv A z=>cA z λo y v=>by obtain⟨j,u,l,c,x,e,p,T,r⟩:=v;exact (j,u,l,c,x,e,p,(T.obj,T.keep,T.item,T.done,T.self),r)
def YT(d iter:Expr)(f:List Expr)(b:Value)(a:Env)(e:Sem Unit)(c:Code):Sem PySem.Fin:=do
 standAt iter.pos
 match ←pyNext b with
 |none=>pure (.done .next)
 |some v=>
  letOwnedTupleGo d b v
  assign d a v
  let mut ok:=L
  for c in f do
   if ok then ok ←isTrue c a (eval c a)
  if ok then
   e
  again c
structure Qt{b:Type}(P:Program)(w:World)(d:Expr)(mk:Sem Value)(tg iter:Expr)(ifs:List Expr)(add:jr->Env->Sem Unit)(e0:b)(ok:b->Prop)(ho:jr->b->HO)(RA:Heap->jr->b->Prop):Prop where
 cl:clausesOf d=[(tg,iter,ifs,0)]
 new:∃c,c.isFreed=O/\(∀v,c.data≠ .cell v)/\(∀h D,h.get? D=U c->RA h D e0)/\∀A(Q:VS)(E:VS)s,Q (.ref s.heap.objs.size) {s with heap:=s.heap.push c}->wpAny (model P w) A mk Q E s
 turn:∀(A:Around)it D env,A.under (.compLoop d 0 it (.ref D) env)=A/\(model P w).den (.compLoop d 0 it (.ref D) env)=(YT tg iter ifs it env (add D env) (.compLoop d 0 it (.ref D) env)).onRaise λx=>do noteFrame x env;theTreesLotGoes x
 start:∀A R s it D env,codeAny (model P w) A (.compLoop d 0 it (.ref D) env) R s->wpAny (model P w) A (pyIter it) (λe s'=>codeAny (model P w) A (.compLoop d 0 e (.ref D) env) R s') (notedBy (model P w) A env λx s'=>R (.error x) s') s->codeAny (model P w) A (.compStart d 0 it (.ref D) env) R s
 at_:∀h h' D a,RA h D a->(∀o,h.get? D=U o->h'.get? D=U o)->RA h' D a
 fin:∀H h D a,ok a->(D==sysModules)=O->RA h D a->df P w H h D (ho D a)
structure AtD(X:Cx)(D:jr)(ba:LO):Prop where
 up:X.cG.heap.objs.size<=D
 ce:∀x c,X.env.cells.lookup x=U c->c≠D
 pi:∀p∈X.pn++ba,p.1≠D
def PAd{a:Type}(X:Cx)(c:jr->Env->Sem Unit)(ok:a->Prop)(b:Heap->jr->a->Prop)(d:TAd a):Prop:=∀(D:jr)(l:Obj)j g s(h:St)H N,Inv X ([(D,(l))]++g) h H s->AtD X D g->b s.heap D j->(∀e f,N e f->ok e)->d j h H N ->
 dH X (c D X.env) (λ_ i=>∃m e f,Inv X ([(D,(m))]++g) h f i/\b i.heap D e/\N e f) X.xe s
def Inv.f9(I:Inv X ([(D,(a))]++b) c H s):s.heap.get? D=U a/\H D=J/\D≠X.env.locals/\D∉ X.fs/\∀v,a.data≠ .cell v:=I.pin (D,(a)) (zR _ (zO _ zH))
def Inv.reD(I:Inv X ([(D,(A))]++c) g H s)(a:AtD X D c)(x:∀b,b≠D->f.get? b=s.heap.get? b)(q:f.get? D=U d)(u:∀v,d.data≠ .cell v):Inv X ([(D,(d))]++c) g H {s with heap:=f,toks:=t}:=by
 obtain⟨_,l,r,z,_⟩:=I.f9;have y:=I.pins_of λp h=>I.pin p (zR _ (zR _ h));have It:=y.turned (t':=t) (λb o i e=>(x b i).trans e) l r (.inr a.up) a.ce a.pi;refine It.pins_of λp h=>?_;rcases mem_append.mp h with j|j
 .have e:p=(D,(d)):=by simpa using j
  subst e;exact(q,l,r,z,u)
 .exact It.pin p (zR _ j)
section
variable {α:Type}
def XCv(X:Cx)(a:Scope)(c:XE):Prop:=∀f s H C D g e(j:St)i(h:VS)x d,Inv X e j H s->(∀b∈g,Fd X e H b)->c f s H C g (X.pn++e) x d->notedBy (model X.prog X.w) X.A (compEnvC a f C X.env) (λx d=>compPost (model X.prog X.w) X.A X.xe i h (.ref D) C (.error x) d) x d
def DL:XCv X a xN:=λ_ _ _ _ _ _ _ _ _ _ _ _ _ _ h=>h.elim
abbrev Far(X:Cx)(z:Option Str)(a:List (Str×jr)):Prop:=(∀x,X.fn x=L)->∀x c,a.lookup x=U c->z=U x\/c∉ dj X.stack
def Kk{iter}{e0:α}{ok}{v}{u}{ta}(G:Qt X.prog X.w as mk tg iter bE bp e0 ok v u)(hx:XCv X j m)(r:cL X.env.scope j X.N t ix z)(hc:∀f s H C d l,RD (f6 z m X t j f s H C d (X.pn++l)))(hi:PIg RD X tg iter wi)
  (hg:∀f s H C d w,PGk (f6 z m X t j f s H C d w) tg ix bs) (ht:∀f s H C d w,hO (f6 z m X t j f s H C d w) bE tt) (he:∀f s H C d w,Far X z f->PAd (f6 z m X t j f s H C d w) bp ok u ta)
  (hs:∀x,foldedSetIterable iter X.env x=pure x)     {a8} (a7:Inv X l A H s) (bt:Hk e0 ok wi bs tt ta ix a8 A H)
  (bz:∀h g a D C an,Inv X l A (upd a D (v D g)) h->a8 g a->a D=f8->h.heap.Ns C an->X.cG.heap.objs.size<=C->C≠X.env.locals->(∀x c,X.env.cells.lookup x=eq c->c≠C)->(∀p∈X.pn++l,p.1≠C) ->
   upd a D (v D g) C=f8->compPost (model X.prog X.w) X.A X.xe bm Qv (.ref D) C (.ok .next) h):
  dH X (comprehension as j X.env bX mk gt (eval iter X.env) bm) Qv X.xe s:=by
 obtain⟨f,bw,c1,c2⟩:=Po λy hy bB=>by
  have:=r.free y hy bB;exact a7.ok.has y.1 this
 obtain⟨aR,bq,bF,bI,cq⟩:=G.new;refine wpAny_comprehension_free G.cl hs bw r.kind r.loc (cA (hi l s A H _ a7 bt) λbO s1 h1=>cA h1 λbU M h2=>?_);obtain⟨it,d,tn,bQ,H2,e,E,T,a3,f2,W,⟨m0,w0⟩,bM⟩:=h2;subst e
 have al:∀b∈d,b<M.heap.objs.size:=λb B=>by
  obtain⟨o,e,_⟩:=T.obj _ _ a3 b B;exact lt_size e
 refine cq _ _ _ _ (SY r.cf r.pc λbC bg bf a1=>?_);generalize aC:M.heap.push aR=S at bg bf a1 ⊢;have hC:S.objs.size=M.heap.objs.size+1:=by rw[←aC,Heap.size_push]
 have bd:M.heap.objs.size≠S.objs.size:=by rw[hC];exact zw (Nat.lt_succ_self _)
 have ab:M.heap.objs.size<=S.objs.size:=by rw[hC];exact Nat.le_succ _
 have az:M.heap.objs.size<S.objs.size+1:=by rw[hC];lia
 have a0:=λb o e=>a1 b o (aC ▸ zV _ e);have be:=a1 _ _ (aC ▸ zM _ bq);generalize bS:S.objs.size+1=ag at *;generalize bR:S.objs.size=C at *;generalize I:M.heap.objs.size=D at *;have IX:=OX (xe:=m) E r c1 c2 (by rwa[I]) (by rw[I];exact Nat.le_of_lt az) f2 (by rwa[I]) (tk:=M.toks) a0 bg bf;have bv:=E.cy.fresh (by rw[I];exact zq _)
 have bu:D∉ dj X.stack:=λz=>by
  rcases mem_cons.mp (E.eV D z)with q|q
  .have:=E.lt;rw[←q,I]at this;exact zE _ this
  .exact E.nofs (by rw[I];exact zq _) q
 have ar:∀x c,X.env.cells.lookup x=eq c->c<D:=λx c e=>by
  obtain⟨bO,z⟩:=E.cell x c e;rw[←I];exact z.lt
 have iD:∀x c,(gW z ag f).lookup x=eq c->c≠D:=λx c e=>(Ia c1 e).elim (λq=>zw (ar x c q)) (λq=>q.2 ▸ Nat.ne_of_gt az);have a2:∀p∈X.pn++l,p.1<D:=λp N=>by rw[←I];exact lt_size (E.pin p N).1
 have bk:X.cG.heap.objs.size<=D:=by rw[←I];exact E.sz
 have bh:X.env.locals<D:=by rw[←I];exact E.lt
 have bL:(D==sysModules)=gt:=by
  rw[beq_eq_false_iff_ne,←I];exact Nat.ne_of_gt E.big
 have fv:Far X z (gW z ag f):=λbx x c e=>(Ia c1 e).elim (λq=>.inr λy=>by
  rcases mem_cons.mp (E.eV c y)with y|y
  .exact E.iD x c q y
  .obtain⟨_,o,v,_⟩:=E.ok.d7.mem y
   exact absurd (zZ (lt_size v) (E.ok.ik x c (bx x) q)) (zE _)) λq=>.inl q.1
 let Q:Cx:=f6 z m X t j (gW z ag f) M H2 C d (X.pn++l)
 have a5:∀{a:Hp}{P:Obj},(∀b∈d,a b=f8)->∀b∈d,Fd Q [(D,(P))] a b:=λ{a P}hn b B=>by
  refine(hn b B,zw (zZ (al b B) ab),λz=>?_,.inl B,λx c e=>(Ia c1 e).elim (λq=>(f2 b B).2.2.2.2.1 x c q) (λq=>q.2 ▸ Nat.ne_of_gt (Nat.lt_trans (al b B) az)),λp N=>?_)
  .exact IX.ok.gd b B z
  .rcases mem_append.mp N with z|z
   .exact(f2 b B).2.2.2.2.2 p z
   .have e:p=(D,(P)):=by simpa using z
    subst e;exact Nat.ne_of_gt (al b B)
 have bi:∀s3:js,s3={M with heap:=bC,toks:=M.toks} ->
   codeAny (model X.prog X.w) X.A (.compLoop as 0 (.ref it) (.ref D) (compEnvC j (gW z ag f) C X.env)) (compPost (model X.prog X.w) X.A X.xe bm Qv (.ref D) C) s3:=by
  rintro s3 rfl
  refine codeAny_loop Y (λn h=>∃i g P a,Inv Q [(D,(P))] (Il ix A) a h/\tn i h.heap/\(∀b∈d,a b=f8)/\W i n g a/\u h.heap D g)
   (λn s4 hI=>?_) m0 (0,e0,aR,H2,IX.pins_of (λp N=>by
    have q:p=(D,(aR)):=by simpa using N
    subst q
    exact(be,bv,bd,bu,bF)),T.keep _ _ _ a3 (λb _ o e=>a0 b o e),λb B=>(f2 b B).1,w0,bI _ _ be)
  obtain⟨i,g,P,H4,I4,bl,bc,w4,a9⟩:=hI;rw[(G.turn _ _ _ _).1,(G.turn X.A _ _ _).2];apply wpAny_noted;refine zn (E:=Q.xe) ?_ (λ_ _ q=>q) (λx h q=>hx _ _ _ _ _ _ _ _ _ _ _ _ E f2 q);have bj:=I4.pin (D,(_)) (zR _ zH);rcases bM i n g H4 w4 with⟨stop,hz,bG⟩|⟨go,bo,hN,step⟩
  .refine zp (zI (zp (cA (T.done Q Y Y Y (hc _ _ _ _ _ _) i _ s4 _ H4 _ I4 (a5 bc) bl stop) λr' s5 ⟨hr,I5⟩=>?_)));subst hr;have pD:=I5.pin (D,(_)) (zR _ zH);have Ib:=Kj E f2 I5;have Ic:=Ib.track pD.2.1 (Nat.ne_of_gt bh) (.inr bk) (λx c e=>zw (ar x c e)) (λp N=>zw (a2 p N)) (G.fin _ _ _ _ hz bL (G.at_ _ _ _ _ a9 λo e=>by rw[bj.1]at e;cases e;exact pD.1));obtain⟨m5,n5,_⟩:=I5.loc
   refine zo (bz s5 g H4 D C m5 Ic bG pD.2.1 n5 (Nat.le_trans bk ab) (Nat.ne_of_gt (zZ bh ab)) (λx c e=>zw (zZ (ar x c e) ab))
    (λp N=>zw (zZ (a2 p N) ab)) ?_)
   rw[AE (Ne.symm bd)];exact I5.free
  .refine zp (zI (zp (cA (T.item Q Y Y Y (hc _ _ _ _ _ _) i _ s4 _ H4 _ I4 (a5 bc) bl go) λr' s5 ⟨bN,hr,h5⟩=>?_)));subst hr;refine zp (cA h5 λ_ s6 zv=>?_);obtain⟨x,H6,I6,r6,y6,a4,br⟩:=zv;have bn:=I6.pinned (a5 br) (T.obj _ _ a4);refine zp (cA (hg _ _ _ _ _ _ _ s6 _ H6 x bN _ bn r6 (step x H6 y6)) λ_ s7 zy=>?_);obtain⟨a6,H7,I7,k7,q7⟩:=zy;refine zp (cA (ht _ _ _ _ _ _ _ s7 a6 H7 _ I7 q7) λb s8 zx=>?_);obtain⟨H8,I8,q8⟩:=zx
   have again:∀{H9:Hp}{R:js}{gL:α}{aM:Obj},Inv Q ([(D,(aM))]++JB d s6.heap) a6 H9 R->u R.heap D gL ->
     (∃m',m'<n/\W (i+1) m' gL H9)->∃an,an<n/\∃i g P a,Inv Q [(D,(P))] (Il ix A) a R/\tn i R.heap/\(∀b∈d,a b=f8)/\W i an g a/\u R.heap D g:=by
    intro H9 R gL aM I9 bK ⟨m',hm,w9⟩;refine(m',hm,i+1,gL,aM,H9,I9.unpinned.weak (I4.len.trans I9.len.symm) k7,T.keep _ _ _ a4 λb B o e=>(I9.pin (b,(o)) (zR _ (zR _ (Dz B e)))).1,λb B=>?_,w9,bK);obtain⟨o,e,as⟩:=T.obj _ _ a4 b B;exact(I9.pin (b,(o)) (zR _ (zR _ (Dz B e)))).2.1
   have bb:=G.at_ _ _ _ _ a9 λo e=>by rw[bj.1]at e;cases e;exact I8.f9.1
   cases b with
   |false=>
    exact zo (Y,again I8 bb (hN _ _ q8).2)
   |true=>
    refine zp (cA (he _ _ _ _ _ _ fv D P g _ s8 a6 H8 bo I8 (by show M.heap.objs.size<=D;rw[I];exact zq _,iD,λp N=>?_) bb (λgL a q=>(hN _ _ q).1) q8) λ_ R z1=>by obtain⟨bW,b0,H9,I9,d9,n9⟩:=z1;exact zo (rfl,again I9 d9 (hN _ _ n9).2));rcases mem_append.mp N with z'|z'
    .exact zw (a2 p z')
    .exact zw (al p.1 (KQ z').1)
 exact G.start _ _ _ _ _ _ (bi _ Y) (T.self _ 0 _ _ _ (T.keep _ _ _ a3 λb _ o e=>a0 b o e) (bi _ Y))
def Do{a}{y:α}{ok}{v}{A}{B}(G:Qt X.prog X.w d mk o a az al y ok v A)(ag:XCv X c m)(hf:cL X.env.scope c X.N f n z)(T:∀i s H C l j,P (f6 z m X f c i s H C l (X.pn++j)))(S:PIg P X o a E)
  (hg:∀i s H C l t,PGk (f6 z m X f c i s H C l t) o n g) (ht:∀i s H C l t,hO (f6 z m X f c i s H C l t) az tt) (w:∀i s H C l t,Far X z i->PAd (f6 z m X f c i s H C l t) al ok A B) (hs:∀x,foldedSetIterable a X.env x=pure x) (ab:eval d X.env=comprehension d c X.env a2 mk gt (eval a X.env)):
  PE X d (λr H Q=>Hk y ok E g tt B n (λq u=>∀p,u p=f8->Q (.ref p) (upd u p (v p q))) r H):=by
 intro j s r H Q I h;rw[ab];exact Kk G ag hf T S hg ht w hs I h λs' q u D C aC R aR an N ar h2 h3 as F=>(aC,N,λa0 aM=>(.ref D,_,R.turned (λb a1 M e=>(aM.2 b M).trans e) F h2 (.inr ar) h3 as,zd,aR D an))
def Mo{j}{Q:α}{ok}{o}{R}{r}(hN:X.N.Nodup)(y:X.N[ar]?=U x)(B:X.env.scope.names.lookup x=U .local)(N:swapsWith d (U (.Name x m)) aM.line X.env=pure gl)
  (G:Qt X.prog X.w d mk v j as ag Q ok o R) (hx:XCv X c i) (hf:cL X.env.scope c X.N f u z) (hc:∀l s H C t q,P (f6 z i X f c l s H C t (X.pn++q))) (hi:PIg P X v j ab)
  (hg:∀l s H C t A,PGk (f6 z i X f c l s H C t A) v u g) (ht:∀l s H C t A,hO (f6 z i X f c l s H C t A) as tt) (he:∀l s H C t A,Far X z l->PAd (f6 z i X f c l s H C t A) ag ok R r) (hs:∀x,foldedSetIterable j X.env x=pure x)
  (hd:evalThenUse d X.env (assign (.Name x m) X.env)=(do let _ ←comprehension d c X.env a2 mk gt (eval j X.env) (U (assign (.Name x m) X.env)))):
  PS X (.Assign [.Name x m] d aM) (λD n H=>Hk Q ok ab g tt r u (λw M=>∀p,M p=f8->D.nx (n.set ar (U (.ref p))) (upd M p (o p w))) n H):=by
 intro q s n H D I h;rw[exec_Assign_Name_used _ _ _ _ N];refine zp (zI (zp ?_));rw[hd];refine zp (cA (Kk G hx hf hc hi hg ht he hs I h λs' w M S C az I' aC hD hn h1 h2 T h4 an=>wpAny_assign_Name (KN (v:=.ref S) I' hN y (.inl B) zd (λi4 al k=>?_) (.inr B))) λ_ s' hq=>zo (zo hq));obtain⟨a,E,ha⟩:=k
 have F:C≠a:=by
  rcases ha with z|z
  .rwa[z]
  .exact(T x a z).symm
 exact(az,hn.sameBut E F,λa0 aR=>(_,_,al.turned (λb a1 hb e=>(aR.2 b hb).trans e) an h2 (.inr h1) T h4,aC S hD))
abbrev YU(a:Expr)(D:jr)(b:Env):Sem Unit:=do let _ ←call (.builtin "list.append") [.ref D,←eval a b]
abbrev hoR(_:jr)(a:jq):HO:=.lst a
def RAl(h:Heap)(D:jr)(a:jq):Prop:=∃b k,Vals a b/\h.get? D=U {cls:=.type jH,data:=.seq (List.toArray b) k}
def DD{d}:Qt P w (.ListComp b [(f,d,c,0)] m g) (newList []) f d c (YU b) [] ie hoR RAl where
 cl:=rfl
 new:=({cls:=.type jH,dict:=J,data:=.seq ([]).toArray},rfl,(λv z=>nomatch z),λh D e=>([],_,.nil,e),λA Q E s h=>wpAny_newObj_type h)
 turn:=λA l D j=>(rfl,rfl)
 start:=λA R s l D j o t=>codeAny_compStart_list o t
 at_:=λh u D a ⟨i,k,r,e⟩ q=>(i,k,r,q _ e)
 fin:=λH h D a p _ y=>by obtain⟨i,k,r,e⟩:=y;exact (p,i,k,r,e)
def Dp(x:PE X c f):PAd X (YU c) ie RAl (ia f):=by
 intro D E t l s G H N I a ⟨d,k,o,r⟩ B q;obtain rfl:E=_:=Option.some.inj (I.f9.1.symm.trans r);refine zp (cA (x _ s G H _ I q) λy p v=>?_);obtain⟨z,g,e,A,i⟩:=v;have C:(t++[z]).length<=sizeLine:=B _ _ i;rw[zG,o.length]at C;refine zp (call_meets F.slot_list_append (_,e.f9.1,Y) F.entry_list_append (F.args_list_append_2 _ _) (PySem.list_append D d.toArray k y (by rw[size_toArray];lia)) (e.f9.1,zo ?_));have h:d.toArray.push y=(d++[y]).toArray:=by simp
 obtain⟨j,q⟩:∃j,(p.heap.update D (Obj.mapSeq (·.push y))).get? D=U {cls:=.type jH,data:=.seq (d++[y]).toArray j}:=(_,by rw[←h];exact PySem.IsL.update e.f9.1 (·.push y));exact(_,_,g,e.reD a (λb u=>zU p.heap (Obj.mapSeq (·.push y)) (Ne.symm u)) q (λv z=>nomatch z),(_,_,o.append (.cons A .nil),q),i)
end
abbrev g2(a:FG):TG:=Ul a 2 (JA (Bz 0) (JA (Bz 1) Uk))
def Bt{a}(e)(d)(u:IY X.env.scope b X.N (x::e) (J::d)=L)(l:(x::e).Nodup)(o:b.names.lookup x=U .local)(z:X.calm=L)(r:PI X (.Name x v) a t)
  (ht:∀h s H C j i,hO (CG X (x::e) b h s H C j i) g tt) (y:∀h s H C j i,PE (CG X (x::e) b h s H C j i) c m) (f:∀x,foldedSetIterable a X.env x=pure x:=by intro _;rfl):
  PE X (.ListComp c [(.Name x v,a,g,0)] b A) (λw H Q=>Hl t (Bz 0) tt m (J::d) (λn q=>∀p,q p=J->Q (.ref p) (upd q p (.lst n))) w H):=
 Do DD DL (cL.of u) (λ_ _ _ _ _ _=>z) r.g (λh s H C j i=>Dm (BI l rfl (.inl (z5 o)) (.inr (z5 o)))) ht (λ_ _ _ _ _ _ _=>Dp (y _ _ _ _ _ _)) f rfl
def Gs{a}{y}{o}(h)(e)(A:IY X.env.scope b X.N (x::y::h) (J::J::e)=L)(d:(x::y::h).Nodup)(q:b.names.lookup x=U .local)(t:b.names.lookup y=U .local)(u:X.calm=L)
  (z:PI X (.Tuple [.Name x B,.Name y m] o pt) a v)
  (ht:∀i s H C l j,hO (CG X (x::y::h) b i s H C l j) g tt) (D:∀i s H C l j,PE (CG X (x::y::h) b i s H C l j) c n) (f:∀x,foldedSetIterable a X.env x=pure x:=by intro _;rfl):
  PE X (.ListComp c [(.Tuple [.Name x B,.Name y m] o pt,a,g,0)] b G) (λE H Q=>Hl v (g2 X.K) tt n (J::J::e) (λw r=>∀p,r p=J->Q (.ref p) (upd r p (.lst w))) E H):=
 Do DD DL (cL.of A) (λ_ _ _ _ _ _=>u) z.g (λi s H C l j=>Mn (BN u (AT (BI d rfl (.inl (z5 q)) (.inr (z5 q)))
  (AT (BI d rfl (.inl (z5 t)) (.inr (z5 t))) A3)))) ht (λ_ _ _ _ _ _ _=>Dp (D _ _ _ _ _ _)) f rfl
def SZ{a}{i}{z}(F:X.N.Nodup)(r:X.N[i]?=U z)(w:X.env.scope.names.lookup z=U .local)(o)(e)(m:IY X.env.scope b X.N (x::o) (J::e)=L)(q:(x::o).Nodup)
  (u:b.names.lookup x=U .local) (I:X.calm=L) (G:PI X (.Name x v) a A)
  (ht:∀h s H C l j,hO (CG X (x::o) b h s H C l j) f tt) (E:∀h s H C l j,PE (CG X (x::o) b h s H C l j) c N)
  (t:swapsWith (.ListComp c [(.Name x v,a,f,0)] b M) (U (.Name z B)) d.line X.env=pure L:=by rfl) (n:∀x,foldedSetIterable a X.env x=pure x:=by intro _;rfl):
  PS X (.Assign [.Name z B] (.ListComp c [(.Name x v,a,f,0)] b M) d) (λD g H=>Hl A (Bz 0) tt N (J::e) (λP y=>∀p,y p=J->D.nx (g.set i (U (.ref p))) (upd y p (.lst P))) g H):=
 Mo F r w t DD DL (cL.of m) (λ_ _ _ _ _ _=>I) G.g (λh s H C l j=>Dm (BI q rfl (.inl (z5 u)) (.inr (z5 u)))) ht (λ_ _ _ _ _ _ _=>Dp (E _ _ _ _ _ _)) n rfl
def Kl{a:Type}{b:List a}(h:b.length<=1000):b.length<=sizeLine:=Nat.le_of_lt (AQ h)
def Km{a}{f}{c}{n}{o}{ok}{B}{R}{l}(e:Nat->n->Hp->Prop)(t:e 0 o l)(j:∀i b H,i<=c.length->e i b H->bZ f H a c)(m:∀i b H,e i b H->ok b)(g:∀i x b H,c[i]?=U x->e i b H->B x b (e (i+1)) H)(q:∀b H,e c.length b H->R b H):tW (iL f a) o ok B R l:=by
 refine Dl e t m (λi b H d h=>?_) λb H h=>((c,j _ b H (zq _) h,zq _),q b H h);have r:=z7 d;refine((c,c[i],j i b H (Nat.le_of_lt d) h,r),?_);rintro x p ⟨rfl,u⟩;exact g i x b p (u c (j i b p (Nat.le_of_lt d) h)) h
def Sb{a}{f}{c}{n}{o}{ok}{B}{R}{l}(e:Nat->n->Hp->Prop)(t:e 0 o l)(j:∀i b H,i<=c.length->e i b H->cD f H a c)(m:∀i b H,e i b H->ok b)(g:∀i x b H,c[i]?=U x->e i b H->B x b (e (i+1)) H)(q:∀b H,e c.length b H->R b H):tW (Itt f a) o ok B R l:=by
 refine Dl e t m (λi b H d h=>?_) λb H h=>((c,j _ b H (zq _) h,zq _),q b H h);have r:=z7 d;refine((c,c[i],j i b H (Nat.le_of_lt d) h,r),?_);rintro x p ⟨rfl,u⟩;exact g i x b p (u c (j i b p (Nat.le_of_lt d) h)) h
def B0{f}{a}{ω}{xs}{c}{g}{tt}{h}{R}{e}(d:Nat->jq->Hp->Prop)(o:d 0 [] e)(l:∀i b H,i<=xs.length->d i b H->bZ ω H a xs)(n:∀i b H,d i b H->b.length<=1000)(m:∀i x b H,xs[i]?=U x->d i b H->bT g tt (ia c) h f x b (d (i+1)) H)(j:∀b H,d xs.length b H->R b H):tW (iL ω a) [] ie (bT g tt (ia c) h f) R e:=Km d o l (λi b H q=>Kl (n i b H q)) m j
def JO{m}{a}{n}{c}{f}{g}{tt}{h}{R}{e}(d:Nat->jq->Hp->Prop)(o:d 0 [] e)(l:∀i b H,i<=c.length->d i b H->cD n H a c)(r:∀i b H,d i b H->b.length<=1000)(p:∀i x b H,c[i]?=U x->d i b H->bT g tt (ia f) h m x b (d (i+1)) H)(j:∀b H,d c.length b H->R b H):tW (Itt n a) [] ie (bT g tt (ia f) h m) R e:=Sb d o l (λi b H q=>Kl (r i b H q)) p j
def Fu{f}{c}{lo}{n}{g}{tt}{j}{R}{h}(a:Nat->jq->Hp->Prop)(o:a 0 [] h)(r:∀i b H,a i b H->b.length<=1000)(m:∀i b H,i<n->a i b H->bT g tt (ia c) j f (.int (lo+i)) b (a (i+1)) H)(l:∀b H,a n b H->R b H):tW (Itr lo n) [] ie (bT g tt (ia c) j f) R h:=
 Dl a o (λi b H q=>Kl (r i b H q)) (λi b H d e=>(d,by rintro x p ⟨rfl,rfl⟩;exact m i b p d e)) λb H e=>(zq _,l b H e)
def Inv.newOk(I:Inv X a b H s)(d:s.heap.objs.size<=p):H p=J/\p≠X.env.locals/\X.cG.heap.objs.size<=p/\(∀x c,X.env.cells.lookup x=U c->c≠p)/\∀q∈X.pn++a,q.1≠p:=
 (I.cy.fresh d,Nat.ne_of_gt (zZ I.lt d),Nat.le_trans I.sz d,λx c e=>by
  obtain⟨v,z⟩:=I.cell x c e
  exact zw (zZ z.lt d),λq h=>zw (zZ (lt_size (I.pin q h).1) d))
def Inv.freeze(I:Inv X c g H s)(h:H a=U (.dK f)):∃o,Inv X c g (upd H a (.dz o (.dK f))) s:=by
 obtain⟨z,y,l,r,i,j,ep,e,d⟩:=I.cy a _ h;exact(i,I.write (by rw[h];exact trivial) (.inl Y) (λb u _ q=>q) (i,e) (e,z,y,l,r,i,j,ep,e,d))
def Fv(h:fk X i t):fk X i (λD c H=>∃a b,H a=U (.dK b)/\∀o,t D c (upd H a (.dz o (.dK b)))):=by
 intro d s c H D I ⟨a,b,e,k⟩;obtain⟨o,j⟩:=I.freeze e;exact h d s c _ D j (k o)
noncomputable def U4(o:Obj):Nat:=match o.data with
 |.dict _ ep=>ep
 |_=>0
def Dr(I:Inv X f g H s)(h:H a=U (.dz o (.dK c))):c.length<=sizeLine/\(a==sysModules)=O/\∃b,KV c b/\s.heap.DictAt (Ac X.prog X.w) a b (U4 o):=by
 obtain⟨e,z,y,b,r,q,l,ep,j,p,d,i⟩:=I.cy a _ h;rw[e]at j;cases j;refine(z,y,b,r,o,l,e,p,?_,i);unfold U4;rw[d]
theorem KV.get{f}:∀{b}{c}{i:Nat}{a:f×V},KV b c->b[i]?=U a->∃v,c[i]?=U (a.1,(v))/\RelV a.2 v
 |_,_,_,_,.nil,e=>by simp at e
 |_,_,0,_,.cons r _,e=>by
  grind
 |_,_,i+1,a,.cons _ t,e=>by
  obtain⟨u,d,h⟩:=KV.get (t) (by trivial)
  simp_all
def D8(h:(Ac P w).is k u=L):RelV (kV k) u:=by
 rcases BE (h)with⟨i,t,rfl,rfl⟩|⟨x,t,rfl,rfl⟩
 .exact(t,Y)
 .exact(t,Y)
def jk(a:jr)(o:Obj)(b:LK):It:=(λi H=>H a=U (.dz o (.dK b))/\i<b.length,λi H x d=>∃p c,H p=J/\x=.ref p/\b[i]?=U c/\d=upd H p (.tup [kV c.1,c.2]),
 λi H=>H a=U (.dz o (.dK b))/\b.length<=i)
def OY(a r)(o)(f):
  Ma al aC aM (.Tuple an k0 az) (jk a o f) [r] r (λi h=>∃ok c,IsItemIter h r a i f.length (U4 o) ok c) where
 mem:=by simp
 obj:=λi h st b t=>by
  grind
 keep:=λi h M st k=>by
  grind
 item:=by
  intro X n m Q z i l s P H E I S st T;subst n m Q;obtain⟨q,y⟩:=T;obtain⟨ag,ab,vs,j,N⟩:=Dr I q;obtain⟨ok,c,st⟩:=st;have d:=j.length;obtain⟨p,x⟩:∃p,f[i]?=eq p:=(_,z7 y);obtain⟨v,hv,rv⟩:=KV.get j x;obtain⟨g,G,f2,D,F,C⟩:=S r (by simp);rw[d]at st;refine wpAny_pyNext_items_item st N hv λu M A R hp as keep=>?_;obtain⟨w,n2,n3,n4,n5⟩:=I.newOk (zq s.heap.objs.size);have I2:Inv X l P (upd H s.heap.objs.size (.tup [kV p.1,p.2])) {s with heap:=M}:=(I.turned (t':=s.toks) keep g G D F C).track w n2 (.inr n3) n4 n5 (by show 2<=sizeLine;decide,[u,v],.cons (D8 A) (.cons rv .nil),_,hp,rfl,_,rfl);have fi:(upd H s.heap.objs.size (.tup [kV p.1,p.2])) r=f8:=by rwa[AE (zw (lt_size st))]
  refine(.ref s.heap.objs.size,Y,wpAny_letOwnedTupleGo_items R λar B sb=>(.ref s.heap.objs.size,_,I2.turned (λb o t e=>(sb.2 b t).trans e) fi G D F C,Y,(_,p,w,Y,x,Y),(u,v,by rw[d];exact B),λb t=>?_))
  simp_all
 done:=by
  intro X n m Q z i l s P H E I S st T;subst n m Q;obtain⟨q,y⟩:=T;obtain⟨ag,ab,vs,j,N⟩:=Dr I q;obtain⟨ok,c,st⟩:=st;have d:=j.length;rw[d]at st;obtain⟨g,G,f2,D,F,C⟩:=S r (by simp);exact wpAny_pyNext_items_end (I.ok.hd z) st N (by simp_all) λM eb=>(Y,I.turned (λb o t e=>eb b o t e) g G D F C)
 self:=λ_ _ _ _ _ st h=>by
  obtain⟨ok,c,e⟩:=st;exact W.kcp_self e h
def W0(to:TE):TI:=λd H R=>to d H λx b=>∃a o c,x=.ref a/\b a=U (.dz o (.dK c))/\R (jk a o c) b
def JP{G}(c:PE X o to)(j:attributeBase o "items" X.env (eval o X.env)=eval o X.env:=by rfl)(i:(f.endLine==g.line)=L:=by rfl):
  PI X (.Tuple m G n) (.Call (.Attribute o "items" f) [] [] g) (W0 to):=by
 intro d s F H R I h;refine wpAny_Call_method0_late j i (cA (c d s F H _ I h) λv u v=>?_);obtain⟨x,B,r,M,a,E,l,P,p,q⟩:=v;subst P;cases M;obtain⟨D,t2,_⟩:=Lc r (.inl (l,.inr (E,p)));obtain⟨z,y,N,A,C⟩:=Dr r p;refine(kg,"dict.items",plainAttrs_dict,slot_dict_items,type_dict_items,D,t2,Calls.callWith_builtin rfl (PySem.evalArgs_none (call_meetsIn slot_dict_items D entry_dict_items (args_dict_items_1 _) (meets_dict_items (Ac X.prog X.w) a y) ((N,C.dictOf),?_))));have t:Inv X d F B {u with heap:=u.heap.push {cls:=.type "dict_items",data:=.fields #[.ref a]}}:=r.kept λb o e=>zV _ e;refine wpAny_pyIter_items (_,zM _ rfl,rfl,rfl) (C.push _) ?_;refine(_,[_],_,_,B,rfl,t.kept λb o e=>zV _ e,OY a _ E l,(.none,.none,by rw[A.length];exact zM _ rfl),λb w=>?_,q);have e:b=(u.heap.push {cls:=.type "dict_items",data:=.fields #[.ref a]}).objs.size:=by simpa using w
 subst e;exact t.gm (zq _) (t.cy.fresh (zq _))
def Ite(b:FG)(a:jr):It:=(λi H=>∃c x,bZ b H a c/\c[i]?=U x,λi H x d=>∃p y,H p=J/\x=.ref p/\(∀c,bZ b H a c->c[i]?=U y)/\d=upd H p (.tup [.int i,y]),λi H=>∃c,bZ b H a c/\c.length<=i)
def Qu(a e t)(A:e≠t):
  Ma aM a6 aC (.Tuple a0 k0 a5) (Ite aC a) [e,t] e (λi h=>∃j,IsEnum h e t i j/\h.IsListIter t a i) where
 mem:=by simp
 obj:=λi h st b y=>by
  obtain⟨j,f,o,v,c,aR⟩:=st
  grind
 keep:=λi h F st k=>by
  obtain⟨j,f,v⟩:=st;exact(j,k e (by simp) _ f,v.at λo q=>k t (by simp) o q)
 item:=by
  intro X n g m R i l s T H E I d st r;subst n g m;obtain⟨xs,x,C,S⟩:=r;obtain⟨ag,Q,p,hz⟩:=I.list C;obtain⟨u,hu,ru⟩:=Q.get S;obtain⟨j,G,D⟩:=st;obtain⟨f0,w,f2,f3,f4,f5⟩:=d e (by simp);obtain⟨z,M,g2,g3,N,P⟩:=d t (by simp);have a2:t<s.heap.objs.size:=by obtain⟨o,q,_⟩:=id D;exact lt_size q
  refine wpAny_pyNext_enum_item G D p.isList (x:=u) (by simp_all) A λF al az hp a3 keep=>?_
  have I1:Inv X l T H {s with heap:=F,toks:=s.toks+1}:=by
   refine I.step (ch:=[e,t]) (λb y=>?_) (λb o _ _ y q _=>keep b o (by simp_all) (by simp_all) q) (λb o _ _ y q _=>(o.slots,keep b o (by simp_all) (by simp_all) q))
    (λ_ _ _ _ an=>an) (λb o y q=>(o,keep b o (by simp_all) (by simp_all) q)) (λ_ _ q=>q) (λ_ _ _ q=>q) (λb ps q=>(#[],by trivial)) (λa4 hm=>?_) (λb u q=>?_) I.bare
   .grind
   .obtain⟨oL,es,ep,ab,ar⟩:=hm;exact(oL,es,ep,keep _ oL (Ne.symm w) (Ne.symm M) ab,ar)
   .refine(I.cy b u q).fq (λc as R q'=>keep c as ?_ ?_ q') (λ_ q=>q) λ_ _ q=>q
    .grind
    grind
  obtain⟨n1,n2,n3,n4,n5⟩:=I.newOk (zq s.heap.objs.size);have I2:Inv X l T (upd H s.heap.objs.size (.tup [.int i,x])) {s with heap:=F,toks:=s.toks+1}:=I1.track n1 n2 (.inr n3) n4 n5 (by show 2<=sizeLine;decide,[.int i s.toks,u],.cons (_,rfl) (.cons ru .nil),_,hp,rfl,_,rfl);have fe:(upd H s.heap.objs.size (.tup [.int i,x])) e=J:=by rwa[AE (zw (lt_size G))]
  have fi:(upd H s.heap.objs.size (.tup [.int i,x])) t=J:=by rwa[AE (by grind)]
  refine(.ref s.heap.objs.size,Y,wpAny_letOwnedTupleGo_enum al λa1 B sb=>(.ref s.heap.objs.size,_,I2.turned (λb o y q=>(sb.2 b y).trans q) fe w f3 f4 f5,Y,(_,x,n1,Y,λys hy=>by rw[I.list_inj hy C];exact S,Y),(_,by exact_mod_cast B,az.extBut sb.extBut (Ne.symm A)),λb y=>?_))
  grind
 done:=by
  intro X n g m R i l s T H E I d st r;subst n g m;obtain⟨xs,C,S⟩:=r;obtain⟨ag,Q,p,hz⟩:=I.list C;obtain⟨j,G,D⟩:=st;obtain⟨z,M,g2,g3,N,P⟩:=d t (by simp);have hl:=Q.length;exact wpAny_pyNext_enum_end (I.ok.hd R) G D p.isList (by simp;lia) λF eb=>(Y,I.turned (λb o y e=>eb b o y e) z M g3 N P)
 self:=λ_ _ _ _ _ st h=>by
  obtain⟨j,f,_⟩:=st;exact wpAny_pyIter_enum f h
def YV(b:FG)(c:TA):TI:=λg H R=>c g H λe d=>∃a,e=[.ref a]/\(∃f,bZ b d a f)/\R (Ite b a) d
def U5(G:Gl X lT)(z:X.mg lT=J)(o:PA X [l] A)(f:starEach [l] X.env=[(O,(eval l X.env))]:=by rfl):
  PI X (.Tuple m g n) (.Call (.Name lT p) [l] [] c) (YV X.K A):=by
 intro e s E H R I h;refine z0 (Fm I G z (by rfl) (PyProof.Rows.callWith_type1 (cA (o c e s E H _ I h) λQ i w=>?_) f Y));obtain⟨S,r,d,y,a,C,⟨P,x⟩,q⟩:=w;subst C;obtain⟨u,rfl,t⟩:=Bc y;cases t;obtain⟨B,M,pl,N⟩:=d.list x;refine call_enumerate_list pl.isList λw j D F keep=>?_;apply wpAny_pyIter_enum j;refine(_,[i.heap.objs.size+1,i.heap.objs.size],_,_,r,Y,d.kept (t':=i.toks) keep,Qu a _ _ (by simp),(_,j,D),λb v=>?_,q);rcases (by simpa using v)with rfl|rfl
 .exact d.gm (Nat.le_succ _) (d.cy.fresh (Nat.le_succ _))
 .exact d.gm (zq _) (d.cy.fresh (zq _))
noncomputable def Its(x:Str):It:=(λi _=>i<x.cps.size,λi H v a=>a=H/\∃c,x.cps[i]?=U c/\v=.str ⟨#[c]⟩,λi _=>x.cps.size<=i)
def Sc(a)(x)(t):
  Ma P w g (.Name n f) (Its x) [a] a (λi h=>h.IsStrIter a "str_ascii_iterator" x t i) where
 mem:=by simp
 obj:=λi h st b j=>by
  have e:b=a:=by simpa using j
  subst e;obtain⟨o,e,c,d⟩:=st;exact(o,e,λv z=>by simp_all)
 keep:=λi h T st k=>by
  obtain⟨o,e,r⟩:=st;exact(o,k a (by simp) o e,r)
 item:=by
  intro X m B C N i l s ab H E I p st G;subst m B C;have M:=G;obtain⟨y,D,R,u,A,q⟩:=p a (by simp);refine wpAny_pyNext_ascii_item st (Array.getElem?_eq_getElem M) λT F Q=>?_;refine(_,Y,zo (.str ⟨#[x.cps[i]]⟩,H,I.turned (λb o j e=>(Q.2 b j).trans e) y D u A q,(_,Y),(Y,_,Array.getElem?_eq_getElem M,Y),F,λb j=>(p b j).1))
 done:=by
  intro X m B C N i l s ab H E I p st G;subst m B C;obtain⟨y,D,R,u,A,q⟩:=p a (by simp);exact wpAny_pyNext_ascii_end (I.ok.hd N) st (Array.getElem?_eq_none G) λT S=>(Y,I.turned (λb o j e=>S b o j e) y D u A q)
 self:=λ_ _ _ _ _ st h=>wpAny_pyIter_striter_ascii st h
def Z5(a:TE):TI:=λc H R=>a c H λv b=>∃x,v=.str x/\x.cps.all (· < 128)=L/\R (Its x) b
def JQ(r:PE X e c):PI X (.Name n f) e (Z5 c):=by
 intro a s A H R I h;refine cA (r a s A H _ I h) λv i v=>?_;obtain⟨z,l,d,y,x,j,u,q⟩:=v;subst j;obtain⟨t,rfl⟩:=y;apply wpAny_pyIter_ascii u;refine(i.heap.objs.size,[i.heap.objs.size],_,_,l,Y,d.kept λb o e=>zV _ e,Sc _ x t,(_,zM _ Y,Y,Y),λb p=>?_,q);have e:b=i.heap.objs.size:=by simpa using p
 subst e;exact d.gm (zq _) (d.cy.fresh (zq _))
def KB:entryFor table "proto.unchain"=U Builtin.«proto.unchain»:=entryFor_of_tree (by rfl)
def U6{n}{Q}(r:A.handled=U (.ref c))(d:c≠e)(t:s.heap.get? c=U f)(a:f.data=.fields l)(p:l[2]?=U .none)
  (q:s.heap.get? e=U g) (i:g.data=.fields o) (b:2<o.size) (h:E (.ref e) {s with heap:=s.heap.update e (Obj.mapFields (·.setIfInBounds 2 (.ref c)))}):wpAny (model m w) A (raiseNew (.ref e):Sem n) Q E s:=by
 refine zp (wpAny_handled ?_);rw[r]
 dsimp only
 rw[zg (by simp[d])];refine zp (zJ (wpAny_runValue (codeAny_builtin KB (zp (wpAny_field t a p ?_)))));apply zo;exact zp (zn (wpAny_setField (M:=model m w) (A:=A) (E:=E) (Q:=λ_ j=>E (.ref e) j) q i b h) (λ_ j z=>wpAny_throw z) λ_ _ z=>z)
def Ee(H:A.handled=U (.ref c))(B:s.heap.get? c=U m)(q:m.data=.fields x)(F:x[2]?=U .none)(e:c≠f)
  (p:s.heap.IsListIter f l i) (G:s.heap.IsList l n) (C:n[i]?=J) (h:∀g,Heap.ExtBut f s.heap g->Q J {s with heap:=g}):wpAny (model M w) A (pyNext (.ref f)) Q E s:=by
 obtain⟨o,d,D,j⟩:=id p;obtain⟨I,r,_,N,a⟩:=G;refine zp (wpAny_attempt (wpAny_callSpecial?_slot p.typeIs slot_listiter_next (wpAny_call_entry slot_listiter_next p.typeIs entry_listiter_next ?_ (args_listiter_next _))));show wpAny _ _ (field (.ref f) 0 >>= _) _ _ s;refine zp (wpAny_field d j Y ?_);refine zp (wpAny_field d j Y (zp (wpAny_seqItems r a ?_)));simp[Int.toNat_natCast,C];refine zp (wpAny_rule (zp (wpAny_setField d j (by simp) ?_)));apply zp;refine zp (wpAny_newObj_type (zp (wpAny_of_eq (by rfl) (wpAny_newObj_type ?_ (by size_fits)))) (by size_fits));have v:=(zU s.heap (Obj.mapFields (·.setIfInBounds 0 Value.none)) (Ne.symm e)).trans B;refine U6 (H) (λz=>?_) (zV _ (zV _ v)) q F (zM _ Y) Y (by grind) ?_
 .have:=lt_size (zV {cls:=.type jN,data:=.seq #[]} v);rw[z]at this;exact absurd this (zE _)
 .refine zp (wpAny_isInstance (_,zS _ (zM _ Y) Y,Y) isSubtype_stop ?_);refine zo (h _ λb u y z=>?_);have t:=zV {cls:=.type jN,data:=.seq #[]} ((zU s.heap (Obj.mapFields (·.setIfInBounds 0 Value.none)) (Ne.symm y)).trans z);rw[zU _ _ (Nat.ne_of_gt (lt_size t))];exact zV _ t
def Sft(X:Cx):Prop:=∃e a b,X.A.handled=U (.ref e)/\(e,(a))∈X.pn/\a.data=.fields b/\b[2]?=U .none
def il(X:Cx):Prop:=X.calm=L\/Sft X
def il.comp(h:il X):il (CG X f n l s H C m (X.pn++g)):=by
 rcases h with h|⟨e,i,j,a,b,c,d⟩
 .exact .inl h
 .exact .inr (e,i,j,a,zO _ b,c,d)
def Sd(j:il X)(I:Inv X m v H s)(t:Fd X m H f)(q:s.heap.IsListIter f l i)(r:s.heap.IsList l n)(o:n[i]?=J)
  (h:∀g,Heap.ExtBut f s.heap g->Q J {s with heap:=g}):dH X (pyNext (.ref f)) Q E s:=by
 rcases j with j|⟨e,p,u,a,b,c,d⟩
 .exact wpAny_pyNext_list_end (I.ok.hd j) q r o h
 .exact Ee a (I.pin (e,(p)) (by grind)).1 c d (t.2.2.2.2.2 (e,(p)) (by grind)) q r o h
def OZ(a j):WN il P w g m (iL g a) [j] j (λi h=>h.IsListIter j a i):=by
 have T:=KP (P:=P) (w:=w) (ω:=g) (tg:=m) a j;refine(T.obj,T.keep,?_,?_,T.self)
 .intro X F B C G i q s S H E I v st D;subst F B C;obtain⟨ag,x,t,A⟩:=D;obtain⟨ar,z,p,Q⟩:=I.list t;obtain⟨u,hu,n⟩:=z.get A;obtain⟨N,an,f2,M,R,y⟩:=v j (by simp);refine wpAny_pyNext_list_item st p.isList (x:=u) (by simp_all) λab r sb=>?_;obtain⟨o,e,c,d⟩:=id r;exact(u,Y,Mb e c d qc (x,H,I.turned (λb o l e=>(sb.2 b l).trans e) N an M R y,n,(Y,λys al=>by rw[I.list_inj al t];exact A),r,λb l=>(v b l).1))
 .intro X F B C G i q s S H E I v st D;subst F B C;obtain⟨ag,t,A⟩:=D;obtain⟨ar,z,p,Q⟩:=I.list t;have f:=v j (by simp);have hl:=z.length;exact Sd G I f st p.isList (by simp;lia) λab eb=>(Y,I.turned (λb o l e=>eb b o l e) f.1 f.2.1 f.2.2.2.1 f.2.2.2.2.1 f.2.2.2.2.2)
def Se(r:PE X l z):PIg il X c l (PZ X.K z):=by
 intro d s B H R I h;refine cA (r d s B H _ I h) λv j v=>?_;obtain⟨x,t,i,y,a,e,⟨F,u⟩,q⟩:=v;subst e;cases y;obtain⟨A,D,p,E⟩:=i.list u;refine wpAny_pyIter_list p.isList (j.heap.objs.size,[j.heap.objs.size],_,_,t,Y,i.kept λb o e=>zV _ e,OZ a _,(_,zM _ Y,Y,Y),λb C=>?_,q);obtain rfl:b=j.heap.objs.size:=by simp_all
 exact i.gm (zq _) (i.cy.fresh (zq _))
def Qw{a}(e)(d)(u:IY X.env.scope b X.N (x::e) (J::d)=L)(l:(x::e).Nodup)(o:b.names.lookup x=U .local)(z:il X)(r:PIg il X (.Name x v) a t)
  (ht:∀h s H C j i,hO (CG X (x::e) b h s H C j i) g tt) (y:∀h s H C j i,PE (CG X (x::e) b h s H C j i) c m) (f:∀x,foldedSetIterable a X.env x=pure x:=by intro _;rfl):
  PE X (.ListComp c [(.Name x v,a,g,0)] b A) (λw H Q=>Hl t (Bz 0) tt m (J::d) (λn q=>∀p,q p=J->Q (.ref p) (upd q p (.lst n))) w H):=
 Do DD DL (cL.of u) (λ_ _ _ _ _ _=>z.comp) r (λh s H C j i=>Dm (BI l rfl (.inl (z5 o)) (.inr (z5 o)))) ht (λ_ _ _ _ _ _ _=>Dp (y _ _ _ _ _ _)) f rfl
def Oa{X}{s}{j:jo}(B:il X)(I:Inv X f g H s)(pl:s.heap.IsList p j.toArray):∃G St,Walks X.prog X.w X.A.in1 s.heap.objs.size G [s.heap.objs.size] j.toArray.size (λi v=>j.toArray[i]?=U v) St /\
  St 0 (s.heap.push {cls:=.type mr,data:=.fields #[.ref p,.int 0 0]})/\∀b∈G,b<s.heap.objs.size+1:=by
 have F:p<s.heap.objs.size:=by obtain⟨o,e,_⟩:=id pl;exact lt_size e
 have r:(s.heap.push {cls:=.type mr,data:=.fields #[.ref p,.int 0 0]}).IsListIter s.heap.objs.size p 0/\(s.heap.push {cls:=.type mr,data:=.fields #[.ref p,.int 0 0]}).IsList p j.toArray:=
  ((_,zM _ rfl,rfl,rfl),pl.at λo e=>zV _ e)
 rcases B with B|⟨e,t,w,a,b,c,d⟩
 .refine(_,_,Walks.list (A:=X.A.in1) (I.ok.hd B) _ p (zw F) j.toArray,r,λb l=>?_)
  grind
 .have D:=(I.pin (e,(t)) (by simp[*])).1;have n:=lt_size D;refine([s.heap.objs.size,p,e],λi h=>(h.IsListIter s.heap.objs.size p i/\h.IsList p j.toArray)/\h.get? e=U t,(λb l=>by simp_all,λi h u st k=>((st.1.1.at λo z=>k _ (by simp) o z,st.1.2.at λo z=>k _ (by simp) o z),k e (by simp) t st.2),?_,?_,λ_ _ _ _ st q=>wpAny_pyIter_listiter st.1.1 q),(r,zV _ D),λb l=>?_)
  .intro i C Q E N st q;exact wpAny_pyNext_list_item st.1.1 st.1.2 (x:=j.toArray[i]) (by simp) λu m t2=>q _ u C.toks (by simp) ((m,st.1.2.extBut t2.extBut (zw F)),t2.extBut e t (by grind) st.2) λb o l z=>t2.extBut b o (λy=>l (by simp[y])) z
  .intro C Q E st q;exact Ee (a) st.2 c d (by grind) st.1.1 st.1.2 (by simp) λu z=>q u C.toks λb o l y=>z b o (λM=>l (by simp[M])) y
  grind
noncomputable def Pp(a p:jr):HO:=.ext λh=>h.IsItemsView p a
noncomputable def Sf(a p:jr):HO:=.ext λh=>h.IsValuesView p a
def Sh{X}{o}{to}{e}{j l}{id}{r}(t:Slot kg e id)(y:typeOf (.builtin id)=pure (.type mw))(C:MtR X id r)(A:PE X o to)
  (q:attributeBase o e X.env (eval o X.env)=eval o X.env:=by rfl) (p:(j.endLine==l.line)=L:=by rfl):
  PE X (.Call (.Attribute o e j) [] [] l) (λb H Q=>to b H λx u=>∃a,x=.ref a/\IsD u a/\r x [] u Q):=by
 intro i s b H Q I h;refine wpAny_Call_method0_late q p (cA (A i s b H _ I h) λv E v=>?_);obtain⟨x,u,z,B,a,F,d,q1⟩:=v;subst F;cases B;obtain⟨D,t2,_⟩:=Lc z d;exact(kg,id,plainAttrs_dict,t,y,D,t2,Calls.callWith_builtin Y (PySem.evalArgs_none (C i E b u (.ref a) [] (.ref a) [] Q z Y .nil q1)))
def Si:MtR X "dict.items" (λx f H Q=>∃a c,x=.ref a/\f=[]/\Rd H a (.dK c)/\∀p,H p=J->Q (.ref p) (upd H p (Pp a p))):=by
 rintro d s C H x f v D Q I t u ⟨a,c,rfl,rfl,j,q⟩;cases t;cases u;obtain⟨z,y,A,l,h⟩:=Ct I.cy j;refine call_meetsIn slot_dict_items h.typeIs entry_dict_items (args_dict_items_1 _) (meets_dict_items (Ac X.prog X.w) a y) ((A,h),(.ref s.heap.objs.size,_,I.laid (o:=Pp a s.heap.objs.size) (λb o e=>zV _ e) (zq _) ((_,zM _ Y,Y,Y),(_,zM _ Y),λB E z k=>?_),Y,q _ (I.cy.fresh (zq _))));obtain⟨i,e,r⟩:=z;exact(i,k i e,r)
def Qx:MtR X "dict.values" (λx f H Q=>∃a c,x=.ref a/\f=[]/\Rd H a (.dK c)/\∀p,H p=J->Q (.ref p) (upd H p (Sf a p))):=by
 rintro d s C H x f v D Q I t u ⟨a,c,rfl,rfl,j,q⟩;cases t;cases u;obtain⟨z,y,A,l,h⟩:=Ct I.cy j;refine call_meetsIn slot_dict_values h.typeIs entry_dict_values (args_dict_values_1 _) (meets_dict_values (Ac X.prog X.w) a y) ((A,h),(.ref s.heap.objs.size,_,I.laid (o:=Sf a s.heap.objs.size) (λb o e=>zV _ e) (zq _) ((_,zM _ Y,Y,Y),(_,zM _ Y),λB E z k=>?_),Y,q _ (I.cy.fresh (zq _))));obtain⟨i,e,r⟩:=z;exact(i,k i e,r)
theorem Cc{g d}{F}:∀{c:List g}{f:List d},c.length=f.length->(∀(j:Nat)x y,c[j]?=U x->f[j]?=U y->F x y)->Paired F c f
 | [],[],_,_=>.nil
 | [],_::_,h,_=>by simp at h
 |_::_,[],h,_=>by simp at h
 |x::c,y::f,h,k=>.cons (k 0 x y rfl rfl) (Cc (by simp_all) λj a b e i=>k (j+1) a b (by trivial) (by trivial))
def Ob(f:X.calm=L):cH X (.type jH) (λc H Q=>∃a b,c=[.ref a]/\Rd H a (.dK b)/\∀l,H l=J->Q (.ref l) (upd H l (.lst (b.map λp=>kV p.1)))):=by
 rintro B s w H c P Q I r ⟨a,b,rfl,g,q⟩;obtain⟨u,rfl,D⟩:=Bc r;cases D;obtain⟨z,y,vs,i,F⟩:=Ct I.cy g;obtain⟨ep,R⟩:=F.dictAt;have C:=i.length;refine W.kdl_call (W.kdl_dict y) (I.ok.hd f) R (by simp_all) λE n acc N keep e o=>(.ref s.heap.objs.size,_,I.laid keep (zq _) (show df X.prog X.w _ E _ (.lst (b.map λp=>kV p.1))from(by simp_all,acc.toList,N,?_,qe)),Y,q _ (I.cy.fresh (zq _)))
 refine Cc (by have G:acc.toList.length=acc.size:=by simp
               rw[AO,G,o.1,C]) λj v m h A=>?_
 rw[Array.getElem?_toList]at A;obtain⟨k,x,S,M⟩:=o.2 j m A;rw[zy]at h;cases t:b[j]? with
 |none=>rw[t]at h;cases h
 |some p=>
  rw[t]at h;simp at h;obtain⟨T,d,_⟩:=KV.get i t;rw[S]at d;simp at d;rw[←h,←d.1];exact D8 M
def Oc(f:X.calm=L):cH X (.type jH) (λc H Q=>∃p a b,c=[.ref p]/\H p=U (Sf a p)/\Rd H a (.dK b)/\∀l,H l=J->Q (.ref l) (upd H l (.lst (b.map (·.2))))):=by
 rintro A s ab H c us Q I r ⟨p,a,b,rfl,M,g,q⟩;obtain⟨u,rfl,C⟩:=Bc r;cases C;obtain⟨z,y,vs,i,F⟩:=Ct I.cy g;obtain⟨ep,R⟩:=F.dictAt;obtain⟨S,_⟩:=I.cy p _ M;have B:=i.length;refine W.kdl_call (W.kdl_values) (I.ok.hd f) (S,R) (by simp_all) λE P acc N keep e o=>(.ref s.heap.objs.size,_,I.laid keep (zq _) (show df X.prog X.w _ E _ (.lst (b.map (·.2)))from(by simp_all,acc.toList,N,?_,qe)),Y,q _ (I.cy.fresh (zq _)))
 refine Cc (by have G:acc.toList.length=acc.size:=by simp
               rw[AO,G,o.1,B]) λj v m h x=>?_
 rw[Array.getElem?_toList]at x;obtain⟨k,T⟩:=o.2 j m x;rw[zy]at h;cases t:b[j]? with
 |none=>rw[t]at h;cases h
 |some n=>
  rw[t]at h;simp at h;obtain⟨w,d,D⟩:=KV.get i t;rw[T]at d;simp at d
  rwa[←h,d.2]
def Le(m:X.calm=gl):cH X (.builtin nG) (λg H Q=>∃a b,g=[.ref a]/\Rd H a (.dK b)/\b.length<64/\(∀h∈b,∃i,h.1=Sum.inl i) /\
  ∀l(f:List Int),H l=J->f.Perm (b.map λh=>match h.1 with|Sum.inl i=>i|Sum.inr _=>0)->f.Pairwise (· <= ·)->Q (.ref l) (upd H l (.lst (f.map V.int)))):=by
 rintro C s ag H g us Q I r ⟨a,b,rfl,hd,ar,hk,q⟩;obtain⟨az,rfl,w⟩:=Bc r;cases w;obtain⟨aR,ab,vs,D,P⟩:=Ct I.cy hd;obtain⟨ep,z⟩:=P.dictAt;have v:=D.length;apply Calls.call_function_entry kind_sorted plain_sorted entry_sorted (args_sorted1 _);refine zp (zo (zp (W.kdu_collect (W.kdl_dict ab) (I.ok.hd m) z (by simp_all) λG tk acc keep F=>?_)))
 have b8:acc.toList.length=b.length:=by
  have R:acc.toList.length=acc.size:=by simp
  rw[R,F.1,v]
 refine zp (wpAny_newList ?_ (by simp_all))
 have A:IntsAre acc.toList (b.map λh=>match h.1 with|Sum.inl i=>i|Sum.inr _=>0):=by
  refine D3 (Cc (by simp_all) λj aC w' B n=>?_);rw[Array.getElem?_toList]at n;obtain⟨k,aM,ex,E⟩:=F.2 j w' n;rw[zy,zy]at B;cases M:b[j]? with
  |none=>rw[M]at B;cases B
  |some h=>
   rw[M]at B;simp at B;obtain⟨v2,t,_⟩:=KV.get D M;rw[ex]at t;simp at t;obtain⟨i,T⟩:=hk h (by grind);rw[t.1,T]at E;rw[←B,T];exact D8 E
 have S:Inv X C ag H {s with heap:=G,toks:=tk}:=I.kept keep;have p:(G.push {cls:=.type jH,data:=.seq acc.toList.toArray}).get? G.objs.size=U (seqObj jH acc.toList.toArray 0):=zM _ rfl;refine zp (zJ (wpAny_call_entry slot_list_sort (_,p,Y) entry_list_sort (list_sort_tree p A (by simp_all) λu d x N y=>(_,Y,zo (_,Y,?_))) (args_list_sort _)));have al:d.length=b.length:=by rw[N.length_eq,AO]
 refine(.ref G.objs.size,_,S.laid (o:=.lst (d.map V.int)) (λan o e=>?_) (zq _) (by simp_all,u.toList,?_),Y,q _ d (S.cy.fresh (zq _)) N y)
 .rw[sortedHeap_old (zw (lt_size e)) (lt_size (zV _ e))];exact zV _ e
 .obtain⟨c,as⟩:=sortedHeap_at p;exact(c,FW x,qe)
def Ds(f:X.calm=L):cH X (.builtin "all") (λc H Q=>∃(p:jr)(bs:List Bool),c=[.ref p]/\bZ X.K H p (bs.map V.bl)/\Q (.bl (bs.all id)) H):=by
 rintro C s ab H c us Q I r ⟨p,bs,rfl,G,q⟩;obtain⟨u,rfl,F⟩:=Bc r;cases F;obtain⟨a,D,pl,T⟩:=I.list G;have m:p<s.heap.objs.size:=by obtain⟨o,n,e,_⟩:=id pl;exact lt_size e
 have j:bs.length=a.length:=by have:=D.length;rwa[AO]at this
 refine call_all_walk (wpAny_pyIter_list pl.isList ((_,_,_,_,_,_,λi=>bs.getD i O,Y,Walks.list (A:=X.A.in1) (I.ok.hd f) _ p (zw m) a.toArray,((_,zM _ Y,Y,Y),pl.isList.at λo e=>zV _ e),λi v N g w R M=>?_,λS P keep=>?_)))
 .have E:a[i]?=U v:=by simpa using R
  have l:=(z8.mp E).1;have t:bs[i]?=U (bs[i]'(by lia)):=z7 (by lia);obtain⟨x,d,B⟩:=D.get (i:=i) (x:=V.bl (bs[i]'(by lia))) (by simp_all);rw[E]at d;cases d;cases (B);apply zX;have y:g (bs.getD i O) N:=M
  rwa[List.getD_eq_getElem?_getD,t]at y
 .refine(.bl _,H,I.kept λb o e=>keep b o (by simp;exact zw (lt_size e)) (zV _ e),Y,?_)
  have e:(List.range a.toArray.size).all (λi=>bs.getD i O)=bs.all id:=by
   rw[size_toArray,←j,Bool.eq_iff_iff,all_eq_true,all_eq_true];constructor
   .intro h b t;obtain⟨i,l,rfl⟩:=List.mem_iff_getElem.mp t;have:=h i (by grind)
    rwa[List.getD_eq_getElem?_getD,z7 l]at this
   .intro h i l;have z:=mem_range.mp l;rw[List.getD_eq_getElem?_getD,z7 z];exact h _ (by simp)
  rwa[e]
theorem Eu(a:List Int):∀k,k<=a.length->preSum (λi=>a.getD i 0) k=(a.take k).sum
 |0,_=>by rfl
 |k+1,h=>by
  have d:k<a.length:=by assumption
  simp only[preSum,Eu a k (by lia)];rw[zx,sum_append];simp[z7 d]
def Kn(f:il X):cH X (.builtin "sum") (λc H Q=>∃(p:jr)(d:List Int),c=[.ref p]/\bZ X.K H p (d.map V.int)/\(∀n∈d,0<=n)/\d.sum<2^62/\Q (.int d.sum) H):=by
 rintro x s an H c us Q I r ⟨p,d,rfl,S,z,N,q⟩;obtain⟨ag,rfl,R⟩:=Bc r;cases R;obtain⟨D,M,pl,hz⟩:=I.list S;have hp:p<s.heap.objs.size:=by obtain⟨o,n,e,_⟩:=id pl;exact lt_size e
 have A:d.length=D.length:=by have:=M.length;rwa[AO]at this
 have G:∀k,0<=(d.take k).sum:=λk=>by
  have:∀l:List Int,(∀n∈l,0<=n)->0<=l.sum:=λl=>by
   induction l with
   |nil=>simp
   |cons a r F=>intro h;rw[sum_cons];have:=h a zH;have:=F λn E=>h n (by grind);lia
  exact this _ λn E=>z n (by grind)
 have C:∀k,(d.take k).sum<=d.sum:=λk=>by
  have e:d.sum=(d.take k).sum+(d.drop k).sum:=by rw[←sum_append,List.take_append_drop]
  have:∀l:List Int,(∀n∈l,0<=n)->0<=l.sum:=λl=>by
   induction l with
   |nil=>simp
   |cons a r F=>intro h;rw[sum_cons];have:=h a zH;have:=F λn E=>h n (by grind);lia
  have:=this _ λn E=>z n (List.mem_of_mem_drop (i:=k) E)
  lia
 refine call_sum_walk (wpAny_pyIter_list pl.isList ?_);obtain⟨fp,St,W,m,P⟩:=Oa f I pl.isList;refine(_,_,_,_,_,_,λi=>d.getD i 0,Y,W,m,λb hb=>?_,λi v w=>?_,λj u=>?_,λh' tk T keep=>?_)
 .simp_all
 .have g:D[i]?=U v:=by simpa using w
  have hi:=(z8.mp g).1;obtain⟨u',B,t,ab⟩:=M.get (i:=i) (x:=V.int (d[i]'(by lia))) (by simp_all);rw[g]at B;cases B;refine(t,?_)
  simp_all
 .have y:j<d.length:=by rw[size_toArray]at u;lia
  rw[Eu d (j+1) (by lia)];have h2:=C (j+1);have h3:d.getD j 0=d[j]:=by rw[List.getD_eq_getElem?_getD,z7 y];rfl
  have h4:=z _ (List.getElem_mem y);have h5:(d.take (j+1)).sum=(d.take j).sum+d[j]:=by rw[zx,z7 y,sum_append];simp
  have h6:=G j;show InLong (d.getD j 0)/\InLong _;unfold InLong
  lia
 .refine(.int d.sum,H,I.kept λb o e=>keep b o (by simp;exact zw (lt_size e)) (zV _ e),(T,?_),q);rw[size_toArray,←A,Eu d d.length (zq _),zu]
def Sj(d:X.calm=L):cH X (.builtin "sum") (λb H Q=>∃(p:jr)(a:List Int),b=[.ref p]/\bZ X.K H p (a.map V.int)/\(∀n∈a,0<=n)/\a.sum<2^62/\Q (.int a.sum) H):=Kn (.inl d)
def Lf:MtR X "int.bit_length" (λx b H Q=>∃i,x=.int i/\b=[]/\Q (.int (Builtin.Int.intBits i)) H):=by
 rintro a s j H x b v h Q I e d ⟨i,rfl,rfl,q⟩;obtain⟨t,rfl⟩:=e;cases d;exact call_int_bit_length (.int _,H,I.tok _,(_,Y),q)
def B2:ee X (compareOp .LtE) (λx y H Q=>∃i j,x=.str i/\y=.str j/\Q (.bl (!decide (j.cps.toList<i.cps.toList))) H):=by
 rintro a s h H x y v u Q I e d ⟨i,j,rfl,rfl,q⟩;obtain⟨t,rfl⟩:=e;obtain⟨l,rfl⟩:=d;exact PySem.P.le_str (Av I q Y)
def KC:MtR X "dict.setdefault" (λx c H Q=>∃a b k v,x=.ref a/\c=[kV k,v]/\H a=U (.dK b)/\b.length<sizeLine /\
  (∀w,Ai b k=U w->Q w H)/\(Ai b k=J->Q v (upd H a (.dK (Bi b k v))))):=by
 rintro l s m H x c u R Q I G f ⟨a,b,k,v,rfl,rfl,r,M,q1,q2⟩;cases G;obtain⟨N,E,rfl,rk,p⟩:=Gj f;obtain⟨z,y,g,d,o⟩:=Pk I.cy r;refine call_meetsIn slot_dict_setdefault o.typeIs entry_dict_setdefault (args_dict_setdefault_3 _ _ _) (PySem.kt_meets_setdefault (Ac X.prog X.w) a (Et rk) y E) (g,o,by rw[←d.length];exact z,λS F=>?_,λt C i D=>?_)
 .have h:=d.val k;rw[F]at h;cases e:Ai b k with
  |none=>rw[e]at h;exact False.elim h
  |some w=>rw[e]at h;exact(w,H,I.tok _,h,q1 w e)
 .have h:=d.val k;rw[t]at h
  have e:Ai b k=J:=by
   cases e:Ai b k with
   |none=>rfl
   |some w=>rw[e]at h;trivial
  have B:∃q,C.get? a=U q:=let ⟨q,_,_,A,_⟩:=i;(q,A)
  have j:(Bi b k v).length<=sizeLine:=by have:=Cs b k v;lia
  exact(v,_,Gq I (by rw[r];exact True.intro) D B (Hj j y (d.put k p) i),p,q2 e)
def Mp:cH X (.builtin jR) (λc H Q=>∃v T t b,c=[v,.ty T]/\eh X.K H v t/\W.kitOne X.K t (.type T)=U b/\Q (.bl b) H):=by
 rintro d s o H c j Q I r ⟨v,T,t,b,rfl,ty,e,q⟩;obtain⟨u,l,rfl,i,a⟩:=Gj r;cases (a);exact KU I i ty e λh=>(.bl b,H,I.tok h,Y,q)
noncomputable def Mq(d:Int):List Int->Int
 | []=>d
 |n::r=>r.foldl max n
def Ko(d)(e)(n)(h:e≠ []):Mq d (e++[n])=max (Mq d e) n:=by
 cases e with
 |nil=>trivial
 |cons a r=>show(r++[n]).foldl max a=_;rw[List.foldl_append];rfl
def Qy(a v):argsOk oE ([a],[(Str.ofString oy,(v))]):=by rfl
noncomputable def WO:Option (Int×Tok)->Array Value
 |none=>#[]
 |some (m,t)=>#[.int m t,.int m t]
def Qz{s:PySem.Shared}{A}{R}{l}{a}(hh:A.handled=J)(ar:IntsAre l a)(aC:p≠I)(r:S≠I)(aM:p≠S)
  (hR:∀g f v,(∀b o,b≠I->b≠S->s.heap.get? b=U o->g.get? b=U o)->(a=[]->v=d)->(a≠ []->∃t,v=.int (Mq 0 a) t)->R (.ok (.ret v)) {s with heap:=g,toks:=f}):
  ∀k i h f c b,l.length-i=k->i<=l.length->h.IsListIter I p i->h.IsList p l.toArray->h.get? S=U {cls:=.type jH,data:=.seq (WO b) c} ->
   (b=J->i=0)->(∀m t,b=U (m,(t))->0<i/\m=Mq 0 (a.take i))->(∀E o,E≠I->E≠S->s.heap.get? E=U o->h.get? E=U o) ->
   codeAny (model aR a0) A (.builtin "max.loop" ([.ref I,.none,.ref S],[(Str.ofString oy,(d))])) R {s with heap:=h,toks:=f}:=by
 have a3:(toString oE ++ toString ".loop")="max.loop":=by decide
 have ck:=ar.length;intro k;induction k with
 |zero=>
  intro i h f c b hk hi Q w u y M keep;have e:i=l.length:=by lia
  apply codeAny_builtin entry_max_loop;refine zp (wpAny_seqItems u rfl (zp (wpAny_tryCatch (wpAny_pyNext_list_end (hh) Q w (by simp;lia) λg X=>?_))));cases b with
  |none=>
   have hn:a=[]:=by
    have:=y rfl;exact List.eq_nil_of_length_eq_zero (by lia)
   exact zp (wpAny_rule (zo (hR g f d (λb o D G q=>X b o D (keep b o D G q)) (λ_=>rfl) λz=>absurd hn z)))
  |some mt=>
   obtain⟨m,t⟩:=mt;obtain⟨as,hm⟩:=M m t rfl
   have F:a≠ []:=λz=>by
    simp_all
   refine zp (wpAny_updateSeq (X S _ r u) Y (zp (wpAny_letGo (zo (hR _ f _ (λb o D G q=>(zU _ _ (Ne.symm G)).trans (X b o D (keep b o D G q))) (λz=>absurd z F) λ_=>(t,?_))))) fb)
   simp_all
 |succ k ih=>
  intro i h f c b hk hi Q w u y M keep;have H:i<l.length:=by lia
  have hv:=z7 H
  obtain⟨n,t,hn,a4⟩:∃n t,a[i]?=U n/\l[i]=.int n t:=by
   have ig:i<a.length:=by lia
   obtain⟨a5,hu,t,ru⟩:=(FW ar).get (i:=i) (x:=V.int a[i]) (by simp_all);rw[hv]at hu;exact(a[i],t,z7 ig,(Option.some.inj hu).trans ru)
  apply codeAny_builtin entry_max_loop;refine zp (wpAny_seqItems u Y (zp (wpAny_tryCatch (wpAny_pyNext_list_item Q w (x:=.int n t) (by simp_all) λg ab sb=>?_))));have C:=(sb.2 S r).trans u;have ag:=w.at λo q=>(sb.2 p aC).trans q;have an:=λE o D G q=>(sb.2 E D).trans (keep E o D G q);have N:a.take (i+1)=a.take i++[n]:=by rw[zx,hn];rfl
  have B:∀P,(∀v,v=Value.int n t->(g.update S (Obj.mapSeq λ_=>#[v,v])).get? S=U {cls:=.type jH,data:=.seq (WO (U (n,(t)))) P})->n=Mq 0 (a.take (i+1)) ->
    codeAny (model aR a0) A (.builtin "max.loop" ([.ref I,.none,.ref S],[(Str.ofString oy,(d))])) R {s with heap:=g.update S (Obj.mapSeq λ_=>#[.int n t,.int n t]),toks:=f}:=λP e0 em=>
   ih (i+1) _ f P (U (n,(t))) (by lia) H (ab.at λo q=>(zU _ _ r).trans q) (ag.at λo q=>(zU _ _ (Ne.symm aM)).trans q) (e0 _ rfl) (λz=>by cases z)
    (λm t' z=>by cases z;lia) λE o D G q=>(zU _ _ (Ne.symm G)).trans (an E o D G q)
  cases b with
  |none=>
   have az:=y rfl;show wpAny _ A.in1 (updateSeq S (λ_=>#[Value.int n t,Value.int n t]) >>= _) _ _ _;refine zp (wpAny_updateSeq C Y (zo (plainId_quiet plain_max_loop _,B _ (λv e=>by subst e;exact get?_update_seq C λ_=>#[_,_]) ?_)));rw[N,az];rfl
  |some mt=>
   obtain⟨m,x⟩:=mt;obtain⟨as,hm⟩:=M m x rfl
   have F:a.take i≠ []:=λz=>by
    have:=congrArg List.length z;rw[zt,length_nil]at this
    lia
   show wpAny _ A.in1 (tryCatch (holding [Value.int n t,Value.int n t] (richCompare .Gt (.int n t) (.int m x) >>= _)) _ >>= _) _ _ _
   refine zp (wpAny_tryCatch (zJ (zp (CmpOf.ints_gt (P:=λi v=>(i=0/\v=.int n t)\/(i=1/\v=.int m x)) (λi=>if i=0 then n else m) (λi v h=>by
    rcases h with⟨rfl,rfl⟩|⟨rfl,rfl⟩
    .simp
    simp) 0 1 _ _ _ _ _ (.inl (rfl,rfl)) (.inr (rfl,rfl)) ?_))))
   refine zp (zJ (zX (zp (wpAny_letGo (zo ?_)))));by_cases al:n>m
   .have T:(λ(i j:Nat)=>decide ((if i=0 then n else m)>if j=0 then n else m)) 0 1=gl:=zK al;rw[T];refine zp (wpAny_updateSeq C Y (zp (wpAny_letGo (zo (plainId_quiet plain_max_loop _,B _ (λv e=>by subst e;exact get?_update_seq C λ_=>#[_,_]) ?_)))) fb);rw[N,Ko 0 _ n F,←hm]
    lia
   .have T:(λ(i j:Nat)=>decide ((if i=0 then n else m)>if j=0 then n else m)) 0 1=gt:=zN al;rw[T];refine zp (wpAny_letGo ?_)
    refine zo (plainId_quiet plain_max_loop _,ih (i+1) _ f c (U (m,(x))) (by lia) H ab ag C (λz=>by cases z) (λm' t' z=>by
     cases z;refine(Nat.succ_pos _,?_);rw[N,Ko 0 _ n F,←hm]
     lia) an)
def Pq(hc:X.calm=gl)(hg:Gl X oE)(hm:X.mg oE=J)(he:PE X e te)(G:PE X c N)(hs:starEach [e] X.env=(O,(eval e X.env))::starEach [] X.env:=by rfl)
  (A:backTo g (starEach [e] X.env)=(O,(eval e X.env))::backTo g (starEach [] X.env):=by rfl):
  PE X (.Call (.Name oE as) [e] [(U oy,c,kp)] g) (λf H Q=>te f H λx r=>N f r λy i=>∃(a:jr)(j:List Int)(d:Int),x=.ref a/\y=.int d/\bZ X.K i a (j.map V.int)/\(j=[]->Q (.int d) i)/\(j≠ []->Q (.int (Mq 0 j)) i)):=by
 intro l s f H Q I h;refine z0 (Fm I hg hm boot_max ?_)
 let S:V->V->Hp->Prop:=λx y i=>∃(a:jr)(j:List Int)(d:Int),x=.ref a/\y=.int d/\bZ X.K i a (j.map V.int)/\(j=[]->Q (.int d) i)/\(j≠ []->Q (.int (Mq 0 j)) i)
 refine callWith_kw (cA (AA he AG hs g l s f H (λC r=>match C with| [x]=>N f r (λy i=>S x y i)|_=>False) I h) λus s1 k=>?_) A (by rw[A];rfl);obtain⟨C,r,p,F,q1⟩:=k
 match C,F,q1 with
 | [x],F,q1=>
  refine cA ((Pf (nm:=U oy) (kpos:=kp) G SL) g l s1 f r (λC i=>match C with| [y]=>S x y i|_=>False) p q1) λal B zz=>?_;obtain⟨u,i,R,m,q2⟩:=zz
  match u,m,q2 with
  | [y],m,q2=>
   obtain⟨a,j,d,rfl,rfl,z,k1,w⟩:=q2;obtain⟨az,rfl,v⟩:=Bc F;cases v;obtain⟨ud,rfl,td,M⟩:=Bc m;subst M;obtain⟨bc,rv,pl,hz⟩:=R.list z;have hp:a<B.heap.objs.size:=by obtain⟨o,ar,e,_⟩:=id pl;exact lt_size e
   apply PyProof.Rows.kmk_tree kind_max plain_max entry_max (Qy _ _);refine zp (wpAny_of_eq (Y) (zp (zo ?_)));refine zp (wpAny_pyIter_list pl.isList (zp (wpAny_newList ?_ (Nat.zero_le _))));have ag:(toString oE ++ toString ".loop")="max.loop":=by decide
   have hS:(B.heap.push {cls:=.type mr,data:=.fields #[.ref a,.int 0 0]}).objs.size=B.heap.objs.size+1:=Heap.size_push ..
   refine zo (plainId_quiet plain_max_loop _,Qz (s:=B) (I.ok.hd hc) (D3 rv) (zw hp) (by simp_all) (by grind)
    (λh' tk aC keep E P=>?_) _ 0 _ _ 0 J rfl (Nat.zero_le _) (_,zV _ (zM _ rfl),rfl,rfl) (pl.isList.at λo q=>zV _ (zV _ q)) (zM _ rfl) (λ_=>rfl) (λan t ab=>by cases ab) λb o h1 h2 q=>zV _ (zV _ q))
   have n:Inv X l f i {B with heap:=h',toks:=tk}:=R.kept λb o q=>keep b o (zw (lt_size q)) (by rw[hS];exact zw (Nat.lt_succ_of_lt (lt_size q))) q;by_cases D:j=[]
   .rw[E D];exact(.int d,i,n,(td,Y),k1 D)
   .obtain⟨t,T⟩:=P D;rw[T];exact(.int _,i,n,(t,Y),w D)
def bV(H:Hp):List jr->List (V×V)->Prop:=Paired λb p=>H b=U (.tup [p.1,p.2])
def bV.same(s:∀b o,H b=U o->a b=U o)(h:bV H c d):bV a c d:=Paired.mapP h λ_ _ e=>s _ _ e
def Inv.trackTups(t:Paired (λa p=>∃i,Vals [p.1,p.2] i/\IsTup s.heap a i.toArray) o r):∀H,Inv X d f H s->o.Pairwise (· < ·) ->
  (∀a∈o,H a=J/\a≠X.env.locals/\X.cG.heap.objs.size<=a/\(∀x c,X.env.cells.lookup x=U c->c≠a)/\∀q∈X.pn++d,q.1≠a)->∃j,Inv X d f j s/\bD H j/\bV j o r:=by
 induction t with
 |nil=>intro H I _ _;exact(H,I,bD.refl H,.nil)
 | @cons a p o r h t A=>
  intro H I m l;obtain⟨i,M,ht⟩:=h;obtain⟨Q,D⟩:=pairwise_cons.mp m;obtain⟨y,N,C,B,z⟩:=l a zH;have E:Inv X d f (upd H a (.tup [p.1,p.2])) s:=I.track y N (.inr C) B z (by show 2<=sizeLine;decide,i,M,ht);have g:bD H (upd H a (.tup [p.1,p.2])):=λb u e=>by rwa[AE (AK e y)]
  obtain⟨j,F,v,G⟩:=A _ E D (λb n=>by
   obtain⟨q1,q2⟩:=l b (by simp_all)
   exact(by rw[AE (by grind)];exact q1,q2))
  exact(j,F,g.trans v,.cons (v _ _ bA) G)
def Od(m:X.calm=gl):cH X (.type jH) (λg H Q=>∃p a f,g=[.ref p]/\H p=U (Pp a p)/\Rd H a (.dK f) /\
  ∀l d o,bD H o->H l=J->o l=U (.lst (d.map V.ref))->bV o d (f.map λt=>(kV t.1,(t.2)))->Q (.ref l) o):=by
 rintro A s an H g us Q I ag ⟨p,a,f,rfl,hp,hd,ab⟩;obtain⟨u,rfl,y⟩:=Bc ag;cases y;obtain⟨aM,aC,vs,E,R⟩:=Ct I.cy hd;obtain⟨ep,P⟩:=R.dictAt;obtain⟨hv,_⟩:=I.cy p _ hp;have hl:=E.length;refine W.kdx_call (I.ok.hd m) hv P (by lia) λS tk acc c d keep e ar G D=>?_;obtain⟨q,z,n3,n4,x⟩:=I.newOk (zq s.heap.objs.size);have el:acc=(d.map Value.ref).toArray:=by rw[←D]
 have v:Inv X A an (upd H s.heap.objs.size (.lst (d.map V.ref))) {s with heap:=S,toks:=tk}:=(I.kept keep).track q z (.inr n3) n4 x (by simp_all,d.map Value.ref,c,Cc (by simp_all) λj az w' C n=>by
  rw[zy]at C n;cases F:d[j]? with
  |none=>rw[F]at C;cases C
  |some b=>rw[F]at C n;cases C;cases n;rfl,by simp_all)
 have M:Paired (λa p=>∃B,Vals [p.1,p.2] B/\IsTup S a B.toArray) d (f.map λt=>(kV t.1,(t.2))):=(Cc (by simp_all) λj b pr eb i=>by
   obtain⟨N,k,al,ex,hk,ho⟩:=G.pairs j b eb;rw[zy]at i;cases F:f[j]? with
   |none=>simp_all
   |some t=>
    rw[F]at i;simp at i;obtain⟨v2,h,as⟩:=KV.get E F;rw[ex]at h;simp at h;subst i;refine([N,al],.cons ?_ (.cons ?_ .nil),_,ho,Y,_,Y)
    .rw[←h.1];exact D8 hk
    .rwa[h.2])
 obtain⟨o,r,T,t'⟩:=Inv.trackTups M _ v G.rise (λb hb=>by
   have w:=G.above b hb;obtain⟨m1,m2,m3,m4,m5⟩:=I.newOk (Nat.le_of_lt w)
   exact(by rw[AE (by grind)];exact m1,m2,m3,m4,m5))
 exact(.ref s.heap.objs.size,o,r,Y,ab _ d o (λb u e=>T b u (by rwa[AE (AK e q)])) q (T _ _ bA) t')
mutual
def Ba(c:FG)(H:Hp):PyData->V->Prop
 |.none,v=>v=.bQ
 |.bool b,v=>v=.bl b
 |.int i,v=>v=.int i
 |.str x,v=>v=.str x
 |.list e,v=>∃a d,v=.ref a/\bZ c H a d/\Bd c H e d
 |.tuple e,v=>∃a d,v=.ref a/\cD c H a d/\Bd c H e d
 |.dict _,_=>False
def Bd(a:FG)(H:Hp):List PyData->jq->Prop
 | [],b=>b=[]
 |d::ds,b=>∃x r,b=x::r/\Ba a H d x/\Bd a H ds r
end
mutual
theorem Inv.reads(I:Inv X f g H s):∀d v u,RelV v u->Ba X.K H d v->∃p,Reads s.heap u d p
 |.none,v,u,r,h=>by
  have e:v=.bQ:=by simpa[Ba]using h
  subst e;cases r;exact(_,.none)
 |.bool b,v,u,r,h=>by
  have e:v=.bl b:=by simpa[Ba]using h
  subst e;cases r;exact(_,.bool b)
 |.int i,v,u,r,h=>by
  have e:v=.int i:=by simpa[Ba]using h
  subst e;obtain⟨t,rfl⟩:=r;exact(_,.int i t)
 |.str x,v,u,r,h=>by
  have e:v=.str x:=by simpa[Ba]using h
  subst e;obtain⟨t,rfl⟩:=r;exact(_,.str x t)
 |.list A,v,u,r,h=>by
  obtain⟨a,C,rfl,l,B⟩:=h;cases r;obtain⟨j,z,⟨o,n,e,c,_,y⟩,_⟩:=I.list l;obtain⟨p,q⟩:=I.readsAll A C j z B;exact(_,.list e c y (by simpa using q))
 |.tuple A,v,u,r,h=>by
  obtain⟨a,C,rfl,l,B⟩:=h;cases r;obtain⟨j,z,⟨o,e,c,n,y⟩,_⟩:=I.tuple l;obtain⟨p,q⟩:=I.readsAll A C j z B;exact(_,.tuple e c y (by simpa using q))
 |.dict D,v,u,r,h=>by
  trivial
theorem Inv.readsAll(I:Inv X f g H s):∀b c a,Vals c a->Bd X.K H b c->∃e,ReadsAll s.heap a b e
 | [],c,a,r,h=>by
  subst (by simpa[Bd]using h);cases r;exact(_,.nil)
 |d::b,c,a,r,h=>by
  obtain⟨x,j,rfl,o,t⟩:=h;cases r with
  |cons p q=>
   obtain⟨e,l⟩:=I.reads d x _ p o;obtain⟨bs,i⟩:=I.readsAll b j _ q t;exact(_,.cons l i)
end
def Sk(b)(r:X.K=b)(A:X.A.units+64<cLine):ee X (compareOp .Eq) (λx y H Q=>∃a d,Ba b H a x/\Ba b H d y/\SeqAt.shaped a=L/\SeqAt.shaped d=L/\Q (.bl (PyData.eqv a d)) H):=by
 subst r;rintro e s C H x y v u Q I p j ⟨a,d,h,z,o,i,q⟩;obtain⟨B,l⟩:=I.reads a x v p h;obtain⟨bs,t⟩:=I.reads d y u j z;exact eq_dataH l t o i A (.bl _,H,I,Y,q)
def Ew(b)(r:X.K=b)(A:X.A.units+64<cLine):ee X (compareOp .NotEq) (λx y H Q=>∃a d,Ba b H a x/\Ba b H d y/\SeqAt.shaped a=L/\SeqAt.shaped d=L/\Q (.bl (!PyData.eqv a d)) H):=by
 subst r;rintro e s C H x y v u Q I p j ⟨a,d,h,z,o,i,q⟩;obtain⟨B,l⟩:=I.reads a x v p h;obtain⟨bs,t⟩:=I.reads d y u j z;exact ne_dataH l t o i A (.bl _,H,I,Y,q)
def XA(c)(z:X.K=c)(C:X.A.units+64<cLine):ee X (compareOp .Eq) (λx y H Q=>∃(a b:jr)(d e:List Int),x=.ref a/\y=.ref b/\bZ c H a (d.map V.int)/\bZ c H b (e.map V.int)/\Q (.bl (decide (d=e))) H):=by
 subst z;rintro h s E H x y v u Q I t l ⟨a,b,d,e,rfl,rfl,i,B,q⟩;cases t;cases l;obtain⟨D,o,j,_⟩:=I.list i;obtain⟨r,A,p,_⟩:=I.list B;exact W.ke_eq_ints j.isList p.isList (D3 o) (D3 A) C (.bl _,H,I,Y,q)
def Mr(F:bH X.prog X.w X.K X.mg X.base cF k f c [jt] g)(z:bJ (k+1) X.A)(p:Binds X.K c [jt] [])(i:OP X.K C oz f):
  cH X (.builtin "len") (λb H Q=>∃a l fs,b=[.ref a]/\H a=U (.ins C l fs)/\g [.ref a] H (λv h=>∃n:Nat,v=.int (n)/\n<2^62/\Q (.int (n:Int)) h) E0):=by
 rintro j s R H b S Q I r ⟨a,l,fs,rfl,y,q⟩;obtain⟨u,rfl,o⟩:=Bc r;cases o;obtain⟨m,x⟩:=I.fr;obtain⟨N,w,_⟩:=D1 I.cy y;obtain⟨T,A,_⟩:=w.look;apply W.len_K x I.mod.kin A i.at_ i.fn;refine wpAny_call (codeAny_mono (F.run X.A.in1 X.stack s H ([.ref a],[]) [.ref a] [.ref a] _ E0 z.in1 I.gp.in1 (p s [.ref a] I.dZ rfl) (.cons rfl .nil) q) λP ab d=>?_);cases P with
 |error e=>exact d.elim
 |ok fl=>
  cases fl with
  |ret u=>
   obtain⟨v,h,B,D,n,E,M,G⟩:=I.after d;subst E;obtain⟨t,rfl⟩:=D;exact((zY _,by lia),.int n,h,B.tok _,(_,Y),G)
  |next=>exact False.elim d
  |brk=>exact False.elim d
  |cont=>exact False.elim d
def XB(C:jr)(b:Sp)(a:jq->jq->jq)(E:XK)(t c:TA):TE:=λf H Q=>t f H λi g=>c f g λj e=>∀x d,e x=J->e d=J->d≠x ->
 b (a (.ref x::i) j) (upd (upd e d (.own x)) x (.ins C d [])) (λv h=>v=.bQ/\Q (.ref x) h) E
def Sm(M:Mk X.K C f)(F:bH X.prog X.w X.K X.mg X.base cF k f t r sp)(w:bJ (k+1) X.A)(u:Gl X x)(v:X.mg x=eq (.ref C))(n:OU X.K t r c g p)
  (s:PA X (e::m) ar) (E:PK X d tk) (l:(backToKw b (keywordEach d X.env)).all (·.1.isSome)=gl:=by rfl) (A:(backToKw b (keywordEach d X.env)).filterMap (·.1)=c:=by rfl)
  (B:fQ x:=by decide) (T:gj X e m:=by rfl)
  (G:((backTo b (starEach (e::m) X.env)).any (·.1)||(backToKw b (keywordEach d X.env)).any (·.1.isNone))=gt:=by rfl):
  PE X (.Call (.Name x az) (e::m) d b) (XB C sp p E0 ar tk):=by
 intro i an N H as I h;refine z0 (CA I u v (W.callWith_KW I.ok.mod.kin M.kp l (cA (s b i an N H _ I h) λz s1 zz=>?_) G T) B);obtain⟨vs,S,I1,al,q⟩:=zz;refine cA (E b i s1 N S _ I1 q) λo j ⟨ag,H2,y,ab,q2⟩=>(y.dZ,?_);rw[A];have P:=q2 (j.heap.objs.size+1) j.heap.objs.size (y.cy.fresh (Nat.le_succ _)) (y.cy.fresh (zq _)) (by simp);have D:=Inv.made (C:=C) y;have Q:Vals (p (V.ref (j.heap.objs.size+1)::vs) ag) (g (Value.ref (j.heap.objs.size+1)::z) o):=n.rel (.cons rfl al) ab;have R:(g (Value.ref (j.heap.objs.size+1)::z) o).length=r.length:=by rw[←Q.length];exact F.len _ _ _ _ P
 refine wpAny_call (Md y.dZ M.makes M.init (beq_iff_eq.mp M.fn) (codeAny_mono (F.run _ X.stack _ _ (Value.ref (j.heap.objs.size+1)::z,c.zip o) _ _ _ E0 (w.make C z (c.zip o)) (D.gp.make C z (c.zip o)) (n.to _ _ _ D.dZ R) Q P) λr' s' a=>?_));cases r' with
 |error e=>exact a.elim
 |ok fl=>
  cases fl with
  |ret aC=>
   obtain⟨aM,H',I4,rv,ev,q3⟩:=D.after a;subst ev;exact(rv,(V.ref (j.heap.objs.size+1),H',I4,zd,q3))
  |next=>exact False.elim a
  |brk=>exact False.elim a
  |cont=>exact False.elim a
def Z6(i j:Int):Prop:=Builtin.Int.intBits i<=2^20/\Builtin.Int.intBits j<=2^20
def Lg:ee X (binaryOp .Mult) (rI Z6 λi j=>.int (i*j)):=i5 λ_ _ _ _ _ _ _ a q=>mul_int q (IntMulOk.of_bits a.1 a.2)
def YW(i j:Int):Prop:=0<j/\Builtin.divisionGoesByPylong i j=O
def Ms:ee X (binaryOp .FloorDiv) (rI YW λi j=>.int (i/j)):=i5 λi j _ _ _ _ _ a q=>by
 have d:=a.1;exact floordiv_int (by lia) (by rwa[Int.fdiv_eq_ediv_of_nonneg i (by lia)]) (.inl a.2)
def Lh(X:f.In s.heap)(I:W.InstAt s.heap x i C g)(c:W.findIn f (.ref C) oh=U (U (.builtin kB)))
  (h:wpAny M A (call (.builtin kB) (.ref x::b)) (λv=>Q (U v)) E s):wpAny M A (callSpecialIfBound? (.ref x) oh b) Q E s:=by
 refine zJ (zp (zp (zp (I.type.here ((W.looks_findIn X c).here (zp (wpAny_askSetting (wpAny_ite ?_))))))));have a:=zp (zn h (λv e d=>zo d) λ_ _ d=>d);split
 .exact zp (zo (zo a))
 .exact wpAny_tryCatch (zp (zo (zo a)))
def Mu(p:A.units+1<cLine)(X:c.In s.heap)(I:W.InstAt s.heap x q C m)(l:W.mroIn c C (.type lC)=U L)(a:W.findIn c (.ref C) oj=U (U (.ref f)))(o:W.isFn c (.ref f)=L)
    (h:wpAny (model g w) A.in1 (call (.ref f) [.ref x,.ref y]) (λv j=>∃b,v=.bool b/\Q (.bool (!b)) j) E s):wpAny (model g w) A (call (.builtin kB) [.ref x,.ref y]) Q E s:=by
  refine wpAny_call (codeAny_call_builtin cmp_object.ne.plain cmpEntry_ne (W.check_slot (i:=kB) (by rfl) (by rfl) (I.type.andThen (W.looks_mroIn X l)) (cmpArgs_ne _ _) ?_))
  repeat (first
    |with_reducible refine wpAny_cRoomFor (by show A.in1.units<cLine;exact p) ?_
    | (refine zp
        (W.ifBound_K X I a o (zn h (λr j a=>by
          obtain⟨b,rfl,d⟩:=a
          repeat (first|exact d|exact(_,rfl,d)|exact zo (_,rfl,d)| (refine zp (zX ?_))|wp_step)) λ_ _ e=>e)))
    |wp_step)
def XC(t:A.units+1<cLine)(X:c.In s.heap)(I:W.InstAt s.heap x B C n)(m:W.InstAt s.heap y u C p)(j:W.mroIn c C (.type lC)=U L)
  (q:W.findIn c (.ref C) oh=U (U (.builtin kB))) (i:W.findIn c (.ref C) oj=U (U (.ref f))) (o:W.isFn c (.ref f)=L)
  (h:wpAny (model g w) A.in1 (call (.ref f) [.ref x,.ref y]) (λv a=>∃b,v=.bool b/\Q (.bool (!b)) a) E s):wpAny (model g w) A (compareOp .NotEq (.ref x) (.ref y)) Q E s:=by
 show wpAny _ _ (richCompare .NotEq (.ref x) (.ref y)) _ _ _
 have one:wpAny (model g w) A (tryCompare (.ref x) (cmpInfo .NotEq).2.1 (.ref y)) (λr a=>∃v,r=U v/\Q v a) E s:=by
  refine zp (Lh X I q (Mu t X I j i o (zn h (λv a l=>?_) λ_ _ e=>e)));obtain⟨b,rfl,d⟩:=l;exact(b,Y,zo (_,Y,d))
 refine zJ (zp (wpAny_cRoomFor (by lia) (zp (I.type.here (zp (m.type.here ?_))))));rw[zh (by simp)];refine zp (zo (zp (zn one (λr a z=>?_) λ_ _ e=>e)));obtain⟨v,rfl,d⟩:=z;exact zo d
def YX(c:Sp)(a b:jr)(H:Hp)(Q:VK):Prop:=c [.ref a,.ref b] H (λv d=>∃t,v=.bl t/\Q (.bl t) d) E0
def XD(F:bH X.prog X.w X.K X.mg X.base cF k f g [jt,kf] m)(j:bJ k A)(q:fg X.prog X.w X.K X.mg X.base A X.stack s H)(o:Binds X.K g [jt,kf] [])(I:Inv X c n H s)(h:YX m a b H Q):
  wpAny (model X.prog X.w) A (call (.ref f) [.ref a,.ref b]) (λv i=>∃t,v=.bool t/\EP X c n Q (.bool t) i) E s:=by
 refine wpAny_call (codeAny_mono (F.run A X.stack s H ([.ref a,.ref b],[]) [.ref a,.ref b] [.ref a,.ref b] _ E0 j q (o s [.ref a,.ref b] I.dZ rfl) (.cons rfl (.cons rfl .nil)) h) λy i d=>?_);cases y with
 |error e=>exact d.elim
 |ok fl=>
  cases fl with
  |ret u=>
   obtain⟨v,p,l,r,t,x,z⟩:=I.after d;subst x;cases r;exact(t,Y,.bl t,p,l,Y,z)
  |next=>exact False.elim d
  |brk=>exact False.elim d
  |cont=>exact False.elim d
def Sn(F:bH X.prog X.w X.K X.mg X.base cF k f c [jt,kf] g)(i:bJ (k+1) X.A)(z:Binds X.K c [jt,kf] [])(j:OP X.K C oj f)(A:W.findIn X.K (.ref C) oh=U (U (.builtin kB)))(D:W.mroIn X.K C (.type lC)=U L):
  ee X (compareOp .NotEq) (λx y H Q=>∃a o fs b p h,x=.ref a/\y=.ref b/\H a=U (.ins C o fs)/\H b=U (.ins C p h)/\YX g a b H (λv d=>∃t,v=.bl t/\Q (.bl (!t)) d)):=by
 rintro l s al H x y v ag Q I u G ⟨a,o,fs,b,p,h,rfl,rfl,B,R,q⟩;cases u;cases G;obtain⟨P,T,_⟩:=D1 I.cy B;obtain⟨od,m,_⟩:=T.look;obtain⟨ab,N,_⟩:=D1 I.cy R;obtain⟨r,ib,_⟩:=N.look;refine XC (Nat.lt_of_le_of_lt (Nat.add_le_add_left qc _) i.units) I.dZ m ib D A j.at_ j.fn (cA (XD (E:=X.xe) F i.in1 I.gp.in1 z I q) λv s' S=>?_);obtain⟨t,rfl,w,d,n,M,t',e,q⟩:=S;subst e;cases M;exact(t,Y,.bl _,d,n,Y,q)
def JR(g)(w:X.K=g):cH X (.builtin jR) (λf H Q=>∃a p b,f=[.ref a,.ref p]/\(H a=U (.lst b)\/H a=U (.tup b))/\cD g H p [.ty jH,.ty jN]/\Q (.bl L) H):=by
 subst w;rintro h s F H f T Q I r ⟨a,p,b,rfl,d,G,q⟩;obtain⟨u,S,rfl,x,l⟩:=Gj r;cases x;cases l;obtain⟨t,D,⟨o,e,c,n,C⟩,_⟩:=I.tuple G;obtain⟨gW,N,A,E⟩:=o;subst c;subst C
 have y:t=[Value.type jH,Value.type jN]:=by
  cases D with
  |cons B P=>
   cases P with
   |cons r3 M=>
    cases M;cases (B);cases (r3);rfl
 subst y;have i:∀v,EP X h F Q (.bool L) {s with toks:=v}:=λv=>(.bl L,H,I.tok v,rfl,q);rcases d with d|d
 .obtain⟨_,_,m,_,j⟩:=(I.cy a _ d);exact W.kia_tup W.kitx_list I.dZ (_,j,rfl) e rfl (λz=>nomatch z) i
 .obtain⟨_,_,_,R⟩:=(I.cy a _ d);obtain⟨o,j,ab,_⟩:=R;exact W.kia_tup W.kitx_tuple I.dZ (o,j,ab) e rfl (λz=>nomatch z) i
structure JS(fs:List jr)(e:jr)(oe:Obj)(vs:Array Value)(old:jr->Prop)(h h':Heap):Prop where
 tb:∃T oT ts,h.objs.size<=T/\h'.get? T=U oT/\oT.data=.fields ts/\ts[3]?=U .none/\h'.get? e=U {oe with data:=.fields (vs.setIfInBounds 1 (.ref T))}
 keep:∀b o,h.get? b=U o->b≠e->¬ old b->b∉ fs->h'.get? b=U o
 slot:∀b o,h.get? b=U o->b≠e->¬ old b->b∈fs->∃sl,h'.get? b=U {o with slots:=sl}
 there:∀b o,h.get? b=U o->∃a,h'.get? b=U a
def DN(a:o.data=.fields b)(f):Obj.mapFields f o={o with data:=.fields (f b)}:=by
 obtain⟨c,d,e,sl⟩:=o;cases a;rfl
def Kq{h:PySem.Heap}{f}(e:∀o,h.get? a=U o->(f o).isFreed=O):∀o,h.get? b=U o->∃i,(h.update a f).get? b=U i:=λo d=>by
 by_cases q:b=a
 .subst q;exact(_,zS f d (e o d))
 .exact(o,(zU _ _ (Ne.symm q)).trans d)
def Pr        
  (hfr:A.frames=U (d::f)) (G:s.heap.FunFrames ar (d::f)) (x:d.frame=U c) (R:s.heap.get? e=U n) (D:n.data=.fields w) (r:1<w.size)
  (h:∀m,JS (dj (d::f)) e n w (λ_=>False) s.heap m->Q () {s with heap:=m}):
  wpAny M A (do let a ←frameOf d;let pl ←entryPlaceOf c az;let b ←EntryCells.newEntry y a .none (rawInt c) .none pl;setField (.ref e) 1 b) (λ_ T=>wpAny M A (setFlight (.ref e) J) Q E T) E s:=by
 have p:e∉ dj (d::f):=λS=>by
  obtain⟨_,o,an,al⟩:=G.mem S
  simp_all
 refine zp (wpAny_frameOf_fun hfr G x λi v=>zp (wpAny_entryPlaceOf λpl C=>zp (wpAny_newObj_type ?_ (C.sizeOk5 _ _ _ _ _))));generalize z:([y,Value.ref c,.none,rawInt c,.none]++(if pl.isEmpty then List.replicate 6 Value.none else pl)).toArray=P;have u:3<P.size:=by rw[←z];simp only[size_toArray,zG,length_cons];lia
 have ag:=(v.2.1 e p).trans R;have N:=zV (.type lV,J,.fields P,#[]) ag;apply wpAny_setField N D r;have F:=Nat.ne_of_gt (lt_size ag);have I:=Obj.data_mapFields D (·.setIfInBounds 1 (Value.ref i.objs.size));have B:=zS (Obj.mapFields (·.setIfInBounds 1 (Value.ref i.objs.size))) N (Obj.isFreed_of_fields I);have t3:=(zU (i.push (.type lV,J,.fields P,#[])) (Obj.mapFields (·.setIfInBounds 1 (Value.ref i.objs.size))) (Ne.symm F)).trans (zM i rfl);refine zp (wpAny_field B I (x:=.ref i.objs.size) (by simp[r]) (wpAny_setField t3 Y u (h _ ?_)))
 have l:∀b o,b≠e->i.get? b=U o->∀g,(((i.push (.type lV,J,.fields P,#[])).update e (Obj.mapFields (·.setIfInBounds 1 (Value.ref i.objs.size)))).update i.objs.size g).get? b=U o:=λb o j t g=>by
  rw[zU _ _ (Nat.ne_of_gt (lt_size t)),zU _ _ (Ne.symm j)];exact zV _ t
 refine((i.objs.size,_,_,Nat.le_of_eq v.1.symm,zS _ t3 (Obj.isFreed_of_fields (Obj.data_mapFields Y _)),Obj.data_mapFields Y _,by simp[u],?_),λb o j H _ ab=>?_,λb o j H _ ab=>?_,λb o j=>?_)
 .rw[zU _ _ F,B,DN D]
 .exact l b o H ((v.2.1 b ab).trans j) _
 .obtain⟨sl,X⟩:=v.2.2 b o j
  simp[*]
 .obtain⟨sl,X⟩:=v.2.2 b o j;by_cases q:b=e
  .subst q;exact(_,(zU _ _ F).trans B)
  simp[*]
def Mv      
  (m:A.frames=U (a::f)) (o:s.heap.FunFrames p (a::f)) (i:a.frame=U n) (l:s.heap.get? e=U c) (d:c.data=.fields g) (j:g[1]?=U .none)
  (h:∀b,JS (dj (a::f)) e c g (λ_=>False) s.heap b->Q () {s with heap:=b}):wpAny M A (leaving a (.ref e)) Q E s:=by
 unfold leaving noteFrame;simp only[i];exact zp (zp (wpAny_field l d j (Pr m o i l d (z9.mp j).1 h)))
def Kr      
  (g:A.frames=U (d::n)) (N:s.heap.FunFrames an (d::n)) (I:d.frame=U P) (D:s.heap.get? e=U m) (G:m.data=.fields f) (B:f[1]?=U (.ref T)) (v:T≠e)
  (j:s.heap.get? T=U q) (i:q.data=.fields w) (H:w[3]?=U .none)
  (h:∀c,JS (dj (d::n)) e m f (·=T) s.heap c->Q () {s with heap:=c}):wpAny M A (noteFrame (.ref e) d) (λ_ R=>wpAny M A (setFlight (.ref e) J) Q E R) E s:=by
 unfold noteFrame;simp[I];refine zp (wpAny_field D G B ?_);refine zp (wpAny_field j i H (zp (wpAny_setField j i (z9.mp H).1 ?_)));have fv:∀b,b≠T->(s.heap.update T (Obj.mapFields (·.setIfInBounds 3 Value.none))).get? b=s.heap.get? b:=λb a=>zU _ _ (Ne.symm a)
 have ag:∀b o,s.heap.get? b=U o->(∀f,o.data≠ .fields f)->b≠T:=λb o a C ar=>by
  simp_all
 refine Pr (hfr:=g) (N.of_keeps λb o a C=>(o,(fv b (ag b o a C)).trans a,Y)) I ((fv e (Ne.symm v)).trans D) G (z9.mp B).1 λc x=>h c ?_
 have fr:∀o,s.heap.get? T=U o->(Obj.mapFields (·.setIfInBounds 3 Value.none) o).isFreed=O:=λo F=>by
  rw[j]at F;cases F;exact Obj.isFreed_of_fields (Obj.data_mapFields i _)
 obtain⟨S,r,y,al,X⟩:=x.tb;refine((S,r,y,by simp_all,X),λb o a p l u=>x.keep b o ((fv b l).trans a) p (λz=>z) u,λb o a p l u=>x.slot b o ((fv b l).trans a) p (λz=>z) u,λb o a=>?_);obtain⟨ab,t⟩:=Kq fr o a;exact x.there b ab t
def Oe      
  (m:A.frames=U (a::f)) (o:s.heap.FunFrames w (a::f)) (q:a.frame=U v) (t:s.heap.get? e=U c) (j:c.data=.fields g) (r:g[1]?=U (.ref T)) (d:T≠e)
  (l:s.heap.get? T=U n) (i:n.data=.fields u) (p:u[3]?=U .none)
  (h:∀b,JS (dj (a::f)) e c g (·=T) s.heap b->Q () {s with heap:=b}):wpAny M A (leaving a (.ref e)) Q E s:=by
 exact zp (Kr m o q t j r d l i p h)
noncomputable def Fw(e C:jr)(a:Option jr):HO:=.ext λh=>∃b c,h.get? e=U b/\b.cls=.ref C/\b.dict=a/\b.data=.fields c/\5<c.size/\c[2]?=U .none
structure So(P:Program)(w:World)(l:List Env)(H:Hp)(s:js)(e C:jr)(dx:Option jr)(H':Hp)(s':js):Prop where
 os:s'.os=s.os
 bare:AllBare s'.gens
 un:Un (dj l) [] H H' s.heap s'.heap
 cy:eA P w H' s'.heap
 at_:H' e=U (Fw e C dx)
def Tb0(e:jr)(a:js):Prop:=∃b c,a.heap.get? e=U b/\b.data=.fields c/\c[1]?=U .none
def iE(e:jr)(b:Hp)(s a:js)(fl:Value):Prop:=∃d g T c f,a.heap.get? e=U d/\d.data=.fields g/\g[1]?=U (.ref T)/\T≠e/\a.heap.get? T=U c/\c.data=.fields f/\f[3]?=U fl/\b T=J/\s.heap.get? T=J
def iW(P:Program)(w:World)(l:List Env)(H:Hp)(s:js)(e C:jr)(c:Option jr)(a:Hp)(b:js):Prop:=So P w l H s e C c a b/\iE e a s b .none
def d6(P:Program)(w:World):CXT:=λd H s E e f=>∃c C b a,e=.ref c/\iW P w d H s c C b a f/\E (.ref C) b a
theorem Ps(u:Un fs [] H g h f):∀{l},(∀b∈dj l,b∈fs)->(∀b∈dj l,H b=J)->h.FunFrames c l->f.FunFrames c l
 | [],_,_,_=>trivial
 |a::r,p,n,⟨t,⟨j,o,m,q,v,s⟩,i⟩=>by
  have d:j∈dj (a::r):=by unfold dj;rw[zL,m];exact zH
  have sub:∀b∈dj r,b∈dj (a::r):=λb z=>by unfold dj;rw[zL,m];exact zQ _ z
  obtain⟨sl,e⟩:=u.slot j o v (n j d) (p j d) (by simp);exact(t,(j,_,m,q,e,s),Ps u (λb z=>p b (sub b z)) (λb z=>n b (sub b z)) i)
structure Gu(X:Cx):Prop where
 fV:X.stack=X.env::X.outer
 fr:X.env.frame=U X.env.locals
 ex:X.ex=[]
def Mw(ok:eA P w f h)(g:JS fs e s X S h m)(Q:∀b∈fs,f b=J)(H:∀b,S b->f b=J)
  (x:h.get? e=U s) (B:s.data=.fields X) (a:f e=U (Fw e C dx)):eA P w f m:=λb u q=>by
 have kp:∀c v,c≠e->(∃z,f c=U z)->h.get? c=U v->m.get? c=U v:=λc v n ⟨z,I⟩ E=>g.keep c v E n (λy=>by simp_all) λy=>by simp_all
 by_cases p:b=e
 .subst p;rw[a]at q;cases q;obtain⟨⟨t,D,i,o,A,j,F,N⟩,_,st⟩:=ok _ _ a;rw[x]at i;cases i;rw[B]at j;cases j;obtain⟨T,R,ab,b1,M,ag,G,l⟩:=g.tb;exact((_,_,l,o,A,Y,by simp_all,by simp_all),(_,l),st)
 .refine(ok b u q).fq (λc v d r=>?_) (λ_ z=>z) λ_ _ z=>z;rcases d with rfl|d
  .simp_all
  .refine kp c v (λz=>?_) (_,d) r;subst z;rw[a]at d;cases d
def Mx(g:Gu X)(I:Inv X ba az w m)(F:So X.prog X.w X.stack w m e C dx c s)(B:s.heap.get? e=U G)(H:G.data=.fields vs)(al:1<vs.size)
  (j:∀b,P b->c b=J/\m.heap.get? b=J) (f:JS (dj X.stack) e G vs P s.heap y):iW X.prog X.w X.outer X.eR X.cG e C dx c {s with heap:=y}:=by
 have d:Un (dj X.outer) [] X.eR w X.cG.heap m.heap:=by have:=I.base;rwa[g.ex]at this
 have i:∀b∈dj X.stack,c b=J:=λb a=>by
  obtain⟨_,o,E,_⟩:=I.stack.mem a;exact F.un.free b o E (I.stkFree b a) (by simp)
 have ag:∀b,c b=J->b≠e:=λb n z=>by subst z;rw[F.at_]at n;cases n
 have l:∀b o,X.cG.heap.get? b=U o->b∉ dj X.outer->b∉ dj X.stack:=λb o a as z=>by
  rw[g.fV]at z;unfold dj at z;rw[zL,g.fr]at z;rcases mem_cons.mp z with z|z
  .exact absurd (zZ (lt_size a) I.ok.above) (by simp_all)
  trivial
 have v:∀b,b∈dj X.outer->b∈dj X.stack:=λb a=>by
  rw[g.fV];unfold dj;rw[zL,g.fr];exact zQ _ a
 have h:∀b o,X.cG.heap.get? b=U o->¬ P b:=λb o a z=>by
  obtain⟨o',an⟩:=d.there b o a (by simp)
  simp_all
 have u:Un (dj X.outer) [] X.eR c X.cG.heap y:=by
  refine(λb o q n a _=>?_,λb o q n a _=>?_,λb o q n _=>?_,λb o q _=>?_,λb p q=>F.un.fm b p (d.fm b p q),λb o p q=>F.un.fc b o p (d.fc b o p q),λb D q=>?_)
  .have q1:=d.keep b o q n a (by simp);have t:=d.free b o q n (by simp);have q2:=F.un.keep b o q1 t (l b o q a) (by simp);exact f.keep b o q2 (ag b (F.un.free b o q1 t (by simp))) (h b o q) (l b o q a)
  .obtain⟨sl,q1⟩:=d.slot b o q n a (by simp);have t:=d.free b o q n (by simp);obtain⟨fb,q2⟩:=F.un.slot b _ q1 t (v b a) (by simp);obtain⟨iu,q3⟩:=f.slot b _ q2 (by grind) (h b o q) (v b a);exact(iu,q3)
  .obtain⟨r,q1⟩:=d.there b o q (by simp);exact F.un.free b r q1 (d.free b o q n (by simp)) (by simp)
  .obtain⟨r,q1⟩:=d.there b o q (by simp);obtain⟨x,q2⟩:=F.un.there b r q1 (by simp);exact f.there b x q2
  .obtain⟨m1,R⟩:=d.fh b D q;obtain⟨m2,e2⟩:=F.un.fh b _ R
   grind
 refine((F.os.trans I.os,F.bare,u,Mw F.cy f i (λb z=>(j b z).1) B H F.at_,F.at_),?_);obtain⟨T,S,ab,b1,M,N,A,Q⟩:=f.tb;have ar:=Heap.get?_none_of_le b1;refine(_,_,T,S,ab,Q,zd,by simp[al],λz=>?_,M,N,A,F.cy.fresh b1,?_)
 .simp_all
 .cases q:X.cG.heap.get? T with
  |none=>rfl
  |some o=>
   obtain⟨r,q1⟩:=d.there T o q (by simp);obtain⟨x,q2⟩:=F.un.there T r q1 (by simp)
   simp_all
def D9(I:Inv X f h a b)(F:So X.prog X.w X.stack a b e C g d c):c.heap.FunFrames X.base X.stack:=Ps F.un (λ_ z=>z) I.stkFree I.stack
def JT(c:Gu X)(I:Inv X w D f n)(F:iW X.prog X.w X.stack f n e C m g s):
  dH X (leaving X.env (.ref e)) (λ_ s3=>iW X.prog X.w X.outer X.eR X.cG e C m g s3) x s:=by
 obtain⟨B,q,A,T,y,t,d,a,h,p,j,o,l,u,v⟩:=F;have fr:=D9 I B;have i:=I.ok.frames;rw[c.fV]at fr i;refine Oe i fr c.fr d a h p j o l λr E=>?_;rw[←c.fV]at E;exact Mx c I B d a (z9.mp h).1 (λb z=>by simp_all) E
def Of(c:Gu X)(I:Inv X r s g q)(B:So X.prog X.w X.stack g q e C n m f)(T:Tb0 e f):
  dH X (leaving X.env (.ref e)) (λ_ s3=>iW X.prog X.w X.outer X.eR X.cG e C n m s3) j f:=by
 obtain⟨o,p,i,a,d⟩:=T;have fr:=D9 I B;have h:=I.ok.frames;rw[c.fV]at fr h;refine Mv h fr c.fr i a d λl t=>?_;rw[←c.fV]at t;exact Mx c I B i a (z9.mp d).1 (λb z=>z.elim) t
def Sq:
  Gu (Bf CX P w ω mg base N qual scope f cd A outer s H E):=(rfl,rfl,rfl)
def DP:
  BK (d6 P w) (Bf (d6 P w) P w ω mg base N qual scope f cd A outer s H E) E:=by
 rintro a o l j e p I ⟨h,C,i,d,rfl,F,q⟩;exact zn (JT Sq I F) (λ_ s3 G=>(h,C,i,d,Y,G,q)) λ_ _ z=>z
def Sr(X:Cx)(E:XK):Prop:=∀d(f:St)H s e C c b a,Inv X d f H s->So X.prog X.w X.stack H s e C c b a->Tb0 e a->E (.ref C) c b->X.xe (.ref e) a
def FX{qual}:
  Sr (Bf (d6 P w) P w ω mg base N qual scope f cd A outer s H E) E:=by
 intro a l j i e C h d o I F T q;exact zn (Of Sq I F T) (λ_ s3 G=>(e,C,h,d,Y,G,q)) λ_ _ z=>z
structure My(B:String)(bm:jo):Prop where
 b:bm.contains (.type B)=L
 base:bm.contains (.type ki)=L
 na:bm.contains (.type "AttributeError")=O
 nn:bm.contains (.type "NameError")=O
def Og{j}{sub}(F:ExcBaseFacts B c a o)(T:My B b)(oC:h.get? C=U (excClassObj n x C N bs b i w sub p f v u y m r q c))
  (e:Q () (h,g,d,t,j)):wpAny M A (checkBuiltinCall c (.ref C::s,[])) Q E (h,g,d,t,j):=by
 have l:(Value.ref C::b).contains (.type B)=L:=by rw[contains_cons,T.b];simp
 have st:=F.noStar;simp[checkBuiltinCall,F.newKind,F.newSplit,F.newRow]
 repeat (first|refine zW oC ?_| (refine z4 oC ?_;rw[l])|refine wpAny_staticBase_exc oC ?_|refine wpAny_madeBy_exc oC ?_|simp only[bne_self_eq_false,if_false]|wp_step)
 exact e
noncomputable abbrev Ss(C:jr)(h:Heap):Obj:={cls:=.ref C,data:=.fields #[.ref h.objs.size,.none,.none,.none,.bool O,.none]}
abbrev JU(C:jr)(a:jo)(h:Heap):Heap:=(h.push {cls:=.type jN,data:=.seq a.toArray}).push (Ss C h)
def Su{j}{sub}(F:ExcBaseFacts B c a u)(T:My B b)(oC:h.get? C=U (excClassObj I H C N bs b i P sub x m z v D s y E c))
  (r:R (.ok (.ret (.ref (h.objs.size+1)))) (JU C f h,g,d,t,j)) (n:f.length<=sizeLine):codeAny (model M w) A (.builtin c (.ref C::f,[])) R (h,g,d,t,j):=by
 have G:=F.ends;have q:(Value.ref C::b).contains (.type B)=L:=by rw[contains_cons,T.b];simp
 have l:(Value.ref C::b).contains (.type "AttributeError")=O:=by rw[contains_cons,T.na];rfl
 have o:(Value.ref C::b).contains (.type "NameError")=O:=by rw[contains_cons,T.nn];rfl
 apply codeAny_builtinAt F.entry;apply PySem.wpAt_bind;refine PySem.wpAt_bind (PySem.wpAt_stack λp e=>PySem.wpAt_of_wpAny ?_)
 wp_walk
 apply PySem.wpAt_of_wpAny;rw[F.owner]
 repeat (first|with_reducible refine wpAny_madeHere_exc F.canon oC ?_|with_reducible refine zW oC ?_| (with_reducible refine z4 oC ?_;first|rw[q]|rw[l]|rw[o])|wp_step)
 rwa[Heap.size_push]
def Oh{i}{sub}(F:ExcBaseFacts B s a G)(T:My B f)    
  (oC:h.get? C=U (excClassObj nm S C N bs f j sn sub P ag M I ab k2 X R s)) (v:W.Looks (model m w) h (typeLookup (.ref C) jF) (U (.ref l))) (q:h.get? l=U y) (H:y.cls=.type mU) (n:c.length<=sizeLine)
  (e:wpAny (model m w) A (call (.ref l) (.ref (h.objs.size+1)::c)) (λr p=>r=.none/\Q (.done (.ret (.ref (h.objs.size+1)))) p) E (JU C c h,g,d,t,i)):
  wpAny (model m w) A (Builtin.«type.__call__» (.ref C::c,[])) Q E (h,g,d,t,i):=by
 repeat (first|with_reducible refine zW oC ?_|with_reducible refine wpAny_madeBy_exc oC ?_|wp_step)
 refine codeAny_call_builtin_code (Code.quiet_builtin _ F.quiet) (Og F T oC (Su F T oC ?_ n));have kp:∀b o,h.get? b=U o->(JU C c h).get? b=U o:=λb o z=>zV _ (zV _ z)
 heap_get
 have u:(Value.ref C::f).contains (.ref C)=L:=by simp
 repeat (first|with_reducible refine zW ge ?_| (with_reducible refine z4 (kp _ _ oC) ?_;rw[u])|wp_step)
 apply v A _ E (JU C c h,g,d,t,i) kp;refine zJ (zp ?_);refine zp (wpAny_typeOf (_,kp _ _ q,H) (zo (zp (zn e (λr p z=>?_) λ_ _ x=>x))));obtain⟨rfl,D⟩:=z
 wp_walk
 exact D
def Q0{l}{sub}(F:ExcBaseFacts B n a v)(T:My B f)    
  (oC:h.get? C=U (excClassObj X P C N bs f i sn sub z R G y H S D s n)) (p:W.Looks (model c w) h (typeLookup (.ref C) jF) (U (.ref j))) (o:h.get? j=U q) (x:q.cls=.type mU) (m:b.length<=sizeLine)
  (e:wpAny (model c w) (A.under (.builtin lB (.ref C::b,[]))) (call (.ref j) (.ref (h.objs.size+1)::b)) (λr u=>r=.none/\Q (.ref (h.objs.size+1)) u) E (JU C b h,g,d,t,l)):
  wpAny (model c w) A (call (.ref C) b) Q E (h,g,d,t,l):=by
 have I:=tc_lookup;have M:=tc_bind (.ref C);refine wpAny_call (codeAny_of_tree ?_)
 repeat (any_goals (first|assumption|with_reducible refine zW oC ?_|wp_step))
 exact(Y,codeAny_call_builtin_at (Code.quiet_builtin _ (by simp)) entry_typeCall (wpAny_check_type_call_sub oC (Oh F T oC p o x m e)))
noncomputable def Fe(e C:jr)(a:Option jr):HO:=.ext λh=>∃b c,h.get? e=U b/\b.cls=.ref C/\b.dict=a/\b.data=.fields c/\c.size=6/\c[1]?=U .none/\c[2]?=U .none
noncomputable def BA(a:FG)(C:jr):Bool:=match a.lookup C with
 |some ⟨.type "type",_,.cls b,sl⟩=>(match b.mro,sl.toList with
  |.ref c::bm,[_,_,_,_,U (.builtin n),_]=>c==C && !b.hasDel&&n == "ValueError.__new__" && bm.contains (.type "BaseException")&&bm.contains (.type "ValueError") && !bm.contains (.type "AttributeError") && !bm.contains (.type "NameError")
  |_,_=>O)
 |_=>O
def Iu(X:f.In h)(q:BA f C=L):∃c x N bs i e u sub o a r j t b p v,h.get? C=U (excClassObj c x C N bs i e u sub o a r j t b p v "ValueError.__new__")/\My jK i:=by
 unfold BA at q;split at q
 .rename_i r y sl E;split at q
  .rename_i g i j t b p n v F H;simp only[Bool.and_eq_true,beq_iff_eq,Bool.not_eq_true']at q;obtain⟨⟨⟨⟨⟨⟨rfl,d⟩,rfl⟩,z⟩,ht⟩,D⟩,A⟩:=q;obtain⟨c,bs,I,B,x,G,u,sub,o,a,del⟩:=y;subst F d;obtain⟨l⟩:=sl;subst H;exact(c,x,B,bs,i,G,u,sub,o,a,r,j,t,b,p,v,X _ _ E,(ht,z,D,A))
  .cases q
 .cases q
structure MkX(K:FG)(C f:jr):Prop where
 cls:BA K C=L
 init:W.findIn K (.ref C) jF=U (U (.ref f))
 fn:W.isFn K (.ref f)=L
 fo:∃o,K.lookup f=U o/\o.cls=.type mU
 kp:W.keepIn K (.ref C)=L
def Q3(C)(a)(h):(JU C a h).get? (h.objs.size+1)=U (Ss C h):=by heap_get
def Inv.madeX(I:Inv X c f H s)(d):Inv X c f (upd H (s.heap.objs.size+1) (Fe (s.heap.objs.size+1) C J)) {s with heap:=JU C d s.heap}:=by
 apply I.laid (t':=s.toks) (λb o z=>zV _ (zV _ z)) (Nat.le_succ _);have e:=Q3 C d s.heap;exact((_,_,e,Y,Y,Y,Y,Y,Y),(_,e),λj l q k=>by obtain⟨h,i,a,r⟩:=q;exact (h,i,k _ a,r))
def Q4(M:MkX X.K C f)(F:bH X.prog X.w X.K X.mg X.base o k f P m sp)(z:bJ (k+1) X.A)(y:Binds X.K P m c)(u:Vals i c)(w:BK o X E)(I:Inv X g n H s)(r:Vals d b)(hz:d.length<=1000)
  (h:∀x,H x=J->sp (.ref x::(d++i)) (upd H x (Fe x C J)) (λv A=>v=.bQ/\Q (.ref x) A) E):dH X (call (.ref C) b) (EP X g n Q) X.xe s:=by
 have p:=h (s.heap.objs.size+1) (I.cy.fresh (Nat.le_succ _));have j:=Inv.madeX (C:=C) I b;have q:Vals (V.ref (s.heap.objs.size+1)::(d++i)) (Value.ref (s.heap.objs.size+1)::(b++c)):=.cons rfl (r.append u)
 have t:(Value.ref (s.heap.objs.size+1)::b++c).length=m.length:=by
  have e:=q.length;rw[F.len _ _ _ _ p]at e;exact e.symm
 obtain⟨nm,qn,N,bs,bm,aC,sn,sub,ab,an,dd,ar,k1,k2,k3,k5,oC,T⟩:=Iu I.dZ M.cls;obtain⟨oF,G,S⟩:=M.fo;obtain⟨l,az,as,tk,os⟩:=s;apply Q0 excBase_ValueError T oC (W.looks_findIn I.dZ M.init) (I.dZ _ _ G) S (by rw[←r.length];exact Nat.le_of_lt (AQ hz));refine wpAny_call (codeAny_mono (F.run _ X.stack _ _ (_,[]) (Value.ref (l.objs.size+1)::(b++c)) _ _ E (z.make C b []) (j.gp.make C b []) (y _ (Value.ref (l.objs.size+1)::b) j.dZ t) q p) λr R a=>?_);cases r with
 |error e=>exact w g n _ _ e R j a
 |ok fl=>
  cases fl with
  |ret aM=>
   obtain⟨v,al,B,D,ag,q3⟩:=j.after a;subst ag;exact(D,(V.ref (l.objs.size+1),al,B,Y,q3))
  |next=>exact False.elim a
  |brk=>exact False.elim a
  |cont=>exact False.elim a
def Hm(C:jr)(b:Sp)(a:jq)(E:XK)(t:TA):TE:=λf H Q=>t f H λd c=>d.length<=1000/\∀x,c x=J->b (.ref x::(d++a)) (upd c x (Fe x C J)) (λv e=>v=.bQ/\Q (.ref x) e) E
def CH{k}{l}(M:MkX X.K C f)(F:bH X.prog X.w X.K X.mg X.base g k f w l P)(z:bJ (k+1) X.A)(m:Gl X x)(A:X.mg x=U (.ref C))(u:Binds X.K w l n)(B:Vals j n)(D:BK g X E)
  (y:PA X (e::b) t) (d:fQ x:=by decide) (v:gj X e b:=by rfl) (i:(backTo c (starEach b X.env)).any (·.1)=O:=by rfl):
  PE X (.Call (.Name x p) (e::b) [] c) (Hm C P j E t):=by
 intro a s G H Q I h;refine z0 (CA I m A (W.callWith_K I.ok.mod.kin M.kp (cA (y c a s G H _ I h) λT N ⟨R,S,o,r,q⟩=>(o.dZ,?_)) v i) d);exact Q4 M F z u B D o r q.1 q.2
def Hn(C:jr)(a:TE)(E:XK):TS:=λ_ d H=>a d H λv c=>∃e b,v=.ref e/\c e=U (Fe e C b)/\E (.ref C) b (upd c e (Fw e C b))
def Q5(ok:eA P w c h)(d:c e=U (Fe e C f)):eA P w (upd c e (Fw e C f)) h:=by
 obtain⟨⟨i,j,l,o,p,t,x,z,v⟩,_,_⟩:=ok _ _ d;refine ok.write (by rw[d];exact True.intro) (.inl Y) (λb u _ q=>q) (_,l) ((i,j,l,o,p,t,by simp_all,v),(_,l),λy A y k=>by obtain⟨i,j,a,r⟩:=y;exact (i,j,k _ a,r))
def Mz(S:A.handled=J)
  (h:wpAny M A x (λv j=>∃e b c,v=.ref e/\j.heap.get? e=U b/\b.cls=.ref C/\b.data=.fields c/\c[1]?=U .none /\
   (∃m G N bs p a D sub r o u q B f t F i,j.heap.get? C=U (excClassObj m G C N bs p a D sub r o u q B f t F i)/\p.contains (.type ki)=L)/\E (.ref e) j) E s):
  wpAny M A (raiseStmt n (U x) J) Q E s:=by
 refine zp (zn h (λv j z=>?_) λ_ _ y=>y);obtain⟨e,b,c,rfl,P,l,R,I,⟨m,G,N,bs,p,a,D,sub,r,o,u,q,B,f,t,F,i,oC,w⟩,H⟩:=z;have ab:(Value.ref C::p).contains (.type ki)=L:=by rw[contains_cons,w,Bool.or_true]
 obtain⟨X,g,d,T,ag⟩:=j
 repeat (first| (with_reducible refine zW P ?_;rw[l])|with_reducible refine zW oC ?_| (with_reducible refine z4 oC ?_;rw[ab])|wp_step)
 rw[R];apply zo;rw[I];apply zo;exact zo (wpAny_raiseNew_none S H)
def CI(c:Sr X E)(f:X.calm=L)(b:BA X.K C=L)(S:PE X o g):PS X (.Raise (eq o) f8 as) (Hn C g E):=by
 intro a s A H an I h;refine zp (zI (Mz (C:=C) (I.ok.hd f) (zp (zn (S a s A H _ I h) (λab x al=>zp (zI (zo ?_))) λ_ _ ag=>ag))));obtain⟨u,n,j,M,e,P,rfl,d,q⟩:=al;obtain rfl:ab=.ref e:=M;obtain⟨⟨t,G,l,m,a3,F,a5,B,a7⟩,_,_⟩:=j.cy _ _ d;obtain⟨v,qn,N,bs,z,i,sn,sub,w,p,D,Q,k1,R,y,k5,oC,T⟩:=Iu j.dZ b;refine(e,t,G,Y,l,m,F,B,(v,qn,N,bs,z,i,sn,sub,w,p,D,Q,k1,R,y,k5,_,oC,T.base),c a A n x e C P _ x j (Y,j.bare,Un.write (by rw[d];exact True.intro) (.inl Y) (λar u _ r=>r) (_,l),Q5 j.cy d,bA) (t,G,l,F,B) q)
def M0{p}{sub}(F:ExcBaseFacts B f i r)(T:My B c)     
  (oC:h.get? C=U (excClassObj R H C N bs c o S sub v w G D I P z y f)) (u:h.get? e=U m) (j:m.cls=.ref C) (l:Q () (h,g,d,t,p)):
  wpAny M A (checkBuiltinCall i (.ref e::s,[])) Q E (h,g,d,t,p):=by
 have q:(Value.ref C::c).contains (.type B)=L:=by rw[contains_cons,T.b];simp
 have st:=F.noStar;simp[checkBuiltinCall,F.initKind,F.initSplit,F.initRow]
 repeat (first| (with_reducible refine zW u ?_;rw[j])|with_reducible refine zW oC ?_| (with_reducible refine z4 oC ?_;rw[q])|wp_step)
 apply wpAny_onRaise;rw[show ∀a b n,Bind.check (.positional,"*",B,.self,[("args",.varPos,O)]) a b n (List.map (λx=>x.fst) ({pos:=Value.ref e::s}:Args).kw)=pure ()from λa b n=>check_star_args _ _ _ _ _ _];exact zo l
def Oi{l}{sub}(F:ExcBaseFacts B m a y)(T:My B f)      
  (oC:h.get? C=U (excClassObj nm M C N bs f o sn sub G S I D P k2 H R m)) (p:h.get? e=U c) (j:c.cls=.ref C) (r:c.data=.fields s) (v:s[0]?=U v0) (X:b.length<=sizeLine)
  (i:Q .none ((h.push {cls:=.type "tuple",data:=.seq b.toArray}).update e (Obj.mapFields (·.setIfInBounds 0 (.ref h.objs.size))),g,d,t,l)):
  wpAny (model n w) A (call (.builtin a) (.ref e::b)) Q E (h,g,d,t,l):=by
 refine wpAny_call (codeAny_call_builtin F.init.plain F.initEntry (M0 F T oC p j ?_))
 wp_walk
 rw[r];apply zo;rw[v];refine zo (zp (wpAny_setField (zV {cls:=.type "tuple",data:=.seq b.toArray} p) r (z9.mp v).1 ?_))
 have done:∀{x:VS},wpAny (model n w) A.in1 (match v0 with|Value.ref _=>letGo [v0]|_=>pure ()) (λ_ u=>Q .none u) x ((h.push {cls:=.type "tuple",data:=.seq b.toArray}).update e (Obj.mapFields (·.setIfInBounds 0 (.ref h.objs.size))),g,d,t,l):=λ{x}=>by
  cases v0<;>first|exact zo i| (wp_walk;exact i)
 exact zn done (λ_ u q=>zo q) λ_ _ z=>z
def Sv(h:H a=U o):upd H a o=H:=by
 funext b;unfold upd
 simp_all
def Q6:∀{d},Vals (x::e) d->∃u c,d=u::c/\RelV x u/\Vals e c
 |_::_,.cons a b=>(_,_,rfl,a,b)
def XG(b:FG)(t:TA):TE:=λg H Q=>t g H λf c=>∃a C e d,f=.ref a::d/\d.length<=1000/\BA b C=L/\c a=U (Fe a C e)/\Q .bQ c
def U7:typeOf (.type jK)=pure (.type oG):=by rfl
def U8:Manifest.isStub jK=O:=by rfl
def U9(a:FG):W.findCls a (.type jK) (.type oG) jF=U (.val (.builtin "ValueError.__init__")):=by rfl
def VA:W.handedIn (.builtin "ValueError.__init__")=L:=by rfl
def Pt:bootBuiltins jK=U (.type jK):=by rfl
def Sw(s:Gl X jK)(t:X.mg jK=f8)(o:PA X (e::d) ag)(m:gj X e d:=by rfl)(p:(backTo c (starEach d X.env)).any (·.1)=gt:=by rfl)
  (ht:eval (.Call (.Attribute (.Name jK np) jF g) (e::d) [] c) X.env=(do
   let M ←eval (.Name jK np) X.env
   standAt g.atName
   let (f,first) ←holding [M] (getMethod M jF pl)
   callWith c f first (backTo c (starEach (e::d) X.env)) (backToKw c (keywordEach [] X.env))):=by rfl):
  PE X (.Call (.Attribute (.Name jK np) jF g) (e::d) [] c) (XG X.K ag):=by
 intro j a2 al H Q I h;refine W.methodCall_KW ?_ ht;apply Fm (u:=.type jK) I s t Pt;obtain⟨a0,N⟩:=I.fr;apply (λD E=>W.method_type (prog:=X.prog) (w:=X.w) (A:=X.A) (E:=X.xe) (T:=jK) (pl:=pl) (Q:=D) N I.ok.mod.kin U7 U8 (U9 X.K) VA E) _;refine PyProof.Rows.callWith_builtin1 (cA (o c j _ al H _ (I.tok _) h) λus s1 k=>?_) m p;obtain⟨vs,R,r,r1,a,C,dx,ar,ev,hz,S,i,q⟩:=k;subst ev;obtain⟨nm,qn,az,bs,bm,a8,sn,sub,ab,aC,dd,k0,k1,k2,k3,k5,oC,T⟩:=Iu r.dZ S;obtain⟨⟨oe,ws,B,x,P,v,a5,a6,a7⟩,_,st⟩:=r.cy _ _ i;obtain⟨u0,y,eu,A,rr⟩:=Q6 r1;subst eu
 .obtain rfl:=A;obtain⟨w,aR,aM,G,os⟩:=s1;apply Oi excBase_ValueError T oC B x v (v0:=ws[0]'(by simp_all)) (by simp_all) (by rw[←rr.length];exact Nat.le_of_lt (AQ hz));have l:=zS (Obj.mapFields (·.setIfInBounds 0 (.ref w.objs.size))) (zV {cls:=.type jN,data:=.seq y.toArray} B) (Obj.isFreed_of_fields (Obj.data_mapFields v _));rw[DN v]at l
  have F:=(r.kept (h':=w.push {cls:=.type jN,data:=.seq y.toArray}) (t':=G) λb u z=>zV _ z).write (o:=Fe a C dx) (t':=G) (by rw[i];exact True.intro) (.inl rfl) (λb u n z=>(zU _ _ (Ne.symm n)).trans z) (_,l)
   ((_,_,l,x,P,rfl,by simp_all,by simp_all,by simp_all),(_,l),st)
  rw[Sv i]at F;exact(.bQ,R,F,zd,q)
def Ks(P:Program)(w:World)(j:FG)(c:SV)(a:Heap)(N:jm)(h:Str)(i:Scope)(f:jr)(b:Value)(A:Around)(g:List Env)(s:js)(H:Hp)(e:jr)(d:Obj):Cx:=
 {Bf cF P w j c a N h i f b A g s H (λ_ _ _=>False)with calm:=O,pn:=[(e,d)],xe:=λ_ _=>False}
structure RoomS(k:Nat)(A:Around):Prop where
 dp:A.depth+3*k+5<recursionLimit
 un:A.units+16*k+200<cLine
def RoomS.deeper(r:RoomS (k+1) A)(a):RoomS k (A.deeper a):=(by have:=r.dp;show A.depth+1+3*k+5<_;lia,by have:=r.un;show A.units+3+16*k+200<_;lia)
def Oj          
  (S:AH N g b) (a:fg P w ab T R A n s H) (l:Q.length=g.length) (r:Vals Q M) (h:s.heap.get? e=U c) (B:H e=J) (i:e∉ dj n) (j:∀v,c.data≠ .cell v)
  (x:InCallC s s.heap.objs.size (bindL (envOfC G b s.heap.objs.size f m).kindOf (g.zip M) λ_=>J) (cellsFrom (s.heap.objs.size+1) b.names []) (bindC (envOfC G b s.heap.objs.size f m).kindOf (g.zip M) λ_=>J) X):
  Inv (Ks P w ab T R N G b f m A n s H e c) [] (start N Q) H X:=by
 have d:∃d:Around,d.handled=J/\d.frames=A.frames:=({A with handled:=J},rfl,rfl);obtain⟨d,t,y⟩:=d;have I:=He (CX:=cF) (E:=λ_ _ _=>False) S t (y.trans a.frames,a.mod,a.bs,a.gA,a.d7,a.gP,a.cy,a.bare) l r x;obtain⟨D,C,rfl,o⟩:=x.done;have ok:=I.ok;refine((ok.mod,ok.kind,ok.glob,ok.blt,ok.above,ok.inj,ok.has,ok.ik,(λz=>by trivial),Around.frames_deeper a.frames,ok.fV,ok.exf,ok.bs,ok.gA,ok.gc,ok.gd,ok.d7,ok.gP),I.os,I.bare,I.base,I.loc,I.cell,I.free,I.dG,λp u=>?_,I.cy,I.len);have q:p=(e,(c)):=by simpa[Ks]using u
 subst q;exact(o _ _ h,B,zw (lt_size h),i,j)
abbrev SpS:=jr->Obj->jq->Hp->VK->Prop
structure Pu(P:Program)(w:World)(K:FG)(mg:SV)(base:Heap)(k:Nat)(f:jr)(fd:FuncData)(ps:jm)(sp:SpS):Prop where
 len:∀e oe vs H Q,sp e oe vs H Q->vs.length=ps.length
 run:∀A outer s H a us vs Q e oe,RoomS k A->fg P w K mg base A outer s H->A.handled=U (.ref e)->s.heap.get? e=U oe->H e=J->e∉ dj outer->(∀v,oe.data≠ .cell v) ->
  BindsTo s fd a (ps.zip us)->Vals vs us->sp e oe vs H Q->codeAny (model P w) A (.call (.ref f) a) (CR cF outer P w H s Q λ_ _ _=>False) s
def cC.okS{st}(F:cC w x r st f G)(S:AH N l (defScope st))(len:∀e g c H Q,u e g c H Q->c.length=l.length)
  (d:∀a A p s H c Q e g,A.handled=U (.ref e)->RoomS k (A.deeper (envOfC r (defScope st) s.heap.objs.size f a))->u e g c H Q ->
   ∃t,fk (Ks P aR w mg E N r (defScope st) f a A p s H e g) (defBody st) t/\t {nx:=λ_ j=>Q .bQ j,rt:=Q} (start N c) H):Pu P aR w mg E (k+1) f G l u:=by
 obtain⟨oc,od,kV,a2,pm,an,a,ct,iw,rfl,ag,aC⟩:=F.ex;refine(len,λA p s H a0 us c Q e g C h hh T R ar hd M aM i=>?_);have D:=h.mod.kin.keeps λb o z=>(h.bs b o z).1
 have hk:∀y∈l.zip us,(defScope st).names.lookup y.1=U .local\/((defScope st).names.lookup y.1=U .cell/\((cellsFrom (s.heap.objs.size+1) (defScope st).names []).lookup y.1).isSome=gl):=λ⟨az,v⟩ hy=>by
  rcases S.par az (of_mem_zip hy).1 with q|q
  .simp_all
  .exact .inr (q,W.cellsFrom_some _ _ _ (.inl q))
 refine codeAny_call_function (by have:=C.dp;lia) (D _ _ ag) rfl S.co S.gen rfl (W.codeRec_of D aC) (M _ _ _ _ (wpAny_newFunctionEnv_cells S.kind hk λa1 X s1 x=>?_));subst X;refine((h.mod.nolimit.keeps λb o z=>(h.bs b o z).1).keeps x.toInCall.keep,codeAny_func ?_);obtain⟨t,ht,al⟩:=d a A p s H c Q e g hh (C.deeper _) i;have I:=Oj S h (len _ _ _ _ _ i) aM T R ar hd x;refine zn (ht [] s1 (start N c) H _ I al) (λfl s' z=>?_) λ_ _ z=>z.elim;cases fl with
 |ret a3=>
  obtain⟨v,B,j,ab,as,q⟩:=z;exact(v,j,ab.os,ab.bare,ab.base,ab.cy,as,q)
 |next=>
  obtain⟨B,j,ab,q⟩:=z;exact(.bQ,j,ab.os,ab.bare,ab.base,ab.cy,zd,q)
 |brk=>
  obtain⟨_,_,_,q⟩:=z;exact q.elim
 |cont=>
  obtain⟨_,_,_,q⟩:=z;exact q.elim
def VB(d:A.handled=U (.ref e))(a:b.data=.fields c)(h:c[2]?=U .none):
  il (Ks P w o j g N m n f i A l s H e b):=.inr (e,b,c,d,zH,a,h)
noncomputable def del(H:Hp)(a:jr):Hp:=λb=>if b=a then J else H b
def M6:del H a a=J:=zg rfl
def Ex(h:b≠a):del H a b=H b:=zh h
def Sx(u:Un fs [] s c h E)(f:JS fs e H I g E w)(l:c e=U (Fw e C G))(t:∀b,g b->c b=J/\h.get? b=J):Un fs [] s (del c e) h w:=by
 have j:∀b,c b=J->b≠e:=λb n z=>by simp_all
 have a:∀b o,h.get? b=U o->¬ g b:=λb o i z=>by simp_all
 have d:∀b v,c b=U v->(∀A,v≠ .ext A)->b≠e:=λb v r B z=>by subst z;rw[l]at r;cases r;exact B _ rfl
 refine(λb o q n i _=>?_,λb o q n i _=>?_,λb o q n _=>?_,λb o q _=>?_,λb p q=>?_,λb o p q=>?_,λb x q=>?_)
 .exact f.keep b o (u.keep b o q n i (by simp)) (j b (u.free b o q n (by simp))) (a b o q) i
 .obtain⟨sl,q1⟩:=u.slot b o q n i (by simp);obtain⟨fb,q2⟩:=f.slot b _ q1 (j b (u.free b o q n (by simp))) (a b o q) i
  simp_all
 .have z:=u.free b o q n (by simp)
  rwa[Ex (j b z)]
 .obtain⟨D,q1⟩:=u.there b o q (by simp);exact f.there b D q1
 .have z:=u.fm b p q
  rwa[Ex (d b _ z λ_ y=>nomatch y)]
 .have z:=u.fc b o p q
  rwa[Ex (d b _ z λ_ y=>nomatch y)]
 .obtain⟨m,z⟩:=u.fh b x q;exact(m,by rw[Ex (d b _ z λ_ y=>nomatch y)];exact z)
def VD(ok:eA P w f h)(d:f e=U (Fw e C g)):eA P w (del f e) h:=λb u q=>by
 have j:b≠e:=λz=>by subst z;rw[M6]at q;cases q
 rw[Ex j]at q;have a:∀c v,f c=U v->(∀o,v≠ .ext o)->c≠e:=λc v i l z=>by subst z;rw[d]at i;cases i;exact l _ rfl
 exact(ok b u q).fq (λ_ _ _ z=>z) (λc z=>by rwa[Ex (a c _ z λ_ y=>nomatch y)]) λc p z=>by rwa[Ex (a c _ z λ_ y=>nomatch y)]
structure Cgt(C:jr)(dx:Option jr)(e:jr)(oe:Obj)(T:jr)(oT:Obj):Prop where
 cls:oe.cls=.ref C
 dict:oe.dict=dx
 fld:∃vs,oe.data=.fields vs/\vs[1]?=U (.ref T)/\vs[2]?=U .none
 tb:∃ts,oT.data=.fields ts/\ts[3]?=U .none
def XH(c:Gu X)(I:Inv X m p s n)(F:iW X.prog X.w X.stack s n e C dx f h)
  (ab:∀s3 g T A,Cgt C dx e g T A->Inv X ((e,(g))::(T,(A))::m) p (del f e) s3->Q () s3):
  dH X (noteFrame (.ref e) X.env) (λ_ s3=>dH X (setFlight (.ref e) J) Q q s3) q h:=by
 obtain⟨B,g,N,T,A,ts,t,r,E,M,R,P,a7,a8,a9⟩:=F;have fr:=D9 I B;have H:=I.ok.frames;rw[c.fV]at fr H;refine Kr H fr c.fr t r E M R P a7 λh' v=>?_;rw[←c.fV]at v;have d:∀b,b=T->f b=J/\n.heap.get? b=J:=λb z=>by simp_all
 have a:∀b∈dj X.stack,f b=J:=λb j=>by
  obtain⟨_,o,i,_⟩:=I.stack.mem j;exact B.un.free b o i (I.stkFree b j) (by simp)
 obtain⟨u,as,az,b1,b2,b3,x,b5⟩:=v.tb;obtain⟨⟨a1,a2,D,S,y,w,c5,c6⟩,_,_⟩:=B.cy _ _ B.at_;rw[t]at D;cases D;rw[r]at w;cases w;have G:Inv X m p (del f e) {h with heap:=h'}:=I.call' B.os (Sx B.un v B.at_ d) (VD (Mw B.cy v a (λb z=>(d b z).1) t r B.at_) B.at_) B.bare λb z=>nomatch z;have aR:=Heap.get?_none_of_le b1;have a0:=B.cy.fresh b1
 have aM:∃o,h.heap.get? X.env.locals=U o:=by
  obtain⟨ag,⟨o,_,_,i,_⟩,_⟩:=id I.loc;exact B.un.there _ o i (by simp)
 have aC:∀b∈X.fs,∃o,h.heap.get? b=U o:=λb j=>by
  obtain⟨_,o,i,_⟩:=I.d7.mem j;exact B.un.there b o i (by simp)
 have an:∀b∈X.fs,b∈dj X.stack:=λb j=>by
  rw[c.fV];unfold dj;rw[zL,c.fr];exact zQ _ j
 refine ab _ {g with data:=.fields (N.setIfInBounds 1 (.ref u))} u as (S,y,(N.setIfInBounds 1 (.ref u),rfl,by grind,by simp_all),(az,b3,x)) (G.pins_of λal hp=>?_);rcases mem_cons.mp hp with z|z
 .subst z;refine(b5,M6,λz=>?_,λz=>?_,λar z=>by cases z)
  .obtain⟨ag,⟨o,_,_,i,_⟩,_⟩:=id I.loc;have l:=B.un.free _ _ i I.free (by simp);rw[←z,B.at_]at l;cases l
  .have l:=a e (an e z);rw[B.at_]at l;cases l
 rcases mem_cons.mp z with z|z
 .subst z;refine(b2,by rw[Ex (λz=>by simp_all)];lia,λz=>?_,λz=>?_,λar z=>by simp_all)
  .simp_all
  grind
 .exact G.pin al (by grind)
noncomputable def Ek(a:FG)(C:jr):jo:=match a.lookup C with
 |some ⟨_,_,.cls b,_⟩=>b.mro
 |_=>[]
def M7(X:f.In h)(q:BA f C=L):∃c t N bs i a v sub j d p r u b o l,h.get? C=U (excClassObj c t C N bs i a v sub j d p r u b o l "ValueError.__new__")/\My jK i/\Ek f C=.ref C::i:=by
 obtain⟨c,t,N,bs,i,a,v,sub,j,d,p,r,u,b,o,l,oC,T⟩:=Iu X q;refine(c,t,N,bs,i,a,v,sub,j,d,p,r,u,b,o,l,oC,T,?_);unfold BA at q;unfold Ek;split at q
 .rename_i A B sl x;rw[x];have e:=X _ _ x;rw[oC]at e;have z:=Option.some.inj e;injection (congrArg Obj.data z)with y
  rw[←y]
 .cases q
def Li{x}{sub}(oC:h.get? C=U (excClassObj nm qn C N bs c al sn sub T P X s w k2 v k5 ab))(r:h.get? D=U (excClassObj G F D q o i ag I ar H an n l0 l1 S R y l))
  (B:h.get? e=U m) (j:m.cls=.ref C) (a:i.contains (.type ki)=L) (u:Q ((Value.ref C::c).contains (.ref D)) (h,g,d,t,x)):wpAny M A (excMatches (.ref e) (.ref D)) Q E (h,g,d,t,x):=by
 have p:(Value.ref D::i).contains (.type ki)=L:=by rw[contains_cons,a,Bool.or_true]
 have f:=tc_notTuple;generalize z:(Value.ref C::c).contains (.ref D)=b at u
 repeat (first| (with_reducible refine zW B ?_;rw[j])|with_reducible refine zW r ?_| (with_reducible refine z4 r ?_;rw[p])| (with_reducible refine z4 oC ?_;rw[z])|wp_step)
 cases b<;>(wp_walk;exact u)
noncomputable def Cd(X:Cx)(e:jr)(b:Obj)(T:jr)(a:Obj):Cx:={X with A:=X.A.mark (U (.ref e)),calm:=O,pn:=X.pn++[(e,b),(T,a)],xe:=λ_ _=>False}
def Inv.mark(I:Inv X ((e,(d))::(T,(c))::b) f H s):Inv (Cd X e d T c) b f H s:=
 ((I.ok.mod,I.ok.kind,I.ok.glob,I.ok.blt,I.ok.above,I.ok.inj,I.ok.has,I.ok.ik,(λz=>by trivial),I.ok.frames,I.ok.fV,I.ok.exf,I.ok.bs,I.ok.gA,I.ok.gc,I.ok.gd,I.ok.d7,I.ok.gP),I.os,I.bare,I.base,I.loc,I.cell,I.free,I.dG,
  λp a=>I.pin p (by simpa[Cd]using a),I.cy,I.len)
def Inv.unmark(ok:X.Ok)(I:Inv (Cd X e d T c) b f H s):Inv X ((e,(d))::(T,(c))::b) f H s:=
 (ok,I.os,I.bare,I.base,I.loc,I.cell,I.free,I.dG,λp a=>I.pin p (by simpa[Cd]using a),I.cy,I.len)
def Inv.less(I:Inv X (q++b) c H s):Inv X b c H s:=I.pins_of λp a=>I.pin p (by simp_all)
def Inv.nameless(I:Inv X w M H s)(x:g.Ns X.env.locals F)(f:Heap.SameBut X.env.locals s.heap g):Inv X w (List.replicate M.length J) H {s with heap:=g,toks:=N}:=by
 obtain⟨m,⟨P,_,_,B,_⟩,_⟩:=id I.loc;refine(I.ok,I.os,I.bare,(λb o e n l a=>?_,λb o e n l a=>?_,I.base.free,λb o e a=>?_,I.base.fm,I.base.fc,I.base.fh),(_,x,λj y E i r G=>?_),λy c e=>?_,I.free,I.dG,λp D=>?_,λb C e=>?_,by simpa using I.len)
 .exact(f.2 b (zw (zZ (lt_size e) I.ok.above))).trans (I.base.keep b o e n l a)
 .obtain⟨sl,i⟩:=I.base.slot b o e n l a;exact(sl,(f.2 b (zw (zZ (lt_size e) I.ok.above))).trans i)
 .obtain⟨A,i⟩:=I.base.there b o e a;exact(A,(f.2 b (zw (zZ (lt_size e) I.ok.above))).trans i)
 .rw[List.getElem?_replicate]at r;split at r<;>cases r
 .obtain⟨t,z⟩:=I.cell y c e;exact(t,z.sameBut f (I.iD y c e))
 .obtain⟨e,n,u,v,d⟩:=I.pin p D;exact((f.2 p.1 u).trans e,n,u,v,d)
 .refine(I.cy b C e).fq (λc t h q=>(f.2 c ?_).trans q) (λ_ q=>q) λ_ _ q=>q;intro z;subst z;rcases h with z|h
  .rw[←z,I.free]at e;cases e
  .rw[I.free]at h;cases h
def PH(X:Cx)(C:jr)(a:Option jr)(b:List ExceptHandler)(t:jr->TS):Prop:=
 ∀(c:LO)s(g:St)H D e f T d,Cgt C a e f T d->Inv X ((e,(f))::(T,(d))::c) g H s->t e D g H->dH X (handleBy (.ref e) X.env b) (SP X c D) X.xe s
def Ku(e):Value.ref e≠byPass:=by intro q;cases q
def Kv(p:BA X.K C=L)(q:BA X.K b=L)(c:Cgt C n e f T l)(I:Inv X ((e,(f))::(T,(l))::m) az H s) 
  (h:Q ((Ek X.K C).contains (.ref b)) s):wpAny (model X.prog X.w) A (excMatches (.ref e) (.ref b)) Q E s:=by
 obtain⟨R,qn,N,bs,bm,i,sn,sub,w,B,P,t,k1,M,y,k5,oC,G,z⟩:=M7 I.dZ p;obtain⟨an,al,u,F,ag,a,as,ab,ar,j,D,l0,r,S,v,l5,o,x,e2⟩:=M7 I.dZ q;rw[z]at h;obtain⟨hp,g,d,tk,os⟩:=s;exact Li oC o ((I.pin (e,(f)) (by simp)).1) c.cls x.base h
def Cp(q:BA X.K C=L)(p:BA X.K Dn=L)(v:Gl X x)(o:X.mg x=U (.ref Dn))(d:(Ek X.K C).contains (.ref Dn)=O)(j:PH X C b f t)(i:fQ x:=by decide):
  PH X C b (.ExceptHandler (U (.Name x np)) m g n::f) t:=by
 intro a s l H D e r T u c I h;refine wpAny_handleBy_cons (codeAny_handlers_test (CA I.mark v o ?_ i)) (Ku e);apply Kv q p c I;rw[d];exact j a s l H D e r T u c I h
def Pv(i:Nat)(a:TS):jr->TS:=λe D b H=>a {nx:=λ_ _=>False,rt:=D.rt} (b.set i (U (.ref e))) H
def Pw{X}{g:jr->TS}(o:X.N.Nodup)(hi:X.N[i]?=U n)(r:X.env.scope.names.lookup n=U .local)(M:BA X.K C=L)(l:BA X.K Dn=L)(hg:Gl X x)(m:X.mg x=U (.ref Dn))(j:(Ek X.K C).contains (.ref Dn)=L)
  (Q:∀e f T d,Cgt C u e f T d->fk (Cd X e f T d) (an::p) (g e)) (az:fQ x:=by decide):
  PH X C u (.ExceptHandler (U (.Name x np)) (U n) (an::p) aR::hs) (λe=>Pv i (g e) e):=by
 intro al s a0 H aC e f T d c I h;refine wpAny_handleBy_cons (codeAny_handlers_test (CA I.mark hg m ?_ az)) (Ku e);apply Kv M l c I;rw[j];apply codeAny_handlers_suite_as;obtain⟨vs,hd,N,h2⟩:=c.fld;obtain⟨F,a,w⟩:=c.tb;have t:=(I.pin (T,(d)) (by simp)).1;refine wpAny_setFlight_none ((I.pin (e,(f)) (by simp)).1) hd N t a (z9.mp w).1 ?_
 have D:=I.kept (t':=s.toks) λb as q=>by
  by_cases z:b=T
  .subst z;have B:=zS (Obj.mapFields (·.setIfInBounds 3 Value.none)) t (Obj.isFreed_of_fields (Obj.data_mapFields a _));rw[DN a]at B
   have e2:F.setIfInBounds 3 Value.none=F:=by
    obtain⟨E,ag⟩:=z9.mp w;rw[Array.setIfInBounds,dif_pos E]
    conv=>lhs;rw[←ag]
    exact Array.set_getElem_self E
   rw[e2,←a]at B;rw[show s.heap.get? b=U d from t]at q;cases q;exact B
  .exact(zU _ _ (Ne.symm z)).trans q
 refine B8 (X:=Cd X e f T d) (v:=.ref e) D.mark o hi (.inl r) rfl (λS P=>zn (Q e f T d c al S _ H _ P h) (λfl s3 z=>?_) λ_ _ z=>z.elim) (.inr r);cases fl with
 |ret as=>
  obtain⟨v,et,y,ab,rv,q⟩:=z;have G:=ab.unmark I.ok;obtain⟨aM,R,_⟩:=id G.loc;have ar:(X.env.scope.kind == .class||(X.env.scope.kind == .module&&X.env.locals != X.env.globals))=gt:=by rw[I.ok.kind];rfl
  exact wpAny_nameGoes r R ar λh' m' A j=>(v,_,y,(G.nameless A j).less (q:=[(e,(f)),(T,(d))]),rv,q)
 |next=>
  obtain⟨_,_,_,q⟩:=z;exact q.elim
 |brk=>
  obtain⟨_,_,_,q⟩:=z;exact q.elim
 |cont=>
  obtain⟨_,_,_,q⟩:=z;exact q.elim
noncomputable def Ie(X:Cx)(a:LO)(xe:VS):Cx:={X with pn:=X.pn++a,xe:=xe}
def Cx.Ok.tr{X}{a}{b}(ok:X.Ok):(Ie X a b).Ok:=(ok.mod,ok.kind,ok.glob,ok.blt,ok.above,ok.inj,ok.has,ok.ik,ok.hd,ok.frames,ok.fV,ok.exf,ok.bs,ok.gA,ok.gc,ok.gd,ok.d7,ok.gP)
def Cx.Ok.untr{X}{a}{b}(ok:(Ie X a b).Ok):X.Ok:=(ok.mod,ok.kind,ok.glob,ok.blt,ok.above,ok.inj,ok.has,ok.ik,ok.hd,ok.frames,ok.fV,ok.exf,ok.bs,ok.gA,ok.gc,ok.gd,ok.d7,ok.gP)
def Inv.tr(I:Inv X b c H s):Inv (Ie X b d) [] c H s:=(I.ok.tr,I.os,I.bare,I.base,I.loc,I.cell,I.free,I.dG,λp a=>I.pin p (by simpa[Ie]using a),I.cy,I.len)
def Inv.untr(I:Inv (Ie X b e) d c H s):Inv X b c H s:=(I.ok.untr,I.os,I.bare,I.base,I.loc,I.cell,I.free,I.dG,λp a=>I.pin p (by
 rcases mem_append.mp a with z|z
 .exact zO _ (zO _ z)
 .exact zO _ (zR _ z)),I.cy,I.len)
def VE(n:Nat)(a:jr->Option jr->jr->TS)(D:I0):XK:=λd c b=>∃C,d=.ref C/\∀e,b e=U (Fw e C c)->a C c e D (List.replicate n J) (del b e)
def Z7(n:Nat)(a:XK->TS)(b:jr->Option jr->jr->TS):TS:=λD c H=>a (VE n b D) {D with nx:=D.nx} c H
def XI(f:Gu X)(S:∀M b E,BK (d6 X.prog X.w) (Ie X M b) E->fk (Ie X M b) g (tb E))(m:∀C j,PH X C j (y::n) (th C j)):
  PS X (.Try g (y::n) [] [] u) (Z7 X.N.length tb th):=by
 intro a s P H D I h;apply wpAny_Try_except
 let E:XK:=VE X.N.length th D
 let b:Value->js->Prop:=λG A=>∃l x t e C j p,G=.ref e/\Inv X a l x t/\iW X.prog X.w X.stack x t e C j p A/\E (.ref C) j p
 have ab:BK (d6 X.prog X.w) (Ie X a b) E:=by
  rintro al l x t G A B ⟨e,C,j,p,rfl,F,q⟩;exact(l,x,t,e,C,j,p,Y,B.untr,F,q)
 refine zn (S a b E ab [] s P H _ I.tr h) (λfl t z=>?_) λG A z=>?_
 .cases fl with
  |next=>
   obtain⟨d,o,w,q⟩:=z;exact wpAny_execs_nil (d,o,w.untr,q)
  |brk=>obtain⟨d,o,w,q⟩:=z;exact(d,o,w.untr,q)
  |cont=>obtain⟨d,o,w,q⟩:=z;exact(d,o,w.untr,q)
  |ret an=>obtain⟨v,d,o,w,r,q⟩:=z;exact(v,d,o,w.untr,r,q)
 .obtain⟨l,x,t,e,C,j,p,rfl,B,F,C',eC,q⟩:=z;cases eC;refine XH f B F λs3 N T R c Q=>?_
  have ag:Inv X ((e,(N))::(T,(R))::a) (List.replicate X.N.length J) (del p e) s3:=Q.weak (by rw[length_replicate,Q.len]) λi v z=>by
   grind
  exact m C j a s3 _ _ D e N T R c ag (q e F.1.at_)
structure Fx(K:FG)(C:jr):Prop where
 ga:W.findIn K (.ref C) kQ=U (U (.builtin jA))
 gr:W.findIn K (.ref C) "__getattr__"=U J
 mb:W.mroIn K C (.type ki)=U L
def Q7{i}(p:Fx b C)(X:b.In h)(I:W.InstAt h x o C c)(j:Q () (h,g,d,t,i)):wpAny M A (checkBuiltinCall jA ([.ref x,e],[])) Q E (h,g,d,t,i):=by
 have l:builtinKind jA=U .slot:=by decide +kernel
 have a:splitId jA=U (ki,(kQ)):=by decide +kernel
 simp[checkBuiltinCall,a];apply zp
 .repeat (first|with_reducible refine(I.type (M:=M)).at ?_|with_reducible refine(W.looks_mroIn (M:=M) X p.mb).at ?_|wp_step)
  exact j
def Q8{a}(X:l.In h)(I:W.InstAt h x i C f)(e:W.findObj l C f c=U (.value v))(j:Q (.done (.ret v)) (h,g,d,t,a)):
  wpAny (model b w) A (Builtin.«object.__getattribute__» ([.ref x,.str c m],[])) Q E (h,g,d,t,a):=by
 repeat (any_goals (first|assumption|with_reducible refine(I.type (M:=model b w)).at ?_|with_reducible refine(W.looks_find (M:=model b w) X I e).at ?_|wp_step))
def Q9{a}(X:c.In h)(I:W.InstAt h x l C m)(i:W.findObj c C m f=U (.bind (.builtin jI) (.builtin jw)))(e:W.mroIn c C (.type lC)=U L)
  (j:Q (.done (.ret (.ref C))) (h,g,d,t,a)):
  wpAny (model b w) A (Builtin.«object.__getattribute__» ([.ref x,.str f n],[])) Q E (h,g,d,t,a):=by
 repeat (any_goals (first|assumption|with_reducible refine(I.type (M:=model b w)).at ?_|with_reducible refine(W.looks_find (M:=model b w) X I i).at ?_|wp_step))
 exact W.class_get X I e (zo j)
def Sy{a}(p:Fx m C)(X:m.In h)(I:W.InstAt h x o C n)
  (j:∀i(e:VS)(Q:Fin->js->Prop),Q (.done (.ret v)) (h,g,d,t,a)->wpAny (model c w) i (Builtin.«object.__getattribute__» ([.ref x,.str b f],[])) Q e (h,g,d,t,a)) (l:R (.ok (.ret v)) (h,g,d,t,a)):
  codeAny (model c w) A (.call (.builtin jA) ([.ref x,.str b f],[])) R (h,g,d,t,a):=
 codeAny_call_builtin F.excAttr_ValueError.ga.plain F.entry_bexc_ga (Q7 p X I (j _ _ _ l))
def Sz{e}{a}(p:Fx n C)(X:n.In h)(I:W.InstAt h x B C s)(u:W.handedIn v=L)
  (o:∀l(j:VS)(Q:Fin->js->Prop),Q (.done (.ret v)) (h,g,d,t,e)->wpAny (model b w) l (Builtin.«object.__getattribute__» ([.ref x,.str f m],[])) Q j (h,g,d,t,e)) (r:Q v (h,g,d,t,e)):
  wpAny (model b w) A (getAttrBy (.ref x) (.str f m) a c) Q E (h,g,d,t,e):=by
 have z:=F.excAttr_ValueError.ga.bind (.ref x);have y:(c&&onTheHeap (Value.builtin jA))=O:=by cases c<;>rfl
 have i:(Value.builtin jA == Value.builtin "object.__getattribute__")=O:=by decide +kernel
 have q:(onTheHeap (Value.ref C)&&Value.builtin jA == Value.builtin "object.__getattribute__")=O:=by rw[i];rfl
 repeat (any_goals (first|assumption|with_reducible refine(I.type (M:=model b w)).at ?_|with_reducible refine(W.looks_findIn (M:=model b w) X p.ga).at ?_|with_reducible refine(W.looks_findIn (M:=model b w) X p.gr).at ?_|wp_step))
 apply Sy p X I o
 repeat (any_goals (first|assumption| (rw[W.handedOut_of u];exact zo r)|wp_step))
def S0{a}(p:Fx b C)(X:b.In h)(I:W.InstAt h x o C f)(e:W.findObj b C f c=U (.value v))(j:W.handedIn v=L)(i:Q v (h,g,d,t+1,a)):
  wpAny (model n w) A (getAttr (.ref x) c m) Q E (h,g,d,t,a):=by
 exact zp (wpAny_mkText (Sz p X I j (λq l r z=>Q8 X I e z) i))
def M8{a}(p:Fx b C)(X:b.In h)(I:W.InstAt h x o C c)(i:W.findObj b C c lU=U (.bind (.builtin jI) (.builtin jw)))(e:W.mroIn b C (.type lC)=U L)
  (j:Q (U (.ref C)) (h,g,d,t+1,a)):wpAny (model f w) A (getAttr? (.ref x) lU) Q E (h,g,d,t,a):=by
 exact zp (wpAny_mkText (zp (wpAny_attempt (Sz p X I Y (λq l r z=>Q9 X I i e z) (zo j)))))
def KD(d:(W.clsIn b C).isSome=L)(e:W.findIn b (.ref C) c=U (U a))(h:W.specialIn b a mh=U (U g))(ht:W.takesIn b a=U L):W.findObj b C f c=U (.bind g a):=by
 obtain⟨i,d⟩:=Option.isSome_iff_exists.mp d;unfold W.findObj
 simp_all
structure VF(K:FG)(C:jr):Prop where
 hg:Fx K C
 hc:(W.clsIn K C).isSome=L
 ha:W.findIn K (.ref C) lU=U (U (.builtin jw))
 hn:W.specialIn K (.builtin jw) mh=U (U (.builtin jI))
 htk:W.takesIn K (.builtin jw)=U L
 hm:W.mroIn K C (.type lC)=U L
def S4(k:VF b D):W.KitX b (.ref x) (.ref D) (λh=>W.InstAt h x v D c) where
 ty:=λ_ _ _ I=>I.type
 it:=λ_ _ X _=>by
  have a:=k.hc;unfold W.clsIn at a;split at a
  .rename_i r u o i j;intro y B G C k q;exact zp (wpAny_loadPart (k _ _ (X _ _ j)) (zo q))
  .cases a
 ne:=λh tp z p n sl X l=>by
  have a:=k.hc;refine Bool.eq_false_iff.mpr λq=>?_;have e:=Value.ref.inj (beq_iff_eq.mp q);subst e;unfold W.clsIn at a;split at a
  .rename_i r u o i j;cases ((X _ _ j).symm.trans l)
  .cases a
 ca:=λ{f w A E Q s}X I h=>by
  obtain⟨H,g,d,t,F⟩:=s;exact M8 k.hg X I (KD k.hc k.ha k.hn k.htk) k.hm h
structure ExcP(X:Cx)(e:jr)(oe:Obj)(C:jr):Prop where
 at_:(e,(oe))∈X.pn
 cls:oe.cls=.ref C
 fld:∃vs,oe.data=.fields vs
def ExcP.inst(p:ExcP X e b C)(I:Inv X c g H s)(l:b.dict=J\/∃d u,b.dict=U d/\H d=U u):∃t,W.InstAt s.heap e b C t:=by
 have h:=(I.pin (e,(b)) (zO _ p.at_)).1;obtain⟨F,v⟩:=p.fld;have no:W.notCls b=L:=by unfold W.notCls;rw[v]
 rcases l with z|⟨d,u,z,i⟩
 .exact(J,h,p.cls,no,by rw[z];trivial)
 .have:∃o,s.heap.get? d=U o:=by
   have q:=(I.cy d u i);cases u with
   |lst r=>obtain⟨_,_,_,_,e⟩:=q;exact(_,e)
   |tup r=>obtain⟨_,_,_,o,e,_⟩:=q;exact(o,e)
   |dK a=>obtain⟨_,_,_,_,o,_,_,e,_⟩:=q;exact(o,e)
   |dT a=>obtain⟨_,_,_,_,o,_,_,e,_⟩:=q;exact(o,e)
   |set S n=>obtain⟨o,_,_,_,e,_⟩:=q;exact(o,e)
   |ins C D fs=>obtain⟨_,_,_,e,_⟩:=q;exact(_,e)
   |own y=>exact q
   |xd fs=>obtain⟨_,⟨o,_,_,e,_⟩,_⟩:=q;exact(o,e)
   |rng x B=>obtain⟨_,_,_,e⟩:=q;exact(_,e)
   |dz E u=>exact(_,q.1)
   |fJ A=>exact⟨_,(q)⟩
   |met f y=>exact⟨_,(q)⟩
   |ext G=>exact q.2.1
  obtain⟨o,j⟩:=this;exact(U o,h,p.cls,no,by rw[z];exact j)
def Kw(p:ExcP X e f C)(k:VF X.K C):cH X (.builtin jR) (λg H Q=>∃v c b,g=[.ref e,v]/\((∃D,v=.ref D/\c=.ref D)\/∃T,v=.ty T/\c=.type T)/\(f.dict=J\/∃d u,f.dict=U d/\H d=U u)/\W.kitOne X.K (.ref C) c=U b/\Q (.bl b) H):=by
 rintro h s E H g A Q I r ⟨v,c,b,rfl,x,i,l,q⟩;obtain⟨u,j,rfl,t,a⟩:=Gj r;cases (t);obtain⟨B,m⟩:=p.inst I i
 have y:j=c:=by
  rcases x with⟨D,rfl,rfl⟩|⟨T,rfl,rfl⟩
  .exact a
  .exact a
 subst y;exact W.kia_one (S4 k) I.dZ m l (λz=>nomatch z) λo=>(.bl b,H,I.tok o,rfl,q)
def Lj(b:SpS)(e:jr)(a:Obj)(t:TA):TE:=λf H Q=>t f H λd c=>b e a d c Q
def M9(F:Pu X.prog X.w X.K X.mg X.base k f p g w)(M:RoomS k X.A)(u:X.A.handled=U (.ref e))(al:(e,(oe))∈X.pn)(n:Gl X x)(N:X.mg x=U (.ref f))(R:W.keepIn X.K (.ref f)=L)(E:Binds X.K p g [])
  (m:PA X (a::b) t) (o:fQ x:=by decide) (G:gj X a b:=by rfl) (v:(backTo c (starEach b X.env)).any (·.1)=O:=by rfl):
  PE X (.Call (.Name x an) (a::b) [] c) (Lj w e oe t):=by
 intro j s S H Q I h;refine z0 (CA I n N (W.callWith_K I.ok.mod.kin R (cA (m c j s S H _ I h) λl A ⟨vs,D,d,r,q⟩=>(d.dZ,?_)) G v) o);obtain⟨ag,T,P,ab,C⟩:=d.pin (e,(oe)) (by simp_all);have B:(l++[]).length=g.length:=by rw[zl,←r.length];exact F.len _ _ _ _ _ q
 have y:=E A l d.dZ B;rw[zl]at y;refine wpAny_call (codeAny_mono (F.run X.A X.stack A D (l,[]) l vs Q e oe M d.gp u ag T (λz=>(mem_cons.mp (d.eV e z)).elim P ab) C y r q) λr s' i=>?_);cases r with
 |error e=>exact False.elim i
 |ok fl=>
  cases fl with
  |ret ar=>exact d.after i
  |next=>exact False.elim i
  |brk=>exact False.elim i
  |cont=>exact False.elim i
def S5(a b):MeetsSeq.EqGives (.bool a) (.bool b) (a==b):=λc w A E s Q h=>SeqAt.EqAt.bool_bool a b c w E Q h
theorem Kx:∀{bs:List Bool}{a},Vals (bs.map V.bl) a->a=bs.map Value.bool
 | [],_,.nil=>rfl
 |_::_,_,.cons r t=>by rw[map_cons,←Kx t];cases r;rfl
def VG:V->jq->Hp->VK->Prop:=λx a H Q=>∃(l:jr)(bs:List Bool)(j:Nat),x=.ref l/\a=[.bl L]/\H l=U (.lst (bs.map V.bl))/\bs[j]?=U L/\(∀m,m<j->bs[m]?=U O)/\Q (.int (j:Nat)) H
def RB:MtM X "list.index" VG:=by
 rintro o s N H x S v R Q I E C ⟨l,bs,j,rfl,rfl,b,p,i,q⟩;cases E;obtain⟨u,rfl,t⟩:=C.one;obtain rfl:u=Value.bool L:=t;obtain⟨z,B,n,r,c,e⟩:=I.lstM b;have A:=Kx r;subst A;have d:=(z8.mp p).1
 have D:(j:Int)<2^63-1:=by
  have f:sizeLine<2^62:=by decide
  rw[AO]at z
  lia
 refine call_meets F.slot_list_index (_,e,Y) F.entry_list_index (F.args_list_index_2 _ _)
  (MeetsSeq.list_index l (bs.map Value.bool).toArray n (.bool L) (λy=>match y with|.bool a=>a==L|_=>O) (λy G=>?_) j (by simpa using d) D ?_ λm M h=>?_) (e,?_)
 .obtain⟨a,_,rfl⟩:=zi.mp (List.mem_toArray.mp G);exact S5 a L
 .have:=(z8.mp p).2;simp[this]
 .have:=(z8.mp (i m h)).2;simp[this]
 .exact(.int j,H,I.tok _,(_,Y),q)
noncomputable def iV(f:jr)(o:Obj):HO:=.ext λh=>h.get? f=U o
noncomputable def Gv(c:jr)(a:Str):HO:=.ext λh=>h.CodeRec (.ref c) a
noncomputable def Gw(P:Program)(w:World)(g:FG)(mg:SV)(base:Heap)(N:jm)(c:Str)(d:Scope)(f:jr)(a:Value)(b:List (Str×jr))(A:Around)(outer:List Env)(s:js)(H:Hp)(E:XK):Cx where
 prog:=P
 w:=w
 K:=g
 mg:=mg
 base:=base
 A:=A.deeper (W.envX c d s.heap.objs.size f a b)
 N:=N
 cG:=s
 eR:=H
 env:=W.envX c d s.heap.objs.size f a b
 outer:=outer
 stack:=W.envX c d s.heap.objs.size f a b::outer
 ex:=[]
 calm:=L
 fn:=λ_=>O
 pn:=[]
 xe:=λe j=>wpAny (model P w) (A.deeper (W.envX c d s.heap.objs.size f a b)) (leaving (W.envX c d s.heap.objs.size f a b) e) (λ_ h=>d6 P w outer H s E e h) (λi h=>d6 P w outer H s E i h) j
structure JV(N:jm)(scope:Scope)(cl:List (Str×jr))(σ:St)(H:Hp)(h:Heap):Prop where
 inj:∀x y c,cl.lookup x=U c->cl.lookup y=U c->x=y
 has:∀x,(scope.names.lookup x=U .cell\/scope.names.lookup x=U .free)->∃c,cl.lookup x=U c
 cell:∀x c,cl.lookup x=U c->(∃v,h.IsCell c v)/\H c=J
 val:∀(i:Nat)x v,N[i]?=U x->σ[i]?=U (U v)->scope.names.lookup x=U .free/\∃u c,RelV v u/\cl.lookup x=U c/\h.IsCell c (U u)
 len:σ.length=N.length
def Z8:Gu (Gw P w i d a N g h f b c A e s H E):=(rfl,rfl,rfl)
def BJ:BK (d6 P w) (Gw P w u m b N r t f c g A n s H E) E:=by
 rintro a o l j e p I ⟨h,C,i,d,rfl,F,q⟩;exact zn (JT Z8 I F) (λ_ s3 G=>(h,C,i,d,Y,G,q)) λ_ _ z=>z
def Ol(q:g.kind=.function)(t:A.handled=J)(a:fg P w R M m A Q s H)(C:JV N g n ab H s.heap)(D:l.Ns s.heap.objs.size T)(B:∀b o,s.heap.get? b=U o->l.get? b=U o):
  Inv (Gw P w R M m N X g f S n A Q s H E) [] ab H {s with heap:=l,toks:=tk}:=by
 have d:∀b,b∉ (Gw P w R M m N X g f S n A Q s H E).ex:=λb z=>absurd (show b∈([])from z) (by simp);have j:∀{c:jr}{v:Option Value},s.heap.IsCell c v->l.IsCell c v:=λ{c v} ⟨o,F,t⟩=>(o,B _ _ F,t)
 refine((a.mod,q,Y,Y,zq _,C.inj,C.has,λy c z _=>(by trivial),λ_=>t,Around.frames_deeper a.frames,.inr (Y,Y),λb z=>absurd z (d b),a.bs,a.gA,λb _ _=>d b,λb z=>absurd z (d b),a.d7,a.gP),
  rfl,a.bare,Un.kept B,(T,D,λi x v l I ag=>?_),λy c h=>?_,a.cy.fresh (zq _),λy c h=>(C.cell y c h).2,λp G=>absurd (show p∈([])from G) (by simp),a.cy.kept B,C.len)
 .obtain⟨k,u,c,r,e,z⟩:=C.val i x v l I;exact(u,r,.inr (.inr k,c,e,j z))
 .obtain⟨⟨v,z⟩,_⟩:=C.cell y c h
  grind
def S6(F:bJ k A)(p:fg P w as X G A v s H)(C:JV N c g y H s.heap)
  (M:s.heap.get? f=eq (W.kla_obj ab m ag n c g pm u B)) (t:s.heap.CodeRec (.ref u) m) (a:bindArgs (W.kla_fn ab m ag n c g pm (.ref u) B) ([],[])=pure [])
  (D:c.isCoroutine=O) (l:c.isGenerator=O) (I:c.kind=.function) (i:∀x∈c.names,x.2≠ .cell)
  (z:PE (Gw P w as X G N m c f (.ref u) g A v s H E) n tb) (h:tb y H Q):codeAny (model P w) A (.call (.ref f) ([],[])) (CR (d6 P w) v P w H s Q E) s:=by
 apply W.kla_callFunE F.depth M rfl D l rfl t;rw[a];refine zo (wpAny_newFunctionEnv i (λaM S=>nomatch S) (λaz r j=>((p.mod.nolimit.keeps λb o e=>(p.bs b o e).1).fresh _ j,?_)) I);have d:=λb o e=>j.extBut b o (zw (lt_size e)) (zV _ e);exact W.kla_codeExpr (zn (z [] _ y H Q (Ol (tk:=s.toks+([]:List (Str×Value)).length) I F.hd p C r d) h) (λaC R zz=>by obtain⟨x,T,al,an,q⟩:=zz;exact (x,T,al.os,al.bare,al.base,al.cy,an,q)) λe R ar=>ar)
def Inv.cells(I:Inv X g m H s)(C:JV N f b d X.eR X.cG.heap)(h:∀x c,b.lookup x=U c->c∉ X.fs)(q:X.ex=[]):JV N f b d H s.heap:=by
 have kp:∀x c v,b.lookup x=U c->X.cG.heap.IsCell c v->s.heap.IsCell c v:=λx c v e ⟨o,a,j⟩=>(o,I.base.keep c o a (C.cell x c e).2 (h x c e) (by simp_all),j);refine(C.inj,C.has,λx c e=>?_,λi x v l p=>?_,C.len)
 .obtain⟨⟨v,z⟩,n⟩:=C.cell x c e;obtain⟨o,a,_⟩:=id z;exact((v,kp x c v e z),I.base.free c o a n (by simp_all))
 .obtain⟨k,u,c,r,e,z⟩:=C.val i x v l p
  grind
def NA(i:Nat)(f a:jr)(b:Str)(o:Obj)(d:St)(c:TE):TE:=λe H Q=>e[i]?=U (U (.ref f))/\H f=U (iV f o)/\H a=U (Gv a b)/\c d H Q
def Om             
  (R:X.N[i]?=U x) (w:Vis X.env.scope x) (p:bJ k X.A) (C:JV n b g as X.eR X.cG.heap) (az:∀x c,g.lookup x=U c->c∉ X.fs) (D:X.ex=[]) (hx:BK (d6 X.prog X.w) X E)
  (d:bindArgs (W.kla_fn an l ar m b g pm (.ref z) A) ([],[])=pure [])
  (B:b.isCoroutine=O) (al:b.isGenerator=O) (t:b.kind=.function) (h:∀x∈b.names,x.2≠ .cell)
  (N:∀s H,PE (Gw X.prog X.w X.K X.mg X.base n l b f (.ref z) g X.A X.stack s H E) m tb) (q:fQ x:=by decide) (aC:(x==(n8:Str))=O:=by decide):
  PE X (.Call (.Name x aR) [] [] a0) (NA i f z l (W.kla_obj an l ar m b g pm z A) as tb):=by
 rintro a s P H aM I ⟨M,h2,h3,ag⟩;refine z0 (cA (R7 R w q aC a s P H (λv Q=>v=.ref f/\Q=H) I (_,M,rfl,rfl)) λu y zz=>?_);obtain⟨v,F,j,r,S,T⟩:=zz;subst S T;obtain rfl:u=Value.ref f:=r;obtain⟨G,_,_⟩:=j.cy _ _ h2;obtain⟨ab,_,_⟩:=j.cy _ _ h3;refine callWith_meth0 rfl G (wpAny_call (codeAny_mono (S6 p j.gp (j.cells C az D) G ab d B al t h (N y F) ag) λr s' o=>?_));cases r with
 |error e=>exact hx a P F y e s' j o
 |ok fl=>
  cases fl with
  |ret u=>exact j.after o
  |next=>exact False.elim o
  |brk=>exact False.elim o
  |cont=>exact False.elim o
def cC.at{st}(F:cC g x c st f T)(S:AH N i (defScope st))(D:vs.length=i.length)
  (j:bJ (k+1) A) (e:fg P w g mg G A outer s H) (r:BindsTo s T u (i.zip C)) (az:Vals vs C)
  (d:∀a,bJ k (A.deeper (envOfC c (defScope st) s.heap.objs.size f a))->∃t,fk (Bf p P w g mg G N c (defScope st) f a A outer s H E) (defBody st) t/\t {nx:=λ_ h=>Q .bQ h,rt:=Q} (start N vs) H):
  codeAny (model P w) A (.call (.ref f) u) (CR p outer P w H s Q E) s:=by
 obtain⟨oc,od,kV,aM,pm,an,a,ct,aR,rfl,I,l⟩:=F.ex;have B:=e.mod.kin.keeps λb o z=>(e.bs b o z).1
 have X:∀y∈i.zip C,(defScope st).names.lookup y.1=U .local\/((defScope st).names.lookup y.1=U .cell/\((cellsFrom (s.heap.objs.size+1) (defScope st).names []).lookup y.1).isSome=gl):=λ⟨n,v⟩ ar=>by
  rcases S.par n (of_mem_zip ar).1 with q|q
  .simp_all
  .exact .inr (q,W.cellsFrom_some _ _ _ (.inl q))
 refine codeAny_call_function j.depth (B _ _ I) rfl S.co S.gen rfl (W.codeRec_of B l) (r _ _ _ _ (wpAny_newFunctionEnv_cells S.kind X λaC ag al x=>?_));subst ag;refine((e.mod.nolimit.keeps λb o z=>(e.bs b o z).1).keeps x.toInCall.keep,codeAny_func ?_);obtain⟨t,ht,M⟩:=d a (j.deeper _);refine zn (ht [] al (start N vs) H _ (He S j.hd e D az x) M) (λfl s' z=>?_) λ_ _ z=>z;cases fl with
 |ret a0=>
  obtain⟨v,as,h,ab,R,q⟩:=z;exact(v,h,ab.os,ab.bare,ab.base,ab.cy,R,q)
 |next=>
  obtain⟨as,h,ab,q⟩:=z;exact(.bQ,h,ab.os,ab.bare,ab.base,ab.cy,zd,q)
 |brk=>
  obtain⟨_,_,_,q⟩:=z;exact q.elim
 |cont=>
  obtain⟨_,_,_,q⟩:=z;exact q.elim
def Im{d:PySem.Pos}{q}(e:(q.line==d.line&&q.col==d.col)=O)(l)(h:TriplesOk l):codeAmong q (l++[rawInt d.line,rawInt d.col,c])=codeAmong q l:=by
 fun_induction TriplesOk l with
 |case1=>
  have:(d.line==(q.line:Int)&&d.col==(q.col:Int))=O:=by
   rw[Bool.and_eq_false_iff]at e ⊢;rcases e with z|z
   .grind
   .grind
  simp[codeAmong,rawInt,this]
 |case2 a t b u x i o=>
  simp[List.cons_append,codeAmong]
  simp[*]
 |case3 l j p=>trivial
def cU(H:Hp)(a:jr)(c:Str)(b:List Pos):Prop:=∃d,H a=U (.fJ d)/\TriplesOk d.toList/\∀q∈b,codeAmong q d.toList=J\/∃e,codeAmong q d.toList=U (.ref e)/\H e=U (Gv e c)
def Ky(c:jr)(H a:Hp):Prop:=∀b u,b≠c->H b=U u->a b=U u
structure XJ(X:Cx)(c P0:jr):Prop where
 code:X.env.code=.ref c
 hd:W.CodeHd X.base c P0
 bu:X.base.BuiltinsAt X.mg P0
def Z9(a:jr)(b:Str)(c:List Pos)(o:jr->Value->Obj):TE:=λh H Q=>cU H a b c/\∀f e g d,H f=J->Ky a H d->cU d a b c->d f=U (iV f (o e g))->d e=U (Gv e b)->Q (.ref f) d
def VH(r:h.CodeRec (.ref d) c):df P w H h d (Gv d c):=by
 obtain⟨q,y,A,t,e,j,p,x⟩:=id r;cases e;exact(r,(_,j),λv z v k=>by obtain⟨u,o,i,t2,l,a,b⟩:=v;cases l;exact(_,o,i,t2,Y,k _ a,b))
def WP(r:h.get? f=U o):df P w H h f (iV f o):=(r,(_,r),λd e a k=>k _ a)
def XM(r:XJ X bd c)(hm:a∈ls)(cb:∀q∈ls,q=a\/(q.line==a.line&&q.col==a.col)=gt)
  (D:closureFor g X.env=pure p) (aR:defaultsOf f X.env=([],([]))):
  PE X (.Lambda f m g a) (Z9 c (X.env.qual ++ jy) ls (λh d=>W.kla_obj jy (X.env.qual ++ jy) f m g p ((X.mg j8).getD .none) h d)):=by
 rintro ba s be H bc I ⟨⟨T,hP,ht,S⟩,k⟩;have bk:=λb o e=>(I.bs b o e).1;have E:s.heap.get? c=U (W.tabObj T):=I.cy _ _ hP;have an:=I.ok.mod.glob.keeps bk
 have a9:mainGlobals≠c:=λq=>by
  obtain⟨o,es,ep,e,_⟩:=I.ok.mod.glob
  simp_all
 have C:=r.hd.keeps bk
 have B:s.heap.BuiltinsAt X.mg c:=by
  obtain⟨bm,o,a1,a2,a3,a4,a5,a6⟩:=r.bu;exact(bm,o,a1,a2,a3,a4,bk _ _ a5,a6)
 apply W.kla_eval aR;rcases S a hm with hn|⟨h,hf,a0⟩
 .refine W.kla_makeFunction D I.ok.glob an r.code C E ht hn a9 B λh d j Q hx al A aM F=>?_;have kp:∀b o,b≠c->s.heap.get? b=U o->(j.push (W.kla_obj jy (X.env.qual ++ jy) f m g p ((X.mg j8).getD .none) h d)).get? b=U o:=λb o n e=>zV _ (hx b o n e);have lt:∀b u,H b=U u->b<s.heap.objs.size:=λb u e=>I.cy.lt e;have as:=Nat.le_trans al (Nat.le_of_lt A);have a7:h≠c:=λz=>by grind
  have a8:=zw A;generalize i:upd (upd (upd H c (.fJ (T++#[rawInt a.line,rawInt a.col,.ref h]))) h (Gv h (X.env.qual ++ jy))) j.objs.size (iV j.objs.size (W.kla_obj jy (X.env.qual ++ jy) f m g p ((X.mg j8).getD .none) h d))=t
  have ar:∀b,b<s.heap.objs.size->b≠c->t b=H b:=λb w n=>by
   rw[←i,AE (zw (zZ w as)),AE (zw (zZ w al)),AE n]
  have ag:t c=U (.fJ (T++#[rawInt a.line,rawInt a.col,.ref h])):=by rw[←i,AE (Ne.symm (λz=>by grind)),AE (Ne.symm a7),bA]
  have l:t h=U (Gv h (X.env.qual ++ jy)):=by rw[←i,AE a8,bA]
  have G:t j.objs.size=U (iV j.objs.size (W.kla_obj jy (X.env.qual ++ jy) f m g p ((X.mg j8).getD .none) h d)):=by rw[←i,bA]
  have aC:∀b u,H b=U u->(∀qs,u≠ .fJ qs)->b≠c:=λb u e n z=>by grind
  have un:Un X.fs [] H t s.heap (j.push (W.kla_obj jy (X.env.qual ++ jy) f m g p ((X.mg j8).getD .none) h d)):=by
   have N:∀b,H b=f8->b≠c:=λb n z=>by simp_all
   refine(λb o q n _ _=>kp b o (N b n) q,λb o q n _ _=>(o.slots,kp b o (N b n) q),λb o q n _=>by rw[ar b (lt_size q) (N b n)];exact n,λb o q _=>?_,λb xs e=>?_,λb o u e=>?_,λb qs e=>?_)
   .by_cases z:b=c
    .subst z;exact(_,zV _ F)
    simp_all
   .simp_all
   .simp_all
   .by_cases z:b=c
    .grind
    simp_all
  have cy:eA X.prog X.w t (j.push (W.kla_obj jy (X.env.qual ++ jy) f m g p ((X.mg j8).getD .none) h d)):=λb u e=>by
   by_cases z1:b=j.objs.size
   .subst z1;rw[G]at e;cases e;exact WP (zM _ Y)
   by_cases z2:b=h
   .subst z2;rw[l]at e;cases e;obtain⟨c1,oc,vs,bb,ec,ho,hd⟩:=aM;exact VH (c1,oc,vs,bb,ec,zV _ ho,hd)
   by_cases z3:b=c
   .subst z3;rw[ag]at e;cases e;exact zV _ F
   .refine(I.cy b u (by rwa[←i,AE z1,AE z2,AE z3]at e)).fq (λy o w q=>kp y o ?_ q) (λy q=>?_) λy xs q=>?_
    .grind
    .simp_all
    simp_all
  have v:=I.un (t':=Q) un cy;refine(.ref j.objs.size,t,v,Y,k _ h d t (I.cy.fresh as) (λb u n e=>by simp_all) (_,ag,?_,λq x=>?_) G l)
  .rw[Array.toList_append];exact TriplesOk_snoc _ _ _ _ ht
  .rw[Array.toList_append];rcases cb q x with z|z
   .subst z;exact .inr (h,codeAmong_snoc _ ht hn,l)
   .rw[Im z _ ht];rcases S q x with az|⟨M,y1,R⟩
    .simp_all
    .exact .inr (M,y1,by rw[ar M (lt _ _ R) (aC M _ R λ_ az=>nomatch az)];exact R)
 .refine W.kla_makeFunctionHit D I.ok.glob an r.code C E ht hf B λd j Q hk ab=>?_;have v:=I.laid (t':=Q) (o:=iV j.objs.size (W.kla_obj jy (X.env.qual ++ jy) f m g p ((X.mg j8).getD .none) h d)) (λb o e=>zV _ (hk b o e)) ab (WP (zM _ rfl));have fr:=I.cy.fresh ab
  have P:∀b u,H b=U u->upd H j.objs.size (iV j.objs.size (W.kla_obj jy (X.env.qual ++ jy) f m g p ((X.mg j8).getD .none) h d)) b=U u:=λb u e=>by
   rwa[AE (AK e fr)]
  refine(.ref j.objs.size,_,v,Y,k _ h d _ fr (λb u _ e=>P b u e) (T,P _ _ hP,ht,λq x=>?_) bA (P _ _ a0))
  grind
def cC.gD{st}(F:cC C x z st f G)(S:AH N g (defScope st))(len:∀b H Q E,B b H Q E->b.length=g.length)
  (d:∀a A c s H b Q E,bJ k (A.deeper (envOfC z (defScope st) s.heap.objs.size f a))->B b H Q E ->
   ∃t,fk (Bf (d6 P w) P w C I D N z (defScope st) f a A c s H E) (defBody st) t/\t {nx:=λ_ o=>Q .bQ o,rt:=Q} (start N b) H):bH P w C I D (d6 P w) (k+1) f G g B:=by
 obtain⟨v,r,kV,p,q,y,a,u,j,rfl,l,e⟩:=F.ex;exact Pg l e S len λA c s H b Q E i h=>d a A c s H b Q E i h
structure BdX(P:Program)(w:World)(K:FG)(mg:SV)(base:Heap)(f:jr)(qual:Str)(st:Stmt)(N ps:jm)(k:Nat)(vs:jq)(H:Hp)(Q:VK)(E:XK):Prop where
 len:vs.length=ps.length
 ok:∀bf A outer s,bJ k (A.deeper (envOfC qual (defScope st) s.heap.objs.size f bf)) ->
  ∃t,fk (Bf (d6 P w) P w K mg base N qual (defScope st) f bf A outer s H E) (defBody st) t/\t {nx:=λ_ H'=>Q .bQ H',rt:=Q} (start N vs) H
def cC.n{d}{st}{a}{k}(F:cC e x d st f i)(S:AH N a (defScope st))(h:∀b H Q E,sp b H Q E->BdX P w e j g f d st N a k b H Q E):
  bH P w e j g (d6 P w) (k+1) f i a sp:=F.gD S (λb H Q E q=>(h b H Q E q).len) λc A o s H b Q E r q=>(h b H Q E q).ok c A o s r
structure FunD(K:FG)(x qual:Str)(st:Stmt)(f:jr)(fd:FuncData):Prop where
 ex:∃(oc:Value)(od:Option jr)(dV kV doc pm:Value)(an:Option jr)(bf ct:Value)(iw:Array (Option Value)),
  fd=W.fnOf x qual (defArgs st) (defBody st) (defScope st) dV kV doc pm an bf ct/\K.lookup f=U (oc,od,.func fd,iw)/\W.codeIn K bf qual=L
def FunD.ok{g}{st}{e}{k}(F:FunD n x g st f I)(S:AH N e (defScope st))(len:∀b H Q E,m b H Q E->b.length=e.length)
  (d:∀a A c s H b Q E,bJ k (A.deeper (envOfC g (defScope st) s.heap.objs.size f a))->m b H Q E ->
   ∃t,fk (Bf cF P w n M G N g (defScope st) f a A c s H E).gX (defBody st) t/\t {nx:=λ_ u=>Q .bQ u,rt:=Q} (start N b) H):bH P w n M G cF (k+1) f I e m:=by
 obtain⟨B,C,D,kV,p,y,v,a,z,r,rfl,l,i⟩:=F.ex;refine Pg l i S len λA c s H b Q E o j=>?_;obtain⟨t,h,q⟩:=d a A c s H b Q E o j;exact(t,h.gX,q)
end L2
namespace L2
open PySem PySem.Spec PyProof.Rows Builtin Builtin.ObjectAttr
noncomputable def JW(C M:jr):jo:=[.ref C,.ref M,.type jK,.type "Exception",.type ki,.type lC]
def VJ(X:m.In s.heap)(D:s.heap.get? x=U j)(z:j.cls=.ref C)(B:j.dict=J)(Q:j.data=.fields vs)(G:W.clsIn m C=U e)(i:e.mro=JW C ag)(p:e.hasDict=L)(S:W.findIn m (.ref C) d=U J)
  (h:∀(c:Heap)E,c.get? x=U {j with dict:=U s.heap.objs.size}->c.Ns1 s.heap.objs.size (λy=>if y=d then U v else J)->(∀b o,b≠x->s.heap.get? b=U o->c.get? b=U o)->R (.ok (.ret .none)) {s with heap:=c,toks:=E}):
  codeAny (model f w) A (.call (.builtin jU) ([.ref x,.str d g,v],[])) R s:=by
 have q:=store_object;have I:W.InstAt s.heap x j C J:=(D,z,by unfold W.notCls;rw[Q],by rw[B];trivial);have ne:e.mro.isEmpty=O:=by rw[i];rfl
 refine codeAny_call_builtin q.slot.plain q.entry (@W.check_slot (model f w) _ _ s jU lC lh (.ref x) [.str d g,v] [] _ q.kind q.split (I.type.andThen (W.looks_mroIn X (by unfold W.mroIn;rw[G,Option.bind_some,i];rfl))) (q.args (.ref x) (.str d g) v) ?_);have P:W.Looks (model f w) s.heap (mroOf (.ref C)) e.mro:=(W.looks_clsIn X G).andThen .now;have ab:W.Looks (model f w) s.heap (storeTaker? J) J:=.now;rw[W.osa_eq];refine zp (zp (I.type.here (zp (P.here ?_))));rw[i];refine zo (zp (I.type.here (zp ((W.looks_findIn X S).here (zp (ab.here ?_))))));obtain⟨oc,aR,al,iw⟩:=j;subst z B Q;refine zp (zo (zp (zp (wpAny_loadPart D (zp ((W.looks_clsIn X G).here ?_))))));rw[p];have a:(s.heap.push {cls:=.type kg,data:=.dict #[]}).get? x=U _:=zV _ D;have u:=zw (lt_size D);obtain⟨l,aC,an,a0,os⟩:=s;refine zp (wpAny_alloc' (zp (wpAny_update' a ?_)));apply zo
 have M:((l.push {cls:=.type kg,data:=.dict #[]}).update x λo=>{cls:=o.cls,dict:=U l.objs.size,data:=o.data,slots:=o.slots}).get? l.objs.size=U {cls:=.type kg,data:=.dict #[]}:=
  (Heap.get?_update_ne _ _ _ _ u.symm).trans (Heap.get?_push_at rfl rfl)
 have H:((l.push {cls:=.type kg,data:=.dict #[]}).update x λo=>{cls:=o.cls,dict:=U l.objs.size,data:=o.data,slots:=o.slots}).Ns l.objs.size (λ_=>J):=
  (_,#[],_,M,rfl,λar T=>absurd T (by simp),λ_=>rfl)
 refine zp (zo (zp (wpAny_nsSet1 (Heap.Ns1.of_empty H) λc r n=>?_)));obtain⟨oD,az,as,hoD,F,aM⟩:=r.count (Within.cons d v Within.nil);refine zp (wpAny_lookBehind hoD (by rw[F];exact pastItsLine_dict (by grind)) ?_)
 wp_walk
 exact h c _ ((n.2 x u).trans (zS _ a Y)) r λb ob t N=>(n.2 b (zw (lt_size N))).trans ((Heap.get?_update_ne _ _ _ _ t).trans (zV _ N))
def VL(X:g.In s.heap)(q:s.heap.get? x=U j)(l:j.cls=.ref C)(e:j.dict=J)(r:j.data=.fields D)(u:W.clsIn g C=U m)(p:m.mro=JW C M)(i:m.hasDict=L)(t:W.findIn g (.ref C) n=U J)
  (z:W.findIn g (.ref C) lh=U (U (.builtin jU)))
  (h:∀(f:Heap)d,f.get? x=U {j with dict:=U s.heap.objs.size}->f.Ns1 s.heap.objs.size (λy=>if y=n then U v else J)->(∀b o,b≠x->s.heap.get? b=U o->f.get? b=U o)->Q () {s with heap:=f,toks:=d}):
  wpAny (model B w) A (setAttr (.ref x) n v) Q E s:=by
 have I:W.InstAt s.heap x j C J:=(q,l,by unfold W.notCls;rw[r],by rw[e];trivial);exact W.set_plain X I z (VJ X q l e r u p i t λf d a b c=>h f d a b c)
end L2
namespace L2
open PySem PySem.Spec PyProof.Rows
structure NB(K:FG)(C M:jr)(f:Str):Prop where
 cls:∃a,W.clsIn K C=U a/\a.mro=JW C M/\a.hasDict=L
 nf:W.findIn K (.ref C) f=U J
 sa:W.findIn K (.ref C) lh=U (U (.builtin jU))
def YY(c:FG)(M:jr)(a b:TE)(f:Str):TS:=λD h H=>b h H λy i=>a h i λx g=>∃e C,x=.ref e/\g e=U (Fe e C J)/\NB c C M f /\
 ∀d,g d=J->d≠e->D.nx h (upd (upd g e (Fe e C (U d))) d (.xd [(f,(y))]))
def Px(ha:PE X o ta)(hv:PE X a tv)(hs:swapsWith a (U (.Attribute o f as)) ar.line X.env=pure gt):PS X (.Assign [.Attribute o f as] a ar) (YY X.K M ta tv f):=by
 intro l aC g H aR I an;refine plainObj_wpAny_Assign_Attribute (cA (hv l aC g H _ I an) λu s1 ⟨y,H1,I1,ry,q⟩=>cA (ha l s1 g H1 _ I1 q) λov i zv=>?_) hs;obtain⟨a2,p,t,rx,e,C,ex,P,S,q2⟩:=zv;subst ex;obtain rfl:ov=Value.ref e:=rx;obtain⟨⟨s,Q,x,r,a3,D,a5,a6,a7⟩,_,_⟩:=t.cy _ _ P;obtain⟨cd,hc,hm,hd⟩:=S.cls;refine VL t.dZ x r a3 D hc hm hd S.nf S.sa λh' E hx hn G=>?_;have A:=Nat.ne_of_gt (lt_size x);generalize d:upd (upd p e (Fe e C (U i.heap.objs.size))) i.heap.objs.size (.xd [(f,(y))])=c;have lt:∀b u,p b=U u->b<i.heap.objs.size:=λb u z=>t.cy.lt z;have F:∀b,b<i.heap.objs.size->b≠e->c b=p b:=λb B n=>by rw[←d,AE (zw B),AE n]
 have ab:c e=U (Fe e C (U i.heap.objs.size)):=by rw[←d,AE (Ne.symm A),bA]
 have T:c i.heap.objs.size=U (.xd [(f,(y))]):=by rw[←d,bA]
 have next:∀b u,p b=U u->(∀aM,u≠ .ext aM)->b≠e:=λb u z n w=>by subst w;rw[P]at z;cases z;exact n _ rfl
 have m:∀b,p b=f8->b≠e:=λb z w=>by simp_all
 have un:Un X.fs [] p c i.heap h':=by
  refine(λb j z n _ _=>G b j (m b n) z,λb j z n _ _=>(j.slots,G b j (m b n) z),λb j z n _=>by rw[F b (lt_size z) (m b n)];exact n,λb j z _=>?_,λb xs z=>?_,λb j w z=>?_,λb ps z=>(#[],?_))
  .grind
  .simp_all
  .simp_all
  .simp_all
 have N:eA X.prog X.w c h':=λb w z=>by
  by_cases B:b=i.heap.objs.size
  .subst B;rw[T]at z;cases z;refine(_,hn,λal=>?_);by_cases R:al=f
   .subst R;simp;exact ry
   .simp[zh R,zr,beq_eq_false_iff_ne.mpr R];trivial
  by_cases v:b=e
  .subst v;rw[ab]at z;cases z;exact((_,Q,hx,r,zd,D,a5,a6,a7),(_,hx),λh1 h2 zy k=>by obtain⟨s,Q,ag,az⟩:=zy;exact (s,Q,k _ ag,az))
  .refine(t.cy b w (by rwa[←d,AE B,AE v]at z)).fq (λh j a0 q=>G h j ?_ q) (λh q=>?_) λh xs q=>?_
   .grind
   .simp_all
   simp_all
 have q3:=q2 i.heap.objs.size (t.cy.fresh (zq _)) A;rw[d]at q3;exact(g,c,t.un (t':=E) un N,q3)
def JX(P:Gl X x)(B:X.mg x=U (.ref C))(G:W.specialIn X.K (.ref C) kQ=U (U (.builtin lW)))(l:W.readsIn X.K C u=L)(N:W.findCls X.K (.ref C) u g=U (.val (.ref f)))
  (F:bH X.prog X.w X.K X.mg X.base n k f T ps sp) (A:bJ k X.A) (s:W.keepIn X.K (.ref f)=L) (v:Binds X.K T ps S) (D:Vals j S) (w:BK n X E) (z:PA X (e::c) t) (d:fQ x:=by decide)
  (y:gj X e c:=by rfl) (i:(backTo b (starEach c X.env)).any (·.1)=O:=by rfl)
  (ht:eval (.Call (.Attribute (.Name x np) g m) (e::c) [] b) X.env=(do
   let p ←eval (.Name x np) X.env
   standAt m.atName
   let (f,first) ←holding [p] (getMethod p g pl)
   callWith b f first (backTo b (starEach (e::c) X.env)) (backToKw b (keywordEach [] X.env))):=by rfl):
  PE X (.Call (.Attribute (.Name x np) g m) (e::c) [] b) (Me sp j E t):=by
 intro a an M H Q I h;refine W.methodCall_KW (CA I P B ?_ d) ht;refine W.method_cls I.dZ G (W.cls_value I.dZ l N Y (W.callWith_K I.ok.mod.kin s (cA (z b a _ M H _ (I.tok _) h) λag ab ⟨al,R,o,r,q⟩=>(o.dZ,?_)) y i));exact LV F A v D w o r q
def YZ(c:Str)(a:TE):TE:=λd H Q=>a d H λx b=>((∃i,x=.int i/\i.natAbs.log2<1920)\/(∃z,x=.str z/\z.length<=1000)\/x=.bQ)/\∀z,Q (.str z) b
def Az(a b:Str):(a++b).length=a.length+b.length:=strLen_append a b
def Py(D:c.length<=1000)(p:PE X e b):PE X (.JoinedStr [.Constant (.str c) C F,.FormattedValue e (-1) J f] g) (YZ c b):=by
 intro d s v H Q I h;refine JoinedStr_many (joinParts_cons (Calls.Constant_str ?_));have y:(Str.empty++c).length<=1000:=by rw[Az];show 0+c.length<=1000;simp_all
 have sz:3000<=sizeLine:=by decide
 refine(Nat.le_trans y (Nat.le_trans qc sz),joinParts_cons (wpAny_FormattedValue_plain (cA (p d _ v H _ (I.tok _) h) λu E ⟨x,j,l,r,q,k⟩=>?_)));rcases q with⟨i,rfl,o⟩|⟨z,rfl,B⟩|rfl
 .obtain⟨t,rfl⟩:=r;apply PySem.wpAny_formatField_int o;have A:(Str.ofString (toString i)).length<=1921:=by rw[PySem.ofString_length];exact int_text_length_le qc o
  have a:((Str.empty++c)++Str.ofString (toString i)).length<=sizeLine:=by
   rw[Az]
   lia
  exact(a,joinParts_nil (.str _,j,(l.tok _).tok _,(_,Y),k _) a)
 .obtain⟨t,rfl⟩:=r
  have a:((Str.empty++c)++z).length<=sizeLine:=by
   rw[Az]
   lia
  exact PySem.wpAny_formatField_str (a,joinParts_nil (.str _,j,l.tok _,(_,Y),k _) a) (a,joinParts_nil (.str _,j,(l.tok _).tok _,(_,Y),k _) a) (by lia)
 .obtain rfl:u=Value.none:=r
  have a:((Str.empty++c)++("None")).length<=sizeLine:=by
   have:("None":Str).length=4:=by decide +kernel
   rw[Az]
   lia
  exact PySem.wpAny_formatField_none (a,joinParts_nil (.str _,j,(l.tok _).tok _,(_,Y),k _) a)
structure Ya(K:FG)(C:jr)(f:Str):Prop where
 hg:Fx K C
 hh:W.hasDictIn K C=L
 ha:W.findIn K (.ref C) f=U J
def S7(e:jr)(a:Obj)(f:Str)(b:TE):TE:=λg H Q=>b g H λx c=>∃d fs v,x=.ref e/\a.dict=U d/\c d=U (.xd fs)/\fs.lookup f=U v/\Q v c
def VM(p:ExcP X e b C)(g:Ya X.K C f)(B:PE X o c)(z:attributeBase o f X.env (eval o X.env)=eval o X.env):PE X (.Attribute o f m) (S7 e b f c):=by
 intro a s F H Q I h;refine Pe z (cA (B a s F H _ I h) λu T k=>?_);obtain⟨x,y,j,P,d,fs,v,R,E,M,l,q⟩:=k;subst R;obtain rfl:u=Value.ref e:=P;obtain⟨S,A,r⟩:=j.cy _ _ M;obtain⟨ab,D,t⟩:=KR A;obtain⟨w,n,i⟩:=eJ.some_of (by rw[←l];exact r f);have G:=(j.pin (e,(b)) (zO _ p.at_)).1;obtain⟨ag,N⟩:=p.fld;exact S0 g.hg j.dZ ((G,p.cls,by unfold W.notCls;rw[N],by rw[E];exact D)) (W.findObj_own g.hh g.ha Y (by rw[t,n])) (KS i) (v,y,j.tok _,i,q)
structure eB(X:Cx)(e C:jr)(dx:Option jr)(H2:Hp)(s2:js):Prop where
 os:s2.os=X.cG.os
 bare:AllBare s2.gens
 un:Un (dj X.outer) [] X.eR H2 X.cG.heap s2.heap
 cy:eA X.prog X.w H2 s2.heap
 at_:H2 e=U (Fw e C dx)
 fn:s2.heap.FunFrames X.base X.stack
 free:∀b∈dj X.stack,H2 b=J
 fr:X.A.frames=U X.stack
 new:∀b o,X.cG.heap.get? b=U o->b∉ dj X.outer->b∉ dj X.stack
 up:∀b,b∈dj X.outer->b∈dj X.stack
theorem Kz{h c:Heap}:∀{l},(∀b∈dj l,∀o,h.get? b=U o->∃sl,c.get? b=U {o with slots:=sl})->h.FunFrames f l->c.FunFrames f l
 | [],_,_=>trivial
 |a::r,m,⟨q,⟨g,o,j,n,s,p⟩,d⟩=>by
  have i:g∈dj (a::r):=by unfold dj;rw[zL,j];exact zH
  have sub:∀b∈dj r,b∈dj (a::r):=λb z=>by unfold dj;rw[zL,j];exact zQ _ z
  obtain⟨sl,e⟩:=m g i o s;exact(q,(g,_,j,n,e,p),Kz (λb z=>m b (sub b z)) d)
def VN(c:Gu X)(I:Inv X P ar g m)(G:iW X.prog X.w X.stack g m e C w f s):eB X e C w f s/\iE e f X.cG s .none:=by
 obtain⟨F,u,an,T,al,E,x,r,D,ab,t,H,y,ag,M⟩:=G;have d:Un (dj X.outer) [] X.eR g X.cG.heap m.heap:=by have:=I.base;rw[c.ex]at this;exact this
 have h:∀b∈dj X.stack,f b=J:=λb a=>by
  obtain⟨_,o,B,_⟩:=I.stack.mem a;exact F.un.free b o B (I.stkFree b a) (by simp)
 have i:∀b o,X.cG.heap.get? b=U o->b∉ dj X.outer->b∉ dj X.stack:=λb o a v z=>by
  rw[c.fV]at z;unfold dj at z;rw[zL,c.fr]at z;rcases mem_cons.mp z with z|z
  .exact absurd (zZ (lt_size a) I.ok.above) (by rw[z];exact zE _)
  .exact v z
 have p:∀b,b∈dj X.outer->b∈dj X.stack:=λb a=>by
  rw[c.fV];unfold dj;rw[zL,c.fr];exact zQ _ a
 refine((F.os.trans I.os,F.bare,(λb o q n a _=>?_,λb o q n a _=>?_,λb o q n _=>?_,λb o q _=>?_,λb j q=>F.un.fm b j (d.fm b j q),λb o j q=>F.un.fc b o j (d.fc b o j q),λb A q=>?_),F.cy,F.at_,D9 I F,h,I.ok.frames,i,p),(u,an,T,al,E,x,r,D,ab,t,H,y,ag,?_))
 .exact F.un.keep b o (d.keep b o q n a (by simp)) (d.free b o q n (by simp)) (i b o q a) (by simp)
 .obtain⟨sl,q1⟩:=d.slot b o q n a (by simp);obtain⟨fb,q2⟩:=F.un.slot b _ q1 (d.free b o q n (by simp)) (p b a) (by simp);exact(fb,q2)
 .obtain⟨l,q1⟩:=d.there b o q (by simp);exact F.un.free b l q1 (d.free b o q n (by simp)) (by simp)
 .obtain⟨l,q1⟩:=d.there b o q (by simp);exact F.un.there b l q1 (by simp)
 .obtain⟨Q,S⟩:=d.fh b A q;obtain⟨N,R⟩:=F.un.fh b _ S;exact(Q++N,by rw[R,Array.append_assoc])
 .cases q:X.cG.heap.get? T with
  |none=>rfl
  |some o=>
   obtain⟨l,q1⟩:=d.there T o q (by simp);rw[M]at q1;cases q1
def eB.step(F:eB X e C P w m)(N:jr->Prop)(l:∀b,N b->w b=J/\X.cG.heap.get? b=J/\b∉ dj X.stack)
  (x:∃f s,g.get? e=U f/\f.cls=.ref C/\f.dict=P/\f.data=.fields s/\5<s.size/\s[2]?=U .none)
  (keep:∀b o,m.heap.get? b=U o->b≠e->¬ N b->b∉ dj X.stack->g.get? b=U o) (d:∀b o,m.heap.get? b=U o->b∈dj X.stack->∃sl,g.get? b=U {o with slots:=sl})
  (h:∀b o,m.heap.get? b=U o->¬ N b->∃A,g.get? b=U A):eB X e C P w {m with heap:=g}:=by
 have M:∀b,w b=J->b≠e:=λb n z=>by subst z;rw[F.at_]at n;cases n
 have p:∀b o,X.cG.heap.get? b=U o->¬ N b:=λb o q z=>by rw[(l b z).2.1]at q;cases q
 refine(F.os,F.bare,(λb o q n a _=>?_,λb o q n a _=>?_,F.un.free,λb o q E=>?_,F.un.fm,F.un.fc,F.un.fh),λb u q=>?_,F.at_,Kz (λb a o B=>d b o B a) F.fn,F.free,F.fr,F.new,F.up)
 .exact keep b o (F.un.keep b o q n a (by simp)) (M b (F.un.free b o q n (by simp))) (p b o q) (F.new b o q a)
 .obtain⟨sl,q1⟩:=F.un.slot b o q n a (by simp);obtain⟨fb,q2⟩:=d b _ q1 (F.up b a);exact(fb,q2)
 .obtain⟨R,q1⟩:=F.un.there b o q E;exact h b R q1 (p b o q)
 .by_cases a:b=e
  .subst a;rw[F.at_]at q;cases q;obtain⟨f,s,b1,D,G,t,I,Q⟩:=x;obtain⟨_,_,st⟩:=F.cy _ _ F.at_;exact((f,s,b1,D,G,t,I,Q),(_,b1),st)
  .have kp:∀c v,c≠e->(∃z,w c=U z)->m.heap.get? c=U v->g.get? c=U v:=λc v n k H=>by obtain⟨z,j⟩:=k;exact keep c v H n (λy=>by rw[(l c y).1]at j;cases j) λy=>by rw[F.free c y]at j;cases j
   refine(F.cy b u q).fq (λc v i r=>?_) (λ_ z=>z) λ_ _ z=>z;rcases i with rfl|i
   .exact kp c v a (u,q) r
   .refine kp c v (λz=>?_) (_,i) r;subst z;rw[F.at_]at i;cases i
def eB.exc(F:eB X e C f m g)(o:g.heap.get? e=U b)(q:b.data=.fields c):b.cls=.ref C/\b.dict=f/\5<c.size/\c[2]?=U .none:=by
 obtain⟨⟨r,l,a,h,j,d,i,p⟩,_,_⟩:=F.cy _ _ F.at_;rw[o]at a;cases a;rw[q]at d;cases d;exact(h,j,i,p)
def eB.frN(F:eB X e C m g c)(i:c.heap.get? b=U o)(j:o.data=.fields f):b∉ dj X.stack:=λh=>by
 obtain⟨_,l,d,a⟩:=F.fn.mem h;rw[i]at d;cases d;exact a f j
def eB.entry(F:eB X e C g f c)(i:T≠e)(d:c.heap.get? T=U m)(a:m.data=.fields s)(n:f T=J)(B:X.cG.heap.get? T=J):
  eB X e C g f {c with heap:=c.heap.update T (Obj.mapFields (·.setIfInBounds j v))}:=by
 have fv:∀b,b≠T->(c.heap.update T (Obj.mapFields (·.setIfInBounds j v))).get? b=c.heap.get? b:=λb h=>zU _ _ (Ne.symm h)
 have fr:∀o,c.heap.get? T=U o->(Obj.mapFields (·.setIfInBounds j v) o).isFreed=O:=λo l=>by
  rw[d]at l;cases l;exact Obj.isFreed_of_fields (Obj.data_mapFields a _)
 obtain⟨⟨t,E,u,p,x,D,r,A⟩,_,_⟩:=F.cy _ _ F.at_;exact F.step (·=T) (λb z=>by subst z;exact(n,B,F.frN d a)) (t,E,(fv e (Ne.symm i)).trans u,p,x,D,r,A) (λb o q _ y _=>(fv b y).trans q) (λb o q h=>(o.slots,(fv b (λz=>by subst z;exact F.frN d a h)).trans q)) (λb o q _=>Kq fr o q)
def NC(F:eB X e C n g c)(T:iE e g X.cG c fl)
  (h:∀m,eB X e C n g {c with heap:=m}->iE e g X.cG {c with heap:=m} (fr.elim .none λf=>rawInt f)->Q () {c with heap:=m}):dH X (setFlight (.ref e) fr) Q E c:=by
 obtain⟨t,v,T,z,y,p,j,o,i,d,a,x,q,r⟩:=T;unfold setFlight;refine zp (wpAny_field p j o ?_);rw[zg (show(Value.ref T != Value.none)=L from by simp)];have l:=(z9.mp x).1;refine wpAny_setField d a l (h _ (F.entry i d a q r) ?_);have fv:∀b,b≠T->(c.heap.update T (Obj.mapFields (·.setIfInBounds 3 (fr.elim .none λf=>rawInt f)))).get? b=c.heap.get? b:=λb u=>zU _ _ (Ne.symm u);exact(t,v,T,_,_,(fv e (Ne.symm i)).trans p,j,o,i,zS _ d (Obj.isFreed_of_fields (Obj.data_mapFields a _)),Obj.data_mapFields a _,by simp[l],q,r)
def VP(n:Gu X)(F:eB X e C dx m c)(S:X.env.frame=U f)(H:s.frame=U f)(y:c.heap.get? e=U u)(l:u.data=.fields vs)
  (h:∀g,eB X e C dx m {c with heap:=g}->iE e m X.cG {c with heap:=g} (rawInt f)->(∀b o,c.heap.get? b=U o->b≠e->b∉ dj X.stack->g.get? b=U o)->Q () {c with heap:=g}):
  dH X (do let a ←PySem.frameOf s;let pl ←entryPlaceOf f ar;let b ←EntryCells.newEntry al a .none (rawInt f) .none pl;setField (.ref e) 1 b) Q an c:=by
 have P:=F.fn;have fr:=F.fr;rw[n.fV]at P fr;have ag:PySem.frameOf s=PySem.frameOf X.env:=by unfold PySem.frameOf;rw[S,H]
 rw[ag];obtain⟨c1,c2,c3,c4⟩:=F.exc y l;have r:1<vs.size:=by lia
 have j:e∉ dj X.stack:=F.frN y l;refine zp (wpAny_frameOf_fun fr P S λd p=>zp (wpAny_entryPlaceOf λpl G=>?_));rw[←n.fV]at p;unfold EntryCells.newEntry newFields;refine zp (wpAny_newObj_type ?_ (G.sizeOk5 _ _ _ _ _));generalize A:([al,Value.ref f,.none,rawInt f,.none]++(if pl.isEmpty then List.replicate 6 Value.none else pl)).toArray=w;have N:w[3]?=U (rawInt f):=by rw[←A];simp
 have T:d.get? e=U u:=(p.2.1 e j).trans y;have R:=zV (h:=d) (.type lV,J,.fields w,#[]) T;refine wpAny_setField R l r ?_;have E:d.objs.size≠e:=Nat.ne_of_gt (lt_size T);have D:=Obj.data_mapFields l (·.setIfInBounds 1 (Value.ref d.objs.size));have B:=zS (Obj.mapFields (·.setIfInBounds 1 (Value.ref d.objs.size))) R (Obj.isFreed_of_fields D);have t3:=(zU (d.push (.type lV,J,.fields w,#[])) (Obj.mapFields (·.setIfInBounds 1 (Value.ref d.objs.size))) (Ne.symm E)).trans (zM d rfl)
 have i:∀b o,b≠e->d.get? b=U o->((d.push (.type lV,J,.fields w,#[])).update e (Obj.mapFields (·.setIfInBounds 1 (Value.ref d.objs.size)))).get? b=U o:=λb o v ab=>by
  rw[zU _ _ (Ne.symm v)];exact zV _ ab
 have t:c.heap.objs.size=d.objs.size:=p.1.symm;have kp:∀b o,c.heap.get? b=U o->b≠e->b∉ dj X.stack->((d.push (.type lV,J,.fields w,#[])).update e (Obj.mapFields (·.setIfInBounds 1 (Value.ref d.objs.size)))).get? b=U o:=λb o q x I=>i b o x ((p.2.1 b I).trans q);refine h _ (F.step (λ_=>False) (λb z=>z.elim) (_,_,B,?_,?_,D,by rw[Array.size_setIfInBounds];exact c3,by rw[Array.getElem?_setIfInBounds_ne qc];exact c4) (λb o q x _ I=>kp b o q x I) (λb o q v=>?_) (λb o q _=>?_)) (_,_,d.objs.size,_,w,B,D,by simp[r],E,t3,zd,N,?_,?_) kp
 .rw[DN l];exact c1
 .rw[DN l];exact c2
 .obtain⟨sl,M⟩:=p.2.2 b o q;exact(sl,i b _ (λz=>j (z ▸ v)) M)
 .obtain⟨sl,M⟩:=p.2.2 b o q;by_cases z:b=e
  .subst z;exact(_,B)
  .exact(_,i b _ z M)
 .exact F.cy.fresh (by rw[t];exact zq _)
 .cases q:X.cG.heap.get? d.objs.size with
  |none=>rfl
  |some o=>
   obtain⟨o1,q1⟩:=F.un.there _ o q (by simp);have:=lt_size q1;rw[t]at this;exact absurd this (zE _)
def S8(s:Gu X)(F:eB X e C w m c)(T:iE e m X.cG c fl)(S:X.env.frame=U n)(i:P.frame=U n)
  (h:∀f,eB X e C w m {c with heap:=f}->iE e m X.cG {c with heap:=f} (rawInt n)->(∀b o,c.heap.get? b=U o->(∀g,o.data≠ .fields g)->b∉ dj X.stack->f.get? b=U o)->Q () {c with heap:=f}):
  dH X (noteFrame (.ref e) P) Q E c:=by
 obtain⟨ab,g,a,ag,G,p,l,D,A,d,j,t,H,I⟩:=id T;unfold noteFrame;simp only[i];refine zp (wpAny_field p l D ?_);rw[zg (show(Value.ref a != Value.none)=L from by simp)];refine zp (wpAny_field d j t ?_);by_cases v:(fl==rawInt n)=L
 .rw[zg v];have x:=beq_iff_eq.mp v;subst x;exact zo (h c.heap F (ab,g,a,ag,G,p,l,D,A,d,j,t,H,I) λb o q _ _=>q)
 .rw[zh v];have R:=(z9.mp t).1;refine zp (wpAny_setField d j R ?_);have fv:∀b,b≠a->(c.heap.update a (Obj.mapFields (·.setIfInBounds 3 Value.none))).get? b=c.heap.get? b:=λb r=>zU _ _ (Ne.symm r);refine VP s (F.entry A d j H I) S i ((fv e (Ne.symm A)).trans p) l λf N M kp=>h f N M λb o q B r=>?_;have u:b≠a:=λz=>by subst z;rw[d]at q;cases q;exact B G j
  have y:b≠e:=λz=>by subst z;rw[p]at q;cases q;exact B g l
  exact kp b o ((fv b u).trans q) y r
def VQ(b:Gu X)(F:eB X e C g c f)(T:iE e c X.cG f fl):dH X (leaving X.env (.ref e)) (λ_ s3=>iW X.prog X.w X.outer X.eR X.cG e C g c s3) E f:=by
 unfold leaving;exact zp (S8 b F T b.fr b.fr λl h j _=>NC h j λi a d=>((a.os,a.bare,a.un,a.cy,a.at_),d))
def S9(X:Cx)(E:XK):Prop:=∀e C c a b fl,eB X e C c a b->iE e a X.cG b fl->E (.ref C) c a->X.xe (.ref e) b
def TC:
  S9 (Bf (d6 P w) P w m g b N j l f c A i s H E) E:=λe C d a h fl F T q=>
 zn (VQ (X:=Bf (d6 P w) P w m g b N j l f c A i s H E) Sq F T) (λ_ s3 G=>(e,C,d,a,rfl,G,q)) λ_ _ z=>z
abbrev xEx(X:Cx)(E:XK):XE:=λ_ s H C h i x e=>(∃c j,Inv X c j H s/\(∀b∈h,Fd X c H b)/\i=X.pn++c) ->
 ∃d f g a,x=.ref d/\eB X d f g a e/\iE d a X.cG e .none/\E (.ref f) g a/\a C=J/\X.cG.heap.get? C=J/\C∉ dj X.stack/\∃m,e.heap.Ns C m
noncomputable abbrev Lk(X:Cx)(E:XK):=f6 J (xEx X E) X
def WQ(b:Gu X):BK (d6 X.prog X.w) (Lk X E c w f s H C g n) E:=by
 rintro i G Q s3 x M P ⟨v,I,D,y,rfl,F,q⟩ ⟨p,N,t,l,j⟩;subst j;have B:=Kj t l P;obtain⟨R,T⟩:=VN b B F;have h:=P.free;have a:=P.ok.above
 have e:C∉ dj X.stack:=λz=>by
  obtain⟨_,o,A,_⟩:=P.ok.d7.mem z;exact absurd (zZ (lt_size A) a) (zE _)
 obtain⟨m,⟨oC,u,ep,d,r⟩,_⟩:=P.loc;refine(v,I,D,y,rfl,R,T,q,F.1.un.free C oC d h (by simp),?_,e,m,oC,u,ep,F.1.un.keep C oC d h e (by simp),r);cases z:X.cG.heap.get? C with
 |none=>rfl
 |some o=>exact absurd (zZ (zZ (lt_size z) t.sz) a) (zE _)
def Yb(c:Gu X)(hz:S9 X E):XCv X aR (xEx X E):=by
 intro cl aM as C ar fp al an a0 Qv a1 s' r f2 hx;obtain⟨l,m,dx,p,rfl,F,w,ag,j,s,e,ab,hN⟩:=hx (al,an,r,f2,rfl);refine S8 c F w c.fr c.fr λh' g B kp=>?_;obtain⟨oC,H,ep,G,i,rN⟩:=hN;have a:=kp C oC G (λN z=>by rw[i]at z;cases z) e;refine(ab,(oC,H,ep,a,i,rN),λM sb az aC=>?_);have fv:=λb A=>sb.2 b A;have h:l≠C:=λz=>by rw[←z,F.at_]at j;cases j
 obtain⟨R,N,T0,oT,ts,v,u,T,Q,y,f,P,S,a9⟩:=B;obtain⟨g1,g2,g3,g4⟩:=g.exc v u;have I:T0≠C:=λz=>by rw[z,a]at y;cases y;rw[i]at f;cases f
 have n:=g.step (·=C) (λb z=>by subst z;exact(j,s,e)) (R,N,(fv l h).trans v,g1,g2,u,g3,g4) (λb o t _ d _=>(fv b d).trans t) (λb o t A=>(o.slots,(fv b (λz=>e (z ▸ A))).trans t)) (λb o t d=>(o,(fv b d).trans t));have x:iE l p X.cG {s' with heap:=M} (rawInt X.env.locals):=(R,N,T0,oT,ts,(fv l h).trans v,u,T,Q,(fv T0 I).trans y,f,P,S,a9);exact zp (wpAny_field ((fv l h).trans v) u T (zp (NC n x λh4 q D=>wpAny_throw (hz l m dx p _ _ q D ag))))
def K0{a}(c:Gu X)(m:S9 X E)(e)(d)(v:IY X.env.scope b X.N (x::e) (J::d)=L)(l:(x::e).Nodup)(o:b.names.lookup x=U .local)(u:X.calm=L)(r:PI X (.Name x y) a t)
  (ht:∀h s H C j i,hO (Lk X E (x::e) b h s H C j i) n tt) (z:∀h s H C j i,PE (Lk X E (x::e) b h s H C j i) f w) (g:∀x,foldedSetIterable a X.env x=pure x:=by intro _;rfl):
  PE X (.ListComp f [(.Name x y,a,n,0)] b D) (λB H Q=>Hl t (Bz 0) tt w (J::d) (λA q=>∀p,q p=J->Q (.ref p) (upd q p (.lst A))) B H):=
 Do DD (Yb c m) (cL.of v) (λ_ _ _ _ _ _=>u) r.g (λh s H C j i=>Dm (BI l rfl (.inl (z5 o)) (.inr (z5 o)))) ht (λ_ _ _ _ _ _ _=>Dp (z _ _ _ _ _ _)) g rfl
def ND(f)(M:X.K=f):cH X (.builtin jR) (λb H Q=>∃v p,b=[v,.ref p]/\(v=.bQ\/(∃i,v=.int i)\/∃x,v=.str x)/\cD f H p [.ty jH,.ty jN]/\Q (.bl O) H):=by
 subst M;intro d s g H b P Q I r h;obtain⟨v,p,rfl,w,m,q⟩:=h;obtain⟨u,T,rfl,j,l⟩:=Gj r;cases l;obtain⟨y,F,⟨o,e,c,n,B⟩,_⟩:=I.tuple m;obtain⟨gW,S,D,G⟩:=o;simp only at c B;subst c;subst B
 have C:y=[Value.type jH,Value.type jN]:=by
  cases F with
  |cons E N=>
   cases N with
   |cons r3 R=>
    cases R;cases (show _=Value.type jH from E);cases (show _=Value.type jN from r3);rfl
 subst C;have a:∀A,EP X d g Q (.bool O) {s with toks:=A}:=λA=>(.bl O,H,I.tok A,rfl,q);rcases w with rfl|⟨i,rfl⟩|⟨x,rfl⟩
 .cases (show u=Value.none from j);exact W.kia_tup W.kitx_none I.dZ True.intro e rfl (λz=>nomatch z) a
 .obtain⟨t,z⟩:=(show ∃t,u=Value.int i t from j);cases z;exact W.kia_tup W.kitx_int I.dZ True.intro e rfl (λz=>nomatch z) a
 .obtain⟨t,z⟩:=(show ∃t,u=Value.str x t from j);cases z;exact W.kia_tup W.kitx_str I.dZ True.intro e rfl (λz=>nomatch z) a
def bH.or{k}{e}(F:bH P w t n g c k f m e i)(G:bH P w t n g c k f m e j):bH P w t n g c k f m e (λb H Q E=>i b H Q E\/j b H Q E):=by
 refine(λb H Q E h=>?_,λA a s H d l b Q E o r q p h=>?_)
 .rcases h with h|h
  .exact F.len _ _ _ _ h
  .exact G.len _ _ _ _ h
 .rcases h with h|h
  .exact F.run A a s H d l b Q E o r q p h
  .exact G.run A a s H d l b Q E o r q p h
structure eK(X:Cx)(e:Expr)(t:TE):Prop where
 h:PE X e t
structure gE(X:Cx)(es:List Expr)(t:TA):Prop where
 h:PA X es t
def Bu:gE X [] BS:=⟨AG⟩
def K1(h:gE X a t):gE X (.Constant .none j b::a) (AY (tC .bQ) t):=⟨AA B9 h.h⟩
def JY(h:gE X a t):gE X (.Constant (.int b) j c::a) (AY (tC (.int b)) t):=⟨AA AF h.h⟩
def CS(h:gE X a t):gE X (.Constant (.str x) j b::a) (AY (tC (.str x)) t):=⟨AA AI h.h⟩
def TF(a:eK X (.List l p) c)(h:gE X b t):gE X (.List l p::b) (AY c t):=⟨AA a.h h.h⟩
def JZ(a:eK X (.Tuple l k p) c)(h:gE X b t):gE X (.Tuple l k p::b) (AY c t):=⟨AA a.h h.h⟩
def Ho(h:gE X a t):eK X (.List a p) (LU t):=⟨As h.h⟩
def EA(h:gE X a t):eK X (.Tuple a k p) (JF t):=⟨Ab h.h⟩
structure PSw(X:Cx)(st:Stmt)(t:TS):Prop where
 h:PS X st t
structure fH(X:Cx)(st:List Stmt)(t:TS):Prop where
 h:fk X st t
structure PIw(X:Cx)(tg e:Expr)(t:TI):Prop where
 h:PI X tg e t
def Hq:fH X [] R9:=⟨AM⟩
def DQ{st}(a:PSw X st t)(b:fH X c u):fH X (st::c) (Ui t u):=⟨AB a.h b.h⟩
def Ef{st}(a:PSw X st t):fH X [st] t:=⟨AC a.h⟩
def On(h:eK X l a):PIw X b l (PZ X.K a):=⟨BW h.h⟩
def Pz{a}(e:PassesOwn (model X.prog X.w) X.A X.env X.xe)(l:X.calm=L)(j:PIw X b a d)(i:PG X b g)(h:fH X c m)
  (f:∀x,foldedSetIterable a X.env x=pure x:=by intro _;rfl):PSw X (.For b a c [] n) (Uo d g m):=⟨CY e l j.h i h.h f⟩
def RC(a:LK)(k)(v):a.length<=(Bi a k v).length:=by
 unfold Bi;split
 .rw[AO];exact zq _
 .rw[zG];simp_all
abbrev Yc(c a:Expr)(D:jr)(b:Env):Sem Unit:=do
 let d ←eval c b
 let e ←holding [d] (eval a b)
 standAt {c.pos with endLine:=a.pos.endLine,endCol:=a.pos.endCol}
 holding [d,e] (dictSet D d e)
abbrev hoD(_:jr)(a:LK):HO:=.dK a
def RAd(P:Program)(w:World)(h:Heap)(D:jr)(a:LK):Prop:=∃b,KV a b/\h.DictOf (Ac P w) D b
abbrev taD(b a:TE):TAd (LK):=λg c H N=>b c H λf d=>a c d λy e=>∃k,f=kV k/\N (Bi g k y) e
abbrev XN(c:TI)(g:TG)(tt:TT)(b a:TE):=Hk [] ie c g tt (taD b a)
def RE{i}:Qt P w (.DictComp c u [(f,i,b,0)] m g) newDict f i b (Yc c u) [] ie hoD (RAd P w) where
 cl:=rfl
 new:=({cls:=.type kg,data:=.dict #[]},rfl,(λv z=>nomatch z),λh D e=>([],.nil,_,#[],0,e,(rfl,rfl,rfl),rfl,λ_ t=>by simp at t,Pairs.nil,nodup_nil),λA Q E s h=>wpAny_newObj_type h)
 turn:=λA o D j=>(rfl,rfl)
 start:=λA R s o D j p B=>codeAny_compStart_dict p B
 at_:=λh C D a ⟨l,r,d⟩ q=>(l,r,d.at q)
 fin:=λH h D a x y k=>by obtain⟨l,r,d⟩:=k;exact Hj x y r d
def TH(f:PE X g m)(S:PE X c j):PAd X (Yc g c) ie (RAd X.prog X.w) (taD m j):=by
 intro D ob y d s E H N I a ⟨G,C,M⟩ ab q
 have l:∀{h:St}{F:Hp}{r:js},Inv X ([(D,(ob))]++d) h F r->r.heap.DictOf (Ac X.prog X.w) D G:=λ{h F r}v=>M.at λaz e=>by
  rw[I.f9.1]at e;cases e;exact v.f9.1
 refine zp (cA (f _ s E H _ I q) λyk T k=>?_);obtain⟨zk,n,w,rk,q8⟩:=k;refine zp (zJ (cA (S _ T E n _ w q8) λaM s9 zz=>?_));obtain⟨z,o,B,P,x,R,A⟩:=zz;subst R;refine zp (zI ?_);have hz:=ab _ _ A
 have al:G.length<=sizeLine:=by
  have h1:=RC y x z;rw[←C.length]
  lia
 refine zJ (wpAny_dictSet_pairs (Et rk) (l B) λh2 i t=>?_);obtain⟨p,ar,an,q,ag,u,as⟩:=id i;exact(p,_,o,B.reD a (λb Q=>t.2 b Q) q (λaC z=>by rw[u]at z;cases z),(_,C.put x P,i),A)
def Itk(a:jr)(o:Obj)(b:LK):It:=(λi H=>H a=U (.dz o (.dK b))/\i<b.length,λi H x d=>d=H/\∃c,b[i]?=U c/\x=kV c.1,λi H=>H a=U (.dz o (.dK b))/\b.length<=i)
def RF(a p)(o)(c):
  Ma an az aC tg (Itk a o c) [p] p (λi h=>h.IsKeyIter p a i c.length (U4 o)) where
 mem:=by simp
 obj:=λi h st b q=>by
  have e:b=p:=by simpa using q
  subst e;obtain⟨g,e,ar,as⟩:=st;exact(g,e,λab z=>by simp_all)
 keep:=λi h n st k=>by
  obtain⟨g,e,r⟩:=st;exact(g,k p (by simp) _ e,r)
 item:=by
  intro X m Q R w i u s al H E I D st T;subst m Q R;obtain⟨t,v⟩:=T;obtain⟨z,ag,vs,l,f⟩:=Dr I t;have j:=l.length;obtain⟨C,B⟩:∃C,c[i]?=eq C:=(_,z7 v);obtain⟨ab,hv,rv⟩:=KV.get l B;obtain⟨d,S,f2,G,N,F⟩:=D p (by simp);rw[j]at st;refine wpAny_pyNext_dict_item st f hv λM n A x sb=>?_;obtain⟨o',e',y,P⟩:=id x;exact(M,Y,Mb e' y P qc (kV C.1,H,I.turned (t':=s.toks) (λb o q e=>(sb.2 b q).trans e) d S G N F,D8 A,(Y,C,B,Y),by rw[j];exact x,λb q=>(D b q).1))
 done:=by
  intro X m Q R w i u s al H E I D st T;subst m Q R;obtain⟨t,v⟩:=T;obtain⟨z,ag,vs,l,f⟩:=Dr I t;have j:=l.length;rw[j]at st;obtain⟨d,S,f2,G,N,F⟩:=D p (by simp);exact wpAny_pyNext_dict_end (I.ok.hd w) st f (by simp_all) λn eb=>(Y,I.turned (λb o q e=>eb b o q e) d S G N F)
 self:=λ_ _ _ _ _ st h=>wpAny_pyIter_keyiter st h
def Yd(to:TE):TI:=λd H R=>to d H λx b=>∃a o c,x=.ref a/\b a=U (.dz o (.dK c))/\R (Itk a o c) b
def VR(u:PE X o to):PI X c o (Yd to):=by
 intro d s E H R I h;refine cA (u d s E H _ I h) λv C v=>?_;obtain⟨x,r,i,A,a,D,j,F,l,q⟩:=v;subst F;cases A;obtain⟨z,y,G,p,B⟩:=Dr i l;apply wpAny_pyIter_dict y B;refine(_,[_],_,_,r,Y,i.kept λb o e=>zV _ e,RF a _ D j,(_,zM _ Y,Y,by rw[p.length];rfl),λb t=>?_,q);have e:b=C.heap.objs.size:=by simpa using t
 subst e;exact i.gm (zq _) (i.cy.fresh (zq _))
def Ye(i j k:Nat)(a:TA):TS:=λD b H=>a b H λd c=>∃v w z,d=[v,w,z]/\D.nx (((b.set k (U z)).set j (U w)).set i (U v)) c
def VU(hc:X.calm=gl)(F:X.N.Nodup)(hi:X.N[i]?=U x)(hj:X.N[j]?=U y)(hk:X.N[k]?=U z)
  (Q:X.env.scope.names.lookup x=U .local) (S:X.env.scope.names.lookup y=U .local) (f:X.env.scope.names.lookup z=U .local) (p:PA X [a,b,c] ta)
  (hw:swappedStores [.Tuple [.Name x T,.Name y n,.Name z N] m pt] (.Tuple [a,b,c] g C) X.env=pure (U [x,y,z]))
  (hs:swapsWithSole [.Tuple [.Name x T,.Name y n,.Name z N] m pt] (.Tuple [a,b,c] g C) as.line X.env=pure gt:=by rfl):
  PS X (.Assign [.Tuple [.Name x T,.Name y n,.Name z N] m pt] (.Tuple [a,b,c] g C) as) (Ye i j k ta):=by
 intro l aC R H a0 I h;rw[exec_Assign_arm];refine zp (zI ?_);rw[hs];refine zp (zo ?_);rw[zh qc];refine zp (Tuple_ (cA (p _ l aC R H _ I h) λus B zz=>?_));obtain⟨vs,M,q,al,q1⟩:=zz;obtain⟨v,aR,aM,e1,q1⟩:=q1;subst e1
 obtain⟨A,u,r,rfl,rv,G,rt⟩:∃A u r,us=[A,u,r]/\RelV v A/\RelV aR u/\RelV aM r:=by
  cases al with
  |cons ar az=>
   cases az with
   |cons p' q'=>
    cases q' with
    |cons ab E=>
     cases E;exact(_,_,_,zd,ar,p',ab)
 refine wpAny_newObj_type ?_ iu;have s:Inv X l R M {B with heap:=B.heap.push {cls:=.type jN,data:=.seq [A,u,r].toArray}}:=q.kept (t':=B.toks) λb o e=>zV _ e;rw[hw];refine zp (zo ?_);show dH X (do rule "assign.swapped-stores";let d ←unpackItems (.ref B.heap.objs.size) 3 f8;assignInOrder [λv=>bindName X.env z v,λv=>bindName X.env y v,λv=>bindName X.env x v] d.reverse;pure Flow.next) _ _ _;refine zp (wpAny_rule (zp (unpackItems_tuple (items:=#[A,u,r]) (I.ok.hd hc) (IsTup.new B.heap _) λag P=>?_)));have t:=s.kept (h':=ag) (t':=B.toks) λb o e=>P b o (zw (lt_size e)) e;show wpAny _ _ (assignInOrder [λv=>bindName X.env z v,λv=>bindName X.env y v,λv=>bindName X.env x v] [r,u,A] >>= λ_=>pure Flow.next) _ _ _;refine zp (assignInOrder_cons (wpAny_bindName (B8 t F hk (.inl f) rt (λs2 w=>?_) (.inr f))));refine assignInOrder_cons (wpAny_bindName (B8 w F hj (.inl S) G (λs3 an=>assignInOrder_cons (wpAny_bindName (B8 an F hi (.inl Q) rv (λs4 D=>assignInOrder_nil (zo ?_)) (.inr Q)))) (.inr S)));exact(_,M,D,q1)
def aA:V->Option Int->Option Int->Hp->VK->Prop:=λx lo a H Q=>∃z,x=.str z/\z.length<=sizeLine/\Q (.str (Txt.slice z lo a)) H
def P1(h:IsPart v o):∃l,v=partValue l/\o=l.map (·.1):=by
 cases h with
 |none=>exact(J,rfl,rfl)
 |int i t=>exact(U (i,(t)),rfl,rfl)
def TJ:SlR X aA:=by
 rintro a s y H x v p A o r sl Q I j h pl i ⟨z,rfl,e,q⟩;obtain⟨t,rfl⟩:=j;obtain⟨l,rfl,rfl⟩:=P1 pl;obtain⟨u,rfl,rfl⟩:=P1 i;exact(mQ,_,F.slot_str_getitem.lookup,typeIs_str s z t,wpAny_getItem_str_slice (st:=J) h Y (post_val_or_str (Nat.le_trans (Txt.slice_le z _ _) e,λd k=>(.str (Txt.slice z _ _),H,I.tok k,(d,Y),q))))
def Fk:cH X (.type oa) (λb H Q=>∃x n,b=[.str x]/\x.length<=640/\intText? x=U n/\Q (.int n) H):=by
 rintro a s i H b h Q I r ⟨x,n,rfl,d,e,q⟩;obtain⟨u,rfl,t,rfl⟩:=Bc r;exact W.KIN.call_text e d (.int n,H,I.tok _,(_,Y),q)
def VW:ee X (binaryOp .Mult) (λx y H Q=>∃(i:Str)(n:Int),x=.str i/\y=.int n/\((n=0/\Q (.str "") H)\/(n=1/\Q (.str i) H))):=by
 rintro a s j H x y v u Q I e d ⟨i,n,rfl,rfl,h⟩;obtain⟨t,rfl⟩:=e;obtain⟨l,rfl⟩:=d;rcases h with⟨rfl,q⟩|⟨rfl,q⟩
 .apply PySem.P.mul_str rfl (λz _=>absurd qc z) (λz _=>absurd qc z);exact(qc,.str "",H,I.tok _,(_,Y),q)
 .apply PySem.P.mul_str rfl (λ_ z=>by simp at z) (λ_ z=>by simp at z);exact(.str i,H,I,(_,Y),q)
def Ll:cH X (.type mQ) (λb H Q=>∃x,b=[.str x]/\Q (.str x) H):=by
 rintro a s e H b d Q I r ⟨x,rfl,q⟩;obtain⟨u,rfl,t,rfl⟩:=Bc r;exact PySem.P.str_of_str (.str x,H,I,(_,Y),q)
structure PTw(X:Cx)(e:Expr)(t:TT):Prop where
 h:PT X e t
def K2{i}(d:X.N.Nodup)(l:X.N[i]?=U x)(a:Loc X.env.scope x)(j:eK X e g)(b:swapsWith e (U (.Name x f)) c.line X.env=pure O:=by rfl)(h:X.fn x=L\/X.env.scope.names.lookup x=U .local:=by first|exact .inl rfl|exact .inr rfl):
  PSw X (.Assign [.Name x f] e c) (Um g (Bz i)):=⟨DI d l a j.h b h⟩
def Fy(d:ee X (binaryOp c) r)(i:eK X a h)(e:eK X b f):eK X (.BinOp a c b g) (iH r h f):=⟨AX d i.h e.h⟩
def EC(e:IxR X r)(i:eK X a h)(d:eK X b f)(c:Pj b):eK X (.Subscript a b g) (iH r h f):=⟨Am e i.h d.h c⟩
def Oo(h:PTw X c a)(e:fH X b t)(d:fH X f u):PSw X (.If c b f g) (Uj a t u):=⟨AU h.h e.h d.h⟩
def WR(j:PTw X c d)(i:eK X a h)(e:eK X b f):eK X (.IfExp c a b g) (tIf d h f):=⟨BX j.h i.h e.h⟩
def Bv(a:eK X e d)(h:gE X b f)(c:gj X e b:=by rfl):gE X (e::b) (AY d f):=⟨AA a.h h.h c⟩
def Fz{k}{i}(F:bH X.prog X.w X.K X.mg X.base c k f m i s)(l:bJ k X.A)(u:Gl X x)(r:X.mg x=U (.ref f))(o:W.keepIn X.K (.ref f)=L)(t:Binds X.K m i g)(j:Vals d g)(q:BK c X E)
  (y:gE X (e::b) w) (h:fQ x:=by decide) (v:gj X e b:=by rfl) (a:(backTo n (starEach b X.env)).any (·.1)=O:=by rfl):
  eK X (.Call (.Name x p) (e::b) [] n) (Me s d E w):=⟨At F l u r o t j q y.h h v a⟩
def Yf(h:gE X a b):eK X (.List a c) (LU b):=⟨As h.h⟩
abbrev DcE:=Str×Tok×Int×Tok
noncomputable def Yg(P:Params)(e:DcE):DictEntry:=(PyData.keyHash P e.1,.str e.1 e.2.1,.int e.2.2.1 e.2.2.2)
def dcObj(P:Params)(l:List DcE)(ep:Nat):Obj:=(.type kg,J,.dict (l.map (Yg P)).toArray ep,#[])
noncomputable def iR(l:List DcE):LK:=l.map λe=>(Sum.inr e.1,(.int e.2.2.1))
def Yh{w}{h:PySem.Heap}{l}(e:h.get? f=U (dcObj w.params l ep))(d:(l.map (·.1)).Nodup):∃c,KV (iR l) c/\h.DictOf (Ac P w) f c:=by
 refine(l.map λe=>(Sum.inr e.1,(.int e.2.2.1 e.2.2.2)),?_,_,_,_,e,(Y,Y,Y),Y,λx o=>?_,?_,?_)
 .clear e d;induction l with
  |nil=>exact .nil
  |cons a r i=>exact .cons (rfl,_,rfl) i
 .obtain⟨a,_,rfl⟩:=zi.mp (List.mem_toArray.mp o);exact(Sum.inr a.1,Em P w _ _,Y)
 .rw[List.toList_toArray];clear e d;induction l with
  |nil=>exact .nil
  |cons a r i=>exact .cons (Em P w _ _) rfl i
 .rw[map_map];have:(l.map ((λx:Key×Value=>x.1) ∘ λe=>((Sum.inr e.1),(Value.int e.2.2.1 e.2.2.2))))=(l.map (·.1)).map (λx=>(Sum.inr x)):=by rw[map_map];rfl
  rw[this];exact List.Pairwise.map _ (λa b j z=>j (Sum.inr.inj z)) d
def Ja:cH X (.type kg) (λf H Q=>∃a c,f=[.ref a]/\Rd H a (.dK c)/\∀p,H p=J->Q (.ref p) (upd H p (.dK c))):=by
 rintro i s A H f B Q I r ⟨a,c,rfl,t,q⟩;obtain⟨u,rfl,j⟩:=Bc r;cases (j);obtain⟨z,y,C,d,l⟩:=Ct I.cy t;refine kt_call_dict y l (by rwa[←d.length]) λx h v=>?_;exact(.ref s.heap.objs.size,_,I.laid (λb o e=>(v.2 b (zw (lt_size e))).trans (zV _ e)) (zq _) (Hj z (by rw[beq_eq_false_iff_ne];exact Nat.ne_of_gt I.big) d h),Y,q _ (I.cy.fresh (zq _)))
def Op:ee X (compareOp .In) (λx y H Q=>∃(c:Nat)(j:Str),x=.str ⟨#[c]⟩/\y=.str j/\Q (.bl (decide (c∈j.cps.toList))) H):=by
 rintro a s h H x y v u Q I e d ⟨c,j,rfl,rfl,q⟩;obtain⟨t,rfl⟩:=e;obtain⟨i,rfl⟩:=d;apply PyProof.Rows.in_str;rw[StrLaws.found_one];exact(.bl _,H,I,Y,q)
def RG:cH X (.builtin jR) (λc H Q=>∃a o b,c=[.ref a,.ty kg]/\H a=U (.dz o (.dK b))/\Q (.bl L) H):=by
 rintro h s A H c B Q I r ⟨a,o,b,rfl,e,q⟩;obtain⟨u,x,rfl,i,d⟩:=Gj r;cases (d);cases (i);obtain⟨_,_,C,_,l⟩:=Ct I.cy (.inr (o,e));obtain⟨t,y,ep,j,v,_⟩:=id l;exact W.kia_one W.kitx_dict I.dZ (t,j,v.1) rfl (λz=>nomatch z) λp=>(.bl L,H,I.tok p,rfl,q)
def RH{P}{w}{a}{f}{g:SV}{mb:SV}{CX}{k}{fa c}{T:List (jr×jr)}{l}{ep}{fd}{sp}{i}{p}{N}
  (KX:f.In i.heap) (az:i.heap.Ns mainGlobals g) (y:i.heap.Ns builtinsNs mb) (bl:∀x:Str,x≠ j8 -> mb x=bootBuiltins x) (bn:i.heap.NoLimit) (hg:i.gens=#[])
  (I:i.heap.get? a=U {cls:=.type jH,data:=.seq p.toArray}) (hi:IntsAre p N) (hl:N.length<=sizeLine) (hr:bJ k callerA)
  (hP:∀t∈T,i.heap.get? t.2=U (W.tabObj #[])/\f.lookup t.2=J/\W.CodeHd i.heap t.1 t.2/\i.heap.BuiltinsAt g t.2)
  (D:i.heap.get? c=U (dcObj w.params l ep)) (bf:f.lookup c=J) (bj:5<=c) (iQ:l.length<=1000) (i9:(l.map (·.1)).Nodup)
  (F:∀m,f.In m->m.Ns mainGlobals g->(∀t∈T,W.CodeHd m t.1 t.2/\m.BuiltinsAt g t.2)->bH P w f g m CX k fa fd [x] sp) (a0:∀bt u,BindsTo bt fd ([u],[]) [(x,(u))])
  (bo:∀H,(∀t∈T,H t.2=U (.fJ #[]))->Rd H c (.dK (iR l))->bZ f H a (N.map V.int)->sp [.ref a] H (λaM _=>aM=.bl L) λ_ _ _=>False)
  (bb:∀H e C,CX [] H i (λ_ _ _=>False) e C->False):
  codeAny (model P w) callerA (.call (.ref fa) ([.ref a],[])) (λr C=>r=.ok (.ret (.bool L))/\OldK i.heap C.heap/\C.os=i.os/\AllBare C.gens) i:=by
 have rv:=FW hi;generalize hT:T.map (·.2)=TT;have tt:∀b,b∈TT->∃t∈T,t.2=b:=λb z=>by grind
 have E:∀b,b∈TT->i.heap.get? b=U (W.tabObj #[])/\f.lookup b=J:=λb z=>by
  grind
 have bh:a∉ TT:=λz=>by simp_all
 have bi:a≠c:=λz=>by subst z;rw[I]at D;cases congrArg Obj.data (Option.some.inj D)
 have bg:c∉ TT:=λz=>by have e:=(E c z).1;rw[D]at e;cases congrArg Obj.data (Option.some.inj e)
 generalize eD:dcObj w.params l ep=s at D;generalize X:({cls:=.type jH,data:=.seq p.toArray}:Obj)=M at I
 have bs:∀H,df P w H i.heap c (.dz s (.dK (iR l))):=λH=>(D,by unfold iR;rw[AO];exact Nat.le_of_lt (AQ iQ),by
  cases q:(c==sysModules)with
  |false=>rfl
  |true=>
   rw[beq_iff_eq.mp q]at bj
   trivial,Yh (eD ▸ D) i9)
 obtain⟨H,hH⟩:∃H:Hp,H=λb=>if b∈TT then U (.fJ #[])else if b=c then U (.dz s (.dK (iR l)))else if b=a/\f.lookup a=J then U (.dz M (.lst (N.map V.int)))else J:=(_,rfl)
 have v:∀b u,H b=U u->(b∈TT/\u=.fJ #[])\/(b=c/\u=.dz s (.dK (iR l)))\/(b=a/\f.lookup a=J/\u=.dz M (.lst (N.map V.int))):=λb u z=>by
  grind
 have br:∀{b:jr}{u:HO},H b=U u->i.heap.get? b=U (W.tabObj #[])\/i.heap.get? b=U s\/i.heap.get? b=U M:=λ{b u}z=>by
  rcases v b u z with⟨h,_⟩|⟨rfl,_⟩|⟨rfl,_⟩
  .exact .inl (E _ h).1
  .exact .inr (.inl D)
  simp_all
 have as:∀t∈T,H t.2=U (.fJ #[]):=λt ht=>by
  rw[hH];exact zg (by rw[←hT];exact zi.mpr (t,ht,Y))
 have be:H c=U (.dz s (.dK (iR l))):=by
  rw[hH];exact(zh bg).trans (zg Y)
 have none_of:∀{b:jr}{o:Obj},i.heap.get? b=U o->o≠W.tabObj #[]->o≠s->o≠M->H b=J:=λ{b o}e n1 n2 n3=>by
  cases q:H b with
  |none=>rfl
  |some u=>rcases br q with z|z|z<;>(rw[e]at z;cases z;trivial)
 have j:∀{b:jr}{o:Obj},i.heap.get? b=U o->H b=J->(LI i.heap H).get? b=U o:=λe n=>R6 e n;have dD:∃es n,s.data=.dict es n:=by rw[←eD];exact(_,_,Y)
 have dL:∃G n,M.data=.seq G n:=by rw[←X];exact(_,_,Y)
 have bq:∀{b:jr}{o:Obj}{G:Array Value},i.heap.get? b=U o->o.data=.fields G->o.cls≠ .none->H b=J:=λ{b o G}e d n=>none_of e (λz=>n (by rw[z])) (λz=>by obtain⟨_,_,q⟩:=dD;rw[←z,d]at q;cases q) (λz=>by obtain⟨_,_,q⟩:=dL;rw[←z,d]at q;cases q)
 have B:∀{b:jr}{ab:SV},b<5->i.heap.Ns b ab->(LI i.heap H).Ns b ab:=λ{b ab}bk ⟨o,es,ep,e,d,r⟩=>(o,es,ep,j e (by
  cases q:H b with
  |none=>rfl
  |some u=>
   rcases v b u q with⟨h,_⟩|⟨rfl,_⟩|⟨rfl,_⟩
   .rw[(E _ h).1]at e;cases e;cases d
   .exact absurd bk (by grind)
   .rw[I]at e;cases e;obtain⟨_,_,q⟩:=dL;rw[q]at d;cases d),d,r)
 have al:=λb o e=>j (KX b o e) (by
  cases q:H b with
  |none=>rfl
  |some u=>
   rcases v b u q with⟨h,_⟩|⟨rfl,_⟩|⟨rfl,h,_⟩
   .rw[(E _ h).2]at e;cases e
   .rw[bf]at e;cases e
   simp_all)
 have hM:Mod f g (LI i.heap H):=(al,B qc az,(mb,B qc y,bl),let ⟨mc,h1,h2⟩:=bn;(mc,B qc h1,h2))
 have bc:∀t∈T,W.CodeHd (LI i.heap H) t.1 t.2/\(LI i.heap H).BuiltinsAt g t.2:=λt ht=>by
  obtain⟨_,_,hC,hB⟩:=hP t ht;obtain⟨o,bv,a9,tf,aR,tg,bp,bu,tt,e,an,ar,r⟩:=id hC;obtain⟨bm,o',a1,a2,a3,a4,a5,Q,a7,R⟩:=id hB;exact((o,bv,a9,tf,aR,tg,bp,bu,tt,j e (bq e ar (by rw[an];simp)),an,ar,r),(bm,o',a1,a2,a3,a4,j a5 (none_of a5 (λz=>by rw[z]at Q;cases Q) (λz=>by obtain⟨_,_,q⟩:=dD;rw[←z,R]at q;cases q) (λz=>by obtain⟨_,_,q⟩:=dL;rw[←z,R]at q;cases q)),Q,a7,R))
 have cy:eA P w H i.heap:=λb u z=>by
  rcases v b u z with⟨h,rfl⟩|⟨rfl,rfl⟩|⟨rfl,_,rfl⟩
  .exact(E _ h).1
  .exact bs _
  .exact(I,by rw[AO];exact hl,p,_,rv,by rw[I,←X])
 have hS:bZ f H a (N.map V.int):=by
  cases hk:f.lookup a with
  |none=>exact .inl (.inr (M,by rw[hH];exact(zh bh).trans ((zh bi).trans (zg (rfl,hk)))))
  |some o=>
   have e:=KX a o hk;rw[I,←X]at e;cases e;exact .inr (_,p.toArray,_,hk,Y,Y,Y,by rw[size_toArray,hi.length];exact hl,by simpa using rv)
 refine codeAny_mono ((F _ al (B qc az) bc).run callerA [] i H ([.ref a],[]) [.ref a] [.ref a] _ _ hr ((rfl,hM,λb o e=>Ug e,Nat.le_of_eq (Qi _ _),trivial,λb y=>absurd (show b∈([])from y) (by simp),cy,.of_eq hg)) (a0 i (.ref a)) (.cons rfl .nil) (bo H as (.inr (_,be)) hS)) λr C h=>?_;cases r with
 |error e=>exact(bb H e C h).elim
 |ok fl=>
  cases fl with
  |next=>trivial
  |brk=>trivial
  |cont=>trivial
  |ret u=>
   obtain⟨aM,H',os,ba,un,A,r',q⟩:=h;subst q;obtain rfl:u=Value.bool L:=r'
   have aC:∀b,b∈TT->∃more,C.heap.get? b=U (W.tabObj (#[]++more)):=λb y=>by
    obtain⟨t,ht,rfl⟩:=tt b y;obtain⟨more,e⟩:=un.fh _ #[] (as t ht);exact(more,A _ _ e)
   have ag:∀b o,b∉ TT->i.heap.get? b=U o->C.heap.get? b=U o:=λb o y e=>by
    cases q:H b with
    |none=>exact un.keep b o e q (by intro z;trivial) (by simp)
    |some u=>
     rcases v b u q with⟨h,_⟩|⟨rfl,rfl⟩|⟨rfl,_,rfl⟩
     .trivial
     .rw[D]at e;cases e;exact(A _ _ (un.fc _ _ _ q)).1
     .rw[I]at e;cases e;exact(A _ _ (un.fc _ _ _ q)).1
   refine(Y,(λb o e=>?_,λb o e=>?_),os,ba)
   .by_cases y:b∈TT
    .obtain⟨t,ht,rfl⟩:=tt b y;obtain⟨hp,_,hC,_⟩:=hP t ht;rw[hp]at e;cases e;obtain⟨more,S⟩:=aC _ y;exact .inr (.inl ((hC.tab hp).isCodeTable,Y,#[],more,Y,S))
    .exact .inl (ag b o y e)
   .by_cases y:b∈TT
    .obtain⟨more,S⟩:=aC _ y;exact(_,S)
    .exact(o,ag b o y e)
def TK{x}{l:W.OpenLaw}{n k}{an}{loose}{XP}{m}{d}{c:Params->FG}{CX:World->CXT}{sp:World->Sp}{T:List (jr×jr)}{g}{dl}{ep}
  (hn:l.most=U n) (a1:n<=sizeLine) (M:d.params.defaults=[]) (hr:bJ k callerA) (D:5<=g) (B:dl.length<=1000) (q:(dl.map (·.1)).Nodup)
  (hY:∀w h,m w h->(c w.params).In h/\(∀t∈T,h.get? t.2=U (W.tabObj #[])/\(c w.params).lookup t.2=J/\W.CodeHd h t.1 t.2)/\h.get? g=U (dcObj w.params dl ep)/\(c w.params).lookup g=J)
  (F:∀w(b:SV)A h,(c w.params).In h->h.Ns mainGlobals b->b d.name=U (.ref A) ->
   ∃j,(∀s u,BindsTo s j ([u],[]) [(x,(u))]) /\
    ∀f,(c w.params).In f->f.Ns mainGlobals b->(∀t∈T,W.CodeHd f t.1 t.2/\f.BuiltinsAt b t.2)->bH l.prog w (c w.params) b f (CX w) k A j [x] (sp w))
  (p:∀w H a(y:List Int),y.length<=n->(∀t∈T,H t.2=U (.fJ #[]))->Rd H g (.dK (iR dl))->bZ (c w.params) H a (y.map V.int)->sp w [.ref a] H (λas _=>as=.bl gl) λ_ _ _=>False)
  (C:∀w H s e E,CX w [] H s (λ_ _ _=>False) e E->False):
  W.WalkO an loose XP m l.row.toRowW d [] (λab o=>PySem.call ab o):=by
 refine Att.attach_call hn M λw aC i b mb A a2 pm cd aM a o y G z ho hd aR I ar ag al hg=>?_;obtain⟨R,r,S,N⟩:=hY w _ z;obtain⟨j,X,hF⟩:=F w b A _ R G.T.g I
 have v:∀t∈T,i.heap.BuiltinsAt b t.2:=λt ht=>by
  obtain⟨bm,ob,b1,Q,b3,P,b5,b6⟩:=G.T.bmain;refine(bm,ob,b1,Q,λaz=>?_,λaz=>?_,b3,P,b5,b6)
  .obtain⟨o',es,ep,e,a0,_⟩:=G.T.g
   simp_all
  grind
 exact RH R G.T.g G.T.b G.T.builtins G.T.nolimit hg ar ag (by lia) hr (λt ht=>((r t ht).1,(r t ht).2.1,(r t ht).2.2,v t ht)) S N D B q hF X (λH hH hR hS=>p w H a y al hH hR hS) λH e E=>C w H i e E
def Inv.thaw(I:Inv X g m H s)(h:H a=U (.dz o (.dK f)))(v:∀o u,X.eR a≠U (.dz o u)):Inv X g m (upd H a (.dK f)) s:=by
 have i:∀{b:jr}{u:HO},H b=U u->(∀A r,u≠ .dz A r)->b≠a:=λe n z=>by
  subst z;rw[h]at e;cases e;exact n _ _ rfl
 have no:∀{b:jr},H b=J->b≠a:=λe z=>by
  subst z;rw[h]at e;cases e
 have d:∀{b:jr},H b=J->(upd H a (.dK f)) b=J:=λe=>by
  rwa[AE (no e)]
 refine(I.ok,I.os,I.bare,(I.base.keep,I.base.slot,λb o q n x=>d (I.base.free b o q n x),I.base.there,λb y e=>?_,λb o u e=>?_,λb l e=>?_),I.loc,I.cell,d I.free,λx c e=>d (I.dG x c e),λp t=>?_,λb u e=>?_,I.len)
 .have:=I.base.fm b y e
  rwa[AE (i this λ_ _ z=>nomatch z)]
 .rw[AE (λz=>by subst z;exact v o u e)];exact I.base.fc b o u e
 .obtain⟨more,q⟩:=I.base.fh b l e;exact(more,by rw[AE (i q λ_ _ z=>nomatch z)];exact q)
 .obtain⟨q1,q2,q3⟩:=I.pin p t;exact(q1,d q2,q3)
 .by_cases j:b=a
  .subst j;rw[bA]at e;cases e;exact(I.cy _ _ h).2
  .rw[AE j]at e;refine(I.cy b u e).fq (λ_ _ _ q=>q) (λc q=>?_) λc x q=>?_
   .rwa[AE (i q λ_ _ z=>nomatch z)]
   .rwa[AE (i q λ_ _ z=>nomatch z)]
def NE{st}(h:PS X st t):PS X st (λD c H=>∃a b,H a=U (.dK b)/\(∀o u,X.eR a≠U (.dz o u))/\∀o,t {D with nx:=λd j=>j a=U (.dz o (.dK b))/\D.nx d (upd j a (.dK b))} c (upd H a (.dz o (.dK b)))):=by
 intro i s c H D I ⟨a,b,e,r,k⟩;obtain⟨o,x⟩:=I.freeze e;refine cA (h i s c _ _ x (k o)) λfl y q=>?_;cases fl with
 |next=>obtain⟨d,j,p,l,q1⟩:=q;exact(d,_,p.thaw l r,q1)
 |brk=>exact q
 |cont=>exact q
 |ret v=>exact q
def RI{a}(P:X.N.Nodup)(r:X.N[i]?=U z)(S:X.env.scope.names.lookup z=U .local)(q)(l)(Q:IY X.env.scope b X.N (x::y::q) (J::J::l)=L)(o:(x::y::q).Nodup)(A:b.names.lookup x=U .local)(B:b.names.lookup y=U .local)(v:X.calm=L)(M:PI X (.Tuple [.Name x E,.Name y m] f pt) a G)
  (ht:∀d s H C h e,hO (CG X (x::y::q) b d s H C h e) c tt) (N:∀d s H C h e,PE (CG X (x::y::q) b d s H C h e) g tk) (w:∀d s H C h e,PE (CG X (x::y::q) b d s H C h e) u te)
  (t:swapsWith (.DictComp g u [(.Tuple [.Name x E,.Name y m] f pt,a,c,0)] b T) (U (.Name z I)) j.line X.env=pure L:=by rfl) (R:∀x,foldedSetIterable a X.env x=pure x:=by intro _;rfl):
  PS X (.Assign [.Name z I] (.DictComp g u [(.Tuple [.Name x E,.Name y m] f pt,a,c,0)] b T) j) (λD n H=>XN G (g2 X.K) tt tk te (J::J::l) (λys F=>∀p,F p=J->D.nx (n.set i (U (.ref p))) (upd F p (.dK ys))) n H):=
 Mo P r S t RE DL (cL.of Q) (λ_ _ _ _ _ _=>v) M.g (λd s H C h e=>Mn (BN v (AT (BI o rfl (.inl (z5 A)) (.inr (z5 A)))
  (AT (BI o rfl (.inl (z5 B)) (.inr (z5 B))) A3)))) ht (λ_ _ _ _ _ _ _=>TH (N _ _ _ _ _ _) (w _ _ _ _ _ _)) R rfl
end L2
namespace L2
open PySem PySem.Spec PyProof.Rows PySem.W
theorem P2{b:Type}(v):∀n a,(List.replicate n (#[v]:Array b)).foldl (·++·) a=a++(List.replicate n v).toArray
 |0,a=>by simp
 |n+1,a=>by
  rw[List.replicate_succ,foldl_cons,P2 v n,List.replicate_succ];apply Array.ext';simp
theorem NG(h:RelV x u):∀n,Vals (List.replicate n x) (List.replicate n u)
 |0=>.nil
 |n+1=>.cons h (NG h n)
def Lm(c)(M:X.K=c):ee X (binaryOp .Mult) (λx y H Q=>∃(a:jr)(t:V)(n:Int),x=.ref a/\y=.int n/\bZ c H a [t]/\1<=n/\n<=1000/\∀l,H l=J->Q (.ref l) (upd H l (.lst (List.replicate n.toNat t)))):=by
 subst M;intro p s w H x y v u Q I g B h;obtain⟨a,t,n,rfl,rfl,A,R,P,q⟩:=h;cases g;obtain⟨j,rfl⟩:=B;obtain⟨D,m,pl,S⟩:=I.list A;obtain⟨u,rfl,z⟩:=Bc m;obtain⟨⟨C,d,r,sl⟩,i,o,k,E⟩:=pl.isList;subst o E
 refine wpAny_binaryOp_repeat_ref qc (_,i,Y) (λG=>typeIs_int G n j) noFill_list_mul F.fills_int_mul F.slot_int_rmul repeat_list F.slot_int_index.lookup
  (call_meets F.slot_int_rmul (typeIs_int s n j) F.entry_int_rmul (F.args_int_rmul_2 _ _) (lm_int_rmul_list_any n j a _ k d sl)
   (i,rfl,(_,i,rfl),call_meets F.slot_list_mul (_,i,rfl) F.entry_list_mul (F.args_list_mul_2 _ _)
    (lm_list_mul_any a _ k d sl n j (by simp[Builtin.List.listFitsIndex];lia) (by simp;lia) (by simp[Builtin.List.listTooLong,sizeLine];lia))
    (i,?_)))
 refine(.ref s.heap.objs.size,_,I.laid (λb T q=>zV _ q) (zq _) ?_,Y,q _ (I.cy.fresh (zq _)));refine(by rw[length_replicate];show _<=2^24;lia,_,0,NG z n.toNat,?_)
 have e:(List.replicate (if (#[u]).isEmpty=L then 0 else n.toNat) (#[u])).foldl (λN f=>N++f) #[]=(List.replicate n.toNat u).toArray:=by
  rw[P2];apply Array.ext';simp
 rw[e];exact zM _ rfl
end L2
namespace L2
open PySem PySem.Spec PyProof.Rows
def Gx(a:Array Nat):Prop:=∀i j b(c:j<a.size),i<j->a[i]<a[j]
structure BlS(xs:Array Nat)(j k:Nat):Prop where
 le:k<=xs.size
 lo:∀i h,i<k->xs[i]<j
 hi:∀i h,k<=i->j<=xs[i]
theorem Jb(c:Gx b)(j):∀d lo a,lo<=a->a<=b.size->a-lo<=d->(∀i h,i<lo->b[i]<j)->(∀i h,a<=i->j<=b[i])->BlS b j (SetTable.below.go b j d lo a)
 |0,lo,a,y,r,x,p,q=>by
  have e:lo=a:=by lia
  subst e;exact(r,p,q)
 |d+1,lo,a,y,r,x,p,q=>by
  rw[SetTable.below.go];by_cases o:lo<a
  .rw[zg o];have t:(lo+a)/2<b.size:=by lia
   have z:b.getD ((lo+a)/2) j=b[(lo+a)/2]:=by
    rw[Array.getD_eq_getD_getElem?,Array.getElem?_eq_getElem t];rfl
   show BlS b j (if b.getD ((lo+a)/2) j<j then _ else _);rw[z];by_cases u:b[(lo+a)/2]<j
   .rw[zg u];refine Jb c j d _ _ (by lia) r (by lia) (λi l v=>?_) q;by_cases e:i=(lo+a)/2
    .simp_all
    .exact Nat.lt_trans (c i ((lo+a)/2) l t (by lia)) u
   .rw[zh u];refine Jb c j d _ _ (by lia) (by lia) (by lia) p (λi l v=>?_);by_cases e:i=(lo+a)/2
    .simp_all
    .have:=c ((lo+a)/2) i t l (by lia)
     lia
  .rw[zh o];have e:lo=a:=by lia
   subst e;exact(r,p,q)
def Gy(c:Gx b)(j):BlS b j (SetTable.below b j):=by
 exact Jb c j b.size 0 b.size (Nat.zero_le _) (zq _) (by simp_all) (λi _ h=>absurd h (by simp)) (λi h a=>absurd h (by lia))
def XO(c:Gx b)(h:SetTable.has b j=O):∀i(h:i<b.size),b[i]≠j:=by
 intro i a e;have B:=Gy c j;unfold SetTable.has at h
 have d:SetTable.below b j=i:=by
  rcases Nat.lt_trichotomy (SetTable.below b j) i with z|z|z
  .have l:=B.hi _ (by lia) (zq (SetTable.below b j));have o:=c (SetTable.below b j) i (by lia) a z
   lia
  .exact z
  .have:=B.lo i a z
   simp_all
 rw[d,Array.getElem?_eq_getElem a,e]at h;simp at h
def KF{b}(a)(p)(x:b):(SetTable.insertAt a p x).toList=a.toList.take p++x::a.toList.drop p:=by
 unfold SetTable.insertAt;simp;exact take_of_length_le (by simp)
def TL(l:List Nat):Prop:=l.Pairwise (· < ·)
def NH:Gx a ↔ TL a.toList:=by
 unfold TL;rw[List.pairwise_iff_getElem];rfl
def NI(f:Gx c)(v:∀i(h:i<c.size),c[i]≠j):Gx (SetTable.insertAt c (SetTable.below c j) j):=by
 have B:=Gy f j;rw[NH]at f ⊢;rw[KF];generalize SetTable.below c j=k at B;unfold TL at f ⊢;have p:=f;rw[←List.take_append_drop k c.toList,List.pairwise_append]at p;obtain⟨t,u,r⟩:=p;rw[List.pairwise_append,pairwise_cons];refine(t,(λy x=>?_,u),λa q b o=>?_)
 .obtain⟨i,l,rfl⟩:=List.getElem_of_mem x;rw[List.length_drop]at l;have d:k+i<c.size:=by have:c.toList.length=c.size:=Array.length_toList;lia
  have:=B.hi (k+i) d (by simp_all);have z:=v (k+i) d;simp
  lia
 .have e:a<j:=by
   obtain⟨i,l,rfl⟩:=List.getElem_of_mem q;rw[zt]at l;have d:i<c.size:=by have:c.toList.length=c.size:=Array.length_toList;lia
   have:=B.lo i d (by lia);simpa using this
  rcases mem_cons.mp o with rfl|o
  .exact e
  .exact r a q b o
def Oq(n):Gx (Array.range n):=λi j d a h=>by simp_all
structure Gz(t:SetTable)(n:Nat):Prop where
 fits:t.fits n=L
 rise:Gx t.place
 nod:t.dummies=#[]
def VX{t:SetTable}(h:t.slot j=.empty)(a:Gx t.place):∀i(h:i<t.place.size),t.place[i]≠j:=by
 apply XO a;unfold SetTable.slot at h;unfold SetTable.has
 grind
def TM(j):SetTable.has #[] j=O:=by
 rfl
def Os{t:SetTable}(a:t.dummies=#[]):t.slot j≠ .dummy:=by
 unfold SetTable.slot;rw[a,TM]
 lia
def RJ(t:SetTable)(p):(t.advance p).dummy=p.dummy:=by
 unfold SetTable.advance
 grind
theorem NJ{l}(o:t.dummies=#[]):∀a p{j}{d},p.dummy=J->SetTable.probe.go t l h a p=U (.empty j d)->d=J/\t.slot j=.empty
 |0,p,j,d,r,e=>by trivial
 |a+1,p,j,d,r,e=>by
  rw[SetTable.probe.go]at e;cases q:t.slot p.j with
  |empty=>
   simp_all
  |dummy=>exact absurd q (Os o)
  |live i=>
   rw[q]at e;simp only at e;split at e
   .cases e
   .exact NJ o a _ (by rwa[RJ]) e
def VY{t:SetTable}{wd}(f:Gx t.place)(d:t.dummies=#[])(e:t.freeSlot h=U (j,(wd))):(∀i(h:i<t.place.size),t.place[i]≠j)/\wd=O:=by
 unfold SetTable.freeSlot at e;cases q:t.probe (λ_=>h+1) h (t.probeStart h)with
 |none=>simp_all
 |some m=>
  rw[q]at e;cases m with
  |candidate a b c=>cases e
  |empty a b=>
   obtain⟨rfl,l⟩:=NJ d _ _ rfl q;cases e;exact(VX l f,Y)
def G3(t:SetTable)(n):Gz (t.standIn n) n/\(t.standIn n).led=t.led:=((SetTable.standIn_fits t n,Oq n,rfl),rfl)
def Ot{t:SetTable}(n)(b:Gx t.place)(a:t.dummies=#[]):Gz (t.orStandIn n) n/\(t.orStandIn n).led=t.led:=by
 unfold SetTable.orStandIn;split
 .rename_i h;exact((h,b,a),Y)
 .exact G3 t n
def RL(h)(x)(T:Gz t b.size):Gz (layNew t b h x).2.1 (layNew t b h x).1.size/\(layNew t b h x).2.1.led=t.led:=by
 unfold layNew;cases e:t.freeSlot h with
 |none=>
  have:=G3 t (b.size+1);simpa using this
 |some q=>
  obtain⟨j,wd⟩:=q;obtain⟨a,_⟩:=VY T.rise T.nod e
  exact Ot _ (NI T.rise a) (by
   show(if SetTable.has t.dummies j=L then _ else t.dummies)=#[];rw[T.nod]
   rfl)
def RM(f:Nat->Option Nat)(n):Gx (((List.range n).filterMap λj=>(f j).map λx=>(j,(x))).map (·.1)).toArray:=by
 rw[NH];show List.Pairwise _ _;rw[pairwise_map,List.pairwise_filterMap];refine List.Pairwise.imp ?_ (List.pairwise_lt_range)
 simp_all
def NK(n)(T:Gz t b.size):Gz (relayAll t b n).2.1 (relayAll t b n).1.size/\(relayAll t b n).2.1.led=t.led:=by
 unfold relayAll;cases e:t.relaid (b.map (·.1)) n with
 |none=>exact G3 t b.size
 |some q=>
  obtain⟨l,d⟩:=q;simp only;split
  .rename_i h;rw[Bool.and_eq_true]at h;obtain⟨a,_,i⟩:=Option.bind_eq_some_iff.mp e;cases i;exact((h.2,RM (λj=>a.getD j J) _,Y),Y)
  .exact G3 t b.size
def TN(b)(T:Gz t n):Gz {t with plain:=b} n:=(T.fits,T.rise,T.nod)
def TQ(a b)(d):Gz (SetTable.fresh a b d) 0:=(by rfl,λi j e _ _=>absurd e (Nat.not_lt_zero _),rfl)
section
variable {prog:Program}{ω:Type} [DecidableEq ω]
structure iX(knd:KeyKind prog w ω)(k:ω)(e:Int×Value):Prop where
 is:knd.is k e.2=L
 hs:e.1=knd.hash k
 sc:e.2.scannable=L
def eQ(b:KeyKind prog w ω)(h:Heap)(a:jr)(c:List ω)(d:Bool):Prop:=
 ∃(o:Obj)(e:Array (Int×Value))(ep:Nat)(t:SetTable)(f:List ω),h.get? a=U o/\o.ExactSet/\o.data=.set e ep t/\Gz t e.size/\t.led=d/\f.Perm c/\Paired (iX b) f e.toList/\e.size<scanBound
def RP{w}{b:KeyKind prog w ω}{i}{d}(h:Paired (iX b) i d):ElemsOf b d:=by
 induction h with
 |nil=>intro e a;cases a
 |cons r t j=>
  intro e a;rcases mem_cons.mp a with rfl|a
  .exact((_,r.is,r.hs),r.sc)
  .exact j e a
theorem NL:∀{a:List ω}{d},Paired (iX b) a d->(d.findIdx? (λe=>b.is k e.2)).isSome=decide (k∈a)
 |_,_,.nil=>rfl
 |k'::a,e::d,.cons r t=>by
  rw[List.findIdx?_cons]
  have h:b.is k e.2=decide (k=k'):=by
   cases q:b.is k e.2 with
   |true=>rw[b.inj _ _ _ q r.is,zK rfl]
   |false=>
    symm
    refine zN λz=>?_;rw[z,r.is]at q;cases q
  rw[h];by_cases z:k=k'
  .rw[zK z,z];simp
  .rw[zN z,zh qc];have:=NL (k:=k) t;simp[Option.isSome_map,this,mem_cons,z,false_or]
def NM(p:e.Perm b):∀{d:List ω},Paired (iX c) d b->∃a,a.Perm d/\Paired (iX c) a e:=by
 induction p with
 |nil=>grind
 |cons x p u=>
  intro d h;cases h with
  |cons r t=>
   obtain⟨a,v,i⟩:=u t;exact(_::a,v.cons _,.cons r i)
 |swap x y l=>
  intro d h;cases h with
  |cons r t=>
   cases t with
   |cons j t=>exact(_::_::_,List.Perm.swap ..,.cons j (.cons r t))
 |trans A z o q=>
  grind
def eQ.put{h:PySem.Heap}{o}(e:h.get? a=U o)(x:o.ExactSet)(d:o.data=.set r ep t){i}{b}{j:List ω} 
  (T:Gz b i.size) (l:b.led=m) (p:j.Perm g) (q:Paired (iX f) j i.toList) (c:i.size<scanBound):eQ f (h.update a (Obj.putSet i b)) a g m:=by
 refine(_,i,ep+1,b,j,zS _ e (by rw[putSet_of i b d];rfl),?_,?_,T,l,p,q,c)
 .rw[putSet_of i b d];exact(x.1,x.2.1,x.2.2)
 .rw[putSet_of i b d]
def aB{s}{f:KeyKind prog w ω}{v}{x}{Q}(hx:f.is k x=L)(F:x.scannable=L)(hS:eQ f s.heap a v j)(hn:v.length+1<scanBound)
  (h1:k∈v->Q O s) (h2:k∉ v->∀c,Heap.SameBut a s.heap c->eQ f c a (k::v) j->Q L {s with heap:=c}):wpAny (model prog w) A (setAddHashed a x (f.hash k)) Q E s:=by
 obtain⟨o,C,ep,t,aC,e,n,d,T,hl,p,X,hs⟩:=hS;have el:=RP X
 have ck:C.size=v.length:=by
  have:=X.length;rw[←p.length_eq,this];simp
 apply zJ;refine zp (wpAny_setState_of e d T.fits ?_);show wpAny _ _ (if byScan x C=L then _ else _) _ _ _;rw[zg (byScan_of F hs el)];apply zp;apply zp
 wp_step
 refine zp (wpAny_setScan_of hx e d T.fits el ?_);have q:=NL (k:=k) X;cases al:C.toList.findIdx? (λe=>f.is k e.2)with
 |some a1=>
  rw[al]at q;have hm:=p.mem_iff.mp (zT q.symm);exact zo (zo (h1 hm))
 |none=>
  rw[al]at q;obtain⟨B,m⟩:=RL (f.hash k) x T;have p1:=layNew_perm t C (f.hash k) x
  have hq:∃ab,ab.Perm (k::v)/\Paired (iX f) ab (layNew t C (f.hash k) x).1.toList:=by
   have aR:Paired (iX f) (aC++[k]) (C.push (f.hash k,(x))).toList:=by
    rw[Array.toList_push];exact Paired.snoc X (hx,Y,F)
   obtain⟨k2,q2,jb⟩:=NM p1 aR;exact(k2,q2.trans ((List.perm_append_comm).trans (p.cons k)),jb)
  have r:(layNew t C (f.hash k) x).1.size<scanBound:=by
   have:=p1.length_eq;rw[Array.length_toList,Array.length_toList,Array.size_push]at this
   lia
  rw[hl]at m;generalize layNew t C (f.hash k) x=as at B m hq r ⊢;obtain⟨h,u,wd,gv⟩:=as;obtain⟨a2,R,I⟩:=hq;have r:h.size<scanBound:=r
  have M:∀t2,Gz t2 h.size->t2.led=j->∀g:Bool->Sem Unit,(∀b i G,G () i->wpAny (model prog w) A (g b) G E i) ->
    wpAny (model prog w) A (do storeSet a h t2;if (!wd&&t2.tooFull)=L then (do g (relayAll t2 h (SetTable.grown h.size)).2.2;storeSet a (relayAll t2 h (SetTable.grown h.size)).1 (relayAll t2 h (SetTable.grown h.size)).2.1;pure (U L))else pure (U L)) (λb y=>b=U L/\∃c,Heap.SameBut a s.heap c/\eQ f c a (k::v) j/\y={s with heap:=c}) E s:=λt2 T2 ag g hg=>by
   refine zp (wpAny_storeSet_of e d ?_ (fits_of_scanBound r));have S:Heap.SameBut a s.heap (s.heap.update a (Obj.putSet h t2)):=Heap.SameBut.update _ _ _;split
   .refine zp (hg _ _ _ ?_);have e1:(s.heap.update a (Obj.putSet h t2)).get? a=U (Obj.putSet h t2 o):=zS _ e (by rw[putSet_of h t2 d];rfl);have d1:(Obj.putSet h t2 o).data=.set h (ep+1) t2:=by rw[putSet_of h t2 d]
    have x1:(Obj.putSet h t2 o).ExactSet:=by rw[putSet_of h t2 d];exact(n.1,n.2.1,n.2.2)
    obtain⟨T3,l3⟩:=NK (SetTable.grown h.size) T2;have p3:=relayAll_perm t2 h (SetTable.grown h.size)
    have N:(relayAll t2 h (SetTable.grown h.size)).1.size<scanBound:=by
     have:=p3.length_eq;rw[Array.length_toList,Array.length_toList]at this
     lia
    obtain⟨k3,q3,a0⟩:=NM p3 I;exact zp (wpAny_storeSet_of e1 d1 (zo (Y,_,S.trans (Heap.SameBut.update _ _ _),eQ.put e1 x1 d1 T3 (l3.trans ag) (q3.trans R) a0 N,Y)) (fits_of_scanBound N))
   .exact zo (Y,_,S,eQ.put e n d T2 ag R I r,Y)
  have aM:∀{b:Option Bool}{y:js},(b=U L/\∃c,Heap.SameBut a s.heap c/\eQ f c a (k::v) j/\y={s with heap:=c})->wpAny (model prog w) A (match b with|some ar=>pure ar|none=>setAddHashedIn a x (f.hash k) 99999) Q E y:=λ{b y}P=>by
   obtain⟨rfl,c,an,az,rfl⟩:=P;exact zo (h2 (λz=>absurd (p.mem_iff.mpr z) (of_decide_eq_false q.symm)) c an az)
  refine zn ?_ (λb y P=>aM P) (λ_ _ z=>z)
  have D:∀b i G,G () i->wpAny (model prog w) A (match b with|true=>rule mn |false=>pure ()) G E i:=λb i G H=>by
   cases b
   .exact zo H
   .wp_step
    exact H
  refine zp (D gv s _ ?_)
  have go:∀l,wpAny (model prog w) A (do storeSet a h (if l=L then u else {u with plain:=O});if (!wd&&(if l=L then u else {u with plain:=O}).tooFull)=L then (do (match (relayAll (if l=L then u else {u with plain:=O}) h (SetTable.grown h.size)).2.2 with|true=>rule mn |false=>pure ());storeSet a (relayAll (if l=L then u else {u with plain:=O}) h (SetTable.grown h.size)).1 (relayAll (if l=L then u else {u with plain:=O}) h (SetTable.grown h.size)).2.1;pure (U L))else pure (U L)) (λb y=>b=U L/\∃c,Heap.SameBut a s.heap c/\eQ f c a (k::v) j/\y={s with heap:=c}) E s:=λl=>by
   cases l
   .exact M _ (TN O B) m _ D
   .exact M _ B m _ D
  split
  .rw[hashByValue_scannable 8 F];exact zp (zo (go _))
  .exact go L
end
noncomputable abbrev Ln(w:World):Bool:=!w.params.followText lq
def TR(P:Program)(w:World)(a:jr)(b:List Key):HO:=.ext λh=>eQ (Ac P w) h a b (Ln w)
def XQ(b:eQ (Ac P w) h a c (Ln w)):df P w H h a (TR P w a c):=by
 refine(b,?_,λp q i j=>?_)
 .obtain⟨o,_,_,_,_,e,_⟩:=b;exact(o,e)
 .obtain⟨o,l,ep,t,d,e,r⟩:=i;exact(o,l,ep,t,d,j _ e,r)
def XR(d:eA P w H h)(e:H a=U (TR P w a b)):eQ (Ac P w) h a b (Ln w):=(d a _ e).1
open Classical in
noncomputable def NN(acc:List Key)(k:Key):List Key:=if k∈acc then acc else k::acc
def TU(h:(Ac P w).is k v=L):v.scannable=L:=by
 cases v<;>first|rfl| (cases k<;>cases h)
def RS(e:h.get? d=U {cls:=.type oI,data:=.set #[] 0 (SetTable.fresh 0 0 (Ln w))}):eQ (Ac P w) h d [] (Ln w):=
 (_,#[],0,_,[],e,(rfl,rfl,rfl),rfl,TQ _ _ _,rfl,List.Perm.refl _,.nil,qc)
def bY:Slot kX "__next__" lX:=
 .of (by rfl) (by rfl) (by rfl) (by rfl)
  (by trivial) (by rfl)
def Bm:entryFor table lX=U Builtin.«set_iterator.__next__»:=entryFor_of_tree (by rfl)
def Bw(a):argsOk lX ([a],[]):=by kernel_rfl
def Jc:entryFor table "set.__iter__"=U Builtin.«frozenset.__iter__»:=entryFor_alias (id':="frozenset.__iter__") qd (by rfl) qb qd
theorem F2{b:Type}:∀(a:List b)i h,(a[i]::a.eraseIdx i).Perm a
 | [],i,h=>absurd h (by simp)
 |x::r,0,h=>List.Perm.refl _
 |x::r,i+1,h=>(List.Perm.swap ..).trans ((F2 r i (by simp_all)).cons x)
def gH(h:Heap)(I a:jr)(first:Value)(i n ep:Nat):Prop:=∃o,h.get? I=U o/\o.cls=.type kX /\ o.data=.fields #[first,.int i 0,.ref a,.int n 0,.int ep 0]
def gH.typeIs{s:PySem.Shared}(x:gH s.heap I a first i n ep):s.TypeIs (.ref I) kX:=let ⟨o,d,e,_⟩:=x;(o,d,e)
def Lo(e:n≠0)(h:∀i d,i<n->Q i {s with drawn:=d}):wpAny (model b w) A (choose c n) Q E s:=λΓ p a=>(e,h _ _ (Nat.mod_lt _ (by lia)))
theorem Eg{f}:∀n(b:List f)s{Q},b.length<=n->(∀c d,List.Perm c b->Q c {s with drawn:=d})->wpAny (model g w) A (drawOrder n b) Q E s
 |0,b,s,Q,j,h=>by
  have e:=List.length_eq_zero_iff.mp (Nat.le_zero.mp j);subst e;unfold drawOrder;exact zo (h _ s.drawn (by simp))
 |n+1,[],s,Q,j,h=>by
  exact zo (h _ s.drawn (by simp))
 |n+1,x::r,s,Q,j,h=>by
  refine zp (Lo (by simp) λi d l=>?_);rw[z7 l]
  have a:((x::r).eraseIdx i).length<=n:=by
   rw[List.length_eraseIdx,zg l]
   simp_all
  exact zp (Eg n _ _ a λc o p=>zo (h _ o ((p.cons _).trans (F2 _ _ l))))
theorem P3{b}(next):∀a k(left:List b)d,left.length<=a->(pickOrder.go next a k left d).toList.Perm (d.toList++left)
 |0,k,left,d,h=>by
  have e:=List.length_eq_zero_iff.mp (Nat.le_zero.mp h);subst e;unfold pickOrder.go;simp
 |a+1,k,[],d,h=>by
  unfold pickOrder.go;simp
 |a+1,k,x::r,d,h=>by
  unfold pickOrder.go;have j:next k%(x::r).length<(x::r).length:=Nat.mod_lt _ (by simp)
  rw[z7 j]
  have i:((x::r).eraseIdx (next k%(x::r).length)).length<=a:=by
   rw[List.length_eraseIdx,zg j]
   simp_all
  apply (P3 next a (k+1) _ _ i).trans;rw[Array.toList_push,List.append_assoc];exact(F2 _ _ j).append_left _
def K3{b}(next)(a:Array b):(pickOrder next a).toList.Perm a.toList:=by
 exact(P3 next a.size 0 a.toList #[] (by simp)).trans (by simp)
def G4{s}{w}{x}{a}{e}{I}{f nx i n ep:Nat}{o}{b}{t}(d:gH s.heap I a (.int f 0) i n ep)(m:s.heap.get? a=U o)(j:o.data=.set b ep t)(l:t.fits b.size=L)(p:b.size=n)
  (g:∀{A}{E:VS}{Q},Q (U (x,(nx))) s->wpAny (model e w) A (setNext a f i ep) Q E s)
  (h:∀c,gH c I a (.int nx 0) (i+1) n ep->Heap.SameBut I s.heap c->Q (U x) {s with heap:=c}):wpAny (model e w) A (pyNext (.ref I)) Q E s:=by
 obtain⟨z,r,y,q⟩:=id d
 refine zp (wpAny_attempt (wpAny_callSpecial?_slot d.typeIs bY
  (wpAny_call_entry bY d.typeIs Bm ?_ (Bw _))))
 refine zp (zo ?_);refine zp (wpAny_fieldsOf r q (zp (wpAny_setEntries_of m j l ?_)));rw[zh (by simp_all)];refine zp (g (zp (wpAny_setField r q (by simp) ?_)));have v:=zS (Obj.mapFields (·.setIfInBounds 0 (rawInt nx))) r (Obj.isFreed_of_fields (Obj.data_mapFields q _));have u:=Obj.data_mapFields q (·.setIfInBounds 0 (rawInt nx));refine zp (wpAny_setField v u (by simp) ?_);exact zo (_,Y,zo (h _ (_,zS _ v (Obj.isFreed_of_fields (Obj.data_mapFields u _)),(Obj.cls_mapFields ..).trans ((Obj.cls_mapFields ..).trans y),by rw[Obj.data_mapFields u];rfl) ((Heap.SameBut.update ..).trans (Heap.SameBut.update ..))))
def Ig{s}{w}{a}{e}{I}{f i n ep:Nat}{o}{b}{t}(m:A.handled=J)(c:gH s.heap I a (.int f 0) i n ep)(p:s.heap.get? a=U o)(j:o.data=.set b ep t)(l:t.fits b.size=L)(q:b.size=n)
  (g:∀{A}{E:VS}{Q},Q J s->wpAny (model e w) A (setNext a f i ep) Q E s)
  (h:∀d,Heap.ExtBut I s.heap d->Q J {s with heap:=d}):wpAny (model e w) A (pyNext (.ref I)) Q E s:=by
 obtain⟨x,u,v,r⟩:=id c
 refine zp (wpAny_attempt (wpAny_callSpecial?_slot c.typeIs bY
  (wpAny_call_entry bY c.typeIs Bm ?_ (Bw _))))
 refine zp (zo ?_);refine zp (wpAny_fieldsOf u r (zp (wpAny_setEntries_of p j l ?_)));rw[zh (by simp_all)];refine zp (g (zp (wpAny_setField u r (by simp) ?_)));apply zp;refine zp (wpAny_newObj_type (zp (wpAny_of_eq (by rfl) ?_)) (by size_fits));refine wpAny_newObj_type (zp (wpAny_handled ?_)) (by size_fits);rw[show A.in1.handled=J from m];refine zp (zo (wpAny_throw ?_));refine zp (wpAny_isInstance (_,zM _ Y,Y) isSubtype_stop ?_);exact zo (h _ (((Heap.SameBut.update ..).extBut.push _).push _))
def Lp{s}{w}{A}{x}{a}{E:VS}{c}{I}{i n ep}{o}{j}{t}{Q}{T}{u}{tp}{m pl:Nat}{z}(e:gH s.heap I a (.ref T) i n ep)(q:s.heap.get? a=U o)(r:o.data=.set j ep t)(v:t.fits j.size=L)(G:j.size=n)
  (y:s.heap.get? T=U u) (p:u.data=.seq tp m) (D:tp[i]?=U (.int pl 0)) (C:j[pl]?=U (z,(x)))
  (B:∀b,gH b I a (.ref T) (i+1) n ep->Heap.SameBut I s.heap b->Q (U x) {s with heap:=b}):wpAny (model c w) A (pyNext (.ref I)) Q E s:=by
 obtain⟨F,h,l,d⟩:=id e
 refine zp (wpAny_attempt (wpAny_callSpecial?_slot e.typeIs bY
  (wpAny_call_entry bY e.typeIs Bm ?_ (Bw _))))
 refine zp (zo ?_);refine zp (wpAny_fieldsOf h d (zp (wpAny_setEntries_of q r v ?_)));rw[zh (by simp_all)];apply zp;refine zp (wpAny_load y ?_);rw[p];apply zo
 dsimp only
 rw[Int.toNat_natCast,D];refine zp (zp (wpAny_setState_of q r v ?_))
 dsimp only
 rw[zh (by simp),Int.toNat_natCast,C];apply zo;refine zp (wpAny_setField h d (by simp) ?_);exact zo (_,Y,zo (B _ (_,zS _ h (Obj.isFreed_of_fields (Obj.data_mapFields d _)),(Obj.cls_mapFields ..).trans l,by rw[Obj.data_mapFields d];rfl) (Heap.SameBut.update ..)))
def NO(z:A.handled=J)(e:gH s.heap I a (.ref T) i n ep)(p:s.heap.get? a=U o)(q:o.data=.set l ep t)(y:t.fits l.size=L)(D:l.size=n)
  (r:s.heap.get? T=U v) (j:v.data=.seq tp m) (B:tp[i]?=J)
  (u:∀b,Heap.ExtBut I s.heap b->Q J {s with heap:=b}):wpAny (model c w) A (pyNext (.ref I)) Q E s:=by
 obtain⟨C,h,x,d⟩:=id e
 refine zp (wpAny_attempt (wpAny_callSpecial?_slot e.typeIs bY
  (wpAny_call_entry bY e.typeIs Bm ?_ (Bw _))))
 refine zp (zo ?_);refine zp (wpAny_fieldsOf h d (zp (wpAny_setEntries_of p q y ?_)));rw[zh (by simp_all)];apply zp;refine zp (wpAny_load r ?_);rw[j];apply zo
 dsimp only
 rw[Int.toNat_natCast,B];refine zp (wpAny_setField h d (by simp) (zp (wpAny_setField (zS (Obj.mapFields (·.setIfInBounds 0 (rawInt 0))) h (Obj.isFreed_of_fields (Obj.data_mapFields d _))) (Obj.data_mapFields d (·.setIfInBounds 0 (rawInt 0))) (by simp) ?_)));apply zp;refine zp (wpAny_newObj_type (zp (wpAny_of_eq (by rfl) ?_)) (by size_fits));refine wpAny_newObj_type (zp (wpAny_handled ?_)) (by size_fits);rw[show A.in1.handled=J from z];refine zp (zo (wpAny_throw ?_));refine zp (wpAny_isInstance (_,zM _ Y,Y) isSubtype_stop ?_);exact zo (u _ ((((Heap.SameBut.update ..).trans (Heap.SameBut.update ..)).extBut.push _).push _))
def Eh:Slot kX "__iter__" lY:=
 .of (by rfl) (by rfl) (by rfl) (by rfl)
  (by trivial) (by rfl)
def Hr:entryFor table lY=U Builtin.«dict_keyiterator.__iter__»:=entryFor_alias (id':="dict_keyiterator.__iter__") qd (by rfl) qb qd
def Io(a):argsOk lY ([a],[]):=by kernel_rfl
def gH.at(x:gH h I a first i n ep)(e:∀o,h.get? I=U o->b.get? I=U o):gH b I a first i n ep:=let ⟨o,d,r⟩:=x;(o,e _ d,r)
def Ou(d:gH s.heap I a first i n ep)(h:Q (.ref I) s):wpAny (model b w) A (pyIter (.ref I)) Q E s:=by
 exact wpAny_pyIter_slot d.typeIs Eh (wpAny_call_entry Eh d.typeIs Hr (zo (_,Y,kX,_,d.typeIs,bY.lookup,h)) (Io _))
def Hs{G:Nat->Value->Prop}{P:jo}(t:a≠I)(u:T≠I)
  (D:∀i s first,i<n->s.heap.get? a=U o->s.heap.get? T=U H->gH s.heap I a first i n ep->G i first->∀Q(E:VS),(∀d c v,P[i]?=U v->gH c I a d (i+1) n ep->G (i+1) d->Heap.SameBut I s.heap c->Q (U v) {s with heap:=c})->wpAny (model m w) A (pyNext (.ref I)) Q E s)
  (B:∀s first,s.heap.get? a=U o->s.heap.get? T=U H->gH s.heap I a first n n ep->G n first->∀Q(E:VS),(∀c,Heap.ExtBut I s.heap c->Q J {s with heap:=c})->wpAny (model m w) A (pyNext (.ref I)) Q E s):
  WalksS m w A I [I,a,T] [I] (λa b=>b=a) n (λi v=>P[i]?=U v) (λi s=>s.heap.get? a=U o/\s.heap.get? T=U H/\∃first,gH s.heap I a first i n ep/\G i first) where
 sub:=λb q=>by simp_all
 grefl:=λ_=>rfl
 gtrans:=λ_ _ _ ab ag=>ag.trans ab
 frame:=λi s c S st _ y=>(y a (by simp) _ st.1,y T (by simp) _ st.2.1,let ⟨f,x,g⟩:=st.2.2;(f,x.at λo e=>y I (by simp) o e,g))
 item:=λi s Q E M st l=>by
  obtain⟨r,p,first,h,g⟩:=st;exact D i s first M r p h g Q E λd c v N j X C=>l v _ N ((C.2 a t).trans r,(C.2 T u).trans p,d,j,X) (λb F q e=>(C.2 b (λz=>q (by simp[z]))).trans e,Y,Y,Y,zq _)
 done:=λs Q E st l=>by
  obtain⟨r,p,first,h,g⟩:=st;exact B s first r p h g Q E λc R=>l _ (λb F q e=>R b F (λz=>q (by simp[z])) e,Y,Y,Y,zq _)
 self:=λi s Q E st l=>let ⟨_,_,f,x,_⟩:=st;Ou x l
def Ov(b:Gx a):SetTable.below a 0=0:=by
 have B:=Gy b 0;rcases Nat.eq_zero_or_pos (SetTable.below a 0)with h|h
 .exact h
 .exact absurd (B.lo 0 (zZ h B.le) h) (by simp)
def Ow(c:Gx b)(d:i<b.size):SetTable.below b (b[i]+1)=i+1:=by
 have B:=Gy c (b[i]+1)
 have l:i<SetTable.below b (b[i]+1):=by
  rcases Nat.lt_or_ge i (SetTable.below b (b[i]+1))with h|h
  .exact h
  .exact absurd (B.hi i d h) (by simp_all)
 have o:SetTable.below b (b[i]+1)<=i+1:=by
  rcases Nat.lt_or_ge (i+1) (SetTable.below b (b[i]+1))with h|h
  .have a:=zZ h B.le;have j:=B.lo (i+1) a h;have e:=c i (i+1) d a (by simp)
   lia
  .exact h
 lia
def K4(d:s.heap.get? a=U o)(j:o.data=.set p ep t)(l:t.fits p.size=L)(b:w.params.followText lq=L)
  (h:Q ((pickOrder (w.params.setOrder a ep) p)[i]?.map λe=>(e.2,(c))) s):wpAny (model f w) A (setNext a c i ep) Q E s:=by
 refine zp (wpAny_setState_of d j l (zp (zp (wpAny_askSetting (zo ?_)))));show wpAny _ _ (if w.params.followText lq=L then _ else _) _ _ _;rw[zg b,zh (by simp)];refine zp (zp (wpAny_setState_of d j l (zp (zp (wpAny_askSetting (zo ?_))))));show wpAny _ _ (if w.params.followText lq=L then _ else _) _ _ _;rw[zg b];exact zp (wpAny_askSetting (zo (zo h)))
def K5(e:s.heap.get? a=U o)(l:o.data=.set d ep t)(p:t.fits d.size=L)(c:w.params.followText lq=O)(q:t.led=L)(r:(!t.plain&&decide (d.size>1))=O)
  (h:Q (match d[SetTable.below t.place b]?,t.place[SetTable.below t.place b]? with|some (_,x),U j=>U (x,(j+1))|_,_=>J) s):wpAny (model f w) A (setNext a b i ep) Q E s:=by
 refine zp (wpAny_setState_of e l p (zp (zp (wpAny_askSetting (zo ?_)))));show wpAny _ _ (if w.params.followText lq=L then _ else _) _ _ _;rw[zh (by simp_all)];show wpAny _ _ (if (!t.plain&&decide (d.size>1))=L then _ else _) _ _ _;rw[zh (by simp[*])];show wpAny _ _ ((if (!t.led && !d.isEmpty)=L then unsupported _ else pure ()) >>= _) _ _ _;rw[zh (by simp_all)];exact zp (zo (zo h))
def Ox{c d:Type}(a:Array c)(f)(z:d){b:List Nat}(j:b.Perm (List.range a.size)):(b.map λi=>(a[i]?.map f).getD z).Perm (a.toList.map f):=by
 refine(j.map _).trans (List.Perm.of_eq (List.ext_getElem (by simp) λi h e=>?_));simp at h e;simp[e]
def Oy(hx:o.ExactSet)(j:s.heap.get? a=U o)(h:o.data=.set c ep t)(g:Gz t c.size)(hl:t.led=Ln w)(hb:c.size<scanBound)
  (m:∀l d I n(vs:jo)St,vs.Perm (c.toList.map (·.2))->(∀A,A.handled=f8->WalksS aM w A I n [I] (λa b=>b=a) c.size (λi aR=>vs[i]?=U aR) St)->St 0 {s with heap:=l,drawn:=d} ->
   (∀b o,s.heap.get? b=U o->l.get? b=U o)->s.heap.objs.size<=I->(∀b∈n,b=a\/s.heap.objs.size<=b)->as (.ref I) {s with heap:=l,drawn:=d}):
  wpAny (model aM w) A (pyIter (.ref a)) as a1 s:=by
 have hT:s.TypeIs (.ref a) oI:=(o,j,hx.1);have b8:=lt_size j
 have a2:t.place.size=c.size:=by
  have:=g.fits;unfold SetTable.fits at this;simp at this;exact this.1
 refine wpAny_pyIter_slot hT slot_set_iter (wpAny_call_entry slot_set_iter hT Jc (zp (zo ?_)) (args_set_iter_1 _));refine zp (zp (wpAny_setEntries_of j h g.fits (zo (zp (zp (wpAny_setState_of j h g.fits ?_))))));refine zp (zp (wpAny_askSetting (zo (zo ?_))));show wpAny _ _ (if (!w.params.followText lq && (!t.plain&&decide (c.size>1)))=L then _ else _) _ _ _;cases D:w.params.followText lq with
 |true=>
  refine zp (zo ?_);refine zp (wpAny_setEpoch_of j h g.fits (zp (wpAny_newObj_type (zo (_,Y,kX,_,(_,zM _ Y,Y),bY.lookup,?_)))));have v:=zw b8
  have a3:(pickOrder (w.params.setOrder a ep) c).size=c.size:=by
   have:=(K3 (w.params.setOrder a ep) c).length_eq;simpa using this
  refine m _ s.drawn _ [s.heap.objs.size,a,a] ((pickOrder (w.params.setOrder a ep) c).toList.map (·.2)) _ ((K3 _ c).map _) (λA' z=>Hs (G:=λi f=>f=.int 0 0) v v ?_ ?_) (zV _ j,zV _ j,_,(_,zM _ Y,Y,Y),Y) (λb o e=>zV _ e) (zq _) ?_
  .rintro i E first X p _ r rfl y x q
   have B:(pickOrder (w.params.setOrder a ep) c)[i]?=U (pickOrder (w.params.setOrder a ep) c)[i]:=Array.getElem?_eq_getElem (by simp_all);refine G4 (x:=(pickOrder (w.params.setOrder a ep) c)[i].2) r p h g.fits Y (λ{N P Q}S=>K4 p h g.fits D ?_) (λl C H=>q _ l _ ?_ C Y H)
   .rwa[B]
   simp_all
  .rintro E first p _ r rfl y x q
   have B:(pickOrder (w.params.setOrder a ep) c)[c.size]?=f8:=Array.getElem?_eq_none (by simp_all);refine Ig z r p h g.fits Y (λ{N P Q}S=>K4 p h g.fits D ?_) q
   rwa[B]
  simp_all
 |false=>
  have ag:t.led=L:=by rw[hl];show(!w.params.followText lq)=L;rw[D];rfl
  cases hp:(!t.plain&&decide (c.size>1))with
  |false=>
   refine zp (zo ?_);refine zp (wpAny_setEpoch_of j h g.fits (zp (wpAny_newObj_type (zo (_,Y,kX,_,(_,zM _ Y,Y),bY.lookup,?_)))));have v:=zw b8;refine m _ s.drawn _ [s.heap.objs.size,a,a] (c.toList.map (·.2)) _ (by simp) (λA' z=>Hs (G:=λi f=>∃M:Nat,f=.int M 0/\SetTable.below t.place M=i) v v ?_ ?_) (zV _ j,zV _ j,_,(_,zM _ Y,Y,Y),0,Y,Ov g.rise) (λb o e=>zV _ e) (zq _) ?_
   .rintro i E first X p _ r ⟨M,rfl,ab⟩ y x q
    have B:=Array.getElem?_eq_getElem X;have ig:i<t.place.size:=by lia
    refine G4 (x:=c[i].2) r p h g.fits Y (λ{N P Q}S=>K5 p h g.fits D ag hp ?_) (λl C H=>q _ l _ ?_ C (_,Y,Ow g.rise ig) H)
    .rwa[ab,B,Array.getElem?_eq_getElem ig]
    simp_all
   .rintro E first p _ r ⟨M,rfl,ab⟩ y x q
    refine Ig z r p h g.fits Y (λ{N P Q}S=>K5 p h g.fits D ag hp ?_) q
    rwa[ab,Array.getElem?_eq_none (zq _)]
   simp_all
  |true=>
   refine zp (Eg _ _ _ (by simp) λu d R=>?_);have a4:u.length=c.size:=by rw[R.length_eq];simp
   have h4:scanBound=4096:=rfl;refine zp (wpAny_newObj_type ?_ (by size_fits));have al:(s.heap.push {cls:=.type jN,data:=.seq (u.map λ(i:Nat)=>rawInt i).toArray}).get? a=U o:=zV _ j;refine zp (wpAny_setEpoch_of al h g.fits (zp (wpAny_newObj_type (zo (_,Y,kX,_,(_,zM _ Y,Y),bY.lookup,?_)))));have an:(s.heap.push {cls:=.type jN,data:=.seq (u.map λ(i:Nat)=>rawInt i).toArray}).objs.size=s.heap.objs.size+1:=Heap.size_push _ _;have v:a≠(s.heap.push {cls:=.type jN,data:=.seq (u.map λ(i:Nat)=>rawInt i).toArray}).objs.size:=by rw[an];exact zw (by grind)
   have az:s.heap.objs.size≠(s.heap.push {cls:=.type jN,data:=.seq (u.map λ(i:Nat)=>rawInt i).toArray}).objs.size:=by rw[an];exact zw (by simp)
   refine m _ d _ [(s.heap.push {cls:=.type jN,data:=.seq (u.map λ(i:Nat)=>rawInt i).toArray}).objs.size,a,s.heap.objs.size] (u.map λi=>(c[i]?.map (·.2)).getD .none) _ (Ox c _ _ R) (λA' z=>Hs (G:=λi f=>f=.ref s.heap.objs.size) v az ?_ ?_) (zV _ al,zV _ (zM _ Y),_,(_,zM _ Y,Y,Y),Y) (λb o e=>zV _ (zV _ e)) (by simp) ?_
   .rintro i E first X p T r rfl y x q
    have aC:u[i]'(by lia)<c.size:=by
     have:=R.mem_iff.mp (List.getElem_mem (n:=i) (by lia));simpa using this
    refine Lp r p h g.fits Y T Y ?_ (Array.getElem?_eq_getElem aC) (λl C H=>q _ l _ ?_ C Y H)
    .rw[List.getElem?_toArray,zy,z7 (by lia)];rfl
    simp_all
   .rintro E first p T r rfl y x q
    refine NO z r p h g.fits Y T Y ?_ q
    simp_all
   simp_all
def NP{b q}{F}{o e:List q}(p:e.Perm o):∀{d:List b},Paired F d o->∃a,a.Perm d/\Paired F a e:=by
 induction p with
 |nil=>intro d h;exact(d,List.Perm.refl _,h)
 |cons x p v=>
  intro d h;cases h with
  |cons r t=>
   obtain⟨a,B,z⟩:=v t;exact(_::a,B.cons _,.cons r z)
 |swap x y l=>
  intro d h;cases h with
  |cons r t=>
   cases t with
   |cons C t=>exact(_::_::_,List.Perm.swap ..,.cons C (.cons r t))
 |trans G H i j=>
  intro d h;obtain⟨E,q2,D⟩:=j h;obtain⟨A,q1,u⟩:=i D;exact(A,q1.trans q2,u)
theorem Jd:∀{a}{d},Paired (iX (Ac P w)) a d->Paired (λk v=>RelV (kV k) v) a (d.map (·.2))
 |_,_,.nil=>.nil
 |_,_,.cons r t=>.cons (D8 r.is) (Jd t)
def VZ:typeLookup (.type oI) oz=pure (U (.builtin "set.__len__")):=by rfl
def NQ(c:A.handled=J)(M:o.ExactSet)(X:s.heap.get? a=U o)(g:o.data=.set D ep t)(ar:Gz t D.size)(m:t.led=Ln ag)(p:D.size<scanBound)
  (f:∀C acc,(∀b o,s.heap.get? b=U o->C.heap.get? b=U o)->C.gens=s.gens->C.os=s.os->acc.Perm (D.toList.map (·.2))->Q acc C):
  wpAny (model aC ag) A (collect (.ref a)) Q as s:=by
 have z:=lt_size X;have R:=zw z
 have hn:D.size<=sizeLine:=by
  have h4:scanBound=4096:=rfl;have:sizeLine=2^24:=rfl
  lia
 refine zp (wpAny_runValue (codeAny_builtin entry_proto_collect ?_));refine zp (wpAny_newObj_type (zo (plainId_quiet plain_list_iadd _,codeAny_builtin entry_list_iadd ?_)));show wpAny _ A.in1 (Builtin.List.listExtendWith (.ref s.heap.objs.size) (.ref a) (.ref s.heap.objs.size)) _ _ _;have B:(s.heap.push {cls:=.type jH,data:=.seq ([]).toArray}).get? a=U o:=zV _ X;refine zp (wpAny_typeOf ((o,B,M.1)) ?_);have P:Builtin.List.listSameRef (.ref s.heap.objs.size) (.ref a)=O:=by simp[Builtin.List.listSameRef,Ne.symm R]
 have h2:(Value.type oI == Value.type jH)=O:=by decide
 have h3:(Value.type oI == Value.type jN)=O:=by decide
 simp[P,h2,Bool.or_false,if_false];refine zp (Oy M B g ar m p λH d I E w St an W S keep hI az=>?_);have u:Shared.TypeIs {s with heap:=H,drawn:=d} (.ref a) oI:=(o,keep _ _ B,M.1);refine zp (zJ (zp (wpAny_specialOf u VZ ?_)))
 wp_delta
 refine zp (wpAny_isInstance u (by rfl) (zp (wpAny_typeOf u ?_)));apply zo;have N:(s.heap.push {cls:=.type jH,data:=.seq ([]).toArray}).objs.size=s.heap.objs.size+1:=Heap.size_push _ _
 have G:s.heap.objs.size∉ E:=λn=>by
  grind
 have v:=keep _ _ (zM _ rfl);refine zp (wpAny_rule ?_);apply zp;refine zp (wpAny_updateSeq v Y ?_);have l:=zS (Obj.mapSeq (·.push Value.none)) v rfl;apply wpAny_updateSeq (hz:=by seq_fits) l rfl;have al:=zS (Obj.mapSeq (·.pop)) l rfl
 have F:∀b o,b≠s.heap.objs.size->H.get? b=U o->((H.update s.heap.objs.size (Obj.mapSeq (·.push Value.none))).update s.heap.objs.size (Obj.mapSeq (·.pop))).get? b=U o:=
  λb o p e=>(zU _ _ (Ne.symm p)).trans ((zU _ _ (Ne.symm p)).trans e)
 refine zo (plainId_quiet plain_extend_loop _,codeAny_extend_loopS (W A.in1 c) hn _ G _ D.size 0 _ _ _ Y (Nat.zero_le _) ((W A.in1 c).frame 0 {s with heap:=H,drawn:=d} _ s.toks S (zq _) λb p o e=>F b o (λh=>G (h ▸ p)) e) al (ItemsOf.nil _) λC j c' n T r=>zp (wpAny_load T ?_));refine zo (f C j.toList (λb ob e=>n.heap b ob (λp=>?_) (F _ _ (zw (lt_size e)) (keep _ _ (zV _ e)))) n.gens n.os ?_)
 .have x:=lt_size e;rcases mem_cons.mp p with h|h
  .exact absurd x (h ▸ zE _)
  .rw[zF.mp h]at x;have y:s.heap.objs.size+1<=I:=by rwa[←N]
   exact absurd (zZ x (Nat.le_of_succ_le y)) (zE _)
 .have e:j.toList=w:=by
   refine List.ext_getElem? λi=>?_;rw[Array.getElem?_toList];cases q:j[i]? with
   |none=>
    have hv:w.length=D.size:=by rw[an.length_eq];simp
    rw[Array.getElem?_eq_none_iff,r.1]at q;rw[List.getElem?_eq_none (by lia)]
   |some ab=>exact(r.2 i ab q).symm
  rwa[e]
def Inv.went(I:Inv X f g H s)(k:∀b u,s.heap.get? b=U u->c.heap.get? b=U u)(e:c.gens=s.gens)(d:c.os=s.os):Inv X f g H c:=by
 have a:=I.kept (t':=c.toks) k;exact(a.ok,d.trans I.os,e ▸ I.bare,a.base,a.loc,a.cell,a.free,a.dG,a.pin,a.cy,a.len)
def P4(e:∀o,h.get? a=U o->b.get? a=U o)(x:eQ (Ac P w) h a c f):eQ (Ac P w) b a c f:=
 let ⟨o,i,ep,t,d,q,r⟩:=x;(o,i,ep,t,d,e _ q,r)
def Va(acc)(k):acc.length<=(NN acc k).length:=by
 unfold NN;split
 .exact zq _
 .exact Nat.le_succ _
def El{iter}
    (f:codeAny (model b w) A (.compLoop (.SetComp e ((n,iter,g,0)::l) m j) 0 i acc c) R s)
    (h:wpAny (model b w) A (pyIter i) (λd a=>codeAny (model b w) A (.compLoop (.SetComp e ((n,iter,g,0)::l) m j) 0 d acc c) R a)
      (notedBy (model b w) A c λx a=>R (.error x) a) s):
    codeAny (model b w) A (.compStart (.SetComp e ((n,iter,g,0)::l) m j) 0 i acc c) R s:=by
  apply codeAny_of_tree;apply wpAny_notedAt;refine zp (wpAny_askSetting (wpAny_ite ?_));split
  · first
      |exact zp (zo (zo (And.intro rfl f)))
      |exact zo (And.intro rfl f)
  · first
      |exact zp (wpAny_rule (zp (zI (zp (zn h (λd a o=>zo (And.intro rfl o)) λ_ _ x=>x)))))
      | (refine zp (wpAny_rule ?_);show wpAny _ _ (standAt iter.pos >>= _) _ _ s;exact zp (zI (zp (zn h (λd a o=>zo (And.intro rfl o)) λ_ _ x=>x))))
def NS(d:(Ac f w).is k x=L)(i:eQ (Ac f w) s.heap a c g)(r:c.length+1<scanBound)
  (l:k∈c->Q .none {s with toks:=s.toks+1}) (q:k∉ c->∀b,Heap.SameBut a s.heap b->eQ (Ac f w) b a (k::c) g->Q .none {s with heap:=b,toks:=s.toks+1}):
  wpAny (model f w) A (call (.builtin "set.add") [.ref a,x]) Q E s:=by
 have j:s.TypeIs (.ref a) oI:=by
  obtain⟨o,z,ep,t,v,e,y,_⟩:=id i;exact(o,e,y.1)
 refine wpAny_call_entry slot_set_add j entry_set_add ?_ (args_set_add_2 _ _);unfold Builtin.«set.add» Builtin.Frozenset.oneOther;simp only[List.isEmpty_nil,bind_assoc];refine zp (zo (zp (zo ?_)));apply zp;refine zJ (zp ((Ac f w).pyHash d (aB d (TU d) i r (λh=>?_) (λh b u p=>?_))))
 .exact zo (_,Y,l h)
 .exact zo (_,Y,q h b u p)
abbrev Yi(a:Expr)(D:jr)(b:Env):Sem Unit:=do
 let v ←eval a b
 standAt a.pos
 let _ ←call (.builtin "set.add") [.ref D,v]
abbrev Lq{b:Type}(a:List b):Prop:=a.length<=1000
abbrev taS(a:TE):TAd (List Key):=λc d H N=>a d H λy b=>∃k,y=kV k/\N (NN c k) b
abbrev XS(b:TI)(g:TG)(tt:TT)(a:TE):=Hk [] Lq b g tt (taS a)
abbrev RAs(P:Program)(w:World)(h:Heap)(D:jr)(a:List Key):Prop:=eQ (Ac P w) h D a (Ln w)
def TV{i}:Qt P w (.SetComp b [(f,i,c,0)] m g) (newSet (.type oI)) f i c (Yi b) [] Lq (TR P w) (RAs P w) where
 cl:=rfl
 new:=by
  refine({cls:=.type oI,data:=.set #[] 0 (SetTable.fresh 0 0 (Ln w))},rfl,(λv z=>nomatch z),λh D e=>RS e,λA Q E s h=>zp (zp (wpAny_askSetting (zo ?_))));exact wpAny_newObj_type h
 turn:=λA l D j=>(rfl,rfl)
 start:=λA R s l D j o p=>El o p
 at_:=λh r D a d q=>P4 q d
 fin:=λH h D a t u d=>XQ d
def Vb(c:PE X f g):PAd X (Yi f) Lq (RAs X.prog X.w) (taS g):=by
 intro D T d E s n H N I a m R q;refine zp (cA (c _ s n H _ I q) λy w v=>?_);obtain⟨z,F,r,Q,j,M,h⟩:=v;subst M;refine zp (zI ?_);have hz:=R _ _ h
 have p:d.length+1<scanBound:=by
  have h1:=Va d j;have:4096=scanBound:=rfl
  lia
 have C:=P4 (λo e=>by rw[I.f9.1]at e;cases e;exact r.f9.1) m;refine zp (NS (Et Q) C p (λx=>?_) (λx h2 A i=>?_))
 .have t:NN d j=d:=by unfold NN;rw[zg x]
  rw[t]at h;exact zo (T,d,F,r.tok (w.toks+1),C,h)
 .have t:NN d j=j::d:=by unfold NN;rw[zh x]
  rw[t]at h;obtain⟨u,P,S,t2,ab,q,G,B,l⟩:=id i;exact zo (u,_,F,r.reD a (λb p=>A.2 b p) q (λv z=>by rw[B]at z;cases z),i,h)
def RU{a}(e)(d)(u:IY X.env.scope b X.N (x::e) (J::d)=L)(l:(x::e).Nodup)(o:b.names.lookup x=U .local)(z:X.calm=L)(r:PI X (.Name x v) a t)
  (ht:∀h s H C j i,hO (CG X (x::e) b h s H C j i) g tt) (y:∀h s H C j i,PE (CG X (x::e) b h s H C j i) c m)
  (f:∀x,foldedSetIterable a X.env x=pure x:=by intro _;rfl):
  PE X (.SetComp c [(.Name x v,a,g,0)] b A) (λw H Q=>XS t (Bz 0) tt m (J::d) (λn q=>∀p,q p=J->Q (.ref p) (upd q p (TR X.prog X.w p n))) w H):=
 Do TV DL (cL.of u) (λ_ _ _ _ _ _=>z) r.g (λh s H C j i=>Dm (BI l rfl (.inl (z5 o)) (.inr (z5 o)))) ht (λ_ _ _ _ _ _ _=>Vb (y _ _ _ _ _ _)) f rfl
def Je:∀{a},Vals (d.map V.str) a->StrsAre a d:=by
 induction d with
 |nil=>intro a r;cases r;exact .nil
 |cons x d i=>
  intro a r;cases r with
  |cons h t=>
   obtain⟨e,rfl⟩:=(h);exact .cons x e (i t)
theorem F5:∀{b}{a},StrsAre b a->Vals (a.map V.str) b
 |_,_,.nil=>.nil
 |_,_,.cons x t h=>.cons (t,rfl) (F5 h)
def Lr(f:X.calm=L):cH X (.builtin nG) (λb H Q=>∃(a:jr)(j:jm),b=[.ref a]/\H a=U (TR X.prog X.w a (j.map Sum.inr))/\j.length<64 /\
  ∀l F,H l=f8->F.Perm j->sortedS F=L->Q (.ref l) (upd H l (.lst (F.map V.str)))):=by
 rintro aC a6 a8 H b us Q I r ⟨a,j,rfl,w,a2,ag⟩;obtain⟨a7,rfl,ru⟩:=Bc r;cases ru;obtain⟨o,ar,ep,t,a5,T,hx,P,ω,S,hp,N,z⟩:=XR I.cy w;apply Calls.call_function_entry kind_sorted plain_sorted entry_sorted (args_sorted1 _);refine zp (zo (zp (NQ (I.ok.hd f) hx T P ω S z λg acc keep R G an=>?_)));obtain⟨E,p2,v⟩:=NP an (Jd N)
 obtain⟨B,u⟩:∃B:jm,E=B.map Sum.inr:=by
  refine⟨E.map λk=>match k with|Sum.inl ab=>"" |Sum.inr x=>x,?_⟩;rw[map_map];refine(List.map_id E).symm.trans (List.map_congr_left λk hk=>?_)
  grind
 subst u
 have A:B.Perm j:=by
  have:=(p2.trans hp).map (λk=>match k with|Sum.inl ab=>("":Str)|Sum.inr x=>x);simpa[Function.comp_def]using this
 have d:StrsAre acc B:=by
  refine Je (?_)
  have:∀{j:jm}{C:jo},Paired (λk al=>RelV (kV k) al) (j.map Sum.inr) C->Vals (j.map V.str) C:=by
   intro j;induction j with
   |nil=>intro C h;cases h;exact .nil
   |cons x r ih=>intro C h;cases h with|cons r t=>exact .cons r (ih t)
  exact this v
 have b8:acc.length=j.length:=by
  rw[←A.length_eq,←d.strs,AO]
 have hz:acc.length<=sizeLine:=by
  have:sizeLine=2^24:=rfl
  lia
 refine zp (wpAny_newList ?_ hz);have m:=I.went keep R G;have y:(g.heap.push {cls:=.type jH,data:=.seq acc.toArray}).get? g.heap.objs.size=U (seqObj jH acc.toArray 0):=zM _ rfl;refine zp (zJ (wpAny_call_entry slot_list_sort (_,y,Y) entry_list_sort (list_sort_treeK strKind_oneLt y d.keysOf (λaz aM aR e=>keyKind_strs (by rwa[←e])) (by simp_all) λM n D=>(_,Y,zo (_,Y,?_))) (args_list_sort _)));obtain⟨p,q,i,s⟩:=sorted_out_str d n D;have as:p.length=acc.length:=by rw[i.length_eq,←d.strs,AO]
 refine(.ref g.heap.objs.size,_,m.laid (o:=.lst (p.map V.str)) (λa0 o e=>?_) (zq _) (by simp_all,((arrOf M).map (·.2)).toList,?_),Y,ag _ p (m.cy.fresh (zq _)) (i.trans A) s)
 .rw[sortedHeap_old (zw (lt_size e)) (lt_size (zV _ e))];exact zV _ e
 .obtain⟨c,a4⟩:=sortedHeap_at y;exact(c,F5 q,qe)
def Dd(m:X.calm=L):cH X (.builtin nG) (λg H Q=>∃(a:jr)(b:LK)(h:jm),g=[.ref a]/\Rd H a (.dK b)/\b.map (·.1)=h.map Sum.inr/\h.length<64 /\
  ∀l f,H l=J->f.Perm h->sortedS f=L->Q (.ref l) (upd H l (.lst (f.map V.str)))):=by
 rintro A an as H g us Q I al ⟨a,b,h,rfl,hd,s,aM,ag⟩;obtain⟨a2,rfl,ru⟩:=Bc al;cases ru
 have C:b.length=h.length:=by
  have:=congrArg List.length s
  rwa[AO,AO]at this
 obtain⟨a8,ar,vs,B,z⟩:=Ct I.cy hd;obtain⟨ep,y⟩:=z.dictAt;have hl:=B.length;apply Calls.call_function_entry kind_sorted plain_sorted entry_sorted (args_sorted1 _);refine zp (zo (zp (W.kdu_collect (W.kdl_dict ar) (I.ok.hd m) y (by simp_all) λF tk acc keep E=>?_)))
 have M:acc.toList.length=h.length:=by
  have P:acc.toList.length=acc.size:=by simp
  rw[P,E.1,←hl,C]
 refine zp (wpAny_newList ?_ (by rwa[M,←C]))
 have d:StrsAre acc.toList h:=by
  refine Je (Cc (by simp_all) λj a4 w' G o=>?_);rw[Array.getElem?_toList]at o;obtain⟨k,a7,ex,D⟩:=E.2 j w' o;rw[zy]at G;cases r:b[j]? with
  |none=>
   exfalso
   simp_all
  |some kv=>
   have q:(h.map Sum.inr)[j]?=U kv.1:=by rw[←s,zy,r];rfl
   rw[zy]at q;obtain⟨x',v,S⟩:=z6.mp q;rw[v]at G;simp at G;obtain⟨v2,t,_⟩:=KV.get B r;rw[ex]at t;simp at t;rw[t.1,←S]at D;rw[←G];exact D8 D
 have n:Inv X A as H {an with heap:=F,toks:=tk}:=I.kept keep;have p:(F.push {cls:=.type jH,data:=.seq acc.toList.toArray}).get? F.objs.size=U (seqObj jH acc.toList.toArray 0):=zM _ rfl;refine zp (zJ (wpAny_call_entry slot_list_sort (_,p,Y) entry_list_sort (list_sort_treeK strKind_oneLt p d.keysOf (λa5 a6 a0 e=>keyKind_strs (by rwa[←e])) (by simp_all) λR N u=>(_,Y,zo (_,Y,?_))) (args_list_sort _)));obtain⟨i,w,T,x⟩:=sorted_out_str d N u;have az:i.length=acc.toList.length:=by rw[T.length_eq,←d.strs,AO]
 refine(.ref F.objs.size,_,n.laid (o:=.lst (i.map V.str)) (λaC ab e=>?_) (zq _) (by simp_all,((arrOf R).map (·.2)).toList,?_),Y,ag _ i (n.cy.fresh (zq _)) T x)
 .rw[sortedHeap_old (zw (lt_size e)) (lt_size (zV _ e))];exact zV _ e
 .obtain⟨c,aR⟩:=sortedHeap_at p;exact(c,F5 w,qe)
def RV{a}(o)(l)(G:JL (U x) X.env.scope b X.N (x::o) (J::l)=L)(t:(x::o).Nodup)(F:b.names.lookup x=U .cell)(E:X.calm=L)(D:PI X (.Name x I) a A)(u:∀x,X.fn x=L)
  (ht:∀d s H C j i,hO (f6 (U x) xN X (x::o) b d s H C j i) m tt) (B:∀d s H C j i,(∀y c,d.lookup y=U c->(f6 (U x) xN X (x::o) b d s H C j i).fn y=L\/c∉ dj X.stack)->PE (f6 (U x) xN X (x::o) b d s H C j i) f w)
  (q:∀n d,cellsFrom n b.names d=(x,(n))::d:=by intro _ _;rfl) (r:∀h,pushCells h b.names=h.push {cls:=.type "cell",data:=.cell J}:=by intro _;rfl) (g:∀x,foldedSetIterable a X.env x=pure x:=by intro _;rfl):
  PE X (.ListComp f [(.Name x I,a,m,0)] b P) (λN H Q=>Hl A (Bz 0) tt w (J::l) (λM v=>∀p,v p=J->Q (.ref p) (upd v p (.lst M))) N H):=
 Do DD DL (cL.ofz G q r) (λ_ _ _ _ _ _=>E) D.g (λd s H C j i=>Dm (BI t rfl (.inr (Fj F)) (.inl (zK rfl)))) ht
  (λd s H C j i fv=>Dp (B d s H C j i λy c e=>(fv u y c e).imp_left λz=>zK z)) g rfl
end L2
namespace MK
open PySem
def C7(a b:Nat):Builtin.bitAnd (a) (b)=((a&&&b:Nat):Int):=by
 rfl
def C2(a b:Nat):Builtin.bitOr (a) (b)=((a|||b:Nat):Int):=by
 have h:¬ 0<=Builtin.bitNot a:=by unfold Builtin.bitNot;lia
 have d:¬ 0<=Builtin.bitNot b:=by unfold Builtin.bitNot;lia
 unfold Builtin.bitOr;rw[PyProof.Rows.bitAnd_nn h d];have e:∀n:Nat,(Builtin.bitNot (Builtin.bitNot n)).toNat=n:=λn=>by unfold Builtin.bitNot;lia
 rw[e a,e b];unfold Builtin.bitNot;lia
def ED(a b:Nat):Builtin.bitAnd (a) (Builtin.bitNot (b))=((a-(a&&&b):Nat):Int):=by
 rw[PyProof.Rows.bitAnd_not,C7];have:a&&&b<=a:=Nat.and_le_left
 lia
noncomputable def Ah(l:List Nat):Nat:=l.foldl (· ||| ·) 0
theorem G5(k):∀(l:List Nat)a,(l.foldl (· ||| ·) a).testBit k=(a.testBit k||l.any (·.testBit k))
 | [],a=>by simp
 |x::r,a=>by rw[foldl_cons,G5 k r,Nat.testBit_or,any_cons,Bool.or_assoc]
def DE(l)(k):(Ah l).testBit k=l.any (·.testBit k):=by
 unfold Ah;rw[G5];simp
def Ey{l}{m}(h:∀n∈l,n<2^m):Ah l<2^m:=by
 have:∀(l:List Nat)a,a<2^m->(∀n∈l,n<2^m)->l.foldl (· ||| ·) a<2^m:=by
  intro l;induction l with
  |nil=>intro a d _;exact d
  |cons x r i=>intro a d e;exact i _ (Nat.or_lt_two_pow d (e x zH)) λn j=>e n (by simp_all)
 exact this l 0 (by grind) h
def F6(l)(n):Ah (l++[n])=Ah l|||n:=by unfold Ah;simp_all
noncomputable def C3(n:Nat):Bool:=decide (0<n)&&decide (n&&&(n-1)=0)
def Oz(k):C3 (2^k)=L:=by
 unfold C3
 have a:2^k&&&(2^k-1)=0:=by
  apply Nat.eq_of_testBit_eq;intro i;by_cases e:k=i
  .subst e;simp
  .simp
 simp[Nat.two_pow_pos k]
def De(h:C3 n=L):∃k,n=2^k:=by
 unfold C3 at h;simp at h;obtain⟨o,l⟩:=h;refine(n.log2,?_);have d:2^n.log2<=n:=Nat.log2_self_le (by lia);have a:n<2^(n.log2+1):=Nat.lt_log2_self;rcases Nat.eq_or_lt_of_le d with e|j
 .exact e.symm
 .exfalso
  have b1:n.testBit n.log2=L:=by
   rw[Nat.testBit_eq_decide_div_mod_eq];simp
   have:n/2^n.log2=1:=by
    apply Nat.div_eq_of_lt_le<;>(try rw[Nat.pow_succ]at a)<;>lia
   rw[this]
  have i:(n-1).testBit n.log2=L:=by
   rw[Nat.testBit_eq_decide_div_mod_eq];simp
   have:(n-1)/2^n.log2=1:=by
    apply Nat.div_eq_of_lt_le<;>(try rw[Nat.pow_succ]at a)<;>lia
   rw[this]
  have:(n&&&(n-1)).testBit n.log2=L:=by rw[Nat.testBit_and,b1,i];rfl
  rw[l,Nat.zero_testBit]at this;cases this
noncomputable def F7(n:Nat):List Nat:=(List.range 42).filter λk=>n.testBit k
theorem Jf{f:Type}[DecidableEq f]{p}:∀{l:List f}{a},l.Nodup->a∈l->(∀b∈l,p b=L ↔ b=a)->l.filter p=[a]
 | [],_,_,h,_=>by cases h
 |b::r,a,hn,ha,hp=>by
  obtain⟨j,d⟩:=zj.mp hn;by_cases e:b=a
  .subst e;have i:=(hp b zH).mpr rfl;rw[filter_cons,zg i];congr 1;apply List.filter_eq_nil_iff.mpr
   grind
  .rw[filter_cons,zh (λz=>e ((hp b zH).mp z))];rcases mem_cons.mp ha with z|z
   .exact absurd z.symm e
   .exact Jf d z λc o=>hp c (by simp[*])
def KG{n}(d:n<2^42):decide ((F7 n).length=1)=C3 n:=by
 rw[Bool.eq_iff_iff,decide_eq_true_eq];constructor
 .intro h;obtain⟨k,a⟩:∃k,F7 n=[k]:=List.length_eq_one_iff.mp h
  have l:∀i,i<42->(n.testBit i=L ↔ i=k):=λi o=>by
   have:i∈F7 n ↔ i=k:=by rw[a];simp
   unfold F7 at this;constructor
   .simp_all
   grind
  have j:k<42:=by
   have:k∈F7 n:=by rw[a];simp
   exact mem_range.mp (mem_filter.mp this).1
  have e:n=2^k:=by
   apply Nat.eq_of_testBit_eq;intro i;by_cases o:i<42
   .grind
   .have p:n.testBit i=O:=Nat.testBit_lt_two_pow (zZ d (Nat.pow_le_pow_right qc (by simp_all)))
    symm;grind
  rw[e];exact Oz k
 .intro h;obtain⟨k,rfl⟩:=De h
  have:F7 (2^k)=[k]:=by
   refine Jf List.nodup_range (mem_range.mpr ((Nat.pow_lt_pow_iff_right qc).mp d)) λb _=>?_;rw[Nat.testBit_two_pow,decide_eq_true_eq];exact eq_comm
  rw[this];rfl
noncomputable def CJ(m:Nat):Nat:=2^(Builtin.Int.intBits (m:Int))
def Ez{m:Nat}(h:0<m):Builtin.Int.intBits (m)=m.log2+1:=by
 unfold Builtin.Int.intBits
 grind
def NT(h:m<2^k)(a:k=0\/2^(k-1)<=m):2^k=CJ m:=by
 congr 1;rcases Nat.eq_zero_or_pos m with e|d
 .subst e
  have:k=0:=by
   rcases a with z|z
   .exact z
   .simp_all
  rw[this];rfl
 .rw[Ez d];rcases a with z|z
  .simp_all
  .have i:0<k:=by rcases Nat.eq_zero_or_pos k with e|e
                  .simp_all
                  .exact e
   have e:m.log2=k-1:=by
    apply Nat.le_antisymm
    .have:=(Nat.log2_lt (by lia)).mpr h
     lia
    .exact(Nat.le_log2 (by lia)).mpr z
   lia
theorem TW:∀{l:List Nat}{a},(∀n∈l,C3 n=L)->l.Pairwise (· < ·)->(∀n∈l,a&&&n=0)->a+l.sum=l.foldl (· ||| ·) a
 | [],a,_,_,_=>by simp
 |n::r,a,hm,hp,ha=>by
  obtain⟨q,o⟩:=pairwise_cons.mp hp;have p:=ha n zH
  have e:a|||n=a+n:=by
   have h:=PyProof.Rows.bitOr_and a n;rw[C2,C7]at h
   lia
  rw[sum_cons,foldl_cons,←TW (λm d=>hm m (by simp[*])) o (λm d=>?_)]
  .lia
  .obtain⟨i,rfl⟩:=De (hm n zH);obtain⟨j,rfl⟩:=De (hm m (by simp_all));apply Nat.eq_of_testBit_eq
   grind
def RW(d:∀n∈l,C3 n=L)(e:l.Pairwise (· < ·)):l.sum=Ah l:=by
 have:=TW (a:=0) d e (λn _=>by simp);unfold Ah
 simp_all
end MK
namespace Mk
open PySem L2 MK
noncomputable def top(i:Nat):Stmt:=PySem.Challenge.pw_markworks_k71_books_refused.main.body.getD i (.Pass (0,0,0,0))
abbrev BG:Stmt:=inClass (top 1) 0
abbrev EE:Stmt:=inClass (top 6) 0
abbrev EG:Stmt:=inClass (top 8) 0
abbrev G6:Stmt:=top 18
abbrev Ls:Stmt:=top 19
abbrev Jg:Stmt:=top 21
abbrev G7:Stmt:=top 22
abbrev Ht:Stmt:=top 24
abbrev F8:Stmt:=top 25
abbrev EH:Stmt:=top 26
abbrev F9:Stmt:=top 27
abbrev Hu:Stmt:=top 28
abbrev E3:Stmt:=top 29
abbrev Ce:Stmt:=inClass (top 30) 0
abbrev Hv:Stmt:=inClass (top 30) 1
abbrev E4:Stmt:=inClass (top 30) 2
abbrev GC:Stmt:=inClass (top 30) 6
abbrev Hw:Stmt:=inClass (top 30) 7
abbrev Lu:Stmt:=inClass (top 30) 8
abbrev FY:Stmt:=top 33
abbrev Lv:Stmt:=top 34
abbrev GD:Stmt:=inClass (top 35) 0
abbrev EI:Stmt:=inClass (top 35) 1
abbrev GH:Stmt:=inClass (top 35) 2
abbrev P5:Stmt:=top 36
abbrev Dt:Stmt:=top 37
abbrev Hx:Stmt:=top 38
abbrev O0:Stmt:=top 39
abbrev Jh:Stmt:=top 40
abbrev Lx:Stmt:=top 41
abbrev Hy:Stmt:=top 47
abbrev GO:Stmt:=top 48
abbrev Ly:Stmt:=top 49
abbrev Ji:Stmt:=top 50
abbrev EJ:Stmt:=inClass (top 51) 0
abbrev Cf:Stmt:=inClass (top 51) 1
abbrev Cg:Stmt:=inClass (top 51) 2
abbrev CK:Stmt:=inClass (top 51) 3
abbrev Bp:Stmt:=inClass (top 51) 4
abbrev CL:Stmt:=inClass (top 51) 5
abbrev DR:Stmt:=inClass (top 51) 6
abbrev EL:Stmt:=inClass (top 51) 7
abbrev Cw:Stmt:=top 52
abbrev GQ:Stmt:=top 53
abbrev Lz:Stmt:=top 54
abbrev E5:Stmt:=top 55
abbrev Hz:Stmt:=top 56
abbrev Jj:Stmt:=top 58
abbrev Du:Stmt:=top 59
abbrev E6:Stmt:=top 62
abbrev E7:Stmt:=top 63
abbrev IA:Stmt:=inClass (top 65) 0
abbrev GY:Stmt:=inClass (top 65) 1
abbrev IB:Stmt:=inClass (top 65) 2
abbrev Jk:Stmt:=inClass (top 65) 3
abbrev IC:Stmt:=inClass (top 65) 4
abbrev E8:Stmt:=inClass (top 65) 5
abbrev ID:Stmt:=inClass (top 65) 6
abbrev IE:Stmt:=inClass (top 65) 7
abbrev E9:Stmt:=inClass (top 65) 8
abbrev Dg:Stmt:=inClass (top 65) 9
abbrev GZ:Stmt:=inClass (top 65) 10
abbrev EM:Stmt:=inClass (top 65) 11
abbrev Ga:Stmt:=inClass (top 65) 13
abbrev FA:Stmt:=inClass (top 65) 14
abbrev Jl:Stmt:=inClass (top 65) 17
abbrev Jm:Stmt:=top 67
abbrev IF:Stmt:=top 68
abbrev G8:Stmt:=top 69
abbrev Gb:Stmt:=top 70
abbrev FB:Stmt:=top 71
abbrev A7:Stmt:=top 72
abbrev Gc:Stmt:=top 73
abbrev Gd:Stmt:=top 74
abbrev Ci:Stmt:=top 75
abbrev FC:Stmt:=top 76
abbrev Jn:Stmt:=top 77
abbrev G9:Stmt:=top 78
abbrev DX:Stmt:=top 79
abbrev HA:Stmt:=top 80
abbrev FD:Stmt:=top 81
abbrev IG:Stmt:=top 82
abbrev EO:Stmt:=top 83
abbrev Jo:Stmt:=top 84
abbrev Ge:Stmt:=top 85
abbrev DS:Stmt:=top 86
abbrev BP:Stmt:=top 87
abbrev Jp:Stmt:=top 88
abbrev Dh:Stmt:=top 89
structure Fn(P:Program)(w:World)(K:FG)(mg:SV)(base:Heap)(x:Str)(k:Nat)(ps:jm)(sp:Sp):Prop where
 ex:∃f fd,bH P w K mg base cF k f fd ps sp/\mg x=U (.ref f)/\W.keepIn K (.ref f)=L/\Binds K fd ps []
structure Bl(mg:SV):Prop where
 len:mg "len"=J
 fj:mg jR=J
 max:mg oE=J
 min:mg "min"=J
 range:mg mj=J
 list:mg jH=J
 tuple:mg jN=J
 sorted:mg nG=J
 sum:mg "sum"=J
 all:mg "all"=J
 enum:mg lT=J
 int:mg oa=J
 bool:mg "bool"=J
 str:mg mQ=J
noncomputable def A0(a:List Nat):jq:=a.map λ(n:Nat)=>V.int (n:Int)
inductive spUnionOf(b:FG)(c:jq)(H:Hp)(Q:VK)(d:XK):Prop
 |mk a e(f:c=[.ref a])(g:bZ b H a (A0 e))(h:Q (.int (Ah e:Nat)) H)
def scUnionOf:AH [jO,kH,jC] [jO] (defScope Jg):=cY
def P6{a}{i:Nat}{x}(h:(A0 a)[i]?=U x):∃n,a[i]?=U n/\x=V.int (n:Int):=by
 unfold A0 at h;rw[zy]at h;cases e:a[i]? with
 |none=>rw[e]at h;cases h
 |some n=>rw[e]at h;exact(n,Y,(Option.some.inj h).symm)
def O1(F:cC b mY mY Jg f c):bH P w b m g cF 1 f c [jO] (spUnionOf b):=by
 refine F.m scUnionOf λy H Q E h=>?_;obtain⟨a,d,rfl,p,k⟩:=h;refine(Y,λt A o s u=>?_)
 refine(_,AB (DI (i:=1) scUnionOf.nd Y (Or.inl Y) AF)
  (AB (CY PassesOwn.never rfl (BW (Z 0)) (BI (i:=2) scUnionOf.nd rfl (Or.inl rfl))
   (AC (OI (i:=1) scUnionOf.nd rfl (Or.inl rfl) (Z 2) Wo)))
  (AC (AJ (Z 1)))),?_)
 refine(_,Y,a,Y,(_,p),CC (λi l j=>∃v,l=[U (.ref a),U (.int (Ah (d.take i))),v]/\j=H) (J,Y,Y) (λi l j _ z=>by obtain⟨_,_,e⟩:=z;exact e ▸ p) ?_ ?_)
 .rintro i x l j r ⟨v,rfl,rfl⟩;obtain⟨n,q,rfl⟩:=P6 r;refine(_,Y,_,Y,_,_,Y,Y,(U (V.int n),?_,Y));rw[zx,q,Option.toList_some,F6];show [U (V.ref a),U (V.int (Builtin.bitOr (Ah (d.take i)) n)),U (V.int n)]=_;rw[C2]
 .rintro l j ⟨v,rfl,rfl⟩;refine(_,Y,?_);have e:(A0 d).length=d.length:=by unfold A0;rw[AO]
  rwa[e,zu]
end Mk
namespace L2
open PySem
def HB{x}{g}{tt}{f}{j}{R}{m}{h}(a:Nat->jq->Hp->Prop)(o:a 0 [] h)(t:∀i b H,a i b H->b.length<=1000)
  (s:∀i c b H,x.cps[i]?=U c->a i b H->bT g tt (ia f) j m (.str ⟨#[c]⟩) b (a (i+1)) H) (l:∀b H,a x.cps.size b H->R b H):tW (Its x) [] ie (bT g tt (ia f) j m) R h:=
 Dl (n:=x.cps.size) a o (λi b H q=>Kl (t i b H q)) (λi b H d e=>(d,by rintro v p ⟨rfl,c,r,rfl⟩;exact s i c b p r e)) λb H e=>(zq _,l b H e)
end L2
namespace Mk
open PySem L2 MK
def IH:bootBuiltins "all"=U (.builtin "all"):=by rfl
def EQ:bootBuiltins jR=U (.builtin jR):=by rfl
def Dv:bootBuiltins nG=U (.builtin nG):=by rfl
def TY:bootBuiltins "sum"=U (.builtin "sum"):=by rfl
def XT:bootBuiltins "min"=U (.builtin "min"):=by rfl
def XU:bootBuiltins oE=U (.builtin oE):=by rfl
def FE:bootBuiltins mQ=U (.type mQ):=by rfl
def II:bootBuiltins oa=U (.type oa):=by rfl
def Vc:bootBuiltins "bool"=U (.type "bool"):=by rfl
def Cy:bootBuiltins jN=U (.type jN):=by rfl
def ER:bootBuiltins jH=U (.type jH):=by rfl
def AD(s:bD H c)(a:c p=J):bD H (upd c p o):=λb u e=>by
 have d:=s b u e
 rwa[AE (AK d a)]
noncomputable def Di(c:Nat):Bool:=decide (65<=c)&&decide (c<=90)
def CM(x:Str):Bool:=(decide (1<=x.length)&&decide (x.length<=6))&&x.cps.toList.all Di
def Bn(f)(y:X.K=f)(q:Gl X jR)(o:X.mg jR=J)(a:Gl X x)(h:X.mg x=J)(d:bootBuiltins x=U (.type T))(u:PE X e n)
  (r:x≠ j8:=by decide) (l:fQ x:=by decide)
  (g:starEach [e,.Name x c] X.env=(O,(eval e X.env))::starEach [.Name x c] X.env:=by rfl) (i:(backTo m (starEach [.Name x c] X.env)).any (·.1)=O:=by rfl) (j:starEach [.Name x c] X.env=(O,(eval (.Name x c) X.env))::starEach [] X.env:=by rfl):
  PE X (.Call (.Name jR p) [e,.Name x c] [] m) (tCB (λs H Q=>∃v T t b,s=[v,.ty T]/\eh f H v t/\W.kitOne f t (.type T)=U b/\Q (.bl b) H) (AY n (AY (tC (.ty T)) BS))):=by
 subst y;exact AR Mp q o EQ (AA u (AA (C6 a h d Y r l) AG j) g) qc qc g i
def Al(b)(a:X.K=b):IxR X (YJ b):=a ▸ Uw
def Ad(b)(a:X.K=b):IxR X (Wt b):=a ▸ Wu
def A1(c)(a:X.K=c):cH X (.builtin "len") (λd H Q=>∃p b,d=[.ref p]/\(bZ c H p b\/cD c H p b)/\Q (.int b.length) H):=a ▸ Go
inductive spIsName(a:jq)(H:Hp)(Q:VK)(b:XK):Prop
 |mk x(e:a=[.str x])(f:x.cps.all (· < 128)=L)(g:x.length<=1000)(d:∀c,bD H c->Q (.bl (CM x)) c)
def TZ:AH [jz] [jz] (defScope Ls):=cY
def Ta(c):(if (!decide ((⟨#[c]⟩:Str).cps.toList<("A":Str).cps.toList))=L then (!decide (("Z":Str).cps.toList<(⟨#[c]⟩:Str).cps.toList))else O)=Di c:=by
 have e:("A":Str).cps.toList=[65]:=by decide +kernel
 have i:("Z":Str).cps.toList=[90]:=by decide +kernel
 rw[e,i];unfold Di
 have d:decide ([c]<[65])=decide (c<65):=by
  rw[Bool.eq_iff_iff,decide_eq_true_eq,cons_lt_cons_iff];simp
 have a:decide ([90]<[c])=decide (90<c):=by
  rw[Bool.eq_iff_iff,decide_eq_true_eq,cons_lt_cons_iff];simp
 rw[d,a];by_cases j:c<65<;>by_cases h:90<c<;>simp[h]<;>simp_all
def RX(F:cC d nH nH Ls f g)(B:Bl a)(j:a "LONGEST_NAME"=U (.int 6 t6)):bH P w d a l cF 1 f g [jz] spIsName:=by
 refine F.m TZ λvs H Q E h=>?_;obtain⟨x,rfl,G,N,k⟩:=h;refine(Y,λR A X s T=>?_)
 refine(_,AB (AU (PW.pt (DH (Ar (Ak (Bn d Y Y B.fj Y B.str FE (Z 0)))) (By (Ar (Er Eo Eo AF (AR A4 Y B.len PySem.boot_len (AA (Z 0) AG)) (BM (v:=.int 6) Y j (t6,Y)))))))
   (AC (AJ CQ)) AM)
  (AC (AJ (AR (Ds rfl) rfl B.all IH (AA (Bt [] [] (by rfl) (by simp) (by rfl) rfl (JQ (Z 0)) (λ_ _ _ _ _ _=>BR) (λ_ _ _ _ _ _=>Ep B2 B2 AI (Z 0) AI)) AG)))),?_)
 refine(_,Y,_,_,_,L,Y,.str x,Y,_,Y,?_);apply AS;refine(_,Y,x,Y,Nat.le_of_lt (AQ N),_,_,Y,Y,_,Y,BL (λq=>?_) (λq=>?_))
 .have r:1<=x.length:=by have:=zT q;lia
  refine(_,_,Y,Y,_,Y,BL (λn=>?_) (λn=>?_))
  .have t:¬ x.length<=6:=by
    intro z;rw[zK (by lia)]at n;cases n
   have e:CM x=O:=by unfold CM;simp[t]
   have:=k H (bD.refl H)
   rwa[e]at this
  .have t:x.length<=6:=Decidable.byContradiction λz=>n (by grind);refine(_,Y,x,Y,G,HB (λi o m=>m=H/\o=(x.cps.toList.take i).map λc=>V.bl (Di c)) (Y,Y) (λi o m ⟨_,e⟩=>?_) ?_ ?_)
   .rw[e,AO,zt];have:x.cps.toList.length=x.length:=by rw[Array.length_toList];rfl
    lia
   .rintro i c o m S ⟨rfl,rfl⟩;refine(_,Y,_,_,Y,Y,_,Y,?_)
    have C:∀b,b=Di c->(m=m/\(x.cps.toList.take i).map (λc=>V.bl (Di c))++[V.bl b]=(x.cps.toList.take (i+1)).map λc=>V.bl (Di c)):=λb I=>by
     refine(Y,?_);have D:x.cps.toList[i]?=U c:=by rwa[Array.getElem?_toList]
     rw[zx,D,zm,I];rfl
    have y:=Ta c;refine BL (λu=>?_) (λu=>?_)
    .rw[zg u]at y;exact(_,_,Y,Y,C _ y)
    .simp_all
   .rintro o m ⟨rfl,rfl⟩ p M;refine(p,x.cps.toList.map Di,Y,bZ.of (by rw[bA,take_of_length_le (by simp_all),map_map];rfl),?_)
    have e:CM x=((x.cps.toList.map Di).all id):=by
     unfold CM;rw[zK r,zK t,all_map];rfl
    rw[←e];exact k _ (AD (bD.refl _) M)
 .have r:¬ 1<=x.length:=λz=>q (zK (by lia));refine(_,Y,?_);apply AZ;have e:CM x=O:=by unfold CM;simp[r]
  have:=k H (bD.refl H)
  rwa[e]at this
inductive Th where
 |bQ|num (n:Nat)|i6 (a:jm)
def gf(H:Hp)(v:V):Th->Prop
 |.bQ=>v=.bQ
 |.num n=>v=.int (n:Int)
 |.i6 b=>∃a,v=.ref a/\H a=U (.tup (b.map V.str))
noncomputable def FF(a:List Nat):Nat:=a.foldl max 0
noncomputable def look(a:Aa)(x:Str):Nat:=((a.find? λp=>decide (p.1=x)).map (·.2)).getD 0
noncomputable def A8(a:Aa):LK:=a.map λp=>(Sum.inr p.1,(V.int (p.2:Int)))
def DY(a:Aa):Th->Nat
 |.bQ=>CJ (FF (a.map (·.2)))
 |.num n=>n
 |.i6 b=>Ah (b.map (look a))
theorem Gf(x):∀a,Ai (A8 a) (Sum.inr x)=(a.find? λp=>decide (p.1=x)).map λp=>V.int (p.2:Int)
 | []=>rfl
 |p::r=>by
  show Ai ((Sum.inr p.1,(V.int p.2))::A8 r) (Sum.inr x)=_;by_cases e:p.1=x
  .rw[A9 (by rw[←e]),List.find?_cons_of_pos (by simp_all)];rfl
  .rw[A6 (λz=>e (Sum.inr.inj z)),List.find?_cons_of_neg (by simp_all)];exact Gf x r
def RY{a:Aa}(h:x∈a.map (·.1)):(a.find? λp=>decide (p.1=x)).isSome=L:=by
 simp_all
def Cz(h:x∈a.map (·.1)):Ai (A8 a) (Sum.inr x)=U (V.int (look a x:Int)):=by
 rw[Gf];unfold look;obtain⟨p,d⟩:=Option.isSome_iff_exists.mp (RY h)
 simp_all
def ES(h:x∉ a.map (·.1)):Ai (A8 a) (Sum.inr x)=J:=by
 rw[Gf]
 grind
theorem HC:∀(l:List Nat)a,a<m->(∀n∈l,n<m)->l.foldl max a<m
 | [],a,h,_=>h
 |x::r,a,h,k=>HC r (max a x) (by have:=k x zH;lia) λn d=>k n (by simp_all)
def NU{a}{m}(d:0<m)(h:∀n∈a,n<m):FF a<m:=HC a 0 d h
def Tb(a b:Nat):max (a:Int) (b)=((max a b:Nat):Int):=by lia
theorem Jq:∀(r:List Nat)(a:Nat),(r.map λn:Nat=>(n:Int)).foldl max (a:Int)=((r.foldl max a:Nat):Int)
 | [],_=>rfl
 |x::r,a=>by rw[map_cons,foldl_cons,Tb,Jq r];rfl
def NV{d}(h:d≠ []):Mq 0 (d.map λn:Nat=>(n:Int))=(FF d:Nat):=by
 cases d with
 |nil=>rfl
 |cons a r=>
  show(r.map λn:Nat=>(n:Int)).foldl max (a:Int)=_;rw[Jq];rfl
def O2{m:Nat}(h:m<2^20):Builtin.Int.intBits (m:Int)<=20:=by
 rcases Nat.eq_zero_or_pos m with e|a
 .subst e;decide
 .rw[Ez a];have:=(Nat.log2_lt (by lia)).mpr h
  assumption
inductive spNextMark(b:FG)(c:jq)(H:Hp)(Q:VK)(d:XK):Prop
 |mk a e(g:c=[.ref a])(h:bZ b H a (A0 e))(i:(∀n∈e,n<2^20))(f:Q (.int (CJ (FF e):Nat)) H)
def O3:AH [jO] [jO] (defScope Ht):=cY
def Iv(a):A0 a=(a.map λn:Nat=>(n:Int)).map V.int:=by unfold A0;simp_all
def NX(F:cC b om om Ht f c)(B:Bl g):bH P w b g x cF 1 f c [jO] (spNextMark b):=by
 refine F.m O3 λv H Q E h=>?_;obtain⟨a,d,rfl,q,o,k⟩:=h;refine(Y,λt A p s u=>?_);refine(_,AC (AJ (AX LQ AF (Fq plainAttrs_int PySem.F.slot_int_bit_length PySem.F.type_int_bit_length Lf (Pq Y Y B.max (Z 0) AF)))),?_)
 have l:∀m:Int,m=FF d->tyV b oa (.int m) H/\∃i,V.int m=.int i/\([]:jq)=[]/\rI Wm (λi j=>V.int (i*2^j.toNat)) (V.int 1) (V.int (Builtin.Int.intBits i)) H Q:=λm e=>by
  subst e;refine(Y,_,Y,Y,1,_,Y,Y,(zY _,?_,qc),?_)
  .have:=O2 (NU qc o);lia
  .have e:(1:Int)*2^((Builtin.Int.intBits (FF d:Nat)):Int).toNat=((CJ (FF d):Nat)):=by
    unfold CJ;simp
   show Q (V.int (1*2^((Builtin.Int.intBits (FF d:Nat)):Int).toNat)) H
   rwa[e]
 refine(_,Y,a,d.map (λn:Nat=>n),0,Y,Y,by rw[←Iv];exact q,λe=>?_,λe=>?_)
 .have r:=List.map_eq_nil_iff.mp e;exact l 0 (by rw[r];rfl)
 .exact l _ (NV (λz=>e (by rw[z];rfl)))
def FZ(a:FG):Sp:=λc H Q _=>(∃(x:Str)(d:jr)(b:LK),c=[.str x,.ref d]/\Rd H d (.dK b)/\Q (.bl (Ai b (Sum.inr x:Key)).isSome) H) \/
 (∃(x:Str)(t:jr)(e:jm),c=[.str x,.ref t]/\cD a H t (e.map V.str)/\Q (.bl (fG (.str x) (e.map V.str))) H)
def K6:AH [jz,jZ] [jz,jZ] (defScope G7):=cY
theorem K7:∀a:jm,(a.map V.str).all Gm=L
 | []=>rfl
 |_::r=>K7 r
def Jr(F:cC b lr lr G7 f c)(B:Bl g):bH P w b g m cF 1 f c [jz,jZ] (FZ b):=by
 refine F.ok K6 (λo H Q E h=>?_) (λp A e s H o Q E l h=>?_)
 .rcases h with⟨x,d,a,rfl,_⟩|⟨x,t,i,rfl,_⟩<;>rfl
 .rcases h with⟨x,d,a,rfl,j,k⟩|⟨x,t,i,rfl,ht,k⟩
  .refine(_,AC (AJ (CB (Bn b Y Y B.fj Y B.str FE (Z 0)) (CW (LL (Ft (Bs l) (Z 0) (Z 1)))))),(_,Y,_,_,_,L,Y,.str x,Y,_,Y,?_));exact(_,Y,_,Y,d,_,Y,.inl (a,Sum.inr x,j,Y,Y),k)
  .refine(_,AC (AJ (CB (Bn b Y Y B.fj Y B.str FE (Z 0)) (CW (Cn FV (Z 0) (Z 1) (by rfl))))),(_,Y,_,_,_,L,Y,.str x,Y,_,Y,?_));exact(_,Y,_,Y,t,_,Y,.inr ht,Y,K7 i,k)
inductive spIsNamesOf(b:jq)(H:Hp)(Q:VK)(c:XK):Prop
 |mk a d(e:jm) kvs(h:b=[.ref a,.ref d])(i:H a=U (.tup (e.map V.str)))(j:e.length<=1000)(g:Rd H d (.dK kvs))(l:∀f,bD H f->Q (.bl (decide (0<e.length)&&e.all λx=>(Ai kvs (Sum.inr x:Key)).isSome)) f)
def NY:AH ["parts",lN] ["parts",lN] (defScope F8):=cY
def bD.rd(s:bD H b)(h:Rd H a u):Rd b a u:=by
 rcases h with h|⟨o,h⟩
 .exact .inl (s _ _ h)
 .exact .inr (o,s _ _ h)
def L1(F:cC b nv nv F8 f m)(B:Bl c)(u:Fn P w b c g lr 1 [jz,jZ] (FZ b)):bH P w b c g cF 2 f m ["parts",lN] spIsNamesOf:=by
 obtain⟨fO,X,u,R,S,n⟩:=u.ex;refine F.m NY λag H Q E h=>?_;obtain⟨a,d,j,l,rfl,t,T,s,k⟩:=h;refine(Y,λz A C al G=>?_)
 refine(_,AC (AJ (CB (Cn IW (AR Go Y B.len PySem.boot_len (AA (Z 0) AG)) AF (AN _))
  (CW (AR (Ds rfl) rfl B.all IH (AA (Bt [lN] [U 1] (by rfl) (by trivial) (by rfl) rfl (OL (Z 0)) (λ_ _ _ _ _ _=>BR)
   (λ_ _ _ _ _ _=>At u G rfl R S n .nil Af (AA (Z 0) (AA (Z 1) AG)))) AG))))),?_)
 have D:(j.map V.str).length=j.length:=AO _;refine(_,Y,a,_,Y,.inr (cD.of t),_,_,Y,Y,_,Y,BL (λr=>?_) (λr=>?_))
 .have y:0<j.length:=by have:=zT r;simp_all
  refine(_,Y,a,Y,(_,cD.of t),JO (λi o q=>q=H/\o=(j.take i).map λx=>V.bl (Ai l (Sum.inr x)).isSome) (Y,Y) (λi o q _ z=>by obtain⟨e,_⟩:=z;exact e ▸ cD.of t) (λi o q ⟨_,e⟩=>?_) ?_ ?_)
  .grind
  .rintro i v o q ab ⟨rfl,rfl⟩
   obtain⟨x,M,rfl⟩:∃x,j[i]?=U x/\v=V.str x:=by
    cases e:j[i]? with
    |none=>simp_all
    |some x=>simp_all
   refine(_,Y,_,Y,.inl (x,d,l,Y,s,Y,?_));rw[zx,M,zm];rfl
  .rintro o q ⟨rfl,rfl⟩ p N;have I:j.take (j.map V.str).length=j:=by rw[D];exact zu
   refine(p,j.map λx=>(Ai l (Sum.inr x)).isSome,Y,bZ.of (by rw[bA,I,map_map];rfl),?_)
   have e:(decide (0<j.length)&&j.all λx=>(Ai l (Sum.inr x)).isSome)=(j.map λx=>(Ai l (Sum.inr x)).isSome).all id:=by
    rw[zK y,all_map];rfl
   rw[←e];exact k _ (AD (bD.refl _) N)
 .have:=k H (bD.refl H)
  rwa[zN (λan=>r (zK (by lia))),Bool.false_and]at this
inductive spIsWhole(a:jq)(H:Hp)(Q:VK)(b:XK):Prop
 |mk n(c:a=[.int n])(d:Q (.bl L) H)
def RZ:AH [jz] [jz] (defScope G6):=cY
structure C5(bG:Aa):Prop where
 len:bG.length<=10
 lt:∀p∈bG,p.2<2^20
 nd:(bG.map (·.1)).Nodup
 nm:∀p∈bG,CM p.1=L/\p.1.cps.all (· < 128)=L/\p.1.length<=1000
def Vd(a:Aa):Th->Prop
 |.bQ=>True
 |.num _=>True
 |.i6 b=>b≠ []/\b.length<=10/\∀x∈b,x∈a.map (·.1)
inductive spThing(a:jq)(H:Hp)(Q:VK)(b:XK):Prop
 |mk tv e d c(h:a=[tv,.ref d])(i:gf H tv e)(j:Rd H d (.dK (A8 c)))(g:C5 c)(l:Vd c e)(m:∀f,bD H f->Q (.int (DY c e:Nat)) f)
def Ve:AH [jz,lN] [jz,lN] (defScope EH):=cY
def Tc(a):(A8 a).map (·.2)=A0 (a.map (·.2)):=by unfold A8 A0;simp_all
def Td(F:cC b mZ mZ EH ab fd)(B:Bl c)(S:Fn P w b c f om 1 [jO] (spNextMark b))(g:Fn P w b c f nv 2 ["parts",lN] spIsNamesOf)
  (N:Fn P w b c f mY 1 [jO] (spUnionOf b)) (h:Fn P w b c f lJ 1 [jz] spIsWhole):bH P w b c f cF 3 ab fd [jz,lN] spThing:=by
 obtain⟨fN,dN,S,mN,kN,E⟩:=S.ex;obtain⟨fI,dI,g,mI,kI,A⟩:=g.ex;obtain⟨fU,dU,N,v,kU,Q⟩:=N.ex;obtain⟨fW,dW,h,mW,kW,T⟩:=h.ex;refine F.m Ve λvs H aC az ag=>?_;obtain⟨tv,th,d,j,rfl,l,y,q,TO,k⟩:=ag;refine(Y,λbf as aM a0 M=>?_);have hu:=Bs M;have r:bJ 1 _:=M.mono qc
 refine(_,AB (AU (Db (LJ (Z 0))) (AC (AJ (At S r Y mN kN E .nil Af (AA (BF (Oc Y) Y B.list ER (AA (Sh slot_dict_values type_dict_values Qx (Z 1)) AG)) AG)))) AM)
  (AB (AU (PW.pt (CV (Ak (Bn b rfl rfl B.fj rfl B.tuple Cy (Z 0))) (Bj (Ak (At g M rfl mI kI A .nil Af (AA (Z 0) (AA (Z 1) AG)))))))
   (AC (AJ (At N r rfl v kU Q .nil Af (AA (Bt [lN] [U 1] (by rfl) (by trivial) (by rfl) rfl (OL (Z 0)) (λ_ _ _ _ _ _=>BR) (λ_ _ _ _ _ _=>Au hu (Z 1) (Z 0) (λ_ _=>rfl))) AG)))) AM)
  (AB (AU (Ak (At h r rfl mW kW T .nil Af (AA (Z 0) AG))) (AC (AJ (Z 0))) AM)
  (AC Ag))),?_)
 refine(_,rfl,_,rfl,?_);cases th with
 |bQ=>
  have e:=l;subst e;refine BL (λ_=>(_,Y,d,Y,.inl (_,y),d,_,Y,Y,y,λp I=>?_)) (λz=>absurd Y z);refine(p,d,_,Y,bA,bD.rd (AD (bD.refl _) I) y,λal X=>(al,j.map (·.2),Y,bZ.of (by rw[bA,Tc]),λn hn=>?_,?_))
  .obtain⟨an,hq,rfl⟩:=zi.mp hn;exact q.lt an hq
  .exact k _ (AD (AD (bD.refl _) I) X)
 |num n=>
  have e:=l;subst e;refine BL (λz=>absurd (zT z) (by simp)) (λ_=>(_,Y,_,_,_,gt,Y,.int _,(by rfl),_,Y,?_));apply AS;refine(_,Y,n,Y,_,Y,?_);apply AZ;exact(_,Y,k H (bD.refl H))
 |i6 o=>
  obtain⟨a,rfl,D⟩:=l;obtain⟨R,aR,C⟩:=TO;refine BL (λz=>absurd (zT z) (by simp)) (λ_=>?_);refine(_,Y,_,_,_,L,Y,.tup D,Y,_,Y,(_,Y,_,Y,a,d,o,A8 j,Y,D,by lia,y,λs G=>(_,Y,?_)))
  have e1:(decide (0<o.length)&&o.all λx=>(Ai (A8 j) (Sum.inr x)).isSome)=L:=by
   rw[Bool.and_eq_true,decide_eq_true_eq,all_eq_true];refine(List.length_pos_iff.mpr R,λx m=>?_);rw[Cz (C x m)];rfl
  rw[e1];apply AZ;refine(_,Y,a,Y,(_,cD.of (G _ _ D)),JO (λi t u=>u=s/\t=A0 ((o.take i).map (look j))) (Y,Y) (λi t u _ zz=>by obtain⟨e,_⟩:=zz;exact e ▸ cD.of (G _ _ D)) (λi t u ⟨_,e⟩=>?_) ?_ ?_)
  .rw[e];unfold A0
   grind
  .rintro i ar t u hi ⟨rfl,rfl⟩
   obtain⟨x,m,rfl⟩:∃x,o[i]?=U x/\ar=V.str x:=by
    grind
   refine(_,Y,_,Y,d,_,Y,.inl (A8 j,Sum.inr x,bD.rd G y,Y,(Cz (C x (by grind))).symm),Y,?_);rw[zx,m];unfold A0
   simp_all
  .rintro t u ⟨rfl,rfl⟩ p I;have el:o.take (o.map V.str).length=o:=by rw[AO _];exact zu
   exact(p,o.map (look j),Y,bZ.of (by rw[bA,el]),k _ (AD G I))
end Mk
namespace L2
open PySem
def Te{f}{a}{c}{g:TG}{n:TS}{D:I0}{b}(d:Nat->St->Hp->Prop)(E:d 0 b H)(t:∀i b H,i<=c.length->d i b H->bZ f H a c)
  (s:∀i x b H p,c[i]?=U x->d i b H->H p=J->g (.ref p) b (upd H p (.tup [.int i,x])) λh u=>n {D with nx:=d (i+1),ct:=d (i+1),bk:=D.nx} h u) (C:∀b H,d c.length b H->D.nx b H):
  ∃W:Nat->Nat->St->Hp->Prop,(∃m,W 0 m b H)/\∀i m b H,W i m b H ->
   ((Ite f a).stop i H/\D.nx b H)\/((Ite f a).go i H/\∃N,(∀j l,N j l->∃A,A<m/\W (i+1) A j l)/\∀x l,(Ite f a).ir i H x l->g x b l λh u=>n {D with nx:=N,ct:=N,bk:=D.nx} h u):=by
 refine(λi m b H=>m=c.length-i/\i<=c.length/\d i b H,(_,Y,Nat.zero_le _,E),?_);rintro i m b H ⟨rfl,v,r⟩;by_cases o:i<c.length
 .have z:=z7 o;refine .inr ((c,c[i],t i b H v r,z),d (i+1),λj l q=>(c.length-(i+1),by lia,Y,o,q),?_);rintro x l ⟨p,y,B,rfl,F,rfl⟩
  have G:y=c[i]:=by
   have:=F c (t i b H v r);rw[z]at this;exact(Option.some.inj this).symm
  subst G;exact s i c[i] b H p z r B
 .have e:i=c.length:=by lia
  subst e;exact .inl ((c,t _ b H v r,zq _),C b H r)
def Ra{a}{o}{c}{g:TG}{f:TS}{D:I0}{b}(d:Nat->St->Hp->Prop)(C:d 0 b H)(z:∀i b H,d i b H->H a=U (.dz o (.dK c)))
  (n:∀i r b H p,c[i]?=U r->d i b H->H p=J->g (.ref p) b (upd H p (.tup [kV r.1,r.2])) λl v=>f {D with nx:=d (i+1),ct:=d (i+1),bk:=D.nx} l v) (B:∀b H,d c.length b H->D.nx b H):
  ∃W:Nat->Nat->St->Hp->Prop,(∃m,W 0 m b H)/\∀i m b H,W i m b H ->
   ((jk a o c).stop i H/\D.nx b H)\/((jk a o c).go i H/\∃N,(∀j h,N j h->∃A,A<m/\W (i+1) A j h)/\∀x h,(jk a o c).ir i H x h->g x b h λl v=>f {D with nx:=N,ct:=N,bk:=D.nx} l v):=by
 refine(λi m b H=>m=c.length-i/\i<=c.length/\d i b H,(_,Y,Nat.zero_le _,C),?_);rintro i m b H ⟨rfl,F,u⟩;by_cases t:i<c.length
 .refine .inr ((z i b H u,t),d (i+1),λj h q=>(c.length-(i+1),by lia,Y,t,q),?_);rintro x h ⟨p,r,E,rfl,y,rfl⟩;exact n i r b H p y u E
 .have e:i=c.length:=by lia
  subst e;exact .inl ((z _ b H u,zq _),B b H u)
def Js{s}{r}{ok}{B}{R}(d:Nat->s->Hp->Prop)(u:d 0 r f)(q:∀i b H,d i b H->H a=U (.dz o (.dK c)))(m:∀i b H,d i b H->ok b)
  (g:∀i e b H p,c[i]?=U e->d i b H->H p=J->B (.ref p) b (d (i+1)) (upd H p (.tup [kV e.1,e.2]))) (t:∀b H,d c.length b H->R b H):tW (jk a o c) r ok B R f:=
 Dl (n:=c.length) d u m (λi b H j h=>((q i b H h,j),by rintro x y ⟨p,e,v,rfl,l,rfl⟩;exact g i e b H p l h v)) λb H h=>((q _ b H h,zq _),t b H h)
def O4{a}{o}{c}{g}{tt}{f}{j}{R}{m}{h}(d:Nat->jq->Hp->Prop)(t:d 0 [] h)(r:∀i b H,d i b H->H a=U (.dz o (.dK c)))(s:∀i b H,d i b H->b.length<=1000)
  (n:∀i e b H p,c[i]?=U e->d i b H->H p=J->bT g tt (ia f) j m (.ref p) b (d (i+1)) (upd H p (.tup [kV e.1,e.2]))) (l:∀b H,d c.length b H->R b H):tW (jk a o c) [] ie (bT g tt (ia f) j m) R h:=Js d t r (λi b H q=>Kl (s i b H q)) n l
end L2
namespace Mk
open PySem L2 MK
def Yj(x:Str):Prop:=CM x=L/\x.cps.all (· < 128)=L/\x.length<=1000
structure P7(bG:Aa)(r:Str×Th):Prop where
 ahead:C5 bG
 few:bG.length<10
 nm:Yj r.1
 new:r.1∉ bG.map (·.1)
 th:Vd bG r.2
 lt:DY bG r.2<2^20
def Aq(a:List (Str×Th)):Aa:=a.foldl (λb r=>b++[(r.1,(DY b r.2))]) []
def Fa(a)(r):Aq (a++[r])=Aq a++[(r.1,(DY (Aq a) r.2))]:=by unfold Aq;simp_all
def Gg(a:List (Str×Th)):Prop:=∀i r,a[i]?=U r->P7 (Aq (a.take i)) r
inductive eP(H:Hp)(b:jr)(r:Str×Th):Prop
 |mk tv(a:H b=U (.tup [.str r.1,tv]))(c:gf H tv r.2)
inductive RowsAt(H:Hp)(l:jr)(a:List (Str×Th)):Prop
 |mk as(b:H l=U (.lst (as.map V.ref)))(c:Paired (eP H) as a)
def gf.same(s:bD H c)(h:gf H v b):gf c v b:=by
 cases b with
 |bQ=>exact h
 |num n=>exact h
 |i6 d=>obtain⟨a,e,h⟩:=h;exact(a,e,s _ _ h)
def eP.same{r}(s:bD H c)(h:eP H b r):eP c b r:=by
 obtain⟨a,e,t⟩:=h;exact(a,s _ _ e,t.same s)
theorem ET{f a}{F}:∀{b}{c:List a}{i:Nat}{x:f},Paired F b c->b[i]?=U x->∃y,c[i]?=U y/\F x y
 |_,_,_,_,.nil,e=>by simp at e
 |_,_,0,_,.cons r _,e=>by simp_all
 |_,_,i+1,x,.cons _ t,e=>by
  obtain⟨u,d,h⟩:=ET t (by trivial)
  simp_all
def Jt(s:bD H c)(a:H d=J):bD H (upd c d o):=λb u e=>by
 rw[AE (AK e a)];exact s b u e
inductive spRow(a:jq)(H:Hp)(Q:VK)(c:XK):Prop
 |mk b d r bG(g:a=[.ref b,.ref d])(h:eP H b r)(i:Rd H d (.dK (A8 bG)))(f:P7 bG r)(j:∀e,bD H e->Q (.int (DY bG r.2:Nat)) e)
def scRow:AH ["row",lN,jx,jz,jC] ["row",lN] (defScope F9):=cY
def XV(F:cC a nQ nQ F9 f j)(B:Bl c)(l:c "GREATEST"=U (.int 1048575 m))(e:Fn P w a c g nH 1 [jz] spIsName)(GT:Fn P w a c g mZ 3 [jz,lN] spThing):
  bH P w a c g cF 4 f j ["row",lN] spRow:=by
 obtain⟨fN,dN,e,mN,C,x⟩:=e.ex;obtain⟨X,T,GT,G,D,bT⟩:=GT.ex;refine F.m scRow λvs H Q E h=>?_;obtain⟨b,d,r,p,rfl,⟨M,q,y⟩,u,n,k⟩:=h;refine(Y,λS A ag s t=>?_)
 refine(_,AB (AU (PW.pt (DH (Ar (Ak (Bn a Y Y B.fj Y B.tuple Cy (Z 0)))) (By (AL Ed (AR (A1 a Y) Y B.len PySem.boot_len (AA (Z 0) AG)) AF (AN _))))) (AC Ag) AM)
  (AB (Bg (Z 0) (BN rfl (AT (BI (i:=2) scRow.nd rfl (Or.inl rfl)) (AT (BI (i:=3) scRow.nd rfl (Or.inl rfl)) A3))))
  (AB (AU (PW.pt (DH (Ar (Ak (At e (t.mono qc) rfl mN C x .nil Af (AA (Z 2) AG)))) (By (Db (Ft (Bs t) (Z 2) (Z 1)))))) (AC Ag) AM)
  (AB (DI (i:=4) scRow.nd rfl (Or.inl rfl) (At GT t rfl G D bT .nil Af (AA (Z 3) (AA (Z 1) AG))))
  (AB (AU (PW.pt (DH (Db (LJ (Z 4))) (By (Ar (Er Eo Eo AF (Z 4) (BM (v:=.int 1048575) rfl l (m,rfl))))))) (AC Ag) AM)
  (AC (AJ (Z 4))))))),?_)
 refine(_,Y,_,_,_,L,Y,.tup q,Y,_,Y,?_);apply AS;refine(_,Y,b,_,Y,.inr (cD.of q),Y,_,Y,?_);apply SU rfl;refine(_,Y,b,_,Y,cD.of q,Y,_,_,Y,_,_,Y,Y,(_,Y,r.1,Y,n.nm.2.1,n.nm.2.2,λN o=>(_,Y,?_)));rw[n.nm.1];apply AS;refine(_,Y,_,Y,d,_,Y,.inl (A8 p,Sum.inr r.1,bD.rd o u,Y,(ES n.new).symm),_,Y,?_);apply AS;refine(_,Y,_,Y,M,r.2,d,p,Y,y.same o,bD.rd o u,n.ahead,n.th,λR I=>(_,Y,_,Y,?_));refine BL (λz=>absurd (zT z) (by simp)) (λ_=>(_,Y,_,_,Y,Y,_,Y,?_));refine BL (λ_=>(_,_,Y,Y,_,Y,?_)) (λz=>absurd (zK (by simp)) z);have ab:=n.lt;apply SU (show((DY p r.2:Nat):Int)<=1048575 by lia);exact(_,Y,k _ (o.trans I))
inductive spNumbered(a:jq)(H:Hp)(Q:VK)(b:XK):Prop
 |mk l rows(f:a=[.ref l])(g:RowsAt H l rows)(h:0<rows.length)(e:rows.length<=10)(i:Gg rows)(j:∀d c,bD H c->H d=J->c d=U (.dK (A8 (Aq rows)))->Q (.ref d) c)
def scNumbered:AH [mu,jO,"at","row",jC] [mu] (defScope Hu):=cY
def P8{a}{x}{n:Nat}(h:x∉ a.map (·.1)):Bi (A8 a) (Sum.inr x:Key) (V.int (n))=A8 (a++[(x,(n))]):=by
 rw[Gp _ (ES h)];unfold A8
 simp_all
def K8(a):(A8 a).length=a.length:=AO _
def CN:∀d,(Aq d).length=d.length:=λd=>by
 have:∀(l:List (Str×Th))a,(l.foldl (λh r=>h++[(r.1,(DY h r.2))]) a).length=a.length+l.length:=by
  intro l;induction l with
  |nil=>simp
  |cons x r i=>grind
 have e:=this d [];rw[length_nil]at e;unfold Aq
 simp_all
def Na(F:cC a "numbered" "numbered" Hu f j)(B:Bl e)(m:e "MOST_ROWS"=U (.int 10 tm))(c:Fn P ag a e g nQ 4 ["row",lN] spRow):bH P ag a e g cF 5 f j [mu] spNumbered:=by
 obtain⟨fR,dR,c,mR,kR,S⟩:=c.ex;refine F.m scNumbered λvs H az ar h=>?_;obtain⟨l,u,rfl,⟨w,s,E⟩,h0,jc,R,k⟩:=h;refine(Y,λbf an aC aM I=>?_)
 refine(_,AB (AU (PW.pt (DH (Ar (Ak (Bn a Y Y B.fj Y B.list ER (Z 0)))) (By (Ar (Er Eo Eo AF (AR (A1 a Y) Y B.len PySem.boot_len (AA (Z 0) AG)) (BM (v:=.int 10) Y m (tm,Y))))))) (AC Ag) AM)
  (AB (DI (i:=1) scNumbered.nd rfl (Or.inl rfl) DK)
  (AB (CY PassesOwn.never rfl (U5 rfl B.enum (AA (Z 0) AG)) (BN rfl (AT (BI (i:=2) scNumbered.nd rfl (Or.inl rfl)) (AT (BI (i:=3) scNumbered.nd rfl (Or.inl rfl)) A3)))
   (AB (DI (i:=4) scNumbered.nd rfl (Or.inl rfl) (At c I rfl mR kR S .nil Af (AA (Z 3) (AA (Z 1) AG))))
   (AB (AU (Db (LJ (Z 4))) (AC Ag) AM)
   (AC (D4 (Bs I) (Z 1) (Am (Ad a rfl) (Z 3) AF (λ_ _=>rfl)) (Z 4) rfl)))))
  (AC (AJ (Z 1))))),?_)
 refine(_,Y,_,_,_,gl,Y,.lst s,Y,_,Y,?_);apply AS;have ab:(w.map V.ref).length=u.length:=by rw[AO,E.length]
 refine(_,Y,l,_,Y,.inl (bZ.of s),_,_,Y,Y,_,Y,BL (λ_=>?_) (λz=>absurd (zK (by lia)) z));refine(_,_,Y,Y,_,Y,?_);apply SU (show(((w.map V.ref).length:Nat):Int)<=10 by lia);intro d t
 refine(_,Y,l,Y,(_,bZ.of (AD (bD.refl _) t _ _ s)),Te (λi v n=>∃y A C,v=[U (.ref l),U (.ref d),y,A,C]/\bD H n/\n d=U (.dK (A8 (Aq (u.take i)))))
  (J,J,J,rfl,AD (bD.refl _) t,bA) (λi v n _ zz=>by obtain⟨_,_,_,_,o,_⟩:=zz;exact bZ.of (o _ _ s)) ?_ ?_)
 .rintro i al v n p hi ⟨y,A,C,rfl,o,q⟩ G
  obtain⟨b,X,rfl⟩:∃b,w[i]?=U b/\al=V.ref b:=by
   grind
  obtain⟨r,M,N⟩:=ET E X;have D:=R i r M;have s3:bD H (upd n p (.tup [.int i,.ref b])):=AD o G;have Q:(upd n p (.tup [.int i,.ref b])) d=U (.dK (A8 (Aq (u.take i)))):=by rwa[AE (AK q G)]
  refine(p,_,Y,cD.of bA,Y,_,_,Y,_,_,Y,Y,(_,Y,_,Y,b,d,r,Aq (u.take i),Y,N.same s3,.inl Q,D,λH4 x=>?_));refine(_,Y,_,Y,BL (λz=>absurd (zT z) (by simp)) (λ_=>?_));obtain⟨tv,T,_⟩:=N.same (s3.trans x);refine(_,Y,_,Y,_,Y,b,_,0,.str r.1,Y,Y,cD.of T,Y,d,_,Y,gx.k (k:=Sum.inr r.1) (x _ _ Q) (AQ (by rw[K8,CN,zt];lia)),(_,_,_,Y,Jt (s3.trans x) t,?_));rw[bA,P8 D.new,zx,M,Option.toList_some,Fa]
 .rintro v n ⟨y,A,C,rfl,o,q⟩;rw[ab,zu]at q;exact(_,Y,k d n o t q)
def Aj(a:Aa):List (Nat×Str):=a.foldl (λfs p=>if (fs.map (·.1)).contains p.2 then fs else fs++[(p.2,(p.1))]) []
def C4(fs:List (Nat×Str)):LK:=fs.map λq=>(Sum.inl (q.1:Int),(V.str q.2))
def Nb(fs:List (Nat×Str))(n:Nat):Str:=((fs.find? λq=>decide (q.1=n)).map (·.2)).getD (Str.ofString "")
def DZ(a)(p):Aj (a++[p])=if ((Aj a).map (·.1)).contains p.2 then Aj a else Aj a++[(p.2,(p.1))]:=by unfold Aj;simp_all
theorem IJ(n:Nat):∀fs,Ai (C4 fs) (Sum.inl (n):Key)=(fs.find? λq=>decide (q.1=n)).map λq=>V.str q.2
 | []=>rfl
 |q::r=>by
  show Ai ((Sum.inl (q.1:Int),(V.str q.2))::C4 r) (Sum.inl n)=_;by_cases e:q.1=n
  .rw[A9 (by rw[←e]),List.find?_cons_of_pos (by simp_all)];rfl
  .rw[A6 (λz=>e (by grind)),List.find?_cons_of_neg (by simp_all)];exact IJ n r
def O5{fs:List (Nat×Str)}(h:n∈fs.map (·.1)):(fs.find? λq=>decide (q.1=n)).isSome=L:=by
 simp_all
def Ju{fs}{n:Nat}(h:n∈fs.map (·.1)):Ai (C4 fs) (Sum.inl (n):Key)=U (V.str (Nb fs n)):=by
 rw[IJ];unfold Nb;obtain⟨q,a⟩:=Option.isSome_iff_exists.mp (O5 h)
 simp_all
def IK{fs}{n:Nat}(h:n∉ fs.map (·.1)):Ai (C4 fs) (Sum.inl (n:Int):Key)=J:=by
 rw[IJ]
 grind
def Nc{fs}{n:Nat}{x}(h:n∉ fs.map (·.1)):Bi (C4 fs) (Sum.inl (n):Key) (V.str x)=C4 (fs++[(n,(x))]):=by
 rw[Gp _ (IK h)];unfold C4
 simp_all
def EU(d):(Aj d).length<=d.length:=by
 have:∀(l:Aa)(a:List (Nat×Str)),(l.foldl (λfs p=>if (fs.map (·.1)).contains p.2 then fs else fs++[(p.2,(p.1))]) a).length<=a.length+l.length:=by
  intro l;induction l with
  |nil=>simp_all
  |cons x r h=>
   grind
 have e:=this d [];rw[length_nil]at e;unfold Aj;omega
def FH(d:Aa):∀a,(a.map (·.1)).Nodup->(∀n∈a.map (·.1),n∈(d.foldl (λfs p=>if (fs.map (·.1)).contains p.2 then fs else fs++[(p.2,(p.1))]) a).map (·.1)) /\
  ((d.foldl (λfs p=>if (fs.map (·.1)).contains p.2 then fs else fs++[(p.2,(p.1))]) a).map (·.1)).Nodup/\(∀p∈d,p.2∈(d.foldl (λfs p=>if (fs.map (·.1)).contains p.2 then fs else fs++[(p.2,(p.1))]) a).map (·.1)) /\
  (∀q∈d.foldl (λfs p=>if (fs.map (·.1)).contains p.2 then fs else fs++[(p.2,(p.1))]) a,q∈a\/(q.2,(q.1))∈d):=by
 induction d with
 |nil=>simp[*]
 |cons p r t=>
  intro a u;rw[foldl_cons];by_cases i:(a.map (·.1)).contains p.2=L
  .rw[zg i];obtain⟨h,j,l,o⟩:=t a u;refine(h,j,λq e=>?_,λq e=>?_)
   .rcases mem_cons.mp e with rfl|e
    .exact h _ (by simpa using i)
    .exact l q e
   .rcases o q e with z|z
    .exact .inl z
    .exact .inr (by grind)
  .rw[zh i];obtain⟨h,j,l,o⟩:=t (a++[(p.2,(p.1))]) (by rw[zm];exact U1 u (λz=>i (by simpa using z)));refine(λn v=>h n (by rw[zm];exact zO _ v),j,λq e=>?_,λq e=>?_)
   .rcases mem_cons.mp e with rfl|e
    .exact h _ (by simp)
    .exact l q e
   .rcases o q e with z|z
    .rcases mem_append.mp z with z|z
     .exact .inl z
     .have:q=(p.2,(p.1)):=by simpa using z
      subst this;exact .inr zH
    .exact .inr (by grind)
def Rb(a):((Aj a).map (·.1)).Nodup:=(FH a [] nodup_nil).2.1
def Rc(h:p∈a):p.2∈(Aj a).map (·.1):=(FH a [] nodup_nil).2.2.1 p h
def K9(h:q∈Aj a):(q.2,(q.1))∈a:=by
 rcases (FH a [] nodup_nil).2.2.2 q h with z|z
 .cases z
 simp_all
inductive spFirsts(a:jq)(H:Hp)(Q:VK)(b:XK):Prop
 |mk d o bG(g:a=[.ref d])(h:H d=U (.dz o (.dK (A8 bG))))(i:bG.length<=100)(f:∀e c,bD H c->H e=J->c e=U (.dK (C4 (Aj bG)))->Q (.ref e) c)
def scFirsts:AH [jO,lK,jx,jC] [jO] (defScope E3):=cY
def Tf{a}{i:Nat}{d}(h:(A8 a)[i]?=U d):∃p,a[i]?=U p/\d=(Sum.inr p.1,(V.int (p.2:Int))):=by
 unfold A8 at h;rw[zy]at h;cases e:a[i]? with
 |none=>rw[e]at h;cases h
 |some p=>rw[e]at h;exact(p,Y,(Option.some.inj h).symm)
def Re(F:cC c ny ny E3 f b):bH P al c m g cF 1 f b [jO] spFirsts:=by
 refine F.m scFirsts λX H Q E h=>?_;obtain⟨d,o,a,rfl,n,T,k⟩:=h;refine(Y,λN A B s S=>?_)
 refine(_,AB (DI (i:=1) scFirsts.nd Y (Or.inl Y) DK)
  (AB (CY PassesOwn.never rfl (JP (Z 0)) (BN rfl (AT (BI (i:=2) scFirsts.nd rfl (Or.inl rfl)) (AT (BI (i:=3) scFirsts.nd rfl (Or.inl rfl)) A3)))
   (AC (AV (SQ plainAttrs_dict slot_dict_setdefault type_dict_setdefault KC (Z 1) (AA (Z 3) (AA (Z 2) AG))))))
  (AC (AJ (Z 1)))),?_)
 intro e u
 refine(_,Y,d,o,A8 a,Y,AD (bD.refl _) u _ _ n,Ra (λi v q=>∃y x,v=[U (.ref d),U (.ref e),y,x]/\bD H q/\q e=U (.dK (C4 (Aj (a.take i)))))
  (J,J,rfl,AD (bD.refl _) u,bA) (λi v q zz=>by obtain⟨_,_,_,t,_⟩:=zz;exact t _ _ n) ?_ ?_)
 .rintro i R v q p C ⟨y,x,rfl,t,j⟩ w;obtain⟨l,D,rfl⟩:=Tf C;have s3:bD H (upd q p (.tup [.str l.1,.int l.2])):=AD t w;have r:(upd q p (.tup [.str l.1,.int l.2])) e=U (.dK (C4 (Aj (a.take i)))):=by rwa[AE (AK j w)]
  have I:a.take (i+1)=a.take i++[l]:=by rw[zx,D];rfl
  have ab:(C4 (Aj (a.take i))).length<=100:=by
   unfold C4;rw[AO];have:=EU (a.take i);rw[zt]at this
   lia
  refine(p,_,Y,cD.of bA,Y,_,_,Y,_,_,Y,Y,(_,Y,.inr (.inr (.inl (Y,.inl (_,r)))),_,Y,_,Y,e,_,Sum.inl l.2,.str l.1,Y,Y,r,AQ (by lia),λag M=>?_,λG=>?_))
  .refine(_,_,Y,s3,?_);have z:=Decidable.byContradiction λz=>by rw[IK z]at M;cases M
   rwa[I,DZ,zg (by simp[*])]
  .have z:l.2∉ (Aj (a.take i)).map (·.1):=λz=>by rw[Ju z]at G;cases G
   refine(_,_,Y,Jt s3 u,?_);rw[bA,I,DZ,zh (by simp_all),Nc z]
 .rintro v q ⟨y,x,rfl,t,j⟩;rw[K8,zu]at j;exact(_,Y,k e q t u j)
def Nf(a b:jr)(r:Str):List (Str×V):=BB "rule" (.str r) (BB lK (.ref b) (BB jO (.ref a) []))
def FI(a d)(r):(Nf a d r).lookup (jO:Str)=U (.ref a):=by
 rfl
def Tg(d a)(r):(Nf d a r).lookup (lK:Str)=U (.ref a):=by
 rfl
def IL(a d)(r):(Nf a d r).lookup ("rule":Str)=U (.str r):=by
 rfl
def Cq(e i)(r){m:Str}(d:¬ m="rule":=by decide +kernel)(h:¬ m=lK:=by decide +kernel)(a:¬ m=jO:=by decide +kernel):(Nf e i r).lookup m=J:=by
 unfold Nf;rw[Ax,zh d,Ax,zh h,Ax,zh a];rfl
def Vf(a):(BB jO (V.ref a) []).lookup (jO:Str)=U (.ref a):=by rfl
structure cE(C:jr)(H:Hp)(p:jr)(bG:Aa)(r:Str):Prop where
 ex:∃dx a c b d,H p=U (.ins C dx (Nf a b r))/\H a=U (.dz c (.dK (A8 bG)))/\H b=U (.dz d (.dK (C4 (Aj bG))))
def cE.same{d}{r}(s:bD H f)(h:cE C H p d r):cE C f p d r:=by
 obtain⟨o,e,j,l,i,a,b,c⟩:=h.ex;exact⟨(o,e,j,l,i,s _ _ a,s _ _ b,s _ _ c)⟩
structure Gh(K:FG)(C:jr):Prop where
 cl:gy K C
 nN:dy K C jO
 nF:dy K C lK
 nR:dy K C "rule"
noncomputable def c9:jm:=[mx,oo,lp,mm]
inductive spInit(C:jr)(a:jq)(H:Hp)(Q:VK)(c:XK):Prop
 |mk p dx l rows r(f:a=[.ref p,.ref l,.str r])(g:H p=U (.ins C dx []))(h:RowsAt H l rows)(e:0<rows.length)(i:rows.length<=10)(j:Gg rows)(n:r∈c9)(m:∀d,(∀b o,H b=U o->b≠p->d b=U o)->cE C d p (Aq rows) r->Q .bQ d)
def XW:AH [jt,mu,lR] [jt,mu,lR] (defScope Ce):=cY
def Ti(h:r∈c9):fG (.str r) (c9.map V.str)=L:=by
 unfold fG;rw[any_map,any_eq_true];exact(r,h,by show(r==r)=L;simp)
def Vg(F:cC c jF mv Ce f fd)(as:Bl g)(T:Gh c C)(hR:g "RULES"=U (.ref l))(I:∀H,cD c H l (c9.map V.str))
  (h:Fn P w c g m "numbered" 5 [mu] spNumbered) (S:Fn P w c g m ny 1 [jO] spFirsts) (N:Fn P w c g m lr 1 [jz,jZ] (FZ c)):bH P w c g m cF 6 f fd [jt,mu,lR] (spInit C):=by
 obtain⟨fN,dN,h,mN,kN,bN⟩:=h.ex;obtain⟨fF,dF,S,mF,kF,bF⟩:=S.ex;obtain⟨fO,dO,N,mO,kO,bO⟩:=N.ex;refine F.m XW λvs H aC az ab=>?_;obtain⟨p,t,ag,a,al,rfl,z,Q,h0,R,X,E,k⟩:=ab;refine(Y,λbf ar aM a0 A=>?_);have y:bJ 1 _:=A.mono qc
 refine(_,AB (Cb (Z 0) (At h A Y mN kN bN .nil Af (AA (Z 1) AG)) Y)
  (Fv (AB (AU (Ar (Ak (At N y rfl mO kO bO .nil Af (AA (Z 2) (AA (BM (v:=.ref l) rfl hR rfl) AG))))) (AC Ag) AM)
  (AB (Cb (Z 0) (At S y rfl mF kF bF .nil Af (AA (Ae (Z 0) rfl) AG)) rfl)
  (Fv (AC (Cb (Z 0) (Z 2) rfl)))))),?_)
 refine(_,Y,ag,a,Y,Q,h0,R,X,λi v r q iJ=>?_);have u:=AK z q;refine(_,Y,p,C,t,[],Y,r _ _ z,T.cl,T.nN,(by simp),?_);refine(i,A8 (Aq a),by rw[AE (Ne.symm u)];assumption,λs=>(_,Y,.inr (al,l,c9,Y,I _,_,Y,?_)));rw[Ti E];apply AS;have x:∀o,(upd (upd v p (.ins C t (BB jO (.ref i) []))) i o) p=U (.ins C t (BB jO (.ref i) [])):=λo=>by rw[AE u,bA]
 refine(_,Y,p,C,t,_,_,Y,x _,T.cl,T.nN,Vf i,i,s,Aq a,Y,bA,by rw[CN];lia,λD B n d aR=>?_);have j:=AK (x _) d;refine(_,Y,p,C,t,_,Y,n _ _ (x _),T.cl,T.nF,(by show 1<1000;decide),(D,C4 (Aj (Aq a)),by rw[AE (Ne.symm j)];simp_all,λo2=>?_));have M:∀o,(upd (upd B p (.ins C t (BB lK (.ref D) (BB jO (.ref i) [])))) D o) p=U (.ins C t (BB lK (.ref D) (BB jO (.ref i) []))):=λo=>by rw[AE j,bA]
 refine(_,Y,_,Y,p,C,t,_,Y,M _,T.cl,T.nR,Nat.lt_of_le_of_lt (Ay _ _ _) (by show 2<1000;decide),k _ (λb o e G=>?_) ⟨(t,i,s,D,o2,bA,?_,?_)⟩)
 .rw[AE G,AE,AE G]
  .apply n _ _;rw[AE (AK e q),AE G];exact r _ _ e
  .intro an;subst an
   have:(upd (upd v p (.ins C t (BB jO (.ref i) []))) i (.dz s (.dK (A8 (Aq a))))) b=U o:=by
    rw[AE (AK e q),AE G];exact r _ _ e
   rw[d]at this;cases this
 .rw[AE (Ne.symm u),AE (AK (bA) d),AE (Ne.symm u)];exact n _ _ bA
 .rw[AE (Ne.symm j),bA]
structure Mt(P:Program)(w:World)(K:FG)(mg:SV)(base:Heap)(C:jr)(m:Str)(k:Nat)(ps:jm)(sp:Sp):Prop where
 ex:∃f fd,bH P w K mg base cF k f fd ps sp/\OP K C m f/\Binds K fd ps []
noncomputable def Dw(a:Aa):List (V×V):=a.map λp=>(V.str p.1,(V.int (p.2:Int)))
def CT(c:Aa):List Nat:=((Aj c).map (·.1)).mergeSort λa b=>decide (a<=b)
def BU(a:Aa):List Nat:=(CT a).filter C3
def P9(a:Aa):List (V×V):=(BU a).map λn=>(V.str (Nb (Aj a) n),(V.int (n:Int)))
def EV(a):(CT a).Perm ((Aj a).map (·.1)):=List.mergeSort_perm _ _
def HD(d):(CT d).Pairwise (· <= ·):=by
 have:=List.pairwise_mergeSort (le:=λa b=>decide (a<=b)) (λa b c e i=>by lia) (λa b=>by lia) ((Aj d).map (·.1));exact this.imp λh=>by simp_all
def Tj{d}{l}(o:l.Perm ((C4 (Aj d)).map λj=>match j.1 with|Sum.inl i=>i|Sum.inr _=>0))(c:l.Pairwise (· <= ·)):l=(CT d).map λn:Nat=>(n:Int):=by
 apply List.Perm.eq_of_pairwise (le:=(· <= ·)) (λa b _ _ p q=>Int.le_antisymm p q) c
 .rw[pairwise_map];exact(HD d).imp λh=>by simp_all
 .have e:((C4 (Aj d)).map λj=>match j.1 with|Sum.inl i=>i|Sum.inr _=>0)=((Aj d).map (·.1)).map λn:Nat=>(n:Int):=by
   unfold C4;rw[map_map,map_map];rfl
  rw[e]at o;exact o.trans ((EV d).symm.map _)
def mem_keysS{a}{n}:n∈CT a ↔ n∈(Aj a).map (·.1):=(EV a).mem_iff
def LA(a):(CT a).length<=a.length:=by
 rw[(EV a).length_eq,AO];exact EU a
inductive spRows(C:jr)(a:jq)(H:Hp)(Q:VK)(b:XK):Prop
 |mk p bG r(e:a=[.ref p])(f:cE C H p bG r)(g:∀l d c,bD H c->c l=U (.lst (d.map V.ref))->bV c d (Dw bG)->Q (.ref l) c)
def XX:AH [jt] [jt] (defScope Hv):=cY
def Vh(a):(A8 a).map (λd=>(kV d.1,(d.2)))=Dw a:=by unfold A8 Dw;rw[map_map];rfl
def Vi(F:cC b mu "Kind.rows" Hv f c)(B:Bl g)(T:Gh b C):bH P w b g m cF 1 f c [jt] (spRows C):=by
 refine F.m XX λN H Q E h=>?_;obtain⟨p,u,r,rfl,z,k⟩:=h;refine(Y,λD A e s n=>?_);obtain⟨x,a,i,S,R,y,d,M⟩:=z.ex;refine(_,AC (AJ (BF (Od Y) Y B.list ER (AA (Sh slot_dict_items type_dict_items Si (Ae (Z 0) Y)) AG))),(_,Y,p,C,x,_,_,Y,y,T.cl,T.nN,FI _ _ _,a,Y,.inl (_,.inr (i,d)),a,_,Y,Y,.inr (i,d),λv G=>?_));have j:bD H (upd H v (Pp a v)):=AD (bD.refl _) G;refine(v,a,_,Y,bA,bD.rd j (.inr (i,d)),λl q I t _ o ht=>?_);rw[Vh]at ht;exact k l q I (j.trans t) o ht
inductive spKnown(C:jr)(a:jq)(H:Hp)(Q:VK)(b:XK):Prop
 |mk p bG r(d:a=[.ref p])(e:cE C H p bG r)(f:∀c,bD H c->Q (.int (Ah ((Aj bG).map (·.1)):Nat)) c)
def Vj:AH [jt] [jt] (defScope GC):=cY
def Tk(F:cC b kY "Kind.known" GC f m)(B:Bl c)(T:Gh b C)(d:Fn P w b c g mY 1 [jO] (spUnionOf b)):bH P w b c g cF 2 f m [jt] (spKnown C):=by
 obtain⟨S,n,d,j,z,t⟩:=d.ex;refine F.m Vj λN H Q E h=>?_;obtain⟨p,a,r,rfl,x,k⟩:=h;refine(Y,λy A e s q=>?_);obtain⟨u,R,M,o,D,v,I,G⟩:=x.ex;refine(_,AC (AJ (At d q Y j z t .nil Af (AA (BF (Ob Y) Y B.list ER (AA (Ae (Z 0) Y) AG)) AG))),(_,Y,p,C,u,_,_,Y,v,T.cl,T.nF,Tg _ _ _,o,_,Y,.inr (D,G),λl i=>?_));refine(l,(Aj a).map (·.1),Y,bZ.of (by rw[bA];unfold C4 A0;rw[map_map,map_map];rfl),k _ (AD (bD.refl _) i))
def Rg(s:bD H c)(h:bV H d e)(a:c b=U (.tup [p.1,p.2])):bV c (d++[b]) (e++[p]):=Paired.snoc (bV.same s h) a
def Ng{H}{d}{a}{i:Nat}{b}(h:bV H d a)(e:d[i]?=U b):∃p,a[i]?=U p/\H b=U (.tup [p.1,p.2]):=ET h e
def cE.ins{H}{d}{C}{p}{r}(h:cE C H p d r):∃j e i,H p=U (.ins C j (Nf e i r)):=by
 obtain⟨j,e,o,i,l,a,_⟩:=h.ex
 grind
def Rh(a):(P9 a).length=(BU a).length:=AO _
def QA(h:∀p∈a,p.2<2^20):∀n∈(Aj a).map (·.1),n<2^20:=λn d=>by
 obtain⟨q,e,rfl⟩:=zi.mp d;exact h _ (K9 e)
def Tl(h:∀p∈a,p.2<2^20):∀n∈BU a,n<2^20:=λn d=>QA h n (mem_keysS.mp (mem_filter.mp d).1)
def HE(d:0<=x)(h:x<2^n):Builtin.Int.intBits x<=n:=by
 obtain⟨m,rfl⟩:=Int.eq_ofNat_of_zero_le d;rcases Nat.eq_zero_or_pos m with e|a
 .subst e;exact Nat.zero_le _
 .rw[Ez a];exact(Nat.log2_lt (by lia)).mpr (by exact_mod_cast h)
def IM(d:0<=i)(a:i<xs.length):∃v,gB xs i=U v/\xs[i.toNat]?=U v:=by
 refine(xs[i.toNat],?_,z7 (by simp_all));unfold gB gY
 simp_all
structure cz(d:jr)(H H':Hp):Prop where
 old:∀b o,H b=U o->b≠d->H' b=U o
 dv:∃a b,H' d=U (.lst [.int a,.int b])
def cz.step(x:cz d H c)(s:bD c f):cz d H f:=
 (λb o e h=>s _ _ (x.old b o e h),by obtain⟨a,b,e⟩:=x.dv;exact(a,b,s _ _ e))
def cz.upd(x:cz d H f):cz d H (upd f d (.lst [.int a,.int b])):=
 (λc o e h=>by rw[AE h];exact x.old c o e h,(a,b,bA))
def cz.trans(x:cz d H c)(y:cz d c f):cz d H f:=(λb o e a=>y.old _ _ (x.old b o e a) a,y.dv)
inductive spCell(b:FG)(c:jq)(H:Hp)(Q:VK)(d:XK):Prop
 |mk a(f:List Int) k(h:c=[.ref a,.int k])(i:bZ b H a (f.map V.int))(j:f.length<=63)(g:0<=k)(l:∀v e,bD H e->Q (.int v) e)
def XY:AH [jP,mq] [jP,mq] (defScope Jm):=cY
def Vk(F:cC b oq oq Jm f c)(B:Bl g):bH P w b g m cF 1 f c [jP,mq] (spCell b):=by
 refine F.m XY λM H Q E h=>?_;obtain⟨a,e,t,rfl,i,x,I,k⟩:=h;refine(Y,λD A l s u=>?_)
 refine(_,AB (AU (AL (XA b Y u.units) (Z 0) (As AG) (AN _)) (AC (AJ (AX JC (Z 1) AF))) AM)
  (AC (AJ (AX CD (Am (Al b rfl) (Z 0) (AX Fp (Z 1) (AR (A1 b rfl) rfl B.len PySem.boot_len (AA (Z 0) AG))) (λ_ _=>rfl))
   (AX JC (AX Pa (Z 1) (AR (A1 b rfl) rfl B.len PySem.boot_len (AA (Z 0) AG))) AF)))),?_)
 refine(_,Y,Nat.zero_le _,λp C=>?_);have d:bD H (upd H p (.lst [])):=AD (bD.refl _) C;refine(a,p,e,[],Y,Y,d.seq i,bZ.of bA,_,Y,BL (λo=>?_) (λo=>?_))
 .exact(_,Y,_,_,Y,Y,.inr (qc,qc),k _ _ d)
 .have q:=List.length_pos_iff.mpr (λz=>o (zK z));have r:(e.map V.int).length=e.length:=AO _;have j:0<=t%((e.map V.int).length):=Int.emod_nonneg _ (by simp_all);obtain⟨v,G,y⟩:=IM j (Int.emod_lt_of_pos _ (by lia))
  obtain⟨n,rfl⟩:∃n,v=V.int n:=by
   grind
  exact(_,Y,_,Y,_,Y,a,_,Y,.inl (d.seq i),_,_,Y,Y,(by rw[r];simp_all),a,_,_,_,Y,Y,d.seq i,G,(_,Y,_,Y,a,_,Y,.inl (d.seq i),_,_,Y,Y,(by lia,by lia),_,_,Y,Y,.inr (qc,qc),_,_,Y,Y,k _ _ d))
inductive spDrawn(a:jq)(H:Hp)(Q:VK)(b:XK):Prop
 |mk c k(d:a=[.int c,.int k])(e:∀r,0<=r->Q (.int r) H)
def scDrawn:AH [lO,mq,"_law_more"] [lO,mq] (defScope IF):=cY
def Tm(F:cC g my my IF f b):bH P w g n m cF 1 f b [lO,mq] spDrawn:=by
 refine F.m scDrawn λx H Q E h=>?_;obtain⟨c,e,rfl,k⟩:=h;refine(Y,λu A j s v=>?_)
 refine(_,AB (DI (i:=2) scDrawn.nd Y (Or.inl Y) (AX Fp (AX CD (AX JC (Z 0) AF) (AX JC (AX CD (Z 1) AF) AF)) AF))
  (AB (DI (i:=2) scDrawn.nd rfl (Or.inl rfl) (AX Fp (AX Lg (Z 2) (Z 2)) AF))
  (AB (DI (i:=2) scDrawn.nd rfl (Or.inl rfl) (AX Lg (AX Lg (AX CD (AX Fp (Z 2) AF) AF) (AX CD (AX Ms (Z 2) AF) AF)) (Z 2)))
  (AC (AJ (AX Fp (Z 2) AF))))),?_)
 refine(_,Y,_,_,Y,Y,.inr (qc,qc),_,Y,_,_,Y,Y,_,_,Y,Y,.inr (qc,qc),_,_,Y,Y,_,_,Y,Y,(by show 0<_;decide),?_);generalize p:(c*6364136223846793005+(e+1)*1442695040888963407)%340282366920938463463374607431768211507=z
 have l:0<=z/\z<2^130:=by
  rw[←p];exact(Int.emod_nonneg _ qc,Int.lt_trans (Int.emod_lt_of_pos _ qc) qc)
 have b1:Builtin.Int.intBits z<=2^20:=Nat.le_trans (HE l.1 l.2) qc;subst p;refine(_,Y,_,Y,_,_,Y,Y,(b1,b1),_,_,Y,Y,(by show 0<_;decide),?_);generalize o:(c*6364136223846793005+(e+1)*1442695040888963407)%340282366920938463463374607431768211507*((c*6364136223846793005+(e+1)*1442695040888963407)%340282366920938463463374607431768211507)%340282366920938463463374607431768211297=y
 have q:0<=y/\y<2^130:=by
  rw[←o];exact(Int.emod_nonneg _ qc,Int.lt_trans (Int.emod_lt_of_pos _ qc) qc)
 have d:0<=y%18446744073709551557+1/\y%18446744073709551557+1<2^65:=by
  lia
 have a:0<=y/18446744073709551557+1/\y/18446744073709551557+1<2^131:=by
  lia
 have t:=Int.mul_nonneg d.1 a.1
 have r:(y%18446744073709551557+1)*(y/18446744073709551557+1)<2^196:=by
  have:=Int.mul_lt_mul' (Int.le_of_lt d.2) a.2 a.1 qc;exact Int.lt_of_lt_of_le this qc
 subst o;refine(_,Y,_,_,Y,Y,(by show 0<_;decide),_,_,Y,Y,_,Y,_,_,Y,Y,(qc,PyProof.noPylong_of_log2 (by trivial)),_,_,Y,Y,_,_,Y,Y,(Nat.le_trans (HE d.1 d.2) qc,Nat.le_trans (HE a.1 a.2) qc),(_,Y,_,_,Y,Y,(Nat.le_trans (HE t r) qc,Nat.le_trans (HE q.1 q.2) qc),?_));exact(_,Y,_,_,Y,Y,(by show 0<_;decide),k _ (by lia))
inductive eH(c:jq)(H:Hp)(Q:VK)(e:XK):Prop
 |mk d a b m(i:c=[.ref d,.int m])(j:H d=U (.lst [.int a,.int b]))(l:0<m)(h:m<1073741824)(n:∀r f g,0<=r->r<m->Q (.int r) (upd H d (.lst [.int f,.int g])))
def scRoll:AH [jv,j6,"_law_told_here"] [jv,j6] (defScope G8):=cY
inductive spRollB(c:jq)(H:Hp)(Q:VK)(e:XK):Prop
 |mk d a b m(i:c=[.ref d,.int m])(j:H d=U (.lst [.int a,.int b]))(l:0<m)(h:m.natAbs.log2<9000)(n:∀r f g,0<=r->r<m->Q (.int r) (upd H d (.lst [.int f,.int g])))
def Nh(F:cC c j7 j7 G8 f n)(o:Fn P w c G g my 1 [lO,mq] spDrawn):bH P w c G g cF 2 f n [jv,j6] spRollB:=by
 obtain⟨B,C,o,v,u,q⟩:=o.ex;refine F.m scRoll λD H Q E h=>?_;obtain⟨d,a,b,m,rfl,e,l,y,k⟩:=h;refine(Y,λx A p s t=>?_)
 refine(_,AB (AU (AL Mc (Am (Al c Y) (Z 0) AF (λ_ _=>rfl)) (AX OO AF AF) (AN _))
   (AB (DI (i:=2) scRoll.nd rfl (Or.inl rfl) (AX Fp (Am (Al c rfl) (Z 0) AF (λ_ _=>rfl)) (Z 1)))
   (AB (Bg (AX Ms (Am (Al c rfl) (Z 0) AF (λ_ _=>rfl)) (Z 1)) (LP (Z 0) AF Gk))
   (AC (AJ (Z 2))))) AM)
  (AB (Bg (AX CD (Am (Al c rfl) (Z 0) AF (λ_ _=>rfl)) AF) (LP (Z 0) AF Gk))
  (AC (AJ (AX Fp (AX Pa (At o t rfl v u q .nil Af (AA (Am (Al c rfl) (Z 0) AF (λ_ _=>rfl)) (AA (Am (Al c rfl) (Z 0) AF (λ_ _=>rfl)) AG))) AF) (Z 1))))),?_)
 refine(_,Y,d,_,0,.int a,Y,Y,bZ.of e,BQ Y,_,_,Y,Y,(qc,qc,qc),_,_,Y,Y,_,Y,BL (λ_=>?_) (λ_=>?_))
 .refine(_,Y,d,_,0,.int a,Y,Y,bZ.of e,BQ Y,_,Y,_,_,Y,Y,l,(_,Y,d,_,0,.int a,Y,Y,bZ.of e,BQ Y,_,Y,_,_,Y,Y,(l,PyProof.noPylong_of_log2 y),_,Y,d,_,0,0,Y,Y,e,Y,?_));exact(_,Y,k _ (a/m) b (Int.emod_nonneg _ (by lia)) (Int.emod_lt_of_pos _ l))
 .refine(_,Y,d,_,1,.int b,Y,Y,bZ.of e,BQ Y,_,_,Y,Y,_,Y,d,_,1,1,Y,Y,e,Y,?_);have j:(upd H d (.lst ([V.int a,V.int b].set 1 (V.int (b+1))))) d=U (.lst [.int a,.int (b+1)]):=bA;refine(_,Y,d,_,0,.int a,Y,Y,bZ.of j,BQ Y,_,Y,d,_,1,.int (b+1),Y,Y,bZ.of j,BQ Y,_,_,Y,λr z=>(_,_,Y,Y,(qc,qc),_,Y,_,_,Y,Y,l,?_));exact k _ a (b+1) (Int.emod_nonneg _ (by lia)) (Int.emod_lt_of_pos _ l)
def Tn(F:bH P w u n g c k f m r t)(h:∀b H Q E,e b H Q E->t b H Q E):bH P w u n g c k f m r e:=
 (λb H Q E q=>F.len _ _ _ _ (h _ _ _ _ q),λA a s H d i b Q E j p o l q=>F.run A a s H d i b Q E j p o l (h _ _ _ _ q))
def Vl(F:cC c j7 j7 G8 f n)(l:Fn P w c r g my 1 [lO,mq] spDrawn):bH P w c r g cF 2 f n [jv,j6] eH:=Tn (Nh F l) λp H Q E h=>by
 obtain⟨d,a,b,m,e,i,j,o,q⟩:=h;refine(d,a,b,m,e,i,j,?_,q)
 have:m.natAbs<2^30:=by
  lia
 have:=(Nat.log2_lt (by lia)).mpr this
 lia
inductive spRuleOf(c:jq)(H:Hp)(Q:VK)(e:XK):Prop
 |mk d a b(g:c=[.ref d])(h:H d=U (.lst [.int a,.int b]))(i:∀r f,r∈([mx,oo,lp,mm]:jm)->cz d H f->Q (.str r) f)
def To:AH [jv] [jv] (defScope Gd):=cY
def Ri(F:cC g m6 m6 Gd f n)(q:Fn P w g X m j7 2 [jv,j6] eH):bH P w g X m cF 3 f n [jv] spRuleOf:=by
 obtain⟨T,dR,q,C,G,N⟩:=q.ex;refine F.m To λan H Q E h=>?_;obtain⟨d,a,b,rfl,u,k⟩:=h;refine(Y,λal A l s D=>?_);refine(_,AC (AJ (Am (Al g Y) (As (AA AI (AA AI (AA AI (AA AI AG))))) (At q D Y C G N .nil Af (AA (Z 0) (AA AF AG))) (λ_ _=>rfl))),((by trivial),λp y=>?_));have i:=AK u y;refine(_,Y,d,a,b,4,Y,by rw[AE i];exact u,qc,qc,λr B I M S=>?_);obtain⟨v,R,j⟩:=IM (xs:=[V.str mx,V.str oo,V.str lp,V.str mm]) M qe
 have t:∃x,v=.str x/\x∈([mx,oo,lp,mm]:jm):=by
  have:=zP j;simp at this;rcases this with z|z|z|z
  .exact(_,z,by simp)
  .exact(_,z,by simp)
  .exact(_,z,by simp)
  .exact(_,z,by simp)
 obtain⟨x,rfl,ag⟩:=t;refine(p,_,r,_,Y,Y,bZ.of (by rw[AE (Ne.symm i),bA]),R,k x _ ag (λc o e ab=>?_,(B,I,bA)))
 rwa[AE ab,AE (AK e y)]
def QB(n k:Nat):decide (V.int (Builtin.bitAnd ((n)/2^((0:Int)+(k)).toNat) 1)=V.int 1)=n.testBit k:=by
 have d:(0+(k:Int)).toNat=k:=by simp_all
 have a:(n:Int)/2^k=((n/2^k:Nat)):=by push_cast;rfl
 have e:Builtin.bitAnd ((n/2^k:Nat)) 1=((n/2^k%2:Nat)):=by
  have:=C7 (n/2^k) 1
  rwa[Nat.and_one_is_mod]at this
 rw[d,a,Nat.testBit_eq_decide_div_mod_eq];refine decide_eq_decide.mpr (λh=>?_,λh=>?_)
 .grind
 simp_all
inductive spRounds(c:FG)(d:jq)(H:Hp)(Q:VK)(e:XK):Prop
 |mk a(h:List Int)(j:d=[.ref a,.int 3])(m:bZ c H a (h.map V.int))(n:h.length<=63)(i:∀l(f:List jr)g,bD H g->g l=U (.lst (f.map V.ref))->f.Nodup->l∉ f->f.length<=4->(∀b∈f,H b=J/\∃x y,g b=U (.lst [.int x,.int y]))->Q (.ref l) g)
def Tp:AH [jP,j5] [jP,j5] (defScope Gb):=cY
def Rj(F:cC c nz nz Gb f o)(B:Bl g)(I:Fn P al c g m oq 1 [jP,mq] (spCell c)):bH P al c g m cF 2 f o [jP,j5] (spRounds c):=by
 obtain⟨fC,dC,I,mC,kC,N⟩:=I.ex;refine F.m Tp λvs H az ar h=>?_;obtain⟨a,r,rfl,S,w,k⟩:=h;refine(Y,λbf an as aM E=>?_)
 refine(_,AC (AJ (Bt [jP] [U 0] (by rfl) (by trivial) (by rfl) rfl
  (DB rfl B.range (AA (AR (Qj rfl) rfl B.max XU (AA AF (AA (AR (Qk rfl) rfl B.min XT (AA (Z 1) (AA (AR (A1 c rfl) rfl B.len PySem.boot_len (AA (Z 0) AG)) AG))) AG))) AG))
  (λ_ _ _ _ _ _=>BR)
  (λ_ _ _ _ _ _=>As (AA (At I E rfl mC kC N .nil Af (AA (Z 1) (AA (Z 0) AG))) (AA AF AG))))),?_)
 refine(_,Y,_,Y,a,_,Y,.inl S,_,_,Y,_,_,Y,_,Y,?_,?_,?_)
 .lia
 .lia
 .generalize A:(if (if (((r.map V.int).length):Int)<3 then (((r.map V.int).length):Int)else 3)>1 then (if (((r.map V.int).length):Int)<3 then (((r.map V.int).length):Int)else 3)else 1).toNat=n
  have n5:n<=4:=by
   rw[←A];split<;>split<;>lia
  apply Fu (lo:=0) (n:=n) (λi G D=>∃d,G=d.map V.ref/\d.length=i/\i<=4/\bD H D/\d.Nodup/\∀b∈d,H b=J/\∃x y,D b=U (.lst [.int x,.int y])) ([],rfl,rfl,qc,bD.refl _,nodup_nil,λb q=>nomatch q)
  .grind
  .rintro i G D hi ⟨d,rfl,e,X,t,p,q⟩;refine(_,Y,_,Y,a,r,_,Y,t.seq S,w,by simp_all,λag H3 s3=>(fb,λab u=>(d++[ab],by simp_all,by simp_all,by lia,AD (t.trans s3) u,?_,λb j=>?_)))
   .refine List.nodup_append.mpr (p,zj.mpr (not_mem_nil,nodup_nil),?_);intro x Q y T;rw[zF]at T;subst T;obtain⟨_,v,R,C⟩:=q x Q;exact AK (s3 _ _ C) u
   .rcases mem_append.mp j with z|z
    .obtain⟨M,v,R,C⟩:=q b z;exact(M,v,R,AD s3 u _ _ C)
    .rw[zF]at z;subst z;refine(?_,ag,0,bA);cases e:H b with
     |none=>rfl
     |some aC=>
      have:=s3 _ _ (t _ _ e);rw[this]at u;cases u
  .rintro G D ⟨d,rfl,e,X,t,p,q⟩ l s;refine k l d _ (AD t s) bA p ?_ (by lia) λb j=>?_
   .grind
   .obtain⟨M,x,y,C⟩:=q b j;exact(M,x,y,AD (bD.refl _) s _ _ C)
inductive spBitsOf(a:jq)(H:Hp)(Q:VK)(b:XK):Prop
 |mk(n:Nat)(e:a=[.int (n)])(f:∀l d c,bD H c->c l=U (.lst d)->d.length=(F7 n).length->Q (.ref l) c)
def Tq:AH [jM] [jM] (defScope Gc):=cY
def Rk(F:cC g m7 m7 Gc f b)(B:Bl c):bH P w g c m cF 1 f b [jM] spBitsOf:=by
 refine F.m Tq λv H Q E h=>?_;obtain⟨n,rfl,k⟩:=h;refine(Y,λq A j s r=>?_)
 refine(_,AC (AJ (Bt [jM] [U 0] (by rfl) (by trivial) (by rfl) Y (DB Y B.range (AA AF AG))
  (λ_ _ _ _ _ _=>Gr (AL Ao (AX Ca (AX Wn (Z 1) (Z 0)) AF) AF (AN _)))
  (λ_ _ _ _ _ _=>AX LQ AF (Z 0)))),?_)
 refine(42,Y,qc,qc,?_);apply Fu (lo:=0) (n:=42) (λi a d=>a.length=((List.range i).filter λk=>n.testBit k).length/\i<=42/\d=H) (rfl,qc,rfl)
 .grind
 .rintro i a d t ⟨e,_,rfl⟩;refine(_,Y,_,Y,_,_,Y,Y,(by lia),_,_,Y,Y,(Y,_,Y,?_))
  have u:((List.range (i+1)).filter λk=>n.testBit k).length=((List.range i).filter λk=>n.testBit k).length+(if n.testBit i then 1 else 0):=by
   rw[List.range_succ,List.filter_append,zG,filter_cons];split<;>rfl
  refine BL (λh=>?_) (λh=>?_)
  .have p:n.testBit i=L:=by rwa[←QB]
   refine(_,Y,_,_,Y,Y,(by lia,by lia,by simp_all),?_,by lia,Y)
   simp_all
  .have p:n.testBit i=O:=by rw[←QB];exact Bool.eq_false_iff.mpr h
   refine(?_,by lia,Y)
   simp_all
 .rintro a d ⟨e,_,rfl⟩ l o;exact k l a _ (AD (bD.refl _) o) bA e
end Mk
namespace L2
open PySem
def Vm(t u:TS):TS:=λD a H=>∃G:St->Hp->Prop,(∀R,(∀a H,G a H->R a H)->t {D with nx:=R} a H)/\∀a H,G a H->u D a H
def An{st}(h:PS X st t)(i:fk X c u):fk X (st::c) (Vm t u):=λd s e H D I z=>by obtain⟨_,a,b⟩:=z;exact AB h i d s e H D I (a (u D) b)
def A5(i)(d:X.N.Nodup)(j:PE X e g)(l:X.N[i]?=U x:=by rfl)(a:Loc X.env.scope x:=by first|exact .inl rfl|exact .inr rfl)(b:swapsWith e (U (.Name x f)) c.line X.env=pure O:=by rfl)(h:X.fn x=L\/X.env.scope.names.lookup x=U .local:=by first|exact .inl rfl|exact .inr rfl|assumption):PS X (.Assign [.Name x f] e c) (Um g (Bz i)):=DI d l a j b h
def BH(i)(a:X.N.Nodup)(h:X.N[i]?=U x:=by rfl)(e:Loc X.env.scope x:=by first|exact .inl rfl|exact .inr rfl)(d:X.fn x=L\/X.env.scope.names.lookup x=U .local:=by first|exact .inl rfl|exact .inr rfl|assumption):PG X (.Name x b) (Bz i):=BI a h e d
def Aw(d:PE X o to)(i:PA X [e] t)(a:attributeBase o "append" X.env (eval o X.env)=eval o X.env:=by rfl)(b:starEach [e] X.env=(O,(eval e X.env))::starEach [] X.env:=by rfl)(h:(c.endLine==f.line)=L:=by rfl):PE X (.Call (.Attribute o "append" c) [e] [] f) (tBM X.K jH Ir to t):=SQ plainAttrs_list PySem.F.slot_list_append PySem.F.type_list_append Ql d i a (by rw[b];rfl) h b rfl
def ez(h:∀N,u D=N->t {D with nx:=N} a H):Ui t u D a H:=h _ rfl
def je(h:∀N,u D=N->Vm t (λ_=>N) D a H):Vm t u D a H:=h _ rfl
def egM{g:TG}{t:TS}{D}(h:∀e,D.nx=e.nx->g x b H λa d=>t e a d):g x b H λa d=>t D a d:=h _ rfl
def egN{t:TS}{D}{b:St}(h:∀d,D.nx=d.nx->t d (b.set i (U x)) H):Bz i x b H λa e=>t D a e:=h _ rfl
def fdN(h:e b H λx d=>∃a,x=.ref a/\(∃i,bZ c d a i)/\Uo (λ_ _ R=>R (iL c a) d) g f D b d):Uo (PZ c e) g f D b H:=h
def d3{M N:St->Hp->Prop}(e:M=N)(h:M a H):N a H:=e ▸ h
end L2
namespace Mk
open PySem L2 MK
def cJ(H a:Hp):Prop:=∀b c,H b=U (.tup c)->a b=U (.tup c)
def cJ.of(s:bD H c):cJ H c:=λb a e=>s _ _ e
def cJ.upd(h:H d=U (.lst c)):cJ H (upd H d (.lst ys)):=λb a e=>by
 rwa[AE (λz=>by simp_all)]
def cJ.trans(x:cJ H c)(y:cJ c d):cJ H d:=λb a e=>y _ _ (x _ _ e)
def bV.cS(s:cJ H a)(h:bV H b c):bV a b c:=Paired.mapP h λ_ _ e=>s _ _ e
def gf.cS(s:cJ H c)(h:gf H v b):gf c v b:=by
 cases b with
 |bQ=>exact h
 |num n=>exact h
 |i6 d=>obtain⟨a,e,h⟩:=h;exact(a,e,s _ _ h)
def eP.cS{r}(s:cJ H c)(h:eP H b r):eP c b r:=by
 obtain⟨a,e,t⟩:=h;exact(a,s _ _ e,t.cS s)
def Cj(s:cJ H a)(h:Paired (eP H) b c):Paired (eP a) b c:=Paired.mapP h λ_ _ e=>e.cS s
noncomputable def Ip(a:Aa):List PyData:=a.map λp=>.tuple [.str p.1,.int (p.2:Int)]
def Ts(h:H b=U (.tup [.str x,.int n])):Ba a H (.tuple [.str x,.int n]) (.ref b):=by
 refine(b,_,Y,cD.of h,?_);refine(_,_,Y,by rw[Ba],(_,_,Y,by rw[Ba],?_));rw[Bd]
theorem HF:∀{a}{bs},bV H bs (Dw a)->Bd c H (Ip a) (bs.map V.ref)
 | [],bs,h=>by
  have:=List.eq_nil_of_length_eq_zero (by rw[h.length];rfl);subst this;show Bd c H [] [];rw[Bd]
 |p::r,[],h=>by have:=h.length;simp[Dw]at this
 |p::r,b::bs,h=>by
  have d:H b=U (.tup [.str p.1,.int p.2])/\bV H bs (Dw r):=by
   cases h with
   |cons e i=>trivial
  show Bd c H (.tuple [.str p.1,.int p.2]::Ip r) (V.ref b::bs.map V.ref);exact(_,_,Y,Ts d.1,HF d.2)
theorem HG:∀a:jm,Bd b H (a.map PyData.str) (a.map V.str)
 | []=>by show Bd b H [] [];rw[Bd]
 |x::r=>by
  show Bd b H (.str x::r.map PyData.str) (V.str x::r.map V.str);exact(_,_,Y,by rw[Ba],HG r)
def C0(h:H l=U (.lst a))(d:Bd b H ds a):Ba b H (.list ds) (.ref l):=by
 exact(l,a,Y,bZ.of h,d)
def Vn:Bd a H [] []:=by rw[Bd]
def QC(b):PyData.eqv (.list b) (.list [])=b.isEmpty:=by
 cases b with
 |nil=>rfl
 |cons a r=>rfl
def HH(h:x.cps.all (· < 128)=L):PyData.strOk x=L:=by
 unfold PyData.strOk
 grind
def O6(h:∀d∈b,d.canLay0=L):PyData.canLayAll0 b=L:=by
 induction b with
 |nil=>rfl
 |cons a r e=>rw[PyData.canLayAll0,h a zH,e λd i=>h d (by simp_all)];rfl
def XZ(h:∀d∈b,d.depth<=k):PyData.depthAll b<=k:=by
 induction b with
 |nil=>rw[PyData.depthAll];simp
 |cons a r e=>rw[PyData.depthAll];grind
def FJ(h:∀d∈b,d.canLay0=L/\d.depth<=60):SeqAt.shaped (.list b)=L:=by
 unfold SeqAt.shaped;rw[Bool.and_eq_true,decide_eq_true_eq];refine(by rw[PyData.canLay0];exact O6 λd a=>(h d a).1,?_);rw[PyData.depth];have:=XZ λd a=>(h d a).2
 lia
def Tt(h:x.cps.all (· < 128)=L):(PyData.tuple [.str x,.int n]).canLay0=L/\(PyData.tuple [.str x,.int n]).depth<=60:=by
 refine(?_,?_)
 .refine O6 λd a=>?_;simp at a;rcases a with rfl|rfl
  .exact HH h
  rfl
 .simp only[PyData.depth,PyData.depthAll]
  decide
def FK(h:∀p∈a,p.1.cps.all (· < 128)=L):SeqAt.shaped (.list (Ip a))=L:=FJ λd i=>by
 obtain⟨p,e,rfl⟩:=zi.mp i;exact Tt (h p e)
def FL{b:jm}(h:∀x∈b,x.cps.all (· < 128)=L):SeqAt.shaped (.list (b.map PyData.str))=L:=FJ λd a=>by
 obtain⟨x,e,rfl⟩:=zi.mp a;exact(by rw[PyData.canLay0];exact HH (h x e),by simp[PyData.depth])
def O7:SeqAt.shaped (.list [])=L:=by rfl
def uni(a:Aa)(b:jm):Nat:=Ah (a.map λp=>if fG (.str p.1) (b.map V.str)then p.2 else 0)
def QD(x)(a:jm):fG (.str x) (a.map V.str)=a.any (· == x):=by
 unfold fG;rw[any_map];rfl
def DU(a:(b.map (·.1)).Nodup)(h:p∈b):look b p.1=p.2:=by
 induction b with
 |nil=>cases h
 |cons q r d=>
  rw[map_cons,zj]at a;unfold look;by_cases e:q.1=p.1
  .simp_all
  .rw[List.find?_cons_of_neg (by simp_all)];rcases mem_cons.mp h with z|z
   .simp_all
   .exact d a.2 z
def Xa(l:(b.map (·.1)).Nodup)(c:∀x∈i,x∈b.map (·.1)):uni b i=Ah (i.map (look b)):=by
 refine Nat.eq_of_testBit_eq λk=>?_;unfold uni;rw[DE,DE,any_map,any_map,Bool.eq_iff_iff,any_eq_true,any_eq_true];constructor
 .rintro⟨p,d,a⟩;simp at a;by_cases j:fG (.str p.1) (i.map V.str)=L
  .rw[zg j]at a;rw[QD,any_eq_true]at j;obtain⟨x,h,e⟩:=j;have o:x=p.1:=by simpa using e
   subst o;exact(p.1,h,by simp;rw[DU l d];exact a)
  simp_all
 .rintro⟨x,h,a⟩;obtain⟨p,d,rfl⟩:=zi.mp (c x h);refine(p,d,?_);simp at a ⊢;rw[DU l d]at a;rw[zg (by rw[QD];simp_all)];exact a
def Ni(h:Gg b)(a:P7 (Aq b) r):Gg (b++[r]):=by
 intro i q e;rcases Nat.lt_trichotomy i b.length with z|z|z
 .rw[List.getElem?_append_left z]at e;rw[List.take_append_of_le_length (Nat.le_of_lt z)];exact h i q e
 .subst z;have:r=q:=by simpa using e
  subst this
  rwa[List.take_append_of_le_length (zq _),zu]
 .rw[List.getElem?_eq_none (by grind)]at e;cases e
def Nj(h:Gg b)(l:b.length<=10):C5 (Aq b):=by
 have d:∀n,n<=b.length->C5 (Aq (b.take n)):=by
  intro n;induction n with
  |zero=>intro _;rw[List.take_zero];exact⟨qc,(λp a=>nomatch a),nodup_nil,(λp a=>nomatch a)⟩
  |succ n j=>
   intro r;have D:=j (by lia);have e:b[n]?=U b[n]:=z7 (by assumption);have R:=h n _ e;rw[zx,e,Option.toList_some,Fa];refine(?_,λp a=>?_,?_,λp a=>?_)
   .rw[zG,List.length_singleton];have:=R.few;assumption
   .rcases mem_append.mp a with z|z
    .exact D.lt p z
    .rw[zF]at z;subst z;exact R.lt
   .rw[zm];refine List.nodup_append.mpr (D.nd,zj.mpr (not_mem_nil,nodup_nil),?_);intro x i y o;have q:y=(b[n]).1:=by simpa using o
    subst q;exact λz=>R.new (z ▸ i)
   .rcases mem_append.mp a with z|z
    .exact D.nm p z
    .rw[zF]at z;subst z;exact R.nm
 have:=d b.length (zq _)
 rwa[zu]at this
def dm(G:Fn X.prog X.w X.K X.mg X.base x k n g)(h:bJ j X.A)(q:PA X (e::c) t)(i:k<=j:=by decide)(l:Gl X x:=by rfl)(d:fQ x:=by decide)(o:gj X e c:=by rfl)(a:(backTo f (starEach c X.env)).any (·.1)=O:=by rfl):PE X (.Call (.Name x p) (e::c) [] f) (Me g [] E0 t):=
 let ⟨_,_,F,m,kp,b⟩:=G.ex
 At F (h.mono i) l m kp b .nil Af q d o a
def Xb(p q)(e:∀a:Bool->Hp->Prop,a p H->A b H a)(d:∀a,a q H->B b H a)(h:Q (p||q) H):tOr A B b H Q:=by
 apply e _;cases p with
 |true=>exact AZ h
 |false=>exact AS (d _ h)
def Vo(p q)(i:∀d:Bool->Hp->Prop,d p H->A b H d)(e:∀d,(∀a,bD H a->d q a)->B b H d)(h:∀a,bD H a->Q (p&&q) a):YA A B b H Q:=by
 apply i _;cases p with
 |true=>exact AZ (e _ h)
 |false=>exact AS (h _ (bD.refl _))
def LB(s:bD H a)(h:a p=J):H p=J:=by
 cases e:H p with
 |none=>rfl
 |some o=>rw[s _ _ e]at h;cases h
def Dj(h:PA X a t):PA X (.Constant (.str x) j p::a) (AY (tC (.str x)) t):=AA AI h
def Rl:PA X [.Constant (.str b) q j,.Constant (.str c) i w,.Constant (.str f) p A,.Constant (.str g) z B,.Constant (.str a) s C,.Constant (.str h) t D,.Constant (.str d) v E,.Constant (.str e) u x,.Constant (.str m) o y,.Constant (.str n) r l] (AY (tC (.str b)) (AY (tC (.str c)) (AY (tC (.str f)) (AY (tC (.str g)) (AY (tC (.str a)) (AY (tC (.str h)) (AY (tC (.str d)) (AY (tC (.str e)) (AY (tC (.str m)) (AY (tC (.str n)) (BS))))))))))):=Dj (Dj (Dj (Dj (Dj (Dj (Dj (Dj (Dj (Dj (AG))))))))))
def DF{H}{a}{bs}{i:Nat}{v}(h:bV H bs (Dw a))(e:(bs.map V.ref)[i]?=U v):∃b p,v=.ref b/\bs[i]?=U b/\a[i]?=U p/\H b=U (.tup [.str p.1,.int (p.2:Int)]):=by
 obtain⟨b,l,rfl⟩:∃b,bs[i]?=U b/\v=V.ref b:=by
  grind
 obtain⟨o,d,j⟩:=Ng h l;unfold Dw at d
 grind
noncomputable def dh:jm:=["A","B","CD","EFG","H","IJKLMN","O","P","Q","R"]
def Tu:∀x∈dh,Yj x:=by
 have:∀x∈dh,(CM x&&x.cps.all (· < 128)&&decide (x.length<=1000))=L:=by decide +kernel
 intro x a;have:=this x a;simp only[Bool.and_eq_true,decide_eq_true_eq]at this;exact(this.1.1,this.1.2,this.2)
def Rm:∀i:Fin 10,(dh[i.1]?.map λx=>decide (x∈dh.take i.1))=U O:=by trivial
structure LW(d w f u:jr)(H0 H:Hp)(rows:List (Str×Th)):Prop where
 old:∀b o,H0 b=U o->b≠d->H b=U o
 dv:∃a b,H d=U (.lst [.int a,.int b])
 words:H w=U (.lst (dh.map V.str))
 found:∃as,H f=U (.lst (as.map V.ref))/\Paired (eP H) as rows
 bG:∃bs,H u=U (.lst (bs.map V.ref))/\bV H bs (Dw (Aq rows))
structure Ap(d w f u:jr)(H0:Hp):Prop where
 wd:w≠d
 fd:f≠d
 ud:u≠d
 wf:w≠f
 wu:w≠u
 fu:f≠u
 nf:H0 f=J
 nu:H0 u=J
def LW.same{i}(h:LW d w f u m H i)(s:bD H g):LW d w f u m g i:=by
 obtain⟨a,b,e⟩:=h.dv;obtain⟨t,p,r⟩:=h.found;obtain⟨bs,j,l⟩:=h.bG;exact(λc o q v=>s _ _ (h.old c o q v),(a,b,s _ _ e),s _ _ h.words,(t,s _ _ p,Cj (cJ.of s) r),(bs,s _ _ j,bV.cS (cJ.of s) l))
def LW.roll(A:Ap d w f u g)(h:LW d w f u g H m)(i j):LW d w f u g (upd H d (.lst [.int i,.int j])) m:=by
 obtain⟨a,b,e⟩:=h.dv;obtain⟨y,r,x⟩:=h.found;obtain⟨bs,q,p⟩:=h.bG;have t:cJ H (upd H d (.lst [.int i,.int j])):=cJ.upd e;exact(λc o v l=>by rw[AE l];exact h.old c o v l,(i,j,bA),by rw[AE A.wd];exact h.words,(y,by rw[AE A.fd];exact r,Cj t x),(bs,by rw[AE A.ud];exact q,bV.cS t p))
def Dx(h:bV H bs (Dw (Aq a))):bs.length=a.length:=by
 rw[h.length];unfold Dw;rw[AO,CN]
def Tv(d):(Aq d).map (·.1)=d.map (·.1):=by
 have:∀(l:List (Str×Th))a,((l.foldl (λe r=>e++[(r.1,(DY e r.2))]) a).map (·.1))=a.map (·.1)++l.map (·.1):=by
  intro l;induction l with
  |nil=>simp
  |cons x r h=>simp_all
 unfold Aq;rw[this d []];rfl
noncomputable def aD:St->Nat
 | [_,_,_,_,_,_,_,_,_,U (.int i),_,_]=>(2^22-i).toNat
 |_=>0
inductive spLines(c:jq)(H:Hp)(Q:VK)(e:XK):Prop
 |mk d a b M(l:c=[.ref d,.int M])(m:1<=M)(n:M<=10)(j:H d=U (.lst [.int a,.int b]))(o:∀q f u i bs h g,cz d H g->g q=U (.tup [.ref f,.ref u])->H f=J->H u=J->g f=U (.lst (i.map V.ref))->Paired (eP g) i h->g u=U (.lst (bs.map V.ref))->bV g bs (Dw (Aq h)) ->     0<h.length->(h.length:Int)<=M->Gg h->(∀x∈h.map (·.1),x∈dh)->Q (.ref q) g)
noncomputable abbrev Xc:jm:=[jv,j5,kZ,ma,jW,"_law_at","_law_high","_law_kind","_law_thing",jM,jG,"_law_more"]
@[irreducible] def O8:Expr:=match defBody Ci with|.Assign _ (.Tuple (e::_) _ _) _::_=>e|_=>.Constant .none 0 (0,0,0,0)
abbrev Vp:Stmt:=match defBody Ci with|.Assign t (.Tuple (_::r) k p) q::_=>.Assign t (.Tuple (O8::r) k p) q|_=>.Pass (0,0,0,0)
abbrev Xd:List Stmt:=(defBody Ci).drop 1
def Xe:defBody Ci=Vp::Xd:=by kernel_rfl
def Ro:PE X O8 (LU (AY (tC (.str "A")) (AY (tC (.str "B")) (AY (tC (.str "CD")) (AY (tC (.str "EFG")) (AY (tC (.str "H")) (AY (tC (.str "IJKLMN")) (AY (tC (.str "O")) (AY (tC (.str "P")) (AY (tC (.str "Q")) (AY (tC (.str "R")) (BS)))))))))))):=by
 unfold O8;exact As Rl
def cX:AH Xc [jv,j5] (defScope Ci):=cY
def i1(d:jr)(M:Int)(w f u:jr)(a b c e g h i:Option V):St:=[U (.ref d),U (.int M),U (.ref w),U (.ref f),U (.ref u),a,b,c,e,g,h,i]
def Tw(F:cC a nT nT Ci f0 fd)(al:Bl mg)(b:Fn bG bX a mg bI j7 2 [jv,j6] eH):bH bG bX a mg bI cF 3 f0 fd [jv,j5] spLines:=by
 refine F.m cX λvs H b7 b5 h=>?_;obtain⟨d,ar,aM,M,rfl,M1,b6,hd,k⟩:=h;refine(Y,λbf b0 ce ch P=>?_);have bP:=P.units;have nd:=cX.nd;rw[Xe]
 refine(_,AB (Bg (hs:=by rfl) (hw:=by kernel_rfl) (Ab (AA (hs:=by kernel_rfl) Ro (AA (As AG) (AA (As AG) AG))))
   (BN rfl (AT (BH 2 cX.nd) (AT (BH 3 cX.nd) (AT (BH 4 cX.nd) A3)))))
  (AB (CY PassesOwn.never rfl (DB rfl al.range (AA (AX CD AF (dm b P (AA (Z 0) (AA (Z 1) AG)))) AG)) (BH 5 cX.nd)
   (An (A5 6 cX.nd (Pq rfl rfl al.max (Gs [] [] (by rfl) (by trivial) (by rfl) (by rfl) rfl (BW (Z 4)) (λ_ _ _ _ _ _=>BR) (λ_ _ _ _ _ _=>Z 1)) AF))
   (AB (A5 7 cX.nd (dm b P (AA (Z 0) (AA AF AG))))
   (AB (Bg (hs:=by rfl) (hw:=by rfl) (Ab (AA B9 (AA AF AG))) (BN rfl (AT (BH 8 cX.nd) (AT (BH 9 cX.nd) A3))))
   (An (Gi PassesOwn.never (AL Eo (Z 9) (Z 6) (AN _)) (AC (A5 9 cX.nd (AX JC (Z 9) AF))))
   (An (AU (PW.pt (DH (AL Ao (Z 7) AF (AN _)) (By (AL Mc (Z 9) (AX OO AF AF) (AN _)))))
     (AB (A5 8 cX.nd (Am (Al a rfl) (As (AA (AX LQ AF (dm b P (AA (Z 0) (AA AF AG)))) (AA (dm b P (AA (Z 0) (AA AF AG)))
      (AA (AX LQ AF (dm b P (AA (Z 0) (AA AF AG)))) (AA AF AG))))) (dm b P (AA (Z 0) (AA AF AG))) (λ_ _=>rfl)))
     (AC (A5 9 cX.nd (Z 8)))) AM)
   (An (AU (PW.pt (CV (AL IW (Z 7) AF (AN _)) (Bj (AL (Ew a rfl bP) (Z 4) (As AG) (AN _)))))
     (AB (A5 8 cX.nd (BF Fg rfl al.tuple Cy (AA (Bt [jW,jv] [U 4,U 0] (by rfl) (by trivial) (by rfl) rfl (DB rfl al.range (AA (AX CD AF (dm b P (AA (Z 0) (AA AF AG)))) AG)) (λ_ _ _ _ _ _=>BR)
      (λ_ _ _ _ _ _=>Am (Ad a rfl) (Am (Al a rfl) (Z 1) (dm b P (AA (Z 2) (AA (AR (A1 a rfl) rfl al.len PySem.boot_len (AA (Z 1) AG)) AG))) (λ_ _=>rfl)) AF (λ_ _=>rfl))) AG)))
     (AB (A5 9 cX.nd AF)
     (AC (CY PassesOwn.never rfl (BW (Z 4)) (BN rfl (AT (BH 10 cX.nd) (AT (BH 11 cX.nd) A3)))
      (AC (A5 9 cX.nd (AX JD (Z 9) (BX (AL FV (Z 10) (Z 8) rfl) (Z 11) AF)))))))) AM)
   (AB (AV (Aw (Z 3) (AA (Ab (AA (Am (Al a rfl) (Z 2) (Z 5) (λ_ _=>rfl)) (AA (Z 8) AG))) AG)))
   (AC (AV (Aw (Z 4) (AA (Ab (AA (Am (Al a rfl) (Z 2) (Z 5) (λ_ _=>rfl)) (AA (Z 9) AG))) AG))))))))))))
  (AC (AJ (Ab (AA (Z 3) (AA (Z 4) AG)))))),?_)
 refine ez λN g=>?_;refine((by trivial),λI bt=>(Nat.zero_le _,λG ba=>(Nat.zero_le _,λD aR=>(iu,λq0 bN=>?_))));refine(q0,_,Y,cD.of bA,Y,_,_,Y,_,_,Y,_,_,Y,Y,?_);have dw:I≠d:=Ne.symm (AK hd bt);have s1:bD H (upd H I (.lst (dh.map V.str))):=AD (bD.refl _) bt;have s2:bD (upd H I (.lst (dh.map V.str))) (upd (upd H I (.lst (dh.map V.str))) G (.lst [])):=AD (bD.refl _) ba;have s3:bD (upd (upd H I (.lst (dh.map V.str))) G (.lst [])) (upd (upd (upd H I (.lst (dh.map V.str))) G (.lst [])) D (.lst [])):=AD (bD.refl _) aR;have s4:=AD (bD.refl _) bN (o:=HO.tup [.ref I,.ref G,.ref D]);have be:H G=J:=LB s1 ba;have bg:H D=J:=LB (s1.trans s2) aR;have AP:Ap d I G D H:=(dw,Ne.symm (AK hd be),Ne.symm (AK hd bg),AK bA ba,AK (s2 _ _ bA) aR,AK bA aR,be,bg);have L0:LW d I G D H _ []:=(λaM o e _=>s4 _ _ (s3 _ _ (s2 _ _ (s1 _ _ e))),(ar,aM,s4 _ _ (s3 _ _ (s2 _ _ (s1 _ _ hd)))),s4 _ _ (s3 _ _ (s2 _ _ bA)),([],s4 _ _ (s3 _ _ bA),.nil),([],s4 _ _ bA,.nil));obtain⟨a1,b1,iJ⟩:=L0.dv;refine(d3 g (ez λN g=>?_):N _ _);refine(_,Y,_,Y,d,a1,b1,M,Y,iJ,by lia,by lia,λbi a' b' h0 h1=>?_);refine(_,_,Y,Y,_,Y,by lia,by lia,?_)
 refine HW (lo:=0) (n:=(1+bi).toNat) (λi c H2=>∃(v5 v6 v7 v8 v9 B E:Option V)(u:List (Str×Th)),c=i1 d M I G D v5 v6 v7 v8 v9 B E/\u.length=i/\Gg u/\u.map (·.1)=dh.take i/\LW d I G D H H2 u)
  (J,J,J,J,J,J,J,[],rfl,rfl,(λi bi e=>by simp at e),rfl,L0.roll AP a' b') ?_ ?_
 .intro i c H2 hi h;refine egM λDf eD=>?_;obtain⟨v5,v6,v7,v8,v9,B,E,u,rfl,ck,RO,cn,T⟩:=h;have bq:i<10:=by lia
  have DO:C5 (Aq u):=Nj RO (by lia);generalize an:FF ((Aq u).map (·.2))=C
  have bL:C<2^20:=by
   rw[←an];exact NU qc λn hn=>by obtain⟨p,l,rfl⟩:=zi.mp hn;exact DO.lt p l
  refine je λN g=>?_;refine(λc Q=>c=i1 d M I G D (U (.int (0+(i:Int)))) (U (.int (C:Int))) v7 v8 v9 B E/\LW d I G D H Q u,λa0 y=>?_,?_)
  .obtain⟨bs,hu,X⟩:=T.bG;have iz:=Dx X;refine(_,Y,D,Y,(_,bZ.of hu),B0 (ω:=a) (a:=D) (xs:=bs.map V.ref) (λj w Q=>w=A0 (((Aq u).take j).map (·.2))/\Q=H2) (by rfl,Y) (λj w Q _ zz=>by obtain⟨_,e⟩:=zz;exact e ▸ bZ.of hu) (λj w Q ⟨e,_⟩=>?_) ?_ ?_)
   .rw[e];unfold A0;rw[AO,AO,zt,CN];lia
   .rintro j ag w Q hj ⟨rfl,rfl⟩;obtain⟨bb,p,rfl,b9,bo,bj⟩:=DF X hj;refine(bb,_,Y,cD.of bj,Y,_,_,Y,_,_,Y,Y,?_);refine(_,Y,?_,Y);rw[zx,bo,Option.toList_some,zm];unfold A0
    simp_all
   .rintro w Q ⟨rfl,rfl⟩ p l;have s:=AD (bD.refl _) l (o:=HO.lst (A0 (((Aq u).take (bs.map V.ref).length).map (·.2))));have el:(Aq u).take (bs.map V.ref).length=Aq u:=by rw[AO,iz,←CN,zu]
    refine(p,((Aq u).map (·.2)).map (λn:Nat=>(n:Int)),0,Y,Y,bZ.of (by rw[bA,el,Iv]),λe=>?_,λe=>?_)
    .refine y _ _ (?_,T.same s);have:(Aq u).map (·.2)=[]:=List.map_eq_nil_iff.mp e;rw[this]at an;subst an;rfl
    .refine y _ _ (?_,T.same s);have cb:(Aq u).map (·.2)≠ []:=λz=>e (by rw[z];rfl);rw[NV cb,an];rfl
  .intro c Q h;refine(d3 g (ez λN g=>?_):N _ _);obtain⟨rfl,L3⟩:=h;obtain⟨a3,b3,ja⟩:=L3.dv;refine(_,Y,d,a3,b3,8,Y,ja,qc,qc,λkd a4 b4 cc cd=>?_);refine(d3 g (ez λN g=>?_):N _ _);have L4:=L3.roll AP a4 b4;refine((by trivial),λq hq=>(q,_,Y,cD.of bA,Y,_,_,Y,_,_,Y,Y,?_));refine(d3 g (je λN g=>?_):N _ _);have L5:=L4.same (AD (bD.refl _) hq (o:=HO.tup [V.bQ,V.int 1]));refine(λc H6=>c=i1 d M I G D (U (.int (0+(i:Int)))) (U (.int (C:Int))) (U (.int kd)) (U .bQ) (U (.int (CJ C:Nat))) B E/\LW d I G D H H6 u,λa0 y=>?_,?_)
   .apply SF (λc H6=>LW d I G D H H6 u/\∃j:Nat,j<=20/\c=i1 d M I G D (U (.int (0+(i:Int)))) (U (.int (C:Int))) (U (.int kd)) (U .bQ) (U (.int ((2^j:Nat):Int))) B E/\(j=0\/2^(j-1)<=C)) (λc _=>aD c) (L5,0,by lia,rfl,.inl rfl)
    .rintro c H6 ⟨L6,j,hj,rfl,bM⟩;refine(_,Y,_,Y,_,_,Y,Y,_,Y,?_);refine BL (λa8=>?_) (λa8=>?_)
     .have br:2^j<=C:=by have:=zT a8;exact_mod_cast this
      have ca:j<20:=(Nat.pow_lt_pow_iff_right qc).mp (Nat.lt_of_le_of_lt br bL);refine(_,Y,_,_,Y,Y,.inr (qc,qc),?_);have e2:(((2^j:Nat):Int)*2)=((2^(j+1):Nat):Int):=by rw[Nat.pow_succ];lia
      refine((L6,j+1,by lia,?_,.inr br),?_)
      .rfl
      .show(2^22-(((2^j:Nat):Int)*2)).toNat<(2^22-((2^j:Nat):Int)).toNat
       grind
     .have bK:C<2^j:=by
       have:¬ ((2^j:Nat):Int)<=(C:Int):=λz=>a8 (zK z)
       lia
      refine y _ _ (?_,L6);rw[NT bK bM]
    .rintro c H6 Q1 Q2 hQ ⟨ag,e1,v2,e2,i,j,ar,aM,ab,ec,q⟩;exact(ag,e1,v2,e2,i,j,ar,aM,ab,ec,hQ _ _ q)
   .intro c H6 h;refine(d3 g (je λN g=>?_):N _ _);obtain⟨rfl,L6⟩:=h;refine(λc H7=>∃(t:V)(r:Th)(S v:Option V),c=i1 d M I G D (U (.int (0+(i:Int)))) (U (.int (C:Int))) (U (.int kd)) (U t) (U (.int (DY (Aq u) r:Nat))) S v/\LW d I G D H H7 u/\gf H7 t r/\Vd (Aq u) r/\DY (Aq u) r<2^20,λa0 y=>?_,?_)
    .apply Xb (decide (V.int kd=V.int 5)) (decide ((2:Int)^(20:Int).toNat<=(CJ C:Nat))) (λQ' h=>(_,rfl,rfl,_,rfl,h)) (λQ' h=>(_,rfl,_,_,rfl,rfl,(qc,qc,qc),_,_,rfl,rfl,_,rfl,h));refine BL (λ_=>?_) (λhc=>?_)
     .obtain⟨x1,y1,e1⟩:=L6.dv;refine(_,Y,d,x1,y1,8,Y,e1,qc,qc,λr1 a1 b1 bE bR=>?_);have M1:=L6.roll AP a1 b1;refine(_,_,Y,Y,(bE,by lia,qc),?_);obtain⟨x2,y2,e2⟩:=M1.dv;refine(_,Y,d,x2,y2,64,Y,e2,qc,qc,λr2 a2 b2 bk bS=>?_);have M2:=M1.roll AP a2 b2;obtain⟨x3,y3,e3⟩:=M2.dv;refine(_,Y,d,x3,y3,20,Y,e3,qc,qc,λr3 a3 b3 bU cf=>?_);have M3:=M2.roll AP a3 b3;refine(_,_,Y,Y,(bU,by lia,qc),?_);refine(sl4,λp l=>?_);have M4:=M3.same (AD (bD.refl _) l (o:=HO.lst [V.int (1*2^r1.toNat),V.int r2,V.int (1*2^r3.toNat),V.int 0]));obtain⟨x4,y4,e4⟩:=M4.dv;have bQ:p≠d:=Ne.symm (AK bA l);refine(_,Y,d,x4,y4,4,Y,e4,qc,qc,λr4 a4 b4 bW cg=>?_);have M5:=M4.roll AP a4 b4;obtain⟨ag,hv,bd⟩:=IM (xs:=[V.int (1*2^r1.toNat),V.int r2,V.int (1*2^r3.toNat),V.int 0]) bW qe
      have g8:∃n:Nat,ag=.int (n:Int)/\n<2^20:=by
       have:=zP bd;simp only[mem_cons,not_mem_nil,or_false]at this;rcases this with z|z|z|z
       .refine(2^r1.toNat,by simp_all,?_);exact(Nat.pow_lt_pow_iff_right qc).mpr (by lia)
       .exact(r2.toNat,by rw[z,Int.toNat_of_nonneg bk],by lia)
       .refine(2^r3.toNat,by simp_all,?_);exact(Nat.pow_lt_pow_iff_right qc).mpr (by lia)
       .exact(0,z,qc)
      obtain⟨n,rfl,hn⟩:=g8;refine(p,_,r4,_,Y,Y,bZ.of (by rw[AE bQ];exact bA),hv,?_);exact(_,Y,y _ _ (.int (n:Int),.num n,B,E,Y,M5,Y,trivial,hn))
     .refine y _ _ (.bQ,.bQ,B,E,?_,L6,Y,trivial,?_)
      .show _=i1 d M I G D (U (V.int (0+(i:Int)))) (U (V.int (C:Int))) (U (V.int kd)) (U V.bQ) (U (V.int ((CJ (FF ((Aq u).map (·.2))):Nat):Int))) B E;rw[an]
      .show CJ (FF ((Aq u).map (·.2)))<2^20
       grind
    .intro c H7 h;refine(d3 g (je λN g=>?_):N _ _);obtain⟨t,r,S,v,rfl,L7,hT,a5,a9⟩:=h;obtain⟨bs,hu,X⟩:=L7.bG;have iz:=Dx X;refine(λc R=>∃(t:V)(r:Th)(S v:Option V),c=i1 d M I G D (U (.int (0+(i:Int)))) (U (.int (C:Int))) (U (.int kd)) (U t) (U (.int (DY (Aq u) r:Nat))) S v/\LW d I G D H R u/\gf R t r/\Vd (Aq u) r/\DY (Aq u) r<2^20,λa0 y=>?_,?_)
     .refine Vo (decide ((5:Int)<kd)) (!(Ip (Aq u)).isEmpty) (λQ' h=>(_,Y,_,_,Y,Y,_,Y,h)) (λQ' h=>(_,Y,Nat.zero_le _,λp l=>?_)) (λR s8=>?_)
      .have s:=AD (bD.refl _) l (o:=HO.lst []);refine(.list (Ip (Aq u)),.list [],C0 (s _ _ hu) (HF (bV.cS (cJ.of s) X)),C0 bA Vn,FK λp l=>(DO.nm p l).2.1,O7,_,Y,?_);rw[QC];exact h _ s
      .refine BL (λhc=>?_) (λhc=>?_)
       .have cb:0<bs.length:=by
         rw[Bool.and_eq_true]at hc;have h2:=hc.2;rw[iz,←CN];cases hz:Aq u with
         |nil=>rw[hz]at h2;cases h2
         |cons x bi=>simp
        have A:=L7.same s8;obtain⟨x1,y1,e1⟩:=A.dv;refine(_,rfl,d,x1,y1,3,rfl,e1,qc,qc,λr1 a1 b1 bE bR=>?_);have M1:=A.roll AP a1 b1;refine(_,_,rfl,rfl,_,rfl,by lia,by lia,?_);apply Fu (lo:=0) (n:=(1+r1).toNat) (λj w H9=>∃f:jm,w=f.map V.str/\f.length=j/\j<=3/\(∀x∈f,x∈(Aq u).map (·.1))/\LW d I G D H H9 u) ([],rfl,rfl,qc,(λx hx=>nomatch hx),M1)
        .rintro j w H9 ⟨f,rfl,e,h3,_⟩
         grind
        .rintro j w H9 hj ⟨f,rfl,e,h3,g8,L9⟩;obtain⟨x2,y2,e2⟩:=L9.dv;obtain⟨cs,bv,cj⟩:=L9.bG;have bh:=Dx cj;have bz:(cs.map V.ref).length=bs.length:=by rw[AO,bh,iz]
         refine(_,Y,_,Y,_,Y,D,_,Y,.inl (bZ.of bv),d,x2,y2,_,Y,e2,by lia,by lia,λr2 a2 b2 bk bS=>?_);have M2:=L9.roll AP a2 b2;have bO:(upd H9 d (.lst [.int a2,.int b2])) D=U (.lst (cs.map V.ref)):=by rw[AE AP.ud];exact bv
         obtain⟨ag,hv,bd⟩:=IM (xs:=cs.map V.ref) bk (by lia);obtain⟨bb,p,rfl,_,bo,bj⟩:=DF (bV.cS (cJ.upd e2) cj) bd;refine(D,_,r2,_,rfl,rfl,bZ.of bO,hv,bb,_,0,.str p.1,rfl,rfl,cD.of bj,rfl,?_);refine(f++[p.1],by simp,by simp_all,by lia,λx hx=>?_,M2);rcases mem_append.mp hx with z|z
         .simp_all
         .rw[zF]at z;subst z;exact zi.mpr (p,zP bo,Y)
        .rintro w H9 ⟨f,rfl,e,h3,g8,L9⟩ bC hl;have bF:=L9.same (AD (bD.refl _) hl (o:=HO.lst (f.map V.str)));refine(bC,_,Y,.inl (bZ.of bA,λaz ht=>?_));have bn:=bF.same (AD (bD.refl _) ht (o:=HO.tup (f.map V.str)));obtain⟨cs,bu,cj⟩:=bn.bG;have bh:=Dx cj;refine(_,Y,D,Y,(_,bZ.of bu),CC (ω:=a) (a:=D) (xs:=cs.map V.ref) (λj c aC=>aC=upd (upd H9 bC (.lst (f.map V.str))) az (.tup (f.map V.str))/\∃S v:Option V,c=i1 d M I G D (U (.int (0+(i:Int)))) (U (.int (C:Int))) (U (.int kd)) (U (.ref az)) (U (.int (uni ((Aq u).take j) f:Nat))) S v) (Y,S,v,Y) (λj c aC _ zv=>by obtain⟨e,_⟩:=zv;exact e ▸ bZ.of bu) ?_ ?_)
         .rintro j ag c aC hj ⟨rfl,S,v,rfl⟩;obtain⟨bb,p,rfl,_,bo,bj⟩:=DF cj hj;refine(bb,_,Y,cD.of bj,Y,_,_,Y,_,_,Y,Y,?_);refine(_,Y,_,Y,_,Y,az,_,Y,.inr (cD.of bA),Y,?_,_,Y,?_)
          .rw[all_map];exact all_eq_true.mpr λ_ _=>rfl
          .have eu:uni ((Aq u).take (j+1)) f=uni ((Aq u).take j) f|||(if fG (.str p.1) (f.map V.str)then p.2 else 0):=by
            unfold uni;rw[zx,bo,Option.toList_some,zm];exact F6 _ _
           refine BL (λa6=>?_) (λa6=>?_)
           .refine(_,Y,_,_,Y,Y,Y,U (.str p.1),U (.int (p.2:Int)),?_);have a7:fG (.str p.1) (f.map V.str)=gl:=a6;rw[a7,zg rfl]at eu;rw[eu,←C2];rfl
           .refine(_,_,Y,Y,Y,U (.str p.1),U (.int (p.2:Int)),?_);have a7:fG (.str p.1) (f.map V.str)=gt:=Bool.eq_false_iff.mpr a6;rw[a7,zh Bool.false_ne_true]at eu;rw[eu,←C2];rfl
         .rintro c aC ⟨rfl,S,v,rfl⟩;have el:(Aq u).take (cs.map V.ref).length=Aq u:=by rw[AO,bh,←CN,zu]
          have en:DY (Aq u) (.i6 f)=uni (Aq u) f:=(Xa DO.nd g8).symm;have eL:f.length=(1+r1).toNat:=e;refine y _ _ (.ref az,.i6 f,S,v,by rw[el,en],bn,(az,Y,bA),(?_,by lia,g8),?_)
          .intro z;subst z;simp at eL;lia
          .show Ah (f.map (look (Aq u)))<2^20;refine Ey λn hn=>?_;obtain⟨x,hx,rfl⟩:=zi.mp hn;obtain⟨p,l,rfl⟩:=zi.mp (g8 x hx);rw[DU DO.nd l];exact DO.lt p l
       .exact y _ _ (t,r,S,v,Y,L7.same s8,hT.same s8,a5,a9)
     .intro c R h;refine(d3 g (ez λN g=>?_):N _ _);obtain⟨t,r,S,v,rfl,A,hT,a5,a9⟩:=h;obtain⟨as,hf,hP⟩:=A.found;have b8:as.length=u.length:=hP.length;have hw:dh[i]?=U dh[i]:=z7 bq;generalize bx:dh[i]=wd at hw
      have bp:gB (dh.map V.str) (0+(i:Int))=U (.str wd):=by
       have:(0:Int)+(i:Int)=((i:Nat):Int):=by lia
       rw[this];exact BQ (by simp_all)
      refine(_,Y,.inl (Y,_,bZ.of hf),_,Y,_,Y,I,_,_,.str wd,Y,Y,bZ.of A.words,bp,_,Y,fb,λp l=>?_);have s:=AD (bD.refl _) l (o:=HO.tup [V.str wd,t]);refine(G,_,.ref p,Y,Y,s _ _ hf,AQ (by grind),?_);refine(d3 g ?_:N _ _);have t1:cJ (upd R p (.tup [V.str wd,t])) (upd (upd R p (.tup [V.str wd,t])) G (.lst (as.map V.ref++[.ref p]))):=cJ.upd (s _ _ hf);obtain⟨bs,hu,X⟩:=A.bG;have iz:=Dx X;have bc:(upd (upd R p (.tup [V.str wd,t])) G (.lst (as.map V.ref++[.ref p]))) D=U (.lst (bs.map V.ref)):=by rw[AE (Ne.symm AP.fu)];exact s _ _ hu
      have bw:(upd (upd R p (.tup [V.str wd,t])) G (.lst (as.map V.ref++[.ref p]))) I=U (.lst (dh.map V.str)):=by rw[AE AP.wf];exact s _ _ A.words
      refine(_,Y,.inl (Y,_,bZ.of bc),_,Y,_,Y,I,_,_,.str wd,Y,Y,bZ.of bw,bp,_,Y,fb,λq hq=>?_);have m:=AD (bD.refl _) hq (o:=HO.tup [V.str wd,V.int ((DY (Aq u) r:Nat):Int)]);refine(D,_,.ref q,Y,Y,m _ _ bc,AQ (by grind),?_);have t2:=cJ.upd (m _ _ bc) (ys:=bs.map V.ref++[.ref q]);have bl:=((cJ.of s).trans t1).trans ((cJ.of m).trans t2);obtain⟨x,bm,ed⟩:=A.dv;have RR:P7 (Aq u) (wd,(r)):=(DO,by rw[CN];lia,Tu wd (zP hw),?_,a5,a9);refine(d3 eD ?_:Df.nx _ _);refine(_,_,_,_,_,_,_,u++[(wd,(r))],Y,by simp_all,Ni RO RR,?_,?_)
      .rw[zm,cn,zx,hw,Option.toList_some];rfl
      .refine(λab o ec hc=>?_,(x,bm,?_),?_,(as++[p],?_,?_),(bs++[q],?_,?_))
       .have n1:ab≠D:=AK ec AP.nu;rw[AE n1];refine m _ _ ?_;rw[AE (AK ec AP.nf)];exact s _ _ (A.old ab o ec hc)
       .rw[AE (Ne.symm AP.ud)];refine m _ _ ?_;rw[AE (Ne.symm AP.fd)];exact s _ _ ed
       .rw[AE AP.wu];exact m _ _ bw
       .rw[AE AP.fu];refine m _ _ ?_;rw[bA,zm];rfl
       .refine Paired.snoc (Cj bl hP) ?_;exact(t,t2 _ _ (m _ _ (t1 _ _ bA)),hT.cS bl)
       .rw[bA,zm];rfl
       .rw[Fa];unfold Dw;rw[zm];exact Paired.snoc (bV.cS bl X) (t2 _ _ bA)
      .rw[Tv,cn];intro z;have bB:=Rm (i,bq);rw[hw]at bB;have:=Option.some.inj bB;exact of_decide_eq_false this z
 .rintro c H2 ⟨v5,v6,v7,v8,v9,B,E,u,rfl,ck,RO,cn,T⟩;obtain⟨as,hf,hP⟩:=T.found;obtain⟨bs,hu,X⟩:=T.bG;refine(d3 g ?_:N _ _);refine(_,Y,_,Y,fb,λq hq=>?_);have m:=AD (bD.refl _) hq (o:=HO.tup [V.ref G,V.ref D]);refine k q G D as bs u _ (λab o e hc=>m _ _ (T.old ab o e hc),?_) bA be bg (m _ _ hf) (Cj (cJ.of m) hP) (m _ _ hu) (bV.cS (cJ.of m) X) (by lia) (by lia) RO (λx hx=>List.mem_of_mem_take (cn ▸ hx));obtain⟨x,bm,e⟩:=T.dv;exact(x,bm,m _ _ e)
end Mk
namespace L2
open PySem
def LC(c)(j:X.K=c):cH X (.builtin jR) (λf H Q=>∃v C t b,f=[v,.ref C]/\eh c H v t/\W.kitOne c t (.ref C)=U b/\Q (.bl b) H):=by
 subst j;rintro d s p H f l Q I r ⟨v,C,t,b,rfl,ty,e,q⟩;obtain⟨u,o,rfl,i,a⟩:=Gj r;cases a;exact KU I i ty e λh=>(.bl b,H,I.tok h,Y,q)
end L2
namespace Mk
open PySem L2 MK
structure KIsi(K:FG)(C:jr):Prop where
 cl:gy K C
 ha:W.findIn K (.ref C) lU=U (U (.builtin jw))
 hn:W.specialIn K (.builtin jw) mh=U (U (.builtin jI))
 ht:W.takesIn K (.builtin jw)=U L
 hm:W.mroIn K C (.type lC)=U L
 nl:W.kitOne K (.type jH) (.ref C)=U O
def KIsi.ty(k:KIsi b C)(e:H a=U (.ins C c fs)):eh b H (.ref a) (.ref C):=.ins e k.cl k.ha k.hn k.ht k.hm
def HI(a:FG)(C):W.kitOne a (.ref C) (.ref C)=U L:=by
 unfold W.kitOne;simp
def Tx:AH [jt,jx] [jt,jx] (defScope E4):=cY
inductive spRest(C:jr)(a:jq)(H:Hp)(Q:VK)(b:XK):Prop
 |mk p bG r(c:a=[.ref p])(d:cE C H p bG r)(e:Q (.str r) H)
def Xf:AH [jt] [jt] (defScope Hw):=cY
def Vq(F:cC b lR "Kind.rest" Hw f c)(T:Gh b C):bH P w b m g cF 1 f c [jt] (spRest C):=by
 refine F.m Xf λy H Q E h=>?_;obtain⟨p,d,r,rfl,j,k⟩:=h;refine(Y,λl A a s q=>?_);obtain⟨e,t,v,z,u,i,o,x⟩:=j.ex;exact(_,AC (AJ (Ae (Z 0) Y)),(_,Y,p,C,e,_,_,Y,i,T.cl,T.nR,IL _ _ _,k))
def Ty{p q:Str×Nat}:PyData.eqv (.tuple [.str p.1,.int (p.2:Int)]) (.tuple [.str q.1,.int (q.2:Int)])=decide (p=q):=by
 simp[PyData.eqv,PyData.eqvAll,Bool.and_eq_true,beq_iff_eq]
 grind
theorem No:∀a b,PyData.eqv (.list (Ip a)) (.list (Ip b))=decide (a=b)
 | [],[]=>by rfl
 | [],q::r=>by rfl
 |p::r,[]=>by rfl
 |p::r,q::s=>by
  have h:PyData.eqv (.list (Ip (p::r))) (.list (Ip (q::s)))=(PyData.eqv (.tuple [.str p.1,.int p.2]) (.tuple [.str q.1,.int q.2])&&PyData.eqv (.list (Ip r)) (.list (Ip s))):=by
   simp[Ip,map_cons,PyData.eqv,PyData.eqvAll]
  rw[h,Ty,No r s];simp
def Asc(a:Aa):Prop:=∀p∈a,p.1.cps.all (· < 128)=L
inductive spEqK(C:jr)(c:jq)(H:Hp)(Q:VK)(d:XK):Prop
 |mk a b bG r(j:c=[.ref a,.ref b])(l:cE C H a bG r)(m:Asc bG)(i:((∃h,H b=U (.lst h)/\∀e,bD H e->Q (.bl O) e)\/∃(f:Aa)(g:Str),cE C H b f g/\Asc f/\∀e,bD H e->Q (.bl (decide (bG=f/\r=g))) e))
def aE:AH [jt,kf] [jt,kf] (defScope Lu):=cY
def Xg(F:cC c oj "Kind.__eq__" Lu f m)(B:Bl g)(T:Gh c C)(I:KIsi c C)(n:g "Kind"=U (.ref C))(o:Mt P w c g l C mu 1 [jt] (spRows C)):bH P w c g l cF 2 f m [jt,kf] (spEqK C):=by
 obtain⟨fR,dR,o,s,S⟩:=o.ex;refine F.m aE λvs H ab E h=>?_;obtain⟨a,b,j,r,rfl,R,X,h⟩:=h;refine(Y,λbf A D an t=>?_)
 refine(_,AC (AJ (CB (AR (LC c Y) Y B.fj EQ (AA (pv 1) (AA (BM (v:=.ref C) Y n Y) AG)))
  (CB (Cn (Sk c rfl t.units) (BY (pv 0) T.cl s o t S .nil Af) (BY (pv 1) T.cl s o t S .nil Af) (AN _))
   (CW (Cn Ao (Ae (pv 0) rfl) (Ae (pv 1) rfl) (AN _)))))),?_)
 obtain⟨M,d1,d2,N⟩:=R.ins;rcases h with⟨xs,Z,k⟩|⟨i,G,L,h2,k⟩
 .exact(_,Y,_,C,_,O,Y,.lst Z,I.nl,_,Y,AS (k _ (bD.refl _)))
 .obtain⟨v,e1,e2,p⟩:=L.ins;refine(_,Y,_,C,_,gl,Y,I.ty p,HI c C,_,Y,?_);apply AZ;refine(_,Y,a,M,_,Y,N,(Cq _ _ _),a,j,r,Y,R,λal as H1 u Q ht=>?_);refine(_,Y,b,v,_,Y,u _ _ p,(Cq _ _ _),b,i,G,Y,L.same u,λl2 ag H2 q x y=>(_,_,C0 (q _ _ Q) (HF (bV.same q ht)),C0 x (HF y),FK X,FK h2,_,Y,?_));rw[No];have d:=u.trans q;refine BL (λe=>?_) (λe=>?_)
  .refine(_,Y,a,C,M,_,_,Y,d _ _ N,T.cl,T.nR,IL _ _ _,_,Y,b,C,v,_,_,Y,d _ _ p,T.cl,T.nR,IL _ _ _,Y,?_);have:=k _ d;have ev:decide (V.str r=V.str G)=decide (j=i/\r=G):=decide_eq_decide.mpr (λz=>(zT e,V.str.inj z),λz=>by rw[z.2])
   rwa[ev]
  .have:=k _ d
   rwa[zN (λz=>e (zK z.1))]at this
def Tz(a:Aa)(e m:jr):LK:=[(Sum.inr kY,(V.int (Ah (a.map (·.2)):Nat))),(Sum.inr lK,(V.ref e)),(Sum.inr "marks",(V.ref m)),(Sum.inr kH,(V.int (Ah (BU a):Nat)))]
def Xh(a b c d):D5 [] [((Sum.inr kY:Key),(a)),(Sum.inr lK,(b)),(Sum.inr "marks",(c)),(Sum.inr kH,(d))]=[((Sum.inr kY:Key),(a)),(Sum.inr lK,(b)),(Sum.inr "marks",(c)),(Sum.inr kH,(d))]:=by rfl
def Ck(a)(e m):Ai (Tz a e m) (Sum.inr kY)=U (V.int (Ah (a.map (·.2)):Nat)):=by rfl
def Rq(d):(BU d).Pairwise (· < ·):=by
 have e:=HD d;have i:=(EV d).nodup_iff.mpr (Rb d);exact(List.Pairwise.imp₂ (λa b h n=>Nat.lt_of_le_of_ne h n) e i).filter _
def LF(d):((BU d).map λn:Nat=>(n:Int)).sum=((Ah (BU d):Nat):Int):=by
 have e:(BU d).sum=Ah (BU d):=RW (λn i=>(mem_filter.mp i).2) (Rq d);rw[←e];generalize BU d=l;induction l with
 |nil=>rfl
 |cons a r h=>rw[map_cons,sum_cons,h];push_cast;rfl
def Jv(a):Ah ((Aj a).map (·.1))=Ah (a.map (·.2)):=by
 refine Nat.eq_of_testBit_eq λk=>?_;rw[DE,DE,Bool.eq_iff_iff,any_eq_true,any_eq_true];constructor
 .rintro⟨n,e,d⟩;obtain⟨q,i,rfl⟩:=zi.mp e;exact(q.1,zi.mpr (_,K9 i,Y),d)
 .rintro⟨n,e,d⟩;obtain⟨p,h,rfl⟩:=zi.mp e;exact(p.2,Rc h,d)
inductive spTable(a:jq)(H:Hp)(Q:VK)(b:XK):Prop
 |mk u bs d(h:a=[.ref u])(i:H u=U (.lst (bs.map V.ref)))(j:bV H bs (Dw d))(g:d.length<=10)(l:(∀p∈d,p.2<2^20))(n:∀t e m f c,bD H c->c t=U (.dK (Tz d e m))->c e=U (.dK (C4 (Aj d)))->c m=U (.lst (f.map V.ref))->bV c f (P9 d)->Q (.ref t) c)
noncomputable abbrev Xi:jm:=[jW,nU,"_law_firsts",jG,jM,"_law_marks"]
def scTable:AH Xi [jW] (defScope FC):=cY
def T5(F:cC c lQ lQ FC a1 fd)(B:Bl mg)(GB:Fn aC ba c mg aR m7 1 [jM] spBitsOf):bH aC ba c mg aR cF 2 a1 fd [jW] spTable:=by
 refine F.m scTable λvs H be bd h=>?_;obtain⟨u,bs,d,rfl,as,bt,jc,ag,k⟩:=h;refine(Y,λbf bc bg bh hr=>?_);have Q:=Bs hr
 refine(_,AB (Bg (hs:=by rfl) (hw:=by rfl) (Ab (AA AF (AA DK AG))) (BN Y (AT (BH 1 scTable.nd) (AT (BH 2 scTable.nd) A3))))
  (AB (CY PassesOwn.never rfl (BW (Z 0)) (BN rfl (AT (BH 3 scTable.nd) (AT (BH 4 scTable.nd) A3)))
   (AB (A5 1 scTable.nd (AX JD (Z 1) (Z 4)))
   (AC (AU (Db (Ke Q (Z 4) (Z 2))) (AC (D4 Q (Z 2) (Z 4) (Z 3) rfl)) AM))))
  (AB (SZ (i:=5) scTable.nd rfl (by rfl) ["_law_firsts"] [U 2] (by rfl) (by trivial) (by rfl) rfl (BW (AR (Le rfl) rfl B.sorted Dv (AA (Z 2) AG)))
   (λ_ _ _ _ _ _=>Gr (AL Ao (AR (A1 c rfl) rfl B.len PySem.boot_len (AA (dm GB hr (AA (Z 0) AG)) AG)) AF (AN _)))
   (λ_ _ _ _ _ _=>Ab (AA (Au Q (Z 1) (Z 0) (λ_ _=>rfl)) (AA (Z 0) AG))))
  (AC (AJ (Pm (Cu AI (Z 1) (Cu AI (Z 2) (Cu AI (Z 5) (Cu AI (AR (Sj rfl) rfl B.sum TY (AA (Gs [] [] (by rfl) (by trivial) (by rfl) (by rfl) rfl (BW (Z 5)) (λ_ _ _ _ _ _=>BR) (λ_ _ _ _ _ _=>Z 1)) AG)) Pl)))) rfl rfl (by simp) qc))))),?_)
 refine λe he=>(fb,λa9 hq=>(a9,_,Y,cD.of bA,Y,_,_,Y,_,_,Y,Y,?_));have s1:=AD (AD (bD.refl _) he (o:=HO.dK [])) hq (o:=HO.tup [V.int 0,V.ref e]);have iz:bs.length=d.length:=by rw[bt.length];unfold Dw;rw[AO]
 refine(_,Y,u,Y,(_,bZ.of (s1 _ _ as)),CC (ω:=c) (a:=u) (xs:=bs.map V.ref) (λi E g=>∃v3 v4:Option V,E=[U (.ref u),U (.int (Ah ((d.take i).map (·.2)):Nat)),U (.ref e),v3,v4,J]/\bD H g/\g e=U (.dK (C4 (Aj (d.take i)))))
  (J,J,rfl,s1,AD (bD.refl _) hq _ _ bA) (λi E g _ zz=>by obtain⟨_,_,_,f,_⟩:=zz;exact bZ.of (f _ _ as)) ?_ ?_)
 .rintro i v E g P ⟨v3,v4,rfl,f,x⟩;obtain⟨bb,p,rfl,_,bo,M⟩:=DF (bV.same f bt) P;have T:d.take (i+1)=d.take i++[p]:=by rw[zx,bo];rfl
  have ek:(((Ah ((d.take (i+1)).map (·.2)):Nat)):Int)=Builtin.bitOr ((Ah ((d.take i).map (·.2)):Nat):Int) (p.2:Int):=by
   rw[T,zm,C2];exact congrArg _ (F6 _ _)
  have a6:(C4 (Aj (d.take i))).length<=100:=by
   unfold C4;rw[AO];have:=EU (d.take i);rw[zt]at this
   lia
  refine(bb,_,Y,cD.of M,Y,_,_,Y,_,_,Y,Y,(_,Y,_,Y,_,_,Y,Y,?_));by_cases z:p.2∈(Aj (d.take i)).map (·.1)
  .refine(_,Y,_,Y,e,_,Y,.inl (_,Sum.inl (p.2:Int),.inl x,Y,(Ju z).symm),_,Y,AS (_,_,by rw[ek];rfl,f,?_));rw[T,DZ,zg (by simp_all)]
   lia
  .refine(_,Y,_,Y,e,_,Y,.inl (_,Sum.inl (p.2:Int),.inl x,Y,(IK z).symm),_,Y,AZ (_,Y,_,Y,_,Y,e,_,Y,gx.k (k:=Sum.inl (p.2:Int)) x (AQ (by lia)),?_));refine(_,_,by rw[ek];rfl,Jt f he,?_);rw[bA,T,DZ,zh (by simp_all),Nc z]
 .rintro E g ⟨v3,v4,rfl,f,x⟩;have e1:d.take (bs.map V.ref).length=d:=by rw[AO,iz,zu]
  rw[e1]at x ⊢;have a6:(C4 (Aj d)).length<=d.length:=by unfold C4;rw[AO];exact EU d
  refine(_,Y,e,_,Y,.inl x,by lia,λkv a2=>?_,λl ns hl az aM=>?_)
  .unfold C4 at a2
   grind
  .have en:=Tj az aM;subst en;have s3:=AD (bD.refl _) hl (o:=HO.lst (((CT d).map λn:Nat=>(n:Int)).map V.int))
   refine(l,Y,(_,bZ.of bA),B0 (ω:=c) (a:=l) (xs:=A0 (CT d))
    (λi G C=>∃r,G=r.map V.ref/\bD g C/\C l=U (.lst (A0 (CT d)))/\bV C r ((((CT d).take i).filter C3).map λn=>(V.str (Nb (Aj d) n),(V.int (n:Int))))) ([],rfl,s3,by rw[bA,(Iv _).symm],.nil)
    (λi G C _ zq=>by obtain⟨_,_,_,e,_⟩:=zq;exact bZ.of e) (λi G C ⟨r,e,_,_,t⟩=>?_) ?_ ?_)
   .have:=t.length;rw[e,AO,this,AO];have h3:(((CT d).take i).filter C3).length<=((CT d).take i).length:=length_filter_le _ _;rw[zt]at h3;have:=LA d
    lia
   .rintro i v G C P ⟨r,rfl,S,a4,ht⟩;obtain⟨n,w,rfl⟩:=P6 P;have ab:n∈(Aj d).map (·.1):=mem_keysS.mp (zP w);have a7:n<2^42:=Nat.lt_trans (QA ag n ab) qc;have T:=PySem.take_succ_filter C3 _ i n w;refine(_,Y,n,Y,λA zs H4 D a5 hz=>(A,_,Y,.inl (bZ.of a5),Y,_,Y,?_))
    have eb:decide (V.int ((zs.length:Nat):Int)=V.int 1)=C3 n:=by
     rw[←KG a7,hz];refine decide_eq_decide.mpr (λh=>?_,λh=>by rw[h];rfl);have:=V.int.inj h
     lia
    rw[eb];have i7:=D _ _ a4;refine BL (λs=>?_) (λs=>?_)
    .refine(_,Y,_,Y,e,_,Y,.inl (_,Sum.inl (n:Int),.inl (D _ _ (S _ _ x)),Y,(Ju ab).symm),_,Y,fb,λb X=>(r++[b],by simp_all,AD (S.trans D) X,by rw[AE (AK i7 X)];lia,?_));rw[T,s,zg rfl,zm];exact Rg (AD D X) ht bA
    .refine(r,Y,S.trans D,i7,?_);rw[T,zh s,zl];exact bV.same D ht
   .rintro G C ⟨r,rfl,S,_,ht⟩ m s
    have el:(CT d).take (A0 (CT d)).length=CT d:=by
     have:(A0 (CT d)).length=(CT d).length:=by unfold A0;rw[AO]
     rw[this];exact zu
    rw[el]at ht;have N:bV C r (P9 d):=ht;have D:=AD (bD.refl _) s (o:=HO.lst (r.map V.ref));have b8:r.length=(BU d).length:=by rw[N.length];exact Rh d
    refine λt al=>(_,Y,_,Y,_,Y,?_);have R:=AD (bD.refl _) al (o:=HO.dK []);have a8:=bV.same (D.trans R) N;have an:=R _ _ (bA (H:=C) (a:=m) (o:=HO.lst (r.map V.ref)));refine(_,Y,m,Y,(_,bZ.of an),B0 (ω:=c) (a:=m) (xs:=r.map V.ref) (λj G q=>G=A0 ((BU d).take j)/\q=upd (upd C m (.lst (r.map V.ref))) t (.dK [])) (by rfl,Y) (λj G q _ zw=>by obtain⟨_,e⟩:=zw;exact e ▸ bZ.of an) (λj G q ⟨e,_⟩=>?_) ?_ ?_)
    .rw[e];unfold A0;rw[AO,zt];have h3:(BU d).length<=(CT d).length:=length_filter_le _ _;have:=LA d
     lia
    .rintro j v G q hj ⟨rfl,rfl⟩;rw[zy]at hj
     obtain⟨b,X,rfl⟩:∃b,r[j]?=U b/\v=V.ref b:=by
      grind
     obtain⟨pq,ar,M⟩:=Ng a8 X;unfold P9 at ar;rw[zy]at ar
     obtain⟨n,w,rfl⟩:∃n,(BU d)[j]?=U n/\pq=(V.str (Nb (Aj d) n),V.int (n:Int)):=by
      grind
     refine(b,_,Y,cD.of M,Y,_,_,Y,_,_,Y,Y,(_,Y,?_,Y));rw[zx,w,Option.toList_some];unfold A0
     simp_all
    .rintro G q ⟨rfl,rfl⟩ A a3;have a0:(BU d).take (r.map V.ref).length=BU d:=by rw[AO,b8,zu]
     rw[a0];have s7:=AD (bD.refl _) a3 (o:=HO.lst (A0 (BU d)));refine(A,(BU d).map λn:Nat=>(n:Int),Y,bZ.of (by rw[bA,Iv]),λn w=>?_,?_,?_)
     .grind
     .rw[LF];have:=Ey (Tl ag)
      lia
     .rw[LF];refine(s7 _ _ bA,[((Sum.inr kY:Key),(V.int (Ah (d.map (·.2)):Nat))),(Sum.inr lK,(.ref e)),(Sum.inr "marks",(.ref m)),(Sum.inr kH,(V.int (Ah (BU d):Nat)))],Y,(by simp),?_);rw[Xh]
      have y:bD (upd C m (.lst (r.map V.ref))) (upd (upd (upd (upd C m (.lst (r.map V.ref))) t (.dK [])) A (.lst (A0 (BU d)))) t (.dK (Tz d e m))):=λb o I=>by
       rw[AE (AK I al)];exact s7 _ _ (R _ _ I)
      refine k t e m r _ ?_ bA ?_ (y _ _ bA) (bV.same (D.trans y) N)
      .intro b o I;exact y _ _ (D _ _ (S _ _ (f _ _ I)))
      .exact y _ _ (D _ _ (S _ _ x))
theorem FM:∀{b},(∀d∈b,PyData.eqv d d=L)->PyData.eqvAll b b=L
 | [],_=>by rfl
 |d::r,h=>by
  rw[PyData.eqvAll,h d zH,FM λx a=>h x (by simp_all)];rfl
def Fl(h:∀d∈a,PyData.eqv d d=L):PyData.eqv (.list a) (.list a)=L:=by
 exact FM h
def EW(h:∀d∈a,PyData.eqv d d=L):PyData.eqv (.tuple a) (.tuple a)=L:=by
 exact FM h
def Bo(x):PyData.eqv (.str x) (.str x)=L:=by simp[PyData.eqv]
def C8(n):PyData.eqv (.int n) (.int n)=L:=by simp[PyData.eqv]
def EY:PyData.eqv .none .none=L:=by rfl
def KH(b:jm):PyData.eqv (.list (b.map PyData.str)) (.list (b.map PyData.str))=L:=Fl λd a=>by
 obtain⟨n,_,rfl⟩:=zi.mp a;exact Bo _
def Np(kp:jr)(n:Nat):List (Str×V):=BB kH (.int (n:Int)) (BB jX (.ref kp) [])
def Vr(kp)(n):(Np kp n).lookup (jX:Str)=U (.ref kp):=by
 rfl
def Vs(kp)(n):(Np kp n).lookup (kH:Str)=U (.int (n:Int)):=by
 rfl
def WS(kp)(n){m:Str}(a:¬ m=kH)(d:¬ m=jX):(Np kp n).lookup m=J:=by
 unfold Np;rw[Ax,zh a,Ax,zh d];rfl
def dr(a:jr)(H:Hp)(p kp:jr)(n:Nat):Prop:=∃b,H p=U (.ins a b (Np kp n))
def dr.same{n}(s:bD H b)(h:dr c H p kp n):dr c b p kp n:=by
 obtain⟨a,h⟩:=h;exact(a,s _ _ h)
structure Nq(K:FG)(VC:jr):Prop where
 cl:gy K VC
 nK:dy K VC jX
 nB:dy K VC kH
def kn(a:Aa):Nat:=Ah (a.map (·.2))
inductive spIsNumber(a:jq)(H:Hp)(Q:VK)(b:XK):Prop
 |mk(n:Nat)(c:a=[.int (n)])(d:n<2^40)(e:Q (.bl L) H)
def O9:AH [jz] [jz] (defScope FY):=cY
inductive spRestOf(C:jr)(a:jq)(H:Hp)(Q:VK)(b:XK):Prop
 |mk kp bG r(n:Nat)(d:a=[.ref kp,.int (n)])(e:cE C H kp bG r)(f:∀c,bD H c->Q (.int ((n-(n&&&kn bG):Nat):Int)) c)
def T6:AH [jJ,jC] [jJ,jC] (defScope Lv):=cY
def Rr(F:cC b nI nI Lv f g)(T:Gh b C)(d:Mt P w b m c C kY 2 [jt] (spKnown C)):bH P w b m c cF 3 f g [jJ,jC] (spRestOf C):=by
 obtain⟨x,z,d,t,o⟩:=d.ex;refine F.m T6 λB H Q E h=>?_;obtain⟨kp,a,r,n,rfl,j,k⟩:=h;refine(Y,λv A e s l=>?_);obtain⟨p,y,D,u⟩:=j.ins;refine(_,AC (AJ (AX Ca (Z 1) (DW LR (BY (Z 0) T.cl t d l o .nil Af)))),(_,Y,_,Y,kp,p,_,Y,u,(Cq _ _ _),kp,a,r,Y,j,λi q=>?_));refine(_,Y,_,_,Y,Y,?_);show Q (V.int (Builtin.bitAnd n (Builtin.bitNot ((Ah ((Aj a).map (·.1)):Nat))))) i;rw[ED,Jv];exact k i q
inductive spVInit(C a:jr)(c:jq)(H:Hp)(Q:VK)(d:XK):Prop
 |mk p dx kp bG r(n:Nat)(g:c=[.ref p,.ref kp,.int (n)])(h:H p=U (.ins a dx []))(i:cE C H kp bG r)(f:n<2^40)(j:(r=lp \/ n-(n&&&kn bG)=0))(l:∀e,(∀b o,H b=U o->b≠p->e b=U o)->dr a e p kp n->Q .bQ e)
def Vt:AH [jt,jJ,jC] [jt,jJ,jC] (defScope GD):=cY
def Nr(F:cC b jF "Value.__init__" GD f S)(T:Gh b C)(j:Nq b c)
  (o:Fn P w b m g lL 2 [jz] spIsNumber) (s:Fn P w b m g nI 3 [jJ,jC] (spRestOf C)) (D:Mt P w b m g C lR 1 [jt] (spRest C)):bH P w b m g cF 4 f S [jt,jJ,jC] (spVInit C c):=by
 obtain⟨fE,dE,X,M,al⟩:=D.ex;refine F.m Vt λvs H Q E h=>?_;obtain⟨p,u,kp,d,r,n,rfl,N,y,ag,a,k⟩:=h;refine(Y,λan A B aC q=>?_);obtain⟨v,ar,d2,t⟩:=y.ins
 refine(_,AB (AU (Ar (Ak (dm o q (AA (Z 2) AG)))) (AC Ag) AM)
  (An (AU (PW.pt (CV (AL Ed (BY (Z 1) T.cl M X (q.mono qc) al .nil Af) AI (AN _)) (Bj (AL Ed (dm s q (AA (Z 1) (AA (Z 2) AG))) AF (AN _))))) (AC Ag) AM)
  (AB (Cb (Z 0) (Z 1) rfl) (AC (Cb (Z 0) (Z 2) rfl)))),?_)
 refine(_,Y,n,Y,ag,_,Y,?_);apply AS;refine(λab l=>ab=[U (.ref p),U (.ref kp),U (.int n)]/\bD H l,λR I=>?_,?_)
 .refine(_,Y,kp,v,_,Y,t,(Cq _ _ _),kp,d,r,Y,y,Y,_,Y,?_);by_cases x:r=lp
  .rw[zK (by rw[x])];exact AS (AS (I _ _ (Y,bD.refl _)))
  .rw[zN (λz=>x (V.str.inj z))];apply AZ;refine(_,Y,_,Y,kp,d,r,n,Y,y,λl i=>(Y,_,Y,?_));rw[a.resolve_left x];exact AS (I _ _ (Y,i))
 .rintro ab l ⟨rfl,i⟩;refine(_,Y,_,Y,p,c,u,[],Y,i _ _ N,j.cl,j.nK,(by simp),(_,Y,_,Y,p,c,u,_,Y,bA,j.cl,j.nB,Nat.lt_of_le_of_lt (Ay _ _ _) (by simp),?_));refine k _ (λas az e G=>?_) (u,bA);rw[AE G,AE G];exact i _ _ e
inductive spVNumber(a:jr)(b:jq)(H:Hp)(Q:VK)(c:XK):Prop
 |mk p kp n(d:b=[.ref p])(e:dr a H p kp n)(f:Q (.int (n:Int)) H)
def Rs:AH [jt] [jt] (defScope EI):=cY
def PB(F:cC c jC "Value.number" EI f g)(d:Nq c b):bH P w c q m cF 1 f g [jt] (spVNumber b):=by
 refine F.m Rs λo H Q E h=>?_;obtain⟨p,kp,n,rfl,⟨j,e⟩,k⟩:=h;refine(Y,λi A a s l=>?_);exact(_,AC (AJ (Ae (Z 0) Y)),(_,Y,p,b,j,_,_,Y,e,d.cl,d.nB,Vs _ _,k))
inductive spVKind(a:jr)(b:jq)(H:Hp)(Q:VK)(c:XK):Prop
 |mk p kp n(d:b=[.ref p])(e:dr a H p kp n)(f:Q (.ref kp) H)
def Vu:AH [jt] [jt] (defScope GH):=cY
def T7(F:cC c jJ "Value.kind" GH f g)(d:Nq c b):bH P w c q m cF 1 f g [jt] (spVKind b):=by
 refine F.m Vu λo H Q E h=>?_;obtain⟨p,kp,n,rfl,⟨j,e⟩,k⟩:=h;refine(Y,λi A a s l=>?_);exact(_,AC (AJ (Ae (Z 0) Y)),(_,Y,p,b,j,_,_,Y,e,d.cl,d.nK,Vr _ _,k))
structure Ih(P:Program)(w:World)(K:FG)(mg:SV)(base:Heap)(C VC:jr):Prop where
 VT:Nq K VC
 cls:mg "Value"=U (.ref VC)
 make:∃f fd,Mk K VC f/\bH P w K mg base cF 4 f fd [jt,jJ,jC] (spVInit C VC)/\Binds K fd [jt,jJ,jC] []
def FN(e:H kp=J)(d:H b=J)(a:b≠kp):bD H (upd (upd H b (.own kp)) kp (.ins D b [])):=by
 apply AD (AD (bD.refl _) d);rw[AE (Ne.symm a)]
 simp_all
def Fb(sN:bD H c)(a:H kp=J)(f:∀b o,c b=U o->b≠kp->d b=U o):bD H d:=λb o e=>f b o (sN _ _ e) (AK e a)
def QE(h:∀p∈a,p.2<2^20):kn a<2^20:=by
 exact Ey λn d=>by grind
def T8(x y:Nat):(x|||y)+(x&&&y)=x+y:=by
 have h:=PyProof.Rows.bitOr_and x y;rw[C2,C7]at h
 lia
def Ii(a b:Nat):a-(a&&&b)=a^^^(a&&&b):=by
 have d:(a^^^(a&&&b))|||(a&&&b)=a:=by
  refine Nat.eq_of_testBit_eq λk=>?_;simp;cases a.testBit k<;>cases b.testBit k<;>rfl
 have e:(a^^^(a&&&b))&&&(a&&&b)=0:=by
  refine Nat.eq_of_testBit_eq λk=>?_;simp only[Nat.testBit_and,Nat.testBit_xor,Nat.zero_testBit];cases a.testBit k<;>cases b.testBit k<;>rfl
 have h:=T8 (a^^^(a&&&b)) (a&&&b)
 lia
def MA(a b k:Nat):(a-(a&&&b)).testBit k=(a.testBit k && !b.testBit k):=by
 rw[Ii]
 grind
def QF(a b):(a-(a&&&b))-((a-(a&&&b))&&&a)=0:=by
 have h:(a-(a&&&b))&&&a=a-(a&&&b):=by
  rw[Ii a b];refine Nat.eq_of_testBit_eq λk=>?_;simp only[Nat.testBit_and,Nat.testBit_xor];cases a.testBit k<;>cases b.testBit k<;>rfl
 simp_all
inductive spErrInit(a:FG)(b:jq)(H:Hp)(Q:VK)(c:XK):Prop
 |mk e C dx x(f:b=[.ref e,.str x])(g:BA a C=L)(h:H e=U (Fe e C dx))(d:Q .bQ H)
def Rt:AH [jt,nV] [jt,nV] (defScope BG):=cY
def EZ(F:FunD b jF k4 BG f c)(i:g jK=J):bH P w b g m cF 1 f c [jt,nV] (spErrInit b):=by
 refine F.ok Rt (λl H Q E h=>?_) (λp A a s H l Q E q h=>?_)
 .obtain⟨e,C,d,x,rfl,_⟩:=h;rfl
 .obtain⟨e,C,d,x,rfl,j,o,k⟩:=h;exact(_,AC (AV (Sw Y i (AA (Z 0) (AA (Z 1) AG)))),(_,Y,_,Y,e,C,d,[.str x],Y,(by simp_all),j,o,k))
structure eE(P:Program)(w:World)(K:FG)(mg:SV)(base:Heap)(x:Str)(CU:jr):Prop where
 cls:mg x=U (.ref CU)
 make:∃f fd,MkX K CU f/\bH P w K mg base cF 1 f fd [jt,nV] (spErrInit K)/\Binds K fd [jt,nV] []
def Uq(H:Hp)(E:XK)(a:jr):Prop:=∀e b,bD H b->H e=J->b e=U (Fw e a J)->E (.ref a) J b
def none_of(s:bD H a)(h:a x=J):H x=J:=by
 cases e:H x with
 |none=>rfl
 |some u=>rw[s _ _ e]at h;cases h
def Uq.of(s:bD H c)(h:Uq H E b):Uq c E b:=λe a j d i=>h e a (s.trans j) (none_of s d) i
def Cl{b}{H}{d}{te:XK->TE}{c}{i}{E}{D}{x}(l:BA b d=L)(e:bD H i)(h:Uq H E d):Hn d (Hm d (spErrInit b) [] E0 (AY (tC (.str x)) BS)) E D c i:=by
 refine((by simp_all),λa j=>?_);refine(a,d,J,x,Y,l,bA,Y,a,J,Y,bA,h a _ (e.trans ?_) (none_of e j) bA);rw[Uf];exact AD (bD.refl _) j
noncomputable def wds:jm:=["BadRows",kK,kz,"Unled","BadRule",jD,kj,"Unlike","BadPairs","Never",lG]
def wd(j:Nat):Str:=wds.getD j ""
noncomputable def gQ(j:Nat):List Bool:=(List.range 11).map λi=>decide (i=j)
noncomputable def b1(b:Bool):Int:=if b then 1 else 0
noncomputable abbrev zA(j:Nat):jq:=[V.bl (decide (0=j)),V.bl (decide (1=j)),V.bl (decide (2=j)),V.bl (decide (3=j))]
noncomputable abbrev zB(j:Nat):jq:=[V.bl (decide (4=j)),V.bl (decide (5=j)),V.bl (decide (6=j))]
noncomputable abbrev zC(j:Nat):jq:=[V.bl (decide (7=j))]
noncomputable abbrev zD(j:Nat):jq:=[V.bl (decide (8=j)),V.bl (decide (9=j)),V.bl (decide (10=j))]
noncomputable abbrev yA:jq:=[V.str "BadRows",V.str kK,V.str kz,V.str "Unled",V.str "BadRule",V.str jD,V.str kj]
noncomputable abbrev yB:jq:=[V.str "Unlike",V.str "BadPairs"]
def QG:∀j,j<11->((gQ j).map b1).sum=1:=by trivial
def Xj:∀j,j<11->(gQ j)[j]?=U L/\∀m,m<j->(gQ j)[m]?=U O:=by trivial
def Xk:∀j:Nat,j<11->gB (wds.map V.str) (j)=U (V.str (wd j)):=by trivial
structure Ru(mg:SV)(ec:Nat->jr):Prop where
 e0:mg "BadRows"=U (.ref (ec 0))
 e1:mg kK=U (.ref (ec 1))
 e2:mg kz=U (.ref (ec 2))
 e3:mg "Unled"=U (.ref (ec 3))
 e4:mg "BadRule"=U (.ref (ec 4))
 e5:mg jD=U (.ref (ec 5))
 e6:mg kj=U (.ref (ec 6))
 e7:mg "Unlike"=U (.ref (ec 7))
 e8:mg "BadPairs"=U (.ref (ec 8))
 e9:mg "Never"=U (.ref (ec 9))
 e10:mg lG=U (.ref (ec 10))
 ev:mg jK=J
structure QH(K:FG)(ec:Nat->jr)(C:jr)(j:Nat):Prop where
 hj:j<11
 kx:VF K C
 kit:∀i,i<11->W.kitOne K (.ref C) (.ref (ec i))=U (decide (i=j))
 val:W.kitOne K (.ref C) (.type jK)=U L
def CO(g)(z:X.K=g)(r:ExcP X e n C)(k:VF g C)(t:Gl X jR)(q:X.mg jR=J)(h:Gl X x)(i:X.mg x=U (.ref c))(y:PE X a w)
  (o:fQ x:=by decide)
  (m:starEach [a,.Name x f] X.env=(O,(eval a X.env))::starEach [.Name x f] X.env:=by rfl) (j:(backTo s (starEach [.Name x f] X.env)).any (·.1)=O:=by rfl) (l:starEach [.Name x f] X.env=(O,(eval (.Name x f) X.env))::starEach [] X.env:=by rfl):
  PE X (.Call (.Name jR p) [a,.Name x f] [] s) (tCB (λA H Q=>∃v c b,A=[.ref e,v]/\((∃D,v=.ref D/\c=.ref D)\/∃T,v=.ty T/\c=.type T)/\(n.dict=J\/∃d u,n.dict=U d/\H d=U u)/\W.kitOne g (.ref C) c=U b/\Q (.bl b) H) (AY w (AY (tC (.ref c)) BS))):=by
 subst z;exact AR (Kw r k) t q EQ (AA y (AA (BM h i Y o) AG l) m) qc qc m j
def Ea(b:FG)(a:Nat->jr):SpS:=λe c g H Q=>g=[.ref e]/\∃(C:jr)(j:Nat)(fs:Array Value),c.cls=.ref C/\c.data=.fields fs/\fs[2]?=U .none/\(c.dict=J\/∃d u,c.dict=U d/\H d=U u)/\QH b a C j /\
 ∀p f,bD H f->f p=U (.tup [.str jE,.str (wd j)])->Q (.ref p) f
def scWord:AH [jY,"_law_flags",kZ] [jY] (defScope FB):=cY
def Vv(F:cC a kJ kJ FB f fd)(B:Bl c)(M:Ru c ec):Pu P as a c ar 1 f fd [jY] (Ea a ec):=by
 refine F.okS scWord (λe g vs H aM h=>?_) (λR A D s H vs aM e g hh hr h=>?_)
 .obtain⟨rfl,_⟩:=h;rfl
 .obtain⟨rfl,aC,j,fs,hc,hf,h2,hd,r,k⟩:=h;have v:=r.hj
  have l:∀w,bD H w->(g.dict=f8\/∃d u,g.dict=U d/\w d=U u):=λw s=>by
   rcases hd with az|⟨d,u,az,bc⟩
   .simp_all
   .exact .inr (d,u,az,s _ _ bc)
  have E:=r.kit;have x:ExcP (Ks P as a c ar [jY,"_law_flags",kZ] kJ (defScope FB) f R A D s H e g) e g aC:=(zH,hc,(fs,hf));have rd:il (Ks P as a c ar [jY,"_law_flags",kZ] kJ (defScope FB) f R A D s H e g):=VB hh hf h2
  refine(_,AB (A5 1 scWord.nd (As (AA (CO a Y x r.kx Y B.fj Y M.e0 (Z 0)) (AA (CO a Y x r.kx Y B.fj Y M.e1 (Z 0)) (AA (CO a Y x r.kx Y B.fj Y M.e2 (Z 0)) (AA (CO a Y x r.kx Y B.fj Y M.e3 (Z 0)) AG))))))
   (AB (A5 1 scWord.nd (AX Hh (Z 1) (As (AA (CO a rfl x r.kx rfl B.fj rfl M.e4 (Z 0)) (AA (CO a rfl x r.kx rfl B.fj rfl M.e5 (Z 0)) (AA (CO a rfl x r.kx rfl B.fj rfl M.e6 (Z 0)) AG))))))
   (AB (A5 1 scWord.nd (AX Hh (Z 1) (As (AA (CO a rfl x r.kx rfl B.fj rfl M.e7 (Z 0)) AG))))
   (AB (A5 1 scWord.nd (AX Hh (Z 1) (As (AA (CO a rfl x r.kx rfl B.fj rfl M.e8 (Z 0)) (AA (CO a rfl x r.kx rfl B.fj rfl M.e9 (Z 0)) (AA (CO a rfl x r.kx rfl B.fj rfl M.e10 (Z 0)) AG))))))
   (AB (A5 2 scWord.nd (As (AA AI (AA AI (AA AI (AA AI (AA AI (AA AI (AA AI AG)))))))))
   (AB (A5 2 scWord.nd (AX Hh (Z 2) (As (AA AI (AA AI AG)))))
   (AB (AU (PW.pt (DH (AL Ed (AR (Kn rd) rfl B.sum TY (AA (Qw [] [] (by rfl) (by simp) (by rfl) rd (Se (Z 1)) (λ_ _ _ _ _ _=>BR) (λ_ _ _ _ _ _=>BF HY rfl B.int II (AA (Z 0) AG))) AG)) AF (AN _))
     (By (Ar (Ak (AR (Kw x r.kx) rfl B.fj EQ (AA (Z 0) (AA (C6 (v:=.ty jK) rfl M.ev Pt rfl) AG)))))))) (AC Ag) AM)
   (AC (AJ (Ab (AA AI (AA (Am (Al a rfl) (AX Hh (Z 2) (As (AA AI (AA AI AG)))) (SQ plainAttrs_list slot_list_index type_list_index RB (Z 1) (AA CQ AG)) (λ_ _=>rfl)) AG))))))))))),?_)
  refine ez λN t=>(_,Y,_,_,_,Y,.inl (_,Y,Y),l _ (bD.refl _),E 0 qc,_,Y,_,_,_,Y,.inl (_,Y,Y),l _ (bD.refl _),E 1 qc,_,Y,_,_,_,Y,.inl (_,Y,Y),l _ (bD.refl _),E 2 qc,_,Y,_,_,_,Y,.inl (_,Y,Y),l _ (bD.refl _),E 3 qc,sl4,λX h1=>?_);have n:=AD (bD.refl H) h1 (o:=.lst (zA j));have a1:=bA (H:=H) (a:=X) (o:=.lst (zA j));generalize upd H X (.lst (zA j))=y at n a1 ⊢;refine(d3 t (ez λN t=>?_):N _ _);refine(_,Y,_,Y,_,_,_,Y,.inl (_,Y,Y),l _ n,E 4 qc,_,Y,_,_,_,Y,.inl (_,Y,Y),l _ n,E 5 qc,_,Y,_,_,_,Y,.inl (_,Y,Y),l _ n,E 6 qc,iu,λl2 jb=>(X,l2,_,_,Y,Y,(AD (bD.refl y) jb) _ _ a1,bA,(by show 4+3<=sizeLine;decide),λl3 h3=>?_));have s3:=n.trans (AD (AD (bD.refl y) jb (o:=.lst (zB j))) h3 (o:=.lst (zA j++zB j)));generalize e3:upd (upd y l2 (.lst (zB j))) l3 (.lst (zA j++zB j))=q at s3 ⊢;have a3:q l3=U (.lst (zA j++zB j)):=by rw[←e3,bA]
  refine(d3 t (ez λN t=>?_):N _ _);refine(_,Y,_,Y,_,_,_,Y,.inl (_,Y,Y),l _ s3,E 7 qc,sl1,λl4 h4=>(l3,l4,_,_,Y,Y,(AD (bD.refl q) h4) _ _ a3,bA,(by show 7+1<=sizeLine;decide),λl5 h5=>?_));have S:=s3.trans (AD (AD (bD.refl q) h4 (o:=.lst (zC j))) h5 (o:=.lst ((zA j++zB j)++(zC j))));generalize e5:upd (upd q l4 (.lst (zC j))) l5 (.lst ((zA j++zB j)++(zC j)))=z at S ⊢;refine(d3 t (ez λN t=>?_):N _ _);refine(_,Y,_,Y,_,_,_,Y,.inl (_,Y,Y),l _ S,E 8 qc,_,Y,_,_,_,Y,.inl (_,Y,Y),l _ S,E 9 qc,_,Y,_,_,_,Y,.inl (_,Y,Y),l _ S,E 10 qc,iu,λl6 h6=>(l5,l6,_,_,Y,Y,(AD (bD.refl z) h6) _ _ (by rw[←e5,bA]),bA,(by show 8+3<=sizeLine;decide),λp h7=>?_));have s7:=S.trans (AD (AD (bD.refl z) h6 (o:=.lst (zD j))) h7 (o:=.lst (((zA j++zB j)++(zC j))++(zD j))));generalize e7:upd (upd z l6 (.lst (zD j))) p (.lst (((zA j++zB j)++(zC j))++(zD j)))=C at s7 ⊢;have a7:C p=U (.lst ((gQ j).map V.bl)):=by rw[←e7];exact bA
  refine(d3 t (ez λN t=>((by trivial),λl8 h8=>?_)):N _ _);refine(d3 t (ez λN t=>?_):N _ _);refine(_,Y,(by trivial),λl9 h9=>(l8,l9,_,_,Y,Y,(AD (bD.refl _) h9) _ _ bA,bA,(by trivial),λI jc=>?_));have G:=AD (AD (AD (bD.refl C) h8 (o:=.lst yA)) h9 (o:=.lst yB)) jc (o:=.lst (yA++yB));generalize a2:upd (upd (upd C l8 (.lst yA)) l9 (.lst yB)) I (.lst (yA++yB))=ab at G ⊢;have a0:ab I=U (.lst (yA++yB)):=by rw[←a2];exact bA
  have Q:=G _ _ a7;refine(d3 t (ez λN t=>?_):N _ _);refine(_,Y,p,Y,(_,bZ.of Q),B0 (ω:=a) (a:=p) (xs:=(gQ j).map V.bl) (λi T m=>T=((gQ j).take i).map (λb=>V.int (b1 b))/\m=ab) (Y,Y) (λi T m _ zz=>by obtain⟨_,e⟩:=zz;exact e ▸ bZ.of Q) (λi T m ⟨e,_⟩=>?_) ?_ ?_)
  .rw[e,AO,zt];have:(gQ j).length=11:=rfl
   lia
  .rintro i bb T m hi ⟨rfl,rfl⟩;rw[zy]at hi;obtain⟨b,hb,rfl⟩:=z6.mp hi;refine(_,Y,.inr (b,Y,?_,Y));rw[zx,hb,Option.toList_some,zm];rfl
  .rintro T m ⟨rfl,rfl⟩ a9 hp;have el:(gQ j).take ((gQ j).map V.bl).length=gQ j:=by rw[AO];exact zu
   rw[el];have em:(gQ j).map (λb=>V.int (b1 b))=((gQ j).map b1).map V.int:=by rw[map_map];rfl
   rw[em];have an:=AD (bD.refl m) hp (o:=.lst (((gQ j).map b1).map V.int));refine(a9,(gQ j).map b1,Y,bZ.of bA,λbd hn=>?_,(by rw[QG j v];decide),Y,_,Y,?_)
   .obtain⟨b,_,rfl⟩:=zi.mp hn;unfold b1
    lia
   rw[QG j v];refine AS ((_,Y,_,_,gl,Y,.inr (_,Y,Y),l _ (s7.trans (G.trans an)),r.val,_,Y,?_));refine AS ((d3 t ?_:N _ _));refine(_,Y,(by trivial),λa6 a4=>?_);have al:=AD an a4 (o:=.lst [V.str "Never",V.str lG]);refine(I,a6,_,_,Y,Y,al _ _ a0,bA,(by trivial),λa8 a5=>?_);have ag:=AD al a5 (o:=.lst ((yA++yB)++[V.str "Never",V.str lG]));have c7:=ag _ _ Q;obtain⟨f1,f2⟩:=Xj j v;exact(_,Y,.inl (Y,_,bZ.of c7),p,gQ j,j,Y,Y,c7,f1,f2,a8,_,(j:Int),_,Y,Y,bZ.of bA,Xk j v,fb,λba hq=>k ba _ (s7.trans (G.trans (AD ag hq))) bA)
structure FP(K:FG)(ec:Nat->jr)(cM C:jr)(j:Nat):Prop where
 ea:QH K ec C j
 cx:BA K C=L
 n0:(Ek K C).contains (.ref (ec 0))=O
 n1:(Ek K C).contains (.ref (ec 1))=O
 n2:(Ek K C).contains (.ref (ec 2))=O
 n3:(Ek K C).contains (.ref (ec 3))=O
 m:(Ek K C).contains (.ref cM)=L
noncomputable def MC(j:Nat):Str:=(["at",kH,"at",jx]:jm).getD j ""
structure Jw(K:FG)(ec:Nat->jr)(C:jr)(j:Nat):Prop where
 ea:QH K ec C j
 cx:BA K C=L
 j4:j<4
 no:∀i,i<j->(Ek K C).contains (.ref (ec i))=O
 m:(Ek K C).contains (.ref (ec j))=L
 g:Ya K C (MC j)
structure T9(K:FG)(mg:SV)(ec:Nat->jr)(cM:jr):Prop where
 m:mg "MarkError"=U (.ref cM)
 xm:BA K cM=L
 x0:BA K (ec 0)=L
 x1:BA K (ec 1)=L
 x2:BA K (ec 2)=L
 x3:BA K (ec 3)=L
structure FnS(P:Program)(w:World)(K:FG)(mg:SV)(base:Heap)(x:Str)(k:Nat)(ps:jm)(sp:SpS):Prop where
 ex:∃f fd,Pu P w K mg base k f fd ps sp/\mg x=U (.ref f)/\W.keepIn K (.ref f)=L/\Binds K fd ps []
def UA(c:FG)(b:Nat->jr)(f C:jr)(a:Option jr)(e:jr):TS:=λD h H=>h.length=2 /\
 ((∃j,FP c b f C j/\a=J/\∀p g,bD H g->g p=U (.tup [.str jE,.str (wd j)])->D.rt (.ref p) g) \/
  ∃j d v,Jw c b C j/\a=U d/\H d=U (.xd [(MC j,(v))])/\∀p g,bD H g->g p=U (.tup [.str jE,.str (wd j),v])->D.rt (.ref p) g)
def Ei(b:FG)(a:Nat->jr)(c:jr)(Q:VK):XK:=λi h g=>∃C,i=.ref C/\∀e,g e=U (Fw e C h) ->
 ((∃j,FP b a c C j/\h=J/\∀p f,bD (del g e) f->f p=U (.tup [.str jE,.str (wd j)])->Q (.ref p) f) \/
  ∃j d v,Jw b a C j/\h=U d/\(del g e) d=U (.xd [(MC j,(v))])/\∀p f,bD (del g e) f->f p=U (.tup [.str jE,.str (wd j),v])->Q (.ref p) f)
def scTold:AH [jV,jY] [jV] (defScope A7):=cY
def UB(b)(a:X.K=b):ee X (binaryOp .Add) (Ph b):=a ▸ Uv
def Vw(F:cC b jB jB A7 f fd)(M:Ru i g)(h:T9 b i g S)(X:FnS P w b i m kJ 1 [jY] (Ea b g))
   {s}{H}   {o}{r}      {tl:XK->TE} 
  (hr:bJ (k+2) A) (e0:fg P w b i m A n s H) (hb:BindsTo s fd ba (([jV]:jm).zip [Value.ref N])) (a6:JV Nl o r a5 H s.heap) (bh:∀x c,r.lookup x=U c->c∉ dj n)
  (h1:H N=U (iV N (W.kla_obj a2 C a3 as o r pm q aM))) (I:H q=U (Gv q C))
  (bb:bindArgs (W.kla_fn a2 C a3 as o r pm (.ref q) aM) ([],[])=pure [])
  (bd:o.isCoroutine=gt) (bi:o.isGenerator=gt) (hk:o.kind=.function) (a9:∀x∈o.names,x.2≠ .cell)
  (bj:∀A' a8 s' y E,bJ k (A'.deeper (W.envX C o s'.heap.objs.size N (.ref q) r))->PE (Gw P w b i m Nl C o N (.ref q) r A' a8 s' y E) as (tl E))
  (aR:tl (Ei b g S Q) a5 H Q):codeAny (model P w) A (.call (.ref f) ba) (CR cF n P w H s Q E0) s:=by
 obtain⟨fW,dW,X,mW,kW,bW⟩:=X.ex;refine F.at (N:=[jV,jY]) scTold (vs:=[.ref N]) Y (k:=k+1) hr e0 hb (.cons Y .nil) λl ar=>?_
 have a0:∀e,RoomS 1 ((A.deeper (PyProof.Rows.envOfC jB (defScope A7) s.heap.objs.size f l)).mark (U (.ref e))):=λe=>by
  have al:=ar.mono (show 1<=k+1 by lia);exact(al.dp,al.un)
 refine(_,AC (XI (tb:=λE=>SB (NA 0 N q C (W.kla_obj a2 C a3 as o r pm q aM) a5 (tl E))) (th:=UA b g S) (Sq (CX:=cF) (P:=P) (w:=w) (ω:=b) (mg:=i) (base:=m) (N:=[jV,jY]) (qual:=jB) (scope:=defScope A7) (f:=f) (cd:=l) (A:=A) (outer:=n) (s:=s) (H:=H) (E:=E0)) (λP0 xe E hx=>?_) (λab dx=>?_)),?_)
 .exact AC (AJ (Om (i:=0) (k:=k+1) Y (Or.inl Y) ar a6 bh Y hx bb bd bi hk a9 (λs' y=>bj _ _ s' y E (ar.deeper _))))
 .rintro u s1 ag H1 D e a T B c aC ⟨hl,⟨j,EP,rfl,kq⟩|⟨j,d,v,t,rfl,bk,kq⟩⟩
  .refine(?hp:PH (Bf cF P w b i m [jV,jY] jB (defScope A7) f l A n s H E0) ab f8 _ (λe=>Pv 1 (λD ag H=>ag[1]?=U (U (.ref e))/\∀p y,bD H y->y p=U (.tup [.str jE,.str (wd j)])->D.rt (.ref p) y) e)) u s1 ag H1 D e a T B c aC ?_
   .refine Cp (Dn:=g 0) EP.cx h.x0 Y M.e0 EP.n0 ?_;refine Cp (Dn:=g 1) EP.cx h.x1 Y M.e1 EP.n1 (Cp (Dn:=g 2) EP.cx h.x2 Y M.e2 EP.n2 ?_);refine Cp (Dn:=g 3) EP.cx h.x3 Y M.e3 EP.n3 (Pw (Dn:=S) (i:=1) scTold.nd Y Y EP.cx h.xm Y h.m EP.m (λe a T B c=>?_));refine λu s2 iY H2 D2 I2 I=>?_;obtain⟨fs,hd,bf,az⟩:=c.fld;refine(?hb2:fk (Cd (Bf cF P w b i m [jV,jY] jB (defScope A7) f l A n s H E0) e a T B) _ (SB (Lj (Ea b g) e a (AY (Ij 1) BS)))) u s2 iY H2 D2 I2 (_,I.1,Y,ab,j,fs,c.cls,hd,az,.inl c.dict,EP.ea,I.2);exact AC (AJ (M9 (e:=e) (oe:=a) X (a0 e) Y (by simp[Cd]) Y mW kW bW (AA (pv 1) AG)))
   .exact(by simp_all,kq)
  .have bm:=t.j4;refine(?hq:PH (Bf cF P w b i m [jV,jY] jB (defScope A7) f l A n s H E0) ab (U d) _ (λe=>Pv 1 (λD ag H=>ag[1]?=U (U (.ref e))/\H d=U (.xd [(MC j,(v))])/\∀p y,bD H y->y p=U (.tup [.str jE,.str (wd j),v])->D.rt (.ref p) y) e)) u s1 ag H1 D e a T B c aC ?_
   .have take:∀{x:Str}{an:Stmt}{np a4:Pos}{hs:List ExceptHandler}(G:jr),BA b G=gl->(hg:Gl (Bf cF P w b i m [jV,jY] jB (defScope A7) f l A n s H E0) x)->i x=U (.ref G)->(Ek b ab).contains (.ref G)=gl->fQ x ->
      (∀e a T B,Cgt ab (U d) e a T B->fk (Cd (Bf cF P w b i m [jV,jY] jB (defScope A7) f l A n s H E0) e a T B) [an] (SB (iH (Ph b) (Lj (Ea b g) e a (AY (Ij 1) BS)) (JF (AY (S7 e a (MC j) (Ij 1)) BS))))) ->
      PH (Bf cF P w b i m [jV,jY] jB (defScope A7) f l A n s H E0) ab (U d) (.ExceptHandler (U (.Name x np)) (U jY) [an] a4::hs) (λe=>Pv 1 (λD ag H=>ag[1]?=U (U (.ref e))/\H d=U (.xd [(MC j,(v))])/\∀p y,bD H y->y p=U (.tup [.str jE,.str (wd j),v])->D.rt (.ref p) y) e):=λ{x an np a4 hs}G hD hg hm hc be bc=>
     Pw (Dn:=G) (i:=1) scTold.nd rfl rfl t.cx hD hg hm hc (λe a T B c=>by
      refine λu s2 iY H2 D2 I2 I=>?_;obtain⟨fs,hd,bf,az⟩:=c.fld;obtain⟨g1,g2,g3⟩:=I;refine bc e a T B c u s2 iY H2 D2 I2 (_,g1,rfl,ab,j,fs,c.cls,hd,az,.inr (d,_,c.dict,g2),t.ea,λp y sp hp=>(_,g1,d,_,v,rfl,c.dict,sp _ _ g2,(by simp),sl1,λal hq=>?_));have sq:=AD (bD.refl y) hq (o:=.tup [v]);refine(p,al,_,_,rfl,rfl,cD.of (sq _ _ hp),cD.of bA,(by simp),(by show 2+1<=sizeLine;decide),(λz=>nomatch z),λ_ bl hr=>?_)
      exact g3 bl _ (sp.trans (AD sq hr)) bA) be
    have pX:∀e a T B,Cgt ab (U d) e a T B->ExcP (Cd (Bf cF P w b i m [jV,jY] jB (defScope A7) f l A n s H E0) e a T B) e a ab:=λe a T B c=>by
     obtain⟨fs,hd,_⟩:=c.fld;exact(by simp[Cd],c.cls,(fs,hd))
    have R:∀{fl:Str}{p1 p2 p3 p4 p5 p6 p7:Pos}{kt:Nat},MC j=fl->∀e a T B,Cgt ab (U d) e a T B->fk (Cd (Bf cF P w b i m [jV,jY] jB (defScope A7) f l A n s H E0) e a T B) [.Return (U (.BinOp (.Call (.Name kJ p1) [.Name jY p2] [] p3) .Add (.Tuple [.Attribute (.Name jY p4) fl p5] kt p6) p7)) p7] (SB (iH (Ph b) (Lj (Ea b g) e a (AY (Ij 1) BS)) (JF (AY (S7 e a (MC j) (Ij 1)) BS)))):=λbg e a T B c=>by
     subst bg;exact AC (AJ (AX (UB b Y) (M9 (e:=e) (oe:=a) X (a0 e) Y (by simp[Cd]) Y mW kW bW (AA (pv 1) AG)) (Ab (AA (VM (pX e a T B c) t.g (pv 1) Y) AG))))
    rcases (show j=0\/j=1\/j=2\/j=3 by lia)with z|z|z|z
    .subst z;exact take (g 0) h.x0 Y M.e0 t.m qc (R Y)
    .subst z;exact Cp (Dn:=g 0) t.cx h.x0 Y M.e0 (t.no 0 qc) (take (g 1) h.x1 Y M.e1 t.m qc (R Y))
    .subst z;refine Cp (Dn:=g 0) t.cx h.x0 Y M.e0 (t.no 0 qc) (Cp (Dn:=g 1) t.cx h.x1 Y M.e1 (t.no 1 qc) ?_);exact take (g 2) h.x2 Y M.e2 t.m qc (R Y)
    .subst z;refine Cp (Dn:=g 0) t.cx h.x0 Y M.e0 (t.no 0 qc) ?_;refine Cp (Dn:=g 1) t.cx h.x1 Y M.e1 (t.no 1 qc) (Cp (Dn:=g 2) t.cx h.x2 Y M.e2 (t.no 2 qc) ?_);exact take (g 3) h.x3 Y M.e3 t.m qc (R Y)
   .exact(by simp_all,bk,kq)
 .refine(Y,h1,I,?_)
  have e:VE (Bf cF P w b i m [jV,jY] jB (defScope A7) f l A n s H E0).N.length (UA b g S) {nx:=λ_ y=>Q .bQ y,rt:=Q}=Ei b g S Q:=by
   funext Cv dx H2;unfold VE Ei UA;simp[Bf]
  rw[←e]at aR;exact aR
end Mk
namespace L2
open PySem PySem.Spec PyProof.Rows
noncomputable def Rv(a:List Nat)(b:St):St:=a.map λj=>(b[j]?).getD J
structure LamN(X:Cx)(Nl:jm)(ix:List Nat)(scope:Scope)(d5:List (Str×jr)):Prop where
 len:ix.length=Nl.length
 nm:∀(i:Nat)x,Nl[i]?=U x->∃j,ix[i]?=U j/\X.N[j]?=U x/\X.env.scope.names.lookup x=U .cell/\scope.names.lookup x=U .free
 cl:∀x c,d5.lookup x=U c->X.env.cells.lookup x=U c
 has:∀x,(scope.names.lookup x=U .cell\/scope.names.lookup x=U .free)->∃c,d5.lookup x=U c
 fr:∀x c,d5.lookup x=U c->X.fn x=L\/c∉ dj X.stack
def LamN.cells(b:LamN X g w G n)(I:Inv X M f H s):JV g G n (Rv w f) H s.heap:=by
 refine(λx y c a d=>I.ok.inj x y c (b.cl x c a) (b.cl y c d),b.has,λx c h=>(I.cell x c (b.cl x c h),I.dG x c (b.cl x c h)),λi x v a d=>?_,?_)
 .obtain⟨j,F,D,q,A⟩:=b.nm i x a;refine(A,?_);unfold Rv at d
  have E:f[j]?=U (U v):=by
   cases e:f[j]? with
   |none=>simp_all
   |some o=>simp_all
  obtain⟨m,_,B⟩:=I.loc;obtain⟨u,r,l⟩:=B j x v D E (.inr (.inl q));rcases l with⟨l,_⟩|⟨_,c,e,z⟩
  .rw[show X.env.kindOf x=X.env.scope.names.lookup x from rfl,q]at l;cases l
  .obtain⟨C,t⟩:=b.has x (.inr A);have p:=b.cl x C t;rw[e]at p;cases p;exact(u,c,r,t,z)
 .unfold Rv;rw[AO];exact b.len
def LamN.fv(b:LamN X g j l f)(I:Inv X i m H s):∀x c,f.lookup x=U c->c∉ dj X.stack:=λx c h z=>by
 have d:=b.cl x c h;rcases b.fr x c h with a|a
 .rcases mem_cons.mp (I.eV c z)with z|z
  .exact I.iD x c d z
  .obtain⟨_,o,e,_⟩:=I.ok.d7.mem z;exact absurd (zZ (lt_size e) (I.ok.ik x c a d)) (zE _)
 .exact a z
end L2
namespace Mk
open PySem L2 MK
def Nt(h:FG)(e:Nat->jr)(d a:jr)(c:Str)(b:List Pos)(f:List Nat)(g:XK->TE):TE:=λj H Q=>cU H a c b/\∀i,Ky a H i->cU i a c b->g (Ei h e d Q) (Rv f j) i Q
def Vx(F:cC X.K jB jB A7 f fd)(M:Ru X.mg l)(w:T9 X.K X.mg l cM)(x:FnS X.prog X.w X.K X.mg X.base kJ 1 [jY] (Ea X.K l))
  (hr:bJ (k+2) X.A) (hg:Gl X jB) (hm:X.mg jB=U (.ref f)) (S:W.keepIn X.K (.ref f)=gl) (hB:Binds X.K fd [jV] [])

  (P:XJ X a3 h) (ab:a∈m) (R:∀q∈m,q=a\/(q.line==a.line&&q.col==a.col)=O) (T:closureFor b X.env=pure e) (D:defaultsOf g X.env=([],([]))) (p:LamN X Q ix b e)
  (az:∀pm j d,bindArgs (W.kla_fn jy (X.env.qual ++ jy) g c b e pm (.ref j) d) ([],[])=pure [])
  (an:b.isCoroutine=O) (a0:b.isGenerator=O) (hk:b.kind=.function) (aM:∀aR∈b.names,aR.2≠ .cell)
  (C:∀i j n as N o E,bJ k (n.deeper (W.envX (X.env.qual ++ jy) b N.heap.objs.size i (.ref j) e))->PE (Gw X.prog X.w X.K X.mg X.base Q (X.env.qual ++ jy) b i (.ref j) e n as N o E) c (tl E))
  (s:starEach [.Lambda g c b a] X.env=(O,(eval (.Lambda g c b a) X.env))::starEach [] X.env:=by rfl) (z:(backTo t (starEach [] X.env)).any (·.1)=O:=by rfl):
  PE X (.Call (.Name jB a5) [.Lambda g c b a] [] t) (Nt X.K l cM h (X.env.qual ++ jy) m ix tl):=by
 intro B aC a1 H a2 I ⟨hT,ar⟩;refine z0 (CA I hg hm (W.callWith_K I.ok.mod.kin S (cA ((AA (XM P ab R T D) AG s) t B aC a1 H (λvs v=>∃i j d,vs=[.ref i]/\Ky h H v/\cU v h (X.env.qual ++ jy) m/\v i=U (iV i (W.kla_obj jy (X.env.qual ++ jy) g c b e ((X.mg j8).getD .none) j d))/\v j=U (Gv j (X.env.qual ++ jy))) I (hT,λi j d o _ ag ht G al=>(i,j,d,rfl,ag,ht,G,al))) λus s1 ⟨vs,v,y,r,i,j,d,ev,ag,ht,G,al⟩=>(y.dZ,?_)) s z) qc);subst ev;obtain⟨u,eu,ru⟩:=Bc r;subst eu;obtain rfl:u=Value.ref i:=ru;refine wpAny_call (codeAny_mono (Vw F M w x hr y.gp (hB s1 [.ref i] y.dZ rfl) (p.cells y) (p.fv y) G al (az _ _ _) an a0 hk aM (C i j) (ar v ag ht)) λr N A=>?_);cases r with
 |error a4=>exact False.elim A
 |ok fl=>
  cases fl with
  |ret u=>exact y.after A
  |next=>exact False.elim A
  |brk=>exact False.elim A
  |cont=>exact False.elim A
structure Xl(P:Program)(w:World)(K:FG)(mg:SV)(base:Heap)(cM:jr):Prop where
 cls:mg "MarkError"=U (.ref cM)
 ga:W.specialIn K (.ref cM) kQ=U (U (.builtin lW))
 rd:W.readsIn K cM (.type oG)=L
 fn:∃f fd,W.findCls K (.ref cM) (.type oG) jF=U (.val (.ref f))/\bH P w K mg base cF 1 f fd [jt,nV] (spErrInit K)/\W.keepIn K (.ref f)=L/\Binds K fd [jt,nV] []
inductive spRestInit(a:FG)(b:jr)(c:jq)(H:Hp)(Q:VK)(f:XK):Prop
 |mk e C n(h:c=[.ref e,.int n])(i:n.natAbs.log2<1920)(j:BA a C=L)(g:H e=U (Fe e C J))(l:NB a C b kH)(m:∀d,H d=J->d≠e->Q .bQ (upd (upd H e (Fe e C (U d))) d (.xd [(kH,(.int n))])))
def PD:AH [jt,kH] [jt,kH] (defScope EE):=cY
def Nu(F:cC b jF "BadRest.__init__" EE f m)(a:Xl P w b B g c):bH P w b B g cF 2 f m [jt,kH] (spRestInit b c):=by
 obtain⟨v,x,u,j,r,o⟩:=a.fn;refine F.m PD λy H Q E h=>?_;obtain⟨e,C,n,rfl,p,l,i,S,k⟩:=h;refine(Y,λt A d s q=>?_);refine(_,AB (AV (JX Y a.cls a.ga a.rd u j q r o .nil Af (AA (Z 0) (AA (Py (by trivial) (Z 1)) AG)))) (AC (Px (M:=c) (Z 0) (Z 1) Y)),(_,Y,_,Y,.inl (n,Y,p),λz=>(e,C,J,z,Y,l,i,?_)));exact(_,Y,_,Y,e,C,Y,i,S,k)
def jg(H:Hp)(E:XK)(a:jr)(n:Int):Prop:=∀e d b,bD H b->H e=J->H d=J->d≠e->b e=U (Fw e a (U d))->b d=U (.xd [(kH,(.int n))])->E (.ref a) (U d) b
structure PF(P:Program)(w:World)(K:FG)(mg:SV)(base:Heap)(cM cR:jr):Prop where
 cls:mg kK=U (.ref cR)
 make:∃f fd,MkX K cR f/\bH P w K mg base cF 2 f fd [jt,kH] (spRestInit K cM)/\Binds K fd [jt,kH] []
 st:NB K cR cM kH
def LG{n}(r:BA g f=L)(S:NB g f m kH)(t:n.natAbs.log2<1920)(l:bD H c)(h:jg H E f n)(ht:te σ c=λQ=>Q (.int n) c):
  Hn f (Hm f (spRestInit g m) [] E0 (AY te BS)) E D σ c:=by
 show te σ c _;rw[ht];refine((by simp_all),λa p=>(a,f,n,Y,t,r,bA,S,λd q i=>(Y,a,U d,Y,?_,?_)))
 .rw[AE (Ne.symm i),bA]
 .have j:c d=J:=by rwa[AE i]at q
  refine h a d _ (λb u e=>?_) (none_of l p) (none_of l j) i bA ?_
  .have o:=l _ _ e;have nb:=AK o p
   rwa[AE nb,AE (AK o j),AE nb,AE nb]
  .rw[AE i,bA]
noncomputable def plain(i:Int):Nat:=if 0<=i then i.toNat else (-i-1).toNat
def AW(a:Aa)(i:Int):Nat:=plain i-(plain i&&&kn a)
def IN(i):(plain i)=if 0<=i then i else -i-1:=by
 unfold plain
 grind
def UC{i}(a:-1099511627776<=i)(d:i<1099511627776):plain i<2^40:=by
 unfold plain;split<;>lia
def IP{n:Nat}(h:n<2^40):((n:Int)).natAbs.log2<1920:=by
 rw[Int.natAbs_natCast];rcases Nat.eq_zero_or_pos n with z|z
 .simp_all
 .have:=(Nat.log2_lt (by lia)).mpr h
  lia
inductive spMade(C a b:jr)(c:jq)(H:Hp)(Q:VK)(E:XK):Prop
 |mk kp bG r i(f:c=[.ref kp,.int i])(g:cE C H kp bG r)(h:kn bG<2^20)(e:0<=i)(j:i<1099511627776)(l:((AW bG i≠0/\r=mx /\ jg H E b (AW bG i)) \/    (¬ (AW bG i≠0/\r=mx)/\AW bG i≠0/\r=mm /\ ∀d,bD H d->Q (.int i) d) \/    (¬ (AW bG i≠0/\r=mx)/\¬ (AW bG i≠0/\r=mm)/\∀q d,bD H d->dr a d q kp (if r=lp then plain i else plain i-AW bG i)->Q (.ref q) d)))
def scMade:AH [jJ,jC,kH,lR] [jJ,jC] (defScope P5):=cY
def Vy(F:cC a "made" "made" P5 ab fd)(hL:b "LIMIT"=U (.int 1099511627776 tL))(T:Gh a C)(VO:Ih P w a b c C d)(f:PF P w a b c cM cR)
  (GW:Fn P w a b c lJ 1 [jz] spIsWhole) (GR:Fn P w a b c nI 3 [jJ,jC] (spRestOf C)) (a0:Mt P w a b c C lR 1 [jt] (spRest C)):
  bH P w a b c (d6 P w) 6 ab fd [jJ,jC] (spMade C d cR):=by
 obtain⟨fE,dE,GE,mE,S⟩:=a0.ex;obtain⟨fI,dI,MI,GI,bI⟩:=VO.make;obtain⟨fX,dX,Q,GX,bX⟩:=f.make;have mV:=VO.cls;have mB:=f.cls;refine F.n scMade λvs H a1 an h=>?_;obtain⟨kp,g,r,i,rfl,N,a5,az,ig,h⟩:=h;refine(Y,λbf al aM aR hr=>?_);have D:bJ 1 _:=hr.mono qc;have aC:bJ 3 _:=hr.mono qc;have rz:=FX (P:=P) (w:=w) (ω:=a) (mg:=b) (base:=c) (N:=[jJ,jC,kH,lR]) (qual:="made") (scope:=defScope P5) (f:=ab) (cd:=bf) (A:=al) (outer:=aM) (s:=aR) (H:=H) (E:=an);obtain⟨A,d1,d2,bi⟩:=N.ins
 refine(_,AB (AU (PW.pt (DH (Ar (Ak (dm GW D (AA (Z 1) AG)))) (By (Ar (Er Eo Ff (DW Dc (BM (v:=.int 1099511627776) Y hL (tL,Y))) (Z 1) (BM (v:=.int 1099511627776) Y hL (tL,Y))))))) (AC Ag) AM)
  (An (A5 2 scMade.nd (BX (AL Mc (Z 1) AF (AN _)) (Z 1) (AX CZ (DW Dc (Z 1)) AF)))
  (AB (A5 3 scMade.nd (dm GR aC (AA (Z 0) (AA (Z 2) AG))))
  (An (AU (PW.pt (CV (AL Ed (Z 3) AF (AN _)) (Bj (AL Ao (BY (Z 0) T.cl mE GE D S .nil Af) AI (AN _))))) (AC (CI rz rfl Q.cls (CH Q GX aC rfl mB bX .nil Af (AA (Z 3) AG)))) AM)
  (AB (AU (AL Ff (Z 1) AF (AN _)) (AC Ag) AM)
  (An (AU (PW.pt (CV (AL Ed (Z 3) AF (AN _)) (Bj (AL Ao (BY (Z 0) T.cl mE GE D S .nil Af) AI (AN _))))) (AC (AJ (Z 1))) AM)
  (AC (AJ (LX MI GI hr rfl mV bI .nil Af (AA (Z 0) (AA (BX (AL Ao (BY (Z 0) T.cl mE GE D S .nil Af) AI (AN _)) (Z 2) (AX CZ (Z 2) (Z 3))) AG)))))))))),?_)
 have E:(Nf d1 d2 r).lookup (lR:Str)=J:=(Cq _ _ _);refine(_,Y,i,Y,_,Y,?_);refine AS (_,Y,_,Y,_,_,Y,Y,_,Y,?_);rw[zK (by lia)];apply AZ;refine(_,_,Y,Y,_,Y,?_);rw[zK (ig)];apply AS;refine(λo G=>o=[U (.ref kp),U (.int i),U (.int (plain i)),J]/\G=H,λR m=>?_,?_)
 .refine(_,Y,_,_,Y,Y,_,Y,?_);have e:=IN i;rw[zg az]at e;rw[zK (az)];refine AZ (_,Y,m _ _ (?_,Y));rw[e];rfl
 rintro o H0 ⟨rfl,rfl⟩;refine(_,Y,_,Y,kp,g,r,plain i,Y,N,λG x=>?_);have as:=UC (by lia) ig;have s:=N.same x;have y:=x _ _ bi;have eS:∀n:Nat,decide (V.int (n:Int)=V.int 0)=decide (n=0):=λn=>decide_eq_decide.mpr (λz=>by simp_all,λz=>by rw[z];rfl);refine(λo I=>¬ (AW g i≠0/\r=mx)/\o=[U (.ref kp),U (.int i),U (.int (plain i)),U (.int (AW g i))]/\I=G,λR m=>?_,?_)
 .refine(_,Y,Y,_,Y,?_);show if (!decide (V.int ((AW g i:Nat))=V.int 0))=gl then _ else _
  rw[eS];by_cases j:AW g i=0
  .rw[zK j];exact AS (AS (m _ _ (λz=>z.1 j,Y,Y)))
  .rw[zN j];apply AZ;refine(_,Y,kp,A,_,Y,y,E,kp,g,r,Y,s,Y,_,Y,?_);by_cases t:r=mx
   .rw[zK (by rw[t])];refine AZ ?_;rcases h with⟨_,_,hU⟩|⟨u,_⟩|⟨u,_⟩
    .exact LG Q.cls f.st (IP (Nat.lt_of_le_of_lt (Nat.sub_le _ _) as)) x hU (by funext Q';exact propext (λ zz=>by obtain⟨v,e,q⟩:=zz;cases e;exact q,λq=>(_,Y,q)))
    .exact absurd (j,t) u
    .exact absurd (j,t) u
   .rw[zN (λz=>t (V.str.inj z))];exact AS (m _ _ (λz=>t z.2,Y,Y))
 rintro o I ⟨a2,rfl,rfl⟩;refine(_,rfl,_,_,rfl,rfl,_,rfl,?_);rcases h with⟨z1,z2,_⟩|⟨_,hs0,hlv,k⟩|⟨_,hnl,k⟩
 .exact absurd (z1,z2) a2
 .rw[zN (by lia)];apply AS;refine(λ_ _=>False,λR m=>(_,Y,Y,_,Y,?_),λ_ _ z=>z.elim);rw[eS,zN hs0];apply AZ;refine(_,Y,kp,A,_,Y,y,E,kp,g,r,Y,s,Y,_,Y,?_);rw[zK (by rw[hlv])];exact AZ (_,Y,k _ x)
 .rw[zN (by lia)];apply AS;refine(λo p=>o=[U (.ref kp),U (.int i),U (.int (plain i)),U (.int (AW g i))]/\p=I,λR m=>?_,?_)
  .refine(_,Y,Y,_,Y,?_);rw[eS];by_cases j:AW g i=0
   .rw[zK j];exact AS (AS (m _ _ (Y,Y)))
   .rw[zN j];refine AZ (_,Y,kp,A,_,Y,y,E,kp,g,r,Y,s,Y,_,Y,?_);rw[zN (λz=>hnl (j,V.str.inj z))];exact AS (m _ _ (Y,Y))
  rintro o p ⟨rfl,rfl⟩;refine(_,Y,_,Y,kp,A,_,Y,y,E,kp,g,r,Y,s,Y,_,Y,?_)
  have ar:∀n:Nat,n=(if r=lp then plain i else plain i-AW g i)->n<2^40->(r=lp \/ n-(n&&&kn g)=0)->∀q l,p q=J->p l=J->l≠q->spVInit C d [.ref q,.ref kp,.int (n:Int)] (upd (upd p l (.own q)) q (.ins d l [])) (λv M=>v=.bQ/\a1 (.ref q) M) E0:=λn en u hk q l B ag X=>by
   have sN:=FN (D:=d) B ag X;exact(q,l,kp,g,r,n,Y,bA,s.same sN,u,hk,λM s4 hV=>(Y,k q M (x.trans (Fb sN B s4)) (en ▸ hV)))
  by_cases cu:r=lp
  .rw[zK (by rw[cu])];exact AZ (_,Y,ar (plain i) (by simp_all) as (.inl cu))
  .rw[zN (λz=>cu (V.str.inj z))];refine AS (_,Y,_,Y,_,_,Y,Y,?_);have a6:AW g i<=plain i:=Nat.sub_le _ _;have es:((plain i):Int)-((AW g i:Nat))=((plain i-AW g i:Nat)):=by lia
   have ek:plain i-AW g i=plain i&&&kn g:=by
    unfold AW;have:=Nat.and_le_left (n:=plain i) (m:=kn g)
    lia
   intro q l B ag X;have:=ar (plain i-AW g i) (by simp_all) (by lia) (.inr (by grind)) q l B ag X
   rwa[←es]at this
def BV{x y x' y'}(h:H d=U (.lst [.int x,.int y])):cz d H (upd H d (.lst [.int x',.int y'])):=(λb o e a=>by rw[AE a];exact e,(x',y',bA))
inductive spLMade(a:jq)(H:Hp)(Q:VK)(b:XK):Prop
 |mk t e m bG r i(d:a=[.ref t,.str r,.int i])(f:H t=U (.dK (Tz bG e m)))(g:0<=i)(c:((AW bG i≠0/\r=mx /\ ∀p,H p=J->Q (.ref p) (upd H p (.tup [.str jE,.str kK,.int (AW bG i)]))) \/    (¬ (AW bG i≠0/\r=mx)/\AW bG i≠0/\r=mm /\ ∀p,H p=J->Q (.ref p) (upd H p (.tup [.str "left",.int i]))) \/    (¬ (AW bG i≠0/\r=mx)/\¬ (AW bG i≠0/\r=mm)/\Q (.int ((if r=lp then plain i else plain i-AW bG i:Nat):Int)) H)))
def scLMade:AH [jS,kG,jM,"_law_plain","_law_strange"] [jS,kG,jM] (defScope Jn):=cY
def UD(F:cC c ot ot Jn f b):bH P ar c mg al cF 1 f b [jS,kG,jM] spLMade:=by
 refine F.m scLMade λvs H Q E h=>?_;obtain⟨t,e,m,a,r,i,rfl,ht,u,h⟩:=h;refine(zd,λag A G an ab=>?_);have M:=Bs ab
 refine(_,An (A5 3 scLMade.nd (BX (AL Mc (Z 2) AF (AN _)) (Z 2) (AX CZ (AX CZ AF (Z 2)) AF)))
  (AB (A5 4 scLMade.nd (AX CZ (Z 3) (AX Ca (Z 3) (Au M (Z 0) AI (λ_ _=>rfl)))))
  (An (AU (PW.pt (CV (AL IW (Z 4) AF (AN _)) (Bj (AL Ao (Z 1) AI (AN _))))) (AC (AJ (Ab (AA AI (AA AI (AA (Z 4) AG)))))) AM)
  (AB (AU (AL Ff (Z 2) AF (AN _)) (AC Ag) AM)
  (An (AU (PW.pt (CV (AL IW (Z 4) AF (AN _)) (Bj (AL Ao (Z 1) AI (AN _))))) (AC (AJ (Ab (AA AI (AA (Z 2) AG))))) AM)
  (AC (AJ (BX (AL Ao (Z 1) AI (AN _)) (Z 2) (AX Ca (Z 2) (Au M (Z 0) AI (λ_ _=>rfl)))))))))),?_)
 refine(λq N=>q=[U (.ref t),U (.str r),U (.int i),U (.int (plain i)),J]/\N=H,λR p=>?_,?_)
 .refine(_,zd,_,_,zd,zd,_,zd,?_);have e:=IN i;rw[zg u]at e;rw[zK (u)];refine AZ (_,zd,p _ _ (?_,zd));rw[e];rfl
 rintro q X ⟨rfl,rfl⟩;refine(_,zd,_,zd,_,zd,t,_,zd,.inl (_,Sum.inr kY,.inl ht,zd,(Ck _ _ _).symm),_,_,zd,zd,_,_,zd,zd,?_)
 have g:(λi j=>V.int (i-j)) ((plain i:Nat)) (Builtin.bitAnd ((plain i:Nat)) ((Ah (a.map (·.2)):Nat)))=V.int ((AW a i:Nat)):=by
  show V.int (((plain i:Nat))-Builtin.bitAnd ((plain i:Nat)) ((Ah (a.map (·.2)):Nat)))=_;have:=Nat.and_le_left (n:=plain i) (m:=kn a);unfold AW;congr 1;show(plain i:Int)-((plain i&&&kn a:Nat))=_
  lia
 have y:∀n:Nat,decide (0<(n:Int))=!decide (n=0):=λn=>by
  lia
 refine(λq B=>¬ (AW a i≠0/\r=mx)/\q=[U (.ref t),U (.str r),U (.int i),U (.int (plain i)),U (.int (AW a i))]/\B=X,λR p=>?_,?_)
 .refine(_,congrArg (λz=>U (U z)) g,_,_,zd,zd,_,zd,?_);rw[y];by_cases o:AW a i=0
  .rw[zK o];refine AS (AS (p _ _ (λz=>z.1 o,?_,zd)))
   simp_all
  .rw[zN o];apply AZ;refine(_,zd,zd,_,zd,?_);by_cases l:r=mx
   .rw[zK (by rw[l])];apply AZ;rcases h with⟨_,_,k⟩|⟨x,_⟩|⟨x,_⟩
    .exact(_,congrArg (λz=>U (U z)) g,iu,k)
    .exact absurd (o,l) x
    .exact absurd (o,l) x
   .rw[zN (λz=>l (V.str.inj z))];refine AS (p _ _ (λz=>l z.2,?_,zd))
    simp_all
 rintro q B ⟨v,rfl,rfl⟩;refine(_,rfl,_,_,rfl,rfl,_,rfl,?_);rcases h with⟨Y,T,_⟩|⟨_,I,C,k⟩|⟨_,D,k⟩
 .exact absurd (Y,T) v
 .rw[zN (by lia)];apply AS;refine(λ_ _=>False,λR p=>(_,zd,_,_,zd,zd,_,zd,?_),λ_ _ z=>z.elim);rw[y,zN I];apply AZ;refine(_,zd,zd,_,zd,?_);rw[zK (by rw[C])];exact AZ (_,zd,fb,k)
 .rw[zN (by lia)];apply AS;refine(λq s=>q=[U (.ref t),U (.str r),U (.int i),U (.int (plain i)),U (.int (AW a i))]/\s=B,λR p=>?_,?_)
  .refine(_,zd,_,_,zd,zd,_,zd,?_);rw[y];by_cases o:AW a i=0
   .rw[zK o];exact AS (AS (p _ _ (zd,zd)))
   .rw[zN o];apply AZ;refine(_,zd,zd,_,zd,?_);rw[zN (λz=>D (o,V.str.inj z))];exact AS (p _ _ (zd,zd))
  rintro q s ⟨rfl,rfl⟩;have ep:=IN i;rw[zg u]at ep;refine(_,zd,zd,_,zd,?_);by_cases d:r=lp
  .rw[zK (by rw[d])];rw[zg d,ep]at k;exact AZ (_,zd,k)
  .rw[zN (λz=>d (V.str.inj z))];refine AS (_,zd,_,zd,t,_,zd,.inl (_,Sum.inr kY,.inl ht,zd,(Ck _ _ _).symm),_,_,zd,zd,?_)
   have S:(λi j=>V.int (Builtin.bitAnd i j)) i ((Ah (a.map (·.2)):Nat))=V.int ((plain i-AW a i:Nat)):=by
    show V.int (Builtin.bitAnd i ((Ah (a.map (·.2)):Nat)))=_;have w:Builtin.bitAnd i ((Ah (a.map (·.2)):Nat))=Builtin.bitAnd ((plain i:Nat)) ((Ah (a.map (·.2)):Nat)):=by rw[ep]
    rw[w];have:=Nat.and_le_left (n:=plain i) (m:=kn a);unfold AW;congr 1;show((plain i&&&kn a):Int)=_
    lia
   rwa[zh d,←S]at k
def AtV(v:V):Prop:=v=.bQ\/∃n,v=.int n/\n.natAbs.log2<1920
def fy(b:FG)(T:String)(H:Hp)(v:V):Prop:=(∃t,(∀H,eh b H v t)/\W.kitOne b t (.type T)=U O)\/(∃a c,v=.ref a/\H a=U (.tup c)/\W.kitOne b (.type jN) (.type T)=U O) \/
 ∃a c,v=.ref a/\H a=U (.lst c)/\(∀x y,c≠ [.int x,.int y])/\W.kitOne b (.type jH) (.type T)=U O
def fy.ty(h:fy b T H v):∃t,eh b H v t/\W.kitOne b t (.type T)=U O:=by
 rcases h with⟨t,h,k⟩|⟨a,d,rfl,h,k⟩|⟨a,d,rfl,h,_,k⟩
 .grind
 .exact(_,.tup h,k)
 .exact(_,.lst h,k)
def fy.same{T}(s:bD H b)(h:fy c T H v):fy c T b v:=by
 rcases h with h|⟨a,d,e,h,k⟩|⟨a,d,e,h,n,k⟩
 .exact .inl h
 .exact .inr (.inl (a,d,e,s _ _ h,k))
 .exact .inr (.inr (a,d,e,s _ _ h,n,k))
def UE(h:W.kitOne a (.type "NoneType") (.type T)=U O):fy a T H .bQ:=.inl (_,λ_=>.bQ,h)
def UF(h:W.kitOne a (.type oa) (.type T)=U O):fy a T H (.int i):=.inl (_,λ_=>.int i,h)
inductive spTextInit(a:FG)(b:jr)(c:jq)(H:Hp)(Q:VK)(f:XK):Prop
 |mk e C v(h:c=[.ref e,v])(i:AtV v)(j:BA a C=L)(g:H e=U (Fe e C J))(l:NB a C b "at")(m:∀d,H d=J->d≠e->Q .bQ (upd (upd H e (Fe e C (U d))) d (.xd [("at",(v))])))
def PJ:AH [jt,"at"] [jt,"at"] (defScope EG):=cY
def Nw(F:cC b jF "BadText.__init__" EG f m)(a:Xl P w b n g c):bH P w b n g cF 2 f m [jt,"at"] (spTextInit b c):=by
 obtain⟨x,y,u,j,r,o⟩:=a.fn;refine F.m PJ λB H Q E h=>?_;obtain⟨e,C,v,rfl,p,l,i,S,k⟩:=h;refine(Y,λt A d s q=>?_);refine(_,AB (AV (JX Y a.cls a.ga a.rd u j q r o .nil Af (AA (Z 0) (AA (Py (by trivial) (Z 1)) AG)))) (AC (Px (M:=c) (Z 0) (Z 1) Y)),(_,Y,_,Y,p.elim (λz=>.inr (.inr z)) .inl,λz=>(e,C,J,z,Y,l,i,?_)));exact(_,Y,_,Y,e,C,Y,i,S,k)
def g6(H:Hp)(E:XK)(a:jr)(v:V):Prop:=∀e d b,bD H b->H e=J->H d=J->d≠e->b e=U (Fw e a (U d))->b d=U (.xd [("at",(v))])->E (.ref a) (U d) b
def g6.of(s:bD H b)(h:g6 H E c v):g6 b E c v:=λe d j l q i a o p=>h e d j (s.trans l) (none_of s q) (none_of s i) a o p
structure QI(P:Program)(w:World)(K:FG)(mg:SV)(base:Heap)(cM cR:jr):Prop where
 cls:mg kz=U (.ref cR)
 make:∃f fd,MkX K cR f/\bH P w K mg base cF 2 f fd [jt,"at"] (spTextInit K cM)/\Binds K fd [jt,"at"] []
 st:NB K cR cM "at"
def IQ(r:BA g c=L)(S:NB g c m "at")(t:AtV v)(l:bD H f)(h:g6 H E c v)(ht:∀Q,Q v f->te n f Q):
  Hn c (Hm c (spTextInit g m) [] E0 (AY te BS)) E D n f:=by
 apply ht _;refine((by simp_all),λa p=>(a,c,v,Y,t,r,bA,S,λd q i=>(Y,a,U d,Y,?_,?_)))
 .rw[AE (Ne.symm i),bA]
 .have j:f d=J:=by rwa[AE i]at q
  refine h a d _ (λb u e=>?_) (none_of l p) (none_of l j) i bA ?_
  .have o:=l _ _ e;have nb:=AK o p
   rwa[AE nb,AE (AK o j),AE nb,AE nb]
  .rw[AE i,bA]
def Yk(a:FG)(H:Hp)(v:V):Prop:=v=.bl L\/fy a oa H v
def HJ(a:FG):Sp:=λb H Q _=>(∃i,b=[.int i]/\Q (.bl L) H)\/∃v,b=[v]/\Yk a H v/\Q (.bl O) H
def IR(F:cC b lJ lJ G6 f c)(B:Bl g):bH P w b g m cF 1 f c [jz] (HJ b):=by
 refine F.ok RZ (λj H Q E h=>?_) (λl A a s H j Q E o h=>?_)
 .rcases h with⟨i,rfl,_⟩|⟨v,rfl,_⟩<;>rfl
 .refine(_,AC (AJ (CB (Bn b rfl rfl B.fj rfl B.int II (Z 0)) (CW (R8 (Bn b rfl rfl B.fj rfl B.bool Vc (Z 0)))))),?_);rcases h with⟨n,rfl,k⟩|⟨v,rfl,d,k⟩
  .exact(_,Y,_,_,_,L,Y,.int n,Y,_,Y,(_,Y,_,_,_,O,Y,.int n,(by rfl),_,Y,k))
  .rcases d with rfl|d
   .exact(_,Y,_,_,_,L,Y,.bl L,(by rfl),_,Y,(_,Y,_,_,_,L,Y,.bl L,Y,_,Y,k))
   .obtain⟨t,ht,e⟩:=d.ty;exact(_,Y,_,_,_,O,Y,ht,e,_,Y,AS k)
noncomputable def okN(i:Int):Bool:=decide (0<=i)&&decide (i<1099511627776)
def PL(a:FG):Sp:=λb H Q _=>(∃i,b=[.int i]/\Q (.bl (okN i)) H)\/∃v,b=[v]/\Yk a H v/\Q (.bl O) H
def QJ(F:cC a lL lL FY f e)(g:b "LIMIT"=U (.int 1099511627776 j))(c:Fn P w a b d lJ 1 [jz] (HJ a)):bH P w a b d cF 2 f e [jz] (PL a):=by
 refine F.ok O9 (λn H Q E h=>?_) (λo A p s H n Q E m h=>?_)
 .rcases h with⟨i,rfl,_⟩|⟨v,rfl,_⟩<;>rfl
 .refine(_,AC (AJ (CB (dm c m (AA (Z 0) AG)) (CW (Ep Eo Ff AF (Z 0) (BM (v:=.int 1099511627776) rfl g (j,rfl)))))),?_);rcases h with⟨i,rfl,k⟩|⟨v,rfl,hv,k⟩
  .refine(_,Y,.inl (i,Y,_,Y,AZ (_,Y,_,_,Y,Y,_,Y,?_)));unfold okN at k;by_cases l:0<=i
   .rw[zK l]at k ⊢;exact AZ (_,_,Y,Y,k)
   .rw[zN l]at k ⊢;exact AS k
  .exact(_,Y,.inr (v,Y,hv,_,Y,AS k))
def Ny(F:cC d lJ lJ G6 f b)(B:Bl c):bH P w d c g cF 1 f b [jz] spIsWhole:=Tn (IR F B) λa H Q E h=>by obtain⟨i,e,q⟩:=h;exact .inl (i,e,q)
def MD(F:cC b lL lL FY f m)(a:c "LIMIT"=U (.int 1099511627776 i))(d:Fn P w b c g lJ 1 [jz] (HJ b)):bH P w b c g cF 2 f m [jz] spIsNumber:=Tn (QJ F a d) λl H Q E h=>by
 obtain⟨n,e,j,q⟩:=h;refine .inl (n,e,?_);unfold okN
 rwa[zK (show(0:Int)<=(n:Int) by simp_all),zK (show(n:Int)<1099511627776 by lia)]
end Mk
namespace Mk
open PySem L2 MK PySem.NumText
noncomputable def C9(c:Nat):Bool:=decide (48<=c)&&decide (c<=57)
noncomputable def Cm(c:Nat):Bool:=decide (97<=c)&&decide (c<=122)
def IS(lo a)(x y:Str)(d:x.cps.toList=[lo])(j:y.cps.toList=[a])(c):(if (!decide ((⟨#[c]⟩:Str).cps.toList<x.cps.toList))=L then (!decide (y.cps.toList<(⟨#[c]⟩:Str).cps.toList))else O)=(decide (lo<=c)&&decide (c<=a)):=by
 rw[d,j]
 have h:decide ([c]<[lo])=decide (c<lo):=by
  rw[Bool.eq_iff_iff,decide_eq_true_eq,cons_lt_cons_iff];simp
 have e:decide ([a]<[c])=decide (a<c):=by
  rw[Bool.eq_iff_iff,decide_eq_true_eq,cons_lt_cons_iff];simp
 rw[h,e];by_cases l:c<lo<;>by_cases i:a<c<;>simp[i]<;>simp_all
def MF(x:Str):Bool:=x.cps.toList.all C9&&(decide (x="0")||(!decide (x.cps.toList.head?=U 48)&&decide (digitsVal x.cps.toList<1099511627776)))
def BD(x:Str):Bool:=match x.cps.toList with| [c]=>Cm c|_=>O
inductive spFig(a:jq)(H:Hp)(Q:VK)(b:XK):Prop
 |mk x(e:a=[.str x])(f:x.cps.all (· < 128)=L)(g:0<x.length)(d:x.length<=200)(h:∀c,bD H c->Q (.bl (MF x)) c)
def Yl:AH [ku] [ku] (defScope GO):=cY
def Xm(F:cC a nY nY GO f l)(B:Bl d)(g:Fn P w a d j lL 2 [jz] (PL a)):bH P w a d j cF 3 f l [ku] spFig:=by
 refine F.m Yl λvs H Q E h=>?_;obtain⟨x,rfl,G,h0,ab,k⟩:=h;refine(Y,λT A an ar S=>?_)
 refine(_,AB (AU (PW.pt (DH (AL Ao (AR A4 Y B.len PySem.boot_len (AA (Z 0) AG)) AF (AN _)) (By (Ar (Ak (AR (Ds Y) Y B.all IH (AA (Bt [] [] (by rfl) (by simp) (by rfl) Y (JQ (Z 0)) (λ_ _ _ _ _ _=>BR) (λ_ _ _ _ _ _=>Ep B2 B2 AI (Z 0) AI)) AG))))))) (AC (AJ CQ)) AM)
  (AB (AU (AL Ao (Am LZ (Z 0) AF (λ_ _=>rfl)) AI (AN _)) (AC (AJ (Cn Ao (Z 0) AI (AN _)))) AM)
  (AC (AJ (dm g S (AA (BF Fk rfl B.int II (AA (Z 0) AG)) AG))))),?_)
 refine(_,Y,x,Y,Nat.le_of_lt (AQ (by lia)),Y,_,Y,?_);rw[zN (λz=>by simp_all)];apply AS;have ag:x.cps.toList.length=x.length:=by rw[Array.length_toList];rfl
 refine(_,Y,x,Y,G,HB (λi q m=>m=H/\q=(x.cps.toList.take i).map λc=>V.bl (C9 c)) (Y,Y) (λi q m ⟨_,e⟩=>?_) ?_ ?_)
 .grind
 .rintro i c q m y ⟨rfl,rfl⟩;refine(_,Y,_,_,Y,Y,_,Y,?_)
  have u:∀b,b=C9 c->(m=m/\(x.cps.toList.take i).map (λc=>V.bl (C9 c))++[V.bl b]=(x.cps.toList.take (i+1)).map λc=>V.bl (C9 c)):=λb I=>by
   refine(Y,?_);have D:x.cps.toList[i]?=U c:=by rwa[Array.getElem?_toList]
   rw[zx,D,zm,I];rfl
  have o:=IS 48 57 "0" "9" (by rfl) (by rfl) c;refine BL (λs=>?_) (λs=>?_)
  .rw[zg s]at o;exact(_,_,Y,Y,u _ o)
  .rw[zh s]at o;exact u _ o
 rintro q m ⟨rfl,rfl⟩ p R;refine(p,x.cps.toList.map C9,Y,bZ.of (by rw[bA,take_of_length_le (by simp_all),map_map];rfl),_,Y,?_);rw[show(x.cps.toList.map C9).all id=x.cps.toList.all C9 by simp_all];have n:=k _ (AD (bD.refl _) R (o:=HO.lst ((x.cps.toList.take x.cps.size).map λc=>V.bl (C9 c))));unfold MF at n;by_cases v:x.cps.toList.all C9=L
 .rw[v]at n ⊢;apply AS
  obtain⟨c,r,ec⟩:∃c r,x.cps.toList=c::r:=by
   cases e:x.cps.toList with
   |nil=>simp_all
   |cons c r=>simp_all
  refine(_,Y,x,0,c,Y,Y,Nat.le_of_lt (AQ (by lia)),(BQ (by simp_all)),Y,_,Y,?_);have X:("0":Str).cps.toList=[48]:=by decide +kernel
  by_cases t:c=48
  .subst t;rw[zK (show x.cps.toList.head?=U 48 by simp_all),Bool.not_true,Bool.false_and,Bool.or_false]at n;refine AZ (_,Y,Y,?_)
   rwa[decide_eq_decide.mpr (λz=>V.str.inj z,λz=>by rw[z])]
  .rw[zN (λz=>t (by
    grind))]
   rw[zN (λz=>t (by simp_all)),zN (by simp_all),Bool.true_and]at n;apply AS
   have M:=λc y=>by
    have:=all_eq_true.mp v c y;unfold C9 at this
    rwa[Bool.and_eq_true,decide_eq_true_eq,decide_eq_true_eq]at this
   refine(_,Y,x,_,Y,by lia,intText_digits M (by simp_all) (by lia),.inl ((digitsVal x.cps.toList),Y,?_))
   have C:okN ((digitsVal x.cps.toList:Nat))=decide (digitsVal x.cps.toList<1099511627776):=by
    unfold okN;rw[zK (by lia),Bool.true_and];exact decide_eq_decide.mpr (by lia)
   rwa[C]
 .have N:x.cps.toList.all C9=O:=by
   cases e:x.cps.toList.all C9 with
   |true=>trivial
   |false=>rfl
  rw[N]at n ⊢;exact AZ n
inductive spLet(b:FG)(a:jq)(H:Hp)(Q:VK)(c:XK):Prop
 |txt x(d:a=[.str x])(e:x.length<=200)(f:Q (.bl (BD x)) H)
 |bQ v(d:a=[v])(e:fy b mQ H v)(f:Q (.bl O) H)
def Ym:AH [jz] [jz] (defScope Hy):=cY
def Xn(F:cC b lZ lZ Hy f d)(B:Bl g):bH P w b g i cF 1 f d [jz] (spLet b):=by
 refine F.ok Ym (λC H Q E h=>?_) (λD A M s H C Q E I h=>?_)
 .cases h with
  |txt x e _ _=>simp_all
  |bQ v e _ _=>simp_all
 .refine(_,AC (AJ (CB (Bn b rfl rfl B.fj rfl B.str FE (Z 0)) (CB (Cn Ao (AR A4 rfl B.len PySem.boot_len (AA (Z 0) AG)) AF (AN _)) (CW (Ep B2 B2 AI (Z 0) AI))))),?_);cases h with
  |bQ v e z k=>
   subst e;obtain⟨t,ht,y⟩:=z.ty;exact(_,Y,_,_,_,O,Y,ht,y,_,Y,AS k)
  |txt x e G k=>
   subst e;refine(_,Y,_,_,_,L,Y,.str x,Y,_,Y,AZ (_,Y,x,Y,Nat.le_of_lt (AQ (by lia)),Y,_,Y,?_));have o:x.cps.toList.length=x.length:=by rw[Array.length_toList];rfl
   unfold BD at k;refine BL (λn=>?_) (λn=>?_)
   .obtain⟨c,m⟩:∃c,x.cps.toList=[c]:=by
     have p:x.length=1:=by have:=V.int.inj (zT n);lia
     rw[p]at o;exact List.length_eq_one_iff.mp o
    rw[m]at k;refine(_,Y,_,_,Y,Y,_,Y,?_);have l:=IS 97 122 "a" "z" (by rfl) (by rfl) c;have u:(⟨#[c]⟩:Str).cps.toList=x.cps.toList:=by rw[m]
    rw[u]at l;change _=Cm c at l;change Q (V.bl (Cm c)) H at k;rw[←l]at k;refine BL (λj=>?_) (λj=>?_)
    .rw[zg j]at k;exact(_,_,Y,Y,k)
    .rwa[zh j]at k
   .have q:(match x.cps.toList with| [c]=>Cm c|_=>O)=O:=by
     cases e:x.cps.toList with
     |nil=>rfl
     |cons a r=>
      grind
    rwa[q]at k
def Az(x:Str):x.cps.toList.length=x.length:=by rfl
def HK(z){a b:Nat}(d:a<=b)(i:b<=z.length):(Txt.slice z (U (a)) (U (b))).cps.toList=(z.cps.toList.drop a).take (b-a):=by
 unfold Txt.slice;split
 .rename_i h;rw[StrLaws.strSliceIndices_plain d i,AO]at h
  have e:b-a=z.length:=by
   simp at h;exact h
  have j:a=0:=by lia
  subst j;rw[List.drop_zero,take_of_length_le (by rw[Az];simp_all)]
 .rw[StrLaws.sliced_plain z d i]
def Jx(lt:Bool)(x:Str):Bool:=CM x||(MF x||(lt&&BD x))
inductive spPart(a:jq)(H:Hp)(Q:VK)(b:XK):Prop
 |mk x lt(e:a=[.str x,.bl lt])(f:x.cps.all (· < 128)=L)(g:0<x.length)(d:x.length<=200)(h:∀c,bD H c->Q (.bl (Jx lt x)) c)
def Xo:AH [ku,j9] [ku,j9] (defScope Ly):=cY
def Vz(F:cC b "is_part" "is_part" Ly f m)(v:Fn P w b g c nH 1 [jz] spIsName)(u:Fn P w b g c nY 3 [ku] spFig)(t:Fn P w b g c lZ 1 [jz] (spLet b)):bH P w b g c cF 4 f m [ku,j9] spPart:=by
 refine F.m Xo λC H Q E h=>?_;obtain⟨x,lt,rfl,o,r,d,k⟩:=h;refine(rfl,λy A j s p=>?_);have a:bJ 1 _:=p.mono qc;refine(_,AC (AJ (WK (dm v a (AA (Z 0) AG)) (WK (dm u p (AA (Z 0) AG)) (CW (CB (Z 1) (CW (dm t a (AA (Z 0) AG)))))))),(_,rfl,x,rfl,o,by lia,λz e=>(_,rfl,?_)));unfold Jx at k;cases l:CM x with
 |true=>
  rw[l]at k;exact AZ (k _ e)
 |false=>
  rw[l]at k;refine AS (_,rfl,x,rfl,o,r,d,λB i=>(_,rfl,?_));cases q:MF x with
  |true=>
   rw[q]at k;exact AZ (k _ (e.trans i))
  |false=>
   rw[q]at k;refine AS (_,rfl,_,rfl,?_);cases lt with
   |true=>exact AZ (_,rfl,.txt x rfl d (k _ (e.trans i)))
   |false=>exact AS (k _ (e.trans i))
structure KJ(lt:Bool)(z:Str)(a n:Nat):Prop where
 le:a+n<=z.length
 ok:∀k,0<k->k<=n->Jx lt (Txt.slice z (U (a)) (U ((a+k:Nat):Int)))=L
 no:a+n<z.length->Jx lt (Txt.slice z (U (a)) (U ((a+n+1:Nat):Int)))=O
def Rw{z:Str}{a b}(d:a<=b)(e:b<=z.length)(h:z.cps.all (· < 128)=L):(Txt.slice z (U (a:Int)) (U (b:Int))).cps.all (· < 128)=L:=by
 rw[←Array.all_toList]at h ⊢;rw[HK z d e]
 grind
def Rx{z}{a b:Nat}(d:a<=b)(e:b<=z.length):(Txt.slice z (U (a)) (U (b))).length=b-a:=by
 rw[←Az,HK z d e,zt,List.length_drop,Az]
 lia
inductive spPE(b:jq)(H:Hp)(Q:VK)(c:XK):Prop
 |mk z(a n:Nat) lt(f:b=[.str z,.int (a),.bl lt])(g:z.cps.all (· < 128)=L)(h:z.length<=200)(e:KJ lt z a n)(i:∀d,bD H d->Q (.int ((a+n:Nat):Int)) d)
def scPE:AH [ku,"at",j9,"end"] [ku,"at",j9] (defScope Ji):=cY
def V0(F:cC g "part_end" "part_end" Ji f S)(B:Bl c)(G:Fn P w g c R "is_part" 4 [ku,j9] spPart):bH P w g c R cF 5 f S [ku,"at",j9] spPE:=by
 refine F.m scPE λab H Q E h=>?_;obtain⟨z,a,n,lt,rfl,p,D,PA,q⟩:=h;refine(Y,λy A l s t=>?_)
 refine(_,AB (A5 3 scPE.nd (Z 1))
  (AB (Gi PassesOwn.never (PW.pt (CV (AL Ff (Z 3) (AR A4 rfl B.len PySem.boot_len (AA (Z 0) AG)) (AN _)) (Bj (Ak (dm G t (AA (Mh TJ (Z 0) (Iq (Z 1)) (Iq (AX CD (Z 3) AF))) (AA (Z 2) AG))))))) (AC (OI (i:=3) scPE.nd rfl (Or.inl rfl) AF Pb)))
  (AC (AJ (Z 3)))),?_)
 refine(_,Y,λm d o=>∃k,d=[U (.str z),U (.int a),U (.bl lt),U (.int ((a+k:Nat)))]/\bD H o/\k<=n/\m=n-k,(n,0,Y,bD.refl _,Nat.zero_le _,Y),?_);rintro m d o ⟨k,rfl,j,X,rfl⟩;have I:=PA.le;refine(_,Y,_,Y,z,Y,Nat.le_of_lt (AQ (by lia)),_,_,Y,Y,_,Y,?_);by_cases u:a+k<z.length
 .rw[zK (by lia)];apply AZ;refine(_,Y,_,Y,a,Y,_,Y,_,_,Y,Y,((a+k+1:Nat)),congrArg V.int (by simp_all),z,Y,Nat.le_of_lt (AQ (by lia)),_,Y,?_);have T:=Rx (z:=z) (a:=a) (b:=a+k+1) (by lia) (by lia);refine(_,lt,Y,Rw (a:=a) (b:=a+k+1) (by lia) (by lia) p,by lia,by lia,λM s3=>(_,Y,?_));by_cases x:k<n
  .have ok:=PA.ok (k+1) (by lia) (by lia);rw[show a+(k+1)=a+k+1 by lia]at ok;rw[ok];refine AZ (λd r=>d=[U (.str z),U (.int a),U (.bl lt),U (.int ((a+(k+1):Nat)))]/\bD H r,λC N y=>by obtain⟨e,v⟩:=y;exact (n-(k+1),by lia,k+1,e,v,by lia,Y),(_,Y,_,_,Y,Y,?_,j.trans s3));rfl
  .have e:k=n:=by lia
   subst e;rw[PA.no u];exact AS (_,Y,q _ (j.trans s3))
 .rw[zN (by lia)];have e:k=n:=by lia
  subst e;exact AS (AS (_,Y,q _ j))
structure KK(K:FG)(DC:jr):Prop where
 cl:gy K DC
 nS:dy K DC ll
 nW:dy K DC mH
 nP:dy K DC md
def iN(a b:jr)(c:Bool):List (Str×V):=BB md (.bl c) (BB mH (.ref b) (BB ll (.ref a) []))
def UG(b a)(c):(iN b a c).lookup (ll:Str)=U (.ref b):=by
 rfl
def FQ(b a)(c):(iN b a c).lookup (mH:Str)=U (.ref a):=by
 rfl
def FR(c a)(b):(iN c a b).lookup (md:Str)=U (.bl b):=by
 rfl
def Bq(b e)(c){m:Str}(a:¬ m=ll:=by decide +kernel)(d:¬ m=mH:=by decide +kernel)(h:¬ m=md:=by decide +kernel):(iN b e c).lookup m=J:=by
 unfold iN;rw[Ax,zh h,Ax,zh d,Ax,zh a];rfl
structure dc(DC:jr)(H:Hp)(p ls lw:jr)(ss ws:jm)(wp:Bool):Prop where
 ex:∃dx,H p=U (.ins DC dx (iN ls lw wp))
 hs:H ls=U (.lst (ss.map V.str))
 hw:H lw=U (.lst (ws.map V.str))
 ne:ls≠lw
def gi(p c d:jr)(H a:Hp):Prop:=∀b o,H b=U o->b≠p->b≠c->b≠d->a b=U o
def gi.refl(p b a)(H):gi p b a H H:=λ_ _ e _ _ _=>e
def dc.np(h:dc f H p b c g l j):b≠p/\c≠p:=by
 obtain⟨i,a⟩:=h.ex;have d:=h.hs;have e:=h.hw;exact(λz=>(by simp_all),λz=>(by simp_all))
def dc.steps(a)(h:dc c H p b f j i g):dc c (upd H b (.lst (a.map V.str))) p b f a i g:=by
 obtain⟨e,d⟩:=h.ex;exact((e,by rw[AE (Ne.symm h.np.1)];exact d),bA,by rw[AE (Ne.symm h.ne)];exact h.hw,h.ne)
def dc.waits(a)(h:dc c H p f b g j i):dc c (upd H b (.lst (a.map V.str))) p f b g a i:=by
 obtain⟨e,d⟩:=h.ex;exact((e,by rw[AE (Ne.symm h.np.2)];exact d),by rw[AE h.ne];exact h.hs,bA,h.ne)
def dc.wants(b)(h:dc a H p c d f g i):dc a (upd H p (.ins a e (iN c d b))) p c d f g b:=
 ((e,bA),by rw[AE h.np.1];exact h.hs,by rw[AE h.np.2];exact h.hw,h.ne)
def QK(b a)(c):(iN b a c).length<1000:=by
 have h:=Ay md (.bl c) (BB mH (.ref a) (BB ll (.ref b) []));have i:=Ay mH (.ref a) (BB ll (.ref b) []);have e:=Ay ll (.ref b) [];have d:([]:List (Str×V)).length=0:=rfl;unfold iN
 lia
inductive spTP(a:jr)(b:jq)(H:Hp)(Q:VK)(c:XK):Prop
 |mk p ls lw ss ws wp x(f:b=[.ref p,.str x])(g:dc a H p ls lw ss ws wp)(h:ss.length<=400)(e:∀d,gi p ls lw H d->dc a d p ls lw (ss++[x]) ws O->Q .bQ d)
def aF:AH [jt,oH] [jt,oH] (defScope Cf):=cY
def Yn(F:cC g "take_part" "Reading.take_part" Cf f m)(a:KK g c):bH P w g M n cF 1 f m [jt,oH] (spTP c):=by
 refine F.m aF λI H Q E h=>?_;obtain⟨p,v,B,z,D,N,x,rfl,R,j,q⟩:=h;refine(Y,λy A d s C=>?_);obtain⟨l,u⟩:=id R.ex;refine(_,AB (AV (Aw (Ae (Z 0) Y) (AA (Z 1) AG))) (AC (Cb (Z 0) CQ Y)),(_,Y,p,c,l,_,_,Y,u,a.cl,a.nS,UG _ _ _,.inl (Y,_,bZ.of R.hs),_,Y,v,_,_,Y,Y,R.hs,AQ (by grind),?_));have i:=R.steps (z++[x]);rw[zm]at i;exact(_,Y,p,c,l,_,Y,by rwa[AE (Ne.symm R.np.1)],a.cl,a.nP,QK _ _ _,q _ (λb o e t r G=>by rwa[AE t,AE r]) (i.wants O))
inductive spRd0(a:jr)(c:jq)(H:Hp)(Q:VK)(d:XK):Prop
 |mk p dx(h:c=[.ref p])(i:H p=U (.ins a dx []))(j:∀f g e,(∀b o,H b=U o->b≠p->e b=U o)->H f=J->H g=J->dc a e p f g [] [] L->Q .bQ e)
def Yo:AH [jt] [jt] (defScope EJ):=cY
def Xp(F:cC g jF "Reading.__init__" EJ f m)(u:KK g c):bH P w g M n cF 1 f m [jt] (spRd0 c):=by
 refine F.m Yo λN H Q E h=>?_;obtain⟨p,x,rfl,D,q⟩:=h;refine(Y,λG A C s I=>?_);refine(_,AB (Cb (Z 0) (As AG) Y) (AB (Cb (Z 0) (As AG) Y) (AC (Cb (Z 0) CQ Y))),((by simp_all),λB r=>?_));have d:=AK D r;refine(_,Y,p,c,x,_,Y,by rw[AE d];exact D,u.cl,u.nS,(by simp),((by simp_all),λv l=>?_));have i:p≠v:=λz=>by rw[←z,bA]at l;cases l
 have a:(upd H B (.lst [])) v=J:=by rwa[AE (Ne.symm i)]at l
 have t:B≠v:=λz=>by rw[←z,bA]at a;cases a
 have j:H v=J:=by rwa[AE (Ne.symm t)]at a
 refine(_,Y,p,c,x,_,Y,by rw[AE i,bA],u.cl,u.nW,Nat.lt_of_le_of_lt (Ay _ _ _) (by simp_all),(_,Y,p,c,x,_,Y,bA,u.cl,u.nP,Nat.lt_of_le_of_lt (Nat.le_trans (Ay _ _ _) (Nat.succ_le_succ (Ay _ _ _))) (by simp_all),?_));refine q B v _ (λb o e y=>?_) r j ((x,bA),?_,?_,t)
 .rwa[AE y,AE y,AE (AK e j),AE y,AE (AK e r)]
 .rw[AE (Ne.symm d),AE (Ne.symm d),AE t,AE (Ne.symm d),bA];rfl
 .rw[AE (Ne.symm i),AE (Ne.symm i),bA];rfl
noncomputable abbrev sl(z:Str)(a b:Nat):Str:=Txt.slice z (U (a:Int)) (U (b:Int))
inductive Sg|br|or|xo|an|no
deriving DecidableEq
noncomputable def Sg.s:Sg->Str|.br=>"(" |.or=>"|" |.xo=>"^" |.an=>"&" |.no=>"~"
noncomputable def Sg.b:Sg->Nat|.br=>0|.or=>1|.xo=>2|.an=>3|.no=>4
noncomputable def Sg.c:Sg->Nat|.br=>40|.or=>124|.xo=>94|.an=>38|.no=>126
def Sg.eO:Sg->Prop|.or=>True|.xo=>True|.an=>True|_=>False
noncomputable abbrev dJ(W:List Sg):jm:=W.map Sg.s
noncomputable def Nz(W:List Sg):Nat:=match W.getLast? with|some s=>s.b|none=>0
inductive Out
 |ok(T:jm)
 |bad(e:Nat)
inductive Stop(lt:Bool)(z:Str)(a c:Nat)(W:List Sg):Bool->Prop
 |ahead(p:KJ lt z a 0)(b:c≠32)(d:c≠126)(e:c≠40):Stop lt z a c W L
 |between(b:c≠32)(d:c≠38)(e:c≠94)(f:c≠124)(g:c≠41):Stop lt z a c W O
 |close(b:c=41)(h:∀q∈W,1<=q.b):Stop lt z a c W O
inductive Rn(lt:Bool)(z:Str)(o:Out):Nat->jm->List Sg->Bool->Prop
 |done S Q(h:∀q∈Q,1<=q.b)(e:o=.ok (S++(dJ Q).reverse)):Rn lt z o z.length S Q O
 |blank a S W wp(h:z.cps.toList[a]?=U 32)(r:Rn lt z o (a+1) S W wp):Rn lt z o a S W wp
 |part a n S W(h:KJ lt z a n)(l:0<n)(r:Rn lt z o (a+n) (S++[sl z a (a+n)]) W O):Rn lt z o a S W L
 |ahead a S W g(f:g=.no\/g=.br)(h:z.cps.toList[a]?=U g.c)(r:Rn lt z o (a+1) S (W++[g]) L):Rn lt z o a S W L
 |join a S W Q g(f:g.eO)(h:z.cps.toList[a]?=U g.c)(i:∀q∈Q,g.b<=q.b)(j:Nz W<g.b)(r:Rn lt z o (a+1) (S++(dJ Q).reverse) (W++[g]) L):Rn lt z o a S (W++Q) O
 |close a S W Q(h:z.cps.toList[a]?=U 41)(i:∀q∈Q,1<=q.b)(r:Rn lt z o (a+1) (S++(dJ Q).reverse) W O):Rn lt z o a S ((W++[.br])++Q) O
 |stop a c S W wp(h:z.cps.toList[a]?=U c)(m:Stop lt z a c W wp)(e:o=.bad a):Rn lt z o a S W wp
 |ends S W wp(j:wp=L\/∃d b,W=(d++[.br])++b/\∀q∈b,1<=q.b)(e:o=.bad z.length):Rn lt z o z.length S W wp
inductive Tr
 |wd(x:Str)
 |ng(t:Tr)
 |bn(g:Sg)(a b:Tr)
noncomputable def Tr.post:Tr->jm
 |.wd x=>[x]
 |.ng t=>t.post++[("~":Str)]
 |.bn g a b=>a.post++b.post++[g.s]
abbrev Bk(u:List Nat):Prop:=u=[]\/u=[32]
structure iT(lt:Bool)(w:List Nat):Prop where
 ne:0<w.length
 ok:∀k,0<k->k<=w.length->∀x,x.cps.toList=w.take k->Jx lt x=L
inductive Wr(lt:Bool):Tr->Nat->List Nat->Prop
 |wd x r bl(c:Bk bl)(h:iT lt x.cps.toList):Wr lt (.wd x) r (bl++x.cps.toList)
 |ng t r u(d:r<=3)(h:Wr lt t 3 u):Wr lt (.ng t) r (126::u)
 |bn g a b r u v bl(f:g.eO)(d:r+1<=g.b)(c:Bk bl)(e:Wr lt a (g.b-1) u)(i:Wr lt b g.b v):Wr lt (.bn g a b) r (u++(bl++(g.c::v)))
 |br t r u bl(c:Bk bl)(h:Wr lt t 0 u):Wr lt t r (bl++(40::(u++[41])))
def Sep(u:List Nat):Prop:=∀c,u.head?=U c->Di c=O/\C9 c=O
def UH(d:Di c=O/\C9 c=O)(h:x.cps.toList=w++[c])(b:w≠ []\/Cm c=O):Jx lt x=O:=by
 have i:CM x=O:=by
  unfold CM
  have:x.cps.toList.all Di=O:=by
   rw[h];simp[d.1]
  rw[this,Bool.and_false]
 have j:MF x=O:=by
  unfold MF
  have:x.cps.toList.all C9=O:=by
   rw[h];simp[d.2]
  rw[this,Bool.false_and]
 have e:BD x=O:=by
  unfold BD;rw[h];cases w with
  |nil=>simp_all
  |cons a r=>simp
 unfold Jx;rw[i,j,e];cases lt<;>rfl
def Iw{x y:Str}(h:x.cps.toList=y.cps.toList):x=y:=by
 cases x with
 |mk a=>simp_all
def QL(f:z.cps.toList=pre++(w++post))(b:iT lt w)(i:Sep post):KJ lt z pre.length w.length/\sl z pre.length (pre.length+w.length)=⟨w.toArray⟩:=by
 have d:z.length=pre.length+(w.length+post.length):=by rw[←Az,f,zG,zG]
 have h:∀k,k<=w.length+post.length->(sl z pre.length (pre.length+k)).cps.toList=(w++post).take k:=λk a=>by
  rw[HK z (by simp_all) (by simp_all),f,List.drop_left,Nat.add_sub_cancel_left]
 refine((by simp_all,λk j a=>?_,λe=>?_),?_)
 .apply b.ok k j a _
  grind
 .cases post with
  |nil=>simp_all
  |cons c r=>
   refine UH (w:=w) (i c Y) ?_ (.inl λz=>by have:=b.ne;rw[z]at this;exact absurd this qc);have:=h (w.length+1) (by simp);rw[show pre.length+w.length+1=pre.length+(w.length+1) by lia,this,List.take_append];simp;exact take_of_length_le (by simp_all)
 .apply Iw
  simp_all
def Jy{z:Str}{a}(b:z.cps.toList=a++c::post):z.cps.toList[a.length]?=U c:=by
 simp_all
def Dy(W)(g):Nz (W++[g])=g.b:=by
 unfold Nz
 simp_all
def UI(a:Bk b)(c:z.cps.toList=pre++(b++post))(r:Rn lt z o (pre++b).length S W d):Rn lt z o pre.length S W d:=by
 rcases a with rfl|rfl
 .rwa[zl]at r
 .exact .blank _ _ _ _ (Jy c) (by simpa using r)
def Sep.of{c}{r}(h:Di c=O/\C9 c=O):Sep (c::r):=λd a=>by simp_all
def Sep.bk{a u}(d:Bk a)(h:Sep u):Sep (a++u):=by
 rcases d with rfl|rfl
 .exact h
 .exact Sep.of (Y,Y)
def Sep.sg{g:Sg}:Sep (g.c::r):=Sep.of (by cases g<;>exact(rfl,rfl))
def Xq(d:Wr lt t r u):∀{pre gM}{S}{W},z.cps.toList=pre++(u++gM)->Sep gM->(r<3->Nz W<=r) ->
  (∀c Q,(∀q∈Q,r+1<=q.b)->c++(dJ Q).reverse=S++t.post->Rn lt z o (pre++u).length c (W++Q) O)->Rn lt z o pre.length S W L:=by
 induction d with
 |wd x r f l h=>
  intro pre gM S W i n s k;rw[List.append_assoc]at i;apply UI l i;obtain⟨H,I⟩:=QL (z:=z) (pre:=pre++f) (by simp_all) h n;refine .part _ _ _ _ H h.ne ?_;rw[I];have:=k (S++[x]) [] (λq m=>nomatch m) (by show S++[x]++[]=S++[x];simp);rw[zl]at this
  rwa[←List.append_assoc,zG]at this
 |ng t r u D h w=>
  intro pre gM S W i n s k;refine .ahead _ _ _ .no (.inl Y) (Jy (by trivial)) ?_;have:=w (pre:=pre++[126]) (S:=S) (W:=W++[.no]) (by simp_all) n (λh=>absurd h qc) (λc Q m e=>?_)
  .simpa using this
  .have:=k c (.no::Q) (λq A=>by
    rcases mem_cons.mp A with rfl|h
    .show r+1<=4;lia
    grind) (by
    show c++(Sg.no.s::dJ Q).reverse=S++(t.post++[("~":Str)]);rw[List.reverse_cons,←List.append_assoc,e,List.append_assoc]
    rfl)
   simpa using this
 |bn g a b r u v f C D l X hv E G=>
  intro pre gM S W i n s k;have ab:1<=g.b:=by cases g<;>first|lia|decide
  have ag:g.b<=3:=by cases g<;>first|trivial|decide
  refine E (gM:=f++(g.c::(v++gM))) (by simp_all) (Sep.bk l Sep.sg) (λ_=>by lia) λN M R B=>?_;apply UI (pre:=pre++u) (post:=g.c::(v++gM)) l (by simp_all);refine .join _ _ _ _ g C (Jy (post:=v++gM) (by simp_all)) (λq m=>by simp_all) (by lia) ?_;rw[B];have:=G (pre:=pre++u++f++[g.c]) (S:=S++a.post) (W:=W++[g]) (by simp_all) n (λ_=>by rw[Dy];simp) λy p T P=>?_
  .have j:(pre++u++f++[g.c]).length=(pre++u++f).length+1:=by simp;lia
   rwa[j]at this
  .have:=k y (g::p) (λq A=>by
    grind) (by
    show y++(g.s::dJ p).reverse=S++(a.post++b.post++[g.s])
    grind)
   rw[show W++[g]++p=W++(g::p) by simp];have j:(pre++u++f++[g.c]++v).length=(pre++(u++(f++g.c::v))).length:=by simp
   rwa[j]
 |br t r u f l h w=>
  intro pre gM S W i n s k;rw[List.append_assoc]at i;apply UI l i;refine .ahead _ _ _ .br (.inr Y) (Jy (post:=u++41::gM) (by rw[i];simp[Sg.c])) ?_;have:=w (pre:=pre++f++[40]) (gM:=41::gM) (S:=S) (W:=W++[.br]) (by simp_all) (Sep.of (rfl,rfl)) (λ_=>by rw[Dy];trivial) (λc Q m e=>?_)
  .have j:(pre++f++[40]).length=(pre++f).length+1:=by simp;lia
   rwa[j]at this
  .refine .close _ _ _ _ (Jy (post:=gM) (by simp_all)) (λq h=>by simp_all) ?_;rw[e];have:=k (S++t.post) [] (λq m=>nomatch m) (by simp_all);rw[zl]at this;have j:(pre++(f++40::(u++[41]))).length=(pre++f++[40]++u).length+1:=by simp;lia
   rwa[j]at this
def UJ(h:Wr lt t 0 z.cps.toList):Rn lt z (.ok t.post) 0 [] [] L:=by
 refine Xq h (pre:=[]) (gM:=[]) (by simp) (λc b=>nomatch b) (λ_=>qc) λf Q d e=>?_;have a:([]++z.cps.toList).length=z.length:=by rw[nil_append,Az]
 rw[a,nil_append];exact .done _ _ (λq h=>d q h) (by rw[e];rfl)
noncomputable def CP:LK:=[((Sum.inr "(":Key),(.int 0)),(Sum.inr "|",(.int 1)),(Sum.inr "^",(.int 2)),(Sum.inr "&",(.int 3)),(Sum.inr "~",(.int 4))]
def QM(g:Sg):Ai CP (Sum.inr g.s:Key)=U (.int (g.b:Int)):=by cases g<;>decide +kernel
def Yp(R:dc u H p g m v x w)(s:gi p g m H n)(h:Rd H f (.dK t)):Rd n f (.dK t):=by
 obtain⟨r,l⟩:=R.ex
 have d:∀{o:HO},H f=U o->(∀i,o≠ .lst i)->(∀a b c,o≠ .ins a b c)->f≠p/\f≠g/\f≠m:=λ{o}e j q=>by
  refine(λz=>?_,λz=>?_,λz=>?_)
  .grind
  .rw[z,R.hs]at e
   grind
  .rw[z,R.hw]at e
   grind
 rcases h with h|⟨o,h⟩
 .obtain⟨a,b,c⟩:=d h (λ_ z=>nomatch z) (λ_ _ _ z=>nomatch z);exact .inl (s _ _ h a b c)
 .obtain⟨a,b,c⟩:=d h (λ_ z=>nomatch z) (λ_ _ _ z=>nomatch z);exact .inr (o,s _ _ h a b c)
def N0(a)(g):gB ((dJ (a++[g])).map V.str) (-1)=U (V.str g.s)/\((dJ (a++[g])).map V.str)[((dJ (a++[g])).map V.str).length-1]?=U (V.str g.s)/\((dJ (a++[g])).map V.str).dropLast=(dJ a).map V.str:=by
 have e:(dJ (a++[g])).map V.str=(dJ a).map V.str++[V.str g.s]:=by simp
 refine(?_,?_,?_)
 .unfold gB
  have b:gY ((dJ a).map V.str++[V.str g.s]).length (-1)=U ((dJ a).map V.str).length:=by
   unfold gY;simp
   lia
  simp_all
 .simp_all
 simp_all
inductive spSet(a c:jr)(d:jq)(H:Hp)(Q:VK)(e:XK):Prop
 |mk p ls lw ss W G(b:Nat) wp(h:d=[.ref p,.int (b)])(i:dc a H p ls lw ss (dJ (W++G)) wp)(j:ss.length+(W.length+G.length)<=400)(g:Rd H c (.dK CP))
  (l:∀q∈G,b<=q.b) (m:W=[]\/Nz W<b) (n:∀f,gi p ls lw H f->dc a f p ls lw (ss++(dJ G).reverse) (dJ W) wp->Q .bQ f)
def Yq:AH [jt,nM] [jt,nM] (defScope DR):=cY
def Xr(F:cC d "settle" "Reading.settle" DR ag fd)(B:Bl h)(a:KK d c)(mB:h "BINDING"=U (.ref f)):bH aC a4 d h aR cF 1 ag fd [jt,nM] (spSet c f):=by
 refine F.m Yq λvs H aM az al=>?_;obtain⟨p,s,n,t,W,G,b,S,rfl,R,a0,hB,hG,hW,q⟩:=al;refine(Y,λbf as a1 a2 hr=>?_);have hu:=Bs hr
 refine(_,AC (Gi PassesOwn.never (PW.pt (CV (AL IW (AR (A1 d Y) Y B.len PySem.boot_len (AA (Ae (Z 0) Y) AG)) AF (AN _)) (Bj (AL Mc (Au hu (BM (v:=.ref f) Y mB Y) (Am (Al d Y) (Ae (Z 0) Y) (DW Dc AF) (λ_ _=>rfl)) (λ_ _=>rfl)) (Z 1) (AN _)))))
  (AC (AV (Aw (Ae (Z 0) rfl) (AA (Fq plainAttrs_list slot_list_pop type_list_pop Hg (Ae (Z 0) rfl)) AG))))),?_)
 refine(λm y A=>y=[U (.ref p),U (.int b)]/\∃j l,G=j++l/\j.length=m/\gi p s n H A/\dc c A p s n (t++(dJ l).reverse) (dJ (W++j)) S,(G.length,Y,G,[],(zl _).symm,Y,gi.refl _ _ _ _,by simpa using R),?_);rintro m y A ⟨rfl,j,l,r,em,x,R2⟩;obtain⟨v,w⟩:=id R2.ex;refine(_,Y,p,c,v,_,_,Y,w,a.cl,a.nW,FQ _ _ _,n,_,Y,.inl (bZ.of R2.hw),_,_,Y,Y,_,Y,?_);have ck:((dJ (W++j)).map V.str).length=(W++j).length:=by simp
 rw[ck];rcases List.eq_nil_or_concat (W++j)with e|⟨L,g,e⟩
 .have o:=List.append_eq_nil_iff.mp e;rw[e];refine AS (AS (q _ x ?_));rw[o.2]at r R2;rw[r];simpa using R2
 .rw[List.concat_eq_append]at e;rw[zK (by rw[e,zG,List.length_singleton];simp_all)];apply AZ;have N:=N0 L g;rw[←e]at N;obtain⟨an,cv,cw⟩:=N;refine(_,rfl,p,c,v,_,_,rfl,w,a.cl,a.nW,FQ _ _ _,_,rfl,n,_,-1,.str g.s,rfl,rfl,bZ.of R2.hw,an,f,.int g.b,rfl,.inl (_,Sum.inr g.s,Yp R x hB,rfl,(QM g).symm),_,rfl,_,_,rfl,rfl,_,rfl,?_);rcases List.eq_nil_or_concat j with o|⟨u,i,o⟩
  ·-- all are settled
   subst o;rw[zl]at e
   have C:¬ (g.b ≥ (b:Int)):=by
    rcases hW with z|z
    .rw[z]at e;have:=congrArg List.length e;simp at this
    .rw[e,Dy]at z
     simp_all
   rw[zN C];refine AS (q _ x ?_);rw[r];simpa using R2
  .rw[List.concat_eq_append]at o;subst o;have I:=e;rw[←List.append_assoc]at I;obtain⟨eL,eg⟩:=append_inj' I rfl;have ab:i=g:=by simpa using eg
   subst ab
   have C:i.b ≥ (b:Int):=by
    have:=hG i (by rw[r];simp)
    simp_all
   rw[zK C];refine AZ (λy D=>y=[U (.ref p),U (.int b)]/\gi p s n H D/\dc c D p s n (t++(dJ ([i]++l)).reverse) (dJ (W++u)) S,λet H' k=>by obtain⟨e,s',T⟩:=k;exact (u.length,by rw[←em,zG];exact Nat.lt_succ_self _,e,u,[i]++l,by rw[r,List.append_assoc],Y,s',T),(_,Y,p,c,v,_,_,Y,w,a.cl,a.nS,UG _ _ _,.inl (Y,_,bZ.of R2.hs),_,Y,p,c,v,_,_,Y,w,a.cl,a.nW,FQ _ _ _,.inl (Y,_,bZ.of R2.hw),n,_,.str i.s,Y,Y,R2.hw,cv,?_));rw[cw,←eL];have M:t++(dJ l).reverse++[i.s]=t++(dJ ([i]++l)).reverse:=by simp
   have E:=R2.waits (dJ (W++u));have X:=E.steps (t++(dJ ([i]++l)).reverse);refine(s,_,_,Y,Y,E.hs,AQ ?_,Y,λb ar e n1 P Q=>?_,?_)
   .have h1:=congrArg List.length r;simp at h1;simp
    lia
   .rw[AE P,AE Q];exact x b ar e n1 P Q
   .rw[←M,zm]at X
    rwa[←M]
inductive SgStep:Str->jm->List Sg->Bool->jm->List Sg->Bool->Prop
 |blank S W wp:SgStep " " S W wp S W wp
 |ahead S W g(a:g=.no\/g=.br):SgStep g.s S W L S (W++[g]) L
 |join S W G g(a:g.eO)(b:∀q∈G,g.b<=q.b)(c:Nz W<g.b):SgStep g.s S (W++G) O (S++(dJ G).reverse) (W++[g]) L
 |close S W G(b:∀q∈G,1<=q.b):SgStep ")" S ((W++[.br])++G) O (S++(dJ G).reverse) W O
inductive spTB(a c:jr)(b:jq)(H:Hp)(Q:VK)(d:XK):Prop
 |mk p ls lw ss W G g(h:b=[.ref p,.str g.s])(i:g.eO)(j:dc a H p ls lw ss (dJ (W++G)) O)(f:ss.length+(W.length+G.length)<=390)(l:Rd H c (.dK CP))
  (m:∀q∈G,g.b<=q.b) (o:Nz W<g.b) (n:∀e,gi p ls lw H e->dc a e p ls lw (ss++(dJ G).reverse) (dJ (W++[g])) L->Q (.bl L) e)
 |no p x(h:b=[.ref p,.str x])(i:x≠ "&")(j:x≠ "^")(f:x≠ "|")(l:Q (.bl O) H)
def aG:AH [jt,lS] [jt,lS] (defScope Bp):=cY
def V1{g:Sg}(h:g.eO):(if L=L then !fG (V.str g.s) [V.str "&",V.str "^",V.str "|"]else fG (V.str g.s) [V.str "&",V.str "^",V.str "|"])=O:=by
 cases g<;>first|trivial|rfl
def V3{x:Str}(a:x≠ "&")(e:x≠ "^")(d:x≠ "|"):(if L=L then !fG (V.str x) [V.str "&",V.str "^",V.str "|"]else fG (V.str x) [V.str "&",V.str "^",V.str "|"])=L:=by
 unfold fG;simp[iB,a,d,Ne.symm a,Ne.symm e,Ne.symm d]
def Yr(F:cC n "take_between" "Reading.take_between" Bp f u)(j:KK n c)(T:o "BINDING"=U (.ref m))(mJ:o "JOINING"=U (.ref l))(D:∀H,cD n H l [.str "&",.str "^",.str "|"])(t:Mt P an n o s c "settle" 1 [jt,nM] (spSet c m)):
  bH P an n o s cF 2 f u [jt,lS] (spTB c m):=by
 obtain⟨fS,dS,t,y,ab⟩:=t.ex;refine F.ok aG (λvs H Q E h=>?_) (λbf as aC az H vs Q E C h=>?_)
 .cases h with
  |mk p v r w W G g e=>subst e;rfl
  |no p ar e=>subst e;rfl
 .have hu:=Bs C
  refine(_,AB (AU (AL La (Z 1) (BM (v:=.ref l) Y mJ Y) Y) (AC (AJ CQ)) AM)
   (AB (AV (Co (Z 0) j.cl y t C ab .nil Af (AA (Au hu (BM (v:=.ref m) rfl T rfl) (Z 1) (λ_ _=>rfl)) AG)))
   (AB (AV (Aw (Ae (Z 0) rfl) (AA (Z 1) AG)))
   (AB (Cb (Z 0) CQ rfl)
   (AC (AJ CQ))))),?_)
  cases h with
  |no p ar e x h2 h3 q=>
   subst e;refine(_,Y,l,_,Y,.inr (D H),Y,Y,_,Y,?_);rw[V3 x h2 h3];exact AZ q
  |mk p v r w W G g e hg R aM z S hw q=>
  subst e;obtain⟨X,hp⟩:=id R.ex;refine(_,Y,l,_,Y,.inr (D H),Y,Y,_,Y,?_);rw[V1 hg];apply AS;refine(_,Y,p,X,_,Y,hp,Bq _ _ _,_,Y,m,.int g.b,Y,.inl (_,Sum.inr g.s,z,Y,(QM g).symm),p,v,r,w,W,G,g.b,gt,Y,R,by lia,z,S,.inr hw,λH1 A a=>?_);obtain⟨d,i⟩:=id a.ex;refine(_,Y,p,c,d,_,_,Y,i,j.cl,j.nW,FQ _ _ _,.inl (Y,_,bZ.of a.hw),_,Y,r,_,_,Y,Y,a.hw,AQ (by grind),?_);have M:(dJ W).map V.str++[V.str g.s]=(dJ (W++[g])).map V.str:=by simp
  have R2:=a.waits (dJ (W++[g]));rw[M];exact(_,Y,p,c,d,_,Y,by rw[AE (Ne.symm a.np.2)];exact i,j.cl,j.nP,QK _ _ _,q _ (λb ag e B N I=>by rw[AE B,AE I];exact A b ag e B N I) (R2.wants gl))
inductive spTA(a:jr)(b:jq)(H:Hp)(Q:VK)(c:XK):Prop
 |mk p ls lw ss W g wp(e:b=[.ref p,.str g.s])(f:g=.no\/g=.br)(h:dc a H p ls lw ss (dJ W) wp)(j:W.length<=390)
  (i:∀d,gi p ls lw H d->dc a d p ls lw ss (dJ (W++[g])) wp->Q (.bl L) d)
 |no p x(e:b=[.ref p,.str x])(f:x≠ "~")(h:x≠ "(")(i:Q (.bl O) H)
def aH:AH [jt,lS] [jt,lS] (defScope CK):=cY
def Ys(F:cC m "take_ahead" "Reading.take_ahead" CK f n)(a:KK m c):bH P w m S N cF 1 f n [jt,lS] (spTA c):=by
 refine F.ok aH (λT H Q E h=>?_) (λD A j s H T Q E M h=>?_)
 .cases h with
  |mk p C d X W g wp e=>subst e;rfl
  |no p x e=>subst e;rfl
 .refine(_,AB (AU (PW.pt (CV (AL Ed (Z 1) AI (AN _)) (Bj (AL Ed (Z 1) AI (AN _))))) (AC (AJ CQ)) AM)
   (AB (AV (Aw (Ae (Z 0) rfl) (AA (Z 1) AG)))
   (AC (AJ CQ))),?_)
  cases h with
  |no p x e y G q=>
   subst e;refine(_,Y,Y,_,Y,?_);rw[zN (λz=>y (V.str.inj z))];refine AZ (_,Y,Y,_,Y,?_);rw[zN (λz=>G (V.str.inj z))];exact AZ q
  |mk p C d X W g wp e I R r q=>
  subst e;obtain⟨t,u⟩:=id R.ex;refine(_,Y,Y,_,Y,?_);have l:(dJ W).map V.str++[V.str g.s]=(dJ (W++[g])).map V.str:=by simp
  have R2:=R.waits (dJ (W++[g]));rcases I with rfl|rfl
  .refine AS (AS ((_,Y,p,c,t,_,_,Y,u,a.cl,a.nW,FQ _ _ _,.inl (Y,_,bZ.of R.hw),_,Y,d,_,_,Y,Y,R.hw,AQ (by grind),?_)));rw[l];exact q _ (λb o e B v i=>by rwa[AE i]) R2
  .refine AZ (_,Y,Y,_,Y,?_);apply AS;refine(_,Y,p,c,t,_,_,Y,u,a.cl,a.nW,FQ _ _ _,.inl (Y,_,bZ.of R.hw),_,Y,d,_,_,Y,Y,R.hw,AQ (by grind),?_);rw[l];exact q _ (λb o e B v i=>by rwa[AE i]) R2
inductive spTC(a b:jr)(c:jq)(H:Hp)(Q:VK)(d:XK):Prop
 |mk p ls lw ss W G wp(g:c=[.ref p])(h:dc a H p ls lw ss (dJ ((W++[.br])++G)) wp)(f:ss.length+(W.length+G.length)<=390)(i:Rd H b (.dK CP))
  (j:∀q∈G,1<=q.b) (l:∀e,gi p ls lw H e->dc a e p ls lw (ss++(dJ G).reverse) (dJ W) wp->Q (.bl L) e)
 |no p ls lw ss G wp(g:c=[.ref p])(h:dc a H p ls lw ss (dJ G) wp)(f:ss.length+G.length<=390)(i:Rd H b (.dK CP))(j:∀q∈G,1<=q.b)(l:∀e,gi p ls lw H e->Q (.bl O) e)
def aI:AH [jt] [jt] (defScope CL):=cY
def Yt{tB}(F:cC d "take_close" "Reading.take_close" CL f m)(B:Bl i)(a:KK d c)(n:i og=eq (.int 1 tB))(g:Mt P ab d i j c "settle" 1 [jt,nM] (spSet c l)):bH P ab d i j cF 2 f m [jt] (spTC c l):=by
 obtain⟨fS,dS,g,mS,N⟩:=g.ex;refine F.ok aI (λvs H Q E h=>?_) (λbf ag an ar H vs Q E hr h=>?_)
 .cases h with
  |mk p t s u W G v e=>subst e;rfl
  |no p t s u G v e=>subst e;rfl
 .refine(_,AB (AV (Co (Z 0) a.cl mS g hr N .nil Af (AA (BM (v:=.int 1) Y n (tB,Y)) AG)))
   (AB (AU (AL Ao (AR (A1 d rfl) rfl B.len PySem.boot_len (AA (Ae (Z 0) rfl) AG)) AF (AN _)) (AC (AJ CQ)) AM)
   (AB (AV (Fq plainAttrs_list slot_list_pop type_list_pop Hg (Ae (Z 0) rfl)))
   (AC (AJ CQ)))),?_)
  cases h with
  |no p t s u G v e R X z C q=>
   subst e;obtain⟨y,A⟩:=id R.ex;refine(_,Y,p,y,_,Y,A,Bq _ _ _,p,t,s,u,[],G,1,v,Y,R,by show _+(0+_)<=400;lia,z,C,.inl Y,λM D r=>?_);obtain⟨x,w⟩:=id r.ex;exact(_,Y,p,c,x,_,_,Y,w,a.cl,a.nW,FQ _ _ _,s,_,Y,.inl (bZ.of r.hw),Y,_,Y,AZ (q _ D))
  |mk p t s u W G v e R X z C q=>
  subst e;obtain⟨y,A⟩:=id R.ex;refine(_,Y,p,y,_,Y,A,Bq _ _ _,p,t,s,u,W++[.br],G,1,v,Y,R,by grind,z,C,.inr (by rw[Dy];decide),λM D r=>?_);obtain⟨x,w⟩:=id r.ex;obtain⟨al,S,T⟩:=N0 W .br;refine(_,Y,p,c,x,_,_,Y,w,a.cl,a.nW,FQ _ _ _,s,_,Y,.inl (bZ.of r.hw),Y,_,Y,?_)
  rw[zN (λaz=>by
   grind)]
  apply AS;refine(_,Y,p,c,x,_,_,Y,w,a.cl,a.nW,FQ _ _ _,.inl (Y,_,bZ.of r.hw),s,_,.str Sg.br.s,Y,Y,r.hw,S,?_);rw[T];exact q _ (λb o e n1 n2 I=>by rw[AE I];exact D b o e n1 n2 I) (r.waits (dJ W))
inductive StopX(x:Str)(W:List Sg):Bool->Prop
 |ahead(a:x≠ " ")(b:x≠ "~")(c:x≠ "("):StopX x W L
 |between(a:x≠ " ")(b:x≠ "&")(c:x≠ "^")(d:x≠ "|")(e:x≠ ")"):StopX x W O
 |close(a:x=")")(h:∀q∈W,1<=q.b):StopX x W O
inductive spTS(a b:jr)(c:jq)(H:Hp)(Q:VK)(d:XK):Prop
 |mk p ls lw x S S' W W' wp iZ(g:c=[.ref p,.str x])(h:dc a H p ls lw S (dJ W) wp)(i:SgStep x S W wp S' W' iZ)(f:S.length+W.length<=380)(j:Rd H b (.dK CP))
  (l:∀e,gi p ls lw H e->dc a e p ls lw S' (dJ W') iZ->Q (.bl L) e)
 |no p ls lw x S W wp(g:c=[.ref p,.str x])(h:dc a H p ls lw S (dJ W) wp)(i:StopX x W wp)(f:S.length+W.length<=380)(j:Rd H b (.dK CP))(l:∀e,gi p ls lw H e->Q (.bl O) e)
def aJ:AH [jt,lS] [jt,lS] (defScope Cg):=cY
def Jz(g:Sg):decide (V.str g.s=V.str " ")=O/\decide (V.str g.s=V.str ")")=O:=by cases g<;>decide +kernel
def Yu(F:cC c "take_sign" "Reading.take_sign" Cg an fd)(a:KK c b)(u:Mt P w c n m b "take_between" 2 [jt,lS] (spTB b s))(f:Mt P w c n m b "take_ahead" 1 [jt,lS] (spTA b))(v:Mt P w c n m b "take_close" 2 [jt] (spTC b s)):bH P w c n m cF 3 an fd [jt,lS] (spTS b s):=by
 obtain⟨fB,dB,u,ag,bB⟩:=u.ex;obtain⟨fA,dA,f,al,ab⟩:=f.ex;obtain⟨fC,dC,v,mC,bC⟩:=v.ex;refine F.ok aJ (λvs H Q E h=>?_) (λbf as az aC H vs Q E C h=>?_)
 .cases h with
  |mk p o l x S S' W I A ar e=>subst e;rfl
  |no p o l x S W A e=>subst e;rfl
 .have D:bJ 1 _:=C.mono qc
  refine(_,AB (AU (AL Ao (Z 1) AI (AN _)) (AC (AJ CQ)) AM)
   (AB (AU (Ak (Ae (Z 0) rfl)) (AC (AJ (Co (Z 0) a.cl al f D ab .nil Af (AA (Z 1) AG)))) AM)
   (AC (AJ (BX (AL Ao (Z 1) AI (AN _)) (BY (Z 0) a.cl mC v C bC .nil Af) (Co (Z 0) a.cl ag u C bB .nil Af (AA (Z 1) AG)))))),?_)
  cases h with
  |no p o l x S W A e R st j t q=>
   subst e;obtain⟨d,i⟩:=id R.ex;refine(_,rfl,rfl,_,rfl,?_);cases st with
   |ahead r M y=>
    rw[zN (λz=>r (V.str.inj z))];exact AS (_,Y,p,b,d,_,_,Y,i,a.cl,a.nP,FR _ _ _,_,Y,AZ (_,Y,p,d,_,Y,i,Bq _ _ _,_,Y,.no p x Y M y (q _ (gi.refl _ _ _ _))))
   |between r M y h4 T=>
    rw[zN (λz=>r (V.str.inj z))];refine AS (_,Y,p,b,d,_,_,Y,i,a.cl,a.nP,FR _ _ _,_,Y,AS (_,Y,Y,_,Y,?_));rw[zN (λz=>T (V.str.inj z))];exact AS (_,Y,p,d,_,Y,i,Bq _ _ _,_,Y,.no p x Y M y h4 (q _ (gi.refl _ _ _ _)))
   |close r h=>
    subst r;refine AS (_,Y,p,b,d,_,_,Y,i,a.cl,a.nP,FR _ _ _,_,Y,AS ?_);exact(_,Y,Y,_,Y,AZ (_,Y,p,d,_,Y,i,Bq _ _ _,.no p o l S W O Y R (by lia) t h q))
  |mk p o l x S S' W I A ar e R st j t q=>
  subst e;obtain⟨d,i⟩:=id R.ex;refine(_,rfl,rfl,_,rfl,?_);cases st with
  |blank=>
   exact AZ (q _ (gi.refl _ _ _ _) R)
  |ahead _ _ g N=>
   rw[(Jz g).1];exact AS (_,Y,p,b,d,_,_,Y,i,a.cl,a.nP,FR _ _ _,_,Y,AZ (_,Y,p,d,_,Y,i,Bq _ _ _,_,Y,.mk p o l S W g gl Y N R (by lia) q))
  |join _ X G g N B hw=>
   rw[(Jz g).1];rw[zG]at j;refine AS (_,Y,p,b,d,_,_,Y,i,a.cl,a.nP,FR _ _ _,_,Y,AS (_,Y,Y,_,Y,?_));rw[(Jz g).2];exact AS (_,Y,p,d,_,Y,i,Bq _ _ _,_,Y,.mk p o l S X G g Y N R (by lia) t B hw q)
  |close _ _ G B=>
   rw[zG,zG]at j;refine AS (_,Y,p,b,d,_,_,Y,i,a.cl,a.nP,FR _ _ _,_,Y,AS ?_);exact(_,Y,Y,_,Y,AZ (_,Y,p,d,_,Y,i,Bq _ _ _,.mk p o l S I G O Y R (by lia) t B q))
inductive spEnds(a b:jr)(c:jq)(H:Hp)(Q:VK)(d:XK):Prop
 |mk p ls lw ss G(i:c=[.ref p])(j:dc a H p ls lw ss (dJ G) O)(l:ss.length+G.length<=390)(h:∀q∈G,1<=q.b)(m:Rd H b (.dK CP))
  (n:∀e,gi p ls lw H e->dc a e p ls lw (ss++(dJ G).reverse) [] O->Q (.bl L) e)
 |no p ls lw ss W wp(i:c=[.ref p])(j:dc a H p ls lw ss (dJ W) wp)(l:ss.length+W.length<=390)(h:wp=L\/∃g f,W=(g++[.br])++f/\∀q∈f,1<=q.b)(m:Rd H b (.dK CP))(n:∀e,gi p ls lw H e->Q (.bl O) e)
theorem N1:∀W:List Sg,(∀q∈W,1<=q.b)\/∃d a,W=(d++[.br])++a/\∀q∈a,1<=q.b
 | []=>.inl λq h=>nomatch h
 |g::W=>by
  rcases N1 W with h|⟨d,a,e,h⟩
  .by_cases i:1<=g.b
   .simp_all
   .have:g=.br:=by cases g<;>first|rfl|trivial
    subst this;exact .inr ([],W,Y,h)
  grind
def Xs:AH [jt] [jt] (defScope EL):=cY
def V4{tB}(F:cC c "ends" "Reading.ends" EL f fd)(B:Bl g)(i:KK c b)(m:g og=eq (.int 1 tB))(C:Mt P ag c g n b "settle" 1 [jt,nM] (spSet b s)):bH P ag c g n cF 2 f fd [jt] (spEnds b s):=by
 obtain⟨fS,dS,C,X,A⟩:=C.ex;refine F.ok Xs (λvs H Q E h=>?_) (λbf an ar as H vs Q E S h=>?_)
 .cases h with
  |mk p t l u G e=>simp_all
  |no p t l u W v e=>simp_all
 ·
  refine(_,AB (AV (Co (Z 0) i.cl X C S A .nil Af (AA (BM (v:=.int 1) Y m (tB,Y)) AG)))
   (AC (AJ (CB (R8 (Ae (Z 0) rfl)) (CW (Cn Ao (AR (A1 c rfl) rfl B.len PySem.boot_len (AA (Ae (Z 0) rfl) AG)) AF (AN _)))))),?_)
  cases h with
  |no p t l u W v e R j hw y q=>
   subst e;obtain⟨D,I⟩:=id R.ex
   obtain⟨o,G,eW,T,ab,hn⟩:∃o G,W=o++G/\(∀q∈G,1<=q.b)/\(o=[]\/Nz o<1)/\(v=L\/o≠ []):=by
    rcases N1 W with h|⟨w,M,e,h⟩
    .refine([],W,rfl,h,.inl rfl,?_);rcases hw with al|⟨w,M,e,_⟩
     .simp_all
     .have:=h .br (by simp_all);exact absurd this qc
    .exact(w++[.br],M,e,h,.inr (by rw[Dy];decide),.inr (by simp))
   subst eW;rw[zG]at j;refine(_,rfl,p,D,_,rfl,I,Bq _ _ _,p,t,l,u,o,G,1,v,rfl,R,by lia,y,T,ab,λN x r=>?_);obtain⟨a,d⟩:=id r.ex;refine(_,rfl,p,b,a,_,_,rfl,d,i.cl,i.nP,FR _ _ _,_,rfl,_,rfl,?_);cases v with
   |true=>exact AS (q _ x)
   |false=>
    refine AZ (_,Y,p,b,a,_,_,Y,d,i.cl,i.nW,FQ _ _ _,l,_,Y,.inl (bZ.of r.hw),Y,?_)
    rw[zN (λal=>by
     simp_all)]
    exact q _ x
  |mk p t l u G e R j z y q=>
  subst e;obtain⟨D,I⟩:=id R.ex;refine(_,Y,p,D,_,Y,I,Bq _ _ _,p,t,l,u,[],G,1,O,Y,R,by grind,y,z,.inl Y,λN x r=>?_);obtain⟨a,d⟩:=id r.ex;exact(_,Y,p,b,a,_,_,Y,d,i.cl,i.nP,FR _ _ _,_,Y,_,Y,AZ (_,Y,p,b,a,_,_,Y,d,i.cl,i.nW,FQ _ _ _,l,_,Y,.inl (bZ.of r.hw),Y,q _ x r))
def V5(s:bD H b)(h:Rd H a o):Rd b a o:=by
 rcases h with h|⟨o,h⟩
 .exact .inl (s _ _ h)
 .exact .inr (o,s _ _ h)
def dc.same{d a}(s:bD H c)(h:dc b H p f g d a j):dc b c p f g d a j:=by
 obtain⟨i,e⟩:=h.ex;exact((i,s _ _ e),s _ _ h.hs,s _ _ h.hw,h.ne)
def MH(g:Sg):(⟨#[g.c]⟩:Str)=g.s:=by cases g<;>decide +kernel
def WT(g:Sg):Di g.c=O/\C9 g.c=O:=by cases g<;>exact(rfl,rfl)
inductive RnN(lt:Bool)(z:Str)(o:Out)(a:Nat)(S:jm)(W:List Sg)(b:Bool):Prop
 |done(g:a=z.length)(i:b=O)(h:∀q∈W,1<=q.b)(e:o=.ok (S++(dJ W).reverse))
 |part(i:b=L) n(h:KJ lt z a n)(m:0<n)(r:Rn lt z o (a+n) (S++[sl z a (a+n)]) W O)
 |sign c S' W' iZ(j:z.cps.toList[a]?=U c)(no:KJ lt z a 0)(st:SgStep ⟨#[c]⟩ S W b S' W' iZ)(r:Rn lt z o (a+1) S' W' iZ)(l:S'.length+W'.length<=S.length+W.length+1)
 |stop c(j:z.cps.toList[a]?=U c)(no:b=L->KJ lt z a 0)(st:StopX ⟨#[c]⟩ W b)(e:o=.bad a)
 |ends(g:a=z.length)(p:b=L\/∃f d,W=(f++[.br])++d/\∀q∈d,1<=q.b)(e:o=.bad z.length)
def MJ(j:z.cps.toList[a]?=U c)(no:Di c=O/\C9 c=O)(e:Cm c=O):KJ lt z a 0:=by
 obtain⟨d,i⟩:=z8.mp j;rw[Az]at d;refine(by lia,λk l h=>absurd h (by simp_all),λ_=>UH (w:=[]) no ?_ (.inr e));rw[HK z (by simp_all) (by assumption)];rw[show a+0+1-a=1 by simp_all,nil_append];rw[List.drop_eq_getElem_cons (by lia),i];rfl
def FS(a:x.cps.toList=[d])(h:c≠d):(⟨#[c]⟩:Str)≠x:=λz=>h (by
 have:=congrArg (λy:Str=>y.cps.toList) z;simp only at this;rw[a]at this
 injection this)
def Rn.next(h:Rn lt z o a S W b):RnN lt z o a S W b:=by
 cases h with
 |done _ _ h e=>exact .done rfl rfl h e
 |blank _ _ _ _ h r=>exact .sign 32 _ _ _ h (MJ h (rfl,rfl) rfl) (by rw[show(⟨#[32]⟩:Str)=" " by decide +kernel];exact .blank _ _ _) r (by lia)
 |part _ n _ _ h y r=>exact .part rfl n h y r
 |ahead _ _ _ g q h r=>exact .sign g.c _ _ _ h (MJ h (WT g) (by cases g<;>rfl)) (by rw[MH];exact .ahead _ _ g q) r (by simp;lia)
 |join _ _ W Q g q h j i r=>exact .sign g.c _ _ _ h (MJ h (WT g) (by cases g<;>rfl)) (by rw[MH];exact .join _ W Q g q j i) r (by simp;lia)
 |close _ _ W Q h j r=>exact .sign 41 _ _ _ h (MJ h (rfl,rfl) rfl) (by rw[show(⟨#[41]⟩:Str)=")" by decide +kernel];exact .close _ W Q j) r (by simp;lia)
 |stop _ c _ _ _ h E e=>
  have u:((" ":Str)).cps.toList=[32]:=by decide +kernel
  have G:(("~":Str)).cps.toList=[126]:=by decide +kernel
  have B:(("(":Str)).cps.toList=[40]:=by decide +kernel
  have F:(("&":Str)).cps.toList=[38]:=by decide +kernel
  have v:(("^":Str)).cps.toList=[94]:=by decide +kernel
  have A:(("|":Str)).cps.toList=[124]:=by decide +kernel
  have D:((")":Str)).cps.toList=[41]:=by decide +kernel
  cases E with
  |ahead p d t l=>exact .stop c h (λ_=>p) (.ahead (FS u d) (FS G t) (FS B l)) e
  |between d t l C x=>exact .stop c h (λz=>nomatch z) (.between (FS u d) (FS F t) (FS v l) (FS A C) (FS D x)) e
  |close d i=>exact .stop c h (λz=>nomatch z) (.close (by rw[d];decide +kernel) i) e
 |ends _ _ _ i e=>exact .ends rfl i e
structure Yv(P:Program)(w:World)(K:FG)(mg:SV)(base:Heap)(DC bd:jr):Prop where
 T:KK K DC
 cls:mg "Reading"=U (.ref DC)
 make:∃f fd,Mk K DC f/\bH P w K mg base cF 1 f fd [jt] (spRd0 DC)/\Binds K fd [jt] []
 tp:Mt P w K mg base DC "take_part" 1 [jt,oH] (spTP DC)
 ts:Mt P w K mg base DC "take_sign" 3 [jt,lS] (spTS DC bd)
 en:Mt P w K mg base DC "ends" 2 [jt] (spEnds DC bd)
def aK(H:Hp)(Q:VK)(E:XK)(a:jr):Out->Prop
 |.ok T=>∀l b,bD H b->b l=U (.lst (T.map V.str))->Q (.ref l) b
 |.bad e=>g6 H E a (.int (e:Int))
inductive spSt(c:FG)(e d a:jr)(b:jq)(H:Hp)(Q:VK)(E:XK):Prop
 |mk z lt o(f:b=[.str z,.bl lt])(g:z.cps.all (· < 128)=L)(h:z.length<=100)(i:Rn lt z o 0 [] [] L)(j:Rd H d (.dK CP))(l:aK H Q E a o)
 |bQ v lt(f:b=[v,.bl lt])(g:fy c mQ H v)(h:g6 H E a .bQ)
noncomputable abbrev NSt:jm:=[ku,j9,"reading","at","end"]
def scSt:AH NSt [ku,j9] (defScope Cw):=cY
inductive StA(lt:Bool)(b:jr)(z:Str)(o:Out)(p c d:jr)(H:Hp)(a:Nat):Prop
 |mk S W wp(R:dc b H p c d S (dJ W) wp)(t:Rn lt z o a S W wp)(l:S.length+W.length<=a)(h:a<=z.length)
def N2{n:Nat}(h:n<=1000):AtV (.int (n:Int)):=.inr (_,rfl,IP (Nat.lt_of_le_of_lt h qc))
def Yw(F:cC g lA lA Cw az fd)(ab:Bl l)(i:Yv P w g l n f bd)(m:QI P w g l n cM cT)(GE:Fn P w g l n "part_end" 5 [ku,"at",j9] spPE):bH P w g l n (d6 P w) 6 az fd [ku,j9] (spSt g f bd cT):=by
 obtain⟨fI,dI,MI,GI,bI⟩:=i.make;obtain⟨fT,dT,GT,mT,bT⟩:=i.tp.ex;obtain⟨fS,dS,GS,mS,bS⟩:=i.ts.ex;obtain⟨fN,dN,GN,mN,bN⟩:=i.en.ex;have mC:=i.cls;have A:=i.T;obtain⟨fX,dX,D,GX,bX⟩:=m.make;have mX:=m.cls;refine F.gD scSt (λvs H a3 ar h=>?_) (λbf aM a2 a0 H vs a3 ar hr h=>?_)
 .cases h with
  |mk z lt o e=>simp_all
  |bQ v lt e=>subst e;rfl
 .have rz:=FX (P:=P) (w:=w) (ω:=g) (mg:=l) (base:=n) (N:=NSt) (qual:=lA) (scope:=defScope Cw) (f:=az) (cd:=bf) (A:=aM) (outer:=a2) (s:=a0) (H:=H) (E:=ar);have bb:bJ 1 _:=hr.mono qc;have gZ:bJ 2 _:=hr.mono qc;have al:bJ 3 _:=hr.mono qc;have R:=scSt.nd
  refine(_,AB (AU (Ar (Ak (Bn g Y Y ab.fj Y ab.str FE (Z 0)))) (AC (CI rz Y D.cls (CH D GX al Y mX bX .nil Af (AA B9 AG)))) AM)
   (AB (A5 2 R (SK MI GI gZ rfl mC bI .nil Af))
   (AB (A5 3 R AF)
   (An (Gi PassesOwn.leaving (AL Ff (Z 3) (AR A4 rfl ab.len PySem.boot_len (AA (Z 0) AG)) (AN _))
    (An (A5 4 R (BX (Ak (Ae (Z 2) rfl)) (dm GE hr (AA (Z 0) (AA (Z 3) (AA (Z 1) AG)))) (Z 3)))
    (AC (AU (AL IW (Z 4) (Z 3) (AN _))
     (AB (AV (Co (Z 2) A.cl mT GT bb bT .nil Af (AA (Mh TJ (Z 0) (Iq (Z 3)) (Iq (Z 4))) AG))) (AC (A5 3 R (Z 4))))
     (AC (AU (Ak (Co (Z 2) A.cl mS GS al bS .nil Af (AA (Am LZ (Z 0) (Z 3) (λ_ _=>rfl)) AG))) (AC (OI (i:=3) R rfl (Or.inl rfl) AF (Pb:ee _ _ _))) (AC (CI rz rfl D.cls (CH D GX al rfl mX bX .nil Af (AA (Z 3) AG))))))))))
   (AB (AU (Ar (Ak (BY (Z 2) A.cl mN GN gZ bN .nil Af))) (AC (CI rz rfl D.cls (CH D GX al rfl mX bX .nil Af (AA (AR A4 rfl ab.len PySem.boot_len (AA (Z 0) AG)) AG)))) AM)
   (AC (AJ (Ae (Z 2) rfl))))))),?_)
  cases h with
  |bQ v lt e hv hU=>
   subst e;obtain⟨a1,ht,hk⟩:=hv.ty;exact(_,Y,_,_,_,O,Y,ht,hk,_,Y,AZ (IQ (te:=tC .bQ) D.cls m.st (.inl Y) (bD.refl _) hU (λ_ z=>z)))
  |mk z lt o e ha bg RN hB q=>
  subst e;refine(_,Y,_,_,_,L,Y,.str z,Y,_,Y,AS ?_);intro p dx hp cc cb;have sN:=FN (D:=f) hp cc cb;refine(p,dx,Y,bA,λx C H1 s1 a6 a9 R1=>(Y,?_));have S1:bD H H1:=λb o e=>s1 b o (sN _ _ e) (AK e hp);have a7:H x=f8:=none_of sN a6;have ba:H C=f8:=none_of sN a9;have T:∀{t d:Hp},bD H t->gi p x C t d->bD H d:=λ{t d}a b c o e=>b c o (a c o e) (AK e hp) (AK e a7) (AK e ba);have ag:∀{t:Hp},bD H t->Rd t bd (.dK CP):=λ{t}a=>V5 a hB;refine(λj N=>(∃E,j=[U (.str z),U (.bl lt),U (.ref p),U (.int (z.length:Int)),E])/\bD H N/\∃S W r,dc f N p x C S (dJ W) r/\S.length+W.length<=300/\((r=O/\(∀q∈W,1<=q.b)/\o=.ok (S++(dJ W).reverse))\/((r=L\/∃W1 W2,W=(W1++[.br])++W2/\∀q∈W2,1<=q.b)/\o=.bad z.length)),λas X=>?_,?_)
  .refine(λaR j t=>∃a E,j=[U (.str z),U (.bl lt),U (.ref p),U (.int ((a:Nat):Int)),E]/\aR=z.length-a/\bD H t/\StA lt f z o p x C t a,(z.length,0,f8,rfl,rfl,S1,.mk [] [] L R1 RN (Nat.zero_le _) (Nat.zero_le _)),?_);rintro aR j t ⟨a,E,rfl,rfl,s,S,W,r,R2,a1,bj,b8⟩;refine(_,rfl,_,rfl,z,rfl,Nat.le_of_lt (AQ (by lia)),_,_,rfl,rfl,_,rfl,?_);obtain⟨G,I⟩:=id R2.ex;cases a1.next with
   |done ea ew h e=>
    subst ea ew;rw[zN (show ¬ ((z.length:Nat):Int)<(z.length:Int) by lia)];exact AS (X _ _ ((_,Y),s,S,W,O,R2,by lia,.inl (Y,h,e)))
   |ends ea hw e=>
    subst ea;rw[zN (show ¬ ((z.length:Nat):Int)<(z.length:Int) by lia)];exact AS (X _ _ ((_,Y),s,S,W,r,R2,by lia,.inr (hw,e)))
   |part ew an pt hn aC=>
    subst ew;have a5:=pt.le;rw[zK (show((a:Nat):Int)<(z.length:Int) by lia)];refine AZ (λj d=>∃b E,j=[U (.str z),U (.bl lt),U (.ref p),U (.int ((b:Nat):Int)),E]/\z.length-b<z.length-a/\bD H d/\StA lt f z o p x C d b,λet N zz=>by obtain⟨b,v,e1,e2,e3,e4⟩:=zz;exact (z.length-b,e2,b,v,e1,Y,e3,e4),(λj d=>j=[U (.str z),U (.bl lt),U (.ref p),U (.int ((a:Nat):Int)),U (.int ((a+an:Nat):Int))]/\bD H d/\dc f d p x C S (dJ W) L,λas X=>?_,?_))
    .exact(_,Y,p,f,G,_,_,Y,I,A.cl,A.nP,FR _ _ _,_,Y,AZ ((_,Y,_,Y,_,Y,z,a,an,lt,Y,ha,by lia,pt,λd s3=>X _ _ (Y,s.trans s3,R2.same s3))))
    .rintro j d ⟨rfl,M,B⟩;obtain⟨u,y⟩:=id B.ex;refine(_,Y,_,Y,_,_,Y,Y,_,Y,?_);rw[zK (show((a+an:Nat):Int)>((a:Nat):Int) by lia)];refine AZ ?_;exact(_,Y,p,u,_,Y,y,Bq _ _ _,_,Y,_,Y,_,Y,_,Y,_,Y,z,Y,Nat.le_of_lt (AQ (by lia)),p,x,C,S,dJ W,L,_,Y,B,by lia,λH4 s4 R4=>(_,Y,a+an,_,Y,by lia,T M s4,.mk _ W O R4 aC (by grind) a5))
   |sign c S' W' iZ Q no st aC bh=>
    have a8:a<z.length:=by
     have:=(z8.mp Q).1;rw[Az]at this;exact this
    rw[zK (show((a:Nat):Int)<(z.length:Int) by lia)];refine AZ (λj d=>∃b E,j=[U (.str z),U (.bl lt),U (.ref p),U (.int ((b:Nat):Int)),E]/\z.length-b<z.length-a/\bD H d/\StA lt f z o p x C d b,λet N zq=>by obtain⟨b,v,e1,e2,e3,e4⟩:=zq;exact (z.length-b,e2,b,v,e1,Y,e3,e4),(λj d=>j=[U (.str z),U (.bl lt),U (.ref p),U (.int ((a:Nat):Int)),U (.int ((a:Nat):Int))]/\bD H d/\dc f d p x C S (dJ W) r,λas X=>?_,?_))
    .refine(_,rfl,p,f,G,_,_,rfl,I,A.cl,A.nP,FR _ _ _,_,rfl,?_);cases r with
     |false=>exact AS (_,rfl,X _ _ (rfl,s,R2))
     |true=>exact AZ (_,rfl,_,rfl,_,rfl,z,a,0,lt,rfl,ha,by lia,no,λd s3=>X _ _ (rfl,s.trans s3,R2.same s3))
    .rintro j d ⟨rfl,M,B⟩;obtain⟨u,y⟩:=id B.ex;refine(_,Y,_,Y,_,_,Y,Y,_,Y,?_);rw[zN (show ¬ ((a:Nat):Int)>((a:Nat):Int) by lia)];refine AS ?_;refine(_,Y,p,u,_,Y,y,Bq _ _ _,_,Y,_,Y,z,(a:Int),c,Y,Y,Nat.le_of_lt (AQ (by lia)),BQ Q,.mk p x C ⟨#[c]⟩ S S' W W' r iZ Y B st (by lia) (ag M) λH4 s4 R4=>(_,Y,AZ (_,Y,_,_,Y,Y,a+1,U (.int ((a:Nat):Int)),?_,by lia,T M s4,.mk S' W' iZ R4 aC (by lia) (by lia))));rfl
   |stop c Q no st e=>
    have a8:a<z.length:=by
     have:=(z8.mp Q).1;rw[Az]at this;exact this
    subst e;rw[zK (show((a:Nat):Int)<(z.length:Int) by lia)];refine AZ (λj d=>False,λet N z=>z.elim,(λj d=>j=[U (.str z),U (.bl lt),U (.ref p),U (.int ((a:Nat):Int)),U (.int ((a:Nat):Int))]/\bD H d/\dc f d p x C S (dJ W) r,λas X=>?_,?_))
    .refine(_,rfl,p,f,G,_,_,rfl,I,A.cl,A.nP,FR _ _ _,_,rfl,?_);cases r with
     |false=>exact AS (_,rfl,X _ _ (rfl,s,R2))
     |true=>exact AZ (_,rfl,_,rfl,_,rfl,z,a,0,lt,rfl,ha,by lia,no rfl,λd s3=>X _ _ (rfl,s.trans s3,R2.same s3))
    .rintro j d ⟨rfl,M,B⟩;obtain⟨u,y⟩:=id B.ex;refine(_,Y,_,Y,_,_,Y,Y,_,Y,?_);rw[zN (show ¬ ((a:Nat):Int)>((a:Nat):Int) by lia)];refine AS ?_;exact(_,Y,p,u,_,Y,y,Bq _ _ _,_,Y,_,Y,z,(a:Int),c,Y,Y,Nat.le_of_lt (AQ (by lia)),BQ Q,.no p x C ⟨#[c]⟩ S W r Y B st (by lia) (ag M) λH4 s4=>(_,Y,AS (IQ (te:=Ij 3) D.cls m.st (N2 (by lia)) (T M s4) q (λ_ k=>(_,Y,k)))))
  rintro j t ⟨⟨E,rfl⟩,s,S,W,r,R2,bk,a4⟩;obtain⟨G,I⟩:=id R2.ex;rcases a4 with⟨rfl,hq,rfl⟩|⟨hw,rfl⟩
  .refine(_,Y,p,G,_,Y,I,Bq _ _ _,.mk p x C S W Y R2 (by lia) hq (ag s) λd s3 B=>(_,Y,AS ?_));obtain⟨u,y⟩:=id B.ex;exact(_,Y,p,f,u,_,_,Y,y,A.cl,A.nS,UG _ _ _,q x d (T s s3) B.hs)
  .exact(_,Y,p,G,_,Y,I,Bq _ _ _,.no p x C S W r Y R2 (by lia) hw (ag s) λd s3=>(_,Y,AZ (IQ D.cls m.st (N2 (by lia)) (T s s3) q (λ_ k=>(_,Y,z,Y,Nat.le_of_lt (AQ (by lia)),k)))))
abbrev En:=Str->Option (Nat×Nat)
inductive Nk(H:Hp)(g:En):V->Prop
 |str x(h:g x=J):Nk H g (.str x)
 |bQ:Nk H g .bQ
 |int i:Nk H g (.int i)
 |tup a xs(h:H a=U (.tup xs)):Nk H g (.ref a)
def Nk.no(h:Nk H g v):(∃x,v=.str x/\g x=J)\/∃t,eh b H v t/\W.kitOne b t (.type mQ)=U O:=by
 cases h with
 |str x h=>exact .inl (x,rfl,h)
 |bQ=>exact .inr (_,.bQ,qd)
 |int i=>exact .inr (_,.int i,qd)
 |tup a d h=>exact .inr (_,.tup h,qd)
def Nk.same(s:bD H b)(h:Nk H g v):Nk b g v:=by
 cases h with
 |tup a d h=>exact .tup a d (s _ _ h)
 |str x h=>exact .str x h
 |bQ=>exact .bQ
 |int i=>exact .int i
abbrev UK(a:FG):Sp:=λb H Q _=>∃v d t,b=[v,.ref d]/\eh a H v t/\W.kitOne a t (.type mQ)=U O/\Q (.bl O) H
def V6(F:cC b lr lr G7 f c)(B:Bl g):bH P w b g m cF 1 f c [jz,jZ] (UK b):=by
 refine F.m K6 λl H Q E h=>?_;obtain⟨v,d,t,rfl,ht,i,k⟩:=h;refine(Y,λj A a s e=>?_);exact(_,AC (AJ (CB (Bn b Y Y B.fj Y B.str FE (Z 0)) (CW (LL (Ft (Bs e) (Z 0) (Z 1)))))),_,Y,_,_,_,O,Y,ht,i,_,Y,AS k)
abbrev WU(a:FG):Sp:=λb H Q E=>FZ a b H Q E\/UK a b H Q E
def PM(a:Aa):En:=λx=>if x∈a.map (·.1)then U (0,(0))else J
def ML(h:x∉ a.map (·.1)):PM a x=J:=zh h
def V7(h:PM a x=J):x∉ a.map (·.1):=λz=>by
 unfold PM at h;rw[zg z]at h;cases h
def QN(a b:Nat):Builtin.bitXor (a) (b)=((a^^^b:Nat):Int):=by
 have e:(a^^^b)|||(a&&&b)=a|||b:=by
  refine Nat.eq_of_testBit_eq λk=>?_;simp;cases a.testBit k<;>cases b.testBit k<;>rfl
 have h:(a^^^b)&&&(a&&&b)=0:=by
  refine Nat.eq_of_testBit_eq λk=>?_;simp only[Nat.testBit_and,Nat.testBit_xor,Nat.zero_testBit];cases a.testBit k<;>cases b.testBit k<;>rfl
 have i:=T8 (a^^^b) (a&&&b);have d:Builtin.bitXor a b=Builtin.bitOr a b-Builtin.bitAnd a b:=rfl;rw[d,C2,C7]
 simp_all
structure Nv where
 bG:Aa
 kvs:LK
 tb:Str->Nat
noncomputable def wv(n:Nv)(x:Str):Nat:=if BD x then n.tb x else if CM x then look n.bG x else digitsVal x.cps.toList
structure WdOk(n:Nv)(x:Str):Prop where
 as:x.cps.all (· < 128)=L
 l0:0<x.length
 l6:x.length<=200
 or:(BD x=L/\Ai n.kvs (Sum.inr x)=U (.int (n.tb x:Nat)))\/(BD x=O/\CM x=L/\x∈n.bG.map (·.1))\/(BD x=O/\CM x=O/\AllDigits x.cps.toList)
def WdOk.nb(h:WdOk n x):x≠ "|" /\ x≠ "&" /\ x≠ "^" /\ x≠ "~":=by
 have d:∀y,BD y=O->CM y=O->(∃c∈y.cps.toList,¬ (48<=c/\c<=57))->x≠y:=λy l j ⟨c,e,i⟩ z=>by
  subst z;rcases h.or with⟨a,_⟩|⟨_,a,_⟩|⟨_,_,b⟩
  .simp_all
  .simp_all
  .exact i (b c e)
 exact(d _ (by rfl) (by rfl) (124,by trivial,qc),d _ (by rfl) (by rfl) (38,by trivial,qc),d _ (by rfl) (by rfl) (94,by trivial,qc),d _ (by rfl) (by rfl) (126,by trivial,qc))
structure NmNo(n:Nv)(x:Str):Prop where
 as:x.cps.all (· < 128)=L
 l6:x.length<=200
 lt:BD x=O
 nm:CM x=L
 no:x∉ n.bG.map (·.1)
def NmNo.nb(h:NmNo n x):x≠ "|" /\ x≠ "&" /\ x≠ "^" /\ x≠ "~":=by
 have a:∀y,CM y=O->x≠y:=λy d z=>by
  subst z;have:=h.nm;rw[d]at this;cases this
 exact(a _ (by rfl),a _ (by rfl),a _ (by rfl),a _ (by rfl))
noncomputable def Sg.f:Sg->Nat->Nat->Nat|.an,a,b=>a&&&b|.xo,a,b=>a^^^b|_,a,b=>a|||b
inductive EvS(n:Nv):List Nat->Str->List Nat->Prop
 |ng h v:EvS n (h++[v]) "~" (h++[kn n.bG-(kn n.bG&&&v)])
 |bn(g:Sg)(c:g.eO) h a b:EvS n (h++[a]++[b]) g.s (h++[g.f a b])
 |wd x(W:WdOk n x) h:EvS n h x (h++[wv n x])
inductive Ev(n:Nv)(o:Option Nat):List Nat->jm->Prop
 |nil v(e:o=U v):Ev n o [v] []
 |cons h h' x S(a:EvS n h x h')(b:Ev n o h' S):Ev n o h (x::S)
 |no h x S(a:NmNo n x)(e:o=J):Ev n o h (x::S)
noncomputable def Tr.d8(n:Nv):Tr->Nat
 |.wd x=>wv n x
 |.ng t=>kn n.bG-(kn n.bG&&&t.d8 n)
 |.bn g a b=>g.f (a.d8 n) (b.d8 n)
def Tr.Ok(n:Nv):Tr->Prop
 |.wd x=>WdOk n x
 |.ng t=>t.Ok n
 |.bn g a b=>g.eO/\a.Ok n/\b.Ok n
theorem Ix:∀(t:Tr),t.Ok n->∀h S,Ev n o (h++[t.d8 n]) S->Ev n o h (t.post++S)
 |.wd x,k,h,S,r=>.cons _ _ _ _ (.wd x k h) r
 |.ng t,k,h,S,r=>by
  show Ev n o h ((t.post++[("~":Str)])++S);rw[List.append_assoc];exact Ix t k h _ (.cons _ _ _ _ (.ng h _) r)
 |.bn g a b,k,h,S,r=>by
  show Ev n o h ((a.post++b.post++[g.s])++S);rw[List.append_assoc,List.append_assoc];exact Ix a k.2.1 h _ (Ix b k.2.2 _ _ (.cons _ _ _ _ (.bn g k.1 h _ _) r))
def UL{t:Tr}(k:t.Ok n):Ev n (U (t.d8 n)) [] t.post:=by
 have:=Ix t k [] [] (.nil _ rfl)
 rwa[zl]at this
def EvS.len{h a}{x}(e:EvS n h x a):a.length<=h.length+1:=by
 cases e<;>simp<;>lia
inductive spJn(c:jq)(H:Hp)(Q:VK)(d:XK):Prop
 |mk(g:Sg)(a b:Nat)(e:c=[.str g.s,.int (a),.int (b)])(f:g.eO)(h:Q (.int ((g.f a b:Nat):Int)) H)
def aL:AH [lS,l7,kf] [lS,l7,kf] (defScope Lz):=cY
def Yx(F:cC m "joined" "joined" Lz f c):bH P w m o n cF 1 f c [lS,l7,kf] spJn:=by
 refine F.m aL λl H Q E h=>?_;obtain⟨g,a,b,rfl,e,q⟩:=h;refine(rfl,λi A d s j=>?_);refine(_,AB (AU (AL Ao (Z 0) AI (AN _)) (AC (AJ (AX Ca (Z 1) (Z 2)))) AM) (AB (AU (AL Ao (Z 0) AI (AN _)) (AC (AJ (AX SG (Z 1) (Z 2)))) AM) (AC (AJ (AX JD (Z 1) (Z 2))))),(_,rfl,rfl,_,rfl,?_));cases g with
 |br=>exact e.elim
 |no=>exact e.elim
 |an=>
  refine AZ (_,Y,_,Y,_,_,Y,Y,?_);show Q (V.int (Builtin.bitAnd _ _)) H
  rwa[C7]
 |xo=>
  refine AS (_,Y,Y,_,Y,AZ (_,Y,_,Y,_,_,Y,Y,?_));show Q (V.int (Builtin.bitXor _ _)) H
  rwa[QN]
 |or=>
  refine AS (_,Y,Y,_,Y,AS (_,Y,_,Y,_,_,Y,Y,?_));show Q (V.int (Builtin.bitOr _ _)) H
  rwa[C2]
inductive spKN(C b:jr)(a:jq)(H:Hp)(Q:VK)(E:XK):Prop
 |mk p bG r x(d:a=[.ref p,.str x])(e:cE C H p bG r)(f:x∈bG.map (·.1))(c:Q (.int (look bG x)) H)
 |no p bG r x(d:a=[.ref p,x])(e:cE C H p bG r)(f:Nk H (PM bG) x)(c:Uq H E b)
def Yy(F:cC b jC "Kind.number" E4 f s)(T:Gh b C)(D:eE P w b g c jD n)(m:Fn P w b g c lr 1 [jz,jZ] (WU b)):bH P w b g c (d6 P w) 3 f s [jt,jx] (spKN C n):=by
 obtain⟨an,al,l,G,z⟩:=D.make;refine F.gD Tx (λab H Q E h=>?_) (λag A as ar H ab Q E v h=>?_)
 .cases h with
  |mk p a r x e=>simp_all
  |no p a r x e=>simp_all
 .have I:=Bs v
  refine(_,AB (AU (Ar (Ak (dm m v (AA (Z 1) (AA (Ae (Z 0) Y) AG))))) (AC (CI (FX) Y l.cls (CH l G v Y D.cls z .nil Af (AA AI AG)))) AM)
   (AC (AJ (Au I (Ae (Z 0) rfl) (Z 1) (λ_ _=>rfl)))),?_)
  cases h with
  |mk p a r x e y o k=>
   subst e;obtain⟨j,d,u,X,R,q,i,S⟩:=y.ex;refine(_,Y,_,Y,p,C,j,_,_,Y,q,T.cl,T.nN,FI _ _ _,.inl (.inl (x,d,A8 a,Y,.inr (u,i),_,Y,?_)));rw[Cz o];apply AS;exact(_,Y,p,C,j,_,_,Y,q,T.cl,T.nN,FI _ _ _,_,Y,d,_,Y,.inl (_,Sum.inr x,.inr (u,i),Y,(Cz o).symm),k)
  |no p a r x e y o B=>
   subst e;obtain⟨j,d,u,X,R,q,i,S⟩:=y.ex;refine(_,rfl,_,rfl,p,C,j,_,_,rfl,q,T.cl,T.nN,FI _ _ _,?_);rcases o.no with⟨x,rfl,N⟩|⟨t,ht,M⟩
   .refine .inl (.inl (x,d,A8 a,Y,.inr (u,i),_,Y,?_));rw[ES (V7 N)];exact AZ (Cl (te:=λ_=>tC (.str "")) l.cls (bD.refl _) B)
   .exact .inr (_,d,t,Y,ht,M,_,Y,AZ (Cl (te:=λ_=>tC (.str "")) l.cls (bD.refl _) B))
structure B6(P:Program)(w:World)(K:FG)(mg:SV)(base:Heap)(C:jr)(m:Str)(k:Nat)(ps:jm)(sp:Sp):Prop where
 ex:∃f fd,bH P w K mg base (d6 P w) k f fd ps sp/\OP K C m f/\Binds K fd ps []
structure ip(P:Program)(w:World)(K:FG)(mg:SV)(base:Heap)(x:Str)(k:Nat)(ps:jm)(sp:Sp):Prop where
 ex:∃f fd,bH P w K mg base (d6 P w) k f fd ps sp/\mg x=U (.ref f)/\W.keepIn K (.ref f)=L/\Binds K fd ps []
inductive spPN(C b:jr)(a:jq)(H:Hp)(Q:VK)(E:XK):Prop
 |mk k t x n r(e:a=[.ref k,.str x,.ref t])(f:cE C H k n.bG r)(h:Rd H t (.dK n.kvs))(g:WdOk n x)(d:∀c,bD H c->Q (.int (wv n x)) c)
 |no k t x n r(e:a=[.ref k,.str x,.ref t])(f:cE C H k n.bG r)(g:NmNo n x)(d:Uq H E b)
def aN:AH [jJ,oH,lP] [jJ,oH,lP] (defScope E5):=cY
def Yz(F:cC b nA nA E5 f D)(B:Bl c)(T:Gh b C)(m:Fn P w b c g lZ 1 [jz] (spLet b))(R:Fn P w b c g nH 1 [jz] spIsName)(v:B6 P w b c g C jC 3 [jt,jx] (spKN C s)):bH P w b c g (d6 P w) 4 f D [jJ,oH,lP] (spPN C s):=by
 obtain⟨fK,dK,v,M,S⟩:=v.ex;refine F.gD aN (λal H Q E h=>?_) (λar A an as H al Q E u h=>?_)
 .cases h with
  |mk k t x n r e=>simp_all
  |no k t x n r e=>simp_all
 .have l:bJ 1 _:=u.mono qc
  refine(_,AB (AU (Ak (dm m l (AA (Z 1) AG))) (AC (AJ (Au (Bs u) (Z 2) (Z 1) (λ_ _=>rfl)))) AM)
   (AB (AU (Ak (dm R l (AA (Z 1) AG))) (AC (AJ (Co (Z 0) T.cl M v u S .nil (DP) (AA (Z 1) AG)))) AM)
   (AC (AJ (BF Fk rfl B.int II (AA (Z 1) AG))))),?_)
  cases h with
  |no k t x n r e o W I=>
   subst e;obtain⟨dk,ag,ab,y⟩:=o.ins;have G:=W.l6;refine(_,Y,.txt x Y W.l6 (_,Y,?_));rw[W.lt];refine AS (_,Y,x,Y,W.as,by lia,λp d=>(_,Y,?_));rw[W.nm];exact AZ (_,Y,k,dk,_,Y,d _ _ y,(Cq _ _ _),_,Y,.no k n.bG r (.str x) Y (o.same d) (.str x (ML W.no)) (I.of d))
  |mk k t x n r e o ht W q=>
   subst e;obtain⟨dk,ag,ab,y⟩:=o.ins;have G:=W.l6;refine(_,rfl,.txt x rfl W.l6 (_,rfl,?_));rcases W.or with⟨i,X⟩|⟨i,j,N⟩|⟨i,j,L⟩
   .have a:=q H (bD.refl _);unfold wv at a;rw[i]at a;rw[i];exact AZ (_,Y,_,Y,t,_,Y,.inl (_,Sum.inr x,ht,Y,X.symm),a)
   .rw[i];refine AS (_,Y,x,Y,W.as,by lia,λp d=>(_,Y,?_));have a:=q p d;unfold wv at a;rw[i,j]at a;rw[j];exact AZ (_,Y,k,dk,_,Y,d _ _ y,(Cq _ _ _),_,Y,.mk k n.bG r x Y (o.same d) N a)
   .rw[i];refine AS (_,Y,x,Y,W.as,by lia,λp d=>(_,Y,?_));have a:=q p d;unfold wv at a;rw[i,j]at a;rw[j];have l0:=W.l0;exact AS (_,Y,x,_,Y,by lia,intText_digits L (λz=>by have:=Az x;rw[z]at this;simp at this;lia) (by lia),a)
def NoK(H:Hp)(Q:VK)(E:XK)(a:jr):Option Nat->Prop
 |some v=>∀b,bD H b->Q (.int ((v:Nat):Int)) b
 |none=>Uq H E a
inductive spNo(C a:jr)(b:jq)(H:Hp)(Q:VK)(E:XK):Prop
 |mk k l t S o n r(d:b=[.ref k,.ref l,.ref t])(e:cE C H k n.bG r)(i:Rd H t (.dK n.kvs))(f:H l=U (.lst (S.map V.str)))(c:S.length<=400)(g:Ev n o [] S)(h:NoK H Q E a o)
noncomputable abbrev NNo:jm:=[jJ,ll,lP,"held","step","last"]
def scNo:AH NNo [jJ,ll,lP] (defScope Hz):=cY
def Fc(h)(v:Nat):gB (A0 (h++[v])) (-1)=U (V.int (v))/\(A0 (h++[v]))[(A0 (h++[v])).length-1]?=U (V.int (v))/\(A0 (h++[v])).dropLast=A0 h/\gY (A0 (h++[v])).length (-1)=U h.length/\∀u,(A0 (h++[v])).set h.length u=A0 h++[u]:=by
 have e:A0 (h++[v])=A0 h++[V.int v]:=by unfold A0;rw[zm];rfl
 have d:(A0 h).length=h.length:=AO _;rw[e]
 have a:gY (A0 h++[V.int v]).length (-1)=U h.length:=by
  unfold gY;simp
  lia
 refine(?_,?_,List.dropLast_concat,a,λu=>?_)
 .unfold gB
  simp_all
 .simp_all
 simp_all
def UM{g:Sg}(h:g.eO):(if O=L then !fG (V.str g.s) [V.str "&",V.str "^",V.str "|"]else fG (V.str g.s) [V.str "&",V.str "^",V.str "|"])=L:=by
 cases g<;>first|trivial|rfl
def Y0(F:cC c ou ou Hz a2 fd)(a0:Gh c C)(mJ:l "JOINING"=U (.ref f))(s:∀H,cD c H f [.str "&",.str "^",.str "|"])(q:Mt P w c l r C kY 2 [jt] (spKnown C))(GJ:Fn P w c l r "joined" 1 [lS,l7,kf] spJn)(m:ip P w c l r nA 4 [jJ,oH,lP] (spPN C cB)):bH P w c l r (d6 P w) 5 a2 fd [jJ,ll,lP] (spNo C cB):=by
 obtain⟨fP,dP,m,mP,kP,bP⟩:=m.ex;obtain⟨fK,dK,q,mK,bK⟩:=q.ex;refine F.n scNo λvs H a5 a4 h=>?_;obtain⟨k,az,ag,aR,o,n,ab,rfl,x,hT,hl,a6,aM,aC⟩:=h;refine(Y,λbf a3 a8 a9 S=>?_);have nd:=scNo.nd
 refine(_,AB (A5 3 nd (As AG))
  (AB (CY PassesOwn.leaving rfl (BW (Z 1)) (BH 4 nd)
   (AC (AU (AL Ao (Z 4) AI (AN _))
    (AC (Bg (AX Ca (BY (Z 0) a0.cl mK q (S.mono qc) bK .nil Af) (DW LR (Am (Al c rfl) (Z 3) (DW Dc AF) (λ_ _=>rfl)))) (LP (Z 3) (DW Dc AF) Gk)))
    (AC (AU (AL FV (Z 4) (BM (v:=.ref f) rfl mJ rfl) rfl)
     (AB (A5 5 nd (Fq plainAttrs_list slot_list_pop type_list_pop Hg (Z 3)))
     (AC (Bg (dm GJ S (AA (Z 4) (AA (Am (Al c rfl) (Z 3) (DW Dc AF) (λ_ _=>rfl)) (AA (Z 5) AG)))) (LP (Z 3) (DW Dc AF) Gk))))
     (AC (AV (Aw (Z 3) (AA (At m S rfl mP kP bP .nil (DP) (AA (Z 0) (AA (Z 4) (AA (Z 2) AG)))) AG)))))))))
  (AC (AJ (Fq plainAttrs_list slot_list_pop type_list_pop Hg (Z 3))))),?_)
 refine ez λN E=>((by simp_all),λd I=>?_);have z:=AD (bD.refl _) I (o:=HO.lst []);have h1:=bA (H:=H) (a:=d) (o:=HO.lst []);generalize upd H d (HO.lst [])=H1 at z h1 ⊢;refine(d3 E (ez λN E=>(_,Y,az,Y,(_,bZ.of (z _ _ hl)),CC (λi u t=>(∃v4 v5,u=[U (.ref k),U (.ref az),U (.ref ag),U (.ref d),v4,v5])/\bD H t/\∃h,t d=U (.lst (A0 h))/\Ev n o h (aR.drop i)/\h.length<=i) ((_,_,Y),z,[],h1,aM,Nat.zero_le _) (λi u t _ e=>bZ.of (e.2.1 _ _ hl)) ?_ ?_)):N _ _)
 .intro i ba u t hi h;refine egN λv A=>?_;obtain⟨⟨v4,v5,rfl⟩,B,h,p,M,a7⟩:=h;rw[zy]at hi;obtain⟨y,hy,rfl⟩:=z6.mp hi;obtain⟨ig,ey⟩:=z8.mp hy;rw[List.drop_eq_getElem_cons ig,ey]at M;have keep:∀{R:Hp}o,bD H R->bD H (upd R d o):=λ{R}o a b al e=>by rw[AE (AK e I)];exact a b al e
  refine(_,rfl,rfl,_,rfl,?_);cases M with
  |no _ _ _ W e=>
   subst e;obtain⟨X,n2,n3,n4⟩:=W.nb;rw[zN (λar=>n4 (V.str.inj ar))];refine AS (_,Y,f,_,Y,.inr (s _),Y,Y,_,Y,?_)
   have D:(if O=gl then !fG (V.str y) [V.str "&",V.str "^",V.str "|"]else fG (V.str y) [V.str "&",V.str "^",V.str "|"])=O:=by
    unfold fG;simp[iB,Ne.symm X,Ne.symm n2,Ne.symm n3]
   rw[D];exact AS (_,Y,.inl (Y,_,bZ.of p),_,Y,_,Y,_,Y,.no k ag y n ab Y (x.same B) W (Uq.of B aC))
  |cons _ h' _ _ es G=>
   have ck:=es.len;cases es with
   |ng j a=>
    obtain⟨T,l2,l3,l4,l5⟩:=Fc j a;have as:=x.same B;obtain⟨a1,e1,e2,bi⟩:=as.ins;refine AZ (_,Y,k,a1,_,Y,bi,(Cq _ _ _),k,n.bG,ab,Y,as,λR s3=>?_);refine(_,Y,_,Y,d,_,-1,.int a,Y,Y,bZ.of (s3 _ _ p),T,_,Y,_,_,Y,Y,(_,Y,_,Y,d,_,-1,j.length,Y,Y,s3 _ _ p,l4,(d3 A ((_,_,Y),keep _ (B.trans s3),j++[kn n.bG-(kn n.bG&&&a)],?_,G,by lia):v.nx _ _)));rw[bA,l5];show U (HO.lst (A0 j++[V.int (Builtin.bitAnd ((Ah ((Aj n.bG).map (·.1)))) (Builtin.bitNot a))]))=_;rw[Jv,ED];unfold A0;rw[zm];rfl
   |bn g Q j a b=>
    obtain⟨T,l2,l3,l4,l5⟩:=Fc (j++[a]) b;obtain⟨m1,m2,m3,m4,m5⟩:=Fc j a;rw[show decide (V.str g.s=V.str "~")=O by cases g<;>first|exact Q.elim|decide +kernel];refine AS (_,Y,f,_,Y,.inr (s _),Y,Y,_,Y,?_);rw[UM Q];apply AZ;refine(_,Y,.inl (Y,_,bZ.of p),d,_,.int b,Y,Y,p,l2,?_);rw[l3];have h3:=bA (H:=t) (a:=d) (o:=HO.lst (A0 (j++[a])));refine(_,Y,_,Y,_,Y,d,_,-1,.int a,Y,Y,bZ.of h3,m1,_,Y,g,a,b,Y,Q,_,Y,_,Y,d,_,-1,j.length,Y,Y,h3,m4,(d3 A ((_,_,Y),keep _ (keep _ B),j++[g.f a b],?_,G,by lia):v.nx _ _));rw[bA];unfold A0
    simp_all
   |wd _ W _=>
    obtain⟨X,n2,n3,n4⟩:=W.nb;rw[zN (λar=>n4 (V.str.inj ar))];refine AS (_,Y,f,_,Y,.inr (s _),Y,Y,_,Y,?_)
    have D:(if O=gl then !fG (V.str y) [V.str "&",V.str "^",V.str "|"]else fG (V.str y) [V.str "&",V.str "^",V.str "|"])=O:=by
     unfold fG;simp[iB,Ne.symm X,Ne.symm n2,Ne.symm n3]
    rw[D];refine AS (_,Y,.inl (Y,_,bZ.of p),_,Y,_,Y,_,Y,.mk k ag y n ab Y (x.same B) (bD.rd B hT) W λR s3=>(d,_,_,Y,Y,s3 _ _ p,AQ (by unfold A0;grind),(d3 A ((_,_,Y),keep _ (B.trans s3),h++[wv n y],?_,G,by lia):v.nx _ _)));rw[bA];unfold A0
    simp_all
 .rintro u t ⟨⟨v4,v5,rfl⟩,B,h,p,M,_⟩;rw[AO,List.drop_length]at M;cases M with
  |nil an e=>
   subst e;obtain⟨T,l2,l3,l4,l5⟩:=Fc [] an;refine(d3 E ?_:N _ _);refine(_,Y,.inl (Y,_,bZ.of p),d,_,.int an,Y,Y,p,Y,aC _ λb al e=>?_);rw[AE (AK e I)];exact B b al e
end Mk
namespace L2
open PySem
def PN{n}{a}{c}{g}{tt}{f}{h}{R}{m}{e}(d:Nat->List Key->Hp->Prop)(o:d 0 [] e)(l:∀i b H,i<=c.length->d i b H->bZ n H a c)(q:∀i b H,d i b H->b.length<=1000)
  (p:∀i x b H,c[i]?=U x->d i b H->bT g tt (taS f) h m x b (d (i+1)) H) (j:∀b H,d c.length b H->R b H):tW (iL n a) [] Lq (bT g tt (taS f) h m) R e:=Km d o l q p j
end L2
namespace Mk
open PySem L2 MK PySem.NumText
structure LtL(ns S:jm):Prop where
 nd:ns.Nodup
 so:PyProof.Rows.sortedS ns=L
 mem:∀x,x∈ns ↔ (x∈S/\BD x=L)
inductive spLi(a:jq)(H:Hp)(Q:VK)(b:XK):Prop
 |mk l S(f:a=[.ref l])(g:H l=U (.lst (S.map V.str)))(h:S.length<=400)(e:(S.filter BD).length<64)(i:∀x∈S,x.length<=200)(j:∀p d c,bD H c->c p=U (.lst (d.map V.str))->LtL d S->Q (.ref p) c)
def aO:AH [ll] [ll] (defScope GQ):=cY
def Y1(F:cC b nZ nZ GQ f n)(B:Bl c)(g:Fn P w b c m lZ 1 [jz] (spLet b)):bH P w b c m cF 2 f n [ll] spLi:=by
 refine F.m aO λvs H Q E h=>?_;obtain⟨l,S,rfl,s,M,an,u,q⟩:=h;refine(Y,λbf A I ar T=>?_);refine(_,AC (AJ (AR (Lr Y) Y B.sorted Dv (AA (RU [] [] (by rfl) (by simp) (by rfl) Y (BW (Z 0)) (λ_ _ _ _ _ _=>Gr (Ak (dm g T (AA (Z 0) AG)))) (λ_ _ _ _ _ _=>Z 0)) AG))),(_,Y,l,Y,(_,bZ.of s),PN (λi o r=>r=H/\∃d:jm,o=d.map Sum.inr/\d.Nodup/\(∀x,x∈d ↔ x∈(S.take i).filter BD)/\d.length<=((S.take i).filter BD).length) (Y,[],Y,nodup_nil,λx=>by simp,Nat.zero_le _) (λi o r _ k=>by obtain⟨e,_⟩:=k;exact e ▸ bZ.of s) (λi o r ⟨_,d,e,_,_,a⟩=>?_) ?_ ?_))
 .grind
 .rintro i as o r N ⟨rfl,d,rfl,C,v,a⟩;rw[zy]at N;obtain⟨y,ag,rfl⟩:=z6.mp N;have e1:(S.take (i+1)).filter BD=(S.take i).filter BD++[y].filter BD:=by rw[zx,ag,Option.toList_some,List.filter_append]
  refine(_,rfl,.txt y rfl (u y (by grind)) (_,rfl,?_));cases al:BD y with
  |false=>
   exact AS (Y,d,Y,C,by simp[*],by simp_all)
  |true=>
   refine AZ (_,Y,Sum.inr y,Y,Y,?_);unfold NN;by_cases t:(Sum.inr y:Key)∈d.map Sum.inr
   .grind
   .rw[zh t];refine(y::d,Y,zj.mpr (λz=>t (zi.mpr (_,z,Y)),C),λx=>?_,?_)
    .grind
    simp_all
 .rintro o r ⟨rfl,d,rfl,C,v,a⟩ p X;rw[AO,zu]at v a;refine(p,d,Y,bA,by lia,λR ab G j D=>q R ab _ (AD (AD (bD.refl _) X) G) bA (j.nodup_iff.mpr C,D,λx=>?_))
  grind
def aP:Key->Bool|Sum.inr x=>BD x|Sum.inl _=>O
def UN:V->Bool|.int i=>okN i|_=>O
def iG(a:Key×V):Bool:=aP a.1&&UN a.2
structure QO(kvs:LK):Prop where
 len:kvs.length<=1000
 key:∀a∈kvs,∀x,a.1=Sum.inr x->x.length<=200
 val:∀a∈kvs,(∃i,a.2=.int i)\/a.2=.bl L\/a.2=.bQ
inductive spTab(c:FG)(b:jq)(H:Hp)(Q:VK)(d:XK):Prop
 |mk a o kvs(f:b=[.ref a])(g:H a=U (.dz o (.dK kvs)))(h:QO kvs)(i:∀e,bD H e->Q (.bl (kvs.all iG)) e)
 |bQ v(f:b=[v])(g:fy c kg H v)(h:Q (.bl O) H)
def Y2:AH [jz] [jz] (defScope Jj):=cY
def PP(c)(d:X.K=c):cH X (.builtin jR) (λe H Q=>(∃v T t b,e=[v,.ty T]/\eh c H v t/\W.kitOne c t (.type T)=U b/\Q (.bl b) H)\/∃a o f,e=[.ref a,.ty kg]/\H a=U (.dz o (.dK f))/\Q (.bl L) H):=d ▸ cH.or Mp RG
def MM:bootBuiltins kg=U (.type kg):=by rfl
def Xu(F:cC c "is_table" "is_table" Jj f A)(B:Bl g)(s:g kg=J)(T:Fn P w c g m lZ 1 [jz] (spLet c))(t:Fn P w c g m lL 2 [jz] (PL c)):bH P w c g m cF 3 f A [jz] (spTab c):=by
 refine F.ok Y2 (λag H Q E h=>?_) (λar al an as H ag Q E M h=>?_)
 .cases h with
  |mk a o d e=>simp_all
  |bQ v e=>simp_all
 .refine(_,AB (AU (Ar (Ak (AR (PP c Y) Y B.fj EQ (AA (Z 0) (AA (C6 (v:=.ty kg) Y s MM Y) AG))))) (AC (AJ CQ)) AM)
   (AC (AJ (AR (Ds rfl) rfl B.all IH (AA (Gs [] [] (by rfl) (by trivial) (by rfl) (by rfl) rfl (JP (Z 0)) (λ_ _ _ _ _ _=>BR) (λ_ _ _ _ _ _=>CB (dm T M (AA (Z 0) AG)) (CW (dm t M (AA (Z 1) AG))))) AG)))),?_)
  cases h with
  |bQ v e ab k=>
   subst e;obtain⟨az,ht,R⟩:=ab.ty;exact(_,Y,.inl (_,_,_,O,Y,ht,R,_,Y,AZ k))
  |mk a o d e D X k=>
   subst e;refine(_,Y,.inr (a,o,d,Y,D,_,Y,AS ((_,Y,a,o,d,Y,D,O4 (λi u r=>bD H r/\u=((d.take i).map iG).map V.bl) (bD.refl _,Y) (λi u r zz=>by obtain⟨y,_⟩:=zz;exact y _ _ D) (λi u r ⟨_,e⟩=>?_) ?_ ?_))))
   .have:=X.len;rw[e,AO,AO,zt]
    lia
   .rintro i q u r p z ⟨y,rfl⟩ I;have s3:=AD (bD.refl _) I (o:=HO.tup [kV q.1,q.2]);have l:=zP z;refine(p,_,Y,cD.of bA,Y,_,_,Y,_,_,Y,Y,?_)
    have j:∀b,b=iG q->bD H (upd r p (.tup [kV q.1,q.2]))/\((d.take i).map iG).map V.bl++[V.bl b]=((d.take (i+1)).map iG).map V.bl:=λb N=>by
     refine(y.trans s3,?_);rw[zx,z,zm,zm,N];rfl
    obtain⟨G,val⟩:=q;cases G with
    |inl n=>
     refine(_,Y,.bQ (.int n) Y (UF (by rfl)) (_,Y,AS (j _ Y)))
    |inr x=>
     refine(_,rfl,.txt x rfl (X.key _ l x rfl) (_,rfl,?_));cases S:BD x with
     |false=>
      refine AS (j _ ?_);show O=(BD x&&UN val)
      simp_all
     |true=>
      have C:iG (Sum.inr x,(val))=UN val:=by
       show(BD x&&UN val)=UN val;rw[S];rfl
      refine AZ (_,rfl,?_);rcases X.val _ l with⟨n,e⟩|e|e
      .subst e;exact .inl (n,Y,j _ C.symm)
      .subst e;exact .inr (_,Y,.inl Y,j _ C.symm)
      .subst e;exact .inr (_,Y,.inr (UE (by rfl)),j _ C.symm)
   .rintro u r ⟨y,rfl⟩ p I;rw[zu];refine(p,d.map iG,Y,bZ.of bA,?_);rw[all_map];exact k _ (y.trans (AD (bD.refl _) I))
structure Y3(P:Program)(w:World)(K:FG)(mg:SV)(base:Heap)(DC bd cT:jr):Prop where
 ex:∃f fd,bH P w K mg base (d6 P w) 6 f fd [ku,j9] (spSt K DC bd cT)/\mg lA=U (.ref f)/\W.keepIn K (.ref f)=L/\∃ds,Binds K fd [ku,j9] ds/\Vals [.bl L] ds
structure UO(T:jm):Prop where
 l4:T.length<=400
 l64:(T.filter BD).length<64
 sh:∀x∈T,x.length<=200
inductive RkG(C a d b c:jr)(T:jm)(kp:jr)(n:Nv)(H:Hp)(Q:VK)(E:XK):Prop
 |fY x(j:x∈T)(g:BD x=L)(h:Ai n.kvs (Sum.inr x)=J)(q:Uq H E c)
 |go o(i:∀x∈T,BD x=L->Ai n.kvs (Sum.inr x)≠J)(f:Ev n o [] T)(q:match o with|none=>Uq H E b|some v=>∀e,bD H e->spMade C a d [.ref kp,.int (v:Int)] e Q E)
inductive RkK(d:FG)(C f j i c:jr)(T:jm)(kp:jr)(n:Nv)(b:V)(H:Hp)(Q:VK)(E:XK):Prop
 |tab(h:(fy d kg H b)\/∃a o l,b=.ref a/\H a=U (.dz o (.dK l))/\QO l/\l.all iG=O)(q:Uq H E c)
 |is a o(e:b=.ref a)(h:H a=U (.dz o (.dK n.kvs)))(t:QO n.kvs)(m:n.kvs.all iG=L)(g:RkG C f j i c T kp n H Q E)
inductive spRk(b:FG)(C f i g h c d:jr)(a:jq)(H:Hp)(Q:VK)(E:XK):Prop
 |mk kp z T tv n r(j:a=[.ref kp,.str z,tv])(l:cE C H kp n.bG r)(m:z.cps.all (· < 128)=L)(o:z.length<=100)(s:Rn L z (.ok T) 0 [] [] L)(p:UO T)(q:Rd H c (.dK CP))(t:RkK b C f i g h T kp n tv H Q E)
 |bad kp z e tv(j:a=[.ref kp,.str z,tv])(l:z.cps.all (· < 128)=L)(m:z.length<=100)(o:Rn L z (.bad e) 0 [] [] L)(p:Rd H c (.dK CP))(q:g6 H E d (.int (e:Int)))
 |bQ kp v tv(j:a=[.ref kp,v,tv])(l:fy b mQ H v)(m:g6 H E d .bQ)
noncomputable abbrev NRk:jm:=[jJ,ku,lP,ll]
def scRk:AH NRk [jJ,ku,lP] (defScope Du):=cY
def RkG.same{T}(s:bD H b)(h:RkG C c m f g T kp n H Q E):RkG C c m f g T kp n b Q E:=by
 cases h with
 |fY x e d l q=>exact .fY x e d l (q.of s)
 |go o j p q=>
  refine .go o j p ?_;cases o with
  |none=>exact Uq.of s q
  |some v=>exact λi a=>q i (s.trans a)
def Y4(F:cC b m8 m8 Du f fd)(a2:Bl c)(EN:eE P w b c d kj cN)(SO:Y3 P w b c d DC bd cT)(GI:Fn P w b c d nZ 2 [ll] spLi)(GT:Fn P w b c d "is_table" 3 [jz] (spTab b))(g:ip P w b c d ou 5 [jJ,ll,lP] (spNo C cB))(GM:ip P w b c d "made" 6 [jJ,jC] (spMade C VC cR)):bH P w b c d (d6 P w) 7 f fd [jJ,ku,lP] (spRk b C VC cR cB cN bd cT):=by
 obtain⟨fS,dS,GS,mS,kS,ds,bS,vS⟩:=SO.ex;obtain⟨fN,dN,g,mN,kN,bN⟩:=g.ex;obtain⟨fM,dM,GM,mM,kM,bM⟩:=GM.ex;obtain⟨fX,dX,S,GX,bX⟩:=EN.make;have mX:=EN.cls;refine F.gD scRk (λvs H an E h=>?_) (λbf A aR s H vs an E p h=>?_)
 .cases h with
  |mk kp z T X n a0 e=>simp_all
  |bad kp z a X e=>simp_all
  |bQ kp v X e=>simp_all
 .have ag:bJ 2 _:=p.mono qc;have nd:=scRk.nd;have rz:=FX (P:=P) (w:=w) (ω:=b) (mg:=c) (base:=d) (N:=NRk) (qual:=m8) (scope:=defScope Du) (f:=f) (cd:=bf) (A:=A) (outer:=aR) (s:=s) (H:=H) (E:=E);have ps:=DP (P:=P) (w:=w) (ω:=b) (mg:=c) (base:=d) (N:=NRk) (qual:=m8) (scope:=defScope Du) (f:=f) (cd:=bf) (A:=A) (outer:=aR) (s:=s) (H:=H) (E:=E)
  refine(_,AB (A5 3 nd (At GS p Y mS kS bS vS ps (AA (Z 1) AG)))
   (An (AU (Ar (Ak (dm GT p (AA (Z 2) AG)))) (AC (CI rz rfl S.cls (CH S GX ag rfl mX bX .nil Af (AA AI AG)))) AM)
   (An (AU (Ar (Ak (AR (Ds rfl) rfl a2.all IH (AA (Bt [lP] [U 2] (by rfl) (by trivial) (by rfl) rfl (BW (dm GI ag (AA (Z 3) AG))) (λ_ _ _ _ _ _=>BR) (λ_ _ _ _ _ _=>LL (Ft (Bs p) (Z 0) (Z 1)))) AG)))) (AC (CI rz rfl S.cls (CH S GX ag rfl mX bX .nil Af (AA AI AG)))) AM)
   (AC (AJ (At GM p rfl mM kM bM .nil ps (AA (Z 0) (AA (At g (p.mono qc) rfl mN kN bN .nil ps (AA (Z 0) (AA (Z 3) (AA (Z 2) AG)))) AG))))))),?_)
  cases h with
  |bQ kp v X e hv q=>
   subst e;exact(_,Y,.bQ v L Y hv q)
  |bad kp z a X e ha as RN hB q=>
   subst e;exact(_,Y,.mk z L (.bad a) Y ha as RN hB q)
  |mk kp z T X n a0 e KA ha as RN SP hB RK=>
   subst e;refine(_,Y,.mk z L (.ok T) Y ha as RN hB λl H1 G hl=>?_);have a3:=KA.same G;refine(λN j=>∃a o,N=[U (.ref kp),U (.str z),U (.ref a),U (.ref l)]/\bD H1 j/\j a=U (.dz o (.dK n.kvs))/\RkG C VC cR cB cN T kp n j an E,λa5 hR=>?_,?_)
   .cases RK with
    |tab h q=>
     rcases h with h|⟨a,o,ba,e,h,az,al⟩
     .exact(_,Y,.bQ X Y (h.same G) (_,Y,AZ (Cl (te:=λ_=>tC (.str "")) S.cls G q)))
     .subst e;refine(_,Y,.mk a o ba Y (G _ _ h) az λj I=>(_,Y,?_));rw[al];exact AZ (Cl (te:=λ_=>tC (.str "")) S.cls (G.trans I) q)
    |is a o e h az al a7=>
     subst e;refine(_,Y,.mk a o n.kvs Y (G _ _ h) az λj I=>(_,Y,?_));rw[al];exact AS (hR _ _ (a,o,Y,I,I _ _ (G _ _ h),a7.same (G.trans I)))
   rintro N j ⟨a,o,rfl,I,aM,aC⟩;have a9:=I _ _ hl;refine(λN r=>N=[U (.ref kp),U (.str z),U (.ref a),U (.ref l)]/\bD j r/\RkG C VC cR cB cN T kp n r an E/\(∀x∈T,BD x=L->Ai n.kvs (Sum.inr x)≠f8),λa5 hR=>?_,?_)
   .refine(_,Y,l,T,Y,a9,SP.l4,SP.l64,SP.sh,λbb u r s3 hp Q=>?_)
    have ck:u.length<=1000:=by
     have h1:(u.map V.str).length<=1000:=by
      rcases Nat.lt_or_ge 1000 (u.map V.str).length with z|z
      .exfalso;have h4:=SP.l4
       have R:u.length<=T.length:=by
        have:∀(l:jm),l.Nodup->∀m:jm,(∀x∈l,x∈m)->l.length<=m.length:=by
         intro l;induction l with
         |nil=>simp_all
         |cons y l ih=>
          intro nd m hm;obtain⟨n1,n2⟩:=zj.mp nd;have hy:=hm y (by simp);have:=ih n2 (m.erase y) λx D=>(List.mem_erase_of_ne (λe=>n1 (by simp_all))).mpr (hm x (zQ _ D));rw[List.length_erase_of_mem hy]at this;have:=List.length_pos_of_mem hy;rw[length_cons]
          lia
        exact this u Q.nd T λx D=>((Q.mem x).mp D).1
       rw[AO]at z
       lia
      .exact z
     rwa[AO]at h1
    refine(bb,Y,(_,bZ.of hp),B0 (λi M t=>t=r/\M=((u.take i).map λx=>(Ai n.kvs (Sum.inr x)).isSome).map V.bl) (Y,Y) (λi M t _ k=>by obtain⟨e,_⟩:=k;exact e ▸ bZ.of hp) (λi M t ⟨_,e⟩=>?_) ?_ ?_)
    .grind
    .rintro i v M t hi ⟨rfl,rfl⟩;rw[zy]at hi;obtain⟨y,hy,rfl⟩:=z6.mp hi;refine(_,Y,_,Y,a,_,Y,.inl (_,Sum.inr y,.inr (o,s3 _ _ aM),Y,Y),Y,?_);rw[zx,hy,zm,zm];rfl
    .rintro M t ⟨rfl,rfl⟩ p2 bp;rw[AO,zu];have ar:=s3.trans (AD (bD.refl _) bp (o:=HO.lst ((u.map λx=>(Ai n.kvs (Sum.inr x)).isSome).map V.bl)));refine(p2,u.map λx=>(Ai n.kvs (Sum.inr x)).isSome,Y,bZ.of bA,_,Y,?_)
     have a8:(∀x∈T,BD x=L->Ai n.kvs (Sum.inr x)≠f8)->(u.map λx=>(Ai n.kvs (Sum.inr x)).isSome).all id=L:=λh=>by
      rw[all_map];refine all_eq_true.mpr λx D=>?_;obtain⟨h1,h2⟩:=(Q.mem x).mp D;exact Option.isSome_iff_ne_none.mpr (h x h1 h2)
     cases id aC with
     |fY x D ab R q=>
      have:(u.map λx=>(Ai n.kvs (Sum.inr x)).isSome).all id=gt:=by
       rw[all_map,List.all_eq_false];refine(x,(Q.mem x).mpr (D,ab),?_);show ¬ (Ai n.kvs (Sum.inr x)).isSome=L;rw[R];decide
      rw[this];exact AZ (Cl (te:=λ_=>tC (.str "")) S.cls ar q)
     |go o' B ev q=>
      rw[a8 B];exact AS (hR _ _ (Y,ar,aC.same ar,B))
   rintro N r ⟨rfl,s3,a6,B⟩;have a1:=I.trans s3;cases a6 with
   |fY x D ab R q=>exact absurd R (B x D ab)
   |go o' B ev q=>
    refine(_,rfl,_,rfl,_,rfl,_,rfl,.mk kp l a T o' n a0 rfl (a3.same a1) (.inr (o,s3 _ _ aM)) (a1 _ _ hl) SP.l4 ev ?_);cases o' with
    |none=>exact q
    |some v=>exact q
def V8(e:0<w.length)(o:w.length<=6)(i:w.all Di=L):iT lt w:=by
 refine(e,λk l d x a=>?_)
 suffices h:CM x=L by unfold Jx;rw[h];rfl
 have j:x.length=k:=by rw[←Az,a,zt];simp_all
 unfold CM;rw[a,zK (by lia),zK (by lia)];refine all_eq_true.mpr λc p=>all_eq_true.mp i c (by grind)
noncomputable abbrev dg(m:Nat):List Nat:=(Nat.toDigits 10 m).map Char.toNat
def QP(h:¬ m<10):dg m=dg (m/10)++dg (m%10):=by
 have t:Nat.toDigits 10 (m/10)++Nat.toDigits 10 (m%10)=Nat.toDigits 10 (10*(m/10)+m%10):=Nat.toDigits_append_toDigits qc (by simp_all) (Nat.mod_lt m qc)
 grind
def MN(h:m<10):dg m=[m+48]:=by
 show(Nat.toDigits 10 m).map Char.toNat=_;rw[Nat.toDigits_of_lt_base h];have:∀d,d<10->[(Nat.digitChar d)].map Char.toNat=[d+48]:=by decide
 exact this m h
def QQ(m)(h:0<m):∃c r,dg m=c::r/\c≠48:=by
 induction m using Nat.strongRecOn with
 |_ m d=>
  by_cases a:m<10
  .exact(m+48,[],MN a,by lia)
  .obtain⟨c,r,e,i⟩:=d (m/10) (by lia) (by simp_all);exact(c,r++dg (m%10),by rw[QP a,e];rfl,i)
def PQ(m):(dg m).all C9=L:=by
 induction m using Nat.strongRecOn with
 |_ m d=>
  by_cases a:m<10
  .rw[MN a];simp[C9]
   lia
  .rw[QP a,List.all_append,d (m/10) (by lia),d (m%10) (by lia)];rfl
def UP(l)(k):digitsVal (l.take k)<=digitsVal l:=by
 have e:∀(r:List Nat)a b,a<=b->a<=r.foldl (λacc c=>acc*10+(c-48)) b:=λr=>by
  induction r with
  |nil=>simp
  |cons c r d=>exact λa b h=>d a _ (by grind)
 unfold digitsVal
 conv=>rhs;rw[←List.take_append_drop k l,List.foldl_append]
 simp_all
def Xv(h:n<1099511627776):iT lt (dg n):=by
 have j:0<(dg n).length:=by
  by_cases o:n<10
  .rw[MN o];simp
  .obtain⟨c,r,e,_⟩:=QQ n (by lia)
   simp_all
 refine(j,λk q a x i=>?_);have d:x.cps.toList.all C9=L:=by rw[i];exact all_eq_true.mpr λc p=>all_eq_true.mp (PQ n) c (by grind)
 suffices h:MF x=L by unfold Jx;rw[h];cases CM x<;>rfl
 unfold MF;rw[d,Bool.true_and,Bool.or_eq_true,decide_eq_true_eq,Bool.and_eq_true,decide_eq_true_eq,Bool.not_eq_true'];rcases Nat.eq_zero_or_pos n with rfl|l
 .refine .inl (Iw ?_);rw[i];have:k=1:=by rw[MN qc]at a;simp at a;lia
  subst this;decide +kernel
 .obtain⟨c,r,e,p⟩:=QQ n l;refine .inr (?_,?_)
  .cases k with
   |zero=>simp_all
   |succ k=>simp_all
  .rw[i];exact Nat.lt_of_le_of_lt (UP _ _) (by rwa[show digitsVal (dg n)=n from W.KIN.val_back n])
structure Wd(n:Nv)(x:Str)(v:Nat):Prop where
 ok:WdOk n x
 pw:∀lt,BD x=O\/lt=L->iT lt x.cps.toList
 v:wv n x=v
 len:x.length<=13
def QR(h:∀c∈x.cps.toList,c<97):BD x=O:=by
 unfold BD;cases e:x.cps.toList with
 |nil=>rfl
 |cons a r=>
  cases r with
  |cons b r=>rfl
  |nil=>
   have:=h a (by simp_all);unfold Cm
   lia
def QS(D:C5 n.bG)(h:p∈n.bG):Wd n p.1 p.2/\p.1.length<=6/\BD p.1=O:=by
 obtain⟨e,l,_⟩:=D.nm p h;have d:=e;unfold CM at d;simp only[Bool.and_eq_true,decide_eq_true_eq]at d;obtain⟨⟨q,j⟩,i⟩:=d;have sl:=Az p.1
 have a:=QR λc o=>by
  have:=all_eq_true.mp i c o;simp[Di]at this
  lia
 refine(((l,by assumption,by lia,.inr (.inl (a,e,zi.mpr (_,h,Y)))),λlt _=>V8 (by assumption) (by assumption) i,?_,by lia),j,a);unfold wv;rw[a,zg e];exact DU D.nd h
noncomputable abbrev HL(n:Nat):Str:=Str.ofString (toString ((n:Nat):Int))
def QT(n):(HL n).cps.toList=dg n:=by
 show(Str.ofString (toString (Int.ofNat n))).cps.toList=_;rw[PyProof.Rows.text_ofNat]
def MO{v}(h:v<2^40):Wd n (HL v) v/\BD (HL v)=O:=by
 have e:=QT v;have o:=PQ v;have l:∀lt,iT lt (dg v):=λlt=>Xv (by assumption);have sl:=Az (HL v)
 have q:(dg v).length<=13:=by
  rw[AO];exact toDigits_len_pow qc qc (by lia)
 rw[e]at sl;have p:=(l L).ne
 have d:∀c∈(HL v).cps.toList,48<=c/\c<=57:=λc j=>by
  rw[e]at j;have:=all_eq_true.mp o c j;simpa[C9]using this
 have a:BD (HL v)=O:=QR λc j=>by grind
 have i:CM (HL v)=O:=by
  unfold CM
  have:(HL v).cps.toList.all Di=O:=by
   cases t:(HL v).cps.toList with
   |nil=>simp_all
   |cons c r=>
    have:=d c (by grind);simp[Di]
    lia
  rw[this,Bool.and_false]
 refine(((?_,by simp_all,by lia,.inr (.inr (a,i,d))),λlt _=>by rw[e];exact l lt,?_,by simp_all),a)
 .grind
 .unfold wv;rw[a,i,e];exact W.KIN.val_back v
def MP{c}(i:Cm c=L)(h:Ai n.kvs (Sum.inr ⟨#[c]⟩)=U (.int (n.tb ⟨#[c]⟩:Nat))):Wd n ⟨#[c]⟩ (n.tb ⟨#[c]⟩):=by
 have e:BD ⟨#[c]⟩=L:=i;have o:97<=c/\c<=122:=by simpa[Cm]using i
 refine⟨(?_,(by show 0<1;decide),(by show 1<=200;decide),.inl (e,h)),λlt a=>?_,?_,(by show 1<=13;decide)⟩
 .grind
 .rcases a with z|rfl
  .rw[e]at z;cases z
  .refine((by simp),λk l d x j=>?_)
   have:k=1:=by
    have:k<=1:=d
    lia
   subst this
   have:BD x=L:=by
    unfold BD
    rwa[j]
   unfold Jx;rw[this];cases CM x<;>cases MF x<;>rfl
 .unfold wv
  simp_all
inductive LT
 |nm(x:Str)
 |no(n:Nat)
 |le(c:Nat)
 |ng(t:LT)
 |bn(g:Sg)(a b:LT)
noncomputable def LT.tr:LT->Tr
 |.nm x=>.wd x
 |.no n=>.wd (HL n)
 |.le c=>.wd ⟨#[c]⟩
 |.ng t=>.ng t.tr
 |.bn g a b=>.bn g a.tr b.tr
noncomputable def LT.ht:LT->Nat
 |.nm _=>0
 |.no _=>0
 |.le _=>0
 |.ng t=>t.ht+1
 |.bn _ a b=>max a.ht b.ht+1
def LT.Ok(d:jm)(sg:List Nat):LT->Prop
 |.nm x=>x∈d
 |.no n=>n<2^20
 |.le c=>c∈sg
 |.ng t=>t.Ok d sg
 |.bn g a b=>g.eO/\a.Ok d sg/\b.Ok d sg
def fD(H:Hp):V->LT->Prop
 |v,.nm x=>∃p,v=.ref p/\H p=U (.tup [.str jx,.str x])
 |v,.no n=>∃p,v=.ref p/\H p=U (.tup [.str jC,.int (n:Int)])
 |v,.le c=>∃p,v=.ref p/\H p=U (.tup [.str nO,.str ⟨#[c]⟩])
 |v,.ng t=>∃p u,v=.ref p/\H p=U (.tup [.str "~",u])/\fD H u t
 |v,.bn g a b=>∃p d e,v=.ref p/\H p=U (.tup [.str g.s,d,e])/\fD H d a/\fD H e b
theorem fD.cS(s:cJ H f):∀{t}{v},fD H v t->fD f v t
 |.nm x,v,h=>by
  obtain⟨p,e,h⟩:=h;exact(p,e,s _ _ h)
 |.no n,v,h=>by
  obtain⟨p,e,h⟩:=h;exact(p,e,s _ _ h)
 |.le c,v,h=>by
  obtain⟨p,e,h⟩:=h;exact(p,e,s _ _ h)
 |.ng t,v,h=>by
  obtain⟨p,u,e,h,a⟩:=h;exact(p,u,e,s _ _ h,a.cS s)
 |.bn g a b,v,h=>by
  obtain⟨p,i,d,e,h,x,y⟩:=h;exact(p,i,d,e,s _ _ h,x.cS s,y.cS s)
def cz.tt{x y}(a:H d=U (.lst [.int x,.int y]))(s:cz d H c):cJ H c:=λb h e=>s.old _ _ e (PY e a λz=>nomatch z)
def HM{H:L2.Hp}{e:jm}(h:H d=U (.lst [.int x,.int y]))(b:H c=U (.lst (e.map V.str)))(i:0<e.length):c≠d:=PY b h λz=>by
 cases e with
 |nil=>simp_all
 |cons a r=>simp_all
noncomputable abbrev J0:jm:=[jv,kZ,mG,"_law_deep"]
inductive spTree(D:Nat)(c:jq)(H:Hp)(Q:VK)(e:XK):Prop
 |mk d wl a b ws sg(h:c=[.ref d,.ref wl,.str sg,.int (D)])(i:H d=U (.lst [.int a,.int b]))(j:H wl=U (.lst (ws.map V.str)))(g:0<ws.length)(l:ws.length<=10)(n:sg.length<=10)
  (m:∀v t f,cz d H f->fD f v t->t.Ok ws sg.cps.toList->t.ht<=D->Q v f)
inductive tNum(D:I0)(a:St)(H:Hp):Prop
 |mk d x y(e:a[0]?=U (U (.ref d)))(c:H d=U (.lst [.int x,.int y]))(k:∀(n:Nat)p b,cz d H b->b p=U (.tup [.str jC,.int (n)])->n<2^20->D.rt (.ref p) b)
def WV:Nat->Sp
 |0=>λ_ _ _ _=>False
 |D+1=>spTree D
noncomputable abbrev Y5:jm:=[jv,kZ,mG,"_law_deep","_law_kind","_law_one"]
def scTree:AH Y5 J0 (defScope G9):=cY
def Y6{st}(h:PS X st t)(c:∀D b H,t' D b H->t D b H):PS X st t':=λa s b H D I k=>h a s b H D I (c D b H k)
def N3(F:cC c lx lx G9 bd fd)(az:Bl mg)(b:Fn aC a9 c mg a0 j7 2 [jv,j6] eH)(D)(ba:Fn aC a9 c mg a0 lx (2+D) J0 (WV D)):bH aC a9 c mg a0 cF (3+D) bd fd J0 (spTree D):=by
 obtain⟨fT,dT,GT,mT,kT,bT⟩:=ba.ex;have M:3+D=2+D+1:=by lia
 rw[M];refine F.m scTree λvs H Q al be=>?_;obtain⟨d,h,a,aR,ws,sg,rfl,t,hw,h0,jc,bi,q⟩:=be;refine(Y,λbf bw bK bM hr=>?_);have r:bJ 2 _:=hr.mono (by lia);have nd:=scTree.nd
 refine(_,An (A5 4 nd (BX (AL IW (Z 3) AF (AN _)) (dm b r (AA (Z 0) (AA AF AG))) (dm b r (AA (Z 0) (AA AF AG)))))
  (AB (AU (AL Ff (Z 4) AF (AN _)) (AC (AJ (Ab (AA AI (AA (Am (Al c rfl) (Z 1) (dm b r (AA (Z 0) (AA (AR (A1 c rfl) rfl az.len PySem.boot_len (AA (Z 1) AG)) AG))) (λ_ _=>rfl)) AG))))) AM)
  (An (AU (PW.pt (DH (AL Ao (Z 4) AF (AN _)) (By (PW.pt (CV (AL Ao (Z 4) AF (AN _)) (Bj (AL Ao (Z 2) AI (AN _)))))))) (AC (Y6 (t':=tNum) (AJ (Ab (AA AI (AA (Am (Al c rfl) (As (AA (dm b r (AA (Z 0) (AA AF AG))) (AA (dm b r (AA (Z 0) (AA (AX OO AF AF) AG))) (AA (dm b r (AA (Z 0) (AA AF AG))) AG)))) (dm b r (AA (Z 0) (AA AF AG))) (λ_ _=>rfl)) AG)))) ?numH)) AM)
  (AB (AU (AL Ao (Z 4) AF (AN _)) (AC (AJ (Ab (AA AI (AA (Am LZ (Z 2) (dm b r (AA (Z 0) (AA (AR A4 rfl az.len PySem.boot_len (AA (Z 2) AG)) AG))) (λ_ _=>rfl)) AG))))) AM)
  (AB (AU (AL Ao (Z 4) AF (AN _)) (AC (AJ (Ab (AA AI (AA (At GT hr rfl mT kT bT .nil Af (AA (Z 0) (AA (Z 1) (AA (Z 2) (AA (AX CZ (Z 3) AF) AG))))) AG))))) AM)
  (AB (A5 5 nd (At GT hr rfl mT kT bT .nil Af (AA (Z 0) (AA (Z 1) (AA (Z 2) (AA (AX CZ (Z 3) AF) AG))))))
  (AC (AJ (Ab (AA (Am LZ AI (AX CZ (Z 4) AF) (λ_ _=>rfl)) (AA (Z 5) (AA (At GT hr rfl mT kT bT .nil Af (AA (Z 0) (AA (Z 1) (AA (Z 2) (AA (AX CZ (Z 3) AF) AG))))) AG))))))))))),?_)
 case numH=>
  rintro D B m ⟨d,x1,y1,e0,l,k⟩;refine(_,e0,d,x1,y1,9,Y,l,qc,qc,λw I e bo bF=>?_);have sA:=BV (x':=I) (y':=e) l;refine(_,e0,_,_,Y,Y,(qc,qc,qc),d,I,e,_,Y,bA,qc,qc,λX E P bq br=>?_);have sB:=BV (x':=E) (y':=P) (bA (H:=m) (a:=d) (o:=.lst [.int I,.int e]));refine(_,e0,d,E,P,64,Y,bA,qc,qc,λy G R bs bI=>?_);have sC:=BV (x':=G) (y':=R) (bA (H:=upd m d (.lst [.int I,.int e])) (a:=d) (o:=.lst [.int E,.int P]));have s4:=(sA.trans sB).trans sC;have iy:=bA (H:=upd (upd m d (.lst [.int I,.int e])) d (.lst [.int E,.int P])) (a:=d) (o:=.lst [.int G,.int R]);generalize upd (upd (upd m d (.lst [.int I,.int e])) d (.lst [.int E,.int P])) d (.lst [.int G,.int R])=H4 at s4 iy ⊢;refine(iu,λp x=>?_);have a2:p≠d:=Ne.symm (AK iy x);have s5:=s4.step (AD (bD.refl _) x (o:=HO.lst [V.int w,V.int X,V.int y]));have an:(upd H4 p (.lst [V.int w,V.int X,V.int y])) d=U (.lst [.int G,.int R]):=by rw[AE (Ne.symm a2)];exact iy
  have iI:=bA (H:=H4) (a:=p) (o:=HO.lst [V.int w,V.int X,V.int y]);generalize upd H4 p (.lst [V.int w,V.int X,V.int y])=H5 at s5 an iI ⊢;refine(_,e0,d,G,R,3,Y,an,qc,qc,λix a5 b5 bk bl=>?_);have sD:=BV (x':=a5) (y':=b5) an;have gO:=sD.old _ _ iI a2;obtain⟨v,hv,u⟩:=IM (xs:=[V.int w,V.int X,V.int y]) bk bl;have bc:(2:Int)^(20:Int).toNat=1048576:=by decide
  have bG:X<1048576:=bc ▸ br
  obtain⟨n,rfl,hn⟩:∃n:Nat,v=V.int (n:Int)/\n<2^20:=by
   have hm:=zP u;simp only[mem_cons,not_mem_nil,or_false]at hm;have bL:(2:Nat)^20=1048576:=by decide
   rcases hm with rfl|rfl|rfl
   .exact(w.toNat,by rw[Int.toNat_of_nonneg bo],by lia)
   .exact(X.toNat,by rw[Int.toNat_of_nonneg bq],by lia)
   .exact(y.toNat,by rw[Int.toNat_of_nonneg bs],by lia)
  exact(p,_,ix,_,Y,Y,bZ.of gO,hv,fb,λp2 bp=>k n p2 _ ((s5.trans sD).step (AD (bD.refl _) bp)) bA hn)
 refine(λB S=>∃i:Int,B=[U (.ref d),U (.ref h),U (.str sg),U (.int (D:Int)),U (.int i),f8]/\0<=i/\i<8/\(D=0->i<4)/\cz d H S,λaM hR=>?_,?_)
 .refine(_,Y,_,_,Y,Y,_,Y,BL (λx=>?_) (λx=>?_))
  .have hD:(0:Int)<(D:Int):=zT x;exact(_,Y,d,a,aR,8,Y,t,qc,qc,λi a1 b1 k0 k1=>hR _ _ (i,Y,k0,k1,λz=>absurd hD (by lia),BV t))
  .exact(_,Y,d,a,aR,4,Y,t,qc,qc,λi a1 b1 k0 k1=>hR _ _ (i,Y,k0,by lia,λ_=>k1,BV t))
 rintro B m ⟨i,rfl,k0,k8,kD,C⟩;have ar:=C.old _ _ hw (HM t hw h0);obtain⟨x1,y1,l⟩:=C.dv;have bE:(ws.map V.str).length=ws.length:=AO _;refine(_,Y,_,_,Y,Y,_,Y,BL (λ_=>?_) (λh2=>?_))
 ·-- a name
  refine(_,Y,_,Y,_,Y,h,_,Y,.inl (bZ.of ar),d,x1,y1,_,Y,l,by lia,by lia,λr2 I e a7 a8=>?_);have N:=BV (x':=I) (y':=e) l;have bj:=N.old _ _ ar (HM l ar h0);obtain⟨v,hv,u⟩:=IM (xs:=ws.map V.str) a7 (by exact a8);rw[zy]at u;obtain⟨bv,hy,rfl⟩:=z6.mp u;exact(h,_,r2,_,Y,Y,bZ.of bj,hv,fb,λp x=>q (.ref p) (.nm bv) _ ((C.trans N).step (AD (bD.refl _) x)) (p,Y,bA) (zP hy) (Nat.zero_le _))
 have bz:¬ i<2:=λz=>h2 (zK z);refine(λB S=>B=[U (.ref d),U (.ref h),U (.str sg),U (.int (D:Int)),U (.int i),f8]/\S=m/\i≠2/\(i=3->sg≠ ""),λaM hR=>?_,?_)
 .have a6:tNum {nx:=aM,rt:=Q} [U (.ref d),U (.ref h),U (.str sg),U (.int (D:Int)),U (.int i),f8] m:=(d,x1,y1,rfl,l,λn p S N x hn=>q (.ref p) (.no n) _ (C.trans N) (p,rfl,x) hn (Nat.zero_le _));refine(_,Y,Y,_,Y,?_);by_cases T:i=2
  .rw[zK (show V.int i=V.int 2 by rw[T])];exact AZ (AZ a6)
  rw[zN (show ¬ V.int i=V.int 2 from λz=>T (V.int.inj z))];refine AS (_,Y,Y,_,Y,?_);by_cases M:i=3
  .rw[zK (show V.int i=V.int 3 by rw[M])];refine AZ (_,Y,Y,_,Y,?_);by_cases es:sg=""
   .rw[zK (show V.str sg=V.str "" by rw[es])];exact AZ a6
   .rw[zN (show ¬ V.str sg=V.str "" from λz=>es (V.str.inj z))];exact AS (hR _ _ (Y,Y,T,λ_=>es))
  .rw[zN (show ¬ V.int i=V.int 3 from λz=>M (V.int.inj z))];exact AS (AS (hR _ _ (Y,Y,T,λz=>absurd z M)))
 rintro B bx ⟨rfl,rfl,T,bh⟩;refine(_,Y,Y,_,Y,?_);by_cases M:i=3
 ·-- a letter
  rw[zK (show V.int i=V.int 3 by rw[M])]
  have cb:0<sg.length:=by
   rcases Nat.eq_zero_or_pos sg.length with z|z
   .exfalso;refine bh M (Iw ?_);have:=Az sg;rw[z]at this;rw[List.length_eq_zero_iff.mp this];decide +kernel
   .exact z
  refine AZ (_,Y,_,Y,_,Y,sg,Y,Nat.le_of_lt (AQ (by lia)),d,x1,y1,_,Y,l,by lia,by lia,λr2 I e a7 a8=>?_);have N:=BV (x':=I) (y':=e) l;obtain⟨j,rfl⟩:∃j:Nat,r2=(j:Int):=(r2.toNat,by lia);have hj:j<sg.cps.toList.length:=by rw[Az];lia
  obtain⟨ag,u⟩:∃ag,sg.cps.toList[j]?=U ag:=(_,z7 hj);have hv:=BQ u;exact(sg,(j:Int),ag,Y,Y,Nat.le_of_lt (AQ (by lia)),hv,fb,λp x=>q (.ref p) (.le ag) _ ((C.trans N).step (AD (bD.refl _) x)) (p,Y,bA) (zP u) (Nat.zero_le _))
 rw[zN (show ¬ V.int i=V.int 3 from λz=>M (V.int.inj z))];refine AS ?_
 obtain⟨f,rfl⟩:∃f,D=f+1:=by
  cases D with
  |zero=>have:=kD rfl;lia
  |succ f=>exact(f,rfl)
 have eD:((f+1:Nat):Int)-1=(f:Int):=by lia
 have step:∀{s:Hp}{vs:jq}{Q:VK}{al:XK},cz d H s->vs=[.ref d,.ref h,.str sg,.int (((f+1:Nat):Int)-1)]->(∀v ab S,cz d s S->fD S v ab->ab.Ok ws sg.cps.toList->ab.ht<=f->Q v S)->WV (f+1) vs s Q al:=λ{s vs Q al}N bb k=>by
  obtain⟨x2,y2,as⟩:=N.dv;exact(d,h,x2,y2,ws,sg,by rw[bb,eD],as,N.old _ _ hw (HM t hw h0),h0,jc,bi,k)
 refine(_,Y,Y,_,Y,?_);by_cases e4:i=4
 .rw[zK (show V.int i=V.int 4 by rw[e4])];refine AZ (_,Y,_,Y,_,Y,_,Y,_,_,Y,Y,step C Y λv ab s s2 lt ok ht=>(fb,λp x=>?_));have A:=AD (bD.refl _) x (o:=HO.tup [V.str "~",v]);exact q (.ref p) (.ng ab) _ ((C.trans s2).step A) (p,v,Y,bA,lt.cS (cJ.of A)) ok (Nat.succ_le_succ ht)
 rw[zN (show ¬ V.int i=V.int 4 from λz=>e4 (V.int.inj z))];refine AS (_,Y,_,Y,_,Y,_,Y,_,_,Y,Y,step C Y λv1 t1 s s2 bm bt bB=>?_)
 obtain⟨g,hg,bg⟩:∃g:Sg,g.eO/\gB ("|^&":Str).cps.toList (i-5)=U g.c:=by
  have:i=5\/i=6\/i=7:=by lia
  rcases this with rfl|rfl|rfl
  .exact(.or,True.intro,qb)
  .exact(.xo,True.intro,qb)
  .exact(.an,True.intro,qb)
 refine(_,Y,_,_,Y,Y,"|^&",i-5,g.c,Y,Y,iu,bg,_,Y,_,Y,_,Y,_,Y,_,Y,_,_,Y,Y,step (C.trans s2) Y λv2 t2 H3 s3 bn bu bC=>(iu,λp x=>?_));obtain⟨x2,y2,as⟩:=s2.dv;rw[MH];have A:=AD (bD.refl _) x (o:=HO.tup [V.str g.s,v1,v2]);exact q (.ref p) (.bn g t1 t2) _ (((C.trans s2).trans s3).step A) (p,v1,v2,Y,bA,(bm.cS (cz.tt as s3)).cS (cJ.of A),bn.cS (cJ.of A)) (hg,bt,bu) (by show max t1.ht t2.ht+1<=f+1;lia)
theorem QU(F:cC l lx lx G9 f c)(B:Bl g)(m:g lx=U (.ref f))(b:Binds l c J0 [])(d:Fn P w l g n j7 2 [jv,j6] eH):∀D,bH P w l g n cF (3+D) f c J0 (spTree D)
 |0=>N3 F B d 0 ⟨(f,c,F.ok scTree (λe H Q E h=>h.elim) (λi A a s H e Q E j h=>h.elim),m,F.kp,b)⟩
 |D+1=>N3 F B d (D+1) ⟨(f,c,by have:=QU F B m b d D;rw[show 3+D=2+(D+1) by lia]at this;exact this,m,F.kp,b)⟩
end Mk
namespace L2
open PySem
def QV{st}(a:PSw X st t)(d:fH X b u):fH X (st::b) (Vm t u):=⟨An a.h d.h⟩
end L2
namespace Mk
open PySem L2 MK PySem.NumText
structure NW(x:Str):Prop where
 pw:iT L x.cps.toList
 as:x.cps.all (· < 128)=L
 l6:x.length<=6
 sm:∀c∈x.cps.toList,c<97
noncomputable def lb:Nat->Nat
 |0=>14
 |h+1=>2*lb h+5
def WW:∀D,D<=5->lb D<=603:=by decide
theorem UQ:∀D,14<=lb D
 |0=>zq _
 |h+1=>by have:=UQ h;show 14<=2*lb h+5;lia
def Cr(x y:Str):(x++y).cps.toList=x.cps.toList++y.cps.toList:=by
 show(x.cps++y.cps).toList=_
 simp_all
def Be(x y:Str):(x++y).length=x.length+y.length:=by rw[←Az,Cr,zG,Az,Az]
def Da{x y:Str}(h:x.cps.all (· < 128)=L)(a:y.cps.all (· < 128)=L):(x++y).cps.all (· < 128)=L:=by
 rw[←Array.all_toList]at h a ⊢;rw[Cr,List.all_append,h,a];rfl
structure BlS(x:Str):Prop where
 bk:Bk x.cps.toList
 as:x.cps.all (· < 128)=L
 l1:x.length<=1
def aQ:BlS "":=(.inl (by rfl),qb,by trivial)
def aS:BlS " ":=(.inr (by rfl),qb,by trivial)
def NoL:LT->Prop
 |.nm _=>False
 |.no _=>False
 |.le _=>False
 |_=>True
noncomputable def UR:LT->Nat
 |.ng _=>3
 |.bn g _ _=>g.b-1
 |_=>0
noncomputable abbrev PR:jm:=[jv,kr,"_law_rank"]
inductive spWrt(D:Nat)(e:jq)(H:Hp)(Q:VK)(f:XK):Prop
 |mk d a b v t h sg(r:Nat)(j:e=[.ref d,v,.int (r)])(l:H d=U (.lst [.int a,.int b]))(m:fD H v t)(i:t.Ok h sg)(n:t.ht<=D)(o:r<=3)(q:D<=5)(p:∀x∈h,NW x)(u:∀c∈sg,Cm c=L)
  (s:∀z g,cz d H g->Wr L t.tr r z.cps.toList->z.cps.all (· < 128)=L->z.length<=lb D->Q (.str z) g)
def Xw:Nat->Sp
 |0=>λ_ _ _ _=>False
 |D+1=>spWrt D
noncomputable abbrev aT:jm:=[jv,kr,"_law_rank","_law_blank","_law_own",ma]
def scWrt:AH aT PR (defScope DX):=cY
noncomputable abbrev V9:LK:=[((Sum.inr "|":Key),(.int 0)),(Sum.inr "^",(.int 1)),(Sum.inr "&",(.int 2)),(Sum.inr "~",(.int 3))]
def Xx{g:Sg}(h:g.eO):Ai (D5 [] V9) (Sum.inr g.s:Key)=U (.int ((g.b-1:Nat):Int)):=by cases g<;>first|trivial|rfl
def own_no:Ai (D5 [] V9) (Sum.inr "~":Key)=U (.int ((3:Nat):Int)):=by rfl
def QW(F:cC a ky ky DX bo fd)(a7:Bl mg)(GR:Fn a8 bi a mg bb j7 2 [jv,j6] eH)(D)(bj:Fn a8 bi a mg bb ky (2+D) PR (Xw D)):bH a8 bi a mg bb cF (3+D) bo fd PR (spWrt D):=by
 obtain⟨fR,dR,GR,mR,kR,bR⟩:=GR.ex;obtain⟨fT,dT,GT,mT,kT,bT⟩:=bj.ex;have X:3+D=2+D+1:=by lia
 rw[X];refine F.m scWrt λvs H a9 bu a2=>?_;obtain⟨d,bk,ba,aC,t,ws,sg,r,rfl,G,lt,ok,ht,bE,bp,hW,an,a6⟩:=a2;refine(Y,λbf bt bL bM hr=>?_);have hu:=Bs hr;have gZ:bJ 2 _:=hr.mono (by lia);have nd:=scWrt.nd;have bz:=WW D bp
 refine(_,fH.h (QV (K2 (i:=3) nd Y (Or.inl Y) (Fy VW (.mk AI) (.mk (BF HY Y a7.int II (AA (Cn Ao (eK.h (Fz GR gZ Y mR kR bR .nil Af (Bv (.mk (Z 0)) (Bv (.mk AF) Bu)))) AF (AN _)) AG)))))
  (QV (Oo (.mk (AL FV (eK.h (EC (Ad a rfl) (.mk (Z 1)) (.mk AF) (λ_ _=>rfl))) (Ab (AA AI (AA AI (AA AI AG)))) rfl)) (Ef (.mk (AJ (eK.h (Fy Bh (.mk (Z 3)) (.mk (BF (cH.or LS Ll) rfl a7.str FE (AA (eK.h (EC (Ad a rfl) (.mk (Z 1)) (.mk AF) (λ_ _=>rfl))) AG)))))))) Hq)
  (QV (K2 (i:=4) nd rfl (Or.inl rfl) (.mk (Au hu (Pm (Cu AI AF (Cu AI AF (Cu AI AF (Cu AI AF Pl)))) rfl rfl qc qc) (eK.h (EC (Ad a rfl) (.mk (Z 1)) (.mk AF) (λ_ _=>rfl))) (λ_ _=>rfl))))
  (QV (Oo (.mk (AL Ao (eK.h (EC (Ad a rfl) (.mk (Z 1)) (.mk AF) (λ_ _=>rfl))) AI (AN _)))
   (Ef (K2 (i:=5) nd rfl (Or.inl rfl) (Fy Bh (.mk AI) (Fz GT hr rfl mT kT bT .nil Af (Bv (.mk (Z 0)) (Bv (EC (Ad a rfl) (.mk (Z 1)) (.mk AF) (λ_ _=>rfl)) (Bv (.mk AF) Bu)))))))
   (Ef (K2 (i:=5) nd rfl (Or.inl rfl) (Fy Bh (Fy Bh (Fy Bh (Fz GT hr rfl mT kT bT .nil Af (Bv (.mk (Z 0)) (Bv (EC (Ad a rfl) (.mk (Z 1)) (.mk AF) (λ_ _=>rfl)) (Bv (.mk (Z 4)) Bu)))) (.mk (Z 3))) (EC (Ad a rfl) (.mk (Z 1)) (.mk AF) (λ_ _=>rfl))) (Fz GT hr rfl mT kT bT .nil Af (Bv (.mk (Z 0)) (Bv (EC (Ad a rfl) (.mk (Z 1)) (.mk AF) (λ_ _=>rfl)) (Bv (Fy CD (.mk (Z 4)) (.mk AF)) Bu))))))))
  (Ef (.mk (AJ (eK.h (WR (.mk (PW.pt (DH (AL Ff (Z 4) (Z 2) (AN _)) (By (AL Ao (eK.h (Fz GR gZ rfl mR kR bR .nil Af (Bv (.mk (Z 0)) (Bv (.mk AF) Bu)))) AF (AN _)))))) (Fy Bh (Fy Bh (Fy Bh (.mk (Z 3)) (.mk AI)) (.mk (Z 5))) (.mk AI)) (.mk (Z 5))))))))))),?_)
 refine(λN q=>∃C:Str,N=[U (.ref d),U aC,U (.int (r:Int)),U (.str C),J,J]/\BlS C/\cz d H q,λaR b=>?_,?_)
 .refine(_,Y,d,bk,ba,6,Y,G,qc,qc,λk a1 b1 k0 k1=>(Y,.inr (_,Y," ",_,Y,Y,?_)));cases decide (V.int k=V.int 0)with
  |true=>exact .inr (rfl,b _ _ (" ",rfl,aS,BV G))
  |false=>exact .inl (rfl,b _ _ ("",rfl,aQ,BV G))
 rintro N H1 ⟨C,rfl,I,m⟩;have M:=lt.cS (cz.tt G m);obtain⟨x1,y1,iJ⟩:=m.dv
 have ab:∀{x:Str}{B:Hp},cz d H B->iT L x.cps.toList->x.cps.all (· < 128)=L->x.length<=13->(t.tr=.wd x)->C.length+x.length<=sizeLine/\a9 (.str (C++x)) B:=λ{x B}P pw as bF e=>by
  have l1:=I.l1;have:=UQ D;refine(Nat.le_of_lt (AQ (by lia)),a6 _ _ P ?_ (Da I.as as) (by rw[Be];lia));rw[e,Cr];exact .wd x r _ I.bk pw
 refine(λN q=>N=[U (.ref d),U aC,U (.int (r:Int)),U (.str C),J,J]/\NoL t/\cz d H q,λaR b=>?_,?_)
 .have o:∀{tp},H1 tp=J->bD H1 (upd H1 tp (.tup [V.str jx,V.str jC,V.str nO])):=λl=>AD (bD.refl _) l;cases t with
  |nm x=>
   obtain⟨p,rfl,y⟩:=M;have nw:=hW x ok;have l6:=nw.l6;refine(_,Y,p,_,0,.str jx,Y,Y,cD.of y,Y,(by trivial),λtp l=>(tp,_,Y,.inr (cD.of bA),Y,Y,_,Y,AZ (_,Y,_,Y,p,_,1,.str x,Y,Y,cD.of (o l _ _ y),Y,.inr (x,Y,?_))));obtain⟨h1,h2⟩:=ab (m.step (o l)) nw.pw nw.as (by lia) rfl
   simp_all
  |no n=>
   obtain⟨p,rfl,y⟩:=M;have bh:n<2^40:=Nat.lt_trans ok qc;have fw:=(MO (n:=([],[],λ_=>0)) bh).1;refine(_,Y,p,_,0,.str jC,Y,Y,cD.of y,Y,(by trivial),λtp l=>(tp,_,Y,.inr (cD.of bA),Y,Y,_,Y,AZ (_,Y,_,Y,p,_,1,.int (n:Int),Y,Y,cD.of (o l _ _ y),Y,.inl ((n:Int),Y,IP bh,?_))));obtain⟨h1,h2⟩:=ab (x:=HL n) (m.step (o l)) (fw.pw L (.inr rfl)) fw.ok.as fw.len rfl
   grind
  |le c=>
   obtain⟨p,rfl,y⟩:=M;have lw:=MP (n:=([],[(Sum.inr ⟨#[c]⟩,(.int ((0:Nat):Int)))],λ_=>0)) (an c ok) (by simp[Ai]);refine(_,Y,p,_,0,.str nO,Y,Y,cD.of y,Y,(by trivial),λtp l=>(tp,_,Y,.inr (cD.of bA),Y,Y,_,Y,AZ (_,Y,_,Y,p,_,1,.str ⟨#[c]⟩,Y,Y,cD.of (o l _ _ y),Y,.inr (⟨#[c]⟩,Y,?_))));obtain⟨h1,h2⟩:=ab (x:=⟨#[c]⟩) (m.step (o l)) (lw.pw L (.inr rfl)) lw.ok.as lw.len rfl
   simp_all
  |ng t'=>
   obtain⟨p,ar,rfl,y,lu⟩:=M;exact(_,Y,p,_,0,.str "~",Y,Y,cD.of y,Y,(by trivial),λtp l=>(tp,_,Y,.inr (cD.of bA),Y,Y,_,Y,AS (b _ _ (Y,True.intro,m.step (o l)))))
  |bn g A t2=>
   obtain⟨p,u1,R,rfl,y,a4,a5⟩:=M;refine(_,Y,p,_,0,.str g.s,Y,Y,cD.of y,Y,(by trivial),λtp l=>(tp,_,Y,.inr (cD.of bA),Y,Y,_,Y,?_));rw[show(if gt=L then !fG (V.str g.s) [V.str jx,V.str jC,V.str nO]else fG (V.str g.s) [V.str jx,V.str jC,V.str nO])=gt by cases g<;>decide +kernel];exact AS (b _ _ (Y,True.intro,m.step (o l)))
 rintro N B ⟨rfl,E,P⟩;have a3:=lt.cS (cz.tt G P);clear ab M iJ;refine(λN q=>N=[U (.ref d),U aC,U (.int (r:Int)),U (.str C),U (.int (UR t:Int)),J]/\cz d H q,λaR b=>?_,?_)
 .intro dp bd;have sb:bD B (upd (upd B dp (.dK [])) dp (.dK (D5 [] V9))):=λba bK e=>by rw[AE (AK e bd),AE (AK e bd)];exact e
  refine(bA,V9,rfl,qc,?_);cases t with
  |nm x=>exact E.elim
  |no n=>exact E.elim
  |le c=>exact E.elim
  |ng t'=>
   obtain⟨p,ar,rfl,y,lu⟩:=a3;exact(_,Y,p,_,0,.str "~",Y,Y,cD.of (sb _ _ y),Y,dp,.int ((3:Nat):Int),Y,.inl (_,Sum.inr "~",.inl bA,Y,own_no.symm),b _ _ (Y,P.step sb))
  |bn g A t2=>
   obtain⟨p,u1,R,rfl,y,a4,a5⟩:=a3;exact(_,Y,p,_,0,.str g.s,Y,Y,cD.of (sb _ _ y),Y,dp,.int ((g.b-1:Nat):Int),Y,.inl (_,Sum.inr g.s,.inl bA,Y,(Xx ok.1).symm),b _ _ (Y,P.step sb))
 rintro N H3 ⟨rfl,s3⟩;have bg:=lt.cS (cz.tt G s3);obtain⟨x3,y3,al⟩:=s3.dv;clear a3 P m;refine(λN q=>∃T:Str,N=[U (.ref d),U aC,U (.int (r:Int)),U (.str C),U (.int (UR t:Int)),U (.str T)]/\cz d H q/\(∀z,z<=UR t->Wr L t.tr z T.cps.toList)/\T.cps.all (· < 128)=L/\T.length+3<=lb D,λaR b=>?_,?_)
 .obtain⟨h,rfl⟩:∃h,D=h+1:=by
   cases D with
   |zero=>cases t with
    |nm x=>trivial
    |no n=>trivial
    |le c=>trivial
    |ng t'=>trivial
    |bn g A t2=>trivial
   |succ h=>simp
  have bB:=WW h (by lia);have bv:lb (h+1)=2*lb h+5:=rfl;have l1:=I.l1;cases t with
  |nm x=>exact E.elim
  |no n=>exact E.elim
  |le c=>exact E.elim
  |ng t'=>
   obtain⟨p,ar,rfl,y,lu⟩:=bg;refine(_,Y,p,_,0,.str "~",Y,Y,cD.of y,Y,Y,_,Y,?_);rw[show decide (V.str "~"=V.str "~")=L by rfl];refine AZ (_,Y,_,Y,p,_,1,ar,Y,Y,cD.of y,Y,d,x3,y3,ar,t',ws,sg,3,Y,al,lu,ok,Nat.le_of_succ_le_succ ht,qc,by lia,hW,an,λaM H4 f wz az lz=>("~",aM,Y,Y,Nat.le_of_lt (AQ (by rw[show("~":Str).length=1 by rfl];lia)),b _ _ ("~" ++ aM,Y,s3.trans f,λz S=>?_,Da qb az,?_)))
   .rw[Cr,show("~":Str).cps.toList=[126] by rfl];exact .ng _ z _ S wz
   .rw[Be,show("~":Str).length=1 by rfl]
    lia
  |bn g A t2=>
   obtain⟨p,u1,R,rfl,y,a4,a5⟩:=bg;have bw:1<=g.b:=by have:=ok.1;cases g<;>first|exact this.elim|decide
   have bx:g.b<=3:=by have:=ok.1;cases g<;>first|exact this.elim|decide
   have hm:A.ht<=h/\t2.ht<=h:=by
    have:max A.ht t2.ht+1<=h+1:=ht
    lia
   refine(_,Y,p,_,0,.str g.s,Y,Y,cD.of y,Y,Y,_,Y,?_);rw[show decide (V.str g.s=V.str "~")=gt by have:=ok.1;cases g<;>first|exact this.elim|decide +kernel];refine AS ⟨_,Y,_,Y,p,_,1,u1,Y,Y,cD.of y,Y,_,Y,d,x3,y3,u1,A,ws,sg,g.b-1,Y,al,a4,ok.2.1,hm.1,by lia,by lia,hW,an,λz1 H4 f br bl bG=>?_⟩;have be:H4 p=_:=(cz.tt al f) _ _ y;have bq:=a5.cS (cz.tt al f);obtain⟨x4,y4,iy⟩:=f.dv;have lg:g.s.length=1:=by cases g<;>decide +kernel
   have ag:g.s.cps.all (· < 128)=L:=by cases g<;>decide +kernel
   have cg:g.s.cps.toList=[g.c]:=by cases g<;>decide +kernel
   refine(_,Y,z1,C,Y,Y,Nat.le_of_lt (AQ (by lia)),_,Y,p,_,0,.str g.s,Y,Y,cD.of be,Y,z1++C,g.s,Y,Y,Nat.le_of_lt (AQ (by rw[Be];lia)),(_,Y,_,Y,p,_,2,R,Y,Y,cD.of be,Y,_,Y,_,_,Y,Y,d,x4,y4,R,t2,ws,sg,g.b,?_,iy,bq,ok.2.2,hm.2,by lia,by lia,hW,an,λz2 H5 Q bs bm bI=>?_))
   .show [V.ref d,R,V.int (((g.b-1:Nat):Int)+1)]=[V.ref d,R,V.int (g.b:Int)]
    grind
   refine(z1++C++g.s,z2,Y,Y,Nat.le_of_lt (AQ (by rw[Be,Be];lia)),b _ _ (_,Y,(s3.trans f).trans Q,λz S=>?_,Da (Da (Da bl I.as) ag) bm,by rw[Be,Be,Be];lia))
   have e:(z1++C++g.s++z2).cps.toList=z1.cps.toList++(C.cps.toList++(g.c::z2.cps.toList)):=by
    rw[Cr,Cr,Cr,cg];simp
   rw[e];have bC:z<=g.b-1:=S;exact .bn g A.tr t2.tr z _ _ _ ok.1 (by lia) I.bk br bs
 rintro N H4 ⟨T,rfl,f,wz,az,lz⟩;obtain⟨x4,y4,iy⟩:=f.dv;have l1:=I.l1
 have bc:∀{H5:Hp},cz d H H5->∃i j,V.str C=.str i/\V.str "("=.str j/\i.length+j.length<=sizeLine/\∃s v,V.str (i++j)=.str s/\V.str T=.str v/\s.length+v.length<=sizeLine/\∃u w,V.str (s++v)=.str u/\V.str ")"=.str w/\u.length+w.length<=sizeLine/\a9 (.str (u++w)) H5:=λ{H5}Q=>by
  have o1:("(":Str).length=1:=by decide +kernel
  have c1:(")":Str).length=1:=by decide +kernel
  refine(C,"(",Y,Y,Nat.le_of_lt (AQ (by lia)),C ++ "(",T,Y,Y,Nat.le_of_lt (AQ (by rw[Be];lia)),C ++ "(" ++ T,")",Y,Y,Nat.le_of_lt (AQ (by rw[Be,Be];lia)),a6 _ _ Q ?_ (Da (Da (Da I.as qb) az) qb) (by rw[Be,Be,Be];lia))
  have e:(C ++ "(" ++ T ++ ")":Str).cps.toList=C.cps.toList++(40::(T.cps.toList++[41])):=by
   rw[Cr,Cr,Cr,show("(":Str).cps.toList=[40] by rfl,show(")":Str).cps.toList=[41] by rfl];simp
  rw[e];exact .br _ r _ _ I.bk (wz 0 (Nat.zero_le _))
 refine(_,Y,_,Y,_,_,Y,Y,_,Y,BL (λ_=>?_) (λa2=>?_))
 .refine AZ ?_;obtain⟨i,j,e1,e2,X,s,v,e4,e5,e6,u,w,e7,e8,e9,a0⟩:=bc f;exact(_,Y,i,j,e1,e2,X,_,Y,s,v,e4,e5,e6,u,w,e7,e8,e9,a0)
 .refine(_,Y,d,x4,y4,6,Y,iy,qc,qc,λk a1 b1 k0 k1=>(Y,_,Y,?_));have Q:=f.trans (BV (x':=a1) (y':=b1) iy);refine BL (λ_=>?_) (λ_=>?_)
  .obtain⟨i,j,e1,e2,X,s,v,e4,e5,e6,u,w,e7,e8,e9,a0⟩:=bc Q;exact(_,Y,i,j,e1,e2,X,_,Y,s,v,e4,e5,e6,u,w,e7,e8,e9,a0)
  .have S:r<=UR t:=by
    have:¬ ((UR t:Int)<(r:Int)):=λaM=>a2 (zK aM)
    lia
   exact(_,Y,a6 _ _ Q (wz r S) az (by lia))
theorem US(F:cC l ky ky DX f c)(B:Bl g)(m:g ky=U (.ref f))(b:Binds l c PR [])(d:Fn P w l g n j7 2 [jv,j6] eH):∀D,bH P w l g n cF (3+D) f c PR (spWrt D)
 |0=>QW F B d 0 ⟨(f,c,F.ok scWrt (λe H Q E h=>h.elim) (λi A a s H e Q E j h=>h.elim),m,F.kp,b)⟩
 |D+1=>QW F B d (D+1) ⟨(f,c,by have:=US F B m b d D;rw[show 3+D=2+(D+1) by lia]at this;exact this,m,F.kp,b)⟩
noncomputable abbrev UT:jm:=[jv,kZ,mG]
inductive spForm(e:jq)(H:Hp)(Q:VK)(f:XK):Prop
 |mk d wl a b g sg(j:e=[.ref d,.ref wl,.str sg])(l:H d=U (.lst [.int a,.int b]))(m:H wl=U (.lst (g.map V.str)))(i:0<g.length)(n:g.length<=10)(o:∀x∈g,NW x)(r:sg.length<=10)(s:∀c∈sg.cps.toList,Cm c=L)
  (p:∀q z v t h,cz d H h->h q=U (.tup [.str z,v])->fD h v t->t.Ok g sg.cps.toList->t.ht<=3->Wr L t.tr 0 z.cps.toList->z.cps.all (· < 128)=L->z.length<=56->Q (.ref q) h)
noncomputable abbrev Y7:jm:=[jv,kZ,mG,kr,ow]
def scForm:AH Y7 UT (defScope FD):=cY
def WA(F:cC a m9 m9 FD ar fd)(B:Bl b)(GT:Fn P w a b c lx 6 J0 (spTree 3))(f:Fn P w a b c ky 6 PR (spWrt 3)):bH P w a b c cF 7 ar fd UT spForm:=by
 refine F.m scForm λvs H aR aM h=>?_;obtain⟨d,D,al,an,G,sg,rfl,A,m,N,S,s,X,ag,az⟩:=h;refine(Y,λbf aC a1 a4 E=>?_);have I:=scForm.nd
 refine(_,AB (A5 3 I (dm GT E (AA (Z 0) (AA (Z 1) (AA (Z 2) (AA AF AG))))))
  (AB (A5 4 I (dm f E (AA (Z 0) (AA (Z 3) (AA AF AG)))))
  (An (AU (AL IW (AR A4 rfl B.len PySem.boot_len (AA (Z 4) AG)) AF (AN _))
   (AB (A5 3 I (Ab (AA AI (AA (Am (Al a rfl) (Z 1) AF (λ_ _=>rfl)) AG))))
   (AC (A5 4 I (Am (Al a rfl) (Z 1) AF (λ_ _=>rfl))))) AM)
  (AC (AJ (Ab (AA (Z 4) (AA (Z 3) AG))))))),?_)
 refine(_,Y,_,Y,_,Y,d,D,al,an,G,sg,Y,A,m,N,S,X,λv t H1 Q u y j=>?_);obtain⟨x1,y1,C⟩:=Q.dv;refine(_,Y,_,Y,d,x1,y1,v,t,G,sg.cps.toList,0,Y,C,u,y,j,qc,qc,s,ag,λz H2 R T g q=>?_);have e:=Q.trans R;have l:=e.old _ _ m (HM A m N);have a2:lb 3=147:=by decide
 refine(λab o=>∃(z:Str)(v:V)(t:LT),ab=[U (.ref d),U (.ref D),U (.str sg),U v,U (.str z)]/\cz d H o/\fD o v t/\t.Ok G sg.cps.toList/\t.ht<=3/\Wr L t.tr 0 z.cps.toList/\z.cps.all (· < 128)=L/\z.length<=56,λa0 r=>?_,?_)
 .refine(_,Y,z,Y,Nat.le_of_lt (AQ (by lia)),_,_,Y,Y,_,Y,BL (λ_=>?_) (λh=>?_))
  .cases G with
   |nil=>exact absurd N qc
   |cons x a3=>
    have n:=s x (by simp);have l6:=n.l6;refine(_,Y,D,_,0,.str x,Y,Y,bZ.of l,BQ Y,fb,λp M=>?_);have i:=AD (bD.refl _) M (o:=HO.tup [V.str jx,V.str x]);refine(_,Y,D,_,0,.str x,Y,Y,bZ.of (i _ _ l),BQ Y,r _ _ (x,.ref p,.nm x,Y,e.step i,(p,Y,bA),zH ..,Nat.zero_le _,?_,n.as,by lia));have:=Wr.wd x 0 [] (.inl rfl) n.pw;exact this
  .exact r _ _ (z,v,t,Y,e,u.cS (cz.tt C R),y,j,T,g,by
    lia)
 rintro ab H3 ⟨z,v,t,rfl,s3,lt,ok,ht,T,g,q⟩;refine(_,Y,_,Y,fb,λp M=>?_);have i:=AD (bD.refl _) M (o:=HO.tup [V.str z,v]);exact az p z v t _ (s3.step i) bA (lt.cS (cJ.of i)) ok ht T g q
noncomputable abbrev J1:jm:=[kr,nh,nU,me]
inductive spCome(D:Nat)(a:jq)(H:Hp)(Q:VK)(b:XK):Prop
 |mk v nu le t(n:Nv) sg(e:a=[v,.ref nu,.int (kn n.bG:Int),.ref le])(f:fD H v t)(g:t.Ok (n.bG.map (·.1)) sg)(l:Rd H le (.dK n.kvs))(m:∀c∈sg,Cm c=L/\Ai n.kvs (Sum.inr ⟨#[c]⟩)=U (.int (n.tb ⟨#[c]⟩:Nat)))(d:t.ht<=D)(h:H nu=U (.dK (A8 n.bG)))(i:C5 n.bG)
  (j:Q (.int (t.tr.d8 n:Nat)) H)
def UU:Nat->Sp
 |0=>λ_ _ _ _=>False
 |D+1=>spCome D
noncomputable abbrev Y8:jm:=[kr,nh,nU,me,"_law_one","_law_other"]
def scCome:AH Y8 J1 (defScope HA):=cY
def QX(d:C5 n.bG)(h:x∈n.bG.map (·.1)):wv n x=look n.bG x:=by
 obtain⟨p,a,rfl⟩:=zi.mp h;rw[(QS d a).1.v];exact(DU d.nd a).symm
def UV(h:v<2^20):wv n (HL v)=v:=(MO (by lia)).1.v
def Dk(e:b[0]?=U (U (.ref p)))(d:H p=U (.tup (.str s::f)))(a:decide (V.str s=V.str y)=O)(k:c D b H):Uj (Pd (iH rEq (iH (Wt g) (Ij 0) (tC (.int 0))) (tC (.str y)))) h c D b H:=by
 refine(_,e,p,_,0,.str s,Y,Y,cD.of d,BQ Y,Y,_,Y,?_);rw[a];exact AS k
def N4(F:cC ω ly ly HA f fd)(D)(G:Fn P w ω mg base ly (1+D) J1 (UU D)):bH P w ω mg base cF (2+D) f fd J1 (spCome D):=by
 obtain⟨fT,dT,GT,mT,kT,bT⟩:=G.ex;have e3:2+D=1+D+1:=by lia
 rw[e3];refine F.m scCome λvs H Q E h=>?_;obtain⟨v,nu,le,t,n,sg,rfl,lt,ok,hle,hsg,ht,hn,DO,q⟩:=h;refine(zd,λbf A outer s hr=>?_);have hu:=Bs hr;have nd:=scCome.nd
 refine(_,fH.h (DQ (Oo (.mk (AL Ao (eK.h (EC (Ad ω zd) (.mk (pv 0)) (.mk AF) (λ_ _=>rfl))) AI (AN _))) (Ef (.mk (AJ (Au hu (pv 1) (eK.h (EC (Ad ω zd) (.mk (pv 0)) (.mk AF) (λ_ _=>rfl))) (λ_ _=>rfl))))) Hq)
  (DQ (Oo (.mk (AL Ao (eK.h (EC (Ad ω rfl) (.mk (pv 0)) (.mk AF) (λ_ _=>rfl))) AI (AN _))) (Ef (.mk (AJ (eK.h (EC (Ad ω rfl) (.mk (pv 0)) (.mk AF) (λ_ _=>rfl)))))) Hq)
  (DQ (Oo (.mk (AL Ao (eK.h (EC (Ad ω rfl) (.mk (pv 0)) (.mk AF) (λ_ _=>rfl))) AI (AN _))) (Ef (.mk (AJ (Au hu (pv 3) (eK.h (EC (Ad ω rfl) (.mk (pv 0)) (.mk AF) (λ_ _=>rfl))) (λ_ _=>rfl))))) Hq)
  (DQ (K2 (i:=4) nd rfl (Or.inl rfl) (Fz GT hr rfl mT kT bT .nil Af (Bv (EC (Ad ω rfl) (.mk (pv 0)) (.mk AF) (λ_ _=>rfl)) (Bv (.mk (pv 1)) (Bv (.mk (pv 2)) (Bv (.mk (pv 3)) Bu))))))
  (DQ (Oo (.mk (AL Ao (eK.h (EC (Ad ω rfl) (.mk (pv 0)) (.mk AF) (λ_ _=>rfl))) AI (AN _))) (Ef (.mk (AJ (eK.h (Fy CZ (.mk (pv 2)) (Fy Ca (.mk (pv 2)) (.mk (pv 4)))))))) Hq)
  (DQ (K2 (i:=5) nd rfl (Or.inl rfl) (Fz GT hr rfl mT kT bT .nil Af (Bv (EC (Ad ω rfl) (.mk (pv 0)) (.mk AF) (λ_ _=>rfl)) (Bv (.mk (pv 1)) (Bv (.mk (pv 2)) (Bv (.mk (pv 3)) Bu))))))
  (DQ (Oo (.mk (AL Ao (eK.h (EC (Ad ω rfl) (.mk (pv 0)) (.mk AF) (λ_ _=>rfl))) AI (AN _))) (Ef (.mk (AJ (eK.h (Fy Ca (.mk (pv 4)) (.mk (pv 5))))))) Hq)
  (Ef (.mk (AJ (eK.h (WR (.mk (AL Ao (eK.h (EC (Ad ω rfl) (.mk (pv 0)) (.mk AF) (λ_ _=>rfl))) AI (AN _))) (Fy JD (.mk (pv 4)) (.mk (pv 5))) (Fy SG (.mk (pv 4)) (.mk (pv 5))))))))))))))),?_)
 have rec_:∀{t':LT}{u:V}{Q':VK},fD H u t'->t'.Ok (n.bG.map (·.1)) sg->t'.ht+1<=D->Q' (.int (t'.tr.d8 n)) H->UU D [u,.ref nu,.int (kn n.bG),.ref le] H Q' E0:=λ{t' u Q'}l o h q'=>by
  cases D with
  |zero=>exact absurd h (by simp_all)
  |succ D'=>exact(u,nu,le,t',n,sg,rfl,l,o,hle,hsg,by simp_all,hn,DO,q')
 cases t with
 |nm x=>
  obtain⟨p,rfl,hp⟩:=lt;refine(_,zd,p,_,0,.str jx,zd,zd,cD.of hp,zd,zd,_,zd,AZ (_,zd,_,zd,p,_,1,.str x,zd,zd,cD.of hp,zd,nu,_,zd,.inl (_,Sum.inr x,.inl hn,zd,(Cz ok).symm),?_));have:(LT.nm x).tr.d8 n=look n.bG x:=QX DO ok
  rwa[this]at q
 |le c=>
  obtain⟨p,rfl,hp⟩:=lt;obtain⟨h1,h2⟩:=hsg c ok;apply Dk rfl hp (by rfl);apply Dk rfl hp (by rfl);refine(_,zd,p,_,0,.str nO,zd,zd,cD.of hp,zd,zd,_,zd,?_);have e:(LT.le c).tr.d8 n=n.tb ⟨#[c]⟩:=(MP h1 h2).v;rw[e]at q;exact AZ (_,zd,_,zd,p,_,1,.str ⟨#[c]⟩,zd,zd,cD.of hp,zd,le,_,zd,.inl (_,Sum.inr ⟨#[c]⟩,hle,zd,h2.symm),q)
 |no m=>
  obtain⟨p,rfl,hp⟩:=lt;apply Dk rfl hp (by rfl);refine(_,zd,p,_,0,.str jC,zd,zd,cD.of hp,zd,zd,_,zd,?_);have:(LT.no m).tr.d8 n=m:=UV ok;rw[this]at q;exact AZ (_,zd,p,_,1,.int m,zd,zd,cD.of hp,zd,q)
 |ng t'=>
  obtain⟨p,u,rfl,hp,lu⟩:=lt;apply Dk rfl hp (by rfl);apply Dk rfl hp (by rfl);apply Dk rfl hp qb;refine(_,zd,p,_,1,u,zd,zd,cD.of hp,zd,_,zd,_,zd,_,zd,rec_ lu ok ht (_,zd,p,_,0,.str "~",zd,zd,cD.of hp,zd,zd,_,zd,?_));refine AZ (_,zd,_,zd,_,zd,_,_,zd,zd,_,_,zd,zd,?_)
  have e:((kn n.bG:Nat))-Builtin.bitAnd ((kn n.bG:Nat)) ((t'.tr.d8 n:Nat))=(((LT.ng t').tr.d8 n:Nat)):=by
   rw[C7];show _=((kn n.bG-(kn n.bG&&&t'.tr.d8 n):Nat):Int);have:=Nat.and_le_left (n:=kn n.bG) (m:=t'.tr.d8 n)
   lia
  show Q (V.int (((kn n.bG:Nat))-Builtin.bitAnd ((kn n.bG:Nat)) ((t'.tr.d8 n:Nat)))) H
  rwa[e]
 |bn g t1 t2=>
  obtain⟨p,u1,u2,rfl,hp,lu1,lu2⟩:=lt;obtain⟨hg,ok1,ok2⟩:=ok
  have hm:t1.ht+1<=D/\t2.ht+1<=D:=by
   have:max t1.ht t2.ht+1<=D:=ht
   lia
  have ne:∀y,y=jx \/ y=jC \/ y=nO \/ y="~" -> decide (V.str g.s=V.str y)=false:=λy hy=>by
   rcases hy with rfl|rfl|rfl|rfl<;>cases g<;>first|exact hg.elim|decide +kernel
  apply Dk rfl hp (ne _ (.inl rfl));apply Dk rfl hp (by grind);apply Dk rfl hp (by grind);refine(_,rfl,p,_,1,u1,rfl,rfl,cD.of hp,rfl,_,rfl,_,rfl,_,rfl,rec_ lu1 ok1 hm.1 ?_);apply Dk rfl hp (by grind);refine(_,rfl,p,_,2,u2,rfl,rfl,cD.of hp,rfl,_,rfl,_,rfl,_,rfl,rec_ lu2 ok2 hm.2 (_,rfl,p,_,0,.str g.s,rfl,rfl,cD.of hp,rfl,rfl,_,rfl,?_));cases g with
  |br=>exact hg.elim
  |no=>exact hg.elim
  |an=>
   refine AZ (_,zd,_,zd,_,_,zd,zd,?_);show Q (V.int (Builtin.bitAnd _ _)) H
   rwa[C7]
  |or=>
   refine AS (_,zd,p,_,0,.str Sg.or.s,zd,zd,cD.of hp,zd,zd,_,zd,AZ (_,zd,_,zd,_,_,zd,zd,?_));show Q (V.int (Builtin.bitOr _ _)) H
   rwa[C2]
  |xo=>
   refine AS (_,zd,p,_,0,.str Sg.xo.s,zd,zd,cD.of hp,zd,zd,_,zd,AS (_,zd,_,zd,_,_,zd,zd,?_));show Q (V.int (Builtin.bitXor _ _)) H
   rwa[QN]
section
variable {P:PySem.Program}{w:PySem.World}{ω:FG}{mg:SV}{base:PySem.Heap}{fd:PySem.FuncData}
theorem QY{f}(F:cC ω ly ly HA f fd)(m:mg ly=U (.ref f))(b:Binds ω fd J1 []):∀D,bH P w ω mg base cF (2+D) f fd J1 (spCome D)
 |0=>N4 F 0 ⟨(f,fd,F.ok scCome (λd H Q E h=>h.elim) (λe A a s H d Q E i h=>h.elim),m,F.kp,b)⟩
 |D+1=>N4 F (D+1) ⟨(f,fd,by have:=QY F m b D;rw[show 2+D=1+(D+1) by lia]at this;exact this,m,F.kp,b)⟩
end
def c_r(G:ip X.prog X.w X.K X.mg X.base x k n g)(h:bJ l X.A)(j:BK (d6 X.prog X.w) X E)(r:PA X (e::c) t)(i:k<=l:=by decide)(o:Gl X x:=by rfl)(d:fQ x:=by decide)(q:gj X e c:=by rfl)(a:(backTo f (starEach c X.env)).any (·.1)=O:=by rfl):PE X (.Call (.Name x p) (e::c) [] f) (Me g [] E t):=
 let ⟨_,_,F,m,kp,b⟩:=G.ex
 At F (h.mono i) o m kp b .nil j r d q a
def HN(d:PE X o to)(c:gy X.K C)(G:Mt X.prog X.w X.K X.mg X.base C m k n l)(e:bJ i X.A)(h:k<=i:=by decide)
  (ht:eval (.Call (.Attribute o m j) [] [] g) X.env=(do
   let a ←eval o X.env
   standAt j.atName
   let (f,first) ←holding [a] (getMethod a m pl)
   callWith g f first (backTo g (starEach [] X.env)) (backToKw g (keywordEach [] X.env))):=by rfl):PE X (.Call (.Attribute o m j) [] [] g) (KW C m l [] E0 to BS):=
 let ⟨_,_,F,m,b⟩:=G.ex
 BY d c m F (e.mono h) b .nil Af ht
def c_m(i:PE X o to)(c:gy X.K C)(G:Mt X.prog X.w X.K X.mg X.base C m k u s)(j:bJ p X.A)(q:PA X (e::g) t)(l:k<=p:=by decide)(a:gj X e g:=by rfl)(d:(backTo n (starEach g X.env)).any (·.1)=O:=by rfl)
  (ht:eval (.Call (.Attribute o m r) (e::g) [] n) X.env=(do
   let h ←eval o X.env
   standAt r.atName
   let (f,first) ←holding [h] (getMethod h m pl)
   callWith n f first (backTo n (starEach (e::g) X.env)) (backToKw n (keywordEach [] X.env))):=by rfl):PE X (.Call (.Attribute o m r) (e::g) [] n) (KW C m s [] E0 to t):=
 let ⟨_,_,F,m,b⟩:=G.ex
 Co i c m F (j.mono l) b .nil Af q a d ht
def BZ(i:PE X o to)(c:gy X.K C)(G:B6 X.prog X.w X.K X.mg X.base C m k v u)(j:bJ q X.A)(p:BK (d6 X.prog X.w) X E)(r:PA X (e::g) t)(l:k<=q:=by decide)(a:gj X e g:=by rfl)(d:(backTo n (starEach g X.env)).any (·.1)=O:=by rfl)
  (ht:eval (.Call (.Attribute o m s) (e::g) [] n) X.env=(do
   let h ←eval o X.env
   standAt s.atName
   let (f,first) ←holding [h] (getMethod h m pl)
   callWith n f first (backTo n (starEach (e::g) X.env)) (backToKw n (keywordEach [] X.env))):=by rfl):PE X (.Call (.Attribute o m s) (e::g) [] n) (KW C m u [] E to t):=
 let ⟨_,_,F,m,b⟩:=G.ex
 Co i c m F (j.mono l) b .nil p r a d ht
def c_v(d:Ih X.prog X.w X.K X.mg X.base C f)(h:bJ j X.A)(q:PA X (e::c) t)(i:5<=j:=by decide)(l:Gl X "Value":=by rfl)(o:gj X e c:=by rfl)(a:(backTo g (starEach c X.env)).any (·.1)=O:=by rfl):PE X (.Call (.Name "Value" p) (e::c) [] g) (SJ f (spVInit C f) [] E0 t):=
 let ⟨_,_,M,F,b⟩:=d.make
 LX M F (h.mono i) l d.cls b .nil Af q qc o a
def cZ(h:PE X a d)(b:starEach [a] X.env=(O,(eval a X.env))::starEach [] X.env:=by rfl):PA X [a] (AY d BS):=AA h AG b
def cW(h:PE X a e)(i:PE X b f)(c:starEach [a,b] X.env=(O,(eval a X.env))::starEach [b] X.env:=by rfl)(d:starEach [b] X.env=(O,(eval b X.env))::starEach [] X.env:=by rfl):PA X [a,b] (AY e (AY f BS)):=AA h (AA i AG d) c
def N5{q1 q2}(e:eE P w b g c x C)(i:bJ q (Bf (d6 P w) P w b g c N t u f m A n s H E).A)(l:2<=q:=by decide)(r:Gl (Bf (d6 P w) P w b g c N t u f m A n s H E) x:=by rfl)(a:fQ x:=by decide):
  PS (Bf (d6 P w) P w b g c N t u f m A n s H E) (.Raise (U (.Call (.Name x p) [.Constant (.str y) j q1] [] v)) J q2) (Hn C (Hm C (spErrInit b) [] E0 (AY (tC (.str y)) BS)) E):=by
 obtain⟨_,_,d,o,h⟩:=e.make;exact CI FX Y d.cls (CH d o (i.mono l) r e.cls h .nil Af (AA AI AG) a)
def eE.rd(d:eE P w c g f x C)(a:bD H b)(h:Uq H E C):Hn C (Hm C (spErrInit c) [] E0 (AY (tC (.str y)) BS)) E D i b:=
 let ⟨_,_,e,_,_⟩:=d.make
 Cl (te:=λ_=>tC .bQ) e.cls a h
def J2(h:dr b H v k n)(q:Q (.int (n:Int)) H):ExM b jC (.ref v) H (BS f H λc e=>spVNumber b (.ref v::(c++[])) e Q E):=by
 obtain⟨d,a⟩:=id h;exact(v,d,_,Y,a,WS _ _ (by trivial) (by trivial),v,k,n,Y,h,q)
def J3(h:dr b H v k n)(q:Q (.ref k) H):ExM b jJ (.ref v) H (BS f H λc e=>spVKind b (.ref v::(c++[])) e Q E):=by
 obtain⟨d,a⟩:=id h;exact(v,d,_,Y,a,WS _ _ (by trivial) (by trivial),v,k,n,Y,h,q)
def WB(h:cE C H k a r)(q:∀d,bD H d->Q (.int (kn a:Int)) d):ExM C kY (.ref k) H (BS c H λb j=>spKnown C (.ref k::(b++[])) j Q E):=by
 obtain⟨o,p,t,l⟩:=h.ins;refine(k,o,_,Y,l,(Cq _ _ _),k,a,r,Y,h,λi e=>?_);rw[Jv];exact q i e
def N6{H}{a}{C e}{k}{n:Nat}{Q:VK}{E}{r}{i:Int}(h:cE C H k a r)(A:i=(n))(z:n<2^40)(B:r=lp \/ n-(n&&&kn a)=0)(q:∀p t,bD H t->dr e t p k n->Q (.ref p) t):∀x d,H x=J->H d=J->d≠x->spVInit C e (.ref x::([.ref k,.int i]++[])) (upd (upd H d (.own x)) x (.ins e d [])) (λv j=>v=.bQ/\Q (.ref x) j) E:=by
 intro p d u l o;subst A;have sN:=FN (D:=e) u l o;exact(p,d,k,a,r,n,Y,bA,h.same sN,z,B,λj F y=>(Y,q p j (Fb sN u F) y))
inductive spSK(C a:jr)(b:jq)(H:Hp)(Q:VK)(c:XK):Prop
 |mk p1 p2 k n1 n2 bG r(f:b=[.ref p1,.ref p2])(g:dr a H p1 k n1)(h:dr a H p2 k n2)(e:cE C H k bG r)(i:Asc bG)(j:∀d,bD H d->Q (.ref k) d)
def aU:AH [l7,kf] [l7,kf] (defScope Hx):=cY
def Y9(F:cC b nj nj Hx f n)(p:Nq b c)(a:Mt P w b m g c jJ 1 [jt] (spVKind c))(t:Mt P w b m g C oj 2 [jt,kf] (spEqK C))
  (o:W.findIn b (.ref C) oh=U (U (.builtin kB))) (B:W.mroIn b C (.type lC)=U L):bH P w b m g cF 4 f n [l7,kf] (spSK C c):=by
 obtain⟨R,dE,t,z,I⟩:=t.ex;refine F.m aU λS H Q E h=>?_;obtain⟨X,N,k,M,s,d,r,rfl,x,D,j,e,q⟩:=h;refine(Y,λG A l ag i=>?_);refine(_,AB (AU (AL (Sn t i I z o B) (HN (Z 0) p.cl a i) (HN (Z 1) p.cl a i) (AN _)) (AC Ag) AM) (AC (AJ (HN (Z 0) p.cl a i))),?_);obtain⟨dk,ab,T,v⟩:=j.ins;refine(_,Y,J3 x (_,Y,J3 D (k,dk,_,k,dk,_,Y,Y,v,v,k,k,d,r,Y,j,e,.inr (d,r,j,e,λy u=>(_,Y,_,Y,_,Y,?_)))));rw[zK ((rfl,rfl))];exact AS (_,Y,J3 (x.same u) (q y u))
inductive spOp(g:Nat->Nat->Nat)(C a:jr)(b:jq)(H:Hp)(Q:VK)(c:XK):Prop
 |mk p1 p2 k n1 n2 bG r(f:b=[.ref p1,.ref p2])(h:dr a H p1 k n1)(i:dr a H p2 k n2)(e:cE C H k bG r)(j:Asc bG)(l:g n1 n2<2^40)(n:r=lp \/ g n1 n2-(g n1 n2&&&kn bG)=0)(m:∀q d,bD H d->dr a d q k (g n1 n2)->Q (.ref q) d)
noncomputable abbrev gOr(a b:Nat):Nat:=a|||b
noncomputable abbrev LM(a b:Nat):Nat:=a-(a&&&b)
def aV:AH [l7,kf] [l7,kf] (defScope O0):=cY
def ZA(F:cC c "union" "union" O0 f n)(B:Ih P w c m g C b)(a:Mt P w c m g b jC 1 [jt] (spVNumber b))(G:Fn P w c m g nj 4 [l7,kf] (spSK C b)):bH P w c m g cF 6 f n [l7,kf] (spOp gOr C b):=by
 have v:=B.VT.cl;refine F.m aV λT H Q E h=>?_;obtain⟨D,S,k,u,t,i,r,rfl,y,x,z,j,lt,o,q⟩:=h;refine(Y,λM A l s d=>?_);exact(_,AC (AJ (c_v B d (cW (dm G d (cW (Z 0) (Z 1))) (AX JD (HN (Z 0) v a d) (HN (Z 1) v a d))))),_,Y,_,Y,D,S,k,u,t,i,r,Y,y,x,z,j,λN e=>(_,Y,J2 (y.same e) (_,Y,J2 (x.same e) (_,_,Y,Y,N6 (z.same e) (C2 u t) lt o λp R I=>q p R (e.trans I)))))
def aW:AH [l7,kf] [l7,kf] (defScope Jh):=cY
def ZB(F:cC c "without" "without" Jh f n)(B:Ih P w c m g C b)(a:Mt P w c m g b jC 1 [jt] (spVNumber b))(G:Fn P w c m g nj 4 [l7,kf] (spSK C b)):bH P w c m g cF 6 f n [l7,kf] (spOp LM C b):=by
 have v:=B.VT.cl;refine F.m aW λT H Q E h=>?_;obtain⟨D,S,k,u,t,i,r,rfl,y,x,z,j,lt,o,q⟩:=h;refine(Y,λM A l s d=>?_);exact(_,AC (AJ (c_v B d (cW (dm G d (cW (Z 0) (Z 1))) (AX Ca (HN (Z 0) v a d) (DW LR (HN (Z 1) v a d)))))),_,Y,_,Y,D,S,k,u,t,i,r,Y,y,x,z,j,λN e=>(_,Y,J2 (y.same e) (_,Y,J2 (x.same e) (_,Y,_,_,Y,Y,N6 (z.same e) (ED u t) lt o λp R I=>q p R (e.trans I)))))
inductive spTu(C a:jr)(b:jq)(H:Hp)(Q:VK)(c:XK):Prop
 |mk p k n bG r(f:b=[.ref p])(g:dr a H p k n)(h:cE C H k bG r)(e:kn bG<2^20)(i:∀q d,bD H d->dr a d q k (kn bG-(kn bG&&&n))->Q (.ref q) d)
def aX:AH [l7] [l7] (defScope Lx):=cY
def ZC(F:cC b "turned" "turned" Lx f I)(T:Gh b C)(u:Ih P w b m g C c)(e:Mt P w b m g c jC 1 [jt] (spVNumber c))(d:Mt P w b m g c jJ 1 [jt] (spVKind c))(y:Mt P w b m g C kY 2 [jt] (spKnown C)):bH P w b m g cF 6 f I [l7] (spTu C c):=by
 have i:=u.VT.cl;refine F.m aX λG H Q E h=>?_;obtain⟨p,k,n,z,r,rfl,o,t,lt,q⟩:=h;refine(Y,λB A l s a=>?_);refine(_,AC (AJ (c_v u a (cW (HN (Z 0) i d a) (AX Ca (HN (HN (Z 0) i d a) T.cl y a) (DW LR (HN (Z 0) i e a)))))),_,Y,J3 o (_,Y,J3 o (WB t λD j=>(_,Y,J2 (o.same j) (_,Y,_,_,Y,Y,N6 (t.same j) (ED _ n) ?_ (.inr (QF _ _)) λp x v=>q p x (j.trans v))))))
 lia
noncomputable def ff:jm:=["a","ab","b","cdefghij","q","x"]
theorem Iy{b:Type}[BEq b][LawfulBEq b]:∀{l m:List b},l.Nodup->(∀x∈l,x∈m)->l.length<=m.length
 | [],m,_,_=>Nat.zero_le _
 |a::l,m,h,s=>by
  obtain⟨e,i⟩:=zj.mp h;have d:=s a (by simp);have:=Iy (m:=m.erase a) i λx j=>(List.mem_erase_of_ne (λz=>e (by simp_all))).mpr (s x (by simp_all));rw[List.length_erase_of_mem d]at this;have:=List.length_pos_of_mem d;rw[length_cons]
  lia
def FU(f:En)(x:Str)(v:Option (Nat×Nat)):En:=λy=>if y=x then v else f y
def Eb(f)(x)(v):FU f x v x=v:=zg rfl
def Ec(f)(v)(h:y≠x):FU f x v y=f y:=zh h
structure gq(ms:jm)(f:En):Prop where
 nd:ms.Nodup
 w:∀x∈ms,x∈ff
 mem:∀x,x∈ms ↔ f x≠J
def gq.len{a}(h:gq a f):a.length<=6:=Iy h.nd h.w
def gq.eqlen(h:gq b f)(g:gq c f):b.length=c.length:=Nat.le_antisymm (Iy h.nd λx a=>(g.mem x).mpr ((h.mem x).mp a)) (Iy g.nd λx a=>(h.mem x).mpr ((g.mem x).mp a))
abbrev TpE(H:Hp)(t:jr)(n c:Nat):Prop:=H t=U (.tup [.int (n:Int),.int (c:Int)])
structure gg(H:Hp)(kvs:LK)(f:En):Prop where
 ks:∃ms,kvs.map (·.1)=ms.map Sum.inr/\gq ms f
 vl:∀x n c,f x=U (n,(c))->∃t,Ai kvs (Sum.inr x)=U (.ref t)/\TpE H t n c
def inr_mem{a:jm}:(Sum.inr x:Key)∈a.map Sum.inr ↔ x∈a:=by
 simp_all
def Ry{a:LK}(h:k∉ a.map (·.1)):Ai a k=J:=by
 cases e:Ai a k with
 |none=>rfl
 |some v=>exact absurd (U0 e) h
def gg.no{f}{x}(h:gg H b f)(e:f x=J):Ai b (Sum.inr x)=J:=by
 obtain⟨i,a,d⟩:=h.ks;apply Ry;rw[a,inr_mem,d.mem]
 simp_all
def gg.is(h:gg H b f)(x):(Ai b (Sum.inr x)).isSome=(f x).isSome:=by
 cases e:f x with
 |none=>rw[h.no e];rfl
 |some v=>obtain⟨t,a,_⟩:=h.vl x v.1 v.2 e;simp_all
def gg.len(h:gg H b f):∃a,gq a f/\b.length=a.length:=by
 obtain⟨a,d,e⟩:=h.ks;refine(a,e,?_);have:=congrArg List.length d
 rwa[AO,AO]at this
def gg.small(h:gg H b f):b.length<sizeLine:=by
 obtain⟨d,a,e⟩:=h.len;have:=a.len;exact AQ (by lia)
def gg.keep(s:∀b g,H b=U (.tup g)->i b=U (.tup g))(h:gg H j f):gg i j f:=(h.ks,λx n c e=>let ⟨t,a,d⟩:=h.vl x n c e;(t,a,s _ _ d))
def gg.put(h:gg H g f)(u:x∈ff)(ht:TpE H t n c):gg H (Bi g (Sum.inr x) (.ref t)) (FU f x (U (n,(c)))):=by
 obtain⟨o,p,i⟩:=h.ks;refine(?_,λy m d e=>?_)
 .by_cases l:x∈o
  .refine(o,?_,i.nd,i.w,λy=>?_)
   .have:(Bi g (Sum.inr x) (.ref t)).map (·.1)=g.map (·.1):=by
     unfold Bi
     have q:(g.any λj=>decide (j.1=Sum.inr x))=L:=by
      rw[DJ,h.is x];cases e:f x with
      |none=>exact absurd e ((i.mem x).mp l)
      |some v=>rfl
     rw[zg q,map_map];refine List.map_congr_left λj _=>?_;show(if j.1=Sum.inr x then (j.1,(V.ref t))else j).1=j.1;split<;>rfl
    rw[this,p]
   .rw[i.mem];by_cases e:y=x
    .subst e;rw[Eb];exact(λ_=>(λz=>nomatch z),λ_=>(i.mem y).mp l)
    .rw[Ec _ _ e]
  .refine(o++[x],?_,?_,λy r=>?_,λy=>?_)
   .rw[Gp _ (h.no (Classical.byContradiction λz=>l ((i.mem x).mpr z))),zm,zm,p];rfl
   .refine List.nodup_append.mpr (i.nd,zj.mpr (not_mem_nil,nodup_nil),λa q b A=>?_)
    grind
   .rcases mem_append.mp r with z|z
    .exact i.w y z
    simp_all
   .rw[mem_append,i.mem];by_cases e:y=x
    .subst e;rw[Eb]
     simp_all
    .rw[Ec _ _ e]
     simp_all
 .rw[JG];by_cases z:y=x
  .subst z;rw[Eb]at e
   grind
  .rw[Ec _ _ z]at e;obtain⟨B,a,b⟩:=h.vl y m d e
   grind
theorem IT(k j):∀a:LK,Ai (Br a k) j=if j=k then J else Ai a j
 | []=>by unfold Br;rw[List.filter_nil,Mi];simp
 |p::r=>by
  by_cases e:p.1=k
  .rw[Qq e,IT k j r];by_cases z:j=k
   .simp_all
   .rw[zh z,zh z,A6 (λq=>z (q.symm.trans e))]
  .rw[Qr e];by_cases z:p.1=j
   .rw[A9 z,A9 z,zh (λq=>e (z.trans q))]
   .rw[A6 z,A6 z,IT k j r]
def gg.drop(h:gg H c f):gg H (Br c (Sum.inr x)) (FU f x J):=by
 obtain⟨j,t,i⟩:=h.ks;refine((j.filter λy=>decide (y≠x),?_,i.nd.sublist List.filter_sublist,λy v=>i.w y (mem_filter.mp v).1,λy=>?_),λy m d e=>?_)
 .have:∀(l:LK)(m:jm),l.map (·.1)=m.map Sum.inr->(l.filter λo=>decide (o.1≠Sum.inr x)).map (·.1)=(m.filter λy=>decide (y≠x)).map Sum.inr:=by
   intro l;induction l with
   |nil=>simp_all
   |cons p r A=>
    intro m e;cases m with
    |nil=>cases e
    |cons y m=>
     grind
  exact this c j t
 .rw[mem_filter,i.mem];by_cases e:y=x
  .subst e;rw[Eb]
   simp_all
  .rw[Ec _ _ e]
   simp_all
 .by_cases z:y=x
  .subst z;rw[Eb]at e;cases e
  .rw[Ec _ _ z]at e;obtain⟨u,a,b⟩:=h.vl y m d e;exact(u,by rw[IT,zh (λq=>z (Sum.inr.inj q))];exact a,b)
def BfAt(H:Hp)(v:V)(b:Option (Nat×Nat)):Prop:=(b=J/\v=.bQ)\/∃n c t,b=U (n,(c))/\v=.ref t/\TpE H t n c
inductive gG(H:Hp)(a:jr)(p:Str×Option (Nat×Nat)):Prop
 |mk v(b:H a=U (.tup [.str p.1,v]))(c:BfAt H v p.2)
structure Za where
 (b k e l:jr)
def HQ(k:V)(d l:jr):List (Str×V):=BB oA (.ref l) (BB lH (.ref d) (BB jX k []))
def iF(a:Aa)(r:Str)(f:En):Prop:=∀x n c,f x=U (n,(c))->n<2^20/\(r=lp \/ n-(n&&&kn a)=0)
abbrev iC:=List (PySem.Str×Option (Nat×Nat))
structure dY(BC C:jr)(z:Za)(bG:Aa)(r:Str)(f:En)(D:iC)(H:Hp):Prop where
 bk:∃dx,H z.b=U (.ins BC dx (HQ (.ref z.k) z.e z.l))
 ka:cE C H z.k bG r
 en:∃kvs,H z.e=U (.dK kvs)/\gg H kvs f
 de:∃as,H z.l=U (.lst (as.map V.ref))/\Paired (gG H) as D/\D.length<=100
 ok:iF bG r f
def BfAt.keep(s:∀b f,H b=U (.tup f)->g b=U (.tup f))(h:BfAt H v b):BfAt g v b:=by
 rcases h with h|⟨n,c,t,a,d,e⟩
 .exact .inl h
 .exact .inr (n,c,t,a,d,s _ _ e)
def gG.keep(s:∀b c,H b=U (.tup c)->f b=U (.tup c))(h:gG H a p):gG f a p:=by
 obtain⟨v,d,e⟩:=h;exact(v,s _ _ d,e.keep s)
structure DA(K:FG)(BC:jr):Prop where
 cl:gy K BC
 nK:dy K BC jX
 nE:dy K BC lH
 nD:dy K BC oA
def ZD(k)(d l){m:Str}(a:¬ m=oA:=by decide +kernel)(e:¬ m=lH:=by decide +kernel)(h:¬ m=jX:=by decide +kernel):(HQ k d l).lookup m=J:=by
 unfold HQ;rw[Ax,zh a,Ax,zh e,Ax,zh h];rfl
def aY(k)(d l):(HQ k d l).lookup (jX:Str)=U k:=by
 rfl
def Rz(k)(d l):(HQ k d l).lookup (lH:Str)=U (.ref d):=by
 rfl
def aZ(k)(d l):(HQ k d l).lookup (oA:Str)=U (.ref l):=by
 rfl
def dY.same{a}{r}(s:bD H g)(h:dY c C z a r f D H):dY c C z a r f D g:=by
 obtain⟨⟨A,t⟩,x,⟨d,j,i⟩,⟨y,l,o,v⟩,p⟩:=h;exact((A,s _ _ t),x.same s,(d,s _ _ j,i.keep λb u e=>s _ _ e),(y,s _ _ l,Paired.imp' (λ_ _ q=>q.keep λb u e=>s _ _ e) o,v),p)
def g_e(a:DA c b)(h:dY b C z g r f D H)(q:i (.ref z.e)):ExF c (.ref z.b) H lH i:=by
 obtain⟨e,d⟩:=h.bk;exact(z.b,b,e,_,_,Y,d,a.cl,a.nE,Rz _ _ _,q)
def g_d(a:DA c b)(h:dY b C z g r f D H)(q:i (.ref z.l)):ExF c (.ref z.b) H oA i:=by
 obtain⟨e,d⟩:=h.bk;exact(z.b,b,e,_,_,Y,d,a.cl,a.nD,aZ _ _ _,q)
def iA(a:DA c b)(h:dY b C z g r f D H)(q:i (.ref z.k)):ExF c (.ref z.b) H jX i:=by
 obtain⟨e,d⟩:=h.bk;exact(z.b,b,e,_,_,Y,d,a.cl,a.nK,aY _ _ _,q)
inductive spEn(a C d:jr)(b:jq)(H:Hp)(Q:VK)(E:XK):Prop
 |mk z bG r g D x n c(f:b=[.ref z.b,.str x])(h:dY a C z bG r g D H)(i:g x=U (n,(c)))(e:∀t,TpE H t n c->Q (.ref t) H)
 |no z bG r g D x(f:b=[.ref z.b,x])(h:dY a C z bG r g D H)(i:Nk H g x)(e:Uq H E d)
def aa:AH [jt,jx] [jt,jx] (defScope GY):=cY
def ZE(F:cC b "entry" "Book.entry" GY f T)(e:DA b R)(u:eE P w b N m jD S)(G:Fn P w b N m lr 1 [jz,jZ] (WU b)):bH P w b N m (d6 P w) 3 f T [jt,jx] (spEn R C S):=by
 refine F.gD aa (λM H Q E h=>?_) (λab A p s H M Q E i h=>?_)
 .rcases h with⟨_,_,_,_,_,_,_,_,rfl⟩|⟨_,_,_,_,_,_,rfl⟩<;>rfl
 .refine(_,AB (AU (Ar (Ak (dm G i (cW (Z 1) (Ae (Z 0) rfl))))) (AC (N5 u i)) AM) (AC (AJ (Au (Bs i) (Ae (Z 0) rfl) (Z 1) (λ_ _=>rfl)))),?_);rcases h with⟨z,j,r,g,D,x,n,c,rfl,B,l,q⟩|⟨z,j,r,g,D,x,rfl,B,l,y⟩
  .obtain⟨a,d,o⟩:=B.en;refine(_,Y,_,Y,g_e e B (.inl (.inl (x,z.e,a,Y,.inl d,_,Y,?_))));obtain⟨t,v,X⟩:=o.vl x n c l;rw[v];exact AS (_,Y,g_e e B (_,Y,z.e,_,Y,.inl (_,Sum.inr x,.inl d,Y,v.symm),q t X))
  .obtain⟨a,d,o⟩:=B.en;rcases l.no with⟨x,rfl,I⟩|⟨t,ht,d⟩
   .refine(_,Y,_,Y,g_e e B (.inl (.inl (x,z.e,a,Y,.inl d,_,Y,?_))));rw[o.no I];exact AZ (u.rd (bD.refl _) y)
   .exact(_,Y,_,Y,g_e e B (.inr (_,_,_,Y,ht,d,_,Y,AZ (u.rd (bD.refl _) y))))
inductive spVl(a C d e:jr)(b:jq)(H:Hp)(Q:VK)(E:XK):Prop
 |mk z bG r g D x n c(i:b=[.ref z.b,.str x])(j:dY a C z bG r g D H)(l:g x=U (n,(c)))(h:∀p f,bD H f->dr d f p z.k n->Q (.ref p) f)
 |no z bG r g D x(i:b=[.ref z.b,x])(j:dY a C z bG r g D H)(l:Nk H g x)(h:Uq H E e)
def dY.no{H}{a}{C}{d}{z}{r}{g}{D}{m:Str}{b}{t:TA}{k}(B:dY d C z a r g D H)(q:t b H k)(h:¬ m=oA:=by decide +kernel)(j:¬ m=lH:=by decide +kernel)(e:¬ m=jX:=by decide +kernel):ExM d m (.ref z.b) H (t b H k):=by
 obtain⟨l,i⟩:=B.bk;exact(z.b,l,_,Y,i,ZD _ _ _ h j e,q)
def ac:AH [jt,jx] [jt,jx] (defScope GZ):=cY
def ZF(F:cC b lI "Book.value" GZ f R)(e:DA b m)(u:Ih P w b I G C M)(v:B6 P w b I G m "entry" 3 [jt,jx] (spEn m C N)):bH P w b I G (d6 P w) 6 f R [jt,jx] (spVl m C M N):=by
 refine F.gD ac (λy H Q E h=>?_) (λp A i s H y Q E l h=>?_)
 .rcases h with⟨_,_,_,_,_,_,_,_,rfl⟩|⟨_,_,_,_,_,_,rfl⟩<;>rfl
 .refine(_,AC (AJ (c_v u l (cW (Ae (Z 0) rfl) (Am (Ad b rfl) (BZ (Z 0) e.cl v l DP (cZ (Z 1))) AF (λ_ _=>rfl))))),?_);rcases h with⟨z,a,r,g,D,x,n,c,rfl,B,d,q⟩|⟨z,a,r,g,D,x,rfl,B,d,o⟩
  .obtain⟨lt,j⟩:=B.ok x n c d;exact(_,Y,iA e B (_,Y,B.no (_,Y,.mk z a r g D x n c Y B d λt ht=>(t,_,0,_,Y,Y,cD.of ht,Y,N6 B.ka Y (by lia) j q))))
  .exact(_,Y,iA e B (_,Y,B.no (_,Y,.no z a r g D x Y B d o)))
inductive spCh(a C d:jr)(b:jq)(H:Hp)(Q:VK)(E:XK):Prop
 |mk z bG r g D x n c(f:b=[.ref z.b,.str x])(h:dY a C z bG r g D H)(i:g x=U (n,(c)))(e:Q (.int (c:Int)) H)
 |no z bG r g D x(f:b=[.ref z.b,x])(h:dY a C z bG r g D H)(i:Nk H g x)(e:Uq H E d)
def ad:AH [jt,jx] [jt,jx] (defScope EM):=cY
def ZG(F:cC b oB "Book.changes" EM f G)(i:DA b m)(p:B6 P w b I v m "entry" 3 [jt,jx] (spEn m C y)):bH P w b I v (d6 P w) 4 f G [jt,jx] (spCh m C y):=by
 refine F.gD ad (λu H Q E h=>?_) (λo A e s H u Q E l h=>?_)
 .rcases h with⟨_,_,_,_,_,_,_,_,rfl⟩|⟨_,_,_,_,_,_,rfl⟩<;>rfl
 .refine(_,AC (AJ (Am (Ad b rfl) (BZ (Z 0) i.cl p l DP (cZ (Z 1))) AF (λ_ _=>rfl))),?_);rcases h with⟨z,a,r,g,D,x,n,c,rfl,B,d,q⟩|⟨z,a,r,g,D,x,rfl,B,d,j⟩
  .exact(_,Y,B.no (_,Y,.mk z a r g D x n c Y B d λt ht=>(t,_,1,_,Y,Y,cD.of ht,Y,q)))
  .exact(_,Y,B.no (_,Y,.no z a r g D x Y B d j))
inductive spNs(a C:jr)(b:jq)(H:Hp)(Q:VK)(c:XK):Prop
 |mk z bG r g D(f:b=[.ref z.b])(h:dY a C z bG r g D H)(i:∀l e d,bD H d->d l=U (.lst (e.map V.str))->gq e g->PyProof.Rows.sortedS e=L->Q (.ref l) d)
def gq.perm(h:gq b g)(p:c.Perm b):gq c g:=(p.nodup_iff.mpr h.nd,λx a=>h.w x (p.mem_iff.mp a),λx=>(p.mem_iff).trans (h.mem x))
def ae:AH [jt] [jt] (defScope Ga):=cY
def ZH(F:cC b jZ "Book.names" Ga f m)(B:Bl n)(o:DA b c):bH P w b n N cF 1 f m [jt] (spNs c C):=by
 refine F.m ae λM H Q E h=>?_;obtain⟨z,u,r,g,D,rfl,e,q⟩:=h;refine(Y,λG A d s S=>?_);obtain⟨a,v,I⟩:=e.en;obtain⟨y,p,i⟩:=I.ks;have:=i.len;exact(_,AC (AJ (AR (Dd Y) Y B.sorted Dv (cZ (Ae (Z 0) Y)))),_,Y,g_e o e (z.e,a,y,Y,.inl v,p,by lia,λl t j x R=>q l t _ (AD (bD.refl _) j) bA (i.perm x) R))
inductive spLn(a C:jr)(b:jq)(H:Hp)(Q:VK)(c:XK):Prop
 |mk z bG r g D(e:b=[.ref z.b])(f:dY a C z bG r g D H)(h:∀d,gq d g->Q (.int (d.length:Int)) H)
def af:AH [jt] [jt] (defScope Jl):=cY
def ZI(F:cC b oz "Book.__len__" Jl f m)(B:Bl n)(i:DA b c):bH P w b n G cF 1 f m [jt] (spLn c C):=by
 refine F.m af λy H Q E h=>?_;obtain⟨z,l,r,g,D,rfl,e,q⟩:=h;refine(Y,λt A d s x=>?_);obtain⟨a,o,u⟩:=e.en;obtain⟨p,j,v⟩:=u.len;refine(_,AC (AJ (AR Kh Y B.len PySem.boot_len (cZ (Ae (Z 0) Y)))),_,Y,g_e i e (z.e,a,Y,o,?_));rw[v];exact q p j
def iq(z:Za)(H a:Hp):Prop:=∀b o,H b=U o->b≠z.e->b≠z.l->a b=U o
def gk(g:En)(x:Str)(n:Nat):En:=FU g x (U (n,match g x with|none=>0|some (m,c)=>if n=m then c else c+1))
def dY.deed(B:dY w C z n r g D H)(s:iq z H f)(I:∃m,f z.e=U (.dK m)/\gg f m u)(N:∃d a,H z.l=U (.lst (d.map V.ref))/\f z.l=U (.lst ((d++[a]).map V.ref))/\gG f a p)(X:D.length<100)(ok:iF n r u):dY w C z n r u (D++[p]) f:=by
 obtain⟨⟨q,F⟩,S,⟨m,h3,h4⟩,⟨d,A,E,h7⟩,h8⟩:=B;have j:∀{b:jr}{o:HO},H b=U o->(∀P,o≠ .dK P)->(∀i,o≠ .lst i)->f b=U o:=λ{b o}e al ag=>s b o e (λz=>by grind) (λz=>by grind);have M:∀b i,H b=U (.tup i)->f b=U (.tup i):=λb i e=>j e (λ_ z=>nomatch z) (λ_ z=>nomatch z);obtain⟨bs,a,v,Q,x⟩:=N;rw[A]at v;have:=HO.lst.inj (Option.some.inj v);have t:=(List.map_inj_right (λan ar h=>V.ref.inj h)).mp this;subst t;refine((q,j F (λ_ z=>nomatch z) (λ_ z=>nomatch z)),?_,I,(d++[a],Q,?_,by grind),ok)
 .obtain⟨q,y,T,ab,R,a,b,c⟩:=S.ex;exact⟨(q,y,T,ab,R,j a (λ_ z=>nomatch z) (λ_ z=>nomatch z),j b (λ_ z=>nomatch z) (λ_ z=>nomatch z),j c (λ_ z=>nomatch z) (λ_ z=>nomatch z))⟩
 .have l:∀{d:List jr}{D:iC},Paired (gG H) d D->Paired (gG f) (d++[a]) (D++[p]):=λh=>by
   induction h with
   |nil=>exact .cons x .nil
   |cons a r G=>exact .cons (a.keep M) G
  exact l E
inductive gC(a C b:jr)(c:jq)(H:Hp)(Q:VK)(d:XK):Prop
 |mk z bG r g D x v n(h:c=[.ref z.b,.str x,.ref v])(i:dY a C z bG r g D H)(j:dr b H v z.k n)(f:x∈ff)(l:D.length<100)(m:n<2^20/\(r=lp \/ n-(n&&&kn bG)=0))(o:∀e,iq z H e->dY a C z bG r (gk g x n) (D++[(x,(g x))]) e->Q .bQ e)
noncomputable abbrev NGv:jm:=[jt,jx,lI,"before",jC,oB]
def scGv:AH NGv [jt,jx,lI] (defScope IB):=cY
def ZJ(F:cC d "give" "Book.give" IB aC fd)(M:DA d q)(VT:Nq d f)(an:Mt ag a1 d mg ar f jC 1 [jt] (spVNumber f)):bH ag a1 d mg ar cF 2 aC fd [jt,jx,lI] (gC q a3 f):=by
 refine F.m scGv λvs H a6 a5 h=>?_;obtain⟨z,bG,a9,g,a4,x,a0,n,rfl,B,hv,hx,hl,hn,aR⟩:=h;refine(Y,λbf a2 a8 ba hr=>?_);have hu:=Bs hr;have v:=scGv.nd
 refine(_,AB (A5 3 v (SS hu (Ae (Z 0) Y) (Z 1) (Y,Y,Y,Y)))
  (AB (A5 4 v (HN (Z 2) VT.cl an hr))
  (AB (A5 5 v AF)
  (An (AU (Db (Uh (Z 3))) (AC (A5 5 v (BX (AL Ao (Z 4) (Am (Ad d rfl) (Z 3) AF (λ_ _=>rfl)) (AN _)) (Am (Ad d rfl) (Z 3) AF (λ_ _=>rfl)) (AX CD (Am (Ad d rfl) (Z 3) AF (λ_ _=>rfl)) AF)))) AM)
  (AB (AV (Aw (Ae (Z 0) rfl) (cZ (Ab (cW (Z 1) (Z 3))))))
  (AC (D4 hu (Ae (Z 0) rfl) (Z 1) (Ab (cW (Z 4) (Z 5))) rfl)))))),?_)
 obtain⟨i,E,S⟩:=B.en;obtain⟨X,l,aM,_⟩:=B.de
 obtain⟨u,al,Q⟩:∃u,(Ai i (Sum.inr x)).getD .bQ=u/\BfAt H u (g x):=by
  refine(_,rfl,?_);cases e:g x with
  |none=>rw[S.no e];exact .inl (Y,Y)
  |some y=>obtain⟨t,T,D⟩:=S.vl x y.1 y.2 e;rw[T];exact .inr (_,_,t,Y,Y,D)
 refine(_,Y,g_e M B (z.e,Y,.inl (_,.inl E),_,Y,_,.inl (_,Sum.inr x,.inl E,Y,Y),?_));rw[al];refine(_,Y,J2 hv (λab H'=>H'=H/\∃c:Nat,ab=[U (.ref z.b),U (.str x),U (.ref a0),U u,U (.int n),U (.int c)]/\FU g x (U (n,(c)))=gk g x n,λa7 A=>?_,?_))
 .refine(_,rfl,_,rfl,?_);rcases Q with⟨e,rfl⟩|⟨m,c,t,e,rfl,ht⟩
  .refine AS (A _ _ (Y,0,Y,?_));unfold gk;rw[e]
  .refine AZ (_,Y,_,Y,t,_,0,_,Y,Y,cD.of ht,Y,Y,_,Y,BL (λh=>?_) (λh=>?_))
   .have hh:n=m:=by have:=V.int.inj (zT h);lia
    refine(_,Y,t,_,1,_,Y,Y,cD.of ht,Y,A _ _ (Y,c,Y,?_));unfold gk
    simp_all
   .have hh:¬ n=m:=λe=>h (zK (by rw[e]));refine(_,Y,t,_,1,_,Y,Y,cD.of ht,Y,_,_,Y,Y,A _ _ (Y,c+1,Y,?_));unfold gk
    simp_all
 rintro ab p ⟨rfl,c,rfl,eg⟩;refine(_,Y,g_d M B (.inl (Y,_,bZ.of l),_,Y,_,Y,fb,λa ha=>?_));have sa:=AD (bD.refl p) ha (o:=HO.tup [V.str x,u]);have ck:=aM.length;refine(z.l,_,_,Y,Y,sa _ _ l,AQ (by grind),?_);generalize C:upd (upd p a (HO.tup [V.str x,u])) z.l (HO.lst (X.map V.ref++[V.ref a]))=r;have R:z.e≠z.l:=λy=>by simp_all
 have N:∀b o,p b=U o->b≠z.l->r b=U o:=λb o e w=>by rw[←C,AE w];exact sa _ _ e
 have I:=N _ _ E R;obtain⟨dx,w⟩:=B.bk;refine(_,Y,_,Y,fb,λt ht=>?_);have st:=AD (bD.refl r) ht (o:=HO.tup [V.int n,V.int c]);refine(_,Y,(z.b,q,dx,_,_,Y,st _ _ (N _ _ w (λy=>by simp_all)),M.cl,M.nE,Rz _ _ _,_,Y,z.e,_,Y,gx.k (k:=Sum.inr x) (st _ _ I) S.small,?_));have G:(upd r t (HO.tup [V.int n,V.int c])) t=U (.tup [.int n,.int c]):=bA;generalize e3:upd r t (HO.tup [V.int n,V.int c])=s at st G;have ef:iq z p (upd s z.e (.dK (Bi i (Sum.inr x) (.ref t)))):=λb o e T D=>by rw[AE T];exact st _ _ (N b o e D)
 have P:∀b j,s b=U (.tup j)->(upd s z.e (.dK (Bi i (Sum.inr x) (.ref t)))) b=U (.tup j):=λb j e=>by rw[AE (λy=>by rw[y,st _ _ I]at e;cases e)];exact e
 have t1:∀b j,p b=U (.tup j)->s b=U (.tup j):=λb j e=>st _ _ (N b _ e (λy=>by simp_all));refine aR _ ef (B.deed ef (_,bA,?_) (X,a,l,?_,u,?_,?_) hl ?_)
 .rw[←eg];exact((S.keep t1).put hx G).keep P
 .rw[AE (Ne.symm R),zm];apply st _ _;rw[←C,bA];rfl
 .refine P _ _ (st _ _ ?_);rw[←C,AE (λy=>by simp_all),bA]
 .exact(Q.keep t1).keep P
 .rw[←eg];intro y m az e;by_cases hy:y=x
  .subst hy;rw[Eb]at e
   simp_all
  .rw[Ec _ _ hy]at e;exact B.ok y m az e
def QZ(h:x∈a.map (·.1)):∃p∈a,look a x=p.2:=by
 unfold look;cases q:a.find? λp=>decide (p.1=x)with
 |none=>
  grind
 |some p=>grind
def gu(a:Aa)(n:Nat):Prop:=n-(n&&&kn a)=0
def gu.iff:gu b n ↔ ∀k,n.testBit k=L->(kn b).testBit k=L:=by
 constructor
 .intro h k a;have:=congrArg (λm=>m.testBit k) h;simp[MA,a]at this;simpa using this
 .intro h;refine Nat.eq_of_testBit_eq λk=>?_;rw[MA]
  simp_all
def gu.or{a}{n m}(h:gu a n)(g:gu a m):gu a (n|||m):=gu.iff.mpr λk d=>by
 rw[Nat.testBit_or,Bool.or_eq_true]at d;exact d.elim (gu.iff.mp h k) (gu.iff.mp g k)
def gu.sub(m)(h:gu b n):gu b (n-(n&&&m)):=gu.iff.mpr λk a=>by
 rw[MA,Bool.and_eq_true]at a;exact gu.iff.mp h k a.1
def J4{a}{d:jm}(b:∀x∈d,x∈a.map (·.1)):gu a (Ah (d.map (look a))):=gu.iff.mpr λk e=>by
 rw[DE,any_map,any_eq_true]at e;obtain⟨x,h,j⟩:=e;obtain⟨p,i,e⟩:=QZ (b x h);unfold kn;rw[DE]
 grind
def N7{d:jm}(b:∀x∈d,x∈a.map (·.1))(h:∀p∈a,p.2<2^20):Ah (d.map (look a))<2^20:=by
 refine Ey λn j=>?_;obtain⟨x,i,rfl⟩:=zi.mp j;obtain⟨p,l,e⟩:=QZ (b x i)
 simp[*]
structure NmO(bG:Aa)(ns:jm):Prop where
 l:ns.length<=100
 s:∀x∈ns,x∈bG.map (·.1)
 lt:∀p∈bG,p.2<2^20
abbrev sqO(b:Bool)(a:jq):HO:=if b then .tup a else .lst a
inductive iU(a:Aa)(H:Hp)(v:V):Prop
 |no(h:v=.bQ\/(∃i,v=.int i)\/∃x,v=.str x)
 |sq b l(c:jm) u us(e:v=.ref l)(h:H l=U (sqO b (c.map V.str++u::us)))(d:c.length<=100)(f:∀x∈c,x∈a.map (·.1))(g:Nk H (PM a) u)
inductive spVo(C c d:jr)(a:jq)(H:Hp)(Q:VK)(E:XK):Prop
 |mk b k l bG r ns(g:a=[.ref k,.ref l])(h:cE C H k bG r)(i:H l=U (sqO b (ns.map V.str)))(f:NmO bG ns)(j:∀q e,bD H e->dr c e q k (Ah (ns.map (look bG)))->Q (.ref q) e)
 |no k bG r v(g:a=[.ref k,v])(h:cE C H k bG r)(i:iU bG H v)(f:Uq H E d)
def ah:AH [jJ,jZ] [jJ,jZ] (defScope Dt):=cY
def ZK(F:cC c lM lM Dt f fd)(B:Bl g)(az:Gh c C)(VO:Ih P w c g m C n)(EB:eE P w c g m jD o)(GU:Fn P w c g m mY 1 [jO] (spUnionOf c))(GN:B6 P w c g m C jC 3 [jt,jx] (spKN C o)):bH P w c g m (d6 P w) 6 f fd [jJ,jZ] (spVo C n o):=by
 refine F.gD ah (λvs H Q E h=>?_) (λbf A ar an H vs Q E X h=>?_)
 .rcases h with⟨_,_,_,_,_,_,rfl⟩|⟨_,_,_,_,rfl⟩<;>rfl
 .have own:=Sq (CX:=d6 P w) (P:=P) (w:=w) (ω:=c) (mg:=g) (base:=m) (N:=[jJ,jZ]) (qual:=lM) (scope:=defScope Dt) (f:=f) (cd:=bf) (A:=A) (outer:=ar) (s:=an) (H:=H) (E:=E)
  have sq:∀b(k l)a r(d:jm)s,cE C H k a r->H l=U (sqO b (d.map V.str++s))->d.length<=100->(∀x∈d,x∈a.map (·.1))->(s=[]/\(∀p∈a,p.2<2^20)/\(∀q G,bD H G->dr n G q k (Ah (d.map (look a)))->Q (.ref q) G))\/(∃u vs,s=u::vs/\Nk H (PM a) u/\Uq H E o)->∃t,fk (Bf (d6 P w) P w c g m [jJ,jZ] lM (defScope Dt) f bf A ar an H E) (defBody Dt) t/\t {nx:=λ_ G=>Q .bQ G,rt:=Q} (start [jJ,jZ] [.ref k,.ref l]) H:=by
   intro b k l a r d s S R ck T a0;obtain⟨dk,d1,d2,hk⟩:=S.ins
   have aC:∀{t1 t2:TS}{al:I0}{ag:St},ag[1]?=U (U (.ref l))->(∀y,bD H y->t2 al ag y)->Ui (Uj (YB (Pd (tCB (λxs H Q=>∃p t I,xs=[.ref p,.ref t]/\((H p=U (.lst I))\/(H p=U (.tup I)))/\cD c H t [V.ty jH,V.ty jN]/\Q (.bl gl) H) (AY (Ij 1) (AY (JF (AY (tC (.ty jH)) (AY (tC (.ty jN)) BS))) BS))))) t1 R9) t2 al ag H:=λ{t1 t2 al ag}a2 k2=>by
    refine(_,a2,fb,λt ht=>?_);have e:=AD (bD.refl _) ht (o:=HO.tup [V.ty jH,V.ty jN]);have:=e _ _ R;refine(l,t,d.map V.str++s,rfl,?_,cD.of bA,_,rfl,AS (k2 _ e));cases b with
    |false=>exact .inl this
    |true=>exact .inr this
   have as:∀i:Nat,i<=d.length->(A0 ((d.take i).map (look a))).length<=1000:=λi D=>by unfold A0;rw[AO,AO,zt];lia
   have step:∀y,bD H y->∀i v,(d.map V.str++s)[i]?=U v->i<=d.length->∀{kk:V->Hp->Prop},(∀x:Str,(i+1<=d.length/\A0 ((d.take i).map (look a))++[V.int (look a x)]=A0 ((d.take (i+1)).map (look a)))->kk (.int (look a x)) y)->spKN C o (.ref k::([v]++[])) y kk E:=by
    intro y e i v D j kk q;rcases Nat.lt_or_ge i d.length with ab|a1
    .rw[List.getElem?_append_left (by rw[AO];exact ab),zy]at D;obtain⟨x,hx,rfl⟩:=z6.mp D;refine .mk k a r x Y (S.same e) (T x (zP hx)) (q x (ab,?_));rw[zx,hx,zm];unfold A0;rw[zm];rfl
    .rw[List.getElem?_append_right (by rw[AO];exact a1)]at D;rcases a0 with⟨rfl,_⟩|⟨u,s,rfl,hu,hU⟩
     .cases D
     .have e0:i-(d.map V.str).length=0:=by rw[AO];simp_all
      rw[e0]at D;cases D;exact .no k a r _ Y (S.same e) (hu.same e) (Uq.of e hU)
   have aM:∀{y:Hp}{q:Prop},bD H y->q->ExM C jC (.ref k) y q:=λe q=>(k,dk,_,rfl,e _ _ hk,(Cq _ _ _),q)
   have aR:∀{y:Hp},bD H y->(d.map V.str++s).length<=d.length->∀p,y p=f8->spUnionOf c [.ref p] (upd y p (.lst (A0 ((d.take (d.map V.str++s).length).map (look a))))) (λv z=>∀x dx,z x=f8->z dx=f8->dx≠x->spVInit C n (.ref x::([.ref k,v]++[])) (upd (upd z dx (.own x)) x (.ins n dx [])) (λv H3=>v=.bQ/\Q (.ref x) H3) E0) E0:=λ{y}e j p M=>by
    rcases a0 with⟨rfl,ab,q⟩|⟨u,s,rfl,_⟩
    .rw[zl,AO,zu];have s2:=e.trans (AD (bD.refl _) M (o:=HO.lst (A0 (d.map (look a)))));exact(p,d.map (look a),Y,bZ.of bA,N6 (S.same s2) Y (Nat.lt_trans (N7 T ab) qc) (.inr (J4 T)) λq' H3 s3=>q q' H3 (s2.trans s3))
    .exact absurd j (by simp)
   cases b with
   |false=>
    refine(_,AB (AU (Ar (Ak (AR (JR c Y) Y B.fj EQ (cW (Z 1) (Ab (cW (C6 (v:=.ty jH) Y B.list ER Y) (C6 (v:=.ty jN) Y B.tuple Cy Y))))))) (AC Ag) AM)
     (AC (AJ (c_v VO X (cW (Z 0) (dm GU X (cZ (K0 own TC [jJ] [U 0] qd qb qd rfl (BW (Z 1)) (λ_ _ _ _ _ _=>BR) (λ_ _ _ _ _ _=>BZ (Z 1) az.cl GN X (WQ own) (cZ (Z 0)))))))))),aC rfl λy e=>?_)
    refine(_,Y,_,Y,l,Y,(_,bZ.of (e _ _ R)),B0 (λi I z=>i<=d.length/\I=A0 ((d.take i).map (look a))/\z=y) (Nat.zero_le _,Y,Y) (λi I z _ q=>q.2.2 ▸ bZ.of (e _ _ R)) (λi I z q=>q.2.1 ▸ as i q.1) ?_ ?_)
    .rintro i v I z D ⟨j,rfl,rfl⟩;exact(_,Y,aM e (_,Y,step _ e i v D j λx q=>(q.1,q.2,Y)))
    .rintro I z ⟨j,rfl,rfl⟩ p M;exact aR e j p M
   |true=>
    refine(_,AB (AU (Ar (Ak (AR (JR c Y) Y B.fj EQ (cW (Z 1) (Ab (cW (C6 (v:=.ty jH) Y B.list ER Y) (C6 (v:=.ty jN) Y B.tuple Cy Y))))))) (AC Ag) AM)
     (AC (AJ (c_v VO X (cW (Z 0) (dm GU X (cZ (K0 own TC [jJ] [U 0] qd qb qd rfl (OL (Z 1)) (λ_ _ _ _ _ _=>BR) (λ_ _ _ _ _ _=>BZ (Z 1) az.cl GN X (WQ own) (cZ (Z 0)))))))))),aC rfl λy e=>?_)
    refine(_,Y,_,Y,l,Y,(_,cD.of (e _ _ R)),JO (λi I z=>i<=d.length/\I=A0 ((d.take i).map (look a))/\z=y) (Nat.zero_le _,Y,Y) (λi I z _ q=>q.2.2 ▸ cD.of (e _ _ R)) (λi I z q=>q.2.1 ▸ as i q.1) ?_ ?_)
    .rintro i v I z D ⟨j,rfl,rfl⟩;exact(_,Y,aM e (_,Y,step _ e i v D j λx q=>(q.1,q.2,Y)))
    .rintro I z ⟨j,rfl,rfl⟩ p M;exact aR e j p M
  rcases h with⟨b,k,l,a,r,d,rfl,S,R,N,q⟩|⟨k,a,r,v,rfl,S,hv|⟨b,l,d,u,s,rfl,h,R,T,hu⟩,hU⟩
  .exact sq b k l a r d [] S (by rwa[zl]) N.l N.s (.inl (Y,N.lt,q))
  .exact(_,AB (AU (Ar (Ak (AR (ND c Y) Y B.fj EQ (cW (Z 1) (Ab (cW (C6 (v:=.ty jH) Y B.list ER Y) (C6 (v:=.ty jN) Y B.tuple Cy Y))))))) (AC (N5 EB X)) AM) (AC Ag),_,Y,fb,λt ht=>(v,t,Y,hv,cD.of bA,_,Y,AZ (EB.rd (AD (bD.refl _) ht) hU)))
  .exact sq b k l a r d (u::s) S h R T (.inr (u,s,Y,hu,hU))
def KL(x:Str):Bool:=decide (1<=x.length/\x.length<=8)&&x.cps.toList.all Cm
abbrev ji(H:Hp)(v:V):Prop:=Nk H (λ_=>U (0,(0))) v
inductive spIb(a:jq)(H:Hp)(Q:VK)(b:XK):Prop
 |mk x(d:a=[.str x])(e:x.cps.all (· < 128)=L)(f:x.length<=100)(g:∀c,bD H c->Q (.bl (KL x)) c)
 |no v(d:a=[v])(e:ji H v)(f:Q (.bl O) H)
def PU:∀x∈ff,x.cps.all (· < 128)=L/\x.length<=8/\KL x=L:=by decide +kernel
def ji.ty(h:ji H v):∃t,eh a H v t/\W.kitOne a t (.type mQ)=U O:=by
 rcases h.no with⟨_,_,h⟩|h
 .cases h
 .exact h
def ai:AH [jz] [jz] (defScope E6):=cY
def ZL(F:cC d mf mf E6 f g)(B:Bl a)(j:a "LONGEST_BOOK_NAME"=U (.int 8 l)):bH P w d a m cF 1 f g [jz] spIb:=by
 refine F.ok ai (λR H Q E h=>?_) (λS A ab s H R Q E X h=>?_)
 .rcases h with⟨_,rfl⟩|⟨_,rfl⟩<;>rfl
 .refine(_,AB (AU (PW.pt (DH (Ar (Ak (Bn d Y Y B.fj Y B.str FE (Z 0)))) (By (Ar (Er Eo Eo AF (AR A4 Y B.len PySem.boot_len (cZ (Z 0))) (BM (v:=.int 8) Y j (l,Y))))))) (AC (AJ CQ)) AM)
   (AC (AJ (AR (Ds rfl) rfl B.all IH (cZ (Bt [] [] (by rfl) (by simp) (by rfl) rfl (JQ (Z 0)) (λ_ _ _ _ _ _=>BR) (λ_ _ _ _ _ _=>Ep B2 B2 AI (Z 0) AI)))))),?_)
  rcases h with⟨x,rfl,ha,hl,q⟩|⟨v,rfl,hv,q⟩
  .refine(_,Y,_,_,_,L,Y,.str x,Y,_,Y,AS (_,Y,x,Y,Nat.le_of_lt (AQ (by lia)),_,_,Y,Y,_,Y,?_));by_cases C:1<=x.length
   .rw[zK (by lia)];refine AZ (_,_,Y,Y,_,Y,?_);by_cases D:x.length<=8
    .rw[zK (by lia)];refine AS (_,Y,x,Y,ha,HB (λi r n=>n=H/\r=((x.cps.toList.take i).map Cm).map V.bl) (Y,Y) (λi r n q=>?_) ?_ ?_)
     .rw[q.2,AO,AO,zt];have:x.cps.toList.length=x.length:=rfl
      lia
     .rintro i c r n T ⟨rfl,rfl⟩;have o:=IS 97 122 "a" "z" (by rfl) (by rfl) c
      have y:∀b,b=Cm c->(n=n/\((x.cps.toList.take i).map Cm).map V.bl++[V.bl b]=((x.cps.toList.take (i+1)).map Cm).map V.bl):=λb I=>(rfl,by
       have G:x.cps.toList[i]?=U c:=by rwa[Array.getElem?_toList]
       rw[zx,G,zm,zm,I]
       rfl)
      refine(_,Y,_,_,Y,Y,_,Y,BL (λu=>?_) (λu=>?_))
      .rw[zg u]at o;exact(_,_,Y,Y,y _ o)
      .rw[zh u]at o;exact y _ o
     .rintro r n ⟨rfl,rfl⟩ p N;refine(p,(x.cps.toList.take x.cps.size).map Cm,Y,bZ.of bA,?_)
      have e:((x.cps.toList.take x.cps.size).map Cm).all id=KL x:=by
       unfold KL;rw[zK (C,D),←Array.length_toList,zu,all_map];rfl
      rw[e];exact q _ (AD (bD.refl _) N)
    .rw[zN (by lia)];apply AZ;have e:KL x=O:=by unfold KL;rw[zN λz=>D z.2];rfl
     exact e ▸ q _ (bD.refl _)
   .rw[zN (by lia)];refine AS (_,Y,AZ ?_);have e:KL x=O:=by unfold KL;rw[zN λz=>C z.1];rfl
    exact e ▸ q _ (bD.refl _)
  .obtain⟨t,ht,M⟩:=hv.ty;exact(_,Y,_,_,_,O,Y,ht,M,_,Y,AZ q)
def N8(a C:jr)(z:Za)(b:Aa)(r:Str)(g:En)(D:iC)(H:Hp)(Q:VK):Prop:=∀c,iq z H c->dY a C z b r g D c->Q .bQ c
def Vok(a:Aa)(r:Str)(n:Nat):Prop:=n<2^20/\(r=lp \/ n-(n&&&kn a)=0)
def J5(B:dY c C z b r g D H)(e:dr f H v z.k n)(d:x∈ff)(a:D.length<100)(h:Vok b r n)(q:N8 c C z b r (gk g x n) (D++[(x,(g x))]) H Q):gC c C f (.ref z.b::([.str x,.ref v]++[])) H Q E:=(z,b,r,g,D,x,v,n,rfl,B,e,d,a,h,q)
def NmO.ok{a}{r}{d}(N:NmO a d):Vok a r (Ah (d.map (look a))):=(N7 N.s N.lt,.inr (J4 N.s))
def dY.nmE(b)(B:dY i C z c r g D H)(d:H l=U (sqO b (f.map V.str)))(N:NmO c f)(q:∀q a,bD H a->dr h a q z.k (Ah (f.map (look c)))->e (.ref q) a):spVo C h j (.ref z.k::([.ref l]++[])) H e E:=.mk b z.k l c r f rfl B.ka d N q
def iU.same(s:bD H c)(h:iU f H v):iU f c v:=by
 cases h with
 |no h=>exact .no h
 |sq b l j u a e h d i o=>exact .sq b l j u a e (s _ _ h) d i (o.same s)
def dY.nmB(B:dY d C z b r g D H)(h:iU b H v)(q:Uq H E c):spVo C e c (.ref z.k::([v]++[])) H a E:=.no z.k b r v rfl B.ka h q
def NbV(H:Hp)(v:V):Prop:=(∃x,v=.str x/\x.cps.all (· < 128)=L/\x.length<=100/\KL x=O)\/ji H v
def NbV.ib(h:NbV H v)(q:∀a,bD H a->Q (.bl O) a):spIb (v::[]) H Q E:=by
 rcases h with⟨x,rfl,e,i,d⟩|h
 .exact .mk x Y e i (d ▸ q)
 .exact .no v Y h (q _ (bD.refl _))
def UW(d:x∈ff)(q:∀a,bD H a->Q (.bl L) a):spIb (.str x::[]) H Q E:=by
 obtain⟨h,i,e⟩:=PU x d;exact .mk x Y h (by lia) (e ▸ q)
inductive spPu(a C d:jr)(c:jq)(H:Hp)(Q:VK)(E:XK):Prop
 |mk z bG r g D x l ns(f:c=[.ref z.b,.str x,.ref l])(i:dY a C z bG r g D H)(h:x∈ff)(e:D.length<100)(j:H l=U (.lst (ns.map V.str)))(m:NmO bG ns)(n:N8 a C z bG r (gk g x (Ah (ns.map (look bG)))) (D++[(x,(g x))]) H Q)
 |no b x l(f:c=[b,x,l])(h:NbV H x)(e:Uq H E d)
 |bad z bG r g D x l(f:c=[.ref z.b,.str x,l])(i:dY a C z bG r g D H)(h:x∈ff)(e:iU bG H l)(j:Uq H E d)
def aj:AH [jt,jx,jZ] [jt,jx,jZ] (defScope Jk):=cY
def ZM(F:cC c "put" "Book.put" Jk f S)(p:DA c s)(v:eE P w c n m jD y)(M:Fn P w c n m mf 1 [jz] spIb)(A:ip P w c n m lM 6 [jJ,jZ] (spVo C z y))(R:Mt P w c n m s "give" 2 [jt,jx,lI] (gC s C z)):bH P w c n m (d6 P w) 7 f S [jt,jx,jZ] (spPu s C y):=by
 refine F.gD aj (λal H Q E h=>?_) (λas ar aM az H al Q E i h=>?_)
 .rcases h with⟨_,_,_,_,_,_,_,_,rfl⟩|⟨_,_,_,rfl⟩|⟨_,_,_,_,_,_,_,rfl⟩<;>rfl
 .refine(_,AB (AU (Ar (Ak (dm M i (cZ (Z 1))))) (AC (N5 v i)) AM) (AC (AV (c_m (Z 0) p.cl R i (cW (Z 1) (c_r A i DP (cW (Ae (Z 0) rfl) (Z 2))))))),?_);rcases h with⟨an,u,r,g,D,x,l,ns,rfl,B,d,O,j,N,q⟩|⟨b,x,l,rfl,d,t⟩|⟨an,u,r,g,D,x,l,rfl,B,d,j,t⟩
  .exact(_,Y,UW d λG a=>(_,Y,AS (_,Y,(B.same a).no (_,Y,_,Y,iA p (B.same a) (_,Y,(B.same a).nmE gt (a _ _ j) N λaC H2 I ag=>J5 (Q:=λ_ X=>Q .bQ X) ((B.same a).same I) ag d O N.ok λT ab=>q T λb o e=>ab b o (I _ _ (a _ _ e)))))))
  .exact(_,Y,d.ib λG a=>(_,Y,AZ (v.rd a t)))
  .exact(_,Y,UW d λG a=>(_,Y,AS (_,Y,(B.same a).no (_,Y,_,Y,iA p (B.same a) (_,Y,(B.same a).nmB (j.same a) (Uq.of a t))))))
inductive spHv(a C b:jr)(c:jq)(H:Hp)(Q:VK)(E:XK):Prop
 |no z bG r g D l(e:c=[.ref z.b,l])(f:dY a C z bG r g D H)(d:iU bG H l)(h:Uq H E b)
def scHv:AH [jt,jZ,"wanted"] [jt,jZ] (defScope FA):=cY
def ZN(F:cC b "having" "Book.having" FA f u)(e:DA b c)(q:ip P w b v m lM 6 [jJ,jZ] (spVo C x n)):bH P w b v m (d6 P w) 7 f u [jt,jZ] (spHv c C n):=by
 refine F.n scHv λt H Q E h=>?_;obtain⟨z,o,r,g,D,l,rfl,B,d,i⟩:=h;refine(Y,λp A a s j=>?_);exact(_,AB (A5 2 scHv.nd (c_r q j DP (cW (Ae (Z 0) Y) (Z 1)))) (AC Ag),_,Y,iA e B (_,Y,B.nmB d i))
inductive spMr(p:Nat->Nat->Nat)(a C e:jr)(d:jq)(H:Hp)(Q:VK)(E:XK):Prop
 |mk z bG r g D x l ns b n c(h:d=[.ref z.b,.str x,.ref l])(i:dY a C z bG r g D H)(j:x∈ff)(f:D.length<100)(m:H l=U (sqO b (ns.map V.str)))(o:NmO bG ns)(t:Asc bG)(s:g x=U (n,(c)))(q:N8 a C z bG r (gk g x (p n (Ah (ns.map (look bG))))) (D++[(x,(g x))]) H Q)
 |no z bG r g D x l(h:d=[.ref z.b,x,l])(i:dY a C z bG r g D H)(j:Nk H g x)(f:Uq H E e)
 |bad z bG r g D x l n c(h:d=[.ref z.b,.str x,l])(i:dY a C z bG r g D H)(j:g x=U (n,(c)))(f:iU bG H l)(m:Uq H E e)
def ak:AH [jt,jx,"more"] [jt,jx,"more"] (defScope IC):=cY
def ZO(F:cC e "mark" "Book.mark" IC az fd)(j:DA e f)(X:Fn P w e o m "union" 6 [l7,kf] (spOp gOr C q))(GV:ip P w e o m lM 6 [jJ,jZ] (spVo C q s))(ab:B6 P w e o m f lI 6 [jt,jx] (spVl f C q s))(A:Mt P w e o m f "give" 2 [jt,jx,lI] (gC f C q)):bH P w e o m (d6 P w) 7 az fd [jt,jx,"more"] (spMr gOr f C s):=by
 refine F.gD ak (λvs H Q E h=>?_) (λbf aR a0 a1 H vs Q E t h=>?_)
 .rcases h with⟨_,_,_,_,_,_,_,_,_,_,_,rfl⟩|⟨_,_,_,_,_,_,_,rfl⟩|⟨_,_,_,_,_,_,_,_,_,rfl⟩<;>rfl
 .refine(_,AC (AV (c_m (Z 0) j.cl A t (cW (Z 1) (dm X t (cW (BZ (Z 0) j.cl ab t DP (cZ (Z 1))) (c_r GV t DP (cW (Ae (Z 0) rfl) (Z 2)))))))),?_);rcases h with⟨z,a,r,g,D,x,l,O,b,n,c,rfl,B,hx,al,u,N,I,i,aM⟩|⟨z,a,r,g,D,x,l,rfl,B,i,v⟩|⟨z,a,r,g,D,x,l,n,c,rfl,B,i,u,v⟩
  .refine(_,Y,B.no (_,Y,_,Y,B.no (_,Y,.mk z a r g D x n c Y B i λR T d M=>(_,Y,iA j (B.same d) (_,Y,?_)))));have S:=B.ok x n c i;have V2:Vok a r (Ah (O.map (look a))):=N.ok;have G:Vok a r (gOr n (Ah (O.map (look a)))):=(Nat.or_lt_two_pow S.1 V2.1,S.2.imp id λz=>gu.or z (J4 N.s));have y:=B.same d;exact y.nmE b (d _ _ u) N λar H2 p h2=>(R,ar,z.k,n,_,a,r,Y,M.same p,h2,y.ka.same p,I,Nat.lt_trans G.1 qc,G.2,λv3 H3 s3 h3=>J5 (Q:=λ_ H'=>Q .bQ H') ((y.same p).same s3) h3 hx al G λan ag=>aM an λb aC as=>ag b aC (s3 _ _ (p _ _ (d _ _ as))))
  .exact(_,Y,B.no (_,Y,_,Y,B.no (_,Y,.no z a r g D x Y B i v)))
  .exact(_,Y,B.no (_,Y,_,Y,B.no (_,Y,.mk z a r g D x n c Y B i λR T d M=>(_,Y,iA j (B.same d) (_,Y,(B.same d).nmB (u.same d) (Uq.of d v))))))
def am:AH [jt,jx,"less"] [jt,jx,"less"] (defScope E8):=cY
def ZP(F:cC e "unmark" "Book.unmark" E8 aC fd)(j:DA e f)(T:Fn P w e o m "without" 6 [l7,kf] (spOp LM C q))(X:ip P w e o m lM 6 [jJ,jZ] (spVo C q s))(ab:B6 P w e o m f lI 6 [jt,jx] (spVl f C q s))(A:Mt P w e o m f "give" 2 [jt,jx,lI] (gC f C q)):bH P w e o m (d6 P w) 7 aC fd [jt,jx,"less"] (spMr LM f C s):=by
 refine F.gD am (λvs H Q E h=>?_) (λbf a0 a1 a2 H vs Q E t h=>?_)
 .rcases h with⟨_,_,_,_,_,_,_,_,_,_,_,rfl⟩|⟨_,_,_,_,_,_,_,rfl⟩|⟨_,_,_,_,_,_,_,_,_,rfl⟩<;>rfl
 .refine(_,AC (AV (c_m (Z 0) j.cl A t (cW (Z 1) (dm T t (cW (BZ (Z 0) j.cl ab t DP (cZ (Z 1))) (c_r X t DP (cW (Ae (Z 0) rfl) (Z 2)))))))),?_);rcases h with⟨z,a,r,g,D,x,l,an,b,n,c,rfl,B,hx,U,u,N,I,i,aR⟩|⟨z,a,r,g,D,x,l,rfl,B,i,v⟩|⟨z,a,r,g,D,x,l,n,c,rfl,B,i,u,v⟩
  .refine(_,Y,B.no (_,Y,_,Y,B.no (_,Y,.mk z a r g D x n c Y B i λag al d M=>(_,Y,iA j (B.same d) (_,Y,?_)))));have R:=B.ok x n c i;have G:Vok a r (LM n (Ah (an.map (look a)))):=(Nat.lt_of_le_of_lt (Nat.sub_le _ _) R.1,R.2.imp id λz=>gu.sub _ z);have y:=B.same d;exact y.nmE b (d _ _ u) N λas H2 p h2=>(ag,as,z.k,n,_,a,r,Y,M.same p,h2,y.ka.same p,I,Nat.lt_trans G.1 qc,G.2,λv3 H3 s3 h3=>J5 (Q:=λ_ H'=>Q .bQ H') ((y.same p).same s3) h3 hx U G λar S=>aR ar λb aM az=>S b aM (s3 _ _ (p _ _ (d _ _ az))))
  .exact(_,Y,B.no (_,Y,_,Y,B.no (_,Y,.no z a r g D x Y B i v)))
  .exact(_,Y,B.no (_,Y,_,Y,B.no (_,Y,.mk z a r g D x n c Y B i λag al d M=>(_,Y,iA j (B.same d) (_,Y,(B.same d).nmB (u.same d) (Uq.of d v))))))
inductive spTn(a C d:jr)(b:jq)(H:Hp)(Q:VK)(E:XK):Prop
 |mk z bG r g D x n c(f:b=[.ref z.b,.str x])(h:dY a C z bG r g D H)(i:x∈ff)(e:D.length<100)(j:kn bG<2^20)(m:g x=U (n,(c)))(l:N8 a C z bG r (gk g x (kn bG-(kn bG&&&n))) (D++[(x,(g x))]) H Q)
 |no z bG r g D x(f:b=[.ref z.b,x])(h:dY a C z bG r g D H)(i:Nk H g x)(e:Uq H E d)
def ao:AH [jt,jx] [jt,jx] (defScope ID):=cY
def ZQ(F:cC m "turn" "Book.turn" ID f fd)(t:DA m j)(R:Fn P w m y s "turned" 6 [l7] (spTu C A))(p:B6 P w m y s j lI 6 [jt,jx] (spVl j C A cB))(X:Mt P w m y s j "give" 2 [jt,jx,lI] (gC j C A)):bH P w m y s (d6 P w) 7 f fd [jt,jx] (spTn j C cB):=by
 refine F.gD ao (λag H Q E h=>?_) (λar an aM aR H ag Q E d h=>?_)
 .rcases h with⟨_,_,_,_,_,_,_,_,rfl⟩|⟨_,_,_,_,_,_,rfl⟩<;>rfl
 .refine(_,AC (AV (c_m (Z 0) t.cl X d (cW (Z 1) (dm R d (cZ (BZ (Z 0) t.cl p d DP (cZ (Z 1)))))))),?_);rcases h with⟨z,a,r,g,D,x,n,c,rfl,B,M,al,u,l,q⟩|⟨z,a,r,g,D,x,rfl,B,l,I⟩
  .exact(_,Y,B.no (_,Y,_,Y,B.no (_,Y,.mk z a r g D x n c Y B l λN as i G=>(N,z.k,n,a,r,Y,G,B.ka.same i,u,λaz aC s3 S=>J5 (Q:=λ_ T=>Q .bQ T) ((B.same i).same s3) S M al (Nat.lt_of_le_of_lt (Nat.sub_le _ _) u,.inr (QF _ _)) λab v=>q ab λb o e=>v b o (s3 _ _ (i _ _ e))))))
  .exact(_,Y,B.no (_,Y,_,Y,B.no (_,Y,.no z a r g D x Y B l I)))
def dY.kp(B:dY m C z n r g D H)(s:iq z H c)(e:H b=U o)(l:∀a,o≠ .dK a:=by intro _;exact λz=>nomatch z)(j:∀f,o≠ .lst f:=by intro _;exact λz=>nomatch z):c b=U o:=by
 obtain⟨d,h,_⟩:=B.en;obtain⟨p,i,_⟩:=B.de;exact s b o e (λz=>by grind) (λz=>by grind)
def dY.to(B:dY w C z m r g D H)(s:iq z H f)(p:∃n,f z.e=U (.dK n)/\gg f n i)(u:∃d,f z.l=U (.lst (d.map V.ref))/\Paired (gG H) d j)(l:j.length<=100)(ok:iF m r i):dY w C z m r i j f:=by
 obtain⟨h,o⟩:=B.bk;obtain⟨d,x,v⟩:=u;refine((h,B.kp s o),?_,p,(d,x,Paired.imp' (λ_ _ q=>q.keep λb F e=>B.kp s e) v,l),ok);obtain⟨h,t,A,E,y,a,b,c⟩:=B.ka.ex;exact⟨(h,t,A,E,y,B.kp s a,B.kp s b,B.kp s c)⟩
def iF.set(h:iF b r g)(v)(i:∀n c,v=U (n,(c))->Vok b r n):iF b r (FU g x v):=λy m d e=>by
 by_cases a:y=x
 .subst a;rw[Eb]at e;exact i m d e
 .rw[Ec _ _ a]at e;exact h y m d e
inductive spDr(a C d:jr)(b:jq)(H:Hp)(Q:VK)(E:XK):Prop
 |mk z bG r g D x n c(f:b=[.ref z.b,.str x])(h:dY a C z bG r g D H)(e:D.length<100)(l:g x=U (n,(c)))(j:N8 a C z bG r (FU g x J) (D++[(x,(g x))]) H Q)
 |no z bG r g D x(f:b=[.ref z.b,x])(h:dY a C z bG r g D H)(i:Nk H g x)(e:Uq H E d)
def ap:AH [jt,jx] [jt,jx] (defScope IE):=cY
def ZR(F:cC m oo "Book.drop" IE an fd)(l:DA m f)(GE:B6 P w m mg q f "entry" 3 [jt,jx] (spEn f C s)):bH P w m mg q (d6 P w) 4 an fd [jt,jx] (spDr f C s):=by
 refine F.gD ap (λvs H Q E h=>?_) (λbf as az aM H vs Q E hr h=>?_)
 .rcases h with⟨_,_,_,_,_,_,_,_,rfl⟩|⟨_,_,_,_,_,_,rfl⟩<;>rfl
 .refine(_,AB (AV (Aw (Ae (pv 0) rfl) (cZ (Ab (cW (pv 1) (BZ (pv 0) l.cl GE hr DP (cZ (pv 1)))))))) (AC (AV (JJ (Ae (pv 0) rfl) (pv 1) (rfl,rfl,rfl,rfl)))),?_);rcases h with⟨z,j,r,g,D,x,n,c,rfl,B,Z,u,ar⟩|⟨z,j,r,g,D,x,rfl,B,u,hU⟩
  .obtain⟨i,hk,ag⟩:=B.en;obtain⟨I,d,al,_⟩:=B.de;obtain⟨dx,T⟩:=B.bk;obtain⟨t0,M,_⟩:=ag.vl x n c u;refine(_,Y,g_d l B (.inl (Y,_,bZ.of d),_,Y,_,Y,B.no (_,Y,.mk z j r g D x n c Y B u λt ht=>(fb,λa ha=>?_))));have X:=AD (bD.refl H) ha (o:=HO.tup [V.str x,V.ref t]);have aC:=al.length;refine(z.l,_,_,Y,Y,X _ _ d,AQ (by grind),?_);have v:z.e≠z.l:=λy=>by simp_all
   have S:a≠z.l:=λy=>by simp_all
   generalize R:upd (upd H a (HO.tup [V.str x,V.ref t])) z.l (HO.lst (I.map V.ref++[V.ref a]))=A;have ab:∀b o,H b=U o->b≠z.l->A b=U o:=λb o e T=>by rw[←R,AE T];exact X _ _ e
   have p:=ab _ _ hk v;have l2:A z.l=U (.lst ((I++[a]).map V.ref)):=by rw[←R,bA,zm];rfl
   refine(_,Y,(z.b,f,dx,_,_,Y,ab _ _ T (λy=>by simp_all),l.cl,l.nE,Rz _ _ _,z.e,Y,.inl (_,.inl p),_,Y,i,Sum.inr x,_,p,Y,M,?_));have G:iq z H (upd A z.e (.dK (Br i (Sum.inr x)))):=λb o e h1 h2=>by rw[AE h1];simp_all
   have tk:∀b N,A b=U (.tup N)->(upd A z.e (.dK (Br i (Sum.inr x)))) b=U (.tup N):=λb N e=>by rwa[AE (λy=>by simp_all)]
   exact ar _ G (B.deed G (_,bA,(ag.keep λb N e=>B.kp G e).drop) (I,a,d,by rw[AE (Ne.symm v)];exact l2,.ref t,tk _ _ (by rw[←R,AE S,bA]),.inr (n,c,t,u,rfl,B.kp G ht)) Z (B.ok.set f8 λ_ _ e=>nomatch e))
  .obtain⟨I,d,_⟩:=B.de;exact(_,Y,g_d l B (.inl (Y,_,bZ.of d),_,Y,_,Y,B.no (_,Y,.no z j r g D x Y B u hU)))
inductive spTk(a C e:jr)(d:jq)(H:Hp)(Q:VK)(E:XK):Prop
 |mk z bG r g D x b(h:d=[.ref z.b])(i:dY a C z bG r g (D++[(x,(b))]) H)(j:x∈ff)(f:b=J->g x≠J)(l:∀n c,b=U (n,(c))->Vok bG r n)(m:N8 a C z bG r (FU g x b) D H Q)
 |no z bG r g(h:d=[.ref z.b])(i:dY a C z bG r g [] H)(f:Uq H E e)
theorem B3{b d}{F}:∀{h:List b}{D}{p:d},Paired F h (D++[p])->∃bs a,h=bs++[a]/\Paired F bs D/\F a p
 |_,[],_,.cons a .nil=>([],_,rfl,.nil,a)
 |_,_::D,_,.cons a r=>by
  obtain⟨bs,c,e,i,j⟩:=B3 r;exact(_::bs,c,by rw[e];rfl,.cons a i,j)
def scTk:AH [jt,jx,"before"] [jt] (defScope Dg):=cY
def ZS(F:cC f "take_back" "Book.take_back" Dg an fd)(B:Bl s)(l:DA f m)(r:eE P w f s al lG cN):bH P w f s al (d6 P w) 3 an fd [jt] (spTk m aM cN):=by
 refine F.gD scTk (λvs H Q E h=>?_) (λbf aC aR a0 H vs Q E hr h=>?_)
 .rcases h with⟨_,_,_,_,_,_,_,rfl⟩|⟨_,_,_,_,rfl⟩<;>rfl
 .have nd:=scTk.nd
  refine(_,AB (AU (AL Ao (AR (A1 f Y) Y B.len PySem.boot_len (cZ (Ae (Z 0) Y))) AF (AN _)) (AC (N5 r hr)) AM)
   (AB (Bg (Fq plainAttrs_list slot_list_pop type_list_pop Hg (Ae (Z 0) rfl)) (BN rfl (AT (BH 1 nd) (AT (BH 2 nd) A3))))
   (AC (AU (Db (LJ (Z 2))) (AC (AV (JJ (Ae (Z 0) rfl) (Z 1) (rfl,rfl,rfl,rfl)))) (AC (D4 (Bs hr) (Ae (Z 0) rfl) (Z 1) (Z 2) rfl))))),?_)
  rcases h with⟨z,U,ar,g,D,x,b,rfl,d,hx,hb0,ab,q⟩|⟨z,U,ar,g,rfl,d,hU⟩
  .obtain⟨p,hk,N⟩:=d.en;obtain⟨as,i,G,hD⟩:=d.de;obtain⟨bs,a,rfl,A,a1,ha,hv⟩:=B3 G;obtain⟨X,R⟩:=d.bk;refine(_,Y,g_d l d (z.l,_,Y,.inl (bZ.of i),Y,_,Y,?_));rw[zN (λy=>by grind)];refine AS (_,Y,g_d l d (.inl (Y,_,bZ.of i),z.l,_,.ref a,Y,Y,i,by simp,?_));have I:z.e≠z.l:=λy=>by simp_all
   have el:((bs++[a]).map V.ref).dropLast=bs.map V.ref:=by rw[zm];exact List.dropLast_concat
   rw[el];have M:∀b o,H b=eq o->b≠z.l->(upd H z.l (.lst (bs.map V.ref))) b=eq o:=λb o e R=>by rwa[AE R]
   have S:(upd H z.l (.lst (bs.map V.ref))) z.l=eq (.lst (bs.map V.ref)):=bA;generalize upd H z.l (.lst (bs.map V.ref))=v at M S;have u:=M _ _ hk I;have C:=M _ _ R (λy=>by simp_all);refine(a,_,Y,cD.of (M _ _ ha (λy=>by simp_all)),Y,_,_,Y,_,_,Y,Y,_,Y,_,Y,?_);have T:D.length<=100:=by rw[zG]at hD;lia
   rcases hv with⟨e,rfl⟩|⟨n,c,az,e,rfl,ht⟩
   .have he:=e;subst he
    obtain⟨y,hy⟩:∃y,g x=eq y:=by
     cases e:g x with
     |none=>simp_all
     |some y=>simp
    obtain⟨t0,ag,_⟩:=N.vl x y.1 y.2 hy;have j:iq z H (upd v z.e (.dK (Br p (Sum.inr x)))):=λb o e t h2=>by rw[AE t];simp_all
    exact AZ (_,rfl,(z.b,m,X,_,_,rfl,C,l.cl,l.nE,Rz _ _ _,z.e,rfl,.inl (_,.inl u),_,rfl,p,Sum.inr x,_,u,rfl,ag,q _ j (d.to j (_,bA,(N.keep λb xs e=>d.kp j e).drop) (bs,by rw[AE (Ne.symm I)];exact S,A) T (d.ok.set J λ_ _ e=>nomatch e))))
   .subst e;have j:iq z H (upd v z.e (.dK (Bi p (Sum.inr x) (.ref az)))):=λb o e t h2=>by rw[AE t];simp_all
    exact AS (_,Y,_,Y,(z.b,m,X,_,_,Y,C,l.cl,l.nE,Rz _ _ _,_,Y,z.e,_,Y,gx.k (k:=Sum.inr x) u N.small,q _ j (d.to j (_,bA,(N.keep λb xs e=>d.kp j e).put hx (d.kp j ht)) (bs,by rw[AE (Ne.symm I)];exact S,A) T (d.ok.set _ λn c e=>ab n c e))))
  .obtain⟨as,i,G,_⟩:=d.de;cases G;exact(_,Y,g_d l d (z.l,_,Y,.inl (bZ.of i),Y,_,Y,AZ (r.rd (bD.refl _) hU)))
def jg.of{n}(s:bD H b)(h:jg H E c n):jg b E c n:=λe d a l i j=>h e d a (s.trans l) (none_of s i) (none_of s j)
inductive spVa(C b c:jr)(a:jq)(H:Hp)(Q:VK)(E:XK):Prop
 |mk k p n(d:a=[.ref k,.ref p])(e:dr b H p k n)(f:Q (.ref p) H)
 |no k bG r(n:Nat)(d:a=[.ref k,.int (n)])(e:cE C H k bG r)(f:n<2^40)(g:jg H E c ((n-(n&&&kn bG):Nat):Int))
def aq:AH [jJ,jz] [jJ,jz] (defScope E7):=cY
def ZT(F:cC c nC nC E7 f X)(B:Bl e)(z:KIsi c b)(t:e "Value"=U (.ref b))(p:W.kitOne c (.type oa) (.ref b)=U O)(i:PF P w c e g cM v)(s:Fn P w c e g nI 3 [jJ,jC] (spRestOf C)):bH P w c e g (d6 P w) 4 f X [jJ,jz] (spVa C b v):=by
 obtain⟨_,_,d,u,I⟩:=i.make;refine F.gD aq (λR H Q E h=>?_) (λN A ab al H R Q E j h=>?_)
 .rcases h with⟨_,_,_,rfl⟩|⟨_,_,_,_,rfl⟩<;>rfl
 .refine(_,AB (AU (Ar (Ak (AR (LC c rfl) rfl B.fj EQ (cW (Z 1) (BM (v:=.ref b) rfl t rfl))))) (AC (CI FX rfl d.cls (CH d u j rfl i.cls I .nil Af (cZ (dm s j (cW (Z 0) (Z 1))))))) AM) (AC (AJ (Z 1))),?_);rcases h with⟨k,ag,n,rfl,⟨T,J⟩,q⟩|⟨k,a,r,n,rfl,M,y,x⟩
  .exact(_,Y,_,b,_,L,Y,z.ty J,HI c b,_,Y,AS (_,Y,q))
  .refine(_,rfl,_,b,_,O,rfl,.int _,p,_,rfl,AZ (_,rfl,_,rfl,k,a,r,n,rfl,M,λS G=>LG (σ:=[]) (D:={nx:=λ_ _=>True,rt:=λ_ _=>True}) (te:=tC (.int ((n-(n&&&kn a):Nat)))) d.cls i.st ?_ G x rfl));have l:n-(n&&&kn a)<2^40:=Nat.lt_of_le_of_lt (Nat.sub_le _ _) y;generalize n-(n&&&kn a)=m at l;rcases Nat.eq_zero_or_pos m with o|o
   .rw[o];decide
   .exact Nat.lt_trans ((Nat.log2_lt (by lia)).mpr l) qc
end Mk
namespace L2
open PySem PySem.Spec PyProof.Rows
def N9{a}{o}{c}{g}{tt}{m f}{j}{R:LK->Hp->Prop}{n}{h}(d:Nat->LK->Hp->Prop)(t:d 0 [] h)(r:∀i b H,d i b H->H a=U (.dz o (.dK c)))(u:∀i b H,d i b H->b.length<=1000)
  (s:∀i e b H p,c[i]?=U e->d i b H->H p=J->bT g tt (taD m f) j n (.ref p) b (d (i+1)) (upd H p (.tup [kV e.1,e.2]))) (l:∀b H,d c.length b H->R b H):tW (jk a o c) [] ie (bT g tt (taD m f) j n) R h:=Js d t r (λi b H q=>Kl (u i b H q)) s l
end L2
namespace Mk
open PySem L2 MK PySem.NumText
noncomputable def gT(g:En)(s:Str):Nat:=((g s).map (·.1)).getD 0
structure TbG(g:En)(kvs:LK):Prop where
 v:∀s,BD s=L->Ai kvs (Sum.inr s)=(g s).map λp=>V.int (p.1:Int)
 ok:QO kvs
 al:kvs.all iG=L
structure TbI(g:En)(S:jm)(ys:LK):Prop where
 v:∀s,Ai ys (Sum.inr s)=if s.length=1/\s∈S then (g s).map λp=>V.int (p.1:Int)else J
 e:∀a∈ys,∃(s:Str)(n:Nat),a=(Sum.inr s,(V.int (n)))/\s∈ff/\s.length=1/\n<2^20
 l:ys.length<=S.length
def Xy:∀s∈ff,s.length=1->BD s=L:=by trivial
def WC(h:BD s=L):s.length=1:=by
 unfold BD at h;rw[←Az]
 grind
def TbI.done(h:TbI g b c)(k:gq b g):TbG g c:=by
 have q:=k.len;have t:=h.l;refine(λs p=>?_,(by lia,λa d s e=>?_,λa d=>?_),all_eq_true.mpr λa d=>?_)
 .rw[h.v];by_cases j:s∈b
  .rw[zg (WC p,j)]
  .rw[zh (λz=>j z.2),Classical.byContradiction λz=>j ((k.mem s).mpr z)];rfl
 .obtain⟨i,n,rfl,o,l,_⟩:=h.e a d
  simp_all
 .obtain⟨i,n,rfl,_⟩:=h.e a d
  simp_all
 .obtain⟨i,n,rfl,o,l,r⟩:=h.e a d;show(BD i&&okN n)=L;rw[Xy i o l];unfold okN;rw[zK (show(n:Int)<1099511627776 by lia)];rfl
theorem OA:∀{b:LK}{i:Nat}{k}{v},(b.map (·.1)).Nodup->b[i]?=U (k,(v))->Ai b k=U v
 |p::r,0,k,v,_,h=>by cases h;exact A9 rfl
 |p::r,i+1,k,v,nd,h=>by
  obtain⟨d,j⟩:=zj.mp nd;have a:r[i]?=U (k,(v)):=h;rw[A6 (λe=>d (by show p.1∈_;rw[e];exact zi.mpr (_,zP a,rfl)))];exact OA j a
def mkN(r:Str)(a:Aa)(v:Nat):Nat:=if r=lp then v else v-AW a (v:Int)
def OB(r:Str)(a:Aa)(v:Nat):Prop:=AW a (v:Int)≠0/\(r=mx \/ r=mm)
inductive RcO(b C e d c:jr)(z:Za)(a:Aa)(r:Str)(g:En)(D:iC)(x:Str)(T:jm)(H:Hp)(Q:VK)(E:XK):Prop
 |fY y(n:y∈T)(j:BD y=L)(l:g y=J)(q:Uq H E d)
 |go v(i:∀y∈T,BD y=L->g y≠J)(h:∀f,TbG g f->Ev (a,f,gT g) (U v) [] T)(m:v<2^20)(q:(OB r a v/\jg H E e (AW a (v):Nat))\/(¬ OB r a v/\N8 b C z a r (gk g x (mkN r a v)) (D++[(x,(g x))]) H Q))
 |nil(i:∀y∈T,BD y=L->g y≠J)(h:∀f,TbG g f->Ev (a,f,gT g) J [] T)(q:Uq H E c)
inductive RcT(d C j i f c:jr)(z:Za)(b:Aa)(r:Str)(g:En)(D:iC)(x:Str)(v:V)(H:Hp)(Q:VK)(E:XK):Prop
 |ok t T(e:v=.str t)(o:D.length<100)(p:kn b<2^20)(l:t.cps.all (· < 128)=L)(n:t.length<=100)(m:Rn L t (.ok T) 0 [] [] L)(u:UO T)(w:r∈c9)(s:RcO d C j i f z b r g D x T H Q E)
 |bad t a(e:v=.str t)(l:t.cps.all (· < 128)=L)(n:t.length<=100)(m:Rn L t (.bad a) 0 [] [] L)(q:g6 H E c (.int (a:Int)))
 |bQ(h:ji H v)(q:g6 H E c .bQ)
inductive spRc(a C h f c i e:jr)(d:jq)(H:Hp)(Q:VK)(E:XK):Prop
 |mk z bG r g D x v(j:d=[.ref z.b,.str x,v])(o:dY a C z bG r g D H)(m:x∈ff)(q:Rd H e (.dK CP))(p:RcT a C h f c i z bG r g D x v H Q E)
 |no b x l(j:d=[b,x,l])(m:NbV H x)(n:Uq H E c)
def ji.is(h:ji H v):fy b mQ H v:=by
 cases h with
 |str x h=>cases h
 |bQ=>exact UE qd
 |int i=>exact UF qd
 |tup a d h=>exact .inr (.inl (a,d,rfl,h,qd))
noncomputable abbrev NRc:jm:=[jt,jx,ku,lP]
def scRc:AH NRc [jt,jx,ku] (defScope E9):=cY
def ZU(F:cC a "reckon" "Book.reckon" E9 bc fd)(a8:Bl c)(BT:DA a BC)(EB:eE P w a c f jD cB)(GI:Fn P w a c f mf 1 [jz] spIb)(GA:ip P w a c f nC 4 [jJ,jz] (spVa as VC cR))(GK:ip P w a c f m8 7 [jJ,ku,lP] (spRk a as VC cR cB cN bd cT))(GG:Mt P w a c f BC "give" 2 [jt,jx,lI] (gC BC as VC)):bH P w a c f (d6 P w) 8 bc fd [jt,jx,ku] (spRc BC as cR cN cB cT bd):=by
 refine F.gD scRc (λvs ab az a9 h=>?_) (λbf bp bv bn ab vs az a9 D h=>?_)
 .rcases h with⟨_,_,_,_,_,_,_,rfl⟩|⟨_,_,_,rfl⟩<;>rfl
 .rcases h with⟨z,G,r,g,bq,bo,tv,rfl,Bb,hx,hbd,RT⟩|⟨b,bo,bt,rfl,hx,hU⟩
  rotate_left
  .exact(_,AB (AU (Ar (Ak (dm GI D (cZ (Z 1))))) (AC (N5 EB D)) AM) (AB Ag (AC Ag)),_,Y,hx.ib λl A=>(_,Y,AZ (EB.rd A hU)))
  have nd:=scRc.nd
  refine(_,AB (AU (Ar (Ak (dm GI D (cZ (Z 1))))) (AC Ag) AM)
   (AB (NE (RI (i:=3) nd rfl rfl [] [] (by rfl) (by trivial) (by rfl) (by rfl) rfl (JP (Ae (Z 0) rfl)) (λ_ _ _ _ _ _=>Gr (AL Ao (AR A4 rfl a8.len PySem.boot_len (cZ (Z 0))) AF (AN _))) (λ_ _ _ _ _ _=>Z 0) (λ_ _ _ _ _ _=>Am (Ad a rfl) (Z 1) AF (λ_ _=>rfl))))
   (Fv (AC (AV (c_m (Z 0) BT.cl GG D (cW (Z 1) (c_r GA D DP (cW (Ae (Z 0) rfl) (c_r GK D DP (AA (Ae (Z 0) rfl) (cW (Z 2) (Z 3)))))))))))),?_)
  refine(_,Y,UW hx λl A=>(_,Y,AS ?_));obtain⟨d,B,E'⟩:=Bb.en;obtain⟨H,km,x⟩:=E'.ks;obtain⟨dx,hb⟩:=Bb.bk;have aC:=A _ _ B
  have bm:(d.map (·.1)).Nodup:=by
   rw[km];exact pairwise_map.mpr (x.nd.imp λh e=>h (Sum.inr.inj e))
  refine(z.e,d,aC,λo u e=>(by have S:ab z.e=U (.dz o u):=e;rw[B]at S;cases S),λo=>?_);have ag:∀{b:jr}{u:HO},l b=U u->b≠z.e->(upd l z.e (.dz o (.dK d))) b=U u:=λe hb=>by rwa[AE hb]
  have R:(upd l z.e (.dz o (.dK d))) z.e=U (.dz o (.dK d)):=bA
  have a2:∀{b:jr},(upd l z.e (.dz o (.dK d))) b=J->l b=J:=λ{b}e=>by
   by_cases y:b=z.e
   .simp_all
   .rwa[AE y]at e
  have bi:upd (upd l z.e (.dz o (.dK d))) z.e (.dK d)=l:=by
   funext b;by_cases y:b=z.e
   .rw[y,bA,aC]
   .rw[AE y,AE y]
  generalize e0:upd l z.e (.dz o (.dK d))=Hf at ag R a2 bi;refine(_,Y,(z.b,BC,dx,_,_,Y,ag (A _ _ hb) (λy=>by simp_all),BT.cl,BT.nE,Rz _ _ _,z.e,o,d,Y,R,N9 (λi I X=>bD Hf X/\TbI g (H.take i) I) (bD.refl _,λbn=>by rw[Mi,zh (λy=>by simp_all)],λkv B=>(by cases B),zq _) (λi I X k=>by obtain⟨m,_⟩:=k;exact m _ _ R) (λi I X zz=>by obtain⟨_,t⟩:=zz;have s:=t.l;have h2:=x.len;rw[zt]at s;lia) ?_ ?_))
  .rintro i ⟨bl,val⟩ I X p a3 ⟨m,TI⟩ C;have b9:(H.map Sum.inr)[i]?=U bl:=by rw[←km,zy,a3];rfl
   rw[zy]at b9;obtain⟨j,al,rfl⟩:=z6.mp b9;have g8:=zP al;obtain⟨⟨n,ar⟩,hg⟩:∃y,g j=U y:=Option.ne_none_iff_exists'.mp ((x.mem j).mp g8);obtain⟨t',E,a6⟩:=E'.vl j n ar hg;rw[OA bm a3]at E;cases E;have s3:=AD m C (o:=HO.tup [V.str j,V.ref t']);have bs:=PU j (x.w j g8);have an:H.take (i+1)=H.take i++[j]:=by rw[zx,al];rfl
   refine(p,_,Y,cD.of bA,Y,_,_,Y,_,_,Y,Y,_,Y,j,Y,Nat.le_of_lt (AQ (by lia)),Y,_,Y,BL (λs=>?_) (λs=>?_))
   .have bg:j.length=1:=by have:=V.int.inj (zT s);lia
    have bh:(upd X p (.tup [V.str j,V.ref t'])) t'=U (.tup [.int (n:Int),.int (ar:Int)]):=by
     refine s3 _ _ (ag (A _ _ a6) λy=>?_);have S:ab z.e=U (.tup [.int (n:Int),.int (ar:Int)]):=y ▸ a6;rw[B]at S;cases S
    refine(_,Y,_,Y,t',_,0,_,Y,Y,cD.of bh,Y,Sum.inr j,Y,s3,λy=>?_,λkv a0=>?_,?_)
    .rw[JG,an];by_cases e:y=j
     .simp_all
     .rw[TI.v]
      simp_all
    .have cq:Ai I (Sum.inr j)=J:=by
      rw[TI.v,zh];rintro⟨_,hm⟩;obtain⟨bk,hj,e⟩:=List.mem_take_iff_getElem.mp hm;exact(List.pairwise_iff_getElem.mp x.nd bk i _ ((z8.mp al).1) (by lia)) (e.trans ((z8.mp al).2).symm)
     rw[Gp _ cq]at a0;rcases mem_append.mp a0 with y|y
     .exact TI.e kv y
     .exact(j,n,zF.mp y,x.w j g8,bg,(Bb.ok j n ar hg).1)
    .have s:=TI.l;have h2:=Cs I (Sum.inr j) (V.int (n:Int));rw[an,zG];show _<=(H.take i).length+1
     lia
   .refine(s3,λy=>?_,TI.e,?_)
    .rw[TI.v,an]
     grind
    .have s:=TI.l;rw[an,zG]
     lia
  .rintro I X ⟨m,TI⟩ p C;have be:d.length=H.length:=by have:=congrArg List.length km;rwa[AO,AO]at this
   rw[be,zu]at TI;have TG:=TI.done x;have ne:p≠z.e:=λy=>by rw[y,m _ _ R]at C;cases C
   refine(by rw[AE (Ne.symm ne)];exact m _ _ R,?_)
   have s3:bD l (upd (upd X p (.dK I)) z.e (.dK d)):=λb u e=>by
    by_cases y:b=z.e
    .rw[y,bA,←aC,←y,e]
    .rw[AE y];exact AD m C _ _ (ag e y)
   have a4:(upd (upd X p (.dK I)) z.e (.dK d)) p=U (.dK I):=by rw[AE ne,bA]
   have ci:=a2 (none_of m C);generalize upd (upd X p (.dK I)) z.e (.dK d)=H3 at s3 a4;refine(p,I,a4,λo2=>?_);have M:bD ab (upd H3 p (.dz o2 (.dK I))):=λb u e=>by rw[AE (AK (A _ _ e) ci)];exact s3 _ _ (A _ _ e)
   have a5:(upd H3 p (.dz o2 (.dK I))) p=U (.dz o2 (.dK I)):=bA;generalize upd H3 p (.dz o2 (.dK I))=H4 at M a5;have Q:=Bb.same M;refine(_,Y,Q.no (_,Y,_,Y,iA BT Q (_,Y,iA BT Q (_,Y,_,Y,?_))))
   have a7:∀y,BD y=gl->g y≠J->Ai I (Sum.inr y)≠J:=λy N hn=>by
    rw[TG.v y N];exact λe=>hn (by cases hg:g y with|none=>rfl|some w=>rw[hg]at e;cases e)
   cases RT with
   |bQ h q=>exact .bQ z.k _ _ rfl ((ji.is h).same M) (g6.of M q)
   |bad t bb e ta tl rn q=>exact e ▸ .bad z.k t bb _ rfl ta tl rn (bD.rd M hbd) (g6.of M q)
   |ok t ba e hD kl ta tl rn st br RO=>
   subst e;refine .mk z.k t ba (.ref p) (G,I,gT g) r rfl Q.ka ta tl rn st (bD.rd M hbd) (.is p o2 rfl a5 TG.ok TG.al ?_);cases RO with
   |fY y T N hn q=>exact .fY y T N (by show Ai I _=J;rw[TG.v y N,hn];rfl) (q.of M)
   |nil hs ev q=>exact .go J (λy T N=>a7 y N (hs y T N)) (ev I TG) (Uq.of M q)
   |go v hs ev E q=>
    refine .go (U v) (λy T N=>a7 y N (hs y T N)) (ev I TG) λH5 s5=>?_;have B5:=Q.same s5;have aR:=M.trans s5;have pl:plain (v:Int)=v:=by unfold plain;rw[zg (zY v),Int.toNat_natCast]
    have bj:(v:Int)<1099511627776:=by have:(2:Nat)^20=1048576:=by decide
                                      lia
    refine(z.k,G,r,(v:Int),Y,B5.ka,kl,zY _,bj,?_);have a1:AW G (v:Int)=v-(v&&&kn G):=by unfold AW;rw[pl]
    rcases q with⟨⟨hb1,hb2⟩,hU⟩|⟨hnb,hdone⟩
    .rcases hb2 with rfl|rfl
     .exact .inl (hb1,Y,hU.of aR)
     .exact .inr (.inl (λq=>absurd q.2 (by trivial),hb1,Y,λH6 s6=>.no z.k G mm v Y (B5.ka.same s6) (Nat.lt_trans E qc) (by rw[←a1];exact hU.of (aR.trans s6))))
    .refine .inr (.inr (λq=>hnb (q.1,.inl q.2),λq=>hnb (q.1,.inr q.2),λp' H6 s6 hV=>?_));rw[pl]at hV;have em:(if r=lp then v else v-AW G (v:Int))=mkN r G v:=rfl;rw[em]at hV;refine .mk z.k p' _ Y hV (J5 (Q:=λ_ H'=>az .bQ H') (B5.same s6) hV hx hD ?_ λH7 ef=>hdone H7 λb o e=>ef b o (s6 _ _ (aR _ _ e)));unfold mkN;by_cases aM:r=lp
     .rw[zg aM];exact(E,.inl aM)
     .rw[zh aM,a1];refine(Nat.lt_of_le_of_lt (Nat.sub_le _ _) E,.inr ?_);have s:v-(v-(v&&&kn G))=v&&&kn G:=by have:=Nat.and_le_left (n:=v) (m:=kn G);lia
      exact gu.iff.mpr λk B=>by grind
end Mk
namespace L2
open PySem
def UX{a}{o}{c}{g:TG}{f:TS}{D:I0}{b}(d:Nat->St->Hp->Prop)(B:d 0 b H)(y:∀i b H,d i b H->H a=U (.dz o (.dK c)))
  (n:∀i r b H,c[i]?=U r->d i b H->g (kV r.1) b H λl u=>f {D with nx:=d (i+1),ct:=d (i+1),bk:=D.nx} l u) (A:∀b H,d c.length b H->D.nx b H):
  ∃W:Nat->Nat->St->Hp->Prop,(∃m,W 0 m b H)/\∀i m b H,W i m b H ->
   ((Itk a o c).stop i H/\D.nx b H)\/((Itk a o c).go i H/\∃N,(∀j h,N j h->∃z,z<m/\W (i+1) z j h)/\∀x h,(Itk a o c).ir i H x h->g x b h λl u=>f {D with nx:=N,ct:=N,bk:=D.nx} l u):=by
 refine(λi m b H=>m=c.length-i/\i<=c.length/\d i b H,(_,Y,Nat.zero_le _,B),?_);rintro i m b H ⟨rfl,C,t⟩;by_cases p:i<c.length
 .refine .inr ((y i b H t,p),d (i+1),λj h q=>(c.length-(i+1),by lia,Y,p,q),?_);rintro x h ⟨rfl,r,v,rfl⟩;exact n i r b _ v t
 .have e:i=c.length:=by lia
  subst e;exact .inl ((y _ b H t,zq _),A b H t)
end L2
namespace Mk
open PySem L2 MK PySem.NumText
def WX:BK (d6 P w) X E0:=λ_ _ _ _ _ _ _ z=>by obtain⟨_,_,_,_,_,_,q⟩:=z;exact q.elim
def WY(d:PE X o to)(c:gy X.K C)(G:B6 X.prog X.w X.K X.mg X.base C m k p n)(e:bJ j X.A)(i:BK (d6 X.prog X.w) X E)(h:k<=j:=by decide)
  (ht:eval (.Call (.Attribute o m l) [] [] g) X.env=(do
   let a ←eval o X.env
   standAt l.atName
   let (f,first) ←holding [a] (getMethod a m pl)
   callWith g f first (backTo g (starEach [] X.env)) (backToKw g (keywordEach [] X.env))):=by rfl):PE X (.Call (.Attribute o m l) [] [] g) (KW C m n [] E to BS):=
 let ⟨_,_,F,m,b⟩:=G.ex
 BY d c m F (e.mono h) b .nil i ht
def rk(x:Str):Nat:=ff.findIdx (· == x)
def ZV:∀x∈ff,∀y∈ff,PySem.Spec.ltCps x.cps.toList y.cps.toList=decide (rk x<rk y):=by trivial
def UY:∀x∈ff,∀y∈ff,rk x=rk y->x=y:=by trivial
theorem J6:∀{l m:List Nat},l.Pairwise (· < ·)->m.Pairwise (· < ·)->(∀x,x∈l ↔ x∈m)->l=m
 | [],[],_,_,_=>rfl
 | [],b::m,_,_,h=>nomatch (h b).mpr (by simp)
 |a::l,[],_,_,h=>nomatch (h a).mp (by simp)
 |a::l,b::m,hl,hm,h=>by
  obtain⟨p,j⟩:=pairwise_cons.mp hl;obtain⟨o,e⟩:=pairwise_cons.mp hm
  have d:a=b:=by
   rcases mem_cons.mp ((h a).mp (by simp))with z|z
   .exact z
   .rcases mem_cons.mp ((h b).mpr (by simp))with y|y
    .lia
    grind
  subst d;congr 1;refine J6 j e λx=>(λi=>?_,λi=>?_)
  .grind
  grind
theorem LH:∀b p,(∀x∈p::b,x∈ff)->PyProof.Rows.risingS p b=L->((p::b).map rk).Pairwise (· <= ·)
 | [],p,_,_=>List.pairwise_singleton ..
 |c::cs,p,hw,h=>by
  change (!PySem.Spec.ltCps c.cps.toList p.cps.toList&&PyProof.Rows.risingS c cs)=L at h;rw[ZV c (hw c (by simp)) p (hw p (by simp)),Bool.and_eq_true,Bool.not_eq_true',decide_eq_false_iff_not]at h;have a:=LH cs c (λx d=>hw x (by simp_all)) h.2;refine pairwise_cons.mpr (λx d=>?_,a);rcases mem_cons.mp d with rfl|z
  .lia
  .have:=(pairwise_cons.mp a).1 x z
   lia
def gq.uniq(h:gq c g)(k:gq f g)(n:PyProof.Rows.sortedS c=L)(B:PyProof.Rows.sortedS f=L):c=f:=by
 have st:∀{l:jm},gq l g->PyProof.Rows.sortedS l=L->(l.map rk).Pairwise (· < ·):=λ{l}h s=>by
  cases l with
  |nil=>exact List.Pairwise.nil
  |cons p r=>
   have d:=LH r p h.w s;have i:((p::r).map rk).Pairwise (· ≠ ·):=pairwise_map.mpr (List.Pairwise.imp_of_mem (λv t o e=>o (UY _ (h.w _ v) _ (h.w _ t) e)) h.nd);exact(d.and i).imp λz=>Nat.lt_of_le_of_ne z.1 z.2
 have q:∀{l m:jm},gq l g->gq m g->∀x,x∈l.map rk->x∈m.map rk:=λ{l m}h k x j=>by
  obtain⟨y,A,rfl⟩:=zi.mp j;exact zi.mpr (y,(k.mem y).mpr ((h.mem y).mp A),Y)
 have e:=J6 (st h n) (st k B) λx=>(q h k x,q k h x)
 have inj:∀{l m:jm},(∀x∈l,x∈ff)->(∀x∈m,x∈ff)->l.map rk=m.map rk->l=m:=by
  intro l;induction l with
  |nil=>simp_all
  |cons a l u=>
   intro m d i e;cases m with
   |nil=>cases e
   |cons b m=>
    injection e with D C
    rw[UY a (d a (by simp)) b (i b (by simp)) D,u (λx j=>d x (by grind)) (λx j=>i x (by grind)) C]
 exact inj h.w k.w e
inductive spBi(a C:jr)(c:jq)(H:Hp)(Q:VK)(e:XK):Prop
 |mk p dx k bG r(h:c=[.ref p,.ref k])(i:H p=U (.ins a dx []))(j:cE C H k bG r)(g:∀d l f,(∀b o,H b=U o->b≠p->f b=U o)->H d=J->H l=J->dY a C ⟨p,k,d,l⟩ bG r (λ_=>J) [] f->Q .bQ f)
def au:AH [jt,jJ] [jt,jJ] (defScope IA):=cY
def ZW(F:cC g jF "Book.__init__" IA al fd)(u:DA g f):bH aR a4 g mg a2 cF 1 al fd [jt,jJ] (spBi f aC):=by
 refine F.m au λvs H a0 aM an=>?_;obtain⟨p,i,k,bG,as,rfl,hp,KA,ar⟩:=an;refine(Y,λbf az a1 a3 hr=>?_);refine(_,AB (Cb (Z 0) (Z 1) Y) (AB (Cb (Z 0) DK Y) (AC (Cb (Z 0) (As AG) Y))),(_,Y,_,Y,p,f,i,[],Y,hp,u.cl,u.nK,(by simp),?_));intro d r;have X:=bA (H:=H) (a:=p) (o:=HO.ins f i (BB jX (.ref k) []));have T:∀b o,H b=U o->b≠p->upd H p (HO.ins f i (BB jX (.ref k) [])) b=U o:=λb o e t=>by rwa[AE t]
 have q:∀b,upd H p (HO.ins f i (BB jX (.ref k) [])) b=J->H b=J:=λb e=>by
  by_cases y:b=p
  .simp_all
  .rwa[AE y]at e
 generalize upd H p (HO.ins f i (BB jX (.ref k) []))=w at X T q r ⊢;have G:=AD (bD.refl _) r (o:=HO.dK []);have P:(upd w d (.dK [])) d=U (.dK []):=bA;generalize upd w d (.dK [])=h at G P ⊢;refine(_,Y,p,f,i,_,Y,G _ _ X,u.cl,u.nE,Nat.lt_of_le_of_lt (Ay _ _ _) (by simp),(by simp_all),λl B=>?_);have v:d≠p:=λy=>by simp_all
 have s:=bA (H:=h) (a:=p) (o:=HO.ins f i (BB lH (.ref d) (BB jX (.ref k) [])));have M:∀b o,h b=U o->b≠p->upd h p (HO.ins f i (BB lH (.ref d) (BB jX (.ref k) []))) b=U o:=λb o e t=>by rwa[AE t]
 have C:∀b,upd h p (HO.ins f i (BB lH (.ref d) (BB jX (.ref k) []))) b=J->h b=J:=λb e=>by
  by_cases y:b=p
  .simp_all
  .rwa[AE y]at e
 generalize upd h p (HO.ins f i (BB lH (.ref d) (BB jX (.ref k) [])))=A at s M C B ⊢;have I:=AD (bD.refl _) B (o:=HO.lst []);have R:(upd A l (.lst [])) l=U (.lst []):=bA;generalize upd A l (.lst [])=m at I R ⊢;refine(_,Y,p,f,i,_,Y,I _ _ s,u.cl,u.nD,Nat.lt_of_le_of_lt (Ay _ _ _) (Nat.succ_lt_succ (Nat.lt_of_le_of_lt (Ay _ _ _) (by simp))),?_);have j:∀b o,H b=U o->b≠p->upd m p (HO.ins f i (HQ (.ref k) d l)) b=U o:=λb o e t=>by rw[AE t];exact I _ _ (M b o (G _ _ (T b o e t)) t)
 refine ar d l _ j (q d r) (q l (none_of G (C l B))) ((i,bA),?_,([],by show(upd m p (HO.ins f i (HQ (.ref k) d l))) d=_;rw[AE v];exact I _ _ (M _ _ P v),([],rfl,nodup_nil,λx hx=>(by cases hx),λx=>(λz=>(by cases z),λz=>absurd rfl z)),λx n c e=>nomatch e),([],by show(upd m p (HO.ins f i (HQ (.ref k) d l))) l=_;rw[AE (Ne.symm (AK s B))];exact R,.nil,Nat.zero_le _),λx n c e=>nomatch e);obtain⟨ab,Q,ag,E,N,a,b,c⟩:=KA.ex;have S:∀{b:jr}{o:HO},H b=U o->(∀D x,o≠ .ins D x [])->b≠p:=λe n y=>by grind
 refine⟨(ab,Q,ag,E,N,j _ _ a (S a λD x z=>?_),j _ _ b (S b λ_ _ z=>nomatch z),j _ _ c (S c λ_ _ z=>nomatch z))⟩;have:=FI Q E as;rw[HO.ins.inj z|>.2.2]at this;cases this
inductive eI(H:Hp)(t:jr)(g:En):Prop
 |mk kvs(a:H t=U (.dK kvs))(b:gg H kvs g)
inductive spLgv(a:jq)(H:Hp)(Q:VK)(b:XK):Prop
 |mk t g x(n:Nat)(e:a=[.ref t,.str x,.int (n)])(f:eI H t g)(h:x∈ff)(d:∀q c,bD H c->H q=J->eI c q (gk g x n)->Q (.ref q) c)
noncomputable abbrev av:jm:=[jS,jG,jM,ma,j6]
def scLgv:AH av [jS,jG,jM] (defScope Jo):=cY
def Xz(F:cC i nk nk Jo f s)(B:Bl j)(q:j kg=J):bH ar a1 i j aC cF 1 f s [jS,jG,jM] spLgv:=by
 refine F.m scLgv λvs H as al h=>?_;obtain⟨t,g,x,n,rfl,⟨d,ht,C⟩,R,ab⟩:=h;refine(Y,λbf ag an a0 Q=>?_);have D:=Bs Q;have A:=scLgv.nd
 refine(_,AB (SC (i:=3) (j:=4) Y A Y Y qc Y Y (cW (BF Ja Y q MM (cZ (Z 0))) AF) (by rfl))
  (An (AU (Db (Ft D (Z 1) (Z 0))) (AC (A5 4 A (AX CD (Am (Ad i rfl) (Au D (Z 0) (Z 1) (λ_ _=>rfl)) AF (λ_ _=>rfl)) (BF HY rfl B.int II (cZ (Cn Ed (Am (Ad i rfl) (Au D (Z 0) (Z 1) (λ_ _=>rfl)) AF (λ_ _=>rfl)) (Z 2) (AN _))))))) AM)
  (AB (D4 D (Z 3) (Z 1) (Ab (cW (Z 2) (Z 4))) rfl)
  (AC (AJ (Z 3))))),?_)
 refine(_,Y,t,d,Y,.inl ht,λp w=>?_);have l:=AD (bD.refl H) w (o:=HO.dK d);have r:(upd H p (.dK d)) p=U (.dK d):=bA;generalize upd H p (.dK d)=P at l r;refine(_,_,Y,(λS E=>E=P/\∃c:Nat,S=[U (.ref t),U (.str x),U (.int n),U (.ref p),U (.int c)]/\FU g x (U (n,(c)))=gk g x n,λaz M=>?_,?_))
 .refine(_,rfl,_,rfl,t,_,rfl,.inl (_,Sum.inr x,.inl (l _ _ ht),rfl,rfl),_,rfl,?_);cases e:g x with
  |none=>
   rw[C.no e];refine AS (M _ _ (Y,0,Y,?_));unfold gk;rw[e]
  |some y=>
   obtain⟨m,c⟩:=y;obtain⟨N,G,h2⟩:=C.vl x m c e;rw[G];have z:=l _ _ h2;refine AZ (_,Y,_,Y,t,_,Y,.inl (_,Sum.inr x,.inl (l _ _ ht),Y,G.symm),N,_,1,_,Y,Y,cD.of z,Y,_,Y,_,Y,t,_,Y,.inl (_,Sum.inr x,.inl (l _ _ ht),Y,G.symm),N,_,0,_,Y,Y,cD.of z,Y,_,Y,Y,.inr (_,Y,_,_,Y,Y,M _ _ (Y,if n=m then c else c+1,?_,by unfold gk;rw[e])));by_cases T:n=m
   .subst T;simp;rfl
   .have:¬ m=(n:Int):=by lia
    rw[zh T];simp[this];rfl
 rintro S I ⟨rfl,c,rfl,eg⟩;refine(_,Y,_,Y,fb,λb X=>?_);have u:=AD (bD.refl I) X (o:=HO.tup [V.int n,V.int c]);have v:(upd I b (.tup [V.int n,V.int c])) b=U (.tup [.int n,.int c]):=bA;generalize upd I b (.tup [V.int n,V.int c])=H3 at u v;refine(_,Y,_,Y,p,_,Y,gx.k (k:=Sum.inr x) (u _ _ r) C.small,_,Y,ab p _ (λa o e=>?_) w (_,bA,?_))
 .rw[AE (AK e w)];exact u _ _ (l _ _ e)
 .rw[←eg];refine((C.keep λa xs e=>u _ _ (l _ _ e)).put R v).keep λa xs e=>?_;rw[AE (λy=>by rw[y,u _ _ r]at e;cases e)];exact e
inductive spLwo(c:jq)(H:Hp)(Q:VK)(e:XK):Prop
 |mk d a b(g:c=[.ref d])(h:H d=U (.lst [.int a,.int b]))(i:∀x f,cz d H f->x∈ff->Q (.str x) f)
def ZX:AH [jv] [jv] (defScope Ge):=cY
def X0(F:cC g ni ni Ge f S)(m:Fn P w g T n j7 2 [jv,j6] eH):bH P w g T n cF 3 f S [jv] spLwo:=by
 refine F.m ZX λR H Q E h=>?_;obtain⟨d,a,b,rfl,C,q⟩:=h;refine(Y,λX A p s v=>?_);refine(_,AC (AJ (Am (Al g Y) (eK.h (Yf (CS (CS (CS (CS (CS Bu))))))) (dm m v (cW (Z 0) AF)) (λ_ _=>rfl))),((by trivial),λl r=>(_,Y,d,a,b,5,Y,AD (bD.refl H) r _ _ C,qc,qc,λi u z G N=>?_)));obtain⟨j,rfl⟩:=Int.eq_ofNat_of_zero_le G;have t:j<5:=by lia
 obtain⟨x,D,I⟩:∃x,([("a":Str),"b","x","ab","cdefghij"].map V.str)[j]?=U (.str x)/\x∈ff:=by
  have:∀j,j<5->∃x,([("a":Str),"b","x","ab","cdefghij"])[j]?=U x/\x∈ff:=by
   intro j t;rcases (show j=0\/j=1\/j=2\/j=3\/j=4 by lia)with rfl|rfl|rfl|rfl|rfl
   .trivial
   .trivial
   .trivial
   .trivial
   .trivial
  obtain⟨x,ab,M⟩:=this j t;exact(x,by grind,M)
 refine(l,_,_,_,Y,Y,bZ.of (by rw[AE (λy=>by simp_all)];exact bA),BQ D,q x _ (λc o e B=>?_,u,z,bA) I);rw[AE B];exact AD (bD.refl H) r _ _ e
inductive spLn'(c:jq)(H:Hp)(Q:VK)(e:XK):Prop
 |mk d u(m:Nat) a b bs bG(i:c=[.ref d,.ref u,.int (m)])(j:H d=U (.lst [.int a,.int b]))(n:H u=U (.lst (bs.map V.ref)))(h:bV H bs (Dw bG))(o:0<bG.length)(p:C5 bG)(s:m<=20)(t:u≠d)(r:∀q l g f,cz d H f->H l=J->f q=U (.tup [.ref l,.int (Ah (g.map (look bG)):Nat)])->f l=U (.lst (g.map V.str))->NmO bG g->Q (.ref q) f)
noncomputable abbrev aw:jm:=[jv,jW,j5,kA,jM,"_law_turn",jG,"_law_more"]
def scLnm:AH aw [jv,jW,j5] (defScope IG):=cY
def X1(F:cC a n6 n6 IG az fd)(B:Bl f)(b:Fn ag a2 a f as j7 2 [jv,j6] eH):bH ag a2 a f as cF 3 az fd [jv,jW,j5] spLn':=by
 refine F.m scLnm λvs H a5 a4 aC=>?_;obtain⟨d,u,a0,an,ar,bs,r,rfl,hd,hu,I,h0,m,hm,P,q⟩:=aC;refine(Y,λbf a3 a6 a7 hr=>?_);have G:=scLnm.nd
 refine(_,AB (SC (i:=3) (j:=4) Y G Y Y qc Y Y (cW (As AG) AF) (by rfl))
  (AB (CY PassesOwn.never rfl (DB rfl B.range (cZ (dm b hr (cW (Z 0) (AX CD (Z 2) AF))))) (BH 5 G)
   (AB (Bg (Am (Al a rfl) (Z 1) (dm b hr (cW (Z 0) (AR (A1 a rfl) rfl B.len PySem.boot_len (cZ (Z 1))))) (λ_ _=>rfl)) (BN rfl (AT (BH 6 G) (AT (BH 7 G) A3))))
   (AB (AV (Aw (Z 3) (cZ (Z 6))))
   (AC (A5 4 G (AX JD (Z 4) (Z 7)))))))
  (AC (AJ (Ab (cW (Z 3) (Z 4)))))),?_)
 have iz:bs.length=r.length:=by have:=I.length;unfold Dw at this;rwa[AO]at this
 refine((by simp_all),λl S=>(_,_,Y,?_));have w:=AD (bD.refl H) S (o:=HO.lst []);have l1:(upd H l (.lst [])) l=U (.lst []):=bA;have z:l≠d:=λab=>by simp_all
 generalize upd H l (.lst [])=H1 at w l1;refine(_,Y,_,Y,_,_,Y,Y,d,an,ar,_,Y,w _ _ hd,by lia,by lia,λi a' b' aM hi=>?_);obtain⟨a1,rfl⟩:=Int.eq_ofNat_of_zero_le aM;refine(a1,Y,by lia,by lia,HW (λi A E=>∃(t:jm)(T X y:Option V),A=[U (.ref d),U (.ref u),U (.int a0),U (.ref l),U (.int (Ah (t.map (look r)))),T,X,y]/\t.length=i/\cz d H E/\E l=U (.lst (t.map V.str))/\∀x∈t,x∈r.map (·.1)) ?_ ?_ ?_)
 .refine([],J,J,J,Y,Y,(λc o e n=>?_,a',b',bA),?_,λx hx=>by cases hx)
  .rw[AE n];exact w _ _ e
  .rwa[AE z]
 .rintro i A D hi ⟨t,T,X,y,rfl,hn,M,Q,N⟩;obtain⟨x2,y2,al⟩:=M.dv;have aR:=M.old _ _ hu P;refine(_,Y,_,Y,_,Y,u,_,Y,.inl (bZ.of aR),d,x2,y2,_,Y,al,by simp_all,by have:=m.len;rw[AO];lia,λj g R j0 jl=>?_);obtain⟨j,rfl⟩:=Int.eq_ofNat_of_zero_le j0;rw[AO]at jl;have hj:j<bs.length:=by lia
  have v:cz d H (upd D d (.lst [.int g,.int R])):=M.upd;have h:(upd D d (.lst [.int g,.int R])) l=U (.lst (t.map V.str)):=by rwa[AE z]
  have u3:(upd D d (.lst [.int g,.int R])) u=U (.lst (bs.map V.ref)):=by rwa[AE P]
  generalize upd D d (.lst [.int g,.int R])=H3 at v h u3;obtain⟨pr,C,hb⟩:=ET I (z7 hj);unfold Dw at C;rw[zy]at C;obtain⟨p,s,rfl⟩:=z6.mp C;refine(u,_,_,_,Y,Y,bZ.of u3,BQ (by simp_all),_,_,Y,cD.of (v.old _ _ hb (λab=>by simp_all)),Y,_,_,Y,_,_,Y,Y,(_,Y,.inl (Y,_,bZ.of h),_,Y,l,_,_,Y,Y,h,AQ (by grind),_,Y,_,Y,_,_,Y,Y,t++[p.1],U (.int (0+i)),U (.str p.1),U (.int p.2),?_,by simp_all,(λc o e n=>?_,?_),by rw[bA,zm];rfl,λx hx=>?_))
  .rw[zm];have:=DU m.nd (zP s)
   have e:Ah (t.map (look r)++[p].map (λq=>look r q.1))=Ah (t.map (look r))|||p.2:=by
    rw[List.map_singleton,this];unfold Ah;rw[List.foldl_append];rfl
   have e2:Builtin.bitOr ((Ah (t.map (look r)):Nat)) p.2=((Ah (t.map (look r)++[p.1].map (look r)):Nat)):=by
    rw[C2];exact congrArg _ e.symm
   rw[←e2];rfl
  .rw[AE (λab=>by simp_all)];exact v.old c o e n
  .obtain⟨x4,y4,h4⟩:=v.dv;exact(x4,y4,by rw[AE (Ne.symm z)];exact h4)
  grind
 .rintro A D ⟨t,T,X,y,rfl,hn,M,Q,N⟩;refine(_,Y,_,Y,fb,λp s=>?_);have sp:=AD (bD.refl D) s (o:=HO.tup [V.ref l,V.int (Ah (t.map (look r)))]);exact q p l t _ (M.step sp) S bA (sp _ _ Q) (by lia,N,m.lt)
def dY.but(s:∀b o,H b=U o->b≠t->f b=U o)(ht:H t=U (.dK P))(l:t≠z.e)(h:dY m C z w r g D H):dY m C z w r g D f:=by
 have kp:∀{b:jr}{o:HO},H b=U o->(∀j,o≠ .dK j)->f b=U o:=λ{b o}e n=>s b o e λy=>by grind
 have p:∀b i,H b=U (.tup i)->f b=U (.tup i):=λb i e=>kp e λ_ z=>nomatch z;obtain⟨⟨G,x⟩,M,⟨j,Q,I⟩,⟨A,u,v,F⟩,B⟩:=h;obtain⟨d,E,R,S,N,a,b,c⟩:=M.ex;exact((G,kp x (λ_ z=>nomatch z)),⟨(d,E,R,S,N,kp a (λ_ z=>nomatch z),kp b (λ_ z=>nomatch z),kp c (λ_ z=>nomatch z))⟩,(j,s _ _ Q (Ne.symm l),I.keep p),(A,kp u (λ_ z=>nomatch z),Paired.imp' (λ_ _ q=>q.keep p) v,F),B)
inductive spBl(a C:jr)(b:jq)(H:Hp)(Q:VK)(c:XK):Prop
 |mk z bG r g D t(f:b=[.ref z.b,.ref t])(h:dY a C z bG r g D H)(i:eI H t g)(e:t≠z.e)(j:∀d,bD H d->Q (.bl L) d)
noncomputable abbrev NBl:jm:=[ju,jS,jG]
def scBl:AH NBl [ju,jS] (defScope EO):=cY
def ZY(F:cC f mi mi EO a2 fd)(B:Bl m)(BT:DA f h)(VT:Nq f q)(aM:Mt P w f m p h jZ 1 [jt] (spNs h C))(aC:Mt P w f m p h oz 1 [jt] (spLn h C))(a0:B6 P w f m p h lI 6 [jt,jx] (spVl h C q cB))(az:B6 P w f m p h oB 4 [jt,jx] (spCh h C cB))(aR:Mt P w f m p q jC 1 [jt] (spVNumber q)):bH P w f m p cF 7 a2 fd [ju,jS] (spBl h C):=by
 obtain⟨fL,dL,GL,mL,bL⟩:=aC.ex;refine F.m scBl λvs ab be bd a3=>?_;obtain⟨z,l,r,g,D,t,rfl,R,⟨a,ht,S⟩,a6,a9⟩:=a3;refine(Y,λbf bc bh bj s=>?_);have hu:=Bs s
 refine(_,AB (AU (PW.pt (DH (AL (Ew f Y s.units) (HN (Z 0) BT.cl aM s) (AR (Dd Y) Y B.sorted Dv (cZ (Z 1))) (AN _)) (By (AL Ed (AR (Mr GL (s.mono qc) bL mL) Y B.len PySem.boot_len (cZ (Z 0))) (AR Kh Y B.len PySem.boot_len (cZ (Z 1))) (AN _))))) (AC Ag) AM)
  (AB (NE (CY PassesOwn.never rfl (VR (Z 1)) (BH 2 scBl.nd) (AC (AU (PW.pt (DH (AL Ed (HN (BZ (Z 0) BT.cl a0 s WX (cZ (Z 2))) VT.cl aR s) (Am (Ad f rfl) (Au hu (Z 1) (Z 2) (λ_ _=>rfl)) AF (λ_ _=>rfl)) (AN _)) (By (AL Ed (BZ (Z 0) BT.cl az s WX (cZ (Z 2))) (Am (Ad f rfl) (Au hu (Z 1) (Z 2) (λ_ _=>rfl)) AF (λ_ _=>rfl)) (AN _))))) (AC Ag) AM))))
  (AC (AJ CQ))),?_)
 obtain⟨ms,km,Q⟩:=S.ks;have iP:=Q.len;obtain⟨dx,hb⟩:=R.bk;refine(_,Y,R.no (z,l,r,g,D,Y,R,λl1 M H s1 h1 k1 ba=>(_,Y,t,a,ms,Y,.inl (s1 _ _ ht),km,by lia,λl2 n2 ar hp bb=>?_)));have a1:=k1.uniq (Q.perm hp) ba bb;subst a1;have I:=AD s1 ar (o:=HO.lst (M.map V.str));have as:=λx hx=>(PU x (k1.w x hx)).1;have al:=AD (bD.refl H) ar (o:=HO.lst (M.map V.str)) _ _ h1;have ag:(upd H l2 (HO.lst (M.map V.str))) l2=U (.lst (M.map V.str)):=bA;generalize upd H l2 (HO.lst (M.map V.str))=A at I al ag;refine(_,_,C0 al (HG _),C0 ag (HG _),FL as,FL as,_,Y,?_);rw[KH];obtain⟨bg,a7,eL⟩:=S.len;refine AS (_,Y,z.b,dx,_,Y,I _ _ hb,z,l,r,g,D,Y,R.same I,λm3 k3=>(m3.length,Y,Nat.lt_of_le_of_lt k3.len qc,(_,Y,t,a,Y,I _ _ ht,Y,_,Y,?_)));rw[zK (by rw[eL,k3.eqlen a7])];refine AS (t,a,I _ _ ht,λo u e=>(by have e':ab t=U (.dz o u):=e;rw[ht]at e';cases e'),λo=>?_);have E:∀b u,A b=U u->b≠t->(upd A t (.dz o (.dK a))) b=U u:=λb u e y=>by rwa[AE y]
 have t3:(upd A t (.dz o (.dK a))) t=U (.dz o (.dK a)):=bA
 have uu:∀j,bD (upd A t (.dz o (.dK a))) j->bD ab (upd j t (.dK a)):=λj d b u e=>by
  by_cases y:b=t
  .rw[y,bA,←ht,←y,e]
  .rw[AE y];exact d _ _ (E _ _ (I _ _ e) y)
 generalize upd A t (.dz o (.dK a))=H3 at E t3 uu;refine(_,Y,t,o,a,Y,t3,UX (λi T j=>∃v,T=[U (.ref z.b),U (.ref t),v]/\bD H3 j) (f8,Y,bD.refl _) (λi T j k=>by obtain⟨_,_,d⟩:=k;exact d _ _ t3) ?_ ?_)
 .rintro i ⟨a8,val⟩ T j a4 ⟨v,rfl,d⟩;have an:(ms.map Sum.inr)[i]?=U a8:=by rw[←km,zy,a4];rfl
  rw[zy]at an;obtain⟨x,hx,rfl⟩:=z6.mp an;obtain⟨⟨n,c⟩,hg⟩:∃y,g x=U y:=Option.ne_none_iff_exists'.mp ((Q.mem x).mp (by grind));obtain⟨t',hv,a5⟩:=S.vl x n c hg;have X:=((R.same I).but E (I _ _ ht) a6).same d;have tp:∀{N:Hp},bD j N->N t'=U (.tup [.int n,.int c]):=λG=>G _ _ (d _ _ (E _ _ (I _ _ a5) λy=>by simp_all));refine(_,Y,X.no (_,Y,.mk z l r g D x n c Y X hg λbi N G hV=>J2 hV (_,Y,_,Y,t,_,Y,.inl (_,Sum.inr x,.inr (o,G _ _ (d _ _ t3)),Y,hv.symm),t',_,0,_,Y,Y,cD.of (tp G),Y,Y,_,Y,?_)));rw[zK (rfl)];refine AS (_,Y,(X.same G).no (_,Y,.mk z l r g D x n c Y (X.same G) hg (_,Y,_,Y,t,_,Y,.inl (_,Sum.inr x,.inr (o,G _ _ (d _ _ t3)),Y,hv.symm),t',_,1,_,Y,Y,cD.of (tp G),Y,Y,_,Y,?_)));rw[zK (rfl)];exact AS (_,Y,d.trans G)
 .rintro T j ⟨v,rfl,d⟩;exact(d _ _ t3,a9 _ (uu j d))
structure gF(K:FG)(x qual:Str)(st:Stmt)(f:jr)(fd:FuncData)(c:jr):Prop where
 ex:∃(oc:Value)(od:Option jr)(kV doc pm:Value)(an:Option jr)(ct:Value)(iw:Array (Option Value)),
  fd=W.fnOf x qual (defArgs st) (defBody st) (defScope st) .none kV doc pm an (.ref c) ct/\K.lookup f=U (oc,od,.func fd,iw)/\W.codeIn K (.ref c) qual=L
def gF.ok{x m}{st}{N d}{k}(F:gF C x m st f G c)(S:AH N d (defScope st))(len:∀b H Q E,n b H Q E->b.length=d.length)
  (a:∀A g s H b Q E,bJ k (A.deeper (PyProof.Rows.envOfC m (defScope st) s.heap.objs.size f (.ref c)))->n b H Q E ->
   ∃t,fk (Bf cF P w C I D N m (defScope st) f (.ref c) A g s H E).gX (defBody st) t/\t {nx:=λ_ p=>Q .bQ p,rt:=Q} (start N b) H):bH P w C I D cF (k+1) f G d n:=by
 obtain⟨z,v,kV,r,u,B,y,l,rfl,o,e⟩:=F.ex;refine Pg o e S len λA g s H b Q E j i=>?_;obtain⟨t,h,q⟩:=a A g s H b Q E j i;exact(t,h.gX,q)
noncomputable def Bx:Stmt->List Stmt|.For _ _ b _ _=>b|_=>[]
noncomputable def DV(l:List Stmt)(i:Nat):Stmt:=l.getD i (.Pass (0,0,0,0))
def cU.same{q}(s:bD H b)(h:cU H f q g):cU b f q g:=by
 obtain⟨a,l,o,i⟩:=h;refine(a,s _ _ l,o,λx e=>?_);rcases i x e with z|⟨c,j,d⟩
 .simp_all
 .exact .inr (c,j,s _ _ d)
def cU.sameX(i:H d=U (.lst [.int x,.int y]))(s:cz d H b)(h:cU H f q g):cU b f q g:=by
 obtain⟨e,p,r,l⟩:=h;refine(e,s.old _ _ p (λz=>by simp_all),r,λx j=>?_);rcases l x j with z|⟨c,o,a⟩
 .simp_all
 .exact .inr (c,o,s.old _ _ a (λz=>by subst z;rw[i]at a;cases a))
def OC:Gv a q≠Fw a C b:=λz=>by
 have h:({objs:=Array.replicate (a+1) (.ref C,b,.fields (Array.replicate 6 .none),#[])}:Heap).get? a=U (.ref C,b,.fields (Array.replicate 6 .none),#[]):=by
  unfold Heap.get?;rw[Array.getElem?_replicate,zg (by simp)]
 have l:=congrFun (HO.ext.inj z) {objs:=Array.replicate (a+1) (.ref C,b,.fields (Array.replicate 6 .none),#[])};obtain⟨o,r,p,t,e,i,j,d⟩:=(l.mpr (_,_,h,rfl,rfl,rfl,qc,qc));cases e;rw[h]at i;cases i;cases j;rw[Array.getElem?_replicate]at d;split at d<;>cases d
def OD(h:H b=U (.tup [.str x,.str y,.int n])):Ba a H (.tuple [.str x,.str y,.int n]) (.ref b):=by
 refine(b,_,Y,cD.of h,(_,_,Y,by rw[Ba],?_));refine(_,_,Y,by rw[Ba],(_,_,Y,by rw[Ba],?_));rw[Bd]
def OE(e:x.cps.all (· < 128)=L)(h:y.cps.all (· < 128)=L):SeqAt.shaped (.tuple [.str x,.str y,.int n])=L:=by
 unfold SeqAt.shaped;simp;refine(?_,?_)
 .refine O6 λd a=>?_;simp at a;rcases a with rfl|rfl|rfl
  .exact HH e
  .exact HH h
  rfl
 .simp only[PyData.depth,PyData.depthAll]
  decide
def UZ(x y)(n):PyData.eqv (.tuple [.str x,.str y,.int n]) (.tuple [.str x,.str y,.int n])=L:=EW λd a=>by
 simp at a;rcases a with rfl|rfl|rfl
 .exact Bo _
 .exact Bo _
 .exact C8 _
def OF(a)(n:Nat):AW a (n)=n-(n&&&kn a):=by
 rfl
def WD(l:g.length=b.length)
  (o:(List.range b.length).all (λi=>match b[i]?,g[i]? with|some x,U j=>decide (X.N[j]?=U x)&&decide (X.env.scope.names.lookup x=U .cell)&&decide (m.names.lookup x=U .free)|_,_=>O)=L)
  (d:∀x c,f.lookup x=U c->X.env.cells.lookup x=U c) (a:∀x,(m.names.lookup x=U .cell\/m.names.lookup x=U .free)->∃c,f.lookup x=U c) (n:∀x c,f.lookup x=U c->X.fn x=L\/c∉ dj X.stack):LamN X b g m f:=by
 refine(l,λi x h=>?_,d,a,n);have p:=(z8.mp h).1;have:=all_eq_true.mp o i (mem_range.mpr p);rw[h]at this;cases e:g[i]? with
 |none=>rw[e]at this;cases this
 |some j=>
  rw[e]at this;simp at this;exact(j,Y,this.1.1,this.1.2,this.2)
structure WE(X:Cx)(K:FG)(q:Str)(ec:Nat->jr)(cM c P0:jr)(ls:List Pos):Prop where
 fn:∃f fd,cC X.K jB jB A7 f fd/\X.mg jB=U (.ref f)/\Binds X.K fd [jV] []
 M:Ru X.mg ec
 EX:T9 X.K X.mg ec cM
 GW:FnS X.prog X.w X.K X.mg X.base kJ 1 [jY] (Ea X.K ec)
 L:XJ X c P0
 ne:(ls.all λl=>ls.all λq=>decide (q=l) || !(q.line==l.line&&q.col==l.col))=gl
 g:Gl X jB
 hK:X.K=K
 hq:X.env.qual ++ jy=q
def tdB(N:jm)(c d:List (Str×NameKind))(a:jm)(b:List Nat)(e:List Pos)(i:Nat)(l:Pos):Bool:=(decide (e[i]?=U l)&&decide (b.length=a.length))&&((List.range a.length).all (λi=>match a[i]?,b[i]? with|some x,U j=>decide (N[j]?=U x)&&decide (c.lookup x=U .cell)&&decide (d.lookup x=U .free)|_,_=>O)&&d.all (λp=>!(p.2 == .cell)&&(!(p.2 == .free)||decide (c.lookup p.1=U .cell))))
def B7(T:WE X aC q p o c l g)(m:bJ (k+2) X.A)(ag)(N)(G)(an:∀{a}r t C d M i E,bJ k (C.deeper (W.envX (X.env.qual ++ jy) (.function,b,O,O,f) M.heap.objs.size r (.ref t) a))->PE (Gw X.prog X.w X.K X.mg X.base N (X.env.qual ++ jy) (.function,b,O,O,f) r (.ref t) a C d M i E) n (tl E))
  (u:tdB X.N X.env.scope.names b N G g ag j=L:=by kernel_rfl) (h5:∀x c,X.env.cells.lookup x=U c->X.fn x=L\/c∉ dj X.stack:=by intro _ _ _;exact .inl rfl):
  PE X (.Call (.Name jB aR) [.Lambda ([],[],J,[],[],J,[]) n (.function,b,O,O,f) j] [] a0) (Nt aC p o l q g G tl):=by
 obtain⟨aM,fd,F,ab,as⟩:=T.fn;obtain rfl:=T.hK;obtain rfl:=T.hq;unfold tdB at u;rw[Bool.and_eq_true,Bool.and_eq_true,Bool.and_eq_true,decide_eq_true_eq,decide_eq_true_eq]at u;obtain⟨⟨s,S⟩,h2,v⟩:=u;intro al ar az H Q I h
 have w:∀y∈b,y.2≠ .cell:=λy A z=>by
  have:=all_eq_true.mp v y A;rw[z]at this;cases this
 obtain⟨a,B,D,R⟩:=Po (scope:=(.function,b,O,O,f)) λy A e=>I.ok.has y.1 (.inl (by
  have:=all_eq_true.mp v y A;rw[e]at this;have q:List.lookup y.1 X.env.scope.names=U .cell:=by simpa using this
  exact q))
 refine Vx F T.M T.EX T.GW m T.g ab F.kp as T.L (zP s) (λq P=>?_) B Y (WD S h2 D (λx hx=>?_) λx c e=>h5 x c (D x c e)) (λ_ _ _=>rfl) Y Y Y w (λr t=>an r t) Y Y al ar az H Q I h
 .have z:=all_eq_true.mp (all_eq_true.mp T.ne j (zP s)) q P;rw[Bool.or_eq_true]at z;rcases z with z|z
  .exact .inl (zT z)
  .exact .inr (by rwa[Bool.not_eq_true']at z)
 .rcases hx with e|e
  .exact absurd Y (w _ (D7 e))
  .exact R _ (D7 e) rfl
def Nx(H a:Hp):Prop:=∀b o,H b=U o->(∀C c,o≠Fw b C c)->a b=U o
def Nx.same(s:bD H a):Nx H a:=λb o e _=>s b o e
def Nx.exc(d:bD H c)(p:c a=U (Fw a j g))(i:bD (del c a) f):Nx H f:=λb o h l=>by
 have e:=d _ _ h;apply i _ _;unfold del
 rwa[zh (λz=>by grind)]
def cU.nx(s:Nx H b)(h:cU H f q g):cU b f q g:=by
 obtain⟨a,j,l,e⟩:=h;refine(a,s _ _ j (λ_ _ z=>nomatch z),l,λx d=>?_);rcases e x d with z|⟨c,i,o⟩
 .simp_all
 .exact .inr (c,i,s _ _ o (λ_ _=>OC))
def cU.but(h:cU H f q m)(e:∀a,H f=U (.fJ a)->g f=U (.fJ a))(t:∀b d,H b=U (.ext d)->g b=U (.ext d)):cU g f q m:=by
 obtain⟨a,p,r,l⟩:=h;refine(a,e _ p,r,λx j=>?_);rcases l x j with z|⟨c,o,i⟩
 .simp_all
 .exact .inr (c,o,t _ _ i)
def ZZ(EP:FP f c b i j)(h:∀p d,Nx H d->d p=U (.tup [.str jE,.str (wd j)])->Q (.ref p) d):Uq H (Ei f c b Q) i:=λe u l _ _=>(i,rfl,λt a=>.inl (j,EP,rfl,λp o r q=>h p o (Nx.exc l a r) q))
def X2(u:Jw f c b 1)(h:∀p d,Nx H d->d p=U (.tup [.str jE,.str kK,.int n])->Q (.ref p) d):jg H (Ei f c g Q) b n:=λe l x o _ _ _ _ j=>(b,rfl,λq a=>.inr (1,l,.int n,u,rfl,by
 have i:l≠q:=λz=>by rw[←z,j]at a;cases a
 unfold del;rw[zh i]
 exact j,λp r v t=>h p r (Nx.exc o a v) t))
inductive Ch(a:Aa)(r:Str):List En->iC->En->Prop
 |nil:Ch a r [λ_=>J] [] (λ_=>J)
 |snoc F D g g' x(h:Ch a r F D g)(b:x∈ff)(e:∀y,y≠x->g' y=g y)(n:g x=J->g' x≠J)(ok:iF a r g):Ch a r (F++[g']) (D++[(x,(g x))]) g'
def Ch.last(h:Ch b r F D g):(∃a,F=a++[g])/\F.length=D.length+1:=by
 induction h with
 |nil=>simp_all
 |snoc F D g d x h _ _ _ _ e=>simp_all
structure Zw where
 (z:Za) (d t u:jr)
def Kp(y:Zw)(H a:Hp):Prop:=∀b o,H b=U o->b≠y.d->b≠y.z.e->b≠y.z.l->b≠y.t->(∀c,o≠ .fJ c)->(∀d,o≠ .ext d)->a b=U o
def Kp.trans(a:Kp y H f)(b:Kp y f g):Kp y H g:=λc o e l p h d i j=>b c o (a c o e l p h d i j) l p h d i j
def Kp.nx(s:Nx H c):Kp y H c:=λb o e _ _ _ _ _ h=>s b o e λC a=>h _
def Kp.refl(H):Kp y H H:=λ_ _ e _ _ _ _ _ _=>e
structure Nd(bd:jr)(y:Zw):Prop where
 dl:y.d≠y.z.l
 dt:y.d≠y.t
 lt:y.z.l≠y.t
 ud:y.u≠y.d
 ul:y.u≠y.z.l
 ut:y.u≠y.t
 be:bd≠y.z.e
abbrev TbL(y:Zw)(F:List En)(H:Hp):Prop:=∃b,H y.t=U (.lst (b.map V.ref))/\Paired (eI H) b F/\∀a∈b,a≠y.z.e
structure Ws(BC C bd:jr)(T:List (jr×Str×List Pos))(y:Zw)(bG:Aa)(r:Str)(g:En)(D:iC)(F:List En)(H:Hp):Prop where
 di:∃a b,H y.d=U (.lst [.int a,.int b])
 B:dY BC C y.z bG r g D H
 tb:TbL y F H
 du:∃bs,H y.u=U (.lst (bs.map V.ref))/\bV H bs (Dw bG)
 hb:Rd H bd (.dK CP)
 tabs:∀p∈T,cU H p.1 p.2.1 p.2.2
def eI.keep(s:∀b f,H b=U (.tup f)->e b=U (.tup f))(st:∀c,H t=U (.dK c)->e t=U (.dK c))(h:eI H t g):eI e t g:=by
 obtain⟨c,a,d⟩:=h;exact(c,st _ a,d.keep s)
theorem J7{g e}{F G}:∀{d:List g}{bs:List e},Paired F d bs->(∀a∈d,∀b,F a b->G a b)->Paired G d bs
 |_,_,.nil,_=>.nil
 |_,_,.cons a r,f=>.cons (f _ (by simp) _ a) (J7 r λc h=>f c (by grind))
def Ws.gen(W:Ws f C n T y m r g D F H)(N:Nd n y)(s:Kp y H c)(w:∃a b,c y.d=U (.lst [.int a,.int b]))(B:dY f C y.z m r j E c)(P:TbL y v c)(d:∀p∈T,cU c p.1 p.2.1 p.2.2):Ws f C n T y m r j E v c:=by
 obtain⟨q,ag,_⟩:=W.B.en;obtain⟨R,M,_⟩:=W.B.de;obtain⟨a,b,S⟩:=W.di;obtain⟨u,ht,_⟩:=W.tb;have kp:∀{b:jr}{o:HO},H b=U o->(∀i,o≠ .lst i)->(∀G,o≠ .dK G)->(∀t,o≠ .fJ t)->(∀X,o≠ .ext X)->c b=U o:=λ{b o}e Q ab x A=>s b o e (λz=>by grind) (λz=>by grind) (λz=>by grind) (λz=>by grind) x A;refine(w,B,P,?_,?_,d)
 .obtain⟨bs,l,I⟩:=W.du;exact(bs,s _ _ l N.ud (λz=>by simp_all) N.ul N.ut (λ_ z=>nomatch z) (λ_ z=>nomatch z),bV.cS (λb i e=>kp e (λ_ z=>nomatch z) (λ_ z=>nomatch z) (λ_ z=>nomatch z) (λ_ z=>nomatch z)) I)
 .rcases W.hb with h|⟨o,h⟩
  .exact .inl (s _ _ h (λz=>by simp_all) N.be (λz=>by simp_all) (λz=>by simp_all) (λ_ z=>nomatch z) (λ_ z=>nomatch z))
  .exact .inr (o,kp h (λ_ z=>nomatch z) (λ_ z=>nomatch z) (λ_ z=>nomatch z) (λ_ z=>nomatch z))
def dY.nx(s:Nx H f)(h:dY m C z w r g D H):dY m C z w r g D f:=by
 have kp:∀{b:jr}{o:HO},H b=U o->(∀P,o≠ .ext P)->f b=U o:=λ{b o}e n=>s b o e λC j=>n _;have l:∀b i,H b=U (.tup i)->f b=U (.tup i):=λb i e=>kp e λ_ z=>nomatch z;obtain⟨⟨j,u⟩,I,⟨E,F,B⟩,⟨v,p,t,A⟩,x⟩:=h;obtain⟨d,y,G,M,N,a,b,c⟩:=I.ex;exact((j,kp u (λ_ z=>nomatch z)),⟨(d,y,G,M,N,kp a (λ_ z=>nomatch z),kp b (λ_ z=>nomatch z),kp c (λ_ z=>nomatch z))⟩,(E,kp F (λ_ z=>nomatch z),B.keep l),(v,kp p (λ_ z=>nomatch z),Paired.imp' (λ_ _ q=>q.keep l) t,A),x)
def Ws.nx(W:Ws m C f T y v r g D F H)(N:Nd f y)(s:Nx H c):Ws m C f T y v r g D F c:=by
 have kp:∀{b:jr}{o:HO},H b=U o->(∀l,o≠ .ext l)->c b=U o:=λ{b o}e n=>s b o e λC u=>n _;obtain⟨a,b,i⟩:=W.di;obtain⟨d,ht,h,j⟩:=W.tb;exact W.gen N (.nx s) (a,b,kp i (λ_ z=>nomatch z)) (W.B.nx s) (d,kp ht (λ_ z=>nomatch z),Paired.imp' (λ_ _ q=>q.keep (λb t e=>kp e (λ_ z=>nomatch z)) λ_ e=>kp e (λ_ z=>nomatch z)) h,j) λp h=>cU.nx s (W.tabs p h)
def Ws.same{a}{r}(W:Ws c C b T y a r g D F H)(N:Nd b y)(s:bD H d):Ws c C b T y a r g D F d:=W.nx N (.same s)
def Ws.lst{H h}{i}{C}{l f}{T}{y}{r}{g}{D}{F u}{a}{c}(W:Ws l C f T y i r g D F H)(N:Nd f y)(s:∀b o,H b=U o->b≠a->h b=U o)(ha:H a=U (.lst c))(v:a≠y.z.l)(kp:Kp y H h)(m:∃a b,h y.d=U (.lst [.int a,.int b]))(n:TbL y u h):Ws l C f T y i r g D u h:=by
 have d:∀{b:jr}{o:HO},H b=U o->(∀c,o≠ .lst c)->h b=U o:=λ{b o}e ar=>s b o e λz=>by grind
 obtain⟨⟨P,E⟩,h2,⟨ab,X,Q⟩,⟨G,an,B,x⟩,I⟩:=W.B;obtain⟨j,w,ag,d2,al,A,M,S⟩:=h2.ex;have t:∀b c,H b=U (.tup c)->h b=U (.tup c):=λb c e=>d e λ_ z=>nomatch z;exact W.gen N kp m ((P,d E (λ_ z=>nomatch z)),⟨(j,w,ag,d2,al,d A (λ_ z=>nomatch z),d M (λ_ z=>nomatch z),d S (λ_ z=>nomatch z))⟩,(ab,d X (λ_ z=>nomatch z),Q.keep t),(G,s _ _ an (Ne.symm v),Paired.imp' (λ_ _ q=>q.keep t) B,x),I) n λp R=>cU.but (W.tabs p R) (λps e=>d e λ_ z=>nomatch z) λb as e=>d e λ_ z=>nomatch z
def Kp.one(s:∀b o,H b=U o->b≠a->c b=U o)(h:a=y.d\/a=y.t):Kp y H c:=λb o e d _ _ i _ _=>s b o e (by grind)
def Ws.dv{d}{r}(W:Ws m C f T y d r g D F H)(N:Nd f y)(s:cz y.d H c):Ws m C f T y d r g D F c:=by
 obtain⟨a,b,l⟩:=W.di;obtain⟨h,ht,p,t⟩:=W.tb;have j:∀{b:jr}{o:HO},H b=U o->(∀i,o≠ .lst i)->c b=U o:=λ{b o}e n=>s.old b o e λz=>by grind
 exact W.lst N s.old l N.dl (.one s.old (.inl rfl)) s.dv (h,s.old _ _ ht (Ne.symm N.dt),Paired.imp' (λ_ _ q=>q.keep (λb i e=>j e λ_ z=>nomatch z) λ_ e=>j e λ_ z=>nomatch z) p,t)
def MQ{c d}{G}{e}{bs}{a:c}{b:d}(h:Paired G e bs)(k:G a b):Paired G (e++[a]) (bs++[b]):=by
 induction h with
 |nil=>exact .cons k .nil
 |cons a r i=>exact .cons a i
def Ws.push(W:Ws f C d T y i r g D F H)(N:Nd d y)(ht:H y.t=U (.lst (c.map V.ref)))(m:Paired (eI H) c F)(u:∀a∈c,a≠y.z.e)(l:eI H a j)(p:a≠y.z.e):Ws f C d T y i r g D (F++[j]) (upd H y.t (.lst (c.map V.ref++[.ref a]))):=by
 have s:∀b o,H b=U o->b≠y.t->(upd H y.t (.lst (c.map V.ref++[.ref a]))) b=U o:=λb o e h=>by rwa[AE h]
 have v:∀{b:jr}{o:HO},H b=U o->(∀x,o≠ .lst x)->(upd H y.t (.lst (c.map V.ref++[.ref a]))) b=U o:=λ{b o}e n=>s b o e λz=>by grind
 obtain⟨E,G,A⟩:=W.di;have w:∀{t:jr}{k:En},eI H t k->eI (upd H y.t (.lst (c.map V.ref++[.ref a]))) t k:=λq=>q.keep (λb x e=>v e λ_ z=>nomatch z) λ_ e=>v e λ_ z=>nomatch z;refine W.lst N s ht (Ne.symm N.lt) (.one s (.inr rfl)) (E,G,s _ _ A N.dt) (c++[a],by rw[bA,zm];rfl,MQ (Paired.imp' (λ_ _=>w) m) (w l),λb I=>?_)
 grind
def Ws.pop(W:Ws f C c T y m r g D (F++[x]) H)(N:Nd c y)(ht:H y.t=U (.lst ((d++[a]).map V.ref)))(u:Paired (eI H) d F)(v:∀a∈d,a≠y.z.e):Ws f C c T y m r g D F (upd H y.t (.lst (d.map V.ref))):=by
 have s:∀b o,H b=U o->b≠y.t->(upd H y.t (.lst (d.map V.ref))) b=U o:=λb o e h=>by rwa[AE h]
 have j:∀{b:jr}{o:HO},H b=U o->(∀i,o≠ .lst i)->(upd H y.t (.lst (d.map V.ref))) b=U o:=λ{b o}e n=>s b o e λz=>by grind
 obtain⟨t,p,l⟩:=W.di;exact W.lst N s ht (Ne.symm N.lt) (.one s (.inr rfl)) (t,p,s _ _ l N.dt) (d,bA,Paired.imp' (λ_ _ q=>q.keep (λb i e=>j e λ_ z=>nomatch z) λ_ e=>j e λ_ z=>nomatch z) u,v)
def Ws.tab(W:Ws m C f T y r al g D F H)(N:Nd f y)(un:∀q∈T,q.1=p.1->q=p)(X:p∈T)(s:Ky p.1 H c)(ht:cU c p.1 p.2.1 p.2.2):Ws m C f T y r al g D F c:=by
 obtain⟨i,h0,_⟩:=W.tabs p X;have d:∀{b:jr}{o:HO},H b=U o->(∀i,o≠ .fJ i)->c b=U o:=λ{b o}e n=>s b o (λz=>by grind) e;obtain⟨a,b,P⟩:=W.di;obtain⟨l,ar,an,I⟩:=W.tb;obtain⟨⟨R,G⟩,h2,⟨ag,h3,S⟩,⟨t,A,E,w⟩,u⟩:=W.B;obtain⟨h,M,o1,d2,o2,B,Q,ab⟩:=h2.ex;have j:∀b v,H b=U (.tup v)->c b=U (.tup v):=λb v e=>d e λ_ z=>nomatch z;refine W.gen N (λb o e _ _ _ _ n _=>d e n) (a,b,d P (λ_ z=>nomatch z)) ((R,d G (λ_ z=>nomatch z)),⟨(h,M,o1,d2,o2,d B (λ_ z=>nomatch z),d Q (λ_ z=>nomatch z),d ab (λ_ z=>nomatch z))⟩,(ag,d h3 (λ_ z=>nomatch z),S.keep j),(t,d A (λ_ z=>nomatch z),Paired.imp' (λ_ _ q=>q.keep j) E,w),u) (l,d ar (λ_ z=>nomatch z),Paired.imp' (λ_ _ q=>q.keep j λ_ e=>d e (λ_ z=>nomatch z)) an,I) λq x=>?_;by_cases z:q.1=p.1
 .rwa[un q x z]
 .exact cU.but (W.tabs q x) (λi e=>s _ _ z e) λb as e=>d e λ_ z=>nomatch z
def Ws.deed(W:Ws c C n T y m r g D F H)(N:Nd n y)(s:iq y.z H f)(B:dY c C y.z m r l v f):Ws c C n T y m r l v F f:=by
 obtain⟨a,b,u⟩:=W.di;obtain⟨h,ht,i,j⟩:=W.tb;obtain⟨d,w,_⟩:=W.B.en;refine W.gen N (λb o e _ A x _ _ _=>s b o e A x) (a,b,s _ _ u (λz=>by simp_all) N.dl) B (h,s _ _ ht (λz=>by simp_all) (Ne.symm N.lt),J7 i λa t k q=>q.keep (λb P e=>W.B.kp s e) λd e=>s _ _ e (j a t) λz=>?_,j) λp i=>cU.but (W.tabs p i) (λI e=>W.B.kp s e) λb M e=>W.B.kp s e;obtain⟨G,E,_⟩:=W.B.de
 simp_all
noncomputable def gV3(d e:jq):jq:=match d,e with| [a,b],[c]=>[a,b,c]|_,_=>[]
noncomputable def gU3(d e:jo):jo:=match d,e with| [a,b],[c]=>[a,b,c]|_,_=>[]
structure Ua(P:Program)(w:World)(K:FG)(mg:SV)(base:Heap)(C:jr):Prop where
 T:Gh K C
 cls:mg "Kind"=U (.ref C)
 make:∃f fd,Mk K C f/\bH P w K mg base cF 6 f fd [jt,mu,lR] (spInit C) /\
  ∃g,OU K fd [jt,mu,lR] [lR] g gV3
def LtN(n:Nv)(sg:List Nat):Prop:=∀c∈sg,Cm c=L/\Ai n.kvs (Sum.inr ⟨#[c]⟩)=U (.int (n.tb ⟨#[c]⟩:Nat))/\n.tb ⟨#[c]⟩<2^20
theorem Qa(D:C5 n.bG)(e:LtN n sg):∀{t:LT},t.Ok (n.bG.map (·.1)) sg->t.tr.Ok n
 |.nm x,h=>by
  obtain⟨p,d,rfl⟩:=zi.mp h;exact(QS D d).1.ok
 |.no m,h=>(MO (Nat.lt_trans h qc)).1.ok
 |.le c,h=>(MP (e c h).1 (e c h).2.1).ok
 |.ng t,h=>Qa D e (t:=t) h
 |.bn g a b,h=>(h.1,Qa D e h.2.1,Qa D e h.2.2)
def Zb{g:Sg}(d:a<2^20)(e:b<2^20):g.f a b<2^20:=by
 cases g<;>first|exact Nat.or_lt_two_pow d e|exact Nat.xor_lt_two_pow d e|exact Nat.lt_of_le_of_lt Nat.and_le_left d
theorem MR(D:C5 n.bG)(e:LtN n sg):∀{t:LT},t.Ok (n.bG.map (·.1)) sg->t.tr.d8 n<2^20
 |.nm x,h=>by
  show wv n x<2^20;rw[QX D h];obtain⟨p,d,rfl⟩:=zi.mp h;rw[DU D.nd d];exact D.lt p d
 |.no m,h=>by
  show wv n (HL m)<2^20
  rwa[UV h]
 |.le c,h=>by
  show wv n ⟨#[c]⟩<2^20;rw[(MP (e c h).1 (e c h).2.1).v];exact(e c h).2.2
 |.ng t,h=>Nat.lt_of_le_of_lt (Nat.sub_le _ _) (QE D.lt)
 |.bn g a b,h=>Zb (MR D e h.2.1) (MR D e h.2.2)
theorem HR:∀t:LT,t.tr.post.length+1<=2^(t.ht+1)
 |.nm x=>by show 1+1<=2^1;decide
 |.no n=>by show 1+1<=2^1;decide
 |.le n=>by show 1+1<=2^1;decide
 |.ng t=>by
  have:=HR t;show(t.tr.post++[_]).length+1<=2^(t.ht+1+1)
  grind
 |.bn g a b=>by
  have h:=HR a;have i:=HR b;show(a.tr.post++b.tr.post++[_]).length+1<=2^(max a.ht b.ht+1+1);rw[zG,zG,List.length_singleton];have e:2^(a.ht+1)<=2^(max a.ht b.ht+1):=Nat.pow_le_pow_right qc (by lia);have d:2^(b.ht+1)<=2^(max a.ht b.ht+1):=Nat.pow_le_pow_right qc (by lia)
  lia
def X3(g:Sg):g.s.length=1:=by cases g<;>decide +kernel
def X4(g:Sg):BD g.s=O:=by cases g<;>decide +kernel
structure PtW(sg:List Nat)(x:Str):Prop where
 l:x.length<=200
 m:BD x=L->∃c∈sg,x=⟨#[c]⟩
 s:BD x=L\/∀c∈x.cps.toList,Cm c=O
def WZ(h:c<97):Cm c=O:=by
 unfold Cm
 lia
theorem Iz{n:Nv}(D:C5 n.bG):∀{t:LT},t.Ok (n.bG.map (·.1)) sg->(∀c∈sg,Cm c=L)->∀x∈t.tr.post,PtW sg x
 |.nm y,h,e,x,d=>by
  obtain rfl:x=y:=zF.mp d;obtain⟨p,l,rfl⟩:=zi.mp h;obtain⟨w,q,o⟩:=QS D l;refine(by lia,λz=>(by simp_all),.inr λc i=>?_);have j:=(D.nm p l).1;unfold CM at j;simp only[Bool.and_eq_true]at j;have:=all_eq_true.mp j.2 c i;simp[Di]at this;exact WZ (by lia)
 |.no m,h,e,x,d=>by
  obtain rfl:x=HL m:=zF.mp d;obtain⟨w,o⟩:=MO (n:=n) (Nat.lt_trans h qc);have:=w.len;refine(by lia,λz=>(by simp_all),.inr λc i=>?_);rw[QT]at i;have:=all_eq_true.mp (PQ m) c i;simp[C9]at this;exact WZ (by lia)
 |.le c,h,e,x,d=>by
  obtain rfl:x=⟨#[c]⟩:=zF.mp d;exact((by show 1<=200;decide),λ_=>(c,h,Y),.inl (e c h))
 |.ng t,h,e,x,d=>by
  rcases mem_append.mp d with z|z
  .exact Iz D (t:=t) h e x z
  .obtain rfl:=zF.mp z;exact((by trivial),λz=>absurd z (by trivial),.inr (by trivial))
 |.bn g a b,h,e,x,d=>by
  rcases mem_append.mp d with z|z
  .rcases mem_append.mp z with z|z
   .exact Iz D h.2.1 e x z
   .exact Iz D h.2.2 e x z
  .obtain rfl:=zF.mp z;refine(by rw[X3];decide,λz=>(by rw[X4]at z;cases z),.inr ?_);cases g<;>decide +kernel
def Zc(h:Wr lt t r u)(k:∀x∈t.post,PtW sg x)(hc:Cm c=true):c∈u ↔ (⟨#[c]⟩:Str)∈t.post:=by
 have nc:∀d,Cm d=false->c≠d:=λd hd z=>by simp_all
 have nb:∀bl,Bk bl->c∉ bl:=λbl hb hm=>by
  rcases hb with rfl|rfl
  .cases hm
  .exact nc 32 zd (by simp_all)
 induction h with
 |wd x r bl hb h=>
  have hx:=k x (zF.mpr rfl);show c∈bl++x.cps.toList ↔ _∈ [x];rw[mem_append];refine(λz=>?_,λz=>.inr (by grind));rcases z with z|z
  .grind
  .rcases hx.s with hl|hn
   .obtain⟨d,_,e⟩:=hx.m hl
    simp_all
   simp_all
 |ng t r u hr h ih=>
  show c∈126::u ↔ _∈t.post++[("~":Str)];rw[mem_cons,mem_append,zF,(show c∈u ↔ (⟨#[c]⟩)∈t.post from ih λx hx=>k x (zO _ hx))];refine(λz=>z.elim (λz=>absurd z (nc 126 zd)) .inl,λz=>z.elim .inr λz=>?_);have:=congrArg (λy=>y.cps.toList) z;injection this with this
  exact absurd this (nc 126 zd)
 |bn g a b r u v bl hg hr hb ha hv iha ihb=>
  show c∈u++(bl++(g.c::v)) ↔ _∈a.post++b.post++[g.s];have ng:c≠g.c:=nc _ (by cases g<;>rfl)
  have ng2:(⟨#[c]⟩)≠g.s:=λz=>by
   rw[←MH]at z
   simp_all
  simp[mem_append,mem_cons,not_mem_nil,iha (λx hx=>k x (zO _ (by simp[*]))),ihb (λx hx=>k x (zO _ (by simp[*])))];refine(λz=>?_,λz=>?_)
  .grind
  grind
 |br t r u bl hb h ih=>
  rw[←(show c∈u ↔ (⟨#[c]⟩)∈t.post from ih k)];simp;refine(λz=>?_,λz=>.inr (.inr (.inl z)));rcases z with z|z|z|z
  .grind
  .exact absurd z (nc 40 zd)
  .exact z
  .exact absurd z (nc 41 zd)
def Ub{l:Aa}{p}(o:(l.map (·.1)).Nodup)(h:l[j]?=U p):p.1∉ (l.take j).map (·.1):=λr=>by
 obtain⟨q,t,e⟩:=zi.mp r;obtain⟨i,d⟩:=List.getElem?_of_mem t;rw[List.getElem?_take]at d;split at d
 .rename_i a;obtain⟨x,v⟩:=z8.mp d;obtain⟨y,u⟩:=z8.mp h;apply (List.pairwise_iff_getElem.mp o) i j (by simp_all) (by simp_all) a
  simp_all
 trivial
def X5(h:∀x∈T,PtW sg x)(a:T.length<64):UO T:=(by lia,Nat.lt_of_le_of_lt (by grind) a,λx d=>(h x d).l)
noncomputable def hZ:List Pos:=[(570,26,570,80),(572,32,572,87),(573,36,573,93),(574,36,574,74),(575,36,575,74),(579,26,579,88),(582,26,582,83),(585,26,585,64),(590,26,590,64),(593,30,593,64),(595,26,595,60)]
noncomputable abbrev q2:Str:="_law_step.<locals>." ++ jy
inductive Dq(c:FG)(H:Hp)(a b:V):Prop
 |mk d(e:Ba c H d a)(f:Ba c H d b)(g:SeqAt.shaped d=L)(h:PyData.eqv d d=L)
structure jh(P:Program)(w:World)(K:FG)(mg:SV)(base:Heap)(ec:Nat->jr)(cM:jr):Prop where
 fn:∃f fd,cC K jB jB A7 f fd/\mg jB=U (.ref f)/\Binds K fd [jV] []
 M:Ru mg ec
 EX:T9 K mg ec cM
 GW:FnS P w K mg base kJ 1 [jY] (Ea K ec)
def R5(c)(a:X.K=c):cH X (.type jN) (λd H Q=>∃p b,d=[.ref p]/\((bZ c H p b/\∀l,H l=J->Q (.ref l) (upd H l (.tup b)))\/(cD c H p b/\Q (.ref p) H))):=a ▸ Fg
def jh.at(B:jh P w j i b o n)(a:W.CodeHd b c m)(d:b.BuiltinsAt i m)(h:(ls.all λl=>ls.all λq=>decide (q=l) || !(q.line==l.line&&q.col==l.col))=L)(e:(Bf cF P w j i b N q sc f (.ref c) A outer s H E).gX.env.qual ++ jy=qq:=by rfl)(g:Gl (Bf cF P w j i b N q sc f (.ref c) A outer s H E).gX jB:=by rfl):WE (Bf cF P w j i b N q sc f (.ref c) A outer s H E).gX j qq o n c m ls:=(B.fn,B.M,B.EX,B.GW,(rfl,a,d),h,g,rfl,e)
def PV(h:H b=U (.tup [.str x,.str y])):Ba a H (.tuple [.str x,.str y]) (.ref b):=by
 refine(b,_,Y,cD.of h,?_);refine(_,_,Y,by rw[Ba],(_,_,Y,by rw[Ba],?_));rw[Bd]
def Dq.bQ:Dq a H .bQ .bQ:=(.none,by rw[Ba],by rw[Ba],by rfl,EY)
def Qb(x y):PyData.eqv (.tuple [.str x,.str y]) (.tuple [.str x,.str y])=L:=EW λd a=>by
 simp at a;rcases a with rfl|rfl<;>exact Bo _
def Dq.two(d:H a=U (.tup [.str jE,.str x]))(e:H b=U (.tup [.str jE,.str x]))(c:SeqAt.shaped (.tuple [.str jE,.str x])=L):Dq f H (.ref a) (.ref b):=(_,PV d,PV e,c,Qb _ _)
def MS(d)(a):gB ((d++[a]).map V.ref) (-1)=U (V.ref a):=by
 unfold gB gY;rw[AO,zG,zh qc,zg (by simp;lia)];show((d++[a]).map V.ref)[((-1:Int)+((d.length+1:Nat))).toNat]?=_;rw[show((-1:Int)+((d.length+1:Nat))).toNat=d.length by lia];simp
def Kt(H a:Hp):Prop:=∀b o,H b=U o->(∀c,o≠ .fJ c)->a b=U o
def Kt.kp(s:Kt H a):Kp y H a:=λb o e _ _ _ _ n _=>s b o e n
def iq.kp(s:iq y.z H c):Kp y H c:=λb o e _ a d _ _ _=>s b o e a d
def Ws.td(W:Ws l C i T y m r g D F H)(N:Nd i y)(a:(c,q,(j))∈T)(un:∀p∈T,p.1=c->p=(c,q,(j)))(s:Ky c H f)(t:cU f c q j):Kt H f/\Ws l C i T y m r g D F f:=by
 obtain⟨d,h,_⟩:=W.tabs _ a;exact(λb o e n=>s b o (λz=>by grind) e,W.tab N un a s t)
def Ws.dn(W:Ws b C f T y c r g D F H)(N:Nd f y)(q:∀a,Kp y H a->Ws b C f T y c r e h F a->Q .bQ a):N8 b C y.z c r e h H Q:=λa d B=>q a d.kp (W.deed N d B)
def Ws.uq(W:Ws c C b T y e r g D F H)(N:Nd b y)(EP:FP l i f d j)(q:∀p a,Nx H a->Ws c C b T y e r g D F a->a p=U (.tup [.str jE,.str (wd j)])->Q (.ref p) a):Uq H (Ei l i f Q) d:=ZZ EP λp a nx h=>q p a nx (W.nx N nx) h
def J8{b d}{G}{a:List b}{bs:List d}(h:Paired G a bs):a.length=bs.length:=by
 induction h with
 |nil=>rfl
 |cons _ _ e=>simp_all
def Ws.ze(W:Ws b C d T y c r g D F H)(h:H p=J):p≠y.z.e:=λz=>by
 obtain⟨_,a,_⟩:=W.B.en
 simp_all
theorem OG:∀{a b:List jr},a.map V.ref=b.map V.ref->a=b
 | [],[],_=>rfl
 |x::a,y::b,h=>by
  simp at h;rw[h.1,OG h.2]
 | [],_::_,h=>by cases h
 |_::_,[],h=>by cases h
def Ws.at(W:Ws c C m T y f r g D (F++[l]) H)(h:H y.t=U (.lst ((d++[a]).map V.ref))):Paired (eI H) d F/\eI H a l/\a≠y.z.e/\∀b∈d,b≠y.z.e:=by
 obtain⟨j,i,o,q⟩:=W.tb;rw[h]at i;cases OG (HO.lst.inj (Option.some.inj i));obtain⟨bs,b,e,p,t⟩:=B3 o
 simp_all
def Ws.gv(W:Ws n C m T y s r g D F H)(N:Nd m y)(a:bD H c)(u:H p=J)(ht:eI c p t)(l:F.length<200):∃f,c y.t=U (.lst f)/\f.length<sizeLine/\(∀b o,H b=U o->b≠y.t->(upd c y.t (.lst (f++[.ref p]))) b=U o)/\Ws n C m T y s r g D (F++[t]) (upd c y.t (.lst (f++[.ref p]))):=by
 have d:=W.same N a;obtain⟨j,h,i,q⟩:=d.tb;exact(_,h,by rw[AO,J8 i];exact zZ l qc,λb o e v=>by rw[AE v];exact a _ _ e,d.push N h i q ht (W.ze u))
def Ws.own{i}{r}(W:Ws f C l T y i r g D F H)(ha:H a=U (.lst c))(M:a≠y.d)(I:a≠y.z.l)(n3:a≠y.t)(n4:a≠y.u):Ws f C l T y i r g D F (upd H a o):=by
 have s:∀b t,H b=U t->b≠a->(upd H a o) b=U t:=λb t e h=>by rwa[AE h]
 have d:∀{b:jr}{u:HO},H b=U u->(∀c,u≠ .lst c)->(upd H a o) b=U u:=λ{b u}e ar=>s b u e λz=>by grind
 generalize upd H a o=m at s d;have j:∀b c,H b=U (.tup c)->m b=U (.tup c):=λb c e=>d e λ_ z=>nomatch z;obtain⟨⟨w,n⟩,h2,⟨ks,h3,X⟩,⟨N,B,G,R⟩,v⟩:=W.B;obtain⟨ab,Q,o1,d2,o2,E,S,c'⟩:=h2.ex;obtain⟨x1,P,x⟩:=W.di;obtain⟨al,ht,A,p⟩:=W.tb;obtain⟨bs,hu,an⟩:=W.du;refine((x1,P,s _ _ x (Ne.symm M)),((w,d n (λ_ z=>nomatch z)),⟨(ab,Q,o1,d2,o2,d E (λ_ z=>nomatch z),d S (λ_ z=>nomatch z),d c' (λ_ z=>nomatch z))⟩,(ks,d h3 (λ_ z=>nomatch z),X.keep j),(N,s _ _ B (Ne.symm I),Paired.imp' (λ_ _ q=>q.keep j) G,R),v),(al,s _ _ ht (Ne.symm n3),Paired.imp' (λ_ _ q=>q.keep j λ_ e=>d e (λ_ z=>nomatch z)) A,p),(bs,s _ _ hu (Ne.symm n4),bV.cS j an),?_,λag A=>cU.but (W.tabs ag A) (λps e=>d e λ_ z=>nomatch z) λb as e=>d e λ_ z=>nomatch z);rcases W.hb with h|⟨o,h⟩
 .exact .inl (d h (λ_ z=>nomatch z))
 .exact .inr (o,d h (λ_ z=>nomatch z))
noncomputable abbrev eX(x:Str):HO:=.tup [.str jE,.str x]
structure Rf(BC C bd:jr)(T:List (jr×Str×List Pos))(y:Zw)(bG:Aa)(r:Str)(g:En)(D:iC)(F:List En)(H0:Hp)(l:jr)(as:List jr)(H:Hp):Prop where
 W:Ws BC C bd T y bG r g D F H
 n1:l≠y.d
 n2:l≠y.z.l
 n3:l≠y.t
 n4:l≠y.u
 nw:∀o,H0 l=U o->(∀ps,o≠ .fJ ps)->(∀φ,o≠ .ext φ)->l=y.z.e
 kp:Kp y H0 H
 h:H l=U (.lst (as.map V.ref))
 ts:∀b∈as,H b=U (eX jD)
def Rf.newL(W:Ws f C c T y n r g D F H)(N:Nd c y)(kp:Kp y m H)(i:H l=J)(t:∀b∈d,H b=U (eX jD)):Rf f C c T y n r g D F m l d (upd H l (.lst (d.map V.ref))):=by
 have a:∀{b:jr}{o:HO},H b=U o->l≠b:=λ{b o}e z=>by simp_all
 have s:=AD (bD.refl H) i (o:=HO.lst (d.map V.ref));obtain⟨B,A,h⟩:=W.di;obtain⟨p,ht,_⟩:=W.tb;obtain⟨bs,x,_⟩:=W.du;obtain⟨_,j,_⟩:=W.B.de;refine(W.same N s,a h,a j,a ht,a x,λo e q v=>Classical.byContradiction λz=>?_,kp.trans (.nx (.same s)),bA,λb u=>s _ _ (t b u));have:=kp l o e (a h) z (a j) (a ht) q v;rw[i]at this;cases this
def Rf.new(W:Ws f C c T y j r g D F H)(N:Nd c y)(kp:Kp y i H)(d:H l=J)(a:H p=U (eX jD)):Rf f C c T y j r g D F i l [p] (upd H l (.lst [.ref p])):=.newL W N kp d λb e=>by cases zF.mp e;exact a
def Rf.more(R:Rf m C w T y s r g D F A l f H)(k:Kt H B)(n:Nx B c)(v:Ws m C w T y s r g D F c)(x:c p=U (eX jD)):c l=U (.lst (f.map V.ref))/\Rf m C w T y s r g D F A l (f++[p]) (upd c l (.lst (f.map V.ref++[.ref p]))):=by
 have i:=n _ _ (k _ _ R.h λ_ z=>nomatch z) λ_ _ z=>nomatch z;refine(i,v.own i R.n1 R.n2 R.n3 R.n4,R.n1,R.n2,R.n3,R.n4,R.nw,λb o e t a j q d h=>?_,by rw[bA,zm];rfl,λb u=>?_)
 .by_cases z:b=l
  .subst z;exact absurd (R.nw o e d h) a
  .rw[AE z];exact((R.kp.trans k.kp).trans (.nx n)) b o e t a j q d h
 .have e:c b=U (eX jD):=by
   rcases mem_append.mp u with z|z
   .exact n _ _ (k _ _ (R.ts b z) λ_ z=>nomatch z) λ_ _ z=>nomatch z
   .simp_all
  rwa[AE (λz=>by simp_all)]
theorem J9:∀{d:List jr},(∀b∈d,H b=U (eX jD))->Bd c H (List.replicate d.length (.tuple [.str jE,.str jD])) (d.map V.ref)
 | [],_=>by
  show Bd c H [] [];rw[Bd]
 |a::d,h=>by
  exact(_,_,Y,PV (h a (zH ..)),J9 λb e=>h b (zQ _ e))
def Dq.rep{H:L2.Hp}{a as':List jr}(j:H l=U (.lst (a.map V.ref)))(o:H i=U (.lst (as'.map V.ref)))(e:a.length=as'.length)(p:∀b∈a,H b=U (eX jD))(t2:∀b∈as',H b=U (eX jD)):Dq c H (.ref l) (.ref i):=by
 refine(.list (List.replicate a.length (.tuple [.str jE,.str jD])),?_,?_,FJ λd h=>?_,Fl λd h=>?_)
 .exact(l,_,Y,bZ.of j,J9 p)
 .rw[e];exact(i,_,Y,bZ.of o,J9 t2)
 .rw[(mem_replicate.mp h).2];exact(qd,qc)
 .rw[(mem_replicate.mp h).2];exact Qb _ _
def Rf.app(R:Rf w C f T y Q r g D F M l P H)(N:Nd f y)(j:(c,q,(S))∈T)(un:∀p∈T,p.1=c->p=(c,q,(S)))(d:FP b n m X 5)(e:s[i]?=U (U (.ref l)))(ab:P.length<=1000)(B:∀a h,Ws w C f T y Q r g D F a->Kp y M a->Uq a (Ei b n m h) X->z (Ei b n m h) (Rv ix s) a h)(k:∀q t,Rf w C f T y Q r g D F M l (P++[q]) t->E.nx s t):SA (tBM b jH Ir (Ij i) (AY (Nt b n m c q S ix z) BS)) E s H:=by
 refine(_,e,.inl (Y,_,bZ.of R.h),R.W.tabs _ j,λa v G=>?_);obtain⟨u,o⟩:=R.W.td N j un v G;refine B a _ o (R.kp.trans u.kp) (o.uq N d λq ag nb A I=>?_);obtain⟨x,R2⟩:=R.more u nb A I;exact(l,_,_,Y,Y,x,AQ (by rwa[AO]),k q _ R2)
def MU(a b:Nat):(a)-Builtin.bitAnd (a) (b)=((a-(a&&&b):Nat):Int):=by
 rw[C7,Int.ofNat_sub Nat.and_le_left]
def Ch.gv(h:Ch b r F D g)(a:x∈ff)(ok:iF b r g):Ch b r (F++[gk g x n]) (D++[(x,(g x))]) (gk g x n):=.snoc F D g _ x h a (λy d=>by unfold gk FU;simp_all) (λ_=>by unfold gk FU;simp_all) ok
def Ch.take{a}{r}(h:Ch a r (F++[l]) D g):(D=[]/\F=[])\/∃i d x,D=i++[(x,(d x))]/\Ch a r F i d/\x∈ff/\FU g x (d x)=d/\(d x=J->g x≠J)/\iF a r d:=by
 generalize e:F++[l]=b at h;cases h with
 |nil=>exact .inl (rfl,(append_inj' (e.trans (nil_append _).symm) rfl).1)
 |snoc q o g2 _ x h j p n ok=>
  obtain⟨rfl,_⟩:=append_inj' e rfl;refine .inr (o,g2,x,Y,h,j,?_,n,ok);funext y;unfold FU
  simp_all
def Ch.drop(h:Ch b r F D g)(a:x∈ff)(ok:iF b r g)(d:g x≠J):Ch b r (F++[FU g x J]) (D++[(x,(g x))]) (FU g x J):=.snoc F D g _ x h a (λy e=>by unfold FU;simp_all) (λz=>absurd z d) ok
inductive spLr(e:FG)(d C c:jr)(T:List (jr×Str×List Pos))(f:jq)(H:Hp)(Q:VK)(h:XK):Prop
 |mk y bG r g D F x(o:f=[.ref y.d,.ref y.z.b,.ref y.t,.ref y.u,.str r,.str x])(p:Ws d C c T y bG r g D F H)(s:Nd c y)(n:Ch bG r F D g)(t:D.length<99)(u:C5 bG)(w:0<bG.length)(v:r∈c9)(A:x∈ff)
  (z:∀q a b m j l i,i q=U (.tup [a,b])->Dq e i a b->Ws d C c T y bG r m j l i->Ch bG r l j m->Kp y H i->j.length<=D.length+1->Q (.ref q) i)
inductive spLs(e:FG)(d C c:jr)(T:List (jr×Str×List Pos))(f:jq)(H:Hp)(Q:VK)(h:XK):Prop
 |mk y bG r g D F(o:f=[.ref y.d,.ref y.z.b,.ref y.t,.ref y.u,.str r])(p:Ws d C c T y bG r g D F H)(s:Nd c y)(n:Ch bG r F D g)(t:D.length<99)(u:C5 bG)(w:0<bG.length)(v:r∈c9)
  (x:∀q a b m j l i,i q=U (.tup [a,b])->Dq e i a b->Ws d C c T y bG r m j l i->Ch bG r l j m->Kp y H i->j.length<=D.length+1->Q (.ref q) i)
noncomputable abbrev NLs:jm:=[jv,ju,lj,jW,kG,jS,"_law_own",jG,"_law_kind",kA,jM,"_law_is_there","_law_deeds","_law_fewer"]
noncomputable abbrev pLs:jm:=[jv,ju,lj,jW,kG]
def scLs:AH NLs pLs (defScope DS):=cY
def sLs(y:Zw)(r x:Str)(a o:jr)(i:Int)(l:jr)(n:Nat)(b:Bool):St:=[U (.ref y.d),U (.ref y.z.b),U (.ref y.t),U (.ref y.u),U (.str r),U (.ref a),U (.ref o),U (.str x),U (.int i),U (.ref l),U (.int (n:Int)),U (.bl b),J,J]
def Zd(F:gF c ko ko DS a9 fd a8)(hC:W.CodeHd i a8 P0)(bM:i.BuiltinsAt d P0)(TB:jh P w c d i ec cM)(X:(P0,q2,(hZ))∈a5)(un:∀az∈a5,az.1=P0->az=(P0,q2,(hZ)))(be:Bl d)(mD:d kg=f8)(BT:DA c f)(iM:FP c ec cM cB 5)(bx:FP c ec cM cN 10)
  (GT:Fn P w c d i lQ 2 [jW] spTable) (bF:Fn P w c d i ni 3 [jv] spLwo) (bE:Fn P w c d i j7 2 [jv,j6] spRollB) (bz:Fn P w c d i n6 3 [jv,jW,j5] spLn') (a4:Fn P w c d i nk 1 [jS,jG,jM] spLgv)
  (bB:B6 P w c d i f "put" 7 [jt,jx,jZ] (spPu f an cB)) (bg:B6 P w c d i f "mark" 7 [jt,jx,"more"] (spMr gOr f an cB)) (bj:B6 P w c d i f "unmark" 7 [jt,jx,"less"] (spMr LM f an cB)) (bi:B6 P w c d i f "turn" 7 [jt,jx] (spTn f an cB)) (bf:B6 P w c d i f oo 4 [jt,jx] (spDr f an cB)) (bh:B6 P w c d i f "take_back" 3 [jt] (spTk f an cN))
  (bC:Fn P w c d i jQ 11 [jv,ju,lj,jW,kG,jG] (spLr c f an bd a5)):bH P w c d i cF 12 a9 fd pLs (spLs c f an bd a5):=by
 refine F.ok scLs (λvs aM bk E h=>?_) (λbc bu bv aM vs bk E v h=>?_)
 .obtain⟨_,_,_,_,_,_,rfl⟩:=h;rfl
 .have nd:=scLs.nd;have hu:=Bs v;have TD:=TB.at (N:=NLs) (qq:=q2) (q:=ko) (sc:=defScope DS) (f:=a9) (A:=bc) (outer:=bu) (s:=bv) (H:=aM) (E:=E) hC bM (ls:=hZ) (by rfl);have T:bJ (8+2) _:=v.mono qc
  refine(_,AB (Bg (hs:=by rfl) (hw:=by rfl) (Ab (AA (Am (Al c Y) (Z 2) (DW Dc AF) (λ_ _=>rfl)) (cW (dm GT v (cZ (Z 3))) (dm bF v (cZ (Z 0)))))) (BN Y (AT (BH 5 nd) (AT (BH 6 nd) (AT (BH 7 nd) A3)))))
   (AB (A5 8 nd (dm bE v (cW (Z 0) AF)))
   (AB (Bg (dm bz v (AA (Z 0) (cW (Z 3) AF))) (BN rfl (AT (BH 9 nd) (AT (BH 10 nd) A3))))
   (An (A5 11 nd (LL (Ft hu (Z 7) (Z 5))))
   (AB (AU (AL Ff (Z 8) AF (AN _)) (AB (AV (Aw (Z 2) (cZ (dm a4 v (AA (Z 5) (cW (Z 7) (Z 10)))))))
     (AC (AJ (Ab (cW (B7 TD T 0 [ju,jG,kA] [1,7,9] (λlf c' A' ag s' n E v=>BZ (Z 0) BT.cl bB v BJ (cW (Z 1) (Z 2)))) B9))))) AM)
    (AB (AU (PW.pt (CV (AL Ff (Z 8) AF (AN _)) (Bj (Ar (Ak (Z 11))))))
     (AB (A5 12 nd (As (cZ (B7 TD T 1 [ju,jG,kA] [1,7,9] (λlf c' A' ag s' n E v=>BZ (Z 0) BT.cl bg v BJ (cW (Z 1) (Z 2)))))))
     (AB (AV (Aw (Z 12) (cZ (B7 TD T 2 [ju,jG,kA] [1,7,9] (λlf c' A' ag s' n E v=>BZ (Z 0) BT.cl bj v BJ (cW (Z 1) (Z 2)))))))
     (AB (AV (Aw (Z 12) (cZ (B7 TD T 3 [ju,jG] [1,7] (λlf c' A' ag s' n E v=>BZ (Z 0) BT.cl bi v BJ (cZ (Z 1)))))))
     (AB (AV (Aw (Z 12) (cZ (B7 TD T 4 [ju,jG] [1,7] (λlf c' A' ag s' n E v=>BZ (Z 0) BT.cl bf v BJ (cZ (Z 1)))))))
     (AC (AJ (Ab (cW (Z 12) (AX (Lm c rfl) (As (cZ (Ab (cW AI AI)))) AF))))))))) AM)
    (AB (AU (AL Ao (Z 8) AF (AN _)) (AB (AV (Aw (Z 2) (cZ (dm a4 v (AA (Z 5) (cW (Z 7) (AX JD (Am (Ad c rfl) (Au hu (Z 5) (Z 7) (λ_ _=>rfl)) AF (λ_ _=>rfl)) (Z 10)))))))) (AC (AJ (Ab (cW (B7 TD T 5 [ju,jG,kA] [1,7,9] (λlf c' A' ag s' n E v=>BZ (Z 0) BT.cl bg v BJ (cW (Z 1) (BF (R5 c rfl) rfl be.tuple Cy (cZ (Z 2)))))) B9))))) AM)
    (AB (AU (AL Ao (Z 8) AF (AN _)) (AB (AV (Aw (Z 2) (cZ (dm a4 v (AA (Z 5) (cW (Z 7) (AX CZ (Am (Ad c rfl) (Au hu (Z 5) (Z 7) (λ_ _=>rfl)) AF (λ_ _=>rfl)) (AX Ca (Am (Ad c rfl) (Au hu (Z 5) (Z 7) (λ_ _=>rfl)) AF (λ_ _=>rfl)) (Z 10))))))))) (AC (AJ (Ab (cW (B7 TD T 6 [ju,jG,kA] [1,7,9] (λlf c' A' ag s' n E v=>BZ (Z 0) BT.cl bj v BJ (cW (Z 1) (Z 2)))) B9))))) AM)
    (AB (AU (AL Ao (Z 8) AF (AN _)) (AB (AV (Aw (Z 2) (cZ (dm a4 v (AA (Z 5) (cW (Z 7) (AX CZ (Au hu (Z 6) AI (λ_ _=>rfl)) (AX Ca (Au hu (Z 6) AI (λ_ _=>rfl)) (Am (Ad c rfl) (Au hu (Z 5) (Z 7) (λ_ _=>rfl)) AF (λ_ _=>rfl)))))))))) (AC (AJ (Ab (cW (B7 TD T 7 [ju,jG] [1,7] (λlf c' A' ag s' n E v=>BZ (Z 0) BT.cl bi v BJ (cZ (Z 1)))) B9))))) AM)
    (AB (AU (AL Ao (Z 8) AF (AN _)) (AB (A5 13 nd (BF Ja rfl mD MM (cZ (Z 5)))) (AB (AV (JJ (Z 13) (Z 7) (rfl,rfl,rfl,rfl))) (AB (AV (Aw (Z 2) (cZ (Z 13)))) (AC (AJ (Ab (cW (B7 TD T 8 [ju,jG] [1,7] (λlf c' A' ag s' n E v=>BZ (Z 0) BT.cl bf v BJ (cZ (Z 1)))) B9))))))) AM)
    (AB (AU (AL Ao (Z 8) AF (AN _)) (AB (AU (AL Ao (AR (A1 c rfl) rfl be.len PySem.boot_len (cZ (Z 2))) AF (AN _)) (AC (AJ (Ab (cW (B7 TD T 9 [ju] [1] (λlf c' A' ag s' n E v=>WY (Z 0) BT.cl bh v BJ)) (Ab (cW AI AI)))))) AM) (AB (AV (Fq plainAttrs_list slot_list_pop type_list_pop Hg (Z 2))) (AC (AJ (Ab (cW (B7 TD T 10 [ju] [1] (λlf c' A' ag s' n E v=>WY (Z 0) BT.cl bh v BJ)) B9)))))) AM)
    (AC (AJ (dm bC v (AA (Z 0) (AA (Z 1) (AA (Z 2) (AA (Z 3) (cW (Z 4) (Z 7))))))))))))))))))),?_)
  refine ez λN m=>?_;obtain⟨y,j,r,g,D,Fs,rfl,W,t,ch,hD,dk,iQ,bQ,az⟩:=h;obtain⟨gU,ht,q,hn⟩:=W.tb;obtain⟨⟨F0,eF⟩,lF⟩:=ch.last;obtain⟨bs,bU,bW⟩:=W.du;subst eF;obtain⟨ts,a,rfl,bo,ha⟩:=B3 q;refine(_,Y,_,Y,(y.t,_,-1,.ref a,Y,Y,bZ.of ht,MS _ _,_,Y,(y.u,bs,j,Y,bU,bW,dk.len,dk.lt,λo e b6 ms H1 s1 h1 h2 h3 h4=>?_)));have W1:=W.same t s1;obtain⟨a0,b0,iJ⟩:=W1.di;refine(_,Y,(y.d,a0,b0,Y,iJ,λx H2 s2 B=>(by show 3<=sizeLine;decide,λp bp=>?_)));have W2:=W1.dv t s2;have s3:=AD (bD.refl H2) bp (o:=HO.tup [.ref a,.ref o,.str x]);refine(p,_,Y,cD.of bA,Y,_,_,Y,_,_,Y,_,_,Y,Y,?_);refine(d3 m (ez λN m=>?_):N _ _);generalize upd H2 p (HO.tup [.ref a,.ref o,.str x])=H3 at s3;have W3:=W2.same t s3;obtain⟨a1,b1,ja⟩:=W3.di;refine(_,Y,(y.d,a1,b1,8,Y,ja,qc,by trivial,λar a' b' i0 i8=>?_));refine(d3 m (ez λN m=>?_):N _ _);have s4:cz y.d H3 (upd H3 y.d (.lst [.int a',.int b'])):=(λb o e h=>by rw[AE h];exact e,(a',b',bA));generalize upd H3 y.d (.lst [.int a',.int b'])=H4 at s4;have W4:=W3.dv t s4;obtain⟨a2,b2,iy⟩:=W4.di;obtain⟨bK,bX,bR⟩:=W4.du;refine(_,Y,_,Y,(y.d,y.u,4,a2,b2,bK,j,Y,iy,bX,bR,iQ,dk,qc,t.ud,λS as ns H5 s5 b9 hq hl Nm=>?_));refine(S,_,Y,cD.of hq,Y,_,_,Y,_,_,Y,Y,?_);have C:=W4.dv t s5;have al:Kp y aM H5:=((((Kp.nx (.same s1)).trans (.one s2.old (.inl rfl))).trans (.nx (.same s3))).trans (.one s4.old (.inl rfl))).trans (.one s5.old (.inl rfl));have ol:∀b u,aM b=U u->b≠y.d->H5 b=U u:=λb u e hb=>s5.old _ _ (s4.old _ _ (s3 _ _ (s2.old _ _ (s1 _ _ e) hb)) hb) hb;have ab:=ol _ _ ht (Ne.symm t.dt)
  have bm:H5 o=U (.dK (Tz j e b6)):=by
   have ba:o≠y.d:=λz=>by simp_all
   exact s5.old _ _ (s4.old _ _ (s3 _ _ (s2.old _ _ h1 ba)) ba) ba
  have b4:∀b u,H4 b=U u->as≠b:=λb u e z=>by simp_all
  obtain⟨_,⟨G,hk,EK⟩,b8,_⟩:=C.at ab
  have bL:(Ai G (Sum.inr x)).isSome=(g x).isSome:=by
   cases e:g x with
   |none=>rw[EK.no e];rfl
   |some z=>
    obtain⟨t',h1,_⟩:=EK.vl x z.1 z.2 e
    simp_all
  refine(d3 m ?_:N _ _);refine(λbw n=>n=H5/\bw=sLs y r x a o ar as (Ah (ns.map (look j))) (g x).isSome,λb7 hR=>(_,Y,_,Y,a,_,Y,.inl (_,Sum.inr x,.inl hk,Y,Y),by rw[bL];exact hR _ _ (Y,Y)),?_);intro bw n h;refine ez λN m=>?_;obtain⟨rfl,rfl⟩:=h
  have lt:as≠y.t:=by
   obtain⟨_,h,_⟩:=W4.tb;exact b4 _ _ h
  have kl:kn j<2^20:=Ey λbt hn=>by
   obtain⟨p,q,rfl⟩:=zi.mp hn;exact dk.lt p q
  have bl:Asc j:=λp q=>(dk.nm p q).2.1;have hF:(F0++[g]).length<200:=by rw[lF];lia
  have a6:eI n a g:=(G,hk,EK)
  have aR:∀{g' D' F' A},Kp y aM A->Ws f an bd a5 y j r g' D' F' A->Ch j r F' D' g'->D'.length<=D.length+1->∀p,A p=f8->bk (.ref p) (upd A p (.tup [.bQ,.bQ])):=λ{g' D' F' A}k6 I c6 l6 p q=>by
   have sp:=AD (bD.refl A) q (o:=HO.tup [V.bQ,V.bQ]);exact az p .bQ .bQ g' D' F' _ bA .bQ (I.same t sp) c6 (k6.trans (.nx (.same sp))) l6
  have a3:∀b,(D++[(x,(b))]).length<=D.length+1:=λb=>by simp
  refine(_,Y,_,_,Y,Y,_,Y,BL (λh=>?_) (λh=>?_))
  .refine(_,rfl,.inl (rfl,_,bZ.of ab),_,rfl,_,rfl,_,rfl,(a,g,x,_,rfl,a6,B,λp H1 s1 q ht=>?_));obtain⟨xs,s,ln,H,I⟩:=C.gv t s1 q ht hF;refine(y.t,_,_,rfl,rfl,s,ln,I.tabs _ X,λQ M t7=>?_);obtain⟨R,l⟩:=I.td t X un M t7;exact(_,rfl,l.B.no (_,rfl,_,rfl,.mk y.z j r g D x as ns rfl l.B B (by lia) (R _ _ (H _ _ hl lt) (λ_ z=>nomatch z)) Nm (l.dn t λH8 k8 W8=>(by trivial,aR (((al.trans (.one H (.inr rfl))).trans R.kp).trans k8) W8 (ch.gv B W.B.ok) (a3 _)))))
  refine(d3 m (ez λN m=>?_):N _ _);have ig:¬ ar<2:=λz=>h (zK z);refine(_,Y,_,_,Y,Y,_,Y,?_);by_cases h6:ar<6
  .rw[zK h6];refine AZ (_,rfl,_,rfl,?_);cases hg:g x with
   |none=>
    refine AZ ?_;refine ez λaC eM=>?_;refine(C.tabs _ X,λA s6 t6=>?_);obtain⟨k6,I⟩:=C.td t X un s6 t6;refine(_,Y,I.B.no (_,Y,_,Y,.no y.z j r g D (.str x) _ Y I.B (.str x hg) (I.uq t iM λp1 Q n7 l e7=>(by show 1<=sizeLine;decide,λl1 bN=>?_))));refine(d3 eM (ez λaC eM=>?_):aC _ _);have R1:=Rf.new l t ((al.trans k6.kp).trans (.nx n7)) bN e7;generalize upd Q l1 (.lst [.ref p1])=H8 at R1;refine R1.app t X un iM Y (by simp) (λHa Q' Wa k u=>(_,Y,Wa.B.no (_,Y,_,Y,.no y.z j r g D (.str x) _ Y Wa.B (.str x hg) u))) λp2 H9 R2=>?_;refine(d3 eM (ez λaC eM=>?_):aC _ _);refine R2.app t X un iM Y (by simp) (λHa Q' Wa k u=>(_,Y,Wa.B.no (_,Y,.no y.z j r g D (.str x) Y Wa.B (.str x hg) u))) λp3 bG R3=>?_;refine(d3 eM (ez λaC eM=>?_):aC _ _);refine R3.app t X un iM Y (by simp) (λHa Q' Wa k u=>(_,Y,Wa.B.no (_,Y,.no y.z j r g D (.str x) Y Wa.B (.str x hg) u))) λp4 a7 R4=>?_;refine(d3 eM ?_:aC _ _);refine(_,Y,by trivial,λS iI=>(by show 1<=sizeLine;decide,λl5 i7=>(l5,_,4,Y,Y,bZ.of bA,qc,qc,λl6 iP=>(by show 2<=sizeLine;decide,λp6 gO=>?_))));have sa:=AD (bD.refl _) iI (o:=eX jD);have ha:(upd a7 S (eX jD)) S=U (eX jD):=bA;generalize upd a7 S (eX jD)=Ha at sa ha i7 iP gO;have sb:=AD (bD.refl _) i7 (o:=HO.lst [.ref S]);generalize upd Ha l5 (HO.lst [.ref S])=Hb at sb iP gO;have sc:=AD (bD.refl _) iP (o:=HO.lst (List.replicate (4:Int).toNat (.ref S)));have hc:(upd Hb l6 (HO.lst (List.replicate (4:Int).toNat (.ref S)))) l6=U (.lst (List.replicate (4:Int).toNat (.ref S))):=bA;generalize upd Hb l6 (HO.lst (List.replicate (4:Int).toNat (.ref S)))=Hc at sc hc gO;have sd:=AD (bD.refl _) gO (o:=HO.tup [.ref l1,.ref l6]);have br:(upd Hc p6 (HO.tup [.ref l1,.ref l6])) p6=U (.tup [.ref l1,.ref l6]):=bA;generalize upd Hc p6 (HO.tup [.ref l1,.ref l6])=Hd at sd br;have s4:bD a7 Hd:=λb o e=>sd _ _ (sc _ _ (sb _ _ (sa _ _ e)));have h5:=sd _ _ (sc _ _ (sb _ _ ha));exact az p6 _ _ g D _ Hd br (.rep (as':=List.replicate 4 S) (s4 _ _ R4.h) (sd _ _ hc) Y (λb hb=>s4 _ _ (R4.ts b hb)) λb hb=>(mem_replicate.mp hb).2 ▸ h5) (R4.W.same t s4) ch (R4.kp.trans (.nx (.same s4))) (Nat.le_succ _)
   |some z=>
    obtain⟨n0,c0⟩:=z;obtain⟨t',v1,v2⟩:=EK.vl x n0 c0 hg;refine AS ?_;refine(d3 m (ez λN m=>?_):N _ _);refine(_,Y,Y,_,Y,BL (λe2=>?_) (λe2=>?_))
    .refine(_,rfl,.inl (rfl,_,bZ.of ab),_,rfl,_,rfl,_,rfl,_,rfl,a,_,rfl,.inl (_,Sum.inr x,.inl hk,rfl,v1.symm),t',_,0,_,rfl,rfl,cD.of v2,rfl,_,rfl,_,_,rfl,rfl,(a,g,x,gOr n0 (Ah (ns.map (look j))),congrArg (λz=>[V.ref a,V.str x,V.int z]) (C2 _ _),a6,B,λp H1 s1 q ht=>?_));obtain⟨xs,s,ln,H,I⟩:=C.gv t s1 q ht hF;refine(y.t,_,_,rfl,rfl,s,ln,I.tabs _ X,λQ M t7=>?_);obtain⟨R,l⟩:=I.td t X un M t7;have bO:=R _ _ (H _ _ hl lt) (λ_ z=>nomatch z);have bb:=(al.trans (.one H (.inr rfl))).trans R.kp;refine(_,rfl,l.B.no (_,rfl,_,rfl,as,_,rfl,.inl (bZ.of bO,λtp bS=>?_)));have sp:=AD (bD.refl Q) bS (o:=HO.tup (ns.map V.str));have W8:=l.same t sp;exact .mk y.z j r g D x tp ns gl n0 c0 rfl W8.B B (by lia) bA Nm bl hg (W8.dn t λH9 k9 W9=>(by trivial,aR ((bb.trans (.nx (.same sp))).trans k9) W9 (ch.gv B W.B.ok) (a3 _)))
    refine(d3 m (ez λN m=>?_):N _ _);refine(_,Y,Y,_,Y,BL (λe3=>?_) (λe3=>?_))
    .refine(_,rfl,.inl (rfl,_,bZ.of ab),_,rfl,_,rfl,_,rfl,_,rfl,a,_,rfl,.inl (_,Sum.inr x,.inl hk,rfl,v1.symm),t',_,0,_,rfl,rfl,cD.of v2,rfl,_,rfl,_,rfl,a,_,rfl,.inl (_,Sum.inr x,.inl hk,rfl,v1.symm),t',_,0,_,rfl,rfl,cD.of v2,rfl,_,rfl,_,_,rfl,rfl,_,_,rfl,rfl,(a,g,x,LM n0 (Ah (ns.map (look j))),congrArg (λz=>[V.ref a,V.str x,V.int z]) (MU _ _),a6,B,λp H1 s1 q ht=>?_));obtain⟨xs,s,ln,H,I⟩:=C.gv t s1 q ht hF;refine(y.t,_,_,rfl,rfl,s,ln,I.tabs _ X,λQ M t7=>?_);obtain⟨R,l⟩:=I.td t X un M t7;have bb:=(al.trans (.one H (.inr rfl))).trans R.kp;exact(_,rfl,l.B.no (_,rfl,_,rfl,.mk y.z j r g D x as ns gt n0 c0 rfl l.B B (by lia) (R _ _ (H _ _ hl lt) (λ_ z=>nomatch z)) Nm bl hg (l.dn t λH9 k9 W9=>(by trivial,aR (bb.trans k9) W9 (ch.gv B W.B.ok) (a3 _)))))
    refine(d3 m (ez λN m=>?_):N _ _);refine(_,Y,Y,_,Y,BL (λe4=>?_) (λe4=>?_))
    .refine(_,Y,.inl (Y,_,bZ.of ab),_,Y,_,Y,_,Y,o,_,Y,.inl (_,Sum.inr kY,.inl bm,Y,(Ck _ _ _).symm),_,Y,o,_,Y,.inl (_,Sum.inr kY,.inl bm,Y,(Ck _ _ _).symm),_,Y,_,Y,a,_,Y,.inl (_,Sum.inr x,.inl hk,Y,v1.symm),t',_,0,_,Y,Y,cD.of v2,Y,_,_,Y,Y,_,_,Y,Y,(a,g,x,kn j-(kn j&&&n0),congrArg (λz=>[V.ref a,V.str x,V.int z]) (MU _ _),a6,B,λp H1 s1 q ht=>?_));obtain⟨xs,s,ln,H,I⟩:=C.gv t s1 q ht hF;refine(y.t,_,_,Y,Y,s,ln,I.tabs _ X,λQ M t7=>?_);obtain⟨R,l⟩:=I.td t X un M t7;exact(_,Y,l.B.no (_,Y,.mk y.z j r g D x n0 c0 Y l.B B (by lia) kl hg (l.dn t λH9 k9 W9=>(by trivial,aR (((al.trans (.one H (.inr Y))).trans R.kp).trans k9) W9 (ch.gv B W.B.ok) (a3 _)))))
    refine(d3 m (ez λN m=>?_):N _ _);refine(_,Y,Y,_,Y,BL (λe5=>?_) (λe5=>?_))
    .refine(_,Y,a,G,Y,.inl hk,λp q=>?_);have s6:=AD (bD.refl n) q (o:=HO.dK G);have u6:(upd n p (.dK G)) p=U (.dK G):=bA;generalize upd n p (.dK G)=A at s6 u6;refine(_,Y,p,Y,.inl (_,.inl u6),_,Y,G,Sum.inr x,_,u6,Y,v1,?_);have M:bD n (upd A p (.dK (Br G (Sum.inr x)))):=λb o e=>by rw[AE (AK e q)];exact s6 _ _ e
     have u7:(upd A p (.dK (Br G (Sum.inr x)))) p=U (.dK (Br G (Sum.inr x))):=bA;generalize upd A p (.dK (Br G (Sum.inr x)))=Q at M u7;obtain⟨xs,s,ln,o8,W8⟩:=C.gv t M q (_,u7,(EK.keep λb xs e=>M _ _ e).drop) hF;refine(_,Y,.inl (Y,_,bZ.of s),_,Y,y.t,_,_,Y,Y,s,ln,W8.tabs _ X,λH9 s9 t9=>?_);obtain⟨k9,W9⟩:=W8.td t X un s9 t9;exact(_,Y,W9.B.no (_,Y,.mk y.z j r g D x n0 c0 Y W9.B (by lia) hg (W9.dn t λbG b3 bI=>(by trivial,aR (((al.trans (.one o8 (.inr Y))).trans k9.kp).trans b3) bI (ch.drop B W.B.ok (by rw[hg];simp)) (a3 _)))))
    .have n2:ar≠2:=λz=>e2 (zK (congrArg V.int z));have n3:ar≠3:=λz=>e3 (zK (congrArg V.int z));have n4:ar≠4:=λz=>e4 (zK (congrArg V.int z));have n5:ar≠5:=λz=>e5 (zK (congrArg V.int z))
     lia
  .rw[zN h6]
   have no:∀k:Int,k<6->decide (V.int ar=V.int k)=gl->False:=λk hk z=>by
    have:=V.int.inj (zT z)
    lia
   refine AS (AS ?_)
   iterate 4
    refine(d3 m (ez λN m=>?_):N _ _);refine(_,Y,Y,_,Y,BL (λz=>(no _ qc z).elim) λ_=>?_)
   refine(d3 m (ez λN m=>?_):N _ _);refine(_,Y,Y,_,Y,BL (λ_=>?_) (λ_=>?_))
   .obtain⟨bq,_,_,bP⟩:=C.at ab;have b5:=J8 bq;refine(_,Y,y.t,_,Y,.inl (bZ.of ab),Y,_,Y,BL (λs=>?_) (λs=>?_))
    .have l1:(((ts++[a]).map V.ref).length:Int)=1:=V.int.inj (zT s);rw[AO,zG]at l1;rw[zG]at lF;have d0:D=[]:=List.eq_nil_of_length_eq_zero (by simp at l1 lF;lia);subst d0;refine(C.tabs _ X,λA s6 t6=>?_);obtain⟨k6,I⟩:=C.td t X un s6 t6;refine(_,Y,I.B.no (.no y.z j r g Y I.B (I.uq t bx λp1 Q n7 l e7=>(by trivial,λp2 bp=>(by show 2<=sizeLine;decide,λp3 bn=>?_)))));have sa:=AD (bD.refl _) bp (o:=eX lG);have ha:(upd Q p2 (eX lG)) p2=U (eX lG):=bA;generalize upd Q p2 (eX lG)=H8 at sa ha bn;have sb:=AD (bD.refl _) bn (o:=HO.tup [.ref p1,.ref p2]);have s2:bD Q _:=λb o e=>sb _ _ (sa _ _ e);exact az p3 _ _ g [] _ _ bA (.two (s2 _ _ e7) (sb _ _ ha) qd) (l.same t s2) ch (((al.trans k6.kp).trans (.nx n7)).trans (.nx (.same s2))) (Nat.le_succ _)
    .refine(_,Y,.inl (Y,_,bZ.of ab),y.t,_,.ref a,Y,Y,ab,by simp,?_);have el:((ts++[a]).map V.ref).dropLast=ts.map V.ref:=by rw[zm];exact List.dropLast_concat
     rw[el];have H:∀b o,n b=U o->b≠y.t->(upd n y.t (.lst (ts.map V.ref))) b=U o:=λb o e hb=>by rw[AE hb];exact e
     have I:=C.pop t ab bq bP;generalize upd n y.t (.lst (ts.map V.ref))=A at H I;refine(I.tabs _ X,λQ M t7=>?_);obtain⟨R,l⟩:=I.td t X un M t7;rcases ch.take with⟨rfl,z⟩|⟨D0,g0,x0,rfl,c0,hx0,eg,hn0,ok0⟩
     .rw[z]at b5;exact absurd (zK (by simp_all)) s
     .refine(_,Y,l.B.no (.mk y.z j r g D0 x0 (g0 x0) Y l.B hx0 hn0 (λbt a8 e=>ok0 x0 bt a8 e) (l.dn t λH9 k9 W9=>(by trivial,aR (((al.trans (.one H (.inr Y))).trans R.kp).trans k9) (eg ▸ W9) c0 (by rw[zG];lia)))))
   .refine(d3 m ?_:N _ _);exact(_,Y,_,Y,_,Y,_,Y,_,Y,_,Y,.mk y j r g D _ x Y C t ch hD dk iQ bQ B λp a b g' D' F' A s e2 e3 e4 k as=>az p a b g' D' F' A s e2 e3 e4 (al.trans k) as)
noncomputable abbrev eZ:List Nat:=[97,98,120]
def Qc:("abx":Str).cps.toList=eZ:=by rfl
def IU:∀c∈eZ,Cm c=L:=by decide
def WF{z}{g:TG}{f:TS}{D:I0}{b}(a:Nat->St->Hp->Prop)(u:a 0 b H)
  (n:∀i c b H,z.cps[i]?=U c->a i b H->g (.str ⟨#[c]⟩) b H λj o=>f {D with nx:=a (i+1),ct:=a (i+1),bk:=D.nx} j o) (r:∀b H,a z.cps.size b H->D.nx b H):
  ∃W:Nat->Nat->St->Hp->Prop,(∃m,W 0 m b H)/\∀i m b H,W i m b H ->
   ((Its z).stop i H/\D.nx b H)\/((Its z).go i H/\∃N,(∀h d,N h d->∃q,q<m/\W (i+1) q h d)/\∀x d,(Its z).ir i H x d->g x b d λj o=>f {D with nx:=N,ct:=N,bk:=D.nx} j o):=by
 refine(λi m b H=>m=z.cps.size-i/\i<=z.cps.size/\a i b H,(z.cps.size,by simp,Nat.zero_le _,u),?_);rintro i m b H ⟨rfl,B,p⟩;by_cases l:i<z.cps.size
 .refine .inr (l,a (i+1),λh d A=>(z.cps.size-(i+1),by lia,Y,l,A),λx d y=>?_);obtain⟨e,c,t,v⟩:=y;subst e;subst v;exact n i c b _ t p
 .have e:i=z.cps.size:=by lia
  subst e;exact .inl (zq _,r b H p)
noncomputable abbrev sgn(c:Nat):Str:=⟨#[c]⟩
structure jj(g:En)(cs:List Nat)(lk:LK):Prop where
 v:∀c,Ai lk (Sum.inr (sgn c))=if c∈cs then (g (sgn c)).map λp=>V.int (p.1:Int)else J
 l:lk.length<=cs.length
def Uc{a:LK}:(Bi a k v).length<=a.length+1:=by
 unfold Bi
 grind
def jj.no{g}{a}{c}(h:jj g a b)(i:c∉ a)(e:g (sgn c)=J):jj g (a++[c]) b:=by
 refine(λd=>?_,Nat.le_trans h.l (by simp_all));rw[h.v]
 grind
def jj.yes(h:jj g a b)(e:g (sgn c)=U (n,(k))):jj g (a++[c]) (Bi b (Sum.inr (sgn c)) (.int (n:Int))):=by
 refine(λd=>?_,Nat.le_trans Uc (by rw[zG];exact Nat.succ_le_succ h.l));rw[JG,h.v]
 grind
theorem IV:∀{t:LT},t.Ok f sg->(∀c∈sg,sgn c∈t.tr.post->c∈i)->t.Ok f i
 |.nm _,h,_=>h
 |.no _,h,_=>h
 |.le c,h,k=>k c h (zF.mpr rfl)
 |.ng t,h,k=>IV (t:=t) h λc d e=>k c d (zO _ e)
 |.bn _ a b,h,k=>(h.1,IV h.2.1 λc d e=>k c d (zO _ (by simp[*])),IV h.2.2 λc d e=>k c d (zO _ (by simp_all)))
theorem HS:∀t:LT,t.tr.d8 (c,d,e)=t.tr.d8 (c,k2,e)
 |.nm _=>rfl
 |.no _=>rfl
 |.le _=>rfl
 |.ng t=>congrArg (λz=>kn c-(kn c&&&z)) (HS t)
 |.bn g a b=>by
  show g.f (a.tr.d8 _) (b.tr.d8 _)=g.f (a.tr.d8 _) (b.tr.d8 _);rw[HS a,HS b]
noncomputable def sgH(g:En):List Nat:=eZ.filter λc=>(g (sgn c)).isSome
def MV(ok:iF b r g)(h:∀c∈eZ,Ai kvs (Sum.inr (sgn c))=(g (sgn c)).map λp=>V.int (p.1:Int)):LtN (b,kvs,gT g) (sgH g):=λc j=>by
 obtain⟨d,i⟩:=mem_filter.mp j;obtain⟨⟨n,k⟩,e⟩:=Option.isSome_iff_exists.mp i;have a:gT g (sgn c)=n:=by unfold gT;rw[e];rfl
 refine(IU c d,?_,?_)
 .grind
 .show gT g (sgn c)<2^20;rw[a];exact(ok (sgn c) n k e).1
def Kp.dk(k:Kp y H c)(W:Ws i C l T y j r g D F H)(e:H b=U (.dK f))(n:b≠y.z.e):c b=U (.dK f):=by
 obtain⟨_,_,a⟩:=W.di;obtain⟨_,d,_⟩:=W.B.de;obtain⟨_,h,_⟩:=W.tb;exact k b _ e (λz=>by simp_all) n (λz=>by simp_all) (λz=>by simp_all) (λ_ z=>nomatch z) (λ_ z=>nomatch z)
def Kp.tp(k:Kp y H c)(W:Ws j C m T y l r g D F H)(e:H b=U (.tup f)):c b=U (.tup f):=by
 obtain⟨_,_,h⟩:=W.di;obtain⟨_,i,_⟩:=W.B.de;obtain⟨_,d,_⟩:=W.tb;obtain⟨_,a,_⟩:=W.B.en;exact k b _ e (λz=>by simp_all) (λz=>by simp_all) (λz=>by simp_all) (λz=>by simp_all) (λ_ z=>nomatch z) (λ_ z=>nomatch z)
inductive Fo(b C d:jr)(T:List (jr×Str×List Pos))(y:Zw)(a:Aa)(r:Str)(g:En)(D:iC)(F:List En)(x:Str)(t:LT)(v:Nat)(f:V)(H:Hp):Prop
 |fY p(e:f=.ref p)(h:H p=U (eX kj)) c(l:c∈eZ)(m:sgn c∈t.tr.post)(n:g (sgn c)=J)(W:Ws b C d T y a r g D F H)
 |bad p(e:f=.ref p)(h:H p=U (.tup [.str jE,.str kK,.int (AW a (v):Nat)]))(j:∀c∈eZ,sgn c∈t.tr.post->g (sgn c)≠J)(i:OB r a v)(W:Ws b C d T y a r g D F H)
 |ok(e:f=.bQ)(j:∀c∈eZ,sgn c∈t.tr.post->g (sgn c)≠J)(i:¬ OB r a v)(W:Ws b C d T y a r (gk g x (mkN r a v)) (D++[(x,(g x))]) F H)
noncomputable def fZ(a:Str)(g:En)(c:Nat):Bool:=decide (c∈a.cps.toList) && !(g (sgn c)).isSome
noncomputable def hX:List Pos:=[(606,27,606,78)]
noncomputable abbrev q3:Str:="_law_reckoning.<locals>." ++ jy
noncomputable abbrev NLr:jm:=[jv,ju,lj,jW,kG,jG,jS,"_law_own",nh,"_law_one",jM,kr,me,"_law_sign",ma,"_law_left",ow]
noncomputable abbrev pLr:jm:=[jv,ju,lj,jW,kG,jG]
def scLr:AH NLr pLr (defScope BP):=cY
def sLr(y:Zw)(r x:Str)(a o u:jr)(b c d e f g h:Option V):St:=[U (.ref y.d),U (.ref y.z.b),U (.ref y.t),U (.ref y.u),U (.str r),U (.str x),U (.ref a),U (.ref o),U (.ref u),b,c,d,e,f,g,J,h]
def Ze(F:gF ω jQ jQ BP f fd c)(hC:W.CodeHd base c P0)(hBu:base.BuiltinsAt mg P0)(TB:jh P w ω mg base ec cM)(hT:(P0,q3,(hX))∈T)(un:∀q∈T,q.1=P0->q=(P0,q3,(hX)))(B:Bl mg)(BT:DA ω BC)(EF:Jw ω ec cR 1)(EPN:FP ω ec cM cN 6)
  (GT:Fn P w ω mg base lQ 2 [jW] spTable) (GGv:Fn P w ω mg base nk 1 [jS,jG,jM] spLgv) (GF:Fn P w ω mg base m9 7 UT spForm) (GCo:Fn P w ω mg base ly 5 J1 (spCome 3)) (GLm:Fn P w ω mg base ot 1 [jS,kG,jM] spLMade)
  (GRc:B6 P w ω mg base BC "reckon" 8 [jt,jx,ku] (spRc BC C cR cN cB cT bd)):bH P w ω mg base cF 11 f fd pLr (spLr ω BC C bd T):=by
 refine F.ok scLr (λvs H Q E h=>?_) (λA outer s H vs Q E hr h=>?_)
 .obtain⟨_,_,_,_,_,_,_,rfl⟩:=h;rfl
 .have nd:=scLr.nd;have hu:=Bs hr;have TD:=TB.at (N:=NLr) (qq:=q3) (q:=jQ) (sc:=defScope BP) (f:=f) (A:=A) (outer:=outer) (s:=s) (H:=H) (E:=E) hC hBu (ls:=hX) (by rfl)
  refine(_,AB (Bg (hs:=by rfl) (hw:=by rfl) (Ab (AA (Am (Al ω zd) (pv 2) (DW Dc AF) (λ_ _=>rfl)) (cW (dm GT hr (cZ (pv 3))) DK))) (BN zd (AT (BH 6 nd) (AT (BH 7 nd) (AT (BH 8 nd) A3)))))
   (An (CY PassesOwn.never rfl (BW (pv 3)) (BN rfl (AT (BH 9 nd) (AT (BH 10 nd) A3))) (AC (D4 hu (pv 8) (pv 9) (pv 10) rfl)))
   (An (Bg (dm GF hr (AA (pv 0) (cW (Gs [] [] (by rfl) (by trivial) (by rfl) (by rfl) rfl (BW (pv 3)) (λ_ _ _ _ _ _=>BR) (λ_ _ _ _ _ _=>pv 0)) AI))) (BN rfl (AT (BH 16 nd) (AT (BH 11 nd) A3))))
   (AB (A5 12 nd DK)
   (An (CY PassesOwn.never rfl (JQ AI) (BH 13 nd) (AC (AU (Db (Ft hu (pv 13) (pv 6))) (AC (D4 hu (pv 12) (pv 13) (Am (Ad ω rfl) (Au hu (pv 6) (pv 13) (λ_ _=>rfl)) AF (λ_ _=>rfl)) rfl)) AM)))
   (An (A5 14 nd (B7 (k:=8) TD hr 0 [ju,jG,ow] [1,5,16] (λlf c' A' outer' s' u E hr=>BZ (pv 0) BT.cl GRc hr BJ (cW (pv 1) (pv 2)))))
   (AB (AU (AL (Ew ω rfl hr.units) (Bt [ow,jS] [some 16,some 6] (by rfl) (by trivial) (by rfl) rfl (JQ AI) (λ_ _ _ _ _ _=>Gr (PW.pt (CV (AL Op (pv 0) (pv 1) rfl) (Bj (Db (Ke hu (pv 0) (pv 2))))))) (λ_ _ _ _ _ _=>pv 0)) (As AG) (AN _)) (AC (AJ (Ab (cW (pv 14) (Ab (cW AI AI)))))) AM)
   (AB (A5 10 nd (dm GLm hr (AA (pv 7) (cW (pv 4) (dm GCo hr (AA (pv 11) (AA (pv 8) (cW (Au hu (pv 7) AI (λ_ _=>rfl)) (pv 12)))))))))
   (AB (AU (Ak (Bn ω rfl rfl B.fj rfl B.tuple Cy (pv 10))) (AB (A5 15 nd (BX (AL Ao (Am (Ad ω rfl) (pv 10) AF (λ_ _=>rfl)) AI (AN _)) (Am (Ad ω rfl) (pv 10) AF (λ_ _=>rfl)) AF))
     (AC (AJ (Ab (cW (pv 14) (BX (AL Ao (Am (Ad ω rfl) (pv 10) AF (λ_ _=>rfl)) AI (AN _)) (Ab (AA AI (cW AI (AX CZ (pv 15) (AX Ca (pv 15) (Au hu (pv 7) AI (λ_ _=>rfl))))))) (pv 10))))))) AM)
   (AB (AV (Aw (pv 2) (cZ (dm GGv hr (AA (pv 6) (cW (pv 5) (pv 10)))))))
   (AC (AJ (Ab (cW (pv 14) B9))))))))))))),?_)
  refine ez λN I=>?_;obtain⟨y,d,r,g,D,Fs,x,rfl,W,S,ch,hD,dk,iQ,hrn,hx,q⟩:=h;obtain⟨gU,ht,hp,hn⟩:=W.tb;obtain⟨⟨F0,eF⟩,lF⟩:=ch.last;obtain⟨bs,hu1,hu2⟩:=W.du;subst eF;obtain⟨ts,a,rfl,Y,ha⟩:=B3 hp;refine(_,zd,_,zd,(y.t,_,-1,.ref a,zd,zd,bZ.of ht,MS _ _,_,zd,(y.u,bs,d,zd,hu1,hu2,dk.len,dk.lt,λo e m ms H1 s1 h1 h2 h3 h4=>?_)));have W1:=W.same S s1;refine λO hnu=>(by show 3<=sizeLine;decide,λp bp=>?_);have s2:=AD (bD.refl H1) hnu (o:=HO.dK []);have hn2:=bA (H:=H1) (a:=O) (o:=HO.dK []);generalize upd H1 O (HO.dK [])=H2 at s2 hn2 bp;have s3:=AD (bD.refl H2) bp (o:=HO.tup [.ref a,.ref o,.ref O]);refine(p,_,zd,cD.of bA,zd,_,_,zd,_,_,zd,_,_,zd,zd,?_);generalize upd H2 p (HO.tup [.ref a,.ref o,.ref O])=H3 at s3;have hn3:=s3 _ _ hn2;have s13:=s2.trans s3;obtain⟨bs1,hv1,hv2⟩:=W1.du
  have iz:bs1.length=d.length:=by
   rw[hv2.length];unfold Dw;rw[AO]
  have keep:∀{H3:Hp}(o:HO),bD H1 H3->bD H1 (upd H3 O o):=λ{H3}o s b w e=>by rw[AE (AK e hnu)];exact s b w e
  refine(d3 I (je λN I=>?_):N _ _);refine(λL u=>(∃x9 M,L=sLr y r x a o O x9 M none none none none none)/\u O=some (.dK (A8 d))/\bD H1 u,λR hR=>?_,?_)
  .refine(_,zd,y.u,zd,(_,bZ.of (s13 _ _ hv1)),CC (ω:=ω) (a:=y.u) (xs:=bs1.map V.ref) (λj L u=>(∃x9 M,L=sLr y r x a o O x9 M none none none none none)/\u O=some (.dK (A8 (d.take j)))/\bD H1 u) ((_,_,zd),hn3,s13) (λj L u _ h=>bZ.of (h.2.2 _ _ hv1)) ?_ (λL u h=>hR _ _ ?_))
   .rintro j v L H4 hj ⟨⟨x9,M,rfl⟩,hn4,s4⟩;obtain⟨bb,pr,rfl,_,Y,bj⟩:=DF (bV.cS (cJ.of s4) hv2) hj;refine(bb,_,zd,cD.of bj,zd,_,_,zd,_,_,zd,zd,?_);have jc:=dk.len;refine(_,zd,_,zd,_,zd,O,_,zd,.inl (_,Sum.inr pr.1,hn4,zd,AQ ?_,zd),(_,_,zd),?_,keep _ s4)
    .unfold A8;rw[AO,zt]
     lia
    .rw[bA,P8 (Ub dk.nd Y),zx,Y];rfl
   .obtain⟨h1,h2,h3⟩:=h;rw[AO,iz,zu]at h2;trivial
  intro L H4 h;refine(d3 I (je λN I=>?_):N _ _);obtain⟨⟨x9,M,rfl⟩,hn4,s4⟩:=h;have W4:=W1.same S s4;have ho4:=s4 _ _ h1;have ht4:=s4 _ _ (s1 _ _ ht);have hv4:=s4 _ _ hv1;have hw4:=bV.cS (cJ.of s4) hv2;have kp4:Kp y H H4:=.nx (.same (s1.trans s4));refine(λL u=>∃(G:Str)(tv:V)(t:LT),L=sLr y r x a o O x9 M (some tv) none none none (some (.str G))/\fD u tv t/\t.Ok (d.map (·.1)) eZ/\t.ht<=3/\Wr true t.tr 0 G.cps.toList/\G.cps.all (· < 128)=true/\G.length<=56/\cz y.d H4 u,λR hR=>?_,?_)
  .refine(_,zd,_,zd,y.u,zd,(_,bZ.of hv4),B0 (ω:=ω) (a:=y.u) (xs:=bs1.map V.ref) (λi ys u=>ys=((d.take i).map (·.1)).map V.str/\u=H4) (zd,zd) (λi ys u _ zz=>by obtain⟨_,e⟩:=zz;exact e ▸ bZ.of hv4) (λi ys u ⟨e,_⟩=>?_) ?_ ?_)
   .have:=dk.len;rw[e,AO,AO,zt]
    lia
   .rintro i v ys u hi ⟨rfl,rfl⟩;obtain⟨bb,pr,rfl,_,Y,bj⟩:=DF hw4 hi;refine(bb,_,zd,cD.of bj,zd,_,_,zd,_,_,zd,zd,?_);refine(_,zd,?_,zd);rw[zx,Y,Option.toList_some,zm,zm];rfl
   .rintro ys u ⟨rfl,rfl⟩ wl hwl;rw[AO,iz,zu];have sw:=AD (bD.refl _) hwl (o:=HO.lst ((d.map (·.1)).map V.str));have hw5:=bA (H:=u) (a:=wl) (o:=HO.lst ((d.map (·.1)).map V.str));generalize upd u wl (HO.lst ((d.map (·.1)).map V.str))=H5 at sw hw5 ⊢;have W5:=W4.same S sw;obtain⟨x5,y5,hd5⟩:=W5.di;refine(y.d,wl,x5,y5,d.map (·.1),"abx",zd,hd5,hw5,by rw[AO];lia,by rw[AO];exact dk.len,λx hx=>?_,by trivial,Qc ▸ IU,λq G tv t H6 s6 hq lt ok ht wz az lz=>?_)
    .obtain⟨p,hp,rfl⟩:=zi.mp hx;obtain⟨h1,h2,h3⟩:=QS (n:=(d,[],gT g)) dk hp;have hn:=(dk.nm p hp).1;unfold CM at hn;simp only[Bool.and_eq_true,decide_eq_true_eq]at hn;exact(h1.pw true (.inr zd),h1.ok.as,h2,λc l=>by have:=all_eq_true.mp hn.2 c l;simp[Di]at this;lia)
    .rw[Qc]at ok;exact(q,_,zd,cD.of hq,zd,_,_,zd,_,_,zd,zd,hR _ _ (G,tv,t,zd,lt,ok,ht,wz,az,lz,(λb o e hb=>s6.old _ _ (sw _ _ e) hb,s6.dv)))
  intro L H5 h;refine(d3 I (ez λN I=>?_):N _ _);obtain⟨G,tv,t,rfl,lt5,ok,ht3,wz,az,lz,s5⟩:=h;have W5:=W4.dv S s5;obtain⟨xd,yd,iy⟩:=W4.di;have ht5:=s5.old _ _ ht4 (Ne.symm S.dt);have hn5:=s5.old _ _ hn4 λz=>by simp_all
  obtain⟨_,⟨kvs,hk,EK⟩,hae,_⟩:=W5.at ht5;have kp5:=kp4.trans (.one s5.old (.inl rfl));have nue:O≠y.z.e:=W1.ze hnu;refine λle hle=>?_;have s6:=AD (bD.refl H5) hle (o:=HO.dK []);have iP:=bA (H:=H5) (a:=le) (o:=HO.dK []);generalize upd H5 le (HO.dK [])=H6 at s6 iP;have keep:∀{H3:Hp}(o:HO),bD H5 H3->bD H5 (upd H3 le o):=λ{H3}o s b w e=>by rw[AE (AK e hle)];exact s b w e
  refine(d3 I (je λN I=>?_):N _ _);refine(λL u=>(∃x13,L=sLr y r x a o O x9 M (some tv) (some (.ref le)) x13 none (some (.str G)))/\(∃X,u le=some (.dK X)/\jj g eZ X)/\bD H5 u,λR hR=>?_,?_)
  .refine("abx",zd,qb,WF (z:="abx") (λj L u=>(∃x13,L=sLr y r x a o O x9 M (some tv) (some (.ref le)) x13 none (some (.str G)))/\(∃X,u le=some (.dK X)/\jj g (eZ.take j) X)/\bD H5 u) ((_,zd),([],iP,λc=>rfl,zq _),s6) ?_ (λL u h=>hR _ _ h));rintro j c L H7 l ⟨⟨x13,rfl⟩,⟨X,hl7,LD⟩,s7⟩;have g9:eZ[j]?=some c:=by rwa[←Qc,Array.getElem?_toList]
   have tk:eZ.take (j+1)=eZ.take j++[c]:=by rw[zx,g9];rfl
   have hnc:c∉ eZ.take j:=λz=>by
    have hj:=(z8.mp g9).1;have:j=0\/j=1\/j=2:=by simp at hj;lia
    rcases this with rfl|rfl|rfl<;>(cases g9;revert z;decide)
   have hk7:=s7 _ _ hk;refine(_,zd,_,zd,a,_,zd,.inl (_,Sum.inr (sgn c),.inl hk7,zd,zd),_,zd,?_);cases eg:g (sgn c)with
   |none=>
    rw[EK.no eg];exact AS ((_,zd),(X,hl7,tk ▸ LD.no hnc eg),s7)
   |some z=>
    obtain⟨n0,c0⟩:=z;obtain⟨t',v1,v2⟩:=EK.vl (sgn c) n0 c0 eg;rw[v1];refine AZ (_,zd,_,zd,a,_,zd,.inl (_,Sum.inr (sgn c),.inl hk7,zd,v1.symm),t',_,0,_,zd,zd,cD.of (s7 _ _ v2),zd,_,zd,_,zd,le,_,zd,.inl (_,Sum.inr (sgn c),hl7,zd,AQ ?_,zd),(_,zd),(_,bA,tk ▸ LD.yes eg),keep _ s7);have:=LD.l;have h3:eZ.length=3:=rfl;rw[zt]at this
    lia
  intro L H7 h;refine(d3 I (je λN I=>?_):N _ _);obtain⟨⟨x13,rfl⟩,⟨X,hl7,LD⟩,s7⟩:=h;have W7:=W5.same S s7;have ho7:=s7 _ _ (s5.old _ _ ho4 λz=>by simp_all);have hn7:=s7 _ _ hn5;have lt7:=lt5.cS λb xs e=>s7 _ _ e;have kp7:=kp5.trans (.nx (.same s7))
  have oe:o≠y.z.e:=λz=>by
   obtain⟨ks,h1,h2⟩:=W7.B.en;rw[←z,ho7]at h1;cases h1;obtain⟨ms,e1,e2⟩:=h2.ks;have:(Sum.inr kY:Key)∈ms.map Sum.inr:=e1 ▸ zH ..;exact absurd (e2.w _ (inr_mem.mp this)) (by trivial)
  have EK7:=EK.keep λb xs e=>s7 _ _ e;obtain⟨v,hv⟩:∃v,v=t.tr.d8 ⟨d,X,gT g⟩:=(_,rfl);have PW:=Iz (n:=(d,X,gT g)) dk ok IU
  have hpl:t.tr.post.length<=15:=by
   have h1:=HR t;have h2:2^(t.ht+1)<=2^4:=Nat.pow_le_pow_right qc (by lia);have h3:(2:Nat)^4=16:=by decide
   lia
  refine(λL u=>∃fo,L=sLr y r x a o O x9 M (some tv) (some (.ref le)) x13 (some fo) (some (.str G))/\Fo BC C bd T y d r g D (F0++[g]) x t v fo u/\Kp y H7 u,λR hR=>?_,?_)
  .refine(W7.tabs _ hT,λH8 s8 t8=>?_);obtain⟨k8,W8⟩:=W7.td S hT un s8 t8;refine(_,zd,W8.B.no (_,zd,_,zd,.mk y.z d r g D x (.str G) zd W8.B hx W8.hb (.ok G t.tr.post zd (by lia) (QE dk.lt) az (by lia) (UJ wz) (X5 PW (by lia)) hrn ?_)));by_cases U:∀c∈eZ,sgn c∈t.tr.post->g (sgn c)≠none
   .have ok':t.Ok (d.map (·.1)) (sgH g):=IV ok λc l hm=>mem_filter.mpr (l,Option.isSome_iff_ne_none.mpr (U c l hm));have LN:=MV (kvs:=X) W7.B.ok λc l=>by rw[LD.v,zg l]
    refine .go v (λs hs hl=>?_) (λkvs' TG=>?_) (hv ▸ MR (n:=(d,X,gT g)) dk LN ok') ?_
    .obtain⟨c,l,rfl⟩:=(PW s hs).m hl;exact U c l hs
    .rw[hv,HS (k2:=kvs') t];exact UL (Qa (n:=(d,kvs',gT g)) dk (MV W7.B.ok λc l=>TG.v _ (IU c l)) ok')
    .by_cases hb:OB r d v
     .exact .inl (hb,X2 EF λp H9 n9 e9=>hR _ _ (_,zd,.bad p zd e9 U hb (W8.nx S n9),k8.kp.trans (.nx n9)))
     .exact .inr (hb,W8.dn S λH9 k9 W9=>hR _ _ (_,zd,.ok zd U hb W9,k8.kp.trans k9))
   .obtain⟨c,l,hm,hn⟩:∃c,c∈eZ/\sgn c∈t.tr.post/\g (sgn c)=none:=Classical.byContradiction λz=>U λc l hm e=>z (c,l,hm,e);exact .fY (sgn c) hm (IU c l) hn (W8.uq S EPN λp H9 n9 W9 e9=>hR _ _ (_,zd,.fY p zd e9 c l hm hn W9,k8.kp.trans (.nx n9)))
  intro L H8 h;refine(d3 I (ez λN I=>?_):N _ _);obtain⟨fo,rfl,FO,k8⟩:=h;have hk8:=k8.dk W7 (s7 _ _ hk) hae;have ho8:=k8.dk W7 ho7 oe;have hn8:=k8.dk W7 hn7 nue;have hl8:=k8.dk W7 hl7 (W5.ze hle);have EK8:=EK7.keep λb xs e=>k8.tp W7 e;have lt8:=lt7.cS λb xs e=>k8.tp W7 e;have kp8:=kp7.trans k8
  have vis:∀c,(Ai kvs (Sum.inr (sgn c))).isSome=(g (sgn c)).isSome:=λc=>by
   cases e:g (sgn c)with
   |none=>rw[EK8.no e];rfl
   |some z=>
    obtain⟨t',h1,_⟩:=EK8.vl _ z.1 z.2 e
    simp_all
  refine("abx",zd,qb,HB (x:="abx") (λi ys u=>u=H8/\ys=(((eZ.take i).filter (fZ G g)).map sgn).map V.str) (zd,zd) (λi ys u ⟨_,e⟩=>?_) ?_ ?_)
  .rw[e,AO,AO];have h1:=length_filter_le (fZ G g) (eZ.take i);rw[zt]at h1;have h2:eZ.length=3:=rfl
   lia
  .rintro i c ys u l ⟨rfl,rfl⟩;have g9:eZ[i]?=some c:=by rwa[←Qc,Array.getElem?_toList]
   have e1:(eZ.take (i+1)).filter (fZ G g)=(eZ.take i).filter (fZ G g)++[c].filter (fZ G g):=by rw[zx,g9,Option.toList_some,List.filter_append]
   have y1:fZ G g c=true->(((eZ.take (i+1)).filter (fZ G g)).map sgn).map V.str=(((eZ.take i).filter (fZ G g)).map sgn).map V.str++[V.str (sgn c)]:=λz=>by
    simp_all
   have y0:fZ G g c=false->(((eZ.take (i+1)).filter (fZ G g)).map sgn).map V.str=(((eZ.take i).filter (fZ G g)).map sgn).map V.str:=λz=>by
    rw[e1,List.filter_cons_of_neg (by rw[z];decide)];simp
   refine(_,zd,_,zd,c,G,zd,zd,_,zd,BL (λz=>?_) (λz=>?_))
   .refine(_,zd,_,zd,a,_,zd,.inl (_,Sum.inr (sgn c),.inl hk8,zd,zd),_,zd,?_);rw[vis c];refine BL (λw=>(_,zd,zd,(y1 ?_).symm)) (λw=>(zd,(y0 ?_).symm))
    .unfold fZ;rw[z,w];rfl
    .unfold fZ;rw[Bool.eq_false_iff.mpr w,Bool.and_false]
   .refine AS (zd,(y0 ?_).symm);unfold fZ;rw[Bool.eq_false_iff.mpr z];rfl
  rintro ys u ⟨rfl,rfl⟩ p1 Y;rw[take_of_length_le (by trivial)];have sa:=AD (bD.refl _) Y (o:=HO.lst (((eZ.filter (fZ G g)).map sgn).map V.str));have ha:=bA (H:=u) (a:=p1) (o:=HO.lst (((eZ.filter (fZ G g)).map sgn).map V.str));generalize upd u p1 (HO.lst (((eZ.filter (fZ G g)).map sgn).map V.str))=Ha at sa ha;refine(by simp,λp2 bp=>?_);have sb:=AD (bD.refl _) bp (o:=HO.lst []);have hb:=bA (H:=Ha) (a:=p2) (o:=HO.lst []);generalize upd Ha p2 (HO.lst [])=Hb at sb hb;have s9:=sa.trans sb;refine(_,_,C0 (sb _ _ ha) (HG _),C0 (ds:=[]) hb (by rw[Bd]),FL λz hz=>?_,by rfl,_,zd,?_)
  .obtain⟨c,l,rfl⟩:=zi.mp hz;have:=(mem_filter.mp l).1;simp at this;rcases this with rfl|rfl|rfl<;>decide +kernel
  rw[QC];have txm:=λc l=>Zc wz PW (IU c l);have kp9:=kp8.trans (.nx (.same s9));have ho9:=s9 _ _ ho8;have hl9:=s9 _ _ hl8;have hn9:=s9 _ _ hn8;have lt9:=lt8.cS λb xs e=>s9 _ _ e
  have nil:(∀c∈eZ,sgn c∈t.tr.post->g (sgn c)≠none)->eZ.filter (fZ G g)=[]:=λhs=>by
   refine List.filter_eq_nil_iff.mpr λc l z=>?_;unfold fZ at z;rw[Bool.and_eq_true]at z;have:=hs c l ((txm c l).mp (zT z.1));exact this (Option.isNone_iff_eq_none.mp (by simpa using z.2))
  rcases FO with⟨p,rfl,h,c,l,hm,hn,W8⟩|⟨p,rfl,h,hs,Z,W8⟩|⟨rfl,hs,Z,W8⟩
  .have g8:c∈eZ.filter (fZ G g):=mem_filter.mpr (l,by unfold fZ;rw[zK ((txm c l).mpr hm),hn];rfl);have W9:=W8.same S s9;cases e:eZ.filter (fZ G g)with
   |nil=>rw[e]at g8;cases g8
   |cons c2 iK=>
    refine AZ (_,zd,by trivial,λp5 iI=>(by show 2<=sizeLine;decide,λp6 gO=>?_));have sc:=AD (bD.refl _) iI (o:=eX kj);have hc5:=bA (H:=Hb) (a:=p5) (o:=eX kj);generalize upd Hb p5 (eX kj)=Hc at sc hc5 gO;have sd:=AD (bD.refl _) gO (o:=HO.tup [.ref p,.ref p5]);have s2:bD Hb _:=λb o e=>sd _ _ (sc _ _ e);exact q p6 _ _ g D _ _ bA (.two (s2 _ _ (s9 _ _ h)) (sd _ _ hc5) qd) (W9.same S s2) ch (kp9.trans (.nx (.same s2))) (Nat.le_succ _)
  .have ok':t.Ok (d.map (·.1)) (sgH g):=IV ok λc l hm=>mem_filter.mpr (l,Option.isSome_iff_ne_none.mpr (hs c l hm));have LN:=MV (kvs:=X) W.B.ok λc l=>by rw[LD.v,zg l]
   have W9:=W8.same S s9;rw[nil hs];refine AS (d3 I (ez λN I=>?_):N _ _);refine(_,zd,_,zd,_,zd,_,zd,_,zd,o,_,zd,.inl (_,Sum.inr kY,.inl ho9,zd,(Ck _ _ _).symm),_,zd,.mk tv O le t (d,X,gT g) (sgH g) zd lt9 ok' (.inl hl9) (λc l=>((LN c l).1,(LN c l).2.1)) ht3 hn9 dk (.mk o e m d r _ zd ho9 (zY _) ?_));rw[←hv];have h9:=s9 _ _ h
   have w3:∀{p5:jr}{Hc:Hp},bD Hb Hc->Hc p5=some (.tup [.str jE,.str kK,.int (AW d (v:Int):Nat)])->∀p6,Hc p6=none->Q (.ref p6) (upd Hc p6 (.tup [.ref p,.ref p5])):=λ{p5 Hc}sc l p6 gO=>by
    have sd:=AD (bD.refl _) gO (o:=HO.tup [.ref p,.ref p5]);have s2:=sc.trans sd;exact q p6 _ _ g D _ _ bA (_,OD (s2 _ _ h9),OD (sd _ _ l),OE qb qb,UZ _ _ _) (W9.same S s2) ch (kp9.trans (.nx (.same s2))) (Nat.le_succ _)
   obtain⟨st,gZ⟩:=Z;have no1:¬ decide (V.str jE=V.str "left")=true:=by decide +kernel
   rcases gZ with gZ|gZ
   .refine .inl (st,gZ,λp9 hp9=>?_);have sc:=AD (bD.refl _) hp9 (o:=HO.tup [.str jE,.str kK,.int (AW d (v:Int):Nat)]);have J:=bA (H:=Hb) (a:=p9) (o:=HO.tup [.str jE,.str kK,.int (AW d (v:Int):Nat)]);generalize upd Hb p9 (HO.tup [.str jE,.str kK,.int (AW d (v:Int):Nat)])=Hc at sc J;refine(d3 I (ez λN I=>?_):N _ _);refine(_,zd,_,_,_,true,zd,.tup J,zd,_,zd,AZ ?_);refine(_,zd,p9,_,0,_,zd,zd,cD.of J,zd,zd,_,zd,BL (λz=>absurd z no1) λ_=>?_);exact(_,zd,_,zd,p9,_,0,_,zd,zd,cD.of J,zd,zd,_,zd,BL (λz=>absurd z no1) λ_=>(_,zd,by show 2<=sizeLine;decide,w3 sc J))
   .refine .inr (.inl (λz=>absurd (gZ.symm.trans z.2) (by trivial),st,gZ,λp9 hp9=>?_));have sc:=AD (bD.refl _) hp9 (o:=HO.tup [.str "left",.int (v:Int)]);have J:=bA (H:=Hb) (a:=p9) (o:=HO.tup [.str "left",.int (v:Int)]);generalize upd Hb p9 (HO.tup [.str "left",.int (v:Int)])=Hc at sc J;have hoc:=sc _ _ ho9;have es:(v:Int)-Builtin.bitAnd (v:Int) ((kn d:Nat):Int)=((AW d (v:Int):Nat)):=by rw[MU,OF]
    refine(d3 I (ez λN I=>?_):N _ _);refine(_,zd,_,_,_,true,zd,.tup J,zd,_,zd,AZ ?_);refine(_,zd,p9,_,0,_,zd,zd,cD.of J,zd,zd,_,zd,BL (λ_=>?_) λz=>absurd (by rfl) z);refine(_,zd,p9,_,1,_,zd,zd,cD.of J,zd,?_);refine(_,zd,_,zd,p9,_,0,_,zd,zd,cD.of J,zd,zd,_,zd,BL (λ_=>?_) λz=>absurd (by rfl) z);refine(_,zd,_,zd,_,zd,o,_,zd,.inl (_,Sum.inr kY,.inl hoc,zd,(Ck _ _ _).symm),_,_,zd,zd,_,_,zd,zd,by show 3<=sizeLine;decide,λp5 iI=>(by show 2<=sizeLine;decide,?_));have sd:=AD sc iI (o:=HO.tup [.str jE,.str kK,.int ((v:Int)-Builtin.bitAnd (v:Int) ((kn d:Nat):Int))]);exact w3 sd (bA.trans (congrArg (λz=>some (HO.tup [.str jE,.str kK,.int z])) es))
  .have ok':=IV ok λc l hm=>mem_filter.mpr (l,Option.isSome_iff_ne_none.mpr (hs c l hm));have LN:=MV (kvs:=X) W.B.ok λc l=>by rw[LD.v,zg l]
   have W9:=W8.same S s9;rw[nil hs];refine AS (d3 I (ez λN I=>?_):N _ _);refine(_,zd,_,zd,_,zd,_,zd,_,zd,o,_,zd,.inl (_,Sum.inr kY,.inl ho9,zd,(Ck _ _ _).symm),_,zd,.mk tv O le t (d,X,gT g) (sgH g) zd lt9 ok' (.inl hl9) (λc l=>((LN c l).1,(LN c l).2.1)) ht3 hn9 dk (.mk o e m d r _ zd ho9 (zY _) ?_));rw[←hv];refine .inr (.inr (λz=>Z (z.1,.inl z.2),λz=>Z (z.1,.inr z.2),?_));refine(d3 I (ez λN I=>?_):N _ _);refine(_,zd,_,_,_,false,zd,.int _,zd,_,zd,AS ?_);refine(d3 I ?_:N _ _);obtain⟨tas9,ht9,_⟩:=W9.tb;refine(_,zd,.inl (zd,_,bZ.of ht9),_,zd,_,zd,_,zd,(a,g,x,mkN r d v,zd,(kvs,s9 _ _ hk8,EK8.keep λb xs e=>s9 _ _ e),hx,λp H1 s1 hp ht=>?_));obtain⟨xs,e1,ln,o6,W6⟩:=W9.gv S s1 hp ht (by lia);refine(y.t,_,_,zd,zd,e1,ln,_,zd,by trivial,λp6 gO=>?_);have sd:=AD (bD.refl _) gO (o:=HO.tup [V.bQ,V.bQ]);exact q p6 .bQ .bQ _ _ _ _ bA .bQ (W6.same S sd) (ch.gv hx W.B.ok) ((kp9.trans (.one o6 (.inr zd))).trans (.nx (.same sd))) (by simp)
structure Zf(P:Program)(w:World)(K:FG)(mg:SV)(base:Heap)(BC C:jr):Prop where
 T:DA K BC
 cls:mg "Book"=U (.ref BC)
 make:∃f fd,Mk K BC f/\bH P w K mg base cF 1 f fd [jt,jJ] (spBi BC C)/\Binds K fd [jt,jJ] []
def Ud(a):(Aq a).map (·.1)=a.map (·.1):=by
 have d:∀n,n<=a.length->(Aq (a.take n)).map (·.1)=(a.take n).map (·.1):=by
  intro n;induction n with
  |zero=>intro _;rfl
  |succ n i=>
   intro h;have e:a.take (n+1)=a.take n++[a[n]]:=by rw[zx,z7 (by assumption)];rfl
   rw[e,Fa,zm,zm,i (by lia)];rfl
 have:=d a.length (zq _)
 rwa[zu]at this
def KpL(d:jr)(y:Zw)(H a:Hp):Prop:=∀b c,H b=U (.lst c)->b≠d->(b≠y.z.e/\b≠y.z.l/\b≠y.t)/\a b=U (.lst c)
structure Lbk(BC C bd:jr)(T:List (jr×Str×List Pos))(d:jr)(y:Zw)(bG:Aa)(r:Str)(g:En)(D:iC)(F:List En)(t:jr)(H:Hp):Prop where
 ed:y.d=d
 W:Ws BC C bd T y bG r g D F H
 N:Nd bd y
 tb:eI H t g
 te:t≠y.z.e
 lD:D.length<=31
 dk:C5 bG
 wd:∀x∈bG.map (·.1),x∈dh
 hr:r∈c9
inductive spLb(e C c:jr)(T:List (jr×Str×List Pos))(f:jq)(H:Hp)(Q:VK)(h:XK):Prop
 |mk d a b(m:f=[.ref d,.int 12])(n:H d=U (.lst [.int a,.int b]))(o:Rd H c (.dK CP))(l:∀p∈T,cU H p.1 p.2.1 p.2.2)
  (s:∀q y j r g D F t i,Lbk e C c T d y j r g D F t i->i q=U (.tup [.ref y.z.b,.ref t,.ref y.u,.str r,.bl L])->KpL d y H i->Q (.ref q) i)
abbrev NLb:jm:=[jv,j5,"_law_rows",jW,kG,ju,lj,"_law_good","_law_turn",ma,"_law_right"]
def scLb:AH NLb [jv,j5] (defScope Jp):=cY
def Zg(F:cC a ox ox Jp f fd)(bc:Bl i)(KO:Ua P w a i m C)(BO:Zf P w a i m j C)
  (GL:Fn P w a i m nT 3 [jv,j5] spLines) (bi:Fn P w a i m m6 3 [jv] spRuleOf) (bh:Fn P w a i m j7 2 [jv,j6] spRollB)
  (bj:Fn P w a i m ko 12 pLs (spLs a j C p an)):bH P w a i m cF 13 f fd [jv,j5] (spLb j C p an):=by
 obtain⟨fI,dI,MI,GI,gI,bP⟩:=KO.make;obtain⟨fB,dB,MB,GB,bB⟩:=BO.make;refine F.ok scLb (λvs al bk bg h=>?_) (λbf b3 b7 b9 al vs bk bg B h=>?_)
 .obtain⟨_,_,_,rfl,_⟩:=h;rfl
 .have S:=scLb.nd;have bO:=B.units;have gZ:bJ 2 _:=B.mono qc;have bM:bJ 7 _:=B.mono qc
  refine(_,AB (Bg (dm GL B (cW (Z 0) AF)) (BN Y (AT (BH 2 S) (AT (BH 3 S) A3))))
    (AB (A5 4 S (dm bi B (cZ (Z 0))))
    (An (VU (i:=5) (j:=6) (k:=7) rfl S rfl rfl rfl rfl rfl rfl (AA (LX MB GB gZ rfl BO.cls bB .nil Af (cZ (Sm MI GI bM rfl KO.cls bP (cZ (Z 2)) (Pf (Z 4) SL))) qc) (cW (As (cZ DK)) CQ)) qd)
    (An (CY PassesOwn.never rfl (DB rfl bc.range (cZ (dm bh B (cW (Z 0) (AX CD (Z 1) AF))))) (BH 8 S)
     (AB (Bg (dm bj B (AA (Z 0) (AA (Z 5) (AA (Z 6) (cW (Z 3) (Z 4)))))) (BN rfl (AT (BH 9 S) (AT (BH 10 S) A3))))
     (AC (A5 7 S (CB (Z 7) (CW (Cn (Sk a rfl bO) (Z 9) (Z 10) (AN _))))))))
    (AC (AJ (Ab (AA (Z 5) (AA (Am (Al a rfl) (Z 6) (DW Dc AF) (λ_ _=>rfl)) (AA (Z 3) (cW (Z 4) (Z 7))))))))))),?_)
  obtain⟨d,x,y,rfl,t,hB,bz,bQ⟩:=h;refine(_,Y,d,x,y,6,Y,qc,qc,t,λab f as fs bn l Ha a4 hq a6 a8 hf hP bN bt r0 b8 RO bx=>(ab,_,Y,cD.of hq,Y,_,_,Y,_,_,Y,Y,?_));obtain⟨Q,ya,aR⟩:=a4.dv;have bu:f≠d:=λz=>by rw[z,t]at a6;cases a6
  have ud:as≠d:=λz=>by rw[z,t]at a8;cases a8
  have DO:=Nj RO (by lia);refine(_,rfl,d,Q,ya,rfl,aR,λr I bw G=>?_);obtain⟨xb,yb,az⟩:=G.dv;have tX:cJ Ha I:=λb xs e=>G.old _ _ e (PY e aR λz=>nomatch z);have bq:=G.old _ _ bN ud;have bC:=bV.cS tX bt;have bv:=Cj tX hP;have bI:=G.old _ _ hf bu;have ob:∀b o,al b=U o->b≠d->I b=U o:=λb o e u=>G.old _ _ (a4.old _ _ e u) u;refine(λq M=>∃s:Zw,q=[U (.ref d),U (.int 12),U (.ref f),U (.ref as),U (.str r),U (.ref s.z.b),U (.ref s.t),U (.bl gl),J,J,J]/\s.d=d/\s.u=as/\Nd p s/\Ws j C p an s (Aq l) r (λ_=>J) [] [λ_=>J] M/\bD I M/\I s.z.e=J/\I s.z.l=J/\I s.t=J,λbl hR=>?_,?_)
  .refine(_,Y,_,Y,?_);intro k dk hk bF cb;have sN:=FN (D:=C) hk bF cb;refine(k,dk,f,l,r,Y,bA,(fs,sN _ _ bI,Cj (cJ.of sN) bv),r0,by lia,RO,bw,λH0 sd KA=>(Y,?_));have X:=Fb sN hk sd;intro ar dx hp cc bL;have sM:=FN (D:=j) hp cc bL;refine(ar,dx,k,Aq l,r,Y,bA,KA.same sM,λdE lE N s3 bE bK Bk=>(Y,?_));have aC:=Fb sM hp s3;have nE:=none_of sM bE;have R:=none_of sM bK;refine λH a2=>(by show 1<=sizeLine;decide,λag ht=>(_,_,_,Y,?_));have A:=AD (bD.refl _) a2 (o:=HO.dK []);have h4:=bA (H:=N) (a:=H) (o:=HO.dK []);generalize upd N H (.dK [])=H4 at A h4 ht;have s6:=AD (bD.refl _) ht (o:=HO.lst [.ref H]);have a5:=bA (H:=H4) (a:=ag) (o:=HO.lst [.ref H]);generalize upd H4 ag (.lst [.ref H])=H6 at s6 a5;have bb:bD N H6:=λb o e=>s6 _ _ (A _ _ e);have v:bD I H6:=λb o e=>bb _ _ (aC _ _ (X _ _ e));have be:=Bk.same bb;have E:=none_of A ht;obtain⟨_,bG,_⟩:=Bk.en;obtain⟨_,a0,_⟩:=Bk.de;have pr:∀{b:jr}{o:HO},I b=U o->∀{c:jr},H0 c=J->b≠c:=λ{b o}e{c}n z=>by rw[z]at e;rw[X _ _ e]at n;cases n
   have a9:∀{b:jr}{o:HO},I b=U o->b≠ag:=λ{b o}e z=>by rw[z]at e;rw[aC _ _ (X _ _ e)]at E;cases E
   have aM:∃o,I p=U o:=by
    rcases hB with h|⟨o,h⟩
    .exact(_,ob _ _ h λz=>by rw[z,t]at h;cases h)
    .exact(_,ob _ _ h λz=>by rw[z,t]at h;cases h)
   obtain⟨b6,aM⟩:=aM;refine hR _ _ (((ar,k,dE,lE),d,ag,as),rfl,rfl,rfl,(pr az R,a9 az,λz=>?_,ud,pr bq R,a9 bq,pr aM nE),((xb,yb,v _ _ az),be,([H],a5,.cons ([],s6 _ _ h4,(([],rfl,nodup_nil,λx hx=>(by cases hx),λx=>(λz=>(by cases z),λz=>absurd rfl z)),λx n c e=>nomatch e)) .nil,λb u=>?_),(bn,v _ _ bq,bV.cS (cJ.of v) bC),?_,λar hp=>cU.same v (cU.sameX aR G (cU.sameX t a4 (bz ar hp)))),v,none_of X nE,none_of X R,none_of X (none_of aC E))
   .rw[show lE=ag from z]at a0;rw[E]at a0;cases a0
   .cases zF.mp u;exact λz=>by rw[show H=dE from z,bG]at a2;cases a2
   .rcases hB with h|⟨o,h⟩
    .exact .inl (v _ _ (ob _ _ h λz=>by rw[z,t]at h;cases h))
    .exact .inr (o,v _ _ (ob _ _ h λz=>by rw[z,t]at h;cases h))
  rintro q N ⟨y,rfl,br,bs,Nn,W3,s3,nE,R,E⟩;subst br;subst bs;have iQ:0<(Aq l).length:=by rwa[CN]
  obtain⟨x3,y3,ja⟩:=W3.di;refine(λq M=>(∃x8 x9 Q,q=[U (.ref y.d),U (.int 12),U (.ref f),U (.ref y.u),U (.str r),U (.ref y.z.b),U (.ref y.t),U (.bl gl),x8,x9,Q])/\∃g D F,Ws j C p an y (Aq l) r g D F M/\Ch (Aq l) r F D g/\D.length<=31/\Kp y N M,λbl hR=>?_,?_)
  .refine(_,Y,_,Y,_,_,Y,Y,y.d,x3,y3,13,Y,ja,qc,qb,λn a' b' n0 b5=>(n,Y,?_));have A:cz y.d N (upd N y.d (.lst [.int a',.int b'])):=(λb o e h=>by rw[AE h];exact e,(a',b',bA));generalize upd N y.d (.lst [.int a',.int b'])=H4 at A;have W4:=W3.dv Nn A;refine(by lia,by lia,HW (λa3 q M=>(∃x8 x9 Q,q=[U (.ref y.d),U (.int 12),U (.ref f),U (.ref y.u),U (.str r),U (.ref y.z.b),U (.ref y.t),U (.bl gl),x8,x9,Q])/\∃g D F,Ws j C p an y (Aq l) r g D F M/\Ch (Aq l) r F D g/\D.length<=a3/\Kp y N M) ((_,_,_,Y),_,_,_,W4,.nil,zq _,.one A.old (.inl Y)) ?_ (λq M zz=>by obtain⟨h1,g,D,F,h2,h3,h4,h5⟩:=zz;exact hR _ _ (h1,g,D,F,h2,h3,by lia,h5)));rintro a3 q H5 hj ⟨⟨x8,x9,Q,rfl⟩,g,D,F,W5,ch,lD,kp⟩;refine(_,Y,_,Y,_,Y,_,Y,_,Y,.mk y (Aq l) r g D F Y W5 Nn ch (by lia) DO iQ bw λab a1 b1 g' D' F' H6 e6 dq W6 bp k6 l6=>(ab,_,Y,cD.of e6,Y,_,_,Y,_,_,Y,Y,?_));obtain⟨dd,bU,bW,ba,bX⟩:=dq;refine(_,Y,_,Y,_,Y,_,Y,dd,dd,bU,bW,ba,ba,?_);rw[bX];exact((_,_,_,Y),g',D',_,W6,bp,by lia,kp.trans k6)
  rintro q H4 ⟨⟨x8,x9,Q,rfl⟩,g0,D0,F0,W4,bo,bS,bR⟩;obtain⟨⟨F1,eF⟩,_⟩:=bo.last;subst eF;obtain⟨gU,a7,gO,_⟩:=W4.tb;obtain⟨ts,ta,rfl,_,_⟩:=B3 gO;obtain⟨_,b0,b2,_⟩:=W4.at a7;refine(_,Y,_,Y,_,Y,y.t,_,-1,.ref ta,Y,Y,bZ.of a7,MS _ _,_,Y,_,Y,_,Y,by show 5<=sizeLine;decide,λab hq=>?_);have s5:=AD (bD.refl _) hq (o:=HO.tup [.ref y.z.b,.ref ta,.ref y.u,.str r,.bl gl]);refine bQ ab y (Aq l) r g0 D0 _ ta _ (Y,W4.same Nn s5,Nn,b0.keep (λb xs e=>s5 _ _ e) (λ_ e=>s5 _ _ e),b2,bS,DO,λx hx=>bx x (by rwa[Ud]at hx),bw) bA λb xs e u=>?_;have e1:=ob _ _ e u;have T:∀{c:jr},I c=J->b≠c:=λn z=>by rw[z,n]at e1;cases e1
  exact((T nE,T R,T E),s5 _ _ (bR b _ (s3 _ _ e1) u (T nE) (T R) (T E) (λ_ z=>nomatch z) λ_ z=>nomatch z))
noncomputable def gJ:List Pos:=[(628,36,628,78),(629,40,629,83),(630,40,630,85),(631,40,631,77),(632,40,632,77),(633,40,633,85),(634,40,634,78),(635,40,635,80),(638,32,638,66),(639,36,639,72),(640,36,640,73),(641,36,641,69),(643,40,643,81),(644,40,644,79),(645,49,645,97),(649,25,649,69),(651,21,651,63),(653,21,653,61)]
noncomputable abbrev q1:Str:="law.<locals>." ++ jy
noncomputable abbrev WG:jm:=[jP,jv,ju,jS,jW,kG,"_law_good","_law_there",kh,ma,"_law_lacks","_law_place"]
def ft:AH WG [jP] (defScope Dh):=cY
def X6(u:Jw f c b 2)(h:∀p d,Nx H d->d p=U (.tup [.str jE,.str kz,v])->Q (.ref p) d):g6 H (Ei f c g Q) b v:=λe l y o _ _ _ _ j=>(b,rfl,λq a=>.inr (2,l,v,u,rfl,by
 have i:l≠q:=λz=>by rw[←z,j]at a;cases a
 unfold del;rw[zh i]
 exact j,λp r x t=>h p r (Nx.exc o a x) t))
def jh.atC{X:Cx}{ls}{q}(B:jh X.prog X.w X.K X.mg X.base m f)(j:X.env.code=.ref c)(a:W.CodeHd X.base c b)(d:X.base.BuiltinsAt X.mg b)(h:X.K=n)(e:X.env.qual ++ jy=q)(g:Gl X jB)(i:(ls.all λl=>ls.all λq=>decide (q=l) || !(q.line==l.line&&q.col==l.col))=L):WE X n q m f c b ls:=(B.fn,B.M,B.EX,B.GW,(j,a,d),i,g,h,e)
abbrev stR(a:jr)(y:Zw)(t lt:jr)(r:Str)(b c d e:Option V):St:=[U (.ref a),U (.ref y.d),U (.ref y.z.b),U (.ref t),U (.ref y.u),U (.str r),U (.bl L),U (.ref lt),b,c,d,e]
def dY.nokey(B:dY b C z c r g D H)(h:x∉ ff):g x=J:=by
 obtain⟨d,_,a⟩:=B.en;obtain⟨i,_,k⟩:=a.ks;exact Classical.byContradiction λe=>h (k.w x ((k.mem x).mpr e))
def Wc(h:H b=U (.tup [.str jE,.str kz,v]))(a:Ba c H d v):Ba c H (.tuple [.str jE,.str kz,d]) (.ref b):=by
 refine(b,_,Y,cD.of h,?_);refine(_,_,Y,by rw[Ba],(_,_,Y,by rw[Ba],?_));refine(_,_,Y,a,?_);rw[Bd]
def Dq.t3(j:H a=U (.tup [.str jE,.str kz,v]))(l:H b=U (.tup [.str jE,.str kz,v]))(h:Ba f H d v)(c:SeqAt.shaped (.tuple [.str jE,.str kz,d])=L)(e:PyData.eqv d d=L):Dq f H (.ref a) (.ref b):=(_,Wc j h,Wc l h,c,EW λx i=>by
 simp at i;rcases i with rfl|rfl|rfl
 .exact Bo _
 .exact Bo _
 .exact e)
structure Lw(P:Program)(w:World)(K:FG)(mg:SV)(base:Heap)(BC C VC bd cB cR cN cT cM c P0:jr)(ec:Nat->jr)(T:List (jr×Str×List Pos)):Prop where
 hC:W.CodeHd base c P0
 hBu:base.BuiltinsAt mg P0
 TB:jh P w K mg base ec cM
 hT:(P0,q1,(gJ))∈T
 un:∀p∈T,∀q∈T,q.1=p.1->q=p
 B:Bl mg
 BT:DA K BC
 iM:FP K ec cM cB 5
 EPN:FP K ec cM cN 6
 EFT:Jw K ec cT 2
 GRd:Fn P w K mg base nz 2 [jP,j5] (spRounds K)
 GLb:Fn P w K mg base ox 13 [jv,j5] (spLb BC C bd T)
 GBl:Fn P w K mg base mi 7 [ju,jS] (spBl BC C)
 GPu:B6 P w K mg base BC "put" 7 [jt,jx,jZ] (spPu BC C cB)
 GMk:B6 P w K mg base BC "mark" 7 [jt,jx,"more"] (spMr gOr BC C cB)
 GUm:B6 P w K mg base BC "unmark" 7 [jt,jx,"less"] (spMr LM BC C cB)
 GTn:B6 P w K mg base BC "turn" 7 [jt,jx] (spTn BC C cB)
 GDr:B6 P w K mg base BC oo 4 [jt,jx] (spDr BC C cB)
 GRc:B6 P w K mg base BC "reckon" 8 [jt,jx,ku] (spRc BC C cR cN cB cT bd)
 GVl:B6 P w K mg base BC lI 6 [jt,jx] (spVl BC C VC cB)
 GCh:B6 P w K mg base BC oB 4 [jt,jx] (spCh BC C cB)
 GHv:B6 P w K mg base BC "having" 7 [jt,jZ] (spHv BC C cB)
abbrev eT(P:Program)(w:World)(e:FG)(b:SV)(a:Heap)(c f:jr)(A:Around)(d:List Env)(s:js)(H:Hp)(E:XK):Cx:=(Bf cF P w e b a WG nq (defScope Dh) f (.ref c) A d s H E).gX
def Lw.td(a:Lw P w b i e j C l m n p o q g c d h T):WE (eT P w b i e c f A r s H E) b q1 h g c d gJ:=a.TB.at a.hC a.hBu qb
structure Rp where
 (a t lt:jr) (y:Zw) (bG:Aa) (r:Str) (g:En) (D:iC) (F:List En) (H4:Hp) (nt:jm)
abbrev Rp.W(p:Rp)(b C c:jr)(T:List (jr×Str×List Pos))(H:Hp):Prop:=Ws b C c T p.y p.bG p.r p.g p.D p.F H
abbrev Rp.st(p:Rp)(b c d e:Option V):St:=stR p.a p.y p.t p.lt p.r b c d e
structure RpOk(BC C bd:jr)(T:List (jr×Str×List Pos))(p:Rp):Prop where
 N:Nd bd p.y
 W:p.W BC C bd T p.H4
 te:p.t≠p.y.z.e
 tb:eI p.H4 p.t p.g
 lt:∀H,Kp p.y p.H4 H->H p.lt=U (.lst (p.nt.map V.str))
 nt:∀x∈p.nt,p.g x≠J
 nl:p.nt.length<=6
 lD:p.D.length<=31
 dk:C5 p.bG
 wd:∀x∈p.bG.map (·.1),x∈dh
 hr:p.r∈c9
inductive Sa(a C b:jr)(T:List (jr×Str×List Pos))(p:Rp)(c:St)(H:Hp):Prop
 |mk x8 x9 xa xb(e:c=p.st x8 x9 xa xb)(W:p.W a C b T H)(kp:Kp p.y p.H4 H)
inductive Sl(n:Nat)(a C b:jr)(T:List (jr×Str×List Pos))(p:Rp)(c:St)(H:Hp):Prop
 |mk x8 x9 xb l as(e:c=p.st x8 x9 (U (.ref l)) xb)(R:Rf a C b T p.y p.bG p.r p.g p.D p.F p.H4 l as H)(d:1<=as.length)(f:as.length<=n)
abbrev PrR:=jr->jr->jr->List (jr×Str×List Pos)->Rp->St->Hp->Prop
def gS(X:Cx)(a C b:jr)(T:List (jr×Str×List Pos))(st:Stmt)(A B:PrR):Prop:=∃t,PSw X st t/\∀p,RpOk a C b T p->∀D e H,A a C b T p e H->(∀d c,B a C b T p d c->D.nx d c)->t D e H
def WH(X:Cx)(a C b:jr)(T:List (jr×Str×List Pos))(c:List Stmt)(A B:PrR):Prop:=∃t,fH X c t/\∀p,RpOk a C b T p->∀D f H,A a C b T p f H->(∀e d,B a C b T p e d->D.nx e d)->t D f H
def gS.cons{C}{e c}{T}{X}{st}{d}{A B j}(a:gS X e C c T st A B)(b:WH X e C c T d B j):WH X e C c T (st::d) A j:=by
 obtain⟨t,a,l⟩:=a;obtain⟨u,b,v⟩:=b;exact(_,DQ a b,λp f D q H h post=>l p f _ q H h λi r o=>v p f D i r o post)
def gS.one{st}(a:gS X b C c T st A B):WH X b C c T [st] A B:=by
 obtain⟨t,a,d⟩:=a;exact(_,Ef a,d)
def Lw.tdW(f:Lw P w y x n b C m g o t s u r c j v T)(l:RpOk b C g T p)(W:p.W b C g T H)(d:Ky j H a)(h:cU a j q1 gJ):Kt H a/\p.W b C g T a:=W.td l.N f.hT (λq i e=>f.un _ f.hT q i e) d h
def Rf.keep(R:Rf c C i T y f r g D F j l o H)(k:Kt H m)(n:Nx m e)(d:Ws c C i T y f r g D F e):Rf c C i T y f r g D F j l o e:=(d,R.n1,R.n2,R.n3,R.n4,R.nw,(R.kp.trans k.kp).trans (.nx n),n _ _ (k _ _ R.h λ_ z=>nomatch z) (λ_ _ z=>nomatch z),λb a=>n _ _ (k _ _ (R.ts b a) λ_ z=>nomatch z) λ_ _ z=>nomatch z)
def HU(H:Hp)(l:jr):Hp:=λb=>if b=l then J else H b
def Rf.off(R:Rf c C s T y n r g D F f l m H):Rf c C s T y n r g D F (HU H l) l m H/\Kp y f (HU H l):=by
 have e:∀b,b≠l->HU H l b=H b:=λb h=>zh h;have j:HU H l l=J:=zg rfl;refine((R.W,R.n1,R.n2,R.n3,R.n4,λo h=>?_,λb o h _ _ _ _ _ _=>?_,R.h,R.ts),λb o h t i q p a d=>?_)
 .rw[j]at h;cases h
 .rwa[e b λz=>by rw[z,j]at h;cases h]at h
 .rw[e b λz=>i (z.trans (R.nw o (z ▸ h) a d))];exact R.kp b o h t i q p a d
def Rf.to(R:Rf b C j T y i r g D F e l f H)(k:Kp y c e):Rf b C j T y i r g D F c l f H:=(R.W,R.n1,R.n2,R.n3,R.n4,λo h a d=>Classical.byContradiction λz=>z (R.nw o (k l o h R.n1 z R.n2 R.n3 a d) a d),k.trans R.kp,R.h,R.ts)
def Ws.new(W:Ws b C f T y c r g D F H)(h:H q=J):q≠y.d/\q≠y.z.e/\q≠y.z.l/\q≠y.t:=by
 obtain⟨_,_,a⟩:=W.di;obtain⟨_,e,_⟩:=W.B.de;obtain⟨_,i,_⟩:=W.tb;obtain⟨_,d,_⟩:=W.B.en;refine(?_,?_,?_,?_)<;>(rintro rfl;simp_all)
def Ws.kpn(W:Ws m C s T y n r g D F H)(h:H q=J)(k:Kp y b c)(e:b q=U o)(f:∀a,o≠ .fJ a)(i:∀t,o≠ .ext t):c q=U o:=by
 obtain⟨p,l,d,j⟩:=W.new h;exact k q o e p l d j f i
def Ue(h:0<w.length)(b:∀k,k<w.length->Jx lt ⟨(w.take (k+1)).toArray⟩=L):iT lt w:=(h,λk d e x a=>by
 rw[Iw (y:=⟨(w.take (k-1+1)).toArray⟩) (a.trans (by rw[show k-1+1=k by lia]))]
 exact b (k-1) (by lia))
def ax:Rn L "" (.bad 0) 0 [] [] L:=.ends [] [] L (.inl rfl) qd
def We(b:z.cps.toList=[90,90]++post)(d:Sep post):KJ L z 0 2/\sl z 0 2="ZZ":=by
 obtain⟨a,e⟩:=QL (lt:=L) (pre:=[]) (w:=[90,90]) b (Ue qc qb) d;exact(a,e.trans qb)
def Zh:Rn L "ZZ|" (.bad 3) 0 [] [] L:=
 .part 0 2 [] [] (We (post:=[124]) qb λc a=>by cases a;exact(rfl,rfl)).1 qc
  (.join 2 _ [] [] .or True.intro qb (λq b=>nomatch b) qc (.ends _ _ L (.inl rfl) qd))
def Zi(b:z.cps.toList=[122]++post)(d:Sep post):KJ L z 0 1/\sl z 0 1="z":=by
 obtain⟨a,e⟩:=QL (lt:=L) (pre:=[]) (w:=[122]) b (Ue qc qb) d;exact(a,e.trans qb)
def ay:Rn L "zz" (.bad 1) 0 [] [] L:=
 .part 0 1 [] [] (Zi (post:=[122]) qb λc a=>by cases a;exact(rfl,rfl)).1 qc
  (.stop 1 122 _ _ O qb (.between qc qc qc qc qc) rfl)
def Zj:Rn L "ZZ" (.ok ["ZZ"]) 0 [] [] L:=by
 have h:=We (z:="ZZ") (post:=[]) qb λc a=>nomatch a;exact .part 0 2 [] [] h.1 qc (.done _ [] (λq d=>nomatch d) rfl)
def X7:Rn L "z|ZZ" (.ok ["z","ZZ","|"]) 0 [] [] L:=by
 have h:=Zi (z:="z|ZZ") (post:=[124,90,90]) qb λc a=>by cases a;exact(Y,Y)
 obtain⟨e,d⟩:=QL (lt:=L) (z:="z|ZZ") (pre:=[122,124]) (w:=[90,90]) (post:=[]) qb (Ue qc qb) λc a=>nomatch a;have d:sl "z|ZZ" 2 4="ZZ":=d.trans qb;refine .part 0 1 [] [] h.1 qc ?_;exact .join 1 _ [] [] .or True.intro qb (λq b=>nomatch b) qc (.part 2 2 _ _ e qc (.done _ [.or] (λq b=>by cases zF.mp b;decide) qd))
def Rf.same(R:Rf b C a T y i r g D F d l f H)(N:Nd a y)(s:bD H c):Rf b C a T y i r g D F d l f c:=R.keep (λ_ _ e _=>e) (.same s) (R.W.same N s)
def RpOk.tbk(c:RpOk d C f T p)(k:Kp p.y p.H4 H):eI H p.t p.g:=c.tb.keep (λb a e=>k.tp c.W e) λ_ e=>k.dk c.W e c.te
abbrev Rp.at(p:Rp)(H:Hp):Rp:={p with H4:=H}
def Lw.app(f:Lw P w m X M b C I g D Q N S n c A s T)(z:RpOk b C g T p)(R:Rf b C g T p.y p.bG p.r p.g p.D p.F x l y H)(d:v[i]?=U (U (.ref l)))(t:y.length<=1000)(r:∀a h,p.W b C g T a->Kp p.y x a->Uq a (Ei m s n h) D->o (Ei m s n h) (Rv G v) a h)(k:∀q j,Rf b C g T p.y p.bG p.r p.g p.D p.F x l (y++[q]) j->E.nx v j):SA (tBM m jH Ir (Ij i) (AY (Nt m s n A q1 gJ G o) BS)) E v H:=R.app z.N f.hT (λq u e=>f.un _ f.hT q u e) f.iM d t r k
def Zk(k:∀e lb h d b a,bD H a->(∀q∈ [e,lb,h,d,b],H q=J)->a e=U (.lst [.str "ZZ"])->a lb=U (.lst [.bQ])->a h=U (.tup [.str "A",.str "ZZ"])->a d=U (.lst [.int 5])->a b=U (.lst [.bQ,.int 5,.str "A",.ref e,.ref lb,.ref h,.ref d])->Q (.ref b) a):LU (AY (tC .bQ) (AY (tC (.int 5)) (AY (tC (.str "A")) (AY (LU (AY (tC (.str "ZZ")) BS)) (AY (LU (AY (tC .bQ) BS)) (AY (JF (AY (tC (.str "A")) (AY (tC (.str "ZZ")) BS))) (AY (LU (AY (tC (.int 5)) BS)) BS))))))) c H Q:=by
 refine(by show 1<=sizeLine;decide,λe t=>(by show 1<=sizeLine;decide,λlb r=>(by show 2<=sizeLine;decide,λh l=>(by show 1<=sizeLine;decide,λd p=>(by show 7<=sizeLine;decide,λb u=>?_)))));have i:=AD (bD.refl _) t (o:=HO.lst [.str "ZZ"]);have v:=AD (bD.refl _) r (o:=HO.lst [.bQ]);have s3:=AD (bD.refl _) l (o:=HO.tup [.str "A",.str "ZZ"]);have j:=AD (bD.refl _) p (o:=HO.lst [.int 5]);have x:=AD (bD.refl _) u (o:=HO.lst [.bQ,.int 5,.str "A",.ref e,.ref lb,.ref h,.ref d]);refine k e lb h d b _ ((((i.trans v).trans s3).trans j).trans x) (λq y=>?_) (x _ _ (j _ _ (s3 _ _ (v _ _ bA)))) (x _ _ (j _ _ (s3 _ _ bA))) (x _ _ (j _ _ bA)) (x _ _ bA) bA;simp only[mem_cons,not_mem_nil,or_false]at y;rcases y with rfl|rfl|rfl|rfl|rfl
 .exact t
 .exact none_of i r
 .exact none_of (i.trans v) l
 .exact none_of ((i.trans v).trans s3) p
 .exact none_of (((i.trans v).trans s3).trans j) u
def Zl(k:∀l lb r i j b a,bD H a->(∀q∈ [l,lb,r,i,j,b],H q=J)->a l=U (.tup [.bQ,.bQ])->a lb=U (.tup [.int 5,.bQ])->a r=U (.tup [.str "",.int 0])->a i=U (.tup [.str "ZZ|",.int 3])->a j=U (.tup [.str "zz",.int 1])->a b=U (.lst ([l,lb,r,i,j].map V.ref))->Q (.ref b) a):LU (AY (JF (AY (tC .bQ) (AY (tC .bQ) BS))) (AY (JF (AY (tC (.int 5)) (AY (tC .bQ) BS))) (AY (JF (AY (tC (.str "")) (AY (tC (.int 0)) BS))) (AY (JF (AY (tC (.str "ZZ|")) (AY (tC (.int 3)) BS))) (AY (JF (AY (tC (.str "zz")) (AY (tC (.int 1)) BS))) BS))))) c H Q:=by
 refine(by show 2<=sizeLine;decide,λl y=>(by show 2<=sizeLine;decide,λlb x=>(by show 2<=sizeLine;decide,λr u=>(by show 2<=sizeLine;decide,λi v=>(by show 2<=sizeLine;decide,λj z=>(by show 5<=sizeLine;decide,λb A=>?_))))));have d:=AD (bD.refl _) y (o:=HO.tup [.bQ,.bQ]);have p:=AD (bD.refl _) x (o:=HO.tup [.int 5,.bQ]);have s3:=AD (bD.refl _) u (o:=HO.tup [.str "",.int 0]);have e:=AD (bD.refl _) v (o:=HO.tup [.str "ZZ|",.int 3]);have t:=AD (bD.refl _) z (o:=HO.tup [.str "zz",.int 1]);have h:=AD (bD.refl _) A (o:=HO.lst ([l,lb,r,i,j].map V.ref));refine k l lb r i j b _ (((((d.trans p).trans s3).trans e).trans t).trans h) (λq B=>?_) (h _ _ (t _ _ (e _ _ (s3 _ _ (p _ _ bA))))) (h _ _ (t _ _ (e _ _ (s3 _ _ bA)))) (h _ _ (t _ _ (e _ _ bA))) (h _ _ (t _ _ bA)) (h _ _ bA) bA;simp only[mem_cons,not_mem_nil,or_false]at B;rcases B with rfl|rfl|rfl|rfl|rfl|rfl
 .exact y
 .exact none_of d x
 .exact none_of (d.trans p) u
 .exact none_of ((d.trans p).trans s3) v
 .exact none_of (((d.trans p).trans s3).trans e) z
 .exact none_of ((((d.trans p).trans s3).trans e).trans t) A
def t2(a:Lw P al f h g BC as VC bd cB cR cN cT cM c P0 ec az)(j:bJ 13 (eT P al f h g c a0 ar a2 a4 H E).A):gS (eT P al f h g c a0 ar a2 a4 H E) BC as bd az (DV (Bx (DV (defBody Dh) 0)) 2) Sa Sa:=by
 have r:bJ (8+2) (eT P al f h g c a0 ar a2 a4 H E).A:=j.mono qc
 refine(_,Pz PassesOwn.never Y (On (Ho (K1 (JY (CS (CS (CS (CS (JZ (EA (CS Bu)) (CS Bu)))))))))) (BH 8 ft.nd)
  (.mk (AB (A5 9 ft.nd (As (cZ (B7 a.td r 0 [ju,kh] [2,8] (λM i Q d m t E j=>BZ (Z 0) a.BT.cl a.GPu j BJ (cW (Z 1) B9))))))
  (AB (AV (Aw (Z 9) (cZ (B7 a.td r 1 [ju,kh] [2,8] (λM i Q d m t E j=>BZ (Z 0) a.BT.cl a.GMk j BJ (cW (Z 1) B9))))))
  (AB (AV (Aw (Z 9) (cZ (B7 a.td r 2 [ju,kh] [2,8] (λM i Q d m t E j=>BZ (Z 0) a.BT.cl a.GUm j BJ (cW (Z 1) B9))))))
  (AB (AV (Aw (Z 9) (cZ (B7 a.td r 3 [ju,kh] [2,8] (λM i Q d m t E j=>BZ (Z 0) a.BT.cl a.GTn j BJ (cZ (Z 1)))))))
  (AB (AV (Aw (Z 9) (cZ (B7 a.td r 4 [ju,kh] [2,8] (λM i Q d m t E j=>BZ (Z 0) a.BT.cl a.GDr j BJ (cZ (Z 1)))))))
  (AB (AV (Aw (Z 9) (cZ (B7 a.td r 5 [ju,kh] [2,8] (λM i Q d m t E j=>BZ (Z 0) a.BT.cl a.GRc j BJ (cW (Z 1) B9))))))
  (AB (AV (Aw (Z 9) (cZ (B7 a.td r 6 [ju,kh] [2,8] (λM i Q d m t E j=>BZ (Z 0) a.BT.cl a.GVl j BJ (cZ (Z 1)))))))
  (AB (AV (Aw (Z 9) (cZ (B7 a.td r 7 [ju,kh] [2,8] (λM i Q d m t E j=>BZ (Z 0) a.BT.cl a.GCh j BJ (cZ (Z 1)))))))
  (AC (AU (AL (Ew f rfl j.units) (Z 9) (AX (Lm f rfl) (As (cZ (Ab (cW AI AI)))) AF) (AN _)) (AC Ag) AM))))))))))),λp l ba an H ⟨x8,x9,xa,xb,e,W,kp⟩ post=>?_)
 subst e;refine(by show 1<=sizeLine;decide,λG aC=>(by show 8<=sizeLine;decide,λlb S=>?_));have w:=AD (bD.refl H) aC (o:=HO.tup [.str "a"]);have ha:=bA (H:=H) (a:=G) (o:=HO.tup [.str "a"]);generalize upd H G (.tup [.str "a"])=ab at w ha S;have sb:=AD (bD.refl ab) S (o:=HO.lst [.bQ,.int 5,.str "",.str "A",.str nr,.str "a b",.ref G,.str "ab1"]);have I:=bA (H:=ab) (a:=lb) (o:=HO.lst [.bQ,.int 5,.str "",.str "A",.str nr,.str "a b",.ref G,.str "ab1"]);generalize upd ab lb (.lst [.bQ,.int 5,.str "",.str "A",.str nr,.str "a b",.ref G,.str "ab1"])=s at sb I;have sc:bD H s:=λb o e=>sb _ _ (w _ _ e);have Wp:=W.same l.N w;have kc:Kp p.y p.H4 s:=kp.trans (.nx (.same sc));have kt:∀{t},Kp p.y s t->t G=U (.tup [.str "a"]):=λk=>W.kpn aC k (sb _ _ ha) (λ_ z=>nomatch z) λ_ z=>nomatch z
 have B:∀v∈([.bQ,.int 5,.str "",.str "A",.str nr,.str "a b",.ref G,.str "ab1"]:jq),∀t,Kp p.y s t->NbV t v/\Nk t p.g v:=λv B t k=>by
  have u:∀x:Str,x.cps.all (· < 128)=gl->x.length<=100->KL x=gt->x∉ ff->NbV t (.str x)/\Nk t p.g (.str x):=λx h1 h2 h3 h4=>(.inl (x,rfl,h1,h2,h3),.str x (W.B.nokey h4));simp only[mem_cons,not_mem_nil,or_false]at B;rcases B with rfl|rfl|rfl|rfl|rfl|rfl|rfl|rfl
  .exact(.inr .bQ,.bQ)
  .exact(.inr (.int _),.int _)
  .exact u _ qb qb qb qb
  .exact u _ qb qb qb qb
  .exact u _ qb qb qb qb
  .exact u _ qb qb qb qb
  .exact(.inr (.tup _ _ (kt k)),.tup _ _ (kt k))
  .exact u _ qb qb qb qb
 refine(lb,rfl,(_,bZ.of I),CC (ω:=f) (a:=lb) (xs:=[.bQ,.int 5,.str "",.str "A",.str nr,.str "a b",.ref G,.str "ab1"]) (λ_=>Sa BC as bd az (p.at s)) (_,_,_,_,rfl,W.same l.N sc,.refl _) (λa6 an H2 _ zq=>by obtain⟨_,_,_,_,_,_,k⟩:=zq;exact bZ.of (Wp.kpn S k I (λ_ z=>nomatch z) λ_ z=>nomatch z)) ?_ λan H2 zv=>by obtain⟨x8,x9,xa,xb,e,A,k⟩:=zv;exact post _ _ (x8,x9,xa,xb,e,A,kc.trans k));intro a6 v an H2 hi a5;refine egN λDf eD=>?_;have B:=B v (zP hi);refine ez λN eN=>?_;obtain⟨x8,x9,xa,xb,rfl,A,k2⟩:=a5;refine(A.tabs _ a.hT,λq w ta=>?_);obtain⟨ka,X⟩:=a.tdW l A w ta;refine(_,rfl,X.B.no (_,rfl,.no _ _ _ rfl (B q (k2.trans ka.kp)).1 (X.uq l.N a.iM λa3 Hb nb Wb eb=>(by show 1<=sizeLine;decide,λa1 hl=>?_))));have R:=Rf.new Wb l.N ((k2.trans ka.kp).trans (.nx nb)) hl eb;generalize upd Hb a1 (.lst [.ref a3])=n at R
 iterate 7
  refine(d3 eN (ez λN eN=>?_):N _ _);refine a.app l R Y (by simp) (λq Q' X k ag=>(_,Y,X.B.no (_,Y,?_))) λa3 n R=>?_
  .first
    |exact .no p.y.z p.bG p.r p.g p.D v rfl X.B (B q k).2 ag
    |exact .no p.y.z p.bG p.r p.g p.D v _ rfl X.B (B q k).2 ag
    |exact .no _ _ _ rfl (B q k).1 ag
 refine(d3 eN ?_:N _ _);refine(_,Y,by show 2<=sizeLine;decide,λy iI=>(by show 1<=sizeLine;decide,λC i7=>?_));have s5:=AD (bD.refl n) iI (o:=eX jD);have h5:(upd n y (eX jD)) y=U (eX jD):=bA;generalize upd n y (eX jD)=T at s5 h5 i7;have s6:=AD (bD.refl T) i7 (o:=HO.lst [.ref y]);have h6:(upd T C (.lst [.ref y])) C=U (.lst [.ref y]):=bA;generalize upd T C (.lst [.ref y])=H6 at s6 h6;refine(C,_,_,Y,Y,bZ.of h6,qc,qc,λD iP=>?_);have s7:=AD (bD.refl H6) iP (o:=HO.lst (List.replicate (8:Int).toNat (V.ref y)));have h7:(upd H6 D (.lst (List.replicate (8:Int).toNat (V.ref y)))) D=U (.lst ((List.replicate 8 y).map V.ref)):=by rw[bA,List.map_replicate];rfl
 generalize upd H6 D (.lst (List.replicate (8:Int).toNat (V.ref y)))=H7 at s7 h7;have F:bD n H7:=λb o e=>s7 _ _ (s6 _ _ (s5 _ _ e));obtain⟨dd,a7,a8,aM,a9⟩:Dq f H7 (.ref a1) (.ref D):=.rep (F _ _ R.h) h7 (by rw[length_replicate];rfl) (λb I=>F _ _ (R.ts b I)) (λb I=>(mem_replicate.mp I).2 ▸ s7 _ _ (s6 _ _ h5));refine(dd,dd,a7,a8,aM,aM,_,Y,?_);rw[a9];exact AS ((d3 eD (_,_,_,_,Y,R.W.same l.N F,R.kp.trans (.nx (.same F))):Df.nx _ _))
def t3(a:Lw P w m g b S C VC X cB cR cN cT cM c P0 ec T)(h:bJ 13 (eT P w m g b c f A n s H E).A):gS (eT P w m g b c f A n s H E) S C X T (DV (Bx (DV (defBody Dh) 0)) 3) Sa (Sl 1):=by
 have i:bJ (8+2) (eT P w m g b c f A n s H E).A:=h.mono qc;refine(_,⟨A5 10 ft.nd (As (cZ (B7 a.td i 8 [ju] [2] (λF N G al ag R E h=>BZ (Z 0) a.BT.cl a.GVl h BJ (cZ AI)))))⟩,λp ab D M H ⟨x,u,B,v,e,W,kp⟩ post=>?_);subst e;refine(W.tabs _ a.hT,λQ t y=>?_);obtain⟨r,d⟩:=a.tdW ab W t y;exact(_,Y,d.B.no (.no p.y.z p.bG p.r p.g p.D (.str "zz") Y d.B (.str _ (d.B.nokey qb)) (d.uq ab.N a.iM λq I nb o z=>(by show 1<=sizeLine;decide,λl j=>post _ _ (x,u,v,l,[q],Y,Rf.new o ab.N ((kp.trans r.kp).trans (.nx nb)) j z,zq _,zq _)))))
def t4(b:Lw P w n m g x C Q y S cR cN cT X c z ec T)(d:bJ 13 (eT P w n m g c f A v s H E).A):gS (eT P w n m g c f A v s H E) x C y T (DV (Bx (DV (defBody Dh) 0)) 4) (Sl 1) (Sl 2):=by
 have i:bJ (8+2) (eT P w n m g c f A v s H E).A:=d.mono qc;refine(_,⟨AV (Aw (Z 10) (cZ (B7 b.td i 9 [ju] [2] (λal ag an a G N E d=>BZ (Z 0) b.BT.cl b.GCh d BJ (cZ AI)))))⟩,λp ab D I H ⟨t,o,r,l,j,e,R,ar,as⟩ post=>?_);subst e;exact b.app ab R Y (by lia) (λM F h k u=>(_,Y,h.B.no (.no p.y.z p.bG p.r p.g p.D (.str "zz") Y h.B (.str _ (h.B.nokey qb)) u))) λq B R2=>post _ _ (t,o,r,l,j++[q],Y,R2,by rw[zG];simp_all,by rw[zG];show j.length+1<=2;simp_all)
def t5(b:Lw P w n m g y C VC z cB cR cN cT cM c X ec T)(d:bJ 13 (eT P w n m g c f A x s H E).A):gS (eT P w n m g c f A x s H E) y C z T (DV (Bx (DV (defBody Dh) 0)) 5) (Sl 2) (Sl 3):=by
 have i:bJ (8+2) (eT P w n m g c f A x s H E).A:=d.mono qc;refine(_,⟨AV (Aw (Z 10) (cZ (B7 b.td i 10 [ju] [2] (λal M an a I S E d=>BZ (Z 0) b.BT.cl b.GMk d BJ (cW AI (As AG))))))⟩,λp ab D ag H ⟨v,r,t,l,o,e,R,ar,B⟩ post=>?_);subst e;exact b.app ab R Y (by lia) (λQ G h k u=>(_,Y,h.B.no (by show 0<=sizeLine;decide,λN j=>.no p.y.z p.bG p.r p.g p.D (.str "zz") _ Y (h.B.same (AD (bD.refl _) j)) (.str _ (h.B.nokey qb)) (Uq.of (AD (bD.refl _) j) u)))) λq F R2=>post _ _ (v,r,t,l,o++[q],Y,R2,by rw[zG];lia,by rw[zG];show o.length+1<=3;lia)
def t6(b:Lw P w n m g x C Q y S cR cN cT X c z ec T)(d:bJ 13 (eT P w n m g c f A v s H E).A):gS (eT P w n m g c f A v s H E) x C y T (DV (Bx (DV (defBody Dh) 0)) 6) (Sl 3) (Sl 4):=by
 have i:bJ (8+2) (eT P w n m g c f A v s H E).A:=d.mono qc;refine(_,⟨AV (Aw (Z 10) (cZ (B7 b.td i 11 [ju] [2] (λal ag an a G N E d=>BZ (Z 0) b.BT.cl b.GDr d BJ (cZ AI)))))⟩,λp ab D I H ⟨t,o,r,l,j,e,R,ar,as⟩ post=>?_);subst e;exact b.app ab R Y (by lia) (λM F h k u=>(_,Y,h.B.no (.no p.y.z p.bG p.r p.g p.D (.str "zz") Y h.B (.str _ (h.B.nokey qb)) u))) λq B R2=>post _ _ (t,o,r,l,j++[q],Y,R2,by rw[zG];simp_all,by rw[zG];show j.length+1<=4;simp_all)
def t7(a:Lw P w f m j BC ag VC bd cB cR cN cT cM c P0 ec ar)(g:bJ 13 (eT P w f m j c az ab aC aM H E).A):gS (eT P w f m j c az ab aC aM H E) BC ag bd ar (DV (Bx (DV (defBody Dh) 0)) 7) (Sl 4) (Sl 1000):=by
 have an:bJ (8+2) (eT P w f m j c az ab aC aM H E).A:=g.mono qc
 refine(_,Pz PassesOwn.never Y (On (Ho (K1 (JY (CS (TF (Ho (CS Bu)) (TF (Ho (K1 Bu)) (JZ (EA (CS (CS Bu))) (TF (Ho (JY Bu)) Bu))))))))) (BH 8 ft.nd)
  (.mk (AB (AV (Aw (Z 10) (cZ (B7 a.td an 12 [ju,kh] [2,8] (λlf T A' a2 s' d E g=>BZ (Z 0) a.BT.cl a.GPu g BJ (cW AI (Z 1)))))))
  (AB (AV (Aw (Z 10) (cZ (B7 a.td an 13 [ju,kh] [2,8] (λlf T A' a2 s' d E g=>BZ (Z 0) a.BT.cl a.GHv g BJ (cZ (Z 1)))))))
  (AC (A5 10 ft.nd (AX Hh (Z 10) (RV [ju,kh] [U 2,U 8] qd qb qd rfl (BW (Z 7)) (λ_=>rfl) (λ_ _ _ _ _ _=>BR) (λcl D S C1 fp pn fv=>(show PE _ _ (Nt f ec cM P0 q1 gJ [1,0,2] _)from B7 (X:=f6 (U jG) xN (Bf cF P w f m j WG nq (defScope Dh) az (.ref c) ab aC aM H E).gX [jG,ju,kh] _ cl D S C1 fp pn) (a.TB.atC (q:=q1) (ls:=gJ) rfl a.hC a.hBu rfl rfl (by rfl) qb) an 14 [ju,jG,kh] [1,0,2] (λlf T A' a2 s' d E g=>BZ (Z 0) a.BT.cl a.GMk g BJ (cW (Z 1) (Z 2))) (h5:=fv)))))))))),λp n a9 a0 H ⟨x8,x9,xb,G,a3,e,R,X,hn⟩ post=>?_)
 subst e;refine fdN (Zk λu lb s ld le F se nn ha M hc hd he=>?_);obtain⟨R0,k0⟩:=(R.same n.N se).off;have B:∀{d:Hp}{q:jr}{o:HO},q∈ [u,lb,s,ld,le]->F q=U o->(∀ps,o≠ .fJ ps)->(∀a8,o≠ .ext a8)->Kp p.y (HU F G) d->d q=U o:=λh e h5 h6 k=>R.W.kpn (nn _ h) k (by unfold HU;rw[zh λz=>by have:=nn _ h;rw[z,R.h]at this;cases this];exact e) h5 h6;have C:∀{d},Kp p.y (HU F G) d->d u=U (.lst [.str "ZZ"]):=B (by simp) ha (λ_ z=>nomatch z) λ_ z=>nomatch z;have kb:∀{d},Kp p.y (HU F G) d->d lb=U (.lst [.bQ]):=B (by simp) M (λ_ z=>nomatch z) λ_ z=>nomatch z;have kc:∀{d},Kp p.y (HU F G) d->d s=U (.tup [.str "A",.str "ZZ"]):=B (by simp) hc (λ_ z=>nomatch z) λ_ z=>nomatch z;have kd:∀{d},Kp p.y (HU F G) d->d ld=U (.lst [.int 5]):=B (by simp) hd (λ_ z=>nomatch z) λ_ z=>nomatch z;have ke:∀{d},Kp p.y (HU F G) d->d le=U (.lst [.bQ,.int 5,.str "A",.ref u,.ref lb,.ref s,.ref ld]):=B (by simp) he (λ_ z=>nomatch z) λ_ z=>nomatch z;have zz:PM p.bG "ZZ"=f8:=ML λz=>absurd (n.wd _ z) qb
 have r:∀v∈([.bQ,.int 5,.str "A",.ref u,.ref lb,.ref s,.ref ld]:jq),∀d,Kp p.y (HU F G) d->iU p.bG d v:=λv r d k=>by
  simp only[mem_cons,not_mem_nil,or_false]at r;rcases r with rfl|rfl|rfl|rfl|rfl|rfl|rfl
  .exact .no (.inl Y)
  .exact .no (.inr (.inl (_,Y)))
  .exact .no (.inr (.inr (_,Y)))
  .exact .sq gt u [] _ [] rfl (C k) qc (λx t=>nomatch t) (.str _ zz)
  .exact .sq gt lb [] _ [] rfl (kb k) qc (λx t=>nomatch t) .bQ
  .by_cases hA:("A":Str)∈p.bG.map (·.1)
   .exact .sq gl s ["A"] _ [] Y (kc k) qc (λx t=>by cases zF.mp t;exact hA) (.str _ zz)
   .exact .sq gl s [] _ _ rfl (kc k) qc (λx t=>nomatch t) (.str _ (ML hA))
  .exact .sq gt ld [] _ [] rfl (kd k) qc (λx t=>nomatch t) (.int _)
 refine(le,rfl,(_,bZ.of he),CC (ω:=f) (a:=le) (xs:=[.bQ,.int 5,.str "A",.ref u,.ref lb,.ref s,.ref ld]) (λi=>Sl (4+8*i) BC ag bd ar (p.at (HU F G))) (_,_,_,G,a3,rfl,R0,X,hn) (λi a0 y _ zv=>by obtain⟨_,_,_,_,_,_,R,_,_⟩:=zv;exact bZ.of (ke R.kp)) ?_ λa0 y zw=>by obtain⟨x8,x9,xb,l,Q,e,R,X,hn⟩:=zw;exact post _ _ (x8,x9,xb,l,Q,e,R.to k0,X,Nat.le_trans hn (by show 4+8*7<=1000;decide)));intro i v a0 y hi h;refine egN λDf eD=>?_;have r:=r v (zP hi);have bb:i<7:=(z8.mp hi).1;refine ez λal eN=>?_;obtain⟨x8,x9,xb,l,Q,rfl,R,X,hn⟩:=h;refine a.app n R rfl (by lia) (λA Q' I k aR=>(_,rfl,I.B.no (_,rfl,.bad p.y.z p.bG p.r p.g p.D "q" v rfl I.B qb (r A k) aR))) λq S R=>(d3 eN (ez λal eN=>?_):al _ _);refine a.app n R rfl (by rw[zG];show Q.length+1<=1000;lia) (λA Q' I k aR=>(_,rfl,I.B.no (_,rfl,.no p.y.z p.bG p.r p.g p.D v rfl I.B (r A k) aR))) λq' S R=>(d3 eN ?_:al _ _);have a4:S p.lt=U (.lst (p.nt.map V.str)):=n.lt _ (k0.trans R.kp);refine(_,rfl,_,rfl,p.lt,rfl,(_,bZ.of a4),B0 (ω:=f) (a:=p.lt) (xs:=p.nt.map V.str) (λi N y=>∃bs:List jr,N=bs.map V.ref/\bs.length=i/\i<=6/\(∀b∈bs,y b=U (eX jD))/\Rf BC ag bd ar p.y p.bG p.r p.g p.D p.F (HU F G) l (Q++[q]++[q']) y) ([],rfl,rfl,qc,(λb M=>nomatch M),R) (λi N y _ zx=>by obtain⟨_,_,_,_,_,R⟩:=zx;exact bZ.of (n.lt _ (k0.trans R.kp))) (λi N y z1=>by obtain⟨bs,e,e2,h6,_⟩:=z1;rw[e,AO];lia) ?_ ?_)
 .rintro be x N y hj ⟨bs,rfl,ej,h6,M,R⟩;rw[zy]at hj;obtain⟨x,t,rfl⟩:=z6.mp hj;obtain⟨⟨a7,T⟩,hg⟩:=Option.ne_none_iff_exists'.mp (n.nt x (zP t));have bc:=(z8.mp t).1;have nl:=n.nl;refine(R.W.tabs _ a.hT,λA sa ta=>?_);obtain⟨C,I⟩:=a.tdW n R.W sa ta;refine(_,rfl,I.B.no (_,rfl,_,rfl,.bad p.y.z p.bG p.r p.g p.D x v a7 T rfl I.B hg (r A (R.kp.trans C.kp)) (I.uq n.N a.iM λb Hb nb Wb eb=>(bs++[b],by rw[zm];rfl,by rw[zG,ej];rfl,by lia,λb' as=>?_,R.keep C nb Wb))));rcases mem_append.mp as with z|z
  .exact nb _ _ (C _ _ (M b' z) λ_ z=>nomatch z) λ_ _ z=>nomatch z
  .cases zF.mp z;exact eb
 .rintro N y ⟨bs,rfl,ej,h6,M,R⟩ q1 a5;have D:=AD (bD.refl y) a5 (o:=HO.lst (bs.map V.ref));have e1:=bA (H:=y) (a:=q1) (o:=HO.lst (bs.map V.ref));generalize upd y q1 (.lst (bs.map V.ref))=H3 at D e1;have R:=R.same n.N D;have lb:(Q++[q]++[q']).length=Q.length+2:=by rw[zG,zG];rfl
  refine(l,q1,_,_,Y,Y,R.h,e1,?_,λq2 a6=>?_)
  .rw[AO,AO,lb];exact Nat.le_of_lt (AQ (by lia))
  .rw[←zm];refine(d3 eD (_,_,_,q2,Q++[q]++[q']++bs,rfl,.newL R.W n.N R.kp a6 λb as=>?_,by rw[zG,lb];lia,by rw[zG,lb];lia):Df.nx _ _);rcases mem_append.mp as with z|z
   .exact R.ts b z
   .exact D _ _ (M b z)
def t8(y:Lw P w g n m u C VC bd cB cR cN cT cM c P0 ec T)(M:bJ 13 (eT P w g n m c f A p s H E).A):gS (eT P w g n m c f A p s H E) u C bd T (DV (Bx (DV (defBody Dh) 0)) 8) (Sl 1000) Sa:=by
 have aM:bJ (8+2) (eT P w g n m c f A p s H E).A:=M.mono qc;refine(_,⟨AU (AL (Ew g Y M.units) (Z 10) (AX (Lm g Y) (As (cZ (Ab (cW AI AI)))) (AR (A1 g Y) Y y.B.len PySem.boot_len (cZ (Z 10)))) (AN _)) (AC Ag) AM⟩,λa0 ag aC a1 H ⟨an,al,X,l,q,e,R,aR,hn⟩ post=>?_);subst e;refine(_,Y,by show 2<=sizeLine;decide,λa B=>(by show 1<=sizeLine;decide,λr i=>?_));have G:=AD (bD.refl H) B (o:=eX jD);have I:(upd H a (eX jD)) a=U (eX jD):=bA;generalize upd H a (eX jD)=z at G I i;have t:=AD (bD.refl z) i (o:=HO.lst [.ref a]);have ab:(upd z r (.lst [.ref a])) r=U (.lst [.ref a]):=bA;generalize upd z r (.lst [.ref a])=D at t ab;refine(_,Y,l,_,Y,.inl (bZ.of (t _ _ (G _ _ R.h))),r,_,_,Y,Y,bZ.of ab,by rw[AO];lia,by rw[AO];lia,λj ar=>?_);have x:=AD (bD.refl D) ar (o:=HO.lst (List.replicate (((q.map V.ref).length:Nat):Int).toNat (V.ref a)));have Q:(upd D j (.lst (List.replicate (((q.map V.ref).length:Nat):Int).toNat (V.ref a)))) j=U (.lst ((List.replicate q.length a).map V.ref)):=by rw[bA,List.map_replicate,AO,Int.toNat_natCast]
 generalize upd D j (.lst (List.replicate (((q.map V.ref).length:Nat):Int).toNat (V.ref a)))=S at x Q;have d:bD H S:=λb o e=>x _ _ (t _ _ (G _ _ e));obtain⟨N,F,az,h,as⟩:Dq g S (.ref l) (.ref j):=.rep (d _ _ R.h) Q (by rw[length_replicate]) (λb v=>d _ _ (R.ts b v)) (λb v=>(mem_replicate.mp v).2 ▸ x _ _ (t _ _ I));refine(N,N,F,az,h,h,_,Y,?_);rw[as];exact AS (post _ _ (an,al,_,X,Y,R.W.same ag.N d,R.kp.trans (.nx (.same d))))
def t9(b:Lw P w a i g f C VC bd cB cR cN cT cM c P0 ec ag)(F:bJ 13 (eT P w a i g c al A an ar H E).A):gS (eT P w a i g c al A an ar H E) f C bd ag (DV (Bx (DV (defBody Dh) 0)) 9) Sa Sa:=by
 have a0:bJ (8+2) (eT P w a i g c al A an ar H E).A:=F.mono qc
 refine(_,Pz PassesOwn.never Y (On (Ho (JZ (EA (K1 (K1 Bu))) (JZ (EA (JY (K1 Bu))) (JZ (EA (CS (JY Bu))) (JZ (EA (CS (JY Bu))) (JZ (EA (CS (JY Bu))) Bu))))))) (BN Y (AT (BH 8 ft.nd) (AT (BH 11 ft.nd) A3)))
  (.mk (AC (AU (AL (Ew a rfl F.units) (B7 b.td a0 15 [ju,kh] [2,8] (λlf c' A' a4 s' j E F=>BZ (Z 0) b.BT.cl b.GRc F BJ (cW AI (Z 1)))) (Ab (AA AI (cW AI (Z 11)))) (AN _)) (AC Ag) AM))),λp n a5 ab H ⟨S,T,M,X,e,W,kp⟩ post=>?_)
 subst e;refine fdN (Zl λy N R td D B t se nn ha hb hc x hf he=>?_);have k0:Kp p.y p.H4 t:=kp.trans (.nx (.same se));have l:∀{j:Hp}{q:jr}{xs:jq},q∈ [y,N,R,td,D,B]->t q=U (.tup xs)->Kp p.y t j->j q=U (.tup xs):=λh e k=>W.kpn (nn _ h) k e (λ_ z=>nomatch z) λ_ z=>nomatch z
 have hv:∀q∈ [y,N,R,td,D],∃(v pl:V)(d:PyData),(∀j,Kp p.y t j->j q=U (.tup [v,pl]))/\(∀H,Ba a H d pl)/\SeqAt.shaped (.tuple [.str jE,.str kz,d])=gl/\PyData.eqv d d=gl/\∀j Q E,g6 j E cT pl->RcT f C cR cN cB cT p.y.z p.bG p.r p.g p.D "q" v j Q E:=λq r=>by
  simp only[mem_cons,not_mem_nil,or_false]at r;rcases r with rfl|rfl|rfl|rfl|rfl
  .exact(_,_,.none,λj=>l (by simp) ha,λH=>by rw[Ba],qd,EY,λj Q E u=>.bQ .bQ u)
  .exact(_,_,.none,λj=>l (by simp) hb,λH=>by rw[Ba],qd,EY,λj Q E u=>.bQ (.int _) u)
  .exact(_,_,.int 0,λj=>l (by simp) hc,λH=>by rw[Ba],qd,C8 _,λj Q E u=>.bad "" 0 Y qb qb ax u)
  .exact(_,_,.int 3,λj=>l (by simp) x,λH=>by rw[Ba],qd,C8 _,λj Q E u=>.bad "ZZ|" 3 Y qb qb Zh u)
  .exact(_,_,.int 1,λj=>l (by simp) hf,λH=>by rw[Ba],qd,C8 _,λj Q E u=>.bad "zz" 1 Y qb qb ay u)
 refine(B,rfl,(_,bZ.of he),CC (ω:=a) (a:=B) (xs:=[y,N,R,td,D].map V.ref) (λ_=>Sa f C bd ag (p.at t)) (_,_,_,_,rfl,W.same n.N se,.refl _) (λa1 ab H2 _ zv=>by obtain⟨_,_,_,_,_,_,k⟩:=zv;exact bZ.of (W.kpn (nn _ (by simp)) k he (λ_ z=>nomatch z) λ_ z=>nomatch z)) ?_ λab H2 zw=>by obtain⟨S,T,M,X,e,I,k⟩:=zw;exact post _ _ (S,T,M,X,e,I,k0.trans k));intro a1 v ab H2 hi h;refine egM λDf eD=>?_;obtain⟨S,T,M,X,rfl,I,k2⟩:=h;rw[zy]at hi;obtain⟨q,r,rfl⟩:=z6.mp hi;obtain⟨v,pl,d,r,x,hs,bv,rc⟩:=hv q (zP r);refine(q,_,rfl,cD.of (r _ k2),rfl,_,_,rfl,_,_,rfl,rfl,I.tabs _ b.hT,λHa sa y=>?_);obtain⟨ka,G⟩:=b.tdW n I sa y;refine(_,rfl,G.B.no (_,rfl,.mk p.y.z p.bG p.r p.g p.D "q" v rfl G.B qb G.hb (rc _ _ _ (X6 b.EFT λq1 o nb eb=>(_,rfl,by show 3<=sizeLine;decide,λs aM=>?_)))));have Wb:=G.nx n.N nb;have m:=AD (bD.refl o) aM (o:=HO.tup [.str jE,.str kz,pl]);have h5:=bA (H:=o) (a:=s) (o:=HO.tup [.str jE,.str kz,pl]);generalize upd o s (.tup [.str jE,.str kz,pl])=H5 at m h5;obtain⟨dd,a3,aC,as,az⟩:Dq a H5 (.ref q1) (.ref s):=.t3 (m _ _ eb) h5 (x _) hs bv;refine(dd,dd,a3,aC,as,as,_,rfl,?_);rw[az];exact AS (d3 eD (_,_,_,_,rfl,Wb.same n.N m,((k2.trans ka.kp).trans (.nx nb)).trans (.nx (.same m))):Df.nx _ _)
def t10(a:Lw P w b h g n C VC X cB cR cN cT cM c P0 ec T)(i:bJ 13 (eT P w b h g c f A m s H E).A):gS (eT P w b h g c f A m s H E) n C X T (DV (Bx (DV (defBody Dh) 0)) 10) Sa Sa:=by
 have x:bJ (8+2) (eT P w b h g c f A m s H E).A:=i.mono qc;refine(_,⟨AU (AL (Ew b Y i.units) (B7 a.td x 16 [ju] [2] (λan c' ar aC as H' E i=>BZ (Z 0) a.BT.cl a.GRc i BJ (cW AI AI))) (Ab (cW AI AI)) (AN _)) (AC Ag) AM⟩,λp ab D aM H ⟨Q,M,F,N,e,W,kp⟩ post=>?_);subst e;refine(W.tabs _ a.hT,λHa ag R=>?_);obtain⟨I,j⟩:=a.tdW ab W ag R;have al:=ab.lD;refine(_,Y,j.B.no (.mk p.y.z p.bG p.r p.g p.D "q" _ Y j.B qb j.hb (.ok _ _ Y (by lia) (QE ab.dk.lt) qb qb X7 (qc,qc,qb) ab.hr (.fY "z" qb qb (W.B.nokey qb) (j.uq ab.N a.EPN λq1 r nb G S=>(by show 2<=sizeLine;decide,λv u=>?_))))));have l:=AD (bD.refl r) u (o:=eX kj);have z:=bA (H:=r) (a:=v) (o:=eX kj);generalize upd r v (eX kj)=H5 at l z;obtain⟨B,y,t,d,q⟩:Dq b H5 (.ref q1) (.ref v):=.two (l _ _ S) z qd;refine(B,B,y,t,d,d,_,Y,?_);rw[q];exact AS (post _ _ (Q,M,F,N,Y,G.same ab.N l,((kp.trans I.kp).trans (.nx nb)).trans (.nx (.same l))))
def t11(a:Lw P w b h g n C VC y cB cR cN cT cM c P0 ec T)(i:bJ 13 (eT P w b h g c f A m s H E).A):gS (eT P w b h g c f A m s H E) n C y T (DV (Bx (DV (defBody Dh) 0)) 11) Sa Sa:=by
 have x:bJ (8+2) (eT P w b h g c f A m s H E).A:=i.mono qc;refine(_,⟨AU (AL (Ew b Y i.units) (B7 a.td x 17 [ju] [2] (λlf c' A' aC s' H' E i=>BZ (pv 0) a.BT.cl a.GRc i BJ (cW AI AI))) (Ab (cW AI AI)) (AN _)) (AC Ag) AM⟩,λp D ar aR H ⟨al,S,ab,ag,e,W,kp⟩ post=>?_);subst e;refine(W.tabs _ a.hT,λHa R an=>?_);obtain⟨Q,j⟩:=a.tdW D W R an;have lD:=D.lD;refine(_,Y,j.B.no (.mk p.y.z p.bG p.r p.g p.D "q" _ Y j.B qb j.hb (.ok _ _ Y (by lia) (QE D.dk.lt) qb qb Zj (qc,qc,qb) D.hr (.nil (λaM X I=>absurd I (by cases zF.mp X;decide +kernel)) (λas _=>.no _ _ _ (qb,qb,qb,qb,λz=>absurd (D.wd _ z) qb) Y) (j.uq D.N a.iM λq1 r nb N eb=>(by show 2<=sizeLine;decide,λv u=>?_))))));have l:=AD (bD.refl r) u (o:=eX jD);have F:=bA (H:=r) (a:=v) (o:=eX jD);generalize upd r v (eX jD)=M at l F;obtain⟨G,B,t,d,q⟩:Dq b M (.ref q1) (.ref v):=.two (l _ _ eb) F qd;refine(G,G,B,t,d,d,_,Y,?_);rw[q];exact AS (post _ _ (al,S,ab,ag,Y,N.same D.N l,((kp.trans Q.kp).trans (.nx nb)).trans (.nx (.same l))))
def t12(u:Lw P w m g b t C y v z I G M B c x N T)(a:bJ 13 (eT P w m g b c f A n s H E).A):gS (eT P w m g b c f A n s H E) t C v T (DV (Bx (DV (defBody Dh) 0)) 12) Sa Sa:=by
 have i:bJ (8+2) (eT P w m g b c f A n s H E).A:=a.mono qc;refine(_,⟨AU (PW.pt (DH (Ar (Ak (Z 6))) (By (Ar (Ak (dm u.GBl a (cW (Z 2) (Z 3)))))))) (AC Ag) AM⟩,λp Q D q H ⟨j,l,h,o,e,W,kp⟩ post=>?_);subst e;exact(_,Y,_,Y,AS (_,Y,_,Y,.mk p.y.z p.bG p.r p.g p.D p.t Y W.B (Q.tbk kp) Q.te λr d=>(_,Y,AS (post _ _ (j,l,h,o,Y,W.same Q.N d,kp.trans (.nx (.same d)))))))
structure RdI(a l bd:jr)(T:List (jr×Str×List Pos))(as:List jr)(i:Nat)(σ:St)(H:Hp):Prop where
 st:∃f:Nat->Option V,σ=[U (.ref a),f 1,f 2,f 3,f 4,f 5,f 6,f 7,f 8,f 9,f 10,f 11]
 hl:H l=U (.lst (as.map V.ref))
 hb:Rd H bd (.dK CP)
 tb:∀p∈T,cU H p.1 p.2.1 p.2.2
 ds:∀j b,i<=j->as[j]?=U b->∃x y,H b=U (.lst [.int x,.int y])
def Qd(c:FG)(T:List (jr×Str×List Pos))(b:jr):Sp:=λf H Q _=>∃(a:jr)(d:List Int),f=[.ref a]/\bZ c H a (d.map V.int)/\d.length<=63/\(∀p∈T,cU H p.1 p.2.1 p.2.2)/\Rd H b (.dK CP)/\∀e,Q (.bl L) e
def X8(F:gF l nq nq Dh f fd c)(g:Lw P w l o m BC ar VC n cB cR cN cT cM c P0 ec T):bH P w l o m cF 14 f fd [jP] (Qd l T n):=by
 refine F.ok ft (λvs H Q E h=>?_) (λA G al H vs Q E u h=>?_)
 .obtain⟨a,ns,rfl,_⟩:=h;rfl
 .have bc:WH (eT P w l o m c f A G al H E) BC ar n T ((Bx (DV (defBody Dh) 0)).drop 2) Sa Sa:=(t2 g u).cons ((t3 g u).cons ((t4 g u).cons ((t5 g u).cons ((t6 g u).cons ((t7 g u).cons ((t8 g u).cons ((t9 g u).cons ((t10 g u).cons ((t11 g u).cons (t12 g u).one)))))))));obtain⟨tt,ht,rt⟩:=bc;have M:=ft.nd
  have aC:∃t,fH (eT P w l o m c f A G al H E) (defBody Dh) t/\t {nx:=λ_ y=>Q .bQ y,rt:=Q} (start WG vs) H:=by
   refine(_,DQ (Pz PassesOwn.never zd ⟨BW (dm g.GRd u (cW (Z 0) AF))⟩ (BH 1 M)
    (DQ ⟨Bg (dm g.GLb u (cW (Z 1) AF)) (BN rfl (AT (BH 2 M) (AT (BH 3 M) (AT (BH 4 M) (AT (BH 5 M) (AT (BH 6 M) A3))))))⟩
    (DQ ⟨A5 7 M (AR (Dd rfl) rfl g.B.sorted Dv (cZ (Z 3)))⟩ ht))) (Ef ⟨AJ CQ⟩),?_)
   obtain⟨a,ns,rfl,hS,a2,aM,hB,a0⟩:=h;refine(_,rfl,a,ns,rfl,hS,a2,λag as H1 s1 hl a7 a5 h5 aR=>(ag,rfl,(_,bZ.of hl),CC (λi v q=>RdI a ag n T as i v q) ((λ_=>f8,rfl),hl,bD.rd s1 hB,λa9 hp=>cU.same s1 (aM a9 hp),λj b _ e=>(aR b (zP e)).2) (λi v q _ R=>bZ.of R.hl) ?_ (λv q R=>a0 _)));rintro i be v q hi S;rw[zy]at hi;obtain⟨d,D,rfl⟩:=z6.mp hi;obtain⟨x,y0,hd⟩:=S.ds i d (zq _) D;obtain⟨r,rfl⟩:=S.st;refine(_,rfl,.mk d x y0 rfl hd S.hb S.tb λba an bG bb a1 az F t C B hq kL=>(ba,_,rfl,cD.of hq,rfl,_,_,rfl,_,_,rfl,_,_,rfl,_,_,rfl,_,_,rfl,rfl,?_));obtain⟨a6,hk,E'⟩:=B.tb;obtain⟨ms,h1,h2⟩:=E'.ks;have ml:=h2.len;refine(_,rfl,t,a6,ms,rfl,.inl hk,h1,by lia,λlt s N ab so=>?_);have p:=AD (bD.refl C) N (o:=HO.lst (s.map V.str));have I:=bA (H:=C) (a:=lt) (o:=HO.lst (s.map V.str));generalize upd C lt (.lst (s.map V.str))=H4 at p I;have ed:=B.ed;subst ed;refine rt (a,t,lt,an,bG,bb,a1,az,F,H4,s) (B.N,B.W.same B.N p,B.te,B.tb.keep (λb xs e=>p _ _ e) λ_ e=>p _ _ e,λy k=>B.W.kpn N k I (λ_ z=>nomatch z) (λ_ z=>nomatch z),λx hx=>(h2.mem x).mp (ab.mem_iff.mp hx),by rw[ab.length_eq];exact ml,B.lD,B.dk,B.wd,B.hr) _ _ _ (r 8,r 9,r 10,r 11,rfl,B.W.same B.N p,.refl _) λet y zz=>?_;obtain⟨x8,x9,xa,xb,e,X,k⟩:=zz
   have kl:=λ{b xs}e hb=>by
    obtain⟨⟨n1,n2,n3⟩,e3⟩:=kL b xs e hb;exact k b _ (p _ _ e3) hb n1 n2 n3 (λ_ z=>nomatch z) λ_ z=>nomatch z
   refine((λj=>(et[j]?).getD f8,by rw[e];rfl),kl S.hl (λz=>a5 (z ▸ zP D)),X.hb,X.tabs,λj b hj eb=>?_)
   have a3:b≠an.d:=λz=>by
    subst z;obtain⟨a4,ej⟩:=z8.mp eb;obtain⟨ig,ei⟩:=z8.mp D;exact(List.pairwise_iff_getElem.mp a7) i j ig a4 (by assumption) (by rw[ei,ej])
   obtain⟨x5,y5,e5⟩:=S.ds j b (by lia) eb;exact(x5,y5,kl e5 a3)
  obtain⟨t,⟨ht⟩,rd⟩:=aC;exact(t,ht,rd)
end Mk
namespace Mk
open PySem L2 MK
def Qe{kV}(h:c.lookup b=U (.type jN,J,.seq #[.str "" t] n,#[])):
  Binds c (W.fnOf jF k4 (defArgs BG) (defBody BG) (defScope BG) (.ref b) kV q r f g m) [jt,nV] []:=by
 intro s d l i
 have a:d.length=2:=by
  rwa[zl]at i
 match d,a with
 | [p,o],_=>
  have e:=l _ _ h;intro M A E Q j;unfold bindArgs;simp only
  repeat (first|with_reducible refine wpAny_seqItems e rfl ?_| (with_reducible refine zp (wpAny_seqItems e rfl ?_))|wp_step)
  exact Eq.mp (congrArg (λz=>Q z s) qd) j
def PX(X:f.In h)(G:h.Ns N b)(e:W.nsIn f N n=U (U v)):b n=U v:=by
 obtain⟨o,t,ep,a,i,_,j⟩:=G;unfold W.nsIn at e;split at e
 .rename_i c d l r sl q;have:=X _ _ q;rw[a]at this;cases this;cases i;split at e
  .rename_i p;cases e;rw[←j];unfold nsFind findBy;rw[←Array.find?_toList,p];rfl
  .split at e<;>cases e
 .cases e
def WI{kV}:
  OU n (W.fnOf jF mv (defArgs Ce) (defBody Ce) (defScope Ce) .none kV g m b c f) [jt,mu,lR] [lR] gU3 gV3:=by
 refine(λs e j _ a=>?_,λ{q e t j}r o=>?_)
 .unfold gU3 at a ⊢;split at a
  .exact .of_eq qd
  .cases a
 .cases r with
  |nil=>exact .nil
  |cons i d=>
   cases d with
   |nil=>exact .nil
   |cons h d=>
    cases d with
    |cons _ _=>exact .nil
    |nil=>
     cases o with
     |nil=>exact .nil
     |cons l p=>
      cases p with
      |nil=>exact .cons i (.cons h (.cons l .nil))
      |cons _ _=>exact .nil
def WJ(ok:W.nsOkIn b a=L)(e:W.nsIn b a j9=U (U v)):
  Binds b (W.fnOf lA lA (defArgs Cw) (defBody Cw) (defScope Cw) .none (.ref a) m n c f g) [ku,j9] [v]:=by
 intro s h j i
 have d:h.length=1:=by
  rw[zG]at i;exact Nat.succ.inj i
 match h,d with
 | [o],_=>
  have G:s.heap.Ns a (s.heap.nsMap a):=.of_isNs (W.isNs_of_in j ok);intro M A E Q l;unfold bindArgs;simp only
  repeat (first| (with_reducible refine wpAny_nsGet G ?_;rw[PX j G e])|wp_step)
  exact Eq.mp (congrArg (λz=>Q z s) qd) l
end Mk
namespace Mk
open PySem L2 MK PySem.W
abbrev fO(x q:Str)(s:Stmt):=fnOf x q (defArgs s) (defBody s) (defScope s)
def HV(h:isClsIn b C=L)(a:typeIn b (.ref C)=U (.type oG))(e:subIn b (.type T) (.ref C)=U O):kitOne b (.type T) (.ref C)=U O:=by
 unfold kitOne;rw[zh (by simp)];unfold kitCls;show(if _ then _ else _)=_;rw[zg (by unfold isClsIn at h;rw[h,a];simp)];exact e
def Qf(h:(clsIn b C).map (λa=>(a.mro,(a.hasDict)))=U (JW C M,(L)))(n:findIn b (.ref C) f=U J)(s:findIn b (.ref C) lh=U (U (.builtin jU))):NB b C M f:=by
 obtain⟨a,e,z⟩:=z6.mp h;exact((a,e,congrArg Prod.fst z,congrArg Prod.snd z),n,s)
noncomputable def OH(a:Frag)(c P:jr):Bool:=match a.lookup c with
 |some ⟨.type "code",_,.fields b,_⟩=>(match (b[11]?:Option Value),b.getD 18 Value.none,b.getD 7 Value.none,b.getD 9 Value.none,b.getD 10 Value.none with
  |some (.ref p),.str _ _,.int _ _,.bool _,.int _ _=>p==P && !(c==P)
  |_,_,_,_,_=>O)
 |_=>O
def codeHd_of{K:Frag}{h:Heap}{c P:jr}(X:K.In h)(q:OH K c P=L):CodeHd h c P:=by
 unfold OH at q;split at q
 .rename_i d vs sl ho;split at q
  .rename_i p f tf fl tg b tx tt h11 h18 h7 h9 jc;rw[Bool.and_eq_true,beq_iff_eq]at q;obtain⟨rfl,hn⟩:=q;refine(_,vs,f,tf,fl,tg,b,tx,tt,X _ _ ho,Y,Y,h11,?_,h18,h7,h9,jc,λz=>by simp[z]at hn);rw[Array.getD_eq_getD_getElem?,h11];rfl
  .cases q
 .cases q
def fnT{P}{w}{ω:Frag}{mg}{base}{fd}{x}{st}{k}{a}{sp}{f}(F:cC ω x x st f fd)(ok:bH P w ω mg base cF k f fd a sp)(m:mg x=some (.ref f))(b:Binds ω fd a []):Fn P w ω mg base x k a sp:=⟨(f,fd,ok,m,F.kp,b)⟩
def mtT{P}{w}{ω}{mg}{base}{fd}{C}{x q}{st}{k}{d}{sp}{f}(a:findIn ω (.ref C) x=some (some (.ref f)))(i:isFn ω (.ref f)=true)(F:cC ω x q st f fd)(ok:bH P w ω mg base cF k f fd d sp)(b:Binds ω fd d []):Mt P w ω mg base C x k d sp:=⟨(f,fd,ok,(a,i,F.kp),b)⟩
abbrev fB(x q:Str)(st:Stmt)(kV d e:Value)(a:Option jr)(b c:Value)(f:jo):Sem (List (Str×Value)):=bindArgs (fO x q st .none kV d e a b c) (f,[])
def jf{st}(F:cC n x q st f m)(h:∀a b c d e g i,fB x q st a b c d e g [i]=pure [(p1,(i))]):Binds n m [p1] []:=F.binds λ_ _ _ _ _ _ o p=>by rcases o with _|⟨_,_|_⟩<;>first|exact h ..|cases p
def bi2{st}(F:cC n x q st f m)(h:∀a b c d e g j i,fB x q st a b c d e g [j,i]=pure [(p1,(j)),(p2,(i))]):Binds n m [p1,p2] []:=F.binds λ_ _ _ _ _ _ o p=>by rcases o with _|⟨_,_|⟨_,_|_⟩⟩<;>first|exact h ..|cases p
def bi3{st}(F:cC n x q st f m)(h:∀a b c d e g l j i,fB x q st a b c d e g [l,j,i]=pure [(p1,(l)),(p2,(j)),(p3,(i))]):Binds n m [p1,p2,p3] []:=F.binds λ_ _ _ _ _ _ o p=>by rcases o with _|⟨_,_|⟨_,_|⟨_,_|_⟩⟩⟩<;>first|exact h ..|cases p
def bi4{st}(F:cC n x q st f m)(h:∀a b c d e g l j i o,fB x q st a b c d e g [l,j,i,o]=pure [(p1,(l)),(p2,(j)),(p3,(i)),(p4,(o))]):Binds n m [p1,p2,p3,p4] []:=F.binds λ_ _ _ _ _ _ o p=>by rcases o with _|⟨_,_|⟨_,_|⟨_,_|⟨_,_|_⟩⟩⟩⟩<;>first|exact h ..|cases p
def bi5{st}(F:cC n x q st f m)(h:∀a b c d e g o l i p j,fB x q st a b c d e g [o,l,i,p,j]=pure [(p1,(o)),(p2,(l)),(p3,(i)),(p4,(p)),(p5,(j))]):Binds n m [p1,p2,p3,p4,p5] []:=F.binds λ_ _ _ _ _ _ o p=>by rcases o with _|⟨_,_|⟨_,_|⟨_,_|⟨_,_|⟨_,_|_⟩⟩⟩⟩⟩<;>first|exact h ..|cases p
def DG(a:Frag)(x:Str)(st:Stmt):Prop:=∃f b,nsIn a mainGlobals x=U (U (.ref f))/\cC a x x st f b
def DM(a:Frag)(C:jr)(x q:Str)(st:Stmt):Prop:=∃f b,findIn a (.ref C) x=U (U (.ref f))/\isFn a (.ref f)=L/\(∃o,a.lookup f=U o/\o.cls=.type mU)/\cC a x q st f b
structure CF(K:Frag)(C:jr):Prop where
 pg:plainGet K C Str.empty=L
 hd:hasDictIn K C=L
 po:plainOver K C=L
 sa:findIn K (.ref C) lh=U (U (.builtin jU))
 mz:makesIn K C=L
 kc:keepIn K (.ref C)=L
 qa:findIn K (.ref C) lU=U (U (.builtin jw))
 qm:mroIn K C (.type lC)=U L
 ql:isClsIn K C=L
 qy:typeIn K (.ref C)=U (.type oG)
 qs:subIn K (.type jH) (.ref C)=U O
 qi:subIn K (.type oa) (.ref C)=U O
 qt:subIn K (.type jN) (.ref C)=U O
 ne:findIn K (.ref C) oh=U (U (.builtin kB))
structure XF(K:Frag)(ec:Nat->jr)(C:jr)(j:Nat):Prop where
 cx:L2.BA K C=L
 ga:findIn K (.ref C) kQ=U (U (.builtin jA))
 gr:findIn K (.ref C) "__getattr__"=U J
 gb:mroIn K C (.type ki)=U L
 kc:(clsIn K C).isSome=L
 ka:findIn K (.ref C) lU=U (U (.builtin jw))
 km:mroIn K C (.type lC)=U L
 kt:((List.range 11).all λi=>i==j||decide (kitOne K (.ref C) (.ref (ec i))=U O))=L
 tv:kitOne K (.ref C) (.type jK)=U L
 ke:keepIn K (.ref C)=L
def XF.at(F:XF b c C j)(l:j<11)(e:C=c j)(d:specialIn b (.builtin jw) mh=U (U (.builtin jI)))(a:takesIn b (.builtin jw)=U L):QH b c C j:=by
 refine(l,((F.ga,F.gr,F.gb),F.kc,F.ka,d,a,F.km),λi o=>?_,F.tv);have h:=all_eq_true.mp F.kt i (mem_range.mpr o);rw[Bool.or_eq_true]at h;rcases h with z|z
 .rw[eq_of_beq z,e,zK rfl];exact HI b _
 .by_cases q:i=j
  .rw[q,e,zK rfl];exact HI b _
  .rw[zN q];exact zT z
structure XP(K:Frag)(ec:Nat->jr)(cM C f:jr)(j:Nat):Prop where
 F:XF K ec C j
 n:((List.range 4).all λi=>!(Ek K C).contains (.ref (ec i)))=L
 m:(Ek K C).contains (.ref cM)=L
 i:findIn K (.ref C) jF=U (U (.ref f))
def XP.pl(F:XP b c g C f j)(l:j<11)(e:C=c j)(d:specialIn b (.builtin jw) mh=U (U (.builtin jI)))(a:takesIn b (.builtin jw)=U L):FP b c g C j:=by
 have h:∀i,i<4->(Ek b C).contains (.ref (c i))=O:=λi o=>by
  have:=all_eq_true.mp F.n i (mem_range.mpr o);rw[Bool.not_eq_true']at this;exact this
 exact(F.F.at l e d a,F.F.cx,h 0 qc,h 1 qc,h 2 qc,h 3 qc,F.m)
structure XL(K:Frag)(ec:Nat->jr)(cM C:jr)(j:Nat)(fld:Str):Prop where
 F:XF K ec C j
 n:((List.range j).all λi=>!(Ek K C).contains (.ref (ec i)))=L
 m:(Ek K C).contains (.ref (ec j))=L
 gh:hasDictIn K C=L
 gn:findIn K (.ref C) fld=U J
 gs:findIn K (.ref C) lh=U (U (.builtin jU))
 s:(clsIn K C).map (λa=>(a.mro,(a.hasDict)))=U (JW C cM,(L))
def XL.fl(F:XL b c f C j (MC j))(h:j<4)(e:C=c j)(d:specialIn b (.builtin jw) mh=U (U (.builtin jI)))(a:takesIn b (.builtin jw)=U L):Jw b c C j:=by
 refine(F.F.at qe e d a,F.F.cx,h,λi l=>?_,F.m,((F.F.ga,F.F.gr,F.F.gb),F.gh,F.gn));have:=all_eq_true.mp F.n i (mem_range.mpr l);rw[Bool.not_eq_true']at this;exact this
def bi6{st}(F:cC n x q st f m)(h:∀a b c d e g p l i r j o,fB x q st a b c d e g [p,l,i,r,j,o]=pure [(p1,(p)),(p2,(l)),(p3,(i)),(p4,(r)),(p5,(j)),(p6,(o))]):Binds n m [p1,p2,p3,p4,p5,p6] []:=F.binds λ_ _ _ _ _ _ o p=>by rcases o with _|⟨_,_|⟨_,_|⟨_,_|⟨_,_|⟨_,_|⟨_,_|_⟩⟩⟩⟩⟩⟩<;>first|exact h ..|cases p
theorem Wf:∀{T:List (jr×Str×List Pos)},(T.map (·.1)).Nodup->∀p∈T,∀q∈T,q.1=p.1->q=p
 |a::r,h,p,hp,q,hq,e=>by
  obtain⟨j,l⟩:=zj.mp h;rcases mem_cons.mp hp with rfl|d<;>rcases mem_cons.mp hq with rfl|i
  .rfl
  .exact absurd (zi.mpr (q,i,e)) j
  .exact absurd (show q.1∈r.map (·.1)from zi.mpr (p,d,e.symm)) j
  .exact Wf l p d q i e
abbrev NR(b:Frag)(x:Str)(a:jr):=nsIn b mainGlobals x=U (U (.ref a))
abbrev NZ(a:Frag)(x:Str):=nsIn a mainGlobals x=U J
abbrev NF(a:Frag)(C:jr)(x:Str):=findIn a (.ref C) x=U J
def gN{P}{w}{ω}{mg}{base}(e:∀{x}{v},nsIn ω mainGlobals x=some (some v)->mg x=some v){x}{st}{k}{d}{sp}(h:DG ω x st)(ok:∀{f fd},cC ω x x st f fd->bH P w ω mg base cF k f fd d sp)(b:∀{f fd},cC ω x x st f fd->Binds ω fd d []:=by intro _ _ F;first|exact jf F λ_ _ _ _ _ _ _=>rfl|exact bi2 F λ_ _ _ _ _ _ _ _=>rfl):Fn P w ω mg base x k d sp:=let ⟨_,_,a,F⟩:=h;⟨(_,_,ok F,e a,F.kp,b F)⟩
def rN{P}{w}{ω}{mg}{base}(e:∀{x}{v},nsIn ω mainGlobals x=some (some v)->mg x=some v){x}{st}{k}{d}{sp}(h:DG ω x st)(ok:∀{f fd},cC ω x x st f fd->bH P w ω mg base (d6 P w) k f fd d sp)(b:∀{f fd},cC ω x x st f fd->Binds ω fd d []:=by intro _ _ F;first|exact jf F λ_ _ _ _ _ _ _=>rfl|exact bi2 F λ_ _ _ _ _ _ _ _=>rfl):ip P w ω mg base x k d sp:=let ⟨_,_,a,F⟩:=h;⟨(_,_,ok F,e a,F.kp,b F)⟩
def mN{P}{w}{ω}{mg}{base}{C}{x q}{st}{k}{d}{sp}(h:DM ω C x q st)(ok:∀{f fd},cC ω x q st f fd->bH P w ω mg base cF k f fd d sp)(b:∀{f fd},cC ω x q st f fd->Binds ω fd d []:=by intro _ _ F;first|exact jf F λ_ _ _ _ _ _ _=>rfl|exact bi2 F λ_ _ _ _ _ _ _ _=>rfl):Mt P w ω mg base C x k d sp:=let ⟨_,_,a,i,_,F⟩:=h;⟨(_,_,ok F,(a,i,F.kp),b F)⟩
def sN{P}{w}{ω}{mg}{base}{C}{x q}{st}{k}{d}{sp}(h:DM ω C x q st)(ok:∀{f fd},cC ω x q st f fd->bH P w ω mg base (d6 P w) k f fd d sp)(b:∀{f fd},cC ω x q st f fd->Binds ω fd d []:=by intro _ _ F;first|exact jf F λ_ _ _ _ _ _ _=>rfl|exact bi2 F λ_ _ _ _ _ _ _ _=>rfl):B6 P w ω mg base C x k d sp:=let ⟨_,_,a,i,_,F⟩:=h;⟨(_,_,ok F,(a,i,F.kp),b F)⟩
def g3{P}{w}{ω}{mg}{base}(e:∀{x}{v},nsIn ω mainGlobals x=some (some v)->mg x=some v){x}{st}{k}{d}{sp}(h:DG ω x st)(ok:∀{f fd},cC ω x x st f fd->bH P w ω mg base cF k f fd d sp)(b:∀{f fd},cC ω x x st f fd->Binds ω fd d []:=by intro _ _ F;first|exact bi3 F λ_ _ _ _ _ _ _ _ _=>rfl|exact bi4 F λ_ _ _ _ _ _ _ _ _ _=>rfl|exact bi5 F λ_ _ _ _ _ _ _ _ _ _ _=>rfl):Fn P w ω mg base x k d sp:=let ⟨_,_,a,F⟩:=h;⟨(_,_,ok F,e a,F.kp,b F)⟩
def r3{P:Program}{w:World}{K:Frag}{mg:SV}{base:Heap}(MG:∀{x:Str}{v:Value},nsIn K mainGlobals x=some (some v)->mg x=some v){x:Str}{st:Stmt}{k:Nat}{ps:jm}{sp:Sp}(h:DG K x st)(ok:∀{f fd},cC K x x st f fd->bH P w K mg base (d6 P w) k f fd ps sp)(b:∀{f fd},cC K x x st f fd->Binds K fd ps []:=by intro _ _ F;first|exact bi3 F λ_ _ _ _ _ _ _ _ _=>rfl|exact bi4 F λ_ _ _ _ _ _ _ _ _ _=>rfl|exact bi5 F λ_ _ _ _ _ _ _ _ _ _ _=>rfl):ip P w K mg base x k ps sp:=let ⟨_,_,a,F⟩:=h;⟨(_,_,ok F,MG a,F.kp,b F)⟩
def m3{P}{w}{ω}{mg}{base}{C}{x q}{st}{k}{d}{sp}(h:DM ω C x q st)(ok:∀{f fd},cC ω x q st f fd->bH P w ω mg base cF k f fd d sp)(b:∀{f fd},cC ω x q st f fd->Binds ω fd d []:=by intro _ _ F;first|exact bi3 F λ_ _ _ _ _ _ _ _ _=>rfl|exact bi4 F λ_ _ _ _ _ _ _ _ _ _=>rfl|exact bi5 F λ_ _ _ _ _ _ _ _ _ _ _=>rfl):Mt P w ω mg base C x k d sp:=let ⟨_,_,a,i,_,F⟩:=h;⟨(_,_,ok F,(a,i,F.kp),b F)⟩
def s3{P}{w}{ω}{mg}{base}{C}{x q}{st}{k}{d}{sp}(h:DM ω C x q st)(ok:∀{f fd},cC ω x q st f fd->bH P w ω mg base (d6 P w) k f fd d sp)(b:∀{f fd},cC ω x q st f fd->Binds ω fd d []:=by intro _ _ F;first|exact bi3 F λ_ _ _ _ _ _ _ _ _=>rfl|exact bi4 F λ_ _ _ _ _ _ _ _ _ _=>rfl|exact bi5 F λ_ _ _ _ _ _ _ _ _ _ _=>rfl):B6 P w ω mg base C x k d sp:=let ⟨_,_,a,i,_,F⟩:=h;⟨(_,_,ok F,(a,i,F.kp),b F)⟩
def all_mk{l:OpenLaw}{w:World}{b:Frag}{h:Heap}{e:SV}{fz C t g o aR kd dt j c y u n m x D q s G H I p a7 N bs:jr}(cf:b.In h)(bO:h.Ns mainGlobals e)(gP:e nq=U (.ref fz))
  {iz bz br bB bq iy fV i9 cw fS ib fU i8 cv fR iw:Value}{i0 bp iZ fl iY fj iQ iO:Option jr}{ka j4 j0 jl jq:Array (Option Value)}{tG tM tL km tB t1 t2 t3 t4 tE:Tok}{it fX nE:Nat}{cK:Array DictEntry}{jn bt k2:jr}{j1 j2 j3 kk:Tok}{iM i4 fm iP:Option jr}{nJ fY:Nat}{jd ke jp:Array (Option Value)}{iJ fW ja cx fT ix:Value}{cM:Array DictEntry}{kl:Tok}{R:jr}{a8 iK A:jr}{iD cV cG c8 cy:Value}{i2 co:Option jr}{kb:Array (Option Value)}{a9 iS z:jr}{iI c0 cI da cB:Value}{i3 cp:Option jr}{kc:Array (Option Value)}
  (aC:NR b "Kind" C)
  (eN:NR b "Value" t)
  (eM:NR b "Reading" g)
  (eL:NR b "Book" o)
  (aM:NR b "MarkError" j)
  (eO:NR b "BadRows" u)
  (cg:NR b kK n)
  (ci:NR b kz m)
  (eR:NR b "Unled" x)
  (eS:NR b "BadRule" D)
  (cj:NR b jD q)
  (ck:NR b kj s)
  (eU:NR b "Unlike" G)
  (eV:NR b "BadPairs" H)
  (eW:NR b "Never" I)
  (ch:NR b lG p)
  (az:NZ b jK)
  (bw:DG b lJ G6)
  (hA:DG b nH Ls)
  (hK:DG b mY Jg)
  (hC:DG b om Ht)
  (cR:DG b lr G7)
  (hB:DG b nv F8)
  (hI:DG b mZ EH)
  (hF:DG b nQ F9)
  (hz:DG b "numbered" Hu)
  (gU:DG b ny E3)
  (hu:DM b C kY "Kind.known" GC)
  (hx:DM b C lR "Kind.rest" Hw)
  (hd:DG b oq Jm)
  (he:DG b my IF)
  (cQ:DG b j7 G8)
  (hn:DG b nz Gb)
  (cP:DG b nT Ci)
  (cT:DG b lL FY)
  (hW:DG b nI Lv)
  (cS:DM b t jF "Value.__init__" GD)
  (hV:DM b t jC "Value.number" EI)
  (hc:DG b m7 Gc)
  (hp:DG b m6 Gd)
  (ho:DG b lQ FC)
  (g4:DG b lZ Hy)
  (g0:DG b nZ GQ)
  (gO:DM b g "settle" "Reading.settle" DR)
  (gM:DM b g "take_part" "Reading.take_part" Cf)
  (gA:DM b g "take_between" "Reading.take_between" Bp)
  (gz:DM b g "take_ahead" "Reading.take_ahead" CK)
  (gD:DM b g "take_close" "Reading.take_close" CL)
  (gI:DM b g "take_sign" "Reading.take_sign" Cg)
  (gL:DM b g "ends" "Reading.ends" EL)
  (g1:DG b "joined" Lz)
  (hw:DM b C mu "Kind.rows" Hv)
  (ht:DM b C oj "Kind.__eq__" Lu)
  (hU:DM b t jJ "Value.kind" GH)
  (hj:DG b ot Jn)
  (hH:DG b nj Hx)
  (ha:DG b mf E6)
  (go:DM b o jZ "Book.names" Ga)
  (gm:DM b o oz "Book.__len__" Jl)
  (gc:DM b o "give" "Book.give" IB)
  (hh:DG b nk Jo)
  (hr:DG b ni Ge)
  (hs:DG b n6 IG)
  (hv:DM b C jC "Kind.number" E4)
  (gZ:DG b nY GO)
  (g9:DG b "is_part" Ly)
  (gX:DG b "part_end" Ji)
  (g5:DG b nA E5)
  (g8:DG b ou Hz)
  (gK:DM b g jF "Reading.__init__" EJ)
  (hJ:DM b m jF "BadText.__init__" EG)
  (hf:DG b lx G9)
  (hl:DG b ky DX)
  (hg:DG b m9 FD)
  (hq:DG b kJ FB)
  (hk:DG b jB A7)
  (gV:DG b "is_table" Jj)
  (hE:DG b m8 Du)
  (hy:DG b "made" P5)
  (hD:DM b n jF "BadRest.__init__" EE)
  (hm:DG b ly HA)
  (hS:DG b nC E7)
  (hT:DG b lM Dt)
  (hP:DG b "union" O0)
  (hQ:DG b "without" Jh)
  (hN:DG b "turned" Lx)
  (gb:DM b o "entry" "Book.entry" GY)
  (gw:DM b o lI "Book.value" GZ)
  (f9:DM b o oB "Book.changes" EM)
  (gp:DM b o "put" "Book.put" Jk)
  (gn:DM b o "mark" "Book.mark" IC)
  (gv:DM b o "unmark" "Book.unmark" E8)
  (gs:DM b o "turn" "Book.turn" ID)
  (ga:DM b o oo "Book.drop" IE)
  (gh:DM b o "take_back" "Book.take_back" Dg)
  (gr:DM b o "reckon" "Book.reckon" E9)
  (ge:DM b o jF "Book.__init__" IA)
  (hi:DG b mi EO)
  (gd:DM b o "having" "Book.having" FA)
  (hb:DG b ox Jp)
  (fc:findIn b (.ref C) jF=U (U (.ref a7)))
  (h1:isFn b (.ref a7)=L)
  (ij:b.lookup a7=U (iy,iZ,.func (fO jF mv Ce .none (.ref kd) fV i9 fl cw fS),j4))
  (fM:codeIn b cw mv=L)
  (ii:keepIn b (.ref a7)=L)
  (fe:NR b nq bs)
  (ik:b.lookup bs=U (iz,i0,.func (fO nq nq Dh .none bz br bB bp (.ref c) bq),ka))
  (fN:codeIn b (.ref c) nq=L)
  (l2:keepIn b (.ref bs)=L)
  (k1:findIn b (.ref j) jF=U (U (.ref N)))
  (bx:isFn b (.ref N)=L)
  (ba:b.lookup N=U ((.type mU),iY,.func (fO jF k4 BG (.ref dt) ib fU i8 fj cv fR),j0))
  (fL:codeIn b cv k4=L)
  (ih:keepIn b (.ref N)=L)
  (fo:NR b ko a8)
  (c4:b.lookup a8=U (iD,i2,.func (fO ko ko DS .none cV cG c8 co (.ref iK) cy),kb))
  (ct:codeIn b (.ref iK) ko=L)
  (c1:keepIn b (.ref a8)=L)
  (fp:NR b jQ a9)
  (c5:b.lookup a9=U (iI,i3,.func (fO jQ jQ BP .none c0 cI da cp (.ref iS) cB),kc))
  (cu:codeIn b (.ref iS) jQ=L)
  (c2:keepIn b (.ref a9)=L)
  (pd:([y,A,z]:List jr).Nodup)
  (ig:b.lookup kd=U (iw,iO,.dict cK fX,jl))
  (ic:(cK.all λa0=>match a0.key with|.str _ _=>L|_=>gt)=L)
  (l1:nsIn b kd lR=U (U (.str mx tB)))
  (a6:b.lookup dt=U (.type jN,f8,.seq #[.str "" tE] nE,#[]))
  (vG:nsIn b mainGlobals "GREATEST"=U (U (.int 1048575 tG)))
  (vM:nsIn b mainGlobals "MOST_ROWS"=U (U (.int 10 tM)))
  (vL:nsIn b mainGlobals "LONGEST_NAME"=U (U (.int 6 tL)))
  (ks:nsIn b mainGlobals "LIMIT"=U (U (.int 1099511627776 km)))
  (vR:NR b "RULES" aR)
  (M:specialIn b (.builtin jw) mh=U (U (.builtin jI)))
  (P:takesIn b (.builtin jw)=U L)
  (Q:CF b C)
  (d:CF b t)
  (X:CF b g)
  (S:CF b o)
  (eF:NF b C jO)
  (io:NF b C lK)
  (ir:NF b C "rule")
  (dq:NF b t jX)
  (iv:NF b t kH)
  (eG:NF b g ll)
  (ey:NF b g mH)
  (jb:NF b g md)
  (kp:NF b o jX)
  (eC:NF b o lH)
  (im:NF b o oA)
  (xm:L2.BA b j=L)
  (kt:L2.BA b u=L)
  (dn:L2.BA b n=L)
  (dp:L2.BA b m=L)
  (kv:L2.BA b x=L)
  (y5:XP b (λi=>([u,n,m,x,D,q,s,G,H,I,p]:List jr).getD i 0) j q N 5)
  (y6:XP b (λi=>([u,n,m,x,D,q,s,G,H,I,p]:List jr).getD i 0) j s N 6)
  (bb:XP b (λi=>([u,n,m,x,D,q,s,G,H,I,p]:List jr).getD i 0) j p N 10)
  (y1:XL b (λi=>([u,n,m,x,D,q,s,G,H,I,p]:List jr).getD i 0) j n 1 kH)
  (y2:XL b (λi=>([u,n,m,x,D,q,s,G,H,I,p]:List jr).getD i 0) j m 2 "at")
  (kx:specialIn b (.ref j) kQ=U (U (.builtin lW)))
  (kC:readsIn b j (.type oG)=L)
  (kw:findCls b (.ref j) (.type oG) jF=U (.val (.ref N)))
  (rL:b.lookup aR=U (.type jN,iQ,.seq #[.str mx t1,.str oo t2,.str lp t3,.str mm t4] it,jq))
  (kL:NZ b "len")
  (kD:NZ b jR)
  (kN:NZ b oE)
  (kO:NZ b "min")
  (kP:NZ b mj)
  (kM:NZ b jH)
  (kU:NZ b jN)
  (kR:NZ b nG)
  (kT:NZ b "sum")
  (kE:NZ b "all")
  (eD:NZ b lT)
  (kI:NZ b oa)
  (kF:NZ b "bool")
  (kS:NZ b mQ)
  (bo:NZ b kg)
  (de:NR b "BINDING" R)
  (di:NR b "JOINING" jn)
  (dk:nsIn b mainGlobals og=U (U (.int 1 kk)))
  (jL:b.lookup jn=U (.type jN,iM,.seq #[.str "&" j1,.str "^" j2,.str "|" j3] nJ,jd))
  (fq:NR b lA bt)
  (lst:b.lookup bt=U (iJ,i4,.func (fO lA lA Cw .none (.ref k2) fW ja fm cx fT),ke))
  (fP:codeIn b cx lA=L)
  (c3:keepIn b (.ref bt)=L)
  (h7:b.lookup k2=U (ix,iP,.dict cM fY,jp))
  (h6:(cM.all λa0=>match a0.key with|.str _ _=>L|_=>gt)=L)
  (h8:nsIn b k2 j9=U (U (.bool L)))
  (kq:nsIn b mainGlobals "LONGEST_BOOK_NAME"=U (U (.int 8 kl)))
  :∃fd:FuncData,(∀(dd:js)(v:Value),BindsTo dd fd ([v],[]) [(jP,(v))])/\∀f:Heap,b.In f->f.Ns mainGlobals e->(∀bC∈([(c,(y)),(iK,(A)),(iS,(z))]:List (jr×jr)),CodeHd f bC.1 bC.2/\f.BuiltinsAt e bC.2)->bH l.prog w b e f cF 14 fz fd [jP] (Qd b [(y,q1,(gJ)),(A,q2,(hZ)),(z,q3,(hX))] R):=by
 have a:∀{a1:Str}{v:Value},nsIn b mainGlobals a1=U (U v)->e a1=U v:=λh=>mg_of cf bO h;have r:∀{a1:Str},nsIn b mainGlobals a1=U f8->e a1=f8:=λh=>mg_none_of cf bO h;have T:Gh b C:=((Q.pg,Q.hd,Q.po,Q.sa),eF,io,ir);have VT:Nq b t:=((d.pg,d.hd,d.po,d.sa),dq,iv);have DT:KK b g:=((X.pg,X.hd,X.po,X.sa),eG,ey,jb);have E:DA b o:=((S.pg,S.hd,S.po,S.sa),kp,eC,im);have KI:KIsi b C:=((Q.pg,Q.hd,Q.po,Q.sa),Q.qa,M,P,Q.qm,HV Q.ql Q.qy Q.qs);have VI:KIsi b t:=((d.pg,d.hd,d.po,d.sa),d.qa,M,P,d.qm,HV d.ql d.qy d.qs);have c6:=a aC;have c7:=a eN;have bu:=a ks;have vI:=HV d.ql d.qy d.qi;have vT:=HV d.ql d.qy d.qt;have jc:=Q.ne;have qm:=Q.qm;have B:Bl e:=(r kL,r kD,r kN,r kO,r kP,r kM,r kU,r kR,r kT,r kE,r eD,r kI,r kF,r kS);have rT:∀as:Hp,cD b as aR (c9.map V.str):=λas=>.inr (_,_,_,rL,rfl,rfl,sl4,.cons (_,rfl) (.cons (_,rfl) (.cons (_,rfl) (.cons (_,rfl) .nil))));have jT:∀as:Hp,cD b as jn [.str "&",.str "^",.str "|"]:=λas=>.inr (_,_,_,jL,rfl,rfl,iu,.cons (_,rfl) (.cons (_,rfl) (.cons (_,rfl) .nil)))
 have l0:nsOkIn b kd=L:=by
  unfold nsOkIn;rw[ig];exact ic
 have hG:=a vG;have hM:=a vM;have hL:=a vL;have hR:=a vR;have ce:Ru e (λi=>([u,n,m,x,D,q,s,G,H,I,p]:List jr).getD i 0):=(a eO,a cg,a ci,a eR,a eS,a cj,a ck,a eU,a eV,a eW,a ch,r az);have EX:T9 b e (λi=>([u,n,m,x,D,q,s,G,H,I,p]:List jr).getD i 0) j:=(a aM,xm,kt,dn,dp,kv);have bE:=y5.pl qc rfl M P;have bF:=y6.pl qc rfl M P;have dx:=bb.pl qc rfl M P;have ds:=XL.fl (j:=1) y1 qc rfl M P;have du:=XL.fl (j:=2) y2 qc rfl M P;have Fin:=fun_mk (st:=Ce) ij fM ii;have a0:=gP.symm.trans (a fe);cases a0;have dz:gF b nq nq Dh fz (fO nq nq Dh .none bz br bB bp (.ref c) bq) c:=⟨(_,_,_,_,_,_,_,_,rfl,ik,fN)⟩;have a2:FunD b jF k4 BG N _:=⟨(_,_,_,_,_,_,_,_,_,_,rfl,ba,fL)⟩;obtain⟨lE,lg,fs,bh⟩:=id bw;have fJ:=jf (p1:=jz) bh λ_ _ _ _ _ _ _=>rfl;obtain⟨ls,k7,all,kW⟩:=id cP;obtain⟨lF,li,fu,h4,l5,bN⟩:=id cS;have fK:=bi3 (p1:=jt) (p2:=jJ) (p3:=jC) bN λ_ _ _ _ _ _ _ _ _=>rfl;obtain⟨lm,k5,fa,h0,l4,bI⟩:=gK;have fw:=jf (p1:=jt) bI λ_ _ _ _ _ _ _=>rfl;obtain⟨lD,lf,fr,h3,i7,bM⟩:=hJ;have fI:=bi2 (p1:=jt) (p2:="at") bM λ_ _ _ _ _ _ _ _=>rfl;obtain⟨ln,k6,cl,bc⟩:=hf;have cq:=bi4 (p1:=jv) (p2:=kZ) (p3:=mG) (p4:="_law_deep") bc λ_ _ _ _ _ _ _ _ _ _=>rfl;obtain⟨lu,k9,cm,be⟩:=hl;have cr:=bi3 (p1:=jv) (p2:=kr) (p3:="_law_rank") be λ_ _ _ _ _ _ _ _ _=>rfl;obtain⟨lw,lc,fi,bg⟩:=hq;have fA:=jf (p1:=jY) bg λ_ _ _ _ _ _ _=>rfl;obtain⟨lt,k8,fh,bK⟩:=hk;have fx:=jf (p1:=jV) bK λ_ _ _ _ _ _ _=>rfl;obtain⟨lz,le,fn,h2,i6,bL⟩:=hD;have fC:=bi2 (p1:=jt) (p2:=kH) bL λ_ _ _ _ _ _ _ _=>rfl;obtain⟨lv,la,cn,bf⟩:=hm;have cs:=bi4 (p1:=kr) (p2:=nh) (p3:=nU) (p4:=me) bf λ_ _ _ _ _ _ _ _ _ _=>rfl;obtain⟨lk,k3,eY,hY,l3,bG⟩:=ge;have fv:=bi2 (p1:=jt) (p2:=jJ) bG λ_ _ _ _ _ _ _ _=>rfl;refine(fO nq nq Dh .none bz br bB bp (.ref c) bq,λdd v=>.of_eq zd,λf _ _ bv=>?_);have dA:gF b ko ko DS a8 (fO ko ko DS .none cV cG c8 co (.ref iK) cy) iK:=⟨(_,_,_,_,_,_,_,_,rfl,c4,ct)⟩;have dB:gF b jQ jQ BP a9 (fO jQ jQ BP .none c0 cI da cp (.ref iS) cB) iS:=⟨(_,_,_,_,_,_,_,_,rfl,c5,cu)⟩;have g3:=@g3 l.prog w b e f a;have r3:=@r3 l.prog w b e f a;have m3:=@m3 l.prog w b e f;have s3:=@s3 l.prog w b e f;have gN:=@gN l.prog w b e f a;have rN:=@rN l.prog w b e f a;have mN:=@mN l.prog w b e f;have sN:=@sN l.prog w b e f;have FT:=@fnT l.prog w b e f;have MT:=@mtT l.prog w b e f;have cb:=gN bw λF=>Ny F B;have bm:=gN hA λF=>RX F B hL;have bn:=gN hK λF=>O1 F;have em:=gN hC λF=>NX F B;have b8:=gN cR λF=>Jr F B;have el:=gN hB λF=>L1 F B b8;have es:=gN hI λF=>Td F B em el bn cb;have eo:=gN hF λF=>XV F B hG bm es;have ek:=gN hz λF=>Na F B hM eo;have dP:=gN gU λF=>Re F;have bk:=mN hu λF=>Tk F B T bn;have bl:=mN hx λF=>Vq F T;have d1:=gN hd λF=>Vk F B;have b2:=gN he λF=>Tm F;have ab:=gN cQ λF=>Vl F b2;have eb:=gN hn λF=>Rj F B d1;have d7:=gN cP λF=>Tw F B ab;have cd:=gN cT λF=>MD F bu (FT (sp:=HJ b) bh (IR bh B) (a fs) fJ);have a5:=gN hW λF=>Rr F T bk;have k0:=m3 cS λF=>Nr F T VT cd a5 bl;have ar:=mN hV λF=>PB F VT;have d0:=gN hc λF=>Rk F B;have ec:=gN hp λF=>Ri F ab;have b4:=gN ho λF=>T5 F B d0;have a3:=gN g4 λF=>Xn F B;have dT:=gN g0 λF=>Y1 F B a3;have bj:=mN gO λF=>Xr F B DT (a de);have dO:=mN gM λF=>Yn F DT;have dK:=mN gA λF=>Yr F DT (a de) (a di) jT bj;have dI:=mN gz λF=>Ys F DT;have dL:=mN gD λF=>Yt F B DT (a dk) bj;have dM:=mN gI λF=>Yu F DT dK dI dL;have dN:=mN gL λF=>V4 F B DT (a dk) bj;have dU:=g3 g1 λF=>Yx F;have ei:=mN hw λF=>Vi F B T;have eg:=mN ht λF=>Xg F B T KI c6 ei;have cc:=mN hU λF=>T7 F VT;have d8:=g3 hj λF=>UD F;have ca:=gN hH λF=>Y9 F VT cc eg jc qm;have b0:=gN ha λF=>ZL F B (a kq);have dG:=mN (sp:=(spNs o C)) go λF=>ZH F B E;have dF:=mN (sp:=(spLn o C)) gm λF=>ZI F B E;have al:=m3 (sp:=(gC o C t)) gc λF=>ZJ F E VT ar;have b3:=g3 hh λF=>Xz F B (r bo);have ed:=gN hr λF=>X0 F ab;have ef:=g3 hs λF=>X1 F B ab;have GW:FnS l.prog w b e f kJ 1 [jY] (Ea b (λi=>([u,n,m,x,D,q,s,G,H,I,p]:List jr).getD i 0)):=⟨(_,_,Vv bg B ce,a fi,bg.kp,fA)⟩;have ME:Xl l.prog w b e f j:=(a aM,kx,kC,(_,_,kw,EZ a2 (r az),ih,Qe a6));have ag:eE l.prog w b e f jD q:=(a cj,(_,_,(y5.F.cx,y5.i,bx,(_,ba,rfl),y5.F.ke),EZ a2 (r az),Qe a6));have dw:eE l.prog w b e f kj s:=(a ck,(_,_,(y6.F.cx,y6.i,bx,(_,ba,rfl),y6.F.ke),EZ a2 (r az),Qe a6));have dv:eE l.prog w b e f lG p:=(a ch,(_,_,(bb.F.cx,bb.i,bx,(_,ba,rfl),bb.F.ke),EZ a2 (r az),Qe a6));have VO:Ih l.prog w b e f C t:=(VT,c7,(_,_,(d.mz,fu,h4,d.kc),Nr bN T VT cd a5 bl,fK));have ex:=gN bw λF=>IR F B;have b6:=gN cT λF=>QJ F bu ex;have dS:=gN gZ λF=>Xm F B b6;have dX:=gN g9 λF=>Vz F bm dS a3;have dR:=g3 gX λF=>V0 F B dX;have TX:QI l.prog w b e f j m:=(a ci,(_,_,(dp,fr,h3,i7,y2.F.ke),Nw bM ME,fI),Qf y2.s y2.gn y2.gs);have RD:Yv l.prog w b e f g R:=(DT,a eM,(_,_,(X.mz,fa,h0,X.kc),Xp bI DT,fw),dO,dM,dN);have dC:=fun_mk (st:=Cw) lst fP c3
 have h9:nsOkIn b k2=L:=by
  unfold nsOkIn;rw[h7];exact h6
 have SO:Y3 l.prog w b e f g R m:=⟨(_,_,Yw dC B RD TX dR,a fq,c3,_,WJ h9 h8,.cons rfl .nil)⟩;have b7:=gN cR λF=>bH.or (Jr F B) (V6 F B);have b5:=sN hv λF=>Yy F T ag b7;have dV:=r3 g5 λF=>Yz F B T a3 bm b5;have dW:=r3 g8 λF=>Y0 F T (a di) jT bk dU dV;have d2:Fn l.prog w b e f lx 6 J0 (spTree 3):=⟨(_,_,QU bc B (a cl) cq ab 3,a cl,bc.kp,cq)⟩;have d9:Fn l.prog w b e f ky 6 PR (spWrt 3):=⟨(_,_,US be B (a cm) cr ab 3,a cm,be.kp,cr)⟩;have d4:=g3 hg λF=>WA F B d2 d9;have RO:PF l.prog w b e f j n:=(a cg,(_,_,(dn,fn,h2,i6,y1.F.ke),Nu bL ME,fC),Qf y1.s y1.gn y1.gs);have ej:=rN hy λF=>Vy F bu T VO RO cb a5 bl;have dQ:=gN gV λF=>Xu F B (r bo) a3 b6;have en:=r3 hE λF=>Y4 F B dw SO dT dQ dW ej;have b9:=gN cQ λF=>Nh F b2;have ea:Fn l.prog w b e f ly 5 J1 (spCome 3):=⟨(_,_,QY bf (a cn) cs 3,a cn,bf.kp,cs)⟩;have eu:=gN hP λF=>ZA F VO ar ca;have ev:=gN hQ λF=>ZB F VO ar ca;have et:=gN hN λF=>ZC F T VO ar cc bk;have ew:=rN hS λF=>ZT F B VI c7 vI RO a5;have a4:=rN hT λF=>ZK F B T VO ag bn b5;have bi:=sN (sp:=(spEn o C q)) gb λF=>ZE F E ag b7;have an:=sN gw λF=>ZF F E VO bi;have bP:=sN f9 λF=>ZG F E bi;have bS:=s3 gp λF=>ZM F E ag b0 a4 al;have bR:=s3 gn λF=>ZO F E eu a4 an al;have bX:=s3 gv λF=>ZP F E ev a4 an al;have bW:=sN gs λF=>ZQ F E et an al;have dD:=sN gd λF=>ZN F E a4;have bQ:=sN ga λF=>ZR F E bi;have dE:=sN (sp:=(spTk o C p)) gh λF=>ZS F B E dv;have bU:=s3 gr λF=>ZU F B E ag b0 ew en al;have BO:Zf l.prog w b e f o C:=(E,a eL,(_,_,(S.mz,eY,hY,S.kc),ZW bG E,fv));have d5:=gN hi λF=>ZY F B E VT dG dF an bP ar;have TB:jh l.prog w b e f (λi=>([u,n,m,x,D,q,s,G,H,I,p]:List jr).getD i 0) j:=((_,_,bK,a fh,fx),ce,EX,GW);obtain⟨f3,f0⟩:=bv _ (zH ..);obtain⟨f4,f1⟩:=bv _ (zQ _ (zH ..));obtain⟨f5,f2⟩:=bv _ (zQ _ (zQ _ (zH ..)));have un:=Wf (T:=[(y,q1,(gJ)),(A,q2,(hZ)),(z,q3,(hX))]) pd;have f7:(y,q1,(gJ))∈([(y,q1,(gJ)),(A,q2,(hZ)),(z,q3,(hX))]:List (jr×Str×List Pos)):=zH ..;have cN:(A,q2,(hZ))∈([(y,q1,(gJ)),(A,q2,(hZ)),(z,q3,(hX))]:List (jr×Str×List Pos)):=zQ _ (zH ..);have cO:(z,q3,(hX))∈([(y,q1,(gJ)),(A,q2,(hZ)),(z,q3,(hX))]:List (jr×Str×List Pos)):=zQ _ (zQ _ (zH ..));have fE:=bi5 (p1:=jv) (p2:=ju) (p3:=lj) (p4:=jW) (p5:=kG) (fun_mk (st:=DS) c4 ct c1) λ_ _ _ _ _ _ _ _ _ _ _=>rfl;have fF:=bi6 (p1:=jv) (p2:=ju) (p3:=lj) (p4:=jW) (p5:=kG) (p6:=jG) (fun_mk (st:=BP) c5 cu c2) λ_ _ _ _ _ _ _ _ _ _ _ _=>rfl;have er:Fn l.prog w b e f jQ 11 pLr (spLr b o C R [(y,q1,(gJ)),(A,q2,(hZ)),(z,q3,(hX))]):=⟨(_,_,Ze dB f5 f2 TB cO (un _ cO) B E ds bF b4 b3 d4 ea d8 bU,a fp,c2,fF)⟩;have ep:Fn l.prog w b e f ko 12 pLs (spLs b o C R [(y,q1,(gJ)),(A,q2,(hZ)),(z,q3,(hX))]):=⟨(_,_,Zd dA f4 f1 TB cN (un _ cN) B (r bo) E bE dx b4 ed b9 ef b3 bS bR bX bW bQ dE er,a fo,c1,fE)⟩;have KO:Ua l.prog w b e f C:=(T,c6,(_,_,(Q.mz,fc,h1,Q.kc),Vg Fin B T hR rT ek dP b8,_,WI));have dZ:=gN hb λF=>Zg F B KO BO d7 ec b9 ep;exact X8 dz (f3,f0,TB,f7,un,B,E,bE,bF,du,eb,dZ,d5,bS,bR,bX,bW,bQ,bU,an,bP,dD)
def walk{l:OpenLaw}{q:Program}{loose:jm}{XP:(Str->Option Value)->Heap->Prop}{YP:World->Heap->Prop}{d:DefRec}{K:Params->Frag}{c P0 iK Ps2 iS Ps3 bd:jr}{dl:List DcE}{ep:Nat}(hn:l.most=U 63)(hdf:d.params.defaults=[])(hb5:5<=bd)(iQ:dl.length<=1000)(i9:(dl.map (·.1)).Nodup)(he:iR dl=CP)
  (hY:∀(w:World)(h:Heap),YP w h->(K w.params).In h/\(∀t∈([(c,(P0)),(iK,(Ps2)),(iS,(Ps3))]:List (jr×jr)),h.get? t.2=U (tabObj #[])/\(K w.params).lookup t.2=J/\CodeHd h t.1 t.2)/\h.get? bd=U (dcObj w.params dl ep)/\(K w.params).lookup bd=J)
  (F:∀(w:World)(mg:SV)(fa:jr)(h:Heap),(K w.params).In h->h.Ns mainGlobals mg->mg d.name=U (.ref fa) ->
   ∃fd:FuncData,(∀(s:js)(u:Value),BindsTo s fd ([u],[]) [(jP,(u))])/\∀base:Heap,(K w.params).In base->base.Ns mainGlobals mg->(∀t∈([(c,(P0)),(iK,(Ps2)),(iS,(Ps3))]:List (jr×jr)),CodeHd base t.1 t.2/\base.BuiltinsAt mg t.2)->bH l.prog w (K w.params) mg base cF 14 fa fd [jP] (Qd (K w.params) [(P0,q1,(gJ)),(Ps2,q2,(hZ)),(Ps3,q3,(hX))] bd)):
  WalkO q loose XP YP l.row.toRowW d [] (λf vs=>PySem.call f vs):=
 L2.TK (n:=63) (k:=14) (x:=jP) (CX:=λ_=>cF) (sp:=λw=>Qd (K w.params) [(P0,q1,(gJ)),(Ps2,q2,(hZ)),(Ps3,q3,(hX))] bd) hn qc hdf (rfl,qc,qc) hb5 iQ i9 hY F
  (λ_ _ a ns hl hP hB hS=>(a,ns,rfl,hS,hl,λp hp=>by
   simp only[mem_cons,not_mem_nil,or_false]at hp;rcases hp with rfl|rfl|rfl
   .exact(#[],hP (c,(P0)) (zH ..),trivial,λ_ _=>.inl Y)
   .exact(#[],hP (iK,(Ps2)) (zQ _ (zH ..)),trivial,λ_ _=>.inl Y)
   .exact(#[],hP (iS,(Ps3)) (zQ _ (zQ _ (zH ..))),trivial,λ_ _=>.inl Y),he ▸ hB,λ_=>rfl)) λ_ _ _ _ _ z=>z
end Mk
end
end
noncomputable section
section
namespace Hd
open PySem PySem.W PySem.Calls PyProof.Rows
def runT (tb:String->Option Builtin) (p:Program) (w:World) (n₀:Nat) (ann:Option Value):Nat->SharedT->Thread->Option SharedT
 |0,_,_=>none
 |n+1,s,t=>match through t with
  |true=>some s
  |false=>match stepOk n₀ ann t with
   |false=>none
   |true=>match stepT (denote tb) p w s t with
    |some (s',t')=>runT tb p w n₀ ann n s' t'
    |none=>none
theorem runT_of {tb:String->Option Builtin}{p:Program}{w:World}{n₀:Nat}{ann:Option Value}:∀ {n:Nat}{s s':SharedT}{t:Thread},runT tb p w n₀ ann n s t=some s'->topRun tb p w n₀ ann n s.abs t=some s'.abs
 |0,_,_,_,h=>by cases h
 |n+1,s,s',t,h=>by
  unfold runT at h
  unfold topRun
  cases ht:through t with
  |true=>rw[ht]at h;cases h;rfl
  |false=>
   rw[ht]at h
   cases hk:stepOk n₀ ann t with
   |false=>rw[hk]at h;cases h
   |true=>
    rw[hk]at h
    cases hs:stepT (denote tb) p w s t with
    |none=>rw[hs]at h;cases h
    |some r=>obtain⟨s₂,t₂⟩:=r;rw[hs]at h;rw[stepT_spec hs];exact runT_of h
def looksAt (p q:Program) (loose:List Str) (Xt:Shared->Bool) (as:List Addr) (h₀:Heap) (s:Shared):=
 (staticsOk (importedModules p.main.body) h₀ s.heap&&namesBound p s.heap&&gensDone s&&laidKept h₀ s.heap,openSeen q loose (importedModules p.main.body) Xt true s,as.map s.heap.get?)
def left_of {p q:Program}{loose:List Str}{Xt:Shared->Bool}{as:List Addr}{K:Params->Frag}{N M m₀:Nat}{ann:Option Value}{T0:Params->BT}{life:Life}
  (open_:∀w:World,(fencedOpening treeTable p w N).map (fun s=>(s.heap,s.gens,s.drawn,s.toks))=some (boot_heap w.params,#[],boot_drawn,boot_toks))
  (tree:∀P:Params,absHeap (T0 P) m₀ life=boot_heap P)
  (size:∀w:World,((boot_heap w.params).isNs mainGlobals,(boot_heap w.params).objs.size,(boot_heap w.params).nsMap mainGlobals "__annotations__")=(true,m₀,ann))
  (le:Nat.ble M N=true)
  (run:∀(w:World) (os:OsState),(runT treeTable p w m₀ ann M ⟨T0 w.params,m₀,life,#[],boot_drawn,boot_toks,os⟩ (topStub p)).map (fun s=>looksAt p q loose Xt as (boot_heap w.params) s.abs)=some (true,openGood q loose,(K w.params).map fun x=>some x.2)):
  LeftO p q loose Xt (fun s=>as.map s.heap.get?) (fun w=>(K w.params).map fun x=>some x.2) N:=fun w=>by
 obtain⟨⟨h,gs,d,k,os⟩,e,e'⟩:=Option.map_eq_some_iff.mp (open_ w)
 obtain⟨rfl,rfl,rfl,rfl⟩:h=boot_heap w.params/\gs=#[]/\d=boot_drawn/\k=boot_toks:=by simpa using e'
 obtain⟨z1,z2,z3⟩:_/\_/\_:=by simpa only[Prod.mk.injEq]using size w
 obtain⟨sT,r1,r2⟩:=Option.map_eq_some_iff.mp (run w os)
 have r3:=runT_of r1
 have r4:topRun treeTable p w m₀ ann M ⟨boot_heap w.params,#[],boot_drawn,boot_toks,os⟩ (topStub p)=some sT.abs:=by
  rw[←tree w.params]
  exact r3
 have r:=topRun_mono (N-M) _ _ _ _ r4
 rw[show M+(N-M)=N by have:=Nat.le_of_ble_eq_true le;omega]at r
 unfold looksAt at r2
 obtain⟨l1,l2,l3⟩:_/\_/\_:=by simpa only[Prod.mk.injEq]using r2
 have t:topFrom treeTable p w N ⟨boot_heap w.params,#[],boot_drawn,boot_toks,os⟩=some sT.abs:=by
  unfold topFrom
  dsimp only
  rw[z1,z2,z3,r]
  show(match staticsOk (importedModules p.main.body) (boot_heap w.params) sT.abs.heap&&namesBound p sT.abs.heap&&gensDone sT.abs&&laidKept (boot_heap w.params) sT.abs.heap with|true=>_|false=>_)=_
  rw[l1]
 unfold openEnds
 rw[e]
 show(topFrom treeTable p w N _).map _=_
 rw[t]
 exact congrArg some (Prod.ext l2 l3)
end Hd
end
noncomputable section
open PySem PySem.W PySem.Calls PyProof.Rows
abbrev Mk.fS (x q:Str) (s:Stmt) (dV kV doc pm:Value) (an:Option Addr) (cd ct:Value):FuncData:=fnOf x q (L2.defArgs s) (L2.defBody s) (L2.defScope s) dV kV doc pm an cd ct
abbrev Mk.cO (x:Str) (a:Nat) (q:Str) (b c:Nat) (d e f g h:Int) (i j l m n:Nat) (o p:Int) (r:Nat):Obj:=⟨.type "code",none,.fields #[.str x a,.str q b,.str "/claim/cut.py" c,.int d 0,.int e 0,.int f 0,.int g 0,.int h 0,.ref i,.bool true,.int 181 0,.ref j,.none,.ref l,.ref m,.ref n,.int o 0,.int p 0,.str "/claim/cut.py" r],#[]⟩
abbrev db (P:PySem.Params) (x:Str) (t:Nat) (v:Value):DictEntry:=⟨PyData.keyHash P x,.str x t,v⟩
abbrev Mk.fN (x q:Str) (s:Stmt) (m:Str) (t c:Nat):Obj:=⟨.type "function",none,.func (Mk.fS x q s .none .none .none (.str m t) none (.ref c) .none),#[]⟩
abbrev Mk.eC (x:Str) (a b c d e f:Nat):Obj:=⟨.type "type",none,.cls ⟨x,[.ref a],[.ref b,.ref a,.type "ValueError",.type "Exception",.type "BaseException",.type "object"],c,x,true,[],[],false,none,false⟩,#[some (.ref d),none,some (.str x e),some (.str x f),some (.builtin "ValueError.__new__"),some (.bool true)]⟩
abbrev Mk.cP (a:Nat) (x q:Str) (t:Nat) (l n:Int) (u:Nat):Obj:=Mk.cO x t q (t+1) (t+2) l n 0 0 3 (a-5) (a-4) (a-3) (a-2) (a-1) u l (u+1)
noncomputable abbrev Mk.ic (i j:Nat):=L2.inClass (Mk.top i) j
abbrev Mk.fM0 (x q:Str) (s:Stmt):=Mk.fN x q s "markworks.errors" 187
abbrev Mk.fM1 (x q:Str) (s:Stmt):=Mk.fN x q s "markworks.kinds" 428
abbrev Mk.fM2 (x q:Str) (s:Stmt):=Mk.fN x q s "markworks.values" 637
abbrev Mk.fM3 (x q:Str) (s:Stmt):=Mk.fN x q s "markworks.grammar" 787
abbrev Mk.fM4 (x q:Str) (s:Stmt):=Mk.fN x q s "markworks.formulas" 974
abbrev Mk.fM5 (x q:Str) (s:Stmt):=Mk.fN x q s "markworks.books" 988
abbrev Mk.fM6 (x q:Str) (s:Stmt):=Mk.fN x q s "law_markworks_k71_books_refused" 1187
abbrev Mk.cQ (a:Nat) (x q:Str) (t:Nat) (l n:Int) (u:Nat):Obj:=⟨.type "code",none,.fields #[.str x t,.str q (t+1),.str "/claim/cut.py" (t+2),.int l 0,.int n 0,.int 0 0,.int 0 0,.int 3 0,.ref (a-3),.bool true,.int 181 0,.ref (a-2),.none,.none,.none,.ref (a-1),.int u 0,.int l 0,.str "/claim/cut.py" (u+1)],#[]⟩
abbrev Mk.dR (P:PySem.Params) (x:Str) (t r:Nat):DictEntry:=db P x t (.ref r)
abbrev Mk.dN (P:PySem.Params) (x:Str) (t:Nat):DictEntry:=db P x t .none
abbrev Mk.oC (x:Str) (a t u:Nat):Obj:=⟨.type "type",none,.cls ⟨x,[.type "object"],[.ref a,.type "object"],a-1,x,true,[],[],false,none,false⟩,#[none,none,some (.str x t),some (.str x u),some (.builtin "object.__new__"),some (.bool true)]⟩
abbrev Mk.dP (a:Nat) (x:Str):=Mk.cP a x x
abbrev Mk.dQ (a:Nat) (x:Str):=Mk.cQ a x x
abbrev Mk.gM1 (x:Str):=Mk.fM1 x x
abbrev Mk.gM2 (x:Str):=Mk.fM2 x x
abbrev Mk.gM3 (x:Str):=Mk.fM3 x x
abbrev Mk.gM4 (x:Str):=Mk.fM4 x x
abbrev Mk.gM5 (x:Str):=Mk.fM5 x x
abbrev Mk.gM6 (x:Str):=Mk.fM6 x x
noncomputable def Mk.Kg (P:PySem.Params):PySem.W.Frag:=
 (nat_lit 2,⟨.none,none,(.dict #[] 0),#[]⟩)::(nat_lit 3,⟨.type "dict",none,(.dict #[db P "__name__" 165 (.str "law_markworks_k71_books_refused" 1187),Mk.dN P "__doc__" 166,Mk.dN P "__package__" 167,db P "__loader__" 168 (.builtin "__main__.__loader__#opaque"),Mk.dN P "__spec__" 169,Mk.dR P "__annotations__" 170 6,Mk.dR P "__builtins__" 171 4,db P "__file__" 173 (.str "/claim/cut.py" 172),Mk.dN P "__cached__" 174,Mk.dR P "MarkError" 215 32,Mk.dR P "BadRows" 240 52,Mk.dR P "BadRule" 256 64,Mk.dR P "BadName" 272 76,Mk.dR P "BadNumber" 288 88,Mk.dR P "BadRest" 313 107,Mk.dR P "Unlike" 329 119,Mk.dR P "BadText" 354 138,Mk.dR P "BadPairs" 370 150,Mk.dR P "Never" 386 162,Mk.dR P "Unled" 411 181,Mk.dR P "Nothing" 427 193,db P "GREATEST" 435 (.int 1048575 434),db P "MOST_ROWS" 437 (.int 10 436),db P "LONGEST_NAME" 439 (.int 6 438),Mk.dR P "RULES" 444 196,Mk.dR P "is_whole" 451 203,Mk.dR P "is_name" 457 208,Mk.dR P "is_mark" 464 215,Mk.dR P "union_of" 473 222,Mk.dR P "is_one_of" 481 229,Mk.dR P "mark_bits" 487 234,Mk.dR P "next_mark" 494 241,Mk.dR P "is_names_of" 500 246,Mk.dR P "thing_number" 506 251,Mk.dR P "row_number" 517 258,Mk.dR P "numbered" 528 265,Mk.dR P "first_names" 538 272,Mk.dR P "Kind" 636 349,db P "LIMIT" 642 (.int 1099511627776 641),Mk.dR P "is_number" 649 360,Mk.dR P "rest_of" 657 367,Mk.dR P "Value" 731 424,Mk.dR P "made" 741 435,Mk.dR P "value_of" 747 440,Mk.dR P "same_kind" 755 447,Mk.dR P "union" 763 454,Mk.dR P "without" 771 461,Mk.dR P "turned" 778 468,Mk.dR P "within" 786 475,Mk.dR P "JOINING" 792 476,Mk.dR P "BINDING" 808 477,db P "LEAST_BINDING" 810 (.int 1 809),Mk.dR P "is_letter" 817 484,Mk.dR P "is_figures" 823 489,Mk.dR P "is_part" 831 496,Mk.dR P "part_end" 841 503,Mk.dR P "Reading" 925 569,Mk.dR P "steps_of" 937 581,Mk.dR P "letters_in" 943 586,Mk.dR P "joined" 952 593,Mk.dR P "part_number" 961 600,Mk.dR P "number_of" 973 607,Mk.dR P "is_table" 981 612,Mk.dR P "reckoned" 987 617,db P "LONGEST_BOOK_NAME" 991 (.int 8 990),Mk.dR P "is_book_name" 997 622,Mk.dR P "value_alone" 1005 629,Mk.dR P "book_of" 1014 636,Mk.dR P "Book" 1186 768,Mk.dR P "_law_cell" 1196 779,Mk.dR P "_law_drawn" 1205 786,Mk.dR P "_law_roll" 1214 793,Mk.dR P "_law_rounds" 1220 798,Mk.dR P "_law_word" 1226 803,Mk.dR P "_law_told" 1234 810,Mk.dR P "_law_bits_of" 1240 815,Mk.dR P "_law_rule_of" 1247 822,Mk.dR P "_law_lines" 1253 827,Mk.dR P "_law_table_of" 1259 832,Mk.dR P "_law_made" 1270 839,Mk.dR P "_law_tree" 1282 846,Mk.dR P "_law_written" 1294 853,Mk.dR P "_law_come" 1306 860,Mk.dR P "_law_formula" 1317 867,Mk.dR P "_law_names" 1331 874,Mk.dR P "_law_book_like" 1340 881,Mk.dR P "_law_give" 1351 888,Mk.dR P "_law_word_of" 1358 895,Mk.dR P "_law_step" 1379 902,Mk.dR P "_law_reckoning" 1385 907,Mk.dR P "_law_book" 1402 914,Mk.dR P "law" 1408 919] 92),#[]⟩)::(nat_lit 22,⟨.type "tuple",none,(.seq #[(.str "" 201)] 0),#[]⟩)::(nat_lit 28,Mk.cP 28 "__init__" "MarkError.__init__" 202 4 2 207)::(nat_lit 29,⟨.type "function",none,(.func (Mk.fS "__init__" "MarkError.__init__" (L2.inClass (Mk.top 1) 0) (.ref 22) .none .none (.str "markworks.errors" 187) none (.ref 28) .none)),#[]⟩)::(nat_lit 31,⟨.type "dict",none,(.dict #[db P "__module__" 196 (.str "markworks.errors" 187),db P "__firstlineno__" 200 (.int 2 199),Mk.dR P "__init__" 209 29,Mk.dR P "__static_attributes__" 210 30,Mk.dR P "__weakref__" 212 33,Mk.dN P "__doc__" 213] 3),#[]⟩)::(nat_lit 32,⟨.type "type",none,(.cls ⟨"MarkError",[(.type "ValueError")],[(.ref 32),(.type "ValueError"),(.type "Exception"),(.type "BaseException"),(.type "object")],31,"MarkError",true,[],[(.ref 52),(.ref 64),(.ref 76),(.ref 88),(.ref 107),(.ref 119),(.ref 138),(.ref 150),(.ref 162),(.ref 181),(.ref 193)],false,none,false⟩),#[(some (.ref 15)),none,(some (.str "MarkError" 189)),(some (.str "MarkError" 197)),(some (.builtin "ValueError.__new__")),(some (.bool true))]⟩)::(nat_lit 52,Mk.eC "BadRows" 32 52 51 36 216 224)::(nat_lit 64,Mk.eC "BadRule" 32 64 63 55 241 249)::(nat_lit 75,⟨.type "dict",none,(.dict #[db P "__module__" 264 (.str "markworks.errors" 187),db P "__firstlineno__" 268 (.int 13 267),Mk.dR P "__static_attributes__" 269 74,Mk.dN P "__doc__" 270] 2),#[]⟩)::(nat_lit 76,Mk.eC "BadName" 32 76 75 67 257 265)::(nat_lit 87,⟨.type "dict",none,(.dict #[db P "__module__" 280 (.str "markworks.errors" 187),db P "__firstlineno__" 284 (.int 15 283),Mk.dR P "__static_attributes__" 285 86,Mk.dN P "__doc__" 286] 2),#[]⟩)::(nat_lit 88,Mk.eC "BadNumber" 32 88 87 79 273 281)::(nat_lit 103,Mk.cP 103 "__init__" "BadRest.__init__" 301 19 2 306)::(nat_lit 104,Mk.fM0 "__init__" "BadRest.__init__" (Mk.ic 6 0) 103)::(nat_lit 106,⟨.type "dict",none,(.dict #[db P "__module__" 296 (.str "markworks.errors" 187),db P "__firstlineno__" 300 (.int 17 299),Mk.dR P "__init__" 308 104,Mk.dR P "__static_attributes__" 310 105,Mk.dN P "__doc__" 311] 2),#[]⟩)::(nat_lit 107,Mk.eC "BadRest" 32 107 106 91 289 297)::(nat_lit 119,Mk.eC "Unlike" 32 119 118 110 314 322)::(nat_lit 134,Mk.cP 134 "__init__" "BadText.__init__" 342 26 2 347)::(nat_lit 135,Mk.fM0 "__init__" "BadText.__init__" (Mk.ic 8 0) 134)::(nat_lit 137,⟨.type "dict",none,(.dict #[db P "__module__" 337 (.str "markworks.errors" 187),db P "__firstlineno__" 341 (.int 24 340),Mk.dR P "__init__" 349 135,Mk.dR P "__static_attributes__" 351 136,Mk.dN P "__doc__" 352] 2),#[]⟩)::(nat_lit 138,Mk.eC "BadText" 32 138 137 122 330 338)::(nat_lit 150,Mk.eC "BadPairs" 32 150 149 141 355 363)::(nat_lit 162,Mk.eC "Never" 32 162 161 153 371 379)::(nat_lit 181,Mk.eC "Unled" 32 181 180 165 387 395)::(nat_lit 192,⟨.type "dict",none,(.dict #[db P "__module__" 419 (.str "markworks.errors" 187),db P "__firstlineno__" 423 (.int 38 422),Mk.dR P "__static_attributes__" 424 191,Mk.dN P "__doc__" 425] 2),#[]⟩)::(nat_lit 193,Mk.eC "Nothing" 32 193 192 184 412 420)::(nat_lit 196,⟨.type "tuple",none,(.seq #[(.str "bar" 440),(.str "drop" 441),(.str "keep" 442),(.str "leave" 443)] 0),#[]⟩)::(nat_lit 202,Mk.dP 202 "is_whole" 445 45 1 449)::(nat_lit 203,Mk.gM1 "is_whole" (Mk.top 18) 202)::(nat_lit 207,Mk.dQ 207 "is_name" 452 47 1 455)::(nat_lit 208,Mk.gM1 "is_name" (Mk.top 19) 207)::(nat_lit 221,Mk.dP 221 "union_of" 465 53 1 471)::(nat_lit 222,Mk.gM1 "union_of" (Mk.top 21) 221)::(nat_lit 228,Mk.dP 228 "is_one_of" 474 58 2 479)::(nat_lit 229,Mk.gM1 "is_one_of" (Mk.top 22) 228)::(nat_lit 240,Mk.dP 240 "next_mark" 488 62 1 492)::(nat_lit 241,Mk.gM1 "next_mark" (Mk.top 24) 240)::(nat_lit 245,Mk.dQ 245 "is_names_of" 495 64 2 498)::(nat_lit 246,Mk.gM1 "is_names_of" (Mk.top 25) 245)::(nat_lit 250,Mk.dQ 250 "thing_number" 501 66 2 504)::(nat_lit 251,Mk.gM1 "thing_number" (Mk.top 26) 250)::(nat_lit 257,Mk.dP 257 "row_number" 507 74 2 515)::(nat_lit 258,Mk.gM1 "row_number" (Mk.top 27) 257)::(nat_lit 264,Mk.dP 264 "numbered" 518 84 1 526)::(nat_lit 265,Mk.gM1 "numbered" (Mk.top 28) 264)::(nat_lit 271,Mk.dP 271 "first_names" 529 94 1 536)::(nat_lit 272,Mk.gM1 "first_names" (Mk.top 29) 271)::(nat_lit 280,⟨.type "dict",none,(.dict #[db P "rest" 552 (.str "bar" 551)] 1),#[]⟩)::(nat_lit 286,Mk.cO "__init__" 553 "Kind.__init__" 554 555 101 2 0 1 3 281 282 283 284 285 559 101 560)::(nat_lit 287,⟨.type "function",none,(.func (Mk.fS "__init__" "Kind.__init__" (L2.inClass (Mk.top 30) 0) .none (.ref 280) .none (.str "markworks.kinds" 428) none (.ref 286) .none)),#[]⟩)::(nat_lit 293,Mk.cP 293 "rows" "Kind.rows" 562 108 1 566)::(nat_lit 294,Mk.fM1 "rows" "Kind.rows" (Mk.ic 30 1) 293)::(nat_lit 300,Mk.cP 300 "number" "Kind.number" 569 111 2 574)::(nat_lit 301,Mk.fM1 "number" "Kind.number" (Mk.ic 30 2) 300)::(nat_lit 324,Mk.cP 324 "known" "Kind.known" 596 126 1 600)::(nat_lit 325,Mk.fM1 "known" "Kind.known" (Mk.ic 30 6) 324)::(nat_lit 331,Mk.cP 331 "rest" "Kind.rest" 603 129 1 607)::(nat_lit 332,Mk.fM1 "rest" "Kind.rest" (Mk.ic 30 7) 331)::(nat_lit 338,Mk.cP 338 "__eq__" "Kind.__eq__" 610 132 2 615)::(nat_lit 339,Mk.fM1 "__eq__" "Kind.__eq__" (Mk.ic 30 8) 338)::(nat_lit 348,⟨.type "dict",none,(.dict #[db P "__module__" 546 (.str "markworks.kinds" 428),db P "__firstlineno__" 550 (.int 99 549),Mk.dR P "__init__" 561 287,Mk.dR P "rows" 568 294,Mk.dR P "number" 576 301,Mk.dR P "names" 583 308,Mk.dR P "aliases" 589 313,Mk.dR P "marks" 595 318,Mk.dR P "known" 602 325,Mk.dR P "rest" 609 332,Mk.dR P "__eq__" 617 339,Mk.dR P "__len__" 624 346,Mk.dR P "__static_attributes__" 628 347,Mk.dR P "__dict__" 630 350,Mk.dR P "__weakref__" 632 351,Mk.dN P "__doc__" 633,Mk.dN P "__hash__" 634] 5),#[]⟩)::(nat_lit 349,Mk.oC "Kind" 349 539 547)::(nat_lit 359,Mk.dP 359 "is_number" 643 139 1 647)::(nat_lit 360,Mk.gM2 "is_number" (Mk.top 33) 359)::(nat_lit 366,Mk.dP 366 "rest_of" 650 141 2 655)::(nat_lit 367,Mk.gM2 "rest_of" (Mk.top 34) 366)::(nat_lit 380,Mk.cP 380 "__init__" "Value.__init__" 670 145 3 676)::(nat_lit 381,Mk.fM2 "__init__" "Value.__init__" (Mk.ic 35 0) 380)::(nat_lit 387,Mk.cP 387 "number" "Value.number" 679 153 1 683)::(nat_lit 388,Mk.fM2 "number" "Value.number" (Mk.ic 35 1) 387)::(nat_lit 394,Mk.cP 394 "kind" "Value.kind" 686 156 1 690)::(nat_lit 395,Mk.fM2 "kind" "Value.kind" (Mk.ic 35 2) 394)::(nat_lit 423,⟨.type "dict",none,(.dict #[db P "__module__" 665 (.str "markworks.values" 637),db P "__firstlineno__" 669 (.int 143 668),Mk.dR P "__init__" 678 381,Mk.dR P "number" 685 388,Mk.dR P "kind" 692 395,Mk.dR P "marks" 698 400,Mk.dR P "rest" 705 407,Mk.dR P "__eq__" 713 414,Mk.dR P "__len__" 720 421,Mk.dR P "__static_attributes__" 723 422,Mk.dR P "__dict__" 725 425,Mk.dR P "__weakref__" 727 426,Mk.dN P "__doc__" 728,Mk.dN P "__hash__" 729] 5),#[]⟩)::(nat_lit 424,Mk.oC "Value" 424 658 666)::(nat_lit 434,Mk.dP 434 "made" 732 170 2 739)::(nat_lit 435,Mk.gM2 "made" (Mk.top 36) 434)::(nat_lit 439,Mk.dQ 439 "value_of" 742 182 2 745)::(nat_lit 440,Mk.gM2 "value_of" (Mk.top 37) 439)::(nat_lit 446,Mk.dP 446 "same_kind" 748 186 2 753)::(nat_lit 447,Mk.gM2 "same_kind" (Mk.top 38) 446)::(nat_lit 453,Mk.dP 453 "union" 756 190 2 761)::(nat_lit 454,Mk.gM2 "union" (Mk.top 39) 453)::(nat_lit 460,Mk.dP 460 "without" 764 192 2 769)::(nat_lit 461,Mk.gM2 "without" (Mk.top 40) 460)::(nat_lit 467,Mk.dP 467 "turned" 772 194 1 776)::(nat_lit 468,Mk.gM2 "turned" (Mk.top 41) 467)::(nat_lit 476,⟨.type "tuple",none,(.seq #[(.str "&" 789),(.str "^" 790),(.str "|" 791)] 0),#[]⟩)::(nat_lit 483,Mk.dP 483 "is_letter" 811 202 1 815)::(nat_lit 484,Mk.gM3 "is_letter" (Mk.top 47) 483)::(nat_lit 488,Mk.dQ 488 "is_figures" 818 204 1 821)::(nat_lit 489,Mk.gM3 "is_figures" (Mk.top 48) 488)::(nat_lit 495,Mk.dP 495 "is_part" 824 210 2 829)::(nat_lit 496,Mk.gM3 "is_part" (Mk.top 49) 495)::(nat_lit 502,Mk.dP 502 "part_end" 832 212 3 839)::(nat_lit 503,Mk.gM3 "part_end" (Mk.top 50) 502)::(nat_lit 516,Mk.cP 516 "__init__" "Reading.__init__" 854 219 1 858)::(nat_lit 517,Mk.fM3 "__init__" "Reading.__init__" (Mk.ic 51 0) 516)::(nat_lit 523,Mk.cP 523 "take_part" "Reading.take_part" 861 224 2 866)::(nat_lit 524,Mk.fM3 "take_part" "Reading.take_part" (Mk.ic 51 1) 523)::(nat_lit 530,Mk.cP 530 "take_sign" "Reading.take_sign" 869 228 2 874)::(nat_lit 531,Mk.fM3 "take_sign" "Reading.take_sign" (Mk.ic 51 2) 530)::(nat_lit 537,Mk.cP 537 "take_ahead" "Reading.take_ahead" 877 235 2 882)::(nat_lit 538,Mk.fM3 "take_ahead" "Reading.take_ahead" (Mk.ic 51 3) 537)::(nat_lit 544,Mk.cP 544 "take_between" "Reading.take_between" 885 241 2 890)::(nat_lit 545,Mk.fM3 "take_between" "Reading.take_between" (Mk.ic 51 4) 544)::(nat_lit 551,Mk.cP 551 "take_close" "Reading.take_close" 893 249 1 897)::(nat_lit 552,Mk.fM3 "take_close" "Reading.take_close" (Mk.ic 51 5) 551)::(nat_lit 558,Mk.cP 558 "settle" "Reading.settle" 900 256 2 905)::(nat_lit 559,Mk.fM3 "settle" "Reading.settle" (Mk.ic 51 6) 558)::(nat_lit 565,Mk.cP 565 "ends" "Reading.ends" 908 260 1 912)::(nat_lit 566,Mk.fM3 "ends" "Reading.ends" (Mk.ic 51 7) 565)::(nat_lit 568,⟨.type "dict",none,(.dict #[db P "__module__" 849 (.str "markworks.grammar" 787),db P "__firstlineno__" 853 (.int 217 852),Mk.dR P "__init__" 860 517,Mk.dR P "take_part" 868 524,Mk.dR P "take_sign" 876 531,Mk.dR P "take_ahead" 884 538,Mk.dR P "take_between" 892 545,Mk.dR P "take_close" 899 552,Mk.dR P "settle" 907 559,Mk.dR P "ends" 914 566,Mk.dR P "__static_attributes__" 918 567,Mk.dR P "__dict__" 920 570,Mk.dR P "__weakref__" 922 571,Mk.dN P "__doc__" 923] 4),#[]⟩)::(nat_lit 569,Mk.oC "Reading" 569 842 850)::(nat_lit 574,⟨.type "dict",none,(.dict #[db P "lettered" 926 (.bool true)] 1),#[]⟩)::(nat_lit 580,Mk.cO "steps_of" 927 "steps_of" 928 929 263 1 0 1 3 575 576 577 578 579 935 263 936)::(nat_lit 581,⟨.type "function",none,(.func (Mk.fS "steps_of" "steps_of" (Mk.top 52) .none (.ref 574) .none (.str "markworks.grammar" 787) none (.ref 580) .none)),#[]⟩)::(nat_lit 585,Mk.dQ 585 "letters_in" 938 280 1 941)::(nat_lit 586,Mk.gM3 "letters_in" (Mk.top 53) 585)::(nat_lit 592,Mk.dP 592 "joined" 944 282 3 950)::(nat_lit 593,Mk.gM3 "joined" (Mk.top 54) 592)::(nat_lit 599,Mk.dP 599 "part_number" 953 288 3 959)::(nat_lit 600,Mk.gM3 "part_number" (Mk.top 55) 599)::(nat_lit 606,Mk.dP 606 "number_of" 962 294 3 971)::(nat_lit 607,Mk.gM3 "number_of" (Mk.top 56) 606)::(nat_lit 611,Mk.dQ 611 "is_table" 976 306 1 979)::(nat_lit 612,Mk.gM4 "is_table" (Mk.top 58) 611)::(nat_lit 616,Mk.dQ 616 "reckoned" 982 310 3 985)::(nat_lit 617,Mk.gM4 "reckoned" (Mk.top 59) 616)::(nat_lit 621,Mk.dQ 621 "is_book_name" 992 319 1 995)::(nat_lit 622,Mk.gM5 "is_book_name" (Mk.top 62) 621)::(nat_lit 628,Mk.dP 628 "value_alone" 998 323 2 1003)::(nat_lit 629,Mk.gM5 "value_alone" (Mk.top 63) 628)::(nat_lit 649,Mk.cP 649 "__init__" "Book.__init__" 1027 333 2 1032)::(nat_lit 650,Mk.fM5 "__init__" "Book.__init__" (Mk.ic 65 0) 649)::(nat_lit 656,Mk.cP 656 "entry" "Book.entry" 1035 338 2 1040)::(nat_lit 657,Mk.fM5 "entry" "Book.entry" (Mk.ic 65 1) 656)::(nat_lit 663,Mk.cP 663 "give" "Book.give" 1043 343 3 1052)::(nat_lit 664,Mk.fM5 "give" "Book.give" (Mk.ic 65 2) 663)::(nat_lit 670,Mk.cP 670 "put" "Book.put" 1055 352 3 1061)::(nat_lit 671,Mk.fM5 "put" "Book.put" (Mk.ic 65 3) 670)::(nat_lit 677,Mk.cP 677 "mark" "Book.mark" 1064 357 3 1070)::(nat_lit 678,Mk.fM5 "mark" "Book.mark" (Mk.ic 65 4) 677)::(nat_lit 684,Mk.cP 684 "unmark" "Book.unmark" 1073 360 3 1079)::(nat_lit 685,Mk.fM5 "unmark" "Book.unmark" (Mk.ic 65 5) 684)::(nat_lit 691,Mk.cP 691 "turn" "Book.turn" 1082 363 2 1087)::(nat_lit 692,Mk.fM5 "turn" "Book.turn" (Mk.ic 65 6) 691)::(nat_lit 698,Mk.cP 698 "drop" "Book.drop" 1090 366 2 1095)::(nat_lit 699,Mk.fM5 "drop" "Book.drop" (Mk.ic 65 7) 698)::(nat_lit 703,Mk.cQ 703 "reckon" "Book.reckon" 1098 370 3 1101)::(nat_lit 704,Mk.fM5 "reckon" "Book.reckon" (Mk.ic 65 8) 703)::(nat_lit 710,Mk.cP 710 "take_back" "Book.take_back" 1104 376 1 1110)::(nat_lit 711,Mk.fM5 "take_back" "Book.take_back" (Mk.ic 65 9) 710)::(nat_lit 717,Mk.cP 717 "value" "Book.value" 1113 385 2 1118)::(nat_lit 718,Mk.fM5 "value" "Book.value" (Mk.ic 65 10) 717)::(nat_lit 724,Mk.cP 724 "changes" "Book.changes" 1121 388 2 1126)::(nat_lit 725,Mk.fM5 "changes" "Book.changes" (Mk.ic 65 11) 724)::(nat_lit 738,Mk.cP 738 "names" "Book.names" 1136 394 1 1140)::(nat_lit 739,Mk.fM5 "names" "Book.names" (Mk.ic 65 13) 738)::(nat_lit 743,Mk.cQ 743 "having" "Book.having" 1143 397 2 1146)::(nat_lit 744,Mk.fM5 "having" "Book.having" (Mk.ic 65 14) 743)::(nat_lit 764,Mk.cP 764 "__len__" "Book.__len__" 1168 413 1 1172)::(nat_lit 765,Mk.fM5 "__len__" "Book.__len__" (Mk.ic 65 17) 764)::(nat_lit 767,⟨.type "dict",none,(.dict #[db P "__module__" 1022 (.str "markworks.books" 988),db P "__firstlineno__" 1026 (.int 331 1025),Mk.dR P "__init__" 1034 650,Mk.dR P "entry" 1042 657,Mk.dR P "give" 1054 664,Mk.dR P "put" 1063 671,Mk.dR P "mark" 1072 678,Mk.dR P "unmark" 1081 685,Mk.dR P "turn" 1089 692,Mk.dR P "drop" 1097 699,Mk.dR P "reckon" 1103 704,Mk.dR P "take_back" 1112 711,Mk.dR P "value" 1120 718,Mk.dR P "changes" 1128 725,Mk.dR P "kind" 1135 732,Mk.dR P "names" 1142 739,Mk.dR P "having" 1148 744,Mk.dR P "lead" 1159 751,Mk.dR P "__eq__" 1167 758,Mk.dR P "__len__" 1174 765,Mk.dR P "__static_attributes__" 1178 766,Mk.dR P "__dict__" 1180 769,Mk.dR P "__weakref__" 1182 770,Mk.dN P "__doc__" 1183,Mk.dN P "__hash__" 1184] 5),#[]⟩)::(nat_lit 768,Mk.oC "Book" 768 1015 1023)::(nat_lit 778,Mk.dP 778 "_law_cell" 1189 416 2 1194)::(nat_lit 779,Mk.gM6 "_law_cell" (Mk.top 67) 778)::(nat_lit 785,Mk.dP 785 "_law_drawn" 1197 420 2 1203)::(nat_lit 786,Mk.gM6 "_law_drawn" (Mk.top 68) 785)::(nat_lit 792,Mk.dP 792 "_law_roll" 1206 425 2 1212)::(nat_lit 793,Mk.gM6 "_law_roll" (Mk.top 69) 792)::(nat_lit 797,Mk.dQ 797 "_law_rounds" 1215 432 2 1218)::(nat_lit 798,Mk.gM6 "_law_rounds" (Mk.top 70) 797)::(nat_lit 802,Mk.dQ 802 "_law_word" 1221 434 1 1224)::(nat_lit 803,Mk.gM6 "_law_word" (Mk.top 71) 802)::(nat_lit 809,Mk.dP 809 "_law_told" 1227 444 1 1232)::(nat_lit 810,Mk.gM6 "_law_told" (Mk.top 72) 809)::(nat_lit 814,Mk.dQ 814 "_law_bits_of" 1235 457 1 1238)::(nat_lit 815,Mk.gM6 "_law_bits_of" (Mk.top 73) 814)::(nat_lit 821,Mk.dP 821 "_law_rule_of" 1241 459 1 1245)::(nat_lit 822,Mk.gM6 "_law_rule_of" (Mk.top 74) 821)::(nat_lit 826,Mk.dQ 826 "_law_lines" 1248 461 2 1251)::(nat_lit 827,Mk.gM6 "_law_lines" (Mk.top 75) 826)::(nat_lit 831,Mk.dQ 831 "_law_table_of" 1254 480 1 1257)::(nat_lit 832,Mk.gM6 "_law_table_of" (Mk.top 76) 831)::(nat_lit 838,Mk.dP 838 "_law_made" 1260 488 3 1268)::(nat_lit 839,Mk.gM6 "_law_made" (Mk.top 77) 838)::(nat_lit 845,Mk.dP 845 "_law_tree" 1271 498 4 1280)::(nat_lit 846,Mk.gM6 "_law_tree" (Mk.top 78) 845)::(nat_lit 852,Mk.dP 852 "_law_written" 1283 510 3 1292)::(nat_lit 853,Mk.gM6 "_law_written" (Mk.top 79) 852)::(nat_lit 859,Mk.dP 859 "_law_come" 1295 520 4 1304)::(nat_lit 860,Mk.gM6 "_law_come" (Mk.top 80) 859)::(nat_lit 866,Mk.dP 866 "_law_formula" 1307 534 3 1315)::(nat_lit 867,Mk.gM6 "_law_formula" (Mk.top 81) 866)::(nat_lit 873,Mk.dP 873 "_law_names" 1318 541 3 1329)::(nat_lit 874,Mk.gM6 "_law_names" (Mk.top 82) 873)::(nat_lit 880,Mk.dP 880 "_law_book_like" 1332 548 2 1338)::(nat_lit 881,Mk.gM6 "_law_book_like" (Mk.top 83) 880)::(nat_lit 887,Mk.dP 887 "_law_give" 1341 555 3 1349)::(nat_lit 888,Mk.gM6 "_law_give" (Mk.top 84) 887)::(nat_lit 894,Mk.dP 894 "_law_word_of" 1352 561 1 1356)::(nat_lit 895,Mk.gM6 "_law_word_of" (Mk.top 85) 894)::(nat_lit 901,Mk.dP 901 "_law_step" 1359 563 5 1377)::(nat_lit 902,Mk.gM6 "_law_step" (Mk.top 86) 901)::(nat_lit 906,Mk.dQ 906 "_law_reckoning" 1380 597 6 1383)::(nat_lit 907,Mk.gM6 "_law_reckoning" (Mk.top 87) 906)::(nat_lit 913,Mk.dP 913 "_law_book" 1386 615 2 1400)::(nat_lit 914,Mk.gM6 "_law_book" (Mk.top 88) 913)::(nat_lit 918,Mk.dQ 918 "law" 1403 623 1 1406)::(nat_lit 919,Mk.gM6 "law" (Mk.top 89) 918)::
 []
noncomputable def Mk.Kf (P:PySem.Params):PySem.W.Frag:=(nat_lit 916,⟨.none,none,(.fields #[]),#[]⟩)::(nat_lit 897,⟨.none,none,(.fields #[]),#[]⟩)::(nat_lit 904,⟨.none,none,(.fields #[]),#[]⟩)::(nat_lit 477,⟨.type "dict",none,(.dict #[db P "(" 793 (.int 0 794),db P "|" 795 (.int 1 796),db P "^" 797 (.int 2 798),db P "&" 799 (.int 3 800),db P "~" 801 (.int 4 802)] 5),#[]⟩)::Mk.Kg P
noncomputable def Mk.Kas:List Nat:=916::897::904::477::2::3::22::28::29::31::32::52::64::75::76::87::88::103::104::106::107::119::134::135::137::138::150::162::181::192::193::196::202::203::207::208::221::222::228::229::240::241::245::246::250::251::257::258::264::265::271::272::280::286::287::293::294::300::301::324::325::331::332::338::339::348::349::359::360::366::367::380::381::387::388::394::395::423::424::434::435::439::440::446::447::453::454::460::461::467::468::476::483::484::488::489::495::496::502::503::516::517::523::524::530::531::537::538::544::545::551::552::558::559::565::566::568::569::574::580::581::585::586::592::593::599::600::606::607::611::612::616::617::621::622::628::629::649::650::656::657::663::664::670::671::677::678::684::685::691::692::698::699::703::704::710::711::717::718::724::725::738::739::743::744::764::765::767::768::778::779::785::786::792::793::797::798::802::803::809::810::814::815::821::822::826::827::831::832::838::839::845::846::852::853::859::860::866::867::873::874::880::881::887::888::894::895::901::902::906::907::913::914::918::919::[]
noncomputable def Mk.loose:List PySem.Str:="MarkError"::"BadRows"::"BadRule"::"BadName"::"BadNumber"::"BadRest"::"Unlike"::"BadText"::"BadPairs"::"Never"::"Unled"::"Nothing"::"GREATEST"::"MOST_ROWS"::"LONGEST_NAME"::"RULES"::"is_whole"::"is_name"::"is_mark"::"union_of"::"is_one_of"::"mark_bits"::"next_mark"::"is_names_of"::"thing_number"::"row_number"::"numbered"::"first_names"::"Kind"::"LIMIT"::"is_number"::"rest_of"::"Value"::"made"::"value_of"::"same_kind"::"union"::"without"::"turned"::"within"::"JOINING"::"BINDING"::"LEAST_BINDING"::"is_letter"::"is_figures"::"is_part"::"part_end"::"Reading"::"steps_of"::"letters_in"::"joined"::"part_number"::"number_of"::"is_table"::"reckoned"::"LONGEST_BOOK_NAME"::"is_book_name"::"value_alone"::"book_of"::"Book"::"_law_cell"::"_law_drawn"::"_law_roll"::"_law_rounds"::"_law_word"::"_law_told"::"_law_bits_of"::"_law_rule_of"::"_law_lines"::"_law_table_of"::"_law_made"::"_law_tree"::"_law_written"::"_law_come"::"_law_formula"::"_law_names"::"_law_book_like"::"_law_give"::"_law_word_of"::"_law_step"::"_law_reckoning"::"_law_book"::[]
abbrev Mk.dl:List L2.DcE:=[("(",793,0,794),("|",795,1,796),("^",797,2,798),("&",799,3,800),("~",801,4,802)]
abbrev Mk.ep:Nat:=5
def Mk.T0 (P:Params):BT:=.node (boot_o_0 P)
 (.node (boot_o_1 P) (.node (boot_o_3 P) (.node (boot_o_7 P) .nil .nil) .nil) (.node (boot_o_5 P) (.node (boot_o_9 P) .nil .nil) .nil))
 (.node (boot_o_2 P) (.node (boot_o_4 P) (.node (boot_o_8 P) .nil .nil) .nil) (.node (boot_o_6 P) (.node (boot_o_10 P) .nil .nil) .nil))
def Mk.tree (P:Params):absHeap (Mk.T0 P) (nat_lit 11) {}=boot_heap P:=by kernel_rfl
def Mk.size (w:World):((boot_heap w.params).isNs mainGlobals,(boot_heap w.params).objs.size,(boot_heap w.params).nsMap mainGlobals "__annotations__")=(true,(nat_lit 11),some (.ref (nat_lit 6))):=by kernel_rfl
def Mk.opens (w:World):(fencedOpening treeTable PySem.Challenge.pw_markworks_k71_books_refused w (nat_lit 13778)).map (fun s=>(s.heap,s.gens,s.drawn,s.toks))=some (boot_heap w.params,#[],boot_drawn,boot_toks):=boot_open qd qc (fun s=>qd) w
def Mk.twin:Function.const _ true (@Hd.runT,@Hd.looksAt)=true:=by k_qdec
abbrev Mk.qv:Program:=view PySem.Challenge.pw_markworks_k71_books_refused [nat_lit 89]
abbrev Mk.Xt (s:Shared):Bool:=xlAt Mk.qv [] s&&recOk [] s
abbrev Mk.RQ (w:World) (os:OsState):Prop:=(Option.map (fun s=>Fast.tw8257016192812374322 PySem.Challenge.pw_markworks_k71_books_refused (view PySem.Challenge.pw_markworks_k71_books_refused [nat_lit 89]) Mk.loose (fun s=>xlAt (view PySem.Challenge.pw_markworks_k71_books_refused [nat_lit 89]) [] s&&recOk [] s) Mk.Kas (boot_heap w.params) s.abs)
   (Fast.tw16599536794577742827 Fast.tw14364793385576792824 PySem.Challenge.pw_markworks_k71_books_refused w (nat_lit 11) (some (Value.ref (nat_lit 6))) (nat_lit 6841) ⟨Mk.T0 w.params,nat_lit 11,{},#[],boot_drawn,boot_toks,os⟩ (topStub PySem.Challenge.pw_markworks_k71_books_refused)))=
  some (true,openGood (view PySem.Challenge.pw_markworks_k71_books_refused [nat_lit 89]) Mk.loose,(Mk.Kf w.params).map fun x=>some x.2)
def Mk.sF (b:Bool) (w:World):World:={w with params:={w.params with followText:=fun s=>if s== "special-get-raises" then b else w.params.followText s}}
def Mk.sF_eq (w:World):Mk.sF (w.params.followText "special-get-raises") w=w:=by
 have:(fun s=>if s== "special-get-raises" then w.params.followText "special-get-raises" else w.params.followText s)=w.params.followText:=funext fun s=>by
  by_cases h:s="special-get-raises"
  · rw[h];rfl
  · rw[if_neg (by simpa using h)]
 unfold Mk.sF
 rw[this]
def Mk.run_t (w:World) (os:OsState):Mk.RQ (Mk.sF true w) os:=by kernel_rfl
def Mk.run_f (w:World) (os:OsState):Mk.RQ (Mk.sF false w) os:=by kernel_rfl
def Mk.run_q (w:World) (os:OsState):Mk.RQ w os:=by
 have e:=Mk.sF_eq w
 cases h:w.params.followText "special-get-raises" with
 |true=>rw[h]at e;rw[←e];exact Mk.run_t w os
 |false=>rw[h]at e;rw[←e];exact Mk.run_f w os
def Mk.left:LeftO PySem.Challenge.pw_markworks_k71_books_refused Mk.qv Mk.loose Mk.Xt (fun s=>Mk.Kas.map s.heap.get?) (fun w=>(Mk.Kf w.params).map fun x=>some x.2) (nat_lit 13778):=by
 refine Hd.left_of (M:=nat_lit 6841) (T0:=Mk.T0) Mk.opens Mk.tree Mk.size qc fun w os=>?_
 have h:=Mk.run_q w os
 unfold Mk.RQ at h
 rw[←Fast.te8257016192812374322,←Fast.te16599536794577742827,←Fast.te14364793385576792824]at h
 exact h
def Mk.wsA:PySem.Challenge.rw_markworks_k71_books_refused.row.wellSaid=true:=by kernel_rfl
def Mk.wsB:PySem.Challenge.rw_markworks_k71_books_refused.wellSaid=true:=by
 unfold OpenLaw.wellSaid
 repeat' with_reducible refine look_both ?_ ?_
 exact Mk.wsA
 all_goals kernel_rfl
def Mk.in_of {K:Frag}{h:Heap}{a:Addr}{o:Obj} (X:Frag.In ((a,o)::K) h) (e:K.lookup a=none):K.In h/\h.get? a=some o:=⟨fun b o' z=>X b o' (by
  rw[List.lookup_cons]
  cases q:(b== a)with
  |false=>exact z
  |true=>rw[beq_iff_eq.mp q,e]at z;cases z),X _ _ (by rw[List.lookup_cons,beq_self_eq_true])⟩
def Mk.kg_in {P:Params}{h:Heap} (X:(Mk.Kf P).In h):(Mk.Kg P).In h/\(∀t∈([(918,916),(901,897),(906,904)]:List (Addr×Addr)),h.get? t.2=some (tabObj #[])/\(Mk.Kg P).lookup t.2=none/\CodeHd h t.1 t.2)/\h.get? 477=some (L2.dcObj P Mk.dl Mk.ep)/\(Mk.Kg P).lookup 477=none:=by
 obtain⟨X,h0⟩:=Mk.in_of X qd
 obtain⟨X,h1⟩:=Mk.in_of X qd
 obtain⟨X,h2⟩:=Mk.in_of X qd
 obtain⟨X,hd⟩:=Mk.in_of X qd
 refine⟨X,fun t ht=>?_,hd,qd⟩
 simp only[List.mem_cons,List.not_mem_nil,or_false]at ht
 rcases ht with rfl|rfl|rfl
 · exact⟨h0,qd,Mk.codeHd_of X qd⟩
 · exact⟨h1,qd,Mk.codeHd_of X qd⟩
 · exact⟨h2,qd,Mk.codeHd_of X qd⟩
def Mk.dL:DefRec:=⟨"law",L2.defArgs (Mk.top (nat_lit 89)),L2.defBody (Mk.top (nat_lit 89)),L2.defScope (Mk.top (nat_lit 89)),match Mk.top (nat_lit 89)with|.FunctionDef _ _ _ _ _ _ _ _ _ p=>p|_=>⟨0,0,0,0⟩⟩
end
open PySem PySem.W PyProof.Rows
set_option maxRecDepth 100000 in
set_option maxHeartbeats 0 in
theorem PySem.Challenge.cw_markworks_k71_books_refused_holds : PySem.Challenge.rw_markworks_k71_books_refused.Holds := by
 w_on
 refine PySem.W.holds_law Mk.wsB fun said=>?_
 refine PySem.W.holds_open (r:=PySem.Challenge.rw_markworks_k71_books_refused.row) (q:=Mk.qv) (loose:=Mk.loose) (Xt:=Mk.Xt) (XP:=XL Mk.qv []) (YP:=InK Mk.Kf) (d:=Mk.dL) (kwd:=[]) Mk.left
  (fun w s e=>InK.of (fun P=>qd) w s e) InK.keeps (fun s e=>xl_of s (Bool.and_eq_true_iff.mp e).1) XL.keeps qd qd qd (fun s e=>recFacts_of (Bool.and_eq_true_iff.mp e).2) (by rfl) (by assumption) qb ⟨rfl,rfl,rfl,rfl,rfl,qb⟩ ?hw ?hc
 case hw=>w_witness2
 have aux:Function.const _ True (PySem.Challenge.rw_markworks_k71_books_refused,Mk.Kg):=by k_fill;trivial
 refine Mk.walk (l:=PySem.Challenge.rw_markworks_k71_books_refused) (bd:=477) (dl:=Mk.dl) (ep:=Mk.ep) (K:=Mk.Kg) rfl rfl qc qc qb rfl (fun w h Y=>Mk.kg_in Y) ?F
 case F=>
  intro w mg fa h KX G hmg
  refine' Mk.all_mk KX G hmg ?aC ?aVC ?aDC ?aBC ?aM ?aX0 ?aX1 ?aX2 ?aX3 ?aX4 ?aX5 ?aX6 ?aX7 ?aX8 ?aX9 ?aX10 ?z_VE ?hwh ?hnm ?huo ?hnx ?hoo ?hno ?hth ?hro ?hnb ?hfi ?hmK ?hmT ?hlc ?hld ?hlr ?hls ?hll ?hxn ?hxr ?hxi ?hxN ?hlb ?hlu ?hlt ?hgl ?hgi ?hdS ?hdP ?hdB ?hdA ?hdC ?hdG ?hdN ?hgj ?hmR ?hmE ?hxK ?hlm ?hsk ?hib ?hbN ?hbL ?hbG ?hlg ?hlx ?hly ?hmN ?hgf ?hgp ?hge ?hgn ?hgo ?hdI ?hti ?hle ?hlp ?hlf ?hlw ?hlo ?hga ?hrk ?hmd ?hri ?hlq ?hva ?hvo ?huu ?huw ?hut ?hbE ?hbV ?hbC ?hbP ?hbM ?hbU ?hbT ?hbD ?hbK ?hbR ?hbI ?hlk ?hbH ?hlB ?ain ?iin ?lin ?cin ?kin ?ala ?lla ?cla ?kla ?aei ?iei ?lei ?cei ?kei ?as2 ?ls2 ?c_s2 ?ks2 ?as3 ?ls3 ?c_s3 ?ks3 ?pd ?kdl ?kde ?kdr ?dtl ?vG ?vM ?vL ?vLi ?vR ?qn ?qt ?fC ?fVC ?fDC ?fBC ?nC_numbers ?nC_firsts ?nC_rule ?nVC_own_kind ?nVC_bits ?nDC_steps ?nDC_waiting ?nDC_wants_part ?nBC_own_kind ?nBC_entries ?nBC_deeds ?xm ?xc0 ?xc1 ?xc2 ?xc3 ?y5 ?y6 ?y10 ?y1 ?y2 ?xmg ?xmr ?xmf ?rL ?z_len ?z_isinstance ?z_max ?z_min ?z_range ?z_list ?z_tuple ?z_sorted ?z_sum ?z_all ?z_enumerate ?z_int ?z_bool ?z_str ?z_dict ?vBD ?vJN ?vLB ?jL ?ast ?lst ?cst ?kst ?k2l ?k2e ?k2n ?vLN
  case aC|aVC|aDC|aBC|aM|aX0|aX1|aX2|aX3|aX4|aX5|aX6|aX7|aX8|aX9|aX10|z_VE=>(show _=_;k_is)
  case hwh|hnm|huo|hnx|hoo|hno|hth|hro|hnb|hfi|hlc|hld|hlr|hls|hll|hxn|hxr|hlb|hlu|hlt|hgl|hgi|hgj|hlm|hsk|hib|hlg|hlx|hly|hgf|hgp|hge|hgn|hgo|hle|hlp|hlf|hlw|hlo|hga|hrk|hmd|hlq|hva|hvo|huu|huw|hut|hlk|hlB=>
   refine' ⟨_,_,?a,L2.fun_mk ?b ?c ?d⟩
   case a|b|c|d=>k_is
  case hmK|hmT|hxi|hxN|hdS|hdP|hdB|hdA|hdC|hdG|hdN|hmR|hmE|hxK|hbN|hbL|hbG|hmN|hdI|hti|hri|hbE|hbV|hbC|hbP|hbM|hbU|hbT|hbD|hbK|hbR|hbI|hbH=>
   refine' ⟨_,_,?a,?i,⟨_,?o,?q⟩,L2.fun_mk ?b ?c ?d⟩
   case a|i|b=>k_is
   case o|q=>first|rfl|k_is
   case c|d=>k_is
  case ain|iin|lin|cin|kin|ala|lla|cla|kla|aei|iei|lei|cei|kei|as2|ls2|c_s2|ks2|as3|ls3|c_s3|ks3=>(show _=_;k_is)
  case pd=>simp
  case kdl=>(show _=_;k_is)
  case kde=>simp
  case kdr|dtl|vG|vM|vL|vLi|vR|qn|qt=>(show _=_;k_is)
  case fC|fVC|fDC|fBC=>
   refine' ⟨?_,?_,?_,?_,?_,?_,?_,?_,?_,?_,?_,?_,?_,?_⟩<;>k_is
  case nC_numbers|nC_firsts|nC_rule|nVC_own_kind|nVC_bits|nDC_steps|nDC_waiting|nDC_wants_part|nBC_own_kind|nBC_entries|nBC_deeds=>(show _=_;k_is)
  case xm|xc0|xc1|xc2|xc3=>kernel_rfl
  case y5|y6|y10=>
   exact⟨⟨qd,qd,qd,qd,qd,qd,qd,qd,qd,qd⟩,qd,qd,qd⟩
  case y1|y2=>
   exact⟨⟨qd,qd,qd,qd,qd,qd,qd,qd,qd,qd⟩,qd,qd,qd,qd,qd,qd⟩
  case xmg|xmr|xmf=>kernel_rfl
  case rL|z_len|z_isinstance|z_max|z_min|z_range|z_list|z_tuple|z_sorted|z_sum|z_all|z_enumerate|z_int|z_bool|z_str|z_dict|vBD|vJN|vLB|jL|ast|lst|cst|kst|k2l=>(show _=_;k_is)
  case k2e=>simp
  case k2n|vLN=>(show _=_;k_is)









