import PyProof.Rows.All
import KE.KDictOf
import KE.KLam
import KE.KEqSeq
import Wide.All
import KE.KRevSl
import KE.KIntText
import KE.KIsAll
import KE.KMinKey
import KE.KItemsList
import KE.KPairComp
import KE.KFromBytes
import PySem.Challenge.RW_markworks_k72_whole_books_led
set_option genSizeOf false
set_option Elab.async false
set_option linter.all false
set_option compiler.extract_closed false
set_option maxRecDepth 100000
set_option maxHeartbeats 0
noncomputable section
open PySem
noncomputable def L2.inClass(s:Stmt)(j:Nat):Stmt:=match s with|.ClassDef _ _ _ b _ _ _ _ _ _ _=>b.getD j (.Pass ⟨0,0,0,0⟩)|_=>.Pass ⟨0,0,0,0⟩
noncomputable def L2.defArgs(s:Stmt):Arguments:=match s with|.FunctionDef _ a _ _ _ _ _ _ _ _=>a|_=>{posonlyargs:=[],args:=[],vararg:=none,kwonlyargs:=[],kw_defaults:=[],kwarg:=none,defaults:=[]}
noncomputable def L2.defBody(s:Stmt):List Stmt:=match s with|.FunctionDef _ _ b _ _ _ _ _ _ _=>b|_=>[]
noncomputable def L2.defScope(s:Stmt):Scope:=match s with|.FunctionDef _ _ _ _ _ _ b _ _ _=>b|_=>{kind:=.function,names:=[],isGenerator:=false,isCoroutine:=false}
noncomputable def Mk.top(i:Nat):Stmt:=PySem.Challenge.pw_markworks_k72_whole_books_led.main.body.getD i (.Pass ⟨0,0,0,0⟩)
namespace Hd
open PySem PySem.W PySem.Calls PyProof.Rows
def runT (tb:String->Option Builtin) (p:Program) (w:World) (n₀:Nat) (ann:Option Value):Nat->SharedT->Thread->Option SharedT
 |0,_,_=>none
 |n+1,s,t=>match through t with
  |true=>some s
  |false=>match stepOk n₀ ann t with
   |false=>none
   |true=>match stepT (denote tb) p w s t with
    |some (s',t')=>runT tb p w n₀ ann n s' t'
    |none=>none
theorem runT_of {tb:String->Option Builtin}{p:Program}{w:World}{n₀:Nat}{ann:Option Value}:∀ {n:Nat}{s s':SharedT}{t:Thread},runT tb p w n₀ ann n s t=some s'->topRun tb p w n₀ ann n s.abs t=some s'.abs
 |0,_,_,_,h=>by cases h
 |n+1,s,s',t,h=>by
  unfold runT at h
  unfold topRun
  cases ht:through t with
  |true=>rw[ht]at h;cases h;rfl
  |false=>
   rw[ht]at h
   cases hk:stepOk n₀ ann t with
   |false=>rw[hk]at h;cases h
   |true=>
    rw[hk]at h
    cases hs:stepT (denote tb) p w s t with
    |none=>rw[hs]at h;cases h
    |some r=>obtain⟨s₂,t₂⟩:=r;rw[hs]at h;rw[stepT_spec hs];exact runT_of h
def looksAt (p q:Program) (loose:List Str) (Xt:Shared->Bool) (as:List Addr) (h₀:Heap) (s:Shared):=
 (staticsOk (importedModules p.main.body) h₀ s.heap&&namesBound p s.heap&&gensDone s&&laidKept h₀ s.heap,openSeen q loose (importedModules p.main.body) Xt true s,as.map s.heap.get?)
theorem left_of {p q:Program}{loose:List Str}{Xt:Shared->Bool}{as:List Addr}{K:Params->Frag}{N M m₀:Nat}{ann:Option Value}{T0:Params->BT}{life:Life}
  (open_:∀w:World,(fencedOpening treeTable p w N).map (fun s=>(s.heap,s.gens,s.drawn,s.toks))=some (boot_heap w.params,#[],boot_drawn,boot_toks))
  (tree:∀P:Params,absHeap (T0 P) m₀ life=boot_heap P)
  (size:∀w:World,((boot_heap w.params).isNs mainGlobals,(boot_heap w.params).objs.size,(boot_heap w.params).nsMap mainGlobals "__annotations__")=(true,m₀,ann))
  (le:Nat.ble M N=true)
  (run:∀(w:World) (os:OsState),(runT treeTable p w m₀ ann M ⟨T0 w.params,m₀,life,#[],boot_drawn,boot_toks,os⟩ (topStub p)).map (fun s=>looksAt p q loose Xt as (boot_heap w.params) s.abs)=some (true,openGood q loose,(K w.params).map fun x=>some x.2)):
  LeftO p q loose Xt (fun s=>as.map s.heap.get?) (fun w=>(K w.params).map fun x=>some x.2) N:=fun w=>by
 obtain⟨⟨h,gs,d,k,os⟩,e,e'⟩:=Option.map_eq_some_iff.mp (open_ w)
 obtain⟨rfl,rfl,rfl,rfl⟩:h=boot_heap w.params/\gs=#[]/\d=boot_drawn/\k=boot_toks:=by simpa using e'
 obtain⟨z1,z2,z3⟩:_/\_/\_:=by simpa only[Prod.mk.injEq]using size w
 obtain⟨sT,r1,r2⟩:=Option.map_eq_some_iff.mp (run w os)
 have r3:=runT_of r1
 have r4:topRun treeTable p w m₀ ann M ⟨boot_heap w.params,#[],boot_drawn,boot_toks,os⟩ (topStub p)=some sT.abs:=by
  rw[←tree w.params]
  exact r3
 have r:=topRun_mono (N-M) _ _ _ _ r4
 rw[show M+(N-M)=N by have:=Nat.le_of_ble_eq_true le;omega]at r
 unfold looksAt at r2
 obtain⟨l1,l2,l3⟩:_/\_/\_:=by simpa only[Prod.mk.injEq]using r2
 have t:topFrom treeTable p w N ⟨boot_heap w.params,#[],boot_drawn,boot_toks,os⟩=some sT.abs:=by
  unfold topFrom
  dsimp only
  rw[z1,z2,z3,r]
  show(match staticsOk (importedModules p.main.body) (boot_heap w.params) sT.abs.heap&&namesBound p sT.abs.heap&&gensDone sT.abs&&laidKept (boot_heap w.params) sT.abs.heap with|true=>_|false=>_)=_
  rw[l1]
 unfold openEnds
 rw[e]
 show(topFrom treeTable p w N _).map _=_
 rw[t]
 exact congrArg some (Prod.ext l2 l3)
end Hd
open PySem PySem.W PySem.Calls PyProof.Rows
abbrev Mq.fS (x q:Str) (s:Stmt) (dV kV doc pm:Value) (an:Option Addr) (cd ct:Value):FuncData:=fnOf x q (L2.defArgs s) (L2.defBody s) (L2.defScope s) dV kV doc pm an cd ct
noncomputable abbrev Mq.cO (x:Str) (a:Nat) (q:Str) (b c:Nat) (d e f g h:Int) (i j l m n:Nat) (o p:Int) (r:Nat):Obj:=⟨.type "code",none,.fields #[.str x a,.str q b,.str "/claim/cut.py" c,.int d 0,.int e 0,.int f 0,.int g 0,.int h 0,.ref i,.bool true,.int 181 0,.ref j,.none,.ref l,.ref m,.ref n,.int o 0,.int p 0,.str "/claim/cut.py" r],#[]⟩
abbrev Mq.ii (P:PySem.Params) (x:Str) (t:Nat) (v:Value):DictEntry:=⟨PyData.keyHash P x,.str x t,v⟩
abbrev Mq.fN (x q:Str) (s:Stmt) (m:Str) (t c:Nat):Obj:=⟨.type "function",none,.func (Mq.fS x q s .none .none .none (.str m t) none (.ref c) .none),#[]⟩
noncomputable abbrev Mq.eC (x:Str) (a b c d e f:Nat):Obj:=⟨.type "type",none,.cls ⟨x,[.ref a],[.ref b,.ref a,.type "ValueError",.type "Exception",.type "BaseException",.type "object"],c,x,true,[],[],false,none,false⟩,#[some (.ref d),none,some (.str x e),some (.str x f),some (.builtin "ValueError.__new__"),some (.bool true)]⟩
noncomputable abbrev Mq.cP (a:Nat) (x q:Str) (t:Nat) (l n:Int) (u:Nat):Obj:=Mq.cO x t q (t+1) (t+2) l n 0 0 3 (a-5) (a-4) (a-3) (a-2) (a-1) u l (u+1)
noncomputable abbrev Mq.ic (i j:Nat):=L2.inClass (Mk.top i) j
abbrev Mq.fM0 (x q:Str) (s:Stmt):=Mq.fN x q s "markworks.errors" 194
abbrev Mq.fM1 (x q:Str) (s:Stmt):=Mq.fN x q s "markworks.kinds" 435
abbrev Mq.fM2 (x q:Str) (s:Stmt):=Mq.fN x q s "markworks.values" 644
abbrev Mq.fM3 (x q:Str) (s:Stmt):=Mq.fN x q s "markworks.grammar" 794
abbrev Mq.fM4 (x q:Str) (s:Stmt):=Mq.fN x q s "markworks.formulas" 981
abbrev Mq.fM5 (x q:Str) (s:Stmt):=Mq.fN x q s "markworks.books" 995
abbrev Mq.fM6 (x q:Str) (s:Stmt):=Mq.fN x q s "markworks.editions" 1194
abbrev Mq.fM7 (x q:Str) (s:Stmt):=Mq.fN x q s "law_markworks_k72_whole_books_led" 1318
noncomputable abbrev Mq.cQ (a:Nat) (x q:Str) (t:Nat) (l n:Int) (u:Nat):Obj:=⟨.type "code",none,.fields #[.str x t,.str q (t+1),.str "/claim/cut.py" (t+2),.int l 0,.int n 0,.int 0 0,.int 0 0,.int 3 0,.ref (a-3),.bool true,.int 181 0,.ref (a-2),.none,.none,.none,.ref (a-1),.int u 0,.int l 0,.str "/claim/cut.py" (u+1)],#[]⟩
noncomputable abbrev Mq.dR (P:PySem.Params) (x:Str) (t r:Nat):DictEntry:=Mq.ii P x t (.ref r)
noncomputable abbrev Mq.dN (P:PySem.Params) (x:Str) (t:Nat):DictEntry:=Mq.ii P x t .none
noncomputable abbrev Mq.oC (x:Str) (a t u:Nat):Obj:=⟨.type "type",none,.cls ⟨x,[.type "object"],[.ref a,.type "object"],a-1,x,true,[],[],false,none,false⟩,#[none,none,some (.str x t),some (.str x u),some (.builtin "object.__new__"),some (.bool true)]⟩
noncomputable abbrev Mq.dP (a:Nat) (x:Str):=Mq.cP a x x
noncomputable abbrev Mq.dQ (a:Nat) (x:Str):=Mq.cQ a x x
abbrev Mq.gM1 (x:Str):=Mq.fM1 x x
abbrev Mq.gM2 (x:Str):=Mq.fM2 x x
abbrev Mq.gM3 (x:Str):=Mq.fM3 x x
abbrev Mq.gM4 (x:Str):=Mq.fM4 x x
abbrev Mq.gM5 (x:Str):=Mq.fM5 x x
abbrev Mq.gM6 (x:Str):=Mq.fM6 x x
abbrev Mq.gM7 (x:Str):=Mq.fM7 x x
noncomputable def Mq.Kg (P:PySem.Params):PySem.W.Frag:=
 (nat_lit 2,⟨.none,none,(.dict #[] 0),#[]⟩)::(nat_lit 3,⟨.type "dict",none,(.dict #[Mq.ii P "__name__" 165 (.str "law_markworks_k72_whole_books_led" 1318),Mq.dN P "__doc__" 166,Mq.dN P "__package__" 167,Mq.ii P "__loader__" 168 (.builtin "__main__.__loader__#opaque"),Mq.dN P "__spec__" 169,Mq.dR P "__annotations__" 170 6,Mq.dR P "__builtins__" 171 4,Mq.ii P "__file__" 173 (.str "/claim/cut.py" 172),Mq.dN P "__cached__" 174,Mq.dR P "_wall" 193 21,Mq.dR P "MarkError" 222 39,Mq.dR P "BadRows" 247 59,Mq.dR P "BadRule" 263 71,Mq.dR P "BadName" 279 83,Mq.dR P "BadNumber" 295 95,Mq.dR P "BadRest" 320 114,Mq.dR P "Unlike" 336 126,Mq.dR P "BadText" 361 145,Mq.dR P "BadPairs" 377 157,Mq.dR P "Never" 393 169,Mq.dR P "Unled" 418 188,Mq.dR P "Nothing" 434 200,Mq.ii P "GREATEST" 442 (.int 1048575 441),Mq.ii P "MOST_ROWS" 444 (.int 10 443),Mq.ii P "LONGEST_NAME" 446 (.int 6 445),Mq.dR P "RULES" 451 203,Mq.dR P "is_whole" 458 210,Mq.dR P "is_name" 464 215,Mq.dR P "is_mark" 471 222,Mq.dR P "union_of" 480 229,Mq.dR P "is_one_of" 488 236,Mq.dR P "mark_bits" 494 241,Mq.dR P "next_mark" 501 248,Mq.dR P "is_names_of" 507 253,Mq.dR P "thing_number" 513 258,Mq.dR P "row_number" 524 265,Mq.dR P "numbered" 535 272,Mq.dR P "first_names" 545 279,Mq.dR P "Kind" 643 356,Mq.ii P "LIMIT" 649 (.int 1099511627776 648),Mq.dR P "is_number" 656 367,Mq.dR P "rest_of" 664 374,Mq.dR P "Value" 738 431,Mq.dR P "made" 748 442,Mq.dR P "value_of" 754 447,Mq.dR P "same_kind" 762 454,Mq.dR P "union" 770 461,Mq.dR P "without" 778 468,Mq.dR P "turned" 785 475,Mq.dR P "within" 793 482,Mq.dR P "JOINING" 799 483,Mq.dR P "BINDING" 815 484,Mq.ii P "LEAST_BINDING" 817 (.int 1 816),Mq.dR P "is_letter" 824 491,Mq.dR P "is_figures" 830 496,Mq.dR P "is_part" 838 503,Mq.dR P "part_end" 848 510,Mq.dR P "Reading" 932 576,Mq.dR P "steps_of" 944 588,Mq.dR P "letters_in" 950 593,Mq.dR P "joined" 959 600,Mq.dR P "part_number" 968 607,Mq.dR P "number_of" 980 614,Mq.dR P "is_table" 988 619,Mq.dR P "reckoned" 994 624,Mq.ii P "LONGEST_BOOK_NAME" 998 (.int 8 997),Mq.dR P "is_book_name" 1004 629,Mq.dR P "value_alone" 1012 636,Mq.dR P "book_of" 1021 643,Mq.dR P "Book" 1193 775,Mq.dR P "is_entry" 1201 784,Mq.dR P "table_of" 1207 789,Mq.dR P "Edition" 1317 869,Mq.dR P "_law_cell" 1327 880,Mq.dR P "_law_drawn" 1336 887,Mq.dR P "_law_roll" 1345 894,Mq.dR P "_law_rounds" 1351 899,Mq.dR P "_law_word" 1357 904,Mq.dR P "_law_told" 1365 911,Mq.dR P "_law_bits_of" 1371 916,Mq.dR P "_law_rule_of" 1378 923,Mq.dR P "_law_lines" 1384 928,Mq.dR P "_law_table_of" 1390 933,Mq.dR P "_law_made" 1401 940,Mq.dR P "_law_tree" 1413 947,Mq.dR P "_law_written" 1425 954,Mq.dR P "_law_come" 1437 961,Mq.dR P "_law_formula" 1448 968,Mq.dR P "_law_goal" 1465 975,Mq.dR P "_law_led" 1477 982,Mq.dR P "_law_names" 1491 989,Mq.dR P "_law_book_like" 1500 996,Mq.dR P "_law_give" 1511 1003,Mq.dR P "_law_word_of" 1518 1010,Mq.dR P "_law_step" 1539 1017,Mq.dR P "_law_reckoning" 1545 1022,Mq.dR P "_law_book" 1562 1029,Mq.dR P "law" 1568 1034] 98),#[]⟩)::(nat_lit 29,⟨.type "tuple",none,(.seq #[(.str "" 208)] 0),#[]⟩)::(nat_lit 35,Mq.cP 35 "__init__" "MarkError.__init__" 209 7 2 214)::(nat_lit 36,⟨.type "function",none,(.func (Mq.fS "__init__" "MarkError.__init__" (L2.inClass (Mk.top 2) 0) (.ref 29) .none .none (.str "markworks.errors" 194) none (.ref 35) .none)),#[]⟩)::(nat_lit 38,⟨.type "dict",none,(.dict #[Mq.ii P "__module__" 203 (.str "markworks.errors" 194),Mq.ii P "__firstlineno__" 207 (.int 5 206),Mq.dR P "__init__" 216 36,Mq.dR P "__static_attributes__" 217 37,Mq.dR P "__weakref__" 219 40,Mq.dN P "__doc__" 220] 3),#[]⟩)::(nat_lit 39,⟨.type "type",none,(.cls ⟨"MarkError",[(.type "ValueError")],[(.ref 39),(.type "ValueError"),(.type "Exception"),(.type "BaseException"),(.type "object")],38,"MarkError",true,[],[(.ref 59),(.ref 71),(.ref 83),(.ref 95),(.ref 114),(.ref 126),(.ref 145),(.ref 157),(.ref 169),(.ref 188),(.ref 200)],false,none,false⟩),#[(some (.ref 22)),none,(some (.str "MarkError" 196)),(some (.str "MarkError" 204)),(some (.builtin "ValueError.__new__")),(some (.bool true))]⟩)::(nat_lit 59,Mq.eC "BadRows" 39 59 58 43 223 231)::(nat_lit 71,Mq.eC "BadRule" 39 71 70 62 248 256)::(nat_lit 82,⟨.type "dict",none,(.dict #[Mq.ii P "__module__" 271 (.str "markworks.errors" 194),Mq.ii P "__firstlineno__" 275 (.int 16 274),Mq.dR P "__static_attributes__" 276 81,Mq.dN P "__doc__" 277] 2),#[]⟩)::(nat_lit 83,Mq.eC "BadName" 39 83 82 74 264 272)::(nat_lit 94,⟨.type "dict",none,(.dict #[Mq.ii P "__module__" 287 (.str "markworks.errors" 194),Mq.ii P "__firstlineno__" 291 (.int 18 290),Mq.dR P "__static_attributes__" 292 93,Mq.dN P "__doc__" 293] 2),#[]⟩)::(nat_lit 95,Mq.eC "BadNumber" 39 95 94 86 280 288)::(nat_lit 110,Mq.cP 110 "__init__" "BadRest.__init__" 308 22 2 313)::(nat_lit 111,Mq.fM0 "__init__" "BadRest.__init__" (Mq.ic 7 0) 110)::(nat_lit 113,⟨.type "dict",none,(.dict #[Mq.ii P "__module__" 303 (.str "markworks.errors" 194),Mq.ii P "__firstlineno__" 307 (.int 20 306),Mq.dR P "__init__" 315 111,Mq.dR P "__static_attributes__" 317 112,Mq.dN P "__doc__" 318] 2),#[]⟩)::(nat_lit 114,Mq.eC "BadRest" 39 114 113 98 296 304)::(nat_lit 125,⟨.type "dict",none,(.dict #[Mq.ii P "__module__" 328 (.str "markworks.errors" 194),Mq.ii P "__firstlineno__" 332 (.int 25 331),Mq.dR P "__static_attributes__" 333 124,Mq.dN P "__doc__" 334] 2),#[]⟩)::(nat_lit 126,Mq.eC "Unlike" 39 126 125 117 321 329)::(nat_lit 144,⟨.type "dict",none,(.dict #[Mq.ii P "__module__" 344 (.str "markworks.errors" 194),Mq.ii P "__firstlineno__" 348 (.int 27 347),Mq.dR P "__init__" 356 142,Mq.dR P "__static_attributes__" 358 143,Mq.dN P "__doc__" 359] 2),#[]⟩)::(nat_lit 145,Mq.eC "BadText" 39 145 144 129 337 345)::(nat_lit 157,Mq.eC "BadPairs" 39 157 156 148 362 370)::(nat_lit 169,Mq.eC "Never" 39 169 168 160 378 386)::(nat_lit 184,Mq.cP 184 "__init__" "Unled.__init__" 406 38 2 411)::(nat_lit 185,Mq.fM0 "__init__" "Unled.__init__" (Mq.ic 12 0) 184)::(nat_lit 187,⟨.type "dict",none,(.dict #[Mq.ii P "__module__" 401 (.str "markworks.errors" 194),Mq.ii P "__firstlineno__" 405 (.int 36 404),Mq.dR P "__init__" 413 185,Mq.dR P "__static_attributes__" 415 186,Mq.dN P "__doc__" 416] 2),#[]⟩)::(nat_lit 188,Mq.eC "Unled" 39 188 187 172 394 402)::(nat_lit 199,⟨.type "dict",none,(.dict #[Mq.ii P "__module__" 426 (.str "markworks.errors" 194),Mq.ii P "__firstlineno__" 430 (.int 41 429),Mq.dR P "__static_attributes__" 431 198,Mq.dN P "__doc__" 432] 2),#[]⟩)::(nat_lit 200,Mq.eC "Nothing" 39 200 199 191 419 427)::(nat_lit 203,⟨.type "tuple",none,(.seq #[(.str "bar" 447),(.str "drop" 448),(.str "keep" 449),(.str "leave" 450)] 0),#[]⟩)::(nat_lit 209,Mq.dP 209 "is_whole" 452 48 1 456)::(nat_lit 210,Mq.gM1 "is_whole" (Mk.top 19) 209)::(nat_lit 214,Mq.dQ 214 "is_name" 459 50 1 462)::(nat_lit 215,Mq.gM1 "is_name" (Mk.top 20) 214)::(nat_lit 221,Mq.dP 221 "is_mark" 465 54 1 469)::(nat_lit 222,Mq.gM1 "is_mark" (Mk.top 21) 221)::(nat_lit 228,Mq.dP 228 "union_of" 472 56 1 478)::(nat_lit 229,Mq.gM1 "union_of" (Mk.top 22) 228)::(nat_lit 235,Mq.dP 235 "is_one_of" 481 61 2 486)::(nat_lit 236,Mq.gM1 "is_one_of" (Mk.top 23) 235)::(nat_lit 240,Mq.dQ 240 "mark_bits" 489 63 1 492)::(nat_lit 241,Mq.gM1 "mark_bits" (Mk.top 24) 240)::(nat_lit 247,Mq.dP 247 "next_mark" 495 65 1 499)::(nat_lit 248,Mq.gM1 "next_mark" (Mk.top 25) 247)::(nat_lit 252,Mq.dQ 252 "is_names_of" 502 67 2 505)::(nat_lit 253,Mq.gM1 "is_names_of" (Mk.top 26) 252)::(nat_lit 257,Mq.dQ 257 "thing_number" 508 69 2 511)::(nat_lit 258,Mq.gM1 "thing_number" (Mk.top 27) 257)::(nat_lit 264,Mq.dP 264 "row_number" 514 77 2 522)::(nat_lit 265,Mq.gM1 "row_number" (Mk.top 28) 264)::(nat_lit 271,Mq.dP 271 "numbered" 525 87 1 533)::(nat_lit 272,Mq.gM1 "numbered" (Mk.top 29) 271)::(nat_lit 278,Mq.dP 278 "first_names" 536 97 1 543)::(nat_lit 279,Mq.gM1 "first_names" (Mk.top 30) 278)::(nat_lit 287,⟨.type "dict",none,(.dict #[Mq.ii P "rest" 559 (.str "bar" 558)] 1),#[]⟩)::(nat_lit 293,Mq.cO "__init__" 560 "Kind.__init__" 561 562 104 2 0 1 3 288 289 290 291 292 566 104 567)::(nat_lit 294,⟨.type "function",none,(.func (Mq.fS "__init__" "Kind.__init__" (L2.inClass (Mk.top 31) 0) .none (.ref 287) .none (.str "markworks.kinds" 435) none (.ref 293) .none)),#[]⟩)::(nat_lit 300,Mq.cP 300 "rows" "Kind.rows" 569 111 1 573)::(nat_lit 301,Mq.fM1 "rows" "Kind.rows" (Mq.ic 31 1) 300)::(nat_lit 307,Mq.cP 307 "number" "Kind.number" 576 114 2 581)::(nat_lit 308,Mq.fM1 "number" "Kind.number" (Mq.ic 31 2) 307)::(nat_lit 324,Mq.cQ 324 "marks" "Kind.marks" 597 126 1 600)::(nat_lit 325,Mq.fM1 "marks" "Kind.marks" (Mq.ic 31 5) 324)::(nat_lit 331,Mq.cP 331 "known" "Kind.known" 603 129 1 607)::(nat_lit 332,Mq.fM1 "known" "Kind.known" (Mq.ic 31 6) 331)::(nat_lit 338,Mq.cP 338 "rest" "Kind.rest" 610 132 1 614)::(nat_lit 339,Mq.fM1 "rest" "Kind.rest" (Mq.ic 31 7) 338)::(nat_lit 345,Mq.cP 345 "__eq__" "Kind.__eq__" 617 135 2 622)::(nat_lit 346,Mq.fM1 "__eq__" "Kind.__eq__" (Mq.ic 31 8) 345)::(nat_lit 355,⟨.type "dict",none,(.dict #[Mq.ii P "__module__" 553 (.str "markworks.kinds" 435),Mq.ii P "__firstlineno__" 557 (.int 102 556),Mq.dR P "__init__" 568 294,Mq.dR P "rows" 575 301,Mq.dR P "number" 583 308,Mq.dR P "names" 590 315,Mq.dR P "aliases" 596 320,Mq.dR P "marks" 602 325,Mq.dR P "known" 609 332,Mq.dR P "rest" 616 339,Mq.dR P "__eq__" 624 346,Mq.dR P "__len__" 631 353,Mq.dR P "__static_attributes__" 635 354,Mq.dR P "__dict__" 637 357,Mq.dR P "__weakref__" 639 358,Mq.dN P "__doc__" 640,Mq.dN P "__hash__" 641] 5),#[]⟩)::(nat_lit 356,Mq.oC "Kind" 356 546 554)::(nat_lit 366,Mq.dP 366 "is_number" 650 142 1 654)::(nat_lit 367,Mq.gM2 "is_number" (Mk.top 34) 366)::(nat_lit 373,Mq.dP 373 "rest_of" 657 144 2 662)::(nat_lit 374,Mq.gM2 "rest_of" (Mk.top 35) 373)::(nat_lit 387,Mq.cP 387 "__init__" "Value.__init__" 677 148 3 683)::(nat_lit 388,Mq.fM2 "__init__" "Value.__init__" (Mq.ic 36 0) 387)::(nat_lit 394,Mq.cP 394 "number" "Value.number" 686 156 1 690)::(nat_lit 395,Mq.fM2 "number" "Value.number" (Mq.ic 36 1) 394)::(nat_lit 401,Mq.cP 401 "kind" "Value.kind" 693 159 1 697)::(nat_lit 402,Mq.fM2 "kind" "Value.kind" (Mq.ic 36 2) 401)::(nat_lit 406,Mq.cQ 406 "marks" "Value.marks" 700 162 1 703)::(nat_lit 407,Mq.fM2 "marks" "Value.marks" (Mq.ic 36 3) 406)::(nat_lit 413,Mq.cP 413 "rest" "Value.rest" 706 165 1 710)::(nat_lit 414,Mq.fM2 "rest" "Value.rest" (Mq.ic 36 4) 413)::(nat_lit 430,⟨.type "dict",none,(.dict #[Mq.ii P "__module__" 672 (.str "markworks.values" 644),Mq.ii P "__firstlineno__" 676 (.int 146 675),Mq.dR P "__init__" 685 388,Mq.dR P "number" 692 395,Mq.dR P "kind" 699 402,Mq.dR P "marks" 705 407,Mq.dR P "rest" 712 414,Mq.dR P "__eq__" 720 421,Mq.dR P "__len__" 727 428,Mq.dR P "__static_attributes__" 730 429,Mq.dR P "__dict__" 732 432,Mq.dR P "__weakref__" 734 433,Mq.dN P "__doc__" 735,Mq.dN P "__hash__" 736] 5),#[]⟩)::(nat_lit 431,Mq.oC "Value" 431 665 673)::(nat_lit 441,Mq.dP 441 "made" 739 173 2 746)::(nat_lit 442,Mq.gM2 "made" (Mk.top 37) 441)::(nat_lit 446,Mq.dQ 446 "value_of" 749 185 2 752)::(nat_lit 447,Mq.gM2 "value_of" (Mk.top 38) 446)::(nat_lit 453,Mq.dP 453 "same_kind" 755 189 2 760)::(nat_lit 454,Mq.gM2 "same_kind" (Mk.top 39) 453)::(nat_lit 460,Mq.dP 460 "union" 763 193 2 768)::(nat_lit 461,Mq.gM2 "union" (Mk.top 40) 460)::(nat_lit 467,Mq.dP 467 "without" 771 195 2 776)::(nat_lit 468,Mq.gM2 "without" (Mk.top 41) 467)::(nat_lit 474,Mq.dP 474 "turned" 779 197 1 783)::(nat_lit 475,Mq.gM2 "turned" (Mk.top 42) 474)::(nat_lit 481,Mq.dP 481 "within" 786 199 2 791)::(nat_lit 482,Mq.gM2 "within" (Mk.top 43) 481)::(nat_lit 483,⟨.type "tuple",none,(.seq #[(.str "&" 796),(.str "^" 797),(.str "|" 798)] 0),#[]⟩)::(nat_lit 490,Mq.dP 490 "is_letter" 818 205 1 822)::(nat_lit 491,Mq.gM3 "is_letter" (Mk.top 48) 490)::(nat_lit 495,Mq.dQ 495 "is_figures" 825 207 1 828)::(nat_lit 496,Mq.gM3 "is_figures" (Mk.top 49) 495)::(nat_lit 502,Mq.dP 502 "is_part" 831 213 2 836)::(nat_lit 503,Mq.gM3 "is_part" (Mk.top 50) 502)::(nat_lit 509,Mq.dP 509 "part_end" 839 215 3 846)::(nat_lit 510,Mq.gM3 "part_end" (Mk.top 51) 509)::(nat_lit 523,Mq.cP 523 "__init__" "Reading.__init__" 861 222 1 865)::(nat_lit 524,Mq.fM3 "__init__" "Reading.__init__" (Mq.ic 52 0) 523)::(nat_lit 530,Mq.cP 530 "take_part" "Reading.take_part" 868 227 2 873)::(nat_lit 531,Mq.fM3 "take_part" "Reading.take_part" (Mq.ic 52 1) 530)::(nat_lit 537,Mq.cP 537 "take_sign" "Reading.take_sign" 876 231 2 881)::(nat_lit 538,Mq.fM3 "take_sign" "Reading.take_sign" (Mq.ic 52 2) 537)::(nat_lit 544,Mq.cP 544 "take_ahead" "Reading.take_ahead" 884 238 2 889)::(nat_lit 545,Mq.fM3 "take_ahead" "Reading.take_ahead" (Mq.ic 52 3) 544)::(nat_lit 551,Mq.cP 551 "take_between" "Reading.take_between" 892 244 2 897)::(nat_lit 552,Mq.fM3 "take_between" "Reading.take_between" (Mq.ic 52 4) 551)::(nat_lit 558,Mq.cP 558 "take_close" "Reading.take_close" 900 252 1 904)::(nat_lit 559,Mq.fM3 "take_close" "Reading.take_close" (Mq.ic 52 5) 558)::(nat_lit 565,Mq.cP 565 "settle" "Reading.settle" 907 259 2 912)::(nat_lit 566,Mq.fM3 "settle" "Reading.settle" (Mq.ic 52 6) 565)::(nat_lit 572,Mq.cP 572 "ends" "Reading.ends" 915 263 1 919)::(nat_lit 573,Mq.fM3 "ends" "Reading.ends" (Mq.ic 52 7) 572)::(nat_lit 575,⟨.type "dict",none,(.dict #[Mq.ii P "__module__" 856 (.str "markworks.grammar" 794),Mq.ii P "__firstlineno__" 860 (.int 220 859),Mq.dR P "__init__" 867 524,Mq.dR P "take_part" 875 531,Mq.dR P "take_sign" 883 538,Mq.dR P "take_ahead" 891 545,Mq.dR P "take_between" 899 552,Mq.dR P "take_close" 906 559,Mq.dR P "settle" 914 566,Mq.dR P "ends" 921 573,Mq.dR P "__static_attributes__" 925 574,Mq.dR P "__dict__" 927 577,Mq.dR P "__weakref__" 929 578,Mq.dN P "__doc__" 930] 4),#[]⟩)::(nat_lit 576,Mq.oC "Reading" 576 849 857)::(nat_lit 581,⟨.type "dict",none,(.dict #[Mq.ii P "lettered" 933 (.bool true)] 1),#[]⟩)::(nat_lit 587,Mq.cO "steps_of" 934 "steps_of" 935 936 266 1 0 1 3 582 583 584 585 586 942 266 943)::(nat_lit 588,⟨.type "function",none,(.func (Mq.fS "steps_of" "steps_of" (Mk.top 53) .none (.ref 581) .none (.str "markworks.grammar" 794) none (.ref 587) .none)),#[]⟩)::(nat_lit 592,Mq.dQ 592 "letters_in" 945 283 1 948)::(nat_lit 593,Mq.gM3 "letters_in" (Mk.top 54) 592)::(nat_lit 599,Mq.dP 599 "joined" 951 285 3 957)::(nat_lit 600,Mq.gM3 "joined" (Mk.top 55) 599)::(nat_lit 606,Mq.dP 606 "part_number" 960 291 3 966)::(nat_lit 607,Mq.gM3 "part_number" (Mk.top 56) 606)::(nat_lit 613,Mq.dP 613 "number_of" 969 297 3 978)::(nat_lit 614,Mq.gM3 "number_of" (Mk.top 57) 613)::(nat_lit 618,Mq.dQ 618 "is_table" 983 309 1 986)::(nat_lit 619,Mq.gM4 "is_table" (Mk.top 59) 618)::(nat_lit 623,Mq.dQ 623 "reckoned" 989 313 3 992)::(nat_lit 624,Mq.gM4 "reckoned" (Mk.top 60) 623)::(nat_lit 628,Mq.dQ 628 "is_book_name" 999 322 1 1002)::(nat_lit 629,Mq.gM5 "is_book_name" (Mk.top 63) 628)::(nat_lit 635,Mq.dP 635 "value_alone" 1005 326 2 1010)::(nat_lit 636,Mq.gM5 "value_alone" (Mk.top 64) 635)::(nat_lit 642,Mq.dP 642 "book_of" 1013 330 2 1019)::(nat_lit 643,Mq.gM5 "book_of" (Mk.top 65) 642)::(nat_lit 656,Mq.cP 656 "__init__" "Book.__init__" 1034 336 2 1039)::(nat_lit 657,Mq.fM5 "__init__" "Book.__init__" (Mq.ic 66 0) 656)::(nat_lit 663,Mq.cP 663 "entry" "Book.entry" 1042 341 2 1047)::(nat_lit 664,Mq.fM5 "entry" "Book.entry" (Mq.ic 66 1) 663)::(nat_lit 670,Mq.cP 670 "give" "Book.give" 1050 346 3 1059)::(nat_lit 671,Mq.fM5 "give" "Book.give" (Mq.ic 66 2) 670)::(nat_lit 677,Mq.cP 677 "put" "Book.put" 1062 355 3 1068)::(nat_lit 678,Mq.fM5 "put" "Book.put" (Mq.ic 66 3) 677)::(nat_lit 684,Mq.cP 684 "mark" "Book.mark" 1071 360 3 1077)::(nat_lit 685,Mq.fM5 "mark" "Book.mark" (Mq.ic 66 4) 684)::(nat_lit 691,Mq.cP 691 "unmark" "Book.unmark" 1080 363 3 1086)::(nat_lit 692,Mq.fM5 "unmark" "Book.unmark" (Mq.ic 66 5) 691)::(nat_lit 698,Mq.cP 698 "turn" "Book.turn" 1089 366 2 1094)::(nat_lit 699,Mq.fM5 "turn" "Book.turn" (Mq.ic 66 6) 698)::(nat_lit 705,Mq.cP 705 "drop" "Book.drop" 1097 369 2 1102)::(nat_lit 706,Mq.fM5 "drop" "Book.drop" (Mq.ic 66 7) 705)::(nat_lit 710,Mq.cQ 710 "reckon" "Book.reckon" 1105 373 3 1108)::(nat_lit 711,Mq.fM5 "reckon" "Book.reckon" (Mq.ic 66 8) 710)::(nat_lit 717,Mq.cP 717 "take_back" "Book.take_back" 1111 379 1 1117)::(nat_lit 718,Mq.fM5 "take_back" "Book.take_back" (Mq.ic 66 9) 717)::(nat_lit 724,Mq.cP 724 "value" "Book.value" 1120 388 2 1125)::(nat_lit 725,Mq.fM5 "value" "Book.value" (Mq.ic 66 10) 724)::(nat_lit 731,Mq.cP 731 "changes" "Book.changes" 1128 391 2 1133)::(nat_lit 732,Mq.fM5 "changes" "Book.changes" (Mq.ic 66 11) 731)::(nat_lit 738,Mq.cP 738 "kind" "Book.kind" 1136 394 1 1140)::(nat_lit 739,Mq.fM5 "kind" "Book.kind" (Mq.ic 66 12) 738)::(nat_lit 745,Mq.cP 745 "names" "Book.names" 1143 397 1 1147)::(nat_lit 746,Mq.fM5 "names" "Book.names" (Mq.ic 66 13) 745)::(nat_lit 750,Mq.cQ 750 "having" "Book.having" 1150 400 2 1153)::(nat_lit 751,Mq.fM5 "having" "Book.having" (Mq.ic 66 14) 750)::(nat_lit 757,Mq.cP 757 "lead" "Book.lead" 1156 404 2 1164)::(nat_lit 758,Mq.fM5 "lead" "Book.lead" (Mq.ic 66 15) 757)::(nat_lit 771,Mq.cP 771 "__len__" "Book.__len__" 1175 416 1 1179)::(nat_lit 772,Mq.fM5 "__len__" "Book.__len__" (Mq.ic 66 17) 771)::(nat_lit 774,⟨.type "dict",none,(.dict #[Mq.ii P "__module__" 1029 (.str "markworks.books" 995),Mq.ii P "__firstlineno__" 1033 (.int 334 1032),Mq.dR P "__init__" 1041 657,Mq.dR P "entry" 1049 664,Mq.dR P "give" 1061 671,Mq.dR P "put" 1070 678,Mq.dR P "mark" 1079 685,Mq.dR P "unmark" 1088 692,Mq.dR P "turn" 1096 699,Mq.dR P "drop" 1104 706,Mq.dR P "reckon" 1110 711,Mq.dR P "take_back" 1119 718,Mq.dR P "value" 1127 725,Mq.dR P "changes" 1135 732,Mq.dR P "kind" 1142 739,Mq.dR P "names" 1149 746,Mq.dR P "having" 1155 751,Mq.dR P "lead" 1166 758,Mq.dR P "__eq__" 1174 765,Mq.dR P "__len__" 1181 772,Mq.dR P "__static_attributes__" 1185 773,Mq.dR P "__dict__" 1187 776,Mq.dR P "__weakref__" 1189 777,Mq.dN P "__doc__" 1190,Mq.dN P "__hash__" 1191] 5),#[]⟩)::(nat_lit 775,Mq.oC "Book" 775 1022 1030)::(nat_lit 783,Mq.dQ 783 "is_entry" 1196 419 3 1199)::(nat_lit 784,Mq.gM6 "is_entry" (Mk.top 68) 783)::(nat_lit 788,Mq.dQ 788 "table_of" 1202 423 3 1205)::(nat_lit 789,Mq.gM6 "table_of" (Mk.top 69) 788)::(nat_lit 802,Mq.cP 802 "__init__" "Edition.__init__" 1220 434 4 1227)::(nat_lit 803,Mq.fM6 "__init__" "Edition.__init__" (Mq.ic 70 0) 802)::(nat_lit 809,Mq.cP 809 "kind" "Edition.kind" 1230 439 1 1234)::(nat_lit 810,Mq.fM6 "kind" "Edition.kind" (Mq.ic 70 1) 809)::(nat_lit 816,Mq.cP 816 "other" "Edition.other" 1237 442 1 1241)::(nat_lit 817,Mq.fM6 "other" "Edition.other" (Mq.ic 70 2) 816)::(nat_lit 823,Mq.cP 823 "names_for" "Edition.names_for" 1244 445 2 1251)::(nat_lit 824,Mq.fM6 "names_for" "Edition.names_for" (Mq.ic 70 3) 823)::(nat_lit 830,Mq.cP 830 "led" "Edition.led" 1254 453 2 1260)::(nat_lit 831,Mq.fM6 "led" "Edition.led" (Mq.ic 70 4) 830)::(nat_lit 868,⟨.type "dict",none,(.dict #[Mq.ii P "__module__" 1215 (.str "markworks.editions" 1194),Mq.ii P "__firstlineno__" 1219 (.int 432 1218),Mq.dR P "__init__" 1229 803,Mq.dR P "kind" 1236 810,Mq.dR P "other" 1243 817,Mq.dR P "names_for" 1253 824,Mq.dR P "led" 1262 831,Mq.dR P "is_led_to_let" 1271 838,Mq.dR P "first_unled" 1280 845,Mq.dR P "first_mixed" 1287 852,Mq.dR P "pairs" 1294 859,Mq.dR P "behind" 1306 866,Mq.dR P "__static_attributes__" 1310 867,Mq.dR P "__dict__" 1312 870,Mq.dR P "__weakref__" 1314 871,Mq.dN P "__doc__" 1315] 4),#[]⟩)::(nat_lit 869,Mq.oC "Edition" 869 1208 1216)::(nat_lit 879,Mq.dP 879 "_law_cell" 1320 482 2 1325)::(nat_lit 880,Mq.gM7 "_law_cell" (Mk.top 72) 879)::(nat_lit 886,Mq.dP 886 "_law_drawn" 1328 486 2 1334)::(nat_lit 887,Mq.gM7 "_law_drawn" (Mk.top 73) 886)::(nat_lit 893,Mq.dP 893 "_law_roll" 1337 491 2 1343)::(nat_lit 894,Mq.gM7 "_law_roll" (Mk.top 74) 893)::(nat_lit 898,Mq.dQ 898 "_law_rounds" 1346 498 2 1349)::(nat_lit 899,Mq.gM7 "_law_rounds" (Mk.top 75) 898)::(nat_lit 903,Mq.dQ 903 "_law_word" 1352 500 1 1355)::(nat_lit 904,Mq.gM7 "_law_word" (Mk.top 76) 903)::(nat_lit 910,Mq.dP 910 "_law_told" 1358 510 1 1363)::(nat_lit 911,Mq.gM7 "_law_told" (Mk.top 77) 910)::(nat_lit 915,Mq.dQ 915 "_law_bits_of" 1366 523 1 1369)::(nat_lit 916,Mq.gM7 "_law_bits_of" (Mk.top 78) 915)::(nat_lit 922,Mq.dP 922 "_law_rule_of" 1372 525 1 1376)::(nat_lit 923,Mq.gM7 "_law_rule_of" (Mk.top 79) 922)::(nat_lit 927,Mq.dQ 927 "_law_lines" 1379 527 2 1382)::(nat_lit 928,Mq.gM7 "_law_lines" (Mk.top 80) 927)::(nat_lit 932,Mq.dQ 932 "_law_table_of" 1385 546 1 1388)::(nat_lit 933,Mq.gM7 "_law_table_of" (Mk.top 81) 932)::(nat_lit 939,Mq.dP 939 "_law_made" 1391 554 3 1399)::(nat_lit 940,Mq.gM7 "_law_made" (Mk.top 82) 939)::(nat_lit 946,Mq.dP 946 "_law_tree" 1402 564 4 1411)::(nat_lit 947,Mq.gM7 "_law_tree" (Mk.top 83) 946)::(nat_lit 953,Mq.dP 953 "_law_written" 1414 576 3 1423)::(nat_lit 954,Mq.gM7 "_law_written" (Mk.top 84) 953)::(nat_lit 960,Mq.dP 960 "_law_come" 1426 586 4 1435)::(nat_lit 961,Mq.gM7 "_law_come" (Mk.top 85) 960)::(nat_lit 967,Mq.dP 967 "_law_formula" 1438 600 3 1446)::(nat_lit 968,Mq.gM7 "_law_formula" (Mk.top 86) 967)::(nat_lit 974,Mq.dP 974 "_law_goal" 1449 607 4 1463)::(nat_lit 975,Mq.gM7 "_law_goal" (Mk.top 87) 974)::(nat_lit 981,Mq.dP 981 "_law_led" 1466 618 5 1475)::(nat_lit 982,Mq.gM7 "_law_led" (Mk.top 88) 981)::(nat_lit 988,Mq.dP 988 "_law_names" 1478 623 3 1489)::(nat_lit 989,Mq.gM7 "_law_names" (Mk.top 89) 988)::(nat_lit 995,Mq.dP 995 "_law_book_like" 1492 630 2 1498)::(nat_lit 996,Mq.gM7 "_law_book_like" (Mk.top 90) 995)::(nat_lit 1002,Mq.dP 1002 "_law_give" 1501 637 3 1509)::(nat_lit 1003,Mq.gM7 "_law_give" (Mk.top 91) 1002)::(nat_lit 1009,Mq.dP 1009 "_law_word_of" 1512 643 1 1516)::(nat_lit 1010,Mq.gM7 "_law_word_of" (Mk.top 92) 1009)::(nat_lit 1016,Mq.dP 1016 "_law_step" 1519 645 5 1537)::(nat_lit 1017,Mq.gM7 "_law_step" (Mk.top 93) 1016)::(nat_lit 1021,Mq.dQ 1021 "_law_reckoning" 1540 679 6 1543)::(nat_lit 1022,Mq.gM7 "_law_reckoning" (Mk.top 94) 1021)::(nat_lit 1028,Mq.dP 1028 "_law_book" 1546 697 2 1560)::(nat_lit 1029,Mq.gM7 "_law_book" (Mk.top 95) 1028)::(nat_lit 1033,Mq.dQ 1033 "law" 1563 705 1 1566)::(nat_lit 1034,Mq.gM7 "law" (Mk.top 96) 1033)::
 []
noncomputable def Mq.Kf (P:PySem.Params):PySem.W.Frag:=(nat_lit 1031,⟨.none,none,(.fields #[]),#[]⟩)::(nat_lit 1012,⟨.none,none,(.fields #[]),#[]⟩)::(nat_lit 1019,⟨.none,none,(.fields #[]),#[]⟩)::(nat_lit 484,⟨.type "dict",none,(.dict #[Mq.ii P "(" 800 (.int 0 801),Mq.ii P "|" 802 (.int 1 803),Mq.ii P "^" 804 (.int 2 805),Mq.ii P "&" 806 (.int 3 807),Mq.ii P "~" 808 (.int 4 809)] 5),#[]⟩)::Mq.Kg P
noncomputable def Mq.Kas:List Nat:=(Mq.Kf {strHash:=fun _=>0,shareClass:=fun _=>0,mergeTok:=id,idOf:=fun _=>0,idOfShared:=fun _ _=>0,followText:=fun _=>true,idOfImm:=fun _=>0}).map (·.1)
noncomputable def Mq.loose:List PySem.Str:=(view PySem.Challenge.pw_markworks_k72_whole_books_led (List.range 96)).boundNames
def Mq.T0 (P:Params):BT:=.node (boot_o_0 P)
 (.node (boot_o_1 P) (.node (boot_o_3 P) (.node (boot_o_7 P) .nil .nil) .nil) (.node (boot_o_5 P) (.node (boot_o_9 P) .nil .nil) .nil))
 (.node (boot_o_2 P) (.node (boot_o_4 P) (.node (boot_o_8 P) .nil .nil) .nil) (.node (boot_o_6 P) (.node (boot_o_10 P) .nil .nil) .nil))
theorem Mq.twin:Function.const _ true (@Hd.runT,@Hd.looksAt)=true:=by k_qdec
noncomputable abbrev Mq.qv:Program:=view PySem.Challenge.pw_markworks_k72_whole_books_led [nat_lit 96]
noncomputable abbrev Mq.Xt (s:Shared):Bool:=xlAt Mq.qv [] s&&recOk [] s
abbrev Mq.RQ (w:World) (os:OsState):Prop:=(Option.map (fun s=>Fast.tw8257016192812374322 PySem.Challenge.pw_markworks_k72_whole_books_led (view PySem.Challenge.pw_markworks_k72_whole_books_led [nat_lit 96]) Mq.loose (fun s=>xlAt (view PySem.Challenge.pw_markworks_k72_whole_books_led [nat_lit 96]) [] s&&recOk [] s) Mq.Kas (boot_heap w.params) s.abs)
   (Fast.tw16599536794577742827 Fast.tw14364793385576792824 PySem.Challenge.pw_markworks_k72_whole_books_led w (nat_lit 11) (some (Value.ref (nat_lit 6))) (nat_lit 7523) ⟨Mq.T0 w.params,nat_lit 11,{},#[],boot_drawn,boot_toks,os⟩ (topStub PySem.Challenge.pw_markworks_k72_whole_books_led)))=
  some (true,openGood (view PySem.Challenge.pw_markworks_k72_whole_books_led [nat_lit 96]) Mq.loose,(Mq.Kf w.params).map fun x=>some x.2)
noncomputable def Mq.sF (b:Bool) (w:World):World:={w with params:={w.params with followText:=fun s=>if s== "special-get-raises" then b else w.params.followText s}}
theorem Mq.sF_eq (w:World):Mq.sF (w.params.followText "special-get-raises") w=w:=by
 have:(fun s=>if s== "special-get-raises" then w.params.followText "special-get-raises" else w.params.followText s)=w.params.followText:=funext fun s=>by
  by_cases h:s="special-get-raises"
  · rw[h];rfl
  · rw[if_neg (by simpa using h)]
 unfold Mq.sF
 rw[this]
theorem Mq.run_t (w:World) (os:OsState):Mq.RQ (Mq.sF true w) os:=by kernel_rfl
theorem Mq.run_f (w:World) (os:OsState):Mq.RQ (Mq.sF false w) os:=by kernel_rfl
theorem Mq.wsA:PySem.Challenge.rw_markworks_k72_whole_books_led.row.wellSaid=true:=by kernel_rfl
end
open Option renaming some→U,some→im,none→J,none→io
open Bool renaming true→L,true→iY,false→O,false→i7
open Lean Parser.Tactic in
def pmm:Nat->Syntax->Array Syntax
|n+1,t=>if t.isOfKind `«term_||_» then pmm n t[0]++#[mkAtom "|"]++pmm n t[2]else #[if t.isIdent then mkNode ``rcasesPat.one #[t]else if t.getNumArgs<2 then mkNode ``rcasesPat.ignore #[mkAtom "_"]else mkNode ``rcasesPat.tuple #[mkAtom "⟨",mkNullNode (mkSepArray ((#[t[1][0]]++t[1][2].getSepArgs).map λx=>mkNode ``rcasesPatLo #[mkNode ``rcasesPatMed #[mkNullNode (pmm n x)],mkNullNode]) (mkAtom ",")),mkAtom "⟩"]]
|_,_=>#[]
open Lean Parser in
def tq(x:Syntax):Syntax:=let a:=#[x[1][0]]++x[1][2].getSepArgs;let c:=a.back!;if c.isOfKind ``Term.paren&&a.size<5 then a.pop.foldr (λe r=>mkNode ``Term.app #[mkIdent `Prod.mk,mkNullNode #[e,r]]) c[1]else mkNode ``Term.anonymousCtor #[mkAtom "⟨",mkNullNode (mkSepArray (a.flatMap λx=>if x.isNatLit?==some 7 then #[mkNode ``Term.hole #[mkAtom "_"],mkIdent `rfl]else #[x]) (mkAtom ",")),mkAtom "⟩"]
open Lean Parser in
def tlq(x:Syntax):Syntax:=let d:=x[2][0];if d.isOfKind ``Term.letPatDecl then mkNode ``Tactic.obtain #[mkAtom "obtain",mkNullNode #[mkNode ``Tactic.rcasesPatMed #[mkNullNode (pmm 9 d[0])]],mkNullNode,mkNullNode #[mkAtom ":=",mkNullNode #[if d[2].getNumArgs==0 then d[4]else mkNode ``Term.show #[mkAtom "show",d[2][0][1],mkNode ``Term.fromTerm #[mkAtom "from",d[4]]]]]]else mkNode ``Tactic.tacticHave__ #[mkAtom "have",x[1],x[2]]
open PySem.Value renaming ref->sR,builtin->sV,type->sW,none->tj,int->tV,bool->uO,str->vw
open Sum renaming inr->sS,inl->uE
open Or renaming inl->sU,inr->sY
open Ne renaming symm->sX
open Nat renaming le_of_lt->sZ,lt_of_le_of_lt->tw,zero_le->tH,le_trans->tT,eq_of_testBit_eq->ue,eq_zero_or_pos->um,ne_of_gt->uH,lt_trans->uI,and_le_left->uM,le_succ->uX,pow_lt_pow_iff_right->vo,testBit_eq_decide_div_mod_eq->vC,sub_le->vN,pow_le_pow_right->vQ,log2_lt->vU
open PySem renaming boot_len->tu,mem_of_lookup->vi
open Bool renaming and_eq_true->tA,false_ne_true->tF,eq_iff_iff->uQ,not_eq_true'->ve,eq_false_iff->vf,or_eq_true->vp,false_and->wc
open PySem.Builtin renaming bitAnd->tD,bitOr->uh,bitNot->uy,bitXor->vY
open PySem.Expr renaming Name->tI,Attribute->tR,Constant->uB,Call->uJ,Tuple->uV,Subscript->vA
open List renaming replicate->tJ,range->uP,getD_eq_getElem?_getD->vg,pairwise_iff_getElem->vk,length->vO,eq_nil_of_length_eq_zero->vP
open PySem.PassesOwn renaming never->tK
open PySem.Data renaming fields->tN,seq->uW,dict->wh
open PySem.Paired renaming nil->tO,cons->tP,snoc->we
open False renaming elim->tQ
open Option.some renaming inj->tS
open PySem.Obj renaming data_mapFields->tU,mapFields->ur,isFreed_of_fields->uw,mapSeq->u4
open PySem.SetTable renaming below->tY,grown->uT
open PySem.PyData renaming eqv->tZ,str->uN,tuple->uU,depthAll->vm,depth->vy,list->vB
open PySem.Builtin.Int renaming intBits->ua
open PySem.NameKind renaming free->ub,«local»->uo,cell->uz
open True renaming intro->uc
open PySem.W renaming findIn->uf,InstAt->u5,kla_obj->va,kia_one->vb,keepIn->vc,kitOne->vq,mroIn->vt,looks_findIn->vH,callWith_K->vJ,emptyDict->vW,CodeHd->vX
open Array renaming getElem?_toList->ug,getElem?_eq_getElem->uj,length_toList->uA,replicate->vV
open Option renaming toList_some->ui,isSome_iff_exists->uD,ne_none_iff_exists'->uL,isSome_iff_ne_none->vh
open Unit renaming unit->ux
open PyProof.Rows renaming sortedS->uC,callWith_type1->vE
open PySem.SeqAt renaming shaped->uF
open PySem.Heap renaming SameBut->uG,size_push->u9
open PySem.Heap.SameBut renaming update->uK
open PySem.ScopeKind renaming function->uR
open PySem.Calls renaming callWith_builtin->uS,call_function_entry->wj
open Classical renaming byContradiction->uY
open PySem.Builtin.List renaming listTooLong->uZ
open ForInStep renaming yield->vd
open PySem.Str renaming ofString->vj
open PySem.Stmt renaming Assign->vn
open Int renaming emod_lt_of_pos->vr,eq_ofNat_of_zero_le->vz,toNat_natCast->vD,emod_nonneg->vZ,toNat_of_nonneg->wb
open Sum.inr renaming inj->vF
open PySem.Txt renaming slice->vK
open PySem.Code renaming builtin->wa
open Lean in
def fq(x:Syntax):Option Syntax:=if x.isOfKind `Lean.Parser.Term.proj then (x[2].isFieldIdx?.bind (("a a a heap.get? cps.toList lookup trans map heap.objs.size length objs.size toArray take names.lookup get? same heap contains gA.fresh heap.push setIfInBounds filter size e.locals isSome e.cells.lookup Nodup cps.all e.scope.names.lookup testBit toNat symm keep toList data filterMap heap.FunFrames e.scope params.followText cps.toList.all elim handled units typeIs getD due frames BuiltinsAt reverse mpr len isList params.setOrder names free deeper tuple toks turned e.qual kind update params mono toList.length length_eq ok.hd list foldl Pairwise line push post ok.above bare kept find? prog IsListIter cps.toList.take keeps toArray.size cps.size cls cell ok.mod.jO there natAbs.log2 old tr.iw fits any symm.trans dict all toList.map tok isCoroutine isGenerator isEmpty".splitOn " ")[·]?)).bind λn=>if n=="a"then none else some ((n.splitOn ".").foldl (λe c=>mkNode `Lean.Parser.Term.proj #[e,mkAtom ".",mkIdent (.mkSimple c)]) x[0])else none
section
set_option hygiene false
open Lean in
local macro_rules(kind:=Lean.Parser.Tactic.tacticLet__)|x=>pure (tlq x)
open Lean in
local macro_rules(kind:=Lean.Parser.Tactic.show)|x=>pure (mkNode `Lean.Parser.Tactic.refine #[mkAtom "refine",x[1]])
local macro_rules(kind:=Lean.Elab.Tactic.Ext.ext)|x=>`(tactic|simp_all)
open Lean in
local macro_rules(kind:=Lean.Parser.Term.paren)|x=>if x[1].isOfKind `Lean.Parser.Term.hole then `(by first|(simp_all;done)|grind|trivial)else Macro.throwUnsupported
local macro_rules(kind:=Lean.Parser.Term.tuple)|x=>if x[1].getNumArgs==0 then `(by lia)else pure (tq x)
open Lean in
local macro_rules(kind:=Lean.Parser.Term.proj)|x=>(fq x).elim Macro.throwUnsupported pure
open Lean in
local macro_rules(kind:=Lean.Parser.Term.app)|x=>(fq x[0]).elim Macro.throwUnsupported λe=>pure (x.setArg 0 e)
open Lean in
local macro_rules(kind:=Lean.Parser.Command.mutual)|x=>if x[1].getNumArgs<9 then Macro.throwUnsupported else pure (mkNullNode (x[1].getArgs.map λc=>Id.run (c.rewriteBottomUpM λs=>pure (s.setInfo .none))))
mutual
inductive E₂{A B:Type}(P:A->B->Prop):Prop
 |mk(a b)(_:P a b)
inductive E₃{A B C:Type}(P:A->B->C->Prop):Prop
 |mk(a b c)(_:P a b c)
inductive E₄{A B C D:Type}(P:A->B->C->D->Prop):Prop
 |mk(a b c d)(_:P a b c d)
inductive E₅{A B C D E:Type}(P:A->B->C->D->E->Prop):Prop
 |mk(a b c d e)(_:P a b c d e)
inductive E₆{A B C D E F:Type}(P:A->B->C->D->E->F->Prop):Prop
 |mk(a b c d e f)(_:P a b c d e f)
inductive E₇{A B C D E F G:Type}(P:A->B->C->D->E->F->G->Prop):Prop
 |mk(a b c d e f g)(_:P a b c d e f g)
inductive E₈{A B C D E F G H:Type}(P:A->B->C->D->E->F->G->H->Prop):Prop
 |mk(a b c d e f g h)(_:P a b c d e f g h)
inductive C₃(a b c:Prop):Prop
 |mk(_:a)(_:b)(_:c)
inductive C₄(a b c d:Prop):Prop
 |mk(_:a)(_:b)(_:c)(_:d)
inductive C₅(a b c d e:Prop):Prop
 |mk(_:a)(_:b)(_:c)(_:d)(_:e)
inductive C₆(a b c d e f:Prop):Prop
 |mk(_:a)(_:b)(_:c)(_:d)(_:e)(_:f)
inductive C₇(a b c d e f g:Prop):Prop
 |mk(_:a)(_:b)(_:c)(_:d)(_:e)(_:f)(_:g)
inductive C₈(a b c d e f g h:Prop):Prop
 |mk(_:a)(_:b)(_:c)(_:d)(_:e)(_:f)(_:g)(_:h)
inductive C₉(a b c d e f g h i:Prop):Prop
 |mk(_:a)(_:b)(_:c)(_:d)(_:e)(_:f)(_:g)(_:h)(_:i)
end
noncomputable section
mutual
abbrev nv:String:="self"
abbrev ny:String:="_law_dice"
abbrev nz:String:="_law_book_here"
abbrev nA:String:="object.__class__"
abbrev nC:String:="name"
abbrev nG:String:="kind"
abbrev nH:String:="number"
abbrev nI:String:="_law_number"
abbrev nM:String:="thing"
abbrev nO:String:="<lambda>"
abbrev nQ:String:="BaseException.__getattribute__"
abbrev nU:String:="refused"
abbrev nV:String:="__init__"
abbrev nY:String:="_law_told"
abbrev nZ:String:="_law_table"
abbrev n8:String:="_law_due"
abbrev oa:String:="other"
abbrev og:String:="_law_name"
abbrev oh:String:="own_kind"
abbrev oj:String:="getset_descriptor.__get__"
abbrev oo:String:="ValueError"
abbrev oq:String:="list"
abbrev ox:String:="numbers"
abbrev oy:String:="_law_script"
abbrev oz:String:="names"
abbrev oA:String:="_law_reckoning"
abbrev oB:String:="tuple"
abbrev oE:String:="object.__setattr__"
abbrev oG:String:="_law_most"
abbrev oH:String:="_law_deed"
abbrev oI:String:="isinstance"
abbrev oJ:String:="_law_e"
abbrev oK:String:="dict"
abbrev oM:String:="_law_many"
abbrev oN:String:="_law_roll"
abbrev oO:String:="object.__ne__"
abbrev oP:String:="BadName"
abbrev oQ:String:="__name__"
abbrev oR:String:="lettered"
abbrev oS:String:="value"
abbrev oU:String:="_law_names_here"
abbrev oV:String:="BaseException"
abbrev oW:String:="_law_step"
abbrev oX:String:="BadRest"
abbrev oY:String:="_law_way"
abbrev oZ:String:="_law_tree_here"
abbrev o3:String:="entries"
abbrev o4:String:="bits"
abbrev o5:String:="_law_written"
abbrev o7:String:="marks"
abbrev o9:String:="_law_table_of"
abbrev pa:String:="text"
abbrev pb:String:="_law_next_due"
abbrev pe:String:="keep"
abbrev ph:String:="known"
abbrev pj:String:="table"
abbrev pk:String:="_law_word"
abbrev px:String:="second_kind"
abbrev pz:String:="Nothing"
abbrev pA:String:="object"
abbrev pB:String:="__getattribute__"
abbrev pC:String:="set_iterator"
abbrev pE:String:="_law_words"
abbrev pF:String:="MarkError.__init__"
abbrev pG:String:="BadNumber"
abbrev pH:String:="__setattr__"
abbrev pI:String:="_law_tables"
abbrev pJ:String:="steps"
abbrev pK:String:="set-order"
abbrev pL:String:="_law_tree"
abbrev pM:String:="_law_come"
abbrev pN:String:="leave"
abbrev pO:String:="rest"
abbrev pP:String:="_law_found"
abbrev pQ:String:="type.__call__"
abbrev pR:String:="one"
abbrev pS:String:="is_one_of"
abbrev pT:String:="firsts"
abbrev pU:String:="is_number"
abbrev pV:String:="steps_of"
abbrev pW:String:="ahead"
abbrev pY:String:="_law_cell_here"
abbrev pZ:String:="bar"
abbrev p0:String:="list_iterator"
abbrev p8:String:="sign"
abbrev qf:String:="value_of"
abbrev qg:String:="enumerate"
abbrev qh:String:="__class__"
abbrev qj:String:="type.__getattribute__"
abbrev qk:String:="set_iterator.__next__"
abbrev qo:String:="set_iterator.__iter__"
abbrev qp:String:="is_letter"
abbrev qr:String:="_law_rule_of"
abbrev qu:String:="Unlike"
abbrev qw:String:="wants_part"
abbrev qx:String:="_law_numbers"
abbrev qz:String:="_law_letters_to"
abbrev qA:String:="is_book_name"
abbrev qB:String:="__get__"
abbrev qC:String:="union_of"
abbrev qD:String:="is_whole"
abbrev qE:String:="rows"
abbrev qF:String:="_law_book_like"
abbrev qG:String:="range"
abbrev qH:String:="value_alone"
abbrev qI:String:="__ne__"
abbrev qJ:String:="__eq__"
abbrev qK:String:="set.scan.the-table-gave-way"
abbrev qL:String:="_law_k"
abbrev qM:String:="Kind.__init__"
abbrev qN:String:="method_descriptor"
abbrev qO:String:="_law_drawn"
abbrev qP:String:="_law_lines"
abbrev qQ:String:="_law_signs"
abbrev qR:String:="_law_names"
abbrev qS:String:="pairs"
abbrev qT:String:="waiting"
abbrev qU:String:="function"
abbrev qV:String:="dict.update.loop"
abbrev qW:String:="thing_number"
abbrev qX:String:="_law_bits_of"
abbrev qY:String:="_law_formula"
abbrev qZ:String:="_law_word_of"
abbrev q9:String:="_law_edition"
abbrev rb:String:="_law_more"
abbrev rg:String:="Unled"
abbrev rh:String:="_law_made"
abbrev rj:String:="same_kind"
abbrev rl:String:="_law_give"
abbrev rm:String:="is_names_of"
abbrev rp:String:="first_names"
abbrev rA:String:="_law_rounds"
abbrev rB:String:="part_number"
abbrev rC:String:="sorted"
abbrev rD:String:="is_name"
abbrev rE:String:="rest_of"
abbrev rF:String:="binding"
abbrev rG:String:="letter"
abbrev rH:String:="law"
abbrev rJ:String:="row_number"
abbrev rK:String:="_law_known"
abbrev rM:String:="words"
abbrev rO:String:="is_figures"
abbrev rP:String:="letters_in"
abbrev rQ:String:="__classdict__"
abbrev rR:String:="LEAST_BINDING"
abbrev rS:String:="next_mark"
abbrev rV:String:="_law_cell"
abbrev rW:String:="number_of"
abbrev rX:String:="_law_text"
abbrev rY:String:="take_back"
abbrev rZ:String:="_law_book"
abbrev r8:String:="mark_bits"
abbrev se:String:="_law_goal"
abbrev sf:String:="default"
abbrev si:String:="__len__"
abbrev sj:String:="without"
abbrev sr:String:="deeds"
abbrev su:String:="max"
abbrev sv:String:="int"
abbrev sx:String:="type"
abbrev sy:String:="drop"
abbrev sE:String:="left"
abbrev sG:String:="part"
abbrev sI:String:="set"
abbrev nr:=PySem.Shared
abbrev nq:=PySem.Addr
abbrev nj:=List PySem.Value
abbrev ni:=List PySem.Str
theorem zd{b:Sort _}{a:b}:a=a:=rfl
theorem Y{α:Sort _}{a:α}:a=a:=rfl
abbrev z9:=@Array.getElem?_eq_some_iff
abbrev z8:=@List.getElem?_eq_some_iff
abbrev z7:=@List.getElem?_eq_getElem
abbrev z6:=@Option.map_eq_some_iff
abbrev z5:=@PySem.lookup_relabel_local
abbrev z4:=@PySem.wpAny_isSubtype_exc
abbrev zZ:=@PySem.wpAny_Call_Name_kw
abbrev zY:=@Nat.lt_of_lt_of_le
abbrev zX:=@Int.natCast_nonneg
abbrev zW:=@PySem.wpAny_truthy_bool
abbrev zV:=@PySem.wpAny_loadPart_at
abbrev zU:=@PySem.Heap.get?_push_of_some
abbrev zT:=@PySem.Heap.get?_update_other
abbrev zS:=@of_decide_eq_true
abbrev zR:=@PySem.Heap.get?_update_self
abbrev zQ:=@List.mem_append_right
abbrev zP:=@List.length_filter_le
abbrev zO:=@List.mem_cons_of_mem
abbrev zN:=@List.mem_of_getElem?
abbrev zM:=@List.mem_append_left
abbrev zL:=@decide_eq_false
abbrev zK:=@PySem.Heap.get?_push_size
abbrev zJ:=@List.filterMap_cons
abbrev zI:=@decide_eq_true
abbrev zH:=@PySem.wpAny_holding
abbrev zG:=@PySem.wpAny_standAt
abbrev zF:=@List.mem_cons_self
abbrev zE:=@List.length_append
abbrev zz:=@List.mem_singleton
abbrev zy:=@Nat.lt_irrefl
abbrev zx:=@List.getElem?_map
abbrev zw:=@List.take_add_one
abbrev zu:=@Nat.ne_of_lt
abbrev zt:=@List.take_length
abbrev zr:=@List.length_take
abbrev zq:=@List.lookup_cons
abbrev zp:=@Nat.le_refl
abbrev zo:=@PySem.wpAny_bind
abbrev zn:=@PySem.wpAny_pure
abbrev zm:=@PySem.wpAny_mono
abbrev zl:=@List.map_append
abbrev zj:=@List.append_nil
abbrev zi:=@List.nodup_cons
abbrev zh:=@List.mem_map
abbrev zg:=@if_neg
abbrev zf:=@if_pos
theorem qb{p:Prop}(h:p:=by decide +kernel):p:=h
theorem qc{p:Prop}(h:p:=by decide):p:=h
theorem qe{p:Prop}(h:p:=by omega):p:=h
theorem qd{α:Sort _}{a b:α}(h:a=b:=by kernel_rfl):a=b:=h
theorem AN{b:Type u}{d:Type v}{a:List b}(f:b->d):(a.7 f).9=a.9:=List.length_map f
abbrev Aa:=List (PySem.Str×Nat)
abbrev VS:=PySem.Value->PySem.Shared->Prop
abbrev LO:=List (PySem.Addr×PySem.Obj)
abbrev SV:=PySem.Str->Option PySem.Value
open PySem in
abbrev FG:=W.Frag
end
open PySem.F hiding entry_list_append entry_list_sort fills_int_mul slot_dict_getitem slot_int_bit_length slot_list_append slot_list_getitem slot_list_sort slot_str_getitem slot_tuple_getitem sub_list_list sub_list_tuple sub_tuple_list sub_tuple_tuple type_int_bit_length type_list_append
open List (all_eq_true all_map any_cons any_eq_true any_map append_assoc append_inj' append_nil cons_lt_cons_iff contains_cons drop_eq_getElem_cons filterMap_cons filter_append filter_cons find?_append find?_cons foldl_cons getElem?_map length_append length_cons length_filter_le length_nil length_take lookup_cons map_append map_cons map_map map_nil mem_append mem_append_left mem_append_right mem_cons mem_cons_of_mem mem_cons_self mem_filter mem_map mem_of_getElem? mem_range mem_singleton nil_append nil_sublist nodup_append nodup_cons nodup_nil not_mem_nil of_mem_zip pairwise_cons pairwise_map size_toArray sum_append sum_cons take_add_one take_append_drop take_length take_of_length_le take_sublist)
open PySem.Heap (get?_push_of_some get?_push_size get?_update_other get?_update_self lt_size)
namespace L2
open PySem
theorem sl1:1<=sizeLine:=by decide
theorem i1:2<=sizeLine:=by decide
theorem kQ:3<=sizeLine:=by decide
theorem sl4:4<=sizeLine:=by decide
end L2
namespace L2
open PySem PySem.Spec PyProof.Rows
mutual
abbrev Key:=Sum Int Str
noncomputable def LX:Key->Value->Bool
 |uE k,v=>Value.isInt k v
 |sS x,v=>Value.isStrOf x v
noncomputable def cS(w:World):Key->Int
 |uE k=>hashInt k
 |sS x=>hashStr w x
theorem BR:∀{k}{v},LX k v=L->(∃i t,k=uE i/\v=tV i t)\/(∃x t,k=sS x/\v=vw x t)
 |uE i,v,h=>by
  let(t,e):=Value.isInt_shape h
  ext
 |sS x,v,h=>by
  let(t,e):=Value.isStrOf_shape h
  ext
theorem R5(i)(t):LX (uE i) (tV i t)=L:=by simp[LX,Value.isInt]
theorem R6(x)(t):LX (sS x) (vw x t)=L:=by simp[LX,Value.isStrOf]
theorem YB(a b):decide ((uE a:Key)=uE b)=(a==b):=by
 grind
theorem YC(a b):decide ((sS a:Key)=sS b)=decide (a=b):=by
 ext
theorem YD(a)(b):decide ((uE a:Key)=sS b)=O:=zL (λq=>nomatch q)
theorem YE(a)(b):decide ((sS a:Key)=uE b)=O:=zL (λq=>nomatch q)
def Ag(prog:Program)(w:World):PySem.KeyKind prog w Key where
 is:=LX
 hash:=cS w
 inj:=λv a b l f=>by
  let(i,t,rfl,rfl)||(x,t,rfl,rfl):=BR l
  ·let(j,u,rfl,e)||(y,u,rfl,e):=BR f
   ·ext
   trivial
  ·let(j,u,rfl,e)||(y,u,rfl,e):=BR f
   ·trivial
   ext
 byValue:=λk v h=>by
  let(i,t,rfl,rfl)||(x,t,rfl,rfl):=BR h<;>rfl
 pyHash:=λd h=>by
  let(i,t,rfl,rfl)||(x,t,rfl,rfl):=BR d
  ·show wpAny_pyHash_int h
  ·show wpAny_pyHash_str h
 eqBool:=λm d h=>by
  let(i,t,rfl,rfl)||(x,t,rfl,rfl):=BR m
  ·let(j,u,rfl,rfl)||(y,u,rfl,rfl):=BR d
   ·rw[YB]at h;show wpAny_eqBool_int h
   ·rw[YD]at h;show SeqAt.EqAt.int_str i t y u _ _ _ _ h
  ·let(j,u,rfl,rfl)||(y,u,rfl,rfl):=BR d
   ·rw[YE]at h;show SeqAt.EqAt.str_int x t j u _ _ _ _ h
   ·rw[YC]at h;show wpAny_eqBool_str h
 «strs»:=λk x t v h=>by
  let(i,u,rfl,e)||(y,u,rfl,e):=BR h
  ·trivial
  ·injection e with g _
   subst g;cases v<;>rfl
theorem Nk(prog)(w)(i)(t):(Ag prog w).is (uE i) (tV i t)=L:=R5 i t
theorem FE(prog)(w)(x)(t):(Ag prog w).is (sS x) (vw x t)=L:=R6 x t
inductive V where
 |g|l (b:Bool)|t (i:Int)|s (x:Str)|kB (b:Array UInt8)|mw (b:UInt64)|r (a:nq)|y (n:String)
 deriving DecidableEq
abbrev _root_.nk:=List V
def RelV:V->Value->Prop
 |.g,u=>u=tj
 |.l b,u=>u=uO b
 |.t i,u=>∃t,u=tV i t
 |.s x,u=>∃t,u=vw x t
 |.kB b,u=>∃t,u=Value.bytes b t
 |.mw b,u=>∃t,u=Value.float b t
 |.r a,u=>u=sR a
 |.y n,u=>u=sW n
abbrev Vals:nk->nj->Prop:=Paired RelV
theorem Vals.length(r:Vals d b):d.9=b.9:=Paired.length r
theorem Vals.get{b}{a}{i:Nat}{x}(p:Vals b a)(e:b[i]?=U x):∃u,a[i]?=U u/\RelV x u:=by
 induction p generalizing i with
 |nil=>simp at e
 |cons r t ih=>cases i with
  |zero=>cases e;show(_,rfl,r)
  |succ i=>let(u,d,h):=ih (i:=i) e;show(u,d,h)
theorem Vals.set(r:RelV x u):∀{b}{a}i,Vals b a->Vals (b.set i x) (a.set i u)
 |_,_,_,tO=>tO
 |_,_,0,tP _ t=>tP r t
 |_,_,i+1,tP q t=>tP q (Vals.set r i t)
theorem Vals.append{b f}{d a}(h:Vals b d)(s:Vals f a):Vals (b++f) (d++a):=by
 induction h with
 |nil=>show s
 |cons r _ ih=>show tP r ih
def iI:Option V->Option Value->Prop
 |some v,U u=>RelV v u
 |none,J=>True
 |_,_=>False
def KV{b:Type}:List (b×V)->List (b×Value)->Prop:=Paired λp q=>p.1=q.1/\RelV p.2 q.2
noncomputable def kV:Key->V
 |uE i=>.t i
 |sS x=>.s x
abbrev LK:=List (Key×V)
inductive HO where
 |l (xs:nk)
 |t (xs:nk)
 |d (m:LK)|h (m:List (List Key×V))
 |set (S:Int->Bool) (n:Nat)
 |i (C p:nq) (j:List (Str×V))
 |a (x:nq)
 |g (j:List (Str×V))
 |met (f x:nq)
 |rng (lo q:Int)
 |b (o:Obj) (u:HO)
 |c (ps:Array Value)
 |e (φ:Heap->Prop)
end
set_option genInjectivity false
abbrev Hp:=nq->Option HO
noncomputable def upd(H:Hp)(a:nq)(o:HO):Hp:=λb=>if b=a then U o else H b
theorem fH:upd H a o a=U o:=by unfold upd;simp
theorem AE(h:b≠a):upd H a o b=H b:=by unfold upd;ext
theorem HR:upd (upd H a o) a u=upd H a u:=by
 funext b;unfold upd;ext
theorem Qg{H:Hp}(h:H a=U o)(f:H b=U u)(d:o≠u):a≠b:=by
 lia
theorem AH{H:Hp}(h:H a=U o)(d:H b=J):a≠b:=by
 lia
section
variable (P:Program) (w:World)
def hO(H:Hp)(h:Heap)(a:nq):HO->Prop
 |.l b=>b.9<=sizeLine/\∃(g:nj)(n:Nat),Vals b g/\h.14 a=U {cls:=sW oq,data:=uW g.11 n}
 |.t b=>b.9<=sizeLine/\∃g,Vals b g/\IsTup h a g.11
 |.d j=>j.9<=sizeLine/\(a==sysModules)=O/\∃vs,KV j vs/\h.DictOf (Ag P w) a vs
 |.h j=>j.9<=sizeLine/\(a==sysModules)=O/\∃b,
   Paired (λp q=>p.1=q.1/\H q.2.1=U (.t (p.1.7 kV))/\RelV p.2 q.2.2) j b /\
   ∃o r ep,h.14 a=U o/\o.ExactDict/\o.34=wh r ep/\r.33=b.7 (entryOfKey (tupleKind (Ag P w)))/\(b.7 (·.1)).26
 |.set S n=>h.SetOf (intKind P w) a S n
 |.i C l i=>H l=U (.a a)/\i.9<=1000/\l≠a/\h.14 a=U (W.instObj C l) /\
   ∃d,h.Ns1 l d/\(∀f,iI (i.5 f) (d f))/\PySem.Within d (i.7 (·.1))
 |.a _=>∃o,h.14 a=U o
 |.g i=>∃d,h.Ns1 a d/\∀f,iI (i.5 f) (d f)
 |.rng lo z=>∃t u v,h.14 a=U {cls:=sW qG,data:=tN #[tV lo t,tV z u,tV 1 v]}
 |.b o u=>h.14 a=U o/\hO H h a u
 |.c A=>h.14 a=U {cls:=tj,data:=tN A}
 |.met f x=>h.14 a=U (W.methodObj (sR f) (sR x))
 |.e m=>m h/\(∃o,h.14 a=U o)/\∀s y,m s->(∀o,s.14 a=U o->y.14 a=U o)->m y
def iG(H:Hp)(h:Heap):Prop:=∀a o,H a=U o->hO P w H h a o
end
mutual
theorem hO.lt(x:hO P w H h a o):a<h.10:=by
 cases o with
 |l i=>let(_,_,_,_,e):=x;show lt_size e
 |t i=>let(_,_,_,p):=x;show p.lt
 |d d=>let(_,_,_,_,o,_,_,e,_):=x;show lt_size e
 |h d=>let(_,_,_,_,o,_,_,e,_):=x;show lt_size e
 |set S n=>let(o,_,_,_,e,_):=x;show lt_size e
 |i C r m=>let(_,_,_,e,_):=x;show lt_size e
 |a y=>let(_,e):=x;show lt_size e
 |g m=>let(_,(_,_,_,e,_),_):=x;show lt_size e
 |rng v l=>let(_,_,_,e):=x;show lt_size e
 |b t u=>let(e,_):=x;show lt_size e
 |c j=>show lt_size (x)
 |met f y=>show lt_size (x)
 |e q=>let(_,(_,e),_):=x;show lt_size e
theorem Paired.mapP{h i}{F G}{d:List h}{g:List i}(k:Paired F d g)(f:∀a b,F a b->G a b):Paired G d g:=by
 induction k with
 |nil=>show tO
 |cons r _ ih=>show tP (f _ _ r) ih
theorem Paired.imp'{h i}{F G}(f:∀a b,F a b->G a b){d:List h}{g:List i}(r:Paired F d g):Paired G d g:=Paired.mapP r f
theorem hO.i9(x:hO P w H h a o)(k:∀b u,(b=a\/H b=U (.a a))->h.14 b=U u->s.14 b=U u)
  (R:∀b,H b=U (.a a)->Q b=U (.a a)) (ht:∀b m,H b=U (.t m)->Q b=U (.t m)):hO P w Q s a o:=by
 induction o with
 |l m=>let(z,l,n,r,e):=x;show(z,l,n,r,k _ _ (sU Y) e)
 |t m=>let(z,l,r,i,e,c):=x;show(z,l,r,i,k _ _ (sU Y) e,c)
 |d A=>let(z,y,vs,r,i,j,ep,e,c):=x;show(z,y,vs,r,i,j,ep,k _ _ (sU Y) e,c)
 |h A=>
  let(z,y,m,r,i,j,ep,e,c):=x;show(z,y,m,Paired.mapP r λp q z=>(z.1,ht _ _ z.2.1,z.2.2),i,j,ep,k _ _ (sU Y) e,c)
 |set S n=>let(i,j,ep,t,e,c):=x;show(i,j,ep,t,k _ _ (sU Y) e,c)
 |i C X T=>
  let(d,z,I,e,B,(D,j,ep,F,c),r):=x;show(R _ d,z,I,k _ _ (sU Y) e,B,(D,j,ep,k _ _ (sY d) F,c),r)
 |a y=>let(i,e):=x;show(i,k _ _ (sU Y) e)
 |g T=>let(B,(D,j,ep,e,c),r):=x;show(B,(D,j,ep,k _ _ (sU Y) e,c),r)
 |rng ab N=>let(t,u,v,e):=x;show(t,u,v,k _ _ (sU Y) e)
 |b i u G=>let(e,q):=x;show(k _ _ (sU Y) e,G q)
 |c E=>
  let e:h.14 a=U {cls:=tj,data:=tN E}:=x;change s.14 a=U {cls:=tj,data:=tN E}
  ext
 |met f y=>
  let e:h.14 a=U (W.methodObj (sR f) (sR y)):=x;change s.14 a=U (W.methodObj (sR f) (sR y))
  ext
 |e M=>let(p,(o,e),st):=x;show(st _ _ p λo q=>k _ _ (sU Y) q,(o,k _ _ (sU Y) e),st)
theorem iG.lt(x:iG P w H h)(e:H a=U o):a<h.10:=(x a o e).lt
theorem iG.fresh(x:iG P w H h)(e:h.10<=a):H a=J:=by
 cases q:H a with
 |none=>rfl
 |some u=>show absurd (zY (x.lt q) e) (zy _)
theorem iG.kept(x:iG P w H h)(k:∀b u,h.14 b=U u->h'.14 b=U u):iG P w H h':=λa o e=>
 (x a o e).i9 (λb u _ q=>k b u q) (λ_ q=>q) λ_ _ q=>q
theorem iG.laid(x:iG P w H h)(k:∀b u,h.14 b=U u->f.14 b=U u)(j:h.10<=a)(new:hO P w (upd H a o) f a o):iG P w (upd H a o) f:=λb u e=>by
 let i:=x.fresh j;by_cases d:b=a
 ·subst d;rw[fH]at e;cases e;show new
 ·rw[AE d]at e;show(x b u e).i9 (λc v _ q=>k c v q) (λc q=>by rwa[AE (AH q i)]) λc l q=>by rwa[AE (AH q i)]
def Rd(H:Hp)(a:nq)(u:HO):Prop:=H a=U u\/∃o,H a=U (.b o u)
theorem Rd.ok(r:Rd H a u)(x:iG P w H h):hO P w H h a u:=by
 let r||(o,r):=r
 ·show x a u r
 ·let(_,q):=x a _ r;show q
def Mut:Option HO->Prop
 |some (.l _)=>True
 |some (.d _)=>True
 |some (.h _)=>True
 |some (.set _ _)=>True
 |some (.i _ _ _)=>True
 |some (.e _)=>True
 |_=>False
theorem iG.write(ok:iG P w H h)(p:Mut (H x))(B:e=x\/H e=U (.a x))(k:∀b u,b≠e->h.14 b=U u->f.14 b=U u)(j:∃u,f.14 e=U u)
  (new:hO P w (upd H x t) f x t):iG P w (upd H x t) f:=λb u q=>by
 let a:∀c y,H c=U (.a y)->c≠x:=λc y r z=>by subst z;rwa[r]at p
 let d:∀c i,H c=U (.t i)->c≠x:=λc i r z=>by subst z;rwa[r]at p
 by_cases o:b=x
 ·subst o;rw[fH]at q;cases q;show new
 ·rw[AE o]at q;by_cases A:b=e
  ·have l:H b=U (.a x):=by
    let z||z:=B
    ·ext
    ·simp[*]
   rw[q]at l;cases l;let(v,D):=j;show(v,by ext)
  ·show(ok b u q).i9 (λc v C r=>k c v ?_ r) (λc r=>by rwa[AE (a c b r)]) λc i r=>by rwa[AE (d c i r)]
   grind
structure Un(fs ex:List nq)(H H':Hp)(h h':Heap):Prop where
 keep:∀b o,h.14 b=U o->H b=J->b∉ fs->b∉ ex->h'.14 b=U o
 slot:∀b o,h.14 b=U o->H b=J->b∈fs->b∉ ex->∃sl,h'.14 b=U {o with slots:=sl}
 free:∀b o,h.14 b=U o->H b=J->b∉ ex->H' b=J
 there:∀b o,h.14 b=U o->b∉ ex->∃d,h'.14 b=U d
 ji:∀b xs,H b=U (.t xs)->H' b=U (.t xs)
 jb:∀b o u,H b=U (.b o u)->H' b=U (.b o u)
 jf:∀b ps,H b=U (.c ps)->∃more,H' b=U (.c (ps++more))
theorem Un.any(u:Un g f H j h i)(q:h.14 b=U a)(n:H b=J)(e:b∉ f):∃sl,i.14 b=U {a with slots:=sl}:=by
 by_cases d:b∈g
 ·show u.slot b a q n d e
 ·show(a.slots,u.32 b a q n d e)
theorem Un.kept(k:∀b u,h.14 b=U u->h'.14 b=U u):Un g f H H h h':=
 (λb a q _ _ _=>k b a q,λb a q _ _ _=>(a.slots,k b a q),λ_ _ _ n _=>n,λb a q _=>(a,k b a q),λ_ _ q=>q,λ_ _ _ q=>q,λ_ d q=>(#[],by trivial))
theorem Un.refl:Un d b H H h h:=Un.kept λ_ _ q=>q
theorem Un.laid(k:∀b u,h.14 b=U u->f.14 b=U u)(e:h.10<=a)(d:H a=J):Un l g H (upd H a o) h f where
 keep:=λb u q _ _ _=>k b u q
 slot:=λb u q _ _ _=>(u.slots,k b u q)
 free:=λb u q n _=>by rwa[AE (zu (zY (lt_size q) e))]
 there:=λb u q _=>(u,k b u q)
 ji:=λb i q=>by rwa[AE (AH q d)]
 jb:=λb u i q=>by rwa[AE (AH q d)]
 jf:=λb j q=>(#[],by rw[AE (AH q d),q];simp)
theorem Un.write(i:Mut (H x))(t:e=x\/H e=U (.a x))(k:∀b u,b≠e->h.14 b=U u->f.14 b=U u)(p:∃u,f.14 e=U u):Un m g H (upd H x o) h f:=by
 let j:∀b,H b=J->b≠x:=λb n z=>by subst z;rwa[n]at i
 let d:∀b,H b=J->b≠e:=λb n z=>by
  ext
 let a:∀b u,H b=U u->¬ Mut (U u)->b≠x:=λb u q v z=>by ext
 show(λb u q n _ _=>k b u (d b n) q,λb u q n _ _=>(u.slots,k b u (d b n) q),λb u q n _=>by rw[AE (j b n)];show n,λb u q _=>?_,
  λb l q=>by rw[AE (a b _ q λz=>z)];show q,λb u l q=>by rw[AE (a b _ q λz=>z)];show q,λb r q=>(#[],by rw[AE (a b _ q λz=>z),q];simp))
 grind
noncomputable def trk(h:Heap)(H:Hp):List nq:=(uP h.10).21 λa=>(H a).24
def MZ(h:Heap)(H:Hp):Heap:=W.hideAll h (trk h H)
theorem R7(h)(H):(MZ h H).10=h.10:=W.hideAll_size _ _
theorem Td(e:h.14 b=U o)(n:H b=J):(MZ h H).14 b=U o:=
 W.hideAll_get _ e λa=>by
  let q:=(mem_filter.mp a).2;rw[n]at q;simp at q
theorem V6(e:(MZ h H).14 b=U o):h.14 b=U o/\H b=J:=by
 let a:=W.of_hideAll (trk h H) e;show(a,?_);cases q:H b with
 |none=>rfl
 |some x=>
  let z:(MZ h H).14 b=J:=W.hideAll_none (trk h H) (mem_filter.49 (mem_range.49 (lt_size a),by simp[q]));rw[z]at e;cases e
structure Mod(K:FG)(mg:SV)(base:Heap):Prop where
 jO:K.In base
 glob:base.Ns mainGlobals mg
 blt:∃mb,base.Ns builtinsNs mb/\∀x:Str,x≠ oQ -> mb x=bootBuiltins x
 nolimit:base.NoLimit
structure Cx where
 p:Program
 w:World
 K:FG
 m:Str->Option Value
 b:Heap
 A:Around
 N:ni
 hZ:nr
 i:Hp
 e:Env
 o:List Env
 s:List Env
 a:List nq
 fn:Str->Bool
 c:Bool
 n:LO
 x:Value->nr->Prop
noncomputable def iz(l:List Env):List nq:=l.35 (·.frame)
abbrev Cx.f(X:Cx):List nq:=iz X.o
def Vis(b:Scope)(x:Str):Prop:=b.13 x=U uo\/b.13 x=U uz\/b.13 x=U ub
def Loc(b:Scope)(x:Str):Prop:=b.13 x=U uo\/b.13 x=U uz
def cT(b:Env)(h:Heap)(m:SV)(x:Str)(u:Value):Prop:=
 (b.kindOf x=U uo/\m x=U u)\/((b.kindOf x=U uz\/b.kindOf x=U ub)/\∃c,b.cells.5 x=U c/\h.IsCell c (U u))
structure Cx.Ok(X:Cx):Prop where
 mod:Mod X.K X.m X.b
 kind:X.e.scope.60=uR
 glob:X.e.globals=mainGlobals
 blt:X.e.builtins=builtinsNs
 above:X.hZ.8<=X.23
 inj:∀x y c,X.25 x=U c->X.25 y=U c->x=y
 has:∀x,(X.e.kindOf x=U uz\/X.e.kindOf x=U ub)->∃c,X.25 x=U c
 kY:∀x c,X.fn x=L->X.25 x=U c->X.hZ.8<=c
 hd:X.c=L->X.A.41=J
 frames:X.A.46=U X.s
 jB:X.s=X.o\/(X.s=X.e::X.o/\X.e.frame=U X.23)
 exf:∀b∈X.a,b≠X.23/\∀x c,X.25 x=U c->c≠b
 bs:∀b o,X.b.14 b=U o->X.hZ.3 b=U o/\X.i b=J
 jG:X.b.10<=X.hZ.8
 js:∀b o,X.b.14 b=U o->b∉ X.a
 jv:∀b∈X.a,b∉ X.f
 iu:X.hZ.36 X.b X.o
 jY:∀b∈X.f,X.i b=J
structure Inv(X:Cx)(fb:LO)(σ:List (Option V))(H:Hp)(s:nr):Prop where
 ok:X.Ok
 os:s.os=X.hZ.os
 bare:AllBare s.gens
 base:Un X.f X.a X.i H X.hZ.16 s.16
 loc:∃m,s.heap.Ns X.23 m/\∀(i:Nat)x v,X.N[i]?=U x->σ[i]?=U (U v)->Vis X.37 x->∃u,RelV v u/\cT X.e s.16 m x u
 cell:∀x c,X.25 x=U c->∃v,s.heap.IsCell c v
 free:H X.23=J
 ie:∀x c,X.25 x=U c->H c=J
 pin:∀p∈X.n++fb,s.3 p.1=U p.2/\H p.1=J/\p.1≠X.23/\p.1∉ X.f/\∀v,p.2.34≠ .cell v
 gA:iG X.p X.w H s.16
 len:σ.9=X.N.9
theorem Cx.Ok.nofr{X:Cx}(ok:X.Ok)(e:X.b.14 u=U v):u∉ X.f:=λa=>by
 have:=(ok.iu.mem a).1;rw[e]at this;cases this
theorem Inv.bs(I:Inv X d f H s):∀b o,X.b.14 b=U o->s.3 b=U o/\H b=J:=λb o e=>
 (I.base.32 b o (I.ok.bs b o e).1 (I.ok.bs b o e).2 (I.ok.nofr e) (I.ok.js b o e),I.base.54 b o (I.ok.bs b o e).1 (I.ok.bs b o e).2 (I.ok.js b o e))
theorem Inv.bk{X}{s}(I:Inv X d f H s):∀b o,X.b.14 b=U o->s.3 b=U o:=λb o e=>(I.bs b o e).1
theorem Inv.mod(I:Inv X b d H s):Mod X.K X.m X.b:=I.ok.mod
theorem Inv.ip(I:Inv X b d H s):X.K.In s.16:=I.ok.mod.jO.80 I.bk
theorem Inv.fr(I:Inv X b d H s):∃m,Fr X.b X.23 s.16 m:=
 let(m,a,_):=I.loc
 (m,a,I.bk,tT I.ok.jG I.73)
theorem Inv.lt(I:Inv X b d H s):X.23<s.8:=by let(_,a,_):=I.loc;show a.lt
theorem Inv.sz(I:Inv X b d H s):X.hZ.8<=s.8:=tT I.73 (sZ I.lt)
theorem Inv.nofs(I:Inv X b f H s)(h:s.8<=a):a∉ X.f:=λd=>by
 let(_,o,e,_):=I.ok.iu.mem d;show absurd (zY (lt_size e) (tT I.sz h)) (zy _)
theorem Inv.lx(I:Inv X b f H s):∀x c,X.25 x=U c->c≠X.23:=λx c e z=>by
 let(v,o,l,j):=I.84 x c e;let(m,(i,h,ep,d,a,_),_):=I.loc
 ext
theorem Inv.iu(I:Inv X f g H s):s.36 X.b X.o:=by
 let all:∀l,(∀b∈iz l,b∈X.f)->X.hZ.36 X.b l->s.36 X.b l:=by
  intro l;induction l with
  |nil=>intro _ _;trivial
  |cons p r u=>
   rintro i ⟨j,⟨m,o,h,v,q,t⟩,x⟩;let a:=i m (by unfold iz;ext);let(sl,e):=I.base.slot m o q (I.ok.jY m a) a λz=>I.ok.jv m z a;show(j,(m,_,h,v,e,t),u (λb d=>i b (by unfold iz;rw[zJ,h];show zO _ d)) x)
 show all X.o (λ_ d=>d) I.ok.iu
theorem Inv.stack(I:Inv X b f H s):s.36 X.b X.s:=by
 let e||(e,d):=I.ok.jB
 ·rw[e];show I.iu
 ·rw[e];let(m,a,_):=I.loc;show .cons (by rw[I.ok.60];decide) d a (Heap.get?_none_of_le (tT I.ok.jG I.73)) I.iu
theorem Inv.iO(I:Inv X f g H s):∀b∈iz X.s,b∈X.23::X.f:=λb a=>by
 let e||(e,d):=I.ok.jB
 ·ext
 ·rw[e]at a;unfold iz at a
  rwa[zJ,d]at a
theorem Inv.stkFree(I:Inv X f g H s):∀b∈iz X.s,H b=J:=λb a=>by
 let e||a:=mem_cons.mp (I.iO b a)
 ·rw[e];show I.54
 ·let(_,o,d,_):=I.ok.iu.mem a;show I.base.54 b o d (I.ok.jY b a) λz=>I.ok.jv b z a
theorem Inv.step{w}{H g}{s}{f}{Q}{t'}{P}{ch:List nq}(I:Inv X r w H s)
  (j:∀b∈ch,(b∈X.a\/X.hZ.8<=b)/\b≠X.23/\(∀x c,X.25 x=im c->c≠b)/\∀p∈X.n++r,p.1≠b)
  (keep:∀b o,b≠X.23->b∉ X.f->b∉ ch->s.3 b=im o->H b=J->f.14 b=im o)
  (t:∀b o,b≠X.23->b∈X.f->b∉ ch->s.3 b=im o->H b=J->∃sl,f.14 b=im {o with slots:=sl}) (h:∀b o,b∉ ch->s.3 b=im o->H b=J->g b=J)
  (as:∀b o,b∉ ch->s.3 b=im o->∃i,f.14 b=im i)
  (F:∀b d,H b=im (.t d)->g b=im (.t d)) (y:∀b o u,H b=im (.b o u)->g b=im (.b o u)) (az:∀b q,H b=im (.c q)->∃more,g b=im (.c (q++more)))
  (M:∀m,s.heap.Ns X.23 m->f.Ns X.23 m) (N:iG X.p X.w g f) (T:AllBare Q):
  Inv X r w g {s with heap:=f,gens:=Q,drawn:=P,toks:=t'}:=by
 let E:∀b o,X.hZ.3 b=im o->b≠X.23:=λb o e=>zu (zY (lt_size e) I.73)
 let A:∀b o,X.hZ.3 b=im o->b∉ X.a->b∉ ch:=λb o e a C=>by
  let z||z:=(j b C).1
  ·show a z
  ·show absurd (zY (lt_size e) z) (zy _)
 let ar:∀x c,X.25 x=im c->∀v,s.heap.IsCell c v->f.IsCell c v:=λx c e v (o,D,ab)=>by
  let G:=λz=>(j c z).2.2.1 x c e rfl;by_cases S:c∈X.f
  ·let(sl,al):=t c o (I.lx x c e) S G D (I.ie x c e);show(_,al,ab)
  ·show(o,keep c o (I.lx x c e) S G D (I.ie x c e),ab)
 show(I.ok,I.os,T,(λb o e n C a=>?_,λb o e n C a=>?_,λb o e n a=>?_,λb o e a=>?_,λb d e=>F b d (I.base.ji b d e),λb o d e=>y b o d (I.base.jb b o d e),λb q e=>?_),?_,λx c e=>?_,?_,λx c e=>?_,λp hp=>?_,N,I.50)
 ·show keep b o (E b o e) C (A b o e a) (I.base.32 b o e n C a) (I.base.54 b o e n a)
 ·let(sl,B):=I.base.slot b o e n C a;let(sl',R):=t b _ (E b o e) C (A b o e a) B (I.base.54 b o e n a)
  ext
 ·let(i,B):=I.base.86 b o e a;show h b i (A b o e a) B (I.base.54 b o e n a)
 ·let(i,B):=I.base.86 b o e a
  ext
 ·let(m1,B):=I.base.jf b q e
  grind
 ·let(m,U,hl):=I.loc;show(m,M m U,λag x v B R e3=>?_);let(u,an,l):=hl ag x v B R e3;show(u,an,?_);let l||(k,c,e,z):=l
  ·show sU l
  ·show sY (k,c,e,ar x c e _ z)
 ·let(v,z):=I.84 x c e
  grind
 ·let(m,(o,_,_,D,_),_):=I.loc;show h _ o (λz=>(j _ z).2.1 Y) D I.54
 ·let(v,o,D,ab):=I.84 x c e;show h c o (λz=>(j c z).2.2.1 x c e Y) D (I.ie x c e)
 ·let(e,n,ne,nf,aC):=I.pin p hp
  grind
theorem Inv.un(I:Inv X w A H s)(u:Un X.f [] H f s.16 g)(d:iG X.p X.w f g):Inv X w A f {s with heap:=g,toks:=t'}:=by
 let(m,(o,x,ep,l,r),_):=id I.loc;let(sl,p):=u.91 l I.54 (_)
 show I.step (ch:=[]) (λ_ z=>nomatch z) (λb o _ h _ e n=>u.32 b o e n h (_)) (λb o _ h _ e n=>u.slot b o e n h (_)) (λb o _ e n=>u.54 b o e n (_)) (λb o _ e=>u.86 b o e (_)) u.ji u.jb u.jf (λv t=>by
  let(y,j,i,a,q):=t;rw[l]at a;cases a
  show(_,j,i,p,q)) d I.74
theorem Inv.call(I:Inv X g N H s)(u:Un (iz X.s) M H f s.16 w)(i:iG X.p X.w f w)(B:AllBare y)
  (d:∀b∈M,(b∈X.a\/X.hZ.8<=b)/\b≠X.23/\(∀x c,X.25 x=U c->c≠b)/\∀p∈X.n++g,p.1≠b):
  Inv X g N f {s with heap:=w,gens:=y,drawn:=F,toks:=P}:=by
 let(m,(o,E,ep,t,r),_):=id I.loc;let(sl,l):=u.91 t I.54 λz=>(d _ z).2.1 rfl
 show I.step d (λb o l C a e n=>u.32 b o e n (λz=>(mem_cons.mp (I.iO b z)).40 l C) a) (λb o _ _ a e n=>u.91 e n a) (λb o a e n=>u.54 b o e n a) (λb o a e=>u.86 b o e a) u.ji u.jb u.jf (λD A=>by
  let(G,j,q,h,v):=A;rw[t]at h;cases h
  show(_,j,q,l,v)) i B
theorem Inv.turned(I:Inv X g D H s)(k:∀b o,b≠f->s.3 b=U o->w.14 b=U o)(C:H f=J)(d:f≠X.23)
  (y:f∈X.a\/X.hZ.8<=f) (A:∀x c,X.25 x=U c->c≠f) (l:∀p∈X.n++g,p.1≠f):Inv X g D H {s with heap:=w,toks:=t'}:=by
 show I.step (ch:=[f]) (λb B=>?_) (λb o _ _ a e _=>k b o (λz=>a (by simp[z])) e) (λb o _ _ a e _=>(o.slots,k b o (λz=>a (by simp[z])) e)) (λ_ _ _ _ n=>n)
  (λb o a e=>(o,k b o (λz=>a (by simp[z])) e)) (λ_ _ e=>e) (λ_ _ _ e=>e) (λb t e=>(#[],by trivial)) (λm i=>?_) (λb u e=>?_) I.74
 ·grind
 ·let(o,h,ep,j,r):=i;show(o,h,ep,k _ o (sX d) j,r)
 ·show(I.gA b u e).i9 (λc v a q=>k c v ?_ q) (λ_ q=>q) λ_ _ q=>q
  lia
theorem Inv.tok(I:Inv X b d H s)(t):Inv X b d H {s with toks:=t}:=I.un Un.refl I.gA
theorem Inv.kept(I:Inv X d f H s)(k:∀b u,s.3 b=U u->h'.14 b=U u):Inv X d f H {s with heap:=h',toks:=t'}:=I.un (Un.kept k) (I.gA.75 k)
theorem Inv.laid(I:Inv X g h H s)(k:∀b u,s.3 b=U u->f.14 b=U u)(d:s.8<=a)(new:hO X.p X.w (upd H a o) f a o):
  Inv X g h (upd H a o) {s with heap:=f,toks:=t'}:=I.un (Un.laid k d (I.18 d)) (I.gA.laid k d new)
theorem Inv.write(I:Inv X g i H s)(h:Mut (H x))(d:e=x\/H e=U (.a x))(k:∀b u,b≠e->s.3 b=U u->f.14 b=U u)(a:∃u,f.14 e=U u)
  (new:hO X.p X.w (upd H x o) f x o):Inv X g i (upd H x o) {s with heap:=f,toks:=t'}:=I.un (Un.write h d k a) (I.gA.write h d k a new)
theorem Inv.weak(I:Inv X f b H s)(h:a.9=b.9)(w:∀(i:Nat)v,a[i]?=U (U v)->b[i]?=U (U v)):Inv X f a H s:=
 (I.ok,I.os,I.74,I.base,by let(m,o,d):=I.loc;show (m,o,λi x v j e l=>d i x v j (w i v e) l),I.84,I.54,I.ie,I.pin,I.gA,h.6 I.50)
theorem Inv.pins_of(I:Inv X f b H s)(h:∀p∈a,s.3 p.1=U p.2/\H p.1=J/\p.1≠X.23/\p.1∉ X.f/\∀v,p.2.34≠ .cell v):Inv X a b H s:=
 (I.ok,I.os,I.74,I.base,I.loc,I.84,I.54,I.ie,λp d=>(mem_append.mp d).40 (λz=>I.pin p (_)) (h p),I.gA,I.50)
theorem No{N:ni}(h:N.26){i j:Nat}{x}(a:N[i]?=U x)(b:N[j]?=U x):i=j:=by
 let(l,e):=z8.mp a;let(o,d):=z8.mp b;show(List.getElem_inj h).mp (e.6 d.31)
theorem LY(I:Inv X fb m H s)(g:X.N.26)(S:X.N[i]?=im x)(C:Loc X.37 x)(r:RelV v u)
  (h:∀f,Inv X fb (m.set i (im v)) H f->(∃a,uG a s.16 f.16/\(a=X.23\/X.25 x=im a))->Q ux f) (hf:X.fn x=L\/X.28 x=im uo:=by first|show .inl rfl|show .inr rfl|assumption):wpAny as an (storeName X.e x u) Q ar s:=by
 let(al,hn,hl):=id I.loc;let T:(X.e.scope.60 == .class||(X.e.scope.60 == .module&&X.23 != X.e.globals))=i7:=by rw[I.ok.60];rfl
 let G:i<m.9:=by rw[I.50];show(z8.mp S).1
 let lx:=I.lx
 let B:∀{a:nq}{R:Heap},(∃o,s.3 a=im o/\H a=io)->uG a s.16 R->iG X.p X.w H R:=λ{a R}ha l b ob e=>by
  let(_,_,Z):=ha;show(I.gA b ob e).i9 (λc w' D q=>(l.2 c ?_).6 q) (λ_ q=>q) λ_ _ q=>q
  lia
 let A||A:=C
 ·show wpAny_storeName_local A hn (λR ag l=>?_) T;let(oL,_,_,hoL,_):=id hn;show h _ (I.ok,I.os,I.74,(λb o e n N C=>?_,λb o e n N C=>?_,I.base.54,λb o e C=>?_,I.base.ji,I.base.jb,I.base.jf),(_,ag,λj y v' t F P=>?_),λy c e=>?_,I.54,I.ie,λp hp=>?_,B (oL,hoL,I.54) l,by simpa using I.50) (_,l,sU zd)
  ·show(l.2 b (zu (zY (lt_size e) I.73))).6 (I.base.32 b o e n N C)
  ·let(sl,t):=I.base.slot b o e n N C;show(sl,(l.2 b (zu (zY (lt_size e) I.73))).6 t)
  ·let(o',t):=I.base.86 b o e C;show(o',(l.2 b (zu (zY (lt_size e) I.73))).6 t)
  ·by_cases w:j=i
   ·subst w;rw[S]at t;cases t;rw[List.getElem?_set_self G]at F;cases F;show(u,r,sU (A,by simp))
   ·rw[List.getElem?_set_ne (sX w)]at F;let(u',r',q):=hl j y v' t F P;show(u',r',?_);let(k,e)||(k,c,e,z):=q
    ·show sU (k,?_);have:y≠x:=λe=>w (No g t (e ▸ S));simp[this,e]
    ·show sY (k,c,e,z.sameBut l (lx y c e))
  ·let(w',z):=I.84 y c e;show(w',z.sameBut l (lx y c e))
  ·let(e,n,U,nf,d):=I.pin p hp;show((l.2 p.1 U).6 e,n,U,nf,d)
 ·have M:X.fn x=L:=by
   let z||z:=hf
   ·show z
   ·ext
  let(c,D):=I.ok.has x (sU A);let(w',z):=I.84 x c D;show wpAny_storeName_cell I.ok.60 A D z (λR kA l=>?_);let(oc,hoc,hocd):=id z;show h {s with heap:=R} (I.ok,I.os,I.74,(λb o e n N C=>?_,λb o e n N C=>?_,I.base.54,λb o e C=>?_,I.base.ji,I.base.jb,I.base.jf),(al,hn.sameBut l (_),λj y v' t F P=>?_),λy E e=>?_,I.54,I.ie,λp hp=>?_,B (oc,hoc,I.ie x c D) l,by simpa using I.50) (c,l,sY D)
  ·show(l.2 b (zu (zY (lt_size e) (I.ok.kY x c M D)))).6 (I.base.32 b o e n N C)
  ·let(sl,t):=I.base.slot b o e n N C;show(sl,(l.2 b (zu (zY (lt_size e) (I.ok.kY x c M D)))).6 t)
  ·let(o',t):=I.base.86 b o e C;show(o',(l.2 b (zu (zY (lt_size e) (I.ok.kY x c M D)))).6 t)
  ·by_cases w:j=i
   ·subst w;rw[S]at t;cases t;rw[List.getElem?_set_self G]at F;cases F;show(u,r,sY (sU A,c,D,kA))
   ·rw[List.getElem?_set_ne (sX w)]at F;let(u',r',q):=hl j y v' t F P;show(u',r',?_);let q||(k,E,e,z'):=q
    ·show sU q
    ·show sY (k,E,e,z'.sameBut l ?_);rintro rfl;show w (No g t (I.ok.inj _ _ _ e D ▸ S))
  ·by_cases ab:E=c
   ·grind
   ·let(w2,z2):=I.84 y E e;show(w2,z2.sameBut l ab)
  ·let(e,n,U,nf,d):=I.pin p hp;show((l.2 p.1 ?_).6 e,n,U,nf,d)
   grind
theorem Cg(I:Inv X b f H s)(l:X.N.26)(e:X.N[i]?=U x)(j:Loc X.37 x)(r:RelV v u)
  (h:∀a,Inv X b (f.set i (U v)) H a->Q ux a) (d:X.fn x=L\/X.28 x=U uo:=by first|show .inl rfl|show .inr rfl|assumption):wpAny M A (storeName X.e x u) Q E s:=
 LY I l e j r (λa o _=>h a o) d
theorem Inv.call'(I:Inv X m v H s)(e:f.os=s.os)(u:Un (iz X.s) r H g s.16 f.16)(a:iG X.p X.w g f.16)(h:AllBare f.gens)
  (d:∀b∈r,(b∈X.a\/X.hZ.8<=b)/\b≠X.23/\(∀x c,X.25 x=U c->c≠b)/\∀p∈X.n++m,p.1≠b):Inv X m v g f:=by
 let(l,o,q,i,j):=f;subst e;show I.call u a h d
abbrev XK:=Value->Option nq->Hp->Prop
abbrev St:=List (Option V)
abbrev VK:=V->Hp->Prop
abbrev TE:=St->Hp->VK->Prop
abbrev TT:=St->Hp->(Bool->Hp->Prop)->Prop
abbrev TA:=St->Hp->(nk->Hp->Prop)->Prop
structure Jt where
 nx:St->Hp->Prop
 rt:VK
 bk:St->Hp->Prop:=λ_ _=>False
 ct:St->Hp->Prop:=λ_ _=>False
abbrev TS:=Jt->St->Hp->Prop
inductive EP(X:Cx)(b:LO)(f:St)(Q:VK)(u:Value)(d:nr):Prop
 |mk (v) (H') (i:Inv X b f H' d) (r:RelV v u) (q:Q v H'):EP X b f Q u d
def TP(X:Cx)(d:LO)(g:St)(Q:Bool->Hp->Prop)(b:Bool)(f:nr):Prop:=∃h,Inv X d g h f/\Q b h
inductive AP(X:Cx)(b:LO)(g:St)(Q:nk->Hp->Prop)(f:nj)(d:nr):Prop
 |mk (vs) (H') (i:Inv X b g H' d) (r:Vals vs f) (q:Q vs H'):AP X b g Q f d
def SP(X:Cx)(b:LO)(D:Jt)(f:Flow)(d:nr):Prop:=
 match f with
 |.next=>E₂ λh g=>Inv X b h g d/\D.nx h g
 |.brk=>E₂ λh g=>Inv X b h g d/\D.bk h g
 |.cont=>E₂ λh g=>Inv X b h g d/\D.ct h g
 |.ret u=>E₃ λv h g=>C₃ (Inv X b h g d) (RelV v u) (D.rt v g)
abbrev ik(X:Cx){b:Type}(t:PySem.Sem b):=PySem.wpAny (PySem.model X.p X.w) X.A t
def PE(X:Cx)(e:Expr)(t:TE):Prop:=
 ∀d s(b:St)H Q,Inv X d b H s->t b H Q->ik X (eval e X.e) (EP X d b Q) X.x s
def PT(X:Cx)(e:Expr)(t:TT):Prop:=
 ∀d s(b:St)H Q,Inv X d b H s->t b H Q->ik X (isTrue e X.e (eval e X.e)) (TP X d b Q) X.x s
def PW(X:Cx)(e:Expr)(t:TT):Prop:=
 ∀f d s(b:St)H Q,Inv X d b H s->t b H Q->ik X (isTrue e X.e f) (TP X d b Q) X.x s
theorem PW.pt(h:PW X e t):PT X e t:=h _
def PA(X:Cx)(b:List Expr)(t:TA):Prop:=
 ∀g f s(d:St)H Q,Inv X f d H s->t d H Q->ik X (spliced (backTo g (starEach b X.e))) (AP X f d Q) X.x s
def PS(X:Cx)(st:Stmt)(t:TS):Prop:=
 ∀b s(d:St)H D,Inv X b d H s->t D d H->ik X (exec st X.e) (SP X b D) X.x s
def iZ(X:Cx)(st:List Stmt)(t:TS):Prop:=
 ∀b s(d:St)H D,Inv X b d H s->t D d H->ik X (execs st X.e) (SP X b D) X.x s
theorem gH{b}{t:Sem b}{Q d}(h:wpAny M A t Q E s)(e:∀a s,Q a s->d a s):wpAny M A t d E s:=zm h e λ_ _ x=>x
inductive ExV(o:Option (Option V))(k:V->Prop):Prop
 |mk (v) (h:o=U (U v)) (q:k v):ExV o k
inductive ExB(x:V)(k:Bool->Prop):Prop
 |mk (c) (h:x=.l c) (q:k c):ExB x k
inductive ExI(x y:V)(k:Int->Int->Prop):Prop
 |mk (i j) (h:x=.t i) (b:y=.t j) (q:k i j):ExI x y k
def LI(i:Nat):TE:=λb H Q=>ExV b[i]? λv=>Q v H
def tC(v:V):TE:=λ_ H Q=>Q v H
abbrev jg(x:PySem.Str):Prop:=(x==("__debug__":PySem.Str))=O
theorem Te(D:X.N[i]?=U x)(A:Vis X.37 x)(p:jg x:=by decide)(q:(x==(rQ:Str))=O:=by decide):PE X (tI x b) (LI i):=by
 rintro o s B H Q I ⟨v,e,h⟩;let(m,y,C):=I.loc;let(u,r,l):=C i x v D e A;let d:EP X o B Q u s:=(v,H,I,r,h);let(j,z)||(j,c,t,a):=l
 ·show wpAny_Name (wpAny_loadName_local I.ok.60 j y z d) p
 ·let j||j:=j
  ·show wpAny_Name (wpAny_loadName_cell I.ok.60 j t a d) p
  ·show wpAny_Name (wpAny_loadName_free I.ok.60 j t a d q) p
theorem AF:PE X (uB (.int i) j b) (tC (.t i)):=λ_ _ _ H _ I h=>wpAny_Constant_int (.t i,H,I.96 _,(_,rfl),h)
theorem DI:PE X (uB (.bool b) j d) (tC (.l b)):=λ_ _ _ H _ I h=>Constant_bool (.l b,H,I,rfl,h)
theorem EV:PE X (uB .none j b) (tC .g):=λ_ _ _ H _ I h=>Constant_none (.g,H,I,rfl,h)
theorem AM:PE X (uB (.str x) j b) (tC (.s x)):=λ_ _ _ H _ I h=>Calls.Constant_str (.s x,H,I.96 _,(_,rfl),h)
def Gl(X:Cx)(x:Str):Prop:=X.e.kindOf x=U .globalImplicit
theorem Ci(I:Inv X b g H s)(d:Gl X x)(a:X.m x=U u)(h:Q u s)
  (e:jg x:=by decide):ik X (eval (tI x f) X.e) Q E s:=
 Calls.Name_function_global I.ok.60 d (Calls.loadGlobal_global (by rw[I.ok.glob];show I.mod.glob.80 I.bk) a h) e
theorem Gf(I:Inv X b g H s)(i:Gl X x)(e:X.m x=J)(l:bootBuiltins x=U u)(h:Q u s)
  (o:x≠ oQ:=by decide) (j:jg x:=by decide):ik X (eval (tI x f) X.e) Q E s:=by
 let(p,a,d):=I.mod.blt;show Calls.Name_function_global I.ok.60 i (Calls.loadGlobal_builtin (by rw[I.ok.glob];show I.mod.glob.80 I.bk) e (by rw[I.ok.blt];show a.80 I.bk) ((d x o).6 l) h) j
theorem BV(d:Gl X x)(a:X.m x=U u)(r:RelV v u)(e:jg x:=by decide):PE X (tI x b) (tC v):=
 λ_ _ _ H _ I h=>Ci I d a (v,H,I,r,h) e
theorem EW(d:Gl X x)(a:X.m x=J)(i:bootBuiltins x=U u)(r:RelV v u)(j:x≠ oQ:=by decide)(e:jg x:=by decide):PE X (tI x b) (tC v):=
 λ_ _ _ H _ I h=>Gf I d a i (v,H,I,r,h) j e
def PC(X:Cx)(d:CmpOp)(a b:Expr)(t:TE):Prop:=
 ∀g s(f:St)H Q,Inv X g f H s->t f H Q ->
  ik X (eval a X.e) (λv h=>ik X (eval b X.e) (λu i=>ik X (compareOp d v u) (EP X g f Q) X.x i) X.x h) X.x s
theorem Np(b)(h:f≠ .In)(e:f≠ .NotIn):behindInMarks f b=O:=by
 let a:(f==CmpOp.In)=O:=by cases f<;>first|rfl|trivial
 let d:(f==CmpOp.NotIn)=O:=by cases f<;>first|rfl|trivial
 cases b<;>simp[behindInMarks,a,d]
def cV(b:TE):TE:=λf H Q=>b f H λx d=>Q (.l (decide (x=.g))) d
def Zg(b:TE):TE:=λf H Q=>b f H λx d=>Q (.l (!decide (x=.g))) d
theorem RelV.none_iff(r:RelV x v):(v==tj)=decide (x=.g):=by
 cases x with
 |g=>cases r;rfl
 |l _=>cases r;rfl
 |t _=>let(t,rfl):=r;rfl
 |s _=>let(t,rfl):=r;rfl
 |kB _=>let(t,rfl):=r;rfl
 |mw _=>let(t,rfl):=r;rfl
 |r _=>cases r;rfl
 |y _=>cases r;rfl
theorem Ju(l:PE X a o):PC X .Is a (uB .none j b) (cV o):=by
 intro d s i H Q I h;show gH (l d s i H _ I h) λv r z=>by let(x,p,e,q,q1):=z;show Constant_none (is_none_gen (.l _,p,e,by rw[q.none_iff];rfl,q1))
theorem Qh(l:PE X a o):PC X .IsNot a (uB .none j b) (Zg o):=by
 intro d s i H Q I h;show gH (l d s i H _ I h) λv r z=>by let(x,p,e,q,q1):=z;show Constant_none (isnot_none_gen (.l _,p,e,by rw[q.none_iff];rfl,q1))
def tB(t:TE):TT:=λd H Q=>t d H λx b=>ExB x λc=>Q c b
theorem PR(h:PC X f a b t)(e:behindInMarks f b=O:=by first|show Np _ qc qc|rfl):PE X (.Compare a [f] [b] g) t:=λd s i H Q I j=>wpAny_Compare1 (h d s i H Q I j) e
theorem CW(h:PC X f a b t)(i:behindInMarks f b=O:=by first|show Np _ qc qc|rfl):PT X (.Compare a [f] [b] g) (tB t):=by
 intro e s p H Q I r;show wpAny_isTrue_Compare1 (gH (h e s p H _ I r) λv A i=>gH i λu z j=>gH j λc s3 w=>?_) i;let(x,y,o,l,q1):=w;let(d,rfl,q):=q1;cases l;show zW (y,o,q)
theorem Al(h:PE X e t)(p:∀a,isTrue e X.e a=(do let v ←a;standAt e.pos;holding [v] (truthy v)):=by intro _;rfl):PT X e (tB t):=by
 intro i s l H Q I o;show isTrue_plain (gH (h i s l H _ I o) λv y z=>?_) (p _);let(x,r,j,u,q1):=z;let(d,rfl,q):=q1;cases u;show zW (r,j,q)
def Zh(t u:TT):TT:=λd H Q=>t d H λc b=>if c=L then u d b Q else Q O b
def tOr(t u:TT):TT:=λd H Q=>t d H λc b=>if c=L then Q L b else u d b Q
def cW(t:TT):TT:=λd H Q=>t d H λc b=>Q (!c) b
theorem Bu(l:PT X a i):PW X (.BoolOp .And [a] b) i:=by
 intro p d s j H Q I h;show isTrue_and (gH (l d s j H Q I h) λc o e=>?_);cases c with
 |true=>show isTrue_and_nil e
 |false=>show e
theorem By(l:PT X a i):PW X (.BoolOp .Or [a] b) i:=by
 intro p d s j H Q I h;show isTrue_or (gH (l d s j H Q I h) λc o e=>?_);cases c with
 |false=>show isTrue_or_nil e
 |true=>show e
theorem Cj(r:PT X a o)(q:PW X (.BoolOp .And (b::g) f) e):PW X (.BoolOp .And (a::b::g) f) (Zh o e):=by
 intro t d s j H Q I h;show isTrue_and (gH (r d s j H _ I h) λc p z=>?_);let(l,i,q1):=z;cases c with
 |true=>show q t d p j l Q i q1
 |false=>show(l,i,q1)
theorem Cw(r:PT X a o)(q:PW X (.BoolOp .Or (b::g) f) e):PW X (.BoolOp .Or (a::b::g) f) (tOr o e):=by
 intro t d s j H Q I h;show isTrue_or (gH (r d s j H _ I h) λc p z=>?_);let(l,i,q1):=z;cases c with
 |true=>show(l,i,q1)
 |false=>show q t d p j l Q i q1
theorem Au(j:PT X a e):PT X (.UnaryOp .Not a b) (cW e):=by
 intro d s i H Q I h;show isTrue_not (j d s i H (λc l=>Q (!c) l) I h)
def Zi(b d:TE):TE:=λg H Q=>b g H λx f=>ExB x λc=>if c=L then d g f Q else Q (.l O) f
def cX(b d:TE):TE:=λg H Q=>b g H λx f=>ExB x λc=>if c=L then Q (.l L) f else d g f Q
def Zj(b:TE):TE:=λf H Q=>b f H λx d=>ExB x λc=>Q (.l (!c)) d
theorem Ck(h:PE X a t):PE X (.BoolOp b [a] f) t:=λd s e H Q I i=>BoolOp_one (h d s e H Q I i)
theorem CY(q:PE X a p)(o:PE X (.BoolOp .And (b::g) f) m):PE X (.BoolOp .And (a::b::g) f) (Zi p m):=by
 intro d s i H Q I h;show BoolOp_and (gH (q d s i H _ I h) λv l z=>?_);let(x,j,e,r,q1):=z;let(c,rfl,q1):=q1;cases r;apply zW;cases c with
 |true=>show o d l i j Q e q1
 |false=>show(.l O,j,e,rfl,q1)
theorem Xq(q:PE X a p)(o:PE X (.BoolOp .Or (b::g) f) m):PE X (.BoolOp .Or (a::b::g) f) (cX p m):=by
 intro d s i H Q I h;show BoolOp_or (gH (q d s i H _ I h) λv l z=>?_);let(x,j,e,r,q1):=z;let(c,rfl,q1):=q1;cases r;apply zW;cases c with
 |false=>show o d l i j Q e q1
 |true=>show(.l L,j,e,rfl,q1)
theorem Tf(l:PE X a j):PE X (.UnaryOp .Not a b) (Zj j):=by
 intro d s i H Q I h;show UnaryOp_ (gH (l d s i H _ I h) λv q z=>?_);let(x,o,e,p,q1):=z;let(c,rfl,q1):=q1;cases p;show not_of (zW (.l (!c),o,e,Y,q1))
def tIf(t:TT)(b d:TE):TE:=λf H Q=>t f H λc g=>if c=L then b f g Q else d f g Q
theorem BW(u:PT X c p)(r:PE X a t)(q:PE X b f):PE X (.IfExp c a b g) (tIf p t f):=by
 intro e s i H Q I h;show wpAny_IfExp (gH (u e s i H _ I h) λd l z=>?_);let(o,j,q1):=z;cases d with
 |true=>show r e l i o Q j q1
 |false=>show q e l i o Q j q1
def fV(d:FG)(H:Hp)(a:nq)(b:nk):Prop:=
 Rd H a (.l b) \/
  ∃(o:Obj)(f:Array Value)(n:Nat),d.5 a=U o/\o.83=sW oq /\ o.93=J/\o.34=uW f n/\f.22<=sizeLine/\Vals b f.33
def gB(d:FG)(H:Hp)(a:nq)(b:nk):Prop:=
 Rd H a (.t b) \/
  ∃(o:Obj)(f:Array Value)(n:Nat),d.5 a=U o/\o.83=sW oB /\ o.34=uW f n/\f.22<=sizeLine/\Vals b f.33
noncomputable def cY:Value->Option V
 |tj=>U .g
 |uO b=>U (.l b)
 |tV i _=>U (.t i)
 |vw x _=>U (.s x)
 |.bytes b _=>U (.kB b)
 |.float b _=>U (.mw b)
 |sR a=>U (.r a)
 |sW n=>U (.y n)
 |_=>J
theorem RelV.abs(r:RelV x u):cY u=U x:=by
 cases x with
 |g=>cases r;rfl
 |l _=>cases r;rfl
 |t _=>let(t,rfl):=r;rfl
 |s _=>let(t,rfl):=r;rfl
 |kB _=>let(t,rfl):=r;rfl
 |mw _=>let(t,rfl):=r;rfl
 |r _=>cases r;rfl
 |y _=>cases r;rfl
theorem RelV.inj(r:RelV x u)(q:RelV y u):x=y:=tS (r.abs.92 q.abs)
theorem Vals.inj{b f}{a}(h:Vals b a)(k:Vals f a):b=f:=by
 induction h generalizing f with
 |nil=>cases k;rfl
 |cons r _ ih=>cases k with
  |cons e d=>rw[r.inj e,ih d]
theorem fV.of(h:H a=U (.l b)):fV d H a b:=sU (sU h)
theorem gB.of(h:H a=U (.t b)):gB d H a b:=sU (sU h)
theorem Inv.list(I:Inv X f g H s)(h:fV X.K H a b):∃d,Vals b d/\PlainL s.16 a d.11/\b.9<=sizeLine:=by
 let h||(o,d,n,i,l,j,p,q,r):=h
 ·let(z,d,n,r,e):=h.ok I.gA;show(d,r,(_,n,e,Y,Y,Y),z)
 ·show(d.33,r,(o,n,I.ip a o i,l,j,qe),?_);let e:=r.9;simp at e
  ext
theorem Inv.tuple(I:Inv X f g H s)(h:gB X.K H a b):∃d,Vals b d/\IsTup s.16 a d.11/\b.9<=sizeLine:=by
 let h||(o,d,n,i,j,l,q,r):=h
 ·let(z,d,r,p):=h.ok I.gA
  grind
 ·show(d.33,r,(o,I.ip a o i,j,n,qe),?_);let e:=r.9;simp at e
  ext
theorem Inv.list_inj(I:Inv X m w H s)(h:fV X.K H a f)(b:fV X.K H a g):f=g:=by
 let(j,r,(o,n,e,_,_,d),_):=I.67 h;let(i,q,(u,v,l,_,_,p),_):=I.67 b;rw[e]at l;cases l;rw[d]at p;injection p with t _
 have:j=i:=by simpa using congrArg Array.toList t
 subst this;show r.inj q
theorem Inv.tuple_inj(I:Inv X m w H s)(h:gB X.K H a f)(b:gB X.K H a g):f=g:=by
 let(j,r,(o,e,_,n,d),_):=I.56 h;let(i,q,(u,l,_,v,p),_):=I.56 b;rw[e]at l;cases l;rw[d]at p;injection p with t _
 have:j=i:=by simpa using congrArg Array.toList t
 subst this;show r.inj q
noncomputable abbrev Cx.jq(X:Cx)(E:VS):Cx:={X with x:=E}
abbrev Cx.kr(X:Cx):Cx:=X.jq λ_ _=>False
theorem Cx.Ok.jq{X:Cx}(ok:X.Ok)(E):(X.jq E).Ok:=
 (ok.mod,ok.60,ok.glob,ok.blt,ok.above,ok.inj,ok.has,ok.kY,ok.hd,ok.46,ok.jB,ok.exf,ok.bs,ok.jG,ok.js,ok.jv,ok.iu,ok.jY)
theorem Cx.Ok.iN{X:L2.Cx}(ok:(X.jq E).Ok):X.Ok:=
 (ok.mod,ok.60,ok.glob,ok.blt,ok.above,ok.inj,ok.has,ok.kY,ok.hd,ok.46,ok.jB,ok.exf,ok.bs,ok.jG,ok.js,ok.jv,ok.iu,ok.jY)
theorem Inv.jq(I:Inv X b d H s)(E):Inv (X.jq E) b d H s:=(I.ok.jq E,I.os,I.74,I.base,I.loc,I.84,I.54,I.ie,I.pin,I.gA,I.50)
theorem Inv.iN(I:Inv (X.jq E) b d H s):Inv X b d H s:=(I.ok.iN,I.os,I.74,I.base,I.loc,I.84,I.54,I.ie,I.pin,I.gA,I.50)
theorem SP.iN(h:SP (X.jq E) b D f g):SP X b D f g:=by
 cases f with
 |next=>let(a,d,I,q):=h;show(a,d,I.iN,q)
 |brk=>let(a,d,I,q):=h;show(a,d,I.iN,q)
 |cont=>let(a,d,I,q):=h;show(a,d,I.iN,q)
 |ret u=>let(v,a,d,I,r,q):=h;show(v,a,d,I.iN,r,q)
theorem iZ.kr{X}{st}{t}(h:iZ X.kr st t):iZ X st t:=λa s d H D I e=>
 zm (h a s d H D (I.jq _) e) (λ_ _ q=>q.iN) λ_ _ z=>tQ z
def Xr:TS:=λD b H=>D.nx b H
def YF(t u:TS):TS:=λD b H=>t {D with nx:=u D} b H
theorem AL:iZ X [] Xr:=λ_ _ a H _ I h=>wpAny_execs_nil (a,H,I,h)
theorem AC{X}{u}{st}{d}{t}(j:PS X st t)(o:iZ X d u):iZ X (st::d) (YF t u):=by
 intro a s l H D I h;show wpAny_execs_cons (gH (j a s l H {D with nx:=u D} I h) λf i q=>?_);cases f with
 |next=>
  let(e,p,r,q):=q;show o a i e p D r q
 |ret v=>show q
 |brk=>show q
 |cont=>show q
theorem AB{X}{st}{t}(d:PS X st t):iZ X [st] t:=by
 intro a s e H D I h;show wpAny_execs_cons (gH (d a s e H D I h) λf i q=>?_);cases f with
 |next=>show wpAny_execs_nil q
 |ret v=>show q
 |brk=>show q
 |cont=>show q
theorem Inv.quiet(I:Inv X b d H s):interactive X.e=O:=by simp[interactive,I.ok.60]
def Xs(b:TE):TS:=λD d H=>b d H λ_ f=>D.nx d f
theorem Ah(j:PE X e g)(b:swapsWith e J f.70 X.e=pure O:=by rfl):PS X (.Expr e f) (Xs g):=by
 intro a s d H D I h;show wpAny_Expr_any (gH (j a s d H _ I h) λv o z=>by let(x,l,i,p,q1):=z;show (d,l,i,q1)) I.quiet b
def Tg(b:TE):TS:=λD d H=>b d H D.rt
theorem AJ(j:PE X e b):PS X (.Return (U e) f) (Tg b):=by
 intro a s d H D I h;show wpAny_Return_some (gH (j a s d H _ I h) λv p z=>by let(x,l,i,o,q1):=z;show (x,d,l,i,o,q1))
def YG(c:TT)(t u:TS):TS:=λD d H=>c d H λb f=>if b=L then t D d f else u D d f
theorem AU(v:PT X c r)(q:iZ X a t)(p:iZ X b u):PS X (.If c a b f) (YG r t u):=by
 intro e s i H D I h;show wpAny_If (gH (v e s i H _ I h) λd l z=>?_);let(o,j,q1):=z;cases d with
 |true=>show q e l i o D j q1
 |false=>show p e l i o D j q1
def YH:TS:=λ_ _ _=>False
theorem Ad{X}{st}:PS X st YH:=λ_ _ _ _ _ _ h=>h.40
abbrev TG:=V->St->Hp->(St->Hp->Prop)->Prop
abbrev TGs:=nk->St->Hp->(St->Hp->Prop)->Prop
def PG(X:Cx)(b:Expr)(t:TG):Prop:= ∀f s(h:St)H v u Q,Inv X f h H s->RelV v u->t v h H Q -> ik X (assign b X.e u) (λ_ i=>E₂ λg d=>Inv X f g d i/\Q g d) X.x s
def PGs(X:Cx)(b:List Expr)(t:TGs):Prop:= ∀f s(i:St)H vs h Q,Inv X f i H s->Vals vs h->t vs i H Q -> ik X (assignInOrder ((assignEach b X.e).7 (·.2)) h) (λ_ j=>E₂ λg d=>Inv X f g d j/\Q g d) X.x s
abbrev Zk:=V->V->V->Hp->(Hp->Prop)->Prop
def Zl(X:Cx)(t:Zk):Prop:=
 ∀d s(h:St)H o i v g f u Q,Inv X d h H s->RelV o g->RelV i f->RelV v u->t o i v H Q ->
  ik X (setItem g f u) (λ_ j=>∃b,Inv X d h b j/\Q b) X.x s
abbrev TIp:=V->V->Hp->VK->Prop
def PIp(X:Cx)(b:Operator)(t:TIp):Prop:=
 ∀d s(f:St)H x y v u Q,Inv X d f H s->RelV x v->RelV y u->t x y H Q ->
  ik X (inplaceOp b v u) (EP X d f Q) X.x s
def Cl(i:Nat):TG:=λv b H Q=>Q (b.set i (U v)) H
theorem BX{i}(j:X.N.26)(e:X.N[i]?=U x)(l:Loc X.37 x)(d:X.fn x=L\/X.28 x=U uo:=by first|show .inl rfl|show .inr rfl|assumption):PG X (tI x b) (Cl i):=by
 intro a s p H v u Q I r h;show wpAny_assign_Name (Cg I j e l r (λq o=>(_,H,o,h)) d)
def V7:TGs:=λvs b H Q=>vs=[]/\Q b H
inductive ExC(vs:nk)(k:V->nk->Prop):Prop
 |mk (v) (r) (h:vs=v::r) (q:k v r):ExC vs k
def Jv(t:TG)(u:TGs):TGs:=λvs f H Q=>ExC vs λv r=>t v f H λd b=>u r d b Q
theorem Av:PGs X [] V7:=by
 rintro a s d H vs i Q I r ⟨e,h⟩;subst e;cases r;show assignInOrder_nil (d,H,I,h)
theorem AQ(l:PG X e t)(p:PGs X b u)
  (f:(assignEach (e::b) X.e).7 (·.2)=assign e X.e::(assignEach b X.e).7 (·.2):=by rfl):PGs X (e::b) (Jv t u):=by
 rintro a s o H vs z Q I r ⟨v,A,q,h⟩;subst q;cases r with
 |cons r x=>
  rw[f];show assignInOrder_cons (gH (l a s o H _ _ _ I r h) λ_ j w=>by let(d,y,i,q1):=w;show p a j d y _ _ Q i x q1)
inductive ExT(b:FG)(n:Nat)(v:V)(H:Hp)(k:nk->Prop):Prop
 |mk (a) (xs) (d:v=.r a) (f:gB b H a xs) (g:xs.9=n) (q:k xs):ExT b n v H k
def V8(b:FG)(n:Nat)(t:TGs):TG:=λv f H Q=>ExT b n v H λd=>t d f H Q
theorem BG{k}{n}(q:X.c=L)(h:PGs X f t)
  (l:(assignEach f X.e).9=n:=by rfl) (i:(assignEach f X.e).findIdx? (·.1)=J:=by rfl):PG X (uV f k g) (V8 X.K n t):=by
 rintro d s y H v u Q I r ⟨a,D,B,x,z,A⟩;subst B;cases r;let(C,j,ht,E):=I.56 x;show assign_Tuple_tuple (I.66 q) ht (by simp[l,←z,j.9]) i λF p=>h d _ y H D _ Q (I.75 (t':=s.57) λb o e=>p b o (zu (lt_size e)) e) (by simpa using j) A
noncomputable def EI(to b:TE)(t:Zk):TG:=λv d H Q=>to d H λo f=>b d f λi g=>t o i v g λh=>Q d h
theorem Ma(E:PE X o to)(G:PE X i f)(g:Zl X t)
  (M:∀v,assign (vA o i b) X.e v=(do
   let d ←holding [v] (eval o X.e)
   let e ←holding [v,d] (eval i X.e)
   standAt b
   holding [v,d,e] (setItem d e v)
   release [v,d,e] []):=by intro _;rfl):PG X (vA o i b) (EI to f t):=by
 intro a s j H v u Q I r h;show zo (zH (gH (E a s j H _ I h) λd F w=>?_));let(x,m,B,A,q1):=w;show zo (zH (gH (G a F j m _ B q1) λe l k=>?_));let(y,q,z,D,q2):=k;show zo (zG (zo (zH (gH (g a l j q x y v d e u _ z A D r q2) λ_ s3 n=>by let(p,C,q3):=n;show wpAny_release (j,p,C,q3)))))
def V9(b:TE)(g:TG):TS:=λD d H=>b d H λx f=>g x d f D.nx
theorem Bf(o:PE X e m)(p:PG X b g)(hs:swapsWithSole [b] e f.70 X.e=pure O:=by rfl)(hw:swappedStores [b] e X.e=pure J:=by rfl)
  (l:(assignEach [b] X.e).7 (·.2)=[assign b X.e]:=by rfl):PS X (vn [b] e f) (V9 m g):=by
 intro a s d H D I h;show wpAny_Assign_stores (gH (o a s d H _ I h) λv j z=>?_) hs hw;let(x,r,i,t,q1):=z;rw[l];show gH (p a j d r x v _ i t q1) λ_ u q=>q
theorem Da{i}(z:X.N.26)(t:X.N[i]?=U x)(l:Loc X.37 x)(o:PE X e m)(b:swapsWith e (U (tI x g)) f.70 X.e=pure O:=by rfl)(d:X.fn x=L\/X.28 x=U uo:=by first|show .inl rfl|show .inr rfl|assumption):
  PS X (vn [tI x g] e f) (V9 m (Cl i)):=by
 intro a s r H D I h;show wpAny_Assign_Name (gH (o a s r H _ I h) λv B w=>by let(y,u,q,p,q1):=w;show Cg q z t l p (λA j=>(_,u,j,q1)) d) b
def cZ(i j:Nat)(b:TA):TS:=λD d H=>b d H λvs f=>E₂ λv w=>vs=[v,w]/\D.nx ((d.set i (U v)).set j (U w)) f
theorem PU(M:X.c=iY)(f:X.N.26)(w:X.N[i]?=U x)(p:X.N[j]?=U y)(u:i≠j)
  (B:X.28 x=U uo) (G:X.28 y=U uo) (v:PA X [a,b] T)
  (z:swappedStores [uV [tI x C,tI y m] kt pt] (uV [a,b] g d) X.e=pure (U [x,y]))
  (hs:swapsWithSole [uV [tI x C,tI y m] kt pt] (uV [a,b] g d) D.70 X.e=pure i7:=by rfl):
  PS X (vn [uV [tI x C,tI y m] kt pt] (uV [a,b] g d) D) (cZ i j T):=by
 intro l s S H as I h;show zo (zG ?_);show zo (zn (zo (Tuple_ (gH (v _ l s S H _ I h) λQ E k=>?_))));let(vs,P,ag,N,q1):=k;let(al,an,Y,q1):=q1;subst Y
 let(r,t,rfl,Z,A):∃r t,Q=[r,t]/\RelV al r/\RelV an t:=by
  cases N with
  |cons az q=>
   cases q with
   |cons p' q'=>
    cases q'
    grind
 show wpAny_newObj_type ?_ i1;rw[z];show zo (zn (zo (wpAny_rule (zo (unpackItems_tuple (items:=#[r,t]) (I.66 M) (IsTup.new E.16 _) λh' ar=>?_)))));let R:=(ag.75 λb o e=>zU _ e).75 (t':=E.57) λb o e=>ar b o (zu (lt_size e)) e;show zo (assignInOrder_cons (wpAny_bindName (Cg R f p (sU G) A (λs2 ab=>assignInOrder_cons (wpAny_bindName (Cg ab f w (sU B) Z (λs3 F=>assignInOrder_nil (zn ?_)) (sY B)))) (sY G))));rw[List.set_comm _ _ (sX u)]at F;show(_,P,F,q1)
def cb(i:Nat)(b:TE)(d:TIp):TS:=λD f H=>∃x,f[i]?=U (U x)/\b f H λy g=>d x y g λz h=>D.nx (f.set i (U z)) h
theorem PV{i}(g:X.N.26)(B:X.N[i]?=U x)(q:Loc X.37 x)(M:PE X e m)(f:PIp X b z)(E:X.fn x=iY\/X.28 x=U uo:=by first|show .inl rfl|show .inr rfl|assumption):
  PS X (.AugAssign (tI x az) b e as) (cb i m z):=by
 rintro a s A H D I ⟨v,T,h⟩;let(ar,G,S):=I.loc;let t:Vis X.37 x:=by let k||k:=q;show sU k;show sY (sU k)
 let(u,r,l):=S i x v B T t;apply wpAny_AugAssign_Name
 let C:ik X (eval e X.e) (λw p=>ik X (inplaceOp b u w) (λr o=>ik X (storeName X.e x r) (λ_=>SP X a D .next) X.x o) X.x p) X.x s:=by
  show gH (M a s A H _ I h) λw an n=>?_;let(y,P,Q,ag,q1):=n;show gH (f a an A P v y u w _ Q r ag q1) λaC s2 K=>by let(zv,F,ab,al,q2):=K;show Cg ab g B q al (λs3 R=>(_,F,R,q2)) E
 let(d,L)||(d,c,N,j):=l
 ·show wpAny_loadName_local I.ok.60 d G L C
 ·let d||d:=d
  ·show wpAny_loadName_cell I.ok.60 d N j C
  ·let k||k:=q
   ·have:X.28 x=U ub:=d;rw[k]at this;cases this
   ·have:X.28 x=U ub:=d;rw[k]at this;cases this
def Ti(c:TT)(d:TS):TS:=λD f H=>∃W:Nat->St->Hp->Prop,(∃m,W m f H)/\∀m f H,W m f H ->
 c f H λb h=>if b=L then ∃N,(∀i g,N i g->∃j,j<m/\W j i g)/\d {D with nx:=N,ct:=N,bk:=D.nx} f h else D.nx f h
theorem HS(y:PassesOwn (model X.p X.w) X.A X.e X.x)(g:PT X c m)(R:iZ X w P):PS X (.While c w [] S) (Ti m P):=by
 rintro d s M H D I ⟨W,⟨E,F⟩,j⟩;show wpAny_While (codeAny_whileLoop (λn G=>E₂ λi x=>Inv X d i x G/\W n i x) ?_ E (M,H,I,F));rintro n Q ⟨e,z,T,C⟩;show wpAny_passesOwn y (gH (g d Q e z _ T (j n e z C)) λb B k=>?_);let(t,u,q2):=k;cases b with
 |true=>
  let(N,A,q2):=q2;show wpAny_passesOwn y (gH (R d B e t _ u q2) λf s3 q3=>?_);cases f with
  |next=>
   let(a,h,q,o):=q3;let(l,p,r):=A a h o;show(l,p,a,h,q,r)
  |cont=>
   let(a,h,q,o):=q3;let(l,p,r):=A a h o;show(l,p,a,h,q,r)
  |brk=>show q3
  |ret v=>show q3
 |false=>
  show wpAny_execs_nil (e,t,u,q2)
structure It where
 go:Nat->Hp->Prop
 j7:Nat->Hp->V->Hp->Prop
 stop:Nat->Hp->Prop
def Gg(X:Cx)(d:LO)(H:Hp)(b:nq):Prop:=
 H b=J/\b≠X.23/\b∉ X.f/\(b∈X.a\/X.hZ.8<=b)/\(∀x c,X.25 x=U c->c≠b)/\∀p∈X.n++d,p.1≠b
theorem Inv.ju(I:Inv X g i H s)(a:s.8<=b)(h:f b=J):Gg X g f b:=by
 show(h,uH (zY I.lt a),I.nofs a,sY (tT I.sz a),λx c e z=>?_,λp d z=>?_)
 ·let(v,q):=I.84 x c e;show absurd (zY q.lt (_)) (zy _)
 ·show absurd (zY (lt_size (I.pin p d).1) (_)) (zy _)
structure Nq(P:Program)(w:World)(K:FG)(tg:Expr)(J:It)(fp:List nq)(it:nq)(tn:Nat->Heap->Prop):Prop where
 mem:it∈fp
 obj:∀i h,tn i h->∀b∈fp,∃o,h.14 b=U o/\∀v,o.34≠ .cell v
 keep:∀i h h',tn i h->(∀b∈fp,∀o,h.14 b=U o->h'.14 b=U o)->tn i h'
 item:∀X,X.p=P->X.w=w->X.K=K->X.c=L->∀i fb s(σ:St)H(E:VS),Inv X fb σ H s->(∀b∈fp,Gg X fb H b)->tn i s.16->J.go i H ->
  wpAny (model P w) X.A (pyNext (sR it)) (λr d=>∃u,r=U u /\
   wpAny (model P w) X.A (letOwnedTupleGo tg (sR it) u) (λ_ f=>∃x H',Inv X fb σ H' f/\RelV x u/\J.j7 i H x H'/\tn (i+1) f.16/\∀b∈fp,H' b=io) E d) E s
 done:∀X,X.p=P->X.w=w->X.K=K->X.c=L->∀i fb s(σ:St)H(E:VS),Inv X fb σ H s->(∀b∈fp,Gg X fb H b)->tn i s.16->J.stop i H ->
  wpAny (model P w) X.A (pyNext (sR it)) (λr d=>r=io/\Inv X fb σ H d) E s
 self:∀A i s(Q:VS)(E:VS),tn i s.16->Q (sR it) s->wpAny (model P w) A (pyIter (sR it)) Q E s
abbrev TI:=St->Hp->(It->Hp->Prop)->Prop
def PIE(X:Cx)(d:LO)(i:St)(h:Expr)(R:It->Hp->Prop)(g:Value)(f:nr):Prop:=
 ∃(o:nq)(m:List nq)(tn:Nat->Heap->Prop)(l:It)(j:Hp),g=sR o/\Inv X d i j f/\Nq X.p X.w X.K h l m o tn/\tn 0 f.16/\(∀b∈m,Gg X d j b)/\R l j
def PI(X:Cx)(b iter:Expr)(d:TI):Prop:=
 ∀g s(f:St)H R,Inv X g f H s->d f H R ->
  ik X (eval iter X.e) (λv h=>ik X (pyIter v) (PIE X g f b R) X.x h) X.x s
theorem Nr(h:s.3 b=U o)(e:o.83=sW n)(d:o.34=tN vs)
    (i:[qg,"zip","dict_itemiterator","dict_reverseitemiterator","odict_iterator","itertools.zip_longest","itertools.pairwise"].17 n=O) (a:Q ux s):wpAny M A (letOwnedTupleGo f (sR b) u) Q E s:=by
  cases f<;>first
    |show zn a
    | (cases u<;>first
        |show zn a
        | (show zo (wpAny_load h ?_)
           rw[e,d];change wpAny M A (if ([qg,"zip","dict_itemiterator","dict_reverseitemiterator","odict_iterator","itertools.zip_longest","itertools.pairwise"].17 n&&vs[0]?==U (rawInt _))=L then _ else _) Q E s;rw[zg (by grind)]
           show zn a))
noncomputable def lO(b:FG)(a:nq):It:= (λi H=>E₂ λd x=>fV b H a d/\d[i]?=U x,λi H x f=>f=H/\∀d,fV b H a d->d[i]?=U x,λi H=>∃d,fV b H a d/\d.9<=i)
noncomputable def mZ(b:FG)(a:nq):It:= (λi H=>E₂ λd x=>gB b H a d/\d[i]?=U x,λi H x f=>f=H/\∀d,gB b H a d->d[i]?=U x,λi H=>∃d,gB b H a d/\d.9<=i)
noncomputable def Itr(lo:Int)(n:Nat):It:=(λi _=>i<n,λi H x b=>b=H/\x=.t (lo+i),λi _=>n<=i)
theorem LZ(a f):Nq P w ω tg (lO ω a) [f] f (λi h=>h.78 f a i) where
 mem:=by simp
 obj:=λi h st b j=>by
  let e:b=f:=by simpa using j
  subst e;let(o,e,c,d):=st;show(o,e,λv ab=>by ext)
 keep:=λi h R st k=>st.at λo e=>k f (_) o e
 item:=by
  intro X C B g Q i q s T H E I r st D;subst C B g;let(Z,x,t,y):=D;let(L,M,p,S):=I.67 t;let(u,hu,ru):=M.get y;let(G,F,Y,O,N,A):=r f (_);show wpAny_pyNext_list_item st p.51 (x:=u) (_) λR l sb=>?_;let(o,e,c,d):=id l;show(u,zd,Nr e c d qc (x,H,I.58 (t':=s.57) (λb o j e=>(sb.2 b j).6 e) G F O N A,ru,(zd,λys m=>by rw[I.list_inj m t];show y),l,λb j=>(r b j).1))
 done:=by
  intro X C B g Q i q s T H E I r st D;subst C B g;let(Z,t,y):=D;let(L,M,p,S):=I.67 t;let(G,F,Y,O,N,A):=r f (_);let hl:=M.9;show wpAny_pyNext_list_end (I.66 Q) st p.51 (by simp;ext) λR z=>(zd,I.58 (λb o j e=>z b o j e) G F O N A)
 self:=λ_ _ _ _ _ st h=>wpAny_pyIter_listiter st h
theorem PX(a f):Nq P ag g m (mZ g a) [f] f (λi h=>h.IsTupleIter f a i) where
 mem:=by simp
 obj:=λi h st b j=>by
  let e:b=f:=by simpa using j
  subst e;let(o,e,c,d):=st;show(o,e,λab al=>by ext)
 keep:=λi h R st k=>st.at λo e=>k f (_) o e
 item:=by
  intro X C B v Q i q s T H E I r st D;subst C B v;let(Z,x,t,y):=D;let(L,M,p,S):=I.56 t;let(u,hu,ru):=M.get y;let(G,F,Y,O,N,A):=r f (_);show wpAny_pyNext_tuple_item st (p) (x:=u) (_) λR l sb=>?_;let(o,e,c,d):=id l;show(u,zd,Nr e c d qc (x,H,I.58 (t':=s.57) (λb o j e=>(sb.2 b j).6 e) G F O N A,ru,(zd,λys w=>by rw[I.tuple_inj w t];show y),l,λb j=>(r b j).1))
 done:=by
  intro X C B v Q i q s T H E I r st D;subst C B v;let(Z,t,y):=D;let(L,M,p,S):=I.56 t;let(G,F,Y,O,N,A):=r f (_);let hl:=M.9;show wpAny_pyNext_tuple_end (I.66 Q) st (p) (by simp;lia) λR z=>(zd,I.58 (λb o j e=>z b o j e) G F O N A)
 self:=λ_ _ _ _ _ st h=>wpAny_pyIter_tupleiter st h
theorem PY(f)(lo)(n):Nq P w m g (Itr lo n) [f] f (λi h=>IsRangeIter h f (lo+(i)*1) ((n:Int)-(i:Nat)) 1) where
 mem:=by simp
 obj:=λi h st b j=>by
  ext
 keep:=λi h D st k=>k f (_) _ st
 item:=by
  intro X u r A p i d s G H E I l st x;subst u r A;let(z,y,J,C,B,q):=l f (_);show(Walks.range (prog:=X.p) (w:=X.w) (I.66 p) f lo 1 n).item i s _ _ x st λv D N F a Q=>?_;let(t,rfl):=F;show(7,Nr a Y Y qc (.t (lo+i),H,I.58 (λb o j e=>Q b o (_) e) z y C B q,(t,?_),(Y,Y),a,λb j=>(l b j).1));simp
 done:=by
  intro X u r A p i d s G H E I l st x;subst u r A;let(z,y,J,C,B,q):=l f (_);show wpAny_pyNext_range_end (I.66 p) st (by have:n<=i:=x;lia) λD M=>(Y,I.58 (λb o j e=>M b o j e) z y C B q)
 self:=λ_ _ _ _ _ st h=>wpAny_pyIter_rangeiter st h
def Xu(b:FG)(d:TE):TI:=λh H R=>d h H λx f=>∃a,C₃ (x=.r a) (∃g,fV b f a g) (R (lO b a) f)
def ci(b:FG)(d:TE):TI:=λh H R=>d h H λx f=>∃a,C₃ (x=.r a) (∃g,gB b f a g) (R (mZ b a) f)
theorem Ay(z:PE X l r):PI X f l (Xu X.K r):=by
 intro d s y H R I h;show gH (z d s y H _ I h) λv j w=>?_;let(x,C,i,t,q1):=w;let(a,e,(F,u),q):=q1;subst e;cases t;let(A,E,p,D):=i.67 u;apply wpAny_pyIter_list p.51;show(j.8,[j.8],_,_,C,Y,i.75 λb o e=>zU _ e,LZ a _,(_,zK _ Y,Y,Y),λb B=>?_,q);let e:b=j.8:=by simpa using B
 subst e;show i.ju (zp _) (i.18 (zp _))
theorem Jw(A:PE X l t):PI X f l (ci X.K t):=by
 intro d s z H R I h;show gH (A d s z H _ I h) λv j w=>?_;let(x,C,i,u,q1):=w;let(a,e,(F,y),q):=q1;subst e;cases u;let(r,E,p,D):=i.56 y;apply wpAny_pyIter_tuple (show j.heap.IsTuple a r.11 from p);show(j.8,[j.8],_,_,C,Y,i.75 λb o e=>zU _ e,PX a _,(_,zK _ Y,Y,Y),λb B=>?_,q);let e:b=j.8:=by simpa using B
 subst e;show i.ju (zp _) (i.18 (zp _))
theorem Tj{X}{H}{s}{g:L2.St}{f}{E:VS}{w}{R}{lo a}{t u v}{m}(I:Inv X f g H s)(j:-(2^62)<=lo)(l:lo<2^62)(h:-(2^62)<=a)(r:a<2^62)
  (q:R (Itr lo (a-lo).30) H):ik X (pyIter (sR s.8)) (PIE X f g w R) E {s with heap:=s.19 {cls:=sW qG,data:=tN #[tV lo t,tV a u,tV 1 v]},toks:=m}:=by
 apply wpAny_pyIter_range (IsRange.new ..) (small_one j l h r);let d:Inv X f g H {s with heap:=s.19 {cls:=sW qG,data:=tN #[tV lo t,tV a u,tV 1 v]},toks:=m}:=I.75 λb o e=>zU _ e
 show((s.19 {cls:=sW qG,data:=tN #[tV lo t,tV a u,tV 1 v]}).10,[(s.19 {cls:=sW qG,data:=tN #[tV lo t,tV a u,tV 1 v]}).10],_,_,H,Y,
  d.75 λb o e=>zU _ e,PY _ lo (a-lo).30,?_,λb p=>?_,q)
 ·have x:lo+((0:Nat))*1=lo:=by simp
  let i:(((a-lo).30:Nat))-((0:Nat))=Builtin.Range.rangeSize lo a 1:=by rw[rangeSize_one];split<;>lia
  rw[x,i];show zK _ rfl
 ·have e:b=(s.19 {cls:=sW qG,data:=tN #[tV lo t,tV a u,tV 1 v]}).10:=by simpa using p
  subst e;show d.ju (zp _) (d.18 (zp _))
def Zm(b:TA):TI:=λf H R=>b f H λvs d=>∃j,vs=[.t j]/\-(2^62)<=j/\j<2^62/\R (Itr 0 j.30) d
theorem Cy(x:Gl X qG)(i:X.m qG=J)(z:PA X [a] v)(b:starEach [a] X.e=[(O,(eval a X.e))]:=by rfl):PI X g (uJ (tI qG p) [a] [] f) (Zm v):=by
 intro d s u H R I h;show Call_ (Gf I x i boot_range (vE (gH (z f d s u H _ I h) λA B w=>?_) b rfl));let(vs,C,o,l,q1):=w;let(j,e,q1,q2,q):=q1;subst e;cases l with
 |cons r y=>
  cases y;let(t,rfl):=r;show call_range_1 (Tj o (by decide) (by decide) q1 q2 (by simpa using q))
def Zn(d:TI)(g:TG)(b:TS):TS:=λD f H=>d f H λj p=>∃W:Nat->Nat->St->Hp->Prop,(∃m,W 0 m f p)/\∀i m f H,W i m f H ->
 (j.stop i H/\D.nx f H)\/(j.go i H/\∃N,(∀l h,N l h->∃o,o<m/\W (i+1) o l h)/\∀x h,j.j7 i H x h->g x f h λr q=>b {D with nx:=N,ct:=N,bk:=D.nx} r q)
noncomputable def Jx(d:List nq)(h:Heap):LO:=d.35 λb=>(h.14 b).7 λo=>(b,(o))
theorem EY(a:b∈d)(e:h.14 b=U o):(b,(o))∈Jx d h:=List.mem_filterMap.mpr (b,a,by rw[e];rfl)
theorem La(a:p∈Jx f h):p.1∈f/\h.14 p.1=U p.2:=by
 let(b,d,e):=List.mem_filterMap.mp a;cases q:h.14 b with
 |none=>ext
 |some o=>
  grind
theorem Inv.pinned(I:Inv X f g H s)(h:∀b∈a,Gg X f H b)(r:∀b∈a,∃o,s.3 b=U o/\∀v,o.34≠ .cell v):Inv X (f++Jx a s.16) g H s:=
 I.pins_of λp d=>(mem_append.mp d).40 (λz=>I.pin p (_)) λz=>by
  let(i,e):=La z;let(q,l,j,_):=h p.1 i
  grind
theorem Inv.unpinned(I:Inv X (b++pl) d H s):Inv X b d H s:=I.pins_of λp a=>I.pin p (_)
theorem Bt(G:PassesOwn (model X.p X.w) X.A X.e X.x)(d:X.c=iY)(hi:PI X f iter wi)(hg:PG X f an)(A:iZ X ag tb)
  (hs:∀x,foldedSetIterable iter X.e x=pure x:=by intro _;rfl):PS X (.For f iter ag [] a3) (Zn wi an tb):=by
 intro j az D H a0 I ar;show wpAny_For (gH (hi j az D H _ I ar) λaM s1 h1=>gH h1 λa2 s2 h2=>?_) hs;let(it,R,tn,J,H2,e,I2,T,Y,f2,W,(m0,w0),M):=h2;subst e;let l:∀{B:Hp},(∀b∈R,B b=io)->∀b∈R,Gg X j B b:=λhn b A=>(hn b A,(f2 b A).2);show codeAny_forLoop_any (λn v=>∃i t B,Inv X j t B v/\tn i v.16/\(∀b∈R,B b=io)/\W i n t B) ?_ m0 (0,D,H2,I2,Y,λb A=>(f2 b A).1,w0);rintro n s3 ⟨i,z,S,u,Q,F,w3⟩;let(L,qn)||(go,N,hN,step):=M i n z S w3
 ·show wpAny_passesOwn G (gH (T.done X zd zd zd d i j s3 z S X.x u (l F) Q L) λas s4 (h,I4)=>?_);subst h;show wpAny_execs_nil (z,S,I4,qn)
 ·show wpAny_passesOwn G (gH (T.item X zd zd zd d i j s3 z S X.x u (l F) Q go) λas s4 (aC,h,h4)=>?_);subst h;show wpAny_passesOwn G (gH h4 λ_ w (x,s,I5,r5,y5,E,ab)=>?_);show wpAny_passesOwn G (gH (hg _ w z s x aC _ (I5.pinned (l ab) (T.obj _ _ E)) r5 (step x s y5)) λ_ s6 (aR,P,I6,q6)=>wpAny_passesOwn G (gH (A _ s6 aR P _ I6 q6) λal r C=>?_))
  let y:∀{a:St}{q:Hp},Inv X (j++Jx R w.16) a q r->N a q->∃m,m<n/\∃i t B,Inv X j t B r/\tn i r.16/\(∀b∈R,B b=io)/\W i m t B:=λ{a q}p g=>by
   let(m',hm,w7):=hN a q g;show(m',hm,i+1,a,q,p.unpinned,T.32 _ _ _ E λb A o e=>(p.pin (b,(o)) (zQ _ (zQ _ (EY A e)))).1,λb A=>?_,w7);let(o,e,a1):=T.obj _ _ E b A;show(p.pin (b,(o)) (zQ _ (zQ _ (EY A e)))).2.1
  cases al with
  |next=>let(a,q,p,g):=C;show y p g
  |cont=>let(a,q,p,g):=C;show y p g
  |brk=>let(a,q,p,C):=C;show(a,q,p.unpinned,C)
  |ret aM=>let(x7,a,q,p,r7,C):=C;show(x7,a,q,p.unpinned,r7,C)
theorem Bg{a}{ω}{xs}{g:TG}{s:TS}{D:Jt}(d:Nat->St->Hp->Prop)(t:d 0 b H)(v:∀i b H,i<=xs.9->d i b H->fV ω H a xs)
  (w:∀i x b H,xs[i]?=U x->d i b H->g x b H λh o=>s {D with nx:=d (i+1),ct:=d (i+1),bk:=D.nx} h o) (z:∀b H,d xs.9 b H->D.nx b H):
  ∃W:Nat->Nat->St->Hp->Prop,(∃m,W 0 m b H)/\∀i m b H,W i m b H ->
   ((lO ω a).stop i H/\D.nx b H)\/((lO ω a).go i H/\∃N,(∀j f,N j f->∃r,r<m/\W (i+1) r j f)/\∀x f,(lO ω a).j7 i H x f->g x b f λh o=>s {D with nx:=N,ct:=N,bk:=D.nx} h o):=by
 show(λi m b H=>C₃ (m=xs.9-i) (i<=xs.9) (d i b H),(xs.9,by simp,tH _,t),?_);rintro i m b H ⟨rfl,u,p⟩;let q:=v i b H u p;by_cases l:i<xs.9
 ·show sY ((xs,xs[i],q,by simp),d (i+1),λj f A=>(xs.9-(i+1),by lia,Y,l,A),λx f y=>?_);let(e,y):=y;subst e;show w i x b _ (y xs q) p
 ·have e:i=xs.9:=by lia
  subst e;show sU ((xs,q,zp _),z b H p)
theorem WA{a}{ω}{xs}{g:TG}{s:TS}{D:Jt}(d:Nat->St->Hp->Prop)(t:d 0 b H)(v:∀i b H,i<=xs.9->d i b H->gB ω H a xs)
  (w:∀i x b H,xs[i]?=U x->d i b H->g x b H λh o=>s {D with nx:=d (i+1),ct:=d (i+1),bk:=D.nx} h o) (z:∀b H,d xs.9 b H->D.nx b H):
  ∃W:Nat->Nat->St->Hp->Prop,(∃m,W 0 m b H)/\∀i m b H,W i m b H ->
   ((mZ ω a).stop i H/\D.nx b H)\/((mZ ω a).go i H/\∃N,(∀j f,N j f->∃r,r<m/\W (i+1) r j f)/\∀x f,(mZ ω a).j7 i H x f->g x b f λh o=>s {D with nx:=N,ct:=N,bk:=D.nx} h o):=by
 show(λi m b H=>C₃ (m=xs.9-i) (i<=xs.9) (d i b H),(xs.9,by simp,tH _,t),?_);rintro i m b H ⟨rfl,u,p⟩;let q:=v i b H u p;by_cases l:i<xs.9
 ·show sY ((xs,xs[i],q,by simp),d (i+1),λj f A=>(xs.9-(i+1),by lia,Y,l,A),λx f y=>?_);let(e,y):=y;subst e;show w i x b _ (y xs q) p
 ·have e:i=xs.9:=by lia
  subst e;show sU ((xs,q,zp _),z b H p)
theorem IU{lo}{n}{g:TG}{s:TS}{D:Jt}(a:Nat->St->Hp->Prop)(q:a 0 b H)
  (v:∀i b H,i<n->a i b H->g (.t (lo+i)) b H λd l=>s {D with nx:=a (i+1),ct:=a (i+1),bk:=D.nx} d l) (r:∀b H,a n b H->D.nx b H):
  ∃W:Nat->Nat->St->Hp->Prop,(∃m,W 0 m b H)/\∀i m b H,W i m b H ->
   ((Itr lo n).stop i H/\D.nx b H)\/((Itr lo n).go i H/\∃N,(∀h f,N h f->∃o,o<m/\W (i+1) o h f)/\∀x f,(Itr lo n).j7 i H x f->g x b f λd l=>s {D with nx:=N,ct:=N,bk:=D.nx} d l):=by
 show(λi m b H=>C₃ (m=n-i) (i<=n) (a i b H),(n,by simp,tH _,q),?_);rintro i m b H ⟨rfl,u,p⟩;by_cases j:i<n
 ·show sY (j,a (i+1),λh f t=>(n-(i+1),by lia,Y,j,t),λx f y=>?_);let(e,y):=y;subst e y;show v i b _ j p
 ·have e:i=n:=by lia
  subst e;show sU (zp _,r b H p)
theorem Tk(e:St->Hp->Prop)(h:St->Hp->Nat)(j:e f H)
  (r:∀f H,e f H->c f H λb d=>if b=L then s {D with nx:=λa g=>e a g/\h a g<h f H,ct:=λa g=>e a g/\h a g<h f H,bk:=D.nx} f d else D.nx f d)
  (mono:∀f H Q i,(∀b d,Q b d->i b d)->c f H Q->c f H i):Ti c s D f H:=by
 show(λm f H=>m=h f H/\e f H,(_,rfl,j),?_);rintro m f H ⟨rfl,p⟩;show mono f H _ _ (λb d q=>?_) (r f H p);cases b with
 |true=>show(_,λa g z=>by let(o,l):=z;show (_,l,rfl,o),q)
 |false=>show q
abbrev R2:=V->V->Hp->VK->Prop
def iy(X:Cx)(f:Value->Value->Sem Value)(r:R2):Prop:=
 ∀b s(d:St)H x y v u Q,Inv X b d H s->RelV x v->RelV y u->r x y H Q ->
  ik X (f v u) (EP X b d Q) X.x s
def UnR(X:Cx)(f:Value->Sem Value)(r:V->Hp->VK->Prop):Prop:=
 ∀b s(d:St)H x v Q,Inv X b d H s->RelV x v->r x H Q ->
  ik X (f v) (EP X b d Q) X.x s
def gP(X:Cx)(f:Value)(r:nk->Hp->VK->Prop):Prop:=
 ∀b s(h:St)H g d Q,Inv X b h H s->Vals g d->r g H Q ->
  ik X (call f d) (EP X b h Q) X.x s
def ly(r:R2)(b d:TE):TE:=λf H Q=>b f H λx g=>d f g λy h=>r x y h Q
def tUn(r:V->Hp->VK->Prop)(b:TE):TE:=λf H Q=>b f H λx d=>r x d Q
def rI(C:Int->Int->Prop)(g:Int->Int->V):R2:=λx y H Q=>ExI x y λi j=>C i j/\Q (g i j) H
def kj(g:Int->Int->V):R2:=λx y H Q=>ExI x y λi j=>Q (g i j) H
def rU(g:Int->V):V->Hp->VK->Prop:=λx H Q=>∃i,x=.t i/\Q (g i) H
theorem YI{X}{o w}(z:PE X a o)(t:PE X b w){R:V->V->Hp->Prop}(I:Inv X m g H s)
  (h:o g H λx l=>w g l λy d=>R x y d)  {f:Value->Value->Sem Value}
  (r:∀v u j x y d,Inv X m g d j->RelV x v->RelV y u->R x y d->ik X (f v u) Q X.x j):
  ik X (eval a X.e) (λv e=>ik X (eval b X.e) (λu i=>ik X (f v u) Q X.x i) X.x e) X.x s:=by
 show gH (z m s g H _ I h) λv q (x,l,p,B,q1)=>gH (t m q g l _ p q1) λu j n=>?_;let(y,d,A,C,q2):=n;show r v u j x y d A B C q2
theorem AW(z:iy X (binaryOp f) r)(B:PE X a p)(A:PE X b g):PE X (.BinOp a f b m) (ly r p g):=by
 intro d s o H Q I h;show wpAny_BinOp (YI B A I h λv u e x y i j t l q=>z d e o i x y v u Q j t l q)
theorem Db(t:UnR X (unaryOp b) r)(o:PE X a l):PE X (.UnaryOp b a f) (tUn r l):=by
 intro d s e H Q I h;show UnaryOp_ (gH (o d s e H _ I h) λv j z=>by let(x,p,i,q,q1):=z;show t d j e p x v Q i q q1)
theorem mi{f}{C}{g:Int->Int->Int}
  (a:∀i j t u s(Q:VS)(E:VS),C i j->Q (tV (g i j) s.57) {s with toks:=s.57+1}->ik X (f (tV i t) (tV j u)) Q E s):
  iy X f (rI C λi j=>.t (g i j)):=by
 rintro d s p H x y v u Q I l h ⟨i,j,rfl,rfl,o,q⟩;let(t,rfl):=l;let(e,rfl):=h;show a i j t e s _ _ o (.t (g i j),H,I.96 _,(_,Y),q)
theorem PZ{f}{g:Int->Int->Int}
  (a:∀i j t u s(Q:VS)(E:VS),Q (tV (g i j) s.57) {s with toks:=s.57+1}->ik X (f (tV i t) (tV j u)) Q E s):
  iy X f (kj λi j=>.t (g i j)):=by
 rintro d s o H x y v u Q I l h ⟨i,j,rfl,rfl,q⟩;let(t,rfl):=l;let(e,rfl):=h;show a i j t e s _ _ (.t (g i j),H,I.96 _,(_,Y),q)
theorem WB{f}{g:Int->Int->Bool}
  (a:∀i j t u s(Q:VS)(E:VS),Q (uO (g i j)) s->ik X (f (tV i t) (tV j u)) Q E s):
  iy X f (kj λi j=>.l (g i j)):=by
 rintro d s o H x y v u Q I l h ⟨i,j,rfl,rfl,q⟩;let(t,rfl):=l;let(e,rfl):=h;show a i j t e s _ _ (.l (g i j),H,I,Y,q)
def cj(i j:Int):Prop:=0<j/\j<1073741824
def YJ(i j:Int):Prop:=0<=j/\j<=1000000/\i.natAbs<2^64
def CMul(i j:Int):Prop:=(-(2^64)<i/\i<2^64)\/(-(2^64)<j/\j<2^64)
theorem CMul.ok{i j}(h:CMul i j):IntMulOk i j:=by
 let(d,a)||(d,a):=h
 ·show .of_left (intBits_le_64 d a)
 ·show .of_right (intBits_le_64 d a)
theorem Pa(k):(0:Int)<=2^k:=by
 grind
theorem Cm:iy X (binaryOp .Add) (kj λi j=>.t (i+j)):=PZ λ_ _ _ _ _ _ _ q=>add_int q
theorem CL:iy X (binaryOp .Sub) (kj λi j=>.t (i-j)):=PZ λ_ _ _ _ _ _ _ q=>sub_int q
theorem Jy:iy X (binaryOp .Mult) (rI CMul λi j=>.t (i*j)):=mi λ_ _ _ _ _ _ _ a q=>mul_int q a.ok
theorem Qi:iy X (binaryOp .FloorDiv) (rI cj λi j=>.t (i/j)):=mi λi j _ _ _ _ _ a q=>by
 let e:=a.1;let d:=a.2;show floordiv_int () (by rwa[Int.fdiv_eq_ediv_of_nonneg i ()]) (sU (PyProof.noPylong_small (by omega)))
theorem Gh:iy X (binaryOp .Mod) (rI (λ_ j=>0<j) λi j=>.t (i%j)):=mi λi j _ _ _ _ _ a q=>by
 show mod_int' () (by rwa[Int.fmod_eq_emod_of_nonneg i ()])
theorem Pb:iy X (binaryOp .Pow) (rI YJ λi j=>.t (i^j.30)):=mi λ_ _ _ _ _ _ _ a q=>pow_int_small a.1 a.2.1 a.2.2 q
theorem Mb:iy X (binaryOp .LShift) (rI YJ λi j=>.t (i*2^j.30)):=mi λ_ _ _ _ _ _ _ a q=>lshift_int_small a.1 a.2.1 a.2.2 q
theorem YK:iy X (binaryOp .RShift) (rI (λ_ j=>0<=j) λi j=>.t (i/2^j.30)):=mi λi j _ _ _ _ _ a q=>
 rshift_int a (by rwa[Int.fdiv_eq_ediv_of_nonneg i (Pa _)])
theorem Bh:iy X (binaryOp .BitAnd) (kj λi j=>.t (tD i j)):=PZ λ_ _ _ _ _ _ _ q=>and_int q
theorem GD:iy X (binaryOp .BitOr) (kj λi j=>.t (uh i j)):=PZ λ_ _ _ _ _ _ _ q=>or_int q
theorem Tl:iy X (binaryOp .BitXor) (kj λi j=>.t (vY i j)):=PZ λ_ _ _ _ _ _ _ q=>xor_int q
theorem Qj:iy X (inplaceOp .Add) (kj λi j=>.t (i+j)):=PZ λ_ _ _ _ _ _ _ q=>iadd_int q
theorem YL:iy X (inplaceOp .BitOr) (kj λi j=>.t (uh i j)):=PZ λ_ _ _ _ _ _ _ q=>ior_int q
theorem unI{f}{g:Int->Int}
  (a:∀i t s(Q:VS)(E:VS),Q (tV (g i) s.57) {s with toks:=s.57+1}->ik X (f (tV i t)) Q E s):
  UnR X f (rU λi=>.t (g i)):=by
 rintro d s h H x v Q I e ⟨i,rfl,q⟩;let(t,rfl):=e;show a i t s _ _ (.t (g i),H,I.96 _,(_,Y),q)
theorem D7:UnR X (unaryOp .USub) (rU λi=>.t (-i)):=unI λ_ _ _ _ _ q=>neg_int q
theorem Jz:UnR X (unaryOp .Invert) (rU λi=>.t (uy i)):=unI λ_ _ _ _ _ q=>invert_int q
noncomputable def Zo:V->V->Bool
 |.g,.g=>L|.g,.t _=>L|.t _,.g=>L|.g,.l _=>L|.l _,.g=>L|.g,.s _=>L|.s _,.g=>L
 |.t _,.t _=>L|.l _,.l _=>L|.s _,.s _=>L|.kB _,.kB _=>L
 |.t _,.s _=>L|.s _,.t _=>L|.l _,.s _=>L|.s _,.l _=>L
 |_,_=>O
def rEq:R2:=λx y H Q=>Zo x y=L/\Q (.l (decide (x=y))) H
def rNe:R2:=λx y H Q=>Zo x y=L/\Q (.l (!decide (x=y))) H
theorem WC:decide (V.t i=V.t j)=(i==j):=by
 grind
theorem YM:decide (V.l i=V.l j)=(i==j):=by
 grind
theorem WD:decide (V.s i=V.s j)=(i==j):=by
 grind
theorem Qk:decide (V.kB i=V.kB j)=(i.33==j.33):=by
 rw[uQ]
 ext
theorem A6(I:Inv X b d H s)(q:Q (.l k) H)(e:k=a):EP X b d Q (uO a) s:=by
 subst e;show(.l k,H,I,Y,q)
theorem Aq:iy X (compareOp .Eq) rEq:=by
 rintro l s o H x y v u Q I h a ⟨e,q⟩;cases x with
 |g=>
  cases h;cases y with
  |g=>cases a;show PySem.EqNone.eq_none_none (A6 I q (by assumption))
  |l j=>cases a;show PySem.EqNone.eq_none_bool (A6 I q (_))
  |t j=>let(d,rfl):=a;show PySem.EqNone.eq_none_int (A6 I q (_))
  |s j=>let(d,rfl):=a;show PySem.EqNone.eq_none_str (A6 I q (_))
  |_=>show absurd (e) tF
 |l i=>
  cases h;cases y with
  |g=>cases a;show PySem.EqNone.eq_bool_none (A6 I q (_))
  |l j=>cases a;show eq_bool (A6 I q YM)
  |s j=>let(d,rfl):=a;show PySem.EqMixed.eq_bool_str (A6 I q (_))
  |_=>show absurd (e) tF
 |t i=>
  let(t,rfl):=h;cases y with
  |g=>cases a;show PySem.EqNone.eq_int_none (A6 I q (_))
  |t j=>let(d,rfl):=a;show eq_int (A6 I q WC)
  |s j=>let(d,rfl):=a;show PySem.EqMixed.eq_int_str (A6 I q (_))
  |_=>show absurd (show O=L from e) tF
 |s i=>
  let(t,rfl):=h;cases y with
  |g=>cases a;show PySem.EqNone.eq_str_none (A6 I q (_))
  |l j=>cases a;show PySem.EqMixed.eq_str_bool (A6 I q (_))
  |t j=>let(d,rfl):=a;show PySem.EqMixed.eq_str_int (A6 I q (_))
  |s j=>let(d,rfl):=a;show eq_str (A6 I q WD)
  |_=>show absurd (e) tF
 |kB i=>
  let(t,rfl):=h;cases y with
  |kB j=>let(d,rfl):=a;show W.eq_bytes (A6 I q Qk)
  |_=>show absurd (e) tF
 |_=>cases y<;>show absurd (show O=L from e) tF
theorem Dc:iy X (compareOp .NotEq) rNe:=by
 rintro l s o H x y v u Q I h a ⟨e,q⟩;cases x with
 |g=>
  cases h;cases y with
  |g=>cases a;show PySem.EqNone.ne_none_none (A6 I q (_))
  |l j=>cases a;show PySem.EqNone.ne_none_bool (A6 I q (by assumption))
  |t j=>let(d,rfl):=a;show PySem.EqNone.ne_none_int (A6 I q (by assumption))
  |s j=>let(d,rfl):=a;show PySem.EqNone.ne_none_str (A6 I q (by assumption))
  |_=>show absurd (e) tF
 |l i=>
  cases h;cases y with
  |g=>cases a;show PySem.EqNone.ne_bool_none (A6 I q (_))
  |l j=>cases a;show ne_bool (A6 I q (_))
  |s j=>let(d,rfl):=a;show PySem.EqMixed.ne_bool_str (A6 I q (_))
  |_=>show absurd (e) tF
 |t i=>
  let(t,rfl):=h;cases y with
  |g=>cases a;show PySem.EqNone.ne_int_none (A6 I q (_))
  |t j=>let(d,rfl):=a;show ne_int (A6 I q (_))
  |s j=>let(d,rfl):=a;show PySem.EqMixed.ne_int_str (A6 I q (_))
  |_=>show absurd (e) tF
 |s i=>
  let(t,rfl):=h;cases y with
  |g=>cases a;show PySem.EqNone.ne_str_none (A6 I q (_))
  |l j=>cases a;show PySem.EqMixed.ne_str_bool (A6 I q (_))
  |t j=>let(d,rfl):=a;show PySem.EqMixed.ne_str_int (A6 I q (_))
  |s j=>let(d,rfl):=a;show ne_str (A6 I q (_))
  |_=>show absurd (e) tF
 |kB i=>
  let(t,rfl):=h;cases y with
  |kB j=>let(d,rfl):=a;show W.ne_bytes (A6 I q (congrArg not Qk))
  |_=>show absurd (e) tF
 |_=>cases y<;>show absurd (e) tF
theorem FF:iy X (compareOp .Lt) (kj λi j=>.l (decide (i<j))):=WB λ_ _ _ _ _ _ _ q=>lt_int q
theorem FH:iy X (compareOp .LtE) (kj λi j=>.l (decide (i<=j))):=WB λ_ _ _ _ _ _ _ q=>le_int q
theorem GH:iy X (compareOp .Gt) (kj λi j=>.l (decide (j<i))):=WB λ_ _ _ _ _ _ _ q=>gt_int q
theorem Nt:iy X (compareOp .GtE) (kj λi j=>.l (decide (j<=i))):=WB λ_ _ _ _ _ _ _ q=>ge_int q
theorem AO(b)(h:f≠ .In:=by decide)(e:f≠ .NotIn:=by decide):behindInMarks f b=O:=by
 let a:(f==CmpOp.In)=O:=by cases f<;>first|rfl|trivial
 let d:(f==CmpOp.NotIn)=O:=by cases f<;>first|rfl|trivial
 cases b<;>simp[behindInMarks,a,d]
theorem CH(A:iy X (compareOp f) r)(C:PE X a t)(B:PE X b g)(o:behindInMarks f b=O):PE X (.Compare a [f] [b] m) (ly r t g):=by
 intro d s p H Q I h;show wpAny_Compare1 (YI C B I h λv u e x y i j z l q=>A d e p i x y v u Q j z l q) o
def Tm(t:TE):TT:=λd H Q=>t d H λx b=>ExB x λk=>Q k b
theorem AK(E:iy X (compareOp f) r)(g:PE X a C)(G:PE X b m)(q:behindInMarks f b=O):PT X (.Compare a [f] [b] w) (Tm (ly r C m)):=by
 intro d s i H Q I h
 show wpAny_isTrue_Compare1 (gH (g d s i H _ I h) λv F (x,M,A,t,q1)=>gH (G d F i M _ A q1) λu j (y,o,p,D,q2)=>
  gH (E d j i o x y v u _ p t D q2) λc s3 (z,l,B,r3,k,e,q3)=>?_) q
 subst e;cases r3;show zW (l,B,q3)
def Tn(r b:R2)(d f g:TE):TE:=λh H Q=>d h H λx j=>f h j λy l=>r x y l λz i=>∃k,z=.l k/\(if k=L then g h i λo m=>b y o m Q else Q (.l O) i)
theorem FI(m:iy X (compareOp d) r)(o:iy X (compareOp f) p)(g:PE X a q)(i:PE X b w)(j:PE X c z)
  (l:lastMarks [d,f] [b,c]=O:=by with_unfolding_all rfl):PE X (.Compare a [d,f] [b,c] ag) (Tn r p q w z):=by
 intro A s B H Q I h
 show Compare_chain (gH (g A s B H _ I h) λv s1 (x,G,P,r1,q1)=>chain_link (gH (i A s1 B G _ P q1) λu s2 (y,M,R,E,q2)=>
  gH (m A s2 B M x y v u _ R r1 E q2) λab s3 (al,C,D,r3,k,e,q3)=>?_)) l
 subst e;cases r3;apply zW;cases k with
 |false=>show ite_ff (.l O,C,D,rfl,q3)
 |true=>show ite_tt (chain_last (gH (j A s3 B C _ D q3) λw' s4 K=>by let(z',N,S,r4,T):=K;show o A s4 B N y z' u w' Q S E r4 T))
theorem FJ(m:iy X (compareOp d) r)(o:iy X (compareOp f) p)(g:PE X a ta)(i:PE X b tb)(j:PE X c tc)
  (l:lastMarks [d,f] [b,c]=O:=by with_unfolding_all rfl):PT X (.Compare a [d,f] [b,c] an) (Tm (Tn r p ta tb tc)):=by
 intro q s v H ag I h
 show isTrue_chain (gH (g q s v H _ I h) λab s1 (x,B,G,T,q1)=>test_link (gH (i q s1 v B _ G q1) λu s2 (y,C,M,A,q2)=>
  gH (m q s2 v C x y ab u _ M T A q2) λal s3 (ar,w,z,r3,k,e,q3)=>?_)) l
 subst e;cases r3;apply zW;cases k with
 |false=>
  let(k',e',q'):=q3;cases e';show ite_ff (w,z,q')
 |true=>
  show ite_tt (test_last (gH (j q s3 v w _ z q3) λw' s4 (z',D,N,r4,R)=>gH (o q s4 v D y z' u w' _ N A r4 R) λd' s5 V=>?_));let(z2,E,P,r5,k2,Q,S):=V;subst Q;cases r5;show zW (E,P,S)
theorem IV:(sizeLine:Nat)<2^63:=by trivial
theorem Bz:iy X (binaryOp .Add) (λx y H Q=>∃i j,x=.s i/\y=.s j/\i.9+j.9<=sizeLine/\Q (.s (i++j)) H):=by
 rintro a s o H x y v u Q I h e ⟨i,j,rfl,rfl,l,q⟩;let(t,rfl):=h;let(d,rfl):=e;show add_str (λd p=>(.s (i++j),H,I.96 _,(_,Y),q)) l
theorem Bq(r:Vals [x] b):∃u,b=[u]/\RelV x u:=by
 cases r with
 |cons d a=>cases a;ext
theorem HU(r:Vals [x,y] b):∃u a,b=[u,a]/\RelV x u/\RelV y a:=by
 cases r with
 |cons h d=>
  cases d with
  |cons r3 e=>cases e;grind
theorem R8(e:X.c=L):gP X (sV su) (λb H Q=>∃i j,b=[.t i,.t j]/\Q (.t (if j>i then j else i)) H):=by
 rintro d s p H b l Q I r ⟨i,j,rfl,q⟩;let(u,h,rfl,(t,rfl),(o,rfl)):=HU r;show max_two_ints (I.66 e) λv x k=>(_,H,I.75 k,?_,q);by_cases a:j>i
 ·rw[zf a,zf a];show(_,Y)
 ·rw[zg a,zg a];show(_,Y)
theorem R9(e:X.c=L):gP X (sV "min") (λb H Q=>∃i j,b=[.t i,.t j]/\Q (.t (if j<i then j else i)) H):=by
 rintro d s p H b l Q I r ⟨i,j,rfl,q⟩;let(u,h,rfl,(t,rfl),(o,rfl)):=HU r;show min_two_ints (I.66 e) λv x k=>(_,H,I.75 k,?_,q);by_cases a:j<i
 ·rw[zf a,zf a];show(_,Y)
 ·rw[zg a,zg a];show(_,Y)
theorem IW:gP X (sW sv) (λb H Q=>(∃i,b=[.t i]/\Q (.t i) H)\/∃k,b=[.l k]/\Q (.t (if k then 1 else 0)) H):=by
 intro a s j H b e Q I r h;let(i,rfl,q)||(k,rfl,q):=h
 ·let(u,rfl,t,rfl):=Bq r;show call_int_int (.t i,H,I,(_,Y),q)
 ·let(u,rfl,d):=Bq r;cases d;show call_int_bool (.t (if k then 1 else 0),H,I.96 _,(_,Y),q)
theorem Mc:gP X (sW "str") (λb H Q=>∃i,b=[.t i]/\i.87<1920/\Q (.s (toString i)) H):=by
 rintro a s h H b e Q I r ⟨i,rfl,d,q⟩;let(u,rfl,t,rfl):=Bq r;show PySem.P.str_of_int d (.s _,H,I.96 _,(_,Y),q)
structure ObjM(h:Heap)(x dx C:nq)(mA:SV):Prop where
 obj:h.14 x=U (W.instObj C dx)
 ns:h.Ns1 dx mA
 ne:dx≠x
theorem Lb{h:PySem.Heap}{l:SV}(n:h.Ns1 b l):∃p,h.14 b=U p/\∀d,W.lookIn d p=U (l d):=by
 let(o,j,ep,x,v,A,_,u):=n;show(o,x,λd=>?_);let e:=u d;unfold nsFind findBy at e;rw[←Array.find?_toList]at e;unfold W.lookIn;rw[v]
 dsimp only
 split
 ·rename_i y q;rw[q]at e;show congrArg U e
 ·rename_i q;rw[q]at e
  let a:j.toList.91 (·.refKey)=O:=by
   rw[List.any_eq_false];intro y B;let(z,t,i):=A y (_);simp[DictEntry.refKey,i]
  let r:¬ j.toList.91 (·.refKey)=L:=by rw[a];show tF
  rw[zg r];show congrArg U e
theorem ObjM.look(I:ObjM h x b C f):∃d,u5 h x (W.instObj C b) C (U d)/\∀a,W.lookIn a d=U (f a):=
 let(d,i,e):=Lb I.ns
 (d,(I.obj,rfl,rfl,i),e)
theorem WE(X:f.In s.16)(I:ObjM s.16 x m C g)(i:W.plainGet f C b=L)(l:W.hasDictIn f C=L)
  (e:uf f (sR C) b=U io) (j:g b=U v) (a:W.handedIn v=L) (h:Q v {s with toks:=s.57+1}):
  wpAny (model prog w) A (getAttr (sR x) b p) Q E s:=by
 let(o,J,d):=I.look;show W.get_value X J (W.plainGet_of i).1 (W.findObj_own l e Y (by rw[d,j])) a h
theorem To(X:g.In s.16)(I:ObjM s.16 x m C l)(a:W.plainGet g C b=L)
  (e:uf g (sR C) b=U (U (sR f))) (ht:W.isFn g (sR f)=L) (j:l b=io) (h:Q (sR f,([sR x])) s):
  wpAny (model prog w) A (getMethod (sR x) b pl) Q E s:=by
 let(d,J,i):=I.look;show W.method_fn X J (W.plainGet_of a).1 (W.plainGet_of a).2 e (beq_iff_eq.mp ht) (by change(W.lookIn b d).7 (·.24)=U O;ext) h
theorem WF(X:g.In s.16)(I:ObjM s.16 x D C G)
  (H:uf g (sR C) pH=U (U (sV oE))) (j:W.plainOver g C=L) (ht:W.takerIn g C m=U io) (r:W.hasDictIn g C=L)
  (M:PySem.Within G N) (P:N.9<=sizeLine)
  (h:∀f,ObjM f x D C (λy=>if y=m then U v else G y)->uG D s.16 f->Q ux {s with heap:=f,toks:=s.57+2}):
  wpAny (model prog w) A (setAttr (sR x) m v) Q E s:=by
 let(t,J,u):=I.look;show W.set_plain X J H (W.osa_open X J j ht λb=>?_);let(z,q,e):=W.any_some r;show zo (zn (zo (zo (wpAny_loadPart I.obj (zo (W.Looks.here (W.looks_clsIn X q) ?_))))));rw[e];show zn (zo (zn (zo (wpAny_nsSet1 I.ns λf d a=>?_))));let(B,o,l,hoD,i,p):=d.count (PySem.Within.cons m v M);show zo (wpAny_lookBehind hoD (by rw[i];show pastItsLine_dict (_)) (zn (h _ ((a.2 _ (sX I.ne)).6 I.obj,d,I.ne) a)))
theorem Nu(X:b.In s.16)(j:W.makesIn b C=L)
  (i:uf b (sR C) nV=U (U (sR f))) (e:W.typeIn b (sR f)=U (sW qU))
  (h:codeAny (model prog w) (A.under (wa pQ (sR C::vs,m))) (.call (sR f) (sR (s.8+1)::vs,m)) (W.InitBack (s.8+1) R)
   {s with heap:=(s.19 vW).71 (W.instObj C s.8)}):
  codeAny (model prog w) A (.call (sR C) (vs,m)) R s:=by
 let(o,g,d,t,l):=s;show W.make_core (W.makes_of X j) (vH X i) (λa=>W.bind_fn X a e) (sU Y) h
noncomputable def BD(f:Str)(v:V):List (Str×V)->List (Str×V)
  | []=>[(f,(v))]
  | (g,x)::r=>if g=f then (g,(v))::r else (g,(x))::BD f v r
theorem As(f g)(v):∀b,(BD f v b).5 g=if g=f then U v else b.5 g
  | []=>by
    change List.lookup g [(f,(v))]=_
    grind
  | (k,x)::r=>by
    rw[show BD f v ((k,(x))::r)=(if k=f then (k,(v))::r else (k,(x))::BD f v r)from rfl];by_cases a:k=f
    · rw[zf a]
      by_cases h:g=k
      · have d:=beq_iff_eq.49 h
        simp[List.lookup,d,zf (h.6 a)]
      · have d:=beq_eq_false_iff_ne.49 h
        simp[List.lookup,d,zg (λe:g=f=>h (e.6 a.31))]
    · rw[zg a]
      by_cases h:g=k
      · have d:=beq_iff_eq.49 h
        simp[List.lookup,d,zg (λe=>a (h.92 e))]
      · simp[List.lookup,beq_eq_false_iff_ne.49 h]
        show As f g v r
theorem IY(f)(v):∀b,f∈(BD f v b).7 (·.1)/\∀g,g∈b.7 (·.1)->g∈(BD f v b).7 (·.1)
  | []=>(by simp[BD],λg h=>by simp at h)
  | (k,x)::r=>by
    let(a,d):=IY f v r;rw[show BD f v ((k,(x))::r)=(if k=f then (k,(v))::r else (k,(x))::BD f v r)from rfl]
    grind
theorem Az(f)(v):∀b,(BD f v b).9<=b.9+1
  | []=>by simp[BD]
  | (k,x)::r=>by
    let d:=Az f v r;rw[show BD f v ((k,(x))::r)=(if k=f then (k,(v))::r else (k,(x))::BD f v r)from rfl];by_cases a:k=f
    · rw[zf a,length_cons,length_cons];ext
    · rw[zg a,length_cons,length_cons];ext
theorem iI.some_of(r:iI (U v) o):∃u,o=U u/\RelV v u:=by
 cases o with
 |none=>trivial
 |some u=>show(u,rfl,r)
theorem iI.none_of(r:iI J o):o=J:=by
 cases o with
 |none=>rfl
 |some u=>trivial
theorem Lc(r:RelV v u):W.handedIn u=L:=by
 cases v with
 |g=>cases (r);rfl
 |l b=>cases (r);rfl
 |t i=>let(t,e):=(r);cases e;rfl
 |s x=>let(t,e):=(r);cases e;rfl
 |kB b=>let(t,e):=(r);cases e;rfl
 |mw b=>let(t,e):=(r);cases e;rfl
 |r a=>cases (r);rfl
 |y n=>cases (r);rfl
theorem EZ(j:iG P w H h)(e:H a=U (.i C g b)):∃i,ObjM h a g C i/\(∀f,iI (b.5 f) (i f))/\PySem.Within i (b.7 (·.1))/\b.9<=1000/\H g=U (.a a):=by
 let(d,z,o,l,i,n,r,q):=(j a _ e);show(i,(l,n,o),r,q,z,d)
structure jz(K:FG)(C:nq):Prop where
 pg:W.plainGet K C Str.empty=L
 hd:W.hasDictIn K C=L
 po:W.plainOver K C=L
 sa:uf K (sR C) pH=U (U (sV oE))
theorem jz.get(c:jz b C)(f):W.plainGet b C f=L:=c.pg
def g9(b:FG)(C:nq)(f:Str):Prop:=uf b (sR C) f=U J
theorem g9.taker(n:g9 b C f):W.takerIn b C f=U J:=by
 unfold W.takerIn;rw[show uf b (sR C) f=U J from n];rfl
structure Pc(K:FG)(C:nq)(m:Str)(f:nq):Prop where
 at_:uf K (sR C) m=U (U (sR f))
 fn:W.isFn K (sR f)=L
 kp:vc K (sR f)=L
theorem Pd(I:Inv X g p H s)(e:H a=U (.i C q m))(c:jz X.K C)(n:g9 X.K C f)(l:m.5 f=U v)
  (h:∀u d,Inv X g p H d->RelV v u->Q u d):wpAny (model X.p X.w) A (getAttr (sR a) f b) Q E s:=by
 let(o,O,r,_,_,_):=EZ I.gA e;let(u,j,i):=iI.some_of (by rw[←l];show r f);show WE I.ip O (c.get f) c.hd n j (Lc i) (h u _ (I.96 _) i)
theorem J0(I:Inv X i j H s)(e:H a=U (.i C f b))(c:jz X.K C)(k:Pc X.K C m g)(l:b.5 m=J)
  (h:Q (sR g,([sR a])) s):wpAny (model X.p X.w) A (getMethod (sR a) m pl) Q E s:=by
 let(d,O,r,_,_,_):=EZ I.gA e;show To I.ip O (c.get m) k.at_ k.fn (iI.none_of (by rw[←l];show r m)) h
theorem Pe(I:Inv X N P H s)(e:H a=U (.i C w m))(c:jz X.K C)(n:g9 X.K C f)(M:m.9<1000)(R:RelV y u)
  (h:∀j,Inv X N P (upd H a (.i C w (BD f y m))) j->Q ux j):wpAny (model X.p X.w) A (setAttr (sR a) f u) Q E s:=by
 let(J,O,r,i,_,l):=EZ I.gA e;let t:(m.7 (·.1)).9<=sizeLine:=by rw[AN,sizeLine_eq];lia
 show WF I.ip O c.sa c.po n.taker c.hd i t λF d G=>h _ ?_;let B:∃o,F.get? w=U o:=by let(o,_,_,p,_):=d.ns;show (o,p)
 apply I.write (x:=a) (e:=w) (by rw[e];show uc) (sY l) (λb q D z=>(G.2 b D).6 z) B;show(by rw[AE O.ne];show l,?_,O.ne,d.obj,_,d.ns,λg=>?_,λg v=>?_)
 ·have:=Az f y m;lia
 ·rw[As];by_cases q:g=f
  ·rwa[zf q,zf q]
  ·rw[zg q,zg q];show r g
 ·by_cases q:g=f
  ·rw[q];show(IY f y m).1
  ·show(IY f y m).2 g (i g λz=>v ?_)
   ext
theorem Inv.made(I:Inv X f g H s):Inv X f g (upd (upd H s.8 (.a (s.8+1))) (s.8+1) (.i C s.8 []))
  {s with heap:=(s.19 vW).71 (W.instObj C s.8)}:=by
 let a:(s.19 vW).14 s.8=U vW:=zK s.16 rfl
 let i:((s.19 vW).71 (W.instObj C s.8)).14 (s.8+1)=U (W.instObj C s.8):=by
  have:=zK (s.19 vW) (o:=W.instObj C s.8) rfl
  rwa[u9]at this
 show(I.laid (o:=.a (s.8+1)) (t':=s.57) (λb u q=>zU _ q) (zp _) (_,a)).laid (λb u q=>zU _ q) (_) ?_;let d:s.8≠s.8+1:=zu (_);show(by rw[AE d,fH],tH _,d,i,λ_=>J,(Heap.Ns1.of_empty ((vW,#[],_,a,Y,(λe j=>absurd j (_)),λ_=>rfl))).at λo q=>zU _ q,λ_=>uc,λy h=>absurd Y h)
theorem Ql(d:attributeBase e f b (eval e b)=eval e b)
  (h:wpAny (model prog w) A (eval e b) (λo a=>wpAny (model prog w) A (getAttr o f L) Q E a) E s):wpAny (model prog w) A (eval (tR e f g) b) Q E s:=
 Attribute_any_ h (by rw[arm_eval_Attribute,d])
inductive ExF(b:FG)(x:V)(H:Hp)(f:Str)(k:V->Prop):Prop
 |mk (a C dx) (fs) (v) (d:x=.r a) (g:H a=U (.i C dx fs)) (h:jz b C) (i:g9 b C f) (j:fs.5 f=U v) (q:k v):ExF b x H f k
def Zp(d:FG)(b:TE)(f:Str):TE:=λh H Q=>b h H λx g=>ExF d x g f λv=>Q v g
def ck(b:FG)(d g:TE)(f:Str):TS:=λD i H=>g i H λy m=>d i m λx j=>E₄ λa C l h=>C₆ (x=.r a) (j a=U (.i C l h)) (jz b C) (g9 b C f) (h.9<1000) (D.nx i (upd j a (.i C l (BD f y h))))
theorem Ac(o:PE X e t)(A:attributeBase e f X.e (eval e X.e)=eval e X.e):PE X (tR e f b) (Zp X.K t f):=by
 intro d s r H Q I h;show Ql A (gH (o d s r H _ I h) λu g w=>?_);let(x,B,p,y,a,C,F,m,v,z,i,c,n,l,q):=w;subst z;obtain rfl:u=sR a:=y;show Pd p i c n l λG E j D=>(v,B,j,D,q)
theorem B0(G:PE X o A)(t:PE X b P)(g:swapsWith b (U (tR o f w)) m.70 X.e=pure O):PS X (vn [tR o f w] b m) (ck X.K A P f):=by
 intro d s e H D I h;show plainObj_wpAny_Assign_Attribute (gH (t d s e H _ I h) λu F (y,Q,v,r,q)=>gH (G d F e Q _ v q) λi R K=>?_) g;let(x,M,p,B,a,C,N,S,E,j,c,n,l,q2):=K;subst E;obtain rfl:i=sR a:=B;show Pe p j c n l r λs3 z=>(e,_,z,q2)
inductive iS(d:FG)(H:Hp):V->Value->Prop where
 |gJ:iS d H .g (sW "NoneType")
 |bl (x):iS d H (.l x) (sW "bool")
 |b (i):iS d H (.t i) (sW sv)
 |s (x):iS d H (.s x) (sW "str")
 |mw (x):iS d H (.mw x) (sW "float")
 |lst {a}{xs} (e:H a=U (.l xs)):iS d H (.r a) (sW oq)
 |ib {a}{o}{xs} (e:H a=U (.b o (.l xs))):iS d H (.r a) (sW oq)
 |t {a}{xs} (e:H a=U (.t xs)):iS d H (.r a) (sW oB)
 |dK {a}{kvs} (e:H a=U (.d kvs)):iS d H (.r a) (sW oK)
 |dT {a}{kvs} (e:H a=U (.h kvs)):iS d H (.r a) (sW oK)
 |ins {a C dx}{fs} (e:H a=U (.i C dx fs)) (f:jz d C) (g:uf d (sR C) qh=U (U (sV nA)))
   (j:W.specialIn d (sV nA) qB=U (U (sV oj))) (l:W.takesIn d (sV nA)=U L)
   (h:vt d C (sW pA)=U L):iS d H (.r a) (sR C)
theorem Ld(I:Inv X fb σ H s)(j:RelV x u)(ty:iS X.K H x t)(e:vq X.K t c=some b)(h:∀tk,Q (uO b) {s with toks:=tk}):
  wpAny (model X.p X.w) A (call (sV oI) [u,c]) Q E s:=by
 cases ty with
 |gJ=>cases (j);show vb W.kitx_none I.ip uc e (λz=>nomatch z) h
 |bl y=>cases (j);show vb W.kitx_bool I.ip uc e (λz=>nomatch z) h
 |b i=>let(t,q):=(j);cases q;show vb W.kitx_int I.ip uc e (λz=>nomatch z) h
 |s y=>let(t,q):=(j);cases q;show vb W.kitx_str I.ip uc e (λz=>nomatch z) h
 |mw y=>let(t,q):=(j);cases q;show vb W.kitx_float I.ip uc e (λz=>nomatch z) h
 | @lst a D d=>
  cases (j);let(_,_,n,_,l):=(I.gA a _ d);show vb W.kitx_list I.ip (_,l,rfl) e (λz=>nomatch z) h
 | @ib a U D d=>
  cases (j);let(_,_,_,n,_,l):=(I.gA a _ d);show vb W.kitx_list I.ip (_,l,rfl) e (λz=>nomatch z) h
 | @t a D d=>
  cases (j);let(_,_,_,p):=(I.gA a _ d);let(o,l,r,_):=p;show vb W.kitx_tuple I.ip (o,l,r) e (λz=>nomatch z) h
 | @dK a v d=>
  cases (j);let(_,_,vs,_,p):=(I.gA a _ d);let(o,G,ep,l,r,_):=p;show vb W.kitx_dict I.ip (o,l,r.1) e (λz=>nomatch z) h
 | @dT a v d=>
  cases (j);let(_,_,D,_,o,G,ep,l,r,_):=(I.gA a _ d);show vb W.kitx_dict I.ip (o,l,r.1) e (λz=>nomatch z) h
 | @ins a C S fs d F N L B M=>
  cases (j);let(R,O,_):=EZ I.gA d;let(T,J,_):=O.look;show vb (W.kitx_own (F.get _) F.hd N L B M) I.ip J e (λz=>nomatch z) h
structure gD(k:Nat)(A:Around):Prop where
 hd:A.41=J
 dp:A.depth+3*k+5<recursionLimit
 un:A.42+16*k+200<cLine
theorem gD.mono{j k}(r:gD k A)(h:j<=k):gD j A:=(r.hd,by have:=r.dp;lia,by have:=r.un;lia)
theorem gD.deeper(r:gD (k+1) A)(a):gD k (A.55 a):=
 (r.hd,by have:=r.dp;change A.depth+1+3*k+5<_;lia,by have:=r.un;change A.42+3+16*k+200<_;lia)
theorem gD.in1(r:gD (k+1) A):gD k A.in1:=
 (r.hd,by have:=r.dp;change A.depth+3*k+5<_;lia,by have:=r.un;change A.42+1+16*k+200<_;lia)
theorem Pf{A:PySem.Around}:(A.under (wa pQ (sR C::d,b))).depth=A.depth+1:=by
 rfl
theorem Pg{A:PySem.Around}:(A.under (wa pQ (sR C::d,b))).42=A.42+1:=by
 rfl
theorem gD.make{k}(r:gD (k+1) A)(C)(a)(d):gD k (A.under (wa pQ (sR C::a,d))):=
 (r.hd,by have:=r.dp;rw[Pf];lia,by have:=r.un;rw[Pg];lia)
theorem gD.depth(r:gD k A):A.depth<recursionLimit:=by have:=r.dp;lia
theorem gD.units(r:gD k A):A.42+64<cLine:=by have:=r.un;lia
def Cz:TA:=λ_ H Q=>Q [] H
def A3(b:TE)(tr:TA):TA:=λd H Q=>b d H λx f=>tr d f λh g=>Q (x::h) g
theorem AG:PA X [] Cz:=λ_ _ _ _ H Q I h=>Calls.spliced_nil ([],H,I,tO,h)
abbrev jC(X:Cx)(e:PySem.Expr)(b:List PySem.Expr):Prop:=starEach (e::b) X.e=(O,(eval e X.e))::starEach b X.e
theorem AA(y:PE X e f)(l:PA X b t)(hs:jC X e b:=by rfl):PA X (e::b) (A3 f t):=by
 intro d a s i H Q I h;rw[hs];show Calls.spliced_cons (gH (y a s i H _ I h) λu v w=>?_);let(x,A,q,p,q1):=w;show gH (l d a v i A _ q q1) λC B k=>by let(z,j,o,r,q2):=k;show (x::z,j,o,tP p r,q2)
theorem gX(h:PE X a d)(b:starEach [a] X.e=(O,(eval a X.e))::starEach [] X.e:=by rfl):PA X [a] (A3 d Cz):=AA h AG b
def YN(t:TA):TE:=λf H Q=>t f H λd b=>d.9<=sizeLine/\∀p,b p=J->Q (.r p) (upd b p (.t d))
def YO(t:TA):TE:=λf H Q=>t f H λd b=>d.9<=sizeLine/\∀p,b p=J->Q (.r p) (upd b p (.l d))
theorem Af(h:PA X f t):PE X (uV f m g) (YN t):=by
 intro a s o H Q I l;show wpAny_Tuple_spliced (gH (h g a s o H _ I l) λj i (p,v,d,r,z,q)=>(by rw[←r.9];show z,(.r i.8,upd v i.8 (.t p),d.laid (λb u e=>zU _ e) (zp _) ?_,Y,q _ (d.18 (zp _)))));show(z,j,r,(_,zK _ Y,Y,7))
theorem BA(h:PA X f t):PE X (.List f g) (YO t):=by
 intro a s o H Q I l;show wpAny_List_spliced (gH (h g a s o H _ I l) λj i (p,v,d,r,z,q)=>(by rw[←r.9];show z,(.r i.8,upd v i.8 (.l p),d.laid (λb u e=>zU _ e) (zp _) ?_,Y,q _ (d.18 (zp _)))));show(z,j,0,r,zK _ Y)
abbrev Sp:=nk->Hp->VK->XK->Prop
abbrev CXT:=List Env->Hp->nr->XK->Value->nr->Prop
structure iT(P:Program)(w:World)(K:FG)(mg:SV)(base:Heap)(A:Around)(outer:List Env)(s:nr)(H:Hp):Prop where
 frames:A.46=U outer
 mod:Mod K mg base
 bs:∀b o,base.14 b=U o->s.3 b=U o/\H b=J
 jG:base.10<=s.8
 iu:s.36 base outer
 jY:∀b∈iz outer,H b=J
 gA:iG P w H s.16
 bare:AllBare s.gens
def CE(d:List Env)(P:Program)(w:World)(H:Hp)(s:nr)(Q:VK)(u:Value)(b:nr):Prop:=
 ∃v f,b.os=s.os/\AllBare b.gens/\Un (iz d) [] H f s.16 b.16/\iG P w f b.16/\RelV v u/\Q v f
def CR(f:CXT)(b:List Env)(P:Program)(w:World)(H:Hp)(s:nr)(Q:VK)(E:XK)(r:Result)(d:nr):Prop:=
 match r with
 |.ok (.ret u)=>CE b P w H s Q u d
 |.ok _=>False
 |.error e=>f b H s E e d
structure AT(P:Program)(w:World)(K:FG)(mg:SV)(base:Heap)(CX:CXT)(k:Nat)(f:nq)(fd:FuncData)(ps:ni)(sp:Sp):Prop where
 len:∀vs H Q E,sp vs H Q E->vs.9=ps.9
 run:∀A outer s H b us vs Q E,gD k A->iT P w K mg base A outer s H->BindsTo s fd b (ps.zip us)->Vals vs us->sp vs H Q E ->
  codeAny (model P w) A (.call (sR f) b) (CR CX outer P w H s Q E) s
theorem iT.make(e:iT P w h f b A g s H)(C)(a)(d):
  iT P w h f b (A.under (wa pQ (sR C::a,d))) g s H:=(by first|show e.46| (simpa[Code.envs,pushEnvs]using e.46),e.mod,e.bs,e.jG,e.iu,e.jY,e.gA,e.74)
theorem iT.in1(e:iT P w g d b A f s H):
  iT P w g d b A.in1 f s H:=(e.46,e.mod,e.bs,e.jG,e.iu,e.jY,e.gA,e.74)
theorem Inv.jE(I:Inv X b d H s):iT X.p X.w X.K X.m X.b X.A X.s s H:=
 (I.ok.46,I.ok.mod,I.bs,tT I.ok.jG I.sz,I.stack,I.stkFree,I.gA,I.74)
theorem Inv.after(I:Inv X m p H s)(h:CE X.s X.p X.w H s Q u f):EP X m p Q u f:=by
 let(v,l,j,a,un,e,r,q):=h;let(o,g,d,t,i):=f;obtain rfl:i=s.os:=j;show(v,l,I.call un e a (λb z=>absurd z (_)),r,q)
def Ny(d:Sp)(b:nk)(E:XK)(t:TA):TE:=λg H Q=>t g H λvs f=>d (vs++b) f Q E
inductive nh(C:nq)(m:Str)(x:V)(H:Hp)(k:Prop):Prop
 |mk (a dx) (fs) (b:x=.r a) (d:H a=U (.i C dx fs)) (f:fs.5 m=J) (q:k):nh C m x H k
def Le(C:nq)(m:Str)(d:Sp)(b:nk)(E:XK)(f:TE)(t:TA):TE:=λh H Q=>f h H λx g=>nh C m x g (t h g λvs i=>d (x::(vs++b)) i Q E)
def Tp(C:nq)(d:Sp)(b:nk)(E:XK)(t:TA):TE:=λi H Q=>t i H λvs g=>∀x f,g x=J->g f=J->f≠x ->
 d (.r x::(vs++b)) (upd (upd g f (.a x)) x (.i C f [])) (λv h=>v=.g/\Q (.r x) h) E
def Binds(g:FG)(f:FuncData)(d:ni)(b:nj):Prop:=
 ∀s h,g.In s.16->(h++b).9=d.9->BindsTo s f (h,[]) (d.zip (h++b))
theorem Binds.all{b}(h:∀a,a.9=b.9->bindArgs f (a,[])=pure (b.zip a)):Binds g f b []:=λs a _ d=>by
 rw[zj]at d ⊢;show .of_eq (h a d)
def Bc(b:CXT)(X:Cx)(E:XK):Prop:=∀f(g:St)H s e d,Inv X f g H s->b X.s H s E e d->X.x e d
theorem Md(F:AT X.p X.w X.K X.m X.b y k f z v A)(t:gD k X.A)(j:Binds X.K z v g)(p:Vals d g)(o:Bc y X E)
  (I:Inv X m w H s) (r:Vals vs b) (h:A (vs++d) H Q E):ik X (call (sR f) b) (EP X m w Q) X.x s:=by
 let i:=r.append p;let l:(b++g).9=v.9:=by rw[←i.9];show F.len _ _ _ _ h
 show wpAny_call (codeAny_mono (F.run X.A X.s s H (b,[]) (b++g) (vs++d) Q E t I.jE (j s b I.ip l) i h) λr q a=>?_);cases r with
 |error e=>show o m w H s e q I a
 |ok fl=>
  cases fl with
  |ret u=>show I.after a
  |next=>show tQ a
  |brk=>show tQ a
  |cont=>show tQ a
theorem A5{k}{m}(F:AT X.p X.w X.K X.m X.b w k f P m R)(o:gD k X.A)(A:Gl X x)(u:X.m x=U (sR f))(C:vc X.K (sR f)=L)(D:Binds X.K P m N)(B:Vals d N)(v:Bc w X E)
  (G:PA X (e::b) t) (i:jg x:=by decide) (y:jC X e b:=by rfl) (j:(backTo g (starEach b X.e)).91 (·.1)=O:=by rfl):
  PE X (uJ (tI x p) (e::b) [] g) (Ny R d E t):=by
 intro a s z H Q I h;show zZ (Ci I A u (vJ I.85 C (gH (G g a s z H _ I h) λS T (vs,M,l,r,q)=>(l.ip,?_)) y j) i);show Md F o D B v l r q
theorem DB(P:PE X o M)(c:jz X.K C)(z:Pc X.K C m f)(F:AT X.p X.w X.K X.m X.b w k f fd ps sp)(G:gD k X.A)(T:Binds X.K fd ps ds)(N:Vals i ds)(Q:Bc w X E)(ab:PA X (e::g) t)
  (j:jC X e g:=by rfl) (p:(backTo b (starEach g X.e)).91 (·.1)=i7:=by rfl)
  (ht:eval (uJ (tR o m u) (e::g) [] b) X.e=(do
   let v ←eval o X.e
   standAt u.atName
   let (f,first) ←holding [v] (getMethod v m pl)
   callWith b f first (backTo b (starEach (e::g) X.e)) (backToKw b (keywordEach [] X.e))):=by rfl):
  PE X (uJ (tR o m u) (e::g) [] b) (Le C m sp i E M t):=by
 intro d s B H ar I h;show W.methodCall_KW (gH (P d s B H _ I h) λan S n=>?_) ht;let(x,al,A,ag,a,dx,fs,R,D,l,q):=n;subst R;obtain rfl:an=sR a:=ag;apply J0 A D c z l;show vJ I.85 z.kp (gH (ab b d S B al _ A q) λus as K=>by let(vs,H2,y,r,q2):=K;show (y.ip,Md (vs:=.r a::vs) F G T N Q y (tP zd r) q2)) j p
theorem Br{k}{w}{m}(v:PE X o A)(c:jz X.K C)(p:Pc X.K C m f)(F:AT X.p X.w X.K X.m X.b P k f T w sp)(t:gD k X.A)(R:Binds X.K T w S)(B:Vals e S)(y:Bc P X E)
  (ht:eval (uJ (tR o m g) [] [] b) X.e=(do
   let j ←eval o X.e
   standAt g.atName
   let (f,first) ←holding [j] (getMethod j m pl)
   callWith b f first (backTo b (starEach [] X.e)) (backToKw b (keywordEach [] X.e))):=by rfl):
  PE X (uJ (tR o m g) [] [] b) (Le C m sp e E A Cz):=by
 intro d s z H Q I h;show W.methodCall_KW (gH (v d s z H _ I h) λu M n=>?_) ht;let(x,N,i,D,a,ab,fs,G,r,l,q):=n;subst G;obtain rfl:u=sR a:=D;apply J0 i r c p l;show W.callWith_K0 i.ip p.kp (Md (vs:=[.r a]) F t R B y i (tP Y tO) q)
structure Mk(K:FG)(C f:nq):Prop where
 makes:W.makesIn K C=L
 init:uf K (sR C) nV=U (U (sR f))
 fn:W.isFn K (sR f)=L
 kp:vc K (sR C)=L
theorem Nz(M:Mk X.K C f)(F:AT X.p X.w X.K X.m X.b P k f S w T)(q:gD (k+1) X.A)(R:Binds X.K S w g)(D:Vals d g)
  (t:Bc P X E) (I:Inv X m N H s) (r:Vals vs b)
  (h:∀x j,H x=io->H j=io->j≠x->T (.r x::(vs++d)) (upd (upd H j (.a x)) x (.i C j [])) (λv p=>v=.g/\Q (.r x) p) E):
  ik X (call (sR C) b) (EP X m N Q) X.x s:=by
 let l:=h (s.8+1) s.8 (I.18 (uX _)) (I.18 (zp _)) (_);let i:=Inv.made (C:=C) I;let o:Vals (V.r (s.8+1)::(vs++d)) (sR (s.8+1)::(b++g)):=tP rfl (r.append D)
 let B:(sR (s.8+1)::b++g).9=w.9:=by
  let e:=o.9;rw[F.len _ _ _ _ l]at e;show e.31
 show wpAny_call (Nu I.ip M.makes M.init (beq_iff_eq.mp M.fn) (codeAny_mono (F.run _ X.s _ _ (sR (s.8+1)::b,[]) (sR (s.8+1)::(b++g)) _ _ E (q.make C b [])
  (i.jE.make C b []) (R _ (sR (s.8+1)::b) i.ip B) o l) λr y a=>?_))
 cases r with
 |error e=>show t m N _ _ e y i a
 |ok fl=>
  cases fl with
  |ret u=>
   let(v,z,A,J,G,q3):=i.after a;subst G;show(J,(V.r (s.8+1),z,A,Y,q3))
  |next=>show tQ a
  |brk=>show tQ a
  |cont=>show tQ a
theorem Fy{k}{m}(M:Mk X.K C f)(F:AT X.p X.w X.K X.m X.b w k f R m S)(o:gD (k+1) X.A)(A:Gl X x)(u:X.m x=U (sR C))(D:Binds X.K R m P)(B:Vals d P)(v:Bc w X E)
  (G:PA X (e::b) t) (i:jg x:=by decide) (y:jC X e b:=by rfl) (j:(backTo g (starEach b X.e)).91 (·.1)=O:=by rfl):
  PE X (uJ (tI x p) (e::b) [] g) (Tp C S d E t):=by
 intro a s z H Q I h;show zZ (Ci I A u (vJ I.85 M.kp (gH (G g a s z H _ I h) λT ab (vs,N,l,r,q)=>(l.ip,?_)) y j) i);show Nz M F o D B v l r q
theorem Tq(M:Mk X.K C f)(F:AT X.p X.w X.K X.m X.b b k f m u v)(r:gD (k+1) X.A)(o:Gl X x)(j:X.m x=U (sR C))(i:Binds X.K m u g)(q:Vals d g)(l:Bc b X E)
  (a:jg x:=by decide):PE X (uJ (tI x p) [] [] w) (Tp C v d E Cz):=by
 intro e s t H Q I h;show zZ (Ci I o j (W.callWith_K0 I.ip M.kp (Nz M F r i q l I tO h)) a)
def PK(X:Cx)(b:List Keyword)(t:TA):Prop:=
 ∀g f s(d:St)H Q,Inv X f d H s->t d H Q->ik X (evalAll ((backToKw g (keywordEach b X.e)).7 (·.2))) (AP X f d Q) X.x s
theorem Me:PK X [] Cz:=λ_ _ _ _ H Q I h=>wpAny_evalAll_nil ([],H,I,tO,h)
theorem Jm(z:PE X e b)(o:PK X d t):PK X ((nm,e,kpos)::d) (A3 b t):=by
 intro i a s j H Q I h;show wpAny_evalAll_cons (zo (gH (z a s j H _ I h) λu y w=>by let(x,B,r,q,q1):=w;show zo (zG (zn (gH (o i a y j B _ r q1) λD C k=>by let(A,l,p,v,q2):=k;show (x::A,l,p,tP q v,q2))))))
structure Ph(K:FG)(fd:FuncData)(ps ks:ni)(g:nj->nj->nj)(gV:nk->nk->nk):Prop where
 to:∀s us ws,K.In s.16->(g us ws).9=ps.9->BindsTo s fd (us,ks.zip ws) (ps.zip (g us ws))
 rel:∀{vs}{us}{b}{ws},Vals vs us->Vals b ws->Vals (gV vs b) (g us ws)
structure AI(N P:ni)(sc:Scope):Prop where
 kind:sc.60=uR
 co:sc.97=O
 gen:sc.98=O
 nd:N.26
 pre:N.12 P.9=P
 par:∀x∈P,sc.13 x=U uo\/sc.13 x=U uz
 nofree:∀y∈sc.53,y.2≠ ub
theorem gQ(a:h.60=uR:=by show rfl)(b:h.97=O:=by show rfl)(c:h.98=O:=by show rfl)(d:N.26:=by decide +kernel)(e:N.12 P.9=P:=by show rfl)(f:∀x∈P,h.13 x=U uo\/h.13 x=U uz:=by decide +kernel)(g:∀y∈h.53,y.2≠ ub:=by decide +kernel):AI N P h:=(a,b,c,d,e,f,g)
theorem Lf{a}{x}:∀{binds}{m:SV},(∀v,(x,(v))∉ binds)->bindL a binds m x=m x
  | [],_,_=>rfl
  | (n,v)::r,m,h=>by
    unfold bindL;rw[Lf λw d=>h w (_)];split
    · grind
    · rfl
theorem Lg{a}{x}:∀{binds}{m:SV},(∀v,(x,(v))∉ binds)->bindC a binds m x=m x
  | [],_,_=>rfl
  | (n,v)::r,m,h=>by
    unfold bindC;rw[Lg λw d=>h w (_)];split
    · rfl
    grind
theorem Lh{a}:∀{P:ni}{vs}{i:Nat}{m:SV},P.26->P[i]?=U x->vs[i]?=U v->a x=U uo ->
  bindL a (P.zip vs) m x=U v
 | [],_,_,_,_,h,_,_=>by simp at h
 |_::_,[],_,_,_,_,h,_=>by simp at h
 |p::P,w::vs,0,m,j,b,f,g=>by
  simp at b f;subst b;subst f;change bindL a ((p,(w))::P.zip vs) m p=_;unfold bindL;rw[Lf λv d=>(zi.mp j).1 (of_mem_zip d).1,zf g];simp
 |p::P,w::vs,i+1,m,j,b,f,g=>by
  unfold bindL;show Lh (zi.mp j).2 (_) (_) g
theorem Li{a}:∀{P:ni}{vs}{i:Nat}{m:SV},P.26->P[i]?=U x->vs[i]?=U v->a x≠U uo ->
  bindC a (P.zip vs) m x=U v
 | [],_,_,_,_,h,_,_=>by simp at h
 |_::_,[],_,_,_,_,h,_=>by simp at h
 |p::P,w::vs,0,m,j,b,f,g=>by
  simp at b f;subst b;subst f;change bindC a ((p,(w))::P.zip vs) m p=_;unfold bindC;rw[Lg λv d=>(zi.mp j).1 (of_mem_zip d).1,zg g];simp
 |p::P,w::vs,i+1,m,j,b,f,g=>by
  unfold bindC;show Li (zi.mp j).2 (_) (_) g
noncomputable def start(N:ni)(vs:nk):St:=vs.7 U++tJ (N.9-vs.9) J
noncomputable def CN(h:CXT)(P:Program)(w:World)(q:FG)(l:SV)(j:Heap)(N:ni)(qual:Str)(scope:Scope)(f:nq)(d:Value)(A:Around)(g:List Env)(s:nr)(H:Hp)(E:XK):Cx where
 p:=P
 w:=w
 K:=q
 m:=l
 b:=j
 A:=A.55 (envOfC qual scope s.8 f d)
 N:=N
 hZ:=s
 i:=H
 e:=envOfC qual scope s.8 f d
 o:=g
 s:=envOfC qual scope s.8 f d::g
 a:=[]
 c:=L
 fn:=λ_=>L
 n:=[]
 x:=λe v=>wpAny (model P w) (A.55 (envOfC qual scope s.8 f d)) (leaving (envOfC qual scope s.8 f d) e) (λ_ r=>h g H s E e r) (λu r=>h g H s E u r) v
theorem N0{b:Scope}(h:b.13 x=U uz):∃c,(cellsFrom n b.53 []).5 x=U c:=by
 show uD.mp (W.cellsFrom_some b.53 n [] (sU h))
theorem IZ          
  (S:AI N g scope) (I:A.41=io) (d:iT P w ab R Q A T s H) (an:vs.9=g.9) (r:Vals vs X)
  (x:InCallC s s.8 (bindL (envOfC qual scope s.8 f m).kindOf (g.zip X) λ_=>io) (cellsFrom (s.8+1) scope.53 []) (bindC (envOfC qual scope s.8 f m).kindOf (g.zip X) λ_=>io) s1):
  Inv (CN CX P w ab R Q N qual scope f m A T s H E) [] (start N vs) H s1:=by
 let M:g.9<=N.9:=by have:=congrArg vO S.pre;rw[zr]at this;lia
 let(C,ar,rfl,G):=x.done;let j:∀b,b∉ (CN CX P w ab R Q N qual scope f m A T s H E).a:=λb z=>absurd (show b∈([])from z) (_)
 show((d.mod,S.60,Y,Y,zp _,λy z c C l=>?_,λy t=>?_,λy c _ h=>?_,λ_=>I,Around.frames_deeper d.46,sY (Y,Y),λb z=>absurd z (j b),d.bs,d.jG,λb _ _=>j b,λb z=>absurd z (j b),d.iu,d.jY),
  rfl,d.74,Un.kept G,(_,x.toInCall.ns,λi y v C l al=>?_),λy c h=>(_,x.84 y c h),d.18 (zp _),λy c h=>?_,λp B=>absurd (show p∈([])from B) (_),d.gA.75 G,?_)
 ·show name_of_addr x.apart (vi C) (vi l)
 ·let t||t:=t
  ·show N0 t
  ·show absurd Y (S.nofree _ (vi t))
 ·show sZ (x.above y c (vi h))
 ·have F:i<vs.9:=by
   unfold start at l;by_cases F:i<vs.9
   ·show F
   ·grind
  let ag:vs[i]?=U v:=by
   unfold start at l;rw[List.getElem?_append_left (_)]at l;cases e:vs[i]? with
   |none=>ext
   |some a=>ext
  let(u,D,J):=r.get ag
  let B:g[i]?=U y:=by
   rwa[←S.pre,List.getElem?_take_of_lt ()]
  let o:g.26:=by rw[←S.pre];show S.nd.sublist (_)
  show(u,J,?_);let k||k:=S.par y (by grind)
  ·show sU (k,Lh o B D k)
  ·let(c,e):=N0 k;show sY (sU k,c,e,?_);let q:=x.84 y c e
   rwa[Li o B D (by change scope.13 y≠_;ext)]at q
 ·show d.18 (sZ (x.above y c (vi h)))
 ·unfold start;change _=N.9
  ext
theorem Qm{P}{w}{l:FG}{r}{mg}{p}{k}{f}{an qual}{a}{h}{scope}{ab kV F al d R oc}{T od}
  {ar}{N m}{sp} (lk:l.5 f=U (oc,od,.func (W.fnOf an qual a h scope ab kV F al T d R),ar)) (as:W.codeIn l d qual=iY) (S:AI N m scope)
  (len:∀vs H Q E,sp vs H Q E->vs.9=m.9)
  (aC:∀A j s H vs Q E,gD k (A.55 (envOfC qual scope s.8 f d))->sp vs H Q E ->
   ∃t,iZ (CN p P w l mg r N qual scope f d A j s H E) h t/\t {nx:=λ_ g=>Q .g g,rt:=Q} (start N vs) H):
  AT P w l mg r p (k+1) f (W.fnOf an qual a h scope ab kV F al T d R) m sp:=by
 show(len,λA j s H aR us vs Q E G B hb aM D=>?_);let hl:=len _ _ _ _ D;let X:=B.mod.jO.80 λb o e=>(B.bs b o e).1
 let az:∀y∈m.zip us,scope.13 y.1=U uo\/(scope.13 y.1=U uz/\((cellsFrom (s.8+1) scope.53 []).5 y.1).24=iY):=λ(n,v) hy=>by
  let q||q:=S.par n (of_mem_zip hy).1
  ·ext
  ·show sY (q,W.cellsFrom_some _ _ _ (sU q))
 show codeAny_call_function G.depth (X _ _ lk) Y S.co S.gen Y (W.codeRec_of X as) (hb _ _ _ _ (wpAny_newFunctionEnv_cells S.60 az λa0 he s1 x=>?_));subst he;show((B.mod.nolimit.80 λb o e=>(B.bs b o e).1).80 x.toInCall.32,codeAny_func ?_);let(t,ht,hq):=aC A j s H vs Q E (G.55 _) D;show zm (ht [] s1 (start N vs) H _ (IZ S G.hd B hl aM x) hq) (λfl I z=>?_) λe I z=>z
 let C:∀{i:St}{g:Hp}{v:V}{u:Value},Inv (CN p P w l mg r N qual scope f d A j s H E) [] i g I->RelV v u->Q v g->CE j P w H s Q u I:=
  λ{i g v u}ag M q=>(v,g,ag.os,ag.74,ag.base,ag.gA,M,q)
 cases fl with
 |ret u=>
  let(v,i,g,ag,M,q):=z;show C ag M q
 |next=>
  let(i,g,ag,q):=z;show C (v:=V.g) ag Y q
 |brk=>
  let(_,_,_,q):=z;show tQ q
 |cont=>
  let(_,_,_,q):=z;show tQ q
def tCB(r:nk->Hp->VK->Prop)(t:TA):TE:=λd H Q=>t d H λvs b=>r vs b Q
theorem AS{X}{d}{x}{e}{p}{i}{t}{id}{r}(y:gP X (sV id) r)(D:Gl X x)(u:X.m x=J)(A:bootBuiltins x=U (sV id))(F:PA X (e::i) t)(q:x≠ oQ:=by decide)(j:jg x:=by decide)
  (v:jC X e i:=by rfl) (l:(backTo d (starEach i X.e)).91 (·.1)=O:=by rfl):PE X (uJ (tI x p) (e::i) [] d) (tCB r t):=by
 intro a s o H Q I h;show zZ (Gf I D u A (PyProof.Rows.callWith_builtin1 (gH (F d a s o H _ I h) λC E w=>by let(vs,G,B,z,q1):=w;show y a E o G vs C Q B z q1) v l) q j)
theorem A0{T}(u:gP X (sW T) r)(B:Gl X x)(o:X.m x=J)(y:bootBuiltins x=U (sW T))(D:PA X (e::b) t)(l:x≠ oQ:=by decide)(d:jg x:=by decide)
  (q:jC X e b:=by rfl) (i:(backTo f (starEach b X.e)).91 (·.1)=O:=by rfl):PE X (uJ (tI x p) (e::b) [] f) (tCB r t):=by
 intro a s j H Q I h;show zZ (Gf I B o y (vE (gH (D f a s j H _ I h) λA C w=>by let(vs,E,z,v,q1):=w;show u a C j E vs A Q z v q1) q i) l d)
end
end L2
namespace HT
open PySem PyProof.Rows
theorem cat_tup(ht:IsTup s.16 t vs.11)(z:IsTup s.16 b f.11)(B:vs≠ [])
  (u:f=[]->Q (sR t) s) (v:f≠ []->Q (sR s.8) {s with heap:=s.19 {cls:=sW oB,data:=uW (vs++f).11}})
  (g:vs.9+f.9<=sizeLine):wpAny (model prog w) A (binaryOp .Add (sR t) (sR b)) Q E s:=by
 let((cls,p,data,sl),h,x,n,y):=id ht;let((q,d,j,i1),a,i,r,o):=id z;subst x y i o;let e:vs.11++f.11=(vs++f).11:=by simp
 by_cases l:f=[]
 ·show concat_meets (_,h,Y) (_,a,Y) noFill_tuple_add seq_tuple_add slot_tuple_add entry_tuple_add (args_tuple_add_2 _ _)
   (tuple_addW1 t b vs.11 f.11 n r p d sl i1 (_) (by simp[l])) (h,a,u l)
 ·show concat_meets (_,h,Y) (_,a,Y) noFill_tuple_add seq_tuple_add slot_tuple_add entry_tuple_add (args_tuple_add_2 _ _)
   (tuple_addW2 t b vs.11 f.11 n r p d sl i1 (_) (_) qe) (h,a,?_)
  rw[e];show v l
end HT
namespace L2
open PySem PySem.Spec PyProof.Rows
mutual
abbrev TO:=St->Hp->(Option Int->Hp->Prop)->Prop
def PO(X:Cx)(e:Option Expr)(t:TO):Prop:= ∀f s(b:St)H Q,Inv X f b H s->t b H Q -> ik X (evalPart e X.e) (λu g=>E₂ λo d=>C₃ (Inv X f b d g) (IsPart u o) (Q o d)) X.x s
def Zq(t:TE):TO:=λd H Q=>t d H λx b=>∃i,x=.t i/\Q (U i) b
theorem Ea:∀{a},Vals (d.7 V.t) a->IntsAre a d:=by
 induction d with
 |nil=>intro a r;cases r;show .nil
 |cons n d h=>
  intro a r;cases r with
  |cons i j=>
   let(t,e):=i;subst e;show .cons n t (h j)
theorem Jn(h:PE X e b):PO X (U e) (Zq b):=by
 intro a s j H Q I l;show gH (h a s j H _ I l) λu r z=>?_;let(x,o,d,p,q1):=z;let(i,rfl,q):=q1;let(t,rfl):=p;show(U i,o,d,.int i t,q)
def SlR(X:Cx)(r:V->Option Int->Option Int->Hp->VK->Prop):Prop:=
 ∀b s(h:St)H x v f g lo d sl Q,Inv X b h H s->RelV x v->s.heap.IsSliceOf sl f g tj->IsPart f lo->IsPart g d->r x lo d H Q ->
  ∃T id,typeLookup (sW T) "__getitem__"=pure (U (sV id))/\s.TypeIs v T/\ik X (getItem v (sR sl)) (EP X b h Q) X.x s
def tSl(r:V->Option Int->Option Int->Hp->VK->Prop)(b:TE)(f d:TO):TE:=λg H Q=>b g H λx h=>f g h λl i=>d g i λu j=>r x l u j Q
theorem N1{lo o}(B:SlR X r)(E:PE X e g)(f:PO X lo p)(y:PO X o m):PE X (vA e (.Slice lo o J w) P) (tSl r g p m):=by
 intro a s d H Q I h;show Subscript_ (gH (E a s d H _ I h) λv ag k=>?_);let(x,R,G,F,q1):=k;show wpAny_Slice (gH (f a ag d R _ G q1) λi t (l,A,D,pl,q2)=>gH (y a t d A _ D q2) λj s3 c=>?_);let(u,z,ab,N,q3):=c;apply zn;let(T,id,C,ht,M):=B a {s3 with heap:=s3.19 {cls:=sW "slice",data:=tN #[i,j,tj]}} d z x v i j l u s3.8 Q (ab.75 λb S q=>zU _ q) F (Heap.IsSliceOf.new ..) pl N q3;show tail_any ht C M (by rfl)
def Qn(d:FG):R2:=λx y H Q=>E₄ λa b g f=>C₈ (x=.r a) (y=.r b) (gB d H a g) (gB d H b f) (g≠ []) (g.9+f.9<=sizeLine) (f=[]->Q (.r a) H) (f≠ []->∀p,H p=J->Q (.r p) (upd H p (.t (g++f))))
theorem Vals.nil_iff(r:Vals d b):b=[] ↔ d=[]:=by
 cases r with
 |nil=>simp
 |cons _ _=>simp
theorem WG:iy X (binaryOp .Add) (Qn X.K):=by
 rintro i s D H x y v u Q I r o ⟨a,b,F,E,rfl,rfl,B,A,l,C,q1,q2⟩;cases r;cases o;let(t,e,j,_):=I.56 B;let(h,d,p,_):=I.56 A;show HT.cat_tup j p (λz=>l (e.nil_iff.mp z)) (λz=>(.r a,H,I,Y,q1 (d.nil_iff.mp z))) (λz=>(.r s.8,_,I.laid (λb G q=>zU _ q) (zp _) ?_,Y,q2 (λw=>z (d.nil_iff.49 w)) _ (I.18 (zp _)))) (by rwa[←e.9,←d.9]);show(by simp_all,_,e.append d,IsTup.new _ _)
noncomputable def j9(n:Nat)(i:Int):Option Nat:=if 0<=i then (if i<n then U i.30 else J)else if -(n)<=i then U (i+n).30 else J
def jH{d:Type}(b:List d)(i:Int):Option d:=(j9 b.9 i).bind λj=>b[j]?
theorem Qo(h:j9 n i=U j):seqIndex? i n=U j/\j<n/\-(n)<=i/\i<n:=by
 unfold j9 at h;by_cases d:0<=i
 ·rw[zf d]at h;by_cases a:i<n
  ·rw[zf a]at h;let e:=tS h;show(by rw[seqIndex_of d a,e],by lia,by lia,a)
  ext
 ·rw[zg d]at h;by_cases a:-n<=i
  ·rw[zf a]at h;let e:=tS h;show(by rw[seqIndex_neg () a,e],by lia,a,by lia)
  ext
theorem Mf{f}{b}{v:f}(h:jH b i=U v):∃j,seqIndex? i b.9=U j/\b[j]?=U v/\j<b.9/\-(b.9:Int)<=i/\i<b.9:=by
 unfold jH at h;cases e:j9 b.9 i with
 |none=>ext
 |some j=>
  let(d,l,a,o):=Qo e
  ext
theorem Bp{d}{b}{j:Nat}{v:d}(h:b[j]?=U v):jH b (j:Int)=U v:=by
 let a:=(z8.mp h).1
 let e:j9 b.9 j=U j:=by
  unfold j9;rw[zf (),zf ()];simp
 unfold jH;rwa[e]
def Qp(b:Expr):Prop:=∀o i,subscripted b O o i=operate [o,i] (getItem o i)
def IxR(X:Cx)(r:R2):Prop:=
 ∀f slice b s(d:St)H x y v u Q,Inv X b d H s->RelV x v->RelV y u->r x y H Q ->
  subscripted slice O v u=operate [v,u] (getItem v u)->ik X (subscriptTail f slice v u) (EP X b d Q) X.x s
def MtR(X:Cx)(id:String)(r:V->nk->Hp->VK->Prop):Prop:=
 ∀b s(g:St)H x f v d Q,Inv X b g H s->RelV x v->Vals f d->r x f H Q ->
  ik X (call (sV id) (v::d)) (EP X b g Q) X.x s
theorem Ak(j:IxR X r)(B:PE X a t)(A:PE X b g)(f:Qp b:=by intro _ _;rfl):PE X (vA a b m) (ly r t g):=by
 intro d s p H Q I h;show Subscript_ (YI B A I h λv u e x y i l z o q=>j a b d e p i x y v u Q l z o q (f _ _))
inductive ExrIxL(b:FG)(x y:V)(H:Hp)(k:V->Prop):Prop
 |mk (p) (xs) (i) (v) (d:x=.r p) (f:y=.t i) (g:fV b H p xs) (h:jH xs i=U v) (q:k v):ExrIxL b x y H k
def Zr(b:FG):R2:=λx y H Q=>ExrIxL b x y H λv=>Q v H
inductive ExrIxT(b:FG)(x y:V)(H:Hp)(k:V->Prop):Prop
 |mk (p) (xs) (i) (v) (d:x=.r p) (f:y=.t i) (g:gB b H p xs) (h:jH xs i=U v) (q:k v):ExrIxT b x y H k
def YQ(b:FG):R2:=λx y H Q=>ExrIxT b x y H λv=>Q v H
def cm:R2:=λx y H Q=>E₃ λz i c=>C₅ (x=.s z) (y=.t i) (z.9<=sizeLine) (jH z.4 i=U c) (Q (.s ⟨#[c]⟩) H)
theorem WH:IxR X (Zr X.K):=by
 intro D slice g s B H x y v u Q I o A h f;let(p,xs,i,z,rfl,rfl,hq,he,q):=h;cases o;let(t,rfl):=A;let(fc,r,pl,hz):=I.67 hq;let(j,h1,h2,h3,h4,h5):=Mf he;let(w,ew,rw'):=r.get h2;let m:=r.9;let C:=IV;let b:EP X g B Q w s:=(z,H,I,rw',q);by_cases d:0<=i
 ·have l:i.30=j:=by
   rw[seqIndex_of d h5]at h1;show tS h1
  show item_listR pl.51 d () (_) b f
 ·have l:(i+fc.81).30=j:=by
   rw[seqIndex_neg () h4]at h1;rw[size_toArray,←m];show tS h1
  show subscriptTail_builtinR pl.isList.43 slot_list_getitem.5
   (wpAny_getItem_list_neg pl.51 () (_) () (_) (rfl,b)) f
theorem YR:IxR X (YQ X.K):=by
 intro o slice g s A H x y v u Q I d f h b;let(p,xs,i,z,rfl,rfl,hq,he,q):=h;cases d;let(t,rfl):=f;let(fc,r,pl,hz):=I.56 hq;let(j,h1,h2,h3,h4,h5):=Mf he;let(w,ew,rw'):=r.get h2;let l:=r.9;let m:=IV
 show subscriptTail_builtinR pl.43 slot_tuple_getitem.5
  (getItem_tuple (j:=j) pl () () (_) (_) (rfl,(z,H,I,rw',q))) b
theorem Mg:IxR X cm:=by
 intro o slice g s p H x y v u Q I d f h b;let(z,i,c,rfl,rfl,hz,he,q):=h;let(t,rfl):=d;let(t',rfl):=f;let(j,h1,h2,h3,h4,h5):=Mf he;let l:z.cps.64=z.9:=by simp[Str.length]
 let m:=IV
 show tail_any (typeIs_str s z t) slot_str_getitem.5 (getItem_str (by
  lia) (_) (.s ⟨#[c]⟩,H,I.96 _,(_,rfl),q)) b
theorem Pi(a:nj)(n j)(u):u4 (·.20 j u) {cls:=sW oq,data:=uW a.11 n}={cls:=sW oq,data:=uW (a.set j u).11 n}:=by
 simp[u4]
theorem Inv.lst{X}{d}{f:St}{H}{s}{p}{b}(I:Inv X d f H s)(h:H p=U (.l b)):
  ∃(a:nj)(n:Nat),Vals b a/\s.3 p=U {cls:=sW oq,data:=uW a.11 n}/\b.9<=sizeLine:=by
 let(z,a,n,r,e):=I.gA p _ h
 ext
theorem Inv.lstUpd{H}{s}{m}{a g:nj}(I:Inv X o w H s)(h:H p=U (.l y))
  (l:s.3 p=U {cls:=sW oq,data:=uW a.11 n}) (d:f {cls:=sW oq,data:=uW a.11 n}={cls:=sW oq,data:=uW g.11 i}) (r:Vals m g) (v:m.9<=sizeLine) (t):
  Inv X o w (upd H p (.l m)) {s with heap:=s.heap.61 p f,toks:=t}:=by
 let e:(s.heap.61 p f).14 p=U {cls:=sW oq,data:=uW g.11 i}:=by
  rw[zR f l (by rw[d]<;>rfl),d]
 show I.write (by rw[h];trivial) (sU Y) (λb u j q=>(zT _ _ (sX j)).6 q) (_,e) ?_;show(v,g,i,r,e)
def Zs:V->V->V->Hp->(Hp->Prop)->Prop:=λo i v H Q=>E₄ λp b k j=>C₅ (o=.r p) (i=.t k) (H p=U (.l b)) (j9 b.9 k=U j) (Q (upd H p (.l (b.set j v))))
theorem HV:Zl X Zs:=by
 rintro z s E H o i v C B u Q I m l w ⟨p,D,k,j,rfl,rfl,d,f,q⟩;cases m;let(t,rfl):=l;let(fc,n,r,ho,hz):=I.lst d;let(h1,h2,h3,h4):=Qo f;let h:=r.9;let A:=IV
 let y:=
  I.lstUpd d ho (Pi fc n j u) (r.set w j) (_) s.57
 by_cases b:0<=k
 ·have g:k.30=j:=by
   rw[seqIndex_of b h4]at h1;show tS h1
  show W.ki_setAt ho b () (_) (_)
 ·have g:(k+fc.81).30=j:=by
   rw[seqIndex_neg () h3]at h1;rw[size_toArray,←h];show tS h1
  show W.ki_setBack ho () (_) () (_)
noncomputable def HW:V->Bool
 |.g=>L
 |.l _=>L
 |.t _=>L
 |.s _=>L
 |_=>O
noncomputable def lT:V->V->Bool
 |.g,.g=>L
 |.l a,.l b=>a==b
 |.l a,.t b=>(if a then 1 else 0)==b
 |.t a,.l b=>a==(if b then 1 else 0)
 |.t a,.t b=>a==b
 |.s a,.s b=>a==b
 |_,_=>O
theorem YS(h:RelV y u)(d:RelV x v)(i:HW y=L)(fx:HW x=L):SeqAt.EqAt A s u v (lT y x):=by
 cases y with
 |g=>
  cases h;cases x with
  |g=>cases d;show SeqAt.EqAt.same _
  |l b=>cases d;show SeqAt.EqAt.none_bool b
  |t b=>let(t,rfl):=d;show SeqAt.EqAt.none_int b t
  |s b=>let(t,rfl):=d;show SeqAt.EqAt.none_str b t
  |_=>show absurd (fx) tF
 |l a=>
  cases h;cases x with
  |g=>cases d;show SeqAt.EqAt.bool_none a
  |l b=>cases d;show SeqAt.EqAt.bool_bool a b
  |t b=>let(t,rfl):=d;show SeqAt.EqAt.bool_int a b t
  |s b=>let(t,rfl):=d;show SeqAt.EqAt.bool_str a b t
  |_=>show absurd (fx) tF
 |t a=>
  let(e,rfl):=h;cases x with
  |g=>cases d;show SeqAt.EqAt.int_none a e
  |l b=>cases d;show SeqAt.EqAt.int_bool a e b
  |t b=>let(t,rfl):=d;show SeqAt.EqAt.int_int a e b t
  |s b=>let(t,rfl):=d;show SeqAt.EqAt.int_str a e b t
  |_=>show absurd (fx) tF
 |s a=>
  let(e,rfl):=h;cases x with
  |g=>cases d;show SeqAt.EqAt.str_none a e
  |l b=>cases d;show SeqAt.EqAt.str_bool a e b
  |t b=>let(t,rfl):=d;show SeqAt.EqAt.str_int a e b t
  |s b=>let(t,rfl):=d;show SeqAt.EqAt.str_str a e b t
  |_=>show absurd (fx) tF
 |_=>show absurd (i) tF
def j5(x:V)(u:Value):Bool:=match u with
 |tj=>lT .g x
 |uO b=>lT (.l b) x
 |tV i _=>lT (.t i) x
 |vw z _=>lT (.s z) x
 |_=>O
theorem Ts(r:RelV y u)(f:HW y=L):j5 x u=lT y x:=by
 cases y with
 |g=>cases r;rfl
 |l b=>cases r;rfl
 |t i=>let(t,rfl):=r;rfl
 |s z=>let(t,rfl):=r;rfl
 |_=>trivial
theorem HX{b}{a}(p:Vals b a)(f:b.94 HW=L):a.91 (j5 x)=b.91 λy=>lT y x:=by
 induction p with
 |nil=>rfl
 |cons r t ih=>rw[List.all_cons,tA]at f;rw[any_cons,any_cons,Ts r f.1,ih f.2]
theorem FK(e:RelV x v)(fx:HW x=L){b}{d}(p:Vals b d)(f:b.94 HW=L):∀u∈d,SeqAt.EqAt A s u v (j5 x u):=by
 induction p with
 |nil=>show λu a=>by cases a
 |cons r t ih=>
  intro h a;rw[List.all_cons,tA]at f;let rfl||a:=mem_cons.mp a
  ·rw[Ts r f.1];show YS r e f.1 fx
  ·show ih f.2 h a
def jt(x:V)(b:nk):Bool:=b.91 λy=>lT y x
def rIn(b:FG)(d:Bool):R2:=λx y H Q=>E₂ λp f=>C₅ (y=.r p) (fV b H p f\/gB b H p f) (HW x=L) (f.94 HW=L) (Q (.l (if d then !jt x f else jt x f)) H)
theorem Fz:iy X (compareOp .In) (rIn X.K O):=by
 rintro h s o H x y v u Q I e i ⟨p,t,rfl,d,fx,b,q⟩;cases i;let d||d:=d
 ·let(a,r,pl,j):=I.67 d;show SeqAt.in_listAt (j5 x) pl.51 (λw l=>FK e fx r b w (_)) (.l _,H,I,Y,?_)
  rwa[show a.toArray.91 (j5 x)=a.91 (j5 x) by simp,HX r b]
 ·let(a,r,pl,j):=I.56 d;show SeqAt.in_tupleAt (j5 x) pl (λw l=>FK e fx r b w (_)) (.l _,H,I,Y,?_)
  rwa[show a.toArray.91 (j5 x)=a.91 (j5 x) by simp,HX r b]
theorem Mh:iy X (compareOp .NotIn) (rIn X.K L):=by
 rintro h s o H x y v u Q I e i ⟨p,t,rfl,d,fx,b,q⟩;cases i;let d||d:=d
 ·let(a,r,pl,j):=I.67 d;show SeqAt.notIn_listAt (j5 x) pl.51 (λw l=>FK e fx r b w (_)) (.l _,H,I,Y,?_)
  rwa[show a.toArray.91 (j5 x)=a.91 (j5 x) by simp,HX r b]
 ·let(a,r,pl,j):=I.56 d;show SeqAt.notIn_tupleAt (j5 x) pl (λw l=>FK e fx r b w (_)) (.l _,H,I,Y,?_)
  rwa[show a.toArray.91 (j5 x)=a.91 (j5 x) by simp,HX r b]
theorem HY:gP X (sV "len") (λd H Q=>∃p b,d=[.r p]/\(fV X.K H p b\/gB X.K H p b)/\Q (.t b.9) H):=by
 rintro h s l H d j Q I r ⟨p,b,rfl,f,q⟩;let(u,rfl,rx):=Bq r;cases rx;let i:=IV;let f||f:=f
 ·let(fc,r',pl,hz):=I.67 f;let g:=r'.9;show Calls.call_len_list pl.51 (_) (.t b.9,H,I.96 _,(s.57+1,by ext),q)
 ·let(fc,r',pl,hz):=I.56 f;let g:=r'.9;show len_tuple pl (_) (.t b.9,H,I.96 _,(s.57+1,by ext),q)
theorem BN:gP X (sV "len") (λb H Q=>∃z,b=[.s z]/\z.9<=sizeLine/\Q (.t z.9) H):=by
 rintro d s i H b h Q I r ⟨z,rfl,g,q⟩;let(u,rfl,t,rfl):=Bq r;let f:=IV;show len_str () (.t z.9,H,I.96 _,(_,Y),q)
theorem gP.or(h:gP X f r)(g:gP X f j):gP X f (λb H Q=>r b H Q\/j b H Q):=by
 intro a s e H b d Q I i q;let q||q:=q
 ·show h a s e H b d Q I i q
 ·show g a s e H b d Q I i q
theorem D8:gP X (sW oB) (λg H Q=>∃p f,g=[.r p]/\((fV X.K H p f/\∀l,H l=J->Q (.r l) (upd H l (.t f)))\/(gB X.K H p f/\Q (.r p) H))):=by
 rintro x s C H g B Q I r ⟨p,f,rfl,h⟩;let(u,rfl,z):=Bq r;cases z;let(i,q)||(i,q):=h
 ·let(a,d,pl,t):=I.67 i;let j:=d.9;show call_tuple_list pl.51 (λA kp=>?_) (_);let v:=I.75 (t':=s.57) kp
  let y:=
   v.laid (t':=s.57) (λb o e=>zU _ e) (zp _) (show hO X.p X.w _ _ _ (.t f)from(t,a,d,IsTup.new _ _))
  show(.r A.10,_,y,Y,q _ (v.18 (zp _)))
 ·let(a,d,pl,t):=I.56 i;show call_tuple_same pl (.r p,H,I,Y,q)
def tyV(b:FG)(T:String)(x:V)(H:Hp):Prop:=match x with
 |.s _=>T="str"
 |.t _=>T=sv
 |.r p=>(T=oq /\ ∃f,fV b H p f)\/(T=oB /\ ∃o,b.5 p=U o/\o.83=sW oB /\ o.93=J) \/
   (T=oK /\ ((∃d,H p=U (.d d))\/∃d,H p=U (.h d)))\/(T=sI /\ ∃S n,H p=U (.set S n))
 |_=>False
theorem Tt(I:Inv X b f H s)(r:RelV x v)(ty:tyV X.K T x H):
  s.TypeIs v T/\∀a,v=sR a->∃u,s.3 a=U u/\u.93=J:=by
 cases x with
 |s z=>
  let(t,rfl):=r;cases (ty);show(typeIs_str s z t,λ_ e=>nomatch e)
 |t i=>
  let(t,rfl):=r;cases (ty);show(typeIs_int s i t,λ_ e=>nomatch e)
 |r p=>
  cases r;let(rfl,C,y)||(rfl,o,d,B,q)||(rfl,d)||(rfl,S,n,d):=ty
  ·let(A,_,pl,_):=I.67 y;show(pl.isList.43,λa e=>?_);cases e;let(o,n,e,c,q,_):=pl
   ext
  ·show((o,I.ip p o d,B),λa e=>?_);cases e;show(o,I.ip _ o d,q)
  ·have z:∃o,s.3 p=U o/\o.ExactDict:=by
    let(l,d)||(l,d):=d
    ·let(_,_,_,_,o,_,_,e,h,_):=I.gA p _ d
     ext
    ·let(_,_,_,_,o,_,_,e,h,_):=I.gA p _ d
     ext
   let(o,e,h):=z;show((o,e,h.1),λa j=>?_);cases j;show(o,e,h.2.1)
  ·let(o,_,_,_,e,h,_):=I.gA p _ d;show((o,e,h.1),λa j=>?_);cases j;show(o,e,h.2.1)
 |_=>trivial
def cn(b:FG)(T:String)(r:V->nk->Hp->VK->Prop)(to:TE):TE:=λf H Q=>to f H λx d=>tyV b T x d/\r x [] d Q
def tBM(b:FG)(T:String)(r:V->nk->Hp->VK->Prop)(to:TE)(t:TA):TE:=λf H Q=>to f H λx d=>tyV b T x d/\t f d λh g=>r x h g Q
theorem Gi{X}{o}{to}{a}{d i}{T id}{r}(B:PlainAttrs T)(p:Slot T a id)(q:typeOf (sV id)=pure (sW qN))(C:MtR X id r)(D:PE X o to)
  (l:attributeBase o a X.e (eval o X.e)=eval o X.e:=by rfl) (j:(d.endLine==i.70)=L:=by rfl):PE X (uJ (tR o a d) [] [] i) (cn X.K T r to):=by
 intro e s y H Q I h;show wpAny_Call_method0_late l j (gH (D e s y H _ I h) λv E w=>?_);let(x,F,u,t,ty,q1):=w;let(z,A):=Tt u t ty;show(T,id,B,p,q,z,A,uS Y (PySem.evalArgs_none (C e E y F x [] v [] Q u t tO q1)))
theorem Qq{X}{e}{o}{q}{to}{t}{d}{j a}{T id}{r}(M:PlainAttrs T)(u:Slot T d id)(B:typeOf (sV id)=pure (sW qN))(b:MtR X id r)(f:PE X o to)(g:PA X (e::q) t)
  (p:attributeBase o d X.e (eval o X.e)=eval o X.e:=by rfl)
  (y:((backTo a (starEach (e::q) X.e)).94 (λx=>!x.1)&&(backToKw a (keywordEach [] X.e)).94 (λx=>x.1.24)
   && decide ((e::q).9+([]:List Keyword).9+(if ([]:List Keyword).99 then 0 else 1)<30))=L:=by rfl)
  (l:(j.endLine==a.70)=L:=by rfl) (m:jC X e q:=by rfl) (z:(backTo a (starEach q X.e)).91 (·.1)=O:=by rfl):
  PE X (uJ (tR o d j) (e::q) [] a) (tBM X.K T r to t):=by
 intro i s A H Q I h;show wpAny_Call_method_late p y l Y (gH (f i s A H _ I h) λv ab k=>?_);let(x,w,E,D,ty,q1):=k;let(G,J):=Tt E D ty;show(T,id,M,u,B,G,J,?_);let C:=g a i ab A w _ E q1;rw[m]at C ⊢;show uS (by assumption) (Calls.evalArgs_plain (gH C λR F n=>by let(vs,P,N,S,q2):=n;show b i F A P x vs v R Q N D S q2))
def MtM(X:Cx)(id:String)(r:V->nk->Hp->VK->Prop):Prop:=
 ∀b s(g:St)H x f v d Q,Inv X b g H s->RelV x v->Vals f d->r x f H Q ->
  ik X (call (sV id) (v::d)) (EP X b g Q) X.x s
theorem Vals.one:∀{x}{a},Vals [x] a->∃u,a=[u]/\RelV x u
 |_,_,tP r tO=>(_,rfl,r)
theorem Vals.zero:∀{a},Vals [] a->a=[]
 |_,tO=>rfl
theorem Vals.dropLast(h:Vals f b):Vals f.dropLast b.dropLast:=by
 induction h with
 |nil=>show tO
 |cons r t a=>
  cases t with
  |nil=>show tO
  |cons q d=>show tP r a
theorem Inv.lset{H}{s}{b}{a its':nj}{f}(I:Inv X g r H s)(o:H l=U (.l w))
  (e:s.3 l=U {cls:=sW oq,data:=uW a.11 n}) (h:f a.11=its'.11) (d:Vals b its') (m:b.9<=sizeLine):
  Inv X g r (upd H l (.l b)) {s with heap:=s.heap.61 l (u4 f),toks:=v}:=by
 let q:=PySem.IsL.update e f;rw[h]at q;show I.write (by rw[o];show trivial) (sU Y) (λp u j i=>(zT s.16 (u4 f) (sX j)).6 i) (_,q) ?_;show(m,its',_,d,q)
theorem Inv.lnew(I:Inv X f h H s)(d:Vals b a)(g:b.9<=sizeLine):
  Inv X f h (upd H s.8 (.l b)) {s with heap:=s.19 {cls:=sW oq,data:=uW a.11},toks:=i}:=
 I.laid (λ_ _ q=>zU _ q) (zp _) (g,a,0,d,zK _ rfl)
theorem Inv.fresh(I:Inv X b d H s):H s.8=J:=I.18 (zp _)
theorem Inv.lstM(I:Inv X f g H s)(d:H l=U (.l b)):b.9<=sizeLine/\∃(a:nj)(n:Nat),Vals b a/\b.9=a.9/\s.3 l=U {cls:=sW oq,data:=uW a.11 n}:=by
 let(z,a,n,r,e):=I.gA l _ d;show(z,a,n,r,r.9,e)
theorem Tu(h:n<=sizeLine):uZ n=O:=by
 unfold uZ
 ext
def Mi:V->nk->Hp->VK->Prop:=λx vs H Q=>E₃ λl b y=>C₅ (x=.r l) (vs=[y]) (H l=U (.l b)) (b.9<sizeLine) (Q .g (upd H l (.l (b++[y]))))
theorem SA:MtM X "list.append" Mi:=by
 rintro h s A H x vs v t Q I i j ⟨l,C,y,rfl,rfl,d,p,q⟩;cases i;let(u,rfl,o):=j.one;let(z,a,n,r,B,e):=I.lstM d;show call_meets F.slot_list_append (_,e,Y) F.entry_list_append (F.args_list_append_2 _ _) (PySem.list_append l a.11 n u (_)) (e,(.g,_,I.lset d e (_) (r.append (tP o tO)) ?_,Y,q))
 grind
def cp:V->nk->Hp->VK->Prop:=λx vs H Q=>E₃ λl b y=>C₅ (x=.r l) (vs=[]) (H l=U (.l b)) (b[b.9-1]?=U y) (Q y (upd H l (.l b.dropLast)))
theorem Ia:MtM X "list.pop" cp:=by
 rintro j s E H x vs v D Q I p t ⟨l,G,y,rfl,rfl,i,A,q⟩;cases p;let d:=t.zero;subst d;let(z,a,n,r,o,e):=I.lstM i;let(u,C,B):=r.get A
 let h:a.11[a.81-1]?=U u:=by
  change a.11[a.9-1]?=U u
  rwa[←ug,←o]
 show call_meets F.slot_list_pop (_,e,Y) F.entry_list_pop (F.args_list_pop_1 _) (MeetsSeq.list_pop_last l a.11 n u h (_)) (e,(y,_,I.lset i e ?_ r.dropLast ?_,B,q))
 ·ext
 grind
def cq:R2:=λx y H Q=>E₄ λl b d f=>C₆ (x=.r l) (y=.r b) (H l=U (.l d)) (H b=U (.l f)) (d.9+f.9<=sizeLine) (∀p,H p=J->Q (.r p) (upd H p (.l (d++f))))
theorem Ie:iy X (binaryOp .Add) cq:=by
 rintro h s F H x y v u Q I t p ⟨l,b,f,D,rfl,rfl,B,i,E,q⟩;cases t;cases p;let(z,d,n,r,G,e):=I.lstM B;let(M,a,J,A,C,o):=I.lstM i;show PySem.P.add_list e o ?_ (_);let j:d.11++a.11=(d++a).11:=by simp
 rw[j];show(.r _,_,I.lnew (r.append A) (_),Y,q _ I.fresh)
end
section
variable {κ:Type} [DecidableEq κ]
mutual
noncomputable def An(b:List (κ×V))(k:κ):Option V:=(b.76 λd=>decide (d.1=k)).7 (·.2)
noncomputable def BS(b:List (κ×V))(k:κ)(v:V):List (κ×V):=
 if (b.91 λd=>decide (d.1=k))=L then b.7 (λd=>if d.1=k then (d.1,(v))else d)else b++[(k,(v))]
noncomputable def CO(b:List (κ×V))(k:κ):List (κ×V):=b.21 λd=>decide (d.1≠k)
theorem N2{k}:An ([]:List (κ×V)) k=J:=rfl
theorem BI{p}{r}{k:κ}(e:p.1=k):An (p::r) k=U p.2:=by simp[An,e]
theorem BE{p}{r}{k:κ}(e:¬ p.1=k):An (p::r) k=An r k:=by simp[An,e]
theorem DJ(k:κ):∀b,(b.91 λa=>decide (a.1=k))=(An b k).24
 | []=>rfl
 |p::r=>by
  rw[any_cons];by_cases e:p.1=k
  ·simp[BI e,zI e,Bool.true_or,Option.isSome_some]
  ·rw[BE e,zL e];show DJ k r
theorem N3(k j:κ)(y):∀b,An (b.7 λa=>if a.1=k then (a.1,(y))else a) j=(An b j).7 λx=>if j=k then y else x
 | []=>rfl
 |p::r=>by
  let d:=N3 k j y r;rw[map_cons];by_cases h:p.1=k
  ·rw[zf h];by_cases e:p.1=j
   ·rw[BI (p:=(p.1,(y))) e,BI e,Option.map_some,zf (e.92 h)]
   ·rw[BE (p:=(p.1,(y))) e,BE e,d]
  ·rw[zg h];by_cases e:p.1=j
   ·rw[BI e,BI e,Option.map_some,zg (λz=>h (e.6 z))]
   ·rw[BE e,BE e,d]
theorem Lj(k j:κ)(y):∀b,An b k=J->An (b++[(k,(y))]) j=if j=k then U y else An b j
 | [],_=>by
  by_cases e:k=j
  ·rw[zf e.31];show BI e
  ·rw[zg (λz=>e z.31)];show BE e
 |p::r,d=>by
  rw[List.cons_append];let a:¬ p.1=k:=λz=>by rw[BI z]at d;cases d
  rw[BE a]at d;by_cases e:p.1=j
  ·rw[BI e,BI e,zg (λz=>a (e.6 z))]
  ·rw[BE e,BE e,Lj k j y r d]
theorem HZ(b)(k j:κ)(y):An (BS b k y) j=if j=k then U y else An b j:=by
 unfold BS;by_cases a:(b.91 λd=>decide (d.1=k))=L
 ·rw[zf a,N3];rw[DJ]at a;by_cases e:j=k
  ·let(x,h):=uD.mp a
   ext
  ext
 ·rw[zg a];apply Lj k j y b;rw[DJ]at a
  ext
theorem B3(b)(k:κ)(v):(BS b k v).9<=b.9+1:=by
 unfold BS
 grind
theorem Dd{b}{k:κ}(v)(h:An b k=J):BS b k v=b++[(k,(v))]:=by
 unfold BS;rw[DJ,h];rfl
theorem iI.isSome_eq(r:iI o u):o.24=u.24:=by
 cases o with
 |none=>cases u with
  |none=>rfl
  |some _=>trivial
 |some _=>cases u with
  |none=>trivial
  |some _=>rfl
theorem iI.getD(r:iI o u)(rd:RelV d a):RelV (o.44 d) (u.44 a):=by
 cases o with
 |none=>cases u with
  |none=>show rd
  |some _=>show(r).40
 |some _=>cases u with
  |none=>show(r).40
  |some _=>show r
theorem KV.val{f}{vs}(r:KV f vs)(k:κ):iI (An f k) (valueAt vs k):=by
 induction r with
 |nil=>show uc
 | @cons p q j a h t o=>
  let(i,l):=h;by_cases e:p.1=k
  ·have d:=i.92 e;let b:valueAt (q::a) k=U q.2:=by simp[valueAt,d]
   rwa[BI e,b]
  ·have d:¬ q.1=k:=λz=>e (i.6 z);let b:valueAt (q::a) k=valueAt a k:=by simp[valueAt,d]
   rwa[BE e,b]
theorem KV.any{b}{vs}(r:KV b vs)(k:κ):(b.91 λa=>decide (a.1=k))=vs.91 λa=>decide (a.1=k):=by
 induction r with
 |nil=>rfl
 |cons h t d=>ext
theorem KV.repl{b}{vs}(r:KV b vs)(k:κ)(j:RelV y u):
  KV (b.7 λa=>if a.1=k then (a.1,(y))else a) (vs.7 λa=>if a.1=k then (a.1,(u))else a):=by
 induction r with
 |nil=>show tO
 | @cons p q e i h t d=>
  show tP ?_ d
  lia
theorem KV.put{b}{vs}(r:KV b vs)(k:κ)(a:RelV y u):KV (BS b k y) (stored vs k u):=by
 unfold BS stored;rw[r.91 k];by_cases e:(vs.91 λd=>decide (d.1=k))=L
 ·rw[zf e,zf e];show r.repl k a
 ·rw[zg e,zg e];show we r (Y,a)
theorem KV.drop{f}{vs}(r:KV f vs)(k:κ):KV (CO f k) (without vs k):=by
 unfold CO without;induction r with
 |nil=>show tO
 | @cons p q o u h t l=>
  let(d,i):=h;rw[filter_cons,filter_cons];by_cases e:p.1=k
  ·have a:¬ decide (p.1≠k)=L:=by simp[e]
   let b:¬ decide (q.1≠k)=L:=by simp[d.92 e]
   rwa[zg a,zg b]
  ·have j:¬ q.1=k:=λz=>e (d.6 z);rw[zf (by simp[e]),zf (by simp[j])];show tP (d,i) l
theorem KV.length{b:List (κ×V)}{vs}(r:KV b vs):b.9=vs.9:=Paired.length r
theorem Tv(b)(k:κ):(CO b k).9<=b.9:=zP _ _
end
end
mutual
theorem E8(r:RelV (kV k) u):(Ag P w).is k u=L:=by
 cases k with
 |inl i=>let(t,e):=(r);subst e;show Nk P w i t
 |inr x=>let(t,e):=(r);subst e;show FE P w x t
theorem Lk:∀{a}{d},Vals (a.7 kV) d->ItemsAre (Ag P w) a d
 | [],_,r=>by rw[map_nil]at r;cases r;show .nil
 |k::a,_,r=>by
  cases r with
  |cons h t=>show .cons (E8 h) (Lk t)
abbrev KT(H:Hp):List (List Key×V)->List (List Key×nq×Value)->Prop:=Paired λp q=>p.1=q.1/\H q.2.1=U (.t (p.1.7 kV))/\RelV p.2 q.2.2
theorem KT.val(r:KT H f g)(k):iI (An f k) ((atKey g k).7 (·.2)):=by
 induction r with
 |nil=>show uc
 | @cons p q j a h t o=>
  let(i,_,l):=h;by_cases e:p.1=k
  ·have d:=i.92 e;let b:atKey (q::a) k=U q.2:=by simp[atKey,d]
   rwa[BI e,b]
  ·have d:¬ q.1=k:=λz=>e (i.6 z);let b:atKey (q::a) k=atKey a k:=by simp[atKey,d]
   rwa[BE e,b]
theorem KT.repl(r:KT H b f)(k)(v:RelV y u):
  KT H (b.7 λa=>if a.1=k then (a.1,(y))else a) (f.7 (putAt k u)):=by
 induction r with
 |nil=>show tO
 | @cons p q i o h t d=>
  show tP ?_ d;let(j,l,e):=h;unfold putAt
  lia
theorem KT.put(r:KT H g f)(k)(h:H b=U (.t (k.7 kV)))(a:RelV y u):
  KT H (BS g k y) (storedH f k b u):=by
 let e:(g.91 λd=>decide (d.1=k))=(atKey f k).24:=by
  rw[DJ,(r.val k).isSome_eq,Option.isSome_map]
 unfold BS storedH;rw[e];by_cases q:(atKey f k).24=L
 ·rw[zf q,zf q];show r.repl k a
 ·rw[zg q,zg q];show we r (Y,h,a)
theorem KT.keeps(r:KT H g h)(ht:∀b d,H b=U (.t d)->f b=U (.t d)):KT f g h:=
 Paired.mapP r λ_ _ z=>(z.1,ht _ _ z.2.1,z.2.2)
theorem Xv(ok:iG P w H h)(e:Rd H a u):hO P w H h a u:=e.ok ok
theorem DK(ok:iG P w H h)(e:Rd H a (.d b)):b.9<=sizeLine/\(a==sysModules)=O/\∃vs,KV b vs/\h.DictOf (Ag P w) a vs:=
 show hO P w H h a (.d b)from Xv ok e
theorem N4(ok:iG P w H h)(e:H a=U (.d b)):b.9<=sizeLine/\(a==sysModules)=O/\∃vs,KV b vs/\h.DictOf (Ag P w) a vs:=DK ok (sU e)
theorem Ig(ok:iG P w H h)(e:H a=U (.t (b.7 kV))):(tupleKind (Ag P w)).is h b a:=by
 let(_,d,r,o,j,l,n,i):=(ok a _ e);show(o,d.11,n,j,l,i,by simpa using Lk r)
theorem J1(ok:iG P w H h)(e:Rd H a (.h f)):f.9<=sizeLine/\(a==sysModules)=O /\
  ∃b,KT H f b/\h.DictOfH (tupleKind (Ag P w)) a b:=by
 let(z,y,b,r,o,j,ep,i,u,v,C,A):=(Xv ok e);show(z,y,b,r,o,j,ep,i,u,v,C,λx d=>?_,A)
 let all:∀{l:List (List Key×V)}{m:List (List Key×nq×Value)},KT H l m->∀x∈m,(tupleKind (Ag P w)).is h x.1 x.2.1:=by
  intro l m q;induction q with
  |nil=>ext
  | @cons p q D F E t B=>
   intro x d;let e||d:=mem_cons.mp d
   ·subst e;show Ig ok (_)
   ·show B x d
 show all r x d
theorem Zt(ok:iG P w H h)(e:H a=U (.h b)):b.9<=sizeLine/\(a==sysModules)=O /\
  ∃d,KT H b d/\h.DictOfH (tupleKind (Ag P w)) a d:=J1 ok (sU e)
def Mj(H:Hp)(a:nq)(y:V)(r:Option V):Prop:=
 (∃d k,Rd H a (.d d)/\y=kV k/\r=An d k)\/∃d k b,Rd H a (.h d)/\y=.r b/\H b=U (.t (k.7 kV))/\r=An d k
def jc(H:Hp)(a:nq)(y v:V)(d:Hp):Prop:=
 (∃f k,H a=U (.d f)/\y=kV k/\f.9<sizeLine/\d=upd H a (.d (BS f k v))) \/
 ∃f k b,H a=U (.h f)/\y=.r b/\H b=U (.t (k.7 kV))/\f.9<sizeLine/\d=upd H a (.h (BS f k v))
theorem jc.k{H:Hp}{a}{b}{k}{v}(e:H a=U (.d b))(d:b.9<sizeLine):jc H a (kV k) v (upd H a (.d (BS b k v))):=sU (b,k,e,rfl,d,rfl)
theorem Inv.big(I:Inv X b d H s):sysModules<s.8:=by
 show uI qc ((I.mod.glob.80 I.bk).lt)
theorem SB(D:A.42+1<cLine)(I:Inv X f m H s)(g:Mj H a y (U v))(B:RelV y u)(h:∀j C,Inv X f m H C->RelV v j->Q j C):
  wpAny (model X.p X.w) A (getItem (sR a) u) Q E s:=by
 let(r,k,e,t,l)||(r,k,b,e,t,J,l):=g
 ·subst t;let(z,G,vs,d,o):=DK I.gA e;let(j,x,i):=iI.some_of (by rw[l];show d.val k);show wpAny_getItem_of (E8 B) o.mapOf x (h j _ (I.96 _) i)
 ·subst t;cases (B);let(z,G,L,d,o):=J1 I.gA e;let(j,x,i):=iI.some_of (by rw[l];show d.val k);let(p,F,q):=z6.mp x;apply wpAny_getItem_heap (tupleKind_room_in1 D) (Ig I.gA J) o F;rw[q];show h j _ (I.96 _) i
theorem cr(x:A.42+1<cLine)(I:Inv X f m H s)(g:Mj H a y o)(t:RelV y u)(h:∀v,Inv X f m H v->Q (uO o.24) v):
  wpAny (model X.p X.w) A (compareOp .In u (sR a)) Q E s:=by
 let(p,k,e,r,l)||(p,k,b,e,r,B,l):=g
 ·subst r;let(z,j,vs,d,i):=DK I.gA e;apply wpAny_in_of (E8 t) j i.mapOf;rw[←(d.val k).isSome_eq,←l];show h _ (I.96 _)
 ·subst r;cases (t);let(z,j,C,d,i):=J1 I.gA e;apply wpAny_in_heap (tupleKind_room_in1 x) (Ig I.gA B) j i;let q:=(d.val k).isSome_eq;rw[Option.isSome_map]at q;rw[←q,←l];show h _ (I.96 _)
theorem WI(x:A.42+1<cLine)(I:Inv X f m H s)(g:Mj H a y o)(t:RelV y u)(h:∀v,Inv X f m H v->Q (uO (!o.24)) v):
  wpAny (model X.p X.w) A (compareOp .NotIn u (sR a)) Q E s:=by
 let(p,k,e,r,l)||(p,k,b,e,r,B,l):=g
 ·subst r;let(z,j,vs,d,i):=DK I.gA e;apply wpAny_notIn_of (E8 t) j i.mapOf;rw[←(d.val k).isSome_eq,←l];show h _ (I.96 _)
 ·subst r;cases (t);let(z,j,C,d,i):=J1 I.gA e;apply wpAny_notIn_heap (tupleKind_room_in1 x) (Ig I.gA B) j i;let q:=(d.val k).isSome_eq;rw[Option.isSome_map]at q;rw[←q,←l];show h _ (I.96 _)
theorem F2(I:Inv X g l H s)(h:Mut (H a))(j:uG a s.16 f)(i:∃q,f.14 a=U q)(new:hO X.p X.w (upd H a d) f a d):
  Inv X g l (upd H a d) {s with heap:=f,toks:=t'}:=
 I.write h (sU rfl) (λb q e z=>(j.2 b e).6 z) i new
theorem Gj(z:b.9<=sizeLine)(h:(a==sysModules)=O)(d:KV b vs)(e:f.DictOf (Ag P w) a vs):
  hO P w H' f a (.d b):=(z,h,vs,d,e)
theorem SC(w:A.42+1<cLine)(I:Inv X P ab H s)(g:jc H a y v m)(F:RelV y u)(f:RelV v r)(h:∀G,Inv X P ab m G->Q ux G):
  wpAny (model X.p X.w) A (setItem (sR a) u r) Q E s:=by
 let(d,k,e,t,l,D)||(d,k,b,e,t,M,l,D):=g
 ·subst t D;let(z,B,vs,i,p):=N4 I.gA e;let an:vs.9<=sizeLine:=by rwa[←i.9]
  let x:(BS d k v).9<=sizeLine:=by have:=B3 d k v;lia
  show wpAny_setItem_pairs (E8 F) p λag j C=>h _ ?_;let al:∃q,ag.14 a=im q:=by let(q,_,_,o,_):=j;show (q,o)
  show F2 I (by rw[e];show uc) C al (Gj x B (i.put k f) j)
 ·subst t D;cases (F);let(z,B,xs,i,p):=Zt I.gA e;let an:xs.9<=sizeLine:=by rwa[←Paired.length i]
  let x:(BS d k v).9<=sizeLine:=by have:=B3 d k v;lia
  show wpAny_setItem_heap (tupleKind_room_in1 w) (Ig I.gA M) p λag j C=>h _ ?_;let(q,N,ep,o,R,T,h4,_,U):=j;show F2 I (by rw[e];show uc) C (q,o) (x,B,_,(i.put k M f).80 λc ys S=>?_,q,N,ep,o,R,T,h4,U)
  rwa[AE (Qg S e (λz=>nomatch z))]
theorem Zu(I:Inv X f g H s)(e:H a=U (.d b))(p:RelV (kV k) u)(l:An b k=U v)(B:more=[]\/∃x,more=[x])
  (h:∀o C,Inv X f g (upd H a (.d (CO b k))) C->RelV v o->Q o C):wpAny (model X.p X.w) A (call (sV "dict.pop") (sR a::u::more)) Q E s:=by
 let(z,L,vs,d,y):=N4 I.gA e;let(o,J,r):=iI.some_of (by rw[←l];show d.val k)
 let F:(keyPart u).24=iY:=by
  cases k with
  |inl i=>let(t,q):=(p);subst q;rfl
  |inr x=>let(t,q):=(p);subst q;rfl
 let m:argsOk "dict.pop" (sR a::u::more,[]):=by
  let q||(x,q):=B
  ·subst q;show args_dict_pop_2 _ _
  ·subst q;show args_dict_pop_3 _ _ _
 show call_meetsIn slot_dict_pop y.43 entry_dict_pop m (meets_dict_pop_there (Ag X.p X.w) a (E8 p) more B F)
  (vs,o,y,by rw[←d.9];show z,J,λN j M=>h o _ ?_ r)
 let D:∃q,N.14 a=U q:=let(q,_,_,G,_):=j;(q,G)
 show F2 I (by rw[e];show uc) M D (Gj (tT (Tv b k) z) L (d.drop k) j)
theorem Zv(I:Inv X b g H s)(e:Rd H a (.d f))(h:∀t i,Inv X b g H i->Q (tV f.9 t) i):wpAny (model X.p X.w) A (call (sV "len") [sR a]) Q E s:=by
 let(z,l,vs,d,j):=DK I.gA e;apply call_len_dict l j (by rw[←d.9];rw[sizeLine_eq]at z;lia);rw[←d.9];show h _ _ (I.96 _)
def Zx(i:Expr):Prop:=∀d b,subscripted i O d b=operate [d,b] (getItem d b)
theorem WJ{s}{y}{w}{A}{E:VS}{prog}{q}{d a}{T id}{Q:VS}
  (z:typeLookup (sW T) "__getitem__"=pure (U (sV id))) (b:Zx a)
  (h:wpAny (model prog w) A (eval d q) (λo l=>wpAny (model prog w) A (eval a q) (λi e=>e.TypeIs o T/\wpAny (model prog w) A (getItem o i) Q E e) E l) E s):
  wpAny (model prog w) A (eval (vA d a y) q) Q E s:=by
 show Subscript_ (zm h (λo l v=>zm v (λi e j=>?_) λ_ _ x=>x) λ_ _ x=>x);let(B,j):=j;apply zo;show zo (wpAny_specialOf B z ?_)
 let t:wpAny (model prog w) A (subscripted a O o i) (λr p=>wpAny (model prog w) A (letTemporaryGo d o r >>= λ_=>pure r) Q E p) E e:=by
  rw[b o i];show wpAny_operating (zm j (λr p u=>zo (wpAny_letTemporaryGo (zn u))) λ_ _ x=>x)
 first
  |show zn (zo t)
  |show zo (zn (zo t))
  |show zo t
theorem N5(I:Inv X f j H s)(g:Mj H a y o):s.TypeIs (sR a) oK:=by
 let(h,k,e,_,_)||(h,k,b,e,_,_,_):=g
 ·let(_,_,vs,_,d):=DK I.gA e;show d.43
 ·let(_,_,i,_,d):=J1 I.gA e;show d.43
inductive ExD(x:V)(H:Hp)(y:V)(k:V->Prop):Prop
 |mk (a) (v) (b:x=.r a) (d:Mj H a y (U v)) (q:k v):ExD x H y k
def Zy(td ty:TE):TE:=λd H Q=>td d H λx f=>ty d f λy b=>ExD x b y λv=>Q v b
def cu(ty td:TE):TE:=λd H Q=>ty d H λy f=>td d f λx b=>E₂ λa o=>C₃ (x=.r a) (Mj b a y o) (Q (.l o.24) b)
def WK(ty td:TE):TE:=λd H Q=>ty d H λy f=>td d f λx b=>E₂ λa o=>C₃ (x=.r a) (Mj b a y o) (Q (.l (!o.24)) b)
def Zz(td ty b:TE):TS:=λD d H=>b d H λv g=>td d g λx h=>ty d h λy i=>E₂ λa f=>C₃ (x=.r a) (jc i a y v f) (D.nx d f)
theorem Am(p:X.A.42+1<cLine)(C:PE X o td)(E:PE X i ty)(b:Zx i:=by intro _ _;rfl):PE X (vA o i f) (Zy td ty):=by
 intro d s l H Q I h;show WJ PySem.F.slot_dict_getitem.lookup b (gH (C d s l H _ I h) λu D (x,F,t,A,q1)=>gH (E d D l F _ t q1) λw G n=>?_);let(y,q,j,r,a,v,B,g,q2):=n;subst B;obtain rfl:u=sR a:=A;show(N5 j g,SB p j g r λm s3 z e=>(v,q,z,e,q2))
theorem Gk(j:X.A.42+1<cLine)(D:PE X i ty)(B:PE X o td):PC X .In i o (cu ty td):=by
 intro d s e H Q I h;show gH (D d s e H _ I h) λG C (y,E,t,r,q1)=>gH (B d C e E _ t q1) λu F k=>?_;let(x,l,q,z,a,p,A,g,q2):=k;subst A;obtain rfl:u=sR a:=z;show cr j q g r λs3 v=>(.l p.24,l,v,Y,q2)
theorem F3(j:X.A.42+1<cLine)(D:PE X i ty)(B:PE X o td):PC X .NotIn i o (WK ty td):=by
 intro d s e H Q I h;show gH (D d s e H _ I h) λG C (y,E,t,r,q1)=>gH (B d C e E _ t q1) λu F k=>?_;let(x,l,q,z,a,p,A,g,q2):=k;subst A;obtain rfl:u=sR a:=z;show WI j q g r λs3 v=>(.l (!p.24),l,v,Y,q2)
theorem Cn(l:X.A.42+1<cLine)(f:PE X o td)(N:PE X i ty)(A:PE X b T)(m:swapsWith b (U (vA o i P)) w.70 X.e=pure O):
  PS X (vn [vA o i P] b w) (Zz td ty T):=by
 intro d s e H D I h;show wpAny_Assign_Subscript (gH (A d s e H _ I h) λr M (v,ag,B,ab,q1)=>gH (f d M e ag _ B q1) λu j (x,p,t,F,q2)=>gH (N d j e p _ t q2) λS s3 c=>?_) m;let(y,Q,C,z,a,E,G,g,q3):=c;subst G;obtain rfl:u=sR a:=F;show SC l C g z ab λR q=>(e,E,q,q3)
theorem J2(h:Heap)(a:sysModules<h.10):hO P w H (h.71 {cls:=sW oK,data:=wh #[]}) h.10 (.d []):=
 (tH _,beq_eq_false_iff_ne.49 (_),[],tO,Heap.DictOf.new h)
def YT:TE:=λ_ H Q=>∀p,H p=J->Q (.r p) (upd H p (.d []))
theorem B8:PE X (.Dict [] [] b) YT:=λa s d H Q I h=>
 wpAny_Dict_empty (.r s.8,_,I.laid (λ_ _ q=>zU _ q) (zp _) (J2 s.16 I.big),rfl,h _ (I.18 (zp _)))
def Pj:List (TE×TE)->St->Hp->(List (V×V)->Hp->Prop)->Prop
  | [],_,H,Q=>Q [] H
  | (i,j)::r,b,H,Q=>i b H λx d=>j b d λy f=>Pj r b f λh g=>Q ((x,(y))::h) g
abbrev VV:List (V×V)->List (Value×Value)->Prop:=Paired λp q=>RelV p.1 q.1/\RelV p.2 q.2
def PPs(X:Cx)(d:Pos)(b:List (Option Expr))(g:List Expr)(f:List (TE×TE)):Prop:= ∀j s(h:St)H Q,Inv X j h H s->Pj f h H Q -> ik X (evalPairs (pairTrees b g X.e d)) (λvs m=>E₂ λl i=>C₃ (Inv X j h i m) (VV l vs) (Q l i)) X.x s
theorem Qr:PPs X b [] [] []:=λa s d H Q I h=>pairTrees_nil_walk ([],H,I,tO,h)
theorem DL(E:PE X k g)(z:PE X v m)(q:PPs X f b vs d):
  PPs X f (U k::b) (v::vs) ((g,(m))::d):=λa s i H Q I h=>
 pairTrees_cons_walk (gH (E a s i H _ I h) λu D (x,F,A,C,q1)=>gH (z a D i F _ A q1) λw l (y,p,r,t,q2)=>
  gH (q a l i p _ r q2) λG s3 K=>by let(j,o,B,e,q3):=K;show ((x,(y))::j,o,B,tP (C,t) e,q3))
def Eb(b more:LK):LK:=more.68 (λacc d=>BS acc d.1 d.2) b
theorem KV.merge:∀{more:LK}{a}{b:LK}{vs},KV more a->KV b vs->KV (Eb b more) (merged vs a):=by
 intro more a b vs r;induction r generalizing b vs with
 |nil=>intro q;show q
 | @cons p q j l h t i=>
  intro d
  let e:KV (BS b p.1 p.2) (stored vs q.1 q.2):=by
   have:=d.put p.1 h.2
   rwa[←h.1]
  show i e
theorem GQ:∀more b,(Eb b more).9<=b.9+more.9
 | [],b=>by change b.9<=b.9+0;ext
 |p::r,b=>by
  let d:=GQ r (BS b p.1 p.2);let a:=B3 b p.1 p.2;change(Eb (BS b p.1 p.2) r).9<=_
  grind
theorem J3:∀{f:LK}{e},VV (f.7 λi=>(kV i.1,(i.2))) e->∃d,Carries (Ag P w) e d/\KV f d
 | [],_,r=>by rw[map_nil]at r;cases r;show([],uc,tO)
 |p::f,_,r=>by
  cases r with
  | @cons a b l bs h t=>
   let(d,c,q):=J3 t;let(b1,j):=b;show((p.1,(j))::d,(E8 h.1,Y,c),tP (Y,h.2) q)
def Z0(b:List (TE×TE)):TE:=λi H Q=>∀p,H p=J->Pj b i (upd H p (.d [])) λh f=>f p=U (.d [])/\∃d,C₃ (h=d.7 (λg=>(kV g.1,(g.2)))) (d.9<=15) (Q (.r p) (upd f p (.d (Eb [] d))))
theorem Qs(h:PPs X g b f o)(j:b.94 (·.24)=L)(F:b.9=f.9)(y:b≠ [])
  (l:b.9<=15):PE X (.Dict b f g) (Z0 o):=by
 intro i s E H Q I q;show wpAny_Dict_walk (knd:=Ag X.p X.w) j F y l (gH (h i _ E _ _ (I.laid (t':=s.57) (λ_ _ q=>zU _ q) (zp _) (J2 s.16 I.big)) (q _ (I.18 (zp s.8)))) λM P k=>?_);let(N,R,r,p,e,a,ep,S,q2):=k;subst ep;let(v,c,rk):=J3 p;let(z,G,B,x,t):=N4 r.gA e;cases x;show(v,c,t,λw d m=>(.r s.8,_,?_,Y,q2))
 let C:(Eb [] a).9<=sizeLine:=by
  let u:=GQ a [];rw[length_nil]at u;rw[sizeLine_eq];lia
 let A:∃q,w.14 s.8=U q:=by let(q,_,_,D,_):=d;show (q,D)
 show F2 r (by rw[e];show uc) m A (Gj C G (rk.merge tO) d)
structure M1(X:Cx)(o:Expr)(m:Str)(apos:Pos)(e:Expr)(i4:Pos):Prop where
 base:attributeBase o m X.e (eval o X.e)=eval o X.e
 few:((backTo i4 (starEach [e] X.e)).94 (λx=>!x.1)&&(backToKw i4 (keywordEach [] X.e)).94 (λx=>x.1.24)
  && decide (([e]:List Expr).9+([]:List Keyword).9+(if ([]:List Keyword).99 then 0 else 1)<30))=L
 line:(apos.endLine==i4.70)=L
 trees:backTo i4 (starEach [e] X.e)=[(O,(eval e X.e))]
def IsD(H:Hp)(a:nq):Prop:=(∃b,Rd H a (.d b))\/∃b,Rd H a (.h b)
theorem Ml(I:Inv X f g H s)(d:IsD H a):
  s.TypeIs (sR a) oK /\ (∀b,sR a=sR b->∃h,s.3 b=U h/\h.93=J)/\(a==sysModules)=O:=by
 let(p,e)||(p,e):=d
 ·let(_,o,vs,_,i):=DK I.gA e;show(i.43,λb q=>?_,o);cases q;let(h,_,_,j,l,_):=i;show(h,j,l.2.1)
 ·let(_,o,r,_,i):=J1 I.gA e;show(i.43,λb q=>?_,o);cases q;let(h,_,_,j,l,_):=i;show(h,j,l.2.1)
theorem YU(x:A.42+1<cLine)(I:Inv X f m H s)(g:Mj H a y o)(t:RelV y u)(h:∀r v,Inv X f m H v->RelV (o.44 .g) r->Q r v):
  wpAny (model X.p X.w) A (call (sV "dict.get") [sR a,u]) Q E s:=by
 let(p,k,e,q,l)||(p,k,b,e,q,C,l):=g
 ·subst q;let(z,j,vs,d,i):=DK I.gA e;show call_meetsIn slot_dict_get i.43 entry_dict_get (args_dict_get_2 _ _) (meets_dict_get (Ag X.p X.w) a (E8 t) j) (_,i.mapOf,h _ _ (I.96 _) ?_);rw[l];show(d.val k).44 rfl
 ·subst q;cases (t);let(z,j,B,d,i):=J1 I.gA e;show call_meetsIn slot_dict_get i.43 entry_dict_get (args_dict_get_2 _ _) (meetsH_dict_get (tupleKind (Ag X.p X.w)) a b j) (tupleKind_room_in1 x,k,B,Ig I.gA C,i,h _ _ (I.96 _) ?_);rw[l];show(d.val k).44 rfl
def YV(td ty:TE):TE:=λf H Q=>td f H λx b=>∃a,x=.r a/\IsD b a/\ty f b λy d=>∃o,Mj d a y o/\Q (o.44 .g) d
def YW(td ty:TE):TE:=λg H Q=>td g H λx d=>∃a,x=.r a/\IsD d a/\ty g d λy f=>E₃ λb k v=>C₄ (f a=U (.d b)) (y=kV k) (An b k=U v) (Q v (upd f a (.d (CO b k))))
theorem Tw(q:X.A.42+1<cLine)(D:PE X o td)(z:PE X e ty)(m:M1 X o "get" b e f):PE X (uJ (tR o "get" b) [e] [] f) (YV td ty):=by
 intro i s p H Q I h;show wpAny_Call_method m.base m.few m.70 plainAttrs_dict slot_dict_get type_dict_get (gH (D i s p H _ I h) λu E k=>?_);let(x,F,l,B,a,C,d,q1):=k;subst C;obtain rfl:u=sR a:=B;let(t1,t2,_):=Ml l d;show(t1,t2,?_);rw[m.trees];show uS Y (Calls.evalArgs_plain (Calls.spliced_cons (gH (z i E p F _ l q1) λM G n=>by let(y,r,t,v,w,g,q2):=n;show Calls.spliced_nil (YU q t g v λN s3 A j=>(_,r,A,j,q2)))))
theorem J4(G:PE X o td)(B:PE X e ty)(m:M1 X o "pop" b e f):PE X (uJ (tR o "pop" b) [e] [] f) (YW td ty):=by
 intro i s q H Q I h;show wpAny_Call_method m.base m.few m.70 plainAttrs_dict slot_dict_pop type_dict_pop (gH (G i s q H _ I h) λu g n=>?_);let(x,w,p,E,a,F,d,q1):=n;subst F;obtain rfl:u=sR a:=E;let(t1,t2,_):=Ml p d;show(t1,t2,?_);rw[m.trees];show uS Y (Calls.evalArgs_plain (Calls.spliced_cons (gH (B i g q w _ p q1) λR M (y,N,z,A,r,k,v,t,C,l,q2)=>Calls.spliced_nil ?_)));subst C;show Zu z t A l (sU Y) λP s3 D j=>(v,_,D,j,q2)
end
end L2
namespace Att
open PySem PySem.W PySem.Calls PyProof.Rows
theorem Ji:∀d vs,WellAll P h vs (d.7 WData.int)->IntsAre vs d:=by
 intro d;induction d with
 |nil=>
  intro vs w;cases w;show .nil
 |cons n d e=>
  intro vs w;cases w with
  |cons a b=>
   cases a;show .cons _ _ (e _ b)
theorem SD{h}{l:OpenLaw}(z:l.most=U n)   
    (e:l.row.toRowW.claim.pre args=L) (t:WellAll P h b args):
    ∃a vs i,b=[sR a]/\args=[WData.list (i.map WData.int)]/\h.get? a=U {cls:=sW oq,data:=uW vs.toArray}/\IntsAre vs i/\i.length<=n:=by
  let(d,r,rfl,x,v):=hasAllW_cons ((pre_splitW e).1);obtain rfl:=hasAllW_nil v;let(D,rfl,A):=hasW_list x;let(i,rfl):=items_int A
  let j:i.length<=n:=by
    let u:(WTm.not (.lt (.lit (.int n)) (.len (.arg 0)))).holds [] {args:=[.list (i.map .int)]}=L:=by
      let u:=(holds_andW ((pre_splitW e).2)).1
      rwa[z]at u
    let p:=condW_of u (w_not (w_lt w_lit (w_len_list (w_arg rfl))));show Nat.le_of_not_lt λq=>?_
    first
      | (rw[zI q']at p;show absurd p qc)
      | (simp at p;lia)
  cases t with
  |cons y B=>
    cases B;cases y with
    |list C o=>show(_,_,i,rfl,rfl,C,Ji i _ o,j)
theorem SE(l:OpenLaw)(a):l.row.toRowW.claim.72 a (.bool L) a=L:=
 postW_of
  (by rfl)
  (w_eq_bool (w_res rfl) w_lit) rfl
theorem attach_call{l:OpenLaw}{m}{d}
  (M:l.most=U n) (z:d.params.defaults=[])
  (call:∀w h e(g A:SV)v o C b j a vs x,
   Ground q loose [] XP w h g A e.16->m w e.16 ->
   e.3 v=U o->o.34=.func (docDef d.name d.62 d.body d.scope C b j)->e.heap.CodeRec b d.name->g d.name=U (sR v) ->
   e.3 a=U {cls:=sW oq,data:=uW vs.11}->IntsAre vs x->x.9<=n->e.gens=#[] ->
   codeAny (model l.77 w) callerA (.call (sR v) ([sR a],[])) (λr y=>r=.ok (.ret (uO iY))/\OldK e.16 y.16/\y.os=e.os/\AllBare y.gens) e):
  WalkO q loose XP m l.row.toRowW d [] (λf vs=>PySem.call f vs):=by
 intro w h e g A G ab v o C b j Q kV ho P E F D T I H as p ag S B X;obtain rfl:Q=tj:=Dflts.none F z;obtain rfl:kV=tj:=Dflts.noKw F;let(a,vs,x,rfl,rfl,u,i,t):=SD M p B;show enter_call (codeAny_mono (call w h e g A v o C b j a vs x G ab ho (fd_plain P) E D u i t T) λr y R=>?_);let(rfl,L,N,Z):=R;show(sU (uO iY,.bool iY,[],rfl,λ_=>rfl,.bool iY,SE l _,λ_=>(List.Pairwise.nil,λ_ s=>(nomatch s))),L,N,Z)
end Att
namespace L2
open PySem PySem.Spec PyProof.Rows
mutual
theorem F4{vs}{a}(h:IntsAre vs a):Vals (a.7 V.t) vs:=by
 induction h with
 |nil=>show tO
 |cons x t _ ih=>show tP (t,rfl) ih
abbrev gG:CXT:=λ_ _ _ _ _ _=>False
abbrev E0:XK:=λ_ _ _=>False
theorem Ai:Bc gG X E0:=λ_ _ _ _ _ _ _ h=>h.40
structure gE(K:FG)(x qual:Str)(st:Stmt)(f:nq)(fd:FuncData):Prop where
 ex:∃(oc:Value)(od:Option nq)(kV doc pm:Value)(an:Option nq)(ff ct:Value)(lA:Array (Option Value)),
  fd=W.fnOf x qual (defArgs st) (defBody st) (defScope st) tj kV doc pm an ff ct/\K.5 f=U (oc,od,.func fd,lA)/\W.codeIn K ff qual=L
 kp:vc K (sR f)=L
theorem gE.ok{P}{w}{x}{C}{D}{N}{I}{qual}{st}{f}{G}{g}{k}{B}(F:gE C x qual st f G)(S:AI N g (defScope st))(len:∀vs H Q E,B vs H Q E->vs.9=g.9)
  (d:∀a A b s H vs Q E,gD k (A.55 (envOfC qual (defScope st) s.8 f a))->B vs H Q E ->
   ∃t,iZ (CN gG P w C I D N qual (defScope st) f a A b s H E).kr (defBody st) t/\t {nx:=λ_ M=>Q .g M,rt:=Q} (start N vs) H):AT P w C I D gG (k+1) f G g B:=by
 let(z,r,kV,l,y,u,a,v,j,rfl,o,e):=F.ex;show Qm o e S len λA b s H vs Q E p i=>?_;let(t,h,q):=d a A b s H vs Q E p i;show(t,h.kr,q)
structure BdC(P:Program)(w:World)(K:FG)(mg:SV)(base:Heap)(f:nq)(qual:Str)(st:Stmt)(N ps:ni)(k:Nat)(vs:nk)(H:Hp)(Q:VK)(E:XK):Prop where
 len:vs.9=ps.9
 ok:∀ff A outer s,gD k (A.55 (envOfC qual (defScope st) s.8 f ff)) ->
  ∃t,iZ (CN gG P w K mg base N qual (defScope st) f ff A outer s H E|>.kr) (defBody st) t/\t {nx:=λ_ H'=>Q .g H',rt:=Q} (start N vs) H
theorem gE.m{P}{w}{x}{d}{g}{N}{j}{qual}{st}{f}{i}{b}{k}{l}(F:gE d x qual st f i)(S:AI N b (defScope st))(h:∀vs H Q E,l vs H Q E->BdC P w d j g f qual st N b k vs H Q E):
  AT P w d j g gG (k+1) f i b l:=F.ok S (λvs H Q E q=>(h vs H Q E q).50) λc A o s H vs Q E r q=>(h vs H Q E q).ok c A o s r
theorem gE.binds{x}{s}{qual}{st}{f}{g}{b}(F:gE s x qual st f g)
  (h:∀kV d l i a j e,e.9=b.9->bindArgs (W.fnOf x qual (defArgs st) (defBody st) (defScope st) tj kV d l i a j) (e,[])=pure (b.zip e)):Binds s g b []:=by
 let(r,q,kV,d,l,i,a,j,p,rfl,t,o):=F.ex;show .all (_)
theorem fun_mk{x:PySem.Str}{K:FG}{qual:Str}{st:Stmt}{f:nq}{oc:Value}{od an:Option nq}{lA:Array (Option Value)}{kV doc pm ff ct:Value}(l:K.5 f=U (oc,od,.func (W.fnOf x qual (defArgs st) (defBody st) (defScope st) tj kV doc pm an ff ct),lA))
  (c:W.codeIn K ff qual=L) (k:vc K (sR f)=L):gE K x qual st f (W.fnOf x qual (defArgs st) (defBody st) (defScope st) tj kV doc pm an ff ct):=((oc,od,kV,doc,pm,an,ff,ct,lA,rfl,l,c),k)
theorem BY{k}(a:gD k A):A.42+1<cLine:=tw (_) a.42
theorem AR{n}(h:n<=1000):n<sizeLine:=tw h qc
theorem pv(i)(d:X.N[i]?=U x:=by rfl)(e:Vis X.37 x:=by first|show Or.inl rfl|show Or.inr (Or.inl rfl)|show Or.inr (Or.inr rfl))(h:jg x:=by decide)
  (a:(x==(rQ:Str))=O:=by decide):PE X (tI x b) (LI i):=Te d e h a
abbrev _root_.Z:=@pv
theorem Ih:gP X (sV "len") (λf H Q=>∃a b,f=[V.r a]/\H a=U (.d b)/\Q (.t b.9) H):=by
 rintro d s l H f j Q I r ⟨a,b,rfl,e,q⟩;let(u,rfl,h):=Bq r;cases h;show Zv I (sU e) λt o i=>(.t b.9,H,i,(t,Y),q)
theorem AV{A B:Prop}(h:B):if O=L then A else B:=by
 rwa[zg tF]
theorem Aj{A B:Prop}(h:A):if L=L then A else B:=by
 rwa[zf rfl]
theorem BF{c A B:Prop}[Decidable c](d:c->A)(a:¬ c->B):if c then A else B:=by
 by_cases h:c
 ·rw[zf h];show d h
 ·rw[zg h];show a h
theorem Qt{c A B:Prop}[Decidable c](a:c)(h:B):if (!decide c)=L then A else B:=by
 rw[zI a];show AV h
def fJ(H d:Hp):Prop:=∀b o,H b=U o->d b=U o
theorem fJ.r(H):fJ H H:=λ_ _ h=>h
theorem fJ.trans(a:fJ H f)(b:fJ f d):fJ H d:=λc o h=>b c o (a c o h)
theorem fJ.seq(e:fJ H b)(h:fV f H a d):fV f b a d:=by
 rcases h with (h|⟨o,h⟩)|h
 ·show sU (sU (e _ _ h))
 ·show sU (sY (o,e _ _ h))
 ·show sY h
end
section
variable {κ:Type} [DecidableEq κ]
theorem WL{b}{k:κ}(h:An b k=U v):k∈b.7 (·.1):=by
 let q:(b.91 λd=>decide (d.1=k))=L:=by
  rw[DJ,h]
  all_goals rfl
 let(p,a,e):=any_eq_true.mp q;show zh.49 (p,a,zS e)
theorem WM:∀{l}{k:κ},l.26->¬ k∈l->(l++[k]).26
 | [],k,_,_=>by simp
 |a::r,k,h,b=>by
  grind
theorem SF{p}{r}{k:κ}(e:p.1=k):CO (p::r) k=CO r k:=by
 unfold CO
 ext
theorem SG{p}{r}{k:κ}(e:¬ p.1=k):CO (p::r) k=p::CO r k:=by
 unfold CO
 ext
end
end L2
namespace L2
open PySem PySem.Spec PyProof.Rows
mutual
theorem Inv.track(I:Inv X f g H s)(A:H a=J)(l:a≠X.23)(r:a∈X.a\/X.hZ.8<=a)
  (t:∀x c,X.25 x=U c->c≠a) (j:∀p∈X.n++f,p.1≠a) (new:hO X.p X.w (upd H a o) s.16 a o):Inv X f g (upd H a o) s:=by
 let d:∀b u,H b=U u->b≠a:=λb u e=>AH e A
 show I.step (ch:=[a])
  (λb i=>by let e:b=a:=by simpa using i
            subst e;show(r,l,t,j))
  (λb o _ _ _ e _=>e) (λb o _ _ _ e _=>(o.slots,e)) (λb o z e n=>by rwa[AE (by simpa using z)])
  (λb o _ e=>(o,e)) (λb y e=>by rwa[AE (d b _ e)]) (λb o u e=>by rwa[AE (d b _ e)])
  (λb B e=>(#[],by rw[AE (d b _ e),e];simp)) (λm h=>h) (λb u e=>?_) I.74
 by_cases i:b=a
 ·subst i;rw[fH]at e;cases e;show new
 ·rw[AE i]at e;show(I.gA b u e).i9 (λc v _ q=>q) (λc q=>by rwa[AE (d c _ q)]) λc y q=>by rwa[AE (d c _ q)]
structure gU(lQ sc:Scope)(N N':ni)(ix:List (Option Nat))(z:Option Str):Prop where
 kind:sc.60=uR
 one:∀y∈sc.53,y.2=uz->z=U y.1
 own:∀x,z=U x->sc.13 x=U uz
 free:∀y∈sc.53,y.2=ub->lQ.13 y.1=U uz\/lQ.13 y.1=U ub
 loc:∀y∈sc.53,y.2=uo->sc.13 y.1=U uo
 len:ix.9=N'.9
 slot:∀(j:Nat)x i,N'[j]?=U x->ix[j]?=U (U i)->N[i]?=U x/\sc.13 x=U ub
 cf:∀n cl,cellsFrom n sc.53 cl=(z.7 (λq=>(q,(n)))).33++cl
 pc:∀h,pushCells h sc.53=if z=J then h else h.71 {cls:=sW "cell",data:=.cell J}
noncomputable def Xw(b:Scope)(N:ni)(x:Str):Option Nat->Bool
 |none=>L
 |some i=>decide (N[i]?=U x)&&decide (b.13 x=U ub)
def Ec(b:Scope)(N:ni):ni->List (Option Nat)->Bool
 | [],[]=>L
 |x::r,o::os=>Xw b N x o&&Ec b N r os
 |_,_=>O
theorem J5:∀{d}{a},Ec b N d a=L->a.9=d.9
 | [],[],_=>rfl
 | [],_::_,h=>by simp[Ec]at h
 |_::_,[],h=>by simp[Ec]at h
 |x::r,o::os,h=>by
  simp[Ec,tA]at h;simp[length_cons,J5 h.2]
theorem Ll:∀{d}{a},Ec b N d a=L->∀(j:Nat)x i,d[j]?=U x->a[j]?=U (U i)->N[i]?=U x/\b.13 x=U ub
 | [],_,_,_,_,_,e,_=>by simp at e
 |_::_,[],h,_,_,_,_,_=>by simp[Ec]at h
 |y::r,o::os,h,j,x,i,f,g=>by
  simp[Ec,tA]at h;cases j with
  |zero=>
   simp at f g;subst f g;let l:=h.1;simp[Xw,tA,decide_eq_true_eq]at l;show l
  |succ j=>
   show Ll h.2 j x i f g
def Mm(z:Option Str)(d b:Scope)(N f:ni)(g:List (Option Nat)):Bool:=
 decide (b.60=uR)&&(b.names.94 λy=>(decide (y.2≠ uz)||decide (z=U y.1))&&(decide (y.2≠ ub)||decide (d.13 y.1=U uz)||decide (d.13 y.1=U ub)) &&
  (decide (y.2≠ uo)||decide (b.13 y.1=U uo)))&&(match z with|none=>L|some x=>decide (b.13 x=U uz))&&Ec b N f g
noncomputable abbrev JX:=Mm J
theorem J6:∀{d},(∀y∈d,y.2=uz->(J:Option Str)=U y.1)->(∀n i,cellsFrom n d i=i)/\∀h,pushCells h d=h
  | [],_=>(λ_ _=>rfl,λ_=>rfl)
  | (x,k)::r,h=>by
    let e:(k==uz)=O:=by
      rw[beq_eq_false_iff_ne];show λe=>nomatch h (x,(k)) zF e
    let(a,b):=J6 λy j=>h y (zO _ j);unfold cellsFrom pushCells;simp[e];show(a,b)
theorem gU.ofz(h:Mm z m b N f g=L)(j:∀n o,cellsFrom n b.53 o=(z.7 (λq=>(q,(n)))).33++o)(i:∀h,pushCells h b.53=if z=J then h else h.71 {cls:=sW "cell",data:=.cell J}):gU m b N f g z:=by
 simp only[Mm,tA,decide_eq_true_eq,all_eq_true,vp]at h;let(((p,d),r),l):=h;show(p,λy a e=>?_,λx e=>?_,λy a e=>?_,λy a e=>?_,J5 l,Ll l,j,i)
 ·show(d y a).1.1.elim (λq=>absurd e q) id
 ·subst e;show zS r
 ·rcases (d y a).1.2 with (q|q)|q
  ·show absurd e q
  ·show sU q
  ·show sY q
 ·show(d y a).2.elim (λq=>absurd e q) id
theorem gU.of{a}(h:JX i b N a f=L):gU i b N a f J:=by
 let g:∀y∈b.53,y.2=uz->J=U y.1:=by
  simp only[Mm,tA,decide_eq_true_eq,all_eq_true,vp]at h;show λy d e=>(h.1.1.2 y d).1.1.elim (λq=>absurd e q) id
 show .ofz h (J6 g).1 (J6 g).2
noncomputable abbrev Gm(b:Env):Str×NameKind->Str×NameKind:=λ(n,k)=>if (k==ub&&b.scope.60 == uR&&b.kindOf n==U uz)then (n,(uz))else (n,(k))
theorem N6(a)(y):(Gm a y).1=y.1:=by
 let(n,k):=y;simp[Gm];split<;>rfl
theorem SH(a)(n):(Gm a (n,(ub))).2=uz\/(Gm a (n,(ub))).2=ub:=by
 simp[Gm];split
 ·show sU rfl
 ·show sY rfl
theorem WN(a)(y)(h:y.2≠ ub):Gm a y=y:=by
 let(n,k):=y;let e:(k==ub)=O:=by simpa using h
 simp[Gm,e,wc,Bool.false_eq_true,if_false]
theorem GY:∀{a:List (Str×NameKind)}{x},a.5 x=U ub->(a.7 (Gm b)).5 x=U uz\/(a.7 (Gm b)).5 x=U ub
  | [],_,h=>by simp at h
  | (n,k)::r,x,h=>by
    rw[map_cons]
    let e:Gm b (n,(k))=(n,((Gm b (n,(k))).2)):=by
      have:=N6 b (n,(k));show Prod.ext this rfl
    rw[e];cases d:x==n with
    |true=>
      simp[zq,d]at h ⊢;cases h;let z||z:=SH b n
      · rw[z];show sU rfl
      · rw[z];show sY rfl
    |false=>
      simp[zq,d]at h ⊢;show GY h
theorem JY:∀{a:List (Str×NameKind)}{x},(∀y∈a,y.2=uz->z=U y.1)->((a.7 (Gm b)).5 x=U uz\/(a.7 (Gm b)).5 x=U ub)->(x,(ub))∈a\/z=U x
  | [],_,_,h=>by simp at h
  | (n,k)::r,x,f,h=>by
    rw[map_cons]at h;let e:Gm b (n,(k))=(n,((Gm b (n,(k))).2)):=Prod.ext (N6 b (n,(k))) rfl;rw[e]at h;cases j:x==n with
    |true=>
      let d:x=n:=by simpa using j
      subst d;by_cases i:k=ub
      · subst i;show sU zF
      · rw[WN b (x,(k)) i]at h
        let q||q:=h
        · show sY (f (x,(k)) zF (by simpa using q))
        · show absurd (by simpa using q) i
    |false=>
      simp[zq,j]at h;show(JY (λy l=>f y (zO _ l)) h).imp_left (zO _)
theorem Mn{g:Env}{f}
  (h:∀y acc,y.2≠ ub->f y acc=pure (vd acc)) (i:∀y acc c,y.2=ub->g.cells.5 y.1=U c->f y acc=pure (vd ((y.1,(c))::acc))):
  ∀(names:List (Str×NameKind))acc,(∀y∈names,y.2=ub->∃c,g.cells.5 y.1=U c)->(∀x c,acc.5 x=U c->g.cells.5 x=U c) ->
   ∃b,forIn names acc f=(pure b:Sem _)/\(∀x c,b.5 x=U c->g.cells.5 x=U c)/\(∀y∈names,y.2=ub->∃c,b.5 y.1=U c)/\∀x c,acc.5 x=U c->∃j,b.5 x=U j
 | [],acc,_,p=>(acc,rfl,p,λ_ o=>(nomatch o),λx c e=>(c,e))
 |y::r,acc,s,p=>by
  let u:=λz l=>s z (zO _ l);by_cases o:y.2=ub
  ·let(c,hc):=s y zF o
   let(b,e,p1,p2,p3):=Mn h i r ((y.1,(c))::acc) u λx d e=>by
    cases m:x==y.1 with
    |true=>
     simp[zq,m]at e;have:x=y.1:=by simpa using m
     rwa[this,←e]
    |false=>
     simp[zq,m]at e;show p x d e
   show(b,by rw[List.forIn_cons,i y acc c o hc];show e,p1,λz l q=>?_,λx d e=>?_)
   ·let rfl||l:=mem_cons.mp l
    ·show p3 z.1 c (_)
    ·show p2 z l q
   ·cases m:x==y.1 with
    |true=>show p3 x c (by simp[zq,m])
    |false=>show p3 x d (by simp[zq,m];show e)
  ·let(b,e,p1,p2,p3):=Mn h i r acc u p;show(b,by rw[List.forIn_cons,h y acc o];show e,p1,λz l q=>?_,p3);let rfl||l:=mem_cons.mp l
   ·show absurd q o
   ·show p2 z l q
theorem Qu(g:∀y∈scope.53,y.2=ub->∃c,d.cells.5 y.1=U c):
  ∃b,closureFor scope d=pure b/\(∀x c,b.5 x=U c->d.cells.5 x=U c)/\∀y∈scope.53,y.2=ub->∃c,b.5 y.1=U c:=by
 let(b,e,p1,p2,_):=Mn (f:=λx r=>if (x.2==ub)=L then (cellOf d x.1 >>= λa=>pure (vd ((x.1,(a))::r)))else pure (vd r)) (λy acc h=>by
  have:(y.2==ub)=O:=by simpa using h
  rw[this,zg tF]) (λy acc c h m=>by
  let l:(y.2==ub)=L:=by rw[h];rfl
  rw[zf l];simp only[cellOf,m]
  rfl) scope.53 [] g λx c e=>by simp at e
 show(b,?_,p1,p2);let j:closureFor scope d=(forIn scope.53 [] (λx r=>if (x.2==ub)=L then (cellOf d x.1 >>= λa=>pure (vd ((x.1,(a))::r)))else pure (vd r)) >>= λi=>pure i):=rfl;rw[j,e];rfl
abbrev XE:=List (Str×nq)->nr->Hp->nq->List nq->LO->Value->nr->Prop
noncomputable def jK(z:Option Str)(j:XE)(X:Cx)(h:ni)(scope:Scope)(d:List (Str×nq))(s:nr)(H:Hp)(C:nq)(f:List nq)(g:LO):Cx where
 p:=X.p
 w:=X.w
 K:=X.K
 m:=X.m
 b:=X.b
 A:=X.A
 N:=h
 hZ:=s
 i:=H
 e:=compEnvC scope d C X.e
 o:=X.s
 s:=X.s
 a:=f
 fn:=λx=>decide (z=U x)
 c:=X.c
 n:=g
 x:=j d s H C f g
abbrev xN:XE:=λ_ _ _ _ _ _ _ _=>False
noncomputable abbrev CA:=jK J xN
noncomputable abbrev ko(z:Option Str)(b:nq)(d:List (Str×nq)):List (Str×nq):=(z.7 (λq=>(q,(b)))).33++d
theorem JZ{X:L2.Cx}{z}{b}{a}(h:∀x c,a.5 x=U c->X.25 x=U c){c}(e:(ko z b a).5 x=U c):X.25 x=U c\/(z=U x/\c=b):=by
 cases z with
 |none=>show sU (h x c e)
 |some z=>
  let e:((z,(b))::a).5 x=U c:=e;cases d:x==z with
  |true=>
   simp[zq,d,Option.some.injEq]at e;show sY (by simpa using Eq.symm (by simpa using d),e.31)
  |false=>
   simp[zq,d]at e;show sU (h x c e)
theorem Tx(e:b.5 x=U c)(n:z≠U x):(ko z d b).5 x=U c:=by
 cases z with
 |none=>show e
 |some z=>
  change((z,(d))::b).5 x=U c
  have:(x==z)=O:=by
   rw[beq_eq_false_iff_ne];show λq=>n (by rw[q])
  simp[zq,this];show e
theorem Ty:(ko (U x) b d).5 x=U b:=by
 change((x,(b))::d).5 x=U b;simp
theorem Tz        
  (i:∀n a,cellsFrom n scope.53 a=ko z n a) (d:∀h,pushCells h scope.53=if z=J then h else h.71 {cls:=sW "cell",data:=.cell J})
  (p:∀f,f.Ns s.8 (λ_=>J)->(z≠J->f.IsCell (s.8+1) J)->(∀b o,s.3 b=U o->f.14 b=U o) ->
   Q ({scope,locals:=s.8,globals,cells:=ko z (s.8+1) a,qual,func:=J,code:=g.code,frame:=g.frame,builtins:=g.builtins}) ({s with heap:=f})):
  wpAny M A (newFunctionEnv scope globals a [] qual J tj (U g)) Q E s:=by
 simp only[newFunctionEnv,Option.isSome_some,if_true];show zo (wpAny_alloc (zo (wpAny_layCells _ (λl kind cells=>by cases r:kind==uz<;>simp) _ _ _ _ ?_)));rw[i,d,show({s with heap:=s.19 {cls:=sW oK,data:=wh #[]}}:nr).8=s.8+1 from u9 ..];apply zo;show zn (zn ?_);by_cases j:z=J
 ·rw[zf j];show p _ (Heap.Ns.new s.16 (sW oK)) (λq=>absurd j q) λb o e=>zU _ e
 ·rw[zg j];show p _ ((Heap.Ns.new s.16 (sW oK)).80 λb o e=>zU _ e) (λ_=>?_) λb o e=>zU _ (zU _ e);let e:=zK (s.19 {cls:=sW oK,data:=wh #[]}) (o:={cls:=sW "cell",data:=.cell J}) rfl;rw[u9]at e;show(_,e,Y)
noncomputable def FL(b:List (Option Nat))(d:St):St:=b.7 λo=>o.bind λi=>(d[i]?).join
theorem WO{b}{a}{j:Nat}{v}(h:(FL a b)[j]?=U (U v)):∃i,a[j]?=U (U i)/\b[i]?=U (U v):=by
 unfold FL at h;rw[zx]at h;cases e:a[j]? with
 |none=>rw[e]at h;cases h
 |some o=>
  rw[e]at h;simp at h;cases o with
  |none=>cases h
  |some i=>
   show(i,rfl,?_);simp at h;cases q:b[i]? with
   |none=>rw[q]at h;cases h
   |some u=>rw[q]at h;simp at h;rw[h]
theorem WP(I:Inv X m N H s)(r:gU X.37 scope X.N w G z)(p:∀x c,g.5 x=U c->X.25 x=U c)(B:∀y∈scope.53,y.2=ub->∃c,g.5 y.1=U c)
  (t:s.8<=C) (j:s.8<=f) (a:∀b∈A,Gg X m H b) (i:∀b∈A,b<s.8):(jK z M X w scope (ko z f g) s H C A (X.n++m)).Ok where
 mod:=I.mod
 kind:=r.60
 glob:=I.ok.glob
 blt:=I.ok.blt
 above:=t
 inj:=λx y c F D=>by
  let lt:=λx e=>let(v,q):=I.84 x c e;q.lt
  let q1||q1:=JZ p F<;>let q2||q2:=JZ p D
  ·show I.ok.inj x y c q1 q2
  ·have:=lt x q1;rw[q2.2]at this;show absurd this (Nat.not_lt.mpr j)
  ·have:=lt y q2;rw[q1.2]at this;show absurd this (Nat.not_lt.mpr j)
  ·show tS (q1.1.92 q2.1)
 has:=λx h=>by
  by_cases l:z=U x
  ·subst l;show(f,Ty)
  ·let(c,e):=B (x,(ub)) ((JY r.one h).resolve_right l) rfl;show(c,Tx e l)
 kY:=λx c h e=>by
  let E:=zS h;subst E;let u:(ko (U x) f g).5 x=U c:=e;rw[Ty]at u;cases u;show j
 hd:=I.66
 frames:=I.ok.46
 jB:=sU rfl
 exf:=λb d=>(zu (zY (i b d) t),λx c e=>(JZ p e).40 (λq=>(a b d).2.2.2.2.1 x c q) λq=>q.2 ▸ uH (zY (i b d) j))
 bs:=I.bs
 jG:=tT I.ok.jG I.sz
 js:=λb o e d=>by
  let z||z:=(a b d).2.2.2.1
  ·show I.ok.js b o e z
  ·show absurd (zY (zY (lt_size e) I.ok.jG) z) (zy _)
 jv:=λb d z=>by
  let e||e:=mem_cons.mp (I.iO b z)
  ·show(a b d).2.1 e
  ·show(a b d).2.2.1 e
 iu:=I.stack
 jY:=I.stkFree
theorem Ed:∀{l:List (Str×NameKind)},l.5 x=U k->(x,(k))∈l
  | [],e=>nomatch e
  | (n,d)::r,e=>by
    cases a:x==n with
    |true=>
      simp[zq,a,Option.some.injEq]at e;have:x=n:=by simpa using a
      subst this e;show zF
    |false=>
      simp[zq,a]at e;show zO _ (Ed e)
theorem Pk(I:Inv X g as H s)(A:gU X.37 scope X.N w P z)(D:∀x c,u.5 x=im c->X.25 x=im c)(N:∀y∈scope.53,y.2=ub->∃c,u.5 y.1=im c)
  (f:s.8<=C) (m:s.8<=r) (M:∀b∈T,Gg X g H b) (E:∀b∈T,b<s.8)    (l:∀b o,s.3 b=im o->t.14 b=im o) (F:t.Ns C al)
  (G:z≠J->t.IsCell r J):Inv (jK z xe X w scope (ko z r u) s H C T (X.n++g)) [] (FL P as) H {s with heap:=t,toks:=tk} where
 ok:=WP I A D N f m M E
 os:=rfl
 bare:=I.74
 base:=Un.kept l
 loc:=(al,F,λj x v e1 ag e3=>by
  let(i,U,ev):=WO ag;let(hN,h):=A.slot j x i e1 U;let(mX,_,hl):=I.loc;let Q:=Ed h;let S:=A.54 _ Q rfl;let(ar,an,q):=hl i x v hN ev (sY S);show(ar,an,sY (GY h,?_));let(c,R):=N _ Q rfl;show(c,Tx R λe=>?_,?_)
  ·rw[A.own x e]at h;cases h
  let(k,_)||(_,c',B,z):=q
  ·have k':X.28 x=im uo:=k;let a||a:=S<;>(rw[k']at a;cases a)
  ·rw[D x c R]at B;cases B
   show z.80 l)
 cell:=λx c e=>by
  let q||q:=JZ D e
  ·let(v,z):=I.84 x c q;show(v,z.80 l)
  ·rw[q.2];show(_,G (by rw[q.1];show λz=>nomatch z))
 free:=I.18 f
 ie:=λx c e=>(JZ D e).40 (λq=>I.ie x c q) λq=>q.2 ▸ I.18 m
 pin:=λp hp=>by
  let ab:p∈X.n++g:=by
   let z:=hp
   rwa[zj]at z
  let(e,n,ne,nf,d):=I.pin p ab;show(l _ _ e,n,zu (zY (lt_size e) f),λz=>?_,d);let q||q:=mem_cons.mp (I.iO p.1 z)
  ·show ne q
  ·show nf q
 gA:=I.gA.75 l
 len:=by
  unfold FL;rw[AN];show A.50
theorem SI(I:Inv X g m H s)(a:∀b∈h,Gg X g H b)(f:Inv (jK z q X o scope p s H C h (X.n++g)) e i j l):Inv X g m j l:=
 I.call' f.os f.base f.gA f.74 λb d=>((a b d).2.2.2.1,(a b d).2.1,(a b d).2.2.2.2.1,(a b d).2.2.2.2.2)
def k4(X:Cx)(b:List Expr)(t:TT):Prop:=
 ∀f s(d:St)H Q,Inv X f d H s->t d H Q ->
  ik X (forIn b L λc r=>if r=L then do let ok ←isTrue c X.e (eval c X.e);pure (vd ok)else pure (vd r)) (TP X f d Q) X.x s
def cv:TT:=λ_ H Q=>Q L H
theorem BP:k4 X [] cv:=λa s d H Q I h=>wpAny_tests_nil (H,I,h)
theorem DD(h:PT X c t):k4 X [c] t:=λa s d H Q I q=>wpAny_tests_one (h a s d H Q I q)
def tW{b:Type}(d:It)(g:b)(ok:b->Prop)(B:V->b->(b->Hp->Prop)->Hp->Prop)(R:b->Hp->Prop)(f:Hp):Prop:=∃W:Nat->Nat->b->Hp->Prop,(∃m,W 0 m g f)/\∀i m j H,W i m j H ->
 (d.stop i H/\ok j/\R j H)\/(d.go i H/\∃N,(∀l h,N l h->ok l/\∃o,o<m/\W (i+1) o l h)/\∀x h,d.j7 i H x h->B x j N h)
abbrev TAd(b:Type):=b->St->Hp->(b->Hp->Prop)->Prop
abbrev bT{d:Type}(g:TG)(tt:TT)(h:TAd d)(f:List (Option Nat))(i:St):V->d->(d->Hp->Prop)->Hp->Prop:=λx m N o=>g x (FL f i) o λl p=>tt l p λb j=>if b=L then h m l j N else N m j
abbrev Ii{b:Type}(d:b)(ok:b->Prop)(i:TI)(g:TG)(tt:TT)(h:TAd b)(f:List (Option Nat))(R:b->Hp->Prop):St->Hp->Prop:=λj H=>i j H λm l=>tW m d ok (bT g tt h f j) R l
abbrev jU{d:Type}(b:List d):Prop:=b.9<=sizeLine
abbrev jR(b:TE):TAd (nk):=λf g H N=>b g H λy d=>N (f++[y]) d
abbrev Mo(d:TI)(g:TG)(tt:TT)(b:TE):=Ii [] jU d g tt (jR b)
theorem DW{z}{l}{ok}{B}{R}(d:Nat->z->Hp->Prop)(p:d 0 l w)(v:∀i f H,d i f H->ok f)
  (y:∀i f H,i<n->d i f H->s.go i H/\∀x g,s.j7 i H x g->B x f (d (i+1)) g) (o:∀f H,d n f H->s.stop n H/\R f H):tW s l ok B R w:=by
 show(λi m f H=>C₃ (m=n-i) (i<=n) (d i f H),(_,rfl,tH _,p),?_);rintro i m f H ⟨rfl,u,j⟩;let h||r:=Nat.lt_or_ge i n
 ·let(a,b):=y i f H h j;show sY (a,d (i+1),λt g q=>(v _ _ _ q,n-(i+1),by lia,Y,h,q),b)
 ·have e:i=n:=by lia
  subst e;show sU ((o _ _ j).1,v _ _ _ j,(o _ _ j).2)
def PGk(X:Cx)(d:Expr)(b:List (Option Nat))(g:TG):Prop:= ∀l s h H v u Q,Inv X l (FL b h) H s->RelV v u->g v (FL b h) H Q -> ik X (assign d X.e u) (λ_ m=>E₂ λf i=>C₃ (Inv X l f i m) (∀(j:Nat)v,(FL b h)[j]?=U (U v)->f[j]?=U (U v)) (Q f i)) X.x s
theorem FM(h:PG X (tI x b) (Cl 0)):PGk X (tI x b) (J::i) (Cl 0):=by
 intro d s o H v u Q I r q;show gH (h d s _ H v u (λa l=>(∀j v,(FL (J::i) o)[j]?=U (U v)->a[j]?=U (U v))/\Q a l) I r (λj w e=>?_,q)) λ_ t (a,l,p,k,q)=>(a,l,p,k,q);cases j with
 |zero=>cases e
 |succ j=>show e
theorem N7(h:PG X b (V8 f 2 (Jv (Cl 0) (Jv (Cl 1) V7)))):PGk X b (io::io::o) (V8 f 2 (Jv (Cl 0) (Jv (Cl 1) V7))):=by
 intro i s D H v u Q I r q;let(a,J,E,x,A,p,z,y,C,F,B,G,q):=q;show gH (h i s _ H v u (λd l=>(∀j v,(FL (io::io::o) D)[j]?=U (U v)->d[j]?=U (U v))/\Q d l) I r (a,J,E,x,A,p,z,y,C,F,B,G,λj w e=>?_,q)) λ_ g m=>by let(d,l,t,k,q):=m;show (d,l,t,k,q)
 match j with
 |0=>cases e
 |1=>cases e
 |j+2=>show e
structure Xx(RD:Cx->Prop)(P:Program)(w:World)(K:FG)(tg:Expr)(J:It)(fp:List nq)(it:nq)(tn:Nat->Heap->Prop):Prop where
 obj:∀i h,tn i h->∀b∈fp,∃o,h.14 b=U o/\∀v,o.34≠ .cell v
 keep:∀i h h',tn i h->(∀b∈fp,∀o,h.14 b=U o->h'.14 b=U o)->tn i h'
 item:∀X,X.p=P->X.w=w->X.K=K->RD X->∀i fb s(σ:St)H(E:VS),Inv X fb σ H s->(∀b∈fp,Gg X fb H b)->tn i s.16->J.go i H ->
  wpAny (model P w) X.A (pyNext (sR it)) (λr d=>∃u,r=U u/\wpAny (model P w) X.A (letOwnedTupleGo tg (sR it) u) (λ_ f=>∃x H',Inv X fb σ H' f/\RelV x u/\J.j7 i H x H'/\tn (i+1) f.16/\∀b∈fp,H' b=io) E d) E s
 done:∀X,X.p=P->X.w=w->X.K=K->RD X->∀i fb s(σ:St)H(E:VS),Inv X fb σ H s->(∀b∈fp,Gg X fb H b)->tn i s.16->J.stop i H ->
  wpAny (model P w) X.A (pyNext (sR it)) (λr d=>r=io/\Inv X fb σ H d) E s
 self:∀A i s(Q:VS)(E:VS),tn i s.16->Q (sR it) s->wpAny (model P w) A (pyIter (sR it)) Q E s
def PIg(d:Cx->Prop)(X:Cx)(f iter:Expr)(g:TI):Prop:=∀i s(j:St)H R,Inv X i j H s->g j H R ->
 ik X (eval iter X.e) (λv r=>ik X (pyIter v) (λq p=>∃(o:nq)(m:List nq)(tn:Nat->Heap->Prop)(l:It)(h:Hp),q=sR o/\Inv X i j h p/\Xx d X.p X.w X.K f l m o tn/\tn 0 p.16/\(∀b∈m,Gg X i h b)/\R l h) X.x r) X.x s
theorem PI.g(h:PI X b iter d):PIg (λX=>X.c=L) X b iter d:=λa s p H R I q=>
 gH (h a s p H R I q) λv x z=>gH z λo u w=>by let(j,t,tn,f,l,e,i,T,r):=w;show (j,t,tn,f,l,e,i,(T.obj,T.32,T.item,T.done,T.self),r)
noncomputable def Z1(f iter:Expr)(h:List Expr)(d:Value)(b:Env)(g:Sem Unit)(c:Code):Sem PySem.Fin:=do
 standAt iter.pos
 match ←pyNext d with
 |none=>pure (.done .next)
 |some v=>
  letOwnedTupleGo f d v
  assign f b v
  let mut ok:=L
  for c in h do
   if ok then ok ←isTrue c b (eval c b)
  if ok then
   g
  again c
structure SJ{b:Type}(P:Program)(w:World)(d:Expr)(mk:Sem Value)(tg iter:Expr)(ifs:List Expr)(add:nq->Env->Sem Unit)(e0:b)(ok:b->Prop)(ho:nq->b->HO)(RA:Heap->nq->b->Prop):Prop where
 cl:clausesOf d=[(tg,iter,ifs,0)]
 new:∃g,g.isFreed=O/\(∀v,g.34≠ .cell v)/\(∀h D,h.14 D=U g->RA h D e0)/\∀A(Q:VS)(E:VS)s,Q (sR s.8) {s with heap:=s.19 g}->wpAny (model P w) A mk Q E s
 turn:∀(A:Around)it D f,A.under (.compLoop d 0 it (sR D) f)=A/\(model P w).den (.compLoop d 0 it (sR D) f)=(Z1 tg iter ifs it f (add D f) (.compLoop d 0 it (sR D) f)).onRaise λx=>do noteFrame x f;theTreesLotGoes x
 start:∀A R s it D f,codeAny (model P w) A (.compLoop d 0 it (sR D) f) R s->wpAny (model P w) A (pyIter it) (λi s'=>codeAny (model P w) A (.compLoop d 0 i (sR D) f) R s') (notedBy (model P w) A f λx s'=>R (.error x) s') s->codeAny (model P w) A (.compStart d 0 it (sR D) f) R s
 at_:∀h h' D a,RA h D a->(∀o,h.14 D=U o->h'.14 D=U o)->RA h' D a
 fin:∀H h D a,ok a->(D==sysModules)=O->RA h D a->hO P w H h D (ho D a)
structure AtD(X:Cx)(D:nq)(fb:LO):Prop where
 up:X.hZ.8<=D
 ce:∀x c,X.25 x=U c->c≠D
 pi:∀p∈X.n++fb,p.1≠D
def PAd{b:Type}(X:Cx)(f:nq->Env->Sem Unit)(ok:b->Prop)(d:Heap->nq->b->Prop)(g:TAd b):Prop:=∀(D:nq)(p:Obj)o j s(l:St)H N,Inv X ([(D,(p))]++j) l H s->AtD X D j->d s.16 D o->(∀h i,N h i->ok h)->g o l H N -> ik X (f D X.e) (λ_ m=>E₃ λq h i=>C₃ (Inv X ([(D,(q))]++j) l i m) (d m.16 D h) (N h i)) X.x s
theorem Inv.jr(I:Inv X ([(D,(a))]++b) d H s):s.3 D=U a/\H D=J/\D≠X.23/\D∉ X.f/\∀v,a.34≠ .cell v:=I.pin (D,(a)) (zQ _ (zM _ zF))
theorem Inv.reD(I:Inv X ([(D,(A))]++f) m H s)(a:AtD X D f)(u:∀b,b≠D->g.14 b=s.3 b)(q:g.14 D=U d)(z:∀v,d.34≠ .cell v):Inv X ([(D,(d))]++f) m H {s with heap:=g,toks:=t}:=by
 let(_,r,l,y,_):=I.jr;let x:=I.pins_of λp h=>I.pin p (zQ _ (zQ _ h));let It:=x.58 (t':=t) (λb o j e=>(u b j).6 e) r l (sY a.up) a.ce a.pi;show It.pins_of λp h=>?_;let i||i:=mem_append.mp h
 ·have e:p=(D,(d)):=by simpa using i
  subst e;show(q,r,l,y,z)
 ·show It.pin p (zQ _ i)
end
section
variable {α:Type}
mutual
def XCv(X:Cx)(scope:Scope)(d:XE):Prop:=∀h s H C D i g(m:St)l(j:VS)x f,Inv X g m H s->(∀b∈i,Gg X g H b)->d h s H C i (X.n++g) x f->notedBy (model X.p X.w) X.A (compEnvC scope h C X.e) (λx f=>compPost (model X.p X.w) X.A X.x l j (sR D) C (.error x) f) x f
theorem De:XCv X scope xN:=λ_ _ _ _ _ _ _ _ _ _ _ _ _ _ h=>h.40
abbrev Far(X:Cx)(z:Option Str)(b:List (Str×nq)):Prop:=(∀x,X.fn x=L)->∀x c,b.5 x=U c->z=U x\/c∉ iz X.s
theorem Lm{e0:α}{ok}{w}{v}{ta}(G:SJ X.p X.w ar mk tg iter bW bC e0 ok w v)(hx:XCv X scope m)(r:gU X.37 scope X.N u ix z)(hc:∀g s H C f l,RD (jK z m X u scope g s H C f (X.n++l)))(hi:PIg RD X tg iter wi)
  (hg:∀g s H C f A,PGk (jK z m X u scope g s H C f A) tg ix bI) (ht:∀g s H C f A,k4 (jK z m X u scope g s H C f A) bW tt) (he:∀g s H C f A,Far X z g->PAd (jK z m X u scope g s H C f A) bC ok v ta)
  (hs:∀x,foldedSetIterable iter X.e x=pure x)     {a6} (a5:Inv X l B H s) (bK:Ii e0 ok wi bI tt ta ix a6 B H)
  (bR:∀j h d D C al,Inv X l B (upd d D (w D h)) j->a6 h d->d D=io->j.heap.Ns C al->X.hZ.8<=C->C≠X.23->(∀x c,X.25 x=im c->c≠C)->(∀p∈X.n++l,p.1≠C) ->
   upd d D (w D h) C=io->compPost (model X.p X.w) X.A X.x bu Qv (sR D) C (.ok .next) j):
  ik X (comprehension ar scope X.e ch mk i7 (eval iter X.e) bu) Qv X.x s:=by
 obtain⟨g,bN,c1,c2⟩:=Qu λy hy bS=>by
  have:=r.54 y hy bS;exact a5.ok.has y.1 this
 obtain⟨aM,bE,bX,b2,gt⟩:=G.new;refine wpAny_comprehension_free G.cl hs bN r.60 r.loc (gH (hi l s B H _ a5 bK) λb7 s1 h1=>gH h1 λcf N h2=>?_);obtain⟨it,f,tn,cc,H2,e,I,T,a1,f2,W,⟨m0,w0⟩,b5⟩:=h2;subst e
 have jX:∀b∈f,b<N.8:=λb E=>by
  obtain⟨o,e,_⟩:=T.obj _ _ a1 b E;exact lt_size e
 refine gt _ _ _ _ (Tz r.cf r.pc λbU bk be aR=>?_);generalize az:N.19 aM=S at bk be aR ⊢;have hC:S.10=N.8+1:=by rw[←az,u9]
 have bb:N.8≠S.10:=by rw[hC];exact zu (Nat.lt_succ_self _)
 have ab:N.8<=S.10:=by rw[hC];exact uX _
 have as:N.8<S.10+1:=by rw[hC];lia
 have old:=λb o e=>aR b o (az ▸ zU _ e);have bd:=aR _ _ (az ▸ zK _ bE);generalize ce:S.10+1=ag at *;generalize cd:S.10=C at *;generalize M:N.8=D at *;have IX:=Pk (xe:=m) I r c1 c2 (by rwa[M]) (by rw[M];exact sZ as) f2 (by rwa[M]) (tk:=N.57) old bk be;have bM:=I.18 (by rw[M];exact zp _)
 have bL:D∉ iz X.s:=λz=>by
  rcases mem_cons.mp (I.iO D z)with q|q
  ·have:=I.lt;rw[←q,M]at this;exact zy _ this
  ·exact I.nofs (by rw[M];exact zp _) q
 have an:∀x c,X.25 x=im c->c<D:=λx c e=>by
  obtain⟨b7,z⟩:=I.84 x c e;rw[←M];exact z.lt
 have lx:∀x c,(ko z ag g).5 x=im c->c≠D:=λx c e=>(JZ c1 e).40 (λq=>zu (an x c q)) (λq=>q.2 ▸ uH as);have a0:∀p∈X.n++l,p.1<D:=λp P=>by rw[←M];exact lt_size (I.pin p P).1
 have br:X.hZ.8<=D:=by rw[←M];exact I.sz
 have bl:X.23<D:=by rw[←M];exact I.lt
 have b4:(D==sysModules)=i7:=by
  rw[beq_eq_false_iff_ne,←M];exact uH I.big
 have mx:Far X z (ko z ag g):=λbO x c e=>(JZ c1 e).40 (λq=>sY λy=>by
  rcases mem_cons.mp (I.iO c y)with y|y
  ·exact I.lx x c q y
  ·obtain⟨_,o,w,_⟩:=I.ok.iu.mem y
   exact absurd (zY (lt_size w) (I.ok.kY x c (bO x) q)) (zy _)) λq=>sU q.1
 letI X':Cx:=jK z m X u scope (ko z ag g) N H2 C f (X.n++l)
 have a3:∀{d:Hp}{Q:Obj},(∀b∈f,d b=io)->∀b∈f,Gg X' [(D,(Q))] d b:=λ{d Q}hn b E=>by
  refine(hn b E,zu (zY (jX b E) ab),λz=>?_,sU E,λx c e=>(JZ c1 e).40 (λq=>(f2 b E).2.2.2.2.1 x c q) (λq=>q.2 ▸ uH (uI (jX b E) as)),λp P=>?_)
  ·exact IX.ok.jv b E z
  ·rcases mem_append.mp P with z|z
   ·exact(f2 b E).2.2.2.2.2 p z
   ·have e:p=(D,(Q)):=by simpa using z
    subst e;exact uH (jX b E)
 have bm:∀s3:nr,s3={N with heap:=bU,toks:=N.57} ->
   codeAny (model X.p X.w) X.A (.compLoop ar 0 (sR it) (sR D) (compEnvC scope (ko z ag g) C X.e)) (compPost (model X.p X.w) X.A X.x bu Qv (sR D) C) s3:=by
  rintro s3 rfl
  refine codeAny_loop Y (λn j=>∃i h Q d,Inv X' [(D,(Q))] (FL ix B) d j/\tn i j.16/\(∀b∈f,d b=io)/\W i n h d/\v j.16 D h)
   (λn s4 hI=>?_) m0 (0,e0,aM,H2,IX.pins_of (λp P=>by
    have q:p=(D,(aM)):=by simpa using P
    subst q
    exact(bd,bM,bb,bL,bX)),T.32 _ _ _ a1 (λb _ o e=>old b o e),λb E=>(f2 b E).1,w0,b2 _ _ bd)
  obtain⟨i,h,Q,H4,I4,bs,a9,w4,a7⟩:=hI;rw[(G.turn _ _ _ _).1,(G.turn X.A _ _ _).2];apply wpAny_noted;refine zm (E:=X'.x) ?_ (λ_ _ q=>q) (λx j q=>hx _ _ _ _ _ _ _ _ _ _ _ _ I f2 q);have bn:=I4.pin (D,(_)) (zQ _ zF);rcases b5 i n h H4 w4 with⟨stop,hz,b0⟩|⟨go,bB,hN,step⟩
  ·refine zo (zG (zo (gH (T.done X' Y Y Y (hc _ _ _ _ _ _) i _ s4 _ H4 _ I4 (a3 a9) bs stop) λr' s5 k=>?_)));let(hr,I5):=k;subst hr;have pD:=I5.pin (D,(_)) (zQ _ zF);have Ib:=SI I f2 I5;have Ic:=Ib.track pD.2.1 (uH bl) (sY br) (λx c e=>zu (an x c e)) (λp P=>zu (a0 p P)) (G.fin _ _ _ _ hz b4 (G.at_ _ _ _ _ a7 λo e=>by rw[bn.1]at e;cases e;exact pD.1));obtain⟨m5,n5,_⟩:=I5.loc
   refine zn (bR s5 h H4 D C m5 Ic b0 pD.2.1 n5 (tT br ab) (uH (zY bl ab)) (λx c e=>zu (zY (an x c e) ab))
    (λp P=>zu (zY (a0 p P) ab)) ?_)
   rw[AE (sX bb)];exact I5.54
  ·refine zo (zG (zo (gH (T.item X' Y Y Y (hc _ _ _ _ _ _) i _ s4 _ H4 _ I4 (a3 a9) bs go) λr' s5 a=>?_)));let(b6,hr,h5):=a;subst hr;refine zo (gH h5 λ_ s6 t=>?_);let(x,H6,I6,r6,y6,a2,bF):=t;have bx:=I6.pinned (a3 bF) (T.obj _ _ a2);refine zo (gH (hg _ _ _ _ _ _ _ s6 _ H6 x b6 _ bx r6 (step x H6 y6)) λ_ s7 F=>?_);let(a4,H7,I7,k7,q7):=F;refine zo (gH (ht _ _ _ _ _ _ _ s7 a4 H7 _ I7 q7) λb s8 K=>?_);let(H8,I8,q8):=K
   have again:∀{H9:Hp}{R:nr}{jQ:α}{aC:Obj},Inv X' ([(D,(aC))]++Jx f s6.16) a4 H9 R->v R.16 D jQ ->
     (∃m',m'<n/\W (i+1) m' jQ H9)->∃al,al<n/\∃i h Q d,Inv X' [(D,(Q))] (FL ix B) d R/\tn i R.16/\(∀b∈f,d b=io)/\W i al h d/\v R.16 D h:=by
    intro H9 R jQ aC I9 b3 ⟨m',hm,w9⟩;refine(m',hm,i+1,jQ,aC,H9,I9.unpinned.weak (I4.len.6 I9.len.31) k7,T.32 _ _ _ a2 λb E o e=>(I9.pin (b,(o)) (zQ _ (zQ _ (EY E e)))).1,λb E=>?_,w9,b3);obtain⟨o,e,ar⟩:=T.obj _ _ a2 b E;exact(I9.pin (b,(o)) (zQ _ (zQ _ (EY E e)))).2.1
   have a8:=G.at_ _ _ _ _ a7 λo e=>by rw[bn.1]at e;cases e;exact I8.jr.1
   cases b with
   |false=>
    exact zn (Y,again I8 a8 (hN _ _ q8).2)
   |true=>
    refine zo (gH (he _ _ _ _ _ _ mx D Q h _ s8 a4 H8 bB I8 (by refine show N.8<=D from ?_;rw[M];exact zp _,lx,λp P=>?_) a8 (λjQ d q=>(hN _ _ q).1) q8) λ_ R V=>by let(cg,co,H9,I9,d9,n9):=V;show zn (rfl,again I9 d9 (hN _ _ n9).2));rcases mem_append.mp P with z'|z'
    ·exact zu (a0 p z')
    ·exact zu (jX p.1 (La z').1)
 exact G.start _ _ _ _ _ _ (bm _ Y) (T.self _ 0 _ _ _ (T.32 _ _ _ a1 λb _ o e=>old b o e) (bm _ Y))
theorem FN{q:α}{ok}{u}{v}{t}(G:SJ X.p X.w d mk o iter aM an q ok u v)(y:XCv X scope g)(a2:gU X.37 scope X.N f m z)(S:∀a s H C i j,P (jK z g X f scope a s H C i (X.n++j)))(al:PIg P X o iter F)
  (ab:∀a s H C i l,PGk (jK z g X f scope a s H C i l) o m az) (ht:∀a s H C i l,k4 (jK z g X f scope a s H C i l) aM tt) (R:∀a s H C i l,Far X z a->PAd (jK z g X f scope a s H C i l) an ok v t) (hs:∀x,foldedSetIterable iter X.e x=pure x) (ag:eval d X.e=comprehension d scope X.e a5 mk i7 (eval iter X.e)):
  PE X d (λw H Q=>Ii q ok F az tt t m (λr h=>∀p,h p=io->Q (.r p) (upd h p (u p r))) w H):=by
 intro j s w H Q I aC;rw[ag];show Lm G y a2 S al ab ht R hs I aC λs' r h D C a0 as a1 A ar E B M T N=>(a0,ar,λa3 aR=>(.r D,_,as.58 (λb a4 hb e=>(aR.2 b hb).6 e) N B (sY E) M T,zd,a1 D A))
theorem N8{m:α}{ok}{Q}{R}{N}(hN:X.N.26)(B:X.N[aM]?=U x)(q:X.28 x=U uo)(F:swapsWith d (U (tI x h)) a2.70 X.e=pure iY)
  (G:SJ X.p X.w d mk v iter aR ar m ok Q R) (hx:XCv X scope f) (P:gU X.37 scope X.N b r z) (hc:∀j s H C l o,y (jK z f X b scope j s H C l (X.n++o))) (hi:PIg y X v iter ab)
  (hg:∀j s H C l u,PGk (jK z f X b scope j s H C l u) v r az) (ht:∀j s H C l u,k4 (jK z f X b scope j s H C l u) aR tt) (he:∀j s H C l u,Far X z j->PAd (jK z f X b scope j s H C l u) ar ok R N) (hs:∀x,foldedSetIterable iter X.e x=pure x)
  (hd:evalThenUse d X.e (assign (tI x h) X.e)=(do let _ ←comprehension d scope X.e a5 mk i7 (eval iter X.e) (U (assign (tI x h) X.e)))):
  PS X (vn [tI x h] d a2) (λD i H=>Ii m ok ab az tt N r (λw g=>∀p,g p=io->D.nx (i.set aM (U (.r p))) (upd g p (Q p w))) i H):=by
 intro o s i H D I aC;rw[exec_Assign_Name_used _ _ _ _ F];show zo (zG (zo ?_));rw[hd];show zo (gH (Lm G hx P hc hi hg ht he hs I aC λs' w g ag C a0 I' a1 T hn S an M h4 h5=>wpAny_assign_Name (LY (v:=.r ag) I' hN B (sU q) zd (λmf A k=>?_) (sY q))) λ_ s' hq=>zn (zn hq));let(a,E,ha):=k
 let al:C≠a:=by
  let z||z:=ha
  ·rwa[z]
  ·show(M x a z).31
 show(a0,hn.sameBut E al,λa3 t=>(_,_,A.58 (λas a4 hb e=>(t.2 as hb).6 e) h5 an (sY S) M h4,a1 ag T))
noncomputable abbrev Z2(b:Expr)(D:nq)(d:Env):Sem Unit:=do let _ ←call (sV "list.append") [sR D,←eval b d]
noncomputable abbrev hoR(_:nq)(b:nk):HO:=.l b
def RAl(h:Heap)(D:nq)(b:nk):Prop:=E₂ λd k=>Vals b d/\h.14 D=U {cls:=sW oq,data:=uW (List.toArray d) k}
theorem F5:SJ P w (.ListComp b [(g,iter,f,0)] scope m) (newList []) g iter f (Z2 b) [] jU hoR RAl where
 cl:=rfl
 new:=({cls:=sW oq,dict:=J,data:=uW ([]).11},rfl,(λv z=>nomatch z),λh D e=>([],_,tO,e),λA Q E s h=>wpAny_newObj_type h)
 turn:=λA o D i=>(rfl,rfl)
 start:=λA R s o D i j l=>codeAny_compStart_list j l
 at_:=λh t D a y q=>by let(d,k,r,e):=y;show (d,k,r,q _ e)
 fin:=λH h D a p _ x=>by let(d,k,r,e):=x;show (p,d,k,r,e)
theorem He(u:PE X f g):PAd X (Z2 f) jU RAl (jR g):=by
 intro D E B l s A H N I a ⟨d,k,o,r⟩ G q;obtain rfl:E=_:=tS (I.jr.1.92 r);show zo (gH (u _ s A H _ I q) λy j w=>?_);let(z,t,e,m,i):=w;let x:(B++[z]).9<=sizeLine:=G _ _ i;rw[zE,o.9]at x;show zo (call_meets F.slot_list_append (_,e.jr.1,Y) F.entry_list_append (F.args_list_append_2 _ _) (PySem.list_append D d.11 k y (by rw[size_toArray];lia)) (e.jr.1,zn ?_));let h:d.toArray.71 y=(d++[y]).11:=by simp
 let(p,q):∃p,(j.heap.61 D (u4 (·.71 y))).14 D=U {cls:=sW oq,data:=uW (d++[y]).11 p}:=(_,by rw[←h];show PySem.IsL.update e.jr.1 (·.71 y));show(_,_,t,e.reD a (λb C=>zT j.16 (u4 (·.71 y)) (sX C)) q (λv z=>nomatch z),(_,_,o.append (tP m tO),q),i)
end
end
mutual
abbrev g2(b:FG):TG:=V8 b 2 (Jv (Cl 0) (Jv (Cl 1) V7))
theorem BJ(e)(a)(r:JX X.37 scope X.N (x::e) (J::a)=L)(j:(x::e).26)(l:scope.13 x=U uo)(v:X.c=L)(t:PI X (tI x o) iter q)
  (ht:∀h s H C d i,k4 (CA X (x::e) scope h s H C d i) m tt) (u:∀h s H C d i,PE (CA X (x::e) scope h s H C d i) f w) (g:∀x,foldedSetIterable iter X.e x=pure x:=by intro _;rfl):
  PE X (.ListComp f [(tI x o,iter,m,0)] scope A) (λz H Q=>Mo q (Cl 0) tt w (J::a) (λy b=>∀p,b p=J->Q (.r p) (upd b p (.l y))) z H):=
 FN F5 De (gU.of r) (λ_ _ _ _ _ _=>v) t.g (λh s H C d i=>FM (BX j rfl (sU (z5 l)) (sY (z5 l)))) ht (λ_ _ _ _ _ _ _=>He (u _ _ _ _ _ _)) g rfl
theorem EJ{y}{kt}(h)(a)(u:JX X.37 scope X.N (x::y::h) (J::J::a)=L)(d:(x::y::h).26)(o:scope.13 x=U uo)(l:scope.13 y=U uo)(q:X.c=L)
  (v:PI X (uV [tI x r,tI y w] kt pt) iter t)
  (ht:∀i s H C e j,k4 (CA X (x::y::h) scope i s H C e j) m tt) (z:∀i s H C e j,PE (CA X (x::y::h) scope i s H C e j) f A) (g:∀x,foldedSetIterable iter X.e x=pure x:=by intro _;rfl):
  PE X (.ListComp f [(uV [tI x r,tI y w] kt pt,iter,m,0)] scope E) (λD H Q=>Mo t (g2 X.K) tt A (J::J::a) (λB b=>∀p,b p=J->Q (.r p) (upd b p (.l B))) D H):=
 FN F5 De (gU.of u) (λ_ _ _ _ _ _=>q) v.g (λi s H C e j=>N7 (BG q (AQ (BX d rfl (sU (z5 o)) (sY (z5 o)))
  (AQ (BX d rfl (sU (z5 l)) (sY (z5 l))) Av)))) ht (λ_ _ _ _ _ _ _=>He (z _ _ _ _ _ _)) g rfl
theorem N9{i}{z}(G:X.N.26)(r:X.N[i]?=U z)(I:X.28 z=U uo)(h)(d)(y:JX X.37 scope X.N (x::h) (J::d)=L)(o:(x::h).26)
  (u:scope.13 x=U uo) (E:X.c=L) (A:PI X (tI x t) iter v)
  (ht:∀j s H C e l,k4 (CA X (x::h) scope j s H C e l) g tt) (B:∀j s H C e l,PE (CA X (x::h) scope j s H C e l) f N)
  (q:swapsWith (.ListComp f [(tI x t,iter,g,0)] scope M) (U (tI z F)) a.70 X.e=pure L:=by rfl) (w:∀x,foldedSetIterable iter X.e x=pure x:=by intro _;rfl):
  PS X (vn [tI z F] (.ListComp f [(tI x t,iter,g,0)] scope M) a) (λD m H=>Mo v (Cl 0) tt N (J::d) (λP b=>∀p,b p=J->D.nx (m.set i (U (.r p))) (upd b p (.l P))) m H):=
 N8 G r I q F5 De (gU.of y) (λ_ _ _ _ _ _=>E) A.g (λj s H C e l=>FM (BX o rfl (sU (z5 u)) (sY (z5 u)))) ht (λ_ _ _ _ _ _ _=>He (B _ _ _ _ _ _)) w rfl
theorem J7{d:Type}{b:List d}(h:b.9<=1000):b.9<=sizeLine:=sZ (AR h)
theorem Ln{a}{g}{f}{v}{l}{ok}{B}{R}{p}(d:Nat->v->Hp->Prop)(r:d 0 l p)(j:∀i b H,i<=f.9->d i b H->fV g H a f)(s:∀i b H,d i b H->ok b)(m:∀i x b H,f[i]?=U x->d i b H->B x b (d (i+1)) H)(u:∀b H,d f.9 b H->R b H):tW (lO g a) l ok B R p:=by
 show DW d r s (λi b H e h=>?_) λb H h=>((f,j _ b H (zp _) h,zp _),u b H h);let t:=z7 e;show((f,f[i],j i b H (sZ e) h,t),?_);rintro x o ⟨rfl,q⟩;show m i x b o (q f (j i b o (sZ e) h)) h
theorem T4{a}{g}{f}{v}{l}{ok}{B}{R}{p}(d:Nat->v->Hp->Prop)(r:d 0 l p)(j:∀i b H,i<=f.9->d i b H->gB g H a f)(s:∀i b H,d i b H->ok b)(m:∀i x b H,f[i]?=U x->d i b H->B x b (d (i+1)) H)(u:∀b H,d f.9 b H->R b H):tW (mZ g a) l ok B R p:=by
 show DW d r s (λi b H e h=>?_) λb H h=>((f,j _ b H (zp _) h,zp _),u b H h);let t:=z7 e;show((f,f[i],j i b H (sZ e) h,t),?_);rintro x o ⟨rfl,q⟩;show m i x b o (q f (j i b o (sZ e) h)) h
theorem DX{m}{a}{ω}{xs}{f}{g}{tt}{e}{R}{h}(d:Nat->nk->Hp->Prop)(j:d 0 [] h)(l:∀i b H,i<=xs.9->d i b H->fV ω H a xs)(r:∀i b H,d i b H->b.9<=1000)(p:∀i x b H,xs[i]?=U x->d i b H->bT g tt (jR f) e m x b (d (i+1)) H)(o:∀b H,d xs.9 b H->R b H):tW (lO ω a) [] jU (bT g tt (jR f) e m) R h:=Ln d j l (λi b H q=>J7 (r i b H q)) p o
theorem OA{p}{a}{r}{f}{m}{g}{tt}{e}{R}{h}(d:Nat->nk->Hp->Prop)(j:d 0 [] h)(l:∀i b H,i<=f.9->d i b H->gB r H a f)(u:∀i b H,d i b H->b.9<=1000)(s:∀i x b H,f[i]?=U x->d i b H->bT g tt (jR m) e p x b (d (i+1)) H)(o:∀b H,d f.9 b H->R b H):tW (mZ r a) [] jU (bT g tt (jR m) e p) R h:=T4 d j l (λi b H q=>J7 (u i b H q)) s o
theorem Ee{m}{f}{lo}{n}{g}{tt}{h}{R}{j}(a:Nat->nk->Hp->Prop)(l:a 0 [] j)(s:∀i b H,a i b H->b.9<=1000)(r:∀i b H,i<n->a i b H->bT g tt (jR f) h m (.t (lo+i)) b (a (i+1)) H)(o:∀b H,a n b H->R b H):tW (Itr lo n) [] jU (bT g tt (jR f) h m) R j:=
 DW a l (λi b H q=>J7 (s i b H q)) (λi b H d e=>(d,by rintro x p ⟨rfl,rfl⟩;show r i b p d e)) λb H e=>(zp _,o b H e)
theorem Inv.newOk(I:Inv X b f H s)(a:s.8<=p):H p=J/\p≠X.23/\X.hZ.8<=p/\(∀x c,X.25 x=U c->c≠p)/\∀q∈X.n++b,q.1≠p:=
 (I.18 a,uH (zY I.lt a),tT I.sz a,λx c e=>by
  let(v,z):=I.84 x c e
  show zu (zY z.lt a),λq d=>zu (zY (lt_size (I.pin q d).1) a))
theorem Inv.freeze(I:Inv X f l H s)(h:H a=U (.d g)):∃o,Inv X f l (upd H a (.b o (.d g))) s:=by
 let(z,y,vs,r,i,j,ep,e,d):=I.gA a _ h;show(i,I.write (by rw[h];show trivial) (sU Y) (λb u _ q=>q) (i,e) (e,z,y,vs,r,i,j,ep,e,d))
theorem Dg(h:iZ X i t):iZ X i (λD f H=>∃a b,H a=U (.d b)/\∀o,t D f (upd H a (.b o (.d b)))):=by
 intro d s f H D I ⟨a,b,e,k⟩;let(o,j):=I.freeze e;show h d s f _ D j (k o)
noncomputable def WQ(o:Obj):Nat:=match o.34 with
 |wh _ ep=>ep
 |_=>0
theorem EL(I:Inv X f g H s)(h:H a=U (.b o (.d b))):b.9<=sizeLine/\(a==sysModules)=O/\∃vs,KV b vs/\s.heap.DictAt (Ag X.p X.w) a vs (WQ o):=by
 let(e,z,y,vs,r,q,l,ep,j,p,d,i):=I.gA a _ h;rw[e]at j;cases j;show(z,y,vs,r,o,l,e,p,?_,i);unfold WQ;rw[d]
theorem KV.get{f}{b}{vs}{i:Nat}{a:f×V}(p:KV b vs)(e:b[i]?=U a):∃v,vs[i]?=U (a.1,(v))/\RelV a.2 v:=by
 induction p generalizing i with
 |nil=>simp at e
 |cons r t ih=>cases i with
  |zero=>grind
  |succ i=>let(u,d,h):=ih (i:=i) e;show(u,d,h)
theorem Ef(h:(Ag P w).is k u=L):RelV (kV k) u:=by
 let(i,t,rfl,rfl)||(x,t,rfl,rfl):=BR (h)
 ·show(t,Y)
 ·show(t,Y)
noncomputable def m7(a:nq)(o:Obj)(b:LK):It:=(λi H=>H a=U (.b o (.d b))/\i<b.9,λi H x f=>E₂ λp d=>C₄ (H p=J) (x=.r p) (b[i]?=U d) (f=upd H p (.t [kV d.1,d.2])), λi H=>H a=U (.b o (.d b))/\b.9<=i)
theorem Pl(a f)(o)(g):
  Nq al aC aM (uV an k0 az) (m7 a o g) [f] f (λi h=>∃ok B,IsItemIter h f a i g.9 (WQ o) ok B) where
 mem:=by simp
 obj:=λi h st b A=>by
  grind
 keep:=λi h T st k=>by
  grind
 item:=by
  intro X Q N S y i l s z H E I m st w;subst Q N S;let(q,hi):=w;let(ag,ab,vs,j,J):=EL I q;let(ok,B,st):=st;let d:=j.9;let(p,u):∃p,g[i]?=im p:=(_,z7 hi);let(v,hv,rv):=KV.get j u;let(R,D,f2,G,F,C):=m f (_);rw[d]at st;show wpAny_pyNext_items_item st J hv λr T t M hp as keep=>?_;let(U,n2,n3,n4,n5):=I.newOk (zp s.8);let P:Inv X l z (upd H s.8 (.t [kV p.1,p.2])) {s with heap:=T}:=(I.58 (t':=s.57) keep R D G F C).track U n2 (sY n3) n4 n5 (by change 2<=sizeLine;decide,[r,v],tP (Ef t) (tP rv tO),_,hp,rfl,_,rfl);let fi:(upd H s.8 (.t [kV p.1,p.2])) f=io:=by rwa[AE (zu (lt_size st))]
  show(sR s.8,Y,wpAny_letOwnedTupleGo_items M λar x sb=>(.r s.8,_,P.58 (λb o A e=>(sb.2 b A).6 e) fi D G F C,Y,(_,p,U,Y,u,Y),(r,v,by rw[d];show x),λb A=>?_))
  ext
 done:=by
  intro X Q N S y i l s z H E I m st w;subst Q N S;let(q,hi):=w;let(ag,ab,vs,j,J):=EL I q;let(ok,B,st):=st;let d:=j.9;rw[d]at st;let(R,D,f2,G,F,C):=m f (_);show wpAny_pyNext_items_end (I.66 y) st J (_) λT eb=>(Y,I.58 (λb o A e=>eb b o A e) R D G F C)
 self:=λ_ _ _ _ _ st h=>by
  let(ok,B,e):=st;show W.kcp_self e h
def YX(to:TE):TI:=λf H R=>to f H λx b=>E₃ λa o d=>C₃ (x=.r a) (b a=U (.b o (.d d))) (R (m7 a o d) b)
theorem J8{G}(f:PE X o to)(j:attributeBase o "items" X.e (eval o X.e)=eval o X.e:=by rfl)(i:(g.endLine==m.70)=L:=by rfl):
  PI X (uV w G N) (uJ (tR o "items" g) [] [] m) (YX to):=by
 intro d s C H R I h;show wpAny_Call_method0_late j i (gH (f d s C H _ I h) λv A k=>?_);let(x,E,t,F,a,D,p,P,l,q):=k;subst P;cases F;let(t1,t2,_):=Ml t (sU (p,sY (D,l)));let(z,y,vs,u,B):=EL t l;show(oK,"dict.items",plainAttrs_dict,slot_dict_items,type_dict_items,t1,t2,uS rfl (PySem.evalArgs_none (call_meetsIn slot_dict_items t1 entry_dict_items (args_dict_items_1 _) (meets_dict_items (Ag X.p X.w) a y) ((vs,B.dictOf),?_))));let r:Inv X d C E {A with heap:=A.19 {cls:=sW "dict_items",data:=tN #[sR a]}}:=t.75 λb o e=>zU _ e;show wpAny_pyIter_items (_,zK _ rfl,rfl,rfl) (B.71 _) ?_;show(_,[_],_,_,E,rfl,r.75 λb o e=>zU _ e,Pl a _ D p,(tj,tj,by rw[u.9];show zK _ rfl),λb M=>?_,q);let e:b=(A.19 {cls:=sW "dict_items",data:=tN #[sR a]}).10:=by simpa using M
 subst e;show r.ju (zp _) (r.18 (zp _))
noncomputable def Ite(b:FG)(a:nq):It:=(λi H=>E₂ λd x=>fV b H a d/\d[i]?=U x,λi H x f=>E₂ λp y=>C₄ (H p=J) (x=.r p) (∀d,fV b H a d->d[i]?=U y) (f=upd H p (.t [.t i,y])),λi H=>∃d,fV b H a d/\d.9<=i)
theorem SK(a e d)(A:e≠d):
  Nq as a3 ar (uV aC k0 a2) (Ite ar a) [e,d] e (λi h=>∃j,IsEnum h e d i j/\h.78 d a i) where
 mem:=by simp
 obj:=λi h st b t=>by
  let(j,F,o,e2,c,az):=st
  grind
 keep:=λi h f st k=>by
  let(j,F,e2):=st;show(j,k e (_) _ F,e2.at λo q=>k d (_) o q)
 item:=by
  intro X g S m Q i l s R H E I C st T;subst g S m;let(xs,x,D,O):=T;let(Z,rv,p,hz):=I.67 D;let(u,hu,ru):=rv.get O;let(j,G,B):=st;let(f0,f1,f2,f3,f4,f5):=C e (_);let(g0,L,g2,g3,g4,g5):=C d (_);let aR:d<s.8:=by let(o,q,_):=id B;show lt_size q
  show wpAny_pyNext_enum_item G B p.51 (x:=u) (_) A λf M an hp a0 keep=>?_
  let v:Inv X l R H {s with heap:=f,toks:=s.57+1}:=by
   show I.step (ch:=[e,d]) (λb t=>?_) (λb o _ _ t q _=>keep b o (_) (_) q) (λb o _ _ t q _=>(o.slots,keep b o (_) (_) q))
    (λ_ _ _ _ n=>n) (λb o t q=>(o,keep b o (_) (_) q)) (λ_ _ q=>q) (λ_ _ _ q=>q) (λb ps q=>(#[],by trivial)) (λa1 P=>?_) (λb u q=>?_) I.74
   ·grind
   ·let(oL,es,ep,N,ab):=P;show(oL,es,ep,keep _ oL (sX f1) (sX L) N,ab)
   ·show(I.gA b u q).i9 (λc ag Q q'=>keep c ag ?_ ?_ q') (λ_ q=>q) λ_ _ q=>q
    ·grind
    grind
  let(n1,n2,n3,n4,n5):=I.newOk (zp s.8);let w:Inv X l R (upd H s.8 (.t [.t i,x])) {s with heap:=f,toks:=s.57+1}:=v.track n1 n2 (sY n3) n4 n5 (by change 2<=sizeLine;decide,[tV i s.57,u],tP (_,rfl) (tP ru tO),_,hp,rfl,_,rfl);let z:(upd H s.8 (.t [.t i,x])) e=J:=by rwa[AE (zu (lt_size G))]
  let fi:(upd H s.8 (.t [.t i,x])) d=J:=by rwa[AE (_)]
  show(sR s.8,Y,wpAny_letOwnedTupleGo_enum M λaM al r=>(.r s.8,_,w.58 (λb o t q=>(r.2 b t).6 q) z f1 f3 f4 f5,Y,(_,x,n1,Y,λys hy=>by rw[I.list_inj hy D];show O,Y),(_,by exact_mod_cast al,an.extBut r.extBut (sX A)),λb t=>?_))
  grind
 done:=by
  intro X g S m Q i l s R H E I C st T;subst g S m;let(xs,D,O):=T;let(Z,rv,p,hz):=I.67 D;let(j,G,B):=st;let(g0,L,g2,g3,g4,g5):=C d (_);let hl:=rv.9;show wpAny_pyNext_enum_end (I.66 Q) G B p.51 (by simp;lia) λf y=>(Y,I.58 (λb o t e=>y b o t e) g0 L g3 g4 g5)
 self:=λ_ _ _ _ _ st h=>by
  let(j,F,_):=st;show wpAny_pyIter_enum F h
def Z3(b:FG)(d:TA):TI:=λh H R=>d h H λvs f=>∃a,C₃ (vs=[.r a]) (∃g,fV b f a g) (R (Ite b a) f)
theorem WR(A:Gl X qg)(t:X.m qg=io)(z:PA X [l] o)(f:starEach [l] X.e=[(O,(eval l X.e))]:=by rfl):
  PI X (uV m M w) (uJ (tI qg p) [l] [] g) (Z3 X.K o):=by
 intro e s y H R I h;show zZ (Gf I A t (by rfl) (vE (gH (z g e s y H _ I h) λP i k=>?_) f Y));let(vs,F,d,v,a,B,(Q,x),q):=k;subst B;let(u,rfl,G):=Bq v;cases G;let(C,N,pl,J):=d.67 x;show call_enumerate_list pl.51 λS j D r keep=>?_;apply wpAny_pyIter_enum j;show(_,[i.8+1,i.8],_,_,F,Y,d.75 (t':=i.57) keep,SK a _ _ (_),(_,j,D),λb E=>?_,q);let rfl||rfl:=(by simpa using E)
 ·show d.ju (uX _) (d.18 (uX _))
 ·show d.ju (zp _) (d.18 (zp _))
noncomputable def Its(x:Str):It:=(λi _=>i<x.82,λi H v b=>b=H/\∃c,x.cps[i]?=U c/\v=.s ⟨#[c]⟩,λi _=>x.82<=i)
theorem T5(f)(x)(t):
  Nq P w m (tI n g) (Its x) [f] f (λi h=>h.IsStrIter f "str_ascii_iterator" x t i) where
 mem:=by simp
 obj:=λi h st b a=>by
  let e:b=f:=by simpa using a
  subst e;let(o,e,c,d):=st;show(o,e,λv z=>by ext)
 keep:=λi h T st k=>by
  let(o,e,r):=st;show(o,k f (_) o e,r)
 item:=by
  intro X y u D S i j s N H E I l st A;subst y u D;let M:=A;let(C,B,O,G,F,q):=l f (_);show wpAny_pyNext_ascii_item st (uj M) λT p R=>?_;show(7,zn (.s ⟨#[x.cps[i]]⟩,H,I.58 (λb o a e=>(R.2 b a).6 e) C B G F q,(_,Y),(Y,_,uj M,Y),p,λb a=>(l b a).1))
 done:=by
  intro X y u D S i j s N H E I l st A;subst y u D;let(C,B,O,G,F,q):=l f (_);show wpAny_pyNext_ascii_end (I.66 S) st (Array.getElem?_eq_none A) λT Q=>(Y,I.58 (λb o a e=>Q b o a e) C B G F q)
 self:=λ_ _ _ _ _ st h=>wpAny_pyIter_striter_ascii st h
def cw(b:TE):TI:=λf H R=>b f H λv d=>∃x,C₃ (v=.s x) (x.27 (· < 128)=L) (R (Its x) d)
theorem J9(j:PE X e f):PI X (tI n g) e (cw f):=by
 intro a s p H R I h;show gH (j a s p H _ I h) λv i w=>?_;let(z,A,d,l,x,y,u,q):=w;subst y;let(t,rfl):=l;apply wpAny_pyIter_ascii u;show(i.8,[i.8],_,_,A,Y,d.75 λb o e=>zU _ e,T5 _ x t,(_,zK _ Y,Y,Y),λb r=>?_,q);let e:b=i.8:=by simpa using r
 subst e;show d.ju (zp _) (d.18 (zp _))
theorem LJ:entryFor table "proto.unchain"=U Builtin.«proto.unchain»:=entryFor_of_tree (by rfl)
theorem WS{m}{Q}(t:A.41=U (sR c))(i:c≠e)(r:s.3 c=U f)(d:f.34=tN o)(l:o[2]?=U tj)
  (p:s.3 e=U g) (a:g.34=tN q) (b:2<q.22) (h:E (sR e) {s with heap:=s.heap.61 e (ur (·.20 2 (sR c)))}):wpAny (model prog w) A (raiseNew (sR e):Sem m) Q E s:=by
 show zo (wpAny_handled ?_);rw[t]
 dsimp only
 rw[zf (by simp[i])];show zo (zH (wpAny_runValue (codeAny_builtin LJ (zo (wpAny_field r d l ?_)))));apply zn;show zo (zm (wpAny_setField (M:=model prog w) (A:=A) (E:=E) (Q:=λ_ j=>E (sR e) j) p a b h) (λ_ j z=>wpAny_throw z) λ_ _ z=>z)
theorem E9(B:A.41=U (sR c))(D:s.3 c=U m)(q:m.34=tN x)(y:x[2]?=U tj)(r:c≠f)
  (h:s.heap.78 f l i) (G:s.heap.IsList l M) (C:M[i]?=io) (d:∀g,Heap.ExtBut f s.16 g->Q io {s with heap:=g}):wpAny (model prog w) A (pyNext (sR f)) Q E s:=by
 let(o,p,F,j):=id h;let(J,a,_,I,e):=G;show zo (wpAny_attempt (wpAny_callSpecial?_slot h.43 slot_listiter_next (wpAny_call_entry slot_listiter_next h.43 entry_listiter_next ?_ (args_listiter_next _))));change wpAny _ _ (field (sR f) 0 >>= _) _ _ s;show zo (wpAny_field p j Y ?_);show zo (wpAny_field p j Y (zo (wpAny_seqItems a e ?_)));simp[vD,C];show zo (wpAny_rule (zo (wpAny_setField p j (_) ?_)));apply zo;show zo (wpAny_newObj_type (zo (wpAny_of_eq (by rfl) (wpAny_newObj_type ?_ (by size_fits)))) (by size_fits));let t:=(zT s.16 (ur (·.20 0 tj)) (sX r)).6 D;show WS (B) (λz=>?_) (zU _ (zU _ t)) q y (zK _ Y) Y (_) ?_
 ·have:=lt_size (zU {cls:=sW oB,data:=uW #[]} t);rw[z]at this;show absurd this (zy _)
 ·show zo (wpAny_isInstance (_,zR _ (zK _ Y) Y,Y) isSubtype_stop ?_);show zn (d _ λb u H z=>?_);let v:=zU {cls:=sW oB,data:=uW #[]} ((zT s.16 (ur (·.20 0 tj)) (sX H)).6 z);rw[zT _ _ (uH (lt_size v))];show zU _ v
def Sft(X:Cx):Prop:=E₃ λe b vs=>C₄ (X.A.41=U (sR e)) ((e,(b))∈X.n) (b.34=tN vs) (vs[2]?=U tj)
def kZ(X:Cx):Prop:=X.c=L\/Sft X
theorem kZ.comp(h:kZ X):kZ (CA X f scope g s H C l (X.n++j)):=by
 let h||(e,i,vs,a,b,c,d):=h
 ·show sU h
 ·show sY (e,i,vs,a,zM _ b,c,d)
theorem T6(j:kZ X)(I:Inv X m v H s)(t:Gg X m H f)(r:s.heap.78 f l i)(o:s.heap.IsList l u)(q:u[i]?=J)
  (h:∀g,Heap.ExtBut f s.16 g->Q J {s with heap:=g}):ik X (pyNext (sR f)) Q E s:=by
 let j||(e,p,vs,a,b,c,d):=j
 ·show wpAny_pyNext_list_end (I.66 j) r o q h
 ·show E9 a (I.pin (e,(p)) (_)).1 c d (t.2.2.2.2.2 (e,(p)) (_)) r o q h
theorem Pm(a g):Xx kZ P w l m (lO l a) [g] g (λi h=>h.78 g a i):=by
 let T:=LZ (P:=P) (w:=w) (ω:=l) (tg:=m) a g;show(T.obj,T.32,?_,?_,T.self)
 ·intro X z y B F i an ar s H E I r st A;subst z y B;let(U,x,t,v):=A;let(C,D,p,G):=I.67 t;let(u,hu,ru):=D.get v;let(N,M,f2,R,Q,J):=r g (_);show wpAny_pyNext_list_item st p.51 (x:=u) (_) λS j al=>?_;let(o,e,c,d):=id j;show(u,Y,Nr e c d qc (x,H,I.58 (λb o q e=>(al.2 b q).6 e) N M R Q J,ru,(Y,λys ab=>by rw[I.list_inj ab t];show v),j,λb q=>(r b q).1))
 ·intro X z y B F i an ar s H E I r st A;subst z y B;let(U,t,v):=A;let(C,D,p,G):=I.67 t;let f:=r g (_);let hl:=D.9;show T6 F I f st p.51 (by simp;ext) λS ag=>(Y,I.58 (λb o q e=>ag b o q e) f.1 f.2.1 f.2.2.2.1 f.2.2.2.2.1 f.2.2.2.2.2)
theorem T7(z:PE X l r):PIg kZ X f l (Xu X.K r):=by
 intro d s y H R I h;show gH (z d s y H _ I h) λv j w=>?_;let(x,B,i,t,a,e,(F,u),q):=w;subst e;cases t;let(A,D,p,C):=i.67 u;show wpAny_pyIter_list p.51 (j.8,[j.8],_,_,B,Y,i.75 λb o e=>zU _ e,Pm a _,(_,zK _ Y,Y,Y),λb E=>?_,q);obtain rfl:b=j.8:=by ext
 show i.ju (zp _) (i.18 (zp _))
theorem SL(e)(a)(r:JX X.37 scope X.N (x::e) (J::a)=L)(j:(x::e).26)(l:scope.13 x=U uo)(v:kZ X)(t:PIg kZ X (tI x o) iter q)
  (ht:∀h s H C d i,k4 (CA X (x::e) scope h s H C d i) m tt) (u:∀h s H C d i,PE (CA X (x::e) scope h s H C d i) f w) (g:∀x,foldedSetIterable iter X.e x=pure x:=by intro _;rfl):
  PE X (.ListComp f [(tI x o,iter,m,0)] scope A) (λz H Q=>Mo q (Cl 0) tt w (J::a) (λy b=>∀p,b p=J->Q (.r p) (upd b p (.l y))) z H):=
 FN F5 De (gU.of r) (λ_ _ _ _ _ _=>v.comp) t (λh s H C d i=>FM (BX j rfl (sU (z5 l)) (sY (z5 l)))) ht (λ_ _ _ _ _ _ _=>He (u _ _ _ _ _ _)) g rfl
theorem Pn{X}{s}{j:nj}(B:kZ X)(I:Inv X f g H s)(pl:s.heap.IsList p j.toArray):∃G St,Walks X.p X.w X.A.in1 s.heap.objs.size G [s.heap.objs.size] j.toArray.size (λi v=>j.toArray[i]?=U v) St /\
  St 0 (s.heap.push {cls:=sW p0,data:=tN #[sR p,tV 0 0]})/\∀b∈G,b<s.heap.objs.size+1:=by
 let F:p<s.heap.objs.size:=by let(o,e,_):=id pl;show lt_size e
 let r:(s.heap.push {cls:=sW p0,data:=tN #[sR p,tV 0 0]}).IsListIter s.heap.objs.size p 0/\(s.heap.push {cls:=sW p0,data:=tN #[sR p,tV 0 0]}).IsList p j.toArray:=
  ((_,zK _ rfl,rfl,rfl),pl.at λo e=>zU _ e)
 let B||(e,t,vs,a,b,c,d):=B
 ·show(_,_,Walks.list (A:=X.A.in1) (I.ok.hd B) _ p (zu F) j.toArray,r,λb l=>?_)
  grind
 ·have D:=(I.pin (e,(t)) (_)).1;let w:=lt_size D;show([s.heap.objs.size,p,e],λi h=>(h.IsListIter s.heap.objs.size p i/\h.IsList p j.toArray)/\h.get? e=U t,(λb l=>by ext,λi h u st k=>((st.1.1.at λo z=>k _ (_) o z,st.1.2.at λo z=>k _ (_) o z),k e (_) t st.2),?_,?_,λ_ _ _ _ st q=>wpAny_pyIter_listiter st.1.1 q),(r,zU _ D),λb l=>?_)
  ·intro i C Q E M st q;show wpAny_pyNext_list_item st.1.1 st.1.2 (x:=j.toArray[i]) (_) λu t1 t2=>q _ u C.toks (_) ((t1,st.1.2.extBut t2.extBut (zu F)),t2.extBut e t (_) st.2) λb o l z=>t2.extBut b o (λy=>l (by simp[y])) z
  ·intro C Q E st q;show E9 (a) st.2 c d (_) st.1.1 st.1.2 (_) λu z=>q u C.toks λb o l y=>z b o (λm=>l (by simp[m])) y
  grind
noncomputable def Qw(a p:nq):HO:=.e λh=>h.IsItemsView p a
noncomputable def T8(a p:nq):HO:=.e λh=>h.IsValuesView p a
theorem T9{X}{o}{to}{e}{i l}{id}{r}(t:Slot oK e id)(y:typeOf (sV id)=pure (sW qN))(A:MtR X id r)(D:PE X o to)
  (q:attributeBase o e X.e (eval o X.e)=eval o X.e:=by rfl) (p:(i.endLine==l.70)=L:=by rfl):
  PE X (uJ (tR o e i) [] [] l) (λb H Q=>to b H λx u=>∃a,x=.r a/\IsD u a/\r x [] u Q):=by
 intro j s b H Q I h;show wpAny_Call_method0_late q p (gH (D j s b H _ I h) λv E w=>?_);let(x,u,z,B,a,C,d,q1):=w;subst C;cases B;let(t1,t2,_):=Ml z d;show(oK,id,plainAttrs_dict,t,y,t1,t2,uS Y (PySem.evalArgs_none (A j E b u (.r a) [] (sR a) [] Q z Y tO q1)))
theorem UA:MtR X "dict.items" (λx g H Q=>∃a f,x=.r a/\g=[]/\Rd H a (.d f)/\∀p,H p=J->Q (.r p) (upd H p (Qw a p))):=by
 rintro h s D H x g v C Q I u j ⟨a,f,rfl,rfl,t,q⟩;cases u;cases j;let(z,y,vs,l,d):=DK I.gA t;show call_meetsIn slot_dict_items d.43 entry_dict_items (args_dict_items_1 _) (meets_dict_items (Ag X.p X.w) a y) ((vs,d),(.r s.8,_,I.laid (o:=Qw a s.8) (λb o e=>zU _ e) (zp _) ((_,zK _ Y,Y,Y),(_,zK _ Y),λA B z k=>?_),Y,q _ (I.18 (zp _))));let(i,e,r):=z;show(i,k i e,r)
theorem SM:MtR X "dict.values" (λx g H Q=>∃a f,x=.r a/\g=[]/\Rd H a (.d f)/\∀p,H p=J->Q (.r p) (upd H p (T8 a p))):=by
 rintro h s D H x g v C Q I u j ⟨a,f,rfl,rfl,t,q⟩;cases u;cases j;let(z,y,vs,l,d):=DK I.gA t;show call_meetsIn slot_dict_values d.43 entry_dict_values (args_dict_values_1 _) (meets_dict_values (Ag X.p X.w) a y) ((vs,d),(.r s.8,_,I.laid (o:=T8 a s.8) (λb o e=>zU _ e) (zp _) ((_,zK _ Y,Y,Y),(_,zK _ Y),λA B z k=>?_),Y,q _ (I.18 (zp _))));let(i,e,r):=z;show(i,k i e,r)
theorem C0{i l}{F}:∀{f:List i}{g:List l},f.9=g.9->(∀(j:Nat)x y,f[j]?=U x->g[j]?=U y->F x y)->Paired F f g
 | [],[],_,_=>tO
 | [],_::_,h,_=>by simp at h
 |_::_,[],h,_=>by simp at h
 |x::f,y::g,h,k=>tP (k 0 x y rfl rfl) (C0 (_) λj a b e d=>k (j+1) a b (_) (by assumption))
theorem Po(E:X.c=L):gP X (sW oq) (λf H Q=>∃a b,f=[.r a]/\Rd H a (.d b)/\∀l,H l=J->Q (.r l) (upd H l (.l (b.7 λp=>kV p.1)))):=by
 rintro A s ab H f T Q I r ⟨a,b,rfl,m,q⟩;obtain⟨u,rfl,S⟩:=Bq r;cases S;obtain⟨z,y,vs,i,C⟩:=DK I.gA m;obtain⟨ep,G⟩:=C.dictAt;have g:=i.9;refine W.kdl_call (W.kdl_dict y) (I.66 E) G (by ext) λN ag acc R keep e o=>(.r s.8,_,I.laid keep (zp _) (show hO X.p X.w _ N _ (.l (b.7 λp=>kV p.1))from(by simp_all,acc.33,R,?_,qe)),Y,q _ (I.18 (zp _)))
 refine C0 (by have D:acc.64=acc.22:=by simp
               rw[AN,D,o.1,g]) λj v F h B=>?_
 rw[ug]at B;obtain⟨k,x,M,w⟩:=o.2 j F B;rw[zx]at h;cases t:b[j]? with
 |none=>rw[t]at h;cases h
 |some p=>
  rw[t]at h;simp at h;obtain⟨P,d,_⟩:=KV.get i t;rw[M]at d;simp at d;rw[←h,←d.1];exact Ef w
theorem Pp(D:X.c=L):gP X (sW oq) (λf H Q=>∃p a b,f=[.r p]/\H p=U (T8 a p)/\Rd H a (.d b)/\∀l,H l=J->Q (.r l) (upd H l (.l (b.7 (·.2))))):=by
 rintro x s al H f P Q I r ⟨p,a,b,rfl,g,N,q⟩;obtain⟨u,rfl,T⟩:=Bq r;cases T;obtain⟨ag,y,vs,i,B⟩:=DK I.gA N;obtain⟨ep,G⟩:=B.dictAt;obtain⟨F,_⟩:=I.gA p _ g;have m:=i.9;refine W.kdl_call (W.kdl_values) (I.66 D) (F,G) (by ext) λR tk acc S keep e o=>(.r s.8,_,I.laid keep (zp _) (show hO X.p X.w _ R _ (.l (b.7 (·.2)))from(by simp_all,acc.33,S,?_,qe)),Y,q _ (I.18 (zp _)))
 refine C0 (by have C:acc.64=acc.22:=by simp
               rw[AN,C,o.1,m]) λj v E h A=>?_
 rw[ug]at A;obtain⟨k,w⟩:=o.2 j E A;rw[zx]at h;cases t:b[j]? with
 |none=>rw[t]at h;cases h
 |some z=>
  rw[t]at h;simp at h;obtain⟨ab,d,M⟩:=KV.get i t;rw[w]at d;simp at d
  rwa[←h,d.2]
theorem Hg(m:X.c=iY):gP X (sV rC) (λg H Q=>∃a b,g=[.r a]/\Rd H a (.d b)/\b.9<64/\(∀d∈b,∃i,d.1=uE i) /\
  ∀l(f:List Int),H l=J->f.Perm (b.7 λd=>match d.1 with|uE i=>i|sS _=>0)->f.69 (· <= ·)->Q (.r l) (upd H l (.l (f.7 V.t)))):=by
 rintro E s ab H g us Q I r ⟨a,b,rfl,hd,an,P,q⟩;let(ar,rfl,ru):=Bq r;cases ru;let(az,y,vs,D,U):=DK I.gA hd;let(ep,da):=U.dictAt;let hl:=D.9;apply wj kind_sorted plain_sorted entry_sorted (args_sorted1 _);show zo (zn (zo (W.kdu_collect (W.kdl_dict y) (I.66 m) da () λG tk acc keep F=>?_)))
 let f8:acc.64=b.9:=by
  let w:acc.64=acc.22:=by simp
  rw[w,F.1,hl]
 show zo (wpAny_newList ?_ ())
 let t:IntsAre acc.33 (b.7 λd=>match d.1 with|uE i=>i|sS _=>0):=by
  show Ea (C0 (_) λj as w' B T=>?_);rw[ug]at T;let(k,x,ex,C):=F.2 j w' T;rw[zx,zx]at B;cases u:b[j]? with
  |none=>rw[u]at B;cases B
  |some d=>
   rw[u]at B;simp at B;let(v2,h,_):=KV.get D u;rw[ex]at h;simp at h;let(i,S):=P d (_);rw[h.1,S]at C;rw[←B,S];show Ef C
 let v:Inv X E ab H {s with heap:=G,toks:=tk}:=I.75 keep;let p:(G.71 {cls:=sW oq,data:=uW acc.toList.11}).14 G.10=im (seqObj oq acc.toList.11 0):=zK _ rfl;show zo (zH (wpAny_call_entry slot_list_sort (_,p,Y) entry_list_sort (list_sort_tree p t () λM A z R N=>(7,zn (7,?_))) (args_list_sort _)));let ag:A.9=b.9:=by rw[R.65,AN]
 show(.r G.10,_,v.laid (o:=.l (A.7 V.t)) (λal o e=>?_) (zp _) (by simp_all,M.33,?_),Y,q _ A (v.18 (zp _)) R N)
 ·rw[sortedHeap_old (zu (lt_size e)) (lt_size (zU _ e))];show zU _ e
 ·let(c,hcx):=sortedHeap_at p;show(c,F4 z,qe)
theorem DN(g:X.c=L):gP X (sV "all") (λf H Q=>∃(p:nq)(bs:List Bool),f=[.r p]/\fV X.K H p (bs.map V.l)/\Q (.l (bs.all id)) H):=by
 rintro D s w H f T Q I r ⟨p,bs,rfl,N,ab⟩;let(ag,rfl,R):=Bq r;cases R;let(a,E,pl,S):=I.list N;let M:p<s.heap.objs.size:=by let(o,n,e,_):=id pl;show lt_size e
 let d:bs.length=a.length:=by have:=E.length;rwa[AN]at this
 show call_all_walk (wpAny_pyIter_list pl.isList ((_,_,_,_,_,_,λi=>bs.getD i O,Y,Walks.list (A:=X.A.in1) (I.ok.hd g) _ p (zu M) a.toArray,((_,zK _ Y,Y,Y),pl.isList.at λo e=>zU _ e),λi v G F u q m=>?_,λh' P keep=>?_)))
 ·have C:a[i]?=U v:=by simpa using q
  let l:=(z8.mp C).1;let z:bs[i]?=U (bs[i]'()):=z7 ();let(Z,j,y):=E.get (i:=i) (x:=V.l (bs[i]'())) (_);rw[C]at j;cases j;cases (y);apply zW;let B:F (bs.getD i O) G:=m
  rwa[vg,z]at B
 ·show(.l _,H,I.kept λb o e=>keep b o (by simp;show zu (lt_size e)) (zU _ e),Y,?_)
  let e:(uP a.toArray.size).all (λi=>bs.getD i O)=bs.all id:=by
   rw[size_toArray,←d,uQ,all_eq_true,all_eq_true];constructor
   ·intro h b z;let(i,l,rfl):=List.mem_iff_getElem.mp z;have:=h i (_)
    rwa[vg,z7 l]at this
   ·intro h i l;let t:=mem_range.mp l;rw[vg,z7 t];show h _ (_)
  rwa[e]
theorem FP(a:List Int):∀k,k<=a.9->preSum (λi=>a.44 i 0) k=(a.12 k).sum
 |0,_=>by rfl
 |k+1,h=>by
  let d:k<a.9:=by assumption
  simp only[preSum,FP a k ()];rw[zw,sum_append];simp[z7 d]
theorem Lo(T:kZ X):gP X (sV "sum") (λf H Q=>∃(p:nq)(d:List Int),f=[.r p]/\fV X.K H p (d.7 V.t)/\(∀n∈d,0<=n)/\d.sum<2^62/\Q (.t d.sum) H):=by
 rintro M s ag H f us Q I r ⟨p,d,rfl,m,y,P,q⟩;let(ab,rfl,ru):=Bq r;cases ru;let(C,N,pl,hz):=I.67 m;let hp:p<s.8:=by let(o,n,e,_):=id pl;show lt_size e
 let A:d.9=C.9:=by have:=N.9;rwa[AN]at this
 let G:∀k,0<=(d.12 k).sum:=λk=>by
  have:∀l:List Int,(∀n∈l,0<=n)->0<=l.sum:=λl=>by
   induction l with
   |nil=>simp
   |cons a r F=>intro h;rw[sum_cons];have:=h a zF;have:=F λn E=>h n (_);lia
  show this _ λn E=>y n (_)
 let D:∀k,(d.12 k).sum<=d.sum:=λk=>by
  let e:d.sum=(d.12 k).sum+(d.drop k).sum:=by rw[←sum_append,take_append_drop]
  have:∀l:List Int,(∀n∈l,0<=n)->0<=l.sum:=λl=>by
   induction l with
   |nil=>simp
   |cons a r F=>intro h;rw[sum_cons];have:=h a zF;have:=F λn E=>h n (_);lia
  have:=this _ λn E=>y n (List.mem_of_mem_drop (i:=k) E)
  lia
 show call_sum_walk (wpAny_pyIter_list pl.51 ?_);let(fp,St,W,J,hfp):=Pn T I pl.51;show(_,_,_,_,_,_,λi=>d.44 i 0,Y,W,J,λb hb=>?_,λi v w=>?_,λj u=>?_,λh' tk R keep=>?_)
 ·ext
 ·have g:C[i]?=U v:=by simpa using w
  let hi:=(z8.mp g).1;let(u',B,t,S):=N.get (i:=i) (x:=V.t (d[i]'())) (_);rw[g]at B;cases B;show(t,?_)
  ext
 ·have z:j<d.9:=by rw[size_toArray]at u;lia
  rw[FP d (j+1) (by assumption)];let h2:=D (j+1);let h3:d.44 j 0=d[j]:=by rw[vg,z7 z];rfl
  let h4:=y _ (List.getElem_mem z);let h5:(d.12 (j+1)).sum=(d.12 j).sum+d[j]:=by rw[zw,z7 z,sum_append];simp
  let h6:=G j;change InLong (d.44 j 0)/\InLong _;unfold InLong
  lia
 ·show(.t d.sum,H,I.75 λb o e=>keep b o (by simp;show zu (lt_size e)) (zU _ e),(R,?_),q);rw[size_toArray,←A,FP d d.9 (zp _),zt]
theorem UB(d:X.c=L):gP X (sV "sum") (λb H Q=>∃(p:nq)(a:List Int),b=[.r p]/\fV X.K H p (a.7 V.t)/\(∀n∈a,0<=n)/\a.sum<2^62/\Q (.t a.sum) H):=Lo (sU d)
theorem Mp:MtR X "int.bit_length" (λx b H Q=>∃i,x=.t i/\b=[]/\Q (.t (ua i)) H):=by
 rintro a s j H x b v h Q I d e ⟨i,rfl,rfl,q⟩;let(t,rfl):=d;cases e;show call_int_bit_length (.t _,H,I.96 _,(_,Y),q)
theorem Ca:iy X (compareOp .LtE) (λx y H Q=>∃i j,x=.s i/\y=.s j/\Q (.l (!decide (j.4<i.4))) H):=by
 rintro a s l H x y v u Q I e d ⟨i,j,rfl,rfl,q⟩;let(t,rfl):=e;let(h,rfl):=d;show PySem.P.le_str (A6 I q Y)
theorem LL:MtR X "dict.setdefault" (λx f H Q=>∃a b k v,x=.r a/\f=[kV k,v]/\H a=U (.d b)/\b.9<sizeLine /\
  (∀w,An b k=U w->Q w H)/\(An b k=J->Q v (upd H a (.d (BS b k v))))):=by
 rintro p s N H x f u M Q I G t ⟨a,b,k,v,rfl,rfl,o,P,q1,q2⟩;cases G;let(R,D,rfl,rk,r):=HU t;let(z,y,vs,d,l):=N4 I.gA o;show call_meetsIn slot_dict_setdefault l.43 entry_dict_setdefault (args_dict_setdefault_3 _ _ _) (PySem.kt_meets_setdefault (Ag X.p X.w) a (E8 rk) y D) (vs,l,by rw[←d.9];show z,λm E=>?_,λA g i F=>?_)
 ·have h:=d.val k;rw[E]at h;cases e:An b k with
  |none=>rw[e]at h;show tQ h
  |some w=>rw[e]at h;show(w,H,I.96 _,h,q1 w e)
 ·have h:=d.val k;rw[A]at h
  let e:An b k=J:=by
   cases e:An b k with
   |none=>rfl
   |some w=>rw[e]at h;trivial
  let B:∃q,g.14 a=U q:=by let(q,_,_,C,_):=i;show (q,C)
  let j:(BS b k v).9<=sizeLine:=by have:=B3 b k v;lia
  show(v,_,F2 I (by rw[o];show uc) F B (Gj j y (d.put k r) i),r,q2 e)
theorem UC:gP X (sV oI) (λf H Q=>∃v T t b,f=[v,.y T]/\iS X.K H v t/\vq X.K t (sW T)=U b/\Q (.l b) H):=by
 rintro d s l H f j Q I r ⟨v,T,t,b,rfl,ty,e,q⟩;let(u,o,rfl,i,a):=HU r;cases (a);show Ld I i ty e λh=>(.l b,H,I.96 h,Y,q)
noncomputable def OB(d:Int):List Int->Int
 | []=>d
 |n::r=>r.68 max n
theorem Lr(d)(e)(n)(h:e≠ []):OB d (e++[n])=max (OB d e) n:=by
 cases e with
 |nil=>trivial
 |cons a r=>change(r++[n]).68 max a=_;rw[List.foldl_append];rfl
theorem SN(a v):argsOk su ([a],[(vj sf,(v))]):=by rfl
noncomputable def Xy:Option (Int×Tok)->Array Value
 |none=>#[]
 |some (m,t)=>#[tV m t,tV m t]
theorem SQ{s:PySem.Shared}{A}{R}{l}{a}(hh:A.41=J)(al:IntsAre l a)(as:p≠I)(N:S≠I)(az:p≠S)
  (hR:∀g f v,(∀b o,b≠I->b≠S->s.3 b=im o->g.14 b=im o)->(a=[]->v=d)->(a≠ []->∃t,v=tV (OB 0 a) t)->R (.ok (.ret v)) {s with heap:=g,toks:=f}):
  ∀k i h f c b,l.9-i=k->i<=l.9->h.78 I p i->h.IsList p l.11->h.14 S=im {cls:=sW oq,data:=uW (Xy b) c} ->
   (b=J->i=0)->(∀m t,b=im (m,(t))->0<i/\m=OB 0 (a.12 i))->(∀G o,G≠I->G≠S->s.3 G=im o->h.14 G=im o) ->
   codeAny (model prog aC) A (wa "max.loop" ([sR I,tj,sR S],[(vj sf,(d))])) R {s with heap:=h,toks:=f}:=by
 let aR:(toString su ++ toString ".loop")="max.loop":=by decide
 let gl:=al.9;intro k;induction k with
 |zero=>
  intro i h f c b hk hi Q r X y w keep;let e:i=l.9:=by lia
  apply codeAny_builtin entry_max_loop;show zo (wpAny_seqItems X rfl (zo (wpAny_tryCatch (wpAny_pyNext_list_end (hh) Q r (by simp;ext) λg eb=>?_))));cases b with
  |none=>
   let hn:a=[]:=by
    have:=y rfl;show vP ()
   show zo (wpAny_rule (zn (hR g f d (λb o D E q=>eb b o D (keep b o D E q)) (λ_=>rfl) λz=>absurd hn z)))
  |some mt=>
   let(m,t):=mt;let(U,hm):=w m t rfl
   let F:a≠ []:=λz=>by
    ext
   show zo (wpAny_updateSeq (eb S _ N X) Y (zo (wpAny_letGo (zn (hR _ f _ (λb o D E q=>(zT _ _ (sX E)).6 (eb b o D (keep b o D E q))) (λz=>absurd z F) λ_=>(t,?_))))) i1)
   ext
 |succ k ih=>
  intro i h f c b hk hi Q r X y w keep;let u:i<l.9:=by lia
  let hv:=z7 u
  let(n,t,hn,hvt):∃n t,a[i]?=im n/\l[i]=tV n t:=by
   let ku:i<a.9:=by lia
   let(a0,hu,t,ru):=(F4 al).get (i:=i) (x:=V.t a[i]) (_);rw[hv]at hu;show(a[i],t,z7 ku,(tS hu).6 ru)
  apply codeAny_builtin entry_max_loop;show zo (wpAny_seqItems X Y (zo (wpAny_tryCatch (wpAny_pyNext_list_item Q r (x:=tV n t) (_) λg H sb=>?_))));let C:=(sb.2 S N).6 X;let ag:=r.at λo q=>(sb.2 p as).6 q;let B:=λG o D E q=>(sb.2 G D).6 (keep G o D E q);let M:a.12 (i+1)=a.12 i++[n]:=by rw[zw,hn];rfl
  let an:∀P,(∀v,v=tV n t->(g.61 S (u4 λ_=>#[v,v])).14 S=im {cls:=sW oq,data:=uW (Xy (im (n,(t)))) P})->n=OB 0 (a.12 (i+1)) ->
    codeAny (model prog aC) A (wa "max.loop" ([sR I,tj,sR S],[(vj sf,(d))])) R {s with heap:=g.61 S (u4 λ_=>#[tV n t,tV n t]),toks:=f}:=λP e0 em=>
   ih (i+1) _ f P (im (n,(t))) () u (H.at λo q=>(zT _ _ N).6 q) (ag.at λo q=>(zT _ _ (sX az)).6 q) (e0 _ rfl) (λz=>by cases z)
    (λm t' z=>by cases z;lia) λG o D E q=>(zT _ _ (sX E)).6 (B G o D E q)
  cases b with
  |none=>
   let ar:=y rfl;change wpAny _ A.in1 (updateSeq S (λ_=>#[tV n t,tV n t]) >>= _) _ _ _;show zo (wpAny_updateSeq C Y (zn (plainId_quiet plain_max_loop _,an _ (λv e=>by subst e;show get?_update_seq C λ_=>#[_,_]) ?_)));rw[M,ar];rfl
  |some mt=>
   let(m,t0):=mt;let(U,hm):=w m t0 rfl
   let F:a.12 i≠ []:=λz=>by
    have:=congrArg vO z;rw[zr,length_nil]at this
    lia
   change wpAny _ A.in1 (tryCatch (holding [tV n t,tV n t] (richCompare .Gt (tV n t) (tV m t0) >>= _)) _ >>= _) _ _ _
   show zo (wpAny_tryCatch (zH (zo (CmpOf.ints_gt (P:=λi v=>(i=0/\v=tV n t)\/(i=1/\v=tV m t0)) (λi=>if i=0 then n else m) (λi v h=>by
    let(rfl,rfl)||(rfl,rfl):=h
    ·simp
    simp) 0 1 _ _ _ _ _ (sU (rfl,rfl)) (sY (rfl,rfl)) ?_))))
   show zo (zH (zW (zo (wpAny_letGo (zn ?_)))));by_cases ab:n>m
   ·have T:(λ(i j:Nat)=>decide ((if i=0 then n else m)>if j=0 then n else m)) 0 1=iY:=zI ab;rw[T];show zo (wpAny_updateSeq C Y (zo (wpAny_letGo (zn (plainId_quiet plain_max_loop _,an _ (λv e=>by subst e;show get?_update_seq C λ_=>#[_,_]) ?_)))) i1);rw[M,Lr 0 _ n F,←hm]
    lia
   ·have T:(λ(i j:Nat)=>decide ((if i=0 then n else m)>if j=0 then n else m)) 0 1=i7:=zL ab;rw[T];show zo (wpAny_letGo ?_)
    show zn (plainId_quiet plain_max_loop _,ih (i+1) _ f c (im (m,(t0))) () u H ag C (λz=>by cases z) (λm' t' z=>by
     cases z;show(Nat.succ_pos _,?_);rw[M,Lr 0 _ n F,←hm]
     lia) B)
theorem Qx(v:X.c=iY)(hg:Gl X su)(p:X.m su=J)(u:PE X e te)(m:PE X c R)(hs:starEach [e] X.e=(O,(eval e X.e))::starEach [] X.e:=by rfl)
  (A:backTo g (starEach [e] X.e)=(O,(eval e X.e))::backTo g (starEach [] X.e):=by rfl):
  PE X (uJ (tI su an) [e] [(im sf,c,kp)] g) (λf H Q=>te f H λx B=>R f B λy i=>∃(a:nq)(j:List Int)(d:Int),x=.r a/\y=.t d/\fV X.K i a (j.7 V.t)/\(j=[]->Q (.t d) i)/\(j≠ []->Q (.t (OB 0 j)) i)):=by
 intro l s f H Q I h;show zZ (Gf I hg p boot_max ?_)
 letI M:V->V->Hp->Prop:=λx y i=>∃(a:nq)(j:List Int)(d:Int),x=.r a/\y=.t d/\fV X.K i a (j.7 V.t)/\(j=[]->Q (.t d) i)/\(j≠ []->Q (.t (OB 0 j)) i)
 show callWith_kw (gH (gX u hs g l s f H (λvs B=>match vs with| [x]=>R f B (λy i=>M x y i)|_=>False) I h) λus s1 k=>?_) A (by rw[A];rfl);let(vs,B,E,F,q1):=k
 match vs,F,q1 with
 | [x],F,q1=>
  show gH ((Jm (nm:=im sf) (kpos:=kp) m Me) g l s1 f B (λvs i=>match vs with| [y]=>M x y i|_=>False) E q1) λas r K=>?_;let(G,i,N,w,q2):=K
  match G,w,q2 with
  | [y],w,q2=>
   let(a,j,d,rfl,rfl,hq,U,S):=q2;let(ar,rfl,ru):=Bq F;cases ru;let(ud,rfl,td,D):=Bq w;subst D;let(fc,rv,pl,hz):=N.67 hq;let hp:a<r.8:=by let(o,n,e,_):=id pl;show lt_size e
   apply PyProof.Rows.kmk_tree kind_max plain_max entry_max (SN _ _);show zo (wpAny_of_eq (Y) (zo (zn ?_)));show zo (wpAny_pyIter_list pl.51 (zo (wpAny_newList ?_ (tH _))));let ag:(toString su ++ toString ".loop")="max.loop":=by decide
   let hS:(r.19 {cls:=sW p0,data:=tN #[sR a,tV 0 0]}).10=r.8+1:=u9 ..
   show zn (plainId_quiet plain_max_loop _,SQ (s:=r) (I.66 v) (Ea rv) (zu hp) (_) (_)
    (λh' tk az keep P T=>?_) _ 0 _ _ 0 J rfl (tH _) (_,zU _ (zK _ rfl),rfl,rfl) (pl.isList.at λo q=>zU _ (zU _ q)) (zK _ rfl) (λ_=>rfl) (λal t ab=>by cases ab) λb o h1 h2 q=>zU _ (zU _ q))
   let z:Inv X l f i {r with heap:=h',toks:=tk}:=N.75 λb o q=>keep b o (zu (lt_size q)) (by rw[hS];show zu (Nat.lt_succ_of_lt (lt_size q))) q;by_cases C:j=[]
   ·rw[P C];show(.t d,i,z,(td,Y),U C)
   ·let(t,ev):=T C;rw[ev];show(.t _,i,z,(t,Y),S C)
def fQ(H:Hp):List nq->List (V×V)->Prop:=Paired λb p=>H b=U (.t [p.1,p.2])
theorem fQ.same(s:∀b o,H b=U o->H' b=U o)(h:fQ H d f):fQ H' d f:=Paired.mapP h λ_ _ e=>s _ _ e
theorem Inv.trackTups(l:Paired (λa p=>∃d,Vals [p.1,p.2] d/\IsTup s.16 a d.11) j m):∀H,Inv X g w H s->j.69 (· < ·) ->
  (∀a∈j,H a=io/\a≠X.23/\X.hZ.8<=a/\(∀x c,X.25 x=U c->c≠a)/\∀q∈X.n++g,q.1≠a)->∃f,Inv X g w f s/\fJ H f/\fQ f j m:=by
 induction l with
 |nil=>intro H I _ _;show(H,I,fJ.r H,tO)
 | @cons a p j m h l A=>
  intro H I C i;let(d,B,ht):=h;let(L,y):=pairwise_cons.mp C;let(r,E,J,F,z):=i a zF;let D:Inv X g w (upd H a (.t [p.1,p.2])) s:=I.track r E (sY J) F z (by change 2<=sizeLine;decide,d,B,ht);let G:fJ H (upd H a (.t [p.1,p.2])):=λb u e=>by rwa[AE (AH e r)]
  let(f,t,o,v):=A _ D y (λb M=>by
   let(q1,q2):=i b (_)
   show(by rw[AE (_)];show q1,q2))
  show(f,t,G.6 o,tP (o _ _ fH) v)
theorem Pq(v:X.c=iY):gP X (sW oq) (λm H Q=>∃p a g,m=[.r p]/\H p=im (Qw a p)/\Rd H a (.d g) /\
  ∀l h f,fJ H f->H l=io->f l=im (.l (h.7 V.r))->fQ f h (g.7 λo=>(kV o.1,(o.2)))->Q (.r l) f):=by
 rintro D s ab H m us Q I r ⟨p,a,g,rfl,P,hd,q⟩;let(u,rfl,ru):=Bq r;cases ru;let(ar,an,vs,B,T):=DK I.gA hd;let(ep,da):=T.dictAt;let(hv,_):=I.gA p _ P;let hl:=B.9;show W.kdx_call (I.66 v) hv da () λS tk acc c h keep e ag G A=>?_;let(L,n2,n3,n4,Z):=I.newOk (zp s.8);let el:acc=(h.7 sR).11:=by rw[←A]
 let w:Inv X D ab (upd H s.8 (.l (h.7 V.r))) {s with heap:=S,toks:=tk}:=(I.75 keep).track L n2 (sY n3) n4 Z (by simp_all,h.7 sR,c,C0 (_) λj al w' C N=>by
  rw[zx]at C N;cases t:h[j]? with
  |none=>rw[t]at C;cases C
  |some b=>rw[t]at C N;cases C;cases N;rfl,by ext)
 let M:Paired (λa p=>∃E,Vals [p.1,p.2] E/\IsTup S a E.11) h (g.7 λo=>(kV o.1,(o.2))):=(C0 (_) λj b pr y i=>by
   let(J,k,x,ex,hk,ho):=G.pairs j b y;rw[zx]at i;cases t:g[j]? with
   |none=>ext
   |some o=>
    rw[t]at i;simp at i;let(v2,d,rv2):=KV.get B t;rw[ex]at d;simp at d;subst i;show([J,x],tP ?_ (tP ?_ tO),_,ho,zd,7)
    ·rw[←d.1];show Ef hk
    ·rwa[d.2])
 let(f,I',R,t'):=Inv.trackTups M _ w G.rise (λb z=>by
   let F:=G.above b z;let(m1,Y,m3,m4,U):=I.newOk (sZ F)
   show(by rw[AE (_)];show m1,Y,m3,m4,U))
 show(.r s.8,f,I',zd,q _ h f (λb u e=>R b u (by rwa[AE (AH e L)])) L (R _ _ fH) t')
end
mutual
def CP(d:FG)(H:Hp):PyData->V->Prop
 |.none,v=>v=.g
 |.bool b,v=>v=.l b
 |.int i,v=>v=.t i
 |uN x,v=>v=.s x
 |vB g,v=>∃a f,v=.r a/\fV d H a f/\Bv d H g f
 |uU g,v=>∃a f,v=.r a/\gB d H a f/\Bv d H g f
 |.dict _,_=>False
def Bv(b:FG)(H:Hp):List PyData->nk->Prop
 | [],f=>f=[]
 |d::g,f=>E₂ λx r=>C₃ (f=x::r) (CP b H d x) (Bv b H g r)
end
mutual
theorem Inv.reads(I:Inv X f g H s):∀d v u,RelV v u->CP X.K H d v->∃B,Reads s.16 u d B
 |.none,v,u,r,h=>by
  let e:v=.g:=by simpa[CP]using h
  subst e;cases r;show(_,.none)
 |.bool b,v,u,r,h=>by
  let e:v=.l b:=by simpa[CP]using h
  subst e;cases r;show(_,.bool b)
 |.int i,v,u,r,h=>by
  let e:v=.t i:=by simpa[CP]using h
  subst e;let(t,rfl):=r;show(_,.int i t)
 |uN x,v,u,r,h=>by
  let e:v=.s x:=by simpa[CP]using h
  subst e;let(t,rfl):=r;show(_,.str x t)
 |vB p,v,u,r,h=>by
  let(a,C,rfl,y,z):=h;cases r;let(j,A,(o,n,e,c,_,l),_):=I.67 y;let(B,q):=I.readsAll p C j A z;show(_,.list e c l (by simpa using q))
 |uU p,v,u,r,h=>by
  let(a,C,rfl,y,z):=h;cases r;let(j,A,(o,e,c,n,l),_):=I.56 y;let(B,q):=I.readsAll p C j A z;show(_,.tuple e c l (by simpa using q))
 |.dict D,v,u,r,h=>by
  trivial
theorem Inv.readsAll(I:Inv X g m H s):∀b f a,Vals f a->Bv X.K H b f->∃e,ReadsAll s.16 a b e
 | [],f,a,r,h=>by
  subst (by simpa[Bv]using h);cases r;show(_,.nil)
 |d::b,f,a,r,h=>by
  let(x,t,rfl,j,l):=h;cases r with
  |cons p q=>
   let(e,i):=I.reads d x _ p j;let(bs,o):=I.readsAll b t _ q l;show(_,.cons i o)
end
mutual
theorem UD(b)(t:X.K=b)(j:X.A.42+64<cLine):iy X (compareOp .Eq) (λx y H Q=>∃a d,CP b H a x/\CP b H d y/\uF a=L/\uF d=L/\Q (.l (tZ a d)) H):=by
 subst t;rintro e s B H x y v u Q I r o ⟨a,d,i,l,A,h,q⟩;let(C,p):=I.reads a x v r i;let(bs,z):=I.reads d y u o l;show eq_dataH p z A h j (.l _,H,I,Y,q)
theorem Gn(b)(t:X.K=b)(j:X.A.42+64<cLine):iy X (compareOp .NotEq) (λx y H Q=>∃a d,CP b H a x/\CP b H d y/\uF a=L/\uF d=L/\Q (.l (!tZ a d)) H):=by
 subst t;rintro e s B H x y v u Q I r o ⟨a,d,i,l,A,h,q⟩;let(C,p):=I.reads a x v r i;let(bs,z):=I.reads d y u o l;show ne_dataH p z A h j (.l _,H,I,Y,q)
theorem YY(f)(B:X.K=f)(l:X.A.42+64<cLine):iy X (compareOp .Eq) (λx y H Q=>∃(a b:nq)(d e:List Int),x=.r a/\y=.r b/\fV f H a (d.7 V.t)/\fV f H b (e.7 V.t)/\Q (.l (decide (d=e))) H):=by
 subst B;rintro h s E H x y v u Q I A r ⟨a,b,d,e,rfl,rfl,j,o,q⟩;cases A;cases r;let(D,z,i,_):=I.67 j;let(p,C,t,_):=I.67 o;show W.ke_eq_ints i.51 t.51 (Ea z) (Ea C) l (.l _,H,I,Y,q)
theorem OC(F:AT X.p X.w X.K X.m X.b gG k f P [nv] T)(p:gD (k+1) X.A)(E:Binds X.K P [nv] [])(h:Pc X.K C si f):
  gP X (sV "len") (λw H Q=>∃a i g,w=[.r a]/\H a=U (.i C i g)/\T [.r a] H (λv b=>∃n:Nat,v=.t (n)/\n<2^62/\Q (.t (n:Int)) b) E0):=by
 rintro j s S H w R Q I r ⟨a,i,g,rfl,G,q⟩;let(u,rfl,J):=Bq r;cases J;let(m,o):=I.fr;let(L,D,_):=EZ I.gA G;let(O,y,_):=D.look;apply W.len_K o I.mod.jO y h.at_ h.fn;show wpAny_call (codeAny_mono (F.run X.A.in1 X.s s H ([sR a],[]) [sR a] [.r a] _ E0 p.in1 I.jE.in1 (E s [sR a] I.ip rfl) (tP rfl tO) q) λl N d=>?_);cases l with
 |error e=>show d.40
 |ok fl=>
  cases fl with
  |ret u=>
   let(v,b,x,A,n,z,M,B):=I.after d;subst z;let(t,rfl):=A;show((zX _,by lia),.t n,b,x.96 _,(_,Y),B)
  |next=>show tQ d
  |brk=>show tQ d
  |cont=>show tQ d
def YZ(C:nq)(d:Sp)(b:nk->nk->nk)(E:XK)(t f:TA):TE:=λi H Q=>t i H λvs j=>f i j λm h=>∀x g,h x=J->h g=J->g≠x ->
 d (b (.r x::vs) m) (upd (upd h g (.a x)) x (.i C g [])) (λv l=>v=.g/\Q (.r x) l) E
theorem KC(M:Mk X.K C f)(F:AT X.p X.w X.K X.m X.b gG k f w s sp)(u:gD (k+1) X.A)(Q:Gl X x)(v:X.m x=im (sR C))(q:Ph X.K w s m g r)
  (z:PA X (e::p) t) (D:PK X d tk) (as:(backToKw b (keywordEach d X.e)).94 (·.1.isSome)=iY:=by rfl) (G:(backToKw b (keywordEach d X.e)).35 (·.1)=m:=by rfl)
  (A:jg x:=by decide) (P:jC X e p:=by rfl)
  (E:((backTo b (starEach (e::p) X.e)).91 (·.1)||(backToKw b (keywordEach d X.e)).91 (·.1.isNone))=i7:=by rfl):
  PE X (uJ (tI x aC) (e::p) d b) (YZ C sp r E0 t tk):=by
 intro i ar ag H az I h;show zZ (Ci I Q v (W.callWith_KW I.85 M.kp as (gH (z b i ar ag H _ I h) λy s1 n=>?_) E P) A);let(vs,H1,I1,an,al):=n;show gH (D b i s1 ag H1 _ I1 al) λl j (T,H2,o,S,q2)=>(o.ip,?_);rw[G];let ab:=q2 (j.8+1) j.8 (o.18 (uX _)) (o.18 (zp _)) (_);let B:=Inv.made (C:=C) o;let N:Vals (r (V.r (j.8+1)::vs) T) (g (sR (j.8+1)::y) l):=q.rel (tP rfl an) S;let hl:(g (sR (j.8+1)::y) l).9=s.9:=by rw[←N.9];show F.len _ _ _ _ ab
 show wpAny_call (Nu o.ip M.makes M.init (beq_iff_eq.mp M.fn) (codeAny_mono (F.run _ X.s _ _ (sR (j.8+1)::y,m.zip l) _ _ _ E0 (u.make C y (m.zip l)) (B.jE.make C y (m.zip l)) (q.to _ _ _ B.ip hl) N ab) λR s' a=>?_));cases R with
 |error e=>show a.40
 |ok fl=>
  cases fl with
  |ret aM=>
   let(aR,H',Y,rv,ev,q3):=B.after a;subst ev;show(rv,(V.r (j.8+1),H',Y,zd,q3))
  |next=>show tQ a
  |brk=>show tQ a
  |cont=>show tQ a
def cy(i j:Int):Prop:=ua i<=2^20/\ua j<=2^20
theorem Mq:iy X (binaryOp .Mult) (rI cy λi j=>.t (i*j)):=mi λ_ _ _ _ _ _ _ a q=>mul_int q (IntMulOk.of_bits a.1 a.2)
def Z4(i j:Int):Prop:=0<j/\Builtin.divisionGoesByPylong i j=O
theorem OD:iy X (binaryOp .FloorDiv) (rI Z4 λi j=>.t (i/j)):=mi λi j _ _ _ _ _ a q=>by
 let d:=a.1;show floordiv_int () (by rwa[Int.fdiv_eq_ediv_of_nonneg i ()]) (sU a.2)
theorem Mr(X:g.In s.16)(I:u5 s.16 x i C j)(f:uf g (sR C) qI=U (U (sV oO)))
  (h:wpAny M A (call (sV oO) (sR x::b)) (λv=>Q (U v)) E s):wpAny M A (callSpecialIfBound? (sR x) qI b) Q E s:=by
 show zH (zo (zo (zo (I.type.here ((vH X f).here (zo (wpAny_askSetting (wpAny_ite ?_))))))));let a:=zo (zm h (λv e d=>zn d) λ_ _ d=>d);split
 ·show zo (zn (zn a))
 ·show wpAny_tryCatch (zo (zn (zn a)))
theorem OE(o:A.42+1<cLine)(X:g.In s.16)(I:u5 s.16 x q C m)(p:vt g C (sW pA)=U L)(d:uf g (sR C) qJ=U (U (sR f)))(l:W.isFn g (sR f)=L)
    (h:wpAny (model prog w) A.in1 (call (sR f) [sR x,sR y]) (λv j=>∃b,v=uO b/\Q (uO (!b)) j) E s):wpAny (model prog w) A (call (sV oO) [sR x,sR y]) Q E s:=by
  show wpAny_call (codeAny_call_builtin cmp_object.ne.plain cmpEntry_ne (W.check_slot (i:=oO) (by rfl) (by rfl) (I.type.andThen (W.looks_mroIn X p)) (cmpArgs_ne _ _) ?_))
  repeat (first
    |with_reducible show wpAny_cRoomFor (by change A.in1.42<cLine;show o) ?_
    | (show zo
        (W.ifBound_K X I d l (zm h (λr j d=>by
          let(b,rfl,a):=d
          repeat (first|show a|show(_,rfl,a)|show zn (_,rfl,a)| (show zo (zW ?_))|wp_step)) λ_ _ e=>e)))
    |wp_step)
theorem Ya(o:A.42+1<cLine)(X:g.In s.16)(I:u5 s.16 x B C D)(m:u5 s.16 y u C i)(p:vt g C (sW pA)=U L)
  (q:uf g (sR C) qI=U (U (sV oO))) (t:uf g (sR C) qJ=U (U (sR f))) (l:W.isFn g (sR f)=L)
  (h:wpAny (model prog w) A.in1 (call (sR f) [sR x,sR y]) (λv a=>∃b,v=uO b/\Q (uO (!b)) a) E s):wpAny (model prog w) A (compareOp .NotEq (sR x) (sR y)) Q E s:=by
 change wpAny _ _ (richCompare .NotEq (sR x) (sR y)) _ _ _
 let one:wpAny (model prog w) A (tryCompare (sR x) (cmpInfo .NotEq).2.1 (sR y)) (λr a=>∃v,r=U v/\Q v a) E s:=by
  show zo (Mr X I q (OE o X I p t l (zm h (λv a j=>?_) λ_ _ e=>e)));let(b,rfl,d):=j;show(b,Y,zn (7,d))
 show zH (zo (wpAny_cRoomFor () (zo (I.type.here (zo (m.type.here ?_))))));rw[zg (_)];show zo (zn (zo (zm one (λr a z=>?_) λ_ _ e=>e)));let(v,rfl,d):=z;show zn d
def Z5(d:Sp)(a b:nq)(H:Hp)(Q:VK):Prop:=d [.r a,.r b] H (λv f=>∃t,v=.l t/\Q (.l t) f) E0
theorem Yb(F:AT X.p X.w X.K X.m X.b gG k f m [nv,oa] w)(z:gD k A)(r:iT X.p X.w X.K X.m X.b A X.s s H)(p:Binds X.K m [nv,oa] [])(I:Inv X g B H s)(h:Z5 w a b H Q):
  wpAny (model X.p X.w) A (call (sR f) [sR a,sR b]) (λv i=>∃t,v=uO t/\EP X g B Q (uO t) i) E s:=by
 show wpAny_call (codeAny_mono (F.run A X.s s H ([sR a,sR b],[]) [sR a,sR b] [.r a,.r b] _ E0 z r (p s [sR a,sR b] I.ip rfl) (tP rfl (tP rfl tO)) h) λq i d=>?_);cases q with
 |error e=>show d.40
 |ok fl=>
  cases fl with
  |ret u=>
   let(v,x,o,j,t,y,l):=I.after d;subst y;cases j;show(t,Y,.l t,x,o,Y,l)
  |next=>show tQ d
  |brk=>show tQ d
  |cont=>show tQ d
theorem Hh(F:AT X.p X.w X.K X.m X.b gG k f P [nv,oa] sp)(d:gD (k+1) X.A)(w:Binds X.K P [nv,oa] [])(h:Pc X.K C qJ f)(r:uf X.K (sR C) qI=im (im (sV oO)))(u:vt X.K C (sW pA)=im L):
  iy X (compareOp .NotEq) (λx y H Q=>∃a i m b j o,x=.r a/\y=.r b/\H a=im (.i C i m)/\H b=im (.i C j o)/\Z5 sp a b H (λv g=>∃t,v=.l t/\Q (.l (!t)) g)):=by
 rintro l s al H x y v ag Q I D A ⟨a,i,m,b,j,o,rfl,rfl,R,ab,q⟩;cases D;cases A;let(U,N,_):=EZ I.gA R;let(od,G,_):=N.look;let(mB,S,_):=EZ I.gA ab;let(T,p,_):=S.look;show Ya (tw (Nat.add_le_add_left qc _) d.42) I.ip G p u r h.at_ h.fn (gH (Yb (E:=X.x) F d.in1 I.jE.in1 w I q) λv s' B=>?_);let(t,rfl,Z,g,z,M,Y,e,q):=B;subst e;cases M;show(t,zd,.l _,g,z,zd,q)
theorem KF(g)(w:X.K=g):gP X (sV oI) (λf H Q=>∃a p b,f=[.r a,.r p]/\(H a=U (.l b)\/H a=U (.t b))/\gB g H p [.y oq,.y oB]/\Q (.l L) H):=by
 subst w;rintro h s G H f S Q I r ⟨a,p,b,rfl,i,F,q⟩;let(u,T,rfl,R,l):=HU r;cases R;cases l;let(v,M,(o,e,c,n,x),_):=I.56 F;let(ko,B,O,D):=o;subst c;subst x
 let y:v=[sW oq,sW oB]:=by
  cases M with
  |cons E P=>
   cases P with
   |cons r3 N=>
    cases N;cases (E);cases (r3);rfl
 subst y;let d:∀t,EP X h G Q (uO L) {s with toks:=t}:=λt=>(.l L,H,I.96 t,rfl,q);let i||i:=i
 ·let(_,_,m,_,j):=(I.gA a _ i);show W.kia_tup W.kitx_list I.ip (_,j,rfl) e rfl (λz=>nomatch z) d
 ·let(_,_,_,C):=(I.gA a _ i);let(o,j,A,_):=C;show W.kia_tup W.kitx_tuple I.ip (o,j,A) e rfl (λz=>nomatch z) d
structure KG(fs:List nq)(e:nq)(oe:Obj)(vs:Array Value)(old:nq->Prop)(h h':Heap):Prop where
 tb:∃T oT ts,h.10<=T/\h'.14 T=U oT/\oT.34=tN ts/\ts[3]?=U tj/\h'.14 e=U {oe with data:=tN (vs.20 1 (sR T))}
 keep:∀b o,h.14 b=U o->b≠e->¬ old b->b∉ fs->h'.14 b=U o
 slot:∀b o,h.14 b=U o->b≠e->¬ old b->b∈fs->∃sl,h'.14 b=U {o with slots:=sl}
 there:∀b o,h.14 b=U o->∃d,h'.14 b=U d
theorem Go(a:o.34=tN vs)(f):ur f o={o with data:=tN (f vs)}:=by
 let(c,d,e,sl):=o;cases a;rfl
theorem SR{h:PySem.Heap}{f}(e:∀o,h.14 a=U o->(f o).isFreed=O):∀o,h.14 b=U o->∃i,(h.61 a f).14 b=U i:=λo d=>by
 by_cases q:b=a
 ·subst q;show(_,zR f d (e o d))
 ·show(o,(zT _ _ (sX q)).6 d)
theorem Qy        
  (hfr:A.46=im (i::m)) (v:s.36 an (i::m)) (ab:i.frame=im f) (S:s.3 e=im X) (C:X.34=tN vs) (P:1<vs.22)
  (h:∀w,KG (iz (i::m)) e X vs (λ_=>False) s.16 w->Q ux {s with heap:=w}):
  wpAny M A (do let a ←frameOf i;let pl ←entryPlaceOf f ar;let b ←EntryCells.newEntry ag a tj (rawInt f) tj pl;setField (sR e) 1 b) (λ_ T=>wpAny M A (setFlight (sR e) J) Q E T) E s:=by
 let r:e∉ iz (i::m):=λR=>by
  let(_,o,Y,al):=v.mem R
  ext
 show zo (wpAny_frameOf_fun hfr v ab λd t=>zo (wpAny_entryPlaceOf λpl D=>zo (wpAny_newObj_type ?_ (D.sizeOk5 _ _ _ _ _))));generalize y:([ag,sR f,tj,rawInt f,tj]++(if pl.99 then tJ 6 tj else pl)).11=pg;let u:3<pg.22:=by rw[←y];simp only[size_toArray,zE,length_cons];lia
 let N:=(t.2.1 e r).6 S;let G:=zU (sW "traceback",J,tN pg,#[]) N;apply wpAny_setField G C P;let B:=uH (lt_size N);let I:=tU C (·.20 1 (sR d.10));let z:=zR (ur (·.20 1 (sR d.10))) G (uw I);let t3:=(zT (d.71 (sW "traceback",J,tN pg,#[])) (ur (·.20 1 (sR d.10))) (sX B)).6 (zK d rfl);show zo (wpAny_field z I (x:=sR d.10) (by simp[P]) (wpAny_setField t3 zd u (h _ ?_)))
 let j:∀b o,b≠e->d.14 b=im o->∀g,(((d.71 (sW "traceback",J,tN pg,#[])).61 e (ur (·.20 1 (sR d.10)))).61 d.10 g).14 b=im o:=λb o l p g=>by
  rw[zT _ _ (uH (lt_size p)),zT _ _ (sX l)];show zU _ p
 show((d.10,_,_,Nat.le_of_eq t.1.31,zR _ t3 (uw (tU zd _)),tU zd _,by simp[u],?_),λb o l F _ H=>?_,λb o l F _ H=>?_,λb o l=>?_)
 ·rw[zT _ _ B,z,Go C]
 ·show j b o F ((t.2.1 b H).6 l) _
 ·let(sl,U):=t.2.2 b o l
  ext
 ·let(sl,U):=t.2.2 b o l;by_cases q:b=e
  ·subst q;show(_,(zT _ _ B).6 z)
  simp[*]
theorem OF      
  (m:A.46=U (a::g)) (o:s.36 q (a::g)) (i:a.frame=U p) (j:s.3 e=U f) (l:f.34=tN vs) (d:vs[1]?=U tj)
  (h:∀b,KG (iz (a::g)) e f vs (λ_=>False) s.16 b->Q ux {s with heap:=b}):wpAny M A (leaving a (sR e)) Q E s:=by
 unfold leaving noteFrame;simp only[i];show zo (zo (wpAny_field j l d (Qy m o i j l (z9.mp d).1 h)))
theorem Ls      
  (g:A.46=im (d::q)) (P:s.36 al (d::q)) (C:d.frame=im ab) (G:s.3 e=im m) (H:m.34=tN vs) (B:vs[1]?=im (sR T)) (u:T≠e)
  (t:s.3 T=im X) (i:X.34=tN ts) (F:ts[3]?=im tj)
  (h:∀f,KG (iz (d::q)) e m vs (·=T) s.16 f->Q ux {s with heap:=f}):wpAny M A (noteFrame (sR e) d) (λ_ w=>wpAny M A (setFlight (sR e) J) Q E w) E s:=by
 unfold noteFrame;simp[C];show zo (wpAny_field G H B ?_);show zo (wpAny_field t i F (zo (wpAny_setField t i (z9.mp F).1 ?_)));let mx:∀b,b≠T->(s.heap.61 T (ur (·.20 3 tj))).14 b=s.3 b:=λb a=>zT _ _ (sX a)
 let N:∀b o,s.3 b=im o->(∀vs,o.34≠ tN vs)->b≠T:=λb o a D an=>by
  ext
 show Qy (hfr:=g) (P.of_keeps λb o a D=>(o,(mx b (N b o a D)).6 a,Y)) C ((mx e (sX u)).6 G) H (z9.mp B).1 λf x=>h f ?_
 let fr:∀o,s.3 T=im o->(ur (·.20 3 tj) o).isFreed=O:=λo I=>by
  rw[t]at I;cases I;show uw (tU i _)
 let(R,r,v,ag,S):=x.tb;show((R,r,v,by ext,S),λb o a j y l=>x.32 b o ((mx b y).6 a) j (λz=>z) l,λb o a j y l=>x.slot b o ((mx b y).6 a) j (λz=>z) l,λb o a=>?_);let(U,p):=SR fr o a;show x.86 b U p
theorem Ps      
  (m:A.46=U (a::g)) (p:s.36 y (a::g)) (l:a.frame=U w) (r:s.3 e=U f) (t:f.34=tN vs) (o:vs[1]?=U (sR T)) (i:T≠e)
  (q:s.3 T=U u) (d:u.34=tN v) (j:v[3]?=U tj)
  (h:∀b,KG (iz (a::g)) e f vs (·=T) s.16 b->Q ux {s with heap:=b}):wpAny M A (leaving a (sR e)) Q E s:=by
 show zo (Ls m p l r t o i q d j h)
noncomputable def Hi(e C:nq)(b:Option nq):HO:=.e λh=>∃d vs,h.14 e=U d/\d.83=sR C/\d.93=b/\d.34=tN vs/\5<vs.22/\vs[2]?=U tj
structure UE(P:Program)(w:World)(l:List Env)(H:Hp)(s:nr)(e C:nq)(dx:Option nq)(H':Hp)(s':nr):Prop where
 os:s'.os=s.os
 bare:AllBare s'.gens
 un:Un (iz l) [] H H' s.16 s'.16
 gA:iG P w H' s'.16
 at_:H' e=U (Hi e C dx)
def Tb0(e:nq)(b:nr):Prop:=E₂ λd vs=>C₃ (b.3 e=U d) (d.34=tN vs) (vs[1]?=U tj)
def Tb1(e:nq)(d:Hp)(s b:nr)(fl:Value):Prop:=E₅ λg vs T f h=>C₉ (b.3 e=U g) (g.34=tN vs) (vs[1]?=U (sR T)) (T≠e) (b.3 T=U f) (f.34=tN h) (h[3]?=U fl) (d T=J) (s.3 T=J)
def Fly(P:Program)(w:World)(l:List Env)(H:Hp)(s:nr)(e C:nq)(f:Option nq)(b:Hp)(d:nr):Prop:=UE P w l H s e C f b d/\Tb1 e b s d tj
def iD(P:Program)(w:World):CXT:=λg H s E e h=>∃f C d b,e=sR f/\Fly P w g H s f C d b h/\E (sR C) d b
theorem Qz(u:Un g [] H m h j):∀{l},(∀b∈iz l,b∈g)->(∀b∈iz l,H b=J)->h.FunFrames f l->j.FunFrames f l
 | [],_,_,_=>trivial
 |a::r,v,s,⟨y,⟨p,o,q,w,A,hd⟩,i⟩=>by
  let d:p∈iz (a::r):=by unfold iz;rw[zJ,q];show zF
  let sub:∀b∈iz r,b∈iz (a::r):=λb z=>by unfold iz;rw[zJ,q];show zO _ z
  let(sl,e):=u.slot p o A (s p d) (v p d) (_);show(y,(p,_,q,w,e,hd),Qz u (λb z=>v b (sub b z)) (λb z=>s b (sub b z)) i)
structure Pt(X:Cx):Prop where
 jB:X.s=X.e::X.o
 fr:X.e.frame=U X.23
 ex:X.a=[]
theorem OG(ok:iG P w d h)(f:KG s e m vs old h g)(G:∀b∈s,d b=J)(R:∀b,old b->d b=J)
  (x:h.14 e=U m) (B:m.34=tN vs) (a:d e=U (Hi e C X)):iG P w d g:=λb u q=>by
 let kp:∀c v,c≠e->(∃z,d c=U z)->h.14 c=U v->g.14 c=U v:=λc v n k A=>by let(z,ab):=k;show f.32 c v A n (λy=>by ext) λy=>by ext
 by_cases F:b=e
 ·subst F;rw[a]at q;cases q;let((p,t,j,D,E,l,S,Q),_,st):=ok _ _ a;rw[x]at j;cases j;rw[B]at l;cases l;let(T,O,N,b1,M,I,H,o):=f.tb;show((_,_,o,D,E,Y,by ext,by ext),(_,o),st)
 ·show(ok b u q).i9 (λc v i r=>?_) (λ_ z=>z) λ_ _ z=>z;let rfl||i:=i
  ·simp[*]
  ·show kp c v (λz=>?_) (_,i) r;subst z;rw[a]at i;cases i
theorem OH(g:Pt X)(I:Inv X fb al w m)(F:UE X.p X.w X.s w m e C dx j s)(G:s.3 e=im P)(S:P.34=tN vs)(B:1<vs.22)
  (p:∀b,old b->j b=J/\m.3 b=J) (f:KG (iz X.s) e P vs old s.16 E):Fly X.p X.w X.o X.i X.hZ e C dx j {s with heap:=E}:=by
 let d:Un (iz X.o) [] X.i w X.hZ.16 m.16:=by have:=I.base;rwa[g.ex]at this
 let i:∀b∈iz X.s,j b=J:=λb a=>by
  let(_,o,U,_):=I.stack.mem a;show F.un.free b o U (I.stkFree b a) (_)
 let ab:∀b,j b=J->b≠e:=λb n z=>by subst z;rw[F.at_]at n;cases n
 let l:∀b o,X.hZ.3 b=im o->b∉ iz X.o->b∉ iz X.s:=λb o a hn z=>by
  rw[g.jB]at z;unfold iz at z;rw[zJ,g.fr]at z;let z||z:=mem_cons.mp z
  ·show absurd (zY (lt_size a) I.73) (_)
  trivial
 let y:∀b,b∈iz X.o->b∈iz X.s:=λb a=>by
  rw[g.jB];unfold iz;rw[zJ,g.fr];show zO _ a
 let h:∀b o,X.hZ.3 b=im o->¬ old b:=λb o a z=>by
  let(o',ag):=d.86 b o a (_)
  ext
 let v:Un (iz X.o) [] X.i j X.hZ.16 E:=by
  show(λb o q n a _=>?_,λb o q n a _=>?_,λb o q n _=>?_,λb o q _=>?_,λb r q=>F.un.ji b r (d.ji b r q),λb o r q=>F.un.jb b o r (d.jb b o r q),λb A q=>?_)
  ·have q1:=d.32 b o q n a (_);let u:=d.54 b o q n (_);let q2:=F.un.keep b o q1 u (l b o q a) (_);show f.32 b o q2 (ab b (F.un.free b o q1 u (_))) (h b o q) (l b o q a)
  ·let(sl,q1):=d.slot b o q n a (_);let u:=d.54 b o q n (_);let(i1,q2):=F.un.slot b _ q1 u (y b a) (_);let(kQ,q3):=f.slot b _ q2 (_) (h b o q) (y b a);show(kQ,q3)
  ·let(t,q1):=d.86 b o q (_);show F.un.free b t q1 (d.54 b o q n (_)) (_)
  ·let(t,q1):=d.86 b o q (_);let(x,q2):=F.un.there b t q1 (_);show f.86 b x q2
  ·let(m1,R):=d.jf b A q;let(Z,e2):=F.un.jf b _ R
   grind
 show((F.os.trans I.os,F.bare,v,OG F.gA f i (λb z=>(p b z).1) G S F.at_,F.at_),?_);let(T,Q,N,b1,M,H,D,Y):=f.tb;let hT:=Heap.get?_none_of_le b1;show(_,_,T,Q,N,Y,zd,by simp[B],λz=>?_,M,H,D,F.gA.fresh b1,?_)
 ·ext
 ·cases q:X.hZ.3 T with
  |none=>rfl
  |some o=>
   let(t,q1):=d.86 T o q (_);let(x,q2):=F.un.there T t q1 (_)
   ext
theorem Gp(I:Inv X h i b d)(F:UE X.p X.w X.s b d e C g a f):f.36 X.b X.s:=Qz F.un (λ_ z=>z) I.stkFree I.stack
theorem KH(f:Pt X)(I:Inv X D E g s)(F:Fly X.p X.w X.s g s e C m j w):
  ik X (leaving X.e (sR e)) (λ_ s3=>Fly X.p X.w X.o X.i X.hZ e C m j s3) y w:=by
 let(B,v,vs,T,x,t,d,h,i,l,p,o,q,u,r):=F;let fr:=Gp I B;let a:=I.ok.46;rw[f.jB]at fr a;show Ps a fr f.fr d h i l p o q λA G=>?_;rw[←f.jB]at G;show OH f I B d h (z9.mp i).1 (λb z=>by ext) G
theorem Pu(f:Pt X)(I:Inv X s u m r)(B:UE X.p X.w X.s m r e C q j g)(T:Tb0 e g):
  ik X (leaving X.e (sR e)) (λ_ s3=>Fly X.p X.w X.o X.i X.hZ e C q j s3) l g:=by
 let(p,vs,i,a,d):=T;let fr:=Gp I B;let h:=I.ok.46;rw[f.jB]at fr h;show OF h fr f.fr i a d λo v=>?_;rw[←f.jB]at v;show OH f I B i a (z9.mp d).1 (λb z=>z.40) v
theorem Yc:
  Pt (CN CX P w ω mg base N qual scope f cd A outer s H E):=(rfl,rfl,rfl)
theorem Dx:
  Bc (iD P w) (CN (iD P w) P w u m b N qual scope f g A r s H E) E:=by
 rintro a o p j e l I ⟨i,C,h,d,rfl,F,q⟩;show zm (KH Yc I F) (λ_ s3 G=>(i,C,h,d,Y,G,q)) λ_ _ z=>z
def UF(X:Cx)(E:XK):Prop:=∀g(h:St)H s e C f d b,Inv X g h H s->UE X.p X.w X.s H s e C f d b->Tb0 e b->E (sR C) f d->X.x (sR e) b
theorem Hj{qual}:
  UF (CN (iD P w) P w ω mg base N qual scope f cd A outer s H E) E:=by
 intro a l o i h C d e j I F T q;show zm (Pu Yc I F T) (λ_ s3 G=>(h,C,d,e,Y,G,q)) λ_ _ z=>z
structure OI(B:String)(bm:nj):Prop where
 b:bm.17 (sW B)=L
 base:bm.17 (sW oV)=L
 na:bm.17 (sW "AttributeError")=O
 nn:bm.17 (sW "NameError")=O
theorem Pv{A}{C}{E:VS}{h}{N}{M}{g}{d}{t}{r}{f x}{bs p q}{i}{v}{sub}{z}{o}{u}{D y b I G}{B a e}(F:ExcBaseFacts B a e q)(T:OI B p){j}{Q}(oC:h.14 C=U (excClassObj f x C N bs p i v sub z o u D y b I G a))
  (l:Q ux (h,g,d,t,r)):wpAny M A (checkBuiltinCall a (sR C::j,[])) Q E (h,g,d,t,r):=by
 let H:(sR C::p).17 (sW B)=L:=by rw[contains_cons,T.b];simp
 let st:=F.noStar;simp[checkBuiltinCall,F.newKind,F.newSplit,F.newRow]
 repeat (first|show zV oC ?_| (show z4 oC ?_;rw[H])|show wpAny_staticBase_exc oC ?_|show wpAny_madeBy_exc oC ?_|simp only[bne_self_eq_false,if_false]|wp_step)
 show l
noncomputable abbrev UG(C:nq)(h:Heap):Obj:={cls:=sR C,data:=tN #[sR h.10,tj,tj,tj,uO O,tj]}
abbrev KJ(C:nq)(b:nj)(h:Heap):Heap:=(h.71 {cls:=sW oB,data:=uW b.11}).71 (UG C h)
theorem UH{w}{A}{C}{h}{N}{prog}{R}{g}{d}{t}{u}{m z}{bs l r}{j}{x}{sub}{H}{q}{v}{I G f M b}{B a i}(F:ExcBaseFacts B a i r)(T:OI B l){e}(oC:h.14 C=U (excClassObj m z C N bs l j x sub H q v I G f M b a))
  (E:R (.ok (.ret (sR (h.10+1)))) (KJ C e h,g,d,t,u)) (s:e.9<=sizeLine):codeAny (model prog w) A (wa a (sR C::e,[])) R (h,g,d,t,u):=by
 let Q:=F.ends;let P:(sR C::l).17 (sW B)=L:=by rw[contains_cons,T.b];simp
 let y:(sR C::l).17 (sW "AttributeError")=O:=by rw[contains_cons,T.na];rfl
 let D:(sR C::l).17 (sW "NameError")=O:=by rw[contains_cons,T.nn];rfl
 apply codeAny_builtinAt F.entry;apply PySem.wpAt_bind;show PySem.wpAt_bind (PySem.wpAt_stack λp o=>PySem.wpAt_of_wpAny ?_)
 wp_walk
 apply PySem.wpAt_of_wpAny;rw[F.owner]
 repeat (first|with_reducible show wpAny_madeHere_exc F.canon oC ?_|with_reducible show zV oC ?_| (with_reducible show z4 oC ?_;first|rw[P]|rw[y]|rw[D])|wp_step)
 rwa[u9]
theorem Pw{w}{A}{C}{E:VS}{h}{N}{prog}{g}{d}{t}{l}{nm f}{bs u ag}{j}{I}{sub}{s}{q}{H}{S M k2 P v}{B e i}(F:ExcBaseFacts B e i ag)(T:OI B u){a}{y}{D}{Q}
  (oC:h.14 C=U (excClassObj nm f C N bs u j I sub s q H S M k2 P v e)) (m:W.Looks (model prog w) h (typeLookup (sR C) nV) (U (sR y))) (oF:h.14 y=U D) (X:D.83=sW qU) (hz:a.9<=sizeLine)
  (p:wpAny (model prog w) A (call (sR y) (sR (h.10+1)::a)) (λr G=>r=tj/\Q (.done (.ret (sR (h.10+1)))) G) E (KJ C a h,g,d,t,l)):
  wpAny (model prog w) A (Builtin.«type.__call__» (sR C::a,[])) Q E (h,g,d,t,l):=by
 repeat (first|with_reducible show zV oC ?_|with_reducible show wpAny_madeBy_exc oC ?_|wp_step)
 show codeAny_call_builtin_code (Code.quiet_builtin _ F.quiet) (Pv F T oC (UH F T oC ?_ hz));let kp:∀b o,h.14 b=U o->(KJ C a h).14 b=U o:=λb o z=>zU _ (zU _ z)
 heap_get
 let ab:(sR C::u).17 (sR C)=iY:=by simp
 repeat (first|with_reducible show zV ge ?_| (with_reducible show z4 (kp _ _ oC) ?_;rw[ab])|wp_step)
 apply m A _ E (KJ C a h,g,d,t,l) kp;show zH (zo ?_);show zo (wpAny_typeOf (_,kp _ _ oF,X) (zn (zo (zm p (λr G z=>?_) λ_ _ x=>x))));let(rfl,R):=z
 wp_walk
 show R
theorem SS{w}{A}{C}{E:VS}{h}{N}{prog}{g}{d}{t}{u}{nm D}{bs x p}{j}{z}{sub}{I}{o}{y}{f H P R M}{B e i}(F:ExcBaseFacts B e i p)(T:OI B x){a}{q}{v}{Q:VS}
  (oC:h.14 C=U (excClassObj nm D C N bs x j z sub I o y f H P R M e)) (G:W.Looks (model prog w) h (typeLookup (sR C) nV) (U (sR q))) (S:h.14 q=U v) (m:v.83=sW qU) (s:a.9<=sizeLine)
  (l:wpAny (model prog w) (A.under (wa pQ (sR C::a,[]))) (call (sR q) (sR (h.10+1)::a)) (λr b=>r=tj/\Q (sR (h.10+1)) b) E (KJ C a h,g,d,t,u)):
  wpAny (model prog w) A (call (sR C) a) Q E (h,g,d,t,u):=by
 let ab:=tc_lookup;let X:=tc_bind (sR C);show wpAny_call (codeAny_of_tree ?_)
 repeat (any_goals (first|assumption|with_reducible show zV oC ?_|wp_step))
 show(Y,codeAny_call_builtin_at (Code.quiet_builtin _ (_)) entry_typeCall (wpAny_check_type_call_sub oC (Pw F T oC G S m s l)))
noncomputable def GC(e C:nq)(b:Option nq):HO:=.e λh=>∃d vs,h.14 e=U d/\d.83=sR C/\d.93=b/\d.34=tN vs/\vs.22=6/\vs[1]?=U tj/\vs[2]?=U tj
noncomputable def B₁:List (Option Value)->Option String
 |[_,_,_,_,U (sV n),_]=>U n
 |_=>J
theorem B₀{P:Prop}{n:String}(h:J=U n):P:=by cases h
theorem B₁i(h:B₁ l=U n):∃a b c d e,l=[a,b,c,d,U (sV n),e]:=by
 rcases l with _|⟨a,_|⟨b,_|⟨c,_|⟨d,_|⟨v,_|⟨e,_|⟨x,y⟩⟩⟩⟩⟩⟩⟩
 all_goals first|show B₀ h|(rcases v with _|v<;>first|show B₀ h|(cases v<;>first|show B₀ h|(cases h;show ⟨_,_,_,_,_,rfl⟩)))
noncomputable def BL(b:FG)(C:nq):Bool:=match b.5 C with
 |some ⟨sW y,_,.cls f,sl⟩=>(match f.mro with
  |sR g::d=>y=="type"&&B₁ sl.33==U "ValueError.__new__"&&g==C && !f.hasDel && d.17 (sW "BaseException")&&d.17 (sW "ValueError") && !d.17 (sW "AttributeError") && !d.17 (sW "NameError")
  |_=>O)
 |_=>O
theorem Jo(X:g.In h)(q:BL g C=L):∃f p N bs i d o sub t a j u r b x v,h.14 C=U (excClassObj f p C N bs i d o sub t a j u r b x v "ValueError.__new__")/\OI oo i:=by
 unfold BL at q;split at q
 ·rename_i k j B sl G;split at q
  ·rename_i m i A;simp only[tA,beq_iff_eq,ve]at q;let(((((((rfl,hb),rfl),e),H),ht),I),z):=q;let(u,r,b,x,v,E):=B₁i hb;let(f,bs,F,y,p,D,o,sub,t,a,del):=B;subst A e;obtain⟨l⟩:=sl;subst E;show(f,p,y,bs,i,D,o,sub,t,a,j,u,r,b,x,v,X _ _ G,(ht,H,I,z))
  ·cases q
 ·cases q
structure MkX(K:FG)(C f:nq):Prop where
 cls:BL K C=L
 init:uf K (sR C) nV=U (U (sR f))
 fn:W.isFn K (sR f)=L
 fo:∃o,K.5 f=U o/\o.83=sW qU
 kp:vc K (sR C)=L
theorem SU(C)(a)(h):(KJ C a h).14 (h.10+1)=U (UG C h):=by heap_get
theorem Inv.madeX(I:Inv X f g H s)(d):Inv X f g (upd H (s.8+1) (GC (s.8+1) C J)) {s with heap:=KJ C d s.16}:=by
 apply I.laid (t':=s.57) (λb o z=>zU _ (zU _ z)) (uX _);let e:=SU C d s.16;show((_,_,e,Y,Y,Y,Y,Y,Y),(_,e),λi j q k=>by let(h,vs,a,r):=q;show (h,vs,k _ a,r))
theorem SW(M:MkX X.K C f)(F:AT X.p X.w X.K X.m X.b u k f N m sp)(z:gD (k+1) X.A)(B:Binds X.K N m d)(w:Vals i d)(A:Bc u X E)(I:Inv X g o H s)(r:Vals vs b)(P:vs.9<=1000)
  (h:∀x,H x=io->sp (.r x::(vs++i)) (upd H x (GC x C io)) (λv y=>v=.g/\Q (.r x) y) E):ik X (call (sR C) b) (EP X g o Q) X.x s:=by
 let p:=h (s.8+1) (I.18 (uX _));let j:=Inv.madeX (C:=C) I b;let q:Vals (V.r (s.8+1)::(vs++i)) (sR (s.8+1)::(b++d)):=tP rfl (r.append w)
 let ag:(sR (s.8+1)::b++d).9=m.9:=by
  let e:=q.9;rw[F.len _ _ _ _ p]at e;show e.31
 let(nm,qn,an,bs,bm,az,sn,sub,ab,al,Z,k0,k1,k2,k3,k5,oC,T):=Jo I.ip M.83;let(oF,t,R):=M.fo;let(l,as,ar,tk,os):=s;apply SS excBase_ValueError T oC (vH I.ip M.init) (I.ip _ _ t) R (by rw[←r.9];show sZ (AR P));show wpAny_call (codeAny_mono (F.run _ X.s _ _ (_,[]) (sR (l.10+1)::(b++d)) _ _ E (z.make C b []) (j.jE.make C b []) (B _ (sR (l.10+1)::b) j.ip ag) q p) λr D a=>?_);cases r with
 |error e=>show A g o _ _ e D j a
 |ok fl=>
  cases fl with
  |ret aC=>
   let(v,G,J,U,S,q3):=j.after a;subst S;show(U,(V.r (l.10+1),G,J,Y,q3))
  |next=>show tQ a
  |brk=>show tQ a
  |cont=>show tQ a
def Ij(C:nq)(d:Sp)(b:nk)(E:XK)(t:TA):TE:=λh H Q=>t h H λvs f=>vs.9<=1000/\∀x,f x=J->d (.r x::(vs++b)) (upd f x (GC x C J)) (λv g=>v=.g/\Q (.r x) g) E
theorem FQ{k}{m}(M:MkX X.K C f)(F:AT X.p X.w X.K X.m X.b w k f R m S)(o:gD (k+1) X.A)(A:Gl X x)(u:X.m x=U (sR C))(D:Binds X.K R m P)(B:Vals d P)(v:Bc w X E)
  (G:PA X (e::b) t) (i:jg x:=by decide) (y:jC X e b:=by rfl) (j:(backTo g (starEach b X.e)).91 (·.1)=O:=by rfl):
  PE X (uJ (tI x p) (e::b) [] g) (Ij C S d E t):=by
 intro a s z H Q I h;show zZ (Ci I A u (vJ I.85 M.kp (gH (G g a s z H _ I h) λT ab (vs,N,l,r,q)=>(l.ip,?_)) y j) i);show SW M F o D B v l r q.1 q.2
def Ik(C:nq)(b:TE)(E:XK):TS:=λ_ g H=>b g H λv f=>∃e d,v=.r e/\f e=U (GC e C d)/\E (sR C) d (upd f e (Hi e C d))
theorem SX(ok:iG P w f h)(d:f e=U (GC e C g)):iG P w (upd f e (Hi e C g)) h:=by
 let((i,vs,j,l,o,t,y,z,p),_,_):=ok _ _ d;show ok.write (by rw[d];show uc) (sU Y) (λb u _ q=>q) (_,j) ((i,vs,j,l,o,t,by ext,p),(_,j),λv x m k=>by let(i,vs,a,r):=m;show (i,vs,k _ a,r))
theorem OJ(I:A.41=io)
  (h:wpAny M A x (λv j=>∃e b vs,v=sR e/\j.3 e=im b/\b.83=sR C/\b.34=tN vs/\vs[1]?=im tj /\
   (∃m t N bs p a r sub B i q D u f G F l,j.3 C=im (excClassObj m t C N bs p a r sub B i q D u f G F l)/\p.17 (sW oV)=iY)/\E (sR e) j) E s):
  wpAny M A (raiseStmt w (im x) io) Q E s:=by
 show zo (zm h (λv j z=>?_) λ_ _ y=>y);let(e,b,vs,rfl,J,o,L,H,(m,t,N,bs,p,a,r,sub,B,i,q,D,u,f,G,F,l,oC,R),O):=z;let S:(sR C::p).17 (sW oV)=iY:=by rw[contains_cons,R,Bool.or_true]
 let(U,g,d,X,T):=j
 repeat (first| (with_reducible show zV J ?_;rw[o])|with_reducible show zV oC ?_| (with_reducible show z4 oC ?_;rw[S])|wp_step)
 rw[L];apply zn;rw[H];apply zn;show zn (wpAny_raiseNew_none I O)
theorem FR(f:UF X E)(g:X.c=iY)(R:BL X.K C=iY)(S:PE X o m):PS X (.Raise (im o) J w) (Ik C m E):=by
 intro a s x H D I h;show zo (zG (OJ (C:=C) (I.66 g) (zo (zm (S a s x H _ I h) (λv F z=>zo (zG (zn ?_))) λ_ _ y=>y))));let(u,H1,j,ru,e,U,rfl,d,q):=z;obtain rfl:v=sR e:=ru;let((A,vs,p,a2,a3,t,a5,B,a7),_,_):=j.gA _ _ d;let(nm,M,N,bs,bm,i,L,sub,Y,l,G,k0,Q,O,k3,k5,oC,T):=Jo j.ip R;show(e,A,vs,zd,p,a2,t,B,(nm,M,N,bs,bm,i,L,sub,Y,l,G,k0,Q,O,k3,k5,_,oC,T.base),f a x H1 F e C U _ F j (zd,j.74,Un.write (by rw[d];show uc) (sU zd) (λb u _ r=>r) (_,p),SX j.gA d,fH) (A,vs,p,t,B) q)
theorem OK{A}{C}{E:VS}{h}{N}{g}{d}{t}{y}{X G}{bs u v}{o}{D}{sub}{m}{r}{z}{s H P S w}{B j i}(F:ExcBaseFacts B j i v)(T:OI B u){M}{e}{f}{l}{Q}
  (oC:h.14 C=U (excClassObj X G C N bs u o D sub m r z s H P S w j)) (I:h.14 e=U f) (p:f.83=sR C) (q:Q ux (h,g,d,t,y)):
  wpAny M A (checkBuiltinCall i (sR e::l,[])) Q E (h,g,d,t,y):=by
 let R:(sR C::u).17 (sW B)=L:=by rw[contains_cons,T.b];simp
 let st:=F.noStar;simp[checkBuiltinCall,F.initKind,F.initSplit,F.initRow]
 repeat (first| (with_reducible show zV I ?_;rw[p])|with_reducible show zV oC ?_| (with_reducible show z4 oC ?_;rw[R])|wp_step)
 apply wpAny_onRaise;rw[show ∀a b n,Bind.check (.positional,"*",B,.self,[("args",.varPos,O)]) a b n (List.map (λx=>x.fst) ({pos:=sR e::l}:Args).kw)=pure ux from λa b n=>check_star_args _ _ _ _ _ _];show zn q
theorem Px{w}{A}{C}{E:VS}{h}{N}{prog}{g}{d}{t}{r}{nm M}{bs G v}{l}{m}{sub}{R}{u}{f}{S s k2 X P}{B j i}(F:ExcBaseFacts B j i v)(T:OI B G){e}{b}{vs}{v0}{a}{Q:VS}
  (oC:h.14 C=U (excClassObj nm M C N bs G l m sub R u f S s k2 X P j)) (y:h.14 e=U b) (p:b.83=sR C) (H:b.34=tN vs) (x:vs[0]?=U v0) (hz:a.9<=sizeLine)
  (o:Q tj ((h.71 {cls:=sW "tuple",data:=uW a.11}).61 e (ur (·.20 0 (sR h.10))),g,d,t,r)):
  wpAny (model prog w) A (call (sV i) (sR e::a)) Q E (h,g,d,t,r):=by
 show wpAny_call (codeAny_call_builtin F.init.plain F.initEntry (OK F T oC y p ?_))
 wp_walk
 rw[H];apply zn;rw[x];show zn (zo (wpAny_setField (zU {cls:=sW "tuple",data:=uW a.11} y) H (z9.mp x).1 ?_))
 let done:∀{I:VS},wpAny (model prog w) A.in1 (match v0 with|sR _=>letGo [v0]|_=>pure ux) (λ_ D=>Q tj D) I ((h.71 {cls:=sW "tuple",data:=uW a.11}).61 e (ur (·.20 0 (sR h.10))),g,d,t,r):=λ{I}=>by
  cases v0<;>first|show zn o| (wp_walk;show o)
 show zm done (λ_ D q=>zn q) λ_ _ z=>z
theorem UI(h:H a=U o):upd H a o=H:=by
 funext b;unfold upd
 ext
theorem SY:∀{d},Vals (x::g) d->∃u f,d=u::f/\RelV x u/\Vals g f
 |_::_,tP a b=>(_,_,rfl,a,b)
def Ye(b:FG)(t:TA):TE:=λh H Q=>t h H λvs d=>∃a C g f,vs=.r a::f/\f.9<=1000/\BL b C=L/\d a=U (GC a C g)/\Q .g d
theorem WT:typeOf (sW oo)=pure (sW sx):=by rfl
theorem WU:Manifest.isStub oo=O:=by rfl
theorem WV(b:FG):W.findCls b (sW oo) (sW sx) nV=U (.val (sV "ValueError.__init__")):=by rfl
theorem WW:W.handedIn (sV "ValueError.__init__")=L:=by rfl
theorem Q0:bootBuiltins oo=U (sW oo):=by rfl
theorem UJ(y:Gl X oo)(o:X.m oo=io)(w:PA X (e::g) t)(s:jC X e g:=by rfl)(v:(backTo d (starEach g X.e)).91 (·.1)=i7:=by rfl)
  (ht:eval (uJ (tR (tI oo np) nV m) (e::g) [] d) X.e=(do
   let D ←eval (tI oo np) X.e
   standAt m.atName
   let (f,first) ←holding [D] (getMethod D nV pl)
   callWith d f first (backTo d (starEach (e::g) X.e)) (backToKw d (keywordEach [] X.e))):=by rfl):
  PE X (uJ (tR (tI oo np) nV m) (e::g) [] d) (Ye X.K t):=by
 intro j a0 ag H Q I h;show W.methodCall_KW ?_ ht;apply Gf (u:=sW oo) I y o Q0;let(aM,R):=I.fr;apply (λS hq=>W.method_type (prog:=X.p) (w:=X.w) (A:=X.A) (E:=X.x) (T:=oo) (pl:=pl) (Q:=S) R I.85 WT WU (WV X.K) WW hq) _;show PyProof.Rows.callWith_builtin1 (gH (w d j _ ag H _ (I.96 _) h) λus s1 k=>?_) s v;let(vs,B,r,r1,a,C,N,an,P,hz,E,i,q):=k;subst P;let(nm,qn,as,bs,bm,a2,sn,sub,ab,col,dd,k0,k1,k2,k3,k5,oC,T):=Jo r.ip E;let((oe,O,F,M,a3,p,a5,a6,a7),_,st):=r.gA _ _ i;let(u0,x,eu,ra,rr):=SY r1;subst eu
 ·obtain rfl:=ra;let(G,aC,az,J,os):=s1;apply Px excBase_ValueError T oC F M p (v0:=O[0]'()) (_) (by rw[←rr.9];show sZ (AR hz));let l:=zR (ur (·.20 0 (sR G.10))) (zU {cls:=sW oB,data:=uW x.11} F) (uw (tU p _));rw[Go p]at l
  let A:=(r.75 (h':=G.71 {cls:=sW oB,data:=uW x.11}) (t':=J) λb u z=>zU _ z).write (o:=GC a C N) (t':=J) (by rw[i];show uc) (sU rfl) (λb u n z=>(zT _ _ (sX n)).6 z) (_,l)
   ((_,_,l,M,a3,rfl,by ext,by ext,by ext),(_,l),st)
  rw[UI i]at A;show(.g,B,A,zd,q)
def Lu(P:Program)(w:World)(j:FG)(g:SV)(b:Heap)(N:ni)(qual:Str)(scope:Scope)(f:nq)(d:Value)(A:Around)(i:List Env)(s:nr)(H:Hp)(e:nq)(h:Obj):Cx:=
 {CN gG P w j g b N qual scope f d A i s H (λ_ _ _=>False)with c:=O,n:=[(e,h)],x:=λ_ _=>False}
structure RoomS(k:Nat)(A:Around):Prop where
 dp:A.depth+3*k+5<recursionLimit
 un:A.42+16*k+200<cLine
theorem RoomS.deeper(r:RoomS (k+1) A)(a):RoomS k (A.55 a):=(by have:=r.dp;change A.depth+1+3*k+5<_;lia,by have:=r.un;change A.42+3+16*k+200<_;lia)
theorem Py          
  (S:AI N g scope) (a:iT P w X R Q A G s H) (o:vs.9=g.9) (r:Vals vs M) (h:s.3 e=U b) (y:H e=J) (B:e∉ iz G) (u:∀v,b.34≠ .cell v)
  (x:InCallC s s.8 (bindL (envOfC qual scope s.8 f m).kindOf (g.zip M) λ_=>J) (cellsFrom (s.8+1) scope.53 []) (bindC (envOfC qual scope s.8 f m).kindOf (g.zip M) λ_=>J) T):
  Inv (Lu P w X R Q N qual scope f m A G s H e b) [] (start N vs) H T:=by
 let d:∃d:Around,d.41=J/\d.46=A.46:=({A with handled:=J},rfl,rfl);let(d,j,l):=d;let I:=IZ (CX:=gG) (E:=λ_ _ _=>False) S j (l.6 a.46,a.mod,a.bs,a.jG,a.iu,a.jY,a.gA,a.74) o r x;let(D,C,rfl,t):=x.done;let ok:=I.ok;show((ok.mod,ok.60,ok.glob,ok.blt,ok.above,ok.inj,ok.has,ok.kY,(λz=>by trivial),Around.frames_deeper a.46,ok.jB,ok.exf,ok.bs,ok.jG,ok.js,ok.jv,ok.iu,ok.jY),I.os,I.74,I.base,I.loc,I.84,I.54,I.ie,λp i=>?_,I.gA,I.50);let q:p=(e,(b)):=by simpa[Lu]using i
 subst q;show(t _ _ h,y,zu (lt_size h),B,u)
abbrev SpS:=nq->Obj->nk->Hp->VK->Prop
structure Q3(P:Program)(w:World)(K:FG)(mg:SV)(base:Heap)(k:Nat)(f:nq)(fd:FuncData)(ps:ni)(sp:SpS):Prop where
 len:∀e oe vs H Q,sp e oe vs H Q->vs.9=ps.9
 run:∀A outer s H b us vs Q e oe,RoomS k A->iT P w K mg base A outer s H->A.41=U (sR e)->s.3 e=U oe->H e=J->e∉ iz outer->(∀v,oe.34≠ .cell v) ->
  BindsTo s fd b (ps.zip us)->Vals vs us->sp e oe vs H Q->codeAny (model P w) A (.call (sR f) b) (CR gG outer P w H s Q λ_ _ _=>False) s
theorem gE.okS{P}{w}{x}{u}{B}{N}{T}{qual}{st}{f}{M}{j}{k}{r}(F:gE u x qual st f M)(S:AI N j (defScope st))(len:∀e d vs H Q,r e d vs H Q->vs.9=j.9)
  (as:∀a A l s H vs Q e d,A.41=U (sR e)->RoomS k (A.55 (envOfC qual (defScope st) s.8 f a))->r e d vs H Q ->
   ∃t,iZ (Lu P w u T B N qual (defScope st) f a A l s H e d) (defBody st) t/\t {nx:=λ_ g=>Q .g g,rt:=Q} (start N vs) H):Q3 P w u T B (k+1) f M j r:=by
 let(oc,od,kV,a2,pm,an,a,ct,a0,rfl,lk,aC):=F.ex;show(len,λA l s H aR ab vs Q e d p h G X E al ag hb aM i=>?_);let C:=h.mod.jO.80 λb o z=>(h.bs b o z).1
 let hk:∀y∈j.zip ab,(defScope st).13 y.1=U uo\/((defScope st).13 y.1=U uz/\((cellsFrom (s.8+1) (defScope st).53 []).5 y.1).24=iY):=λ(n,v) ar=>by
  let q||q:=S.par n (of_mem_zip ar).1
  ·ext
  ·show sY (q,W.cellsFrom_some _ _ _ (sU q))
 show codeAny_call_function (by have:=p.dp;lia) (C _ _ lk) rfl S.co S.gen rfl (W.codeRec_of C aC) (hb _ _ _ _ (wpAny_newFunctionEnv_cells S.60 hk λa1 D s1 x=>?_));subst D;show((h.mod.nolimit.80 λb o z=>(h.bs b o z).1).80 x.toInCall.32,codeAny_func ?_);let(t,ht,R):=as a A l s H vs Q e d G (p.55 _) i;let I:=Py S h (len _ _ _ _ _ i) aM X E al ag x;show zm (ht [] s1 (start N vs) H _ I R) (λfl s' z=>?_) λ_ _ z=>z.40;cases fl with
 |ret a3=>
  let(v,az,g,J,rv,q):=z;show(v,g,J.os,J.74,J.base,J.gA,rv,q)
 |next=>
  let(az,g,J,q):=z;show(.g,g,J.os,J.74,J.base,J.gA,zd,q)
 |brk=>
  let(_,_,_,q):=z;show q.40
 |cont=>
  let(_,_,_,q):=z;show q.40
theorem WX(h:A.41=U (sR e))(d:b.34=tN vs)(a:vs[2]?=U tj):
  kZ (Lu P w m j g N qual scope f i A l s H e b):=sY (e,b,vs,h,zF,d,a)
noncomputable def del(H:Hp)(a:nq):Hp:=λb=>if b=a then J else H b
theorem OL:del H a a=J:=zf rfl
theorem FS(h:b≠a):del H a b=H b:=zg h
theorem UK(u:Un g [] s j h G)(f:KG g e I vs old G w)(l:j e=U (Hi e C H))(x:∀b,old b->j b=J/\h.14 b=J):Un g [] s (del j e) h w:=by
 let p:∀b,j b=J->b≠e:=λb n z=>by ext
 let a:∀b o,h.14 b=U o->¬ old b:=λb o i z=>by ext
 let d:∀b v,j b=U v->(∀D,v≠ .e D)->b≠e:=λb v t B z=>by subst z;rw[l]at t;cases t;show B _ rfl
 show(λb o q n i _=>?_,λb o q n i _=>?_,λb o q n _=>?_,λb o q _=>?_,λb r q=>?_,λb o r q=>?_,λb A q=>?_)
 ·show f.32 b o (u.32 b o q n i (_)) (p b (u.54 b o q n (_))) (a b o q) i
 ·let(sl,q1):=u.slot b o q n i (_);let(i1,q2):=f.slot b _ q1 (p b (u.54 b o q n (_))) (a b o q) i
  ext
 ·have z:=u.54 b o q n (_)
  rwa[FS (p b z)]
 ·let(E,q1):=u.86 b o q (_);show f.86 b E q1
 ·have z:=u.ji b r q
  rwa[FS (d b _ z λ_ y=>nomatch y)]
 ·have z:=u.jb b o r q
  rwa[FS (d b _ z λ_ y=>nomatch y)]
 ·let(m,z):=u.jf b A q;show(m,by rw[FS (d b _ z λ_ y=>nomatch y)];show z)
theorem WY(ok:iG P w i h)(d:i e=U (Hi e C f)):iG P w (del i e) h:=λb u q=>by
 let o:b≠e:=λz=>by subst z;rw[OL]at q;cases q
 rw[FS o]at q;let a:∀c v,i c=U v->(∀l,v≠ .e l)->c≠e:=λc v j p z=>by subst z;rw[d]at j;cases j;show p _ rfl
 show(ok b u q).i9 (λ_ _ _ z=>z) (λc z=>by rwa[FS (a c _ z λ_ y=>nomatch y)]) λc r z=>by rwa[FS (a c _ z λ_ y=>nomatch y)]
structure Cgt(C:nq)(dx:Option nq)(e:nq)(oe:Obj)(T:nq)(oT:Obj):Prop where
 cls:oe.83=sR C
 dict:oe.93=dx
 fld:∃vs,oe.34=tN vs/\vs[1]?=U (sR T)/\vs[2]?=U tj
 tb:∃ts,oT.34=tN ts/\ts[3]?=U tj
theorem Yf(f:Pt X)(I:Inv X q v E s)(F:Fly X.p X.w X.s E s e C N r p)
  (h:∀s3 g T x,Cgt C N e g T x->Inv X ((e,(g))::(T,(x))::q) v (del r e) s3->Q ux s3):
  ik X (noteFrame (sR e) X.e) (λ_ s3=>ik X (setFlight (sR e) J) Q w s3) w p:=by
 let(B,g,vs,T,x,ts,u,D,a3,a4,a5,a6,a7,a8,a9):=F;let fr:=Gp I B;let G:=I.ok.46;rw[f.jB]at fr G;show Ls G fr f.fr u D a3 a4 a5 a6 a7 λh' P=>?_;rw[←f.jB]at P;let d:∀b,b=T->r b=J/\s.3 b=J:=λb z=>by ext
 let a:∀b∈iz X.s,r b=J:=λb j=>by
  let(_,o,i,_):=I.stack.mem j;show B.un.54 b o i (I.stkFree b j) (_)
 let(y,t,A,b1,b2,b3,Z,b5):=P.tb;let((U,vs',M,S,Y,H,c5,c6),_,_):=B.gA _ _ B.at_;rw[u]at M;cases M;rw[D]at H;cases H;let R:Inv X q v (del r e) {p with heap:=h'}:=I.call' B.os (UK B.un P B.at_ d) (WY (OG B.gA P a (λb z=>(d b z).1) u D B.at_) B.at_) B.74 λb z=>nomatch z;let as:=Heap.get?_none_of_le b1;let az:=B.18 b1
 let ar:∃o,p.3 X.23=im o:=by
  let(m,(o,_,_,i,_),_):=id I.loc;show B.un.86 _ o i (_)
 let an:∀b∈X.f,∃o,p.3 b=im o:=λb j=>by
  let(_,o,i,_):=I.iu.mem j;show B.un.86 b o i (_)
 let ag:∀b∈X.f,b∈iz X.s:=λb j=>by
  rw[f.jB];unfold iz;rw[zJ,f.fr];show zO _ j
 show h _ {g with data:=tN (vs.20 1 (sR y))} y t (S,Y,(vs.20 1 (sR y),rfl,by grind,by ext),(A,b3,Z)) (R.pins_of λab hp=>?_);let z||z:=mem_cons.mp hp
 ·subst z;show(b5,OL,λz=>?_,λz=>?_,λal z=>by cases z)
  ·let(m,(o,_,_,i,_),_):=id I.loc;let l:=B.un.54 _ _ i I.54 (_);rw[←z,B.at_]at l;cases l
  ·have l:=a e (ag e z);rw[B.at_]at l;cases l
 let z||z:=mem_cons.mp z
 ·subst z;show(b2,by rw[FS (λz=>by ext)];lia,λz=>?_,λz=>?_,λal z=>by ext)
  ·ext
  grind
 ·show R.pin ab (_)
noncomputable def FC(b:FG)(C:nq):nj:=match b.5 C with
 |some ⟨_,_,.cls d,_⟩=>d.mro
 |_=>[]
theorem OM(X:g.In h)(q:BL g C=L):∃f v N bs i a p sub t d j l o b u r,h.14 C=U (excClassObj f v C N bs i a p sub t d j l o b u r "ValueError.__new__")/\OI oo i/\FC g C=sR C::i:=by
 let(f,v,N,bs,i,a,p,sub,t,d,j,l,o,b,u,r,oC,T):=Jo X q;show(f,v,N,bs,i,a,p,sub,t,d,j,l,o,b,u,r,oC,T,?_);unfold BL at q;unfold FC;split at q
 ·rename_i k A B sl x;rw[x];let e:=X _ _ x;rw[oC]at e;let z:=tS e;injection (congrArg Obj.data z)with y
  rw[←y]
 ·cases q
theorem Ms{A}{C}{E:VS}{h}{N}{M}{g}{d}{t}{f}{nm r H x}{D q}{bs G I j}{al ag}{T aM}{sub an}{v F}{B ar}{R aC}{w s y z P l0 l1 S X l5}{i a}{e}{p}{Q}(oC:h.14 C=U (excClassObj nm r C N bs G al T sub v B R w s y z P i))(o:h.14 D=U (excClassObj H x D q I j ag aM an F ar aC l0 l1 S X l5 a))
  (u:h.14 e=U p) (as:p.83=sR C) (l:j.17 (sW oV)=L) (m:Q ((sR C::G).17 (sR D)) (h,g,d,t,f)):wpAny M A (excMatches (sR e) (sR D)) Q E (h,g,d,t,f):=by
 let az:(sR D::j).17 (sW oV)=L:=by rw[contains_cons,l,Bool.or_true]
 let aR:=tc_notTuple;generalize hb:(sR C::G).17 (sR D)=b at m
 repeat (first| (with_reducible show zV u ?_;rw[as])|with_reducible show zV o ?_| (with_reducible show z4 o ?_;rw[az])| (with_reducible show z4 oC ?_;rw[hb])|wp_step)
 cases b<;>(wp_walk;show m)
noncomputable def C1(X:Cx)(e:nq)(d:Obj)(T:nq)(b:Obj):Cx:={X with A:=X.A.mark (U (sR e)),c:=O,n:=X.n++[(e,d),(T,b)],x:=λ_ _=>False}
theorem Inv.mark(I:Inv X ((e,(f))::(T,(d))::b) g H s):Inv (C1 X e f T d) b g H s:=
 ((I.ok.mod,I.ok.60,I.ok.glob,I.ok.blt,I.73,I.ok.inj,I.ok.has,I.ok.kY,(λz=>by trivial),I.ok.46,I.ok.jB,I.ok.exf,I.ok.bs,I.ok.jG,I.ok.js,I.ok.jv,I.ok.iu,I.ok.jY),I.os,I.74,I.base,I.loc,I.84,I.54,I.ie,
  λp a=>I.pin p (by simpa[C1]using a),I.gA,I.50)
theorem Inv.unmark(ok:X.Ok)(I:Inv (C1 X e f T d) b g H s):Inv X ((e,(f))::(T,(d))::b) g H s:=
 (ok,I.os,I.74,I.base,I.loc,I.84,I.54,I.ie,λp a=>I.pin p (by simpa[C1]using a),I.gA,I.50)
theorem Inv.less(I:Inv X (q++b) d H s):Inv X b d H s:=I.pins_of λp a=>I.pin p (_)
theorem Inv.nameless(I:Inv X w M H s)(v:g.Ns X.23 E)(f:uG X.23 s.16 g):Inv X w (tJ M.9 J) H {s with heap:=g,toks:=N}:=by
 let(m,(F,_,_,x,_),_):=id I.loc;show(I.ok,I.os,I.74,(λb o e n r a=>?_,λb o e n r a=>?_,I.base.54,λb o e a=>?_,I.base.ji,I.base.jb,I.base.jf),(_,v,λj y G i l P=>?_),λy c e=>?_,I.54,I.ie,λp A=>?_,λb D e=>?_,by simpa using I.50)
 ·show(f.2 b (zu (zY (lt_size e) I.73))).6 (I.base.32 b o e n r a)
 ·let(sl,i):=I.base.slot b o e n r a;show(sl,(f.2 b (zu (zY (lt_size e) I.73))).6 i)
 ·let(C,i):=I.base.86 b o e a;show(C,(f.2 b (zu (zY (lt_size e) I.73))).6 i)
 ·rw[List.getElem?_replicate]at l;split at l<;>cases l
 ·let(t,z):=I.84 y c e;show(t,z.sameBut f (I.lx y c e))
 ·let(e,n,u,B,d):=I.pin p A;show((f.2 p.1 u).6 e,n,u,B,d)
 ·show(I.gA b D e).i9 (λc t h q=>(f.2 c ?_).6 q) (λ_ q=>q) λ_ _ q=>q;intro z;subst z;let z||h:=h
  ·rw[←z,I.54]at e;cases e
  ·rw[I.54]at h;cases h
def PH(X:Cx)(C:nq)(b:Option nq)(d:List ExceptHandler)(t:nq->TS):Prop:=
 ∀(f:LO)s(i:St)H D e h T g,Cgt C b e h T g->Inv X ((e,(h))::(T,(g))::f) i H s->t e D i H->ik X (handleBy (sR e) X.e d) (SP X f D) X.x s
theorem Lv(e):sR e≠byPass:=by intro q;cases q
theorem Lx(u:BL X.K C=iY)(o:BL X.K b=iY)(c:Cgt C w e f T m)(I:Inv X ((e,(f))::(T,(m))::P) ab H s) 
  (h:Q ((FC X.K C).17 (sR b)) s):wpAny (model X.p X.w) A (excMatches (sR e) (sR b)) Q E s:=by
 let(nm,O,N,bs,bm,i,M,sub,Z,v,G,k0,U,S,k3,k5,oC,T1,y):=OM I.ip u;let(B,p,N',D,r,a,t,j,x,l,q,l0,l1,L,R,l5,F,z,Y):=OM I.ip o;rw[y]at h;let(hp,g,d,tk,J):=s;show Ms oC F ((I.pin (e,(f)) (_)).1) c.83 z.base h
theorem DE(q:BL X.K C=L)(j:BL X.K Dn=L)(u:Gl X x)(r:X.m x=U (sR Dn))(i:(FC X.K C).17 (sR Dn)=O)(v:PH X C b f t)(d:jg x:=by decide):
  PH X C b (.ExceptHandler (U (tI x np)) m g w::f) t:=by
 intro a s l H D e o T p c I h;show wpAny_handleBy_cons (codeAny_handlers_test (Ci I.mark u r ?_ d)) (Lv e);apply Lx q j c I;rw[i];show v a s l H D e o T p c I h
def Q4(i:Nat)(b:TS):nq->TS:=λe D d H=>b {nx:=λ_ _=>False,rt:=D.rt} (d.set i (U (.r e))) H
theorem Q5{X}{g:nq->TS}(u:X.N.26)(D:X.N[i]?=U n)(A:X.28 n=U uo)(m:BL X.K C=L)(Q:BL X.K Dn=L)(y:Gl X x)(o:X.m x=U (sR Dn))(j:(FC X.K C).17 (sR Dn)=L)
  (w:∀e f T d,Cgt C r e f T d->iZ (C1 X e f T d) (l::p) (g e)) (an:jg x:=by decide):
  PH X C r (.ExceptHandler (U (tI x np)) (U n) (l::p) aM::hs) (λe=>Q4 i (g e) e):=by
 intro ag s aR H az e f T d c I h;show wpAny_handleBy_cons (codeAny_handlers_test (Ci I.mark y o ?_ an)) (Lv e);apply Lx m Q c I;rw[j];apply codeAny_handlers_suite_as;let(vs,hd,O,h2):=c.fld;let(G,a,E):=c.tb;let t:=(I.pin (T,(d)) (_)).1;show wpAny_setFlight_none ((I.pin (e,(f)) (_)).1) hd O t a (z9.mp E).1 ?_
 let I1:=I.75 (t':=s.57) λb ar q=>by
  by_cases z:b=T
  ·subst z;let B:=zR (ur (·.20 3 tj)) t (uw (tU a _));rw[Go a]at B
   let S:G.20 3 tj=G:=by
    let(F,N):=z9.mp E;rw[Array.setIfInBounds,dif_pos F]
    conv=>lhs;rw[←N]
    show Array.set_getElem_self F
   rw[S,←a]at B;rw[show s.3 b=U d from t]at q;cases q;show B
  ·show(zT _ _ (sX z)).6 q
 show Cg (X:=C1 X e f T d) (v:=.r e) I1.mark u D (sU A) rfl (λM ab=>zm (w e f T d c ag M _ H _ ab h) (λfl s3 z=>?_) λ_ _ z=>z.40) (sY A);cases fl with
 |ret ar=>
  let(v,iU,H',J,rv,q):=z;let P:=J.unmark I.ok;let(aC,R,_):=id P.loc;let al:(X.e.scope.60 == .class||(X.e.scope.60 == .module&&X.23 != X.e.globals))=i7:=by rw[I.ok.60];rfl
  show wpAny_nameGoes A R al λh' m' as j=>(v,_,H',(P.nameless as j).less (q:=[(e,(f)),(T,(d))]),rv,q)
 |next=>
  let(_,_,_,q):=z;show q.40
 |brk=>
  let(_,_,_,q):=z;show q.40
 |cont=>
  let(_,_,_,q):=z;show q.40
noncomputable def Ja(X:Cx)(b:LO)(d:VS):Cx:={X with n:=X.n++b,x:=d}
theorem Cx.Ok.tr{X}{a}{d}(ok:X.Ok):(Ja X a d).Ok:=(ok.mod,ok.60,ok.glob,ok.blt,ok.above,ok.inj,ok.has,ok.kY,ok.hd,ok.46,ok.jB,ok.exf,ok.bs,ok.jG,ok.js,ok.jv,ok.iu,ok.jY)
theorem Cx.Ok.untr{X}{a}{d}(ok:(Ja X a d).Ok):X.Ok:=(ok.mod,ok.60,ok.glob,ok.blt,ok.above,ok.inj,ok.has,ok.kY,ok.hd,ok.46,ok.jB,ok.exf,ok.bs,ok.jG,ok.js,ok.jv,ok.iu,ok.jY)
theorem Inv.tr(I:Inv X b d H s):Inv (Ja X b f) [] d H s:=(I.ok.tr,I.os,I.74,I.base,I.loc,I.84,I.54,I.ie,λp a=>I.pin p (by simpa[Ja]using a),I.gA,I.50)
theorem Inv.untr(I:Inv (Ja X b g) f d H s):Inv X b d H s:=(I.ok.untr,I.os,I.74,I.base,I.loc,I.84,I.54,I.ie,λp a=>I.pin p (by
 let z||z:=mem_append.mp a
 ·show zM _ (zM _ z)
 ·show zM _ (zQ _ z)),I.gA,I.50)
def WZ(n:Nat)(b:nq->Option nq->nq->TS)(D:Jt):XK:=λg f d=>∃C,g=sR C/\∀e,d e=U (Hi e C f)->b C f e D (tJ n J) (del d e)
def cz(n:Nat)(b:XK->TS)(d:nq->Option nq->nq->TS):TS:=λD f H=>b (WZ n d D) {D with nx:=D.nx} f H
theorem Yg(f:Pt X)(m:∀M b E,Bc (iD X.p X.w) (Ja X M b) E->iZ (Ja X M b) g (tb E))(S:∀C l,PH X C l (x::w) (th C l)):
  PS X (.Try g (x::w) [] [] P) (cz X.N.9 tb th):=by
 intro a s al H D I h;apply wpAny_Try_except
 letI E:XK:=WZ X.N.9 th D
 letI b:Value->nr->Prop:=λG A=>E₇ λe y t j C l p=>C₄ (G=sR j) (Inv X a e y t) (Fly X.p X.w X.s y t j C l p A) (E (sR C) l p)
 let ag:Bc (iD X.p X.w) (Ja X a b) E:=by
  rintro an e y t G A B ⟨j,C,l,p,rfl,F,q⟩;show(e,y,t,j,C,l,p,Y,B.untr,F,q)
 show zm (m a b E ag [] s al H _ I.tr h) (λfl t z=>?_) λG A z=>?_
 ·cases fl with
  |next=>
   let(d,o,J,q):=z;show wpAny_execs_nil (d,o,J.untr,q)
  |brk=>let(d,o,J,q):=z;show(d,o,J.untr,q)
  |cont=>let(d,o,J,q):=z;show(d,o,J.untr,q)
  |ret u=>let(v,d,o,J,r,q):=z;show(v,d,o,J.untr,r,q)
 ·let(e,y,t,j,C,l,p,rfl,B,F,C',eC,q):=z;cases eC;show Yf f B F λs3 Q T R c N=>?_
  let ab:Inv X ((j,(Q))::(T,(R))::a) (tJ X.N.9 io) (del p j) s3:=N.weak (by rw[List.length_replicate,N.50]) λi v z=>by
   grind
  show S C l a s3 _ _ D j Q T R c ab (q j F.1.at_)
structure Gq(K:FG)(C:nq):Prop where
 ga:uf K (sR C) pB=U (U (sV nQ))
 gr:uf K (sR C) "__getattr__"=U J
 mb:vt K C (sW oV)=U L
theorem SZ{A}{x}{b}{C}{E:VS}{h}{o}{j}{g}{d}{t}{i}{M}{e}{Q}(p:Gq b C)(X:b.In h)(I:u5 h x o C j)(l:Q ux (h,g,d,t,i)):wpAny M A (checkBuiltinCall nQ ([sR x,e],[])) Q E (h,g,d,t,i):=by
 let q:builtinKind nQ=U .slot:=by decide +kernel
 let a:splitId nQ=U (oV,(pB)):=by decide +kernel
 simp[checkBuiltinCall,a];apply zo
 ·repeat (first|with_reducible show(I.type (M:=M)).at ?_|with_reducible show(W.looks_mroIn (M:=M) X p.mb).at ?_|wp_step)
  show l
theorem Sa{w}{A}{x}{b:FG}{C}{E:VS}{h}{prog}{l}{e}{a}{g}{d}{t}{i}{v}{f}{Q}(X:b.In h)(I:u5 h x l C e)(j:W.findObj b C e a=U (.value v))(o:Q (.done (.ret v)) (h,g,d,t,i)):
  wpAny (model prog w) A (Builtin.«object.__getattribute__» ([sR x,vw a f],[])) Q E (h,g,d,t,i):=by
 repeat (any_goals (first|assumption|with_reducible show(I.type (M:=model prog w)).at ?_|with_reducible show(W.looks_find (M:=model prog w) X I j).at ?_|wp_step))
theorem Sb{w}{A}{x}{b:FG}{C}{E:VS}{h}{prog}{p}{e}{a}{g}{d}{t}{i}{f}{Q}(X:b.In h)(I:u5 h x p C e)(l:W.findObj b C e a=U (.bind (sV oj) (sV nA)))(o:vt b C (sW pA)=U L)
  (j:Q (.done (.ret (sR C))) (h,g,d,t,i)):
  wpAny (model prog w) A (Builtin.«object.__getattribute__» ([sR x,vw a f],[])) Q E (h,g,d,t,i):=by
 repeat (any_goals (first|assumption|with_reducible show(I.type (M:=model prog w)).at ?_|with_reducible show(W.looks_find (M:=model prog w) X I l).at ?_|wp_step))
 show W.class_get X I o (zn j)
theorem UL{w}{A}{x}{f}{C}{h}{prog}{r}{i}{a}{g}{d}{t}{e}{b}{v}{R}(p:Gq f C)(X:f.In h)(I:u5 h x r C i)
  (o:∀q(l:VS)Q,Q (.done (.ret v)) (h,g,d,t,e)->wpAny (model prog w) q (Builtin.«object.__getattribute__» ([sR x,vw a b],[])) Q l (h,g,d,t,e)) (j:R (.ok (.ret v)) (h,g,d,t,e)):
  codeAny (model prog w) A (.call (sV nQ) ([sR x,vw a b],[])) R (h,g,d,t,e):=
 codeAny_call_builtin F.excAttr_ValueError.ga.plain F.entry_bexc_ga (SZ p X I (o _ _ _ j))
theorem UM{w}{A}{x}{f}{C}{E:VS}{h}{prog}{D}{o}{e}{g}{d}{t}{j}{b}{v}{i a}{Q:VS}(p:Gq f C)(X:f.In h)(I:u5 h x D C o)(G:W.handedIn v=L)
  (y:∀z(r:VS)Q,Q (.done (.ret v)) (h,g,d,t,j)->wpAny (model prog w) z (Builtin.«object.__getattribute__» ([sR x,vw e b],[])) Q r (h,g,d,t,j)) (q:Q v (h,g,d,t,j)):
  wpAny (model prog w) A (getAttrBy (sR x) (vw e b) i a) Q E (h,g,d,t,j):=by
 let H:=F.excAttr_ValueError.ga.bind (sR x);let B:(a&&onTheHeap (sV nQ))=O:=by cases a<;>rfl
 let l:(sV nQ == sV "object.__getattribute__")=O:=by decide +kernel
 let u:(onTheHeap (sR C)&&sV nQ == sV "object.__getattribute__")=O:=by rw[l];rfl
 repeat (any_goals (first|assumption|with_reducible show(I.type (M:=model prog w)).at ?_|with_reducible show(vH (M:=model prog w) X p.ga).at ?_|with_reducible show(vH (M:=model prog w) X p.gr).at ?_|wp_step))
 apply UL p X I y
 repeat (any_goals (first|assumption| (rw[W.handedOut_of G];show zn q)|wp_step))
theorem UN{w}{A}{x}{b}{C}{E:VS}{h}{prog}{q}{i}{a}{g}{d}{t}{j}{v}{e}{Q:VS}(p:Gq b C)(X:b.In h)(I:u5 h x q C i)(o:W.findObj b C i a=U (.value v))(r:W.handedIn v=L)(l:Q v (h,g,d,t+1,j)):
  wpAny (model prog w) A (getAttr (sR x) a e) Q E (h,g,d,t,j):=by
 show zo (wpAny_mkText (UM p X I r (λB u y z=>Sa X I o z) l))
theorem ON{w}{A}{x}{b}{C}{E:VS}{h}{prog}{o}{a}{g}{d}{t}{e}{Q}(p:Gq b C)(X:b.In h)(I:u5 h x o C a)(j:W.findObj b C a qh=U (.bind (sV oj) (sV nA)))(l:vt b C (sW pA)=U L)
  (i:Q (U (sR C)) (h,g,d,t+1,e)):wpAny (model prog w) A (getAttr? (sR x) qh) Q E (h,g,d,t,e):=by
 show zo (wpAny_mkText (zo (wpAny_attempt (UM p X I Y (λu q r z=>Sb X I j l z) (zn i)))))
theorem LM(d:(W.clsIn b C).24=L)(i:uf b (sR C) f=U (U a))(h:W.specialIn b a qB=U (U g))(ht:W.takesIn b a=U L):W.findObj b C j f=U (.bind g a):=by
 let(e,d):=uD.mp d;unfold W.findObj
 ext
structure Wc(K:FG)(C:nq):Prop where
 hg:Gq K C
 hc:(W.clsIn K C).24=L
 ha:uf K (sR C) qh=U (U (sV nA))
 hn:W.specialIn K (sV nA) qB=U (U (sV oj))
 htk:W.takesIn K (sV nA)=U L
 hm:vt K C (sW pA)=U L
theorem UP(k:Wc b D):W.KitX b (sR x) (sR D) (λh=>u5 h x G D f) where
 ty:=λ_ _ _ I=>I.type
 it:=λ_ _ X _=>by
  let a:=k.hc;unfold W.clsIn at a;split at a
  ·rename_i u p l j o;intro C B H F k q;show zo (wpAny_loadPart (k _ _ (X _ _ o)) (zn q))
  ·cases a
 ne:=λh tp v r n sl X i=>by
  let a:=k.hc;show vf.49 λq=>?_;let e:=Value.ref.inj (beq_iff_eq.mp q);subst e;unfold W.clsIn at a;split at a
  ·rename_i u p l j o;cases ((X _ _ o).92 i)
  ·cases a
 ca:=λ{prog w A E Q s}X I h=>by
  let(z,g,d,t,y):=s;show ON k.hg X I (LM k.hc k.ha k.hn k.htk) k.hm h
structure ExcP(X:Cx)(e:nq)(oe:Obj)(C:nq):Prop where
 at_:(e,(oe))∈X.n
 cls:oe.83=sR C
 fld:∃vs,oe.34=tN vs
theorem ExcP.inst(p:ExcP X e m C)(I:Inv X w G H s)(r:m.93=J\/∃d u,m.93=U d/\H d=U u):∃l,u5 s.16 e m C l:=by
 let h:=(I.pin (e,(m)) (zM _ p.at_)).1;let(vs,j):=p.fld;let no:W.notCls m=L:=by unfold W.notCls;rw[j]
 let z||(d,u,z,i):=r
 ·show(J,h,p.83,no,by rw[z];trivial)
 ·have:∃o,s.3 d=U o:=by
   let q:=(I.gA d u i);cases u with
   |l v=>let(_,_,_,_,e):=q;show(_,e)
   |t v=>let(_,_,_,o,e,_):=q;show(o,e)
   |d a=>let(_,_,_,_,o,_,_,e,_):=q;show(o,e)
   |h a=>let(_,_,_,_,o,_,_,e,_):=q;show(o,e)
   |set S n=>let(o,_,_,_,e,_):=q;show(o,e)
   |i C A M=>let(_,_,_,e,_):=q;show(_,e)
   |a y=>show q
   |g M=>let(_,(o,_,_,e,_),_):=q;show(o,e)
   |rng F D=>let(_,_,_,e):=q;show(_,e)
   |b E u=>show(_,q.1)
   |c x=>show⟨_,(q)⟩
   |met f y=>show⟨_,(q)⟩
   |e B=>show q.2.1
  let(o,t):=this;show(U o,h,p.83,no,by rw[z];show t)
theorem Ly(p:ExcP X e f C)(k:Wc X.K C):gP X (sV oI) (λg H Q=>∃v c b,g=[.r e,v]/\((∃D,v=.r D/\c=sR D)\/∃T,v=.y T/\c=sW T)/\(f.93=io\/∃d u,f.93=U d/\H d=U u)/\vq X.K (sR C) c=U b/\Q (.l b) H):=by
 rintro h s E H g B Q I r ⟨v,c,b,rfl,i,o,j,q⟩;let(u,y,rfl,x,a):=HU r;cases (x);let(A,J):=p.inst I o
 let t:y=c:=by
  let(D,rfl,rfl)||(T,rfl,rfl):=i
  ·show a
  ·show a
 subst t;show vb (UP k) I.ip J j (λz=>nomatch z) λl=>(.l b,H,I.96 l,rfl,q)
def Mu(d:SpS)(e:nq)(b:Obj)(t:TA):TE:=λg H Q=>t g H λvs f=>d e b vs f Q
theorem OO(F:Q3 X.p X.w X.K X.m X.b k f P m sp)(D:RoomS k X.A)(C:X.A.41=U (sR e))(ag:(e,(oe))∈X.n)(S:Gl X x)(G:X.m x=U (sR f))(u:vc X.K (sR f)=iY)(w:Binds X.K P m [])
  (B:PA X (a::b) t) (o:jg x:=by decide) (p:jC X a b:=by rfl) (v:(backTo g (starEach b X.e)).91 (·.1)=O:=by rfl):
  PE X (uJ (tI x al) (a::b) [] g) (Mu sp e oe t):=by
 intro j s ab H Q I h;show zZ (Ci I S G (vJ I.85 u (gH (B g j s ab H _ I h) λl A (vs,H1,d,r,q)=>(d.ip,?_)) p v) o);let(T,E,M,L,N):=d.pin (e,(oe)) (_);let R:(l++[]).9=m.9:=by rw[zj,←r.9];show F.len _ _ _ _ _ q
 let y:=w A l d.ip R;rw[zj]at y;show wpAny_call (codeAny_mono (F.run X.A X.s A H1 (l,[]) l vs Q e oe D d.jE C T E (λz=>(mem_cons.mp (d.iO e z)).40 M L) N y r q) λr s' i=>?_);cases r with
 |error e=>show tQ i
 |ok fl=>
  cases fl with
  |ret an=>show d.after i
  |next=>show tQ i
  |brk=>show tQ i
  |cont=>show tQ i
theorem UQ(a b):MeetsSeq.EqGives (uO a) (uO b) (a==b):=λprog w A E s Q h=>SeqAt.EqAt.bool_bool a b prog w E Q h
theorem Lz:∀{bs:List Bool}{a},Vals (bs.7 V.l) a->a=bs.7 uO
 | [],_,tO=>rfl
 |_::_,_,tP r t=>by rw[map_cons,←Lz t];cases r;rfl
def We:V->nk->Hp->VK->Prop:=λx vs H Q=>E₃ λ(l:nq)(bs:List Bool)(j:Nat)=>C₆ (x=.r l) (vs=[.l L]) (H l=U (.l (bs.7 V.l))) (bs[j]?=U L) (∀m,m<j->bs[m]?=U O) (Q (.t (j:Nat)) H)
theorem Sc:MtM X "list.index" We:=by
 rintro p s N H x vs v M Q I B E ⟨l,bs,j,rfl,rfl,C,o,h,q⟩;cases B;let(u,rfl,J):=E.one;obtain rfl:u=uO L:=J;let(z,G,n,r,O,e):=I.lstM C;let t:=Lz r;subst t;let i:=(z8.mp o).1
 let A:(j:Int)<2^63-1:=by
  let R:sizeLine<2^62:=by decide
  rw[AN]at z
  lia
 show call_meets F.slot_list_index (_,e,Y) F.entry_list_index (F.args_list_index_2 _ _)
  (MeetsSeq.list_index l (bs.7 uO).11 n (uO L) (λy=>match y with|uO a=>a==L|_=>i7) (λy D=>?_) j (by simpa using i) A ?_ λm b d=>?_) (e,?_)
 ·let(a,_,rfl):=zh.mp (List.mem_toArray.mp D);show UQ a L
 ·have:=(z8.mp o).2;simp[this]
 ·have:=(z8.mp (h m d)).2;simp[this]
 ·show(.t j,H,I.96 _,(_,Y),q)
noncomputable def lY(f:nq)(o:Obj):HO:=.e λh=>h.14 f=U o
noncomputable def Hk(c:nq)(qual:Str):HO:=.e λh=>h.CodeRec (sR c) qual
noncomputable def Hl(P:Program)(w:World)(q:FG)(l:SV)(j:Heap)(N:ni)(qual:Str)(scope:Scope)(f:nq)(d:Value)(g:List (Str×nq))(A:Around)(h:List Env)(s:nr)(H:Hp)(E:XK):Cx where
 p:=P
 w:=w
 K:=q
 m:=l
 b:=j
 A:=A.55 (W.envX qual scope s.8 f d g)
 N:=N
 hZ:=s
 i:=H
 e:=W.envX qual scope s.8 f d g
 o:=h
 s:=W.envX qual scope s.8 f d g::h
 a:=[]
 c:=L
 fn:=λ_=>O
 n:=[]
 x:=λe v=>wpAny (model P w) (A.55 (W.envX qual scope s.8 f d g)) (leaving (W.envX qual scope s.8 f d g) e) (λ_ r=>iD P w h H s E e r) (λu r=>iD P w h H s E u r) v
structure KK(N:ni)(scope:Scope)(cl:List (Str×nq))(σ:St)(H:Hp)(h:Heap):Prop where
 inj:∀x y c,cl.5 x=U c->cl.5 y=U c->x=y
 has:∀x,(scope.13 x=U uz\/scope.13 x=U ub)->∃c,cl.5 x=U c
 cell:∀x c,cl.5 x=U c->(∃v,h.IsCell c v)/\H c=J
 val:∀(i:Nat)x v,N[i]?=U x->σ[i]?=U (U v)->scope.13 x=U ub/\∃u c,RelV v u/\cl.5 x=U c/\h.IsCell c (U u)
 len:σ.9=N.9
theorem c3:Pt (Hl P w j h b N qual scope f d g A i s H E):=(rfl,rfl,rfl)
theorem Dh:Bc (iD P w) (Hl P w v r b N qual scope f g m A u s H E) E:=by
 rintro a o p j e l I ⟨i,C,h,d,rfl,F,q⟩;show zm (KH c3 I F) (λ_ s3 G=>(i,C,h,d,Y,G,q)) λ_ _ z=>z
theorem Pz(q:scope.60=uR)(B:A.41=J)(a:iT P w R M g A Q s H)(C:KK N scope m X H s.16)(t:l.Ns s.8 T)(D:∀b o,s.3 b=U o->l.14 b=U o):
  Inv (Hl P w R M g N qual scope f S m A Q s H E) [] X H {s with heap:=l,toks:=tk}:=by
 let j:∀b,b∉ (Hl P w R M g N qual scope f S m A Q s H E).a:=λb z=>absurd (show b∈([])from z) (_);let d:∀{c:nq}{v:Option Value},s.heap.IsCell c v->l.IsCell c v:=λ{c v} n=>by let(o,I,B):=n;show (o,D _ _ I,B)
 show((a.mod,q,Y,Y,zp _,C.inj,C.has,λy c z _=>(_),λ_=>B,Around.frames_deeper a.46,sY (Y,Y),λb z=>absurd z (j b),a.bs,a.jG,λb _ _=>j b,λb z=>absurd z (j b),a.iu,a.jY),
  rfl,a.74,Un.kept D,(T,t,λi x v l F ab=>?_),λy c h=>?_,a.18 (zp _),λy c h=>(C.84 y c h).2,λp G=>absurd (show p∈([])from G) (_),a.gA.75 D,C.50)
 ·let(k,u,c,r,e,z):=C.val i x v l F;show(u,r,sY (sY k,c,e,d z))
 ·let((v,z),_):=C.84 y c h
  grind
theorem UR(F:gD k A)(r:iT P w ar X I A v s H)(C:KK N scope g y H s.16)
  (z:s.3 f=im (va ab qual params m scope g pm D p)) (B:s.heap.CodeRec (sR D) qual) (d:bindArgs (W.kla_fn ab qual params m scope g pm (sR D) p) ([],[])=pure [])
  (u:scope.97=O) (l:scope.98=O) (G:scope.60=uR) (i:∀x∈scope.53,x.2≠ uz)
  (T:PE (Hl P w ar X I N qual scope f (sR D) g A v s H E) m tb) (h:tb y H Q):codeAny (model P w) A (.call (sR f) ([],[])) (CR (iD P w) v P w H s Q E) s:=by
 apply W.kla_callFunE F.depth z rfl u l rfl B;rw[d];show zn (wpAny_newFunctionEnv i (λaC R=>nomatch R) (λas t j=>((r.mod.nolimit.80 λb o e=>(r.bs b o e).1).fresh _ j,?_)) G);let a:=λb o e=>j.extBut b o (zu (lt_size e)) (zU _ e);show W.kla_codeExpr (zm (T [] _ y H Q (Pz (tk:=s.57+([]:List (Str×Value)).9) G F.hd r C t a) h) (λaz al n=>by let(x,M,ag,S,q):=n;show (x,M,ag.os,ag.74,ag.base,ag.gA,S,q)) λe al an=>an)
theorem Inv.cells(I:Inv X f g H s)(C:KK N scope b a X.i X.hZ.16)(d:∀x c,b.5 x=U c->c∉ X.f)(q:X.a=[]):KK N scope b a H s.16:=by
 let kp:∀x c v,b.5 x=U c->X.hZ.heap.IsCell c v->s.heap.IsCell c v:=λx c v e (o,h,p)=>(o,I.base.32 c o h (C.84 x c e).2 (d x c e) (_),p);show(C.inj,C.has,λx c e=>?_,λi x v j l=>?_,C.50)
 ·let((v,z),n):=C.84 x c e;let(o,h,_):=id z;show((v,kp x c v e z),I.base.54 c o h n (_))
 ·let(k,u,c,r,e,z):=C.val i x v j l
  grind
def OP(i:Nat)(f b:nq)(qual:Str)(o:Obj)(g:St)(d:TE):TE:=λh H Q=>h[i]?=U (U (.r f))/\H f=U (lY f o)/\H b=U (Hk b qual)/\d g H Q
theorem P1             
  (q:X.N[i]?=U x) (p:Vis X.37 x) (m:gD k X.A) (C:KK l scope b ar X.i X.hZ.16) (D:∀x c,b.5 x=U c->c∉ X.f) (t:X.a=[]) (S:Bc (iD X.p X.w) X E)
  (d:bindArgs (W.kla_fn ag qual params g scope b pm (sR B) al) ([],[])=pure [])
  (an:scope.97=O) (ab:scope.98=O) (y:scope.60=uR) (h:∀x∈scope.53,x.2≠ uz)
  (w:∀s H,PE (Hl X.p X.w X.K X.m X.b l qual scope f (sR B) b X.A X.s s H E) g tb) (hd:jg x:=by decide) (A:(x==(rQ:Str))=O:=by decide):
  PE X (uJ (tI x az) [] [] aC) (OP i f B qual (va ag qual params g scope b pm B al) ar tb):=by
 rintro a s F H as I ⟨M,N,R,h4⟩;show zZ (gH (Te q p hd A a s F H (λv Q=>v=.r f/\Q=H) I (_,M,rfl,rfl)) λu z n=>?_);let(v,P,j,r,ev,eH):=n;subst ev eH;obtain rfl:u=sR f:=r;let(G,_,_):=j.gA _ _ N;let(Y,_,_):=j.gA _ _ R;show callWith_meth0 rfl G (wpAny_call (codeAny_mono (UR m j.jE (j.cells C D t) G Y d an ab y h (w z P) h4) λr T o=>?_));cases r with
 |error e=>show S a F P z e T j o
 |ok fl=>
  cases fl with
  |ret u=>show j.after o
  |next=>show tQ o
  |brk=>show tQ o
  |cont=>show tQ o
theorem gE.at{H}{s}{P}{w}{A}{x}{p}{j}{u}{N}{M}{r}{qual}{st}{f}{D}{l}{k}{outer}{d}{vs}{Q}{E}(F:gE p x qual st f D)(S:AI N l (defScope st))(I:vs.9=l.9)
  (i:gD (k+1) A) (h:iT P w p M u A outer s H) (X:BindsTo s D d (l.zip j)) (as:Vals vs j)
  (e:∀a,gD k (A.55 (envOfC qual (defScope st) s.8 f a))->∃t,iZ (CN r P w p M u N qual (defScope st) f a A outer s H E) (defBody st) t/\t {nx:=λ_ g=>Q .g g,rt:=Q} (start N vs) H):
  codeAny (model P w) A (.call (sR f) d) (CR r outer P w H s Q E) s:=by
 let(oc,od,kV,aM,pm,an,a,Z,az,rfl,Y,ar):=F.ex;let B:=h.mod.jO.80 λb o z=>(h.bs b o z).1
 let ag:∀y∈l.zip j,(defScope st).13 y.1=U uo\/((defScope st).13 y.1=U uz/\((cellsFrom (s.8+1) (defScope st).53 []).5 y.1).24=iY):=λ(n,v) ab=>by
  let q||q:=S.par n (of_mem_zip ab).1
  ·ext
  ·show sY (q,W.cellsFrom_some _ _ _ (sU q))
 show codeAny_call_function i.depth (B _ _ Y) rfl S.co S.gen rfl (W.codeRec_of B ar) (X _ _ _ _ (wpAny_newFunctionEnv_cells S.60 ag λaC C R x=>?_));subst C;show((h.mod.nolimit.80 λb o z=>(h.bs b o z).1).80 x.toInCall.32,codeAny_func ?_);let(t,ht,G):=e a (i.55 _);show zm (ht [] R (start N vs) H _ (IZ S i.hd h I as x) G) (λfl s' z=>?_) λ_ _ z=>z;cases fl with
 |ret aR=>
  let(v,al,g,J,T,q):=z;show(v,g,J.os,J.74,J.base,J.gA,T,q)
 |next=>
  let(al,g,J,q):=z;show(.g,g,J.os,J.74,J.base,J.gA,zd,q)
 |brk=>
  let(_,_,_,q):=z;show q.40
 |cont=>
  let(_,_,_,q):=z;show q.40
theorem Jj{d:PySem.Pos}{q}(e:(q.70==d.70&&q.col==d.col)=O)(l)(h:TriplesOk l):codeAmong q (l++[rawInt d.70,rawInt d.col,c])=codeAmong q l:=by
 fun_induction TriplesOk l with
 |case1=>
  have:(d.70==(q.70:Int)&&d.col==(q.col:Int))=O:=by
   rw[Bool.and_eq_false_iff]at e ⊢;let z||z:=e
   ·grind
   ·grind
  simp[codeAmong,rawInt,this]
 |case2 a t b u x i p=>
  simp[List.cons_append,codeAmong]
  simp[*]
 |case3 l j o=>trivial
def gR(H:Hp)(b:nq)(qual:Str)(d:List Pos):Prop:=∃f,H b=U (.c f)/\TriplesOk f.33/\∀q∈d,codeAmong q f.33=J\/∃g,codeAmong q f.33=U (sR g)/\H g=U (Hk g qual)
def L1(f:nq)(H d:Hp):Prop:=∀b u,b≠f->H b=U u->d b=U u
structure Yh(X:Cx)(c P0:nq):Prop where
 code:X.e.code=sR c
 hd:vX X.b c P0
 bu:X.b.47 X.m P0
def c4(b:nq)(qual:Str)(d:List Pos)(o:nq->Value->Obj):TE:=λj H Q=>gR H b qual d/\∀f h i g,H f=J->L1 b H g->gR g b qual d->g f=U (lY f (o h i))->g h=U (Hk h qual)->Q (.r f) g
theorem Wf(r:h.CodeRec (sR d) qual):hO P w H h d (Hk d qual):=by
 let(y,z,vs,t,e,o,x,p):=id r;cases e;show(r,(_,o),λu q m k=>by let(v,i,l,t2,j,a,b):=m;cases j;show(_,i,l,t2,Y,k _ a,b))
theorem Xz(r:h.14 f=U o):hO P w H h f (lY f o):=(r,(_,r),λe d a k=>k _ a)
theorem Yi(p:Yh X c f)(hm:a∈ls)(gd:∀q∈ls,q=a\/(q.70==a.70&&q.col==a.col)=i7)
  (E:closureFor scope X.e=pure m) (a0:defaultsOf params X.e=([],([]))):
  PE X (.Lambda params g scope a) (c4 f (X.59 ++ nO) ls (λh d=>va nO (X.59 ++ nO) params g scope m ((X.m oQ).44 tj) h d)):=by
 rintro fb s a8 H a7 I ⟨⟨T,hP,ht,G⟩,k⟩;let bk:=λb o e=>(I.bs b o e).1;let ag:s.3 f=im (W.tabObj T):=I.gA _ _ hP;let an:=I.ok.mod.glob.80 bk
 let aR:mainGlobals≠f:=λq=>by
  let(o,es,ep,e,_):=I.ok.mod.glob
  ext
 let C:=p.hd.80 bk
 let B:s.heap.47 X.m f:=by
  let(bm,o,a1,a2,a3,a4,a5,a6):=p.bu;show(bm,o,a1,a2,a3,a4,bk _ _ a5,a6)
 apply W.kla_eval a0;let hn||(h,hf,kA):=G a hm
 ·show W.kla_makeFunction E I.ok.glob an p.code C ag ht hn aR B λh d j Q hx al x az F=>?_;let kp:∀b o,b≠f->s.3 b=im o->(j.71 (va nO (X.59 ++ nO) params g scope m ((X.m oQ).44 tj) h d)).14 b=im o:=λb o n e=>zU _ (hx b o n e);let lt:∀b u,H b=im u->b<s.8:=λb u e=>I.gA.lt e;let S:=tT al (sZ x);let aM:h≠f:=λz=>by grind
  let aC:=zu x;generalize i:upd (upd (upd H f (.c (T++#[rawInt a.70,rawInt a.col,sR h]))) h (Hk h (X.59 ++ nO))) j.10 (lY j.10 (va nO (X.59 ++ nO) params g scope m ((X.m oQ).44 tj) h d))=r
  let M:∀b,b<s.8->b≠f->r b=H b:=λb D n=>by
   rw[←i,AE (zu (zY D S)),AE (zu (zY D al)),AE n]
  let R:r f=im (.c (T++#[rawInt a.70,rawInt a.col,sR h])):=by rw[←i,AE (sX (λz=>by grind)),AE (sX aM),fH]
  let l:r h=im (Hk h (X.59 ++ nO)):=by rw[←i,AE aC,fH]
  let ab:r j.10=im (lY j.10 (va nO (X.59 ++ nO) params g scope m ((X.m oQ).44 tj) h d)):=by rw[←i,fH]
  let as:∀b u,H b=im u->(∀qs,u≠ .c qs)->b≠f:=λb u e n z=>by grind
  let un:Un X.f [] H r s.16 (j.71 (va nO (X.59 ++ nO) params g scope m ((X.m oQ).44 tj) h d)):=by
   let w:∀b,H b=io->b≠f:=λb n z=>by ext
   show(λb o q n _ _=>kp b o (w b n) q,λb o q n _ _=>(o.slots,kp b o (w b n) q),λb o q n _=>by rw[M b (lt_size q) (w b n)];show n,λb o q _=>?_,λb xs e=>?_,λb o u e=>?_,λb qs e=>?_)
   ·by_cases z:b=f
    ·subst z;show(_,zU _ F)
    ext
   ·ext
   ·ext
   ·by_cases z:b=f
    ·grind
    ext
  let gA:iG X.p X.w r (j.71 (va nO (X.59 ++ nO) params g scope m ((X.m oQ).44 tj) h d)):=λb u e=>by
   by_cases z1:b=j.10
   ·subst z1;rw[ab]at e;cases e;show Xz (zK _ Y)
   by_cases z2:b=h
   ·subst z2;rw[l]at e;cases e;let(c1,oc,vs,t,ec,ho,hd):=az;show Wf (c1,oc,vs,t,ec,zU _ ho,hd)
   by_cases z3:b=f
   ·subst z3;rw[R]at e;cases e;show zU _ F
   ·show(I.gA b u (by rwa[←i,AE z1,AE z2,AE z3]at e)).i9 (λy o D q=>kp y o ?_ q) (λy q=>?_) λy xs q=>?_
    ·grind
    ·ext
    ext
  let v:=I.un (t':=Q) un gA;show(.r j.10,r,v,Y,k _ h d r (I.18 S) (λb u n e=>by ext) (_,R,?_,λq N=>?_) ab l)
  ·rw[Array.toList_append];show TriplesOk_snoc _ _ _ _ ht
  ·rw[Array.toList_append];let z||z:=gd q N
   ·subst z;show sY (h,codeAmong_snoc _ ht hn,l)
   ·rw[Jj z _ ht];let ar||(U,y1,y2):=G q N
    ·ext
    ·show sY (U,y1,by rw[M U (lt _ _ y2) (as U _ y2 λ_ ar=>nomatch ar)];show y2)
 ·show W.kla_makeFunctionHit E I.ok.glob an p.code C ag ht hf B λd j Q hk A=>?_;let v:=I.laid (t':=Q) (o:=lY j.10 (va nO (X.59 ++ nO) params g scope m ((X.m oQ).44 tj) h d)) (λb o e=>zU _ (hk b o e)) A (Xz (zK _ rfl));let fr:=I.18 A
  let P:∀b u,H b=im u->upd H j.10 (lY j.10 (va nO (X.59 ++ nO) params g scope m ((X.m oQ).44 tj) h d)) b=im u:=λb u e=>by
   rwa[AE (AH e fr)]
  show(.r j.10,_,v,Y,k _ h d _ fr (λb u _ e=>P b u e) (T,P _ _ hP,ht,λq N=>?_) fH (P _ _ kA))
  grind
theorem gE.lB{P}{w}{x}{z}{B}{N}{D}{qual}{st}{f}{C}{g}{k}{y}(F:gE z x qual st f C)(S:AI N g (defScope st))(len:∀vs H Q E,y vs H Q E->vs.9=g.9)
  (d:∀a A b s H vs Q E,gD k (A.55 (envOfC qual (defScope st) s.8 f a))->y vs H Q E ->
   ∃t,iZ (CN (iD P w) P w z D B N qual (defScope st) f a A b s H E) (defBody st) t/\t {nx:=λ_ G=>Q .g G,rt:=Q} (start N vs) H):AT P w z D B (iD P w) (k+1) f C g y:=by
 let(v,p,kV,j,q,r,a,u,i,rfl,l,e):=F.ex;show Qm l e S len λA b s H vs Q E o h=>d a A b s H vs Q E o h
structure BdX(P:Program)(w:World)(K:FG)(mg:SV)(base:Heap)(f:nq)(qual:Str)(st:Stmt)(N ps:ni)(k:Nat)(vs:nk)(H:Hp)(Q:VK)(E:XK):Prop where
 len:vs.9=ps.9
 ok:∀ff A outer s,gD k (A.55 (envOfC qual (defScope st) s.8 f ff)) ->
  ∃t,iZ (CN (iD P w) P w K mg base N qual (defScope st) f ff A outer s H E) (defBody st) t/\t {nx:=λ_ H'=>Q .g H',rt:=Q} (start N vs) H
theorem gE.n{P}{w}{x}{d}{g}{N}{j}{qual}{st}{f}{i}{b}{k}{sp}(F:gE d x qual st f i)(S:AI N b (defScope st))(h:∀vs H Q E,sp vs H Q E->BdX P w d j g f qual st N b k vs H Q E):
  AT P w d j g (iD P w) (k+1) f i b sp:=F.lB S (λvs H Q E q=>(h vs H Q E q).50) λc A o s H vs Q E r q=>(h vs H Q E q).ok c A o s r
structure FunD(K:FG)(x qual:Str)(st:Stmt)(f:nq)(fd:FuncData):Prop where
 ex:∃(oc:Value)(od:Option nq)(dV kV doc pm:Value)(an:Option nq)(ff ct:Value)(lA:Array (Option Value)),
  fd=W.fnOf x qual (defArgs st) (defBody st) (defScope st) dV kV doc pm an ff ct/\K.5 f=U (oc,od,.func fd,lA)/\W.codeIn K ff qual=L
theorem FunD.ok{P}{w}{x}{C}{D}{N}{I}{qual}{st}{f}{G}{g}{k}{m}(F:FunD C x qual st f G)(S:AI N g (defScope st))(len:∀vs H Q E,m vs H Q E->vs.9=g.9)
  (d:∀a A b s H vs Q E,gD k (A.55 (envOfC qual (defScope st) s.8 f a))->m vs H Q E ->
   ∃t,iZ (CN gG P w C I D N qual (defScope st) f a A b s H E).kr (defBody st) t/\t {nx:=λ_ M=>Q .g M,rt:=Q} (start N vs) H):AT P w C I D gG (k+1) f G g m:=by
 let(B,r,u,kV,l,z,v,a,y,j,rfl,o,e):=F.ex;show Qm o e S len λA b s H vs Q E p i=>?_;let(t,h,q):=d a A b s H vs Q E p i;show(t,h.kr,q)
end
end L2
namespace L2
open PySem PySem.Spec PyProof.Rows Builtin Builtin.ObjectAttr
noncomputable def KL(C M:nq):nj:=[sR C,sR M,sW oo,sW "Exception",sW oV,sW pA]
theorem Wh(X:M.In s.16)(D:s.3 x=im j)(r:j.83=sR C)(q:j.93=J)(N:j.34=tN vs)(m:W.clsIn M C=im g)(i:g.mro=KL C al)(p:g.hasDict=iY)(T:uf M (sR C) f=im J)
  (h:∀(d:Heap)P,d.14 x=im {j with dict:=im s.8}->d.Ns1 s.8 (λy=>if y=f then im v else J)->(∀b o,b≠x->s.3 b=im o->d.14 b=im o)->R (.ok (.ret tj)) {s with heap:=d,toks:=P}):
  codeAny (model prog w) ag (.call (sV oE) ([sR x,vw f A,v],[])) R s:=by
 let z:=store_object;let I:u5 s.16 x j C J:=(D,r,by unfold W.notCls;rw[N],by rw[q];trivial);let ne:g.mro.99=i7:=by rw[i];rfl
 show codeAny_call_builtin z.slot.plain z.entry (@W.check_slot (model prog w) _ _ s oE pA pH (sR x) [vw f A,v] [] _ z.60 z.split (I.type.andThen (W.looks_mroIn X (by unfold vt;rw[m,Option.bind_some,i];rfl))) (z.args (sR x) (vw f A) v) ?_);let ab:W.Looks (model prog w) s.16 (mroOf (sR C)) g.mro:=(W.looks_clsIn X m).andThen .now;let L3:W.Looks (model prog w) s.16 (storeTaker? J) J:=.now;rw[W.osa_eq];show zo (zo (I.type.here (zo (ab.here ?_))));rw[i];show zn (zo (I.type.here (zo ((vH X T).here (zo (L3.here ?_))))));let(oc,U,oda,lA):=j;subst r q N;show zo (zn (zo (zo (wpAny_loadPart D (zo ((W.looks_clsIn X m).here ?_))))));rw[p];let a:(s.19 {cls:=sW oK,data:=wh #[]}).14 x=im _:=zU _ D;let B:=zu (lt_size D);let(l,as,ar,t,os):=s;show zo (wpAny_alloc' (zo (wpAny_update' a ?_)));apply zn
 let H:((l.71 {cls:=sW oK,data:=wh #[]}).61 x λo=>{cls:=o.83,dict:=im l.10,data:=o.34,slots:=o.slots}).14 l.10=im {cls:=sW oK,data:=wh #[]}:=
  (Heap.get?_update_ne _ _ _ _ B.31).6 (Heap.get?_push_at rfl rfl)
 let F:((l.71 {cls:=sW oK,data:=wh #[]}).61 x λo=>{cls:=o.83,dict:=im l.10,data:=o.34,slots:=o.slots}).Ns l.10 (λ_=>J):=
  (_,#[],_,H,rfl,λe he=>absurd he (_),λ_=>rfl)
 show zo (zn (zo (wpAny_nsSet1 (Heap.Ns1.of_empty F) λd u S=>?_)));let(oD,Y,epD,hoD,E,an):=u.count (Within.cons f v Within.nil);show zo (wpAny_lookBehind hoD (by rw[E];show pastItsLine_dict (_)) ?_)
 wp_walk
 show h d _ ((S.2 x B).6 (zR _ a zd)) u λb ob G Q=>(S.2 b (zu (lt_size Q))).6 ((Heap.get?_update_ne _ _ _ _ G).6 (zU _ Q))
theorem Wi(X:g.In s.16)(r:s.3 x=U p)(e:p.83=sR C)(l:p.93=J)(q:p.34=tN vs)(t:W.clsIn g C=U m)(j:m.mro=KL C M)(i:m.hasDict=L)(u:uf g (sR C) z=U J)
  (B:uf g (sR C) pH=U (U (sV oE)))
  (h:∀(f:Heap)d,f.14 x=U {p with dict:=U s.8}->f.Ns1 s.8 (λy=>if y=z then U v else J)->(∀b o,b≠x->s.3 b=U o->f.14 b=U o)->Q ux {s with heap:=f,toks:=d}):
  wpAny (model prog w) A (setAttr (sR x) z v) Q E s:=by
 let I:u5 s.16 x p C J:=(r,e,by unfold W.notCls;rw[q],by rw[l];trivial);show W.set_plain X I B (Wh X r e l q t j i u λf d a b c=>h f d a b c)
end L2
namespace L2
open PySem PySem.Spec PyProof.Rows
mutual
structure OQ(K:FG)(C M:nq)(f:Str):Prop where
 cls:∃b,W.clsIn K C=U b/\b.mro=KL C M/\b.hasDict=L
 nf:uf K (sR C) f=U J
 sa:uf K (sR C) pH=U (U (sV oE))
def Z6(h:FG)(M:nq)(b g:TE)(f:Str):TS:=λD j H=>g j H λy l=>b j l λx i=>∃e C,x=.r e/\i e=U (GC e C J)/\OQ h C M f /\
 ∀d,i d=J->d≠e->D.nx j (upd (upd i e (GC e C (U d))) d (.g [(f,(y))]))
theorem Q6(ha:PE X o ta)(hv:PE X g tv)(hs:swapsWith g (U (tR o f ar)) an.70 X.e=pure i7):PS X (vn [tR o f ar] g an) (Z6 X.K M ta tv f):=by
 intro l az r H aM I al;show plainObj_wpAny_Assign_Attribute (gH (hv l az r H _ I al) λu s1 (y,H1,I1,ry,q)=>gH (ha l s1 r H1 _ I1 q) λov i K=>?_) hs;let(x,p,t,rx,e,C,ex,s,S,q2):=K;subst ex;obtain rfl:ov=sR e:=rx;let((oe,vs,Z,a2,a3,a4,a5,a6,a7),_,_):=t.gA _ _ s;let(cd,hc,hm,hd):=S.83;show Wi t.ip Z a2 a3 a4 hc hm hd S.nf S.sa λP Q D hn R=>?_;let A:=uH (lt_size Z);generalize d:upd (upd p e (GC e C (U i.8))) i.8 (.g [(f,(y))])=h;let lt:∀b u,p b=U u->b<i.8:=λb u z=>t.gA.lt z;let ab:∀b,b<i.8->b≠e->h b=p b:=λb B n=>by rw[←d,AE (zu B),AE n]
 let T:h e=U (GC e C (U i.8)):=by rw[←d,AE (sX A),fH]
 let G:h i.8=U (.g [(f,(y))]):=by rw[←d,fH]
 let next:∀b u,p b=U u->(∀aC,u≠ .e aC)->b≠e:=λb u z n w=>by subst w;rw[s]at z;cases z;show n _ rfl
 let E:∀b,p b=io->b≠e:=λb z w=>by ext
 let un:Un X.f [] p h i.16 P:=by
  show(λb j z n _ _=>R b j (E b n) z,λb j z n _ _=>(j.slots,R b j (E b n) z),λb j z n _=>by rw[ab b (lt_size z) (E b n)];show n,λb j z _=>?_,λb xs z=>?_,λb j w z=>?_,λb ps z=>(#[],?_))
  ·grind
  ·ext
  ·simp[*]
  ·ext
 let F:iG X.p X.w h P:=λb w z=>by
  by_cases B:b=i.8
  ·subst B;rw[G]at z;cases z;show(_,hn,λag=>?_);by_cases N:ag=f
   ·subst N;simp;show ry
   ·simp[zg N,zq,beq_eq_false_iff_ne.49 N];trivial
  by_cases v:b=e
  ·subst v;rw[T]at z;cases z;show((_,vs,D,a2,zd,a4,a5,a6,a7),(_,D),λh1 h2 V k=>by let(oe,vs,a,as):=V;show (oe,vs,k _ a,as))
  ·show(t.gA b w (by rwa[←d,AE B,AE v]at z)).i9 (λm j aR q=>R m j ?_ q) (λm q=>?_) λm xs q=>?_
   ·grind
   ·ext
   ext
 let q3:=q2 i.8 (t.18 (zp _)) A;rw[d]at q3;show(r,h,t.un (t':=Q) un F,q3)
theorem KM(D:Gl X x)(y:X.m x=U (sR C))(N:W.specialIn X.K (sR C) pB=U (U (sV qj)))(j:W.readsIn X.K C R=L)(u:W.findCls X.K (sR C) R m=U (.val (sR f)))
  (F:AT X.p X.w X.K X.m X.b w k f T ps sp) (v:gD k X.A) (P:vc X.K (sR f)=L) (Q:Binds X.K T ps S) (G:Vals d S) (z:Bc w X E) (M:PA X (e::g) t) (i:jg x:=by decide)
  (A:jC X e g:=by rfl) (l:(backTo b (starEach g X.e)).91 (·.1)=O:=by rfl)
  (ht:eval (uJ (tR (tI x np) m s) (e::g) [] b) X.e=(do
   let o ←eval (tI x np) X.e
   standAt s.atName
   let (f,first) ←holding [o] (getMethod o m pl)
   callWith b f first (backTo b (starEach (e::g) X.e)) (backToKw b (keywordEach [] X.e))):=by rfl):
  PE X (uJ (tR (tI x np) m s) (e::g) [] b) (Ny sp d E t):=by
 intro a ar B H ab I h;show W.methodCall_KW (Ci I D y ?_ i) ht;show W.method_cls I.ip N (W.cls_value I.ip j u Y (vJ I.85 P (gH (M b a _ B H _ (I.96 _) h) λag al (vs,an,p,r,q)=>(p.ip,?_)) A l));show Md F v Q G z p r q
def Z7(c:Str)(b:TE):TE:=λf H Q=>b f H λx d=>((∃i,x=.t i/\i.87<1920)\/(∃z,x=.s z/\z.9<=1000)\/x=.g)/\∀z,Q (.s z) d
theorem BB(a b:Str):(a++b).9=a.9+b.9:=strLen_append a b
theorem Q7(B:c.9<=1000)(p:PE X e b):PE X (.JoinedStr [uB (.str c) F A,.FormattedValue e (-1) J f] g) (Z7 c b):=by
 intro d s y H Q I h;show JoinedStr_many (joinParts_cons (Calls.Constant_str ?_));let v:(Str.empty++c).9<=1000:=by rw[BB];change 0+c.9<=1000;ext
 let sz:3000<=sizeLine:=by decide
 show(tT v (tT qc sz),joinParts_cons (wpAny_FormattedValue_plain (gH (p d _ y H _ (I.96 _) h) λu E w=>?_)));let(x,l,j,r,q,k):=w;let(i,rfl,o)||(z,rfl,C)||rfl:=q
 ·let(t,rfl):=r;apply PySem.wpAny_formatField_int o;let D:(vj (toString i)).9<=1921:=by rw[PySem.ofString_length];show int_text_length_le qc o
  let a:((Str.empty++c)++vj (toString i)).9<=sizeLine:=by
   rw[BB]
   lia
  show(a,joinParts_nil (.s _,l,(j.96 _).96 _,(_,Y),k _) a)
 ·let(t,rfl):=r
  let a:((Str.empty++c)++z).9<=sizeLine:=by
   rw[BB]
   lia
  show PySem.wpAny_formatField_str (a,joinParts_nil (.s _,l,j.96 _,(_,Y),k _) a) (a,joinParts_nil (.s _,l,(j.96 _).96 _,(_,Y),k _) a) ()
 ·obtain rfl:u=tj:=r
  let a:((Str.empty++c)++("None")).9<=sizeLine:=by
   have:("None":Str).9=4:=by decide +kernel
   rw[BB]
   lia
  show PySem.wpAny_formatField_none (a,joinParts_nil (.s _,l,(j.96 _).96 _,(_,Y),k _) a)
structure Z8(K:FG)(C:nq)(f:Str):Prop where
 hg:Gq K C
 hh:W.hasDictIn K C=L
 ha:uf K (sR C) f=U J
def US(e:nq)(b:Obj)(f:Str)(g:TE):TE:=λj H Q=>g j H λx h=>∃d i v,x=.r e/\b.93=U d/\h d=U (.g i)/\i.5 f=U v/\Q v h
theorem Wj(p:ExcP X e b C)(g:Z8 X.K C f)(y:PE X o E)(m:attributeBase o f X.e (eval o X.e)=eval o X.e):PE X (tR o f P) (US e b f E):=by
 intro i s B H Q I h;show Ql m (gH (y i s B H _ I h) λu al k=>?_);let(x,R,j,ab,d,fs,v,ag,G,M,l,q):=k;subst ag;obtain rfl:u=sR e:=ab;let(S,t,r):=j.gA _ _ M;let(T,N,D):=Lb t;let(w,F,a):=iI.some_of (by rw[←l];show r f);let A:=(j.pin (e,(b)) (zM _ p.at_)).1;let(vs,z):=p.fld;show UN g.hg j.ip ((A,p.83,by unfold W.notCls;rw[z],by rw[G];show N)) (W.findObj_own g.hh g.ha Y (by rw[D,F])) (Lc a) (v,R,j.96 _,a,q)
structure iR(X:Cx)(e:Expr)(t:TE):Prop where
 h:PE X e t
structure PAw(X:Cx)(es:List Expr)(t:TA):Prop where
 h:PA X es t
theorem Jb:PAw X [] Cz:=⟨AG⟩
theorem OR(h:PAw X b t):PAw X (uB (.str x) j d::b) (A3 (tC (.s x)) t):=⟨AA AM h.h⟩
structure mQ(X:Cx)(st:Stmt)(t:TS):Prop where
 h:PS X st t
structure iX(X:Cx)(st:List Stmt)(t:TS):Prop where
 h:iZ X st t
structure PIw(X:Cx)(tg e:Expr)(t:TI):Prop where
 h:PI X tg e t
theorem Il:iX X [] Xr:=⟨AL⟩
theorem Di{X}{u}{st}{d}{t}(a:mQ X st t)(b:iX X d u):iX X (st::d) (YF t u):=⟨AC a.h b.h⟩
theorem Dj{X}{st}{t}(a:mQ X st t):iX X [st] t:=⟨AB a.h⟩
theorem Q8(a:PassesOwn (model X.p X.w) X.A X.e X.x)(j:X.c=L)(e:PIw X b iter d)(i:PG X b g)(h:iX X f m)
  (l:∀x,foldedSetIterable iter X.e x=pure x:=by intro _;rfl):mQ X (.For b iter f [] o) (Zn d g m):=⟨Bt a j e.h i h.h l⟩
end
end L2
namespace PySem
open Sem (wp)
theorem KN     
  (r:s.3 a=U o) (t:o.83=sW "list") (i:o.34=uW N k) (u:o.93=J) (y:A.41=J)
  (h:∀f m,(∀b v,s.3 b=U v->f.14 b=U v)->Q J {s with heap:=f,toks:=m}):
  wpAny (model prog w) A (getAttr? (sR a) "keys") Q E s:=by
 let(c,B,C,sl):=o;simp only at t i u;subst t i u;let(z,g,d,m,x):=s;let q:∀p,((z,g,d,p,x):nr).TypeIs (sR a) "list":=λ_=>(_,r,rfl);let P:=sub_AttributeError;let M:=F.slot_list_getattribute.lookup;let R:=F.slot_list_getattribute.bind (sR a);let H:=am_list_getattr_none;let j:typeLookup (sW "list") "keys"=pure J:=by rw[typeLookup_type,builtinLookup_eq_fast];kernel_rfl
 unfold getAttr? getAttrBy? getAttrBy
 repeat (any_goals (first|assumption|show q _| ((with_reducible show wpAny _ _ (call (sV "list.__getattribute__") _ _) _ _ _);show call_meets F.slot_list_getattribute (q _) am_entry_list_getattribute (F.args_list_getattribute_2 _ _) (meets_getattribute_miss_list a N k sl "keys" _ j qb) ⟨r,y,λf p e l=>?_⟩)|wp_step))
 let(D,I,G):=l.86;change wpAny _ _ (getattributeRaised _ _ _ _ _ _ _) _ _ _;unfold getattributeRaised
 repeat (any_goals (first|assumption|wp_step))
 show h _ _ l.80
end PySem
namespace L2
open PySem PySem.Spec PyProof.Rows
mutual
theorem Co:entryFor table qV=U Builtin.«dict.update.loop»:=entryFor_of_tree qd
theorem BQ:plainId qV=L:=by decide +kernel
def Eg(b f:LK):LK:=f.68 (λd p=>BS d p.1 p.2) b
theorem Sd{X:L2.Cx}{A}{R}{bs:List nq}{ps:LK}(hA:A.in1.41=io)(aR:p≠a)(t:p≠it)(hq:fV X.K H a (bs.7 V.r))(hl:bs.9=ps.9)(v:∀(i:Nat)b q,bs[i]?=im b->ps[i]?=im q->b≠p/\gB X.K H b [kV q.1,q.2])(hz:ps.9<=1000)
  (y:∀d,fV X.K (upd H p (.d d)) a (bs.7 V.r)) (N:∀d b z,b≠p->gB X.K H b z->gB X.K (upd H p (.d d)) b z) (f:∀d,(upd H p (.d d)) it=io) (g:it≠X.23) (m:it∈X.a\/X.hZ.8<=it) (u:∀x c,X.25 x=im c->c≠it) (w:∀q,q∈X.n++fb->q.1≠it):
  ∀k i s d,ps.9-i=k->i<=ps.9->d.9<=i->Inv X fb σ (upd H p (.d d)) s->s.heap.78 it a i->(∀C,Inv X fb σ (upd H p (.d (Eg d (ps.drop i)))) C->R (.ok (.ret tj)) C) ->
   codeAny (model X.p X.w) A (wa qV ([sR p,sR it,rawInt (i:Int),tj],[])) R s:=by
 intro k;induction k with
 |zero=>
  intro i s d hk hi G I st D;let al:i=ps.9:=by lia
  let(U,Y,pl,_):=I.67 (y d);let ar:=Y.9;show codeAny_builtin Co ?_;rw[Around.under_plainId BQ _];change wpAny _ A.in1 (pyNext (sR it) >>= _) _ _ s;show zo (wpAny_pyNext_list_end hA st pl.51 (by rw[AN]at ar;simp;ext) λS eb=>?_);change wpAny _ A.in1 (Builtin.Dict.addKeywords p [] >>= _) _ _ _;show zo (zn (zn (D _ ?_)));let e:Eg d (ps.drop i)=d:=by rw[al,List.drop_length];rfl
  rw[e];show I.58 (t':=s.57) (λb o v e=>eb b o v e) (f d) g m u w
 |succ k ih=>
  intro i s d hk hi G I st D;let j:i<ps.9:=by lia
  let(U,Y,pl,_):=I.67 (y d);let h:bs[i]?=im (bs[i]'()):=z7 ();let Q:ps[i]?=im ps[i]:=z7 j;let(F,hT):=v i _ _ h Q;let(az,hu,ru):=Y.get (i:=i) (x:=V.r (bs[i]'())) (by rw[zx,h];rfl);cases (show az=sR _ from ru);show codeAny_builtin Co ?_;rw[Around.under_plainId BQ _];change wpAny _ A.in1 (pyNext (sR it) >>= _) _ _ s;show zo (wpAny_pyNext_list_item st pl.51 (x:=sR (bs[i]'())) (by simpa using hu) λS M sb=>?_);let P:Inv X fb σ (upd H p (.d d)) {s with heap:=S}:=I.58 (t':=s.57) (λb o v e=>(sb.2 b v).6 e) (f d) g m u w;let(its2,ag,(ot,et,J,nt,dt),_):=P.56 (N d _ _ F hT);let(uk,uv,e2,rk,E):=HU ag;subst e2;change wpAny _ A.in1 (holding [sR (bs[i]'())] _ >>= _) _ _ _;show zo (zH ?_);let hp:(upd H p (.d d)) p=im (.d d):=fH;let(aC,hd,vs,r,dd):=N4 P.gA hp;let an:vs.9<=sizeLine:=by rw[←r.9];show aC
  let ab:Shared.TypeIs {s with heap:=S} (sR (bs[i]'())) oB:=(_,et,J);show zo (wpAny_tryCatch ?_);unfold Builtin.Dict.pairItems;show zo (wpAny_typeOf ab ?_);rw[zf qc];let(oc,odd,oda,lA):=ot;simp only at J dt;subst J dt;show zo (m:=seqItems? _) ?_;unfold seqItems?;show zo (wpAny_load et (zn ?_));show zn ?_;change wpAny _ _ (holding [uk,uv] (dictSet p uk uv)) _ _ _;show zH (wpAny_dictSet_pairs (hsz:=an) (E8 rk) dd λh2 B l=>?_);show zn (plainId_quiet BQ _,?_);let as:(BS d ps[i].1 ps[i].2).9<=i+1:=by have:=B3 d ps[i].1 ps[i].2;lia
  let T:=F2 (t':=s.57+1) P (by rw[hp];show uc) l (by let(q,_,_,hq',_):=B;show (q,hq')) (Gj (P:=X.p) (w:=X.w) (H':=upd (upd H p (.d d)) p (.d (BS d ps[i].1 ps[i].2))) (sZ (AR ())) hd (r.put ps[i].1 E) B);rw[HR]at T;let e3:ps.drop i=ps[i]::ps.drop (i+1):=drop_eq_getElem_cons j;have:=ih (i+1) _ (BS d ps[i].1 ps[i].2) () () as T (M.extBut l.extBut (sX t)) (λC I'=>D C (by rw[e3];show I'));show this
theorem Gr(hc:X.c=iY):gP X (sW oK) (λg H Q=>∃(a:nq)(bs:List nq)(f:LK),g=[.r a]/\fV X.K H a (bs.7 V.r)/\bs.9=f.9/\f.9<=1000/\(∀(i:Nat)b q,bs[i]?=U b->f[i]?=U q->gB X.K H b [kV q.1,q.2]) /\
  ∀p,H p=J->Q (.r p) (upd H p (.d (Eg [] f)))):=by
 intro d s C H g us Q I ag h;let(a,bs,f,rfl,L,hl,hz,hb,q):=h;let(al,rfl,ru):=Bq ag;cases (show al=sR a from ru);let D:H s.8=J:=I.18 (zp _)
 let m:∀o,fJ H (upd H s.8 o):=λo b ar e=>by
  rw[AE (AH e D)];show e
 show callType_codes (Q₁:=λB j=>B=sR s.8/\j={s with heap:=s.19 {cls:=sW oK,data:=wh #[]}}) kt_called_dict (kt_typeCall_dict_1 _) entry_dict_init (kt_code_dict_new _ (zd,zd)) ?_;rintro B j ⟨rfl,rfl⟩;let u:Inv X d C (upd H s.8 (.d [])) {s with heap:=s.19 {cls:=sW oK,data:=wh #[]}}:=I.laid (a:=s.8) (o:=.d []) (t':=s.57) (λ_ _ q=>zU _ q) (zp _) (J2 s.16 I.big);let(fc,rv,pl,_):=u.67 ((m (.d [])).seq L);let F:Shared.TypeIs {s with heap:=s.19 {cls:=sW oK,data:=wh #[]}} (sR s.8) oK:=(_,zK _ rfl,rfl);show(F,args_dict_init_2 _ _,?_);unfold Builtin.«dict.__init__»;show zo ?_;unfold Builtin.Dict.selfAndRest;show zo (wpAny_notOrdered_dict F ?_);change wpAny _ _ (pure (s.8,([sR a]))) _ _ _;show zn ?_;change wpAny _ _ (Builtin.Dict.updateFrom "dict.__init__" s.8 (sR a) [] tj) _ _ _;unfold Builtin.Dict.updateFrom;show zo (wpAny_typeOf pl.isList.43 ?_);rw[zf qc];let hA:X.A.41=J:=I.66 hc;let E:X.A.in1.in1.41=J:=hA;let(ol,nl,M,S,Y,G):=id pl;let(its0,_,(o0,_,e0,_),_):=I.67 L;let ab:a<s.8:=lt_size e0;show zo (KN M S G Y E λt r keep=>?_);let T:Inv X d C (upd H s.8 (.d [])) {s with heap:=t,toks:=r}:=u.75 keep;change wpAny _ _ (if (Option.isNone (J:Option Value))=iY then _ else _) _ _ _;rw[zf (show Option.isNone (J:Option Value)=iY from rfl)];show zo (wpAny_rule ?_);show zo (wpAny_pyIter_list (pl.isList.at λo e=>keep _ o e) ?_)
 let N:s.8<t.10:=by
  have:=keep _ _ (zK s.16 (o:={cls:=sW oK,data:=wh #[]}) rfl);show lt_size this
 let P:Inv X d C (upd H s.8 (.d [])) {s with heap:=t.71 {cls:=sW p0,data:=tN #[sR a,tV 0 0]},toks:=r}:=T.75 (t':=r) λb o e=>zU _ e;let l:s.8≠t.10:=zu N;let x:(upd H s.8 (.d [])) t.10=J:=T.18 (zp _);let(_,f1,_,f3,f4,f5):=T.ju (zp t.10) x;let R:∀(i:Nat)b q,bs[i]?=U b->f[i]?=U q->b≠s.8/\gB X.K H b [kV q.1,q.2]:=λi b q v w=>(λz=>?_,hb i b q v w)
 ·show zn (plainId_quiet BQ _,?_);show Sd (X:=X) (fb:=d) (σ:=C) (H:=H) (a:=a) (it:=t.10) (p:=s.8) (bs:=bs) (ps:=f) (A:=X.A.in1) E (λz=>?_) l L hl R hz (λy=>(m _).seq L) (λy b g _ hT=>?_) (λy=>?_) f1 f3 f4 f5 (f.9-0) 0 _ [] () (tH _) (zp _) P (_,zK _ zd,zd,zd) (λs' A=>(zd,.r s.8,_,A,zd,q _ D))
  ·show absurd ab (by rw[←z];show zy _)
  ·rcases hT with (h|⟨o,h⟩)|h
   ·show sU (sU (m _ _ _ h))
   ·show sU (sY (o,m _ _ _ h))
   ·show sY h
  ·rw[AE (sX l)];rw[AE (sX l)]at x;show x
 ·let(its2,_,(o2,O,_),_):=I.56 (hb i b q v w);show absurd (lt_size O) (by rw[z];show zy _)
theorem Se(b:LK)(k)(v):b.9<=(BS b k v).9:=by
 unfold BS;split
 ·rw[AN];show zp _
 ·rw[zE];ext
noncomputable abbrev Z9(f b:Expr)(D:nq)(d:Env):Sem Unit:=do
 let g ←eval f d
 let h ←holding [g] (eval b d)
 standAt {f.pos with endLine:=b.pos.endLine,endCol:=b.pos.endCol}
 holding [g,h] (dictSet D g h)
noncomputable abbrev hoD(_:nq)(b:LK):HO:=.d b
def RAd(P:Program)(w:World)(h:Heap)(D:nq)(b:LK):Prop:=∃vs,KV b vs/\h.DictOf (Ag P w) D vs
abbrev taD(d b:TE):TAd (LK):=λj f H N=>d f H λi g=>b f g λy h=>∃k,i=kV k/\N (BS j k y) h
abbrev UT(f:TI)(g:TG)(tt:TT)(d b:TE):=Ii [] jU f g tt (taD d b)
theorem MA:SJ P w (.DictComp f x [(g,iter,b,0)] scope m) newDict g iter b (Z9 f x) [] jU hoD (RAd P w) where
 cl:=rfl
 new:=({cls:=sW oK,data:=wh #[]},rfl,(λv z=>nomatch z),λh D e=>([],tO,_,#[],0,e,(rfl,rfl,rfl),rfl,λ_ p=>by simp at p,Pairs.nil,nodup_nil),λA Q E s h=>wpAny_newObj_type h)
 turn:=λA o D i=>(rfl,rfl)
 start:=λA R s o D i j l=>codeAny_compStart_dict j l
 at_:=λh y D a k q=>by let(vs,r,d):=k;show (vs,r,d.at q)
 fin:=λH h D a t u n=>by let(vs,r,d):=n;show Gj t u r d
theorem OS(f:PE X g m)(T:PE X o j):PAd X (Z9 g o) jU (RAd X.p X.w) (taD m j):=by
 intro D ob P h s B H N I a ⟨vs,E,w⟩ hN q
 let r:∀{d:St}{A:Hp}{l:nr},Inv X ([(D,(ob))]++h) d A l->l.heap.DictOf (Ag X.p X.w) D vs:=λ{d A l}Q=>w.at λan e=>by
  rw[I.jr.1]at e;cases e;show Q.jr.1
 show zo (gH (f _ s B H _ I q) λyk y k=>?_);let(zk,G,v,rk,R):=k;show zo (zH (gH (T _ y B G _ v R) λas s9 n=>?_));let(z,M,x,r9,F,S,C):=n;subst S;show zo (zG ?_);let hz:=hN _ _ C
 let ab:vs.9<=sizeLine:=by
  let h1:=Se P F z;rw[←E.9]
  lia
 show zH (wpAny_dictSet_pairs (E8 rk) (r x) λh2 i p=>?_);let(u,L,ag,q,Y,t,al):=id i;show(u,_,M,x.reD a (λb hb=>p.2 b hb) q (λar z=>by rw[t]at z;cases z),(_,E.put F r9,i),C)
theorem Sf(i)(h)(r:JX X.37 scope X.N (x::i) (J::h)=L)(j:(x::i).26)(l:scope.13 x=U uo)(y:X.c=L)(t:PI X (tI x o) iter q)
  (ht:∀d s H C a e,k4 (CA X (x::i) scope d s H C a e) g tt) (u:∀d s H C a e,PE (CA X (x::i) scope d s H C a e) m A) (v:∀d s H C a e,PE (CA X (x::i) scope d s H C a e) z w)
  (f:∀x,foldedSetIterable iter X.e x=pure x:=by intro _;rfl):
  PE X (.DictComp m z [(tI x o,iter,g,0)] scope E) (λD H Q=>UT q (Cl 0) tt A w (J::h) (λB b=>∀p,b p=J->Q (.r p) (upd b p (.d B))) D H):=
 FN MA De (gU.of r) (λ_ _ _ _ _ _=>y) t.g (λd s H C a e=>FM (BX j rfl (sU (z5 l)) (sY (z5 l)))) ht (λ_ _ _ _ _ _ _=>OS (u _ _ _ _ _ _) (v _ _ _ _ _ _)) f rfl
noncomputable def m6(a:nq)(o:Obj)(b:LK):It:=(λi H=>H a=U (.b o (.d b))/\i<b.9,λi H x f=>f=H/\∃d,b[i]?=U d/\x=kV d.1,λi H=>H a=U (.b o (.d b))/\b.9<=i)
theorem Sh(a d)(o)(f):
  Nq ag an ar tg (m6 a o f) [d] d (λi h=>h.IsKeyIter d a i f.9 (WQ o)) where
 mem:=by simp
 obj:=λi h st b q=>by
  let e:b=d:=by simpa using q
  subst e;let(T,e,c,al):=st;show(T,e,λv z=>by ext)
 keep:=λi h P st k=>by
  let(T,e,r):=st;show(T,k d (_) _ e,r)
 item:=by
  intro X m g Q w i A s ab H E I C st M;subst m g Q;let(p,Y):=M;let(z,y,vs,l,D):=EL I p;let j:=l.9;let(B,x):∃B,f[i]?=U B:=(_,z7 Y);let(v,hv,rv):=KV.get l x;let(O,N,f2,S,R,G):=C d (_);rw[j]at st;show wpAny_pyNext_dict_item st D hv λF P t u sb=>?_;let(o',e',c',d'):=id u;show(F,zd,Nr e' c' d' qc (kV B.1,H,I.58 (t':=s.57) (λb o q e=>(sb.2 b q).6 e) O N S R G,Ef t,(zd,B,x,zd),by rw[j];show u,λb q=>(C b q).1))
 done:=by
  intro X m g Q w i A s ab H E I C st M;subst m g Q;let(p,Y):=M;let(z,y,vs,l,D):=EL I p;let j:=l.9;rw[j]at st;let(O,N,f2,S,R,G):=C d (_);show wpAny_pyNext_dict_end (I.66 w) st D (_) λP eb=>(zd,I.58 (λb o q e=>eb b o q e) O N S R G)
 self:=λ_ _ _ _ _ st h=>wpAny_pyIter_keyiter st h
def aA(to:TE):TI:=λf H R=>to f H λx b=>E₃ λa o d=>C₃ (x=.r a) (b a=U (.b o (.d d))) (R (m6 a o d) b)
theorem Q9(B:PE X o to):PI X f o (aA to):=by
 intro d s u H R I h;show gH (B d s u H _ I h) λv C w=>?_;let(x,F,i,t,a,E,l,A,j,q):=w;subst A;cases t;let(z,y,vs,p,r):=EL i j;apply wpAny_pyIter_dict y r;show(_,[_],_,_,F,Y,i.75 λb o e=>zU _ e,Sh a _ E l,(_,zK _ Y,Y,by rw[p.9];rfl),λb D=>?_,q);let e:b=C.8:=by simpa using D
 subst e;show i.ju (zp _) (i.18 (zp _))
theorem P2{S}{a}{P:L2.TE}{o}{s}{g:TG}{tt:TT}{Q:TE}{E}{R:LK->Hp->Prop}{F}(j:Nat->LK->Hp->Prop)(G:j 0 [] F)(D:∀i f H,j i f H->H a=U (.b o (.d s)))(M:∀i f H,j i f H->f.9<=1000)
  (T:∀i t f H,s[i]?=U t->j i f H->g (kV t.1) (FL E S) H λd u=>tt d u λb l=>if b=L then Q d l λv A=>P d A λy B=>∃k,v=kV k/\j (i+1) (BS f k y) B else j (i+1) f l) (I:∀f H,j s.9 f H->R f H):
  ∃W:Nat->Nat->LK->Hp->Prop,(∃m,W 0 m [] F)/\∀i m f H,W i m f H ->
   ((m6 a o s).stop i H/\f.9<=sizeLine/\R f H) \/
   ((m6 a o s).go i H/\∃N:LK->Hp->Prop,(∀h w,N h w->h.9<=sizeLine/\∃C,C<m/\W (i+1) C h w) /\
    ∀x w,(m6 a o s).j7 i H x w->g x (FL E S) w λd u=>tt d u λb l=>if b=L then Q d l λv A=>P d A λy B=>∃k,v=kV k/\N (BS f k y) B else N f l):=by
 show(λi m f H=>C₃ (m=s.9-i) (i<=s.9) (j i f H),(7,tH _,G),?_);rintro i m f H ⟨rfl,X,r⟩;by_cases p:i<s.9
 ·show sY ((D i f H r,p),j (i+1),λh w q=>(sZ (AR (M _ h w q)),s.9-(i+1),by lia,Y,p,q),?_);rintro x w ⟨rfl,t,z,rfl⟩;show T i t f _ z r
 ·have e:i=s.9:=by lia
  subst e;show sU ((D _ f H r,zp _),sZ (AR (M _ f H r)),I f H r)
theorem Mv(l)(f)(n)(b)(e)(a)(v)(o:e.83=sW oB)(q:e.34=uW a v)(t:¬(Bool.not f.99&&uZ (f.22+a.22))=L)(j:f.22<=sizeLine)(i:f.22+a.22<=sizeLine+1):
  Meets (Builtin.«list.extend» ([sR l,sR b],[])) (λ_ R s=>s.3 l=U {cls:=sW oq,dict:=J,data:=uW f n,slots:=#[]}/\s.3 b=U e/\R (.ok (.ret tj)) {s with heap:=s.heap.61 l (u4 λx=>x++a),toks:=s.57}):=
 .of_wp λprog w A R s h=>by
  let(D,g,d,F,B):=s;let(p,y,h):=h;let(G,E,z,r):=e;simp only at o q;subst o q;let H:=AutoSeq1.idx_int;let q1:=AutoSeq1.sub_tuple_tuple;let q2:=AutoSeq1.sub_tuple_list;let q3:=AutoSeq1.sub_list_list;let C:=AutoSeq1.sub_list_tuple
  let u:(f++a).22<=sizeLine+1:=by
   rw[Array.size_append];show i
  wp_walk using AutoSeq1.wpAny_loadPart' p,AutoSeq1.wpAny_loadPart' y,(wpAny_updateSeq p rfl (hz:=j) (_hz':=u))
  show(7,h)
def UU:V->nk->Hp->VK->Prop:=λx vs H Q=>E₄ λl b d f=>C₆ (x=.r l) (vs=[.r b]) (H l=U (.l d)) (H b=U (.t f)) (d.9+f.9<=sizeLine) (Q .g (upd H l (.l (d++f))))
theorem P3:MtM X "list.extend" UU:=by
 intro A s S H x vs v R Q I E G h;let(l,b,U,N,rfl,rfl,y,B,O,q):=h;cases E;let(u,rfl,M):=G.one;cases M;let(z,d,n,r,T,e):=I.lstM y;let(a,t,(D,C,j,J,p),_):=I.56 (gB.of B);let f:=t.9;let o:d.81+a.81<=sizeLine:=by rw[size_toArray,size_toArray];ext
 let i:¬ (!d.toArray.99&&uZ (d.81+a.81))=L:=by
  rw[Tu o,Bool.and_false];show tF
 show call_meets F.slot_list_extend (_,e,Y) F.entry_list_extend (F.args_list_extend_2 _ _)
  (Mv l d.11 n b D a.11 J j p i (by rw[size_toArray];ext) ()) (e,C,?_)
 show(.g,_,I.lset (its':=d++a) y e (_) (r.append t) ?_,Y,q);rw[zE]
 assumption
def aB(i j k:Nat)(b:TA):TS:=λD d H=>b d H λvs f=>E₃ λv w z=>vs=[v,w,z]/\D.nx (((d.set k (U z)).set j (U w)).set i (U v)) f
theorem RB(s:X.c=iY)(f:X.N.26)(hi:X.N[i]?=U x)(hj:X.N[j]?=U y)(hk:X.N[k]?=U z)
  (M:X.28 x=U uo) (R:X.28 y=U uo) (m:X.28 z=U uo) (w:PA X [a,b,c] ta)
  (hw:swappedStores [uV [tI x g,tI y q,tI z T] kt pt] (uV [a,b,c] p C) X.e=pure (U [x,y,z]))
  (hs:swapsWithSole [uV [tI x g,tI y q,tI z T] kt pt] (uV [a,b,c] p C) an.70 X.e=pure i7:=by rfl):
  PS X (vn [uV [tI x g,tI y q,tI z T] kt pt] (uV [a,b,c] p C) an) (aB i j k ta):=by
 intro l as N H aC I h;rw[exec_Assign_arm];show zo (zG ?_);rw[hs];show zo (zn ?_);rw[zg qc];show zo (Tuple_ (gH (w _ l as N H _ I h) λus A n=>?_));let(vs,S,D,r1,q1):=n;let(v,az,t,e1,q1):=q1;subst e1
 let(r,u,B,rfl,rv,J,rt):∃r u B,us=[r,u,B]/\RelV v r/\RelV az u/\RelV t B:=by
  cases r1 with
  |cons al ar=>
   cases ar with
   |cons p' q'=>
    cases q' with
    |cons E G=>
     cases G;show(_,_,7,al,p',E)
 show wpAny_newObj_type ?_ kQ;let ag:Inv X l N S {A with heap:=A.19 {cls:=sW oB,data:=uW [r,u,B].11}}:=D.75 (t':=A.57) λb o e=>zU _ e;rw[hw];show zo (zn ?_);change ik X (do rule "assign.swapped-stores";let d ←unpackItems (sR A.8) 3 io;assignInOrder [λv=>bindName X.e z v,λv=>bindName X.e y v,λv=>bindName X.e x v] d.48;pure Flow.next) _ _ _;show zo (wpAny_rule (zo (unpackItems_tuple (items:=#[r,u,B]) (I.66 s) (IsTup.new A.16 _) λQ F=>?_)));let P:=ag.75 (h':=Q) (t':=A.57) λb o e=>F b o (zu (lt_size e)) e;change wpAny _ _ (assignInOrder [λv=>bindName X.e z v,λv=>bindName X.e y v,λv=>bindName X.e x v] [B,u,r] >>= λ_=>pure Flow.next) _ _ _;show zo (assignInOrder_cons (wpAny_bindName (Cg P f hk (sU m) rt (λs2 ab=>?_) (sY m))));show assignInOrder_cons (wpAny_bindName (Cg ab f hj (sU R) J (λs3 I5=>assignInOrder_cons (wpAny_bindName (Cg I5 f hi (sU M) rv (λs4 I6=>assignInOrder_nil (zn ?_)) (sY M)))) (sY R)));show(_,S,I6,q1)
def c8:V->Option Int->Option Int->Hp->VK->Prop:=λx lo b H Q=>∃z,C₃ (x=.s z) (z.9<=sizeLine) (Q (.s (vK z lo b)) H)
theorem RC(h:IsPart v o):∃l,v=partValue l/\o=l.7 (·.1):=by
 cases h with
 |none=>show(J,rfl,rfl)
 |int i t=>show(U (i,(t)),rfl,rfl)
theorem UV:SlR X c8:=by
 rintro a s o H x v p r A y sl Q I i j pl h ⟨z,rfl,e,q⟩;let(t,rfl):=i;let(l,rfl,rfl):=RC pl;let(u,rfl,rfl):=RC h;show("str",_,F.slot_str_getitem.lookup,typeIs_str s z t,wpAny_getItem_str_slice (st:=J) j Y (post_val_or_str (tT (Txt.slice_le z _ _) e,λd k=>(.s (vK z _ _),H,I.96 k,(d,Y),q))))
theorem GZ:gP X (sW sv) (λb H Q=>∃x n,b=[.s x]/\x.9<=640/\intText? x=U n/\Q (.t n) H):=by
 rintro a s i H b h Q I r ⟨x,n,rfl,d,e,q⟩;let(u,rfl,t,rfl):=Bq r;show W.KIN.call_text e d (.t n,H,I.96 _,(_,Y),q)
theorem Wk:iy X (binaryOp .Mult) (λx y H Q=>∃(i:Str)(n:Int),x=.s i/\y=.t n/\((n=0/\Q (.s "") H)\/(n=1/\Q (.s i) H))):=by
 rintro a s l H x y v u Q I e d ⟨i,n,rfl,rfl,h⟩;let(t,rfl):=e;let(j,rfl):=d;let(rfl,q)||(rfl,q):=h
 ·apply PySem.P.mul_str rfl (λz _=>absurd qc z) (λz _=>absurd qc z);show(qc,.s "",H,I.96 _,(_,Y),q)
 ·apply PySem.P.mul_str rfl (λ_ z=>by simp at z) (λ_ z=>by simp at z);show(.s i,H,I,(_,Y),q)
theorem Mw:gP X (sW "str") (λb H Q=>∃x,b=[.s x]/\Q (.s x) H):=by
 rintro a s e H b d Q I r ⟨x,rfl,q⟩;let(u,rfl,t,rfl):=Bq r;show PySem.P.str_of_str (.s x,H,I,(_,Y),q)
structure PTw(X:Cx)(e:Expr)(t:TT):Prop where
 h:PT X e t
theorem MC{i}(l:X.N.26)(a:X.N[i]?=U x)(h:Loc X.37 x)(j:iR X e m)(b:swapsWith e (U (tI x g)) f.70 X.e=pure O:=by rfl)(d:X.fn x=L\/X.28 x=U uo:=by first|show .inl rfl|show .inr rfl):
  mQ X (vn [tI x g] e f) (V9 m (Cl i)):=⟨Da l a h j.h b d⟩
theorem Gs(h:iy X (binaryOp f) r)(i:iR X a e)(d:iR X b g):iR X (.BinOp a f b j) (ly r e g):=⟨AW h i.h d.h⟩
theorem Eh(h:IxR X r)(i:iR X a e)(d:iR X b g)(f:Qp b:=by intro _ _;rfl):iR X (vA a b j) (ly r e g):=⟨Ak h i.h d.h f⟩
theorem P4(h:PTw X c a)(e:iX X b t)(d:iX X f u):mQ X (.If c b f g) (YG a t u):=⟨AU h.h e.h d.h⟩
theorem X0(j:PTw X c i)(h:iR X a e)(d:iR X b f):iR X (.IfExp c a b g) (tIf i e f):=⟨BW j.h h.h d.h⟩
theorem CQ(a:iR X e f)(h:PAw X b g)(d:jC X e b:=by rfl):PAw X (e::b) (A3 f g):=⟨AA a.h h.h d⟩
theorem Gu{k}{g}(F:AT X.p X.w X.K X.m X.b m k f w g z)(v:gD k X.A)(r:Gl X x)(o:X.m x=U (sR f))(i:vc X.K (sR f)=L)(j:Binds X.K w g s)(u:Vals h s)(q:Bc m X E)
  (l:PAw X (e::b) A) (a:jg x:=by decide) (t:jC X e b:=by rfl) (d:(backTo y (starEach b X.e)).91 (·.1)=O:=by rfl):
  iR X (uJ (tI x p) (e::b) [] y) (Ny z h E A):=⟨A5 F v r o i j u q l.h a t d⟩
theorem aD(h:PAw X b d):iR X (.List b f) (YO d):=⟨BA h.h⟩
abbrev DcE:=Str×Tok×Int×Tok
noncomputable def aE(P:Params)(e:DcE):DictEntry:=(PyData.keyHash P e.1,vw e.1 e.2.1,tV e.2.2.1 e.2.2.2)
def dcObj(P:Params)(l:List DcE)(ep:Nat):Obj:=(sW oK,J,wh (l.7 (aE P)).11 ep,#[])
noncomputable def lU(l:List DcE):LK:=l.7 λe=>(sS e.1,(.t e.2.2.1))
theorem aF{w}{h:PySem.Heap}{l}(e:h.14 bd=U (dcObj w.62 l ep))(i:(l.7 (·.1)).26):∃vs,KV (lU l) vs/\h.DictOf (Ag P w) bd vs:=by
 show(l.7 λe=>(sS e.1,(tV e.2.2.1 e.2.2.2)),?_,_,_,_,e,(Y,Y,Y),Y,λx o=>?_,?_,?_)
 ·clear e i;induction l with
  |nil=>show tO
  |cons a r j=>show tP (rfl,_,rfl) j
 ·let(a,_,rfl):=zh.mp (List.mem_toArray.mp o);show(sS a.1,FE P w _ _,Y)
 ·rw[List.toList_toArray];clear e i;induction l with
  |nil=>show .nil
  |cons a r j=>show .cons (FE P w _ _) rfl j
 ·rw[map_map];have:(l.7 ((λx:Key×Value=>x.1) ∘ λe=>((sS e.1),(tV e.2.2.1 e.2.2.2))))=(l.7 (·.1)).7 (λx=>(sS x)):=by rw[map_map];rfl
  rw[this];show List.Pairwise.map _ (λa b d z=>d (vF z)) i
theorem Gv:gP X (sW oK) (λg H Q=>∃a f,g=[.r a]/\Rd H a (.d f)/\∀p,H p=J->Q (.r p) (upd H p (.d f))):=by
 rintro i s A H g x Q I r ⟨a,f,rfl,l,q⟩;let(u,rfl,v):=Bq r;cases (v);let(z,y,vs,d,j):=DK I.gA l;show kt_call_dict y j (by rwa[←d.9]) λB h t=>?_;show(.r s.8,_,I.laid (λb o e=>(t.2 b (zu (lt_size e))).6 (zU _ e)) (zp _) (Gj z (by rw[beq_eq_false_iff_ne];show uH I.big) d h),Y,q _ (I.18 (zp _)))
theorem P5:iy X (compareOp .In) (λx y H Q=>∃(c:Nat)(j:Str),x=.s ⟨#[c]⟩/\y=.s j/\Q (.l (decide (c∈j.4))) H):=by
 rintro a s i H x y v u Q I e d ⟨c,j,rfl,rfl,q⟩;let(t,rfl):=e;let(h,rfl):=d;apply PyProof.Rows.in_str;rw[StrLaws.found_one];show(.l _,H,I,Y,q)
theorem Si:gP X (sV oI) (λf H Q=>∃a o b,f=[.r a,.y oK]/\H a=U (.b o (.d b))/\Q (.l L) H):=by
 rintro h s A H f x Q I r ⟨a,o,b,rfl,e,q⟩;let(u,B,rfl,v,d):=HU r;cases (d);cases (v);let(_,_,vs,_,i):=DK I.gA (sY (o,e));let(p,y,ep,j,t,_):=id i;show vb W.kitx_dict I.ip (p,j,t.1) rfl (λz=>nomatch z) λl=>(.l L,H,I.96 l,rfl,q)
theorem Sj{P}{w}{a}{f}{g:SV}{s:SV}{v}{k}{fa bd}{T:List (nq×nq)}{l}{ep}{fd}{sp}{i}{vs}{M}
  (KX:f.In i.16) (ar:i.heap.Ns mainGlobals g) (y:i.heap.Ns builtinsNs s) (bx:∀x:Str,x≠ oQ -> s x=bootBuiltins x) (bB:i.heap.NoLimit) (hg:i.gens=#[])
  (I:i.3 a=im {cls:=sW oq,data:=uW vs.11}) (hi:IntsAre vs M) (hl:M.9<=sizeLine) (hr:gD k callerA)
  (hP:∀t∈T,i.3 t.2=im (W.tabObj #[])/\f.5 t.2=J/\vX i.16 t.1 t.2/\i.heap.47 g t.2)
  (E:i.3 bd=im (dcObj w.62 l ep)) (bk:f.5 bd=J) (bs:5<=bd) (lG:l.9<=1000) (mq:(l.7 (·.1)).26)
  (F:∀p,f.In p->p.Ns mainGlobals g->(∀t∈T,vX p t.1 t.2/\p.47 g t.2)->AT P w f g p v k fa fd [x] sp) (aM:∀bK u,BindsTo bK fd ([u],[]) [(x,(u))])
  (bC:∀H,(∀t∈T,H t.2=im (.c #[]))->Rd H bd (.d (lU l))->fV f H a (M.7 V.t)->sp [.r a] H (λaz _=>az=.l L) λ_ _ _=>False)
  (a9:∀H e B,v [] H i (λ_ _ _=>False) e B->False):
  codeAny (model P w) callerA (.call (sR fa) ([sR a],[])) (λr B=>r=.ok (.ret (uO L))/\OldK i.16 B.16/\B.os=i.os/\AllBare B.gens) i:=by
 let rv:=F4 hi;generalize hT:T.7 (·.2)=TT;let tt:∀b,b∈TT->∃t∈T,t.2=b:=λb z=>by grind
 let G:∀b,b∈TT->i.3 b=im (W.tabObj #[])/\f.5 b=J:=λb z=>by
  grind
 let bn:a∉ TT:=λz=>by ext
 let br:a≠bd:=λz=>by subst z;rw[I]at E;cases congrArg Obj.data (tS E)
 let bl:bd∉ TT:=λz=>by let e:=(G bd z).1;rw[E]at e;cases congrArg Obj.data (tS e)
 generalize eD:dcObj w.62 l ep=D at E;generalize S:({cls:=sW oq,data:=uW vs.11}:Obj)=N at I
 let bI:∀H,hO P w H i.16 bd (.b D (.d (lU l))):=λH=>(E,by unfold lU;rw[AN];show sZ (AR lG),by
  cases q:(bd==sysModules)with
  |false=>rfl
  |true=>
   rw[beq_iff_eq.mp q]at bs
   trivial,aF (eD ▸ E) mq)
 let(H,hH):∃H:Hp,H=λb=>if b∈TT then im (.c #[])else if b=bd then im (.b D (.d (lU l)))else if b=a/\f.5 a=J then im (.b N (.l (M.7 V.t)))else J:=(_,rfl)
 let Q:∀b u,H b=im u->(b∈TT/\u=.c #[])\/(b=bd/\u=.b D (.d (lU l)))\/(b=a/\f.5 a=J/\u=.b N (.l (M.7 V.t))):=λb u z=>by
  grind
 let bF:∀{b:nq}{u:HO},H b=im u->i.3 b=im (W.tabObj #[])\/i.3 b=im D\/i.3 b=im N:=λ{b u}z=>by
  let(h,_)||(rfl,_)||(rfl,_):=Q b u z
  ·show sU (G _ h).1
  ·show sY (sU E)
  ext
 let ag:∀t∈T,H t.2=im (.c #[]):=λt ht=>by
  rw[hH];show zf (by rw[←hT];show zh.49 (t,ht,Y))
 let be:H bd=im (.b D (.d (lU l))):=by
  rw[hH];show(zg bl).6 (zf Y)
 let none_of:∀{b:nq}{o:Obj},i.3 b=im o->o≠W.tabObj #[]->o≠D->o≠N->H b=J:=λ{b o}e n1 n2 n3=>by
  cases q:H b with
  |none=>rfl
  |some u=>let z||z||z:=bF q<;>(rw[e]at z;cases z;trivial)
 let j:∀{b:nq}{o:Obj},i.3 b=im o->H b=J->(MZ i.16 H).14 b=im o:=λe n=>Td e n;let dD:∃X n,D.34=wh X n:=by rw[←eD];show(_,7)
 let dL:∃R n,N.34=uW R n:=by rw[←S];show(_,7)
 let bE:∀{b:nq}{o:Obj}{R:Array Value},i.3 b=im o->o.34=tN R->o.83≠ tj->H b=J:=λ{b o R}e d n=>none_of e (λz=>n (by rw[z])) (λz=>by let(_,_,q):=dD;rw[←z,d]at q;cases q) (λz=>by let(_,_,q):=dL;rw[←z,d]at q;cases q)
 let C:∀{b:nq}{m:SV},b<5->i.heap.Ns b m->(MZ i.16 H).Ns b m:=λ{b m}bu c=>by let(o,X,ep,e,d,r):=c;show (o,X,ep,j e (by
  cases q:H b with
  |none=>rfl
  |some u=>
   let(h,_)||(rfl,_)||(rfl,_):=Q b u q
   ·rw[(G _ h).1]at e;cases e;cases d
   ·show absurd bu (_)
   ·rw[I]at e;cases e;let(_,_,q):=dL;rw[q]at d;cases d),d,r)
 let an:=λb o e=>j (KX b o e) (by
  cases q:H b with
  |none=>rfl
  |some u=>
   let(h,_)||(rfl,_)||(rfl,h,_):=Q b u q
   ·rw[(G _ h).2]at e;cases e
   ·rw[bk]at e;cases e
   ext)
 let hM:Mod f g (MZ i.16 H):=(an,C qc ar,(s,C qc y,bx),by let(mc,h1,h2):=bB;show (mc,C qc h1,h2))
 let bb:∀t∈T,vX (MZ i.16 H) t.1 t.2/\(MZ i.16 H).47 g t.2:=λt ht=>by
  let(_,_,hC,hB):=hP t ht;let(o,vs',U,tf,aC,tg,inF,a0,tt,e,al,O,r):=id hC;let(bm,o',a1,a2,a3,a4,a5,a6,a7,a8):=id hB;show((o,vs',U,tf,aC,tg,inF,a0,tt,j e (bE e O (by rw[al];simp)),al,O,r),(bm,o',a1,a2,a3,a4,j a5 (none_of a5 (λz=>by rw[z]at a6;cases a6) (λz=>by let(_,_,q):=dD;rw[←z,a8]at q;cases q) (λz=>by let(_,_,q):=dL;rw[←z,a8]at q;cases q)),a6,a7,a8))
 let gA:iG P w H i.16:=λb u z=>by
  let(h,rfl)||(rfl,rfl)||(rfl,_,rfl):=Q b u z
  ·show(G _ h).1
  ·show bI _
  ·show(I,by rw[AN];show hl,vs,_,rv,by rw[I,←S])
 let hS:fV f H a (M.7 V.t):=by
  cases hk:f.5 a with
  |none=>show sU (sY (N,by rw[hH];show(zg bn).6 ((zg br).6 (zf (rfl,hk)))))
  |some o=>
   let e:=KX a o hk;rw[I,←S]at e;cases e;show sY (_,vs.11,_,hk,Y,Y,Y,by rw[size_toArray,hi.9];show hl,by simpa using rv)
 show codeAny_mono ((F _ an (C qc ar) bb).run callerA [] i H ([sR a],[]) [sR a] [.r a] _ _ hr ((rfl,hM,λb o e=>V6 e,Nat.le_of_eq (R7 _ _),trivial,λb y=>absurd (show b∈([])from y) (_),gA,.of_eq hg)) (aM i (sR a)) (tP rfl tO) (bC H ag (sY (_,be)) hS)) λr B h=>?_;cases r with
 |error e=>show(a9 H e B h).40
 |ok fl=>
  cases fl with
  |next=>trivial
  |brk=>trivial
  |cont=>trivial
  |ret u=>
   let(az,H',os,aR,un,A,r',q):=h;subst q;obtain rfl:u=uO L:=r'
   let as:∀b,b∈TT->∃more,B.3 b=im (W.tabObj (#[]++more)):=λb y=>by
    let(t,ht,rfl):=tt b y;let(more,e):=un.jf _ #[] (ag t ht);show(more,A _ _ e)
   let ab:∀b o,b∉ TT->i.3 b=im o->B.3 b=im o:=λb o y e=>by
    cases q:H b with
    |none=>show un.32 b o e q (by intro z;trivial) (_)
    |some u=>
     let(h,_)||(rfl,rfl)||(rfl,_,rfl):=Q b u q
     ·trivial
     ·rw[E]at e;cases e;show(A _ _ (un.jb _ _ _ q)).1
     ·rw[I]at e;cases e;show(A _ _ (un.jb _ _ _ q)).1
   show(Y,(λb o e=>?_,λb o e=>?_),os,aR)
   ·by_cases y:b∈TT
    ·let(t,ht,rfl):=tt b y;let(hp,_,hC,_):=hP t ht;rw[hp]at e;cases e;let(more,e2):=as _ y;show sY (sU ((hC.tab hp).isCodeTable,Y,#[],more,Y,e2))
    ·show sU (ab b o y e)
   ·by_cases y:b∈TT
    ·let(more,e2):=as _ y;show(_,e2)
    ·show(o,ab b o y e)
theorem UW{x}{l:W.OpenLaw}{n k}{an}{loose}{XP}{p}{d}{g:Params->FG}{CX:World->CXT}{sp:World->Sp}{T:List (nq×nq)}{bd}{dl}{ep}
  (v:l.most=U n) (a1:n<=sizeLine) (B:d.params.defaults=[]) (z:gD k callerA) (C:5<=bd) (q:dl.9<=1000) (D:(dl.7 (·.1)).26)
  (r:∀w h,p w h->(g w.62).In h/\(∀t∈T,h.14 t.2=U (W.tabObj #[])/\(g w.62).5 t.2=J/\vX h t.1 t.2)/\h.14 bd=U (dcObj w.62 dl ep)/\(g w.62).5 bd=J)
  (F:∀w(b:SV)A h,(g w.62).In h->h.Ns mainGlobals b->b d.name=U (sR A) ->
   ∃o,(∀s u,BindsTo s o ([u],[]) [(x,(u))]) /\
    ∀j,(g w.62).In j->j.Ns mainGlobals b->(∀t∈T,vX j t.1 t.2/\j.47 b t.2)->AT l.77 w (g w.62) b j (CX w) k A o [x] (sp w))
  (M:∀w H a(y:List Int),y.9<=n->(∀t∈T,H t.2=U (.c #[]))->Rd H bd (.d (lU dl))->fV (g w.62) H a (y.7 V.t)->sp w [.r a] H (λas _=>as=.l iY) λ_ _ _=>False)
  (E:∀w H s e m,CX w [] H s (λ_ _ _=>False) e m->False):
  W.WalkO an loose XP p l.row.toRowW d [] (λf vs=>PySem.call f vs):=by
 show Att.attach_call v B λw aC i b mb A a2 pm cd aR a vs y G S ho hd a0 P ar ag al hg=>?_;let(Q,N,X,I):=r w _ S;let(o,hb,hF):=F w b A _ Q G.T.g P
 let R:∀t∈T,i.heap.47 b t.2:=λt ht=>by
  let(bm,ob,b1,b2,b3,b4,b5,b6):=G.T.bmain;show(bm,ob,b1,b2,λaz=>?_,λaz=>?_,b3,b4,b5,b6)
  ·let(o',es,ep,e,aM,_):=G.T.g
   ext
  grind
 show Sj Q G.T.g G.T.b G.T.builtins G.T.nolimit hg ar ag () z (λt ht=>((N t ht).1,(N t ht).2.1,(N t ht).2.2,R t ht)) X I C q D hF hb (λH hH ab hS=>M w H a y al hH ab hS) λH e m=>E w H i e m
theorem Inv.thaw(I:Inv X g m H s)(h:H a=U (.b o (.d f)))(t:∀o u,X.i a≠U (.b o u)):Inv X g m (upd H a (.d f)) s:=by
 let d:∀{b:nq}{u:HO},H b=U u->(∀v A,u≠ .b v A)->b≠a:=λe n z=>by
  subst z;rw[h]at e;cases e;show n _ _ rfl
 let no:∀{b:nq},H b=J->b≠a:=λe z=>by
  subst z;rw[h]at e;cases e
 let i:∀{b:nq},H b=J->(upd H a (.d f)) b=J:=λe=>by
  rwa[AE (no e)]
 show(I.ok,I.os,I.74,(I.base.32,I.base.slot,λb o q n x=>i (I.base.54 b o q n x),I.base.86,λb y e=>?_,λb o u e=>?_,λb r e=>?_),I.loc,I.84,i I.54,λx c e=>i (I.ie x c e),λp l=>?_,λb u e=>?_,I.50)
 ·have:=I.base.ji b y e
  rwa[AE (d this λ_ _ z=>nomatch z)]
 ·rw[AE (λz=>by subst z;show t o u e)];show I.base.jb b o u e
 ·let(more,q):=I.base.jf b r e;show(more,by rw[AE (d q λ_ _ z=>nomatch z)];show q)
 ·let(q1,q2,q3):=I.pin p l;show(q1,i q2,q3)
 ·by_cases j:b=a
  ·subst j;rw[fH]at e;cases e;show(I.gA _ _ h).2
  ·rw[AE j]at e;show(I.gA b u e).i9 (λ_ _ _ q=>q) (λc q=>?_) λc x q=>?_
   ·rwa[AE (d q λ_ _ z=>nomatch z)]
   ·rwa[AE (d q λ_ _ z=>nomatch z)]
theorem OT{X}{st}{t}(h:PS X st t):PS X st (λD f H=>∃a b,H a=U (.d b)/\(∀o u,X.i a≠U (.b o u))/\∀o,t {D with nx:=λd j=>j a=U (.b o (.d b))/\D.nx d (upd j a (.d b))} f (upd H a (.b o (.d b)))):=by
 intro i s f H D I ⟨a,b,e,p,k⟩;let(o,x):=I.freeze e;show gH (h i s f _ _ x (k o)) λfl y q=>?_;cases fl with
 |next=>let(d,j,l,r,q1):=q;show(d,_,l.thaw r p,q1)
 |brk=>show q
 |cont=>show q
 |ret v=>show q
theorem Sk(M:X.N.26)(q:X.N[i]?=U z)(R:X.28 z=U uo)(j)(o)(F:JX X.37 scope X.N (x::y::j) (J::J::o)=L)(h:(x::y::j).26)(t:scope.13 x=U uo)(A:scope.13 y=U uo)(u:X.c=L)(I:PI X (uV [tI x v,tI y m] kt pt) iter E)
  (ht:∀a s H C e d,k4 (CA X (x::y::j) scope a s H C e d) f tt) (N:∀a s H C e d,PE (CA X (x::y::j) scope a s H C e d) g tk) (G:∀a s H C e d,PE (CA X (x::y::j) scope a s H C e d) B T)
  (r:swapsWith (.DictComp g B [(uV [tI x v,tI y m] kt pt,iter,f,0)] scope S) (U (tI z P)) l.70 X.e=pure L:=by rfl) (Q:∀x,foldedSetIterable iter X.e x=pure x:=by intro _;rfl):
  PS X (vn [tI z P] (.DictComp g B [(uV [tI x v,tI y m] kt pt,iter,f,0)] scope S) l) (λD w H=>UT E (g2 X.K) tt tk T (J::J::o) (λys b=>∀p,b p=J->D.nx (w.set i (U (.r p))) (upd b p (.d ys))) w H):=
 N8 M q R r MA De (gU.of F) (λ_ _ _ _ _ _=>u) I.g (λa s H C e d=>N7 (BG u (AQ (BX h rfl (sU (z5 t)) (sY (z5 t)))
  (AQ (BX h rfl (sU (z5 A)) (sY (z5 A))) Av)))) ht (λ_ _ _ _ _ _ _=>OS (N _ _ _ _ _ _) (G _ _ _ _ _ _)) Q rfl
end
end L2
namespace L2
open PySem PySem.Spec PyProof.Rows PySem.W
theorem RE{b:Type}(v):∀n a,(tJ n (#[v]:Array b)).68 (·++·) a=a++(tJ n v).11
 |0,a=>by simp
 |n+1,a=>by
  rw[List.replicate_succ,foldl_cons,RE v n,List.replicate_succ];apply Array.ext';simp
theorem OU(h:RelV x u):∀n,Vals (tJ n x) (tJ n u)
 |0=>tO
 |n+1=>tP h (OU h n)
theorem Wl(f)(M:X.K=f):iy X (binaryOp .Mult) (λx y H Q=>∃(a:nq)(t:V)(n:Int),x=.r a/\y=.t n/\fV f H a [t]/\1<=n/\n<=1000/\∀l,H l=J->Q (.r l) (upd H l (.l (tJ n.30 t)))):=by
 subst M;intro r s w H x y v u Q I g A h;let(a,t,n,rfl,rfl,D,R,S,q):=h;cases g;let(j,rfl):=A;let(N,z,pl,T):=I.67 D;let(u,rfl,O):=Bq z;let((C,d,p,sl),i,o,k,G):=pl.51;subst o G
 show wpAny_binaryOp_repeat_ref qc (_,i,Y) (λB=>typeIs_int B n j) noFill_list_mul F.fills_int_mul F.slot_int_rmul repeat_list F.slot_int_index.lookup
  (call_meets F.slot_int_rmul (typeIs_int s n j) F.entry_int_rmul (F.args_int_rmul_2 _ _) (lm_int_rmul_list_any n j a _ k d sl)
   (i,rfl,(_,i,rfl),call_meets F.slot_list_mul (_,i,rfl) F.entry_list_mul (F.args_list_mul_2 _ _)
    (lm_list_mul_any a _ k d sl n j (by simp[Builtin.List.listFitsIndex];lia) (by simp;lia) (by simp[uZ,sizeLine];lia))
    (i,?_)))
 show(.r s.8,_,I.laid (λb P q=>zU _ q) (zp _) ?_,Y,q _ (I.18 (zp _)));show(by rw[List.length_replicate];change _<=2^24;lia,_,0,OU O n.30,?_)
 let e:(tJ (if (#[u]).99=L then 0 else n.30) (#[u])).68 (λm E=>m++E) #[]=(tJ n.30 u).11:=by
  rw[RE];apply Array.ext';simp
 rw[e];show zK _ rfl
end L2
namespace L2
open PySem PySem.Spec PyProof.Rows
mutual
def Hm(b:Array Nat):Prop:=∀i j d(f:j<b.22),i<j->b[i]<b[j]
structure BlS(xs:Array Nat)(j k:Nat):Prop where
 le:k<=xs.22
 lo:∀i h,i<k->xs[i]<j
 hi:∀i h,k<=i->j<=xs[i]
theorem KP(f:Hm b)(j):∀d lo a,lo<=a->a<=b.22->a-lo<=d->(∀i h,i<lo->b[i]<j)->(∀i h,a<=i->j<=b[i])->BlS b j (SetTable.below.go b j d lo a)
 |0,lo,a,x,p,v,r,q=>by
  let e:lo=a:=by lia
  subst e;show(p,r,q)
 |d+1,lo,a,x,p,v,r,q=>by
  rw[SetTable.below.go];by_cases o:lo<a
  ·rw[zf o];let t:(lo+a)/2<b.22:=by lia
   let z:b.44 ((lo+a)/2) j=b[(lo+a)/2]:=by
    rw[Array.getD_eq_getD_getElem?,uj t];rfl
   change BlS b j (if b.44 ((lo+a)/2) j<j then _ else _);rw[z];by_cases u:b[(lo+a)/2]<j
   ·rw[zf u];show KP f j d _ _ () p (by omega) (λi l y=>?_) q;by_cases e:i=(lo+a)/2
    ·ext
    ·show uI (f i ((lo+a)/2) l t ()) u
   ·rw[zg u];show KP f j d _ _ () () (by omega) r (λi l y=>?_);by_cases e:i=(lo+a)/2
    ·ext
    ·have:=f ((lo+a)/2) i t l ()
     lia
  ·rw[zg o];let e:lo=a:=by lia
   subst e;show(p,r,q)
theorem Hn(d:Hm b)(j):BlS b j (tY b j):=by
 show KP d j b.22 0 b.22 (tH _) (zp _) () (λi _ h=>absurd h (_)) (λi h a=>absurd h ())
theorem Yj(f:Hm b)(h:SetTable.has b j=O):∀i(h:i<b.22),b[i]≠j:=by
 intro i a e;let B:=Hn f j;unfold SetTable.has at h
 let d:tY b j=i:=by
  let z||z||z:=Nat.lt_trichotomy (tY b j) i
  ·have o:=B.hi _ () (zp (tY b j));let l:=f (tY b j) i () a z
   lia
  ·show z
  ·have:=B.lo i a z
   ext
 rw[d,uj a,e]at h;simp at h
theorem LP{d}(b)(p)(x:d):(SetTable.insertAt b p x).33=b.toList.12 p++x::b.toList.drop p:=by
 unfold SetTable.insertAt;simp;show take_of_length_le (_)
def UX(l:List Nat):Prop:=l.69 (· < ·)
theorem OV:Hm b ↔ UX b.33:=by
 unfold UX;rw[vk];rfl
theorem OW(g:Hm f)(x:∀i(h:i<f.22),f[i]≠j):Hm (SetTable.insertAt f (tY f j) j):=by
 let B:=Hn g j;rw[OV]at g ⊢;rw[LP];generalize tY f j=k at B;unfold UX at g ⊢;let q:=g;rw[←take_append_drop k f.33,List.pairwise_append]at q;let(u,v,r):=q;rw[List.pairwise_append,pairwise_cons];show(u,(λy t=>?_,v),λa p b l=>?_)
 ·let(i,e,rfl):=List.getElem_of_mem t;rw[List.length_drop]at e;let d:k+i<f.22:=by have:f.64=f.22:=uA;lia
  have:=B.hi (k+i) d ();let z:=x (k+i) d;simp
  lia
 ·have o:a<j:=by
   let(i,e,rfl):=List.getElem_of_mem p;rw[zr]at e;let d:i<f.22:=by have:f.64=f.22:=uA;lia
   have:=B.lo i d ();simpa using this
  let rfl||l:=mem_cons.mp l
  ·show o
  ·show r a p b l
theorem P6(n):Hm (Array.range n):=λi j a d h=>by ext
structure Ho(t:SetTable)(n:Nat):Prop where
 fits:t.90 n=L
 rise:Hm t.place
 nod:t.dummies=#[]
theorem Wm{t:SetTable}(h:t.slot j=.empty)(b:Hm t.place):∀i(h:i<t.place.22),t.place[i]≠j:=by
 apply Yj b;unfold SetTable.slot at h;unfold SetTable.has
 grind
theorem UY(j):SetTable.has #[] j=O:=by
 rfl
theorem P7{t:SetTable}(a:t.dummies=#[]):t.slot j≠ .dummy:=by
 unfold SetTable.slot;rw[a,UY]
 lia
theorem Sl(t:SetTable)(p):(t.advance p).dummy=p.dummy:=by
 unfold SetTable.advance
 grind
theorem OX(l:t.dummies=#[]):∀a p{j}{d},p.dummy=J->SetTable.probe.go t hashAt h a p=U (.empty j d)->d=J/\t.slot j=.empty
 |0,p,j,d,q,e=>by trivial
 |a+1,p,j,d,q,e=>by
  rw[SetTable.probe.go]at e;cases o:t.slot p.j with
  |empty=>
   ext
  |dummy=>show absurd o (P7 l)
  |live i=>
   rw[o]at e;simp only at e;split at e
   ·cases e
   ·show OX l a _ (by rwa[Sl]) e
theorem Wn{t:SetTable}(f:Hm t.place)(l:t.dummies=#[])(e:t.freeSlot h=U (j,(wd))):(∀i(h:i<t.place.22),t.place[i]≠j)/\wd=O:=by
 unfold SetTable.freeSlot at e;cases q:t.probe (λ_=>h+1) h (t.probeStart h)with
 |none=>ext
 |some m=>
  rw[q]at e;cases m with
  |candidate a b c=>cases e
  |empty a b=>
   let(rfl,d):=OX l _ _ rfl q;cases e;show(Wm d f,Y)
theorem Hq(t:SetTable)(n):Ho (t.standIn n) n/\(t.standIn n).led=t.led:=((SetTable.standIn_fits t n,P6 n,rfl),rfl)
theorem P8{t:SetTable}(n)(b:Hm t.place)(a:t.dummies=#[]):Ho (t.orStandIn n) n/\(t.orStandIn n).led=t.led:=by
 unfold SetTable.orStandIn;split
 ·rename_i h;show((h,b,a),Y)
 ·show Hq t n
theorem Sm(h)(x)(T:Ho t b.22):Ho (layNew t b h x).2.1 (layNew t b h x).1.size/\(layNew t b h x).2.1.led=t.led:=by
 unfold layNew;cases e:t.freeSlot h with
 |none=>
  have:=Hq t (b.22+1);simpa using this
 |some q=>
  let(j,wd):=q;let(a,_):=Wn T.rise T.nod e
  show P8 _ (OW T.rise a) (by
   change(if SetTable.has t.dummies j=L then _ else t.dummies)=#[];rw[T.nod]
   rfl)
theorem Sn(f:Nat->Option Nat)(n):Hm (((uP n).35 λj=>(f j).7 λx=>(j,(x))).7 (·.1)).11:=by
 rw[OV];change List.Pairwise _ _;rw[pairwise_map,List.pairwise_filterMap];show List.Pairwise.imp ?_ (List.pairwise_lt_range)
 ext
theorem OY(n)(T:Ho t b.22):Ho (relayAll t b n).2.1 (relayAll t b n).1.size/\(relayAll t b n).2.1.led=t.led:=by
 unfold relayAll;cases e:t.relaid (b.7 (·.1)) n with
 |none=>show Hq t b.22
 |some q=>
  let(l,d):=q;simp only;split
  ·rename_i h;rw[tA]at h;let(a,_,i):=Option.bind_eq_some_iff.mp e;cases i;show((h.2,Sn (λj=>a.44 j J) _,Y),Y)
  ·show Hq t b.22
theorem UZ(b)(T:Ho t n):Ho {t with plain:=b} n:=(T.90,T.rise,T.nod)
theorem Ua(a b)(d):Ho (SetTable.fresh a b d) 0:=(by rfl,λi j e _ _=>absurd e (Nat.not_lt_zero _),rfl)
end
section
variable {prog:Program}{ω:Type} [DecidableEq ω]
structure lZ(knd:KeyKind prog w ω)(k:ω)(e:Int×Value):Prop where
 is:knd.is k e.2=L
 hs:e.1=knd.hash k
 sc:e.2.scannable=L
def iM(b:KeyKind prog w ω)(h:Heap)(a:nq)(d:List ω)(f:Bool):Prop:=
 ∃(o:Obj)(g:Array (Int×Value))(ep:Nat)(t:SetTable)(i:List ω),h.14 a=U o/\o.ExactSet/\o.34=.set g ep t/\Ho t g.22/\t.led=f/\i.Perm d/\Paired (lZ b) i g.33/\g.22<scanBound
theorem So{w}{b:KeyKind prog w ω}{i}{d}(h:Paired (lZ b) i d):ElemsOf b d:=by
 induction h with
 |nil=>intro e a;cases a
 |cons r t j=>
  intro e a;let rfl||a:=mem_cons.mp a
  ·show((_,r.is,r.hs),r.sc)
  ·show j e a
theorem OZ:∀{a:List ω}{d},Paired (lZ b) a d->(d.findIdx? (λe=>b.is k e.2)).24=decide (k∈a)
 |_,_,tO=>rfl
 |k'::a,e::d,tP r t=>by
  rw[List.findIdx?_cons]
  let h:b.is k e.2=decide (k=k'):=by
   cases q:b.is k e.2 with
   |true=>rw[b.inj _ _ _ q r.is,zI rfl]
   |false=>
    symm
    show zL λz=>?_;rw[z,r.is]at q;cases q
  rw[h];by_cases z:k=k'
  ·rw[zI z,z];simp
  ·rw[zL z,zg qc];have:=OZ (k:=k) t;simp[Option.isSome_map,this,mem_cons,z,false_or]
theorem Oa(p:e.Perm b):∀{d:List ω},Paired (lZ f) d b->∃a,a.Perm d/\Paired (lZ f) a e:=by
 induction p with
 |nil=>grind
 |cons x p q=>
  intro d h;cases h with
  |cons r t=>
   let(a,j,i):=q t;show(_::a,j.cons _,tP r i)
 |swap x y l=>
  intro d h;cases h with
  |cons r t=>
   cases t with
   |cons v t=>show(_::_::_,List.Perm.swap ..,tP v (tP r t))
 |trans z A o u=>
  grind
theorem iM.put{h:PySem.Heap}{o}(e:h.14 a=U o)(x:o.ExactSet)(d:o.34=.set r ep t){i}{b}{j:List ω} 
  (T:Ho b i.22) (l:b.led=s) (p:j.Perm m) (q:Paired (lZ g) j i.33) (f:i.22<scanBound):iM g (h.61 a (Obj.putSet i b)) a m s:=by
 show(_,i,ep+1,b,j,zR _ e (by rw[putSet_of i b d];rfl),?_,?_,T,l,p,q,f)
 ·rw[putSet_of i b d];show(x.1,x.2.1,x.2.2)
 ·rw[putSet_of i b d]
theorem c9{s}{j:KeyKind prog w ω}{u}{x}{Q}(hx:j.is k x=L)(C:x.scannable=L)(hS:iM j s.16 a u m)(hn:u.9+1<scanBound)
  (h1:k∈u->Q O s) (h2:k∉ u->∀f,uG a s.16 f->iM j f a (k::u) m->Q L {s with heap:=f}):wpAny (model prog w) A (setAddHashed a x (j.hash k)) Q E s:=by
 obtain⟨o,y,ep,t,aM,e,B,d,T,hl,p,q,hs⟩:=hS;have el:=So q
 have gl:y.22=u.9:=by
  have:=q.9;rw[←p.65,this];simp
 apply zH;refine zo (wpAny_setState_of e d T.90 ?_);refine show wpAny _ _ (if byScan x y=L then _ else _) _ _ _ from ?_;rw[zf (byScan_of C hs el)];apply zo;apply zo
 wp_step
 refine zo (wpAny_setScan_of hx e d T.90 el ?_);have R:=OZ (k:=k) q;cases al:y.toList.findIdx? (λe=>j.is k e.2)with
 |some a1=>
  rw[al]at R;have hm:=p.mem_iff.mp (zS R.31);exact zn (zn (h1 hm))
 |none=>
  rw[al]at R;obtain⟨D,X⟩:=Sm (j.hash k) x T;have p1:=layNew_perm t y (j.hash k) x
  have hq:∃ab,ab.Perm (k::u)/\Paired (lZ j) ab (layNew t y (j.hash k) x).1.toList:=by
   have aC:Paired (lZ j) (aM++[k]) (y.71 (j.hash k,(x))).33:=by
    rw[Array.toList_push];exact we q (hx,Y,C)
   obtain⟨k2,q2,mu⟩:=Oa p1 aC;exact(k2,q2.6 ((List.perm_append_comm).6 (p.cons k)),mu)
  have r:(layNew t y (j.hash k) x).1.size<scanBound:=by
   have:=p1.65;rw[uA,uA,Array.size_push]at this
   lia
  rw[hl]at X;generalize layNew t y (j.hash k) x=as at D X hq r ⊢;obtain⟨h,t1,wd,gv⟩:=as;obtain⟨a2,G,M⟩:=hq;have r:h.22<scanBound:=r
  have I:∀t2,Ho t2 h.22->t2.led=m->∀g:Bool->Sem Unit,(∀b i F,F ux i->wpAny (model prog w) A (g b) F E i) ->
    wpAny (model prog w) A (do storeSet a h t2;if (!wd&&t2.tooFull)=L then (do g (relayAll t2 h (uT h.22)).2.2;storeSet a (relayAll t2 h (uT h.22)).1 (relayAll t2 h (uT h.22)).2.1;pure (U L))else pure (U L)) (λb v=>b=U L/\∃f,uG a s.16 f/\iM j f a (k::u) m/\v={s with heap:=f}) E s:=λt2 T2 ag g hg=>by
   refine zo (wpAny_storeSet_of e d ?_ (fits_of_scanBound r));have B1:uG a s.16 (s.heap.61 a (Obj.putSet h t2)):=uK _ _ _;split
   ·refine zo (hg _ _ _ ?_);have e1:(s.heap.61 a (Obj.putSet h t2)).14 a=U (Obj.putSet h t2 o):=zR _ e (by rw[putSet_of h t2 d];rfl);have d1:(Obj.putSet h t2 o).34=.set h (ep+1) t2:=by rw[putSet_of h t2 d]
    have x1:(Obj.putSet h t2 o).ExactSet:=by rw[putSet_of h t2 d];exact(B.1,B.2.1,B.2.2)
    obtain⟨T3,l3⟩:=OY (uT h.22) T2;have p3:=relayAll_perm t2 h (uT h.22)
    have H:(relayAll t2 h (uT h.22)).1.size<scanBound:=by
     have:=p3.65;rw[uA,uA]at this
     lia
    obtain⟨k3,q3,a0⟩:=Oa p3 M;exact zo (wpAny_storeSet_of e1 d1 (zn (Y,_,B1.6 (uK _ _ _),iM.put e1 x1 d1 T3 (l3.6 ag) (q3.6 G) a0 H,Y)) (fits_of_scanBound H))
   ·exact zn (Y,_,B1,iM.put e B d T2 ag G M r,Y)
  have aR:∀{b:Option Bool}{v:nr},(b=U L/\∃f,uG a s.16 f/\iM j f a (k::u) m/\v={s with heap:=f})->wpAny (model prog w) A (match b with|some ar=>pure ar|none=>setAddHashedIn a x (j.hash k) 99999) Q E v:=λ{b v}S=>by
   obtain⟨rfl,f,an,az,rfl⟩:=S;exact zn (h2 (λz=>absurd (p.mem_iff.49 z) (of_decide_eq_false R.31)) f an az)
  refine zm ?_ (λb v S=>aR S) (λ_ _ z=>z)
  have P:∀b i F,F ux i->wpAny (model prog w) A (match b with|true=>rule qK |false=>pure ux) F E i:=λb i F N=>by
   cases b
   ·exact zn N
   ·wp_step
    exact N
  refine zo (P gv s _ ?_)
  have go:∀l,wpAny (model prog w) A (do storeSet a h (if l=L then t1 else {t1 with plain:=O});if (!wd&&(if l=L then t1 else {t1 with plain:=O}).tooFull)=L then (do (match (relayAll (if l=L then t1 else {t1 with plain:=O}) h (uT h.22)).2.2 with|true=>rule qK |false=>pure ux);storeSet a (relayAll (if l=L then t1 else {t1 with plain:=O}) h (uT h.22)).1 (relayAll (if l=L then t1 else {t1 with plain:=O}) h (uT h.22)).2.1;pure (U L))else pure (U L)) (λb v=>b=U L/\∃f,uG a s.16 f/\iM j f a (k::u) m/\v={s with heap:=f}) E s:=λl=>by
   cases l
   ·exact I _ (UZ O D) X _ P
   ·exact I _ D X _ P
  split
  ·rw[hashByValue_scannable 8 C];exact zo (zn (go _))
  ·exact go L
end
mutual
noncomputable abbrev Mx(w:World):Bool:=!w.38 pK
noncomputable def Ub(P:Program)(w:World)(a:nq)(b:List Key):HO:=.e λh=>iM (Ag P w) h a b (Mx w)
theorem Yk(b:iM (Ag P w) h a f (Mx w)):hO P w H h a (Ub P w a f):=by
 show(b,?_,λp q i j=>?_)
 ·let(o,_,_,_,_,e,_):=b;show(o,e)
 ·let(o,l,ep,t,d,e,r):=i;show(o,l,ep,t,d,j _ e,r)
theorem Yl(d:iG P w H h)(e:H a=U (Ub P w a b)):iM (Ag P w) h a b (Mx w):=(d a _ e).1
open Classical in
noncomputable def Ob(acc:List Key)(k:Key):List Key:=if k∈acc then acc else k::acc
theorem Uc(h:(Ag P w).is k v=L):v.scannable=L:=by
 cases v<;>first|rfl| (cases k<;>cases h)
theorem Sq(e:h.14 d=U {cls:=sW sI,data:=.set #[] 0 (SetTable.fresh 0 0 (Mx w))}):iM (Ag P w) h d [] (Mx w):=
 (_,#[],0,_,[],e,(rfl,rfl,rfl),rfl,Ua _ _ _,rfl,List.Perm.refl _,tO,qc)
theorem fY:Slot pC "__next__" qk:=
 .of (by rfl) (by rfl) (by rfl) (by rfl)
  (_) (by rfl)
theorem CI:entryFor table qk=U Builtin.«set_iterator.__next__»:=entryFor_of_tree (by rfl)
theorem CT(a):argsOk qk ([a],[]):=by kernel_rfl
theorem KQ:entryFor table "set.__iter__"=U Builtin.«frozenset.__iter__»:=entryFor_alias (id':="frozenset.__iter__") qd (by rfl) qb qd
theorem Gw{d:Type}:∀(b:List d)i h,(b[i]::b.eraseIdx i).Perm b
 | [],i,h=>absurd h (_)
 |x::r,0,h=>List.Perm.refl _
 |x::r,i+1,h=>(List.Perm.swap ..).6 ((Gw r i (_)).cons x)
def jP(h:Heap)(I a:nq)(first:Value)(i n ep:Nat):Prop:=∃o,h.14 I=U o/\o.83=sW pC /\ o.34=tN #[first,tV i 0,sR a,tV n 0,tV ep 0]
theorem jP.typeIs{s:PySem.Shared}(x:jP s.16 I a first i n ep):s.TypeIs (sR I) pC:=by let(o,e,d,_):=x;show (o,e,d)
theorem My(e:n≠0)(h:∀i d,i<n->Q i {s with drawn:=d}):wpAny (model prog w) A (choose b n) Q E s:=λΓ p a=>(e,h _ _ (Nat.mod_lt _ ()))
theorem FA{g}:∀n(b:List g)s{Q},b.9<=n->(∀f d,List.Perm f b->Q f {s with drawn:=d})->wpAny (model prog w) A (drawOrder n b) Q E s
 |0,b,s,Q,l,h=>by
  let e:=List.length_eq_zero_iff.mp (Nat.le_zero.mp l);subst e;unfold drawOrder;show zn (h _ s.drawn (_))
 |n+1,[],s,Q,l,h=>by
  show zn (h _ s.drawn (_))
 |n+1,x::r,s,Q,l,h=>by
  show zo (My (_) λi d j=>?_);rw[z7 j]
  let a:((x::r).eraseIdx i).9<=n:=by
   rw[List.length_eraseIdx,zf j]
   ext
  show zo (FA n _ _ a λf p o=>zn (h _ p ((o.cons _).6 (Gw _ _ j))))
theorem RF{b}(next):∀a k(left:List b)d,left.9<=a->(pickOrder.go next a k left d).toList.Perm (d.33++left)
 |0,k,left,d,h=>by
  let e:=List.length_eq_zero_iff.mp (Nat.le_zero.mp h);subst e;unfold pickOrder.go;simp
 |a+1,k,[],d,h=>by
  unfold pickOrder.go;simp
 |a+1,k,x::r,d,h=>by
  unfold pickOrder.go;let j:next k%(x::r).9<(x::r).9:=Nat.mod_lt _ (_)
  rw[z7 j]
  let i:((x::r).eraseIdx (next k%(x::r).9)).9<=a:=by
   rw[List.length_eraseIdx,zf j]
   ext
  apply (RF next a (k+1) _ _ i).6;rw[Array.toList_push,append_assoc];show(Gw _ _ j).append_left _
theorem MD{d}(next)(b:Array d):(pickOrder next b).toList.Perm b.33:=by
 show(RF next b.22 0 b.33 #[] (_)).6 (_)
theorem Hr{s}{w}{x}{a}{prog}{I}{g nx i n ep:Nat}{o}{b}{t}(f:jP s.16 I a (tV g 0) i n ep)(m:s.3 a=U o)(hd:o.34=.set b ep t)(l:t.90 b.22=L)(p:b.22=n)
  (h:∀{A}{E:VS}{Q},Q (U (x,(nx))) s->wpAny (model prog w) A (setNext a g i ep) Q E s)
  (j:∀d,jP d I a (tV nx 0) (i+1) n ep->uG I s.16 d->Q (U x) {s with heap:=d}):wpAny (model prog w) A (pyNext (sR I)) Q E s:=by
 let(oi,hoi,hci,hdi):=id f
 show zo (wpAny_attempt (wpAny_callSpecial?_slot f.43 fY
  (wpAny_call_entry fY f.43 CI ?_ (CT _))))
 show zo (zn ?_);show zo (wpAny_fieldsOf hoi hdi (zo (wpAny_setEntries_of m hd l ?_)));rw[zg (_)];show zo (h (zo (wpAny_setField hoi hdi (_) ?_)));let r:=zR (ur (·.20 0 (rawInt nx))) hoi (uw (tU hdi _));let q:=tU hdi (·.20 0 (rawInt nx));show zo (wpAny_setField r q (_) ?_);show zn (7,zn (j _ (_,zR _ r (uw (tU q _)),(Obj.cls_mapFields ..).6 ((Obj.cls_mapFields ..).6 hci),by rw[tU q];rfl) ((uK ..).6 (uK ..))))
theorem Jc{s}{w}{a}{prog}{I}{g i n ep:Nat}{o}{b}{t}(m:A.41=J)(d:jP s.16 I a (tV g 0) i n ep)(p:s.3 a=U o)(hd:o.34=.set b ep t)(l:t.90 b.22=L)(q:b.22=n)
  (h:∀{A}{E:VS}{Q},Q J s->wpAny (model prog w) A (setNext a g i ep) Q E s)
  (j:∀f,Heap.ExtBut I s.16 f->Q J {s with heap:=f}):wpAny (model prog w) A (pyNext (sR I)) Q E s:=by
 let(oi,hoi,hci,hdi):=id d
 show zo (wpAny_attempt (wpAny_callSpecial?_slot d.43 fY
  (wpAny_call_entry fY d.43 CI ?_ (CT _))))
 show zo (zn ?_);show zo (wpAny_fieldsOf hoi hdi (zo (wpAny_setEntries_of p hd l ?_)));rw[zg (_)];show zo (h (zo (wpAny_setField hoi hdi (_) ?_)));apply zo;show zo (wpAny_newObj_type (zo (wpAny_of_eq (by rfl) ?_)) (by size_fits));show wpAny_newObj_type (zo (wpAny_handled ?_)) (by size_fits);rw[show A.in1.41=J from m];show zo (zn (wpAny_throw ?_));show zo (wpAny_isInstance (_,zK _ Y,Y) isSubtype_stop ?_);show zn (j _ (((uK ..).extBut.71 _).71 _))
theorem Mz{s}{w}{A}{x}{a}{E:VS}{prog}{I}{i n ep}{o}{j}{t}{Q}{T}{u}{tp}{m pl:Nat}{B}(e:jP s.16 I a (sR T) i n ep)(r:s.3 a=U o)(v:o.34=.set j ep t)(q:t.90 j.22=L)(F:j.22=n)
  (z:s.3 T=U u) (p:u.34=uW tp m) (y:tp[i]?=U (tV pl 0)) (C:j[pl]?=U (B,(x)))
  (D:∀b,jP b I a (sR T) (i+1) n ep->uG I s.16 b->Q (U x) {s with heap:=b}):wpAny (model prog w) A (pyNext (sR I)) Q E s:=by
 let(G,h,l,d):=id e
 show zo (wpAny_attempt (wpAny_callSpecial?_slot e.43 fY
  (wpAny_call_entry fY e.43 CI ?_ (CT _))))
 show zo (zn ?_);show zo (wpAny_fieldsOf h d (zo (wpAny_setEntries_of r v q ?_)));rw[zg (_)];apply zo;show zo (wpAny_load z ?_);rw[p];apply zn
 dsimp only
 rw[vD,y];show zo (zo (wpAny_setState_of r v q ?_))
 dsimp only
 rw[zg (_),vD,C];apply zn;show zo (wpAny_setField h d (_) ?_);show zn (7,zn (D _ (_,zR _ h (uw (tU d _)),(Obj.cls_mapFields ..).6 l,by rw[tU d];rfl) (uK ..)))
theorem Oc(B:A.41=J)(e:jP s.16 I a (sR T) i n ep)(u:s.3 a=U o)(x:o.34=.set l ep t)(p:t.90 l.22=L)(C:l.22=n)
  (r:s.3 T=U v) (j:v.34=uW tp m) (q:tp[i]?=J)
  (y:∀b,Heap.ExtBut I s.16 b->Q J {s with heap:=b}):wpAny (model prog w) A (pyNext (sR I)) Q E s:=by
 let(D,h,z,d):=id e
 show zo (wpAny_attempt (wpAny_callSpecial?_slot e.43 fY
  (wpAny_call_entry fY e.43 CI ?_ (CT _))))
 show zo (zn ?_);show zo (wpAny_fieldsOf h d (zo (wpAny_setEntries_of u x p ?_)));rw[zg (_)];apply zo;show zo (wpAny_load r ?_);rw[j];apply zn
 dsimp only
 rw[vD,q];show zo (wpAny_setField h d (_) (zo (wpAny_setField (zR (ur (·.20 0 (rawInt 0))) h (uw (tU d _))) (tU d (·.20 0 (rawInt 0))) (_) ?_)));apply zo;show zo (wpAny_newObj_type (zo (wpAny_of_eq (by rfl) ?_)) (by size_fits));show wpAny_newObj_type (zo (wpAny_handled ?_)) (by size_fits);rw[show A.in1.41=J from B];show zo (zn (wpAny_throw ?_));show zo (wpAny_isInstance (_,zK _ Y,Y) isSubtype_stop ?_);show zn (y _ ((((uK ..).6 (uK ..)).extBut.71 _).71 _))
theorem FB:Slot pC "__iter__" qo:=
 .of (by rfl) (by rfl) (by rfl) (by rfl)
  (_) (by rfl)
theorem Im:entryFor table qo=U Builtin.«dict_keyiterator.__iter__»:=entryFor_alias (id':="dict_keyiterator.__iter__") qd (by rfl) qb qd
theorem Jk(a):argsOk qo ([a],[]):=by kernel_rfl
theorem jP.at(x:jP h I a first i n ep)(e:∀o,h.14 I=U o->b.14 I=U o):jP b I a first i n ep:=by let(o,d,r):=x;show (o,e _ d,r)
theorem P9(d:jP s.16 I a first i n ep)(h:Q (sR I) s):wpAny (model prog w) A (pyIter (sR I)) Q E s:=by
 show wpAny_pyIter_slot d.43 FB (wpAny_call_entry FB d.43 Im (zn (7,pC,_,d.43,fY.5,h)) (Jk _))
theorem Io{G:Nat->Value->Prop}{vs:nj}(B:a≠I)(y:T≠I)
  (u:∀i s first,i<n->s.3 a=U o->s.3 T=U F->jP s.16 I a first i n ep->G i first->∀Q(E:VS),(∀d m v,vs[i]?=U v->jP m I a d (i+1) n ep->G (i+1) d->uG I s.16 m->Q (U v) {s with heap:=m})->wpAny (model prog w) A (pyNext (sR I)) Q E s)
  (t:∀s first,s.3 a=U o->s.3 T=U F->jP s.16 I a first n n ep->G n first->∀Q(E:VS),(∀m,Heap.ExtBut I s.16 m->Q J {s with heap:=m})->wpAny (model prog w) A (pyNext (sR I)) Q E s):
  WalksS prog w A I [I,a,T] [I] (λa b=>b=a) n (λi v=>vs[i]?=U v) (λi s=>s.3 a=U o/\s.3 T=U F/\∃first,jP s.16 I a first i n ep/\G i first) where
 sub:=λb q=>by ext
 grefl:=λ_=>rfl
 gtrans:=λ_ _ _ P X=>X.6 P
 frame:=λi s m S st _ C=>(C a (_) _ st.1,C T (_) _ st.2.1,by let(f,x,g):=st.2.2;show (f,x.at λo e=>C I (_) o e,g))
 item:=λi s Q E ab st j=>by
  let(r,p,first,h,g):=st;show u i s first ab r p h g Q E λd m v N l M D=>j v _ N ((D.2 a B).6 r,(D.2 T y).6 p,d,l,M) (λb H q e=>(D.2 b (λz=>q (by simp[z]))).6 e,Y,Y,Y,zp _)
 done:=λs Q E st j=>by
  let(r,p,first,h,g):=st;show t s first r p h g Q E λm R=>j _ (λb H q e=>R b H (λz=>q (by simp[z])) e,Y,Y,Y,zp _)
 self:=λi s Q E st j=>by let(_,_,f,x,_):=st;show P9 x j
theorem QA(d:Hm b):tY b 0=0:=by
 let B:=Hn d 0;let h||h:=um (tY b 0)
 ·show h
 ·show absurd (B.lo 0 (zY h B.le) h) (_)
theorem QB(f:Hm b)(d:i<b.22):tY b (b[i]+1)=i+1:=by
 let B:=Hn f (b[i]+1)
 let j:i<tY b (b[i]+1):=by
  let h||h:=Nat.lt_or_ge i (tY b (b[i]+1))
  ·show h
  ·show absurd (B.hi i d h) ()
 let l:tY b (b[i]+1)<=i+1:=by
  let h||h:=Nat.lt_or_ge (i+1) (tY b (b[i]+1))
  ·have a:=zY h B.le;let e:=B.lo (i+1) a h;let o:=f i (i+1) d a (_)
   lia
  ·show h
 lia
theorem MF(p:s.3 a=U o)(j:o.34=.set l ep t)(d:t.90 l.22=L)(b:w.38 pK=L)
  (h:Q ((pickOrder (w.52 a ep) l)[i]?.7 λe=>(e.2,(f))) s):wpAny (model prog w) A (setNext a f i ep) Q E s:=by
 show zo (wpAny_setState_of p j d (zo (zo (wpAny_askSetting (zn ?_)))));change wpAny _ _ (if w.38 pK=L then _ else _) _ _ _;rw[zf b,zg (_)];show zo (zo (wpAny_setState_of p j d (zo (zo (wpAny_askSetting (zn ?_))))));change wpAny _ _ (if w.38 pK=L then _ else _) _ _ _;rw[zf b];show zo (wpAny_askSetting (zn (zn h)))
theorem MH(p:s.3 a=U o)(l:o.34=.set d ep t)(e:t.90 d.22=L)(f:w.38 pK=O)(r:t.led=L)(q:(!t.plain&&decide (d.22>1))=O)
  (h:Q (match d[tY t.place b]?,t.place[tY t.place b]? with|some (_,x),U j=>U (x,(j+1))|_,_=>J) s):wpAny (model prog w) A (setNext a b i ep) Q E s:=by
 refine zo (wpAny_setState_of p l e (zo (zo (wpAny_askSetting (zn ?_)))));refine show wpAny _ _ (if w.38 pK=L then _ else _) _ _ _ from ?_;rw[zg (by simp_all)];refine show wpAny _ _ (if (!t.plain&&decide (d.22>1))=L then _ else _) _ _ _ from ?_;rw[zg (by simp[*])];refine show wpAny _ _ ((if (!t.led && !d.99)=L then unsupported _ else pure ux) >>= _) _ _ _ from ?_;rw[zg (by simp_all)];exact zo (zn (zn h))
theorem QC{g j:Type}(a:Array g)(f)(z:j){b:List Nat}(e:b.Perm (uP a.22)):(b.7 λi=>(a[i]?.7 f).44 z).Perm (a.95 f):=by
 show(e.7 _).6 (List.Perm.of_eq (List.ext_getElem (_) λi h d=>?_));simp at h d;simp[d]
theorem QD(hx:o.ExactSet)(j:s.3 a=U o)(hd:o.34=.set g ep t)(h:Ho t g.22)(hl:t.led=Mx w)(hb:g.22<scanBound)
  (m:∀l d I fp(vs:nj)St,vs.Perm (g.95 (·.2))->(∀A,A.41=io->WalksS prog w A I fp [I] (λa b=>b=a) g.22 (λi aM=>vs[i]?=U aM) St)->St 0 {s with heap:=l,drawn:=d} ->
   (∀b o,s.3 b=U o->l.14 b=U o)->s.8<=I->(∀b∈fp,b=a\/s.8<=b)->as (sR I) {s with heap:=l,drawn:=d}):
  wpAny (model prog w) A (pyIter (sR a)) as aR s:=by
 let hT:s.TypeIs (sR a) sI:=(o,j,hx.1);let f8:=lt_size j
 let a0:t.place.22=g.22:=by
  have:=h.90;unfold SetTable.fits at this;simp at this;show this.1
 show wpAny_pyIter_slot hT slot_set_iter (wpAny_call_entry slot_set_iter hT KQ (zo (zn ?_)) (args_set_iter_1 _));show zo (zo (wpAny_setEntries_of j hd h.90 (zn (zo (zo (wpAny_setState_of j hd h.90 ?_))))));show zo (zo (wpAny_askSetting (zn (zn ?_))));change wpAny _ _ (if (!w.38 pK && (!t.plain&&decide (g.22>1)))=L then _ else _) _ _ _;cases E:w.38 pK with
 |true=>
  show zo (zn ?_);show zo (wpAny_setEpoch_of j hd h.90 (zo (wpAny_newObj_type (zn (7,pC,_,(_,zK _ Y,Y),fY.5,?_)))));let v:=zu f8
  let a1:(pickOrder (w.52 a ep) g).22=g.22:=by
   have:=(MD (w.52 a ep) g).65;simpa using this
  show m _ s.drawn _ [s.8,a,a] ((pickOrder (w.52 a ep) g).95 (·.2)) _ ((MD _ g).7 _) (λA' B=>Io (G:=λi f=>f=tV 0 0) v v ?_ ?_) (zU _ j,zU _ j,_,(_,zK _ Y,Y,Y),Y) (λb o e=>zU _ e) (zp _) ?_
  ·rintro i H first hi p _ r rfl z y q
   let C:(pickOrder (w.52 a ep) g)[i]?=U (pickOrder (w.52 a ep) g)[i]:=uj (by omega);show Hr (x:=(pickOrder (w.52 a ep) g)[i].2) r p hd h.90 Y (λ{P Q R}T=>MF p hd h.90 E ?_) (λl D M=>q _ l _ ?_ D Y M)
   ·rwa[C]
   ext
  ·rintro H first p _ r rfl z y q
   let C:(pickOrder (w.52 a ep) g)[g.22]?=io:=Array.getElem?_eq_none ();show Jc B r p hd h.90 Y (λ{P Q R}T=>MF p hd h.90 E ?_) q
   rwa[C]
  simp[*]
 |false=>
  let ag:t.led=L:=by rw[hl];change(!w.38 pK)=L;rw[E];rfl
  cases hp:(!t.plain&&decide (g.22>1))with
  |false=>
   show zo (zn ?_);show zo (wpAny_setEpoch_of j hd h.90 (zo (wpAny_newObj_type (zn (7,pC,_,(_,zK _ Y,Y),fY.5,?_)))));let v:=zu f8;show m _ s.drawn _ [s.8,a,a] (g.95 (·.2)) _ (_) (λA' B=>Io (G:=λi f=>∃N:Nat,f=tV N 0/\tY t.place N=i) v v ?_ ?_) (zU _ j,zU _ j,_,(_,zK _ Y,Y,Y),0,Y,QA h.rise) (λb o e=>zU _ e) (zp _) ?_
   ·rintro i H first hi p _ r ⟨N,rfl,ab⟩ z y q
    let C:=uj hi;let ku:i<t.place.22:=by lia
    show Hr (x:=g[i].2) r p hd h.90 Y (λ{P Q R}T=>MH p hd h.90 E ag hp ?_) (λl D M=>q _ l _ ?_ D (7,QB h.rise ku) M)
    ·rwa[ab,C,uj ku]
    ext
   ·rintro H first p _ r ⟨N,rfl,ab⟩ z y q
    show Jc B r p hd h.90 Y (λ{P Q R}T=>MH p hd h.90 E ag hp ?_) q
    rwa[ab,Array.getElem?_eq_none (zp _)]
   ext
  |true=>
   show zo (FA _ _ _ (_) λu d S=>?_);let a2:u.9=g.22:=by rw[S.65];simp
   let h4:scanBound=4096:=rfl;show zo (wpAny_newObj_type ?_ (by size_fits));let al:(s.19 {cls:=sW oB,data:=uW (u.7 λ(i:Nat)=>rawInt i).11}).14 a=U o:=zU _ j;show zo (wpAny_setEpoch_of al hd h.90 (zo (wpAny_newObj_type (zn (7,pC,_,(_,zK _ Y,Y),fY.5,?_)))));let an:(s.19 {cls:=sW oB,data:=uW (u.7 λ(i:Nat)=>rawInt i).11}).10=s.8+1:=u9 _ _;let v:a≠(s.19 {cls:=sW oB,data:=uW (u.7 λ(i:Nat)=>rawInt i).11}).10:=by rw[an];show zu (_)
   let az:s.8≠(s.19 {cls:=sW oB,data:=uW (u.7 λ(i:Nat)=>rawInt i).11}).10:=by rw[an];show zu (_)
   show m _ d _ [(s.19 {cls:=sW oB,data:=uW (u.7 λ(i:Nat)=>rawInt i).11}).10,a,s.8] (u.7 λi=>(g[i]?.7 (·.2)).44 tj) _ (QC g _ _ S) (λA' B=>Io (G:=λi f=>f=sR s.8) v az ?_ ?_) (zU _ al,zU _ (zK _ Y),_,(_,zK _ Y,Y,Y),Y) (λb o e=>zU _ (zU _ e)) (_) ?_
   ·rintro i H first hi p X r rfl z y q
    let aC:u[i]'()<g.22:=by
     have:=S.mem_iff.mp (List.getElem_mem (n:=i) ());simpa using this
    show Mz r p hd h.90 Y X Y ?_ (uj aC) (λl D M=>q _ l _ ?_ D Y M)
    ·rw[List.getElem?_toArray,zx,z7 ()];rfl
    ext
   ·rintro H first p X r rfl z y q
    show Oc B r p hd h.90 Y X Y ?_ q
    ext
   ext
theorem Od{b f}{F}{o e:List f}(p:e.Perm o):∀{d:List b},Paired F d o->∃a,a.Perm d/\Paired F a e:=by
 induction p with
 |nil=>intro d h;show(d,List.Perm.refl _,h)
 |cons x p z=>
  intro d h;cases h with
  |cons r t=>
   let(a,A,C):=z t;show(_::a,A.cons _,tP r C)
 |swap x y l=>
  intro d h;cases h with
  |cons r t=>
   cases t with
   |cons B t=>show(_::_::_,List.Perm.swap ..,tP B (tP r t))
 |trans D G j i=>
  intro d h;let(E,q2,u):=i h;let(v,q1,q):=j u;show(v,q1.6 q2,q)
theorem KR{d}{a}(p:Paired (lZ (Ag P w)) d a):Paired (λk v=>RelV (kV k) v) d (a.7 (·.2)):=by
 induction p with
 |nil=>show tO
 |cons r _ ih=>show tP (Ef r.is) ih
theorem Wo:typeLookup (sW sI) si=pure (U (sV "set.__len__")):=by rfl
theorem Oe(f:A.41=J)(N:o.ExactSet)(g:s.3 a=U o)(hd:o.34=.set D ep t)(al:Ho t D.22)(hl:t.led=Mx ag)(r:D.22<scanBound)
  (m:∀C acc,(∀b o,s.3 b=U o->C.3 b=U o)->C.gens=s.gens->C.os=s.os->acc.Perm (D.95 (·.2))->Q acc C):
  wpAny (model prog ag) A (collect (sR a)) Q an s:=by
 let R:=lt_size g;let S:=zu R
 let hn:D.22<=sizeLine:=by
  let h4:scanBound=4096:=rfl;have:sizeLine=2^24:=rfl
  lia
 show zo (wpAny_runValue (codeAny_builtin entry_proto_collect ?_));show zo (wpAny_newObj_type (zn (plainId_quiet plain_list_iadd _,codeAny_builtin entry_list_iadd ?_)));change wpAny _ A.in1 (Builtin.List.listExtendWith (sR s.8) (sR a) (sR s.8)) _ _ _;let y:(s.19 {cls:=sW oq,data:=uW ([]).11}).14 a=U o:=zU _ g;show zo (wpAny_typeOf ((o,y,N.1)) ?_);let P:Builtin.List.listSameRef (sR s.8) (sR a)=O:=by simp[Builtin.List.listSameRef,sX S]
 let h2:(sW sI == sW oq)=O:=by decide
 let h3:(sW sI == sW oB)=O:=by decide
 simp[P,h2,Bool.or_false,if_false];show zo (QD N y hd al hl r λv d I fp vs St B W w keep hI ar=>?_);let z:Shared.TypeIs {s with heap:=v,drawn:=d} (sR a) sI:=(o,keep _ _ y,N.1);show zo (zH (zo (wpAny_specialOf z Wo ?_)))
 wp_delta
 show zo (wpAny_isInstance z (by rfl) (zo (wpAny_typeOf z ?_)));apply zn;let M:(s.19 {cls:=sW oq,data:=uW ([]).11}).10=s.8+1:=u9 _ _
 let F:s.8∉ fp:=λH=>by
  grind
 let X:=keep _ _ (zK _ rfl);show zo (wpAny_rule ?_);apply zo;show zo (wpAny_updateSeq X Y ?_);let l:=zR (u4 (·.71 tj)) X rfl;apply wpAny_updateSeq (hz:=by seq_fits) l rfl;let x:=zR (u4 (·.pop)) l rfl
 let G:∀b o,b≠s.8->v.14 b=U o->((v.61 s.8 (u4 (·.71 tj))).61 s.8 (u4 (·.pop))).14 b=U o:=
  λb o r e=>(zT _ _ (sX r)).6 ((zT _ _ (sX r)).6 e)
 show zn (plainId_quiet plain_extend_loop _,codeAny_extend_loopS (W A.in1 f) hn _ F _ D.22 0 _ _ _ Y (tH _) ((W A.in1 f).frame 0 {s with heap:=v,drawn:=d} _ s.57 w (zp _) λb r o e=>G b o (λh=>F (h ▸ r)) e) x (ItemsOf.nil _) λC j c' H T p=>zo (wpAny_load T ?_));show zn (m C j.33 (λb ob e=>H.16 b ob (λr=>?_) (G _ _ (zu (lt_size e)) (keep _ _ (zU _ e)))) H.gens H.os ?_)
 ·have u:=lt_size e;let h||h:=mem_cons.mp r
  ·show absurd u (h ▸ zy _)
  ·rw[zz.mp h]at u;let E:s.8+1<=I:=by rwa[←M]
   show absurd (zY u (Nat.le_of_succ_le E)) (zy _)
 ·have e:j.33=vs:=by
   show List.ext_getElem? λi=>?_;rw[ug];cases q:j[i]? with
   |none=>
    let hv:vs.9=D.22:=by rw[B.65];simp
    rw[Array.getElem?_eq_none_iff,p.1]at q;rw[List.getElem?_eq_none ()]
   |some ab=>show(p.2 i ab q).31
  rwa[e]
theorem Inv.went(I:Inv X g h H s)(k:∀b u,s.3 b=U u->f.3 b=U u)(d:f.gens=s.gens)(e:f.os=s.os):Inv X g h H f:=by
 let a:=I.75 (t':=f.57) k;show(a.ok,e.6 I.os,d ▸ I.74,a.base,a.loc,a.84,a.54,a.ie,a.pin,a.gA,a.50)
theorem RG(e:∀o,h.14 a=U o->b.14 a=U o)(x:iM (Ag P w) h a f g):iM (Ag P w) b a f g:=by
 let(o,i,ep,t,d,q,r):=x;show(o,i,ep,t,d,e _ q,r)
theorem Wp(acc)(k):acc.9<=(Ob acc k).9:=by
 unfold Ob;split
 ·show zp _
 ·show uX _
theorem FD 
    (i:codeAny (model prog w) A (.compLoop (.SetComp g ((p,iter,j,0)::o) scope m) 0 l acc d) R s)
    (h:wpAny (model prog w) A (pyIter l) (λf b=>codeAny (model prog w) A (.compLoop (.SetComp g ((p,iter,j,0)::o) scope m) 0 f acc d) R b)
      (notedBy (model prog w) A d λx b=>R (.error x) b) s):
    codeAny (model prog w) A (.compStart (.SetComp g ((p,iter,j,0)::o) scope m) 0 l acc d) R s:=by
  apply codeAny_of_tree;apply wpAny_notedAt;show zo (wpAny_askSetting (wpAny_ite ?_));split
  · first
      |show zo (zn (zn (And.intro rfl i)))
      |show zn (And.intro rfl i)
  · first
      |show zo (wpAny_rule (zo (zG (zo (zm h (λf b q=>zn (And.intro rfl q)) λ_ _ x=>x)))))
      | (show zo (wpAny_rule ?_);change wpAny _ _ (standAt iter.pos >>= _) _ _ s;show zo (zG (zo (zm h (λf b q=>zn (And.intro rfl q)) λ_ _ x=>x))))
theorem Of(h:(Ag prog w).is k x=L)(i:iM (Ag prog w) s.16 a f g)(u:f.9+1<scanBound)
  (j:k∈f->Q tj {s with toks:=s.57+1}) (l:k∉ f->∀b,uG a s.16 b->iM (Ag prog w) b a (k::f) g->Q tj {s with heap:=b,toks:=s.57+1}):
  wpAny (model prog w) A (call (sV "set.add") [sR a,x]) Q E s:=by
 let p:s.TypeIs (sR a) sI:=by
  let(o,z,ep,t,y,e,q,_):=id i;show(o,e,q.1)
 show wpAny_call_entry slot_set_add p entry_set_add ?_ (args_set_add_2 _ _);unfold Builtin.«set.add» Builtin.Frozenset.oneOther;simp only[List.isEmpty_nil,bind_assoc];show zo (zn (zo (zn ?_)));apply zo;show zH (zo ((Ag prog w).pyHash h (c9 h (Uc h) i u (λd=>?_) (λd b r v=>?_))))
 ·show zn (7,j d)
 ·show zn (7,l d b r v)
noncomputable abbrev aG(b:Expr)(D:nq)(d:Env):Sem Unit:=do
 let v ←eval b d
 standAt b.pos
 let _ ←call (sV "set.add") [sR D,v]
abbrev M0{d:Type}(b:List d):Prop:=b.9<=1000
abbrev taS(b:TE):TAd (List Key):=λf g H N=>b g H λy d=>∃k,y=kV k/\N (Ob f k) d
abbrev Ym(d:TI)(g:TG)(tt:TT)(b:TE):=Ii [] M0 d g tt (taS b)
abbrev RAs(P:Program)(w:World)(h:Heap)(D:nq)(b:List Key):Prop:=iM (Ag P w) h D b (Mx w)
theorem Ud:SJ P w (.SetComp b [(g,iter,f,0)] scope m) (newSet (sW sI)) g iter f (aG b) [] M0 (Ub P w) (RAs P w) where
 cl:=rfl
 new:=by
  refine({cls:=sW sI,data:=.set #[] 0 (SetTable.fresh 0 0 (Mx w))},rfl,(λv z=>nomatch z),λh D e=>Sq e,λA Q E s h=>zo (zo (wpAny_askSetting (zn ?_))));exact wpAny_newObj_type h
 turn:=λA o D i=>(rfl,rfl)
 start:=λA R s o D i j l=>FD j l
 at_:=λh t D a d q=>RG q d
 fin:=λH h D a p r d=>Yk d
theorem Wq(f:PE X g m):PAd X (aG g) M0 (RAs X.p X.w) (taS m):=by
 intro D P d F s w H N I a G ab q;show zo (gH (f _ s w H _ I q) λy R k=>?_);let(z,E,l,ag,j,Q,h):=k;subst Q;show zo (zG ?_);let hz:=ab _ _ h
 let x:d.9+1<scanBound:=by
  let h1:=Wp d j;have:4096=scanBound:=rfl
  lia
 let C:=RG (λo e=>by rw[I.jr.1]at e;cases e;show l.jr.1) G;show zo (Of (E8 ag) C x (λt=>?_) (λt h2 u i=>?_))
 ·have r:Ob d j=d:=by unfold Ob;rw[zf t]
  rw[r]at h;show zn (P,d,E,l.96 (R.57+1),C,h)
 ·have r:Ob d j=j::d:=by unfold Ob;rw[zg t]
  rw[r]at h;let(B,T,J,t2,S,q,M,A,p):=id i;show zn (B,_,E,l.reD a (λb x=>u.2 b x) q (λv z=>by rw[A]at z;cases z),i,h)
theorem Sr(e)(a)(r:JX X.37 scope X.N (x::e) (J::a)=L)(j:(x::e).26)(l:scope.13 x=U uo)(v:X.c=L)(t:PI X (tI x o) iter q)
  (ht:∀h s H C d i,k4 (CA X (x::e) scope h s H C d i) m tt) (u:∀h s H C d i,PE (CA X (x::e) scope h s H C d i) f w)
  (g:∀x,foldedSetIterable iter X.e x=pure x:=by intro _;rfl):
  PE X (.SetComp f [(tI x o,iter,m,0)] scope A) (λz H Q=>Ym q (Cl 0) tt w (J::a) (λy b=>∀p,b p=J->Q (.r p) (upd b p (Ub X.p X.w p y))) z H):=
 FN Ud De (gU.of r) (λ_ _ _ _ _ _=>v) t.g (λh s H C d i=>FM (BX j rfl (sU (z5 l)) (sY (z5 l)))) ht (λ_ _ _ _ _ _ _=>Wq (u _ _ _ _ _ _)) g rfl
theorem KS:∀{a},Vals (d.7 V.s) a->StrsAre a d:=by
 induction d with
 |nil=>intro a r;cases r;show .nil
 |cons x d i=>
  intro a r;cases r with
  |cons h t=>
   let(e,rfl):=(h);show .cons x e (i t)
theorem Gx{vs}{a}(h:StrsAre vs a):Vals (a.7 V.s) vs:=by
 induction h with
 |nil=>show tO
 |cons x t _ ih=>show tP (t,rfl) ih
theorem M6(f:X.c=L):gP X (sV rC) (λb H Q=>∃(a:nq)(j:ni),b=[.r a]/\H a=U (Ub X.p X.w a (j.7 sS))/\j.9<64 /\
  ∀l D,H l=J->D.Perm j->sortedS D=L->Q (.r l) (upd H l (.l (D.7 V.s)))):=by
 rintro ag az aM H b us Q I r ⟨a,j,rfl,s,as,q⟩;let(aC,rfl,ru):=Bq r;cases ru;let(o,ar,ep,t,ks',ho,hx,hd,ω,hl,hp,C,hb):=Yl I.gA s;apply wj kind_sorted plain_sorted entry_sorted (args_sorted1 _);show zo (zn (zo (Oe (I.66 f) hx ho hd ω hl hb λg acc keep u M z=>?_)));let(E,p2,Z):=Od z (KR C)
 let(B,e2):∃B:ni,E=B.7 sS:=by
  show⟨E.7 λk=>match k with|uE i=>"" |sS x=>x,?_⟩;rw[map_map];show(List.map_id E).92 (List.map_congr_left λk hk=>?_)
  grind
 subst e2
 let A:B.Perm j:=by
  have:=(p2.6 hp).7 (λk=>match k with|uE i=>("":Str)|sS x=>x);simpa[Function.comp_def]using this
 let d:StrsAre acc B:=by
  show KS (?_)
  have:∀{j:ni}{vs:nj},Paired (λk v=>RelV (kV k) v) (j.7 sS) vs->Vals (j.7 V.s) vs:=by
   intro j;induction j with
   |nil=>intro vs h;cases h;show tO
   |cons x r P=>intro vs h;cases h with|cons r t=>show tP r (P t)
  show this Z
 let f8:acc.9=j.9:=by
  rw[←A.65,←d.strs,AN]
 let w:acc.9<=sizeLine:=by
  have:sizeLine=2^24:=rfl
  lia
 show zo (wpAny_newList ?_ w);let R:=I.went keep u M;let p:(g.19 {cls:=sW oq,data:=uW acc.11}).14 g.8=U (seqObj oq acc.11 0):=zK _ rfl;show zo (zH (wpAny_call_entry slot_list_sort (_,p,Y) entry_list_sort (list_sort_treeK strKind_oneLt p d.keysOf (λS al ab e=>keyKind_strs (by rwa[←e])) () λG m F=>(7,zn (7,?_))) (args_list_sort _)));let(y,a1,T,a3):=sorted_out_str d m F;let N:y.9=acc.9:=by rw[T.65,←d.strs,AN]
 show(.r g.8,_,R.laid (o:=.l (y.7 V.s)) (λan o e=>?_) (zp _) (by simp_all,((arrOf G).7 (·.2)).33,?_),Y,q _ y (R.18 (zp _)) (T.6 A) a3)
 ·rw[sortedHeap_old (zu (lt_size e)) (lt_size (zU _ e))];show zU _ e
 ·let(c,hcx):=sortedHeap_at p;show(c,Gx a1,qe)
theorem DF(m:X.c=L):gP X (sV rC) (λg H Q=>∃(a:nq)(b:LK)(h:ni),g=[.r a]/\Rd H a (.d b)/\b.7 (·.1)=h.7 sS/\h.9<64 /\
  ∀l f,H l=J->f.Perm h->sortedS f=L->Q (.r l) (upd H l (.l (f.7 V.s)))):=by
 rintro D ab al H g us Q I r ⟨a,b,h,rfl,hd,y,az,q⟩;let(aC,rfl,ru):=Bq r;cases ru
 let A:b.9=h.9:=by
  have:=congrArg vO y
  rwa[AN,AN]at this
 let(a4,ag,vs,C,dd):=DK I.gA hd;let(ep,da):=dd.dictAt;let T:=C.9;apply wj kind_sorted plain_sorted entry_sorted (args_sorted1 _);show zo (zn (zo (W.kdu_collect (W.kdl_dict ag) (I.66 m) da () λG tk acc keep E=>?_)))
 let R:acc.64=h.9:=by
  let P:acc.64=acc.22:=by simp
  rw[P,E.1,←T,A]
 show zo (wpAny_newList ?_ (by rwa[R,←A]))
 let d:StrsAre acc.33 h:=by
  show KS (C0 (_) λj aM w' F w=>?_);rw[ug]at w;let(k,x,ex,B):=E.2 j w' w;rw[zx]at F;cases u:b[j]? with
  |none=>
   exfalso
   ext
  |some kv=>
   let v:(h.7 sS)[j]?=U kv.1:=by rw[←y,zx,u];rfl
   rw[zx]at v;let(x',N,O):=z6.mp v;rw[N]at F;simp at F;let(v2,i,_):=KV.get C u;rw[ex]at i;simp at i;rw[i.1,←O]at B;rw[←F];show Ef B
 let s:Inv X D al H {ab with heap:=G,toks:=tk}:=I.75 keep;let p:(G.71 {cls:=sW oq,data:=uW acc.toList.11}).14 G.10=U (seqObj oq acc.toList.11 0):=zK _ rfl;show zo (zH (wpAny_call_entry slot_list_sort (_,p,Y) entry_list_sort (list_sort_treeK strKind_oneLt p d.keysOf (λaR a0 ar e=>keyKind_strs (by rwa[←e])) () λM S z=>(7,zn (7,?_))) (args_list_sort _)));let(t,a1,a2,a3):=sorted_out_str d S z;let an:t.9=acc.64:=by rw[a2.65,←d.strs,AN]
 show(.r G.10,_,s.laid (o:=.l (t.7 V.s)) (λas o e=>?_) (zp _) (by simp_all,((arrOf M).7 (·.2)).33,?_),Y,q _ t (s.18 (zp _)) a2 a3)
 ·rw[sortedHeap_old (zu (lt_size e)) (lt_size (zU _ e))];show zU _ e
 ·let(c,hcx):=sortedHeap_at p;show(c,Gx a1,qe)
end
end L2
namespace MK
open PySem
mutual
theorem CV(a b:Nat):tD (a) (b)=((a&&&b:Nat):Int):=by
 rfl
theorem CZ(a b:Nat):uh (a) (b)=((a|||b:Nat):Int):=by
 let h:¬ 0<=uy a:=by unfold uy;lia
 let d:¬ 0<=uy b:=by unfold uy;lia
 unfold uh;rw[PyProof.Rows.bitAnd_nn h d];let e:∀n:Nat,(uy (uy n)).30=n:=λn=>by unfold uy;lia
 rw[e a,e b];unfold uy;lia
theorem Dk(a b:Nat):tD (a) (uy (b))=((a-(a&&&b):Nat):Int):=by
 rw[PyProof.Rows.bitAnd_not,CV];have:a&&&b<=a:=uM
 lia
noncomputable def AY(l:List Nat):Nat:=l.68 (· ||| ·) 0
theorem Hs(k):∀(l:List Nat)a,(l.68 (· ||| ·) a).29 k=(a.29 k||l.91 (·.29 k))
 | [],a=>by simp
 |x::r,a=>by rw[foldl_cons,Hs k r,Nat.testBit_or,any_cons,Bool.or_assoc]
theorem DY(l)(k):(AY l).29 k=l.91 (·.29 k):=by
 unfold AY;rw[Hs];simp
theorem FU{l}{m}(h:∀n∈l,n<2^m):AY l<2^m:=by
 have:∀(l:List Nat)a,a<2^m->(∀n∈l,n<2^m)->l.68 (· ||| ·) a<2^m:=by
  intro l;induction l with
  |nil=>intro a d _;show d
  |cons x r i=>intro a d e;show i _ (Nat.or_lt_two_pow d (e x zF)) λn j=>e n (_)
 show this l 0 (_) h
theorem Ei(l)(n):AY (l++[n])=AY l|||n:=by unfold AY;ext
noncomputable def Bd(n:Nat):Bool:=decide (0<n)&&decide (n&&&(n-1)=0)
theorem QE(k):Bd (2^k)=L:=by
 unfold Bd
 let a:2^k&&&(2^k-1)=0:=by
  apply ue;intro i;by_cases e:k=i
  ·subst e;simp
  ·simp
 simp[Nat.two_pow_pos k]
theorem D9(h:Bd n=L):∃k,n=2^k:=by
 unfold Bd at h;simp at h;let(o,j):=h;show(n.log2,?_);let d:2^n.log2<=n:=Nat.log2_self_le ();let a:n<2^(n.log2+1):=Nat.lt_log2_self;let e||l:=Nat.eq_or_lt_of_le d
 ·show e.31
 ·exfalso
  let b1:n.29 n.log2=L:=by
   rw[vC];simp
   have:n/2^n.log2=1:=by
    apply Nat.div_eq_of_lt_le<;>(try rw[Nat.pow_succ]at a)<;>lia
   rw[this]
  let i:(n-1).29 n.log2=L:=by
   rw[vC];simp
   have:(n-1)/2^n.log2=1:=by
    apply Nat.div_eq_of_lt_le<;>(try rw[Nat.pow_succ]at a)<;>lia
   rw[this]
  have:(n&&&(n-1)).29 n.log2=L:=by rw[Nat.testBit_and,b1,i];rfl
  rw[j,Nat.zero_testBit]at this;cases this
noncomputable def Gy(n:Nat):List Nat:=(uP 42).21 λk=>n.29 k
theorem KU{f:Type}[DecidableEq f]{p}:∀{l:List f}{a},l.26->a∈l->(∀b∈l,p b=L ↔ b=a)->l.21 p=[a]
 | [],_,_,h,_=>by cases h
 |b::r,a,q,m,g=>by
  let(o,d):=zi.mp q;by_cases e:b=a
  ·subst e;let i:=(g b zF).49 rfl;rw[filter_cons,zf i];congr 1;apply List.filter_eq_nil_iff.mpr
   grind
  ·rw[filter_cons,zg (λz=>e ((g b zF).mp z))];let z||z:=mem_cons.mp m
   ·show absurd z.31 e
   ·show KU d z λc j=>g c (_)
theorem LQ{n}(j:n<2^42):decide ((Gy n).9=1)=Bd n:=by
 rw[uQ,decide_eq_true_eq];constructor
 ·intro h;let(k,a):∃k,Gy n=[k]:=List.length_eq_one_iff.mp h
  let o:∀i,i<42->(n.29 i=L ↔ i=k):=λi l=>by
   have:i∈Gy n ↔ i=k:=by rw[a];simp
   unfold Gy at this;constructor
   ·ext
   grind
  let d:k<42:=by
   have:k∈Gy n:=by rw[a];simp
   show mem_range.mp (mem_filter.mp this).1
  let e:n=2^k:=by
   apply ue;intro i;by_cases l:i<42
   ·grind
   ·have p:n.29 i=O:=Nat.testBit_lt_two_pow (zY j (vQ qc ()))
    symm;grind
  rw[e];show QE k
 ·intro h;let(k,rfl):=D9 h
  have:Gy (2^k)=[k]:=by
   show KU List.nodup_range (mem_range.49 ((vo qc).mp j)) λb _=>?_;rw[Nat.testBit_two_pow,decide_eq_true_eq];show eq_comm
  rw[this];rfl
noncomputable def Cp(m:Nat):Nat:=2^(ua (m:Int))
theorem FV{m:Nat}(h:0<m):ua (m)=m.log2+1:=by
 unfold ua
 grind
theorem Og(d:m<2^k)(a:k=0\/2^(k-1)<=m):2^k=Cp m:=by
 congr 1;let e||h:=um m
 ·subst e
  have:k=0:=by
   let z||z:=a
   ·show z
   ·ext
  rw[this];rfl
 ·rw[FV h];let z||z:=a
  ·ext
  ·have i:0<k:=by let e||e:=um k
                  ·ext
                  ·show e
   let e:m.log2=k-1:=by
    apply Nat.le_antisymm
    ·have:=(vU ()).49 d
     lia
    ·show(Nat.le_log2 ()).49 z
   lia
theorem Ue:∀{l:List Nat}{a},(∀n∈l,Bd n=L)->l.69 (· < ·)->(∀n∈l,a&&&n=0)->a+l.sum=l.68 (· ||| ·) a
 | [],a,_,_,_=>by simp
 |n::r,a,b,g,f=>by
  let(q,p):=pairwise_cons.mp g;let o:=f n zF
  let e:a|||n=a+n:=by
   let h:=PyProof.Rows.bitOr_and a n;rw[CZ,CV]at h
   lia
  rw[sum_cons,foldl_cons,←Ue (λm d=>b m (_)) p (λm d=>?_)]
  ·lia
  ·let(i,rfl):=D9 (b n zF);let(j,rfl):=D9 (b m (_));apply ue
   grind
theorem Ss(e:∀n∈l,Bd n=L)(d:l.69 (· < ·)):l.sum=AY l:=by
 have:=Ue (a:=0) e d (λn _=>by simp);unfold AY
 ext
end
end MK
namespace Mk
open PySem L2 MK
mutual
abbrev BU:Stmt:=inClass (top 2) 0
abbrev Ej:Stmt:=inClass (top 7) 0
abbrev Gz:Stmt:=inClass (top 12) 0
abbrev KW:Stmt:=top 19
abbrev M7:Stmt:=top 20
abbrev M8:Stmt:=top 21
abbrev KY:Stmt:=top 22
abbrev KZ:Stmt:=top 23
abbrev Ip:Stmt:=top 24
abbrev Iq:Stmt:=top 25
abbrev G3:Stmt:=top 26
abbrev Ek:Stmt:=top 27
abbrev G4:Stmt:=top 28
abbrev Ir:Stmt:=top 29
abbrev FW:Stmt:=top 30
abbrev C2:Stmt:=inClass (top 31) 0
abbrev Iu:Stmt:=inClass (top 31) 1
abbrev FX:Stmt:=inClass (top 31) 2
abbrev G5:Stmt:=inClass (top 31) 5
abbrev G6:Stmt:=inClass (top 31) 6
abbrev Iv:Stmt:=inClass (top 31) 7
abbrev M9:Stmt:=inClass (top 31) 8
abbrev F6:Stmt:=top 34
abbrev NA:Stmt:=top 35
abbrev G7:Stmt:=inClass (top 36) 0
abbrev El:Stmt:=inClass (top 36) 1
abbrev G8:Stmt:=inClass (top 36) 2
abbrev FY:Stmt:=inClass (top 36) 3
abbrev G9:Stmt:=inClass (top 36) 4
abbrev RH:Stmt:=top 37
abbrev Ka:Stmt:=top 38
abbrev Iw:Stmt:=top 39
abbrev QF:Stmt:=top 40
abbrev Kb:Stmt:=top 41
abbrev NB:Stmt:=top 42
abbrev NC:Stmt:=top 43
abbrev Ix:Stmt:=top 48
abbrev HA:Stmt:=top 49
abbrev ND:Stmt:=top 50
abbrev Kc:Stmt:=top 51
abbrev Em:Stmt:=inClass (top 52) 0
abbrev C3:Stmt:=inClass (top 52) 1
abbrev C4:Stmt:=inClass (top 52) 2
abbrev Cq:Stmt:=inClass (top 52) 3
abbrev CM:Stmt:=inClass (top 52) 4
abbrev Cr:Stmt:=inClass (top 52) 5
abbrev Dl:Stmt:=inClass (top 52) 6
abbrev Eo:Stmt:=inClass (top 52) 7
abbrev Dm:Stmt:=top 53
abbrev HB:Stmt:=top 54
abbrev NE:Stmt:=top 55
abbrev FZ:Stmt:=top 56
abbrev Iy:Stmt:=top 57
abbrev Kd:Stmt:=top 59
abbrev Iz:Stmt:=top 60
abbrev Fa:Stmt:=top 63
abbrev Fb:Stmt:=top 64
abbrev NG:Stmt:=top 65
abbrev I0:Stmt:=inClass (top 66) 0
abbrev HC:Stmt:=inClass (top 66) 1
abbrev JA:Stmt:=inClass (top 66) 2
abbrev Ke:Stmt:=inClass (top 66) 3
abbrev JB:Stmt:=inClass (top 66) 4
abbrev Fc:Stmt:=inClass (top 66) 5
abbrev JC:Stmt:=inClass (top 66) 6
abbrev JD:Stmt:=inClass (top 66) 7
abbrev Fe:Stmt:=inClass (top 66) 8
abbrev EA:Stmt:=inClass (top 66) 9
abbrev HD:Stmt:=inClass (top 66) 10
abbrev Ep:Stmt:=inClass (top 66) 11
abbrev JE:Stmt:=inClass (top 66) 12
abbrev HE:Stmt:=inClass (top 66) 13
abbrev Ff:Stmt:=inClass (top 66) 14
abbrev JF:Stmt:=inClass (top 66) 15
abbrev Kh:Stmt:=inClass (top 66) 17
abbrev Ki:Stmt:=top 68
abbrev Kj:Stmt:=top 69
abbrev Er:Stmt:=inClass (top 70) 0
abbrev Es:Stmt:=inClass (top 70) 1
abbrev EB:Stmt:=inClass (top 70) 2
abbrev C5:Stmt:=inClass (top 70) 3
abbrev Fg:Stmt:=inClass (top 70) 4
abbrev Kk:Stmt:=top 72
abbrev JG:Stmt:=top 73
abbrev Ht:Stmt:=top 74
abbrev HF:Stmt:=top 75
abbrev Fh:Stmt:=top 76
abbrev BK:Stmt:=top 77
abbrev HG:Stmt:=top 78
abbrev HH:Stmt:=top 79
abbrev C6:Stmt:=top 80
abbrev Fi:Stmt:=top 81
abbrev Kl:Stmt:=top 82
abbrev Hu:Stmt:=top 83
abbrev Dy:Stmt:=top 84
abbrev Hv:Stmt:=top 85
abbrev Fj:Stmt:=top 86
abbrev Km:Stmt:=top 87
abbrev NH:Stmt:=top 88
abbrev JH:Stmt:=top 89
abbrev Et:Stmt:=top 90
abbrev Kn:Stmt:=top 91
abbrev HI:Stmt:=top 92
abbrev Do:Stmt:=top 93
abbrev Be:Stmt:=top 94
abbrev Ko:Stmt:=top 95
abbrev LR:Stmt:=top 96
structure Fn(P:Program)(w:World)(K:FG)(mg:SV)(base:Heap)(x:Str)(k:Nat)(ps:ni)(sp:Sp):Prop where
 ex:∃f fd,AT P w K mg base gG k f fd ps sp/\mg x=U (sR f)/\vc K (sR f)=L/\Binds K fd ps []
structure Bl(mg:SV):Prop where
 len:mg "len"=J
 iP:mg oI=J
 max:mg su=J
 min:mg "min"=J
 range:mg qG=J
 list:mg oq=J
 tuple:mg oB=J
 sorted:mg rC=J
 sum:mg "sum"=J
 all:mg "all"=J
 enum:mg qg=J
 int:mg sv=J
 bool:mg "bool"=J
 str:mg "str"=J
noncomputable def BH(b:List Nat):nk:=b.7 λ(n:Nat)=>V.t (n:Int)
inductive spIsMark(vs:nk)(H:Hp)(Q:VK)(b:XK):Prop
 |mk (n:Nat) (d:vs=[.t (n)]) (f:Q (.l (Bd n)) H)
theorem Uf:AI [nH] [nH] (defScope M8):=gQ
theorem QG(n:Nat):(decide (0<(n:Int))&&decide (V.t (tD (n) ((n)-1))=V.t 0))=Bd n:=by
 unfold Bd;let e||h:=um n
 ·ext
 ·have d:((n:Int)-1)=((n-1:Nat):Int):=by lia
  rw[d,CV];let a:decide (0<(n:Int))=L:=zI ();let i:decide (0<n)=L:=zI h;rw[a,i];congr 1
  ext
theorem Su(F:gE g "is_mark" "is_mark" M8 f b):AT P w g j i gG 1 f b [nH] spIsMark:=by
 show F.m Uf λvs H Q E h=>?_;let(n,rfl,k):=h;show(Y,λd A a s e=>?_);show(_,AB (AJ (CY (CH GH (Z 0) AF (AO _)) (Ck (CH Aq (AW Bh (Z 0) (AW CL (Z 0) AF)) AF (AO _))))),?_);rw[←QG]at k;show(7,_,7,Y,7,?_);show BF (λh=>?_) (λh=>?_)
 ·rw[h,Bool.true_and]at k;show(7,7,_,7,Y,_,7,Y,Y,k)
 ·rw[vf.49 h,wc]at k;show k
inductive spUnionOf(b:FG)(vs:nk)(H:Hp)(Q:VK)(d:XK):Prop
 |mk (a) (f) (g:vs=[.r a]) (h:fV b H a (BH f)) (i:Q (.t (AY f:Nat)) H)
theorem scUnionOf:AI [ox,o4,nH] [ox] (defScope KY):=gQ
theorem NI{a}{i:Nat}{x}(h:(BH a)[i]?=U x):∃n,a[i]?=U n/\x=V.t (n:Int):=by
 unfold BH at h;rw[zx]at h;cases e:a[i]? with
 |none=>rw[e]at h;cases h
 |some n=>rw[e]at h;show(n,Y,(tS h).31)
theorem QH(F:gE b qC qC KY f g):AT P w b y m gG 1 f g [ox] (spUnionOf b):=by
 show F.m scUnionOf λvs H Q E h=>?_;let(a,j,rfl,p,k):=h;show(Y,λr A o s u=>?_)
 show(_,AC (Da (i:=1) scUnionOf.nd Y (sU Y) AF)
  (AC (Bt tK rfl (Ay (Z 0)) (BX (i:=2) scUnionOf.nd rfl (sU rfl))
   (AB (PV (i:=1) scUnionOf.nd rfl (sU rfl) (Z 2) YL)))
  (AB (AJ (Z 1)))),?_)
 show(7,a,Y,(_,p),Bg (λi l d=>∃v,l=[U (.r a),U (.t (AY (j.12 i))),v]/\d=H) (J,Y,Y) (λi l d _ z=>by let(_,_,e):=z;show e ▸ p) ?_ ?_)
 ·rintro i x l d t ⟨v,rfl,rfl⟩;let(n,q,rfl):=NI t;show(7,7,_,7,Y,(U (V.t n),?_,Y));rw[zw,q,ui,Ei];change [U (V.r a),U (V.t (uh (AY (j.12 i)) n)),U (V.t n)]=_;rw[CZ]
 ·rintro l d ⟨v,rfl,rfl⟩;show(7,?_);let e:(BH j).9=j.9:=by unfold BH;rw[AN]
  rwa[e,zt]
end
end Mk
namespace L2
open PySem
theorem Hw{x}{g}{tt}{f}{h}{R}{m}{j}(a:Nat->nk->Hp->Prop)(l:a 0 [] j)(u:∀i b H,a i b H->b.9<=1000)
  (s:∀i c b H,x.cps[i]?=U c->a i b H->bT g tt (jR f) h m (.s ⟨#[c]⟩) b (a (i+1)) H) (o:∀b H,a x.82 b H->R b H):tW (Its x) [] jU (bT g tt (jR f) h m) R j:=
 DW (n:=x.82) a l (λi b H q=>J7 (u i b H q)) (λi b H e d=>(e,by rintro v r ⟨rfl,c,p,rfl⟩;show s i c b r p d)) λb H d=>(zp _,o b H d)
end L2
namespace Mk
open PySem L2 MK
mutual
theorem Fk:bootBuiltins "all"=U (sV "all"):=by rfl
theorem Fl:bootBuiltins oI=U (sV oI):=by rfl
theorem C7:bootBuiltins rC=U (sV rC):=by rfl
theorem Ug:bootBuiltins "sum"=U (sV "sum"):=by rfl
theorem Yn:bootBuiltins "min"=U (sV "min"):=by rfl
theorem Yo:bootBuiltins su=U (sV su):=by rfl
theorem HJ:bootBuiltins "str"=U (sW "str"):=by rfl
theorem JI:bootBuiltins sv=U (sW sv):=by rfl
theorem Wt:bootBuiltins "bool"=U (sW "bool"):=by rfl
theorem Bs:bootBuiltins oB=U (sW oB):=by rfl
theorem Eu:bootBuiltins oq=U (sW oq):=by rfl
theorem AD(s:fJ H f)(a:f p=J):fJ H (upd f p o):=λb u e=>by
 let d:=s b u e
 rwa[AE (AH d a)]
noncomputable def EE(c:Nat):Bool:=decide (65<=c)&&decide (c<=90)
def C8(x:Str):Bool:=(decide (1<=x.9)&&decide (x.9<=6))&&x.39 EE
theorem BZ(g)(u:X.K=g)(r:Gl X oI)(o:X.m oI=J)(l:Gl X x)(d:X.m x=J)(j:bootBuiltins x=U (sW T))(q:PE X e w)
  (y:x≠ oQ:=by decide) (a:jg x:=by decide)
  (m:starEach [e,tI x f] X.e=(O,(eval e X.e))::starEach [tI x f] X.e:=by rfl) (h:(backTo s (starEach [tI x f] X.e)).91 (·.1)=O:=by rfl) (i:starEach [tI x f] X.e=(O,(eval (tI x f) X.e))::starEach [] X.e:=by rfl):
  PE X (uJ (tI oI p) [e,tI x f] [] s) (tCB (λz H Q=>∃v T t b,z=[v,.y T]/\iS g H v t/\vq g t (sW T)=U b/\Q (.l b) H) (A3 w (A3 (tC (.y T)) Cz))):=by
 subst u;show AS UC r o Fl (AA q (gX (EW l d j Y y a) i) m) qc qc m h
theorem Ao(b)(a:X.K=b):IxR X (Zr b):=a ▸ WH
theorem AZ(b)(a:X.K=b):IxR X (YQ b):=a ▸ YR
theorem A8(d)(a:X.K=d):gP X (sV "len") (λf H Q=>∃p b,f=[.r p]/\(fV d H p b\/gB d H p b)/\Q (.t b.9) H):=a ▸ HY
theorem RI(b)(d:X.K=b)(a:PE X e i)(h:attributeBase e f X.e (eval e X.e)=eval e X.e):PE X (tR e f g) (Zp b i f):=d ▸ Ac a h
inductive spIsName(vs:nk)(H:Hp)(Q:VK)(b:XK):Prop
 |mk (x) (g:vs=[.s x]) (h:x.27 (· < 128)=L) (i:x.9<=1000) (f:∀d,fJ H d->Q (.l (C8 x)) d)
theorem Uh:AI [nM] [nM] (defScope M7):=gQ
theorem Ui(c):(if (!decide ((⟨#[c]⟩:Str).4<("A":Str).4))=L then (!decide (("Z":Str).4<(⟨#[c]⟩:Str).4))else O)=EE c:=by
 let h:("A":Str).4=[65]:=by decide +kernel
 let e:("Z":Str).4=[90]:=by decide +kernel
 rw[h,e];unfold EE
 let i:decide ([c]<[65])=decide (c<65):=by
  rw[uQ,decide_eq_true_eq,cons_lt_cons_iff];simp
 let a:decide ([90]<[c])=decide (90<c):=by
  rw[uQ,decide_eq_true_eq,cons_lt_cons_iff];simp
 rw[i,a];by_cases j:c<65<;>by_cases d:90<c<;>simp[d]<;>ext
theorem Sv(F:gE g rD rD M7 f j)(B:Bl d)(l:d "LONGEST_NAME"=U (tV 6 t6)):AT P w g d m gG 1 f j [nM] spIsName:=by
 show F.m Uh λvs H Q E h=>?_;let(x,rfl,ha,hz,k):=h;show(Y,λS A ab s X=>?_)
 show(_,AC (AU (PW.pt (Cw (Au (Al (BZ g Y Y B.iP Y B.str HJ (Z 0)))) (By (Au (FJ FH FH AF (AS BN Y B.50 tu (gX (Z 0))) (BV (v:=.t 6) Y l (t6,Y)))))))
   (AB (AJ DI)) AL)
  (AB (AJ (AS (DN rfl) rfl B.94 Fk (gX (BJ [] [] (by rfl) (_) (by rfl) rfl (J9 (Z 0)) (λ_ _ _ _ _ _=>BP) (λ_ _ _ _ _ _=>FI Ca Ca AM (Z 0) AM)))))),?_)
 show(7,_,_,_,L,Y,.s x,Y,7,?_);apply AV;show(7,x,Y,sZ (AR hz),_,7,Y,7,BF (λu=>?_) (λu=>?_))
 ·have y:1<=x.9:=by have:=zS u;lia
  show(_,7,Y,7,BF (λq=>?_) (λq=>?_))
  ·have C:¬ x.9<=6:=by
    intro z;rw[zI ()]at q;cases q
   let e:C8 x=O:=by unfold C8;simp[C]
   have:=k H (fJ.r H)
   rwa[e]at this
  ·have C:x.9<=6:=Decidable.byContradiction λz=>q (_);show(7,x,Y,ha,Hw (λi r o=>o=H/\r=(x.79 i).7 λc=>V.l (EE c)) (Y,Y) (λi r o (_,e)=>?_) ?_ ?_)
   ·rw[e,AN,zr];have:x.cps.64=x.9:=by rw[uA];rfl
    lia
   ·rintro i c r o T ⟨rfl,rfl⟩;show(7,_,7,Y,7,?_)
    let I:∀b,b=EE c->(o=o/\(x.79 i).7 (λc=>V.l (EE c))++[V.l b]=(x.79 (i+1)).7 λc=>V.l (EE c)):=λb M=>by
     show(Y,?_);let R:x.4[i]?=U c:=by rwa[ug]
     rw[zw,R,zl,M];rfl
    let G:=Ui c;show BF (λD=>?_) (λD=>?_)
    ·rw[zf D]at G;show(_,7,Y,I _ G)
    ·ext
   ·rintro r o ⟨rfl,rfl⟩ p N;show(p,x.cps.95 EE,Y,fV.of (by rw[fH,take_of_length_le (_),map_map];rfl),?_)
    let e:C8 x=((x.cps.95 EE).94 id):=by
     unfold C8;rw[zI y,zI C,all_map];rfl
    rw[←e];show k _ (AD (fJ.r _) N)
 ·have y:¬ 1<=x.9:=λz=>u (zI ());show(7,?_);apply Aj;let e:C8 x=O:=by unfold C8;simp[y]
  have:=k H (fJ.r H)
  rwa[e]at this
inductive Th where
 |gJ|num (n:Nat)|mj (b:ni)
def jw(H:Hp)(v:V):Th->Prop
 |.gJ=>v=.g
 |.num n=>v=.t (n:Int)
 |.mj b=>∃a,v=.r a/\H a=U (.t (b.7 V.s))
noncomputable def Fm(b:List Nat):Nat:=b.68 max 0
noncomputable def look(due:Aa)(x:Str):Nat:=((due.76 λp=>decide (p.1=x)).7 (·.2)).44 0
noncomputable def A9(due:Aa):LK:=due.7 λp=>(sS p.1,(V.t (p.2:Int)))
def Dz(due:Aa):Th->Nat
 |.gJ=>Cp (Fm (due.7 (·.2)))
 |.num n=>n
 |.mj b=>AY (b.7 (look due))
theorem HK(x):∀due,An (A9 due) (sS x)=(due.76 λp=>decide (p.1=x)).7 λp=>V.t (p.2:Int)
 | []=>rfl
 |p::r=>by
  change An ((sS p.1,(V.t p.2))::A9 r) (sS x)=_;by_cases e:p.1=x
  ·rw[BI (by rw[←e]),List.find?_cons_of_pos (_)];rfl
  ·rw[BE (λz=>e (vF z)),List.find?_cons_of_neg (_)];show HK x r
theorem Sw{due:Aa}(h:x∈due.7 (·.1)):(due.76 λp=>decide (p.1=x)).24=L:=by
 ext
theorem Cb(h:x∈due.7 (·.1)):An (A9 due) (sS x)=U (V.t (look due x:Int)):=by
 rw[HK];unfold look;let(p,a):=uD.mp (Sw h)
 ext
theorem Hx(h:x∉ due.7 (·.1)):An (A9 due) (sS x)=J:=by
 rw[HK]
 grind
theorem Hy:∀(l:List Nat)a,a<m->(∀n∈l,n<m)->l.68 max a<m
 | [],a,h,_=>h
 |x::r,a,h,k=>Hy r (max a x) (by have:=k x zF;lia) λn d=>k n (_)
theorem Oh{a}{m}(d:0<m)(h:∀n∈a,n<m):Fm a<m:=Hy a 0 d h
theorem Uj(a b:Nat):max (a:Int) (b)=((max a b:Nat):Int):=by lia
theorem Kq:∀(r:List Nat)(a:Nat),(r.7 λn:Nat=>(n:Int)).68 max (a:Int)=((r.68 max a:Nat):Int)
 | [],_=>rfl
 |x::r,a=>by rw[map_cons,foldl_cons,Uj,Kq r];rfl
theorem Oi{d}(h:d≠ []):OB 0 (d.7 λn:Nat=>(n:Int))=(Fm d:Nat):=by
 cases d with
 |nil=>rfl
 |cons a r=>
  change(r.7 λn:Nat=>(n:Int)).68 max (a:Int)=_;rw[Kq];rfl
theorem QI{m:Nat}(h:m<2^20):ua (m:Int)<=20:=by
 let e||a:=um m
 ·subst e;decide
 ·rw[FV a];have:=(vU ()).49 h
  assumption
inductive spNextMark(b:FG)(vs:nk)(H:Hp)(Q:VK)(d:XK):Prop
 |mk (a) (f) (h:vs=[.r a]) (i:fV b H a (BH f)) (j:(∀n∈f,n<2^20)) (g:Q (.t (Cp (Fm f):Nat)) H)
theorem QJ:AI [ox] [ox] (defScope Iq):=gQ
theorem Hz(a):BH a=(a.7 λn:Nat=>(n:Int)).7 V.t:=by unfold BH;ext
theorem Oj(F:gE b rS rS Iq f g)(B:Bl v):AT P w b v y gG 1 f g [ox] (spNextMark b):=by
 show F.m QJ λvs H Q E h=>?_;let(a,l,rfl,r,o,k):=h;show(Y,λt A p s u=>?_);show(_,AB (AJ (AW Mb AF (Gi plainAttrs_int PySem.F.slot_int_bit_length PySem.F.type_int_bit_length Mp (Qx Y Y B.max (Z 0) AF)))),?_)
 let d:∀m:Int,m=Fm l->tyV b sv (.t m) H/\∃i,V.t m=.t i/\([]:nk)=[]/\rI YJ (λi j=>V.t (i*2^j.30)) (V.t 1) (V.t (ua i)) H Q:=λm e=>by
  subst e;show(Y,7,Y,1,7,Y,(zX _,?_,qc),?_)
  ·have:=QI (Oh qc o);lia
  ·have e:(1:Int)*2^((ua (Fm l:Nat)):Int).30=((Cp (Fm l):Nat)):=by
    unfold Cp;simp
   change Q (V.t (1*2^((ua (Fm l:Nat)):Int).30)) H
   rwa[e]
 show(7,a,l.7 (λn:Nat=>n),0,Y,Y,by rw[←Hz];show r,λe=>?_,λe=>?_)
 ·have q:=List.map_eq_nil_iff.mp e;show d 0 (by rw[q];rfl)
 ·show d _ (Oi (λz=>e (by rw[z];rfl)))
def DZ(b:FG):Sp:=λvs H Q _=>(∃(x:Str)(d:nq)(f:LK),vs=[.s x,.r d]/\Rd H d (.d f)/\Q (.l (An f (sS x:Key)).24) H) \/
 (∃(x:Str)(t:nq)(g:ni),vs=[.s x,.r t]/\gB b H t (g.7 V.s)/\Q (.l (jt (.s x) (g.7 V.s))) H)
theorem Sx:AI [nM,oz] [nM,oz] (defScope KZ):=gQ
theorem MJ:∀b:ni,(b.7 V.s).94 HW=L
 | []=>rfl
 |_::r=>MJ r
theorem QK(F:gE b pS pS KZ f g)(B:Bl m):AT P w b m p gG 1 f g [nM,oz] (DZ b):=by
 show F.ok Sx (λvs H Q E h=>?_) (λl A e s H vs Q E j h=>?_)
 ·let(x,d,a,rfl,_)||(x,t,i,rfl,_):=h<;>rfl
 ·let(x,d,a,rfl,o,k)||(x,t,i,rfl,ht,k):=h
  ·show(_,AB (AJ (CY (BZ b Y Y B.iP Y B.str HJ (Z 0)) (Ck (PR (Gk (BY j) (Z 0) (Z 1)))))),(7,_,_,_,L,Y,.s x,Y,7,?_));show(7,7,d,7,sU (a,sS x,o,Y,Y),k)
  ·show(_,AB (AJ (CY (BZ b Y Y B.iP Y B.str HJ (Z 0)) (Ck (CH Fz (Z 0) (Z 1) (by rfl))))),(7,_,_,_,L,Y,.s x,Y,7,?_));show(7,7,t,7,sY ht,Y,MJ i,k)
inductive spIsNamesOf(vs:nk)(H:Hp)(Q:VK)(b:XK):Prop
 |mk (a d) (f:ni) (kvs) (i:vs=[.r a,.r d]) (j:H a=U (.t (f.7 V.s))) (l:f.9<=1000) (h:Rd H d (.d kvs)) (m:∀g,fJ H g->Q (.l (decide (0<f.9)&&f.94 λx=>(An kvs (sS x:Key)).24)) g)
theorem Ol:AI ["parts",pW] ["parts",pW] (defScope G3):=gQ
theorem fJ.rd(s:fJ H b)(h:Rd H a u):Rd b a u:=by
 let h||(o,h):=h
 ·show sU (s _ _ h)
 ·show sY (o,s _ _ h)
theorem NJ(F:gE b rm rm G3 f z)(B:Bl g)(t:Fn P w b g m pS 1 [nM,oz] (DZ b)):AT P w b g m gG 2 f z ["parts",pW] spIsNamesOf:=by
 let(fO,T,t,J,D,S):=t.ex;show F.m Ol λvs H Q E h=>?_;let(a,d,j,l,rfl,C,U,O,k):=h;show(Y,λN A u s G=>?_)
 show(_,AB (AJ (CY (CH GH (AS HY Y B.50 tu (gX (Z 0))) AF (AO _))
  (Ck (AS (DN rfl) rfl B.94 Fk (gX (BJ [pW] [im 1] (by rfl) (_) (by rfl) rfl (Jw (Z 0)) (λ_ _ _ _ _ _=>BP)
   (λ_ _ _ _ _ _=>A5 t G rfl J D S tO Ai (AA (Z 0) (gX (Z 1)))))))))),?_)
 let M:(j.7 V.s).9=j.9:=AN _;show(7,a,7,sY (gB.of C),_,7,Y,7,BF (λr=>?_) (λr=>?_))
 ·have y:0<j.9:=by have:=zS r;ext
  show(7,a,Y,(_,gB.of C),OA (λi q o=>o=H/\q=(j.12 i).7 λx=>V.l (An l (sS x)).24) (Y,Y) (λi q o _ n=>by let(e,_):=n;show e ▸ gB.of C) (λi q o (_,e)=>?_) ?_ ?_)
  ·grind
  ·rintro i v q o X ⟨rfl,rfl⟩
   let(x,I,rfl):∃x,j[i]?=im x/\v=V.s x:=by
    cases e:j[i]? with
    |none=>ext
    |some x=>ext
   show(7,7,sU (x,d,l,Y,O,Y,?_));rw[zw,I,zl];rfl
  ·rintro q o ⟨rfl,rfl⟩ p ab;let R:j.12 (j.7 V.s).9=j:=by rw[M];show zt
   show(p,j.7 λx=>(An l (sS x)).24,Y,fV.of (by rw[fH,R,map_map];rfl),?_)
   let e:(decide (0<j.9)&&j.94 λx=>(An l (sS x)).24)=(j.7 λx=>(An l (sS x)).24).94 id:=by
    rw[zI y,all_map];rfl
   rw[←e];show k _ (AD (fJ.r _) ab)
 ·have:=k H (fJ.r H)
  rwa[zL (λag=>r (zI ())),wc]at this
inductive spIsWhole(vs:nk)(H:Hp)(Q:VK)(b:XK):Prop
 |mk (n) (d:vs=[.t n]) (f:Q (.l L) H)
theorem Sy:AI [nM] [nM] (defScope KW):=gQ
theorem QL(F:gE b qD qD KW f g)(B:Bl i):AT P w b i j gG 1 f g [nM] spIsWhole:=by
 show F.m Sy λvs H Q E h=>?_;let(n,rfl,k):=h;show(Y,λd A a s e=>?_);show(_,AB (AJ (CY (BZ b Y Y B.iP Y B.int JI (Z 0)) (Ck (Tf (BZ b Y Y B.iP Y B.bool Wt (Z 0)))))),?_);show(7,_,_,_,L,Y,.b n,Y,7,?_);show(7,_,_,_,O,Y,.b n,(by rfl),7,k)
structure Bi(due:Aa):Prop where
 len:due.9<=10
 lt:∀p∈due,p.2<2^20
 nd:(due.7 (·.1)).26
 nm:∀p∈due,C8 p.1=L/\p.1.27 (· < 128)=L/\p.1.9<=1000
def Wu(due:Aa):Th->Prop
 |.gJ=>True
 |.num _=>True
 |.mj b=>C₃ (b≠ []) (b.9<=10) (∀x∈b,x∈due.7 (·.1))
inductive spThing(vs:nk)(H:Hp)(Q:VK)(b:XK):Prop
 |mk (tv) (f) (d) (due) (i:vs=[tv,.r d]) (j:jw H tv f) (l:Rd H d (.d (A9 due))) (h:Bi due) (o:Wu due f) (m:∀g,fJ H g->Q (.t (Dz due f:Nat)) g)
theorem Wv:AI [nM,pW] [nM,pW] (defScope Ek):=gQ
theorem Uk(due):(A9 due).7 (·.2)=BH (due.7 (·.2)):=by unfold A9 BH;ext
theorem Ul(F:gE b qW qW Ek f s)(B:Bl g)(m:Fn P w b g l rS 1 [ox] (spNextMark b))(q:Fn P w b g l rm 2 ["parts",pW] spIsNamesOf)
  (T:Fn P w b g l qC 1 [ox] (spUnionOf b)) (S:Fn P w b g l qD 1 [nM] spIsWhole):AT P w b g l gG 3 f s [nM,pW] spThing:=by
 let(fN,dN,m,mN,kN,X):=m.ex;let(fI,dI,q,mI,kI,bI):=q.ex;let(fU,dU,T,mU,kU,bU):=T.ex;let(fW,dW,S,mW,kW,Z):=S.ex;show F.m Wv λvs H az ar h=>?_;let(tv,th,d,j,rfl,M,y,DO,TO,k):=h;show(Y,λff an as aC v=>?_);let E:=BY v;let r:gD 1 _:=v.63 qc
 show(_,AC (AU (CW (Ju (pv 0))) (AB (AJ (A5 m r Y mN kN X tO Ai (gX (A0 (Pp Y) Y B.67 Eu (gX (T9 slot_dict_values type_dict_values SM (pv 1)))))))) AL)
  (AC (AU (PW.pt (Cj (Al (BZ b rfl rfl B.iP rfl B.56 Bs (pv 0))) (Bu (Al (A5 q v rfl mI kI bI tO Ai (AA (pv 0) (gX (pv 1))))))))
   (AB (AJ (A5 T r rfl mU kU bU tO Ai (gX (BJ [pW] [U 1] (by rfl) (_) (by rfl) rfl (Jw (pv 0)) (λ_ _ _ _ _ _=>BP) (λ_ _ _ _ _ _=>Am E (pv 1) (pv 0))))))) AL)
  (AC (AU (Al (A5 S r rfl mW kW Z tO Ai (gX (pv 0)))) (AB (AJ (pv 0))) AL)
  (AB Ad))),?_)
 show(_,rfl,_,rfl,?_);cases th with
 |gJ=>
  let e:=M;subst e;show BF (λ_=>(7,d,Y,sU (_,y),d,7,Y,y,λp D=>?_)) (λz=>absurd Y z);show(p,d,7,fH,fJ.rd (AD (fJ.r _) D) y,λab hl=>(ab,j.7 (·.2),Y,fV.of (by rw[fH,Uk]),λn hn=>?_,?_))
  ·let(ag,hq,rfl):=zh.mp hn;show DO.lt ag hq
  ·show k _ (AD (AD (fJ.r _) D) hl)
 |num n=>
  let e:=M;subst e;show BF (λz=>absurd (zS z) (_)) (λ_=>(7,_,_,_,i7,Y,.b _,(by rfl),7,?_));apply AV;show(7,n,Y,7,?_);apply Aj;show(7,k H (fJ.r H))
 |mj o=>
  let(a,rfl,I):=M;let(R,hln,C):=TO;show BF (λz=>absurd (zS z) (_)) (λ_=>?_);show(7,_,_,_,L,Y,.t I,Y,7,(7,7,a,d,o,A9 j,Y,I,by lia,y,λA G=>(7,?_)))
  let Q:(decide (0<o.9)&&o.94 λx=>(An (A9 j) (sS x)).24)=L:=by
   rw[tA,decide_eq_true_eq,all_eq_true];show(List.length_pos_iff.mpr R,λx N=>?_);rw[Cb (C x N)];rfl
  rw[Q];apply Aj;show(7,a,Y,(_,gB.of (G _ _ I)),OA (λi u t=>t=A/\u=BH ((o.12 i).7 (look j))) (Y,Y) (λi u t _ c=>by let(e,_):=c;show e ▸ gB.of (G _ _ I)) (λi u t (_,e)=>?_) ?_ ?_)
  ·rw[e];unfold BH
   grind
  ·rintro i al u t hi ⟨rfl,rfl⟩
   let(x,N,rfl):∃x,o[i]?=U x/\al=V.s x:=by
    grind
   show(7,7,d,7,sU (A9 j,sS x,fJ.rd G y,Y,(Cb (C x (_))).31),Y,?_);rw[zw,N];unfold BH
   ext
  ·rintro u t ⟨rfl,rfl⟩ p D;let el:o.12 (o.7 V.s).9=o:=by rw[AN _];show zt
   show(p,o.7 (look j),Y,fV.of (by rw[fH,el]),k _ (AD G D))
end
end Mk
namespace L2
open PySem
theorem Um{w}{a}{f}{g:TG}{G:TS}{D:Jt}{b}(d:Nat->St->Hp->Prop)(B:d 0 b H)(t:∀i b H,i<=f.9->d i b H->fV w H a f)
  (I:∀i x b H p,f[i]?=U x->d i b H->H p=J->g (.r p) b (upd H p (.t [.t i,x])) λh v=>G {D with nx:=d (i+1),ct:=d (i+1),bk:=D.nx} h v) (C:∀b H,d f.9 b H->D.nx b H):
  ∃W:Nat->Nat->St->Hp->Prop,(∃m,W 0 m b H)/\∀i m b H,W i m b H ->
   ((Ite w a).stop i H/\D.nx b H)\/((Ite w a).go i H/\∃N,(∀j s,N j s->∃z,z<m/\W (i+1) z j s)/\∀x s,(Ite w a).j7 i H x s->g x b s λh v=>G {D with nx:=N,ct:=N,bk:=D.nx} h v):=by
 show(λi m b H=>C₃ (m=f.9-i) (i<=f.9) (d i b H),(7,tH _,B),?_);rintro i m b H ⟨rfl,r,l⟩;by_cases o:i<f.9
 ·have u:=z7 o;show sY ((f,f[i],t i b H r l,u),d (i+1),λj s q=>(f.9-(i+1),by lia,Y,o,q),?_);rintro x s ⟨p,y,F,rfl,A,rfl⟩
  let E:y=f[i]:=by
   have:=A f (t i b H r l);rw[u]at this;show(tS this).31
  subst E;show I i f[i] b H p u l F
 ·have e:i=f.9:=by lia
  subst e;show sU ((f,t _ b H r l,zp _),C b H l)
theorem Sz{a}{o}{f}{g:TG}{w:TS}{D:Jt}{b}(d:Nat->St->Hp->Prop)(A:d 0 b H)(z:∀i b H,d i b H->H a=U (.b o (.d f)))
  (G:∀i l b H p,f[i]?=U l->d i b H->H p=J->g (.r p) b (upd H p (.t [kV l.1,l.2])) λh u=>w {D with nx:=d (i+1),ct:=d (i+1),bk:=D.nx} h u) (B:∀b H,d f.9 b H->D.nx b H):
  ∃W:Nat->Nat->St->Hp->Prop,(∃m,W 0 m b H)/\∀i m b H,W i m b H ->
   ((m7 a o f).stop i H/\D.nx b H)\/((m7 a o f).go i H/\∃N,(∀j s,N j s->∃y,y<m/\W (i+1) y j s)/\∀x s,(m7 a o f).j7 i H x s->g x b s λh u=>w {D with nx:=N,ct:=N,bk:=D.nx} h u):=by
 show(λi m b H=>C₃ (m=f.9-i) (i<=f.9) (d i b H),(7,tH _,A),?_);rintro i m b H ⟨rfl,E,t⟩;by_cases r:i<f.9
 ·show sY ((z i b H t,r),d (i+1),λj s q=>(f.9-(i+1),by lia,Y,r,q),?_);rintro x s ⟨p,l,C,rfl,v,rfl⟩;show G i l b H p v t C
 ·have e:i=f.9:=by lia
  subst e;show sU ((z _ b H t,zp _),B b H t)
theorem Kr{w}{q}{ok}{B}{R}(d:Nat->w->Hp->Prop)(t:d 0 q g)(r:∀i b H,d i b H->H a=U (.b o (.d f)))(s:∀i b H,d i b H->ok b)
  (m:∀i h b H p,f[i]?=U h->d i b H->H p=J->B (.r p) b (d (i+1)) (upd H p (.t [kV h.1,h.2]))) (u:∀b H,d f.9 b H->R b H):tW (m7 a o f) q ok B R g:=
 DW (n:=f.9) d t s (λi b H j e=>((r i b H e,j),by rintro x y ⟨p,h,v,rfl,l,rfl⟩;show m i h b H p l e v)) λb H e=>((r _ b H e,zp _),u b H e)
theorem QM{a}{o}{f}{g}{tt}{m}{h}{R}{s}{j}(d:Nat->nk->Hp->Prop)(l:d 0 [] j)(r:∀i b H,d i b H->H a=U (.b o (.d f)))(v:∀i b H,d i b H->b.9<=1000)
  (u:∀i e b H p,f[i]?=U e->d i b H->H p=J->bT g tt (jR m) h s (.r p) b (d (i+1)) (upd H p (.t [kV e.1,e.2]))) (t:∀b H,d f.9 b H->R b H):tW (m7 a o f) [] jU (bT g tt (jR m) h s) R j:=Kr d l r (λi b H q=>J7 (v i b H q)) u t
end L2
namespace Mk
open PySem L2 MK
mutual
def Yp(x:Str):Prop:=C8 x=L/\x.27 (· < 128)=L/\x.9<=1000
structure RJ(due:Aa)(r:Str×Th):Prop where
 ahead:Bi due
 few:due.9<10
 nm:Yp r.1
 new:r.1∉ due.7 (·.1)
 th:Wu due r.2
 lt:Dz due r.2<2^20
def At(b:List (Str×Th)):Aa:=b.68 (λdue r=>due++[(r.1,(Dz due r.2))]) []
theorem EM(a)(r):At (a++[r])=At a++[(r.1,(Dz (At a) r.2))]:=by unfold At;ext
def Ew(b:List (Str×Th)):Prop:=∀i r,b[i]?=U r->RJ (At (b.12 i)) r
inductive iB(H:Hp)(b:nq)(r:Str×Th):Prop
 |mk (tv) (d:H b=U (.t [.s r.1,tv])) (f:jw H tv r.2)
inductive RowsAt(H:Hp)(l:nq)(b:List (Str×Th)):Prop
 |mk (as) (d:H l=U (.l (as.7 V.r))) (f:Paired (iB H) as b)
theorem jw.same(s:fJ H H')(h:jw H v b):jw H' v b:=by
 cases b with
 |gJ=>show h
 |num n=>show h
 |mj d=>let(a,e,h):=h;show(a,e,s _ _ h)
theorem iB.same{r}(s:fJ H H')(h:iB H b r):iB H' b r:=by
 let(a,e,t):=h;show(a,s _ _ e,t.15 s)
theorem CB{g h}{F}{b}{f:List h}{i:Nat}{x:g}(p:Paired F b f)(e:b[i]?=U x):∃y,f[i]?=U y/\F x y:=by
 induction p generalizing i with
 |nil=>simp at e
 |cons r t ih=>cases i with
  |zero=>cases e;show(_,rfl,r)
  |succ i=>let(u,a,d):=ih (i:=i) e;show(u,a,d)
theorem Ks(s:fJ H f)(a:H d=J):fJ H (upd f d o):=λb u e=>by
 rw[AE (AH e a)];show s b u e
inductive spRow(vs:nk)(H:Hp)(Q:VK)(f:XK):Prop
 |mk (b d) (r) (due) (i:vs=[.r b,.r d]) (j:iB H b r) (l:Rd H d (.d (A9 due))) (h:RJ due r) (m:∀g,fJ H g->Q (.t (Dz due r.2:Nat)) g)
theorem scRow:AI ["row",pW,nC,nM,nH] ["row",pW] (defScope G4):=gQ
theorem Yq(F:gE g rJ rJ G4 f o)(B:Bl j)(p:j "GREATEST"=U (tV 1048575 q))(l:Fn P w g j m rD 1 [nM] spIsName)(GT:Fn P w g j m qW 3 [nM,pW] spThing):
  AT P w g j m gG 4 f o ["row",pW] spRow:=by
 let(fN,dN,l,mN,kN,bN):=l.ex;let(fT,dT,GT,mT,kT,bT):=GT.ex;show F.m scRow λvs H Q E h=>?_;let(b,d,r,due,rfl,(tv,hb,hT),hd,RO,k):=h;show(Y,λI A N s y=>?_)
 show(_,AC (AU (PW.pt (Cw (Au (Al (BZ g Y Y B.iP Y B.56 Bs (Z 0)))) (By (AK Dc (AS (A8 g Y) Y B.50 tu (gX (Z 0))) AF (AO _))))) (AB Ad) AL)
  (AC (Bf (Z 0) (BG rfl (AQ (BX (i:=2) scRow.nd rfl (sU rfl)) (AQ (BX (i:=3) scRow.nd rfl (sU rfl)) Av))))
  (AC (AU (PW.pt (Cw (Au (Al (A5 l (y.63 qc) rfl mN kN bN tO Ai (gX (Z 2))))) (By (CW (Gk (BY y) (Z 2) (Z 1)))))) (AB Ad) AL)
  (AC (Da (i:=4) scRow.nd rfl (sU rfl) (A5 GT y rfl mT kT bT tO Ai (AA (Z 3) (gX (Z 1)))))
  (AC (AU (PW.pt (Cw (CW (Ju (Z 4))) (By (Au (FJ FH FH AF (Z 4) (BV (v:=.t 1048575) rfl p (q,rfl))))))) (AB Ad) AL)
  (AB (AJ (Z 4))))))),?_)
 show(7,_,_,_,L,Y,.t hb,Y,7,?_);apply AV;show(7,b,7,sY (gB.of hb),Y,7,?_);apply Qt rfl;show(7,b,7,gB.of hb,Y,_,7,_,7,Y,(7,r.1,Y,RO.nm.2.1,RO.nm.2.2,λD u=>(7,?_)));rw[RO.nm.1];apply AV;show(7,7,d,7,sU (A9 due,sS r.1,fJ.rd u hd,Y,(Hx RO.new).31),7,?_);apply AV;show(7,7,tv,r.2,d,due,Y,hT.15 u,fJ.rd u hd,RO.ahead,RO.th,λG C=>(7,7,?_));show BF (λz=>absurd (zS z) (_)) (λ_=>(7,_,7,Y,7,?_));show BF (λ_=>(_,7,Y,7,?_)) (λz=>absurd (zI (_)) z);let M:=RO.lt;apply Qt (show((Dz due r.2:Nat):Int)<=1048575 by lia);show(7,k _ (u.6 C))
inductive spNumbered(vs:nk)(H:Hp)(Q:VK)(b:XK):Prop
 |mk (l) (rows) (h:vs=[.r l]) (i:RowsAt H l rows) (j:0<rows.9) (g:rows.9<=10) (o:Ew rows) (m:∀d f,fJ H f->H d=J->f d=U (.d (A9 (At rows)))->Q (.r d) f)
theorem scNumbered:AI [qE,ox,"at","row",nH] [qE] (defScope Ir):=gQ
theorem NK{due}{x}{n:Nat}(h:x∉ due.7 (·.1)):BS (A9 due) (sS x:Key) (V.t (n))=A9 (due++[(x,(n))]):=by
 rw[Dd _ (Hx h)];unfold A9
 ext
theorem F7(due):(A9 due).9=due.9:=AN _
theorem CC:∀d,(At d).9=d.9:=λd=>by
 have:∀(l:List (Str×Th))a,(l.68 (λh r=>h++[(r.1,(Dz h r.2))]) a).9=a.9+l.9:=by
  intro l;induction l with
  |nil=>simp
  |cons x r i=>grind
 let e:=this d [];rw[length_nil]at e;unfold At
 ext
theorem Om(F:gE g "numbered" "numbered" Ir f q)(B:Bl m)(s:m "MOST_ROWS"=U (tV 10 u))(j:Fn P w g m o rJ 4 ["row",pW] spRow):AT P w g m o gG 5 f q [qE] spNumbered:=by
 let(fR,dR,j,mR,kR,bR):=j.ex;show F.m scNumbered λvs H al ag h=>?_;let(l,rows,rfl,(as,hl,hP),h0,mv,RO,k):=h;show(Y,λff A an ar T=>?_)
 show(_,AC (AU (PW.pt (Cw (Au (Al (BZ g Y Y B.iP Y B.67 Eu (Z 0)))) (By (Au (FJ FH FH AF (AS (A8 g Y) Y B.50 tu (gX (Z 0))) (BV (v:=.t 10) Y s (u,Y))))))) (AB Ad) AL)
  (AC (Da (i:=1) scNumbered.nd rfl (sU rfl) B8)
  (AC (Bt tK rfl (WR rfl B.enum (gX (Z 0))) (BG rfl (AQ (BX (i:=2) scNumbered.nd rfl (sU rfl)) (AQ (BX (i:=3) scNumbered.nd rfl (sU rfl)) Av)))
   (AC (Da (i:=4) scNumbered.nd rfl (sU rfl) (A5 j T rfl mR kR bR tO Ai (AA (Z 3) (gX (Z 1)))))
   (AC (AU (CW (Ju (Z 4))) (AB Ad) AL)
   (AB (Cn (BY T) (Z 1) (Ak (AZ g rfl) (Z 3) AF) (Z 4) rfl)))))
  (AB (AJ (Z 1))))),?_)
 show(7,_,_,_,L,Y,.lst hl,Y,7,?_);apply AV;let ab:(as.7 V.r).9=rows.9:=by rw[AN,hP.9]
 show(7,l,7,sU (fV.of hl),_,7,Y,7,BF (λ_=>?_) (λz=>absurd (zI ()) z));show(_,7,Y,7,?_);apply Qt (show(((as.7 V.r).9:Nat):Int)<=10 by lia);intro d E
 show(7,l,Y,(_,fV.of (AD (fJ.r _) E _ _ hl)),Um (λi G v=>E₃ λM N Q=>C₃ (G=[U (.r l),U (.r d),M,N,Q]) (fJ H v) (v d=U (.d (A9 (At (rows.12 i))))))
  (J,J,J,rfl,AD (fJ.r _) E,fH) (λi G v _ x=>by let(_,_,_,_,C,_):=x;show fV.of (C _ _ hl)) ?_ ?_)
 ·rintro i y G v p hi ⟨M,N,Q,rfl,C,D⟩ S
  let(b,hb,rfl):∃b,as[i]?=U b/\y=V.r b:=by
   grind
  let(r,hr',hra):=CB hP hb;let R:=RO i r hr';let s3:fJ H (upd v p (.t [.t i,.r b])):=AD C S;let X:(upd v p (.t [.t i,.r b])) d=U (.d (A9 (At (rows.12 i)))):=by rwa[AE (AH D S)]
  show(p,7,gB.of fH,Y,_,7,_,7,Y,(7,7,b,d,r,At (rows.12 i),Y,hra.15 s3,sU X,R,λH4 I=>?_));show(7,7,BF (λz=>absurd (zS z) (_)) (λ_=>?_));let(tv,fk,_):=hra.15 (s3.6 I);show(7,7,7,b,_,0,.s r.1,Y,Y,gB.of fk,Y,d,7,jc.k (k:=sS r.1) (I _ _ X) (AR (by rw[F7,CC,zr];lia)),(_,_,7,Ks (s3.6 I) E,?_));rw[fH,NK R.new,zw,hr',ui,EM]
 ·rintro G v ⟨M,N,Q,rfl,C,D⟩;rw[ab,zt]at D;show(7,k d v C E D)
end
end Mk
namespace L2
open PySem
theorem Uo{T}(l:List T)(G)(f)(u:Paired G S l)(n:l.9<=1000)
  (p:∀i a,fJ H a->(i<l.9->I.go i a/\∀x w,I.j7 i a x w->w=a/\S[i]?=U x)/\I.stop l.9 a)
  (M:∀v m a(N:Option V->Hp->Prop),m∈l->G v m->fJ H a->(∀d,fJ a d->N (f m) d)->g v (FL P X) a λj a=>tt j a λb d=>if b=L then Q j d λy B=>N (U y) B else N J d)
  (D:∀a,fJ H a->R (l.35 f) a):tW I [] jU (bT g tt (jR Q) P X) R H:=
 DW (n:=l.9) (λi h a=>fJ H a/\h=(l.12 i).35 f) (fJ.r _,rfl) (λi h a k=>by let(_,e):=k;show J7 (by
   let A:=List.length_filterMap_le f (l.12 i);rw[zr]at A;rw[e]
   lia))
  (λi h a r (s,e)=>(((p i a s).1 r).1,λx w z=>by
   let(rfl,C):=((p i a s).1 r).2 x w z;let(m,t,E):=Mk.CB u C;show M x m w (λo d=>(fJ H d/\(match o with|some y=>h++[y]|none=>h)=(l.12 (i+1)).35 f)) (zN t) E s λd s3=>(s.6 s3,?_);rw[zw,t,List.filterMap_append,←e]
   cases q:f m<;>simp[q]))
  λh a F=>by let(s,e):=F;show ((p 0 a s).2,by rw[e,zt];show D a s)
section
variable {β:Type}
theorem Ku(l:List β)(G)(f)(p:Paired G w l)(q:A a=U (.l w))(n:l.9<=1000)
  (B:∀v m d(N:Option V->Hp->Prop),m∈l->G v m->fJ A d->(∀o,fJ d o->N (f m) o)->g v (FL C E) d λj d=>tt j d λb o=>if b=L then D j o λy t=>N (U y) t else N J o)
  (u:∀d,fJ A d->R (l.35 f) d):tW (lO H a) [] jU (bT g tt (jR D) C E) R A:=
 Uo l G f p n (λi d s=>(λr=>((w,w[i]'(by rw[p.9];show r),fV.of (s _ _ q),z7 _),λx z k=>by let(e,h):=k;show (e,h w (fV.of (s _ _ q)))),w,fV.of (s _ _ q),by rw[p.9];simp)) B u
theorem X1(l:List β)(G)(f)(p:Paired G w l)(q:A a=U (.t w))(n:l.9<=1000)
  (B:∀v m d(N:Option V->Hp->Prop),m∈l->G v m->fJ A d->(∀o,fJ d o->N (f m) o)->g v (FL C E) d λj d=>tt j d λb o=>if b=L then D j o λy t=>N (U y) t else N J o)
  (u:∀d,fJ A d->R (l.35 f) d):tW (mZ H a) [] jU (bT g tt (jR D) C E) R A:=
 Uo l G f p n (λi d s=>(λr=>((w,w[i]'(by rw[p.9];show r),gB.of (s _ _ q),z7 _),λx z k=>by let(e,h):=k;show (e,h w (gB.of (s _ _ q)))),w,gB.of (s _ _ q),by rw[p.9];simp)) B u
theorem HL{b}(f:b->V):∀l,Paired (λv m=>v=f m) (l.7 f) l
 | []=>tO
 |_::r=>tP rfl (HL f r)
end
end L2
namespace Mk
open PySem L2 MK PySem.NumText
theorem fQ.vs{d}{f}:∀{a}{l:List d},fQ H a (l.7 f)->Paired (λv m=>∃b,v=.r b/\H b=U (.t [(f m).1,(f m).2])) (a.7 V.r) l
 | [],[],_=>tO
 |_::_,_::_,tP h r=>tP (_,rfl,h) (fQ.vs r)
 | [],_::_,h=>by cases h
 |_::_,[],h=>by cases h
theorem NL{b d:Type}(f:b->d):∀l:List b,l.35 (λx=>U (f x))=l.7 f
 | []=>rfl
 |a::r=>by simp
theorem RL{b d:Type}(p:b->Bool)(f:b->d):∀l:List b,l.35 (λx=>if p x then U (f x)else J)=(l.21 p).7 f
 | []=>rfl
 |a::r=>by
  rw[zJ,RL p f r]
  grind
end Mk
namespace Mk
open PySem L2 MK
mutual
noncomputable def Ae(due:Aa):List (Nat×Str):=due.68 (λb p=>if (b.7 (·.1)).17 p.2 then b else b++[(p.2,(p.1))]) []
noncomputable def Cu(b:List (Nat×Str)):LK:=b.7 λq=>(uE (q.1:Int),(V.s q.2))
noncomputable def Cc(b:List (Nat×Str))(n:Nat):Str:=((b.76 λq=>decide (q.1=n)).7 (·.2)).44 (vj "")
theorem D3(due)(p):Ae (due++[p])=if ((Ae due).7 (·.1)).17 p.2 then Ae due else Ae due++[(p.2,(p.1))]:=by unfold Ae;ext
theorem JJ(n:Nat):∀b,An (Cu b) (uE (n):Key)=(b.76 λq=>decide (q.1=n)).7 λq=>V.s q.2
 | []=>rfl
 |q::r=>by
  change An ((uE (q.1:Int),(V.s q.2))::Cu r) (uE n)=_;by_cases e:q.1=n
  ·rw[BI (by rw[←e]),List.find?_cons_of_pos (_)];rfl
  ·rw[BE (λz=>e (_)),List.find?_cons_of_neg (_)];show JJ n r
theorem Kv{b:List (Nat×Str)}(h:n∈b.7 (·.1)):(b.76 λq=>decide (q.1=n)).24=L:=by
 ext
theorem IA{b}{n:Nat}(h:n∈b.7 (·.1)):An (Cu b) (uE (n):Key)=U (V.s (Cc b n)):=by
 rw[JJ];unfold Cc;let(q,a):=uD.mp (Kv h)
 ext
theorem JK{b}{n:Nat}(h:n∉ b.7 (·.1)):An (Cu b) (uE (n:Int):Key)=J:=by
 rw[JJ]
 grind
theorem On{b}{n:Nat}{x}(h:n∉ b.7 (·.1)):BS (Cu b) (uE (n):Key) (V.s x)=Cu (b++[(n,(x))]):=by
 rw[Dd _ (JK h)];unfold Cu
 ext
theorem Dp(due):(Ae due).9<=due.9:=by
 have:∀(l:Aa)(a:List (Nat×Str)),(l.68 (λb p=>if (b.7 (·.1)).17 p.2 then b else b++[(p.2,(p.1))]) a).9<=a.9+l.9:=by
  intro l;induction l with
  |nil=>ext
  |cons x r d=>
   grind
 let e:=this due [];rw[length_nil]at e;unfold Ae;omega
theorem Fp(due:Aa):∀a,(a.7 (·.1)).26->(∀n∈a.7 (·.1),n∈(due.68 (λb p=>if (b.7 (·.1)).17 p.2 then b else b++[(p.2,(p.1))]) a).7 (·.1)) /\
  ((due.68 (λb p=>if (b.7 (·.1)).17 p.2 then b else b++[(p.2,(p.1))]) a).7 (·.1)).26/\(∀p∈due,p.2∈(due.68 (λb p=>if (b.7 (·.1)).17 p.2 then b else b++[(p.2,(p.1))]) a).7 (·.1)) /\
  (∀q∈due.68 (λb p=>if (b.7 (·.1)).17 p.2 then b else b++[(p.2,(p.1))]) a,q∈a\/(q.2,(q.1))∈due):=by
 induction due with
 |nil=>simp[*]
 |cons p r t=>
  intro a o;rw[foldl_cons];by_cases h:(a.7 (·.1)).17 p.2=L
  ·rw[zf h];let(e,i,l,j):=t a o;show(e,i,λq d=>?_,λq d=>?_)
   ·let rfl||d:=mem_cons.mp d
    ·show e _ (by simpa using h)
    ·show l q d
   ·let z||z:=j q d
    ·show sU z
    ·show sY (_)
  ·rw[zg h];let(e,i,l,j):=t (a++[(p.2,(p.1))]) (by rw[zl];show WM o (λz=>h (by simpa using z)));show(λn u=>e n (by rw[zl];show zM _ u),i,λq d=>?_,λq d=>?_)
   ·let rfl||d:=mem_cons.mp d
    ·show e _ (_)
    ·show l q d
   ·let z||z:=j q d
    ·let z||z:=mem_append.mp z
     ·show sU z
     ·have:q=(p.2,(p.1)):=by simpa using z
      subst this;show sY zF
    ·show sY (_)
theorem ML(due):((Ae due).7 (·.1)).26:=(Fp due [] nodup_nil).2.1
theorem S0(h:p∈due):p.2∈(Ae due).7 (·.1):=(Fp due [] nodup_nil).2.2.1 p h
theorem JL(h:q∈Ae due):(q.2,(q.1))∈due:=by
 let z||z:=(Fp due [] nodup_nil).2.2.2 q h
 ·cases z
 assumption
inductive spFirsts(vs:nk)(H:Hp)(Q:VK)(b:XK):Prop
 |mk (d) (o) (due) (h:vs=[.r d]) (i:H d=U (.b o (.d (A9 due)))) (j:due.9<=100) (g:∀e f,fJ H f->H e=J->f e=U (.d (Cu (Ae due)))->Q (.r e) f)
theorem scFirsts:AI [ox,pT,nC,nH] [ox] (defScope FW):=gQ
theorem Up{due}{i:Nat}{a}(h:(A9 due)[i]?=U a):∃p,due[i]?=U p/\a=(sS p.1,(V.t (p.2:Int))):=by
 unfold A9 at h;rw[zx]at h;cases e:due[i]? with
 |none=>rw[e]at h;cases h
 |some p=>rw[e]at h;show(p,Y,(tS h).31)
theorem S4(F:gE g rp rp FW f b):AT P an g s m gG 1 f b [ox] spFirsts:=by
 show F.m scFirsts λvs H Q E h=>?_;let(d,o,a,rfl,M,T,k):=h;show(Y,λN A B al S=>?_)
 show(_,AC (Da (i:=1) scFirsts.nd Y (sU Y) B8)
  (AC (Bt tK rfl (J8 (Z 0)) (BG rfl (AQ (BX (i:=2) scFirsts.nd rfl (sU rfl)) (AQ (BX (i:=3) scFirsts.nd rfl (sU rfl)) Av)))
   (AB (Ah (Qq plainAttrs_dict slot_dict_setdefault type_dict_setdefault LL (Z 1) (AA (Z 3) (gX (Z 2)))))))
  (AB (AJ (Z 1)))),?_)
 intro e u
 show(7,d,o,A9 a,Y,AD (fJ.r _) u _ _ M,Sz (λi v l=>E₂ λy D=>C₃ (v=[U (.r d),U (.r e),y,D]) (fJ H l) (l e=U (.d (Cu (Ae (a.12 i))))))
  (J,J,rfl,AD (fJ.r _) u,fH) (λi v l n=>by let(_,_,_,r,_):=n;show r _ _ M) ?_ ?_)
 ·rintro i R v l p C ⟨y,D,rfl,r,j⟩ I;let(q,x,rfl):=Up C;let s3:fJ H (upd l p (.t [.s q.1,.t q.2])):=AD r I;let t:(upd l p (.t [.s q.1,.t q.2])) e=U (.d (Cu (Ae (a.12 i)))):=by rwa[AE (AH j I)]
  let w:a.12 (i+1)=a.12 i++[q]:=by rw[zw,x];rfl
  let ab:(Cu (Ae (a.12 i))).9<=100:=by
   unfold Cu;rw[AN];have:=Dp (a.12 i);rw[zr]at this
   lia
  show(p,7,gB.of fH,Y,_,7,_,7,Y,(7,sY (sY (sU (Y,sU (_,t)))),7,7,e,_,uE q.2,.s q.1,Y,Y,t,AR (),λag X=>?_,λG=>?_))
  ·show(_,7,s3,?_);let z:=Decidable.byContradiction λz=>by rw[JK z]at X;cases X
   rwa[w,D3,zf (_)]
  ·have z:q.2∉ (Ae (a.12 i)).7 (·.1):=λz=>by rw[IA z]at G;cases G
   show(_,7,Ks s3 u,?_);rw[fH,w,D3,zg (_),On z]
 ·rintro v l ⟨y,D,rfl,r,j⟩;rw[F7,zt]at j;show(7,k e l r u j)
def Oo(b d:nq)(r:Str):List (Str×V):=BD "rule" (.s r) (BD pT (.r d) (BD ox (.r b) []))
theorem IB(a d)(r):(Oo a d r).5 (ox:Str)=U (.r a):=by
 rfl
theorem Kw(d a)(r):(Oo d a r).5 (pT:Str)=U (.r a):=by
 rfl
theorem JM(a d)(r):(Oo a d r).5 ("rule":Str)=U (.s r):=by
 rfl
theorem Bw(i h)(r){m:Str}(d:¬ m="rule":=by decide +kernel)(e:¬ m=pT:=by decide +kernel)(a:¬ m=ox:=by decide +kernel):(Oo i h r).5 m=J:=by
 unfold Oo;rw[As,zg d,As,zg e,As,zg a];rfl
theorem Ww(a):(BD ox (V.r a) []).5 (ox:Str)=U (.r a):=by rfl
structure fZ(C:nq)(H:Hp)(p:nq)(due:Aa)(r:Str):Prop where
 ex:∃dx b d d2 f,H p=U (.i C dx (Oo b d2 r))/\H b=U (.b d (.d (A9 due)))/\H d2=U (.b f (.d (Cu (Ae due))))
theorem fZ.same{due}{r}(s:fJ H H')(h:fZ C H p due r):fZ C H' p due r:=by
 let(i,j,l,e,d,a,b,c):=h.ex;show⟨(i,j,l,e,d,s _ _ a,s _ _ b,s _ _ c)⟩
structure EQ(K:FG)(C:nq):Prop where
 cl:jz K C
 nN:g9 K C ox
 nF:g9 K C pT
 nR:g9 K C "rule"
noncomputable def gZ:ni:=[pZ,sy,pe,pN]
inductive spInit(C:nq)(vs:nk)(H:Hp)(Q:VK)(d:XK):Prop
 |mk (p dx l) (rows) (r) (h:vs=[.r p,.r l,.s r]) (i:H p=U (.i C dx [])) (j:RowsAt H l rows) (g:0<rows.9) (q:rows.9<=10) (m:Ew rows) (u:r∈gZ) (s:∀f,(∀b o,H b=U o->b≠p->f b=U o)->fZ C f p (At rows) r->Q .g f)
theorem Yr:AI [nv,qE,pO] [nv,qE,pO] (defScope C2):=gQ
theorem Ur(h:r∈gZ):jt (.s r) (gZ.7 V.s)=L:=by
 unfold jt;rw[any_map,any_eq_true];show(r,h,by change(r==r)=L;simp)
theorem Wx(F:gE g nV qM C2 f A)(an:Bl m)(T:EQ g C)(B:m "RULES"=U (sR R))(z:∀H,gB g H R (gZ.7 V.s))
  (r:Fn P w g m v "numbered" 5 [qE] spNumbered) (s:Fn P w g m v rp 1 [ox] spFirsts) (M:Fn P w g m v pS 1 [nM,oz] (DZ g)):AT P w g m v gG 6 f A [nv,qE,pO] (spInit C):=by
 let(fN,dN,r,mN,kN,bN):=r.ex;let(fF,dF,s,mF,kF,bF):=s.ex;let(fO,dO,M,mO,kO,bO):=M.ex;show F.m Yr λvs H az ar h=>?_;let(p,t,l,a,ab,rfl,hp,RA,h0,S,RO,L,k):=h;show(Y,λff al as aM hr=>?_);let y:gD 1 _:=hr.63 qc
 show(_,AC (B0 (Z 0) (A5 r hr Y mN kN bN tO Ai (gX (Z 1))) Y)
  (Dg (AC (AU (Au (Al (A5 M y rfl mO kO bO tO Ai (AA (Z 2) (gX (BV (v:=.r R) rfl B rfl)))))) (AB Ad) AL)
  (AC (B0 (Z 0) (A5 s y rfl mF kF bF tO Ai (gX (Ac (Z 0) rfl))) rfl)
  (Dg (AB (B0 (Z 0) (Z 2) rfl)))))),?_)
 show(7,l,a,Y,RA,h0,S,RO,λd Q X j kf=>?_);let u:=AH hp j;show(7,p,C,t,[],Y,X _ _ hp,T.cl,T.nN,(_),?_);show(d,A9 (At a),by rw[AE (sX u)];assumption,λN=>(7,sY (ab,R,gZ,Y,z _,7,?_)));rw[Ur L];apply AV;let x:∀o,(upd (upd Q p (.i C t (BD ox (.r d) []))) d o) p=U (.i C t (BD ox (.r d) [])):=λo=>by rw[AE u,fH]
 show(7,p,C,t,_,7,x _,T.cl,T.nN,Ww d,d,N,At a,Y,fH,by rw[CC];lia,λD H2 E i aC=>?_);let q:=AH (x _) i;show(7,p,C,t,7,E _ _ (x _),T.cl,T.nF,(by change 1<1000;decide),(D,Cu (Ae (At a)),by rw[AE (sX q)];assumption,λo2=>?_));let I:∀o,(upd (upd H2 p (.i C t (BD pT (.r D) (BD ox (.r d) [])))) D o) p=U (.i C t (BD pT (.r D) (BD ox (.r d) []))):=λo=>by rw[AE q,fH]
 show(7,7,p,C,t,7,I _,T.cl,T.nR,tw (Az _ _ _) (by change 2<1000;decide),k _ (λb o e G=>?_) ⟨(t,d,N,D,o2,fH,?_,?_)⟩)
 ·rw[AE G,AE,AE G]
  ·apply E _ _;rw[AE (AH e j),AE G];show X _ _ e
  ·intro ag;subst ag
   have:(upd (upd Q p (.i C t (BD ox (.r d) []))) d (.b N (.d (A9 (At a))))) b=U o:=by
    rw[AE (AH e j),AE G];show X _ _ e
   rw[i]at this;cases this
 ·rw[AE (sX u),AE (AH (fH) i),AE (sX u)];show E _ _ fH
 ·rw[AE (sX q),fH]
structure Mt(P:Program)(w:World)(K:FG)(mg:SV)(base:Heap)(C:nq)(m:Str)(k:Nat)(ps:ni)(sp:Sp):Prop where
 ex:∃f fd,AT P w K mg base gG k f fd ps sp/\Pc K C m f/\Binds K fd ps []
noncomputable def C9(due:Aa):List (V×V):=due.7 λp=>(V.s p.1,(V.t (p.2:Int)))
noncomputable def BM(due:Aa):List Nat:=((Ae due).7 (·.1)).mergeSort λa b=>decide (a<=b)
def Ab(due:Aa):List Nat:=(BM due).21 Bd
def Ga(due:Aa):List (V×V):=(Ab due).7 λn=>(V.s (Cc (Ae due) n),(V.t (n:Int)))
theorem Dr(due):(BM due).Perm ((Ae due).7 (·.1)):=List.mergeSort_perm _ _
theorem IC(due):(BM due).69 (· <= ·):=by
 have:=List.pairwise_mergeSort (le:=λa b=>decide (a<=b)) (λa b c e d=>by lia) (λa b=>by lia) ((Ae due).7 (·.1));show this.imp λh=>by ext
theorem Op{due}{j}(l:j.Perm ((Cu (Ae due)).7 λd=>match d.1 with|uE i=>i|sS _=>0))(f:j.69 (· <= ·)):j=(BM due).7 λn:Nat=>(n:Int):=by
 apply List.Perm.eq_of_pairwise (le:=(· <= ·)) (λa b _ _ o p=>Int.le_antisymm o p) f
 ·rw[pairwise_map];show(IC due).imp λh=>by ext
 ·have e:((Cu (Ae due)).7 λd=>match d.1 with|uE i=>i|sS _=>0)=((Ae due).7 (·.1)).7 λn:Nat=>(n:Int):=by
   unfold Cu;rw[map_map,map_map];rfl
  rw[e]at l;show l.6 ((Dr due).symm.7 _)
theorem mem_keysS{due}{n}:n∈BM due ↔ n∈(Ae due).7 (·.1):=(Dr due).mem_iff
theorem F8(due):(BM due).9<=due.9:=by
 rw[(Dr due).65,AN];show Dp due
inductive spRows(C:nq)(vs:nk)(H:Hp)(Q:VK)(b:XK):Prop
 |mk (p) (due) (r) (g:vs=[.r p]) (h:fZ C H p due r) (i:∀l f d,fJ H d->d l=U (.l (f.7 V.r))->fQ d f (C9 due)->Q (.r l) d)
theorem Ys:AI [nv] [nv] (defScope Iu):=gQ
theorem RM(due):(A9 due).7 (λa=>(kV a.1,(a.2)))=C9 due:=by unfold A9 C9;rw[map_map];rfl
theorem Wy(F:gE b qE "Kind.rows" Iu f g)(B:Bl m)(T:EQ b C):AT P w b m R gG 1 f g [nv] (spRows C):=by
 show F.m Ys λvs H Q E h=>?_;let(p,G,r,rfl,y,k):=h;show(Y,λD A e s S=>?_);let(q,a,i,M,N,x,d,J):=y.ex;show(_,AB (AJ (A0 (Pq Y) Y B.67 Eu (gX (T9 slot_dict_items type_dict_items UA (Ac (Z 0) Y))))),(7,p,C,q,_,7,x,T.cl,T.nN,IB _ _ _,a,Y,sU (_,sY (i,d)),a,7,Y,sY (i,d),λv u=>?_));let j:fJ H (upd H v (Qw a v)):=AD (fJ.r _) u;show(v,a,7,fH,fJ.rd j (sY (i,d)),λl I t o _ z ht=>?_);rw[RM]at ht;show k l I t (j.6 o) z ht
inductive spKnown(C:nq)(vs:nk)(H:Hp)(Q:VK)(b:XK):Prop
 |mk (p) (due) (r) (f:vs=[.r p]) (g:fZ C H p due r) (h:∀d,fJ H d->Q (.t (AY ((Ae due).7 (·.1)):Nat)) d)
theorem Wz:AI [nv] [nv] (defScope G6):=gQ
theorem Us(F:gE b ph "Kind.known" G6 f R)(B:Bl g)(T:EQ b C)(d:Fn P w b g m qC 1 [ox] (spUnionOf b)):AT P w b g m gG 2 f R [nv] (spKnown C):=by
 let(M,L,d,z,o,D):=d.ex;show F.m Wz λvs H Q E h=>?_;let(p,e,r,rfl,x,k):=h;show(Y,λG A a s j=>?_);let(t,J,N,q,v,u,I,i):=x.ex;show(_,AB (AJ (A5 d j Y z o D tO Ai (gX (A0 (Po Y) Y B.67 Eu (gX (Ac (Z 0) Y)))))),(7,p,C,t,_,7,u,T.cl,T.nF,Kw _ _ _,q,7,sY (v,i),λl y=>?_));show(l,(Ae e).7 (·.1),Y,fV.of (by rw[fH];unfold Cu BH;rw[map_map,map_map];rfl),k _ (AD (fJ.r _) y))
inductive spMarks(C:nq)(vs:nk)(H:Hp)(Q:VK)(b:XK):Prop
 |mk (p) (due) (r) (h:vs=[.r p]) (i:fZ C H p due r) (j:due.9<=60) (g:∀l f d,fJ H d->d l=U (.l (f.7 V.r))->fQ d f (Ga due)->Q (.r l) d)
theorem W0:AI [nv] [nv] (defScope G5):=gQ
theorem JN(s:fJ H d)(h:fQ H f g)(a:d b=U (.t [p.1,p.2])):fQ d (f++[b]) (g++[p]):=we (fQ.same s h) a
theorem Ut(F:gE g o7 "Kind.marks" G5 f q)(B:Bl m)(T:EQ g C)(I:Fn P al g m o "is_mark" 1 [nH] spIsMark):AT P al g m o gG 2 f q [nv] (spMarks C):=by
 let(fM,dM,I,mM,kM,bM):=I.ex;show F.m W0 λvs H aC as h=>?_;let(p,d,aR,rfl,KA,h60,k):=h;show(zd,λff ar az a0 S=>?_);let hu:=BY S;let(Y,d1,o1,X,o2,Z,h1,O):=KA.ex
 show(_,AB (AJ (BJ [nv] [U 0] (by rfl) (_) (by rfl) zd (Ay (AS (Hg zd) zd B.sorted C7 (gX (Ac (pv 0) zd))))
  (λ_ _ _ _ _ _=>DD (Al (A5 I S rfl mM kM bM tO Ai (gX (pv 0)))))
  (λ_ _ _ _ _ _=>Af (AA (Am hu (RI g rfl (pv 1) rfl) (pv 0)) (gX (pv 0)))))),?_)
 let aM:(Cu (Ae d)).9<=d.9:=by unfold Cu;rw[AN];show Dp d
 show(7,p,C,Y,_,7,Z,T.cl,T.nF,Kw _ _ _,X,7,sY (o2,O),by lia,λkv w=>?_,λl ns hl x ab=>?_)
 ·unfold Cu at w
  grind
 ·have A:=Op x ab;subst A;let s1:fJ H (upd H l (.l (((BM d).7 λn:Nat=>(n:Int)).7 V.t))):=AD (fJ.r _) hl;let v:((BM d).7 λn:Nat=>(n:Int)).7 V.t=BH (BM d):=(Hz _).31
  show(l,zd,(_,fV.of fH),DX (ω:=g) (a:=l) (xs:=BH (BM d))
   (λi D j=>∃u,D=u.7 V.r/\fJ H j/\j l=U (.l (BH (BM d)))/\fQ j u ((((BM d).12 i).21 Bd).7 λn=>(V.s (Cc (Ae d) n),(V.t (n:Int))))) ([],rfl,s1,by rw[fH,v],tO)
   (λi D j _ c=>by let(_,_,_,e,_):=c;show fV.of e) (λi D j (u,e,_,_,t)=>?_) ?_ ?_)
  ·have:=t.9;rw[e,AN,this,AN];let G:(((BM d).12 i).21 Bd).9<=((BM d).12 i).9:=zP _ _;rw[zr]at G;have:=F8 d
   lia
  ·rintro i a1 D j Q ⟨u,rfl,y,M,ht⟩;let(n,R,rfl):=NI Q;let an:n∈(Ae d).7 (·.1):=mem_keysS.mp (zN R);let E:((BM d).12 (i+1)).21 Bd=((BM d).12 i).21 Bd++(if Bd n then [n]else []):=PySem.take_succ_filter Bd _ i n R;show(7,n,zd,7,?_);show BF (λr=>?_) (λr=>?_)
   ·show(7,p,C,Y,_,7,y _ _ Z,T.cl,T.nF,Kw _ _ _,7,X,7,sU (_,uE (n:Int),fJ.rd y (sY (o2,O)),zd,(IA an).31),7,i1,λb N=>?_);show(u++[b],by ext,AD y N,by rw[AE (AH M N)];assumption,?_);rw[E,r,zf rfl,zl];show JN (AD (fJ.r _) N) ht fH
   grind
  ·rintro D j ⟨u,rfl,y,_,ht⟩ ag s
   let z:(BM d).12 (BH (BM d)).9=BM d:=by
    have:(BH (BM d)).9=(BM d).9:=by unfold BH;rw[AN]
    rw[this];show zt
   rw[z]at ht;show k ag u _ (AD y s) fH (fQ.same (AD (fJ.r _) s) ht)
theorem Oq{H}{a}{d}{i:Nat}{b}(h:fQ H a d)(e:a[i]?=U b):∃p,d[i]?=U p/\H b=U (.t [p.1,p.2]):=CB h e
theorem fZ.ins{H}{due}{C}{p}{r}(h:fZ C H p due r):∃e i d,H p=U (.i C e (Oo i d r)):=by
 let(e,i,l,d,j,a,_):=h.ex
 grind
theorem S5(due):(Ga due).9=(Ab due).9:=AN _
theorem RP(h:∀p∈due,p.2<2^20):∀n∈(Ae due).7 (·.1),n<2^20:=λn a=>by
 let(q,d,rfl):=zh.mp a;show h _ (JL d)
theorem Uu(h:∀p∈due,p.2<2^20):∀n∈Ab due,n<2^20:=λn a=>RP h n (mem_keysS.mp (mem_filter.mp a).1)
theorem ID(d:0<=x)(h:x<2^n):ua x<=n:=by
 let(m,rfl):=vz d;let e||a:=um m
 ·subst e;show tH _
 ·rw[FV a];show(vU ()).49 (by exact_mod_cast h)
theorem HM(a:0<=i)(d:i<xs.9):∃v,jH xs i=U v/\xs[i.30]?=U v:=by
 show(xs[i.30],?_,z7 (by omega));unfold jH j9
 ext
structure gC(d:nq)(H H':Hp):Prop where
 old:∀b o,H b=U o->b≠d->H' b=U o
 g6:∃a b,H' d=U (.l [.t a,.t b])
theorem gC.step(x:gC d H f)(s:fJ f i):gC d H i:=
 (λb o e h=>s _ _ (x.88 b o e h),by let(a,b,e):=x.g6;show(a,b,s _ _ e))
theorem gC.upd(x:gC d H f):gC d H (upd f d (.l [.t a,.t b])):=
 (λc o e h=>by rw[AE h];show x.88 c o e h,(a,b,fH))
theorem gC.trans(x:gC d H f)(y:gC d f h):gC d H h:=(λb o e a=>y.88 _ _ (x.88 b o e a) a,y.g6)
inductive spCell(b:FG)(vs:nk)(H:Hp)(Q:VK)(d:XK):Prop
 |mk (a) (g:List Int) (k) (i:vs=[.r a,.t k]) (j:fV b H a (g.7 V.t)) (l:g.9<=63) (h:0<=k) (m:∀v f,fJ H f->Q (.t v) f)
theorem Yt:AI [oy,qL] [oy,qL] (defScope Kk):=gQ
theorem XA(F:gE b rV rV Kk f g)(B:Bl m):AT P w b m M gG 1 f g [oy,qL] (spCell b):=by
 show F.m Yt λvs H Q E h=>?_;let(a,e,G,rfl,i,u,I,k):=h;show(Y,λD A l s t=>?_)
 show(_,AC (AU (AK (YY b Y t.42) (Z 0) (BA AG) (AO _)) (AB (AJ (AW Jy (Z 1) AF))) AL)
  (AB (AJ (AW Cm (Ak (Ao b rfl) (Z 0) (AW Gh (Z 1) (AS (A8 b rfl) rfl B.50 tu (gX (Z 0)))))
   (AW Jy (AW Qi (Z 1) (AS (A8 b rfl) rfl B.50 tu (gX (Z 0)))) AF)))),?_)
 show(7,tH _,λp y=>?_);let d:fJ H (upd H p (.l [])):=AD (fJ.r _) y;show(a,p,e,[],Y,Y,d.seq i,fV.of fH,7,BF (λo=>?_) (λo=>?_))
 ·show(7,_,7,Y,sY (qc,qc),k _ _ d)
 ·have q:=List.length_pos_iff.mpr (λz=>o (zI z));let C:(e.7 V.t).9=e.9:=AN _;let j:0<=G%((e.7 V.t).9):=vZ _ ();let(v,x,r):=HM j (vr _ ())
  let(n,rfl):∃n,v=V.t n:=by
   grind
  show(7,7,7,a,7,sU (d.seq i),_,7,Y,(by rw[C];ext),a,_,_,7,Y,d.seq i,x,(7,7,a,7,sU (d.seq i),_,7,Y,(by lia,by lia),_,7,Y,sY (qc,qc),_,7,Y,k _ _ d))
inductive spDrawn(vs:nk)(H:Hp)(Q:VK)(b:XK):Prop
 |mk (c k) (d:vs=[.t c,.t k]) (f:∀r,0<=r->Q (.t r) H)
theorem scDrawn:AI [pY,qL,rb] [pY,qL] (defScope JG):=gQ
theorem Uv(F:gE g qO qO JG f b):AT P w g y m gG 1 f b [pY,qL] spDrawn:=by
 show F.m scDrawn λvs H Q E h=>?_;let(c,j,rfl,k):=h;show(Y,λt A e s v=>?_)
 show(_,AC (Da (i:=2) scDrawn.nd Y (sU Y) (AW Gh (AW Cm (AW Jy (Z 0) AF) (AW Jy (AW Cm (Z 1) AF) AF)) AF))
  (AC (Da (i:=2) scDrawn.nd rfl (sU rfl) (AW Gh (AW Mq (Z 2) (Z 2)) AF))
  (AC (Da (i:=2) scDrawn.nd rfl (sU rfl) (AW Mq (AW Mq (AW Cm (AW Gh (Z 2) AF) AF) (AW Cm (AW OD (Z 2) AF) AF)) (Z 2)))
  (AB (AJ (AW Gh (Z 2) AF))))),?_)
 show(7,_,7,Y,sY (qc,qc),7,_,7,Y,_,7,Y,sY (qc,qc),_,7,Y,_,7,Y,(by change 0<_;decide),?_);generalize p:(c*6364136223846793005+(j+1)*1442695040888963407)%340282366920938463463374607431768211507=B
 let l:0<=B/\B<2^130:=by
  rw[←p];show(vZ _ qc,Int.lt_trans (vr _ qc) qc)
 let b1:ua B<=2^20:=tT (ID l.1 l.2) qc;subst p;show(7,7,_,7,Y,(b1,b1),_,7,Y,(by change 0<_;decide),?_);generalize q:(c*6364136223846793005+(j+1)*1442695040888963407)%340282366920938463463374607431768211507*((c*6364136223846793005+(j+1)*1442695040888963407)%340282366920938463463374607431768211507)%340282366920938463463374607431768211297=z
 let o:0<=z/\z<2^130:=by
  rw[←q];show(vZ _ qc,Int.lt_trans (vr _ qc) qc)
 let d:0<=z%18446744073709551557+1/\z%18446744073709551557+1<2^65:=by
  lia
 let a:0<=z/18446744073709551557+1/\z/18446744073709551557+1<2^131:=by
  lia
 let r:=Int.mul_nonneg d.1 a.1
 let u:(z%18446744073709551557+1)*(z/18446744073709551557+1)<2^196:=by
  have:=Int.mul_lt_mul' (Int.le_of_lt d.2) a.2 a.1 qc;show Int.lt_of_lt_of_le this qc
 subst q;show(7,_,7,Y,(by change 0<_;decide),_,7,Y,7,_,7,Y,(qc,PyProof.noPylong_of_log2 (_)),_,7,Y,_,7,Y,(tT (ID d.1 d.2) qc,tT (ID a.1 a.2) qc),(7,_,7,Y,(tT (ID r u) qc,tT (ID o.1 o.2) qc),?_));show(7,_,7,Y,(by change 0<_;decide),k _ ())
inductive iH(vs:nk)(H:Hp)(Q:VK)(f:XK):Prop
 |mk (d) (a b m) (j:vs=[.r d,.t m]) (l:H d=U (.l [.t a,.t b])) (o:0<m) (i:m<1073741824) (p:∀r g h,0<=r->r<m->Q (.t r) (upd H d (.l [.t g,.t h])))
theorem scRoll:AI [ny,oM,"_law_told_here"] [ny,oM] (defScope Ht):=gQ
inductive spRollB(vs:nk)(H:Hp)(Q:VK)(f:XK):Prop
 |mk (d) (a b m) (j:vs=[.r d,.t m]) (l:H d=U (.l [.t a,.t b])) (o:0<m) (i:m.87<9000) (p:∀r g h,0<=r->r<m->Q (.t r) (upd H d (.l [.t g,.t h])))
theorem Os(F:gE g oN oN Ht f G)(p:Fn P w g I D qO 1 [pY,qL] spDrawn):AT P w g I D gG 2 f G [ny,oM] spRollB:=by
 let(C,B,p,x,z,q):=p.ex;show F.m scRoll λvs H Q E h=>?_;let(d,a,b,m,rfl,e,j,u,k):=h;show(Y,λv A o s t=>?_)
 show(_,AC (AU (AK Nt (Ak (Ao g Y) (Z 0) AF) (AW Pb AF AF) (AO _))
   (AC (Da (i:=2) scRoll.nd rfl (sU rfl) (AW Gh (Ak (Ao g rfl) (Z 0) AF) (Z 1)))
   (AC (Bf (AW OD (Ak (Ao g rfl) (Z 0) AF) (Z 1)) (Ma (Z 0) AF HV))
   (AB (AJ (Z 2))))) AL)
  (AC (Bf (AW Cm (Ak (Ao g rfl) (Z 0) AF) AF) (Ma (Z 0) AF HV))
  (AB (AJ (AW Gh (AW Qi (A5 p t rfl x z q tO Ai (AA (Ak (Ao g rfl) (Z 0) AF) (gX (Ak (Ao g rfl) (Z 0) AF)))) AF) (Z 1))))),?_)
 show(7,d,_,0,.t a,Y,Y,fV.of e,Bp Y,_,7,Y,(qc,qc,qc),_,7,Y,7,BF (λ_=>?_) (λ_=>?_))
 ·show(7,d,_,0,.t a,Y,Y,fV.of e,Bp Y,7,_,7,Y,j,(7,d,_,0,.t a,Y,Y,fV.of e,Bp Y,7,_,7,Y,(j,PyProof.noPylong_of_log2 u),7,d,_,0,0,Y,Y,e,Y,?_));show(7,k _ (a/m) b (vZ _ ()) (vr _ j))
 ·show(7,d,_,1,.t b,Y,Y,fV.of e,Bp Y,_,7,Y,7,d,_,1,1,Y,Y,e,Y,?_);let l:(upd H d (.l ([V.t a,V.t b].set 1 (V.t (b+1))))) d=U (.l [.t a,.t (b+1)]):=fH;show(7,d,_,0,.t a,Y,Y,fV.of l,Bp Y,7,d,_,1,.t (b+1),Y,Y,fV.of l,Bp Y,_,7,λr y=>(_,7,Y,(qc,qc),7,_,7,Y,j,?_));show k _ a (b+1) (vZ _ ()) (vr _ j)
theorem X2(F:AT P w y r g b k f m u v)(h:∀vs H Q E,e vs H Q E->v vs H Q E):AT P w y r g b k f m u e:=
 (λvs H Q E q=>F.len _ _ _ _ (h _ _ _ _ q),λA a s H d i vs Q E j o l p q=>F.run A a s H d i vs Q E j o l p (h _ _ _ _ q))
theorem XB(F:gE g oN oN Ht f r)(l:Fn P w g s p qO 1 [pY,qL] spDrawn):AT P w g s p gG 2 f r [ny,oM] iH:=X2 (Os F l) λvs H Q E h=>by
 let(d,a,b,m,e,j,i,o,q):=h;show(d,a,b,m,e,j,i,?_,q)
 have:m.natAbs<2^30:=by
  lia
 have:=(vU ()).49 this
 lia
inductive spRuleOf(vs:nk)(H:Hp)(Q:VK)(f:XK):Prop
 |mk (d) (a b) (h:vs=[.r d]) (i:H d=U (.l [.t a,.t b])) (j:∀r g,r∈([pZ,sy,pe,pN]:ni)->gC d H g->Q (.s r) g)
theorem Uw:AI [ny] [ny] (defScope HH):=gQ
theorem S6(F:gE g qr qr HH f X)(j:Fn P w g mg m oN 2 [ny,oM] iH):AT P w g mg m gG 3 f X [ny] spRuleOf:=by
 let(T,dR,j,B,O,M):=j.ex;show F.m Uw λvs H Q E h=>?_;let(d,a,b,rfl,y,k):=h;show(Y,λN A q s D=>?_);show(_,AB (AJ (Ak (Ao g Y) (BA (AA AM (AA AM (AA AM (gX AM))))) (A5 j D Y B O M tO Ai (AA (Z 0) (gX AF))))),((_),λp u=>?_));let i:=AH y u;show(7,d,a,b,4,Y,by rw[AE i];show y,qc,qc,λr C R G S=>?_);let(v,L,l):=HM (xs:=[V.s pZ,V.s sy,V.s pe,V.s pN]) G qe
 let t:∃x,v=.s x/\x∈([pZ,sy,pe,pN]:ni):=by
  have:=zN l;simp at this;let z||z||z||z:=this
  ·show(_,z,by simp)
  ·show(_,z,by simp)
  ·show(_,z,by simp)
  ·show(_,z,by simp)
 let(x,rfl,I):=t;show(p,_,r,7,Y,fV.of (by rw[AE (sX i),fH]),L,k x _ I (λc o e ab=>?_,(C,R,fH)))
 rwa[AE ab,AE (AH e u)]
theorem RS(n k:Nat):decide (V.t (tD ((n)/2^((0:Int)+(k)).30) 1)=V.t 1)=n.29 k:=by
 let a:(0+(k:Int)).30=k:=by ext
 let d:(n:Int)/2^k=((n/2^k:Nat)):=by push_cast;rfl
 let e:tD ((n/2^k:Nat)) 1=((n/2^k%2:Nat)):=by
  have:=CV (n/2^k) 1
  rwa[Nat.and_one_is_mod]at this
 rw[a,d,vC];show decide_eq_decide.49 (λh=>?_,λh=>?_)
 ·grind
 ext
inductive spRounds(d:FG)(vs:nk)(H:Hp)(Q:VK)(f:XK):Prop
 |mk (a) (i:List Int) (m:vs=[.r a,.t 3]) (o:fV d H a (i.7 V.t)) (p:i.9<=63) (j:∀l(g:List nq)h,fJ H h->h l=U (.l (g.7 V.r))->g.26->l∉ g->g.9<=4->(∀b∈g,H b=J/\∃x y,h b=U (.l [.t x,.t y]))->Q (.r l) h)
theorem Ux:AI [oy,oG] [oy,oG] (defScope HF):=gQ
theorem S7(F:gE g rA rA HF f s)(B:Bl m)(I:Fn P w g m o rV 1 [oy,qL] (spCell g)):AT P w g m o gG 2 f s [oy,oG] (spRounds g):=by
 let(fC,dC,I,mC,kC,bC):=I.ex;show F.m Ux λvs H al ab h=>?_;let(a,t,rfl,O,J,k):=h;show(Y,λff A ag ar E=>?_)
 show(_,AB (AJ (BJ [oy] [im 0] (by rfl) (_) (by rfl) rfl
  (Cy rfl B.range (gX (AS (R8 rfl) rfl B.max Yo (AA AF (gX (AS (R9 rfl) rfl B.min Yn (AA (Z 1) (gX (AS (A8 g rfl) rfl B.50 tu (gX (Z 0)))))))))))
  (λ_ _ _ _ _ _=>BP)
  (λ_ _ _ _ _ _=>BA (AA (A5 I E rfl mC kC bC tO Ai (AA (Z 1) (gX (Z 0)))) (gX AF))))),?_)
 show(7,7,a,7,sU O,_,7,_,7,7,?_,?_,?_)
 ·lia
 ·lia
 ·generalize X:(if (if (((t.7 V.t).9):Int)<3 then (((t.7 V.t).9):Int)else 3)>1 then (if (((t.7 V.t).9):Int)<3 then (((t.7 V.t).9):Int)else 3)else 1).30=n
  let n5:n<=4:=by
   rw[←X];split<;>split<;>lia
  apply Ee (lo:=0) (n:=n) (λi N D=>∃d,N=d.7 V.r/\d.9=i/\i<=4/\fJ H D/\d.26/\∀b∈d,H b=io/\∃x y,D b=im (.l [.t x,.t y])) ([],rfl,rfl,qc,fJ.r _,nodup_nil,λb q=>nomatch q)
  ·grind
  ·rintro i N D hi ⟨d,rfl,e,G,r,M,q⟩;show(7,7,a,t,7,r.seq O,J,by ext,λv H3 s3=>(i1,λp u=>(d++[p],by ext,by ext,by lia,AD (r.6 s3) u,?_,λb j=>?_)))
   ·show nodup_append.49 (M,zi.49 (not_mem_nil,nodup_nil),?_);intro x Q y T;rw[zz]at T;subst T;let(_,S,U,C):=q x Q;show AH (s3 _ _ C) u
   ·let z||z:=mem_append.mp j
    ·let(L,S,U,C):=q b z;show(L,S,U,AD s3 u _ _ C)
    ·rw[zz]at z;subst z;show(?_,v,0,fH);cases e:H b with
     |none=>rfl
     |some an=>
      have:=s3 _ _ (r _ _ e);rw[this]at u;cases u
  ·rintro N D ⟨d,rfl,e,G,r,M,q⟩ l R;show k l d _ (AD r R) fH M ?_ () λb j=>?_
   ·grind
   ·let(L,x,y,C):=q b j;show(L,x,y,AD (fJ.r _) R _ _ C)
inductive spBitsOf(vs:nk)(H:Hp)(Q:VK)(b:XK):Prop
 |mk (n:Nat) (g:vs=[.t (n)]) (h:∀l f d,fJ H d->d l=U (.l f)->f.9=(Gy n).9->Q (.r l) d)
theorem Uy:AI [nI] [nI] (defScope HG):=gQ
theorem S8(F:gE m qX qX HG f b)(B:Bl g):AT P w m g v gG 1 f b [nI] spBitsOf:=by
 show F.m Uy λvs H Q E h=>?_;let(n,rfl,k):=h;show(Y,λp A j s r=>?_)
 show(_,AB (AJ (BJ [nI] [U 0] (by rfl) (_) (by rfl) Y (Cy Y B.range (gX AF))
  (λ_ _ _ _ _ _=>DD (AK Aq (AW Bh (AW YK (Z 1) (Z 0)) AF) AF (AO _)))
  (λ_ _ _ _ _ _=>AW Mb AF (Z 0)))),?_)
 show(42,Y,qc,qc,?_);apply Ee (lo:=0) (n:=42) (λi a d=>a.9=((uP i).21 λk=>n.29 k).9/\i<=42/\d=H) (rfl,qc,rfl)
 ·grind
 ·rintro i a d t ⟨e,_,rfl⟩;show(7,7,_,7,Y,(),_,7,Y,(Y,7,?_))
  let u:((uP (i+1)).21 λk=>n.29 k).9=((uP i).21 λk=>n.29 k).9+(if n.29 i then 1 else 0):=by
   rw[List.range_succ,filter_append,zE,filter_cons];split<;>rfl
  show BF (λh=>?_) (λh=>?_)
  ·have q:n.29 i=L:=by rwa[←RS]
   show(7,_,7,Y,(by lia,by lia,by ext),?_,by lia,Y)
   ext
  ·have q:n.29 i=O:=by rw[←RS];show vf.49 h
   show(?_,by lia,Y)
   ext
 ·rintro a d ⟨e,_,rfl⟩ l o;show k l a _ (AD (fJ.r _) o) fH e
end
end Mk
namespace L2
open PySem
mutual
def Uz(t u:TS):TS:=λD b H=>∃G:St->Hp->Prop,(∀R,(∀b H,G b H->R b H)->t {D with nx:=R} b H)/\∀b H,G b H->u D b H
theorem Aw(e:PS X st t)(i:iZ X f u):iZ X (st::f) (Uz t u):=λd s h H D I z=>by let(_,a,b):=z;show AC e i d s h H D I (a (u D) b)
theorem A4(i)(l:X.N.26)(j:PE X e m)(a:X.N[i]?=U x:=by rfl)(h:Loc X.37 x:=by first|show .inl rfl|show .inr rfl)(b:swapsWith e (U (tI x g)) f.70 X.e=pure O:=by rfl)(d:X.fn x=L\/X.28 x=U uo:=by first|show .inl rfl|show .inr rfl|assumption):PS X (vn [tI x g] e f) (V9 m (Cl i)):=Da l a h j b d
theorem A7(i)(e:X.N.26)(a:X.N[i]?=U x:=by rfl)(d:Loc X.37 x:=by first|show .inl rfl|show .inr rfl)(h:X.fn x=L\/X.28 x=U uo:=by first|show .inl rfl|show .inr rfl|assumption):PG X (tI x b) (Cl i):=BX e a d h
theorem Bj(h:PE X o to)(i:PA X [e] t)(a:attributeBase o "append" X.e (eval o X.e)=eval o X.e:=by rfl)(b:starEach [e] X.e=(O,(eval e X.e))::starEach [] X.e:=by rfl)(d:(f.endLine==g.70)=L:=by rfl):PE X (uJ (tR o "append" f) [e] [] g) (tBM X.K oq Mi to t):=Qq plainAttrs_list PySem.F.slot_list_append PySem.F.type_list_append SA h i a (by rw[b];rfl) d b rfl
theorem iL(h:∀N,u D=N->t {D with nx:=N} b H):YF t u D b H:=h _ rfl
theorem my(h:∀N,u D=N->Uz t (λ_=>N) D b H):Uz t u D b H:=h _ rfl
theorem egM{g:TG}{t:TS}{D}(h:∀e,D.nx=e.nx->g x b H λa d=>t e a d):g x b H λa d=>t D a d:=h _ rfl
theorem egN{t:TS}{D}{b:St}(h:∀d,D.nx=d.nx->t d (b.set i (U x)) H):Cl i x b H λa e=>t D a e:=h _ rfl
theorem ir{M N:St->Hp->Prop}(e:M=N)(h:M b H):N b H:=e ▸ h
end
end L2
namespace Mk
open PySem L2 MK
mutual
def gF(H d:Hp):Prop:=∀b f,H b=U (.t f)->d b=U (.t f)
theorem gF.of(s:fJ H d):gF H d:=λb a e=>s _ _ e
theorem gF.upd(h:H d=U (.l f)):gF H (upd H d (.l ys)):=λb a e=>by
 rwa[AE (λz=>by ext)]
theorem gF.trans(x:gF H f)(y:gF f a):gF H a:=λb d e=>y _ _ (x _ _ e)
theorem fQ.gK(s:gF H b)(h:fQ H d f):fQ b d f:=Paired.mapP h λ_ _ e=>s _ _ e
theorem jw.gK(s:gF H f)(h:jw H v b):jw f v b:=by
 cases b with
 |gJ=>show h
 |num n=>show h
 |mj d=>let(a,e,h):=h;show(a,e,s _ _ h)
theorem iB.gK{r}(s:gF H d)(h:iB H b r):iB d b r:=by
 let(a,e,t):=h;show(a,s _ _ e,t.gK s)
theorem CD(s:gF H b)(h:Paired (iB H) d f):Paired (iB b) d f:=Paired.mapP h λ_ _ e=>e.gK s
noncomputable def Jl(due:Aa):List PyData:=due.7 λp=>uU [uN p.1,.int (p.2:Int)]
theorem U0(h:H b=U (.t [.s x,.t n])):CP d H (uU [uN x,.int n]) (.r b):=by
 show(b,7,gB.of h,?_);show(_,7,by rw[CP],(_,7,by rw[CP],?_));rw[Bv]
theorem IE:∀{due}{bs},fQ H bs (C9 due)->Bv f H (Jl due) (bs.7 V.r)
 | [],bs,h=>by
  have:=vP (by rw[h.9];rfl);subst this;change Bv f H [] [];rw[Bv]
 |p::r,[],h=>by have:=h.9;simp[C9]at this
 |p::r,b::bs,h=>by
  let a:H b=U (.t [.s p.1,.t p.2])/\fQ H bs (C9 r):=by
   cases h with
   |cons e d=>trivial
  change Bv f H (uU [uN p.1,.int p.2]::Jl r) (V.r b::bs.7 V.r);show(_,7,U0 a.1,IE a.2)
theorem ER:∀b:ni,Bv d H (b.7 uN) (b.7 V.s)
 | []=>by change Bv d H [] [];rw[Bv]
 |x::r=>by
  change Bv d H (uN x::r.7 uN) (V.s x::r.7 V.s);show(_,7,by rw[CP],ER r)
theorem CS(h:H l=U (.l b))(d:Bv f H ds b):CP f H (vB ds) (.r l):=by
 show(l,b,Y,fV.of h,d)
theorem XC:Bv b H [] []:=by rw[Bv]
theorem RT(b):tZ (vB b) (vB [])=b.99:=by
 cases b with
 |nil=>rfl
 |cons a r=>rfl
theorem Ds(h:x.27 (· < 128)=L):PyData.strOk x=L:=by
 unfold PyData.strOk
 grind
theorem NM(h:∀d∈b,d.canLay0=L):PyData.canLayAll0 b=L:=by
 induction b with
 |nil=>rfl
 |cons a r e=>rw[PyData.canLayAll0,h a zF,e λd i=>h d (_)];rfl
theorem Yu(h:∀d∈b,d.depth<=k):vm b<=k:=by
 induction b with
 |nil=>rw[vm];simp
 |cons a r e=>rw[vm];grind
theorem Fq(h:∀d∈b,d.canLay0=L/\d.depth<=60):uF (vB b)=L:=by
 unfold uF;rw[tA,decide_eq_true_eq];show(by rw[PyData.canLay0];show NM λd a=>(h d a).1,?_);rw[vy];have:=Yu λd a=>(h d a).2
 lia
theorem U1(h:x.27 (· < 128)=L):(uU [uN x,.int n]).canLay0=L/\(uU [uN x,.int n]).depth<=60:=by
 show(?_,?_)
 ·show NM λd a=>?_;simp at a;let rfl||rfl:=a
  ·show Ds h
  rfl
 ·simp only[vy,vm]
  decide
theorem Ft(h:∀p∈due,p.1.27 (· < 128)=L):uF (vB (Jl due))=L:=Fq λd e=>by
 let(p,a,rfl):=zh.mp e;show U1 (h p a)
theorem DP{b:ni}(h:∀x∈b,x.27 (· < 128)=L):uF (vB (b.7 uN))=L:=Fq λd a=>by
 let(x,e,rfl):=zh.mp a;show(by rw[PyData.canLay0];show Ds (h x e),by simp[vy])
theorem QN:uF (vB [])=L:=by rfl
def uni(due:Aa)(b:ni):Nat:=AY (due.7 λp=>if jt (.s p.1) (b.7 V.s)then p.2 else 0)
theorem RU(x)(a:ni):jt (.s x) (a.7 V.s)=a.91 (· == x):=by
 unfold jt;rw[any_map];rfl
theorem Cs(a:(due.7 (·.1)).26)(h:p∈due):look due p.1=p.2:=by
 induction due with
 |nil=>cases h
 |cons q r d=>
  rw[map_cons,zi]at a;unfold look;by_cases e:q.1=p.1
  ·ext
  ·rw[List.find?_cons_of_neg (_)];let z||z:=mem_cons.mp h
   ·ext
   ·show d a.2 z
theorem Yv(l:(due.7 (·.1)).26)(b:∀x∈j,x∈due.7 (·.1)):uni due j=AY (j.7 (look due)):=by
 show ue λk=>?_;unfold uni;rw[DY,DY,any_map,any_map,uQ,any_eq_true,any_eq_true];constructor
 ·rintro⟨p,d,a⟩;simp at a;by_cases h:jt (.s p.1) (j.7 V.s)=L
  ·rw[zf h]at a;rw[RU,any_eq_true]at h;let(x,i,e):=h;let o:x=p.1:=by simpa using e
   subst o;show(p.1,i,by simp;rw[Cs l d];show a)
  ext
 ·rintro⟨x,i,a⟩;let(p,d,rfl):=zh.mp (b x i);show(p,d,?_);simp at a ⊢;rw[Cs l d]at a;rw[zf (by rw[RU];ext)];show a
theorem Ot(h:Ew b)(a:RJ (At b) r):Ew (b++[r]):=by
 intro i q e;let z||z||z:=Nat.lt_trichotomy i b.9
 ·rw[List.getElem?_append_left z]at e;rw[List.take_append_of_le_length (sZ z)];show h i q e
 ·subst z;have:r=q:=by simpa using e
  subst this
  rwa[List.take_append_of_le_length (zp _),zt]
 ·rw[List.getElem?_eq_none (_)]at e;cases e
theorem Kx(h:Ew b)(j:b.9<=10):Bi (At b):=by
 let d:∀n,n<=b.9->Bi (At (b.12 n)):=by
  intro n;induction n with
  |zero=>intro _;rw[List.take_zero];show⟨qc,(λp a=>nomatch a),nodup_nil,(λp a=>nomatch a)⟩
  |succ n o=>
   intro r;let D:=o ();let e:b[n]?=U b[n]:=z7 ();let R:=h n _ e;rw[zw,e,ui,EM];show(?_,λp a=>?_,?_,λp a=>?_)
   ·rw[zE,List.length_singleton];have:=R.few;assumption
   ·let z||z:=mem_append.mp a
    ·show D.lt p z
    ·rw[zz]at z;subst z;show R.lt
   ·rw[zl];show nodup_append.49 (D.nd,zi.49 (not_mem_nil,nodup_nil),?_);intro x l y i;let q:y=(b[n]).1:=by simpa using i
    subst q;show λz=>R.new (z ▸ l)
   ·let z||z:=mem_append.mp a
    ·show D.nm p z
    ·rw[zz]at z;subst z;show R.nm
 have:=d b.9 (zp _)
 rwa[zt]at this
theorem gT(G:Fn X.p X.w X.K X.m X.b x k s r)(q:gD h X.A)(j:PA X (e::f) t)(i:k<=h:=by decide)(o:Gl X x:=by rfl)(a:jg x:=by decide)(l:jC X e f:=by rfl)(d:(backTo g (starEach f X.e)).91 (·.1)=O:=by rfl):PE X (uJ (tI x p) (e::f) [] g) (Ny r [] E0 t):=by
 let(_,_,F,m,kp,b):=G.ex;show A5 F (q.63 i) o m kp b tO Ai j a l d
theorem Yw(p q)(e:∀a:Bool->Hp->Prop,a p H->A b H a)(d:∀a,a q H->B b H a)(h:Q (p||q) H):tOr A B b H Q:=by
 apply e _;cases p with
 |true=>show Aj h
 |false=>show AV (d _ h)
theorem XD(p q)(e:∀a:Bool->Hp->Prop,a p H->A f H a)(d:∀a,(∀b,fJ H b->a q b)->B f H a)(h:∀b,fJ H b->Q (p&&q) b):Zh A B f H Q:=by
 apply e _;cases p with
 |true=>show Aj (d _ h)
 |false=>show AV (h _ (fJ.r _))
theorem MM(s:fJ H b)(h:b p=J):H p=J:=by
 cases e:H p with
 |none=>rfl
 |some o=>rw[s _ _ e]at h;cases h
theorem EG(h:PA X b t):PA X (uB (.str x) j p::b) (A3 (tC (.s x)) t):=AA AM h
theorem S9:PA X [uB (.str b) y u,uB (.str f) B w,uB (.str g) l C,uB (.str m) q D,uB (.str a) s E,uB (.str i) A G,uB (.str d) r H,uB (.str e) o p,uB (.str j) v t,uB (.str h) x z] (A3 (tC (.s b)) (A3 (tC (.s f)) (A3 (tC (.s g)) (A3 (tC (.s m)) (A3 (tC (.s a)) (A3 (tC (.s i)) (A3 (tC (.s d)) (A3 (tC (.s e)) (A3 (tC (.s j)) (A3 (tC (.s h)) (Cz))))))))))):=EG (EG (EG (EG (EG (EG (EG (EG (EG (EG (AG))))))))))
theorem Cd{H}{due}{bs}{i:Nat}{v}(h:fQ H bs (C9 due))(e:(bs.7 V.r)[i]?=U v):∃b p,v=.r b/\bs[i]?=U b/\due[i]?=U p/\H b=U (.t [.s p.1,.t (p.2:Int)]):=by
 let(b,d,rfl):∃b,bs[i]?=U b/\v=V.r b:=by
  grind
 let(l,a,j):=Oq h d;unfold C9 at a
 grind
noncomputable def g8:ni:=["A","B","CD","EFG","H","IJKLMN","O","P","Q","R"]
theorem U2:∀x∈g8,Yp x:=by
 have:∀x∈g8,(C8 x&&x.27 (· < 128)&&decide (x.9<=1000))=L:=by decide +kernel
 intro x a;have:=this x a;simp only[tA,decide_eq_true_eq]at this;show(this.1.1,this.1.2,this.2)
theorem TC:∀i:Fin 10,(g8[i.1]?.7 λx=>decide (x∈g8.12 i.1))=U O:=by trivial
structure LW(d w f u:nq)(H0 H:Hp)(rows:List (Str×Th)):Prop where
 old:∀b o,H0 b=U o->b≠d->H b=U o
 g6:∃a b,H d=U (.l [.t a,.t b])
 words:H w=U (.l (g8.7 V.s))
 found:∃as,H f=U (.l (as.7 V.r))/\Paired (iB H) as rows
 due:∃bs,H u=U (.l (bs.7 V.r))/\fQ H bs (C9 (At rows))
structure Ap(d w f u:nq)(H0:Hp):Prop where
 wd:w≠d
 fd:f≠d
 ud:u≠d
 wf:w≠f
 wu:w≠u
 fu:f≠u
 nf:H0 f=J
 nu:H0 u=J
theorem LW.same{i}(h:LW d w f u g H i)(s:fJ H H'):LW d w f u g H' i:=by
 let(a,b,e):=h.g6;let(j,r,p):=h.found;let(bs,l,t):=h.45;show(λc o q v=>s _ _ (h.88 c o q v),(a,b,s _ _ e),s _ _ h.words,(j,s _ _ r,CD (gF.of s) p),(bs,s _ _ l,fQ.gK (gF.of s) t))
theorem LW.roll(A:Ap d w f u g)(h:LW d w f u g H m)(i j):LW d w f u g (upd H d (.l [.t i,.t j])) m:=by
 let(a,b,e):=h.g6;let(p,x,r):=h.found;let(bs,q,y):=h.45;let t:gF H (upd H d (.l [.t i,.t j])):=gF.upd e;show(λc o v l=>by rw[AE l];show h.88 c o v l,(i,j,fH),by rw[AE A.wd];show h.words,(p,by rw[AE A.fd];show x,CD t r),(bs,by rw[AE A.ud];show q,fQ.gK t y))
theorem ES(h:fQ H bs (C9 (At b))):bs.9=b.9:=by
 rw[h.9];unfold C9;rw[AN,CC]
theorem U3(d):(At d).7 (·.1)=d.7 (·.1):=by
 have:∀(l:List (Str×Th))a,((l.68 (λe r=>e++[(r.1,(Dz e r.2))]) a).7 (·.1))=a.7 (·.1)++l.7 (·.1):=by
  intro l;induction l with
  |nil=>simp
  |cons x r h=>ext
 unfold At;rw[this d []];rfl
noncomputable def dG:St->Nat
 | [_,_,_,_,_,_,_,_,_,U (.t i),_,_]=>(2^22-i).30
 |_=>0
inductive spLines(vs:nk)(H:Hp)(Q:VK)(g:XK):Prop
 |mk (d) (a b M) (m:vs=[.r d,.t M]) (o:1<=M) (p:M<=10) (l:H d=U (.l [.t a,.t b])) (r:∀q f u j bs i h,gC d H h->h q=U (.t [.r f,.r u])->H f=J->H u=J->h f=U (.l (j.7 V.r))->Paired (iB h) j i->h u=U (.l (bs.7 V.r))->fQ h bs (C9 (At i)) ->     0<i.9->(i.9:Int)<=M->Ew i->(∀x∈i.7 (·.1),x∈g8)->Q (.r q) h)
noncomputable abbrev Yx:ni:=[ny,oG,pE,pP,n8,"_law_at","_law_high","_law_kind","_law_thing",nI,og,rb]
@[irreducible] def QO:Expr:=match defBody C6 with|vn _ (uV (e::_) _ _) _::_=>e|_=>uB .none 0 (0,0,0,0)
abbrev XG:Stmt:=match defBody C6 with|vn t (uV (_::r) k p) q::_=>vn t (uV (QO::r) k p) q|_=>.Pass (0,0,0,0)
abbrev Yy:List Stmt:=(defBody C6).drop 1
theorem Yz:defBody C6=XG::Yy:=by kernel_rfl
theorem TF:PE X QO (YO (A3 (tC (.s "A")) (A3 (tC (.s "B")) (A3 (tC (.s "CD")) (A3 (tC (.s "EFG")) (A3 (tC (.s "H")) (A3 (tC (.s "IJKLMN")) (A3 (tC (.s "O")) (A3 (tC (.s "P")) (A3 (tC (.s "Q")) (A3 (tC (.s "R")) (Cz)))))))))))):=by
 unfold QO;show BA S9
theorem gW:AI Yx [ny,oG] (defScope C6):=gQ
noncomputable def me(d:nq)(M:Int)(w f u:nq)(a b c e g h i:Option V):St:=[U (.r d),U (.t M),U (.r w),U (.r f),U (.r u),a,b,c,e,g,h,i]
theorem U4(F:gE b qP qP C6 f0 fd)(al:Bl mg)(f:Fn bF b5 b mg bI oN 2 [ny,oM] iH):AT bF b5 b mg bI gG 3 f0 fd [ny,oG] spLines:=by
 show F.m gW λvs H ca b7 h=>?_;let(d,a,az,M,rfl,M1,M10,hd,k):=h;show(Y,λff b6 cf cl T=>?_);let bR:=T.42;let nd:=gW.nd;rw[Yz]
 show(_,AC (Bf (hs:=by rfl) (hw:=by kernel_rfl) (Af (AA (hs:=by kernel_rfl) TF (AA (BA AG) (gX (BA AG)))))
   (BG rfl (AQ (A7 2 gW.nd) (AQ (A7 3 gW.nd) (AQ (A7 4 gW.nd) Av)))))
  (AC (Bt tK rfl (Cy rfl al.range (gX (AW Cm AF (gT f T (AA (Z 0) (gX (Z 1))))))) (A7 5 gW.nd)
   (Aw (A4 6 gW.nd (Qx rfl rfl al.max (EJ [] [] (by rfl) (_) (by rfl) (by rfl) rfl (Ay (Z 4)) (λ_ _ _ _ _ _=>BP) (λ_ _ _ _ _ _=>Z 1)) AF))
   (AC (A4 7 gW.nd (gT f T (AA (Z 0) (gX AF))))
   (AC (Bf (hs:=by rfl) (hw:=by rfl) (Af (AA EV (gX AF))) (BG rfl (AQ (A7 8 gW.nd) (AQ (A7 9 gW.nd) Av))))
   (Aw (HS tK (AK FH (Z 9) (Z 6) (AO _)) (AB (A4 9 gW.nd (AW Jy (Z 9) AF))))
   (Aw (AU (PW.pt (Cw (AK Aq (Z 7) AF (AO _)) (By (AK Nt (Z 9) (AW Pb AF AF) (AO _)))))
     (AC (A4 8 gW.nd (Ak (Ao b rfl) (BA (AA (AW Mb AF (gT f T (AA (Z 0) (gX AF)))) (AA (gT f T (AA (Z 0) (gX AF)))
      (AA (AW Mb AF (gT f T (AA (Z 0) (gX AF)))) (gX AF))))) (gT f T (AA (Z 0) (gX AF)))))
     (AB (A4 9 gW.nd (Z 8)))) AL)
   (Aw (AU (PW.pt (Cj (AK GH (Z 7) AF (AO _)) (Bu (AK (Gn b rfl bR) (Z 4) (BA AG) (AO _)))))
     (AC (A4 8 gW.nd (A0 D8 rfl al.56 Bs (gX (BJ [n8,ny] [U 4,U 0] (by rfl) (_) (by rfl) rfl (Cy rfl al.range (gX (AW Cm AF (gT f T (AA (Z 0) (gX AF)))))) (λ_ _ _ _ _ _=>BP)
      (λ_ _ _ _ _ _=>Ak (AZ b rfl) (Ak (Ao b rfl) (Z 1) (gT f T (AA (Z 2) (gX (AS (A8 b rfl) rfl al.50 tu (gX (Z 1))))))) AF)))))
     (AC (A4 9 gW.nd AF)
     (AB (Bt tK rfl (Ay (Z 4)) (BG rfl (AQ (A7 10 gW.nd) (AQ (A7 11 gW.nd) Av)))
      (AB (A4 9 gW.nd (AW GD (Z 9) (BW (AK Fz (Z 10) (Z 8) rfl) (Z 11) AF)))))))) AL)
   (AC (Ah (Bj (Z 3) (gX (Af (AA (Ak (Ao b rfl) (Z 2) (Z 5)) (gX (Z 8)))))))
   (AB (Ah (Bj (Z 4) (gX (Af (AA (Ak (Ao b rfl) (Z 2) (Z 5)) (gX (Z 9))))))))))))))))
  (AB (AJ (Af (AA (Z 3) (gX (Z 4))))))),?_)
 show iL λN m=>?_;show((_),λI br=>(tH _,λG a6=>(tH _,λD aC=>(kQ,λq0 bN=>?_))));show(q0,7,gB.of fH,Y,_,7,_,7,_,7,Y,?_);let dw:I≠d:=sX (AH hd br);let s1:fJ H (upd H I (.l (g8.7 V.s))):=AD (fJ.r _) br;let s2:fJ (upd H I (.l (g8.7 V.s))) (upd (upd H I (.l (g8.7 V.s))) G (.l [])):=AD (fJ.r _) a6;let s3:fJ (upd (upd H I (.l (g8.7 V.s))) G (.l [])) (upd (upd (upd H I (.l (g8.7 V.s))) G (.l [])) D (.l [])):=AD (fJ.r _) aC;let s4:=AD (fJ.r _) bN (o:=HO.t [.r I,.r G,.r D]);let a7:H G=J:=MM s1 a6;let a8:H D=J:=MM (s1.6 s2) aC;let AP:Ap d I G D H:=(dw,sX (AH hd a7),sX (AH hd a8),AH fH a6,AH (s2 _ _ fH) aC,AH fH aC,a7,a8);let L0:LW d I G D H _ []:=(λaz o e _=>s4 _ _ (s3 _ _ (s2 _ _ (s1 _ _ e))),(a,az,s4 _ _ (s3 _ _ (s2 _ _ (s1 _ _ hd)))),s4 _ _ (s3 _ _ (s2 _ _ fH)),([],s4 _ _ (s3 _ _ fH),tO),([],s4 _ _ fH,tO));let(a1,b1,kf):=L0.g6;show(ir m (iL λN m=>?_):N _ _);show(7,7,d,a1,b1,M,Y,kf,by lia,by lia,λa9 a' b' h0 h1=>?_);show(_,7,Y,7,by lia,by lia,?_)
 show IU (lo:=0) (n:=(1+a9).30) (λi g H2=>E₈ λ(v5 v6 v7 v8 v9 R Q:Option V)(u:List (Str×Th))=>C₅ (g=me d M I G D v5 v6 v7 v8 v9 R Q) (u.9=i) (Ew u) (u.7 (·.1)=g8.12 i) (LW d I G D H H2 u))
  (J,J,J,J,J,J,J,[],rfl,rfl,(λi a9 e=>by simp at e),rfl,L0.roll AP a' b') ?_ ?_
 ·intro i g H2 hi h;show egM λDf eD=>?_;let(v5,v6,v7,v8,v9,R,Q,u,rfl,gl,RO,gp,ab):=h;let bm:i<10:=by lia
  let DO:Bi (At u):=Kx RO ();generalize an:Fm ((At u).7 (·.2))=C
  let bL:C<2^20:=by
   rw[←an];show Oh qc λn hn=>by let(p,r,rfl):=zh.mp hn;show DO.lt p r
  show my λN m=>?_;show(λg H3=>g=me d M I G D (U (.t (0+(i:Int)))) (U (.t (C:Int))) v7 v8 v9 R Q/\LW d I G D H H3 u,λaM E=>?_,?_)
  ·let(bs,hu,X):=ab.45;let lq:=ES X;show(7,D,Y,(_,fV.of hu),DX (ω:=b) (a:=D) (xs:=bs.7 V.r) (λj B H3=>B=BH (((At u).12 j).7 (·.2))/\H3=H2) (by rfl,Y) (λj B H3 _ K=>by let(_,e):=K;show e ▸ fV.of hu) (λj B H3 (e,_)=>?_) ?_ ?_)
   ·rw[e];unfold BH;rw[AN,AN,zr,CC];lia
   ·rintro j ag B H3 hj ⟨rfl,rfl⟩;let(bb,p,rfl,hb1,fm,fk):=Cd X hj;show(bb,7,gB.of fk,Y,_,7,_,7,Y,?_);show(7,?_,Y);rw[zw,fm,ui,zl];unfold BH
    ext
   ·rintro B H3 ⟨rfl,rfl⟩ p r;let w:=AD (fJ.r _) r (o:=HO.l (BH (((At u).12 (bs.7 V.r).9).7 (·.2))));let el:(At u).12 (bs.7 V.r).9=At u:=by rw[AN,lq,←CC,zt]
    show(p,((At u).7 (·.2)).7 (λn:Nat=>(n:Int)),0,Y,Y,fV.of (by rw[fH,el,Hz]),λe=>?_,λe=>?_)
    ·show E _ _ (?_,ab.15 w);have:(At u).7 (·.2)=[]:=List.map_eq_nil_iff.mp e;rw[this]at an;subst an;rfl
    ·show E _ _ (?_,ab.15 w);let gd:(At u).7 (·.2)≠ []:=λz=>e (by rw[z];rfl);rw[Oi gd,an];rfl
  ·intro g H3 h;show(ir m (iL λN m=>?_):N _ _);let(rfl,L3):=h;let(a3,b3,mr):=L3.g6;show(7,d,a3,b3,8,Y,mr,qc,qc,λkd a4 b4 cd ce=>?_);show(ir m (iL λN m=>?_):N _ _);let L4:=L3.roll AP a4 b4;show((_),λq hq=>(q,7,gB.of fH,Y,_,7,_,7,Y,?_));show(ir m (my λN m=>?_):N _ _);let L5:=L4.15 (AD (fJ.r _) hq (o:=HO.t [V.g,V.t 1]));show(λg H6=>g=me d M I G D (U (.t (0+(i:Int)))) (U (.t (C:Int))) (U (.t kd)) (U .g) (U (.t (Cp C:Nat))) R Q/\LW d I G D H H6 u,λaM E=>?_,?_)
   ·apply Tk (λg H6=>LW d I G D H H6 u/\∃j:Nat,j<=20/\g=me d M I G D (U (.t (0+(i:Int)))) (U (.t (C:Int))) (U (.t kd)) (U .g) (U (.t ((2^j:Nat):Int))) R Q/\(j=0\/2^(j-1)<=C)) (λg _=>dG g) (L5,0,by lia,rfl,sU rfl)
    ·rintro g H6 ⟨L6,j,hj,rfl,bM⟩;show(7,7,_,7,Y,7,?_);show BF (λa5=>?_) (λa5=>?_)
     ·have bn:2^j<=C:=by have:=zS a5;exact_mod_cast this
      let cc:j<20:=(vo qc).mp (tw bn bL);show(7,_,7,Y,sY (qc,qc),?_);let e2:(((2^j:Nat):Int)*2)=((2^(j+1):Nat):Int):=by rw[Nat.pow_succ];lia
      show((L6,j+1,by lia,?_,sY bn),?_)
      ·rfl
      ·show(2^22-(((2^j:Nat):Int)*2)).30<(2^22-((2^j:Nat):Int)).30
       grind
     ·have bK:C<2^j:=by
       have:¬ ((2^j:Nat):Int)<=(C:Int):=λz=>a5 (zI z)
       lia
      show E _ _ (?_,L6);rw[Og bK bM]
    ·rintro g H6 Q1 Q2 hQ ⟨ag,e1,v2,e2,i,j,a,az,c,ec,q⟩;show(ag,e1,v2,e2,i,j,a,az,c,ec,hQ _ _ q)
   ·intro g H6 h;show(ir m (my λN m=>?_):N _ _);let(rfl,L6):=h;show(λg H7=>E₄ λ(y:V)(v:Th)(S A:Option V)=>C₅ (g=me d M I G D (U (.t (0+(i:Int)))) (U (.t (C:Int))) (U (.t kd)) (U y) (U (.t (Dz (At u) v:Nat))) S A) (LW d I G D H H7 u) (jw H7 y v) (Wu (At u) v) (Dz (At u) v<2^20),λaM E=>?_,?_)
    ·apply Yw (decide (V.t kd=V.t 5)) (decide ((2:Int)^(20:Int).30<=(Cp C:Nat))) (λQ' h=>(_,rfl,rfl,_,rfl,h)) (λQ' h=>(_,rfl,_,_,rfl,rfl,(qc,qc,qc),_,_,rfl,rfl,_,rfl,h));show BF (λ_=>?_) (λhc=>?_)
     ·let(x1,y1,e1):=L6.g6;show(7,d,x1,y1,8,Y,e1,qc,qc,λr1 a1 b1 bC bU=>?_);let M1:=L6.roll AP a1 b1;show(_,7,Y,(bC,by lia,qc),?_);let(x2,y2,e2):=M1.g6;show(7,d,x2,y2,64,Y,e2,qc,qc,λr2 a2 b2 mh bW=>?_);let M2:=M1.roll AP a2 b2;let(x3,y3,e3):=M2.g6;show(7,d,x3,y3,20,Y,e3,qc,qc,λr3 a3 b3 bX cg=>?_);let M3:=M2.roll AP a3 b3;show(_,7,Y,(bX,by lia,qc),?_);show(sl4,λp r=>?_);let M4:=M3.15 (AD (fJ.r _) r (o:=HO.l [V.t (1*2^r1.30),V.t r2,V.t (1*2^r3.30),V.t 0]));let(x4,y4,e4):=M4.g6;let bS:p≠d:=sX (AH fH r);show(7,d,x4,y4,4,Y,e4,qc,qc,λr4 a4 b4 b0 ch=>?_);let M5:=M4.roll AP a4 b4;let(ag,hv,lR):=HM (xs:=[V.t (1*2^r1.30),V.t r2,V.t (1*2^r3.30),V.t 0]) b0 qe
      let lS:∃n:Nat,ag=.t (n:Int)/\n<2^20:=by
       have:=zN lR;simp only[mem_cons,not_mem_nil,or_false]at this;let z||z||z||z:=this
       ·show(2^r1.30,by ext,?_);show(vo qc).49 ()
       ·show(r2.30,by rw[z,wb mh],by lia)
       ·show(2^r3.30,by ext,?_);show(vo qc).49 ()
       ·show(0,z,qc)
      let(n,rfl,hn):=lS;show(p,_,r4,7,Y,fV.of (by rw[AE bS];show fH),hv,?_);show(7,E _ _ (.t (n:Int),.num n,R,Q,Y,M5,Y,trivial,hn))
     ·show E _ _ (.g,.gJ,R,Q,?_,L6,Y,trivial,?_)
      ·show _=me d M I G D (U (V.t (0+(i:Int)))) (U (V.t (C:Int))) (U (V.t kd)) (U V.g) (U (V.t ((Cp (Fm ((At u).7 (·.2))):Nat):Int))) R Q;rw[an]
      ·show Cp (Fm ((At u).7 (·.2)))<2^20
       grind
    ·intro g H7 h;show(ir m (my λN m=>?_):N _ _);let(y,v,S,A,rfl,L7,hT,hTO,jX):=h;let(bs,hu,X):=L7.45;let lq:=ES X;show(λg H8=>E₄ λ(y:V)(v:Th)(S A:Option V)=>C₅ (g=me d M I G D (U (.t (0+(i:Int)))) (U (.t (C:Int))) (U (.t kd)) (U y) (U (.t (Dz (At u) v:Nat))) S A) (LW d I G D H H8 u) (jw H8 y v) (Wu (At u) v) (Dz (At u) v<2^20),λaM E=>?_,?_)
     ·show XD (decide ((5:Int)<kd)) (!(Jl (At u)).99) (λQ' h=>(7,_,7,Y,7,h)) (λQ' h=>(7,tH _,λp r=>?_)) (λH8 s8=>?_)
      ·have w:=AD (fJ.r _) r (o:=HO.l []);show(vB (Jl (At u)),vB [],CS (w _ _ hu) (IE (fQ.gK (gF.of w) X)),CS fH XC,Ft λp r=>(DO.nm p r).2.1,QN,7,?_);rw[RT];show h _ w
      ·show BF (λhc=>?_) (λhc=>?_)
       ·have gd:0<bs.9:=by
         rw[tA]at hc;let h2:=hc.2;rw[lq,←CC];cases hz:At u with
         |nil=>rw[hz]at h2;cases h2
         |cons x a9=>simp
        let P:=L7.15 s8;let(x1,y1,e1):=P.g6;show(_,rfl,d,x1,y1,3,rfl,e1,qc,qc,λr1 a1 b1 bC bU=>?_);let M1:=P.roll AP a1 b1;show(_,_,rfl,rfl,_,rfl,by lia,by lia,?_);apply Ee (lo:=0) (n:=(1+r1).30) (λj B H9=>∃l:ni,C₅ (B=l.7 V.s) (l.9=j) (j<=3) (∀x∈l,x∈(At u).7 (·.1)) (LW d I G D H H9 u)) ([],rfl,rfl,qc,(λx hx=>nomatch hx),M1)
        ·rintro j B H9 ⟨l,rfl,e,h3,_⟩
         grind
        ·rintro j B H9 hj ⟨l,rfl,e,h3,lS,L9⟩;let(x2,y2,e2):=L9.g6;let(cs,hu9,gj):=L9.45;let fh:=ES gj;let f7:(cs.7 V.r).9=bs.9:=by rw[AN,fh,lq]
         show(7,7,7,D,7,sU (fV.of hu9),d,x2,y2,7,e2,by lia,by lia,λr2 a2 b2 mh bW=>?_);let M2:=L9.roll AP a2 b2;let bO:(upd H9 d (.l [.t a2,.t b2])) D=U (.l (cs.7 V.r)):=by rw[AE AP.ud];show hu9
         let(ag,hv,lR):=HM (xs:=cs.7 V.r) mh ();let(bb,p,rfl,_,fm,fk):=Cd (fQ.gK (gF.upd e2) gj) lR;show(D,_,r2,_,rfl,rfl,fV.of bO,hv,bb,_,0,.s p.1,rfl,rfl,gB.of fk,rfl,?_);show(l++[p.1],by simp,by ext,by lia,λx hx=>?_,M2);let z||z:=mem_append.mp hx
         ·ext
         ·rw[zz]at z;subst z;show zh.49 (p,zN fm,Y)
        ·rintro B H9 ⟨l,rfl,e,h3,lS,L9⟩ bB hl;let bE:=L9.15 (AD (fJ.r _) hl (o:=HO.l (l.7 V.s)));show(bB,7,sU (fV.of fH,λt ht=>?_));let bk:=bE.15 (AD (fJ.r _) ht (o:=HO.t (l.7 V.s)));let(cs,hu11,gj):=bk.45;let fh:=ES gj;show(7,D,Y,(_,fV.of hu11),Bg (ω:=b) (a:=D) (xs:=cs.7 V.r) (λj g ar=>ar=upd (upd H9 bB (.l (l.7 V.s))) t (.t (l.7 V.s))/\∃S A:Option V,g=me d M I G D (U (.t (0+(i:Int)))) (U (.t (C:Int))) (U (.t kd)) (U (.r t)) (U (.t (uni ((At u).12 j) l:Nat))) S A) (Y,S,A,Y) (λj g ar _ z5=>by let(e,_):=z5;show e ▸ fV.of hu11) ?_ ?_)
         ·rintro j ag g ar hj ⟨rfl,S,A,rfl⟩;let(bb,p,rfl,_,fm,fk):=Cd gj hj;show(bb,7,gB.of fk,Y,_,7,_,7,Y,?_);show(7,7,7,t,7,sY (gB.of fH),Y,?_,7,?_)
          ·rw[all_map];show all_eq_true.49 λ_ _=>rfl
          ·have eu:uni ((At u).12 (j+1)) l=uni ((At u).12 j) l|||(if jt (.s p.1) (l.7 V.s)then p.2 else 0):=by
            unfold uni;rw[zw,fm,ui,zl];show Ei _ _
           show BF (λaR=>?_) (λaR=>?_)
           ·show(7,_,7,Y,Y,U (.s p.1),U (.t (p.2:Int)),?_);let a0:jt (.s p.1) (l.7 V.s)=iY:=aR;rw[a0,zf rfl]at eu;rw[eu,←CZ];rfl
           ·show(_,7,Y,Y,U (.s p.1),U (.t (p.2:Int)),?_);let a0:jt (.s p.1) (l.7 V.s)=i7:=vf.49 aR;rw[a0,zg tF]at eu;rw[eu,←CZ];rfl
         ·rintro g ar ⟨rfl,S,A,rfl⟩;let el:(At u).12 (cs.7 V.r).9=At u:=by rw[AN,fh,←CC,zt]
          let en:Dz (At u) (.mj l)=uni (At u) l:=(Yv DO.nd lS).31;let eL:l.9=(1+r1).30:=e;show E _ _ (.r t,.mj l,S,A,by rw[el,en],bk,(t,Y,fH),(?_,by lia,lS),?_)
          ·intro z;subst z;simp at eL;lia
          ·show AY (l.7 (look (At u)))<2^20;show FU λn hn=>?_;let(x,hx,rfl):=zh.mp hn;let(p,r,rfl):=zh.mp (lS x hx);rw[Cs DO.nd r];show DO.lt p r
       ·show E _ _ (y,v,S,A,Y,L7.15 s8,hT.15 s8,hTO,jX)
     ·intro g H8 h;show(ir m (iL λN m=>?_):N _ _);let(y,v,S,A,rfl,P,hT,hTO,jX):=h;let(as,hf,hP):=P.found;let f8:as.9=u.9:=hP.9;let hw:g8[i]?=U g8[i]:=z7 bm;generalize fy:g8[i]=wd at hw
      let bl:jH (g8.7 V.s) (0+(i:Int))=U (.s wd):=by
       have:(0:Int)+(i:Int)=((i:Nat):Int):=by lia
       rw[this];show Bp (_)
      show(7,sU (Y,_,fV.of hf),7,7,I,_,_,.s wd,Y,Y,fV.of P.words,bl,7,i1,λp r=>?_);let w:=AD (fJ.r _) r (o:=HO.t [V.s wd,y]);show(G,_,.r p,Y,Y,w _ _ hf,AR (_),?_);show(ir m ?_:N _ _);let t1:gF (upd H8 p (.t [V.s wd,y])) (upd (upd H8 p (.t [V.s wd,y])) G (.l (as.7 V.r++[.r p]))):=gF.upd (w _ _ hf);let(bs,hu,X):=P.45;let lq:=ES X;let jV:(upd (upd H8 p (.t [V.s wd,y])) G (.l (as.7 V.r++[.r p]))) D=U (.l (bs.7 V.r)):=by rw[AE (sX AP.fu)];show w _ _ hu
      let bu:(upd (upd H8 p (.t [V.s wd,y])) G (.l (as.7 V.r++[.r p]))) I=U (.l (g8.7 V.s)):=by rw[AE AP.wf];show w _ _ P.words
      show(7,sU (Y,_,fV.of jV),7,7,I,_,_,.s wd,Y,Y,fV.of bu,bl,7,i1,λq hq=>?_);let s:=AD (fJ.r _) hq (o:=HO.t [V.s wd,V.t ((Dz (At u) v:Nat):Int)]);show(D,_,.r q,Y,Y,s _ _ jV,AR (_),?_);let t2:=gF.upd (s _ _ jV) (ys:=bs.7 V.r++[.r q]);let bd:=((gF.of w).6 t1).6 ((gF.of s).6 t2);let(x,be,ed):=P.g6;let RR:RJ (At u) (wd,(v)):=(DO,by rw[CC];lia,U2 wd (zN hw),?_,hTO,jX);show(ir eD ?_:Df.nx _ _);show(_,_,_,_,_,_,_,u++[(wd,(v))],Y,by ext,Ot RO RR,?_,?_)
      ·rw[zl,gp,zw,hw,ui];rfl
      ·show(λc o ec hc=>?_,(x,be,?_),?_,(as++[p],?_,?_),(bs++[q],?_,?_))
       ·have n1:c≠D:=AH ec AP.nu;rw[AE n1];show s _ _ ?_;rw[AE (AH ec AP.nf)];show w _ _ (P.88 c o ec hc)
       ·rw[AE (sX AP.ud)];show s _ _ ?_;rw[AE (sX AP.fd)];show w _ _ ed
       ·rw[AE AP.wu];show s _ _ bu
       ·rw[AE AP.fu];show s _ _ ?_;rw[fH,zl];rfl
       ·show we (CD bd hP) ?_;show(y,t2 _ _ (s _ _ (t1 _ _ fH)),hT.gK bd)
       ·rw[fH,zl];rfl
       ·rw[EM];unfold C9;rw[zl];show we (fQ.gK bd X) (t2 _ _ fH)
      ·rw[U3,gp];intro z;let bx:=TC (i,bm);rw[hw]at bx;have:=tS bx;show of_decide_eq_false this z
 ·rintro g H2 ⟨v5,v6,v7,v8,v9,R,Q,u,rfl,gl,RO,gp,ab⟩;let(as,hf,hP):=ab.found;let(bs,hu,X):=ab.45;show(ir m ?_:N _ _);show(7,7,i1,λq hq=>?_);let s:=AD (fJ.r _) hq (o:=HO.t [V.r G,V.r D]);show k q G D as bs u _ (λc o e hc=>s _ _ (ab.88 c o e hc),?_) fH a7 a8 (s _ _ hf) (CD (gF.of s) hP) (s _ _ hu) (fQ.gK (gF.of s) X) () () RO (λx hx=>List.mem_of_mem_take (gp ▸ hx));let(x,be,e):=ab.g6;show(x,be,s _ _ e)
end
end Mk
namespace L2
open PySem
theorem MN(f)(j:X.K=f):gP X (sV oI) (λg H Q=>∃v C t b,g=[v,.r C]/\iS f H v t/\vq f t (sR C)=U b/\Q (.l b) H):=by
 subst j;rintro d s o H g l Q I r ⟨v,C,t,b,rfl,ty,e,q⟩;let(u,p,rfl,i,a):=HU r;cases a;show Ld I i ty e λh=>(.l b,H,I.96 h,Y,q)
end L2
namespace Mk
open PySem L2 MK
mutual
structure KIsi(K:FG)(C:nq):Prop where
 cl:jz K C
 ha:uf K (sR C) qh=U (U (sV nA))
 hn:W.specialIn K (sV nA) qB=U (U (sV oj))
 ht:W.takesIn K (sV nA)=U L
 hm:vt K C (sW pA)=U L
 nl:vq K (sW oq) (sR C)=U O
theorem KIsi.ty(k:KIsi b C)(e:H a=U (.i C d f)):iS b H (.r a) (sR C):=.ins e k.cl k.ha k.hn k.ht k.hm
theorem IF(b:FG)(C):vq b (sR C) (sR C)=U L:=by
 unfold vq;simp
inductive spNumber(C:nq)(vs:nk)(H:Hp)(Q:VK)(b:XK):Prop
 |mk (p) (due) (r) (x) (f:vs=[.r p,.s x]) (g:fZ C H p due r) (h:x∈due.7 (·.1)) (d:Q (.t (look due x:Nat)) H)
theorem U5:AI [nv,nC] [nv,nC] (defScope FX):=gQ
theorem TH(F:gE b nH "Kind.number" FX f m)(T:EQ b C)(a:Fn P w b M g pS 1 [nM,oz] (DZ b)):AT P w b M g gG 2 f m [nv,nC] (spNumber C):=by
 let(fO,I,a,y,v,D):=a.ex;show F.m U5 λvs H Q E h=>?_;let(p,e,r,x,rfl,z,o,k):=h;show(Y,λB A d s l=>?_);let(q,j,u,J,L,t,i,G):=z.ex
 show(_,AC (AU (Au (Al (A5 a l Y y v D tO Ai (AA (Z 1) (gX (Ac (Z 0) Y)))))) (AB Ad) AL)
  (AB (AJ (Am (BY l) (Ac (Z 0) rfl) (Z 1)))),?_)
 show(7,7,p,C,q,_,7,t,T.cl,T.nN,IB _ _ _,sU (x,j,A9 e,Y,sY (u,i),7,?_));rw[Cb o];apply AV;show(7,p,C,q,_,7,t,T.cl,T.nN,IB _ _ _,7,j,7,sU (_,sS x,sY (u,i),Y,(Cb o).31),k)
inductive spRest(C:nq)(vs:nk)(H:Hp)(Q:VK)(b:XK):Prop
 |mk (p) (due) (r) (d:vs=[.r p]) (f:fZ C H p due r) (g:Q (.s r) H)
theorem Y0:AI [nv] [nv] (defScope Iv):=gQ
theorem XH(F:gE b pO "Kind.rest" Iv f g)(T:EQ b C):AT P w b z m gG 1 f g [nv] (spRest C):=by
 show F.m Y0 λvs H Q E h=>?_;let(p,l,r,rfl,i,k):=h;show(Y,λj A a s u=>?_);let(d,t,y,v,x,e,o,q):=i.ex;show(_,AB (AJ (Ac (Z 0) Y)),(7,p,C,d,_,7,e,T.cl,T.nR,JM _ _ _,k))
theorem U6{p q:Str×Nat}:tZ (uU [uN p.1,.int (p.2:Int)]) (uU [uN q.1,.int (q.2:Int)])=decide (p=q):=by
 simp[tZ,PyData.eqvAll,tA,beq_iff_eq]
 grind
theorem Ov:∀a b,tZ (vB (Jl a)) (vB (Jl b))=decide (a=b)
 | [],[]=>by rfl
 | [],q::r=>by rfl
 |p::r,[]=>by rfl
 |p::r,q::s=>by
  let h:tZ (vB (Jl (p::r))) (vB (Jl (q::s)))=(tZ (uU [uN p.1,.int p.2]) (uU [uN q.1,.int q.2])&&tZ (vB (Jl r)) (vB (Jl s))):=by
   simp[Jl,map_cons,tZ,PyData.eqvAll]
  rw[h,U6,Ov r s];simp
def kg(due:Aa):Prop:=∀p∈due,p.1.27 (· < 128)=L
inductive spEqK(C:nq)(vs:nk)(H:Hp)(Q:VK)(d:XK):Prop
 |mk (a b) (due) (r) (l:vs=[.r a,.r b]) (m:fZ C H a due r) (o:kg due) (j:((∃i,H b=U (.l i)/\∀f,fJ H f->Q (.l O) f)\/∃(g:Aa)(h:Str),fZ C H b g h/\kg g/\∀f,fJ H f->Q (.l (decide (due=g/\r=h))) f))
theorem dH:AI [nv,oa] [nv,oa] (defScope M9):=gQ
theorem Y3(F:gE g qJ "Kind.__eq__" M9 f v)(B:Bl l)(T:EQ g C)(m:KIsi g C)(s:l "Kind"=im (sR C))(o:Mt P w g l u C qE 1 [nv] (spRows C)):AT P w g l u gG 2 f v [nv,oa] (spEqK C):=by
 let(fR,dR,o,I,S):=o.ex;show F.m dH λvs H ab E h=>?_;let(a,b,j,r,rfl,O,U,h):=h;show(Y,λff A ar an x=>?_)
 show(_,AB (AJ (CY (AS (MN g Y) Y B.iP Fl (AA (Z 1) (gX (BV (v:=.r C) Y s Y))))
  (CY (CH (UD g rfl x.42) (Br (Z 0) T.cl I o x S tO Ai) (Br (Z 1) T.cl I o x S tO Ai) (AO _))
   (Ck (CH Aq (Ac (Z 0) rfl) (Ac (Z 1) rfl) (AO _)))))),?_)
 let(L,d1,d2,N):=O.ins;let(xs,hb,k)||(i,t,R,X,k):=h
 ·show(7,_,C,_,i7,Y,.lst hb,m.nl,7,AV (k _ (fJ.r _)))
 ·let(M,e1,e2,y):=R.ins;show(7,_,C,_,iY,Y,m.ty y,IF g C,7,?_);apply Aj;show(7,a,L,7,N,(Bw _ _ _),a,j,r,Y,O,λal as H1 D hl ht=>?_);show(7,b,M,7,D _ _ y,(Bw _ _ _),b,i,t,Y,R.15 D,λl2 ag H2 p G q=>(_,_,CS (p _ _ hl) (IE (fQ.same p ht)),CS G (IE q),Ft U,Ft X,7,?_));rw[Ov];let d:=D.6 p;show BF (λe=>?_) (λe=>?_)
  ·show(7,a,C,L,_,7,d _ _ N,T.cl,T.nR,JM _ _ _,7,b,C,M,_,7,d _ _ y,T.cl,T.nR,JM _ _ _,Y,?_);have:=k _ d;let Q:decide (V.s r=V.s t)=decide (j=i/\r=t):=decide_eq_decide.49 (λz=>(zS e,V.s.inj z),λz=>by rw[z.2])
   rwa[Q]
  ·have:=k _ d
   rwa[zL (λz=>e (zI z.1))]at this
def QP(due:Aa)(e m:nq):LK:=[(sS ph,(V.t (AY (due.7 (·.2)):Nat))),(sS pT,(V.r e)),(sS o7,(V.r m)),(sS o4,(V.t (AY (Ab due):Nat)))]
theorem Y4(a b c d):Eb [] [((sS ph:Key),(a)),(sS pT,(b)),(sS o7,(c)),(sS o4,(d))]=[((sS ph:Key),(a)),(sS pT,(b)),(sS o7,(c)),(sS o4,(d))]:=by rfl
theorem DA(due)(e m):An (QP due e m) (sS ph)=U (V.t (AY (due.7 (·.2)):Nat)):=by rfl
theorem MO(due)(e m):An (QP due e m) (sS o7)=U (V.r m):=by rfl
theorem U7(due)(e m):An (QP due e m) (sS o4)=U (V.t (AY (Ab due):Nat)):=by rfl
theorem TJ(due):(Ab due).69 (· < ·):=by
 let e:=IC due;let d:=(Dr due).nodup_iff.49 (ML due);show(List.Pairwise.imp₂ (λa b h n=>Nat.lt_of_le_of_ne h n) e d).21 _
theorem MP(due):((Ab due).7 λn:Nat=>(n:Int)).sum=((AY (Ab due):Nat):Int):=by
 let d:(Ab due).sum=AY (Ab due):=Ss (λn h=>(mem_filter.mp h).2) (TJ due);rw[←d];generalize Ab due=l;induction l with
 |nil=>rfl
 |cons a r e=>rw[map_cons,sum_cons,e];push_cast;rfl
theorem Ky(due):AY ((Ae due).7 (·.1))=AY (due.7 (·.2)):=by
 show ue λk=>?_;rw[DY,DY,uQ,any_eq_true,any_eq_true];constructor
 ·rintro⟨n,d,a⟩;let(q,h,rfl):=zh.mp d;show(q.1,zh.49 (_,JL h,Y),a)
 ·rintro⟨n,d,a⟩;let(p,e,rfl):=zh.mp d;show(p.2,S0 e,a)
inductive spTable(vs:nk)(H:Hp)(Q:VK)(b:XK):Prop
 |mk (u) (bs) (due) (h:vs=[.r u]) (i:H u=U (.l (bs.7 V.r))) (j:fQ H bs (C9 due)) (g:due.9<=10) (o:(∀p∈due,p.2<2^20)) (l:∀t e m f d,fJ H d->d t=U (.d (QP due e m))->d e=U (.d (Cu (Ae due)))->d m=U (.l (f.7 V.r))->fQ d f (Ga due)->Q (.r t) d)
noncomputable abbrev Y8:ni:=[n8,rK,"_law_firsts",og,nI,"_law_marks"]
theorem scTable:AI Y8 [n8] (defScope Fi):=gQ
theorem U8(F:gE f o9 o9 Fi a0 fd)(B:Bl mg)(GB:Fn aC a9 f mg aM qX 1 [nI] spBitsOf):AT aC a9 f mg aM gG 2 a0 fd [n8] spTable:=by
 show F.m scTable λvs ab bk be h=>?_;let(u,bs,d,rfl,hu0,Z,mv,jX,k):=h;show(Y,λff bd bl bm hr=>?_);let N:=BY hr
 show(_,AC (Bf (hs:=by rfl) (hw:=by rfl) (Af (AA AF (gX B8))) (BG Y (AQ (A7 1 scTable.nd) (AQ (A7 2 scTable.nd) Av))))
  (AC (Bt tK rfl (Ay (pv 0)) (BG rfl (AQ (A7 3 scTable.nd) (AQ (A7 4 scTable.nd) Av)))
   (AC (A4 1 scTable.nd (AW GD (pv 1) (pv 4)))
   (AB (AU (CW (F3 N (pv 4) (pv 2))) (AB (Cn N (pv 2) (pv 4) (pv 3) rfl)) AL))))
  (AC (N9 (i:=5) scTable.nd rfl (by rfl) ["_law_firsts"] [U 2] (by rfl) (_) (by rfl) rfl (Ay (AS (Hg rfl) rfl B.sorted C7 (gX (pv 2))))
   (λ_ _ _ _ _ _=>DD (AK Aq (AS (A8 f rfl) rfl B.50 tu (gX (gT GB hr (gX (pv 0))))) AF (AO _)))
   (λ_ _ _ _ _ _=>Af (AA (Am N (pv 1) (pv 0)) (gX (pv 0)))))
  (AB (AJ (Qs (DL AM (pv 1) (DL AM (pv 2) (DL AM (pv 5) (DL AM (AS (UB rfl) rfl B.sum Ug (gX (EJ [] [] (by rfl) (_) (by rfl) (by rfl) rfl (Ay (pv 5)) (λ_ _ _ _ _ _=>BP) (λ_ _ _ _ _ _=>pv 1)))) Qr)))) rfl rfl (_) qc))))),?_)
 show λe he=>(i1,λa8 hq=>(a8,7,gB.of fH,Y,_,7,_,7,Y,?_));let s1:=AD (AD (fJ.r _) he (o:=HO.d [])) hq (o:=HO.t [V.t 0,V.r e]);let lq:bs.9=d.9:=by rw[Z.9];unfold C9;rw[AN]
 show(7,u,Y,(_,fV.of (s1 _ _ hu0)),Bg (ω:=f) (a:=u) (xs:=bs.7 V.r) (λi H S=>E₂ λ(Q v4:Option V)=>C₃ (H=[U (.r u),U (.t (AY ((d.12 i).7 (·.2)):Nat)),U (.r e),Q,v4,J]) (fJ ab S) (S e=U (.d (Cu (Ae (d.12 i))))))
  (J,J,rfl,s1,AD (fJ.r _) hq _ _ fH) (λi H S _ c=>by let(_,_,_,g,_):=c;show fV.of (g _ _ hu0)) ?_ ?_)
 ·rintro i v H S M ⟨Q,v4,rfl,g,x⟩;let(bb,p,rfl,_,fm,O):=Cd (fQ.same g Z) M;let q:d.12 (i+1)=d.12 i++[p]:=by rw[zw,fm];rfl
  let ek:(((AY ((d.12 (i+1)).7 (·.2)):Nat)):Int)=uh ((AY ((d.12 i).7 (·.2)):Nat):Int) (p.2:Int):=by
   rw[q,zl,CZ];show congrArg _ (Ei _ _)
  let a5:(Cu (Ae (d.12 i))).9<=100:=by
   unfold Cu;rw[AN];have:=Dp (d.12 i);rw[zr]at this
   lia
  show(bb,7,gB.of O,Y,_,7,_,7,Y,(7,7,_,7,Y,?_));by_cases z:p.2∈(Ae (d.12 i)).7 (·.1)
  ·show(7,7,e,7,sU (_,uE (p.2:Int),sU x,Y,(IA z).31),7,AV (_,_,by rw[ek];rfl,g,?_));rw[q,D3,zf (_)]
   lia
  ·show(7,7,e,7,sU (_,uE (p.2:Int),sU x,Y,(JK z).31),7,Aj (7,7,7,e,7,jc.k (k:=uE (p.2:Int)) x (AR ()),?_));show(_,_,by rw[ek];rfl,Ks g he,?_);rw[fH,q,D3,zg (_),On z]
 ·rintro H S ⟨Q,v4,rfl,g,x⟩;let e1:d.12 (bs.7 V.r).9=d:=by rw[AN,lq,zt]
  rw[e1]at x ⊢;let a5:(Cu (Ae d)).9<=d.9:=by unfold Cu;rw[AN];show Dp d
  show(7,e,7,sU x,by lia,λkv a1=>?_,λl ns hl az as=>?_)
  ·unfold Cu at a1
   grind
  ·have en:=Op az as;subst en;let s3:=AD (fJ.r _) hl (o:=HO.l (((BM d).7 λn:Nat=>(n:Int)).7 V.t))
   show(l,Y,(_,fV.of fH),DX (ω:=f) (a:=l) (xs:=BH (BM d))
    (λi G C=>∃r,C₄ (G=r.7 V.r) (fJ S C) (C l=U (.l (BH (BM d)))) (fQ C r ((((BM d).12 i).21 Bd).7 λn=>(V.s (Cc (Ae d) n),(V.t (n:Int)))))) ([],rfl,s3,by rw[fH,(Hz _).31],tO)
    (λi G C _ K=>by let(_,_,_,e,_):=K;show fV.of e) (λi G C (r,e,_,_,t)=>?_) ?_ ?_)
   ·have:=t.9;rw[e,AN,this,AN];let h3:(((BM d).12 i).21 Bd).9<=((BM d).12 i).9:=zP _ _;rw[zr]at h3;have:=F8 d
    lia
   ·rintro i v G C M ⟨r,rfl,T,a3,ht⟩;let(n,A,rfl):=NI M;let ag:n∈(Ae d).7 (·.1):=mem_keysS.mp (zN A);let a6:n<2^42:=uI (RP jX n ag) qc;let q:=PySem.take_succ_filter Bd _ i n A;show(7,n,Y,λE zs H4 D a4 hz=>(E,7,sU (fV.of a4),Y,7,?_))
    let eb:decide (V.t ((zs.9:Nat):Int)=V.t 1)=Bd n:=by
     rw[←LQ a6,hz];show decide_eq_decide.49 (λh=>?_,λh=>by rw[h];rfl);have:=V.t.inj h
     lia
    rw[eb];let an:=D _ _ a3;show BF (λX=>?_) (λX=>?_)
    ·show(7,7,e,7,sU (_,uE (n:Int),sU (D _ _ (T _ _ x)),Y,(IA ag).31),7,i1,λb w=>(r++[b],by ext,AD (T.6 D) w,by rw[AE (AH an w)];lia,?_));rw[q,X,zf rfl,zl];show JN (AD D w) ht fH
    ·show(r,Y,T.6 D,an,?_);rw[q,zg X,zj];show fQ.same D ht
   ·rintro G C ⟨r,rfl,T,_,ht⟩ m X
    let el:(BM d).12 (BH (BM d)).9=BM d:=by
     have:(BH (BM d)).9=(BM d).9:=by unfold BH;rw[AN]
     rw[this];show zt
    rw[el]at ht;let R:fQ C r (Ga d):=ht;let D:=AD (fJ.r _) X (o:=HO.l (r.7 V.r));let f8:r.9=(Ab d).9:=by rw[R.9];show S5 d
    show λt al=>(7,7,7,?_);let P:=AD (fJ.r _) al (o:=HO.d []);let a7:=fQ.same (D.6 P) R;let ar:=P _ _ (fH (H:=C) (a:=m) (o:=HO.l (r.7 V.r)));show(7,m,Y,(_,fV.of ar),DX (ω:=f) (a:=m) (xs:=r.7 V.r) (λj G s=>G=BH ((Ab d).12 j)/\s=upd (upd C m (.l (r.7 V.r))) t (.d [])) (by rfl,Y) (λj G s _ z5=>by let(_,e):=z5;show e ▸ fV.of ar) (λj G s (e,_)=>?_) ?_ ?_)
    ·rw[e];unfold BH;rw[AN,zr];let h3:(Ab d).9<=(BM d).9:=zP _ _;have:=F8 d
     lia
    ·rintro j v G s hj ⟨rfl,rfl⟩;rw[zx]at hj
     let(b,w,rfl):∃b,r[j]?=U b/\v=V.r b:=by
      grind
     let(pq,hpq,O):=Oq a7 w;unfold Ga at hpq;rw[zx]at hpq
     let(n,A,rfl):∃n,(Ab d)[j]?=U n/\pq=(V.s (Cc (Ae d) n),V.t (n:Int)):=by
      grind
     show(b,7,gB.of O,Y,_,7,_,7,Y,(7,?_,Y));rw[zw,A,ui];unfold BH
     ext
    ·rintro G s ⟨rfl,rfl⟩ E a2;let aR:(Ab d).12 (r.7 V.r).9=Ab d:=by rw[AN,f8,zt]
     rw[aR];let s7:=AD (fJ.r _) a2 (o:=HO.l (BH (Ab d)));show(E,(Ab d).7 λn:Nat=>(n:Int),Y,fV.of (by rw[fH,Hz]),λn A=>?_,?_,?_)
     ·grind
     ·rw[MP];have:=FU (Uu jX)
      lia
     ·rw[MP];show(s7 _ _ fH,[((sS ph:Key),(V.t (AY (d.7 (·.2)):Nat))),(sS pT,(.r e)),(sS o7,(.r m)),(sS o4,(V.t (AY (Ab d):Nat)))],Y,(_),?_);rw[Y4]
      let y:fJ (upd C m (.l (r.7 V.r))) (upd (upd (upd (upd C m (.l (r.7 V.r))) t (.d [])) E (.l (BH (Ab d)))) t (.d (QP d e m))):=λb o I=>by
       rw[AE (AH I al)];show s7 _ _ (P _ _ I)
      show k t e m r _ ?_ fH ?_ (y _ _ fH) (fQ.same (D.6 y) R)
      ·intro b o I;show y _ _ (D _ _ (T _ _ (g _ _ I)))
      ·show y _ _ (D _ _ (T _ _ x))
theorem Fu:∀{b},(∀d∈b,tZ d d=L)->PyData.eqvAll b b=L
 | [],_=>by rfl
 |d::r,h=>by
  rw[PyData.eqvAll,h d zF,Fu λx a=>h x (_)];rfl
theorem Gb(h:∀d∈b,tZ d d=L):tZ (vB b) (vB b)=L:=by
 show Fu h
theorem Ex(h:∀d∈b,tZ d d=L):tZ (uU b) (uU b)=L:=by
 show Fu h
theorem CJ(x):tZ (uN x) (uN x)=L:=by simp[tZ]
theorem IG(n):tZ (.int n) (.int n)=L:=by simp[tZ]
theorem NN:tZ .none .none=L:=by rfl
theorem Gc(b:ni):tZ (vB (b.7 uN)) (vB (b.7 uN))=L:=Gb λd a=>by
 let(n,_,rfl):=zh.mp a;show CJ _
theorem TK(h:n∈b.7 (·.1)):(n,(Cc b n))∈b:=by
 unfold Cc;let(q,a):=uD.mp (Kv h)
 grind
def Ow(kp:nq)(n:Nat):List (Str×V):=BD o4 (.t (n:Int)) (BD oh (.r kp) [])
theorem NO(kp)(n):(Ow kp n).5 (oh:Str)=U (.r kp):=by
 rfl
theorem NP(kp)(n):(Ow kp n).5 (o4:Str)=U (.t (n:Int)):=by
 rfl
theorem RV(kp)(n){m:Str}(d:¬ m=o4)(a:¬ m=oh):(Ow kp n).5 m=J:=by
 unfold Ow;rw[As,zg d,As,zg a];rfl
def gY(b:nq)(H:Hp)(p kp:nq)(n:Nat):Prop:=∃d,H p=U (.i b d (Ow kp n))
theorem gY.same{n}(s:fJ H H')(h:gY b H p kp n):gY b H' p kp n:=by
 let(a,h):=h;show(a,s _ _ h)
structure IH(K:FG)(VC:nq):Prop where
 cl:jz K VC
 nK:g9 K VC oh
 nB:g9 K VC o4
def kn(due:Aa):Nat:=AY (due.7 (·.2))
inductive spIsNumber(vs:nk)(H:Hp)(Q:VK)(b:XK):Prop
 |mk (n:Nat) (d:vs=[.t (n)]) (f:n<2^40) (g:Q (.l L) H)
theorem QQ:AI [nM] [nM] (defScope F6):=gQ
inductive spRestOf(C:nq)(vs:nk)(H:Hp)(Q:VK)(b:XK):Prop
 |mk (kp) (due) (r) (n:Nat) (f:vs=[.r kp,.t (n)]) (g:fZ C H kp due r) (h:∀d,fJ H d->Q (.t ((n-(n&&&kn due):Nat):Int)) d)
theorem U9:AI [nG,nH] [nG,nH] (defScope NA):=gQ
theorem TL(F:gE b rE rE NA f m)(T:EQ b C)(e:Mt P w b D g C ph 2 [nv] (spKnown C)):AT P w b D g gG 3 f m [nG,nH] (spRestOf C):=by
 let(z,B,e,l,u):=e.ex;show F.m U9 λvs H Q E h=>?_;let(kp,a,r,n,rfl,i,k):=h;show(Y,λt A d s o=>?_);let(p,x,y,q):=i.ins;show(_,AB (AJ (AW Bh (Z 1) (Db Jz (Br (Z 0) T.cl l e o u tO Ai)))),(7,7,kp,p,7,q,(Bw _ _ _),kp,a,r,Y,i,λj v=>?_));show(7,_,7,Y,?_);change Q (V.t (tD n (uy ((AY ((Ae a).7 (·.1)):Nat))))) j;rw[Dk,Ky];show k j v
inductive spVInit(C d:nq)(vs:nk)(H:Hp)(Q:VK)(f:XK):Prop
 |mk (p dx kp) (due) (r) (n:Nat) (i:vs=[.r p,.r kp,.t (n)]) (j:H p=U (.i d dx [])) (l:fZ C H kp due r) (h:n<2^40) (q:(r=pe \/ n-(n&&&kn due)=0)) (m:∀g,(∀b o,H b=U o->b≠p->g b=U o)->gY d g p kp n->Q .g g)
theorem XI:AI [nv,nG,nH] [nv,nG,nH] (defScope G7):=gQ
theorem Ox(F:gE b nV "Value.__init__" G7 f s)(T:EQ b C)(i:IH b g)
  (S:Fn P w b o m pU 2 [nM] spIsNumber) (q:Fn P w b o m rE 3 [nG,nH] (spRestOf C)) (x:Mt P w b o m C pO 1 [nv] (spRest C)):AT P w b o m gG 4 f s [nv,nG,nH] (spVInit C g):=by
 let(fE,dE,L,O,M):=x.ex;show F.m XI λvs H Q E h=>?_;let(p,t,kp,d,r,n,rfl,U,v,N,a,k):=h;show(Y,λX A an ar l=>?_);let(D,Z,d2,u):=v.ins
 show(_,AC (AU (Au (Al (gT S l (gX (pv 2))))) (AB Ad) AL)
  (Aw (AU (PW.pt (Cj (AK Dc (Br (pv 1) T.cl O L (l.63 qc) M tO Ai) AM (AO _)) (Bu (AK Dc (gT q l (AA (pv 1) (gX (pv 2)))) AF (AO _))))) (AB Ad) AL)
  (AC (B0 (pv 0) (pv 1) rfl) (AB (B0 (pv 0) (pv 2) rfl)))),?_)
 show(7,n,Y,N,7,?_);apply AV;show(λI B=>I=[im (.r p),im (.r kp),im (.t n)]/\fJ H B,λR G=>?_,?_)
 ·show(7,kp,D,7,u,(Bw _ _ _),kp,d,r,Y,v,Y,7,?_);by_cases y:r=pe
  ·rw[zI (by rw[y])];show AV (AV (G _ _ (Y,fJ.r _)))
  ·rw[zL (λz=>y (V.s.inj z))];apply Aj;show(7,7,kp,d,r,n,Y,v,λB j=>(Y,7,?_));rw[a.resolve_left y];show AV (G _ _ (Y,j))
 ·rintro I B ⟨rfl,j⟩;show(7,7,p,g,t,[],Y,j _ _ U,i.cl,i.nK,(_),(7,7,p,g,t,7,fH,i.cl,i.nB,tw (Az _ _ _) (_),?_));show k _ (λag al e ab=>?_) (t,fH);rw[AE ab,AE ab];show j _ _ e
inductive hX(b:nq)(vs:nk)(H:Hp)(Q:VK)(d:XK):Prop
 |mk (p kp) (n) (f:vs=[.r p]) (g:gY b H p kp n) (h:Q (.t (n:Int)) H)
theorem TM:AI [nv] [nv] (defScope El):=gQ
theorem QR(F:gE g nH "Value.number" El f m)(d:IH g b):AT P w g q o gG 1 f m [nv] (hX b):=by
 show F.m TM λvs H Q E h=>?_;let(p,kp,n,rfl,(i,e),k):=h;show(Y,λj A a s l=>?_);show(_,AB (AJ (Ac (Z 0) Y)),(7,p,b,i,_,7,e,d.cl,d.nB,NP _ _,k))
inductive spVKind(b:nq)(vs:nk)(H:Hp)(Q:VK)(d:XK):Prop
 |mk (p kp) (n) (f:vs=[.r p]) (g:gY b H p kp n) (h:Q (.r kp) H)
theorem XJ:AI [nv] [nv] (defScope G8):=gQ
theorem VA(F:gE g nG "Value.kind" G8 f m)(d:IH g b):AT P w g q o gG 1 f m [nv] (spVKind b):=by
 show F.m XJ λvs H Q E h=>?_;let(p,kp,n,rfl,(i,e),k):=h;show(Y,λj A a s l=>?_);show(_,AB (AJ (Ac (Z 0) Y)),(7,p,b,i,_,7,e,d.cl,d.nK,NO _ _,k))
structure Jd(P:Program)(w:World)(K:FG)(mg:SV)(base:Heap)(C VC:nq):Prop where
 VT:IH K VC
 cls:mg "Value"=U (sR VC)
 make:∃f fd,Mk K VC f/\AT P w K mg base gG 4 f fd [nv,nG,nH] (spVInit C VC)/\Binds K fd [nv,nG,nH] []
theorem DQ(e:H kp=J)(d:H b=J)(a:b≠kp):fJ H (upd (upd H b (.a kp)) kp (.i D b [])):=by
 apply AD (AD (fJ.r _) d);rw[AE (sX a)]
 assumption
theorem Ce(sN:fJ H f)(a:H kp=J)(g:∀b o,f b=U o->b≠kp->d b=U o):fJ H d:=λb o e=>g b o (sN _ _ e) (AH e a)
theorem VB(h:∀p∈due,p.2<2^20):kn due<2^20:=by
 show FU λn a=>by grind
theorem VD(x y:Nat):(x|||y)+(x&&&y)=x+y:=by
 let h:=PyProof.Rows.bitOr_and x y;rw[CZ,CV]at h
 lia
theorem Je(a b:Nat):a-(a&&&b)=a^^^(a&&&b):=by
 let h:(a^^^(a&&&b))|||(a&&&b)=a:=by
  show ue λk=>?_;simp;cases a.29 k<;>cases b.29 k<;>rfl
 let e:(a^^^(a&&&b))&&&(a&&&b)=0:=by
  show ue λk=>?_;simp only[Nat.testBit_and,Nat.testBit_xor,Nat.zero_testBit];cases a.29 k<;>cases b.29 k<;>rfl
 let d:=VD (a^^^(a&&&b)) (a&&&b)
 lia
theorem NQ(a b k:Nat):(a-(a&&&b)).29 k=(a.29 k && !b.29 k):=by
 rw[Je]
 grind
theorem RW(a b):(a-(a&&&b))-((a-(a&&&b))&&&a)=0:=by
 let h:(a-(a&&&b))&&&a=a-(a&&&b):=by
  rw[Je a b];show ue λk=>?_;simp only[Nat.testBit_and,Nat.testBit_xor];cases a.29 k<;>cases b.29 k<;>rfl
 ext
inductive spErrInit(b:FG)(vs:nk)(H:Hp)(Q:VK)(d:XK):Prop
 |mk (e C) (dx) (x) (g:vs=[.r e,.s x]) (h:BL b C=L) (i:H e=U (GC e C dx)) (f:Q .g H)
theorem TQ:AI [nv,rM] [nv,rM] (defScope BU):=gQ
theorem Dt(F:FunD b nV pF BU f g)(o:m oo=J):AT P w b m q gG 1 f g [nv,rM] (spErrInit b):=by
 show F.ok TQ (λvs H Q E h=>?_) (λl A a s H vs Q E p h=>?_)
 ·let(e,C,d,x,rfl,_):=h;rfl
 ·let(e,C,d,x,rfl,i,j,k):=h;show(_,AB (Ah (UJ Y o (AA (Z 0) (gX (Z 1))))),(7,7,e,C,d,[.s x],Y,(_),i,j,k))
structure iK(P:Program)(w:World)(K:FG)(mg:SV)(base:Heap)(x:Str)(CU:nq):Prop where
 cls:mg x=U (sR CU)
 make:∃f fd,MkX K CU f/\AT P w K mg base gG 1 f fd [nv,rM] (spErrInit K)/\Binds K fd [nv,rM] []
def Uq(H:Hp)(E:XK)(b:nq):Prop:=∀e d,fJ H d->H e=J->d e=U (Hi e b J)->E (sR b) J d
theorem none_of(s:fJ H b)(h:b x=J):H x=J:=by
 cases e:H x with
 |none=>rfl
 |some u=>rw[s _ _ e]at h;cases h
theorem Uq.of(s:fJ H f)(h:Uq H E b):Uq f E b:=λe j a d i=>h e j (s.6 a) (none_of s d) i
theorem Kz{b}{H}{d}{te:XK->TE}{f}{j}{E}{D}{x}(l:BL b d=L)(e:fJ H j)(h:Uq H E d):Ik d (Ij d (spErrInit b) [] E0 (A3 (tC (.s x)) Cz)) E D f j:=by
 show((_),λa i=>?_);show(a,d,J,x,Y,l,fH,Y,a,J,Y,fH,h a _ (e.6 ?_) (none_of e i) fH);rw[HR];show AD (fJ.r _) i
noncomputable def wds:ni:=["BadRows",oX,"BadText",rg,"BadRule",oP,pG,qu,"BadPairs","Never",pz]
def wd(j:Nat):Str:=wds.44 j ""
noncomputable def jZ(j:Nat):List Bool:=(uP 11).7 λi=>decide (i=j)
noncomputable def b1(b:Bool):Int:=if b then 1 else 0
noncomputable abbrev zA(j:Nat):nk:=[V.l (decide (0=j)),V.l (decide (1=j)),V.l (decide (2=j)),V.l (decide (3=j))]
noncomputable abbrev zB(j:Nat):nk:=[V.l (decide (4=j)),V.l (decide (5=j)),V.l (decide (6=j))]
noncomputable abbrev zC(j:Nat):nk:=[V.l (decide (7=j))]
noncomputable abbrev zD(j:Nat):nk:=[V.l (decide (8=j)),V.l (decide (9=j)),V.l (decide (10=j))]
noncomputable abbrev yA:nk:=[V.s "BadRows",V.s oX,V.s "BadText",V.s rg,V.s "BadRule",V.s oP,V.s pG]
noncomputable abbrev yB:nk:=[V.s qu,V.s "BadPairs"]
theorem RX:∀j,j<11->((jZ j).7 b1).sum=1:=by trivial
theorem Y9:∀j,j<11->(jZ j)[j]?=U L/\∀m,m<j->(jZ j)[m]?=U O:=by trivial
theorem ZA:∀j:Nat,j<11->jH (wds.7 V.s) (j)=U (V.s (wd j)):=by trivial
structure TR(mg:SV)(ec:Nat->nq):Prop where
 e0:mg "BadRows"=U (sR (ec 0))
 e1:mg oX=U (sR (ec 1))
 e2:mg "BadText"=U (sR (ec 2))
 e3:mg rg=U (sR (ec 3))
 e4:mg "BadRule"=U (sR (ec 4))
 e5:mg oP=U (sR (ec 5))
 e6:mg pG=U (sR (ec 6))
 e7:mg qu=U (sR (ec 7))
 e8:mg "BadPairs"=U (sR (ec 8))
 e9:mg "Never"=U (sR (ec 9))
 lH:mg pz=U (sR (ec 10))
 ev:mg oo=J
structure RY(K:FG)(ec:Nat->nq)(C:nq)(j:Nat):Prop where
 hj:j<11
 kx:Wc K C
 kit:∀i,i<11->vq K (sR C) (sR (ec i))=U (decide (i=j))
 val:vq K (sR C) (sW oo)=U L
theorem Ct(g)(z:X.K=g)(q:ExcP X e s C)(k:Wc g C)(y:Gl X oI)(r:X.m oI=J)(o:Gl X x)(i:X.m x=U (sR c))(t:PE X a A)
  (h:jg x:=by decide)
  (m:starEach [a,tI x f] X.e=(O,(eval a X.e))::starEach [tI x f] X.e:=by rfl) (j:(backTo w (starEach [tI x f] X.e)).91 (·.1)=O:=by rfl) (l:starEach [tI x f] X.e=(O,(eval (tI x f) X.e))::starEach [] X.e:=by rfl):
  PE X (uJ (tI oI p) [a,tI x f] [] w) (tCB (λB H Q=>∃v c b,B=[.r e,v]/\((∃D,v=.r D/\c=sR D)\/∃T,v=.y T/\c=sW T)/\(s.93=J\/∃d u,s.93=U d/\H d=U u)/\vq g (sR C) c=U b/\Q (.l b) H) (A3 A (A3 (tC (.r c)) Cz))):=by
 subst z;show AS (Ly q k) y r Fl (AA t (gX (BV o i Y h) l) m) qc qc m j
def Ey(f:FG)(b:Nat->nq):SpS:=λe g vs H Q=>vs=[.r e]/\E₃ λ(C:nq)(j:Nat)(i:Array Value)=>C₆ (g.83=sR C) (g.34=tN i) (i[2]?=U tj) (g.93=J\/∃d u,g.93=U d/\H d=U u) (RY f b C j) (∀p h,fJ H h->h p=U (.t [.s nU,.s (wd j)])->Q (.r p) h)
theorem scWord:AI [oJ,"_law_flags",pE] [oJ] (defScope Fh):=gQ
theorem XM(F:gE g pk pk Fh f fd)(B:Bl m)(M:TR m ec):Q3 ag aM g m aC 1 f fd [oJ] (Ey g ec):=by
 show F.okS scWord (λe p vs H a2 h=>?_) (λar A D s H vs a2 e p hh hr h=>?_)
 ·let(rfl,_):=h;rfl
 ·let(rfl,a0,j,fs,hc,hf,h2,hd,r,k):=h;let z:=r.hj
  let l:∀C,fJ H C->(p.93=io\/∃d u,p.93=U d/\C d=U u):=λC s=>by
   let aR||(d,u,aR,bk):=hd
   ·ext
   ·show sY (d,u,aR,s _ _ bk)
  let kt:=r.kit;let x:ExcP (Lu ag aM g m aC [oJ,"_law_flags",pE] pk (defScope Fh) f ar A D s H e p) e p a0:=(zF,hc,(fs,hf));let rd:kZ (Lu ag aM g m aC [oJ,"_law_flags",pE] pk (defScope Fh) f ar A D s H e p):=WX hh hf h2
  show(_,AC (A4 1 scWord.nd (BA (AA (Ct g Y x r.kx Y B.iP Y M.e0 (Z 0)) (AA (Ct g Y x r.kx Y B.iP Y M.e1 (Z 0)) (AA (Ct g Y x r.kx Y B.iP Y M.e2 (Z 0)) (gX (Ct g Y x r.kx Y B.iP Y M.e3 (Z 0))))))))
   (AC (A4 1 scWord.nd (AW Ie (Z 1) (BA (AA (Ct g rfl x r.kx rfl B.iP rfl M.e4 (Z 0)) (AA (Ct g rfl x r.kx rfl B.iP rfl M.e5 (Z 0)) (gX (Ct g rfl x r.kx rfl B.iP rfl M.e6 (Z 0))))))))
   (AC (A4 1 scWord.nd (AW Ie (Z 1) (BA (gX (Ct g rfl x r.kx rfl B.iP rfl M.e7 (Z 0))))))
   (AC (A4 1 scWord.nd (AW Ie (Z 1) (BA (AA (Ct g rfl x r.kx rfl B.iP rfl M.e8 (Z 0)) (AA (Ct g rfl x r.kx rfl B.iP rfl M.e9 (Z 0)) (gX (Ct g rfl x r.kx rfl B.iP rfl M.lH (Z 0))))))))
   (AC (A4 2 scWord.nd (BA (AA AM (AA AM (AA AM (AA AM (AA AM (AA AM (gX AM)))))))))
   (AC (A4 2 scWord.nd (AW Ie (Z 2) (BA (AA AM (gX AM)))))
   (AC (AU (PW.pt (Cw (AK Dc (AS (Lo rd) rfl B.sum Ug (gX (SL [] [] (by rfl) (_) (by rfl) rd (T7 (Z 1)) (λ_ _ _ _ _ _=>BP) (λ_ _ _ _ _ _=>A0 IW rfl B.int JI (gX (Z 0)))))) AF (AO _))
     (By (Au (Al (AS (Ly x r.kx) rfl B.iP Fl (AA (Z 0) (gX (EW (v:=.y oo) rfl M.ev Q0 rfl))))))))) (AB Ad) AL)
   (AB (AJ (Af (AA AM (gX (Ak (Ao g rfl) (AW Ie (Z 2) (BA (AA AM (gX AM)))) (Qq plainAttrs_list slot_list_index type_list_index Sc (Z 1) (gX DI)))))))))))))),?_)
  show iL λN t=>(7,_,_,7,sU (7,Y),l _ (fJ.r _),kt 0 qc,7,_,_,7,sU (7,Y),l _ (fJ.r _),kt 1 qc,7,_,_,7,sU (7,Y),l _ (fJ.r _),kt 2 qc,7,_,_,7,sU (7,Y),l _ (fJ.r _),kt 3 qc,sl4,λX h1=>?_);let S:=AD (fJ.r H) h1 (o:=.l (zA j));let a1:=fH (H:=H) (a:=X) (o:=.l (zA j));generalize upd H X (.l (zA j))=P at S a1 ⊢;show(ir t (iL λN t=>?_):N _ _);show(7,7,_,_,7,sU (7,Y),l _ S,kt 4 qc,7,_,_,7,sU (7,Y),l _ S,kt 5 qc,7,_,_,7,sU (7,Y),l _ S,kt 6 qc,kQ,λl2 az=>(X,l2,_,7,Y,(AD (fJ.r P) az) _ _ a1,fH,(by change 4+3<=sizeLine;decide),λl3 h3=>?_));let s3:=S.6 (AD (AD (fJ.r P) az (o:=.l (zB j))) h3 (o:=.l (zA j++zB j)));generalize e3:upd (upd P l2 (.l (zB j))) l3 (.l (zA j++zB j))=y at s3 ⊢;let a3:y l3=U (.l (zA j++zB j)):=by rw[←e3,fH]
  show(ir t (iL λN t=>?_):N _ _);show(7,7,_,_,7,sU (7,Y),l _ s3,kt 7 qc,sl1,λl4 h4=>(l3,l4,_,7,Y,(AD (fJ.r y) h4) _ _ a3,fH,(by change 7+1<=sizeLine;decide),λl5 h5=>?_));let q:=s3.6 (AD (AD (fJ.r y) h4 (o:=.l (zC j))) h5 (o:=.l ((zA j++zB j)++(zC j))));generalize e5:upd (upd y l4 (.l (zC j))) l5 (.l ((zA j++zB j)++(zC j)))=Q at q ⊢;show(ir t (iL λN t=>?_):N _ _);show(7,7,_,_,7,sU (7,Y),l _ q,kt 8 qc,7,_,_,7,sU (7,Y),l _ q,kt 9 qc,7,_,_,7,sU (7,Y),l _ q,kt 10 qc,kQ,λl6 h6=>(l5,l6,_,7,Y,(AD (fJ.r Q) h6) _ _ (by rw[←e5,fH]),fH,(by change 8+3<=sizeLine;decide),λv h7=>?_));let s7:=q.6 (AD (AD (fJ.r Q) h6 (o:=.l (zD j))) h7 (o:=.l (((zA j++zB j)++(zC j))++(zD j))));generalize e7:upd (upd Q l6 (.l (zD j))) v (.l (((zA j++zB j)++(zC j))++(zD j)))=R at s7 ⊢;let a7:R v=U (.l ((jZ j).7 V.l)):=by rw[←e7];show fH
  show(ir t (iL λN t=>((_),λl8 h8=>?_)):N _ _);show(ir t (iL λN t=>?_):N _ _);show(7,(_),λl9 h9=>(l8,l9,_,7,Y,(AD (fJ.r _) h9) _ _ fH,fH,(_),λG mv=>?_));let E:=AD (AD (AD (fJ.r R) h8 (o:=.l yA)) h9 (o:=.l yB)) mv (o:=.l (yA++yB));generalize lH:upd (upd (upd R l8 (.l yA)) l9 (.l yB)) G (.l (yA++yB))=ab at E ⊢;let a4:ab G=U (.l (yA++yB)):=by rw[←lH];show fH
  let T:=E _ _ a7;show(ir t (iL λN t=>?_):N _ _);show(7,v,Y,(_,fV.of T),DX (ω:=g) (a:=v) (xs:=(jZ j).7 V.l) (λi w I=>w=((jZ j).12 i).7 (λb=>V.t (b1 b))/\I=ab) (Y,Y) (λi w I _ c=>by let(_,e):=c;show e ▸ fV.of T) (λi w I (e,_)=>?_) ?_ ?_)
  ·rw[e,AN,zr];have:(jZ j).9=11:=rfl
   lia
  ·rintro i be w I hi ⟨rfl,rfl⟩;rw[zx]at hi;let(b,hb,rfl):=z6.mp hi;show(7,sY (b,Y,?_,Y));rw[zw,hb,ui,zl];rfl
  ·rintro w I ⟨rfl,rfl⟩ bb hp;let el:(jZ j).12 ((jZ j).7 V.l).9=jZ j:=by rw[AN];show zt
   rw[el];let em:(jZ j).7 (λb=>V.t (b1 b))=((jZ j).7 b1).7 V.t:=by rw[map_map];rfl
   rw[em];let as:=AD (fJ.r I) hp (o:=.l (((jZ j).7 b1).7 V.t));show(bb,(jZ j).7 b1,Y,fV.of fH,λn hn=>?_,(by rw[RX j z];decide),Y,7,?_)
   ·let(b,_,rfl):=zh.mp hn;unfold b1
    lia
   rw[RX j z];show AV ((7,_,_,iY,Y,sY (7,Y),l _ (s7.6 (E.6 as)),r.val,7,?_));show AV ((ir t ?_:N _ _));show(7,(_),λa8 a5=>?_);let an:=AD as a5 (o:=.l [V.s "Never",V.s pz]);show(G,a8,_,7,Y,an _ _ a4,fH,(_),λa9 a6=>?_);let al:=AD an a6 (o:=.l ((yA++yB)++[V.s "Never",V.s pz]));let c7:=al _ _ T;let(f1,f2):=Y9 j z;show(7,sU (Y,_,fV.of c7),v,jZ j,j,Y,Y,c7,f1,f2,a9,_,(j:Int),7,Y,fV.of fH,ZA j z,i1,λbd hq=>k bd _ (s7.6 (E.6 (AD al hq))) fH)
structure Fv(K:FG)(ec:Nat->nq)(cM C:nq)(j:Nat):Prop where
 ea:RY K ec C j
 cx:BL K C=L
 n0:(FC K C).17 (sR (ec 0))=O
 n1:(FC K C).17 (sR (ec 1))=O
 n2:(FC K C).17 (sR (ec 2))=O
 n3:(FC K C).17 (sR (ec 3))=O
 m:(FC K C).17 (sR cM)=L
noncomputable def NS(j:Nat):Str:=(["at",o4,"at",nC]:ni).44 j ""
structure Jf(K:FG)(ec:Nat->nq)(C:nq)(j:Nat):Prop where
 ea:RY K ec C j
 cx:BL K C=L
 j4:j<4
 no:∀i,i<j->(FC K C).17 (sR (ec i))=O
 m:(FC K C).17 (sR (ec j))=L
 g:Z8 K C (NS j)
structure VE(K:FG)(mg:SV)(ec:Nat->nq)(cM:nq):Prop where
 m:mg "MarkError"=U (sR cM)
 xm:BL K cM=L
 x0:BL K (ec 0)=L
 x1:BL K (ec 1)=L
 x2:BL K (ec 2)=L
 x3:BL K (ec 3)=L
structure FnS(P:Program)(w:World)(K:FG)(mg:SV)(base:Heap)(x:Str)(k:Nat)(ps:ni)(sp:SpS):Prop where
 ex:∃f fd,Q3 P w K mg base k f fd ps sp/\mg x=U (sR f)/\vc K (sR f)=L/\Binds K fd ps []
def VF(g:FG)(f:Nat->nq)(h C:nq)(b:Option nq)(e:nq):TS:=λD l H=>l.9=2 /\
 ((∃j,Fv g f h C j/\b=J/\∀p i,fJ H i->i p=U (.t [.s nU,.s (wd j)])->D.rt (.r p) i) \/
  ∃j d v,Jf g f C j/\b=U d/\H d=U (.g [(NS j,(v))])/\∀p i,fJ H i->i p=U (.t [.s nU,.s (wd j),v])->D.rt (.r p) i)
def Gd(f:FG)(b:Nat->nq)(g:nq)(Q:VK):XK:=λm l i=>∃C,m=sR C/\∀e,i e=U (Hi e C l) ->
 ((∃j,Fv f b g C j/\l=J/\∀p h,fJ (del i e) h->h p=U (.t [.s nU,.s (wd j)])->Q (.r p) h) \/
  ∃j d v,Jf f b C j/\l=U d/\(del i e) d=U (.g [(NS j,(v))])/\∀p h,fJ (del i e) h->h p=U (.t [.s nU,.s (wd j),v])->Q (.r p) h)
theorem scTold:AI [oH,oJ] [oH] (defScope BK):=gQ
theorem VG(b)(a:X.K=b):iy X (binaryOp .Add) (Qn b):=a ▸ WG
theorem XN(F:gE b nY nY BK f fd)(M:TR i g)(G:VE b i g R)(X:FnS P w b i m pk 1 [oJ] (Ey b g))
   {s}{H}   {scope}{C}      {tl:XK->TE} 
  (hr:gD (k+2) A) (e0:iT P w b i m A o s H) (hb:BindsTo s fd a7 (([oH]:ni).zip [sR N])) (a3:KK Nl scope C a2 H s.16) (be:∀x c,C.5 x=U c->c∉ iz o)
  (h1:H N=U (lY N (va a0 qual params ar scope C pm r az))) (I:H r=U (Hk r qual))
  (a6:bindArgs (W.kla_fn a0 qual params ar scope C pm (sR r) az) ([],[])=pure [])
  (bb:scope.97=i7) (bk:scope.98=i7) (hk:scope.60=uR) (a9:∀x∈scope.53,x.2≠ uz)
  (bl:∀A' a5 s' h E,gD k (A'.55 (W.envX qual scope s'.8 N (sR r) C))->PE (Hl P w b i m Nl qual scope N (sR r) C A' a5 s' h E) ar (tl E))
  (aC:tl (Gd b g R Q) a2 H Q):codeAny (model P w) A (.call (sR f) a7) (CR gG o P w H s Q E0) s:=by
 let(fW,dW,X,mW,kW,bW):=X.ex;show F.at (N:=[oH,oJ]) scTold (vs:=[.r N]) Y (k:=k+1) hr e0 hb (tP Y tO) λl an=>?_
 let aM:∀e,RoomS 1 ((A.55 (PyProof.Rows.envOfC nY (defScope BK) s.8 f l)).mark (U (sR e))):=λe=>by
  let q:=an.63 (show 1<=k+1 by ext);show(q.dp,q.un)
 show(_,AB (Yg (tb:=λE=>Tg (OP 0 N r qual (va a0 qual params ar scope C pm r az) a2 (tl E))) (th:=VF b g R) (Yc (CX:=gG) (P:=P) (w:=w) (ω:=b) (mg:=i) (base:=m) (N:=[oH,oJ]) (qual:=nY) (scope:=defScope BK) (f:=f) (cd:=l) (A:=A) (outer:=o) (s:=s) (H:=H) (E:=E0)) (λP0 xe E hx=>?_) (λab dx=>?_)),?_)
 ·show AB (AJ (P1 (i:=0) (k:=k+1) Y (sU Y) an a3 be Y hx a6 bb bk hk a9 (λs' h=>bl _ _ s' h E (an.55 _))))
 ·rintro u s1 S H1 D e a T y c as ⟨hl,⟨j,EP,rfl,kq⟩|⟨j,d,v,t,rfl,bm,kq⟩⟩
  ·show(?hp:PH (CN gG P w b i m [oH,oJ] nY (defScope BK) f l A o s H E0) ab io _ (λe=>Q4 1 (λD S H=>S[1]?=U (U (.r e))/\∀p h,fJ H h->h p=U (.t [.s nU,.s (wd j)])->D.rt (.r p) h) e)) u s1 S H1 D e a T y c as ?_
   ·show DE (Dn:=g 0) EP.cx G.x0 Y M.e0 EP.n0 ?_;show DE (Dn:=g 1) EP.cx G.x1 Y M.e1 EP.n1 (DE (Dn:=g 2) EP.cx G.x2 Y M.e2 EP.n2 ?_);show DE (Dn:=g 3) EP.cx G.x3 Y M.e3 EP.n3 (Q5 (Dn:=R) (i:=1) scTold.nd Y Y EP.cx G.xm Y G.m EP.m (λe a T y c=>?_));show λu s2 l7 H2 D2 I2 I=>?_;let(fs,hd,hf1,hf2):=c.fld;show(?hb2:iZ (C1 (CN gG P w b i m [oH,oJ] nY (defScope BK) f l A o s H E0) e a T y) _ (Tg (Mu (Ey b g) e a (A3 (LI 1) Cz)))) u s2 l7 H2 D2 I2 (_,I.1,Y,ab,j,fs,c.83,hd,hf2,sU c.93,EP.ea,I.2);show AB (AJ (OO (e:=e) (oe:=a) X (aM e) Y (by simp[C1]) Y mW kW bW (gX (pv 1))))
   ·show(by simp_all,kq)
  ·have br:=t.j4;show(?hq:PH (CN gG P w b i m [oH,oJ] nY (defScope BK) f l A o s H E0) ab (U d) _ (λe=>Q4 1 (λD S H=>C₃ (S[1]?=U (U (.r e))) (H d=U (.g [(NS j,(v))])) (∀p h,fJ H h->h p=U (.t [.s nU,.s (wd j),v])->D.rt (.r p) h)) e)) u s1 S H1 D e a T y c as ?_
   ·have take:∀{x:Str}{al:Stmt}{np a1:Pos}{hs:List ExceptHandler}(B:nq),BL b B=iY->(hg:Gl (CN gG P w b i m [oH,oJ] nY (defScope BK) f l A o s H E0) x)->i x=U (sR B)->(FC b ab).17 (sR B)=iY->jg x ->
      (∀e a T y,Cgt ab (U d) e a T y->iZ (C1 (CN gG P w b i m [oH,oJ] nY (defScope BK) f l A o s H E0) e a T y) [al] (Tg (ly (Qn b) (Mu (Ey b g) e a (A3 (LI 1) Cz)) (YN (A3 (US e a (NS j) (LI 1)) Cz))))) ->
      PH (CN gG P w b i m [oH,oJ] nY (defScope BK) f l A o s H E0) ab (U d) (.ExceptHandler (U (tI x np)) (U oJ) [al] a1::hs) (λe=>Q4 1 (λD S H=>C₃ (S[1]?=U (U (.r e))) (H d=U (.g [(NS j,(v))])) (∀p h,fJ H h->h p=U (.t [.s nU,.s (wd j),v])->D.rt (.r p) h)) e):=λ{x al np a1 hs}B hD hg hm hc bd a8=>
     Q5 (Dn:=B) (i:=1) scTold.nd rfl rfl t.cx hD hg hm hc (λe a T y c=>by
      show λu s2 l7 H2 D2 I2 I=>?_;let(fs,hd,hf1,hf2):=c.fld;let(g1,g2,g3):=I;show a8 e a T y c u s2 l7 H2 D2 I2 (_,g1,rfl,ab,j,fs,c.83,hd,hf2,sY (d,_,c.93,g2),t.ea,λp h sp hp=>(_,g1,d,_,v,rfl,c.93,sp _ _ g2,(_),sl1,λq hq=>?_));let sq:=AD (fJ.r h) hq (o:=.t [v]);show(p,q,_,_,rfl,rfl,gB.of (sq _ _ hp),gB.of fH,(_),(by change 2+1<=sizeLine;decide),(λz=>nomatch z),λ_ bn hr=>?_)
      show g3 bn _ (sp.6 (AD sq hr)) fH) bd
    let pX:∀e a T y,Cgt ab (U d) e a T y->ExcP (C1 (CN gG P w b i m [oH,oJ] nY (defScope BK) f l A o s H E0) e a T y) e a ab:=λe a T y c=>by
     let(fs,hd,_):=c.fld;show(by simp[C1],c.83,(fs,hd))
    let ag:∀{fl:Str}{p1 p2 p3 p4 p5 p6 p7:Pos}{kt:Nat},NS j=fl->∀e a T y,Cgt ab (U d) e a T y->iZ (C1 (CN gG P w b i m [oH,oJ] nY (defScope BK) f l A o s H E0) e a T y) [.Return (U (.BinOp (uJ (tI pk p1) [tI oJ p2] [] p3) .Add (uV [tR (tI oJ p4) fl p5] kt p6) p7)) p7] (Tg (ly (Qn b) (Mu (Ey b g) e a (A3 (LI 1) Cz)) (YN (A3 (US e a (NS j) (LI 1)) Cz)))):=λfg e a T y c=>by
     subst fg;show AB (AJ (AW (VG b Y) (OO (e:=e) (oe:=a) X (aM e) Y (by simp[C1]) Y mW kW bW (gX (pv 1))) (Af (gX (Wj (pX e a T y c) t.g (pv 1) Y)))))
    let z||z||z||z:=(show j=0\/j=1\/j=2\/j=3 by lia)
    ·subst z;show take (g 0) G.x0 Y M.e0 t.m qc (ag Y)
    ·subst z;show DE (Dn:=g 0) t.cx G.x0 Y M.e0 (t.no 0 qc) (take (g 1) G.x1 Y M.e1 t.m qc (ag Y))
    ·subst z;show DE (Dn:=g 0) t.cx G.x0 Y M.e0 (t.no 0 qc) (DE (Dn:=g 1) t.cx G.x1 Y M.e1 (t.no 1 qc) ?_);show take (g 2) G.x2 Y M.e2 t.m qc (ag Y)
    ·subst z;show DE (Dn:=g 0) t.cx G.x0 Y M.e0 (t.no 0 qc) ?_;show DE (Dn:=g 1) t.cx G.x1 Y M.e1 (t.no 1 qc) (DE (Dn:=g 2) t.cx G.x2 Y M.e2 (t.no 2 qc) ?_);show take (g 3) G.x3 Y M.e3 t.m qc (ag Y)
   ·show(by simp_all,bm,kq)
 ·show(Y,h1,I,?_)
  let e:WZ (CN gG P w b i m [oH,oJ] nY (defScope BK) f l A o s H E0).N.9 (VF b g R) {nx:=λ_ h=>Q .g h,rt:=Q}=Gd b g R Q:=by
   funext Cv dx H2;unfold WZ Gd VF;simp[CN]
  rw[←e]at aC;show aC
end
end Mk
namespace L2
open PySem PySem.Spec PyProof.Rows
noncomputable def VH(b:List Nat)(d:St):St:=b.7 λj=>(d[j]?).44 J
structure LamN(X:Cx)(Nl:ni)(ix:List Nat)(scope:Scope)(iq:List (Str×nq)):Prop where
 len:ix.9=Nl.9
 nm:∀(i:Nat)x,Nl[i]?=U x->∃j,ix[i]?=U j/\X.N[j]?=U x/\X.28 x=U uz/\scope.13 x=U ub
 cl:∀x c,iq.5 x=U c->X.25 x=U c
 has:∀x,(scope.13 x=U uz\/scope.13 x=U ub)->∃c,iq.5 x=U c
 fr:∀x c,iq.5 x=U c->X.fn x=L\/c∉ iz X.s
theorem LamN.cells(b:LamN X g G scope w)(I:Inv X M f H s):KK g scope w (VH G f) H s.16:=by
 show(λx y c d a=>I.ok.inj x y c (b.cl x c d) (b.cl y c a),b.has,λx c h=>(I.84 x c (b.cl x c h),I.ie x c (b.cl x c h)),λi x v d a=>?_,?_)
 ·let(j,F,E,A,p):=b.nm i x d;show(p,?_);unfold VH at a
  let C:f[j]?=U (U v):=by
   cases e:f[j]? with
   |none=>ext
   |some o=>ext
  let(m,_,D):=I.loc;let(u,r,l):=D j x v E C (sY (sU A));let(l,_)||(_,c,e,z):=l
  ·rw[show X.e.kindOf x=X.28 x from rfl,A]at l;cases l
  ·let(B,q):=b.has x (sY p);let t:=b.cl x B q;rw[e]at t;cases t;show(u,c,r,q,z)
 ·unfold VH;rw[AN];show b.50
theorem LamN.mx(b:LamN X g j scope f)(I:Inv X i l H s):∀x c,f.5 x=U c->c∉ iz X.s:=λx c h z=>by
 let d:=b.cl x c h;let a||a:=b.fr x c h
 ·let z||z:=mem_cons.mp (I.iO c z)
  ·show I.lx x c d z
  ·let(_,o,e,_):=I.ok.iu.mem z;show absurd (zY (lt_size e) (I.ok.kY x c a d)) (zy _)
 ·show a z
end L2
namespace Mk
open PySem L2 MK
mutual
def VJ(j:FG)(g:Nat->nq)(f b:nq)(qual:Str)(d:List Pos)(h:List Nat)(i:XK->TE):TE:=λm H Q=>gR H b qual d/\∀l,L1 b H l->gR l b qual d->i (Gd j g f Q) (VH h m) l Q
theorem XO(F:gE X.K nY nY BK f fd)(M:TR X.m l)(P:VE X.K X.m l cM)(Q:FnS X.p X.w X.K X.m X.b pk 1 [oJ] (Ey X.K l))
  (hr:gD (k+2) X.A) (hg:Gl X nY) (hm:X.m nY=U (sR f)) (S:vc X.K (sR f)=iY) (hB:Binds X.K fd [oH] [])

  (T:Yh X c h) (ar:a∈m) (an:∀q∈m,q=a\/(q.70==a.70&&q.col==a.col)=O) (N:closureFor scope X.e=pure g) (a0:defaultsOf params X.e=([],([]))) (s:LamN X Nl ix scope g)
  (aM:∀pm i d,bindArgs (W.kla_fn nO (X.59 ++ nO) params b scope g pm (sR i) d) ([],[])=pure [])
  (ab:scope.97=O) (A:scope.98=O) (hk:scope.60=uR) (t:∀x∈scope.53,x.2≠ uz)
  (C:∀j i o aC R p E,gD k (o.55 (W.envX (X.59 ++ nO) scope R.8 j (sR i) g))->PE (Hl X.p X.w X.K X.m X.b Nl (X.59 ++ nO) scope j (sR i) g o aC R p E) b (tl E))
  (w:starEach [.Lambda params b scope a] X.e=(O,(eval (.Lambda params b scope a) X.e))::starEach [] X.e:=by rfl) (as:(backTo z (starEach [] X.e)).91 (·.1)=O:=by rfl):
  PE X (uJ (tI nY a3) [.Lambda params b scope a] [] z) (VJ X.K l cM h (X.59 ++ nO) m ix tl):=by
 intro D aR a1 H a2 I ⟨hT,az⟩;show zZ (Ci I hg hm (vJ I.85 S (gH ((gX (Yi T ar an N a0) w) z D aR a1 H (λvs y=>E₃ λj i d=>C₅ (vs=[.r j]) (L1 h H y) (gR y h (X.59 ++ nO) m) (y j=U (lY j (va nO (X.59 ++ nO) params b scope g ((X.m oQ).44 tj) i d))) (y i=U (Hk i (X.59 ++ nO)))) I (hT,λj i d p _ al ht G ag=>(j,i,d,rfl,al,ht,G,ag))) λus s1 (vs,y,v,r,j,i,d,ev,al,ht,G,ag)=>(v.ip,?_)) w as) qc);subst ev;let(u,eu,ru):=Bq r;subst eu;obtain rfl:u=sR j:=ru;show wpAny_call (codeAny_mono (XN F M P Q hr v.jE (hB s1 [sR j] v.ip rfl) (s.cells v) (s.mx v) G ag (aM _ _ _) ab A hk t (C j i) (az y al ht)) λr R B=>?_);cases r with
 |error e=>show tQ B
 |ok fl=>
  cases fl with
  |ret u=>show v.after B
  |next=>show tQ B
  |brk=>show tQ B
  |cont=>show tQ B
structure ZB(P:Program)(w:World)(K:FG)(mg:SV)(base:Heap)(cM:nq):Prop where
 cls:mg "MarkError"=U (sR cM)
 ga:W.specialIn K (sR cM) pB=U (U (sV qj))
 rd:W.readsIn K cM (sW sx)=L
 fn:∃f fd,W.findCls K (sR cM) (sW sx) nV=U (.val (sR f))/\AT P w K mg base gG 1 f fd [nv,rM] (spErrInit K)/\vc K (sR f)=L/\Binds K fd [nv,rM] []
inductive spRestInit(b:FG)(f:nq)(vs:nk)(H:Hp)(Q:VK)(g:XK):Prop
 |mk (e C) (n) (i:vs=[.r e,.t n]) (j:n.87<1920) (l:BL b C=L) (h:H e=U (GC e C J)) (o:OQ b C f o4) (m:∀d,H d=J->d≠e->Q .g (upd (upd H e (GC e C (U d))) d (.g [(o4,(.t n))])))
theorem QS:AI [nv,o4] [nv,o4] (defScope Ej):=gQ
theorem Oy(F:gE b nV "BadRest.__init__" Ej f y)(a:ZB P w b B m g):AT P w b B m gG 2 f y [nv,o4] (spRestInit b g):=by
 let(x,v,j,u,q,r):=a.fn;show F.m QS λvs H Q E h=>?_;let(e,C,n,rfl,l,p,i,S,k):=h;show(Y,λt A d s o=>?_);show(_,AC (Ah (KM Y a.83 a.ga a.rd j u o q r tO Ai (AA (Z 0) (gX (Q7 (_) (Z 1)))))) (AB (Q6 (M:=g) (Z 0) (Z 1) Y)),(7,7,sU (n,Y,l),λz=>(e,C,J,z,Y,p,i,?_)));show(7,7,e,C,Y,i,S,k)
def lK(H:Hp)(E:XK)(b:nq)(n:Int):Prop:=∀e d f,fJ H f->H e=J->H d=J->d≠e->f e=U (Hi e b (U d))->f d=U (.g [(o4,(.t n))])->E (sR b) (U d) f
structure QT(P:Program)(w:World)(K:FG)(mg:SV)(base:Heap)(cM cR:nq):Prop where
 cls:mg oX=U (sR cR)
 make:∃f fd,MkX K cR f/\AT P w K mg base gG 2 f fd [nv,o4] (spRestInit K cM)/\Binds K fd [nv,o4] []
 st:OQ K cR cM o4
theorem MQ{n}(q:BL m g=L)(S:OQ m g s o4)(t:n.87<1920)(l:fJ H f)(h:lK H E g n)(ht:te σ f=λQ=>Q (.t n) f):
  Ik g (Ij g (spRestInit m s) [] E0 (A3 te Cz)) E D σ f:=by
 change te σ f _;rw[ht];show((_),λa o=>(a,g,n,Y,t,q,fH,S,λd r i=>(Y,a,U d,Y,?_,?_)))
 ·rw[AE (sX i),fH]
 ·have j:f d=J:=by rwa[AE i]at r
  show h a d _ (λb u e=>?_) (none_of l o) (none_of l j) i fH ?_
  ·have p:=l _ _ e;let nb:=AH p o
   rwa[AE nb,AE (AH p j),AE nb,AE nb]
  ·rw[AE i,fH]
noncomputable def plain(i:Int):Nat:=if 0<=i then i.30 else (-i-1).30
def AX(due:Aa)(i:Int):Nat:=plain i-(plain i&&&kn due)
theorem JO(i):(plain i)=if 0<=i then i else -i-1:=by
 unfold plain
 grind
theorem VL{i}(d:-1099511627776<=i)(a:i<1099511627776):plain i<2^40:=by
 unfold plain;split<;>lia
theorem QU(x m):(x&&&m)-((x&&&m)&&&m)=0:=by
 grind
theorem MR{n:Nat}(h:n<2^40):((n:Int)).87<1920:=by
 rw[Int.natAbs_natCast];let z||z:=um n
 ·ext
 ·have:=(vU ()).49 h
  lia
inductive spMade(C b d:nq)(vs:nk)(H:Hp)(Q:VK)(E:XK):Prop
 |mk (kp) (due) (r) (i) (h:vs=[.r kp,.t i]) (j:fZ C H kp due r) (l:kn due<2^20) (g:0<=i) (o:i<1099511627776) (m:((AX due i≠0/\r=pZ /\ lK H E d (AX due i)) \/    (¬ (AX due i≠0/\r=pZ)/\AX due i≠0/\r=pN /\ ∀f,fJ H f->Q (.t i) f) \/    (¬ (AX due i≠0/\r=pZ)/\¬ (AX due i≠0/\r=pN)/\∀q f,fJ H f->gY b f q kp (if r=pe then plain i else plain i-AX due i)->Q (.r q) f)))
theorem scMade:AI [nG,nH,o4,pO] [nG,nH] (defScope RH):=gQ
theorem XQ(F:gE b "made" "made" RH f fd)(hL:d "LIMIT"=U (tV 1099511627776 tL))(T:EQ b C)(VO:Jd P w b d g C j)(l:QT P w b d g cM cR)
  (GW:Fn P w b d g qD 1 [nM] spIsWhole) (GR:Fn P w b d g rE 3 [nG,nH] (spRestOf C)) (aM:Mt P w b d g C pO 1 [nv] (spRest C)):
  AT P w b d g (iD P w) 6 f fd [nG,nH] (spMade C j cR):=by
 let(fE,dE,GE,mE,bE):=aM.ex;let(fI,dI,MI,GI,bI):=VO.make;let(fX,dX,MX,GX,bX):=l.make;let mV:=VO.83;let mB:=l.83;show F.n scMade λvs H aR al h=>?_;let(kp,due,r,i,rfl,KA,hk20,hi1,ku,h):=h;show(Y,λff ag az aC hr=>?_);let I:gD 1 _:=hr.63 qc;let as:gD 3 _:=hr.63 qc;let rz:=Hj (P:=P) (w:=w) (ω:=b) (mg:=d) (base:=g) (N:=[nG,nH,o4,pO]) (qual:="made") (scope:=defScope RH) (f:=f) (cd:=ff) (A:=ag) (outer:=az) (s:=aC) (H:=H) (E:=al);let(dxk,d1,d2,fj):=KA.ins
 show(_,AC (AU (PW.pt (Cw (Au (Al (gT GW I (gX (Z 1))))) (By (Au (FJ FH FF (Db D7 (BV (v:=.t 1099511627776) Y hL (tL,Y))) (Z 1) (BV (v:=.t 1099511627776) Y hL (tL,Y))))))) (AB Ad) AL)
  (Aw (A4 2 scMade.nd (BW (AK Nt (Z 1) AF (AO _)) (Z 1) (AW CL (Db D7 (Z 1)) AF)))
  (AC (A4 3 scMade.nd (gT GR as (AA (Z 0) (gX (Z 2)))))
  (Aw (AU (PW.pt (Cj (AK Dc (Z 3) AF (AO _)) (Bu (AK Aq (Br (Z 0) T.cl mE GE I bE tO Ai) AM (AO _))))) (AB (FR rz rfl MX.83 (FQ MX GX as rfl mB bX tO Ai (gX (Z 3))))) AL)
  (AC (AU (AK FF (Z 1) AF (AO _)) (AB Ad) AL)
  (Aw (AU (PW.pt (Cj (AK Dc (Z 3) AF (AO _)) (Bu (AK Aq (Br (Z 0) T.cl mE GE I bE tO Ai) AM (AO _))))) (AB (AJ (Z 1))) AL)
  (AB (AJ (Fy MI GI hr rfl mV bI tO Ai (AA (Z 0) (gX (BW (AK Aq (Br (Z 0) T.cl mE GE I bE tO Ai) AM (AO _)) (Z 2) (AW CL (Z 2) (Z 3))))))))))))),?_)
 let M:(Oo d1 d2 r).5 (pO:Str)=J:=(Bw _ _ _);show(7,i,Y,7,?_);show AV (7,7,_,7,Y,7,?_);rw[zI ()];apply Aj;show(_,7,Y,7,?_);rw[zI (ku)];apply AV;show(λs N=>s=[U (.r kp),U (.t i),U (.t (plain i)),J]/\N=H,λR p=>?_,?_)
 ·show(7,_,7,Y,7,?_);let e:=JO i;rw[zf hi1]at e;rw[zI (hi1)];show Aj (7,p _ _ (?_,Y));rw[e];rfl
 rintro s H0 ⟨rfl,rfl⟩;show(7,7,kp,due,r,plain i,Y,KA,λN D=>?_);let ar:=VL () ku;let y:=KA.15 D;let E:=D _ _ fj;let X:∀n:Nat,decide (V.t (n:Int)=V.t 0)=decide (n=0):=λn=>decide_eq_decide.49 (λz=>by ext,λz=>by rw[z];rfl);show(λs Q=>C₃ (¬ (AX due i≠0/\r=pZ)) (s=[U (.r kp),U (.t i),U (.t (plain i)),U (.t (AX due i))]) (Q=N),λR p=>?_,?_)
 ·show(7,Y,7,?_);change if (!decide (V.t ((AX due i:Nat))=V.t 0))=iY then _ else _
  rw[X];by_cases m:AX due i=0
  ·rw[zI m];show AV (AV (p _ _ (λz=>z.1 m,Y,Y)))
  ·rw[zL m];apply Aj;show(7,kp,dxk,7,E,M,kp,due,r,Y,y,Y,7,?_);by_cases A:r=pZ
   ·rw[zI (by rw[A])];show Aj ?_;let(_,_,hU)||(B,_)||(B,_):=h
    ·show MQ MX.83 l.st (MR (tw (vN _ _) ar)) D hU (by funext Q';show propext (λ x=>by let(v,e,q):=x;cases e;show q,λq=>(7,q)))
    ·show absurd (m,A) B
    ·show absurd (m,A) B
   ·rw[zL (λz=>A (V.s.inj z))];show AV (p _ _ (λz=>A z.2,Y,Y))
 rintro s Q ⟨a0,rfl,rfl⟩;show(_,rfl,_,_,rfl,rfl,_,rfl,?_);let(z1,z2,_)||(_,hs0,hlv,k)||(_,hnl,k):=h
 ·show absurd (z1,z2) a0
 ·rw[zL ()];apply AV;show(λ_ _=>False,λR p=>(7,Y,7,?_),λ_ _ z=>z.40);rw[X,zL hs0];apply Aj;show(7,kp,dxk,7,E,M,kp,due,r,Y,y,Y,7,?_);rw[zI (by rw[hlv])];show Aj (7,k _ D)
 ·rw[zL ()];apply AV;show(λs u=>s=[U (.r kp),U (.t i),U (.t (plain i)),U (.t (AX due i))]/\u=Q,λR p=>?_,?_)
  ·show(7,Y,7,?_);rw[X];by_cases m:AX due i=0
   ·rw[zI m];show AV (AV (p _ _ (Y,Y)))
   ·rw[zL m];show Aj (7,kp,dxk,7,E,M,kp,due,r,Y,y,Y,7,?_);rw[zL (λz=>hnl (m,V.s.inj z))];show AV (p _ _ (Y,Y))
  rintro s u ⟨rfl,rfl⟩;show(7,7,kp,dxk,7,E,M,kp,due,r,Y,y,Y,7,?_)
  let an:∀n:Nat,n=(if r=pe then plain i else plain i-AX due i)->n<2^40->(r=pe \/ n-(n&&&kn due)=0)->∀q o,u q=J->u o=J->o≠q->spVInit C j [.r q,.r kp,.t (n:Int)] (upd (upd u o (.a q)) q (.i j o [])) (λv S=>v=.g/\aR (.r q) S) E0:=λn en B hk q o G ab gd=>by
   let sN:=DQ (D:=j) G ab gd;show(q,o,kp,due,r,n,Y,fH,y.15 sN,B,hk,λS s4 hV=>(Y,k q S (D.6 (Ce sN G s4)) (en ▸ hV)))
  by_cases gx:r=pe
  ·rw[zI (by rw[gx])];show Aj (7,an (plain i) (_) ar (sU gx))
  ·rw[zL (λz=>gx (V.s.inj z))];show AV (7,7,_,7,Y,?_);let a3:AX due i<=plain i:=vN _ _;let es:((plain i):Int)-((AX due i:Nat))=((plain i-AX due i:Nat)):=by lia
   let ek:plain i-AX due i=plain i&&&kn due:=by
    unfold AX;have:=uM (n:=plain i) (m:=kn due)
    lia
   intro q o G ab gd;have:=an (plain i-AX due i) (_) () (sY (_)) q o G ab gd
   rwa[←es]at this
theorem Bm{x y x' y'}(h:H d=U (.l [.t x,.t y])):gC d H (upd H d (.l [.t x',.t y'])):=(λb o e a=>by rw[AE a];show e,(x',y',fH))
inductive spLMade(vs:nk)(H:Hp)(Q:VK)(b:XK):Prop
 |mk (t e m) (due) (r) (i) (f:vs=[.r t,.s r,.t i]) (g:H t=U (.d (QP due e m))) (h:0<=i) (d:((AX due i≠0/\r=pZ /\ ∀p,H p=J->Q (.r p) (upd H p (.t [.s nU,.s oX,.t (AX due i)]))) \/    (¬ (AX due i≠0/\r=pZ)/\AX due i≠0/\r=pN /\ ∀p,H p=J->Q (.r p) (upd H p (.t [.s sE,.t i]))) \/    (¬ (AX due i≠0/\r=pZ)/\¬ (AX due i≠0/\r=pN)/\Q (.t ((if r=pe then plain i else plain i-AX due i:Nat):Int)) H)))
theorem scLMade:AI [nZ,oY,nI,"_law_plain","_law_strange"] [nZ,oY,nI] (defScope Kl):=gQ
theorem VM(F:gE g rh rh Kl f b):AT P as g mg an gG 1 f b [nZ,oY,nI] spLMade:=by
 show F.m scLMade λvs H Q E h=>?_;let(t,e,m,a,r,i,rfl,ht,u,h):=h;show(zd,λal A C ar S=>?_);let s:=BY S
 show(_,Aw (A4 3 scLMade.nd (BW (AK Nt (Z 2) AF (AO _)) (Z 2) (AW CL (AW CL AF (Z 2)) AF)))
  (AC (A4 4 scLMade.nd (AW CL (Z 3) (AW Bh (Z 3) (Am s (Z 0) AM))))
  (Aw (AU (PW.pt (Cj (AK GH (Z 4) AF (AO _)) (Bu (AK Aq (Z 1) AM (AO _))))) (AB (AJ (Af (AA AM (AA AM (gX (Z 4))))))) AL)
  (AC (AU (AK FF (Z 2) AF (AO _)) (AB Ad) AL)
  (Aw (AU (PW.pt (Cj (AK GH (Z 4) AF (AO _)) (Bu (AK Aq (Z 1) AM (AO _))))) (AB (AJ (Af (AA AM (gX (Z 2)))))) AL)
  (AB (AJ (BW (AK Aq (Z 1) AM (AO _)) (Z 2) (AW Bh (Z 2) (Am s (Z 0) AM))))))))),?_)
 show(λq ag=>q=[U (.r t),U (.s r),U (.t i),U (.t (plain i)),J]/\ag=H,λR p=>?_,?_)
 ·show(7,_,7,zd,7,?_);let e:=JO i;rw[zf u]at e;rw[zI (u)];show Aj (7,p _ _ (?_,zd));rw[e];rfl
 rintro q ab ⟨rfl,rfl⟩;show(7,7,7,t,7,sU (_,sS ph,sU ht,zd,(DA _ _ _).31),_,7,zd,_,7,zd,?_)
 let w:(λi j=>V.t (i-j)) ((plain i:Nat)) (tD ((plain i:Nat)) ((AY (a.7 (·.2)):Nat)))=V.t ((AX a i:Nat)):=by
  change V.t (((plain i:Nat))-tD ((plain i:Nat)) ((AY (a.7 (·.2)):Nat)))=_;have:=uM (n:=plain i) (m:=kn a);unfold AX;congr 1;change(plain i:Int)-((plain i&&&kn a:Nat))=_
  lia
 let B:∀n:Nat,decide (0<(n:Int))=!decide (n=0):=λn=>by
  lia
 show(λq v=>C₃ (¬ (AX a i≠0/\r=pZ)) (q=[U (.r t),U (.s r),U (.t i),U (.t (plain i)),U (.t (AX a i))]) (v=ab),λR p=>?_,?_)
 ·show(_,congrArg (λz=>U (U z)) w,_,7,zd,7,?_);rw[B];by_cases o:AX a i=0
  ·rw[zI o];show AV (AV (p _ _ (λz=>z.1 o,?_,zd)))
   simp[*]
  ·rw[zL o];apply Aj;show(7,zd,7,?_);by_cases l:r=pZ
   ·rw[zI (by rw[l])];apply Aj;let(_,_,k)||(x,_)||(x,_):=h
    ·show(_,congrArg (λz=>U (U z)) w,kQ,k)
    ·show absurd (o,l) x
    ·show absurd (o,l) x
   ·rw[zL (λz=>l (V.s.inj z))];show AV (p _ _ (λz=>l z.2,?_,zd))
    ext
 rintro q v ⟨y,rfl,rfl⟩;show(_,rfl,_,_,rfl,rfl,_,rfl,?_);let(T,Y,_)||(_,I,G,k)||(_,D,k):=h
 ·show absurd (T,Y) y
 ·rw[zL ()];apply AV;show(λ_ _=>False,λR p=>(7,_,7,zd,7,?_),λ_ _ z=>z.40);rw[B,zL I];apply Aj;show(7,zd,7,?_);rw[zI (by rw[G])];show Aj (7,i1,k)
 ·rw[zL ()];apply AV;show(λq M=>q=[U (.r t),U (.s r),U (.t i),U (.t (plain i)),U (.t (AX a i))]/\M=v,λR p=>?_,?_)
  ·show(7,_,7,zd,7,?_);rw[B];by_cases o:AX a i=0
   ·rw[zI o];show AV (AV (p _ _ (zd,zd)))
   ·rw[zL o];apply Aj;show(7,zd,7,?_);rw[zL (λz=>D (o,V.s.inj z))];show AV (p _ _ (zd,zd))
  rintro q M ⟨rfl,rfl⟩;let ep:=JO i;rw[zf u]at ep;show(7,zd,7,?_);by_cases d:r=pe
  ·rw[zI (by rw[d])];rw[zf d,ep]at k;show Aj (7,k)
  ·rw[zL (λz=>d (V.s.inj z))];show AV (7,7,t,7,sU (_,sS ph,sU ht,zd,(DA _ _ _).31),_,7,zd,?_)
   let X:(λi j=>V.t (tD i j)) i ((AY (a.7 (·.2)):Nat))=V.t ((plain i-AX a i:Nat)):=by
    change V.t (tD i ((AY (a.7 (·.2)):Nat)))=_;let N:tD i ((AY (a.7 (·.2)):Nat))=tD ((plain i:Nat)) ((AY (a.7 (·.2)):Nat)):=by rw[ep]
    rw[N];have:=uM (n:=plain i) (m:=kn a);unfold AX;congr 1;change((plain i&&&kn a):Int)=_
    lia
   rwa[zg d,←X]at k
noncomputable def okN(i:Int):Bool:=decide (0<=i)&&decide (i<1099511627776)
def VN:Sp:=λvs H Q _=>∃i,vs=[.t i]/\Q (.l (okN i)) H
theorem RZ(F:gE d pU pU F6 f l)(m:b "LIMIT"=U (tV 1099511627776 o))(g:Fn P w d b j qD 1 [nM] spIsWhole):AT P w d b j gG 2 f l [nM] VN:=by
 show F.m QQ λvs H Q E h=>?_;let(i,rfl,k):=h;show(Y,λr A u s q=>?_);show(_,AB (AJ (CY (gT g q (gX (Z 0))) (Ck (FI FH FF AF (Z 0) (BV (v:=.t 1099511627776) Y m (o,Y)))))),7,i,Y,7,Aj (7,_,7,Y,7,?_));unfold okN at k;by_cases p:0<=i
 ·rw[zI p]at k ⊢;show Aj (_,7,Y,k)
 ·rw[zL p]at k ⊢;show AV k
theorem NT(F:gE g pU pU F6 f m)(a:b "LIMIT"=U (tV 1099511627776 i))(d:Fn P w g b l qD 1 [nM] spIsWhole):AT P w g b l gG 2 f m [nM] spIsNumber:=X2 (RZ F a d) λvs H Q E h=>by
 let(n,e,j,q):=h;show(n,e,?_);unfold okN
 rwa[zI (show(0:Int)<=(n:Int) by ext),zI (show(n:Int)<1099511627776 by lia)]
end
end Mk
namespace Mk
open PySem L2 MK PySem.NumText
mutual
noncomputable def DU(c:Nat):Bool:=decide (48<=c)&&decide (c<=57)
noncomputable def Dw(c:Nat):Bool:=decide (97<=c)&&decide (c<=122)
theorem JP(lo a)(x y:Str)(i:x.4=[lo])(e:y.4=[a])(c):(if (!decide ((⟨#[c]⟩:Str).4<x.4))=L then (!decide (y.4<(⟨#[c]⟩:Str).4))else O)=(decide (lo<=c)&&decide (c<=a)):=by
 rw[i,e]
 let j:decide ([c]<[lo])=decide (c<lo):=by
  rw[uQ,decide_eq_true_eq,cons_lt_cons_iff];simp
 let d:decide ([a]<[c])=decide (a<c):=by
  rw[uQ,decide_eq_true_eq,cons_lt_cons_iff];simp
 rw[j,d];by_cases l:c<lo<;>by_cases h:a<c<;>simp[h]<;>ext
def NU(x:Str):Bool:=x.39 DU&&(decide (x="0")||(!decide (x.cps.toList.head?=U 48)&&decide (digitsVal x.4<1099511627776)))
def Bn(x:Str):Bool:=match x.4 with| [c]=>Dw c|_=>O
inductive spFig(vs:nk)(H:Hp)(Q:VK)(b:XK):Prop
 |mk (x) (g:vs=[.s x]) (h:x.27 (· < 128)=L) (i:0<x.9) (f:x.9<=200) (j:∀d,fJ H d->Q (.l (NU x)) d)
theorem aH:AI [pa] [pa] (defScope HA):=gQ
theorem ZC(F:gE g rO rO HA f m)(B:Bl d)(j:Fn P w g d l pU 2 [nM] VN):AT P w g d l gG 3 f m [pa] spFig:=by
 show F.m aH λvs H Q E h=>?_;let(x,rfl,ha,h0,h60,k):=h;show(Y,λff A al an S=>?_)
 show(_,AC (AU (PW.pt (Cw (AK Aq (AS BN Y B.50 tu (gX (Z 0))) AF (AO _)) (By (Au (Al (AS (DN Y) Y B.94 Fk (gX (BJ [] [] (by rfl) (_) (by rfl) Y (J9 (Z 0)) (λ_ _ _ _ _ _=>BP) (λ_ _ _ _ _ _=>FI Ca Ca AM (Z 0) AM))))))))) (AB (AJ DI)) AL)
  (AC (AU (AK Aq (Ak Mg (Z 0) AF) AM (AO _)) (AB (AJ (CH Aq (Z 0) AM (AO _)))) AL)
  (AB (AJ (gT j S (gX (A0 GZ rfl B.int JI (gX (Z 0)))))))),?_)
 show(7,x,Y,sZ (AR ()),Y,7,?_);rw[zL (λz=>by ext)];apply AV;let ab:x.cps.64=x.9:=by rw[uA];rfl
 show(7,x,Y,ha,Hw (λi s o=>o=H/\s=(x.79 i).7 λc=>V.l (DU c)) (Y,Y) (λi s o (_,e)=>?_) ?_ ?_)
 ·grind
 ·rintro i c s o G ⟨rfl,rfl⟩;show(7,_,7,Y,7,?_)
  let C:∀b,b=DU c->(o=o/\(x.79 i).7 (λc=>V.l (DU c))++[V.l b]=(x.79 (i+1)).7 λc=>V.l (DU c)):=λb M=>by
   show(Y,?_);let T:x.4[i]?=U c:=by rwa[ug]
   rw[zw,T,zl,M];rfl
  let r:=JP 48 57 "0" "9" (by rfl) (by rfl) c;show BF (λv=>?_) (λv=>?_)
  ·rw[zf v]at r;show(_,7,Y,C _ r)
  ·rw[zg v]at r;show C _ r
 rintro s o ⟨rfl,rfl⟩ p R;show(p,x.cps.95 DU,Y,fV.of (by rw[fH,take_of_length_le (_),map_map];rfl),7,?_);rw[show(x.cps.95 DU).94 id=x.39 DU by simp_all];let q:=k _ (AD (fJ.r _) R (o:=HO.l ((x.79 x.82).7 λc=>V.l (DU c))));unfold NU at q;by_cases D:x.39 DU=L
 ·rw[D]at q ⊢;apply AV
  let(c,u,ec):∃c u,x.4=c::u:=by
   cases e:x.4 with
   |nil=>ext
   |cons c u=>ext
  show(7,x,0,c,Y,Y,sZ (AR ()),(Bp (_)),Y,7,?_);let X:("0":Str).4=[48]:=by decide +kernel
  by_cases y:c=48
  ·subst y;rw[zI (show x.cps.toList.head?=U 48 by ext),Bool.not_true,wc,Bool.or_false]at q;show Aj (7,Y,?_)
   rwa[decide_eq_decide.49 (λz=>V.s.inj z,λz=>by rw[z])]
  ·rw[zL (λz=>y (by
    grind))]
   rw[zL (λz=>y (_)),zL (_),Bool.true_and]at q;apply AV
   let hd:=λc G=>by
    have:=all_eq_true.mp D c G;unfold DU at this
    rwa[tA,decide_eq_true_eq,decide_eq_true_eq]at this
   show(7,x,7,by lia,intText_digits hd (_) (),(digitsVal x.4),Y,?_)
   let I:okN ((digitsVal x.4:Nat))=decide (digitsVal x.4<1099511627776):=by
    unfold okN;rw[zI (),Bool.true_and];show decide_eq_decide.49 ()
   rwa[I]
 ·have N:x.39 DU=O:=by
   cases e:x.39 DU with
   |true=>trivial
   |false=>rfl
  rw[N]at q ⊢;show Aj q
inductive spLet(vs:nk)(H:Hp)(Q:VK)(b:XK):Prop
 |txt (x) (d:vs=[.s x]) (f:x.9<=200) (g:Q (.l (Bn x)) H)
theorem aI:AI [nM] [nM] (defScope Ix):=gQ
theorem ZD(F:gE b qp qp Ix f d)(B:Bl g):AT P w b g i gG 1 f d [nM] spLet:=by
 show F.ok aI (λvs H Q E h=>?_) (λv A C s H vs Q E z h=>?_)
 ·cases h with
  |txt x e _ _=>ext
 ·show(_,AB (AJ (CY (BZ b rfl rfl B.iP rfl B.str HJ (Z 0)) (CY (CH Aq (AS BN rfl B.50 tu (gX (Z 0))) AF (AO _)) (Ck (FI Ca Ca AM (Z 0) AM))))),?_);cases h with
  |txt x e y k=>
   subst e;show(7,_,_,_,L,Y,.s x,Y,7,Aj (7,x,Y,sZ (AR ()),Y,7,?_));let o:x.cps.64=x.9:=by rw[uA];rfl
   unfold Bn at k;show BF (λm=>?_) (λm=>?_)
   ·let(c,ec):∃c,x.4=[c]:=by
     let p:x.9=1:=by have:=V.t.inj (zS m);lia
     rw[p]at o;show List.length_eq_one_iff.mp o
    rw[ec]at k;show(7,_,7,Y,7,?_);let l:=JP 97 122 "a" "z" (by rfl) (by rfl) c;let u:(⟨#[c]⟩:Str).4=x.4:=by rw[ec]
    rw[u]at l;change _=Dw c at l;change Q (V.l (Dw c)) H at k;rw[←l]at k;show BF (λj=>?_) (λj=>?_)
    ·rw[zf j]at k;show(_,7,Y,k)
    ·rwa[zg j]at k
   ·have q:(match x.4 with| [c]=>Dw c|_=>O)=O:=by
     cases e:x.4 with
     |nil=>rfl
     |cons a r=>
      grind
    rwa[q]at k
theorem BB(x:Str):x.cps.64=x.9:=by rfl
theorem II(z){a b:Nat}(d:a<=b)(i:b<=z.9):(vK z (U (a)) (U (b))).4=(z.cps.toList.drop a).12 (b-a):=by
 unfold vK;split
 ·rename_i h;rw[StrLaws.strSliceIndices_plain d i,AN]at h
  let e:b-a=z.9:=by
   simp at h;show h
  let j:a=0:=by lia
  subst j;rw[List.drop_zero,take_of_length_le (by rw[BB];ext)]
 ·rw[StrLaws.sliced_plain z d i]
def LS(lt:Bool)(x:Str):Bool:=C8 x||(NU x||(lt&&Bn x))
inductive spPart(vs:nk)(H:Hp)(Q:VK)(b:XK):Prop
 |mk (x) (lt) (g:vs=[.s x,.l lt]) (h:x.27 (· < 128)=L) (i:0<x.9) (f:x.9<=200) (j:∀d,fJ H d->Q (.l (LS lt x)) d)
theorem ZE:AI [pa,oR] [pa,oR] (defScope ND):=gQ
theorem XR(F:gE b "is_part" "is_part" ND f C)(t:Fn P w b m g rD 1 [nM] spIsName)(v:Fn P w b m g rO 3 [pa] spFig)(y:Fn P w b m g qp 1 [nM] spLet):AT P w b m g gG 4 f C [pa,oR] spPart:=by
 show F.m ZE λvs H Q E h=>?_;let(x,lt,rfl,q,r,d,k):=h;show(rfl,λu A j s p=>?_);let a:gD 1 _:=p.63 qc;show(_,AB (AJ (Xq (gT t a (gX (Z 0))) (Xq (gT v p (gX (Z 0))) (Ck (CY (Z 1) (Ck (gT y a (gX (Z 0))))))))),(_,rfl,x,rfl,q,by lia,λB e=>(_,rfl,?_)));unfold LS at k;cases o:C8 x with
 |true=>
  rw[o]at k;show Aj (k _ e)
 |false=>
  rw[o]at k;show AV (_,rfl,x,rfl,q,r,d,λz i=>(_,rfl,?_));cases l:NU x with
  |true=>
   rw[l]at k;show Aj (k _ (e.6 i))
  |false=>
   rw[l]at k;show AV (_,rfl,_,rfl,?_);cases lt with
   |true=>show Aj (_,rfl,.txt x rfl d (k _ (e.6 i)))
   |false=>show AV (k _ (e.6 i))
structure TU(lt:Bool)(z:Str)(a n:Nat):Prop where
 le:a+n<=z.9
 ok:∀k,0<k->k<=n->LS lt (vK z (U (a)) (U ((a+k:Nat):Int)))=L
 no:a+n<z.9->LS lt (vK z (U (a)) (U ((a+n+1:Nat):Int)))=O
theorem TV{z:Str}{a b}(d:a<=b)(e:b<=z.9)(h:z.27 (· < 128)=L):(vK z (U (a:Int)) (U (b:Int))).27 (· < 128)=L:=by
 rw[←Array.all_toList]at h ⊢;rw[II z d e]
 grind
theorem TW{z}{a b:Nat}(d:a<=b)(e:b<=z.9):(vK z (U (a)) (U (b))).9=b-a:=by
 rw[←BB,II z d e,zr,List.length_drop,BB]
 lia
inductive spPE(vs:nk)(H:Hp)(Q:VK)(b:XK):Prop
 |mk (z) (a n:Nat) (lt) (g:vs=[.s z,.t (a),.l lt]) (h:z.27 (· < 128)=L) (i:z.9<=200) (f:TU lt z a n) (j:∀d,fJ H d->Q (.t ((a+n:Nat):Int)) d)
theorem scPE:AI [pa,"at",oR,"end"] [pa,"at",oR] (defScope Kc):=gQ
theorem XS(F:gE R "part_end" "part_end" Kc f T)(B:Bl g)(G:Fn P w R g S "is_part" 4 [pa,oR] spPart):AT P w R g S gG 5 f T [pa,"at",oR] spPE:=by
 show F.m scPE λvs H Q E h=>?_;let(z,a,n,lt,rfl,C,D,PA,q):=h;show(Y,λy A l s p=>?_)
 show(_,AC (A4 3 scPE.nd (Z 1))
  (AC (HS tK (PW.pt (Cj (AK FF (Z 3) (AS BN rfl B.50 tu (gX (Z 0))) (AO _)) (Bu (Al (gT G p (AA (N1 UV (Z 0) (Jn (Z 1)) (Jn (AW Cm (Z 3) AF))) (gX (Z 2)))))))) (AB (PV (i:=3) scPE.nd rfl (sU rfl) AF Qj)))
  (AB (AJ (Z 3)))),?_)
 show(7,λm d o=>∃k,C₄ (d=[U (.s z),U (.t a),U (.l lt),U (.t ((a+k:Nat)))]) (fJ H o) (k<=n) (m=n-k),(n,0,Y,fJ.r _,tH _,Y),?_);rintro m d o ⟨k,rfl,j,N,rfl⟩;let I:=PA.le;show(7,7,z,Y,sZ (AR ()),_,7,Y,7,?_);by_cases u:a+k<z.9
 ·rw[zI (by omega)];apply Aj;show(7,7,a,Y,7,_,7,Y,((a+k+1:Nat)),congrArg V.t (),z,Y,sZ (AR ()),7,?_);let M:=TW (z:=z) (a:=a) (b:=a+k+1) () ();show(_,lt,Y,TV (a:=a) (b:=a+k+1) () () C,by lia,by lia,λX s3=>(7,?_));by_cases t:k<n
  ·have ok:=PA.ok (k+1) () ();rw[show a+(k+1)=a+k+1 by lia]at ok;rw[ok];show Aj (λd v=>d=[U (.s z),U (.t a),U (.l lt),U (.t ((a+(k+1):Nat)))]/\fJ H v,λx ab c=>by let(e,r):=c;show (n-(k+1),by lia,k+1,e,r,by lia,Y),(7,_,7,Y,?_,j.6 s3));rfl
  ·have e:k=n:=by lia
   subst e;rw[PA.no u];show AV (7,q _ (j.6 s3))
 ·rw[zL ()];let e:k=n:=by lia
  subst e;show AV (AV (7,q _ j))
structure LU(K:FG)(DC:nq):Prop where
 cl:jz K DC
 nS:g9 K DC pJ
 nW:g9 K DC qT
 nP:g9 K DC qw
def lP(b d:nq)(wp:Bool):List (Str×V):=BD qw (.l wp) (BD qT (.r d) (BD pJ (.r b) []))
theorem VP(b a)(wp):(lP b a wp).5 (pJ:Str)=U (.r b):=by
 rfl
theorem IJ(b a)(wp):(lP b a wp).5 (qT:Str)=U (.r a):=by
 rfl
theorem MS(b a)(wp):(lP b a wp).5 (qw:Str)=U (.l wp):=by
 rfl
theorem Ez(b e)(wp){m:Str}(h:¬ m=pJ:=by decide +kernel)(d:¬ m=qT:=by decide +kernel)(a:¬ m=qw:=by decide +kernel):(lP b e wp).5 m=J:=by
 unfold lP;rw[As,zg a,As,zg d,As,zg h];rfl
structure ia(DC:nq)(H:Hp)(p ls lw:nq)(ss ws:ni)(wp:Bool):Prop where
 ex:∃dx,H p=U (.i DC dx (lP ls lw wp))
 hs:H ls=U (.l (ss.7 V.s))
 hw:H lw=U (.l (ws.7 V.s))
 ne:ls≠lw
def j6(p f g:nq)(H d:Hp):Prop:=∀b o,H b=U o->b≠p->b≠f->b≠g->d b=U o
theorem j6.refl(p b a)(H):j6 p b a H H:=λ_ _ e _ _ _=>e
theorem ia.np(h:ia g H p b f j l wp):b≠p/\f≠p:=by
 let(i,a):=h.ex;let d:=h.hs;let e:=h.hw;show(λz=>(_),λz=>(_))
theorem ia.steps(a)(h:ia f H p b g j i wp):ia f (upd H b (.l (a.7 V.s))) p b g a i wp:=by
 let(e,d):=h.ex;show((e,by rw[AE (sX h.np.1)];show d),fH,by rw[AE (sX h.ne)];show h.hw,h.ne)
theorem ia.waits(a)(h:ia f H p g b i j wp):ia f (upd H b (.l (a.7 V.s))) p g b i a wp:=by
 let(e,d):=h.ex;show((e,by rw[AE (sX h.np.2)];show d),by rw[AE h.ne];show h.hs,fH,h.ne)
theorem ia.wants(b)(h:ia d H p f g j l wp):ia d (upd H p (.i d i (lP f g b))) p f g j l b:=
 ((i,fH),by rw[AE h.np.1];show h.hs,by rw[AE h.np.2];show h.hw,h.ne)
theorem Ra(b a)(wp):(lP b a wp).9<1000:=by
 let e:=Az qw (.l wp) (BD qT (.r a) (BD pJ (.r b) []));let h:=Az qT (.r a) (BD pJ (.r b) []);let d:=Az pJ (.r b) [];let i:([]:List (Str×V)).9=0:=rfl;unfold lP
 lia
inductive spTP(b:nq)(vs:nk)(H:Hp)(Q:VK)(d:XK):Prop
 |mk (p ls lw) (ss ws) (wp) (x) (h:vs=[.r p,.s x]) (i:ia b H p ls lw ss ws wp) (j:ss.9<=400) (g:∀f,j6 p ls lw H f->ia b f p ls lw (ss++[x]) ws O->Q .g f)
theorem dJ:AI [nv,sG] [nv,sG] (defScope C3):=gQ
theorem aJ(F:gE m "take_part" "Reading.take_part" C3 f I)(a:LU m g):AT P w m N M gG 1 f I [nv,sG] (spTP g):=by
 show F.m dJ λvs H Q E h=>?_;let(p,r,G,t,B,wp,x,rfl,R,l,q):=h;show(Y,λy A d s C=>?_);let(i,v):=id R.ex;show(_,AC (Ah (Bj (Ac (Z 0) Y) (gX (Z 1)))) (AB (B0 (Z 0) DI Y)),(7,p,g,i,_,7,v,a.cl,a.nS,VP _ _ _,sU (Y,_,fV.of R.hs),7,r,_,7,Y,R.hs,AR (_),?_));let j:=R.steps (t++[x]);rw[zl]at j;show(7,p,g,i,7,by rwa[AE (sX R.np.1)],a.cl,a.nP,Ra _ _ _,q _ (λb o e u z D=>by rwa[AE u,AE z]) (j.wants O))
inductive spRd0(d:nq)(vs:nk)(H:Hp)(Q:VK)(f:XK):Prop
 |mk (p dx) (j:vs=[.r p]) (l:H p=U (.i d dx [])) (m:∀h i g,(∀b o,H b=U o->b≠p->g b=U o)->H h=J->H i=J->ia d g p h i [] [] L->Q .g g)
theorem aK:AI [nv] [nv] (defScope Em):=gQ
theorem ZF(F:gE m nV "Reading.__init__" Em f M)(u:LU m g):AT P w m R N gG 1 f M [nv] (spRd0 g):=by
 show F.m aK λvs H Q E h=>?_;let(p,x,rfl,D,q):=h;show(Y,λG A B s I=>?_);show(_,AC (B0 (Z 0) (BA AG) Y) (AC (B0 (Z 0) (BA AG) Y) (AB (B0 (Z 0) DI Y))),((_),λy r=>?_));let i:=AH D r;show(7,p,g,x,7,by rw[AE i];show D,u.cl,u.nS,(_),((_),λv t=>?_));let d:p≠v:=λz=>by rw[←z,fH]at t;cases t
 let a:(upd H y (.l [])) v=J:=by rwa[AE (sX d)]at t
 let l:y≠v:=λz=>by rw[←z,fH]at a;cases a
 let j:H v=J:=by rwa[AE (sX l)]at a
 show(7,p,g,x,7,by rw[AE d,fH],u.cl,u.nW,tw (Az _ _ _) (_),(7,p,g,x,7,fH,u.cl,u.nP,tw (tT (Az _ _ _) (Nat.succ_le_succ (Az _ _ _))) (_),?_));show q y v _ (λb o e C=>?_) r j ((x,fH),?_,?_,l)
 ·rwa[AE C,AE C,AE (AH e j),AE C,AE (AH e r)]
 ·rw[AE (sX i),AE (sX i),AE l,AE (sX i),fH];rfl
 ·rw[AE (sX d),AE (sX d),fH];rfl
noncomputable abbrev sl(z:Str)(a b:Nat):Str:=vK z (U (a:Int)) (U (b:Int))
inductive Sg|br|or|xo|an|no
deriving DecidableEq
noncomputable def Sg.s:Sg->Str|.br=>"(" |.or=>"|" |.xo=>"^" |.an=>"&" |.no=>"~"
noncomputable def Sg.b:Sg->Nat|.br=>0|.or=>1|.xo=>2|.an=>3|.no=>4
noncomputable def Sg.c:Sg->Nat|.br=>40|.or=>124|.xo=>94|.an=>38|.no=>126
def Sg.iJ:Sg->Prop|.or=>True|.xo=>True|.an=>True|_=>False
noncomputable abbrev il(W:List Sg):ni:=W.map Sg.s
noncomputable def QV(W:List Sg):Nat:=match W.getLast? with|some s=>s.b|none=>0
inductive Rn(lt:Bool)(z:Str)(o:ni):Nat->ni->List Sg->Bool->Prop
 |done (S) (Q) (h:∀q∈Q,1<=q.b) (e:o=S++(il Q).48):Rn lt z o z.9 S Q O
 |blank (a) (S) (W) (wp) (h:z.4[a]?=U 32) (r:Rn lt z o (a+1) S W wp):Rn lt z o a S W wp
 |part (a n) (S) (W) (h:TU lt z a n) (f:0<n) (r:Rn lt z o (a+n) (S++[sl z a (a+n)]) W O):Rn lt z o a S W L
 |ahead (a) (S) (W) (g) (b:g=.no\/g=.br) (h:z.4[a]?=U g.c) (r:Rn lt z o (a+1) S (W++[g]) L):Rn lt z o a S W L
 |join (a) (S) (W Q) (g) (b:g.iJ) (h:z.4[a]?=U g.c) (d:∀q∈Q,g.b<=q.b) (i:QV W<g.b) (r:Rn lt z o (a+1) (S++(il Q).48) (W++[g]) L):Rn lt z o a S (W++Q) O
 |close (a) (S) (W Q) (h:z.4[a]?=U 41) (d:∀q∈Q,1<=q.b) (r:Rn lt z o (a+1) (S++(il Q).48) W O):Rn lt z o a S ((W++[.br])++Q) O
inductive Tr
 |wd (x:Str)
 |ng (t:Tr)
 |bn (g:Sg) (a b:Tr)
noncomputable def Tr.post:Tr->ni
 |.wd x=>[x]
 |.ng t=>t.72++[("~":Str)]
 |.bn g a b=>a.72++b.72++[g.s]
abbrev Bk(u:List Nat):Prop:=u=[]\/u=[32]
structure mP(lt:Bool)(w:List Nat):Prop where
 ne:0<w.9
 ok:∀k,0<k->k<=w.9->∀x,x.4=w.12 k->LS lt x=L
inductive Wr(lt:Bool):Tr->Nat->List Nat->Prop
 |wd (x) (r) (bl) (d:Bk bl) (h:mP lt x.4):Wr lt (.wd x) r (bl++x.4)
 |ng (t) (r) (u) (f:r<=3) (h:Wr lt t 3 u):Wr lt (.ng t) r (126::u)
 |bn (g) (a b) (r) (u v bl) (j:g.iJ) (f:r+1<=g.b) (d:Bk bl) (i:Wr lt a (g.b-1) u) (l:Wr lt b g.b v):Wr lt (.bn g a b) r (u++(bl++(g.c::v)))
 |br (t) (r) (u bl) (d:Bk bl) (h:Wr lt t 0 u):Wr lt t r (bl++(40::(u++[41])))
def Sep(u:List Nat):Prop:=∀c,u.head?=U c->EE c=O/\DU c=O
theorem VQ(d:EE c=O/\DU c=O)(h:x.4=w++[c])(b:w≠ []\/Dw c=O):LS lt x=O:=by
 let i:C8 x=O:=by
  unfold C8
  have:x.39 EE=O:=by
   rw[h];simp[d.1]
  rw[this,Bool.and_false]
 let j:NU x=O:=by
  unfold NU
  have:x.39 DU=O:=by
   rw[h];simp[d.2]
  rw[this,wc]
 let e:Bn x=O:=by
  unfold Bn;rw[h];cases w with
  |nil=>ext
  |cons a r=>simp
 unfold LS;rw[i,j,e];cases lt<;>rfl
theorem NV{x y:Str}(h:x.4=y.4):x=y:=by
 cases x with
 |mk a=>ext
theorem aL(f:z.4=pre++(w++post))(b:mP lt w)(e:Sep post):TU lt z pre.9 w.9/\sl z pre.9 (pre.9+w.9)=⟨w.11⟩:=by
 let a:z.9=pre.9+(w.9+post.9):=by rw[←BB,f,zE,zE]
 let j:∀k,k<=w.9+post.9->(sl z pre.9 (pre.9+k)).4=(w++post).12 k:=λk d=>by
  rw[II z () (),f,List.drop_left,Nat.add_sub_cancel_left]
 show((by ext,λk h d=>?_,λi=>?_),?_)
 ·apply b.ok k h d _
  grind
 ·cases post with
  |nil=>ext
  |cons c r=>
   show VQ (w:=w) (e c Y) ?_ (sU λz=>by have:=b.ne;rw[z]at this;show absurd this qc);have:=j (w.9+1) (_);rw[show pre.9+w.9+1=pre.9+(w.9+1) by lia,this,List.take_append];simp;show take_of_length_le ()
 ·apply NV
  ext
theorem K0{z:Str}{b}(d:z.4=b++c::post):z.4[b.9]?=U c:=by
 ext
theorem F9(W)(g):QV (W++[g])=g.b:=by
 unfold QV
 ext
theorem VR(a:Bk b)(d:z.4=pre++(b++post))(r:Rn lt z o (pre++b).9 S W wp):Rn lt z o pre.9 S W wp:=by
 let rfl||rfl:=a
 ·rwa[zj]at r
 ·show .blank _ _ _ _ (K0 d) (by simpa using r)
theorem Sep.of{c}{r}(h:EE c=O/\DU c=O):Sep (c::r):=λd a=>by ext
theorem Sep.bk{a u}(d:Bk a)(h:Sep u):Sep (a++u):=by
 let rfl||rfl:=d
 ·show h
 ·show Sep.of (Y,Y)
theorem Sep.sg{g:Sg}:Sep (g.c::r):=Sep.of (by cases g<;>show(rfl,rfl))
theorem ZG(f:Wr lt t r u):∀{pre jS}{S}{W},z.4=pre++(u++jS)->Sep jS->(r<3->QV W<=r) ->
  (∀d Q,(∀q∈Q,r+1<=q.b)->d++(il Q).48=S++t.72->Rn lt z o (pre++u).9 d (W++Q) O)->Rn lt z o pre.9 S W L:=by
 induction f with
 |wd x r i m h=>
  intro pre jS S W j s y k;rw[append_assoc]at j;apply VR m j;let(p1,p2):=aL (z:=z) (pre:=pre++i) (_) h s;show .part _ _ _ _ p1 h.ne ?_;rw[p2];have:=k (S++[x]) [] (λq p=>nomatch p) (by change S++[x]++[]=S++[x];simp);rw[zj]at this
  rwa[←append_assoc,zE]at this
 |ng t r u G h A=>
  intro pre jS S W j s y k;show .ahead _ _ _ .no (sU Y) (K0 (_)) ?_;have:=A (pre:=pre++[126]) (S:=S) (W:=W++[.no]) (_) s (λh=>absurd h qc) (λd Q p e=>?_)
  ·simpa using this
  ·have:=k d (.no::Q) (λq C=>by
    let rfl||h:=mem_cons.mp C
    ·show r+1<=4;lia
    grind) (by
    change d++(Sg.no.s::il Q).48=S++(t.72++[("~":Str)]);rw[List.reverse_cons,←append_assoc,e,append_assoc]
    rfl)
   simpa using this
 |bn g a b r u v i E G m X hv H I=>
  intro pre jS S W j s y k;let ab:1<=g.b:=by cases g<;>first|lia|decide
  let ag:g.b<=3:=by cases g<;>first|trivial|decide
  show H (jS:=i++(g.c::(v++jS))) (_) (Sep.bk m Sep.sg) (λ_=>by lia) λN M R D=>?_;apply VR (pre:=pre++u) (post:=g.c::(v++jS)) m (_);show .join _ _ _ _ g E (K0 (post:=v++jS) (_)) (λq p=>by ext) () ?_;rw[D];have:=I (pre:=pre++u++i++[g.c]) (S:=S++a.72) (W:=W++[g]) (_) s (λ_=>by rw[F9];simp) λB w T P=>?_
  ·have l:(pre++u++i++[g.c]).9=(pre++u++i).9+1:=by simp;lia
   rwa[l]at this
  ·have:=k B (g::w) (λq C=>by
    grind) (by
    change B++(g.s::il w).48=S++(a.72++b.72++[g.s])
    grind)
   rw[show W++[g]++w=W++(g::w) by simp];let l:(pre++u++i++[g.c]++v).9=(pre++(u++(i++g.c::v))).9:=by simp
   rwa[l]
 |br t r u i m h A=>
  intro pre jS S W j s y k;rw[append_assoc]at j;apply VR m j;show .ahead _ _ _ .br (sY Y) (K0 (post:=u++41::jS) (by rw[j];simp[Sg.c])) ?_;have:=A (pre:=pre++i++[40]) (jS:=41::jS) (S:=S) (W:=W++[.br]) (_) (Sep.of (rfl,rfl)) (λ_=>by rw[F9];trivial) (λd Q p e=>?_)
  ·have l:(pre++i++[40]).9=(pre++i).9+1:=by simp;lia
   rwa[l]at this
  ·show .close _ _ _ _ (K0 (post:=jS) (_)) (λq h=>by ext) ?_;rw[e];have:=k (S++t.72) [] (λq p=>nomatch p) (_);rw[zj]at this;let l:(pre++(i++40::(u++[41]))).9=(pre++i++[40]++u).9+1:=by simp;lia
   rwa[l]at this
theorem VU(h:Wr lt t 0 z.4):Rn lt z t.72 0 [] [] L:=by
 show ZG h (pre:=[]) (jS:=[]) (_) (λc d=>nomatch d) (λ_=>qc) λg Q f e=>?_;let b:([]++z.4).9=z.9:=by rw[nil_append,BB]
 rw[b,nil_append];show .done _ _ (λq h=>f q h) (by rw[e];rfl)
noncomputable def Du:LK:=[((sS "(":Key),(.t 0)),(sS "|",(.t 1)),(sS "^",(.t 2)),(sS "&",(.t 3)),(sS "~",(.t 4))]
theorem Rb(g:Sg):An Du (sS g.s:Key)=U (.t (g.b:Int)):=by cases g<;>decide +kernel
theorem aN(R:ia v H p f g w y wp)(s:j6 p f g H m)(h:Rd H bd (.d u)):Rd m bd (.d u):=by
 let(r,j):=R.ex
 let d:∀{o:HO},H bd=U o->(∀i,o≠ .l i)->(∀a b c,o≠ .i a b c)->bd≠p/\bd≠f/\bd≠g:=λ{o}e l q=>by
  show(λz=>?_,λz=>?_,λz=>?_)
  ·grind
  ·rw[z,R.hs]at e
   grind
  ·rw[z,R.hw]at e
   grind
 let h||(o,h):=h
 ·let(a,b,c):=d h (λ_ z=>nomatch z) (λ_ _ _ z=>nomatch z);show sU (s _ _ h a b c)
 ·let(a,b,c):=d h (λ_ z=>nomatch z) (λ_ _ _ z=>nomatch z);show sY (o,s _ _ h a b c)
theorem Oz(b)(g):jH ((il (b++[g])).7 V.s) (-1)=U (V.s g.s)/\((il (b++[g])).7 V.s)[((il (b++[g])).7 V.s).9-1]?=U (V.s g.s)/\((il (b++[g])).7 V.s).dropLast=(il b).7 V.s:=by
 let e:(il (b++[g])).7 V.s=(il b).7 V.s++[V.s g.s]:=by simp
 show(?_,?_,?_)
 ·unfold jH
  let d:j9 ((il b).7 V.s++[V.s g.s]).9 (-1)=U ((il b).7 V.s).9:=by
   unfold j9;simp
   lia
  ext
 ·ext
 ext
inductive spSet(d bd:nq)(vs:nk)(H:Hp)(Q:VK)(f:XK):Prop
 |mk (p ls lw) (ss) (W G) (b:Nat) (wp) (i:vs=[.r p,.t (b)]) (j:ia d H p ls lw ss (il (W++G)) wp) (l:ss.9+(W.length+G.9)<=400) (h:Rd H bd (.d Du))
  (o:∀q∈G,b<=q.b) (m:W=[]\/QV W<b) (r:∀g,j6 p ls lw H g->ia d g p ls lw (ss++(il G).48) (il W) wp->Q .g g)
theorem aO:AI [nv,rF] [nv,rF] (defScope Dl):=gQ
theorem ZH(F:gE j "settle" "Reading.settle" Dl f o)(B:Bl l)(d:LU j i)(mB:l "BINDING"=U (sR bd)):AT an aR j l as gG 1 f o [nv,rF] (spSet i bd):=by
 show F.m aO λvs H ar al h=>?_;let(p,ls,lw,ss,W,G,b,wp,rfl,R,h400,hB,hG,hW,q):=h;show(Y,λff ag az aC hr=>?_);let hu:=BY hr
 show(_,AB (HS tK (PW.pt (Cj (AK GH (AS (A8 j Y) Y B.50 tu (gX (Ac (Z 0) Y))) AF (AO _)) (Bu (AK Nt (Am hu (BV (v:=.r bd) Y mB Y) (Ak (Ao j Y) (Ac (Z 0) Y) (Db D7 AF))) (Z 1) (AO _)))))
  (AB (Ah (Bj (Ac (Z 0) rfl) (gX (Gi plainAttrs_list slot_list_pop type_list_pop Ia (Ac (Z 0) rfl))))))),?_)
 show(λm y A=>y=[U (.r p),U (.t b)]/\∃r s,G=r++s/\r.9=m/\j6 p ls lw H A/\ia i A p ls lw (ss++(il s).48) (il (W++r)) wp,(G.9,Y,G,[],(zj _).31,Y,j6.refl _ _ _ _,by simpa using R),?_);rintro m y A ⟨rfl,r,s,v,em,w,R2⟩;let(dx,hp):=id R2.ex;show(7,p,i,dx,_,7,hp,d.cl,d.nW,IJ _ _ _,lw,7,sU (fV.of R2.hw),_,7,Y,7,?_);let gl:((il (W++r)).7 V.s).9=(W++r).9:=by simp
 rw[gl];let e||(L,g,e):=List.eq_nil_or_concat (W++r)
 ·have u:=List.append_eq_nil_iff.mp e;rw[e];show AV (AV (q _ w ?_));rw[u.2]at v R2;rw[v];simpa using R2
 ·rw[List.concat_eq_append]at e;rw[zI (by rw[e,zE,List.length_singleton];ext)];apply Aj;let N:=Oz L g;rw[←e]at N;let(hat,gy,gz):=N;show(_,rfl,p,i,dx,_,_,rfl,hp,d.cl,d.nW,IJ _ _ _,_,rfl,lw,_,-1,.s g.s,rfl,rfl,fV.of R2.hw,hat,bd,.t g.b,rfl,sU (_,sS g.s,aN R w hB,rfl,(Rb g).31),_,rfl,_,_,rfl,rfl,_,rfl,?_);let u||(G0,g',u):=List.eq_nil_or_concat r
  ·-- all are settled
   subst u;rw[zj]at e
   let C:¬ (g.b ≥ (b:Int)):=by
    let z||z:=hW
    ·rw[z]at e;have:=congrArg vO e;simp at this
    ·rw[e,F9]at z
     ext
   rw[zL C];show AV (q _ w ?_);rw[v];simpa using R2
  ·rw[List.concat_eq_append]at u;subst u;let I:=e;rw[←append_assoc]at I;let(eL,eg):=append_inj' I rfl;let X:g'=g:=by simpa using eg
   subst X
   let C:g'.b ≥ (b:Int):=by
    have:=hG g' (by rw[v];simp)
    ext
   rw[zI C];show Aj (λy D=>C₃ (y=[U (.r p),U (.t b)]) (j6 p ls lw H D) (ia i D p ls lw (ss++(il ([g']++s)).48) (il (W++G0)) wp),λiU H' x=>by let(e,s',S):=x;show (G0.9,by rw[←em,zE];show Nat.lt_succ_self _,e,G0,[g']++s,by rw[v,append_assoc],Y,s',S),(7,p,i,dx,_,7,hp,d.cl,d.nS,VP _ _ _,sU (Y,_,fV.of R2.hs),7,p,i,dx,_,7,hp,d.cl,d.nW,IJ _ _ _,sU (Y,_,fV.of R2.hw),lw,_,.s g'.s,Y,Y,R2.hw,gy,?_));rw[gz,←eL];let M:ss++(il s).48++[g'.s]=ss++(il ([g']++s)).48:=by simp
   let E:=R2.waits (il (W++G0));let T:=E.steps (ss++(il ([g']++s)).48);show(ls,_,7,Y,E.hs,AR ?_,Y,λb ab e n1 P Q=>?_,?_)
   ·have h1:=congrArg vO v;simp at h1;simp
    lia
   ·rw[AE P,AE Q];show w b ab e n1 P Q
   ·rw[←M,zl]at T
    rwa[←M]
inductive SgStep:Str->ni->List Sg->Bool->ni->List Sg->Bool->Prop
 |blank (S) (W) (wp):SgStep " " S W wp S W wp
 |ahead (S) (W) (g) (b:g=.no\/g=.br):SgStep g.s S W L S (W++[g]) L
 |join (S) (W G) (g) (b:g.iJ) (d:∀q∈G,g.b<=q.b) (f:QV W<g.b):SgStep g.s S (W++G) O (S++(il G).48) (W++[g]) L
 |close (S) (W G) (d:∀q∈G,1<=q.b):SgStep ")" S ((W++[.br])++G) O (S++(il G).48) W O
inductive spTB(b bd:nq)(vs:nk)(H:Hp)(Q:VK)(d:XK):Prop
 |mk (p ls lw) (ss) (W G) (g) (i:vs=[.r p,.s g.s]) (j:g.iJ) (l:ia b H p ls lw ss (il (W++G)) O) (h:ss.9+(W.length+G.9)<=390) (o:Rd H bd (.d Du))
  (m:∀q∈G,g.b<=q.b) (s:QV W<g.b) (r:∀f,j6 p ls lw H f->ia b f p ls lw (ss++(il G).48) (il (W++[g])) L->Q (.l L) f)
theorem dY:AI [nv,p8] [nv,p8] (defScope CM):=gQ
theorem XT{g:Sg}(h:g.iJ):(if L=L then !jt (V.s g.s) [V.s "&",V.s "^",V.s "|"]else jt (V.s g.s) [V.s "&",V.s "^",V.s "|"])=O:=by
 cases g<;>first|trivial|rfl
theorem aP(F:gE m "take_between" "Reading.take_between" CM f w)(j:LU m l)(A:o "BINDING"=U (sR bd))(q:o "JOINING"=U (sR t))(s:∀H,gB m H t [.s "&",.s "^",.s "|"])(r:Mt P ar m o v l "settle" 1 [nv,rF] (spSet l bd)):
  AT P ar m o v gG 2 f w [nv,p8] (spTB l bd):=by
 let(fS,dS,r,N,bS):=r.ex;show F.ok dY (λvs H Q E h=>?_) (λaC as aM aR H vs Q E C h=>?_)
 ·cases h with
  |mk p x u z W G g e=>subst e;rfl
 ·have M:=BY C
  show(_,AC (AU (AK Mh (Z 1) (BV (v:=.r t) Y q Y) Y) (AB (AJ DI)) AL)
   (AC (Ah (DB (Z 0) j.cl N r C bS tO Ai (gX (Am M (BV (v:=.r bd) rfl A rfl) (Z 1)))))
   (AC (Ah (Bj (Ac (Z 0) rfl) (gX (Z 1))))
   (AC (B0 (Z 0) DI rfl)
   (AB (AJ DI))))),?_)
  cases h with
  |mk p x u z W G g e X R az y T I al=>
  subst e;let(O,S):=id R.ex;show(7,t,7,sY (s H),Y,Y,7,?_);rw[XT X];apply AV;show(7,p,O,7,S,Ez _ _ _,7,bd,.t g.b,Y,sU (_,sS g.s,y,Y,(Rb g).31),p,x,u,z,W,G,g.b,i7,Y,R,by lia,y,T,sY I,λH1 s1 i=>?_);let(a,d):=id i.ex;show(7,p,l,a,_,7,d,j.cl,j.nW,IJ _ _ _,sU (Y,_,fV.of i.hw),7,u,_,7,Y,i.hw,AR (_),?_);let ew:(il W).7 V.s++[V.s g.s]=(il (W++[g])).7 V.s:=by simp
  let R2:=i.waits (il (W++[g]));rw[ew];show(7,p,l,a,7,by rw[AE (sX i.np.2)];show d,j.cl,j.nP,Ra _ _ _,al _ (λb ag e B ab D=>by rw[AE B,AE D];show s1 b ag e B ab D) (R2.wants iY))
inductive spTA(b:nq)(vs:nk)(H:Hp)(Q:VK)(d:XK):Prop
 |mk (p ls lw) (ss) (W) (g) (wp) (i:vs=[.r p,.s g.s]) (j:g=.no\/g=.br) (l:ia b H p ls lw ss (il W) wp) (h:W.length<=390)
  (m:∀f,j6 p ls lw H f->ia b f p ls lw ss (il (W++[g])) wp->Q (.l L) f)
theorem dZ:AI [nv,p8] [nv,p8] (defScope Cq):=gQ
theorem aQ(F:gE G "take_ahead" "Reading.take_ahead" Cq f I)(a:LU G m):AT P w G N M gG 1 f I [nv,p8] (spTA m):=by
 show F.ok dZ (λvs H Q E h=>?_) (λB A d s H vs Q E D h=>?_)
 ·cases h with
  |mk p v j x W g wp e=>subst e;rfl
 ·show(_,AC (AU (PW.pt (Cj (AK Dc (Z 1) AM (AO _)) (Bu (AK Dc (Z 1) AM (AO _))))) (AB (AJ DI)) AL)
   (AC (Ah (Bj (Ac (Z 0) rfl) (gX (Z 1))))
   (AB (AJ DI))),?_)
  cases h with
  |mk p v j x W g wp e z R r q=>
  subst e;let(l,t):=id R.ex;show(7,Y,7,?_);let u:(il W).7 V.s++[V.s g.s]=(il (W++[g])).7 V.s:=by simp
  let R2:=R.waits (il (W++[g]));let rfl||rfl:=z
  ·show AV (AV ((7,p,m,l,_,7,t,a.cl,a.nW,IJ _ _ _,sU (Y,_,fV.of R.hw),7,j,_,7,Y,R.hw,AR (_),?_)));rw[u];show q _ (λb o e y C i=>by rwa[AE i]) R2
  ·show Aj (7,Y,7,?_);apply AV;show(7,p,m,l,_,7,t,a.cl,a.nW,IJ _ _ _,sU (Y,_,fV.of R.hw),7,j,_,7,Y,R.hw,AR (_),?_);rw[u];show q _ (λb o e y C i=>by rwa[AE i]) R2
inductive spTC(b bd:nq)(vs:nk)(H:Hp)(Q:VK)(d:XK):Prop
 |mk (p ls lw) (ss) (W G) (wp) (h:vs=[.r p]) (i:ia b H p ls lw ss (il ((W++[.br])++G)) wp) (g:ss.9+(W.length+G.9)<=390) (l:Rd H bd (.d Du))
  (j:∀q∈G,1<=q.b) (m:∀f,j6 p ls lw H f->ia b f p ls lw (ss++(il G).48) (il W) wp->Q (.l L) f)
theorem db:AI [nv] [nv] (defScope Cr):=gQ
theorem aS{P}{w}{i}{j}{m}{r}{d bd}{f}{tB}(F:gE i "take_close" "Reading.take_close" Cr f r)(B:Bl j)(g:LU i d)(s:j rR=U (tV 1 tB))(l:Mt P w i j m d "settle" 1 [nv,rF] (spSet d bd)):AT P w i j m gG 2 f r [nv] (spTC d bd):=by
 let(fS,dS,l,mS,bS):=l.ex;show F.ok db (λvs H Q E h=>?_) (λff A ag al H vs Q E M h=>?_)
 ·cases h with
  |mk p y v C W G wp e=>subst e;rfl
 ·show(_,AC (Ah (DB (Z 0) g.cl mS l M bS tO Ai (gX (BV (v:=.t 1) Y s (tB,Y)))))
   (AC (AU (AK Aq (AS (A8 i rfl) rfl B.50 tu (gX (Ac (Z 0) rfl))) AF (AO _)) (AB (AJ DI)) AL)
   (AC (Ah (Gi plainAttrs_list slot_list_pop type_list_pop Ia (Ac (Z 0) rfl)))
   (AB (AJ DI)))),?_)
  cases h with
  |mk p y v C W G wp e R ab D I q=>
  subst e;let(dx,hp):=id R.ex;show(7,p,dx,7,hp,Ez _ _ _,p,y,v,C,W++[.br],G,1,wp,Y,R,by grind,D,I,sY (by rw[F9];decide),λX T u=>?_);let(dx1,fm):=id u.ex;let(hat,gy,gz):=Oz W .br;show(7,p,d,dx1,_,7,fm,g.cl,g.nW,IJ _ _ _,v,7,sU (fV.of u.hw),Y,7,?_)
  rw[zL (λar=>by
   grind)]
  apply AV;show(7,p,d,dx1,_,7,fm,g.cl,g.nW,IJ _ _ _,sU (Y,_,fV.of u.hw),v,_,.s Sg.br.s,Y,Y,u.hw,gy,?_);rw[gz];show q _ (λb o e N S z=>by rw[AE z];show T b o e N S z) (u.waits (il W))
inductive spTS(b bd:nq)(vs:nk)(H:Hp)(Q:VK)(d:XK):Prop
 |mk (p ls lw) (x) (S S') (W W') (wp wp') (h:vs=[.r p,.s x]) (i:ia b H p ls lw S (il W) wp) (j:SgStep x S W wp S' W' wp') (g:S.9+W.length<=380) (m:Rd H bd (.d Du))
  (l:∀f,j6 p ls lw H f->ia b f p ls lw S' (il W') wp'->Q (.l L) f)
theorem dc:AI [nv,p8] [nv,p8] (defScope C4):=gQ
theorem K1(g:Sg):decide (V.s g.s=V.s " ")=O/\decide (V.s g.s=V.s ")")=O:=by cases g<;>decide +kernel
theorem aT(F:gE m "take_sign" "Reading.take_sign" C4 f A)(a:LU m b)(y:Mt P w m s r b "take_between" 2 [nv,p8] (spTB b bd))(C:Mt P w m s r b "take_ahead" 1 [nv,p8] (spTA b))(v:Mt P w m s r b "take_close" 2 [nv] (spTC b bd)):AT P w m s r gG 3 f A [nv,p8] (spTS b bd):=by
 let(fB,dB,y,mB,M):=y.ex;let(fA,dA,C,L,N):=C.ex;let(fC,dC,v,T,Z):=v.ex;show F.ok dc (λvs H Q E h=>?_) (λas ar t az H vs Q E u h=>?_)
 ·cases h with
  |mk p l o x S al W X wp D e=>subst e;rfl
 ·have an:gD 1 _:=u.63 qc
  show(_,AC (AU (AK Aq (pv 1) AM (AO _)) (AB (AJ DI)) AL)
   (AC (AU (Al (Ac (pv 0) rfl)) (AB (AJ (DB (pv 0) a.cl L C an N tO Ai (gX (pv 1))))) AL)
   (AB (AJ (BW (AK Aq (pv 1) AM (AO _)) (Br (pv 0) a.cl T v u Z tO Ai) (DB (pv 0) a.cl mB y u M tO Ai (gX (pv 1))))))),?_)
  cases h with
  |mk p l o x S al W X wp D e R st d I q=>
  subst e;let(i,j):=id R.ex;show(_,rfl,rfl,_,rfl,?_);cases st with
  |blank=>
   show Aj (q _ (j6.refl _ _ _ _) R)
  |ahead _ _ g B=>
   rw[(K1 g).1];show AV (7,p,b,i,_,7,j,a.cl,a.nP,MS _ _ _,7,Aj (7,p,i,7,j,Ez _ _ _,7,.mk p l o S W g iY Y B R () q))
  |join _ ab G g B z ag=>
   rw[(K1 g).1];rw[zE]at d;show AV (7,p,b,i,_,7,j,a.cl,a.nP,MS _ _ _,7,AV (7,Y,7,?_));rw[(K1 g).2];show AV (7,p,i,7,j,Ez _ _ _,7,.mk p l o S ab G g Y B R () I z ag q)
  |close _ _ G z=>
   rw[zE,zE]at d;show AV (7,p,b,i,_,7,j,a.cl,a.nP,MS _ _ _,7,AV ?_);show(7,Y,7,Aj (7,p,i,7,j,Ez _ _ _,.mk p l o S X G i7 Y R () I z q))
inductive spEnds(b bd:nq)(vs:nk)(H:Hp)(Q:VK)(d:XK):Prop
 |mk (p ls lw) (ss) (G) (h:vs=[.r p]) (i:ia b H p ls lw ss (il G) O) (j:ss.9+G.9<=390) (g:∀q∈G,1<=q.b) (m:Rd H bd (.d Du))
  (l:∀f,j6 p ls lw H f->ia b f p ls lw (ss++(il G).48) [] O->Q (.l L) f)
theorem ZI:AI [nv] [nv] (defScope Eo):=gQ
theorem XU{P}{w}{b}{g}{m}{v}{a bd}{f}{tB}(F:gE b "ends" "Reading.ends" Eo f v)(B:Bl g)(j:LU b a)(y:g rR=U (tV 1 tB))(o:Mt P w b g m a "settle" 1 [nv,rF] (spSet a bd)):AT P w b g m gG 2 f v [nv] (spEnds a bd):=by
 let(fS,T,o,C,S):=o.ex;show F.ok ZI (λvs H Q E h=>?_) (λM A l s H vs Q E D h=>?_)
 ·cases h with
  |mk p u t x G e=>ext
 ·
  show(_,AC (Ah (DB (Z 0) j.cl C o D S tO Ai (gX (BV (v:=.t 1) Y y (tB,Y)))))
   (AB (AJ (CY (Tf (Ac (Z 0) rfl)) (Ck (CH Aq (AS (A8 b rfl) rfl B.50 tu (gX (Ac (Z 0) rfl))) AF (AO _)))))),?_)
  cases h with
  |mk p u t x G e R al X z q=>
  subst e;let(I,J):=id R.ex;show(7,p,I,7,J,Ez _ _ _,p,u,t,x,[],G,1,O,Y,R,by grind,z,X,sU Y,λab N r=>?_);let(d,i):=id r.ex;show(7,p,a,d,_,7,i,j.cl,j.nP,MS _ _ _,7,7,Aj (7,p,a,d,_,7,i,j.cl,j.nW,IJ _ _ _,t,7,sU (fV.of r.hw),Y,q _ N r))
theorem XV(s:fJ H b)(h:Rd H a o):Rd b a o:=by
 let h||(o,h):=h
 ·show sU (s _ _ h)
 ·show sY (o,s _ _ h)
theorem ia.same{d a}(s:fJ H H')(h:ia b H p f g d a wp):ia b H' p f g d a wp:=by
 let(i,e):=h.ex;show((i,s _ _ e),s _ _ h.hs,s _ _ h.hw,h.ne)
theorem NX(g:Sg):(⟨#[g.c]⟩:Str)=g.s:=by cases g<;>decide +kernel
theorem X3(g:Sg):EE g.c=O/\DU g.c=O:=by cases g<;>show(rfl,rfl)
inductive RnN(lt:Bool)(z:Str)(o:ni)(a:Nat)(S:ni)(W:List Sg)(wp:Bool):Prop
 |done (d:a=z.9) (b:wp=O) (h:∀q∈W,1<=q.b) (e:o=S++(il W).48)
 |part (b:wp=L) (n) (h:TU lt z a n) (g:0<n) (r:Rn lt z o (a+n) (S++[sl z a (a+n)]) W O)
 |sign (c) (S') (W') (wp') (f:z.4[a]?=U c) (no:TU lt z a 0) (st:SgStep ⟨#[c]⟩ S W wp S' W' wp') (r:Rn lt z o (a+1) S' W' wp') (l:S'.9+W'.9<=S.9+W.length+1)
theorem NY(j:z.4[a]?=U c)(no:EE c=O/\DU c=O)(e:Dw c=O):TU lt z a 0:=by
 let(d,i):=z8.mp j;rw[BB]at d;show(by lia,λk l h=>absurd h (),λ_=>VQ (w:=[]) no ?_ (sY e));rw[II z () (by assumption)];rw[show a+0+1-a=1 by ext,nil_append];rw[drop_eq_getElem_cons (by omega),i];rfl
theorem Rn.next(h:Rn lt z o a S W wp):RnN lt z o a S W wp:=by
 cases h with
 |done _ _ h e=>show .done rfl rfl h e
 |blank _ _ _ _ h r=>show .sign 32 _ _ _ h (NY h (rfl,rfl) rfl) (by rw[show(⟨#[32]⟩:Str)=" " by decide +kernel];show .blank _ _ _) r ()
 |part _ n _ _ h l r=>show .part rfl n h l r
 |ahead _ _ _ g i h r=>show .sign g.c _ _ _ h (NY h (X3 g) (by cases g<;>rfl)) (by rw[NX];show .ahead _ _ g i) r (by simp;lia)
 |join _ _ W Q g i h d j r=>show .sign g.c _ _ _ h (NY h (X3 g) (by cases g<;>rfl)) (by rw[NX];show .join _ W Q g i d j) r (by simp;lia)
 |close _ _ W Q h d r=>show .sign 41 _ _ _ h (NY h (rfl,rfl) rfl) (by rw[show(⟨#[41]⟩:Str)=")" by decide +kernel];show .close _ W Q d) r (by simp;lia)
structure aU(P:Program)(w:World)(K:FG)(mg:SV)(base:Heap)(DC bd:nq):Prop where
 T:LU K DC
 cls:mg "Reading"=U (sR DC)
 make:∃f fd,Mk K DC f/\AT P w K mg base gG 1 f fd [nv] (spRd0 DC)/\Binds K fd [nv] []
 tp:Mt P w K mg base DC "take_part" 1 [nv,sG] (spTP DC)
 ts:Mt P w K mg base DC "take_sign" 3 [nv,p8] (spTS DC bd)
 en:Mt P w K mg base DC "ends" 2 [nv] (spEnds DC bd)
inductive spSt(b bd:nq)(vs:nk)(H:Hp)(Q:VK)(d:XK):Prop
 |mk (z) (lt) (o) (h:vs=[.s z,.l lt]) (i:z.27 (· < 128)=L) (j:z.9<=100) (g:Rn lt z o 0 [] [] L) (p:Rd H bd (.d Du)) (m:∀l f,fJ H f->f l=U (.l (o.7 V.s))->Q (.r l) f)
noncomputable abbrev NSt:ni:=[pa,oR,"reading","at","end"]
theorem scSt:AI NSt [pa,oR] (defScope Dm):=gQ
inductive StA(lt:Bool)(b:nq)(z:Str)(o:ni)(p d f:nq)(H:Hp)(a:Nat):Prop
 |mk (S) (W) (wp) (R:ia b H p d f S (il W) wp) (t:Rn lt z o a S W wp) (l:S.9+W.length<=a) (h:a<=z.9)
theorem aV(F:gE i pV pV Dm a0 fd)(B:Bl l)(g:aU an aR i l az f bd)(GE:Fn an aR i l az "part_end" 5 [pa,"at",oR] spPE):AT an aR i l az gG 6 a0 fd [pa,oR] (spSt f bd):=by
 let(fI,dI,MI,GI,bI):=g.make;let(fT,dT,GT,mT,bT):=g.tp.ex;let(fS,dS,GS,mS,bS):=g.ts.ex;let(fN,dN,GN,mN,bN):=g.en.ex;let mC:=g.83;let M:=g.T;show F.m scSt λvs H be bb h=>?_;let(z,lt,o,rfl,ha,h40,RN,hB,ab):=h;show(Y,λff a8 br bs v=>?_);let a6:gD 1 _:=v.63 qc;let jJ:gD 2 _:=v.63 qc;let a7:gD 3 _:=v.63 qc;let q:=scSt.nd
 show(_,AC (AU (Au (Al (BZ i Y Y B.iP Y B.str HJ (Z 0)))) (AB Ad) AL)
  (AC (A4 2 q (Tq MI GI jJ rfl mC bI tO Ai))
  (AC (A4 3 q AF)
  (Aw (HS tK (AK FF (Z 3) (AS BN rfl B.50 tu (gX (Z 0))) (AO _))
   (Aw (A4 4 q (BW (Al (Ac (Z 2) rfl)) (gT GE v (AA (Z 0) (AA (Z 3) (gX (Z 1))))) (Z 3)))
   (AB (AU (AK GH (Z 4) (Z 3) (AO _))
    (AC (Ah (DB (Z 2) M.cl mT GT a6 bT tO Ai (gX (N1 UV (Z 0) (Jn (Z 3)) (Jn (Z 4)))))) (AB (A4 3 q (Z 4))))
    (AB (AU (Al (DB (Z 2) M.cl mS GS a7 bS tO Ai (gX (Ak Mg (Z 0) (Z 3))))) (AB (PV (i:=3) q rfl (sU rfl) AF (Qj:iy _ _ _))) (AB Ad)))))))
  (AC (AU (Au (Al (Br (Z 2) M.cl mN GN jJ bN tO Ai))) (AB Ad) AL)
  (AB (AJ (Ac (Z 2) rfl))))))),?_)
 show(7,_,_,_,iY,Y,.s z,Y,7,AV ?_);intro p dx hp gf gd;let sN:=DQ (D:=f) hp gf gd;show(p,dx,Y,fH,λx C H1 s1 a2 a4 R1=>(Y,?_));let S1:fJ H H1:=λb o e=>s1 b o (sN _ _ e) (AH e hp);let a3:H x=io:=none_of sN a2;let a5:H C=io:=none_of sN a4;let w:∀{u d:Hp},fJ H u->j6 p x C u d->fJ H d:=λ{u d}a b c o e=>b c o (a c o e) (AH e hp) (AH e a3) (AH e a5);let aM:∀{u:Hp},fJ H u->Rd u bd (.d Du):=λ{u}a=>XV a hB;show(λj r=>C₃ (∃m,j=[U (.s z),U (.l lt),U (.r p),U (.t (z.9:Int)),m]) (fJ H r) (E₃ λS W wp=>C₅ (ia f r p x C S (il W) wp) (S.9+W.length<=300) (wp=O) (∀ab∈W,1<=ab.b) (o=S++(il W).48)),λar X=>?_,?_)
 ·show(λaC j u=>E₂ λa m=>C₄ (j=[U (.s z),U (.l lt),U (.r p),U (.t ((a:Nat):Int)),m]) (aC=z.9-a) (fJ H u) (StA lt f z o p x C u a),(z.9,0,io,rfl,rfl,S1,.mk [] [] iY R1 RN (tH _) (tH _)),?_);rintro aC j u ⟨a,m,rfl,rfl,T,S,W,wp,R2,t,bm,f8⟩;show(_,rfl,_,rfl,z,rfl,sZ (AR ()),_,_,rfl,rfl,_,rfl,?_);let(I,L):=id R2.ex;cases t.next with
  |done ea R h e=>
   subst ea R;rw[zL (show ¬ ((z.9:Nat):Int)<(z.9:Int) by ext)];show AV (X _ _ ((_,Y),T,S,W,O,R2,by lia,Y,h,e))
  |part R n pt hn ag=>
   subst R;let a1:=pt.le;rw[zI (show((a:Nat):Int)<(z.9:Int) by lia)];show Aj (λj d=>E₂ λb m=>C₄ (j=[U (.s z),U (.l lt),U (.r p),U (.t ((b:Nat):Int)),m]) (z.9-b<z.9-a) (fJ H d) (StA lt f z o p x C d b),λiU r k=>by let(b,al,D,E,P,Q):=k;show (z.9-b,E,b,al,D,Y,P,Q),(λj d=>C₃ (j=[U (.s z),U (.l lt),U (.r p),U (.t ((a:Nat):Int)),U (.t ((a+n:Nat):Int))]) (fJ H d) (ia f d p x C S (il W) iY),λar X=>?_,?_))
   ·show(7,p,f,I,_,7,L,M.cl,M.nP,MS _ _ _,7,Aj ((7,7,7,z,a,n,lt,Y,ha,by lia,pt,λd s3=>X _ _ (Y,T.6 s3,R2.15 s3))))
   ·rintro j d ⟨rfl,s,N⟩;let(y,G):=id N.ex;show(7,7,_,7,Y,7,?_);rw[zI (show((a+n:Nat):Int)>((a:Nat):Int) by lia)];show Aj ?_;show(7,p,y,7,G,Ez _ _ _,7,7,7,7,7,z,Y,sZ (AR ()),p,x,C,S,il W,iY,7,N,by lia,λH4 s4 A=>(7,a+n,7,by lia,w s s4,.mk _ W O A ag (_) a1))
  |sign c S' W' as hc no st ag bk=>
   let jX:a<z.9:=by
    have:=(z8.mp hc).1;rw[BB]at this;show this
   rw[zI (show((a:Nat):Int)<(z.9:Int) by lia)];show Aj (λj d=>E₂ λb m=>C₄ (j=[U (.s z),U (.l lt),U (.r p),U (.t ((b:Nat):Int)),m]) (z.9-b<z.9-a) (fJ H d) (StA lt f z o p x C d b),λiU r K=>by let(b,al,D,E,P,Q):=K;show (z.9-b,E,b,al,D,Y,P,Q),(λj d=>C₃ (j=[U (.s z),U (.l lt),U (.r p),U (.t ((a:Nat):Int)),U (.t ((a:Nat):Int))]) (fJ H d) (ia f d p x C S (il W) wp),λar X=>?_,?_))
   ·show(_,rfl,p,f,I,_,_,rfl,L,M.cl,M.nP,MS _ _ _,_,rfl,?_);cases wp with
    |false=>show AV (_,rfl,X _ _ (rfl,T,R2))
    |true=>show Aj (_,rfl,_,rfl,_,rfl,z,a,0,lt,rfl,ha,by lia,no,λd s3=>X _ _ (rfl,T.6 s3,R2.15 s3))
   ·rintro j d ⟨rfl,s,N⟩;let(y,G):=id N.ex;show(7,7,_,7,Y,7,?_);rw[zL (show ¬ ((a:Nat):Int)>((a:Nat):Int) by lia)];show AV ?_;show(7,p,y,7,G,Ez _ _ _,7,7,z,(a:Int),c,Y,Y,sZ (AR ()),Bp hc,.mk p x C ⟨#[c]⟩ S S' W W' wp as Y N st () (aM s) λH4 s4 A=>(7,Aj (7,_,7,Y,a+1,U (.t ((a:Nat):Int)),?_,by lia,w s s4,.mk S' W' as A ag () ())));rfl
 rintro j u ⟨⟨m,rfl⟩,T,S,W,wp,R2,bn,rfl,hq,rfl⟩;let(I,L):=id R2.ex;show(7,p,I,7,L,Ez _ _ _,.mk p x C S W Y R2 () hq (aM T) λd s3 N=>(7,AV ?_));let(y,G):=id N.ex;show(7,p,f,y,_,7,G,M.cl,M.nS,VP _ _ _,ab x d (w T s3) N.hs)
theorem Rc(a b:Nat):vY (a) (b)=((a^^^b:Nat):Int):=by
 let i:(a^^^b)|||(a&&&b)=a|||b:=by
  show ue λk=>?_;simp;cases a.29 k<;>cases b.29 k<;>rfl
 let h:(a^^^b)&&&(a&&&b)=0:=by
  show ue λk=>?_;simp only[Nat.testBit_and,Nat.testBit_xor,Nat.zero_testBit];cases a.29 k<;>cases b.29 k<;>rfl
 let e:=VD (a^^^b) (a&&&b);let d:vY a b=uh a b-tD a b:=rfl;rw[d,CZ,CV]
 ext
abbrev En:=Str->Option (Nat×Nat)
structure Nv where
 due:Aa
 kvs:LK
 tb:Str->Nat
noncomputable def wv(n:Nv)(x:Str):Nat:=if Bn x then n.tb x else if C8 x then look n.45 x else digitsVal x.4
structure WdOk(n:Nv)(x:Str):Prop where
 as:x.27 (· < 128)=L
 l0:0<x.9
 l6:x.9<=200
 or:(Bn x=L/\An n.kvs (sS x)=U (.t (n.tb x:Nat)))\/(Bn x=O/\C8 x=L/\x∈n.due.7 (·.1))\/(Bn x=O/\C8 x=O/\AllDigits x.4)
theorem WdOk.nb(h:WdOk n x):x≠ "|" /\ x≠ "&" /\ x≠ "^" /\ x≠ "~":=by
 let d:∀y,Bn y=O->C8 y=O->(∃c∈y.4,¬ (48<=c/\c<=57))->x≠y:=λy j l (c,i,e) z=>by
  subst z;let(a,_)||(_,a,_)||(_,_,b):=h.or
  ·ext
  ·ext
  ·show e (b c i)
 show(d _ (by rfl) (by rfl) (124,by trivial,qc),d _ (by rfl) (by rfl) (38,by trivial,qc),d _ (by rfl) (by rfl) (94,by trivial,qc),d _ (by rfl) (by rfl) (126,by trivial,qc))
noncomputable def Sg.f:Sg->Nat->Nat->Nat|.an,a,b=>a&&&b|.xo,a,b=>a^^^b|_,a,b=>a|||b
inductive EvS(n:Nv):List Nat->Str->List Nat->Prop
 |ng (h) (v):EvS n (h++[v]) "~" (h++[kn n.45-(kn n.45&&&v)])
 |bn (g:Sg) (d:g.iJ) (h) (a b):EvS n (h++[a]++[b]) g.s (h++[g.f a b])
 |wd (x) (W:WdOk n x) (h):EvS n h x (h++[wv n x])
inductive Ev(n:Nv)(o:Nat):List Nat->ni->Prop
 |nil:Ev n o [o] []
 |cons (h h') (x) (S) (a:EvS n h x h') (b:Ev n o h' S):Ev n o h (x::S)
noncomputable def Tr.iw(n:Nv):Tr->Nat
 |.wd x=>wv n x
 |.ng t=>kn n.45-(kn n.45&&&t.iw n)
 |.bn g a b=>g.f (a.iw n) (b.iw n)
def Tr.Ok(n:Nv):Tr->Prop
 |.wd x=>WdOk n x
 |.ng t=>t.Ok n
 |.bn g a b=>g.iJ/\a.Ok n/\b.Ok n
theorem Jp:∀(t:Tr),t.Ok n->∀h S,Ev n o (h++[t.iw n]) S->Ev n o h (t.72++S)
 |.wd x,k,h,S,r=>.cons _ _ _ _ (.wd x k h) r
 |.ng t,k,h,S,r=>by
  change Ev n o h ((t.72++[("~":Str)])++S);rw[append_assoc];show Jp t k h _ (.cons _ _ _ _ (.ng h _) r)
 |.bn g a b,k,h,S,r=>by
  change Ev n o h ((a.72++b.72++[g.s])++S);rw[append_assoc,append_assoc];show Jp a k.2.1 h _ (Jp b k.2.2 _ _ (.cons _ _ _ _ (.bn g k.1 h _ _) r))
theorem VW{t:Tr}(k:t.Ok n):Ev n (t.iw n) [] t.72:=by
 have:=Jp t k [] [] .nil
 rwa[zj]at this
theorem EvS.len{h b}{x}(e:EvS n h x b):b.9<=h.9+1:=by
 cases e<;>simp<;>lia
inductive spJn(vs:nk)(H:Hp)(Q:VK)(d:XK):Prop
 |mk (g:Sg) (a b:Nat) (f:vs=[.s g.s,.t (a),.t (b)]) (h:g.iJ) (i:Q (.t ((g.f a b:Nat):Int)) H)
theorem df:AI [p8,pR,oa] [p8,pR,oa] (defScope NE):=gQ
theorem aW(F:gE m "joined" "joined" NE f l):AT P w m p o gG 1 f l [p8,pR,oa] spJn:=by
 show F.m df λvs H Q E h=>?_;let(g,a,b,rfl,e,q):=h;show(rfl,λi A d s j=>?_);show(_,AC (AU (AK Aq (Z 0) AM (AO _)) (AB (AJ (AW Bh (Z 1) (Z 2)))) AL) (AC (AU (AK Aq (Z 0) AM (AO _)) (AB (AJ (AW Tl (Z 1) (Z 2)))) AL) (AB (AJ (AW GD (Z 1) (Z 2))))),(_,rfl,rfl,_,rfl,?_));cases g with
 |br=>show e.40
 |no=>show e.40
 |an=>
  show Aj (7,7,_,7,Y,?_);change Q (V.t (tD _ _)) H
  rwa[CV]
 |xo=>
  show AV (7,Y,7,Aj (7,7,_,7,Y,?_));change Q (V.t (vY _ _)) H
  rwa[Rc]
 |or=>
  show AV (7,Y,7,AV (7,7,_,7,Y,?_));change Q (V.t (uh _ _)) H
  rwa[CZ]
structure DS(P:Program)(w:World)(K:FG)(mg:SV)(base:Heap)(C:nq)(m:Str)(k:Nat)(ps:ni)(sp:Sp):Prop where
 ex:∃f fd,AT P w K mg base (iD P w) k f fd ps sp/\Pc K C m f/\Binds K fd ps []
structure m9(P:Program)(w:World)(K:FG)(mg:SV)(base:Heap)(x:Str)(k:Nat)(ps:ni)(sp:Sp):Prop where
 ex:∃f fd,AT P w K mg base (iD P w) k f fd ps sp/\mg x=U (sR f)/\vc K (sR f)=L/\Binds K fd ps []
inductive spPN(C:nq)(vs:nk)(H:Hp)(Q:VK)(b:XK):Prop
 |mk (k t) (x) (n) (r) (g:vs=[.r k,.s x,.r t]) (h:fZ C H k n.45 r) (j:Rd H t (.d n.kvs)) (i:WdOk n x) (f:∀d,fJ H d->Q (.t (wv n x:Nat)) d)
theorem dh:AI [nG,sG,pj] [nG,sG,pj] (defScope FZ):=gQ
theorem aX(F:gE b rB rB FZ f s)(B:Bl g)(T:EQ b C)(M:Fn P w b g m qp 1 [nM] spLet)(G:Fn P w b g m rD 1 [nM] spIsName)(u:Mt P w b g m C nH 2 [nv,nC] (spNumber C)):AT P w b g m gG 4 f s [nG,sG,pj] (spPN C):=by
 let(U,Z,u,y,N):=u.ex;show F.m dh λvs H Q E h=>?_;let(k,t,x,n,r,rfl,v,ht,W,q):=h;show(zd,λab A l ag o=>?_);let e:gD 1 _:=o.63 qc
 show(_,AC (AU (Al (gT M e (gX (pv 1)))) (AB (AJ (Am (BY o) (pv 2) (pv 1)))) AL)
  (AC (AU (Al (gT G e (gX (pv 1)))) (AB (AJ (DB (pv 0) T.cl y u (o.63 qc) N tO Ai (gX (pv 1))))) AL)
  (AB (AJ (A0 GZ rfl B.int JI (gX (pv 1)))))),?_)
 let(dk,Y,S,O):=v.ins;let R:=W.l6;show(_,rfl,.txt x rfl W.l6 (_,rfl,?_));let(d,I)||(d,i,D)||(d,i,L):=W.or
 ·have a:=q H (fJ.r _);unfold wv at a;rw[d]at a;rw[d];show Aj (7,7,t,7,sU (_,sS x,ht,zd,I.31),a)
 ·rw[d];show AV (7,x,zd,W.as,by lia,λp j=>(7,?_));let a:=q p j;unfold wv at a;rw[d,i]at a;rw[i];show Aj (7,k,dk,7,j _ _ O,(Bw _ _ _),7,.mk k n.45 r x zd (v.15 j) D a)
 ·rw[d];show AV (7,x,zd,W.as,by lia,λp j=>(7,?_));let a:=q p j;unfold wv at a;rw[d,i]at a;rw[i];let X:=W.l0;show AV (7,x,7,by lia,intText_digits L (λz=>by have:=BB x;rw[z]at this;simp at this;ext) (),a)
inductive spNo(C:nq)(vs:nk)(H:Hp)(Q:VK)(b:XK):Prop
 |mk (k l t) (S) (o) (n) (r) (g:vs=[.r k,.r l,.r t]) (h:fZ C H k n.45 r) (p:Rd H t (.d n.kvs)) (i:H l=U (.l (S.7 V.s))) (f:S.9<=400) (m:Ev n o [] S) (j:∀d,fJ H d->Q (.t (o:Int)) d)
noncomputable abbrev NNo:ni:=[nG,pJ,pj,"held","step","last"]
theorem scNo:AI NNo [nG,pJ,pj] (defScope Iy):=gQ
theorem JQ(h)(v:Nat):jH (BH (h++[v])) (-1)=U (V.t (v))/\(BH (h++[v]))[(BH (h++[v])).9-1]?=U (V.t (v))/\(BH (h++[v])).dropLast=BH h/\j9 (BH (h++[v])).9 (-1)=U h.9/\∀u,(BH (h++[v])).set h.9 u=BH h++[u]:=by
 let e:BH (h++[v])=BH h++[V.t v]:=by unfold BH;rw[zl];rfl
 let d:(BH h).9=h.9:=AN _;rw[e]
 let a:j9 (BH h++[V.t v]).9 (-1)=U h.9:=by
  unfold j9;simp
  lia
 show(?_,?_,List.dropLast_concat,a,λu=>?_)
 ·unfold jH
  ext
 ·ext
 ext
theorem VX{g:Sg}(h:g.iJ):(if O=L then !jt (V.s g.s) [V.s "&",V.s "^",V.s "|"]else jt (V.s g.s) [V.s "&",V.s "^",V.s "|"])=L:=by
 cases g<;>first|trivial|rfl
theorem aY(F:gE f rW rW Iy aC fd)(as:EQ f C)(mJ:m "JOINING"=U (sR l))(hJ:∀H,gB f H l [.s "&",.s "^",.s "|"])(q:Mt P w f m r C ph 2 [nv] (spKnown C))(GJ:Fn P w f m r "joined" 1 [p8,pR,oa] spJn)(GP:Fn P w f m r rB 4 [nG,sG,pj] (spPN C)):AT P w f m r gG 5 aC fd [nG,pJ,pj] (spNo C):=by
 let(fK,dK,q,mK,bK):=q.ex;show F.m scNo λvs H a2 a1 h=>?_;let(k,ag,t,ar,o,n,al,rfl,KA,hT,hl,h400,an,aM):=h;show(Y,λff a0 a3 a4 z=>?_);let X:=scNo.nd
 show(_,AC (A4 3 X (BA AG))
  (AC (Bt tK rfl (Ay (Z 1)) (A7 4 X)
   (AB (AU (AK Aq (Z 4) AM (AO _))
    (AB (Bf (AW Bh (Br (Z 0) as.cl mK q (z.63 qc) bK tO Ai) (Db Jz (Ak (Ao f rfl) (Z 3) (Db D7 AF)))) (Ma (Z 3) (Db D7 AF) HV)))
    (AB (AU (AK Fz (Z 4) (BV (v:=.r l) rfl mJ rfl) rfl)
     (AC (A4 5 X (Gi plainAttrs_list slot_list_pop type_list_pop Ia (Z 3)))
     (AB (Bf (gT GJ z (AA (Z 4) (AA (Ak (Ao f rfl) (Z 3) (Db D7 AF)) (gX (Z 5))))) (Ma (Z 3) (Db D7 AF) HV))))
     (AB (Ah (Bj (Z 3) (gX (gT GP z (AA (Z 0) (AA (Z 4) (gX (Z 2))))))))))))))
  (AB (AJ (Gi plainAttrs_list slot_list_pop type_list_pop Ia (Z 3))))),?_)
 show iL λN A=>((_),λd D=>?_);let T:=AD (fJ.r _) D (o:=HO.l []);let h1:=fH (H:=H) (a:=d) (o:=HO.l []);generalize upd H d (HO.l [])=H1 at T h1 ⊢;show(ir A (iL λN A=>(7,ag,Y,(_,fV.of (T _ _ hl)),Bg (λi R I=>(∃E v5,R=[U (.r k),U (.r ag),U (.r t),U (.r d),E,v5])/\fJ H I/\∃h,I d=U (.l (BH h))/\Ev n o h (ar.drop i)/\h.9<=i) ((_,7),T,[],h1,an,tH _) (λi R I _ e=>fV.of (e.2.1 _ _ hl)) ?_ ?_)):N _ _)
 ·intro i x R I hi h;show egN λv G=>?_;let((E,v5,rfl),B,h,p,M,hle):=h;rw[zx]at hi;let(y,hy,rfl):=z6.mp hi;let(ku,ey):=z8.mp hy;rw[drop_eq_getElem_cons ku,ey]at M;let keep:∀{s:Hp}o,fJ H s->fJ H (upd s d o):=λ{s}o a b u e=>by rw[AE (AH e D)];show a b u e
  show(_,rfl,rfl,_,rfl,?_);cases M with
  |cons _ h' _ _ es Q=>
   let gl:=es.50;cases es with
   |ng j a=>
    let(l1,l2,l3,l4,l5):=JQ j a;let ab:=KA.15 B;let(dxk,e1,e2,fj):=ab.ins;show Aj (7,k,dxk,7,fj,(Bw _ _ _),k,n.45,al,Y,ab,λs s3=>?_);show(7,7,d,_,-1,.t a,Y,Y,fV.of (s3 _ _ p),l1,7,_,7,Y,(7,7,d,_,-1,j.9,Y,Y,s3 _ _ p,l4,(ir G ((_,7),keep _ (B.6 s3),j++[kn n.45-(kn n.45&&&a)],?_,Q,by lia):v.nx _ _)));rw[fH,l5];change U (HO.l (BH j++[V.t (tD ((AY ((Ae n.45).7 (·.1)))) (uy a))]))=_;rw[Ky,Dk];unfold BH;rw[zl];rfl
   |bn g S j a b=>
    let(l1,l2,l3,l4,l5):=JQ (j++[a]) b;let(m1,m2,m3,m4,m5):=JQ j a;rw[show decide (V.s g.s=V.s "~")=O by cases g<;>first|show S.40|decide +kernel];show AV (7,l,7,sY (hJ _),Y,Y,7,?_);rw[VX S];apply Aj;show(7,sU (Y,_,fV.of p),d,_,.t b,Y,Y,p,l2,?_);rw[l3];let h3:=fH (H:=I) (a:=d) (o:=HO.l (BH (j++[a])));show(7,7,7,d,_,-1,.t a,Y,Y,fV.of h3,m1,7,g,a,b,Y,S,7,7,d,_,-1,j.9,Y,Y,h3,m4,(ir G ((_,7),keep _ (keep _ B),j++[g.f a b],?_,Q,by lia):v.nx _ _));rw[fH];unfold BH
    ext
   |wd _ W _=>
    let(n1,n2,n3,n4):=W.nb;rw[zL (λaR=>n4 (V.s.inj aR))];show AV (7,l,7,sY (hJ _),Y,Y,7,?_)
    let az:(if O=iY then !jt (V.s y) [V.s "&",V.s "^",V.s "|"]else jt (V.s y) [V.s "&",V.s "^",V.s "|"])=O:=by
     unfold jt;simp[lT,sX n1,sX n2,sX n3]
    rw[az];show AV (7,sU (Y,_,fV.of p),7,7,7,.mk k t y n al Y (KA.15 B) (fJ.rd B hT) W λs s3=>(d,_,7,Y,s3 _ _ p,AR (by unfold BH;grind),(ir G ((_,7),keep _ (B.6 s3),h++[wv n y],?_,Q,by lia):v.nx _ _)));rw[fH];unfold BH
    ext
 ·rintro R I ⟨⟨E,v5,rfl⟩,B,h,p,M,_⟩;rw[AN,List.drop_length]at M;cases M with
  |nil=>
   show(ir A ?_:N _ _);show(7,sU (Y,_,fV.of p),d,_,.t o,Y,Y,p,Y,aM _ λb u e=>?_);rw[AE (AH e D)];show B b u e
end
end Mk
namespace L2
open PySem
theorem QW{q}{a}{f}{g}{tt}{m}{e}{R}{p}{h}(d:Nat->List Key->Hp->Prop)(j:d 0 [] h)(l:∀i b H,i<=f.9->d i b H->fV q H a f)(s:∀i b H,d i b H->b.9<=1000)
  (r:∀i x b H,f[i]?=U x->d i b H->bT g tt (taS m) e p x b (d (i+1)) H) (o:∀b H,d f.9 b H->R b H):tW (lO q a) [] M0 (bT g tt (taS m) e p) R h:=Ln d j l s r o
end L2
namespace Mk
open PySem L2 MK PySem.NumText
mutual
structure LtL(ns S:ni):Prop where
 nd:ns.26
 so:uC ns=L
 mem:∀x,x∈ns ↔ (x∈S/\Bn x=L)
 l:ns.9<=64
inductive spLi(vs:nk)(H:Hp)(Q:VK)(b:XK):Prop
 |mk (l) (S) (h:vs=[.r l]) (i:H l=U (.l (S.7 V.s))) (j:S.9<=400) (g:(S.21 Bn).9<64) (o:∀x∈S,x.9<=200) (m:∀p f d,fJ H d->d p=U (.l (f.7 V.s))->LtL f S->Q (.r p) d)
theorem dj:AI [pJ] [pJ] (defScope HB):=gQ
theorem aZ(F:gE g rP rP HB f v)(B:Bl b)(m:Fn P w g b s qp 1 [nM] spLet):AT P w g b s gG 2 f v [pJ] spLi:=by
 show F.m dj λvs H Q E h=>?_;let(l,S,rfl,L,N,h64,r,q):=h;show(Y,λan A D ar ag=>?_);show(_,AB (AJ (AS (M6 Y) Y B.sorted C7 (gX (Sr [] [] (by rfl) (_) (by rfl) Y (Ay (Z 0)) (λ_ _ _ _ _ _=>DD (Al (gT m ag (gX (Z 0))))) (λ_ _ _ _ _ _=>Z 0))))),(7,l,Y,(_,fV.of L),QW (λi t o=>o=H/\∃d:ni,t=d.7 sS/\d.26/\(∀x,x∈d ↔ x∈(S.12 i).21 Bn)/\d.9<=((S.12 i).21 Bn).9) (Y,[],Y,nodup_nil,λx=>by simp,tH _) (λi t o _ k=>by let(e,_):=k;show e ▸ fV.of L) (λi t o (_,d,e,_,_,a)=>?_) ?_ ?_))
 ·grind
 ·rintro i as t o M ⟨rfl,d,rfl,C,R,a⟩;rw[zx]at M;let(y,hy,rfl):=z6.mp M;let e1:(S.12 (i+1)).21 Bn=(S.12 i).21 Bn++[y].21 Bn:=by rw[zw,hy,ui,filter_append]
  show(_,rfl,.txt y rfl (r y (_)) (_,rfl,?_));cases al:Bn y with
  |false=>
   show AV (Y,d,Y,C,by simp[*],by ext)
  |true=>
   show Aj (7,sS y,Y,Y,?_);unfold Ob;by_cases u:(sS y:Key)∈d.7 sS
   ·grind
   ·rw[zg u];show(y::d,Y,zi.49 (λz=>u (zh.49 (_,z,Y)),C),λx=>?_,?_)
    ·grind
    ext
 ·rintro t o ⟨rfl,d,rfl,C,R,a⟩ p X;rw[AN,zt]at R a;show(p,d,Y,fH,by lia,λab T I j G=>q ab T _ (AD (AD (fJ.r _) X) I) fH (j.nodup_iff.49 C,G,λx=>?_,by rw[j.65];lia))
  grind
structure VY(kvs:LK):Prop where
 len:kvs.9<=1000
 al:∀b∈kvs,∃(x:Str)(n:Nat),b=(sS x,(.t (n)))/\Bn x=L/\x.9<=200/\n<1099511627776
inductive spTab(vs:nk)(H:Hp)(Q:VK)(b:XK):Prop
 |mk (a) (o) (kvs) (g:vs=[.r a]) (h:H a=U (.b o (.d kvs))) (i:VY kvs) (f:∀d,fJ H d->Q (.l L) d)
theorem aa:AI [nM] [nM] (defScope Kd):=gQ
theorem E3:bootBuiltins oK=U (sW oK):=by rfl
theorem ZJ(F:gE g "is_table" "is_table" Kd f T)(B:Bl b)(N:b oK=J)(S:Fn P w g b m qp 1 [nM] spLet)(R:Fn P w g b m pU 2 [nM] spIsNumber):AT P w g b m gG 3 f T [nM] spTab:=by
 show F.m aa λvs H Q E h=>?_;let(a,o,d,rfl,y,C,k):=h;show(Y,λM A t s z=>?_)
 show(_,AC (AU (Au (Al (AS Si Y B.iP Fl (AA (Z 0) (gX (EW (v:=.y oK) Y N E3 Y)))))) (AB (AJ DI)) AL)
  (AB (AJ (AS (DN rfl) rfl B.94 Fk (gX (EJ [] [] (by rfl) (_) (by rfl) (by rfl) rfl (J8 (Z 0)) (λ_ _ _ _ _ _=>BP) (λ_ _ _ _ _ _=>CY (gT S z (gX (Z 0))) (Ck (gT R z (gX (Z 1)))))))))),
  _,rfl,a,o,d,rfl,y,_,rfl,AV (_,rfl,a,o,d,rfl,y,QM (λi r l=>C₃ (fJ H l) (i<=d.9) (r=tJ i (V.l iY))) (fJ.r _,tH _,rfl) (λi r l c=>by let(j,_):=c;show j _ _ y) (λi r l K=>by let(_,h,e):=K;have:=C.50;rw[e,List.length_replicate];lia) ?_ ?_))
 ·rintro i D r l p q ⟨j,_,rfl⟩ u;let(x,n,rfl,L,G,I):=C.al D (zN q);show(p,7,gB.of fH,Y,_,7,_,7,Y,7,.txt x Y G (7,?_));rw[L];show Aj (7,n,Y,I,j.6 (AD (fJ.r _) u),(z8.mp q).1,?_);rw[List.replicate_succ']
 ·rintro r l ⟨j,_,rfl⟩ p u;show(p,tJ d.9 iY,Y,fV.of (by rw[fH,List.map_replicate]),?_);rw[show(tJ d.9 iY).94 id=iY by simp];show k _ (j.6 (AD (fJ.r _) u))
structure ac(P:Program)(w:World)(K:FG)(mg:SV)(base:Heap)(DC bd:nq):Prop where
 ex:∃f fd,AT P w K mg base gG 6 f fd [pa,oR] (spSt DC bd)/\mg pV=U (sR f)/\vc K (sR f)=L/\∃ds,Binds K fd [pa,oR] ds/\Vals [.l L] ds
structure VZ(T:ni):Prop where
 l4:T.9<=400
 l64:(T.21 Bn).9<64
 sh:∀x∈T,x.9<=200
inductive RkG(C b f d:nq)(T:ni)(kp:nq)(n:Nv)(H:Hp)(Q:VK)(E:XK):Prop
 |lack (x) (m:x∈T) (i:Bn x=L) (j:An n.kvs (sS x)=J) (q:Uq H E d)
 |go (v) (l:∀x∈T,Bn x=L->An n.kvs (sS x)≠J) (h:Ev n v [] T) (q:∀g,fJ H g->spMade C b f [.r kp,.t (v:Int)] g Q E)
inductive spRk(C b f d bd:nq)(vs:nk)(H:Hp)(Q:VK)(E:XK):Prop
 |mk (kp a) (o) (z) (T) (n) (r) (h:vs=[.r kp,.s z,.r a]) (i:fZ C H kp n.45 r) (j:z.27 (· < 128)=L) (g:z.9<=100) (m:Rn L z T 0 [] [] L) (l:VZ T) (q:Rd H bd (.d Du)) (p:H a=U (.b o (.d n.kvs))) (s:VY n.kvs) (u:RkG C b f d T kp n H Q E)
noncomputable abbrev NRk:ni:=[nG,pa,pj,pJ]
theorem scRk:AI NRk [nG,pa,pj] (defScope Iz):=gQ
theorem ad(F:gE f "reckoned" "reckoned" Iz ag fd)(B:Bl b)(h:iK P w f b g pG u)(r:ac P w f b g DC bd)(m:Fn P w f b g rP 2 [pJ] spLi)(GT:Fn P w f b g "is_table" 3 [nM] spTab)(p:Fn P w f b g rW 5 [nG,pJ,pj] (spNo C))(S:m9 P w f b g "made" 6 [nG,nH] (spMade C s z)):AT P w f b g (iD P w) 7 ag fd [nG,pa,pj] (spRk C s z u bd):=by
 let(fS,dS,GS,mS,kS,ds,bS,vS):=r.ex;let(fM,dM,S,mM,kM,bM):=S.ex;let(fX,dX,O,GX,bX):=h.make;show F.n scRk λvs a0 a2 aR al=>?_;let(kp,a,o,aC,T,n,ar,rfl,KA,az,as,RN,SP,hB,U,TO,RK):=al;show(Y,λff aM a3 a4 i=>?_);let y:gD 2 _:=i.63 qc
 show(_,AC (A4 3 scRk.nd (A5 GS i Y mS kS bS vS Ai (gX (Z 1))))
  (AC (AU (Au (Al (gT GT i (gX (Z 2))))) (AB Ad) AL)
  (AC (AU (Au (Al (AS (DN rfl) rfl B.94 Fk (gX (BJ [pj] [im 2] (by rfl) (_) (by rfl) rfl (Ay (gT m y (gX (Z 3)))) (λ_ _ _ _ _ _=>BP) (λ_ _ _ _ _ _=>PR (Gk (BY i) (Z 0) (Z 1)))))))) (AB (FR Hj rfl O.83 (FQ O GX y rfl h.83 bX tO Ai (gX AM)))) AL)
  (AB (AJ (A5 S i rfl mM kM bM tO Dx (AA (Z 0) (gX (gT p i (AA (Z 0) (AA (Z 3) (gX (Z 2)))))))))))),
  _,rfl,.mk aC L T rfl az as RN hB λl H1 H N=>(_,rfl,.mk a o n.kvs rfl (H _ _ U) TO λH2 I=>(_,rfl,AV (_,rfl,l,T,rfl,I _ _ N,SP.l4,SP.l64,SP.sh,λan j H3 s3 E A=>?_))))
 let t:=(H.6 I).6 s3;show(an,Y,(_,fV.of E),Ku j _ (λx=>im (V.l (An n.kvs (sS x)).24)) (HL _ _) E (by have:=A.l;lia) (λv x Q a1 G e M hN=>?_) λQ M q4 X=>?_)
 ·subst e;show(7,7,a,7,sU (_,sS x,sY (o,(t.6 M) _ _ U),Y,Y),hN _ (fJ.r _))
 ·rw[NL];show(q4,j.7 λx=>(An n.kvs (sS x)).24,rfl,fV.of (by rw[fH,map_map];rfl),_,rfl,?_);let D:=M.6 (AD (fJ.r _) X (o:=HO.l (j.7 λx=>V.l (An n.kvs (sS x)).24)));let d:=t.6 D;cases RK with
  |lack x G ab hn q=>
   rw[show(j.7 λx=>(An n.kvs (sS x)).24).94 id=i7 by
    rw[all_map,List.all_eq_false];show(x,(A.mem x).49 (G,ab),?_);change ¬ (An n.kvs (sS x)).24=L
    simp[hn]]
   show Aj (Kz (te:=λ_=>tC (.s "")) O.83 d q)
  |go v hs ev q=>
   rw[show(j.7 λx=>(An n.kvs (sS x)).24).94 id=L by
    rw[all_map];show all_eq_true.49 λx G=>?_;let(h1,h2):=(A.mem x).mp G
    show vh.49 (hs x h1 h2)]
   show AV (7,7,7,7,.mk kp l a T v n ar Y (KA.15 d) (sY (o,d _ _ U)) (((I.6 s3).6 D) _ _ N) SP.l4 ev λR s5=>q R (d.6 s5))
theorem XW(d:0<w.9)(p:w.9<=6)(i:w.94 EE=L):mP lt w:=by
 show(d,λk j e x a=>?_)
 suffices h:C8 x=L by unfold LS;rw[h];rfl
 let l:x.9=k:=by rw[←BB,a,zr];ext
 unfold C8;rw[a,zI (),zI ()];show all_eq_true.49 λc o=>all_eq_true.mp i c (_)
noncomputable abbrev dg(m:Nat):List Nat:=(Nat.toDigits 10 m).7 Char.toNat
theorem Re(h:¬ m<10):dg m=dg (m/10)++dg (m%10):=by
 let t:Nat.toDigits 10 (m/10)++Nat.toDigits 10 (m%10)=Nat.toDigits 10 (10*(m/10)+m%10):=Nat.toDigits_append_toDigits qc () (Nat.mod_lt m qc)
 grind
theorem Na(h:m<10):dg m=[m+48]:=by
 change(Nat.toDigits 10 m).7 Char.toNat=_;rw[Nat.toDigits_of_lt_base h];have:∀d,d<10->[(Nat.digitChar d)].7 Char.toNat=[d+48]:=by decide
 show this m h
theorem Rg(m)(h:0<m):∃c r,dg m=c::r/\c≠48:=by
 induction m using Nat.strongRecOn with
 |_ m i=>
  by_cases a:m<10
  ·show(m+48,[],Na a,by lia)
  ·let(c,r,e,d):=i (m/10) () ();show(c,r++dg (m%10),by rw[Re a,e];rfl,d)
theorem QX(m):(dg m).94 DU=L:=by
 induction m using Nat.strongRecOn with
 |_ m a=>
  by_cases d:m<10
  ·rw[Na d];simp[DU]
   lia
  ·rw[Re d,List.all_append,a (m/10) (),a (m%10) ()];rfl
theorem Va(l)(k):digitsVal (l.12 k)<=digitsVal l:=by
 let e:∀(r:List Nat)a b,a<=b->a<=r.68 (λacc c=>acc*10+(c-48)) b:=λr=>by
  induction r with
  |nil=>simp
  |cons c r d=>show λa b h=>d a _ (_)
 unfold digitsVal
 conv=>rhs;rw[←take_append_drop k l,List.foldl_append]
 ext
theorem ZK(h:n<1099511627776):mP lt (dg n):=by
 let i:0<(dg n).9:=by
  by_cases o:n<10
  ·rw[Na o];simp
  ·let(c,r,e,_):=Rg n ()
   ext
 show(i,λk q a x j=>?_);let d:x.39 DU=L:=by rw[j];show all_eq_true.49 λc p=>all_eq_true.mp (QX n) c (_)
 suffices h:NU x=L by unfold LS;rw[h];cases C8 x<;>rfl
 unfold NU;rw[d,Bool.true_and,vp,decide_eq_true_eq,tA,decide_eq_true_eq,ve];let rfl||l:=um n
 ·show sU (NV ?_);rw[j];have:k=1:=by rw[Na qc]at a;simp at a;lia
  subst this;decide +kernel
 ·let(c,r,e,p):=Rg n l;show sY (?_,?_)
  ·cases k with
   |zero=>ext
   |succ k=>ext
  ·rw[j];show tw (Va _ _) (by rwa[show digitsVal (dg n)=n from W.KIN.val_back n])
structure Wd(n:Nv)(x:Str)(v:Nat):Prop where
 ok:WdOk n x
 pw:∀lt,Bn x=O\/lt=L->mP lt x.4
 v:wv n x=v
 len:x.9<=13
theorem Rh(h:∀c∈x.4,c<97):Bn x=O:=by
 unfold Bn;cases e:x.4 with
 |nil=>rfl
 |cons a r=>
  cases r with
  |cons b r=>rfl
  |nil=>
   have:=h a (_);unfold Dw
   lia
theorem Ri(D:Bi n.45)(d:p∈n.45):Wd n p.1 p.2/\p.1.9<=6/\Bn p.1=O:=by
 let(e,j,_):=D.nm p d;let a:=e;unfold C8 at a;simp only[tA,decide_eq_true_eq]at a;let((q,l),i):=a;let sl:=BB p.1
 let h:=Rh λc o=>by
  have:=all_eq_true.mp i c o;simp[EE]at this
  lia
 show(((j,by assumption,by lia,sY (sU (h,e,zh.49 (_,d,Y)))),λlt _=>XW (by assumption) (by assumption) i,?_,by lia),l,h);unfold wv;rw[h,zf e];show Cs D.nd d
noncomputable abbrev IK(n:Nat):Str:=vj (toString ((n:Nat):Int))
theorem Rj(n):(IK n).4=dg n:=by
 change(vj (toString (Int.ofNat n))).4=_;rw[PyProof.Rows.text_ofNat]
theorem Nb{v}(h:v<2^40):Wd n (IK v) v/\Bn (IK v)=O:=by
 let e:=Rj v;let p:=QX v;let l:∀lt,mP lt (dg v):=λlt=>ZK (by omega);let sl:=BB (IK v)
 let t:(dg v).9<=13:=by
  rw[AN];show toDigits_len_pow qc qc ()
 rw[e]at sl;let o:=(l L).ne
 let d:∀c∈(IK v).4,48<=c/\c<=57:=λc j=>by
  rw[e]at j;have:=all_eq_true.mp p c j;simpa[DU]using this
 let a:Bn (IK v)=O:=Rh λc j=>by grind
 let i:C8 (IK v)=O:=by
  unfold C8
  have:(IK v).39 EE=O:=by
   cases q:(IK v).4 with
   |nil=>ext
   |cons c r=>
    have:=d c (_);simp[EE]
    lia
  rw[this,Bool.and_false]
 show(((?_,by ext,by lia,sY (sY (a,i,d))),λlt _=>by rw[e];show l lt,?_,by ext),a)
 ·grind
 ·unfold wv;rw[a,i,e];show W.KIN.val_back v
theorem Nc{c}(i:Dw c=L)(h:An n.kvs (sS ⟨#[c]⟩)=U (.t (n.tb ⟨#[c]⟩:Nat))):Wd n ⟨#[c]⟩ (n.tb ⟨#[c]⟩):=by
 let e:Bn ⟨#[c]⟩=L:=i;let l:97<=c/\c<=122:=by simpa[Dw]using i
 show⟨(?_,(by change 0<1;decide),(by change 1<=200;decide),sU (e,h)),λlt d=>?_,?_,(by change 1<=13;decide)⟩
 ·grind
 ·let z||rfl:=d
  ·rw[e]at z;cases z
  ·show((_),λk o a x j=>?_)
   have:k=1:=by
    have:k<=1:=a
    lia
   subst this
   have:Bn x=L:=by
    unfold Bn
    rwa[j]
   unfold LS;rw[this];cases C8 x<;>cases NU x<;>rfl
 ·unfold wv
  ext
inductive LT
 |nm (x:Str)
 |no (n:Nat)
 |le (c:Nat)
 |ng (t:LT)
 |bn (g:Sg) (a b:LT)
noncomputable def LT.tr:LT->Tr
 |.nm x=>.wd x
 |.no n=>.wd (IK n)
 |.le c=>.wd ⟨#[c]⟩
 |.ng t=>.ng t.tr
 |.bn g a b=>.bn g a.tr b.tr
noncomputable def LT.ht:LT->Nat
 |.nm _=>0
 |.no _=>0
 |.le _=>0
 |.ng t=>t.ht+1
 |.bn _ a b=>max a.ht b.ht+1
def LT.Ok(d:ni)(sg:List Nat):LT->Prop
 |.nm x=>x∈d
 |.no n=>n<2^20
 |.le c=>c∈sg
 |.ng t=>t.Ok d sg
 |.bn g a b=>g.iJ/\a.Ok d sg/\b.Ok d sg
def i5(H:Hp):V->LT->Prop
 |v,.nm x=>∃p,v=.r p/\H p=U (.t [.s nC,.s x])
 |v,.no n=>∃p,v=.r p/\H p=U (.t [.s nH,.t (n:Int)])
 |v,.le c=>∃p,v=.r p/\H p=U (.t [.s rG,.s ⟨#[c]⟩])
 |v,.ng t=>E₂ λp u=>C₃ (v=.r p) (H p=U (.t [.s "~",u])) (i5 H u t)
 |v,.bn g a b=>E₃ λp d f=>C₄ (v=.r p) (H p=U (.t [.s g.s,d,f])) (i5 H d a) (i5 H f b)
theorem i5.gK(s:gF H f):∀{t}{v},i5 H v t->i5 f v t
 |.nm x,v,h=>by
  let(p,e,h):=h;show(p,e,s _ _ h)
 |.no n,v,h=>by
  let(p,e,h):=h;show(p,e,s _ _ h)
 |.le c,v,h=>by
  let(p,e,h):=h;show(p,e,s _ _ h)
 |.ng t,v,h=>by
  let(p,u,e,h,a):=h;show(p,u,e,s _ _ h,a.gK s)
 |.bn g a b,v,h=>by
  let(p,d,i,e,h,x,y):=h;show(p,d,i,e,s _ _ h,x.gK s,y.gK s)
theorem gC.tt{x y}(a:H d=U (.l [.t x,.t y]))(s:gC d H f):gF H f:=λb h e=>s.88 _ _ e (Qg e a λz=>nomatch z)
theorem IL{H:L2.Hp}{e:ni}(h:H d=U (.l [.t x,.t y]))(b:H f=U (.l (e.7 V.s)))(i:0<e.9):f≠d:=Qg b h λz=>by
 cases e with
 |nil=>ext
 |cons a r=>ext
noncomputable abbrev K2:ni:=[ny,pE,qQ,"_law_deep"]
inductive spTree(D:Nat)(vs:nk)(H:Hp)(Q:VK)(f:XK):Prop
 |mk (d wl) (a b) (ws) (sg) (i:vs=[.r d,.r wl,.s sg,.t (D)]) (j:H d=U (.l [.t a,.t b])) (l:H wl=U (.l (ws.7 V.s))) (h:0<ws.9) (o:ws.9<=10) (p:sg.9<=10)
  (m:∀v t g,gC d H g->i5 g v t->t.Ok ws sg.4->t.ht<=D->Q v g)
inductive tNum(D:Jt)(b:St)(H:Hp):Prop
 |mk (d) (x y) (e:b[0]?=U (U (.r d))) (hd:H d=U (.l [.t x,.t y])) (k:∀(n:Nat)p f,gC d H f->f p=U (.t [.s nH,.t (n)])->n<2^20->D.rt (.r p) f)
def X4:Nat->Sp
 |0=>λ_ _ _ _=>False
 |D+1=>spTree D
noncomputable abbrev ae:ni:=[ny,pE,qQ,"_law_deep","_law_kind","_law_one"]
theorem scTree:AI ae K2 (defScope Hu):=gQ
theorem af(h:PS X st t)(d:∀D b H,t' D b H->t D b H):PS X st t':=λa s b H D I k=>h a s b H D I (d D b H k)
theorem O0(F:gE f pL pL Hu a9 fd)(ar:Bl mg)(b:Fn as a6 f mg aM oN 2 [ny,oM] iH)(D)(a7:Fn as a6 f mg aM pL (2+D) K2 (X4 D)):AT as a6 f mg aM gG (3+D) a9 fd K2 (spTree D):=by
 let(fT,dT,GT,mT,kT,bT):=a7.ex;let M:3+D=2+D+1:=by lia
 rw[M];show F.m scTree λvs H Q ab bb=>?_;let(d,Z,a,aC,ws,sg,rfl,hd,hw,h0,mv,hsg,q):=bb;show(Y,λff bF bU bX hr=>?_);let l:gD 2 _:=hr.63 ();let nd:=scTree.nd
 show(_,Aw (A4 4 nd (BW (AK GH (pv 3) AF (AO _)) (gT b l (AA (pv 0) (gX AF))) (gT b l (AA (pv 0) (gX AF)))))
  (AC (AU (AK FF (pv 4) AF (AO _)) (AB (AJ (Af (AA AM (gX (Ak (Ao f rfl) (pv 1) (gT b l (AA (pv 0) (gX (AS (A8 f rfl) rfl ar.50 tu (gX (pv 1)))))))))))) AL)
  (Aw (AU (PW.pt (Cw (AK Aq (pv 4) AF (AO _)) (By (PW.pt (Cj (AK Aq (pv 4) AF (AO _)) (Bu (AK Aq (pv 2) AM (AO _)))))))) (AB (af (t':=tNum) (AJ (Af (AA AM (gX (Ak (Ao f rfl) (BA (AA (gT b l (AA (pv 0) (gX AF))) (AA (gT b l (AA (pv 0) (gX (AW Pb AF AF)))) (gX (gT b l (AA (pv 0) (gX AF))))))) (gT b l (AA (pv 0) (gX AF)))))))) ?numH)) AL)
  (AC (AU (AK Aq (pv 4) AF (AO _)) (AB (AJ (Af (AA AM (gX (Ak Mg (pv 2) (gT b l (AA (pv 0) (gX (AS BN rfl ar.50 tu (gX (pv 2)))))))))))) AL)
  (AC (AU (AK Aq (pv 4) AF (AO _)) (AB (AJ (Af (AA AM (gX (A5 GT hr rfl mT kT bT tO Ai (AA (pv 0) (AA (pv 1) (AA (pv 2) (gX (AW CL (pv 3) AF))))))))))) AL)
  (AC (A4 5 nd (A5 GT hr rfl mT kT bT tO Ai (AA (pv 0) (AA (pv 1) (AA (pv 2) (gX (AW CL (pv 3) AF)))))))
  (AB (AJ (Af (AA (Ak Mg AM (AW CL (pv 4) AF)) (AA (pv 5) (gX (A5 GT hr rfl mT kT bT tO Ai (AA (pv 0) (AA (pv 1) (AA (pv 2) (gX (AW CL (pv 3) AF))))))))))))))))),?_)
 case numH=>
  rintro D E X ⟨d,x1,y1,e0,i,k⟩;show(_,e0,d,x1,y1,9,Y,i,qc,qc,λy h C br bO=>?_);let sA:=Bm (x':=h) (y':=C) i;show(_,e0,_,7,Y,(qc,qc,qc),d,h,C,7,fH,qc,qc,λs G R bs bu=>?_);let sB:=Bm (x':=G) (y':=R) (fH (H:=X) (a:=d) (o:=.l [.t h,.t C]));show(_,e0,d,G,R,64,Y,fH,qc,qc,λA P S bx bS=>?_);let sC:=Bm (x':=P) (y':=S) (fH (H:=upd X d (.l [.t h,.t C])) (a:=d) (o:=.l [.t G,.t R]));let s4:=(sA.6 sB).6 sC;let al:=fH (H:=upd (upd X d (.l [.t h,.t C])) d (.l [.t G,.t R])) (a:=d) (o:=.l [.t P,.t S]);generalize upd (upd (upd X d (.l [.t h,.t C])) d (.l [.t G,.t R])) d (.l [.t P,.t S])=H4 at s4 al ⊢;show(kQ,λp r=>?_);let aR:p≠d:=sX (AH al r);let s5:=s4.step (AD (fJ.r _) r (o:=HO.l [V.t y,V.t s,V.t A]));let an:(upd H4 p (.l [V.t y,V.t s,V.t A])) d=U (.l [.t P,.t S]):=by rw[AE (sX aR)];show al
  let lC:=fH (H:=H4) (a:=p) (o:=HO.l [V.t y,V.t s,V.t A]);generalize upd H4 p (.l [V.t y,V.t s,V.t A])=H5 at s5 an lC ⊢;show(_,e0,d,P,S,3,Y,an,qc,qc,λix a5 b5 bk bl=>?_);let sD:=Bm (x':=a5) (y':=b5) an;let jW:=sD.88 _ _ lC aR;let(v,hv,u):=HM (xs:=[V.t y,V.t s,V.t A]) bk bl;let a8:(2:Int)^(20:Int).30=1048576:=by decide
  let bR:s<1048576:=a8 ▸ bu
  let(n,rfl,hn):∃n:Nat,v=V.t (n:Int)/\n<2^20:=by
   let hm:=zN u;simp only[mem_cons,not_mem_nil,or_false]at hm;let bW:(2:Nat)^20=1048576:=by decide
   let rfl||rfl||rfl:=hm
   ·show(y.30,by rw[wb br],by lia)
   ·show(s.30,by rw[wb bs],by lia)
   ·show(A.30,by rw[wb bx],by lia)
  show(p,_,ix,7,Y,fV.of jW,hv,i1,λp2 fq=>k n p2 _ ((s5.6 sD).step (AD (fJ.r _) fq)) fH hn)
 show(λE N=>∃kd:Int,C₅ (E=[U (.r d),U (.r Z),U (.s sg),U (.t (D:Int)),U (.t kd),io]) (0<=kd) (kd<8) (D=0->kd<4) (gC d H N),λaz hR=>?_,?_)
 ·show(7,_,7,Y,7,BF (λr=>?_) (λr=>?_))
  ·have hD:(0:Int)<(D:Int):=zS r;show(7,d,a,aC,8,Y,hd,qc,qc,λkd a1 b1 k0 k1=>hR _ _ (kd,Y,k0,k1,λz=>absurd hD (),Bm hd))
  ·show(7,d,a,aC,4,Y,hd,qc,qc,λkd a1 b1 k0 k1=>hR _ _ (kd,Y,k0,by lia,λ_=>k1,Bm hd))
 rintro E X ⟨kd,rfl,k0,k8,kD,x⟩;let ag:=x.88 _ _ hw (IL hd hw h0);let(x1,y1,i):=x.g6;let bN:(ws.7 V.s).9=ws.9:=AN _;show(7,_,7,Y,7,BF (λ_=>?_) (λh2=>?_))
 ·-- a name
  show(7,7,7,Z,7,sU (fV.of ag),d,x1,y1,7,i,by lia,by lia,λr2 h C mh a2=>?_);let m:=Bm (x':=h) (y':=C) i;let be:=m.88 _ _ ag (IL i ag h0);let(v,hv,u):=HM (xs:=ws.7 V.s) mh (by show a2);rw[zx]at u;let(bE,hy,rfl):=z6.mp u;show(Z,_,r2,7,Y,fV.of be,hv,i1,λp r=>q (.r p) (.nm bE) _ ((x.6 m).step (AD (fJ.r _) r)) (p,Y,fH) (zN hy) (tH _))
 let bK:¬ kd<2:=λz=>h2 (zI z);show(λE N=>C₄ (E=[U (.r d),U (.r Z),U (.s sg),U (.t (D:Int)),U (.t kd),io]) (N=X) (kd≠2) (kd=3->sg≠ ""),λaz hR=>?_,?_)
 ·have a0:tNum {nx:=az,rt:=Q} [U (.r d),U (.r Z),U (.s sg),U (.t (D:Int)),U (.t kd),io] X:=(d,x1,y1,rfl,i,λn p N m r hn=>q (.r p) (.no n) _ (x.6 m) (p,rfl,r) hn (tH _));show(7,Y,7,?_);by_cases T:kd=2
  ·rw[zI (show V.t kd=V.t 2 by rw[T])];show Aj (Aj a0)
  rw[zL (show ¬ V.t kd=V.t 2 from λz=>T (V.t.inj z))];show AV (7,Y,7,?_);by_cases M:kd=3
  ·rw[zI (show V.t kd=V.t 3 by rw[M])];show Aj (7,Y,7,?_);by_cases es:sg=""
   ·rw[zI (show V.s sg=V.s "" by rw[es])];show Aj a0
   ·rw[zL (show ¬ V.s sg=V.s "" from λz=>es (V.s.inj z))];show AV (hR _ _ (Y,Y,T,λ_=>es))
  ·rw[zL (show ¬ V.t kd=V.t 3 from λz=>M (V.t.inj z))];show AV (AV (hR _ _ (Y,Y,T,λz=>absurd z M)))
 rintro E bI ⟨rfl,rfl,T,bd⟩;show(7,Y,7,?_);by_cases M:kd=3
 ·-- a letter
  rw[zI (show V.t kd=V.t 3 by rw[M])]
  let gd:0<sg.9:=by
   let z||z:=um sg.9
   ·exfalso;show bd M (NV ?_);have:=BB sg;rw[z]at this;rw[List.length_eq_zero_iff.mp this];decide +kernel
   ·show z
  show Aj (7,7,7,sg,Y,sZ (AR ()),d,x1,y1,7,i,by lia,by lia,λr2 h C mh a2=>?_);let m:=Bm (x':=h) (y':=C) i;let(j,rfl):∃j:Nat,r2=(j:Int):=(r2.30,by lia);let hj:j<sg.cps.64:=by rw[BB];lia
  let(c,u):∃c,sg.4[j]?=U c:=(_,z7 hj);let hv:=Bp u;show(sg,(j:Int),c,Y,Y,sZ (AR ()),hv,i1,λp r=>q (.r p) (.le c) _ ((x.6 m).step (AD (fJ.r _) r)) (p,Y,fH) (zN u) (tH _))
 rw[zL (show ¬ V.t kd=V.t 3 from λz=>M (V.t.inj z))];show AV ?_
 let(I,rfl):∃I,D=I+1:=by
  cases D with
  |zero=>have:=kD rfl;lia
  |succ I=>show(I,rfl)
 let eD:((I+1:Nat):Int)-1=(I:Int):=by lia
 let step:∀{w:Hp}{vs:nk}{Q:VK}{ab:XK},gC d H w->vs=[.r d,.r Z,.s sg,.t (((I+1:Nat):Int)-1)]->(∀v t N,gC d w N->i5 N v t->t.Ok ws sg.4->t.ht<=I->Q v N)->X4 (I+1) vs w Q ab:=λ{w vs Q ab}m e k=>by
  let(x2,y2,hd2):=m.g6;show(d,Z,x2,y2,ws,sg,by rw[e,eD],hd2,m.88 _ _ hw (IL hd hw h0),h0,mv,hsg,k)
 show(7,Y,7,?_);by_cases e4:kd=4
 ·rw[zI (show V.t kd=V.t 4 by rw[e4])];show Aj (7,7,7,7,_,7,Y,step x Y λv t w s2 lt ok ht=>(i1,λp r=>?_));let B:=AD (fJ.r _) r (o:=HO.t [V.s "~",v]);show q (.r p) (.ng t) _ ((x.6 s2).step B) (p,v,Y,fH,lt.gK (gF.of B)) ok (Nat.succ_le_succ ht)
 rw[zL (show ¬ V.t kd=V.t 4 from λz=>e4 (V.t.inj z))];show AV (7,7,7,7,_,7,Y,step x Y λv1 t1 w s2 bm bB bL=>?_)
 let(g,hg,hat):∃g:Sg,g.iJ/\jH ("|^&":Str).4 (kd-5)=U g.c:=by
  have:kd=5\/kd=6\/kd=7:=by lia
  let rfl||rfl||rfl:=this
  ·show(.or,uc,qb)
  ·show(.xo,uc,qb)
  ·show(.an,uc,qb)
 show(7,_,7,Y,"|^&",kd-5,g.c,Y,Y,kQ,hat,7,7,7,7,7,_,7,Y,step (x.6 s2) Y λv2 t2 H3 s3 bn bC bM=>(kQ,λp r=>?_));let(x2,y2,hd2):=s2.g6;rw[NX];let B:=AD (fJ.r _) r (o:=HO.t [V.s g.s,v1,v2]);show q (.r p) (.bn g t1 t2) _ (((x.6 s2).6 s3).step B) (p,v1,v2,Y,fH,(bm.gK (gC.tt hd2 s3)).gK (gF.of B),bn.gK (gF.of B)) (hg,bB,bC) (by change max t1.ht t2.ht+1<=I+1;lia)
theorem Rk(F:gE l pL pL Hu f g)(B:Bl j)(m:j pL=U (sR f))(b:Binds l g K2 [])(d:Fn P w l j o oN 2 [ny,oM] iH):∀D,AT P w l j o gG (3+D) f g K2 (spTree D)
 |0=>O0 F B d 0 ⟨(f,g,F.ok scTree (λvs H Q E h=>h.40) (λe A a s H vs Q E i h=>h.40),m,F.kp,b)⟩
 |D+1=>O0 F B d (D+1) ⟨(f,g,by have:=Rk F B m b d D;rw[show 3+D=2+(D+1) by lia]at this;show this,m,F.kp,b)⟩
end
end Mk
namespace L2
open PySem
theorem Rl(d:mQ X st t)(a:iX X b u):iX X (st::b) (Uz t u):=⟨Aw d.h a.h⟩
end L2
namespace Mk
open PySem L2 MK PySem.NumText
mutual
structure NW(x:Str):Prop where
 pw:mP L x.4
 as:x.27 (· < 128)=L
 l6:x.9<=6
 sm:∀c∈x.4,c<97
noncomputable def lb:Nat->Nat
 |0=>14
 |h+1=>2*lb h+5
theorem X5:∀D,D<=5->lb D<=603:=by decide
theorem Vb:∀D,14<=lb D
 |0=>zp _
 |h+1=>by have:=Vb h;change 14<=2*lb h+5;lia
theorem DH(x y:Str):(x++y).4=x.4++y.4:=by
 change(x.cps++y.cps).33=_
 ext
theorem Bx(x y:Str):(x++y).9=x.9+y.9:=by rw[←BB,DH,zE,BB,BB]
theorem D4{x y:Str}(h:x.27 (· < 128)=L)(b:y.27 (· < 128)=L):(x++y).27 (· < 128)=L:=by
 rw[←Array.all_toList]at h b ⊢;rw[DH,List.all_append,h,b];rfl
structure BlS(x:Str):Prop where
 bk:Bk x.4
 as:x.27 (· < 128)=L
 l1:x.9<=1
theorem dr:BlS "":=(sU (by rfl),qb,by trivial)
theorem dy:BlS " ":=(sY (by rfl),qb,by trivial)
def NoL:LT->Prop
 |.nm _=>False
 |.no _=>False
 |.le _=>False
 |_=>True
noncomputable def Vc:LT->Nat
 |.ng _=>3
 |.bn g _ _=>g.b-1
 |_=>0
noncomputable abbrev QY:ni:=[ny,oZ,"_law_rank"]
inductive spWrt(D:Nat)(vs:nk)(H:Hp)(Q:VK)(f:XK):Prop
 |mk (d) (a b) (v) (t) (h) (sg) (r:Nat) (j:vs=[.r d,v,.t (r)]) (l:H d=U (.l [.t a,.t b])) (m:i5 H v t) (i:t.Ok h sg) (p:t.ht<=D) (o:r<=3) (s:D<=5) (q:∀x∈h,NW x) (w:∀c∈sg,Dw c=L)
  (u:∀z g,gC d H g->Wr L t.tr r z.4->z.27 (· < 128)=L->z.9<=lb D->Q (.s z) g)
def ZL:Nat->Sp
 |0=>λ_ _ _ _=>False
 |D+1=>spWrt D
noncomputable abbrev d3:ni:=[ny,oZ,"_law_rank","_law_blank","_law_own",pP]
theorem scWrt:AI d3 QY (defScope Dy):=gQ
noncomputable abbrev XX:LK:=[((sS "|":Key),(.t 0)),(sS "^",(.t 1)),(sS "&",(.t 2)),(sS "~",(.t 3))]
theorem ZM{g:Sg}(h:g.iJ):An (Eb [] XX) (sS g.s:Key)=U (.t ((g.b-1:Nat):Int)):=by cases g<;>first|trivial|rfl
theorem own_no:An (Eb [] XX) (sS "~":Key)=U (.t ((3:Nat):Int)):=by rfl
theorem Rm(F:gE b o5 o5 Dy br fd)(a2:Bl mg)(f:Fn a3 be b mg a6 oN 2 [ny,oM] iH)(D)(bk:Fn a3 be b mg a6 o5 (2+D) QY (ZL D)):AT a3 be b mg a6 gG (3+D) br fd QY (spWrt D):=by
 let(fR,dR,f,mR,kR,bR):=f.ex;let(fT,dT,GT,mT,kT,bT):=bk.ex;let Q:3+D=2+D+1:=by lia
 rw[Q];show F.m scWrt λvs H a4 bC aM=>?_;let(d,a,a5,an,t,ws,sg,r,rfl,hd,lt,ok,ht,hr3,hD5,hW,hSg,a0):=aM;show(zd,λff bB bW bX R=>?_);let hu:=BY R;let jJ:gD 2 _:=R.63 ();let nd:=scWrt.nd;let bK:=X5 D hD5
 show(_,iX.h (Rl (MC (i:=3) nd zd (sU zd) (Gs Wk (.mk AM) (.mk (A0 IW zd a2.int JI (gX (CH Aq (iR.h (Gu f jJ zd mR kR bR tO Ai (CQ (.mk (pv 0)) (CQ (.mk AF) Jb)))) AF (AO _)))))))
  (Rl (P4 (.mk (AK Fz (iR.h (Eh (AZ b rfl) (.mk (pv 1)) (.mk AF))) (Af (AA AM (AA AM (gX AM)))) rfl)) (Dj (.mk (AJ (iR.h (Gs Bz (.mk (pv 3)) (.mk (A0 (gP.or Mc Mw) rfl a2.str HJ (gX (iR.h (Eh (AZ b rfl) (.mk (pv 1)) (.mk AF))))))))))) Il)
  (Rl (MC (i:=4) nd rfl (sU rfl) (.mk (Am hu (Qs (DL AM AF (DL AM AF (DL AM AF (DL AM AF Qr)))) rfl rfl qc qc) (iR.h (Eh (AZ b rfl) (.mk (pv 1)) (.mk AF))))))
  (Rl (P4 (.mk (AK Aq (iR.h (Eh (AZ b rfl) (.mk (pv 1)) (.mk AF))) AM (AO _)))
   (Dj (MC (i:=5) nd rfl (sU rfl) (Gs Bz (.mk AM) (Gu GT R rfl mT kT bT tO Ai (CQ (.mk (pv 0)) (CQ (Eh (AZ b rfl) (.mk (pv 1)) (.mk AF)) (CQ (.mk AF) Jb)))))))
   (Dj (MC (i:=5) nd rfl (sU rfl) (Gs Bz (Gs Bz (Gs Bz (Gu GT R rfl mT kT bT tO Ai (CQ (.mk (pv 0)) (CQ (Eh (AZ b rfl) (.mk (pv 1)) (.mk AF)) (CQ (.mk (pv 4)) Jb)))) (.mk (pv 3))) (Eh (AZ b rfl) (.mk (pv 1)) (.mk AF))) (Gu GT R rfl mT kT bT tO Ai (CQ (.mk (pv 0)) (CQ (Eh (AZ b rfl) (.mk (pv 1)) (.mk AF)) (CQ (Gs Cm (.mk (pv 4)) (.mk AF)) Jb))))))))
  (Dj (.mk (AJ (iR.h (X0 (.mk (PW.pt (Cw (AK FF (pv 4) (pv 2) (AO _)) (By (AK Aq (iR.h (Gu f jJ rfl mR kR bR tO Ai (CQ (.mk (pv 0)) (CQ (.mk AF) Jb)))) AF (AO _)))))) (Gs Bz (Gs Bz (Gs Bz (.mk (pv 3)) (.mk AM)) (.mk (pv 5))) (.mk AM)) (.mk (pv 5))))))))))),?_)
 show(λN q=>∃C:Str,C₃ (N=[U (.r d),U an,U (.t (r:Int)),U (.s C),J,J]) (BlS C) (gC d H q),λaC S=>?_,?_)
 ·show(7,d,a,a5,6,zd,hd,qc,qc,λk a1 b1 k0 k1=>(zd,sY (7," ",7,zd,?_)));cases decide (V.t k=V.t 0)with
  |true=>show sY (rfl,S _ _ (" ",rfl,dy,Bm hd))
  |false=>show sU (rfl,S _ _ ("",rfl,dr,Bm hd))
 rintro N H1 ⟨C,rfl,I,m⟩;let B:=lt.gK (gC.tt hd m);let(x1,y1,kf):=m.g6
 let ab:∀{x:Str}{A:Hp},gC d H A->mP L x.4->x.27 (· < 128)=L->x.9<=13->(t.tr=.wd x)->C.9+x.9<=sizeLine/\a4 (.s (C++x)) A:=λ{x A}E pw as bN e=>by
  let l1:=I.l1;have:=Vb D;show(sZ (AR ()),a0 _ _ E ?_ (D4 I.as as) (by rw[Bx];lia));rw[e,DH];show .wd x r _ I.bk pw
 show(λN q=>C₃ (N=[U (.r d),U an,U (.t (r:Int)),U (.s C),J,J]) (NoL t) (gC d H q),λaC S=>?_,?_)
 ·have o:∀{tp},H1 tp=J->fJ H1 (upd H1 tp (.t [V.s nC,V.s nH,V.s rG])):=λl=>AD (fJ.r _) l;cases t with
  |nm x=>
   let(p,rfl,y):=B;let nw:=hW x ok;let l6:=nw.l6;show(7,p,_,0,.s nC,zd,zd,gB.of y,zd,(_),λtp l=>(tp,7,sY (gB.of fH),zd,zd,7,Aj (7,7,p,_,1,.s x,zd,zd,gB.of (o l _ _ y),zd,sY (x,zd,?_))));let(h1,h2):=ab (m.step (o l)) nw.pw nw.as () rfl
   ext
  |no n=>
   let(p,rfl,y):=B;let bd:n<2^40:=uI ok qc;let fw:=(Nb (n:=([],[],λ_=>0)) bd).1;show(7,p,_,0,.s nH,zd,zd,gB.of y,zd,(_),λtp l=>(tp,7,sY (gB.of fH),zd,zd,7,Aj (7,7,p,_,1,.t (n:Int),zd,zd,gB.of (o l _ _ y),zd,sU ((n:Int),zd,MR bd,?_))));let(h1,h2):=ab (x:=IK n) (m.step (o l)) (fw.pw L (sY rfl)) fw.ok.as fw.50 rfl
   grind
  |le c=>
   let(p,rfl,y):=B;let lw:=Nc (n:=([],[(sS ⟨#[c]⟩,(.t ((0:Nat):Int)))],λ_=>0)) (hSg c ok) (by simp[An]);show(7,p,_,0,.s rG,zd,zd,gB.of y,zd,(_),λtp l=>(tp,7,sY (gB.of fH),zd,zd,7,Aj (7,7,p,_,1,.s ⟨#[c]⟩,zd,zd,gB.of (o l _ _ y),zd,sY (⟨#[c]⟩,zd,?_))));let(h1,h2):=ab (x:=⟨#[c]⟩) (m.step (o l)) (lw.pw L (sY rfl)) lw.ok.as lw.50 rfl
   ext
  |ng t'=>
   let(p,al,rfl,y,lu):=B;show(7,p,_,0,.s "~",zd,zd,gB.of y,zd,(_),λtp l=>(tp,7,sY (gB.of fH),zd,zd,7,AV (S _ _ (zd,uc,m.step (o l)))))
  |bn g t1 t2=>
   let(p,u1,u2,rfl,y,lu1,lu2):=B;show(7,p,_,0,.s g.s,zd,zd,gB.of y,zd,(_),λtp l=>(tp,7,sY (gB.of fH),zd,zd,7,?_));rw[show(if i7=L then !jt (V.s g.s) [V.s nC,V.s nH,V.s rG]else jt (V.s g.s) [V.s nC,V.s nH,V.s rG])=i7 by cases g<;>decide +kernel];show AV (S _ _ (zd,uc,m.step (o l)))
 rintro N A ⟨rfl,M,E⟩;let aR:=lt.gK (gC.tt hd E);clear ab B kf;show(λN q=>N=[U (.r d),U an,U (.t (r:Int)),U (.s C),U (.t (Vc t:Int)),J]/\gC d H q,λaC S=>?_,?_)
 ·intro dp a8;let sb:fJ A (upd (upd A dp (.d [])) dp (.d (Eb [] XX))):=λa5 bU e=>by rw[AE (AH e a8),AE (AH e a8)];show e
  show(fH,XX,rfl,qc,?_);cases t with
  |nm x=>show M.40
  |no n=>show M.40
  |le c=>show M.40
  |ng t'=>
   let(p,al,rfl,y,lu):=aR;show(7,p,_,0,.s "~",zd,zd,gB.of (sb _ _ y),zd,dp,.t ((3:Nat):Int),zd,sU (_,sS "~",sU fH,zd,own_no.31),S _ _ (zd,E.step sb))
  |bn g t1 t2=>
   let(p,u1,u2,rfl,y,lu1,lu2):=aR;show(7,p,_,0,.s g.s,zd,zd,gB.of (sb _ _ y),zd,dp,.t ((g.b-1:Nat):Int),zd,sU (_,sS g.s,sU fH,zd,(ZM ok.1).31),S _ _ (zd,E.step sb))
 rintro N H3 ⟨rfl,s3⟩;let bb:=lt.gK (gC.tt hd s3);let(x3,y3,Z):=s3.g6;clear aR E m;show(λN q=>∃h:Str,C₅ (N=[U (.r d),U an,U (.t (r:Int)),U (.s C),U (.t (Vc t:Int)),U (.s h)]) (gC d H q) (∀z,z<=Vc t->Wr L t.tr z h.4) (h.27 (· < 128)=L) (h.9+3<=lb D),λaC S=>?_,?_)
 ·let(X,rfl):∃X,D=X+1:=by
   cases D with
   |zero=>cases t with
    |nm x=>trivial
    |no n=>trivial
    |le c=>trivial
    |ng t'=>trivial
    |bn g t1 t2=>trivial
   |succ X=>simp
  let bL:=X5 X ();let bE:lb (X+1)=2*lb X+5:=rfl;let l1:=I.l1;cases t with
  |nm x=>show M.40
  |no n=>show M.40
  |le c=>show M.40
  |ng t'=>
   let(p,al,rfl,y,lu):=bb;show(7,p,_,0,.s "~",zd,zd,gB.of y,zd,zd,7,?_);rw[show decide (V.s "~"=V.s "~")=L by rfl];show Aj (7,7,p,_,1,al,zd,zd,gB.of y,zd,d,x3,y3,al,t',ws,sg,3,zd,Z,lu,ok,Nat.le_of_succ_le_succ ht,qc,by lia,hW,hSg,λar H4 T wz az lz=>("~",ar,zd,zd,sZ (AR (by rw[show("~":Str).9=1 by rfl];lia)),S _ _ ("~" ++ ar,zd,s3.6 T,λz P=>?_,D4 qb az,?_)))
   ·rw[DH,show("~":Str).4=[126] by rfl];show .ng _ z _ P wz
   ·rw[Bx,show("~":Str).9=1 by rfl]
    lia
  |bn g t1 t2=>
   let(p,u1,u2,rfl,y,lu1,lu2):=bb;let bF:1<=g.b:=by have:=ok.1;cases g<;>first|show this.40|decide
   let bI:g.b<=3:=by have:=ok.1;cases g<;>first|show this.40|decide
   let hm:t1.ht<=X/\t2.ht<=X:=by
    have:max t1.ht t2.ht+1<=X+1:=ht
    lia
   show(7,p,_,0,.s g.s,zd,zd,gB.of y,zd,zd,7,?_);rw[show decide (V.s g.s=V.s "~")=i7 by have:=ok.1;cases g<;>first|show this.40|decide +kernel];show AV ⟨_,zd,_,zd,p,_,1,u1,zd,zd,gB.of y,zd,_,zd,d,x3,y3,u1,t1,ws,sg,g.b-1,zd,Z,lu1,ok.2.1,hm.1,by lia,by lia,hW,hSg,λz1 H4 T bu bl bO=>?_⟩;let a9:H4 p=_:=(gC.tt Z T) _ _ y;let bs:=lu2.gK (gC.tt Z T);let(x4,y4,Y):=T.g6;let lg:g.s.9=1:=by cases g<;>decide +kernel
   let ag:g.s.27 (· < 128)=L:=by cases g<;>decide +kernel
   let cg:g.s.4=[g.c]:=by cases g<;>decide +kernel
   show(7,z1,C,zd,zd,sZ (AR ()),7,p,_,0,.s g.s,zd,zd,gB.of a9,zd,z1++C,g.s,zd,zd,sZ (AR (by rw[Bx];lia)),(7,7,p,_,2,u2,zd,zd,gB.of a9,zd,7,_,7,zd,d,x4,y4,u2,t2,ws,sg,g.b,?_,Y,bs,ok.2.2,hm.2,by lia,by lia,hW,hSg,λz2 H5 G bx bm bS=>?_))
   ·show [V.r d,u2,V.t (((g.b-1:Nat):Int)+1)]=[V.r d,u2,V.t (g.b:Int)]
    grind
   show(z1++C++g.s,z2,zd,zd,sZ (AR (by rw[Bx,Bx];lia)),S _ _ (7,(s3.6 T).6 G,λz P=>?_,D4 (D4 (D4 bl I.as) ag) bm,by rw[Bx,Bx,Bx];lia))
   let e:(z1++C++g.s++z2).4=z1.4++(C.4++(g.c::z2.4)):=by
    rw[DH,DH,DH,cg];simp
   rw[e];let bM:z<=g.b-1:=P;show .bn g t1.tr t2.tr z _ _ _ ok.1 () I.bk bu bx
 rintro N H4 ⟨h,rfl,T,wz,az,lz⟩;let(x4,y4,Y):=T.g6;let l1:=I.l1
 let a7:∀{H5:Hp},gC d H H5->∃i j,V.s C=.s i/\V.s "("=.s j/\i.9+j.9<=sizeLine/\∃s v,V.s (i++j)=.s s/\V.s h=.s v/\s.9+v.9<=sizeLine/\∃u w,V.s (s++v)=.s u/\V.s ")"=.s w/\u.9+w.9<=sizeLine/\a4 (.s (u++w)) H5:=λ{H5}G=>by
  let o1:("(":Str).9=1:=by decide +kernel
  let c1:(")":Str).9=1:=by decide +kernel
  show(C,"(",zd,zd,sZ (AR ()),C ++ "(",h,zd,zd,sZ (AR (by rw[Bx];lia)),C ++ "(" ++ h,")",zd,zd,sZ (AR (by rw[Bx,Bx];lia)),a0 _ _ G ?_ (D4 (D4 (D4 I.as qb) az) qb) (by rw[Bx,Bx,Bx];lia))
  let e:(C ++ "(" ++ h ++ ")":Str).4=C.4++(40::(h.4++[41])):=by
   rw[DH,DH,DH,show("(":Str).4=[40] by rfl,show(")":Str).4=[41] by rfl];simp
  rw[e];show .br _ r _ _ I.bk (wz 0 (tH _))
 show(7,7,_,7,zd,7,BF (λ_=>?_) (λaM=>?_))
 ·show Aj ?_;let(i,j,e1,e2,Q,s,v,e4,e5,e6,u,w,e7,e8,e9,lH):=a7 T;show(7,i,j,e1,e2,Q,7,s,v,e4,e5,e6,u,w,e7,e8,e9,lH)
 ·show(7,d,x4,y4,6,zd,Y,qc,qc,λk a1 b1 k0 k1=>(zd,7,?_));let G:=T.6 (Bm (x':=a1) (y':=b1) Y);show BF (λ_=>?_) (λ_=>?_)
  ·let(i,j,e1,e2,Q,s,v,e4,e5,e6,u,w,e7,e8,e9,lH):=a7 G;show(7,i,j,e1,e2,Q,7,s,v,e4,e5,e6,u,w,e7,e8,e9,lH)
  ·have P:r<=Vc t:=by
    have:¬ ((Vc t:Int)<(r:Int)):=λar=>aM (zI ar)
    lia
   show(7,a0 _ _ G (wz r P) az ())
theorem Vd(F:gE l o5 o5 Dy f g)(B:Bl j)(m:j o5=U (sR f))(b:Binds l g QY [])(d:Fn P w l j o oN 2 [ny,oM] iH):∀D,AT P w l j o gG (3+D) f g QY (spWrt D)
 |0=>Rm F B d 0 ⟨(f,g,F.ok scWrt (λvs H Q E h=>h.40) (λe A a s H vs Q E i h=>h.40),m,F.kp,b)⟩
 |D+1=>Rm F B d (D+1) ⟨(f,g,by have:=Vd F B m b d D;rw[show 3+D=2+(D+1) by lia]at this;show this,m,F.kp,b)⟩
noncomputable abbrev Ve:ni:=[ny,pE,qQ]
inductive spForm(vs:nk)(H:Hp)(Q:VK)(f:XK):Prop
 |mk (d wl) (a b) (g) (sg) (j:vs=[.r d,.r wl,.s sg]) (l:H d=U (.l [.t a,.t b])) (m:H wl=U (.l (g.7 V.s))) (i:0<g.9) (p:g.9<=10) (o:∀x∈g,NW x) (s:sg.9<=10) (u:∀c∈sg.4,Dw c=L)
  (r:∀q z v t h,gC d H h->h q=U (.t [.s z,v])->i5 h v t->t.Ok g sg.4->t.ht<=3->Wr L t.tr 0 z.4->z.27 (· < 128)=L->z.9<=56->Q (.r q) h)
noncomputable abbrev ah:ni:=[ny,pE,qQ,oZ,rX]
theorem scForm:AI ah Ve (defScope Fj):=gQ
theorem XY(F:gE b qY qY Fj an fd)(B:Bl f)(GT:Fn P w b f g pL 6 K2 (spTree 3))(m:Fn P w b f g o5 6 QY (spWrt 3)):AT P w b f g gG 7 an fd Ve spForm:=by
 show F.m scForm λvs H aR aC h=>?_;let(d,G,a,al,D,sg,rfl,hd,T,M,S,Z,ag,N,as):=h;show(Y,λff az aM a3 Q=>?_);let I:=scForm.nd
 show(_,AC (A4 3 I (gT GT Q (AA (pv 0) (AA (pv 1) (AA (pv 2) (gX AF))))))
  (AC (A4 4 I (gT m Q (AA (pv 0) (AA (pv 3) (gX AF)))))
  (Aw (AU (AK GH (AS BN rfl B.50 tu (gX (pv 4))) AF (AO _))
   (AC (A4 3 I (Af (AA AM (gX (Ak (Ao b rfl) (pv 1) AF)))))
   (AB (A4 4 I (Ak (Ao b rfl) (pv 1) AF)))) AL)
  (AB (AJ (Af (AA (pv 4) (gX (pv 3)))))))),?_)
 show(7,7,7,d,G,a,al,D,sg,Y,hd,T,M,S,ag,λv t H1 X l u i=>?_);let(x1,y1,j):=X.g6;show(7,7,d,x1,y1,v,t,D,sg.4,0,Y,j,l,u,i,qc,qc,Z,N,λz H2 s2 s o R=>?_);let e:=X.6 s2;let y:=e.88 _ _ T (IL hd T M);let a1:lb 3=147:=by decide
 show(λab A=>E₃ λ(z:Str)(v:V)(t:LT)=>C₈ (ab=[U (.r d),U (.r G),U (.s sg),U v,U (.s z)]) (gC d H A) (i5 A v t) (t.Ok D sg.4) (t.ht<=3) (Wr L t.tr 0 z.4) (z.27 (· < 128)=L) (z.9<=56),λa0 E=>?_,?_)
 ·show(7,z,Y,sZ (AR ()),_,7,Y,7,BF (λ_=>?_) (λh=>?_))
  ·cases D with
   |nil=>show absurd M qc
   |cons x a2=>
    let r:=Z x (_);let l6:=r.l6;show(7,G,_,0,.s x,Y,Y,fV.of y,Bp Y,i1,λp q=>?_);let C:=AD (fJ.r _) q (o:=HO.t [V.s nC,V.s x]);show(7,G,_,0,.s x,Y,Y,fV.of (C _ _ y),Bp Y,E _ _ (x,.r p,.nm x,Y,e.step C,(p,Y,fH),zF ..,tH _,?_,r.as,by lia));have:=Wr.wd x 0 [] (sU rfl) r.pw;show this
  ·show E _ _ (z,v,t,Y,e,l.gK (gC.tt j s2),u,i,s,o,by
    lia)
 rintro ab H3 ⟨z,v,t,rfl,s3,lt,ok,ht,s,o,R⟩;show(7,7,i1,λp q=>?_);let C:=AD (fJ.r _) q (o:=HO.t [V.s z,v]);show as p z v t _ (s3.step C) fH (lt.gK (gF.of C)) ok ht s o R
noncomputable abbrev K3:ni:=[oZ,qx,rK,qz]
inductive spCome(D:Nat)(vs:nk)(H:Hp)(Q:VK)(b:XK):Prop
 |mk (v) (nu le) (t) (n:Nv) (sg) (f:vs=[v,.r nu,.t (kn n.45:Int),.r le]) (g:i5 H v t) (h:t.Ok (n.due.7 (·.1)) sg) (m:Rd H le (.d n.kvs)) (o:∀c∈sg,Dw c=L/\An n.kvs (sS ⟨#[c]⟩)=U (.t (n.tb ⟨#[c]⟩:Nat))) (d:t.ht<=D) (j:H nu=U (.d (A9 n.45))) (i:Bi n.45)
  (l:Q (.t (t.89 n:Nat)) H)
def Vf:Nat->Sp
 |0=>λ_ _ _ _=>False
 |D+1=>spCome D
noncomputable abbrev ai:ni:=[oZ,qx,rK,qz,"_law_one","_law_other"]
theorem scCome:AI ai K3 (defScope Hv):=gQ
theorem Ro(d:Bi n.45)(h:x∈n.due.7 (·.1)):wv n x=look n.45 x:=by
 let(p,a,rfl):=zh.mp h;rw[(Ri d a).1.v];show(Cs d.nd a).31
theorem Vg(h:v<2^20):wv n (IK v)=v:=(Nb ()).1.v
theorem EH(e:b[0]?=U (U (.r p)))(d:H p=U (.t (.s s::g)))(a:decide (V.s s=V.s y)=O)(k:f D b H):YG (Tm (ly rEq (ly (YQ i) (LI 0) (tC (.t 0))) (tC (.s y)))) h f D b H:=by
 show(_,e,p,_,0,.s s,Y,Y,gB.of d,Bp Y,Y,7,?_);rw[a];show AV k
theorem O1(F:gE b pM pM Hv f j)(D)(G:Fn P w b r d pM (1+D) K3 (Vf D)):AT P w b r d gG (2+D) f j K3 (spCome D):=by
 let(fT,dT,GT,mT,kT,bT):=G.ex;let R:2+D=1+D+1:=by lia
 rw[R];show F.m scCome λvs H Q E h=>?_;let(ag,nu,le,t,n,sg,rfl,lt,ok,hle,hsg,ht,hn,DO,q):=h;show(Y,λff A ab s B=>?_);let M:=BY B;let N:=scCome.nd
 show(_,iX.h (Di (P4 (.mk (AK Aq (iR.h (Eh (AZ b Y) (.mk (Z 0)) (.mk AF))) AM (AO _))) (Dj (.mk (AJ (Am M (Z 1) (iR.h (Eh (AZ b Y) (.mk (Z 0)) (.mk AF))))))) Il)
  (Di (P4 (.mk (AK Aq (iR.h (Eh (AZ b rfl) (.mk (Z 0)) (.mk AF))) AM (AO _))) (Dj (.mk (AJ (iR.h (Eh (AZ b rfl) (.mk (Z 0)) (.mk AF)))))) Il)
  (Di (P4 (.mk (AK Aq (iR.h (Eh (AZ b rfl) (.mk (Z 0)) (.mk AF))) AM (AO _))) (Dj (.mk (AJ (Am M (Z 3) (iR.h (Eh (AZ b rfl) (.mk (Z 0)) (.mk AF))))))) Il)
  (Di (MC (i:=4) N rfl (sU rfl) (Gu GT B rfl mT kT bT tO Ai (CQ (Eh (AZ b rfl) (.mk (Z 0)) (.mk AF)) (CQ (.mk (Z 1)) (CQ (.mk (Z 2)) (CQ (.mk (Z 3)) Jb))))))
  (Di (P4 (.mk (AK Aq (iR.h (Eh (AZ b rfl) (.mk (Z 0)) (.mk AF))) AM (AO _))) (Dj (.mk (AJ (iR.h (Gs CL (.mk (Z 2)) (Gs Bh (.mk (Z 2)) (.mk (Z 4)))))))) Il)
  (Di (MC (i:=5) N rfl (sU rfl) (Gu GT B rfl mT kT bT tO Ai (CQ (Eh (AZ b rfl) (.mk (Z 0)) (.mk AF)) (CQ (.mk (Z 1)) (CQ (.mk (Z 2)) (CQ (.mk (Z 3)) Jb))))))
  (Di (P4 (.mk (AK Aq (iR.h (Eh (AZ b rfl) (.mk (Z 0)) (.mk AF))) AM (AO _))) (Dj (.mk (AJ (iR.h (Gs Bh (.mk (Z 4)) (.mk (Z 5))))))) Il)
  (Dj (.mk (AJ (iR.h (X0 (.mk (AK Aq (iR.h (Eh (AZ b rfl) (.mk (Z 0)) (.mk AF))) AM (AO _))) (Gs GD (.mk (Z 4)) (.mk (Z 5))) (Gs Tl (.mk (Z 4)) (.mk (Z 5))))))))))))))),?_)
 let C:∀{v:LT}{u:V}{z:VK},i5 H u v->v.Ok (n.due.7 (·.1)) sg->v.ht+1<=D->z (.t (v.89 n)) H->Vf D [u,.r nu,.t (kn n.45),.r le] H z E0:=λ{v u z}l o h X=>by
  cases D with
  |zero=>show absurd h ()
  |succ D'=>show(u,nu,le,v,n,sg,rfl,l,o,hle,hsg,by ext,hn,DO,X)
 cases t with
 |nm x=>
  let(p,rfl,hp):=lt;show(7,p,_,0,.s nC,Y,Y,gB.of hp,Y,Y,7,Aj (7,7,p,_,1,.s x,Y,Y,gB.of hp,Y,nu,7,sU (_,sS x,sU hn,Y,(Cb ok).31),?_));have:(LT.nm x).89 n=look n.45 x:=Ro DO ok
  rwa[this]at q
 |le c=>
  let(p,rfl,hp):=lt;let(h1,h2):=hsg c ok;apply EH rfl hp (by rfl);apply EH rfl hp (by rfl);show(7,p,_,0,.s rG,Y,Y,gB.of hp,Y,Y,7,?_);let e:(LT.le c).89 n=n.tb ⟨#[c]⟩:=(Nc h1 h2).v;rw[e]at q;show Aj (7,7,p,_,1,.s ⟨#[c]⟩,Y,Y,gB.of hp,Y,le,7,sU (_,sS ⟨#[c]⟩,hle,Y,h2.31),q)
 |no m=>
  let(p,rfl,hp):=lt;apply EH rfl hp (by rfl);show(7,p,_,0,.s nH,Y,Y,gB.of hp,Y,Y,7,?_);have:(LT.no m).89 n=m:=Vg ok;rw[this]at q;show Aj (7,p,_,1,.t m,Y,Y,gB.of hp,Y,q)
 |ng v=>
  let(p,u,rfl,hp,lu):=lt;apply EH rfl hp (by rfl);apply EH rfl hp (by rfl);apply EH rfl hp qb;show(7,p,_,1,u,Y,Y,gB.of hp,Y,7,7,7,C lu ok ht (7,p,_,0,.s "~",Y,Y,gB.of hp,Y,Y,7,?_));show Aj (7,7,7,_,7,Y,_,7,Y,?_)
  let e:((kn n.45:Nat))-tD ((kn n.45:Nat)) ((v.89 n:Nat))=(((LT.ng v).89 n:Nat)):=by
   rw[CV];change _=((kn n.45-(kn n.45&&&v.89 n):Nat):Int);have:=uM (n:=kn n.45) (m:=v.89 n)
   lia
  change Q (V.t (((kn n.45:Nat))-tD ((kn n.45:Nat)) ((v.89 n:Nat)))) H
  rwa[e]
 |bn g t1 t2=>
  let(p,u1,u2,rfl,hp,lu1,lu2):=lt;let(hg,ok1,ok2):=ok
  let I:t1.ht+1<=D/\t2.ht+1<=D:=by
   have:max t1.ht t2.ht+1<=D:=ht
   lia
  let T:∀y,y=nC \/ y=nH \/ y=rG \/ y="~" -> decide (V.s g.s=V.s y)=O:=λy S=>by
   let rfl||rfl||rfl||rfl:=S<;>cases g<;>first|show hg.40|decide +kernel
  apply EH rfl hp (T _ (sU rfl));apply EH rfl hp (_);apply EH rfl hp (_);show(_,rfl,p,_,1,u1,rfl,rfl,gB.of hp,rfl,_,rfl,_,rfl,_,rfl,C lu1 ok1 I.1 ?_);apply EH rfl hp (_);show(_,rfl,p,_,2,u2,rfl,rfl,gB.of hp,rfl,_,rfl,_,rfl,_,rfl,C lu2 ok2 I.2 (_,rfl,p,_,0,.s g.s,rfl,rfl,gB.of hp,rfl,rfl,_,rfl,?_));cases g with
  |br=>show hg.40
  |no=>show hg.40
  |an=>
   show Aj (7,7,_,7,Y,?_);change Q (V.t (tD _ _)) H
   rwa[CV]
  |or=>
   show AV (7,p,_,0,.s Sg.or.s,Y,Y,gB.of hp,Y,Y,7,Aj (7,7,_,7,Y,?_));change Q (V.t (uh _ _)) H
   rwa[CZ]
  |xo=>
   show AV (7,p,_,0,.s Sg.xo.s,Y,Y,gB.of hp,Y,Y,7,AV (7,7,_,7,Y,?_));change Q (V.t (vY _ _)) H
   rwa[Rc]
end
section
variable {P:PySem.Program}{w:PySem.World}{ω:FG}{mg:SV}{base:PySem.Heap}{fd:PySem.FuncData}
theorem Rq{f}(F:gE ω pM pM Hv f fd)(m:mg pM=U (sR f))(b:Binds ω fd K3 []):∀D,AT P w ω mg base gG (2+D) f fd K3 (spCome D)
 |0=>O1 F 0 ⟨(f,fd,F.ok scCome (λvs H Q E h=>h.40) (λd A a s H vs Q E e h=>h.40),m,F.kp,b)⟩
 |D+1=>O1 F (D+1) ⟨(f,fd,by have:=Rq F m b D;rw[show 2+D=1+(D+1) by lia]at this;show this,m,F.kp,b)⟩
end
mutual
theorem c_r(G:m9 X.p X.w X.K X.m X.b x k u s)(r:gD h X.A)(l:Bc (iD X.p X.w) X E)(j:PA X (e::f) t)(i:k<=h:=by decide)(q:Gl X x:=by rfl)(a:jg x:=by decide)(o:jC X e f:=by rfl)(d:(backTo g (starEach f X.e)).91 (·.1)=O:=by rfl):PE X (uJ (tI x p) (e::f) [] g) (Ny s [] E t):=
 let(_,_,F,m,kp,b):=G.ex
 A5 F (r.63 i) q m kp b tO l j a o d
theorem CK(h:PE X o to)(c:jz X.K C)(G:Mt X.p X.w X.K X.m X.b C m k p l)(i:gD d X.A)(e:k<=d:=by decide)
  (ht:eval (uJ (tR o m j) [] [] g) X.e=(do
   let a ←eval o X.e
   standAt j.atName
   let (f,first) ←holding [a] (getMethod a m pl)
   callWith g f first (backTo g (starEach [] X.e)) (backToKw g (keywordEach [] X.e))):=by rfl):PE X (uJ (tR o m j) [] [] g) (Le C m l [] E0 to Cz):=
 let(_,_,F,m,b):=G.ex
 Br h c m F (i.63 e) b tO Ai ht
theorem mG(q:PE X o to)(c:jz X.K C)(G:Mt X.p X.w X.K X.m X.b C m k v u)(j:gD i X.A)(p:PA X (e::g) t)(l:k<=i:=by decide)(a:jC X e g:=by rfl)(d:(backTo r (starEach g X.e)).91 (·.1)=O:=by rfl)
  (ht:eval (uJ (tR o m s) (e::g) [] r) X.e=(do
   let h ←eval o X.e
   standAt s.atName
   let (f,first) ←holding [h] (getMethod h m pl)
   callWith r f first (backTo r (starEach (e::g) X.e)) (backToKw r (keywordEach [] X.e))):=by rfl):PE X (uJ (tR o m s) (e::g) [] r) (Le C m u [] E0 to t):=
 let(_,_,F,m,b):=G.ex
 DB q c m F (j.63 l) b tO Ai p a d ht
theorem DV(p:PE X o to)(c:jz X.K C)(G:DS X.p X.w X.K X.m X.b C m k w v)(r:gD i X.A)(q:Bc (iD X.p X.w) X E)(l:PA X (e::g) t)(j:k<=i:=by decide)(a:jC X e g:=by rfl)(d:(backTo s (starEach g X.e)).91 (·.1)=O:=by rfl)
  (ht:eval (uJ (tR o m u) (e::g) [] s) X.e=(do
   let h ←eval o X.e
   standAt u.atName
   let (f,first) ←holding [h] (getMethod h m pl)
   callWith s f first (backTo s (starEach (e::g) X.e)) (backToKw s (keywordEach [] X.e))):=by rfl):PE X (uJ (tR o m u) (e::g) [] s) (Le C m v [] E to t):=
 let(_,_,F,m,b):=G.ex
 DB p c m F (r.63 j) b tO q l a d ht
theorem c_v(d:Jd X.p X.w X.K X.m X.b C g)(q:gD h X.A)(j:PA X (e::f) t)(i:5<=h:=by decide)(o:Gl X "Value":=by rfl)(l:jC X e f:=by rfl)(a:(backTo m (starEach f X.e)).91 (·.1)=O:=by rfl):PE X (uJ (tI "Value" p) (e::f) [] m) (Tp g (spVInit C g) [] E0 t):=
 let(_,_,M,F,b):=d.make
 Fy M F (q.63 i) o d.83 b tO Ai j qc l a
theorem gM(h:PE X a i)(e:PE X b g)(f:starEach [a,b] X.e=(O,(eval a X.e))::starEach [b] X.e:=by rfl)(d:starEach [b] X.e=(O,(eval b X.e))::starEach [] X.e:=by rfl):PA X [a,b] (A3 i (A3 g Cz)):=AA h (gX e d) f
theorem Vh(e:iK P w b m g x C)(r:gD h (CN (iD P w) P w b m g N qual scope f u A v s H E).A)(i:2<=h:=by decide)(l:Gl (CN (iD P w) P w b m g N qual scope f u A v s H E) x:=by rfl)(a:jg x:=by decide):
  PS (CN (iD P w) P w b m g N qual scope f u A v s H E) (.Raise (U (uJ (tI x p) [uB (.str y) j q1] [] z)) J q2) (Ik C (Ij C (spErrInit b) [] E0 (A3 (tC (.s y)) Cz)) E):=by
 let(_,_,d,o,q):=e.make;show FR Hj Y d.83 (FQ d o (r.63 i) l e.83 q tO Ai (gX AM) a)
theorem iK.rd(e:iK P w f i g x C)(d:fJ H b)(h:Uq H E C):Ik C (Ij C (spErrInit f) [] E0 (A3 (tC (.s y)) Cz)) E D j b:=
 let(_,_,a,_,_):=e.make
 Kz (te:=λ_=>tC .g) a.83 d h
theorem Ge(h:gY b H v k n)(q:Q (.t (n:Int)) H):nh b nH (.r v) H (Cz f H λvs e=>hX b (.r v::(vs++[])) e Q E):=by
 let(d,a):=id h;show(v,d,7,a,RV _ _ (_) (_),v,k,n,Y,h,q)
theorem JR(h:gY b H v k n)(q:Q (.r k) H):nh b nG (.r v) H (Cz f H λvs e=>spVKind b (.r v::(vs++[])) e Q E):=by
 let(d,a):=id h;show(v,d,7,a,RV _ _ (_) (_),v,k,n,Y,h,q)
theorem Rr(h:fZ C H k due r)(q:∀b,fJ H b->Q (.t (kn due:Int)) b):nh C ph (.r k) H (Cz f H λvs i=>spKnown C (.r k::(vs++[])) i Q E):=by
 let(e,o,l,a):=h.ins;show(k,e,7,a,(Bw _ _ _),k,due,r,Y,h,λj d=>?_);rw[Ky];show q j d
theorem O2{H}{due}{C d}{k}{n:Nat}{Q:VK}{E}{r}{i:Int}(h:fZ C H k due r)(t:i=(n))(y:n<2^40)(z:r=pe \/ n-(n&&&kn due)=0)(q:∀p b,fJ H b->gY d b p k n->Q (.r p) b):∀x a,H x=J->H a=J->a≠x->spVInit C d (.r x::([.r k,.t i]++[])) (upd (upd H a (.a x)) x (.i d a [])) (λv l=>v=.g/\Q (.r x) l) E:=by
 intro p a o j e;subst t;let sN:=DQ (D:=d) o j e;show(p,a,k,due,r,n,Y,fH,h.15 sN,y,z,λl u A=>(Y,q p l (Ce sN o u) A))
inductive spSK(C b:nq)(vs:nk)(H:Hp)(Q:VK)(d:XK):Prop
 |mk (p1 p2 k) (n1 n2) (due) (r) (h:vs=[.r p1,.r p2]) (i:gY b H p1 k n1) (j:gY b H p2 k n2) (g:fZ C H k due r) (m:kg due) (l:∀f,fJ H f->Q (.r k) f)
theorem d4:AI [pR,oa] [pR,oa] (defScope Iw):=gQ
theorem aj(F:gE b rj rj Iw f X)(l:IH b g)(a:Mt P w b T m g nG 1 [nv] (spVKind g))(j:Mt P w b T m C qJ 2 [nv,oa] (spEqK C))
  (o:uf b (sR C) qI=U (U (sV oO))) (B:vt b C (sW pA)=U iY):AT P w b T m gG 4 f X [pR,oa] (spSK C g):=by
 let(M,dE,j,z,y):=j.ex;show F.m d4 λvs H Q E h=>?_;let(J,R,k,N,S,e,r,rfl,u,D,t,d,q):=h;show(Y,λG A p s i=>?_);show(_,AC (AU (AK (Hh j i y z o B) (CK (Z 0) l.cl a i) (CK (Z 1) l.cl a i) (AO _)) (AB Ad) AL) (AB (AJ (CK (Z 0) l.cl a i))),?_);let(dk,L,O,x):=t.ins;show(7,JR u (7,JR D (k,dk,_,k,dk,7,Y,x,x,k,k,e,r,Y,t,d,sY (e,r,t,d,λI v=>(7,7,7,?_)))));rw[zI ((rfl,rfl))];show AV (7,JR (u.15 v) (q I v))
inductive spOp(g:Nat->Nat->Nat)(C b:nq)(vs:nk)(H:Hp)(Q:VK)(d:XK):Prop
 |mk (p1 p2 k) (n1 n2) (due) (r) (i:vs=[.r p1,.r p2]) (j:gY b H p1 k n1) (l:gY b H p2 k n2) (h:fZ C H k due r) (o:kg due) (m:g n1 n2<2^40) (s:r=pe \/ g n1 n2-(g n1 n2&&&kn due)=0) (p:∀q f,fJ H f->gY b f q k (g n1 n2)->Q (.r q) f)
noncomputable abbrev gOr(a b:Nat):Nat:=a|||b
noncomputable abbrev EI(a b:Nat):Nat:=a-(a&&&b)
theorem d5:AI [pR,oa] [pR,oa] (defScope QF):=gQ
theorem ak(F:gE g "union" "union" QF f T)(v:Jd P w g R m C b)(a:Mt P w g R m b nH 1 [nv] (hX b))(S:Fn P w g R m rj 4 [pR,oa] (spSK C b)):AT P w g R m gG 6 f T [pR,oa] (spOp gOr C b):=by
 let u:=v.VT.cl;show F.m d5 λvs H Q E h=>?_;let(G,L,k,x,B,o,r,rfl,t,y,z,j,lt,l,q):=h;show(Y,λM A i s d=>?_);show(_,AB (AJ (c_v v d (gM (gT S d (gM (Z 0) (Z 1))) (AW GD (CK (Z 0) u a d) (CK (Z 1) u a d))))),7,7,G,L,k,x,B,o,r,Y,t,y,z,j,λN e=>(7,Ge (t.15 e) (7,Ge (y.15 e) (_,7,Y,O2 (z.15 e) (CZ x B) lt l λp I D=>q p I (e.6 D)))))
theorem d6:AI [pR,oa] [pR,oa] (defScope Kb):=gQ
theorem am(F:gE g sj sj Kb f T)(v:Jd P w g R m C b)(a:Mt P w g R m b nH 1 [nv] (hX b))(S:Fn P w g R m rj 4 [pR,oa] (spSK C b)):AT P w g R m gG 6 f T [pR,oa] (spOp EI C b):=by
 let u:=v.VT.cl;show F.m d6 λvs H Q E h=>?_;let(G,L,k,x,B,o,r,rfl,t,y,z,j,lt,l,q):=h;show(Y,λM A i s d=>?_);show(_,AB (AJ (c_v v d (gM (gT S d (gM (Z 0) (Z 1))) (AW Bh (CK (Z 0) u a d) (Db Jz (CK (Z 1) u a d)))))),7,7,G,L,k,x,B,o,r,Y,t,y,z,j,λN e=>(7,Ge (t.15 e) (7,Ge (y.15 e) (7,_,7,Y,O2 (z.15 e) (Dk x B) lt l λp I D=>q p I (e.6 D)))))
inductive spTu(C b:nq)(vs:nk)(H:Hp)(Q:VK)(d:XK):Prop
 |mk (p k) (n) (due) (r) (h:vs=[.r p]) (i:gY b H p k n) (j:fZ C H k due r) (g:kn due<2^20) (l:∀q f,fJ H f->gY b f q k (kn due-(kn due&&&n))->Q (.r q) f)
theorem d7:AI [pR] [pR] (defScope NB):=gQ
theorem ao(F:gE b "turned" "turned" NB f I)(T:EQ b C)(t:Jd P w b G m C g)(l:Mt P w b G m g nH 1 [nv] (hX g))(d:Mt P w b G m g nG 1 [nv] (spVKind g))(B:Mt P w b G m C ph 2 [nv] (spKnown C)):AT P w b G m gG 6 f I [pR] (spTu C g):=by
 let e:=t.VT.cl;show F.m d7 λvs H Q E h=>?_;let(p,k,n,z,r,rfl,j,u,lt,q):=h;show(Y,λy A i s a=>?_);show(_,AB (AJ (c_v t a (gM (CK (Z 0) e d a) (AW Bh (CK (CK (Z 0) e d a) T.cl B a) (Db Jz (CK (Z 0) e l a)))))),7,JR j (7,JR j (Rr u λD o=>(7,Ge (j.15 o) (7,_,7,Y,O2 (u.15 o) (Dk _ n) ?_ (sY (RW _ _)) λp x v=>q p x (o.6 v))))))
 lia
noncomputable def iW:ni:=["a","ab","b","cdefghij","q","x"]
theorem Jq{b:Type}[BEq b][LawfulBEq b]:∀{l m:List b},l.26->(∀x∈l,x∈m)->l.9<=m.9
 | [],m,_,_=>tH _
 |a::l,m,h,s=>by
  let(e,i):=zi.mp h;let d:=s a (_);have:=Jq (m:=m.erase a) i λx j=>(List.mem_erase_of_ne (λz=>e (_))).49 (s x (_));rw[List.length_erase_of_mem d]at this;have:=List.length_pos_of_mem d;rw[length_cons]
  lia
noncomputable def E5(f:En)(x:Str)(v:Option (Nat×Nat)):En:=λy=>if y=x then v else f y
theorem E6(f)(x)(v):E5 f x v x=v:=zf rfl
theorem E7(f)(v)(h:y≠x):E5 f x v y=f y:=zg h
structure jj(ms:ni)(f:En):Prop where
 nd:ms.26
 w:∀x∈ms,x∈iW
 mem:∀x,x∈ms ↔ f x≠J
theorem jj.len{a}(h:jj a f):a.9<=6:=Jq h.nd h.w
theorem jj.eqlen(h:jj b f)(g:jj d f):b.9=d.9:=Nat.le_antisymm (Jq h.nd λx a=>(g.mem x).49 ((h.mem x).mp a)) (Jq g.nd λx a=>(h.mem x).49 ((g.mem x).mp a))
abbrev TpE(H:Hp)(t:nq)(n c:Nat):Prop:=H t=U (.t [.t (n:Int),.t (c:Int)])
structure i6(H:Hp)(kvs:LK)(f:En):Prop where
 ks:∃ms,kvs.7 (·.1)=ms.7 sS/\jj ms f
 vl:∀x n c,f x=U (n,(c))->∃t,An kvs (sS x)=U (.r t)/\TpE H t n c
theorem inr_mem{a:ni}:(sS x:Key)∈a.7 sS ↔ x∈a:=by
 ext
theorem MU{b:LK}(h:k∉ b.7 (·.1)):An b k=J:=by
 cases e:An b k with
 |none=>rfl
 |some v=>show absurd (WL e) h
theorem i6.no{f}{x}(h:i6 H b f)(e:f x=J):An b (sS x)=J:=by
 let(i,d,a):=h.ks;apply MU;rw[d,inr_mem,a.mem]
 ext
theorem i6.is(h:i6 H b f)(x):(An b (sS x)).24=(f x).24:=by
 cases e:f x with
 |none=>rw[h.no e];rfl
 |some v=>let(t,a,_):=h.vl x v.1 v.2 e;ext
theorem i6.len(h:i6 H b f):∃a,jj a f/\b.9=a.9:=by
 let(a,e,d):=h.ks;show(a,d,?_);have:=congrArg vO e
 rwa[AN,AN]at this
theorem i6.small(h:i6 H b f):b.9<sizeLine:=by
 let(e,a,d):=h.50;have:=a.50;show AR ()
theorem i6.keep(s:∀b g,H b=U (.t g)->H' b=U (.t g))(h:i6 H i f):i6 H' i f:=(h.ks,λx n c e=>by let(t,a,d):=h.vl x n c e;show (t,a,s _ _ d))
theorem i6.put(h:i6 H g f)(B:x∈iW)(ht:TpE H t n c):i6 H (BS g (sS x) (.r t)) (E5 f x (U (n,(c)))):=by
 let(o,p,i):=h.ks;show(?_,λy m d e=>?_)
 ·by_cases l:x∈o
  ·show(o,?_,i.nd,i.w,λy=>?_)
   ·have:(BS g (sS x) (.r t)).7 (·.1)=g.7 (·.1):=by
     unfold BS
     let q:(g.91 λj=>decide (j.1=sS x))=L:=by
      rw[DJ,h.is x];cases e:f x with
      |none=>show absurd e ((i.mem x).mp l)
      |some v=>rfl
     rw[zf q,map_map];show List.map_congr_left λj _=>?_;change(if j.1=sS x then (j.1,(V.r t))else j).1=j.1;split<;>rfl
    rw[this,p]
   ·rw[i.mem];by_cases e:y=x
    ·subst e;rw[E6];show(λ_=>(λz=>nomatch z),λ_=>(i.mem y).mp l)
    ·rw[E7 _ _ e]
  ·show(o++[x],?_,?_,λy r=>?_,λy=>?_)
   ·rw[Dd _ (h.no (uY λz=>l ((i.mem x).49 z))),zl,zl,p];rfl
   ·show nodup_append.49 (i.nd,zi.49 (not_mem_nil,nodup_nil),λa q b A=>?_)
    grind
   ·let z||z:=mem_append.mp r
    ·show i.w y z
    ext
   ·rw[mem_append,i.mem];by_cases e:y=x
    ·subst e;rw[E6]
     ext
    ·rw[E7 _ _ e]
     ext
 ·rw[HZ];by_cases z:y=x
  ·subst z;rw[E6]at e
   grind
  ·rw[E7 _ _ z]at e;let(u,a,b):=h.vl y m d e
   grind
theorem JS(k j):∀b:LK,An (CO b k) j=if j=k then J else An b j
 | []=>by unfold CO;rw[List.filter_nil,N2];simp
 |p::r=>by
  by_cases e:p.1=k
  ·rw[SF e,JS k j r];by_cases z:j=k
   ·ext
   ·rw[zg z,zg z,BE (λq=>z (q.92 e))]
  ·rw[SG e];by_cases z:p.1=j
   ·rw[BI z,BI z,zg (λq=>e (z.6 q))]
   ·rw[BE z,BE z,JS k j r]
theorem i6.drop(h:i6 H g f):i6 H (CO g (sS x)) (E5 f x J):=by
 let(j,v,i):=h.ks;show((j.21 λy=>decide (y≠x),?_,i.nd.sublist List.filter_sublist,λy u=>i.w y (mem_filter.mp u).1,λy=>?_),λy m d e=>?_)
 ·have:∀(l:LK)(m:ni),l.7 (·.1)=m.7 sS->(l.21 λt=>decide (t.1≠sS x)).7 (·.1)=(m.21 λy=>decide (y≠x)).7 sS:=by
   intro l;induction l with
   |nil=>ext
   |cons p r A=>
    intro m e;cases m with
    |nil=>cases e
    |cons y m=>
     grind
  show this g j v
 ·rw[mem_filter,i.mem];by_cases e:y=x
  ·subst e;rw[E6]
   ext
  ·rw[E7 _ _ e]
   ext
 ·by_cases z:y=x
  ·subst z;rw[E6]at e;cases e
  ·rw[E7 _ _ z]at e;let(o,a,b):=h.vl y m d e;show(o,by rw[JS,zg (λq=>z (vF q))];show a,b)
def BfAt(H:Hp)(v:V)(b:Option (Nat×Nat)):Prop:=(b=J/\v=.g)\/∃n c t,b=U (n,(c))/\v=.r t/\TpE H t n c
inductive jN(H:Hp)(a:nq)(p:Str×Option (Nat×Nat)):Prop
 |mk (v) (b:H a=U (.t [.s p.1,v])) (d:BfAt H v p.2)
structure Za where
 (b k e l:nq)
def Fw(k:V)(d l:nq):List (Str×V):=BD sr (.r l) (BD o3 (.r d) (BD oh k []))
def la(due:Aa)(r:Str)(f:En):Prop:=∀x n c,f x=U (n,(c))->n<2^20/\(r=pe \/ n-(n&&&kn due)=0)
abbrev lI:=List (PySem.Str×Option (Nat×Nat))
structure ig(BC C:nq)(z:Za)(due:Aa)(r:Str)(f:En)(D:lI)(H:Hp):Prop where
 bk:∃dx,H z.b=U (.i BC dx (Fw (.r z.k) z.e z.l))
 ka:fZ C H z.k due r
 en:∃kvs,H z.e=U (.d kvs)/\i6 H kvs f
 de:∃as,H z.l=U (.l (as.7 V.r))/\Paired (jN H) as D/\D.9<=100
 ok:la due r f
theorem BfAt.keep(s:∀b f,H b=U (.t f)->H' b=U (.t f))(h:BfAt H v b):BfAt H' v b:=by
 let h||(n,c,t,d,e,a):=h
 ·show sU h
 ·show sY (n,c,t,d,e,s _ _ a)
theorem jN.keep(s:∀b f,H b=U (.t f)->H' b=U (.t f))(h:jN H a p):jN H' a p:=by
 let(v,e,d):=h;show(v,s _ _ e,d.32 s)
structure DR(K:FG)(BC:nq):Prop where
 cl:jz K BC
 nK:g9 K BC oh
 nE:g9 K BC o3
 nD:g9 K BC sr
theorem ap(k)(d l){m:Str}(h:¬ m=sr:=by decide +kernel)(e:¬ m=o3:=by decide +kernel)(a:¬ m=oh:=by decide +kernel):(Fw k d l).5 m=J:=by
 unfold Fw;rw[As,zg h,As,zg e,As,zg a];rfl
theorem d8(k)(d l):(Fw k d l).5 (oh:Str)=U k:=by
 rfl
theorem TX(k)(d l):(Fw k d l).5 (o3:Str)=U (.r d):=by
 rfl
theorem eA(k)(d l):(Fw k d l).5 (sr:Str)=U (.r l):=by
 rfl
theorem ig.same{due}{r}(s:fJ H H')(h:ig g C z due r f D H):ig g C z due r f D H':=by
 let((u,j),l,(a,d,t),(i,p,x,o),y):=h;show((u,s _ _ j),l.15 s,(a,s _ _ d,t.32 λb v e=>s _ _ e),(i,s _ _ p,Paired.imp' (λ_ _ q=>q.32 λb v e=>s _ _ e) x,o),y)
theorem g_e(a:DR g b)(h:ig b C z due r f D H)(q:e (.r z.e)):ExF g (.r z.b) H o3 e:=by
 let(i,d):=h.bk;show(z.b,b,i,_,7,d,a.cl,a.nE,TX _ _ _,q)
theorem g_d(a:DR g b)(h:ig b C z due r f D H)(q:e (.r z.l)):ExF g (.r z.b) H sr e:=by
 let(i,d):=h.bk;show(z.b,b,i,_,7,d,a.cl,a.nD,eA _ _ _,q)
theorem lr(a:DR g b)(h:ig b C z due r f D H)(q:e (.r z.k)):ExF g (.r z.b) H oh e:=by
 let(i,d):=h.bk;show(z.b,b,i,_,7,d,a.cl,a.nK,d8 _ _ _,q)
inductive spEn(b C d:nq)(vs:nk)(H:Hp)(Q:VK)(E:XK):Prop
 |mk (z) (due) (r) (g) (D) (x) (n c) (h:vs=[.r z.b,.s x]) (i:ig b C z due r g D H) (j:g x=U (n,(c))) (f:∀t,TpE H t n c->Q (.r t) H)
 |no (z) (due) (r) (g) (D) (x) (h:vs=[.r z.b,.s x]) (i:ig b C z due r g D H) (j:g x=J) (f:Uq H E d)
theorem eB:AI [nv,nC] [nv,nC] (defScope HC):=gQ
theorem aq(F:gE b "entry" "Book.entry" HC f S)(l:DR b N)(v:iK P w b M m oP R)(G:Fn P w b M m pS 1 [nM,oz] (DZ b)):AT P w b M m (iD P w) 3 f S [nv,nC] (spEn N C R):=by
 show F.lB eB (λvs H Q E h=>?_) (λT A e s H vs Q E i h=>?_)
 ·let(_,_,_,_,_,_,_,_,rfl)||(_,_,_,_,_,_,rfl):=h<;>rfl
 ·show(_,AC (AU (Au (Al (gT G i (gM (Z 1) (Ac (Z 0) rfl))))) (AB (Vh v i)) AL) (AB (AJ (Am (BY i) (Ac (Z 0) rfl) (Z 1)))),?_);let(z,o,r,g,D,x,n,c,rfl,B,j,q)||(z,o,r,g,D,x,rfl,B,j,I):=h
  ·let(a,d,p):=B.en;show(7,7,g_e l B (sU (x,z.e,a,Y,sU d,7,?_)));let(t,u,y):=p.vl x n c j;rw[u];show AV (7,g_e l B (7,z.e,7,sU (_,sS x,sU d,Y,u.31),q t y))
  ·let(a,d,p):=B.en;show(7,7,g_e l B (sU (x,z.e,a,Y,sU d,7,?_)));rw[p.no j];show Aj (v.rd (fJ.r _) I)
inductive spVl(b C d f:nq)(vs:nk)(H:Hp)(Q:VK)(E:XK):Prop
 |mk (z) (due) (r) (g) (D) (x) (n c) (j:vs=[.r z.b,.s x]) (l:ig b C z due r g D H) (m:g x=U (n,(c))) (i:∀p h,fJ H h->gY d h p z.k n->Q (.r p) h)
 |no (z) (due) (r) (g) (D) (x) (j:vs=[.r z.b,.s x]) (l:ig b C z due r g D H) (m:g x=J) (i:Uq H E f)
theorem ig.no{H}{due}{C}{a}{z}{r}{g}{D}{m:Str}{b}{t:TA}{k}(B:ig a C z due r g D H)(q:t b H k)(h:¬ m=sr:=by decide +kernel)(i:¬ m=o3:=by decide +kernel)(e:¬ m=oh:=by decide +kernel):nh a m (.r z.b) H (t b H k):=by
 let(j,d):=B.bk;show(z.b,j,7,d,ap _ _ _ h i e,q)
theorem eE:AI [nv,nC] [nv,nC] (defScope HD):=gQ
theorem au(F:gE b oS "Book.value" HD f N)(i:DR b m)(p:Jd P w b G y C I)(o:DS P w b G y m "entry" 3 [nv,nC] (spEn m C M)):AT P w b G y (iD P w) 6 f N [nv,nC] (spVl m C I M):=by
 show F.lB eE (λvs H Q E h=>?_) (λv A e s H vs Q E l h=>?_)
 ·let(_,_,_,_,_,_,_,_,rfl)||(_,_,_,_,_,_,rfl):=h<;>rfl
 ·show(_,AB (AJ (c_v p l (gM (Ac (Z 0) rfl) (Ak (AZ b rfl) (DV (Z 0) i.cl o l Dx (gX (Z 1))) AF)))),?_);let(z,a,r,g,D,x,n,c,rfl,B,d,q)||(z,a,r,g,D,x,rfl,B,d,u):=h
  ·let(lt,j):=B.ok x n c d;show(7,lr i B (7,B.no (7,.mk z a r g D x n c Y B d λt ht=>(t,_,0,7,Y,gB.of ht,Y,O2 B.ka Y () j q))))
  ·show(7,lr i B (7,B.no (7,.no z a r g D x Y B d u)))
inductive spCh(b C:nq)(vs:nk)(H:Hp)(Q:VK)(d:XK):Prop
 |mk (z) (due) (r) (g) (D) (x) (n c) (h:vs=[.r z.b,.s x]) (i:ig b C z due r g D H) (j:g x=U (n,(c))) (f:Q (.t (c:Int)) H)
theorem eI:AI [nv,nC] [nv,nC] (defScope Ep):=gQ
theorem av(F:gE b "changes" "Book.changes" Ep f u)(l:DR b m)(e:DS P w b v p m "entry" 3 [nv,nC] (spEn m C y)):AT P w b v p (iD P w) 4 f u [nv,nC] (spCh m C):=by
 show F.n eI λvs H Q E h=>?_;let(z,d,r,g,D,x,n,c,rfl,B,j,q):=h;show(Y,λo A a s i=>?_);show(_,AB (AJ (Ak (AZ b Y) (DV (Z 0) l.cl e i Dx (gX (Z 1))) AF)),7,B.no (7,.mk z d r g D x n c Y B j λt ht=>(t,_,1,7,Y,gB.of ht,Y,q)))
inductive spNs(b C:nq)(vs:nk)(H:Hp)(Q:VK)(d:XK):Prop
 |mk (z) (due) (r) (g) (D) (i:vs=[.r z.b]) (j:ig b C z due r g D H) (m:∀l h f,fJ H f->f l=U (.l (h.7 V.s))->jj h g->uC h=L->Q (.r l) f)
theorem jj.perm(h:jj b g)(p:d.Perm b):jj d g:=(p.nodup_iff.49 h.nd,λx a=>h.w x (p.mem_iff.mp a),λx=>(p.mem_iff).6 (h.mem x))
theorem eJ:AI [nv] [nv] (defScope HE):=gQ
theorem aw(F:gE b oz "Book.names" HE f M)(B:Bl N)(u:DR b m):AT P w b N R gG 1 f M [nv] (spNs m C):=by
 show F.m eJ λvs H Q E h=>?_;let(z,G,r,g,D,rfl,i,q):=h;show(Y,λx A d s S=>?_);let(a,J,I):=i.en;let(y,j,e):=I.ks;have:=e.50;show(_,AB (AJ (AS (DF Y) Y B.sorted C7 (gX (Ac (Z 0) Y)))),7,g_e u i (z.e,a,y,Y,sU J,j,by lia,λl o v t p=>q l o _ (AD (fJ.r _) v) fH (e.perm t) p))
inductive spLn(b C:nq)(vs:nk)(H:Hp)(Q:VK)(d:XK):Prop
 |mk (z) (due) (r) (g) (D) (h:vs=[.r z.b]) (i:ig b C z due r g D H) (j:∀f,jj f g->Q (.t (f.9:Int)) H)
theorem eK:AI [nv] [nv] (defScope Kh):=gQ
theorem ax(F:gE b si "Book.__len__" Kh f y)(B:Bl G)(l:DR b m):AT P w b G I gG 1 f y [nv] (spLn m C):=by
 show F.m eK λvs H Q E h=>?_;let(z,t,r,g,D,rfl,e,q):=h;show(Y,λo A d s x=>?_);let(a,v,u):=e.en;let(p,i,j):=u.50;show(_,AB (AJ (AS Ih Y B.50 tu (gX (Ac (Z 0) Y)))),7,g_e l e (z.e,a,Y,v,?_));rw[j];show q p i
def lh(z:Za)(H d:Hp):Prop:=∀b o,H b=U o->b≠z.e->b≠z.l->d b=U o
noncomputable def jD(g:En)(x:Str)(n:Nat):En:=E5 g x (U (n,match g x with|none=>0|some (m,c)=>if n=m then c else c+1))
theorem ig.deed(B:ig w C z due r g D H)(s:lh z H f)(S:∃m,f z.e=im (.d m)/\i6 f m u)(R:∃d a,H z.l=im (.l (d.7 V.r))/\f z.l=im (.l ((d++[a]).7 V.r))/\jN f a p)(y:D.9<100)(ok:la due r u):ig w C z due r u (D++[p]) f:=by
 let((t,E),F,(m,Z,h4),(d,J,T,X),h8):=B;let i:∀{b:nq}{o:HO},H b=im o->(∀A,o≠ .d A)->(∀j,o≠ .l j)->f b=im o:=λ{b o}e P n2=>s b o e (λz=>by grind) (λz=>by grind);let Q:∀b j,H b=im (.t j)->f b=im (.t j):=λb j e=>i e (λ_ z=>nomatch z) (λ_ z=>nomatch z);let(bs,a,v,I,N):=R;rw[J]at v;have:=HO.l.inj (tS v);let q:=(List.map_inj_right (λx ab h=>V.r.inj h)).mp this;subst q;show((t,i E (λ_ z=>nomatch z) (λ_ z=>nomatch z)),?_,S,(d++[a],I,?_,by grind),ok)
 ·let(t,G,U,L,O,a,b,c):=F.ex;show⟨(t,G,U,L,O,i a (λ_ z=>nomatch z) (λ_ z=>nomatch z),i b (λ_ z=>nomatch z) (λ_ z=>nomatch z),i c (λ_ z=>nomatch z) (λ_ z=>nomatch z))⟩
 ·have l:∀{d:List nq}{D:lI},Paired (jN H) d D->Paired (jN f) (d++[a]) (D++[p]):=λh=>by
   induction h with
   |nil=>show tP N tO
   |cons a r M=>show tP (a.32 Q) M
  show l T
inductive jI(b C d:nq)(vs:nk)(H:Hp)(Q:VK)(f:XK):Prop
 |mk (z) (due) (r) (g) (D) (x) (v) (n) (j:vs=[.r z.b,.s x,.r v]) (l:ig b C z due r g D H) (m:gY d H v z.k n) (i:x∈iW) (p:D.9<100) (o:n<2^20/\(r=pe \/ n-(n&&&kn due)=0)) (q:∀h,lh z H h->ig b C z due r (jD g x n) (D++[(x,(g x))]) h->Q .g h)
noncomputable abbrev NGv:ni:=[nv,nC,oS,"before",nH,"changes"]
theorem scGv:AI NGv [nv,nC,oS] (defScope JA):=gQ
theorem ay(F:gE d "give" "Book.give" JA az fd)(f:DR d r)(VT:IH d q)(ag:Mt al aR d mg an q nH 1 [nv] (hX q)):AT al aR d mg an gG 2 az fd [nv,nC,oS] (jI r a1 q):=by
 show F.m scGv λvs H a4 a3 h=>?_;let(z,due,a7,g,a2,x,aM,n,rfl,B,hv,hx,hl,hn,aC):=h;show(Y,λff a0 a6 a8 hr=>?_);let hu:=BY hr;let N:=scGv.nd
 show(_,AC (A4 3 N (Tw hu (Ac (pv 0) Y) (pv 1) (Y,Y,Y,Y)))
  (AC (A4 4 N (CK (pv 2) VT.cl ag hr))
  (AC (A4 5 N AF)
  (Aw (AU (CW (Qh (pv 3))) (AB (A4 5 N (BW (AK Aq (pv 4) (Ak (AZ d rfl) (pv 3) AF) (AO _)) (Ak (AZ d rfl) (pv 3) AF) (AW Cm (Ak (AZ d rfl) (pv 3) AF) AF)))) AL)
  (AC (Ah (Bj (Ac (pv 0) rfl) (gX (Af (gM (pv 1) (pv 3))))))
  (AB (Cn hu (Ac (pv 0) rfl) (pv 1) (Af (gM (pv 4) (pv 5))) rfl)))))),?_)
 let(i,hk,S):=B.en;let(as,j,Z,_):=B.de
 let(u,jV,I):∃u,(An i (sS x)).44 .g=u/\BfAt H u (g x):=by
  show(_,rfl,?_);cases e:g x with
  |none=>rw[S.no e];show sU (Y,Y)
  |some y=>let(t,T,A):=S.vl x y.1 y.2 e;rw[T];show sY (_,_,t,Y,Y,A)
 show(7,g_e f B (z.e,Y,sU (_,sU hk),7,_,sU (_,sS x,sU hk,Y,Y),?_));rw[jV];show(7,Ge hv (λab H'=>H'=H/\∃c:Nat,ab=[U (.r z.b),U (.s x),U (.r aM),U u,U (.t n),U (.t c)]/\E5 g x (U (n,(c)))=jD g x n,λa5 X=>?_,?_))
 ·show(_,rfl,_,rfl,?_);let(e,rfl)||(m,c,t,e,rfl,ht):=I
  ·show AV (X _ _ (Y,0,Y,?_));unfold jD;rw[e]
  ·show Aj (7,7,t,_,0,7,Y,gB.of ht,Y,Y,7,BF (λh=>?_) (λh=>?_))
   ·have hh:n=m:=by have:=V.t.inj (zS h);lia
    show(7,t,_,1,7,Y,gB.of ht,Y,X _ _ (Y,c,Y,?_));unfold jD
    ext
   ·have hh:¬ n=m:=λe=>h (zI (by rw[e]));show(7,t,_,1,7,Y,gB.of ht,Y,_,7,Y,X _ _ (Y,c+1,Y,?_));unfold jD
    ext
 rintro ab s ⟨rfl,c,rfl,R⟩;show(7,g_d f B (sU (Y,_,fV.of j),7,7,i1,λa ha=>?_));let sa:=AD (fJ.r s) ha (o:=HO.t [V.s x,u]);let gl:=Z.9;show(z.l,_,7,Y,sa _ _ j,AR (_),?_);generalize C:upd (upd s a (HO.t [V.s x,u])) z.l (HO.l (as.7 V.r++[V.r a]))=v;let P:z.e≠z.l:=λy=>by ext
 let M:∀b o,s b=U o->b≠z.l->v b=U o:=λb o e D=>by rw[←C,AE D];show sa _ _ e
 let G:=M _ _ hk P;let(dx,D):=B.bk;show(7,7,i1,λt ht=>?_);let st:=AD (fJ.r v) ht (o:=HO.t [V.t n,V.t c]);show(7,(z.b,r,dx,_,7,st _ _ (M _ _ D (λy=>by ext)),f.cl,f.nE,TX _ _ _,7,z.e,7,jc.k (k:=sS x) (st _ _ G) S.small,?_));let p:(upd v t (HO.t [V.t n,V.t c])) t=U (.t [.t n,.t c]):=fH;generalize e3:upd v t (HO.t [V.t n,V.t c])=w at st p;let Q:lh z s (upd w z.e (.d (BS i (sS x) (.r t)))):=λb o e T A=>by rw[AE T];show st _ _ (M b o e A)
 let E:∀b l,w b=U (.t l)->(upd w z.e (.d (BS i (sS x) (.r t)))) b=U (.t l):=λb l e=>by rw[AE (λy=>by rw[y,st _ _ G]at e;cases e)];show e
 let t1:∀b l,s b=U (.t l)->w b=U (.t l):=λb l e=>st _ _ (M b _ e (λy=>by ext));show aC _ Q (B.deed Q (_,fH,?_) (as,a,j,?_,u,?_,?_) hl ?_)
 ·rw[←R];show((S.32 t1).put hx p).32 E
 ·rw[AE (sX P),zl];apply st _ _;rw[←C,fH];rfl
 ·show E _ _ (st _ _ ?_);rw[←C,AE (λy=>by ext),fH]
 ·show(I.32 t1).32 E
 ·rw[←R];intro y m ar e;by_cases hy:y=x
  ·subst hy;rw[E6]at e
   ext
  ·rw[E7 _ _ hy]at e;show B.ok y m ar e
theorem Rs(h:x∈due.7 (·.1)):∃p∈due,look due x=p.2:=by
 unfold look;cases q:due.76 λp=>decide (p.1=x)with
 |none=>
  grind
 |some p=>grind
def jy(due:Aa)(n:Nat):Prop:=n-(n&&&kn due)=0
theorem jy.iff:jy due n ↔ ∀k,n.29 k=L->(kn due).29 k=L:=by
 constructor
 ·intro h k a;have:=congrArg (λm=>m.29 k) h;simp[NQ,a]at this;simpa using this
 ·intro h;show ue λk=>?_;rw[NQ]
  ext
theorem jy.or{due}{n m}(h:jy due n)(g:jy due m):jy due (n|||m):=jy.iff.mpr λk a=>by
 rw[Nat.testBit_or,vp]at a;show a.40 (jy.iff.mp h k) (jy.iff.mp g k)
theorem jy.sub(m)(h:jy due n):jy due (n-(n&&&m)):=jy.iff.mpr λk a=>by
 rw[NQ,tA]at a;show jy.iff.mp h k a.1
theorem K4{due}{a:ni}(b:∀x∈a,x∈due.7 (·.1)):jy due (AY (a.7 (look due))):=jy.iff.mpr λk e=>by
 rw[DY,any_map,any_eq_true]at e;let(x,d,i):=e;let(p,h,e):=Rs (b x d);unfold kn;rw[DY]
 grind
theorem K5{a:ni}(b:∀x∈a,x∈due.7 (·.1))(h:∀p∈due,p.2<2^20):AY (a.7 (look due))<2^20:=by
 show FU λn i=>?_;let(x,d,rfl):=zh.mp i;let(p,j,e):=Rs (b x d)
 simp[*]
structure lX(due:Aa)(ns:ni):Prop where
 l:ns.9<=100
 s:∀x∈ns,x∈due.7 (·.1)
 lt:∀p∈due,p.2<2^20
noncomputable abbrev sqO(b:Bool)(d:nk):HO:=if b then .t d else .l d
inductive spVo(C d:nq)(vs:nk)(H:Hp)(Q:VK)(f:XK):Prop
 |mk (b) (k l) (due) (r) (ns) (i:vs=[.r k,.r l]) (j:fZ C H k due r) (m:H l=U (sqO b (ns.7 V.s))) (h:lX due ns) (o:∀q g,fJ H g->gY d g q k (AY (ns.7 (look due)))->Q (.r q) g)
theorem eO:AI [nG,oz] [nG,oz] (defScope Ka):=gQ
theorem bA(F:gE b qf qf Ka al fd)(B:Bl f)(T:EQ b C)(s:Jd P w b f h C g)(m:Fn P w b f h qC 1 [ox] (spUnionOf b))(A:Mt P w b f h C nH 2 [nv,nC] (spNumber C)):AT P w b f h gG 6 al fd [nG,oz] (spVo C g):=by
 show F.m eO λvs H Q as an=>?_;let(ag,k,l,d,r,G,rfl,M,z,N,q):=an;show(Y,λff ar az aM y=>?_);let(dk,d1,d2,hk):=M.ins;let aC:=N.l;let I:∀{u:Hp}{q:Prop},fJ H u->q->nh C nH (.r k) u q:=λa q=>(k,dk,_,rfl,a _ _ hk,(Bw _ _ _),q)
 let D:∀{u:Hp},fJ H u->∀p,u p=J->spUnionOf b [.r p] (upd u p (.l (G.7 λx=>V.t (look d x:Nat)))) (λv j=>∀x R,j x=J->j R=J->R≠x->spVInit C g (.r x::([.r k,v]++[])) (upd (upd j R (.a x)) x (.i g R [])) (λv X=>v=.g/\Q (.r x) X) E0) E0:=λ{u}a p E=>by
  let i:=a.6 (AD (fJ.r _) E (o:=HO.l (G.7 λx=>V.t (look d x:Nat))));show(p,G.7 (look d),Y,fV.of (by rw[fH];unfold BH;rw[map_map];rfl),O2 (M.15 i) Y (uI (K5 N.s N.lt) qc) (sY (K4 N.s)) λq' X s3=>q q' X (i.6 s3))
 cases ag with
 |false=>
  show(_,AC (AU (Au (Al (AS (KF b Y) Y B.iP Fl (gM (Z 1) (Af (gM (EW (v:=.y oq) Y B.67 Eu Y) (EW (v:=.y oB) Y B.56 Bs Y))))))) (AB Ad) AL)
   (AB (AJ (c_v s y (gM (Z 0) (gT m y (gX (BJ [nG] [U 0] (by rfl) (_) (by rfl) rfl (Ay (Z 1)) (λ_ _ _ _ _ _=>BP) (λ_ _ _ _ _ _=>mG (Z 1) T.cl A y (gX (Z 0)))))))))),_,rfl,by change 2<=sizeLine;decide,λt ht=>?_)
  let a:=AD (fJ.r _) ht (o:=HO.t [V.y oq,V.y oB]);show(l,t,7,sU (a _ _ z),gB.of fH,7,AV (7,7,l,Y,(_,fV.of (a _ _ z)),Ku G _ (λx=>U (V.t (look d x:Nat))) (HL _ _) (a _ _ z) () (λv x j N' S e i ab=>e ▸ (7,I (a.6 i) (7,k,d,r,x,Y,M.15 (a.6 i),N.s x S,ab _ (fJ.r _)))) λj i p E=>by rw[NL];show D (a.6 i) p E))
 |true=>
  show(_,AC (AU (Au (Al (AS (KF b Y) Y B.iP Fl (gM (Z 1) (Af (gM (EW (v:=.y oq) Y B.67 Eu Y) (EW (v:=.y oB) Y B.56 Bs Y))))))) (AB Ad) AL)
   (AB (AJ (c_v s y (gM (Z 0) (gT m y (gX (BJ [nG] [U 0] (by rfl) (_) (by rfl) rfl (Jw (Z 1)) (λ_ _ _ _ _ _=>BP) (λ_ _ _ _ _ _=>mG (Z 1) T.cl A y (gX (Z 0)))))))))),_,rfl,by change 2<=sizeLine;decide,λt ht=>?_)
  let a:=AD (fJ.r _) ht (o:=HO.t [V.y oq,V.y oB]);show(l,t,7,sY (a _ _ z),gB.of fH,7,AV (7,7,l,Y,(_,gB.of (a _ _ z)),X1 G _ (λx=>U (V.t (look d x:Nat))) (HL _ _) (a _ _ z) () (λv x j N' S e i ab=>e ▸ (7,I (a.6 i) (7,k,d,r,x,Y,M.15 (a.6 i),N.s x S,ab _ (fJ.r _)))) λj i p E=>by rw[NL];show D (a.6 i) p E))
inductive spIb(vs:nk)(H:Hp)(Q:VK)(b:XK):Prop
 |mk (x) (f:vs=[.s x]) (g:x∈iW) (h:∀d,fJ H d->Q (.l L) d)
theorem Nf:∀x∈iW,x.27 (· < 128)=L/\1<=x.9/\x.9<=8/\x.39 Dw=L:=by decide +kernel
theorem eP:AI [nM] [nM] (defScope Fa):=gQ
theorem bD(F:gE g qA qA Fa f j)(B:Bl d)(l:d "LONGEST_BOOK_NAME"=U (tV 8 m)):AT P w g d o gG 1 f j [nM] spIb:=by
 show F.m eP λvs H Q E h=>?_;let(x,rfl,hx,q):=h;show(Y,λM A ab s X=>?_);let(ha,h1,h8,hs):=Nf x hx
 show(_,AC (AU (PW.pt (Cw (Au (Al (BZ g Y Y B.iP Y B.str HJ (Z 0)))) (By (Au (FJ FH FH AF (AS BN Y B.50 tu (gX (Z 0))) (BV (v:=.t 8) Y l (m,Y))))))) (AB Ad) AL)
  (AB (AJ (AS (DN rfl) rfl B.94 Fk (gX (BJ [] [] (by rfl) (_) (by rfl) rfl (J9 (Z 0)) (λ_ _ _ _ _ _=>BP) (λ_ _ _ _ _ _=>FI Ca Ca AM (Z 0) AM)))))),?_)
 show(7,_,_,_,L,Y,.s x,Y,7,AV (7,x,Y,sZ (AR ()),_,7,Y,7,?_));rw[zI ()];show Aj (_,7,Y,7,?_);rw[zI ()];show AV (7,x,Y,ha,Hw (λi y r=>i<=8/\r=H/\y=tJ i (V.l L)) (qc,Y,Y) (λi y r k=>by let(h,_,e):=k;grind) ?_ ?_)
 ·rintro i c y r R ⟨_,rfl,rfl⟩;let T:x.82=x.9:=rfl
  let S:i<x.82:=by
   let z||z:=Nat.lt_or_ge i x.82
   ·show z
   ·ext
  let u:=JP 97 122 "a" "z" (by rfl) (by rfl) c;let D:∀b,b=Dw c->(i+1<=8/\r=r/\tJ i (V.l L)++[V.l b]=tJ (i+1) (V.l L)):=λb G=>(by lia,rfl,by rw[G,all_eq_true.mp hs c (_),List.replicate_succ']);show(7,_,7,Y,7,BF (λC=>?_) (λC=>?_))
  ·rw[zf C]at u;show(_,7,Y,D _ u)
  ·rw[zg C]at u;show D _ u
 ·rintro y r ⟨N,rfl,rfl⟩ p I;show(p,tJ x.82 L,Y,fV.of (by rw[fH,List.map_replicate]),?_);rw[show(tJ x.82 L).94 id=L by simp];show q _ (AD (fJ.r _) I)
def O3(b C:nq)(z:Za)(due:Aa)(r:Str)(g:En)(D:lI)(H:Hp)(Q:VK):Prop:=∀d,lh z H d->ig b C z due r g D d->Q .g d
def lW(due:Aa)(r:Str)(n:Nat):Prop:=n<2^20/\(r=pe \/ n-(n&&&kn due)=0)
theorem K6(B:ig b C z due r g D H)(e:gY f H v z.k n)(d:x∈iW)(a:D.9<100)(h:lW due r n)(q:O3 b C z due r (jD g x n) (D++[(x,(g x))]) H Q):jI b C f (.r z.b::([.s x,.r v]++[])) H Q E:=(z,due,r,g,D,x,v,n,rfl,B,e,d,a,h,q)
theorem lX.ok{due}{r}{a}(N:lX due a):lW due r (AY (a.7 (look due))):=(K5 N.s N.lt,sY (K4 N.s))
theorem ig.nmE(b)(B:ig j C z due r g D H)(d:H l=U (sqO b (h.7 V.s)))(N:lX due h)(q:∀q f,fJ H f->gY i f q z.k (AY (h.7 (look due)))->a (.r q) f):spVo C i (.r z.k::([.r l]++[])) H a E:=.mk b z.k l due r h rfl B.ka d N q
inductive spPu(b C:nq)(vs:nk)(H:Hp)(Q:VK)(d:XK):Prop
 |mk (z) (due) (r) (g) (D) (x) (l) (ns) (h:vs=[.r z.b,.s x,.r l]) (i:ig b C z due r g D H) (j:x∈iW) (f:D.9<100) (o:H l=U (.l (ns.7 V.s))) (m:lX due ns) (p:O3 b C z due r (jD g x (AY (ns.7 (look due)))) (D++[(x,(g x))]) H Q)
theorem eQ:AI [nv,nC,oz] [nv,nC,oz] (defScope Ke):=gQ
theorem bG(F:gE g "put" "Book.put" Ke f z)(t:DR g l)(T:Fn P w g r m qA 1 [nM] spIb)(s:Fn P w g r m qf 6 [nG,oz] (spVo C v))(I:Mt P w g r m l "give" 2 [nv,nC,oS] (jI l C v)):AT P w g r m (iD P w) 7 f z [nv,nC,oz] (spPu l C):=by
 show F.n eQ λvs H Q E h=>?_;let(aM,S,as,an,D,x,ar,X,rfl,B,p,u,O,N,q):=h;show(Y,λR A d az i=>?_);show(_,AC (AU (Au (Al (gT T i (gX (Z 1))))) (AB Ad) AL) (AB (Ah (mG (Z 0) t.cl I i (gM (Z 1) (gT s i (gM (Ac (Z 0) Y) (Z 2))))))),7,.mk x Y p λal a=>(7,AV (7,(B.15 a).no (7,7,lr t (B.15 a) (_,Y,(B.15 a).nmE i7 (a _ _ O) N λaC ag j M=>K6 (Q:=λ_ ab=>Q .g ab) ((B.15 a).15 j) M p u N.ok λy G=>q y λb o e=>G b o (j _ _ (a _ _ e)))))))
inductive spMr(p:Nat->Nat->Nat)(d C f:nq)(vs:nk)(H:Hp)(Q:VK)(E:XK):Prop
 |mk (z) (due) (r) (g) (D) (x) (l) (ns) (b) (n c) (i:vs=[.r z.b,.s x,.r l]) (j:ig d C z due r g D H) (m:x∈iW) (h:D.9<100) (q:H l=U (sqO b (ns.7 V.s))) (o:lX due ns) (v:kg due) (u:g x=U (n,(c))) (s:O3 d C z due r (jD g x (p n (AY (ns.7 (look due))))) (D++[(x,(g x))]) H Q)
 |no (z) (due) (r) (g) (D) (x) (l) (i:vs=[.r z.b,.s x,l]) (j:ig d C z due r g D H) (m:g x=J) (h:Uq H E f)
theorem eU:AI [nv,nC,"more"] [nv,nC,"more"] (defScope JB):=gQ
theorem bH(F:gE f "mark" "Book.mark" JB an fd)(u:DR f l)(s:Fn P w f o m "union" 6 [pR,oa] (spOp gOr C q))(ag:Fn P w f o m qf 6 [nG,oz] (spVo C q))(G:DS P w f o m l oS 6 [nv,nC] (spVl l C q cB))(y:Mt P w f o m l "give" 2 [nv,nC,oS] (jI l C q)):AT P w f o m (iD P w) 7 an fd [nv,nC,"more"] (spMr gOr l C cB):=by
 show F.lB eU (λvs H Q E h=>?_) (λff aM t aR H vs Q E i h=>?_)
 ·let(_,_,_,_,_,_,_,_,_,_,_,rfl)||(_,_,_,_,_,_,_,rfl):=h<;>rfl
 ·show(_,AB (Ah (mG (Z 0) u.cl y i (gM (Z 1) (gT s i (gM (DV (Z 0) u.cl G i Dx (gX (Z 1))) (gT ag i (gM (Ac (Z 0) rfl) (Z 2)))))))),?_);let(z,a,r,g,D,x,ar,J,b,n,c,rfl,B,X,O,hl,N,aC,j,az)||(z,a,r,g,D,x,ar,rfl,B,j,hU):=h
  ·show(7,B.no (7,7,B.no (7,.mk z a r g D x n c Y B j λR H1 p ab=>(7,lr u (B.15 p) (7,?_)))));let I:=B.ok x n c j;let V2:lW a r (AY (J.7 (look a))):=N.ok;let v:lW a r (gOr n (AY (J.7 (look a)))):=(Nat.or_lt_two_pow I.1 V2.1,I.2.imp id λz=>jy.or z (K4 N.s));let B1:=B.15 p;show B1.nmE b (p _ _ hl) N λv2 H2 d M=>(R,v2,z.k,n,_,a,r,Y,ab.15 d,M,B1.ka.15 d,aC,uI v.1 qc,v.2,λv3 H3 s3 S=>K6 (Q:=λ_ al=>Q .g al) ((B1.15 d).15 s3) S X O v λA T=>az A λb as e=>T b as (s3 _ _ (d _ _ (p _ _ e))))
  ·show(7,B.no (7,7,B.no (7,.no z a r g D x Y B j hU)))
theorem eV:AI [nv,nC,"less"] [nv,nC,"less"] (defScope Fc):=gQ
theorem bJ(F:gE f "unmark" "Book.unmark" Fc ar fd)(u:DR f l)(s:Fn P w f o m sj 6 [pR,oa] (spOp EI C q))(A:Fn P w f o m qf 6 [nG,oz] (spVo C q))(G:DS P w f o m l oS 6 [nv,nC] (spVl l C q cB))(y:Mt P w f o m l "give" 2 [nv,nC,oS] (jI l C q)):AT P w f o m (iD P w) 7 ar fd [nv,nC,"less"] (spMr EI l C cB):=by
 show F.lB eV (λvs H Q E h=>?_) (λff aR t a0 H vs Q E i h=>?_)
 ·let(_,_,_,_,_,_,_,_,_,_,_,rfl)||(_,_,_,_,_,_,_,rfl):=h<;>rfl
 ·show(_,AB (Ah (mG (Z 0) u.cl y i (gM (Z 1) (gT s i (gM (DV (Z 0) u.cl G i Dx (gX (Z 1))) (gT A i (gM (Ac (Z 0) rfl) (Z 2)))))))),?_);let(z,a,r,g,D,x,as,R,b,n,c,rfl,B,X,M,hl,N,aM,j,aC)||(z,a,r,g,D,x,as,rfl,B,j,hU):=h
  ·show(7,B.no (7,7,B.no (7,.mk z a r g D x n c Y B j λal H1 p ab=>(7,lr u (B.15 p) (7,?_)))));let I:=B.ok x n c j;let v:lW a r (EI n (AY (R.7 (look a)))):=(tw (vN _ _) I.1,I.2.imp id λz=>jy.sub _ z);let B1:=B.15 p;show B1.nmE b (p _ _ hl) N λv2 H2 d ag=>(al,v2,z.k,n,_,a,r,Y,ab.15 d,ag,B1.ka.15 d,aM,uI v.1 qc,v.2,λv3 H3 s3 S=>K6 (Q:=λ_ an=>Q .g an) ((B1.15 d).15 s3) S X M v λH4 T=>aC H4 λb az e=>T b az (s3 _ _ (d _ _ (p _ _ e))))
  ·show(7,B.no (7,7,B.no (7,.no z a r g D x Y B j hU)))
inductive spTn(b C d:nq)(vs:nk)(H:Hp)(Q:VK)(E:XK):Prop
 |mk (z) (due) (r) (g) (D) (x) (n c) (h:vs=[.r z.b,.s x]) (i:ig b C z due r g D H) (j:x∈iW) (f:D.9<100) (l:kn due<2^20) (o:g x=U (n,(c))) (m:O3 b C z due r (jD g x (kn due-(kn due&&&n))) (D++[(x,(g x))]) H Q)
 |no (z) (due) (r) (g) (D) (x) (h:vs=[.r z.b,.s x]) (i:ig b C z due r g D H) (j:g x=J) (f:Uq H E d)
theorem eW:AI [nv,nC] [nv,nC] (defScope JC):=gQ
theorem bP(F:gE m "turn" "Book.turn" JC f fd)(t:DR m d)(X:Fn P w m A s "turned" 6 [pR] (spTu C T))(p:DS P w m A s d oS 6 [nv,nC] (spVl d C T cB))(M:Mt P w m A s d "give" 2 [nv,nC,oS] (jI d C T)):AT P w m A s (iD P w) 7 f fd [nv,nC] (spTn d C cB):=by
 show F.lB eW (λvs H Q E h=>?_) (λan al aC aM H vs Q E i h=>?_)
 ·let(_,_,_,_,_,_,_,_,rfl)||(_,_,_,_,_,_,rfl):=h<;>rfl
 ·show(_,AB (Ah (mG (Z 0) t.cl M i (gM (Z 1) (gT X i (gX (DV (Z 0) t.cl p i Dx (gX (Z 1)))))))),?_);let(z,a,r,g,D,x,n,c,rfl,B,N,y,u,j,q)||(z,a,r,g,D,x,rfl,B,j,R):=h
  ·show(7,B.no (7,7,B.no (7,.mk z a r g D x n c Y B j λG az l v=>(G,z.k,n,a,r,Y,v,B.ka.15 l,u,λas ar s3 I=>K6 (Q:=λ_ ag=>Q .g ag) ((B.15 l).15 s3) I N y (tw (vN _ _) u,sY (RW _ _)) λS ab=>q S λb o e=>ab b o (s3 _ _ (l _ _ e))))))
  ·show(7,B.no (7,7,B.no (7,.no z a r g D x Y B j R)))
theorem ig.kp(B:ig q C z due r g D H)(s:lh z H f)(e:H b=U o)(p:∀a,o≠ .d a:=by intro _;show λz=>nomatch z)(i:∀m,o≠ .l m:=by intro _;show λz=>nomatch z):f b=U o:=by
 let(d,h,_):=B.en;let(j,l,_):=B.de;show s b o e (λz=>by grind) (λz=>by grind)
theorem ig.to(B:ig w C z due r g D H)(s:lh z H f)(A:∃m,f z.e=U (.d m)/\i6 f m i)(y:∃d,f z.l=U (.l (d.7 V.r))/\Paired (jN H) d j)(v:j.9<=100)(ok:la due r i):ig w C z due r i j f:=by
 let(h,l):=B.bk;let(d,x,p):=y;show((h,B.kp s l),?_,A,(d,x,Paired.imp' (λ_ _ q=>q.32 λb F e=>B.kp s e) p,v),ok);let(h,o,E,t,u,a,b,c):=B.ka.ex;show⟨(h,o,E,t,u,B.kp s a,B.kp s b,B.kp s c)⟩
theorem la.set(h:la due r g)(v)(i:∀n c,v=U (n,(c))->lW due r n):la due r (E5 g x v):=λy m d e=>by
 by_cases a:y=x
 ·subst a;rw[E6]at e;show i m d e
 ·rw[E7 _ _ a]at e;show h y m d e
inductive spDr(b C d:nq)(vs:nk)(H:Hp)(Q:VK)(E:XK):Prop
 |mk (z) (due) (r) (g) (D) (x) (n c) (h:vs=[.r z.b,.s x]) (i:ig b C z due r g D H) (f:D.9<100) (m:g x=U (n,(c))) (l:O3 b C z due r (E5 g x J) (D++[(x,(g x))]) H Q)
 |no (z) (due) (r) (g) (D) (x) (h:vs=[.r z.b,.s x]) (i:ig b C z due r g D H) (j:g x=J) (f:Uq H E d)
theorem eX:AI [nv,nC] [nv,nC] (defScope JD):=gQ
theorem bQ(F:gE m sy "Book.drop" JD al fd)(p:DR m f)(GE:DS P w m mg q f "entry" 3 [nv,nC] (spEn f C s)):AT P w m mg q (iD P w) 4 al fd [nv,nC] (spDr f C s):=by
 show F.lB eX (λvs H Q E h=>?_) (λff ar as aC H vs Q E hr h=>?_)
 ·let(_,_,_,_,_,_,_,_,rfl)||(_,_,_,_,_,_,rfl):=h<;>rfl
 ·show(_,AC (Ah (Bj (Ac (Z 0) rfl) (gX (Af (gM (Z 1) (DV (Z 0) p.cl GE hr Dx (gX (Z 1)))))))) (AB (Ah (J4 (Ac (Z 0) rfl) (Z 1) (rfl,rfl,rfl,rfl)))),?_);let(z,j,r,g,D,x,n,c,rfl,B,hD,u,an)||(z,j,r,g,D,x,rfl,B,u,hU):=h
  ·let(i,hk,Y):=B.en;let(I,d,M,_):=B.de;let(dx,R):=B.bk;let(t0,O,_):=Y.vl x n c u;show(7,g_d p B (sU (zd,_,fV.of d),7,7,B.no (7,.mk z j r g D x n c zd B u λt ht=>(i1,λa ha=>?_))));let X:=AD (fJ.r H) ha (o:=HO.t [V.s x,V.r t]);let az:=M.9;show(z.l,_,7,zd,X _ _ d,AR (_),?_);let v:z.e≠z.l:=λy=>by ext
   let S:a≠z.l:=λy=>by ext
   generalize N:upd (upd H a (HO.t [V.s x,V.r t])) z.l (HO.l (I.7 V.r++[V.r a]))=A;let T:∀b o,H b=U o->b≠z.l->A b=U o:=λb o e R=>by rw[←N,AE R];show X _ _ e
   let l:=T _ _ hk v;let ag:A z.l=U (.l ((I++[a]).7 V.r)):=by rw[←N,fH,zl];rfl
   show(7,(z.b,f,dx,_,7,T _ _ R (λy=>by ext),p.cl,p.nE,TX _ _ _,z.e,zd,sU (_,sU l),7,i,sS x,_,l,zd,O,?_));let G:lh z H (upd A z.e (.d (CO i (sS x)))):=λb o e h1 h2=>by rw[AE h1];ext
   let tk:∀b ab,A b=U (.t ab)->(upd A z.e (.d (CO i (sS x)))) b=U (.t ab):=λb ab e=>by rwa[AE (λy=>by ext)]
   show an _ G (B.deed G (_,fH,(Y.32 λb ab e=>B.kp G e).drop) (I,a,d,by rw[AE (sX v)];show ag,.r t,tk _ _ (by rw[←N,AE S,fH]),sY (n,c,t,u,rfl,B.kp G ht)) hD (B.ok.set io λ_ _ e=>nomatch e))
  ·let(I,d,_):=B.de;show(7,g_d p B (sU (zd,_,fV.of d),7,7,B.no (7,.no z j r g D x zd B u hU)))
inductive spTk(d C f:nq)(vs:nk)(H:Hp)(Q:VK)(E:XK):Prop
 |mk (z) (due) (r) (g) (D) (x) (b) (i:vs=[.r z.b]) (j:ig d C z due r g (D++[(x,(b))]) H) (l:x∈iW) (h:b=J->g x≠J) (m:∀n c,b=U (n,(c))->lW due r n) (o:O3 d C z due r (E5 g x b) D H Q)
 |no (z) (due) (r) (g) (i:vs=[.r z.b]) (j:ig d C z due r g [] H) (h:Uq H E f)
theorem Cf{b f}{F}:∀{d:List b}{D}{p:f},Paired F d (D++[p])->∃bs a,d=bs++[a]/\Paired F bs D/\F a p
 |_,[],_,tP a tO=>([],_,rfl,tO,a)
 |_,_::D,_,tP a r=>by
  let(bs,c,e,h,i):=Cf r;show(_::bs,c,by rw[e];rfl,tP a h,i)
theorem scTk:AI [nv,nC,"before"] [nv] (defScope EA):=gQ
theorem bV(F:gE f rY "Book.take_back" EA al fd)(B:Bl s)(G:DR f m)(r:iK P w f s ag pz cN):AT P w f s ag (iD P w) 3 al fd [nv] (spTk m az cN):=by
 show F.lB scTk (λvs H Q E h=>?_) (λff ar aC aM H vs Q E X h=>?_)
 ·let(_,_,_,_,_,_,_,rfl)||(_,_,_,_,rfl):=h<;>rfl
 ·have nd:=scTk.nd
  show(_,AC (AU (AK Aq (AS (A8 f Y) Y B.50 tu (gX (Ac (Z 0) Y))) AF (AO _)) (AB (Vh r X)) AL)
   (AC (Bf (Gi plainAttrs_list slot_list_pop type_list_pop Ia (Ac (Z 0) rfl)) (BG rfl (AQ (A7 1 nd) (AQ (A7 2 nd) Av))))
   (AB (AU (CW (Ju (Z 2))) (AB (Ah (J4 (Ac (Z 0) rfl) (Z 1) (rfl,rfl,rfl,rfl)))) (AB (Cn (BY X) (Ac (Z 0) rfl) (Z 1) (Z 2) rfl))))),?_)
  let(z,ab,an,g,D,x,b,rfl,d,hx,hb0,T,q)||(z,ab,an,g,rfl,d,hU):=h
  ·let(l,hk,N):=d.en;let(as,i,p,hD):=d.de;let(bs,a,rfl,J,aR,ha,hv):=Cf p;let(dx,A):=d.bk;show(7,g_d G d (z.l,7,sU (fV.of i),Y,7,?_));rw[zL (λy=>by grind)];show AV (7,g_d G d (sU (Y,_,fV.of i),z.l,_,.r a,Y,Y,i,by simp,?_));let I:z.e≠z.l:=λy=>by ext
   let el:((bs++[a]).7 V.r).dropLast=bs.7 V.r:=by rw[zl];show List.dropLast_concat
   rw[el];let M:∀b o,H b=im o->b≠z.l->(upd H z.l (.l (bs.7 V.r))) b=im o:=λb o e A=>by rwa[AE A]
   let v:(upd H z.l (.l (bs.7 V.r))) z.l=im (.l (bs.7 V.r)):=fH;generalize upd H z.l (.l (bs.7 V.r))=C at M v;let u:=M _ _ hk I;let S:=M _ _ A (λy=>by ext);show(a,7,gB.of (M _ _ ha (λy=>by ext)),Y,_,7,_,7,Y,7,7,?_);let lD:D.9<=100:=by rw[zE]at hD;lia
   let(e,rfl)||(n,c,t,e,rfl,ht):=hv
   ·have he:=e;subst he
    let(y,hy):∃y,g x=im y:=by
     cases e:g x with
     |none=>ext
     |some y=>simp
    let(t0,U,_):=N.vl x y.1 y.2 hy;let j:lh z H (upd C z.e (.d (CO l (sS x)))):=λb o e R h2=>by rw[AE R];ext
    show Aj (_,rfl,(z.b,m,dx,_,_,rfl,S,G.cl,G.nE,TX _ _ _,z.e,rfl,sU (_,sU u),_,rfl,l,sS x,_,u,rfl,U,q _ j (d.to j (_,fH,(N.32 λb xs e=>d.kp j e).drop) (bs,by rw[AE (sX I)];show v,J) lD (d.ok.set io λ_ _ e=>nomatch e))))
   ·subst e;let j:lh z H (upd C z.e (.d (BS l (sS x) (.r t)))):=λb o e R h2=>by rw[AE R];ext
    show AV (7,7,(z.b,m,dx,_,7,S,G.cl,G.nE,TX _ _ _,7,z.e,7,jc.k (k:=sS x) u N.small,q _ j (d.to j (_,fH,(N.32 λb xs e=>d.kp j e).put hx (d.kp j ht)) (bs,by rw[AE (sX I)];show v,J) lD (d.ok.set _ λn c e=>T n c e))))
  ·let(as,i,p,_):=d.de;cases p;show(7,g_d G d (z.l,7,sU (fV.of i),Y,7,Aj (r.rd (fJ.r _) hU)))
theorem lK.of{n}(s:fJ H b)(h:lK H E f n):lK b E f n:=λe d l a i j=>h e d l (s.6 a) (none_of s i) (none_of s j)
inductive spVa(C b d:nq)(vs:nk)(H:Hp)(Q:VK)(E:XK):Prop
 |mk (k p) (n) (f:vs=[.r k,.r p]) (g:gY b H p k n) (h:Q (.r p) H)
 |no (k) (due) (r) (n:Nat) (f:vs=[.r k,.t (n)]) (g:fZ C H k due r) (h:n<2^40) (i:lK H E d ((n-(n&&&kn due):Nat):Int))
theorem eY:AI [nG,nM] [nG,nM] (defScope Fb):=gQ
theorem bY(F:gE d qH qH Fb f T)(B:Bl g)(x:KIsi d b)(y:g "Value"=U (sR b))(N:vq d (sW sv) (sR b)=U O)(e:QT P w d g p cM v)(s:Fn P w d g p rE 3 [nG,nH] (spRestOf C)):AT P w d g p (iD P w) 4 f T [nG,nM] (spVa C b v):=by
 let(_,_,i,M,J):=e.make;show F.lB eY (λvs H Q E h=>?_) (λI A ab al H vs Q E j h=>?_)
 ·let(_,_,_,rfl)||(_,_,_,_,rfl):=h<;>rfl
 ·show(_,AC (AU (Au (Al (AS (MN d rfl) rfl B.iP Fl (gM (Z 1) (BV (v:=.r b) rfl y rfl))))) (AB (FR Hj rfl i.83 (FQ i M j rfl e.83 J tO Ai (gX (gT s j (gM (Z 0) (Z 1))))))) AL) (AB (AJ (Z 1))),?_);let(k,ag,n,rfl,(R,z),q)||(k,a,r,n,rfl,G,t,u):=h
  ·show(7,_,b,_,L,Y,x.ty z,IF d b,7,AV (7,q))
  ·show(_,rfl,_,b,_,O,rfl,.b _,N,_,rfl,Aj (_,rfl,_,rfl,k,a,r,n,rfl,G,λS X=>MQ (σ:=[]) (D:={nx:=λ_ _=>True,rt:=λ_ _=>True}) (te:=tC (.t ((n-(n&&&kn a):Nat)))) i.83 e.st ?_ X u rfl));let o:n-(n&&&kn a)<2^40:=tw (vN _ _) t;generalize n-(n&&&kn a)=m at o;let l||l:=um m
   ·rw[l];decide
   ·show uI ((vU ()).49 o) qc
end
end Mk
namespace L2
open PySem PySem.Spec PyProof.Rows
theorem O4{a}{o}{f}{g}{tt}{s m}{h}{R:LK->Hp->Prop}{u}{j}(d:Nat->LK->Hp->Prop)(l:d 0 [] j)(r:∀i b H,d i b H->H a=U (.b o (.d f)))(w:∀i b H,d i b H->b.9<=1000)
  (v:∀i e b H p,f[i]?=U e->d i b H->H p=J->bT g tt (taD s m) h u (.r p) b (d (i+1)) (upd H p (.t [kV e.1,e.2]))) (t:∀b H,d f.9 b H->R b H):tW (m7 a o f) [] jU (bT g tt (taD s m) h u) R j:=Kr d l r (λi b H q=>J7 (w i b H q)) v t
end L2
namespace Mk
open PySem L2 MK PySem.NumText
mutual
noncomputable def kh(g:En)(s:Str):Nat:=((g s).7 (·.1)).44 0
structure TbG(g:En)(kvs:LK):Prop where
 v:∀s,Bn s=L->An kvs (sS s)=(g s).7 λp=>V.t (p.1:Int)
 ok:VY kvs
structure TbI(g:En)(S:ni)(ys:LK):Prop where
 v:∀s,An ys (sS s)=if s.9=1/\s∈S then (g s).7 λp=>V.t (p.1:Int)else J
 e:∀b∈ys,∃(s:Str)(n:Nat),b=(sS s,(V.t (n)))/\s∈iW/\s.9=1/\n<2^20
 l:ys.9<=S.9
theorem ZN:∀s∈iW,s.9=1->Bn s=L:=by trivial
theorem XZ(h:Bn s=L):s.9=1:=by
 unfold Bn at h;rw[←BB]
 grind
theorem TbI.done(h:TbI g b f)(k:jj b g):TbG g f:=by
 let r:=k.50;let q:=h.l;show(λs p=>?_,by lia,λi l=>?_)
 ·rw[h.v];by_cases a:s∈b
  ·rw[zf (XZ p,a)]
  ·rw[zg (λz=>a z.2),uY λz=>a ((k.mem s).49 z)];rfl
 ·let(d,n,e,o,j,t):=h.e i l;show(d,n,e,ZN d o j,by ext,by lia)
theorem O5:∀{b:LK}{i:Nat}{k}{v},(b.7 (·.1)).26->b[i]?=U (k,(v))->An b k=U v:=by
 intro b;induction b with
 |nil=>intro i k v _ h;simp at h
 |cons p r ih=>
  intro i k v f h;cases i with
  |zero=>cases h;show BI rfl
  |succ i=>let(j,d):=zi.mp f;let a:r[i]?=U (k,(v)):=h;rw[BE (λe=>j (by change p.1∈_;rw[e];show zh.49 (_,zN a,rfl)))];show ih d a
def mkN(r:Str)(due:Aa)(v:Nat):Nat:=if r=pe then v else v-AX due (v:Int)
def O6(r:Str)(due:Aa)(v:Nat):Prop:=AX due (v:Int)≠0/\(r=pZ \/ r=pN)
inductive RcO(b C f d:nq)(z:Za)(due:Aa)(r:Str)(g:En)(D:lI)(x:Str)(T:ni)(H:Hp)(Q:VK)(E:XK):Prop
 |lack (y) (p:y∈T) (j:Bn y=L) (l:g y=J) (q:Uq H E d)
 |go (v) (m:∀y∈T,Bn y=L->g y≠J) (i:∀h,TbG g h->Ev (due,h,kh g) v [] T) (o:v<2^20) (q:(O6 r due v/\lK H E f (AX due (v):Nat))\/(¬ O6 r due v/\O3 b C z due r (jD g x (mkN r due v)) (D++[(x,(g x))]) H Q))
inductive spRc(b C f d bd:nq)(vs:nk)(H:Hp)(Q:VK)(E:XK):Prop
 |mk (z) (due) (r) (g) (D) (x t) (T) (i:vs=[.r z.b,.s x,.s t]) (j:ig b C z due r g D H) (l:x∈iW) (h:D.9<100) (o:kn due<2^20) (m:t.27 (· < 128)=L) (q:t.9<=100) (p:Rn L t T 0 [] [] L) (u:VZ T) (v:Rd H bd (.d Du)) (w:r∈gZ) (s:RcO b C f d z due r g D x T H Q E)
noncomputable abbrev NRc:ni:=[nv,nC,pa,pj]
theorem scRc:AI NRc [nv,nC,pa] (defScope Fe):=gQ
theorem bZ(F:gE f "reckon" "Book.reckon" Fe be fd)(a9:Bl h)(BT:DR f j)(GI:Fn P w f h an qA 1 [nM] spIb)(GA:m9 P w f h an qH 4 [nG,nM] (spVa ar VC cR))(GK:m9 P w f h an "reckoned" 7 [nG,pa,pj] (spRk ar VC cR cN bd))(GG:Mt P w f h an j "give" 2 [nv,nC,oS] (jI j ar VC)):AT P w f h an (iD P w) 8 be fd [nv,nC,pa] (spRc j ar cR cN bd):=by
 refine F.n scRc λvs as a1 bI aM=>?_;obtain⟨z,d,r,g,bF,x,t,bb,rfl,Bb,hx,hD,kl,ta,tl,rn,st,bk,bK,RO⟩:=aM;refine(Y,λff bE bN bC hr=>?_);have nd:=scRc.nd
 refine(_,AC (AU (Au (Al (gT GI hr (gX (Z 1))))) (AB Ad) AL)
  (AC (OT (Sk (i:=3) nd rfl rfl [] [] (by rfl) (by trivial) (by rfl) (by rfl) rfl (J8 (Ac (Z 0) rfl)) (λ_ _ _ _ _ _=>DD (AK Aq (AS BN rfl a9.50 tu (gX (Z 0))) AF (AO _))) (λ_ _ _ _ _ _=>Z 0) (λ_ _ _ _ _ _=>Ak (AZ f rfl) (Z 1) AF)))
  (Dg (AB (Ah (mG (Z 0) BT.cl GG hr (gM (Z 1) (c_r GA hr Dx (gM (Ac (Z 0) rfl) (c_r GK hr Dx (AA (Ac (Z 0) rfl) (gM (Z 2) (Z 3)))))))))))),?_)
 refine(7,.mk x Y hx λM S=>(7,AV ?_));obtain⟨a,C,E'⟩:=Bb.en;obtain⟨H,km,s⟩:=E'.ks;obtain⟨dx,hb⟩:=Bb.bk;have aR:=S _ _ C
 have bB:(a.7 (·.1)).26:=by
  rw[km];exact pairwise_map.49 (s.nd.imp λaM e=>aM (vF e))
 refine(z.e,a,aR,λo u e=>(by have N:as z.e=U (.b o u):=e;rw[C]at N;cases N),λo=>?_);have ag:∀{b:nq}{u:HO},M b=U u->b≠z.e->(upd M z.e (.b o (.d a))) b=U u:=λe hb=>by rwa[AE hb]
 have I:(upd M z.e (.b o (.d a))) z.e=U (.b o (.d a)):=fH
 have a4:∀{b:nq},(upd M z.e (.b o (.d a))) b=J->M b=J:=λ{b}e=>by
  by_cases y:b=z.e
  ·simp_all
  ·rwa[AE y]at e
 have bn:upd (upd M z.e (.b o (.d a))) z.e (.d a)=M:=by
  funext b;by_cases y:b=z.e
  ·rw[y,fH,aR]
  ·rw[AE y,AE y]
 generalize e0:upd M z.e (.b o (.d a))=Hf at ag I a4 bn;refine(7,(z.b,j,dx,_,7,ag (S _ _ hb) (λy=>by simp_all),BT.cl,BT.nE,TX _ _ _,z.e,o,a,Y,I,O4 (λi l m=>fJ Hf m/\TbI g (H.12 i) l) (fJ.r _,λbC=>by rw[N2,zg (λy=>by simp_all)],λkv C=>(by cases C),zp _) (λi l m K=>by let(R,_):=K;show R _ _ I) (λi l m W=>by let(_,t):=W;have A:=t.l;have h2:=s.50;rw[zr]at A;lia) ?_ ?_))
 ·rintro i ⟨bx,val⟩ l m p a5 ⟨R,TI⟩ D;have gc:(H.7 sS)[i]?=U bx:=by rw[←km,zx,a5];rfl
  rw[zx]at gc;obtain⟨G,al,rfl⟩:=z6.mp gc;have aC:=zN al;obtain⟨⟨n,c⟩,hg⟩:∃y,g G=U y:=uL.mp ((s.mem G).mp aC);obtain⟨t',E,a8⟩:=E'.vl G n c hg;rw[O5 bB a5]at E;cases E;have s3:=AD R D (o:=HO.t [V.s G,V.r t']);have bL:=Nf G (s.w G aC);have ab:H.12 (i+1)=H.12 i++[G]:=by rw[zw,al];rfl
  refine(p,7,gB.of fH,Y,_,7,_,7,Y,7,G,Y,sZ (AR (by lia)),Y,7,BF (λA=>?_) (λA=>?_))
  ·have ll:G.9=1:=by have:=V.t.inj (zS A);lia
   have bm:(upd m p (.t [V.s G,V.r t'])) t'=U (.t [.t (n:Int),.t (c:Int)]):=by
    refine s3 _ _ (ag (S _ _ a8) λy=>?_);have N:as z.e=U (.t [.t (n:Int),.t (c:Int)]):=y ▸ a8;rw[C]at N;cases N
   refine(7,7,t',_,0,7,Y,gB.of bm,Y,sS G,Y,s3,λy=>?_,λkv a3=>?_,?_)
   ·rw[HZ,ab];by_cases e:y=G
    ·simp_all
    ·rw[TI.v]
     simp_all
   ·have gt:An l (sS G)=J:=by
     rw[TI.v,zg];rintro⟨_,hm⟩;obtain⟨bu,hj,e⟩:=List.mem_take_iff_getElem.mp hm;exact(vk.mp s.nd bu i _ ((z8.mp al).1) (by lia)) (e.6 ((z8.mp al).2).31)
    rw[Dd _ gt]at a3;rcases mem_append.mp a3 with y|y
    ·exact TI.e kv y
    ·exact(G,n,zz.mp y,s.w G aC,ll,(Bb.ok G n c hg).1)
   ·have A:=TI.l;have h2:=B3 l (sS G) (V.t (n:Int));rw[ab,zE];refine show _<=(H.12 i).9+1 from ?_
    lia
  ·refine(s3,λy=>?_,TI.e,?_)
   ·rw[TI.v,ab]
    grind
   ·have A:=TI.l;rw[ab,zE]
    lia
 ·rintro l m ⟨R,TI⟩ p D;have bl:a.9=H.9:=by have:=congrArg vO km;rwa[AN,AN]at this
  rw[bl,zt]at TI;have TG:=TI.done s;have ne:p≠z.e:=λy=>by rw[y,R _ _ I]at D;cases D
  refine(by rw[AE (sX ne)];exact R _ _ I,?_)
  have s3:fJ M (upd (upd m p (.d l)) z.e (.d a)):=λb u e=>by
   by_cases y:b=z.e
   ·rw[y,fH,←aR,←y,e]
   ·rw[AE y];exact AD R D _ _ (ag e y)
  have a6:(upd (upd m p (.d l)) z.e (.d a)) p=U (.d l):=by rw[AE ne,fH]
  have gg:=a4 (none_of R D);generalize upd (upd m p (.d l)) z.e (.d a)=H3 at s3 a6;refine(p,l,a6,λQ=>?_);have T:fJ as (upd H3 p (.b Q (.d l))):=λb u e=>by rw[AE (AH (S _ _ e) gg)];exact s3 _ _ (S _ _ e)
  have a7:(upd H3 p (.b Q (.d l))) p=U (.b Q (.d l)):=fH;generalize upd H3 p (.b Q (.d l))=H4 at T a7;have B4:=Bb.15 T;refine(7,B4.no (7,7,lr BT B4 (7,lr BT B4 (7,7,?_))))
  have bs:∀y,Bn y=iY->g y≠J->An l (sS y)≠J:=λy B hn=>by
   rw[TG.v y B];exact λe=>hn (by cases hg:g y with|none=>rfl|some w=>rw[hg]at e;cases e)
  refine .mk z.k p Q t bb (d,l,kh g) r rfl B4.ka ta tl rn st (fJ.rd T bk) a7 TG.ok ?_;cases RO with
  |lack y hy B hn q=>exact .lack y hy B (by refine show An l _=J from ?_;rw[TG.v y B,hn];rfl) (q.of T)
  |go v hs ev E q=>
   refine .go v (λy hy B=>bs y B (hs y hy B)) (ev l TG) λH5 s5=>?_;have B5:=B4.15 s5;have a0:=T.6 s5;have pl:plain (v:Int)=v:=by unfold plain;rw[zf (zX v),vD]
   have br:(v:Int)<1099511627776:=by have:(2:Nat)^20=1048576:=by decide
                                     lia
   refine(z.k,d,r,(v:Int),Y,B5.ka,kl,zX _,br,?_);have a2:AX d (v:Int)=v-(v&&&kn d):=by unfold AX;rw[pl]
   rcases q with⟨⟨hb1,hb2⟩,hU⟩|⟨hnb,hdone⟩
   ·rcases hb2 with rfl|rfl
    ·exact sU (hb1,Y,hU.of a0)
    ·exact sY (sU (λq=>absurd q.2 (by trivial),hb1,Y,λH6 X=>.no z.k d pN v Y (B5.ka.15 X) (uI E qc) (by rw[←a2];exact hU.of (a0.6 X))))
   ·refine sY (sY (λq=>hnb (q.1,sU q.2),λq=>hnb (q.1,sY q.2),λp' H6 X hV=>?_));rw[pl]at hV;have em:(if r=pe then v else v-AX d (v:Int))=mkN r d v:=rfl;rw[em]at hV;refine .mk z.k p' _ Y hV (K6 (Q:=λ_ H'=>a1 .g H') (B5.15 X) hV hx hD ?_ λH7 ef=>hdone H7 λb o e=>ef b o (X _ _ (a0 _ _ e)));unfold mkN;by_cases az:r=pe
    ·rw[zf az];exact(E,sU az)
    ·rw[zg az,a2];refine(tw (vN _ _) E,sY ?_);have A:v-(v-(v&&&kn d))=v&&&kn d:=by have:=uM (n:=v) (m:=kn d);lia
     exact jy.iff.mpr λk C=>by grind
end
end Mk
namespace L2
open PySem
theorem Vi{a}{o}{f}{g:TG}{w:TS}{D:Jt}{b}(d:Nat->St->Hp->Prop)(z:d 0 b H)(y:∀i b H,d i b H->H a=U (.b o (.d f)))
  (C:∀i r b H,f[i]?=U r->d i b H->g (kV r.1) b H λh t=>w {D with nx:=d (i+1),ct:=d (i+1),bk:=D.nx} h t) (A:∀b H,d f.9 b H->D.nx b H):
  ∃W:Nat->Nat->St->Hp->Prop,(∃m,W 0 m b H)/\∀i m b H,W i m b H ->
   ((m6 a o f).stop i H/\D.nx b H)\/((m6 a o f).go i H/\∃N,(∀j s,N j s->∃v,v<m/\W (i+1) v j s)/\∀x s,(m6 a o f).j7 i H x s->g x b s λh t=>w {D with nx:=N,ct:=N,bk:=D.nx} h t):=by
 show(λi m b H=>C₃ (m=f.9-i) (i<=f.9) (d i b H),(7,tH _,z),?_);rintro i m b H ⟨rfl,B,p⟩;by_cases l:i<f.9
 ·show sY ((y i b H p,l),d (i+1),λj s q=>(f.9-(i+1),by lia,Y,l,q),?_);rintro x s ⟨rfl,r,u,rfl⟩;show C i r b _ u p
 ·have e:i=f.9:=by lia
  subst e;show sU ((y _ b H p,zp _),A b H p)
end L2
namespace Mk
open PySem L2 MK PySem.NumText
mutual
theorem Vj:Bc (iD P w) X E0:=λ_ _ _ _ _ _ _ z=>by let(_,_,_,_,_,_,q):=z;show q.40
theorem Vk(h:PE X o to)(c:jz X.K C)(G:DS X.p X.w X.K X.m X.b C m k q p)(j:gD d X.A)(i:Bc (iD X.p X.w) X E)(e:k<=d:=by decide)
  (ht:eval (uJ (tR o m l) [] [] g) X.e=(do
   let a ←eval o X.e
   standAt l.atName
   let (f,first) ←holding [a] (getMethod a m pl)
   callWith g f first (backTo g (starEach [] X.e)) (backToKw g (keywordEach [] X.e))):=by rfl):PE X (uJ (tR o m l) [] [] g) (Le C m p [] E to Cz):=
 let(_,_,F,m,b):=G.ex
 Br h c m F (j.63 e) b tO i ht
def rk(x:Str):Nat:=iW.findIdx (· == x)
theorem ba:∀x∈iW,∀y∈iW,PySem.Spec.ltCps x.4 y.4=decide (rk x<rk y):=by trivial
theorem Vl:∀x∈iW,∀y∈iW,rk x=rk y->x=y:=by trivial
theorem K7:∀{l m:List Nat},l.69 (· < ·)->m.69 (· < ·)->(∀x,x∈l ↔ x∈m)->l=m
 | [],[],_,_,_=>rfl
 | [],b::m,_,_,h=>nomatch (h b).49 (_)
 |a::l,[],_,_,h=>nomatch (h a).mp (_)
 |a::l,b::m,f,g,h=>by
  let(o,e):=pairwise_cons.mp f;let(p,i):=pairwise_cons.mp g
  let d:a=b:=by
   let z||z:=mem_cons.mp ((h a).mp (by simp))
   ·show z
   ·let y||y:=mem_cons.mp ((h b).49 (by simp))
    ·ext
    grind
  subst d;congr 1;show K7 e i λx=>(λj=>?_,λj=>?_)
  ·grind
  grind
theorem MV:∀b p,(∀x∈p::b,x∈iW)->PyProof.Rows.risingS p b=L->((p::b).7 rk).69 (· <= ·)
 | [],p,_,_=>List.pairwise_singleton ..
 |c::g,p,f,h=>by
  change (!PySem.Spec.ltCps c.4 p.4&&PyProof.Rows.risingS c g)=L at h;rw[ba c (f c (_)) p (f p (_)),tA,ve,decide_eq_false_iff_not]at h;let a:=MV g c (λx d=>f x (_)) h.2;show pairwise_cons.49 (λx d=>?_,a);let rfl||z:=mem_cons.mp d
  ·ext
  ·have:=(pairwise_cons.mp a).1 x z
   lia
theorem jj.uniq(h:jj f g)(k:jj E g)(G:uC f=L)(t:uC E=L):f=E:=by
 let st:∀{l:ni},jj l g->uC l=L->(l.7 rk).69 (· < ·):=λ{l}h s=>by
  cases l with
  |nil=>show List.Pairwise.nil
  |cons p r=>
   let d:=MV r p h.w s;let i:((p::r).7 rk).69 (· ≠ ·):=pairwise_map.49 (List.Pairwise.imp_of_mem (λD C o e=>o (Vl _ (h.w _ D) _ (h.w _ C) e)) h.nd);show(d.and i).imp λz=>Nat.lt_of_le_of_ne z.1 z.2
 let q:∀{l m:ni},jj l g->jj m g->∀x,x∈l.7 rk->x∈m.7 rk:=λ{l m}h k x j=>by
  let(y,B,rfl):=zh.mp j;show zh.49 (y,(k.mem y).49 ((h.mem y).mp B),Y)
 let e:=K7 (st h G) (st k t) λx=>(q h k x,q k h x)
 let inj:∀{l m:ni},(∀x∈l,x∈iW)->(∀x∈m,x∈iW)->l.7 rk=m.7 rk->l=m:=by
  intro l;induction l with
  |nil=>ext
  |cons a l v=>
   intro m d i e;cases m with
   |nil=>cases e
   |cons b m=>
    injection e with A u
    rw[Vl a (d a (_)) b (i b (_)) A,v (λx j=>d x (_)) (λx j=>i x (_)) u]
 show inj h.w k.w e
inductive spBi(f C:nq)(vs:nk)(H:Hp)(Q:VK)(g:XK):Prop
 |mk (p dx k) (due) (r) (j:vs=[.r p,.r k]) (m:H p=U (.i f dx [])) (q:fZ C H k due r) (i:∀d l h,(∀b o,H b=U o->b≠p->h b=U o)->H d=J->H l=J->ig f C ⟨p,k,d,l⟩ due r (λ_=>J) [] h->Q .g h)
theorem eZ:AI [nv,nG] [nv,nG] (defScope I0):=gQ
theorem bc(F:gE m nV "Book.__init__" I0 f q)(u:DR m g):AT az a0 m mg aM gG 1 f q [nv,nG] (spBi g an):=by
 show F.m eZ λvs H aC ar h=>?_;let(p,i,k,due,ag,rfl,hp,KA,ab):=h;show(zd,λff al as aR hr=>?_);show(_,AC (B0 (Z 0) (Z 1) zd) (AC (B0 (Z 0) B8 zd) (AB (B0 (Z 0) (BA AG) zd))),(7,7,p,g,i,[],zd,hp,u.cl,u.nK,(_),?_));intro d R;let X:=fH (H:=H) (a:=p) (o:=HO.i g i (BD oh (.r k) []));let o1:∀b o,H b=U o->b≠p->upd H p (HO.i g i (BD oh (.r k) [])) b=U o:=λb o e t=>by rwa[AE t]
 let N:∀b,upd H p (HO.i g i (BD oh (.r k) [])) b=io->H b=io:=λb e=>by
  by_cases y:b=p
  ·ext
  ·rwa[AE y]at e
 generalize upd H p (HO.i g i (BD oh (.r k) []))=E at X o1 N R ⊢;let B:=AD (fJ.r _) R (o:=HO.d []);let Q:(upd E d (.d [])) d=U (.d []):=fH;generalize upd E d (.d [])=r at B Q ⊢;show(7,p,g,i,7,B _ _ X,u.cl,u.nE,tw (Az _ _ _) (_),(_),λl I=>?_);let v:d≠p:=λy=>by ext
 let A:=fH (H:=r) (a:=p) (o:=HO.i g i (BD o3 (.r d) (BD oh (.r k) [])));let C:∀b o,r b=U o->b≠p->upd r p (HO.i g i (BD o3 (.r d) (BD oh (.r k) []))) b=U o:=λb o e t=>by rwa[AE t]
 let P:∀b,upd r p (HO.i g i (BD o3 (.r d) (BD oh (.r k) []))) b=io->r b=io:=λb e=>by
  by_cases y:b=p
  ·ext
  ·rwa[AE y]at e
 generalize upd r p (HO.i g i (BD o3 (.r d) (BD oh (.r k) [])))=M at A C P I ⊢;let G:=AD (fJ.r _) I (o:=HO.l []);let l4:(upd M l (.l [])) l=U (.l []):=fH;generalize upd M l (.l [])=s at G l4 ⊢;show(7,p,g,i,7,G _ _ A,u.cl,u.nD,tw (Az _ _ _) (Nat.succ_lt_succ (tw (Az _ _ _) (_))),?_);let j:∀b o,H b=U o->b≠p->upd s p (HO.i g i (Fw (.r k) d l)) b=U o:=λb o e t=>by rw[AE t];show G _ _ (C b o (B _ _ (o1 b o e t)) t)
 show ab d l _ j (N d R) (N l (none_of B (P l I))) ((i,fH),?_,([],by change(upd s p (HO.i g i (Fw (.r k) d l))) d=_;rw[AE v];show G _ _ (C _ _ Q v),([],rfl,nodup_nil,λx hx=>(by cases hx),λx=>(λz=>(by cases z),λz=>absurd rfl z)),λx n c e=>nomatch e),([],by change(upd s p (HO.i g i (Fw (.r k) d l))) l=_;rw[AE (sX (AH A I))];show l4,tO,tH _),λx n c e=>nomatch e);let(T,e1,S,Y,J,a,b,c):=KA.ex;let w:∀{b:nq}{o:HO},H b=U o->(∀D x,o≠ .i D x [])->b≠p:=λe n y=>by grind
 show⟨(T,e1,S,Y,J,j _ _ a (w a λD x z=>?_),j _ _ b (w b λ_ _ z=>nomatch z),j _ _ c (w c λ_ _ z=>nomatch z))⟩;have:=IB e1 Y ag;rw[HO.i.inj z|>.2.2]at this;cases this
inductive iC(H:Hp)(t:nq)(g:En):Prop
 |mk (kvs) (b:H t=U (.d kvs)) (d:i6 H kvs g)
inductive spLgv(vs:nk)(H:Hp)(Q:VK)(b:XK):Prop
 |mk (t) (g) (x) (n:Nat) (h:vs=[.r t,.s x,.t (n)]) (i:iC H t g) (j:x∈iW) (f:∀q d,fJ H d->H q=J->iC d q (jD g x n)->Q (.r q) d)
noncomputable abbrev ee:ni:=[nZ,og,nI,pP,oM]
theorem scLgv:AI ee [nZ,og,nI] (defScope Kn):=gQ
theorem ZO(F:gE i rl rl Kn f s)(B:Bl j)(X:j oK=J):AT an a0 i j az gG 1 f s [nZ,og,nI] spLgv:=by
 show F.m scLgv λvs H ar ag h=>?_;let(t,g,x,n,rfl,(d,ht,D),Z,q):=h;show(Y,λff ab al aR P=>?_);let C:=BY P;let S:=scLgv.nd
 show(_,AC (PU (i:=3) (j:=4) Y S Y Y qc Y Y (gM (A0 Gv Y X E3 (gX (pv 0))) AF) (by rfl))
  (Aw (AU (CW (Gk C (pv 1) (pv 0))) (AB (A4 4 S (AW Cm (Ak (AZ i rfl) (Am C (pv 0) (pv 1)) AF) (A0 IW rfl B.int JI (gX (CH Dc (Ak (AZ i rfl) (Am C (pv 0) (pv 1)) AF) (pv 2) (AO _))))))) AL)
  (AC (Cn C (pv 3) (pv 1) (Af (gM (pv 2) (pv 4))) rfl)
  (AB (AJ (pv 3))))),?_)
 show(7,t,d,Y,sU ht,λp w=>?_);let r:=AD (fJ.r H) w (o:=HO.d d);let l:(upd H p (.d d)) p=im (.d d):=fH;generalize upd H p (.d d)=E at r l;show(_,7,(λT A=>A=E/\∃c:Nat,T=[im (.r t),im (.s x),im (.t n),im (.r p),im (.t c)]/\E5 g x (im (n,(c)))=jD g x n,λas M=>?_,?_))
 ·show(_,rfl,_,rfl,t,_,rfl,sU (_,sS x,sU (r _ _ ht),rfl,rfl),_,rfl,?_);cases e:g x with
  |none=>
   rw[D.no e];show AV (M _ _ (Y,0,Y,?_));unfold jD;rw[e]
  |some y=>
   let(m,c):=y;let(O,G,U):=D.vl x m c e;rw[G];let z:=r _ _ U;show Aj (7,7,t,7,sU (_,sS x,sU (r _ _ ht),Y,G.31),O,_,1,7,Y,gB.of z,Y,7,7,t,7,sU (_,sS x,sU (r _ _ ht),Y,G.31),O,_,0,7,Y,gB.of z,Y,7,Y,sY (7,_,7,Y,M _ _ (Y,if n=m then c else c+1,?_,by unfold jD;rw[e])));by_cases N:n=m
   ·subst N;simp;rfl
   ·have:¬ m=(n:Int):=by lia
    rw[zg N];simp[this];rfl
 rintro T I ⟨rfl,c,rfl,Q⟩;show(7,7,i1,λb R=>?_);let u:=AD (fJ.r I) R (o:=HO.t [V.t n,V.t c]);let v:(upd I b (.t [V.t n,V.t c])) b=im (.t [.t n,.t c]):=fH;generalize upd I b (.t [V.t n,V.t c])=H3 at u v;show(7,7,p,7,jc.k (k:=sS x) (u _ _ l) D.small,7,q p _ (λa o e=>?_) w (_,fH,?_))
 ·rw[AE (AH e w)];show u _ _ (r _ _ e)
 ·rw[←Q];show((D.32 λa xs e=>u _ _ (r _ _ e)).put Z v).32 λa xs e=>?_;rw[AE (λy=>by rw[y,u _ _ l]at e;cases e)];show e
inductive spLwo(vs:nk)(H:Hp)(Q:VK)(f:XK):Prop
 |mk (d) (a b) (h:vs=[.r d]) (i:H d=U (.l [.t a,.t b])) (j:∀x g,gC d H g->x∈iW->Q (.s x) g)
theorem bf:AI [ny] [ny] (defScope HI):=gQ
theorem ZP(F:gE g qZ qZ HI f R)(M:Fn P w g S m oN 2 [ny,oM] iH):AT P w g S m gG 3 f R [ny] spLwo:=by
 show F.m bf λvs H Q E h=>?_;let(d,a,b,rfl,J,q):=h;show(Y,λI A p s z=>?_);show(_,AB (AJ (Ak (Ao g Y) (iR.h (aD (OR (OR (OR (OR (OR Jb))))))) (gT M z (gM (Z 0) AF)))),((_),λl r=>(7,d,a,b,5,Y,AD (fJ.r H) r _ _ J,qc,qc,λi v T B X=>?_)));let(j,rfl):=vz B;let t:j<5:=by lia
 let(x,C,G):∃x,([("a":Str),"b","x","ab","cdefghij"].7 V.s)[j]?=U (.s x)/\x∈iW:=by
  have:∀j,j<5->∃x,([("a":Str),"b","x","ab","cdefghij"])[j]?=U x/\x∈iW:=by
   intro j t;let rfl||rfl||rfl||rfl||rfl:=(show j=0\/j=1\/j=2\/j=3\/j=4 by lia)
   ·trivial
   ·trivial
   ·trivial
   ·trivial
   ·trivial
  let(x,N,u):=this j t;show(x,by grind,u)
 show(l,_,_,7,Y,fV.of (by rw[AE (λy=>by ext)];show fH),Bp C,q x _ (λc o e D=>?_,v,T,fH) G);rw[AE D];show AD (fJ.r H) r _ _ e
inductive spLn'(vs:nk)(H:Hp)(Q:VK)(f:XK):Prop
 |mk (d u) (m:Nat) (a b) (bs) (due) (j:vs=[.r d,.r u,.t (m)]) (o:H d=U (.l [.t a,.t b])) (p:H u=U (.l (bs.7 V.r))) (i:fQ H bs (C9 due)) (s:0<due.9) (r:Bi due) (w:m<=20) (y:u≠d) (v:∀q l h g,gC d H g->H l=J->g q=U (.t [.r l,.t (AY (h.7 (look due)):Nat)])->g l=U (.l (h.7 V.s))->lX due h->Q (.r q) g)
noncomputable abbrev eh:ni:=[ny,n8,oG,oU,nI,"_law_turn",og,rb]
theorem scLnm:AI eh [ny,n8,oG] (defScope JH):=gQ
theorem ZQ(F:gE b qR qR JH ar fd)(B:Bl g)(f:Fn ag aR b g an oN 2 [ny,oM] iH):AT ag aR b g an gG 3 ar fd [ny,n8,oG] spLn':=by
 show F.m scLnm λvs H a2 a1 as=>?_;let(d,u,aM,a,al,bs,r,rfl,hd,hu,I,h0,U,hm,J,q):=as;show(Y,λff a0 a3 a4 hr=>?_);let G:=scLnm.nd
 show(_,AC (PU (i:=3) (j:=4) Y G Y Y qc Y Y (gM (BA AG) AF) (by rfl))
  (AC (Bt tK rfl (Cy rfl B.range (gX (gT f hr (gM (Z 0) (AW Cm (Z 2) AF))))) (A7 5 G)
   (AC (Bf (Ak (Ao b rfl) (Z 1) (gT f hr (gM (Z 0) (AS (A8 b rfl) rfl B.50 tu (gX (Z 1)))))) (BG rfl (AQ (A7 6 G) (AQ (A7 7 G) Av))))
   (AC (Ah (Bj (Z 3) (gX (Z 6))))
   (AB (A4 4 G (AW GD (Z 4) (Z 7)))))))
  (AB (AJ (Af (gM (Z 3) (Z 4)))))),?_)
 let lq:bs.9=r.9:=by have:=I.9;unfold C9 at this;rwa[AN]at this
 show((_),λl T=>(_,7,?_));let w:=AD (fJ.r H) T (o:=HO.l []);let l1:(upd H l (.l [])) l=im (.l []):=fH;let C:l≠d:=λab=>by ext
 generalize upd H l (.l [])=H1 at w l1;show(7,7,_,7,Y,d,a,al,7,w _ _ hd,by ext,by lia,λi a' b' az hi=>?_);let(n,rfl):=vz az;show(n,Y,by lia,by lia,IU (λi s P=>E₄ λ(t:ni)(y A E:Option V)=>C₅ (s=[im (.r d),im (.r u),im (.t aM),im (.r l),im (.t (AY (t.7 (look r)))),y,A,E]) (t.9=i) (gC d H P) (P l=im (.l (t.7 V.s))) (∀x∈t,x∈r.7 (·.1))) ?_ ?_ ?_)
 ·show([],io,io,io,Y,Y,(λc o e X=>?_,a',b',fH),?_,λx hx=>by cases hx)
  ·rw[AE X];show w _ _ e
  ·rwa[AE C]
 ·rintro i s D hi ⟨t,y,A,E,rfl,hn,N,M,Q⟩;let(x2,y2,hd2):=N.g6;let aC:=N.88 _ _ hu J;show(7,7,7,u,7,sU (fV.of aC),d,x2,y2,7,hd2,by ext,by have:=U.50;rw[AN];lia,λj R h j0 jl=>?_);let(j,rfl):=vz j0;rw[AN]at jl;let hj:j<bs.9:=by lia
  let v:gC d H (upd D d (.l [.t R,.t h])):=N.upd;let S:(upd D d (.l [.t R,.t h])) l=im (.l (t.7 V.s)):=by rwa[AE C]
  let u3:(upd D d (.l [.t R,.t h])) u=im (.l (bs.7 V.r)):=by rwa[AE J]
  generalize upd D d (.l [.t R,.t h])=H3 at v S u3;let(pr,z,hb):=CB I (z7 hj);unfold C9 at z;rw[zx]at z;let(p,m,rfl):=z6.mp z;show(u,_,_,7,Y,fV.of u3,Bp (_),_,7,gB.of (v.88 _ _ hb (λab=>by ext)),Y,_,7,_,7,Y,(7,sU (Y,_,fV.of S),7,l,_,7,Y,S,AR (_),7,7,_,7,Y,t++[p.1],im (.t (0+i)),im (.s p.1),im (.t p.2),?_,by ext,(λc o e X=>?_,?_),by rw[fH,zl];rfl,λx hx=>?_))
  ·rw[zl];have:=Cs U.nd (zN m)
   let e:AY (t.7 (look r)++[p].7 (λq=>look r q.1))=AY (t.7 (look r))|||p.2:=by
    rw[List.map_singleton,this];unfold AY;rw[List.foldl_append];rfl
   let e2:uh ((AY (t.7 (look r)):Nat)) p.2=((AY (t.7 (look r)++[p.1].7 (look r)):Nat)):=by
    rw[CZ];show congrArg _ e.31
   rw[←e2];rfl
  ·rw[AE (λab=>by ext)];show v.88 c o e X
  ·let(x4,y4,h4):=v.g6;show(x4,y4,by rw[AE (sX C)];show h4)
  grind
 ·rintro s D ⟨t,y,A,E,rfl,hn,N,M,Q⟩;show(7,7,i1,λp m=>?_);let sp:=AD (fJ.r D) m (o:=HO.t [V.r l,V.t (AY (t.7 (look r)))]);show q p l t _ (N.step sp) T fH (sp _ _ M) (by lia,Q,U.lt)
theorem ig.but(s:∀b o,H b=U o->b≠t->f b=U o)(ht:H t=U (.d w))(i:t≠z.e)(h:ig m C z due r g D H):ig m C z due r g D f:=by
 let kp:∀{b:nq}{o:HO},H b=U o->(∀d,o≠ .d d)->f b=U o:=λ{b o}e n=>s b o e λy=>by grind
 let p:∀b l,H b=U (.t l)->f b=U (.t l):=λb l e=>kp e λ_ z=>nomatch z;let((G,u),v,(d,B,L),(M,E,N,x),I):=h;let(j,A,O,F,J,a,b,c):=v.ex;show((G,kp u (λ_ z=>nomatch z)),⟨(j,A,O,F,J,kp a (λ_ z=>nomatch z),kp b (λ_ z=>nomatch z),kp c (λ_ z=>nomatch z))⟩,(d,s _ _ B (sX i),L.32 p),(M,kp E (λ_ z=>nomatch z),Paired.imp' (λ_ _ q=>q.32 p) N,x),I)
inductive spBl(b C:nq)(vs:nk)(H:Hp)(Q:VK)(d:XK):Prop
 |mk (z) (due) (r) (g) (D) (t) (i:vs=[.r z.b,.r t]) (j:ig b C z due r g D H) (l:iC H t g) (h:t≠z.e) (m:∀f,fJ H f->Q (.l L) f)
noncomputable abbrev NBl:ni:=[nz,nZ,og]
theorem scBl:AI NBl [nz,nZ] (defScope Et):=gQ
theorem bg(F:gE f qF qF Et a1 fd)(B:Bl m)(BT:DR f h)(VT:IH f q)(an:Mt P w f m p h oz 1 [nv] (spNs h C))(al:Mt P w f m p h si 1 [nv] (spLn h C))(az:DS P w f m p h oS 6 [nv,nC] (spVl h C q cB))(aM:DS P w f m p h "changes" 4 [nv,nC] (spCh h C))(ar:Mt P w f m p q nH 1 [nv] (hX q)):AT P w f m p gG 7 a1 fd [nz,nZ] (spBl h C):=by
 let(fL,dL,GL,mL,bL):=al.ex;show F.m scBl λvs H a9 a8 a2=>?_;let(z,I,r,g,D,t,rfl,S,(a,ht,E'),aC,a5):=a2;show(Y,λff a7 bd bk s=>?_);let hu:=BY s
 show(_,AC (AU (PW.pt (Cw (AK (Gn f Y s.42) (CK (Z 0) BT.cl an s) (AS (DF Y) Y B.sorted C7 (gX (Z 1))) (AO _)) (By (AK Dc (AS (OC GL (s.63 qc) bL mL) Y B.50 tu (gX (Z 0))) (AS Ih Y B.50 tu (gX (Z 1))) (AO _))))) (AB Ad) AL)
  (AC (OT (Bt tK rfl (Q9 (Z 1)) (A7 2 scBl.nd) (AB (AU (PW.pt (Cw (AK Dc (CK (DV (Z 0) BT.cl az s Vj (gX (Z 2))) VT.cl ar s) (Ak (AZ f rfl) (Am hu (Z 1) (Z 2)) AF) (AO _)) (By (AK Dc (DV (Z 0) BT.cl aM s Vj (gX (Z 2))) (Ak (AZ f rfl) (Am hu (Z 1) (Z 2)) AF) (AO _))))) (AB Ad) AL))))
  (AB (AJ DI))),?_)
 let(ms,km,kE):=E'.ks;let bb:=kE.50;let(dx,hb):=S.bk;show(7,S.no (z,I,r,g,D,Y,S,λl1 N Q s1 h1 k1 a6=>(7,t,a,ms,Y,sU (s1 _ _ ht),km,by lia,λl2 n2 M hp aR=>?_)));let a0:=k1.uniq (kE.perm hp) a6 aR;subst a0;let l:=AD s1 M (o:=HO.l (N.7 V.s));let as:=λx hx=>(Nf x (k1.w x hx)).1;let ag:=AD (fJ.r Q) M (o:=HO.l (N.7 V.s)) _ _ h1;let ab:(upd Q l2 (HO.l (N.7 V.s))) l2=U (.l (N.7 V.s)):=fH;generalize upd Q l2 (HO.l (N.7 V.s))=A at l ag ab;show(_,_,CS ag (ER _),CS ab (ER _),DP as,DP as,7,?_);rw[Gc];let(ms',kE',eL):=E'.50;show AV (7,z.b,dx,7,l _ _ hb,z,I,r,g,D,Y,S.15 l,λm3 k3=>(m3.9,Y,tw k3.50 qc,(7,t,a,Y,l _ _ ht,Y,7,?_)));rw[zI (by rw[eL,k3.eqlen kE'])];show AV (t,a,l _ _ ht,λo u e=>(by let e':H t=U (.b o u):=e;rw[ht]at e';cases e'),λo=>?_);let T:∀b u,A b=U u->b≠t->(upd A t (.b o (.d a))) b=U u:=λb u e y=>by rwa[AE y]
 let t3:(upd A t (.b o (.d a))) t=U (.b o (.d a)):=fH
 let uu:∀j,fJ (upd A t (.b o (.d a))) j->fJ H (upd j t (.d a)):=λj d b u e=>by
  by_cases y:b=t
  ·rw[y,fH,←ht,←y,e]
  ·rw[AE y];show d _ _ (T _ _ (l _ _ e) y)
 generalize upd A t (.b o (.d a))=H3 at T t3 uu;show(7,t,o,a,Y,t3,Vi (λi E j=>∃v,E=[U (.r z.b),U (.r t),v]/\fJ H3 j) (io,Y,fJ.r _) (λi E j k=>by let(_,_,d):=k;show d _ _ t3) ?_ ?_)
 ·rintro i ⟨a4,val⟩ E j a3 ⟨v,rfl,d⟩;let R:(ms.7 sS)[i]?=U a4:=by rw[←km,zx,a3];rfl
  rw[zx]at R;let(x,hx,rfl):=z6.mp R;let((n,c),hg):∃y,g x=U y:=uL.mp ((kE.mem x).mp (_));let(t',hv,ht'):=E'.vl x n c hg;let B4:=((S.15 l).but T (l _ _ ht) aC).15 d;let tp:∀{X:Hp},fJ j X->X t'=U (.t [.t n,.t c]):=λG=>G _ _ (d _ _ (T _ _ (l _ _ ht') λy=>by ext));show(7,B4.no (7,.mk z I r g D x n c Y B4 hg λbe X G hV=>Ge hV (7,7,t,7,sU (_,sS x,sY (o,G _ _ (d _ _ t3)),Y,hv.31),t',_,0,7,Y,gB.of (tp G),Y,Y,7,?_)));rw[zI (rfl)];show AV (7,(B4.15 G).no (7,.mk z I r g D x n c Y (B4.15 G) hg (7,7,t,7,sU (_,sS x,sY (o,G _ _ (d _ _ t3)),Y,hv.31),t',_,1,7,Y,gB.of (tp G),Y,Y,7,?_)));rw[zI (rfl)];show AV (7,d.6 G)
 ·rintro E j ⟨v,rfl,d⟩;show(d _ _ t3,a5 _ (uu j d))
structure jM(K:FG)(x qual:Str)(st:Stmt)(f:nq)(fd:FuncData)(c:nq):Prop where
 ex:∃(oc:Value)(od:Option nq)(kV doc pm:Value)(an:Option nq)(ct:Value)(lA:Array (Option Value)),
  fd=W.fnOf x qual (defArgs st) (defBody st) (defScope st) tj kV doc pm an (sR c) ct/\K.5 f=U (oc,od,.func fd,lA)/\W.codeIn K (sR c) qual=L
theorem jM.ok{x qual}{N g}{k}(F:jM z x qual st f D c)(S:AI N g (defScope st))(len:∀vs H Q E,m vs H Q E->vs.9=g.9)
  (a:∀A b s H vs Q E,gD k (A.55 (PyProof.Rows.envOfC qual (defScope st) s.8 f (sR c)))->m vs H Q E ->
   ∃t,iZ (CN gG P w z G C N qual (defScope st) f (sR c) A b s H E).kr (defBody st) t/\t {nx:=λ_ B=>Q .g B,rt:=Q} (start N vs) H):AT P w z G C gG (k+1) f D g m:=by
 let(y,p,kV,j,v,r,u,i,rfl,l,d):=F.ex;show Qm l d S len λA b s H vs Q E o e=>?_;let(t,h,q):=a A b s H vs Q E o e;show(t,h.kr,q)
noncomputable def Rt:Stmt->List Stmt|.For _ _ b _ _=>b|_=>[]
noncomputable def ZR(l:List Stmt)(i:Nat):Stmt:=l.44 i (.Pass (0,0,0,0))
theorem gR.same{q}(s:fJ H H')(h:gR H b q f):gR H' b q f:=by
 let(d,e,i,a):=h;show(d,s _ _ e,i,λx l=>?_);let z||(c,j,o):=a x l
 ·ext
 ·show sY (c,j,s _ _ o)
theorem gR.sameX(r:H d=U (.l [.t x,.t y]))(s:gC d H b)(h:gR H f q g):gR b f q g:=by
 let(i,j,l,e):=h;show(i,s.88 _ _ j (λz=>by ext),l,λx p=>?_);let z||(c,o,a):=e x p
 ·ext
 ·show sY (c,o,s.88 _ _ a (λz=>by subst z;rw[r]at a;cases a))
theorem O7:Hk a q≠Hi a C b:=λz=>by
 let h:({objs:=vV (a+1) (sR C,b,tN (vV 6 tj),#[])}:Heap).14 a=U (sR C,b,tN (vV 6 tj),#[]):=by
  unfold Heap.get?;rw[Array.getElem?_replicate,zf (_)]
 let l:=congrFun (HO.e.inj z) {objs:=vV (a+1) (sR C,b,tN (vV 6 tj),#[])};let(o,p,vs,t,e,i,j,d):=(l.49 (_,_,h,rfl,rfl,rfl,qc,qc));cases e;rw[h]at i;cases i;cases j;rw[Array.getElem?_replicate]at d;split at d<;>cases d
theorem O8(h:H b=U (.t [.s x,.s y,.t n])):CP d H (uU [uN x,uN y,.int n]) (.r b):=by
 show(b,7,gB.of h,(_,7,by rw[CP],?_));show(_,7,by rw[CP],(_,7,by rw[CP],?_));rw[Bv]
theorem O9(h:x.27 (· < 128)=L)(e:y.27 (· < 128)=L):uF (uU [uN x,uN y,.int n])=L:=by
 unfold uF;simp;show(?_,?_)
 ·show NM λd a=>?_;simp at a;let rfl||rfl||rfl:=a
  ·show Ds h
  ·show Ds e
  rfl
 ·simp only[vy,vm]
  decide
theorem Vm(x y)(n):tZ (uU [uN x,uN y,.int n]) (uU [uN x,uN y,.int n])=L:=Ex λd a=>by
 simp at a;let rfl||rfl||rfl:=a
 ·show CJ _
 ·show CJ _
 ·show IG _
theorem TY(n:Nat):plain (n)=n:=by
 rfl
theorem Jg(due)(n:Nat):AX due (n)=n-(n&&&kn due):=by
 rfl
theorem Xa(o:g.9=b.9)
  (l:(uP b.9).94 (λi=>match b[i]?,g[i]? with|some x,U j=>decide (X.N[j]?=U x)&&decide (X.28 x=U uz)&&decide (scope.13 x=U ub)|_,_=>O)=L)
  (a:∀x c,f.5 x=U c->X.25 x=U c) (q:∀x,(scope.13 x=U uz\/scope.13 x=U ub)->∃c,f.5 x=U c) (p:∀x c,f.5 x=U c->X.fn x=L\/c∉ iz X.s):LamN X b g scope f:=by
 show(o,λi x h=>?_,a,q,p);let d:=(z8.mp h).1;have:=all_eq_true.mp l i (mem_range.49 d);rw[h]at this;cases e:g[i]? with
 |none=>rw[e]at this;cases this
 |some j=>
  rw[e]at this;simp at this;show(j,Y,this.1.1,this.1.2,this.2)
structure ZS(X:Cx)(K:FG)(q:Str)(ec:Nat->nq)(cM c P0:nq)(ls:List Pos):Prop where
 fn:∃f fd,gE X.K nY nY BK f fd/\X.m nY=U (sR f)/\Binds X.K fd [oH] []
 M:TR X.m ec
 EX:VE X.K X.m ec cM
 GW:FnS X.p X.w X.K X.m X.b pk 1 [oJ] (Ey X.K ec)
 L:Yh X c P0
 ne:(ls.94 λl=>ls.94 λq=>decide (q=l) || !(q.70==l.70&&q.col==l.col))=iY
 g:Gl X nY
 hK:X.K=K
 hq:X.59 ++ nO=q
noncomputable def tdB(N:ni)(f g:List (Str×NameKind))(b:ni)(d:List Nat)(h:List Pos)(i:Nat)(l:Pos):Bool:=(decide (h[i]?=U l)&&decide (d.9=b.9))&&((uP b.9).94 (λi=>match b[i]?,d[i]? with|some x,U j=>decide (N[j]?=U x)&&decide (f.5 x=U uz)&&decide (g.5 x=U ub)|_,_=>O)&&g.94 (λp=>!(p.2 == uz)&&(!(p.2 == ub)||decide (f.5 p.1=U uz))))
theorem HN(T:ZS X az q v s c m i)(o:gD (k+2) X.A)(ab)(G)(g)(ag:∀{a}t r C d D l E,gD k (C.55 (W.envX (X.59 ++ nO) (uR,b,i7,i7,f) D.8 t (sR r) a))->PE (Hl X.p X.w X.K X.m X.b G (X.59 ++ nO) (uR,b,i7,i7,f) t (sR r) a C d D l E) p (R E))
  (u:tdB X.N X.e.scope.53 b G g i ab j=iY:=by kernel_rfl) (w:∀x c,X.25 x=im c->X.fn x=iY\/c∉ iz X.s:=by intro _ _ _;show .inl rfl):
  PE X (uJ (tI nY aM) [.Lambda ([],[],J,[],[],J,[]) p (uR,b,i7,i7,f) j] [] aR) (VJ az v s m q i g R):=by
 let(aC,fd,F,hm,A):=T.fn;obtain rfl:=T.hK;obtain rfl:=T.hq;unfold tdB at u;rw[tA,tA,tA,decide_eq_true_eq,decide_eq_true_eq]at u;let((N,S),U,L):=u;intro al an as H Q I h
 let M:∀y∈b,y.2≠ uz:=λy B z=>by
  have:=all_eq_true.mp L y B;rw[z]at this;cases this
 let(a,ar,O,Y):=Qu (scope:=(uR,b,i7,i7,f)) λy B e=>I.ok.has y.1 (sU (by
  have:=all_eq_true.mp L y B;rw[e]at this;let q:List.lookup y.1 X.e.scope.53=im uz:=by simpa using this
  show q))
 show XO F T.M T.EX T.GW o T.g hm F.kp A T.L (zN N) (λq P=>?_) ar zd (Xa S U O (λx hx=>?_) λx c e=>w x c (O x c e)) (λ_ _ _=>rfl) zd zd zd M (λt r=>ag t r) zd zd al an as H Q I h
 ·have z:=all_eq_true.mp (all_eq_true.mp T.ne j (zN N)) q P;rw[vp]at z;let z||z:=z
  ·show sU (zS z)
  ·show sY (by rwa[ve]at z)
 ·let e||e:=hx
  ·show absurd zd (M _ (Ed e))
  ·show Y _ (Ed e) rfl
def Nx(H d:Hp):Prop:=∀b o,H b=U o->(∀C f,o≠Hi b C f)->d b=U o
theorem Nx.same(s:fJ H H'):Nx H H':=λb o e _=>s b o e
theorem Nx.exc(d:fJ H f)(p:f a=U (Hi a l g))(e:fJ (del f a) i):Nx H i:=λb o h q=>by
 let j:=d _ _ h;apply e _ _;unfold del
 rwa[zg (λz=>by grind)]
theorem gR.nx(s:Nx H b)(h:gR H f q g):gR b f q g:=by
 let(d,e,i,a):=h;show(d,s _ _ e (λ_ _ z=>nomatch z),i,λx l=>?_);let z||(c,j,o):=a x l
 ·ext
 ·show sY (c,j,s _ _ o (λ_ _=>O7))
theorem gR.but(h:gR H g q s)(e:∀f,H g=U (.c f)->m g=U (.c f))(i:∀b a,H b=U (.e a)->m b=U (.e a)):gR m g q s:=by
 let(f,j,l,d):=h;show(f,e _ j,l,λx p=>?_);let z||(c,o,r):=d x p
 ·ext
 ·show sY (c,o,i _ _ r)
theorem bh(EP:Fv s m g f j)(h:∀p b,Nx H b->b p=U (.t [.s nU,.s (wd j)])->Q (.r p) b):Uq H (Gd s m g Q) f:=λe r i _ _=>(f,rfl,λq a=>sU (j,EP,rfl,λp o l d=>h p o (Nx.exc i a l) d))
theorem Vn(o:Jf m g f 1)(h:∀p b,Nx H b->b p=U (.t [.s nU,.s oX,.t n])->Q (.r p) b):lK H (Gd m g s Q) f n:=λe j v q _ _ _ _ i=>(f,rfl,λt a=>sY (1,j,.t n,o,rfl,by
 let d:j≠t:=λz=>by rw[←z,i]at a;cases a
 unfold del;rw[zg d]
 show i,λp u r l=>h p u (Nx.exc q a r) l))
inductive Ch(due:Aa)(r:Str):List En->lI->En->Prop
 |nil:Ch due r [λ_=>J] [] (λ_=>J)
 |snoc (F D g g' x) (h:Ch due r F D g) (b:x∈iW) (e:∀y,y≠x->g' y=g y) (n:g x=J->g' x≠J) (ok:la due r g):Ch due r (F++[g']) (D++[(x,(g x))]) g'
theorem Ch.last(h:Ch due r F D g):(∃a,F=a++[g])/\F.length=D.9+1:=by
 induction h with
 |nil=>ext
 |snoc F D g e x h _ _ _ _ d=>ext
structure Zw where
 (z:Za) (d t u:nq)
def Kp(y:Zw)(H d:Hp):Prop:=∀b o,H b=U o->b≠y.d->b≠y.z.e->b≠y.z.l->b≠y.t->(∀f,o≠ .c f)->(∀g,o≠ .e g)->d b=U o
theorem Kp.trans(a:Kp y H f)(b:Kp y f q):Kp y H q:=λc o e h i d l j p=>b c o (a c o e h i d l j p) h i d l j p
theorem Kp.nx(s:Nx H d):Kp y H d:=λb o e _ _ _ _ _ h=>s b o e λC a=>h _
theorem Kp.refl(H):Kp y H H:=λ_ _ e _ _ _ _ _ _=>e
structure Nd(bd:nq)(y:Zw):Prop where
 dl:y.d≠y.z.l
 dt:y.d≠y.t
 lt:y.z.l≠y.t
 ud:y.u≠y.d
 ul:y.u≠y.z.l
 ut:y.u≠y.t
 be:bd≠y.z.e
abbrev TbL(y:Zw)(F:List En)(H:Hp):Prop:=∃b,H y.t=U (.l (b.7 V.r))/\Paired (iC H) b F/\∀a∈b,a≠y.z.e
structure Ws(BC C bd:nq)(T:List (nq×Str×List Pos))(y:Zw)(due:Aa)(r:Str)(g:En)(D:lI)(F:List En)(H:Hp):Prop where
 di:∃a b,H y.d=U (.l [.t a,.t b])
 B:ig BC C y.z due r g D H
 tb:TbL y F H
 du:∃bs,H y.u=U (.l (bs.7 V.r))/\fQ H bs (C9 due)
 hb:Rd H bd (.d Du)
 tabs:∀p∈T,gR H p.1 p.2.1 p.2.2
theorem iC.keep(s:∀b i,H b=U (.t i)->H' b=U (.t i))(st:∀f,H t=U (.d f)->H' t=U (.d f))(h:iC H t g):iC H' t g:=by
 let(f,d,a):=h;show(f,st _ d,a.32 s)
theorem K8{g h}{F G}{d:List g}{bs:List h}(a:Paired F d bs)(f:∀a∈d,∀b,F a b->G a b):Paired G d bs:=by
 induction a with
 |nil=>show tO
 |cons a _ ih=>show tP (f _ (_) _ a) (ih λc e=>f c (_))
theorem Ws.gen(W:Ws m C bd T y due r g D F H)(N:Nd bd y)(s:Kp y H f)(I:∃a b,f y.d=im (.l [.t a,.t b]))(B:ig m C y.z due r x G f)(w:TbL y q f)(d:∀p∈T,gR f p.1 p.2.1 p.2.2):Ws m C bd T y due r x G q f:=by
 let(v,U,_):=W.B.en;let(S,O,_):=W.B.de;let(a,b,Q):=W.di;let(J,ht,_):=W.tb;let kp:∀{b:nq}{o:HO},H b=im o->(∀i,o≠ .l i)->(∀l,o≠ .d l)->(∀j,o≠ .c j)->(∀E,o≠ .e E)->f b=im o:=λ{b o}e M R A P=>s b o e (λz=>by grind) (λz=>by grind) (λz=>by grind) (λz=>by grind) A P;show(I,B,w,?_,?_,d)
 ·let(bs,t,u):=W.du;show(bs,s _ _ t N.ud (λz=>by ext) N.ul N.ut (λ_ z=>nomatch z) (λ_ z=>nomatch z),fQ.gK (λb i e=>kp e (λ_ z=>nomatch z) (λ_ z=>nomatch z) (λ_ z=>nomatch z) (λ_ z=>nomatch z)) u)
 ·let h||(o,h):=W.hb
  ·show sU (s _ _ h (λz=>by ext) N.be (λz=>by ext) (λz=>by ext) (λ_ z=>nomatch z) (λ_ z=>nomatch z))
  ·show sY (o,kp h (λ_ z=>nomatch z) (λ_ z=>nomatch z) (λ_ z=>nomatch z) (λ_ z=>nomatch z))
theorem ig.nx(s:Nx H f)(h:ig m C z due r g D H):ig m C z due r g D f:=by
 let kp:∀{b:nq}{o:HO},H b=U o->(∀G,o≠ .e G)->f b=U o:=λ{b o}e n=>s b o e λC j=>n _;let l:∀b i,H b=U (.t i)->f b=U (.t i):=λb i e=>kp e λ_ z=>nomatch z;let((j,t),u,(p,y,I),(J,A,L,v),E):=h;let(d,x,M,B,F,a,b,c):=u.ex;show((j,kp t (λ_ z=>nomatch z)),⟨(d,x,M,B,F,kp a (λ_ z=>nomatch z),kp b (λ_ z=>nomatch z),kp c (λ_ z=>nomatch z))⟩,(p,kp y (λ_ z=>nomatch z),I.32 l),(J,kp A (λ_ z=>nomatch z),Paired.imp' (λ_ _ q=>q.32 l) L,v),E)
theorem Ws.nx(W:Ws m C bd T y due r g D F H)(N:Nd bd y)(s:Nx H f):Ws m C bd T y due r g D F f:=by
 let kp:∀{b:nq}{o:HO},H b=U o->(∀i,o≠ .e i)->f b=U o:=λ{b o}e n=>s b o e λC t=>n _;let(a,b,l):=W.di;let(h,ht,d,j):=W.tb;show W.gen N (.nx s) (a,b,kp l (λ_ z=>nomatch z)) (W.B.nx s) (h,kp ht (λ_ z=>nomatch z),Paired.imp' (λ_ _ q=>q.32 (λb u e=>kp e (λ_ z=>nomatch z)) λ_ e=>kp e (λ_ z=>nomatch z)) d,j) λp d=>gR.nx s (W.tabs p d)
theorem Ws.same{due}{r}(W:Ws b C bd T y due r g D F H)(N:Nd bd y)(s:fJ H H'):Ws b C bd T y due r g D F H':=W.nx N (.same s)
theorem Ws.lst{H f}{due}{C}{j bd}{T}{y}{r}{g}{D}{F i}{a}{m}(W:Ws j C bd T y due r g D F H)(N:Nd bd y)(s:∀b o,H b=im o->b≠a->f b=im o)(P:H a=im (.l m))(Q:a≠y.z.l)(kp:Kp y H f)(S:∃a b,f y.d=im (.l [.t a,.t b]))(w:TbL y i f):Ws j C bd T y due r g D i f:=by
 let d:∀{b:nq}{o:HO},H b=im o->(∀m,o≠ .l m)->f b=im o:=λ{b o}e n=>s b o e λz=>by grind
 let((J,u),v,(t,E,R),(X,G,Z,x),L):=W.B;let(h,B,o1,I,O,A,U,Y):=v.ex;let l:∀b m,H b=im (.t m)->f b=im (.t m):=λb m e=>d e λ_ z=>nomatch z;show W.gen N kp S ((J,d u (λ_ z=>nomatch z)),⟨(h,B,o1,I,O,d A (λ_ z=>nomatch z),d U (λ_ z=>nomatch z),d Y (λ_ z=>nomatch z))⟩,(t,d E (λ_ z=>nomatch z),R.32 l),(X,s _ _ G (sX Q),Paired.imp' (λ_ _ q=>q.32 l) Z,x),L) w λp M=>gR.but (W.tabs p M) (λps e=>d e λ_ z=>nomatch z) λb ab e=>d e λ_ z=>nomatch z
theorem Kp.one(s:∀b o,H b=U o->b≠a->f b=U o)(h:a=y.d\/a=y.t):Kp y H f:=λb o e i _ _ d _ _=>s b o e (_)
theorem Ws.g6{due}{r}(W:Ws m C bd T y due r g D F H)(N:Nd bd y)(s:gC y.d H f):Ws m C bd T y due r g D F f:=by
 let(a,b,p):=W.di;let(d,ht,j,l):=W.tb;let i:∀{b:nq}{o:HO},H b=U o->(∀h,o≠ .l h)->f b=U o:=λ{b o}e n=>s.88 b o e λz=>by grind
 show W.lst N s.88 p N.dl (.one s.88 (sU rfl)) s.g6 (d,s.88 _ _ ht (sX N.dt),Paired.imp' (λ_ _ q=>q.32 (λb h e=>i e λ_ z=>nomatch z) λ_ e=>i e λ_ z=>nomatch z) j,l)
theorem IM{f g}{G}{d}{bs}{a:f}{b:g}(h:Paired G d bs)(k:G a b):Paired G (d++[a]) (bs++[b]):=by
 induction h with
 |nil=>show tP k tO
 |cons a r e=>show tP a e
theorem Ws.push(W:Ws f C bd T y due r g D F H)(N:Nd bd y)(ht:H y.t=U (.l (d.7 V.r)))(l:Paired (iC H) d F)(p:∀a∈d,a≠y.z.e)(j:iC H a i)(m:a≠y.z.e):Ws f C bd T y due r g D (F++[i]) (upd H y.t (.l (d.7 V.r++[.r a]))):=by
 let s:∀b o,H b=U o->b≠y.t->(upd H y.t (.l (d.7 V.r++[.r a]))) b=U o:=λb o e h=>by rwa[AE h]
 let u:∀{b:nq}{o:HO},H b=U o->(∀w,o≠ .l w)->(upd H y.t (.l (d.7 V.r++[.r a]))) b=U o:=λ{b o}e n=>s b o e λz=>by grind
 let(x1,x2,hd):=W.di;let v:∀{t:nq}{k:En},iC H t k->iC (upd H y.t (.l (d.7 V.r++[.r a]))) t k:=λq=>q.32 (λb w e=>u e λ_ z=>nomatch z) λ_ e=>u e λ_ z=>nomatch z;show W.lst N s ht (sX N.lt) (.one s (sY rfl)) (x1,x2,s _ _ hd N.dt) (d++[a],by rw[fH,zl];rfl,IM (Paired.imp' (λ_ _=>v) l) (v j),λb A=>?_)
 grind
theorem Ws.pop(W:Ws f C bd T y due r g D (F++[x]) H)(N:Nd bd y)(ht:H y.t=U (.l ((d++[a]).7 V.r)))(l:Paired (iC H) d F)(t:∀a∈d,a≠y.z.e):Ws f C bd T y due r g D F (upd H y.t (.l (d.7 V.r))):=by
 let s:∀b o,H b=U o->b≠y.t->(upd H y.t (.l (d.7 V.r))) b=U o:=λb o e h=>by rwa[AE h]
 let j:∀{b:nq}{o:HO},H b=U o->(∀i,o≠ .l i)->(upd H y.t (.l (d.7 V.r))) b=U o:=λ{b o}e n=>s b o e λz=>by grind
 let(v,p,u):=W.di;show W.lst N s ht (sX N.lt) (.one s (sY rfl)) (v,p,s _ _ u N.dt) (d,fH,Paired.imp' (λ_ _ q=>q.32 (λb i e=>j e λ_ z=>nomatch z) λ_ e=>j e λ_ z=>nomatch z) l,t)
theorem Ws.tab(W:Ws m C bd T y due r g D F H)(N:Nd bd y)(un:∀q∈T,q.1=p.1->q=p)(w:p∈T)(s:L1 p.1 H f)(ht:gR f p.1 p.2.1 p.2.2):Ws m C bd T y due r g D F f:=by
 let(h,h0,_):=W.tabs p w;let d:∀{b:nq}{o:HO},H b=U o->(∀h,o≠ .c h)->f b=U o:=λ{b o}e n=>s b o (λz=>by grind) e;let(a,b,Z):=W.di;let(l,u,i,L):=W.tb;let((R,B),E,(A,M,Y),(as,O,h6,G),S):=W.B;let(t,I,o1,Q,X,J,b',c'):=E.ex;let j:∀b v,H b=U (.t v)->f b=U (.t v):=λb v e=>d e λ_ z=>nomatch z;show W.gen N (λb o e _ _ _ _ n _=>d e n) (a,b,d Z (λ_ z=>nomatch z)) ((R,d B (λ_ z=>nomatch z)),⟨(t,I,o1,Q,X,d J (λ_ z=>nomatch z),d b' (λ_ z=>nomatch z),d c' (λ_ z=>nomatch z))⟩,(A,d M (λ_ z=>nomatch z),Y.32 j),(as,d O (λ_ z=>nomatch z),Paired.imp' (λ_ _ q=>q.32 j) h6,G),S) (l,d u (λ_ z=>nomatch z),Paired.imp' (λ_ _ q=>q.32 j λ_ e=>d e (λ_ z=>nomatch z)) i,L) λq x=>?_;by_cases z:q.1=p.1
 ·rwa[un q x z]
 ·show gR.but (W.tabs q x) (λh e=>s _ _ z e) λb P e=>d e λ_ z=>nomatch z
theorem Ws.deed(W:Ws f C bd T y due r g D F H)(N:Nd bd y)(s:lh y.z H m)(B:ig f C y.z due r t v m):Ws f C bd T y due r t v F m:=by
 let(a,b,x):=W.di;let(i,ht,h,j):=W.tb;let(d,L,_):=W.B.en;show W.gen N (λb o e _ l u _ _ _=>s b o e l u) (a,b,s _ _ x (λz=>by ext) N.dl) B (i,s _ _ ht (λz=>by ext) (sX N.lt),K8 h λa A k q=>q.32 (λb M e=>W.B.kp s e) λd e=>s _ _ e (j a A) λz=>?_,j) λp h=>gR.but (W.tabs p h) (λE e=>W.B.kp s e) λb G e=>W.B.kp s e;let(J,I,_):=W.B.de
 ext
noncomputable def gV3(vs d:nk):nk:=match vs,d with| [a,b],[c]=>[a,b,c]|_,_=>[]
noncomputable def gU3(d f:nj):nj:=match d,f with| [a,b],[c]=>[a,b,c]|_,_=>[]
structure QZ(P:Program)(w:World)(K:FG)(mg:SV)(base:Heap)(C:nq):Prop where
 T:EQ K C
 cls:mg "Kind"=U (sR C)
 make:∃f fd,Mk K C f/\AT P w K mg base gG 6 f fd [nv,qE,pO] (spInit C) /\
  ∃g,Ph K fd [nv,qE,pO] [pO] g gV3
def LtN(n:Nv)(sg:List Nat):Prop:=∀c∈sg,Dw c=L/\An n.kvs (sS ⟨#[c]⟩)=U (.t (n.tb ⟨#[c]⟩:Nat))/\n.tb ⟨#[c]⟩<2^20
theorem Ru(D:Bi n.45)(f:LtN n sg):∀{t:LT},t.Ok (n.due.7 (·.1)) sg->t.tr.Ok n
 |.nm x,h=>by
  let(p,d,rfl):=zh.mp h;show(Ri D d).1.ok
 |.no m,h=>(Nb (uI h qc)).1.ok
 |.le c,h=>(Nc (f c h).1 (f c h).2.1).ok
 |.ng t,h=>Ru D f (t:=t) h
 |.bn g a b,h=>(h.1,Ru D f h.2.1,Ru D f h.2.2)
theorem bi{g:Sg}(d:a<2^20)(e:b<2^20):g.f a b<2^20:=by
 cases g<;>first|show Nat.or_lt_two_pow d e|show Nat.xor_lt_two_pow d e|show tw uM d
theorem Ng(D:Bi n.45)(f:LtN n sg):∀{t:LT},t.Ok (n.due.7 (·.1)) sg->t.89 n<2^20
 |.nm x,h=>by
  change wv n x<2^20;rw[Ro D h];let(p,d,rfl):=zh.mp h;rw[Cs D.nd d];show D.lt p d
 |.no m,h=>by
  change wv n (IK m)<2^20
  rwa[Vg h]
 |.le c,h=>by
  change wv n ⟨#[c]⟩<2^20;rw[(Nc (f c h).1 (f c h).2.1).v];show(f c h).2.2
 |.ng t,h=>tw (vN _ _) (VB D.lt)
 |.bn g a b,h=>bi (Ng D f h.2.1) (Ng D f h.2.2)
theorem IN:∀t:LT,t.tr.post.9+1<=2^(t.ht+1)
 |.nm x=>by change 1+1<=2^1;decide
 |.no n=>by change 1+1<=2^1;decide
 |.le n=>by change 1+1<=2^1;decide
 |.ng t=>by
  have:=IN t;change(t.tr.72++[_]).9+1<=2^(t.ht+1+1)
  grind
 |.bn g a b=>by
  let e:=IN a;let h:=IN b;change(a.tr.72++b.tr.72++[_]).9+1<=2^(max a.ht b.ht+1+1);rw[zE,zE,List.length_singleton];let i:2^(a.ht+1)<=2^(max a.ht b.ht+1):=vQ qc ();let d:2^(b.ht+1)<=2^(max a.ht b.ht+1):=vQ qc ()
  lia
theorem ZT(g:Sg):g.s.9=1:=by cases g<;>decide +kernel
theorem ZU(g:Sg):Bn g.s=O:=by cases g<;>decide +kernel
structure PtW(sg:List Nat)(x:Str):Prop where
 l:x.9<=200
 m:Bn x=L->∃c∈sg,x=⟨#[c]⟩
 s:Bn x=L\/∀c∈x.4,Dw c=O
theorem X6(h:c<97):Dw c=O:=by
 unfold Dw
 lia
theorem Jr{n:Nv}(D:Bi n.45):∀{t:LT},t.Ok (n.due.7 (·.1)) sg->(∀c∈sg,Dw c=L)->∀x∈t.tr.72,PtW sg x
 |.nm y,h,e,x,d=>by
  obtain rfl:x=y:=zz.mp d;let(p,l,rfl):=zh.mp h;let(w,q,o):=Ri D l;show(by lia,λz=>(_),sY λc i=>?_);let j:=(D.nm p l).1;unfold C8 at j;simp only[tA]at j;have:=all_eq_true.mp j.2 c i;simp[EE]at this;show X6 ()
 |.no m,h,e,x,d=>by
  obtain rfl:x=IK m:=zz.mp d;let(w,o):=Nb (n:=n) (uI h qc);have:=w.50;show(by lia,λz=>(_),sY λc i=>?_);rw[Rj]at i;have:=all_eq_true.mp (QX m) c i;simp[DU]at this;show X6 ()
 |.le c,h,e,x,d=>by
  obtain rfl:x=⟨#[c]⟩:=zz.mp d;show((by change 1<=200;decide),λ_=>(c,h,Y),sU (e c h))
 |.ng t,h,e,x,d=>by
  let z||z:=mem_append.mp d
  ·show Jr D (t:=t) h e x z
  ·obtain rfl:=zz.mp z;show((_),λz=>absurd z (_),sY (_))
 |.bn g a b,h,e,x,d=>by
  let z||z:=mem_append.mp d
  ·let z||z:=mem_append.mp z
   ·show Jr D h.2.1 e x z
   ·show Jr D h.2.2 e x z
  ·obtain rfl:=zz.mp z;show(by rw[ZT];decide,λz=>(by rw[ZU]at z;cases z),sY ?_);cases g<;>decide +kernel
theorem bj(h:Wr lt t r u)(k:∀x∈t.72,PtW sg x)(hc:Dw c=true):c∈u ↔ (⟨#[c]⟩:Str)∈t.72:=by
 let nc:∀d,Dw d=false->c≠d:=λd hd z=>by ext
 let nb:∀bl,Bk bl->c∉ bl:=λbl hb hm=>by
  let rfl||rfl:=hb
  ·cases hm
  ·show nc 32 zd (_)
 induction h with
 |wd x r bl hb h=>
  let hx:=k x (zz.49 rfl);change c∈bl++x.4 ↔ _∈ [x];rw[mem_append];show(λz=>?_,λz=>sY (_));let z||z:=z
  ·grind
  ·let hl||hn:=hx.s
   ·let(d,_,e):=hx.m hl
    ext
   ext
 |ng t r u hr h ih=>
  change c∈126::u ↔ _∈t.72++[("~":Str)];rw[mem_cons,mem_append,zz,(show c∈u ↔ (⟨#[c]⟩)∈t.72 from ih λx hx=>k x (zM _ hx))];show(λz=>z.40 (λz=>absurd z (nc 126 zd)) sU,λz=>z.40 sY λz=>?_);have:=congrArg (λy=>y.4) z;injection this with this
  show absurd this (nc 126 zd)
 |bn g a b r u v bl hg hr hb ha hv iha ihb=>
  change c∈u++(bl++(g.c::v)) ↔ _∈a.72++b.72++[g.s];let ng:c≠g.c:=nc _ (by cases g<;>rfl)
  let ng2:(⟨#[c]⟩)≠g.s:=λz=>by
   rw[←NX]at z
   ext
  simp[mem_append,mem_cons,not_mem_nil,iha (λx hx=>k x (zM _ (_))),ihb (λx hx=>k x (zM _ (_)))];show(λz=>?_,λz=>?_)
  ·grind
  grind
 |br t r u bl hb h ih=>
  rw[←(show c∈u ↔ (⟨#[c]⟩)∈t.72 from ih k)];simp;show(λz=>?_,λz=>sY (sY (sU z)));let z||z||z||z:=z
  ·grind
  ·show absurd z (nc 40 zd)
  ·show z
  ·show absurd z (nc 41 zd)
theorem Vo{l:Aa}{p}(r:(l.7 (·.1)).26)(h:l[j]?=U p):p.1∉ (l.12 j).7 (·.1):=λt=>by
 let(q,o,e):=zh.mp t;let(i,a):=List.getElem?_of_mem o;rw[List.getElem?_take]at a;split at a
 ·rename_i d;let(v,y):=z8.mp a;let(x,u):=z8.mp h;apply (vk.mp r) i j (_) (_) d
  ext
 trivial
theorem ZV(h:∀x∈T,PtW sg x)(a:T.9<64):VZ T:=(by lia,tw (_) a,λx d=>(h x d).l)
noncomputable def kJ:List Pos:=[(652,26,652,80),(654,32,654,87),(655,36,655,93),(656,36,656,74),(657,36,657,74),(661,26,661,88),(664,26,664,83),(667,26,667,64),(672,26,672,64),(675,30,675,64),(677,26,677,60)]
noncomputable abbrev q2:Str:="_law_step.<locals>." ++ nO
inductive Dq(f:FG)(H:Hp)(a b:V):Prop
 |mk (d) (g:CP f H d a) (h:CP f H d b) (i:uF d=L) (j:tZ d d=L)
structure TdB(P:Program)(w:World)(K:FG)(mg:SV)(base:Heap)(ec:Nat->nq)(cM:nq):Prop where
 fn:∃f fd,gE K nY nY BK f fd/\mg nY=U (sR f)/\Binds K fd [oH] []
 M:TR mg ec
 EX:VE K mg ec cM
 GW:FnS P w K mg base pk 1 [oJ] (Ey K ec)
theorem TZ(d)(a:X.K=d):gP X (sW oB) (λf H Q=>∃p b,f=[.r p]/\((fV d H p b/\∀l,H l=J->Q (.r l) (upd H l (.t b)))\/(gB d H p b/\Q (.r p) H))):=a ▸ D8
theorem TdB.at(B:TdB P w j i b p o)(e:vX b c m)(d:b.47 i m)(h:(ls.94 λl=>ls.94 λq=>decide (q=l) || !(q.70==l.70&&q.col==l.col))=L)(a:(CN gG P w j i b N q sc f (sR c) A outer s H E).kr.59 ++ nO=qq:=by rfl)(g:Gl (CN gG P w j i b N q sc f (sR c) A outer s H E).kr nY:=by rfl):ZS (CN gG P w j i b N q sc f (sR c) A outer s H E).kr j qq p o c m ls:=(B.fn,B.M,B.EX,B.GW,(rfl,e,d),h,g,rfl,a)
theorem Qa(h:H b=U (.t [.s x,.s y])):CP d H (uU [uN x,uN y]) (.r b):=by
 show(b,7,gB.of h,?_);show(_,7,by rw[CP],(_,7,by rw[CP],?_));rw[Bv]
theorem Dq.gJ:Dq b H .g .g:=(.none,by rw[CP],by rw[CP],by rfl,NN)
theorem Rv(x y):tZ (uU [uN x,uN y]) (uU [uN x,uN y])=L:=Ex λd a=>by
 simp at a;let rfl||rfl:=a<;>show CJ _
theorem Dq.two(e:H a=U (.t [.s nU,.s x]))(d:H b=U (.t [.s nU,.s x]))(f:uF (uU [uN nU,uN x])=L):Dq g H (.r a) (.r b):=(_,Qa e,Qa d,f,Rv _ _)
theorem Nh(d)(a):jH ((d++[a]).7 V.r) (-1)=U (V.r a):=by
 unfold jH j9;rw[AN,zE,zg qc,zf (by simp;lia)];change((d++[a]).7 V.r)[((-1:Int)+((d.9+1:Nat))).30]?=_;rw[show((-1:Int)+((d.9+1:Nat))).30=d.9 by lia];simp
def Kt(H d:Hp):Prop:=∀b o,H b=U o->(∀f,o≠ .c f)->d b=U o
theorem Kt.kp(s:Kt H d):Kp y H d:=λb o e _ _ _ _ n _=>s b o e n
theorem lh.kp(s:lh y.z H f):Kp y H f:=λb o e _ d a _ _ _=>s b o e d a
theorem Ws.td(W:Ws l C bd T y due r g D F H)(N:Nd bd y)(a:(f,q,(j))∈T)(un:∀p∈T,p.1=f->p=(f,q,(j)))(s:L1 f H i)(t:gR i f q j):Kt H i/\Ws l C bd T y due r g D F i:=by
 let(h,d,_):=W.tabs _ a;show(λb o e n=>s b o (λz=>by grind) e,W.tab N un a s t)
theorem Ws.dn(W:Ws f C bd T y due r g D F H)(N:Nd bd y)(q:∀b,Kp y H b->Ws f C bd T y due r e d F b->Q .g b):O3 f C y.z due r e d H Q:=λb a B=>q b a.kp (W.deed N a B)
theorem Ws.uq(W:Ws d C bd T y due r g D F H)(N:Nd bd y)(EP:Fv m l f i j)(q:∀p b,Nx H b->Ws d C bd T y due r g D F b->b p=U (.t [.s nU,.s (wd j)])->Q (.r p) b):Uq H (Gd m l f Q) i:=bh EP λp b nx h=>q p b nx (W.nx N nx) h
theorem K9{b f}{G}{a:List b}{bs:List f}(h:Paired G a bs):a.9=bs.9:=by
 induction h with
 |nil=>rfl
 |cons _ _ d=>ext
theorem Ws.ze(W:Ws b C bd T y due r g D F H)(h:H p=J):p≠y.z.e:=λz=>by
 let(_,a,_):=W.B.en
 ext
theorem PB:∀{b d:List nq},b.7 V.r=d.7 V.r->b=d
 | [],[],_=>rfl
 |x::b,y::d,h=>by
  simp at h;rw[h.1,PB h.2]
 | [],_::_,h=>by cases h
 |_::_,[],h=>by cases h
theorem Ws.at(W:Ws f C bd T y due r g D (F++[o]) H)(h:H y.t=U (.l ((i++[a]).7 V.r))):Paired (iC H) i F/\iC H a o/\a≠y.z.e/\∀b∈i,b≠y.z.e:=by
 let(j,d,l,p):=W.tb;rw[h]at d;cases PB (HO.l.inj (tS d));let(bs,b,e,t,q):=Cf l
 ext
theorem Ws.gv(W:Ws s C bd T y due r g D F H)(N:Nd bd y)(a:fJ H f)(j:H p=J)(ht:iC f p v)(u:F.length<200):∃m,f y.t=U (.l m)/\m.9<sizeLine/\(∀b o,H b=U o->b≠y.t->(upd f y.t (.l (m++[.r p]))) b=U o)/\Ws s C bd T y due r g D (F++[v]) (upd f y.t (.l (m++[.r p]))):=by
 let i:=W.same N a;let(l,d,h,q):=i.tb;show(_,d,by rw[AN,K9 h];show zY u qc,λb o e t=>by rw[AE t];show a _ _ e,i.71 N d h q ht (W.ze j))
theorem Ws.own{due}{r}(W:Ws m C bd T y due r g D F H)(ha:H a=im (.l f))(N:a≠y.d)(v:a≠y.z.l)(Q:a≠y.t)(w:a≠y.u):Ws m C bd T y due r g D F (upd H a o):=by
 let s:∀b x,H b=im x->b≠a->(upd H a o) b=im x:=λb x e h=>by rwa[AE h]
 let d:∀{b:nq}{u:HO},H b=im u->(∀f,u≠ .l f)->(upd H a o) b=im u:=λ{b u}e n=>s b u e λz=>by grind
 generalize upd H a o=P at s d;let i:∀b f,H b=im (.t f)->P b=im (.t f):=λb f e=>d e λ_ z=>nomatch z;let((U,B),E,(A,O,h4),(as,R,h6,I),X):=W.B;let(ab,J,o1,S,Y,L,b',c'):=E.ex;let(x1,Z,hd):=W.di;let(t,ht,j,M):=W.tb;let(bs,G,l):=W.du;show((x1,Z,s _ _ hd (sX N)),((U,d B (λ_ z=>nomatch z)),⟨(ab,J,o1,S,Y,d L (λ_ z=>nomatch z),d b' (λ_ z=>nomatch z),d c' (λ_ z=>nomatch z))⟩,(A,d O (λ_ z=>nomatch z),h4.32 i),(as,s _ _ R (sX v),Paired.imp' (λ_ _ q=>q.32 i) h6,I),X),(t,s _ _ ht (sX Q),Paired.imp' (λ_ _ q=>q.32 i λ_ e=>d e (λ_ z=>nomatch z)) j,M),(bs,s _ _ G (sX w),fQ.gK i l),?_,λp j=>gR.but (W.tabs p j) (λps e=>d e λ_ z=>nomatch z) λb ag e=>d e λ_ z=>nomatch z);let h||(o,h):=W.hb
 ·show sU (d h (λ_ z=>nomatch z))
 ·show sY (o,d h (λ_ z=>nomatch z))
noncomputable abbrev jd(x:Str):HO:=.t [.s nU,.s x]
structure Rf(BC C bd:nq)(T:List (nq×Str×List Pos))(y:Zw)(due:Aa)(r:Str)(g:En)(D:lI)(F:List En)(H0:Hp)(l:nq)(as:List nq)(H:Hp):Prop where
 W:Ws BC C bd T y due r g D F H
 n1:l≠y.d
 n2:l≠y.z.l
 n3:l≠y.t
 n4:l≠y.u
 nw:∀o,H0 l=U o->(∀ps,o≠ .c ps)->(∀φ,o≠ .e φ)->l=y.z.e
 kp:Kp y H0 H
 h:H l=U (.l (as.7 V.r))
 ts:∀b∈as,H b=U (jd oP)
theorem Rf.newL(W:Ws f C bd T y due r g D F H)(N:Nd bd y)(kp:Kp y m H)(h:H l=J)(p:∀b∈d,H b=U (jd oP)):Rf f C bd T y due r g D F m l d (upd H l (.l (d.7 V.r))):=by
 let a:∀{b:nq}{o:HO},H b=U o->l≠b:=λ{b o}e z=>by ext
 let s:=AD (fJ.r H) h (o:=HO.l (d.7 V.r));let(B,A,i):=W.di;let(q,ht,_):=W.tb;let(bs,u,_):=W.du;let(_,j,_):=W.B.de;show(W.same N s,a i,a j,a ht,a u,λo e t v=>uY λz=>?_,kp.6 (.nx (.same s)),fH,λb x=>s _ _ (p b x));have:=kp l o e (a i) z (a j) (a ht) t v;rw[h]at this;cases this
theorem Rf.new(W:Ws f C bd T y due r g D F H)(N:Nd bd y)(kp:Kp y i H)(e:H l=J)(a:H p=U (jd oP)):Rf f C bd T y due r g D F i l [p] (upd H l (.l [.r p])):=.newL W N kp e λb d=>by cases zz.mp d;show a
theorem Rf.more(R:Rf m C bd T y due r g D F s l f H)(k:Kt H w)(n:Nx w a)(u:Ws m C bd T y due r g D F a)(A:a p=U (jd oP)):a l=U (.l (f.7 V.r))/\Rf m C bd T y due r g D F s l (f++[p]) (upd a l (.l (f.7 V.r++[.r p]))):=by
 let h:=n _ _ (k _ _ R.h λ_ z=>nomatch z) λ_ _ z=>nomatch z;show(h,u.own h R.n1 R.n2 R.n3 R.n4,R.n1,R.n2,R.n3,R.n4,R.nw,λb o e q d x v j i=>?_,by rw[fH,zl];rfl,λb t=>?_)
 ·by_cases z:b=l
  ·subst z;show absurd (R.nw o e j i) d
  ·rw[AE z];show((R.kp.6 k.kp).6 (.nx n)) b o e q d x v j i
 ·have e:a b=U (jd oP):=by
   let z||z:=mem_append.mp t
   ·show n _ _ (k _ _ (R.ts b z) λ_ z=>nomatch z) λ_ _ z=>nomatch z
   ·ext
  rwa[AE (λz=>by ext)]
theorem LA:∀{d:List nq},(∀b∈d,H b=U (jd oP))->Bv f H (tJ d.9 (uU [uN nU,uN oP])) (d.7 V.r)
 | [],_=>by
  change Bv f H [] [];rw[Bv]
 |a::d,h=>by
  show(_,7,Qa (h a (zF ..)),LA λb e=>h b (zO _ e))
theorem Dq.rep{H:L2.Hp}{a as':List nq}(j:H l=U (.l (a.7 V.r)))(o:H i=U (.l (as'.7 V.r)))(e:a.9=as'.9)(t1:∀b∈a,H b=U (jd oP))(t2:∀b∈as',H b=U (jd oP)):Dq f H (.r l) (.r i):=by
 show(vB (tJ a.9 (uU [uN nU,uN oP])),?_,?_,Fq λd h=>?_,Gb λd h=>?_)
 ·show(l,7,fV.of j,LA t1)
 ·rw[e];show(i,7,fV.of o,LA t2)
 ·rw[(List.mem_replicate.mp h).2];show(qd,qc)
 ·rw[(List.mem_replicate.mp h).2];show Rv _ _
theorem Rf.app(R:Rf M C bd T y due r g D F P l Q H)(N:Nd bd y)(j:(f,q,(S))∈T)(un:∀p∈T,p.1=f->p=(f,q,(S)))(h:Fv b s m X 5)(e:w[i]?=U (U (.r l)))(ab:Q.9<=1000)(z:∀a d,Ws M C bd T y due r g D F a->Kp y P a->Uq a (Gd b s m d) X->x (Gd b s m d) (VH ix w) a d)(k:∀q o,Rf M C bd T y due r g D F P l (Q++[q]) o->E.nx w o):Xs (tBM b oq Mi (LI i) (A3 (VJ b s m f q S ix x) Cz)) E w H:=by
 show(_,e,sU (Y,_,fV.of R.h),R.W.tabs _ j,λa B A=>?_);let(u,t):=R.W.td N j un B A;show z a _ t (R.kp.6 u.kp) (t.uq N h λq ag nb v I=>?_);let(G,R2):=R.more u nb v I;show(l,_,7,Y,G,AR (by rwa[AN]),k q _ R2)
theorem IP(a b:Nat):(a)-tD (a) (b)=((a-(a&&&b):Nat):Int):=by
 rw[CV,Int.ofNat_sub uM]
theorem Ch.gv(h:Ch due r F D g)(a:x∈iW)(ok:la due r g):Ch due r (F++[jD g x n]) (D++[(x,(g x))]) (jD g x n):=.snoc F D g _ x h a (λy d=>by unfold jD E5;ext) (λ_=>by unfold jD E5;ext) ok
theorem Ch.take{due}{r}(h:Ch due r (F++[l]) D g):(D=[]/\F=[])\/∃d a x,D=d++[(x,(a x))]/\Ch due r F d a/\x∈iW/\E5 g x (a x)=a/\(a x=J->g x≠J)/\la due r a:=by
 generalize e:F++[l]=b at h;cases h with
 |nil=>show sU (rfl,(append_inj' (e.6 (nil_append _).31) rfl).1)
 |snoc p j g2 _ x h i o n ok=>
  let(rfl,_):=append_inj' e rfl;show sY (j,g2,x,Y,h,i,?_,n,ok);funext y;unfold E5
  ext
theorem Ch.drop(h:Ch due r F D g)(a:x∈iW)(ok:la due r g)(d:g x≠J):Ch due r (F++[E5 g x J]) (D++[(x,(g x))]) (E5 g x J):=.snoc F D g _ x h a (λy e=>by unfold E5;ext) (λz=>absurd z d) ok
inductive spLr(f:FG)(d C bd:nq)(T:List (nq×Str×List Pos))(vs:nk)(H:Hp)(Q:VK)(h:XK):Prop
 |mk (y) (due) (r) (g) (D) (F) (x) (p:vs=[.r y.d,.r y.z.b,.r y.t,.r y.u,.s r,.s x]) (s:Ws d C bd T y due r g D F H) (u:Nd bd y) (o:Ch due r F D g) (w:D.9<99) (v:Bi due) (A:0<due.9) (z:r∈gZ) (E:x∈iW)
  (B:∀q a b m j l i,i q=U (.t [a,b])->Dq f i a b->Ws d C bd T y due r m j l i->Ch due r l j m->Kp y H i->j.9<=D.9+1->Q (.r q) i)
inductive spLs(f:FG)(d C bd:nq)(T:List (nq×Str×List Pos))(vs:nk)(H:Hp)(Q:VK)(h:XK):Prop
 |mk (y) (due) (r) (g) (D) (F) (p:vs=[.r y.d,.r y.z.b,.r y.t,.r y.u,.s r]) (s:Ws d C bd T y due r g D F H) (u:Nd bd y) (o:Ch due r F D g) (w:D.9<99) (v:Bi due) (A:0<due.9) (z:r∈gZ)
  (B:∀q a b m j l i,i q=U (.t [a,b])->Dq f i a b->Ws d C bd T y due r m j l i->Ch due r l j m->Kp y H i->j.9<=D.9+1->Q (.r q) i)
noncomputable abbrev NLs:ni:=[ny,nz,pI,n8,oY,nZ,"_law_own",og,"_law_kind",oU,nI,"_law_is_there","_law_deeds","_law_fewer"]
noncomputable abbrev pLs:ni:=[ny,nz,pI,n8,oY]
theorem scLs:AI NLs pLs (defScope Do):=gQ
noncomputable def sLs(y:Zw)(r x:Str)(a o:nq)(i:Int)(l:nq)(n:Nat)(b:Bool):St:=[U (.r y.d),U (.r y.z.b),U (.r y.t),U (.r y.u),U (.s r),U (.r a),U (.r o),U (.s x),U (.t i),U (.r l),U (.t (n:Int)),U (.l b),J,J]
theorem bo(F:jM d oW oW Do bb fd c)(hC:vX m c P0)(ca:m.47 i P0)(TB:TdB P w d i m ec cM)(f:(P0,q2,(kJ))∈a7)(un:∀aC∈a7,aC.1=P0->aC=(P0,q2,(kJ)))(bn:Bl i)(mD:i oK=io)(BT:DR d l)(a5:Fv d ec cM cB 5)(bS:Fv d ec cM cN 10)
  (GT:Fn P w d i m o9 2 [n8] spTable) (b4:Fn P w d i m qZ 3 [ny] spLwo) (b3:Fn P w d i m oN 2 [ny,oM] spRollB) (bU:Fn P w d i m qR 3 [ny,n8,oG] spLn') (a6:Fn P w d i m rl 1 [nZ,og,nI] spLgv)
  (bW:DS P w d i m l "put" 7 [nv,nC,oz] (spPu l ar)) (bu:DS P w d i m l "mark" 7 [nv,nC,"more"] (spMr gOr l ar cB)) (bC:DS P w d i m l "unmark" 7 [nv,nC,"less"] (spMr EI l ar cB)) (bB:DS P w d i m l "turn" 7 [nv,nC] (spTn l ar cB)) (br:DS P w d i m l sy 4 [nv,nC] (spDr l ar cB)) (bx:DS P w d i m l rY 3 [nv] (spTk l ar cN))
  (bX:Fn P w d i m oA 11 [ny,nz,pI,n8,oY,og] (spLr d l ar bd a7)):AT P w d i m gG 12 bb fd pLs (spLs d l ar bd a7):=by
 show F.ok scLs (λvs aR bE E h=>?_) (λbm bN bO aR vs bE E v h=>?_)
 ·let(_,_,_,_,_,_,rfl):=h;rfl
 ·have nd:=scLs.nd;let hu:=BY v;let TD:=TB.at (N:=NLs) (qq:=q2) (q:=oW) (sc:=defScope Do) (f:=bb) (A:=bm) (outer:=bN) (s:=bO) (H:=aR) (E:=E) hC ca (ls:=kJ) (by rfl);let ab:gD (8+2) _:=v.63 qc
  show(_,AC (Bf (hs:=by rfl) (hw:=by rfl) (Af (AA (Ak (Ao d Y) (Z 2) (Db D7 AF)) (gM (gT GT v (gX (Z 3))) (gT b4 v (gX (Z 0)))))) (BG Y (AQ (A7 5 nd) (AQ (A7 6 nd) (AQ (A7 7 nd) Av)))))
   (AC (A4 8 nd (gT b3 v (gM (Z 0) AF)))
   (AC (Bf (gT bU v (AA (Z 0) (gM (Z 3) AF))) (BG rfl (AQ (A7 9 nd) (AQ (A7 10 nd) Av))))
   (Aw (A4 11 nd (PR (Gk hu (Z 7) (Z 5))))
   (AC (AU (AK FF (Z 8) AF (AO _)) (AC (Ah (Bj (Z 2) (gX (gT a6 v (AA (Z 5) (gM (Z 7) (Z 10)))))))
     (AB (AJ (Af (gM (HN TD ab 0 [nz,og,oU] [1,7,9] (λlf c' A' al s' s E v=>DV (Z 0) BT.cl bW v Dh (gM (Z 1) (Z 2)))) EV))))) AL)
    (AC (AU (PW.pt (Cj (AK FF (Z 8) AF (AO _)) (Bu (Au (Al (Z 11))))))
     (AC (A4 12 nd (BA (gX (HN TD ab 1 [nz,og,oU] [1,7,9] (λlf c' A' al s' s E v=>DV (Z 0) BT.cl bu v Dh (gM (Z 1) (Z 2)))))))
     (AC (Ah (Bj (Z 12) (gX (HN TD ab 2 [nz,og,oU] [1,7,9] (λlf c' A' al s' s E v=>DV (Z 0) BT.cl bC v Dh (gM (Z 1) (Z 2)))))))
     (AC (Ah (Bj (Z 12) (gX (HN TD ab 3 [nz,og] [1,7] (λlf c' A' al s' s E v=>DV (Z 0) BT.cl bB v Dh (gX (Z 1)))))))
     (AC (Ah (Bj (Z 12) (gX (HN TD ab 4 [nz,og] [1,7] (λlf c' A' al s' s E v=>DV (Z 0) BT.cl br v Dh (gX (Z 1)))))))
     (AB (AJ (Af (gM (Z 12) (AW (Wl d rfl) (BA (gX (Af (gM AM AM)))) AF))))))))) AL)
    (AC (AU (AK Aq (Z 8) AF (AO _)) (AC (Ah (Bj (Z 2) (gX (gT a6 v (AA (Z 5) (gM (Z 7) (AW GD (Ak (AZ d rfl) (Am hu (Z 5) (Z 7)) AF) (Z 10)))))))) (AB (AJ (Af (gM (HN TD ab 5 [nz,og,oU] [1,7,9] (λlf c' A' al s' s E v=>DV (Z 0) BT.cl bu v Dh (gM (Z 1) (A0 (TZ d rfl) rfl bn.56 Bs (gX (Z 2)))))) EV))))) AL)
    (AC (AU (AK Aq (Z 8) AF (AO _)) (AC (Ah (Bj (Z 2) (gX (gT a6 v (AA (Z 5) (gM (Z 7) (AW CL (Ak (AZ d rfl) (Am hu (Z 5) (Z 7)) AF) (AW Bh (Ak (AZ d rfl) (Am hu (Z 5) (Z 7)) AF) (Z 10))))))))) (AB (AJ (Af (gM (HN TD ab 6 [nz,og,oU] [1,7,9] (λlf c' A' al s' s E v=>DV (Z 0) BT.cl bC v Dh (gM (Z 1) (Z 2)))) EV))))) AL)
    (AC (AU (AK Aq (Z 8) AF (AO _)) (AC (Ah (Bj (Z 2) (gX (gT a6 v (AA (Z 5) (gM (Z 7) (AW CL (Am hu (Z 6) AM) (AW Bh (Am hu (Z 6) AM) (Ak (AZ d rfl) (Am hu (Z 5) (Z 7)) AF))))))))) (AB (AJ (Af (gM (HN TD ab 7 [nz,og] [1,7] (λlf c' A' al s' s E v=>DV (Z 0) BT.cl bB v Dh (gX (Z 1)))) EV))))) AL)
    (AC (AU (AK Aq (Z 8) AF (AO _)) (AC (A4 13 nd (A0 Gv rfl mD E3 (gX (Z 5)))) (AC (Ah (J4 (Z 13) (Z 7) (rfl,rfl,rfl,rfl))) (AC (Ah (Bj (Z 2) (gX (Z 13)))) (AB (AJ (Af (gM (HN TD ab 8 [nz,og] [1,7] (λlf c' A' al s' s E v=>DV (Z 0) BT.cl br v Dh (gX (Z 1)))) EV))))))) AL)
    (AC (AU (AK Aq (Z 8) AF (AO _)) (AC (AU (AK Aq (AS (A8 d rfl) rfl bn.50 tu (gX (Z 2))) AF (AO _)) (AB (AJ (Af (gM (HN TD ab 9 [nz] [1] (λlf c' A' al s' s E v=>Vk (Z 0) BT.cl bx v Dh)) (Af (gM AM AM)))))) AL) (AC (Ah (Gi plainAttrs_list slot_list_pop type_list_pop Ia (Z 2))) (AB (AJ (Af (gM (HN TD ab 10 [nz] [1] (λlf c' A' al s' s E v=>Vk (Z 0) BT.cl bx v Dh)) EV)))))) AL)
    (AB (AJ (gT bX v (AA (Z 0) (AA (Z 1) (AA (Z 2) (AA (Z 3) (gM (Z 4) (Z 7))))))))))))))))))),?_)
  show iL λN S=>?_;let(y,j,r,g,D,Fs,rfl,W,t,ch,hD,dk,lG,hrn,aC):=h;let(j8,ht,X,hn):=W.tb;let((F0,eF),lF):=ch.last;let(bs,jV,hu2):=W.du;subst eF;let(ts,a,rfl,fm,ha):=Cf X;show(7,7,(y.t,_,-1,.r a,Y,Y,fV.of ht,Nh _ _,7,(y.u,bs,j,Y,jV,hu2,dk.50,dk.lt,λo e cl ms H1 s1 h1 h2 h3 h4=>?_)));let W1:=W.same t s1;let(a0,b0,kf):=W1.di;show(7,(y.d,a0,b0,Y,kf,λx H2 s2 C=>(by change 3<=sizeLine;decide,λp fq=>?_)));let W2:=W1.g6 t s2;let s3:=AD (fJ.r H2) fq (o:=HO.t [.r a,.r o,.s x]);show(p,7,gB.of fH,Y,_,7,_,7,_,7,Y,?_);show(ir S (iL λN S=>?_):N _ _);generalize upd H2 p (HO.t [.r a,.r o,.s x])=H3 at s3;let W3:=W2.15 t s3;let(a1,b1,mr):=W3.di;show(7,(y.d,a1,b1,8,Y,mr,qc,by trivial,λas a' b' i0 i8=>?_));show(ir S (iL λN S=>?_):N _ _);let s4:gC y.d H3 (upd H3 y.d (.l [.t a',.t b'])):=(λb o e h=>by rw[AE h];show e,(a',b',fH));generalize upd H3 y.d (.l [.t a',.t b'])=H4 at s4;let W4:=W3.g6 t s4;let(a2,b2,hd4):=W4.di;let(bs4,hu4,ht4):=W4.du;show(7,7,(y.d,y.u,4,a2,b2,bs4,j,Y,hd4,hu4,ht4,lG,dk,qc,t.ud,λT az ns H5 s5 cs hq hl Nm=>?_));show(T,7,gB.of hq,Y,_,7,_,7,Y,?_);let H:=W4.g6 t s5;let an:Kp y aR H5:=((((Kp.nx (.same s1)).6 (.one s2.88 (sU rfl))).6 (.nx (.same s3))).6 (.one s4.88 (sU rfl))).6 (.one s5.88 (sU rfl));let ol:∀b u,aR b=U u->b≠y.d->H5 b=U u:=λb u e hb=>s5.88 _ _ (s4.88 _ _ (s3 _ _ (s2.88 _ _ (s1 _ _ e) hb)) hb) hb;let ag:=ol _ _ ht (sX t.dt)
  let bK:H5 o=U (.d (QP j e cl)):=by
   let bk:o≠y.d:=λz=>by ext
   show s5.88 _ _ (s4.88 _ _ (s3 _ _ (s2.88 _ _ h1 bk)) bk) bk
  let cf:∀b u,H4 b=U u->az≠b:=λb u e z=>by ext
  let(_,(I,hk,EK),hae,_):=H.at ag
  let b7:(An I (sS x)).24=(g x).24:=by
   cases e:g x with
   |none=>rw[EK.no e];rfl
   |some z=>
    let(t',h1,_):=EK.vl x z.1 z.2 e
    ext
  show(ir S ?_:N _ _);show(λbR s=>s=H5/\bR=sLs y r x a o as az (AY (ns.7 (look j))) (g x).24,λco hR=>(7,7,a,7,sU (_,sS x,sU hk,Y,Y),by rw[b7];show hR _ _ (Y,Y)),?_);intro bR s h;show iL λN S=>?_;let(rfl,rfl):=h
  let lt:az≠y.t:=by
   let(_,h,_):=W4.tb;show cf _ _ h
  let kl:kn j<2^20:=FU λn hn=>by
   let(p,X,rfl):=zh.mp hn;show dk.lt p X
  let bF:kg j:=λp X=>(dk.nm p X).2.1;let hF:(F0++[g]).9<200:=by rw[lF];lia
  let a8:iC s a g:=(I,hk,EK)
  let a3:∀{g' D' F' B},Kp y aR B->Ws l ar bd a7 y j r g' D' F' B->Ch j r F' D' g'->D'.9<=D.9+1->∀p,B p=io->bE (.r p) (upd B p (.t [.g,.g])):=λ{g' D' F' B}k6 G c6 l6 p X=>by
   let sp:=AD (fJ.r B) X (o:=HO.t [V.g,V.g]);show aC p .g .g g' D' F' _ fH .gJ (G.15 t sp) c6 (k6.6 (.nx (.same sp))) l6
  let a4:∀b,(D++[(x,(b))]).9<=D.9+1:=λb=>by simp
  show(7,_,7,Y,7,BF (λh=>?_) (λh=>?_))
  ·show(_,rfl,sU (rfl,_,fV.of ag),_,rfl,_,rfl,_,rfl,(a,g,x,_,rfl,a8,C,λp H1 s1 X ht=>?_));let(xs,A,ln,M,G):=H.gv t s1 X ht hF;show(y.t,_,_,rfl,rfl,A,ln,G.tabs _ f,λR Q t7=>?_);let(k7,q):=G.td t f un Q t7;show(_,rfl,q.B.no (_,rfl,_,rfl,.mk y.z j r g D x az ns rfl q.B C () (k7 _ _ (M _ _ hl lt) (λ_ z=>nomatch z)) Nm (q.dn t λH8 k8 W8=>(by trivial,a3 (((an.6 (.one M (sY rfl))).6 k7.kp).6 k8) W8 (ch.gv C W.B.ok) (a4 _)))))
  show(ir S (iL λN S=>?_):N _ _);let ku:¬ as<2:=λz=>h (zI z);show(7,_,7,Y,7,?_);by_cases h6:as<6
  ·rw[zI h6];show Aj (_,rfl,_,rfl,?_);cases hg:g x with
   |none=>
    show Aj ?_;show iL λaM eM=>?_;show(H.tabs _ f,λB s6 t6=>?_);let(k6,G):=H.td t f un s6 t6;show(7,G.B.no (7,7,.no y.z j r g D x _ Y G.B hg (G.uq t a5 λp1 R n7 q e7=>(by change 1<=sizeLine;decide,λl1 ll=>?_))));show(ir eM (iL λaM eM=>?_):aM _ _);let R1:=Rf.new q t ((an.6 k6.kp).6 (.nx n7)) ll e7;generalize upd R l1 (.l [.r p1])=H8 at R1;show R1.app t f un a5 Y (_) (λHa Q' Wa k u=>(7,Wa.B.no (7,7,.no y.z j r g D x _ Y Wa.B hg u))) λp2 H9 R2=>?_;show(ir eM (iL λaM eM=>?_):aM _ _);show R2.app t f un a5 Y (_) (λHa Q' Wa k u=>(7,Wa.B.no (7,.no y.z j r g D x Y Wa.B hg u))) λp3 b5 R3=>?_;show(ir eM (iL λaM eM=>?_):aM _ _);show R3.app t f un a5 Y (_) (λHa Q' Wa k u=>(7,Wa.B.no (7,.no y.z j r g D x Y Wa.B hg u))) λp4 a9 R4=>?_;show(ir eM ?_:aM _ _);show(7,by trivial,λT lC=>(by change 1<=sizeLine;decide,λl5 bI=>(l5,_,4,Y,Y,fV.of fH,qc,qc,λl6 be=>(by change 2<=sizeLine;decide,λp6 jW=>?_))));let sa:=AD (fJ.r _) lC (o:=jd oP);let ha:(upd a9 T (jd oP)) T=U (jd oP):=fH;generalize upd a9 T (jd oP)=Ha at sa ha bI be jW;let sb:=AD (fJ.r _) bI (o:=HO.l [.r T]);generalize upd Ha l5 (HO.l [.r T])=Hb at sb be jW;let sc:=AD (fJ.r _) be (o:=HO.l (tJ (4:Int).30 (.r T)));let hc:(upd Hb l6 (HO.l (tJ (4:Int).30 (.r T)))) l6=U (.l (tJ (4:Int).30 (.r T))):=fH;generalize upd Hb l6 (HO.l (tJ (4:Int).30 (.r T)))=Hc at sc hc jW;let sd:=AD (fJ.r _) jW (o:=HO.t [.r l1,.r l6]);let bM:(upd Hc p6 (HO.t [.r l1,.r l6])) p6=U (.t [.r l1,.r l6]):=fH;generalize upd Hc p6 (HO.t [.r l1,.r l6])=Hd at sd bM;let s4:fJ a9 Hd:=λb o e=>sd _ _ (sc _ _ (sb _ _ (sa _ _ e)));let h5:=sd _ _ (sc _ _ (sb _ _ ha));show aC p6 _ _ g D _ Hd bM (.rep (as':=tJ 4 T) (s4 _ _ R4.h) (sd _ _ hc) Y (λb hb=>s4 _ _ (R4.ts b hb)) λb hb=>(List.mem_replicate.mp hb).2 ▸ h5) (R4.W.15 t s4) ch (R4.kp.6 (.nx (.same s4))) (uX _)
   |some z=>
    let(n0,c0):=z;let(t',v1,v2):=EK.vl x n0 c0 hg;show AV ?_;show(ir S (iL λN S=>?_):N _ _);show(7,Y,7,BF (λe2=>?_) (λe2=>?_))
    ·show(_,rfl,sU (rfl,_,fV.of ag),_,rfl,_,rfl,_,rfl,_,rfl,a,_,rfl,sU (_,sS x,sU hk,rfl,v1.31),t',_,0,_,rfl,rfl,gB.of v2,rfl,_,rfl,_,_,rfl,rfl,(a,g,x,gOr n0 (AY (ns.7 (look j))),congrArg (λz=>[V.r a,V.s x,V.t z]) (CZ _ _),a8,C,λp H1 s1 X ht=>?_));let(xs,A,ln,M,G):=H.gv t s1 X ht hF;show(y.t,_,_,rfl,rfl,A,ln,G.tabs _ f,λR Q t7=>?_);let(k7,q):=G.td t f un Q t7;let cc:=k7 _ _ (M _ _ hl lt) (λ_ z=>nomatch z);let bl:=(an.6 (.one M (sY rfl))).6 k7.kp;show(_,rfl,q.B.no (_,rfl,_,rfl,az,_,rfl,sU (fV.of cc,λtp cd=>?_)));let sp:=AD (fJ.r R) cd (o:=HO.t (ns.7 V.s));let W8:=q.15 t sp;show .mk y.z j r g D x tp ns iY n0 c0 rfl W8.B C () fH Nm bF hg (W8.dn t λH9 k9 W9=>(by trivial,a3 ((bl.6 (.nx (.same sp))).6 k9) W9 (ch.gv C W.B.ok) (a4 _)))
    show(ir S (iL λN S=>?_):N _ _);show(7,Y,7,BF (λe3=>?_) (λe3=>?_))
    ·show(_,rfl,sU (rfl,_,fV.of ag),_,rfl,_,rfl,_,rfl,_,rfl,a,_,rfl,sU (_,sS x,sU hk,rfl,v1.31),t',_,0,_,rfl,rfl,gB.of v2,rfl,_,rfl,_,rfl,a,_,rfl,sU (_,sS x,sU hk,rfl,v1.31),t',_,0,_,rfl,rfl,gB.of v2,rfl,_,rfl,_,_,rfl,rfl,_,_,rfl,rfl,(a,g,x,EI n0 (AY (ns.7 (look j))),congrArg (λz=>[V.r a,V.s x,V.t z]) (IP _ _),a8,C,λp H1 s1 X ht=>?_));let(xs,A,ln,M,G):=H.gv t s1 X ht hF;show(y.t,_,_,rfl,rfl,A,ln,G.tabs _ f,λR Q t7=>?_);let(k7,q):=G.td t f un Q t7;let bl:=(an.6 (.one M (sY rfl))).6 k7.kp;show(_,rfl,q.B.no (_,rfl,_,rfl,.mk y.z j r g D x az ns i7 n0 c0 rfl q.B C () (k7 _ _ (M _ _ hl lt) (λ_ z=>nomatch z)) Nm bF hg (q.dn t λH9 k9 W9=>(by trivial,a3 (bl.6 k9) W9 (ch.gv C W.B.ok) (a4 _)))))
    show(ir S (iL λN S=>?_):N _ _);show(7,Y,7,BF (λe4=>?_) (λe4=>?_))
    ·show(7,sU (Y,_,fV.of ag),7,7,7,o,7,sU (_,sS ph,sU bK,Y,(DA _ _ _).31),7,o,7,sU (_,sS ph,sU bK,Y,(DA _ _ _).31),7,7,a,7,sU (_,sS x,sU hk,Y,v1.31),t',_,0,7,Y,gB.of v2,Y,_,7,Y,_,7,Y,(a,g,x,kn j-(kn j&&&n0),congrArg (λz=>[V.r a,V.s x,V.t z]) (IP _ _),a8,C,λp H1 s1 X ht=>?_));let(xs,A,ln,M,G):=H.gv t s1 X ht hF;show(y.t,_,7,Y,A,ln,G.tabs _ f,λR Q t7=>?_);let(k7,q):=G.td t f un Q t7;show(7,q.B.no (7,.mk y.z j r g D x n0 c0 Y q.B C () kl hg (q.dn t λH9 k9 W9=>(by trivial,a3 (((an.6 (.one M (sY Y))).6 k7.kp).6 k9) W9 (ch.gv C W.B.ok) (a4 _)))))
    show(ir S (iL λN S=>?_):N _ _);show(7,Y,7,BF (λe5=>?_) (λe5=>?_))
    ·show(7,a,I,Y,sU hk,λp X=>?_);let s6:=AD (fJ.r s) X (o:=HO.d I);let u6:(upd s p (.d I)) p=U (.d I):=fH;generalize upd s p (.d I)=B at s6 u6;show(7,p,Y,sU (_,sU u6),7,I,sS x,_,u6,Y,v1,?_);let Q:fJ s (upd B p (.d (CO I (sS x)))):=λb o e=>by rw[AE (AH e X)];show s6 _ _ e
     let u7:(upd B p (.d (CO I (sS x)))) p=U (.d (CO I (sS x))):=fH;generalize upd B p (.d (CO I (sS x)))=R at Q u7;let(xs,A,ln,o8,W8):=H.gv t Q X (_,u7,(EK.32 λb xs e=>Q _ _ e).drop) hF;show(7,sU (Y,_,fV.of A),7,y.t,_,7,Y,A,ln,W8.tabs _ f,λH9 s9 t9=>?_);let(k9,W9):=W8.td t f un s9 t9;show(7,W9.B.no (7,.mk y.z j r g D x n0 c0 Y W9.B () hg (W9.dn t λb5 ce b6=>(by trivial,a3 (((an.6 (.one o8 (sY Y))).6 k9.kp).6 ce) b6 (ch.drop C W.B.ok (by rw[hg];simp)) (a4 _)))))
    ·have n2:as≠2:=λz=>e2 (zI (congrArg V.t z));let n3:as≠3:=λz=>e3 (zI (congrArg V.t z));let n4:as≠4:=λz=>e4 (zI (congrArg V.t z));let n5:as≠5:=λz=>e5 (zI (congrArg V.t z))
     lia
  ·rw[zL h6]
   let no:∀k:Int,k<6->decide (V.t as=V.t k)=iY->False:=λk hk z=>by
    have:=V.t.inj (zS z)
    lia
   show AV (AV ?_)
   iterate 4
    show(ir S (iL λN S=>?_):N _ _);show(7,Y,7,BF (λz=>(no _ qc z).40) λ_=>?_)
   show(ir S (iL λN S=>?_):N _ _);show(7,Y,7,BF (λ_=>?_) (λ_=>?_))
   ·let(hpt,_,_,hnt):=H.at ag;let cg:=K9 hpt;show(7,y.t,7,sU (fV.of ag),Y,7,BF (λA=>?_) (λA=>?_))
    ·have l1:(((ts++[a]).7 V.r).9:Int)=1:=V.t.inj (zS A);rw[AN,zE]at l1;rw[zE]at lF;let d0:D=[]:=vP (by simp at l1 lF;lia);subst d0;show(H.tabs _ f,λB s6 t6=>?_);let(k6,G):=H.td t f un s6 t6;show(7,G.B.no (.no y.z j r g Y G.B (G.uq t bS λp1 R n7 q e7=>(by trivial,λp2 fq=>(by change 2<=sizeLine;decide,λp3 bL=>?_)))));let sa:=AD (fJ.r _) fq (o:=jd pz);let ha:(upd R p2 (jd pz)) p2=U (jd pz):=fH;generalize upd R p2 (jd pz)=H8 at sa ha bL;let sb:=AD (fJ.r _) bL (o:=HO.t [.r p1,.r p2]);let s2:fJ R _:=λb o e=>sb _ _ (sa _ _ e);show aC p3 _ _ g [] _ _ fH (.two (s2 _ _ e7) (sb _ _ ha) qd) (q.15 t s2) ch (((an.6 k6.kp).6 (.nx n7)).6 (.nx (.same s2))) (uX _)
    ·show(7,sU (Y,_,fV.of ag),y.t,_,.r a,Y,Y,ag,by simp,?_);let el:((ts++[a]).7 V.r).dropLast=ts.7 V.r:=by rw[zl];show List.dropLast_concat
     rw[el];let M:∀b o,s b=U o->b≠y.t->(upd s y.t (.l (ts.7 V.r))) b=U o:=λb o e hb=>by rw[AE hb];show e
     let G:=H.pop t ag hpt hnt;generalize upd s y.t (.l (ts.7 V.r))=B at M G;show(G.tabs _ f,λR Q t7=>?_);let(k7,q):=G.td t f un Q t7;let(rfl,z)||(D0,g0,x0,rfl,c0,hx0,eg,hn0,ok0):=ch.12
     ·rw[z]at cg;show absurd (zI (_)) A
     ·show(7,q.B.no (.mk y.z j r g D0 x0 (g0 x0) Y q.B hx0 hn0 (λn c e=>ok0 x0 n c e) (q.dn t λH9 k9 W9=>(by trivial,a3 (((an.6 (.one M (sY Y))).6 k7.kp).6 k9) (eg ▸ W9) c0 (by rw[zE];lia)))))
   ·show(ir S ?_:N _ _);show(7,7,7,7,7,7,.mk y j r g D _ x Y H t ch hD dk lG hrn C λp a b g' D' F' B A e2 e3 e4 k az=>aC p a b g' D' F' B A e2 e3 e4 (an.6 k) az)
noncomputable abbrev iQ:List Nat:=[97,98,120]
theorem Rw:("abx":Str).4=iQ:=by rfl
theorem JT:∀c∈iQ,Dw c=L:=by decide
theorem Xb{z}{g:TG}{s:TS}{D:Jt}{b}(a:Nat->St->Hp->Prop)(q:a 0 b H)
  (w:∀i c b H,z.cps[i]?=U c->a i b H->g (.s ⟨#[c]⟩) b H λd l=>s {D with nx:=a (i+1),ct:=a (i+1),bk:=D.nx} d l) (r:∀b H,a z.82 b H->D.nx b H):
  ∃W:Nat->Nat->St->Hp->Prop,(∃m,W 0 m b H)/\∀i m b H,W i m b H ->
   ((Its z).stop i H/\D.nx b H)\/((Its z).go i H/\∃N,(∀h f,N h f->∃o,o<m/\W (i+1) o h f)/\∀x f,(Its z).j7 i H x f->g x b f λd l=>s {D with nx:=N,ct:=N,bk:=D.nx} d l):=by
 show(λi m b H=>C₃ (m=z.82-i) (i<=z.82) (a i b H),(z.82,by simp,tH _,q),?_);rintro i m b H ⟨rfl,A,p⟩;by_cases j:i<z.82
 ·show sY (j,a (i+1),λh f t=>(z.82-(i+1),by lia,Y,j,t),λx f y=>?_);let(e,c,u,v):=y;subst e;subst v;show w i c b _ u p
 ·have e:i=z.82:=by lia
  subst e;show sU (zp _,r b H p)
noncomputable abbrev sgn(c:Nat):Str:=⟨#[c]⟩
structure mY(g:En)(cs:List Nat)(lk:LK):Prop where
 v:∀c,An lk (sS (sgn c))=if c∈cs then (g (sgn c)).7 λp=>V.t (p.1:Int)else J
 l:lk.9<=cs.9
theorem Vp{a:LK}:(BS a k v).9<=a.9+1:=by
 unfold BS
 grind
theorem mY.no{g}{a}{c}(h:mY g a b)(i:c∉ a)(e:g (sgn c)=J):mY g (a++[c]) b:=by
 show(λd=>?_,tT h.l (_));rw[h.v]
 grind
theorem mY.yes(h:mY g b f)(e:g (sgn c)=U (n,(k))):mY g (b++[c]) (BS f (sS (sgn c)) (.t (n:Int))):=by
 show(λd=>?_,tT Vp (by rw[zE];show Nat.succ_le_succ h.l));rw[HZ,h.v]
 grind
theorem JU:∀{t:LT},t.Ok f sg->(∀c∈sg,sgn c∈t.tr.72->c∈i)->t.Ok f i
 |.nm _,h,_=>h
 |.no _,h,_=>h
 |.le c,h,k=>k c h (zz.49 rfl)
 |.ng t,h,k=>JU (t:=t) h λc d e=>k c d (zM _ e)
 |.bn _ a b,h,k=>(h.1,JU h.2.1 λc d e=>k c d (zM _ (_)),JU h.2.2 λc d e=>k c d (zM _ (_)))
theorem IQ:∀t:LT,t.89 (due,d,f)=t.89 (due,k2,f)
 |.nm _=>rfl
 |.no _=>rfl
 |.le _=>rfl
 |.ng t=>congrArg (λz=>kn due-(kn due&&&z)) (IQ t)
 |.bn g a b=>by
  change g.f (a.89 _) (b.89 _)=g.f (a.89 _) (b.89 _);rw[IQ a,IQ b]
noncomputable def sgH(g:En):List Nat:=iQ.21 λc=>(g (sgn c)).24
theorem Ni(ok:la due r g)(h:∀c∈iQ,An kvs (sS (sgn c))=(g (sgn c)).7 λp=>V.t (p.1:Int)):LtN (due,kvs,kh g) (sgH g):=λc j=>by
 let(d,i):=mem_filter.mp j;let((n,k),e):=uD.mp i;let a:kh g (sgn c)=n:=by unfold kh;rw[e];rfl
 show(JT c d,?_,?_)
 ·simp[*]
 ·show kh g (sgn c)<2^20;rw[a];show(ok (sgn c) n k e).1
theorem Kp.dk(k:Kp y H f)(W:Ws j C bd T y due r g D F H)(e:H b=U (.d i))(n:b≠y.z.e):f b=U (.d i):=by
 let(_,_,h):=W.di;let(_,d,_):=W.B.de;let(_,a,_):=W.tb;show k b _ e (λz=>by ext) n (λz=>by ext) (λz=>by ext) (λ_ z=>nomatch z) (λ_ z=>nomatch z)
theorem Kp.tp(k:Kp y H f)(W:Ws l C bd T y due r g D F H)(e:H b=U (.t j)):f b=U (.t j):=by
 let(_,_,d):=W.di;let(_,h,_):=W.B.de;let(_,a,_):=W.tb;let(_,i,_):=W.B.en;show k b _ e (λz=>by ext) (λz=>by ext) (λz=>by ext) (λz=>by ext) (λ_ z=>nomatch z) (λ_ z=>nomatch z)
inductive Fo(b C bd:nq)(T:List (nq×Str×List Pos))(y:Zw)(due:Aa)(r:Str)(g:En)(D:lI)(F:List En)(x:Str)(t:LT)(v:Nat)(d:V)(H:Hp):Prop
 |lack (p) (e:d=.r p) (h:H p=U (jd pG)) (c) (j:c∈iQ) (l:sgn c∈t.tr.72) (m:g (sgn c)=J) (W:Ws b C bd T y due r g D F H)
 |bad (p) (e:d=.r p) (h:H p=U (.t [.s nU,.s oX,.t (AX due (v):Nat)])) (i:∀c∈iQ,sgn c∈t.tr.72->g (sgn c)≠J) (f:O6 r due v) (W:Ws b C bd T y due r g D F H)
 |ok (e:d=.g) (i:∀c∈iQ,sgn c∈t.tr.72->g (sgn c)≠J) (f:¬ O6 r due v) (W:Ws b C bd T y due r (jD g x (mkN r due v)) (D++[(x,(g x))]) F H)
noncomputable def jo(b:Str)(g:En)(c:Nat):Bool:=decide (c∈b.4) && !(g (sgn c)).24
noncomputable def kG:List Pos:=[(688,27,688,78)]
noncomputable abbrev q3:Str:="_law_reckoning.<locals>." ++ nO
noncomputable abbrev NLr:ni:=[ny,nz,pI,n8,oY,og,nZ,"_law_own",qx,"_law_one",nI,oZ,qz,"_law_sign",pP,"_law_left",rX]
noncomputable abbrev pLr:ni:=[ny,nz,pI,n8,oY,og]
theorem scLr:AI NLr pLr (defScope Be):=gQ
noncomputable def sLr(y:Zw)(r x:Str)(a o u:nq)(b c d e f g h:Option V):St:=[U (.r y.d),U (.r y.z.b),U (.r y.t),U (.r y.u),U (.s r),U (.s x),U (.r a),U (.r o),U (.r u),b,c,d,e,f,g,J,h]
theorem bp(F:jM f oA oA Be a7 fd c)(hC:vX ag c P0)(ca:ag.47 mg P0)(TB:TdB ar w f mg ag ec cM)(hT:(P0,q3,(kG))∈a6)(un:∀al∈a6,al.1=P0->al=(P0,q3,(kG)))(bn:Bl mg)(BT:DR f BC)(EF:Jf f ec cR 1)(b3:Fv f ec cM cN 6)
  (GT:Fn ar w f mg ag o9 2 [n8] spTable) (b5:Fn ar w f mg ag rl 1 [nZ,og,nI] spLgv) (GF:Fn ar w f mg ag qY 7 Ve spForm) (b4:Fn ar w f mg ag pM 5 K3 (spCome 3)) (b6:Fn ar w f mg ag rh 1 [nZ,oY,nI] spLMade)
  (b7:DS ar w f mg ag BC "reckon" 8 [nv,nC,pa] (spRc BC br cR cN bd)):AT ar w f mg ag gG 11 a7 fd pLr (spLr f BC br bd a6):=by
 show F.ok scLr (λvs H bu a2 h=>?_) (λbm bW an H vs bu a2 T h=>?_)
 ·let(_,_,_,_,_,_,_,rfl):=h;rfl
 ·have A:=scLr.nd;let hu:=BY T;let TD:=TB.at (N:=NLr) (qq:=q3) (q:=oA) (sc:=defScope Be) (f:=a7) (A:=bm) (outer:=bW) (s:=an) (H:=H) (E:=a2) hC ca (ls:=kG) (by rfl)
  show(_,AC (Bf (hs:=by rfl) (hw:=by rfl) (Af (AA (Ak (Ao f Y) (pv 2) (Db D7 AF)) (gM (gT GT T (gX (pv 3))) B8))) (BG Y (AQ (A7 6 A) (AQ (A7 7 A) (AQ (A7 8 A) Av)))))
   (Aw (Bt tK rfl (Ay (pv 3)) (BG rfl (AQ (A7 9 A) (AQ (A7 10 A) Av))) (AB (Cn hu (pv 8) (pv 9) (pv 10) rfl)))
   (Aw (Bf (gT GF T (AA (pv 0) (gM (EJ [] [] (by rfl) (_) (by rfl) (by rfl) rfl (Ay (pv 3)) (λ_ _ _ _ _ _=>BP) (λ_ _ _ _ _ _=>pv 0)) AM))) (BG rfl (AQ (A7 16 A) (AQ (A7 11 A) Av))))
   (AC (A4 12 A B8)
   (Aw (Bt tK rfl (J9 AM) (A7 13 A) (AB (AU (CW (Gk hu (pv 13) (pv 6))) (AB (Cn hu (pv 12) (pv 13) (Ak (AZ f rfl) (Am hu (pv 6) (pv 13)) AF) rfl)) AL)))
   (Aw (A4 14 A (HN (k:=8) TD T 0 [nz,og,rX] [1,5,16] (λlf c' A' de s' u a2 T=>DV (pv 0) BT.cl b7 T Dh (gM (pv 1) (pv 2)))))
   (AC (AU (AK (Gn f rfl T.42) (BJ [rX,nZ] [U 16,U 6] (by rfl) (_) (by rfl) rfl (J9 AM) (λ_ _ _ _ _ _=>DD (PW.pt (Cj (AK P5 (pv 0) (pv 1) rfl) (Bu (CW (F3 hu (pv 0) (pv 2))))))) (λ_ _ _ _ _ _=>pv 0)) (BA AG) (AO _)) (AB (AJ (Af (gM (pv 14) (Af (gM AM AM)))))) AL)
   (AC (A4 10 A (gT b6 T (AA (pv 7) (gM (pv 4) (gT b4 T (AA (pv 11) (AA (pv 8) (gM (Am hu (pv 7) AM) (pv 12)))))))))
   (AC (AU (Al (BZ f rfl rfl bn.iP rfl bn.56 Bs (pv 10))) (AC (A4 15 A (BW (AK Aq (Ak (AZ f rfl) (pv 10) AF) AM (AO _)) (Ak (AZ f rfl) (pv 10) AF) AF))
     (AB (AJ (Af (gM (pv 14) (BW (AK Aq (Ak (AZ f rfl) (pv 10) AF) AM (AO _)) (Af (AA AM (gM AM (AW CL (pv 15) (AW Bh (pv 15) (Am hu (pv 7) AM)))))) (pv 10))))))) AL)
   (AC (Ah (Bj (pv 2) (gX (gT b5 T (AA (pv 6) (gM (pv 5) (pv 10)))))))
   (AB (AJ (Af (gM (pv 14) EV))))))))))))),?_)
  show iL λN I=>?_;let(y,d,r,g,a1,Fs,x,rfl,W,O,ch,hD,dk,lG,hrn,hx,al):=h;let(j8,ht,hp,hn):=W.tb;let((F0,eF),lF):=ch.last;let(bs,jV,hu2):=W.du;subst eF;let(ts,a,rfl,as,ha):=Cf hp;show(7,7,(y.t,_,-1,.r a,Y,Y,fV.of ht,Nh _ _,7,(y.u,bs,d,Y,jV,hu2,dk.50,dk.lt,λo e bS ms H1 s1 q h2 h3 h4=>?_)));let W1:=W.same O s1;show λS be=>(by change 3<=sizeLine;decide,λp fq=>?_);let s2:=AD (fJ.r H1) be (o:=HO.d []);let bI:=fH (H:=H1) (a:=S) (o:=HO.d []);generalize upd H1 S (HO.d [])=H2 at s2 bI fq;let s3:=AD (fJ.r H2) fq (o:=HO.t [.r a,.r o,.r S]);show(p,7,gB.of fH,Y,_,7,_,7,_,7,Y,?_);generalize upd H2 p (HO.t [.r a,.r o,.r S])=H3 at s3;let cd:=s3 _ _ bI;let bX:=s2.6 s3;let(bs1,hv1,lR):=W1.du
  let lq:bs1.9=d.9:=by
   rw[lR.9];unfold C9;rw[AN]
  let keep:∀{H3:Hp}(o:HO),fJ H1 H3->fJ H1 (upd H3 S o):=λ{H3}o an b w e=>by rw[AE (AH e be)];show an b w e
  show(ir I (my λN I=>?_):N _ _);show(λm u=>C₃ (∃x9 ab,m=sLr y r x a o S x9 ab J J J J J) (u S=U (.d (A9 d))) (fJ H1 u),λa5 hR=>?_,?_)
  ·show(7,y.u,Y,(_,fV.of (bX _ _ hv1)),Bg (ω:=f) (a:=y.u) (xs:=bs1.7 V.r) (λj m u=>C₃ (∃x9 ab,m=sLr y r x a o S x9 ab J J J J J) (u S=U (.d (A9 (d.12 j)))) (fJ H1 u)) ((_,7),cd,bX) (λj m u _ h=>fV.of (by let(_,_,q):=h;show q _ _ hv1)) ?_ (λm u h=>hR _ _ ?_))
   ·rintro j v m H4 hj ⟨⟨x9,ab,rfl⟩,a9,s4⟩;let(bb,pr,rfl,_,as,fk):=Cd (fQ.gK (gF.of s4) lR) hj;show(bb,7,gB.of fk,Y,_,7,_,7,Y,?_);let mv:=dk.50;show(7,7,7,S,7,sU (_,sS pr.1,a9,Y,AR ?_,Y),(_,7),?_,keep _ s4)
    ·unfold A9;rw[AN,zr]
     lia
    ·rw[fH,NK (Vo dk.nd as),zw,as];rfl
   ·let(q,h2,h3):=h;rw[AN,lq,zt]at h2;show(q,h2,h3)
  intro m H4 h;show(ir I (my λN I=>?_):N _ _);let((x9,ab,rfl),a9,s4):=h;let W4:=W1.15 O s4;let co:=s4 _ _ q;let cx:=s4 _ _ (s1 _ _ ht);let bM:=s4 _ _ hv1;let cL:=fQ.gK (gF.of s4) lR;let cP:Kp y H H4:=.nx (.same (s1.6 s4));show(λm u=>E₃ λ(G:Str)(tv:V)(t:LT)=>C₈ (m=sLr y r x a o S x9 ab (U tv) J J J (U (.s G))) (i5 u tv t) (t.Ok (d.7 (·.1)) iQ) (t.ht<=3) (Wr iY t.tr 0 G.4) (G.27 (· < 128)=iY) (G.9<=56) (gC y.d H4 u),λa5 hR=>?_,?_)
  ·show(7,7,y.u,Y,(_,fV.of bM),DX (ω:=f) (a:=y.u) (xs:=bs1.7 V.r) (λi ys u=>ys=((d.12 i).7 (·.1)).7 V.s/\u=H4) (Y,Y) (λi ys u _ K=>by let(_,e):=K;show e ▸ fV.of bM) (λi ys u (e,_)=>?_) ?_ ?_)
   ·have:=dk.50;rw[e,AN,AN,zr]
    lia
   ·rintro i v ys u hi ⟨rfl,rfl⟩;let(bb,pr,rfl,_,as,fk):=Cd cL hi;show(bb,7,gB.of fk,Y,_,7,_,7,Y,?_);show(7,?_,Y);rw[zw,as,ui,zl,zl];rfl
   ·rintro ys u ⟨rfl,rfl⟩ wl cO;rw[AN,lq,zt];let sw:=AD (fJ.r _) cO (o:=HO.l ((d.7 (·.1)).7 V.s));let bN:=fH (H:=u) (a:=wl) (o:=HO.l ((d.7 (·.1)).7 V.s));generalize upd u wl (HO.l ((d.7 (·.1)).7 V.s))=H5 at sw bN ⊢;let W5:=W4.15 O sw;let(x5,y5,hd5):=W5.di;show(y.d,wl,x5,y5,d.7 (·.1),"abx",Y,hd5,bN,by rw[AN];lia,by rw[AN];show dk.50,λx hx=>?_,by trivial,Rw ▸ JT,λal G tv t H6 s6 hq lt ok ht wz az lz=>?_)
    ·let(p,hp,rfl):=zh.mp hx;let(q,h2,h3):=Ri (n:=(d,[],kh g)) dk hp;let hn:=(dk.nm p hp).1;unfold C8 at hn;simp only[tA,decide_eq_true_eq]at hn;show(q.pw iY (sY Y),q.ok.as,h2,λc l=>by have:=all_eq_true.mp hn.2 c l;simp[EE]at this;lia)
    ·rw[Rw]at ok;show(al,7,gB.of hq,Y,_,7,_,7,Y,hR _ _ (G,tv,t,Y,lt,ok,ht,wz,az,lz,(λb o e hb=>s6.88 _ _ (sw _ _ e) hb,s6.g6)))
  intro m H5 h;show(ir I (iL λN I=>?_):N _ _);let(G,tv,t,rfl,lt5,ok,mn,wz,az,lz,s5):=h;let W5:=W4.g6 O s5;let(xd,yd,hd4):=W4.di;let cB:=s5.88 _ _ cx (sX O.dt);let ce:=s5.88 _ _ a9 λz=>by ext
  let(_,(kvs,hk,EK),hae,_):=W5.at cB;let cQ:=cP.6 (.one s5.88 (sU rfl));let c7:S≠y.z.e:=W1.ze be;show λQ a8=>?_;let s6:=AD (fJ.r H5) a8 (o:=HO.d []);let bE:=fH (H:=H5) (a:=Q) (o:=HO.d []);generalize upd H5 Q (HO.d [])=H6 at s6 bE;let keep:∀{H3:Hp}(o:HO),fJ H5 H3->fJ H5 (upd H3 Q o):=λ{H3}o an b w e=>by rw[AE (AH e a8)];show an b w e
  show(ir I (my λN I=>?_):N _ _);show(λm u=>C₃ (∃aM,m=sLr y r x a o S x9 ab (U tv) (U (.r Q)) aM J (U (.s G))) (∃X,u Q=U (.d X)/\mY g iQ X) (fJ H5 u),λa5 hR=>?_,?_)
  ·show("abx",Y,qb,Xb (z:="abx") (λj m u=>C₃ (∃aM,m=sLr y r x a o S x9 ab (U tv) (U (.r Q)) aM J (U (.s G))) (∃X,u Q=U (.d X)/\mY g (iQ.12 j) X) (fJ H5 u)) ((_,Y),([],bE,λc=>rfl,zp _),s6) ?_ (λm u h=>hR _ _ h));rintro j c m H7 l ⟨⟨aM,rfl⟩,⟨X,a3,LD⟩,B⟩;let kA:iQ[j]?=U c:=by rwa[←Rw,ug]
   let tk:iQ.12 (j+1)=iQ.12 j++[c]:=by rw[zw,kA];rfl
   let cl:c∉ iQ.12 j:=λz=>by
    let hj:=(z8.mp kA).1;have:j=0\/j=1\/j=2:=by simp at hj;lia
    let rfl||rfl||rfl:=this<;>(cases kA;revert z;decide)
   let bB:=B _ _ hk;show(7,7,a,7,sU (_,sS (sgn c),sU bB,Y,Y),7,?_);cases eg:g (sgn c)with
   |none=>
    rw[EK.no eg];show AV ((_,Y),(X,a3,tk ▸ LD.no cl eg),B)
   |some z=>
    let(n0,c0):=z;let(t',v1,v2):=EK.vl (sgn c) n0 c0 eg;rw[v1];show Aj (7,7,a,7,sU (_,sS (sgn c),sU bB,Y,v1.31),t',_,0,7,Y,gB.of (B _ _ v2),Y,7,7,Q,7,sU (_,sS (sgn c),a3,Y,AR ?_,Y),(_,Y),(_,fH,tk ▸ LD.yes eg),keep _ B);have:=LD.l;let h3:iQ.9=3:=rfl;rw[zr]at this
    lia
  intro m H7 h;show(ir I (my λN I=>?_):N _ _);let((aM,rfl),(X,a3,LD),B):=h;let M:=W5.15 O B;let bL:=B _ _ (s5.88 _ _ co λz=>by ext);let cf:=B _ _ ce;let c5:=lt5.gK λb xs e=>B _ _ e;let cU:=cQ.6 (.nx (.same B))
  let oe:o≠y.z.e:=λz=>by
   let(ks,q,h2):=M.B.en;rw[←z,bL]at q;cases q;let(ms,e1,e2):=h2.ks;have:(sS ph:Key)∈ms.7 sS:=e1 ▸ zF ..;show absurd (e2.w _ (inr_mem.mp this)) (_)
  let b2:=EK.32 λb xs e=>B _ _ e;let(v,hv):∃v,v=t.89 ⟨d,X,kh g⟩:=(_,rfl);let PW:=Jr (n:=(d,X,kh g)) dk ok JT
  let dd:t.tr.post.9<=15:=by
   let q:=IN t;let h2:2^(t.ht+1)<=2^4:=vQ qc ();let h3:(2:Nat)^4=16:=by decide
   lia
  show(λm u=>∃fo,C₃ (m=sLr y r x a o S x9 ab (U tv) (U (.r Q)) aM (U fo) (U (.s G))) (Fo BC br bd a6 y d r g a1 (F0++[g]) x t v fo u) (Kp y H7 u),λa5 hR=>?_,?_)
  ·show(M.tabs _ hT,λH8 s8 t8=>?_);let(k8,W8):=M.td O hT un s8 t8;show(7,W8.B.no (7,7,.mk y.z d r g a1 x G t.tr.72 Y W8.B hx () (VB dk.lt) az () (VU wz) (ZV PW ()) W8.hb hrn ?_));by_cases aR:∀c∈iQ,sgn c∈t.tr.72->g (sgn c)≠J
   ·have aC:t.Ok (d.7 (·.1)) (sgH g):=JU ok λc l s=>mem_filter.49 (l,vh.49 (aR c l s));let LN:=Ni (kvs:=X) M.B.ok λc l=>by rw[LD.v,zf l]
    show .go v (λan P hl=>?_) (λbO TG=>?_) (hv ▸ Ng (n:=(d,X,kh g)) dk LN aC) ?_
    ·let(c,l,rfl):=(PW an P).m hl;show aR c l P
    ·rw[hv,IQ (k2:=bO) t];show VW (Ru (n:=(d,bO,kh g)) dk (Ni M.B.ok λc l=>TG.v _ (JT c l)) aC)
    ·by_cases hb:O6 r d v
     ·show sU (hb,Vn EF λp H9 n9 e9=>hR _ _ (7,.bad p Y e9 aR hb (W8.nx O n9),k8.kp.6 (.nx n9)))
     ·show sY (hb,W8.dn O λH9 k9 R=>hR _ _ (7,.ok Y aR hb R,k8.kp.6 k9))
   ·let(c,l,s,hn):∃c,c∈iQ/\sgn c∈t.tr.72/\g (sgn c)=J:=uY λz=>aR λc l s e=>z (c,l,s,e);show .lack (sgn c) s (JT c l) hn (W8.uq O b3 λp H9 n9 R e9=>hR _ _ (7,.lack p Y e9 c l s hn R,k8.kp.6 (.nx n9)))
  intro m H8 h;show(ir I (iL λN I=>?_):N _ _);let(fo,rfl,FO,k8):=h;let bC:=k8.dk M (B _ _ hk) hae;let cs:=k8.dk M bL oe;let cg:=k8.dk M cf c7;let cc:=k8.dk M a3 (W5.ze a8);let a4:=b2.32 λb xs e=>k8.tp M e;let c6:=c5.gK λb xs e=>k8.tp M e;let c1:=cU.6 k8
  let da:∀c,(An kvs (sS (sgn c))).24=(g (sgn c)).24:=λc=>by
   cases e:g (sgn c)with
   |none=>rw[a4.no e];rfl
   |some z=>
    let(t',q,_):=a4.vl _ z.1 z.2 e
    ext
  show("abx",Y,qb,Hw (x:="abx") (λi ys u=>u=H8/\ys=(((iQ.12 i).21 (jo G g)).7 sgn).7 V.s) (Y,Y) (λi ys u (_,e)=>?_) ?_ ?_)
  ·rw[e,AN,AN];let q:=zP (jo G g) (iQ.12 i);rw[zr]at q;let h2:iQ.9=3:=rfl
   lia
  ·rintro i c ys u l ⟨rfl,rfl⟩;let kA:iQ[i]?=U c:=by rwa[←Rw,ug]
   let e1:(iQ.12 (i+1)).21 (jo G g)=(iQ.12 i).21 (jo G g)++[c].21 (jo G g):=by rw[zw,kA,ui,filter_append]
   let y1:jo G g c=iY->(((iQ.12 (i+1)).21 (jo G g)).7 sgn).7 V.s=(((iQ.12 i).21 (jo G g)).7 sgn).7 V.s++[V.s (sgn c)]:=λz=>by
    ext
   let y0:jo G g c=i7->(((iQ.12 (i+1)).21 (jo G g)).7 sgn).7 V.s=(((iQ.12 i).21 (jo G g)).7 sgn).7 V.s:=λz=>by
    rw[e1,List.filter_cons_of_neg (by rw[z];decide)];simp
   show(7,7,c,G,Y,Y,7,BF (λz=>?_) (λz=>?_))
   ·show(7,7,a,7,sU (_,sS (sgn c),sU bC,Y,Y),7,?_);rw[da c];show BF (λw=>(7,Y,(y1 ?_).31)) (λw=>(Y,(y0 ?_).31))
    ·unfold jo;rw[z,w];rfl
    ·unfold jo;rw[vf.49 w,Bool.and_false]
   ·show AV (Y,(y0 ?_).31);unfold jo;rw[vf.49 z];rfl
  rintro ys u ⟨rfl,rfl⟩ p1 as;rw[take_of_length_le (_)];let sa:=AD (fJ.r _) as (o:=HO.l (((iQ.21 (jo G g)).7 sgn).7 V.s));let ha:=fH (H:=u) (a:=p1) (o:=HO.l (((iQ.21 (jo G g)).7 sgn).7 V.s));generalize upd u p1 (HO.l (((iQ.21 (jo G g)).7 sgn).7 V.s))=Ha at sa ha;show(by simp,λp2 fq=>?_);let sb:=AD (fJ.r _) fq (o:=HO.l []);let hb:=fH (H:=Ha) (a:=p2) (o:=HO.l []);generalize upd Ha p2 (HO.l [])=Hb at sb hb;let C:=sa.6 sb;show(_,_,CS (sb _ _ ha) (ER _),CS (ds:=[]) hb (by rw[Bv]),DP λz hz=>?_,by rfl,7,?_)
  ·let(c,l,rfl):=zh.mp hz;have:=(mem_filter.mp l).1;simp at this;let rfl||rfl||rfl:=this<;>decide +kernel
  rw[RT];let b0:=λc l=>bj wz PW (JT c l);let bl:=c1.6 (.nx (.same C));let a0:=C _ _ cs;let bF:=C _ _ cc;let bK:=C _ _ cg;let bR:=c6.gK λb xs e=>C _ _ e
  let nil:(∀c∈iQ,sgn c∈t.tr.72->g (sgn c)≠J)->iQ.21 (jo G g)=[]:=λP=>by
   show List.filter_eq_nil_iff.mpr λc l z=>?_;unfold jo at z;rw[tA]at z;have:=P c l ((b0 c l).mp (zS z.1));show this (Option.isNone_iff_eq_none.mp (by simpa using z.2))
  let(p,rfl,h,c,l,s,hn,W8)||(p,rfl,h,P,Z,W8)||(rfl,P,Z,W8):=FO
  ·have lS:c∈iQ.21 (jo G g):=mem_filter.49 (l,by unfold jo;rw[zI ((b0 c l).49 s),hn];rfl);let R:=W8.15 O C;cases e:iQ.21 (jo G g)with
   |nil=>rw[e]at lS;cases lS
   |cons c2 lJ=>
    show Aj (7,by trivial,λp5 lC=>(by change 2<=sizeLine;decide,λp6 jW=>?_));let D:=AD (fJ.r _) lC (o:=jd pG);let bx:=fH (H:=Hb) (a:=p5) (o:=jd pG);generalize upd Hb p5 (jd pG)=Hc at D bx jW;let sd:=AD (fJ.r _) jW (o:=HO.t [.r p,.r p5]);let s2:fJ Hb _:=λb o e=>sd _ _ (D _ _ e);show al p6 _ _ g a1 _ _ fH (.two (s2 _ _ (C _ _ h)) (sd _ _ bx) qd) (R.15 O s2) ch (bl.6 (.nx (.same s2))) (uX _)
  ·have aC:t.Ok (d.7 (·.1)) (sgH g):=JU ok λc l s=>mem_filter.49 (l,vh.49 (P c l s));let LN:=Ni (kvs:=X) W.B.ok λc l=>by rw[LD.v,zf l]
   let R:=W8.15 O C;rw[nil P];show AV (ir I (iL λN I=>?_):N _ _);show(7,7,7,7,7,o,7,sU (_,sS ph,sU a0,Y,(DA _ _ _).31),7,.mk tv S Q t (d,X,kh g) (sgH g) Y bR aC (sU bF) (λc l=>((LN c l).1,(LN c l).2.1)) mn bK dk (.mk o e bS d r _ Y a0 (zX _) ?_));rw[←hv];let h9:=C _ _ h
   let w3:∀{p5:nq}{Hc:Hp},fJ Hb Hc->Hc p5=U (.t [.s nU,.s oX,.t (AX d (v:Int):Nat)])->∀p6,Hc p6=J->bu (.r p6) (upd Hc p6 (.t [.r p,.r p5])):=λ{p5 Hc}D l p6 jW=>by
    let sd:=AD (fJ.r _) jW (o:=HO.t [.r p,.r p5]);let s2:=D.6 sd;show al p6 _ _ g a1 _ _ fH (_,O8 (s2 _ _ h9),O8 (sd _ _ l),O9 qb qb,Vm _ _ _) (R.15 O s2) ch (bl.6 (.nx (.same s2))) (uX _)
   let(st,jJ):=Z;let bU:¬ decide (V.s nU=V.s sE)=iY:=by decide +kernel
   let jJ||jJ:=jJ
   ·show sU (st,jJ,λp9 bk=>?_);let D:=AD (fJ.r _) bk (o:=HO.t [.s nU,.s oX,.t (AX d (v:Int):Nat)]);let E:=fH (H:=Hb) (a:=p9) (o:=HO.t [.s nU,.s oX,.t (AX d (v:Int):Nat)]);generalize upd Hb p9 (HO.t [.s nU,.s oX,.t (AX d (v:Int):Nat)])=Hc at D E;show(ir I (iL λN I=>?_):N _ _);show(7,_,_,_,iY,Y,.t E,Y,7,Aj ?_);show(7,p9,_,0,7,Y,gB.of E,Y,Y,7,BF (λz=>absurd z bU) λ_=>?_);show(7,7,p9,_,0,7,Y,gB.of E,Y,Y,7,BF (λz=>absurd z bU) λ_=>(7,by change 2<=sizeLine;decide,w3 D E))
   ·show sY (sU (λz=>absurd (jJ.92 z.2) (_),st,jJ,λp9 bk=>?_));let D:=AD (fJ.r _) bk (o:=HO.t [.s sE,.t (v:Int)]);let E:=fH (H:=Hb) (a:=p9) (o:=HO.t [.s sE,.t (v:Int)]);generalize upd Hb p9 (HO.t [.s sE,.t (v:Int)])=Hc at D E;let ct:=D _ _ a0;let es:(v:Int)-tD (v:Int) ((kn d:Nat):Int)=((AX d (v:Int):Nat)):=by rw[IP,Jg]
    show(ir I (iL λN I=>?_):N _ _);show(7,_,_,_,iY,Y,.t E,Y,7,Aj ?_);show(7,p9,_,0,7,Y,gB.of E,Y,Y,7,BF (λ_=>?_) λz=>absurd (by rfl) z);show(7,p9,_,1,7,Y,gB.of E,Y,?_);show(7,7,p9,_,0,7,Y,gB.of E,Y,Y,7,BF (λ_=>?_) λz=>absurd (by rfl) z);show(7,7,7,o,7,sU (_,sS ph,sU ct,Y,(DA _ _ _).31),_,7,Y,_,7,Y,by change 3<=sizeLine;decide,λp5 lC=>(by change 2<=sizeLine;decide,?_));let sd:=AD D lC (o:=HO.t [.s nU,.s oX,.t ((v:Int)-tD (v:Int) ((kn d:Nat):Int))]);show w3 sd (fH.6 (congrArg (λz=>U (HO.t [.s nU,.s oX,.t z])) es))
  ·have aC:=JU ok λc l s=>mem_filter.49 (l,vh.49 (P c l s));let LN:=Ni (kvs:=X) W.B.ok λc l=>by rw[LD.v,zf l]
   let R:=W8.15 O C;rw[nil P];show AV (ir I (iL λN I=>?_):N _ _);show(7,7,7,7,7,o,7,sU (_,sS ph,sU a0,Y,(DA _ _ _).31),7,.mk tv S Q t (d,X,kh g) (sgH g) Y bR aC (sU bF) (λc l=>((LN c l).1,(LN c l).2.1)) mn bK dk (.mk o e bS d r _ Y a0 (zX _) ?_));rw[←hv];show sY (sY (λz=>Z (z.1,sU z.2),λz=>Z (z.1,sY z.2),?_));show(ir I (iL λN I=>?_):N _ _);show(7,_,_,_,i7,Y,.b _,Y,7,AV ?_);show(ir I ?_:N _ _);let(tas9,ht9,_):=R.tb;show(7,sU (Y,_,fV.of ht9),7,7,7,(a,g,x,mkN r d v,Y,(kvs,C _ _ bC,a4.32 λb xs e=>C _ _ e),hx,λp H1 s1 hp ht=>?_));let(xs,e1,ln,o6,W6):=R.gv O s1 hp ht ();show(y.t,_,7,Y,e1,ln,7,by trivial,λp6 jW=>?_);let sd:=AD (fJ.r _) jW (o:=HO.t [V.g,V.g]);show al p6 .g .g _ _ _ _ fH .gJ (W6.15 O sd) (ch.gv hx W.B.ok) ((bl.6 (.one o6 (sY Y))).6 (.nx (.same sd))) (_)
structure ZW(P:Program)(w:World)(K:FG)(mg:SV)(base:Heap)(BC C:nq):Prop where
 T:DR K BC
 cls:mg "Book"=U (sR BC)
 make:∃f fd,Mk K BC f/\AT P w K mg base gG 1 f fd [nv,nG] (spBi BC C)/\Binds K fd [nv,nG] []
theorem Vq(a):(At a).7 (·.1)=a.7 (·.1):=by
 let d:∀n,n<=a.9->(At (a.12 n)).7 (·.1)=(a.12 n).7 (·.1):=by
  intro n;induction n with
  |zero=>intro _;rfl
  |succ n i=>
   intro h;let e:a.12 (n+1)=a.12 n++[a[n]]:=by rw[zw,z7 (by assumption)];rfl
   rw[e,EM,zl,zl,i ()];rfl
 have:=d a.9 (zp _)
 rwa[zt]at this
def KpL(d:nq)(y:Zw)(H f:Hp):Prop:=∀b g,H b=U (.l g)->b≠d->(b≠y.z.e/\b≠y.z.l/\b≠y.t)/\f b=U (.l g)
structure Lbk(BC C bd:nq)(T:List (nq×Str×List Pos))(d:nq)(y:Zw)(due:Aa)(r:Str)(g:En)(D:lI)(F:List En)(t:nq)(H:Hp):Prop where
 ed:y.d=d
 W:Ws BC C bd T y due r g D F H
 N:Nd bd y
 tb:iC H t g
 te:t≠y.z.e
 lD:D.9<=31
 dk:Bi due
 wd:∀x∈due.7 (·.1),x∈g8
 hr:r∈gZ
 dl:0<due.9
 ln:due.9<=9
inductive spLb(f C bd:nq)(T:List (nq×Str×List Pos))(vs:nk)(H:Hp)(Q:VK)(h:XK):Prop
 |mk (d) (a b) (l:vs=[.r d,.t 12]) (m:H d=U (.l [.t a,.t b])) (o:Rd H bd (.d Du)) (j:∀p∈T,gR H p.1 p.2.1 p.2.2)
  (s:∀q y due r g D F t i,Lbk f C bd T d y due r g D F t i->i q=U (.t [.r y.z.b,.r t,.r y.u,.s r,.l L])->KpL d y H i->Q (.r q) i)
noncomputable abbrev NLb:ni:=[ny,oG,"_law_rows",n8,oY,nz,pI,"_law_good","_law_turn",pP,"_law_right"]
theorem scLb:AI NLb [ny,oG] (defScope Ko):=gQ
theorem bq(F:gE i rZ rZ Ko f fd)(a7:Bl j)(KO:QZ P w i j p C)(BO:ZW P w i j p m C)
  (GL:Fn P w i j p qP 3 [ny,oG] spLines) (be:Fn P w i j p qr 3 [ny] spRuleOf) (bb:Fn P w i j p oN 2 [ny,oM] spRollB)
  (bk:Fn P w i j p oW 12 pLs (spLs i m C bd al)):AT P w i j p gG 13 f fd [ny,oG] (spLb m C bd al):=by
 let(fI,dI,MI,GI,gI,kbI):=KO.make;let(fB,dB,MB,GB,bB):=BO.make;show F.ok scLb (λvs ag bl a9 h=>?_) (λff bX b3 b5 ag vs bl a9 X h=>?_)
 ·let(_,_,_,rfl,_):=h;rfl
 ·have u:=scLb.nd;let bS:=X.42;let jJ:gD 2 _:=X.63 qc;let bO:gD 7 _:=X.63 qc
  show(_,AC (Bf (gT GL X (gM (pv 0) AF)) (BG Y (AQ (A7 2 u) (AQ (A7 3 u) Av))))
    (AC (A4 4 u (gT be X (gX (pv 0))))
    (Aw (RB (i:=5) (j:=6) (k:=7) rfl u rfl rfl rfl rfl rfl rfl (AA (Fy MB GB jJ rfl BO.83 bB tO Ai (gX (KC MI GI bO rfl KO.83 kbI (gX (pv 2)) (Jm (pv 4) Me))) qc) (gM (BA (gX B8)) DI)) qd)
    (Aw (Bt tK rfl (Cy rfl a7.range (gX (gT bb X (gM (pv 0) (AW Cm (pv 1) AF))))) (A7 8 u)
     (AC (Bf (gT bk X (AA (pv 0) (AA (pv 5) (AA (pv 6) (gM (pv 3) (pv 4)))))) (BG rfl (AQ (A7 9 u) (AQ (A7 10 u) Av))))
     (AB (A4 7 u (CY (pv 7) (Ck (CH (UD i rfl bS) (pv 9) (pv 10) (AO _))))))))
    (AB (AJ (Af (AA (pv 5) (AA (Ak (Ao i rfl) (pv 6) (Db D7 AF)) (AA (pv 3) (gM (pv 4) (pv 7))))))))))),?_)
  let(d,x,y,rfl,S,hB,hTab,kend):=h;show(7,d,x,y,6,Y,qc,qc,S,λab f ar fs bn l Ha a0 hq a3 a4 hf hP bR fv r0 b4 RO fy=>(ab,7,gB.of hq,Y,_,7,_,7,Y,?_));let(Q,ya,Z):=a0.g6;let bC:f≠d:=λz=>by rw[z,S]at a3;cases a3
  let ud:ar≠d:=λz=>by rw[z,S]at a4;cases a4
  let DO:=Kx RO ();show(_,rfl,d,Q,ya,rfl,Z,λr I as G=>?_);let(xb,yb,hdb):=G.g6;let tX:gF Ha I:=λb xs e=>G.88 _ _ e (Qg e Z λz=>nomatch z);let ft:=G.88 _ _ bR ud;let bF:=fQ.gK tX fv;let bE:=CD tX hP;let bL:=G.88 _ _ hf bC;let ob:∀b o,ag b=U o->b≠d->I b=U o:=λb o e B=>G.88 _ _ (a0.88 _ _ e B) B;show(λM s=>∃N:Zw,C₉ (M=[U (.r d),U (.t 12),U (.r f),U (.r ar),U (.s r),U (.r N.z.b),U (.r N.t),U (.l iY),J,J,J]) (N.d=d) (N.u=ar) (Nd bd N) (Ws m C bd al N (At l) r (λ_=>J) [] [λ_=>J] s) (fJ I s) (I N.z.e=J) (I N.z.l=J) (I N.t=J),λbm hR=>?_,?_)
  ·show(7,7,?_);intro k dk hk bK gd;let sN:=DQ (D:=C) hk bK gd;show(k,dk,f,l,r,Y,fH,(fs,sN _ _ bL,CD (gF.of sN) bE),r0,by lia,RO,as,λH0 sd KA=>(Y,?_));let s0:=Ce sN hk sd;intro an dx hp gf bN;let sM:=DQ (D:=m) hp gf bN;show(an,dx,k,At l,r,Y,fH,KA.15 sM,λdE lE q s3 bI bM Bk=>(Y,?_));let aR:=Ce sM hp s3;let nE:=none_of sM bI;let R:=none_of sM bM;show λH aC=>(by change 1<=sizeLine;decide,λt ht=>(_,_,7,?_));let A:=AD (fJ.r _) aC (o:=HO.d []);let h4:=fH (H:=q) (a:=H) (o:=HO.d []);generalize upd q H (.d [])=H4 at A h4 ht;let s6:=AD (fJ.r _) ht (o:=HO.l [.r H]);let a2:=fH (H:=H4) (a:=t) (o:=HO.l [.r H]);generalize upd H4 t (.l [.r H])=H6 at s6 a2;let a6:fJ q H6:=λb o e=>s6 _ _ (A _ _ e);let v:fJ I H6:=λb o e=>a6 _ _ (aR _ _ (s0 _ _ e));let a8:=Bk.15 a6;let E:=none_of A ht;let(_,hen,_):=Bk.en;let(_,hde,_):=Bk.de;let pr:∀{b:nq}{o:HO},I b=U o->∀{c:nq},H0 c=J->b≠c:=λ{b o}e{c}n z=>by rw[z]at e;rw[s0 _ _ e]at n;cases n
   let a5:∀{b:nq}{o:HO},I b=U o->b≠t:=λ{b o}e z=>by rw[z]at e;rw[aR _ _ (s0 _ _ e)]at E;cases E
   let az:∃o,I bd=U o:=by
    let h||(o,h):=hB
    ·show(_,ob _ _ h λz=>by rw[z,S]at h;cases h)
    ·show(_,ob _ _ h λz=>by rw[z,S]at h;cases h)
   let(ob',az):=az;show hR _ _ (((an,k,dE,lE),d,t,ar),rfl,rfl,rfl,(pr hdb R,a5 hdb,λz=>?_,ud,pr ft R,a5 ft,pr az nE),((xb,yb,v _ _ hdb),a8,([H],a2,tP ([],s6 _ _ h4,(([],rfl,nodup_nil,λx hx=>(by cases hx),λx=>(λz=>(by cases z),λz=>absurd rfl z)),λx n c e=>nomatch e)) tO,λb B=>?_),(bn,v _ _ ft,fQ.gK (gF.of v) bF),?_,λan hp=>gR.same v (gR.sameX Z G (gR.sameX S a0 (hTab an hp)))),v,none_of s0 nE,none_of s0 R,none_of s0 (none_of aR E))
   ·rw[show lE=t from z]at hde;rw[E]at hde;cases hde
   ·cases zz.mp B;show λz=>by rw[show H=dE from z,hen]at aC;cases aC
   ·let h||(o,h):=hB
    ·show sU (v _ _ (ob _ _ h λz=>by rw[z,S]at h;cases h))
    ·show sY (o,v _ _ (ob _ _ h λz=>by rw[z,S]at h;cases h))
  rintro M q ⟨y,rfl,bu,bx,Nn,W3,s3,nE,R,E⟩;subst bu;subst bx;let lG:0<(At l).9:=by rwa[CC]
  let(x3,y3,mr):=W3.di;show(λM s=>(∃x8 x9 Q,M=[U (.r y.d),U (.t 12),U (.r f),U (.r y.u),U (.s r),U (.r y.z.b),U (.r y.t),U (.l iY),x8,x9,Q])/\∃g D F,Ws m C bd al y (At l) r g D F s/\Ch (At l) r F D g/\D.9<=31/\Kp y q s,λbm hR=>?_,?_)
  ·show(7,7,_,7,Y,y.d,x3,y3,13,Y,mr,qc,qb,λn a' b' n0 b2=>(n,Y,?_));let A:gC y.d q (upd q y.d (.l [.t a',.t b'])):=(λb o e h=>by rw[AE h];show e,(a',b',fH));generalize upd q y.d (.l [.t a',.t b'])=H4 at A;let W4:=W3.g6 Nn A;show(by lia,by lia,IU (λaM M s=>(∃x8 x9 Q,M=[U (.r y.d),U (.t 12),U (.r f),U (.r y.u),U (.s r),U (.r y.z.b),U (.r y.t),U (.l iY),x8,x9,Q])/\∃g D F,Ws m C bd al y (At l) r g D F s/\Ch (At l) r F D g/\D.9<=aM/\Kp y q s) ((_,_,7),_,_,_,W4,.nil,zp _,.one A.88 (sU Y)) ?_ (λM s K=>by let(h1,g,D,F,h2,h3,h4,h5):=K;show hR _ _ (h1,g,D,F,h2,h3,by lia,h5)));rintro aM M H5 hj ⟨⟨x8,x9,Q,rfl⟩,g,D,F,W5,ch,lD,kp⟩;show(7,7,7,7,7,.mk y (At l) r g D F Y W5 Nn ch () DO lG as λab a1 b1 g' D' F' H6 e6 dq W6 bs k6 l6=>(ab,7,gB.of e6,Y,_,7,_,7,Y,?_));let(dd,q1',q2',q3',q4'):=dq;show(7,7,7,7,dd,dd,q1',q2',q3',q3',?_);rw[q4'];show((_,_,7),g',D',_,W6,bs,by lia,kp.6 k6)
  rintro M H4 ⟨⟨x8,x9,Q,rfl⟩,g0,D0,F0,W4,br,bW,bU⟩;let((F1,eF),_):=br.last;subst eF;let(j8,ht6,jW,_):=W4.tb;let(ts,ta,rfl,_,_):=Cf jW;let(_,tb6,te6,_):=W4.at ht6;show(7,7,7,y.t,_,-1,.r ta,Y,Y,fV.of ht6,Nh _ _,7,7,7,by change 5<=sizeLine;decide,λab hq=>?_);let s5:=AD (fJ.r _) hq (o:=HO.t [.r y.z.b,.r ta,.r y.u,.s r,.l iY]);show kend ab y (At l) r g0 D0 _ ta _ (Y,W4.15 Nn s5,Nn,tb6.32 (λb xs e=>s5 _ _ e) (λ_ e=>s5 _ _ e),te6,bW,DO,λx hx=>fy x (by rwa[Vq]at hx),as,lG,by rw[CC];lia) fH λb xs e B=>?_;let e1:=ob _ _ e B;let T:∀{c:nq},I c=J->b≠c:=λn z=>by rw[z,n]at e1;cases e1
  show((T nE,T R,T E),s5 _ _ (bU b _ (s3 _ _ e1) B (T nE) (T R) (T E) (λ_ z=>nomatch z) λ_ z=>nomatch z))
def Ax(due:Aa)(n:Nat):ni:=((Ab due).21 λm=>decide (m&&&n≠0)).7 (Cc (Ae due))
theorem Dv(due):(Ab due).9<=due.9:=tT (zP _ _) (F8 due)
inductive spVMarks(C b:nq)(vs:nk)(H:Hp)(Q:VK)(d:XK):Prop
 |mk (p kp) (n) (due) (r) (h:vs=[.r p]) (i:gY b H p kp n) (j:fZ C H kp due r) (g:due.9<=60) (m:∀l f,fJ H f->f l=U (.l ((Ax due n).7 V.s))->Q (.r l) f)
theorem Vr:AI [nv] [nv] (defScope FY):=gQ
theorem bt(m n:Nat):(!decide (V.t (tD (m) (n))=V.t 0))=decide (m&&&n≠0):=by
 rw[CV];simp
theorem Ta(F:gE g o7 "Value.marks" FY f v)(T:EQ g C)(e:IH g i)(I:Mt P w g Q s C o7 2 [nv] (spMarks C)):AT P w g Q s gG 3 f v [nv] (spVMarks C i):=by
 show F.m Vr λvs H ab E h=>?_;let(p,kp,n,a,r,rfl,(x,y),z,o,k):=h;show(Y,λM A az aC G=>?_);let(t,ag,an,j):=z.ins
 show(_,AB (AJ (EJ [nv] [U 0] (by rfl) (_) (by rfl) (by rfl) Y (Ay (CK (Ac (Z 0) Y) T.cl I G))
  (λ_ _ _ _ _ _=>DD (AK Dc (AW Bh (Z 1) (RI g rfl (Z 2) rfl)) AF (AO _))) (λ_ _ _ _ _ _=>Z 0))),?_)
 show(7,p,i,x,_,7,y,e.cl,e.nK,NO _ _,kp,t,7,j,(Bw _ _ _),.mk kp a r Y z o λl ar as D B ht=>?_);have:=Dv a;show(l,Y,(_,fV.of B),Ku (Ab a) _ (λm=>if decide (m&&&n≠0)then U (V.s (Cc (Ae a) m))else J) (fQ.vs ht) B () (λaM m u N al S d R=>?_) λu d q X=>?_)
 ·let(b,rfl,O):=S;show(b,7,gB.of (d _ _ O),Y,_,7,_,7,Y,7,7,p,i,x,_,7,d _ _ (D _ _ y),e.cl,e.nB,NP _ _,_,7,Y,Y,7,?_);have:=R u (fJ.r _);change if (!decide (V.t (tD (m:Int) (n:Int))=V.t 0))=L then _ else _
  rw[bt];split
  ·rename_i h;rw[zf h]at this;show(7,this)
  ·rename_i h
   rwa[zg h]at this
 ·rw[RL];show k q _ ((D.6 d).6 (AD (fJ.r _) X)) ?_;rw[fH,Ax,map_map];rfl
inductive spMarkBits(C:nq)(vs:nk)(H:Hp)(Q:VK)(b:XK):Prop
 |mk (kp) (due) (r) (g:vs=[.r kp]) (h:fZ C H kp due r) (i:due.9<=60) (f:∀d,fJ H d->Q (.t (AY (Ab due):Nat)) d)
theorem Qb:AI [nG] [nG] (defScope Ip):=gQ
theorem PD(F:gE g r8 r8 Ip f X)(T:EQ g C)(y:Mt P w g v s C o7 2 [nv] (spMarks C))(G:Fn P w g v s qC 1 [ox] (spUnionOf g)):AT P w g v s gG 3 f X [nG] (spMarkBits C):=by
 show F.m Qb λvs H Q E h=>?_;let(kp,a,r,rfl,u,j,k):=h;show(Y,λD A e an t=>?_);let(o,M,R,i):=u.ins;show(_,AB (AJ (gT G t (gX (EJ [] [] (by rfl) (_) (by rfl) (by rfl) Y (Ay (CK (Z 0) T.cl y t)) (λ_ _ _ _ _ _=>BP) (λ_ _ _ _ _ _=>Z 1))))),?_);show(7,kp,o,7,i,(Bw _ _ _),.mk kp a r Y u j λl S al I x ht=>?_);have:=Dv a;show(l,Y,(_,fV.of x),Ku (Ab a) _ (λm=>U (V.t (m:Int))) (fQ.vs ht) x () (λar m p N ag z d ab=>?_) λp d q B=>?_)
 ·let(b,rfl,J):=z;show(b,7,gB.of (d _ _ J),Y,_,7,_,7,Y,7,ab p (fJ.r _))
 ·rw[NL];show(q,Ab a,Y,fV.of fH,k _ ((I.6 d).6 (AD (fJ.r _) B)))
inductive spVRest(C b:nq)(vs:nk)(H:Hp)(Q:VK)(d:XK):Prop
 |mk (p kp) (n) (due) (r) (h:vs=[.r p]) (i:gY b H p kp n) (j:fZ C H kp due r) (g:due.9<=60) (l:∀f,fJ H f->Q (.t ((n-(n&&&AY (Ab due)):Nat):Int)) f)
theorem Xc:AI [nv] [nv] (defScope G9):=gQ
theorem Vs(F:gE g pO "Value.rest" G9 f y)(d:IH g b)(t:Fn P w g z m r8 3 [nG] (spMarkBits C)):AT P w g z m gG 4 f y [nv] (spVRest C b):=by
 show F.m Xc λvs H Q E h=>?_;let(p,kp,n,a,r,rfl,(j,l),u,i,k):=h;show(Y,λv A e s q=>?_);show(_,AB (AJ (AW Bh (Ac (Z 0) Y) (Db Jz (gT t q (gX (Ac (Z 0) Y)))))),?_);show(7,p,b,j,_,7,l,d.cl,d.nB,NP _ _,7,p,b,j,_,7,l,d.cl,d.nK,NO _ _,.mk kp a r Y u i λo x=>(7,_,7,Y,?_));change Q (V.t (tD (n:Int) (uy ((AY (Ab a):Nat):Int)))) o;rw[Dk];show k o x
abbrev Ent:=Str×nq×ni
noncomputable def ja(b:List Ent):LK:=b.7 λq=>((sS q.1:Key),(V.r q.2.1))
def jh(H:Hp)(a:nq)(q:Ent):Prop:=H a=U (.t [.s q.1,.r q.2.1])/\H q.2.1=U (.t (q.2.2.7 V.s))
theorem jh.same(s:gF H H')(h:jh H a q):jh H' a q:=(s _ _ h.1,s _ _ h.2)
def LB(due:Aa):LK:=(Ab due).7 λn=>((sS (Cc (Ae due) n):Key),(V.t (n:Int)))
def Bo(due:Aa):ni:=(Ab due).7 (Cc (Ae due))
theorem Qc(h:n∈Ab due):n∈(Ae due).7 (·.1):=mem_keysS.mp (mem_filter.mp h).1
theorem JV(h:n∈Ab due):(Cc (Ae due) n,(n))∈due:=JL (TK (Qc h))
theorem Fx{g j:Type}{f:g->j}:∀{l:List g},l.26->(∀a∈l,∀b∈l,f a=f b->a=b)->(l.7 f).26
 | [],_,_=>nodup_nil
 |a::r,m,h=>by
  rw[zi]at m;rw[map_cons,zi];show(λz=>?_,Fx m.2 λb d c i=>h b (zO _ d) c (zO _ i));let(b,d,e):=zh.mp z;show m.1 (h a (zF ..) b (zO _ d) e.31 ▸ d)
theorem MW(h:(due.7 (·.1)).26):(Bo due).26:=
 Fx (((Dr due).nodup_iff.49 (ML due)).21 _) λa l b j e=>by
  let d:=Cs h (JV l);let i:=Cs h (JV j);simp only[e]at d;show d.92 i
theorem MY:∀(d b:LK),(d.7 (·.1)).26->(∀k∈d.7 (·.1),An b k=J)->Eg b d=b++d
 | [],b,_,_=>(zj _).31
 |p::r,b,f,g=>by
  rw[map_cons,zi]at f;let e:BS b p.1 p.2=b++[(p.1,(p.2))]:=Dd p.2 (g _ (zF ..));change Eg (BS b p.1 p.2) r=_;rw[MY r _ f.2 λk a=>?_,e,append_assoc]
  ·rfl
  ·rw[HZ,zg (show ¬ k=p.1 from λz=>f.1 (z ▸ a))];show g k (zO _ a)
theorem HQ{d:Type}{f}{v:d->V}{l:List d}(h:(l.7 f).26):Eg [] (l.7 λx=>((sS (f x):Key),(v x)))=l.7 λx=>((sS (f x):Key),(v x)):=by
 rw[MY _ _ ?_ λ_ _=>rfl,nil_append];have:=Fx (f:=λx:Str=>(sS x:Key)) h λa _ b _ e=>vF e;rw[map_map]at this ⊢;show this
theorem val_map{b:Type}{f}{v:b->V}{l:List b}:(An (l.7 λy=>((sS (f y):Key),(v y))) (sS x)).24=decide (x∈l.7 f):=by
 rw[←DJ,any_map]
 grind
theorem D5(x):∀a,An (ja a) (sS x:Key)=(a.5 x).7 λq=>V.r q.1
 | []=>rfl
 |q::r=>by
  let d:=D5 x r;unfold ja at d ⊢;rw[map_cons,zq];by_cases h:q.1=x
  ·rw[BI (congrArg sS h),show(x==q.1)=L by simp[h]];rfl
  ·rw[BE λz=>h (vF z),show(x==q.1)=O by grind];show d
theorem Jh{a:List Ent}(h:x∉ a.7 (·.1)):a.5 x=J:=by
 induction a with
 |nil=>rfl
 |cons q r d=>
  rw[zq,show(x==q.1)=O by simp;rintro rfl;show h (_)];show d λz=>h (zO _ z)
theorem PF{i j:Type}{f g:i->Option j}:∀{l:List i},(∀a∈l,f a=g a)->l.35 f=l.35 g
 | [],_=>rfl
 |a::r,h=>by rw[zJ,zJ,h a (zF ..),PF λb d=>h b (zO _ d)]
theorem ZX(h:b.Sublist j):∀{d:List Ent},d.7 (·.1)=b->j.26->(j.35 λx=>(d.5 x).7 λq=>(x,(q)))=d:=by
 induction h with
 |slnil=>
  simp
 |cons a h p=>
  intro d e i;let(l,o):=zi.mp i;rw[zJ,Jh (λz=>l (h.mem (e ▸ z)))]
  simp[*]
 |cons_cons a h p=>
  intro d e i;let(l,o):=zi.mp i;cases d with
  |nil=>cases e
  |cons q r=>
   rw[map_cons]at e;let(rfl,t):=List.cons.inj e;let u:=p t o;rw[zJ,zq,beq_self_eq_true];change(q.1,(q.2))::_=_;congr 1;show Eq.trans ?_ u;show PF λx v=>?_;rw[zq,show(x==q.1)=O by grind]
inductive spEnt(vs:nk)(H:Hp)(Q:VK)(b:XK):Prop
 |mk (a dm dn) (km kn) (q) (g:vs=[.r a,.r dm,.r dn]) (h:Rd H dm (.d km)) (i:Rd H dn (.d kn)) (f:jh H a q) (l:(An km (sS q.1:Key)).24=L) (j:q.2.2.9<=1000) (o:∀y∈q.2.2,(An kn (sS y:Key)).24=L) (m:∀d,fJ H d->Q (.l L) d)
theorem bv:AI [nM,o7,oz] [nM,o7,oz] (defScope Ki):=gQ
theorem Rx{b:Type}(l:List b):l.35 (λ_=>U (V.l L))=(l.7 λ_=>L).7 V.l:=by simp
theorem PJ{b:Type}(l:List b):(l.7 λ_=>L).94 id=L:=by simp
theorem ZY(F:gE b "is_entry" "is_entry" Ki f X)(B:Bl g)(p:Fn P w b g m pS 1 [nM,oz] (DZ b)):AT P w b g m gG 2 f X [nM,o7,oz] spEnt:=by
 show F.m bv λvs H Q E h=>?_;let(a,R,dn,T,kn,(x,c,D),rfl,I,G,(d,l),t,L,u,k):=h;show(Y,λM A j s r=>?_)
 show(_,AC (AU (PW.pt (Cw (Au (Al (BZ b Y Y B.iP Y B.56 Bs (Z 0)))) (Cw (AK Dc (AS (A8 b Y) Y B.50 tu (gX (Z 0))) AF (AO _))
   (By (Au (Al (BZ b rfl rfl B.iP rfl B.56 Bs (Ak (AZ b rfl) (Z 0) AF)))))))) (AB Ad) AL)
  (AB (AJ (CY (gT p r (gM (Ak (AZ b rfl) (Z 0) AF) (Z 1)))
   (Ck (AS (DN rfl) rfl B.94 Fk (gX (BJ [oz] [U 2] qd (_) (by rfl) rfl (Jw (Ak (AZ b rfl) (Z 0) AF)) (λ_ _ _ _ _ _=>BP)
    (λ_ _ _ _ _ _=>gT p r (gM (Z 0) (Z 1)))))))))),?_)
 show(7,_,_,_,iY,Y,.t d,Y,7,AV (7,a,7,sY (gB.of d),Y,7,Qt Y ?_));show(7,a,_,_,7,Y,gB.of d,Y,_,_,_,iY,Y,.t l,Y,7,AV ?_);show(7,a,_,_,7,Y,gB.of d,Y,7,sU (x,R,T,Y,I,7,?_));rw[t];show Aj (7,a,_,_,7,Y,gB.of d,Y,c,Y,(_,gB.of l),X1 D _ (λ_=>U (V.l iY)) (HL _ _) l L (λv y C N ag e i S=>?_) λC i q ab=>?_)
 ·subst e;show(7,7,sU (y,dn,kn,Y,G.40 (λz=>sU (i _ _ z)) λ n=>by let(o,z):=n;show sY (o,i _ _ z),?_));rw[u y ag];show S _ (fJ.r _)
 ·rw[Rx];show(q,7,fV.of fH,by rw[PJ];show k _ (i.6 (AD (fJ.r _) ab)))
structure lL(due fP:Aa)(H:Hp)(l:nq)(es:List Ent):Prop where
 at_:∃as,H l=U (.l (as.7 V.r))/\Paired (jh H) as es
 len:es.9<=100
 sb:(es.7 (·.1)).Sublist (Bo due)
 nm:∀q∈es,q.2.2.9<=3/\∀y∈q.2.2,y∈fP.7 (·.1)
structure lN(C:nq)(H:Hp)(k o:nq)(due fP:Aa)(r r2:Str):Prop where
 a:fZ C H k due r
 b:fZ C H o fP r2
 d:Bi due
 d2:Bi fP
theorem lN.same(s:fJ H H')(h:lN C H k o due f r g):lN C H' k o due f r g:=(h.a.15 s,h.b.15 s,h.d,h.d2)
theorem Vt{a}{f:LK}(t:fQ H a (f.7 λq=>(kV q.1,(q.2)))):a.9=f.9/\∀(i:Nat)b q,a[i]?=U b->f[i]?=U q->gB ω H b [kV q.1,q.2]:=by
 show(by rw[t.9,AN],λi b q j e=>?_);let(p,d,h):=CB t j;rw[zx,e]at d;cases d;show gB.of h
theorem PL{d}{a}(h:Paired (jh H) d a):fQ H d ((ja a).7 λq=>(kV q.1,(q.2))):=by
 induction h with
 |nil=>show tO
 |cons q _ ih=>show tP q.1 ih
inductive spTbl(C:nq)(vs:nk)(H:Hp)(Q:VK)(b:XK):Prop
 |mk (k o l) (due fP) (r r2) (es) (g:vs=[.r k,.r o,.r l]) (h:lN C H k o due fP r r2) (i:lL due fP H l es) (j:∀d f,fJ H f->H d=J->f d=U (.d (ja es))->Q (.r d) f)
theorem scTbl:AI [nG,oa,qS,o7,oz,"told"] [nG,oa,qS] (defScope Kj):=gQ
theorem ZZ(F:gE d "table_of" "table_of" Kj a3 fd)(B:Bl f)(l:f oK=io)(ar:EQ d C)(GM:Mt P al d f g C o7 2 [nv] (spMarks C))(GR:Mt P al d f g C qE 1 [nv] (spRows C))(GE:Fn P al d f g "is_entry" 2 [nM,o7,oz] spEnt):
  AT P al d f g gG 3 a3 fd [nG,oa,qS] (spTbl C):=by
 show F.m scTbl λvs H bm bk h=>?_;let(k,o,ag,j,p,a9,r2,t,rfl,(KA,KB,DO,DO2),L,q):=h;show(Y,λff be bu bx Q=>?_);let hu:=BY Q;let nd:=scTbl.nd
 show(_,AC (A4 3 nd (A0 (Gr Y) Y l E3 (gX (CK (Z 0) ar.cl GM Q))))
  (Dg (AC (A4 4 nd (A0 (Gr rfl) rfl l E3 (gX (CK (Z 1) ar.cl GR Q))))
  (AC (AU (PW.pt (Cw (Au (Al (BZ d rfl rfl B.iP rfl B.67 Eu (Z 2)))) (By (Au (Al (AS (DN rfl) rfl B.94 Fk (gX (BJ [o7,oz] [U 3,U 4] qd (_) (by rfl) rfl (Ay (Z 2)) (λ_ _ _ _ _ _=>BP)
    (λ_ _ _ _ _ _=>gT GE Q (AA (Z 0) (gM (Z 1) (Z 2)))))))))))) (AB Ad) AL)
  (AC (A4 5 nd (A0 (Gr rfl) rfl l E3 (gX (Z 2))))
  (AC (AU (AK FF (AS Ih rfl B.50 tu (gX (Z 5))) (AS (A8 d rfl) rfl B.50 tu (gX (Z 2))) (AO _)) (AB Ad) AL)
  (AB (AJ (Sf ["told"] [U 5] qd (_) (by rfl) rfl (Q9 (Z 3)) (λ_ _ _ _ _ _=>DD (CW (Gk hu (Z 0) (Z 1)))) (λ_ _ _ _ _ _=>Z 0) (λ_ _ _ _ _ _=>Am hu (Z 1) (Z 0)))))))))),?_)
 let(dk,e1,e2,hk):=KA.ins;let(dq,g1,g2,ho):=KB.ins;let(N,hl,az):=L.at_;let hz:=L.50;let T:=MW DO.nd;let nE:(t.7 (·.1)).26:=T.sublist L.sb;let eM:Eg [] (LB j)=LB j:=HQ T;let eR:Eg [] (A9 p)=A9 p:=HQ DO2.nd;let eT:Eg [] (ja t)=ja t:=HQ nE;let br:=DO.50;let bs:=DO2.50;let lm:=Dv j;let lM:(LB j).9=(Ab j).9:=AN _;show(7,k,dk,7,hk,(Bw _ _ _),.mk k j a9 Y KA () λl1 a0 H1 s1 ll an=>?_);rw[show Ga j=(LB j).7 λq=>(kV q.1,(q.2)) by unfold Ga LB;rw[map_map];rfl]at an;let(n1,q1):=Vt (ω:=d) an;show(l1,a0,LB j,Y,fV.of ll,n1,by lia,q1,λw a4=>(w,_,fH,λX=>?_));rw[HR,eM];let s2:fJ H (upd H1 w (.b X (.d (LB j)))):=AD s1 a4;show(7,o,dq,7,s2 _ _ ho,(Bw _ _ _),.mk o p r2 Y (KB.15 s2) λl3 a1 H3 s3 a6 mn=>?_);rw[←RM]at mn;let(n3,q3):=Vt (ω:=d) mn;show(l3,a1,A9 p,Y,fV.of a6,n3,by rw[F7];lia,q3,λdn aC=>?_);rw[eR];let R:fJ H (upd H3 dn (.d (A9 p))):=AD (s2.6 s3) aC;let ab:=AD s3 aC (o:=HO.d (A9 p)) _ _ (fH (H:=H1) (a:=w) (o:=.b X (.d (LB j))));let aR:=fH (H:=H3) (a:=dn) (o:=HO.d (A9 p));generalize upd H3 dn (.d (A9 p))=H4 at R ab aR ⊢;show(7,_,_,_,iY,Y,.lst (R _ _ hl),Y,7,AV (7,ag,Y,(_,fV.of (R _ _ hl)),Ku t (λv e=>∃b,v=.r b/\jh H b e) (λ_=>U (V.l iY)) ?_ (R _ _ hl) () (λv e H5 bl he hG s hN=>?_) λH5 s q5 a7=>?_))
 ·have a8:∀{N:List nq}{t:List Ent},Paired (jh H) N t->Paired (λv e=>∃b,v=.r b/\jh H b e) (N.7 V.r) t:=λh=>by
   induction h with
   |nil=>show tO
   |cons h _ ih=>show tP (_,rfl,h) ih
  show a8 az
 ·let(b,rfl,hE):=hG;let bb:=R.6 s;show(7,7,7,.mk b w dn _ _ e Y (sY (X,s _ _ ab)) (sU (s _ _ aR)) (hE.15 (gF.of bb)) (val_map.6 (zI (L.sb.mem (zh.49 (_,he,Y))))) (by have:=(L.nm _ he).1;lia) (λy A=>val_map.6 (zI ((L.nm _ he).2 y A))) λm M=>hN _ M)
 ·rw[Rx];let sq:=AD s a7 (o:=HO.l ((t.7 λ_=>iY).7 V.l));show(q5,7,fV.of fH,7,?_);rw[PJ];apply AV;generalize upd H5 q5 (HO.l ((t.7 λ_=>iY).7 V.l))=m at sq ⊢;let M:fJ H m:=R.6 sq;let(n6,q6):=Vt (ω:=d) (fQ.same M (PL az));let bn:(ja t).9=t.9:=AN _;show(7,ag,N,ja t,Y,fV.of (M _ _ hl),n6,by lia,q6,λG a5=>?_);rw[eT];let E:fJ m (upd m G (.d (ja t))):=AD (fJ.r _) a5;let D:(upd m G (.d (ja t))) G=U (.d (ja t)):=fH;generalize upd m G (.d (ja t))=H7 at E D ⊢;let aM:=E _ _ (sq _ _ ab);show(7,G,7,D,7,ag,7,sU (fV.of (E _ _ (M _ _ hl))),_,7,Y,7,BF (λz=>absurd (zS z) (by rw[AN];lia)) λ_=>?_);show(7,w,X,LB j,Y,aM,P2 (λi u r=>r=H7/\u=ja (((Bo j).12 i).35 λx=>(t.5 x).7 λq=>(x,(q)))) (Y,Y) (λi u r c=>by let(e,_):=c;show e ▸ aM) (λi u r (_,e)=>?_) ?_ ?_)
  ·have h1:=List.length_filterMap_le (λx=>(t.5 x).7 λq=>(x,(q))) ((Bo j).12 i);rw[zr]at h1;let h2:(Bo j).9=(Ab j).9:=AN _;rw[e];unfold ja;rw[AN]
   lia
  ·rintro i kv u r I ⟨rfl,rfl⟩
   let S:∃x,kv.1=sS x/\(Bo j)[i]?=U x:=by
    unfold LB at I;rw[zx]at I;let(n,hn,rfl):=z6.mp I;show(7,by unfold Bo;rw[zx,hn];rfl)
   let(x,ex,S):=S;let(kk,vv):=kv;obtain rfl:kk=sS x:=ex
   let nx:∀y∈((Bo j).12 i).35 λx=>(t.5 x).7 λq=>(x,(q)),y.1≠x:=λy A z=>by
    let(bd,jV,hu2):=List.mem_filterMap.mp A;let(v,_,rfl):=z6.mp hu2;let h7:=T.sublist (take_sublist (i+1) (Bo j));rw[zw,S,nodup_append]at h7;show h7.2.2 bd jV x (_) z
   let et:((Bo j).12 (i+1)).35 (λx=>(t.5 x).7 λq=>(x,(q)))=((Bo j).12 i).35 (λx=>(t.5 x).7 λq=>(x,(q)))++((t.5 x).7 λq=>(x,(q))).33:=by
    rw[zw,S,List.filterMap_append];congr 1
   show(_,rfl,_,rfl,G,_,rfl,sU (_,sS x,sU D,rfl,rfl),_,rfl,?_);rw[et,D5];cases e:t.5 x with
   |none=>show AV (rfl,by simp)
   |some v=>
    show Aj (7,7,7,G,7,sU (_,sS x,sU D,Y,by rw[D5,e];rfl),sS x,Y,Y,?_);rw[Dd]
    ·unfold ja;simp
    ·show MU λz=>?_;unfold ja at z;rw[map_map,zh]at z;let(y,A,z):=z;show nx y A (vF z)
  ·rintro u r ⟨rfl,rfl⟩ a2 hd
   let e8:(Bo j).12 (LB j).9=Bo j:=by
    rw[lM,show(Ab j).9=(Bo j).9 from(AN _).31,zt]
   rw[e8,ZX L.sb rfl T];show q a2 _ (AD (M.6 E) hd) (none_of (M.6 E) hd) fH
def LC(k o d:nq):List (Str×V):=BD pj (.r d) (BD px (.r o) (BD oh (.r k) []))
theorem Xd(k o d):(LC k o d).5 (oh:Str)=U (.r k):=by rfl
theorem Vu(k o d):(LC k o d).5 (px:Str)=U (.r o):=by rfl
theorem Vv(k o d):(LC k o d).5 (pj:Str)=U (.r d):=by rfl
theorem bw(k o d){m:Str}(h:¬ m=pj:=by decide +kernel)(e:¬ m=px:=by decide +kernel)(a:¬ m=oh:=by decide +kernel):(LC k o d).5 m=J:=by
 unfold LC;rw[As,zg h,As,zg e,As,zg a];rfl
def jx(b:Aa)(H:Hp)(tab:List Ent):Prop:=∀q∈tab,H q.2.1=U (.t (q.2.2.7 V.s))/\q.2.2.9<=3/\∀y∈q.2.2,y∈b.7 (·.1)
theorem jx.same(s:gF H H')(h:jx b H tab):jx b H' tab:=λq a=>(s _ _ (h q a).1,(h q a).2)
structure iA(EC:nq)(H:Hp)(p k o:nq)(fP:Aa)(tab:List Ent):Prop where
 ex:∃dx d b,H p=U (.i EC dx (LC k o d))/\H d=U (.b b (.d (ja tab)))
 tn:jx fP H tab
theorem iA.same(s:fJ H H')(h:iA b H p k o f tab):iA b H' p k o f tab:=by
 let(i,d,j,a,e):=h.ex;show((i,d,j,s _ _ a,s _ _ e),h.tn.15 (gF.of s))
structure LF(K:FG)(EC:nq):Prop where
 cl:jz K EC
 nK:g9 K EC oh
 nS:g9 K EC px
 nT:g9 K EC pj
theorem e_k(a:LF f b)(h:iA b H p k o g tab)(q:i (.r k)):ExF f (.r p) H oh i:=by
 let(j,d,l,e,_):=h.ex;show(p,b,j,_,7,e,a.cl,a.nK,Xd _ _ _,q)
theorem e_o(a:LF f b)(h:iA b H p k o g tab)(q:i (.r o)):ExF f (.r p) H px i:=by
 let(j,d,l,e,_):=h.ex;show(p,b,j,_,7,e,a.cl,a.nS,Vu _ _ _,q)
theorem iA.no{m:Str}{t:TA}(B:iA b H p k o g tab)(q:t f H j)(h:¬ m=pj:=by decide +kernel)(i:¬ m=px:=by decide +kernel)(e:¬ m=oh:=by decide +kernel):nh b m (.r p) H (t f H j):=by
 let(l,d,r,a,_):=B.ex;show⟨p,l,_,Y,a,bw _ _ _ h i e,q⟩
inductive spEInit(C b:nq)(vs:nk)(H:Hp)(Q:VK)(d:XK):Prop
 |mk (p dx k o l) (H0) (due fP) (r r2) (es) (h:vs=[.r p,.r k,.r o,.r l]) (i:H=upd (upd H0 dx (.a p)) p (.i b dx [])) (j:H0 p=J) (g:H0 dx=J) (q:dx≠p) (m:lN C H0 k o due fP r r2) (u:lL due fP H0 l es)
   (s:∀f,fJ H0 f->iA b f p k o fP es->Q .g f)
theorem Xe:AI [nv,nG,oa,qS] [nv,nG,oa,qS] (defScope Er):=gQ
theorem lL.same(s:fJ H H')(h:lL due f H l b):lL due f H' l b:=by
 let(a,d,e):=h.at_;show((a,s _ _ d,Paired.imp' (λ_ _ q=>q.15 (gF.of s)) e),h.50,h.sb,h.nm)
theorem lL.tn(h:lL due b H l d):jx b H d:=λq a=>by
 let(i,_,j):=h.at_
 let e:∀{i:List nq}{d:List Ent},Paired (jh H) i d->q∈d->H q.2.1=U (.t (q.2.2.7 V.s)):=λh a=>by
  induction h with
  |nil=>cases a
  |cons h _ o=>
   let rfl||z:=mem_cons.mp a
   ·show h.2
   simp[*]
 show(e j a,h.nm q a)
theorem Vw(F:gE m nV "Edition.__init__" Er f E)(j:LF m g)(s:Fn P w m G A "table_of" 3 [nG,oa,qS] (spTbl C)):
  AT P w m G A gG 4 f E [nv,nG,oa,qS] (spEInit C g):=by
 show F.m Xe λvs H ar al h=>?_;let(p,i,k,o,l,z,I,y,r,r2,L,rfl,rfl,x,D,Y,R,N,X):=h;show(zd,λas ag an az T=>?_);show(_,AC (B0 (Z 0) (Z 1) zd) (AC (B0 (Z 0) (Z 2) zd) (AC (B0 (Z 0) (gT s T (AA (Z 1) (gM (Z 2) (Z 3)))) zd) (Dg AL))),?_);show(7,7,p,g,i,7,fH,j.cl,j.nK,(_),?_);show(7,7,p,g,i,7,fH,j.cl,j.nS,(by change 1<1000;decide),?_);rw[HR,HR];let s1:∀fs,fJ z (upd (upd z i (.a p)) p (.i g i fs)):=λfs b u e=>by rw[AE (AH e x),AE (AH e D)];show e
 let B:=s1 (BD px (.r o) (BD oh (.r k) []));show(7,7,7,.mk k o l I y r r2 L zd (R.15 B) (N.15 B) λd S Q t hd=>?_);let v:=fH (H:=upd z i (.a p)) (a:=p) (o:=.i g i (BD px (.r o) (BD oh (.r k) [])));let q:p≠d:=AH v t;show(7,p,g,i,7,Q _ _ v,j.cl,j.nT,tw (Az _ _ _) (by change 2<1000;decide),d,_,by rw[AE (sX q)];show hd,λab=>?_)
 let M:fJ z (upd (upd S p (.i g i (LC k o d))) d (.b ab (.d (ja L)))):=λb u e=>by
  rw[AE (AH (B _ _ e) t),AE (AH e x)];show Q _ _ (B _ _ e)
 show X _ M ((i,d,ab,by rw[AE q,fH];rfl,fH),(N.15 M).tn)
inductive spEKind(b:nq)(vs:nk)(H:Hp)(Q:VK)(d:XK):Prop
 |mk (p k o) (fP) (tab) (f:vs=[.r p]) (g:iA b H p k o fP tab) (h:Q (.r k) H)
theorem Xf:AI [nv] [nv] (defScope Es):=gQ
theorem Vx(F:gE b nG "Edition.kind" Es f m)(e:LF b g):AT P w b u r gG 1 f m [nv] (spEKind g):=by
 show F.m Xf λvs H Q E h=>?_;let(p,k,o,d,tab,rfl,i,q):=h;show(Y,λj A a s l=>?_);show(_,AB (AJ (Ac (Z 0) Y)),7,e_k e i q)
inductive spEOther(b:nq)(vs:nk)(H:Hp)(Q:VK)(d:XK):Prop
 |mk (p k o) (fP) (tab) (f:vs=[.r p]) (g:iA b H p k o fP tab) (h:Q (.r o) H)
theorem Vy:AI [nv] [nv] (defScope EB):=gQ
theorem Tb(F:gE b oa "Edition.other" EB f m)(e:LF b g):AT P w b u r gG 1 f m [nv] (spEOther g):=by
 show F.m Vy λvs H Q E h=>?_;let(p,k,o,d,tab,rfl,i,q):=h;show(Y,λj A a s l=>?_);show(_,AB (AJ (Ac (Z 0) Y)),7,e_o e i q)
noncomputable def fl(tab:List Ent)(b:ni):ni:=b.flatMap λx=>((tab.5 x).7 (·.2)).44 []
noncomputable def mm(tab:List Ent)(b:ni):Option Str:=b.76 λx=>(tab.5 x).isNone
theorem Vz{f:Type}{p}{d:List f}{x}(h:d[i]?=U x)(a:(d.12 i).76 p=J):(p x=L->d.76 p=U x)/\(p x=O->(d.12 (i+1)).76 p=J):=by
 let(j,e):=z8.mp h;constructor
 ·intro b;rw[←take_append_drop i d,find?_append,a,drop_eq_getElem_cons j,e,List.find?_cons_of_pos b];rfl
 ·intro b;rw[zw,h,find?_append,a];simp[b]
theorem Js{tab:List Ent}(h:tab.5 x=U q):(x,(q))∈tab:=by
 induction tab with
 |nil=>cases h
 |cons y r a=>
  grind
theorem Xg{tab}{a:ni}{q}(h:a[i]?=U x)(d:tab.5 x=U q):fl tab (a.12 (i+1))=fl tab (a.12 i)++q.2:=by
 unfold fl;rw[zw,h,List.flatMap_append];simp[d]
theorem X7(h:jx b H tab)(i):∀y∈fl tab i,y∈b.7 (·.1):=λy d=>by
 let(x,_,a):=List.mem_flatMap.mp d;cases e:tab.5 x with
 |none=>ext
 |some q=>rw[e]at a;show(h _ (Js e)).2.2 y a
theorem Qd(h:jx b H tab):∀a,(fl tab a).9<=3*a.9
 | []=>zp _
 |x::r=>by
  let d:=Qd h r;unfold fl at d ⊢;rw[List.flatMap_cons,zE,length_cons];cases e:tab.5 x with
  |none=>change 0+_<=_;lia
  |some q=>
   have:=(h _ (Js e)).2.1;change q.2.9+_<=_
   grind
theorem IR(due)(n):(Ax due n).9<=due.9:=by
 unfold Ax;rw[AN];show tT (zP _ _) (Dv due)
inductive spUnlInit(b:FG)(f:nq)(vs:nk)(H:Hp)(Q:VK)(g:XK):Prop
 |mk (e C) (x) (i:vs=[.r e,.s x]) (j:x.9<=1000) (l:BL b C=L) (h:H e=U (GC e C J)) (o:OQ b C f nC) (m:∀d,H d=J->d≠e->Q .g (upd (upd H e (GC e C (U d))) d (.g [(nC,(.s x))])))
theorem Tc:AI [nv,nC] [nv,nC] (defScope Gz):=gQ
theorem Qe(F:gE b nV "Unled.__init__" Gz f B)(a:ZB P w b D m g):AT P w b D m gG 2 f B [nv,nC] (spUnlInit b g):=by
 let(y,v,j,u,q,r):=a.fn;show F.m Tc λvs H Q E h=>?_;let(e,C,x,rfl,l,p,i,S,k):=h;show(Y,λt A d s o=>?_);show(_,AC (Ah (KM Y a.83 a.ga a.rd j u o q r tO Ai (gM (Z 0) (Q7 (_) (Z 1))))) (AB (Q6 (M:=g) (Z 0) (Z 1) Y)),7,7,sY (sU (x,Y,l)),λz=>(e,C,J,z,Y,p,i,7,7,e,C,Y,i,S,k))
def mH(H:Hp)(E:XK)(b:nq)(x:Str):Prop:=∀e d f,fJ H f->H e=J->H d=J->d≠e->f e=U (Hi e b (U d))->f d=U (.g [(nC,(.s x))])->E (sR b) (U d) f
theorem mH.same(s:fJ H H')(h:mH H E b x):mH H' E b x:=λe d p i o q a l j=>h e d p (s.6 i) (none_of s o) (none_of s q) a l j
structure X8(P:Program)(w:World)(K:FG)(mg:SV)(base:Heap)(cM cL:nq):Prop where
 cls:mg rg=U (sR cL)
 make:∃f fd,MkX K cL f/\AT P w K mg base gG 2 f fd [nv,nC] (spUnlInit K cM)/\Binds K fd [nv,nC] []
 st:OQ K cL cM nC
theorem V0(q:BL m f=L)(S:OQ m f s nC)(t:x.9<=1000)(l:fJ H g)(h:mH H E f x)(ht:∀Q,Q (.s x) g->te v g Q):
  Ik f (Ij f (spUnlInit m s) [] E0 (A3 te Cz)) E D v g:=by
 show ht _ ((_),λa o=>(a,f,x,Y,t,q,fH,S,λd r i=>(Y,a,U d,Y,?_,?_)))
 ·rw[AE (sX i),fH]
 ·have j:g d=J:=by rwa[AE i]at r
  show h a d _ (λb u e=>?_) (none_of l o) (none_of l j) i fH ?_
  ·have p:=l _ _ e;let nb:=AH p o
   rwa[AE nb,AE (AH p j),AE nb,AE nb]
  ·rw[AE i,fH]
inductive spNf(C d b f:nq)(vs:nk)(H:Hp)(Q:VK)(E:XK):Prop
 |mk (p v k o kp) (n) (due fP) (r) (tab) (i:vs=[.r p,.r v]) (j:iA b H p k o fP tab) (m:gY d H v kp n) (h:fZ C H kp due r) (s:due.9<=60)
   (q:mm tab (Ax due n)=J->∀l g,fJ H g->g l=U (.l ((fl tab (Ax due n)).7 V.s))->Q (.r l) g) (u:∀x,mm tab (Ax due n)=U x->x.9<=1000/\mH H E f x)
theorem scNf:AI [nv,oS,oz,"mark"] [nv,oS] (defScope C5):=gQ
theorem bz(F:gE d "names_for" "Edition.names_for" C5 ar fd)(S:LF d f)(VT:IH d h)(g:X8 P w d mg ag cM cL)(GM:Mt P w d mg ag h o7 3 [nv] (spVMarks an h)):
  AT P w d mg ag (iD P w) 4 ar fd [nv,oS] (spNf an h f cL):=by
 let(fX,dX,MX,GX,bX):=g.make;show F.n scNf λvs H a3 a2 as=>?_;let(p,v,k,aR,kp,n,D,fP,a0,tab,rfl,ED,hV,KA,h60,L,R):=as;show(Y,λff a1 a5 a6 C=>?_);let hu:=BY C;let nd:=scNf.nd;let(dx,al,ob,hp,hd):=ED.ex;let(dv,hv):=id hV
 show(_,AC (A4 2 nd (BA AG))
  (AC (Bt PassesOwn.leaving rfl (Ay (CK (Z 1) VT.cl GM C)) (A7 3 nd)
   (AC (AU (CW (F3 hu (Z 3) (Ac (Z 0) rfl))) (AB (FR Hj rfl MX.83 (FQ MX GX (C.63 qc) rfl g.83 bX tO Ai (gX (Z 3))))) AL)
   (AB (Ah (Qq plainAttrs_list slot_list_extend type_list_extend P3 (Z 2) (gX (Am hu (Ac (Z 0) rfl) (Z 3))))))))
  (AB (AJ (Z 2)))),?_)
 show((_),λl hl=>?_);let I:=AD (fJ.r _) hl (o:=HO.l []);let G:(upd H l (HO.l [])) l=U (.l []):=fH;let M:=hl;generalize upd H l (HO.l [])=H1 at I G ⊢;show(7,v,dv,7,I _ _ hv,RV _ _ (_) (_),.mk v kp n D a0 Y (hV.15 I) (KA.15 I) h60 λs Q A t=>?_);let ab:=I.6 A;let aC:=IR D n;let fg:=Qd ED.tn;generalize Ax D n=m at L R t aC ⊢
 let aM:s=l->m=[]:=λz=>by
  rw[z,A _ _ G]at t
  ext
 show(s,Y,(_,fV.of t),Bg (ω:=d) (a:=s) (xs:=m.7 V.s) (λi T B=>C₅ (∃E:Option V,T=[U (.r p),U (.r v),U (.r l),E]) (mm tab (m.12 i)=J) (∀b u,Q b=U u->b≠l->B b=U u) (B l=U (.l ((fl tab (m.12 i)).7 V.s))) (i=0->B=Q))
  ((J,rfl),rfl,λ_ _ e _=>e,A _ _ G,λ_=>rfl) (λi T B N (_,_,e,_,hz)=>?_) ?_ ?_)
 ·by_cases z:s=l
  ·rw[aM z]at N;rw[hz (Nat.le_zero.mp N)];show fV.of t
  ·show fV.of (e _ _ t z)
 ·rintro i x0 T B N ⟨⟨E,rfl⟩,X,r,y,hz⟩;rw[zx]at N;let(x,hx,rfl):=z6.mp N;let j:fJ H B:=λb u e=>r b u (ab _ _ e) (AH e M);let(z1,z2):=Vz hx X;show(_,rfl,_,rfl,p,f,dx,_,_,rfl,j _ _ hp,S.cl,S.nT,Vv _ _ _,al,_,rfl,sU (_,sS x,sY (ob,j _ _ hd),rfl,rfl),_,rfl,?_);rw[D5];cases o:tab.5 x with
  |none=>
   let(hyl,hU):=R x (z1 (by rw[o];rfl));show Aj (V0 (te:=LI 3) MX.83 g.st hyl j hU λQ' q=>(7,q))
  |some q=>
   let hq:=ED.tn _ (Js o);let a4:i<m.9:=(z8.mp hx).1;let az:=fg (m.12 i);rw[zr]at az;show AV (7,sU (Y,_,fV.of y),7,p,f,dx,_,7,j _ _ hp,S.cl,S.nT,Vv _ _ _,7,al,7,sU (_,sS x,sY (ob,j _ _ hd),Y,by rw[D5,o];rfl),l,q.1,_,7,Y,y,j _ _ hq.1,sZ (AR (by rw[AN,AN];omega)),(_,Y),z2 (by rw[o];rfl),λb u e hb=>by rw[AE hb];show r b u e hb,?_,λz=>by cases z);rw[fH,Xg hx o,zl]
 ·rintro T B ⟨⟨E,rfl⟩,X,r,y,_⟩;rw[AN,zt]at X y;show(7,L X l _ (λb u e=>r b u (ab _ _ e) (AH e M)) y)
def CG(tab:List Ent)(due b:Aa)(n:Nat):Nat:=AY ((fl tab (Ax due n)).7 (look b))|||(n-(n&&&AY (Ab due)))
inductive Ou|kP (x:Str)|ki (n:Nat)|val (n:Nat)
noncomputable def JW(tab:List Ent)(due b:Aa)(d:Str)(n:Nat):Ou:=
 match mm tab (Ax due n)with
 |some x=>.kP x
 |none=>if AX b (CG tab due b n)≠0/\(d=pZ \/ d=pN)then .ki (AX b (CG tab due b n))else .val (if d=pe then plain (CG tab due b n)else plain (CG tab due b n)-AX b (CG tab due b n:Int))
def OuQ(d f h o:nq)(b:Str)(g:Nat)(H:Hp)(Q:VK)(E:XK):Ou->Prop
 |.kP x=>mH H E f x
 |.ki s=>(b=pZ -> lK H E h s)/\(b=pN -> ∀i,fJ H i->Q (.t (g:Int)) i)
 |.val m=>∀q i,fJ H i->gY d i q o m->Q (.r q) i
theorem Nj(h:Bi b)(tn:jx b H tab)(a:n<2^20):CG tab due b n<2^20:=Nat.or_lt_two_pow (K5 (X7 tn _) h.lt) (by omega)
theorem V1(h:Bi due)(e:mm tab (Ax due n)=U x):Yp x:=by
 let a:=List.mem_of_find?_eq_some e;let(m,d,rfl):=zh.mp a;show h.nm _ (JV (mem_filter.mp d).1)
inductive spLed(C b d f g h:nq)(vs:nk)(H:Hp)(Q:VK)(E:XK):Prop
 |mk (p v k o) (n) (due fP) (r r2) (tab) (j:vs=[.r p,.r v]) (l:iA d H p k o fP tab) (m:gY b H v k n) (i:n<2^20) (s:lN C H k o due fP r r2) (q:OuQ b f g o r2 (CG tab due fP n) H Q E (JW tab due fP r2 n))
theorem scLed:AI [nv,oS,nH] [nv,oS] (defScope Fg):=gQ
theorem Zb(F:gE b "led" "Edition.led" Fg an fd)(S:LF b j)(l:IH b f)(H:uf b (sR C) qI=im (im (sV oO)))(hm:vt b C (sW pA)=im iY)(EU:iK P w b i g qu cU)
  (X:Mt P w b i g C qJ 2 [nv,oa] (spEqK C)) (s:Mt P w b i g f nG 1 [nv] (spVKind f)) (A:Mt P w b i g f nH 1 [nv] (hX f)) (E:Mt P w b i g f pO 4 [nv] (spVRest C f))
  (m:DS P w b i g j "names_for" 4 [nv,oS] (spNf C f j Q)) (p:Fn P w b i g qf 6 [nG,oz] (spVo C f)) (GM:m9 P w b i g "made" 6 [nG,nH] (spMade C f cR)):
  AT P w b i g (iD P w) 7 an fd [nv,oS] (spLed C f j Q cR cU):=by
 let(fE,dE,X,mE,bE):=X.ex;show F.n scLed λvs a2 a3 a1 h=>?_;let(aR,v,k,o,n,a,d,r,U,tab,rfl,B,T,hn,t,h):=h;show(Y,λff a0 a6 a7 G=>?_);let al:kg a:=λq hq=>(t.d.nm q hq).2.1;let(dk,e1,e2,hk):=t.a.ins
 show(_,AC (AU (AK (Hh X (G.63 qc) bE mE H hm) (CK (Z 1) l.cl s G) (Ac (Z 0) Y) (AO _)) (AB Ad) AL)
  (AC (A4 2 scLed.nd (CK (gT p G (gM (Ac (Z 0) rfl) (DV (Z 0) S.cl m G Dx (gX (Z 1))))) l.cl A G))
  (AB (AJ (c_r GM G Dx (gM (Ac (Z 0) rfl) (AW GD (Z 2) (CK (Z 1) l.cl E G))))))),?_)
 show(7,JR T (7,e_k S B (k,dk,_,k,dk,7,Y,hk,hk,k,k,a,r,Y,t.a,al,sY (a,r,t.a,al,λH1 ag=>(7,7,7,?_)))));rw[zI (rfl,rfl)];let a5:=t.d.50;unfold JW at h;show AV (7,e_o S (B.15 ag) (7,(B.15 ag).no (7,.mk aR v k o k n a d r tab Y (B.15 ag) (T.15 ag) (t.a.15 ag) () (λe aM H2 s2 ab=>?_) λx e=>?_)))
 ·rw[e]at h;let D:=ag.6 s2;let a4:=IR a n;let fg:=Qd B.tn (Ax a n);show .mk i7 o aM d U _ Y (t.b.15 D) ab (by lia,X7 B.tn _,t.d2.lt) λq1 H3 s3 as=>Ge as (7,e_o S (B.15 (D.6 s3)) (7,7,?_));let y:=D.6 s3;let(dv,hv):=id (T.15 y);show(v,dv,7,hv,RV _ _ (_) (_),.mk v k n a r Y (T.15 y) (t.a.15 y) () λH4 s4=>(_,7,Y,?_));let u:=y.6 s4;let hg:=Nj (due:=a) t.d2 B.tn hn
  let e0:(λaz aC=>V.t (uh az aC)) ((AY ((fl tab (Ax a n)).7 (look d)):Nat):Int) ((n-(n&&&AY (Ab a)):Nat):Int)=V.t (CG tab a d n:Nat):=by
   change V.t (uh _ _)=_;rw[CZ];rfl
  show .mk o d U (CG tab a d n:Nat) (congrArg (λz=>[V.r o,z]) e0) (t.b.15 u) (VB t.d2.lt) (zX _) () ?_;generalize CG tab a d n=ar at h;simp only at h;by_cases I:AX d (ar:Int)≠0
  ·by_cases M:U=pZ
   ·rw[zf (I,sU M)]at h;show sU (I,M,(h.1 M).of u)
   ·by_cases ab:U=pN
    ·rw[zf (I,sY ab)]at h;show sY (sU (λz=>M z.2,I,ab,λR N=>h.2 ab R (u.6 N)))
    ·rw[zg λz=>z.2.40 M ab]at h;show sY (sY (λz=>M z.2,λz=>ab z.2,λq R N=>h q R (u.6 N)))
  ·rw[zg λz=>I z.1]at h;show sY (sY (λz=>I z.1,λz=>I z.1,λq R N=>h q R (u.6 N)))
 ·rw[e]at h;show((V1 t.d e).2.2,h.15 ag)
inductive spWi(C b:nq)(vs:nk)(H:Hp)(Q:VK)(d:XK):Prop
 |mk (p1 p2 k) (n1 n2) (due) (r) (h:vs=[.r p1,.r p2]) (i:gY b H p1 k n1) (j:gY b H p2 k n2) (g:fZ C H k due r) (m:kg due) (l:EI n1 n2<2^40) (p:r=pe \/ EI n1 n2-(EI n1 n2&&&kn due)=0) (o:∀f,fJ H f->Q (.l (decide (EI n1 n2=0))) f)
theorem ez:AI [pR,oa] [pR,oa] (defScope NC):=gQ
theorem b8(F:gE g "within" "within" NC f T)(B:IH g b)(i:Mt P w g R m b nH 1 [nv] (hX b))(S:Fn P w g R m sj 6 [pR,oa] (spOp EI C b)):AT P w g R m gG 7 f T [pR,oa] (spWi C b):=by
 show F.m ez λvs H Q E h=>?_;let(x,G,k,a,o,t,r,rfl,y,L,M,j,lt,l,q):=h;show(Y,λN A d s u=>?_);show(_,AB (AJ (CH Aq (CK (gT S u (gM (Z 0) (Z 1))) B.cl i u) AF (AO _))),7,7,.mk x G k a o t r Y y L M j lt l λp D v I=>Ge I ?_);let e:decide (V.t ((EI a o:Nat):Int)=V.t 0)=decide (EI a o=0):=decide_eq_decide.49 (λz=>by ext,λz=>by rw[z];rfl);show(Y,?_);rw[e];show q D v
def lj(g:En)(m:Nat)(x:Str):Bool:=match g x with|some (n,_)=>decide (EI m n=0)|none=>O
inductive spHg(b C:nq)(vs:nk)(H:Hp)(Q:VK)(d:XK):Prop
 |mk (z) (due) (r) (g) (D) (l) (ns) (j:vs=[.r z.b,.r l]) (m:ig b C z due r g D H) (o:H l=U (.l (ns.7 V.s))) (i:lX due ns) (s:kg due)
   (p:∀q h f,fJ H f->jj h g->uC h=L->f q=U (.l ((h.21 (lj g (AY (ns.7 (look due))))).7 V.s))->Q (.r q) f)
theorem scHg:AI [nv,oz,"wanted"] [nv,oz] (defScope Ff):=gQ
theorem b9(F:gE b "having" "Book.having" Ff f fd)(q:DR b l)(y:Fn P w b p m qf 6 [nG,oz] (spVo C s))(A:Fn P w b p m "within" 7 [pR,oa] (spWi C s))(v:Mt P w b p m l oz 1 [nv] (spNs l C))(E:DS P w b p m l oS 6 [nv,nC] (spVl l C s cB)):AT P w b p m gG 8 f fd [nv,oz] (spHg l C):=by
 show F.m scHg λvs aC aM as h=>?_;let(z,a,r,g,D,aR,j,rfl,B,hl,N,L,al):=h;show(Y,λff ar az a0 t=>?_)
 show(_,AC (A4 2 scHg.nd (gT y t (gM (Ac (Z 0) Y) (Z 1)))) (AB (AJ (BJ ["wanted",nv] [im 2,im 0] qd (_) (by rfl) Y (Ay (CK (Z 0) q.cl v t))
  (λ_ _ _ _ _ _=>DD (Al (gT A t (gM (Z 1) (DV (Z 2) q.cl E t Vj (gX (Z 0))))))) (λ_ _ _ _ _ _=>Z 0)))),_,rfl,lr q B (_,rfl,B.nmE i7 hl N λv1 H1 M ab=>(_,rfl,(B.15 M).no (z,a,r,g,D,rfl,B.15 M,λQ X H2 R o u so=>?_))))
 let i:=M.6 R;let T:lW a r (AY (j.7 (look a))):=N.ok;show(Q,Y,(_,fV.of o),Ku X _ (λx=>if lj g (AY (j.7 (look a))) x then im (V.s x)else io) (HL _ _) o (by have:=u.50;lia) (λa1 x G N' hx e s3 hN=>?_) λG s3 ag hp=>?_)
 ·subst e;let d:=i.6 s3;let((n,c),U):∃an,g x=im an:=uL.mp ((u.mem x).mp hx);let S:lW a r (EI (AY (j.7 (look a))) n):=(tw (vN _ _) T.1,T.2.imp id λz=>jy.sub _ z);show(7,7,(B.15 d).no (7,.mk z a r g D x n c Y (B.15 d) U λv2 H4 I h2=>.mk v1 v2 z.k _ n a r Y (ab.15 (R.6 (s3.6 I))) h2 (B.ka.15 (d.6 I)) L (uI S.1 qc) S.2 λH s5=>(7,?_)));have:=hN H (I.6 s5);let eb:lj g (AY (j.7 (look a))) x=decide (EI (AY (j.7 (look a))) n=0):=by unfold lj;rw[U]
  rw[eb]at this;show BF (λh=>?_) (λh=>?_)
  ·rw[zf h]at this;show(7,this)
  ·rwa[zg h]at this
 ·rw[RL];show al ag X _ ((i.6 s3).6 (AD (fJ.r _) hp)) u so fH
inductive spBo(b C:nq)(vs:nk)(H:Hp)(Q:VK)(g:XK):Prop
 |mk (k d) (due) (r) (kvs) (f) (j:vs=[.r k,.r d]) (l:fZ C H k due r) (m:H d=U (.d kvs)) (i:i6 H kvs f) (p:la due r f) (o:∀z h,fJ H h->H z.e=J->z.k=k->ig b C z due r f [] h->Q (.r z.b) h)
theorem scBo:AI [nG,o3,"book"] [nG,o3] (defScope NG):=gQ
theorem cA(F:gE r "book_of" "book_of" NG f w)(z:m oK=io)(S:ZW P al r m s g C):AT P al r m s gG 3 f w [nG,o3] (spBo g C):=by
 let(fB,dB,MB,GB,bB):=S.make;let BT:=S.T;show F.m scBo λvs H aM aC h=>?_;let(k,d,Y,ag,i,a0,rfl,KA,hd,E',ok,q):=h;show(zd,λff ar aR a4 hr=>?_);show(_,AC (A4 2 scBo.nd (Fy MB GB hr zd S.83 bB tO Ai (gX (Z 0)) qc)) (AC (B0 (Z 2) (A0 Gv zd z E3 (gX (Z 1))) zd) (AB (AJ (Z 2)))),7,λp dx G R X=>?_);let I:=DQ (D:=g) G R X;show .mk p dx k Y ag zd fH (KA.15 I) λdE v E s3 M a1 Bk=>(zd,7,d,i,zd,sU ?_,λu t=>?_)
 ·show Ce I G s3 _ _ hd
 let y:=Ce I G s3;let B:=AD (fJ.r E) t (o:=HO.d i);let Q:=fH (H:=E) (a:=u) (o:=HO.d i);let(j,A):=Bk.bk;generalize upd E u (.d i)=D at B Q;let N:u≠p:=sX (AH A t);let nE:=none_of I M;let T:∀b o,D b=im o->b≠p->upd D p (HO.i g j (Fw (.r k) u v)) b=im o:=λb o e A=>by rwa[AE A]
 let ab:=Bk.15 B;let x:=B _ _ A;show(7,p,g,j,7,x,BT.cl,BT.nE,by change 3<1000;decide,7,?_);let l:fJ H (upd D p (HO.i g j (Fw (.r k) u v))):=λb o e=>T b o (B _ _ (y _ _ e)) (AH e G);let(as,U,a2,a3):=ab.de;show q (p,k,u,v) _ l (none_of y t) zd ((j,fH),KA.15 l,(i,T _ _ Q N,E'.32 λb xs e=>l _ _ e),(as,T _ _ U λan=>?_,?_,a3),ok)
 ·have z':v=p:=an;rw[show(v:nq)=p from z',x]at U;cases U
 ·cases a2;show tO
structure Lp where
 (tab:List Ent) (due fP:Aa) (r r2:Str)
noncomputable def Ou.bad:Ou->Bool|.val _=>O|_=>L
noncomputable abbrev Lp.ou(b:Lp)(n:Nat):Ou:=JW b.tab b.45 b.fP b.r2 n
noncomputable def Lp.bd(b:Lp)(g:En)(x:Str):Bool:=match g x with|some (n,_)=>(b.ou n).bad|none=>O
noncomputable def Lp.f(b:Lp)(g:En):En:=λx=>match g x with|some (n,_)=>(match b.ou n with|.val m=>U (m,(0))|_=>J)|none=>J
def OuE(b d:nq)(H:Hp)(E:XK):Ou->Prop|.kP x=>mH H E b x|.ki s=>lK H E d (s:Int)|.val _=>True
noncomputable def LV(f:En)(l:ni):En:=λx=>if x∈l then f x else J
theorem i6.nil:i6 H [] (LV f []):=(([],rfl,nodup_nil,(λx a=>by cases a),λx=>(λz=>(by cases z),λz=>absurd (zg (_)) z)),λx n c e=>by trivial)
theorem i6.cut(h:i6 H b (LV f l))(a:x∈iW)(e:f x=U (m,(c)))(ht:TpE H t m c):i6 H (BS b (sS x) (.r t)) (LV f (l++[x])):=by
 let q:LV f (l++[x])=E5 (LV f l) x (U (m,(c))):=by
  funext y;unfold E5 LV;by_cases z:y=x
  ·ext
  ·simp[z]
 rw[q];show h.put a ht
theorem Lp.fx{b:Lp}{g:En}(h:g x=U (n,(c)))(e:b.ou n=.val m):b.f g x=U (m,(0)):=by unfold Lp.f;ext
theorem Lp.bx{b:Lp}{g:En}(h:g x=U (n,(c))):b.bd g x=(b.ou n).bad:=by unfold Lp.bd;rw[h]
theorem Lp.cut{b:Lp}(h:jj d g):LV (b.f g) d=b.f g:=by
 funext x;unfold LV;by_cases z:x∈d
 ·ext
 ·rw[zg z];have:g x=J:=uY λe=>z ((h.mem x).49 e);unfold Lp.f;rw[this]
theorem cC(h:Bi b)(tn:jx b H tab)(d:n<2^20)(e:JW tab due b f n=.val m):m<2^20/\(f=pe \/ m-(m&&&kn b)=0):=by
 let lt:=Nj (due:=due) h tn d;unfold JW at e;generalize CG tab due b n=G at e lt;rw[Jg,TY]at e;split at e
 ·cases e
 ·split at e
  ·cases e
  ·cases e;by_cases k:f=pe
   ·rw[zf k];show(lt,sU k)
   ·rw[zg k];let i:=uM (n:=G) (m:=kn b);let a:G-(G-(G&&&kn b))=G&&&kn b:=by lia
    rw[a];show(by lia,sY (QU _ _))
theorem V3(e:JW tab due b d n=.ki s):s=CG tab due b n-(CG tab due b n&&&kn b):=by
 unfold JW at e;split at e
 ·cases e
 ·split at e
  ·cases e;rfl
  ·cases e
inductive spLd(b C d f h i:nq)(vs:nk)(H:Hp)(Q:VK)(E:XK):Prop
 |mk (z) (g) (D) (p o) (j:Lp) (ns) (s:vs=[.r z.b,.r p]) (u:ig b C z j.45 j.r g D H) (v:iA d H p z.k o j.fP j.tab) (q:lN C H z.k o j.45 j.fP j.r j.r2) (y:jj ns g) (w:uC ns=L)
   (B:ns.76 (j.bd g)=J->∀l m,fJ H m->H l.e=J->l.k=o->ig b C l j.fP j.r2 (j.f g) [] m->Q (.r l.b) m) (A:∀x n c,ns.76 (j.bd g)=U x->g x=U (n,(c))->OuE f h H E (j.ou n))
 |no (z) (due jF fP) (r r') (g) (D) (p k o) (tab) (s:vs=[.r z.b,.r p]) (u:ig b C z due r g D H) (v:iA d H p k o fP tab) (q:fZ C H k jF r') (y:kg due) (w:kg jF) (B:¬ (jF=due/\r'=r)) (A:Uq H E i)
noncomputable abbrev NLd:ni:=[nv,"edition",o3,nC,oS]
theorem scLd:AI NLd [nv,"edition"] (defScope JF):=gQ
theorem cD(F:gE f "lead" "Book.lead" JF bb fd)(BT:DR f s)(v:LF f r)(VT:IH f u)(bk:uf f (sR C) qI=U (U (sV oO)))(hm:vt f C (sW pA)=U iY)(EU:iK P w f i h qu cU)
  (GE:Mt P w f i h C qJ 2 [nv,oa] (spEqK C)) (a6:Mt P w f i h u nH 1 [nv] (hX u)) (a4:Mt P w f i h r nG 1 [nv] (spEKind r)) (aM:Mt P w f i h r oa 1 [nv] (spEOther r)) (a5:Mt P w f i h s oz 1 [nv] (spNs s C))
  (a8:DS P w f i h s oS 6 [nv,nC] (spVl s C u cB)) (a7:m9 P w f i h qH 4 [nG,nM] (spVa C u cR)) (GL:DS P w f i h r "led" 7 [nv,oS] (spLed C u r cL cR cU)) (a3:Fn P w f i h "book_of" 3 [nG,o3] (spBo s C)):
  AT P w f i h (iD P w) 8 bb fd [nv,"edition"] (spLd s C r cL cR cU):=by
 let(fE,dE,GE,mE,bE):=GE.ex;show F.lB scLd (λvs H a9 a2 az=>?_) (λff bs bu bm H vs a9 a2 I az=>?_)
 ·let(_,_,_,_,_,_,_,rfl)||(_,_,_,_,_,_,_,_,_,_,_,_,rfl):=az<;>rfl
 ·have hu:=BY I;let nd:=scLd.nd
  show(_,AC (AU (AK (Hh GE (I.63 qc) bE mE bk hm) (CK (Z 1) v.cl a4 I) (Ac (Z 0) Y) (AO _)) (AB (Vh EU I)) AL)
   (AC (A4 2 nd B8)
   (AC (Bt PassesOwn.leaving rfl (Ay (CK (Z 0) BT.cl a5 I)) (A7 3 nd)
    (AC (A4 4 nd (c_r a7 I Dx (gM (CK (Z 1) v.cl aM I) (DV (Z 1) v.cl GL I Dx (gX (DV (Z 0) BT.cl a8 I Dx (gX (Z 3))))))))
    (AB (Cn hu (Z 2) (Z 3) (Af (gM (CK (Z 4) VT.cl a6 I) AF)) rfl))))
   (AB (AJ (gT a3 I (gM (CK (Z 1) v.cl aM I) (Z 2))))))),?_)
  let(z,g,an,p,o,L,ns,rfl,B,M,T,ky,so,hgo,hno)||(z,due,jF,fP,bl,r',g,an,p,k,o,tab,rfl,B,M,KA,R,asc',gd,hU):=az
  rotate_left
  ·let(dk,e1,e2,hk):=KA.ins;let(dk',e1',e2',as):=B.ka.ins;show(7,M.no (.mk p k o fP tab Y M (7,lr BT B (k,dk,_,z.k,dk',7,Y,hk,as,k,z.k,jF,r',Y,KA,asc',sY (due,bl,B.ka,R,λH1 s1=>(7,7,7,?_))))));rw[zL gd];show Aj (EU.rd s1 hU)
  ·let(dk,e1,e2,hk):=T.a.ins;let R:kg L.45:=λq hq=>(T.d.nm q hq).2.1;show(7,M.no (.mk p z.k o L.fP L.tab Y M (7,lr BT B (z.k,dk,_,z.k,dk,7,Y,hk,hk,z.k,z.k,L.45,L.r,Y,T.a,R,sY (L.45,L.r,B.ka,R,λH1 s1=>(7,7,7,?_))))));rw[zI (rfl,rfl)];show AV λd hd=>?_;let X:=AD s1 hd (o:=HO.d []);let h2:=fH (H:=H1) (a:=d) (o:=HO.d []);let aR:=none_of s1 hd;generalize upd H1 d (.d [])=H2 at X h2;show(7,(B.15 X).no (z,L.45,L.r,g,an,Y,B.15 X,λl2 n2 H3 s3 ab be br=>?_));obtain rfl:=ky.uniq be so br;let ml:=ky.50;let bd:l2≠d:=λy=>by rw[y,s3 _ _ h2]at ab;cases ab
   show(l2,Y,(_,fV.of ab),Bg (ω:=f) (a:=l2) (xs:=ns.7 V.s) (λag al D=>C₄ (∃v3 v4,al=[U (.r z.b),U (.r p),U (.r d),v3,v4]) ((ns.12 ag).76 (L.bd g)=io) (∀b o,H3 b=U o->b≠d->D b=U o) (∃j,D d=U (.d j)/\i6 D j (LV (L.f g) (ns.12 ag))))
    ((_,_,rfl),rfl,λ_ _ e _=>e,[],s3 _ _ h2,.nil) (λag al D _ K=>by let(_,_,e,_):=K;show fV.of (e _ _ ab bd)) ?_ ?_)
   ·rintro ag aC al D hi ⟨⟨v3,v4,rfl⟩,E,e4,j,ar,Q⟩;rw[zx]at hi;let(x,hx,rfl):=z6.mp hi;let a1:=zN hx;let((n,c),N):∃y,g x=U y:=uL.mp ((ky.mem x).mp a1);let S:fJ H D:=λb o e=>e4 b o (s3 _ _ (X _ _ e)) (AH e aR);let nn:=(B.ok x n c N).1;let(z1,z2):=Vz hx E;rw[Lp.bx N]at z1 z2;let B4:=B.15 S;let G:=M.15 S;show(_,rfl,G.no (.mk p z.k o L.fP L.tab rfl G (_,rfl,G.no (_,rfl,B4.no (_,rfl,.mk z L.45 L.r g an x n c rfl B4 N λaC H5 s5 hv=>?_)))));let l:=S.6 s5;show .mk p aC z.k o n L.45 L.fP L.r L.r2 L.tab rfl (M.15 l) hv nn (T.15 l) ?_;change OuQ _ _ _ _ _ _ _ _ _ (L.ou n);cases A:L.ou n with
    |kP y=>
     let q:=hno x n c (z1 (by rw[A];rfl)) N;rw[A]at q;show q.15 l
    |ki bx=>
     let q:=hno x n c (z1 (by rw[A];rfl)) N;rw[A]at q;show(λ_=>q.of l,λhl H6 s6=>.no o L.fP L.r2 (CG L.tab L.45 L.fP n) Y (T.b.15 (l.6 s6)) (uI (Nj T.d2 M.tn nn) qc) ?_);rw[←V3 A];show q.of (l.6 s6)
    |val m=>
     show λq H6 s6 hq=>.mk o q m Y hq ?_;let bn:=s5.6 s6;show(7,Ge hq (i1,λt ht=>?_));let s7:=AD bn ht (o:=HO.t [V.t m,V.t 0]);let h7:=fH (H:=H6) (a:=t) (o:=HO.t [V.t m,V.t 0]);generalize upd H6 t (.t [V.t m,V.t 0])=H7 at s7 h7;let a0:=s7 _ _ ar;let lk:j.9<sizeLine:=Q.small;show(7,7,d,7,jc.k (k:=sS x) a0 lk,(_,7),z2 (by rw[A];rfl),λb o e E=>by rw[AE E];show s7 _ _ (e4 b o e E),_,fH,?_);let tk:∀b xs,H7 b=U (.t xs)->(upd H7 d (.d (BS j (sS x) (.r t)))) b=U (.t xs):=λb xs e=>by rw[AE (λy=>by rw[y,a0]at e;cases e)];show e
     rw[zw,hx];show((Q.32 λb xs e=>s7 _ _ e).cut (ky.w x a1) (Lp.fx N A) h7).32 tk
   ·rintro al D ⟨⟨v3,v4,rfl⟩,E,e4,j,ar,Q⟩;rw[AN,zt]at E Q;rw[Lp.cut ky]at Q;let S:fJ H D:=λb o e=>e4 b o (s3 _ _ (X _ _ e)) (AH e aR);let G:=M.15 S;show(_,rfl,G.no (.mk p z.k o L.fP L.tab rfl G (_,rfl,.mk o d L.fP L.r2 j (L.f g) rfl (T.b.15 S) ar Q (λx m c e=>?_) λz' H5 s5 he as Bk=>hgo E z' H5 (S.6 s5) (none_of S he) as Bk)));unfold Lp.f at e;cases N:g x with
    |none=>rw[N]at e;cases e
    |some y=>
     let(n,c'):=y;rw[N]at e;simp only at e;cases A:L.ou n with
     |kP y=>rw[A]at e;cases e
     |ki bm=>rw[A]at e;cases e
     |val aC=>
      rw[A]at e;cases e;show cC T.d2 M.tn (B.ok x n c' N).1 A
theorem Xh{b:Type}{p}{l:List b}{m}(h:l[i]?=U m)(e:p m=L):(l.21 p)[((l.12 i).21 p).9]?=U m/\(l.21 p).12 ((l.12 i).21 p).9=(l.12 i).21 p:=by
 let o:=(z8.mp h).1
 let j:l.21 p=(l.12 i).21 p++m::(l.drop (i+1)).21 p:=by
  let d:=take_append_drop i l;rw[drop_eq_getElem_cons o,(z8.mp h).2]at d;let a:=congrArg (List.filter p) d;rw[filter_append,List.filter_cons_of_pos e]at a;show a.31
 rw[j];generalize (l.12 i).21 p=f;simp
noncomputable def jm(due:Aa)(n:Nat)(l:List Nat):ni:=(l.21 λm=>decide (m&&&n≠0)).7 (Cc (Ae due))
theorem cE(h:(Ab due)[i]?=U m)(l:m&&&n≠0):(Ax due n)[(jm due n ((Ab due).12 i)).9]?=U (Cc (Ae due) m)/\(Ax due n).12 (jm due n ((Ab due).12 i)).9=jm due n ((Ab due).12 i)/\(Ax due n).12 ((jm due n ((Ab due).12 i)).9+1)=jm due n ((Ab due).12 (i+1)):=by
 let(e,j):=Xh (p:=λm=>decide (m&&&n≠0)) h (zI l)
 let d:(Ax due n)[(jm due n ((Ab due).12 i)).9]?=U (Cc (Ae due) m):=by
  unfold Ax jm;rw[AN,zx,e];rfl
 let a:(Ax due n).12 (jm due n ((Ab due).12 i)).9=jm due n ((Ab due).12 i):=by
  unfold Ax jm;rw[AN,←List.map_take,j]
 show(d,a,?_);rw[zw,d,a];unfold jm;rw[zw,h,filter_append]
 ext
theorem Xi(h:(Ab due)[i]?=U m)(a:¬ m&&&n≠0):jm due n ((Ab due).12 (i+1))=jm due n ((Ab due).12 i):=by
 unfold jm;rw[zw,h,filter_append]
 simp[*]
def jk(H:Hp)(u:nq)(due:Aa):Prop:=∃bs,H u=U (.l (bs.7 V.r))/\fQ H bs (C9 due)
theorem jk.same(s:fJ H H')(h:jk H u due):jk H' u due:=by
 let(bs,d,a):=h;show(bs,s _ _ d,fQ.same s a)
theorem LG{H}{due}{a}{i:Nat}{v}(h:fQ H a (Ga due))(e:(a.7 V.r)[i]?=U v):∃b n,v=.r b/\(Ab due)[i]?=U n/\H b=U (.t [.s (Cc (Ae due) n),.t (n:Int)]):=by
 let(n,j,b,rfl,d):=CB (fQ.vs h) e
 ext
inductive spGoal(vs:nk)(H:Hp)(Q:VK)(b:XK):Prop
 |mk (t u u2) (n:Nat) (due f) (tab) (h:vs=[.r t,.r u,.r u2,.t (n)]) (i:H t=U (.d (ja tab))) (j:jx f H tab) (g:jk H u due) (m:jk H u2 f) (l:Bi due) (q:Bi f)
   (o:∀x p d,mm tab (Ax due n)=U x->fJ H d->d p=U (.t [.s nU,.s rg,.s x])->Q (.r p) d) (r:mm tab (Ax due n)=J->∀d,fJ H d->Q (.t (CG tab due f n:Nat)) d)
noncomputable abbrev cF:ni:=[nZ,n8,pb,nI,"_law_own",pP,qx,og,rb,"_law_bit","_law_one"]
theorem scGoal:AI cF [nZ,n8,pb,nI] (defScope Km):=gQ
theorem Xj(F:gE f se se Km a3 fd)(GT:Fn aR a7 f mg a1 o9 2 [n8] spTable):AT aR a7 f mg a1 gG 3 a3 fd [nZ,n8,pb,nI] spGoal:=by
 show F.m scGoal λvs ab bd a9 a4=>?_;let(t,u,u2,n,l,r,tab,rfl,ht,TN,D1,D2,DO,DO2,kL,kH):=a4;show(Y,λff a8 be bk hr=>?_);let w:=BY hr;let X:=scGoal.nd
 show(_,AC (RB (i:=4) (j:=5) (k:=6) Y X Y Y Y Y Y Y (AA (gT GT hr (gX (Z 1))) (gM AF B8)) qd)
  (AC (Bt tK rfl (Ay (Z 2)) (BG rfl (AQ (A7 7 X) (AQ (A7 8 X) Av))) (AB (Cn w (Z 6) (Z 7) (Z 8) rfl)))
  (AC (Bt tK rfl (Ay (Am w (Z 4) AM)) (BG rfl (AQ (A7 7 X) (AQ (A7 9 X) Av)))
   (AB (AU (AK Dc (AW Bh (Z 3) (Z 9)) AF (AO _))
    (AC (AU (CW (F3 w (Z 7) (Z 0))) (AB (AJ (Af (AA AM (gM AM (Z 7)))))) AL)
    (AB (Bt tK rfl (Jw (Am w (Z 0) (Z 7))) (A7 10 X)
     (AB (A4 5 X (AW GD (Z 5) (Am w (Z 6) (Z 10))))))))
    AL)))
  (AB (AJ (AW GD (Z 5) (AW CL (Z 3) (AW Bh (Z 3) (Am w (Z 4) AM)))))))),?_)
 let(bs,hu0,fv):=D1;show(7,.mk u bs l Y hu0 fv DO.50 DO.lt λA e ar ms H1 s1 ag he hm gc=>?_);show λd hd=>(_,_,7,?_);let D:=AD (fJ.r _) hd (o:=HO.d []);let G:=fH (H:=H1) (a:=d) (o:=HO.d []);let Q:=s1.6 D;let a5:ab d=J:=none_of s1 hd;let a2:A≠d:=AH ag hd;let dm:ar≠d:=AH hm hd;generalize upd H1 d (HO.d [])=H2 at D G Q ⊢;let(cs,I,gj):=D2.15 Q;let a6:u2≠d:=λz=>by rw[z,G]at I;cases I
 let fh:cs.9=r.9:=by rw[gj.9];unfold C9;rw[AN]
 show(7,u2,Y,(_,fV.of I),Bg (ω:=f) (a:=u2) (xs:=cs.7 V.r) (λi C R=>C₃ (∃m M:Option V,C=[U (.r t),U (.r u),U (.r u2),U (.t (n:Int)),U (.r A),U (.t 0),U (.r d),m,M,J,J]) (∀b o,H2 b=U o->b≠d->R b=U o) (R d=U (.d (A9 (r.12 i)))))
  ((J,J,rfl),λ_ _ e _=>e,G) (λi C R _ c=>by let(_,e,_):=c;show fV.of (e _ _ I a6)) ?_ ?_)
 ·rintro i aM C R hi ⟨⟨m,M,rfl⟩,g,N⟩;let(bb,p,rfl,hb1,fm,O):=Cd (fQ.gK (λb xs e=>g b _ e (λz=>by rw[z,G]at e;cases e)) gj) hi
  let T:p.1∉ (r.12 i).7 (·.1):=λz=>by
   let h7:=DO2.nd.sublist ((take_sublist (i+1) r).7 (·.1));rw[zw,fm,zl,nodup_append]at h7;show h7.2.2 _ z _ (zz.49 Y) rfl
  show(bb,7,gB.of O,Y,_,7,_,7,Y,7,7,7,d,7,jc.k (k:=sS p.1) N (AR (by have:=DO2.50;rw[F7,zr];lia)),(_,7),λb o e v=>by rw[AE v];show g b o e v,?_);rw[fH,NK T,zw,fm];rfl
 ·rintro C R ⟨⟨m,M,rfl⟩,g,N⟩;rw[show r.12 (cs.7 V.r).9=r by rw[AN,fh,zt]]at N;let S:fJ ab R:=λb o e=>g b o (Q _ _ e) (AH e a5);let az:=g _ _ (D _ _ ag) a2;let aC:=g _ _ (D _ _ hm) dm;let as:fQ R ms (Ga l):=fQ.gK (λb xs e=>g b _ (D _ _ e) (AH e hd)) gc;let mn:=S _ _ ht;let a0:=TN.15 (gF.of S);clear g gj I fh D G Q ag hm gc
  let f7:(ms.7 V.r).9=(Ab l).9:=by
   let h1:=as.9;unfold Ga at h1
   rwa[AN]at h1 ⊢
  show(7,A,7,sU (_,sS o7,sU az,Y,(MO _ _ _).31),ar,Y,(_,fV.of aC),Bg (ω:=f) (a:=ar) (xs:=ms.7 V.r) (λi C s=>C₃ (∃m M v9 B:Option V,C=[U (.r t),U (.r u),U (.r u2),U (.t (n:Int)),U (.r A),U (.t (AY ((fl tab (jm l n ((Ab l).12 i))).7 (look r)):Nat)),U (.r d),m,M,v9,B]) (mm tab (jm l n ((Ab l).12 i))=J) (s=R))
   ((_,_,_,_,rfl),rfl,rfl) (λi C s _ K=>by let(_,_,e):=K;show e ▸ fV.of aC) ?_ ?_)
  ·rintro i aM C s hi ⟨⟨m,M,v9,B,rfl⟩,h,rfl⟩;let(bb,H,rfl,T,O):=LG as hi;show(bb,7,gB.of O,Y,_,7,_,7,Y,7,7,_,7,Y,Y,7,?_);change if (!decide (V.t (tD (n:Int) (H:Int))=V.t 0))=iY then _ else _
   rw[bt,Nat.and_comm];show BF (λhq=>?_) (λhq=>?_)
   ·have v:=zS hq;let(hx1,hx2,hx3):=cE T v;let an:=hx3;rw[zw,hx1,hx2]at an;rw[←hx2]at h;let(z1,z2):=Vz hx1 h;rw[hx3]at z2;generalize Cc (Ae l) H=x at O z1 z2 an ⊢;show(_,rfl,_,rfl,t,_,rfl,sU (_,sS x,sU mn,rfl,rfl),_,rfl,?_);rw[D5];cases E:tab.5 x with
    |none=>show Aj (_,rfl,kQ,λp hp=>kL x p _ (z1 (by rw[E];rfl)) (S.6 (AD (fJ.r _) hp)) fH)
    |some q=>
     let al:=a0 _ (Js E)
     show AV (7,7,t,7,sU (_,sS x,sU mn,Y,by rw[D5,E];rfl),q.1,Y,(_,gB.of al.1),WA (ω:=f) (a:=q.1) (xs:=q.2.7 V.s) (λj C P=>(∃B:Option V,C=[U (.r t),U (.r u),U (.r u2),U (.t (n:Int)),U (.r A),U (.t (AY ((fl tab (jm l n ((Ab l).12 i))++q.2.12 j).7 (look r)):Nat)),U (.r d),U (.s x),M,U (.t (H:Int)),B])/\P=s)
      ((_,by rw[List.take_zero,zj];rfl),rfl) (λj C P _ W=>by let(_,e):=W;show e ▸ gB.of al.1) ?_ ?_)
     ·rintro j aM C P hj ⟨⟨B,rfl⟩,rfl⟩;rw[zx]at hj;let(y,hy,rfl):=z6.mp hj;let f6:=al.2.2 y (zN hy);show(7,7,7,d,7,sU (_,sS y,sU N,Y,(Cb f6).31),_,7,Y,(U (.s y),?_),Y)
      let eo:(λi j=>V.t (uh i j)) ((AY ((fl tab (jm l n ((Ab l).12 i))++q.2.12 j).7 (look r)):Nat):Int) ((look r y:Nat):Int)=V.t ((AY ((fl tab (jm l n ((Ab l).12 i))++q.2.12 (j+1)).7 (look r)):Nat):Int):=by
       change V.t (uh _ _)=_;rw[CZ,zw,hy,←append_assoc,zl (l₂:=Option.toList (U y))];change _=V.t ((AY (_++[look r y]):Nat):Int);rw[Ei]
      rw[←eo];rfl
     ·rintro C P ⟨⟨B,rfl⟩,rfl⟩;show((U (.s x),M,U (.t (H:Int)),B,?_),z2 (by rw[E];rfl),Y);rw[←an,AN,zt]
      let ef:fl tab (jm l n ((Ab l).12 i)++(U x).33)=fl tab (jm l n ((Ab l).12 i))++q.2:=by
       unfold fl;rw[List.flatMap_append];simp[E]
      rw[ef]
   ·have v:¬ H&&&n≠0:=λz=>hq (zI z);rw[←Xi T v]at h ⊢;show((_,_,_,7),h,Y)
  ·rintro C s ⟨⟨m,M,v9,B,rfl⟩,h,rfl⟩;rw[f7,zt]at h ⊢;show(7,7,7,7,A,7,sU (_,sS o4,sU az,Y,(U7 _ _ _).31),_,7,Y,_,7,Y,_,7,Y,?_)
   let eg:(λi j=>V.t (uh i j)) ((AY ((fl tab (jm l n (Ab l))).7 (look r)):Nat):Int) ((n:Int)-tD (n:Int) ((AY (Ab l):Nat):Int))=V.t ((CG tab l r n:Nat):Int):=by
    change V.t (uh _ _)=_;rw[IP,CZ];rfl
   have:=kH h s S
   rwa[←eg]at this
def LvQ(b:Str)(g:Nat)(H:Hp)(v:V):Ou->Prop
 |.kP x=>∃q,v=.r q/\H q=U (.t [.s nU,.s rg,.s x])
 |.ki s=>∃q,v=.r q/\((b=pZ /\ H q=U (.t [.s nU,.s oX,.t (s:Int)]))\/(b=pN /\ H q=U (.t [.s sE,.t (g:Int)])))
 |.val m=>v=.t (m:Int)
inductive spLLed(C b:nq)(vs:nk)(H:Hp)(Q:VK)(d:XK):Prop
 |mk (p k o t u u2) (n:Nat) (due fP) (r r2) (tab) (h:vs=[.r p,.r t,.r u,.r u2,.t (n)]) (i:iA b H p k o fP tab) (j:lN C H k o due fP r r2) (g:H t=U (.d (ja tab))) (m:jk H u due) (l:jk H u2 fP)
   (q:∀v f,fJ H f->LvQ r2 (CG tab due fP n) f v (JW tab due fP r2 n)->Q v f)
noncomputable abbrev cG:ni:=[q9,nZ,n8,pb,nI,"_law_goal_here"]
noncomputable abbrev V4:ni:=[q9,nZ,n8,pb,nI]
theorem scLLed:AI cG V4 (defScope NH):=gQ
theorem Xk(F:gE b "_law_led" "_law_led" NH f H)(B:Bl m)(s:LF b r)(T:EQ b C)(u:Fn P w b m p se 3 [nZ,n8,pb,nI] spGoal)(GT:Fn P w b m p o9 2 [n8] spTable)(GM:Fn P w b m p rh 1 [nZ,oY,nI] spLMade)
  (A:Mt P w b m p r oa 1 [nv] (spEOther r)) (E:Mt P w b m p C pO 1 [nv] (spRest C)):AT P w b m p gG 4 f H V4 (spLLed C r):=by
 show F.m scLLed λvs az aM as h=>?_;let(al,k,o,t,an,U,n,I,a,aR,J,tab,rfl,O,y,ht,D1,Y,i):=h;show(zd,λff ar aC a0 D=>?_)
 show(_,AC (A4 5 scLLed.nd (gT u D (AA (Z 1) (AA (Z 2) (gM (Z 3) (Z 4))))))
  (AC (AU (Al (BZ b rfl rfl B.iP rfl B.56 Bs (Z 5))) (AB (AJ (Z 5))) AL)
  (AB (AJ (gT GM D (AA (gT GT D (gX (Z 3))) (gM (CK (CK (Z 0) s.cl A D) T.cl E D) (Z 5))))))),?_)
 show(7,7,7,7,.mk t an U n I a tab zd ht O.tn D1 Y y.d y.d2 (λx q Q hL M l=>?_) λhH Q M=>?_)
 ·show(7,_,_,_,iY,zd,.t l,zd,7,Aj (7,i _ _ M ?_));unfold JW;rw[hL];show(q,zd,l)
 ·let(cs,S,R):=Y.15 M;show(7,_,_,_,i7,zd,.b _,zd,7,AV (7,.mk U cs a zd S R y.d2.50 y.d2.lt λtb e ag ms H2 ab N he hm gc=>?_));let d:=M.6 ab;let X:=y.b.15 d;let(dk,e1,e2,hk):=X.ins;show(7,(O.15 d).no (.mk al k o a tab zd (O.15 d) (o,dk,7,hk,(Bw _ _ _),.mk o a J zd X (7,.mk tb e ag a J _ zd N (zX _) ?_))));unfold JW at i;rw[hH]at i;generalize CG tab I a n=g at i;simp only at i;by_cases j:AX a (g:Int)≠0
  ·by_cases v:J=pZ
   ·rw[zf (j,sU v)]at i;show sU (j,v,λq l=>i _ _ (d.6 (AD (fJ.r _) l)) (q,zd,sU (v,fH)))
   ·by_cases G:J=pN
    ·rw[zf (j,sY G)]at i;show sY (sU (λz=>v z.2,j,G,λq l=>i _ _ (d.6 (AD (fJ.r _) l)) (q,zd,sY (G,fH))))
    ·rw[zg λz=>z.2.40 v G]at i;show sY (sY (λz=>v z.2,λz=>G z.2,i _ _ d zd))
  ·rw[zg λz=>j z.1]at i;show sY (sY (λz=>j z.1,λz=>j z.1,i _ _ d zd))
noncomputable def kK:List Pos:=[(728,31,728,72),(734,23,734,53),(737,21,737,62)]
noncomputable abbrev q1:Str:="law.<locals>." ++ nO
noncomputable abbrev Zc:ni:=[oy,ny,nZ,n8,oY,"_law_good",oU,"_law_bits",og,rb,pb,"_law_other","_law_pairs","_law_bit","_law_goals","_law_leads","_law_due_table","_law_wrong",nI,"_law_left",nz,q9,pP,"_law_strange"]
theorem iF:AI Zc [oy] (defScope LR):=gQ
inductive spBk(b C:nq)(vs:nk)(H:Hp)(Q:VK)(d:XK):Prop
 |mk (z) (due) (r) (g) (D) (f:vs=[.r z.b]) (h:ig b C z due r g D H) (i:Q (.r z.k) H)
theorem fD:AI [nv] [nv] (defScope JE):=gQ
theorem cH(F:gE b nG "Book.kind" JE f m)(d:DR b l):AT P w b p o gG 1 f m [nv] (spBk l C):=by
 show F.m fD λvs H Q E h=>?_;let(z,e,r,g,D,rfl,B,q):=h;show(Y,λi A a s j=>?_);show(_,AB (AJ (Ac (Z 0) Y)),7,lr d B q)
structure cI(P:Program)(w:World)(K:FG)(mg:SV)(base:Heap)(C EC:nq):Prop where
 T:LF K EC
 cls:mg "Edition"=U (sR EC)
 make:∃f fd,Mk K EC f/\AT P w K mg base gG 4 f fd [nv,nG,oa,qS] (spEInit C EC)/\Binds K fd [nv,nG,oa,qS] []
structure Lw(P:Program)(w:World)(K:FG)(mg:SV)(base:Heap)(BC C EC bd cR cN cL cU cM c P0:nq)(ec:Nat->nq)(T:List (nq×Str×List Pos)):Prop where
 hC:vX base c P0
 hBu:base.47 mg P0
 TB:TdB P w K mg base ec cM
 hT:(P0,q1,(kK))∈T
 un:∀p∈T,∀q∈T,q.1=p.1->q=p
 B:Bl mg
 BT:DR K BC
 KO:QZ P w K mg base C
 EO:cI P w K mg base C EC
 neK:uf K (sR C) qI=U (U (sV oO))
 hm:vt K C (sW pA)=U L
 EPN:Fv K ec cM cN 10
 EPU:Fv K ec cM cU 7
 EFL:Jf K ec cL 3
 EFR:Jf K ec cR 1
 GE:Mt P w K mg base C qJ 2 [nv,oa] (spEqK C)
 GKn:Mt P w K mg base C ph 2 [nv] (spKnown C)
 GRd:Fn P w K mg base rA 2 [oy,oG] (spRounds K)
 GLb:Fn P w K mg base rZ 13 [ny,oG] (spLb BC C bd T)
 GNm:Fn P w K mg base qR 3 [ny,n8,oG] spLn'
 GLi:Fn P w K mg base qP 3 [ny,oG] spLines
 GRu:Fn P w K mg base qr 3 [ny] spRuleOf
 GRo:Fn P w K mg base oN 2 [ny,oM] spRollB
 GT:Fn P w K mg base o9 2 [n8] spTable
 GLL:Fn P w K mg base "_law_led" 4 V4 (spLLed C EC)
 GBl:Fn P w K mg base qF 7 [nz,nZ] (spBl BC C)
 GHv:Mt P w K mg base BC "having" 8 [nv,oz] (spHg BC C)
 GBk:Mt P w K mg base BC nG 1 [nv] (spBk BC C)
 GLd:DS P w K mg base BC "lead" 8 [nv,"edition"] (spLd BC C EC cL cR cU)
 GTk:DS P w K mg base BC rY 3 [nv] (spTk BC C cN)
abbrev XLw(P:Program)(w:World)(h:FG)(d:SV)(b:Heap)(c f:nq)(A:Around)(g:List Env)(s:nr)(H:Hp)(E:XK):Cx:=(CN gG P w h d b Zc rH (defScope LR) f (sR c) A g s H E).kr
theorem Lw.td(b:Lw P w d l h m C o bd r q p u i c g j T):ZS (XLw P w d l h c f A v s H E) d q1 j i c g kK:=b.TB.at b.hC b.hBu (by rfl)
structure Rp where
 (a t:nq) (y:Zw) (due:Aa) (r:Str) (g:En) (D:lI) (F:List En) (H4:Hp)
abbrev Rp.W(p:Rp)(b C bd:nq)(T:List (nq×Str×List Pos))(H:Hp):Prop:=Ws b C bd T p.y p.45 p.r p.g p.D p.F H
noncomputable def Rp.st(p:Rp)(f:Nat->Option V):St:=[U (.r p.a),U (.r p.y.d),U (.r p.t),U (.r p.y.u),U (.s p.r),U (.l L),f 6,f 7,f 8,f 9,f 10,f 11,f 12,f 13,f 14,f 15,f 16,f 17,f 18,f 19,U (.r p.y.z.b),f 21,f 22,f 23]
noncomputable abbrev iV(f:Nat->Option V)(i:Nat)(v:V):Nat->Option V:=λj=>if j=i then U v else f j
structure RpOk(BC C bd:nq)(T:List (nq×Str×List Pos))(p:Rp):Prop where
 N:Nd bd p.y
 W:p.W BC C bd T p.H4
 te:p.t≠p.y.z.e
 tb:iC p.H4 p.t p.g
 dk:Bi p.45
 dl:0<p.due.9
 ln:p.due.9<=9
 wd:∀x∈p.due.7 (·.1),x∈g8
 hr:p.r∈gZ
abbrev Pr:=Rp->(Nat->Option V)->Hp->Prop
def Tri(X:Cx)(b C bd:nq)(T:List (nq×Str×List Pos))(st:Stmt)(A B:Pr):Prop:=∃t,mQ X st t/\∀p,RpOk b C bd T p->∀D f H,p.W b C bd T H->Kp p.y p.H4 H->A p f H->(∀g d,p.W b C bd T d->Kp p.y p.H4 d->B p g d->D.nx (p.st g) d)->t D (p.st f) H
def Xl(X:Cx)(b C bd:nq)(T:List (nq×Str×List Pos))(d:List Stmt)(A B:Pr):Prop:=∃t,iX X d t/\∀p,RpOk b C bd T p->∀D f H,p.W b C bd T H->Kp p.y p.H4 H->A p f H->(∀h g,p.W b C bd T g->Kp p.y p.H4 g->B p h g->D.nx (p.st h) g)->t D (p.st f) H
theorem Tri.cons{C}{e bd}{T}{X}{st}{d}{A B i}(a:Tri X e C bd T st A B)(b:Xl X e C bd T d B i):Xl X e C bd T (st::d) A i:=by
 let(t,a,o):=a;let(u,b,l):=b;show(_,Di a b,λp g D f H W k h post=>o p g _ f H W k h λv x j q r=>l p g D v x j q r post)
theorem Tri.one(a:Tri X b C bd T st A B):Xl X b C bd T [st] A B:=by
 let(t,a,d):=a;show(_,Dj a,d)
abbrev IS(P:Program)(w:World)(g:FG)(d:SV)(b:Heap)(h C bd c:nq)(T:List (nq×Str×List Pos))(i:Nat)(A B:Pr):Prop:=∀f j l s H E,gD 13 (XLw P w g d b c f j l s H E).A->Tri (XLw P w g d b c f j l s H E) h C bd T (ZR (Rt (ZR (defBody LR) 0)) i) A B
theorem Lw.tdW(f:Lw P w A z m b C l bd u s o v r c g y T)(j:RpOk b C bd T p)(W:p.W b C bd T H)(i:L1 g H a)(h:gR a g q1 kK):Kt H a/\p.W b C bd T a:=W.td j.N f.hT (λq d e=>f.un _ f.hT q d e) i h
abbrev Nw(y:Zw)(b:nq):Prop:=b≠y.d/\b≠y.z.e/\b≠y.z.l/\b≠y.t
theorem Ws.new(W:Ws b C bd T y due r g D F H)(h:H q=J):Nw y q:=by
 let(_,_,d):=W.di;let(_,e,_):=W.B.de;let(_,a,_):=W.tb;let(_,i,_):=W.B.en;show(?_,?_,?_,?_)<;>(lia)
theorem Kp.of(k:Kp y H f)(n:Nw y b)(e:H b=U o)(d:∀g,o≠ .c g:=by intro _;show λz=>nomatch z)(h:∀a,o≠ .e a:=by intro _;show λz=>nomatch z):f b=U o:=k b o e n.1 n.2.1 n.2.2.1 n.2.2.2 d h
theorem Kp.kq(k:Kp y H f)(W:Ws v C bd T y due r g D F H)(e:H b=U o)(u:∀s,o≠ .l s:=by intro _;show λz=>nomatch z)(l:∀a,o≠ .d a:=by intro _;show λz=>nomatch z)(d:∀m,o≠ .c m:=by intro _;show λz=>nomatch z)(i:∀h,o≠ .e h:=by intro _;show λz=>nomatch z):f b=U o:=by
 let(_,_,p):=W.di;let(_,q,_):=W.B.de;let(_,j,_):=W.tb;let(_,t,_):=W.B.en;show k b o e (λz=>by grind) (λz=>by grind) (λz=>by grind) (λz=>by grind) d i
theorem Kp.tt(k:Kp y H d)(W:Ws f C bd T y due r g D F H):gF H d:=λb a e=>k.kq W e
theorem Kp.kind(k:Kp y H b)(W:Ws s C bd T y due r g D F H)(h:fZ C H a f m):fZ C b a f m:=by
 let(l,i,q,j,d,o,e,p):=h.ex;show⟨(l,i,q,j,d,k.kq W o,k.kq W e,k.kq W p)⟩
theorem Kp.ed(k:Kp y H f)(W:Ws q C bd T y due r g D F H)(h:iA b H p i o m tab):iA b f p i o m tab:=by
 let(j,d,l,a,e):=h.ex;show((j,d,l,k.kq W a,k.kq W e),h.tn.15 (k.tt W))
theorem Kp.dueL(k:Kp y H b)(W:Ws i C bd T y due r g D F H)(n:Nw y u)(h:jk H u f):jk b u f:=by
 let(bs,d,a):=h;show(bs,k.of n d,fQ.gK (k.tt W) a)
theorem Kp.prs(k:Kp y H b)(W:Ws m C bd T y due r g D F H)(n:Nw y l)(h:lL a j H l f):lL a j b l f:=by
 let(d,e,i):=h.at_;show((d,k.of n e,Paired.imp' (λ_ _ q=>q.15 (k.tt W)) i),h.50,h.sb,h.nm)
theorem RpOk.tbk(d:RpOk f C bd T p)(k:Kp p.y p.H4 H):iC H p.t p.g:=d.tb.32 (λb a e=>k.tp d.W e) λ_ e=>k.dk d.W e d.te
abbrev A1:Pr:=λ_ _ _=>True
abbrev B1:Pr:=λp f H=>∃l b,f 6=U (.r l)/\f 7=U (.t (AY (b.7 (look p.45)):Nat))/\H l=U (.l (b.7 V.s))/\lX p.45 b
theorem t1(m:Lw P w B A z g C G bd R Q M S N c I X T):IS P w B A z g C bd c T 1 A1 B1:=λf x d s H E j=>by
 show(_,⟨Bf (gT m.GNm j (AA (Z 1) (gM (Z 3) AF))) (BG Y (AQ (A7 6 iF.nd) (AQ (A7 7 iF.nd) Av)))⟩,λp ab D f H W kp _ post=>?_);let(a,b,v):=W.di;let(bs,i,ht):=W.du;show(7,7,.mk p.y.d p.y.u 2 a b bs p.45 Y v i ht ab.dl ab.dk qc ab.N.ud λq l e y h t r u o=>(q,7,gB.of r,Y,_,7,_,7,Y,?_));show post (iV (iV f 6 (.r l)) 7 (.t (AY (e.7 (look p.45)):Nat))) _ (W.g6 ab.N h) (kp.6 (.one h.88 (sU Y))) (l,e,Y,Y,u,o)
theorem fG(m n):decide (EI m n=0)=decide (V.t (tD (n:Int) (m))=V.t (m:Int)):=by
 rw[CV,Nat.and_comm];have:=uM (n:=m) (m:=n);show decide_eq_decide.49 (λz=>by grind,λz=>by lia)
theorem t2(g:Lw P ar l mg al m C EC bd cR cN cL cU cM c P0 ec T):IS P ar l mg al m C bd c T 2 B1 A1:=λf Ar aR a0 H aM I=>by
 let hu:=BY I
 show(_,⟨AU (AK (Gn l Y I.42) (mG (pv 20) g.BT.cl g.GHv I (gX (pv 6))) (BJ ["_law_bits",nZ] [U 7,U 2] qd (_) (by rfl) Y (Ay (AS (DF Y) Y g.B.sorted C7 (gX (pv 2))))
  (λ_ _ _ _ _ _=>DD (AK Aq (AW Bh (Ak (AZ l rfl) (Am hu (pv 2) (pv 0)) AF) (pv 1)) (pv 1) (AO _))) (λ_ _ _ _ _ _=>pv 0)) (AO _)) (AB Ad) AL⟩,λp w aC f H W kp (an,i,e6,D,hl,Nm) post=>?_)
 let ab:kg p.45:=λq Q=>(w.dk.nm q Q).2.1;let(F,hk,E'):=w.tbk kp;let(ms,h1,h2):=E'.ks;show(7,W.B.no (_,congrArg U e6,.mk p.y.z p.45 p.r p.g p.D an i Y W.B hl Nm ab λq j s X A so Q=>?_));let S:=X _ _ hk;show(7,p.t,F,ms,Y,sU S,h1,by have:=h2.50;lia,λB m2 ag hp N=>?_);obtain rfl:=A.uniq (h2.perm hp) so N;let z:=AD (fJ.r s) ag (o:=HO.l (j.7 V.s));let d:=fH (H:=s) (a:=B) (o:=HO.l (j.7 V.s));generalize upd s B (.l (j.7 V.s))=H2 at z d;show(B,Y,(_,fV.of d),Ku j _ (λx=>if lj p.g (AY (i.7 (look p.45))) x then U (V.s x)else io) (HL _ _) d (by have:=A.50;lia) (λa1 x r N' M e s3 hN=>?_) λr s3 q2 R=>?_)
 ·subst e;let((n,c'),hg):∃az,p.g x=U az:=uL.mp ((A.mem x).mp M);let(t',hv,Z):=E'.vl x n c' hg;let u:fJ H r:=λb o e=>s3 _ _ (z _ _ (X _ _ e));have:=hN r (fJ.r _);let eb:lj p.g (AY (i.7 (look p.45))) x=decide (EI (AY (i.7 (look p.45))) n=0):=by unfold lj;rw[hg]
  rw[eb,fG]at this;show(7,7,p.t,7,sU (_,sS x,sU (u _ _ hk),Y,hv.31),t',_,0,7,Y,gB.of (u _ _ Z),Y,_,congrArg U D,_,7,Y,_,congrArg U D,Y,7,BF (λh=>?_) (λh=>?_))
  ·rw[zf h]at this;show(7,this)
  ·rwa[zg h]at this
 ·rw[RL];let v:=AD s3 R (o:=HO.l ((j.21 (lj p.g (AY (i.7 (look p.45))))).7 V.s));let E:=fH (H:=r) (a:=q2) (o:=HO.l ((j.21 (lj p.g (AY (i.7 (look p.45))))).7 V.s));generalize upd r q2 (.l ((j.21 (lj p.g (AY (i.7 (look p.45))))).7 V.s))=G at v E;let y:∀x∈j.21 (lj p.g (AY (i.7 (look p.45)))),x.27 (· < 128)=iY:=λx M=>(Nf x (A.w x (mem_filter.mp M).1)).1;show(_,_,CS (v _ _ (z _ _ Q)) (ER _),CS E (ER _),DP y,DP y,7,?_);rw[Gc];let t:fJ H G:=λb o e=>v _ _ (z _ _ (X _ _ e));show AV (post f _ (W.same w.N t) (kp.6 (.nx (.same t))) trivial)
theorem t3:IS P w i h g b C bd c T 3 A1 A1:=λf e a s H E d=>by
 show(_,⟨AU (Au (Al (Z 5))) (AB Ad) AL⟩,λp j D f H W kp _ post=>(7,7,AV (post f _ W kp trivial)))
structure Own(p:Rp)(H:Hp)(a:nq):Prop where
 n:Nw p.y a
 u:a≠p.y.u
 o:∀o,p.H4 a=U o->(∀ps,o≠ .c ps)->(∀φ,o≠ .e φ)->False
theorem Own.mk'(W:p.W b C bd T H)(k:Kp p.y p.H4 H)(h:H a=J):Own p H a:=by
 let n:=W.new h;show(n,λz=>?_,λo e d i=>?_)
 ·let(_,j,_):=W.du
  ext
 ·rw[k.of n e d i]at h;cases h
theorem Own.kp{H}{p}{l}{a}{o}(h:Own p l a)(k:Kp p.y p.H4 H):Kp p.y p.H4 (upd H a o):=λb u e q r j t d i=>by
 rw[AE (show b≠a from λz=>by subst z;show h.o u e d i)];show k b u e q r j t d i
abbrev B4:Pr:=λp f H=>∃d g b h,f 9=U (.r d)/\f 10=U (.r g)/\H d=U (.l (h.7 V.r))/\Paired (iB H) h b/\jk H g (At b)/\Nw p.y g/\Nw p.y d/\0<b.9/\b.9<=10/\Ew b
theorem t4(g:Lw P w Q s m b C R bd cR cN X cU cM c S ec T):IS P w Q s m b C bd c T 4 A1 B4:=λf N e ag H E v=>by
 show(_,⟨Bf (gT g.GLi v (gM (Z 1) AF)) (BG Y (AQ (A7 9 iF.nd) (AQ (A7 10 iF.nd) Av)))⟩,λp ab D f H W kp _ post=>?_);let(x,y,J):=W.di;show(7,p.y.d,x,y,6,Y,qc,qc,J,λq r u fs j a M d F i o t I h l z A G B=>(q,7,gB.of F,Y,_,7,_,7,Y,?_));show post (iV (iV f 9 (.r r)) 10 (.r u)) _ (W.g6 ab.N d) (kp.6 (.one d.88 (sU Y))) (r,u,a,fs,Y,Y,t,I,(j,h,l),W.new o,W.new i,z,by lia,G)
structure Ry where
 (u2 o pl:nq) (fP:Aa) (r2:Str)
structure Y5(C:nq)(p:Rp)(q:Ry)(es:List Ent)(f:Nat->Option V)(H:Hp):Prop where
 f10:f 10=U (.r q.u2)
 f11:f 11=U (.r q.o)
 f12:f 12=U (.r q.pl)
 kb:fZ C H q.o q.fP q.r2
 d2:jk H q.u2 q.fP
 nu:Nw p.y q.u2
 do2:Bi q.fP
 l2:0<q.fP.9
 jJ:q.r2∈gZ
 pr:lL p.45 q.fP H q.pl es
 ow:Own p H q.pl
 up:q.u2≠q.pl
theorem Y5.kp(h:Y5 C p q g f H)(W:p.W i C bd T H)(k:Kp p.y H b)(d:f' 10=f 10:=by rfl)(e:f' 11=f 11:=by rfl)(a:f' 12=f 12:=by rfl):Y5 C p q g f' b:=
 (d.6 h.f10,e.6 h.f11,a.6 h.f12,k.60 W h.kb,k.dueL W h.nu h.d2,h.nu,h.do2,h.l2,h.jJ,k.prs W h.ow.n h.pr,(h.ow.n,h.ow.u,h.ow.o),h.up)
theorem Y5.kd(h:Y5 C p q g f H)(d:RpOk b C bd T p)(W:p.W b C bd T H):lN C H p.y.z.k q.o p.45 q.fP p.r q.r2:=(W.B.ka,h.kb,d.dk,h.do2)
abbrev B5(C:nq):Pr:=λp f H=>∃q,Y5 C p q [] f H
theorem t5(b:Lw P ab al mg i g C EC bd cR cN cL cU cM c P0 ec T):IS P ab al mg i g C bd c T 5 B4 (B5 C):=λf Ar F aM H an S=>by
 let(fI,dI,MI,GI,gI,Q):=b.KO.make;show(_,⟨PU (i:=11) (j:=12) Y iF.nd Y Y qc Y Y (gM (KC MI GI (S.63 qc) Y b.KO.83 Q (gX (Z 9)) (Jm (gT b.GRu S (gX (Z 1))) Me)) (BA AG)) qd⟩,λp m D f H W kp n post=>?_);let(pf,o,a,fs,e9,M,hf,hP,s,B,nf,r0,h,q):=n;let(x,y,hd):=W.di;show(_,congrArg im e9,7,.mk p.y.d x y Y hd λr Hb d t=>?_);let N:=Kp.one (y:=p.y) t.88 (sU rfl);let Wb:=W.g6 m.N t;intro k dk w A G;let sN:=DQ (D:=C) w A G;show .mk k dk pf a r Y fH (fs,sN _ _ (N.of nf hf),CD (gF.of sN) (CD (N.tt W) hP)) r0 h q d λR sd KA=>(Y,tH _,λl j=>(_,7,?_));let z:=Ce sN w sd;let X:=Wb.15 m.N z;let u:Kp p.y H R:=N.6 (.nx (.same z));let I:=Own.mk' X (kp.6 u) j;let v:=AD (fJ.r R) j (o:=HO.l []);let E:=(u.dueL W B s).15 v;show post (iV (iV f 11 (.r k)) 12 (.r l)) _ (X.15 m.N v) ((kp.6 u).6 (.nx (.same v))) ((o,k,l,At a,r),M,Y,Y,KA.15 v,E,B,Kx q h,by rwa[CC],d,(([],fH,tO),tH _,nil_sublist _,λaC hq=>by cases hq),(I.n,I.u,I.o),λag=>by let(_,e,_):=u.dueL W B s;rw[show o=l from ag,j]at e;cases e)
theorem Xm{a:List nq}(h:U (HO.l [.t x,.t y])=U (HO.l (a.7 V.r))):False:=by
 cases a<;>cases h
theorem cJ{n:Nat}(h:n<=10):((n:Int)).87<9000:=by
 rw[Int.natAbs_natCast];let z||z:=um n
 ·ext
 ·have:=(vU (n:=n) (k:=40) ()).49 ()
  lia
theorem Y5.more(h:Y5 C p q w f H)(a:H q.pl=U (.l (g.7 V.r)))(G:Paired (jh H) g w)(A:jh H m e)(R:w.9<100)(T:((w++[e]).7 (·.1)).Sublist (Bo p.45))(X:e.2.2.9<=3/\∀y∈e.2.2,y∈q.fP.7 (·.1))(S:P 10=f 10)(v:P 11=f 11)(D:P 12=f 12):
  Y5 C p q (w++[e]) P (upd H q.pl (.l (g.7 V.r++[.r m]))):=by
 let s:∀b o,H b=U o->b≠q.pl->(upd H q.pl (.l (g.7 V.r++[.r m]))) b=U o:=λb o e h=>by rwa[AE h]
 let i:gF H (upd H q.pl (.l (g.7 V.r++[.r m]))):=λb l e=>s b _ e λz=>by rw[z,a]at e;cases e
 let d:∀{b:nq}{o:HO},H b=U o->(∀l,o≠ .l l)->(upd H q.pl (.l (g.7 V.r++[.r m]))) b=U o:=λ{b o}e n=>s b o e λz=>by rw[z,a]at e;cases e;show n _ rfl
 let(B,u,Q,x,I,F,L,M):=h.kb.ex;let(r,N,t):=h.d2;show(S.6 h.f10,v.6 h.f11,D.6 h.f12,⟨(B,u,Q,x,I,d F (λ_ z=>nomatch z),d L (λ_ z=>nomatch z),d M (λ_ z=>nomatch z))⟩,(r,s _ _ N h.up,fQ.gK i t),h.nu,h.do2,h.l2,h.jJ,((g++[m],by rw[fH,zl];rfl,IM (Paired.imp' (λ_ _ q=>q.15 i) G) (A.15 i)),by rw[zE];trivial,T,λz E=>?_),(h.ow.n,h.ow.u,h.ow.o),h.up);let j||j:=mem_append.mp E
 ·show h.pr.nm z j
 ·rw[zz.mp j];show X
abbrev B6(C:nq):Pr:=λp f H=>∃q b,Y5 C p q b f H
theorem t6(f:Lw a9 br g mg bk BC C EC bd cR cN cL cU cM c P0 ec aM):IS a9 br g mg bk BC C bd c aM 6 (B5 C) (B6 C):=λaC Ar bF bR H bB N=>by
 let hu:=BY N;let nd:=iF.nd
 show⟨_,Q8 tK Y ⟨Ay (Am hu (gT f.GT N (gX (Z 3))) AM)⟩ (BG Y (AQ (A7 8 nd) (AQ (A7 13 nd) Av)))
  (Dj ⟨AU (AK GH (gT f.GRo N (gM (Z 1) AF)) AF (AO _))
   (AC (N9 (i:=14) nd rfl qd [ny,pb] [U 1,U 10] qd (_) (by rfl) rfl (Cy rfl f.B.range (gX (gT f.GRo N (gM (Z 1) AF)))) (λ_ _ _ _ _ _=>BP)
    (λ_ _ _ _ _ _=>Ak (AZ g rfl) (Ak (Ao g rfl) (Z 2) (gT f.GRo N (gM (Z 1) (AS (A8 g rfl) rfl f.B.50 tu (gX (Z 2)))))) AF))
   (AB (Ah (Bj (Z 12) (gX (Af (gM (Z 8) (A0 D8 rfl f.B.56 Bs (gX (Z 14)))))))))) AL⟩),λp r bx aC H W kp (q,be) post=>?_⟩
 let(bs,jV,ht1):=W.du;show⟨_,Y,.mk p.y.u bs p.45 Y jV ht1 r.dk.50 r.dk.lt λtb e m ms X s6 f9 he v gc=>?_⟩;let W6:=W.same r.N s6;let k6:Kp p.y H X:=.nx (.same s6);let Y6:Y5 C p q [] aC X:=be.kp W k6
 let md:m≠p.y.d:=λz=>by
  let(_,_,d):=W6.di;rw[←z,v]at d;show Xm d.31
 let mp:m=q.pl->ms=[]:=λz=>by
  let(as,d,S):=Y6.pr.at_;cases S;rw[z,d]at v;cases ms with
  |nil=>rfl
  |cons a bI=>cases v
 show⟨tb,_,Y,sU ⟨_,sS o7,sU f9,Y,(MO _ _ _).31⟩,m,Y,⟨_,fV.of v⟩,Bg (ω:=g) (a:=m) (xs:=ms.7 V.r) (λi ab M=>E₂ λh G=>C₈ (ab=p.st h) (p.W BC C bd aM M) (Kp p.y p.H4 M) (Y5 C p q G h M) ((G.7 (·.1)).Sublist ((Bo p.45).12 i)) (G.9<=i) (∀b o,X b=U o->b≠p.y.d->b≠q.pl->M b=U o) (i=0->M=X))
  ⟨aC,[],rfl,W6,kp.6 k6,Y6,nil_sublist _,zp _,λ_ _ e _ _=>e,λ_=>rfl⟩ (λi ab M R (_,_,_,_,_,_,_,_,T,z0)=>?_) ?_ λab M z5=>by let(h,G,e,W',k',Y',_):=z5;show e ▸ post h M W' k' ⟨q,G,Y'⟩⟩
 ·by_cases z:m=q.pl
  ·rw[mp z]at R;rw[z0 (Nat.le_zero.mp R)];show fV.of v
  ·show fV.of (T _ _ v md z)
 rintro i bn ab s R ⟨h,G,rfl,Q,k7,Y7,sb,el,T,_⟩;let tk:gF X s:=λb xs e=>T b _ e (λz=>by let(_,_,d):=W6.di;rw[z,d]at e;cases e) λz=>by let(_,d,_):=Y6.pr.at_;rw[z,d]at e;cases e
 let(bb,n,rfl,hn,A):=LG (fQ.gK tk gc) R;let a5:(Bo p.45)[i]?=U (Cc (Ae p.45) n):=by unfold Bo;rw[zx,hn];rfl
 let bC:i<10:=by
  let d:=(z8.mp hn).1;let S:=Dv p.45;have:=r.dk.50
  lia
 generalize Cc (Ae p.45) n=x at A a5;show⟨bb,_,Y,gB.of A,Y,_,_,Y,_,_,Y,Y,?_⟩;let(x7,y7,hd7):=Q.di;show⟨_,Y,.mk p.y.d x7 y7 8 Y hd7 qc (_) λrr a1 b1 bN bO=>?_⟩;let P:gC p.y.d s (upd s p.y.d (.l [.t a1,.t b1])):=gC.upd ⟨λ_ _ e _=>e,x7,y7,hd7⟩;generalize upd s p.y.d (.l [.t a1,.t b1])=y at P;let W8:=Q.g6 r.N P;let an:Kp p.y s y:=.one P.88 (sU rfl);let a7:∀b o,X b=U o->b≠p.y.d->b≠q.pl->y b=U o:=λb o e d S=>P.88 _ _ (T b o e d S) d;let az:((Bo p.45).12 (i+1))=(Bo p.45).12 i++[x]:=by rw[zw,a5];rfl
 show⟨_,_,Y,Y,_,Y,BF (λ_=>?_) λ_=>⟨iV (iV h 8 (.s x)) 13 (.t n),G,Y,W8,k7.6 an,Y7.kp Q an,by rw[az];show sb.6 (List.sublist_append_left _ _),by lia,a7,λz=>by cases z⟩⟩;let(x8,y8,hd8):=W8.di;show⟨_,Y,.mk p.y.d x8 y8 3 Y hd8 qc (_) λr1 a2 b2 bK bL=>⟨_,Y,by lia,by lia,?_⟩⟩;let I:gC p.y.d y (upd y p.y.d (.l [.t a2,.t b2])):=gC.upd ⟨λ_ _ e _=>e,x8,y8,hd8⟩;generalize upd y p.y.d (.l [.t a2,.t b2])=D at I;let a6:Kp p.y s D:=an.6 (.one I.88 (sU rfl));let E:=W8.g6 r.N I;let B:=Y7.kp (f':=h) Q a6;let(cs,gk,gj):=B.d2;let fh:cs.9=q.fP.9:=by rw[gj.9];unfold C9;rw[AN]
 let bm:=B.do2.50;let bE:=B.l2;show Ee (lo:=0) (n:=r1.30) (λj ys F=>∃t:ni,C₅ (ys=t.7 V.s) (t.9=j) (j<=2) (∀x∈t,x∈q.fP.7 (·.1)) (gC p.y.d D F)) ⟨[],rfl,rfl,qc,(λx hx=>nomatch hx),λ_ _ e _=>e,E.di⟩ ?_ ?_ ?_
 ·rintro j ys F ⟨t,rfl,e,h3,_⟩;rw[AN]
  lia
 ·rintro j ys F hj ⟨t,rfl,e,h3,ar,u⟩;let(xa,ya,hda):=u.g6;let a0:=u.88 _ _ gk B.nu.1;let lH:U (h 10)=U (U (V.r q.u2)):=congrArg U Y7.f10;show⟨_,(show U (h 10)=_ from lH),_,Y,_,(show U (h 10)=_ from lH),q.u2,_,Y,sU (fV.of a0),.mk p.y.d xa ya _ Y hda (by rw[AN];lia) (by rw[AN,fh];show cJ bm) λr2 a3 b3 mh bM=>?_⟩;let bl:(upd F p.y.d (.l [.t a3,.t b3])) q.u2=U (.l (cs.7 V.r)):=by rw[AE B.nu.1];show a0
  let(bn,hv,lR):=HM (xs:=cs.7 V.r) mh qe;let a8:gC p.y.d D (upd F p.y.d (.l [.t a3,.t b3])):=u.upd;let(b,pr,rfl,_,fm,A):=Cd gj lR;show⟨q.u2,_,r2,_,rfl,rfl,fV.of bl,hv,b,_,0,_,rfl,rfl,gB.of (a8.88 _ _ A λz=>by let(_,_,d):=E.di;rw[z,d]at A;cases A),rfl,t++[pr.1],by simp,by rw[zE,e];rfl,by lia,λbu hy=>?_,a8⟩;let z||z:=mem_append.mp hy
  ·show ar bu z
  ·rw[zz.mp z];show zh.49 ⟨_,zN fm,Y⟩
 ·rintro ys F ⟨t,rfl,e,h3,ar,u⟩ l hl;let Wa:=E.g6 r.N u;let ka:Kp p.y D F:=.one u.88 (sU rfl);let s1:=AD (fJ.r F) hl (o:=HO.l (t.7 V.s));let d:=fH (H:=F) (a:=l) (o:=HO.l (t.7 V.s));generalize upd F l (.l (t.7 V.s))=Hb at s1 d;let(as,hpl,hps):=(B.kp (f':=h) E (ka.6 (.nx (.same s1)))).pr.at_;show⟨_,congrArg U Y7.f12,sU ⟨Y,_,fV.of hpl⟩,_,Y,_,Y,l,_,Y,sU ⟨fV.of d,λw hc=>⟨by change 2<=sizeLine;decide,λea a4=>?_⟩⟩⟩;let s2:=AD (fJ.r Hb) hc (o:=HO.t (t.7 V.s));let S:=fH (H:=Hb) (a:=w) (o:=HO.t (t.7 V.s));generalize upd Hb w (.t (t.7 V.s))=Hc at s2 S a4;let s3:=AD (fJ.r Hc) a4 (o:=HO.t [.s x,.r w]);let aR:=fH (H:=Hc) (a:=ea) (o:=HO.t [.s x,.r w]);let mu:=s3 _ _ S;generalize upd Hc ea (.t [.s x,.r w])=Hd at s3 aR mu;let sd:fJ F Hd:=λb o e=>s3 _ _ (s2 _ _ (s1 _ _ e));let Wd:=Wa.15 r.N sd;let kd:Kp p.y D Hd:=ka.6 (.nx (.same sd));let Yd:=B.kp (f':=h) E kd;let ag:=s3 _ _ (s2 _ _ hpl);let al:as.9=G.9:=hps.9;show⟨q.pl,_,_,Y,Y,ag,AR (by rw[AN];lia),iV (iV (iV h 8 (.s x)) 13 (.t n)) 14 (.r l),G++[(x,w,(t))],Y,Wd.own ag B.ow.n.1 B.ow.n.2.2.1 B.ow.n.2.2.2 B.ow.u,B.ow.kp (k7.6 (a6.6 kd)),Yd.more ag (Paired.imp' (λ_ _ q=>q.15 (gF.of λb o e=>s3 _ _ (s2 _ _ e))) hps) ⟨aR,mu⟩ () ?_ ⟨by change t.9<=3;lia,ar⟩ Y Y Y,?_,by rw[zE];change G.9+1<=_;lia,λb o e n1 n2=>?_,λz=>by cases z⟩
  ·rw[zl];show List.Sublist.trans (List.Sublist.append_right sb [x]) ?_;rw[←az];show take_sublist _ _
  ·rw[zl,az];show List.Sublist.append_right sb [x]
  ·rw[AE n2];show sd _ _ (u.88 _ _ (I.88 _ _ (a7 b o e n1 n2) n1) n1)
structure Y7(BC C EC bd:nq)(T:List (nq×Str×List Pos))(p:Rp)(q:Ry)(es:List Ent)(ed t2 dt:nq)(H0:Hp)(f:Nat->Option V)(H:Hp):Prop where
 W:p.W BC C bd T H0
 k:Kp p.y p.H4 H0
 y:Y5 C p q es f H0
 s:fJ H0 H
 f21:f 21=U (.r ed)
 f15:f 15=U (.r t2)
 f16:f 16=U (.r dt)
 e:iA EC H ed p.y.z.k q.o q.fP es
 t0:H0 t2=J
 d0:H0 dt=J
 n:t2≠dt
abbrev B7(g:List Ent->LK)(b C d bd:nq)(T:List (nq×Str×List Pos)):Pr:=λp f H=>∃q i ed t2 h j,Y7 b C d bd T p q i ed t2 h j f H/\H t2=U (.d (g i))/\H h=U (.d [])/\f 17=U .g
theorem t7(g:Lw P an ar mg v m C s bd cR cN cL cU cM c P0 ec T):IS P an ar mg v m C bd c T 7 (B6 C) (B7 (λ_=>[]) m C s bd T):=λf aC aR aM H az I=>by
 let(fE,dE,R,N,Q):=g.EO.make;let u:=iF.nd;show(_,⟨Bf (hs:=by rfl) (hw:=by rfl) (Af (AA (Fy R N (I.63 qc) Y g.EO.83 Q tO Ai (AA (CK (Z 20) g.BT.cl g.GBk I) (gM (Z 11) (Z 12)))) (AA B8 (gM B8 EV)))) (BG Y (AQ (A7 21 u) (AQ (A7 15 u) (AQ (A7 16 u) (AQ (A7 17 u) Av)))))⟩,λp ab as f H W kp k post=>?_);let(q,G,w):=k;show(7,W.B.no (.mk p.y.z p.45 p.r p.g p.D Y W.B (_,congrArg U w.f11,_,congrArg U w.f12,λx ag S al A=>.mk x ag p.y.z.k q.o q.pl H p.45 q.fP p.r q.r2 G Y Y S al A (w.kd ab W) w.pr λF B X=>(Y,λt2 l j d=>(by change 4<=sizeLine;decide,λM i=>(M,7,gB.of fH,Y,_,7,_,7,_,7,_,7,Y,?_))))));let t:=AD (fJ.r F) l (o:=HO.d []);let y:=fH (H:=F) (a:=t2) (o:=HO.d []);generalize upd F t2 (.d [])=z at t y d i;let s3:=AD (fJ.r z) d (o:=HO.d []);let E:=fH (H:=z) (a:=j) (o:=HO.d []);generalize upd z j (.d [])=D at s3 E i;let r:=AD (fJ.r D) i (o:=HO.t [.r x,.r t2,.r j,.g]);generalize upd D M (.t [.r x,.r t2,.r j,.g])=H4 at r;let h:fJ H H4:=λb o e=>r _ _ (s3 _ _ (t _ _ (B _ _ e)));show post (iV (iV (iV (iV f 21 (.r x)) 15 (.r t2)) 16 (.r j)) 17 .g) _ (W.same ab.N h) (kp.6 (.nx (.same h))) (q,G,x,t2,j,H,(W,kp,w.kp W (.refl _),h,Y,Y,Y,X.15 λb o e=>r _ _ (s3 _ _ (t _ _ e)),none_of B l,none_of B (none_of t d),AH y d),r _ _ (s3 _ _ y),r _ _ E,Y)
theorem Xn(h:x∉ b.7 (·.1)):BS (ja b) (sS x:Key) (V.r q.1)=ja (b++[(x,(q))]):=by
 rw[Dd _ (by rw[D5,Jh h];rfl)];unfold ja;simp
theorem iA.but(ht:H t=U (.d v))(s:∀b o,H b=U o->b≠t->f b=U o)(h:iA g H p k o m tab):iA g f p k o m tab:=by
 let(q,d,r,j,l):=h.ex;let a:∀{b:nq}{o:HO},H b=U o->(∀i,o≠ .d i)->f b=U o:=λ{b o}e n=>s b o e λz=>by grind
 show((q,d,r,a j (λ_ z=>nomatch z),a l (λ_ z=>nomatch z)),h.tn.15 λb u e=>a e λ_ z=>nomatch z)
theorem t8:IS aC a2 m mg aR g C bd c T 8 (B7 (λ_=>[]) g C p bd T) (B7 ja g C p bd T):=λf Ar aM a0 H az hr=>by
 let nd:=iF.nd;show(_,Q8 tK Y ⟨Ay (Z 12)⟩ (BG Y (AQ (A7 8 nd) (AQ (A7 14 nd) Av))) (Dj ⟨Cn (BY hr) (Z 15) (Z 8) (Z 14) Y⟩),λan w ar f H W kp n post=>?_);let(q,G,ed,t2,dt,D,s,v,h2,X):=n;let(as,N,I):=(s.y.kp (f':=f) s.W (.nx (.same s.s))).pr.at_;let ag:q.pl≠t2:=λz=>by rw[z,v]at N;cases N
 let al:=I.9;let el:=s.y.pr.50;let nE:(G.7 (·.1)).26:=(MW w.dk.nd).sublist s.y.pr.sb
 show(_,congrArg U s.y.f12,q.pl,Y,(_,fV.of N),Bg (ω:=m) (a:=q.pl) (xs:=as.7 V.r) (λi M l=>∃d,C₄ (M=an.st d) (d 10=f 10/\d 11=f 11/\d 12=f 12/\d 21=f 21/\d 15=f 15/\d 16=f 16/\d 17=f 17) (∀b o,H b=U o->b≠t2->l b=U o) (l t2=U (.d (ja (G.12 i)))))
  (f,rfl,(rfl,rfl,rfl,rfl,rfl,rfl,rfl),λ_ _ e _=>e,v) (λi M l _ K=>by let(_,_,_,r,_):=K;show fV.of (r _ _ N ag)) ?_ λM l (d,e,(A,t,F,y,j,B,h),r,ht)=>?_)
 ·rintro i a1 M l R ⟨d,rfl,⟨A,t,F,y,j,B,h⟩,r,ht⟩;rw[zx]at R;let(a,ha,rfl):=z6.mp R;let((x,cc,ns),u,hE):=CB I ha;let Q:=hE.15 (H':=l) λb xs e=>r b _ e λz=>by rw[z,v]at e;cases e
  let ku:i<G.9:=(z8.mp u).1
  let hn:x∉ (G.12 i).7 (·.1):=λz=>by
   let E:=nE.sublist ((take_sublist (i+1) G).7 (·.1));rw[zw,u,zl,nodup_append]at E;show E.2.2 _ z _ (zz.49 Y) rfl
  let ab:U (d 15)=U (U (V.r t2)):=congrArg U (j.6 s.f15);show(a,7,gB.of Q.1,Y,_,7,_,7,Y,7,_,ab,7,t2,7,jc.k (k:=sS x) ht (AR (by unfold ja;rw[AN,zr];lia)),iV (iV d 8 (.s x)) 14 (.r cc),Y,(A,t,F,y,j,B,h),λb o e P=>by rw[AE P];show r b o e P,?_);rw[fH,Xn (q:=(cc,(ns))) hn,zw,u];rfl
 ·rw[AN,al,zt]at ht;let S:fJ D l:=λb o e=>r b o (s.s _ _ e) (AH e s.t0);show e ▸ post d l (s.W.15 w.N S) (s.k.6 (.nx (.same S))) (q,G,ed,t2,dt,D,(s.W,s.k,s.y.kp s.W (.refl _) A t F,S,y.6 s.f21,j.6 s.f15,B.6 s.f16,s.e.but v r,s.t0,s.d0,s.n),ht,r _ _ h2 (sX s.n),h.6 X)
theorem cK(d:mQ X st t)(a:iX X b u):iX X (st::b) (Uz t u):=⟨Aw d.h a.h⟩
noncomputable abbrev Rp.lp(p:Rp)(q:Ry)(b:List Ent):Lp:=(b,p.45,q.fP,p.r,q.r2)
def RfQ(H:Hp)(a:nq):Ou->Prop|.kP x=>H a=U (.t [.s nU,.s rg,.s x])|.ki s=>H a=U (.t [.s nU,.s oX,.t (s:Int)])|.val _=>False
theorem RfQ.same(s:gF H H')(h:RfQ H a u):RfQ H' a u:=by
 cases u with
 |kP x=>show s _ _ h
 |ki n=>show s _ _ h
 |val n=>show h
inductive Wg(b:Lp)(g:En)(l:ni)(v:Option V)(H:Hp):Prop
 |no (h:l.76 (b.bd g)=J) (e:v=U .g)
 |is (x) (n c) (a) (h:l.76 (b.bd g)=U x) (d:g x=U (n,(c))) (e:v=U (.r a)) (r:RfQ H a (b.ou n))
theorem Zd{b:Type}{p}{l}{x y:b}(h:l.76 p=U x):(l++[y]).76 p=U x:=by ext
abbrev B9(b C d bd:nq)(T:List (nq×Str×List Pos)):Pr:=λp f H=>∃q g ed t2 i j h,Y7 b C d bd T p q g ed t2 i j f H/\jj h p.g/\uC h=L/\Wg (p.lp q g) p.g h (f 17) H/\(h.76 ((p.lp q g).bd p.g)=J->iC H i ((p.lp q g).f p.g))
theorem t9(l:Lw a5 bl g mg a6 BC az EC bd cR cN cL cU cM c P0 ec aC):IS a5 bl g mg a6 BC az bd c aC 9 (B7 ja BC az EC bd aC) (B9 BC az EC bd aC):=λf Ar bC bE H bn hr=>by
 let hu:=BY hr;let nd:=iF.nd
 show(_,Q8 tK Y ⟨Ay (AS (DF Y) Y l.B.sorted C7 (gX (Z 2)))⟩ (A7 8 nd)
  (Di ⟨A4 18 nd (gT l.GLL hr (AA (Z 21) (AA (Z 15) (AA (Z 3) (gM (Z 10) (Ak (AZ g rfl) (Am hu (Z 2) (Z 8)) AF))))))⟩
  (cK ⟨AU (PW.pt (Cj (Al (BZ g rfl rfl l.B.iP rfl l.B.56 Bs (Z 18))) (Bu (CW (Ju (Z 17))))))
    (AC (A4 19 nd (BW (AK Aq (Ak (AZ g rfl) (Z 18) AF) AM (AO _)) (AW CL (Ak (AZ g rfl) (Z 18) AF) (AW Bh (Ak (AZ g rfl) (Z 18) AF) (CK (Z 11) l.KO.T.cl l.GKn hr))) AF))
    (AB (A4 17 nd (BW (AK Aq (Ak (AZ g rfl) (Z 18) AF) AM (AO _)) (Af (AA AM (gM AM (Z 19)))) (Z 18))))) AL⟩
  (Dj ⟨Cn hu (Z 16) (Z 8) (Af (gM (Z 18) AF)) rfl⟩))),λp ag bm f H W kp (q,C,ed,t2,X,H0,r,h1,h2,a7) post=>?_)
 let(kvs,hk,E'):=ag.tbk kp;let(ms,hm1,hm2):=E'.ks;let ml:=hm2.50;show(7,p.t,kvs,ms,Y,sU hk,hm1,by lia,λal M hl hp so=>?_);let ky:=hm2.perm hp;let nl:=ky.50;let R:=AD (fJ.r H) hl (o:=HO.l (M.7 V.s));let ll:=fH (H:=H) (a:=al) (o:=HO.l (M.7 V.s));generalize upd H al (.l (M.7 V.s))=H1 at R ll;let ld:al≠X:=sX (AH h2 hl);let kf:=R _ _ h2;let a3:fJ H0 H1:=λb o e=>R _ _ (r.s _ _ e);generalize eL:p.lp q C=s
 show(al,Y,(_,fV.of ll),Bg (ω:=g) (a:=al) (xs:=M.7 V.s) (λi ab Q=>∃d,C₅ (ab=p.st d) (d 10=f 10/\d 11=f 11/\d 12=f 12/\d 21=f 21/\d 15=f 15/\d 16=f 16) (∀b o,H1 b=U o->b≠X->Q b=U o) (Wg s p.g (M.12 i) (d 17) Q) (∃kd,C₃ (Q X=U (.d kd)) (kd.9<=i) ((M.12 i).76 (s.bd p.g)=io->i6 Q kd (LV (s.f p.g) (M.12 i)))))
  (f,rfl,(rfl,rfl,rfl,rfl,rfl,rfl),λ_ _ e _=>e,.no rfl a7,[],kf,zp _,λ_=>.nil) (λi ab Q _ z5=>by let(_,_,_,S,_):=z5;show fV.of (S _ _ ll ld)) ?_ λab Q (d,e,(I,A,F,B,G,w),S,wg,kd,aM,_,hE)=>?_)
 ·rintro i v ab H2 hi ⟨d,rfl,⟨I,A,F,B,G,w⟩,S,wg,kd,aM,kl,hE⟩;rw[zx]at hi;let(x,hx,rfl):=z6.mp hi;let bB:i<M.9:=(z8.mp hx).1;let((n,c'),D):∃y,p.g x=U y:=uL.mp ((ky.mem x).mp (zN hx));let(t',hv,ht'):=E'.vl x n c' D;let sH:fJ H0 H2:=λb o e=>S b o (a3 _ _ e) (AH e r.d0);let W2:=r.W.15 ag.N sH
  let bb:H2 p.t=U (.d kvs):=S _ _ (R _ _ hk) λz=>by
   let(k0,hk0,_):=ag.tbk r.k;rw[z,r.d0]at hk0;cases hk0
  let be:=S _ _ (R _ _ ht') λz=>by rw[←z,ht']at h2;cases h2
  let a9:=S _ _ (R _ _ h1) r.n;let ED:=(r.e.15 R).but kf S;let Y2:=r.y.kp (f':=d) r.W (.nx (.same sH)) I A F;let(bs,jV,ft):=W2.du;show(_,congrArg U (B.6 r.f21),_,congrArg U (G.6 r.f15),7,_,congrArg U Y2.f10,7,7,p.t,7,sU (_,sS x,sU bb,Y,hv.31),t',_,0,7,Y,gB.of be,Y,.mk ed p.y.z.k q.o t2 p.y.u q.u2 n p.45 q.fP p.r q.r2 C Y ED (Y2.kd ag W2) a9 (bs,jV,ft) Y2.d2 λv T s3 E=>?_);let bk:∀b o,H1 b=U o->b≠X->T b=U o:=λb o e h=>s3 _ _ (S b o e h);let sb:M.12 (i+1)=M.12 i++[x]:=by rw[zw,hx];rfl
  let bx:s.bd p.g x=(s.ou n).bad:=Lp.bx D;let aR:s.ou n=JW C p.45 q.fP q.r2 n:=by rw[←eL]
  rw[←aR]at E;show(λab Q=>∃d,C₆ (ab=p.st d) (d 10=f 10/\d 11=f 11/\d 12=f 12/\d 21=f 21/\d 15=f 15/\d 16=f 16) (d 8=U (.s x)) (d 18=U v) (fJ T Q) (Wg s p.g (M.12 (i+1)) (d 17) Q),λbr hR=>?_,?_)
  ·have sk:(s.bd p.g x=i7\/∃y,(M.12 i).76 (s.bd p.g)=U y)->Wg s p.g (M.12 (i+1)) (d 17) T:=λh=>by
    rw[sb];cases wg with
    |no P e=>
     let h||(y,h):=h
     ·show .no (by rw[find?_append,P,find?_cons,h];rfl) e
     ·rw[P]at h;cases h
    |is z n c a P D e as=>show .is z n c a (Zd P) D e (as.15 λb xs e=>s3 _ _ e)
   let ar:(∃m:Nat,s.ou n=.val m/\v=.t m)\/∃j,v=.r j/\(s.ou n).bad=iY/\((∃w' u,T j=U (.t [.s nU,.s w',u])/\RfQ T j (s.ou n))\/∃u:Nat,s.ou n=.ki u/\T j=U (.t [.s sE,.t (CG C p.45 q.fP n:Nat)])/\u=CG C p.45 q.fP n-(CG C p.45 q.fP n&&&kn q.fP)):=by
    cases N:s.ou n with
    |val m=>
     rw[N]at E;show sU (m,Y,E)
    |kP y=>
     rw[N]at E;let(j,e,h):=E;show sY (j,e,Y,sU (_,_,h,h))
    |ki u=>
     rw[N]at E;let(j,e,(_,h)||(_,h)):=E
     ·show sY (j,e,Y,sU (_,_,h,h))
     ·show sY (j,e,Y,sY (u,Y,h,V3 (aR ▸ N)))
   let(m,N,rfl)||(j,rfl,hb,ar):=ar
   ·show(7,_,_,_,i7,Y,.b _,Y,7,AV (AV (hR _ _ (iV (iV d 8 (.s x)) 18 (.t m),Y,(I,A,F,B,G,w),Y,Y,fJ.r _,sk (sU (by rw[bx,N];rfl))))))
   ·let(tv,hq):∃tv,T j=U (.t tv):=by
     let(_,_,h,_)||(_,_,h,_):=ar<;>show(_,h)
    show(_,rfl,_,_,_,iY,rfl,.t hq,rfl,_,rfl,Aj ?_);cases hw:wg with
    |is z n2 c2 a P bu e as=>show(_,congrArg U e,_,rfl,AV (hR _ _ (iV (iV d 8 (.s x)) 18 (.r j),rfl,(I,A,F,B,G,w),rfl,rfl,fJ.r _,sk (sY (_,P)))))
    |no P e=>
     let a0:(M.12 (i+1)).76 (s.bd p.g)=U x:=by rw[sb,find?_append,P,find?_cons,bx,hb];rfl
     show(_,congrArg U e,7,Aj ?_);let a2:¬ decide (V.s nU=V.s sE)=iY:=by decide +kernel
     let(w',u,h,rq)||(u,N,h,eu):=ar
     ·show(7,j,_,0,7,Y,gB.of h,Y,Y,7,BF (λz=>absurd z a2) λ_=>(7,j,_,0,7,Y,gB.of h,Y,Y,7,BF (λz=>absurd z a2) λ_=>(7,hR _ _ (iV (iV (iV (iV d 8 (.s x)) 18 (.r j)) 19 (.t 0)) 17 (.r j),Y,(I,A,F,B,G,w),Y,Y,fJ.r _,.is x n c' j a0 D Y rq))))
     ·show(7,j,_,0,7,Y,gB.of h,Y,Y,7,BF (λ_=>?_) λz=>absurd (by rfl) z);show(7,j,_,1,7,Y,gB.of h,Y,7,j,_,1,7,Y,gB.of h,Y,_,congrArg U (A.6 r.y.f11),Rr (Y2.kb.15 s3) λH4 s4=>(_,7,Y,_,7,Y,?_));show(7,j,_,0,7,Y,gB.of (s4 _ _ h),Y,Y,7,BF (λ_=>?_) λz=>absurd (by rfl) z);show(7,by change 3<=sizeLine;decide,λp5 lC=>hR _ _ (iV (iV (iV (iV d 8 (.s x)) 18 (.r j)) 19 (.t ((CG C p.45 q.fP n:Nat)-tD (CG C p.45 q.fP n:Nat) (kn q.fP:Nat)))) 17 (.r p5),Y,(I,A,F,B,G,w),Y,Y,AD s4 lC,.is x n c' p5 a0 D Y ?_));rw[N];change upd H4 p5 _ p5=_;rw[fH,eu,←IP]
  rintro ab H4 ⟨f4,rfl,⟨I,A,F,B,G,w⟩,e8,a8,s4,wg⟩;show(_,congrArg U a8,by change 2<=sizeLine;decide,λt ht=>?_);let s5:=AD s4 ht (o:=HO.t [v,.t 0]);let h5:=fH (H:=H4) (a:=t) (o:=HO.t [v,.t 0]);let a4:=AD (fJ.r H4) ht (o:=HO.t [v,.t 0]);generalize upd H4 t (.t [v,.t 0])=H5 at s5 h5 a4;let a1:=s5 _ _ (s3 _ _ aM);let tk:gF H5 (upd H5 X (.d (BS kd (sS x) (.r t)))):=λb xs e=>by rw[AE (λy=>by rw[y,a1]at e;cases e)];show e
  show(_,congrArg U (w.6 r.f16),_,congrArg U e8,X,7,jc.k (k:=sS x) a1 (AR ()),f4,Y,(I,A,F,B,G,w),λb o e h=>by rw[AE h];show s5 _ _ (bk b o e h),?_,_,fH,tT (B3 _ _ _) (),λhn=>?_)
  ·cases wg with
   |no h e=>show .no h e
   |is x n c a h D e as=>show .is x n c a h D e (as.15 λb xs z=>tk _ _ (a4 _ _ z))
  ·rw[sb]at hn ⊢;rw[find?_append,Option.or_eq_none_iff]at hn;let(hn1,an):=hn;cases N:s.ou n with
   |kP y=>rw[find?_cons,bx,N]at an;cases an
   |ki y=>rw[find?_cons,bx,N]at an;cases an
   |val m=>
    rw[N]at E;subst E;show(((hE hn1).32 λb xs e=>s5 _ _ (s3 _ _ e)).cut (ky.w x (zN hx)) (Lp.fx D N) h5).32 tk
 ·rw[AN,zt]at wg hE;let sH:fJ H0 Q:=λb o e=>S b o (a3 _ _ e) (AH e r.d0);subst eL;show e ▸ post d Q (r.W.15 ag.N sH) (r.k.6 (.nx (.same sH))) (q,C,ed,t2,X,H0,M,(r.W,r.k,r.y.kp r.W (.refl _) I A F,sH,B.6 r.f21,G.6 r.f15,w.6 r.f16,(r.e.15 R).but kf S,r.t0,r.d0,r.n),ky,so,wg,λhn=>(kd,aM,by have:=hE hn;rwa[Lp.cut ky]at this))
theorem Ze(o:Jf m g f 3)(h:∀p b,Nx H b->b p=U (.t [.s nU,.s rg,.s x])->Q (.r p) b):mH H (Gd m g s Q) f x:=λe j v q _ _ _ _ i=>(f,rfl,λt a=>sY (3,j,.s x,o,rfl,by
 let d:j≠t:=λz=>by rw[←z,i]at a;cases a
 unfold del;rw[zg d]
 show i,λp u r l=>h p u (Nx.exc q a r) l))
theorem Dq.t3(l:H a=U (.t [.s nU,.s x,v]))(o:H b=U (.t [.s nU,.s x,v]))(q:CP f H d v)(p:x.27 (· < 128)=L)(t:d.canLay0=L)(r:d.depth<=1)(e:tZ d d=L):Dq f H (.r a) (.r b):=by
 let j:∀{b},H b=U (.t [.s nU,.s x,v])->CP f H (uU [uN nU,uN x,d]) (.r b):=λh=>by
  show(_,7,gB.of h,(_,7,by rw[CP],_,7,by rw[CP],_,7,q,?_));rw[Bv]
 show(_,j l,j o,?_,Ex λy i=>?_)
 ·unfold uF;simp;show(?_,?_)
  ·show NM λy i=>?_;simp at i;let rfl||rfl||rfl:=i
   ·show Ds qb
   ·show Ds p
   omega
  ·simp only[vy,vm]
   lia
 ·simp at i;let rfl||rfl||rfl:=i
  ·rfl
  ·show CJ _
  omega
theorem ig.kt(s:Kt H f)(h:ig m C z due r g D H):ig m C z due r g D f:=by
 let j:∀b i,H b=U (.t i)->f b=U (.t i):=λb i e=>s _ _ e λ_ z=>nomatch z;let((A,o),p,(l,v,F),(G,x,I,t),B):=h;let(d,u,J,y,E,a,b,c):=p.ex;show((A,s _ _ o (λ_ z=>nomatch z)),⟨(d,u,J,y,E,s _ _ a (λ_ z=>nomatch z),s _ _ b (λ_ z=>nomatch z),s _ _ c (λ_ z=>nomatch z))⟩,(l,s _ _ v (λ_ z=>nomatch z),F.keep j),(G,s _ _ x (λ_ z=>nomatch z),Paired.imp' (λ_ _ q=>q.32 j) I,t),B)
inductive Fd(i:FG)(h C:nq)(p:Rp)(q:Ry)(f:Nat->Option V)(H:Hp):Prop
 |bk (g) (dt) (z) (j:f 17=U .g) (m:f 16=U (.r dt)) (l:f 22=U (.r z.b)) (r:iC H dt g) (o:z.k=q.o) (B:ig h C z q.fP q.r2 g [] H) (n:dt≠z.e)
 |rf (a b) (j:f 17=U (.r a)) (l:f 22=U (.r b)) (d:Dq i H (.r b) (.r a))
abbrev B10(d:FG)(b C:nq):Pr:=λp f H=>∃q g,Y5 C p q g f H/\Fd d b C p q f H
theorem t10(b:Lw ab ar m mg an g C s bd cR cN cL cU cM c P0 ec T):IS ab ar m mg an g C bd c T 10 (B9 g C s bd T) (B10 m g C):=λf Ar az aM H E N=>by
 show(_,⟨A4 22 iF.nd (HN (k:=8) b.td (N.63 qc) 0 [nz,q9] [20,21] (λlf c' A' as s' H' E N=>DV (Z 0) b.BT.cl b.GLd N Dh (gX (Z 1))))⟩,λp w D f H W kp K post=>?_);let(q,v,ed,t2,dt,H0,ns,u,ky,so,P,ag):=K;show(W.tabs _ b.hT,λA sa ta=>?_);let(j,I):=b.tdW w W sa ta;let l:Kp p.y H0 A:=(Kp.nx (.same u.s)).6 j.kp;let KD:lN C A p.y.z.k q.o p.45 q.fP p.r q.r2:=(I.B.ka,l.60 u.W u.y.kb,w.dk,u.y.do2);show(7,I.B.no (_,congrArg U u.f21,.mk p.y.z p.g p.D ed q.o (p.lp q v) ns zd I.B (Kp.ed j.kp W u.e) KD ky so (λX z' H1 G he hk Bk=>?_) λx n c Q hg=>?_))
 ·cases P with
  |is x n c a h=>rw[X]at h;cases h
  |no _ o=>
   let R:=((ag X).32 (H':=A) (λal M e=>j _ _ e λ_ z=>nomatch z) λ_ e=>j _ _ e λ_ z=>nomatch z);show post (iV f 22 (.r z'.b)) H1 (I.15 w.N G) ((kp.6 j.kp).6 (.nx (.same G))) (q,v,u.y.kp u.W (l.6 (.nx (.same G))),.bk ((p.lp q v).f p.g) dt z' o u.f16 rfl (R.32 (λal M e=>G _ _ e) λ_ e=>G _ _ e) hk Bk λz=>?_);let(kv,S,_):=R;rw[z,he]at S;cases S
 ·cases P with
  |no h=>rw[Q]at h;cases h
  |is x2 n2 c2 a h F o r=>
   rw[Q]at h;cases h;rw[hg]at F;cases F;let B:∀{t i},Nx A i->Dq m i (.r t) (.r a)->D.nx (p.st (iV f 22 (.r t))) i:=λ{t i}nb dq=>post _ _ (I.nx w.N nb) ((kp.6 j.kp).6 (.nx nb)) (q,v,u.y.kp u.W (l.6 (.nx nb)),.rf a t o rfl dq);let tk:∀{i M},Nx A i->H a=U (.t M)->i a=U (.t M):=λnb e=>nb _ _ (j _ _ e λ_ z=>nomatch z) λ_ _ z=>nomatch z;cases d:(p.lp q v).ou n with
   |val aC=>trivial
   |kP y=>
    rw[d]at r
    let hy:y.27 (· < 128)=iY:=by
     let d:JW v p.45 q.fP q.r2 n=.kP y:=d;unfold JW at d;split at d
     ·cases d;rename_i h;show(V1 w.dk h).2.1
     ·split at d<;>cases d
    show Ze b.EFL λt i nb e=>B nb (.t3 e (tk nb r) (by rw[CP]) qb (by rw[PyData.canLay0];show Ds hy) (by simp[vy]) (CJ _))
   |ki aR=>
    rw[d]at r;show Vn b.EFR λt i nb e=>B nb (.t3 e (tk nb r) (by rw[CP]) qb (by rw[PyData.canLay0]) (by simp[vy]) (IG _))
abbrev B11(C:nq):Pr:=λp f H=>∃q b,Y5 C p q b f H
theorem t11(b:Lw ab as m mg al o C EC bd cR cN cL cU cM c P0 ec ag):IS ab as m mg al o C bd c ag 11 (B10 m o C) (B11 C):=λf Ar F aR H E i=>by
 let(fE,dE,GE,mE,bE):=b.GE.ex
 show(_,⟨AU (CW (Qh (Z 17))) (AB (AU (AK (Gn m Y i.42) (Z 22) (Z 17) (AO _)) (AB Ad) AL))
  (AB (AU (PW.pt (Cw (Au (Al (gT b.GBl i (gM (Z 22) (Z 16))))) (By (AK (Hh GE (i.63 qc) bE mE b.neK b.hm) (CK (Z 22) b.BT.cl b.GBk i) (Z 11) (AO _))))) (AB Ad)
   (AB (AU (AK (Gn m rfl i.42) (HN (k:=8) b.td (i.63 qc) 1 [pP] [22] (λlf c' A' az s' H' E i=>Vk (Z 0) b.BT.cl b.GTk i Dh)) (Af (gM AM AM)) (AO _)) (AB Ad) AL))))⟩,λar s aC f H W kp (q,S,p,fd) post=>?_)
 let(g,dt,z,h,M,d,tb,hk,B,n)||(a,aM,h,d,(t,j,l,e,r)):=fd
 rotate_left
 ·show(_,congrArg U h,7,Aj (_,congrArg U d,_,congrArg U h,t,t,j,l,e,e,7,?_));rw[r];show AV (post f H W kp (q,S,p))
 ·show(_,congrArg U h,7,AV (_,congrArg U d,_,congrArg U M,.mk z q.fP q.r2 g [] dt Y B tb n λH1 w=>(7,AV ?_)));let B1:=B.15 w;let x:kg q.fP:=λa ha=>(p.do2.nm a ha).2.1;let P:=p.kp (f':=f) W (.nx (.same w));let(dk,e1,e2,v):=P.kb.ins;show(_,congrArg U d,B1.no (.mk z q.fP q.r2 g [] Y B1 (_,congrArg U p.f11,z.k,dk,_,q.o,dk,7,Y,hk ▸ v,v,z.k,q.o,q.fP,q.r2,Y,B1.ka,x,sY (q.fP,q.r2,P.kb,x,λH2 R=>(7,7,7,?_)))));rw[zI (rfl,rfl)];let u:=w.6 R;let T:=W.same s.N u;let B2:=B1.15 R;show AV (T.tabs _ b.hT,λQ sa ta=>?_);let(X,Wa):=b.tdW s T sa ta;let A:ig o C z q.fP q.r2 g [] Q:=B2.kt X;let k2:Kp ar.y H Q:=(Kp.nx (.same u)).6 X.kp;show(_,congrArg U d,A.no (.no z q.fP q.r2 g Y A (Wa.uq s.N b.EPN λq1 N nb Wb eb=>(by trivial,λG I=>?_))));let y:=AD (fJ.r N) I (o:=jd pz);let D:=fH (H:=N) (a:=G) (o:=jd pz);generalize upd N G (jd pz)=H5 at y D;let(t,j,l,e,r):Dq m H5 (.r q1) (.r G):=.two (y _ _ eb) D qd;show(t,t,j,l,e,e,7,?_);rw[r];let k5:=(k2.6 (.nx nb)).6 (.nx (.same y));show AV (post f _ (Wb.15 s.N y) (kp.6 k5) (q,S,p.kp W k5))
noncomputable abbrev ma:Aa:=[("ZZ",(1))]
noncomputable def D6(due:Aa):List (Str×Th):=due.7 λp=>(p.1,(Th.num p.2))
theorem PM(a):∀due,At (a++D6 due)=At a++due
 | []=>by unfold D6;simp
 |p::r=>by
  let e:a++D6 (p::r)=(a++[(p.1,(Th.num p.2))])++D6 r:=by unfold D6;rw[map_cons,append_assoc];rfl
  rw[e,PM _ r,EM,append_assoc];rfl
theorem LH(due):At (D6 due)=due:=PM [] due
theorem V5(h:Bi due):Ew (D6 due):=λi r t=>by
 let a:=t;unfold D6 at a;rw[zx]at a;let(p,d,rfl):=z6.mp a;let u:=(z8.mp d).1
 let e:At ((D6 due).12 i)=due.12 i:=by
  unfold D6;rw[←List.map_take];show LH _
 rw[e];let o:=zN d;let v:=h.50;show((by grind,λq j=>h.lt q (List.mem_of_mem_take j),h.nd.sublist ((take_sublist i due).7 (·.1)),λq j=>h.nm q (List.mem_of_mem_take j)),by grind,h.nm p o,λz=>?_,trivial,h.lt p o);let l:=h.nd.sublist ((take_sublist (i+1) due).7 (·.1));rw[zw,d,zl,nodup_append]at l;show l.2.2 _ z _ (zz.49 Y) rfl
theorem PN:∀{bs}{due},fQ H bs (C9 due)->Paired (iB H) bs (D6 due)
 | [],[],_=>tO
 | [],q::r,h=>by cases h
 |b::bs,[],h=>by cases h
 |b::bs,q::r,h=>by
  cases h with
  |cons d a=>show tP (_,d,rfl) (PN a)
theorem X9(h:Bi due)(l:due.9<=9)(wd:∀x∈due.7 (·.1),x∈g8):Bi (due++ma):=by
 show(by simp_all,λp a=>?_,?_,λp a=>?_)
 ·let z||z:=mem_append.mp a
  ·show h.lt p z
  ext
 ·rw[zl,nodup_append];show(h.nd,by simp,λx e y d z=>?_);rw[map_cons,map_nil,zz]at d;rw[d]at z;let i:x="ZZ":=z;show absurd (wd _ (i ▸ e)) (_)
 ·let z||z:=mem_append.mp a
  ·show h.nm p z
  ·rw[zz.mp z];show(by rfl,qb,by trivial)
abbrev B12(C b:nq):Pr:=λp f H=>∃ed d o g,f 23=U (.r ed)/\iA b H ed d o g []/\fZ C H d (p.45++ma) p.r
theorem t12(b:Lw an aC aR mg az g C m bd cR cN cL cU cM c P0 ec as):IS an aC aR mg az g C bd c as 12 (B11 C) (B12 C m):=λf Ar a0 a4 H a1 Q=>by
 let(fE,dE,ME,GE,bE):=b.EO.make;let(fI,dI,MI,GI,gI,U):=b.KO.make;show(_,⟨A4 23 iF.nd (Fy ME GE (Q.63 qc) Y b.EO.83 bE tO Ai (AA (KC MI GI (Q.63 qc) Y b.KO.83 U (gX (AW Ie (Z 3) (BA (gX (Af (gM AM AF)))))) (Jm (Z 4) Me)) (gM (Z 11) (BA AG))))⟩,λp s D f H W kp k post=>?_);let(q,es,B):=k;let(bs,F,i):=W.du;show(7,(_),λd ag=>(sl1,λX r=>?_));let q1:=AD (fJ.r H) ag (o:=HO.t [.s "ZZ",.t 1]);let N:=fH (H:=H) (a:=d) (o:=HO.t [.s "ZZ",.t 1]);generalize upd H d (HO.t [.s "ZZ",.t 1])=w at q1 N r;let q2:=AD (fJ.r w) r (o:=HO.l [.r d]);let g2:=fH (H:=w) (a:=X) (o:=HO.l [.r d]);generalize upd w X (HO.l [.r d])=z at q2 g2;let bl:bs.9=p.due.9:=by rw[i.9];unfold C9;rw[AN]
 let ln:=s.ln;show(p.y.u,X,_,7,Y,q2 _ _ (q1 _ _ F),g2,sZ (AR (by rw[AN];change bs.9+1<=1000;lia)),λy ar=>?_);let q3:=AD (fJ.r z) ar (o:=HO.l (bs.7 V.r++[.r d]));let g3:(upd z y (HO.l (bs.7 V.r++[.r d]))) y=im (.l ((bs++[d]).7 V.r)):=by rw[fH,zl];rfl
 generalize upd z y (HO.l (bs.7 V.r++[.r d]))=E at q3 g3;let s3:fJ H E:=λa2 o e=>q3 _ _ (q2 _ _ (q1 _ _ e))
 let G:fQ E (bs++[d]) (C9 (p.45++ma)):=by
  have:=JN (p:=(V.s "ZZ",(V.t 1))) s3 i (q3 _ _ (q2 _ _ N));unfold C9 at this ⊢;rw[zl];show this
 let M:=X9 s.dk s.ln s.wd;let a3:(D6 (p.45++ma)).9=p.due.9+1:=by unfold D6;rw[AN,zE];rfl
 show(7,?_);intro R dz t A al;let sN:=DQ (D:=C) t A al;show .mk R dz y (D6 (p.45++ma)) p.r Y fH (bs++[d],sN _ _ g3,PN (fQ.same sN G)) () () (V5 M) s.hr λv s4 S=>(Y,?_);rw[LH]at S;let I:fJ H v:=s3.6 (Ce sN t s4);show(_,congrArg im B.f11,tH _,λl hl=>?_);let u:=AD (fJ.r v) hl (o:=HO.l []);let P:=fH (H:=v) (a:=l) (o:=HO.l []);generalize upd v l (.l [])=H5 at u P;let h:=I.6 u;intro x dx hx aM ab;show .mk x dx R q.o l H5 (p.45++ma) q.fP p.r q.r2 [] Y Y hx aM ab (S.15 u,B.kb.15 h,M,B.do2) (([],P,tO),tH _,nil_sublist _,λq hq=>by cases hq) λH6 T ED=>(Y,?_);let j:=h.6 T;show post (iV f 23 (.r x)) H6 (W.same s.N j) (kp.6 (.nx (.same j))) (x,R,q.o,q.fP,Y,ED,S.15 (u.6 T))
theorem t13(b:Lw P w g s q j C m bd cR cN cL cU cM c P0 ec T):IS P w g s q j C bd c T 13 (B12 C m) A1:=λf Ar as az H E h=>by
 show(_,⟨AU (AK (Gn g Y h.42) (HN (k:=8) b.td (h.63 qc) 2 [nz,"_law_strange"] [20,23] (λlf c' A' ar s' H' E h=>DV (Z 0) b.BT.cl b.GLd h Dh (gX (Z 1)))) (Af (gM AM AM)) (AO _)) (AB Ad) AL⟩,λp z al f H W kp n post=>?_);let(ed,ab,o,d,y,N,X):=n;show(W.tabs _ b.hT,λan Q S=>?_);let(F,A):=b.tdW z W Q S;let M:=X9 z.dk z.ln z.wd
 let t:¬ (p.45++ma=p.45/\p.r=p.r):=λaC=>by
  ext
 show(7,A.B.no (_,congrArg U y,.no p.y.z p.45 (p.45++ma) d p.r p.r p.g p.D ed ab o [] Y A.B (Kp.ed F.kp W N) (Kp.kind F.kp W X) (λa x=>(z.dk.nm a x).2.1) (λa x=>(M.nm a x).2.1) t (A.uq z.N b.EPU λq1 B nb R ag=>(by trivial,λr v=>?_))));let i:=AD (fJ.r B) v (o:=jd qu);let D:=fH (H:=B) (a:=r) (o:=jd qu);generalize upd B r (jd qu)=H5 at i D;let(I,l,u,e,G):Dq g H5 (.r q1) (.r r):=.two (i _ _ ag) D qd;show(I,I,l,u,e,e,7,?_);rw[G];show AV (post f _ (R.15 z.N i) (((kp.6 F.kp).6 (.nx nb)).6 (.nx (.same i))) trivial)
theorem t14(g:Lw P w m l j b C o bd y v r z u c q A T):IS P w m l j b C bd c T 14 A1 A1:=λf i a s H E e=>by
 show(_,⟨AU (Au (Al (gT g.GBl e (gM (Z 20) (Z 2))))) (AB Ad) AL⟩,λp B D f H W kp _ post=>(7,7,.mk p.y.z p.45 p.r p.g p.D p.t Y W.B (B.tbk kp) B.te λh d=>(7,AV (post f _ (W.same B.N d) (kp.6 (.nx (.same d))) trivial))))
structure RdI(a l bd:nq)(T:List (nq×Str×List Pos))(as:List nq)(i:Nat)(σ:St)(H:Hp):Prop where
 st:∃f:Nat->Option V,σ=[U (.r a),f 1,f 2,f 3,f 4,f 5,f 6,f 7,f 8,f 9,f 10,f 11,f 12,f 13,f 14,f 15,f 16,f 17,f 18,f 19,f 20,f 21,f 22,f 23]
 hl:H l=U (.l (as.7 V.r))
 hb:Rd H bd (.d Du)
 tb:∀p∈T,gR H p.1 p.2.1 p.2.2
 ds:∀j b,i<=j->as[j]?=U b->∃x y,H b=U (.l [.t x,.t y])
def Rz(b:FG)(T:List (nq×Str×List Pos))(bd:nq):Sp:=λvs H Q _=>E₂ λ(a:nq)(d:List Int)=>C₆ (vs=[.r a]) (fV b H a (d.7 V.t)) (d.9<=63) (∀p∈T,gR H p.1 p.2.1 p.2.2) (Rd H bd (.d Du)) (∀f,Q (.l L) f)
theorem Zf(F:jM m rH rH LR f fd c)(l:Lw P w m q p BC ar EC bd cR cN cL cU cM c P0 ec T):AT P w m q p gG 14 f fd [oy] (Rz m T bd):=by
 show F.ok iF (λvs H Q E h=>?_) (λA an al H vs Q E o h=>?_)
 ·let(a,ns,rfl,_):=h;rfl
 ·have aC:Xl (XLw P w m q p c f A an al H E) BC ar bd T ((Rt (ZR (defBody LR) 0)).drop 1) A1 A1:=(t1 l _ _ _ _ _ _ o).cons ((t2 l _ _ _ _ _ _ o).cons ((t3 _ _ _ _ _ _ o).cons ((t4 l _ _ _ _ _ _ o).cons ((t5 l _ _ _ _ _ _ o).cons ((t6 l _ _ _ _ _ _ o).cons ((t7 l _ _ _ _ _ _ o).cons ((t8 _ _ _ _ _ _ o).cons ((t9 l _ _ _ _ _ _ o).cons ((t10 l _ _ _ _ _ _ o).cons ((t11 l _ _ _ _ _ _ o).cons ((t12 l _ _ _ _ _ _ o).cons ((t13 l _ _ _ _ _ _ o).cons (t14 l _ _ _ _ _ _ o).one))))))))))));let(tt,ht,rt):=aC;let r:=iF.nd
  let az:∃t,iX (XLw P w m q p c f A an al H E) (defBody LR) t/\t {nx:=λ_ v=>Q .g v,rt:=Q} (start Zc vs) H:=by
   show(_,Di (Q8 tK Y ⟨Ay (gT l.GRd o (gM (pv 0) AF))⟩ (A7 1 r)
    (Di ⟨Bf (gT l.GLb o (gM (pv 1) AF)) (BG rfl (AQ (A7 20 r) (AQ (A7 2 r) (AQ (A7 3 r) (AQ (A7 4 r) (AQ (A7 5 r) Av))))))⟩ ht)) (Dj ⟨AJ DI⟩),?_)
   let(a,ns,rfl,hS,h63,O,hB,U):=h;show(7,a,ns,Y,hS,h63,λab as H1 s1 hl a1 a0 h5 aM=>(ab,Y,(_,fV.of hl),Bg (λi u s=>RdI a ab bd T as i u s) ((λ_=>io,Y),hl,fJ.rd s1 hB,λa2 hp=>gR.same s1 (O a2 hp),λj b _ e=>(aM b (zN e)).2) (λi u s _ R=>fV.of R.hl) ?_ (λu s R=>U _)));rintro i a4 u s hi M;rw[zx]at hi;let(d,G,rfl):=z6.mp hi;let(x,y0,hd):=M.ds i d (zp _) G;let(f0,rfl):=M.st;show(7,.mk d x y0 Y hd M.hb M.tb λa3 y N ag g D F t C B hq kL=>(a3,7,gB.of hq,Y,_,7,_,7,_,7,_,7,_,7,Y,?_));let ed:=B.ed;subst ed;show rt (a,t,y,N,ag,g,D,F,C) (B.N,B.W,B.te,B.tb,B.dk,B.dl,B.ln,B.wd,B.hr) _ f0 _ B.W (.refl _) trivial λf' v I k _=>?_
   let kl:=λ{b xs}e X=>by
    let((n1,n2,n3),e3):=kL b xs e X;show k b _ e3 X n1 n2 n3 (λ_ z=>nomatch z) λ_ z=>nomatch z
   show((λj=>((Rp.st (a,t,y,N,ag,g,D,F,C) f')[j]?).44 io,Y),kl M.hl (λz=>a0 (z ▸ zN G)),I.hb,I.tabs,λj b hj S=>?_)
   let aR:b≠y.d:=λz=>by
    subst z;let(hj2,ej):=z8.mp S;let(ku,ei):=z8.mp G;show(vk.mp a1) i j ku hj2 (by assumption) (by rw[ei,ej])
   let(x5,y5,e5):=M.ds j b () S;show(x5,y5,kl e5 aR)
  obtain⟨t,⟨ht⟩,rd⟩:=az;show(t,ht,rd)
end
end Mk
namespace Mk
open PySem L2 MK
theorem PP{b}{j}{f}{kV d r a o}{l}{n}(t:b.5 j=U (sW oB,J,uW #[vw "" f] n,#[])):
  Binds b (W.fnOf nV pF (defArgs BU) (defBody BU) (defScope BU) (sR j) kV d r l a o) [nv,rM] []:=by
 intro s h u q
 let e:h.9=2:=by
  rwa[zj]at q
 rcases h with _|⟨v,_|⟨x,_|_⟩⟩
 ·cases e
 ·cases e
 ·let i:=u _ _ t;intro M A E Q p;unfold bindArgs;simp only
  repeat (first|with_reducible show wpAny_seqItems i rfl ?_| (with_reducible show zo (wpAny_seqItems i rfl ?_))|wp_step)
  show Eq.mp (congrArg (λz=>Q z s) qd) p
 ·cases e
theorem Qf(X:f.In h)(G:h.Ns N b)(e:W.nsIn f N n=U (U v)):b n=U v:=by
 let(o,r,ep,p,j,_,a):=G;unfold W.nsIn at e;split at e
 ·rename_i c d l t sl q;have:=X _ _ q;rw[p]at this;cases this;cases j;split at e
  ·rename_i i;cases e;rw[←a];unfold nsFind findBy;rw[←Array.find?_toList,i];rfl
  ·split at e<;>cases e
 ·cases e
theorem Xo{b}{kV h v e u}{t}:
  Ph b (W.fnOf nV qM (defArgs C2) (defBody C2) (defScope C2) tj kV h v t e u) [nv,qE,pO] [pO] gU3 gV3:=by
 show(λs j i _ a=>?_,λ{vs j y i}r q=>?_)
 ·unfold gU3 at a ⊢;split at a
  ·show .of_eq qd
  ·cases a
 ·cases r with
  |nil=>show tO
  |cons o d=>
   cases d with
   |nil=>show tO
   |cons x d=>
    cases d with
    |cons _ _=>show tO
    |nil=>
     cases q with
     |nil=>show tO
     |cons p l=>
      cases l with
      |nil=>show tP o (tP x (tP p tO))
      |cons _ _=>show tO
theorem Xp(ok:W.nsOkIn b kd=L)(e:W.nsIn b kd oR=U (U v)):
  Binds b (W.fnOf pV pV (defArgs Dm) (defBody Dm) (defScope Dm) tj (sR kd) m p f o g) [pa,oR] [v]:=by
 intro s d i h
 let a:d.9=1:=by
  rw[zE]at h;show Nat.succ.inj h
 rcases d with _|⟨l,_|_⟩
 ·cases a
 ·let G:s.heap.Ns kd (s.heap.nsMap kd):=.of_isNs (W.isNs_of_in i ok);intro M A E Q j;unfold bindArgs;simp only
  repeat (first| (with_reducible show wpAny_nsGet G ?_;rw[Qf i G e])|wp_step)
  show Eq.mp (congrArg (λz=>Q z s) qd) j
 ·cases a
end Mk
namespace Mk
open PySem L2 MK PySem.W
mutual
abbrev fO(x q:Str)(s:Stmt):=fnOf x q (defArgs s) (defBody s) (defScope s)
theorem IT(h:isClsIn b C=L)(a:typeIn b (sR C)=U (sW sx))(e:subIn b (sW T) (sR C)=U O):kitOne b (sW T) (sR C)=U O:=by
 unfold kitOne;rw[zg (_)];unfold kitCls;change(if _ then _ else _)=_;rw[zf (by unfold isClsIn at h;rw[h,a];simp)];show e
theorem R0(h:(clsIn d C).7 (λb=>(b.mro,(b.hasDict)))=U (KL C M,(L)))(n:findIn d (sR C) f=U J)(s:findIn d (sR C) pH=U (U (sV oE))):OQ d C M f:=by
 let(b,e,z):=z6.mp h;show((b,e,congrArg Prod.fst z,congrArg Prod.snd z),n,s)
noncomputable def P₁(P c:nq):Option Value->Bool|some (sR p)=>p==P&& !(c==P)|_=>O
noncomputable def P₂:Value->Bool|vw _ _=>L|_=>O
noncomputable def P₃:Value->Bool|tV _ _=>L|_=>O
noncomputable def P₄:Value->Bool|uO _=>L|_=>O
theorem P₀{p:Prop}(h:O=L):p:=by cases h
theorem Q₁{P c}{o}(h:P₁ P c o=L):o=U (sR P)/\(c==P)=O:=by
 rcases o with _|v
 ·show P₀ h
 cases v<;>first|show P₀ h|(let h:(_&&_)=L:=h;rw[tA,beq_iff_eq]at h;let(k,j):=h;show(by rw[k],by simpa using j))
theorem Q₂{v}(h:P₂ v=L):∃x t,v=vw x t:=by cases v<;>first|show P₀ h|show ⟨_,_,rfl⟩
theorem Q₃{v}(h:P₃ v=L):∃x t,v=tV x t:=by cases v<;>first|show P₀ h|show ⟨_,_,rfl⟩
theorem Q₄{v}(h:P₄ v=L):∃x,v=uO x:=by cases v<;>first|show P₀ h|show ⟨_,rfl⟩
noncomputable def PQ(b:Frag)(c P:nq):Bool:=match b.5 c with
 |some ⟨sW y,_,tN vs,_⟩=>y=="code"&&P₁ P c (vs[11]?:Option Value)&&P₂ (vs.44 18 tj)&&P₃ (vs.44 7 tj)&&P₄ (vs.44 9 tj)&&P₃ (vs.44 10 tj)
 |_=>O
theorem codeHd_of{K:Frag}{h:Heap}{c P:nq}(X:K.In h)(q:PQ K c P=L):CodeHd h c P:=by
 unfold PQ at q;split at q
 ·rename_i y d vs sl ho;simp only[tA,beq_iff_eq]at q;let(((((rfl,h1),h2),h3),h4),h5):=q;let(h11,hn):=Q₁ h1;let(f,tf,h18):=Q₂ h2;let(fl,tg,h7):=Q₃ h3;let(b,h9):=Q₄ h4;let(tx,tt,mv):=Q₃ h5;show(_,vs,f,tf,fl,tg,b,tx,tt,X _ _ ho,Y,Y,h11,?_,h18,h7,h9,mv,λz=>by simp[z]at hn);rw[Array.getD_eq_getD_getElem?,h11];rfl
 ·cases q
theorem fnT{P}{w}{ω:Frag}{mg}{base}{fd}{x}{st}{k}{ps}{sp}{f}(F:gE ω x x st f fd)(ok:AT P w ω mg base gG k f fd ps sp)(m:mg x=some (sR f))(b:Binds ω fd ps []):Fn P w ω mg base x k ps sp:=⟨(f,fd,ok,m,F.kp,b)⟩
theorem mtT{P}{w}{ω}{mg}{base}{fd}{C}{x q}{st}{k}{ps}{sp}{f}(a:findIn ω (sR C) x=some (some (sR f)))(i:isFn ω (sR f)=true)(F:gE ω x q st f fd)(ok:AT P w ω mg base gG k f fd ps sp)(b:Binds ω fd ps []):Mt P w ω mg base C x k ps sp:=⟨(f,fd,ok,(a,i,F.kp),b)⟩
abbrev fB(x q:Str)(st:Stmt)(kV f h:Value)(b:Option nq)(g d:Value)(i:nj):Sem (List (Str×Value)):=bindArgs (fO x q st tj kV f h b g d) (i,[])
theorem bi1(F:gE o x q st f m)(h:∀a b c d e g i,fB x q st a b c d e g [i]=pure [(p1,(i))]):Binds o m [p1] []:=F.binds λ_ _ _ _ _ _ o p=>by rcases o with _|⟨_,_|_⟩<;>first|exact h ..|cases p
theorem bi2(F:gE p x q st f m)(h:∀a b c d e g i j,fB x q st a b c d e g [i,j]=pure [(p1,(i)),(p2,(j))]):Binds p m [p1,p2] []:=F.binds λ_ _ _ _ _ _ o p=>by rcases o with _|⟨_,_|⟨_,_|_⟩⟩<;>first|exact h ..|cases p
theorem bi3(F:gE r x q st f m)(h:∀a b c d e g i j l,fB x q st a b c d e g [i,j,l]=pure [(p1,(i)),(p2,(j)),(p3,(l))]):Binds r m [p1,p2,p3] []:=F.binds λ_ _ _ _ _ _ o p=>by rcases o with _|⟨_,_|⟨_,_|⟨_,_|_⟩⟩⟩<;>first|exact h ..|cases p
theorem bi4(F:gE s x q st f m)(h:∀a b c d e g j l o i,fB x q st a b c d e g [j,l,o,i]=pure [(p1,(j)),(p2,(l)),(p3,(o)),(p4,(i))]):Binds s m [p1,p2,p3,p4] []:=F.binds λ_ _ _ _ _ _ o p=>by rcases o with _|⟨_,_|⟨_,_|⟨_,_|⟨_,_|_⟩⟩⟩⟩<;>first|exact h ..|cases p
theorem bi5(F:gE s x q st f m)(h:∀a b c d e g j o p i l,fB x q st a b c d e g [j,o,p,i,l]=pure [(p1,(j)),(p2,(o)),(p3,(p)),(p4,(i)),(p5,(l))]):Binds s m [p1,p2,p3,p4,p5] []:=F.binds λ_ _ _ _ _ _ o p=>by rcases o with _|⟨_,_|⟨_,_|⟨_,_|⟨_,_|⟨_,_|_⟩⟩⟩⟩⟩<;>first|exact h ..|cases p
def DG(b:Frag)(x:Str)(st:Stmt):Prop:=E₂ λf d=>nsIn b mainGlobals x=U (U (sR f))/\gE b x x st f d
def DM(b:Frag)(C:nq)(x q:Str)(st:Stmt):Prop:=E₂ λf d=>C₄ (findIn b (sR C) x=U (U (sR f))) (isFn b (sR f)=L) (∃o,b.5 f=U o/\o.83=sW qU) (gE b x q st f d)
structure CF(K:Frag)(C:nq):Prop where
 pg:plainGet K C Str.empty=L
 hd:hasDictIn K C=L
 po:plainOver K C=L
 sa:findIn K (sR C) pH=U (U (sV oE))
 mz:makesIn K C=L
 kc:keepIn K (sR C)=L
 qa:findIn K (sR C) qh=U (U (sV nA))
 qm:mroIn K C (sW pA)=U L
 ql:isClsIn K C=L
 qy:typeIn K (sR C)=U (sW sx)
 qs:subIn K (sW oq) (sR C)=U O
 qi:subIn K (sW sv) (sR C)=U O
 qt:subIn K (sW oB) (sR C)=U O
 ne:findIn K (sR C) qI=U (U (sV oO))
structure XF(K:Frag)(ec:Nat->nq)(C:nq)(j:Nat):Prop where
 cx:L2.BL K C=L
 ga:findIn K (sR C) pB=U (U (sV nQ))
 gr:findIn K (sR C) "__getattr__"=U J
 gb:mroIn K C (sW oV)=U L
 kc:(clsIn K C).24=L
 ka:findIn K (sR C) qh=U (U (sV nA))
 km:mroIn K C (sW pA)=U L
 kt:((uP 11).94 λi=>i==j||decide (kitOne K (sR C) (sR (ec i))=U O))=L
 tv:kitOne K (sR C) (sW oo)=U L
 ke:keepIn K (sR C)=L
theorem XF.at(F:XF b f C j)(d:j<11)(e:C=f j)(o:specialIn b (sV nA) qB=U (U (sV oj)))(l:takesIn b (sV nA)=U L):RY b f C j:=by
 show(d,((F.ga,F.gr,F.gb),F.kc,F.ka,o,l,F.km),λi a=>?_,F.tv);let h:=all_eq_true.mp F.kt i (mem_range.49 a);rw[vp]at h;let z||z:=h
 ·rw[eq_of_beq z,e,zI rfl];show IF b _
 ·by_cases q:i=j
  ·rw[q,e,zI rfl];show IF b _
  ·rw[zL q];show zS z
structure XP(K:Frag)(ec:Nat->nq)(cM C f:nq)(j:Nat):Prop where
 F:XF K ec C j
 n:((uP 4).94 λi=>!(FC K C).17 (sR (ec i)))=L
 m:(FC K C).17 (sR cM)=L
 i:findIn K (sR C) nV=U (U (sR f))
theorem XP.pl(F:XP b g p C f j)(d:j<11)(e:C=g j)(o:specialIn b (sV nA) qB=U (U (sV oj)))(l:takesIn b (sV nA)=U L):Fv b g p C j:=by
 let h:∀i,i<4->(FC b C).17 (sR (g i))=O:=λi a=>by
  have:=all_eq_true.mp F.n i (mem_range.49 a);rw[ve]at this;show this
 show(F.F.at d e o l,F.F.cx,h 0 qc,h 1 qc,h 2 qc,h 3 qc,F.m)
structure XL(K:Frag)(ec:Nat->nq)(cM C:nq)(j:Nat)(fld:Str):Prop where
 F:XF K ec C j
 n:((uP j).94 λi=>!(FC K C).17 (sR (ec i)))=L
 m:(FC K C).17 (sR (ec j))=L
 gh:hasDictIn K C=L
 gn:findIn K (sR C) fld=U J
 gs:findIn K (sR C) pH=U (U (sV oE))
 s:(clsIn K C).7 (λb=>(b.mro,(b.hasDict)))=U (KL C cM,(L))
theorem XL.fl(F:XL b f g C j (NS j))(d:j<4)(e:C=f j)(l:specialIn b (sV nA) qB=U (U (sV oj)))(h:takesIn b (sV nA)=U L):Jf b f C j:=by
 show(F.F.at qe e l h,F.F.cx,d,λi a=>?_,F.m,((F.F.ga,F.F.gr,F.F.gb),F.gh,F.gn));have:=all_eq_true.mp F.n i (mem_range.49 a);rw[ve]at this;show this
theorem bi6(F:gE s x q st f m)(h:∀a b c d e g l p r j o i,fB x q st a b c d e g [l,p,r,j,o,i]=pure [(p1,(l)),(p2,(p)),(p3,(r)),(p4,(j)),(p5,(o)),(p6,(i))]):Binds s m [p1,p2,p3,p4,p5,p6] []:=F.binds λ_ _ _ _ _ _ o p=>by rcases o with _|⟨_,_|⟨_,_|⟨_,_|⟨_,_|⟨_,_|⟨_,_|_⟩⟩⟩⟩⟩⟩<;>first|exact h ..|cases p
theorem YA:∀{T:List (nq×Str×List Pos)},(T.7 (·.1)).26->∀p∈T,∀q∈T,q.1=p.1->q=p
 |a::r,h,p,b,q,f,e=>by
  let(j,l):=zi.mp h;let rfl||i:=mem_cons.mp b<;>let rfl||d:=mem_cons.mp f
  ·rfl
  ·show absurd (zh.49 (q,d,e)) j
  ·show absurd (show q.1∈r.7 (·.1)from zh.49 (p,i,e.31)) j
  ·show YA l p i q d e
abbrev NR(b:Frag)(x:Str)(a:nq):=nsIn b mainGlobals x=U (U (sR a))
abbrev NZ(b:Frag)(x:Str):=nsIn b mainGlobals x=U J
abbrev NF(b:Frag)(C:nq)(x:Str):=findIn b (sR C) x=U J
theorem gN{P}{w}{ω}{mg}{base}(d:∀{x}{v},nsIn ω mainGlobals x=some (some v)->mg x=some v){x}{st}{k}{ps}{sp}(h:DG ω x st)(ok:∀{f fd},gE ω x x st f fd->AT P w ω mg base gG k f fd ps sp)(b:∀{f fd},gE ω x x st f fd->Binds ω fd ps []:=by intro _ _ F;first|show bi1 F (by intros;rfl)|show bi2 F (by intros;rfl)):Fn P w ω mg base x k ps sp:=by let(_,_,a,F):=h;show ⟨(_,_,ok F,d a,F.kp,b F)⟩
theorem rN{P}{w}{ω}{mg}{base}(d:∀{x}{v},nsIn ω mainGlobals x=some (some v)->mg x=some v){x}{st}{k}{ps}{sp}(h:DG ω x st)(ok:∀{f fd},gE ω x x st f fd->AT P w ω mg base (iD P w) k f fd ps sp)(b:∀{f fd},gE ω x x st f fd->Binds ω fd ps []:=by intro _ _ F;first|show bi1 F (by intros;rfl)|show bi2 F (by intros;rfl)):m9 P w ω mg base x k ps sp:=by let(_,_,a,F):=h;show ⟨(_,_,ok F,d a,F.kp,b F)⟩
theorem mN{P}{w}{ω}{mg}{base}{C}{x q}{st}{k}{ps}{sp}(h:DM ω C x q st)(ok:∀{f fd},gE ω x q st f fd->AT P w ω mg base gG k f fd ps sp)(b:∀{f fd},gE ω x q st f fd->Binds ω fd ps []:=by intro _ _ F;first|show bi1 F (by intros;rfl)|show bi2 F (by intros;rfl)):Mt P w ω mg base C x k ps sp:=by let(_,_,a,i,_,F):=h;show ⟨(_,_,ok F,(a,i,F.kp),b F)⟩
theorem sN{P}{w}{ω}{mg}{base}{C}{x q}{st}{k}{ps}{sp}(h:DM ω C x q st)(ok:∀{f fd},gE ω x q st f fd->AT P w ω mg base (iD P w) k f fd ps sp)(b:∀{f fd},gE ω x q st f fd->Binds ω fd ps []:=by intro _ _ F;first|show bi1 F (by intros;rfl)|show bi2 F (by intros;rfl)):DS P w ω mg base C x k ps sp:=by let(_,_,a,i,_,F):=h;show ⟨(_,_,ok F,(a,i,F.kp),b F)⟩
theorem g3{P}{w}{ω}{mg}{base}(d:∀{x}{v},nsIn ω mainGlobals x=some (some v)->mg x=some v){x}{st}{k}{ps}{sp}(h:DG ω x st)(ok:∀{f fd},gE ω x x st f fd->AT P w ω mg base gG k f fd ps sp)(b:∀{f fd},gE ω x x st f fd->Binds ω fd ps []:=by intro _ _ F;first|show bi3 F (by intros;rfl)|show bi4 F (by intros;rfl)|show bi5 F (by intros;rfl)):Fn P w ω mg base x k ps sp:=by let(_,_,a,F):=h;show ⟨(_,_,ok F,d a,F.kp,b F)⟩
theorem r3{P:Program}{w:World}{K:Frag}{mg:SV}{base:Heap}(MG:∀{x:Str}{v:Value},nsIn K mainGlobals x=some (some v)->mg x=some v){x:Str}{st:Stmt}{k:Nat}{ps:ni}{sp:Sp}(h:DG K x st)(ok:∀{f fd},gE K x x st f fd->AT P w K mg base (iD P w) k f fd ps sp)(b:∀{f fd},gE K x x st f fd->Binds K fd ps []:=by intro _ _ F;first|show bi3 F (by intros;rfl)|show bi4 F (by intros;rfl)|show bi5 F (by intros;rfl)):m9 P w K mg base x k ps sp:=by let(_,_,a,F):=h;show ⟨(_,_,ok F,MG a,F.kp,b F)⟩
theorem m3{P}{w}{ω}{mg}{base}{C}{x q}{st}{k}{ps}{sp}(h:DM ω C x q st)(ok:∀{f fd},gE ω x q st f fd->AT P w ω mg base gG k f fd ps sp)(b:∀{f fd},gE ω x q st f fd->Binds ω fd ps []:=by intro _ _ F;first|show bi3 F (by intros;rfl)|show bi4 F (by intros;rfl)|show bi5 F (by intros;rfl)):Mt P w ω mg base C x k ps sp:=by let(_,_,a,i,_,F):=h;show ⟨(_,_,ok F,(a,i,F.kp),b F)⟩
theorem s3{P}{w}{ω}{mg}{base}{C}{x q}{st}{k}{ps}{sp}(h:DM ω C x q st)(ok:∀{f fd},gE ω x q st f fd->AT P w ω mg base (iD P w) k f fd ps sp)(b:∀{f fd},gE ω x q st f fd->Binds ω fd ps []:=by intro _ _ F;first|show bi3 F (by intros;rfl)|show bi4 F (by intros;rfl)|show bi5 F (by intros;rfl)):DS P w ω mg base C x k ps sp:=by let(_,_,a,i,_,F):=h;show ⟨(_,_,ok F,(a,i,F.kp),b F)⟩
theorem all_mk{l:OpenLaw}{w:World}{K:Frag}{h:Heap}{mg:SV}{fz C VC DC o EC aR kd dt U c P0 e0 e1 e2 e3 e4 e5 e6 e7 e8 e9 q fin A fla:nq}(X:K.In h)(G:h.Ns mainGlobals mg)(hfa:mg rH=some (sR fz))
  {ocla kVla dcla pmla ctla ocin dcin pmin cdin ctin kVei dcei pmei cdei ctei ocK:Value}{odla anla odin anin odei anei odR odK:Option nq}{slla slin slei slK slR:Array (Option Value)}{tG tM tL tLi tB t1 t2 t3 t4 tE:Tok}{nRR epK nE:Nat}{esK:Array DictEntry}{jn fst k2:nq}{j1 j2 j3 tLB:Tok}{odJ odst anst odK2:Option nq}{nJ epK2:Nat}{slJ slst slK2:Array (Option Value)}{ocst dcst pmst cdst ctst ocK2:Value}{esK2:Array DictEntry}{tLN:Tok}{bd:nq}{fs2 lJ N:nq}{ocs2 kVs2 dcs2 pms2 cts2:Value}{ods2 ans2:Option nq}{sls2:Array (Option Value)}{fs3 lV D:nq}{ocs3 kVs3 dcs3 pms3 cts3:Value}{ods3 ans3:Option nq}{sls3:Array (Option Value)}
  (aC:NR K "Kind" C)
  (aVC:NR K "Value" VC)
  (aDC:NR K "Reading" DC)
  (aBC:NR K "Book" o)
  (aEC:NR K "Edition" EC)
  (aM:NR K "MarkError" U)
  (aX0:NR K "BadRows" e0)
  (aX1:NR K oX e1)
  (aX2:NR K "BadText" e2)
  (aX3:NR K rg e3)
  (aX4:NR K "BadRule" e4)
  (aX5:NR K oP e5)
  (aX6:NR K pG e6)
  (aX7:NR K qu e7)
  (aX8:NR K "BadPairs" e8)
  (aX9:NR K "Never" e9)
  (aX10:NR K pz q)
  (O:NZ K oo)
  (hwh:DG K qD KW)
  (hnm:DG K rD M7)
  (huo:DG K qC KY)
  (hnx:DG K rS Iq)
  (hoo:DG K pS KZ)
  (hno:DG K rm G3)
  (hth:DG K qW Ek)
  (hro:DG K rJ G4)
  (hnb:DG K "numbered" Ir)
  (hfi:DG K rp FW)
  (hmK:DM K C ph "Kind.known" G6)
  (hmN:DM K C nH "Kind.number" FX)
  (hmT:DM K C pO "Kind.rest" Iv)
  (hlc:DG K rV Kk)
  (hld:DG K qO JG)
  (hlr:DG K oN Ht)
  (hls:DG K rA HF)
  (hll:DG K qP C6)
  (hxn:DG K pU F6)
  (hxr:DG K rE NA)
  (hxi:DM K VC nV "Value.__init__" G7)
  (hxN:DM K VC nH "Value.number" El)
  (hlb:DG K qX HG)
  (hlu:DG K qr HH)
  (jX:DG K o9 Fi)
  (gi:DG K qp Ix)
  (hgi:DG K rP HB)
  (hdS:DM K DC "settle" "Reading.settle" Dl)
  (hdP:DM K DC "take_part" "Reading.take_part" C3)
  (hdB:DM K DC "take_between" "Reading.take_between" CM)
  (hdA:DM K DC "take_ahead" "Reading.take_ahead" Cq)
  (hdC:DM K DC "take_close" "Reading.take_close" Cr)
  (hdG:DM K DC "take_sign" "Reading.take_sign" C4)
  (hdN:DM K DC "ends" "Reading.ends" Eo)
  (hgj:DG K "joined" NE)
  (him:DG K "is_mark" M8)
  (hmR:DM K C qE "Kind.rows" Iu)
  (hmM:DM K C o7 "Kind.marks" G5)
  (hmE:DM K C qJ "Kind.__eq__" M9)
  (hxK:DM K VC nG "Value.kind" G8)
  (hlm:DG K rh Kl)
  (hsk:DG K rj Iw)
  (hib:DG K qA Fa)
  (hbN:DM K o oz "Book.names" HE)
  (hbL:DM K o si "Book.__len__" Kh)
  (hbG:DM K o "give" "Book.give" JA)
  (hlg:DG K rl Kn)
  (hlx:DG K qZ HI)
  (hly:DG K qR JH)
  (hmb:DG K r8 Ip)
  (hxM:DM K VC o7 "Value.marks" FY)
  (hxR:DM K VC pO "Value.rest" G9)
  (hek:DM K EC nG "Edition.kind" Es)
  (heo:DM K EC oa "Edition.other" EB)
  (ll:DG K se Km)
  (hl2:DG K "_law_led" NH)
  (hbk:DM K o nG "Book.kind" JE)
  (hgf:DG K rO HA)
  (hgp:DG K "is_part" ND)
  (hge:DG K "part_end" Kc)
  (hgn:DG K rB FZ)
  (hgo:DG K rW Iy)
  (hdI:DM K DC nV "Reading.__init__" Em)
  (hle:DG K pL Hu)
  (hlp:DG K o5 Dy)
  (hlf:DG K qY Fj)
  (hlw:DG K pk Fh)
  (hlo:DG K nY BK)
  (hga:DG K "is_table" Kd)
  (hrk:DG K "reckoned" Iz)
  (hmd:DG K "made" RH)
  (hri:DM K e1 nV "BadRest.__init__" Ej)
  (hlq:DG K pM Hv)
  (hva:DG K qH Fb)
  (hvo:DG K qf Ka)
  (huu:DG K "union" QF)
  (huw:DG K sj Kb)
  (hut:DG K "turned" NB)
  (hbE:DM K o "entry" "Book.entry" HC)
  (hbV:DM K o oS "Book.value" HD)
  (hbC:DM K o "changes" "Book.changes" Ep)
  (hbP:DM K o "put" "Book.put" Ke)
  (hbM:DM K o "mark" "Book.mark" JB)
  (hbU:DM K o "unmark" "Book.unmark" Fc)
  (hbT:DM K o "turn" "Book.turn" JC)
  (hbD:DM K o sy "Book.drop" JD)
  (hbK:DM K o rY "Book.take_back" EA)
  (hbR:DM K o "reckon" "Book.reckon" Fe)
  (hbI:DM K o nV "Book.__init__" I0)
  (hlk:DG K qF Et)
  (hbH:DM K o "having" "Book.having" Ff)
  (hlB:DG K rZ Ko)
  (heE:DG K "is_entry" Ki)
  (heT:DG K "table_of" Kj)
  (heI:DM K EC nV "Edition.__init__" Er)
  (heN:DM K EC "names_for" "Edition.names_for" C5)
  (heL:DM K EC "led" "Edition.led" Fg)
  (hui:DM K e3 nV "Unled.__init__" Gz)
  (hwi:DG K "within" NC)
  (hbo:DG K "book_of" NG)
  (hbZ:DM K o "lead" "Book.lead" JF)
  (ain:findIn K (sR C) nV=some (some (sR fin)))
  (iin:isFn K (sR fin)=true)
  (lin:K.5 fin=some ⟨ocin,odin,.func (fO nV qM C2 tj (sR kd) dcin pmin anin cdin ctin),slin⟩)
  (cin:codeIn K cdin qM=true)
  (jO:keepIn K (sR fin)=true)
  (ala:NR K rH fla)
  (lla:K.5 fla=some ⟨ocla,odla,.func (fO rH rH LR tj kVla dcla pmla anla (sR c) ctla),slla⟩)
  (cla:codeIn K (sR c) rH=true)
  (kla:keepIn K (sR fla)=true)
  (aei:findIn K (sR U) nV=some (some (sR A)))
  (iei:isFn K (sR A)=true)
  (lei:K.5 A=some ⟨(sW qU),odei,.func (fO nV pF BU (sR dt) kVei dcei pmei anei cdei ctei),slei⟩)
  (cei:codeIn K cdei pF=true)
  (kei:keepIn K (sR A)=true)
  (as2:NR K oW fs2)
  (ls2:K.5 fs2=some ⟨ocs2,ods2,.func (fO oW oW Do tj kVs2 dcs2 pms2 ans2 (sR lJ) cts2),sls2⟩)
  (c_s2:codeIn K (sR lJ) oW=true)
  (ks2:keepIn K (sR fs2)=true)
  (as3:NR K oA fs3)
  (ls3:K.5 fs3=some ⟨ocs3,ods3,.func (fO oA oA Be tj kVs3 dcs3 pms3 ans3 (sR lV) cts3),sls3⟩)
  (c_s3:codeIn K (sR lV) oA=true)
  (ks3:keepIn K (sR fs3)=true)
  (pd:([P0,N,D]:List nq).26)
  (kdl:K.5 kd=some ⟨ocK,odK,wh esK epK,slK⟩)
  (kde:(esK.94 λe=>match e.key with|vw _ _=>true|_=>false)=true)
  (kdr:nsIn K kd pO=some (some (vw pZ tB)))
  (dtl:K.5 dt=some ⟨sW oB,none,uW #[vw "" tE] nE,#[]⟩)
  (vG:nsIn K mainGlobals "GREATEST"=some (some (tV 1048575 tG)))
  (vM:nsIn K mainGlobals "MOST_ROWS"=some (some (tV 10 tM)))
  (vL:nsIn K mainGlobals "LONGEST_NAME"=some (some (tV 6 tL)))
  (vLi:nsIn K mainGlobals "LIMIT"=some (some (tV 1099511627776 tLi)))
  (vR:NR K "RULES" aR)
  (qn:specialIn K (sV nA) qB=some (some (sV oj)))
  (qt:takesIn K (sV nA)=some true)
  (Y:CF K C)
  (d:CF K VC)
  (fDC:CF K DC)
  (fBC:CF K o)
  (fEC:CF K EC)
  (Z:NF K C ox)
  (nC_firsts:NF K C pT)
  (nC_rule:NF K C "rule")
  (E:NF K VC oh)
  (nVC_bits:NF K VC o4)
  (nDC_steps:NF K DC pJ)
  (Q:NF K DC qT)
  (y:NF K DC qw)
  (L:NF K o oh)
  (S:NF K o o3)
  (nBC_deeds:NF K o sr)
  (J:NF K EC oh)
  (r:NF K EC px)
  (nEC_table:NF K EC pj)
  (xm:L2.BL K U=true)
  (xc0:L2.BL K e0=true)
  (xc1:L2.BL K e1=true)
  (xc2:L2.BL K e2=true)
  (xc3:L2.BL K e3=true)
  (y5:XP K (λi=>([e0,e1,e2,e3,e4,e5,e6,e7,e8,e9,q]:List nq).44 i 0) U e5 A 5)
  (y6:XP K (λi=>([e0,e1,e2,e3,e4,e5,e6,e7,e8,e9,q]:List nq).44 i 0) U e6 A 6)
  (y7:XP K (λi=>([e0,e1,e2,e3,e4,e5,e6,e7,e8,e9,q]:List nq).44 i 0) U e7 A 7)
  (y10:XP K (λi=>([e0,e1,e2,e3,e4,e5,e6,e7,e8,e9,q]:List nq).44 i 0) U q A 10)
  (y1:XL K (λi=>([e0,e1,e2,e3,e4,e5,e6,e7,e8,e9,q]:List nq).44 i 0) U e1 1 o4)
  (y3:XL K (λi=>([e0,e1,e2,e3,e4,e5,e6,e7,e8,e9,q]:List nq).44 i 0) U e3 3 nC)
  (xmg:specialIn K (sR U) pB=some (some (sV qj)))
  (xmr:readsIn K U (sW sx)=true)
  (xmf:findCls K (sR U) (sW sx) nV=some (.val (sR A)))
  (rL:K.5 aR=some ⟨sW oB,odR,uW #[vw pZ t1,vw sy t2,vw pe t3,vw pN t4] nRR,slR⟩)
  (z_len:NZ K "len")
  (I:NZ K oI)
  (z_max:NZ K su)
  (z_min:NZ K "min")
  (z_range:NZ K qG)
  (z_list:NZ K oq)
  (z_tuple:NZ K oB)
  (z_sorted:NZ K rC)
  (z_sum:NZ K "sum")
  (z_all:NZ K "all")
  (R:NZ K qg)
  (z_int:NZ K sv)
  (z_bool:NZ K "bool")
  (z_str:NZ K "str")
  (p:NZ K oK)
  (vBD:NR K "BINDING" bd)
  (vJN:NR K "JOINING" jn)
  (vLB:nsIn K mainGlobals rR=some (some (tV 1 tLB)))
  (jL:K.5 jn=some ⟨sW oB,odJ,uW #[vw "&" j1,vw "^" j2,vw "|" j3] nJ,slJ⟩)
  (ast:NR K pV fst)
  (lst:K.5 fst=some ⟨ocst,odst,.func (fO pV pV Dm tj (sR k2) dcst pmst anst cdst ctst),slst⟩)
  (cst:codeIn K cdst pV=true)
  (kst:keepIn K (sR fst)=true)
  (k2l:K.5 k2=some ⟨ocK2,odK2,wh esK2 epK2,slK2⟩)
  (k2e:(esK2.94 λe=>match e.key with|vw _ _=>true|_=>false)=true)
  (k2n:nsIn K k2 oR=some (some (uO true)))
  (vLN:nsIn K mainGlobals "LONGEST_BOOK_NAME"=some (some (tV 8 tLN)))
  :∃fd:FuncData,(∀(s:nr)(v:Value),BindsTo s fd ⟨[v],[]⟩ [(oy,(v))])/\∀base:Heap,K.In base->base.Ns mainGlobals mg->(∀t∈([(c,(P0)),(lJ,(N)),(lV,(D))]:List (nq×nq)),CodeHd base t.1 t.2/\base.47 mg t.2)->AT l.77 w K mg base gG 14 fz fd [oy] (Rz K [(P0,q1,(kK)),(N,q2,(kJ)),(D,q3,(kG))] bd):=by
 let a:∀{x:Str}{v:Value},nsIn K mainGlobals x=some (some v)->mg x=some v:=λh=>mg_of X G h;let u:∀{x:Str},nsIn K mainGlobals x=some none->mg x=none:=λh=>mg_none_of X G h;let T:EQ K C:=⟨⟨Y.pg,Y.hd,Y.po,Y.sa⟩,Z,nC_firsts,nC_rule⟩;let VT:IH K VC:=⟨⟨d.pg,d.hd,d.po,d.sa⟩,E,nVC_bits⟩;let DT:LU K DC:=⟨⟨fDC.pg,fDC.hd,fDC.po,fDC.sa⟩,nDC_steps,Q,y⟩;let z:DR K o:=⟨⟨fBC.pg,fBC.hd,fBC.po,fBC.sa⟩,L,S,nBC_deeds⟩;let ET:LF K EC:=⟨⟨fEC.pg,fEC.hd,fEC.po,fEC.sa⟩,J,r,nEC_table⟩;let KI:KIsi K C:=⟨⟨Y.pg,Y.hd,Y.po,Y.sa⟩,Y.qa,qn,qt,Y.qm,IT Y.ql Y.qy Y.qs⟩;let VI:KIsi K VC:=⟨⟨d.pg,d.hd,d.po,d.sa⟩,d.qa,qn,qt,d.qm,IT d.ql d.qy d.qs⟩;let mCg:=a aC;let mVg:=a aVC;let hLi:=a vLi;let vI:=IT d.ql d.qy d.qi;let vT:=IT d.ql d.qy d.qt;let qeC:=Y.ne;let qm:=Y.qm;let B:Bl mg:=⟨u z_len,u I,u z_max,u z_min,u z_range,u z_list,u z_tuple,u z_sorted,u z_sum,u z_all,u R,u z_int,u z_bool,u z_str⟩;let rT:∀H:Hp,gB K H aR (gZ.7 V.s):=λH=>sY ⟨_,_,_,rL,rfl,rfl,sl4,tP ⟨_,rfl⟩ (tP ⟨_,rfl⟩ (tP ⟨_,rfl⟩ (tP ⟨_,rfl⟩ tO)))⟩;let jT:∀H:Hp,gB K H jn [.s "&",.s "^",.s "|"]:=λH=>sY ⟨_,_,_,jL,rfl,rfl,kQ,tP ⟨_,rfl⟩ (tP ⟨_,rfl⟩ (tP ⟨_,rfl⟩ tO))⟩
 let kdo:nsOkIn K kd=true:=by
  unfold nsOkIn;rw[kdl];show kde
 let hG:=a vG;let hM:=a vM;let hL:=a vL;let hR:=a vR;let M:TR mg (λi=>([e0,e1,e2,e3,e4,e5,e6,e7,e8,e9,q]:List nq).44 i 0):=⟨a aX0,a aX1,a aX2,a aX3,a aX4,a aX5,a aX6,a aX7,a aX8,a aX9,a aX10,u O⟩;let EX:VE K mg (λi=>([e0,e1,e2,e3,e4,e5,e6,e7,e8,e9,q]:List nq).44 i 0) U:=⟨a aM,xm,xc0,xc1,xc2,xc3⟩;let EPB5:=y5.pl qc rfl qn qt;let EPN6:=y6.pl qc rfl qn qt;let EPU7:=y7.pl qc rfl qn qt;let EPN10:=y10.pl qc rfl qn qt;let EFR:=XL.fl (j:=1) y1 qc rfl qn qt;let EFL:=XL.fl (j:=3) y3 qc rfl qn qt;let Fin:=fun_mk (st:=C2) lin cin jO;let e:=hfa.92 (a ala);cases e;let Fla:jM K rH rH LR fz (fO rH rH LR tj kVla dcla pmla anla (sR c) ctla) c:=⟨⟨_,_,_,_,_,_,_,_,rfl,lla,cla⟩⟩;let Fei:FunD K nV pF BU A _:=⟨⟨_,_,_,_,_,_,_,_,_,_,rfl,lei,cei⟩⟩;let(fll,dll,all,Fll):=id hll;let(fxi,dxi,axi,ixi,oxi,Fxi):=id hxi;let bxi:=bi3 (p1:=nv) (p2:=nG) (p3:=nH) Fxi λ_ _ _ _ _ _ _ _ _=>rfl;let(fdI,ddI,adI,idI,odI,FdI):=hdI;let bdI:=bi1 (p1:=nv) FdI λ_ _ _ _ _ _ _=>rfl;let(fle,dle,ale,Fle):=hle;let ble:=bi4 (p1:=ny) (p2:=pE) (p3:=qQ) (p4:="_law_deep") Fle λ_ _ _ _ _ _ _ _ _ _=>rfl;let(flp,dlp,alp,Flp):=hlp;let blp:=bi3 (p1:=ny) (p2:=oZ) (p3:="_law_rank") Flp λ_ _ _ _ _ _ _ _ _=>rfl;let(flw,dlw,alw,Flw):=hlw;let blw:=bi1 (p1:=oJ) Flw λ_ _ _ _ _ _ _=>rfl;let(flo,dlo,alo,Flo):=hlo;let blo:=bi1 (p1:=oH) Flo λ_ _ _ _ _ _ _=>rfl;let(fri,dri,ari,iri,ori,Fri):=hri;let bri:=bi2 (p1:=nv) (p2:=o4) Fri λ_ _ _ _ _ _ _ _=>rfl;let(flq,dlq,alq,Flq):=hlq;let blq:=bi4 (p1:=oZ) (p2:=qx) (p3:=rK) (p4:=qz) Flq λ_ _ _ _ _ _ _ _ _ _=>rfl;let(fbI,dbI,abI,ibI,obI,FbI):=hbI;let bbI:=bi2 (p1:=nv) (p2:=nG) FbI λ_ _ _ _ _ _ _ _=>rfl;let(feI,deI,aeI,ieI,oeI,FeI):=heI;let beI:=bi4 (p1:=nv) (p2:=nG) (p3:=oa) (p4:=qS) FeI λ_ _ _ _ _ _ _ _ _ _=>rfl;let(fui,dui,aui,iui,oui,Fui):=hui;let bui:=bi2 (p1:=nv) (p2:=nC) Fui λ_ _ _ _ _ _ _ _=>rfl;show⟨fO rH rH LR tj kVla dcla pmla anla (sR c) ctla,λs v=>.of_eq zd,λbase _ _ hTT=>?_⟩;let Fs2:jM K oW oW Do fs2 (fO oW oW Do tj kVs2 dcs2 pms2 ans2 (sR lJ) cts2) lJ:=⟨⟨_,_,_,_,_,_,_,_,rfl,ls2,c_s2⟩⟩;let Fs3:jM K oA oA Be fs3 (fO oA oA Be tj kVs3 dcs3 pms3 ans3 (sR lV) cts3) lV:=⟨⟨_,_,_,_,_,_,_,_,rfl,ls3,c_s3⟩⟩;let g3:=@g3 l.77 w K mg base a;let r3:=@r3 l.77 w K mg base a;let m3:=@m3 l.77 w K mg base;let s3:=@s3 l.77 w K mg base;let gN:=@gN l.77 w K mg base a;let rN:=@rN l.77 w K mg base a;let mN:=@mN l.77 w K mg base;let sN:=@sN l.77 w K mg base;let FT:=@fnT l.77 w K mg base;let MT:=@mtT l.77 w K mg base;let Gwh:=gN hwh λF=>QL F B;let Gnm:=gN hnm λF=>Sv F B hL;let Guo:=gN huo λF=>QH F;let Gnx:=gN hnx λF=>Oj F B;let Goo:=gN hoo λF=>QK F B;let Gno:=gN hno λF=>NJ F B Goo;let Gth:=gN hth λF=>Ul F B Gnx Gno Guo Gwh;let Gro:=gN hro λF=>Yq F B hG Gnm Gth;let Gnb:=gN hnb λF=>Om F B hM Gro;let Gfi:=gN hfi λF=>S4 F;let GmK:=mN hmK λF=>Us F B T Guo;let GmN:=mN hmN λF=>TH F T Goo;let GmT:=mN hmT λF=>XH F T;let Glc:=gN hlc λF=>XA F B;let Gld:=gN hld λF=>Uv F;let Glr:=gN hlr λF=>XB F Gld;let Gls:=gN hls λF=>S7 F B Glc;let Gll:=gN hll λF=>U4 F B Glr;let Gxn:=gN hxn λF=>NT F hLi Gwh;let Gxr:=gN hxr λF=>TL F T GmK;let Gxi:=m3 hxi λF=>Ox F T VT Gxn Gxr GmT;let m8:=mN hxN λF=>QR F VT;let Glb:=gN hlb λF=>S8 F B;let Glu:=gN hlu λF=>S6 F Glr;let Glt:=gN jX λF=>U8 F B Glb;let Ggl:=gN gi λF=>ZD F B;let Ggi:=gN hgi λF=>aZ F B Ggl;let GdS:=mN hdS λF=>ZH F B DT (a vBD);let GdP:=mN hdP λF=>aJ F DT;let GdB:=mN hdB λF=>aP F DT (a vBD) (a vJN) jT GdS;let GdA:=mN hdA λF=>aQ F DT;let GdC:=mN hdC λF=>aS F B DT (a vLB) GdS;let GdG:=mN hdG λF=>aT F DT GdB GdA GdC;let GdN:=mN hdN λF=>XU F B DT (a vLB) GdS;let Ggj:=g3 hgj λF=>aW F;let Gim:=gN him λF=>Su F;let GmR:=mN hmR λF=>Wy F B T;let GmM:=mN hmM λF=>Ut F B T Gim;let GmE:=mN hmE λF=>Y3 F B T KI mCg GmR;let GxK:=mN hxK λF=>VA F VT;let Glm:=g3 hlm λF=>VM F;let Gsk:=gN hsk λF=>aj F VT GxK GmE qeC qm;let Gib:=gN hib λF=>bD F B (a vLN);let GbN:=mN (sp:=(spNs o C)) hbN λF=>aw F B z;let GbL:=mN (sp:=(spLn o C)) hbL λF=>ax F B z;let GbG:=m3 (sp:=(jI o C VC)) hbG λF=>ay F z VT m8;let Glg:=g3 hlg λF=>ZO F B (u p);let Glx:=gN hlx λF=>ZP F Glr;let Gly:=g3 hly λF=>ZQ F B Glr;let Gmb:=gN hmb λF=>PD F T GmM Guo;let GxM:=mN hxM λF=>Ta F T VT GmM;let GxR:=mN hxR λF=>Vs F VT Gmb;let Gek:=mN hek λF=>Vx F ET;let Geo:=mN heo λF=>Tb F ET;let Gl1:=g3 ll λF=>Xj F Glt;let Gl2:=g3 hl2 λF=>Xk F B ET T Gl1 Glt Glm Geo GmT;let Gbk:=mN (sp:=(spBk o C)) hbk λF=>cH F z;let GW:FnS l.77 w K mg base pk 1 [oJ] (Ey K (λi=>([e0,e1,e2,e3,e4,e5,e6,e7,e8,e9,q]:List nq).44 i 0)):=⟨⟨_,_,XM Flw B M,a alw,Flw.kp,blw⟩⟩;let ME:ZB l.77 w K mg base U:=⟨a aM,xmg,xmr,⟨_,_,xmf,Dt Fei (u O),kei,PP dtl⟩⟩;let EO5:iK l.77 w K mg base oP e5:=⟨a aX5,⟨_,_,⟨y5.F.cx,y5.i,iei,⟨_,lei,rfl⟩,y5.F.ke⟩,Dt Fei (u O),PP dtl⟩⟩;let EO6:iK l.77 w K mg base pG e6:=⟨a aX6,⟨_,_,⟨y6.F.cx,y6.i,iei,⟨_,lei,rfl⟩,y6.F.ke⟩,Dt Fei (u O),PP dtl⟩⟩;let EO7:iK l.77 w K mg base qu e7:=⟨a aX7,⟨_,_,⟨y7.F.cx,y7.i,iei,⟨_,lei,rfl⟩,y7.F.ke⟩,Dt Fei (u O),PP dtl⟩⟩;let EO10:iK l.77 w K mg base pz q:=⟨a aX10,⟨_,_,⟨y10.F.cx,y10.i,iei,⟨_,lei,rfl⟩,y10.F.ke⟩,Dt Fei (u O),PP dtl⟩⟩;let VO:Jd l.77 w K mg base C VC:=⟨VT,mVg,⟨_,_,⟨d.mz,axi,ixi,d.kc⟩,Ox Fxi T VT Gxn Gxr GmT,bxi⟩⟩;let GnG:=gN hxn λF=>RZ F hLi Gwh;let Ggf:=gN hgf λF=>ZC F B GnG;let Ggp:=gN hgp λF=>XR F Gnm Ggf Ggl;let Gge:=g3 hge λF=>XS F B Ggp;let RD:aU l.77 w K mg base DC bd:=⟨DT,a aDC,⟨_,_,⟨fDC.mz,adI,idI,fDC.kc⟩,ZF FdI DT,bdI⟩,GdP,GdG,GdN⟩;let Fst:=fun_mk (st:=Dm) lst cst kst
 let k2o:nsOkIn K k2=true:=by
  unfold nsOkIn;rw[k2l];show k2e
 let SO:ac l.77 w K mg base DC bd:=⟨⟨_,_,aV Fst B RD Gge,a ast,kst,_,Xp k2o k2n,tP rfl tO⟩⟩;let Ggn:=g3 hgn λF=>aX F B T Ggl Gnm GmN;let Ggo:=g3 hgo λF=>aY F T (a vJN) jT GmK Ggj Ggn;let Gle:Fn l.77 w K mg base pL 6 K2 (spTree 3):=⟨⟨_,_,Rk Fle B (a ale) ble Glr 3,a ale,Fle.kp,ble⟩⟩;let Glp:Fn l.77 w K mg base o5 6 QY (spWrt 3):=⟨⟨_,_,Vd Flp B (a alp) blp Glr 3,a alp,Flp.kp,blp⟩⟩;let Glf:=g3 hlf λF=>XY F B Gle Glp;let RO:QT l.77 w K mg base U e1:=⟨a aX1,⟨_,_,⟨xc1,ari,iri,ori,y1.F.ke⟩,Oy Fri ME,bri⟩,R0 y1.s y1.gn y1.gs⟩;let Gmd:=rN hmd λF=>XQ F hLi T VO RO Gwh Gxr GmT;let Gga:=gN hga λF=>ZJ F B (u p) Ggl Gxn;let Grk:=r3 hrk λF=>ad F B EO6 SO Ggi Gga Ggo Gmd;let GrB:=gN hlr λF=>Os F Gld;let Glq:Fn l.77 w K mg base pM 5 K3 (spCome 3):=⟨⟨_,_,Rq Flq (a alq) blq 3,a alq,Flq.kp,blq⟩⟩;let Guu:=gN huu λF=>ak F VO m8 Gsk;let Guw:=gN huw λF=>am F VO m8 Gsk;let Gut:=gN hut λF=>ao F T VO m8 GxK GmK;let Gva:=rN hva λF=>bY F B VI mVg vI RO Gxr;let Gvo:=gN hvo λF=>bA F B T VO Guo GmN;let GbE:=sN (sp:=(spEn o C e5)) hbE λF=>aq F z EO5 Goo;let GbV:=sN hbV λF=>au F z VO GbE;let GbC:=sN hbC λF=>av F z GbE;let GbP:=s3 hbP λF=>bG F z Gib Gvo GbG;let GbM:=s3 hbM λF=>bH F z Guu Gvo GbV GbG;let GbU:=s3 hbU λF=>bJ F z Guw Gvo GbV GbG;let GbT:=sN hbT λF=>bP F z Gut GbV GbG;let Gwi:=gN hwi λF=>b8 F VT m8 Guw;let GbH:=mN hbH λF=>b9 F z Gvo Gwi GbN GbV;let GbD:=sN hbD λF=>bQ F z GbE;let GbK:=sN (sp:=(spTk o C q)) hbK λF=>bV F B z EO10;let GbR:=s3 hbR λF=>bZ F B z Gib Gva Grk GbG;let BO:ZW l.77 w K mg base o C:=⟨z,a aBC,⟨_,_,⟨fBC.mz,abI,ibI,fBC.kc⟩,bc FbI z,bbI⟩⟩;let Glk:=gN hlk λF=>bg F B z VT GbN GbL GbV GbC m8;let TB:TdB l.77 w K mg base (λi=>([e0,e1,e2,e3,e4,e5,e6,e7,e8,e9,q]:List nq).44 i 0) U:=⟨⟨_,_,Flo,a alo,blo⟩,M,EX,GW⟩;let(hC1,hBu1):=hTT _ (zF ..);let(hC2,hBu2):=hTT _ (zO _ (zF ..));let(hC3,hBu3):=hTT _ (zO _ (zO _ (zF ..)));let un:=YA (T:=[(P0,q1,(kK)),(N,q2,(kJ)),(D,q3,(kG))]) pd;let hT1:(P0,q1,(kK))∈([(P0,q1,(kK)),(N,q2,(kJ)),(D,q3,(kG))]:List (nq×Str×List Pos)):=zF ..;let hT2:(N,q2,(kJ))∈([(P0,q1,(kK)),(N,q2,(kJ)),(D,q3,(kG))]:List (nq×Str×List Pos)):=zO _ (zF ..);let hT3:(D,q3,(kG))∈([(P0,q1,(kK)),(N,q2,(kJ)),(D,q3,(kG))]:List (nq×Str×List Pos)):=zO _ (zO _ (zF ..));let bs2:=bi5 (p1:=ny) (p2:=nz) (p3:=pI) (p4:=n8) (p5:=oY) (fun_mk (st:=Do) ls2 c_s2 ks2) λ_ _ _ _ _ _ _ _ _ _ _=>rfl;let bs3:=bi6 (p1:=ny) (p2:=nz) (p3:=pI) (p4:=n8) (p5:=oY) (p6:=og) (fun_mk (st:=Be) ls3 c_s3 ks3) λ_ _ _ _ _ _ _ _ _ _ _ _=>rfl;let Gs3:Fn l.77 w K mg base oA 11 pLr (spLr K o C bd [(P0,q1,(kK)),(N,q2,(kJ)),(D,q3,(kG))]):=⟨⟨_,_,bp Fs3 hC3 hBu3 TB hT3 (un _ hT3) B z EFR EPN6 Glt Glg Glf Glq Glm GbR,a as3,ks3,bs3⟩⟩;let Gs2:Fn l.77 w K mg base oW 12 pLs (spLs K o C bd [(P0,q1,(kK)),(N,q2,(kJ)),(D,q3,(kG))]):=⟨⟨_,_,bo Fs2 hC2 hBu2 TB hT2 (un _ hT2) B (u p) z EPB5 EPN10 Glt Glx GrB Gly Glg GbP GbM GbU GbT GbD GbK Gs3,a as2,ks2,bs2⟩⟩;let KO:QZ l.77 w K mg base C:=⟨T,mCg,⟨_,_,⟨Y.mz,ain,iin,Y.kc⟩,Wx Fin B T hR rT Gnb Gfi Goo,_,Xo⟩⟩;let GlB:=gN hlB λF=>bq F B KO BO Gll Glu GrB Gs2;let UO:X8 l.77 w K mg base U e3:=⟨a aX3,⟨_,_,⟨xc3,aui,iui,oui,y3.F.ke⟩,Qe Fui ME,bui⟩,R0 y3.s y3.gn y3.gs⟩;let GeE:=g3 heE λF=>ZY F B Goo;let GeT:=g3 heT λF=>ZZ F B (u p) T GmM GmR GeE;let EO:cI l.77 w K mg base C EC:=⟨ET,a aEC,⟨_,_,⟨fEC.mz,aeI,ieI,fEC.kc⟩,Vw FeI ET GeT,beI⟩⟩;let GeN:=sN heN λF=>bz F ET VT UO GxM;let GeL:=sN heL λF=>Zb F ET VT qeC qm EO7 GmE GxK m8 GxR GeN Gvo Gmd;let Gbo:=gN hbo λF=>cA F (u p) BO;let GbZ:=sN hbZ λF=>cD F z ET VT qeC qm EO7 GmE m8 Gek Geo GbN GbV Gva GeL Gbo;show Zf Fla ⟨hC1,hBu1,TB,hT1,un,B,z,KO,EO,qeC,qm,EPN10,EPU7,EFL,EFR,GmE,GmK,Gls,GlB,Gly,Gll,Glu,GrB,Glt,Gl2,Glk,GbH,Gbk,GbZ,GbK⟩
theorem walk{l:OpenLaw}{q:Program}{loose:ni}{XP:(Str->Option Value)->Heap->Prop}{YP:World->Heap->Prop}{d:DefRec}{K:Params->Frag}{c P0 lJ Ps2 lV Ps3 bd:nq}{dl:List DcE}{ep:Nat}(hn:l.most=U 63)(hdf:d.params.defaults=[])(hb5:5<=bd)(lG:dl.9<=1000)(mq:(dl.7 (·.1)).26)(he:lU dl=Du)
  (hY:∀(w:World)(h:Heap),YP w h->(K w.62).In h/\(∀t∈([(c,(P0)),(lJ,(Ps2)),(lV,(Ps3))]:List (nq×nq)),h.14 t.2=U (tabObj #[])/\(K w.62).5 t.2=J/\CodeHd h t.1 t.2)/\h.14 bd=U (dcObj w.62 dl ep)/\(K w.62).5 bd=J)
  (F:∀(w:World)(mg:SV)(fa:nq)(h:Heap),(K w.62).In h->h.Ns mainGlobals mg->mg d.name=U (sR fa) ->
   ∃fd:FuncData,(∀(s:nr)(u:Value),BindsTo s fd ([u],[]) [(oy,(u))])/\∀base:Heap,(K w.62).In base->base.Ns mainGlobals mg->(∀t∈([(c,(P0)),(lJ,(Ps2)),(lV,(Ps3))]:List (nq×nq)),CodeHd base t.1 t.2/\base.47 mg t.2)->AT l.77 w (K w.62) mg base gG 14 fa fd [oy] (Rz (K w.62) [(P0,q1,(kK)),(Ps2,q2,(kJ)),(Ps3,q3,(kG))] bd)):
  WalkO q loose XP YP l.row.toRowW d [] (λf vs=>PySem.call f vs):=
 L2.UW (n:=63) (k:=14) (x:=oy) (CX:=λ_=>gG) (sp:=λw=>Rz (K w.62) [(P0,q1,(kK)),(Ps2,q2,(kJ)),(Ps3,q3,(kG))] bd) hn qc hdf (rfl,qc,qc) hb5 lG mq hY F
  (λ_ _ a ns hl hP hB hS=>(a,ns,rfl,hS,hl,λp hp=>by
   simp only[mem_cons,not_mem_nil,or_false]at hp;let rfl||rfl||rfl:=hp
   ·show(#[],hP (c,(P0)) (zF ..),trivial,λ_ _=>sU Y)
   ·show(#[],hP (lJ,(Ps2)) (zO _ (zF ..)),trivial,λ_ _=>sU Y)
   ·show(#[],hP (lV,(Ps3)) (zO _ (zO _ (zF ..))),trivial,λ_ _=>sU Y),he ▸ hB,λ_=>rfl)) λ_ _ _ _ _ z=>z
end
end Mk
end
end
noncomputable section
open PySem PySem.W PySem.Calls PyProof.Rows
noncomputable abbrev Mk.dl:List L2.DcE:=[("(",800,0,801),("|",802,1,803),("^",804,2,805),("&",806,3,807),("~",808,4,809)]
noncomputable abbrev Mk.ep:Nat:=5
theorem Mk.tree (P:Params):absHeap (Mq.T0 P) (nat_lit 11) {}=boot_heap P:=by kernel_rfl
theorem Mk.size (w:World):((boot_heap w.params).isNs mainGlobals,(boot_heap w.params).objs.size,(boot_heap w.params).nsMap mainGlobals "__annotations__")=(true,(nat_lit 11),some (.ref (nat_lit 6))):=by kernel_rfl
theorem Mk.opens (w:World):(fencedOpening treeTable PySem.Challenge.pw_markworks_k72_whole_books_led w (nat_lit 15142)).map (fun s=>(s.heap,s.gens,s.drawn,s.toks))=some (boot_heap w.params,#[],boot_drawn,boot_toks):=boot_open qd qc (fun s=>qd) w
theorem Mk.run_q (w:World) (os:OsState):Mq.RQ w os:=by
 have e:=Mq.sF_eq w
 cases h:w.params.followText "special-get-raises" with
 |true=>rw[h]at e;rw[←e];exact Mq.run_t w os
 |false=>rw[h]at e;rw[←e];exact Mq.run_f w os
theorem Mk.left:LeftO PySem.Challenge.pw_markworks_k72_whole_books_led Mq.qv Mq.loose Mq.Xt (fun s=>Mq.Kas.map s.heap.get?) (fun w=>(Mq.Kf w.params).map fun x=>some x.2) (nat_lit 15142):=by
 refine Hd.left_of (M:=nat_lit 7523) (T0:=Mq.T0) Mk.opens Mk.tree Mk.size qc fun w os=>?_
 have h:=Mk.run_q w os
 unfold Mq.RQ at h
 rw[←Fast.te8257016192812374322,←Fast.te16599536794577742827,←Fast.te14364793385576792824]at h
 exact h
theorem Mk.wsB:PySem.Challenge.rw_markworks_k72_whole_books_led.wellSaid=true:=by
 unfold OpenLaw.wellSaid
 repeat' with_reducible refine look_both ?_ ?_
 exact Mq.wsA
 all_goals kernel_rfl
theorem Mk.in_of {K:Frag}{h:Heap}{a:Addr}{o:Obj} (X:Frag.In ((a,o)::K) h) (e:K.lookup a=none):K.In h/\h.get? a=some o:=⟨fun b o' z=>X b o' (by
  rw[List.lookup_cons]
  cases q:(b== a)with
  |false=>exact z
  |true=>rw[beq_iff_eq.mp q,e]at z;cases z),X _ _ (by rw[List.lookup_cons,beq_self_eq_true])⟩
theorem Mk.kg_in {P:Params}{h:Heap} (X:(Mq.Kf P).In h):(Mq.Kg P).In h/\(∀t∈([(1033,1031),(1016,1012),(1021,1019)]:List (Addr×Addr)),h.get? t.2=some (tabObj #[])/\(Mq.Kg P).lookup t.2=none/\CodeHd h t.1 t.2)/\h.get? 484=some (L2.dcObj P Mk.dl Mk.ep)/\(Mq.Kg P).lookup 484=none:=by
 obtain⟨X,h0⟩:=Mk.in_of X qd
 obtain⟨X,h1⟩:=Mk.in_of X qd
 obtain⟨X,h2⟩:=Mk.in_of X qd
 obtain⟨X,hd⟩:=Mk.in_of X qd
 refine⟨X,fun t ht=>?_,hd,qd⟩
 simp only[List.mem_cons,List.not_mem_nil,or_false]at ht
 rcases ht with rfl|rfl|rfl
 · exact⟨h0,qd,Mk.codeHd_of X qd⟩
 · exact⟨h1,qd,Mk.codeHd_of X qd⟩
 · exact⟨h2,qd,Mk.codeHd_of X qd⟩
def Mk.dL:DefRec:=⟨"law",L2.defArgs (Mk.top (nat_lit 96)),L2.defBody (Mk.top (nat_lit 96)),L2.defScope (Mk.top (nat_lit 96)),match Mk.top (nat_lit 96)with|.FunctionDef _ _ _ _ _ _ _ _ _ p=>p|_=>⟨0,0,0,0⟩⟩
end
open PySem PySem.W PyProof.Rows
set_option maxRecDepth 100000 in
set_option maxHeartbeats 0 in
theorem PySem.Challenge.cw_markworks_k72_whole_books_led_holds : PySem.Challenge.rw_markworks_k72_whole_books_led.Holds := by
 w_on
 refine PySem.W.holds_law Mk.wsB fun said=>?_
 refine PySem.W.holds_open (r:=PySem.Challenge.rw_markworks_k72_whole_books_led.row) (q:=Mq.qv) (loose:=Mq.loose) (Xt:=Mq.Xt) (XP:=XL Mq.qv []) (YP:=InK Mq.Kf) (d:=Mk.dL) (kwd:=[]) Mk.left
  (fun w s e=>InK.of (fun P=>qd) w s e) InK.keeps (fun s e=>xl_of s (Bool.and_eq_true_iff.mp e).1) XL.keeps qd qd qd (fun s e=>recFacts_of (Bool.and_eq_true_iff.mp e).2) (by rfl) (by assumption) qb ⟨rfl,rfl,rfl,rfl,rfl,qb⟩ ?hw ?hc
 case hw=>w_witness2
 have aux:Function.const _ True (PySem.Challenge.rw_markworks_k72_whole_books_led,Mq.Kg):=by k_fill;trivial
 refine Mk.walk (l:=PySem.Challenge.rw_markworks_k72_whole_books_led) (bd:=484) (dl:=Mk.dl) (ep:=Mk.ep) (K:=Mq.Kg) rfl rfl qc qc qb rfl (fun w h Y=>Mk.kg_in Y) ?F
 case F=>
  intro w mg fa h KX G hmg
  apply Mk.all_mk KX G hmg
  all_goals first
   | (show _=_;k_is)
   |kernel_rfl
   | (refine' ⟨_,_,?a1,L2.fun_mk ?b1 ?c1 ?d1⟩;case a1|b1|c1|d1=>k_is)
   | (refine' ⟨_,_,?a1,?i1,⟨_,?o1,?q1⟩,L2.fun_mk ?b1 ?c1 ?d1⟩;(case a1|i1|b1=>k_is);(case o1|q1=>first|rfl|k_is);case c1|d1=>k_is)
   | (constructor<;>k_is;done)
   | (simp;done)
   | (repeat' first|kernel_rfl|constructor)

















