import PyProof.Rows.All
import KE.KDictOf
import KE.KLam
import KE.KEqSeq
import Wide.All
import KE.KRevSl
import KE.KIntText
import KE.KIsAll
import KE.KMinKey
import KE.KItemsList
import KE.KPairComp
import KE.KFromBytes
import KE.KEqDict
import KE.KUnpack
import KE.KxText
import PySem.Challenge.RW_markworks_k73_whole_saved_and_woken
set_option genSizeOf false
set_option Elab.async false
set_option linter.all false
set_option compiler.extract_closed false
set_option maxRecDepth 100000
set_option maxHeartbeats 0
noncomputable section
open PySem
noncomputable def L2.inClass(s:Stmt)(j:Nat):Stmt:=match s with|.ClassDef _ _ _ b _ _ _ _ _ _ _=>b.getD j (.Pass ⟨0,0,0,0⟩)|_=>.Pass ⟨0,0,0,0⟩
noncomputable def L2.defArgs(s:Stmt):Arguments:=match s with|.FunctionDef _ a _ _ _ _ _ _ _ _=>a|_=>{posonlyargs:=[],args:=[],vararg:=none,kwonlyargs:=[],kw_defaults:=[],kwarg:=none,defaults:=[]}
noncomputable def L2.defBody(s:Stmt):List Stmt:=match s with|.FunctionDef _ _ b _ _ _ _ _ _ _=>b|_=>[]
noncomputable def L2.defScope(s:Stmt):Scope:=match s with|.FunctionDef _ _ _ _ _ _ b _ _ _=>b|_=>{kind:=.function,names:=[],isGenerator:=false,isCoroutine:=false}
noncomputable def Mk.top(i:Nat):Stmt:=PySem.Challenge.pw_markworks_k73_whole_saved_and_woken.main.body.getD i (.Pass ⟨0,0,0,0⟩)
namespace Hd
open PySem PySem.W PySem.Calls PyProof.Rows
def runT (tb:String->Option Builtin) (p:Program) (w:World) (n₀:Nat) (ann:Option Value):Nat->SharedT->Thread->Option SharedT
 |0,_,_=>none
 |n+1,s,t=>match through t with
  |true=>some s
  |false=>match stepOk n₀ ann t with
   |false=>none
   |true=>match stepT (denote tb) p w s t with
    |some (s',t')=>runT tb p w n₀ ann n s' t'
    |none=>none
theorem runT_of {tb:String->Option Builtin}{p:Program}{w:World}{n₀:Nat}{ann:Option Value}:∀ {n:Nat}{s s':SharedT}{t:Thread},runT tb p w n₀ ann n s t=some s'->topRun tb p w n₀ ann n s.abs t=some s'.abs
 |0,_,_,_,h=>by cases h
 |n+1,s,s',t,h=>by
  unfold runT at h
  unfold topRun
  cases ht:through t with
  |true=>rw[ht]at h;cases h;rfl
  |false=>
   rw[ht]at h
   cases hk:stepOk n₀ ann t with
   |false=>rw[hk]at h;cases h
   |true=>
    rw[hk]at h
    cases hs:stepT (denote tb) p w s t with
    |none=>rw[hs]at h;cases h
    |some r=>obtain⟨s₂,t₂⟩:=r;rw[hs]at h;rw[stepT_spec hs];exact runT_of h
def looksAt (p q:Program) (loose:List Str) (Xt:Shared->Bool) (as:List Addr) (h₀:Heap) (s:Shared):=
 (staticsOk (importedModules p.main.body) h₀ s.heap&&namesBound p s.heap&&gensDone s&&laidKept h₀ s.heap,openSeen q loose (importedModules p.main.body) Xt true s,as.map s.heap.get?)
theorem left_of {p q:Program}{loose:List Str}{Xt:Shared->Bool}{as:List Addr}{K:Params->Frag}{N M m₀:Nat}{ann:Option Value}{T0:Params->BT}{life:Life}
  (open_:∀w:World,(fencedOpening treeTable p w N).map (fun s=>(s.heap,s.gens,s.drawn,s.toks))=some (boot_heap w.params,#[],boot_drawn,boot_toks))
  (tree:∀P:Params,absHeap (T0 P) m₀ life=boot_heap P)
  (size:∀w:World,((boot_heap w.params).isNs mainGlobals,(boot_heap w.params).objs.size,(boot_heap w.params).nsMap mainGlobals "__annotations__")=(true,m₀,ann))
  (le:Nat.ble M N=true)
  (run:∀(w:World) (os:OsState),(runT treeTable p w m₀ ann M ⟨T0 w.params,m₀,life,#[],boot_drawn,boot_toks,os⟩ (topStub p)).map (fun s=>looksAt p q loose Xt as (boot_heap w.params) s.abs)=some (true,openGood q loose,(K w.params).map fun x=>some x.2)):
  LeftO p q loose Xt (fun s=>as.map s.heap.get?) (fun w=>(K w.params).map fun x=>some x.2) N:=fun w=>by
 obtain⟨⟨h,gs,d,k,os⟩,e,e'⟩:=Option.map_eq_some_iff.mp (open_ w)
 obtain⟨rfl,rfl,rfl,rfl⟩:h=boot_heap w.params/\gs=#[]/\d=boot_drawn/\k=boot_toks:=by simpa using e'
 obtain⟨z1,z2,z3⟩:_/\_/\_:=by simpa only[Prod.mk.injEq]using size w
 obtain⟨sT,r1,r2⟩:=Option.map_eq_some_iff.mp (run w os)
 have r3:=runT_of r1
 have r4:topRun treeTable p w m₀ ann M ⟨boot_heap w.params,#[],boot_drawn,boot_toks,os⟩ (topStub p)=some sT.abs:=by
  rw[←tree w.params]
  exact r3
 have r:=topRun_mono (N-M) _ _ _ _ r4
 rw[show M+(N-M)=N by have:=Nat.le_of_ble_eq_true le;omega]at r
 unfold looksAt at r2
 obtain⟨l1,l2,l3⟩:_/\_/\_:=by simpa only[Prod.mk.injEq]using r2
 have t:topFrom treeTable p w N ⟨boot_heap w.params,#[],boot_drawn,boot_toks,os⟩=some sT.abs:=by
  unfold topFrom
  dsimp only
  rw[z1,z2,z3,r]
  show(match staticsOk (importedModules p.main.body) (boot_heap w.params) sT.abs.heap&&namesBound p sT.abs.heap&&gensDone sT.abs&&laidKept (boot_heap w.params) sT.abs.heap with|true=>_|false=>_)=_
  rw[l1]
 unfold openEnds
 rw[e]
 show(topFrom treeTable p w N _).map _=_
 rw[t]
 exact congrArg some (Prod.ext l2 l3)
end Hd
open PySem PySem.W PySem.Calls PyProof.Rows
abbrev Mq.fS (x q:Str) (s:Stmt) (dV kV doc pm:Value) (an:Option Addr) (cd ct:Value):FuncData:=fnOf x q (L2.defArgs s) (L2.defBody s) (L2.defScope s) dV kV doc pm an cd ct
noncomputable abbrev Mq.cO (x:Str) (a:Nat) (q:Str) (b c:Nat) (d e f g h:Int) (i j l m n:Nat) (o p:Int) (r:Nat):Obj:=⟨.type "code",none,.fields #[.str x a,.str q b,.str "/claim/cut.py" c,.int d 0,.int e 0,.int f 0,.int g 0,.int h 0,.ref i,.bool true,.int 181 0,.ref j,.none,.ref l,.ref m,.ref n,.int o 0,.int p 0,.str "/claim/cut.py" r],#[]⟩
abbrev Mq.f8 (P:PySem.Params) (x:Str) (t:Nat) (v:Value):DictEntry:=⟨PyData.keyHash P x,.str x t,v⟩
abbrev Mq.fN (x q:Str) (s:Stmt) (m:Str) (t c:Nat):Obj:=⟨.type "function",none,.func (Mq.fS x q s .none .none .none (.str m t) none (.ref c) .none),#[]⟩
noncomputable abbrev Mq.eC (x:Str) (a b c d e f:Nat):Obj:=⟨.type "type",none,.cls ⟨x,[.ref a],[.ref b,.ref a,.type "ValueError",.type "Exception",.type "BaseException",.type "object"],c,x,true,[],[],false,none,false⟩,#[some (.ref d),none,some (.str x e),some (.str x f),some (.builtin "ValueError.__new__"),some (.bool true)]⟩
noncomputable abbrev Mq.cP (a:Nat) (x q:Str) (t:Nat) (l n:Int) (u:Nat):Obj:=Mq.cO x t q (t+1) (t+2) l n 0 0 3 (a-5) (a-4) (a-3) (a-2) (a-1) u l (u+1)
noncomputable abbrev Mq.ic (i j:Nat):=L2.inClass (Mk.top i) j
abbrev Mq.fM0 (x q:Str) (s:Stmt):=Mq.fN x q s "markworks.errors" 194
abbrev Mq.fM1 (x q:Str) (s:Stmt):=Mq.fN x q s "markworks.kinds" 435
abbrev Mq.fM2 (x q:Str) (s:Stmt):=Mq.fN x q s "markworks.values" 644
abbrev Mq.fM3 (x q:Str) (s:Stmt):=Mq.fN x q s "markworks.grammar" 786
abbrev Mq.fM4 (x q:Str) (s:Stmt):=Mq.fN x q s "markworks.formulas" 973
abbrev Mq.fM5 (x q:Str) (s:Stmt):=Mq.fN x q s "markworks.books" 987
abbrev Mq.fM6 (x q:Str) (s:Stmt):=Mq.fN x q s "markworks.saving" 1188
abbrev Mq.fM7 (x q:Str) (s:Stmt):=Mq.fN x q s "law_markworks_k73_whole_saved_and_woken" 1210
noncomputable abbrev Mq.cQ (a:Nat) (x q:Str) (t:Nat) (l n:Int) (u:Nat):Obj:=⟨.type "code",none,.fields #[.str x t,.str q (t+1),.str "/claim/cut.py" (t+2),.int l 0,.int n 0,.int 0 0,.int 0 0,.int 3 0,.ref (a-3),.bool true,.int 181 0,.ref (a-2),.none,.none,.none,.ref (a-1),.int u 0,.int l 0,.str "/claim/cut.py" (u+1)],#[]⟩
noncomputable abbrev Mq.dR (P:PySem.Params) (x:Str) (t r:Nat):DictEntry:=Mq.f8 P x t (.ref r)
noncomputable abbrev Mq.dN (P:PySem.Params) (x:Str) (t:Nat):DictEntry:=Mq.f8 P x t .none
noncomputable abbrev Mq.oC (x:Str) (a t u:Nat):Obj:=⟨.type "type",none,.cls ⟨x,[.type "object"],[.ref a,.type "object"],a-1,x,true,[],[],false,none,false⟩,#[none,none,some (.str x t),some (.str x u),some (.builtin "object.__new__"),some (.bool true)]⟩
noncomputable abbrev Mq.dP (a:Nat) (x:Str):=Mq.cP a x x
noncomputable abbrev Mq.dQ (a:Nat) (x:Str):=Mq.cQ a x x
abbrev Mq.gM1 (x:Str):=Mq.fM1 x x
abbrev Mq.gM2 (x:Str):=Mq.fM2 x x
abbrev Mq.gM3 (x:Str):=Mq.fM3 x x
abbrev Mq.gM4 (x:Str):=Mq.fM4 x x
abbrev Mq.gM5 (x:Str):=Mq.fM5 x x
abbrev Mq.gM6 (x:Str):=Mq.fM6 x x
abbrev Mq.gM7 (x:Str):=Mq.fM7 x x
noncomputable def Mq.Kg (P:PySem.Params):PySem.W.Frag:=
 (nat_lit 2,⟨.none,none,(.dict #[] 0),#[]⟩)::(nat_lit 3,⟨.type "dict",none,(.dict #[Mq.f8 P "__name__" 165 (.str "law_markworks_k73_whole_saved_and_woken" 1210),Mq.dN P "__doc__" 166,Mq.dN P "__package__" 167,Mq.f8 P "__loader__" 168 (.builtin "__main__.__loader__#opaque"),Mq.dN P "__spec__" 169,Mq.dR P "__annotations__" 170 6,Mq.dR P "__builtins__" 171 4,Mq.f8 P "__file__" 173 (.str "/claim/cut.py" 172),Mq.dN P "__cached__" 174,Mq.dR P "_wall" 193 21,Mq.dR P "MarkError" 222 39,Mq.dR P "BadRows" 247 59,Mq.dR P "BadRule" 263 71,Mq.dR P "BadName" 279 83,Mq.dR P "BadNumber" 295 95,Mq.dR P "BadRest" 320 114,Mq.dR P "Unlike" 336 126,Mq.dR P "BadText" 361 145,Mq.dR P "BadPairs" 377 157,Mq.dR P "Never" 393 169,Mq.dR P "Unled" 418 188,Mq.dR P "Nothing" 434 200,Mq.f8 P "GREATEST" 442 (.int 1048575 441),Mq.f8 P "MOST_ROWS" 444 (.int 10 443),Mq.f8 P "LONGEST_NAME" 446 (.int 6 445),Mq.dR P "RULES" 451 203,Mq.dR P "is_whole" 458 210,Mq.dR P "is_name" 464 215,Mq.dR P "is_mark" 471 222,Mq.dR P "union_of" 480 229,Mq.dR P "is_one_of" 488 236,Mq.dR P "mark_bits" 494 241,Mq.dR P "next_mark" 501 248,Mq.dR P "is_names_of" 507 253,Mq.dR P "thing_number" 513 258,Mq.dR P "row_number" 524 265,Mq.dR P "numbered" 535 272,Mq.dR P "first_names" 545 279,Mq.dR P "Kind" 643 356,Mq.f8 P "LIMIT" 649 (.int 1099511627776 648),Mq.dR P "is_number" 656 367,Mq.dR P "rest_of" 664 374,Mq.dR P "Value" 738 431,Mq.dR P "made" 748 442,Mq.dR P "value_of" 754 447,Mq.dR P "same_kind" 762 454,Mq.dR P "union" 770 461,Mq.dR P "without" 778 468,Mq.dR P "turned" 785 475,Mq.dR P "JOINING" 791 476,Mq.dR P "BINDING" 807 477,Mq.f8 P "LEAST_BINDING" 809 (.int 1 808),Mq.dR P "is_letter" 816 484,Mq.dR P "is_figures" 822 489,Mq.dR P "is_part" 830 496,Mq.dR P "part_end" 840 503,Mq.dR P "Reading" 924 569,Mq.dR P "steps_of" 936 581,Mq.dR P "letters_in" 942 586,Mq.dR P "joined" 951 593,Mq.dR P "part_number" 960 600,Mq.dR P "number_of" 972 607,Mq.dR P "is_table" 980 612,Mq.dR P "reckoned" 986 617,Mq.f8 P "LONGEST_BOOK_NAME" 990 (.int 8 989),Mq.dR P "is_book_name" 996 622,Mq.dR P "value_alone" 1004 629,Mq.dR P "book_of" 1013 636,Mq.dR P "Book" 1187 770,Mq.f8 P "END" 1191 (.str "." 1190),Mq.dR P "saved" 1197 779,Mq.dR P "parts_of" 1203 784,Mq.dR P "woken" 1209 789,Mq.dR P "_law_cell" 1219 796,Mq.dR P "_law_drawn" 1228 803,Mq.dR P "_law_roll" 1237 810,Mq.dR P "_law_rounds" 1243 815,Mq.dR P "_law_word" 1249 820,Mq.dR P "_law_told" 1257 827,Mq.dR P "_law_bits_of" 1263 832,Mq.dR P "_law_rule_of" 1270 839,Mq.dR P "_law_lines" 1276 844,Mq.dR P "_law_table_of" 1282 849,Mq.dR P "_law_made" 1293 856,Mq.dR P "_law_tree" 1305 863,Mq.dR P "_law_written" 1317 870,Mq.dR P "_law_come" 1329 877,Mq.dR P "_law_formula" 1340 884,Mq.dR P "_law_names" 1354 891,Mq.dR P "_law_book_like" 1363 898,Mq.dR P "_law_give" 1374 905,Mq.dR P "_law_word_of" 1381 912,Mq.dR P "_law_step" 1402 919,Mq.dR P "_law_reckoning" 1408 924,Mq.dR P "_law_book" 1425 931,Mq.dR P "law" 1444 938] 96),#[]⟩)::(nat_lit 29,⟨.type "tuple",none,(.seq #[(.str "" 208)] 0),#[]⟩)::(nat_lit 35,Mq.cP 35 "__init__" "MarkError.__init__" 209 7 2 214)::(nat_lit 36,⟨.type "function",none,(.func (Mq.fS "__init__" "MarkError.__init__" (L2.inClass (Mk.top 2) 0) (.ref 29) .none .none (.str "markworks.errors" 194) none (.ref 35) .none)),#[]⟩)::(nat_lit 38,⟨.type "dict",none,(.dict #[Mq.f8 P "__module__" 203 (.str "markworks.errors" 194),Mq.f8 P "__firstlineno__" 207 (.int 5 206),Mq.dR P "__init__" 216 36,Mq.dR P "__static_attributes__" 217 37,Mq.dR P "__weakref__" 219 40,Mq.dN P "__doc__" 220] 3),#[]⟩)::(nat_lit 39,⟨.type "type",none,(.cls ⟨"MarkError",[(.type "ValueError")],[(.ref 39),(.type "ValueError"),(.type "Exception"),(.type "BaseException"),(.type "object")],38,"MarkError",true,[],[(.ref 59),(.ref 71),(.ref 83),(.ref 95),(.ref 114),(.ref 126),(.ref 145),(.ref 157),(.ref 169),(.ref 188),(.ref 200)],false,none,false⟩),#[(some (.ref 22)),none,(some (.str "MarkError" 196)),(some (.str "MarkError" 204)),(some (.builtin "ValueError.__new__")),(some (.bool true))]⟩)::(nat_lit 59,Mq.eC "BadRows" 39 59 58 43 223 231)::(nat_lit 71,Mq.eC "BadRule" 39 71 70 62 248 256)::(nat_lit 82,⟨.type "dict",none,(.dict #[Mq.f8 P "__module__" 271 (.str "markworks.errors" 194),Mq.f8 P "__firstlineno__" 275 (.int 16 274),Mq.dR P "__static_attributes__" 276 81,Mq.dN P "__doc__" 277] 2),#[]⟩)::(nat_lit 83,Mq.eC "BadName" 39 83 82 74 264 272)::(nat_lit 94,⟨.type "dict",none,(.dict #[Mq.f8 P "__module__" 287 (.str "markworks.errors" 194),Mq.f8 P "__firstlineno__" 291 (.int 18 290),Mq.dR P "__static_attributes__" 292 93,Mq.dN P "__doc__" 293] 2),#[]⟩)::(nat_lit 95,Mq.eC "BadNumber" 39 95 94 86 280 288)::(nat_lit 110,Mq.cP 110 "__init__" "BadRest.__init__" 308 22 2 313)::(nat_lit 111,Mq.fM0 "__init__" "BadRest.__init__" (Mq.ic 7 0) 110)::(nat_lit 113,⟨.type "dict",none,(.dict #[Mq.f8 P "__module__" 303 (.str "markworks.errors" 194),Mq.f8 P "__firstlineno__" 307 (.int 20 306),Mq.dR P "__init__" 315 111,Mq.dR P "__static_attributes__" 317 112,Mq.dN P "__doc__" 318] 2),#[]⟩)::(nat_lit 114,Mq.eC "BadRest" 39 114 113 98 296 304)::(nat_lit 126,Mq.eC "Unlike" 39 126 125 117 321 329)::(nat_lit 141,Mq.cP 141 "__init__" "BadText.__init__" 349 29 2 354)::(nat_lit 142,Mq.fM0 "__init__" "BadText.__init__" (Mq.ic 9 0) 141)::(nat_lit 144,⟨.type "dict",none,(.dict #[Mq.f8 P "__module__" 344 (.str "markworks.errors" 194),Mq.f8 P "__firstlineno__" 348 (.int 27 347),Mq.dR P "__init__" 356 142,Mq.dR P "__static_attributes__" 358 143,Mq.dN P "__doc__" 359] 2),#[]⟩)::(nat_lit 145,Mq.eC "BadText" 39 145 144 129 337 345)::(nat_lit 157,Mq.eC "BadPairs" 39 157 156 148 362 370)::(nat_lit 169,Mq.eC "Never" 39 169 168 160 378 386)::(nat_lit 188,Mq.eC "Unled" 39 188 187 172 394 402)::(nat_lit 199,⟨.type "dict",none,(.dict #[Mq.f8 P "__module__" 426 (.str "markworks.errors" 194),Mq.f8 P "__firstlineno__" 430 (.int 41 429),Mq.dR P "__static_attributes__" 431 198,Mq.dN P "__doc__" 432] 2),#[]⟩)::(nat_lit 200,Mq.eC "Nothing" 39 200 199 191 419 427)::(nat_lit 203,⟨.type "tuple",none,(.seq #[(.str "bar" 447),(.str "drop" 448),(.str "keep" 449),(.str "leave" 450)] 0),#[]⟩)::(nat_lit 209,Mq.dP 209 "is_whole" 452 48 1 456)::(nat_lit 210,Mq.gM1 "is_whole" (Mk.top 19) 209)::(nat_lit 214,Mq.dQ 214 "is_name" 459 50 1 462)::(nat_lit 215,Mq.gM1 "is_name" (Mk.top 20) 214)::(nat_lit 228,Mq.dP 228 "union_of" 472 56 1 478)::(nat_lit 229,Mq.gM1 "union_of" (Mk.top 22) 228)::(nat_lit 235,Mq.dP 235 "is_one_of" 481 61 2 486)::(nat_lit 236,Mq.gM1 "is_one_of" (Mk.top 23) 235)::(nat_lit 247,Mq.dP 247 "next_mark" 495 65 1 499)::(nat_lit 248,Mq.gM1 "next_mark" (Mk.top 25) 247)::(nat_lit 252,Mq.dQ 252 "is_names_of" 502 67 2 505)::(nat_lit 253,Mq.gM1 "is_names_of" (Mk.top 26) 252)::(nat_lit 257,Mq.dQ 257 "thing_number" 508 69 2 511)::(nat_lit 258,Mq.gM1 "thing_number" (Mk.top 27) 257)::(nat_lit 264,Mq.dP 264 "row_number" 514 77 2 522)::(nat_lit 265,Mq.gM1 "row_number" (Mk.top 28) 264)::(nat_lit 271,Mq.dP 271 "numbered" 525 87 1 533)::(nat_lit 272,Mq.gM1 "numbered" (Mk.top 29) 271)::(nat_lit 278,Mq.dP 278 "first_names" 536 97 1 543)::(nat_lit 279,Mq.gM1 "first_names" (Mk.top 30) 278)::(nat_lit 287,⟨.type "dict",none,(.dict #[Mq.f8 P "rest" 559 (.str "bar" 558)] 1),#[]⟩)::(nat_lit 293,Mq.cO "__init__" 560 "Kind.__init__" 561 562 104 2 0 1 3 288 289 290 291 292 566 104 567)::(nat_lit 294,⟨.type "function",none,(.func (Mq.fS "__init__" "Kind.__init__" (L2.inClass (Mk.top 31) 0) .none (.ref 287) .none (.str "markworks.kinds" 435) none (.ref 293) .none)),#[]⟩)::(nat_lit 300,Mq.cP 300 "rows" "Kind.rows" 569 111 1 573)::(nat_lit 301,Mq.fM1 "rows" "Kind.rows" (Mq.ic 31 1) 300)::(nat_lit 307,Mq.cP 307 "number" "Kind.number" 576 114 2 581)::(nat_lit 308,Mq.fM1 "number" "Kind.number" (Mq.ic 31 2) 307)::(nat_lit 331,Mq.cP 331 "known" "Kind.known" 603 129 1 607)::(nat_lit 332,Mq.fM1 "known" "Kind.known" (Mq.ic 31 6) 331)::(nat_lit 338,Mq.cP 338 "rest" "Kind.rest" 610 132 1 614)::(nat_lit 339,Mq.fM1 "rest" "Kind.rest" (Mq.ic 31 7) 338)::(nat_lit 345,Mq.cP 345 "__eq__" "Kind.__eq__" 617 135 2 622)::(nat_lit 346,Mq.fM1 "__eq__" "Kind.__eq__" (Mq.ic 31 8) 345)::(nat_lit 355,⟨.type "dict",none,(.dict #[Mq.f8 P "__module__" 553 (.str "markworks.kinds" 435),Mq.f8 P "__firstlineno__" 557 (.int 102 556),Mq.dR P "__init__" 568 294,Mq.dR P "rows" 575 301,Mq.dR P "number" 583 308,Mq.dR P "names" 590 315,Mq.dR P "aliases" 596 320,Mq.dR P "marks" 602 325,Mq.dR P "known" 609 332,Mq.dR P "rest" 616 339,Mq.dR P "__eq__" 624 346,Mq.dR P "__len__" 631 353,Mq.dR P "__static_attributes__" 635 354,Mq.dR P "__dict__" 637 357,Mq.dR P "__weakref__" 639 358,Mq.dN P "__doc__" 640,Mq.dN P "__hash__" 641] 5),#[]⟩)::(nat_lit 356,Mq.oC "Kind" 356 546 554)::(nat_lit 366,Mq.dP 366 "is_number" 650 142 1 654)::(nat_lit 367,Mq.gM2 "is_number" (Mk.top 34) 366)::(nat_lit 373,Mq.dP 373 "rest_of" 657 144 2 662)::(nat_lit 374,Mq.gM2 "rest_of" (Mk.top 35) 373)::(nat_lit 387,Mq.cP 387 "__init__" "Value.__init__" 677 148 3 683)::(nat_lit 388,Mq.fM2 "__init__" "Value.__init__" (Mq.ic 36 0) 387)::(nat_lit 394,Mq.cP 394 "number" "Value.number" 686 156 1 690)::(nat_lit 395,Mq.fM2 "number" "Value.number" (Mq.ic 36 1) 394)::(nat_lit 401,Mq.cP 401 "kind" "Value.kind" 693 159 1 697)::(nat_lit 402,Mq.fM2 "kind" "Value.kind" (Mq.ic 36 2) 401)::(nat_lit 430,⟨.type "dict",none,(.dict #[Mq.f8 P "__module__" 672 (.str "markworks.values" 644),Mq.f8 P "__firstlineno__" 676 (.int 146 675),Mq.dR P "__init__" 685 388,Mq.dR P "number" 692 395,Mq.dR P "kind" 699 402,Mq.dR P "marks" 705 407,Mq.dR P "rest" 712 414,Mq.dR P "__eq__" 720 421,Mq.dR P "__len__" 727 428,Mq.dR P "__static_attributes__" 730 429,Mq.dR P "__dict__" 732 432,Mq.dR P "__weakref__" 734 433,Mq.dN P "__doc__" 735,Mq.dN P "__hash__" 736] 5),#[]⟩)::(nat_lit 431,Mq.oC "Value" 431 665 673)::(nat_lit 441,Mq.dP 441 "made" 739 173 2 746)::(nat_lit 442,Mq.gM2 "made" (Mk.top 37) 441)::(nat_lit 446,Mq.dQ 446 "value_of" 749 185 2 752)::(nat_lit 447,Mq.gM2 "value_of" (Mk.top 38) 446)::(nat_lit 453,Mq.dP 453 "same_kind" 755 189 2 760)::(nat_lit 454,Mq.gM2 "same_kind" (Mk.top 39) 453)::(nat_lit 460,Mq.dP 460 "union" 763 193 2 768)::(nat_lit 461,Mq.gM2 "union" (Mk.top 40) 460)::(nat_lit 467,Mq.dP 467 "without" 771 195 2 776)::(nat_lit 468,Mq.gM2 "without" (Mk.top 41) 467)::(nat_lit 474,Mq.dP 474 "turned" 779 197 1 783)::(nat_lit 475,Mq.gM2 "turned" (Mk.top 42) 474)::(nat_lit 476,⟨.type "tuple",none,(.seq #[(.str "&" 788),(.str "^" 789),(.str "|" 790)] 0),#[]⟩)::(nat_lit 483,Mq.dP 483 "is_letter" 810 203 1 814)::(nat_lit 484,Mq.gM3 "is_letter" (Mk.top 47) 483)::(nat_lit 488,Mq.dQ 488 "is_figures" 817 205 1 820)::(nat_lit 489,Mq.gM3 "is_figures" (Mk.top 48) 488)::(nat_lit 495,Mq.dP 495 "is_part" 823 211 2 828)::(nat_lit 496,Mq.gM3 "is_part" (Mk.top 49) 495)::(nat_lit 502,Mq.dP 502 "part_end" 831 213 3 838)::(nat_lit 503,Mq.gM3 "part_end" (Mk.top 50) 502)::(nat_lit 516,Mq.cP 516 "__init__" "Reading.__init__" 853 220 1 857)::(nat_lit 517,Mq.fM3 "__init__" "Reading.__init__" (Mq.ic 51 0) 516)::(nat_lit 523,Mq.cP 523 "take_part" "Reading.take_part" 860 225 2 865)::(nat_lit 524,Mq.fM3 "take_part" "Reading.take_part" (Mq.ic 51 1) 523)::(nat_lit 530,Mq.cP 530 "take_sign" "Reading.take_sign" 868 229 2 873)::(nat_lit 531,Mq.fM3 "take_sign" "Reading.take_sign" (Mq.ic 51 2) 530)::(nat_lit 537,Mq.cP 537 "take_ahead" "Reading.take_ahead" 876 236 2 881)::(nat_lit 538,Mq.fM3 "take_ahead" "Reading.take_ahead" (Mq.ic 51 3) 537)::(nat_lit 544,Mq.cP 544 "take_between" "Reading.take_between" 884 242 2 889)::(nat_lit 545,Mq.fM3 "take_between" "Reading.take_between" (Mq.ic 51 4) 544)::(nat_lit 551,Mq.cP 551 "take_close" "Reading.take_close" 892 250 1 896)::(nat_lit 552,Mq.fM3 "take_close" "Reading.take_close" (Mq.ic 51 5) 551)::(nat_lit 558,Mq.cP 558 "settle" "Reading.settle" 899 257 2 904)::(nat_lit 559,Mq.fM3 "settle" "Reading.settle" (Mq.ic 51 6) 558)::(nat_lit 565,Mq.cP 565 "ends" "Reading.ends" 907 261 1 911)::(nat_lit 566,Mq.fM3 "ends" "Reading.ends" (Mq.ic 51 7) 565)::(nat_lit 568,⟨.type "dict",none,(.dict #[Mq.f8 P "__module__" 848 (.str "markworks.grammar" 786),Mq.f8 P "__firstlineno__" 852 (.int 218 851),Mq.dR P "__init__" 859 517,Mq.dR P "take_part" 867 524,Mq.dR P "take_sign" 875 531,Mq.dR P "take_ahead" 883 538,Mq.dR P "take_between" 891 545,Mq.dR P "take_close" 898 552,Mq.dR P "settle" 906 559,Mq.dR P "ends" 913 566,Mq.dR P "__static_attributes__" 917 567,Mq.dR P "__dict__" 919 570,Mq.dR P "__weakref__" 921 571,Mq.dN P "__doc__" 922] 4),#[]⟩)::(nat_lit 569,Mq.oC "Reading" 569 841 849)::(nat_lit 574,⟨.type "dict",none,(.dict #[Mq.f8 P "lettered" 925 (.bool true)] 1),#[]⟩)::(nat_lit 580,Mq.cO "steps_of" 926 "steps_of" 927 928 264 1 0 1 3 575 576 577 578 579 934 264 935)::(nat_lit 581,⟨.type "function",none,(.func (Mq.fS "steps_of" "steps_of" (Mk.top 52) .none (.ref 574) .none (.str "markworks.grammar" 786) none (.ref 580) .none)),#[]⟩)::(nat_lit 585,Mq.dQ 585 "letters_in" 937 281 1 940)::(nat_lit 586,Mq.gM3 "letters_in" (Mk.top 53) 585)::(nat_lit 592,Mq.dP 592 "joined" 943 283 3 949)::(nat_lit 593,Mq.gM3 "joined" (Mk.top 54) 592)::(nat_lit 599,Mq.dP 599 "part_number" 952 289 3 958)::(nat_lit 600,Mq.gM3 "part_number" (Mk.top 55) 599)::(nat_lit 606,Mq.dP 606 "number_of" 961 295 3 970)::(nat_lit 607,Mq.gM3 "number_of" (Mk.top 56) 606)::(nat_lit 611,Mq.dQ 611 "is_table" 975 307 1 978)::(nat_lit 612,Mq.gM4 "is_table" (Mk.top 58) 611)::(nat_lit 616,Mq.dQ 616 "reckoned" 981 311 3 984)::(nat_lit 617,Mq.gM4 "reckoned" (Mk.top 59) 616)::(nat_lit 621,Mq.dQ 621 "is_book_name" 991 320 1 994)::(nat_lit 622,Mq.gM5 "is_book_name" (Mk.top 62) 621)::(nat_lit 628,Mq.dP 628 "value_alone" 997 324 2 1002)::(nat_lit 629,Mq.gM5 "value_alone" (Mk.top 63) 628)::(nat_lit 635,Mq.dP 635 "book_of" 1005 328 2 1011)::(nat_lit 636,Mq.gM5 "book_of" (Mk.top 64) 635)::(nat_lit 649,Mq.cP 649 "__init__" "Book.__init__" 1026 334 2 1031)::(nat_lit 650,Mq.fM5 "__init__" "Book.__init__" (Mq.ic 65 0) 649)::(nat_lit 656,Mq.cP 656 "entry" "Book.entry" 1034 339 2 1039)::(nat_lit 657,Mq.fM5 "entry" "Book.entry" (Mq.ic 65 1) 656)::(nat_lit 663,Mq.cP 663 "give" "Book.give" 1042 344 3 1051)::(nat_lit 664,Mq.fM5 "give" "Book.give" (Mq.ic 65 2) 663)::(nat_lit 670,Mq.cP 670 "put" "Book.put" 1054 353 3 1060)::(nat_lit 671,Mq.fM5 "put" "Book.put" (Mq.ic 65 3) 670)::(nat_lit 677,Mq.cP 677 "mark" "Book.mark" 1063 358 3 1069)::(nat_lit 678,Mq.fM5 "mark" "Book.mark" (Mq.ic 65 4) 677)::(nat_lit 684,Mq.cP 684 "unmark" "Book.unmark" 1072 361 3 1078)::(nat_lit 685,Mq.fM5 "unmark" "Book.unmark" (Mq.ic 65 5) 684)::(nat_lit 691,Mq.cP 691 "turn" "Book.turn" 1081 364 2 1086)::(nat_lit 692,Mq.fM5 "turn" "Book.turn" (Mq.ic 65 6) 691)::(nat_lit 698,Mq.cP 698 "drop" "Book.drop" 1089 367 2 1094)::(nat_lit 699,Mq.fM5 "drop" "Book.drop" (Mq.ic 65 7) 698)::(nat_lit 703,Mq.cQ 703 "reckon" "Book.reckon" 1097 371 3 1100)::(nat_lit 704,Mq.fM5 "reckon" "Book.reckon" (Mq.ic 65 8) 703)::(nat_lit 710,Mq.cP 710 "take_back" "Book.take_back" 1103 377 1 1109)::(nat_lit 711,Mq.fM5 "take_back" "Book.take_back" (Mq.ic 65 9) 710)::(nat_lit 717,Mq.cP 717 "value" "Book.value" 1112 386 2 1117)::(nat_lit 718,Mq.fM5 "value" "Book.value" (Mq.ic 65 10) 717)::(nat_lit 724,Mq.cP 724 "changes" "Book.changes" 1120 389 2 1125)::(nat_lit 725,Mq.fM5 "changes" "Book.changes" (Mq.ic 65 11) 724)::(nat_lit 731,Mq.cP 731 "kind" "Book.kind" 1128 392 1 1132)::(nat_lit 732,Mq.fM5 "kind" "Book.kind" (Mq.ic 65 12) 731)::(nat_lit 738,Mq.cP 738 "names" "Book.names" 1135 395 1 1139)::(nat_lit 739,Mq.fM5 "names" "Book.names" (Mq.ic 65 13) 738)::(nat_lit 759,Mq.cP 759 "__eq__" "Book.__eq__" 1161 410 2 1166)::(nat_lit 760,Mq.fM5 "__eq__" "Book.__eq__" (Mq.ic 65 16) 759)::(nat_lit 766,Mq.cP 766 "__len__" "Book.__len__" 1169 413 1 1173)::(nat_lit 767,Mq.fM5 "__len__" "Book.__len__" (Mq.ic 65 17) 766)::(nat_lit 769,⟨.type "dict",none,(.dict #[Mq.f8 P "__module__" 1021 (.str "markworks.books" 987),Mq.f8 P "__firstlineno__" 1025 (.int 332 1024),Mq.dR P "__init__" 1033 650,Mq.dR P "entry" 1041 657,Mq.dR P "give" 1053 664,Mq.dR P "put" 1062 671,Mq.dR P "mark" 1071 678,Mq.dR P "unmark" 1080 685,Mq.dR P "turn" 1088 692,Mq.dR P "drop" 1096 699,Mq.dR P "reckon" 1102 704,Mq.dR P "take_back" 1111 711,Mq.dR P "value" 1119 718,Mq.dR P "changes" 1127 725,Mq.dR P "kind" 1134 732,Mq.dR P "names" 1141 739,Mq.dR P "having" 1149 746,Mq.dR P "lead" 1160 753,Mq.dR P "__eq__" 1168 760,Mq.dR P "__len__" 1175 767,Mq.dR P "__static_attributes__" 1179 768,Mq.dR P "__dict__" 1181 771,Mq.dR P "__weakref__" 1183 772,Mq.dN P "__doc__" 1184,Mq.dN P "__hash__" 1185] 5),#[]⟩)::(nat_lit 770,Mq.oC "Book" 770 1014 1022)::(nat_lit 778,Mq.dQ 778 "saved" 1192 417 1 1195)::(nat_lit 779,Mq.gM6 "saved" (Mk.top 68) 778)::(nat_lit 783,Mq.dQ 783 "parts_of" 1198 422 1 1201)::(nat_lit 784,Mq.gM6 "parts_of" (Mk.top 69) 783)::(nat_lit 788,Mq.dQ 788 "woken" 1204 424 1 1207)::(nat_lit 789,Mq.gM6 "woken" (Mk.top 70) 788)::(nat_lit 795,Mq.dP 795 "_law_cell" 1212 431 2 1217)::(nat_lit 796,Mq.gM7 "_law_cell" (Mk.top 72) 795)::(nat_lit 802,Mq.dP 802 "_law_drawn" 1220 435 2 1226)::(nat_lit 803,Mq.gM7 "_law_drawn" (Mk.top 73) 802)::(nat_lit 809,Mq.dP 809 "_law_roll" 1229 440 2 1235)::(nat_lit 810,Mq.gM7 "_law_roll" (Mk.top 74) 809)::(nat_lit 814,Mq.dQ 814 "_law_rounds" 1238 447 2 1241)::(nat_lit 815,Mq.gM7 "_law_rounds" (Mk.top 75) 814)::(nat_lit 819,Mq.dQ 819 "_law_word" 1244 449 1 1247)::(nat_lit 820,Mq.gM7 "_law_word" (Mk.top 76) 819)::(nat_lit 826,Mq.dP 826 "_law_told" 1250 459 1 1255)::(nat_lit 827,Mq.gM7 "_law_told" (Mk.top 77) 826)::(nat_lit 831,Mq.dQ 831 "_law_bits_of" 1258 472 1 1261)::(nat_lit 832,Mq.gM7 "_law_bits_of" (Mk.top 78) 831)::(nat_lit 838,Mq.dP 838 "_law_rule_of" 1264 474 1 1268)::(nat_lit 839,Mq.gM7 "_law_rule_of" (Mk.top 79) 838)::(nat_lit 843,Mq.dQ 843 "_law_lines" 1271 476 2 1274)::(nat_lit 844,Mq.gM7 "_law_lines" (Mk.top 80) 843)::(nat_lit 848,Mq.dQ 848 "_law_table_of" 1277 495 1 1280)::(nat_lit 849,Mq.gM7 "_law_table_of" (Mk.top 81) 848)::(nat_lit 855,Mq.dP 855 "_law_made" 1283 503 3 1291)::(nat_lit 856,Mq.gM7 "_law_made" (Mk.top 82) 855)::(nat_lit 862,Mq.dP 862 "_law_tree" 1294 513 4 1303)::(nat_lit 863,Mq.gM7 "_law_tree" (Mk.top 83) 862)::(nat_lit 869,Mq.dP 869 "_law_written" 1306 525 3 1315)::(nat_lit 870,Mq.gM7 "_law_written" (Mk.top 84) 869)::(nat_lit 876,Mq.dP 876 "_law_come" 1318 535 4 1327)::(nat_lit 877,Mq.gM7 "_law_come" (Mk.top 85) 876)::(nat_lit 883,Mq.dP 883 "_law_formula" 1330 549 3 1338)::(nat_lit 884,Mq.gM7 "_law_formula" (Mk.top 86) 883)::(nat_lit 890,Mq.dP 890 "_law_names" 1341 556 3 1352)::(nat_lit 891,Mq.gM7 "_law_names" (Mk.top 87) 890)::(nat_lit 897,Mq.dP 897 "_law_book_like" 1355 563 2 1361)::(nat_lit 898,Mq.gM7 "_law_book_like" (Mk.top 88) 897)::(nat_lit 904,Mq.dP 904 "_law_give" 1364 570 3 1372)::(nat_lit 905,Mq.gM7 "_law_give" (Mk.top 89) 904)::(nat_lit 911,Mq.dP 911 "_law_word_of" 1375 576 1 1379)::(nat_lit 912,Mq.gM7 "_law_word_of" (Mk.top 90) 911)::(nat_lit 918,Mq.dP 918 "_law_step" 1382 578 5 1400)::(nat_lit 919,Mq.gM7 "_law_step" (Mk.top 91) 918)::(nat_lit 923,Mq.dQ 923 "_law_reckoning" 1403 612 6 1406)::(nat_lit 924,Mq.gM7 "_law_reckoning" (Mk.top 92) 923)::(nat_lit 930,Mq.dP 930 "_law_book" 1409 630 2 1423)::(nat_lit 931,Mq.gM7 "_law_book" (Mk.top 93) 930)::(nat_lit 937,Mq.dP 937 "law" 1426 638 1 1442)::(nat_lit 938,Mq.gM7 "law" (Mk.top 94) 937)::
 []
noncomputable def Mq.Kf (P:PySem.Params):PySem.W.Frag:=(nat_lit 933,⟨.none,none,(.fields #[]),#[]⟩)::(nat_lit 914,⟨.none,none,(.fields #[]),#[]⟩)::(nat_lit 921,⟨.none,none,(.fields #[]),#[]⟩)::(nat_lit 477,⟨.type "dict",none,(.dict #[Mq.f8 P "(" 792 (.int 0 793),Mq.f8 P "|" 794 (.int 1 795),Mq.f8 P "^" 796 (.int 2 797),Mq.f8 P "&" 798 (.int 3 799),Mq.f8 P "~" 800 (.int 4 801)] 5),#[]⟩)::Mq.Kg P
noncomputable def Mq.Kas:List Nat:=(Mq.Kf {strHash:=fun _=>0,shareClass:=fun _=>0,mergeTok:=id,idOf:=fun _=>0,idOfShared:=fun _ _=>0,followText:=fun _=>true,idOfImm:=fun _=>0}).map (·.1)
noncomputable def Mq.loose:List PySem.Str:=(view PySem.Challenge.pw_markworks_k73_whole_saved_and_woken (List.range 94)).boundNames
def Mq.T0 (P:Params):BT:=.node (boot_o_0 P)
 (.node (boot_o_1 P) (.node (boot_o_3 P) (.node (boot_o_7 P) .nil .nil) .nil) (.node (boot_o_5 P) (.node (boot_o_9 P) .nil .nil) .nil))
 (.node (boot_o_2 P) (.node (boot_o_4 P) (.node (boot_o_8 P) .nil .nil) .nil) (.node (boot_o_6 P) (.node (boot_o_10 P) .nil .nil) .nil))
theorem Mq.twin:Function.const _ true (@Hd.runT,@Hd.looksAt)=true:=by k_qdec
noncomputable abbrev Mq.qv:Program:=view PySem.Challenge.pw_markworks_k73_whole_saved_and_woken [nat_lit 94]
noncomputable abbrev Mq.Xt (s:Shared):Bool:=xlAt Mq.qv [] s&&recOk [] s
abbrev Mq.RQ (w:World) (os:OsState):Prop:=(Option.map (fun s=>Fast.tw8257016192812374322 PySem.Challenge.pw_markworks_k73_whole_saved_and_woken (view PySem.Challenge.pw_markworks_k73_whole_saved_and_woken [nat_lit 94]) Mq.loose (fun s=>xlAt (view PySem.Challenge.pw_markworks_k73_whole_saved_and_woken [nat_lit 94]) [] s&&recOk [] s) Mq.Kas (boot_heap w.params) s.abs)
   (Fast.tw16599536794577742827 Fast.tw14364793385576792824 PySem.Challenge.pw_markworks_k73_whole_saved_and_woken w (nat_lit 11) (some (Value.ref (nat_lit 6))) (nat_lit 6955) ⟨Mq.T0 w.params,nat_lit 11,{},#[],boot_drawn,boot_toks,os⟩ (topStub PySem.Challenge.pw_markworks_k73_whole_saved_and_woken)))=
  some (true,openGood (view PySem.Challenge.pw_markworks_k73_whole_saved_and_woken [nat_lit 94]) Mq.loose,(Mq.Kf w.params).map fun x=>some x.2)
noncomputable def Mq.sF (b:Bool) (w:World):World:={w with params:={w.params with followText:=fun s=>if s== "special-get-raises" then b else w.params.followText s}}
theorem Mq.sF_eq (w:World):Mq.sF (w.params.followText "special-get-raises") w=w:=by
 have:(fun s=>if s== "special-get-raises" then w.params.followText "special-get-raises" else w.params.followText s)=w.params.followText:=funext fun s=>by
  by_cases h:s="special-get-raises"
  · rw[h];rfl
  · rw[if_neg (by simpa using h)]
 unfold Mq.sF
 rw[this]
theorem Mq.run_t (w:World) (os:OsState):Mq.RQ (Mq.sF true w) os:=by kernel_rfl
theorem Mq.run_f (w:World) (os:OsState):Mq.RQ (Mq.sF false w) os:=by kernel_rfl
theorem Mq.wsA:PySem.Challenge.rw_markworks_k73_whole_saved_and_woken.row.wellSaid=true:=by kernel_rfl
end
open Option renaming some→U,some→gl,none→J,none→gt
open Bool renaming true→L,true→ii,false→O,false→im
open Lean Parser.Tactic in
def pmm:Nat->Syntax->Array Syntax
|n+1,t=>if t.isOfKind `«term_||_» then pmm n t[0]++#[mkAtom "|"]++pmm n t[2]else #[if t.isIdent then mkNode ``rcasesPat.one #[t]else if t.getNumArgs<2 then mkNode ``rcasesPat.ignore #[mkAtom "_"]else mkNode ``rcasesPat.tuple #[mkAtom "⟨",mkNullNode (mkSepArray ((#[t[1][0]]++t[1][2].getSepArgs).map λx=>mkNode ``rcasesPatLo #[mkNode ``rcasesPatMed #[mkNullNode (pmm n x)],mkNullNode]) (mkAtom ",")),mkAtom "⟩"]]
|_,_=>#[]
open Lean Parser in
def tq(x:Syntax):Syntax:=let a:=#[x[1][0]]++x[1][2].getSepArgs;let c:=a.back!;if c.isOfKind ``Term.paren&&a.size<5 then a.pop.foldr (λe r=>mkNode ``Term.app #[mkIdent `Prod.mk,mkNullNode #[e,r]]) c[1]else mkNode ``Term.anonymousCtor #[mkAtom "⟨",mkNullNode (mkSepArray (a.flatMap λx=>if x.isNatLit?==some 7 then #[mkNode ``Term.hole #[mkAtom "_"],mkIdent `rfl]else #[x]) (mkAtom ",")),mkAtom "⟩"]
open Lean Parser in
def tlq(x:Syntax):Syntax:=let d:=x[2][0];if d.isOfKind ``Term.letPatDecl then mkNode ``Tactic.obtain #[mkAtom "obtain",mkNullNode #[mkNode ``Tactic.rcasesPatMed #[mkNullNode (pmm 9 d[0])]],mkNullNode,mkNullNode #[mkAtom ":=",mkNullNode #[if d[2].getNumArgs==0 then d[4]else mkNode ``Term.show #[mkAtom "show",d[2][0][1],mkNode ``Term.fromTerm #[mkAtom "from",d[4]]]]]]else mkNode ``Tactic.tacticHave__ #[mkAtom "have",x[1],x[2]]
open Lean in
def fq(x:Syntax):Option Syntax:=if x.isOfKind `Lean.Parser.Term.proj then (x[2].isFieldIdx?.bind (("a a a length heap.objs.size map cps.toList trans lookup heap.get? objs.size toArray names.lookup get? prog heap contains env.locals eA.fresh env.cells.lookup take env setIfInBounds heap.push env.scope.names.lookup same isSome size env.scope Nodup filter cps.all toNat stack keep symm cps.toList.all toList data base elim units env.qual heap.FunFrames params.followText getD typeIs frames BuiltinsAt handled reverse mono params.setOrder mpr names due deeper cps.toList.take toList.length isList params len toks length_eq turned update ok.hd foldl line natAbs.log2 Pairwise post ok.above bare push kept filterMap cps.size cls keeps IsListIter ok.mod.iL".splitOn " ")[·]?)).bind λn=>if n=="a"then J else U ((n.splitOn ".").foldl (λe c=>mkNode `Lean.Parser.Term.proj #[e,mkAtom ".",mkIdent (.mkSimple c)]) x[0])else J
section
set_option hygiene false
open Lean in
local macro_rules(kind:=Lean.Parser.Tactic.tacticLet__)|x=>pure (tlq x)
open Lean in
local macro_rules(kind:=Lean.Parser.Tactic.show)|x=>pure (mkNode `Lean.Parser.Tactic.refine #[mkAtom "refine",x[1]])
local macro_rules(kind:=Lean.Elab.Tactic.Ext.ext)|x=>`(tactic|simp_all)
open Lean in
local macro_rules(kind:=Lean.Parser.Term.paren)|x=>if x[1].isOfKind `Lean.Parser.Term.hole then `(by first|(simp_all;done)|grind|trivial)else Macro.throwUnsupported
local macro_rules(kind:=Lean.Parser.Term.tuple)|x=>if x[1].getNumArgs==0 then `(by lia)else pure (tq x)
open Lean in
local macro_rules(kind:=Lean.Parser.Term.proj)|x=>(fq x).elim Macro.throwUnsupported pure
open Lean in
local macro_rules(kind:=Lean.Parser.Term.app)|x=>(fq x[0]).elim Macro.throwUnsupported λe=>pure (x.setArg 0 e)
open Lean in
local macro_rules(kind:=Lean.Parser.Command.mutual)|x=>if x[1].getNumArgs<9 then Macro.throwUnsupported else pure (mkNullNode (x[1].getArgs.map λc=>Id.run (c.rewriteBottomUpM λs=>pure (s.setInfo .none))))
mutual
inductive E₂{A B:Type}(P:A->B->Prop):Prop
 |mk(a b)(_:P a b)
inductive E₃{A B C:Type}(P:A->B->C->Prop):Prop
 |mk(a b c)(_:P a b c)
inductive E₄{A B C D:Type}(P:A->B->C->D->Prop):Prop
 |mk(a b c d)(_:P a b c d)
inductive E₅{A B C D E:Type}(P:A->B->C->D->E->Prop):Prop
 |mk(a b c d e)(_:P a b c d e)
inductive E₆{A B C D E F:Type}(P:A->B->C->D->E->F->Prop):Prop
 |mk(a b c d e f)(_:P a b c d e f)
inductive E₇{A B C D E F G:Type}(P:A->B->C->D->E->F->G->Prop):Prop
 |mk(a b c d e f g)(_:P a b c d e f g)
inductive E₈{A B C D E F G H:Type}(P:A->B->C->D->E->F->G->H->Prop):Prop
 |mk(a b c d e f g h)(_:P a b c d e f g h)
inductive C₃(a b c:Prop):Prop
 |mk(_:a)(_:b)(_:c)
inductive C₄(a b c d:Prop):Prop
 |mk(_:a)(_:b)(_:c)(_:d)
inductive C₅(a b c d e:Prop):Prop
 |mk(_:a)(_:b)(_:c)(_:d)(_:e)
inductive C₆(a b c d e f:Prop):Prop
 |mk(_:a)(_:b)(_:c)(_:d)(_:e)(_:f)
inductive C₇(a b c d e f g:Prop):Prop
 |mk(_:a)(_:b)(_:c)(_:d)(_:e)(_:f)(_:g)
inductive C₈(a b c d e f g h:Prop):Prop
 |mk(_:a)(_:b)(_:c)(_:d)(_:e)(_:f)(_:g)(_:h)
inductive C₉(a b c d e f g h i:Prop):Prop
 |mk(_:a)(_:b)(_:c)(_:d)(_:e)(_:f)(_:g)(_:h)(_:i)
end
noncomputable section
mutual
abbrev lH:String:="self"
abbrev lI:String:="_law_dice"
abbrev lJ:String:="_law_book_here"
abbrev lK:String:="name"
abbrev lL:String:="object.__class__"
abbrev lM:String:="thing"
abbrev lN:String:="kind"
abbrev lO:String:="number"
abbrev lP:String:="<lambda>"
abbrev lQ:String:="BaseException.__getattribute__"
abbrev lR:String:="refused"
abbrev lS:String:="_law_told"
abbrev lU:String:="__init__"
abbrev lV:String:="_law_number"
abbrev lW:String:="getset_descriptor.__get__"
abbrev lX:String:="_law_name"
abbrev lY:String:="ValueError"
abbrev lZ:String:="numbers"
abbrev ma:String:="_law_script"
abbrev md:String:="list"
abbrev me:String:="other"
abbrev mf:String:="_law_table"
abbrev mh:String:="_law_reckoning"
abbrev mi:String:="_law_most"
abbrev mj:String:="_law_due"
abbrev ml:String:="text"
abbrev mm:String:="tuple"
abbrev mn:String:="object.__setattr__"
abbrev mq:String:="_law_deed"
abbrev mr:String:="isinstance"
abbrev mu:String:="own_kind"
abbrev mv:String:="_law_e"
abbrev mw:String:="_law_many"
abbrev mx:String:="_law_roll"
abbrev my:String:="lettered"
abbrev mG:String:="BadName"
abbrev mH:String:="dict"
abbrev mP:String:="object.__ne__"
abbrev mQ:String:="names"
abbrev mY:String:="__name__"
abbrev mZ:String:="entries"
abbrev m6:String:="BaseException"
abbrev m7:String:="_law_step"
abbrev m8:String:="BadText"
abbrev m9:String:="_law_way"
abbrev nh:String:="_law_tree_here"
abbrev ni:String:="_law_written"
abbrev nj:String:="_law_names_here"
abbrev nk:String:="bits"
abbrev nr:String:="_law_words"
abbrev nv:String:="_law_word"
abbrev ny:String:="BadRest"
abbrev nz:String:="Nothing"
abbrev nA:String:="__getattribute__"
abbrev nC:String:="set_iterator"
abbrev nG:String:="known"
abbrev nH:String:="steps"
abbrev nI:String:="object"
abbrev nM:String:="MarkError.__init__"
abbrev nO:String:="BadNumber"
abbrev nQ:String:="table"
abbrev nU:String:="__setattr__"
abbrev nV:String:="_law_tables"
abbrev nY:String:="ahead"
abbrev nZ:String:="value"
abbrev n6:String:="keep"
abbrev n8:String:="_law_cell_here"
abbrev oa:String:="set-order"
abbrev og:String:="_law_tree"
abbrev oh:String:="_law_come"
abbrev oj:String:="sign"
abbrev om:String:="type.__call__"
abbrev oo:String:="__eq__"
abbrev oq:String:="one"
abbrev ou:String:="firsts"
abbrev ow:String:="is_number"
abbrev ox:String:="steps_of"
abbrev oy:String:="rows"
abbrev oz:String:="rest"
abbrev oA:String:="_law_k"
abbrev oB:String:="_law_table_of"
abbrev oE:String:="enumerate"
abbrev oG:String:="__class__"
abbrev oH:String:="type.__getattribute__"
abbrev oI:String:="set_iterator.__next__"
abbrev oJ:String:="set_iterator.__iter__"
abbrev oK:String:="is_one_of"
abbrev oM:String:="is_letter"
abbrev oN:String:="wants_part"
abbrev oO:String:="_law_signs"
abbrev oP:String:="_law_formula"
abbrev oQ:String:="_law_letters_to"
abbrev oR:String:="is_book_name"
abbrev oS:String:="__get__"
abbrev oU:String:="is_whole"
abbrev oV:String:="_law_book_like"
abbrev oW:String:="range"
abbrev oX:String:="leave"
abbrev oY:String:="value_alone"
abbrev oZ:String:="set.scan.the-table-gave-way"
abbrev o3:String:="list_iterator"
abbrev o4:String:="Kind.__init__"
abbrev o5:String:="method_descriptor"
abbrev o7:String:="bar"
abbrev o9:String:="_law_drawn"
abbrev pa:String:="_law_found"
abbrev pb:String:="waiting"
abbrev pe:String:="binding"
abbrev pf:String:="function"
abbrev ph:String:="__ne__"
abbrev pj:String:="union_of"
abbrev pk:String:="thing_number"
abbrev px:String:="_law_rule_of"
abbrev pz:String:="_law_bits_of"
abbrev pA:String:="_law_numbers"
abbrev pB:String:="value_of"
abbrev pC:String:="_law_word_of"
abbrev pE:String:="_law_text"
abbrev pF:String:="same_kind"
abbrev pG:String:="take_back"
abbrev pH:String:="_law_give"
abbrev pI:String:="is_names_of"
abbrev pJ:String:="first_names"
abbrev pK:String:="_law_rounds"
abbrev pL:String:="part_number"
abbrev pM:String:="sorted"
abbrev pN:String:="is_name"
abbrev pO:String:="rest_of"
abbrev pP:String:="letter"
abbrev pQ:String:="changes"
abbrev pR:String:="law"
abbrev pS:String:="row_number"
abbrev pT:String:="_law_lines"
abbrev pU:String:="_law_known"
abbrev pV:String:="words"
abbrev pW:String:="is_figures"
abbrev pY:String:="part"
abbrev pZ:String:="letters_in"
abbrev p0:String:="reckoned"
abbrev qf:String:="cdefghij"
abbrev qg:String:="_law_names"
abbrev qh:String:="__classdict__"
abbrev qj:String:="LEAST_BINDING"
abbrev qk:String:="next_mark"
abbrev qo:String:="drop"
abbrev qp:String:="_law_cell"
abbrev qr:String:="_law_made"
abbrev qu:String:="number_of"
abbrev qw:String:="_law_book"
abbrev qx:String:="default"
abbrev qz:String:="__len__"
abbrev qA:String:="deeds"
abbrev qB:String:="max"
abbrev qC:String:="int"
abbrev qD:String:="str"
abbrev qE:String:="type"
abbrev qF:String:="set"
abbrev qG:String:="entry"
abbrev qH:String:="woken"
abbrev lG:=PySem.Shared
abbrev l7:=PySem.Addr
abbrev lx:=List PySem.Value
abbrev lr:=List PySem.Str
theorem zd{b:Sort _}{a:b}:a=a:=rfl
theorem Y{α:Sort _}{a:α}:a=a:=rfl
abbrev z9:=@Array.getElem?_eq_some_iff
abbrev z8:=@List.getElem?_eq_some_iff
abbrev z7:=@List.getElem?_eq_getElem
abbrev z5:=@Option.map_eq_some_iff
abbrev z4:=@PySem.lookup_relabel_local
abbrev z0:=@PySem.wpAny_isSubtype_exc
abbrev zZ:=@PySem.wpAny_Call_Name_kw
abbrev zY:=@List.length_append
abbrev zX:=@Nat.lt_of_lt_of_le
abbrev zW:=@Int.natCast_nonneg
abbrev zV:=@PySem.wpAny_truthy_bool
abbrev zU:=@PySem.wpAny_loadPart_at
abbrev zT:=@PySem.Heap.get?_push_of_some
abbrev zS:=@PySem.Heap.get?_update_other
abbrev zR:=@of_decide_eq_true
abbrev zQ:=@PySem.Heap.get?_update_self
abbrev zP:=@List.mem_append_right
abbrev zO:=@List.length_filter_le
abbrev zN:=@List.mem_cons_of_mem
abbrev zM:=@List.mem_of_getElem?
abbrev zL:=@List.mem_append_left
abbrev zK:=@decide_eq_false
abbrev zJ:=@PySem.Heap.get?_push_size
abbrev zI:=@List.filterMap_cons
abbrev zH:=@decide_eq_true
abbrev zG:=@PySem.wpAny_holding
abbrev zF:=@PySem.wpAny_standAt
abbrev zE:=@List.mem_cons_self
abbrev zz:=@List.mem_singleton
abbrev zy:=@Nat.lt_irrefl
abbrev zx:=@List.getElem?_map
abbrev zw:=@List.take_add_one
abbrev zu:=@Nat.ne_of_lt
abbrev zt:=@List.take_length
abbrev zr:=@List.length_take
abbrev zq:=@List.lookup_cons
abbrev zp:=@Nat.le_refl
abbrev zo:=@PySem.wpAny_bind
abbrev zn:=@PySem.wpAny_pure
abbrev zm:=@PySem.wpAny_mono
abbrev zl:=@List.map_append
abbrev zj:=@List.append_nil
abbrev zi:=@List.nodup_cons
abbrev zh:=@List.mem_map
abbrev zg:=@if_neg
abbrev zf:=@if_pos
theorem qb{p:Prop}(h:p:=by decide +kernel):p:=h
theorem qc{p:Prop}(h:p:=by decide):p:=h
theorem qe{p:Prop}(h:p:=by omega):p:=h
theorem qd{α:Sort _}{a b:α}(h:a=b:=by kernel_rfl):a=b:=h
theorem AO{b:Type u}{d:Type v}{a:List b}(f:b->d):(a.5 f).3=a.3:=List.length_map f
abbrev Aa:=List (PySem.Str×Nat)
abbrev VS:=PySem.Value->PySem.Shared->Prop
abbrev LO:=List (PySem.Addr×PySem.Obj)
abbrev SV:=PySem.Str->Option PySem.Value
open PySem in
abbrev FG:=W.Frag
end
open PySem.F hiding entry_list_append entry_list_sort fills_int_mul slot_dict_getitem slot_int_bit_length slot_list_append slot_list_getitem slot_list_sort slot_str_getitem slot_tuple_getitem type_int_bit_length type_list_append
open List (all_eq_true all_map any_cons any_eq_true any_map append_assoc append_inj' append_nil cons_lt_cons_iff cons_ne_nil contains_cons filterMap_cons filter_append filter_cons foldl_cons getElem?_map getElem?_of_mem length_cons length_filter_le length_nil length_singleton length_take lookup_cons map_append map_cons map_id map_map map_nil map_take mem_append mem_append_left mem_append_right mem_cons mem_cons_of_mem mem_cons_self mem_filter mem_map mem_of_getElem? mem_of_mem_take mem_range mem_singleton nil_append nodup_append nodup_cons nodup_nil not_mem_nil of_mem_zip pairwise_cons pairwise_map size_toArray sum_append sum_cons take_add_one take_length take_of_length_le)
open PySem.Heap (get?_push_of_some get?_push_size get?_update_other get?_update_self lt_size)
namespace L2
open PySem
theorem sl1:1<=sizeLine:=by decide
theorem ig:2<=sizeLine:=by decide
theorem jK:3<=sizeLine:=by decide
theorem sl4:4<=sizeLine:=by decide
end L2
namespace L2
open PySem PySem.Spec PyProof.Rows
mutual
abbrev Key:=Sum Int Str
noncomputable def Kh:Key->Value->Bool
 |.inl k,v=>Value.isInt k v
 |.inr x,v=>Value.isStrOf x v
noncomputable def ao(w:World):Key->Int
 |.inl k=>hashInt k
 |.inr x=>hashStr w x
theorem BL:∀{k}{v},Kh k v=L->(∃i t,k=Sum.inl i/\v=Value.int i t)\/(∃x t,k=Sum.inr x/\v=Value.str x t)
 |.inl i,v,h=>by
  let(t,e):=Value.isInt_shape h
  ext
 |.inr x,v,h=>by
  let(t,e):=Value.isStrOf_shape h
  ext
theorem Q9(i)(t):Kh (.inl i) (.int i t)=L:=by simp[Kh,Value.isInt]
theorem RB(x)(t):Kh (.inr x) (.str x t)=L:=by simp[Kh,Value.isStrOf]
theorem Xb(a b):decide ((Sum.inl a:Key)=Sum.inl b)=(a==b):=by
 grind
theorem Xc(a b):decide ((Sum.inr a:Key)=Sum.inr b)=decide (a=b):=by
 ext
theorem Xd(a)(b):decide ((Sum.inl a:Key)=Sum.inr b)=O:=zK (λq=>nomatch q)
theorem Xe(a)(b):decide ((Sum.inr a:Key)=Sum.inl b)=O:=zK (λq=>nomatch q)
def Ab(prog:Program)(w:World):PySem.KeyKind prog w Key where
 is:=Kh
 hash:=ao w
 inj:=λv a b l f=>by
  let(i,t,rfl,rfl)||(x,t,rfl,rfl):=BL l
  ·let(j,u,rfl,e)||(y,u,rfl,e):=BL f
   ·ext
   trivial
  ·let(j,u,rfl,e)||(y,u,rfl,e):=BL f
   ·trivial
   ext
 byValue:=λk v h=>by
  let(i,t,rfl,rfl)||(x,t,rfl,rfl):=BL h<;>rfl
 pyHash:=λd h=>by
  let(i,t,rfl,rfl)||(x,t,rfl,rfl):=BL d
  ·show wpAny_pyHash_int h
  ·show wpAny_pyHash_str h
 eqBool:=λm d h=>by
  let(i,t,rfl,rfl)||(x,t,rfl,rfl):=BL m
  ·let(j,u,rfl,rfl)||(y,u,rfl,rfl):=BL d
   ·rw[Xb]at h;show wpAny_eqBool_int h
   ·rw[Xd]at h;show SeqAt.EqAt.int_str i t y u _ _ _ _ h
  ·let(j,u,rfl,rfl)||(y,u,rfl,rfl):=BL d
   ·rw[Xe]at h;show SeqAt.EqAt.str_int x t j u _ _ _ _ h
   ·rw[Xc]at h;show wpAny_eqBool_str h
 «strs»:=λk x t v h=>by
  let(i,u,rfl,e)||(y,u,rfl,e):=BL h
  ·trivial
  ·injection e with g _
   subst g;cases v<;>rfl
theorem Mu(prog)(w)(i)(t):(Ab prog w).is (.inl i) (.int i t)=L:=Q9 i t
theorem Et(prog)(w)(x)(t):(Ab prog w).is (.inr x) (.str x t)=L:=RB x t
inductive V where
 |eJ|bl (b:Bool)|int (i:Int)|str (x:Str)|jx (b:Array UInt8)|j8 (b:UInt64)|ref (a:l7)|ty (n:String)
 deriving DecidableEq
abbrev _root_.ly:=List V
def RelV:V->Value->Prop
 |.eJ,u=>u=Value.none
 |.bl b,u=>u=Value.bool b
 |.int i,u=>∃t,u=Value.int i t
 |.str x,u=>∃t,u=Value.str x t
 |.jx b,u=>∃t,u=Value.bytes b t
 |.j8 b,u=>∃t,u=Value.float b t
 |.ref a,u=>u=Value.ref a
 |.ty n,u=>u=Value.type n
abbrev Vals:ly->lx->Prop:=Paired RelV
theorem Vals.length(r:Vals d b):d.3=b.3:=Paired.length r
theorem Vals.get:∀{b}{a}{i:Nat}{x},Vals b a->b[i]?=U x->∃u,a[i]?=U u/\RelV x u
 |_,_,_,_,.nil,e=>by simp at e
 |_,_,0,_,.cons r _,e=>by ext
 |_,_,i+1,x,.cons _ t,e=>by
  let(u,h,d):=Vals.get t (_)
  ext
theorem Vals.set(r:RelV x u):∀{b}{a}i,Vals b a->Vals (b.set i x) (a.set i u)
 |_,_,_,.nil=>.nil
 |_,_,0,.cons _ t=>.cons r t
 |_,_,i+1,.cons q t=>.cons q (Vals.set r i t)
theorem Vals.append:∀{b f}{a d},Vals b a->Vals f d->Vals (b++f) (a++d)
 |_,_,_,_,.nil,s=>s
 |_,_,_,_,.cons r t,s=>.cons r (Vals.append t s)
def gF:Option V->Option Value->Prop
 |some v,U u=>RelV v u
 |none,J=>True
 |_,_=>False
def KV{b:Type}:List (b×V)->List (b×Value)->Prop:=Paired λp q=>p.1=q.1/\RelV p.2 q.2
noncomputable def kV:Key->V
 |.inl i=>.int i
 |.inr x=>.str x
abbrev LK:=List (Key×V)
inductive HO where
 |lst (d:ly)
 |tup (d:ly)
 |dK (b:LK)|dT (b:List (List Key×V))
 |set (S:Int->Bool) (n:Nat)
 |ins (C g:l7) (fs:List (Str×V))
 |own (x:l7)
 |xd (fs:List (Str×V))
 |met (f x:l7)
 |rng (lo h:Int)
 |gj (o:Obj) (u:HO)
 |hZ (i:Array Value)
 |ext (φ:Heap->Prop)
end
set_option genInjectivity false
abbrev Hp:=l7->Option HO
noncomputable def upd(H:Hp)(a:l7)(o:HO):Hp:=λb=>if b=a then U o else H b
theorem dG:upd H a o a=U o:=by unfold upd;simp
theorem AE(h:b≠a):upd H a o b=H b:=by unfold upd;ext
theorem VP:upd (upd H a o) a u=upd H a u:=by
 funext b;unfold upd;ext
theorem Py{H:Hp}(h:H a=U o)(f:H b=U u)(d:o≠u):a≠b:=by
 grind
theorem AK{H:Hp}(h:H a=U o)(d:H b=J):a≠b:=by
 grind
section
variable (P:Program) (w:World)
def fY(H:Hp)(h:Heap)(a:l7):HO->Prop
 |.lst b=>b.3<=sizeLine/\∃(g:lx)(n:Nat),Vals b g/\h.13 a=U {cls:=.type md,data:=.seq g.11 n}
 |.tup b=>b.3<=sizeLine/\∃g,Vals b g/\IsTup h a g.11
 |.dK i=>i.3<=sizeLine/\(a==sysModules)=O/\∃vs,KV i vs/\h.DictOf (Ab P w) a vs
 |.dT i=>i.3<=sizeLine/\(a==sysModules)=O/\∃b,
   Paired (λp q=>p.1=q.1/\H q.2.1=U (.tup (p.1.5 kV))/\RelV p.2 q.2.2) i b /\
   ∃o m ep,h.13 a=U o/\o.ExactDict/\o.38=.dict m ep/\m.37=b.5 (entryOfKey (tupleKind (Ab P w)))/\(b.5 (·.1)).29
 |.set S n=>h.SetOf (intKind P w) a S n
 |.ins C j fs=>H j=U (.own a)/\fs.3<=1000/\j≠a/\h.13 a=U (W.instObj C j) /\
   ∃d,h.Ns1 j d/\(∀f,gF (fs.8 f) (d f))/\PySem.Within d (fs.5 (·.1))
 |.own _=>∃o,h.13 a=U o
 |.xd fs=>∃d,h.Ns1 a d/\∀f,gF (fs.8 f) (d f)
 |.rng lo y=>∃t u v,h.13 a=U {cls:=.type oW,data:=.fields #[.int lo t,.int y u,.int 1 v]}
 |.gj o u=>h.13 a=U o/\fY H h a u
 |.hZ z=>h.13 a=U {cls:=.none,data:=.fields z}
 |.met f x=>h.13 a=U (W.methodObj (.ref f) (.ref x))
 |.ext l=>l h/\(∃o,h.13 a=U o)/\∀r s,l r->(∀o,r.13 a=U o->s.13 a=U o)->l s
def gG(H:Hp)(h:Heap):Prop:=∀a o,H a=U o->fY P w H h a o
end
mutual
theorem fY.lt(x:fY P w H h a o):a<h.10:=by
 cases o with
 |lst i=>let(_,_,_,_,e):=x;show lt_size e
 |tup i=>let(_,_,_,p):=x;show p.lt
 |dK d=>let(_,_,_,_,o,_,_,e,_):=x;show lt_size e
 |dT d=>let(_,_,_,_,o,_,_,e,_):=x;show lt_size e
 |set S n=>let(o,_,_,_,e,_):=x;show lt_size e
 |ins C l fs=>let(_,_,_,e,_):=x;show lt_size e
 |own y=>let(_,e):=x;show lt_size e
 |xd fs=>let(_,(_,_,_,e,_),_):=x;show lt_size e
 |rng q t=>let(_,_,_,e):=x;show lt_size e
 |gj r u=>let(e,_):=x;show lt_size e
 |hZ j=>show lt_size (x)
 |met f y=>show lt_size (x)
 |ext v=>let(_,(_,e),_):=x;show lt_size e
theorem Paired.mapP{g h}{F G}:∀{e:List g}{d:List h},Paired F e d->(∀a b,F a b->G a b)->Paired G e d
 |_,_,.nil,_=>.nil
 |_,_,.cons r t,f=>.cons (f _ _ r) (Paired.mapP t f)
theorem Paired.imp'{g h}{F G}(f:∀a b,F a b->G a b){e:List g}{d:List h}(r:Paired F e d):Paired G e d:=Paired.mapP r f
theorem fY.ie(x:fY P w H h a o)(k:∀b u,(b=a\/H b=U (.own a))->h.13 b=U u->m.13 b=U u)
  (A:∀b,H b=U (.own a)->s b=U (.own a)) (ht:∀b g,H b=U (.tup g)->s b=U (.tup g)):fY P w s m a o:=by
 induction o with
 |lst g=>let(z,l,n,r,e):=x;show(z,l,n,r,k _ _ (.inl Y) e)
 |tup g=>let(z,l,r,i,e,c):=x;show(z,l,r,i,k _ _ (.inl Y) e,c)
 |dK D=>let(z,y,vs,r,i,j,ep,e,c):=x;show(z,y,vs,r,i,j,ep,k _ _ (.inl Y) e,c)
 |dT D=>
  let(z,y,g,r,i,j,ep,e,c):=x;show(z,y,g,Paired.mapP r λp q z=>(z.1,ht _ _ z.2.1,z.2.2),i,j,ep,k _ _ (.inl Y) e,c)
 |set S n=>let(i,j,ep,t,e,c):=x;show(i,j,ep,t,k _ _ (.inl Y) e,c)
 |ins C Q fs=>
  let(d,z,M,e,F,(E,j,ep,I,c),r):=x;show(A _ d,z,M,k _ _ (.inl Y) e,F,(E,j,ep,k _ _ (.inr d) I,c),r)
 |own y=>let(i,e):=x;show(i,k _ _ (.inl Y) e)
 |xd fs=>let(F,(E,j,ep,e,c),r):=x;show(F,(E,j,ep,k _ _ (.inl Y) e,c),r)
 |rng R T=>let(t,u,v,e):=x;show(t,u,v,k _ _ (.inl Y) e)
 |gj i u B=>let(e,q):=x;show(k _ _ (.inl Y) e,B q)
 |hZ G=>
  let e:h.13 a=U {cls:=.none,data:=.fields G}:=x;change m.13 a=U {cls:=.none,data:=.fields G}
  ext
 |met f y=>
  let e:h.13 a=U (W.methodObj (.ref f) (.ref y)):=x;change m.13 a=U (W.methodObj (.ref f) (.ref y))
  ext
 |ext N=>let(p,(o,e),st):=x;show(st _ _ p λo q=>k _ _ (.inl Y) q,(o,k _ _ (.inl Y) e),st)
theorem gG.lt(x:gG P w H h)(e:H a=U o):a<h.10:=(x a o e).lt
theorem gG.fresh(x:gG P w H h)(e:h.10<=a):H a=J:=by
 cases q:H a with
 |none=>rfl
 |some u=>show absurd (zX (x.lt q) e) (zy _)
theorem gG.kept(x:gG P w H h)(k:∀b u,h.13 b=U u->h'.13 b=U u):gG P w H h':=λa o e=>
 (x a o e).ie (λb u _ q=>k b u q) (λ_ q=>q) λ_ _ q=>q
theorem gG.laid(x:gG P w H h)(k:∀b u,h.13 b=U u->f.13 b=U u)(j:h.10<=a)(new:fY P w (upd H a o) f a o):gG P w (upd H a o) f:=λb u e=>by
 let d:=x.fresh j;by_cases i:b=a
 ·subst i;rw[dG]at e;cases e;show new
 ·rw[AE i]at e;show(x b u e).ie (λc v _ q=>k c v q) (λc q=>by rwa[AE (AK q d)]) λc l q=>by rwa[AE (AK q d)]
def Rd(H:Hp)(a:l7)(u:HO):Prop:=H a=U u\/∃o,H a=U (.gj o u)
theorem Rd.ok(r:Rd H a u)(x:gG P w H h):fY P w H h a u:=by
 let r||(o,r):=r
 ·show x a u r
 ·let(_,q):=x a _ r;show q
def Mut:Option HO->Prop
 |some (.lst _)=>True
 |some (.dK _)=>True
 |some (.dT _)=>True
 |some (.set _ _)=>True
 |some (.ins _ _ _)=>True
 |some (.ext _)=>True
 |_=>False
theorem gG.write(ok:gG P w H h)(t:Mut (H x))(C:e=x\/H e=U (.own x))(k:∀b u,b≠e->h.13 b=U u->f.13 b=U u)(j:∃u,f.13 e=U u)
  (new:fY P w (upd H x l) f x l):gG P w (upd H x l) f:=λb u q=>by
 let d:∀c y,H c=U (.own y)->c≠x:=λc y r z=>by subst z;rwa[r]at t
 let a:∀c i,H c=U (.tup i)->c≠x:=λc i r z=>by subst z;rwa[r]at t
 by_cases o:b=x
 ·subst o;rw[dG]at q;cases q;show new
 ·rw[AE o]at q;by_cases D:b=e
  ·have p:H b=U (.own x):=by
    let z||z:=C
    ·ext
    ·ext
   rw[q]at p;cases p;let(v,E):=j;show(v,by ext)
  ·show(ok b u q).ie (λc v F r=>k c v ?_ r) (λc r=>by rwa[AE (d c b r)]) λc i r=>by rwa[AE (a c i r)]
   grind
structure Un(fs ex:List l7)(H H':Hp)(h h':Heap):Prop where
 keep:∀b o,h.13 b=U o->H b=J->b∉ fs->b∉ ex->h'.13 b=U o
 slot:∀b o,h.13 b=U o->H b=J->b∈fs->b∉ ex->∃sl,h'.13 b=U {o with slots:=sl}
 free:∀b o,h.13 b=U o->H b=J->b∉ ex->H' b=J
 there:∀b o,h.13 b=U o->b∉ ex->∃d,h'.13 b=U d
 iy:∀b xs,H b=U (.tup xs)->H' b=U (.tup xs)
 ij:∀b o u,H b=U (.gj o u)->H' b=U (.gj o u)
 ib:∀b ps,H b=U (.hZ ps)->∃more,H' b=U (.hZ (ps++more))
theorem Un.any(u:Un fs f H i h g)(q:h.13 b=U a)(n:H b=J)(e:b∉ f):∃sl,g.13 b=U {a with slots:=sl}:=by
 by_cases d:b∈fs
 ·show u.slot b a q n d e
 ·show(a.slots,u.34 b a q n d e)
theorem Un.kept(k:∀b u,h.13 b=U u->h'.13 b=U u):Un fs f H H h h':=
 (λb a q _ _ _=>k b a q,λb a q _ _ _=>(a.slots,k b a q),λ_ _ _ n _=>n,λb a q _=>(a,k b a q),λ_ _ q=>q,λ_ _ _ q=>q,λ_ d q=>(#[],by trivial))
theorem Un.refl:Un fs b H H h h:=Un.kept λ_ _ q=>q
theorem Un.laid(k:∀b u,h.13 b=U u->f.13 b=U u)(e:h.10<=a)(d:H a=J):Un fs g H (upd H a o) h f where
 keep:=λb u q _ _ _=>k b u q
 slot:=λb u q _ _ _=>(u.slots,k b u q)
 free:=λb u q n _=>by rwa[AE (zu (zX (lt_size q) e))]
 there:=λb u q _=>(u,k b u q)
 iy:=λb i q=>by rwa[AE (AK q d)]
 ij:=λb u i q=>by rwa[AE (AK q d)]
 ib:=λb j q=>(#[],by rw[AE (AK q d),q];simp)
theorem Un.write(l:Mut (H x))(t:e=x\/H e=U (.own x))(k:∀b u,b≠e->h.13 b=U u->f.13 b=U u)(i:∃u,f.13 e=U u):Un fs g H (upd H x o) h f:=by
 let p:∀b,H b=J->b≠x:=λb n z=>by subst z;rwa[n]at l
 let d:∀b,H b=J->b≠e:=λb n z=>by
  ext
 let a:∀b u,H b=U u->¬ Mut (U u)->b≠x:=λb u q r z=>by ext
 show(λb u q n _ _=>k b u (d b n) q,λb u q n _ _=>(u.slots,k b u (d b n) q),λb u q n _=>by rw[AE (p b n)];show n,λb u q _=>?_,
  λb j q=>by rw[AE (a b _ q λz=>z)];show q,λb u j q=>by rw[AE (a b _ q λz=>z)];show q,λb v q=>(#[],by rw[AE (a b _ q λz=>z),q];simp))
 grind
noncomputable def trk(h:Heap)(H:Hp):List l7:=(List.range h.10).30 λa=>(H a).26
def Lc(h:Heap)(H:Hp):Heap:=W.hideAll h (trk h H)
theorem RC(h)(H):(Lc h H).10=h.10:=W.hideAll_size _ _
theorem Si(e:h.13 b=U o)(n:H b=J):(Lc h H).13 b=U o:=
 W.hideAll_get _ e λa=>by
  let q:=(mem_filter.mp a).2;rw[n]at q;simp at q
theorem VQ(e:(Lc h H).13 b=U o):h.13 b=U o/\H b=J:=by
 let a:=W.of_hideAll (trk h H) e;show(a,?_);cases q:H b with
 |none=>rfl
 |some x=>
  let z:(Lc h H).13 b=J:=W.hideAll_none (trk h H) (mem_filter.53 (mem_range.53 (lt_size a),by simp[q]));rw[z]at e;cases e
structure Mod(K:FG)(mg:SV)(base:Heap):Prop where
 iL:K.In base
 glob:base.Ns mainGlobals mg
 blt:∃mb,base.Ns builtinsNs mb/\∀x:Str,x≠ mY -> mb x=bootBuiltins x
 nolimit:base.NoLimit
structure Cx where
 prog:Program
 w:World
 K:FG
 mg:Str->Option Value
 base:Heap
 A:Around
 N:lr
 f9:lG
 g8:Hp
 env:Env
 outer:List Env
 stack:List Env
 ex:List l7
 fn:Str->Bool
 calm:Bool
 pn:LO
 xe:Value->lG->Prop
noncomputable def gD(l:List Env):List l7:=l.76 (·.frame)
abbrev Cx.fs(X:Cx):List l7:=gD X.outer
def Vis(b:Scope)(x:Str):Prop:=b.12 x=U .local\/b.12 x=U .cell\/b.12 x=U .free
def Loc(b:Scope)(x:Str):Prop:=b.12 x=U .local\/b.12 x=U .cell
def ap(env:Env)(h:Heap)(m:SV)(x:Str)(u:Value):Prop:=
 (env.kindOf x=U .local/\m x=U u)\/((env.kindOf x=U .cell\/env.kindOf x=U .free)/\∃c,env.cells.8 x=U c/\h.IsCell c (U u))
structure Cx.Ok(X:Cx):Prop where
 mod:Mod X.K X.mg X.39
 kind:X.env.scope.kind=.function
 glob:X.env.globals=mainGlobals
 blt:X.env.builtins=builtinsNs
 above:X.f9.4<=X.17
 inj:∀x y c,X.19 x=U c->X.19 y=U c->x=y
 has:∀x,(X.env.kindOf x=U .cell\/X.env.kindOf x=U .free)->∃c,X.19 x=U c
 jH:∀x c,X.fn x=L->X.19 x=U c->X.f9.4<=c
 hd:X.calm=L->X.A.49=J
 frames:X.A.47=U X.33
 iJ:X.33=X.outer\/(X.33=X.21::X.outer/\X.env.frame=U X.17)
 exf:∀b∈X.ex,b≠X.17/\∀x c,X.19 x=U c->c≠b
 bs:∀b o,X.base.13 b=U o->X.f9.9 b=U o/\X.g8 b=J
 iR:X.base.10<=X.f9.4
 iF:∀b o,X.base.13 b=U o->b∉ X.ex
 iH:∀b∈X.ex,b∉ X.fs
 gz:X.f9.43 X.39 X.outer
 jf:∀b∈X.fs,X.g8 b=J
structure Inv(X:Cx)(db:LO)(σ:List (Option V))(H:Hp)(s:lG):Prop where
 ok:X.Ok
 os:s.os=X.f9.os
 bare:AllBare s.gens
 base:Un X.fs X.ex X.g8 H X.f9.15 s.15
 loc:∃m,s.heap.Ns X.17 m/\∀(i:Nat)x v,X.N[i]?=U x->σ[i]?=U (U v)->Vis X.28 x->∃u,RelV v u/\ap X.21 s.15 m x u
 cell:∀x c,X.19 x=U c->∃v,s.heap.IsCell c v
 free:H X.17=J
 gi:∀x c,X.19 x=U c->H c=J
 pin:∀p∈X.pn++db,s.9 p.1=U p.2/\H p.1=J/\p.1≠X.17/\p.1∉ X.fs/\∀v,p.2.38≠ .cell v
 eA:gG X.14 X.w H s.15
 len:σ.3=X.N.3
theorem Cx.Ok.nofr{X:Cx}(ok:X.Ok)(e:X.base.13 b=U o):b∉ X.fs:=λa=>by
 have:=(ok.gz.mem a).1;rw[e]at this;cases this
theorem Inv.bs(I:Inv X d f H s):∀b o,X.base.13 b=U o->s.9 b=U o/\H b=J:=λb o e=>
 (I.base.34 b o (I.ok.bs b o e).1 (I.ok.bs b o e).2 (I.ok.nofr e) (I.ok.iF b o e),I.base.free b o (I.ok.bs b o e).1 (I.ok.bs b o e).2 (I.ok.iF b o e))
theorem Inv.bk{X}{s}(I:Inv X d f H s):∀b o,X.base.13 b=U o->s.9 b=U o:=λb o e=>(I.bs b o e).1
theorem Inv.mod(I:Inv X b d H s):Mod X.K X.mg X.39:=I.ok.mod
theorem Inv.gq(I:Inv X b d H s):X.K.In s.15:=I.ok.mod.iL.79 I.bk
theorem Inv.fr(I:Inv X b d H s):∃m,Fr X.39 X.17 s.15 m:=
 let(m,a,_):=I.loc
 (m,a,I.bk,Nat.le_trans I.ok.iR I.72)
theorem Inv.lt(I:Inv X b d H s):X.17<s.4:=by let(_,a,_):=I.loc;show a.lt
theorem Inv.sz(I:Inv X b d H s):X.f9.4<=s.4:=Nat.le_trans I.72 (Nat.le_of_lt I.lt)
theorem Inv.nofs(I:Inv X b f H s)(h:s.4<=a):a∉ X.fs:=λd=>by
 let(_,o,e,_):=I.ok.gz.mem d;show absurd (zX (lt_size e) (Nat.le_trans I.sz h)) (zy _)
theorem Inv.jO(I:Inv X b f H s):∀x c,X.19 x=U c->c≠X.17:=λx c e z=>by
 let(v,o,l,j):=I.cell x c e;let(m,(h,i,ep,a,d,_),_):=I.loc
 ext
theorem Inv.gz(I:Inv X f g H s):s.43 X.39 X.outer:=by
 let all:∀l,(∀b∈gD l,b∈X.fs)->X.f9.43 X.39 l->s.43 X.39 l:=by
  intro l;induction l with
  |nil=>intro _ _;trivial
  |cons q r x=>
   rintro i ⟨p,⟨m,o,h,j,v,u⟩,t⟩;let d:=i m (by unfold gD;ext);let(sl,e):=I.base.slot m o v (I.ok.jf m d) d λz=>I.ok.iH m z d;show(p,(m,_,h,j,e,u),x (λb a=>i b (by unfold gD;rw[zI,h];show zN _ a)) t)
 show all X.outer (λ_ a=>a) I.ok.gz
theorem Inv.stack(I:Inv X b f H s):s.43 X.39 X.33:=by
 let e||(e,d):=I.ok.iJ
 ·rw[e];show I.gz
 ·rw[e];let(m,a,_):=I.loc;show .cons (by rw[I.ok.kind];decide) d a (Heap.get?_none_of_le (Nat.le_trans I.ok.iR I.72)) I.gz
theorem Inv.gR(I:Inv X f g H s):∀b∈gD X.33,b∈X.17::X.fs:=λb a=>by
 let e||(e,d):=I.ok.iJ
 ·ext
 ·rw[e]at a;unfold gD at a
  rwa[zI,d]at a
theorem Inv.stkFree(I:Inv X f g H s):∀b∈gD X.33,H b=J:=λb a=>by
 let e||a:=mem_cons.mp (I.gR b a)
 ·rw[e];show I.free
 ·let(_,o,d,_):=I.ok.gz.mem a;show I.base.free b o d (I.ok.jf b a) λz=>I.ok.iH b z a
theorem Inv.step{i}{H G}{s}{f}{g}{t'}{w}{ch:List l7}(I:Inv X y i H s)
  (j:∀b∈ch,(b∈X.ex\/X.f9.4<=b)/\b≠X.17/\(∀x c,X.19 x=U c->c≠b)/\∀p∈X.pn++y,p.1≠b)
  (keep:∀b o,b≠X.17->b∉ X.fs->b∉ ch->s.9 b=U o->H b=J->f.13 b=U o)
  (t:∀b o,b≠X.17->b∈X.fs->b∉ ch->s.9 b=U o->H b=J->∃sl,f.13 b=U {o with slots:=sl}) (h:∀b o,b∉ ch->s.9 b=U o->H b=J->G b=J)
  (an:∀b o,b∉ ch->s.9 b=U o->∃Q,f.13 b=U Q)
  (N:∀b d,H b=U (.tup d)->G b=U (.tup d)) (q:∀b o u,H b=U (.gj o u)->G b=U (.gj o u)) (ib:∀b R,H b=U (.hZ R)->∃more,G b=U (.hZ (R++more)))
  (ns:∀m,s.heap.Ns X.17 m->f.Ns X.17 m) (r:gG X.14 X.w G f) (A:AllBare g):
  Inv X y i G {s with heap:=f,gens:=g,drawn:=w,toks:=t'}:=by
 let P:∀b o,X.f9.9 b=U o->b≠X.17:=λb o e=>zu (zX (lt_size e) I.72)
 let E:∀b o,X.f9.9 b=U o->b∉ X.ex->b∉ ch:=λb o e a D=>by
  let z||z:=(j b D).1
  ·show a z
  ·show absurd (zX (lt_size e) z) (zy _)
 let C:∀x c,X.19 x=U c->∀v,s.heap.IsCell c v->f.IsCell c v:=λx c e v (o,B,T)=>by
  let M:=λz=>(j c z).2.2.1 x c e rfl;by_cases S:c∈X.fs
  ·let(sl,ag):=t c o (I.jO x c e) S M B (I.gi x c e);show(_,ag,T)
  ·show(o,keep c o (I.jO x c e) S M B (I.gi x c e),T)
 show(I.ok,I.os,A,(λb o e n D a=>?_,λb o e n D a=>?_,λb o e n a=>?_,λb o e a=>?_,λb d e=>N b d (I.base.iy b d e),λb o d e=>q b o d (I.base.ij b o d e),λb R e=>?_),?_,λx c e=>?_,?_,λx c e=>?_,λp hp=>?_,r,I.61)
 ·show keep b o (P b o e) D (E b o e a) (I.base.34 b o e n D a) (I.base.free b o e n a)
 ·let(sl,F):=I.base.slot b o e n D a;let(sl',e2):=t b _ (P b o e) D (E b o e a) F (I.base.free b o e n a)
  ext
 ·let(Q,F):=I.base.there b o e a;show h b Q (E b o e a) F (I.base.free b o e n a)
 ·let(Q,F):=I.base.there b o e a
  ext
 ·let(m1,F):=I.base.ib b R e
  grind
 ·let(m,hn,hl):=I.loc;show(m,ns m hn,λab x v F e2 e3=>?_);let(u,al,l):=hl ab x v F e2 e3;show(u,al,?_);let l||(k,c,e,z):=l
  ·show .inl l
  ·show .inr (k,c,e,C x c e _ z)
 ·let(v,z):=I.cell x c e
  grind
 ·let(m,(o,_,_,B,_),_):=I.loc;show h _ o (λz=>(j _ z).2.1 Y) B I.free
 ·let(v,o,B,T):=I.cell x c e;show h c o (λz=>(j c z).2.2.1 x c e Y) B (I.gi x c e)
 ·let(e,n,ne,nf,ar):=I.pin p hp
  grind
theorem Inv.un(I:Inv X w A H s)(u:Un X.fs [] H f s.15 g)(j:gG X.14 X.w f g):Inv X w A f {s with heap:=g,toks:=t'}:=by
 let(m,(o,y,ep,l,r),_):=id I.loc;let(sl,q):=u.any l I.free (_)
 show I.step (ch:=[]) (λ_ z=>nomatch z) (λb o _ i _ e n=>u.34 b o e n i (_)) (λb o _ i _ e n=>u.slot b o e n i (_)) (λb o _ e n=>u.free b o e n (_)) (λb o _ e=>u.there b o e (_)) u.iy u.ij u.ib (λv t=>by
  let(x,h,d,a,p):=t;rw[l]at a;cases a
  show(_,h,d,q,p)) j I.73
theorem Inv.call(I:Inv X a B H s)(u:Un (gD X.33) w H f s.15 g)(t:gG X.14 X.w f g)(D:AllBare A)
  (i:∀b∈w,(b∈X.ex\/X.f9.4<=b)/\b≠X.17/\(∀x c,X.19 x=U c->c≠b)/\∀p∈X.pn++a,p.1≠b):
  Inv X a B f {s with heap:=g,gens:=A,drawn:=M,toks:=N}:=by
 let(m,(o,G,ep,v,r),_):=id I.loc;let(sl,j):=u.any v I.free λz=>(i _ z).2.1 rfl
 show I.step i (λb o j y d e n=>u.34 b o e n (λz=>(mem_cons.mp (I.gR b z)).40 j y) d) (λb o _ _ d e n=>u.any e n d) (λb o d e n=>u.free b o e n d) (λb o d e=>u.there b o e d) u.iy u.ij u.ib (λP C=>by
  let(F,q,l,h,E):=C;rw[v]at h;cases h
  show(_,q,l,j,E)) t D
theorem Inv.turned(I:Inv X a w H s)(k:∀b o,b≠f->s.9 b=U o->g.13 b=U o)(F:H f=J)(i:f≠X.17)
  (C:f∈X.ex\/X.f9.4<=f) (t:∀x c,X.19 x=U c->c≠f) (E:∀p∈X.pn++a,p.1≠f):Inv X a w H {s with heap:=g,toks:=t'}:=by
 show I.step (ch:=[f]) (λb y=>?_) (λb o _ _ d e _=>k b o (λz=>d (by simp[z])) e) (λb o _ _ d e _=>(o.slots,k b o (λz=>d (by simp[z])) e)) (λ_ _ _ _ n=>n)
  (λb o d e=>(o,k b o (λz=>d (by simp[z])) e)) (λ_ _ e=>e) (λ_ _ _ e=>e) (λb D e=>(#[],by trivial)) (λm j=>?_) (λb u e=>?_) I.73
 ·grind
 ·let(o,h,ep,l,r):=j;show(o,h,ep,k _ o (Ne.symm i) l,r)
 ·show(I.eA b u e).ie (λc v d q=>k c v ?_ q) (λ_ q=>q) λ_ _ q=>q
  grind
theorem Inv.tok(I:Inv X b d H s)(t):Inv X b d H {s with toks:=t}:=I.un Un.refl I.eA
theorem Inv.kept(I:Inv X d f H s)(k:∀b u,s.9 b=U u->h'.13 b=U u):Inv X d f H {s with heap:=h',toks:=t'}:=I.un (Un.kept k) (I.eA.75 k)
theorem Inv.laid(I:Inv X g h H s)(k:∀b u,s.9 b=U u->f.13 b=U u)(d:s.4<=a)(new:fY X.14 X.w (upd H a o) f a o):
  Inv X g h (upd H a o) {s with heap:=f,toks:=t'}:=I.un (Un.laid k d (I.18 d)) (I.eA.laid k d new)
theorem Inv.write(I:Inv X g i H s)(h:Mut (H x))(d:e=x\/H e=U (.own x))(k:∀b u,b≠e->s.9 b=U u->f.13 b=U u)(a:∃u,f.13 e=U u)
  (new:fY X.14 X.w (upd H x o) f x o):Inv X g i (upd H x o) {s with heap:=f,toks:=t'}:=I.un (Un.write h d k a) (I.eA.write h d k a new)
theorem Inv.weak(I:Inv X f b H s)(h:a.3=b.3)(w:∀(i:Nat)v,a[i]?=U (U v)->b[i]?=U (U v)):Inv X f a H s:=
 (I.ok,I.os,I.73,I.39,by let(m,l,d):=I.loc;show (m,l,λi x v e j o=>d i x v e (w i v j) o),I.cell,I.free,I.gi,I.pin,I.eA,h.7 I.61)
theorem Inv.pins_of(I:Inv X f b H s)(h:∀p∈a,s.9 p.1=U p.2/\H p.1=J/\p.1≠X.17/\p.1∉ X.fs/\∀v,p.2.38≠ .cell v):Inv X a b H s:=
 (I.ok,I.os,I.73,I.39,I.loc,I.cell,I.free,I.gi,λp d=>(mem_append.mp d).40 (λz=>I.pin p (_)) (h p),I.eA,I.61)
theorem Mv{N:lr}(h:N.29){i j:Nat}{x}(a:N[i]?=U x)(b:N[j]?=U x):i=j:=by
 let(o,d):=z8.mp a;let(l,e):=z8.mp b;show(List.getElem_inj h).mp (d.7 e.35)
theorem Ki(I:Inv X db w H s)(m:X.N.29)(f:X.N[i]?=U x)(D:Loc X.28 x)(r:RelV v u)
  (h:∀g,Inv X db (w.set i (U v)) H g->(∃a,Heap.SameBut a s.15 g.15/\(a=X.17\/X.19 x=U a))->Q Unit.unit g) (hf:X.fn x=L\/X.24 x=U .local:=by first|show .inl rfl|show .inr rfl|assumption):wpAny az ar (storeName X.21 x u) Q as s:=by
 let(an,hn,hl):=id I.loc;let T:(X.env.scope.kind == .class||(X.env.scope.kind == .module&&X.17 != X.env.globals))=im:=by rw[I.ok.kind];rfl
 let ab:i<w.3:=by rw[I.61];show(z8.mp f).1
 let jO:=I.jO
 let t:∀{a:l7}{S:Heap},(∃o,s.9 a=U o/\H a=gt)->Heap.SameBut a s.15 S->gG X.14 X.w H S:=λ{a S}ha l b ob e=>by
  let(_,_,hfree):=ha;show(I.eA b ob e).ie (λc w' F q=>(l.2 c ?_).7 q) (λ_ q=>q) λ_ _ q=>q
  grind
 let R||R:=D
 ·show wpAny_storeName_local R hn (λS al l=>?_) T;let(oL,_,_,hoL,_):=id hn;show h _ (I.ok,I.os,I.73,(λb o e n A D=>?_,λb o e n A D=>?_,I.base.free,λb o e D=>?_,I.base.iy,I.base.ij,I.base.ib),(_,al,λj y v' C G M=>?_),λy c e=>?_,I.free,I.gi,λp P=>?_,t (oL,hoL,I.free) l,by simpa using I.61) (_,l,.inl zd)
  ·show(l.2 b (zu (zX (lt_size e) I.72))).7 (I.base.34 b o e n A D)
  ·let(sl,C):=I.base.slot b o e n A D;show(sl,(l.2 b (zu (zX (lt_size e) I.72))).7 C)
  ·let(o',C):=I.base.there b o e D;show(o',(l.2 b (zu (zX (lt_size e) I.72))).7 C)
  ·by_cases N:j=i
   ·subst N;rw[f]at C;cases C;rw[List.getElem?_set_self ab]at G;cases G;show(u,r,.inl (R,by simp))
   ·rw[List.getElem?_set_ne (Ne.symm N)]at G;let(u',r',q):=hl j y v' C G M;show(u',r',?_);let(k,e)||(k,c,e,z):=q
    ·show .inl (k,?_);have:y≠x:=λe=>N (Mv m C (e ▸ f));simp[this,e]
    ·show .inr (k,c,e,z.sameBut l (jO y c e))
  ·let(w',z):=I.cell y c e;show(w',z.sameBut l (jO y c e))
  ·let(e,n,Z,nf,d):=I.pin p P;show((l.2 p.1 Z).7 e,n,Z,nf,d)
 ·have E:X.fn x=L:=by
   let z||z:=hf
   ·show z
   ·ext
  let(c,F):=I.ok.has x (.inl R);let(w',z):=I.cell x c F;show wpAny_storeName_cell I.ok.kind R F z (λS jw l=>?_);let(oc,hoc,hocd):=id z;show h {s with heap:=S} (I.ok,I.os,I.73,(λb o e n A D=>?_,λb o e n A D=>?_,I.base.free,λb o e D=>?_,I.base.iy,I.base.ij,I.base.ib),(an,hn.sameBut l (_),λj y v' C G M=>?_),λy B e=>?_,I.free,I.gi,λp P=>?_,t (oc,hoc,I.gi x c F) l,by simpa using I.61) (c,l,.inr F)
  ·show(l.2 b (zu (zX (lt_size e) (I.ok.jH x c E F)))).7 (I.base.34 b o e n A D)
  ·let(sl,C):=I.base.slot b o e n A D;show(sl,(l.2 b (zu (zX (lt_size e) (I.ok.jH x c E F)))).7 C)
  ·let(o',C):=I.base.there b o e D;show(o',(l.2 b (zu (zX (lt_size e) (I.ok.jH x c E F)))).7 C)
  ·by_cases N:j=i
   ·subst N;rw[f]at C;cases C;rw[List.getElem?_set_self ab]at G;cases G;show(u,r,.inr (.inl R,c,F,jw))
   ·rw[List.getElem?_set_ne (Ne.symm N)]at G;let(u',r',q):=hl j y v' C G M;show(u',r',?_);let q||(k,B,e,z'):=q
    ·show .inl q
    ·show .inr (k,B,e,z'.sameBut l ?_);rintro rfl;show N (Mv m C (I.ok.inj _ _ _ e F ▸ f))
  ·by_cases ag:B=c
   ·grind
   ·let(w2,z2):=I.cell y B e;show(w2,z2.sameBut l ag)
  ·let(e,n,Z,nf,d):=I.pin p P;show((l.2 p.1 ?_).7 e,n,Z,nf,d)
   grind
theorem CO(I:Inv X b f H s)(l:X.N.29)(e:X.N[i]?=U x)(o:Loc X.28 x)(r:RelV v u)
  (h:∀a,Inv X b (f.set i (U v)) H a->Q Unit.unit a) (d:X.fn x=L\/X.24 x=U .local:=by first|show .inl rfl|show .inr rfl|assumption):wpAny M A (storeName X.21 x u) Q E s:=
 Ki I l e o r (λa j _=>h a j) d
theorem Inv.call'(I:Inv X a v H s)(i:f.os=s.os)(u:Un (gD X.33) m H g s.15 f.15)(d:gG X.14 X.w g f.15)(h:AllBare f.gens)
  (e:∀b∈m,(b∈X.ex\/X.f9.4<=b)/\b≠X.17/\(∀x c,X.19 x=U c->c≠b)/\∀p∈X.pn++a,p.1≠b):Inv X a v g f:=by
 let(q,l,o,r,j):=f;subst i;show I.call u d h e
abbrev XK:=Value->Option l7->Hp->Prop
abbrev St:=List (Option V)
abbrev VK:=V->Hp->Prop
abbrev TE:=St->Hp->VK->Prop
abbrev TT:=St->Hp->(Bool->Hp->Prop)->Prop
abbrev TA:=St->Hp->(ly->Hp->Prop)->Prop
structure KR where
 nx:St->Hp->Prop
 rt:VK
 bk:St->Hp->Prop:=λ_ _=>False
 ct:St->Hp->Prop:=λ_ _=>False
abbrev TS:=KR->St->Hp->Prop
inductive EP(X:Cx)(b:LO)(f:St)(Q:VK)(u:Value)(d:lG):Prop
 |mk (v) (H') (i:Inv X b f H' d) (r:RelV v u) (q:Q v H'):EP X b f Q u d
def TP(X:Cx)(d:LO)(g:St)(Q:Bool->Hp->Prop)(b:Bool)(f:lG):Prop:=∃h,Inv X d g h f/\Q b h
inductive AP(X:Cx)(b:LO)(g:St)(Q:ly->Hp->Prop)(f:lx)(d:lG):Prop
 |mk (vs) (H') (i:Inv X b g H' d) (r:Vals vs f) (q:Q vs H'):AP X b g Q f d
def SP(X:Cx)(b:LO)(D:KR)(f:Flow)(d:lG):Prop:=
 match f with
 |.next=>∃h g,Inv X b h g d/\D.nx h g
 |.brk=>∃h g,Inv X b h g d/\D.bk h g
 |.cont=>∃h g,Inv X b h g d/\D.ct h g
 |.ret u=>∃v h g,Inv X b h g d/\RelV v u/\D.rt v g
abbrev gm(X:Cx){b:Type}(t:PySem.Sem b):=PySem.wpAny (PySem.model X.14 X.w) X.A t
def PE(X:Cx)(e:Expr)(t:TE):Prop:=
 ∀d s(b:St)H Q,Inv X d b H s->t b H Q->gm X (eval e X.21) (EP X d b Q) X.xe s
def PT(X:Cx)(e:Expr)(t:TT):Prop:=
 ∀d s(b:St)H Q,Inv X d b H s->t b H Q->gm X (isTrue e X.21 (eval e X.21)) (TP X d b Q) X.xe s
def PW(X:Cx)(e:Expr)(t:TT):Prop:=
 ∀f d s(b:St)H Q,Inv X d b H s->t b H Q->gm X (isTrue e X.21 f) (TP X d b Q) X.xe s
theorem PW.pt(h:PW X e t):PT X e t:=h _
def PA(X:Cx)(b:List Expr)(t:TA):Prop:=
 ∀g f s(d:St)H Q,Inv X f d H s->t d H Q->gm X (spliced (backTo g (starEach b X.21))) (AP X f d Q) X.xe s
def PS(X:Cx)(st:Stmt)(t:TS):Prop:=
 ∀b s(d:St)H D,Inv X b d H s->t D d H->gm X (exec st X.21) (SP X b D) X.xe s
def hA(X:Cx)(st:List Stmt)(t:TS):Prop:=
 ∀b s(d:St)H D,Inv X b d H s->t D d H->gm X (execs st X.21) (SP X b D) X.xe s
theorem eI{b}{t:Sem b}{Q d}(h:wpAny M A t Q E s)(e:∀a s,Q a s->d a s):wpAny M A t d E s:=zm h e λ_ _ x=>x
inductive ExV(o:Option (Option V))(k:V->Prop):Prop
 |mk (v) (h:o=U (U v)) (q:k v):ExV o k
inductive ExB(x:V)(k:Bool->Prop):Prop
 |mk (c) (h:x=.bl c) (q:k c):ExB x k
inductive ExI(x y:V)(k:Int->Int->Prop):Prop
 |mk (i j) (h:x=.int i) (b:y=.int j) (q:k i j):ExI x y k
def Ld(i:Nat):TE:=λb H Q=>ExV b[i]? λv=>Q v H
def tC(v:V):TE:=λ_ H Q=>Q v H
abbrev iw(x:PySem.Str):Prop:=(x==("__debug__":PySem.Str))=O
theorem Sj(C:X.N[i]?=U x)(y:Vis X.28 x)(q:iw x:=by decide)(p:(x==(qh:Str))=O:=by decide):PE X (.Name x b) (Ld i):=by
 rintro o s F H Q I ⟨v,e,h⟩;let(m,D,z):=I.loc;let(u,r,l):=z i x v C e y;let d:EP X o F Q u s:=(v,H,I,r,h);let(j,E)||(j,c,t,a):=l
 ·show wpAny_Name (wpAny_loadName_local I.ok.kind j D E d) q
 ·let j||j:=j
  ·show wpAny_Name (wpAny_loadName_cell I.ok.kind j t a d) q
  ·show wpAny_Name (wpAny_loadName_free I.ok.kind j t a d p) q
theorem AF:PE X (.Constant (.int i) j b) (tC (.int i)):=λ_ _ _ H _ I h=>wpAny_Constant_int (.int i,H,I.tok _,(_,rfl),h)
theorem Cf:PE X (.Constant (.bool b) j d) (tC (.bl b)):=λ_ _ _ H _ I h=>Constant_bool (.bl b,H,I,rfl,h)
theorem C6:PE X (.Constant .none j b) (tC .eJ):=λ_ _ _ H _ I h=>Constant_none (.eJ,H,I,rfl,h)
theorem AL:PE X (.Constant (.str x) j b) (tC (.str x)):=λ_ _ _ H _ I h=>Calls.Constant_str (.str x,H,I.tok _,(_,rfl),h)
def Gl(X:Cx)(x:Str):Prop:=X.env.kindOf x=U .globalImplicit
theorem CP(I:Inv X b g H s)(a:Gl X x)(e:X.mg x=U u)(h:Q u s)
  (d:iw x:=by decide):gm X (eval (.Name x f) X.21) Q E s:=
 Calls.Name_function_global I.ok.kind a (Calls.loadGlobal_global (by rw[I.ok.glob];show I.mod.glob.79 I.bk) e h) d
theorem F3(I:Inv X b g H s)(a:Gl X x)(l:X.mg x=J)(d:bootBuiltins x=U u)(h:Q u s)
  (i:x≠ mY:=by decide) (j:iw x:=by decide):gm X (eval (.Name x f) X.21) Q E s:=by
 let(p,o,e):=I.mod.blt;show Calls.Name_function_global I.ok.kind a (Calls.loadGlobal_builtin (by rw[I.ok.glob];show I.mod.glob.79 I.bk) l (by rw[I.ok.blt];show o.79 I.bk) ((e x i).7 d) h) j
theorem BA(a:Gl X x)(e:X.mg x=U u)(r:RelV v u)(d:iw x:=by decide):PE X (.Name x b) (tC v):=
 λ_ _ _ H _ I h=>CP I a e (v,H,I,r,h) d
theorem D6(a:Gl X x)(j:X.mg x=J)(d:bootBuiltins x=U u)(r:RelV v u)(e:x≠ mY:=by decide)(i:iw x:=by decide):PE X (.Name x b) (tC v):=
 λ_ _ _ H _ I h=>F3 I a j d (v,H,I,r,h) e i
def PC(X:Cx)(d:CmpOp)(a b:Expr)(t:TE):Prop:=
 ∀g s(f:St)H Q,Inv X g f H s->t f H Q ->
  gm X (eval a X.21) (λv h=>gm X (eval b X.21) (λu i=>gm X (compareOp d v u) (EP X g f Q) X.xe i) X.xe h) X.xe s
theorem Mw(b)(h:f≠ .In)(e:f≠ .NotIn):behindInMarks f b=O:=by
 let a:(f==CmpOp.In)=O:=by cases f<;>first|rfl|trivial
 let d:(f==CmpOp.NotIn)=O:=by cases f<;>first|rfl|trivial
 cases b<;>simp[behindInMarks,a,d]
def aq(b:TE):TE:=λf H Q=>b f H λx d=>Q (.bl (decide (x=.eJ))) d
def Yy(b:TE):TE:=λf H Q=>b f H λx d=>Q (.bl (!decide (x=.eJ))) d
theorem RelV.none_iff(r:RelV x v):(v==Value.none)=decide (x=.eJ):=by
 cases x with
 |eJ=>cases r;rfl
 |bl _=>cases r;rfl
 |int _=>let(t,rfl):=r;rfl
 |str _=>let(t,rfl):=r;rfl
 |jx _=>let(t,rfl):=r;rfl
 |j8 _=>let(t,rfl):=r;rfl
 |ref _=>cases r;rfl
 |ty _=>cases r;rfl
theorem Le(q:PE X a i):PC X .Is a (.Constant .none j b) (aq i):=by
 intro d s p H Q I h;show eI (q d s p H _ I h) λv r z=>by let(x,l,e,o,q1):=z;show Constant_none (is_none_gen (.bl _,l,e,by rw[o.none_iff];rfl,q1))
theorem VR(q:PE X a i):PC X .IsNot a (.Constant .none j b) (Yy i):=by
 intro d s p H Q I h;show eI (q d s p H _ I h) λv r z=>by let(x,l,e,o,q1):=z;show Constant_none (isnot_none_gen (.bl _,l,e,by rw[o.none_iff];rfl,q1))
def tB(t:TE):TT:=λd H Q=>t d H λx b=>ExB x λc=>Q c b
theorem OW(h:PC X f a b t)(j:behindInMarks f b=O:=by first|show Mw _ qc qc|rfl):PE X (.Compare a [f] [b] g) t:=λd s e H Q I i=>wpAny_Compare1 (h d s e H Q I i) j
theorem Do(h:PC X f a b t)(i:behindInMarks f b=O:=by first|show Mw _ qc qc|rfl):PT X (.Compare a [f] [b] g) (tB t):=by
 intro e s y H Q I l;show wpAny_isTrue_Compare1 (eI (h e s y H _ I l) λv C i=>eI i λu z j=>eI j λc D w=>?_) i;let(x,r,o,p,q1):=w;let(d,rfl,q):=q1;cases p;show zV (r,o,q)
theorem Ai(h:PE X e t)(j:∀a,isTrue e X.21 a=(do let v ←a;standAt e.pos;holding [v] (truthy v)):=by intro _;rfl):PT X e (tB t):=by
 intro i s r H Q I u;show isTrue_plain (eI (h i s r H _ I u) λv y z=>?_) (j _);let(x,o,l,p,q1):=z;let(d,rfl,q):=q1;cases p;show zV (o,l,q)
def Yz(t u:TT):TT:=λd H Q=>t d H λc b=>if c=L then u d b Q else Q O b
def tOr(t u:TT):TT:=λd H Q=>t d H λc b=>if c=L then Q L b else u d b Q
def au(t:TT):TT:=λd H Q=>t d H λc b=>Q (!c) b
theorem Bv(l:PT X a i):PW X (.BoolOp .And [a] b) i:=by
 intro p d s j H Q I h;show isTrue_and (eI (l d s j H Q I h) λc o e=>?_);cases c with
 |true=>show isTrue_and_nil e
 |false=>show e
theorem Bc(l:PT X a i):PW X (.BoolOp .Or [a] b) i:=by
 intro p d s j H Q I h;show isTrue_or (eI (l d s j H Q I h) λc o e=>?_);cases c with
 |false=>show isTrue_or_nil e
 |true=>show e
theorem Ci(t:PT X a q)(r:PW X (.BoolOp .And (b::g) f) e):PW X (.BoolOp .And (a::b::g) f) (Yz q e):=by
 intro p d s l H Q I h;show isTrue_and (eI (t d s l H _ I h) λc o z=>?_);let(j,i,q1):=z;cases c with
 |true=>show r p d o l j Q i q1
 |false=>show(j,i,q1)
theorem B8(t:PT X a q)(r:PW X (.BoolOp .Or (b::g) f) e):PW X (.BoolOp .Or (a::b::g) f) (tOr q e):=by
 intro p d s l H Q I h;show isTrue_or (eI (t d s l H _ I h) λc o z=>?_);let(j,i,q1):=z;cases c with
 |true=>show(j,i,q1)
 |false=>show r p d o l j Q i q1
theorem Ao(l:PT X a e):PT X (.UnaryOp .Not a b) (au e):=by
 intro d s j H Q I h;show isTrue_not (l d s j H (λc i=>Q (!c) i) I h)
def Y0(b d:TE):TE:=λg H Q=>b g H λx f=>ExB x λc=>if c=L then d g f Q else Q (.bl O) f
def av(b d:TE):TE:=λg H Q=>b g H λx f=>ExB x λc=>if c=L then Q (.bl L) f else d g f Q
def Y1(b:TE):TE:=λf H Q=>b f H λx d=>ExB x λc=>Q (.bl (!c)) d
theorem Cj(h:PE X a t):PE X (.BoolOp b [a] f) t:=λd s e H Q I i=>BoolOp_one (h d s e H Q I i)
theorem CI(r:PE X a o)(p:PE X (.BoolOp .And (b::g) f) m):PE X (.BoolOp .And (a::b::g) f) (Y0 o m):=by
 intro d s j H Q I h;show BoolOp_and (eI (r d s j H _ I h) λv l z=>?_);let(x,i,e,q,q1):=z;let(c,rfl,q1):=q1;cases q;apply zV;cases c with
 |true=>show p d l j i Q e q1
 |false=>show(.bl O,i,e,rfl,q1)
theorem XB(r:PE X a o)(p:PE X (.BoolOp .Or (b::g) f) m):PE X (.BoolOp .Or (a::b::g) f) (av o m):=by
 intro d s j H Q I h;show BoolOp_or (eI (r d s j H _ I h) λv l z=>?_);let(x,i,e,q,q1):=z;let(c,rfl,q1):=q1;cases q;apply zV;cases c with
 |false=>show p d l j i Q e q1
 |true=>show(.bl L,i,e,rfl,q1)
theorem Sl(p:PE X a i):PE X (.UnaryOp .Not a b) (Y1 i):=by
 intro d s o H Q I h;show UnaryOp_ (eI (p d s o H _ I h) λv q z=>?_);let(x,j,e,l,q1):=z;let(c,rfl,q1):=q1;cases l;show not_of (zV (.bl (!c),j,e,Y,q1))
def tIf(t:TT)(b d:TE):TE:=λf H Q=>t f H λc g=>if c=L then b f g Q else d f g Q
theorem Bi(r:PT X c p)(u:PE X a q)(t:PE X b f):PE X (.IfExp c a b g) (tIf p q f):=by
 intro e s i H Q I h;show wpAny_IfExp (eI (r e s i H _ I h) λd j z=>?_);let(o,l,q1):=z;cases d with
 |true=>show u e j i o Q l q1
 |false=>show t e j i o Q l q1
def dY(d:FG)(H:Hp)(a:l7)(b:ly):Prop:=
 Rd H a (.lst b) \/
  ∃(o:Obj)(f:Array Value)(n:Nat),d.8 a=U o/\o.78=.type md /\ o.dict=J/\o.38=.seq f n/\f.27<=sizeLine/\Vals b f.37
def eO(d:FG)(H:Hp)(a:l7)(b:ly):Prop:=
 Rd H a (.tup b) \/
  ∃(o:Obj)(f:Array Value)(n:Nat),d.8 a=U o/\o.78=.type mm /\ o.38=.seq f n/\f.27<=sizeLine/\Vals b f.37
noncomputable def aw:Value->Option V
 |.none=>U .eJ
 |.bool b=>U (.bl b)
 |.int i _=>U (.int i)
 |.str x _=>U (.str x)
 |.bytes b _=>U (.jx b)
 |.float b _=>U (.j8 b)
 |.ref a=>U (.ref a)
 |.type n=>U (.ty n)
 |_=>J
theorem RelV.abs(r:RelV x u):aw u=U x:=by
 cases x with
 |eJ=>cases r;rfl
 |bl _=>cases r;rfl
 |int _=>let(t,rfl):=r;rfl
 |str _=>let(t,rfl):=r;rfl
 |jx _=>let(t,rfl):=r;rfl
 |j8 _=>let(t,rfl):=r;rfl
 |ref _=>cases r;rfl
 |ty _=>cases r;rfl
theorem RelV.inj(r:RelV x u)(q:RelV y u):x=y:=Option.some.inj (r.abs.symm.7 q.abs)
theorem Vals.inj:∀{b f}{a},Vals b a->Vals f a->b=f
 |_,_,_,.nil,.nil=>rfl
 |_,_,_,.cons r t,.cons d e=>by rw[r.inj d,Vals.inj t e]
theorem dY.of(h:H a=U (.lst b)):dY d H a b:=.inl (.inl h)
theorem eO.of(h:H a=U (.tup b)):eO d H a b:=.inl (.inl h)
theorem Inv.list(I:Inv X g m H s)(h:dY X.K H a f):∃b,Vals f b/\PlainL s.15 a b.11/\f.3<=sizeLine:=by
 let h||(o,b,n,d,i,j,l,p,r):=h
 ·let(z,b,n,r,e):=h.ok I.eA;show(b,r,(_,n,e,Y,Y,Y),z)
 ·show(b.37,r,(o,n,I.gq a o d,i,j,qe),?_);let e:=r.3;simp at e
  lia
theorem Inv.tuple(I:Inv X g m H s)(h:eO X.K H a f):∃b,Vals f b/\IsTup s.15 a b.11/\f.3<=sizeLine:=by
 let h||(o,b,n,d,i,j,l,r):=h
 ·let(z,b,r,p):=h.ok I.eA
  grind
 ·show(b.37,r,(o,I.gq a o d,i,n,qe),?_);let e:=r.3;simp at e
  lia
theorem Inv.list_inj(I:Inv X m w H s)(h:dY X.K H a f)(b:dY X.K H a g):f=g:=by
 let(j,r,(o,n,e,_,_,d),_):=I.list h;let(i,t,(u,v,l,_,_,p),_):=I.list b;rw[e]at l;cases l;rw[d]at p;injection p with q _
 have:j=i:=by simpa using congrArg Array.toList q
 subst this;show r.inj t
theorem Inv.tuple_inj(I:Inv X m w H s)(h:eO X.K H a f)(b:eO X.K H a g):f=g:=by
 let(j,r,(o,e,_,n,d),_):=I.tuple h;let(i,t,(u,l,_,v,p),_):=I.tuple b;rw[e]at l;cases l;rw[d]at p;injection p with q _
 have:j=i:=by simpa using congrArg Array.toList q
 subst this;show r.inj t
noncomputable abbrev Cx.iC(X:Cx)(E:VS):Cx:={X with xe:=E}
abbrev Cx.jv(X:Cx):Cx:=X.iC λ_ _=>False
theorem Cx.Ok.iC{X:Cx}(ok:X.Ok)(E):(X.iC E).Ok:=
 (ok.mod,ok.kind,ok.glob,ok.blt,ok.above,ok.inj,ok.has,ok.jH,ok.hd,ok.47,ok.iJ,ok.exf,ok.bs,ok.iR,ok.iF,ok.iH,ok.gz,ok.jf)
theorem Cx.Ok.gQ{X:L2.Cx}(ok:(X.iC E).Ok):X.Ok:=
 (ok.mod,ok.kind,ok.glob,ok.blt,ok.above,ok.inj,ok.has,ok.jH,ok.hd,ok.47,ok.iJ,ok.exf,ok.bs,ok.iR,ok.iF,ok.iH,ok.gz,ok.jf)
theorem Inv.iC(I:Inv X b d H s)(E):Inv (X.iC E) b d H s:=(I.ok.iC E,I.os,I.73,I.39,I.loc,I.cell,I.free,I.gi,I.pin,I.eA,I.61)
theorem Inv.gQ(I:Inv (X.iC E) b d H s):Inv X b d H s:=(I.ok.gQ,I.os,I.73,I.39,I.loc,I.cell,I.free,I.gi,I.pin,I.eA,I.61)
theorem SP.gQ(h:SP (X.iC E) b D f g):SP X b D f g:=by
 cases f with
 |next=>let(a,d,I,q):=h;show(a,d,I.gQ,q)
 |brk=>let(a,d,I,q):=h;show(a,d,I.gQ,q)
 |cont=>let(a,d,I,q):=h;show(a,d,I.gQ,q)
 |ret u=>let(v,a,d,I,r,q):=h;show(v,a,d,I.gQ,r,q)
theorem hA.jv{X}{st}{t}(h:hA X.jv st t):hA X st t:=λa s d H D I e=>
 zm (h a s d H D (I.iC _) e) (λ_ _ q=>q.gQ) λ_ _ z=>False.elim z
def Sm:TS:=λD b H=>D.nx b H
def Xf(t u:TS):TS:=λD b H=>t {D with nx:=u D} b H
theorem AM:hA X [] Sm:=λ_ _ a H _ I h=>wpAny_execs_nil (a,H,I,h)
theorem AC{X}{u}{st}{a}{t}(r:PS X st t)(j:hA X a u):hA X (st::a) (Xf t u):=by
 intro d s l H D I h;show wpAny_execs_cons (eI (r d s l H {D with nx:=u D} I h) λf i q=>?_);cases f with
 |next=>
  let(e,p,o,q):=q;show j d i e p D o q
 |ret v=>show q
 |brk=>show q
 |cont=>show q
theorem AB{X}{st}{t}(e:PS X st t):hA X [st] t:=by
 intro a s d H D I h;show wpAny_execs_cons (eI (e a s d H D I h) λf i q=>?_);cases f with
 |next=>show wpAny_execs_nil q
 |ret v=>show q
 |brk=>show q
 |cont=>show q
theorem Inv.quiet(I:Inv X b d H s):interactive X.21=O:=by simp[interactive,I.ok.kind]
def XC(b:TE):TS:=λD d H=>b d H λ_ f=>D.nx d f
theorem Ae(i:PE X e g)(b:swapsWith e J f.68 X.21=pure O:=by rfl):PS X (.Expr e f) (XC g):=by
 intro a s d H D I h;show wpAny_Expr_any (eI (i a s d H _ I h) λv o z=>by let(x,l,j,p,q1):=z;show (d,l,j,q1)) I.quiet b
def Sn(b:TE):TS:=λD d H=>b d H D.rt
theorem AI(i:PE X e b):PS X (.Return (U e) f) (Sn b):=by
 intro a s d H D I h;show wpAny_Return_some (eI (i a s d H _ I h) λv p z=>by let(x,l,j,o,q1):=z;show (x,d,l,j,o,q1))
def Xg(c:TT)(t u:TS):TS:=λD d H=>c d H λb f=>if b=L then t D d f else u D d f
theorem AV(q:PT X c p)(v:hA X a t)(r:hA X b u):PS X (.If c a b f) (Xg p t u):=by
 intro e s i H D I h;show wpAny_If (eI (q e s i H _ I h) λd j z=>?_);let(o,l,q1):=z;cases d with
 |true=>show v e j i o D l q1
 |false=>show r e j i o D l q1
def So:TS:=λ_ _ _=>False
theorem AY{X}{st}:PS X st So:=λ_ _ _ _ _ _ h=>h.40
abbrev TG:=V->St->Hp->(St->Hp->Prop)->Prop
abbrev TGs:=ly->St->Hp->(St->Hp->Prop)->Prop
def PG(X:Cx)(b:Expr)(t:TG):Prop:=
 ∀f s(h:St)H v u Q,Inv X f h H s->RelV v u->t v h H Q ->
  gm X (assign b X.21 u) (λ_ i=>∃g d,Inv X f g d i/\Q g d) X.xe s
def PGs(X:Cx)(b:List Expr)(t:TGs):Prop:=
 ∀f s(i:St)H vs h Q,Inv X f i H s->Vals vs h->t vs i H Q ->
  gm X (assignInOrder ((assignEach b X.21).5 (·.2)) h) (λ_ j=>∃g d,Inv X f g d j/\Q g d) X.xe s
abbrev Y2:=V->V->V->Hp->(Hp->Prop)->Prop
def Y3(X:Cx)(t:Y2):Prop:=
 ∀d s(h:St)H o i v g f u Q,Inv X d h H s->RelV o g->RelV i f->RelV v u->t o i v H Q ->
  gm X (setItem g f u) (λ_ j=>∃b,Inv X d h b j/\Q b) X.xe s
abbrev TIp:=V->V->Hp->VK->Prop
def PIp(X:Cx)(b:Operator)(t:TIp):Prop:=
 ∀d s(f:St)H x y v u Q,Inv X d f H s->RelV x v->RelV y u->t x y H Q ->
  gm X (inplaceOp b v u) (EP X d f Q) X.xe s
def Bt(i:Nat):TG:=λv b H Q=>Q (b.set i (U v)) H
theorem A5{i}(l:X.N.29)(j:X.N[i]?=U x)(o:Loc X.28 x)(d:X.fn x=L\/X.24 x=U .local:=by first|show .inl rfl|show .inr rfl|assumption):PG X (.Name x b) (Bt i):=by
 intro a s q H v u Q I r h;show wpAny_assign_Name (CO I l j o r (λp e=>(_,H,e,h)) d)
def RE:TGs:=λvs b H Q=>vs=[]/\Q b H
inductive ExC(vs:ly)(k:V->ly->Prop):Prop
 |mk (v) (r) (h:vs=v::r) (q:k v r):ExC vs k
def El(t:TG)(u:TGs):TGs:=λvs f H Q=>ExC vs λv r=>t v f H λd b=>u r d b Q
theorem Az:PGs X [] RE:=by
 rintro a s d H vs i Q I r ⟨e,h⟩;subst e;cases r;show assignInOrder_nil (d,H,I,h)
theorem AQ(y:PG X e t)(o:PGs X b u)
  (f:(assignEach (e::b) X.21).5 (·.2)=assign e X.21::(assignEach b X.21).5 (·.2):=by rfl):PGs X (e::b) (El t u):=by
 rintro a s x H vs z Q I r ⟨v,C,i,h⟩;subst i;cases r with
 |cons r j=>
  rw[f];show assignInOrder_cons (eI (y a s x H _ _ _ I r h) λ_ l w=>by let(d,q,p,q1):=w;show o a l d q _ _ Q p j q1)
inductive ExT(b:FG)(n:Nat)(v:V)(H:Hp)(k:ly->Prop):Prop
 |mk (a) (xs) (d:v=.ref a) (f:eO b H a xs) (g:xs.3=n) (q:k xs):ExT b n v H k
def VU(b:FG)(n:Nat)(t:TGs):TG:=λv f H Q=>ExT b n v H λd=>t d f H Q
theorem BR{k}{n}(p:X.calm=L)(h:PGs X f t)
  (C:(assignEach f X.21).3=n:=by rfl) (i:(assignEach f X.21).findIdx? (·.1)=gt:=by rfl):PG X (.Tuple f k g) (VU X.K n t):=by
 rintro d s F H v u Q I r ⟨a,q,E,l,z,x⟩;subst E;cases r;let(D,j,ht,J):=I.tuple l;show assign_Tuple_tuple (I.66 p) ht (by simp[C,←z,j.3]) i λG y=>h d _ F H q _ Q (I.75 (t':=s.62) λb o e=>y b o (zu (lt_size e)) e) (by simpa using j) x
noncomputable def KS(to b:TE)(t:Y2):TG:=λv d H Q=>to d H λo f=>b d f λi g=>t o i v g λh=>Q d h
theorem Lf(G:PE X o to)(F:PE X i q)(f:Y3 X t)
  (R:∀v,assign (.Subscript o i b) X.21 v=(do
   let d ←holding [v] (eval o X.21)
   let e ←holding [v,d] (eval i X.21)
   standAt b
   holding [v,d,e] (setItem d e v)
   release [v,d,e] []):=by intro _;rfl):PG X (.Subscript o i b) (KS to q t):=by
 intro a s j H v u Q I r h;show zo (zG (eI (G a s j H _ I h) λd g w=>?_));let(x,N,D,E,q1):=w;show zo (zG (eI (F a g j N _ D q1) λe p k=>?_));let(y,l,L,C,q2):=k;show zo (zF (zo (zG (eI (f a p j l x y v d e u _ L E C r q2) λ_ A m=>by let(M,z,q3):=m;show wpAny_release (j,M,z,q3)))))
def VW(b:TE)(g:TG):TS:=λD d H=>b d H λx f=>g x d f D.nx
theorem Bo(i:PE X e m)(j:PG X b g)(hs:swapsWithSole [b] e f.68 X.21=pure O:=by rfl)(hw:swappedStores [b] e X.21=pure J:=by rfl)
  (t:(assignEach [b] X.21).5 (·.2)=[assign b X.21]:=by rfl):PS X (.Assign [b] e f) (VW m g):=by
 intro a s d H D I h;show wpAny_Assign_stores (eI (i a s d H _ I h) λv l z=>?_) hs hw;let(x,p,o,r,q1):=z;rw[t];show eI (j a l d p x v _ o r q1) λ_ u q=>q
theorem DN{i}(o:X.N.29)(r:X.N[i]?=U x)(d:Loc X.28 x)(j:PE X e m)(b:swapsWith e (U (.Name x g)) f.68 X.21=pure O:=by rfl)(l:X.fn x=L\/X.24 x=U .local:=by first|show .inl rfl|show .inr rfl|assumption):
  PS X (.Assign [.Name x g] e f) (VW m (Bt i)):=by
 intro a s z H D I h;show wpAny_Assign_Name (eI (j a s z H _ I h) λv E w=>by let(y,u,p,q,q1):=w;show CO p o r d q (λC t=>(_,u,t,q1)) l) b
def ax(i j:Nat)(b:TA):TS:=λD d H=>b d H λvs f=>∃v w,vs=[v,w]/\D.nx ((d.set i (U v)).set j (U w)) f
theorem Sq(N:X.calm=ii)(F:X.N.29)(p:X.N[i]?=gl x)(T:X.N[j]?=gl y)(z:i≠j)
  (E:X.24 x=gl .local) (G:X.24 y=gl .local) (A:PA X [a,b] P)
  (B:swappedStores [.Tuple [.Name x f,.Name y m] kt pt] (.Tuple [a,b] g d) X.21=pure (gl [x,y]))
  (hs:swapsWithSole [.Tuple [.Name x f,.Name y m] kt pt] (.Tuple [a,b] g d) D.68 X.21=pure O:=by rfl):
  PS X (.Assign [.Tuple [.Name x f,.Name y m] kt pt] (.Tuple [a,b] g d) D) (ax i j P):=by
 intro l s al H an I h;show zo (zF ?_);show zo (zn (zo (Tuple_ (eI (A _ l s al H _ I h) λag ab k=>?_))));let(vs,H1,U,Y,q1):=k;let(v,w,e1,q1):=q1;subst e1
 let(r,t,rfl,rv,C):∃r t,ag=[r,t]/\RelV v r/\RelV w t:=by
  cases Y with
  |cons ar q=>
   cases q with
   |cons p' R=>
    cases R
    grind
 show wpAny_newObj_type ?_ ig;rw[B];show zo (zn (zo (wpAny_rule (zo (unpackItems_tuple (items:=#[r,t]) (I.66 N) (IsTup.new ab.15 _) λh' u=>?_)))));let S:=(U.75 λb o e=>zT _ e).75 (t':=ab.62) λb o e=>u b o (zu (lt_size e)) e;show zo (assignInOrder_cons (wpAny_bindName (CO S F T (.inl G) C (λs2 Q=>assignInOrder_cons (wpAny_bindName (CO Q F p (.inl E) rv (λs3 M=>assignInOrder_nil (zn ?_)) (.inr E)))) (.inr G))));rw[List.set_comm _ _ (Ne.symm z)]at M;show(_,H1,M,q1)
def ay(i:Nat)(b:TE)(d:TIp):TS:=λD f H=>∃x,f[i]?=U (U x)/\b f H λy g=>d x y g λz h=>D.nx (f.set i (U z)) h
theorem OX{i}(Q:X.N.29)(E:X.N[i]?=gl x)(q:Loc X.28 x)(N:PE X e B)(A:PIp X b f)(z:X.fn x=L\/X.24 x=gl .local:=by first|show .inl rfl|show .inr rfl|assumption):
  PS X (.AugAssign (.Name x ag) b e ab) (ay i B f):=by
 rintro a s F H D I ⟨v,P,h⟩;let(m,U,M):=I.loc;let t:Vis X.28 x:=by let k||k:=q;show .inl k;show .inr (.inl k)
 let(u,r,l):=M i x v E P t;apply wpAny_AugAssign_Name
 let C:gm X (eval e X.21) (λw p=>gm X (inplaceOp b u w) (λr o=>gm X (storeName X.21 x r) (λ_=>SP X a D .next) X.xe o) X.xe p) X.xe s:=by
  show eI (N a s F H _ I h) λw s1 n=>?_;let(y,H1,T,Y,q1):=n;show eI (A a s1 F H1 v y u w _ T r Y q1) λal s2 g=>by let(zv,G,I2,S,q2):=g;show CO I2 Q E q S (λs3 R=>(_,G,R,q2)) z
 let(d,Z)||(d,c,J,j):=l
 ·show wpAny_loadName_local I.ok.kind d U Z C
 ·let d||d:=d
  ·show wpAny_loadName_cell I.ok.kind d J j C
  ·let k||k:=q
   ·have:X.24 x=gl .free:=d;rw[k]at this;cases this
   ·have:X.24 x=gl .free:=d;rw[k]at this;cases this
def Sr(c:TT)(d:TS):TS:=λD f H=>∃W:Nat->St->Hp->Prop,(∃m,W m f H)/\∀m f H,W m f H ->
 c f H λb h=>if b=L then ∃N,(∀i g,N i g->∃j,j<m/\W j i g)/\d {D with nx:=N,ct:=N,bk:=D.nx} f h else D.nx f h
theorem Gr(t:PassesOwn (model X.14 X.w) X.A X.21 X.xe)(F:PT X c M)(G:hA X g m):PS X (.While c g [] A) (Sr M m):=by
 rintro d s B H D I ⟨W,⟨ab,S⟩,j⟩;show wpAny_While (codeAny_whileLoop (λn R=>E₂ λi x=>Inv X d i x R/\W n i x) ?_ ab (B,H,I,S));rintro n T ⟨e,C,Q,E⟩;show wpAny_passesOwn t (eI (F d T e C _ Q (j n e C E)) λb P w=>?_);let(u,z,q2):=w;cases b with
 |true=>
  let(N,y,q2):=q2;show wpAny_passesOwn t (eI (G d P e u _ z q2) λf ag q3=>?_);cases f with
  |next=>
   let(a,h,p,l):=q3;let(o,q,r):=y a h l;show(o,q,a,h,p,r)
  |cont=>
   let(a,h,p,l):=q3;let(o,q,r):=y a h l;show(o,q,a,h,p,r)
  |brk=>show q3
  |ret v=>show q3
 |false=>
  show wpAny_execs_nil (e,u,z,q2)
structure It where
 go:Nat->Hp->Prop
 jD:Nat->Hp->V->Hp->Prop
 stop:Nat->Hp->Prop
def F4(X:Cx)(d:LO)(H:Hp)(b:l7):Prop:=
 H b=J/\b≠X.17/\b∉ X.fs/\(b∈X.ex\/X.f9.4<=b)/\(∀x c,X.19 x=U c->c≠b)/\∀p∈X.pn++d,p.1≠b
theorem Inv.iM(I:Inv X g i H s)(a:s.4<=b)(h:f b=J):F4 X g f b:=by
 show(h,Nat.ne_of_gt (zX I.lt a),I.nofs a,.inr (Nat.le_trans I.sz a),λx c e z=>?_,λp d z=>?_)
 ·let(v,q):=I.cell x c e;show absurd (zX q.lt (_)) (zy _)
 ·show absurd (zX (lt_size (I.pin p d).1) (_)) (zy _)
structure Mx(P:Program)(w:World)(K:FG)(tg:Expr)(J:It)(fp:List l7)(it:l7)(tn:Nat->Heap->Prop):Prop where
 mem:it∈fp
 obj:∀i h,tn i h->∀b∈fp,∃o,h.13 b=U o/\∀v,o.38≠ .cell v
 keep:∀i h h',tn i h->(∀b∈fp,∀o,h.13 b=U o->h'.13 b=U o)->tn i h'
 item:∀X,X.14=P->X.w=w->X.K=K->X.calm=L->∀i db s(σ:St)H(E:VS),Inv X db σ H s->(∀b∈fp,F4 X db H b)->tn i s.15->J.go i H ->
  wpAny (model P w) X.A (pyNext (.ref it)) (λr d=>∃u,r=U u /\
   wpAny (model P w) X.A (letOwnedTupleGo tg (.ref it) u) (λ_ f=>∃x H',Inv X db σ H' f/\RelV x u/\J.jD i H x H'/\tn (i+1) f.15/\∀b∈fp,H' b=gt) E d) E s
 done:∀X,X.14=P->X.w=w->X.K=K->X.calm=L->∀i db s(σ:St)H(E:VS),Inv X db σ H s->(∀b∈fp,F4 X db H b)->tn i s.15->J.stop i H ->
  wpAny (model P w) X.A (pyNext (.ref it)) (λr d=>r=gt/\Inv X db σ H d) E s
 self:∀A i s(Q:VS)(E:VS),tn i s.15->Q (.ref it) s->wpAny (model P w) A (pyIter (.ref it)) Q E s
abbrev TI:=St->Hp->(It->Hp->Prop)->Prop
def PIE(X:Cx)(d:LO)(i:St)(h:Expr)(R:It->Hp->Prop)(g:Value)(f:lG):Prop:=
 ∃(o:l7)(m:List l7)(p:Nat->Heap->Prop)(l:It)(j:Hp),g=.ref o/\Inv X d i j f/\Mx X.14 X.w X.K h l m o p/\p 0 f.15/\(∀b∈m,F4 X d j b)/\R l j
def PI(X:Cx)(b iter:Expr)(d:TI):Prop:=
 ∀g s(f:St)H R,Inv X g f H s->d f H R ->
  gm X (eval iter X.21) (λv h=>gm X (pyIter v) (PIE X g f b R) X.xe h) X.xe s
theorem My(h:s.9 b=U o)(d:o.78=.type n)(e:o.38=.fields vs)
    (i:[oE,"zip","dict_itemiterator","dict_reverseitemiterator","odict_iterator","itertools.zip_longest","itertools.pairwise"].16 n=O) (a:Q Unit.unit s):wpAny M A (letOwnedTupleGo f (.ref b) u) Q E s:=by
  cases f<;>first
    |show zn a
    | (cases u<;>first
        |show zn a
        | (show zo (wpAny_load h ?_)
           rw[d,e];change wpAny M A (if ([oE,"zip","dict_itemiterator","dict_reverseitemiterator","odict_iterator","itertools.zip_longest","itertools.pairwise"].16 n&&vs[0]?==U (rawInt _))=L then _ else _) Q E s;rw[zg (_)]
           show zn a))
noncomputable def jJ(b:FG)(a:l7):It:=
 (λi H=>∃d x,dY b H a d/\d[i]?=U x,λi H x f=>f=H/\∀d,dY b H a d->d[i]?=U x,λi H=>∃d,dY b H a d/\d.3<=i)
noncomputable def Itt(b:FG)(a:l7):It:=
 (λi H=>∃d x,eO b H a d/\d[i]?=U x,λi H x f=>f=H/\∀d,eO b H a d->d[i]?=U x,λi H=>∃d,eO b H a d/\d.3<=i)
noncomputable def Itr(lo:Int)(n:Nat):It:=(λi _=>i<n,λi H x b=>b=H/\x=.int (lo+i),λi _=>n<=i)
theorem Kj(a l):Mx P w ω tg (jJ ω a) [l] l (λi h=>h.80 l a i) where
 mem:=by simp
 obj:=λi h st b j=>by
  let e:b=l:=by simpa using j
  subst e;let(o,e,c,d):=st;show(o,e,λv z=>by ext)
 keep:=λi h g st k=>st.at λo e=>k l (_) o e
 item:=by
  intro X D F N T i q s ab H E I y st f;subst D F N;let(Y,x,t,G):=f;let(L,M,p,hz):=I.list t;let(u,hu,ru):=M.get G;let(C,R,f2,S,Q,J):=y l (_);show wpAny_pyNext_list_item st p.59 (x:=u) (_) λg r m=>?_;let(o,e,c,d):=id r;show(u,zd,My e c d qc (x,H,I.64 (t':=s.62) (λb o j e=>(m.2 b j).7 e) C R S Q J,ru,(zd,λys B=>by rw[I.list_inj B t];show G),r,λb j=>(y b j).1))
 done:=by
  intro X D F N T i q s ab H E I y st f;subst D F N;let(Y,t,G):=f;let(L,M,p,hz):=I.list t;let(C,R,f2,S,Q,J):=y l (_);let hl:=M.3;show wpAny_pyNext_list_end (I.66 T) st p.59 (by simp;lia) λg A=>(zd,I.64 (λb o j e=>A b o j e) C R S Q J)
 self:=λ_ _ _ _ _ st h=>wpAny_pyIter_listiter st h
theorem OY(a l):Mx P w f g (Itt f a) [l] l (λi h=>h.IsTupleIter l a i) where
 mem:=by simp
 obj:=λi h st b j=>by
  let e:b=l:=by simpa using j
  subst e;let(o,e,c,d):=st;show(o,e,λv ag=>by ext)
 keep:=λi h z st k=>st.at λo e=>k l (_) o e
 item:=by
  intro X D F N T i q s ab H E I y st m;subst D F N;let(Y,x,t,G):=m;let(L,M,p,hz):=I.tuple t;let(u,hu,ru):=M.get G;let(C,R,f2,S,Q,J):=y l (_);show wpAny_pyNext_tuple_item st (p) (x:=u) (_) λz r A=>?_;let(o,e,c,d):=id r;show(u,zd,My e c d qc (x,H,I.64 (t':=s.62) (λb o j e=>(A.2 b j).7 e) C R S Q J,ru,(zd,λys hy=>by rw[I.tuple_inj hy t];show G),r,λb j=>(y b j).1))
 done:=by
  intro X D F N T i q s ab H E I y st m;subst D F N;let(Y,t,G):=m;let(L,M,p,hz):=I.tuple t;let(C,R,f2,S,Q,J):=y l (_);let hl:=M.3;show wpAny_pyNext_tuple_end (I.66 T) st (p) (by simp;lia) λz B=>(zd,I.64 (λb o j e=>B b o j e) C R S Q J)
 self:=λ_ _ _ _ _ st h=>wpAny_pyIter_tupleiter st h
theorem OZ(a)(lo)(n):Mx P w g f (Itr lo n) [a] a (λi h=>IsRangeIter h a (lo+(i)*1) ((n:Int)-(i:Nat)) 1) where
 mem:=by simp
 obj:=λi h st b d=>by
  ext
 keep:=λi h m st k=>k a (_) _ st
 item:=by
  intro X r x z u i j s Q H E I p st C;subst r x z;let(q,F,N,G,D,y):=p a (_);show(Walks.range (prog:=X.14) (w:=X.w) (I.66 u) a lo 1 n).item i s _ _ C st λv m R A l B=>?_;let(t,rfl):=A;show(7,My l Y Y qc (.int (lo+i),H,I.64 (λb o d e=>B b o (_) e) q F G D y,(t,?_),(Y,Y),l,λb d=>(p b d).1));simp
 done:=by
  intro X r x z u i j s Q H E I p st C;subst r x z;let(q,F,N,G,D,y):=p a (_);show wpAny_pyNext_range_end (I.66 u) st (by have:n<=i:=C;lia) λm M=>(Y,I.64 (λb o d e=>M b o d e) q F G D y)
 self:=λ_ _ _ _ _ st h=>wpAny_pyIter_rangeiter st h
def Ss(b:FG)(d:TE):TI:=λh H R=>d h H λx f=>∃a,x=.ref a/\(∃g,dY b f a g)/\R (jJ b a) f
def bA(b:FG)(d:TE):TI:=λh H R=>d h H λx f=>∃a,x=.ref a/\(∃g,eO b f a g)/\R (Itt b a) f
theorem BG(y:PE X l u):PI X f l (Ss X.K u):=by
 intro d s E H R I h;show eI (y d s E H _ I h) λv j w=>?_;let(x,D,i,C,q1):=w;let(a,e,(F,r),q):=q1;subst e;cases C;let(z,G,p,J):=i.list r;apply wpAny_pyIter_list p.59;show(j.4,[j.4],_,_,D,Y,i.75 λb o e=>zT _ e,Kj a _,(_,zJ _ Y,Y,Y),λb t=>?_,q);let e:b=j.4:=by simpa using t
 subst e;show i.iM (zp _) (i.18 (zp _))
theorem Oa(z:PE X l y):PI X f l (bA X.K y):=by
 intro d s E H R I h;show eI (z d s E H _ I h) λv j w=>?_;let(x,D,i,C,q1):=w;let(a,e,(F,t),q):=q1;subst e;cases C;let(r,G,p,J):=i.tuple t;apply wpAny_pyIter_tuple (show j.heap.IsTuple a r.11 from p);show(j.4,[j.4],_,_,D,Y,i.75 λb o e=>zT _ e,OY a _,(_,zJ _ Y,Y,Y),λb u=>?_,q);let e:b=j.4:=by simpa using u
 subst e;show i.iM (zp _) (i.18 (zp _))
theorem Su{X}{H}{s}{f:L2.St}{a}{E:VS}{m}{R}{lo d}{t u v}{g}(I:Inv X a f H s)(y:-(2^62)<=lo)(p:lo<2^62)(l:-(2^62)<=d)(x:d<2^62)
  (q:R (Itr lo (d-lo).32) H):gm X (pyIter (.ref s.4)) (PIE X a f m R) E {s with heap:=s.23 {cls:=.type oW,data:=.fields #[.int lo t,.int d u,.int 1 v]},toks:=g}:=by
 apply wpAny_pyIter_range (IsRange.new ..) (small_one y p l x);let h:Inv X a f H {s with heap:=s.23 {cls:=.type oW,data:=.fields #[.int lo t,.int d u,.int 1 v]},toks:=g}:=I.75 λb o e=>zT _ e
 show((s.23 {cls:=.type oW,data:=.fields #[.int lo t,.int d u,.int 1 v]}).10,[(s.23 {cls:=.type oW,data:=.fields #[.int lo t,.int d u,.int 1 v]}).10],_,_,H,Y,
  h.75 λb o e=>zT _ e,OZ _ lo (d-lo).32,?_,λb r=>?_,q)
 ·have i:lo+((0:Nat))*1=lo:=by simp
  let j:(((d-lo).32:Nat))-((0:Nat))=Builtin.Range.rangeSize lo d 1:=by rw[rangeSize_one];split<;>lia
  rw[i,j];show zJ _ rfl
 ·have e:b=(s.23 {cls:=.type oW,data:=.fields #[.int lo t,.int d u,.int 1 v]}).10:=by simpa using r
  subst e;show h.iM (zp _) (h.18 (zp _))
def Y4(b:TA):TI:=λf H R=>b f H λvs d=>∃j,vs=[.int j]/\-(2^62)<=j/\j<2^62/\R (Itr 0 j.32) d
theorem Ck(v:Gl X oW)(u:X.mg oW=J)(z:PA X [a] x)(b:starEach [a] X.21=[(O,(eval a X.21))]:=by rfl):PI X g (.Call (.Name oW p) [a] [] f) (Y4 x):=by
 intro d s y H R I h;show Call_ (F3 I v u boot_range (PyProof.Rows.callWith_type1 (eI (z f d s y H _ I h) λC D w=>?_) b rfl));let(vs,E,l,o,q1):=w;let(j,e,q1,q2,q):=q1;subst e;cases o with
 |cons r i=>
  cases i;let(t,rfl):=r;show call_range_1 (Su l () () q1 q2 (by simpa using q))
def Y5(d:TI)(g:TG)(b:TS):TS:=λD f H=>d f H λj p=>∃W:Nat->Nat->St->Hp->Prop,(∃m,W 0 m f p)/\∀i m f H,W i m f H ->
 (j.stop i H/\D.nx f H)\/(j.go i H/\∃N,(∀l h,N l h->∃o,o<m/\W (i+1) o l h)/\∀x h,j.jD i H x h->g x f h λr q=>b {D with nx:=N,ct:=N,bk:=D.nx} r q)
noncomputable def JM(d:List l7)(h:Heap):LO:=d.76 λb=>(h.13 b).5 λo=>(b,(o))
theorem D7(a:b∈d)(e:h.13 b=U o):(b,(o))∈JM d h:=List.mem_filterMap.mpr (b,a,by rw[e];rfl)
theorem Kk(a:p∈JM f h):p.1∈f/\h.13 p.1=U p.2:=by
 let(b,d,e):=List.mem_filterMap.mp a;cases q:h.13 b with
 |none=>ext
 |some o=>
  grind
theorem Inv.pinned(I:Inv X f g H s)(h:∀b∈a,F4 X f H b)(q:∀b∈a,∃o,s.9 b=U o/\∀v,o.38≠ .cell v):Inv X (f++JM a s.15) g H s:=
 I.pins_of λp d=>(mem_append.mp d).40 (λz=>I.pin p (_)) λz=>by
  let(i,e):=Kk z;let(j,l,r,_):=h p.1 i
  grind
theorem Inv.unpinned(I:Inv X (b++pl) d H s):Inv X b d H s:=I.pins_of λp a=>I.pin p (_)
theorem Cl(d:PassesOwn (model X.14 X.w) X.A X.21 X.xe)(f:X.calm=ii)(hi:PI X g iter wi)(hg:PG X g ar)(y:hA X ag tb)
  (hs:∀x,foldedSetIterable iter X.21 x=pure x:=by intro _;rfl):PS X (.For g iter ag [] a4) (Y5 wi ar tb):=by
 intro j aC R H a1 I as;show wpAny_For (eI (hi j aC R H _ I as) λaR s1 h1=>eI h1 λa3 s2 h2=>?_) hs;let(it,S,tn,J,H2,e,I2,T,st2,f2,W,(m0,w0),M):=h2;subst e;let t:∀{E:Hp},(∀b∈S,E b=gt)->∀b∈S,F4 X j E b:=λhn b y=>(hn b y,(f2 b y).2);show codeAny_forLoop_any (λn B=>∃i z E,Inv X j z E B/\tn i B.15/\(∀b∈S,E b=gt)/\W i n z E) ?_ m0 (0,R,H2,I2,st2,λb y=>(f2 b y).1,w0);rintro n D ⟨i,l,r,w,Q,A,w3⟩;let(ab,qn)||(go,N,hN,step):=M i n l r w3
 ·show wpAny_passesOwn d (eI (T.done X Y Y Y f i j D l r X.xe w (t A) Q ab) λaz s4 (s,I4)=>?_);subst s;show wpAny_execs_nil (l,r,I4,qn)
 ·show wpAny_passesOwn d (eI (T.item X Y Y Y f i j D l r X.xe w (t A) Q go) λaz s4 (aM,s,h4)=>?_);subst s;show wpAny_passesOwn d (eI h4 λ_ P (x,v,I5,r5,y5,G,an)=>?_);show wpAny_passesOwn d (eI (hg _ P l v x aM _ (I5.pinned (t an) (T.obj _ _ G)) r5 (step x v y5)) λ_ s6 (a0,H6,I6,q6)=>wpAny_passesOwn d (eI (y _ s6 a0 H6 _ I6 q6) λal u F=>?_))
  let p:∀{a:St}{q:Hp},Inv X (j++JM S P.15) a q u->N a q->∃m,m<n/\∃i z E,Inv X j z E u/\tn i u.15/\(∀b∈S,E b=gt)/\W i m z E:=λ{a q}C h=>by
   let(m',hm,w7):=hN a q h;show(m',hm,i+1,a,q,C.unpinned,T.34 _ _ _ G λb y o e=>(C.pin (b,(o)) (zP _ (zP _ (D7 y e)))).1,λb y=>?_,w7);let(o,e,a2):=T.obj _ _ G b y;show(C.pin (b,(o)) (zP _ (zP _ (D7 y e)))).2.1
  cases al with
  |next=>let(a,q,C,h):=F;show p C h
  |cont=>let(a,q,C,h):=F;show p C h
  |brk=>let(a,q,C,F):=F;show(a,q,C.unpinned,F)
  |ret aR=>let(x7,a,q,C,r7,F):=F;show(x7,a,q,C.unpinned,r7,F)
theorem DP{a}{ω}{xs}{g:TG}{f:TS}{D:KR}(d:Nat->St->Hp->Prop)(v:d 0 b H)(u:∀i b H,i<=xs.3->d i b H->dY ω H a xs)
  (s:∀i x b H,xs[i]?=U x->d i b H->g x b H λh o=>f {D with nx:=d (i+1),ct:=d (i+1),bk:=D.nx} h o) (C:∀b H,d xs.3 b H->D.nx b H):
  ∃W:Nat->Nat->St->Hp->Prop,(∃m,W 0 m b H)/\∀i m b H,W i m b H ->
   ((jJ ω a).stop i H/\D.nx b H)\/((jJ ω a).go i H/\∃N,(∀j l,N j l->∃t,t<m/\W (i+1) t j l)/\∀x l,(jJ ω a).jD i H x l->g x b l λh o=>f {D with nx:=N,ct:=N,bk:=D.nx} h o):=by
 show(λi m b H=>C₃ (m=xs.3-i) (i<=xs.3) (d i b H),(xs.3,by simp,Nat.zero_le _,v),?_);rintro i m b H ⟨rfl,E,p⟩;let q:=u i b H E p;by_cases r:i<xs.3
 ·show .inr ((xs,xs[i],q,by simp),d (i+1),λj l z=>(xs.3-(i+1),by lia,Y,r,z),λx l y=>?_);let(e,y):=y;subst e;show s i x b _ (y xs q) p
 ·have e:i=xs.3:=by lia
  subst e;show .inl ((xs,q,zp _),C b H p)
theorem Fa{lo}{n}{g:TG}{f:TS}{D:KR}(d:Nat->St->Hp->Prop)(r:d 0 b H)
  (s:∀i b H,i<n->d i b H->g (.int (lo+i)) b H λa o=>f {D with nx:=d (i+1),ct:=d (i+1),bk:=D.nx} a o) (u:∀b H,d n b H->D.nx b H):
  ∃W:Nat->Nat->St->Hp->Prop,(∃m,W 0 m b H)/\∀i m b H,W i m b H ->
   ((Itr lo n).stop i H/\D.nx b H)\/((Itr lo n).go i H/\∃N,(∀j l,N j l->∃q,q<m/\W (i+1) q j l)/\∀x l,(Itr lo n).jD i H x l->g x b l λa o=>f {D with nx:=N,ct:=N,bk:=D.nx} a o):=by
 show(λi m b H=>C₃ (m=n-i) (i<=n) (d i b H),(n,by simp,Nat.zero_le _,r),?_);rintro i m b H ⟨rfl,v,p⟩;by_cases h:i<n
 ·show .inr (h,d (i+1),λj l t=>(n-(i+1),by lia,Y,h,t),λx l y=>?_);let(e,y):=y;subst e y;show s i b _ h p
 ·have e:i=n:=by lia
  subst e;show .inl (zp _,u b H p)
theorem Sw(h:St->Hp->Prop)(i:St->Hp->Nat)(o:h f H)
  (g:∀f H,h f H->c f H λb d=>if b=L then s {D with nx:=λa e=>h a e/\i a e<i f H,ct:=λa e=>h a e/\i a e<i f H,bk:=D.nx} f d else D.nx f d)
  (mono:∀f H Q j,(∀b d,Q b d->j b d)->c f H Q->c f H j):Sr c s D f H:=by
 show(λm f H=>m=i f H/\h f H,(_,rfl,o),?_);rintro m f H ⟨rfl,p⟩;show mono f H _ _ (λb d q=>?_) (g f H p);cases b with
 |true=>show(_,λa e z=>by let(r,l):=z;show (_,l,rfl,r),q)
 |false=>show q
abbrev R2:=V->V->Hp->VK->Prop
def gx(X:Cx)(f:Value->Value->Sem Value)(r:R2):Prop:=
 ∀b s(d:St)H x y v u Q,Inv X b d H s->RelV x v->RelV y u->r x y H Q ->
  gm X (f v u) (EP X b d Q) X.xe s
def UnR(X:Cx)(f:Value->Sem Value)(r:V->Hp->VK->Prop):Prop:=
 ∀b s(d:St)H x v Q,Inv X b d H s->RelV x v->r x H Q ->
  gm X (f v) (EP X b d Q) X.xe s
def eW(X:Cx)(f:Value)(r:ly->Hp->VK->Prop):Prop:=
 ∀b s(h:St)H g d Q,Inv X b h H s->Vals g d->r g H Q ->
  gm X (call f d) (EP X b h Q) X.xe s
def jQ(r:R2)(b d:TE):TE:=λf H Q=>b f H λx g=>d f g λy h=>r x y h Q
def tUn(r:V->Hp->VK->Prop)(b:TE):TE:=λf H Q=>b f H λx d=>r x d Q
def rI(C:Int->Int->Prop)(g:Int->Int->V):R2:=λx y H Q=>ExI x y λi j=>C i j/\Q (g i j) H
def jt(g:Int->Int->V):R2:=λx y H Q=>ExI x y λi j=>Q (g i j) H
def rU(g:Int->V):V->Hp->VK->Prop:=λx H Q=>∃i,x=.int i/\Q (g i) H
theorem Xh{X}{o w}(E:PE X a o)(C:PE X b w){R:V->V->Hp->Prop}(I:Inv X m g H s)
  (h:o g H λx l=>w g l λy d=>R x y d)  {f:Value->Value->Sem Value}
  (t:∀v u j x y d,Inv X m g d j->RelV x v->RelV y u->R x y d->gm X (f v u) Q X.xe j):
  gm X (eval a X.21) (λv e=>gm X (eval b X.21) (λu i=>gm X (f v u) Q X.xe i) X.xe e) X.xe s:=by
 show eI (E m s g H _ I h) λv q (x,l,r,D,q1)=>eI (C m q g l _ r q1) λu j k=>?_;let(y,d,z,p,q2):=k;show t v u j x y d z D p q2
theorem AX(p:gx X (binaryOp f) r)(D:PE X a z)(i:PE X b g):PE X (.BinOp a f b m) (jQ r z g):=by
 intro d s C H Q I h;show wpAny_BinOp (Xh D i I h λv u j x y e t l o q=>p d j C e x y v u Q t l o q)
theorem DB(t:UnR X (unaryOp b) r)(q:PE X a l):PE X (.UnaryOp b a f) (tUn r l):=by
 intro d s e H Q I h;show UnaryOp_ (eI (q d s e H _ I h) λv i z=>by let(x,o,j,p,q1):=z;show t d i e o x v Q j p q1)
theorem kC{f}{C}{g:Int->Int->Int}
  (a:∀i j t u s(Q:VS)(E:VS),C i j->Q (.int (g i j) s.62) {s with toks:=s.62+1}->gm X (f (.int i t) (.int j u)) Q E s):
  gx X f (rI C λi j=>.int (g i j)):=by
 rintro d s p H x y v u Q I h o ⟨i,j,rfl,rfl,l,q⟩;let(t,rfl):=h;let(e,rfl):=o;show a i j t e s _ _ l (.int (g i j),H,I.tok _,(_,Y),q)
theorem Ob{f}{g:Int->Int->Int}
  (a:∀i j t u s(Q:VS)(E:VS),Q (.int (g i j) s.62) {s with toks:=s.62+1}->gm X (f (.int i t) (.int j u)) Q E s):
  gx X f (jt λi j=>.int (g i j)):=by
 rintro d s o H x y v u Q I h l ⟨i,j,rfl,rfl,q⟩;let(t,rfl):=h;let(e,rfl):=l;show a i j t e s _ _ (.int (g i j),H,I.tok _,(_,Y),q)
theorem VX{f}{g:Int->Int->Bool}
  (a:∀i j t u s(Q:VS)(E:VS),Q (.bool (g i j)) s->gm X (f (.int i t) (.int j u)) Q E s):
  gx X f (jt λi j=>.bl (g i j)):=by
 rintro d s o H x y v u Q I h l ⟨i,j,rfl,rfl,q⟩;let(t,rfl):=h;let(e,rfl):=l;show a i j t e s _ _ (.bl (g i j),H,I,Y,q)
def bD(i j:Int):Prop:=0<j/\j<1073741824
def Xi(i j:Int):Prop:=0<=j/\j<=1000000/\i.natAbs<2^64
def CMul(i j:Int):Prop:=(-(2^64)<i/\i<2^64)\/(-(2^64)<j/\j<2^64)
theorem CMul.ok{i j}(h:CMul i j):IntMulOk i j:=by
 let(d,a)||(d,a):=h
 ·show .of_left (intBits_le_64 d a)
 ·show .of_right (intBits_le_64 d a)
theorem Oc(k):(0:Int)<=2^k:=by
 grind
theorem CQ:gx X (binaryOp .Add) (jt λi j=>.int (i+j)):=Ob λ_ _ _ _ _ _ _ q=>add_int q
theorem Cm:gx X (binaryOp .Sub) (jt λi j=>.int (i-j)):=Ob λ_ _ _ _ _ _ _ q=>sub_int q
theorem JN:gx X (binaryOp .Mult) (rI CMul λi j=>.int (i*j)):=kC λ_ _ _ _ _ _ _ a q=>mul_int q a.ok
theorem Pz:gx X (binaryOp .FloorDiv) (rI bD λi j=>.int (i/j)):=kC λi j _ _ _ _ _ a q=>by
 let e:=a.1;let d:=a.2;show floordiv_int () (by rwa[Int.fdiv_eq_ediv_of_nonneg i ()]) (.inl (PyProof.noPylong_small ()))
theorem F5:gx X (binaryOp .Mod) (rI (λ_ j=>0<j) λi j=>.int (i%j)):=kC λi j _ _ _ _ _ a q=>by
 show mod_int' () (by rwa[Int.fmod_eq_emod_of_nonneg i ()])
theorem Od:gx X (binaryOp .Pow) (rI Xi λi j=>.int (i^j.32)):=kC λ_ _ _ _ _ _ _ a q=>pow_int_small a.1 a.2.1 a.2.2 q
theorem Lg:gx X (binaryOp .LShift) (rI Xi λi j=>.int (i*2^j.32)):=kC λ_ _ _ _ _ _ _ a q=>lshift_int_small a.1 a.2.1 a.2.2 q
theorem Xj:gx X (binaryOp .RShift) (rI (λ_ j=>0<=j) λi j=>.int (i/2^j.32)):=kC λi j _ _ _ _ _ a q=>
 rshift_int a (by rwa[Int.fdiv_eq_ediv_of_nonneg i (Oc _)])
theorem Cn:gx X (binaryOp .BitAnd) (jt λi j=>.int (Builtin.bitAnd i j)):=Ob λ_ _ _ _ _ _ _ q=>and_int q
theorem JO:gx X (binaryOp .BitOr) (jt λi j=>.int (Builtin.bitOr i j)):=Ob λ_ _ _ _ _ _ _ q=>or_int q
theorem Sx:gx X (binaryOp .BitXor) (jt λi j=>.int (Builtin.bitXor i j)):=Ob λ_ _ _ _ _ _ _ q=>xor_int q
theorem P1:gx X (inplaceOp .Add) (jt λi j=>.int (i+j)):=Ob λ_ _ _ _ _ _ _ q=>iadd_int q
theorem Xk:gx X (inplaceOp .BitOr) (jt λi j=>.int (Builtin.bitOr i j)):=Ob λ_ _ _ _ _ _ _ q=>ior_int q
theorem unI{f}{g:Int->Int}
  (a:∀i t s(Q:VS)(E:VS),Q (.int (g i) s.62) {s with toks:=s.62+1}->gm X (f (.int i t)) Q E s):
  UnR X f (rU λi=>.int (g i)):=by
 rintro d s h H x v Q I e ⟨i,rfl,q⟩;let(t,rfl):=e;show a i t s _ _ (.int (g i),H,I.tok _,(_,Y),q)
theorem C7:UnR X (unaryOp .USub) (rU λi=>.int (-i)):=unI λ_ _ _ _ _ q=>neg_int q
theorem Lh:UnR X (unaryOp .Invert) (rU λi=>.int (Builtin.bitNot i)):=unI λ_ _ _ _ _ q=>invert_int q
noncomputable def Y6:V->V->Bool
 |.eJ,.eJ=>L|.eJ,.int _=>L|.int _,.eJ=>L|.eJ,.bl _=>L|.bl _,.eJ=>L|.eJ,.str _=>L|.str _,.eJ=>L
 |.int _,.int _=>L|.bl _,.bl _=>L|.str _,.str _=>L|.jx _,.jx _=>L
 |.int _,.str _=>L|.str _,.int _=>L|.bl _,.str _=>L|.str _,.bl _=>L
 |_,_=>O
def rEq:R2:=λx y H Q=>Y6 x y=L/\Q (.bl (decide (x=y))) H
def rNe:R2:=λx y H Q=>Y6 x y=L/\Q (.bl (!decide (x=y))) H
theorem VY:decide (V.int i=V.int j)=(i==j):=by
 grind
theorem Xl:decide (V.bl i=V.bl j)=(i==j):=by
 grind
theorem VZ:decide (V.str i=V.str j)=(i==j):=by
 grind
theorem P2:decide (V.jx i=V.jx j)=(i.37==j.37):=by
 rw[Bool.eq_iff_iff]
 ext
theorem Av(I:Inv X b d H s)(q:Q (.bl k) H)(e:k=a):EP X b d Q (.bool a) s:=by
 subst e;show(.bl k,H,I,Y,q)
theorem Aq:gx X (compareOp .Eq) rEq:=by
 rintro l s o H x y v u Q I h a ⟨e,q⟩;cases x with
 |eJ=>
  cases h;cases y with
  |eJ=>cases a;show PySem.EqNone.eq_none_none (Av I q (_))
  |bl j=>cases a;show PySem.EqNone.eq_none_bool (Av I q (_))
  |int j=>let(d,rfl):=a;show PySem.EqNone.eq_none_int (Av I q (_))
  |str j=>let(d,rfl):=a;show PySem.EqNone.eq_none_str (Av I q (_))
  |_=>show absurd (e) Bool.false_ne_true
 |bl i=>
  cases h;cases y with
  |eJ=>cases a;show PySem.EqNone.eq_bool_none (Av I q (_))
  |bl j=>cases a;show eq_bool (Av I q Xl)
  |str j=>let(d,rfl):=a;show PySem.EqMixed.eq_bool_str (Av I q (_))
  |_=>show absurd (e) Bool.false_ne_true
 |int i=>
  let(t,rfl):=h;cases y with
  |eJ=>cases a;show PySem.EqNone.eq_int_none (Av I q (_))
  |int j=>let(d,rfl):=a;show eq_int (Av I q VY)
  |str j=>let(d,rfl):=a;show PySem.EqMixed.eq_int_str (Av I q (_))
  |_=>show absurd (show O=L from e) Bool.false_ne_true
 |str i=>
  let(t,rfl):=h;cases y with
  |eJ=>cases a;show PySem.EqNone.eq_str_none (Av I q (_))
  |bl j=>cases a;show PySem.EqMixed.eq_str_bool (Av I q (_))
  |int j=>let(d,rfl):=a;show PySem.EqMixed.eq_str_int (Av I q (_))
  |str j=>let(d,rfl):=a;show eq_str (Av I q VZ)
  |_=>show absurd (e) Bool.false_ne_true
 |jx i=>
  let(t,rfl):=h;cases y with
  |jx j=>let(d,rfl):=a;show W.eq_bytes (Av I q P2)
  |_=>show absurd (e) Bool.false_ne_true
 |_=>cases y<;>show absurd (show O=L from e) Bool.false_ne_true
theorem Dg:gx X (compareOp .NotEq) rNe:=by
 rintro l s o H x y v u Q I h a ⟨e,q⟩;cases x with
 |eJ=>
  cases h;cases y with
  |eJ=>cases a;show PySem.EqNone.ne_none_none (Av I q (_))
  |bl j=>cases a;show PySem.EqNone.ne_none_bool (Av I q (_))
  |int j=>let(d,rfl):=a;show PySem.EqNone.ne_none_int (Av I q (_))
  |str j=>let(d,rfl):=a;show PySem.EqNone.ne_none_str (Av I q (_))
  |_=>show absurd (e) Bool.false_ne_true
 |bl i=>
  cases h;cases y with
  |eJ=>cases a;show PySem.EqNone.ne_bool_none (Av I q (_))
  |bl j=>cases a;show ne_bool (Av I q (_))
  |str j=>let(d,rfl):=a;show PySem.EqMixed.ne_bool_str (Av I q (_))
  |_=>show absurd (e) Bool.false_ne_true
 |int i=>
  let(t,rfl):=h;cases y with
  |eJ=>cases a;show PySem.EqNone.ne_int_none (Av I q (_))
  |int j=>let(d,rfl):=a;show ne_int (Av I q (_))
  |str j=>let(d,rfl):=a;show PySem.EqMixed.ne_int_str (Av I q (_))
  |_=>show absurd (e) Bool.false_ne_true
 |str i=>
  let(t,rfl):=h;cases y with
  |eJ=>cases a;show PySem.EqNone.ne_str_none (Av I q (_))
  |bl j=>cases a;show PySem.EqMixed.ne_str_bool (Av I q (_))
  |int j=>let(d,rfl):=a;show PySem.EqMixed.ne_str_int (Av I q (_))
  |str j=>let(d,rfl):=a;show ne_str (Av I q (_))
  |_=>show absurd (e) Bool.false_ne_true
 |jx i=>
  let(t,rfl):=h;cases y with
  |jx j=>let(d,rfl):=a;show W.ne_bytes (Av I q (congrArg not P2))
  |_=>show absurd (e) Bool.false_ne_true
 |_=>cases y<;>show absurd (e) Bool.false_ne_true
theorem Fp:gx X (compareOp .Lt) (jt λi j=>.bl (decide (i<j))):=VX λ_ _ _ _ _ _ _ q=>lt_int q
theorem Eu:gx X (compareOp .LtE) (jt λi j=>.bl (decide (i<=j))):=VX λ_ _ _ _ _ _ _ q=>le_int q
theorem Iu:gx X (compareOp .Gt) (jt λi j=>.bl (decide (j<i))):=VX λ_ _ _ _ _ _ _ q=>gt_int q
theorem Mz:gx X (compareOp .GtE) (jt λi j=>.bl (decide (j<=i))):=VX λ_ _ _ _ _ _ _ q=>ge_int q
theorem AN(b)(h:f≠ .In:=by decide)(e:f≠ .NotIn:=by decide):behindInMarks f b=O:=by
 let a:(f==CmpOp.In)=O:=by cases f<;>first|rfl|trivial
 let d:(f==CmpOp.NotIn)=O:=by cases f<;>first|rfl|trivial
 cases b<;>simp[behindInMarks,a,d]
theorem CG(p:gx X (compareOp f) r)(E:PE X a C)(i:PE X b g)(t:behindInMarks f b=O):PE X (.Compare a [f] [b] m) (jQ r C g):=by
 intro d s D H Q I h;show wpAny_Compare1 (Xh E i I h λv u j x y e z l o q=>p d j D e x y v u Q z l o q) t
def Sy(t:TE):TT:=λd H Q=>t d H λx b=>ExB x λk=>Q k b
theorem AJ(E:gx X (compareOp f) r)(g:PE X a M)(l:PE X b m)(F:behindInMarks f b=O):PT X (.Compare a [f] [b] w) (Sy (jQ r M m)):=by
 intro d s i H Q I h
 show wpAny_isTrue_Compare1 (eI (g d s i H _ I h) λv G (x,N,C,D,q1)=>eI (l d G i N _ C q1) λu o (y,j,A,t,q2)=>
  eI (E d o i j x y v u _ A D t q2) λc R (z,B,q,p,k,e,q3)=>?_) F
 subst e;cases p;show zV (B,q,q3)
def Sz(r b:R2)(d f g:TE):TE:=λh H Q=>d h H λx j=>f h j λy l=>r x y l λz i=>∃k,z=.bl k /\
 (if k=L then g h i λo m=>b y o m Q else Q (.bl O) i)
theorem Ew(m:gx X (compareOp d) r)(o:gx X (compareOp f) p)(g:PE X a q)(i:PE X b w)(j:PE X c z)
  (l:lastMarks [d,f] [b,c]=O:=by with_unfolding_all rfl):PE X (.Compare a [d,f] [b,c] ag) (Sz r p q w z):=by
 intro A s B H Q I h
 show Compare_chain (eI (g A s B H _ I h) λv T (x,G,N,R,q1)=>chain_link (eI (i A T B G _ N q1) λu s2 (y,M,P,E,q2)=>
  eI (m A s2 B M x y v u _ P R E q2) λab s3 (al,C,D,S,k,e,q3)=>?_)) l
 subst e;cases S;apply zV;cases k with
 |false=>show ite_ff (.bl O,C,D,rfl,q3)
 |true=>show ite_tt (chain_last (eI (j A s3 B C _ D q3) λw' s4 n=>by let(z',H4,I4,r4,q4):=n;show o A s4 B H4 y z' u w' Q I4 E r4 q4))
theorem Ex(o:gx X (compareOp d) r)(p:gx X (compareOp f) q)(i:PE X a v)(j:PE X b w)(l:PE X c tc)
  (m:lastMarks [d,f] [b,c]=O:=by with_unfolding_all rfl):PT X (.Compare a [d,f] [b,c] an) (Sy (Sz r q v w tc)):=by
 intro z s A H ag I h
 show isTrue_chain (eI (i z s A H _ I h) λab s1 (x,E,N,S,q1)=>test_link (eI (j z s1 A E _ N q1) λu s2 (y,G,P,D,q2)=>
  eI (o z s2 A G x y ab u _ P S D q2) λal s3 (ar,B,C,T,k,e,q3)=>?_)) m
 subst e;cases T;apply zV;cases k with
 |false=>
  let(k',e',q'):=q3;cases e';show ite_ff (B,C,q')
 |true=>
  show ite_tt (test_last (eI (l z s3 A B _ C q3) λw' s4 (z',M,Q,r4,R)=>eI (p z s4 A M y z' u w' _ Q D r4 R) λd' s5 g=>?_));let(z2,H5,I5,r5,k2,e2,q5):=g;subst e2;cases r5;show zV (H5,I5,q5)
theorem Ho:(sizeLine:Nat)<2^63:=by trivial
theorem Be:gx X (binaryOp .Add) (λx y H Q=>∃i j,x=.str i/\y=.str j/\i.3+j.3<=sizeLine/\Q (.str (i++j)) H):=by
 rintro a s p H x y v u Q I e h ⟨i,j,rfl,rfl,l,q⟩;let(t,rfl):=e;let(d,rfl):=h;show add_str (λd o=>(.str (i++j),H,I.tok _,(_,Y),q)) l
theorem Bq(r:Vals [x] b):∃u,b=[u]/\RelV x u:=by
 cases r with
 |cons d a=>cases a;ext
theorem Iv(r:Vals [x,y] b):∃u a,b=[u,a]/\RelV x u/\RelV y a:=by
 cases r with
 |cons i d=>
  cases d with
  |cons h e=>cases e;grind
theorem RF(e:X.calm=L):eW X (.builtin qB) (λb H Q=>∃i j,b=[.int i,.int j]/\Q (.int (if j>i then j else i)) H):=by
 rintro d s x H b h Q I r ⟨i,j,rfl,q⟩;let(u,o,rfl,(t,rfl),(v,rfl)):=Iv r;show max_two_ints (I.66 e) λp l k=>(_,H,I.75 k,?_,q);by_cases a:j>i
 ·rw[zf a,zf a];show(_,Y)
 ·rw[zg a,zg a];show(_,Y)
theorem RG(e:X.calm=L):eW X (.builtin "min") (λb H Q=>∃i j,b=[.int i,.int j]/\Q (.int (if j<i then j else i)) H):=by
 rintro d s x H b h Q I r ⟨i,j,rfl,q⟩;let(u,o,rfl,(t,rfl),(v,rfl)):=Iv r;show min_two_ints (I.66 e) λp l k=>(_,H,I.75 k,?_,q);by_cases a:j<i
 ·rw[zf a,zf a];show(_,Y)
 ·rw[zg a,zg a];show(_,Y)
theorem Hq:eW X (.type qC) (λb H Q=>(∃i,b=[.int i]/\Q (.int i) H)\/∃k,b=[.bl k]/\Q (.int (if k then 1 else 0)) H):=by
 intro a s j H b e Q I r h;let(i,rfl,q)||(k,rfl,q):=h
 ·let(u,rfl,t,rfl):=Bq r;show call_int_int (.int i,H,I,(_,Y),q)
 ·let(u,rfl,d):=Bq r;cases d;show call_int_bool (.int (if k then 1 else 0),H,I.tok _,(_,Y),q)
theorem Li:eW X (.type qD) (λb H Q=>∃i,b=[.int i]/\i.69<1920/\Q (.str (toString i)) H):=by
 rintro a s h H b e Q I r ⟨i,rfl,d,q⟩;let(u,rfl,t,rfl):=Bq r;show PySem.P.str_of_int d (.str _,H,I.tok _,(_,Y),q)
structure ObjM(h:Heap)(x dx C:l7)(mA:SV):Prop where
 obj:h.13 x=U (W.instObj C dx)
 ns:h.Ns1 dx mA
 ne:dx≠x
theorem Kl{h:PySem.Heap}{p:SV}(n:h.Ns1 b p):∃l,h.13 b=U l/\∀d,W.lookIn d l=U (p d):=by
 let(o,j,ep,r,C,x,_,u):=n;show(o,r,λd=>?_);let e:=u d;unfold nsFind findBy at e;rw[←Array.find?_toList]at e;unfold W.lookIn;rw[C]
 dsimp only
 split
 ·rename_i y q;rw[q]at e;show congrArg U e
 ·rename_i q;rw[q]at e
  let a:j.toList.any (·.refKey)=O:=by
   rw[List.any_eq_false];intro y D;let(z,t,i):=x y (_);simp[DictEntry.refKey,i]
  let v:¬ j.toList.any (·.refKey)=L:=by rw[a];show Bool.false_ne_true
  rw[zg v];show congrArg U e
theorem ObjM.look(I:ObjM h x b C f):∃d,W.InstAt h x (W.instObj C b) C (U d)/\∀a,W.lookIn a d=U (f a):=
 let(d,i,e):=Kl I.ns
 (d,(I.obj,rfl,rfl,i),e)
theorem Va(X:f.In s.15)(I:ObjM s.15 x m C g)(i:W.plainGet f C b=L)(e:W.hasDictIn f C=L)
  (l:W.findIn f (.ref C) b=U gt) (j:g b=U v) (a:W.handedIn v=L) (h:Q v {s with toks:=s.62+1}):
  wpAny (model prog w) A (getAttr (.ref x) b p) Q E s:=by
 let(o,J,d):=I.look;show W.get_value X J (W.plainGet_of i).1 (W.findObj_own e l Y (by rw[d,j])) a h
theorem S4(X:g.In s.15)(I:ObjM s.15 x m C l)(a:W.plainGet g C b=L)
  (d:W.findIn g (.ref C) b=U (U (.ref f))) (ht:W.isFn g (.ref f)=L) (j:l b=gt) (h:Q (.ref f,([.ref x])) s):
  wpAny (model prog w) A (getMethod (.ref x) b pl) Q E s:=by
 let(e,J,i):=I.look;show W.method_fn X J (W.plainGet_of a).1 (W.plainGet_of a).2 d (beq_iff_eq.mp ht) (by change(W.lookIn b e).5 (·.26)=U O;ext) h
theorem Vb(X:g.In s.15)(I:ObjM s.15 x B C G)
  (H:W.findIn g (.ref C) nU=U (U (.builtin mn))) (l:W.plainOver g C=L) (ht:W.takerIn g C m=U gt) (j:W.hasDictIn g C=L)
  (M:PySem.Within G N) (r:N.3<=sizeLine)
  (h:∀f,ObjM f x B C (λy=>if y=m then U v else G y)->Heap.SameBut B s.15 f->Q Unit.unit {s with heap:=f,toks:=s.62+2}):
  wpAny (model prog w) A (setAttr (.ref x) m v) Q E s:=by
 let(F,J,D):=I.look;show W.set_plain X J H (W.osa_open X J l ht λb=>?_);let(u,o,i):=W.any_some j;show zo (zn (zo (zo (wpAny_loadPart I.obj (zo (W.Looks.here (W.looks_clsIn X o) ?_))))));rw[i];show zn (zo (zn (zo (wpAny_nsSet1 I.ns λf a d=>?_))));let(z,p,t,hoD,e,q):=a.count (PySem.Within.cons m v M);show zo (wpAny_lookBehind hoD (by rw[e];show pastItsLine_dict (_)) (zn (h _ ((d.2 _ (Ne.symm I.ne)).7 I.obj,a,I.ne) d)))
theorem M0(X:b.In s.15)(j:W.makesIn b C=L)
  (i:W.findIn b (.ref C) lU=U (U (.ref f))) (e:W.typeIn b (.ref f)=U (.type pf))
  (h:codeAny (model prog w) (A.under (.builtin om (.ref C::vs,m))) (.call (.ref f) (.ref (s.4+1)::vs,m)) (W.InitBack (s.4+1) R)
   {s with heap:=(s.23 W.emptyDict).74 (W.instObj C s.4)}):
  codeAny (model prog w) A (.call (.ref C) (vs,m)) R s:=by
 let(l,g,d,t,o):=s;show W.make_core (W.makes_of X j) (W.looks_findIn X i) (λa=>W.bind_fn X a e) (.inl Y) h
noncomputable def BH(f:Str)(v:V):List (Str×V)->List (Str×V)
  | []=>[(f,(v))]
  | (g,x)::r=>if g=f then (g,(v))::r else (g,(x))::BH f v r
theorem Aw(f g)(v):∀fs,(BH f v fs).8 g=if g=f then U v else fs.8 g
  | []=>by
    change List.lookup g [(f,(v))]=_
    grind
  | (k,x)::r=>by
    rw[show BH f v ((k,(x))::r)=(if k=f then (k,(v))::r else (k,(x))::BH f v r)from rfl];by_cases a:k=f
    · rw[zf a]
      by_cases h:g=k
      · have d:=beq_iff_eq.53 h
        simp[List.lookup,d,zf (h.7 a)]
      · have d:=beq_eq_false_iff_ne.53 h
        simp[List.lookup,d,zg (λe:g=f=>h (e.7 a.35))]
    · rw[zg a]
      by_cases h:g=k
      · have d:=beq_iff_eq.53 h
        simp[List.lookup,d,zg (λe=>a (h.symm.7 e))]
      · simp[List.lookup,beq_eq_false_iff_ne.53 h]
        show Aw f g v r
theorem Hr(f)(v):∀fs,f∈(BH f v fs).5 (·.1)/\∀g,g∈fs.5 (·.1)->g∈(BH f v fs).5 (·.1)
  | []=>(by simp[BH],λg h=>by simp at h)
  | (k,x)::r=>by
    let(d,a):=Hr f v r;rw[show BH f v ((k,(x))::r)=(if k=f then (k,(v))::r else (k,(x))::BH f v r)from rfl]
    grind
theorem Ax(f)(v):∀fs,(BH f v fs).3<=fs.3+1
  | []=>by simp[BH]
  | (k,x)::r=>by
    let d:=Ax f v r;rw[show BH f v ((k,(x))::r)=(if k=f then (k,(v))::r else (k,(x))::BH f v r)from rfl];by_cases a:k=f
    · rw[zf a,length_cons,length_cons];lia
    · rw[zg a,length_cons,length_cons];lia
theorem gF.some_of(r:gF (U v) o):∃u,o=U u/\RelV v u:=by
 cases o with
 |none=>trivial
 |some u=>show(u,rfl,r)
theorem gF.none_of(r:gF J o):o=J:=by
 cases o with
 |none=>rfl
 |some u=>trivial
theorem Km(r:RelV v u):W.handedIn u=L:=by
 cases v with
 |eJ=>cases (r);rfl
 |bl b=>cases (r);rfl
 |int i=>let(t,e):=(r);cases e;rfl
 |str x=>let(t,e):=(r);cases e;rfl
 |jx b=>let(t,e):=(r);cases e;rfl
 |j8 b=>let(t,e):=(r);cases e;rfl
 |ref a=>cases (r);rfl
 |ty n=>cases (r);rfl
theorem Cw(j:gG P w H h)(e:H a=U (.ins C b fs)):∃i,ObjM h a b C i/\(∀f,gF (fs.8 f) (i f))/\PySem.Within i (fs.5 (·.1))/\fs.3<=1000/\H b=U (.own a):=by
 let(d,z,o,l,i,n,r,q):=(j a _ e);show(i,(l,n,o),r,q,z,d)
structure iQ(K:FG)(C:l7):Prop where
 pg:W.plainGet K C Str.empty=L
 hd:W.hasDictIn K C=L
 po:W.plainOver K C=L
 sa:W.findIn K (.ref C) nU=U (U (.builtin mn))
theorem iQ.get(c:iQ b C)(f):W.plainGet b C f=L:=c.pg
def gf(b:FG)(C:l7)(f:Str):Prop:=W.findIn b (.ref C) f=U J
theorem gf.taker(n:gf b C f):W.takerIn b C f=U J:=by
 unfold W.takerIn;rw[show W.findIn b (.ref C) f=U J from n];rfl
structure Lj(K:FG)(C:l7)(m:Str)(f:l7):Prop where
 at_:W.findIn K (.ref C) m=U (U (.ref f))
 fn:W.isFn K (.ref f)=L
 kp:W.keepIn K (.ref f)=L
theorem Oe(I:Inv X g m H s)(e:H a=U (.ins C p fs))(c:iQ X.K C)(n:gf X.K C f)(l:fs.8 f=U v)
  (h:∀u d,Inv X g m H d->RelV v u->Q u d):wpAny (model X.14 X.w) A (getAttr (.ref a) f b) Q E s:=by
 let(o,O,r,_,_,_):=Cw I.eA e;let(u,j,i):=gF.some_of (by rw[←l];show r f);show Va I.gq O (c.get f) c.hd n j (Km i) (h u _ (I.tok _) i)
theorem JP(I:Inv X b i H s)(e:H a=U (.ins C f fs))(c:iQ X.K C)(k:Lj X.K C m g)(l:fs.8 m=J)
  (h:Q (.ref g,([.ref a])) s):wpAny (model X.14 X.w) A (getMethod (.ref a) m pl) Q E s:=by
 let(d,O,r,_,_,_):=Cw I.eA e;show S4 I.gq O (c.get m) k.at_ k.fn (gF.none_of (by rw[←l];show r m)) h
theorem Of(I:Inv X w B H s)(e:H a=U (.ins C m fs))(c:iQ X.K C)(n:gf X.K C f)(P:fs.3<1000)(M:RelV y u)
  (h:∀i,Inv X w B (upd H a (.ins C m (BH f y fs))) i->Q Unit.unit i):wpAny (model X.14 X.w) A (setAttr (.ref a) f u) Q E s:=by
 let(N,O,r,l,_,j):=Cw I.eA e;let R:(fs.5 (·.1)).3<=sizeLine:=by rw[AO,sizeLine_eq];lia
 show Vb I.gq O c.sa c.po n.taker c.hd l R λG d t=>h _ ?_;let F:∃o,G.13 m=U o:=by let(o,_,_,v,_):=d.ns;show (o,v)
 apply I.write (x:=a) (e:=m) (by rw[e];show True.intro) (.inr j) (λb q p z=>(t.2 b p).7 z) F;show(by rw[AE O.ne];show j,?_,O.ne,d.obj,_,d.ns,λg=>?_,λg D=>?_)
 ·have:=Ax f y fs;lia
 ·rw[Aw];by_cases q:g=f
  ·rwa[zf q,zf q]
  ·rw[zg q,zg q];show r g
 ·by_cases q:g=f
  ·rw[q];show(Hr f y fs).1
  ·show(Hr f y fs).2 g (l g λz=>D ?_)
   ext
theorem Inv.made(I:Inv X f g H s):Inv X f g (upd (upd H s.4 (.own (s.4+1))) (s.4+1) (.ins C s.4 []))
  {s with heap:=(s.23 W.emptyDict).74 (W.instObj C s.4)}:=by
 let a:(s.23 W.emptyDict).13 s.4=U W.emptyDict:=zJ s.15 rfl
 let i:((s.23 W.emptyDict).74 (W.instObj C s.4)).13 (s.4+1)=U (W.instObj C s.4):=by
  have:=zJ (s.23 W.emptyDict) (o:=W.instObj C s.4) rfl
  rwa[Heap.size_push]at this
 show(I.laid (o:=.own (s.4+1)) (t':=s.62) (λb u q=>zT _ q) (zp _) (_,a)).laid (λb u q=>zT _ q) (_) ?_;let d:s.4≠s.4+1:=zu (_);show(by rw[AE d,dG],Nat.zero_le _,d,i,λ_=>J,(Heap.Ns1.of_empty ((W.emptyDict,#[],_,a,Y,(λe h=>absurd h (_)),λ_=>rfl))).at λo q=>zT _ q,λ_=>True.intro,λy j=>absurd Y j)
theorem P3(d:attributeBase e f env (eval e env)=eval e env)
  (h:wpAny (model prog w) A (eval e env) (λo a=>wpAny (model prog w) A (getAttr o f L) Q E a) E s):wpAny (model prog w) A (eval (.Attribute e f b) env) Q E s:=
 Attribute_any_ h (by rw[arm_eval_Attribute,d])
inductive ExF(b:FG)(x:V)(H:Hp)(f:Str)(k:V->Prop):Prop
 |mk (a C dx) (fs) (v) (d:x=.ref a) (g:H a=U (.ins C dx fs)) (h:iQ b C) (i:gf b C f) (j:fs.8 f=U v) (q:k v):ExF b x H f k
def bG(d:FG)(b:TE)(f:Str):TE:=λh H Q=>b h H λx g=>ExF d x g f λv=>Q v g
def bH(b:FG)(d g:TE)(f:Str):TS:=λD h H=>g h H λy l=>d h l λx i=>∃a C j fs,x=.ref a/\i a=U (.ins C j fs)/\iQ b C/\gf b C f/\fs.3<1000 /\
 D.nx h (upd i a (.ins C j (BH f y fs)))
theorem Ad(o:PE X e D)(i:attributeBase e f X.21 (eval e X.21)=eval e X.21):PE X (.Attribute e f b) (bG X.K D f):=by
 intro d s F H Q I h;show P3 i (eI (o d s F H _ I h) λu m w=>?_);let(x,E,y,p,a,C,M,fs,v,r,j,c,n,l,q):=w;subst r;obtain rfl:u=Value.ref a:=p;show Oe y j c n l λg G z t=>(v,E,z,t,q)
theorem CS(M:PE X o g)(j:PE X b B)(m:swapsWith b (U (.Attribute o f A)) w.68 X.21=pure O):PS X (.Assign [.Attribute o f A] b w) (bH X.K g B f):=by
 intro d s e H D I h;show plainObj_wpAny_Assign_Attribute (eI (j d s e H _ I h) λu F (y,P,z,E,q)=>eI (M d F e P _ z q) λi S k=>?_) m;let(x,N,G,r,a,C,Q,fs,t,p,c,n,l,q2):=k;subst t;obtain rfl:i=Value.ref a:=r;show Of G p c n l E λR v=>(e,_,v,q2)
inductive gM(b:FG)(H:Hp):V->Value->Prop where
 |eJ:gM b H .eJ (.type "NoneType")
 |bl (x):gM b H (.bl x) (.type "bool")
 |int (i):gM b H (.int i) (.type qC)
 |str (x):gM b H (.str x) (.type qD)
 |j8 (x):gM b H (.j8 x) (.type "float")
 |lst {a}{xs} (e:H a=U (.lst xs)):gM b H (.ref a) (.type md)
 |gj {a}{o}{xs} (e:H a=U (.gj o (.lst xs))):gM b H (.ref a) (.type md)
 |tup {a}{xs} (e:H a=U (.tup xs)):gM b H (.ref a) (.type mm)
 |dK {a}{kvs} (e:H a=U (.dK kvs)):gM b H (.ref a) (.type mH)
 |dT {a}{kvs} (e:H a=U (.dT kvs)):gM b H (.ref a) (.type mH)
 |ins {a C dx}{fs} (e:H a=U (.ins C dx fs)) (d:iQ b C) (f:W.findIn b (.ref C) oG=U (U (.builtin lL)))
   (h:W.specialIn b (.builtin lL) oS=U (U (.builtin lW))) (j:W.takesIn b (.builtin lL)=U L)
   (g:W.mroIn b C (.type nI)=U L):gM b H (.ref a) (.ref C)
theorem Kn(I:Inv X db σ H s)(j:RelV x u)(ty:gM X.K H x t)(e:W.kitOne X.K t c=some b)(h:∀tk,Q (.bool b) {s with toks:=tk}):
  wpAny (model X.prog X.w) A (call (.builtin mr) [u,c]) Q E s:=by
 cases ty with
 |eJ=>cases (j);show W.kia_one W.kitx_none I.gq True.intro e (λz=>nomatch z) h
 |bl y=>cases (j);show W.kia_one W.kitx_bool I.gq True.intro e (λz=>nomatch z) h
 |int i=>let(t,q):=(j);cases q;show W.kia_one W.kitx_int I.gq True.intro e (λz=>nomatch z) h
 |str y=>let(t,q):=(j);cases q;show W.kia_one W.kitx_str I.gq True.intro e (λz=>nomatch z) h
 |j8 y=>let(t,q):=(j);cases q;show W.kia_one W.kitx_float I.gq True.intro e (λz=>nomatch z) h
 | @lst a v d=>
  cases (j);let(_,_,n,_,l):=(I.eA a _ d);show W.kia_one W.kitx_list I.gq (_,l,rfl) e (λz=>nomatch z) h
 | @gj a S v d=>
  cases (j);let(_,_,_,n,_,l):=(I.eA a _ d);show W.kia_one W.kitx_list I.gq (_,l,rfl) e (λz=>nomatch z) h
 | @tup a v d=>
  cases (j);let(_,_,_,p):=(I.eA a _ d);let(o,l,r,_):=p;show W.kia_one W.kitx_tuple I.gq (o,l,r) e (λz=>nomatch z) h
 | @dK a D d=>
  cases (j);let(_,_,vs,_,p):=(I.eA a _ d);let(o,L,ep,l,r,_):=p;show W.kia_one W.kitx_dict I.gq (o,l,r.1) e (λz=>nomatch z) h
 | @dT a D d=>
  cases (j);let(_,_,v,_,o,L,ep,l,r,_):=(I.eA a _ d);show W.kia_one W.kitx_dict I.gq (o,l,r.1) e (λz=>nomatch z) h
 | @ins a C Y fs d G R M F N=>
  cases (j);let(U,O,_):=Cw I.eA d;let(T,J,_):=O.look;show W.kia_one (W.kitx_own (G.get _) G.hd R M F N) I.gq J e (λz=>nomatch z) h
structure eB(k:Nat)(A:Around):Prop where
 hd:A.49=J
 dp:A.depth+3*k+5<recursionLimit
 un:A.41+16*k+200<cLine
theorem eB.mono{j k}(r:eB k A)(h:j<=k):eB j A:=(r.hd,by have:=r.dp;lia,by have:=r.un;lia)
theorem eB.deeper(r:eB (k+1) A)(a):eB k (A.56 a):=
 (r.hd,by have:=r.dp;change A.depth+1+3*k+5<_;lia,by have:=r.un;change A.41+3+16*k+200<_;lia)
theorem eB.in1(r:eB (k+1) A):eB k A.in1:=
 (r.hd,by have:=r.dp;change A.depth+3*k+5<_;lia,by have:=r.un;change A.41+1+16*k+200<_;lia)
theorem Og{A:Around}:(A.under (.builtin om (.ref C::d,b))).depth=A.depth+1:=by
 rfl
theorem Oh{A:Around}:(A.under (.builtin om (.ref C::d,b))).41=A.41+1:=by
 rfl
theorem eB.make{k}(r:eB (k+1) A)(C)(a)(d):eB k (A.under (.builtin om (.ref C::a,d))):=
 (r.hd,by have:=r.dp;rw[Og];lia,by have:=r.un;rw[Oh];lia)
theorem eB.depth(r:eB k A):A.depth<recursionLimit:=by have:=r.dp;lia
theorem eB.units(r:eB k A):A.41+64<cLine:=by have:=r.un;lia
def Ce:TA:=λ_ H Q=>Q [] H
def An(b:TE)(tr:TA):TA:=λd H Q=>b d H λx f=>tr d f λh g=>Q (x::h) g
theorem AG:PA X [] Ce:=λ_ _ _ _ H Q I h=>Calls.spliced_nil ([],H,I,.nil,h)
abbrev iK(X:Cx)(e:PySem.Expr)(b:List PySem.Expr):Prop:=starEach (e::b) X.21=(O,(eval e X.21))::starEach b X.21
theorem AA(C:PE X e f)(o:PA X b t)(hs:iK X e b:=by rfl):PA X (e::b) (An f t):=by
 intro d a s i H Q I h;rw[hs];show Calls.spliced_cons (eI (C a s i H _ I h) λu v w=>?_);let(x,z,q,r,q1):=w;show eI (o d a v i z _ q q1) λE D k=>by let(l,j,y,p,q2):=k;show (x::l,j,y,.cons r p,q2)
theorem fy(h:PE X a d)(b:starEach [a] X.21=(O,(eval a X.21))::starEach [] X.21:=by rfl):PA X [a] (An d Ce):=AA h AG b
def S5(t:TA):TE:=λf H Q=>t f H λd b=>d.3<=sizeLine/\∀p,b p=J->Q (.ref p) (upd b p (.tup d))
def Vc(t:TA):TE:=λf H Q=>t f H λd b=>d.3<=sizeLine/\∀p,b p=J->Q (.ref p) (upd b p (.lst d))
theorem AZ(h:PA X f t):PE X (.Tuple f m g) (S5 t):=by
 intro a s v H Q I l;show wpAny_Tuple_spliced (eI (h g a s v H _ I l) λj d (o,p,i,r,z,q)=>(by rw[←r.3];show z,(.ref d.4,upd p d.4 (.tup o),i.laid (λb u e=>zT _ e) (zp _) ?_,Y,q _ (i.18 (zp _)))));show(z,j,r,(_,zJ _ Y,Y,7))
theorem A4(h:PA X f t):PE X (.List f g) (Vc t):=by
 intro a s v H Q I l;show wpAny_List_spliced (eI (h g a s v H _ I l) λj d (o,p,i,r,z,q)=>(by rw[←r.3];show z,(.ref d.4,upd p d.4 (.lst o),i.laid (λb u e=>zT _ e) (zp _) ?_,Y,q _ (i.18 (zp _)))));show(z,j,0,r,zJ _ Y)
abbrev Sp:=ly->Hp->VK->XK->Prop
abbrev CXT:=List Env->Hp->lG->XK->Value->lG->Prop
structure gX(P:Program)(w:World)(K:FG)(mg:SV)(base:Heap)(A:Around)(outer:List Env)(s:lG)(H:Hp):Prop where
 frames:A.47=U outer
 mod:Mod K mg base
 bs:∀b o,base.13 b=U o->s.9 b=U o/\H b=J
 iR:base.10<=s.4
 gz:s.43 base outer
 jf:∀b∈gD outer,H b=J
 eA:gG P w H s.15
 bare:AllBare s.gens
def CE(d:List Env)(P:Program)(w:World)(H:Hp)(s:lG)(Q:VK)(u:Value)(b:lG):Prop:=
 ∃v f,b.os=s.os/\AllBare b.gens/\Un (gD d) [] H f s.15 b.15/\gG P w f b.15/\RelV v u/\Q v f
def CR(f:CXT)(b:List Env)(P:Program)(w:World)(H:Hp)(s:lG)(Q:VK)(E:XK)(r:Result)(d:lG):Prop:=
 match r with
 |.ok (.ret u)=>CE b P w H s Q u d
 |.ok _=>False
 |.error e=>f b H s E e d
structure AT(P:Program)(w:World)(K:FG)(mg:SV)(base:Heap)(CX:CXT)(k:Nat)(f:l7)(fd:FuncData)(ps:lr)(sp:Sp):Prop where
 len:∀vs H Q E,sp vs H Q E->vs.3=ps.3
 run:∀A outer s H b us vs Q E,eB k A->gX P w K mg base A outer s H->BindsTo s fd b (ps.zip us)->Vals vs us->sp vs H Q E ->
  codeAny (model P w) A (.call (.ref f) b) (CR CX outer P w H s Q E) s
theorem gX.make(e:gX P w g b base A f s H)(C)(a)(d):
  gX P w g b base (A.under (.builtin om (.ref C::a,d))) f s H:=(by first|show e.47| (simpa[Code.envs,pushEnvs]using e.47),e.mod,e.bs,e.iR,e.gz,e.jf,e.eA,e.73)
theorem gX.in1(e:gX P w f b base A d s H):
  gX P w f b base A.in1 d s H:=(e.47,e.mod,e.bs,e.iR,e.gz,e.jf,e.eA,e.73)
theorem Inv.iA(I:Inv X b d H s):gX X.14 X.w X.K X.mg X.39 X.A X.33 s H:=
 (I.ok.47,I.ok.mod,I.bs,Nat.le_trans I.ok.iR I.sz,I.33,I.stkFree,I.eA,I.73)
theorem Inv.after(I:Inv X m p H s)(h:CE X.33 X.14 X.w H s Q u f):EP X m p Q u f:=by
 let(v,l,j,a,un,i,r,q):=h;let(o,g,d,t,e):=f;obtain rfl:e=s.os:=j;show(v,l,I.call un i a (λb z=>absurd z (_)),r,q)
def M6(d:Sp)(b:ly)(E:XK)(t:TA):TE:=λg H Q=>t g H λvs f=>d (vs++b) f Q E
inductive ExM(C:l7)(m:Str)(x:V)(H:Hp)(k:Prop):Prop
 |mk (a dx) (fs) (b:x=.ref a) (d:H a=U (.ins C dx fs)) (f:fs.8 m=J) (q:k):ExM C m x H k
def Ko(C:l7)(m:Str)(d:Sp)(b:ly)(E:XK)(f:TE)(t:TA):TE:=λh H Q=>f h H λx g=>ExM C m x g (t h g λvs i=>d (x::(vs++b)) i Q E)
def S6(C:l7)(d:Sp)(b:ly)(E:XK)(t:TA):TE:=λi H Q=>t i H λvs g=>∀x f,g x=J->g f=J->f≠x ->
 d (.ref x::(vs++b)) (upd (upd g f (.own x)) x (.ins C f [])) (λv h=>v=.eJ/\Q (.ref x) h) E
def Binds(g:FG)(f:FuncData)(d:lr)(b:lx):Prop:=
 ∀s h,g.In s.15->(h++b).3=d.3->BindsTo s f (h,[]) (d.zip (h++b))
theorem Binds.all{d}(h:∀a,a.3=d.3->bindArgs b (a,[])=pure (d.zip a)):Binds f b d []:=λs a _ e=>by
 rw[zj]at e ⊢;show .of_eq (h a e)
def BS(b:CXT)(X:Cx)(E:XK):Prop:=∀f(g:St)H s e d,Inv X f g H s->b X.33 H s E e d->X.xe e d
theorem Lk(F:AT X.14 X.w X.K X.mg X.39 y k f z v A)(p:eB k X.A)(o:Binds X.K z v g)(q:Vals a g)(t:BS y X E)
  (I:Inv X m w H s) (r:Vals vs b) (h:A (vs++a) H Q E):gm X (call (.ref f) b) (EP X m w Q) X.xe s:=by
 let i:=r.append q;let j:(b++g).3=v.3:=by rw[←i.3];show F.len _ _ _ _ h
 show wpAny_call (codeAny_mono (F.run X.A X.33 s H (b,[]) (b++g) (vs++a) Q E p I.iA (o s b I.gq j) i h) λr l d=>?_);cases r with
 |error e=>show t m w H s e l I d
 |ok fl=>
  cases fl with
  |ret u=>show I.after d
  |next=>show False.elim d
  |brk=>show False.elim d
  |cont=>show False.elim d
theorem A0{k}{l}(F:AT X.14 X.w X.K X.mg X.39 m k f B l P)(z:eB k X.A)(D:Gl X x)(C:X.mg x=U (.ref f))(G:W.keepIn X.K (.ref f)=L)(u:Binds X.K B l A)(w:Vals i A)(v:BS m X E)
  (M:PA X (e::b) t) (j:iw x:=by decide) (y:iK X e b:=by rfl) (d:(backTo g (starEach b X.21)).any (·.1)=O:=by rfl):
  PE X (.Call (.Name x p) (e::b) [] g) (M6 P i E t):=by
 intro a s S H Q I h;show zZ (CP I D C (W.callWith_K I.81 G (eI (M g a s S H _ I h) λN T (vs,R,o,r,q)=>(o.gq,?_)) y d) j);show Lk F z u w v o r q
theorem Cy(N:PE X o B)(c:iQ X.K C)(z:Lj X.K C m f)(F:AT X.14 X.w X.K X.mg X.39 w k f fd ps sp)(S:eB k X.A)(A:Binds X.K fd ps Q)(P:Vals j Q)(M:BS w X E)(ha:PA X (e::g) t)
  (p:iK X e g:=by rfl) (i:(backTo b (starEach g X.21)).any (·.1)=im:=by rfl)
  (ht:eval (.Call (.Attribute o m u) (e::g) [] b) X.21=(do
   let v ←eval o X.21
   standAt u.atName
   let (f,first) ←holding [v] (getMethod v m pl)
   callWith b f first (backTo b (starEach (e::g) X.21)) (backToKw b (keywordEach [] X.21))):=by rfl):
  PE X (.Call (.Attribute o m u) (e::g) [] b) (Ko C m sp j E B t):=by
 intro d s G H al I h;show W.methodCall_KW (eI (N d s G H _ I h) λab T ag=>?_) ht;let(x,Y,y,O,a,dx,fs,R,L,l,q):=ag;subst R;obtain rfl:ab=Value.ref a:=O;apply JP y L c z l;show W.callWith_K I.81 z.kp (eI (ha b d T G Y _ y q) λus s2 n=>by let(vs,H2,D,r,q2):=n;show (D.gq,Lk (vs:=.ref a::vs) F S A P M D (.cons zd r) q2)) p i
theorem Bj{k}{p}{m}(z:PE X o P)(c:iQ X.K C)(r:Lj X.K C m f)(F:AT X.14 X.w X.K X.mg X.39 A k f fd p sp)(B:eB k X.A)(t:Binds X.K fd p T)(M:Vals e T)(y:BS A X E)
  (ht:eval (.Call (.Attribute o m g) [] [] b) X.21=(do
   let j ←eval o X.21
   standAt g.atName
   let (f,first) ←holding [j] (getMethod j m pl)
   callWith b f first (backTo b (starEach [] X.21)) (backToKw b (keywordEach [] X.21))):=by rfl):
  PE X (.Call (.Attribute o m g) [] [] b) (Ko C m sp e E P Ce):=by
 intro d s N H Q I h;show W.methodCall_KW (eI (z d s N H _ I h) λu ab w=>?_) ht;let(x,S,i,D,a,R,fs,G,v,l,q):=w;subst G;obtain rfl:u=Value.ref a:=D;apply JP i v c r l;show W.callWith_K0 i.gq r.kp (Lk (vs:=[.ref a]) F B t M y i (.cons Y .nil) q)
structure Mk(K:FG)(C f:l7):Prop where
 makes:W.makesIn K C=L
 init:W.findIn K (.ref C) lU=U (U (.ref f))
 fn:W.isFn K (.ref f)=L
 kp:W.keepIn K (.ref C)=L
theorem M7(M:Mk X.K C f)(F:AT X.14 X.w X.K X.mg X.39 B k f R w S)(D:eB (k+1) X.A)(q:Binds X.K R w g)(P:Vals d g)
  (y:BS B X E) (I:Inv X m A H s) (r:Vals vs b)
  (h:∀x j,H x=gt->H j=gt->j≠x->S (.ref x::(vs++d)) (upd (upd H j (.own x)) x (.ins C j [])) (λv p=>v=.eJ/\Q (.ref x) p) E):
  gm X (call (.ref C) b) (EP X m A Q) X.xe s:=by
 let l:=h (s.4+1) s.4 (I.18 (Nat.le_succ _)) (I.18 (zp _)) (_);let i:=Inv.made (C:=C) I;let o:Vals (V.ref (s.4+1)::(vs++d)) (Value.ref (s.4+1)::(b++g)):=.cons rfl (r.append P)
 let z:(Value.ref (s.4+1)::b++g).3=w.3:=by
  let e:=o.3;rw[F.len _ _ _ _ l]at e;show e.35
 show wpAny_call (M0 I.gq M.makes M.init (beq_iff_eq.mp M.fn) (codeAny_mono (F.run _ X.33 _ _ (Value.ref (s.4+1)::b,[]) (Value.ref (s.4+1)::(b++g)) _ _ E (D.make C b [])
  (i.iA.make C b []) (q _ (Value.ref (s.4+1)::b) i.gq z) o l) λr T a=>?_))
 cases r with
 |error e=>show y m A _ _ e T i a
 |ok fl=>
  cases fl with
  |ret u=>
   let(v,t,G,N,J,q3):=i.after a;subst J;show(N,(V.ref (s.4+1),t,G,Y,q3))
  |next=>show False.elim a
  |brk=>show False.elim a
  |cont=>show False.elim a
theorem Dh{k}{l}(M:Mk X.K C f)(F:AT X.14 X.w X.K X.mg X.39 m k f B l P)(z:eB (k+1) X.A)(G:Gl X x)(D:X.mg x=U (.ref C))(u:Binds X.K B l A)(w:Vals i A)(v:BS m X E)
  (N:PA X (e::b) t) (j:iw x:=by decide) (y:iK X e b:=by rfl) (d:(backTo g (starEach b X.21)).any (·.1)=O:=by rfl):
  PE X (.Call (.Name x p) (e::b) [] g) (S6 C P i E t):=by
 intro a s T H Q I h;show zZ (CP I G D (W.callWith_K I.81 M.kp (eI (N g a s T H _ I h) λab R (vs,S,o,r,q)=>(o.gq,?_)) y d) j);show M7 M F z u w v o r q
theorem S7(M:Mk X.K C f)(F:AT X.14 X.w X.K X.mg X.39 b k f m u v)(o:eB (k+1) X.A)(i:Gl X x)(q:X.mg x=U (.ref C))(j:Binds X.K m u g)(l:Vals d g)(r:BS b X E)
  (a:iw x:=by decide):PE X (.Call (.Name x p) [] [] w) (S6 C v d E Ce):=by
 intro e s t H Q I h;show zZ (CP I i q (W.callWith_K0 I.gq M.kp (M7 M F o j l r I .nil h)) a)
def PK(X:Cx)(b:List Keyword)(t:TA):Prop:=
 ∀g f s(d:St)H Q,Inv X f d H s->t d H Q->gm X (evalAll ((backToKw g (keywordEach b X.21)).5 (·.2))) (AP X f d Q) X.xe s
theorem Ll:PK X [] Ce:=λ_ _ _ _ H Q I h=>wpAny_evalAll_nil ([],H,I,.nil,h)
theorem JG(D:PE X e b)(p:PK X i t):PK X ((nm,e,kpos)::i) (An b t):=by
 intro d a s j H Q I h;show wpAny_evalAll_cons (zo (eI (D a s j H _ I h) λu y w=>by let(x,C,r,v,q1):=w;show zo (zF (zn (eI (p d a y j C _ r q1) λF E k=>by let(o,l,z,q,q2):=k;show (x::o,l,z,.cons v q,q2))))))
structure Oi(K:FG)(fd:FuncData)(ps ks:lr)(g:lx->lx->lx)(gV:ly->ly->ly):Prop where
 to:∀s us ws,K.In s.15->(g us ws).3=ps.3->BindsTo s fd (us,ks.zip ws) (ps.zip (g us ws))
 rel:∀{vs}{us}{b}{ws},Vals vs us->Vals b ws->Vals (gV vs b) (g us ws)
structure AH(N P:lr)(sc:Scope):Prop where
 kind:sc.kind=.function
 co:sc.isCoroutine=O
 gen:sc.isGenerator=O
 nd:N.29
 pre:N.20 P.3=P
 par:∀x∈P,sc.12 x=U .local\/sc.12 x=U .cell
 nofree:∀y∈sc.54,y.2≠ .free
theorem fG(a:h.kind=.function:=by show rfl)(b:h.isCoroutine=O:=by show rfl)(c:h.isGenerator=O:=by show rfl)(d:N.29:=by decide +kernel)(e:N.20 P.3=P:=by show rfl)(f:∀x∈P,h.12 x=U .local\/h.12 x=U .cell:=by decide +kernel)(g:∀y∈h.54,y.2≠ .free:=by decide +kernel):AH N P h:=(a,b,c,d,e,f,g)
theorem Kq{a}{x}:∀{binds}{m:SV},(∀v,(x,(v))∉ binds)->bindL a binds m x=m x
  | [],_,_=>rfl
  | (n,v)::r,m,h=>by
    unfold bindL;rw[Kq λw d=>h w (_)];split
    · grind
    · rfl
theorem Kr{a}{x}:∀{binds}{m:SV},(∀v,(x,(v))∉ binds)->bindC a binds m x=m x
  | [],_,_=>rfl
  | (n,v)::r,m,h=>by
    unfold bindC;rw[Kr λw d=>h w (_)];split
    · rfl
    grind
theorem Ks{a}:∀{P:lr}{vs}{i:Nat}{m:SV},P.29->P[i]?=U x->vs[i]?=U v->a x=U .local ->
  bindL a (P.zip vs) m x=U v
 | [],_,_,_,_,h,_,_=>by simp at h
 |_::_,[],_,_,_,_,h,_=>by simp at h
 |p::P,w::vs,0,m,j,b,f,g=>by
  simp at b f;subst b;subst f;change bindL a ((p,(w))::P.zip vs) m p=_;unfold bindL;rw[Kq λv d=>(zi.mp j).1 (of_mem_zip d).1,zf g];simp
 |p::P,w::vs,i+1,m,j,b,f,g=>by
  unfold bindL;show Ks (zi.mp j).2 (_) (_) g
theorem Ku{a}:∀{P:lr}{vs}{i:Nat}{m:SV},P.29->P[i]?=U x->vs[i]?=U v->a x≠U .local ->
  bindC a (P.zip vs) m x=U v
 | [],_,_,_,_,h,_,_=>by simp at h
 |_::_,[],_,_,_,_,h,_=>by simp at h
 |p::P,w::vs,0,m,j,b,f,g=>by
  simp at b f;subst b;subst f;change bindC a ((p,(w))::P.zip vs) m p=_;unfold bindC;rw[Kr λv d=>(zi.mp j).1 (of_mem_zip d).1,zg g];simp
 |p::P,w::vs,i+1,m,j,b,f,g=>by
  unfold bindC;show Ku (zi.mp j).2 (_) (_) g
noncomputable def start(N:lr)(vs:ly):St:=vs.5 U++List.replicate (N.3-vs.3) J
noncomputable def B9(d:CXT)(P:Program)(w:World)(g:FG)(mg:SV)(base:Heap)(N:lr)(qual:Str)(scope:Scope)(f:l7)(b:Value)(A:Around)(outer:List Env)(s:lG)(H:Hp)(E:XK):Cx where
 prog:=P
 w:=w
 K:=g
 mg:=mg
 base:=base
 A:=A.56 (envOfC qual scope s.4 f b)
 N:=N
 f9:=s
 g8:=H
 env:=envOfC qual scope s.4 f b
 outer:=outer
 stack:=envOfC qual scope s.4 f b::outer
 ex:=[]
 calm:=L
 fn:=λ_=>L
 pn:=[]
 xe:=λe j=>wpAny (model P w) (A.56 (envOfC qual scope s.4 f b)) (leaving (envOfC qual scope s.4 f b) e) (λ_ h=>d outer H s E e h) (λi h=>d outer H s E i h) j
theorem M8{b:Scope}(h:b.12 x=U .cell):∃c,(cellsFrom n b.54 []).8 x=U c:=by
 show Option.isSome_iff_exists.mp (W.cellsFrom_some b.54 n [] (.inl h))
theorem Hs           
  (S:AH N g scope) (M:A.49=J) (d:gX P w T B base A Q s H) (al:vs.3=g.3) (r:Vals vs R)
  (x:InCallC s s.4 (bindL (envOfC qual scope s.4 f m).kindOf (g.zip R) λ_=>J) (cellsFrom (s.4+1) scope.54 []) (bindC (envOfC qual scope s.4 f m).kindOf (g.zip R) λ_=>J) X):
  Inv (B9 CX P w T B base N qual scope f m A Q s H E) [] (start N vs) H X:=by
 let ag:g.3<=N.3:=by have:=congrArg List.length S.pre;rw[zr]at this;lia
 let(D,ar,rfl,I):=x.done;let j:∀b,b∉ (B9 CX P w T B base N qual scope f m A Q s H E).ex:=λb z=>absurd (show b∈([])from z) (_)
 show((d.mod,S.kind,Y,Y,zp _,λy z c D l=>?_,λy o=>?_,λy c _ h=>?_,λ_=>M,Around.frames_deeper d.47,.inr (Y,Y),λb z=>absurd z (j b),d.bs,d.iR,λb _ _=>j b,λb z=>absurd z (j b),d.gz,d.jf),
  rfl,d.73,Un.kept I,(_,x.toInCall.ns,λi y v D l an=>?_),λy c h=>(_,x.cell y c h),d.18 (zp _),λy c h=>?_,λp C=>absurd (show p∈([])from C) (_),d.eA.75 I,?_)
 ·show name_of_addr x.apart (PySem.mem_of_lookup D) (PySem.mem_of_lookup l)
 ·let o||o:=o
  ·show M8 o
  ·show absurd Y (S.nofree _ (PySem.mem_of_lookup o))
 ·show Nat.le_of_lt (x.above y c (PySem.mem_of_lookup h))
 ·have G:i<vs.3:=by
   unfold start at l;by_cases G:i<vs.3
   ·show G
   ·grind
  let ab:vs[i]?=U v:=by
   unfold start at l;rw[List.getElem?_append_left (_)]at l;cases e:vs[i]? with
   |none=>ext
   |some a=>ext
  let(u,F,L):=r.get ab
  let C:g[i]?=U y:=by
   rwa[←S.pre,List.getElem?_take_of_lt ()]
  let t:g.29:=by rw[←S.pre];show S.nd.sublist (_)
  show(u,L,?_);let k||k:=S.par y (by grind)
  ·show .inl (k,Ks t C F k)
  ·let(c,e):=M8 k;show .inr (.inl k,c,e,?_);let q:=x.cell y c e
   rwa[Ku t C F (by change scope.12 y≠_;ext)]at q
 ·show d.18 (Nat.le_of_lt (x.above y c (PySem.mem_of_lookup h)))
 ·unfold start;change _=N.3
  ext
theorem P4{P}{w}{l:FG}{base}{r}{p}{k}{f}{as qual}{a}{h}{scope}{B kV G X d R oc}{M od}
  {aC}{N m}{z} (lk:l.8 f=U (oc,od,.func (W.fnOf as qual a h scope B kV G X M d R),aC)) (az:W.codeIn l d qual=ii) (S:AH N m scope)
  (len:∀vs H Q E,z vs H Q E->vs.3=m.3)
  (aM:∀A g s H vs Q E,eB k (A.56 (envOfC qual scope s.4 f d))->z vs H Q E ->
   ∃t,hA (B9 p P w l r base N qual scope f d A g s H E) h t/\t {nx:=λ_ j=>Q .eJ j,rt:=Q} (start N vs) H):
  AT P w l r base p (k+1) f (W.fnOf as qual a h scope B kV G X M d R) m z:=by
 show(len,λA g s H a1 us vs Q E ag D hb aR F=>?_);let hl:=len _ _ _ _ F;let ar:=D.mod.iL.79 λb o e=>(D.bs b o e).1
 let a0:∀y∈m.zip us,scope.12 y.1=U .local\/(scope.12 y.1=U .cell/\((cellsFrom (s.4+1) scope.54 []).8 y.1).26=ii):=λ(n,v) hy=>by
  let q||q:=S.par n (of_mem_zip hy).1
  ·ext
  ·show .inr (q,W.cellsFrom_some _ _ _ (.inl q))
 show codeAny_call_function ag.depth (ar _ _ lk) Y S.co S.gen Y (W.codeRec_of ar az) (hb _ _ _ _ (wpAny_newFunctionEnv_cells S.kind a0 λenv he s1 x=>?_));subst he;show((D.mod.nolimit.79 λb o e=>(D.bs b o e).1).79 x.toInCall.34,codeAny_func ?_);let(t,ht,hq):=aM A g s H vs Q E (ag.56 _) F;show zm (ht [] s1 (start N vs) H _ (Hs S ag.hd D hl aR x) hq) (λfl T C=>?_) λe T C=>C
 let I:∀{i:St}{j:Hp}{v:V}{u:Value},Inv (B9 p P w l r base N qual scope f d A g s H E) [] i j T->RelV v u->Q v j->CE g P w H s Q u T:=
  λ{i j v u}ab al q=>(v,j,ab.os,ab.73,ab.39,ab.eA,al,q)
 cases fl with
 |ret u=>
  let(v,i,j,ab,al,q):=C;show I ab al q
 |next=>
  let(i,j,ab,q):=C;show I (v:=V.eJ) ab Y q
 |brk=>
  let(_,_,_,q):=C;show False.elim q
 |cont=>
  let(_,_,_,q):=C;show False.elim q
def tCB(r:ly->Hp->VK->Prop)(t:TA):TE:=λd H Q=>t d H λvs b=>r vs b Q
theorem AS{X}{d}{x}{e}{p}{b}{t}{id}{r}(q:eW X (.builtin id) r)(E:Gl X x)(D:X.mg x=J)(o:bootBuiltins x=U (.builtin id))(f:PA X (e::b) t)(z:x≠ mY:=by decide)(j:iw x:=by decide)
  (u:iK X e b:=by rfl) (i:(backTo d (starEach b X.21)).any (·.1)=O:=by rfl):PE X (.Call (.Name x p) (e::b) [] d) (tCB r t):=by
 intro a s l H Q I h;show zZ (F3 I E D o (PyProof.Rows.callWith_builtin1 (eI (f d a s l H _ I h) λv F w=>by let(vs,G,y,C,q1):=w;show q a F l G vs v Q y C q1) u i) z j)
theorem Ay{T}(o:eW X (.type T) r)(D:Gl X x)(C:X.mg x=J)(l:bootBuiltins x=U (.type T))(G:PA X (e::b) t)(y:x≠ mY:=by decide)(i:iw x:=by decide)
  (q:iK X e b:=by rfl) (d:(backTo f (starEach b X.21)).any (·.1)=O:=by rfl):PE X (.Call (.Name x p) (e::b) [] f) (tCB r t):=by
 intro a s j H Q I h;show zZ (F3 I D C l (PyProof.Rows.callWith_type1 (eI (G f a s j H _ I h) λu E w=>by let(vs,F,v,z,q1):=w;show o a E j F vs u Q v z q1) q d) y i)
end
end L2
namespace HT
open PySem PyProof.Rows
theorem cat_tup(ht:IsTup s.15 t vs.11)(x:IsTup s.15 b f.11)(D:vs≠ [])
  (y:f=[]->Q (.ref t) s) (u:f≠ []->Q (.ref s.4) {s with heap:=s.23 {cls:=.type mm,data:=.seq (vs++f).11}})
  (z:vs.3+f.3<=sizeLine):wpAny (model prog w) A (binaryOp .Add (.ref t) (.ref b)) Q E s:=by
 let((cls,q,data,sl),h,v,n,C):=id ht;let((r,d,l,ig),a,i,p,o):=id x;subst v C i o;let e:vs.11++f.11=(vs++f).11:=by simp
 by_cases j:f=[]
 ·show concat_meets (_,h,Y) (_,a,Y) noFill_tuple_add seq_tuple_add slot_tuple_add entry_tuple_add (args_tuple_add_2 _ _)
   (tuple_addW1 t b vs.11 f.11 n p q d sl ig (_) (by simp[j])) (h,a,y j)
 ·show concat_meets (_,h,Y) (_,a,Y) noFill_tuple_add seq_tuple_add slot_tuple_add entry_tuple_add (args_tuple_add_2 _ _)
   (tuple_addW2 t b vs.11 f.11 n p q d sl ig (_) (_) qe) (h,a,?_)
  rw[e];show u j
end HT
namespace L2
open PySem PySem.Spec PyProof.Rows
mutual
abbrev TO:=St->Hp->(Option Int->Hp->Prop)->Prop
def PO(X:Cx)(e:Option Expr)(t:TO):Prop:=
 ∀f s(b:St)H Q,Inv X f b H s->t b H Q ->
  gm X (evalPart e X.21) (λu g=>∃o d,Inv X f b d g/\IsPart u o/\Q o d) X.xe s
def Vd:TO:=λ_ H Q=>Q J H
def Y7(t:TE):TO:=λd H Q=>t d H λx b=>∃i,x=.int i/\Q (U i) b
theorem D8:∀{a},Vals (d.5 V.int) a->IntsAre a d:=by
 induction d with
 |nil=>intro a r;cases r;show .nil
 |cons n d j=>
  intro a r;cases r with
  |cons i h=>
   let(t,e):=i;subst e;show .cons n t (j h)
theorem Lm:PO X J Vd:=by
 intro a s d H Q I h;rw[evalPart_none];show zn (J,H,I,.none,h)
theorem D9(h:PE X e b):PO X (U e) (Y7 b):=by
 intro a s o H Q I p;show eI (h a s o H _ I p) λu r z=>?_;let(x,j,d,l,q1):=z;let(i,rfl,q):=q1;let(t,rfl):=l;show(U i,j,d,.int i t,q)
def SlR(X:Cx)(r:V->Option Int->Option Int->Hp->VK->Prop):Prop:=
 ∀b s(h:St)H x v f g lo d sl Q,Inv X b h H s->RelV x v->s.heap.IsSliceOf sl f g .none->IsPart f lo->IsPart g d->r x lo d H Q ->
  ∃T id,typeLookup (.type T) "__getitem__"=pure (U (.builtin id))/\s.TypeIs v T/\gm X (getItem v (.ref sl)) (EP X b h Q) X.xe s
def tSl(r:V->Option Int->Option Int->Hp->VK->Prop)(b:TE)(f d:TO):TE:=λg H Q=>b g H λx h=>f g h λl i=>d g i λu j=>r x l u j Q
theorem Ey{lo j}(G:SlR X r)(F:PE X e f)(E:PO X lo C)(z:PO X j g):PE X (.Subscript e (.Slice lo j gt A) B) (tSl r f C g):=by
 intro a s d H Q I h;show Subscript_ (eI (F a s d H _ I h) λv R w=>?_);let(x,Y,M,N,q1):=w;show wpAny_Slice (eI (E a R d Y _ M q1) λo D (l,y,S,pl,q2)=>eI (z a D d y _ S q2) λp i m=>?_);let(u,U,J,L,q3):=m;apply zn;let(T,id,t,ht,O):=G a {i with heap:=i.23 {cls:=.type "slice",data:=.fields #[o,p,.none]}} d U x v o p l u i.4 Q (J.75 λb P q=>zT _ q) N (Heap.IsSliceOf.new ..) pl L q3;show tail_any ht t O (by rfl)
def P5(d:FG):R2:=λx y H Q=>∃a b g f,x=.ref a/\y=.ref b/\eO d H a g/\eO d H b f/\g≠ []/\g.3+f.3<=sizeLine /\
 (f=[]->Q (.ref a) H)/\(f≠ []->∀p,H p=J->Q (.ref p) (upd H p (.tup (g++f))))
theorem Vals.nil_iff(r:Vals d b):b=[] ↔ d=[]:=by
 cases r with
 |nil=>simp
 |cons _ _=>simp
theorem Ve:gx X (binaryOp .Add) (P5 X.K):=by
 rintro h s f H x y v u Q I p t ⟨a,b,F,G,rfl,rfl,D,l,o,g,q1,q2⟩;cases p;cases t;let(r,e,j,_):=I.tuple D;let(i,d,C,_):=I.tuple l;show HT.cat_tup j C (λz=>o (e.nil_iff.mp z)) (λz=>(.ref a,H,I,Y,q1 (d.nil_iff.mp z))) (λz=>(.ref s.4,_,I.laid (λb E q=>zT _ q) (zp _) ?_,Y,q2 (λw=>z (d.nil_iff.53 w)) _ (I.18 (zp _)))) (by rwa[←e.3,←d.3]);show(by simp_all,_,e.append d,IsTup.new _ _)
noncomputable def i5(n:Nat)(i:Int):Option Nat:=if 0<=i then (if i<n then U i.32 else J)else if -(n)<=i then U (i+n).32 else J
def iS{d:Type}(b:List d)(i:Int):Option d:=(i5 b.3 i).bind λj=>b[j]?
theorem P6(h:i5 n i=U j):seqIndex? i n=U j/\j<n/\-(n)<=i/\i<n:=by
 unfold i5 at h;by_cases d:0<=i
 ·rw[zf d]at h;by_cases a:i<n
  ·rw[zf a]at h;let e:=Option.some.inj h;show(by rw[seqIndex_of d a,e],by lia,by lia,a)
  ext
 ·rw[zg d]at h;by_cases a:-n<=i
  ·rw[zf a]at h;let e:=Option.some.inj h;show(by rw[seqIndex_neg () a,e],by lia,a,by lia)
  ext
theorem Ln{f}{b}{v:f}(h:iS b i=U v):∃j,seqIndex? i b.3=U j/\b[j]?=U v/\j<b.3/\-(b.3:Int)<=i/\i<b.3:=by
 unfold iS at h;cases e:i5 b.3 i with
 |none=>ext
 |some j=>
  let(o,d,a,l):=P6 e
  ext
theorem BW{d}{b}{j:Nat}{v:d}(h:b[j]?=U v):iS b (j:Int)=U v:=by
 let a:=(z8.mp h).1
 let e:i5 b.3 j=U j:=by
  unfold i5;rw[zf (),zf ()];simp
 unfold iS;rwa[e]
def P7(b:Expr):Prop:=∀o i,subscripted b O o i=operate [o,i] (getItem o i)
def IxR(X:Cx)(r:R2):Prop:=
 ∀g d b s(f:St)H x y v u Q,Inv X b f H s->RelV x v->RelV y u->r x y H Q ->
  subscripted d O v u=operate [v,u] (getItem v u)->gm X (subscriptTail g d v u) (EP X b f Q) X.xe s
def MtR(X:Cx)(id:String)(r:V->ly->Hp->VK->Prop):Prop:=
 ∀b s(g:St)H x f v d Q,Inv X b g H s->RelV x v->Vals f d->r x f H Q ->
  gm X (call (.builtin id) (v::d)) (EP X b g Q) X.xe s
theorem Am(o:IxR X r)(D:PE X a z)(i:PE X b g)(f:P7 b):PE X (.Subscript a b m) (jQ r z g):=by
 intro d s C H Q I h;show Subscript_ (Xh D i I h λv u j x y e t l p q=>o a b d j C e x y v u Q t l p q (f _ _))
inductive ExrIxL(b:FG)(x y:V)(H:Hp)(k:V->Prop):Prop
 |mk (p) (xs) (i) (v) (d:x=.ref p) (f:y=.int i) (g:dY b H p xs) (h:iS xs i=U v) (q:k v):ExrIxL b x y H k
def Y8(b:FG):R2:=λx y H Q=>ExrIxL b x y H λv=>Q v H
inductive ExrIxT(b:FG)(x y:V)(H:Hp)(k:V->Prop):Prop
 |mk (p) (xs) (i) (v) (d:x=.ref p) (f:y=.int i) (g:eO b H p xs) (h:iS xs i=U v) (q:k v):ExrIxT b x y H k
def Xm(b:FG):R2:=λx y H Q=>ExrIxT b x y H λv=>Q v H
def bJ:R2:=λx y H Q=>∃z i c,x=.str z/\y=.int i/\z.3<=sizeLine/\iS z.6 i=U c/\Q (.str ⟨#[c]⟩) H
theorem Vf:IxR X (Y8 X.K):=by
 intro E D g s B H x y v u Q I o A h f;let(p,xs,i,z,rfl,rfl,hq,he,q):=h;cases o;let(t,rfl):=A;let(its,r,pl,hz):=I.list hq;let(j,h1,h2,h3,h4,h5):=Ln he;let(w,ew,rw'):=r.get h2;let m:=r.3;let C:=Ho;let b:EP X g B Q w s:=(z,H,I,rw',q);by_cases d:0<=i
 ·have l:i.32=j:=by
   rw[seqIndex_of d h5]at h1;show Option.some.inj h1
  show item_listR pl.59 d () (_) b f
 ·have l:(i+its.toArray.27).32=j:=by
   rw[seqIndex_neg () h4]at h1;rw[size_toArray,←m];show Option.some.inj h1
  show subscriptTail_builtinR pl.isList.46 slot_list_getitem.8
   (wpAny_getItem_list_neg pl.59 () (_) () (_) (rfl,b)) f
theorem Xn:IxR X (Xm X.K):=by
 intro A o g s B H x y v u Q I d f h b;let(p,xs,i,z,rfl,rfl,hq,he,q):=h;cases d;let(t,rfl):=f;let(its,r,pl,hz):=I.tuple hq;let(j,h1,h2,h3,h4,h5):=Ln he;let(w,ew,rw'):=r.get h2;let l:=r.3;let m:=Ho
 show subscriptTail_builtinR pl.46 slot_tuple_getitem.8
  (getItem_tuple (j:=j) pl () () (_) (_) (rfl,(z,H,I,rw',q))) b
theorem Lo:IxR X bJ:=by
 intro p o g s r H x y v u Q I d f h b;let(z,i,c,rfl,rfl,hz,he,q):=h;let(t,rfl):=d;let(t',rfl):=f;let(j,h1,h2,h3,h4,h5):=Ln he;let l:z.cps.58=z.3:=by simp[Str.length]
 let m:=Ho
 show tail_any (typeIs_str s z t) slot_str_getitem.8 (getItem_str (by
  grind) (_) (.str ⟨#[c]⟩,H,I.tok _,(_,rfl),q)) b
theorem Oj(b:lx)(n j)(u):Obj.mapSeq (·.22 j u) {cls:=.type md,data:=.seq b.11 n}={cls:=.type md,data:=.seq (b.set j u).11 n}:=by
 simp[Obj.mapSeq]
theorem Inv.lst{X}{a}{f:St}{H}{s}{p}{d}(I:Inv X a f H s)(h:H p=U (.lst d)):
  ∃(b:lx)(n:Nat),Vals d b/\s.9 p=U {cls:=.type md,data:=.seq b.11 n}/\d.3<=sizeLine:=by
 let(z,b,n,r,e):=I.eA p _ h
 ext
theorem Inv.lstUpd{H}{s}{g}{m a:lx}(I:Inv X o w H s)(h:H p=U (.lst y))
  (l:s.9 p=U {cls:=.type md,data:=.seq m.11 n}) (d:f {cls:=.type md,data:=.seq m.11 n}={cls:=.type md,data:=.seq a.11 i}) (r:Vals g a) (v:g.3<=sizeLine) (t):
  Inv X o w (upd H p (.lst g)) {s with heap:=s.heap.65 p f,toks:=t}:=by
 let e:(s.heap.65 p f).13 p=U {cls:=.type md,data:=.seq a.11 i}:=by
  rw[zQ f l (by rw[d]<;>rfl),d]
 show I.write (by rw[h];trivial) (.inl Y) (λb u j q=>(zS _ _ (Ne.symm j)).7 q) (_,e) ?_;show(v,a,i,r,e)
def Y9:V->V->V->Hp->(Hp->Prop)->Prop:=λo i v H Q=>∃p b k j,o=.ref p/\i=.int k/\H p=U (.lst b)/\i5 b.3 k=U j/\Q (upd H p (.lst (b.set j v)))
theorem Gs:Y3 X Y9:=by
 rintro z s E H o i v C B u Q I m l w ⟨p,D,k,j,rfl,rfl,d,f,q⟩;cases m;let(t,rfl):=l;let(its,n,r,ho,hz):=I.lst d;let(h1,h2,h3,h4):=P6 f;let h:=r.3;let A:=Ho
 let y:=
  I.lstUpd d ho (Oj its n j u) (r.set w j) (_) s.62
 by_cases b:0<=k
 ·have g:k.32=j:=by
   rw[seqIndex_of b h4]at h1;show Option.some.inj h1
  show W.ki_setAt ho b () (_) (_)
 ·have g:(k+its.toArray.27).32=j:=by
   rw[seqIndex_neg () h3]at h1;rw[size_toArray,←h];show Option.some.inj h1
  show W.ki_setBack ho () (_) () (_)
noncomputable def Gu:V->Bool
 |.eJ=>L
 |.bl _=>L
 |.int _=>L
 |.str _=>L
 |_=>O
noncomputable def j9:V->V->Bool
 |.eJ,.eJ=>L
 |.bl a,.bl b=>a==b
 |.bl a,.int b=>(if a then 1 else 0)==b
 |.int a,.bl b=>a==(if b then 1 else 0)
 |.int a,.int b=>a==b
 |.str a,.str b=>a==b
 |_,_=>O
theorem Xo(h:RelV y u)(d:RelV x v)(j:Gu y=true)(i:Gu x=true):SeqAt.EqAt A s u v (j9 y x):=by
 cases y with
 |eJ=>
  cases h;cases x with
  |eJ=>cases d;show SeqAt.EqAt.same _
  |bl b=>cases d;show SeqAt.EqAt.none_bool b
  |int b=>let(t,rfl):=d;show SeqAt.EqAt.none_int b t
  |str b=>let(t,rfl):=d;show SeqAt.EqAt.none_str b t
  |_=>show absurd (i) Bool.false_ne_true
 |bl a=>
  cases h;cases x with
  |eJ=>cases d;show SeqAt.EqAt.bool_none a
  |bl b=>cases d;show SeqAt.EqAt.bool_bool a b
  |int b=>let(t,rfl):=d;show SeqAt.EqAt.bool_int a b t
  |str b=>let(t,rfl):=d;show SeqAt.EqAt.bool_str a b t
  |_=>show absurd (i) Bool.false_ne_true
 |int a=>
  let(e,rfl):=h;cases x with
  |eJ=>cases d;show SeqAt.EqAt.int_none a e
  |bl b=>cases d;show SeqAt.EqAt.int_bool a e b
  |int b=>let(t,rfl):=d;show SeqAt.EqAt.int_int a e b t
  |str b=>let(t,rfl):=d;show SeqAt.EqAt.int_str a e b t
  |_=>show absurd (i) Bool.false_ne_true
 |str a=>
  let(e,rfl):=h;cases x with
  |eJ=>cases d;show SeqAt.EqAt.str_none a e
  |bl b=>cases d;show SeqAt.EqAt.str_bool a e b
  |int b=>let(t,rfl):=d;show SeqAt.EqAt.str_int a e b t
  |str b=>let(t,rfl):=d;show SeqAt.EqAt.str_str a e b t
  |_=>show absurd (i) Bool.false_ne_true
 |_=>show absurd (j) Bool.false_ne_true
def jg(x:V)(u:Value):Bool:=match u with
 |.none=>j9 .eJ x
 |.bool b=>j9 (.bl b) x
 |.int i _=>j9 (.int i) x
 |.str z _=>j9 (.str z) x
 |_=>O
theorem S8(r:RelV y u)(f:Gu y=L):jg x u=j9 y x:=by
 cases y with
 |eJ=>cases r;rfl
 |bl b=>cases r;rfl
 |int i=>let(t,rfl):=r;rfl
 |str z=>let(t,rfl):=r;rfl
 |_=>trivial
theorem Gv:∀{b}{a},Vals b a->b.all Gu=L->a.any (jg x)=b.any λy=>j9 y x
 |_,_,.nil,_=>rfl
 |y::b,u::a,.cons r t,f=>by
  rw[List.all_cons,Bool.and_eq_true]at f;rw[any_cons,any_cons,S8 r f.1,Gv t f.2]
theorem Ez(e:RelV x v)(h:Gu x=L):∀{b}{d},Vals b d->b.all Gu=L->∀u∈d,SeqAt.EqAt A s u v (jg x u)
 |_,_,.nil,_=>λu a=>by cases a
 |y::b,u::d,.cons r t,f=>λi a=>by
  rw[List.all_cons,Bool.and_eq_true]at f;let rfl||a:=mem_cons.mp a
  ·rw[S8 r f.1];show Xo r e f.1 h
  ·show Ez e h t f.2 i a
def iG(x:V)(b:ly):Bool:=b.any λy=>j9 y x
def rIn(b:FG)(d:Bool):R2:=λx y H Q=>∃p f,y=.ref p/\(dY b H p f\/eO b H p f)/\Gu x=L/\f.all Gu=L/\Q (.bl (if d then !iG x f else iG x f)) H
theorem Fb:gx X (compareOp .In) (rIn X.K O):=by
 rintro e s z H x y v u Q I i l ⟨p,t,rfl,d,h,fs,q⟩;cases l;let d||d:=d
 ·let(a,r,pl,o):=I.list d;show SeqAt.in_listAt (jg x) pl.59 (λw j=>Ez i h r fs w (_)) (.bl _,H,I,Y,?_)
  rwa[show a.toArray.any (jg x)=a.any (jg x) by simp,Gv r fs]
 ·let(a,r,pl,o):=I.tuple d;show SeqAt.in_tupleAt (jg x) pl (λw j=>Ez i h r fs w (_)) (.bl _,H,I,Y,?_)
  rwa[show a.toArray.any (jg x)=a.any (jg x) by simp,Gv r fs]
theorem Lp:gx X (compareOp .NotIn) (rIn X.K L):=by
 rintro e s z H x y v u Q I i l ⟨p,t,rfl,d,h,fs,q⟩;cases l;let d||d:=d
 ·let(a,r,pl,o):=I.list d;show SeqAt.notIn_listAt (jg x) pl.59 (λw j=>Ez i h r fs w (_)) (.bl _,H,I,Y,?_)
  rwa[show a.toArray.any (jg x)=a.any (jg x) by simp,Gv r fs]
 ·let(a,r,pl,o):=I.tuple d;show SeqAt.notIn_tupleAt (jg x) pl (λw j=>Ez i h r fs w (_)) (.bl _,H,I,Y,?_)
  rwa[show a.toArray.any (jg x)=a.any (jg x) by simp,Gv r fs]
theorem Gw:eW X (.builtin "len") (λd H Q=>∃p b,d=[.ref p]/\(dY X.K H p b\/eO X.K H p b)/\Q (.int b.3) H):=by
 rintro h s l H d j Q I r ⟨p,b,rfl,f,q⟩;let(u,rfl,rx):=Bq r;cases rx;let i:=Ho;let f||f:=f
 ·let(its,r',pl,hz):=I.list f;let g:=r'.3;show Calls.call_len_list pl.59 (_) (.int b.3,H,I.tok _,(s.62+1,by ext),q)
 ·let(its,r',pl,hz):=I.tuple f;let g:=r'.3;show len_tuple pl (_) (.int b.3,H,I.tok _,(s.62+1,by ext),q)
theorem A7:eW X (.builtin "len") (λb H Q=>∃z,b=[.str z]/\z.3<=sizeLine/\Q (.int z.3) H):=by
 rintro d s i H b h Q I r ⟨z,rfl,g,q⟩;let(u,rfl,t,rfl):=Bq r;let f:=Ho;show len_str () (.int z.3,H,I.tok _,(_,Y),q)
theorem eW.or(h:eW X f r)(g:eW X f j):eW X f (λb H Q=>r b H Q\/j b H Q):=by
 intro a s i H b e Q I d q;let q||q:=q
 ·show h a s i H b e Q I d q
 ·show g a s i H b e Q I d q
theorem Fq:eW X (.type mm) (λg H Q=>∃p f,g=[.ref p]/\((dY X.K H p f/\∀l,H l=J->Q (.ref l) (upd H l (.tup f)))\/(eO X.K H p f/\Q (.ref p) H))):=by
 rintro j s E H g D Q I r ⟨p,f,rfl,h⟩;let(u,rfl,y):=Bq r;cases y;let(d,q)||(d,q):=h
 ·let(a,i,pl,x):=I.list d;let t:=i.3;show call_tuple_list pl.59 (λC kp=>?_) (_);let v:=I.75 (t':=s.62) kp
  let z:=
   v.laid (t':=s.62) (λb o e=>zT _ e) (zp _) (show fY X.14 X.w _ _ _ (.tup f)from(x,a,i,IsTup.new _ _))
  show(.ref C.10,_,z,Y,q _ (v.18 (zp _)))
 ·let(a,i,pl,x):=I.tuple d;show call_tuple_same pl (.ref p,H,I,Y,q)
def tyV(b:FG)(T:String)(x:V)(H:Hp):Prop:=match x with
 |.str _=>T=qD
 |.int _=>T=qC
 |.ref p=>(T=md /\ ∃f,dY b H p f)\/(T=mm /\ ∃o,b.8 p=U o/\o.78=.type mm /\ o.dict=J) \/
   (T=mH /\ ((∃d,H p=U (.dK d))\/∃d,H p=U (.dT d)))\/(T=qF /\ ∃S n,H p=U (.set S n))
 |_=>False
theorem S9(I:Inv X b f H s)(r:RelV x v)(ty:tyV X.K T x H):
  s.TypeIs v T/\∀a,v=.ref a->∃q,s.9 a=U q/\q.dict=J:=by
 cases x with
 |str z=>
  let(t,rfl):=r;cases (ty);show(typeIs_str s z t,λ_ e=>nomatch e)
 |int i=>
  let(t,rfl):=r;cases (ty);show(typeIs_int s i t,λ_ e=>nomatch e)
 |ref p=>
  cases r;let(rfl,E,y)||(rfl,o,d,D,u)||(rfl,d)||(rfl,S,n,d):=ty
  ·let(C,_,pl,_):=I.list y;show(pl.isList.46,λa e=>?_);cases e;let(o,n,e,c,u,_):=pl
   ext
  ·show((o,I.gq p o d,D),λa e=>?_);cases e;show(o,I.gq _ o d,u)
  ·have z:∃o,s.9 p=U o/\o.ExactDict:=by
    let(l,d)||(l,d):=d
    ·let(_,_,_,_,o,_,_,e,h,_):=I.eA p _ d
     ext
    ·let(_,_,_,_,o,_,_,e,h,_):=I.eA p _ d
     ext
   let(o,e,h):=z;show((o,e,h.1),λa j=>?_);cases j;show(o,e,h.2.1)
  ·let(o,_,_,_,e,h,_):=I.eA p _ d;show((o,e,h.1),λa j=>?_);cases j;show(o,e,h.2.1)
 |_=>trivial
def bP(b:FG)(T:String)(r:V->ly->Hp->VK->Prop)(to:TE):TE:=λf H Q=>to f H λx d=>tyV b T x d/\r x [] d Q
def tBM(b:FG)(T:String)(r:V->ly->Hp->VK->Prop)(to:TE)(t:TA):TE:=λf H Q=>to f H λx d=>tyV b T x d/\t f d λh g=>r x h g Q
theorem F6{X}{o}{to}{a}{i e}{T id}{r}(D:PlainAttrs T)(p:Slot T a id)(q:typeOf (.builtin id)=pure (.type o5))(F:MtR X id r)(E:PE X o to)
  (l:attributeBase o a X.21 (eval o X.21)=eval o X.21:=by rfl) (j:(i.endLine==e.68)=L:=by rfl):PE X (.Call (.Attribute o a i) [] [] e) (bP X.K T r to):=by
 intro d s y H Q I h;show wpAny_Call_method0_late l j (eI (E d s y H _ I h) λv G w=>?_);let(x,J,t,u,ty,q1):=w;let(C,z):=S9 t u ty;show(T,id,D,p,q,C,z,Calls.callWith_builtin Y (PySem.evalArgs_none (F d G y J x [] v [] Q t u .nil q1)))
theorem Ft{X}{e}{o}{b}{to}{t}{i}{j a}{T id}{r}(f:PlainAttrs T)(q:Slot T i id)(z:typeOf (.builtin id)=pure (.type o5))(S:MtR X id r)(g:PE X o to)(m:PA X (e::b) t)
  (p:attributeBase o i X.21 (eval o X.21)=eval o X.21:=by rfl)
  (u:((backTo a (starEach (e::b) X.21)).all (λx=>!x.1)&&(backToKw a (keywordEach [] X.21)).all (λx=>x.1.26)
   && decide ((e::b).3+([]:List Keyword).3+(if ([]:List Keyword).isEmpty then 0 else 1)<30))=L:=by rfl)
  (l:(j.endLine==a.68)=L:=by rfl) (A:iK X e b:=by rfl) (y:(backTo a (starEach b X.21)).any (·.1)=O:=by rfl):
  PE X (.Call (.Attribute o i j) (e::b) [] a) (tBM X.K T r to t):=by
 intro d s C H Q I h;show wpAny_Call_method_late p u l Y (eI (g d s C H _ I h) λv P w=>?_);let(x,H1,E,F,ty,q1):=w;let(M,J):=S9 E F ty;show(T,id,f,q,z,M,J,?_);let D:=m a d P C H1 _ E q1;rw[A]at D ⊢;show Calls.callWith_builtin (by assumption) (Calls.evalArgs_plain (eI D λN B k=>by let(vs,G,Z,R,q2):=k;show S d B C G x vs v N Q Z F R q2))
def MtM(X:Cx)(id:String)(r:V->ly->Hp->VK->Prop):Prop:=
 ∀b s(g:St)H x f v d Q,Inv X b g H s->RelV x v->Vals f d->r x f H Q ->
  gm X (call (.builtin id) (v::d)) (EP X b g Q) X.xe s
theorem Vals.one:∀{x}{a},Vals [x] a->∃u,a=[u]/\RelV x u
 |_,_,.cons r .nil=>(_,rfl,r)
theorem Vals.zero:∀{a},Vals [] a->a=[]
 |_,.nil=>rfl
theorem Vals.dropLast(h:Vals f b):Vals f.dropLast b.dropLast:=by
 induction h with
 |nil=>show .nil
 |cons r t a=>
  cases t with
  |nil=>show .nil
  |cons q d=>show .cons r a
theorem Inv.lset{H}{s}{b}{g a:lx}{f}(I:Inv X m v H s)(o:H l=U (.lst y))
  (e:s.9 l=U {cls:=.type md,data:=.seq g.11 n}) (i:f g.11=a.11) (h:Vals b a) (r:b.3<=sizeLine):
  Inv X m v (upd H l (.lst b)) {s with heap:=s.heap.65 l (Obj.mapSeq f),toks:=w}:=by
 let q:=PySem.IsL.update e f;rw[i]at q;show I.write (by rw[o];show trivial) (.inl Y) (λp u j d=>(zS s.15 (Obj.mapSeq f) (Ne.symm j)).7 d) (_,q) ?_;show(r,a,_,h,q)
theorem Inv.lnew(I:Inv X b f H s)(a:Vals ys its)(d:ys.3<=sizeLine):
  Inv X b f (upd H s.4 (.lst ys)) {s with heap:=s.23 {cls:=.type md,data:=.seq its.11},toks:=g}:=
 I.laid (λ_ _ q=>zT _ q) (zp _) (d,its,0,a,zJ _ rfl)
theorem Inv.fresh(I:Inv X b d H s):H s.4=J:=I.18 (zp _)
theorem Inv.lstM(I:Inv X f g H s)(a:H l=U (.lst d)):d.3<=sizeLine/\∃(b:lx)(n:Nat),Vals d b/\d.3=b.3/\s.9 l=U {cls:=.type md,data:=.seq b.11 n}:=by
 let(z,b,n,r,e):=I.eA l _ a;show(z,b,n,r,r.3,e)
def Lq:V->ly->Hp->VK->Prop:=λx vs H Q=>∃l b y,x=.ref l/\vs=[y]/\H l=U (.lst b)/\b.3<sizeLine/\Q .eJ (upd H l (.lst (b++[y])))
theorem RH:MtM X "list.append" Lq:=by
 rintro d s D H x vs v C Q I i o ⟨l,p,y,rfl,rfl,h,E,q⟩;cases i;let(u,rfl,j):=o.one;let(z,a,n,r,t,e):=I.lstM h;show call_meets F.slot_list_append (_,e,Y) F.entry_list_append (F.args_list_append_2 _ _) (PySem.list_append l a.11 n u (_)) (e,(.eJ,_,I.lset h e (_) (r.append (.cons j .nil)) ?_,Y,q))
 grind
def bQ:V->ly->Hp->VK->Prop:=λx vs H Q=>∃l b y,x=.ref l/\vs=[]/\H l=U (.lst b)/\b[b.3-1]?=U y/\Q y (upd H l (.lst b.dropLast))
theorem Ht:MtM X "list.pop" bQ:=by
 rintro i s f H x vs v b Q I p D ⟨l,G,y,rfl,rfl,j,C,q⟩;cases p;let d:=D.zero;subst d;let(z,a,n,r,o,e):=I.lstM j;let(u,E,t):=r.get C
 let h:a.11[a.toArray.27-1]?=U u:=by
  change a.11[a.3-1]?=U u
  rwa[←Array.getElem?_toList,←o]
 show call_meets F.slot_list_pop (_,e,Y) F.entry_list_pop (F.args_list_pop_1 _) (MeetsSeq.list_pop_last l a.11 n u h (_)) (e,(y,_,I.lset j e ?_ r.dropLast ?_,t,q))
 ·ext
 grind
def bU:R2:=λx y H Q=>∃l b d f,x=.ref l/\y=.ref b/\H l=U (.lst d)/\H b=U (.lst f)/\d.3+f.3<=sizeLine/\∀p,H p=J->Q (.ref p) (upd H p (.lst (d++f)))
theorem Hu:gx X (binaryOp .Add) bU:=by
 rintro h s N H x y v u Q I p C ⟨l,b,G,M,rfl,rfl,i,D,f,q⟩;cases p;cases C;let(z,d,n,r,J,e):=I.lstM i;let(F,a,L,t,E,o):=I.lstM D;show PySem.P.add_list e o ?_ (_);let j:d.11++a.11=(d++a).11:=by simp
 rw[j];show(.ref _,_,I.lnew (r.append t) (_),Y,q _ I.fresh)
end
section
variable {κ:Type} [DecidableEq κ]
mutual
noncomputable def Aj(b:List (κ×V))(k:κ):Option V:=(b.find? λd=>decide (d.1=k)).5 (·.2)
noncomputable def Bp(b:List (κ×V))(k:κ)(v:V):List (κ×V):=
 if (b.any λd=>decide (d.1=k))=L then b.5 (λd=>if d.1=k then (d.1,(v))else d)else b++[(k,(v))]
noncomputable def CA(b:List (κ×V))(k:κ):List (κ×V):=b.30 λd=>decide (d.1≠k)
theorem M9{k}:Aj ([]:List (κ×V)) k=J:=rfl
theorem BD{p}{r}{k:κ}(e:p.1=k):Aj (p::r) k=U p.2:=by simp[Aj,e]
theorem A8{p}{r}{k:κ}(e:¬ p.1=k):Aj (p::r) k=Aj r k:=by simp[Aj,e]
theorem DQ(k:κ):∀b,(b.any λa=>decide (a.1=k))=(Aj b k).26
 | []=>rfl
 |p::r=>by
  rw[any_cons];by_cases e:p.1=k
  ·simp[BD e,zH e,Bool.true_or,Option.isSome_some]
  ·rw[A8 e,zK e];show DQ k r
theorem NA(k j:κ)(y):∀b,Aj (b.5 λa=>if a.1=k then (a.1,(y))else a) j=(Aj b j).5 λx=>if j=k then y else x
 | []=>rfl
 |p::r=>by
  let d:=NA k j y r;rw[map_cons];by_cases h:p.1=k
  ·rw[zf h];by_cases e:p.1=j
   ·rw[BD (p:=(p.1,(y))) e,BD e,Option.map_some,zf (e.symm.7 h)]
   ·rw[A8 (p:=(p.1,(y))) e,A8 e,d]
  ·rw[zg h];by_cases e:p.1=j
   ·rw[BD e,BD e,Option.map_some,zg (λz=>h (e.7 z))]
   ·rw[A8 e,A8 e,d]
theorem Kv(k j:κ)(y):∀b,Aj b k=J->Aj (b++[(k,(y))]) j=if j=k then U y else Aj b j
 | [],_=>by
  by_cases e:k=j
  ·rw[zf e.35];show BD e
  ·rw[zg (λz=>e z.35)];show A8 e
 |p::r,d=>by
  rw[List.cons_append];let a:¬ p.1=k:=λz=>by rw[BD z]at d;cases d
  rw[A8 a]at d;by_cases e:p.1=j
  ·rw[BD e,BD e,zg (λz=>a (e.7 z))]
  ·rw[A8 e,A8 e,Kv k j y r d]
theorem JQ(b)(k j:κ)(y):Aj (Bp b k y) j=if j=k then U y else Aj b j:=by
 unfold Bp;by_cases a:(b.any λd=>decide (d.1=k))=L
 ·rw[zf a,NA];rw[DQ]at a;by_cases e:j=k
  ·let(x,h):=Option.isSome_iff_exists.mp a
   ext
  ext
 ·rw[zg a];apply Kv k j y b;rw[DQ]at a
  ext
theorem C1(b)(k:κ)(v):(Bp b k v).3<=b.3+1:=by
 unfold Bp
 grind
theorem E3{b}{k:κ}(v)(h:Aj b k=J):Bp b k v=b++[(k,(v))]:=by
 unfold Bp;rw[DQ,h];rfl
theorem gF.isSome_eq(r:gF o u):o.26=u.26:=by
 cases o with
 |none=>cases u with
  |none=>rfl
  |some _=>trivial
 |some _=>cases u with
  |none=>trivial
  |some _=>rfl
theorem gF.getD(r:gF o u)(rd:RelV d a):RelV (o.45 d) (u.45 a):=by
 cases o with
 |none=>cases u with
  |none=>show rd
  |some _=>show(r).40
 |some _=>cases u with
  |none=>show(r).40
  |some _=>show r
theorem KV.val{f}{vs}(r:KV f vs)(k:κ):gF (Aj f k) (valueAt vs k):=by
 induction r with
 |nil=>show True.intro
 | @cons p q j d h t o=>
  let(i,l):=h;by_cases e:p.1=k
  ·have a:=i.symm.7 e;let b:valueAt (q::d) k=U q.2:=by simp[valueAt,a]
   rwa[BD e,b]
  ·have a:¬ q.1=k:=λz=>e (i.7 z);let b:valueAt (q::d) k=valueAt d k:=by simp[valueAt,a]
   rwa[A8 e,b]
theorem KV.any{b}{vs}(r:KV b vs)(k:κ):(b.any λa=>decide (a.1=k))=vs.any λa=>decide (a.1=k):=by
 induction r with
 |nil=>rfl
 |cons h t d=>ext
theorem KV.repl{b}{vs}(r:KV b vs)(k:κ)(j:RelV y u):
  KV (b.5 λa=>if a.1=k then (a.1,(y))else a) (vs.5 λa=>if a.1=k then (a.1,(u))else a):=by
 induction r with
 |nil=>show .nil
 | @cons p q e i h t d=>
  show .cons ?_ d
  grind
theorem KV.put{b}{vs}(r:KV b vs)(k:κ)(a:RelV y u):KV (Bp b k y) (stored vs k u):=by
 unfold Bp stored;rw[r.any k];by_cases e:(vs.any λd=>decide (d.1=k))=L
 ·rw[zf e,zf e];show r.repl k a
 ·rw[zg e,zg e];show Paired.snoc r (Y,a)
theorem KV.drop{f}{vs}(r:KV f vs)(k:κ):KV (CA f k) (without vs k):=by
 unfold CA without;induction r with
 |nil=>show .nil
 | @cons p q o u h t l=>
  let(d,i):=h;rw[filter_cons,filter_cons];by_cases e:p.1=k
  ·have a:¬ decide (p.1≠k)=L:=by simp[e]
   let b:¬ decide (q.1≠k)=L:=by simp[d.symm.7 e]
   rwa[zg a,zg b]
  ·have j:¬ q.1=k:=λz=>e (d.7 z);rw[zf (by simp[e]),zf (by simp[j])];show .cons (d,i) l
theorem KV.length{b:List (κ×V)}{vs}(r:KV b vs):b.3=vs.3:=Paired.length r
theorem TC(b)(k:κ):(CA b k).3<=b.3:=zO _ _
end
end
mutual
theorem E4(r:RelV (kV k) u):(Ab P w).is k u=L:=by
 cases k with
 |inl i=>let(t,e):=(r);subst e;show Mu P w i t
 |inr x=>let(t,e):=(r);subst e;show Et P w x t
theorem Kw:∀{a}{d},Vals (a.5 kV) d->ItemsAre (Ab P w) a d
 | [],_,r=>by rw[map_nil]at r;cases r;show .nil
 |k::a,_,r=>by
  cases r with
  |cons h t=>show .cons (E4 h) (Kw t)
abbrev KT(H:Hp):List (List Key×V)->List (List Key×l7×Value)->Prop:=Paired λp q=>p.1=q.1/\H q.2.1=U (.tup (p.1.5 kV))/\RelV p.2 q.2.2
theorem KT.val(r:KT H f g)(k):gF (Aj f k) ((atKey g k).5 (·.2)):=by
 induction r with
 |nil=>show True.intro
 | @cons p q j d h t o=>
  let(i,_,l):=h;by_cases e:p.1=k
  ·have a:=i.symm.7 e;let b:atKey (q::d) k=U q.2:=by simp[atKey,a]
   rwa[BD e,b]
  ·have a:¬ q.1=k:=λz=>e (i.7 z);let b:atKey (q::d) k=atKey d k:=by simp[atKey,a]
   rwa[A8 e,b]
theorem KT.repl(r:KT H b f)(k)(o:RelV y u):
  KT H (b.5 λa=>if a.1=k then (a.1,(y))else a) (f.5 (putAt k u)):=by
 induction r with
 |nil=>show .nil
 | @cons p q e l h t d=>
  show .cons ?_ d;let(v,j,i):=h;unfold putAt
  grind
theorem KT.put(r:KT H g f)(k)(h:H b=U (.tup (k.5 kV)))(a:RelV y u):
  KT H (Bp g k y) (storedH f k b u):=by
 let e:(g.any λd=>decide (d.1=k))=(atKey f k).26:=by
  rw[DQ,(r.val k).isSome_eq,Option.isSome_map]
 unfold Bp storedH;rw[e];by_cases q:(atKey f k).26=L
 ·rw[zf q,zf q];show r.repl k a
 ·rw[zg q,zg q];show Paired.snoc r (Y,h,a)
theorem KT.keeps(r:KT H g h)(ht:∀b d,H b=U (.tup d)->f b=U (.tup d)):KT f g h:=
 Paired.mapP r λ_ _ z=>(z.1,ht _ _ z.2.1,z.2.2)
theorem XD(ok:gG P w H h)(e:Rd H a u):fY P w H h a u:=e.ok ok
theorem CT(ok:gG P w H h)(e:Rd H a (.dK b)):b.3<=sizeLine/\(a==sysModules)=O/\∃vs,KV b vs/\h.DictOf (Ab P w) a vs:=
 show fY P w H h a (.dK b)from XD ok e
theorem NB(ok:gG P w H h)(e:H a=U (.dK b)):b.3<=sizeLine/\(a==sysModules)=O/\∃vs,KV b vs/\h.DictOf (Ab P w) a vs:=CT ok (.inl e)
theorem Hv(ok:gG P w H h)(e:H a=U (.tup (b.5 kV))):(tupleKind (Ab P w)).is h b a:=by
 let(_,d,r,o,l,j,n,i):=(ok a _ e);show(o,d.11,n,l,j,i,by simpa using Kw r)
theorem JR(ok:gG P w H h)(e:Rd H a (.dT f)):f.3<=sizeLine/\(a==sysModules)=O /\
  ∃b,KT H f b/\h.DictOfH (tupleKind (Ab P w)) a b:=by
 let(z,y,b,r,o,u,ep,v,j,C,D,i):=(XD ok e);show(z,y,b,r,o,u,ep,v,j,C,D,λx d=>?_,i)
 let all:∀{l:List (List Key×V)}{m:List (List Key×l7×Value)},KT H l m->∀x∈m,(tupleKind (Ab P w)).is h x.1 x.2.1:=by
  intro l m q;induction q with
  |nil=>ext
  | @cons p q I G F t E=>
   intro x d;let e||d:=mem_cons.mp d
   ·subst e;show Hv ok (_)
   ·show E x d
 show all r x d
theorem ZA(ok:gG P w H h)(e:H a=U (.dT b)):b.3<=sizeLine/\(a==sysModules)=O /\
  ∃d,KT H b d/\h.DictOfH (tupleKind (Ab P w)) a d:=JR ok (.inl e)
def Lr(H:Hp)(a:l7)(y:V)(r:Option V):Prop:=
 (∃d k,Rd H a (.dK d)/\y=kV k/\r=Aj d k)\/∃d k b,Rd H a (.dT d)/\y=.ref b/\H b=U (.tup (k.5 kV))/\r=Aj d k
def iP(H:Hp)(a:l7)(y v:V)(d:Hp):Prop:=
 (∃f k,H a=U (.dK f)/\y=kV k/\f.3<sizeLine/\d=upd H a (.dK (Bp f k v))) \/
 ∃f k b,H a=U (.dT f)/\y=.ref b/\H b=U (.tup (k.5 kV))/\f.3<sizeLine/\d=upd H a (.dT (Bp f k v))
theorem iP.k{H:Hp}{a}{b}{k}{v}(e:H a=U (.dK b))(d:b.3<sizeLine):iP H a (kV k) v (upd H a (.dK (Bp b k v))):=.inl (b,k,e,rfl,d,rfl)
theorem Inv.big(I:Inv X b d H s):sysModules<s.4:=by
 show Nat.lt_trans qc ((I.mod.glob.79 I.bk).lt)
theorem RI(G:A.41+1<cLine)(I:Inv X f m H s)(g:Lr H a y (U v))(D:RelV y u)(h:∀j C,Inv X f m H C->RelV v j->Q j C):
  wpAny (model X.14 X.w) A (getItem (.ref a) u) Q E s:=by
 let(q,k,e,r,l)||(q,k,b,e,r,J,l):=g
 ·subst r;let(z,L,vs,d,x):=CT I.eA e;let(j,o,i):=gF.some_of (by rw[l];show d.val k);show wpAny_getItem_of (E4 D) x.mapOf o (h j _ (I.tok _) i)
 ·subst r;cases (D);let(z,L,M,d,x):=JR I.eA e;let(j,o,i):=gF.some_of (by rw[l];show d.val k);let(p,F,t):=z5.mp o;apply wpAny_getItem_heap (tupleKind_room_in1 G) (Hv I.eA J) x F;rw[t];show h j _ (I.tok _) i
theorem bV(x:A.41+1<cLine)(I:Inv X f m H s)(g:Lr H a y o)(v:RelV y u)(h:∀t,Inv X f m H t->Q (.bool o.26) t):
  wpAny (model X.14 X.w) A (compareOp .In u (.ref a)) Q E s:=by
 let(j,k,e,i,l)||(j,k,b,e,i,C,l):=g
 ·subst i;let(z,p,vs,d,r):=CT I.eA e;apply wpAny_in_of (E4 v) p r.mapOf;rw[←(d.val k).isSome_eq,←l];show h _ (I.tok _)
 ·subst i;cases (v);let(z,p,D,d,r):=JR I.eA e;apply wpAny_in_heap (tupleKind_room_in1 x) (Hv I.eA C) p r;let q:=(d.val k).isSome_eq;rw[Option.isSome_map]at q;rw[←q,←l];show h _ (I.tok _)
theorem Vg(x:A.41+1<cLine)(I:Inv X f m H s)(g:Lr H a y o)(v:RelV y u)(h:∀t,Inv X f m H t->Q (.bool (!o.26)) t):
  wpAny (model X.14 X.w) A (compareOp .NotIn u (.ref a)) Q E s:=by
 let(j,k,e,i,l)||(j,k,b,e,i,C,l):=g
 ·subst i;let(z,p,vs,d,r):=CT I.eA e;apply wpAny_notIn_of (E4 v) p r.mapOf;rw[←(d.val k).isSome_eq,←l];show h _ (I.tok _)
 ·subst i;cases (v);let(z,p,D,d,r):=JR I.eA e;apply wpAny_notIn_heap (tupleKind_room_in1 x) (Hv I.eA C) p r;let q:=(d.val k).isSome_eq;rw[Option.isSome_map]at q;rw[←q,←l];show h _ (I.tok _)
theorem Gx(I:Inv X g l H s)(i:Mut (H a))(j:Heap.SameBut a s.15 f)(e:∃q,f.13 a=U q)(new:fY X.14 X.w (upd H a d) f a d):
  Inv X g l (upd H a d) {s with heap:=f,toks:=m}:=
 I.write i (.inl rfl) (λb q h z=>(j.2 b h).7 z) e new
theorem Hw(z:b.3<=sizeLine)(e:(a==sysModules)=O)(d:KV b vs)(h:f.DictOf (Ab P w) a vs):
  fY P w g f a (.dK b):=(z,e,vs,d,h)
theorem RJ(S:A.41+1<cLine)(I:Inv X B P H s)(g:iP H a y v w)(m:RelV y u)(M:RelV v r)(h:∀f,Inv X B P w f->Q Unit.unit f):
  wpAny (model X.14 X.w) A (setItem (.ref a) u r) Q E s:=by
 let(d,k,e,x,l,t)||(d,k,b,e,x,G,l,t):=g
 ·subst x t;let(z,F,vs,i,D):=NB I.eA e;let hz:vs.3<=sizeLine:=by rwa[←i.3]
  let p:(Bp d k v).3<=sizeLine:=by have:=C1 d k v;lia
  show wpAny_setItem_pairs (E4 m) D λN j C=>h _ ?_;let ab:∃q,N.13 a=gl q:=by let(q,_,_,o,_):=j;show (q,o)
  show Gx I (by rw[e];show True.intro) C ab (Hw p F (i.put k M) j)
 ·subst x t;cases (m);let(z,F,Y,i,D):=ZA I.eA e;let hz:Y.3<=sizeLine:=by rwa[←Paired.length i]
  let p:(Bp d k v).3<=sizeLine:=by have:=C1 d k v;lia
  show wpAny_setItem_heap (tupleKind_room_in1 S) (Hv I.eA G) D λN j C=>h _ ?_;let(q,U,ep,o,T,h3,h4,_,O):=j;show Gx I (by rw[e];show True.intro) C (q,o) (p,F,_,(i.put k G M).79 λc ys R=>?_,q,U,ep,o,T,h3,h4,O)
  rwa[AE (Py R e (λz=>nomatch z))]
theorem ZB(I:Inv X f g H s)(e:H a=U (.dK b))(p:RelV (kV k) u)(l:Aj b k=U v)(D:more=[]\/∃x,more=[x])
  (h:∀j y,Inv X f g (upd H a (.dK (CA b k))) y->RelV v j->Q j y):wpAny (model X.14 X.w) A (call (.builtin "dict.pop") (.ref a::u::more)) Q E s:=by
 let(z,N,vs,d,C):=NB I.eA e;let(j,J,r):=gF.some_of (by rw[←l];show d.val k)
 let F:(keyPart u).26=L:=by
  cases k with
  |inl i=>let(t,q):=(p);subst q;rfl
  |inr x=>let(t,q):=(p);subst q;rfl
 let R:argsOk "dict.pop" (.ref a::u::more,[]):=by
  let q||(x,q):=D
  ·subst q;show args_dict_pop_2 _ _
  ·subst q;show args_dict_pop_3 _ _ _
 show call_meetsIn slot_dict_pop C.46 entry_dict_pop R (meets_dict_pop_there (Ab X.14 X.w) a (E4 p) more D F)
  (vs,j,C,by rw[←d.3];show z,J,λw o M=>h j _ ?_ r)
 let m:∃q,w.13 a=U q:=let(q,_,_,G,_):=o;(q,G)
 show Gx I (by rw[e];show True.intro) M m (Hw (Nat.le_trans (TC b k) z) N (d.drop k) o)
theorem ZC(I:Inv X b g H s)(e:Rd H a (.dK f))(h:∀t i,Inv X b g H i->Q (.int f.3 t) i):wpAny (model X.14 X.w) A (call (.builtin "len") [.ref a]) Q E s:=by
 let(z,j,vs,d,l):=CT I.eA e;apply call_len_dict j l (by rw[←d.3];rw[sizeLine_eq]at z;lia);rw[←d.3];show h _ _ (I.tok _)
def ZD(i:Expr):Prop:=∀d b,subscripted i O d b=operate [d,b] (getItem d b)
theorem Vh{s}{y}{w}{E:VS}{prog}{A}{q}{d a}{T id}{Q:VS}
  (C:typeLookup (.type T) "__getitem__"=pure (U (.builtin id))) (b:ZD a)
  (h:wpAny (model prog w) A (eval d q) (λo l=>wpAny (model prog w) A (eval a q) (λi e=>e.TypeIs o T/\wpAny (model prog w) A (getItem o i) Q E e) E l) E s):
  wpAny (model prog w) A (eval (.Subscript d a y) q) Q E s:=by
 show Subscript_ (zm h (λo l v=>zm v (λi e j=>?_) λ_ _ x=>x) λ_ _ x=>x);let(z,j):=j;apply zo;show zo (wpAny_specialOf z C ?_)
 let t:wpAny (model prog w) A (subscripted a O o i) (λr p=>wpAny (model prog w) A (letTemporaryGo d o r >>= λ_=>pure r) Q E p) E e:=by
  rw[b o i];show wpAny_operating (zm j (λr p u=>zo (wpAny_letTemporaryGo (zn u))) λ_ _ x=>x)
 first
  |show zn (zo t)
  |show zo (zn (zo t))
  |show zo t
theorem NC(I:Inv X f j H s)(g:Lr H a y o):s.TypeIs (.ref a) mH:=by
 let(d,k,e,_,_)||(d,k,b,e,_,_,_):=g
 ·let(_,_,vs,_,h):=CT I.eA e;show h.46
 ·let(_,_,i,_,h):=JR I.eA e;show h.46
inductive ExD(x:V)(H:Hp)(y:V)(k:V->Prop):Prop
 |mk (a) (v) (b:x=.ref a) (d:Lr H a y (U v)) (q:k v):ExD x H y k
def ZE(td ty:TE):TE:=λd H Q=>td d H λx f=>ty d f λy b=>ExD x b y λv=>Q v b
def bY(ty td:TE):TE:=λd H Q=>ty d H λy f=>td d f λx b=>∃a o,x=.ref a/\Lr b a y o/\Q (.bl o.26) b
def Vi(ty td:TE):TE:=λd H Q=>ty d H λy f=>td d f λx b=>∃a o,x=.ref a/\Lr b a y o/\Q (.bl (!o.26)) b
def ZF(td ty b:TE):TS:=λD d H=>b d H λv g=>td d g λx h=>ty d h λy i=>∃a f,x=.ref a/\iP i a y v f/\D.nx d f
theorem Au(q:X.A.41+1<cLine)(F:PE X o td)(E:PE X i ty)(b:ZD i:=by intro _ _;rfl):PE X (.Subscript o i f) (ZE td ty):=by
 intro d s l H Q I h;show Vh PySem.F.slot_dict_getitem.lookup b (eI (F d s l H _ I h) λu G (x,m,C,r,q1)=>eI (E d G l m _ C q1) λN M k=>?_);let(y,p,j,D,a,v,t,g,q2):=k;subst t;obtain rfl:u=Value.ref a:=r;show(NC j g,RI q j g D λw A z e=>(v,p,z,e,q2))
theorem Hx(l:X.A.41+1<cLine)(C:PE X i ty)(D:PE X o td):PC X .In i o (bY ty td):=by
 intro d s e H Q I h;show eI (C d s e H _ I h) λf E (y,G,v,z,q1)=>eI (D d E e G _ v q1) λu b k=>?_;let(x,j,F,q,a,p,r,g,q2):=k;subst r;obtain rfl:u=Value.ref a:=q;show bV l F g z λM t=>(.bl p.26,j,t,Y,q2)
theorem Kx(l:X.A.41+1<cLine)(C:PE X i ty)(D:PE X o td):PC X .NotIn i o (Vi ty td):=by
 intro d s e H Q I h;show eI (C d s e H _ I h) λf E (y,G,v,z,q1)=>eI (D d E e G _ v q1) λu b k=>?_;let(x,j,F,q,a,p,r,g,q2):=k;subst r;obtain rfl:u=Value.ref a:=q;show Vg l F g z λM t=>(.bl (!p.26),j,t,Y,q2)
theorem EB(l:X.A.41+1<cLine)(M:PE X o td)(f:PE X i ty)(p:PE X b P)(w:swapsWith b (gl (.Subscript o i B)) A.68 X.21=pure O):
  PS X (.Assign [.Subscript o i B] b A) (ZF td ty P):=by
 intro d s e H D I h;show wpAny_Assign_Subscript (eI (p d s e H _ I h) λr ab (v,R,F,N,q1)=>eI (M d ab e R _ F q1) λu q (x,j,Q,z,q2)=>eI (f d q e j _ Q q2) λT ag m=>?_) w;let(y,U,E,G,a,L,C,g,q3):=m;subst C;obtain rfl:u=Value.ref a:=z;show RJ l E g G N λS t=>(e,L,t,q3)
theorem ND(h:Heap)(a:sysModules<h.10):fY P w H (h.74 {cls:=.type mH,data:=.dict #[]}) h.10 (.dK []):=
 (Nat.zero_le _,beq_eq_false_iff_ne.53 (_),[],.nil,Heap.DictOf.new h)
def Xp:TE:=λ_ H Q=>∀p,H p=J->Q (.ref p) (upd H p (.dK []))
theorem DR:PE X (.Dict [] [] b) Xp:=λa s d H Q I h=>
 wpAny_Dict_empty (.ref s.4,_,I.laid (λ_ _ q=>zT _ q) (zp _) (ND s.15 I.big),rfl,h _ (I.18 (zp _)))
def Ol:List (TE×TE)->St->Hp->(List (V×V)->Hp->Prop)->Prop
  | [],_,H,Q=>Q [] H
  | (i,j)::r,b,H,Q=>i b H λx d=>j b d λy f=>Ol r b f λh g=>Q ((x,(y))::h) g
abbrev VV:List (V×V)->List (Value×Value)->Prop:=Paired λp q=>RelV p.1 q.1/\RelV p.2 q.2
def PPs(X:Cx)(d:Pos)(b:List (Option Expr))(g:List Expr)(f:List (TE×TE)):Prop:=
 ∀j s(h:St)H Q,Inv X j h H s->Ol f h H Q ->
  gm X (evalPairs (pairTrees b g X.21 d)) (λvs m=>∃l i,Inv X j h i m/\VV l vs/\Q l i) X.xe s
theorem P8:PPs X b [] [] []:=λa s d H Q I h=>pairTrees_nil_walk ([],H,I,.nil,h)
theorem C2(G:PE X k g)(l:PE X v m)(r:PPs X f b vs d):
  PPs X f (U k::b) (v::vs) ((g,(m))::d):=λa s i H Q I h=>
 pairTrees_cons_walk (eI (G a s i H _ I h) λu D (x,w,z,q,q1)=>eI (l a D i w _ z q1) λA o (y,j,E,C,q2)=>
  eI (r a o i j _ E q2) λN M n=>by let(p,F,t,e,q3):=n;show ((x,(y))::p,F,t,.cons (q,C) e,q3))
def EC(b more:LK):LK:=more.67 (λacc d=>Bp acc d.1 d.2) b
theorem KV.merge:∀{more:LK}{a}{b:LK}{vs},KV more a->KV b vs->KV (EC b more) (merged vs a):=by
 intro more a b vs r;induction r generalizing b vs with
 |nil=>intro q;show q
 | @cons p q j l h t i=>
  intro d
  let e:KV (Bp b p.1 p.2) (stored vs q.1 q.2):=by
   have:=d.put p.1 h.2
   rwa[←h.1]
  show i e
theorem Fu:∀more b,(EC b more).3<=b.3+more.3
 | [],b=>by change b.3<=b.3+0;lia
 |p::r,b=>by
  let d:=Fu r (Bp b p.1 p.2);let a:=C1 b p.1 p.2;change(EC (Bp b p.1 p.2) r).3<=_
  grind
theorem JS:∀{f:LK}{i},VV (f.5 λe=>(kV e.1,(e.2))) i->∃d,Carries (Ab P w) i d/\KV f d
 | [],_,r=>by rw[map_nil]at r;cases r;show([],True.intro,.nil)
 |p::f,_,r=>by
  cases r with
  | @cons a b l bs h t=>
   let(d,c,q):=JS t;let(b1,j):=b;show((p.1,(j))::d,(E4 h.1,Y,c),.cons (Y,h.2) q)
def ZG(b:List (TE×TE)):TE:=λi H Q=>∀p,H p=J->Ol b i (upd H p (.dK [])) λh f=>f p=U (.dK [])/\∃d,h=d.5 (λg=>(kV g.1,(g.2)))/\d.3<=15/\Q (.ref p) (upd f p (.dK (EC [] d)))
theorem P9(h:PPs X g b f l)(i:b.all (·.26)=ii)(C:b.3=f.3)(E:b≠ [])
  (o:b.3<=15):PE X (.Dict b f g) (ZG l):=by
 intro a s N H Q I q;show wpAny_Dict_walk (knd:=Ab X.14 X.w) i C E o (eI (h a _ N _ _ (I.laid (t':=s.62) (λ_ _ q=>zT _ q) (zp _) (ND s.15 I.big)) (q _ (I.18 (zp s.4)))) λm R w=>?_);let(S,O,r,p,e,d,ep,T,q2):=w;subst ep;let(J,c,rk):=JS p;let(z,L,t,x,G):=NB r.eA e;cases x;show(J,c,G,λM j F=>(.ref s.4,_,?_,Y,q2))
 let v:(EC [] d).3<=sizeLine:=by
  let y:=Fu d [];rw[length_nil]at y;rw[sizeLine_eq];lia
 let D:∃q,M.13 s.4=U q:=by let(q,_,_,u,_):=j;show (q,u)
 show Gx r (by rw[e];show True.intro) F D (Hw v L (rk.merge .nil) j)
structure M1(X:Cx)(o:Expr)(m:Str)(apos:Pos)(e:Expr)(hE:Pos):Prop where
 base:attributeBase o m X.21 (eval o X.21)=eval o X.21
 few:((backTo hE (starEach [e] X.21)).all (λx=>!x.1)&&(backToKw hE (keywordEach [] X.21)).all (λx=>x.1.26)
  && decide (([e]:List Expr).3+([]:List Keyword).3+(if ([]:List Keyword).isEmpty then 0 else 1)<30))=L
 line:(apos.endLine==hE.68)=L
 trees:backTo hE (starEach [e] X.21)=[(O,(eval e X.21))]
def IsD(H:Hp)(a:l7):Prop:=(∃b,Rd H a (.dK b))\/∃b,Rd H a (.dT b)
theorem Ls(I:Inv X f g H s)(d:IsD H a):
  s.TypeIs (.ref a) mH /\ (∀b,Value.ref a=.ref b->∃h,s.9 b=U h/\h.dict=J)/\(a==sysModules)=O:=by
 let(l,e)||(l,e):=d
 ·let(_,o,vs,_,i):=CT I.eA e;show(i.46,λb q=>?_,o);cases q;let(h,_,_,p,j,_):=i;show(h,p,j.2.1)
 ·let(_,o,r,_,i):=JR I.eA e;show(i.46,λb q=>?_,o);cases q;let(h,_,_,p,j,_):=i;show(h,p,j.2.1)
theorem Xq(x:A.41+1<cLine)(I:Inv X f m H s)(g:Lr H a y o)(v:RelV y u)(h:∀t r,Inv X f m H r->RelV (o.45 .eJ) t->Q t r):
  wpAny (model X.14 X.w) A (call (.builtin "dict.get") [.ref a,u]) Q E s:=by
 let(p,k,e,j,l)||(p,k,b,e,j,D,l):=g
 ·subst j;let(z,q,vs,d,i):=CT I.eA e;show call_meetsIn slot_dict_get i.46 entry_dict_get (args_dict_get_2 _ _) (meets_dict_get (Ab X.14 X.w) a (E4 v) q) (_,i.mapOf,h _ _ (I.tok _) ?_);rw[l];show(d.val k).45 rfl
 ·subst j;cases (v);let(z,q,C,d,i):=JR I.eA e;show call_meetsIn slot_dict_get i.46 entry_dict_get (args_dict_get_2 _ _) (meetsH_dict_get (tupleKind (Ab X.14 X.w)) a b q) (tupleKind_room_in1 x,k,C,Hv I.eA D,i,h _ _ (I.tok _) ?_);rw[l];show(d.val k).45 rfl
def Xr(td ty:TE):TE:=λf H Q=>td f H λx b=>∃a,x=.ref a/\IsD b a/\ty f b λy d=>∃o,Lr d a y o/\Q (o.45 .eJ) d
def Xs(td ty:TE):TE:=λg H Q=>td g H λx d=>∃a,x=.ref a/\IsD d a/\ty g d λy f=>∃b k v,f a=U (.dK b)/\y=kV k/\Aj b k=U v/\Q v (upd f a (.dK (CA b k)))
theorem TH(r:X.A.41+1<cLine)(E:PE X o td)(t:PE X e ty)(m:M1 X o "get" b e f):PE X (.Call (.Attribute o "get" b) [e] [] f) (Xr td ty):=by
 intro i s p H Q I h;show wpAny_Call_method m.39 m.few m.68 plainAttrs_dict slot_dict_get type_dict_get (eI (E i s p H _ I h) λu F w=>?_);let(x,J,l,v,a,z,d,q1):=w;subst z;obtain rfl:u=Value.ref a:=v;let(t1,t2,_):=Ls l d;show(t1,t2,?_);rw[m.trees];show Calls.callWith_builtin Y (Calls.evalArgs_plain (Calls.spliced_cons (eI (t i F p J _ l q1) λA N k=>by let(y,q,G,D,L,g,q2):=k;show Calls.spliced_nil (Xq r G g D λM R C j=>(_,q,C,j,q2)))))
theorem JT(b:PE X o td)(t:PE X e ty)(m:M1 X o "pop" f e g):PE X (.Call (.Attribute o "pop" f) [e] [] g) (Xs td ty):=by
 intro i s q H Q I h;show wpAny_Call_method m.39 m.few m.68 plainAttrs_dict slot_dict_pop type_dict_pop (eI (b i s q H _ I h) λu A w=>?_);let(x,N,p,z,a,D,d,q1):=w;subst D;obtain rfl:u=Value.ref a:=z;let(t1,t2,_):=Ls p d;show(t1,t2,?_);rw[m.trees];show Calls.callWith_builtin Y (Calls.evalArgs_plain (Calls.spliced_cons (eI (t i A q N _ p q1) λT S (y,B,M,G,C,k,v,r,F,l,q2)=>Calls.spliced_nil ?_)));subst F;show ZB M r G l (.inl Y) λR P E j=>(v,_,E,j,q2)
end
end L2
namespace Att
open PySem PySem.W PySem.Calls PyProof.Rows
theorem JC:∀d vs,WellAll P h vs (d.5 WData.int)->IntsAre vs d:=by
 intro d;induction d with
 |nil=>
  intro vs w;cases w;show .nil
 |cons n d e=>
  intro vs w;cases w with
  |cons a b=>
   cases a;show .cons _ _ (e _ b)
theorem RL{h}{l:OpenLaw}(D:l.most=U n)   
    (e:l.row.toRowW.claim.pre args=L) (t:WellAll P h b args):
    ∃a vs i,b=[Value.ref a]/\args=[WData.list (i.5 WData.int)]/\h.13 a=U {cls:=.type md,data:=.seq vs.11}/\IntsAre vs i/\i.3<=n:=by
  let(d,r,rfl,y,x):=hasAllW_cons ((pre_splitW e).1);obtain rfl:=hasAllW_nil x;let(F,rfl,z):=hasW_list y;let(i,rfl):=items_int z
  let j:i.3<=n:=by
    let u:(WTm.not (.lt (.lit (.int n)) (.len (.arg 0)))).holds [] {args:=[.list (i.5 .int)]}=L:=by
      let u:=(holds_andW ((pre_splitW e).2)).1
      rwa[D]at u
    let p:=condW_of u (w_not (w_lt w_lit (w_len_list (w_arg rfl))));show Nat.le_of_not_lt λq=>?_
    first
      | (rw[zH q']at p;show absurd p qc)
      | (simp at p;lia)
  cases t with
  |cons v C=>
    cases C;cases v with
    |list E o=>show(_,_,i,rfl,rfl,E,JC i _ o,j)
theorem RM(l:OpenLaw)(a):l.row.toRowW.claim.71 a (.bool L) a=L:=
 postW_of
  (by rfl)
  (w_eq_bool (w_res rfl) w_lit) rfl
theorem attach_call{l:OpenLaw}{m}{d}
  (T:l.most=U n) (F:d.params.defaults=[])
  (call:∀w h e(g E:SV)v o z b i a vs y,
   Ground q loose [] XP w h g E e.15->m w e.15 ->
   e.9 v=U o->o.38=.func (docDef d.name d.60 d.body d.scope z b i)->e.heap.CodeRec b d.name->g d.name=U (.ref v) ->
   e.9 a=U {cls:=.type md,data:=.seq vs.11}->IntsAre vs y->y.3<=n->e.gens=#[] ->
   codeAny (model l.14 w) callerA (.call (.ref v) ([.ref a],[])) (λr x=>r=.ok (.ret (.bool L))/\OldK e.15 x.15/\x.os=e.os/\AllBare x.gens) e):
  WalkO q loose XP m l.row.toRowW d [] (λf vs=>PySem.call f vs):=by
 intro w h e g E G P v o z b i B kV ab hd C s H hg M I as u ag Q D al;obtain rfl:B=.none:=Dflts.none s F;obtain rfl:kV=.none:=Dflts.noKw s;let(a,vs,y,rfl,rfl,t,j,p):=RL T u D;show enter_call (codeAny_mono (call w h e g E v o z b i a vs y G P ab (fd_plain hd) C H t j p hg) λr x A=>?_);let(rfl,N,R,S):=A;show(.inl (.bool L,.bool L,[],rfl,λ_=>rfl,.bool L,RM l _,λ_=>(List.Pairwise.nil,λ_ X=>(nomatch X))),N,R,S)
end Att
namespace L2
open PySem PySem.Spec PyProof.Rows
mutual
theorem Fc:∀{vs}{a},IntsAre vs a->Vals (a.5 V.int) vs
 |_,_,.nil=>.nil
 |_,_,.cons n t h=>.cons (t,rfl) (Fc h)
abbrev eK:CXT:=λ_ _ _ _ _ _=>False
abbrev E0:XK:=λ_ _ _=>False
theorem Af:BS eK X E0:=λ_ _ _ _ _ _ _ h=>h.40
structure eP(K:FG)(x qual:Str)(st:Stmt)(f:l7)(fd:FuncData):Prop where
 ex:∃(oc:Value)(od:Option l7)(kV doc pm:Value)(an:Option l7)(dc ct:Value)(kB:Array (Option Value)),
  fd=W.fnOf x qual (defArgs st) (defBody st) (defScope st) .none kV doc pm an dc ct/\K.8 f=U (oc,od,.func fd,kB)/\W.codeIn K dc qual=L
 kp:W.keepIn K (.ref f)=L
theorem eP.ok{P}{w}{x}{B}{base}{N}{I}{qual}{st}{f}{G}{e}{k}{g}(F:eP B x qual st f G)(S:AH N e (defScope st))(len:∀vs H Q E,g vs H Q E->vs.3=e.3)
  (d:∀a A b s H vs Q E,eB k (A.56 (envOfC qual (defScope st) s.4 f a))->g vs H Q E ->
   ∃t,hA (B9 eK P w B I base N qual (defScope st) f a A b s H E).jv (defBody st) t/\t {nx:=λ_ r=>Q .eJ r,rt:=Q} (start N vs) H):AT P w B I base eK (k+1) f G e g:=by
 let(D,y,kV,o,v,z,a,C,l,rfl,u,j):=F.ex;show P4 u j S len λA b s H vs Q E p i=>?_;let(t,h,q):=d a A b s H vs Q E p i;show(t,h.jv,q)
structure BdC(P:Program)(w:World)(K:FG)(mg:SV)(base:Heap)(f:l7)(qual:Str)(st:Stmt)(N ps:lr)(k:Nat)(vs:ly)(H:Hp)(Q:VK)(E:XK):Prop where
 len:vs.3=ps.3
 ok:∀dc A outer s,eB k (A.56 (envOfC qual (defScope st) s.4 f dc)) ->
  ∃t,hA (B9 eK P w K mg base N qual (defScope st) f dc A outer s H E|>.jv) (defBody st) t/\t {nx:=λ_ H'=>Q .eJ H',rt:=Q} (start N vs) H
theorem eP.m{P}{w}{x}{b}{base}{N}{g}{qual}{st}{f}{d}{a}{k}{i}(F:eP b x qual st f d)(S:AH N a (defScope st))(h:∀vs H Q E,i vs H Q E->BdC P w b g base f qual st N a k vs H Q E):
  AT P w b g base eK (k+1) f d a i:=F.ok S (λvs H Q E q=>(h vs H Q E q).61) λc A o s H vs Q E r q=>(h vs H Q E q).ok c A o s r
theorem eP.binds{x}{g}{qual}{st}{f}{b}{e}(F:eP g x qual st f b)
  (h:∀kV a j l d o i,i.3=e.3->bindArgs (W.fnOf x qual (defArgs st) (defBody st) (defScope st) .none kV a j l d o) (i,[])=pure (e.zip i)):Binds g b e []:=by
 let(u,r,kV,a,j,l,d,o,p,rfl,t,q):=F.ex;show .all (_)
theorem fun_mk{x:PySem.Str}{K:FG}{qual:Str}{st:Stmt}{f:l7}{oc:Value}{od an:Option l7}{kB:Array (Option Value)}{kV doc pm dc ct:Value}(l:K.8 f=U (oc,od,.func (W.fnOf x qual (defArgs st) (defBody st) (defScope st) .none kV doc pm an dc ct),kB))
  (c:W.codeIn K dc qual=L) (k:W.keepIn K (.ref f)=L):eP K x qual st f (W.fnOf x qual (defArgs st) (defBody st) (defScope st) .none kV doc pm an dc ct):=((oc,od,kV,doc,pm,an,dc,ct,kB,rfl,l,c),k)
theorem CK{k}(a:eB k A):A.41+1<cLine:=Nat.lt_of_le_of_lt (_) a.41
theorem AR{n}(h:n<=1000):n<sizeLine:=Nat.lt_of_le_of_lt h qc
theorem pv(i)(d:X.N[i]?=U x:=by rfl)(e:Vis X.28 x:=by first|show Or.inl rfl|show Or.inr (Or.inl rfl)|show Or.inr (Or.inr rfl))(h:iw x:=by decide)
  (a:(x==(qh:Str))=O:=by decide):PE X (.Name x b) (Ld i):=Sj d e h a
abbrev _root_.Z:=@pv
theorem Ky:eW X (.builtin "len") (λf H Q=>∃a b,f=[V.ref a]/\H a=U (.dK b)/\Q (.int b.3) H):=by
 rintro d s o H f j Q I r ⟨a,b,rfl,i,q⟩;let(u,rfl,h):=Bq r;cases h;show ZC I (.inl i) λt l e=>(.int b.3,H,e,(t,Y),q)
theorem AU{A B:Prop}(h:B):if O=L then A else B:=by
 rwa[zg Bool.false_ne_true]
theorem Ag{A B:Prop}(h:A):if L=L then A else B:=by
 rwa[zf rfl]
theorem BN{c A B:Prop}[Decidable c](d:c->A)(a:¬ c->B):if c then A else B:=by
 by_cases h:c
 ·rw[zf h];show d h
 ·rw[zg h];show a h
theorem TJ{c A B:Prop}[Decidable c](a:c)(h:B):if (!decide c)=L then A else B:=by
 rw[zH a];show AU h
def dH(H d:Hp):Prop:=∀b o,H b=U o->d b=U o
theorem dH.refl(H):dH H H:=λ_ _ h=>h
theorem dH.trans(a:dH H f)(b:dH f d):dH H d:=λc o h=>b c o (a c o h)
theorem dH.seq(e:dH H b)(h:dY f H a d):dY f b a d:=by
 rcases h with (h|⟨o,h⟩)|h
 ·show .inl (.inl (e _ _ h))
 ·show .inl (.inr (o,e _ _ h))
 ·show .inr h
end
section
variable {κ:Type} [DecidableEq κ]
theorem Vj{b}{k:κ}(h:Aj b k=U v):k∈b.5 (·.1):=by
 let q:(b.any λd=>decide (d.1=k))=L:=by
  rw[DQ,h]
  all_goals rfl
 let(p,a,e):=any_eq_true.mp q;show zh.53 (p,a,zR e)
theorem Vk:∀{l}{k:κ},l.29->¬ k∈l->(l++[k]).29
 | [],k,_,_=>by simp
 |a::r,k,h,b=>by
  grind
theorem RP{p}{r}{k:κ}(e:p.1=k):CA (p::r) k=CA r k:=by
 unfold CA
 ext
theorem RS{p}{r}{k:κ}(e:¬ p.1=k):CA (p::r) k=p::CA r k:=by
 unfold CA
 ext
end
end L2
namespace L2
open PySem PySem.Spec PyProof.Rows
mutual
theorem Inv.track(I:Inv X i f H s)(t:H a=J)(C:a≠X.17)(D:a∈X.ex\/X.f9.4<=a)
  (r:∀x c,X.19 x=U c->c≠a) (l:∀p∈X.pn++i,p.1≠a) (new:fY X.14 X.w (upd H a o) s.15 a o):Inv X i f (upd H a o) s:=by
 let d:∀b u,H b=U u->b≠a:=λb u e=>AK e t
 show I.step (ch:=[a])
  (λb j=>by let e:b=a:=by simpa using j
            subst e;show(D,C,r,l))
  (λb o _ _ _ e _=>e) (λb o _ _ _ e _=>(o.slots,e)) (λb o y e n=>by rwa[AE (by simpa using y)])
  (λb o _ e=>(o,e)) (λb z e=>by rwa[AE (d b _ e)]) (λb o u e=>by rwa[AE (d b _ e)])
  (λb E e=>(#[],by rw[AE (d b _ e),e];simp)) (λm h=>h) (λb u e=>?_) I.73
 by_cases j:b=a
 ·subst j;rw[dG]at e;cases e;show new
 ·rw[AE j]at e;show(I.eA b u e).ie (λc v _ q=>q) (λc q=>by rwa[AE (d c _ q)]) λc z q=>by rwa[AE (d c _ q)]
structure eT(j5 sc:Scope)(N N':lr)(ix:List (Option Nat))(z:Option Str):Prop where
 kind:sc.kind=.function
 one:∀y∈sc.54,y.2=.cell->z=U y.1
 own:∀x,z=U x->sc.12 x=U .cell
 free:∀y∈sc.54,y.2=.free->j5.12 y.1=U .cell\/j5.12 y.1=U .free
 loc:∀y∈sc.54,y.2=.local->sc.12 y.1=U .local
 len:ix.3=N'.3
 slot:∀(j:Nat)x i,N'[j]?=U x->ix[j]?=U (U i)->N[i]?=U x/\sc.12 x=U .free
 cf:∀n cl,cellsFrom n sc.54 cl=(z.5 (λq=>(q,(n)))).37++cl
 pc:∀h,pushCells h sc.54=if z=J then h else h.74 {cls:=.type "cell",data:=.cell J}
noncomputable def XG(b:Scope)(N:lr)(x:Str):Option Nat->Bool
 |none=>L
 |some i=>decide (N[i]?=U x)&&decide (b.12 x=U .free)
def EE(b:Scope)(N:lr):lr->List (Option Nat)->Bool
 | [],[]=>L
 |x::r,o::os=>XG b N x o&&EE b N r os
 |_,_=>O
theorem JU:∀{d}{a},EE b N d a=L->a.3=d.3
 | [],[],_=>rfl
 | [],_::_,h=>by simp[EE]at h
 |_::_,[],h=>by simp[EE]at h
 |x::r,o::os,h=>by
  simp[EE,Bool.and_eq_true]at h;simp[length_cons,JU h.2]
theorem Kz:∀{d}{a},EE b N d a=L->∀(j:Nat)x i,d[j]?=U x->a[j]?=U (U i)->N[i]?=U x/\b.12 x=U .free
 | [],_,_,_,_,_,e,_=>by simp at e
 |_::_,[],h,_,_,_,_,_=>by simp[EE]at h
 |y::r,o::os,h,j,x,i,f,g=>by
  simp[EE,Bool.and_eq_true]at h;cases j with
  |zero=>
   simp at f g;subst f g;let l:=h.1;simp[XG,Bool.and_eq_true,decide_eq_true_eq]at l;show l
  |succ j=>
   show Kz h.2 j x i f g
def Lu(z:Option Str)(d b:Scope)(N f:lr)(g:List (Option Nat)):Bool:=
 decide (b.kind=.function)&&(b.names.all λy=>(decide (y.2≠ .cell)||decide (z=U y.1))&&(decide (y.2≠ .free)||decide (d.12 y.1=U .cell)||decide (d.12 y.1=U .free)) &&
  (decide (y.2≠ .local)||decide (b.12 y.1=U .local)))&&(match z with|none=>L|some x=>decide (b.12 x=U .cell))&&EE b N f g
noncomputable abbrev Fv:=Lu J
theorem JV:∀{d},(∀y∈d,y.2=.cell->(J:Option Str)=U y.1)->(∀n i,cellsFrom n d i=i)/\∀h,pushCells h d=h
  | [],_=>(λ_ _=>rfl,λ_=>rfl)
  | (x,k)::r,h=>by
    let e:(k==NameKind.cell)=O:=by
      rw[beq_eq_false_iff_ne];show λe=>nomatch h (x,(k)) zE e
    let(a,b):=JV λy j=>h y (zN _ j);unfold cellsFrom pushCells;simp[e];show(a,b)
theorem eT.ofz(h:Lu z m b N f g=L)(i:∀n l,cellsFrom n b.54 l=(z.5 (λq=>(q,(n)))).37++l)(j:∀h,pushCells h b.54=if z=J then h else h.74 {cls:=.type "cell",data:=.cell J}):eT m b N f g z:=by
 simp only[Lu,Bool.and_eq_true,decide_eq_true_eq,all_eq_true,Bool.or_eq_true]at h;let(((r,d),p),o):=h;show(r,λy a e=>?_,λx e=>?_,λy a e=>?_,λy a e=>?_,JU o,Kz o,i,j)
 ·show(d y a).1.1.elim (λq=>absurd e q) id
 ·subst e;show zR p
 ·rcases (d y a).1.2 with (q|q)|q
  ·show absurd e q
  ·show .inl q
  ·show .inr q
 ·show(d y a).2.elim (λq=>absurd e q) id
theorem eT.of{a}(h:Fv i b N a f=L):eT i b N a f J:=by
 let g:∀y∈b.54,y.2=.cell->J=U y.1:=by
  simp only[Lu,Bool.and_eq_true,decide_eq_true_eq,all_eq_true,Bool.or_eq_true]at h;show λy d e=>(h.1.1.2 y d).1.1.elim (λq=>absurd e q) id
 show .ofz h (JV g).1 (JV g).2
noncomputable abbrev F7(env:Env):Str×NameKind->Str×NameKind:=λ(n,k)=>if (k==NameKind.free&&env.scope.kind == .function&&env.kindOf n==U .cell)then (n,(NameKind.cell))else (n,(k))
theorem NE(a)(y):(F7 a y).1=y.1:=by
 let(n,k):=y;simp[F7];split<;>rfl
theorem RT(a)(n):(F7 a (n,(.free))).2=.cell\/(F7 a (n,(.free))).2=.free:=by
 simp[F7];split
 ·show .inl rfl
 ·show .inr rfl
theorem Vl(a)(y)(h:y.2≠ .free):F7 a y=y:=by
 let(n,k):=y;let e:(k==NameKind.free)=O:=by simpa using h
 simp[F7,e,Bool.false_and,Bool.false_eq_true,if_false]
theorem Fw:∀{a:List (Str×NameKind)}{x},a.8 x=U .free->(a.5 (F7 env)).8 x=U .cell\/(a.5 (F7 env)).8 x=U .free
  | [],_,h=>by simp at h
  | (n,k)::r,x,h=>by
    rw[map_cons]
    let e:F7 env (n,(k))=(n,((F7 env (n,(k))).2)):=by
      have:=NE env (n,(k));show Prod.ext this rfl
    rw[e];cases d:x==n with
    |true=>
      simp[zq,d]at h ⊢;cases h;let z||z:=RT env n
      · rw[z];show .inl rfl
      · rw[z];show .inr rfl
    |false=>
      simp[zq,d]at h ⊢;show Fw h
theorem Iw:∀{a:List (Str×NameKind)}{x},(∀y∈a,y.2=.cell->z=U y.1)->((a.5 (F7 env)).8 x=U .cell\/(a.5 (F7 env)).8 x=U .free)->(x,(NameKind.free))∈a\/z=U x
  | [],_,_,h=>by simp at h
  | (n,k)::r,x,b,h=>by
    rw[map_cons]at h;let e:F7 env (n,(k))=(n,((F7 env (n,(k))).2)):=Prod.ext (NE env (n,(k))) rfl;rw[e]at h;cases j:x==n with
    |true=>
      let i:x=n:=by simpa using j
      subst i;by_cases d:k=.free
      · subst d;show .inl zE
      · rw[Vl env (x,(k)) d]at h
        let q||q:=h
        · show .inr (b (x,(k)) zE (by simpa using q))
        · show absurd (by simpa using q) d
    |false=>
      simp[zq,j]at h;show(Iw (λy l=>b y (zN _ l)) h).imp_left (zN _)
theorem Lv{env:Env}{f}
  (g:∀y acc,y.2≠ .free->f y acc=pure (.yield acc)) (h:∀y acc c,y.2=.free->env.cells.8 y.1=U c->f y acc=pure (.yield ((y.1,(c))::acc))):
  ∀(names:List (Str×NameKind))acc,(∀y∈names,y.2=.free->∃c,env.cells.8 y.1=U c)->(∀x c,acc.8 x=U c->env.cells.8 x=U c) ->
   ∃b,forIn names acc f=(pure b:Sem _)/\(∀x c,b.8 x=U c->env.cells.8 x=U c)/\(∀y∈names,y.2=.free->∃c,b.8 y.1=U c)/\∀x c,acc.8 x=U c->∃i,b.8 x=U i
 | [],acc,_,o=>(acc,rfl,o,λ_ m=>(nomatch m),λx c e=>(c,e))
 |y::r,acc,q,o=>by
  let s:=λz j=>q z (zN _ j);by_cases m:y.2=.free
  ·let(c,hc):=q y zE m
   let(b,e,p1,p2,p3):=Lv g h r ((y.1,(c))::acc) s λx d e=>by
    cases l:x==y.1 with
    |true=>
     simp[zq,l]at e;have:x=y.1:=by simpa using l
     rwa[this,←e]
    |false=>
     simp[zq,l]at e;show o x d e
   show(b,by rw[List.forIn_cons,h y acc c m hc];show e,p1,λz j p=>?_,λx d e=>?_)
   ·let rfl||j:=mem_cons.mp j
    ·show p3 z.1 c (_)
    ·show p2 z j p
   ·cases l:x==y.1 with
    |true=>show p3 x c (by simp[zq,l])
    |false=>show p3 x d (by simp[zq,l];show e)
  ·let(b,e,p1,p2,p3):=Lv g h r acc s o;show(b,by rw[List.forIn_cons,g y acc m];show e,p1,λz j p=>?_,p3);let rfl||j:=mem_cons.mp j
   ·show absurd p m
   ·show p2 z j p
theorem QA(d:∀y∈scope.54,y.2=.free->∃c,env.cells.8 y.1=U c):
  ∃b,closureFor scope env=pure b/\(∀x c,b.8 x=U c->env.cells.8 x=U c)/\∀y∈scope.54,y.2=.free->∃c,b.8 y.1=U c:=by
 let(b,e,p1,p2,_):=Lv (f:=λx r=>if (x.2==NameKind.free)=L then (cellOf env x.1 >>= λa=>pure (ForInStep.yield ((x.1,(a))::r)))else pure (ForInStep.yield r)) (λy acc g=>by
  have:(y.2==NameKind.free)=O:=by simpa using g
  rw[this,zg Bool.false_ne_true]) (λy acc c g l=>by
  let j:(y.2==NameKind.free)=L:=by rw[g];rfl
  rw[zf j];simp only[cellOf,l]
  rfl) scope.54 [] d λx c e=>by simp at e
 show(b,?_,p1,p2);let i:closureFor scope env=(forIn scope.54 [] (λx r=>if (x.2==NameKind.free)=L then (cellOf env x.1 >>= λa=>pure (ForInStep.yield ((x.1,(a))::r)))else pure (ForInStep.yield r)) >>= λh=>pure h):=rfl;rw[i,e];rfl
abbrev XE:=List (Str×l7)->lG->Hp->l7->List l7->LO->Value->lG->Prop
noncomputable def iV(z:Option Str)(xe:XE)(X:Cx)(f:lr)(scope:Scope)(b:List (Str×l7))(s:lG)(H:Hp)(C:l7)(d:List l7)(pn:LO):Cx where
 prog:=X.14
 w:=X.w
 K:=X.K
 mg:=X.mg
 base:=X.39
 A:=X.A
 N:=f
 f9:=s
 g8:=H
 env:=compEnvC scope b C X.21
 outer:=X.33
 stack:=X.33
 ex:=d
 fn:=λx=>decide (z=U x)
 calm:=X.calm
 pn:=pn
 xe:=xe b s H C d pn
abbrev xN:XE:=λ_ _ _ _ _ _ _ _=>False
noncomputable abbrev BU:=iV J xN
noncomputable abbrev ju(z:Option Str)(b:l7)(d:List (Str×l7)):List (Str×l7):=(z.5 (λq=>(q,(b)))).37++d
theorem Ix{X:L2.Cx}{z}{b}{a}(h:∀x c,a.8 x=U c->X.19 x=U c){c}(e:(ju z b a).8 x=U c):X.19 x=U c\/(z=U x/\c=b):=by
 cases z with
 |none=>show .inl (h x c e)
 |some z=>
  let e:((z,(b))::a).8 x=U c:=e;cases d:x==z with
  |true=>
   simp[zq,d,Option.some.injEq]at e;show .inr (by simpa using Eq.symm (by simpa using d),e.35)
  |false=>
   simp[zq,d]at e;show .inl (h x c e)
theorem TK(e:b.8 x=U c)(n:z≠U x):(ju z d b).8 x=U c:=by
 cases z with
 |none=>show e
 |some z=>
  change((z,(d))::b).8 x=U c
  have:(x==z)=O:=by
   rw[beq_eq_false_iff_ne];show λq=>n (by rw[q])
  simp[zq,this];show e
theorem TL:(ju (U x) b d).8 x=U b:=by
 change((x,(b))::d).8 x=U b;simp
theorem TM         
  (i:∀n d,cellsFrom n scope.54 d=ju z n d) (l:∀h,pushCells h scope.54=if z=J then h else h.74 {cls:=.type "cell",data:=.cell J})
  (p:∀f,f.Ns s.4 (λ_=>J)->(z≠J->f.IsCell (s.4+1) J)->(∀b o,s.9 b=U o->f.13 b=U o) ->
   Q ({scope,locals:=s.4,globals,cells:=ju z (s.4+1) d,qual,func:=J,code:=g.code,frame:=g.frame,builtins:=g.builtins}) ({s with heap:=f})):
  wpAny M A (newFunctionEnv scope globals d [] qual J .none (U g)) Q E s:=by
 simp only[newFunctionEnv,Option.isSome_some,if_true];show zo (wpAny_alloc (zo (wpAny_layCells _ (λr a cells=>by cases t:a==NameKind.cell<;>simp) _ _ _ _ ?_)));rw[i,l,show({s with heap:=s.23 {cls:=.type mH,data:=.dict #[]}}:lG).4=s.4+1 from Heap.size_push ..];apply zo;show zn (zn ?_);by_cases j:z=J
 ·rw[zf j];show p _ (Heap.Ns.new s.15 (.type mH)) (λq=>absurd j q) λb o e=>zT _ e
 ·rw[zg j];show p _ ((Heap.Ns.new s.15 (.type mH)).79 λb o e=>zT _ e) (λ_=>?_) λb o e=>zT _ (zT _ e);let e:=zJ (s.23 {cls:=.type mH,data:=.dict #[]}) (o:={cls:=.type "cell",data:=.cell J}) rfl;rw[Heap.size_push]at e;show(_,e,Y)
noncomputable def EG(b:List (Option Nat))(d:St):St:=b.5 λo=>o.bind λi=>(d[i]?).join
theorem Vm{b}{a}{j:Nat}{v}(h:(EG a b)[j]?=U (U v)):∃i,a[j]?=U (U i)/\b[i]?=U (U v):=by
 unfold EG at h;rw[zx]at h;cases e:a[j]? with
 |none=>rw[e]at h;cases h
 |some o=>
  rw[e]at h;simp at h;cases o with
  |none=>cases h
  |some i=>
   show(i,rfl,?_);simp at h;cases q:b[i]? with
   |none=>rw[q]at h;cases h
   |some u=>rw[q]at h;simp at h;rw[h]
theorem Vn(I:Inv X m M H s)(u:eT X.28 scope X.N w A z)(l:∀x c,g.8 x=U c->X.19 x=U c)(G:∀y∈scope.54,y.2=.free->∃c,g.8 y.1=U c)
  (D:s.4<=C) (j:s.4<=f) (a:∀b∈r,F4 X m H b) (i:∀b∈r,b<s.4):(iV z B X w scope (ju z f g) s H C r (X.pn++m)).Ok where
 mod:=I.mod
 kind:=u.kind
 glob:=I.ok.glob
 blt:=I.ok.blt
 above:=D
 inj:=λx y c N F=>by
  let lt:=λx e=>let(v,q):=I.cell x c e;q.lt
  let q1||q1:=Ix l N<;>let q2||q2:=Ix l F
  ·show I.ok.inj x y c q1 q2
  ·have:=lt x q1;rw[q2.2]at this;show absurd this (Nat.not_lt.mpr j)
  ·have:=lt y q2;rw[q1.2]at this;show absurd this (Nat.not_lt.mpr j)
  ·show Option.some.inj (q1.1.symm.7 q2.1)
 has:=λx h=>by
  by_cases p:z=U x
  ·subst p;show(f,TL)
  ·let(c,e):=G (x,(.free)) ((Iw u.one h).resolve_right p) rfl;show(c,TK e p)
 jH:=λx c h e=>by
  let E:=zR h;subst E;let t:(ju (U x) f g).8 x=U c:=e;rw[TL]at t;cases t;show j
 hd:=I.66
 frames:=I.ok.47
 iJ:=.inl rfl
 exf:=λb d=>(zu (zX (i b d) D),λx c e=>(Ix l e).40 (λq=>(a b d).2.2.2.2.1 x c q) λq=>q.2 ▸ Nat.ne_of_gt (zX (i b d) j))
 bs:=I.bs
 iR:=Nat.le_trans I.ok.iR I.sz
 iF:=λb o e d=>by
  let z||z:=(a b d).2.2.2.1
  ·show I.ok.iF b o e z
  ·show absurd (zX (zX (lt_size e) I.ok.iR) z) (zy _)
 iH:=λb d z=>by
  let e||e:=mem_cons.mp (I.gR b z)
  ·show(a b d).2.1 e
  ·show(a b d).2.2.1 e
 gz:=I.33
 jf:=I.stkFree
theorem EH:∀{l:List (Str×NameKind)},l.8 x=U k->(x,(k))∈l
  | [],e=>nomatch e
  | (n,d)::r,e=>by
    cases a:x==n with
    |true=>
      simp[zq,a,Option.some.injEq]at e;have:x=n:=by simpa using a
      subst this e;show zE
    |false=>
      simp[zq,a]at e;show zN _ (EH e)
theorem Om(I:Inv X f ar H s)(D:eT X.28 scope X.N u A z)(F:∀x c,m.8 x=U c->X.19 x=U c)(T:∀y∈scope.54,y.2=.free->∃c,m.8 y.1=U c)
  (M:s.4<=C) (S:s.4<=g) (w:∀b∈R,F4 X f H b) (N:∀b∈R,b<s.4)    (l:∀b o,s.9 b=U o->t.13 b=U o) (r:t.Ns C ag)
  (G:z≠J->t.IsCell g J):Inv (iV z xe X u scope (ju z g m) s H C R (X.pn++f)) [] (EG A ar) H {s with heap:=t,toks:=tk} where
 ok:=Vn I D F T M S w N
 os:=rfl
 bare:=I.73
 base:=Un.kept l
 loc:=(ag,r,λj x v e1 e2 e3=>by
  let(i,ei,ev):=Vm e2;let(hN,h):=D.slot j x i e1 ei;let(mX,_,hl):=I.loc;let B:=EH h;let P:=D.free _ B rfl;let(an,al,q):=hl i x v hN ev (.inr P);show(an,al,.inr (Fw h,?_));let(c,Q):=T _ B rfl;show(c,TK Q λe=>?_,?_)
  ·rw[D.own x e]at h;cases h
  let(k,_)||(_,c',E,z):=q
  ·have k':X.24 x=U .local:=k;let a||a:=P<;>(rw[k']at a;cases a)
  ·rw[F x c Q]at E;cases E
   show z.79 l)
 cell:=λx c e=>by
  let q||q:=Ix F e
  ·let(v,z):=I.cell x c q;show(v,z.79 l)
  ·rw[q.2];show(_,G (by rw[q.1];show λz=>nomatch z))
 free:=I.18 M
 gi:=λx c e=>(Ix F e).40 (λq=>I.gi x c q) λq=>q.2 ▸ I.18 S
 pin:=λp hp=>by
  let ab:p∈X.pn++f:=by
   let z:=hp
   rwa[zj]at z
  let(e,n,ne,nf,d):=I.pin p ab;show(l _ _ e,n,zu (zX (lt_size e) M),λz=>?_,d);let q||q:=mem_cons.mp (I.gR p.1 z)
  ·show ne q
  ·show nf q
 eA:=I.eA.75 l
 len:=by
  unfold EG;rw[AO];show D.61
theorem RU(I:Inv X g m H s)(a:∀b∈i,F4 X g H b)(f:Inv (iV z q X o scope p s H C i (X.pn++g)) e h j l):Inv X g m j l:=
 I.call' f.os f.39 f.eA f.73 λb d=>((a b d).2.2.2.1,(a b d).2.1,(a b d).2.2.2.2.1,(a b d).2.2.2.2.2)
def jk(X:Cx)(b:List Expr)(t:TT):Prop:=
 ∀f s(d:St)H Q,Inv X f d H s->t d H Q ->
  gm X (forIn b L λc r=>if r=L then do let ok ←isTrue c X.21 (eval c X.21);pure (ForInStep.yield ok)else pure (ForInStep.yield r)) (TP X f d Q) X.xe s
def bZ:TT:=λ_ H Q=>Q L H
theorem BJ:jk X [] bZ:=λa s d H Q I h=>wpAny_tests_nil (H,I,h)
theorem Fd(h:PT X c t):jk X [c] t:=λa s d H Q I q=>wpAny_tests_one (h a s d H Q I q)
def tW{b:Type}(d:It)(g:b)(ok:b->Prop)(B:V->b->(b->Hp->Prop)->Hp->Prop)(R:b->Hp->Prop)(f:Hp):Prop:=∃W:Nat->Nat->b->Hp->Prop,(∃m,W 0 m g f)/\∀i m j H,W i m j H ->
 (d.stop i H/\ok j/\R j H)\/(d.go i H/\∃N,(∀l h,N l h->ok l/\∃o,o<m/\W (i+1) o l h)/\∀x h,d.jD i H x h->B x j N h)
abbrev TAd(b:Type):=b->St->Hp->(b->Hp->Prop)->Prop
abbrev bT{d:Type}(g:TG)(tt:TT)(h:TAd d)(f:List (Option Nat))(i:St):V->d->(d->Hp->Prop)->Hp->Prop:=λx m N o=>g x (EG f i) o λl p=>tt l p λb j=>if b=L then h m l j N else N m j
abbrev Hy{b:Type}(d:b)(ok:b->Prop)(i:TI)(g:TG)(tt:TT)(h:TAd b)(f:List (Option Nat))(R:b->Hp->Prop):St->Hp->Prop:=λj H=>i j H λm l=>tW m d ok (bT g tt h f j) R l
abbrev iU{d:Type}(b:List d):Prop:=b.3<=sizeLine
abbrev i4(b:TE):TAd (ly):=λf g H N=>b g H λy d=>N (f++[y]) d
abbrev Hz(d:TI)(g:TG)(tt:TT)(b:TE):=Hy [] iU d g tt (i4 b)
theorem CL{z}{o}{ok}{B}{R}(d:Nat->z->Hp->Prop)(t:d 0 o w)(s:∀i f H,d i f H->ok f)
  (y:∀i f H,i<n->d i f H->g.go i H/\∀x l,g.jD i H x l->B x f (d (i+1)) l) (p:∀f H,d n f H->g.stop n H/\R f H):tW g o ok B R w:=by
 show(λi m f H=>C₃ (m=n-i) (i<=n) (d i f H),(_,rfl,Nat.zero_le _,t),?_);rintro i m f H ⟨rfl,v,j⟩;let h||r:=Nat.lt_or_ge i n
 ·let(a,b):=y i f H h j;show .inr (a,d (i+1),λu l q=>(s _ _ _ q,n-(i+1),by lia,Y,h,q),b)
 ·have e:i=n:=by lia
  subst e;show .inl ((p _ _ j).1,s _ _ _ j,(p _ _ j).2)
def PGk(X:Cx)(d:Expr)(b:List (Option Nat))(g:TG):Prop:=
 ∀l s h H v u Q,Inv X l (EG b h) H s->RelV v u->g v (EG b h) H Q ->
  gm X (assign d X.21 u) (λ_ m=>∃f i,Inv X l f i m/\(∀(j:Nat)v,(EG b h)[j]?=U (U v)->f[j]?=U (U v))/\Q f i) X.xe s
theorem Gy(h:PG X (.Name x b) (Bt 0)):PGk X (.Name x b) (J::i) (Bt 0):=by
 intro d s p H v u Q I r q;show eI (h d s _ H v u (λa l=>(∀j v,(EG (J::i) p)[j]?=U (U v)->a[j]?=U (U v))/\Q a l) I r (λj w e=>?_,q)) λ_ t (a,l,o,k,q)=>(a,l,o,k,q);cases j with
 |zero=>cases e
 |succ j=>show e
theorem JW(h:PG X b (VU f 2 (El (Bt 0) (El (Bt 1) RE)))):PGk X b (gt::gt::o) (VU f 2 (El (Bt 0) (El (Bt 1) RE))):=by
 intro i s g H v u Q I r q;let(a,p,G,x,E,J,D,z,M,y,F,t,q):=q;show eI (h i s _ H v u (λd l=>(∀j v,(EG (gt::gt::o) g)[j]?=U (U v)->d[j]?=U (U v))/\Q d l) I r (a,p,G,x,E,J,D,z,M,y,F,t,λj w e=>?_,q)) λ_ N m=>by let(d,l,C,k,q):=m;show (d,l,C,k,q)
 match j with
 |0=>cases e
 |1=>cases e
 |j+2=>show e
structure XH(RD:Cx->Prop)(P:Program)(w:World)(K:FG)(tg:Expr)(J:It)(fp:List l7)(it:l7)(tn:Nat->Heap->Prop):Prop where
 obj:∀i h,tn i h->∀b∈fp,∃o,h.13 b=U o/\∀v,o.38≠ .cell v
 keep:∀i h h',tn i h->(∀b∈fp,∀o,h.13 b=U o->h'.13 b=U o)->tn i h'
 item:∀X,X.14=P->X.w=w->X.K=K->RD X->∀i db s(σ:St)H(E:VS),Inv X db σ H s->(∀b∈fp,F4 X db H b)->tn i s.15->J.go i H ->
  wpAny (model P w) X.A (pyNext (.ref it)) (λr d=>∃u,r=U u/\wpAny (model P w) X.A (letOwnedTupleGo tg (.ref it) u) (λ_ f=>∃x H',Inv X db σ H' f/\RelV x u/\J.jD i H x H'/\tn (i+1) f.15/\∀b∈fp,H' b=gt) E d) E s
 done:∀X,X.14=P->X.w=w->X.K=K->RD X->∀i db s(σ:St)H(E:VS),Inv X db σ H s->(∀b∈fp,F4 X db H b)->tn i s.15->J.stop i H ->
  wpAny (model P w) X.A (pyNext (.ref it)) (λr d=>r=gt/\Inv X db σ H d) E s
 self:∀A i s(Q:VS)(E:VS),tn i s.15->Q (.ref it) s->wpAny (model P w) A (pyIter (.ref it)) Q E s
def PIg(d:Cx->Prop)(X:Cx)(f iter:Expr)(g:TI):Prop:=∀i s(j:St)H R,Inv X i j H s->g j H R ->
 gm X (eval iter X.21) (λv u=>gm X (pyIter v) (λr p=>∃(o:l7)(m:List l7)(q:Nat->Heap->Prop)(l:It)(h:Hp),r=.ref o/\Inv X i j h p/\XH d X.14 X.w X.K f l m o q/\q 0 p.15/\(∀b∈m,F4 X i h b)/\R l h) X.xe u) X.xe s
theorem PI.g(h:PI X b iter u):PIg (λX=>X.calm=L) X b iter u:=λa s t H R I q=>
 eI (h a s t H R I q) λv y z=>eI z λp x (j,d,l,f,i,e,o,T,r)=>(j,d,l,f,i,e,o,(T.obj,T.34,T.item,T.done,T.self),r)
noncomputable def ZH(d iter:Expr)(g:List Expr)(b:Value)(env:Env)(f:Sem Unit)(c:Code):Sem PySem.Fin:=do
 standAt iter.pos
 match ←pyNext b with
 |none=>pure (.done .next)
 |some v=>
  letOwnedTupleGo d b v
  assign d env v
  let mut ok:=L
  for c in g do
   if ok then ok ←isTrue c env (eval c env)
  if ok then
   f
  again c
structure RV{b:Type}(P:Program)(w:World)(d:Expr)(mk:Sem Value)(tg iter:Expr)(ifs:List Expr)(add:l7->Env->Sem Unit)(e0:b)(ok:b->Prop)(ho:l7->b->HO)(RA:Heap->l7->b->Prop):Prop where
 cl:clausesOf d=[(tg,iter,ifs,0)]
 new:∃f,f.isFreed=O/\(∀v,f.38≠ .cell v)/\(∀h D,h.13 D=U f->RA h D e0)/\∀A(Q:VS)(E:VS)s,Q (.ref s.4) {s with heap:=s.23 f}->wpAny (model P w) A mk Q E s
 turn:∀(A:Around)it D env,A.under (.compLoop d 0 it (.ref D) env)=A/\(model P w).den (.compLoop d 0 it (.ref D) env)=(ZH tg iter ifs it env (add D env) (.compLoop d 0 it (.ref D) env)).onRaise λx=>do noteFrame x env;theTreesLotGoes x
 start:∀A R s it D env,codeAny (model P w) A (.compLoop d 0 it (.ref D) env) R s->wpAny (model P w) A (pyIter it) (λg s'=>codeAny (model P w) A (.compLoop d 0 g (.ref D) env) R s') (notedBy (model P w) A env λx s'=>R (.error x) s') s->codeAny (model P w) A (.compStart d 0 it (.ref D) env) R s
 at_:∀h h' D a,RA h D a->(∀o,h.13 D=U o->h'.13 D=U o)->RA h' D a
 fin:∀H h D a,ok a->(D==sysModules)=O->RA h D a->fY P w H h D (ho D a)
structure AtD(X:Cx)(D:l7)(db:LO):Prop where
 up:X.f9.4<=D
 ce:∀x c,X.19 x=U c->c≠D
 pi:∀p∈X.pn++db,p.1≠D
def PAd{b:Type}(X:Cx)(f:l7->Env->Sem Unit)(ok:b->Prop)(d:Heap->l7->b->Prop)(g:TAd b):Prop:=∀(D:l7)(p:Obj)o j s(l:St)H N,Inv X ([(D,(p))]++j) l H s->AtD X D j->d s.15 D o->(∀h i,N h i->ok h)->g o l H N ->
 gm X (f D X.21) (λ_ m=>∃q h i,Inv X ([(D,(q))]++j) l i m/\d m.15 D h/\N h i) X.xe s
theorem Inv.iE(I:Inv X ([(D,(a))]++b) d H s):s.9 D=U a/\H D=J/\D≠X.17/\D∉ X.fs/\∀v,a.38≠ .cell v:=I.pin (D,(a)) (zP _ (zL _ zE))
theorem Inv.reD(I:Inv X ([(D,(C))]++f) m H s)(a:AtD X D f)(y:∀b,b≠D->g.13 b=s.9 b)(q:g.13 D=U d)(z:∀v,d.38≠ .cell v):Inv X ([(D,(d))]++f) m H {s with heap:=g,toks:=t}:=by
 let(_,l,r,x,_):=I.iE;let u:=I.pins_of λp i=>I.pin p (zP _ (zP _ i));let It:=u.64 (t':=t) (λb o j e=>(y b j).7 e) l r (.inr a.up) a.ce a.pi;show It.pins_of λp i=>?_;let h||h:=mem_append.mp i
 ·have e:p=(D,(d)):=by simpa using h
  subst e;show(q,l,r,x,z)
 ·show It.pin p (zP _ h)
end
section
variable {α:Type}
mutual
def XCv(X:Cx)(scope:Scope)(d:XE):Prop:=∀h s H C D i g(m:St)l(j:VS)x f,Inv X g m H s->(∀b∈i,F4 X g H b)->d h s H C i (X.pn++g) x f->notedBy (model X.14 X.w) X.A (compEnvC scope h C X.21) (λx f=>compPost (model X.14 X.w) X.A X.xe l j (.ref D) C (.error x) f) x f
theorem CV:XCv X scope xN:=λ_ _ _ _ _ _ _ _ _ _ _ _ _ _ h=>h.40
abbrev Far(X:Cx)(z:Option Str)(b:List (Str×l7)):Prop:=(∀x,X.fn x=L)->∀x c,b.8 x=U c->z=U x\/c∉ gD X.33
theorem K0{e0:α}{ok}{w}{v}{ta}(G:RV X.14 X.w ar mk tg iter bN bs e0 ok w v)(hx:XCv X scope m)(r:eT X.28 scope X.N u ix z)(hc:∀g s H C f l,RD (iV z m X u scope g s H C f (X.pn++l)))(hi:PIg RD X tg iter wi)
  (hg:∀g s H C f A,PGk (iV z m X u scope g s H C f A) tg ix bB) (ht:∀g s H C f A,jk (iV z m X u scope g s H C f A) bN tt) (he:∀g s H C f A,Far X z g->PAd (iV z m X u scope g s H C f A) bs ok v ta)
  (hs:∀x,foldedSetIterable iter X.21 x=pure x)     {a5} (a4:Inv X l B H s) (bC:Hy e0 ok wi bB tt ta ix a5 B H)
  (bK:∀j h d D C al,Inv X l B (upd d D (w D h)) j->a5 h d->d D=gt->j.heap.Ns C al->X.f9.4<=C->C≠X.17->(∀x c,X.19 x=gl c->c≠C)->(∀p∈X.pn++l,p.1≠C) ->
   upd d D (w D h) C=gt->compPost (model X.14 X.w) X.A X.xe bm Qv (.ref D) C (.ok .next) j):
  gm X (comprehension ar scope X.21 b6 mk im (eval iter X.21) bm) Qv X.xe s:=by
 let(g,hclos,c1,c2):=QA λy hy bL=>by
  have:=r.free y hy bL;show a4.ok.has y.1 this
 let(ob0,fr0,nc0,ra0,fm):=G.new;show wpAny_comprehension_free G.cl hs hclos r.kind r.loc (eI (hi l s B H _ a4 bC) λbX s1 h1=>eI h1 λb4 M h2=>?_);let(it,f,tn,J,H2,e,I2,T,st2,f2,W,(m0,w0),turn):=h2;subst e
 let je:∀b∈f,b<M.4:=λb E=>by
  let(o,e,_):=T.obj _ _ st2 b E;show lt_size e
 show fm _ _ _ _ (TM r.cf r.pc λbM bb a9 aR=>?_);generalize az:M.23 ob0=R at bb a9 aR ⊢;let hC:R.10=M.4+1:=by rw[←az,Heap.size_push]
 let a7:M.4≠R.10:=by rw[hC];show zu (Nat.lt_succ_self _)
 let ab:M.4<=R.10:=by rw[hC];show Nat.le_succ _
 let as:M.4<R.10+1:=by rw[hC];lia
 let aM:=λb o e=>aR b o (az ▸ zT _ e);let a8:=aR _ _ (az ▸ zJ _ fr0);generalize b3:R.10+1=ag at *;generalize b2:R.10=C at *;generalize I:M.4=D at *;let IX:=Om (xe:=m) I2 r c1 c2 (by rwa[I]) (by rw[I];show Nat.le_of_lt as) f2 (by rwa[I]) (tk:=M.62) aM bb a9;let bF:=I2.18 (by rw[I];show zp _)
 let bE:D∉ gD X.33:=λz=>by
  let q||q:=mem_cons.mp (I2.gR D z)
  ·have:=I2.lt;rw[←q,I]at this;show zy _ this
  ·show I2.nofs (by rw[I];show zp _) q
 let an:∀x c,X.19 x=gl c->c<D:=λx c e=>by
  let(bX,z):=I2.cell x c e;rw[←I];show z.lt
 let jO:∀x c,(ju z ag g).8 x=gl c->c≠D:=λx c e=>(Ix c1 e).40 (λq=>zu (an x c q)) (λq=>q.2 ▸ Nat.ne_of_gt as);let a0:∀p∈X.pn++l,p.1<D:=λp N=>by rw[←I];show lt_size (I2.pin p N).1
 let bl:X.f9.4<=D:=by rw[←I];show I2.sz
 let bd:X.17<D:=by rw[←I];show I2.lt
 let bS:(D==sysModules)=im:=by
  rw[beq_eq_false_iff_ne,←I];show Nat.ne_of_gt I2.big
 let kY:Far X z (ju z ag g):=λbI x c e=>(Ix c1 e).40 (λq=>.inr λy=>by
  let y||y:=mem_cons.mp (I2.gR c y)
  ·show I2.jO x c q y
  ·let(_,o,w,_):=I2.ok.gz.mem y
   show absurd (zX (lt_size w) (I2.ok.jH x c (bI x) q)) (zy _)) λq=>.inl q.1
 letI X':Cx:=iV z m X u scope (ju z ag g) M H2 C f (X.pn++l)
 let a2:∀{d:Hp}{P:Obj},(∀b∈f,d b=gt)->∀b∈f,F4 X' [(D,(P))] d b:=λ{d P}hn b E=>by
  show(hn b E,zu (zX (je b E) ab),λz=>?_,.inl E,λx c e=>(Ix c1 e).40 (λq=>(f2 b E).2.2.2.2.1 x c q) (λq=>q.2 ▸ Nat.ne_of_gt (Nat.lt_trans (je b E) as)),λp N=>?_)
  ·show IX.ok.iH b E z
  ·let z||z:=mem_append.mp N
   ·show(f2 b E).2.2.2.2.2 p z
   ·have e:p=(D,(P)):=by simpa using z
    subst e;show Nat.ne_of_gt (je b E)
 let be:∀s3:lG,s3={M with heap:=bM,toks:=M.62} ->
   codeAny (model X.14 X.w) X.A (.compLoop ar 0 (.ref it) (.ref D) (compEnvC scope (ju z ag g) C X.21)) (compPost (model X.14 X.w) X.A X.xe bm Qv (.ref D) C) s3:=by
  rintro s3 rfl
  show codeAny_loop Y (λn j=>∃i h P d,Inv X' [(D,(P))] (EG ix B) d j/\tn i j.15/\(∀b∈f,d b=gt)/\W i n h d/\v j.15 D h)
   (λn s4 hI=>?_) m0 (0,e0,ob0,H2,IX.pins_of (λp N=>by
    let q:p=(D,(ob0)):=by simpa using N
    subst q
    show(a8,bF,a7,bE,nc0)),T.34 _ _ _ st2 (λb _ o e=>aM b o e),λb E=>(f2 b E).1,w0,ra0 _ _ a8)
  let(i,h,P,H4,I4,st4,fr4,w4,dd4):=hI;rw[(G.turn _ _ _ _).1,(G.turn X.A _ _ _).2];apply wpAny_noted;show zm (E:=X'.xe) ?_ (λ_ _ q=>q) (λx j q=>hx _ _ _ _ _ _ _ _ _ _ _ _ I2 f2 q);let bk:=I4.pin (D,(_)) (zP _ zE);let(stop,hz,bO)||(go,br,hN,step):=turn i n h H4 w4
  ·show zo (zF (zo (eI (T.done X' Y Y Y (hc _ _ _ _ _ _) i _ s4 _ H4 _ I4 (a2 fr4) st4 stop) λr' s5 (hr,I5)=>?_)));subst hr;let pD:=I5.pin (D,(_)) (zP _ zE);let Ib:=RU I2 f2 I5;let Ic:=Ib.track pD.2.1 (Nat.ne_of_gt bd) (.inr bl) (λx c e=>zu (an x c e)) (λp N=>zu (a0 p N)) (G.fin _ _ _ _ hz bS (G.at_ _ _ _ _ dd4 λo e=>by rw[bk.1]at e;cases e;show pD.1));let(m5,n5,_):=I5.loc
   show zn (bK s5 h H4 D C m5 Ic bO pD.2.1 n5 (Nat.le_trans bl ab) (Nat.ne_of_gt (zX bd ab)) (λx c e=>zu (zX (an x c e) ab))
    (λp N=>zu (zX (a0 p N) ab)) ?_)
   rw[AE (Ne.symm a7)];show I5.free
  ·show zo (zF (zo (eI (T.item X' Y Y Y (hc _ _ _ _ _ _) i _ s4 _ H4 _ I4 (a2 fr4) st4 go) λr' s5 (bW,hr,h5)=>?_)));subst hr;show zo (eI h5 λ_ s6 (x,H6,I6,r6,y6,a1,bu)=>?_);let bn:=I6.pinned (a2 bu) (T.obj _ _ a1);show zo (eI (hg _ _ _ _ _ _ _ s6 _ H6 x bW _ bn r6 (step x H6 y6)) λ_ s7 (a3,H7,I7,k7,q7)=>?_);show zo (eI (ht _ _ _ _ _ _ _ s7 a3 H7 _ I7 q7) λb s8 (H8,I8,q8)=>?_)
   let again:∀{H9:Hp}{Q:lG}{jb:α}{aC:Obj},Inv X' ([(D,(aC))]++JM f s6.15) a3 H9 Q->v Q.15 D jb ->
     (∃m',m'<n/\W (i+1) m' jb H9)->∃al,al<n/\∃i h P d,Inv X' [(D,(P))] (EG ix B) d Q/\tn i Q.15/\(∀b∈f,d b=gt)/\W i al h d/\v Q.15 D h:=by
    intro H9 Q jb aC S bR ⟨m',hm,w9⟩;show(m',hm,i+1,jb,aC,H9,S.unpinned.weak (I4.len.7 S.len.35) k7,T.34 _ _ _ a1 λb E o e=>(S.pin (b,(o)) (zP _ (zP _ (D7 E e)))).1,λb E=>?_,w9,bR);let(o,e,ar):=T.obj _ _ a1 b E;show(S.pin (b,(o)) (zP _ (zP _ (D7 E e)))).2.1
   let a6:=G.at_ _ _ _ _ dd4 λo e=>by rw[bk.1]at e;cases e;show I8.iE.1
   cases b with
   |false=>
    show zn (Y,again I8 a6 (hN _ _ q8).2)
   |true=>
    show zo (eI (he _ _ _ _ _ _ kY D P h _ s8 a3 H8 br I8 (by change M.4<=D;rw[I];show zp _,jO,λp N=>?_) a6 (λjb d q=>(hN _ _ q).1) q8) λ_ Q (b5,b7,H9,S,d9,n9)=>zn (rfl,again S d9 (hN _ _ n9).2));let z'||z':=mem_append.mp N
    ·show zu (a0 p z')
    ·show zu (je p.1 (Kk z').1)
 show G.start _ _ _ _ _ _ (be _ Y) (T.self _ 0 _ _ _ (T.34 _ _ _ st2 λb _ o e=>aM b o e) (be _ Y))
theorem Dx{u:α}{ok}{y}{v}{E}(G:RV X.14 X.w d mk q iter as P u ok y v)(A:XCv X scope m)(T:eT X.28 scope X.N f o z)(M:∀i s H C j a,B (iV z m X f scope i s H C j (X.pn++a)))(hi:PIg B X q iter wi)
  (hg:∀i s H C j l,PGk (iV z m X f scope i s H C j l) q o g) (ht:∀i s H C j l,jk (iV z m X f scope i s H C j l) as tt) (R:∀i s H C j l,Far X z i->PAd (iV z m X f scope i s H C j l) P ok v E) (hs:∀x,foldedSetIterable iter X.21 x=pure x) (hd:eval d X.21=comprehension d scope X.21 a1 mk im (eval iter X.21)):
  PE X d (λw H Q=>Hy u ok wi g tt E o (λr t=>∀p,t p=gt->Q (.ref p) (upd t p (y p r))) w H):=by
 intro a s w H Q I h;rw[hd];show K0 G A T M hi hg ht R hs I h λs' r t D C az I' aM an ar N ab S al F=>(az,ar,λaR aC=>(.ref D,_,I'.64 (λb a0 ag e=>(aC.2 b ag).7 e) F ab (.inr N) S al,zd,aM D an))
theorem JX{Q:α}{ok}{r}{S}{v}(hN:X.N.29)(P:X.N[an]?=U x)(u:X.24 x=U .local)(F:swapsWith d (U (.Name x m)) t.68 X.21=pure ii)
  (G:RV X.14 X.w d mk A iter ar ab Q ok r S) (hx:XCv X scope h) (hf:eT X.28 scope X.N f w z) (hc:∀l s H C q j,RD (iV z h X f scope l s H C q (X.pn++j))) (hi:PIg RD X A iter wi)
  (hg:∀l s H C q y,PGk (iV z h X f scope l s H C q y) A w g) (ht:∀l s H C q y,jk (iV z h X f scope l s H C q y) ar tt) (he:∀l s H C q y,Far X z l->PAd (iV z h X f scope l s H C q y) ab ok S v) (hs:∀x,foldedSetIterable iter X.21 x=pure x)
  (hd:evalThenUse d X.21 (assign (.Name x m) X.21)=(do let _ ←comprehension d scope X.21 a0 mk im (eval iter X.21) (U (assign (.Name x m) X.21)))):
  PS X (.Assign [.Name x m] d t) (λD o H=>Hy Q ok wi g tt v w (λB i=>∀p,i p=gt->D.nx (o.set an (U (.ref p))) (upd i p (r p B))) o H):=by
 intro j s o H D I al;rw[exec_Assign_Name_used _ _ _ _ F];show zo (zF (zo ?_));rw[hd];show zo (eI (K0 G hx hf hc hi hg ht he hs I al λs' B i R C as I' az hD hn h1 h2 T h4 ag=>wpAny_assign_Name (Ki (v:=.ref R) I' hN P (.inl u) zd (λkA N aC=>?_) (.inr u))) λ_ s' hq=>zn (zn hq));let(a,L,ha):=aC
 let M:C≠a:=by
  let z||z:=ha
  ·rwa[z]
  ·show(T x a z).35
 show(as,hn.sameBut L M,λaM E=>(_,_,N.64 (λb aR hb e=>(E.2 b hb).7 e) ag h2 (.inr h1) T h4,az R hD))
noncomputable abbrev ZI(b:Expr)(D:l7)(env:Env):Sem Unit:=do let _ ←call (.builtin "list.append") [.ref D,←eval b env]
noncomputable abbrev hoR(_:l7)(b:ly):HO:=.lst b
def RAl(h:Heap)(D:l7)(b:ly):Prop:=∃d k,Vals b d/\h.13 D=U {cls:=.type md,data:=.seq (List.toArray d) k}
theorem DI:RV P w (.ListComp b [(g,iter,f,0)] scope m) (newList []) g iter f (ZI b) [] iU hoR RAl where
 cl:=rfl
 new:=({cls:=.type md,dict:=J,data:=.seq ([]).11},rfl,(λv z=>nomatch z),λh D e=>([],_,.nil,e),λA Q E s h=>wpAny_newObj_type h)
 turn:=λA o D i=>(rfl,rfl)
 start:=λA R s o D i l j=>codeAny_compStart_list l j
 at_:=λh t D a y q=>by let(d,k,r,e):=y;show (d,k,r,q _ e)
 fin:=λH h D a p _ x=>by let(d,k,r,e):=x;show (p,d,k,r,e)
theorem Dy(u:PE X f g):PAd X (ZI f) iU RAl (i4 g):=by
 intro D t m i s A H N I a ⟨d,k,p,E⟩ C q;obtain rfl:t=_:=Option.some.inj (I.iE.1.symm.7 E);show zo (eI (u _ s A H _ I q) λy o w=>?_);let(z,G,e,x,j):=w;let M:(m++[z]).3<=sizeLine:=C _ _ j;rw[zY,p.3]at M;show zo (call_meets F.slot_list_append (_,e.iE.1,Y) F.entry_list_append (F.args_list_append_2 _ _) (PySem.list_append D d.11 k y (by rw[size_toArray];lia)) (e.iE.1,zn ?_));let h:d.toArray.74 y=(d++[y]).11:=by simp
 let(l,q):∃l,(o.heap.65 D (Obj.mapSeq (·.74 y))).13 D=U {cls:=.type md,data:=.seq (d++[y]).11 l}:=(_,by rw[←h];show PySem.IsL.update e.iE.1 (·.74 y));show(_,_,G,e.reD a (λb r=>zS o.15 (Obj.mapSeq (·.74 y)) (Ne.symm r)) q (λv z=>nomatch z),(_,_,p.append (.cons x .nil),q),j)
end
end
mutual
abbrev g2(b:FG):TG:=VU b 2 (El (Bt 0) (El (Bt 1) RE))
theorem BX(h)(a)(r:Fv X.28 scope X.N (x::h) (J::a)=L)(j:(x::h).29)(o:scope.12 x=U .local)(t:X.calm=L)(u:PI X (.Name x v) iter y)
  (ht:∀e s H C i d,jk (BU X (x::h) scope e s H C i d) g tt) (q:∀e s H C i d,PE (BU X (x::h) scope e s H C i d) b m) (f:∀x,foldedSetIterable iter X.21 x=pure x:=by intro _;rfl):
  PE X (.ListComp b [(.Name x v,iter,g,0)] scope A) (λz H Q=>Hz y (Bt 0) tt m (J::a) (λw l=>∀p,l p=J->Q (.ref p) (upd l p (.lst w))) z H):=
 Dx DI CV (eT.of r) (λ_ _ _ _ _ _=>t) u.g (λe s H C i d=>Gy (A5 j rfl (.inl (z4 o)) (.inr (z4 o)))) ht (λ_ _ _ _ _ _ _=>Dy (q _ _ _ _ _ _)) f rfl
theorem Gz{y}{kt}(i)(d)(u:Fv X.28 scope X.N (x::y::i) (J::J::d)=L)(a:(x::y::i).29)(r:scope.12 x=U .local)(q:scope.12 y=U .local)(l:X.calm=L)
  (v:PI X (.Tuple [.Name x z,.Name y m] kt pt) iter D)
  (ht:∀h s H C j e,jk (BU X (x::y::i) scope h s H C j e) g tt) (t:∀h s H C j e,PE (BU X (x::y::i) scope h s H C j e) b w) (f:∀x,foldedSetIterable iter X.21 x=pure x:=by intro _;rfl):
  PE X (.ListComp b [(.Tuple [.Name x z,.Name y m] kt pt,iter,g,0)] scope E) (λB H Q=>Hz D (g2 X.K) tt w (J::J::d) (λA o=>∀p,o p=J->Q (.ref p) (upd o p (.lst A))) B H):=
 Dx DI CV (eT.of u) (λ_ _ _ _ _ _=>l) v.g (λh s H C j e=>JW (BR l (AQ (A5 a rfl (.inl (z4 r)) (.inr (z4 r)))
  (AQ (A5 a rfl (.inl (z4 q)) (.inr (z4 q))) Az)))) ht (λ_ _ _ _ _ _ _=>Dy (t _ _ _ _ _ _)) f rfl
theorem NF{i}{z}(I:X.N.29)(r:X.N[i]?=U z)(B:X.24 z=U .local)(l)(d)(F:Fv X.28 scope X.N (x::l) (J::d)=L)(q:(x::l).29)
  (u:scope.12 x=U .local) (y:X.calm=L) (m:PI X (.Name x v) iter w)
  (ht:∀j s H C e h,jk (BU X (x::l) scope j s H C e h) f tt) (E:∀j s H C e h,PE (BU X (x::l) scope j s H C e h) b N)
  (o:swapsWith (.ListComp b [(.Name x v,iter,f,0)] scope M) (U (.Name z G)) a.68 X.21=pure L:=by rfl) (A:∀x,foldedSetIterable iter X.21 x=pure x:=by intro _;rfl):
  PS X (.Assign [.Name z G] (.ListComp b [(.Name x v,iter,f,0)] scope M) a) (λD g H=>Hz w (Bt 0) tt N (J::d) (λP t=>∀p,t p=J->D.nx (g.set i (U (.ref p))) (upd t p (.lst P))) g H):=
 JX I r B o DI CV (eT.of F) (λ_ _ _ _ _ _=>y) m.g (λj s H C e h=>Gy (A5 q rfl (.inl (z4 u)) (.inr (z4 u)))) ht (λ_ _ _ _ _ _ _=>Dy (E _ _ _ _ _ _)) A rfl
theorem TN(A:X.N.29)(r:X.N[i]?=U z)(P:X.24 z=U .local)(o)(e)(I:Fv X.28 scope X.N (x::y::o) (J::J::e)=L)(a:(x::y::o).29)
  (v:scope.12 x=U .local) (E:scope.12 y=U .local) (t:X.calm=L) (M:PI X (.Tuple [.Name x F,.Name y g] kt pt) iter N)
  (ht:∀l s H C h j,jk (BU X (x::y::o) scope l s H C h j) f tt) (G:∀l s H C h j,PE (BU X (x::y::o) scope l s H C h j) b R)
  (q:swapsWith (.ListComp b [(.Tuple [.Name x F,.Name y g] kt pt,iter,f,0)] scope Q) (U (.Name z w)) d.68 X.21=pure L:=by rfl) (B:∀x,foldedSetIterable iter X.21 x=pure x:=by intro _;rfl):
  PS X (.Assign [.Name z w] (.ListComp b [(.Tuple [.Name x F,.Name y g] kt pt,iter,f,0)] scope Q) d) (λD m H=>Hz N (g2 X.K) tt R (J::J::e) (λS u=>∀p,u p=J->D.nx (m.set i (U (.ref p))) (upd u p (.lst S))) m H):=
 JX A r P q DI CV (eT.of I) (λ_ _ _ _ _ _=>t) M.g (λl s H C h j=>JW (BR t (AQ (A5 a rfl (.inl (z4 v)) (.inr (z4 v)))
  (AQ (A5 a rfl (.inl (z4 E)) (.inr (z4 E))) Az)))) ht (λ_ _ _ _ _ _ _=>Dy (G _ _ _ _ _ _)) B rfl
theorem G3{d:Type}{b:List d}(h:b.3<=1000):b.3<=sizeLine:=Nat.le_of_lt (AR h)
theorem K1{a}{g}{f}{v}{l}{ok}{B}{R}{o}(d:Nat->v->Hp->Prop)(q:d 0 l o)(j:∀i b H,i<=f.3->d i b H->dY g H a f)(s:∀i b H,d i b H->ok b)(m:∀i x b H,f[i]?=U x->d i b H->B x b (d (i+1)) H)(r:∀b H,d f.3 b H->R b H):tW (jJ g a) l ok B R o:=by
 show CL d q s (λi b H e h=>?_) λb H h=>((f,j _ b H (zp _) h,zp _),r b H h);let u:=z7 e;show((f,f[i],j i b H (Nat.le_of_lt e) h,u),?_);rintro x p ⟨rfl,t⟩;show m i x b p (t f (j i b p (Nat.le_of_lt e) h)) h
theorem TQ{a}{g}{f}{v}{l}{ok}{B}{R}{o}(d:Nat->v->Hp->Prop)(q:d 0 l o)(j:∀i b H,i<=f.3->d i b H->eO g H a f)(s:∀i b H,d i b H->ok b)(m:∀i x b H,f[i]?=U x->d i b H->B x b (d (i+1)) H)(r:∀b H,d f.3 b H->R b H):tW (Itt g a) l ok B R o:=by
 show CL d q s (λi b H e h=>?_) λb H h=>((f,j _ b H (zp _) h,zp _),r b H h);let u:=z7 e;show((f,f[i],j i b H (Nat.le_of_lt e) h,u),?_);rintro x p ⟨rfl,t⟩;show m i x b p (t f (j i b p (Nat.le_of_lt e) h)) h
theorem Dz{m}{a}{ω}{xs}{f}{g}{tt}{e}{R}{h}(d:Nat->ly->Hp->Prop)(l:d 0 [] h)(j:∀i b H,i<=xs.3->d i b H->dY ω H a xs)(r:∀i b H,d i b H->b.3<=1000)(p:∀i x b H,xs[i]?=U x->d i b H->bT g tt (i4 f) e m x b (d (i+1)) H)(o:∀b H,d xs.3 b H->R b H):tW (jJ ω a) [] iU (bT g tt (i4 f) e m) R h:=K1 d l j (λi b H q=>G3 (r i b H q)) p o
theorem NG{p}{a}{r}{f}{m}{g}{tt}{e}{R}{h}(d:Nat->ly->Hp->Prop)(l:d 0 [] h)(j:∀i b H,i<=f.3->d i b H->eO r H a f)(u:∀i b H,d i b H->b.3<=1000)(s:∀i x b H,f[i]?=U x->d i b H->bT g tt (i4 m) e p x b (d (i+1)) H)(o:∀b H,d f.3 b H->R b H):tW (Itt r a) [] iU (bT g tt (i4 m) e p) R h:=TQ d l j (λi b H q=>G3 (u i b H q)) s o
theorem F8{m}{f}{lo}{n}{g}{tt}{h}{R}{j}(a:Nat->ly->Hp->Prop)(l:a 0 [] j)(s:∀i b H,a i b H->b.3<=1000)(r:∀i b H,i<n->a i b H->bT g tt (i4 f) h m (.int (lo+i)) b (a (i+1)) H)(o:∀b H,a n b H->R b H):tW (Itr lo n) [] iU (bT g tt (i4 f) h m) R j:=
 CL a l (λi b H q=>G3 (s i b H q)) (λi b H d e=>(d,by rintro x p ⟨rfl,rfl⟩;show r i b p d e)) λb H e=>(zp _,o b H e)
theorem Inv.newOk(I:Inv X d b H s)(a:s.4<=p):H p=J/\p≠X.17/\X.f9.4<=p/\(∀x c,X.19 x=U c->c≠p)/\∀q∈X.pn++d,q.1≠p:=
 (I.18 a,Nat.ne_of_gt (zX I.lt a),Nat.le_trans I.sz a,λx c e=>by
  let(v,z):=I.cell x c e
  show zu (zX z.lt a),λq h=>zu (zX (lt_size (I.pin q h).1) a))
theorem Inv.freeze(I:Inv X f l H s)(h:H a=U (.dK g)):∃o,Inv X f l (upd H a (.gj o (.dK g))) s:=by
 let(z,y,vs,r,i,j,ep,e,d):=I.eA a _ h;show(i,I.write (by rw[h];show trivial) (.inl Y) (λb u _ q=>q) (i,e) (e,z,y,vs,r,i,j,ep,e,d))
theorem F9(h:hA X i t):hA X i (λD f H=>∃a b,H a=U (.dK b)/\∀o,t D f (upd H a (.gj o (.dK b)))):=by
 intro d s f H D I ⟨a,b,e,k⟩;let(o,j):=I.freeze e;show h d s f _ D j (k o)
noncomputable def Vo(o:Obj):Nat:=match o.38 with
 |.dict _ ep=>ep
 |_=>0
theorem D1(I:Inv X f g H s)(h:H a=U (.gj o (.dK b))):b.3<=sizeLine/\(a==sysModules)=O/\∃vs,KV b vs/\s.heap.DictAt (Ab X.14 X.w) a vs (Vo o):=by
 let(e,z,y,vs,r,q,l,ep,j,p,d,i):=I.eA a _ h;rw[e]at j;cases j;show(z,y,vs,r,o,l,e,p,?_,i);unfold Vo;rw[d]
theorem KV.get{f}:∀{b}{vs}{i:Nat}{a:f×V},KV b vs->b[i]?=U a->∃v,vs[i]?=U (a.1,(v))/\RelV a.2 v
 |_,_,_,_,.nil,e=>by simp at e
 |_,_,0,_,.cons r _,e=>by
  grind
 |_,_,i+1,a,.cons _ t,e=>by
  let(u,h,d):=KV.get (t) (_)
  ext
theorem EI(h:(Ab P w).is k u=L):RelV (kV k) u:=by
 let(i,t,rfl,rfl)||(x,t,rfl,rfl):=BL (h)
 ·show(t,Y)
 ·show(t,Y)
noncomputable def lq(a:l7)(o:Obj)(b:LK):It:=(λi H=>H a=U (.gj o (.dK b))/\i<b.3,λi H x f=>∃p d,H p=J/\x=.ref p/\b[i]?=U d/\f=upd H p (.tup [kV d.1,d.2]),
 λi H=>H a=U (.gj o (.dK b))/\b.3<=i)
theorem On(a r)(o)(f):
  Mx al aC aM (.Tuple an k0 az) (lq a o f) [r] r (λi h=>∃ok F,IsItemIter h r a i f.3 (Vo o) ok F) where
 mem:=by simp
 obj:=λi h st b u=>by
  grind
 keep:=λi h y st k=>by
  grind
 item:=by
  intro X g Q m z i l s A H E I S st w;subst g Q m;let(q,hi):=w;let(ag,ab,vs,j,T):=D1 I q;let(ok,F,st):=st;let d:=j.3;let(p,C):∃p,f[i]?=gl p:=(_,z7 hi);let(v,hv,rv):=KV.get j C;let(N,L,f2,M,J,G):=S r (_);rw[d]at st;show wpAny_pyNext_items_item st T hv λD y t R hp as keep=>?_;let(n1,n2,n3,n4,n5):=I.newOk (zp s.4);let B:Inv X l A (upd H s.4 (.tup [kV p.1,p.2])) {s with heap:=y}:=(I.64 (t':=s.62) keep N L M J G).track n1 n2 (.inr n3) n4 n5 (by change 2<=sizeLine;decide,[D,v],.cons (EI t) (.cons rv .nil),_,hp,rfl,_,rfl);let fi:(upd H s.4 (.tup [kV p.1,p.2])) r=gt:=by rwa[AE (zu (lt_size st))]
  show(.ref s.4,Y,wpAny_letOwnedTupleGo_items R λar x sb=>(.ref s.4,_,B.64 (λb o u e=>(sb.2 b u).7 e) fi L M J G,Y,(_,p,n1,Y,C,Y),(D,v,by rw[d];show x),λb u=>?_))
  ext
 done:=by
  intro X g Q m z i l s A H E I S st w;subst g Q m;let(q,hi):=w;let(ag,ab,vs,j,T):=D1 I q;let(ok,F,st):=st;let d:=j.3;rw[d]at st;let(N,L,f2,M,J,G):=S r (_);show wpAny_pyNext_items_end (I.66 z) st T (_) λy P=>(Y,I.64 (λb o u e=>P b o u e) N L M J G)
 self:=λ_ _ _ _ _ st h=>by
  let(ok,F,e):=st;show W.kcp_self e h
def Xu(to:TE):TI:=λf H R=>to f H λx b=>∃a o d,x=.ref a/\b a=U (.gj o (.dK d))/\R (lq a o d) b
theorem JY{f}(N:PE X o to)(j:attributeBase o "items" X.21 (eval o X.21)=eval o X.21:=by rfl)(i:(g.endLine==m.68)=ii:=by rfl):
  PI X (.Tuple A f B) (.Call (.Attribute o "items" g) [] [] m) (Xu to):=by
 intro d s G H R I h;show wpAny_Call_method0_late j i (eI (N d s G H _ I h) λv u w=>?_);let(x,F,t,M,a,D,l,L,p,q):=w;subst L;cases M;let(t1,t2,_):=Ls t (.inl (l,.inr (D,p)));let(z,y,vs,r,E):=D1 t p;show(mH,"dict.items",plainAttrs_dict,slot_dict_items,type_dict_items,t1,t2,Calls.callWith_builtin rfl (PySem.evalArgs_none (call_meetsIn slot_dict_items t1 entry_dict_items (args_dict_items_1 _) (meets_dict_items (Ab X.14 X.w) a y) ((vs,E.dictOf),?_))));let C:Inv X d G F {u with heap:=u.23 {cls:=.type "dict_items",data:=.fields #[.ref a]}}:=t.75 λb o e=>zT _ e;show wpAny_pyIter_items (_,zJ _ rfl,rfl,rfl) (E.74 _) ?_;show(_,[_],_,_,F,rfl,C.75 λb o e=>zT _ e,On a _ D l,(.none,.none,by rw[r.3];show zJ _ rfl),λb P=>?_,q);let e:b=(u.23 {cls:=.type "dict_items",data:=.fields #[.ref a]}).10:=by simpa using P
 subst e;show C.iM (zp _) (C.18 (zp _))
noncomputable def Ite(b:FG)(a:l7):It:=(λi H=>∃d x,dY b H a d/\d[i]?=U x,λi H x f=>∃p y,H p=J/\x=.ref p/\(∀d,dY b H a d->d[i]?=U y)/\f=upd H p (.tup [.int i,y]),λi H=>∃d,dY b H a d/\d.3<=i)
theorem RW(a e t)(z:e≠t):
  Mx ar a2 an (.Tuple az k0 a1) (Ite an a) [e,t] e (λi h=>∃j,IsEnum h e t i j/\h.80 t a i) where
 mem:=by simp
 obj:=λi h st b y=>by
  let(j,M,o,e2,c,as):=st
  grind
 keep:=λi h N st k=>by
  let(j,M,e2):=st;show(j,k e (_) _ M,e2.at λo q=>k t (_) o q)
 item:=by
  intro X f g S Q i l s m H E I d st r;subst f g S;let(xs,x,G,Y):=r;let(its,R,p,hz):=I.list G;let(u,hu,ru):=R.get Y;let(j,J,F):=st;let(f0,f1,f2,f3,f4,f5):=d e (_);let(g0,g1,g2,g3,g4,g5):=d t (_);let aM:t<s.4:=by let(o,q,_):=id F;show lt_size q
  show wpAny_pyNext_enum_item J F p.59 (x:=u) (_) z λN ag D hp aR keep=>?_
  let w:Inv X l m H {s with heap:=N,toks:=s.62+1}:=by
   show I.step (ch:=[e,t]) (λb y=>?_) (λb o _ _ y q _=>keep b o (_) (_) q) (λb o _ _ y q _=>(o.slots,keep b o (_) (_) q))
    (λ_ _ _ _ n=>n) (λb o y q=>(o,keep b o (_) (_) q)) (λ_ _ q=>q) (λ_ _ _ q=>q) (λb ps q=>(#[],by trivial)) (λa0 hm=>?_) (λb u q=>?_) I.73
   ·grind
   ·let(oL,es,ep,T,ab):=hm;show(oL,es,ep,keep _ oL (Ne.symm f1) (Ne.symm g1) T,ab)
   ·show(I.eA b u q).ie (λc al Q q'=>keep c al ?_ ?_ q') (λ_ q=>q) λ_ _ q=>q
    ·grind
    grind
  let(n1,n2,n3,n4,n5):=I.newOk (zp s.4);let A:Inv X l m (upd H s.4 (.tup [.int i,x])) {s with heap:=N,toks:=s.62+1}:=w.track n1 n2 (.inr n3) n4 n5 (by change 2<=sizeLine;decide,[.int i s.62,u],.cons (_,rfl) (.cons ru .nil),_,hp,rfl,_,rfl);let P:(upd H s.4 (.tup [.int i,x])) e=gt:=by rwa[AE (zu (lt_size J))]
  let fi:(upd H s.4 (.tup [.int i,x])) t=gt:=by rwa[AE (_)]
  show(.ref s.4,zd,wpAny_letOwnedTupleGo_enum ag λaC C v=>(.ref s.4,_,A.64 (λb o y q=>(v.2 b y).7 q) P f1 f3 f4 f5,zd,(_,x,n1,zd,λys hy=>by rw[I.list_inj hy G];show Y,zd),(_,by exact_mod_cast C,D.extBut v.extBut (Ne.symm z)),λb y=>?_))
  grind
 done:=by
  intro X f g S Q i l s m H E I d st r;subst f g S;let(xs,G,Y):=r;let(its,R,p,hz):=I.list G;let(j,J,F):=st;let(g0,g1,g2,g3,g4,g5):=d t (_);let hl:=R.3;show wpAny_pyNext_enum_end (I.66 Q) J F p.59 (by simp;lia) λN B=>(zd,I.64 (λb o y e=>B b o y e) g0 g1 g3 g4 g5)
 self:=λ_ _ _ _ _ st h=>by
  let(j,M,_):=st;show wpAny_pyIter_enum M h
def ZJ(b:FG)(d:TA):TI:=λh H R=>d h H λvs f=>∃a,vs=[.ref a]/\(∃g,dY b f a g)/\R (Ite b a) f
theorem Vp(G:Gl X oE)(F:X.mg oE=gt)(v:PA X [l] t)(g:starEach [l] X.21=[(im,(eval l X.21))]:=by rfl):
  PI X (.Tuple m Q A) (.Call (.Name oE p) [l] [] f) (ZJ X.K t):=by
 intro e s B H R I h;show zZ (F3 I G F (by rfl) (PyProof.Rows.callWith_type1 (eI (v f e s B H _ I h) λN i w=>?_) g Y));let(vs,J,d,D,a,C,(M,o),q):=w;subst C;let(u,rfl,x):=Bq D;cases x;let(z,O,pl,T):=d.list o;show call_enumerate_list pl.59 λS j E y keep=>?_;apply wpAny_pyIter_enum j;show(_,[i.4+1,i.4],_,_,J,Y,d.75 (t':=i.62) keep,RW a _ _ (_),(_,j,E),λb r=>?_,q);let rfl||rfl:=(by simpa using r)
 ·show d.iM (Nat.le_succ _) (d.18 (Nat.le_succ _))
 ·show d.iM (zp _) (d.18 (zp _))
noncomputable def Its(x:Str):It:=(λi _=>i<x.77,λi H v b=>b=H/\∃c,x.cps[i]?=U c/\v=.str ⟨#[c]⟩,λi _=>x.77<=i)
theorem TR(j)(x)(t):
  Mx P w g (.Name n f) (Its x) [j] j (λi h=>h.IsStrIter j "str_ascii_iterator" x t i) where
 mem:=by simp
 obj:=λi h st b a=>by
  let e:b=j:=by simpa using a
  subst e;let(o,e,c,d):=st;show(o,e,λv z=>by ext)
 keep:=λi h m st k=>by
  let(o,e,r):=st;show(o,k j (_) o e,r)
 item:=by
  intro X u y F N i l s A H E I p st G;subst u y F;let Q:=G;let(q,L,T,M,J,D):=p j (_);show wpAny_pyNext_ascii_item st (Array.getElem?_eq_getElem Q) λm C R=>?_;show(7,zn (.str ⟨#[x.cps[i]]⟩,H,I.64 (λb o a e=>(R.2 b a).7 e) q L M J D,(_,Y),(Y,_,Array.getElem?_eq_getElem Q,Y),C,λb a=>(p b a).1))
 done:=by
  intro X u y F N i l s A H E I p st G;subst u y F;let(q,L,T,M,J,D):=p j (_);show wpAny_pyNext_ascii_end (I.66 N) st (Array.getElem?_eq_none G) λm S=>(Y,I.64 (λb o a e=>S b o a e) q L M J D)
 self:=λ_ _ _ _ _ st h=>wpAny_pyIter_striter_ascii st h
def ba(b:TE):TI:=λf H R=>b f H λv d=>∃x,v=.str x/\x.31 (· < 128)=L/\R (Its x) d
theorem JZ(l:PE X e f):PI X (.Name n g) e (ba f):=by
 intro a s y H R I h;show eI (l a s y H _ I h) λv i w=>?_;let(z,u,d,r,x,p,C,q):=w;subst p;let(t,rfl):=r;apply wpAny_pyIter_ascii C;show(i.4,[i.4],_,_,u,Y,d.75 λb o e=>zT _ e,TR _ x t,(_,zJ _ Y,Y,Y),λb j=>?_,q);let e:b=i.4:=by simpa using j
 subst e;show d.iM (zp _) (d.18 (zp _))
theorem KU:entryFor table "proto.unchain"=U Builtin.«proto.unchain»:=entryFor_of_tree (by rfl)
theorem Vq{m}{Q}(l:A.49=U (.ref c))(a:c≠e)(t:s.9 c=U f)(i:f.38=.fields p)(r:p[2]?=U .none)
  (o:s.9 e=U g) (d:g.38=.fields q) (b:2<q.27) (h:E (.ref e) {s with heap:=s.heap.65 e (Obj.mapFields (·.22 2 (.ref c)))}):wpAny (model prog w) A (raiseNew (.ref e):Sem m) Q E s:=by
 show zo (wpAny_handled ?_);rw[l]
 dsimp only
 rw[zf (by simp[a])];show zo (zG (wpAny_runValue (codeAny_builtin KU (zo (wpAny_field t i r ?_)))));apply zn;show zo (zm (wpAny_setField (M:=model prog w) (A:=A) (E:=E) (Q:=λ_ j=>E (.ref e) j) o d b h) (λ_ j z=>wpAny_throw z) λ_ _ z=>z)
theorem Em(x:A.49=U (.ref c))(D:s.9 c=U m)(d:m.38=.fields H)(y:H[2]?=U .none)(h:c≠f)
  (a:s.heap.80 f l i) (I:s.heap.IsList l B) (G:B[i]?=gt) (j:∀g,Heap.ExtBut f s.15 g->Q gt {s with heap:=g}):wpAny (model prog w) A (pyNext (.ref f)) Q E s:=by
 let(o,p,F,r):=id a;let(L,e,_,J,q):=I;show zo (wpAny_attempt (wpAny_callSpecial?_slot a.46 slot_listiter_next (wpAny_call_entry slot_listiter_next a.46 entry_listiter_next ?_ (args_listiter_next _))));change wpAny _ _ (field (.ref f) 0 >>= _) _ _ s;show zo (wpAny_field p r Y ?_);show zo (wpAny_field p r Y (zo (wpAny_seqItems e q ?_)));simp[Int.toNat_natCast,G];show zo (wpAny_rule (zo (wpAny_setField p r (_) ?_)));apply zo;show zo (wpAny_newObj_type (zo (wpAny_of_eq (by rfl) (wpAny_newObj_type ?_ (by size_fits)))) (by size_fits));let v:=(zS s.15 (Obj.mapFields (·.22 0 Value.none)) (Ne.symm h)).7 D;show Vq (x) (λz=>?_) (zT _ (zT _ v)) d y (zJ _ Y) Y (_) ?_
 ·have:=lt_size (zT {cls:=.type mm,data:=.seq #[]} v);rw[z]at this;show absurd this (zy _)
 ·show zo (wpAny_isInstance (_,zQ _ (zJ _ Y) Y,Y) isSubtype_stop ?_);show zn (j _ λb u C z=>?_);let t:=zT {cls:=.type mm,data:=.seq #[]} ((zS s.15 (Obj.mapFields (·.22 0 Value.none)) (Ne.symm C)).7 z);rw[zS _ _ (Nat.ne_of_gt (lt_size t))];show zT _ t
def Sft(X:Cx):Prop:=∃e b vs,X.A.49=U (.ref e)/\(e,(b))∈X.pn/\b.38=.fields vs/\vs[2]?=U .none
def jI(X:Cx):Prop:=X.calm=L\/Sft X
theorem jI.comp(h:jI X):jI (BU X f scope g s H C l (X.pn++j)):=by
 let h||(e,i,vs,a,b,c,d):=h
 ·show .inl h
 ·show .inr (e,i,vs,a,zL _ b,c,d)
theorem TU(j:jI X)(I:Inv X m v H s)(t:F4 X m H f)(o:s.heap.80 f l i)(q:s.heap.IsList l u)(r:u[i]?=J)
  (h:∀g,Heap.ExtBut f s.15 g->Q J {s with heap:=g}):gm X (pyNext (.ref f)) Q E s:=by
 let j||(e,p,vs,a,b,c,d):=j
 ·show wpAny_pyNext_list_end (I.66 j) o q r h
 ·show Em a (I.pin (e,(p)) (_)).1 c d (t.2.2.2.2.2 (e,(p)) (_)) o q r h
theorem Oo(a j):XH jI P w g m (jJ g a) [j] j (λi h=>h.80 j a i):=by
 let T:=Kj (P:=P) (w:=w) (ω:=g) (tg:=m) a j;show(T.obj,T.34,?_,?_,T.self)
 ·intro X y z G B i q s al H E I v st A;subst y z G;let(N,x,t,C):=A;let(D,F,p,hz):=I.list t;let(u,hu,S):=F.get C;let(M,f1,f2,f3,Z,Y):=v j (_);show wpAny_pyNext_list_item st p.59 (x:=u) (_) λQ r ab=>?_;let(o,e,c,d):=id r;show(u,zd,My e c d qc (x,H,I.64 (λb o l e=>(ab.2 b l).7 e) M f1 f3 Z Y,S,(zd,λys ag=>by rw[I.list_inj ag t];show C),r,λb l=>(v b l).1))
 ·intro X y z G B i q s al H E I v st A;subst y z G;let(N,t,C):=A;let(D,F,p,hz):=I.list t;let f:=v j (_);let hl:=F.length;show TU B I f st p.59 (by simp;lia) λQ R=>(zd,I.64 (λb o l e=>R b o l e) f.1 f.2.1 f.2.2.2.1 f.2.2.2.2.1 f.2.2.2.2.2)
theorem TV(u:PE X l t):PIg jI X f l (Ss X.K t):=by
 intro d s D H R I h;show eI (u d s D H _ I h) λv j w=>?_;let(x,C,i,z,a,e,(F,r),q):=w;subst e;cases z;let(y,G,p,J):=i.list r;show wpAny_pyIter_list p.59 (j.4,[j.4],_,_,C,Y,i.75 λb o e=>zT _ e,Oo a _,(_,zJ _ Y,Y,Y),λb E=>?_,q);obtain rfl:b=j.4:=by ext
 show i.iM (zp _) (i.18 (zp _))
theorem RX(h)(a)(r:Fv X.28 scope X.N (x::h) (J::a)=L)(j:(x::h).29)(o:scope.12 x=U .local)(t:jI X)(u:PIg jI X (.Name x v) iter y)
  (ht:∀e s H C i d,jk (BU X (x::h) scope e s H C i d) g tt) (q:∀e s H C i d,PE (BU X (x::h) scope e s H C i d) b m) (f:∀x,foldedSetIterable iter X.21 x=pure x:=by intro _;rfl):
  PE X (.ListComp b [(.Name x v,iter,g,0)] scope A) (λz H Q=>Hz y (Bt 0) tt m (J::a) (λw l=>∀p,l p=J->Q (.ref p) (upd l p (.lst w))) z H):=
 Dx DI CV (eT.of r) (λ_ _ _ _ _ _=>t.comp) u (λe s H C i d=>Gy (A5 j rfl (.inl (z4 o)) (.inr (z4 o)))) ht (λ_ _ _ _ _ _ _=>Dy (q _ _ _ _ _ _)) f rfl
theorem Op{X}{s}{f:lx}(u:jI X)(I:Inv X g m H s)(pl:s.heap.IsList p f.11):∃F St,Walks X.14 X.w X.A.in1 s.4 F [s.4] f.toArray.27 (λi v=>f.11[i]?=U v) St /\
  St 0 (s.23 {cls:=.type o3,data:=.fields #[.ref p,.int 0 0]})/\∀b∈F,b<s.4+1:=by
 let D:p<s.4:=by let(o,e,_):=id pl;show lt_size e
 let q:(s.23 {cls:=.type o3,data:=.fields #[.ref p,.int 0 0]}).80 s.4 p 0/\(s.23 {cls:=.type o3,data:=.fields #[.ref p,.int 0 0]}).IsList p f.11:=
  ((_,zJ _ rfl,rfl,rfl),pl.at λo e=>zT _ e)
 let u||(e,r,vs,a,b,c,d):=u
 ·show(_,_,Walks.list (A:=X.A.in1) (I.66 u) _ p (zu D) f.11,q,λb j=>?_)
  grind
 ·have G:=(I.pin (e,(r)) (_)).1;let B:=lt_size G;show([s.4,p,e],λi h=>(h.80 s.4 p i/\h.IsList p f.11)/\h.13 e=U r,(λb j=>by ext,λi h t st k=>((st.1.1.at λo z=>k _ (_) o z,st.1.2.at λo z=>k _ (_) o z),k e (_) r st.2),?_,?_,λ_ _ _ _ st l=>wpAny_pyIter_listiter st.1.1 l),(q,zT _ G),λb j=>?_)
  ·intro i C Q E M st l;show wpAny_pyNext_list_item st.1.1 st.1.2 (x:=f.11[i]) (_) λt t1 t2=>l _ t C.62 (_) ((t1,st.1.2.extBut t2.extBut (zu D)),t2.extBut e r (_) st.2) λb o j z=>t2.extBut b o (λy=>j (by simp[y])) z
  ·intro C Q E st l;show Em (a) st.2 c d (_) st.1.1 st.1.2 (_) λt z=>l t C.62 λb o j y=>z b o (λw=>j (by simp[w])) y
  grind
noncomputable def QB(a p:l7):HO:=.ext λh=>h.IsItemsView p a
noncomputable def TW(a p:l7):HO:=.ext λh=>h.IsValuesView p a
theorem TY{X}{o}{to}{e}{l j}{id}{r}(t:Slot mH e id)(y:typeOf (.builtin id)=pure (.type o5))(E:MtR X id r)(F:PE X o to)
  (q:attributeBase o e X.21 (eval o X.21)=eval o X.21:=by rfl) (p:(l.endLine==j.68)=L:=by rfl):
  PE X (.Call (.Attribute o e l) [] [] j) (λb H Q=>to b H λx u=>∃a,x=.ref a/\IsD u a/\r x [] u Q):=by
 intro i s b H Q I h;show wpAny_Call_method0_late q p (eI (F i s b H _ I h) λv G w=>?_);let(x,u,z,D,a,C,d,q1):=w;subst C;cases D;let(t1,t2,_):=Ls z d;show(mH,id,plainAttrs_dict,t,y,t1,t2,Calls.callWith_builtin Y (PySem.evalArgs_none (E i G b u (.ref a) [] (.ref a) [] Q z Y .nil q1)))
theorem TZ:MtR X "dict.items" (λx g H Q=>∃a f,x=.ref a/\g=[]/\Rd H a (.dK f)/\∀p,H p=J->Q (.ref p) (upd H p (QB a p))):=by
 rintro d s F H x g v E Q I j t ⟨a,f,rfl,rfl,u,q⟩;cases j;cases t;let(z,y,vs,l,i):=CT I.eA u;show call_meetsIn slot_dict_items i.46 entry_dict_items (args_dict_items_1 _) (meets_dict_items (Ab X.14 X.w) a y) ((vs,i),(.ref s.4,_,I.laid (o:=QB a s.4) (λb o e=>zT _ e) (zp _) ((_,zJ _ Y,Y,Y),(_,zJ _ Y),λD C z k=>?_),Y,q _ (I.18 (zp _))));let(h,e,r):=z;show(h,k h e,r)
theorem RY:MtR X "dict.values" (λx g H Q=>∃a f,x=.ref a/\g=[]/\Rd H a (.dK f)/\∀p,H p=J->Q (.ref p) (upd H p (TW a p))):=by
 rintro d s F H x g v E Q I j t ⟨a,f,rfl,rfl,u,q⟩;cases j;cases t;let(z,y,vs,l,i):=CT I.eA u;show call_meetsIn slot_dict_values i.46 entry_dict_values (args_dict_values_1 _) (meets_dict_values (Ab X.14 X.w) a y) ((vs,i),(.ref s.4,_,I.laid (o:=TW a s.4) (λb o e=>zT _ e) (zp _) ((_,zJ _ Y,Y,Y),(_,zJ _ Y),λD C z k=>?_),Y,q _ (I.18 (zp _))));let(h,e,r):=z;show(h,k h e,r)
theorem Co{i l}{F}:∀{f:List i}{g:List l},f.3=g.3->(∀(j:Nat)x y,f[j]?=U x->g[j]?=U y->F x y)->Paired F f g
 | [],[],_,_=>.nil
 | [],_::_,h,_=>by simp at h
 |_::_,[],h,_=>by simp at h
 |x::f,y::g,h,k=>.cons (k 0 x y rfl rfl) (Co (_) λj a b e d=>k (j+1) a b (_) (_))
theorem Oq(F:X.calm=true):eW X (.type md) (λxs H Q=>∃a kvs,xs=[.ref a]/\Rd H a (.dK kvs)/\∀l,H l=none->Q (.ref l) (upd H l (.lst (kvs.map λp=>kV p.1)))):=by
 rintro C s σ H xs Y Q I r ⟨a,kvs,rfl,T,q⟩;obtain⟨u,rfl,M⟩:=Bq r;cases M;obtain⟨z,y,vs,i,N⟩:=CT I.eA T;obtain⟨ep,O⟩:=N.dictAt;have J:=i.length;refine W.kdl_call (W.kdl_dict y) (I.ok.hd F) O (by lia) λU Z acc R keep e o=>⟨.ref s.heap.objs.size,_,I.laid keep (zp _) (show fY X.prog X.w _ U _ (.lst (kvs.map λp=>kV p.1))from⟨by simp_all,acc.toList,R,?_,qe⟩),zd,q _ (I.eA.fresh (zp _))⟩
 refine Co (by have E:acc.toList.length=acc.size:=by simp
               rw[AO,E,o.1,J]) λj v G h D=>?_
 rw[Array.getElem?_toList]at D;obtain⟨k,x,L,S⟩:=o.2 j G D;rw[zx]at h;cases t:kvs[j]? with
 |none=>rw[t]at h;cases h
 |some p=>
  rw[t]at h;simp at h;obtain⟨v2,d,_⟩:=KV.get i t;rw[L]at d;simp at d;rw[←h,←d.1];exact EI S
theorem Os(G:X.calm=true):eW X (.type md) (λxs H Q=>∃p a kvs,xs=[.ref p]/\H p=some (TW a p)/\Rd H a (.dK kvs)/\∀l,H l=none->Q (.ref l) (upd H l (.lst (kvs.map (·.2))))):=by
 rintro x s σ H xs us Q I r ⟨p,a,kvs,rfl,D,U,q⟩;obtain⟨u,rfl,N⟩:=Bq r;cases N;obtain⟨z,y,vs,i,R⟩:=CT I.eA U;obtain⟨ep,S⟩:=R.dictAt;obtain⟨E,_⟩:=I.eA p _ D;have L:=i.length;refine W.kdl_call (W.kdl_values) (I.ok.hd G) ⟨E,S⟩ (by lia) λY tk acc T keep e o=>⟨.ref s.heap.objs.size,_,I.laid keep (zp _) (show fY X.prog X.w _ Y _ (.lst (kvs.map (·.2)))from⟨by simp_all,acc.toList,T,?_,qe⟩),zd,q _ (I.eA.fresh (zp _))⟩
 refine Co (by have F:acc.toList.length=acc.size:=by simp
               rw[AO,F,o.1,L]) λj v J h C=>?_
 rw[Array.getElem?_toList]at C;obtain⟨k,M⟩:=o.2 j J C;rw[zx]at h;cases t:kvs[j]? with
 |none=>rw[t]at h;cases h
 |some Z=>
  rw[t]at h;simp at h;obtain⟨v2,d,O⟩:=KV.get i t;rw[M]at d;simp at d
  rwa[←h,d.2]
theorem Lx(m:X.calm=ii):eW X (.builtin pM) (λg H Q=>∃a b,g=[.ref a]/\Rd H a (.dK b)/\b.3<64/\(∀d∈b,∃i,d.1=Sum.inl i) /\
  ∀l(f:List Int),H l=J->f.Perm (b.5 λd=>match d.1 with|Sum.inl i=>i|Sum.inr _=>0)->f.70 (· <= ·)->Q (.ref l) (upd H l (.lst (f.5 V.int)))):=by
 rintro F s ab H g us Q I r ⟨a,b,rfl,hd,an,R,q⟩;let(ar,rfl,ru):=Bq r;cases ru;let(az,y,vs,G,dd):=CT I.eA hd;let(ep,da):=dd.dictAt;let hl:=G.3;apply Calls.call_function_entry kind_sorted plain_sorted entry_sorted (args_sorted1 _);show zo (zn (zo (W.kdu_collect (W.kdl_dict y) (I.66 m) da () λu tk acc keep v=>?_)))
 let eh:acc.58=b.3:=by
  let A:acc.58=acc.27:=by simp
  rw[A,v.1,hl]
 show zo (wpAny_newList ?_ ())
 let t:IntsAre acc.37 (b.5 λd=>match d.1 with|Sum.inl i=>i|Sum.inr _=>0):=by
  show D8 (Co (_) λj as w' D z=>?_);rw[Array.getElem?_toList]at z;let(k,x,ex,E):=v.2 j w' z;rw[zx,zx]at D;cases M:b[j]? with
  |none=>rw[M]at D;cases D
  |some d=>
   rw[M]at D;simp at D;let(v2,p,_):=KV.get G M;rw[ex]at p;simp at p;let(i,T):=R d (_);rw[p.1,T]at E;rw[←D,T];show EI E
 let S:Inv X F ab H {s with heap:=u,toks:=tk}:=I.75 keep;let C:(u.74 {cls:=.type md,data:=.seq acc.toList.11}).13 u.10=U (seqObj md acc.toList.11 0):=zJ _ rfl;show zo (zG (wpAny_call_entry slot_list_sort (_,C,Y) entry_list_sort (list_sort_tree C t () λN h B w P=>(7,zn (7,?_))) (args_list_sort _)));let ag:h.3=b.3:=by rw[w.63,AO]
 show(.ref u.10,_,S.laid (o:=.lst (h.5 V.int)) (λal o e=>?_) (zp _) (by simp_all,N.37,?_),Y,q _ h (S.18 (zp _)) w P)
 ·rw[sortedHeap_old (zu (lt_size e)) (lt_size (zT _ e))];show zT _ e
 ·let(c,hcx):=sortedHeap_at C;show(c,Fc B,qe)
theorem D3(N:X.calm=L):eW X (.builtin "all") (λf H Q=>∃(p:l7)(bs:List Bool),f=[.ref p]/\dY X.K H p (bs.5 V.bl)/\Q (.bl (bs.all id)) H):=by
 rintro E s ag H f P Q I r ⟨p,bs,rfl,m,q⟩;let(u,rfl,R):=Bq r;cases R;let(a,F,pl,T):=I.list m;let G:p<s.4:=by let(o,n,e,_):=id pl;show lt_size e
 let d:bs.3=a.3:=by have:=F.length;rwa[AO]at this
 show call_all_walk (wpAny_pyIter_list pl.59 ((_,_,_,_,_,_,λi=>bs.45 i O,Y,Walks.list (A:=X.A.in1) (I.66 N) _ p (zu G) a.11,((_,zJ _ Y,Y,Y),pl.isList.at λo e=>zT _ e),λi v S M ab g w=>?_,λB tk keep=>?_)))
 ·have D:a[i]?=U v:=by simpa using g
  let l:=(z8.mp D).1;let y:bs[i]?=U (bs[i]'()):=z7 ();let(u',j,z):=F.get (i:=i) (x:=V.bl (bs[i]'())) (_);rw[D]at j;cases j;cases (z);apply zV;let t:M (bs.45 i O) S:=w
  rwa[List.getD_eq_getElem?_getD,y]at t
 ·show(.bl _,H,I.75 λb o e=>keep b o (by simp;show zu (lt_size e)) (zT _ e),Y,?_)
  let e:(List.range a.toArray.27).all (λi=>bs.45 i O)=bs.all id:=by
   rw[size_toArray,←d,Bool.eq_iff_iff,all_eq_true,all_eq_true];constructor
   ·intro h b y;let(i,l,rfl):=List.mem_iff_getElem.mp y;have:=h i (_)
    rwa[List.getD_eq_getElem?_getD,z7 l]at this
   ·intro h i l;let C:=mem_range.mp l;rw[List.getD_eq_getElem?_getD,z7 C];show h _ (_)
  rwa[e]
theorem E5(a:List Int):∀k,k<=a.3->preSum (λi=>a.45 i 0) k=(a.20 k).sum
 |0,_=>by rfl
 |k+1,h=>by
  let d:k<a.3:=by lia
  simp only[preSum,E5 a k ()];rw[zw,sum_append];simp[z7 d]
theorem K2(g:jI X):eW X (.builtin "sum") (λf H Q=>∃(p:l7)(d:List Int),f=[.ref p]/\dY X.K H p (d.5 V.int)/\(∀n∈d,0<=n)/\d.sum<2^62/\Q (.int d.sum) H):=by
 rintro B s ag H f us Q I r ⟨p,d,rfl,u,z,R,q⟩;let(ab,rfl,Z):=Bq r;cases Z;let(E,S,pl,hz):=I.list u;let hp:p<s.4:=by let(o,n,e,_):=id pl;show lt_size e
 let C:d.3=E.3:=by have:=S.3;rwa[AO]at this
 let m:∀k,0<=(d.20 k).sum:=λk=>by
  have:∀l:List Int,(∀n∈l,0<=n)->0<=l.sum:=λl=>by
   induction l with
   |nil=>simp
   |cons a r M=>intro h;rw[sum_cons];have:=h a zE;have:=M λn G=>h n (_);lia
  show this _ λn G=>z n (_)
 let D:∀k,(d.20 k).sum<=d.sum:=λk=>by
  let e:d.sum=(d.20 k).sum+(d.drop k).sum:=by rw[←sum_append,List.take_append_drop]
  have:∀l:List Int,(∀n∈l,0<=n)->0<=l.sum:=λl=>by
   induction l with
   |nil=>simp
   |cons a r M=>intro h;rw[sum_cons];have:=h a zE;have:=M λn G=>h n (_);lia
  have:=this _ λn G=>z n (List.mem_of_mem_drop (i:=k) G)
  lia
 show call_sum_walk (wpAny_pyIter_list pl.59 ?_);let(fp,St,W,L,hfp):=Op g I pl.59;show(_,_,_,_,_,_,λi=>d.45 i 0,Y,W,L,λb hb=>?_,λi v T=>?_,λj w=>?_,λP tk A keep=>?_)
 ·ext
 ·have N:E[i]?=U v:=by simpa using T
  let hi:=(z8.mp N).1;let(u',F,t,ru'):=S.get (i:=i) (x:=V.int (d[i]'())) (_);rw[N]at F;cases F;show(t,?_)
  ext
 ·have y:j<d.3:=by rw[size_toArray]at w;lia
  rw[E5 d (j+1) ()];let h2:=D (j+1);let h3:d.45 j 0=d[j]:=by rw[List.getD_eq_getElem?_getD,z7 y];rfl
  let h4:=z _ (List.getElem_mem y);let h5:(d.20 (j+1)).sum=(d.20 j).sum+d[j]:=by rw[zw,z7 y,sum_append];simp
  let h6:=m j;change InLong (d.45 j 0)/\InLong _;unfold InLong
  lia
 ·show(.int d.sum,H,I.75 λb o e=>keep b o (by simp;show zu (lt_size e)) (zT _ e),(A,?_),q);rw[size_toArray,←C,E5 d d.3 (zp _),zt]
theorem Ta(d:X.calm=L):eW X (.builtin "sum") (λb H Q=>∃(p:l7)(a:List Int),b=[.ref p]/\dY X.K H p (a.5 V.int)/\(∀n∈a,0<=n)/\a.sum<2^62/\Q (.int a.sum) H):=K2 (.inl d)
theorem Ly:MtR X "int.bit_length" (λx b H Q=>∃i,x=.int i/\b=[]/\Q (.int (Builtin.Int.intBits i)) H):=by
 rintro a s j H x b v h Q I e d ⟨i,rfl,rfl,q⟩;let(t,rfl):=e;cases d;show call_int_bit_length (.int _,H,I.tok _,(_,Y),q)
theorem CM:gx X (compareOp .LtE) (λx y H Q=>∃i j,x=.str i/\y=.str j/\Q (.bl (!decide (j.6<i.6))) H):=by
 rintro a s l H x y v u Q I d e ⟨i,j,rfl,rfl,q⟩;let(t,rfl):=d;let(h,rfl):=e;show PySem.P.le_str (Av I q Y)
theorem KW:MtR X "dict.setdefault" (λx f H Q=>∃a b k v,x=.ref a/\f=[kV k,v]/\H a=U (.dK b)/\b.3<sizeLine /\
  (∀w,Aj b k=U w->Q w H)/\(Aj b k=gt->Q v (upd H a (.dK (Bp b k v))))):=by
 rintro l s T H x f u R Q I E g ⟨a,b,k,v,rfl,rfl,r,m,q1,q2⟩;cases E;let(S,J,rfl,rk,p):=Iv g;let(z,y,vs,d,o):=NB I.eA r;show call_meetsIn slot_dict_setdefault o.46 entry_dict_setdefault (args_dict_setdefault_3 _ _ _) (PySem.kt_meets_setdefault (Ab X.14 X.w) a (E4 rk) y J) (vs,o,by rw[←d.3];show z,λN C=>?_,λF M i G=>?_)
 ·have h:=d.val k;rw[C]at h;cases e:Aj b k with
  |none=>rw[e]at h;show False.elim h
  |some w=>rw[e]at h;show(w,H,I.tok _,h,q1 w e)
 ·have h:=d.val k;rw[F]at h
  let e:Aj b k=gt:=by
   cases e:Aj b k with
   |none=>rfl
   |some w=>rw[e]at h;trivial
  let D:∃q,M.13 a=U q:=by let(q,_,_,t,_):=i;show (q,t)
  let j:(Bp b k v).3<=sizeLine:=by have:=C1 b k v;lia
  show(v,_,Gx I (by rw[r];show True.intro) G D (Hw j y (d.put k p) i),p,q2 e)
theorem Tb:eW X (.builtin mr) (λf H Q=>∃v T t b,f=[v,.ty T]/\gM X.K H v t/\W.kitOne X.K t (.type T)=U b/\Q (.bl b) H):=by
 rintro d s o H f j Q I r ⟨v,T,t,b,rfl,ty,e,q⟩;let(u,l,rfl,i,a):=Iv r;cases (a);show Kn I i ty e λh=>(.bl b,H,I.tok h,Y,q)
noncomputable def NH(d:Int):List Int->Int
 | []=>d
 |n::r=>r.67 max n
theorem K3(d)(e)(n)(h:e≠ []):NH d (e++[n])=max (NH d e) n:=by
 cases e with
 |nil=>trivial
 |cons a r=>change(r++[n]).67 max a=_;rw[List.foldl_append];rfl
theorem RZ(a v):argsOk qB ([a],[(Str.ofString qx,(v))]):=by rfl
noncomputable def XI:Option (Int×Tok)->Array Value
 |none=>#[]
 |some (m,t)=>#[.int m t,.int m t]
theorem Ra{s:PySem.Shared}{A}{R}{l}{a}(hh:A.49=J)(C:IntsAre l a)(az:p≠I)(M:S≠I)(aC:p≠S)
  (hR:∀g f v,(∀b o,b≠I->b≠S->s.9 b=U o->g.13 b=U o)->(a=[]->v=d)->(a≠ []->∃t,v=.int (NH 0 a) t)->R (.ok (.ret v)) {s with heap:=g,toks:=f}):
  ∀k i h f c b,l.3-i=k->i<=l.3->h.80 I p i->h.IsList p l.11->h.13 S=U {cls:=.type md,data:=.seq (XI b) c} ->
   (b=J->i=0)->(∀m t,b=U (m,(t))->0<i/\m=NH 0 (a.20 i))->(∀F o,F≠I->F≠S->s.9 F=U o->h.13 F=U o) ->
   codeAny (model prog aM) A (.builtin "max.loop" ([.ref I,.none,.ref S],[(Str.ofString qx,(d))])) R {s with heap:=h,toks:=f}:=by
 let a0:(toString qB ++ toString ".loop")="max.loop":=by decide
 let fg:=C.3;intro k;induction k with
 |zero=>
  intro i h f c b hk hi B u r w P keep;let e:i=l.3:=by lia
  apply codeAny_builtin entry_max_loop;show zo (wpAny_seqItems r rfl (zo (wpAny_tryCatch (wpAny_pyNext_list_end (hh) B u (by simp;lia) λg eb=>?_))));cases b with
  |none=>
   let hn:a=[]:=by
    have:=w rfl;show List.eq_nil_of_length_eq_zero ()
   show zo (wpAny_rule (zn (hR g f d (λb o D E q=>eb b o D (keep b o D E q)) (λ_=>rfl) λz=>absurd hn z)))
  |some mt=>
   let(m,t):=mt;let(ar,hm):=P m t rfl
   let G:a≠ []:=λz=>by
    ext
   show zo (wpAny_updateSeq (eb S _ M r) Y (zo (wpAny_letGo (zn (hR _ f _ (λb o D E q=>(zS _ _ (Ne.symm E)).7 (eb b o D (keep b o D E q))) (λz=>absurd z G) λ_=>(t,?_))))) ig)
   ext
 |succ k ih=>
  intro i h f c b hk hi B u r w P keep;let Q:i<l.3:=by lia
  let hv:=z7 Q
  let(n,t,hn,hvt):∃n t,a[i]?=U n/\l[i]=.int n t:=by
   let jU:i<a.3:=by lia
   let(a1,hu,t,ru):=(Fc C).get (i:=i) (x:=V.int a[i]) (_);rw[hv]at hu;show(a[i],t,z7 jU,(Option.some.inj hu).7 ru)
  apply codeAny_builtin entry_max_loop;show zo (wpAny_seqItems r Y (zo (wpAny_tryCatch (wpAny_pyNext_list_item B u (x:=.int n t) (_) λg H sb=>?_))));let y:=(sb.2 S M).7 r;let ab:=u.at λo q=>(sb.2 p az).7 q;let an:=λF o D E q=>(sb.2 F D).7 (keep F o D E q);let N:a.20 (i+1)=a.20 i++[n]:=by rw[zw,hn];rfl
  let al:∀T,(∀v,v=Value.int n t->(g.65 S (Obj.mapSeq λ_=>#[v,v])).13 S=U {cls:=.type md,data:=.seq (XI (U (n,(t)))) T})->n=NH 0 (a.20 (i+1)) ->
    codeAny (model prog aM) A (.builtin "max.loop" ([.ref I,.none,.ref S],[(Str.ofString qx,(d))])) R {s with heap:=g.65 S (Obj.mapSeq λ_=>#[.int n t,.int n t]),toks:=f}:=λT e0 em=>
   ih (i+1) _ f T (U (n,(t))) () Q (H.at λo q=>(zS _ _ M).7 q) (ab.at λo q=>(zS _ _ (Ne.symm aC)).7 q) (e0 _ rfl) (λz=>by cases z)
    (λm t' z=>by cases z;lia) λF o D E q=>(zS _ _ (Ne.symm E)).7 (an F o D E q)
  cases b with
  |none=>
   let as:=w rfl;change wpAny _ A.in1 (updateSeq S (λ_=>#[Value.int n t,Value.int n t]) >>= _) _ _ _;show zo (wpAny_updateSeq y Y (zn (plainId_quiet plain_max_loop _,al _ (λv e=>by subst e;show get?_update_seq y λ_=>#[_,_]) ?_)));rw[N,as];rfl
  |some mt=>
   let(m,t0):=mt;let(ar,hm):=P m t0 rfl
   let G:a.20 i≠ []:=λz=>by
    have:=congrArg List.length z;rw[zr,length_nil]at this
    lia
   change wpAny _ A.in1 (tryCatch (holding [Value.int n t,Value.int n t] (richCompare .Gt (.int n t) (.int m t0) >>= _)) _ >>= _) _ _ _
   show zo (wpAny_tryCatch (zG (zo (CmpOf.ints_gt (P:=λi v=>(i=0/\v=.int n t)\/(i=1/\v=.int m t0)) (λi=>if i=0 then n else m) (λi v h=>by
    let(rfl,rfl)||(rfl,rfl):=h
    ·simp
    simp) 0 1 _ _ _ _ _ (.inl (rfl,rfl)) (.inr (rfl,rfl)) ?_))))
   show zo (zG (zV (zo (wpAny_letGo (zn ?_)))));by_cases ag:n>m
   ·have X:(λ(i j:Nat)=>decide ((if i=0 then n else m)>if j=0 then n else m)) 0 1=ii:=zH ag;rw[X];show zo (wpAny_updateSeq y Y (zo (wpAny_letGo (zn (plainId_quiet plain_max_loop _,al _ (λv e=>by subst e;show get?_update_seq y λ_=>#[_,_]) ?_)))) ig);rw[N,K3 0 _ n G,←hm]
    lia
   ·have X:(λ(i j:Nat)=>decide ((if i=0 then n else m)>if j=0 then n else m)) 0 1=im:=zK ag;rw[X];show zo (wpAny_letGo ?_)
    show zn (plainId_quiet plain_max_loop _,ih (i+1) _ f c (U (m,(t0))) () Q H ab y (λz=>by cases z) (λm' t' z=>by
     cases z;show(Nat.succ_pos _,?_);rw[N,K3 0 _ n G,←hm]
     lia) an)
theorem QC(m:X.calm=ii)(u:Gl X qB)(v:X.mg qB=J)(p:PE X e te)(N:PE X c R)(hs:starEach [e] X.21=(im,(eval e X.21))::starEach [] X.21:=by rfl)
  (D:backTo g (starEach [e] X.21)=(im,(eval e X.21))::backTo g (starEach [] X.21):=by rfl):
  PE X (.Call (.Name qB an) [e] [(U qx,c,kp)] g) (λf H Q=>te f H λx C=>R f C λy i=>∃(a:l7)(l:List Int)(d:Int),x=.ref a/\y=.int d/\dY X.K i a (l.5 V.int)/\(l=[]->Q (.int d) i)/\(l≠ []->Q (.int (NH 0 l)) i)):=by
 intro j s f H Q I h;show zZ (F3 I u v boot_max ?_)
 letI O:V->V->Hp->Prop:=λx y i=>∃(a:l7)(l:List Int)(d:Int),x=.ref a/\y=.int d/\dY X.K i a (l.5 V.int)/\(l=[]->Q (.int d) i)/\(l≠ []->Q (.int (NH 0 l)) i)
 show callWith_kw (eI (AA p AG hs g j s f H (λvs C=>match vs with| [x]=>R f C (λy i=>O x y i)|_=>False) I h) λus s1 (vs,C,z,M,q1)=>?_) D (by rw[D];rfl)
 match vs,M,q1 with
 | [x],M,q1=>
  show eI ((JG (nm:=U qx) (kpos:=kp) N Ll) g j s1 f C (λvs i=>match vs with| [y]=>O x y i|_=>False) z q1) λas r (F,i,T,w,q2)=>?_
  match F,w,q2 with
  | [y],w,q2=>
   let(a,l,d,rfl,rfl,Y,k1,k2):=q2;let(ar,rfl,ru):=Bq M;cases ru;let(ud,rfl,td,L):=Bq w;subst L;let(its,rv,pl,hz):=T.list Y;let A:a<r.4:=by let(o,n,e,_):=id pl;show lt_size e
   apply PyProof.Rows.kmk_tree kind_max plain_max entry_max (RZ _ _);show zo (wpAny_of_eq (zd) (zo (zn ?_)));show zo (wpAny_pyIter_list pl.59 (zo (wpAny_newList ?_ (Nat.zero_le _))));let ag:(toString qB ++ toString ".loop")="max.loop":=by decide
   let hS:(r.23 {cls:=.type o3,data:=.fields #[.ref a,.int 0 0]}).10=r.4+1:=Heap.size_push ..
   show zn (plainId_quiet plain_max_loop _,Ra (s:=r) (I.66 m) (D8 rv) (zu A) (_) (_)
    (λP tk az keep B G=>?_) _ 0 _ _ 0 J rfl (Nat.zero_le _) (_,zT _ (zJ _ rfl),rfl,rfl) (pl.isList.at λo q=>zT _ (zT _ q)) (zJ _ rfl) (λ_=>rfl) (λal t ab=>by cases ab) λb o h1 h2 q=>zT _ (zT _ q))
   let S:Inv X j f i {r with heap:=P,toks:=tk}:=T.75 λb o q=>keep b o (zu (lt_size q)) (by rw[hS];show zu (Nat.lt_succ_of_lt (lt_size q))) q;by_cases E:l=[]
   ·rw[B E];show(.int d,i,S,(td,zd),k1 E)
   ·let(t,ev):=G E;rw[ev];show(.int _,i,S,(t,zd),k2 E)
def dJ(H:Hp):List l7->List (V×V)->Prop:=Paired λb p=>H b=U (.tup [p.1,p.2])
theorem dJ.same(s:∀b o,H b=U o->d b=U o)(h:dJ H f g):dJ d f g:=Paired.mapP h λ_ _ e=>s _ _ e
theorem Inv.trackTups(r:Paired (λa p=>∃f,Vals [p.1,p.2] f/\IsTup s.15 a f.11) l o):∀H,Inv X d g H s->l.70 (· < ·) ->
  (∀a∈l,H a=gt/\a≠X.17/\X.f9.4<=a/\(∀x c,X.19 x=U c->c≠a)/\∀q∈X.pn++d,q.1≠a)->∃i,Inv X d g i s/\dH H i/\dJ i l o:=by
 induction r with
 |nil=>intro H I _ _;show(H,I,dH.refl H,.nil)
 | @cons a p l o h r M=>
  intro H I y j;let(f,z,ht):=h;let(Q,G):=pairwise_cons.mp y;let(t,C,L,D,E):=j a zE;let F:Inv X d g (upd H a (.tup [p.1,p.2])) s:=I.track t C (.inr L) D E (by change 2<=sizeLine;decide,f,z,ht);let N:dH H (upd H a (.tup [p.1,p.2])):=λb u e=>by rwa[AE (AK e t)]
  let(i,J,v,O):=M _ F G (λb R=>by
   let(q1,q2):=j b (_)
   show(by rw[AE (_)];show q1,q2))
  show(i,J,N.7 v,.cons (v _ _ dG) O)
theorem Ou(m:X.calm=L):eW X (.type md) (λg H Q=>∃p a f,g=[.ref p]/\H p=gl (QB a p)/\Rd H a (.dK f) /\
  ∀l i o,dH H o->H l=J->o l=gl (.lst (i.5 V.ref))->dJ o i (f.5 λt=>(kV t.1,(t.2)))->Q (.ref l) o):=by
 rintro C s ab H g us Q I r ⟨p,a,f,rfl,B,hd,q⟩;let(u,rfl,ru):=Bq r;cases ru;let(ar,an,vs,E,dd):=CT I.eA hd;let(ep,da):=dd.dictAt;let(hv,_):=I.eA p _ B;let hl:=E.3;show W.kdx_call (I.66 m) hv da () λw tk acc c i keep e ag G z=>?_;let(N,n2,n3,n4,n5):=I.newOk (zp s.4);let el:acc=(i.5 Value.ref).11:=by rw[←z]
 let y:Inv X C ab (upd H s.4 (.lst (i.5 V.ref))) {s with heap:=w,toks:=tk}:=(I.75 keep).track N n2 (.inr n3) n4 n5 (by simp_all,i.5 Value.ref,c,Co (_) λj al w' v S=>by
  rw[zx]at v S;cases D:i[j]? with
  |none=>rw[D]at v;cases v
  |some b=>rw[D]at v S;cases v;cases S;rfl,by ext)
 let M:Paired (λa p=>∃F,Vals [p.1,p.2] F/\IsTup w a F.toArray) i (f.5 λt=>(kV t.1,(t.2))):=(Co (_) λj b pr P d=>by
   let(R,k,x,ex,hk,ho):=G.pairs j b P;rw[zx]at d;cases D:f[j]? with
   |none=>ext
   |some t=>
    rw[D]at d;simp at d;let(v2,h,rv2):=KV.get E D;rw[ex]at h;simp at h;subst d;show([R,x],.cons ?_ (.cons ?_ .nil),_,ho,Y,7)
    ·rw[←h.1];show EI hk
    ·rwa[h.2])
 let(o,I',U,t'):=Inv.trackTups M _ y G.rise (λb T=>by
   let A:=G.above b T;let(m1,m2,m3,m4,m5):=I.newOk (Nat.le_of_lt A)
   show(by rw[AE (_)];show m1,m2,m3,m4,m5))
 show(.ref s.4,o,I',Y,q _ i o (λb u e=>U b u (by rwa[AE (AK e N)])) N (U _ _ dG) t')
end
mutual
def Bf(d:FG)(H:Hp):PyData->V->Prop
 |.none,v=>v=.eJ
 |.bool b,v=>v=.bl b
 |.int i,v=>v=.int i
 |.str x,v=>v=.str x
 |.list g,v=>∃a f,v=.ref a/\dY d H a f/\Bm d H g f
 |.tuple g,v=>∃a f,v=.ref a/\eO d H a f/\Bm d H g f
 |.dict _,_=>False
def Bm(b:FG)(H:Hp):List PyData->ly->Prop
 | [],f=>f=[]
 |d::g,f=>∃x r,f=x::r/\Bf b H d x/\Bm b H g r
end
mutual
theorem Inv.reads(I:Inv X f g H s):∀d v u,RelV v u->Bf X.K H d v->∃D,Reads s.15 u d D
 |.none,v,u,r,h=>by
  let e:v=.eJ:=by simpa[Bf]using h
  subst e;cases r;show(_,.none)
 |.bool b,v,u,r,h=>by
  let e:v=.bl b:=by simpa[Bf]using h
  subst e;cases r;show(_,.bool b)
 |.int i,v,u,r,h=>by
  let e:v=.int i:=by simpa[Bf]using h
  subst e;let(t,rfl):=r;show(_,.int i t)
 |.str x,v,u,r,h=>by
  let e:v=.str x:=by simpa[Bf]using h
  subst e;let(t,rfl):=r;show(_,.str x t)
 |.list C,v,u,r,h=>by
  let(a,p,rfl,l,E):=h;cases r;let(j,z,(o,n,e,c,_,y),_):=I.list l;let(D,q):=I.readsAll C p j z E;show(_,.list e c y (by simpa using q))
 |.tuple C,v,u,r,h=>by
  let(a,p,rfl,l,E):=h;cases r;let(j,z,(o,e,c,n,y),_):=I.tuple l;let(D,q):=I.readsAll C p j z E;show(_,.tuple e c y (by simpa using q))
 |.dict F,v,u,r,h=>by
  trivial
theorem Inv.readsAll(I:Inv X g m H s):∀b f a,Vals f a->Bm X.K H b f->∃e,ReadsAll s.15 a b e
 | [],f,a,r,h=>by
  subst (by simpa[Bm]using h);cases r;show(_,.nil)
 |d::b,f,a,r,h=>by
  let(x,l,rfl,t,j):=h;cases r with
  |cons p q=>
   let(e,i):=I.reads d x _ p t;let(bs,o):=I.readsAll b l _ q j;show(_,.cons i o)
end
mutual
theorem Tc(b)(z:X.K=b)(h:X.A.41+64<cLine):gx X (compareOp .Eq) (λx y H Q=>∃d a,Bf b H d x/\Bf b H a y/\SeqAt.shaped d=L/\SeqAt.shaped a=L/\Q (.bl (PyData.eqv d a)) H):=by
 subst z;rintro e s E H x y v u Q I o r ⟨d,a,l,i,C,j,q⟩;let(D,t):=I.reads d x v o l;let(bs,p):=I.reads a y u r i;show eq_dataH t p C j h (.bl _,H,I,Y,q)
theorem IA(b)(z:X.K=b)(h:X.A.41+64<cLine):gx X (compareOp .NotEq) (λx y H Q=>∃d a,Bf b H d x/\Bf b H a y/\SeqAt.shaped d=L/\SeqAt.shaped a=L/\Q (.bl (!PyData.eqv d a)) H):=by
 subst z;rintro e s E H x y v u Q I o r ⟨d,a,l,i,C,j,q⟩;let(D,t):=I.reads d x v o l;let(bs,p):=I.reads a y u r i;show ne_dataH t p C j h (.bl _,H,I,Y,q)
theorem Xv(f)(E:X.K=f)(i:X.A.41+64<cLine):gx X (compareOp .Eq) (λx y H Q=>∃(a b:l7)(e d:List Int),x=.ref a/\y=.ref b/\dY f H a (e.5 V.int)/\dY f H b (d.5 V.int)/\Q (.bl (decide (e=d))) H):=by
 subst E;rintro h s G H x y v u Q I p t ⟨a,b,e,d,rfl,rfl,o,j,q⟩;cases p;cases t;let(F,C,l,_):=I.list o;let(D,r,z,_):=I.list j;show W.ke_eq_ints l.59 z.59 (D8 C) (D8 r) i (.bl _,H,I,Y,q)
theorem NI(F:AT X.14 X.w X.K X.mg X.39 eK k f g [lH] w)(z:eB (k+1) X.A)(o:Binds X.K g [lH] [])(j:Lj X.K C qz f):
  eW X (.builtin "len") (λb H Q=>∃a l fs,b=[.ref a]/\H a=gl (.ins C l fs)/\w [.ref a] H (λv h=>∃n:Nat,v=.int (n)/\n<2^62/\Q (.int (n:Int)) h) E0):=by
 rintro i s P H b B Q I r ⟨a,l,fs,rfl,N,q⟩;let(u,rfl,D):=Bq r;cases D;let(m,p):=I.fr;let(U,x,_):=Cw I.eA N;let(S,M,_):=x.look;apply W.len_K p I.mod.iL M j.at_ j.fn;show wpAny_call (codeAny_mono (F.run X.A.in1 X.33 s H ([.ref a],[]) [.ref a] [.ref a] _ E0 z.in1 I.iA.in1 (o s [.ref a] I.gq rfl) (.cons rfl .nil) q) λA T d=>?_);cases A with
 |error e=>show d.40
 |ok fl=>
  cases fl with
  |ret u=>
   let(v,h,G,J,n,E,R,y):=I.after d;subst E;let(t,rfl):=J;show((zW _,by lia),.int n,h,G.tok _,(_,Y),y)
  |next=>show False.elim d
  |brk=>show False.elim d
  |cont=>show False.elim d
def Xw(C:l7)(d:Sp)(b:ly->ly->ly)(E:XK)(t f:TA):TE:=λi H Q=>t i H λvs j=>f i j λm h=>∀x g,h x=J->h g=J->g≠x ->
 d (b (.ref x::vs) m) (upd (upd h g (.own x)) x (.ins C g [])) (λv l=>v=.eJ/\Q (.ref x) l) E
theorem Ja(M:Mk X.K C f)(F:AT X.14 X.w X.K X.mg X.39 eK k f P v sp)(hr:eB (k+1) X.A)(hg:Gl X x)(hm:X.mg x=gl (.ref C))(s:Oi X.K P v m g u)
  (Q:PA X (e::p) t) (w:PK X d tk) (o:(backToKw b (keywordEach d X.21)).all (·.1.isSome)=ii:=by rfl) (E:(backToKw b (keywordEach d X.21)).76 (·.1)=m:=by rfl)
  (A:iw x:=by decide) (B:iK X e p:=by rfl)
  (D:((backTo b (starEach (e::p) X.21)).any (·.1)||(backToKw b (keywordEach d X.21)).any (·.1.isNone))=im:=by rfl):
  PE X (.Call (.Name x ar) (e::p) d b) (Xw C sp u E0 t tk):=by
 intro i ag S H an I h;show zZ (CP I hg hm (W.callWith_KW I.81 M.kp o (eI (Q b i ag S H _ I h) λl s1 al=>?_) D B) A);let(vs,H1,I1,r,q):=al;show eI (w b i s1 S H1 _ I1 q) λz j (zs,H2,y,rz,q2)=>(y.gq,?_);rw[E];let N:=q2 (j.4+1) j.4 (y.18 (Nat.le_succ _)) (y.18 (zp _)) (_);let G:=Inv.made (C:=C) y;let R:Vals (u (V.ref (j.4+1)::vs) zs) (g (Value.ref (j.4+1)::l) z):=s.rel (.cons rfl r) rz;let ab:(g (Value.ref (j.4+1)::l) z).3=v.3:=by rw[←R.3];show F.len _ _ _ _ N
 show wpAny_call (M0 y.gq M.makes M.init (beq_iff_eq.mp M.fn) (codeAny_mono (F.run _ X.33 _ _ (Value.ref (j.4+1)::l,m.zip z) _ _ _ E0 (hr.make C l (m.zip z)) (G.iA.make C l (m.zip z)) (s.to _ _ _ G.gq ab) R N) λr' s' a=>?_));cases r' with
 |error e=>show a.40
 |ok fl=>
  cases fl with
  |ret as=>
   let(az,T,Z,rv,ev,q3):=G.after a;subst ev;show(rv,(V.ref (j.4+1),T,Z,zd,q3))
  |next=>show False.elim a
  |brk=>show False.elim a
  |cont=>show False.elim a
def bc(i j:Int):Prop:=Builtin.Int.intBits i<=2^20/\Builtin.Int.intBits j<=2^20
theorem Lz:gx X (binaryOp .Mult) (rI bc λi j=>.int (i*j)):=kC λ_ _ _ _ _ _ _ a q=>mul_int q (IntMulOk.of_bits a.1 a.2)
def ZK(i j:Int):Prop:=0<j/\Builtin.divisionGoesByPylong i j=O
theorem NJ:gx X (binaryOp .FloorDiv) (rI ZK λi j=>.int (i/j)):=kC λi j _ _ _ _ _ a q=>by
 let d:=a.1;show floordiv_int () (by rwa[Int.fdiv_eq_ediv_of_nonneg i ()]) (.inl a.2)
theorem L1(X:g.In s.15)(I:W.InstAt s.15 x i C j)(f:W.findIn g (.ref C) ph=U (U (.builtin mP)))
  (h:wpAny M A (call (.builtin mP) (.ref x::b)) (λv=>Q (U v)) E s):wpAny M A (callSpecialIfBound? (.ref x) ph b) Q E s:=by
 show zG (zo (zo (zo (I.type.here ((W.looks_findIn X f).here (zo (wpAny_askSetting (wpAny_ite ?_))))))));let a:=zo (zm h (λv e d=>zn d) λ_ _ d=>d);split
 ·show zo (zn (zn a))
 ·show wpAny_tryCatch (zo (zn (zn a)))
theorem NK(l:A.41+1<cLine)(X:g.In s.15)(I:W.InstAt s.15 x q C m)(p:W.mroIn g C (.type nI)=U L)(d:W.findIn g (.ref C) oo=U (U (.ref f)))(o:W.isFn g (.ref f)=L)
    (h:wpAny (model prog w) A.in1 (call (.ref f) [.ref x,.ref y]) (λv j=>∃b,v=.bool b/\Q (.bool (!b)) j) E s):wpAny (model prog w) A (call (.builtin mP) [.ref x,.ref y]) Q E s:=by
  show wpAny_call (codeAny_call_builtin cmp_object.ne.plain cmpEntry_ne (W.check_slot (i:=mP) (by rfl) (by rfl) (I.type.andThen (W.looks_mroIn X p)) (cmpArgs_ne _ _) ?_))
  repeat (first
    |with_reducible show wpAny_cRoomFor (by change A.in1.41<cLine;show l) ?_
    | (show zo
        (W.ifBound_K X I d o (zm h (λr j d=>by
          let(b,rfl,a):=d
          repeat (first|show a|show(_,rfl,a)|show zn (_,rfl,a)| (show zo (zV ?_))|wp_step)) λ_ _ e=>e)))
    |wp_step)
theorem Xx(i:A.41+1<cLine)(X:g.In s.15)(I:W.InstAt s.15 x D C B)(m:W.InstAt s.15 y u C q)(t:W.mroIn g C (.type nI)=U L)
  (l:W.findIn g (.ref C) ph=U (U (.builtin mP))) (p:W.findIn g (.ref C) oo=U (U (.ref f))) (o:W.isFn g (.ref f)=L)
  (h:wpAny (model prog w) A.in1 (call (.ref f) [.ref x,.ref y]) (λv a=>∃b,v=.bool b/\Q (.bool (!b)) a) E s):wpAny (model prog w) A (compareOp .NotEq (.ref x) (.ref y)) Q E s:=by
 change wpAny _ _ (richCompare .NotEq (.ref x) (.ref y)) _ _ _
 let one:wpAny (model prog w) A (tryCompare (.ref x) (cmpInfo .NotEq).2.1 (.ref y)) (λr a=>∃v,r=U v/\Q v a) E s:=by
  show zo (L1 X I l (NK i X I t p o (zm h (λv a j=>?_) λ_ _ e=>e)));let(b,rfl,d):=j;show(b,Y,zn (7,d))
 show zG (zo (wpAny_cRoomFor () (zo (I.type.here (zo (m.type.here ?_))))));rw[zg (_)];show zo (zn (zo (zm one (λr a z=>?_) λ_ _ e=>e)));let(v,rfl,d):=z;show zn d
def Vr(d:Sp)(a b:l7)(H:Hp)(Q:VK):Prop:=d [.ref a,.ref b] H (λv f=>∃t,v=.bl t/\Q (.bl t) f) E0
theorem Ov(F:AT X.14 X.w X.K X.mg X.39 eK k f m [lH,me] w)(r:eB k A)(y:gX X.14 X.w X.K X.mg X.39 A X.33 s H)(o:Binds X.K m [lH,me] [])(I:Inv X g B H s)(h:Vr w a b H Q):
  wpAny (model X.14 X.w) A (call (.ref f) [.ref a,.ref b]) (λv i=>∃t,v=.bool t/\EP X g B Q (.bool t) i) E s:=by
 show wpAny_call (codeAny_mono (F.run A X.33 s H ([.ref a,.ref b],[]) [.ref a,.ref b] [.ref a,.ref b] _ E0 r y (o s [.ref a,.ref b] I.gq rfl) (.cons rfl (.cons rfl .nil)) h) λl i d=>?_);cases l with
 |error e=>show d.40
 |ok fl=>
  cases fl with
  |ret u=>
   let(v,x,p,z,t,j,q):=I.after d;subst j;cases z;show(t,Y,.bl t,x,p,Y,q)
  |next=>show False.elim d
  |brk=>show False.elim d
  |cont=>show False.elim d
theorem G4(F:AT X.14 X.w X.K X.mg X.39 eK k f w [lH,me] A)(D:eB k X.A)(u:Binds X.K w [lH,me] [])(l:Lj X.K C oo f):
  gx X (compareOp .Eq) (λx y H Q=>∃a g fs b,x=.ref a/\y=.ref b/\H a=U (.ins C g fs)/\((∃G M,H b=U (.ins C G M))\/((∃o,dY X.K H b o)/\W.subIn X.K (.type md) (.ref C)=U O))/\Vr A a b H Q):=by
 intro i s ab H x y v al Q I B P h;let(a,g,fs,b,rfl,rfl,ha,j,q):=h;cases B;cases P;let(m,z):=I.fr;let(mA,S,_):=Cw I.eA ha;let(od,L,_):=S.look;let p:=Ov (E:=X.xe) F D I.iA u I q;let r:X.A.41<cLine:=Nat.lt_of_le_of_lt (Nat.le_add_right _ 64) D.41
 let d:gm X (call (.ref f) [.ref a,.ref b]) (W.CmpBack (EP X i ab Q)) X.xe s:=by
  show eI p λv s' N=>?_;let(t,rfl,q):=N;show q
 change wpAny _ _ (richCompare .Eq (.ref a) (.ref b)) _ _ _;let(G,M,j)||((o,j),hn):=j
 ·let(mB,R,_):=Cw I.eA j;let(odb,Y,_):=R.look;show W.cmp_K r z I.mod.iL L Y.type (by simp[W.notFirst]) l.at_ l.fn d
 ·let(Z,rv,(ag,n,e,c,dd,_),_):=I.list j;let T:W.Looks (model X.14 X.w) s.15 (typeOf (.ref b)) (.type md):=c ▸ (W.Looks.ld e).andThen .now;show W.cmp_K r z I.mod.iL L T (by rfl) l.at_ l.fn d
theorem E6(F:AT X.14 X.w X.K X.mg X.39 eK k f g [lH,me] m)(i:eB (k+1) X.A)(z:Binds X.K g [lH,me] [])(l:Lj X.K C oo f)(N:W.findIn X.K (.ref C) ph=gl (gl (.builtin mP)))(S:W.mroIn X.K C (.type nI)=gl ii):
  gx X (compareOp .NotEq) (λx y H Q=>∃a o fs b j p,x=.ref a/\y=.ref b/\H a=gl (.ins C o fs)/\H b=gl (.ins C j p)/\Vr m a b H (λv d=>∃t,v=.bl t/\Q (.bl (!t)) d)):=by
 rintro h s ab H x y v u Q I w A ⟨a,o,fs,b,j,p,rfl,rfl,B,M,q⟩;cases w;cases A;let(mA,G,_):=Cw I.eA B;let(od,Y,_):=G.look;let(mB,D,_):=Cw I.eA M;let(U,L,_):=D.look;show Xx (Nat.lt_of_le_of_lt (Nat.add_le_add_left qc _) i.41) I.gq Y L S N l.at_ l.fn (eI (Ov (E:=X.xe) F i.in1 I.iA.in1 z I q) λv P r=>?_);let(t,rfl,v',d,R,T,t',e,q):=r;subst e;cases T;show(t,zd,.bl _,d,R,zd,q)
theorem Jb(g)(T:X.K=g):eW X (.builtin mr) (λf H Q=>∃a p b,f=[.ref a,.ref p]/\(H a=U (.lst b)\/H a=U (.tup b))/\eO g H p [.ty md,.ty mm]/\Q (.bl ii) H):=by
 subst T;rintro d s w H f A Q I r ⟨a,p,b,rfl,i,x,q⟩;let(u,Y,rfl,J,l):=Iv r;cases J;cases l;let(t,S,(o,e,c,n,R),_):=I.tuple x;let(ju,O,F,L):=o;subst c;subst R
 let y:t=[Value.type md,Value.type mm]:=by
  cases S with
  |cons N M=>
   cases M with
   |cons E D=>
    cases D;cases (N);cases (E);rfl
 subst y;let h:∀v,EP X d w Q (.bool ii) {s with toks:=v}:=λv=>(.bl ii,H,I.tok v,rfl,q);let i||i:=i
 ·let(_,_,m,_,j):=(I.eA a _ i);show W.kia_tup W.kitx_list I.gq (_,j,rfl) e rfl (λz=>nomatch z) h
 ·let(_,_,_,G):=(I.eA a _ i);let(o,j,C,_):=G;show W.kia_tup W.kitx_tuple I.gq (o,j,C) e rfl (λz=>nomatch z) h
structure Jc(fs:List l7)(e:l7)(oe:Obj)(vs:Array Value)(old:l7->Prop)(h h':Heap):Prop where
 tb:∃T oT ts,h.10<=T/\h'.13 T=U oT/\oT.38=.fields ts/\ts[3]?=U .none/\h'.13 e=U {oe with data:=.fields (vs.22 1 (.ref T))}
 keep:∀b o,h.13 b=U o->b≠e->¬ old b->b∉ fs->h'.13 b=U o
 slot:∀b o,h.13 b=U o->b≠e->¬ old b->b∈fs->∃sl,h'.13 b=U {o with slots:=sl}
 there:∀b o,h.13 b=U o->∃d,h'.13 b=U d
theorem GC(a:o.38=.fields vs)(f):Obj.mapFields f o={o with data:=.fields (f vs)}:=by
 let(c,d,e,sl):=o;cases a;rfl
theorem Rb{h:PySem.Heap}{f}(e:∀o,h.13 a=U o->(f o).isFreed=O):∀o,h.13 b=U o->∃i,(h.65 a f).13 b=U i:=λo d=>by
 by_cases q:b=a
 ·subst q;show(_,zQ f d (e o d))
 ·show(o,(zS _ _ (Ne.symm q)).7 d)
theorem QD        
  (hfr:A.47=U (i::m)) (I:s.43 base (i::m)) (T:i.frame=U f) (S:s.9 e=U w) (F:w.38=.fields vs) (u:1<vs.27)
  (h:∀p,Jc (gD (i::m)) e w vs (λ_=>False) s.15 p->Q Unit.unit {s with heap:=p}):
  wpAny M A (do let a ←frameOf i;let pl ←entryPlaceOf f ar;let b ←EntryCells.newEntry B a .none (rawInt f) .none pl;setField (.ref e) 1 b) (λ_ z=>wpAny M A (setFlight (.ref e) J) Q E z) E s:=by
 let t:e∉ gD (i::m):=λal=>by
  let(_,o,ho,Y):=I.mem al
  ext
 show zo (wpAny_frameOf_fun hfr I T λd v=>zo (wpAny_entryPlaceOf λpl an=>zo (wpAny_newObj_type ?_ (an.sizeOk5 _ _ _ _ _))));generalize D:([B,Value.ref f,.none,rawInt f,.none]++(if pl.isEmpty then List.replicate 6 Value.none else pl)).11=P;let r:3<P.27:=by rw[←D];simp only[size_toArray,zY,length_cons];lia
 let R:=(v.2.1 e t).7 S;let ab:=zT (.type "traceback",J,.fields P,#[]) R;apply wpAny_setField ab F u;let G:=Nat.ne_of_gt (lt_size R);let ag:=Obj.data_mapFields F (·.22 1 (Value.ref d.10));let C:=zQ (Obj.mapFields (·.22 1 (Value.ref d.10))) ab (Obj.isFreed_of_fields ag);let t3:=(zS (d.74 (.type "traceback",J,.fields P,#[])) (Obj.mapFields (·.22 1 (Value.ref d.10))) (Ne.symm G)).7 (zJ d rfl);show zo (wpAny_field C ag (x:=.ref d.10) (by simp[u]) (wpAny_setField t3 zd r (h _ ?_)))
 let j:∀b o,b≠e->d.13 b=U o->∀g,(((d.74 (.type "traceback",J,.fields P,#[])).65 e (Obj.mapFields (·.22 1 (Value.ref d.10)))).65 d.10 g).13 b=U o:=λb o l y g=>by
  rw[zS _ _ (Nat.ne_of_gt (lt_size y)),zS _ _ (Ne.symm l)];show zT _ y
 show((d.10,_,_,Nat.le_of_eq v.1.35,zQ _ t3 (Obj.isFreed_of_fields (Obj.data_mapFields zd _)),Obj.data_mapFields zd _,by simp[r],?_),λb o l H _ N=>?_,λb o l H _ N=>?_,λb o l=>?_)
 ·rw[zS _ _ G,C,GC F]
 ·show j b o H ((v.2.1 b N).7 l) _
 ·let(sl,X):=v.2.2 b o l
  ext
 ·let(sl,X):=v.2.2 b o l;by_cases q:b=e
  ·subst q;show(_,(zS _ _ G).7 C)
  ext
theorem NL      
  (m:A.47=U (a::g)) (o:s.43 base (a::g)) (i:a.frame=U p) (d:s.9 e=U f) (j:f.38=.fields vs) (l:vs[1]?=U .none)
  (h:∀b,Jc (gD (a::g)) e f vs (λ_=>False) s.15 b->Q Unit.unit {s with heap:=b}):wpAny M A (leaving a (.ref e)) Q E s:=by
 unfold leaving noteFrame;simp only[i];show zo (zo (wpAny_field d j l (QD m o i d j (z9.mp l).1 h)))
theorem K4      
  (m:A.47=gl (d::w)) (R:s.43 base (d::w)) (G:d.frame=gl ab) (D:s.9 e=gl q) (g:q.38=.fields vs) (C:vs[1]?=gl (.ref T)) (y:T≠e)
  (l:s.9 T=gl P) (i:P.38=.fields ts) (F:ts[3]?=gl .none)
  (h:∀f,Jc (gD (d::w)) e q vs (·=T) s.15 f->Q Unit.unit {s with heap:=f}):wpAny M A (noteFrame (.ref e) d) (λ_ B=>wpAny M A (setFlight (.ref e) J) Q E B) E s:=by
 unfold noteFrame;simp[G];show zo (wpAny_field D g C ?_);show zo (wpAny_field l i F (zo (wpAny_setField l i (z9.mp F).1 ?_)));let kY:∀b,b≠T->(s.heap.65 T (Obj.mapFields (·.22 3 Value.none))).13 b=s.9 b:=λb a=>zS _ _ (Ne.symm a)
 let X:∀b o,s.9 b=gl o->(∀vs,o.38≠ .fields vs)->b≠T:=λb o a H ag=>by
  ext
 show QD (hfr:=m) (R.of_keeps λb o a H=>(o,(kY b (X b o a H)).7 a,zd)) G ((kY e (Ne.symm y)).7 D) g (z9.mp C).1 λf x=>h f ?_
 let fr:∀o,s.9 T=gl o->(Obj.mapFields (·.22 3 Value.none) o).isFreed=O:=λo I=>by
  rw[l]at I;cases I;show Obj.isFreed_of_fields (Obj.data_mapFields i _)
 let(S,r,v,Y,U):=x.tb;show((S,r,v,by ext,U),λb o a p u t=>x.34 b o ((kY b u).7 a) p (λz=>z) t,λb o a p u t=>x.slot b o ((kY b u).7 a) p (λz=>z) t,λb o a=>?_);let(N,j):=Rb fr o a;show x.there b N j
theorem Ow      
  (m:A.47=U (a::g)) (j:s.43 base (a::g)) (q:a.frame=U w) (o:s.9 e=U f) (r:f.38=.fields vs) (t:vs[1]?=U (.ref T)) (d:T≠e)
  (l:s.9 T=U u) (i:u.38=.fields v) (p:v[3]?=U .none)
  (h:∀b,Jc (gD (a::g)) e f vs (·=T) s.15 b->Q Unit.unit {s with heap:=b}):wpAny M A (leaving a (.ref e)) Q E s:=by
 show zo (K4 m j q o r t d l i p h)
noncomputable def G5(e C:l7)(b:Option l7):HO:=.ext λh=>∃d vs,h.13 e=U d/\d.78=.ref C/\d.dict=b/\d.38=.fields vs/\5<vs.27/\vs[2]?=U .none
structure Td(P:Program)(w:World)(l:List Env)(H:Hp)(s:lG)(e C:l7)(dx:Option l7)(H':Hp)(s':lG):Prop where
 os:s'.os=s.os
 bare:AllBare s'.gens
 un:Un (gD l) [] H H' s.15 s'.15
 eA:gG P w H' s'.15
 at_:H' e=U (G5 e C dx)
def Tb0(e:l7)(b:lG):Prop:=∃d vs,b.9 e=U d/\d.38=.fields vs/\vs[1]?=U .none
def Tb1(e:l7)(d:Hp)(s b:lG)(fl:Value):Prop:=∃g vs T f h,b.9 e=U g/\g.38=.fields vs/\vs[1]?=U (.ref T)/\T≠e/\b.9 T=U f/\f.38=.fields h/\h[3]?=U fl/\d T=J/\s.9 T=J
def jP(P:Program)(w:World)(l:List Env)(H:Hp)(s:lG)(e C:l7)(f:Option l7)(b:Hp)(d:lG):Prop:=Td P w l H s e C f b d/\Tb1 e b s d .none
def gO(P:Program)(w:World):CXT:=λg H s E e h=>∃f C d b,e=.ref f/\jP P w g H s f C d b h/\E (.ref C) d b
theorem QE(u:Un fs [] H g h f):∀{l},(∀b∈gD l,b∈fs)->(∀b∈gD l,H b=J)->h.FunFrames base l->f.FunFrames base l
 | [],_,_,_=>trivial
 |a::r,q,p,⟨v,⟨j,o,m,s,w,hd⟩,i⟩=>by
  let d:j∈gD (a::r):=by unfold gD;rw[zI,m];show zE
  let sub:∀b∈gD r,b∈gD (a::r):=λb z=>by unfold gD;rw[zI,m];show zN _ z
  let(sl,e):=u.slot j o w (p j d) (q j d) (_);show(v,(j,_,m,s,e,hd),QE u (λb z=>q b (sub b z)) (λb z=>p b (sub b z)) i)
structure Ox(X:Cx):Prop where
 iJ:X.33=X.21::X.outer
 fr:X.env.frame=U X.17
 ex:X.ex=[]
theorem NM(ok:gG P w d h)(f:Jc fs e m vs s h g)(A:∀b∈fs,d b=gt)(Q:∀b,s b->d b=gt)
  (x:h.13 e=gl m) (G:m.38=.fields vs) (a:d e=gl (G5 e C B)):gG P w d g:=λb u q=>by
 let kp:∀c v,c≠e->(∃z,d c=gl z)->h.13 c=gl v->g.13 c=gl v:=λc v n k p=>by let(z,X):=k;show f.34 c v p n (λy=>by ext) λy=>by ext
 by_cases t:b=e
 ·subst t;rw[a]at q;cases q;let((D,H,l,F,E,o,R,M),_,st):=ok _ _ a;rw[x]at l;cases l;rw[G]at o;cases o;let(T,N,U,b1,S,I,J,j):=f.tb;show((_,_,j,F,E,Y,by ext,by ext),(_,j),st)
 ·show(ok b u q).ie (λc v i r=>?_) (λ_ z=>z) λ_ _ z=>z;let rfl||i:=i
  ·ext
  ·show kp c v (λz=>?_) (_,i) r;subst z;rw[a]at i;cases i
theorem NN(g:Ox X)(I:Inv X db al w m)(F:Td X.14 X.w X.33 w m e C dx j s)(M:s.9 e=gl B)(ab:B.38=.fields vs)(P:1<vs.27)
  (t:∀b,D b->j b=J/\m.9 b=J) (f:Jc (gD X.33) e B vs D s.15 A):jP X.14 X.w X.outer X.g8 X.f9 e C dx j {s with heap:=A}:=by
 let d:Un (gD X.outer) [] X.g8 w X.f9.15 m.15:=by have:=I.39;rwa[g.ex]at this
 let i:∀b∈gD X.33,j b=J:=λb a=>by
  let(_,o,R,_):=I.stack.mem a;show F.un.free b o R (I.stkFree b a) (_)
 let ne:∀b,j b=J->b≠e:=λb n z=>by subst z;rw[F.at_]at n;cases n
 let r:∀b o,X.f9.9 b=gl o->b∉ gD X.outer->b∉ gD X.33:=λb o a hn z=>by
  rw[g.iJ]at z;unfold gD at z;rw[zI,g.fr]at z;let z||z:=mem_cons.mp z
  ·show absurd (zX (lt_size a) I.72) (_)
  trivial
 let y:∀b,b∈gD X.outer->b∈gD X.33:=λb a=>by
  rw[g.iJ];unfold gD;rw[zI,g.fr];show zN _ a
 let h:∀b o,X.f9.9 b=gl o->¬ D b:=λb o a z=>by
  let(o',ag):=d.there b o a (_)
  ext
 let v:Un (gD X.outer) [] X.g8 j X.f9.15 A:=by
  show(λb o q n a _=>?_,λb o q n a _=>?_,λb o q n _=>?_,λb o q _=>?_,λb l q=>F.un.iy b l (d.iy b l q),λb o l q=>F.un.ij b o l (d.ij b o l q),λb N q=>?_)
  ·have q1:=d.34 b o q n a (_);let u:=d.free b o q n (_);let q2:=F.un.keep b o q1 u (r b o q a) (_);show f.34 b o q2 (ne b (F.un.free b o q1 u (_))) (h b o q) (r b o q a)
  ·let(sl,q1):=d.slot b o q n a (_);let u:=d.free b o q n (_);let(ig,q2):=F.un.slot b _ q1 u (y b a) (_);let(jK,q3):=f.slot b _ q2 (_) (h b o q) (y b a);show(jK,q3)
  ·let(p,q1):=d.there b o q (_);show F.un.free b p q1 (d.free b o q n (_)) (_)
  ·let(p,q1):=d.there b o q (_);let(x,q2):=F.un.there b p q1 (_);show f.there b x q2
  ·let(m1,S):=d.ib b N q;let(m2,e2):=F.un.ib b _ S
   grind
 show((F.os.trans I.os,F.bare,v,NM F.eA f i (λb z=>(t b z).1) M ab F.at_,F.at_),?_);let(T,Q,Z,b1,U,E,G,H):=f.tb;let hT:=Heap.get?_none_of_le b1;show(_,_,T,Q,Z,H,zd,by simp[P],λz=>?_,U,E,G,F.eA.fresh b1,?_)
 ·ext
 ·cases q:X.f9.9 T with
  |none=>rfl
  |some o=>
   let(p,q1):=d.there T o q (_);let(x,q2):=F.un.there T p q1 (_)
   ext
theorem GD(I:Inv X g i b d)(F:Td X.14 X.w X.33 b d e C h a f):f.43 X.39 X.33:=QE F.un (λ_ z=>z) I.stkFree I.33
theorem Jd(f:Ox X)(I:Inv X A G g s)(F:jP X.14 X.w X.33 g s e C m j w):
  gm X (leaving X.21 (.ref e)) (λ_ q=>jP X.14 X.w X.outer X.g8 X.f9 e C m j q) v w:=by
 let(B,y,vs,T,u,D,h,i,d,r,p,l,o,t,x):=F;let fr:=GD I B;let a:=I.ok.47;rw[f.iJ]at fr a;show Ow a fr f.fr h i d r p l o λE H=>?_;rw[←f.iJ]at H;show NN f I B h i (z9.mp d).1 (λb z=>by ext) H
theorem Oy(f:Ox X)(I:Inv X u v m s)(B:Td X.14 X.w X.33 m s e C r j g)(T:Tb0 e g):
  gm X (leaving X.21 (.ref e)) (λ_ l=>jP X.14 X.w X.outer X.g8 X.f9 e C r j l) q g:=by
 let(o,vs,d,h,a):=T;let fr:=GD I B;let i:=I.ok.47;rw[f.iJ]at fr i;show NL i fr f.fr d h a λp w=>?_;rw[←f.iJ]at w;show NN f I B d h (z9.mp a).1 (λb z=>z.40) w
theorem Xy:
  Ox (B9 CX P w ω mg base N qual scope f cd A outer s H E):=(rfl,rfl,rfl)
theorem G6:
  BS (gO P w) (B9 (gO P w) P w u g base N qual scope f b A m s H E) E:=by
 rintro a r l j e o I ⟨i,C,h,d,rfl,F,q⟩;show zm (Jd Xy I F) (λ_ p G=>(i,C,h,d,Y,G,q)) λ_ _ z=>z
def Te(X:Cx)(E:XK):Prop:=∀g(h:St)H s e C f d b,Inv X g h H s->Td X.14 X.w X.33 H s e C f d b->Tb0 e b->E (.ref C) f d->X.xe (.ref e) b
theorem G7{qual}:
  Te (B9 (gO P w) P w ω mg base N qual scope f cd A outer s H E) E:=by
 intro a p j i h C e d l I F T q;show zm (Oy Xy I F T) (λ_ o G=>(h,C,e,d,Y,G,q)) λ_ _ z=>z
structure NO(B:String)(bm:lx):Prop where
 b:bm.16 (.type B)=L
 base:bm.16 (.type m6)=L
 na:bm.16 (.type "AttributeError")=O
 nn:bm.16 (.type "NameError")=O
theorem Oz{C}{E:VS}{h}{N}{M}{A}{g}{d}{t}{r}{f x}{bs p o}{j}{H}{sub}{v}{l}{z}{I G b y D}{B a e}(F:ExcBaseFacts B a e o)(T:NO B p){i}{Q}(oC:h.13 C=U (excClassObj f x C N bs p j H sub v l z I G b y D a))
  (q:Q Unit.unit (h,g,d,t,r)):wpAny M A (checkBuiltinCall a (.ref C::i,[])) Q E (h,g,d,t,r):=by
 let u:(Value.ref C::p).16 (.type B)=L:=by rw[contains_cons,T.b];simp
 let st:=F.noStar;simp[checkBuiltinCall,F.newKind,F.newSplit,F.newRow]
 repeat (first|show zU oC ?_| (show z0 oC ?_;rw[u])|show wpAny_staticBase_exc oC ?_|show wpAny_madeBy_exc oC ?_|simp only[bne_self_eq_false,if_false]|wp_step)
 show q
noncomputable abbrev Tf(C:l7)(h:Heap):Obj:={cls:=.ref C,data:=.fields #[.ref h.10,.none,.none,.none,.bool O,.none]}
abbrev Je(C:l7)(b:lx)(h:Heap):Heap:=(h.74 {cls:=.type mm,data:=.seq b.11}).74 (Tf C h)
theorem Tg{w}{C}{h}{N}{prog}{A}{R}{g}{d}{t}{u}{s z}{bs j q}{l}{f}{sub}{x}{o}{H}{M b m D I}{B a i}(F:ExcBaseFacts B a i q)(T:NO B j){e}(oC:h.13 C=U (excClassObj s z C N bs j l f sub x o H M b m D I a))
  (G:R (.ok (.ret (.ref (h.10+1)))) (Je C e h,g,d,t,u)) (P:e.3<=sizeLine):codeAny (model prog w) A (.builtin a (.ref C::e,[])) R (h,g,d,t,u):=by
 let Q:=F.ends;let v:(Value.ref C::j).16 (.type B)=L:=by rw[contains_cons,T.b];simp
 let E:(Value.ref C::j).16 (.type "AttributeError")=O:=by rw[contains_cons,T.na];rfl
 let y:(Value.ref C::j).16 (.type "NameError")=O:=by rw[contains_cons,T.nn];rfl
 apply codeAny_builtinAt F.entry;apply PySem.wpAt_bind;show PySem.wpAt_bind (PySem.wpAt_stack λp r=>PySem.wpAt_of_wpAny ?_)
 wp_walk
 apply PySem.wpAt_of_wpAny;rw[F.owner]
 repeat (first|with_reducible show wpAny_madeHere_exc F.canon oC ?_|with_reducible show zU oC ?_| (with_reducible show z0 oC ?_;first|rw[v]|rw[E]|rw[y])|wp_step)
 rwa[Heap.size_push]
theorem O0{w}{C}{E:VS}{h}{N}{prog}{A}{g}{d}{t}{q}{nm m}{bs u p}{j}{P}{sub}{I}{l}{S}{ab X k2 s v}{B e i}(F:ExcBaseFacts B e i p)(T:NO B u){a}{y}{D}{Q}
  (oC:h.13 C=U (excClassObj nm m C N bs u j P sub I l S ab X k2 s v e)) (R:W.Looks (model prog w) h (typeLookup (.ref C) lU) (U (.ref y))) (oF:h.13 y=U D) (f:D.78=.type pf) (hz:a.3<=sizeLine)
  (ag:wpAny (model prog w) A (call (.ref y) (.ref (h.10+1)::a)) (λr G=>r=.none/\Q (.done (.ret (.ref (h.10+1)))) G) E (Je C a h,g,d,t,q)):
  wpAny (model prog w) A (Builtin.«type.__call__» (.ref C::a,[])) Q E (h,g,d,t,q):=by
 repeat (first|with_reducible show zU oC ?_|with_reducible show wpAny_madeBy_exc oC ?_|wp_step)
 show codeAny_call_builtin_code (Code.quiet_builtin _ F.quiet) (Oz F T oC (Tg F T oC ?_ hz));let kp:∀b o,h.13 b=U o->(Je C a h).13 b=U o:=λb o z=>zT _ (zT _ z)
 heap_get
 let H:(Value.ref C::u).16 (.ref C)=ii:=by simp
 repeat (first|with_reducible show zU ge ?_| (with_reducible show z0 (kp _ _ oC) ?_;rw[H])|wp_step)
 apply R A _ E (Je C a h,g,d,t,q) kp;show zG (zo ?_);show zo (wpAny_typeOf (_,kp _ _ oF,f) (zn (zo (zm ag (λr G z=>?_) λ_ _ x=>x))));let(rfl,M):=z
 wp_walk
 show M
theorem Rc{w}{C}{E:VS}{h}{N}{prog}{A}{g}{d}{t}{u}{nm D}{bs v o}{j}{m}{sub}{y}{l}{b}{R M P G f}{B e i}(F:ExcBaseFacts B e i o)(T:NO B v){a}{q}{x}{Q:VS}
  (oC:h.13 C=U (excClassObj nm D C N bs v j m sub y l b R M P G f e)) (I:W.Looks (model prog w) h (typeLookup (.ref C) lU) (U (.ref q))) (S:h.13 q=U x) (z:x.78=.type pf) (s:a.3<=sizeLine)
  (p:wpAny (model prog w) (A.under (.builtin om (.ref C::a,[]))) (call (.ref q) (.ref (h.10+1)::a)) (λr H=>r=.none/\Q (.ref (h.10+1)) H) E (Je C a h,g,d,t,u)):
  wpAny (model prog w) A (call (.ref C) a) Q E (h,g,d,t,u):=by
 let X:=tc_lookup;let ab:=tc_bind (.ref C);show wpAny_call (codeAny_of_tree ?_)
 repeat (any_goals (first|assumption|with_reducible show zU oC ?_|wp_step))
 show(Y,codeAny_call_builtin_at (Code.quiet_builtin _ (_)) entry_typeCall (wpAny_check_type_call_sub oC (O0 F T oC I S z s p)))
noncomputable def Fl(e C:l7)(b:Option l7):HO:=.ext λh=>∃d vs,h.13 e=U d/\d.78=.ref C/\d.dict=b/\d.38=.fields vs/\vs.27=6/\vs[1]?=U .none/\vs[2]?=U .none
noncomputable def BE(b:FG)(C:l7):Bool:=match b.8 C with
 |some ⟨.type "type",_,.cls f,sl⟩=>(match f.mro,sl.37 with
  |.ref g::d,[_,_,_,_,U (.builtin n),_]=>g==C && !f.hasDel&&n == "ValueError.__new__" && d.16 (.type "BaseException")&&d.16 (.type "ValueError") && !d.16 (.type "AttributeError") && !d.16 (.type "NameError")
  |_,_=>O)
 |_=>O
theorem JH(X:g.In h)(q:BE g C=ii):∃f o N bs i d v sub j a r x u b p t,h.13 C=U (excClassObj f o C N bs i d v sub j a r x u b p t "ValueError.__new__")/\NO lY i:=by
 unfold BE at q;split at q
 ·rename_i r z sl G;split at q
  ·rename_i M i x u b p n t F E;simp only[Bool.and_eq_true,beq_iff_eq,Bool.not_eq_true']at q;let((((((rfl,e),rfl),y),ht),J),D):=q;let(f,bs,H,L,o,I,v,sub,j,a,del):=z;subst F e;obtain⟨l⟩:=sl;subst E;show(f,o,L,bs,i,I,v,sub,j,a,r,x,u,b,p,t,X _ _ G,(ht,y,J,D))
  ·cases q
 ·cases q
structure MkX(K:FG)(C f:l7):Prop where
 cls:BE K C=L
 init:W.findIn K (.ref C) lU=U (U (.ref f))
 fn:W.isFn K (.ref f)=L
 fo:∃o,K.8 f=U o/\o.78=.type pf
 kp:W.keepIn K (.ref C)=L
theorem Re(C)(a)(h):(Je C a h).13 (h.10+1)=U (Tf C h):=by heap_get
theorem Inv.madeX(I:Inv X f g H s)(d):Inv X f g (upd H (s.4+1) (Fl (s.4+1) C J)) {s with heap:=Je C d s.15}:=by
 apply I.laid (t':=s.62) (λb o z=>zT _ (zT _ z)) (Nat.le_succ _);let e:=Re C d s.15;show((_,_,e,Y,Y,Y,Y,Y,Y),(_,e),λj i (h,vs,a,r) k=>(h,vs,k _ a,r))
theorem Rg(M:MkX X.K C f)(F:AT X.14 X.w X.K X.mg X.39 u k f A m P)(R:eB (k+1) X.A)(G:Binds X.K A m d)(hd:Vals i d)(w:BS u X E)(I:Inv X g q H s)(r:Vals vs b)(B:vs.3<=1000)
  (h:∀x,H x=gt->P (.ref x::(vs++i)) (upd H x (Fl x C gt)) (λv y=>v=.eJ/\Q (.ref x) y) E):gm X (call (.ref C) b) (EP X g q Q) X.xe s:=by
 let o:=h (s.4+1) (I.18 (Nat.le_succ _));let j:=Inv.madeX (C:=C) I b;let p:Vals (V.ref (s.4+1)::(vs++i)) (Value.ref (s.4+1)::(b++d)):=.cons rfl (r.append hd)
 let ag:(Value.ref (s.4+1)::b++d).3=m.3:=by
  let e:=p.3;rw[F.len _ _ _ _ o]at e;show e.35
 let(nm,qn,N,bs,bm,as,sn,sub,ab,t,dd,k0,k1,k2,k3,k5,oC,T):=JH I.gq M.78;let(oF,z,D):=M.fo;let(l,ar,an,tk,os):=s;apply Rc excBase_ValueError T oC (W.looks_findIn I.gq M.init) (I.gq _ _ z) D (by rw[←r.3];show Nat.le_of_lt (AR B));show wpAny_call (codeAny_mono (F.run _ X.33 _ _ (_,[]) (Value.ref (l.10+1)::(b++d)) _ _ E (R.make C b []) (j.iA.make C b []) (G _ (Value.ref (l.10+1)::b) j.gq ag) p o) λr al a=>?_);cases r with
 |error e=>show w g q _ _ e al j a
 |ok fl=>
  cases fl with
  |ret az=>
   let(v,J,S,Z,U,q3):=j.after a;subst U;show(Z,(V.ref (l.10+1),J,S,Y,q3))
  |next=>show False.elim a
  |brk=>show False.elim a
  |cont=>show False.elim a
def IB(C:l7)(d:Sp)(b:ly)(E:XK)(t:TA):TE:=λh H Q=>t h H λvs f=>vs.3<=1000/\∀x,f x=J->d (.ref x::(vs++b)) (upd f x (Fl x C J)) (λv g=>v=.eJ/\Q (.ref x) g) E
theorem E7{k}{l}(M:MkX X.K C f)(F:AT X.14 X.w X.K X.mg X.39 m k f B l P)(z:eB (k+1) X.A)(G:Gl X x)(D:X.mg x=U (.ref C))(u:Binds X.K B l A)(w:Vals i A)(v:BS m X E)
  (N:PA X (e::b) t) (j:iw x:=by decide) (y:iK X e b:=by rfl) (d:(backTo g (starEach b X.21)).any (·.1)=O:=by rfl):
  PE X (.Call (.Name x p) (e::b) [] g) (IB C P i E t):=by
 intro a s T H Q I h;show zZ (CP I G D (W.callWith_K I.81 M.kp (eI (N g a s T H _ I h) λab R (vs,S,o,r,q)=>(o.gq,?_)) y d) j);show Rg M F z u w v o r q.1 q.2
def IC(C:l7)(b:TE)(E:XK):TS:=λ_ g H=>b g H λv f=>∃e d,v=.ref e/\f e=U (Fl e C d)/\E (.ref C) d (upd f e (G5 e C d))
theorem Rh(ok:gG P w f h)(d:f e=U (Fl e C g)):gG P w (upd f e (G5 e C g)) h:=by
 let((i,vs,j,t,l,p,x,y,o),_,_):=ok _ _ d;show ok.write (by rw[d];show True.intro) (.inl Y) (λb u _ q=>q) (_,j) ((i,vs,j,t,l,p,by lia,o),(_,j),λz v (i,vs,a,r) k=>(i,vs,k _ a,r))
theorem NP(w:A.49=J)
  (h:wpAny M A x (λv o=>∃e b vs,v=.ref e/\o.9 e=gl b/\b.78=.ref C/\b.38=.fields vs/\vs[1]?=gl .none /\
   (∃m r N bs p a G sub q i u H F f t D j,o.9 C=gl (excClassObj m r C N bs p a G sub q i u H F f t D j)/\p.16 (.type m6)=L)/\E (.ref e) o) E s):
  wpAny M A (raiseStmt env (gl x) J) Q E s:=by
 show zo (zm h (λv o z=>?_) λ_ _ y=>y);let(e,b,vs,rfl,S,l,T,R,(m,r,N,bs,p,a,G,sub,q,i,u,H,F,f,t,D,j,oC,O),I):=z;let B:(Value.ref C::p).16 (.type m6)=L:=by rw[contains_cons,O,Bool.or_true]
 let(U,g,d,Y,X):=o
 repeat (first| (with_reducible show zU S ?_;rw[l])|with_reducible show zU oC ?_| (with_reducible show z0 oC ?_;rw[B])|wp_step)
 rw[T];apply zn;rw[R];apply zn;show zn (wpAny_raiseNew_none w I)
theorem E8(M:Te X E)(Q:X.calm=ii)(g:BE X.K C=ii)(f:PE X o m):PS X (.Raise (U o) J w) (IC C m E):=by
 intro a s A H D I h;show zo (zF (NP (C:=C) (I.66 Q) (zo (zm (f a s A H _ I h) (λv x z=>zo (zF (zn ?_))) λ_ _ y=>y))));let(u,H1,i,Y,e,dx,rfl,d,q):=z;obtain rfl:v=.ref e:=Y;let((F,vs,p,a2,a3,G,a5,t,a7),_,_):=i.eA _ _ d;let(L,R,N,bs,S,j,sn,sub,O,l,dd,k0,k1,k2,Z,k5,oC,T):=JH i.gq g;show(e,F,vs,zd,p,a2,G,t,(L,R,N,bs,S,j,sn,sub,O,l,dd,k0,k1,k2,Z,k5,_,oC,T.39),M a A H1 x e C dx _ x i (zd,i.73,Un.write (by rw[d];show True.intro) (.inl zd) (λb u _ r=>r) (_,p),Rh i.eA d,dG) (F,vs,p,G,t) q)
theorem NQ{C}{E:VS}{h}{N}{A}{g}{d}{t}{y}{X G}{bs u r}{p}{R}{sub}{D}{q}{m}{S w P I s}{B j i}(F:ExcBaseFacts B j i r)(T:NO B u){M}{e}{f}{l}{Q}
  (oC:h.13 C=U (excClassObj X G C N bs u p R sub D q m S w P I s j)) (H:h.13 e=U f) (o:f.78=.ref C) (v:Q Unit.unit (h,g,d,t,y)):
  wpAny M A (checkBuiltinCall i (.ref e::l,[])) Q E (h,g,d,t,y):=by
 let z:(Value.ref C::u).16 (.type B)=L:=by rw[contains_cons,T.b];simp
 let st:=F.noStar;simp[checkBuiltinCall,F.initKind,F.initSplit,F.initRow]
 repeat (first| (with_reducible show zU H ?_;rw[o])|with_reducible show zU oC ?_| (with_reducible show z0 oC ?_;rw[z])|wp_step)
 apply wpAny_onRaise;rw[show ∀a b n,Bind.check (.positional,"*",B,.self,[("args",.varPos,O)]) a b n (List.map (λx=>x.fst) ({pos:=Value.ref e::l}:Args).kw)=pure Unit.unit from λa b n=>check_star_args _ _ _ _ _ _];show zn v
theorem O1{w}{C}{E:VS}{h}{N}{prog}{A}{g}{d}{t}{v}{nm m}{bs x u}{p}{P}{sub}{f}{r}{s}{X S k2 M R}{B j i}(F:ExcBaseFacts B j i u)(T:NO B x){e}{b}{vs}{v0}{a}{Q:VS}
  (oC:h.13 C=U (excClassObj nm m C N bs x p P sub f r s X S k2 M R j)) (y:h.13 e=U b) (o:b.78=.ref C) (I:b.38=.fields vs) (D:vs[0]?=U v0) (hz:a.3<=sizeLine)
  (l:Q .none ((h.74 {cls:=.type "tuple",data:=.seq a.11}).65 e (Obj.mapFields (·.22 0 (.ref h.10))),g,d,t,v)):
  wpAny (model prog w) A (call (.builtin i) (.ref e::a)) Q E (h,g,d,t,v):=by
 show wpAny_call (codeAny_call_builtin F.init.plain F.initEntry (NQ F T oC y o ?_))
 wp_walk
 rw[I];apply zn;rw[D];show zn (zo (wpAny_setField (zT {cls:=.type "tuple",data:=.seq a.11} y) I (z9.mp D).1 ?_))
 let done:∀{G:VS},wpAny (model prog w) A.in1 (match v0 with|Value.ref _=>letGo [v0]|_=>pure Unit.unit) (λ_ H=>Q .none H) G ((h.74 {cls:=.type "tuple",data:=.seq a.11}).65 e (Obj.mapFields (·.22 0 (.ref h.10))),g,d,t,v):=λ{G}=>by
  cases v0<;>first|show zn l| (wp_walk;show l)
 show zm done (λ_ H q=>zn q) λ_ _ z=>z
theorem Ti(h:H a=U o):upd H a o=H:=by
 funext b;unfold upd
 ext
theorem Ri:∀{d},Vals (x::g) d->∃u f,d=u::f/\RelV x u/\Vals g f
 |_::_,.cons a b=>(_,_,rfl,a,b)
def Xz(b:FG)(t:TA):TE:=λh H Q=>t h H λvs d=>∃a C g f,vs=.ref a::f/\f.3<=1000/\BE b C=L/\d a=U (Fl a C g)/\Q .eJ d
theorem Vs:typeOf (.type lY)=pure (.type qE):=by rfl
theorem Vt:Manifest.isStub lY=O:=by rfl
theorem Vu(b:FG):W.findCls b (.type lY) (.type qE) lU=U (.val (.builtin "ValueError.__init__")):=by rfl
theorem Vv:W.handedIn (.builtin "ValueError.__init__")=L:=by rfl
theorem QF:bootBuiltins lY=U (.type lY):=by rfl
theorem Tj(w:Gl X lY)(B:X.mg lY=gt)(s:PA X (e::g) t)(o:iK X e g:=by rfl)(p:(backTo d (starEach g X.21)).any (·.1)=im:=by rfl)
  (ht:eval (.Call (.Attribute (.Name lY np) lU m) (e::g) [] d) X.21=(do
   let y ←eval (.Name lY np) X.21
   standAt m.atName
   let (f,first) ←holding [y] (getMethod y lU pl)
   callWith d f first (backTo d (starEach (e::g) X.21)) (backToKw d (keywordEach [] X.21))):=by rfl):
  PE X (.Call (.Attribute (.Name lY np) lU m) (e::g) [] d) (Xz X.K t):=by
 intro j az ag H Q I h;show W.methodCall_KW ?_ ht;apply F3 (u:=.type lY) I w B QF;let(ar,Y):=I.fr;apply (λP S=>W.method_type (prog:=X.14) (w:=X.w) (A:=X.A) (E:=X.xe) (T:=lY) (pl:=pl) (Q:=P) Y I.81 Vs Vt (Vu X.K) Vv S) _;show PyProof.Rows.callWith_builtin1 (eI (s d j _ ag H _ (I.tok _) h) λus s1 k=>?_) o p;let(vs,H1,r,r1,a,C,dx,D,ev,hz,hC,i,q):=k;subst ev;let(nm,qn,N,bs,bm,L,sn,sub,ab,R,dd,k0,k1,k2,k3,k5,oC,T):=JH r.gq hC;let((oe,ws,G,J,a3,v,a5,a6,a7),_,st):=r.eA _ _ i;let(u0,O,eu,ra,rr):=Ri r1;subst eu
 ·obtain rfl:=ra;let(x,an,al,M,os):=s1;apply O1 excBase_ValueError T oC G J v (v0:=ws[0]'()) (_) (by rw[←rr.3];show Nat.le_of_lt (AR hz));let l:=zQ (Obj.mapFields (·.22 0 (.ref x.10))) (zT {cls:=.type mm,data:=.seq O.11} G) (Obj.isFreed_of_fields (Obj.data_mapFields v _));rw[GC v]at l
  let F:=(r.75 (h':=x.74 {cls:=.type mm,data:=.seq O.11}) (t':=M) λb u z=>zT _ z).write (o:=Fl a C dx) (t':=M) (by rw[i];show True.intro) (.inl rfl) (λb u n z=>(zS _ _ (Ne.symm n)).7 z) (_,l)
   ((_,_,l,J,a3,rfl,by ext,by ext,by ext),(_,l),st)
  rw[Ti i]at F;show(.eJ,H1,F,zd,q)
def K5(P:Program)(w:World)(i:FG)(d:SV)(base:Heap)(N:lr)(qual:Str)(scope:Scope)(f:l7)(b:Value)(A:Around)(h:List Env)(s:lG)(H:Hp)(e:l7)(g:Obj):Cx:=
 {B9 eK P w i d base N qual scope f b A h s H (λ_ _ _=>False)with calm:=O,pn:=[(e,g)],xe:=λ_ _=>False}
structure RoomS(k:Nat)(A:Around):Prop where
 dp:A.depth+3*k+5<recursionLimit
 un:A.41+16*k+200<cLine
theorem RoomS.deeper(r:RoomS (k+1) A)(a):RoomS k (A.56 a):=(by have:=r.dp;change A.depth+1+3*k+5<_;lia,by have:=r.un;change A.41+3+16*k+200<_;lia)
theorem O2           
  (S:AH N g scope) (a:gX P w R M base A B s H) (i:vs.3=g.3) (r:Vals vs G) (h:s.9 e=U b) (o:H e=J) (y:e∉ gD B) (u:∀v,b.38≠ .cell v)
  (x:InCallC s s.4 (bindL (envOfC qual scope s.4 f m).kindOf (g.zip G) λ_=>J) (cellsFrom (s.4+1) scope.54 []) (bindC (envOfC qual scope s.4 f m).kindOf (g.zip G) λ_=>J) Q):
  Inv (K5 P w R M base N qual scope f m A B s H e b) [] (start N vs) H Q:=by
 let d:∃d:Around,d.49=J/\d.47=A.47:=({A with handled:=J},rfl,rfl);let(d,C,l):=d;let I:=Hs (CX:=eK) (E:=λ_ _ _=>False) S C (l.7 a.47,a.mod,a.bs,a.iR,a.gz,a.jf,a.eA,a.73) i r x;let(D,F,rfl,t):=x.done;let ok:=I.ok;show((ok.mod,ok.kind,ok.glob,ok.blt,ok.above,ok.inj,ok.has,ok.jH,(λz=>by trivial),Around.frames_deeper a.47,ok.iJ,ok.exf,ok.bs,ok.iR,ok.iF,ok.iH,ok.gz,ok.jf),I.os,I.73,I.39,I.loc,I.cell,I.free,I.gi,λp j=>?_,I.eA,I.61);let q:p=(e,(b)):=by simpa[K5]using j
 subst q;show(t _ _ h,o,zu (lt_size h),y,u)
abbrev SpS:=l7->Obj->ly->Hp->VK->Prop
structure QG(P:Program)(w:World)(K:FG)(mg:SV)(base:Heap)(k:Nat)(f:l7)(fd:FuncData)(ps:lr)(sp:SpS):Prop where
 len:∀e oe vs H Q,sp e oe vs H Q->vs.3=ps.3
 run:∀A outer s H b us vs Q e oe,RoomS k A->gX P w K mg base A outer s H->A.49=U (.ref e)->s.9 e=U oe->H e=J->e∉ gD outer->(∀v,oe.38≠ .cell v) ->
  BindsTo s fd b (ps.zip us)->Vals vs us->sp e oe vs H Q->codeAny (model P w) A (.call (.ref f) b) (CR eK outer P w H s Q λ_ _ _=>False) s
theorem eP.okS{P}{w}{x}{u}{base}{N}{G}{qual}{st}{f}{B}{l}{k}{r}(F:eP u x qual st f B)(S:AH N l (defScope st))(len:∀e g vs H Q,r e g vs H Q->vs.3=l.3)
  (d:∀a A p s H vs Q e g,A.49=U (.ref e)->RoomS k (A.56 (envOfC qual (defScope st) s.4 f a))->r e g vs H Q ->
   ∃t,hA (K5 P w u G base N qual (defScope st) f a A p s H e g) (defBody st) t/\t {nx:=λ_ i=>Q .eJ i,rt:=Q} (start N vs) H):QG P w u G base (k+1) f B l r:=by
 let(oc,od,kV,Z,pm,an,a,ct,aC,rfl,lk,ar):=F.ex;show(len,λA p s H az T vs Q e g E h X R al ho hd ab as j=>?_);let D:=h.mod.iL.79 λb o z=>(h.bs b o z).1
 let hk:∀y∈l.zip T,(defScope st).12 y.1=U .local\/((defScope st).12 y.1=U .cell/\((cellsFrom (s.4+1) (defScope st).54 []).8 y.1).26=ii):=λ(n,v) ag=>by
  let q||q:=S.par n (of_mem_zip ag).1
  ·ext
  ·show .inr (q,W.cellsFrom_some _ _ _ (.inl q))
 show codeAny_call_function (by have:=E.dp;lia) (D _ _ lk) rfl S.co S.gen rfl (W.codeRec_of D ar) (ab _ _ _ _ (wpAny_newFunctionEnv_cells S.kind hk λenv ee s1 x=>?_));subst ee;show((h.mod.nolimit.79 λb o z=>(h.bs b o z).1).79 x.toInCall.34,codeAny_func ?_);let(t,ht,M):=d a A p s H vs Q e g X (E.56 _) j;let I:=O2 S h (len _ _ _ _ _ j) as R al ho hd x;show zm (ht [] s1 (start N vs) H _ I M) (λfl s' z=>?_) λ_ _ z=>z.40;cases fl with
 |ret aM=>
  let(v,C,i,J,rv,q):=z;show(v,i,J.os,J.73,J.39,J.eA,rv,q)
 |next=>
  let(C,i,J,q):=z;show(.eJ,i,J.os,J.73,J.39,J.eA,zd,q)
 |brk=>
  let(_,_,_,q):=z;show q.40
 |cont=>
  let(_,_,_,q):=z;show q.40
theorem Vw(h:A.49=U (.ref e))(d:b.38=.fields vs)(a:vs[2]?=U .none):
  jI (K5 P w l i base N qual scope f g A j s H e b):=.inr (e,b,vs,h,zE,d,a)
noncomputable def del(H:Hp)(a:l7):Hp:=λb=>if b=a then J else H b
theorem NR:del H a a=J:=zf rfl
theorem E9(h:b≠a):del H a b=H b:=zg h
theorem Tk(u:Un fs [] s j h A)(f:Jc fs e H vs g A w)(p:j e=U (G5 e C B))(x:∀b,g b->j b=J/\h.13 b=J):Un fs [] s (del j e) h w:=by
 let r:∀b,j b=J->b≠e:=λb n z=>by ext
 let a:∀b o,h.13 b=U o->¬ g b:=λb o i z=>by ext
 let d:∀b v,j b=U v->(∀D,v≠ .ext D)->b≠e:=λb v t G z=>by subst z;rw[p]at t;cases t;show G _ rfl
 show(λb o q n i _=>?_,λb o q n i _=>?_,λb o q n _=>?_,λb o q _=>?_,λb l q=>?_,λb o l q=>?_,λb E q=>?_)
 ·show f.34 b o (u.34 b o q n i (_)) (r b (u.free b o q n (_))) (a b o q) i
 ·let(sl,q1):=u.slot b o q n i (_);let(ig,q2):=f.slot b _ q1 (r b (u.free b o q n (_))) (a b o q) i
  ext
 ·have z:=u.free b o q n (_)
  rwa[E9 (r b z)]
 ·let(F,q1):=u.there b o q (_);show f.there b F q1
 ·have z:=u.iy b l q
  rwa[E9 (d b _ z λ_ y=>nomatch y)]
 ·have z:=u.ij b o l q
  rwa[E9 (d b _ z λ_ y=>nomatch y)]
 ·let(m,z):=u.ib b E q;show(m,by rw[E9 (d b _ z λ_ y=>nomatch y)];show z)
theorem Vx(ok:gG P w d h)(i:d e=U (G5 e C f)):gG P w (del d e) h:=λb u q=>by
 let o:b≠e:=λz=>by subst z;rw[NR]at q;cases q
 rw[E9 o]at q;let a:∀c v,d c=U v->(∀p,v≠ .ext p)->c≠e:=λc v j l z=>by subst z;rw[i]at j;cases j;show l _ rfl
 show(ok b u q).ie (λ_ _ _ z=>z) (λc z=>by rwa[E9 (a c _ z λ_ y=>nomatch y)]) λc r z=>by rwa[E9 (a c _ z λ_ y=>nomatch y)]
structure Cgt(C:l7)(dx:Option l7)(e:l7)(oe:Obj)(T:l7)(oT:Obj):Prop where
 cls:oe.78=.ref C
 dict:oe.dict=dx
 fld:∃vs,oe.38=.fields vs/\vs[1]?=U (.ref T)/\vs[2]?=U .none
 tb:∃ts,oT.38=.fields ts/\ts[3]?=U .none
theorem X0(f:Ox X)(I:Inv X q v A s)(F:jP X.14 X.w X.33 A s e C P r p)
  (h:∀t g T u,Cgt C P e g T u->Inv X ((e,(g))::(T,(u))::q) v (del r e) t->Q Unit.unit t):
  gm X (noteFrame (.ref e) X.21) (λ_ t=>gm X (setFlight (.ref e) J) Q w t) w p:=by
 let(B,g,vs,T,u,ts,D,E,a3,a4,a5,a6,a7,a8,a9):=F;let fr:=GD I B;let N:=I.ok.47;rw[f.iJ]at fr N;show K4 N fr f.fr D E a3 a4 a5 a6 a7 λh' S=>?_;rw[←f.iJ]at S;let d:∀b,b=T->r b=J/\s.9 b=J:=λb z=>by ext
 let a:∀b∈gD X.33,r b=J:=λb j=>by
  let(_,o,i,_):=I.stack.mem j;show B.un.free b o i (I.stkFree b j) (_)
 let(y,x,G,b1,b2,Z,b4,b5):=S.tb;let((oe',vs',H,c2,Y,M,c5,c6),_,_):=B.eA _ _ B.at_;rw[D]at H;cases H;rw[E]at M;cases M;let R:Inv X q v (del r e) {p with heap:=h'}:=I.call' B.os (Tk B.un S B.at_ d) (Vx (NM B.eA S a (λb z=>(d b z).1) D E B.at_) B.at_) B.73 λb z=>nomatch z;let az:=Heap.get?_none_of_le b1;let aC:=B.18 b1
 let as:∃o,p.9 X.17=U o:=by
  let(m,(o,_,_,i,_),_):=id I.loc;show B.un.there _ o i (_)
 let ar:∀b∈X.fs,∃o,p.9 b=U o:=λb j=>by
  let(_,o,i,_):=I.gz.mem j;show B.un.there b o i (_)
 let al:∀b∈X.fs,b∈gD X.33:=λb j=>by
  rw[f.iJ];unfold gD;rw[zI,f.fr];show zN _ j
 show h _ {g with data:=.fields (vs.22 1 (.ref y))} y x (c2,Y,(vs.22 1 (.ref y),rfl,by grind,by ext),(G,Z,b4)) (R.pins_of λag ab=>?_);let z||z:=mem_cons.mp ab
 ·subst z;show(b5,NR,λz=>?_,λz=>?_,λan z=>by cases z)
  ·let(m,(o,_,_,i,_),_):=id I.loc;let l:=B.un.free _ _ i I.free (_);rw[←z,B.at_]at l;cases l
  ·have l:=a e (al e z);rw[B.at_]at l;cases l
 let z||z:=mem_cons.mp z
 ·subst z;show(b2,by rw[E9 (λz=>by ext)];lia,λz=>?_,λz=>?_,λan z=>by ext)
  ·ext
  grind
 ·show R.pin ag (_)
noncomputable def Er(b:FG)(C:l7):lx:=match b.8 C with
 |some ⟨_,_,.cls d,_⟩=>d.mro
 |_=>[]
theorem NS(X:g.In h)(q:BE g C=L):∃f r N bs i a o sub j d t p l b u v,h.13 C=U (excClassObj f r C N bs i a o sub j d t p l b u v "ValueError.__new__")/\NO lY i/\Er g C=.ref C::i:=by
 let(f,r,N,bs,i,a,o,sub,j,d,t,p,l,b,u,v,oC,T):=JH X q;show(f,r,N,bs,i,a,o,sub,j,d,t,p,l,b,u,v,oC,T,?_);unfold BE at q;unfold Er;split at q
 ·rename_i D E sl x;rw[x];let e:=X _ _ x;rw[oC]at e;let y:=Option.some.inj e;injection (congrArg Obj.data y)with z
  rw[←z]
 ·cases q
theorem MA{C}{E:VS}{h}{N}{M}{A}{g}{d}{t}{m}{nm r x G}{D q}{bs y F i}{ar ab}{sn az}{sub ag}{S p}{as al}{v I}{w z B P k5 l0 X u l3 l5}{l a}{e}{o}{Q}(oC:h.13 C=U (excClassObj nm r C N bs y ar sn sub S as v w z B P k5 l))(R:h.13 D=U (excClassObj x G D q F i ab az ag p al I l0 X u l3 l5 a))
  (s:h.13 e=U o) (an:o.78=.ref C) (j:i.16 (.type m6)=L) (f:Q ((Value.ref C::y).16 (.ref D)) (h,g,d,t,m)):wpAny M A (excMatches (.ref e) (.ref D)) Q E (h,g,d,t,m):=by
 let H:(Value.ref D::i).16 (.type m6)=L:=by rw[contains_cons,j,Bool.or_true]
 let aC:=tc_notTuple;generalize T:(Value.ref C::y).16 (.ref D)=b at f
 repeat (first| (with_reducible show zU s ?_;rw[an])|with_reducible show zU R ?_| (with_reducible show z0 R ?_;rw[H])| (with_reducible show z0 oC ?_;rw[T])|wp_step)
 cases b<;>(wp_walk;show f)
noncomputable def Cp(X:Cx)(e:l7)(d:Obj)(T:l7)(b:Obj):Cx:={X with A:=X.A.mark (U (.ref e)),calm:=O,pn:=X.pn++[(e,d),(T,b)],xe:=λ_ _=>False}
theorem Inv.mark(I:Inv X ((e,(f))::(T,(d))::b) g H s):Inv (Cp X e f T d) b g H s:=
 ((I.ok.mod,I.ok.kind,I.ok.glob,I.ok.blt,I.72,I.ok.inj,I.ok.has,I.ok.jH,(λz=>by trivial),I.ok.47,I.ok.iJ,I.ok.exf,I.ok.bs,I.ok.iR,I.ok.iF,I.ok.iH,I.ok.gz,I.ok.jf),I.os,I.73,I.39,I.loc,I.cell,I.free,I.gi,
  λp a=>I.pin p (by simpa[Cp]using a),I.eA,I.61)
theorem Inv.unmark(ok:X.Ok)(I:Inv (Cp X e f T d) b g H s):Inv X ((e,(f))::(T,(d))::b) g H s:=
 (ok,I.os,I.73,I.39,I.loc,I.cell,I.free,I.gi,λp a=>I.pin p (by simpa[Cp]using a),I.eA,I.61)
theorem Inv.less(I:Inv X (q++b) d H s):Inv X b d H s:=I.pins_of λp a=>I.pin p (_)
theorem Inv.nameless(I:Inv X w A H s)(E:g.Ns X.17 G)(f:Heap.SameBut X.17 s.15 g):Inv X w (List.replicate A.3 gt) H {s with heap:=g,toks:=B}:=by
 let(m,(J,_,_,F,_),_):=id I.loc;show(I.ok,I.os,I.73,(λb o e n l a=>?_,λb o e n l a=>?_,I.base.free,λb o e a=>?_,I.base.iy,I.base.ij,I.base.ib),(_,E,λj y M i r N=>?_),λy c e=>?_,I.free,I.gi,λp v=>?_,λb C e=>?_,by simpa using I.61)
 ·show(f.2 b (zu (zX (lt_size e) I.72))).7 (I.base.34 b o e n l a)
 ·let(sl,i):=I.base.slot b o e n l a;show(sl,(f.2 b (zu (zX (lt_size e) I.72))).7 i)
 ·let(x,i):=I.base.there b o e a;show(x,(f.2 b (zu (zX (lt_size e) I.72))).7 i)
 ·rw[List.getElem?_replicate]at r;split at r<;>cases r
 ·let(t,z):=I.cell y c e;show(t,z.sameBut f (I.jO y c e))
 ·let(e,n,u,D,d):=I.pin p v;show((f.2 p.1 u).7 e,n,u,D,d)
 ·show(I.eA b C e).ie (λc t h q=>(f.2 c ?_).7 q) (λ_ q=>q) λ_ _ q=>q;intro z;subst z;let z||h:=h
  ·rw[←z,I.free]at e;cases e
  ·rw[I.free]at h;cases h
def PH(X:Cx)(C:l7)(b:Option l7)(d:List ExceptHandler)(t:l7->TS):Prop:=
 ∀(f:LO)s(i:St)H D e h T g,Cgt C b e h T g->Inv X ((e,(h))::(T,(g))::f) i H s->t e D i H->gm X (handleBy (.ref e) X.21 d) (SP X f D) X.xe s
theorem K6(e):Value.ref e≠byPass:=by intro q;cases q
theorem K7(D:BE X.K C=ii)(v:BE X.K b=ii)(c:Cgt C B e f T m)(I:Inv X ((e,(f))::(T,(m))::w) P H s)  
  (h:Q ((Er X.K C).16 (.ref b)) s):wpAny (model X.14 X.w) A (excMatches (.ref e) (.ref b)) Q E s:=by
 let(J,R,N,bs,S,l,sn,sub,M,o,dd,k0,k1,k2,k3,k5,oC,Y,y):=NS I.gq D;let(p,x,N',u,r,a,t,i,G,j,z,l0,U,l2,l3,l5,q,F,Z):=NS I.gq v;rw[y]at h;let(L,g,d,tk,O):=s;show MA oC q ((I.pin (e,(f)) (_)).1) c.78 F.base h
theorem Cz(v:BE X.K C=L)(j:BE X.K Dn=L)(l:Gl X x)(u:X.mg x=U (.ref Dn))(d:(Er X.K C).16 (.ref Dn)=O)(q:PH X C b f t)(i:iw x:=by decide):
  PH X C b (.ExceptHandler (U (.Name x np)) m g w::f) t:=by
 intro a s r H D e p T o c I h;show wpAny_handleBy_cons (codeAny_handlers_test (CP I.mark l u ?_ i)) (K6 e);apply K7 v j c I;rw[d];show q a s r H D e p T o c I h
def QH(i:Nat)(b:TS):l7->TS:=λe D d H=>b {nx:=λ_ _=>False,rt:=D.rt} (d.set i (U (.ref e))) H
theorem QI{X}{g:l7->TS}(m:X.N.29)(B:X.N[i]?=U n)(y:X.24 n=U .local)(u:BE X.K C=ii)(w:BE X.K Dn=ii)(A:Gl X x)(D:X.mg x=U (.ref Dn))(j:(Er X.K C).16 (.ref Dn)=ii)
  (l:∀e f T d,Cgt C p e f T d->hA (Cp X e f T d) (al::o) (g e)) (F:iw x:=by decide):
  PH X C p (.ExceptHandler (U (.Name x np)) (U n) (al::o) aC::hs) (λe=>QH i (g e) e):=by
 intro ag s aM H as e f T d c I h;show wpAny_handleBy_cons (codeAny_handlers_test (CP I.mark A D ?_ F)) (K6 e);apply K7 u w c I;rw[j];apply codeAny_handlers_suite_as;let(vs,hd,S,h2):=c.fld;let(N,a,L):=c.tb;let r:=(I.pin (T,(d)) (_)).1;show wpAny_setFlight_none ((I.pin (e,(f)) (_)).1) hd S r a (z9.mp L).1 ?_
 let P:=I.75 (t':=s.62) λb ar q=>by
  by_cases z:b=T
  ·subst z;let E:=zQ (Obj.mapFields (·.22 3 Value.none)) r (Obj.isFreed_of_fields (Obj.data_mapFields a _));rw[GC a]at E
   let ab:N.22 3 Value.none=N:=by
    let(G,Y):=z9.mp L;rw[Array.setIfInBounds,dif_pos G]
    conv=>lhs;rw[←Y]
    show Array.set_getElem_self G
   rw[ab,←a]at E;rw[show s.9 b=U d from r]at q;cases q;show E
  ·show(zS _ _ (Ne.symm z)).7 q
 show CO (X:=Cp X e f T d) (v:=.ref e) P.mark m B (.inl y) rfl (λQ I2=>zm (l e f T d c ag Q _ H _ I2 h) (λfl s3 z=>?_) λ_ _ z=>z.40) (.inr y);cases fl with
 |ret ar=>
  let(v,gY,R,J,rv,q):=z;let M:=J.unmark I.ok;let(az,hn,_):=id M.loc;let an:(X.env.scope.kind == .class||(X.env.scope.kind == .module&&X.17 != X.env.globals))=im:=by rw[I.ok.kind];rfl
  show wpAny_nameGoes y hn an λh' m' t j=>(v,_,R,(M.nameless t j).less (q:=[(e,(f)),(T,(d))]),rv,q)
 |next=>
  let(_,_,_,q):=z;show q.40
 |brk=>
  let(_,_,_,q):=z;show q.40
 |cont=>
  let(_,_,_,q):=z;show q.40
noncomputable def Iy(X:Cx)(b:LO)(xe:VS):Cx:={X with pn:=X.pn++b,xe:=xe}
theorem Cx.Ok.tr{X}{a}{b}(ok:X.Ok):(Iy X a b).Ok:=(ok.mod,ok.kind,ok.glob,ok.blt,ok.above,ok.inj,ok.has,ok.jH,ok.hd,ok.47,ok.iJ,ok.exf,ok.bs,ok.iR,ok.iF,ok.iH,ok.gz,ok.jf)
theorem Cx.Ok.untr{X}{a}{b}(ok:(Iy X a b).Ok):X.Ok:=(ok.mod,ok.kind,ok.glob,ok.blt,ok.above,ok.inj,ok.has,ok.jH,ok.hd,ok.47,ok.iJ,ok.exf,ok.bs,ok.iR,ok.iF,ok.iH,ok.gz,ok.jf)
theorem Inv.tr(I:Inv X b d H s):Inv (Iy X b f) [] d H s:=(I.ok.tr,I.os,I.73,I.39,I.loc,I.cell,I.free,I.gi,λp a=>I.pin p (by simpa[Iy]using a),I.eA,I.61)
theorem Inv.untr(I:Inv (Iy X b g) f d H s):Inv X b d H s:=(I.ok.untr,I.os,I.73,I.39,I.loc,I.cell,I.free,I.gi,λp a=>I.pin p (by
 let z||z:=mem_append.mp a
 ·show zL _ (zL _ z)
 ·show zL _ (zP _ z)),I.eA,I.61)
def Vy(n:Nat)(b:l7->Option l7->l7->TS)(D:KR):XK:=λg f d=>∃C,g=.ref C/\∀e,d e=U (G5 e C f)->b C f e D (List.replicate n J) (del d e)
def bf(n:Nat)(b:XK->TS)(d:l7->Option l7->l7->TS):TS:=λD f H=>b (Vy n d D) {D with nx:=D.nx} f H
theorem X1(f:Ox X)(u:∀S b E,BS (gO X.14 X.w) (Iy X S b) E->hA (Iy X S b) m (tb E))(g:∀C l,PH X C l (y::w) (th C l)):
  PS X (.Try m (y::w) [] [] A) (bf X.N.3 tb th):=by
 intro a s ab H D I h;apply wpAny_Try_except
 letI E:XK:=Vy X.N.3 th D
 letI b:Value->lG->Prop:=λN G=>∃j x t e C l p,N=.ref e/\Inv X a j x t/\jP X.14 X.w X.33 x t e C l p G/\E (.ref C) l p
 let hp:BS (gO X.14 X.w) (Iy X a b) E:=by
  rintro ag j x t N G M ⟨e,C,l,p,rfl,F,q⟩;show(j,x,t,e,C,l,p,Y,M.untr,F,q)
 show zm (u a b E hp [] s ab H _ I.tr h) (λfl t z=>?_) λN G z=>?_
 ·cases fl with
  |next=>
   let(d,o,J,q):=z;show wpAny_execs_nil (d,o,J.untr,q)
  |brk=>let(d,o,J,q):=z;show(d,o,J.untr,q)
  |cont=>let(d,o,J,q):=z;show(d,o,J.untr,q)
  |ret al=>let(v,d,o,J,r,q):=z;show(v,d,o,J.untr,r,q)
 ·let(j,x,t,e,C,l,p,rfl,M,F,C',eC,q):=z;cases eC;show X0 f M F λP B T Q c R=>?_
  let I4:Inv X ((e,(B))::(T,(Q))::a) (List.replicate X.N.3 gt) (del p e) P:=R.weak (by rw[List.length_replicate,R.61]) λi v z=>by
   grind
  show g C l a P _ _ D e B T Q c I4 (q e F.1.at_)
structure GH(K:FG)(C:l7):Prop where
 ga:W.findIn K (.ref C) nA=U (U (.builtin lQ))
 gr:W.findIn K (.ref C) "__getattr__"=U J
 mb:W.mroIn K C (.type m6)=U L
theorem Rj{x}{b}{C}{E:VS}{h}{A}{o}{l}{g}{d}{t}{i}{M}{e}{Q}(p:GH b C)(X:b.In h)(I:W.InstAt h x o C l)(j:Q Unit.unit (h,g,d,t,i)):wpAny M A (checkBuiltinCall lQ ([.ref x,e],[])) Q E (h,g,d,t,i):=by
 let q:builtinKind lQ=U .slot:=by decide +kernel
 let a:splitId lQ=U (m6,(nA)):=by decide +kernel
 simp[checkBuiltinCall,a];apply zo
 ·repeat (first|with_reducible show(I.type (M:=M)).at ?_|with_reducible show(W.looks_mroIn (M:=M) X p.mb).at ?_|wp_step)
  show j
theorem Rk{w}{x}{b:FG}{C}{E:VS}{h}{prog}{A}{l}{e}{a}{g}{d}{t}{i}{v}{f}{Q}(X:b.In h)(I:W.InstAt h x l C e)(j:W.findObj b C e a=U (.value v))(o:Q (.done (.ret v)) (h,g,d,t,i)):
  wpAny (model prog w) A (Builtin.«object.__getattribute__» ([.ref x,.str a f],[])) Q E (h,g,d,t,i):=by
 repeat (any_goals (first|assumption|with_reducible show(I.type (M:=model prog w)).at ?_|with_reducible show(W.looks_find (M:=model prog w) X I j).at ?_|wp_step))
theorem Rl{w}{x}{b:FG}{C}{E:VS}{h}{prog}{A}{p}{e}{a}{g}{d}{t}{i}{f}{Q}(X:b.In h)(I:W.InstAt h x p C e)(l:W.findObj b C e a=U (.bind (.builtin lW) (.builtin lL)))(o:W.mroIn b C (.type nI)=U L)
  (j:Q (.done (.ret (.ref C))) (h,g,d,t,i)):
  wpAny (model prog w) A (Builtin.«object.__getattribute__» ([.ref x,.str a f],[])) Q E (h,g,d,t,i):=by
 repeat (any_goals (first|assumption|with_reducible show(I.type (M:=model prog w)).at ?_|with_reducible show(W.looks_find (M:=model prog w) X I l).at ?_|wp_step))
 show W.class_get X I o (zn j)
theorem Tl{w}{x}{f}{C}{h}{prog}{A}{q}{l}{a}{g}{d}{t}{e}{b}{v}{R}(p:GH f C)(X:f.In h)(I:W.InstAt h x q C l)
  (o:∀i(r:VS)Q,Q (.done (.ret v)) (h,g,d,t,e)->wpAny (model prog w) i (Builtin.«object.__getattribute__» ([.ref x,.str a b],[])) Q r (h,g,d,t,e)) (j:R (.ok (.ret v)) (h,g,d,t,e)):
  codeAny (model prog w) A (.call (.builtin lQ) ([.ref x,.str a b],[])) R (h,g,d,t,e):=
 codeAny_call_builtin F.excAttr_ValueError.ga.plain F.entry_bexc_ga (Rj p X I (o _ _ _ j))
theorem Tm{w}{x}{f}{C}{E:VS}{h}{prog}{A}{G}{z}{e}{g}{d}{t}{j}{b}{v}{i a}{Q:VS}(p:GH f C)(X:f.In h)(I:W.InstAt h x G C z)(o:W.handedIn v=L)
  (D:∀r(H:VS)Q,Q (.done (.ret v)) (h,g,d,t,j)->wpAny (model prog w) r (Builtin.«object.__getattribute__» ([.ref x,.str e b],[])) Q H (h,g,d,t,j)) (y:Q v (h,g,d,t,j)):
  wpAny (model prog w) A (getAttrBy (.ref x) (.str e b) i a) Q E (h,g,d,t,j):=by
 let m:=F.excAttr_ValueError.ga.bind (.ref x);let u:(a&&onTheHeap (Value.builtin lQ))=O:=by cases a<;>rfl
 let l:(Value.builtin lQ == Value.builtin "object.__getattribute__")=O:=by decide +kernel
 let q:(onTheHeap (Value.ref C)&&Value.builtin lQ == Value.builtin "object.__getattribute__")=O:=by rw[l];rfl
 repeat (any_goals (first|assumption|with_reducible show(I.type (M:=model prog w)).at ?_|with_reducible show(W.looks_findIn (M:=model prog w) X p.ga).at ?_|with_reducible show(W.looks_findIn (M:=model prog w) X p.gr).at ?_|wp_step))
 apply Tl p X I D
 repeat (any_goals (first|assumption| (rw[W.handedOut_of o];show zn y)|wp_step))
theorem Tn{w}{x}{b}{C}{E:VS}{h}{prog}{A}{r}{i}{a}{g}{d}{t}{j}{v}{e}{Q:VS}(p:GH b C)(X:b.In h)(I:W.InstAt h x r C i)(q:W.findObj b C i a=U (.value v))(l:W.handedIn v=L)(o:Q v (h,g,d,t+1,j)):
  wpAny (model prog w) A (getAttr (.ref x) a e) Q E (h,g,d,t,j):=by
 show zo (wpAny_mkText (Tm p X I l (λu D y z=>Rk X I q z) o))
theorem NT{w}{x}{b}{C}{E:VS}{h}{prog}{A}{o}{a}{g}{d}{t}{e}{Q}(p:GH b C)(X:b.In h)(I:W.InstAt h x o C a)(j:W.findObj b C a oG=U (.bind (.builtin lW) (.builtin lL)))(l:W.mroIn b C (.type nI)=U L)
  (i:Q (U (.ref C)) (h,g,d,t+1,e)):wpAny (model prog w) A (getAttr? (.ref x) oG) Q E (h,g,d,t,e):=by
 show zo (wpAny_mkText (zo (wpAny_attempt (Tm p X I Y (λq u r z=>Rl X I j l z) (zn i)))))
theorem KY(d:(W.clsIn b C).26=L)(i:W.findIn b (.ref C) f=U (U a))(h:W.specialIn b a oS=U (U g))(ht:W.takesIn b a=U L):W.findObj b C j f=U (.bind g a):=by
 let(e,d):=Option.isSome_iff_exists.mp d;unfold W.findObj
 ext
structure Vz(K:FG)(C:l7):Prop where
 hg:GH K C
 hc:(W.clsIn K C).26=L
 ha:W.findIn K (.ref C) oG=U (U (.builtin lL))
 hn:W.specialIn K (.builtin lL) oS=U (U (.builtin lW))
 htk:W.takesIn K (.builtin lL)=U L
 hm:W.mroIn K C (.type nI)=U L
theorem To(k:Vz b D):W.KitX b (.ref x) (.ref D) (λh=>W.InstAt h x C D f) where
 ty:=λ_ _ _ I=>I.type
 it:=λ_ _ X _=>by
  let a:=k.hc;unfold W.clsIn at a;split at a
  ·rename_i u r o i l;intro m y F G k q;show zo (wpAny_loadPart (k _ _ (X _ _ l)) (zn q))
  ·cases a
 ne:=λh tp H p n sl X j=>by
  let a:=k.hc;show Bool.eq_false_iff.mpr λq=>?_;let e:=Value.ref.inj (beq_iff_eq.mp q);subst e;unfold W.clsIn at a;split at a
  ·rename_i u r o i l;cases ((X _ _ l).symm.7 j)
  ·cases a
 ca:=λ{prog w A E Q s}X I h=>by
  let(v,g,d,t,z):=s;show NT k.hg X I (KY k.hc k.ha k.hn k.htk) k.hm h
structure ExcP(X:Cx)(e:l7)(oe:Obj)(C:l7):Prop where
 at_:(e,(oe))∈X.pn
 cls:oe.78=.ref C
 fld:∃vs,oe.38=.fields vs
theorem ExcP.inst(p:ExcP X e b C)(I:Inv X g m H s)(v:b.dict=J\/∃d u,b.dict=U d/\H d=U u):∃r,W.InstAt s.15 e b C r:=by
 let h:=(I.pin (e,(b)) (zL _ p.at_)).1;let(vs,j):=p.fld;let no:W.notCls b=L:=by unfold W.notCls;rw[j]
 let z||(d,u,z,i):=v
 ·show(J,h,p.78,no,by rw[z];trivial)
 ·have:∃o,s.9 d=U o:=by
   let q:=(I.eA d u i);cases u with
   |lst l=>let(_,_,_,_,e):=q;show(_,e)
   |tup l=>let(_,_,_,o,e,_):=q;show(o,e)
   |dK a=>let(_,_,_,_,o,_,_,e,_):=q;show(o,e)
   |dT a=>let(_,_,_,_,o,_,_,e,_):=q;show(o,e)
   |set S n=>let(o,_,_,_,e,_):=q;show(o,e)
   |ins C G fs=>let(_,_,_,e,_):=q;show(_,e)
   |own y=>show q
   |xd fs=>let(_,(o,_,_,e,_),_):=q;show(o,e)
   |rng w F=>let(_,_,_,e):=q;show(_,e)
   |gj x u=>show(_,q.1)
   |hZ E=>show⟨_,(q)⟩
   |met f y=>show⟨_,(q)⟩
   |ext D=>show q.2.1
  let(o,t):=this;show(U o,h,p.78,no,by rw[z];show t)
theorem K8(p:ExcP X e f C)(k:Vz X.K C):eW X (.builtin mr) (λg H Q=>∃v c b,g=[.ref e,v]/\((∃D,v=.ref D/\c=.ref D)\/∃T,v=.ty T/\c=.type T)/\(f.dict=gt\/∃d u,f.dict=U d/\H d=U u)/\W.kitOne X.K (.ref C) c=U b/\Q (.bl b) H):=by
 rintro h s G H g E Q I r ⟨v,c,b,rfl,i,x,j,q⟩;let(u,t,rfl,y,a):=Iv r;cases (y);let(F,J):=p.inst I x
 let o:t=c:=by
  let(D,rfl,rfl)||(T,rfl,rfl):=i
  ·show a
  ·show a
 subst o;show W.kia_one (To k) I.gq J j (λz=>nomatch z) λl=>(.bl b,H,I.tok l,rfl,q)
def MC(d:SpS)(e:l7)(b:Obj)(t:TA):TE:=λg H Q=>t g H λvs f=>d e b vs f Q
theorem NU(F:QG X.14 X.w X.K X.mg X.39 k f B m sp)(M:RoomS k X.A)(D:X.A.49=U (.ref e))(al:(e,(oe))∈X.pn)(w:Gl X x)(u:X.mg x=U (.ref f))(A:W.keepIn X.K (.ref f)=ii)(E:Binds X.K B m [])
  (P:PA X (a::b) t) (v:iw x:=by decide) (p:iK X a b:=by rfl) (o:(backTo g (starEach b X.21)).any (·.1)=O:=by rfl):
  PE X (.Call (.Name x an) (a::b) [] g) (MC sp e oe t):=by
 intro j s ag H Q I h;show zZ (CP I w u (W.callWith_K I.81 A (eI (P g j s ag H _ I h) λl C (vs,ab,d,r,q)=>(d.gq,?_)) p o) v);let(T,L,R,N,S):=d.pin (e,(oe)) (_);let G:(l++[]).3=m.3:=by rw[zj,←r.3];show F.len _ _ _ _ _ q
 let y:=E C l d.gq G;rw[zj]at y;show wpAny_call (codeAny_mono (F.run X.A X.33 C ab (l,[]) l vs Q e oe M d.iA D T L (λz=>(mem_cons.mp (d.gR e z)).40 R N) S y r q) λr s' i=>?_);cases r with
 |error e=>show False.elim i
 |ok fl=>
  cases fl with
  |ret ar=>show d.after i
  |next=>show False.elim i
  |brk=>show False.elim i
  |cont=>show False.elim i
theorem Tp(a b):MeetsSeq.EqGives (.bool a) (.bool b) (a==b):=λprog w A E s Q h=>SeqAt.EqAt.bool_bool a b prog w E Q h
theorem K9:∀{bs:List Bool}{a},Vals (bs.5 V.bl) a->a=bs.5 Value.bool
 | [],_,.nil=>rfl
 |_::_,_,.cons r t=>by rw[map_cons,←K9 t];cases r;rfl
def V0:V->ly->Hp->VK->Prop:=λx vs H Q=>∃(l:l7)(bs:List Bool)(j:Nat),x=.ref l/\vs=[.bl L]/\H l=U (.lst (bs.5 V.bl))/\bs[j]?=U L/\(∀m,m<j->bs[m]?=U O)/\Q (.int (j:Nat)) H
theorem Rm:MtM X "list.index" V0:=by
 rintro o s T H x vs v f Q I D b ⟨l,bs,j,rfl,rfl,C,p,h,q⟩;cases D;let(u,rfl,E):=b.one;obtain rfl:u=Value.bool L:=E;let(z,J,n,r,N,e):=I.lstM C;let t:=K9 r;subst t;let d:=(z8.mp p).1
 let M:(j:Int)<2^63-1:=by
  let R:sizeLine<2^62:=by decide
  rw[AO]at z
  lia
 show call_meets F.slot_list_index (_,e,Y) F.entry_list_index (F.args_list_index_2 _ _)
  (MeetsSeq.list_index l (bs.5 Value.bool).11 n (.bool L) (λy=>match y with|.bool a=>a==L|_=>O) (λy G=>?_) j (by simpa using d) M ?_ λm S i=>?_) (e,?_)
 ·let(a,_,rfl):=zh.mp (List.mem_toArray.mp G);show Tp a L
 ·have:=(z8.mp p).2;simp[this]
 ·have:=(z8.mp (h m i)).2;simp[this]
 ·show(.int j,H,I.tok _,(_,Y),q)
noncomputable def ki(f:l7)(o:Obj):HO:=.ext λh=>h.13 f=U o
noncomputable def G8(c:l7)(qual:Str):HO:=.ext λh=>h.CodeRec (.ref c) qual
noncomputable def G9(P:Program)(w:World)(g:FG)(mg:SV)(base:Heap)(N:lr)(qual:Str)(scope:Scope)(f:l7)(b:Value)(d:List (Str×l7))(A:Around)(outer:List Env)(s:lG)(H:Hp)(E:XK):Cx where
 prog:=P
 w:=w
 K:=g
 mg:=mg
 base:=base
 A:=A.56 (W.envX qual scope s.4 f b d)
 N:=N
 f9:=s
 g8:=H
 env:=W.envX qual scope s.4 f b d
 outer:=outer
 stack:=W.envX qual scope s.4 f b d::outer
 ex:=[]
 calm:=L
 fn:=λ_=>O
 pn:=[]
 xe:=λe j=>wpAny (model P w) (A.56 (W.envX qual scope s.4 f b d)) (leaving (W.envX qual scope s.4 f b d) e) (λ_ h=>gO P w outer H s E e h) (λi h=>gO P w outer H s E i h) j
structure Jf(N:lr)(scope:Scope)(cl:List (Str×l7))(σ:St)(H:Hp)(h:Heap):Prop where
 inj:∀x y c,cl.8 x=U c->cl.8 y=U c->x=y
 has:∀x,(scope.12 x=U .cell\/scope.12 x=U .free)->∃c,cl.8 x=U c
 cell:∀x c,cl.8 x=U c->(∃v,h.IsCell c v)/\H c=J
 val:∀(i:Nat)x v,N[i]?=U x->σ[i]?=U (U v)->scope.12 x=U .free/\∃u c,RelV v u/\cl.8 x=U c/\h.IsCell c (U u)
 len:σ.3=N.3
theorem bg:Ox (G9 P w i g base N qual scope f b d A h s H E):=(rfl,rfl,rfl)
theorem DS:BS (gO P w) (G9 P w v m base N qual scope f b g A u s H E) E:=by
 rintro a r l j e o I ⟨i,C,h,d,rfl,F,q⟩;show zm (Jd bg I F) (λ_ p G=>(i,C,h,d,Y,G,q)) λ_ _ z=>z
theorem O3(t:scope.kind=.function)(F:A.49=gt)(a:gX P w Q B base A M s H)(C:Jf N scope g T H s.15)(q:l.Ns s.4 S)(D:∀b o,s.9 b=U o->l.13 b=U o):
  Inv (G9 P w Q B base N qual scope f R g A M s H E) [] T H {s with heap:=l,toks:=tk}:=by
 let j:∀b,b∉ (G9 P w Q B base N qual scope f R g A M s H E).ex:=λb z=>absurd (show b∈([])from z) (_);let d:∀{c:l7}{v:Option Value},s.heap.IsCell c v->l.IsCell c v:=λ{c v} m=>by let(o,J,F):=m;show (o,D _ _ J,F)
 show((a.mod,t,Y,Y,zp _,C.inj,C.has,λy c z _=>(_),λ_=>F,Around.frames_deeper a.47,.inr (Y,Y),λb z=>absurd z (j b),a.bs,a.iR,λb _ _=>j b,λb z=>absurd z (j b),a.gz,a.jf),
  rfl,a.73,Un.kept D,(S,q,λi x v l I X=>?_),λy c h=>?_,a.18 (zp _),λy c h=>(C.cell y c h).2,λp G=>absurd (show p∈([])from G) (_),a.eA.75 D,C.61)
 ·let(k,u,c,r,e,z):=C.val i x v l I;show(u,r,.inr (.inr k,c,e,d z))
 ·let((v,z),_):=C.cell y c h
  grind
theorem Tq(G:eB k A)(r:gX P w ag X base A y s H)(C:Jf N scope g B H s.15)
  (T:s.9 f=gl (W.kla_obj ab qual params v scope g pm F p)) (t:s.heap.CodeRec (.ref F) qual) (i:bindArgs (W.kla_fn ab qual params v scope g pm (.ref F) p) ([],[])=pure [])
  (D:scope.isCoroutine=im) (j:scope.isGenerator=im) (I:scope.kind=.function) (a:∀x∈scope.54,x.2≠ .cell)
  (M:PE (G9 P w ag X base N qual scope f (.ref F) g A y s H E) v tb) (h:tb B H Q):codeAny (model P w) A (.call (.ref f) ([],[])) (CR (gO P w) y P w H s Q E) s:=by
 apply W.kla_callFunE G.depth T rfl D j rfl t;rw[i];show zn (wpAny_newFunctionEnv a (λar R=>nomatch R) (λal u l=>((r.mod.nolimit.79 λb o e=>(r.bs b o e).1).fresh _ l,?_)) I);let d:=λb o e=>l.extBut b o (zu (lt_size e)) (zT _ e);show W.kla_codeExpr (zm (M [] _ B H Q (O3 (tk:=s.62+([]:List (Str×Value)).3) I G.hd r C u d) h) (λan S m=>by let(x,O,J,U,q):=m;show (x,O,J.os,J.73,J.39,J.eA,U,q)) λe S z=>z)
theorem Inv.cells(I:Inv X f g H s)(C:Jf N scope b a X.g8 X.f9.15)(d:∀x c,b.8 x=U c->c∉ X.fs)(p:X.ex=[]):Jf N scope b a H s.15:=by
 let kp:∀x c v,b.8 x=U c->X.f9.heap.IsCell c v->s.heap.IsCell c v:=λx c v e (o,h,l)=>(o,I.base.34 c o h (C.cell x c e).2 (d x c e) (_),l);show(C.inj,C.has,λx c e=>?_,λi x v q j=>?_,C.61)
 ·let((v,z),n):=C.cell x c e;let(o,h,_):=id z;show((v,kp x c v e z),I.base.free c o h n (_))
 ·let(k,u,c,r,e,z):=C.val i x v q j
  grind
def NV(i:Nat)(f b:l7)(qual:Str)(o:Obj)(g:St)(d:TE):TE:=λh H Q=>h[i]?=U (U (.ref f))/\H f=U (ki f o)/\H b=U (G8 b qual)/\d g H Q
theorem O4             
  (w:X.N[i]?=U x) (p:Vis X.28 x) (z:eB k X.A) (C:Jf m scope b ag X.g8 X.f9.15) (t:∀x c,b.8 x=U c->c∉ X.fs) (D:X.ex=[]) (q:BS (gO X.14 X.w) X E)
  (h:bindArgs (W.kla_fn A qual params g scope b B (.ref G) an) ([],[])=pure [])
  (F:scope.isCoroutine=O) (l:scope.isGenerator=O) (y:scope.kind=.function) (d:∀x∈scope.54,x.2≠ .cell)
  (T:∀s H,PE (G9 X.14 X.w X.K X.mg X.39 m qual scope f (.ref G) b X.A X.33 s H E) g tb) (hd:iw x:=by decide) (ar:(x==(qh:Str))=O:=by decide):
  PE X (.Call (.Name x az) [] [] aC) (NV i f G qual (W.kla_obj A qual params g scope b B G an) ag tb):=by
 rintro a s N H as I ⟨ab,R,h3,h4⟩;show zZ (eI (Sj w p hd ar a s N H (λv Q=>v=.ref f/\Q=H) I (_,ab,rfl,rfl)) λu P al=>?_);let(v,M,j,r,ev,eH):=al;subst ev eH;obtain rfl:u=Value.ref f:=r;let(J,_,_):=j.eA _ _ R;let(S,_,_):=j.eA _ _ h3;show callWith_meth0 rfl J (wpAny_call (codeAny_mono (Tq z j.iA (j.cells C t D) J S h F l y d (T P M) h4) λr s' o=>?_));cases r with
 |error e=>show q a N M P e s' j o
 |ok fl=>
  cases fl with
  |ret u=>show j.after o
  |next=>show False.elim o
  |brk=>show False.elim o
  |cont=>show False.elim o
theorem eP.at{H}{s}{P}{w}{x}{g}{p}{base}{N}{R}{u}{qual}{st}{f}{B}{j}{k}{A}{outer}{d}{vs}{Q}{E}(F:eP g x qual st f B)(S:AH N j (defScope st))(M:vs.3=j.3)
  (C:eB (k+1) A) (h:gX P w g R base A outer s H) (T:BindsTo s B d (j.zip p)) (r:Vals vs p)
  (e:∀a,eB k (A.56 (envOfC qual (defScope st) s.4 f a))->∃t,hA (B9 u P w g R base N qual (defScope st) f a A outer s H E) (defBody st) t/\t {nx:=λ_ i=>Q .eJ i,rt:=Q} (start N vs) H):
  codeAny (model P w) A (.call (.ref f) d) (CR u outer P w H s Q E) s:=by
 let(oc,od,kV,as,pm,an,a,ct,ar,rfl,lk,l):=F.ex;let G:=h.mod.iL.79 λb o z=>(h.bs b o z).1
 let hk:∀y∈j.zip p,(defScope st).12 y.1=U .local\/((defScope st).12 y.1=U .cell/\((cellsFrom (s.4+1) (defScope st).54 []).8 y.1).26=ii):=λ(n,v) ab=>by
  let q||q:=S.par n (of_mem_zip ab).1
  ·ext
  ·show .inr (q,W.cellsFrom_some _ _ _ (.inl q))
 show codeAny_call_function C.depth (G _ _ lk) rfl S.co S.gen rfl (W.codeRec_of G l) (T _ _ _ _ (wpAny_newFunctionEnv_cells S.kind hk λaz ag al x=>?_));subst ag;show((h.mod.nolimit.79 λb o z=>(h.bs b o z).1).79 x.toInCall.34,codeAny_func ?_);let(t,ht,I):=e a (C.56 _);show zm (ht [] al (start N vs) H _ (Hs S C.hd h M r x) I) (λfl s' z=>?_) λ_ _ z=>z;cases fl with
 |ret aC=>
  let(v,D,i,J,X,q):=z;show(v,i,J.os,J.73,J.39,J.eA,X,q)
 |next=>
  let(D,i,J,q):=z;show(.eJ,i,J.os,J.73,J.39,J.eA,zd,q)
 |brk=>
  let(_,_,_,q):=z;show q.40
 |cont=>
  let(_,_,_,q):=z;show q.40
theorem JD{d:PySem.Pos}{q}(e:(q.68==d.68&&q.col==d.col)=O)(l)(h:TriplesOk l):codeAmong q (l++[rawInt d.68,rawInt d.col,c])=codeAmong q l:=by
 fun_induction TriplesOk l with
 |case1=>
  have:(d.68==(q.68:Int)&&d.col==(q.col:Int))=O:=by
   rw[Bool.and_eq_false_iff]at e ⊢;let z||z:=e
   ·grind
   ·grind
  simp[codeAmong,rawInt,this]
 |case2 a t b u x i p=>
  simp[List.cons_append,codeAmong]
  ext
 |case3 l o j=>trivial
def eV(H:Hp)(b:l7)(qual:Str)(d:List Pos):Prop:=∃f,H b=U (.hZ f)/\TriplesOk f.37/\∀q∈d,codeAmong q f.37=J\/∃g,codeAmong q f.37=U (.ref g)/\H g=U (G8 g qual)
def LA(f:l7)(H d:Hp):Prop:=∀b u,b≠f->H b=U u->d b=U u
structure X2(X:Cx)(c P0:l7):Prop where
 code:X.env.code=.ref c
 hd:W.CodeHd X.39 c P0
 bu:X.base.48 X.mg P0
def bh(b:l7)(qual:Str)(d:List Pos)(o:l7->Value->Obj):TE:=λj H Q=>eV H b qual d/\∀f h i g,H f=J->LA b H g->eV g b qual d->g f=U (ki f (o h i))->g h=U (G8 h qual)->Q (.ref f) g
theorem V1(r:h.CodeRec (.ref d) qual):fY P w H h d (G8 d qual):=by
 let(p,z,vs,t,e,l,y,x):=id r;cases e;show(r,(_,l),λu v m k=>by let(q,j,o,t2,i,a,b):=m;cases i;show(_,j,o,t2,Y,k _ a,b))
theorem XJ(r:h.13 f=U o):fY P w H h f (ki f o):=(r,(_,r),λe d a k=>k _ a)
theorem X3(p:X2 X c f)(hm:a∈ls)(er:∀q∈ls,q=a\/(q.68==a.68&&q.col==a.col)=im)
  (ar:closureFor scope X.21=pure m) (x:defaultsOf params X.21=([],([]))):
  PE X (.Lambda params g scope a) (bh f (X.42 ++ lP) ls (λh d=>W.kla_obj lP (X.42 ++ lP) params g scope m ((X.mg mY).45 .none) h d)):=by
 rintro db s a8 H a7 I ⟨⟨v,hP,ht,M⟩,k⟩;let bk:=λb o e=>(I.bs b o e).1;let al:s.9 f=U (W.tabObj v):=I.eA _ _ hP;let ab:=I.ok.mod.glob.79 bk
 let a0:mainGlobals≠f:=λq=>by
  let(o,es,ep,e,_):=I.ok.mod.glob
  ext
 let C:=p.hd.79 bk
 let B:s.heap.48 X.mg f:=by
  let(bm,o,a1,a2,a3,a4,a5,a6):=p.bu;show(bm,o,a1,a2,a3,a4,bk _ _ a5,a6)
 apply W.kla_eval x;let hn||(h,hf,jw):=M a hm
 ·show W.kla_makeFunction ar I.ok.glob ab p.code C al ht hn a0 B λh d j T hx F S az D=>?_;let kp:∀b o,b≠f->s.9 b=U o->(j.74 (W.kla_obj lP (X.42 ++ lP) params g scope m ((X.mg mY).45 .none) h d)).13 b=U o:=λb o n e=>zT _ (hx b o n e);let lt:∀b u,H b=U u->b<s.4:=λb u e=>I.eA.lt e;let an:=Nat.le_trans F (Nat.le_of_lt S);let aM:h≠f:=λz=>by grind
  let aR:=zu S;generalize i:upd (upd (upd H f (.hZ (v++#[rawInt a.68,rawInt a.col,.ref h]))) h (G8 h (X.42 ++ lP))) j.10 (ki j.10 (W.kla_obj lP (X.42 ++ lP) params g scope m ((X.mg mY).45 .none) h d))=r
  let ag:∀b,b<s.4->b≠f->r b=H b:=λb A n=>by
   rw[←i,AE (zu (zX A an)),AE (zu (zX A F)),AE n]
  let N:r f=U (.hZ (v++#[rawInt a.68,rawInt a.col,.ref h])):=by rw[←i,AE (Ne.symm (λz=>by grind)),AE (Ne.symm aM),dG]
  let l:r h=U (G8 h (X.42 ++ lP)):=by rw[←i,AE aR,dG]
  let E:r j.10=U (ki j.10 (W.kla_obj lP (X.42 ++ lP) params g scope m ((X.mg mY).45 .none) h d)):=by rw[←i,dG]
  let aC:∀b u,H b=U u->(∀qs,u≠ .hZ qs)->b≠f:=λb u e n z=>by grind
  let un:Un X.fs [] H r s.15 (j.74 (W.kla_obj lP (X.42 ++ lP) params g scope m ((X.mg mY).45 .none) h d)):=by
   let Q:∀b,H b=gt->b≠f:=λb n z=>by ext
   show(λb o q n _ _=>kp b o (Q b n) q,λb o q n _ _=>(o.slots,kp b o (Q b n) q),λb o q n _=>by rw[ag b (lt_size q) (Q b n)];show n,λb o q _=>?_,λb xs e=>?_,λb o u e=>?_,λb qs e=>?_)
   ·by_cases z:b=f
    ·subst z;show(_,zT _ D)
    ext
   ·ext
   ·ext
   ·by_cases z:b=f
    ·grind
    ext
  let eA:gG X.14 X.w r (j.74 (W.kla_obj lP (X.42 ++ lP) params g scope m ((X.mg mY).45 .none) h d)):=λb u e=>by
   by_cases z1:b=j.10
   ·subst z1;rw[E]at e;cases e;show XJ (zJ _ Y)
   by_cases z2:b=h
   ·subst z2;rw[l]at e;cases e;let(c1,oc,vs,t,ec,ho,hd):=az;show V1 (c1,oc,vs,t,ec,zT _ ho,hd)
   by_cases z3:b=f
   ·subst z3;rw[N]at e;cases e;show zT _ D
   ·show(I.eA b u (by rwa[←i,AE z1,AE z2,AE z3]at e)).ie (λP o A q=>kp P o ?_ q) (λP q=>?_) λP xs q=>?_
    ·grind
    ·ext
    ext
  let w:=I.un (t':=T) un eA;show(.ref j.10,r,w,Y,k _ h d r (I.18 an) (λb u n e=>by ext) (_,N,?_,λq y=>?_) E l)
  ·rw[Array.toList_append];show TriplesOk_snoc _ _ _ _ ht
  ·rw[Array.toList_append];let z||z:=er q y
   ·subst z;show .inr (h,codeAmong_snoc _ ht hn,l)
   ·rw[JD z _ ht];let as||(c2,y1,y2):=M q y
    ·ext
    ·show .inr (c2,y1,by rw[ag c2 (lt _ _ y2) (aC c2 _ y2 λ_ as=>nomatch as)];show y2)
 ·show W.kla_makeFunctionHit ar I.ok.glob ab p.code C al ht hf B λd j T hk G=>?_;let w:=I.laid (t':=T) (o:=ki j.10 (W.kla_obj lP (X.42 ++ lP) params g scope m ((X.mg mY).45 .none) h d)) (λb o e=>zT _ (hk b o e)) G (XJ (zJ _ rfl));let fr:=I.18 G
  let R:∀b u,H b=U u->upd H j.10 (ki j.10 (W.kla_obj lP (X.42 ++ lP) params g scope m ((X.mg mY).45 .none) h d)) b=U u:=λb u e=>by
   rwa[AE (AK e fr)]
  show(.ref j.10,_,w,Y,k _ h d _ fr (λb u _ e=>R b u e) (v,R _ _ hP,ht,λq y=>?_) dG (R _ _ jw))
  grind
theorem eP.jR{P}{w}{x}{B}{base}{N}{D}{qual}{st}{f}{C}{e}{k}{g}(F:eP B x qual st f C)(S:AH N e (defScope st))(len:∀vs H Q E,g vs H Q E->vs.3=e.3)
  (d:∀a A b s H vs Q E,eB k (A.56 (envOfC qual (defScope st) s.4 f a))->g vs H Q E ->
   ∃t,hA (B9 (gO P w) P w B D base N qual (defScope st) f a A b s H E) (defBody st) t/\t {nx:=λ_ p=>Q .eJ p,rt:=Q} (start N vs) H):AT P w B D base (gO P w) (k+1) f C e g:=by
 let(z,u,kV,l,r,v,a,y,j,rfl,q,i):=F.ex;show P4 q i S len λA b s H vs Q E o h=>d a A b s H vs Q E o h
structure BdX(P:Program)(w:World)(K:FG)(mg:SV)(base:Heap)(f:l7)(qual:Str)(st:Stmt)(N ps:lr)(k:Nat)(vs:ly)(H:Hp)(Q:VK)(E:XK):Prop where
 len:vs.3=ps.3
 ok:∀dc A outer s,eB k (A.56 (envOfC qual (defScope st) s.4 f dc)) ->
  ∃t,hA (B9 (gO P w) P w K mg base N qual (defScope st) f dc A outer s H E) (defBody st) t/\t {nx:=λ_ H'=>Q .eJ H',rt:=Q} (start N vs) H
theorem eP.n{P}{w}{x}{b}{base}{N}{g}{qual}{st}{f}{d}{a}{k}{sp}(F:eP b x qual st f d)(S:AH N a (defScope st))(h:∀vs H Q E,sp vs H Q E->BdX P w b g base f qual st N a k vs H Q E):
  AT P w b g base (gO P w) (k+1) f d a sp:=F.jR S (λvs H Q E q=>(h vs H Q E q).61) λc A o s H vs Q E r q=>(h vs H Q E q).ok c A o s r
structure FunD(K:FG)(x qual:Str)(st:Stmt)(f:l7)(fd:FuncData):Prop where
 ex:∃(oc:Value)(od:Option l7)(dV kV doc pm:Value)(an:Option l7)(dc ct:Value)(kB:Array (Option Value)),
  fd=W.fnOf x qual (defArgs st) (defBody st) (defScope st) dV kV doc pm an dc ct/\K.8 f=U (oc,od,.func fd,kB)/\W.codeIn K dc qual=L
theorem FunD.ok{P}{w}{x}{m}{base}{N}{I}{qual}{st}{f}{B}{i}{k}{g}(F:FunD m x qual st f B)(S:AH N i (defScope st))(len:∀vs H Q E,g vs H Q E->vs.3=i.3)
  (d:∀a A b s H vs Q E,eB k (A.56 (envOfC qual (defScope st) s.4 f a))->g vs H Q E ->
   ∃t,hA (B9 eK P w m I base N qual (defScope st) f a A b s H E).jv (defBody st) t/\t {nx:=λ_ l=>Q .eJ l,rt:=Q} (start N vs) H):AT P w m I base eK (k+1) f B i g:=by
 let(G,y,z,kV,r,v,D,a,C,p,rfl,u,e):=F.ex;show P4 u e S len λA b s H vs Q E o j=>?_;let(t,h,q):=d a A b s H vs Q E o j;show(t,h.jv,q)
end
end L2
namespace L2
open PySem PySem.Spec PyProof.Rows Builtin Builtin.ObjectAttr
noncomputable def Jg(C M:l7):lx:=[.ref C,.ref M,.type lY,.type "Exception",.type m6,.type nI]
theorem V2(X:A.In s.15)(E:s.9 x=U l)(r:l.78=.ref C)(D:l.dict=J)(Q:l.38=.fields vs)(m:W.clsIn A C=U g)(a:g.mro=Jg C an)(ag:g.hasDict=ii)(M:W.findIn A (.ref C) f=U J)
  (h:∀(d:Heap)B,d.13 x=U {l with dict:=U s.4}->d.Ns1 s.4 (λy=>if y=f then U v else J)->(∀b o,b≠x->s.9 b=U o->d.13 b=U o)->R (.ok (.ret .none)) {s with heap:=d,toks:=B}):
  codeAny (model prog w) al (.call (.builtin mn) ([.ref x,.str f z,v],[])) R s:=by
 let u:=store_object;let I:W.InstAt s.15 x l C J:=(E,r,by unfold W.notCls;rw[Q],by rw[D];trivial);let ne:g.mro.isEmpty=im:=by rw[a];rfl
 show codeAny_call_builtin u.slot.plain u.entry (@W.check_slot (model prog w) _ _ s mn nI nU (.ref x) [.str f z,v] [] _ u.kind u.split (I.type.andThen (W.looks_mroIn X (by unfold W.mroIn;rw[m,Option.bind_some,a];rfl))) (u.args (.ref x) (.str f z) v) ?_);let hm:W.Looks (model prog w) s.15 (mroOf (.ref C)) g.mro:=(W.looks_clsIn X m).andThen .now;let T:W.Looks (model prog w) s.15 (storeTaker? J) J:=.now;rw[W.osa_eq];show zo (zo (I.type.here (zo (hm.here ?_))));rw[a];show zn (zo (I.type.here (zo ((W.looks_findIn X M).here (zo (T.here ?_))))));let(oc,odi,Y,Z):=l;subst r D Q;show zo (zn (zo (zo (wpAny_loadPart E (zo ((W.looks_clsIn X m).here ?_))))));rw[ag];let i:(s.23 {cls:=.type mH,data:=.dict #[]}).13 x=U _:=zT _ E;let q:=zu (lt_size E);let(j,az,as,t,os):=s;show zo (wpAny_alloc' (zo (wpAny_update' i ?_)));apply zn
 let F:((j.74 {cls:=.type mH,data:=.dict #[]}).65 x λo=>{cls:=o.78,dict:=U j.10,data:=o.38,slots:=o.slots}).13 j.10=U {cls:=.type mH,data:=.dict #[]}:=
  (Heap.get?_update_ne _ _ _ _ q.35).7 (Heap.get?_push_at rfl rfl)
 let G:((j.74 {cls:=.type mH,data:=.dict #[]}).65 x λo=>{cls:=o.78,dict:=U j.10,data:=o.38,slots:=o.slots}).Ns j.10 (λ_=>J):=
  (_,#[],_,F,rfl,λe ab=>absurd ab (_),λ_=>rfl)
 show zo (zn (zo (wpAny_nsSet1 (Heap.Ns1.of_empty G) λd p S=>?_)));let(oD,ar,epD,hoD,N,hcD):=p.count (Within.cons f v Within.nil);show zo (wpAny_lookBehind hoD (by rw[N];show pastItsLine_dict (_)) ?_)
 wp_walk
 show h d _ ((S.2 x q).7 (zQ _ i zd)) p λb ob H P=>(S.2 b (zu (lt_size P))).7 ((Heap.get?_update_ne _ _ _ _ H).7 (zT _ P))
theorem V3(X:g.In s.15)(r:s.9 x=U l)(i:l.78=.ref C)(e:l.dict=J)(q:l.38=.fields vs)(u:W.clsIn g C=U m)(j:m.mro=Jg C M)(p:m.hasDict=L)(t:W.findIn g (.ref C) z=U J)
  (B:W.findIn g (.ref C) nU=U (U (.builtin mn)))
  (h:∀(f:Heap)d,f.13 x=U {l with dict:=U s.4}->f.Ns1 s.4 (λy=>if y=z then U v else J)->(∀b o,b≠x->s.9 b=U o->f.13 b=U o)->Q Unit.unit {s with heap:=f,toks:=d}):
  wpAny (model prog w) A (setAttr (.ref x) z v) Q E s:=by
 let I:W.InstAt s.15 x l C J:=(r,i,by unfold W.notCls;rw[q],by rw[e];trivial);show W.set_plain X I B (V2 X r i e q u j p t λf d a b c=>h f d a b c)
end L2
namespace L2
open PySem PySem.Spec PyProof.Rows
mutual
structure NX(K:FG)(C M:l7)(f:Str):Prop where
 cls:∃b,W.clsIn K C=U b/\b.mro=Jg C M/\b.hasDict=L
 nf:W.findIn K (.ref C) f=U J
 sa:W.findIn K (.ref C) nU=U (U (.builtin mn))
def ZL(h:FG)(M:l7)(b g:TE)(f:Str):TS:=λD j H=>g j H λy l=>b j l λx i=>∃e C,x=.ref e/\i e=U (Fl e C J)/\NX h C M f /\
 ∀d,i d=J->d≠e->D.nx j (upd (upd i e (Fl e C (U d))) d (.xd [(f,(y))]))
theorem QJ(ha:PE X o ta)(hv:PE X g tv)(hs:swapsWith g (U (.Attribute o f az)) as.68 X.21=pure im):PS X (.Assign [.Attribute o f az] g as) (ZL X.K M ta tv f):=by
 intro l aM r H a0 I ar;show plainObj_wpAny_Assign_Attribute (eI (hv l aM r H _ I ar) λu s1 (y,P,I1,ry,q)=>eI (ha l s1 r P _ I1 q) λov j (x,p,t,rx,e,C,ex,s,S,q2)=>?_) hs;subst ex;obtain rfl:ov=Value.ref e:=rx;let((D,vs,a1,a2,a3,a4,a5,a6,a7),_,_):=t.eA _ _ s;let(cd,hc,hm,hd):=S.78;show V3 t.gq a1 a2 a3 a4 hc hm hd S.nf S.sa λA N B hn R=>?_;let v:=Nat.ne_of_gt (lt_size a1);generalize d:upd (upd p e (Fl e C (U j.4))) j.4 (.xd [(f,(y))])=h;let lt:∀b u,p b=U u->b<j.4:=λb u z=>t.eA.lt z;let Q:∀b,b<j.4->b≠e->h b=p b:=λb F n=>by rw[←d,AE (zu F),AE n]
 let ab:h e=U (Fl e C (U j.4)):=by rw[←d,AE (Ne.symm v),dG]
 let ag:h j.4=U (.xd [(f,(y))]):=by rw[←d,dG]
 let next:∀b u,p b=U u->(∀aR,u≠ .ext aR)->b≠e:=λb u z n w=>by subst w;rw[s]at z;cases z;show n _ rfl
 let G:∀b,p b=gt->b≠e:=λb z w=>by ext
 let un:Un X.fs [] p h j.15 A:=by
  show(λb i z n _ _=>R b i (G b n) z,λb i z n _ _=>(i.slots,R b i (G b n) z),λb i z n _=>by rw[Q b (lt_size z) (G b n)];show n,λb i z _=>?_,λb xs z=>?_,λb i w z=>?_,λb ps z=>(#[],?_))
  ·grind
  ·ext
  ·ext
  ·ext
 let al:gG X.14 X.w h A:=λb w z=>by
  by_cases F:b=j.4
  ·subst F;rw[ag]at z;cases z;show(_,hn,λan=>?_);by_cases m:an=f
   ·subst m;simp;show ry
   ·simp[zg m,zq,beq_eq_false_iff_ne.53 m];trivial
  by_cases E:b=e
  ·subst E;rw[ab]at z;cases z;show((_,vs,B,a2,zd,a4,a5,a6,a7),(_,B),λh1 h2 (D,vs,a,aC) k=>(D,vs,k _ a,aC))
  ·show(t.eA b w (by rwa[←d,AE F,AE E]at z)).ie (λT i a8 q=>R T i ?_ q) (λT q=>?_) λT xs q=>?_
   ·grind
   ·ext
   ext
 let q3:=q2 j.4 (t.18 (zp _)) v;rw[d]at q3;show(r,h,t.un (t':=N) un al,q3)
theorem Jh(M:Gl X x)(A:X.mg x=U (.ref C))(B:W.specialIn X.K (.ref C) nA=U (U (.builtin oH)))(l:W.readsIn X.K C z=L)(D:W.findCls X.K (.ref C) z m=U (.val (.ref f)))
  (F:AT X.14 X.w X.K X.mg X.39 w k f T ps sp) (G:eB k X.A) (N:W.keepIn X.K (.ref f)=L) (u:Binds X.K T ps Q) (P:Vals i Q) (v:BS w X E) (S:PA X (e::g) t) (j:iw x:=by decide)
  (y:iK X e g:=by rfl) (d:(backTo b (starEach g X.21)).any (·.1)=O:=by rfl)
  (ht:eval (.Call (.Attribute (.Name x np) m s) (e::g) [] b) X.21=(do
   let o ←eval (.Name x np) X.21
   standAt s.atName
   let (f,first) ←holding [o] (getMethod o m pl)
   callWith b f first (backTo b (starEach (e::g) X.21)) (backToKw b (keywordEach [] X.21))):=by rfl):
  PE X (.Call (.Attribute (.Name x np) m s) (e::g) [] b) (M6 sp i E t):=by
 intro a ar R H ab I h;show W.methodCall_KW (CP I M A ?_ j) ht;show W.method_cls I.gq B (W.cls_value I.gq l D Y (W.callWith_K I.81 N (eI (S b a _ R H _ (I.tok _) h) λag al (vs,an,p,r,q)=>(p.gq,?_)) y d));show Lk F G u P v p r q
def ZM(c:Str)(b:TE):TE:=λf H Q=>b f H λx d=>((∃i,x=.int i/\i.69<1920)\/(∃z,x=.str z/\z.3<=1000)\/x=.eJ)/\∀z,Q (.str z) d
theorem A3(a b:Str):(a++b).3=a.3+b.3:=strLen_append a b
theorem QK(C:c.3<=1000)(p:PE X e b):PE X (.JoinedStr [.Constant (.str c) G E,.FormattedValue e (-1) gt f] g) (ZM c b):=by
 intro d s y H Q I h;show JoinedStr_many (joinParts_cons (Calls.Constant_str ?_));let v:(Str.empty++c).3<=1000:=by rw[A3];change 0+c.3<=1000;lia
 let sz:3000<=sizeLine:=by decide
 show(Nat.le_trans v (Nat.le_trans qc sz),joinParts_cons (wpAny_FormattedValue_plain (eI (p d _ y H _ (I.tok _) h) λu F w=>?_)));let(x,l,j,r,q,k):=w;let(i,rfl,o)||(z,rfl,J)||rfl:=q
 ·let(t,rfl):=r;apply PySem.wpAny_formatField_int o;let D:(Str.ofString (toString i)).3<=1921:=by rw[PySem.ofString_length];show int_text_length_le qc o
  let a:((Str.empty++c)++Str.ofString (toString i)).3<=sizeLine:=by
   rw[A3]
   lia
  show(a,joinParts_nil (.str _,l,(j.tok _).tok _,(_,Y),k _) a)
 ·let(t,rfl):=r
  let a:((Str.empty++c)++z).3<=sizeLine:=by
   rw[A3]
   lia
  show PySem.wpAny_formatField_str (a,joinParts_nil (.str _,l,j.tok _,(_,Y),k _) a) (a,joinParts_nil (.str _,l,(j.tok _).tok _,(_,Y),k _) a) ()
 ·obtain rfl:u=Value.none:=r
  let a:((Str.empty++c)++("None")).3<=sizeLine:=by
   have:("None":Str).3=4:=by decide +kernel
   rw[A3]
   lia
  show PySem.wpAny_formatField_none (a,joinParts_nil (.str _,l,(j.tok _).tok _,(_,Y),k _) a)
structure ZN(K:FG)(C:l7)(f:Str):Prop where
 hg:GH K C
 hh:W.hasDictIn K C=L
 ha:W.findIn K (.ref C) f=U J
def Ts(e:l7)(b:Obj)(f:Str)(g:TE):TE:=λi H Q=>g i H λx h=>∃d fs v,x=.ref e/\b.dict=U d/\h d=U (.xd fs)/\fs.8 f=U v/\Q v h
theorem V4(p:ExcP X e b C)(g:ZN X.K C f)(G:PE X o m)(z:attributeBase o f X.21 (eval o X.21)=eval o X.21):PE X (.Attribute o f A) (Ts e b f m):=by
 intro a s T H Q I h;show P3 z (eI (G a s T H _ I h) λu B k=>?_);let(x,S,j,J,d,fs,v,L,R,D,l,q):=k;subst L;obtain rfl:u=Value.ref e:=J;let(Y,M,r):=j.eA _ _ D;let(U,N,F):=Kl M;let(w,E,i):=gF.some_of (by rw[←l];show r f);let t:=(j.pin (e,(b)) (zL _ p.at_)).1;let(vs,y):=p.fld;show Tn g.hg j.gq ((t,p.78,by unfold W.notCls;rw[y],by rw[R];show N)) (W.findObj_own g.hh g.ha zd (by rw[F,E])) (Km i) (v,S,j.tok _,i,q)
structure gJ(X:Cx)(e:Expr)(t:TE):Prop where
 h:PE X e t
structure iN(X:Cx)(es:List Expr)(t:TA):Prop where
 h:PA X es t
theorem HA:iN X [] Ce:=⟨AG⟩
theorem ZO(h:iN X b t):iN X (.Constant .none j d::b) (An (tC .eJ) t):=⟨AA C6 h.h⟩
theorem bi(h:iN X d t):iN X (.Constant (.bool b) j f::d) (An (tC (.bl b)) t):=⟨AA Cf h.h⟩
theorem ZP(h:iN X d t):iN X (.Constant (.int b) j f::d) (An (tC (.int b)) t):=⟨AA AF h.h⟩
theorem LB(h:iN X b t):iN X (.Constant (.str x) j d::b) (An (tC (.str x)) t):=⟨AA AL h.h⟩
theorem ZQ(a:gJ X (.List l p) d)(h:iN X b t):iN X (.List l p::b) (An d t):=⟨AA a.h h.h⟩
theorem ZR(a:gJ X (.Tuple l k p) d)(h:iN X b t):iN X (.Tuple l k p::b) (An d t):=⟨AA a.h h.h⟩
theorem Tt(h:iN X b t):gJ X (.List b p) (Vc t):=⟨A4 h.h⟩
theorem V5(h:iN X b t):gJ X (.Tuple b k p) (S5 t):=⟨AZ h.h⟩
structure PSw(X:Cx)(st:Stmt)(t:TS):Prop where
 h:PS X st t
structure il(X:Cx)(st:List Stmt)(t:TS):Prop where
 h:hA X st t
structure PIw(X:Cx)(tg e:Expr)(t:TI):Prop where
 h:PI X tg e t
theorem ID:il X [] Sm:=⟨AM⟩
theorem DU{X}{u}{st}{d}{t}(a:PSw X st t)(b:il X d u):il X (st::d) (Xf t u):=⟨AC a.h b.h⟩
theorem Di{X}{st}{t}(a:PSw X st t):il X [st] t:=⟨AB a.h⟩
theorem X4(h:gJ X l a):PIw X b l (Ss X.K a):=⟨BG h.h⟩
theorem Tu(d:PassesOwn (model X.14 X.w) X.A X.21 X.xe)(e:X.calm=L)(i:PIw X b iter j)(a:PG X b g)(h:il X f m)
  (l:∀x,foldedSetIterable iter X.21 x=pure x:=by intro _;rfl):PSw X (.For b iter f [] o) (Y5 j g m):=⟨Cl d e i.h a h.h l⟩
theorem Ro(b:LK)(k)(v):b.3<=(Bp b k v).3:=by
 unfold Bp;split
 ·rw[AO];show zp _
 ·rw[zY];lia
noncomputable abbrev ZS(d b:Expr)(D:l7)(env:Env):Sem Unit:=do
 let f ←eval d env
 let g ←holding [f] (eval b env)
 standAt {d.pos with endLine:=b.pos.endLine,endCol:=b.pos.endCol}
 holding [f,g] (dictSet D f g)
noncomputable abbrev hoD(_:l7)(b:LK):HO:=.dK b
def RAd(P:Program)(w:World)(h:Heap)(D:l7)(b:LK):Prop:=∃vs,KV b vs/\h.DictOf (Ab P w) D vs
abbrev taD(d b:TE):TAd (LK):=λj f H N=>d f H λi g=>b f g λy h=>∃k,i=kV k/\N (Bp j k y) h
abbrev Tv(f:TI)(g:TG)(tt:TT)(d b:TE):=Hy [] iU f g tt (taD d b)
theorem LC:RV P w (.DictComp f u [(g,iter,b,0)] scope B) newDict g iter b (ZS f u) [] iU hoD (RAd P w) where
 cl:=rfl
 new:=({cls:=.type mH,data:=.dict #[]},rfl,(λv z=>nomatch z),λh D e=>([],.nil,_,#[],0,e,(rfl,rfl,rfl),rfl,λ_ p=>by simp at p,Pairs.nil,nodup_nil),λA Q E s h=>wpAny_newObj_type h)
 turn:=λA o D i=>(rfl,rfl)
 start:=λA R s o D i l j=>codeAny_compStart_dict l j
 at_:=λh y D a k q=>by let(vs,r,d):=k;show (vs,r,d.at q)
 fin:=λH h D a x t m=>by let(vs,r,d):=m;show Hw x t r d
theorem NY(f:PE X g o)(S:PE X u m):PAd X (ZS g u) iU (RAd X.14 X.w) (taD o m):=by
 intro D Q ys h s x H N I a ⟨vs,F,B⟩ A q
 let l:∀{d:St}{C:Hp}{t:lG},Inv X ([(D,(Q))]++h) d C t->t.heap.DictOf (Ab X.14 X.w) D vs:=λ{d C t}v=>B.at λag e=>by
  rw[I.iE.1]at e;cases e;show v.iE.1
 show zo (eI (f _ s x H _ I q) λyk P w=>?_);let(zk,H8,M,rk,R):=w;show zo (zG (eI (S _ P x H8 _ M R) λar s9 k=>?_));let(z,H9,J,T,G,ek,E):=k;subst ek;show zo (zF ?_);let hz:=A _ _ E
 let ab:vs.3<=sizeLine:=by
  let h1:=Ro ys G z;rw[←F.length]
  lia
 show zG (wpAny_dictSet_pairs (E4 rk) (l J) λh2 i p=>?_);let(j,es2,ep2,q,Y,r,al):=id i;show(j,_,H9,J.reD a (λb y=>p.2 b y) q (λan z=>by rw[r]at z;cases z),(_,F.put G T,i),E)
noncomputable def Itk(a:l7)(o:Obj)(b:LK):It:=(λi H=>H a=U (.gj o (.dK b))/\i<b.3,λi H x f=>f=H/\∃d,b[i]?=U d/\x=kV d.1,λi H=>H a=U (.gj o (.dK b))/\b.3<=i)
theorem Rq(a q)(o)(f):
  Mx P ag al tg (Itk a o f) [q] q (λi h=>h.IsKeyIter q a i f.3 (Vo o)) where
 mem:=by simp
 obj:=λi h st b p=>by
  let e:b=q:=by simpa using p
  subst e;let(M,e,c,d):=st;show(M,e,λv z=>by ext)
 keep:=λi h m st k=>by
  let(M,e,r):=st;show(M,k q (_) _ e,r)
 item:=by
  intro X g N S w i x s ab H E I G st T;subst g N S;let(t,hi):=T;let(z,y,vs,l,R):=D1 I t;let j:=l.3;let(F,D):∃F,f[i]?=gl F:=(_,z7 hi);let(v,hv,rv):=KV.get l D;let(J,Y,f2,Z,U,O):=G q (_);rw[j]at st;show wpAny_pyNext_dict_item st R hv λQ m u C B=>?_;let(o',e',c',d'):=id C;show(Q,zd,My e' c' d' qc (kV F.1,H,I.64 (t':=s.62) (λb o p e=>(B.2 b p).7 e) J Y Z U O,EI u,(zd,F,D,zd),by rw[j];show C,λb p=>(G b p).1))
 done:=by
  intro X g N S w i x s ab H E I G st T;subst g N S;let(t,hi):=T;let(z,y,vs,l,R):=D1 I t;let j:=l.3;rw[j]at st;let(J,Y,f2,Z,U,O):=G q (_);show wpAny_pyNext_dict_end (I.66 w) st R (_) λm A=>(zd,I.64 (λb o p e=>A b o p e) J Y Z U O)
 self:=λ_ _ _ _ _ st h=>wpAny_pyIter_keyiter st h
def ZT(to:TE):TI:=λf H R=>to f H λx b=>∃a o d,x=.ref a/\b a=U (.gj o (.dK d))/\R (Itk a o d) b
theorem V6(E:PE X o to):PI X f o (ZT to):=by
 intro d s g H R I h;show eI (E d s g H _ I h) λv F w=>?_;let(x,G,i,C,a,t,j,u,p,q):=w;subst u;cases C;let(z,y,vs,l,D):=D1 i p;apply wpAny_pyIter_dict y D;show(_,[_],_,_,G,Y,i.75 λb o e=>zT _ e,Rq a _ t j,(_,zJ _ Y,Y,by rw[l.3];rfl),λb r=>?_,q);let e:b=F.heap.objs.size:=by simpa using r
 subst e;show i.iM (zp _) (i.18 (zp _))
def ZU(i j k:Nat)(b:TA):TS:=λD d H=>b d H λvs f=>∃v w z,vs=[v,w,z]/\D.nx (((d.set k (U z)).set j (U w)).set i (U v)) f
theorem V7(q:X.calm=ii)(M:X.N.29)(w:X.N[i]?=U x)(hj:X.N[j]?=U y)(hk:X.N[k]?=U z)
  (f:X.24 x=U .local) (R:X.24 y=U .local) (g:X.24 z=U .local) (s:PA X [a,b,c] ta)
  (hw:swappedStores [.Tuple [.Name x S,.Name y p,.Name z Q] kt pt] (.Tuple [a,b,c] m F) X.21=pure (U [x,y,z]))
  (hs:swapsWithSole [.Tuple [.Name x S,.Name y p,.Name z Q] kt pt] (.Tuple [a,b,c] m F) as.68 X.21=pure im:=by rfl):
  PS X (.Assign [.Tuple [.Name x S,.Name y p,.Name z Q] kt pt] (.Tuple [a,b,c] m F) as) (ZU i j k ta):=by
 intro l aC A H aR I h;rw[exec_Assign_arm];show zo (zF ?_);rw[hs];show zo (zn ?_);rw[zg qc];show zo (Tuple_ (eI (s _ l aC A H _ I h) λus E an=>?_));let(vs,T,I1,r1,q1):=an;let(v,aM,t,e1,q1):=q1;subst e1
 let(r,C,u,rfl,rv,N,rt):∃r C u,us=[r,C,u]/\RelV v r/\RelV aM C/\RelV t u:=by
  cases r1 with
  |cons ar az=>
   cases az with
   |cons p' q'=>
    cases q' with
    |cons ag G=>
     cases G;show(_,_,7,ar,p',ag)
 show wpAny_newObj_type ?_ jK;let B:Inv X l A T {E with heap:=E.23 {cls:=.type mm,data:=.seq [r,C,u].11}}:=I1.75 (t':=E.62) λb o e=>zT _ e;rw[hw];show zo (zn ?_);change gm X (do rule "assign.swapped-stores";let d ←unpackItems (.ref E.4) 3 gt;assignInOrder [λv=>bindName X.21 z v,λv=>bindName X.21 y v,λv=>bindName X.21 x v] d.50;pure Flow.next) _ _ _;show zo (wpAny_rule (zo (unpackItems_tuple (items:=#[r,C,u]) (I.66 q) (IsTup.new E.15 _) λal ab=>?_)));let D:=B.75 (h':=al) (t':=E.62) λb o e=>ab b o (zu (lt_size e)) e;change wpAny _ _ (assignInOrder [λv=>bindName X.21 z v,λv=>bindName X.21 y v,λv=>bindName X.21 x v] [u,C,r] >>= λ_=>pure Flow.next) _ _ _;show zo (assignInOrder_cons (wpAny_bindName (CO D M hk (.inl g) rt (λs2 P=>?_) (.inr g))));show assignInOrder_cons (wpAny_bindName (CO P M hj (.inl R) N (λs3 I5=>assignInOrder_cons (wpAny_bindName (CO I5 M w (.inl f) rv (λs4 I6=>assignInOrder_nil (zn ?_)) (.inr f)))) (.inr R)));show(_,T,I6,q1)
def bj:V->Option Int->Option Int->Hp->VK->Prop:=λx lo b H Q=>∃z,x=.str z/\z.3<=sizeLine/\Q (.str (Txt.slice z lo b)) H
theorem QL(h:IsPart v o):∃l,v=partValue l/\o=l.5 (·.1):=by
 cases h with
 |none=>show(J,rfl,rfl)
 |int i t=>show(U (i,(t)),rfl,rfl)
theorem Ji:SlR X bj:=by
 rintro a s o H x v r y C p sl Q I d h pl e ⟨z,rfl,j,q⟩;let(t,rfl):=d;let(l,rfl,rfl):=QL pl;let(u,rfl,rfl):=QL e;show(qD,_,F.slot_str_getitem.lookup,typeIs_str s z t,wpAny_getItem_str_slice (st:=J) h Y (post_val_or_str (Nat.le_trans (Txt.slice_le z _ _) j,λi k=>(.str (Txt.slice z _ _),H,I.tok k,(i,Y),q))))
theorem CB:eW X (.type qC) (λb H Q=>∃x n,b=[.str x]/\x.3<=640/\intText? x=U n/\Q (.int n) H):=by
 rintro a s i H b h Q I r ⟨x,n,rfl,d,e,q⟩;let(u,rfl,t,rfl):=Bq r;show W.KIN.call_text e d (.int n,H,I.tok _,(_,Y),q)
theorem Rr(r:Vals (b.5 V.str) a):∃l,a=strValues l/\l.5 (·.1)=b:=by
 induction b generalizing a with
 |nil=>cases r;show([],Y,Y)
 |cons x r i=>
  cases r with
  |cons h d=>
   let(t,rfl):=h;let(l,rfl,e):=i d;show((x,(t))::l,Y,by rw[map_cons,e])
theorem MD:MtM X "str.join" (λx vs H Q=>∃a l b,x=.str a/\vs=[.ref l]/\H l=U (.lst (b.5 V.str))/\JoinOk a b=L/\Q (.str (Txt.join a b)) H):=by
 intro i s f H x vs v G Q I p D h;let(a,l,b,rfl,rfl,j,d,q):=h;let(t,rfl):=p;let(u,rfl,y):=D.one;cases y;let(z,C,n,r,F,e):=I.lstM j;let(o,rfl,ep):=Rr r;show SC.join (l:=o) (_,e,Y,(_,Y)) ep d λE k=>(.str _,H,I.tok k,(E,Y),q)
theorem V8:gx X (binaryOp .Mult) (λx y H Q=>∃(i:Str)(n:Int),x=.str i/\y=.int n/\((n=0/\Q (.str "") H)\/(n=1/\Q (.str i) H))):=by
 rintro a s l H x y v u Q I d e ⟨i,n,rfl,rfl,h⟩;let(t,rfl):=d;let(j,rfl):=e;let(rfl,q)||(rfl,q):=h
 ·apply PySem.P.mul_str rfl (λz _=>absurd qc z) (λz _=>absurd qc z);show(qc,.str "",H,I.tok _,(_,Y),q)
 ·apply PySem.P.mul_str rfl (λ_ z=>by simp at z) (λ_ z=>by simp at z);show(.str i,H,I,(_,Y),q)
theorem MF:eW X (.type qD) (λb H Q=>∃x,b=[.str x]/\Q (.str x) H):=by
 rintro a s e H b d Q I r ⟨x,rfl,q⟩;let(u,rfl,t,rfl):=Bq r;show PySem.P.str_of_str (.str x,H,I,(_,Y),q)
structure PTw(X:Cx)(e:Expr)(t:TT):Prop where
 h:PT X e t
theorem LF{i}(j:X.N.29)(h:X.N[i]?=U x)(l:Loc X.28 x)(a:gJ X e m)(b:swapsWith e (U (.Name x g)) f.68 X.21=pure O:=by rfl)(d:X.fn x=L\/X.24 x=U .local:=by first|show .inl rfl|show .inr rfl):
  PSw X (.Assign [.Name x g] e f) (VW m (Bt i)):=⟨DN j h l a.h b d⟩
theorem GM(i:gx X (binaryOp f) r)(h:gJ X a e)(d:gJ X b g):gJ X (.BinOp a f b j) (jQ r e g):=⟨AX i h.h d.h⟩
theorem EJ(h:IxR X r)(e:gJ X a i)(d:gJ X b g)(f:P7 b:=by intro _ _;rfl):gJ X (.Subscript a b j) (jQ r i g):=⟨Am h e.h d.h f⟩
theorem O5(a:PTw X c h)(e:il X b t)(d:il X f u):PSw X (.If c b f g) (Xg h t u):=⟨AV a.h e.h d.h⟩
theorem XM(h:PTw X c d)(j:gJ X a e)(i:gJ X b f):gJ X (.IfExp c a b g) (tIf d e f):=⟨Bi h.h j.h i.h⟩
theorem CC(a:gJ X e f)(h:iN X b g)(d:iK X e b:=by rfl):iN X (e::b) (An f g):=⟨AA a.h h.h d⟩
theorem GO{k}{i}(F:AT X.14 X.w X.K X.mg X.39 g k f s i z)(u:eB k X.A)(j:Gl X x)(o:X.mg x=U (.ref f))(q:W.keepIn X.K (.ref f)=L)(r:Binds X.K s i m)(t:Vals h m)(y:BS g X E)
  (v:iN X (e::b) A) (d:iw x:=by decide) (l:iK X e b:=by rfl) (a:(backTo w (starEach b X.21)).any (·.1)=O:=by rfl):
  gJ X (.Call (.Name x p) (e::b) [] w) (M6 z h E A):=⟨A0 F u j o q r t y v.h d l a⟩
theorem ZV(h:iN X b d):gJ X (.List b f) (Vc d):=⟨A4 h.h⟩
abbrev DcE:=Str×Tok×Int×Tok
noncomputable def ZW(P:Params)(e:DcE):DictEntry:=(PyData.keyHash P e.1,.str e.1 e.2.1,.int e.2.2.1 e.2.2.2)
def dcObj(P:Params)(l:List DcE)(ep:Nat):Obj:=(.type mH,J,.dict (l.5 (ZW P)).11 ep,#[])
noncomputable def kf(l:List DcE):LK:=l.5 λe=>(Sum.inr e.1,(.int e.2.2.1))
theorem ZX{w}{h:PySem.Heap}{l}(e:h.13 f=U (dcObj w.60 l ep))(d:(l.5 (·.1)).29):∃vs,KV (kf l) vs/\h.DictOf (Ab P w) f vs:=by
 show(l.5 λe=>(Sum.inr e.1,(.int e.2.2.1 e.2.2.2)),?_,_,_,_,e,(Y,Y,Y),Y,λx o=>?_,?_,?_)
 ·clear e d;induction l with
  |nil=>show .nil
  |cons a r j=>show .cons (rfl,_,rfl) j
 ·let(a,_,rfl):=zh.mp (List.mem_toArray.mp o);show(Sum.inr a.1,Et P w _ _,Y)
 ·rw[List.toList_toArray];clear e d;induction l with
  |nil=>show .nil
  |cons a r j=>show .cons (Et P w _ _) rfl j
 ·rw[map_map];have:(l.5 ((λx:Key×Value=>x.1) ∘ λe=>((Sum.inr e.1),(Value.int e.2.2.1 e.2.2.2))))=(l.5 (·.1)).5 (λx=>(Sum.inr x)):=by rw[map_map];rfl
  rw[this];show List.Pairwise.map _ (λa b i z=>i (Sum.inr.inj z)) d
theorem GQ:eW X (.type mH) (λg H Q=>∃a f,g=[.ref a]/\Rd H a (.dK f)/\∀p,H p=J->Q (.ref p) (upd H p (.dK f))):=by
 rintro i s D H g C Q I r ⟨a,f,rfl,l,q⟩;let(u,rfl,t):=Bq r;cases (t);let(z,y,vs,d,v):=CT I.eA l;show kt_call_dict y v (by rwa[←d.3]) λx h j=>?_;show(.ref s.4,_,I.laid (λb o e=>(j.2 b (zu (lt_size e))).7 (zT _ e)) (zp _) (Hw z (by rw[beq_eq_false_iff_ne];show Nat.ne_of_gt I.big) d h),Y,q _ (I.18 (zp _)))
theorem O6:gx X (compareOp .In) (λx y H Q=>∃(c:Nat)(j:Str),x=.str ⟨#[c]⟩/\y=.str j/\Q (.bl (decide (c∈j.6))) H):=by
 rintro a s h H x y v u Q I d e ⟨c,j,rfl,rfl,q⟩;let(t,rfl):=d;let(i,rfl):=e;apply PyProof.Rows.in_str;rw[StrLaws.found_one];show(.bl _,H,I,Y,q)
theorem Rs:eW X (.builtin mr) (λf H Q=>∃a o b,f=[.ref a,.ty mH]/\H a=U (.gj o (.dK b))/\Q (.bl L) H):=by
 rintro h s y H f x Q I r ⟨a,o,b,rfl,e,q⟩;let(u,C,rfl,i,d):=Iv r;cases (d);cases (i);let(_,_,vs,_,t):=CT I.eA (.inr (o,e));let(l,D,ep,v,p,_):=id t;show W.kia_one W.kitx_dict I.gq (l,v,p.1) rfl (λz=>nomatch z) λj=>(.bl L,H,I.tok j,rfl,q)
theorem Rt{P}{w}{a}{g}{p:SV}{v:SV}{A}{k}{fa f}{T:List (l7×l7)}{l}{ep}{fd}{sp}{i}{vs}{s}
  (KX:g.In i.15) (ag:i.heap.Ns mainGlobals p) (y:i.heap.Ns builtinsNs v) (br:∀x:Str,x≠ mY -> v x=bootBuiltins x) (bs:i.heap.NoLimit) (hg:i.gens=#[])
  (N:i.9 a=U {cls:=.type md,data:=.seq vs.11}) (hi:IntsAre vs s) (hl:s.3<=sizeLine) (hr:eB k callerA)
  (hP:∀t∈T,i.9 t.2=U (W.tabObj #[])/\g.8 t.2=gt/\W.CodeHd i.15 t.1 t.2/\i.heap.48 p t.2)
  (I:i.9 f=U (dcObj w.60 l ep)) (bb:g.8 f=gt) (bn:5<=f) (jF:l.3<=1000) (kJ:(l.5 (·.1)).29)
  (F:∀base,g.In base->base.Ns mainGlobals p->(∀t∈T,W.CodeHd base t.1 t.2/\base.48 p t.2)->AT P w g p base A k fa fd [x] sp) (az:∀bF u,BindsTo bF fd ([u],[]) [(x,(u))])
  (bu:∀H,(∀t∈T,H t.2=U (.hZ #[]))->Rd H f (.dK (kf l))->dY g H a (s.5 V.int)->sp [.ref a] H (λas _=>as=.bl L) λ_ _ _=>False)
  (aR:∀H e D,A [] H i (λ_ _ _=>False) e D->False):
  codeAny (model P w) callerA (.call (.ref fa) ([.ref a],[])) (λr D=>r=.ok (.ret (.bool L))/\OldK i.15 D.15/\D.os=i.os/\AllBare D.gens) i:=by
 let rv:=Fc hi;generalize hT:T.5 (·.2)=TT;let tt:∀b,b∈TT->∃t∈T,t.2=b:=λb z=>by grind
 let M:∀b,b∈TT->i.9 b=U (W.tabObj #[])/\g.8 b=gt:=λb z=>by
  grind
 let bk:a∉ TT:=λz=>by ext
 let bl:a≠f:=λz=>by subst z;rw[N]at I;cases congrArg Obj.data (Option.some.inj I)
 let be:f∉ TT:=λz=>by let e:=(M f z).1;rw[I]at e;cases congrArg Obj.data (Option.some.inj e)
 generalize eD:dcObj w.60 l ep=B at I;generalize S:({cls:=.type md,data:=.seq vs.11}:Obj)=Q at N
 let bE:∀H,fY P w H i.15 f (.gj B (.dK (kf l))):=λH=>(I,by unfold kf;rw[AO];show Nat.le_of_lt (AR jF),by
  cases q:(f==sysModules)with
  |false=>rfl
  |true=>
   rw[beq_iff_eq.mp q]at bn
   trivial,ZX (eD ▸ I) kJ)
 let(H,hH):∃H:Hp,H=λb=>if b∈TT then U (.hZ #[])else if b=f then U (.gj B (.dK (kf l)))else if b=a/\g.8 a=gt then U (.gj Q (.lst (s.5 V.int)))else gt:=(_,rfl)
 let G:∀b u,H b=U u->(b∈TT/\u=.hZ #[])\/(b=f/\u=.gj B (.dK (kf l)))\/(b=a/\g.8 a=gt/\u=.gj Q (.lst (s.5 V.int))):=λb u z=>by
  grind
 let bC:∀{b:l7}{u:HO},H b=U u->i.9 b=U (W.tabObj #[])\/i.9 b=U B\/i.9 b=U Q:=λ{b u}z=>by
  let(h,_)||(rfl,_)||(rfl,_):=G b u z
  ·show .inl (M _ h).1
  ·show .inr (.inl I)
  ext
 let an:∀t∈T,H t.2=U (.hZ #[]):=λt ht=>by
  rw[hH];show zf (by rw[←hT];show zh.53 (t,ht,Y))
 let a9:H f=U (.gj B (.dK (kf l))):=by
  rw[hH];show(zg be).7 (zf Y)
 let none_of:∀{b:l7}{o:Obj},i.9 b=U o->o≠W.tabObj #[]->o≠B->o≠Q->H b=gt:=λ{b o}e n1 n2 n3=>by
  cases q:H b with
  |none=>rfl
  |some u=>let z||z||z:=bC q<;>(rw[e]at z;cases z;trivial)
 let j:∀{b:l7}{o:Obj},i.9 b=U o->H b=gt->(Lc i.15 H).13 b=U o:=λe n=>Si e n;let dD:∃X n,B.38=.dict X n:=by rw[←eD];show(_,7)
 let dL:∃R n,Q.38=.seq R n:=by rw[←S];show(_,7)
 let bB:∀{b:l7}{o:Obj}{R:Array Value},i.9 b=U o->o.38=.fields R->o.78≠ .none->H b=gt:=λ{b o R}e d n=>none_of e (λz=>n (by rw[z])) (λz=>by let(_,_,q):=dD;rw[←z,d]at q;cases q) (λz=>by let(_,_,q):=dL;rw[←z,d]at q;cases q)
 let E:∀{b:l7}{m:SV},b<5->i.heap.Ns b m->(Lc i.15 H).Ns b m:=λ{b m}aC aM=>by let(o,X,ep,e,d,r):=aM;show (o,X,ep,j e (by
  cases q:H b with
  |none=>rfl
  |some u=>
   let(h,_)||(rfl,_)||(rfl,_):=G b u q
   ·rw[(M _ h).1]at e;cases e;cases d
   ·show absurd aC (_)
   ·rw[N]at e;cases e;let(_,_,q):=dL;rw[q]at d;cases d),d,r)
 let al:=λb o e=>j (KX b o e) (by
  cases q:H b with
  |none=>rfl
  |some u=>
   let(h,_)||(rfl,_)||(rfl,h,_):=G b u q
   ·rw[(M _ h).2]at e;cases e
   ·rw[bb]at e;cases e
   ext)
 let hM:Mod g p (Lc i.15 H):=(al,E qc ag,(v,E qc y,br),by let(mc,h1,h2):=bs;show (mc,E qc h1,h2))
 let a0:∀t∈T,W.CodeHd (Lc i.15 H) t.1 t.2/\(Lc i.15 H).48 p t.2:=λt ht=>by
  let(_,_,hC,hB):=hP t ht;let(o,vs',file,tf,J,tg,inF,text,tt,e,dh,Z,r):=id hC;let(bm,o',a1,a2,a3,a4,a5,a6,a7,a8):=id hB;show((o,vs',file,tf,J,tg,inF,text,tt,j e (bB e Z (by rw[dh];simp)),dh,Z,r),(bm,o',a1,a2,a3,a4,j a5 (none_of a5 (λz=>by rw[z]at a6;cases a6) (λz=>by let(_,_,q):=dD;rw[←z,a8]at q;cases q) (λz=>by let(_,_,q):=dL;rw[←z,a8]at q;cases q)),a6,a7,a8))
 let eA:gG P w H i.15:=λb u z=>by
  let(h,rfl)||(rfl,rfl)||(rfl,_,rfl):=G b u z
  ·show(M _ h).1
  ·show bE _
  ·show(N,by rw[AO];show hl,vs,_,rv,by rw[N,←S])
 let hS:dY g H a (s.5 V.int):=by
  cases hk:g.8 a with
  |none=>show .inl (.inr (Q,by rw[hH];show(zg bk).7 ((zg bl).7 (zf (rfl,hk)))))
  |some o=>
   let e:=KX a o hk;rw[N,←S]at e;cases e;show .inr (_,vs.11,_,hk,Y,Y,Y,by rw[size_toArray,hi.3];show hl,by simpa using rv)
 show codeAny_mono ((F _ al (E qc ag) a0).run callerA [] i H ([.ref a],[]) [.ref a] [.ref a] _ _ hr ((rfl,hM,λb o e=>VQ e,Nat.le_of_eq (RC _ _),trivial,λb y=>absurd (show b∈([])from y) (_),eA,.of_eq hg)) (az i (.ref a)) (.cons rfl .nil) (bu H an (.inr (_,a9)) hS)) λr D h=>?_;cases r with
 |error e=>show(aR H e D h).40
 |ok fl=>
  cases fl with
  |next=>trivial
  |brk=>trivial
  |cont=>trivial
  |ret u=>
   let(as,H',os,bare,un,C,r',q):=h;subst q;obtain rfl:u=Value.bool L:=r'
   let ar:∀b,b∈TT->∃more,D.9 b=U (W.tabObj (#[]++more)):=λb y=>by
    let(t,ht,rfl):=tt b y;let(more,e):=un.ib _ #[] (an t ht);show(more,C _ _ e)
   let ab:∀b o,b∉ TT->i.9 b=U o->D.9 b=U o:=λb o y e=>by
    cases q:H b with
    |none=>show un.34 b o e q (by intro z;trivial) (_)
    |some u=>
     let(h,_)||(rfl,rfl)||(rfl,_,rfl):=G b u q
     ·trivial
     ·rw[I]at e;cases e;show(C _ _ (un.ij _ _ _ q)).1
     ·rw[N]at e;cases e;show(C _ _ (un.ij _ _ _ q)).1
   show(Y,(λb o e=>?_,λb o e=>?_),os,bare)
   ·by_cases y:b∈TT
    ·let(t,ht,rfl):=tt b y;let(hp,_,hC,_):=hP t ht;rw[hp]at e;cases e;let(more,e2):=ar _ y;show .inr (.inl ((hC.tab hp).isCodeTable,Y,#[],more,Y,e2))
    ·show .inl (ab b o y e)
   ·by_cases y:b∈TT
    ·let(more,e2):=ar _ y;show(_,e2)
    ·show(o,ab b o y e)
theorem Tw{x}{l:W.OpenLaw}{n k}{al}{loose}{XP}{o}{d}{g:Params->FG}{CX:World->CXT}{sp:World->Sp}{T:List (l7×l7)}{j}{dl}{ep}
  (z:l.most=U n) (aR:n<=sizeLine) (q:d.params.defaults=[]) (A:eB k callerA) (r:5<=j) (R:dl.3<=1000) (Q:(dl.5 (·.1)).29)
  (v:∀w h,o w h->(g w.60).In h/\(∀t∈T,h.13 t.2=U (W.tabObj #[])/\(g w.60).8 t.2=J/\W.CodeHd h t.1 t.2)/\h.13 j=U (dcObj w.60 dl ep)/\(g w.60).8 j=J)
  (F:∀w(b:SV)y h,(g w.60).In h->h.Ns mainGlobals b->b d.name=U (.ref y) ->
   ∃m,(∀s u,BindsTo s m ([u],[]) [(x,(u))]) /\
    ∀base,(g w.60).In base->base.Ns mainGlobals b->(∀t∈T,W.CodeHd base t.1 t.2/\base.48 b t.2)->AT l.14 w (g w.60) b base (CX w) k y m [x] (sp w))
  (p:∀w H a(C:List Int),C.3<=n->(∀t∈T,H t.2=U (.hZ #[]))->Rd H j (.dK (kf dl))->dY (g w.60) H a (C.5 V.int)->sp w [.ref a] H (λar _=>ar=.bl ii) λ_ _ _=>False)
  (E:∀w H s e N,CX w [] H s (λ_ _ _=>False) e N->False):
  W.WalkO al loose XP o l.row.toRowW d [] (λf vs=>PySem.call f vs):=by
 show Att.attach_call z q λw az i b mb y a0 pm cd aC a vs C G B ho hd aM M an ab ag hg=>?_;let(S,D,hD,I):=v w _ B;let(m,Z,hF):=F w b y _ S G.T.g M
 let P:∀t∈T,i.heap.48 b t.2:=λt ht=>by
  let(bm,ob,b1,b2,b3,b4,b5,b6):=G.T.bmain;show(bm,ob,b1,b2,λas=>?_,λas=>?_,b3,b4,b5,b6)
  ·let(o',es,ep,e,hd',_):=G.T.g
   ext
  grind
 show Rt S G.T.g G.T.b G.T.builtins G.T.nolimit hg an ab () A (λt ht=>((D t ht).1,(D t ht).2.1,(D t ht).2.2,P t ht)) hD I r R Q hF Z (λH hH X hS=>p w H a C ag hH X hS) λH e N=>E w H i e N
theorem Inv.thaw(I:Inv X g m H s)(h:H a=U (.gj o (.dK f)))(t:∀o u,X.g8 a≠U (.gj o u)):Inv X g m (upd H a (.dK f)) s:=by
 let i:∀{b:l7}{u:HO},H b=U u->(∀v C,u≠ .gj v C)->b≠a:=λe n z=>by
  subst z;rw[h]at e;cases e;show n _ _ rfl
 let no:∀{b:l7},H b=J->b≠a:=λe z=>by
  subst z;rw[h]at e;cases e
 let d:∀{b:l7},H b=J->(upd H a (.dK f)) b=J:=λe=>by
  rwa[AE (no e)]
 show(I.ok,I.os,I.73,(I.base.34,I.base.slot,λb o q n x=>d (I.base.free b o q n x),I.base.there,λb y e=>?_,λb o u e=>?_,λb r e=>?_),I.loc,I.cell,d I.free,λx c e=>d (I.gi x c e),λp l=>?_,λb u e=>?_,I.61)
 ·have:=I.base.iy b y e
  rwa[AE (i this λ_ _ z=>nomatch z)]
 ·rw[AE (λz=>by subst z;show t o u e)];show I.base.ij b o u e
 ·let(more,q):=I.base.ib b r e;show(more,by rw[AE (i q λ_ _ z=>nomatch z)];show q)
 ·let(q1,q2,q3):=I.pin p l;show(q1,d q2,q3)
 ·by_cases j:b=a
  ·subst j;rw[dG]at e;cases e;show(I.eA _ _ h).2
  ·rw[AE j]at e;show(I.eA b u e).ie (λ_ _ _ q=>q) (λc q=>?_) λc x q=>?_
   ·rwa[AE (i q λ_ _ z=>nomatch z)]
   ·rwa[AE (i q λ_ _ z=>nomatch z)]
theorem NZ{X}{st}{t}(h:PS X st t):PS X st (λD f H=>∃a b,H a=U (.dK b)/\(∀o u,X.g8 a≠U (.gj o u))/\∀o,t {D with nx:=λd j=>j a=U (.gj o (.dK b))/\D.nx d (upd j a (.dK b))} f (upd H a (.gj o (.dK b)))):=by
 intro i s f H D I ⟨a,b,e,p,k⟩;let(o,x):=I.freeze e;show eI (h i s f _ _ x (k o)) λfl y q=>?_;cases fl with
 |next=>let(d,j,r,l,q1):=q;show(d,_,r.thaw l p,q1)
 |brk=>show q
 |cont=>show q
 |ret v=>show q
theorem Ru(M:X.N.29)(r:X.N[i]?=U z)(R:X.24 z=U .local)(o)(l)(w:Fv X.28 scope X.N (x::y::o) (J::J::l)=L)(h:(x::y::o).29)(v:scope.12 x=U .local)(E:scope.12 y=U .local)(t:X.calm=L)(N:PI X (.Tuple [.Name x F,.Name y g] kt pt) iter Q)
  (ht:∀e s H C a d,jk (BU X (x::y::o) scope e s H C a d) b tt) (B:∀e s H C a d,PE (BU X (x::y::o) scope e s H C a d) f tk) (I:∀e s H C a d,PE (BU X (x::y::o) scope e s H C a d) G T)
  (q:swapsWith (.DictComp f G [(.Tuple [.Name x F,.Name y g] kt pt,iter,b,0)] scope S) (U (.Name z A)) j.68 X.21=pure L:=by rfl) (P:∀x,foldedSetIterable iter X.21 x=pure x:=by intro _;rfl):
  PS X (.Assign [.Name z A] (.DictComp f G [(.Tuple [.Name x F,.Name y g] kt pt,iter,b,0)] scope S) j) (λD m H=>Tv Q (g2 X.K) tt tk T (J::J::l) (λys u=>∀p,u p=J->D.nx (m.set i (U (.ref p))) (upd u p (.dK ys))) m H):=
 JX M r R q LC CV (eT.of w) (λ_ _ _ _ _ _=>t) N.g (λe s H C a d=>JW (BR t (AQ (A5 h rfl (.inl (z4 v)) (.inr (z4 v)))
  (AQ (A5 h rfl (.inl (z4 E)) (.inr (z4 E))) Az)))) ht (λ_ _ _ _ _ _ _=>NY (B _ _ _ _ _ _) (I _ _ _ _ _ _)) P rfl
end
end L2
namespace L2
open PySem PySem.Spec PyProof.Rows PySem.W
theorem QM{b:Type}(v):∀n a,(List.replicate n (#[v]:Array b)).67 (·++·) a=a++(List.replicate n v).11
 |0,a=>by simp
 |n+1,a=>by
  rw[List.replicate_succ,foldl_cons,QM v n,List.replicate_succ];apply Array.ext';simp
theorem Na(h:RelV x u):∀n,Vals (List.replicate n x) (List.replicate n u)
 |0=>.nil
 |n+1=>.cons h (Na h n)
theorem V9(f)(N:X.K=f):gx X (binaryOp .Mult) (λx y H Q=>∃(a:l7)(t:V)(n:Int),x=.ref a/\y=.int n/\dY f H a [t]/\1<=n/\n<=1000/\∀l,H l=J->Q (.ref l) (upd H l (.lst (List.replicate n.32 t)))):=by
 subst N;intro p s A H x y v u Q I C m h;let(a,t,n,rfl,rfl,z,Y,T,q):=h;cases C;let(j,rfl):=m;let(G,O,pl,hz):=I.list z;let(u,rfl,E):=Bq O;let((D,d,r,sl),i,o,k,R):=pl.59;subst o R
 show wpAny_binaryOp_repeat_ref qc (_,i,zd) (λg=>typeIs_int g n j) noFill_list_mul F.fills_int_mul F.slot_int_rmul repeat_list F.slot_int_index.lookup
  (call_meets F.slot_int_rmul (typeIs_int s n j) F.entry_int_rmul (F.args_int_rmul_2 _ _) (lm_int_rmul_list_any n j a _ k d sl)
   (i,rfl,(_,i,rfl),call_meets F.slot_list_mul (_,i,rfl) F.entry_list_mul (F.args_list_mul_2 _ _)
    (lm_list_mul_any a _ k d sl n j (by simp[Builtin.List.listFitsIndex];lia) (by simp;lia) (by simp[Builtin.List.listTooLong,sizeLine];lia))
    (i,?_)))
 show(.ref s.4,_,I.laid (λb w q=>zT _ q) (zp _) ?_,zd,q _ (I.18 (zp _)));show(by rw[List.length_replicate];change _<=2^24;lia,_,0,Na E n.32,?_)
 let e:(List.replicate (if (#[u]).isEmpty=L then 0 else n.32) (#[u])).67 (λM S=>M++S) #[]=(List.replicate n.32 u).11:=by
  rw[QM];apply Array.ext';simp
 rw[e];show zJ _ rfl
end L2
namespace L2
open PySem PySem.Spec PyProof.Rows
mutual
def HB(b:Array Nat):Prop:=∀i j d(f:j<b.27),i<j->b[i]<b[j]
structure BlS(xs:Array Nat)(j k:Nat):Prop where
 le:k<=xs.27
 lo:∀i h,i<k->xs[i]<j
 hi:∀i h,k<=i->j<=xs[i]
theorem Jj(f:HB b)(j):∀d lo a,lo<=a->a<=b.27->a-lo<=d->(∀i h,i<lo->b[i]<j)->(∀i h,a<=i->j<=b[i])->BlS b j (SetTable.below.go b j d lo a)
 |0,lo,a,z,q,x,r,p=>by
  let e:lo=a:=by lia
  subst e;show(q,r,p)
 |d+1,lo,a,z,q,x,r,p=>by
  rw[SetTable.below.go];by_cases o:lo<a
  ·rw[zf o];let u:(lo+a)/2<b.27:=by lia
   let y:b.45 ((lo+a)/2) j=b[(lo+a)/2]:=by
    rw[Array.getD_eq_getD_getElem?,Array.getElem?_eq_getElem u];rfl
   change BlS b j (if b.45 ((lo+a)/2) j<j then _ else _);rw[y];by_cases t:b[(lo+a)/2]<j
   ·rw[zf t];show Jj f j d _ _ () q () (λi l v=>?_) p;by_cases e:i=(lo+a)/2
    ·ext
    ·show Nat.lt_trans (f i ((lo+a)/2) l u ()) t
   ·rw[zg t];show Jj f j d _ _ () () () r (λi l v=>?_);by_cases e:i=(lo+a)/2
    ·ext
    ·have:=f ((lo+a)/2) i u l ()
     lia
  ·rw[zg o];let e:lo=a:=by lia
   subst e;show(q,r,p)
theorem HC(d:HB b)(j):BlS b j (SetTable.below b j):=by
 show Jj d j b.27 0 b.27 (Nat.zero_le _) (zp _) () (λi _ h=>absurd h (_)) (λi h a=>absurd h ())
theorem X5(f:HB b)(h:SetTable.has b j=O):∀i(h:i<b.27),b[i]≠j:=by
 intro i a e;let B:=HC f j;unfold SetTable.has at h
 let d:SetTable.below b j=i:=by
  let z||z||z:=Nat.lt_trichotomy (SetTable.below b j) i
  ·have o:=B.hi _ () (zp (SetTable.below b j));let l:=f (SetTable.below b j) i () a z
   lia
  ·show z
  ·have:=B.lo i a z
   lia
 rw[d,Array.getElem?_eq_getElem a,e]at h;simp at h
theorem KZ{d}(b)(p)(x:d):(SetTable.insertAt b p x).37=b.toList.20 p++x::b.toList.drop p:=by
 unfold SetTable.insertAt;simp;show take_of_length_le (_)
def Tx(l:List Nat):Prop:=l.70 (· < ·)
theorem Nb:HB b ↔ Tx b.37:=by
 unfold Tx;rw[List.pairwise_iff_getElem];rfl
theorem Nc(g:HB f)(u:∀i(h:i<f.27),f[i]≠j):HB (SetTable.insertAt f (SetTable.below f j) j):=by
 let B:=HC g j;rw[Nb]at g ⊢;rw[KZ];generalize SetTable.below f j=k at B;unfold Tx at g ⊢;let p:=g;rw[←List.take_append_drop k f.37,List.pairwise_append]at p;let(x,t,r):=p;rw[List.pairwise_append,pairwise_cons];show(x,(λy v=>?_,t),λa q b l=>?_)
 ·let(i,o,rfl):=List.getElem_of_mem v;rw[List.length_drop]at o;let d:k+i<f.27:=by have:f.58=f.27:=Array.length_toList;lia
  have:=B.hi (k+i) d ();let z:=u (k+i) d;simp
  lia
 ·have e:a<j:=by
   let(i,o,rfl):=List.getElem_of_mem q;rw[zr]at o;let d:i<f.27:=by have:f.58=f.27:=Array.length_toList;lia
   have:=B.lo i d ();simpa using this
  let rfl||l:=mem_cons.mp l
  ·show e
  ·show r a q b l
theorem O7(n):HB (Array.range n):=λi j d a h=>by ext
structure HD(t:SetTable)(n:Nat):Prop where
 fits:t.fits n=L
 rise:HB t.place
 nod:t.dummies=#[]
theorem WA{t:SetTable}(h:t.slot j=.empty)(b:HB t.place):∀i(h:i<t.place.27),t.place[i]≠j:=by
 apply X5 b;unfold SetTable.slot at h;unfold SetTable.has
 grind
theorem Ty(j):SetTable.has #[] j=O:=by
 rfl
theorem O8{t:SetTable}(a:t.dummies=#[]):t.slot j≠ .dummy:=by
 unfold SetTable.slot;rw[a,Ty]
 grind
theorem Rv(t:SetTable)(p):(t.advance p).dummy=p.dummy:=by
 unfold SetTable.advance
 grind
theorem Nf(l:t.dummies=#[]):∀a p{j}{d},p.dummy=J->SetTable.probe.go t hashAt h a p=U (.empty j d)->d=J/\t.slot j=.empty
 |0,p,j,d,q,e=>by trivial
 |a+1,p,j,d,q,e=>by
  rw[SetTable.probe.go]at e;cases o:t.slot p.j with
  |empty=>
   ext
  |dummy=>show absurd o (O8 l)
  |live i=>
   rw[o]at e;simp only at e;split at e
   ·cases e
   ·show Nf l a _ (by rwa[Rv]) e
theorem WB{t:SetTable}(f:HB t.place)(l:t.dummies=#[])(e:t.freeSlot h=U (j,(wd))):(∀i(h:i<t.place.27),t.place[i]≠j)/\wd=O:=by
 unfold SetTable.freeSlot at e;cases q:t.probe (λ_=>h+1) h (t.probeStart h)with
 |none=>ext
 |some m=>
  rw[q]at e;cases m with
  |candidate a b c=>cases e
  |empty a b=>
   let(rfl,d):=Nf l _ _ rfl q;cases e;show(WA d f,Y)
theorem HE(t:SetTable)(n):HD (t.standIn n) n/\(t.standIn n).led=t.led:=((SetTable.standIn_fits t n,O7 n,rfl),rfl)
theorem O9{t:SetTable}(n)(b:HB t.place)(a:t.dummies=#[]):HD (t.orStandIn n) n/\(t.orStandIn n).led=t.led:=by
 unfold SetTable.orStandIn;split
 ·rename_i h;show((h,b,a),Y)
 ·show HE t n
theorem Rw(h)(x)(T:HD t b.27):HD (layNew t b h x).2.1 (layNew t b h x).1.size/\(layNew t b h x).2.1.led=t.led:=by
 unfold layNew;cases e:t.freeSlot h with
 |none=>
  have:=HE t (b.27+1);simpa using this
 |some q=>
  let(j,wd):=q;let(a,_):=WB T.rise T.nod e
  show O9 _ (Nc T.rise a) (by
   change(if SetTable.has t.dummies j=L then _ else t.dummies)=#[];rw[T.nod]
   rfl)
theorem Rx(f:Nat->Option Nat)(n):HB (((List.range n).76 λj=>(f j).5 λx=>(j,(x))).5 (·.1)).11:=by
 rw[Nb];change List.Pairwise _ _;rw[pairwise_map,List.pairwise_filterMap];show List.Pairwise.imp ?_ (List.pairwise_lt_range)
 ext
theorem Ng(n)(T:HD t b.27):HD (relayAll t b n).2.1 (relayAll t b n).1.size/\(relayAll t b n).2.1.led=t.led:=by
 unfold relayAll;cases e:t.relaid (b.5 (·.1)) n with
 |none=>show HE t b.27
 |some q=>
  let(l,d):=q;simp only;split
  ·rename_i h;rw[Bool.and_eq_true]at h;let(a,_,i):=Option.bind_eq_some_iff.mp e;cases i;show((h.2,Rx (λj=>a.45 j J) _,Y),Y)
  ·show HE t b.27
theorem Tz(b)(T:HD t n):HD {t with plain:=b} n:=(T.fits,T.rise,T.nod)
theorem T4(a b)(d):HD (SetTable.fresh a b d) 0:=(by rfl,λi j e _ _=>absurd e (Nat.not_lt_zero _),rfl)
end
section
variable {prog:Program}{ω:Type} [DecidableEq ω]
structure kj(knd:KeyKind prog w ω)(k:ω)(e:Int×Value):Prop where
 is:knd.is k e.2=L
 hs:e.1=knd.hash k
 sc:e.2.scannable=L
def gN(b:KeyKind prog w ω)(h:Heap)(a:l7)(d:List ω)(f:Bool):Prop:=
 ∃(o:Obj)(g:Array (Int×Value))(ep:Nat)(t:SetTable)(i:List ω),h.13 a=U o/\o.ExactSet/\o.38=.set g ep t/\HD t g.27/\t.led=f/\i.Perm d/\Paired (kj b) i g.37/\g.27<scanBound
theorem Ry{w}{f:KeyKind prog w ω}{d}{b}(h:Paired (kj f) d b):ElemsOf f b:=by
 induction h with
 |nil=>intro e a;cases a
 |cons r t i=>
  intro e a;let rfl||a:=mem_cons.mp a
  ·show((_,r.is,r.hs),r.sc)
  ·show i e a
theorem Nh:∀{a:List ω}{f},Paired (kj b) a f->(f.findIdx? (λe=>b.is k e.2)).26=decide (k∈a)
 |_,_,.nil=>rfl
 |k'::a,e::f,.cons r t=>by
  rw[List.findIdx?_cons]
  let d:b.is k e.2=decide (k=k'):=by
   cases q:b.is k e.2 with
   |true=>rw[b.inj _ _ _ q r.is,zH rfl]
   |false=>
    symm
    show zK λz=>?_;rw[z,r.is]at q;cases q
  rw[d];by_cases z:k=k'
  ·rw[zH z,z];simp
  ·rw[zK z,zg qc];have:=Nh (k:=k) t;simp[Option.isSome_map,this,mem_cons,z,false_or]
theorem Ni(p:e.Perm b):∀{d:List ω},Paired (kj f) d b->∃a,a.Perm d/\Paired (kj f) a e:=by
 induction p with
 |nil=>grind
 |cons x p v=>
  intro d h;cases h with
  |cons r t=>
   let(a,q,i):=v t;show(_::a,q.cons _,.cons r i)
 |swap x y l=>
  intro d h;cases h with
  |cons r t=>
   cases t with
   |cons o t=>show(_::_::_,List.Perm.swap ..,.cons o (.cons r t))
 |trans z C u j=>
  grind
theorem gN.put{h:PySem.Heap}{o}(e:h.13 a=U o)(x:o.ExactSet)(d:o.38=.set r ep t){i}{b}{j:List ω} 
  (T:HD b i.27) (l:b.led=s) (p:j.Perm m) (q:Paired (kj g) j i.37) (f:i.27<scanBound):gN g (h.65 a (Obj.putSet i b)) a m s:=by
 show(_,i,ep+1,b,j,zQ _ e (by rw[putSet_of i b d];rfl),?_,?_,T,l,p,q,f)
 ·rw[putSet_of i b d];show(x.1,x.2.1,x.2.2)
 ·rw[putSet_of i b d]
theorem bo{s}{j:KeyKind prog w ω}{u}{x}{Q}(hx:j.is k x=L)(D:x.scannable=L)(hS:gN j s.15 a u m)(hn:u.3+1<scanBound)
  (h1:k∈u->Q O s) (h2:k∉ u->∀f,Heap.SameBut a s.15 f->gN j f a (k::u) m->Q L {s with heap:=f}):wpAny (model prog w) A (setAddHashed a x (j.hash k)) Q E s:=by
 let(o,y,ep,t,ks',e,R,d,T,hl,p,Y,hs):=hS;let el:=Ry Y
 let fg:y.27=u.3:=by
  have:=Y.3;rw[←p.63,this];simp
 apply zG;show zo (wpAny_setState_of e d T.fits ?_);change wpAny _ _ (if byScan x y=L then _ else _) _ _ _;rw[zf (byScan_of D hs el)];apply zo;apply zo
 wp_step
 show zo (wpAny_setScan_of hx e d T.fits el ?_);let X:=Nh (k:=k) Y;cases ab:y.toList.findIdx? (λe=>j.is k e.2)with
 |some aC=>
  rw[ab]at X;let hm:=p.mem_iff.mp (zR X.35);show zn (zn (h1 hm))
 |none=>
  rw[ab]at X;let(T1,U):=Rw (j.hash k) x T;let p1:=layNew_perm t y (j.hash k) x
  let hq:∃P,P.Perm (k::u)/\Paired (kj j) P (layNew t y (j.hash k) x).1.toList:=by
   let az:Paired (kj j) (ks'++[k]) (y.74 (j.hash k,(x))).37:=by
    rw[Array.toList_push];show Paired.snoc Y (hx,zd,D)
   let(k2,q2,h2'):=Ni p1 az;show(k2,q2.7 ((List.perm_append_comm).7 (p.cons k)),h2')
  let r:(layNew t y (j.hash k) x).1.size<scanBound:=by
   have:=p1.63;rw[Array.length_toList,Array.length_toList,Array.size_push]at this
   lia
  rw[hl]at U;generalize layNew t y (j.hash k) x=an at T1 U hq r ⊢;let(h,t1,wd,gv):=an;let(kn1,H,M):=hq;let r:h.27<scanBound:=r
  let I:∀t2,HD t2 h.27->t2.led=m->∀g:Bool->Sem Unit,(∀b i F,F Unit.unit i->wpAny (model prog w) A (g b) F E i) ->
    wpAny (model prog w) A (do storeSet a h t2;if (!wd&&t2.tooFull)=L then (do g (relayAll t2 h (SetTable.grown h.27)).2.2;storeSet a (relayAll t2 h (SetTable.grown h.27)).1 (relayAll t2 h (SetTable.grown h.27)).2.1;pure (gl L))else pure (gl L)) (λb v=>b=gl L/\∃f,Heap.SameBut a s.15 f/\gN j f a (k::u) m/\v={s with heap:=f}) E s:=λt2 S N g hg=>by
   show zo (wpAny_storeSet_of e d ?_ (fits_of_scanBound r));let B1:Heap.SameBut a s.15 (s.heap.65 a (Obj.putSet h t2)):=Heap.SameBut.update _ _ _;split
   ·show zo (hg _ _ _ ?_);let e1:(s.heap.65 a (Obj.putSet h t2)).13 a=gl (Obj.putSet h t2 o):=zQ _ e (by rw[putSet_of h t2 d];rfl);let d1:(Obj.putSet h t2 o).38=.set h (ep+1) t2:=by rw[putSet_of h t2 d]
    let x1:(Obj.putSet h t2 o).ExactSet:=by rw[putSet_of h t2 d];show(R.1,R.2.1,R.2.2)
    let(T3,l3):=Ng (SetTable.grown h.27) S;let p3:=relayAll_perm t2 h (SetTable.grown h.27)
    let G:(relayAll t2 h (SetTable.grown h.27)).1.size<scanBound:=by
     have:=p3.63;rw[Array.length_toList,Array.length_toList]at this
     lia
    let(k3,q3,pr3):=Ni p3 M;show zo (wpAny_storeSet_of e1 d1 (zn (zd,_,B1.7 (Heap.SameBut.update _ _ _),gN.put e1 x1 d1 T3 (l3.7 N) (q3.7 H) pr3 G,zd)) (fits_of_scanBound G))
   ·show zn (zd,_,B1,gN.put e R d S N H M r,zd)
  let as:∀{b:Option Bool}{v:lG},(b=gl L/\∃f,Heap.SameBut a s.15 f/\gN j f a (k::u) m/\v={s with heap:=f})->wpAny (model prog w) A (match b with|some al=>pure al|none=>setAddHashedIn a x (j.hash k) 99999) Q E v:=λ{b v}q=>by
   let(rfl,f,ag,ar,rfl):=q;show zn (h2 (λz=>absurd (p.mem_iff.53 z) (of_decide_eq_false X.35)) f ag ar)
  show zm ?_ (λb v q=>as q) (λ_ _ z=>z)
  let B:∀b i F,F Unit.unit i->wpAny (model prog w) A (match b with|true=>rule oZ |false=>pure Unit.unit) F E i:=λb i F C=>by
   cases b
   ·show zn C
   ·wp_step
    show C
  show zo (B gv s _ ?_)
  let go:∀l,wpAny (model prog w) A (do storeSet a h (if l=L then t1 else {t1 with plain:=O});if (!wd&&(if l=L then t1 else {t1 with plain:=O}).tooFull)=L then (do (match (relayAll (if l=L then t1 else {t1 with plain:=O}) h (SetTable.grown h.27)).2.2 with|true=>rule oZ |false=>pure Unit.unit);storeSet a (relayAll (if l=L then t1 else {t1 with plain:=O}) h (SetTable.grown h.27)).1 (relayAll (if l=L then t1 else {t1 with plain:=O}) h (SetTable.grown h.27)).2.1;pure (gl L))else pure (gl L)) (λb v=>b=gl L/\∃f,Heap.SameBut a s.15 f/\gN j f a (k::u) m/\v={s with heap:=f}) E s:=λl=>by
   cases l
   ·show I _ (Tz O T1) U _ B
   ·show I _ T1 U _ B
  split
  ·rw[hashByValue_scannable 8 D];show zo (zn (go _))
  ·show go L
end
mutual
noncomputable abbrev MG(w:World):Bool:=!w.44 oa
noncomputable def T5(P:Program)(w:World)(a:l7)(b:List Key):HO:=.ext λh=>gN (Ab P w) h a b (MG w)
theorem X6(b:gN (Ab P w) h a f (MG w)):fY P w H h a (T5 P w a f):=by
 show(b,?_,λq p i j=>?_)
 ·let(o,_,_,_,_,e,_):=b;show(o,e)
 ·let(o,l,ep,t,d,e,r):=i;show(o,l,ep,t,d,j _ e,r)
theorem X7(d:gG P w H h)(e:H a=U (T5 P w a b)):gN (Ab P w) h a b (MG w):=(d a _ e).1
open Classical in
noncomputable def Nj(acc:List Key)(k:Key):List Key:=if k∈acc then acc else k::acc
theorem T6(h:(Ab P w).is k v=L):v.scannable=L:=by
 cases v<;>first|rfl| (cases k<;>cases h)
theorem Rz(e:h.13 d=U {cls:=.type qF,data:=.set #[] 0 (SetTable.fresh 0 0 (MG w))}):gN (Ab P w) h d [] (MG w):=
 (_,#[],0,_,[],e,(rfl,rfl,rfl),rfl,T4 _ _ _,rfl,List.Perm.refl _,.nil,qc)
theorem dZ:Slot nC "__next__" oI:=
 .of (by rfl) (by rfl) (by rfl) (by rfl)
  (_) (by rfl)
theorem Bw:entryFor table oI=U Builtin.«set_iterator.__next__»:=entryFor_of_tree (by rfl)
theorem CH(a):argsOk oI ([a],[]):=by kernel_rfl
theorem Jk:entryFor table "set.__iter__"=U Builtin.«frozenset.__iter__»:=entryFor_alias (id':="frozenset.__iter__") qd (by rfl) qb qd
theorem GU{d:Type}:∀(b:List d)i h,(b[i]::b.eraseIdx i).Perm b
 | [],i,h=>absurd h (_)
 |x::r,0,h=>List.Perm.refl _
 |x::r,i+1,h=>(List.Perm.swap ..).7 ((GU r i (_)).cons x)
def ja(h:Heap)(I a:l7)(first:Value)(i n ep:Nat):Prop:=∃o,h.13 I=U o/\o.78=.type nC /\ o.38=.fields #[first,.int i 0,.ref a,.int n 0,.int ep 0]
theorem ja.typeIs{s:PySem.Shared}(x:ja s.15 I a first i n ep):s.TypeIs (.ref I) nC:=by let(o,e,d,_):=x;show (o,e,d)
theorem MH(a:n≠0)(h:∀i d,i<n->Q i {s with drawn:=d}):wpAny (model prog w) A (choose b n) Q E s:=λΓ p e=>(a,h _ _ (Nat.mod_lt _ ()))
theorem Eo{g}:∀n(b:List g)s{Q},b.3<=n->(∀f d,List.Perm f b->Q f {s with drawn:=d})->wpAny (model prog w) A (drawOrder n b) Q E s
 |0,b,s,Q,j,h=>by
  let e:=List.length_eq_zero_iff.mp (Nat.le_zero.mp j);subst e;unfold drawOrder;show zn (h _ s.drawn (_))
 |n+1,[],s,Q,j,h=>by
  show zn (h _ s.drawn (_))
 |n+1,x::r,s,Q,j,h=>by
  show zo (MH (_) λi d l=>?_);rw[z7 l]
  let a:((x::r).eraseIdx i).3<=n:=by
   rw[List.length_eraseIdx,zf l]
   lia
  show zo (Eo n _ _ a λf p o=>zn (h _ p ((o.cons _).7 (GU _ _ l))))
theorem QN{b}(next):∀a k(left:List b)d,left.3<=a->(pickOrder.go next a k left d).toList.Perm (d.37++left)
 |0,k,left,d,h=>by
  let e:=List.length_eq_zero_iff.mp (Nat.le_zero.mp h);subst e;unfold pickOrder.go;simp
 |a+1,k,[],d,h=>by
  unfold pickOrder.go;simp
 |a+1,k,x::r,d,h=>by
  unfold pickOrder.go;let j:next k%(x::r).3<(x::r).3:=Nat.mod_lt _ (_)
  rw[z7 j]
  let i:((x::r).eraseIdx (next k%(x::r).3)).3<=a:=by
   rw[List.length_eraseIdx,zf j]
   lia
  apply (QN next a (k+1) _ _ i).7;rw[Array.toList_push,append_assoc];show(GU _ _ j).append_left _
theorem LG{d}(next)(b:Array d):(pickOrder next b).toList.Perm b.37:=by
 show(QN next b.27 0 b.37 #[] (_)).7 (_)
theorem HF{s}{w}{x}{a}{prog}{I}{g nx i n ep:Nat}{o}{b}{t}(f:ja s.15 I a (.int g 0) i n ep)(m:s.9 a=U o)(hd:o.38=.set b ep t)(l:t.fits b.27=L)(p:b.27=n)
  (h:∀{A}{E:VS}{Q},Q (U (x,(nx))) s->wpAny (model prog w) A (setNext a g i ep) Q E s)
  (j:∀d,ja d I a (.int nx 0) (i+1) n ep->Heap.SameBut I s.15 d->Q (U x) {s with heap:=d}):wpAny (model prog w) A (pyNext (.ref I)) Q E s:=by
 let(oi,hoi,hci,hdi):=id f
 show zo (wpAny_attempt (wpAny_callSpecial?_slot f.46 dZ
  (wpAny_call_entry dZ f.46 Bw ?_ (CH _))))
 show zo (zn ?_);show zo (wpAny_fieldsOf hoi hdi (zo (wpAny_setEntries_of m hd l ?_)));rw[zg (_)];show zo (h (zo (wpAny_setField hoi hdi (_) ?_)));let r:=zQ (Obj.mapFields (·.22 0 (rawInt nx))) hoi (Obj.isFreed_of_fields (Obj.data_mapFields hdi _));let q:=Obj.data_mapFields hdi (·.22 0 (rawInt nx));show zo (wpAny_setField r q (_) ?_);show zn (7,zn (j _ (_,zQ _ r (Obj.isFreed_of_fields (Obj.data_mapFields q _)),(Obj.cls_mapFields ..).7 ((Obj.cls_mapFields ..).7 hci),by rw[Obj.data_mapFields q];rfl) ((Heap.SameBut.update ..).7 (Heap.SameBut.update ..))))
theorem Iz{s}{w}{a}{prog}{I}{g i n ep:Nat}{o}{b}{t}(m:A.49=J)(d:ja s.15 I a (.int g 0) i n ep)(p:s.9 a=U o)(hd:o.38=.set b ep t)(l:t.fits b.27=L)(q:b.27=n)
  (h:∀{A}{E:VS}{Q},Q J s->wpAny (model prog w) A (setNext a g i ep) Q E s)
  (j:∀f,Heap.ExtBut I s.15 f->Q J {s with heap:=f}):wpAny (model prog w) A (pyNext (.ref I)) Q E s:=by
 let(oi,hoi,hci,hdi):=id d
 show zo (wpAny_attempt (wpAny_callSpecial?_slot d.46 dZ
  (wpAny_call_entry dZ d.46 Bw ?_ (CH _))))
 show zo (zn ?_);show zo (wpAny_fieldsOf hoi hdi (zo (wpAny_setEntries_of p hd l ?_)));rw[zg (_)];show zo (h (zo (wpAny_setField hoi hdi (_) ?_)));apply zo;show zo (wpAny_newObj_type (zo (wpAny_of_eq (by rfl) ?_)) (by size_fits));show wpAny_newObj_type (zo (wpAny_handled ?_)) (by size_fits);rw[show A.in1.49=J from m];show zo (zn (wpAny_throw ?_));show zo (wpAny_isInstance (_,zJ _ Y,Y) isSubtype_stop ?_);show zn (j _ (((Heap.SameBut.update ..).extBut.74 _).74 _))
theorem MJ{s}{w}{x}{a}{E:VS}{prog}{A}{I}{i n ep}{o}{j}{t}{Q}{T}{q}{tp}{m pl:Nat}{F}(e:ja s.15 I a (.ref T) i n ep)(v:s.9 a=U o)(u:o.38=.set j ep t)(r:t.fits j.27=L)(G:j.27=n)
  (y:s.9 T=U q) (l:q.38=.seq tp m) (D:tp[i]?=U (.int pl 0)) (z:j[pl]?=U (F,(x)))
  (C:∀b,ja b I a (.ref T) (i+1) n ep->Heap.SameBut I s.15 b->Q (U x) {s with heap:=b}):wpAny (model prog w) A (pyNext (.ref I)) Q E s:=by
 let(H,h,p,d):=id e
 show zo (wpAny_attempt (wpAny_callSpecial?_slot e.46 dZ
  (wpAny_call_entry dZ e.46 Bw ?_ (CH _))))
 show zo (zn ?_);show zo (wpAny_fieldsOf h d (zo (wpAny_setEntries_of v u r ?_)));rw[zg (_)];apply zo;show zo (wpAny_load y ?_);rw[l];apply zn
 dsimp only
 rw[Int.toNat_natCast,D];show zo (zo (wpAny_setState_of v u r ?_))
 dsimp only
 rw[zg (_),Int.toNat_natCast,z];apply zn;show zo (wpAny_setField h d (_) ?_);show zn (7,zn (C _ (_,zQ _ h (Obj.isFreed_of_fields (Obj.data_mapFields d _)),(Obj.cls_mapFields ..).7 p,by rw[Obj.data_mapFields d];rfl) (Heap.SameBut.update ..)))
theorem Nk(q:A.49=J)(e:ja s.15 I a (.ref T) i n ep)(z:s.9 a=U o)(x:o.38=.set l ep t)(r:t.fits l.27=L)(C:l.27=n)
  (p:s.9 T=U f) (j:f.38=.seq tp m) (y:tp[i]?=J)
  (u:∀b,Heap.ExtBut I s.15 b->Q J {s with heap:=b}):wpAny (model prog w) A (pyNext (.ref I)) Q E s:=by
 let(D,h,v,d):=id e
 show zo (wpAny_attempt (wpAny_callSpecial?_slot e.46 dZ
  (wpAny_call_entry dZ e.46 Bw ?_ (CH _))))
 show zo (zn ?_);show zo (wpAny_fieldsOf h d (zo (wpAny_setEntries_of z x r ?_)));rw[zg (_)];apply zo;show zo (wpAny_load p ?_);rw[j];apply zn
 dsimp only
 rw[Int.toNat_natCast,y];show zo (wpAny_setField h d (_) (zo (wpAny_setField (zQ (Obj.mapFields (·.22 0 (rawInt 0))) h (Obj.isFreed_of_fields (Obj.data_mapFields d _))) (Obj.data_mapFields d (·.22 0 (rawInt 0))) (_) ?_)));apply zo;show zo (wpAny_newObj_type (zo (wpAny_of_eq (by rfl) ?_)) (by size_fits));show wpAny_newObj_type (zo (wpAny_handled ?_)) (by size_fits);rw[show A.in1.49=J from q];show zo (zn (wpAny_throw ?_));show zo (wpAny_isInstance (_,zJ _ Y,Y) isSubtype_stop ?_);show zn (u _ ((((Heap.SameBut.update ..).7 (Heap.SameBut.update ..)).extBut.74 _).74 _))
theorem Ep:Slot nC "__iter__" oJ:=
 .of (by rfl) (by rfl) (by rfl) (by rfl)
  (_) (by rfl)
theorem IE:entryFor table oJ=U Builtin.«dict_keyiterator.__iter__»:=entryFor_alias (id':="dict_keyiterator.__iter__") qd (by rfl) qb qd
theorem JE(a):argsOk oJ ([a],[]):=by kernel_rfl
theorem ja.at(x:ja h I a first i n ep)(e:∀o,h.13 I=U o->b.13 I=U o):ja b I a first i n ep:=let(o,d,r):=x;(o,e _ d,r)
theorem PB(d:ja s.15 I a first i n ep)(h:Q (.ref I) s):wpAny (model prog w) A (pyIter (.ref I)) Q E s:=by
 show wpAny_pyIter_slot d.46 Ep (wpAny_call_entry Ep d.46 IE (zn (7,nC,_,d.46,dZ.8,h)) (JE _))
theorem IF{G:Nat->Value->Prop}{vs:lx}(C:a≠I)(t:T≠I)
  (D:∀i s first,i<n->s.9 a=U o->s.9 T=U B->ja s.15 I a first i n ep->G i first->∀Q(E:VS),(∀d m v,vs[i]?=U v->ja m I a d (i+1) n ep->G (i+1) d->Heap.SameBut I s.15 m->Q (U v) {s with heap:=m})->wpAny (model prog w) A (pyNext (.ref I)) Q E s)
  (u:∀s first,s.9 a=U o->s.9 T=U B->ja s.15 I a first n n ep->G n first->∀Q(E:VS),(∀m,Heap.ExtBut I s.15 m->Q J {s with heap:=m})->wpAny (model prog w) A (pyNext (.ref I)) Q E s):
  WalksS prog w A I [I,a,T] [I] (λa b=>b=a) n (λi v=>vs[i]?=U v) (λi s=>s.9 a=U o/\s.9 T=U B/\∃first,ja s.15 I a first i n ep/\G i first) where
 sub:=λb q=>by ext
 grefl:=λ_=>rfl
 gtrans:=λ_ _ _ N X=>X.7 N
 frame:=λi s m S st _ F=>(F a (_) _ st.1,F T (_) _ st.2.1,by let(f,x,g):=st.2.2;show (f,x.at λo e=>F I (_) o e,g))
 item:=λi s Q E R st j=>by
  let(r,p,first,h,g):=st;show D i s first R r p h g Q E λd m v P l M y=>j v _ P ((y.2 a C).7 r,(y.2 T t).7 p,d,l,M) (λb H q e=>(y.2 b (λz=>q (by simp[z]))).7 e,Y,Y,Y,zp _)
 done:=λs Q E st j=>by
  let(r,p,first,h,g):=st;show u s first r p h g Q E λm ab=>j _ (λb H q e=>ab b H (λz=>q (by simp[z])) e,Y,Y,Y,zp _)
 self:=λi s Q E st j=>by let(_,_,f,x,_):=st;show PB x j
theorem PD(d:HB b):SetTable.below b 0=0:=by
 let B:=HC d 0;let h||h:=Nat.eq_zero_or_pos (SetTable.below b 0)
 ·show h
 ·show absurd (B.lo 0 (zX h B.le) h) (_)
theorem PJ(f:HB b)(d:i<b.27):SetTable.below b (b[i]+1)=i+1:=by
 let B:=HC f (b[i]+1)
 let o:i<SetTable.below b (b[i]+1):=by
  let h||h:=Nat.lt_or_ge i (SetTable.below b (b[i]+1))
  ·show h
  ·show absurd (B.hi i d h) ()
 let j:SetTable.below b (b[i]+1)<=i+1:=by
  let h||h:=Nat.lt_or_ge (i+1) (SetTable.below b (b[i]+1))
  ·have a:=zX h B.le;let e:=B.lo (i+1) a h;let l:=f i (i+1) d a (_)
   lia
  ·show h
 lia
theorem LH(p:s.9 a=U o)(j:o.38=.set l ep t)(d:t.fits l.27=L)(b:w.44 oa=L)
  (h:Q ((pickOrder (w.52 a ep) l)[i]?.5 λe=>(e.2,(f))) s):wpAny (model prog w) A (setNext a f i ep) Q E s:=by
 show zo (wpAny_setState_of p j d (zo (zo (wpAny_askSetting (zn ?_)))));change wpAny _ _ (if w.44 oa=L then _ else _) _ _ _;rw[zf b,zg (_)];show zo (zo (wpAny_setState_of p j d (zo (zo (wpAny_askSetting (zn ?_))))));change wpAny _ _ (if w.44 oa=L then _ else _) _ _ _;rw[zf b];show zo (wpAny_askSetting (zn (zn h)))
theorem LI(p:s.9 a=U o)(l:o.38=.set d ep t)(e:t.fits d.27=L)(f:w.44 oa=O)(q:t.led=L)(r:(!t.plain&&decide (d.27>1))=O)
  (h:Q (match d[SetTable.below t.place b]?,t.place[SetTable.below t.place b]? with|some (_,x),U j=>U (x,(j+1))|_,_=>J) s):wpAny (model prog w) A (setNext a b i ep) Q E s:=by
 show zo (wpAny_setState_of p l e (zo (zo (wpAny_askSetting (zn ?_)))));change wpAny _ _ (if w.44 oa=L then _ else _) _ _ _;rw[zg (_)];change wpAny _ _ (if (!t.plain&&decide (d.27>1))=L then _ else _) _ _ _;rw[zg (_)];change wpAny _ _ ((if (!t.led && !d.isEmpty)=L then unsupported _ else pure Unit.unit) >>= _) _ _ _;rw[zg (_)];show zo (zn (zn h))
theorem PL{g j:Type}(a:Array g)(f)(z:j){b:List Nat}(e:b.Perm (List.range a.27)):(b.5 λi=>(a[i]?.5 f).45 z).Perm (a.toList.5 f):=by
 show(e.5 _).7 (List.Perm.of_eq (List.ext_getElem (_) λi h d=>?_));simp at h d;simp[d]
theorem PM(hx:o.ExactSet)(j:s.9 a=U o)(hd:o.38=.set g ep t)(h:HD t g.27)(hl:t.led=MG w)(hb:g.27<scanBound)
  (m:∀l d I fp(vs:lx)St,vs.Perm (g.toList.5 (·.2))->(∀A,A.49=gt->WalksS prog w A I fp [I] (λa b=>b=a) g.27 (λi aM=>vs[i]?=U aM) St)->St 0 {s with heap:=l,drawn:=d} ->
   (∀b o,s.9 b=U o->l.13 b=U o)->s.4<=I->(∀b∈fp,b=a\/s.4<=b)->as (.ref I) {s with heap:=l,drawn:=d}):
  wpAny (model prog w) A (pyIter (.ref a)) as aR s:=by
 let hT:s.TypeIs (.ref a) qF:=(o,j,hx.1);let eh:=lt_size j
 let a0:t.place.27=g.27:=by
  have:=h.fits;unfold SetTable.fits at this;simp at this;show this.1
 show wpAny_pyIter_slot hT slot_set_iter (wpAny_call_entry slot_set_iter hT Jk (zo (zn ?_)) (args_set_iter_1 _));show zo (zo (wpAny_setEntries_of j hd h.fits (zn (zo (zo (wpAny_setState_of j hd h.fits ?_))))));show zo (zo (wpAny_askSetting (zn (zn ?_))));change wpAny _ _ (if (!w.44 oa && (!t.plain&&decide (g.27>1)))=L then _ else _) _ _ _;cases E:w.44 oa with
 |true=>
  show zo (zn ?_);show zo (wpAny_setEpoch_of j hd h.fits (zo (wpAny_newObj_type (zn (7,nC,_,(_,zJ _ Y,Y),dZ.8,?_)))));let v:=zu eh
  let a1:(pickOrder (w.52 a ep) g).27=g.27:=by
   have:=(LG (w.52 a ep) g).63;simpa using this
  show m _ s.drawn _ [s.4,a,a] ((pickOrder (w.52 a ep) g).toList.5 (·.2)) _ ((LG _ g).5 _) (λA' B=>IF (G:=λi f=>f=.int 0 0) v v ?_ ?_) (zT _ j,zT _ j,_,(_,zJ _ Y,Y,Y),Y) (λb o e=>zT _ e) (zp _) ?_
  ·rintro i H first X p _ r rfl z y q
   let C:(pickOrder (w.52 a ep) g)[i]?=U (pickOrder (w.52 a ep) g)[i]:=Array.getElem?_eq_getElem ();show HF (x:=(pickOrder (w.52 a ep) g)[i].2) r p hd h.fits Y (λ{P Q R}S=>LH p hd h.fits E ?_) (λl D M=>q _ l _ ?_ D Y M)
   ·rwa[C]
   ext
  ·rintro H first p _ r rfl z y q
   let C:(pickOrder (w.52 a ep) g)[g.27]?=gt:=Array.getElem?_eq_none ();show Iz B r p hd h.fits Y (λ{P Q R}S=>LH p hd h.fits E ?_) q
   rwa[C]
  ext
 |false=>
  let ag:t.led=L:=by rw[hl];change(!w.44 oa)=L;rw[E];rfl
  cases hp:(!t.plain&&decide (g.27>1))with
  |false=>
   show zo (zn ?_);show zo (wpAny_setEpoch_of j hd h.fits (zo (wpAny_newObj_type (zn (7,nC,_,(_,zJ _ Y,Y),dZ.8,?_)))));let v:=zu eh;show m _ s.drawn _ [s.4,a,a] (g.toList.5 (·.2)) _ (_) (λA' B=>IF (G:=λi f=>∃N:Nat,f=.int N 0/\SetTable.below t.place N=i) v v ?_ ?_) (zT _ j,zT _ j,_,(_,zJ _ Y,Y,Y),0,Y,PD h.rise) (λb o e=>zT _ e) (zp _) ?_
   ·rintro i H first X p _ r ⟨N,rfl,ab⟩ z y q
    let C:=Array.getElem?_eq_getElem X;let jU:i<t.place.27:=by lia
    show HF (x:=g[i].2) r p hd h.fits Y (λ{P Q R}S=>LI p hd h.fits E ag hp ?_) (λl D M=>q _ l _ ?_ D (7,PJ h.rise jU) M)
    ·rwa[ab,C,Array.getElem?_eq_getElem jU]
    ext
   ·rintro H first p _ r ⟨N,rfl,ab⟩ z y q
    show Iz B r p hd h.fits Y (λ{P Q R}S=>LI p hd h.fits E ag hp ?_) q
    rwa[ab,Array.getElem?_eq_none (zp _)]
   ext
  |true=>
   show zo (Eo _ _ _ (_) λu d fq=>?_);let a2:u.3=g.27:=by rw[fq.63];simp
   let h4:scanBound=4096:=rfl;show zo (wpAny_newObj_type ?_ (by size_fits));let al:(s.23 {cls:=.type mm,data:=.seq (u.5 λ(i:Nat)=>rawInt i).11}).13 a=U o:=zT _ j;show zo (wpAny_setEpoch_of al hd h.fits (zo (wpAny_newObj_type (zn (7,nC,_,(_,zJ _ Y,Y),dZ.8,?_)))));let an:(s.23 {cls:=.type mm,data:=.seq (u.5 λ(i:Nat)=>rawInt i).11}).10=s.4+1:=Heap.size_push _ _;let v:a≠(s.23 {cls:=.type mm,data:=.seq (u.5 λ(i:Nat)=>rawInt i).11}).10:=by rw[an];show zu (_)
   let az:s.4≠(s.23 {cls:=.type mm,data:=.seq (u.5 λ(i:Nat)=>rawInt i).11}).10:=by rw[an];show zu (_)
   show m _ d _ [(s.23 {cls:=.type mm,data:=.seq (u.5 λ(i:Nat)=>rawInt i).11}).10,a,s.4] (u.5 λi=>(g[i]?.5 (·.2)).45 .none) _ (PL g _ _ fq) (λA' B=>IF (G:=λi f=>f=.ref s.4) v az ?_ ?_) (zT _ al,zT _ (zJ _ Y),_,(_,zJ _ Y,Y,Y),Y) (λb o e=>zT _ (zT _ e)) (_) ?_
   ·rintro i H first X p T r rfl z y q
    let aC:u[i]'()<g.27:=by
     have:=fq.mem_iff.mp (List.getElem_mem (n:=i) ());simpa using this
    show MJ r p hd h.fits Y T Y ?_ (Array.getElem?_eq_getElem aC) (λl D M=>q _ l _ ?_ D Y M)
    ·rw[List.getElem?_toArray,zx,z7 ()];rfl
    ext
   ·rintro H first p T r rfl z y q
    show Nk B r p hd h.fits Y T Y ?_ q
    ext
   ext
theorem No{f g}{F}{b e:List g}(p:e.Perm b):∀{d:List f},Paired F d b->∃a,a.Perm d/\Paired F a e:=by
 induction p with
 |nil=>intro d h;show(d,List.Perm.refl _,h)
 |cons x p z=>
  intro d h;cases h with
  |cons r t=>
   let(a,u,D):=z t;show(_::a,u.cons _,.cons r D)
 |swap x y l=>
  intro d h;cases h with
  |cons r t=>
   cases t with
   |cons v t=>show(_::_::_,List.Perm.swap ..,.cons v (.cons r t))
 |trans E H j i=>
  intro d h;let(G,q2,o):=i h;let(C,q1,q):=j o;show(C,q1.7 q2,q)
theorem Jl:∀{a}{b},Paired (kj (Ab P w)) a b->Paired (λk v=>RelV (kV k) v) a (b.5 (·.2))
 |_,_,.nil=>.nil
 |_,_,.cons r t=>.cons (EI r.is) (Jl t)
theorem WC:typeLookup (.type qF) qz=pure (U (.builtin "set.__len__")):=by rfl
theorem Np(X:A.49=J)(N:o.ExactSet)(f:s.9 a=U o)(hd:o.38=.set F ep t)(an:HD t F.size)(m:t.led=MG ag)(p:F.size<scanBound)
  (g:∀D acc,(∀b o,s.9 b=U o->D.9 b=U o)->D.gens=s.gens->D.os=s.os->acc.Perm (F.toList.map (·.2))->Q acc D):
  wpAny (model prog ag) A (collect (.ref a)) Q ar s:=by
 let T:=lt_size f;let E:=zu T
 let hn:F.size<=sizeLine:=by
  let h4:scanBound=4096:=rfl;have:sizeLine=2^24:=rfl
  lia
 show zo (wpAny_runValue (codeAny_builtin entry_proto_collect ?_));show zo (wpAny_newObj_type (zn (plainId_quiet plain_list_iadd _,codeAny_builtin entry_list_iadd ?_)));change wpAny _ A.in1 (Builtin.List.listExtendWith (.ref s.4) (.ref a) (.ref s.4)) _ _ _;let y:(s.23 {cls:=.type md,data:=.seq ([]).11}).13 a=U o:=zT _ f;show zo (wpAny_typeOf ((o,y,N.1)) ?_);let h1:Builtin.List.listSameRef (.ref s.4) (.ref a)=O:=by simp[Builtin.List.listSameRef,Ne.symm E]
 let h2:(Value.type qF == Value.type md)=O:=by decide
 let h3:(Value.type qF == Value.type mm)=O:=by decide
 simp[h1,h2,Bool.or_false,if_false];show zo (PM N y hd an m p λw d I P vs St al W M keep hI as=>?_);let u:Shared.TypeIs {s with heap:=w,drawn:=d} (.ref a) qF:=(o,keep _ _ y,N.1);show zo (zG (zo (wpAny_specialOf u WC ?_)))
 wp_delta
 show zo (wpAny_isInstance u (by rfl) (zo (wpAny_typeOf u ?_)));apply zn;let R:(s.23 {cls:=.type md,data:=.seq ([]).11}).10=s.4+1:=Heap.size_push _ _
 let G:s.4∉ P:=λv=>by
  grind
 let z:=keep _ _ (zJ _ rfl);show zo (wpAny_rule ?_);apply zo;show zo (wpAny_updateSeq z Y ?_);let l:=zQ (Obj.mapSeq (·.74 Value.none)) z rfl;apply wpAny_updateSeq (hz:=by seq_fits) l rfl;let x:=zQ (Obj.mapSeq (·.pop)) l rfl
 let H:∀b o,b≠s.4->w.13 b=U o->((w.65 s.4 (Obj.mapSeq (·.74 Value.none))).65 s.4 (Obj.mapSeq (·.pop))).13 b=U o:=
  λb o p e=>(zS _ _ (Ne.symm p)).7 ((zS _ _ (Ne.symm p)).7 e)
 show zn (plainId_quiet plain_extend_loop _,codeAny_extend_loopS (W A.in1 X) hn _ G _ F.size 0 _ _ _ Y (Nat.zero_le _) ((W A.in1 X).frame 0 {s with heap:=w,drawn:=d} _ s.62 M (zp _) λb p o e=>H b o (λh=>G (h ▸ p)) e) x (ItemsOf.nil _) λD j c' v S r=>zo (wpAny_load S ?_));show zn (g D j.37 (λb ob e=>v.15 b ob (λp=>?_) (H _ _ (zu (lt_size e)) (keep _ _ (zT _ e)))) v.gens v.os ?_)
 ·have C:=lt_size e;let h||h:=mem_cons.mp p
  ·show absurd C (h ▸ zy _)
  ·rw[zz.mp h]at C;let B:s.4+1<=I:=by rwa[←R]
   show absurd (zX C (Nat.le_of_succ_le B)) (zy _)
 ·have e:j.37=vs:=by
   show List.ext_getElem? λi=>?_;rw[Array.getElem?_toList];cases q:j[i]? with
   |none=>
    let hv:vs.3=F.size:=by rw[al.63];simp
    rw[Array.getElem?_eq_none_iff,r.1]at q;rw[List.getElem?_eq_none ()]
   |some ab=>show(r.2 i ab q).35
  rwa[e]
theorem Inv.went(I:Inv X g h H s)(k:∀b u,s.9 b=U u->f.9 b=U u)(d:f.gens=s.gens)(e:f.os=s.os):Inv X g h H f:=by
 let a:=I.75 (t':=f.62) k;show(a.ok,e.7 I.os,d ▸ I.73,a.39,a.loc,a.cell,a.free,a.gi,a.pin,a.eA,a.61)
theorem QO(e:∀o,h.13 a=U o->b.13 a=U o)(x:gN (Ab P w) h a f g):gN (Ab P w) b a f g:=
 let(o,i,ep,t,d,q,r):=x;(o,i,ep,t,d,e _ q,r)
theorem WD(acc)(k):acc.3<=(Nj acc k).3:=by
 unfold Nj;split
 ·show zp _
 ·show Nat.le_succ _
theorem Es 
    (g:codeAny (model prog w) A (.compLoop (.SetComp f ((o,iter,i,0)::m) scope l) 0 j acc env) R s)
    (h:wpAny (model prog w) A (pyIter j) (λd b=>codeAny (model prog w) A (.compLoop (.SetComp f ((o,iter,i,0)::m) scope l) 0 d acc env) R b)
      (notedBy (model prog w) A env λx b=>R (.error x) b) s):
    codeAny (model prog w) A (.compStart (.SetComp f ((o,iter,i,0)::m) scope l) 0 j acc env) R s:=by
  apply codeAny_of_tree;apply wpAny_notedAt;show zo (wpAny_askSetting (wpAny_ite ?_));split
  · first
      |show zo (zn (zn (And.intro rfl g)))
      |show zn (And.intro rfl g)
  · first
      |show zo (wpAny_rule (zo (zF (zo (zm h (λd b p=>zn (And.intro rfl p)) λ_ _ x=>x)))))
      | (show zo (wpAny_rule ?_);change wpAny _ _ (standAt iter.pos >>= _) _ _ s;show zo (zF (zo (zm h (λd b p=>zn (And.intro rfl p)) λ_ _ x=>x))))
theorem Nq(h:(Ab prog w).is k x=L)(i:gN (Ab prog w) s.15 a f g)(q:f.3+1<scanBound)
  (y:k∈f->Q .none {s with toks:=s.62+1}) (p:k∉ f->∀b,Heap.SameBut a s.15 b->gN (Ab prog w) b a (k::f) g->Q .none {s with heap:=b,toks:=s.62+1}):
  wpAny (model prog w) A (call (.builtin "set.add") [.ref a,x]) Q E s:=by
 let j:s.TypeIs (.ref a) qF:=by
  let(o,z,ep,t,u,e,r,_):=id i;show(o,e,r.1)
 show wpAny_call_entry slot_set_add j entry_set_add ?_ (args_set_add_2 _ _);unfold Builtin.«set.add» Builtin.Frozenset.oneOther;simp only[List.isEmpty_nil,bind_assoc];show zo (zn (zo (zn ?_)));apply zo;show zG (zo ((Ab prog w).pyHash h (bo h (T6 h) i q (λd=>?_) (λd b v l=>?_))))
 ·show zn (7,y d)
 ·show zn (7,p d b v l)
noncomputable abbrev ZY(b:Expr)(D:l7)(env:Env):Sem Unit:=do
 let v ←eval b env
 standAt b.pos
 let _ ←call (.builtin "set.add") [.ref D,v]
abbrev ML{d:Type}(b:List d):Prop:=b.3<=1000
abbrev taS(b:TE):TAd (List Key):=λf g H N=>b g H λy d=>∃k,y=kV k/\N (Nj f k) d
abbrev X8(d:TI)(g:TG)(tt:TT)(b:TE):=Hy [] ML d g tt (taS b)
abbrev RAs(P:Program)(w:World)(h:Heap)(D:l7)(b:List Key):Prop:=gN (Ab P w) h D b (MG w)
theorem T7:RV P w (.SetComp b [(g,iter,f,0)] scope m) (newSet (.type qF)) g iter f (ZY b) [] ML (T5 P w) (RAs P w) where
 cl:=rfl
 new:=by
  show({cls:=.type qF,data:=.set #[] 0 (SetTable.fresh 0 0 (MG w))},rfl,(λv z=>nomatch z),λh D e=>Rz e,λA Q E s h=>zo (zo (wpAny_askSetting (zn ?_))));show wpAny_newObj_type h
 turn:=λA o D i=>(rfl,rfl)
 start:=λA R s o D i l j=>Es l j
 at_:=λh r D a d q=>QO q d
 fin:=λH h D a t p d=>X6 d
theorem WE(f:PE X g m):PAd X (ZY g) ML (RAs X.14 X.w) (taS m):=by
 intro D A d F s M H N I a B S q;show zo (eI (f _ s M H _ I q) λy P w=>?_);let(z,J,E,R,j,ek,h):=w;subst ek;show zo (zF ?_);let hz:=S _ _ h
 let p:d.3+1<scanBound:=by
  let h1:=WD d j;have:4096=scanBound:=rfl
  lia
 let G:=QO (λo e=>by rw[I.iE.1]at e;cases e;show E.iE.1) B;show zo (Nq (E4 R) G p (λx=>?_) (λx h2 t i=>?_))
 ·have r:Nj d j=d:=by unfold Nj;rw[zf x]
  rw[r]at h;show zn (A,d,J,E.tok (P.62+1),G,h)
 ·have r:Nj d j=j::d:=by unfold Nj;rw[zg x]
  rw[r]at h;let(l,ar2,Z,t2,Q,q,T,u,C):=id i;show zn (l,_,J,E.reD a (λb p=>t.2 b p) q (λv z=>by rw[u]at z;cases z),i,h)
theorem R0(h)(a)(r:Fv X.28 scope X.N (x::h) (J::a)=L)(j:(x::h).29)(o:scope.12 x=U .local)(t:X.calm=L)(u:PI X (.Name x v) iter y)
  (ht:∀e s H C i d,jk (BU X (x::h) scope e s H C i d) g tt) (q:∀e s H C i d,PE (BU X (x::h) scope e s H C i d) b m)
  (f:∀x,foldedSetIterable iter X.21 x=pure x:=by intro _;rfl):
  PE X (.SetComp b [(.Name x v,iter,g,0)] scope A) (λz H Q=>X8 y (Bt 0) tt m (J::a) (λw l=>∀p,l p=J->Q (.ref p) (upd l p (T5 X.14 X.w p w))) z H):=
 Dx T7 CV (eT.of r) (λ_ _ _ _ _ _=>t) u.g (λe s H C i d=>Gy (A5 j rfl (.inl (z4 o)) (.inr (z4 o)))) ht (λ_ _ _ _ _ _ _=>WE (q _ _ _ _ _ _)) f rfl
theorem Jm:∀{a},Vals (d.5 V.str) a->StrsAre a d:=by
 induction d with
 |nil=>intro a r;cases r;show .nil
 |cons x d i=>
  intro a r;cases r with
  |cons h t=>
   let(e,rfl):=(h);show .cons x e (i t)
theorem GV:∀{vs}{a},StrsAre vs a->Vals (a.5 V.str) vs
 |_,_,.nil=>.nil
 |_,_,.cons x t h=>.cons (t,rfl) (GV h)
theorem MM(m:X.calm=ii):eW X (.builtin pM) (λg H Q=>∃(a:l7)(j:lr),g=[.ref a]/\H a=U (T5 X.14 X.w a (j.5 Sum.inr))/\j.3<64 /\
  ∀l f,H l=J->f.Perm j->sortedS f=ii->Q (.ref l) (upd H l (.lst (f.5 V.str)))):=by
 rintro R an az H g us Q I r ⟨a,j,rfl,w,al,q⟩;let(as,rfl,ru):=Bq r;cases ru;let(o,ar,ep,t,ks',ho,hx,hd,ω,hl,hp,L,hb):=X7 I.eA w;apply Calls.call_function_entry kind_sorted plain_sorted entry_sorted (args_sorted1 _);show zo (zn (zo (Np (I.66 m) hx ho hd ω hl hb λG acc keep A M z=>?_)));let(F,p2,h2):=No z (Jl L)
 let(D,e2):∃D:lr,F=D.5 Sum.inr:=by
  show⟨F.map λk=>match k with|Sum.inl i=>"" |Sum.inr x=>x,?_⟩;rw[map_map];show(map_id F).symm.7 (List.map_congr_left λk hk=>?_)
  grind
 subst e2
 let C:D.Perm j:=by
  have:=(p2.7 hp).5 (λk=>match k with|Sum.inl i=>("":Str)|Sum.inr x=>x);simpa[Function.comp_def]using this
 let d:StrsAre acc D:=by
  show Jm (?_)
  have:∀{j:lr}{vs:lx},Paired (λk v=>RelV (kV k) v) (j.5 Sum.inr) vs->Vals (j.5 V.str) vs:=by
   intro j;induction j with
   |nil=>intro vs h;cases h;show .nil
   |cons x r P=>intro vs h;cases h with|cons r t=>show .cons r (P t)
  show this h2
 let eh:acc.3=j.3:=by
  rw[←C.63,←d.strs,AO]
 let B:acc.3<=sizeLine:=by
  have:sizeLine=2^24:=rfl
  lia
 show zo (wpAny_newList ?_ B);let s:=I.went keep A M;let y:(G.23 {cls:=.type md,data:=.seq acc.11}).13 G.4=U (seqObj md acc.11 0):=zJ _ rfl;show zo (zG (wpAny_call_entry slot_list_sort (_,y,Y) entry_list_sort (list_sort_treeK strKind_oneLt y d.keysOf (λag S ab e=>keyKind_strs (by rwa[←e])) () λE u N=>(7,zn (7,?_))) (args_list_sort _)));let(p,a1,a2,a3):=sorted_out_str d u N;let T:p.3=acc.3:=by rw[a2.63,←d.strs,AO]
 show(.ref G.4,_,s.laid (o:=.lst (p.5 V.str)) (λb o e=>?_) (zp _) (by simp_all,((arrOf E).5 (·.2)).37,?_),Y,q _ p (s.18 (zp _)) (a2.7 C) a3)
 ·rw[sortedHeap_old (zu (lt_size e)) (lt_size (zT _ e))];show zT _ e
 ·let(c,hcx):=sortedHeap_at y;show(c,GV a1,qe)
theorem Fx(m:X.calm=L):eW X (.builtin pM) (λg H Q=>∃(a:l7)(b:LK)(h:lr),g=[.ref a]/\Rd H a (.dK b)/\b.5 (·.1)=h.5 Sum.inr/\h.3<64 /\
  ∀l f,H l=J->f.Perm h->sortedS f=L->Q (.ref l) (upd H l (.lst (f.5 V.str)))):=by
 rintro D ab al H g us Q I r ⟨a,b,h,rfl,hd,A,az,q⟩;let(aM,rfl,ru):=Bq r;cases ru
 let G:b.3=h.3:=by
  have:=congrArg List.length A
  rwa[AO,AO]at this
 let(a4,ag,vs,E,dd):=CT I.eA hd;let(ep,da):=dd.dictAt;let P:=E.3;apply Calls.call_function_entry kind_sorted plain_sorted entry_sorted (args_sorted1 _);show zo (zn (zo (W.kdu_collect (W.kdl_dict ag) (I.66 m) da () λs tk acc keep F=>?_)))
 let S:acc.58=h.3:=by
  let B:acc.58=acc.27:=by simp
  rw[B,F.1,←P,G]
 show zo (wpAny_newList ?_ (by rwa[S,←G]))
 let d:StrsAre acc.37 h:=by
  show Jm (Co (_) λj aR w' u z=>?_);rw[Array.getElem?_toList]at z;let(k,x,ex,C):=F.2 j w' z;rw[zx]at u;cases w:b[j]? with
  |none=>
   exfalso
   ext
  |some kv=>
   let y:(h.5 Sum.inr)[j]?=U kv.1:=by rw[←A,zx,w];rfl
   rw[zx]at y;let(x',M,O):=z5.mp y;rw[M]at u;simp at u;let(v2,p,_):=KV.get E w;rw[ex]at p;simp at p;rw[p.1,←O]at C;rw[←u];show EI C
 let v:Inv X D al H {ab with heap:=s,toks:=tk}:=I.75 keep;let t:(s.74 {cls:=.type md,data:=.seq acc.toList.11}).13 s.10=U (seqObj md acc.toList.11 0):=zJ _ rfl;show zo (zG (wpAny_call_entry slot_list_sort (_,t,Y) entry_list_sort (list_sort_treeK strKind_oneLt t d.keysOf (λa0 an aC e=>keyKind_strs (by rwa[←e])) () λN R T=>(7,zn (7,?_))) (args_list_sort _)));let(i,a1,a2,a3):=sorted_out_str d R T;let ar:i.3=acc.58:=by rw[a2.63,←d.strs,AO]
 show(.ref s.10,_,v.laid (o:=.lst (i.5 V.str)) (λas o e=>?_) (zp _) (by simp_all,((arrOf N).5 (·.2)).37,?_),Y,q _ i (v.18 (zp _)) a2 a3)
 ·rw[sortedHeap_old (zu (lt_size e)) (lt_size (zT _ e))];show zT _ e
 ·let(c,hcx):=sortedHeap_at t;show(c,GV a1,qe)
abbrev TF:=Str->St->Hp->(Str->Hp->Prop)->Prop
def PF(X:Cx)(b:List Expr)(t:TF):Prop:=
 ∀g f s(d:St)H Q,Inv X f d H s->t g d H Q ->
  gm X (joinParts g (evalEach b X.21)) (EP X f d (λv h=>∃z,v=.str z/\Q z h)) X.xe s
def bp:TF:=λb _ H Q=>b.3<=sizeLine/\Q b H
def bq(c:Str)(t:TF):TF:=λb d H Q=>(b++c).3<=sizeLine/\t (b++c) d H Q
def bt(b:TE)(t:TF):TF:=λd f H Q=>b f H λx g=>∃i,x=.int i/\i.69<1920/\(d++Str.ofString (toString i)).3<=sizeLine/\t (d++Str.ofString (toString i)) f g Q
def bv(b:TE)(t:TF):TF:=λd f H Q=>b f H λx g=>∃z,x=.str z/\(d++z).3<=sizeLine/\t (d++z) f g Q
theorem T8:PF X [] bp:=λa d s e H Q I h=>joinParts_nil (.str a,H,I.tok _,(_,rfl),a,rfl,h.2) h.1
theorem PN(h:PF X b t):PF X (.Constant (.str c) k p::b) (bq c t):=λd a s e H Q I q=>
 joinParts_cons (Calls.Constant_str (q.1,h _ _ _ _ _ _ (I.tok _) q.2))
theorem PP(d:PE X e f)(h:PF X b t):PF X (.FormattedValue e (-1) J g::b) (bt f t):=by
 intro p a s v H Q I q;show joinParts_cons (wpAny_FormattedValue_plain (eI (d a _ v H _ I q) λu y w=>?_));let(x,C,j,r,q):=w;let(i,rfl,o,l,q):=q;let(z,rfl):=r;show PySem.wpAny_formatField_int o (l,h _ _ _ _ _ _ ((j.tok _).tok _) q)
theorem T9(i:PE X e f)(h:PF X b t):PF X (.FormattedValue e (-1) J g::b) (bv f t):=by
 intro j a s o H Q I q;show joinParts_cons (wpAny_FormattedValue_plain (eI (i a _ o H _ I q) λu v w=>?_));let(x,C,d,r,q):=w;let(z,rfl,l,q):=q;let(y,rfl):=r;let p:z.3<=sizeLine:=by rw[A3]at l;show Nat.le_trans (Nat.le_add_left _ _) l
 show PySem.wpAny_formatField_str (l,h _ _ _ _ _ _ d q) (l,h _ _ _ _ _ _ (d.tok _) q) p
def tFs(t:TF):TE:=λd H Q=>t Str.empty d H λz b=>Q (.str z) b
theorem XN(h:PF X (a::b::f) t):PE X (.JoinedStr (a::b::f) g) (tFs t):=by
 intro d s l H Q I q;show JoinedStr_many (eI (h Str.empty d s l H _ I q) λu o v=>?_);let(x,j,i,r,z,e,q):=v;subst e;show(_,j,i,r,q)
theorem R5(b):∀k,Vals (b.5 V.str) (strsFrom k b):=by
 induction b with
 |nil=>show λ_=>.nil
 |cons x r a=>show λk=>.cons (_,rfl) (a _)
def X9:V->ly->Hp->VK->Prop:=λx vs H Q=>∃z y,x=.str z/\vs=[.str y]/\(y.3==0)=O/\z.3<=sizeLine/\(Txt.split z y).3<=sizeLine /\
 ∀p,H p=J->Q (.ref p) (upd H p (.lst ((Txt.split z y).5 V.str)))
theorem Jn:MtM X "str.split" X9:=by
 rintro j s E H x vs v D Q I o r ⟨z,y,rfl,rfl,l,C,h,q⟩;let(t,rfl):=o;let(u,rfl,p):=r.one;let(i,rfl):=p;by_cases a:(decide (z.3<y.3)||decide (Builtin.Str.strKind z<Builtin.Str.strKind y))=L
 ·have e:Txt.split z y=[z]:=by unfold Txt.split;rw[zf a]
  rw[e]at q
  show call_meets F.slot_str_split (typeIs_str s z t) F.entry_str_split (F.args_str_split_2 _ _) (meets_str_split_cannot_occur z y t i a)
   (.ref _,_,I.lnew (its:=[.str z t]) (ys:=[V.str z]) (.cons (_,rfl) .nil) (show 1<=sizeLine by decide),rfl,q _ I.fresh)
 rw[Bool.not_eq_true]at a;by_cases d:(Builtin.Str.occurrences z y 0 z.3 (z.3+1)).isEmpty=L
 ·have e:Txt.split z y=[z]:=by unfold Txt.split;rw[zg (by rw[a];show Bool.false_ne_true),zf d]
  rw[e]at q
  show call_meets F.slot_str_split (typeIs_str s z t) F.entry_str_split (F.args_str_split_2 _ _) (meets_str_split_not_found z y t i a l d)
   (.ref _,_,I.lnew (its:=[.str z t]) (ys:=[V.str z]) (.cons (_,rfl) .nil) (show 1<=sizeLine by decide),rfl,q _ I.fresh)
 rw[Bool.not_eq_true]at d
 let e:Txt.split z y=Builtin.Str.partsBetween z (Builtin.Str.occurrences z y 0 z.3 (z.3+1)) y.3:=by
  unfold Txt.split;rw[zg (by rw[a];show Bool.false_ne_true),zg (by rw[d];show Bool.false_ne_true)]
 rw[e]at q h
 show call_meets F.slot_str_split (typeIs_str s z t) F.entry_str_split (F.args_str_split_2 _ _) (meets_str_split_sep z y t i a l d C h)
  (.ref _,_,I.lnew (R5 _ _) (by rw[AO];show h),rfl,q _ I.fresh)
theorem WF:MtM X "str.endswith" (λx vs H Q=>∃z y,x=.str z/\vs=[.str y]/\Q (.bl (Txt.endswith z y)) H):=by
 rintro a s l H x vs v i Q I d h ⟨z,y,rfl,rfl,q⟩;let(t,rfl):=d;let(u,rfl,e):=h.one;let(j,rfl):=e;show SC.endswith (.bl _,H,I,Y,q)
inductive ExTL(n:Nat)(v:V)(H:Hp)(k:ly->Prop):Prop
 |mk (a) (xs) (b:v=.ref a) (d:H a=U (.lst xs)) (f:xs.3=n) (q:k xs):ExTL n v H k
def UA(n:Nat)(t:TGs):TG:=λv d H Q=>ExTL n v H λb=>t b d H Q
theorem MN(q:X.calm=L)(h:PGs X f t)
  (E:(assignEach f X.21).3=n:=by rfl) (j:(assignEach f X.21).findIdx? (·.1)=J:=by rfl):PG X (.Tuple f k g) (UA n t):=by
 rintro d s w H v u Q I r ⟨a,x,G,p,D,y⟩;subst G;cases r;let(z,l,m,F,i,e):=I.lstM p;rw[arm_assign_Tuple];show zo (zF ?_);unfold PySem.unpack;simp only[j];rw[E,←D,i];show zo (zG (by simpa using W.kun_itemsOf (items:=l.11) (I.66 q) (_,e,Y,(_,Y)) λA C=>h d _ w H x _ Q (I.75 (t':=s.62) λb o e=>C b o (zu (lt_size e)) e) (by simpa using F) y))
theorem UB:∀{a b r t:List Nat},c∉ a->c∉ b->a++c::r=b++c::t->a=b/\r=t
 | [],[],_,_,_,_,h=>(rfl,(List.cons.inj h).2)
 | [],y::b,_,_,_,g,h=>by
  let(e,_):=List.cons.inj h;subst e;show(g (zE ..)).40
 |x::a,[],_,_,f,_,h=>by
  let(e,_):=List.cons.inj h;subst e;show(f (zE ..)).40
 |x::a,y::b,r,t,f,g,h=>by
  let(e,h):=List.cons.inj h;let(d,i):=UB (λz=>f (zN _ z)) (λz=>g (zN _ z)) h;show(by rw[e,d],i)
theorem Dj{x}{y:Str}(h:x.6=y.6):x=y:=Str.ext' (Array.toList_inj.mp h)
theorem UC(c)(x y)(r):(Str.join ⟨#[c]⟩ (x::y::r)).6=x.6++c::(Str.join ⟨#[c]⟩ (y::r)).6:=by
 change(x++⟨#[c]⟩++Str.join ⟨#[c]⟩ (y::r)).6=_;rw[cps_toList_append,cps_toList_append];change(_++[c])++_=_;rw[append_assoc];rfl
theorem Nr:∀{b f},b≠ []->f≠ []->(∀x∈b,c∉ x.6)->(∀y∈f,c∉ y.6)->Str.join ⟨#[c]⟩ b=Str.join ⟨#[c]⟩ f->b=f
 | [],_,h,_,_,_,_=>(h rfl).40
 |_,[],_,h,_,_,_=>(h rfl).40
 | [x],[y],_,_,_,_,h=>by rw[show x=y from h]
 | [x],y::z::r,_,_,g,_,h=>by
  let e:=congrArg (λs:Str=>s.6) h;simp only[UC]at e;show(g x (zE ..) ((show x.6=_ from e) ▸ zP _ (zE ..))).40
 |x::z::r,[y],_,_,_,l,h=>by
  let e:=congrArg (λs:Str=>s.6) h;simp only[UC]at e;show(l y (zE ..) ((show y.6=_ from e.35) ▸ zP _ (zE ..))).40
 |x::z::r,y::u::t,_,_,g,l,h=>by
  let e:=congrArg (λs:Str=>s.6) h;simp only[UC]at e;let(i,j):=UB (g x (zE ..)) (l y (zE ..)) e;rw[Dj i,Nr (cons_ne_nil z r) (cons_ne_nil u t) (λa d=>g a (zN _ d)) (λa d=>l a (zN _ d)) (Dj j)]
theorem EL(h:b≠ [])(a:∀x∈b,c∉ x.6):Txt.split (Txt.join ⟨#[c]⟩ b) ⟨#[c]⟩=b:=by
 show Nr (c:=c) (λz=>?_) h (StrLaws.split_free _ c) a ?_
 ·have:=split_pos (Txt.join ⟨#[c]⟩ b) ⟨#[c]⟩;rw[z]at this;show absurd this qc
 ·rw[StrLaws.join_split];show StrLaws.glued_eq_join _ _
inductive g6(d:FG)(H:Hp)(f:LK):LK->Bool->Prop
 |nil:g6 d H f [] L
 |miss {k}{v}{r:LK}:Aj f k=J->g6 d H f ((k,(v))::r) O
 |hit {k}{v y}{r}{dx dy}{b}:Aj f k=U y->Bf d H dx v->Bf d H dy y->SeqAt.shaped dx=L->SeqAt.shaped dy=L->g6 d H f r b->g6 d H f ((k,(v))::r) (PyData.eqv dx dy&&b)
theorem g6.hits(I:Inv X db σ H s)(t:X.A.in1.units+64<cLine)(o:KV kb j)(d:KV ka l)(h:g6 X.K H kb ka r):W.KeqHits X.A.in1 s j l r:=by
 induction h generalizing l with
 |nil=>cases d;show .nil
 | @miss k v r G=>
  cases d with
  |cons p q=>
   rename_i w _;let(a,N):=w;obtain rfl:k=a:=p.1;let z:=o.val k;rw[G]at z;cases e:valueAt j k with
   |none=>show .miss e
   |some w=>rw[e]at z;show False.elim z
 | @hit k v y r R Q b E D u M x _ L=>
  cases d with
  |cons p q=>
   rename_i w _;let(a,N):=w;obtain rfl:k=a:=p.1;let(O,C,i):=gF.some_of (by rw[←E];show o.val k);let(_,J):=I.reads _ _ _ p.2 D;let(_,F):=I.reads _ _ _ i u;show .hit C (W.keq_at J F M x t) (L q)
theorem R6(f)(g:X.K=f)(o:X.A.in1.41+64<cLine):gx X (compareOp .Eq) (λx y H Q=>∃a b d i r,x=.ref a/\y=.ref b/\Rd H a (.dK d)/\Rd H b (.dK i)/\(d.3=i.3->g6 f H i d r)/\Q (.bl (d.3==i.3&&r)) H):=by
 subst g;intro p s T H x y v u Q I D G h;let(a,b,d,i,r,rfl,rfl,C,z,t,q):=h;cases D;cases G;let(R,M,S,l,J):=CT I.eA C;let(N,F,O,j,E):=CT I.eA z;show W.keq_eq (r:=r) M F J E (by rw[Around.in1_units]at o;omega) (λe=>g6.hits I o j l (t (by rw[l.3,j.3];show e))) ?_;rw[←l.3,←j.3];show(.bl _,H,I,Y,q)
theorem R7(F:AT X.14 X.w X.K X.mg X.39 eK k f A [lH,me] B)(l:eB k X.A)(G:Binds X.K A [lH,me] [])(p:Lj X.K C oo f)(w:W.subIn X.K (.type mH) (.ref C)=gl O):
  gx X (compareOp .Eq) (λx y H Q=>∃a r fs b g,x=.ref a/\y=.ref b/\H a=gl (.ins C r fs)/\H b=gl (.dK g)/\Vr B a b H Q):=by
 intro d s P H x y v u Q I M R h;let(a,r,fs,b,g,rfl,rfl,Z,N,q):=h;cases M;cases R;let(m,J):=I.fr;let(mA,L,_):=Cw I.eA Z;let(od,U,_):=L.look;let j:=Ov (E:=X.xe) F l I.iA G I q;let z:X.A.41<cLine:=Nat.lt_of_le_of_lt (Nat.le_add_right _ 64) l.41
 let i:gm X (call (.ref f) [.ref a,.ref b]) (W.CmpBack (EP X d P Q)) X.xe s:=by
  show eI j λv s' D=>?_;let(t,rfl,q):=D;show q
 let(_,_,_,_,S):=NB I.eA N;let(o,e,c):=S.46;change wpAny _ _ (richCompare .Eq (.ref a) (.ref b)) _ _ _;let T:W.Looks (model X.14 X.w) s.15 (typeOf (.ref b)) (.type mH):=c ▸ (W.Looks.ld e).andThen .now;show W.cmp_K z J I.mod.iL U T (by simp[W.notFirst,w]) p.at_ p.fn i
abbrev gL2:TG:=UA 2 (El (Bt 0) (El (Bt 1) RE))
abbrev gL3:TG:=UA 3 (El (Bt 0) (El (Bt 1) (El (Bt 2) RE)))
theorem R8(h:PG X b gL2):PGk X b (gt::gt::o) gL2:=by
 intro i s f H v u Q I r q;let(a,p,G,x,E,J,D,z,M,y,F,t,q):=q;show eI (h i s _ H v u (λd l=>(∀j v,(EG (gt::gt::o) f)[j]?=U (U v)->d[j]?=U (U v))/\Q d l) I r (a,p,G,x,E,J,D,z,M,y,F,t,λj w e=>?_,q)) λ_ N m=>by let(d,l,C,k,q):=m;show (d,l,C,k,q)
 match j with
 |0=>cases e
 |1=>cases e
 |j+2=>show e
theorem UD(h:PG X b gL3):PGk X b (gt::gt::gt::o) gL3:=by
 intro i s t H v u Q I r q;let(a,x,M,z,L,O,G,E,R,D,J,N,C,p,y,q):=q;show eI (h i s _ H v u (λd l=>(∀j v,(EG (gt::gt::gt::o) t)[j]?=U (U v)->d[j]?=U (U v))/\Q d l) I r (a,x,M,z,L,O,G,E,R,D,J,N,C,p,y,λj w e=>?_,q)) λ_ S m=>by let(d,l,F,k,q):=m;show (d,l,F,k,q)
 match j with
 |0=>cases e
 |1=>cases e
 |2=>cases e
 |j+3=>show e
theorem R9(i)(d)(u:Fv X.28 scope X.N (x::y::i) (J::J::d)=L)(a:(x::y::i).29)(r:scope.12 x=U .local)(q:scope.12 y=U .local)(l:X.calm=L)
  (v:PI X (.Tuple [.Name x z,.Name y m] kt pt) iter D)
  (ht:∀h s H C j e,jk (BU X (x::y::i) scope h s H C j e) g tt) (t:∀h s H C j e,PE (BU X (x::y::i) scope h s H C j e) b w) (f:∀x,foldedSetIterable iter X.21 x=pure x:=by intro _;rfl):
  PE X (.ListComp b [(.Tuple [.Name x z,.Name y m] kt pt,iter,g,0)] scope E) (λB H Q=>Hz D gL2 tt w (J::J::d) (λA o=>∀p,o p=J->Q (.ref p) (upd o p (.lst A))) B H):=
 Dx DI CV (eT.of u) (λ_ _ _ _ _ _=>l) v.g (λh s H C j e=>R8 (MN l (AQ (A5 a rfl (.inl (z4 r)) (.inr (z4 r)))
  (AQ (A5 a rfl (.inl (z4 q)) (.inr (z4 q))) Az)))) ht (λ_ _ _ _ _ _ _=>Dy (t _ _ _ _ _ _)) f rfl
theorem PQ(j)(i)(u:Fv X.28 scope X.N (x::y::z::j) (J::J::J::i)=L)(a:(x::y::z::j).29)(r:scope.12 x=U .local)(q:scope.12 y=U .local)(b:scope.12 z=U .local)(l:X.calm=L)
  (F:PI X (.Tuple [.Name x G,.Name y w,.Name z E] kt pt) iter D)
  (ht:∀e s H C h d,jk (BU X (x::y::z::j) scope e s H C h d) g tt) (v:∀e s H C h d,PE (BU X (x::y::z::j) scope e s H C h d) m B) (t:∀e s H C h d,PE (BU X (x::y::z::j) scope e s H C h d) I A) (f:∀x,foldedSetIterable iter X.21 x=pure x:=by intro _;rfl):
  PE X (.DictComp m I [(.Tuple [.Name x G,.Name y w,.Name z E] kt pt,iter,g,0)] scope P) (λN H Q=>Tv D gL3 tt B A (J::J::J::i) (λM o=>∀p,o p=J->Q (.ref p) (upd o p (.dK M))) N H):=
 Dx LC CV (eT.of u) (λ_ _ _ _ _ _=>l) F.g (λe s H C h d=>UD (MN l (AQ (A5 a rfl (.inl (z4 r)) (.inr (z4 r)))
  (AQ (A5 a rfl (.inl (z4 q)) (.inr (z4 q))) (AQ (A5 a rfl (.inl (z4 b)) (.inr (z4 b))) Az))))) ht (λ_ _ _ _ _ _ _=>NY (v _ _ _ _ _ _) (t _ _ _ _ _ _)) f rfl
theorem bw(b)(a:X.K=b)(h:PE X e (tBM X.K T r to t)):PE X e (tBM b T r to t):=a ▸ h
end
end L2
namespace MK
open PySem
mutual
theorem DD(a b:Nat):Builtin.bitAnd (a) (b)=((a&&&b:Nat):Int):=by
 rfl
theorem C8(a b:Nat):Builtin.bitOr (a) (b)=((a|||b:Nat):Int):=by
 let h:¬ 0<=Builtin.bitNot a:=by unfold Builtin.bitNot;lia
 let d:¬ 0<=Builtin.bitNot b:=by unfold Builtin.bitNot;lia
 unfold Builtin.bitOr;rw[PyProof.Rows.bitAnd_nn h d];let e:∀n:Nat,(Builtin.bitNot (Builtin.bitNot n)).32=n:=λn=>by unfold Builtin.bitNot;lia
 rw[e a,e b];unfold Builtin.bitNot;lia
theorem EM(a b:Nat):Builtin.bitAnd (a) (Builtin.bitNot (b))=((a-(a&&&b):Nat):Int):=by
 rw[PyProof.Rows.bitAnd_not,DD];have:a&&&b<=a:=Nat.and_le_left
 lia
noncomputable def Ah(l:List Nat):Nat:=l.67 (· ||| ·) 0
theorem HG(k):∀(l:List Nat)a,(l.67 (· ||| ·) a).testBit k=(a.testBit k||l.any (·.testBit k))
 | [],a=>by simp
 |x::r,a=>by rw[foldl_cons,HG k r,Nat.testBit_or,any_cons,Bool.or_assoc]
theorem DJ(l)(k):(Ah l).testBit k=l.any (·.testBit k):=by
 unfold Ah;rw[HG];simp
theorem FA{l}{m}(h:∀n∈l,n<2^m):Ah l<2^m:=by
 have:∀(l:List Nat)a,a<2^m->(∀n∈l,n<2^m)->l.67 (· ||| ·) a<2^m:=by
  intro l;induction l with
  |nil=>intro a d _;show d
  |cons x r i=>intro a d e;show i _ (Nat.or_lt_two_pow d (e x zE)) λn j=>e n (_)
 show this l 0 (_) h
theorem GY(l)(n):Ah (l++[n])=Ah l|||n:=by unfold Ah;ext
noncomputable def C9(n:Nat):Bool:=decide (0<n)&&decide (n&&&(n-1)=0)
theorem PR(k):C9 (2^k)=L:=by
 unfold C9
 let a:2^k&&&(2^k-1)=0:=by
  apply Nat.eq_of_testBit_eq;intro i;by_cases e:k=i
  ·subst e;simp
  ·simp
 simp[Nat.two_pow_pos k]
theorem Dp(h:C9 n=L):∃k,n=2^k:=by
 unfold C9 at h;simp at h;let(o,l):=h;show(n.log2,?_);let d:2^n.log2<=n:=Nat.log2_self_le ();let a:n<2^(n.log2+1):=Nat.lt_log2_self;let e||j:=Nat.eq_or_lt_of_le d
 ·show e.35
 ·exfalso
  let b1:n.testBit n.log2=L:=by
   rw[Nat.testBit_eq_decide_div_mod_eq];simp
   have:n/2^n.log2=1:=by
    apply Nat.div_eq_of_lt_le<;>(try rw[Nat.pow_succ]at a)<;>lia
   rw[this]
  let i:(n-1).testBit n.log2=L:=by
   rw[Nat.testBit_eq_decide_div_mod_eq];simp
   have:(n-1)/2^n.log2=1:=by
    apply Nat.div_eq_of_lt_le<;>(try rw[Nat.pow_succ]at a)<;>lia
   rw[this]
  have:(n&&&(n-1)).testBit n.log2=L:=by rw[Nat.testBit_and,b1,i];rfl
  rw[l,Nat.zero_testBit]at this;cases this
noncomputable def GZ(n:Nat):List Nat:=(List.range 42).30 λk=>n.testBit k
theorem Jo{f:Type}[DecidableEq f]{p}:∀{l:List f}{a},l.29->a∈l->(∀b∈l,p b=L ↔ b=a)->l.30 p=[a]
 | [],_,_,h,_=>by cases h
 |b::r,a,q,m,g=>by
  let(o,i):=zi.mp q;by_cases e:b=a
  ·subst e;let d:=(g b zE).53 rfl;rw[filter_cons,zf d];congr 1;apply List.filter_eq_nil_iff.mpr
   grind
  ·rw[filter_cons,zg (λz=>e ((g b zE).mp z))];let z||z:=mem_cons.mp m
   ·show absurd z.35 e
   ·show Jo i z λc j=>g c (_)
theorem Ka{n}(d:n<2^42):decide ((GZ n).3=1)=C9 n:=by
 rw[Bool.eq_iff_iff,decide_eq_true_eq];constructor
 ·intro h;let(k,j):∃k,GZ n=[k]:=List.length_eq_one_iff.mp h
  let l:∀i,i<42->(n.testBit i=L ↔ i=k):=λi o=>by
   have:i∈GZ n ↔ i=k:=by rw[j];simp
   unfold GZ at this;constructor
   ·ext
   grind
  let a:k<42:=by
   have:k∈GZ n:=by rw[j];simp
   show mem_range.mp (mem_filter.mp this).1
  let e:n=2^k:=by
   apply Nat.eq_of_testBit_eq;intro i;by_cases o:i<42
   ·grind
   ·have p:n.testBit i=O:=Nat.testBit_lt_two_pow (zX d (Nat.pow_le_pow_right qc ()))
    symm;grind
  rw[e];show PR k
 ·intro h;let(k,rfl):=Dp h
  have:GZ (2^k)=[k]:=by
   show Jo List.nodup_range (mem_range.53 ((Nat.pow_lt_pow_iff_right qc).mp d)) λb _=>?_;rw[Nat.testBit_two_pow,decide_eq_true_eq];show eq_comm
  rw[this];rfl
noncomputable def CW(m:Nat):Nat:=2^(Builtin.Int.intBits (m:Int))
theorem FB{m:Nat}(h:0<m):Builtin.Int.intBits (m)=m.log2+1:=by
 unfold Builtin.Int.intBits
 grind
theorem Nt(h:m<2^k)(a:k=0\/2^(k-1)<=m):2^k=CW m:=by
 congr 1;let e||d:=Nat.eq_zero_or_pos m
 ·subst e
  have:k=0:=by
   let z||z:=a
   ·show z
   ·ext
  rw[this];rfl
 ·rw[FB d];let z||z:=a
  ·ext
  ·have i:0<k:=by let e||e:=Nat.eq_zero_or_pos k
                  ·ext
                  ·show e
   let e:m.log2=k-1:=by
    apply Nat.le_antisymm
    ·have:=(Nat.log2_lt ()).53 h
     lia
    ·show(Nat.le_log2 ()).53 z
   lia
theorem UE:∀{l:List Nat}{a},(∀n∈l,C9 n=L)->l.70 (· < ·)->(∀n∈l,a&&&n=0)->a+l.sum=l.67 (· ||| ·) a
 | [],a,_,_,_=>by simp
 |n::r,a,b,g,f=>by
  let(q,o):=pairwise_cons.mp g;let p:=f n zE
  let e:a|||n=a+n:=by
   let h:=PyProof.Rows.bitOr_and a n;rw[C8,DD]at h
   lia
  rw[sum_cons,foldl_cons,←UE (λm d=>b m (_)) o (λm d=>?_)]
  ·lia
  ·let(i,rfl):=Dp (b n zE);let(j,rfl):=Dp (b m (_));apply Nat.eq_of_testBit_eq
   grind
theorem SA(e:∀n∈l,C9 n=L)(d:l.70 (· < ·)):l.sum=Ah l:=by
 have:=UE (a:=0) e d (λn _=>by simp);unfold Ah
 lia
end
end MK
namespace Mk
open PySem L2 MK
mutual
abbrev BP:Stmt:=inClass (top 2) 0
abbrev EO:Stmt:=inClass (top 7) 0
abbrev EQ:Stmt:=inClass (top 9) 0
abbrev Jp:Stmt:=top 19
abbrev MO:Stmt:=top 20
abbrev Jq:Stmt:=top 22
abbrev Jr:Stmt:=top 23
abbrev IG:Stmt:=top 25
abbrev Ga:Stmt:=top 26
abbrev ER:Stmt:=top 27
abbrev Gb:Stmt:=top 28
abbrev IH:Stmt:=top 29
abbrev FC:Stmt:=top 30
abbrev Cq:Stmt:=inClass (top 31) 0
abbrev II:Stmt:=inClass (top 31) 1
abbrev FD:Stmt:=inClass (top 31) 2
abbrev Gc:Stmt:=inClass (top 31) 6
abbrev IJ:Stmt:=inClass (top 31) 7
abbrev MP:Stmt:=inClass (top 31) 8
abbrev Fe:Stmt:=top 34
abbrev MQ:Stmt:=top 35
abbrev Gd:Stmt:=inClass (top 36) 0
abbrev ES:Stmt:=inClass (top 36) 1
abbrev Ge:Stmt:=inClass (top 36) 2
abbrev QP:Stmt:=top 37
abbrev Js:Stmt:=top 38
abbrev IK:Stmt:=top 39
abbrev PU:Stmt:=top 40
abbrev Jt:Stmt:=top 41
abbrev MR:Stmt:=top 42
abbrev IL:Stmt:=top 47
abbrev Gf:Stmt:=top 48
abbrev MS:Stmt:=top 49
abbrev Ju:Stmt:=top 50
abbrev ET:Stmt:=inClass (top 51) 0
abbrev Cr:Stmt:=inClass (top 51) 1
abbrev Cs:Stmt:=inClass (top 51) 2
abbrev CY:Stmt:=inClass (top 51) 3
abbrev Bz:Stmt:=inClass (top 51) 4
abbrev CZ:Stmt:=inClass (top 51) 5
abbrev DV:Stmt:=inClass (top 51) 6
abbrev EU:Stmt:=inClass (top 51) 7
abbrev DW:Stmt:=top 52
abbrev Gg:Stmt:=top 53
abbrev MT:Stmt:=top 54
abbrev FE:Stmt:=top 55
abbrev IM:Stmt:=top 56
abbrev Jv:Stmt:=top 58
abbrev IN:Stmt:=top 59
abbrev FF:Stmt:=top 62
abbrev FH:Stmt:=top 63
abbrev MU:Stmt:=top 64
abbrev IP:Stmt:=inClass (top 65) 0
abbrev Gh:Stmt:=inClass (top 65) 1
abbrev IQ:Stmt:=inClass (top 65) 2
abbrev Jw:Stmt:=inClass (top 65) 3
abbrev IR:Stmt:=inClass (top 65) 4
abbrev FI:Stmt:=inClass (top 65) 5
abbrev IS:Stmt:=inClass (top 65) 6
abbrev IT:Stmt:=inClass (top 65) 7
abbrev FJ:Stmt:=inClass (top 65) 8
abbrev Dr:Stmt:=inClass (top 65) 9
abbrev Gi:Stmt:=inClass (top 65) 10
abbrev EV:Stmt:=inClass (top 65) 11
abbrev IU:Stmt:=inClass (top 65) 12
abbrev Gj:Stmt:=inClass (top 65) 13
abbrev MV:Stmt:=inClass (top 65) 16
abbrev Jx:Stmt:=inClass (top 65) 17
abbrev PV:Stmt:=top 68
abbrev Jy:Stmt:=top 69
abbrev MW:Stmt:=top 70
abbrev Jz:Stmt:=top 72
abbrev IV:Stmt:=top 73
abbrev HH:Stmt:=top 74
abbrev Gk:Stmt:=top 75
abbrev FK:Stmt:=top 76
abbrev A9:Stmt:=top 77
abbrev Gm:Stmt:=top 78
abbrev Gn:Stmt:=top 79
abbrev Ct:Stmt:=top 80
abbrev FL:Stmt:=top 81
abbrev J0:Stmt:=top 82
abbrev HI:Stmt:=top 83
abbrev Dk:Stmt:=top 84
abbrev HJ:Stmt:=top 85
abbrev FM:Stmt:=top 86
abbrev IW:Stmt:=top 87
abbrev EW:Stmt:=top 88
abbrev J1:Stmt:=top 89
abbrev Go:Stmt:=top 90
abbrev DX:Stmt:=top 91
abbrev BV:Stmt:=top 92
abbrev J2:Stmt:=top 93
abbrev Kb:Stmt:=top 94
structure Fn(P:Program)(w:World)(K:FG)(mg:SV)(base:Heap)(x:Str)(k:Nat)(ps:lr)(sp:Sp):Prop where
 ex:∃f fd,AT P w K mg base eK k f fd ps sp/\mg x=U (.ref f)/\W.keepIn K (.ref f)=L/\Binds K fd ps []
structure Bl(mg:SV):Prop where
 len:mg "len"=J
 gZ:mg mr=J
 max:mg qB=J
 min:mg "min"=J
 range:mg oW=J
 list:mg md=J
 tuple:mg mm=J
 sorted:mg pM=J
 sum:mg "sum"=J
 all:mg "all"=J
 enum:mg oE=J
 int:mg qC=J
 bool:mg "bool"=J
 str:mg qD=J
noncomputable def BK(b:List Nat):ly:=b.5 λ(n:Nat)=>V.int (n:Int)
inductive spUnionOf(b:FG)(vs:ly)(H:Hp)(Q:VK)(d:XK):Prop
 |mk (a) (f) (g:vs=[.ref a]) (h:dY b H a (BK f)) (i:Q (.int (Ah f:Nat)) H)
theorem scUnionOf:AH [lZ,nk,lO] [lZ] (defScope Jq):=fG
theorem QQ{a}{i:Nat}{x}(h:(BK a)[i]?=U x):∃n,a[i]?=U n/\x=V.int (n:Int):=by
 unfold BK at h;rw[zx]at h;cases e:a[i]? with
 |none=>rw[e]at h;cases h
 |some n=>rw[e]at h;show(n,Y,(Option.some.inj h).35)
theorem PX(F:eP b pj pj Jq f g):AT P w b m base eK 1 f g [lZ] (spUnionOf b):=by
 show F.m scUnionOf λvs H Q E h=>?_;let(a,l,rfl,p,k):=h;show(Y,λr A o s u=>?_)
 show(_,AC (DN (i:=1) scUnionOf.nd Y (Or.inl Y) AF)
  (AC (Cl PassesOwn.never rfl (BG (Z 0)) (A5 (i:=2) scUnionOf.nd rfl (Or.inl rfl))
   (AB (OX (i:=1) scUnionOf.nd rfl (Or.inl rfl) (Z 2) Xk)))
  (AB (AI (Z 1)))),?_)
 show(7,a,Y,(_,p),DP (λi j d=>∃v,j=[U (.ref a),U (.int (Ah (l.20 i))),v]/\d=H) (J,Y,Y) (λi j d _ z=>by let(_,_,e):=z;show e ▸ p) ?_ ?_)
 ·rintro i x j d t ⟨v,rfl,rfl⟩;let(n,q,rfl):=QQ t;show(7,7,_,7,Y,(U (V.int n),?_,Y));rw[zw,q,Option.toList_some,GY];change [U (V.ref a),U (V.int (Builtin.bitOr (Ah (l.20 i)) n)),U (V.int n)]=_;rw[C8]
 ·rintro j d ⟨v,rfl,rfl⟩;show(7,?_);let e:(BK l).3=l.3:=by unfold BK;rw[AO]
  rwa[e,zt]
end
end Mk
namespace L2
open PySem
theorem HK{x}{g}{tt}{f}{h}{R}{m}{j}(a:Nat->ly->Hp->Prop)(l:a 0 [] j)(u:∀i b H,a i b H->b.3<=1000)
  (s:∀i c b H,x.cps[i]?=U c->a i b H->bT g tt (i4 f) h m (.str ⟨#[c]⟩) b (a (i+1)) H) (p:∀b H,a x.77 b H->R b H):tW (Its x) [] iU (bT g tt (i4 f) h m) R j:=
 CL (n:=x.77) a l (λi b H q=>G3 (u i b H q)) (λi b H e d=>(e,by rintro v r ⟨rfl,c,o,rfl⟩;show s i c b r o d)) λb H d=>(zp _,p b H d)
end L2
namespace Mk
open PySem L2 MK
mutual
theorem IY:bootBuiltins "all"=U (.builtin "all"):=by rfl
theorem EY:bootBuiltins mr=U (.builtin mr):=by rfl
theorem Ff:bootBuiltins pM=U (.builtin pM):=by rfl
theorem UF:bootBuiltins "sum"=U (.builtin "sum"):=by rfl
theorem YA:bootBuiltins "min"=U (.builtin "min"):=by rfl
theorem YB:bootBuiltins qB=U (.builtin qB):=by rfl
theorem EZ:bootBuiltins qD=U (.type qD):=by rfl
theorem Ea:bootBuiltins qC=U (.type qC):=by rfl
theorem WG:bootBuiltins "bool"=U (.type "bool"):=by rfl
theorem DY:bootBuiltins mm=U (.type mm):=by rfl
theorem Fg:bootBuiltins md=U (.type md):=by rfl
theorem AD(s:dH H f)(a:f p=J):dH H (upd f p o):=λb u e=>by
 let d:=s b u e
 rwa[AE (AK d a)]
noncomputable def De(c:Nat):Bool:=decide (65<=c)&&decide (c<=90)
def Ca(x:Str):Bool:=(decide (1<=x.3)&&decide (x.3<=6))&&x.36 De
theorem Br(g)(o:X.K=g)(q:Gl X mr)(y:X.mg mr=J)(a:Gl X x)(d:X.mg x=J)(i:bootBuiltins x=U (.type T))(r:PE X e w)
  (u:x≠ mY:=by decide) (j:iw x:=by decide)
  (m:starEach [e,.Name x f] X.21=(O,(eval e X.21))::starEach [.Name x f] X.21:=by rfl) (h:(backTo s (starEach [.Name x f] X.21)).any (·.1)=O:=by rfl) (l:starEach [.Name x f] X.21=(O,(eval (.Name x f) X.21))::starEach [] X.21:=by rfl):
  PE X (.Call (.Name mr p) [e,.Name x f] [] s) (tCB (λz H Q=>∃v T t b,z=[v,.ty T]/\gM g H v t/\W.kitOne g t (.type T)=U b/\Q (.bl b) H) (An w (An (tC (.ty T)) Ce))):=by
 subst o;show AS Tb q y EY (AA r (fy (D6 a d i Y u j) l) m) qc qc m h
theorem Ak(b)(a:X.K=b):IxR X (Y8 b):=a ▸ Vf
theorem Ac(b)(a:X.K=b):IxR X (Xm b):=a ▸ Xn
theorem BB(d)(a:X.K=d):eW X (.builtin "len") (λf H Q=>∃p b,f=[.ref p]/\(dY d H p b\/eO d H p b)/\Q (.int b.3) H):=a ▸ Gw
inductive spIsName(vs:ly)(H:Hp)(Q:VK)(b:XK):Prop
 |mk (x) (f:vs=[.str x]) (g:x.31 (· < 128)=L) (i:x.3<=1000) (h:∀d,dH H d->Q (.bl (Ca x)) d)
theorem UG:AH [lM] [lM] (defScope MO):=fG
theorem UH(c):(if (!decide ((⟨#[c]⟩:Str).6<("A":Str).6))=L then (!decide (("Z":Str).6<(⟨#[c]⟩:Str).6))else O)=De c:=by
 let i:("A":Str).6=[65]:=by decide +kernel
 let d:("Z":Str).6=[90]:=by decide +kernel
 rw[i,d];unfold De
 let a:decide ([c]<[65])=decide (c<65):=by
  rw[Bool.eq_iff_iff,decide_eq_true_eq,cons_lt_cons_iff];simp
 let e:decide ([90]<[c])=decide (90<c):=by
  rw[Bool.eq_iff_iff,decide_eq_true_eq,cons_lt_cons_iff];simp
 rw[a,e];by_cases j:c<65<;>by_cases h:90<c<;>simp[h]<;>lia
theorem SB(F:eP g pN pN MO f j)(B:Bl d)(l:d "LONGEST_NAME"=U (.int 6 t6)):AT P w g d base eK 1 f j [lM] spIsName:=by
 show F.m UG λvs H Q E h=>?_;let(x,rfl,ha,hz,k):=h;show(Y,λR A X s T=>?_)
 show(_,AC (AV (PW.pt (B8 (Ao (Ai (Br g Y Y B.gZ Y B.str EZ (Z 0)))) (Bc (Ao (Ex Eu Eu AF (AS A7 Y B.61 PySem.boot_len (fy (Z 0))) (BA (v:=.int 6) Y l (t6,Y)))))))
   (AB (AI Cf)) AM)
  (AB (AI (AS (D3 rfl) rfl B.all IY (fy (BX [] [] (by rfl) (_) (by rfl) rfl (JZ (Z 0)) (λ_ _ _ _ _ _=>BJ) (λ_ _ _ _ _ _=>Ew CM CM AL (Z 0) AL)))))),?_)
 show(7,_,_,_,L,Y,.str x,Y,7,?_);apply AU;show(7,x,Y,Nat.le_of_lt (AR hz),_,7,Y,7,BN (λr=>?_) (λr=>?_))
 ·have u:1<=x.3:=by have:=zR r;lia
  show(_,7,Y,7,BN (λo=>?_) (λo=>?_))
  ·have y:¬ x.3<=6:=by
    intro z;rw[zH ()]at o;cases o
   let e:Ca x=O:=by unfold Ca;simp[y]
   have:=k H (dH.refl H)
   rwa[e]at this
  ·have y:x.3<=6:=Decidable.byContradiction λz=>o (_);show(7,x,Y,ha,HK (λi q m=>m=H/\q=(x.57 i).5 λc=>V.bl (De c)) (Y,Y) (λi q m (_,e)=>?_) ?_ ?_)
   ·rw[e,AO,zr];have:x.cps.58=x.3:=by rw[Array.length_toList];rfl
    lia
   ·rintro i c q m S ⟨rfl,rfl⟩;show(7,_,7,Y,7,?_)
    let G:∀b,b=De c->(m=m/\(x.57 i).5 (λc=>V.bl (De c))++[V.bl b]=(x.57 (i+1)).5 λc=>V.bl (De c)):=λb I=>by
     show(Y,?_);let N:x.6[i]?=U c:=by rwa[Array.getElem?_toList]
     rw[zw,N,zl,I];rfl
    let D:=UH c;show BN (λC=>?_) (λC=>?_)
    ·rw[zf C]at D;show(_,7,Y,G _ D)
    ·ext
   ·rintro q m ⟨rfl,rfl⟩ p M;show(p,x.cps.toList.5 De,Y,dY.of (by rw[dG,take_of_length_le (_),map_map];rfl),?_)
    let e:Ca x=((x.cps.toList.5 De).all id):=by
     unfold Ca;rw[zH u,zH y,all_map];rfl
    rw[←e];show k _ (AD (dH.refl _) M)
 ·have u:¬ 1<=x.3:=λz=>r (zH ());show(7,?_);apply Ag;let e:Ca x=O:=by unfold Ca;simp[u]
  have:=k H (dH.refl H)
  rwa[e]at this
inductive Th where
 |eJ|num (n:Nat)|kG (b:lr)
def iI(H:Hp)(v:V):Th->Prop
 |.eJ=>v=.eJ
 |.num n=>v=.int (n:Int)
 |.kG b=>∃a,v=.ref a/\H a=U (.tup (b.5 V.str))
noncomputable def FN(b:List Nat):Nat:=b.67 max 0
noncomputable def look(due:Aa)(x:Str):Nat:=((due.find? λp=>decide (p.1=x)).5 (·.2)).45 0
noncomputable def BF(due:Aa):LK:=due.5 λp=>(Sum.inr p.1,(V.int (p.2:Int)))
def Da(due:Aa):Th->Nat
 |.eJ=>CW (FN (due.5 (·.2)))
 |.num n=>n
 |.kG b=>Ah (b.5 (look due))
theorem Gp(x):∀due,Aj (BF due) (Sum.inr x)=(due.find? λp=>decide (p.1=x)).5 λp=>V.int (p.2:Int)
 | []=>rfl
 |p::r=>by
  change Aj ((Sum.inr p.1,(V.int p.2))::BF r) (Sum.inr x)=_;by_cases e:p.1=x
  ·rw[BD (by rw[←e]),List.find?_cons_of_pos (_)];rfl
  ·rw[A8 (λz=>e (Sum.inr.inj z)),List.find?_cons_of_neg (_)];show Gp x r
theorem SD{due:Aa}(h:x∈due.5 (·.1)):(due.find? λp=>decide (p.1=x)).26=L:=by
 ext
theorem C3(h:x∈due.5 (·.1)):Aj (BF due) (Sum.inr x)=U (V.int (look due x:Int)):=by
 rw[Gp];unfold look;let(p,a):=Option.isSome_iff_exists.mp (SD h)
 ext
theorem HL(h:x∉ due.5 (·.1)):Aj (BF due) (Sum.inr x)=J:=by
 rw[Gp]
 grind
theorem HM:∀(l:List Nat)a,a<m->(∀n∈l,n<m)->l.67 max a<m
 | [],a,h,_=>h
 |x::r,a,h,k=>HM r (max a x) (by have:=k x zE;lia) λn d=>k n (_)
theorem Nu{a}{m}(d:0<m)(h:∀n∈a,n<m):FN a<m:=HM a 0 d h
theorem UI(a b:Nat):max (a:Int) (b)=((max a b:Nat):Int):=by lia
theorem J3:∀(r:List Nat)(a:Nat),(r.5 λn:Nat=>(n:Int)).67 max (a:Int)=((r.67 max a:Nat):Int)
 | [],_=>rfl
 |x::r,a=>by rw[map_cons,foldl_cons,UI,J3 r];rfl
theorem Nw{d}(h:d≠ []):NH 0 (d.5 λn:Nat=>(n:Int))=(FN d:Nat):=by
 cases d with
 |nil=>rfl
 |cons a r=>
  change(r.5 λn:Nat=>(n:Int)).67 max (a:Int)=_;rw[J3];rfl
theorem PY{m:Nat}(h:m<2^20):Builtin.Int.intBits (m:Int)<=20:=by
 let e||a:=Nat.eq_zero_or_pos m
 ·subst e;decide
 ·rw[FB a];have:=(Nat.log2_lt ()).53 h
  lia
inductive spNextMark(b:FG)(vs:ly)(H:Hp)(Q:VK)(d:XK):Prop
 |mk (a) (f) (g:vs=[.ref a]) (h:dY b H a (BK f)) (j:(∀n∈f,n<2^20)) (i:Q (.int (CW (FN f):Nat)) H)
theorem PZ:AH [lZ] [lZ] (defScope IG):=fG
theorem JI(a):BK a=(a.5 λn:Nat=>(n:Int)).5 V.int:=by unfold BK;ext
theorem Ny(F:eP b qk qk IG f g)(B:Bl v):AT P w b v base eK 1 f g [lZ] (spNextMark b):=by
 show F.m PZ λvs H Q E h=>?_;let(a,l,rfl,t,p,k):=h;show(Y,λr A o s u=>?_);show(_,AB (AI (AX Lg AF (F6 plainAttrs_int PySem.F.slot_int_bit_length PySem.F.type_int_bit_length Ly (QC Y Y B.max (Z 0) AF)))),?_)
 let d:∀m:Int,m=FN l->tyV b qC (.int m) H/\∃i,V.int m=.int i/\([]:ly)=[]/\rI Xi (λi j=>V.int (i*2^j.32)) (V.int 1) (V.int (Builtin.Int.intBits i)) H Q:=λm e=>by
  subst e;show(Y,7,Y,1,7,Y,(zW _,?_,qc),?_)
  ·have:=PY (Nu qc p);lia
  ·have e:(1:Int)*2^((Builtin.Int.intBits (FN l:Nat)):Int).32=((CW (FN l):Nat)):=by
    unfold CW;simp
   change Q (V.int (1*2^((Builtin.Int.intBits (FN l:Nat)):Int).32)) H
   rwa[e]
 show(7,a,l.5 (λn:Nat=>n),0,Y,Y,by rw[←JI];show t,λe=>?_,λe=>?_)
 ·have q:=List.map_eq_nil_iff.mp e;show d 0 (by rw[q];rfl)
 ·show d _ (Nw (λz=>e (by rw[z];rfl)))
def DK(b:FG):Sp:=λvs H Q _=>(∃(x:Str)(d:l7)(f:LK),vs=[.str x,.ref d]/\Rd H d (.dK f)/\Q (.bl (Aj f (Sum.inr x:Key)).26) H) \/
 (∃(x:Str)(t:l7)(g:lr),vs=[.str x,.ref t]/\eO b H t (g.5 V.str)/\Q (.bl (iG (.str x) (g.5 V.str))) H)
theorem SE:AH [lM,mQ] [lM,mQ] (defScope Jr):=fG
theorem LJ:∀b:lr,(b.5 V.str).all Gu=L
 | []=>rfl
 |_::r=>LJ r
theorem Pa(F:eP b oK oK Jr f g)(B:Bl m):AT P w b m base eK 1 f g [lM,mQ] (DK b):=by
 show F.ok SE (λvs H Q E h=>?_) (λo A e s H vs Q E l h=>?_)
 ·let(x,d,a,rfl,_)||(x,t,i,rfl,_):=h<;>rfl
 ·let(x,d,a,rfl,j,k)||(x,t,i,rfl,ht,k):=h
  ·show(_,AB (AI (CI (Br b Y Y B.gZ Y B.str EZ (Z 0)) (Cj (OW (Hx (CK l) (Z 0) (Z 1)))))),(7,_,_,_,L,Y,.str x,Y,7,?_));show(7,7,d,7,.inl (a,Sum.inr x,j,Y,Y),k)
  ·show(_,AB (AI (CI (Br b Y Y B.gZ Y B.str EZ (Z 0)) (Cj (CG Fb (Z 0) (Z 1) (by rfl))))),(7,_,_,_,L,Y,.str x,Y,7,?_));show(7,7,t,7,.inr ht,Y,LJ i,k)
inductive spIsNamesOf(vs:ly)(H:Hp)(Q:VK)(b:XK):Prop
 |mk (a d) (f:lr) (kvs) (h:vs=[.ref a,.ref d]) (i:H a=U (.tup (f.5 V.str))) (l:f.3<=1000) (j:Rd H d (.dK kvs)) (m:∀g,dH H g->Q (.bl (decide (0<f.3)&&f.all λx=>(Aj kvs (Sum.inr x:Key)).26)) g)
theorem Nz:AH ["parts",nY] ["parts",nY] (defScope Ga):=fG
theorem dH.rd(s:dH H b)(h:Rd H a u):Rd b a u:=by
 let h||(o,h):=h
 ·show .inl (s _ _ h)
 ·show .inr (o,s _ _ h)
theorem MY(F:eP b pI pI Ga f y)(B:Bl g)(t:Fn P w b g base oK 1 [lM,mQ] (DK b)):AT P w b g base eK 2 f y ["parts",nY] spIsNamesOf:=by
 let(fO,T,t,G,S,J):=t.ex;show F.m Nz λvs H Q E h=>?_;let(a,d,j,l,rfl,C,X,R,k):=h;show(Y,λab A al s M=>?_)
 show(_,AB (AI (CI (CG Iu (AS Gw Y B.61 PySem.boot_len (fy (Z 0))) AF (AN _))
  (Cj (AS (D3 rfl) rfl B.all IY (fy (BX [nY] [U 1] (by rfl) (_) (by rfl) rfl (Oa (Z 0)) (λ_ _ _ _ _ _=>BJ)
   (λ_ _ _ _ _ _=>A0 t M rfl G S J .nil Af (AA (Z 0) (fy (Z 1)))))))))),?_)
 let z:(j.5 V.str).3=j.3:=AO _;show(7,a,7,.inr (eO.of C),_,7,Y,7,BN (λr=>?_) (λr=>?_))
 ·have u:0<j.3:=by have:=zR r;lia
  show(7,a,Y,(_,eO.of C),NG (λi q o=>o=H/\q=(j.20 i).5 λx=>V.bl (Aj l (Sum.inr x)).26) (Y,Y) (λi q o _ m=>by let(e,_):=m;show e ▸ eO.of C) (λi q o (_,e)=>?_) ?_ ?_)
  ·grind
  ·rintro i v q o ag ⟨rfl,rfl⟩
   let(x,I,rfl):∃x,j[i]?=U x/\v=V.str x:=by
    cases e:j[i]? with
    |none=>ext
    |some x=>ext
   show(7,7,.inl (x,d,l,Y,R,Y,?_));rw[zw,I,zl];rfl
  ·rintro q o ⟨rfl,rfl⟩ p D;let N:j.20 (j.5 V.str).3=j:=by rw[z];show zt
   show(p,j.5 λx=>(Aj l (Sum.inr x)).26,Y,dY.of (by rw[dG,N,map_map];rfl),?_)
   let e:(decide (0<j.3)&&j.all λx=>(Aj l (Sum.inr x)).26)=(j.5 λx=>(Aj l (Sum.inr x)).26).all id:=by
    rw[zH u,all_map];rfl
   rw[←e];show k _ (AD (dH.refl _) D)
 ·have:=k H (dH.refl H)
  rwa[zK (λan=>r (zH ())),Bool.false_and]at this
inductive spIsWhole(vs:ly)(H:Hp)(Q:VK)(b:XK):Prop
 |mk (n) (d:vs=[.int n]) (f:Q (.bl L) H)
theorem SF:AH [lM] [lM] (defScope Jp):=fG
theorem Pb(F:eP b oU oU Jp f g)(B:Bl i):AT P w b i base eK 1 f g [lM] spIsWhole:=by
 show F.m SF λvs H Q E h=>?_;let(n,rfl,k):=h;show(Y,λd A a s e=>?_);show(_,AB (AI (CI (Br b Y Y B.gZ Y B.int Ea (Z 0)) (Cj (Sl (Br b Y Y B.gZ Y B.bool WG (Z 0)))))),?_);show(7,_,_,_,L,Y,.int n,Y,7,?_);show(7,_,_,_,O,Y,.int n,(by rfl),7,k)
structure fZ(due:Aa):Prop where
 len:due.3<=10
 lt:∀p∈due,p.2<2^20
 nd:(due.5 (·.1)).29
 nm:∀p∈due,Ca p.1=L/\p.1.31 (· < 128)=L/\p.1.3<=1000
def WH(due:Aa):Th->Prop
 |.eJ=>True
 |.num _=>True
 |.kG b=>b≠ []/\b.3<=10/\∀x∈b,x∈due.5 (·.1)
inductive spThing(vs:ly)(H:Hp)(Q:VK)(b:XK):Prop
 |mk (tv) (f) (d) (due) (h:vs=[tv,.ref d]) (i:iI H tv f) (l:Rd H d (.dK (BF due))) (j:fZ due) (o:WH due f) (m:∀g,dH H g->Q (.int (Da due f:Nat)) g)
theorem WI:AH [lM,nY] [lM,nY] (defScope ER):=fG
theorem UJ(due):(BF due).5 (·.2)=BK (due.5 (·.2)):=by unfold BF BK;ext
theorem UK(F:eP b pk pk ER f v)(B:Bl g)(M:Fn P w b g base qk 1 [lZ] (spNextMark b))(q:Fn P w b g base pI 2 ["parts",nY] spIsNamesOf)
  (s:Fn P w b g base pj 1 [lZ] (spUnionOf b)) (S:Fn P w b g base oU 1 [lM] spIsWhole):AT P w b g base eK 3 f v [lM,nY] spThing:=by
 let(fN,dN,M,mN,kN,bN):=M.ex;let(fI,dI,q,mI,kI,bI):=q.ex;let(fU,dU,s,mU,kU,Z):=s.ex;let(fW,dW,S,mW,kW,bW):=S.ex;show F.m WI λvs H ar an h=>?_;let(tv,th,d,j,rfl,J,C,DO,TO,k):=h;show(zd,λdc al as az R=>?_);let X:=CK R;let r:eB 1 _:=R.51 qc
 show(_,AC (AV (Do (Le (pv 0))) (AB (AI (A0 M r zd mN kN bN .nil Af (fy (Ay (Os zd) zd B.list Fg (fy (TY slot_dict_values type_dict_values RY (pv 1)))))))) AM)
  (AC (AV (PW.pt (Ci (Ai (Br b rfl rfl B.gZ rfl B.tuple DY (pv 0))) (Bv (Ai (A0 q R rfl mI kI bI .nil Af (AA (pv 0) (fy (pv 1))))))))
   (AB (AI (A0 s r rfl mU kU Z .nil Af (fy (BX [nY] [gl 1] (by rfl) (_) (by rfl) rfl (Oa (pv 0)) (λ_ _ _ _ _ _=>BJ) (λ_ _ _ _ _ _=>Au X (pv 1) (pv 0))))))) AM)
  (AC (AV (Ai (A0 S r rfl mW kW bW .nil Af (fy (pv 0)))) (AB (AI (pv 0))) AM)
  (AB AY))),?_)
 show(_,rfl,_,rfl,?_);cases th with
 |eJ=>
  let e:=J;subst e;show BN (λ_=>(7,d,zd,.inl (_,C),d,7,zd,C,λp D=>?_)) (λz=>absurd zd z);show(p,d,7,dG,dH.rd (AD (dH.refl _) D) C,λl T=>(l,j.5 (·.2),zd,dY.of (by rw[dG,UJ]),λn hn=>?_,?_))
  ·let(ab,Y,rfl):=zh.mp hn;show DO.lt ab Y
  ·show k _ (AD (AD (dH.refl _) D) T)
 |num n=>
  let e:=J;subst e;show BN (λz=>absurd (zR z) (_)) (λ_=>(7,_,_,_,im,zd,.int _,(by rfl),7,?_));apply AU;show(7,n,zd,7,?_);apply Ag;show(7,k H (dH.refl H))
 |kG o=>
  let(a,rfl,I):=J;let(U,hln,u):=TO;show BN (λz=>absurd (zR z) (_)) (λ_=>?_);show(7,_,_,_,L,zd,.tup I,zd,7,(7,7,a,d,o,BF j,zd,I,by lia,C,λA G=>(7,?_)))
  let E:(decide (0<o.3)&&o.all λx=>(Aj (BF j) (Sum.inr x)).26)=L:=by
   rw[Bool.and_eq_true,decide_eq_true_eq,all_eq_true];show(List.length_pos_iff.mpr U,λx N=>?_);rw[C3 (u x N)];rfl
  rw[E];apply Ag;show(7,a,zd,(_,eO.of (G _ _ I)),NG (λi y t=>t=A/\y=BK ((o.20 i).5 (look j))) (zd,zd) (λi y t _ m=>by let(e,_):=m;show e ▸ eO.of (G _ _ I)) (λi y t (_,e)=>?_) ?_ ?_)
  ·rw[e];unfold BK
   grind
  ·rintro i ag y t hi ⟨rfl,rfl⟩
   let(x,N,rfl):∃x,o[i]?=gl x/\ag=V.str x:=by
    grind
   show(7,7,d,7,.inl (BF j,Sum.inr x,dH.rd G C,zd,(C3 (u x (_))).35),zd,?_);rw[zw,N];unfold BK
   ext
  ·rintro y t ⟨rfl,rfl⟩ p D;let Q:o.20 (o.5 V.str).3=o:=by rw[AO _];show zt
   show(p,o.5 (look j),zd,dY.of (by rw[dG,Q]),k _ (AD G D))
end
end Mk
namespace L2
open PySem
theorem UL{s}{a}{f}{g:TG}{w:TS}{D:KR}{b}(d:Nat->St->Hp->Prop)(E:d 0 b H)(v:∀i b H,i<=f.3->d i b H->dY s H a f)
  (B:∀i x b H p,f[i]?=U x->d i b H->H p=J->g (.ref p) b (upd H p (.tup [.int i,x])) λh t=>w {D with nx:=d (i+1),ct:=d (i+1),bk:=D.nx} h t) (A:∀b H,d f.3 b H->D.nx b H):
  ∃W:Nat->Nat->St->Hp->Prop,(∃m,W 0 m b H)/\∀i m b H,W i m b H ->
   ((Ite s a).stop i H/\D.nx b H)\/((Ite s a).go i H/\∃N,(∀l j,N l j->∃C,C<m/\W (i+1) C l j)/\∀x j,(Ite s a).jD i H x j->g x b j λh t=>w {D with nx:=N,ct:=N,bk:=D.nx} h t):=by
 show(λi m b H=>C₃ (m=f.3-i) (i<=f.3) (d i b H),(7,Nat.zero_le _,E),?_);rintro i m b H ⟨rfl,z,o⟩;by_cases r:i<f.3
 ·have u:=z7 r;show .inr ((f,f[i],v i b H z o,u),d (i+1),λl j q=>(f.3-(i+1),by lia,Y,r,q),?_);rintro x j ⟨p,y,I,rfl,G,rfl⟩
  let F:y=f[i]:=by
   have:=G f (v i b H z o);rw[u]at this;show(Option.some.inj this).35
  subst F;show B i f[i] b H p u o I
 ·have e:i=f.3:=by lia
  subst e;show .inl ((f,v _ b H z o,zp _),A b H o)
theorem SG{a}{o}{f}{g:TG}{s:TS}{D:KR}{b}(d:Nat->St->Hp->Prop)(F:d 0 b H)(z:∀i b H,d i b H->H a=U (.gj o (.dK f)))
  (w:∀i r b H p,f[i]?=U r->d i b H->H p=J->g (.ref p) b (upd H p (.tup [kV r.1,r.2])) λh v=>s {D with nx:=d (i+1),ct:=d (i+1),bk:=D.nx} h v) (G:∀b H,d f.3 b H->D.nx b H):
  ∃W:Nat->Nat->St->Hp->Prop,(∃m,W 0 m b H)/\∀i m b H,W i m b H ->
   ((lq a o f).stop i H/\D.nx b H)\/((lq a o f).go i H/\∃N,(∀j l,N j l->∃C,C<m/\W (i+1) C j l)/\∀x l,(lq a o f).jD i H x l->g x b l λh v=>s {D with nx:=N,ct:=N,bk:=D.nx} h v):=by
 show(λi m b H=>C₃ (m=f.3-i) (i<=f.3) (d i b H),(7,Nat.zero_le _,F),?_);rintro i m b H ⟨rfl,I,u⟩;by_cases t:i<f.3
 ·show .inr ((z i b H u,t),d (i+1),λj l q=>(f.3-(i+1),by lia,Y,t,q),?_);rintro x l ⟨p,r,E,rfl,y,rfl⟩;show w i r b H p y u E
 ·have e:i=f.3:=by lia
  subst e;show .inl ((z _ b H u,zp _),G b H u)
theorem J4{w}{r}{ok}{B}{R}(d:Nat->w->Hp->Prop)(t:d 0 r g)(q:∀i b H,d i b H->H a=U (.gj o (.dK f)))(s:∀i b H,d i b H->ok b)
  (m:∀i h b H p,f[i]?=U h->d i b H->H p=J->B (.ref p) b (d (i+1)) (upd H p (.tup [kV h.1,h.2]))) (v:∀b H,d f.3 b H->R b H):tW (lq a o f) r ok B R g:=
 CL (n:=f.3) d t s (λi b H l e=>((q i b H e,l),by rintro x y ⟨p,h,u,rfl,j,rfl⟩;show m i h b H p j e u)) λb H e=>((q _ b H e,zp _),v b H e)
theorem Pc{a}{o}{f}{g}{tt}{m}{h}{R}{s}{j}(d:Nat->ly->Hp->Prop)(r:d 0 [] j)(l:∀i b H,d i b H->H a=U (.gj o (.dK f)))(v:∀i b H,d i b H->b.3<=1000)
  (u:∀i e b H p,f[i]?=U e->d i b H->H p=J->bT g tt (i4 m) h s (.ref p) b (d (i+1)) (upd H p (.tup [kV e.1,e.2]))) (t:∀b H,d f.3 b H->R b H):tW (lq a o f) [] iU (bT g tt (i4 m) h s) R j:=J4 d r l (λi b H q=>G3 (v i b H q)) u t
end L2
namespace Mk
open PySem L2 MK
mutual
def ZZ(x:Str):Prop:=Ca x=L/\x.31 (· < 128)=L/\x.3<=1000
structure QR(due:Aa)(r:Str×Th):Prop where
 ahead:fZ due
 few:due.3<10
 nm:ZZ r.1
 new:r.1∉ due.5 (·.1)
 th:WH due r.2
 lt:Da due r.2<2^20
def As(b:List (Str×Th)):Aa:=b.67 (λdue r=>due++[(r.1,(Da due r.2))]) []
theorem Fh(a)(r):As (a++[r])=As a++[(r.1,(Da (As a) r.2))]:=by unfold As;ext
def FP(b:List (Str×Th)):Prop:=∀i r,b[i]?=U r->QR (As (b.20 i)) r
inductive gB(H:Hp)(b:l7)(r:Str×Th):Prop
 |mk (tv) (d:H b=U (.tup [.str r.1,tv])) (f:iI H tv r.2)
inductive RowsAt(H:Hp)(l:l7)(b:List (Str×Th)):Prop
 |mk (as) (d:H l=U (.lst (as.5 V.ref))) (f:Paired (gB H) as b)
theorem iI.same(s:dH H f)(h:iI H v b):iI f v b:=by
 cases b with
 |eJ=>show h
 |num n=>show h
 |kG d=>let(a,e,h):=h;show(a,e,s _ _ h)
theorem gB.same{r}(s:dH H d)(h:gB H b r):gB d b r:=by
 let(a,e,t):=h;show(a,s _ _ e,t.25 s)
theorem Bu{g h}{F}:∀{b}{f:List h}{i:Nat}{x:g},Paired F b f->b[i]?=U x->∃y,f[i]?=U y/\F x y
 |_,_,_,_,.nil,e=>by simp at e
 |_,_,0,_,.cons r _,e=>by ext
 |_,_,i+1,x,.cons _ t,e=>by
  let(u,d,a):=Bu t (_)
  ext
theorem J5(s:dH H f)(a:H d=J):dH H (upd f d o):=λb u e=>by
 rw[AE (AK e a)];show s b u e
inductive spRow(vs:ly)(H:Hp)(Q:VK)(f:XK):Prop
 |mk (b d) (r) (due) (h:vs=[.ref b,.ref d]) (i:gB H b r) (l:Rd H d (.dK (BF due))) (j:QR due r) (m:∀g,dH H g->Q (.int (Da due r.2:Nat)) g)
theorem scRow:AH ["row",nY,lK,lM,lO] ["row",nY] (defScope Gb):=fG
theorem YC(F:eP g pS pS Gb f m)(B:Bl j)(o:j "GREATEST"=U (.int 1048575 p))(l:Fn P w g j base pN 1 [lM] spIsName)(GT:Fn P w g j base pk 3 [lM,nY] spThing):
  AT P w g j base eK 4 f m ["row",nY] spRow:=by
 let(fN,dN,l,mN,kN,bN):=l.ex;let(fT,dT,GT,mT,kT,bT):=GT.ex;show F.m scRow λvs H Q E h=>?_;let(b,d,r,due,rfl,(tv,hb,hT),hd,RO,k):=h;show(Y,λG A M s u=>?_)
 show(_,AC (AV (PW.pt (B8 (Ao (Ai (Br g Y Y B.gZ Y B.tuple DY (Z 0)))) (Bc (AJ Dg (AS (BB g Y) Y B.61 PySem.boot_len (AA (Z 0) AG)) AF (AN _))))) (AB AY) AM)
  (AC (Bo (Z 0) (BR rfl (AQ (A5 (i:=2) scRow.nd rfl (Or.inl rfl)) (AQ (A5 (i:=3) scRow.nd rfl (Or.inl rfl)) Az))))
  (AC (AV (PW.pt (B8 (Ao (Ai (A0 l (u.51 qc) rfl mN kN bN .nil Af (AA (Z 2) AG)))) (Bc (Do (Hx (CK u) (Z 2) (Z 1)))))) (AB AY) AM)
  (AC (DN (i:=4) scRow.nd rfl (Or.inl rfl) (A0 GT u rfl mT kT bT .nil Af (AA (Z 3) (AA (Z 1) AG))))
  (AC (AV (PW.pt (B8 (Do (Le (Z 4))) (Bc (Ao (Ex Eu Eu AF (Z 4) (BA (v:=.int 1048575) rfl o (p,rfl))))))) (AB AY) AM)
  (AB (AI (Z 4))))))),?_)
 show(7,_,_,_,L,Y,.tup hb,Y,7,?_);apply AU;show(7,b,7,.inr (eO.of hb),Y,7,?_);apply TJ rfl;show(7,b,7,eO.of hb,Y,_,7,_,7,Y,(7,r.1,Y,RO.nm.2.1,RO.nm.2.2,λC q=>(7,?_)));rw[RO.nm.1];apply AU;show(7,7,d,7,.inl (BF due,Sum.inr r.1,dH.rd q hd,Y,(HL RO.new).35),7,?_);apply AU;show(7,7,tv,r.2,d,due,Y,hT.25 q,dH.rd q hd,RO.ahead,RO.th,λD y=>(7,7,?_));show BN (λz=>absurd (zR z) (_)) (λ_=>(7,_,7,Y,7,?_));show BN (λ_=>(_,7,Y,7,?_)) (λz=>absurd (zH (_)) z);let I:=RO.lt;apply TJ (show((Da due r.2:Nat):Int)<=1048575 by lia);show(7,k _ (q.7 y))
inductive spNumbered(vs:ly)(H:Hp)(Q:VK)(b:XK):Prop
 |mk (l) (rows) (g:vs=[.ref l]) (h:RowsAt H l rows) (j:0<rows.3) (i:rows.3<=10) (o:FP rows) (m:∀d f,dH H f->H d=J->f d=U (.dK (BF (As rows)))->Q (.ref d) f)
theorem scNumbered:AH [oy,lZ,"at","row",lO] [oy] (defScope IH):=fG
theorem QS{due}{x}{n:Nat}(h:x∉ due.5 (·.1)):Bp (BF due) (Sum.inr x:Key) (V.int (n))=BF (due++[(x,(n))]):=by
 rw[E3 _ (HL h)];unfold BF
 ext
theorem LL(due):(BF due).3=due.3:=AO _
theorem CD:∀d,(As d).3=d.3:=λd=>by
 have:∀(l:List (Str×Th))a,(l.67 (λh r=>h++[(r.1,(Da h r.2))]) a).3=a.3+l.3:=by
  intro l;induction l with
  |nil=>simp
  |cons x r i=>grind
 let e:=this d [];rw[length_nil]at e;unfold As
 lia
theorem N1(F:eP g "numbered" "numbered" IH f o)(B:Bl m)(q:m "MOST_ROWS"=U (.int 10 s))(j:Fn P w g m base pS 4 ["row",nY] spRow):AT P w g m base eK 5 f o [oy] spNumbered:=by
 let(fR,dR,j,mR,kR,bR):=j.ex;show F.m scNumbered λvs H al ag h=>?_;let(l,rows,rfl,(as,hl,hP),h0,kP,RO,k):=h;show(Y,λdc A an ar T=>?_)
 show(_,AC (AV (PW.pt (B8 (Ao (Ai (Br g Y Y B.gZ Y B.list Fg (Z 0)))) (Bc (Ao (Ex Eu Eu AF (AS (BB g Y) Y B.61 PySem.boot_len (AA (Z 0) AG)) (BA (v:=.int 10) Y q (s,Y))))))) (AB AY) AM)
  (AC (DN (i:=1) scNumbered.nd rfl (Or.inl rfl) DR)
  (AC (Cl PassesOwn.never rfl (Vp rfl B.enum (AA (Z 0) AG)) (BR rfl (AQ (A5 (i:=2) scNumbered.nd rfl (Or.inl rfl)) (AQ (A5 (i:=3) scNumbered.nd rfl (Or.inl rfl)) Az)))
   (AC (DN (i:=4) scNumbered.nd rfl (Or.inl rfl) (A0 j T rfl mR kR bR .nil Af (AA (Z 3) (AA (Z 1) AG))))
   (AC (AV (Do (Le (Z 4))) (AB AY) AM)
   (AB (EB (CK T) (Z 1) (Am (Ac g rfl) (Z 3) AF (λ_ _=>rfl)) (Z 4) rfl)))))
  (AB (AI (Z 1))))),?_)
 show(7,_,_,_,L,Y,.lst hl,Y,7,?_);apply AU;let ab:(as.5 V.ref).3=rows.3:=by rw[AO,hP.3]
 show(7,l,7,.inl (dY.of hl),_,7,Y,7,BN (λ_=>?_) (λz=>absurd (zH ()) z));show(_,7,Y,7,?_);apply TJ (show(((as.5 V.ref).3:Nat):Int)<=10 by lia);intro d D
 show(7,l,Y,(_,dY.of (AD (dH.refl _) D _ _ hl)),UL (λi E u=>∃M N Q,E=[U (.ref l),U (.ref d),M,N,Q]/\dH H u/\u d=U (.dK (BF (As (rows.20 i)))))
  (J,J,J,rfl,AD (dH.refl _) D,dG) (λi E u _ (_,_,_,_,v,_)=>dY.of (v _ _ hl)) ?_ ?_)
 ·rintro i y E u p hi ⟨M,N,Q,rfl,v,C⟩ S
  let(b,hb,rfl):∃b,as[i]?=U b/\y=V.ref b:=by
   grind
  let(r,hr',hra):=Bu hP hb;let R:=RO i r hr';let G:dH H (upd u p (.tup [.int i,.ref b])):=AD v S;let X:(upd u p (.tup [.int i,.ref b])) d=U (.dK (BF (As (rows.20 i)))):=by rwa[AE (AK C S)]
  show(p,7,eO.of dG,Y,_,7,_,7,Y,(7,7,b,d,r,As (rows.20 i),Y,hra.25 G,.inl X,R,λH4 I=>?_));show(7,7,BN (λz=>absurd (zR z) (_)) (λ_=>?_));let(tv,dm,_):=hra.25 (G.7 I);show(7,7,7,b,_,0,.str r.1,Y,Y,eO.of dm,Y,d,7,iP.k (k:=Sum.inr r.1) (I _ _ X) (AR (by rw[LL,CD,zr];lia)),(_,_,7,J5 (G.7 I) D,?_));rw[dG,QS R.new,zw,hr',Option.toList_some,Fh]
 ·rintro E u ⟨M,N,Q,rfl,v,C⟩;rw[ab,zt]at C;show(7,k d u v D C)
end
end Mk
namespace L2
open PySem
theorem UM{T}(l:List T)(G)(f)(z:Paired G S l)(n:l.3<=1000)
  (r:∀i a,dH A a->(i<l.3->B.go i a/\∀x p,B.jD i a x p->p=a/\S[i]?=U x)/\B.stop l.3 a)
  (M:∀v m a(N:Option V->Hp->Prop),m∈l->G v m->dH A a->(∀d,dH a d->N (f m) d)->g v (EG P X) a λj a=>tt j a λb d=>if b=L then Q j d λy H=>N (U y) H else N J d)
  (I:∀a,dH A a->R (l.76 f) a):tW B [] iU (bT g tt (i4 Q) P X) R A:=
 CL (n:=l.3) (λi h a=>dH A a/\h=(l.20 i).76 f) (dH.refl _,rfl) (λi h a w=>by let(_,e):=w;show G3 (by
   let C:=List.length_filterMap_le f (l.20 i);rw[zr]at C;rw[e]
   lia))
  (λi h a t (s,e)=>(((r i a s).1 t).1,λx p F=>by
   let(rfl,D):=((r i a s).1 t).2 x p F;let(m,u,E):=Mk.Bu z D;show M x m p (λo d=>(dH A d/\(match o with|some y=>h++[y]|none=>h)=(l.20 (i+1)).76 f)) (zM u) E s λd ab=>(s.7 ab,?_);rw[zw,u,List.filterMap_append,←e]
   cases q:f m<;>simp[q]))
  λh a c=>by let(s,e):=c;show ((r 0 a s).2,by rw[e,zt];show I a s)
section
variable {β:Type}
theorem QT(l:List β)(G)(f)(p:Paired G A l)(q:B a=U (.lst A))(n:l.3<=1000)
  (C:∀v m d(N:Option V->Hp->Prop),m∈l->G v m->dH B d->(∀o,dH d o->N (f m) o)->g v (EG D H) d λj d=>tt j d λb o=>if b=L then E j o λy u=>N (U y) u else N J o)
  (r:∀d,dH B d->R (l.76 f) d):tW (jJ I a) [] iU (bT g tt (i4 E) D H) R B:=
 UM l G f p n (λi d s=>(λt=>((A,A[i]'(by rw[p.3];show t),dY.of (s _ _ q),z7 _),λx z w=>by let(e,h):=w;show (e,h A (dY.of (s _ _ q)))),A,dY.of (s _ _ q),by rw[p.3];simp)) C r
theorem Zb(l:List β)(G)(f)(p:Paired G A l)(q:B a=U (.tup A))(n:l.3<=1000)
  (C:∀v m d(N:Option V->Hp->Prop),m∈l->G v m->dH B d->(∀o,dH d o->N (f m) o)->g v (EG D H) d λj d=>tt j d λb o=>if b=L then E j o λy u=>N (U y) u else N J o)
  (r:∀d,dH B d->R (l.76 f) d):tW (Itt I a) [] iU (bT g tt (i4 E) D H) R B:=
 UM l G f p n (λi d s=>(λt=>((A,A[i]'(by rw[p.3];show t),eO.of (s _ _ q),z7 _),λx z w=>by let(e,h):=w;show (e,h A (eO.of (s _ _ q)))),A,eO.of (s _ _ q),by rw[p.3];simp)) C r
theorem IZ{b}(f:b->V):∀l,Paired (λv m=>v=f m) (l.5 f) l
 | []=>.nil
 |_::r=>.cons rfl (IZ f r)
end
end L2
namespace Mk
open PySem L2 MK PySem.NumText
theorem dJ.vs{d}{f}:∀{a}{l:List d},dJ H a (l.5 f)->Paired (λv m=>∃b,v=.ref b/\H b=U (.tup [(f m).1,(f m).2])) (a.5 V.ref) l
 | [],[],_=>.nil
 |_::_,_::_,.cons h r=>.cons (_,rfl,h) (dJ.vs r)
 | [],_::_,h=>by cases h
 |_::_,[],h=>by cases h
theorem J6{b d:Type}(f:b->d):∀l:List b,l.76 (λx=>U (f x))=l.5 f
 | []=>rfl
 |a::r=>by simp
end Mk
namespace Mk
open PySem L2 MK
mutual
noncomputable def Al(due:Aa):List (Nat×Str):=due.67 (λfs p=>if (fs.5 (·.1)).16 p.2 then fs else fs++[(p.2,(p.1))]) []
noncomputable def DA(fs:List (Nat×Str)):LK:=fs.5 λq=>(Sum.inl (q.1:Int),(V.str q.2))
noncomputable def N2(fs:List (Nat×Str))(n:Nat):Str:=((fs.find? λq=>decide (q.1=n)).5 (·.2)).45 (Str.ofString "")
theorem Dl(due)(p):Al (due++[p])=if ((Al due).5 (·.1)).16 p.2 then Al due else Al due++[(p.2,(p.1))]:=by unfold Al;ext
theorem Ia(n:Nat):∀fs,Aj (DA fs) (Sum.inl (n):Key)=(fs.find? λq=>decide (q.1=n)).5 λq=>V.str q.2
 | []=>rfl
 |q::r=>by
  change Aj ((Sum.inl (q.1:Int),(V.str q.2))::DA r) (Sum.inl n)=_;by_cases e:q.1=n
  ·rw[BD (by rw[←e]),List.find?_cons_of_pos (_)];rfl
  ·rw[A8 (λz=>e (_)),List.find?_cons_of_neg (_)];show Ia n r
theorem Pd{fs:List (Nat×Str)}(h:n∈fs.5 (·.1)):(fs.find? λq=>decide (q.1=n)).26=L:=by
 ext
theorem J7{fs}{n:Nat}(h:n∈fs.5 (·.1)):Aj (DA fs) (Sum.inl (n):Key)=U (V.str (N2 fs n)):=by
 rw[Ia];unfold N2;let(q,a):=Option.isSome_iff_exists.mp (Pd h)
 ext
theorem Ie{fs}{n:Nat}(h:n∉ fs.5 (·.1)):Aj (DA fs) (Sum.inl (n:Int):Key)=J:=by
 rw[Ia]
 grind
theorem N3{fs}{n:Nat}{x}(h:n∉ fs.5 (·.1)):Bp (DA fs) (Sum.inl (n):Key) (V.str x)=DA (fs++[(n,(x))]):=by
 rw[E3 _ (Ie h)];unfold DA
 ext
theorem Eb(due):(Al due).3<=due.3:=by
 have:∀(l:Aa)(a:List (Nat×Str)),(l.67 (λfs p=>if (fs.5 (·.1)).16 p.2 then fs else fs++[(p.2,(p.1))]) a).3<=a.3+l.3:=by
  intro l;induction l with
  |nil=>ext
  |cons x r d=>
   grind
 let e:=this due [];rw[length_nil]at e;unfold Al;omega
theorem FQ(due:Aa):∀a,(a.5 (·.1)).29->(∀n∈a.5 (·.1),n∈(due.67 (λfs p=>if (fs.5 (·.1)).16 p.2 then fs else fs++[(p.2,(p.1))]) a).5 (·.1)) /\
  ((due.67 (λfs p=>if (fs.5 (·.1)).16 p.2 then fs else fs++[(p.2,(p.1))]) a).5 (·.1)).29/\(∀p∈due,p.2∈(due.67 (λfs p=>if (fs.5 (·.1)).16 p.2 then fs else fs++[(p.2,(p.1))]) a).5 (·.1)) /\
  (∀q∈due.67 (λfs p=>if (fs.5 (·.1)).16 p.2 then fs else fs++[(p.2,(p.1))]) a,q∈a\/(q.2,(q.1))∈due):=by
 induction due with
 |nil=>ext
 |cons p r t=>
  intro a o;rw[foldl_cons];by_cases h:(a.5 (·.1)).16 p.2=L
  ·rw[zf h];let(e,j,l,i):=t a o;show(e,j,λq d=>?_,λq d=>?_)
   ·let rfl||d:=mem_cons.mp d
    ·show e _ (by simpa using h)
    ·show l q d
   ·let z||z:=i q d
    ·show .inl z
    ·show .inr (_)
  ·rw[zg h];let(e,j,l,i):=t (a++[(p.2,(p.1))]) (by rw[zl];show Vk o (λz=>h (by simpa using z)));show(λn u=>e n (by rw[zl];show zL _ u),j,λq d=>?_,λq d=>?_)
   ·let rfl||d:=mem_cons.mp d
    ·show e _ (_)
    ·show l q d
   ·let z||z:=i q d
    ·let z||z:=mem_append.mp z
     ·show .inl z
     ·have:q=(p.2,(p.1)):=by simpa using z
      subst this;show .inr zE
    ·show .inr (_)
theorem SH(due):((Al due).5 (·.1)).29:=(FQ due [] nodup_nil).2.1
theorem SI(h:p∈due):p.2∈(Al due).5 (·.1):=(FQ due [] nodup_nil).2.2.1 p h
theorem LM(h:q∈Al due):(q.2,(q.1))∈due:=by
 let z||z:=(FQ due [] nodup_nil).2.2.2 q h
 ·cases z
 lia
inductive spFirsts(vs:ly)(H:Hp)(Q:VK)(b:XK):Prop
 |mk (d) (o) (due) (g:vs=[.ref d]) (h:H d=U (.gj o (.dK (BF due)))) (j:due.3<=100) (i:∀e f,dH H f->H e=J->f e=U (.dK (DA (Al due)))->Q (.ref e) f)
theorem scFirsts:AH [lZ,ou,lK,lO] [lZ] (defScope FC):=fG
theorem UN{due}{i:Nat}{a}(h:(BF due)[i]?=U a):∃p,due[i]?=U p/\a=(Sum.inr p.1,(V.int (p.2:Int))):=by
 unfold BF at h;rw[zx]at h;cases e:due[i]? with
 |none=>rw[e]at h;cases h
 |some p=>rw[e]at h;show(p,Y,(Option.some.inj h).35)
theorem SJ(F:eP g pJ pJ FC f b):AT P an g s base eK 1 f b [lZ] spFirsts:=by
 show F.m scFirsts λvs H Q E h=>?_;let(d,o,a,rfl,N,Y,k):=h;show(zd,λS A C al X=>?_)
 show(_,AC (DN (i:=1) scFirsts.nd zd (Or.inl zd) DR)
  (AC (Cl PassesOwn.never rfl (JY (Z 0)) (BR rfl (AQ (A5 (i:=2) scFirsts.nd rfl (Or.inl rfl)) (AQ (A5 (i:=3) scFirsts.nd rfl (Or.inl rfl)) Az)))
   (AB (Ae (Ft plainAttrs_dict slot_dict_setdefault type_dict_setdefault KW (Z 1) (AA (Z 3) (fy (Z 2)))))))
  (AB (AI (Z 1)))),?_)
 intro e u
 show(7,d,o,BF a,zd,AD (dH.refl _) u _ _ N,SG (λi v l=>E₂ λD G=>C₃ (v=[U (.ref d),U (.ref e),D,G]) (dH H l) (l e=U (.dK (DA (Al (a.20 i))))))
  (J,J,rfl,AD (dH.refl _) u,dG) (λi v l m=>by let(_,_,_,r,_):=m;show r _ _ N) ?_ ?_)
 ·rintro i T v l p x ⟨D,G,rfl,r,j⟩ I;let(q,y,rfl):=UN x;let ab:dH H (upd l p (.tup [.str q.1,.int q.2])):=AD r I;let t:(upd l p (.tup [.str q.1,.int q.2])) e=U (.dK (DA (Al (a.20 i)))):=by rwa[AE (AK j I)]
  let w:a.20 (i+1)=a.20 i++[q]:=by rw[zw,y];rfl
  let R:(DA (Al (a.20 i))).3<=100:=by
   unfold DA;rw[AO];have:=Eb (a.20 i);rw[zr]at this
   lia
  show(p,7,eO.of dG,zd,_,7,_,7,zd,(7,.inr (.inr (.inl (zd,.inl (_,t)))),7,7,e,_,Sum.inl q.2,.str q.1,zd,zd,t,AR (),λag B=>?_,λM=>?_))
  ·show(_,7,ab,?_);let z:=Decidable.byContradiction λz=>by rw[Ie z]at B;cases B
   rwa[w,Dl,zf (_)]
  ·have z:q.2∉ (Al (a.20 i)).5 (·.1):=λz=>by rw[J7 z]at M;cases M
   show(_,7,J5 ab u,?_);rw[dG,w,Dl,zg (_),N3 z]
 ·rintro v l ⟨D,G,rfl,r,j⟩;rw[LL,zt]at j;show(7,k e l r u j)
def N4(b d:l7)(r:Str):List (Str×V):=BH "rule" (.str r) (BH ou (.ref d) (BH lZ (.ref b) []))
theorem HN(a d)(r):(N4 a d r).8 (lZ:Str)=U (.ref a):=by
 rfl
theorem UO(d a)(r):(N4 d a r).8 (ou:Str)=U (.ref a):=by
 rfl
theorem Ig(a d)(r):(N4 a d r).8 ("rule":Str)=U (.str r):=by
 rfl
theorem Cb(e h)(r){m:Str}(i:¬ m="rule":=by decide +kernel)(d:¬ m=ou:=by decide +kernel)(a:¬ m=lZ:=by decide +kernel):(N4 e h r).8 m=J:=by
 unfold N4;rw[Aw,zg i,Aw,zg d,Aw,zg a];rfl
theorem WJ(a):(BH lZ (V.ref a) []).8 (lZ:Str)=U (.ref a):=by rfl
structure eR(C:l7)(H:Hp)(p:l7)(due:Aa)(r:Str):Prop where
 ex:∃dx b f d g,H p=U (.ins C dx (N4 b d r))/\H b=U (.gj f (.dK (BF due)))/\H d=U (.gj g (.dK (DA (Al due))))
theorem eR.same{due}{r}(s:dH H f)(h:eR C H p due r):eR C f p due r:=by
 let(e,i,d,j,l,a,b,c):=h.ex;show⟨(e,i,d,j,l,s _ _ a,s _ _ b,s _ _ c)⟩
structure Fm(K:FG)(C:l7):Prop where
 cl:iQ K C
 nN:gf K C lZ
 nF:gf K C ou
 nR:gf K C "rule"
noncomputable def eU:lr:=[o7,qo,n6,oX]
inductive spInit(C:l7)(vs:ly)(H:Hp)(Q:VK)(d:XK):Prop
 |mk (p dx l) (rows) (r) (g:vs=[.ref p,.ref l,.str r]) (h:H p=U (.ins C dx [])) (j:RowsAt H l rows) (i:0<rows.3) (q:rows.3<=10) (m:FP rows) (s:r∈eU) (u:∀f,(∀b o,H b=U o->b≠p->f b=U o)->eR C f p (As rows) r->Q .eJ f)
theorem YD:AH [lH,oy,oz] [lH,oy,oz] (defScope Cq):=fG
theorem UP(h:r∈eU):iG (.str r) (eU.5 V.str)=L:=by
 unfold iG;rw[any_map,any_eq_true];show(r,h,by change(r==r)=L;simp)
theorem WK(F:eP g lU o4 Cq f A)(al:Bl m)(T:Fm g C)(B:m "RULES"=U (.ref v))(z:∀H,eO g H v (eU.5 V.str))
  (s:Fn P w g m base "numbered" 5 [oy] spNumbered) (R:Fn P w g m base pJ 1 [lZ] spFirsts) (N:Fn P w g m base oK 1 [lM,mQ] (DK g)):AT P w g m base eK 6 f A [lH,oy,oz] (spInit C):=by
 let(fN,dN,s,mN,kN,bN):=s.ex;let(fF,dF,R,mF,kF,bF):=R.ex;let(fO,dO,N,mO,kO,bO):=N.ex;show F.m YD λvs H ar an h=>?_;let(p,t,l,a,r,rfl,hp,RA,h0,Y,RO,M,k):=h;show(zd,λdc ag as aC hr=>?_);let y:eB 1 _:=hr.51 qc
 show(_,AC (CS (Z 0) (A0 s hr zd mN kN bN .nil Af (fy (Z 1))) zd)
  (F9 (AC (AV (Ao (Ai (A0 N y rfl mO kO bO .nil Af (AA (Z 2) (fy (BA (v:=.ref v) rfl B rfl)))))) (AB AY) AM)
  (AC (CS (Z 0) (A0 R y rfl mF kF bF .nil Af (fy (Ad (Z 0) rfl))) rfl)
  (F9 (AB (CS (Z 0) (Z 2) rfl)))))),?_)
 show(7,l,a,zd,RA,h0,Y,RO,λd X S j jV=>?_);let u:=AK hp j;show(7,p,C,t,[],zd,S _ _ hp,T.cl,T.nN,(_),?_);show(d,BF (As a),by rw[AE (Ne.symm u)];lia,λQ=>(7,.inr (r,v,eU,zd,z _,7,?_)));rw[UP M];apply AU;let x:∀o,(upd (upd X p (.ins C t (BH lZ (.ref d) []))) d o) p=U (.ins C t (BH lZ (.ref d) [])):=λo=>by rw[AE u,dG]
 show(7,p,C,t,_,7,x _,T.cl,T.nN,WJ d,d,Q,As a,zd,dG,by rw[CD];lia,λD H2 E i az=>?_);let q:=AK (x _) i;show(7,p,C,t,7,E _ _ (x _),T.cl,T.nF,(by change 1<1000;decide),(D,DA (Al (As a)),by rw[AE (Ne.symm q)];lia,λo2=>?_));let I:∀o,(upd (upd H2 p (.ins C t (BH ou (.ref D) (BH lZ (.ref d) [])))) D o) p=U (.ins C t (BH ou (.ref D) (BH lZ (.ref d) []))):=λo=>by rw[AE q,dG]
 show(7,7,p,C,t,7,I _,T.cl,T.nR,Nat.lt_of_le_of_lt (Ax _ _ _) (by change 2<1000;decide),k _ (λb o e G=>?_) ⟨(t,d,Q,D,o2,dG,?_,?_)⟩)
 ·rw[AE G,AE,AE G]
  ·apply E _ _;rw[AE (AK e j),AE G];show S _ _ e
  ·intro ab;subst ab
   have:(upd (upd X p (.ins C t (BH lZ (.ref d) []))) d (.gj Q (.dK (BF (As a))))) b=U o:=by
    rw[AE (AK e j),AE G];show S _ _ e
   rw[i]at this;cases this
 ·rw[AE (Ne.symm u),AE (AK (dG) i),AE (Ne.symm u)];show E _ _ dG
 ·rw[AE (Ne.symm q),dG]
structure Mt(P:Program)(w:World)(K:FG)(mg:SV)(base:Heap)(C:l7)(m:Str)(k:Nat)(ps:lr)(sp:Sp):Prop where
 ex:∃f fd,AT P w K mg base eK k f fd ps sp/\Lj K C m f/\Binds K fd ps []
noncomputable def Ds(due:Aa):List (V×V):=due.5 λp=>(V.str p.1,(V.int (p.2:Int)))
noncomputable def Cg(due:Aa):List Nat:=((Al due).5 (·.1)).mergeSort λa b=>decide (a<=b)
def BY(due:Aa):List Nat:=(Cg due).30 C9
def QU(due:Aa):List (V×V):=(BY due).5 λn=>(V.str (N2 (Al due) n),(V.int (n:Int)))
theorem Ec(due):(Cg due).Perm ((Al due).5 (·.1)):=List.mergeSort_perm _ _
theorem HQ(due):(Cg due).70 (· <= ·):=by
 have:=List.pairwise_mergeSort (le:=λa b=>decide (a<=b)) (λa b c e d=>by grind) (λa b=>by grind) ((Al due).5 (·.1));show this.imp λh=>by ext
theorem UQ{due}{j}(l:j.Perm ((DA (Al due)).5 λd=>match d.1 with|Sum.inl i=>i|Sum.inr _=>0))(f:j.70 (· <= ·)):j=(Cg due).5 λn:Nat=>(n:Int):=by
 apply List.Perm.eq_of_pairwise (le:=(· <= ·)) (λa b _ _ p o=>Int.le_antisymm p o) f
 ·rw[pairwise_map];show(HQ due).imp λh=>by lia
 ·have e:((DA (Al due)).5 λd=>match d.1 with|Sum.inl i=>i|Sum.inr _=>0)=((Al due).5 (·.1)).5 λn:Nat=>(n:Int):=by
   unfold DA;rw[map_map,map_map];rfl
  rw[e]at l;show l.7 ((Ec due).symm.5 _)
theorem mem_keysS{due}{n}:n∈Cg due ↔ n∈(Al due).5 (·.1):=(Ec due).mem_iff
theorem LP(due):(Cg due).3<=due.3:=by
 rw[(Ec due).63,AO];show Eb due
inductive spRows(C:l7)(vs:ly)(H:Hp)(Q:VK)(b:XK):Prop
 |mk (p) (due) (r) (g:vs=[.ref p]) (h:eR C H p due r) (i:∀l f d,dH H d->d l=U (.lst (f.5 V.ref))->dJ d f (Ds due)->Q (.ref l) d)
theorem YE:AH [lH] [lH] (defScope II):=fG
theorem WL(due):(BF due).5 (λa=>(kV a.1,(a.2)))=Ds due:=by unfold BF Ds;rw[map_map];rfl
theorem WM(F:eP b oy "Kind.rows" II f g)(B:Bl m)(T:Fm b C):AT P w b m base eK 1 f g [lH] (spRows C):=by
 show F.m YE λvs H Q E h=>?_;let(p,I,r,rfl,y,k):=h;show(Y,λz A i s M=>?_);let(G,a,e,N,L,o,d,J):=y.ex;show(_,AB (AI (Ay (Ou Y) Y B.list Fg (fy (TY slot_dict_items type_dict_items TZ (Ad (Z 0) Y))))),(7,p,C,G,_,7,o,T.cl,T.nN,HN _ _ _,a,Y,.inl (_,.inr (e,d)),a,7,Y,.inr (e,d),λv q=>?_));let j:dH H (upd H v (QB a v)):=AD (dH.refl _) q;show(v,a,7,dG,dH.rd j (.inr (e,d)),λl D u t _ x ht=>?_);rw[WL]at ht;show k l D u (j.7 t) x ht
inductive spKnown(C:l7)(vs:ly)(H:Hp)(Q:VK)(b:XK):Prop
 |mk (p) (due) (r) (f:vs=[.ref p]) (g:eR C H p due r) (h:∀d,dH H d->Q (.int (Ah ((Al due).5 (·.1)):Nat)) d)
theorem WN:AH [lH] [lH] (defScope Gc):=fG
theorem UR(F:eP b nG "Kind.known" Gc f m)(B:Bl g)(T:Fm b C)(a:Fn P w b g base pj 1 [lZ] (spUnionOf b)):AT P w b g base eK 2 f m [lH] (spKnown C):=by
 let(N,L,a,G,u,o):=a.ex;show F.m WN λvs H Q E h=>?_;let(p,e,r,rfl,v,k):=h;show(Y,λz A d s x=>?_);let(D,I,M,y,q,i,J,j):=v.ex;show(_,AB (AI (A0 a x Y G u o .nil Af (fy (Ay (Oq Y) Y B.list Fg (fy (Ad (Z 0) Y)))))),(7,p,C,D,_,7,i,T.cl,T.nF,UO _ _ _,y,7,.inr (q,j),λl t=>?_));show(l,(Al e).5 (·.1),Y,dY.of (by rw[dG];unfold DA BK;rw[map_map,map_map];rfl),k _ (AD (dH.refl _) t))
theorem SK(s:dH H d)(h:dJ H f g)(a:d b=U (.tup [p.1,p.2])):dJ d (f++[b]) (g++[p]):=Paired.snoc (dJ.same s h) a
theorem N5{H}{d}{a}{i:Nat}{b}(h:dJ H d a)(e:d[i]?=U b):∃p,a[i]?=U p/\H b=U (.tup [p.1,p.2]):=Bu h e
theorem eR.ins{H}{due}{C}{p}{r}(h:eR C H p due r):∃d e i,H p=U (.ins C d (N4 e i r)):=by
 let(d,e,j,i,l,a,_):=h.ex
 grind
theorem SL(due):(QU due).3=(BY due).3:=AO _
theorem QV(h:∀p∈due,p.2<2^20):∀n∈(Al due).5 (·.1),n<2^20:=λn d=>by
 let(q,a,rfl):=zh.mp d;show h _ (LM a)
theorem US(h:∀p∈due,p.2<2^20):∀n∈BY due,n<2^20:=λn a=>QV h n (mem_keysS.mp (mem_filter.mp a).1)
theorem HR(a:0<=x)(h:x<2^n):Builtin.Int.intBits x<=n:=by
 let(m,rfl):=Int.eq_ofNat_of_zero_le a;let e||d:=Nat.eq_zero_or_pos m
 ·subst e;show Nat.zero_le _
 ·rw[FB d];show(Nat.log2_lt ()).53 (by exact_mod_cast h)
theorem Ih(a:0<=i)(d:i<xs.3):∃v,iS xs i=U v/\xs[i.32]?=U v:=by
 show(xs[i.32],?_,z7 ());unfold iS i5
 ext
structure eE(d:l7)(H H':Hp):Prop where
 old:∀b o,H b=U o->b≠d->H' b=U o
 fV:∃a b,H' d=U (.lst [.int a,.int b])
theorem eE.step(x:eE d H f)(s:dH f h):eE d H h:=
 (λb o e i=>s _ _ (x.old b o e i),by let(a,b,e):=x.fV;show(a,b,s _ _ e))
theorem eE.upd(x:eE d H f):eE d H (upd f d (.lst [.int a,.int b])):=
 (λc o e h=>by rw[AE h];show x.old c o e h,(a,b,dG))
theorem eE.trans(x:eE d H f)(y:eE d f h):eE d H h:=(λb o e a=>y.old _ _ (x.old b o e a) a,y.fV)
inductive spCell(b:FG)(vs:ly)(H:Hp)(Q:VK)(d:XK):Prop
 |mk (a) (g:List Int) (k) (h:vs=[.ref a,.int k]) (i:dY b H a (g.5 V.int)) (l:g.3<=63) (j:0<=k) (m:∀v f,dH H f->Q (.int v) f)
theorem YF:AH [ma,oA] [ma,oA] (defScope Jz):=fG
theorem WO(F:eP b qp qp Jz f g)(B:Bl m):AT P w b m base eK 1 f g [ma,oA] (spCell b):=by
 show F.m YF λvs H Q E h=>?_;let(a,i,G,rfl,e,x,I,k):=h;show(Y,λC A l s y=>?_)
 show(_,AC (AV (AJ (Xv b Y y.41) (Z 0) (A4 AG) (AN _)) (AB (AI (AX JN (Z 1) AF))) AM)
  (AB (AI (AX CQ (Am (Ak b rfl) (Z 0) (AX F5 (Z 1) (AS (BB b rfl) rfl B.61 PySem.boot_len (AA (Z 0) AG))) (λ_ _=>rfl))
   (AX JN (AX Pz (Z 1) (AS (BB b rfl) rfl B.61 PySem.boot_len (AA (Z 0) AG))) AF)))),?_)
 show(7,Nat.zero_le _,λp r=>?_);let d:dH H (upd H p (.lst [])):=AD (dH.refl _) r;show(a,p,i,[],Y,Y,d.seq e,dY.of dG,7,BN (λq=>?_) (λq=>?_))
 ·show(7,_,7,Y,.inr (qc,qc),k _ _ d)
 ·have o:=List.length_pos_iff.mpr (λz=>q (zH z));let u:(i.5 V.int).3=i.3:=AO _;let j:0<=G%((i.5 V.int).3):=Int.emod_nonneg _ ();let(v,t,D):=Ih j (Int.emod_lt_of_pos _ ())
  let(n,rfl):∃n,v=V.int n:=by
   grind
  show(7,7,7,a,7,.inl (d.seq e),_,7,Y,(by rw[u];lia),a,_,_,7,Y,d.seq e,t,(7,7,a,7,.inl (d.seq e),_,7,Y,(by lia,by lia),_,7,Y,.inr (qc,qc),_,7,Y,k _ _ d))
inductive spDrawn(vs:ly)(H:Hp)(Q:VK)(b:XK):Prop
 |mk (c k) (d:vs=[.int c,.int k]) (f:∀r,0<=r->Q (.int r) H)
theorem scDrawn:AH [n8,oA,"_law_more"] [n8,oA] (defScope IV):=fG
theorem UT(F:eP g o9 o9 IV f b):AT P w g m base eK 1 f b [n8,oA] spDrawn:=by
 show F.m scDrawn λvs H Q E h=>?_;let(c,e,rfl,k):=h;show(Y,λt A j s v=>?_)
 show(_,AC (DN (i:=2) scDrawn.nd Y (Or.inl Y) (AX F5 (AX CQ (AX JN (Z 0) AF) (AX JN (AX CQ (Z 1) AF) AF)) AF))
  (AC (DN (i:=2) scDrawn.nd rfl (Or.inl rfl) (AX F5 (AX Lz (Z 2) (Z 2)) AF))
  (AC (DN (i:=2) scDrawn.nd rfl (Or.inl rfl) (AX Lz (AX Lz (AX CQ (AX F5 (Z 2) AF) AF) (AX CQ (AX NJ (Z 2) AF) AF)) (Z 2)))
  (AB (AI (AX F5 (Z 2) AF))))),?_)
 show(7,_,7,Y,.inr (qc,qc),7,_,7,Y,_,7,Y,.inr (qc,qc),_,7,Y,_,7,Y,(by change 0<_;decide),?_);generalize p:(c*6364136223846793005+(e+1)*1442695040888963407)%340282366920938463463374607431768211507=z
 let q:0<=z/\z<2^130:=by
  rw[←p];show(Int.emod_nonneg _ qc,Int.lt_trans (Int.emod_lt_of_pos _ qc) qc)
 let b1:Builtin.Int.intBits z<=2^20:=Nat.le_trans (HR q.1 q.2) qc;subst p;show(7,7,_,7,Y,(b1,b1),_,7,Y,(by change 0<_;decide),?_);generalize o:(c*6364136223846793005+(e+1)*1442695040888963407)%340282366920938463463374607431768211507*((c*6364136223846793005+(e+1)*1442695040888963407)%340282366920938463463374607431768211507)%340282366920938463463374607431768211297=y
 let l:0<=y/\y<2^130:=by
  rw[←o];show(Int.emod_nonneg _ qc,Int.lt_trans (Int.emod_lt_of_pos _ qc) qc)
 let d:0<=y%18446744073709551557+1/\y%18446744073709551557+1<2^65:=by
  lia
 let a:0<=y/18446744073709551557+1/\y/18446744073709551557+1<2^131:=by
  lia
 let u:=Int.mul_nonneg d.1 a.1
 let r:(y%18446744073709551557+1)*(y/18446744073709551557+1)<2^196:=by
  have:=Int.mul_lt_mul' (Int.le_of_lt d.2) a.2 a.1 qc;show Int.lt_of_lt_of_le this qc
 subst o;show(7,_,7,Y,(by change 0<_;decide),_,7,Y,7,_,7,Y,(qc,PyProof.noPylong_of_log2 (_)),_,7,Y,_,7,Y,(Nat.le_trans (HR d.1 d.2) qc,Nat.le_trans (HR a.1 a.2) qc),(7,_,7,Y,(Nat.le_trans (HR u r) qc,Nat.le_trans (HR l.1 l.2) qc),?_));show(7,_,7,Y,(by change 0<_;decide),k _ ())
inductive gE(vs:ly)(H:Hp)(Q:VK)(f:XK):Prop
 |mk (d) (a b m) (i:vs=[.ref d,.int m]) (j:H d=U (.lst [.int a,.int b])) (o:0<m) (l:m<1073741824) (p:∀r g h,0<=r->r<m->Q (.int r) (upd H d (.lst [.int g,.int h])))
theorem scRoll:AH [lI,mw,"_law_told_here"] [lI,mw] (defScope HH):=fG
inductive spRollB(vs:ly)(H:Hp)(Q:VK)(f:XK):Prop
 |mk (d) (a b m) (i:vs=[.ref d,.int m]) (j:H d=U (.lst [.int a,.int b])) (o:0<m) (l:m.69<9000) (p:∀r g h,0<=r->r<m->Q (.int r) (upd H d (.lst [.int g,.int h])))
theorem N6(F:eP g mx mx HH f B)(o:Fn P w g G base o9 1 [n8,oA] spDrawn):AT P w g G base eK 2 f B [lI,mw] spRollB:=by
 let(D,C,o,v,t,z):=o.ex;show F.m scRoll λvs H Q E h=>?_;let(d,a,b,m,rfl,e,l,q,k):=h;show(Y,λx A p s u=>?_)
 show(_,AC (AV (AJ Mz (Am (Ak g Y) (Z 0) AF (λ_ _=>rfl)) (AX Od AF AF) (AN _))
   (AC (DN (i:=2) scRoll.nd rfl (Or.inl rfl) (AX F5 (Am (Ak g rfl) (Z 0) AF (λ_ _=>rfl)) (Z 1)))
   (AC (Bo (AX NJ (Am (Ak g rfl) (Z 0) AF (λ_ _=>rfl)) (Z 1)) (Lf (Z 0) AF Gs))
   (AB (AI (Z 2))))) AM)
  (AC (Bo (AX CQ (Am (Ak g rfl) (Z 0) AF (λ_ _=>rfl)) AF) (Lf (Z 0) AF Gs))
  (AB (AI (AX F5 (AX Pz (A0 o u rfl v t z .nil Af (AA (Am (Ak g rfl) (Z 0) AF (λ_ _=>rfl)) (AA (Am (Ak g rfl) (Z 0) AF (λ_ _=>rfl)) AG))) AF) (Z 1))))),?_)
 show(7,d,_,0,.int a,Y,Y,dY.of e,BW Y,_,7,Y,(qc,qc,qc),_,7,Y,7,BN (λ_=>?_) (λ_=>?_))
 ·show(7,d,_,0,.int a,Y,Y,dY.of e,BW Y,7,_,7,Y,l,(7,d,_,0,.int a,Y,Y,dY.of e,BW Y,7,_,7,Y,(l,PyProof.noPylong_of_log2 q),7,d,_,0,0,Y,Y,e,Y,?_));show(7,k _ (a/m) b (Int.emod_nonneg _ ()) (Int.emod_lt_of_pos _ l))
 ·show(7,d,_,1,.int b,Y,Y,dY.of e,BW Y,_,7,Y,7,d,_,1,1,Y,Y,e,Y,?_);let j:(upd H d (.lst ([V.int a,V.int b].set 1 (V.int (b+1))))) d=U (.lst [.int a,.int (b+1)]):=dG;show(7,d,_,0,.int a,Y,Y,dY.of j,BW Y,7,d,_,1,.int (b+1),Y,Y,dY.of j,BW Y,_,7,λr y=>(_,7,Y,(qc,qc),7,_,7,Y,l,?_));show k _ a (b+1) (Int.emod_nonneg _ ()) (Int.emod_lt_of_pos _ l)
theorem XO(F:AT P w v m base b k f g r u)(h:∀vs H Q E,e vs H Q E->u vs H Q E):AT P w v m base b k f g r e:=
 (λvs H Q E q=>F.len _ _ _ _ (h _ _ _ _ q),λA a s H d l vs Q E p i o j q=>F.run A a s H d l vs Q E p i o j (h _ _ _ _ q))
theorem WP(F:eP g mx mx HH f p)(j:Fn P w g r base o9 1 [n8,oA] spDrawn):AT P w g r base eK 2 f p [lI,mw] gE:=XO (N6 F j) λvs H Q E h=>by
 let(d,a,b,m,e,l,i,o,q):=h;show(d,a,b,m,e,l,i,?_,q)
 have:m.natAbs<2^30:=by
  lia
 have:=(Nat.log2_lt ()).53 this
 lia
inductive spRuleOf(vs:ly)(H:Hp)(Q:VK)(f:XK):Prop
 |mk (d) (a b) (h:vs=[.ref d]) (i:H d=U (.lst [.int a,.int b])) (j:∀r g,r∈([o7,qo,n6,oX]:lr)->eE d H g->Q (.str r) g)
theorem UU:AH [lI] [lI] (defScope Gn):=fG
theorem SM(F:eP g px px Gn f m)(j:Fn P w g B base mx 2 [lI,mw] gE):AT P w g B base eK 3 f m [lI] spRuleOf:=by
 let(T,dR,j,O,J,N):=j.ex;show F.m UU λvs H Q E h=>?_;let(d,a,b,rfl,y,k):=h;show(Y,λR A t s M=>?_);show(_,AB (AI (Am (Ak g Y) (A4 (AA AL (AA AL (AA AL (AA AL AG))))) (A0 j M Y O J N .nil Af (AA (Z 0) (AA AF AG))) (λ_ _=>rfl))),((_),λp u=>?_));let i:=AK y u;show(7,d,a,b,4,Y,by rw[AE i];show y,qc,qc,λr S G X ab=>?_);let(v,C,q):=Ih (xs:=[V.str o7,V.str qo,V.str n6,V.str oX]) X qe
 let l:∃x,v=.str x/\x∈([o7,qo,n6,oX]:lr):=by
  have:=zM q;simp at this;let z||z||z||z:=this
  ·show(_,z,by simp)
  ·show(_,z,by simp)
  ·show(_,z,by simp)
  ·show(_,z,by simp)
 let(x,rfl,I):=l;show(p,_,r,7,Y,dY.of (by rw[AE (Ne.symm i),dG]),C,k x _ I (λc o e D=>?_,(S,G,dG)))
 rwa[AE D,AE (AK e u)]
theorem QW(n k:Nat):decide (V.int (Builtin.bitAnd ((n)/2^((0:Int)+(k)).32) 1)=V.int 1)=n.testBit k:=by
 let d:(0+(k:Int)).32=k:=by lia
 let a:(n:Int)/2^k=((n/2^k:Nat)):=by push_cast;rfl
 let e:Builtin.bitAnd ((n/2^k:Nat)) 1=((n/2^k%2:Nat)):=by
  have:=DD (n/2^k) 1
  rwa[Nat.and_one_is_mod]at this
 rw[d,a,Nat.testBit_eq_decide_div_mod_eq];show decide_eq_decide.53 (λh=>?_,λh=>?_)
 ·grind
 ext
inductive spRounds(d:FG)(vs:ly)(H:Hp)(Q:VK)(f:XK):Prop
 |mk (a) (i:List Int) (j:vs=[.ref a,.int 3]) (m:dY d H a (i.5 V.int)) (p:i.3<=63) (o:∀l(g:List l7)h,dH H h->h l=U (.lst (g.5 V.ref))->g.29->l∉ g->g.3<=4->(∀b∈g,H b=J/\∃x y,h b=U (.lst [.int x,.int y]))->Q (.ref l) h)
theorem UV:AH [ma,mi] [ma,mi] (defScope Gk):=fG
theorem SN(F:eP g pK pK Gk f o)(B:Bl m)(I:Fn P w g m base qp 1 [ma,oA] (spCell g)):AT P w g m base eK 2 f o [ma,mi] (spRounds g):=by
 let(fC,dC,I,mC,Z,bC):=I.ex;show F.m UV λvs H an ag h=>?_;let(a,C,rfl,T,M,k):=h;show(Y,λdc ab al as Q=>?_)
 show(_,AB (AI (BX [ma] [gl 0] (by rfl) (_) (by rfl) rfl
  (Ck rfl B.range (AA (AS (RF rfl) rfl B.max YB (AA AF (AA (AS (RG rfl) rfl B.min YA (AA (pv 1) (AA (AS (BB g rfl) rfl B.61 PySem.boot_len (AA (pv 0) AG)) AG))) AG))) AG))
  (λ_ _ _ _ _ _=>BJ)
  (λ_ _ _ _ _ _=>A4 (AA (A0 I Q rfl mC Z bC .nil Af (AA (pv 1) (AA (pv 0) AG))) (AA AF AG))))),?_)
 show(7,7,a,7,.inl T,_,7,_,7,7,?_,?_,?_)
 ·lia
 ·lia
 ·generalize N:(if (if (((C.5 V.int).3):Int)<3 then (((C.5 V.int).3):Int)else 3)>1 then (if (((C.5 V.int).3):Int)<3 then (((C.5 V.int).3):Int)else 3)else 1).32=n
  let n5:n<=4:=by
   rw[←N];split<;>split<;>lia
  apply F8 (lo:=0) (n:=n) (λi A D=>∃d,A=d.5 V.ref/\d.3=i/\i<=4/\dH H D/\d.29/\∀b∈d,H b=J/\∃x y,D b=gl (.lst [.int x,.int y])) ([],rfl,rfl,qc,dH.refl _,nodup_nil,λb q=>nomatch q)
  ·grind
  ·rintro i A D hi ⟨d,rfl,e,E,t,s,q⟩;show(7,7,a,C,7,t.seq T,M,by lia,λv H3 G=>(ig,λp r=>(d++[p],by ext,by ext,by lia,AD (t.7 G) r,?_,λb j=>?_)))
   ·show nodup_append.53 (s,zi.53 (not_mem_nil,nodup_nil),?_);intro x hx y S;rw[zz]at S;subst S;let(_,U,X,u):=q x hx;show AK (G _ _ u) r
   ·let z||z:=mem_append.mp j
    ·let(L,U,X,u):=q b z;show(L,U,X,AD G r _ _ u)
    ·rw[zz]at z;subst z;show(?_,v,0,dG);cases e:H b with
     |none=>rfl
     |some ar=>
      have:=G _ _ (t _ _ e);rw[this]at r;cases r
  ·rintro A D ⟨d,rfl,e,E,t,s,q⟩ l R;show k l d _ (AD t R) dG s ?_ () λb j=>?_
   ·grind
   ·let(L,x,y,u):=q b j;show(L,x,y,AD (dH.refl _) R _ _ u)
inductive spBitsOf(vs:ly)(H:Hp)(Q:VK)(b:XK):Prop
 |mk (n:Nat) (g:vs=[.int (n)]) (h:∀l f d,dH H d->d l=U (.lst f)->f.3=(GZ n).3->Q (.ref l) d)
theorem UW:AH [lV] [lV] (defScope Gm):=fG
theorem SQ(F:eP m pz pz Gm f b)(B:Bl g):AT P w m g base eK 1 f b [lV] spBitsOf:=by
 show F.m UW λvs H Q E h=>?_;let(n,rfl,k):=h;show(Y,λq A j s t=>?_)
 show(_,AB (AI (BX [lV] [U 0] (by rfl) (_) (by rfl) Y (Ck Y B.range (AA AF AG))
  (λ_ _ _ _ _ _=>Fd (AJ Aq (AX Cn (AX Xj (Z 1) (Z 0)) AF) AF (AN _)))
  (λ_ _ _ _ _ _=>AX Lg AF (Z 0)))),?_)
 show(42,Y,qc,qc,?_);apply F8 (lo:=0) (n:=42) (λi a d=>a.3=((List.range i).30 λk=>n.testBit k).3/\i<=42/\d=H) (rfl,qc,rfl)
 ·grind
 ·rintro i a d u ⟨e,_,rfl⟩;show(7,7,_,7,Y,(),_,7,Y,(Y,7,?_))
  let r:((List.range (i+1)).30 λk=>n.testBit k).3=((List.range i).30 λk=>n.testBit k).3+(if n.testBit i then 1 else 0):=by
   rw[List.range_succ,filter_append,zY,filter_cons];split<;>rfl
  show BN (λh=>?_) (λh=>?_)
  ·have p:n.testBit i=L:=by rwa[←QW]
   show(7,_,7,Y,(by lia,by lia,by lia),?_,by lia,Y)
   ext
  ·have p:n.testBit i=O:=by rw[←QW];show Bool.eq_false_iff.mpr h
   show(?_,by lia,Y)
   ext
 ·rintro a d ⟨e,_,rfl⟩ l o;show k l a _ (AD (dH.refl _) o) dG e
end
end Mk
namespace L2
open PySem
mutual
def WQ(t u:TS):TS:=λD b H=>∃G:St->Hp->Prop,(∀R,(∀b H,G b H->R b H)->t {D with nx:=R} b H)/\∀b H,G b H->u D b H
theorem At(i:PS X st t)(e:hA X f u):hA X (st::f) (WQ t u):=λd s h H D I z=>by let(_,a,b):=z;show AC i e d s h H D I (a (u D) b)
theorem A6(i)(j:X.N.29)(a:PE X e m)(h:X.N[i]?=U x:=by rfl)(l:Loc X.28 x:=by first|show .inl rfl|show .inr rfl)(b:swapsWith e (U (.Name x g)) f.68 X.21=pure O:=by rfl)(d:X.fn x=L\/X.24 x=U .local:=by first|show .inl rfl|show .inr rfl|assumption):PS X (.Assign [.Name x g] e f) (VW m (Bt i)):=DN j h l a b d
theorem BM(i)(a:X.N.29)(h:X.N[i]?=U x:=by rfl)(e:Loc X.28 x:=by first|show .inl rfl|show .inr rfl)(d:X.fn x=L\/X.24 x=U .local:=by first|show .inl rfl|show .inr rfl|assumption):PG X (.Name x b) (Bt i):=A5 a h e d
theorem Bg(i:PE X o to)(h:PA X [e] t)(a:attributeBase o "append" X.21 (eval o X.21)=eval o X.21:=by rfl)(b:starEach [e] X.21=(O,(eval e X.21))::starEach [] X.21:=by rfl)(d:(f.endLine==g.68)=L:=by rfl):PE X (.Call (.Attribute o "append" f) [e] [] g) (tBM X.K md Lq to t):=Ft plainAttrs_list PySem.F.slot_list_append PySem.F.type_list_append RH i h a (by rw[b];rfl) d b rfl
theorem gL(h:∀N,u D=N->t {D with nx:=N} b H):Xf t u D b H:=h _ rfl
theorem kZ(h:∀N,u D=N->WQ t (λ_=>N) D b H):WQ t u D b H:=h _ rfl
theorem egM{g:TG}{t:TS}{D}(h:∀e,D.nx=e.nx->g x b H λa d=>t e a d):g x b H λa d=>t D a d:=h _ rfl
theorem egN{t:TS}{D}{b:St}(h:∀d,D.nx=d.nx->t d (b.set i (U x)) H):Bt i x b H λa e=>t D a e:=h _ rfl
theorem gy{M N:St->Hp->Prop}(e:M=N)(h:M b H):N b H:=e ▸ h
end
end L2
namespace Mk
open PySem L2 MK
mutual
def eQ(H d:Hp):Prop:=∀b f,H b=U (.tup f)->d b=U (.tup f)
theorem eQ.of(s:dH H d):eQ H d:=λb a e=>s _ _ e
theorem eQ.upd(h:H d=U (.lst f)):eQ H (upd H d (.lst ys)):=λb a e=>by
 rwa[AE (λz=>by ext)]
theorem eQ.trans(x:eQ H f)(y:eQ f a):eQ H a:=λb d e=>y _ _ (x _ _ e)
theorem dJ.eX(s:eQ H b)(h:dJ H d f):dJ b d f:=Paired.mapP h λ_ _ e=>s _ _ e
theorem iI.eX(s:eQ H f)(h:iI H v b):iI f v b:=by
 cases b with
 |eJ=>show h
 |num n=>show h
 |kG d=>let(a,e,h):=h;show(a,e,s _ _ h)
theorem gB.eX{r}(s:eQ H d)(h:gB H b r):gB d b r:=by
 let(a,e,t):=h;show(a,s _ _ e,t.eX s)
theorem Bh(s:eQ H b)(h:Paired (gB H) d f):Paired (gB b) d f:=Paired.mapP h λ_ _ e=>e.eX s
noncomputable def JF(due:Aa):List PyData:=due.5 λp=>.tuple [.str p.1,.int (p.2:Int)]
theorem UX(h:H b=U (.tup [.str x,.int n])):Bf d H (.tuple [.str x,.int n]) (.ref b):=by
 show(b,7,eO.of h,?_);show(_,7,by rw[Bf],(_,7,by rw[Bf],?_));rw[Bm]
theorem HS:∀{due}{bs},dJ H bs (Ds due)->Bm f H (JF due) (bs.5 V.ref)
 | [],bs,h=>by
  have:=List.eq_nil_of_length_eq_zero (by rw[h.3];rfl);subst this;change Bm f H [] [];rw[Bm]
 |p::r,[],h=>by have:=h.3;simp[Ds]at this
 |p::r,b::bs,h=>by
  let a:H b=U (.tup [.str p.1,.int p.2])/\dJ H bs (Ds r):=by
   cases h with
   |cons e d=>trivial
  change Bm f H (.tuple [.str p.1,.int p.2]::JF r) (V.ref b::bs.5 V.ref);show(_,7,UX a.1,HS a.2)
theorem HU:∀b:lr,Bm d H (b.5 PyData.str) (b.5 V.str)
 | []=>by change Bm d H [] [];rw[Bm]
 |x::r=>by
  change Bm d H (.str x::r.5 PyData.str) (V.str x::r.5 V.str);show(_,7,by rw[Bf],HU r)
theorem C4(h:H l=U (.lst b))(d:Bm f H ds b):Bf f H (.list ds) (.ref l):=by
 show(l,b,Y,dY.of h,d)
theorem WR:Bm b H [] []:=by rw[Bm]
theorem QX(b):PyData.eqv (.list b) (.list [])=b.isEmpty:=by
 cases b with
 |nil=>rfl
 |cons a r=>rfl
theorem HV(h:x.31 (· < 128)=L):PyData.strOk x=L:=by
 unfold PyData.strOk
 grind
theorem Pe(h:∀d∈b,d.canLay0=L):PyData.canLayAll0 b=L:=by
 induction b with
 |nil=>rfl
 |cons a r e=>rw[PyData.canLayAll0,h a zE,e λd i=>h d (_)];rfl
theorem YG(h:∀d∈b,d.depth<=k):PyData.depthAll b<=k:=by
 induction b with
 |nil=>rw[PyData.depthAll];simp
 |cons a r e=>rw[PyData.depthAll];grind
theorem FR(h:∀d∈b,d.canLay0=L/\d.depth<=60):SeqAt.shaped (.list b)=L:=by
 unfold SeqAt.shaped;rw[Bool.and_eq_true,decide_eq_true_eq];show(by rw[PyData.canLay0];show Pe λd a=>(h d a).1,?_);rw[PyData.depth];have:=YG λd a=>(h d a).2
 lia
theorem UY(h:x.31 (· < 128)=L):(PyData.tuple [.str x,.int n]).canLay0=L/\(PyData.tuple [.str x,.int n]).depth<=60:=by
 show(?_,?_)
 ·show Pe λd a=>?_;simp at a;let rfl||rfl:=a
  ·show HV h
  rfl
 ·simp only[PyData.depth,PyData.depthAll]
  lia
theorem FS(h:∀p∈due,p.1.31 (· < 128)=L):SeqAt.shaped (.list (JF due))=L:=FR λd a=>by
 let(p,e,rfl):=zh.mp a;show UY (h p e)
theorem FT{b:lr}(h:∀x∈b,x.31 (· < 128)=L):SeqAt.shaped (.list (b.5 PyData.str))=L:=FR λd a=>by
 let(x,e,rfl):=zh.mp a;show(by rw[PyData.canLay0];show HV (h x e),by simp[PyData.depth])
theorem Pf:SeqAt.shaped (.list [])=L:=by rfl
def uni(due:Aa)(b:lr):Nat:=Ah (due.5 λp=>if iG (.str p.1) (b.5 V.str)then p.2 else 0)
theorem QY(x)(a:lr):iG (.str x) (a.5 V.str)=a.any (· == x):=by
 unfold iG;rw[any_map];rfl
theorem Db(a:(due.5 (·.1)).29)(h:p∈due):look due p.1=p.2:=by
 induction due with
 |nil=>cases h
 |cons q r d=>
  rw[map_cons,zi]at a;unfold look;by_cases e:q.1=p.1
  ·ext
  ·rw[List.find?_cons_of_neg (_)];let z||z:=mem_cons.mp h
   ·ext
   ·show d a.2 z
theorem YH(l:(due.5 (·.1)).29)(b:∀x∈j,x∈due.5 (·.1)):uni due j=Ah (j.5 (look due)):=by
 show Nat.eq_of_testBit_eq λk=>?_;unfold uni;rw[DJ,DJ,any_map,any_map,Bool.eq_iff_iff,any_eq_true,any_eq_true];constructor
 ·rintro⟨p,d,a⟩;simp at a;by_cases h:iG (.str p.1) (j.5 V.str)=L
  ·rw[zf h]at a;rw[QY,any_eq_true]at h;let(x,i,e):=h;let o:x=p.1:=by simpa using e
   subst o;show(p.1,i,by simp;rw[Db l d];show a)
  ext
 ·rintro⟨x,i,a⟩;let(p,d,rfl):=zh.mp (b x i);show(p,d,?_);simp at a ⊢;rw[Db l d]at a;rw[zf (by rw[QY];ext)];show a
theorem N7(h:FP b)(a:QR (As b) r):FP (b++[r]):=by
 intro i q e;let z||z||z:=Nat.lt_trichotomy i b.3
 ·rw[List.getElem?_append_left z]at e;rw[List.take_append_of_le_length (Nat.le_of_lt z)];show h i q e
 ·subst z;have:r=q:=by simpa using e
  subst this
  rwa[List.take_append_of_le_length (zp _),zt]
 ·rw[List.getElem?_eq_none (_)]at e;cases e
theorem N8(h:FP rows)(j:rows.length<=10):fZ (As rows):=by
 let d:∀n,n<=rows.length->fZ (As (rows.take n)):=by
  intro n;induction n with
  |zero=>intro _;rw[List.take_zero];show⟨qc,(λp a=>nomatch a),nodup_nil,(λp a=>nomatch a)⟩
  |succ n q=>
   intro r;let D:=q ();let e:rows[n]?=some rows[n]:=z7 ();let R:=h n _ e;rw[zw,e,Option.toList_some,Fh];show(?_,λp a=>?_,?_,λp a=>?_)
   ·rw[zY,length_singleton];have:=R.few;lia
   ·let z||z:=mem_append.mp a
    ·show D.lt p z
    ·rw[zz]at z;subst z;show R.lt
   ·rw[zl];show nodup_append.mpr (D.nd,zi.mpr (not_mem_nil,nodup_nil),?_);intro x o y l;let i:y=(rows[n]).1:=by simpa using l
    subst i;show λz=>R.new (z ▸ o)
   ·let z||z:=mem_append.mp a
    ·show D.nm p z
    ·rw[zz]at z;subst z;show R.nm
 have:=d rows.length (zp _)
 rwa[zt]at this
theorem fP(G:Fn X.14 X.w X.K X.mg X.39 x k s r)(o:eB j X.A)(q:PA X (e::f) t)(l:k<=j:=by decide)(h:Gl X x:=by rfl)(d:iw x:=by decide)(i:iK X e f:=by rfl)(a:(backTo g (starEach f X.21)).any (·.1)=O:=by rfl):PE X (.Call (.Name x p) (e::f) [] g) (M6 r [] E0 t):=
 let(_,_,F,m,kp,b):=G.ex
 A0 F (o.51 l) h m kp b .nil Af q d i a
theorem YI(p q)(d:∀a:Bool->Hp->Prop,a p H->A b H a)(e:∀a,a q H->B b H a)(h:Q (p||q) H):tOr A B b H Q:=by
 apply d _;cases p with
 |true=>show Ag h
 |false=>show AU (e _ h)
theorem WS(p q)(i:∀a:Bool->Hp->Prop,a p H->A b H a)(e:∀a,(∀d,dH H d->a q d)->B b H a)(h:∀d,dH H d->Q (p&&q) d):Yz A B b H Q:=by
 apply i _;cases p with
 |true=>show Ag (e _ h)
 |false=>show AU (h _ (dH.refl _))
theorem LQ(s:dH H b)(h:b p=J):H p=J:=by
 cases e:H p with
 |none=>rfl
 |some o=>rw[s _ _ e]at h;cases h
theorem Dt(h:PA X b t):PA X (.Constant (.str x) j p::b) (An (tC (.str x)) t):=AA AL h
theorem SR:PA X [.Constant (.str b) y o,.Constant (.str f) q w,.Constant (.str g) v A,.Constant (.str m) l B,.Constant (.str a) s E,.Constant (.str i) r G,.Constant (.str h) t H,.Constant (.str j) p D,.Constant (.str d) C x,.Constant (.str e) z u] (An (tC (.str b)) (An (tC (.str f)) (An (tC (.str g)) (An (tC (.str m)) (An (tC (.str a)) (An (tC (.str i)) (An (tC (.str h)) (An (tC (.str j)) (An (tC (.str d)) (An (tC (.str e)) (Ce))))))))))):=Dt (Dt (Dt (Dt (Dt (Dt (Dt (Dt (Dt (Dt (AG))))))))))
theorem DL{H}{due}{bs}{i:Nat}{v}(h:dJ H bs (Ds due))(e:(bs.5 V.ref)[i]?=U v):∃b p,v=.ref b/\bs[i]?=U b/\due[i]?=U p/\H b=U (.tup [.str p.1,.int (p.2:Int)]):=by
 let(b,d,rfl):∃b,bs[i]?=U b/\v=V.ref b:=by
  grind
 let(l,a,j):=N5 h d;unfold Ds at a
 grind
noncomputable def fQ:lr:=["A","B","CD","EFG","H","IJKLMN","O","P","Q","R"]
theorem UZ:∀x∈fQ,ZZ x:=by
 have:∀x∈fQ,(Ca x&&x.31 (· < 128)&&decide (x.3<=1000))=L:=by decide +kernel
 intro x a;have:=this x a;simp only[Bool.and_eq_true,decide_eq_true_eq]at this;show(this.1.1,this.1.2,this.2)
theorem SS:∀i:Fin 10,(fQ[i.1]?.5 λx=>decide (x∈fQ.20 i.1))=U O:=by trivial
structure LW(d w f u:l7)(H0 H:Hp)(rows:List (Str×Th)):Prop where
 old:∀b o,H0 b=U o->b≠d->H b=U o
 fV:∃a b,H d=U (.lst [.int a,.int b])
 words:H w=U (.lst (fQ.5 V.str))
 found:∃as,H f=U (.lst (as.5 V.ref))/\Paired (gB H) as rows
 due:∃bs,H u=U (.lst (bs.5 V.ref))/\dJ H bs (Ds (As rows))
structure Ap(d w f u:l7)(H0:Hp):Prop where
 wd:w≠d
 fd:f≠d
 ud:u≠d
 wf:w≠f
 wu:w≠u
 fu:f≠u
 nf:H0 f=J
 nu:H0 u=J
theorem LW.same{i}(h:LW d w f u m H i)(s:dH H g):LW d w f u m g i:=by
 let(a,b,e):=h.fV;let(q,j,r):=h.found;let(bs,p,v):=h.55;show(λc o l t=>s _ _ (h.old c o l t),(a,b,s _ _ e),s _ _ h.words,(q,s _ _ j,Bh (eQ.of s) r),(bs,s _ _ p,dJ.eX (eQ.of s) v))
theorem LW.roll(A:Ap d w f u g)(h:LW d w f u g H m)(i j):LW d w f u g (upd H d (.lst [.int i,.int j])) m:=by
 let(a,b,e):=h.fV;let(v,p,x):=h.found;let(bs,r,y):=h.55;let t:eQ H (upd H d (.lst [.int i,.int j])):=eQ.upd e;show(λc o q l=>by rw[AE l];show h.old c o q l,(i,j,dG),by rw[AE A.wd];show h.words,(v,by rw[AE A.fd];show p,Bh t x),(bs,by rw[AE A.ud];show r,dJ.eX t y))
theorem D4(h:dJ H bs (Ds (As b))):bs.3=b.3:=by
 rw[h.3];unfold Ds;rw[AO,CD]
theorem Ua(d):(As d).5 (·.1)=d.5 (·.1):=by
 have:∀(l:List (Str×Th))a,((l.67 (λe r=>e++[(r.1,(Da e r.2))]) a).5 (·.1))=a.5 (·.1)++l.5 (·.1):=by
  intro l;induction l with
  |nil=>simp
  |cons x r h=>ext
 unfold As;rw[this d []];rfl
noncomputable def bx:St->Nat
 | [_,_,_,_,_,_,_,_,_,U (.int i),_,_]=>(2^22-i).32
 |_=>0
inductive spLines(vs:ly)(H:Hp)(Q:VK)(g:XK):Prop
 |mk (d) (a b M) (l:vs=[.ref d,.int M]) (m:1<=M) (p:M<=10) (o:H d=U (.lst [.int a,.int b])) (r:∀q f u j bs i h,eE d H h->h q=U (.tup [.ref f,.ref u])->H f=J->H u=J->h f=U (.lst (j.5 V.ref))->Paired (gB h) j i->h u=U (.lst (bs.5 V.ref))->dJ h bs (Ds (As i)) ->     0<i.3->(i.3:Int)<=M->FP i->(∀x∈i.5 (·.1),x∈fQ)->Q (.ref q) h)
noncomputable abbrev YJ:lr:=[lI,mi,nr,pa,mj,"_law_at","_law_high","_law_kind","_law_thing",lV,lX,"_law_more"]
@[irreducible] def Pg:Expr:=match defBody Ct with|.Assign _ (.Tuple (e::_) _ _) _::_=>e|_=>.Constant .none 0 (0,0,0,0)
abbrev WT:Stmt:=match defBody Ct with|.Assign t (.Tuple (_::r) k p) q::_=>.Assign t (.Tuple (Pg::r) k p) q|_=>.Pass (0,0,0,0)
abbrev YK:List Stmt:=(defBody Ct).drop 1
theorem YL:defBody Ct=WT::YK:=by kernel_rfl
theorem SU:PE X Pg (Vc (An (tC (.str "A")) (An (tC (.str "B")) (An (tC (.str "CD")) (An (tC (.str "EFG")) (An (tC (.str "H")) (An (tC (.str "IJKLMN")) (An (tC (.str "O")) (An (tC (.str "P")) (An (tC (.str "Q")) (An (tC (.str "R")) (Ce)))))))))))):=by
 unfold Pg;show A4 SR
theorem fD:AH YJ [lI,mi] (defScope Ct):=fG
noncomputable def kz(d:l7)(M:Int)(w f u:l7)(a b c e g h i:Option V):St:=[U (.ref d),U (.int M),U (.ref w),U (.ref f),U (.ref u),a,b,c,e,g,h,i]
theorem Ub(F:eP b pT pT Ct f0 fd)(al:Bl mg)(f:Fn bK b7 b mg base mx 2 [lI,mw] gE):AT bK b7 b mg base eK 3 f0 fd [lI,mi] spLines:=by
 show F.m fD λvs H ce cd h=>?_;let(d,a,az,M,rfl,M1,M10,hd,k):=h;show(Y,λdc ca cl ct T=>?_);let bS:=T.41;let nd:=fD.nd;rw[YL]
 show(_,AC (Bo (hs:=by rfl) (hw:=by kernel_rfl) (AZ (AA (hs:=by kernel_rfl) SU (AA (A4 AG) (AA (A4 AG) AG))))
   (BR rfl (AQ (BM 2 fD.nd) (AQ (BM 3 fD.nd) (AQ (BM 4 fD.nd) Az)))))
  (AC (Cl PassesOwn.never rfl (Ck rfl al.range (AA (AX CQ AF (fP f T (AA (Z 0) (AA (Z 1) AG)))) AG)) (BM 5 fD.nd)
   (At (A6 6 fD.nd (QC rfl rfl al.max (Gz [] [] (by rfl) (_) (by rfl) (by rfl) rfl (BG (Z 4)) (λ_ _ _ _ _ _=>BJ) (λ_ _ _ _ _ _=>Z 1)) AF))
   (AC (A6 7 fD.nd (fP f T (AA (Z 0) (AA AF AG))))
   (AC (Bo (hs:=by rfl) (hw:=by rfl) (AZ (AA C6 (AA AF AG))) (BR rfl (AQ (BM 8 fD.nd) (AQ (BM 9 fD.nd) Az))))
   (At (Gr PassesOwn.never (AJ Eu (Z 9) (Z 6) (AN _)) (AB (A6 9 fD.nd (AX JN (Z 9) AF))))
   (At (AV (PW.pt (B8 (AJ Aq (Z 7) AF (AN _)) (Bc (AJ Mz (Z 9) (AX Od AF AF) (AN _)))))
     (AC (A6 8 fD.nd (Am (Ak b rfl) (A4 (AA (AX Lg AF (fP f T (AA (Z 0) (AA AF AG)))) (AA (fP f T (AA (Z 0) (AA AF AG)))
      (AA (AX Lg AF (fP f T (AA (Z 0) (AA AF AG)))) (AA AF AG))))) (fP f T (AA (Z 0) (AA AF AG))) (λ_ _=>rfl)))
     (AB (A6 9 fD.nd (Z 8)))) AM)
   (At (AV (PW.pt (Ci (AJ Iu (Z 7) AF (AN _)) (Bv (AJ (IA b rfl bS) (Z 4) (A4 AG) (AN _)))))
     (AC (A6 8 fD.nd (Ay Fq rfl al.tuple DY (AA (BX [mj,lI] [U 4,U 0] (by rfl) (_) (by rfl) rfl (Ck rfl al.range (AA (AX CQ AF (fP f T (AA (Z 0) (AA AF AG)))) AG)) (λ_ _ _ _ _ _=>BJ)
      (λ_ _ _ _ _ _=>Am (Ac b rfl) (Am (Ak b rfl) (Z 1) (fP f T (AA (Z 2) (AA (AS (BB b rfl) rfl al.61 PySem.boot_len (AA (Z 1) AG)) AG))) (λ_ _=>rfl)) AF (λ_ _=>rfl))) AG)))
     (AC (A6 9 fD.nd AF)
     (AB (Cl PassesOwn.never rfl (BG (Z 4)) (BR rfl (AQ (BM 10 fD.nd) (AQ (BM 11 fD.nd) Az)))
      (AB (A6 9 fD.nd (AX JO (Z 9) (Bi (AJ Fb (Z 10) (Z 8) rfl) (Z 11) AF)))))))) AM)
   (AC (Ae (Bg (Z 3) (AA (AZ (AA (Am (Ak b rfl) (Z 2) (Z 5) (λ_ _=>rfl)) (AA (Z 8) AG))) AG)))
   (AB (Ae (Bg (Z 4) (AA (AZ (AA (Am (Ak b rfl) (Z 2) (Z 5) (λ_ _=>rfl)) (AA (Z 9) AG))) AG))))))))))))
  (AB (AI (AZ (AA (Z 3) (AA (Z 4) AG)))))),?_)
 show gL λN m=>?_;show((_),λI bu=>(Nat.zero_le _,λG a6=>(Nat.zero_le _,λD aC=>(jK,λq0 bO=>?_))));show(q0,7,eO.of dG,Y,_,7,_,7,_,7,Y,?_);let dw:I≠d:=Ne.symm (AK hd bu);let s1:dH H (upd H I (.lst (fQ.5 V.str))):=AD (dH.refl _) bu;let s2:dH (upd H I (.lst (fQ.5 V.str))) (upd (upd H I (.lst (fQ.5 V.str))) G (.lst [])):=AD (dH.refl _) a6;let s3:dH (upd (upd H I (.lst (fQ.5 V.str))) G (.lst [])) (upd (upd (upd H I (.lst (fQ.5 V.str))) G (.lst [])) D (.lst [])):=AD (dH.refl _) aC;let s4:=AD (dH.refl _) bO (o:=HO.tup [.ref I,.ref G,.ref D]);let a7:H G=J:=LQ s1 a6;let a8:H D=J:=LQ (s1.7 s2) aC;let AP:Ap d I G D H:=(dw,Ne.symm (AK hd a7),Ne.symm (AK hd a8),AK dG a6,AK (s2 _ _ dG) aC,AK dG aC,a7,a8);let L0:LW d I G D H _ []:=(λaz o e _=>s4 _ _ (s3 _ _ (s2 _ _ (s1 _ _ e))),(a,az,s4 _ _ (s3 _ _ (s2 _ _ (s1 _ _ hd)))),s4 _ _ (s3 _ _ (s2 _ _ dG)),([],s4 _ _ (s3 _ _ dG),.nil),([],s4 _ _ dG,.nil));let(a1,b1,jV):=L0.fV;show(gy m (gL λN m=>?_):N _ _);show(7,7,d,a1,b1,M,Y,jV,by lia,by lia,λa9 a' b' h0 h1=>?_);show(_,7,Y,7,by lia,by lia,?_)
 show Fa (lo:=0) (n:=(1+a9).32) (λi g H2=>∃(v5 v6 v7 v8 v9 R Q:Option V)(u:List (Str×Th)),g=kz d M I G D v5 v6 v7 v8 v9 R Q/\u.3=i/\FP u/\u.5 (·.1)=fQ.20 i/\LW d I G D H H2 u)
  (J,J,J,J,J,J,J,[],rfl,rfl,(λi a9 e=>by simp at e),rfl,L0.roll AP a' b') ?_ ?_
 ·intro i g H2 hi h;show egM λDf eD=>?_;let(v5,v6,v7,v8,v9,R,Q,u,rfl,fg,RO,fj,ab):=h;let bn:i<10:=by lia
  let DO:fZ (As u):=N8 RO ();generalize an:FN ((As u).5 (·.2))=C
  let bM:C<2^20:=by
   rw[←an];show Nu qc λn hn=>by let(p,r,rfl):=zh.mp hn;show DO.lt p r
  show kZ λN m=>?_;show(λg H3=>g=kz d M I G D (U (.int (0+(i:Int)))) (U (.int (C:Int))) v7 v8 v9 R Q/\LW d I G D H H3 u,λaM E=>?_,?_)
  ·let(bs,hu,X):=ab.55;let jM:=D4 X;show(7,D,Y,(_,dY.of hu),Dz (ω:=b) (a:=D) (xs:=bs.5 V.ref) (λj B H3=>B=BK (((As u).20 j).5 (·.2))/\H3=H2) (by rfl,Y) (λj B H3 _ (_,e)=>e ▸ dY.of hu) (λj B H3 (e,_)=>?_) ?_ ?_)
   ·rw[e];unfold BK;rw[AO,AO,zr,CD];lia
   ·rintro j ag B H3 hj ⟨rfl,rfl⟩;let(bb,p,rfl,hb1,dr,dm):=DL X hj;show(bb,7,eO.of dm,Y,_,7,_,7,Y,?_);show(7,?_,Y);rw[zw,dr,Option.toList_some,zl];unfold BK
    ext
   ·rintro B H3 ⟨rfl,rfl⟩ p r;let w:=AD (dH.refl _) r (o:=HO.lst (BK (((As u).20 (bs.5 V.ref).3).5 (·.2))));let el:(As u).20 (bs.5 V.ref).3=As u:=by rw[AO,jM,←CD,zt]
    show(p,((As u).5 (·.2)).5 (λn:Nat=>(n:Int)),0,Y,Y,dY.of (by rw[dG,el,JI]),λe=>?_,λe=>?_)
    ·show E _ _ (?_,ab.25 w);have:(As u).5 (·.2)=[]:=List.map_eq_nil_iff.mp e;rw[this]at an;subst an;rfl
    ·show E _ _ (?_,ab.25 w);let er:(As u).5 (·.2)≠ []:=λz=>e (by rw[z];rfl);rw[Nw er,an];rfl
  ·intro g H3 h;show(gy m (gL λN m=>?_):N _ _);let(rfl,L3):=h;let(a3,b3,kK):=L3.fV;show(7,d,a3,b3,8,Y,kK,qc,qc,λkd a4 b4 cg ch=>?_);show(gy m (gL λN m=>?_):N _ _);let L4:=L3.roll AP a4 b4;show((_),λq hq=>(q,7,eO.of dG,Y,_,7,_,7,Y,?_));show(gy m (kZ λN m=>?_):N _ _);let L5:=L4.25 (AD (dH.refl _) hq (o:=HO.tup [V.eJ,V.int 1]));show(λg H6=>g=kz d M I G D (U (.int (0+(i:Int)))) (U (.int (C:Int))) (U (.int kd)) (U .eJ) (U (.int (CW C:Nat))) R Q/\LW d I G D H H6 u,λaM E=>?_,?_)
   ·apply Sw (λg H6=>LW d I G D H H6 u/\∃j:Nat,j<=20/\g=kz d M I G D (U (.int (0+(i:Int)))) (U (.int (C:Int))) (U (.int kd)) (U .eJ) (U (.int ((2^j:Nat):Int))) R Q/\(j=0\/2^(j-1)<=C)) (λg _=>bx g) (L5,0,by lia,rfl,.inl rfl)
    ·rintro g H6 ⟨L6,j,hj,rfl,bN⟩;show(7,7,_,7,Y,7,?_);show BN (λa5=>?_) (λa5=>?_)
     ·have br:2^j<=C:=by have:=zR a5;exact_mod_cast this
      let cf:j<20:=(Nat.pow_lt_pow_iff_right qc).mp (Nat.lt_of_le_of_lt br bM);show(7,_,7,Y,.inr (qc,qc),?_);let e2:(((2^j:Nat):Int)*2)=((2^(j+1):Nat):Int):=by rw[Nat.pow_succ];lia
      show((L6,j+1,by lia,?_,.inr br),?_)
      ·rfl
      ·show(2^22-(((2^j:Nat):Int)*2)).32<(2^22-((2^j:Nat):Int)).32
       grind
     ·have bL:C<2^j:=by
       have:¬ ((2^j:Nat):Int)<=(C:Int):=λz=>a5 (zH z)
       lia
      show E _ _ (?_,L6);rw[Nt bL bN]
    ·rintro g H6 Q1 Q2 hQ ⟨ag,e1,v2,e2,i,j,a,az,c,ec,q⟩;show(ag,e1,v2,e2,i,j,a,az,c,ec,hQ _ _ q)
   ·intro g H6 h;show(gy m (kZ λN m=>?_):N _ _);let(rfl,L6):=h;show(λg H7=>∃(y:V)(v:Th)(S A:Option V),g=kz d M I G D (U (.int (0+(i:Int)))) (U (.int (C:Int))) (U (.int kd)) (U y) (U (.int (Da (As u) v:Nat))) S A/\LW d I G D H H7 u/\iI H7 y v/\WH (As u) v/\Da (As u) v<2^20,λaM E=>?_,?_)
    ·apply YI (decide (V.int kd=V.int 5)) (decide ((2:Int)^(20:Int).32<=(CW C:Nat))) (λQ' h=>(_,rfl,rfl,_,rfl,h)) (λQ' h=>(_,rfl,_,_,rfl,rfl,(qc,qc,qc),_,_,rfl,rfl,_,rfl,h));show BN (λ_=>?_) (λhc=>?_)
     ·let(x1,y1,e1):=L6.fV;show(7,d,x1,y1,8,Y,e1,qc,qc,λr1 a1 b1 bF bX=>?_);let M1:=L6.roll AP a1 b1;show(_,7,Y,(bF,by lia,qc),?_);let(x2,y2,e2):=M1.fV;show(7,d,x2,y2,64,Y,e2,qc,qc,λr2 a2 b2 bd b0=>?_);let M2:=M1.roll AP a2 b2;let(x3,y3,e3):=M2.fV;show(7,d,x3,y3,20,Y,e3,qc,qc,λr3 a3 b3 b5 cn=>?_);let M3:=M2.roll AP a3 b3;show(_,7,Y,(b5,by lia,qc),?_);show(sl4,λp r=>?_);let M4:=M3.25 (AD (dH.refl _) r (o:=HO.lst [V.int (1*2^r1.32),V.int r2,V.int (1*2^r3.32),V.int 0]));let(x4,y4,e4):=M4.fV;let bW:p≠d:=Ne.symm (AK dG r);show(7,d,x4,y4,4,Y,e4,qc,qc,λr4 a4 b4 b6 co=>?_);let M5:=M4.roll AP a4 b4;let(ag,hv,hv2):=Ih (xs:=[V.int (1*2^r1.32),V.int r2,V.int (1*2^r3.32),V.int 0]) b6 qe
      let j7:∃n:Nat,ag=.int (n:Int)/\n<2^20:=by
       have:=zM hv2;simp only[mem_cons,not_mem_nil,or_false]at this;let z||z||z||z:=this
       ·show(2^r1.32,by ext,?_);show(Nat.pow_lt_pow_iff_right qc).53 ()
       ·show(r2.32,by rw[z,Int.toNat_of_nonneg bd],by lia)
       ·show(2^r3.32,by ext,?_);show(Nat.pow_lt_pow_iff_right qc).53 ()
       ·show(0,z,qc)
      let(n,rfl,hn):=j7;show(p,_,r4,7,Y,dY.of (by rw[AE bW];show dG),hv,?_);show(7,E _ _ (.int (n:Int),.num n,R,Q,Y,M5,Y,trivial,hn))
     ·show E _ _ (.eJ,.eJ,R,Q,?_,L6,Y,trivial,?_)
      ·show _=kz d M I G D (U (V.int (0+(i:Int)))) (U (V.int (C:Int))) (U (V.int kd)) (U V.eJ) (U (V.int ((CW (FN ((As u).5 (·.2))):Nat):Int))) R Q;rw[an]
      ·show CW (FN ((As u).5 (·.2)))<2^20
       grind
    ·intro g H7 h;show(gy m (kZ λN m=>?_):N _ _);let(y,v,S,A,rfl,L7,hT,hTO,je):=h;let(bs,hu,X):=L7.55;let jM:=D4 X;show(λg H8=>∃(y:V)(v:Th)(S A:Option V),g=kz d M I G D (U (.int (0+(i:Int)))) (U (.int (C:Int))) (U (.int kd)) (U y) (U (.int (Da (As u) v:Nat))) S A/\LW d I G D H H8 u/\iI H8 y v/\WH (As u) v/\Da (As u) v<2^20,λaM E=>?_,?_)
     ·show WS (decide ((5:Int)<kd)) (!(JF (As u)).isEmpty) (λQ' h=>(7,_,7,Y,7,h)) (λQ' h=>(7,Nat.zero_le _,λp r=>?_)) (λH8 s8=>?_)
      ·have w:=AD (dH.refl _) r (o:=HO.lst []);show(.list (JF (As u)),.list [],C4 (w _ _ hu) (HS (dJ.eX (eQ.of w) X)),C4 dG WR,FS λp r=>(DO.nm p r).2.1,Pf,7,?_);rw[QX];show h _ w
      ·show BN (λhc=>?_) (λhc=>?_)
       ·have er:0<bs.3:=by
         rw[Bool.and_eq_true]at hc;let h2:=hc.2;rw[jM,←CD];cases hz:As u with
         |nil=>rw[hz]at h2;cases h2
         |cons x a9=>simp
        let P:=L7.25 s8;let(x1,y1,e1):=P.fV;show(_,rfl,d,x1,y1,3,rfl,e1,qc,qc,λr1 a1 b1 bF bX=>?_);let M1:=P.roll AP a1 b1;show(_,_,rfl,rfl,_,rfl,by lia,by lia,?_);apply F8 (lo:=0) (n:=(1+r1).32) (λj B H9=>∃l:lr,B=l.5 V.str/\l.3=j/\j<=3/\(∀x∈l,x∈(As u).5 (·.1))/\LW d I G D H H9 u) ([],rfl,rfl,qc,(λx hx=>nomatch hx),M1)
        ·rintro j B H9 ⟨l,rfl,e,h3,_⟩
         grind
        ·rintro j B H9 hj ⟨l,rfl,e,h3,j7,L9⟩;let(x2,y2,e2):=L9.fV;let(cs,hu9,ff):=L9.55;let dh:=D4 ff;let d8:(cs.5 V.ref).3=bs.3:=by rw[AO,dh,jM]
         show(7,7,7,D,7,.inl (dY.of hu9),d,x2,y2,7,e2,by lia,by lia,λr2 a2 b2 bd b0=>?_);let M2:=L9.roll AP a2 b2;let bR:(upd H9 d (.lst [.int a2,.int b2])) D=U (.lst (cs.5 V.ref)):=by rw[AE AP.ud];show hu9
         let(ag,hv,hv2):=Ih (xs:=cs.5 V.ref) bd ();let(bb,p,rfl,_,dr,dm):=DL (dJ.eX (eQ.upd e2) ff) hv2;show(D,_,r2,_,rfl,rfl,dY.of bR,hv,bb,_,0,.str p.1,rfl,rfl,eO.of dm,rfl,?_);show(l++[p.1],by simp,by ext,by lia,λx hx=>?_,M2);let z||z:=mem_append.mp hx
         ·ext
         ·rw[zz]at z;subst z;show zh.53 (p,zM dr,Y)
        ·rintro B H9 ⟨l,rfl,e,h3,j7,L9⟩ bE hl;let bI:=L9.25 (AD (dH.refl _) hl (o:=HO.lst (l.5 V.str)));show(bE,7,.inl (dY.of dG,λt ht=>?_));let bl:=bI.25 (AD (dH.refl _) ht (o:=HO.tup (l.5 V.str)));let(cs,hu11,ff):=bl.55;let dh:=D4 ff;show(7,D,Y,(_,dY.of hu11),DP (ω:=b) (a:=D) (xs:=cs.5 V.ref) (λj g ar=>ar=upd (upd H9 bE (.lst (l.5 V.str))) t (.tup (l.5 V.str))/\∃S A:Option V,g=kz d M I G D (U (.int (0+(i:Int)))) (U (.int (C:Int))) (U (.int kd)) (U (.ref t)) (U (.int (uni ((As u).20 j) l:Nat))) S A) (Y,S,A,Y) (λj g ar _ (e,_)=>e ▸ dY.of hu11) ?_ ?_)
         ·rintro j ag g ar hj ⟨rfl,S,A,rfl⟩;let(bb,p,rfl,_,dr,dm):=DL ff hj;show(bb,7,eO.of dm,Y,_,7,_,7,Y,?_);show(7,7,7,t,7,.inr (eO.of dG),Y,?_,7,?_)
          ·rw[all_map];show all_eq_true.53 λ_ _=>rfl
          ·have eu:uni ((As u).20 (j+1)) l=uni ((As u).20 j) l|||(if iG (.str p.1) (l.5 V.str)then p.2 else 0):=by
            unfold uni;rw[zw,dr,Option.toList_some,zl];show GY _ _
           show BN (λaR=>?_) (λaR=>?_)
           ·show(7,_,7,Y,Y,U (.str p.1),U (.int (p.2:Int)),?_);let a0:iG (.str p.1) (l.5 V.str)=ii:=aR;rw[a0,zf rfl]at eu;rw[eu,←C8];rfl
           ·show(_,7,Y,Y,U (.str p.1),U (.int (p.2:Int)),?_);let a0:iG (.str p.1) (l.5 V.str)=im:=Bool.eq_false_iff.mpr aR;rw[a0,zg Bool.false_ne_true]at eu;rw[eu,←C8];rfl
         ·rintro g ar ⟨rfl,S,A,rfl⟩;let el:(As u).20 (cs.5 V.ref).3=As u:=by rw[AO,dh,←CD,zt]
          let en:Da (As u) (.kG l)=uni (As u) l:=(YH DO.nd j7).35;let eL:l.3=(1+r1).32:=e;show E _ _ (.ref t,.kG l,S,A,by rw[el,en],bl,(t,Y,dG),(?_,by lia,j7),?_)
          ·intro z;subst z;simp at eL;lia
          ·show Ah (l.5 (look (As u)))<2^20;show FA λn hn=>?_;let(x,hx,rfl):=zh.mp hn;let(p,r,rfl):=zh.mp (j7 x hx);rw[Db DO.nd r];show DO.lt p r
       ·show E _ _ (y,v,S,A,Y,L7.25 s8,hT.25 s8,hTO,je)
     ·intro g H8 h;show(gy m (gL λN m=>?_):N _ _);let(y,v,S,A,rfl,P,hT,hTO,je):=h;let(as,hf,hP):=P.found;let eh:as.3=u.3:=hP.3;let hw:fQ[i]?=U fQ[i]:=z7 bn;generalize d5:fQ[i]=wd at hw
      let bm:iS (fQ.5 V.str) (0+(i:Int))=U (.str wd):=by
       have:(0:Int)+(i:Int)=((i:Nat):Int):=by lia
       rw[this];show BW (_)
      show(7,.inl (Y,_,dY.of hf),7,7,I,_,_,.str wd,Y,Y,dY.of P.words,bm,7,ig,λp r=>?_);let w:=AD (dH.refl _) r (o:=HO.tup [V.str wd,y]);show(G,_,.ref p,Y,Y,w _ _ hf,AR (_),?_);show(gy m ?_:N _ _);let t1:eQ (upd H8 p (.tup [V.str wd,y])) (upd (upd H8 p (.tup [V.str wd,y])) G (.lst (as.5 V.ref++[.ref p]))):=eQ.upd (w _ _ hf);let(bs,hu,X):=P.55;let jM:=D4 X;let j6:(upd (upd H8 p (.tup [V.str wd,y])) G (.lst (as.5 V.ref++[.ref p]))) D=U (.lst (bs.5 V.ref)):=by rw[AE (Ne.symm AP.fu)];show w _ _ hu
      let bB:(upd (upd H8 p (.tup [V.str wd,y])) G (.lst (as.5 V.ref++[.ref p]))) I=U (.lst (fQ.5 V.str)):=by rw[AE AP.wf];show w _ _ P.words
      show(7,.inl (Y,_,dY.of j6),7,7,I,_,_,.str wd,Y,Y,dY.of bB,bm,7,ig,λq hq=>?_);let s:=AD (dH.refl _) hq (o:=HO.tup [V.str wd,V.int ((Da (As u) v:Nat):Int)]);show(D,_,.ref q,Y,Y,s _ _ j6,AR (_),?_);let t2:=eQ.upd (s _ _ j6) (ys:=bs.5 V.ref++[.ref q]);let be:=((eQ.of w).7 t1).7 ((eQ.of s).7 t2);let(x,bk,ed):=P.fV;let RR:QR (As u) (wd,(v)):=(DO,by rw[CD];lia,UZ wd (zM hw),?_,hTO,je);show(gy eD ?_:Df.nx _ _);show(_,_,_,_,_,_,_,u++[(wd,(v))],Y,by ext,N7 RO RR,?_,?_)
      ·rw[zl,fj,zw,hw,Option.toList_some];rfl
      ·show(λc o ec hc=>?_,(x,bk,?_),?_,(as++[p],?_,?_),(bs++[q],?_,?_))
       ·have n1:c≠D:=AK ec AP.nu;rw[AE n1];show s _ _ ?_;rw[AE (AK ec AP.nf)];show w _ _ (P.old c o ec hc)
       ·rw[AE (Ne.symm AP.ud)];show s _ _ ?_;rw[AE (Ne.symm AP.fd)];show w _ _ ed
       ·rw[AE AP.wu];show s _ _ bB
       ·rw[AE AP.fu];show s _ _ ?_;rw[dG,zl];rfl
       ·show Paired.snoc (Bh be hP) ?_;show(y,t2 _ _ (s _ _ (t1 _ _ dG)),hT.eX be)
       ·rw[dG,zl];rfl
       ·rw[Fh];unfold Ds;rw[zl];show Paired.snoc (dJ.eX be X) (t2 _ _ dG)
      ·rw[Ua,fj];intro z;let bC:=SS (i,bn);rw[hw]at bC;have:=Option.some.inj bC;show of_decide_eq_false this z
 ·rintro g H2 ⟨v5,v6,v7,v8,v9,R,Q,u,rfl,fg,RO,fj,ab⟩;let(as,hf,hP):=ab.found;let(bs,hu,X):=ab.55;show(gy m ?_:N _ _);show(7,7,ig,λq hq=>?_);let s:=AD (dH.refl _) hq (o:=HO.tup [V.ref G,V.ref D]);show k q G D as bs u _ (λc o e hc=>s _ _ (ab.old c o e hc),?_) dG a7 a8 (s _ _ hf) (Bh (eQ.of s) hP) (s _ _ hu) (dJ.eX (eQ.of s) X) () () RO (λx hx=>mem_of_mem_take (fj ▸ hx));let(x,bk,e):=ab.fV;show(x,bk,s _ _ e)
end
end Mk
namespace L2
open PySem
theorem Ii(f)(e:X.K=f):eW X (.builtin mr) (λg H Q=>∃v C t b,g=[v,.ref C]/\gM f H v t/\W.kitOne f t (.ref C)=U b/\Q (.bl b) H):=by
 subst e;rintro d s p H g l Q I r ⟨v,C,t,b,rfl,ty,h,q⟩;let(u,o,rfl,j,a):=Iv r;cases a;show Kn I j ty h λi=>(.bl b,H,I.tok i,Y,q)
end L2
namespace Mk
open PySem L2 MK
mutual
structure iW(K:FG)(C:l7):Prop where
 cl:iQ K C
 ha:W.findIn K (.ref C) oG=U (U (.builtin lL))
 hn:W.specialIn K (.builtin lL) oS=U (U (.builtin lW))
 ht:W.takesIn K (.builtin lL)=U L
 hm:W.mroIn K C (.type nI)=U L
 nl:W.kitOne K (.type md) (.ref C)=U O
theorem iW.ty(k:iW b C)(e:H a=U (.ins C d fs)):gM b H (.ref a) (.ref C):=.ins e k.cl k.ha k.hn k.ht k.hm
theorem FU(b:FG)(C):W.kitOne b (.ref C) (.ref C)=U L:=by
 unfold W.kitOne;simp
inductive spNumber(C:l7)(vs:ly)(H:Hp)(Q:VK)(b:XK):Prop
 |mk (p) (due) (r) (x) (d:vs=[.ref p,.str x]) (f:eR C H p due r) (h:x∈due.5 (·.1)) (g:Q (.int (look due x:Nat)) H)
theorem Uc:AH [lH,lK] [lH,lK] (defScope FD):=fG
theorem SW(F:eP b lO "Kind.number" FD f g)(T:Fm b C)(a:Fn P w b m base oK 1 [lM,mQ] (DK b)):AT P w b m base eK 2 f g [lH,lK] (spNumber C):=by
 let(fO,M,a,v,G,y):=a.ex;show F.m Uc λvs H Q E h=>?_;let(p,e,r,x,rfl,z,o,k):=h;show(Y,λD A d s q=>?_);let(u,j,t,L,J,i,l,I):=z.ex
 show(_,AC (AV (Ao (Ai (A0 a q Y v G y .nil Af (AA (Z 1) (fy (Ad (Z 0) Y)))))) (AB AY) AM)
  (AB (AI (Au (CK q) (Ad (Z 0) rfl) (Z 1)))),?_)
 show(7,7,p,C,u,_,7,i,T.cl,T.nN,HN _ _ _,.inl (x,j,BF e,Y,.inr (t,l),7,?_));rw[C3 o];apply AU;show(7,p,C,u,_,7,i,T.cl,T.nN,HN _ _ _,7,j,7,.inl (_,Sum.inr x,.inr (t,l),Y,(C3 o).35),k)
inductive spRest(C:l7)(vs:ly)(H:Hp)(Q:VK)(b:XK):Prop
 |mk (p) (due) (r) (d:vs=[.ref p]) (f:eR C H p due r) (g:Q (.str r) H)
theorem YM:AH [lH] [lH] (defScope IJ):=fG
theorem WU(F:eP b oz "Kind.rest" IJ f g)(T:Fm b C):AT P w b m base eK 1 f g [lH] (spRest C):=by
 show F.m YM λvs H Q E h=>?_;let(p,l,r,rfl,e,k):=h;show(Y,λi A a s v=>?_);let(j,o,x,y,t,d,u,q):=e.ex;show(_,AB (AI (Ad (Z 0) Y)),(7,p,C,j,_,7,d,T.cl,T.nR,Ig _ _ _,k))
theorem Ud{p q:Str×Nat}:PyData.eqv (.tuple [.str p.1,.int (p.2:Int)]) (.tuple [.str q.1,.int (q.2:Int)])=decide (p=q):=by
 simp[PyData.eqv,PyData.eqvAll,Bool.and_eq_true,beq_iff_eq]
 grind
theorem N9:∀a b,PyData.eqv (.list (JF a)) (.list (JF b))=decide (a=b)
 | [],[]=>by rfl
 | [],q::r=>by rfl
 |p::r,[]=>by rfl
 |p::r,q::s=>by
  let h:PyData.eqv (.list (JF (p::r))) (.list (JF (q::s)))=(PyData.eqv (.tuple [.str p.1,.int p.2]) (.tuple [.str q.1,.int q.2])&&PyData.eqv (.list (JF r)) (.list (JF s))):=by
   simp[JF,map_cons,PyData.eqv,PyData.eqvAll]
  rw[h,Ud,N9 r s];simp
def ko(due:Aa):Prop:=∀p∈due,p.1.31 (· < 128)=L
inductive spEqK(C:l7)(vs:ly)(H:Hp)(Q:VK)(d:XK):Prop
 |mk (a b) (due) (r) (j:vs=[.ref a,.ref b]) (l:eR C H a due r) (o:ko due) (m:((∃i,H b=U (.lst i)/\∀f,dH H f->Q (.bl O) f)\/∃(g:Aa)(h:Str),eR C H b g h/\ko g/\∀f,dH H f->Q (.bl (decide (due=g/\r=h))) f))
theorem bz:AH [lH,me] [lH,me] (defScope MP):=fG
theorem YN(F:eP g oo "Kind.__eq__" MP f s)(B:Bl l)(T:Fm g C)(m:iW g C)(v:l "Kind"=gl (.ref C))(o:Mt P w g l base C oy 1 [lH] (spRows C)):AT P w g l base eK 2 f s [lH,me] (spEqK C):=by
 let(fR,dR,o,M,L):=o.ex;show F.m bz λvs H ab E h=>?_;let(a,b,j,r,rfl,J,Y,h):=h;show(zd,λdc A az an u=>?_)
 show(_,AB (AI (CI (AS (Ii g zd) zd B.gZ EY (AA (Z 1) (fy (BA (v:=.ref C) zd v zd))))
  (CI (CG (Tc g rfl u.41) (Bj (Z 0) T.cl M o u L .nil Af) (Bj (Z 1) T.cl M o u L .nil Af) (AN _))
   (Cj (CG Aq (Ad (Z 0) rfl) (Ad (Z 1) rfl) (AN _)))))),?_)
 let(R,d1,d2,I):=J.ins;let(xs,X,k)||(i,D,S,U,k):=h
 ·show(7,_,C,_,O,zd,.lst X,m.nl,7,AU (k _ (dH.refl _)))
 ·let(N,e1,e2,p):=S.ins;show(7,_,C,_,ii,zd,m.ty p,FU g C,7,?_);apply Ag;show(7,a,R,7,I,(Cb _ _ _),a,j,r,zd,J,λal as H1 x y ht=>?_);show(7,b,N,7,x _ _ p,(Cb _ _ _),b,i,D,zd,S.25 x,λl2 ag H2 q G t=>(_,_,C4 (q _ _ y) (HS (dJ.same q ht)),C4 G (HS t),FS Y,FS U,7,?_));rw[N9];let d:=x.7 q;show BN (λe=>?_) (λe=>?_)
  ·show(7,a,C,R,_,7,d _ _ I,T.cl,T.nR,Ig _ _ _,7,b,C,N,_,7,d _ _ p,T.cl,T.nR,Ig _ _ _,zd,?_);have:=k _ d;let Q:decide (V.str r=V.str D)=decide (j=i/\r=D):=decide_eq_decide.53 (λz=>(zR e,V.str.inj z),λz=>by rw[z.2])
   rwa[Q]
  ·have:=k _ d
   rwa[zK (λz=>e (zH z.1))]at this
def Ue(due:Aa)(e m:l7):LK:=[(Sum.inr nG,(V.int (Ah (due.5 (·.2)):Nat))),(Sum.inr ou,(V.ref e)),(Sum.inr "marks",(V.ref m)),(Sum.inr nk,(V.int (Ah (BY due):Nat)))]
theorem YO(a b c d):EC [] [((Sum.inr nG:Key),(a)),(Sum.inr ou,(b)),(Sum.inr "marks",(c)),(Sum.inr nk,(d))]=[((Sum.inr nG:Key),(a)),(Sum.inr ou,(b)),(Sum.inr "marks",(c)),(Sum.inr nk,(d))]:=by rfl
theorem Cu(due)(e m):Aj (Ue due e m) (Sum.inr nG)=U (V.int (Ah (due.5 (·.2)):Nat)):=by rfl
theorem SX(due):(BY due).70 (· < ·):=by
 let e:=HQ due;let d:=(Ec due).nodup_iff.53 (SH due);show(List.Pairwise.imp₂ (λa b h n=>Nat.lt_of_le_of_ne h n) e d).30 _
theorem LR(due):((BY due).5 λn:Nat=>(n:Int)).sum=((Ah (BY due):Nat):Int):=by
 let e:(BY due).sum=Ah (BY due):=SA (λn d=>(mem_filter.mp d).2) (SX due);rw[←e];generalize BY due=l;induction l with
 |nil=>rfl
 |cons a r h=>rw[map_cons,sum_cons,h];push_cast;rfl
theorem J8(due):Ah ((Al due).5 (·.1))=Ah (due.5 (·.2)):=by
 show Nat.eq_of_testBit_eq λk=>?_;rw[DJ,DJ,Bool.eq_iff_iff,any_eq_true,any_eq_true];constructor
 ·rintro⟨n,a,d⟩;let(q,h,rfl):=zh.mp a;show(q.1,zh.53 (_,LM h,Y),d)
 ·rintro⟨n,a,d⟩;let(p,e,rfl):=zh.mp a;show(p.2,SI e,d)
inductive spTable(vs:ly)(H:Hp)(Q:VK)(b:XK):Prop
 |mk (u) (bs) (due) (g:vs=[.ref u]) (h:H u=U (.lst (bs.5 V.ref))) (j:dJ H bs (Ds due)) (i:due.3<=10) (o:(∀p∈due,p.2<2^20)) (l:∀t e m f d,dH H d->d t=U (.dK (Ue due e m))->d e=U (.dK (DA (Al due)))->d m=U (.lst (f.5 V.ref))->dJ d f (QU due)->Q (.ref t) d)
noncomputable abbrev YQ:lr:=[mj,pU,"_law_firsts",lX,lV,"_law_marks"]
theorem scTable:AH YQ [mj] (defScope FL):=fG
theorem Uf(F:eP f oB oB FL aR fd)(B:Bl mg)(GB:Fn aC a9 f mg base pz 1 [lV] spBitsOf):AT aC a9 f mg base eK 2 aR fd [mj] spTable:=by
 show F.m scTable λvs ab bk be h=>?_;let(u,bs,d,rfl,hu0,Y,kP,je,k):=h;show(zd,λdc bd bl bm hr=>?_);let Q:=CK hr
 show(_,AC (Bo (hs:=by rfl) (hw:=by rfl) (AZ (AA AF (fy DR))) (BR zd (AQ (BM 1 scTable.nd) (AQ (BM 2 scTable.nd) Az))))
  (AC (Cl PassesOwn.never rfl (BG (pv 0)) (BR rfl (AQ (BM 3 scTable.nd) (AQ (BM 4 scTable.nd) Az)))
   (AC (A6 1 scTable.nd (AX JO (pv 1) (pv 4)))
   (AB (AV (Do (Kx Q (pv 4) (pv 2))) (AB (EB Q (pv 2) (pv 4) (pv 3) rfl)) AM))))
  (AC (NF (i:=5) scTable.nd rfl (by rfl) ["_law_firsts"] [U 2] (by rfl) (_) (by rfl) rfl (BG (AS (Lx rfl) rfl B.sorted Ff (fy (pv 2))))
   (λ_ _ _ _ _ _=>Fd (AJ Aq (AS (BB f rfl) rfl B.61 PySem.boot_len (fy (fP GB hr (fy (pv 0))))) AF (AN _)))
   (λ_ _ _ _ _ _=>AZ (AA (Au Q (pv 1) (pv 0)) (fy (pv 0)))))
  (AB (AI (P9 (C2 AL (pv 1) (C2 AL (pv 2) (C2 AL (pv 5) (C2 AL (AS (Ta rfl) rfl B.sum UF (fy (Gz [] [] (by rfl) (_) (by rfl) (by rfl) rfl (BG (pv 5)) (λ_ _ _ _ _ _=>BJ) (λ_ _ _ _ _ _=>pv 1)))) P8)))) rfl rfl (_) qc))))),?_)
 show λe he=>(ig,λa8 hq=>(a8,7,eO.of dG,zd,_,7,_,7,zd,?_));let s1:=AD (AD (dH.refl _) he (o:=HO.dK [])) hq (o:=HO.tup [V.int 0,V.ref e]);let jM:bs.3=d.3:=by rw[Y.3];unfold Ds;rw[AO]
 show(7,u,zd,(_,dY.of (s1 _ _ hu0)),DP (ω:=f) (a:=u) (xs:=bs.5 V.ref) (λi H S=>E₂ λ(v3 v4:Option V)=>C₃ (H=[U (.ref u),U (.int (Ah ((d.20 i).5 (·.2)):Nat)),U (.ref e),v3,v4,J]) (dH ab S) (S e=U (.dK (DA (Al (d.20 i))))))
  (J,J,rfl,s1,AD (dH.refl _) hq _ _ dG) (λi H S _ a0=>by let(_,_,_,N,_):=a0;show dY.of (N _ _ hu0)) ?_ ?_)
 ·rintro i v H S P ⟨v3,v4,rfl,N,x⟩;let(bb,p,rfl,_,dr,M):=DL (dJ.same N Y) P;let g:d.20 (i+1)=d.20 i++[p]:=by rw[zw,dr];rfl
  let ek:(((Ah ((d.20 (i+1)).5 (·.2)):Nat)):Int)=Builtin.bitOr ((Ah ((d.20 i).5 (·.2)):Nat):Int) (p.2:Int):=by
   rw[g,zl,C8];show congrArg _ (GY _ _)
  let a5:(DA (Al (d.20 i))).3<=100:=by
   unfold DA;rw[AO];have:=Eb (d.20 i);rw[zr]at this
   lia
  show(bb,7,eO.of M,zd,_,7,_,7,zd,(7,7,_,7,zd,?_));by_cases z:p.2∈(Al (d.20 i)).5 (·.1)
  ·show(7,7,e,7,.inl (_,Sum.inl (p.2:Int),.inl x,zd,(J7 z).35),7,AU (_,_,by rw[ek];rfl,N,?_));rw[g,Dl,zf (_)]
   lia
  ·show(7,7,e,7,.inl (_,Sum.inl (p.2:Int),.inl x,zd,(Ie z).35),7,Ag (7,7,7,e,7,iP.k (k:=Sum.inl (p.2:Int)) x (AR ()),?_));show(_,_,by rw[ek];rfl,J5 N he,?_);rw[dG,g,Dl,zg (_),N3 z]
 ·rintro H S ⟨v3,v4,rfl,N,x⟩;let e1:d.20 (bs.5 V.ref).3=d:=by rw[AO,jM,zt]
  rw[e1]at x ⊢;let a5:(DA (Al d)).3<=d.3:=by unfold DA;rw[AO];show Eb d
  show(7,e,7,.inl x,by lia,λkv a1=>?_,λl ns hl az as=>?_)
  ·unfold DA at a1
   grind
  ·have en:=UQ az as;subst en;let s3:=AD (dH.refl _) hl (o:=HO.lst (((Cg d).5 λn:Nat=>(n:Int)).5 V.int))
   show(l,zd,(_,dY.of dG),Dz (ω:=f) (a:=l) (xs:=BK (Cg d))
    (λi D C=>∃r,C₄ (D=r.5 V.ref) (dH S C) (C l=U (.lst (BK (Cg d)))) (dJ C r ((((Cg d).20 i).30 C9).5 λn=>(V.str (N2 (Al d) n),(V.int (n:Int)))))) ([],rfl,s3,by rw[dG,(JI _).35],.nil)
    (λi D C _ c=>by let(_,_,_,e,_):=c;show dY.of e) (λi D C (r,e,_,_,t)=>?_) ?_ ?_)
   ·have:=t.3;rw[e,AO,this,AO];let h3:(((Cg d).20 i).30 C9).3<=((Cg d).20 i).3:=zO _ _;rw[zr]at h3;have:=LP d
    lia
   ·rintro i v D C P ⟨r,rfl,T,a3,ht⟩;let(n,A,rfl):=QQ P;let ag:n∈(Al d).5 (·.1):=mem_keysS.mp (zM A);let a6:n<2^42:=Nat.lt_trans (QV je n ag) qc;let g:=PySem.take_succ_filter C9 _ i n A;show(7,n,zd,λE zs H4 G a4 hz=>(E,7,.inl (dY.of a4),zd,7,?_))
    let eb:decide (V.int ((zs.3:Nat):Int)=V.int 1)=C9 n:=by
     rw[←Ka a6,hz];show decide_eq_decide.53 (λh=>?_,λh=>by rw[h];rfl);have:=V.int.inj h
     lia
    rw[eb];let an:=G _ _ a3;show BN (λw=>?_) (λw=>?_)
    ·show(7,7,e,7,.inl (_,Sum.inl (n:Int),.inl (G _ _ (T _ _ x)),zd,(J7 ag).35),7,ig,λb s=>(r++[b],by ext,AD (T.7 G) s,by rw[AE (AK an s)];lia,?_));rw[g,w,zf rfl,zl];show SK (AD G s) ht dG
    ·show(r,zd,T.7 G,an,?_);rw[g,zg w,zj];show dJ.same G ht
   ·rintro D C ⟨r,rfl,T,_,ht⟩ m w
    let el:(Cg d).20 (BK (Cg d)).3=Cg d:=by
     have:(BK (Cg d)).3=(Cg d).3:=by unfold BK;rw[AO]
     rw[this];show zt
    rw[el]at ht;let R:dJ C r (QU d):=ht;let G:=AD (dH.refl _) w (o:=HO.lst (r.5 V.ref));let eh:r.3=(BY d).3:=by rw[R.3];show SL d
    show λt al=>(7,7,7,?_);let X:=AD (dH.refl _) al (o:=HO.dK []);let a7:=dJ.same (G.7 X) R;let ar:=X _ _ (dG (H:=C) (a:=m) (o:=HO.lst (r.5 V.ref)));show(7,m,zd,(_,dY.of ar),Dz (ω:=f) (a:=m) (xs:=r.5 V.ref) (λj D q=>D=BK ((BY d).20 j)/\q=upd (upd C m (.lst (r.5 V.ref))) t (.dK [])) (by rfl,zd) (λj D q _ W=>by let(_,e):=W;show e ▸ dY.of ar) (λj D q (e,_)=>?_) ?_ ?_)
    ·rw[e];unfold BK;rw[AO,zr];let h3:(BY d).3<=(Cg d).3:=zO _ _;have:=LP d
     lia
    ·rintro j v D q hj ⟨rfl,rfl⟩;rw[zx]at hj
     let(b,s,rfl):∃b,r[j]?=U b/\v=V.ref b:=by
      grind
     let(pq,Z,M):=N5 a7 s;unfold QU at Z;rw[zx]at Z
     let(n,A,rfl):∃n,(BY d)[j]?=U n/\pq=(V.str (N2 (Al d) n),V.int (n:Int)):=by
      grind
     show(b,7,eO.of M,zd,_,7,_,7,zd,(7,?_,zd));rw[zw,A,Option.toList_some];unfold BK
     ext
    ·rintro D q ⟨rfl,rfl⟩ E a2;let aM:(BY d).20 (r.5 V.ref).3=BY d:=by rw[AO,eh,zt]
     rw[aM];let s7:=AD (dH.refl _) a2 (o:=HO.lst (BK (BY d)));show(E,(BY d).5 λn:Nat=>(n:Int),zd,dY.of (by rw[dG,JI]),λn A=>?_,?_,?_)
     ·grind
     ·rw[LR];have:=FA (US je)
      lia
     ·rw[LR];show(s7 _ _ dG,[((Sum.inr nG:Key),(V.int (Ah (d.5 (·.2)):Nat))),(Sum.inr ou,(.ref e)),(Sum.inr "marks",(.ref m)),(Sum.inr nk,(V.int (Ah (BY d):Nat)))],zd,(_),?_);rw[YO]
      let y:dH (upd C m (.lst (r.5 V.ref))) (upd (upd (upd (upd C m (.lst (r.5 V.ref))) t (.dK [])) E (.lst (BK (BY d)))) t (.dK (Ue d e m))):=λb o I=>by
       rw[AE (AK I al)];show s7 _ _ (X _ _ I)
      show k t e m r _ ?_ dG ?_ (y _ _ dG) (dJ.same (G.7 y) R)
      ·intro b o I;show y _ _ (G _ _ (T _ _ (N _ _ I)))
      ·show y _ _ (G _ _ (T _ _ x))
theorem FV:∀{b},(∀d∈b,PyData.eqv d d=L)->PyData.eqvAll b b=L
 | [],_=>by rfl
 |d::r,h=>by
  rw[PyData.eqvAll,h d zE,FV λx a=>h x (_)];rfl
theorem Fy(h:∀d∈b,PyData.eqv d d=L):PyData.eqv (.list b) (.list b)=L:=by
 show FV h
theorem Ed(h:∀d∈b,PyData.eqv d d=L):PyData.eqv (.tuple b) (.tuple b)=L:=by
 show FV h
theorem By(x):PyData.eqv (.str x) (.str x)=L:=by simp[PyData.eqv]
theorem MZ(n):PyData.eqv (.int n) (.int n)=L:=by simp[PyData.eqv]
theorem HW:PyData.eqv .none .none=L:=by rfl
theorem Kc(b:lr):PyData.eqv (.list (b.5 PyData.str)) (.list (b.5 PyData.str))=L:=Fy λd a=>by
 let(n,_,rfl):=zh.mp a;show By _
def OA(kp:l7)(n:Nat):List (Str×V):=BH nk (.int (n:Int)) (BH mu (.ref kp) [])
theorem WV(kp)(n):(OA kp n).8 (mu:Str)=U (.ref kp):=by
 rfl
theorem WW(kp)(n):(OA kp n).8 (nk:Str)=U (.int (n:Int)):=by
 rfl
theorem XQ(kp)(n){m:Str}(d:¬ m=nk)(a:¬ m=mu):(OA kp n).8 m=J:=by
 unfold OA;rw[Aw,zg d,Aw,zg a];rfl
def gd(b:l7)(H:Hp)(p kp:l7)(n:Nat):Prop:=∃d,H p=U (.ins b d (OA kp n))
theorem gd.same{n}(s:dH H b)(h:gd d H p kp n):gd d b p kp n:=by
 let(a,h):=h;show(a,s _ _ h)
structure Ma(K:FG)(VC:l7):Prop where
 cl:iQ K VC
 nK:gf K VC mu
 nB:gf K VC nk
def kn(due:Aa):Nat:=Ah (due.5 (·.2))
inductive spIsNumber(vs:ly)(H:Hp)(Q:VK)(b:XK):Prop
 |mk (n:Nat) (d:vs=[.int (n)]) (f:n<2^40) (g:Q (.bl L) H)
theorem Ph:AH [lM] [lM] (defScope Fe):=fG
inductive spRestOf(C:l7)(vs:ly)(H:Hp)(Q:VK)(b:XK):Prop
 |mk (kp) (due) (r) (n:Nat) (f:vs=[.ref kp,.int (n)]) (g:eR C H kp due r) (h:∀d,dH H d->Q (.int ((n-(n&&&kn due):Nat):Int)) d)
theorem Ug:AH [lN,lO] [lN,lO] (defScope MQ):=fG
theorem SY(F:eP b pO pO MQ f g)(T:Fm b C)(d:Mt P w b m base C nG 2 [lH] (spKnown C)):AT P w b m base eK 3 f g [lN,lO] (spRestOf C):=by
 let(x,y,d,o,u):=d.ex;show F.m Ug λvs H Q E h=>?_;let(kp,a,r,n,rfl,i,k):=h;show(Y,λq A e s p=>?_);let(v,z,D,l):=i.ins;show(_,AB (AI (AX Cn (Z 1) (DB Lh (Bj (Z 0) T.cl o d p u .nil Af)))),(7,7,kp,v,7,l,(Cb _ _ _),kp,a,r,Y,i,λj t=>?_));show(7,_,7,Y,?_);change Q (V.int (Builtin.bitAnd n (Builtin.bitNot ((Ah ((Al a).5 (·.1)):Nat))))) j;rw[EM,J8];show k j t
inductive spVInit(C d:l7)(vs:ly)(H:Hp)(Q:VK)(f:XK):Prop
 |mk (p dx kp) (due) (r) (n:Nat) (h:vs=[.ref p,.ref kp,.int (n)]) (i:H p=U (.ins d dx [])) (l:eR C H kp due r) (j:n<2^40) (q:(r=n6 \/ n-(n&&&kn due)=0)) (m:∀g,(∀b o,H b=U o->b≠p->g b=U o)->gd d g p kp n->Q .eJ g)
theorem WX:AH [lH,lN,lO] [lH,lN,lO] (defScope Gd):=fG
theorem OB(F:eP g lU "Value.__init__" Gd f u)(T:Fm g C)(i:Ma g m)
  (N:Fn P w g o base ow 2 [lM] spIsNumber) (s:Fn P w g o base pO 3 [lN,lO] (spRestOf C)) (t:Mt P w g o base C oz 1 [lH] (spRest C)):AT P w g o base eK 4 f u [lH,lN,lO] (spVInit C m):=by
 let(fE,dE,O,S,Z):=t.ex;show F.m WX λvs H Q E h=>?_;let(p,v,kp,d,r,n,rfl,M,l,X,a,k):=h;show(Y,λag A ar an q=>?_);let(G,d1,d2,D):=l.ins
 show(_,AC (AV (Ao (Ai (fP N q (fy (pv 2))))) (AB AY) AM)
  (At (AV (PW.pt (Ci (AJ Dg (Bj (pv 1) T.cl S O (q.51 qc) Z .nil Af) AL (AN _)) (Bv (AJ Dg (fP s q (AA (pv 1) (fy (pv 2)))) AF (AN _))))) (AB AY) AM)
  (AC (CS (pv 0) (pv 1) rfl) (AB (CS (pv 0) (pv 2) rfl)))),?_)
 show(7,n,Y,X,7,?_);apply AU;show(λab y=>ab=[U (.ref p),U (.ref kp),U (.int n)]/\dH H y,λR I=>?_,?_)
 ·show(7,kp,G,7,D,(Cb _ _ _),kp,d,r,Y,l,Y,7,?_);by_cases x:r=n6
  ·rw[zH (by rw[x])];show AU (AU (I _ _ (Y,dH.refl _)))
  ·rw[zK (λz=>x (V.str.inj z))];apply Ag;show(7,7,kp,d,r,n,Y,l,λy j=>(Y,7,?_));rw[a.resolve_left x];show AU (I _ _ (Y,j))
 ·rintro ab y ⟨rfl,j⟩;show(7,7,p,m,v,[],Y,j _ _ M,i.cl,i.nK,(_),(7,7,p,m,v,7,dG,i.cl,i.nB,Nat.lt_of_le_of_lt (Ax _ _ _) (_),?_));show k _ (λb al e B=>?_) (v,dG);rw[AE B,AE B];show j _ _ e
inductive gg(b:l7)(vs:ly)(H:Hp)(Q:VK)(d:XK):Prop
 |mk (p kp) (n) (f:vs=[.ref p]) (g:gd b H p kp n) (h:Q (.int (n:Int)) H)
theorem SZ:AH [lH] [lH] (defScope ES):=fG
theorem Pi(F:eP g lO "Value.number" ES f m)(d:Ma g b):AT P w g o base eK 1 f m [lH] (gg b):=by
 show F.m SZ λvs H Q E h=>?_;let(p,kp,n,rfl,(i,e),k):=h;show(Y,λj A a s l=>?_);show(_,AB (AI (Ad (Z 0) Y)),(7,p,b,i,_,7,e,d.cl,d.nB,WW _ _,k))
inductive spVKind(b:l7)(vs:ly)(H:Hp)(Q:VK)(d:XK):Prop
 |mk (p kp) (n) (f:vs=[.ref p]) (g:gd b H p kp n) (h:Q (.ref kp) H)
theorem WY:AH [lH] [lH] (defScope Ge):=fG
theorem Uh(F:eP g lN "Value.kind" Ge f m)(d:Ma g b):AT P w g o base eK 1 f m [lH] (spVKind b):=by
 show F.m WY λvs H Q E h=>?_;let(p,kp,n,rfl,(i,e),k):=h;show(Y,λj A a s l=>?_);show(_,AB (AI (Ad (Z 0) Y)),(7,p,b,i,_,7,e,d.cl,d.nK,WV _ _,k))
structure I0(P:Program)(w:World)(K:FG)(mg:SV)(base:Heap)(C VC:l7):Prop where
 VT:Ma K VC
 cls:mg "Value"=U (.ref VC)
 make:∃f fd,Mk K VC f/\AT P w K mg base eK 4 f fd [lH,lN,lO] (spVInit C VC)/\Binds K fd [lH,lN,lO] []
theorem Bn(e:H kp=J)(a:H b=J)(d:b≠kp):dH H (upd (upd H b (.own kp)) kp (.ins D b [])):=by
 apply AD (AD (dH.refl _) a);rw[AE (Ne.symm d)]
 lia
theorem BQ(h:dH H f)(a:H kp=J)(g:∀b o,f b=U o->b≠kp->d b=U o):dH H d:=λb o e=>g b o (h _ _ e) (AK e a)
theorem XR(h:∀p∈due,p.2<2^20):kn due<2^20:=by
 show FA λn a=>by grind
theorem Ui(x y:Nat):(x|||y)+(x&&&y)=x+y:=by
 let h:=PyProof.Rows.bitOr_and x y;rw[C8,DD]at h
 lia
theorem JA(a b:Nat):a-(a&&&b)=a^^^(a&&&b):=by
 let h:(a^^^(a&&&b))|||(a&&&b)=a:=by
  show Nat.eq_of_testBit_eq λk=>?_;simp;cases a.testBit k<;>cases b.testBit k<;>rfl
 let e:(a^^^(a&&&b))&&&(a&&&b)=0:=by
  show Nat.eq_of_testBit_eq λk=>?_;simp only[Nat.testBit_and,Nat.testBit_xor,Nat.zero_testBit];cases a.testBit k<;>cases b.testBit k<;>rfl
 let d:=Ui (a^^^(a&&&b)) (a&&&b)
 lia
theorem Mb(a b k:Nat):(a-(a&&&b)).testBit k=(a.testBit k && !b.testBit k):=by
 rw[JA]
 grind
theorem QZ(a b):(a-(a&&&b))-((a-(a&&&b))&&&a)=0:=by
 let h:(a-(a&&&b))&&&a=a-(a&&&b):=by
  rw[JA a b];show Nat.eq_of_testBit_eq λk=>?_;simp only[Nat.testBit_and,Nat.testBit_xor];cases a.testBit k<;>cases b.testBit k<;>rfl
 lia
inductive spErrInit(b:FG)(vs:ly)(H:Hp)(Q:VK)(d:XK):Prop
 |mk (e C) (dx) (x) (f:vs=[.ref e,.str x]) (g:BE b C=L) (i:H e=U (Fl e C dx)) (h:Q .eJ H)
theorem Sa:AH [lH,pV] [lH,pV] (defScope BP):=fG
theorem Ee(F:FunD b lU nM BP f g)(j:m lY=J):AT P w b m base eK 1 f g [lH,pV] (spErrInit b):=by
 show F.ok Sa (λvs H Q E h=>?_) (λl A a s H vs Q E p h=>?_)
 ·let(e,C,d,x,rfl,_):=h;rfl
 ·let(e,C,d,x,rfl,o,i,k):=h;show(_,AB (Ae (Tj Y j (AA (Z 0) (fy (Z 1))))),(7,7,e,C,d,[.str x],Y,(_),o,i,k))
structure hX(P:Program)(w:World)(K:FG)(mg:SV)(base:Heap)(x:Str)(CU:l7):Prop where
 cls:mg x=U (.ref CU)
 make:∃f fd,MkX K CU f/\AT P w K mg base eK 1 f fd [lH,pV] (spErrInit K)/\Binds K fd [lH,pV] []
def Uq(H:Hp)(E:XK)(b:l7):Prop:=∀e d,dH H d->H e=J->d e=U (G5 e b J)->E (.ref b) J d
theorem none_of(s:dH H b)(h:b x=J):H x=J:=by
 cases e:H x with
 |none=>rfl
 |some u=>rw[s _ _ e]at h;cases h
theorem Uq.of(s:dH H f)(h:Uq H E b):Uq f E b:=λe a i j d=>h e a (s.7 i) (none_of s j) d
theorem J9{b}{H}{d}{te:XK->TE}{f}{i}{E}{D}{x}(l:BE b d=L)(e:dH H i)(h:Uq H E d):IC d (IB d (spErrInit b) [] E0 (An (tC (.str x)) Ce)) E D f i:=by
 show((_),λa j=>?_);show(a,d,J,x,Y,l,dG,Y,a,J,Y,dG,h a _ (e.7 ?_) (none_of e j) dG);rw[VP];show AD (dH.refl _) j
noncomputable def wds:lr:=["BadRows",ny,m8,"Unled","BadRule",mG,nO,"Unlike","BadPairs","Never",nz]
def wd(j:Nat):Str:=wds.45 j ""
noncomputable def i7(j:Nat):List Bool:=(List.range 11).5 λi=>decide (i=j)
noncomputable def b1(b:Bool):Int:=if b then 1 else 0
noncomputable abbrev zA(j:Nat):ly:=[V.bl (decide (0=j)),V.bl (decide (1=j)),V.bl (decide (2=j)),V.bl (decide (3=j))]
noncomputable abbrev zB(j:Nat):ly:=[V.bl (decide (4=j)),V.bl (decide (5=j)),V.bl (decide (6=j))]
noncomputable abbrev zC(j:Nat):ly:=[V.bl (decide (7=j))]
noncomputable abbrev zD(j:Nat):ly:=[V.bl (decide (8=j)),V.bl (decide (9=j)),V.bl (decide (10=j))]
noncomputable abbrev yA:ly:=[V.str "BadRows",V.str ny,V.str m8,V.str "Unled",V.str "BadRule",V.str mG,V.str nO]
noncomputable abbrev yB:ly:=[V.str "Unlike",V.str "BadPairs"]
theorem Qa:∀j,j<11->((i7 j).5 b1).sum=1:=by trivial
theorem YR:∀j,j<11->(i7 j)[j]?=U L/\∀m,m<j->(i7 j)[m]?=U O:=by trivial
theorem YS:∀j:Nat,j<11->iS (wds.5 V.str) (j)=U (V.str (wd j)):=by trivial
structure Sb(mg:SV)(ec:Nat->l7):Prop where
 e0:mg "BadRows"=U (.ref (ec 0))
 e1:mg ny=U (.ref (ec 1))
 e2:mg m8=U (.ref (ec 2))
 e3:mg "Unled"=U (.ref (ec 3))
 e4:mg "BadRule"=U (.ref (ec 4))
 e5:mg mG=U (.ref (ec 5))
 e6:mg nO=U (.ref (ec 6))
 e7:mg "Unlike"=U (.ref (ec 7))
 e8:mg "BadPairs"=U (.ref (ec 8))
 e9:mg "Never"=U (.ref (ec 9))
 e10:mg nz=U (.ref (ec 10))
 ev:mg lY=J
structure Qb(K:FG)(ec:Nat->l7)(C:l7)(j:Nat):Prop where
 hj:j<11
 kx:Vz K C
 kit:∀i,i<11->W.kitOne K (.ref C) (.ref (ec i))=U (decide (i=j))
 val:W.kitOne K (.ref C) (.type lY)=U L
theorem Cc(g)(q:X.K=g)(y:ExcP X e s C)(k:Vz g C)(r:Gl X mr)(z:X.mg mr=J)(h:Gl X x)(i:X.mg x=U (.ref c))(t:PE X a A)
  (l:iw x:=by decide)
  (m:starEach [a,.Name x f] X.21=(O,(eval a X.21))::starEach [.Name x f] X.21:=by rfl) (j:(backTo w (starEach [.Name x f] X.21)).any (·.1)=O:=by rfl) (o:starEach [.Name x f] X.21=(O,(eval (.Name x f) X.21))::starEach [] X.21:=by rfl):
  PE X (.Call (.Name mr p) [a,.Name x f] [] w) (tCB (λB H Q=>∃v c b,B=[.ref e,v]/\((∃D,v=.ref D/\c=.ref D)\/∃T,v=.ty T/\c=.type T)/\(s.dict=J\/∃d u,s.dict=U d/\H d=U u)/\W.kitOne g (.ref C) c=U b/\Q (.bl b) H) (An A (An (tC (.ref c)) Ce))):=by
 subst q;show AS (K8 y k) r z EY (AA t (fy (BA h i Y l) o) m) qc qc m j
def Ef(f:FG)(b:Nat->l7):SpS:=λe g vs H Q=>vs=[.ref e]/\∃(C:l7)(j:Nat)(fs:Array Value),g.78=.ref C/\g.38=.fields fs/\fs[2]?=U .none/\(g.dict=J\/∃d u,g.dict=U d/\H d=U u)/\Qb f b C j /\
 ∀p h,dH H h->h p=U (.tup [.str lR,.str (wd j)])->Q (.ref p) h
theorem scWord:AH [mv,"_law_flags",nr] [mv] (defScope FK):=fG
theorem WZ(F:eP g nv nv FK f fd)(B:Bl m)(M:Sb m ec):QG an aC g m base 1 f fd [mv] (Ef g ec):=by
 show F.okS scWord (λe p vs H a0 h=>?_) (λar A D s H vs a0 e p hh hr h=>?_)
 ·let(rfl,_):=h;rfl
 ·let(rfl,aR,j,fs,hc,hf,h2,hd,r,k):=h;let y:=r.hj
  let l:∀z,dH H z->(p.dict=gt\/∃d u,p.dict=U d/\z d=U u):=λz s=>by
   let aM||(d,u,aM,bk):=hd
   ·ext
   ·show .inr (d,u,aM,s _ _ bk)
  let kt:=r.kit;let x:ExcP (K5 an aC g m base [mv,"_law_flags",nr] nv (defScope FK) f ar A D s H e p) e p aR:=(zE,hc,(fs,hf));let rd:jI (K5 an aC g m base [mv,"_law_flags",nr] nv (defScope FK) f ar A D s H e p):=Vw hh hf h2
  show(_,AC (A6 1 scWord.nd (A4 (AA (Cc g Y x r.kx Y B.gZ Y M.e0 (Z 0)) (AA (Cc g Y x r.kx Y B.gZ Y M.e1 (Z 0)) (AA (Cc g Y x r.kx Y B.gZ Y M.e2 (Z 0)) (AA (Cc g Y x r.kx Y B.gZ Y M.e3 (Z 0)) AG))))))
   (AC (A6 1 scWord.nd (AX Hu (Z 1) (A4 (AA (Cc g rfl x r.kx rfl B.gZ rfl M.e4 (Z 0)) (AA (Cc g rfl x r.kx rfl B.gZ rfl M.e5 (Z 0)) (AA (Cc g rfl x r.kx rfl B.gZ rfl M.e6 (Z 0)) AG))))))
   (AC (A6 1 scWord.nd (AX Hu (Z 1) (A4 (AA (Cc g rfl x r.kx rfl B.gZ rfl M.e7 (Z 0)) AG))))
   (AC (A6 1 scWord.nd (AX Hu (Z 1) (A4 (AA (Cc g rfl x r.kx rfl B.gZ rfl M.e8 (Z 0)) (AA (Cc g rfl x r.kx rfl B.gZ rfl M.e9 (Z 0)) (AA (Cc g rfl x r.kx rfl B.gZ rfl M.e10 (Z 0)) AG))))))
   (AC (A6 2 scWord.nd (A4 (AA AL (AA AL (AA AL (AA AL (AA AL (AA AL (AA AL AG)))))))))
   (AC (A6 2 scWord.nd (AX Hu (Z 2) (A4 (AA AL (AA AL AG)))))
   (AC (AV (PW.pt (B8 (AJ Dg (AS (K2 rd) rfl B.sum UF (AA (RX [] [] (by rfl) (_) (by rfl) rd (TV (Z 1)) (λ_ _ _ _ _ _=>BJ) (λ_ _ _ _ _ _=>Ay Hq rfl B.int Ea (AA (Z 0) AG))) AG)) AF (AN _))
     (Bc (Ao (Ai (AS (K8 x r.kx) rfl B.gZ EY (AA (Z 0) (AA (D6 (v:=.ty lY) rfl M.ev QF rfl) AG)))))))) (AB AY) AM)
   (AB (AI (AZ (AA AL (AA (Am (Ak g rfl) (AX Hu (Z 2) (A4 (AA AL (AA AL AG)))) (Ft plainAttrs_list slot_list_index type_list_index Rm (Z 1) (AA Cf AG)) (λ_ _=>rfl)) AG))))))))))),?_)
  show gL λN t=>(7,_,_,7,.inl (7,Y),l _ (dH.refl _),kt 0 qc,7,_,_,7,.inl (7,Y),l _ (dH.refl _),kt 1 qc,7,_,_,7,.inl (7,Y),l _ (dH.refl _),kt 2 qc,7,_,_,7,.inl (7,Y),l _ (dH.refl _),kt 3 qc,sl4,λT h1=>?_);let v:=AD (dH.refl H) h1 (o:=.lst (zA j));let a1:=dG (H:=H) (a:=T) (o:=.lst (zA j));generalize upd H T (.lst (zA j))=C at v a1 ⊢;show(gy t (gL λN t=>?_):N _ _);show(7,7,_,_,7,.inl (7,Y),l _ v,kt 4 qc,7,_,_,7,.inl (7,Y),l _ v,kt 5 qc,7,_,_,7,.inl (7,Y),l _ v,kt 6 qc,jK,λl2 al=>(T,l2,_,7,Y,(AD (dH.refl C) al) _ _ a1,dG,(by change 4+3<=sizeLine;decide),λl3 h3=>?_));let s3:=v.7 (AD (AD (dH.refl C) al (o:=.lst (zB j))) h3 (o:=.lst (zA j++zB j)));generalize e3:upd (upd C l2 (.lst (zB j))) l3 (.lst (zA j++zB j))=w at s3 ⊢;let a3:w l3=U (.lst (zA j++zB j)):=by rw[←e3,dG]
  show(gy t (gL λN t=>?_):N _ _);show(7,7,_,_,7,.inl (7,Y),l _ s3,kt 7 qc,sl1,λl4 h4=>(l3,l4,_,7,Y,(AD (dH.refl w) h4) _ _ a3,dG,(by change 7+1<=sizeLine;decide),λl5 h5=>?_));let q:=s3.7 (AD (AD (dH.refl w) h4 (o:=.lst (zC j))) h5 (o:=.lst ((zA j++zB j)++(zC j))));generalize e5:upd (upd w l4 (.lst (zC j))) l5 (.lst ((zA j++zB j)++(zC j)))=P at q ⊢;show(gy t (gL λN t=>?_):N _ _);show(7,7,_,_,7,.inl (7,Y),l _ q,kt 8 qc,7,_,_,7,.inl (7,Y),l _ q,kt 9 qc,7,_,_,7,.inl (7,Y),l _ q,kt 10 qc,jK,λl6 h6=>(l5,l6,_,7,Y,(AD (dH.refl P) h6) _ _ (by rw[←e5,dG]),dG,(by change 8+3<=sizeLine;decide),λX h7=>?_));let s7:=q.7 (AD (AD (dH.refl P) h6 (o:=.lst (zD j))) h7 (o:=.lst (((zA j++zB j)++(zC j))++(zD j))));generalize e7:upd (upd P l6 (.lst (zD j))) X (.lst (((zA j++zB j)++(zC j))++(zD j)))=Q at s7 ⊢;let a7:Q X=U (.lst ((i7 j).5 V.bl)):=by rw[←e7];show dG
  show(gy t (gL λN t=>((_),λl8 h8=>?_)):N _ _);show(gy t (gL λN t=>?_):N _ _);show(7,(_),λl9 h9=>(l8,l9,_,7,Y,(AD (dH.refl _) h9) _ _ dG,dG,(_),λG kP=>?_));let E:=AD (AD (AD (dH.refl Q) h8 (o:=.lst yA)) h9 (o:=.lst yB)) kP (o:=.lst (yA++yB));generalize a4:upd (upd (upd Q l8 (.lst yA)) l9 (.lst yB)) G (.lst (yA++yB))=ab at E ⊢;let a2:ab G=U (.lst (yA++yB)):=by rw[←a4];show dG
  let R:=E _ _ a7;show(gy t (gL λN t=>?_):N _ _);show(7,X,Y,(_,dY.of R),Dz (ω:=g) (a:=X) (xs:=(i7 j).5 V.bl) (λi S I=>S=((i7 j).20 i).5 (λb=>V.int (b1 b))/\I=ab) (Y,Y) (λi S I _ (_,e)=>e ▸ dY.of R) (λi S I (e,_)=>?_) ?_ ?_)
  ·rw[e,AO,zr];have:(i7 j).3=11:=rfl
   lia
  ·rintro i be S I hi ⟨rfl,rfl⟩;rw[zx]at hi;let(b,hb,rfl):=z5.mp hi;show(7,.inr (b,Y,?_,Y));rw[zw,hb,Option.toList_some,zl];rfl
  ·rintro S I ⟨rfl,rfl⟩ bb hp;let el:(i7 j).20 ((i7 j).5 V.bl).3=i7 j:=by rw[AO];show zt
   rw[el];let em:(i7 j).5 (λb=>V.int (b1 b))=((i7 j).5 b1).5 V.int:=by rw[map_map];rfl
   rw[em];let ag:=AD (dH.refl I) hp (o:=.lst (((i7 j).5 b1).5 V.int));show(bb,(i7 j).5 b1,Y,dY.of dG,λn hn=>?_,(by rw[Qa j y];decide),Y,7,?_)
   ·let(b,_,rfl):=zh.mp hn;unfold b1
    lia
   rw[Qa j y];show AU ((7,_,_,ii,Y,.inr (7,Y),l _ (s7.7 (E.7 ag)),r.val,7,?_));show AU ((gy t ?_:N _ _));show(7,(_),λa8 a5=>?_);let as:=AD ag a5 (o:=.lst [V.str "Never",V.str nz]);show(G,a8,_,7,Y,as _ _ a2,dG,(_),λa9 a6=>?_);let az:=AD as a6 (o:=.lst ((yA++yB)++[V.str "Never",V.str nz]));let c7:=az _ _ R;let(f1,f2):=YR j y;show(7,.inl (Y,_,dY.of c7),X,i7 j,j,Y,Y,c7,f1,f2,a9,_,(j:Int),7,Y,dY.of dG,YS j y,ig,λbd hq=>k bd _ (s7.7 (E.7 (AD az hq))) dG)
structure Fz(K:FG)(ec:Nat->l7)(cM C:l7)(j:Nat):Prop where
 ea:Qb K ec C j
 cx:BE K C=L
 n0:(Er K C).16 (.ref (ec 0))=O
 n1:(Er K C).16 (.ref (ec 1))=O
 n2:(Er K C).16 (.ref (ec 2))=O
 n3:(Er K C).16 (.ref (ec 3))=O
 m:(Er K C).16 (.ref cM)=L
noncomputable def Mc(j:Nat):Str:=(["at",nk,"at",lK]:lr).45 j ""
structure KB(K:FG)(ec:Nat->l7)(C:l7)(j:Nat):Prop where
 ea:Qb K ec C j
 cx:BE K C=L
 j4:j<4
 no:∀i,i<j->(Er K C).16 (.ref (ec i))=O
 m:(Er K C).16 (.ref (ec j))=L
 g:ZN K C (Mc j)
structure Uj(K:FG)(mg:SV)(ec:Nat->l7)(cM:l7):Prop where
 m:mg "MarkError"=U (.ref cM)
 xm:BE K cM=L
 x0:BE K (ec 0)=L
 x1:BE K (ec 1)=L
 x2:BE K (ec 2)=L
 x3:BE K (ec 3)=L
structure FnS(P:Program)(w:World)(K:FG)(mg:SV)(base:Heap)(x:Str)(k:Nat)(ps:lr)(sp:SpS):Prop where
 ex:∃f fd,QG P w K mg base k f fd ps sp/\mg x=U (.ref f)/\W.keepIn K (.ref f)=L/\Binds K fd ps []
def Uk(g:FG)(f:Nat->l7)(h C:l7)(b:Option l7)(e:l7):TS:=λD l H=>l.3=2 /\
 ((∃j,Fz g f h C j/\b=J/\∀p i,dH H i->i p=U (.tup [.str lR,.str (wd j)])->D.rt (.ref p) i) \/
  ∃j d v,KB g f C j/\b=U d/\H d=U (.xd [(Mc j,(v))])/\∀p i,dH H i->i p=U (.tup [.str lR,.str (wd j),v])->D.rt (.ref p) i)
def F2(f:FG)(b:Nat->l7)(g:l7)(Q:VK):XK:=λm l i=>∃C,m=.ref C/\∀e,i e=U (G5 e C l) ->
 ((∃j,Fz f b g C j/\l=J/\∀p h,dH (del i e) h->h p=U (.tup [.str lR,.str (wd j)])->Q (.ref p) h) \/
  ∃j d v,KB f b C j/\l=U d/\(del i e) d=U (.xd [(Mc j,(v))])/\∀p h,dH (del i e) h->h p=U (.tup [.str lR,.str (wd j),v])->Q (.ref p) h)
theorem scTold:AH [mq,mv] [mq] (defScope A9):=fG
theorem Ul(b)(a:X.K=b):gx X (binaryOp .Add) (P5 b):=a ▸ Ve
theorem Wb(F:eP b lS lS A9 f fd)(M:Sb i g)(h:Uj b i g I)(N:FnS P w b i base nv 1 [mv] (Ef b g))
   {s}{H}   {scope}{o}      {tl:XK->TE} 
  (hr:eB (k+2) A) (e0:gX P w b i base A m s H) (hb:BindsTo s fd a5 (([mq]:lr).zip [Value.ref C])) (a2:Jf Nl scope o a1 H s.15) (bd:∀x c,o.8 x=U c->c∉ gD m)
  (h1:H C=U (ki C (W.kla_obj aR qual params an scope o pm r as))) (B:H r=U (G8 r qual))
  (a6:bindArgs (W.kla_fn aR qual params an scope o pm (.ref r) as) ([],[])=pure [])
  (a9:scope.isCoroutine=im) (be:scope.isGenerator=im) (hk:scope.kind=.function) (a8:∀x∈scope.54,x.2≠ .cell)
  (bk:∀A' a4 S y E,eB k (A'.56 (W.envX qual scope S.4 C (.ref r) o))->PE (G9 P w b i base Nl qual scope C (.ref r) o A' a4 S y E) an (tl E))
  (az:tl (F2 b g I Q) a1 H Q):codeAny (model P w) A (.call (.ref f) a5) (CR eK m P w H s Q E0) s:=by
 let(fW,dW,N,mW,kW,bW):=N.ex;show F.at (N:=[mq,mv]) scTold (vs:=[.ref C]) zd (k:=k+1) hr e0 hb (.cons zd .nil) λl jS=>?_
 let aC:∀e,RoomS 1 ((A.56 (PyProof.Rows.envOfC lS (defScope A9) s.4 f l)).mark (U (.ref e))):=λe=>by
  let q:=jS.51 (show 1<=k+1 by lia);show(q.dp,q.un)
 show(_,AB (X1 (tb:=λE=>Sn (NV 0 C r qual (W.kla_obj aR qual params an scope o pm r as) a1 (tl E))) (th:=Uk b g I) (Xy (CX:=eK) (P:=P) (w:=w) (ω:=b) (mg:=i) (base:=base) (N:=[mq,mv]) (qual:=lS) (scope:=defScope A9) (f:=f) (cd:=l) (A:=A) (outer:=m) (s:=s) (H:=H) (E:=E0)) (λP0 xe E hx=>?_) (λR dx=>?_)),?_)
 ·show AB (AI (O4 (i:=0) (k:=k+1) zd (Or.inl zd) jS a2 bd zd hx a6 a9 be hk a8 (λS y=>bk _ _ S y E (jS.56 _))))
 ·rintro t s1 X H1 D e a T G c ar ⟨hl,⟨j,EP,rfl,kq⟩|⟨j,d,v,u,rfl,bl,kq⟩⟩
  ·show(?hp:PH (B9 eK P w b i base [mq,mv] lS (defScope A9) f l A m s H E0) R gt _ (λe=>QH 1 (λD X H=>X[1]?=U (U (.ref e))/\∀p y,dH H y->y p=U (.tup [.str lR,.str (wd j)])->D.rt (.ref p) y) e)) t s1 X H1 D e a T G c ar ?_
   ·show Cz (Dn:=g 0) EP.cx h.x0 zd M.e0 EP.n0 ?_;show Cz (Dn:=g 1) EP.cx h.x1 zd M.e1 EP.n1 (Cz (Dn:=g 2) EP.cx h.x2 zd M.e2 EP.n2 ?_);show Cz (Dn:=g 3) EP.cx h.x3 zd M.e3 EP.n3 (QI (Dn:=I) (i:=1) scTold.nd zd zd EP.cx h.xm zd h.m EP.m (λe a T G c=>?_));show λt s2 kr H2 D2 I2 B=>?_;let(fs,hd,hf1,Y):=c.fld;show(?hb2:hA (Cp (B9 eK P w b i base [mq,mv] lS (defScope A9) f l A m s H E0) e a T G) _ (Sn (MC (Ef b g) e a (An (Ld 1) Ce)))) t s2 kr H2 D2 I2 (_,B.1,zd,R,j,fs,c.78,hd,Y,.inl c.dict,EP.ea,B.2);show AB (AI (NU (e:=e) (oe:=a) N (aC e) zd (by simp[Cp]) zd mW kW bW (fy (pv 1))))
   ·show(by simp_all,kq)
  ·have bn:=u.j4;show(?hq:PH (B9 eK P w b i base [mq,mv] lS (defScope A9) f l A m s H E0) R (U d) _ (λe=>QH 1 (λD X H=>C₃ (X[1]?=U (U (.ref e))) (H d=U (.xd [(Mc j,(v))])) (∀p y,dH H y->y p=U (.tup [.str lR,.str (wd j),v])->D.rt (.ref p) y)) e)) t s1 X H1 D e a T G c ar ?_
   ·have take:∀{x:Str}{al:Stmt}{np a0:Pos}{hs:List ExceptHandler}(ab:l7),BE b ab=ii->(hg:Gl (B9 eK P w b i base [mq,mv] lS (defScope A9) f l A m s H E0) x)->i x=U (.ref ab)->(Er b R).16 (.ref ab)=ii->iw x ->
      (∀e a T G,Cgt R (U d) e a T G->hA (Cp (B9 eK P w b i base [mq,mv] lS (defScope A9) f l A m s H E0) e a T G) [al] (Sn (jQ (P5 b) (MC (Ef b g) e a (An (Ld 1) Ce)) (S5 (An (Ts e a (Mc j) (Ld 1)) Ce))))) ->
      PH (B9 eK P w b i base [mq,mv] lS (defScope A9) f l A m s H E0) R (U d) (.ExceptHandler (U (.Name x np)) (U mv) [al] a0::hs) (λe=>QH 1 (λD X H=>C₃ (X[1]?=U (U (.ref e))) (H d=U (.xd [(Mc j,(v))])) (∀p y,dH H y->y p=U (.tup [.str lR,.str (wd j),v])->D.rt (.ref p) y)) e):=λ{x al np a0 hs}ab hD hg hm hc bb a7=>
     QI (Dn:=ab) (i:=1) scTold.nd rfl rfl u.cx hD hg hm hc (λe a T G c=>by
      show λt s2 kr H2 D2 I2 B=>?_;let(fs,hd,hf1,Y):=c.fld;let(g1,g2,g3):=B;show a7 e a T G c t s2 kr H2 D2 I2 (_,g1,rfl,R,j,fs,c.78,hd,Y,.inr (d,_,c.dict,g2),u.ea,λp y sp hp=>(_,g1,d,_,v,rfl,c.dict,sp _ _ g2,(_),sl1,λq hq=>?_));let sq:=AD (dH.refl y) hq (o:=.tup [v]);show(p,q,_,_,rfl,rfl,eO.of (sq _ _ hp),eO.of dG,(_),(by change 2+1<=sizeLine;decide),(λz=>nomatch z),λ_ bm hr=>?_)
      show g3 bm _ (sp.7 (AD sq hr)) dG) bb
    let pX:∀e a T G,Cgt R (U d) e a T G->ExcP (Cp (B9 eK P w b i base [mq,mv] lS (defScope A9) f l A m s H E0) e a T G) e a R:=λe a T G c=>by
     let(fs,hd,_):=c.fld;show(by simp[Cp],c.78,(fs,hd))
    let ag:∀{fl:Str}{p1 p2 p3 p4 p5 p6 p7:Pos}{kt:Nat},Mc j=fl->∀e a T G,Cgt R (U d) e a T G->hA (Cp (B9 eK P w b i base [mq,mv] lS (defScope A9) f l A m s H E0) e a T G) [.Return (U (.BinOp (.Call (.Name nv p1) [.Name mv p2] [] p3) .Add (.Tuple [.Attribute (.Name mv p4) fl p5] kt p6) p7)) p7] (Sn (jQ (P5 b) (MC (Ef b g) e a (An (Ld 1) Ce)) (S5 (An (Ts e a (Mc j) (Ld 1)) Ce)))):=λdf e a T G c=>by
     subst df;show AB (AI (AX (Ul b zd) (NU (e:=e) (oe:=a) N (aC e) zd (by simp[Cp]) zd mW kW bW (fy (pv 1))) (AZ (fy (V4 (pX e a T G c) u.g (pv 1) zd)))))
    let z||z||z||z:=(show j=0\/j=1\/j=2\/j=3 by lia)
    ·subst z;show take (g 0) h.x0 zd M.e0 u.m qc (ag zd)
    ·subst z;show Cz (Dn:=g 0) u.cx h.x0 zd M.e0 (u.no 0 qc) (take (g 1) h.x1 zd M.e1 u.m qc (ag zd))
    ·subst z;show Cz (Dn:=g 0) u.cx h.x0 zd M.e0 (u.no 0 qc) (Cz (Dn:=g 1) u.cx h.x1 zd M.e1 (u.no 1 qc) ?_);show take (g 2) h.x2 zd M.e2 u.m qc (ag zd)
    ·subst z;show Cz (Dn:=g 0) u.cx h.x0 zd M.e0 (u.no 0 qc) ?_;show Cz (Dn:=g 1) u.cx h.x1 zd M.e1 (u.no 1 qc) (Cz (Dn:=g 2) u.cx h.x2 zd M.e2 (u.no 2 qc) ?_);show take (g 3) h.x3 zd M.e3 u.m qc (ag zd)
   ·show(by simp_all,bl,kq)
 ·show(zd,h1,B,?_)
  let e:Vy (B9 eK P w b i base [mq,mv] lS (defScope A9) f l A m s H E0).N.3 (Uk b g I) {nx:=λ_ y=>Q .eJ y,rt:=Q}=F2 b g I Q:=by
   funext Cv dx H2;unfold Vy F2 Uk;simp[B9]
  rw[←e]at az;show az
end
end Mk
namespace L2
open PySem PySem.Spec PyProof.Rows
noncomputable def Um(b:List Nat)(d:St):St:=b.5 λj=>(d[j]?).45 J
structure LamN(X:Cx)(Nl:lr)(ix:List Nat)(scope:Scope)(gu:List (Str×l7)):Prop where
 len:ix.3=Nl.3
 nm:∀(i:Nat)x,Nl[i]?=U x->∃j,ix[i]?=U j/\X.N[j]?=U x/\X.24 x=U .cell/\scope.12 x=U .free
 cl:∀x c,gu.8 x=U c->X.19 x=U c
 has:∀x,(scope.12 x=U .cell\/scope.12 x=U .free)->∃c,gu.8 x=U c
 fr:∀x c,gu.8 x=U c->X.fn x=L\/c∉ gD X.33
theorem LamN.cells(b:LamN X g A scope w)(I:Inv X B f H s):Jf g scope w (Um A f) H s.15:=by
 show(λx y c d a=>I.ok.inj x y c (b.cl x c d) (b.cl y c a),b.has,λx c h=>(I.cell x c (b.cl x c h),I.gi x c (b.cl x c h)),λi x v d a=>?_,?_)
 ·let(j,J,F,C,q):=b.nm i x d;show(q,?_);unfold Um at a
  let D:f[j]?=U (U v):=by
   cases e:f[j]? with
   |none=>ext
   |some o=>ext
  let(m,_,E):=I.loc;let(u,r,l):=E j x v F D (.inr (.inl C));let(l,_)||(_,c,e,z):=l
  ·rw[show X.env.kindOf x=X.24 x from rfl,C]at l;cases l
  ·let(G,p):=b.has x (.inr q);let t:=b.cl x G p;rw[e]at t;cases t;show(u,c,r,p,z)
 ·unfold Um;rw[AO];show b.61
theorem LamN.kY(b:LamN X g j scope f)(I:Inv X i l H s):∀x c,f.8 x=U c->c∉ gD X.33:=λx c h z=>by
 let d:=b.cl x c h;let a||a:=b.fr x c h
 ·let z||z:=mem_cons.mp (I.gR c z)
  ·show I.jO x c d z
  ·let(_,o,e,_):=I.ok.gz.mem z;show absurd (zX (lt_size e) (I.ok.jH x c a d)) (zy _)
 ·show a z
end L2
namespace Mk
open PySem L2 MK
mutual
def Uo(j:FG)(g:Nat->l7)(f b:l7)(qual:Str)(d:List Pos)(h:List Nat)(i:XK->TE):TE:=λm H Q=>eV H b qual d/\∀l,LA b H l->eV l b qual d->i (F2 j g f Q) (Um h m) l Q
theorem Wc(F:eP X.K lS lS A9 f fd)(M:Sb X.mg m)(B:Uj X.K X.mg m cM)(P:FnS X.14 X.w X.K X.mg X.39 nv 1 [mv] (Ef X.K m))
  (hr:eB (k+2) X.A) (hg:Gl X lS) (hm:X.mg lS=U (.ref f)) (ag:W.keepIn X.K (.ref f)=ii) (hB:Binds X.K fd [mq] [])

  (ab:X2 X c h) (an:a∈o) (er:∀q∈o,q=a\/(q.68==a.68&&q.col==a.col)=O) (S:closureFor scope X.21=pure g) (G:defaultsOf params X.21=([],([]))) (w:LamN X Nl ix scope g)
  (t:∀pm j d,bindArgs (W.kla_fn lP (X.42 ++ lP) params b scope g pm (.ref j) d) ([],[])=pure [])
  (as:scope.isCoroutine=O) (aR:scope.isGenerator=O) (hk:scope.kind=.function) (aC:∀x∈scope.54,x.2≠ .cell)
  (Q:∀i j p az l s E,eB k (p.56 (W.envX (X.42 ++ lP) scope l.4 i (.ref j) g))->PE (G9 X.14 X.w X.K X.mg X.39 Nl (X.42 ++ lP) scope i (.ref j) g p az l s E) b (tl E))
  (z:starEach [.Lambda params b scope a] X.21=(O,(eval (.Lambda params b scope a) X.21))::starEach [] X.21:=by rfl) (R:(backTo A (starEach [] X.21)).any (·.1)=O:=by rfl):
  PE X (.Call (.Name lS a2) [.Lambda params b scope a] [] A) (Uo X.K m cM h (X.42 ++ lP) o ix tl):=by
 intro D aM a0 H a1 I ⟨hT,ar⟩;show zZ (CP I hg hm (W.callWith_K I.81 ag (eI ((fy (X3 ab an er S G) z) A D aM a0 H (λvs y=>E₃ λi j d=>C₅ (vs=[.ref i]) (LA h H y) (eV y h (X.42 ++ lP) o) (y i=U (ki i (W.kla_obj lP (X.42 ++ lP) params b scope g ((X.mg mY).45 .none) j d))) (y j=U (G8 j (X.42 ++ lP)))) I (hT,λi j d s _ al ht T N=>(i,j,d,rfl,al,ht,T,N))) λus s1 (vs,y,v,r,i,j,d,ev,al,ht,T,N)=>(v.gq,?_)) z R) qc);subst ev;let(u,eu,ru):=Bq r;subst eu;obtain rfl:u=Value.ref i:=ru;show wpAny_call (codeAny_mono (Wb F M B P hr v.iA (hB s1 [.ref i] v.gq rfl) (w.cells v) (w.kY v) T N (t _ _ _) as aR hk aC (Q i j) (ar y al ht)) λr l C=>?_);cases r with
 |error e=>show False.elim C
 |ok fl=>
  cases fl with
  |ret u=>show v.after C
  |next=>show False.elim C
  |brk=>show False.elim C
  |cont=>show False.elim C
structure YT(P:Program)(w:World)(K:FG)(mg:SV)(base:Heap)(cM:l7):Prop where
 cls:mg "MarkError"=U (.ref cM)
 ga:W.specialIn K (.ref cM) nA=U (U (.builtin oH))
 rd:W.readsIn K cM (.type qE)=L
 fn:∃f fd,W.findCls K (.ref cM) (.type qE) lU=U (.val (.ref f))/\AT P w K mg base eK 1 f fd [lH,pV] (spErrInit K)/\W.keepIn K (.ref f)=L/\Binds K fd [lH,pV] []
inductive spRestInit(b:FG)(f:l7)(vs:ly)(H:Hp)(Q:VK)(g:XK):Prop
 |mk (e C) (n) (h:vs=[.ref e,.int n]) (i:n.69<1920) (l:BE b C=L) (j:H e=U (Fl e C J)) (o:NX b C f nk) (m:∀d,H d=J->d≠e->Q .eJ (upd (upd H e (Fl e C (U d))) d (.xd [(nk,(.int n))])))
theorem Pj:AH [lH,nk] [lH,nk] (defScope EO):=fG
theorem OC(F:eP b lU "BadRest.__init__" EO f m)(a:YT P w b y base g):AT P w b y base eK 2 f m [lH,nk] (spRestInit b g):=by
 let(x,v,o,j,l,q):=a.fn;show F.m Pj λvs H Q E h=>?_;let(e,C,n,rfl,r,u,i,S,k):=h;show(Y,λt A d s p=>?_);show(_,AC (Ae (Jh Y a.78 a.ga a.rd o j p l q .nil Af (AA (Z 0) (fy (QK (_) (Z 1)))))) (AB (QJ (M:=g) (Z 0) (Z 1) Y)),(7,7,.inl (n,Y,r),λz=>(e,C,J,z,Y,u,i,?_)));show(7,7,e,C,Y,i,S,k)
def la(H:Hp)(E:XK)(b:l7)(n:Int):Prop:=∀e d f,dH H f->H e=J->H d=J->d≠e->f e=U (G5 e b (U d))->f d=U (.xd [(nk,(.int n))])->E (.ref b) (U d) f
structure Pk(P:Program)(w:World)(K:FG)(mg:SV)(base:Heap)(cM cR:l7):Prop where
 cls:mg ny=U (.ref cR)
 make:∃f fd,MkX K cR f/\AT P w K mg base eK 2 f fd [lH,nk] (spRestInit K cM)/\Binds K fd [lH,nk] []
 st:NX K cR cM nk
theorem LS{n}(t:BE m g=L)(S:NX m g s nk)(q:n.69<1920)(l:dH H f)(h:la H E g n)(ht:te σ f=λQ=>Q (.int n) f):
  IC g (IB g (spRestInit m s) [] E0 (An te Ce)) E D σ f:=by
 change te σ f _;rw[ht];show((_),λa p=>(a,g,n,Y,q,t,dG,S,λd r i=>(Y,a,U d,Y,?_,?_)))
 ·rw[AE (Ne.symm i),dG]
 ·have j:f d=J:=by rwa[AE i]at r
  show h a d _ (λb u e=>?_) (none_of l p) (none_of l j) i dG ?_
  ·have o:=l _ _ e;let nb:=AK o p
   rwa[AE nb,AE (AK o j),AE nb,AE nb]
  ·rw[AE i,dG]
noncomputable def plain(i:Int):Nat:=if 0<=i then i.32 else (-i-1).32
def AW(due:Aa)(i:Int):Nat:=plain i-(plain i&&&kn due)
theorem Ij(i):(plain i)=if 0<=i then i else -i-1:=by
 unfold plain
 grind
theorem Up{i}(d:-1099511627776<=i)(a:i<1099511627776):plain i<2^40:=by
 unfold plain;split<;>lia
theorem LU{n:Nat}(h:n<2^40):((n:Int)).69<1920:=by
 rw[Int.natAbs_natCast];let z||z:=Nat.eq_zero_or_pos n
 ·ext
 ·have:=(Nat.log2_lt ()).53 h
  lia
inductive spMade(C b d:l7)(vs:ly)(H:Hp)(Q:VK)(E:XK):Prop
 |mk (kp) (due) (r) (i) (g:vs=[.ref kp,.int i]) (h:eR C H kp due r) (l:kn due<2^20) (j:0<=i) (o:i<1099511627776) (m:((AW due i≠0/\r=o7 /\ la H E d (AW due i)) \/    (¬ (AW due i≠0/\r=o7)/\AW due i≠0/\r=oX /\ ∀f,dH H f->Q (.int i) f) \/    (¬ (AW due i≠0/\r=o7)/\¬ (AW due i≠0/\r=oX)/\∀q f,dH H f->gd b f q kp (if r=n6 then plain i else plain i-AW due i)->Q (.ref q) f)))
theorem scMade:AH [lN,lO,nk,oz] [lN,lO] (defScope QP):=fG
theorem We(F:eP b "made" "made" QP f fd)(hL:d "LIMIT"=U (.int 1099511627776 tL))(T:Fm b C)(VO:I0 P w b d base C g)(j:Pk P w b d base cM cR)
  (GW:Fn P w b d base oU 1 [lM] spIsWhole) (GR:Fn P w b d base pO 3 [lN,lO] (spRestOf C)) (aM:Mt P w b d base C oz 1 [lH] (spRest C)):
  AT P w b d base (gO P w) 6 f fd [lN,lO] (spMade C g cR):=by
 let(fE,dE,GE,mE,bE):=aM.ex;let(fI,dI,MI,GI,bI):=VO.make;let(fX,dX,MX,GX,bX):=j.make;let mV:=VO.78;let mB:=j.78;show F.n scMade λvs H aR al h=>?_;let(kp,due,r,i,rfl,KA,hk20,hi1,jU,h):=h;show(Y,λdc ag az aC hr=>?_);let G:eB 1 _:=hr.51 qc;let as:eB 3 _:=hr.51 qc;let rz:=G7 (P:=P) (w:=w) (ω:=b) (mg:=d) (base:=base) (N:=[lN,lO,nk,oz]) (qual:="made") (scope:=defScope QP) (f:=f) (cd:=dc) (A:=ag) (outer:=az) (s:=aC) (H:=H) (E:=al);let(dxk,d1,d2,dj):=KA.ins
 show(_,AC (AV (PW.pt (B8 (Ao (Ai (fP GW G (fy (Z 1))))) (Bc (Ao (Ex Eu Fp (DB C7 (BA (v:=.int 1099511627776) Y hL (tL,Y))) (Z 1) (BA (v:=.int 1099511627776) Y hL (tL,Y))))))) (AB AY) AM)
  (At (A6 2 scMade.nd (Bi (AJ Mz (Z 1) AF (AN _)) (Z 1) (AX Cm (DB C7 (Z 1)) AF)))
  (AC (A6 3 scMade.nd (fP GR as (AA (Z 0) (fy (Z 2)))))
  (At (AV (PW.pt (Ci (AJ Dg (Z 3) AF (AN _)) (Bv (AJ Aq (Bj (Z 0) T.cl mE GE G bE .nil Af) AL (AN _))))) (AB (E8 rz rfl MX.78 (E7 MX GX as rfl mB bX .nil Af (fy (Z 3))))) AM)
  (AC (AV (AJ Fp (Z 1) AF (AN _)) (AB AY) AM)
  (At (AV (PW.pt (Ci (AJ Dg (Z 3) AF (AN _)) (Bv (AJ Aq (Bj (Z 0) T.cl mE GE G bE .nil Af) AL (AN _))))) (AB (AI (Z 1))) AM)
  (AB (AI (Dh MI GI hr rfl mV bI .nil Af (AA (Z 0) (fy (Bi (AJ Aq (Bj (Z 0) T.cl mE GE G bE .nil Af) AL (AN _)) (Z 2) (AX Cm (Z 2) (Z 3))))))))))))),?_)
 let I:(N4 d1 d2 r).8 (oz:Str)=J:=(Cb _ _ _);show(7,i,Y,7,?_);show AU (7,7,_,7,Y,7,?_);rw[zH ()];apply Ag;show(_,7,Y,7,?_);rw[zH (jU)];apply AU;show(λp M=>p=[U (.ref kp),U (.int i),U (.int (plain i)),J]/\M=H,λR o=>?_,?_)
 ·show(7,_,7,Y,7,?_);let e:=Ij i;rw[zf hi1]at e;rw[zH (hi1)];show Ag (7,o _ _ (?_,Y));rw[e];rfl
 rintro p H0 ⟨rfl,rfl⟩;show(7,7,kp,due,r,plain i,Y,KA,λM B=>?_);let ar:=Up () jU;let u:=KA.25 B;let D:=B _ _ dj;let S:∀n:Nat,decide (V.int (n:Int)=V.int 0)=decide (n=0):=λn=>decide_eq_decide.53 (λz=>by ext,λz=>by rw[z];rfl);show(λp N=>C₃ (¬ (AW due i≠0/\r=o7)) (p=[U (.ref kp),U (.int i),U (.int (plain i)),U (.int (AW due i))]) (N=M),λR o=>?_,?_)
 ·show(7,Y,7,?_);change if (!decide (V.int ((AW due i:Nat))=V.int 0))=ii then _ else _
  rw[S];by_cases l:AW due i=0
  ·rw[zH l];show AU (AU (o _ _ (λz=>z.1 l,Y,Y)))
  ·rw[zK l];apply Ag;show(7,kp,dxk,7,D,I,kp,due,r,Y,u,Y,7,?_);by_cases y:r=o7
   ·rw[zH (by rw[y])];show Ag ?_;let(_,_,hU)||(A,_)||(A,_):=h
    ·show LS MX.78 j.st (LU (Nat.lt_of_le_of_lt (Nat.sub_le _ _) ar)) B hU (by funext Q';show propext (λ a1=>by let(v,e,q):=a1;cases e;show q,λq=>(7,q)))
    ·show absurd (l,y) A
    ·show absurd (l,y) A
   ·rw[zK (λz=>y (V.str.inj z))];show AU (o _ _ (λz=>y z.2,Y,Y))
 rintro p N ⟨a0,rfl,rfl⟩;show(_,rfl,_,_,rfl,rfl,_,rfl,?_);let(z1,z2,_)||(_,hs0,hlv,k)||(_,hnl,k):=h
 ·show absurd (z1,z2) a0
 ·rw[zK ()];apply AU;show(λ_ _=>False,λR o=>(7,Y,7,?_),λ_ _ z=>z.40);rw[S,zK hs0];apply Ag;show(7,kp,dxk,7,D,I,kp,due,r,Y,u,Y,7,?_);rw[zH (by rw[hlv])];show Ag (7,k _ B)
 ·rw[zK ()];apply AU;show(λp s=>p=[U (.ref kp),U (.int i),U (.int (plain i)),U (.int (AW due i))]/\s=N,λR o=>?_,?_)
  ·show(7,Y,7,?_);rw[S];by_cases l:AW due i=0
   ·rw[zH l];show AU (AU (o _ _ (Y,Y)))
   ·rw[zK l];show Ag (7,kp,dxk,7,D,I,kp,due,r,Y,u,Y,7,?_);rw[zK (λz=>hnl (l,V.str.inj z))];show AU (o _ _ (Y,Y))
  rintro p s ⟨rfl,rfl⟩;show(7,7,kp,dxk,7,D,I,kp,due,r,Y,u,Y,7,?_)
  let an:∀n:Nat,n=(if r=n6 then plain i else plain i-AW due i)->n<2^40->(r=n6 \/ n-(n&&&kn due)=0)->∀q m,s q=J->s m=J->m≠q->spVInit C g [.ref q,.ref kp,.int (n:Int)] (upd (upd s m (.own q)) q (.ins g m [])) (λv Q=>v=.eJ/\aR (.ref q) Q) E0:=λn en A hk q m E ab X=>by
   let sN:=Bn (D:=g) E ab X;show(q,m,kp,due,r,n,Y,dG,u.25 sN,A,hk,λQ s4 hV=>(Y,k q Q (B.7 (BQ sN E s4)) (en ▸ hV)))
  by_cases ft:r=n6
  ·rw[zH (by rw[ft])];show Ag (7,an (plain i) (_) ar (.inl ft))
  ·rw[zK (λz=>ft (V.str.inj z))];show AU (7,7,_,7,Y,?_);let a4:AW due i<=plain i:=Nat.sub_le _ _;let es:((plain i):Int)-((AW due i:Nat))=((plain i-AW due i:Nat)):=by lia
   let ek:plain i-AW due i=plain i&&&kn due:=by
    unfold AW;have:=Nat.and_le_left (n:=plain i) (m:=kn due)
    lia
   intro q m E ab X;have:=an (plain i-AW due i) (_) () (.inr (_)) q m E ab X
   rwa[←es]at this
theorem BZ{x y x' y'}(h:H d=U (.lst [.int x,.int y])):eE d H (upd H d (.lst [.int x',.int y'])):=(λb o e a=>by rw[AE a];show e,(x',y',dG))
inductive spLMade(vs:ly)(H:Hp)(Q:VK)(b:XK):Prop
 |mk (t e m) (due) (r) (i) (d:vs=[.ref t,.str r,.int i]) (f:H t=U (.dK (Ue due e m))) (h:0<=i) (g:((AW due i≠0/\r=o7 /\ ∀p,H p=J->Q (.ref p) (upd H p (.tup [.str lR,.str ny,.int (AW due i)]))) \/    (¬ (AW due i≠0/\r=o7)/\AW due i≠0/\r=oX /\ ∀p,H p=J->Q (.ref p) (upd H p (.tup [.str "left",.int i]))) \/    (¬ (AW due i≠0/\r=o7)/\¬ (AW due i≠0/\r=oX)/\Q (.int ((if r=n6 then plain i else plain i-AW due i:Nat):Int)) H)))
theorem scLMade:AH [mf,m9,lV,"_law_plain","_law_strange"] [mf,m9,lV] (defScope J0):=fG
theorem Ur(F:eP g qr qr J0 f b):AT P an g mg base eK 1 f b [mf,m9,lV] spLMade:=by
 show F.m scLMade λvs H Q E h=>?_;let(t,e,m,a,r,i,rfl,ht,u,h):=h;show(Y,λag A ab al T=>?_);let s:=CK T
 show(_,At (A6 3 scLMade.nd (Bi (AJ Mz (Z 2) AF (AN _)) (Z 2) (AX Cm (AX Cm AF (Z 2)) AF)))
  (AC (A6 4 scLMade.nd (AX Cm (Z 3) (AX Cn (Z 3) (Au s (Z 0) AL))))
  (At (AV (PW.pt (Ci (AJ Iu (Z 4) AF (AN _)) (Bv (AJ Aq (Z 1) AL (AN _))))) (AB (AI (AZ (AA AL (AA AL (fy (Z 4))))))) AM)
  (AC (AV (AJ Fp (Z 2) AF (AN _)) (AB AY) AM)
  (At (AV (PW.pt (Ci (AJ Iu (Z 4) AF (AN _)) (Bv (AJ Aq (Z 1) AL (AN _))))) (AB (AI (AZ (AA AL (fy (Z 2)))))) AM)
  (AB (AI (Bi (AJ Aq (Z 1) AL (AN _)) (Z 2) (AX Cn (Z 2) (Au s (Z 0) AL))))))))),?_)
 show(λq w=>q=[gl (.ref t),gl (.str r),gl (.int i),gl (.int (plain i)),J]/\w=H,λR p=>?_,?_)
 ·show(7,_,7,Y,7,?_);let e:=Ij i;rw[zf u]at e;rw[zH (u)];show Ag (7,p _ _ (?_,Y));rw[e];rfl
 rintro q B ⟨rfl,rfl⟩;show(7,7,7,t,7,.inl (_,Sum.inr nG,.inl ht,Y,(Cu _ _ _).35),_,7,Y,_,7,Y,?_)
 let M:(λi j=>V.int (i-j)) ((plain i:Nat)) (Builtin.bitAnd ((plain i:Nat)) ((Ah (a.5 (·.2)):Nat)))=V.int ((AW a i:Nat)):=by
  change V.int (((plain i:Nat))-Builtin.bitAnd ((plain i:Nat)) ((Ah (a.5 (·.2)):Nat)))=_;have:=Nat.and_le_left (n:=plain i) (m:=kn a);unfold AW;congr 1;change(plain i:Int)-((plain i&&&kn a:Nat))=_
  lia
 let y:∀n:Nat,decide (0<(n:Int))=!decide (n=0):=λn=>by
  grind
 show(λq v=>C₃ (¬ (AW a i≠0/\r=o7)) (q=[gl (.ref t),gl (.str r),gl (.int i),gl (.int (plain i)),gl (.int (AW a i))]) (v=B),λR p=>?_,?_)
 ·show(_,congrArg (λz=>gl (gl z)) M,_,7,Y,7,?_);rw[y];by_cases o:AW a i=0
  ·rw[zH o];show AU (AU (p _ _ (λz=>z.1 o,?_,Y)))
   ext
  ·rw[zK o];apply Ag;show(7,Y,7,?_);by_cases l:r=o7
   ·rw[zH (by rw[l])];apply Ag;let(_,_,k)||(I,_)||(I,_):=h
    ·show(_,congrArg (λz=>gl (gl z)) M,jK,k)
    ·show absurd (o,l) I
    ·show absurd (o,l) I
   ·rw[zK (λz=>l (V.str.inj z))];show AU (p _ _ (λz=>l z.2,?_,Y))
    ext
 rintro q v ⟨D,rfl,rfl⟩;show(_,rfl,_,_,rfl,rfl,_,rfl,?_);let(U,O,_)||(_,G,C,k)||(_,x,k):=h
 ·show absurd (U,O) D
 ·rw[zK ()];apply AU;show(λ_ _=>False,λR p=>(7,_,7,Y,7,?_),λ_ _ z=>z.40);rw[y,zK G];apply Ag;show(7,Y,7,?_);rw[zH (by rw[C])];show Ag (7,ig,k)
 ·rw[zK ()];apply AU;show(λq N=>q=[gl (.ref t),gl (.str r),gl (.int i),gl (.int (plain i)),gl (.int (AW a i))]/\N=v,λR p=>?_,?_)
  ·show(7,_,7,Y,7,?_);rw[y];by_cases o:AW a i=0
   ·rw[zH o];show AU (AU (p _ _ (Y,Y)))
   ·rw[zK o];apply Ag;show(7,Y,7,?_);rw[zK (λz=>x (o,V.str.inj z))];show AU (p _ _ (Y,Y))
  rintro q N ⟨rfl,rfl⟩;let ep:=Ij i;rw[zf u]at ep;show(7,Y,7,?_);by_cases d:r=n6
  ·rw[zH (by rw[d])];rw[zf d,ep]at k;show Ag (7,k)
  ·rw[zK (λz=>d (V.str.inj z))];show AU (7,7,t,7,.inl (_,Sum.inr nG,.inl ht,Y,(Cu _ _ _).35),_,7,Y,?_)
   let X:(λi j=>V.int (Builtin.bitAnd i j)) i ((Ah (a.5 (·.2)):Nat))=V.int ((plain i-AW a i:Nat)):=by
    change V.int (Builtin.bitAnd i ((Ah (a.5 (·.2)):Nat)))=_;let S:Builtin.bitAnd i ((Ah (a.5 (·.2)):Nat))=Builtin.bitAnd ((plain i:Nat)) ((Ah (a.5 (·.2)):Nat)):=by rw[ep]
    rw[S];have:=Nat.and_le_left (n:=plain i) (m:=kn a);unfold AW;congr 1;change((plain i&&&kn a):Int)=_
    lia
   rwa[zg d,←X]at k
noncomputable def okN(i:Int):Bool:=decide (0<=i)&&decide (i<1099511627776)
def Pm:Sp:=λvs H Q _=>∃i,vs=[.int i]/\Q (.bl (okN i)) H
theorem Qc(F:eP d ow ow Fe f j)(l:b "LIMIT"=U (.int 1099511627776 m))(g:Fn P w d b base oU 1 [lM] spIsWhole):AT P w d b base eK 2 f j [lM] Pm:=by
 show F.m Ph λvs H Q E h=>?_;let(i,rfl,k):=h;show(Y,λq A r s p=>?_);show(_,AB (AI (CI (fP g p (fy (Z 0))) (Cj (Ew Eu Fp AF (Z 0) (BA (v:=.int 1099511627776) Y l (m,Y)))))),7,i,Y,7,Ag (7,_,7,Y,7,?_));unfold okN at k;by_cases o:0<=i
 ·rw[zH o]at k ⊢;show Ag (_,7,Y,k)
 ·rw[zK o]at k ⊢;show AU k
theorem Md(F:eP g ow ow Fe f l)(a:b "LIMIT"=U (.int 1099511627776 j))(d:Fn P w g b base oU 1 [lM] spIsWhole):AT P w g b base eK 2 f l [lM] spIsNumber:=XO (Qc F a d) λvs H Q E h=>by
 let(n,e,i,q):=h;show(n,e,?_);unfold okN
 rwa[zH (show(0:Int)<=(n:Int) by lia),zH (show(n:Int)<1099511627776 by lia)]
end
end Mk
namespace Mk
open PySem L2 MK PySem.NumText
mutual
noncomputable def DE(c:Nat):Bool:=decide (48<=c)&&decide (c<=57)
noncomputable def Dc(c:Nat):Bool:=decide (97<=c)&&decide (c<=122)
theorem Ik(lo a)(x y:Str)(j:x.6=[lo])(i:y.6=[a])(c):(if (!decide ((⟨#[c]⟩:Str).6<x.6))=L then (!decide (y.6<(⟨#[c]⟩:Str).6))else O)=(decide (lo<=c)&&decide (c<=a)):=by
 rw[j,i]
 let d:decide ([c]<[lo])=decide (c<lo):=by
  rw[Bool.eq_iff_iff,decide_eq_true_eq,cons_lt_cons_iff];simp
 let e:decide ([a]<[c])=decide (a<c):=by
  rw[Bool.eq_iff_iff,decide_eq_true_eq,cons_lt_cons_iff];simp
 rw[d,e];by_cases l:c<lo<;>by_cases h:a<c<;>simp[h]<;>lia
def Me(x:Str):Bool:=x.36 DE&&(decide (x="0")||(!decide (x.cps.toList.head?=U 48)&&decide (digitsVal x.6<1099511627776)))
def Ba(x:Str):Bool:=match x.6 with| [c]=>Dc c|_=>O
inductive spFig(vs:ly)(H:Hp)(Q:VK)(b:XK):Prop
 |mk (x) (f:vs=[.str x]) (g:x.31 (· < 128)=L) (i:0<x.3) (h:x.3<=200) (j:∀d,dH H d->Q (.bl (Me x)) d)
theorem Zc:AH [ml] [ml] (defScope Gf):=fG
theorem YU(F:eP g pW pW Gf f l)(B:Bl d)(j:Fn P w g d base ow 2 [lM] Pm):AT P w g d base eK 3 f l [ml] spFig:=by
 show F.m Zc λvs H Q E h=>?_;let(x,rfl,ha,h0,h60,k):=h;show(Y,λT A al an R=>?_)
 show(_,AC (AV (PW.pt (B8 (AJ Aq (AS A7 Y B.61 PySem.boot_len (AA (Z 0) AG)) AF (AN _)) (Bc (Ao (Ai (AS (D3 Y) Y B.all IY (AA (BX [] [] (by rfl) (_) (by rfl) Y (JZ (Z 0)) (λ_ _ _ _ _ _=>BJ) (λ_ _ _ _ _ _=>Ew CM CM AL (Z 0) AL)) AG))))))) (AB (AI Cf)) AM)
  (AC (AV (AJ Aq (Am Lo (Z 0) AF (λ_ _=>rfl)) AL (AN _)) (AB (AI (CG Aq (Z 0) AL (AN _)))) AM)
  (AB (AI (fP j R (AA (Ay CB rfl B.int Ea (AA (Z 0) AG)) AG))))),?_)
 show(7,x,Y,Nat.le_of_lt (AR ()),Y,7,?_);rw[zK (λz=>by ext)];apply AU;let ab:x.cps.58=x.3:=by rw[Array.length_toList];rfl
 show(7,x,Y,ha,HK (λi r m=>m=H/\r=(x.57 i).5 λc=>V.bl (DE c)) (Y,Y) (λi r m (_,e)=>?_) ?_ ?_)
 ·grind
 ·rintro i c r m D ⟨rfl,rfl⟩;show(7,_,7,Y,7,?_)
  let y:∀b,b=DE c->(m=m/\(x.57 i).5 (λc=>V.bl (DE c))++[V.bl b]=(x.57 (i+1)).5 λc=>V.bl (DE c)):=λb I=>by
   show(Y,?_);let S:x.6[i]?=U c:=by rwa[Array.getElem?_toList]
   rw[zw,S,zl,I];rfl
  let q:=Ik 48 57 "0" "9" (by rfl) (by rfl) c;show BN (λu=>?_) (λu=>?_)
  ·rw[zf u]at q;show(_,7,Y,y _ q)
  ·rw[zg u]at q;show y _ q
 rintro r m ⟨rfl,rfl⟩ p N;show(p,x.cps.toList.5 DE,Y,dY.of (by rw[dG,take_of_length_le (_),map_map];rfl),7,?_);rw[show(x.cps.toList.5 DE).all id=x.36 DE by simp_all];let o:=k _ (AD (dH.refl _) N (o:=HO.lst ((x.57 x.77).5 λc=>V.bl (DE c))));unfold Me at o;by_cases C:x.36 DE=L
 ·rw[C]at o ⊢;apply AU
  let(c,s,ec):∃c s,x.6=c::s:=by
   cases e:x.6 with
   |nil=>ext
   |cons c s=>ext
  show(7,x,0,c,Y,Y,Nat.le_of_lt (AR ()),(BW (_)),Y,7,?_);let X:("0":Str).6=[48]:=by decide +kernel
  by_cases v:c=48
  ·subst v;rw[zH (show x.cps.toList.head?=U 48 by ext),Bool.not_true,Bool.false_and,Bool.or_false]at o;show Ag (7,Y,?_)
   rwa[decide_eq_decide.53 (λz=>V.str.inj z,λz=>by rw[z])]
  ·rw[zK (λz=>v (by
    grind))]
   rw[zK (λz=>v (_)),zK (_),Bool.true_and]at o;apply AU
   let hd:=λc D=>by
    have:=all_eq_true.mp C c D;unfold DE at this
    rwa[Bool.and_eq_true,decide_eq_true_eq,decide_eq_true_eq]at this
   show(7,x,7,by lia,intText_digits hd (_) (),(digitsVal x.6),Y,?_)
   let G:okN ((digitsVal x.6:Nat))=decide (digitsVal x.6<1099511627776):=by
    unfold okN;rw[zH (),Bool.true_and];show decide_eq_decide.53 ()
   rwa[G]
 ·have M:x.36 DE=O:=by
   cases e:x.36 DE with
   |true=>trivial
   |false=>rfl
  rw[M]at o ⊢;show Ag o
inductive spLet(vs:ly)(H:Hp)(Q:VK)(b:XK):Prop
 |txt (x) (d:vs=[.str x]) (f:x.3<=200) (g:Q (.bl (Ba x)) H)
theorem Zd:AH [lM] [lM] (defScope IL):=fG
theorem YV(F:eP b oM oM IL f d)(B:Bl g):AT P w b g base eK 1 f d [lM] spLet:=by
 show F.ok Zd (λvs H Q E h=>?_) (λu A z s H vs Q E y h=>?_)
 ·cases h with
  |txt x e _ _=>ext
 ·show(_,AB (AI (CI (Br b rfl rfl B.gZ rfl B.str EZ (Z 0)) (CI (CG Aq (AS A7 rfl B.61 PySem.boot_len (fy (Z 0))) AF (AN _)) (Cj (Ew CM CM AL (Z 0) AL))))),?_);cases h with
  |txt x e v k=>
   subst e;show(7,_,_,_,L,Y,.str x,Y,7,Ag (7,x,Y,Nat.le_of_lt (AR ()),Y,7,?_));let m:x.cps.58=x.3:=by rw[Array.length_toList];rfl
   unfold Ba at k;show BN (λl=>?_) (λl=>?_)
   ·let(c,ec):∃c,x.6=[c]:=by
     let o:x.3=1:=by have:=V.int.inj (zR l);lia
     rw[o]at m;show List.length_eq_one_iff.mp m
    rw[ec]at k;show(7,_,7,Y,7,?_);let j:=Ik 97 122 "a" "z" (by rfl) (by rfl) c;let q:(⟨#[c]⟩:Str).6=x.6:=by rw[ec]
    rw[q]at j;change _=Dc c at j;change Q (V.bl (Dc c)) H at k;rw[←j]at k;show BN (λi=>?_) (λi=>?_)
    ·rw[zf i]at k;show(_,7,Y,k)
    ·rwa[zg i]at k
   ·have p:(match x.6 with| [c]=>Dc c|_=>O)=O:=by
     cases e:x.6 with
     |nil=>rfl
     |cons a r=>
      grind
    rwa[p]at k
theorem A3(x:Str):x.cps.58=x.3:=by rfl
theorem FW(z){a b:Nat}(d:a<=b)(i:b<=z.3):(Txt.slice z (U (a)) (U (b))).6=(z.cps.toList.drop a).20 (b-a):=by
 unfold Txt.slice;split
 ·rename_i h;rw[StrLaws.strSliceIndices_plain d i,AO]at h
  let e:b-a=z.3:=by
   simp at h;show h
  let j:a=0:=by lia
  subst j;rw[List.drop_zero,take_of_length_le (by rw[A3];lia)]
 ·rw[StrLaws.sliced_plain z d i]
def Kd(lt:Bool)(x:Str):Bool:=Ca x||(Me x||(lt&&Ba x))
inductive spPart(vs:ly)(H:Hp)(Q:VK)(b:XK):Prop
 |mk (x) (lt) (f:vs=[.str x,.bl lt]) (g:x.31 (· < 128)=L) (i:0<x.3) (h:x.3<=200) (j:∀d,dH H d->Q (.bl (Kd lt x)) d)
theorem YW:AH [ml,my] [ml,my] (defScope MS):=fG
theorem Wf(F:eP b "is_part" "is_part" MS f m)(r:Fn P w b g base pN 1 [lM] spIsName)(v:Fn P w b g base pW 3 [ml] spFig)(y:Fn P w b g base oM 1 [lM] spLet):AT P w b g base eK 4 f m [ml,my] spPart:=by
 show F.m YW λvs H Q E h=>?_;let(x,lt,rfl,q,t,d,k):=h;show(rfl,λu A j s o=>?_);let a:eB 1 _:=o.51 qc;show(_,AB (AI (XB (fP r a (fy (Z 0))) (XB (fP v o (fy (Z 0))) (Cj (CI (Z 1) (Cj (fP y a (fy (Z 0))))))))),(_,rfl,x,rfl,q,by lia,λC e=>(_,rfl,?_)));unfold Kd at k;cases p:Ca x with
 |true=>
  rw[p]at k;show Ag (k _ e)
 |false=>
  rw[p]at k;show AU (_,rfl,x,rfl,q,t,d,λz i=>(_,rfl,?_));cases l:Me x with
  |true=>
   rw[l]at k;show Ag (k _ (e.7 i))
  |false=>
   rw[l]at k;show AU (_,rfl,_,rfl,?_);cases lt with
   |true=>show Ag (_,rfl,.txt x rfl d (k _ (e.7 i)))
   |false=>show AU (k _ (e.7 i))
structure Sc(lt:Bool)(z:Str)(a n:Nat):Prop where
 le:a+n<=z.3
 ok:∀k,0<k->k<=n->Kd lt (Txt.slice z (U (a)) (U ((a+k:Nat):Int)))=L
 no:a+n<z.3->Kd lt (Txt.slice z (U (a)) (U ((a+n+1:Nat):Int)))=O
theorem Sd{z:Str}{a b}(d:a<=b)(e:b<=z.3)(h:z.31 (· < 128)=L):(Txt.slice z (U (a:Int)) (U (b:Int))).31 (· < 128)=L:=by
 rw[←Array.all_toList]at h ⊢;rw[FW z d e]
 grind
theorem Se{z}{a b:Nat}(d:a<=b)(e:b<=z.3):(Txt.slice z (U (a)) (U (b))).3=b-a:=by
 rw[←A3,FW z d e,zr,List.length_drop,A3]
 lia
inductive spPE(vs:ly)(H:Hp)(Q:VK)(b:XK):Prop
 |mk (z) (a n:Nat) (lt) (f:vs=[.str z,.int (a),.bl lt]) (g:z.31 (· < 128)=L) (i:z.3<=200) (h:Sc lt z a n) (j:∀d,dH H d->Q (.int ((a+n:Nat):Int)) d)
theorem scPE:AH [ml,"at",my,"end"] [ml,"at",my] (defScope Ju):=fG
theorem Wg(F:eP S "part_end" "part_end" Ju f T)(B:Bl R)(r:Fn P w S R base "is_part" 4 [ml,my] spPart):AT P w S R base eK 5 f T [ml,"at",my] spPE:=by
 show F.m scPE λvs H Q E h=>?_;let(z,a,n,lt,rfl,I,x,PA,q):=h;show(Y,λC A l s t=>?_)
 show(_,AC (A6 3 scPE.nd (Z 1))
  (AC (Gr PassesOwn.never (PW.pt (Ci (AJ Fp (Z 3) (AS A7 rfl B.61 PySem.boot_len (fy (Z 0))) (AN _)) (Bv (Ai (fP r t (AA (Ey Ji (Z 0) (D9 (Z 1)) (D9 (AX CQ (Z 3) AF))) (fy (Z 2)))))))) (AB (OX (i:=3) scPE.nd rfl (Or.inl rfl) AF P1)))
  (AB (AI (Z 3)))),?_)
 show(7,λm d o=>∃k,C₄ (d=[U (.str z),U (.int a),U (.bl lt),U (.int ((a+k:Nat)))]) (dH H o) (k<=n) (m=n-k),(n,0,Y,dH.refl _,Nat.zero_le _,Y),?_);rintro m d o ⟨k,rfl,j,ag,rfl⟩;let u:=PA.le;show(7,7,z,Y,Nat.le_of_lt (AR ()),_,7,Y,7,?_);by_cases X:a+k<z.3
 ·rw[zH ()];apply Ag;show(7,7,a,Y,7,_,7,Y,((a+k+1:Nat)),congrArg V.int (),z,Y,Nat.le_of_lt (AR ()),7,?_);let M:=Se (z:=z) (a:=a) (b:=a+k+1) () ();show(_,lt,Y,Sd (a:=a) (b:=a+k+1) () () I,by lia,by lia,λN p=>(7,?_));by_cases v:k<n
  ·have ok:=PA.ok (k+1) () ();rw[show a+(k+1)=a+k+1 by lia]at ok;rw[ok];show Ag (λd D=>d=[U (.str z),U (.int a),U (.bl lt),U (.int ((a+(k+1):Nat)))]/\dH H D,λG ab g=>by let(e,y):=g;show (n-(k+1),by lia,k+1,e,y,by lia,Y),(7,_,7,Y,?_,j.7 p));rfl
  ·have e:k=n:=by lia
   subst e;rw[PA.no X];show AU (7,q _ (j.7 p))
 ·rw[zK ()];let e:k=n:=by lia
  subst e;show AU (AU (7,q _ j))
structure Ke(K:FG)(DC:l7):Prop where
 cl:iQ K DC
 nS:gf K DC nH
 nW:gf K DC pb
 nP:gf K DC oN
def jZ(b d:l7)(f:Bool):List (Str×V):=BH oN (.bl f) (BH pb (.ref d) (BH nH (.ref b) []))
theorem Us(b a)(d):(jZ b a d).8 (nH:Str)=U (.ref b):=by
 rfl
theorem HX(b a)(d):(jZ b a d).8 (pb:Str)=U (.ref a):=by
 rfl
theorem LV(d a)(b):(jZ d a b).8 (oN:Str)=U (.bl b):=by
 rfl
theorem Eg(b e)(f){m:Str}(h:¬ m=nH:=by decide +kernel)(d:¬ m=pb:=by decide +kernel)(a:¬ m=oN:=by decide +kernel):(jZ b e f).8 m=J:=by
 unfold jZ;rw[Aw,zg a,Aw,zg d,Aw,zg h];rfl
structure gc(DC:l7)(H:Hp)(p ls lw:l7)(ss ws:lr)(wp:Bool):Prop where
 ex:∃dx,H p=U (.ins DC dx (jZ ls lw wp))
 hs:H ls=U (.lst (ss.5 V.str))
 hw:H lw=U (.lst (ws.5 V.str))
 ne:ls≠lw
def jh(p f g:l7)(H d:Hp):Prop:=∀b o,H b=U o->b≠p->b≠f->b≠g->d b=U o
theorem jh.refl(p b a)(H):jh p b a H H:=λ_ _ e _ _ _=>e
theorem gc.np(h:gc g H p b f j m l):b≠p/\f≠p:=by
 let(e,a):=h.ex;let i:=h.hs;let d:=h.hw;show(λz=>(_),λz=>(_))
theorem gc.steps(a)(h:gc f H p b g l j i):gc f (upd H b (.lst (a.5 V.str))) p b g a j i:=by
 let(e,d):=h.ex;show((e,by rw[AE (Ne.symm h.np.1)];show d),dG,by rw[AE (Ne.symm h.ne)];show h.hw,h.ne)
theorem gc.waits(a)(h:gc f H p g b i l j):gc f (upd H b (.lst (a.5 V.str))) p g b i a j:=by
 let(e,d):=h.ex;show((e,by rw[AE (Ne.symm h.np.2)];show d),by rw[AE h.ne];show h.hs,dG,h.ne)
theorem gc.wants(b)(h:gc d H p f g j l m):gc d (upd H p (.ins d i (jZ f g b))) p f g j l b:=
 ((i,dG),by rw[AE h.np.1];show h.hs,by rw[AE h.np.2];show h.hw,h.ne)
theorem Qd(b a)(f):(jZ b a f).3<1000:=by
 let i:=Ax oN (.bl f) (BH pb (.ref a) (BH nH (.ref b) []));let e:=Ax pb (.ref a) (BH nH (.ref b) []);let d:=Ax nH (.ref b) [];let h:([]:List (Str×V)).3=0:=rfl;unfold jZ
 lia
inductive spTP(b:l7)(vs:ly)(H:Hp)(Q:VK)(d:XK):Prop
 |mk (p ls lw) (ss ws) (wp) (x) (g:vs=[.ref p,.str x]) (h:gc b H p ls lw ss ws wp) (j:ss.3<=400) (i:∀f,jh p ls lw H f->gc b f p ls lw (ss++[x]) ws O->Q .eJ f)
theorem b8:AH [lH,pY] [lH,pY] (defScope Cr):=fG
theorem Ze(F:eP m "take_part" "Reading.take_part" Cr f B)(a:Ke m g):AT P w m M base eK 1 f B [lH,pY] (spTP g):=by
 show F.m b8 λvs H Q E h=>?_;let(p,z,G,u,I,wp,x,rfl,R,i,q):=h;show(Y,λv A d s D=>?_);let(j,r):=id R.ex;show(_,AC (Ae (Bg (Ad (Z 0) Y) (fy (Z 1)))) (AB (CS (Z 0) Cf Y)),(7,p,g,j,_,7,r,a.cl,a.nS,Us _ _ _,.inl (Y,_,dY.of R.hs),7,z,_,7,Y,R.hs,AR (_),?_));let l:=R.steps (u++[x]);rw[zl]at l;show(7,p,g,j,7,by rwa[AE (Ne.symm R.np.1)],a.cl,a.nP,Qd _ _ _,q _ (λb o e t y C=>by rwa[AE t,AE y]) (l.wants O))
inductive spRd0(d:l7)(vs:ly)(H:Hp)(Q:VK)(f:XK):Prop
 |mk (p dx) (j:vs=[.ref p]) (l:H p=U (.ins d dx [])) (m:∀h i g,(∀b o,H b=U o->b≠p->g b=U o)->H h=J->H i=J->gc d g p h i [] [] L->Q .eJ g)
theorem Zf:AH [lH] [lH] (defScope ET):=fG
theorem YX(F:eP m lU "Reading.__init__" ET f B)(u:Ke m g):AT P w m M base eK 1 f B [lH] (spRd0 g):=by
 show F.m Zf λvs H Q E h=>?_;let(p,x,rfl,G,q):=h;show(Y,λI A C s N=>?_);show(_,AC (CS (Z 0) (A4 AG) Y) (AC (CS (Z 0) (A4 AG) Y) (AB (CS (Z 0) Cf Y))),((_),λD r=>?_));let i:=AK G r;show(7,p,g,x,7,by rw[AE i];show G,u.cl,u.nS,(_),((_),λv t=>?_));let d:p≠v:=λz=>by rw[←z,dG]at t;cases t
 let a:(upd H D (.lst [])) v=J:=by rwa[AE (Ne.symm d)]at t
 let l:D≠v:=λz=>by rw[←z,dG]at a;cases a
 let j:H v=J:=by rwa[AE (Ne.symm l)]at a
 show(7,p,g,x,7,by rw[AE d,dG],u.cl,u.nW,Nat.lt_of_le_of_lt (Ax _ _ _) (_),(7,p,g,x,7,dG,u.cl,u.nP,Nat.lt_of_le_of_lt (Nat.le_trans (Ax _ _ _) (Nat.succ_le_succ (Ax _ _ _))) (_),?_));show q D v _ (λb o e y=>?_) r j ((x,dG),?_,?_,l)
 ·rwa[AE y,AE y,AE (AK e j),AE y,AE (AK e r)]
 ·rw[AE (Ne.symm i),AE (Ne.symm i),AE l,AE (Ne.symm i),dG];rfl
 ·rw[AE (Ne.symm d),AE (Ne.symm d),dG];rfl
noncomputable abbrev sl(z:Str)(a b:Nat):Str:=Txt.slice z (U (a:Int)) (U (b:Int))
inductive Sg|br|or|xo|an|no
deriving DecidableEq
noncomputable def Sg.s:Sg->Str|.br=>"(" |.or=>"|" |.xo=>"^" |.an=>"&" |.no=>"~"
noncomputable def Sg.b:Sg->Nat|.br=>0|.or=>1|.xo=>2|.an=>3|.no=>4
noncomputable def Sg.c:Sg->Nat|.br=>40|.or=>124|.xo=>94|.an=>38|.no=>126
def Sg.gK:Sg->Prop|.or=>True|.xo=>True|.an=>True|_=>False
noncomputable abbrev gp(W:List Sg):lr:=W.map Sg.s
noncomputable def Pn(W:List Sg):Nat:=match W.getLast? with|some s=>s.b|none=>0
inductive Rn(lt:Bool)(z:Str)(o:lr):Nat->lr->List Sg->Bool->Prop
 |done (S) (Q) (h:∀q∈Q,1<=q.b) (e:o=S++(gp Q).50):Rn lt z o z.3 S Q O
 |blank (a) (S) (W) (wp) (h:z.6[a]?=U 32) (r:Rn lt z o (a+1) S W wp):Rn lt z o a S W wp
 |part (a n) (S) (W) (h:Sc lt z a n) (f:0<n) (r:Rn lt z o (a+n) (S++[sl z a (a+n)]) W O):Rn lt z o a S W L
 |ahead (a) (S) (W) (g) (b:g=.no\/g=.br) (h:z.6[a]?=U g.c) (r:Rn lt z o (a+1) S (W++[g]) L):Rn lt z o a S W L
 |join (a) (S) (W Q) (g) (b:g.gK) (h:z.6[a]?=U g.c) (d:∀q∈Q,g.b<=q.b) (i:Pn W<g.b) (r:Rn lt z o (a+1) (S++(gp Q).50) (W++[g]) L):Rn lt z o a S (W++Q) O
 |close (a) (S) (W Q) (h:z.6[a]?=U 41) (d:∀q∈Q,1<=q.b) (r:Rn lt z o (a+1) (S++(gp Q).50) W O):Rn lt z o a S ((W++[.br])++Q) O
inductive Tr
 |wd (x:Str)
 |ng (t:Tr)
 |bn (g:Sg) (a b:Tr)
noncomputable def Tr.post:Tr->lr
 |.wd x=>[x]
 |.ng t=>t.71++[("~":Str)]
 |.bn g a b=>a.71++b.71++[g.s]
abbrev Bk(u:List Nat):Prop:=u=[]\/u=[32]
structure lj(lt:Bool)(w:List Nat):Prop where
 ne:0<w.3
 ok:∀k,0<k->k<=w.3->∀x,x.6=w.20 k->Kd lt x=L
inductive Wr(lt:Bool):Tr->Nat->List Nat->Prop
 |wd (x) (r) (bl) (d:Bk bl) (h:lj lt x.6):Wr lt (.wd x) r (bl++x.6)
 |ng (t) (r) (u) (f:r<=3) (h:Wr lt t 3 u):Wr lt (.ng t) r (126::u)
 |bn (g) (a b) (r) (u v bl) (j:g.gK) (f:r+1<=g.b) (d:Bk bl) (i:Wr lt a (g.b-1) u) (l:Wr lt b g.b v):Wr lt (.bn g a b) r (u++(bl++(g.c::v)))
 |br (t) (r) (u bl) (d:Bk bl) (h:Wr lt t 0 u):Wr lt t r (bl++(40::(u++[41])))
def Sep(u:List Nat):Prop:=∀c,u.head?=U c->De c=O/\DE c=O
theorem Ut(d:De c=O/\DE c=O)(h:x.6=w++[c])(b:w≠ []\/Dc c=O):Kd lt x=O:=by
 let j:Ca x=O:=by
  unfold Ca
  have:x.36 De=O:=by
   rw[h];simp[d.1]
  rw[this,Bool.and_false]
 let i:Me x=O:=by
  unfold Me
  have:x.36 DE=O:=by
   rw[h];simp[d.2]
  rw[this,Bool.false_and]
 let e:Ba x=O:=by
  unfold Ba;rw[h];cases w with
  |nil=>ext
  |cons a r=>simp
 unfold Kd;rw[j,i,e];cases lt<;>rfl
theorem Dj{x y:Str}(h:x.6=y.6):x=y:=by
 cases x with
 |mk a=>ext
theorem Zg(f:z.6=pre++(w++post))(b:lj lt w)(e:Sep post):Sc lt z pre.3 w.3/\sl z pre.3 (pre.3+w.3)=⟨w.11⟩:=by
 let d:z.3=pre.3+(w.3+post.3):=by rw[←A3,f,zY,zY]
 let j:∀k,k<=w.3+post.3->(sl z pre.3 (pre.3+k)).6=(w++post).20 k:=λk a=>by
  rw[FW z () (),f,List.drop_left,Nat.add_sub_cancel_left]
 show((by lia,λk h a=>?_,λi=>?_),?_)
 ·apply b.ok k h a _
  grind
 ·cases post with
  |nil=>ext
  |cons c r=>
   show Ut (w:=w) (e c Y) ?_ (.inl λz=>by have:=b.ne;rw[z]at this;show absurd this qc);have:=j (w.3+1) (_);rw[show pre.3+w.3+1=pre.3+(w.3+1) by lia,this,List.take_append];simp;show take_of_length_le ()
 ·apply Dj
  ext
theorem KC{z:Str}{b}(d:z.6=b++c::post):z.6[b.3]?=U c:=by
 ext
theorem Fi(W)(g):Pn (W++[g])=g.b:=by
 unfold Pn
 ext
theorem Uu(a:Bk b)(d:z.6=pre++(b++post))(r:Rn lt z o (pre++b).3 S W f):Rn lt z o pre.3 S W f:=by
 let rfl||rfl:=a
 ·rwa[zj]at r
 ·show .blank _ _ _ _ (KC d) (by simpa using r)
theorem Sep.of{c}{r}(h:De c=O/\DE c=O):Sep (c::r):=λd a=>by ext
theorem Sep.bk{a u}(d:Bk a)(h:Sep u):Sep (a++u):=by
 let rfl||rfl:=d
 ·show h
 ·show Sep.of (Y,Y)
theorem Sep.sg{g:Sg}:Sep (g.c::r):=Sep.of (by cases g<;>show(rfl,rfl))
theorem YY(f:Wr lt t r u):∀{pre jc}{S}{W},z.6=pre++(u++jc)->Sep jc->(r<3->Pn W<=r) ->
  (∀d Q,(∀q∈Q,r+1<=q.b)->d++(gp Q).50=S++t.71->Rn lt z o (pre++u).3 d (W++Q) O)->Rn lt z o pre.3 S W L:=by
 induction f with
 |wd x r i m h=>
  intro pre jc S W j s y k;rw[append_assoc]at j;apply Uu m j;let(p1,p2):=Zg (z:=z) (pre:=pre++i) (_) h s;show .part _ _ _ _ p1 h.ne ?_;rw[p2];have:=k (S++[x]) [] (λq p=>nomatch p) (by change S++[x]++[]=S++[x];simp);rw[zj]at this
  rwa[←append_assoc,zY]at this
 |ng t r u G h A=>
  intro pre jc S W j s y k;show .ahead _ _ _ .no (.inl Y) (KC (_)) ?_;have:=A (pre:=pre++[126]) (S:=S) (W:=W++[.no]) (_) s (λh=>absurd h qc) (λd Q p e=>?_)
  ·simpa using this
  ·have:=k d (.no::Q) (λq C=>by
    let rfl||h:=mem_cons.mp C
    ·show r+1<=4;lia
    grind) (by
    change d++(Sg.no.s::gp Q).50=S++(t.71++[("~":Str)]);rw[List.reverse_cons,←append_assoc,e,append_assoc]
    rfl)
   simpa using this
 |bn g a b r u v i E G m X hv H I=>
  intro pre jc S W j s y k;let ab:1<=g.b:=by cases g<;>first|lia|decide
  let ag:g.b<=3:=by cases g<;>first|trivial|decide
  show H (jc:=i++(g.c::(v++jc))) (_) (Sep.bk m Sep.sg) (λ_=>by lia) λN M R D=>?_;apply Uu (pre:=pre++u) (post:=g.c::(v++jc)) m (_);show .join _ _ _ _ g E (KC (post:=v++jc) (_)) (λq p=>by ext) () ?_;rw[D];have:=I (pre:=pre++u++i++[g.c]) (S:=S++a.71) (W:=W++[g]) (_) s (λ_=>by rw[Fi];simp) λB w T P=>?_
  ·have l:(pre++u++i++[g.c]).3=(pre++u++i).3+1:=by simp;lia
   rwa[l]at this
  ·have:=k B (g::w) (λq C=>by
    grind) (by
    change B++(g.s::gp w).50=S++(a.71++b.71++[g.s])
    grind)
   rw[show W++[g]++w=W++(g::w) by simp];let l:(pre++u++i++[g.c]++v).3=(pre++(u++(i++g.c::v))).3:=by simp
   rwa[l]
 |br t r u i m h A=>
  intro pre jc S W j s y k;rw[append_assoc]at j;apply Uu m j;show .ahead _ _ _ .br (.inr Y) (KC (post:=u++41::jc) (by rw[j];simp[Sg.c])) ?_;have:=A (pre:=pre++i++[40]) (jc:=41::jc) (S:=S) (W:=W++[.br]) (_) (Sep.of (rfl,rfl)) (λ_=>by rw[Fi];trivial) (λd Q p e=>?_)
  ·have l:(pre++i++[40]).3=(pre++i).3+1:=by simp;lia
   rwa[l]at this
  ·show .close _ _ _ _ (KC (post:=jc) (_)) (λq h=>by ext) ?_;rw[e];have:=k (S++t.71) [] (λq p=>nomatch p) (_);rw[zj]at this;let l:(pre++(i++40::(u++[41]))).3=(pre++i++[40]++u).3+1:=by simp;lia
   rwa[l]at this
theorem Uv(h:Wr lt t 0 z.6):Rn lt z t.71 0 [] [] L:=by
 show YY h (pre:=[]) (jc:=[]) (_) (λc d=>nomatch d) (λ_=>qc) λg Q f e=>?_;let b:([]++z.6).3=z.3:=by rw[nil_append,A3]
 rw[b,nil_append];show .done _ _ (λq h=>f q h) (by rw[e];rfl)
noncomputable def Dd:LK:=[((Sum.inr "(":Key),(.int 0)),(Sum.inr "|",(.int 1)),(Sum.inr "^",(.int 2)),(Sum.inr "&",(.int 3)),(Sum.inr "~",(.int 4))]
theorem Qe(g:Sg):Aj Dd (Sum.inr g.s:Key)=U (.int (g.b:Int)):=by cases g<;>decide +kernel
theorem Zh(R:gc w H p g m y B A)(s:jh p g m H u)(h:Rd H f (.dK v)):Rd u f (.dK v):=by
 let(q,j):=R.ex
 let d:∀{o:HO},H f=U o->(∀i,o≠ .lst i)->(∀a b c,o≠ .ins a b c)->f≠p/\f≠g/\f≠m:=λ{o}e r l=>by
  show(λz=>?_,λz=>?_,λz=>?_)
  ·grind
  ·rw[z,R.hs]at e
   grind
  ·rw[z,R.hw]at e
   grind
 let h||(o,h):=h
 ·let(a,b,c):=d h (λ_ z=>nomatch z) (λ_ _ _ z=>nomatch z);show .inl (s _ _ h a b c)
 ·let(a,b,c):=d h (λ_ z=>nomatch z) (λ_ _ _ z=>nomatch z);show .inr (o,s _ _ h a b c)
theorem OD(b)(g):iS ((gp (b++[g])).5 V.str) (-1)=U (V.str g.s)/\((gp (b++[g])).5 V.str)[((gp (b++[g])).5 V.str).3-1]?=U (V.str g.s)/\((gp (b++[g])).5 V.str).dropLast=(gp b).5 V.str:=by
 let e:(gp (b++[g])).5 V.str=(gp b).5 V.str++[V.str g.s]:=by simp
 show(?_,?_,?_)
 ·unfold iS
  let d:i5 ((gp b).5 V.str++[V.str g.s]).3 (-1)=U ((gp b).5 V.str).3:=by
   unfold i5;simp
   lia
  ext
 ·ext
 ext
inductive spSet(d f:l7)(vs:ly)(H:Hp)(Q:VK)(g:XK):Prop
 |mk (p ls lw) (ss) (W G) (b:Nat) (wp) (i:vs=[.ref p,.int (b)]) (j:gc d H p ls lw ss (gp (W++G)) wp) (m:ss.3+(W.length+G.3)<=400) (l:Rd H f (.dK Dd))
  (r:∀q∈G,b<=q.b) (o:W=[]\/Pn W<b) (s:∀h,jh p ls lw H h->gc d h p ls lw (ss++(gp G).50) (gp W) wp->Q .eJ h)
theorem Zi:AH [lH,pe] [lH,pe] (defScope DV):=fG
theorem YZ(F:eP i "settle" "Reading.settle" DV f o)(B:Bl l)(d:Ke i h)(mB:l "BINDING"=U (.ref j)):AT ar aR i l base eK 1 f o [lH,pe] (spSet h j):=by
 show F.m Zi λvs H as an ab=>?_;let(p,ls,lw,ss,W,G,b,wp,rfl,R,h400,hB,hG,hW,q):=ab;show(Y,λdc al az aC hr=>?_);let hu:=CK hr
 show(_,AB (Gr PassesOwn.never (PW.pt (Ci (AJ Iu (AS (BB i Y) Y B.61 PySem.boot_len (AA (Ad (Z 0) Y) AG)) AF (AN _)) (Bv (AJ Mz (Au hu (BA (v:=.ref j) Y mB Y) (Am (Ak i Y) (Ad (Z 0) Y) (DB C7 AF) (λ_ _=>rfl)) (λ_ _=>rfl)) (Z 1) (AN _)))))
  (AB (Ae (Bg (Ad (Z 0) rfl) (AA (F6 plainAttrs_list slot_list_pop type_list_pop Ht (Ad (Z 0) rfl)) AG))))),?_)
 show(λm y A=>y=[U (.ref p),U (.int b)]/\∃r s,G=r++s/\r.3=m/\jh p ls lw H A/\gc h A p ls lw (ss++(gp s).50) (gp (W++r)) wp,(G.3,Y,G,[],(zj _).35,Y,jh.refl _ _ _ _,by simpa using R),?_);rintro m y A ⟨rfl,r,s,v,em,w,R2⟩;let(dx,hp):=id R2.ex;show(7,p,h,dx,_,7,hp,d.cl,d.nW,HX _ _ _,lw,7,.inl (dY.of R2.hw),_,7,Y,7,?_);let fg:((gp (W++r)).5 V.str).3=(W++r).3:=by simp
 rw[fg];let e||(L,g,e):=List.eq_nil_or_concat (W++r)
 ·have u:=List.append_eq_nil_iff.mp e;rw[e];show AU (AU (q _ w ?_));rw[u.2]at v R2;rw[v];simpa using R2
 ·rw[List.concat_eq_append]at e;rw[zH (by rw[e,zY,length_singleton];lia)];apply Ag;let N:=OD L g;rw[←e]at N;let(hat,fv,fx):=N;show(_,rfl,p,h,dx,_,_,rfl,hp,d.cl,d.nW,HX _ _ _,_,rfl,lw,_,-1,.str g.s,rfl,rfl,dY.of R2.hw,hat,j,.int g.b,rfl,.inl (_,Sum.inr g.s,Zh R w hB,rfl,(Qe g).35),_,rfl,_,_,rfl,rfl,_,rfl,?_);let u||(G0,g',u):=List.eq_nil_or_concat r
  ·-- all are settled
   subst u;rw[zj]at e
   let C:¬ (g.b ≥ (b:Int)):=by
    let z||z:=hW
    ·rw[z]at e;have:=congrArg List.length e;simp at this
    ·rw[e,Fi]at z
     lia
   rw[zK C];show AU (q _ w ?_);rw[v];simpa using R2
  ·rw[List.concat_eq_append]at u;subst u;let I:=e;rw[←append_assoc]at I;let(eL,eg):=append_inj' I rfl;let X:g'=g:=by simpa using eg
   subst X
   let C:g'.b ≥ (b:Int):=by
    have:=hG g' (by rw[v];simp)
    lia
   rw[zH C];show Ag (λy D=>y=[U (.ref p),U (.int b)]/\jh p ls lw H D/\gc h D p ls lw (ss++(gp ([g']++s)).50) (gp (W++G0)) wp,λgY H' (e,s',S)=>(G0.3,by rw[←em,zY];show Nat.lt_succ_self _,e,G0,[g']++s,by rw[v,append_assoc],Y,s',S),(7,p,h,dx,_,7,hp,d.cl,d.nS,Us _ _ _,.inl (Y,_,dY.of R2.hs),7,p,h,dx,_,7,hp,d.cl,d.nW,HX _ _ _,.inl (Y,_,dY.of R2.hw),lw,_,.str g'.s,Y,Y,R2.hw,fv,?_));rw[fx,←eL];let M:ss++(gp s).50++[g'.s]=ss++(gp ([g']++s)).50:=by simp
   let E:=R2.waits (gp (W++G0));let T:=E.steps (ss++(gp ([g']++s)).50);show(ls,_,7,Y,E.hs,AR ?_,Y,λb ag e n1 P Q=>?_,?_)
   ·have h1:=congrArg List.length v;simp at h1;simp
    lia
   ·rw[AE P,AE Q];show w b ag e n1 P Q
   ·rw[←M,zl]at T
    rwa[←M]
inductive SgStep:Str->lr->List Sg->Bool->lr->List Sg->Bool->Prop
 |blank (S) (W) (wp):SgStep " " S W wp S W wp
 |ahead (S) (W) (g) (b:g=.no\/g=.br):SgStep g.s S W L S (W++[g]) L
 |join (S) (W G) (g) (b:g.gK) (d:∀q∈G,g.b<=q.b) (f:Pn W<g.b):SgStep g.s S (W++G) O (S++(gp G).50) (W++[g]) L
 |close (S) (W G) (d:∀q∈G,1<=q.b):SgStep ")" S ((W++[.br])++G) O (S++(gp G).50) W O
inductive spTB(b d:l7)(vs:ly)(H:Hp)(Q:VK)(f:XK):Prop
 |mk (p ls lw) (ss) (W G) (g) (i:vs=[.ref p,.str g.s]) (j:g.gK) (m:gc b H p ls lw ss (gp (W++G)) O) (l:ss.3+(W.length+G.3)<=390) (r:Rd H d (.dK Dd))
  (o:∀q∈G,g.b<=q.b) (s:Pn W<g.b) (u:∀h,jh p ls lw H h->gc b h p ls lw (ss++(gp G).50) (gp (W++[g])) L->Q (.bl L) h)
theorem b9:AH [lH,oj] [lH,oj] (defScope Bz):=fG
theorem Wh{g:Sg}(h:g.gK):(if L=L then !iG (V.str g.s) [V.str "&",V.str "^",V.str "|"]else iG (V.str g.s) [V.str "&",V.str "^",V.str "|"])=O:=by
 cases g<;>first|trivial|rfl
theorem Zj(F:eP q "take_between" "Reading.take_between" Bz f v)(d:Ke q m)(s:r "BINDING"=U (.ref o))(A:r "JOINING"=U (.ref l))(w:∀H,eO q H l [.str "&",.str "^",.str "|"])(u:Mt P ar q r base m "settle" 1 [lH,pe] (spSet m o)):
  AT P ar q r base eK 2 f v [lH,oj] (spTB m o):=by
 let(fS,dS,u,T,L):=u.ex;show F.ok b9 (λvs H Q E h=>?_) (λaC as aM aR H vs Q E C h=>?_)
 ·cases h with
  |mk p B t y W G g e=>subst e;rfl
 ·have N:=CK C
  show(_,AC (AV (AJ Lp (Z 1) (BA (v:=.ref l) Y A Y) Y) (AB (AI Cf)) AM)
   (AC (Ae (Cy (Z 0) d.cl T u C L .nil Af (fy (Au N (BA (v:=.ref o) rfl s rfl) (Z 1)))))
   (AC (Ae (Bg (Ad (Z 0) rfl) (fy (Z 1))))
   (AC (CS (Z 0) Cf rfl)
   (AB (AI Cf))))),?_)
  cases h with
  |mk p B t y W G g e ab R az D I S al=>
  subst e;let(dx,M):=id R.ex;show(7,l,7,.inr (w H),Y,Y,7,?_);rw[Wh ab];apply AU;show(7,p,dx,7,M,Eg _ _ _,7,o,.int g.b,Y,.inl (_,Sum.inr g.s,D,Y,(Qe g).35),p,B,t,y,W,G,g.b,im,Y,R,by lia,D,I,.inr S,λH1 s1 i=>?_);let(a,j):=id i.ex;show(7,p,m,a,_,7,j,d.cl,d.nW,HX _ _ _,.inl (Y,_,dY.of i.hw),7,t,_,7,Y,i.hw,AR (_),?_);let ew:(gp W).5 V.str++[V.str g.s]=(gp (W++[g])).5 V.str:=by simp
  let R2:=i.waits (gp (W++[g]));rw[ew];show(7,p,m,a,7,by rw[AE (Ne.symm i.np.2)];show j,d.cl,d.nP,Qd _ _ _,al _ (λb ag e x X z=>by rw[AE x,AE z];show s1 b ag e x X z) (R2.wants ii))
inductive spTA(b:l7)(vs:ly)(H:Hp)(Q:VK)(d:XK):Prop
 |mk (p ls lw) (ss) (W) (g) (wp) (h:vs=[.ref p,.str g.s]) (i:g=.no\/g=.br) (l:gc b H p ls lw ss (gp W) wp) (j:W.length<=390)
  (m:∀f,jh p ls lw H f->gc b f p ls lw ss (gp (W++[g])) wp->Q (.bl L) f)
theorem cA:AH [lH,oj] [lH,oj] (defScope CY):=fG
theorem Zk(F:eP B "take_ahead" "Reading.take_ahead" CY f I)(a:Ke B m):AT P w B M base eK 1 f I [lH,oj] (spTA m):=by
 show F.ok cA (λvs H Q E h=>?_) (λy A i s H vs Q E G h=>?_)
 ·cases h with
  |mk p D j x W g N e=>subst e;rfl
 ·show(_,AC (AV (PW.pt (Ci (AJ Dg (Z 1) AL (AN _)) (Bv (AJ Dg (Z 1) AL (AN _))))) (AB (AI Cf)) AM)
   (AC (Ae (Bg (Ad (Z 0) rfl) (fy (Z 1))))
   (AB (AI Cf))),?_)
  cases h with
  |mk p D j x W g N e C R r q=>
  subst e;let(t,l):=id R.ex;show(7,Y,7,?_);let u:(gp W).5 V.str++[V.str g.s]=(gp (W++[g])).5 V.str:=by simp
  let R2:=R.waits (gp (W++[g]));let rfl||rfl:=C
  ·show AU (AU ((7,p,m,t,_,7,l,a.cl,a.nW,HX _ _ _,.inl (Y,_,dY.of R.hw),7,j,_,7,Y,R.hw,AR (_),?_)));rw[u];show q _ (λb o e v z d=>by rwa[AE d]) R2
  ·show Ag (7,Y,7,?_);apply AU;show(7,p,m,t,_,7,l,a.cl,a.nW,HX _ _ _,.inl (Y,_,dY.of R.hw),7,j,_,7,Y,R.hw,AR (_),?_);rw[u];show q _ (λb o e v z d=>by rwa[AE d]) R2
inductive spTC(b d:l7)(vs:ly)(H:Hp)(Q:VK)(f:XK):Prop
 |mk (p ls lw) (ss) (W G) (wp) (h:vs=[.ref p]) (j:gc b H p ls lw ss (gp ((W++[.br])++G)) wp) (i:ss.3+(W.length+G.3)<=390) (m:Rd H d (.dK Dd))
  (l:∀q∈G,1<=q.b) (o:∀g,jh p ls lw H g->gc b g p ls lw (ss++(gp G).50) (gp W) wp->Q (.bl L) g)
theorem cC:AH [lH] [lH] (defScope CZ):=fG
theorem Zl{P}{w}{i}{j}{base}{r}{d m}{f}{tB}(F:eP i "take_close" "Reading.take_close" CZ f r)(B:Bl j)(g:Ke i d)(s:j qj=U (.int 1 tB))(l:Mt P w i j base d "settle" 1 [lH,pe] (spSet d m)):AT P w i j base eK 2 f r [lH] (spTC d m):=by
 let(fS,dS,l,mS,bS):=l.ex;show F.ok cC (λvs H Q E h=>?_) (λdc A ag al H vs Q E N h=>?_)
 ·cases h with
  |mk p y v C W G D e=>subst e;rfl
 ·show(_,AC (Ae (Cy (Z 0) g.cl mS l N bS .nil Af (fy (BA (v:=.int 1) Y s (tB,Y)))))
   (AC (AV (AJ Aq (AS (BB i rfl) rfl B.61 PySem.boot_len (fy (Ad (Z 0) rfl))) AF (AN _)) (AB (AI Cf)) AM)
   (AC (Ae (F6 plainAttrs_list slot_list_pop type_list_pop Ht (Ad (Z 0) rfl)))
   (AB (AI Cf)))),?_)
  cases h with
  |mk p y v C W G D e R ab I M q=>
  subst e;let(dx,hp):=id R.ex;show(7,p,dx,7,hp,Eg _ _ _,p,y,v,C,W++[.br],G,1,D,Y,R,by grind,I,M,.inr (by rw[Fi];decide),λH1 X u=>?_);let(dx1,dr):=id u.ex;let(hat,fv,fx):=OD W .br;show(7,p,d,dx1,_,7,dr,g.cl,g.nW,HX _ _ _,v,7,.inl (dY.of u.hw),Y,7,?_)
  rw[zK (λar=>by
   grind)]
  apply AU;show(7,p,d,dx1,_,7,dr,g.cl,g.nW,HX _ _ _,.inl (Y,_,dY.of u.hw),v,_,.str Sg.br.s,Y,Y,u.hw,fv,?_);rw[fx];show q _ (λb o e S T z=>by rw[AE z];show X b o e S T z) (u.waits (gp W))
inductive spTS(b d:l7)(vs:ly)(H:Hp)(Q:VK)(f:XK):Prop
 |mk (p ls lw) (x) (S S') (W W') (wp ku) (h:vs=[.ref p,.str x]) (i:gc b H p ls lw S (gp W) wp) (l:SgStep x S W wp S' W' ku) (j:S.3+W.length<=380) (o:Rd H d (.dK Dd))
  (m:∀g,jh p ls lw H g->gc b g p ls lw S' (gp W') ku->Q (.bl L) g)
theorem cD:AH [lH,oj] [lH,oj] (defScope Cs):=fG
theorem KD(g:Sg):decide (V.str g.s=V.str " ")=O/\decide (V.str g.s=V.str ")")=O:=by cases g<;>decide +kernel
theorem Zm(F:eP m "take_sign" "Reading.take_sign" Cs f B)(a:Ke m b)(z:Mt P w m s base b "take_between" 2 [lH,oj] (spTB b A))(C:Mt P w m s base b "take_ahead" 1 [lH,oj] (spTA b))(t:Mt P w m s base b "take_close" 2 [lH] (spTC b A)):AT P w m s base eK 3 f B [lH,oj] (spTS b A):=by
 let(fB,dB,z,X,Y):=z.ex;let(fA,dA,C,mA,N):=C.ex;let(fC,dC,t,O,bC):=t.ex;show F.ok cD (λvs H Q E h=>?_) (λar al an as H vs Q E u h=>?_)
 ·cases h with
  |mk p l o x S ag W I wp y e=>subst e;rfl
 ·have v:eB 1 _:=u.51 qc
  show(_,AC (AV (AJ Aq (Z 1) AL (AN _)) (AB (AI Cf)) AM)
   (AC (AV (Ai (Ad (Z 0) rfl)) (AB (AI (Cy (Z 0) a.cl mA C v N .nil Af (fy (Z 1))))) AM)
   (AB (AI (Bi (AJ Aq (Z 1) AL (AN _)) (Bj (Z 0) a.cl O t u bC .nil Af) (Cy (Z 0) a.cl X z u Y .nil Af (fy (Z 1))))))),?_)
  cases h with
  |mk p l o x S ag W I wp y e R st d ab q=>
  subst e;let(j,i):=id R.ex;show(_,rfl,rfl,_,rfl,?_);cases st with
  |blank=>
   show Ag (q _ (jh.refl _ _ _ _) R)
  |ahead _ _ g D=>
   rw[(KD g).1];show AU (7,p,b,j,_,7,i,a.cl,a.nP,LV _ _ _,7,Ag (7,p,j,7,i,Eg _ _ _,7,.mk p l o S W g ii zd D R () q))
  |join _ T G g D r M=>
   rw[(KD g).1];rw[zY]at d;show AU (7,p,b,j,_,7,i,a.cl,a.nP,LV _ _ _,7,AU (7,zd,7,?_));rw[(KD g).2];show AU (7,p,j,7,i,Eg _ _ _,7,.mk p l o S T G g zd D R () ab r M q)
  |close _ _ G r=>
   rw[zY,zY]at d;show AU (7,p,b,j,_,7,i,a.cl,a.nP,LV _ _ _,7,AU ?_);show(7,zd,7,Ag (7,p,j,7,i,Eg _ _ _,.mk p l o S I G im zd R () ab r q))
inductive spEnds(b d:l7)(vs:ly)(H:Hp)(Q:VK)(f:XK):Prop
 |mk (p ls lw) (ss) (G) (h:vs=[.ref p]) (i:gc b H p ls lw ss (gp G) O) (l:ss.3+G.3<=390) (j:∀q∈G,1<=q.b) (o:Rd H d (.dK Dd))
  (m:∀g,jh p ls lw H g->gc b g p ls lw (ss++(gp G).50) [] O->Q (.bl L) g)
theorem Ya:AH [lH] [lH] (defScope EU):=fG
theorem Wi{P}{w}{b}{g}{base}{s}{a m}{f}{tB}(F:eP b "ends" "Reading.ends" EU f s)(B:Bl g)(i:Ke b a)(I:g qj=U (.int 1 tB))(t:Mt P w b g base a "settle" 1 [lH,pe] (spSet a m)):AT P w b g base eK 2 f s [lH] (spEnds a m):=by
 let(fS,T,t,L,z):=t.ex;show F.ok Ya (λvs H Q E h=>?_) (λM A l ag H vs Q E v h=>?_)
 ·cases h with
  |mk p y r u G e=>ext
 ·
  show(_,AC (Ae (Cy (Z 0) i.cl L t v z .nil Af (fy (BA (v:=.int 1) Y I (tB,Y)))))
   (AB (AI (CI (Sl (Ad (Z 0) rfl)) (Cj (CG Aq (AS (BB b rfl) rfl B.61 PySem.boot_len (fy (Ad (Z 0) rfl))) AF (AN _)))))),?_)
  cases h with
  |mk p y r u G e R x D N q=>
  subst e;let(S,C):=id R.ex;show(7,p,S,7,C,Eg _ _ _,p,y,r,u,[],G,1,O,Y,R,by grind,N,D,.inl Y,λab X o=>?_);let(d,j):=id o.ex;show(7,p,a,d,_,7,j,i.cl,i.nP,LV _ _ _,7,7,Ag (7,p,a,d,_,7,j,i.cl,i.nW,HX _ _ _,r,7,.inl (dY.of o.hw),Y,q _ X o))
theorem Wj(s:dH H b)(h:Rd H a o):Rd b a o:=by
 let h||(o,h):=h
 ·show .inl (s _ _ h)
 ·show .inr (o,s _ _ h)
theorem gc.same{a d}(s:dH H f)(h:gc b H p g j a d l):gc b f p g j a d l:=by
 let(i,e):=h.ex;show((i,s _ _ e),s _ _ h.hs,s _ _ h.hw,h.ne)
theorem Mf(g:Sg):(⟨#[g.c]⟩:Str)=g.s:=by cases g<;>decide +kernel
theorem XS(g:Sg):De g.c=O/\DE g.c=O:=by cases g<;>show(rfl,rfl)
inductive RnN(lt:Bool)(z:Str)(o:lr)(a:Nat)(S:lr)(W:List Sg)(b:Bool):Prop
 |done (f:a=z.3) (d:b=O) (h:∀q∈W,1<=q.b) (e:o=S++(gp W).50)
 |part (d:b=L) (n) (h:Sc lt z a n) (i:0<n) (r:Rn lt z o (a+n) (S++[sl z a (a+n)]) W O)
 |sign (c) (S') (W') (ku) (g:z.6[a]?=U c) (no:Sc lt z a 0) (st:SgStep ⟨#[c]⟩ S W b S' W' ku) (r:Rn lt z o (a+1) S' W' ku) (l:S'.3+W'.3<=S.3+W.length+1)
theorem Mg(j:z.6[a]?=U c)(no:De c=O/\DE c=O)(i:Dc c=O):Sc lt z a 0:=by
 let(d,e):=z8.mp j;rw[A3]at d;show(by lia,λk l h=>absurd h (),λ_=>Ut (w:=[]) no ?_ (.inr i));rw[FW z () ()];rw[show a+0+1-a=1 by lia,nil_append];rw[List.drop_eq_getElem_cons (),e];rfl
theorem Rn.next(h:Rn lt z o a S W b):RnN lt z o a S W b:=by
 cases h with
 |done _ _ h e=>show .done rfl rfl h e
 |blank _ _ _ _ h r=>show .sign 32 _ _ _ h (Mg h (rfl,rfl) rfl) (by rw[show(⟨#[32]⟩:Str)=" " by decide +kernel];show .blank _ _ _) r ()
 |part _ n _ _ h j r=>show .part rfl n h j r
 |ahead _ _ _ g d h r=>show .sign g.c _ _ _ h (Mg h (XS g) (by cases g<;>rfl)) (by rw[Mf];show .ahead _ _ g d) r (by simp;lia)
 |join _ _ W Q g d h i l r=>show .sign g.c _ _ _ h (Mg h (XS g) (by cases g<;>rfl)) (by rw[Mf];show .join _ W Q g d i l) r (by simp;lia)
 |close _ _ W Q h i r=>show .sign 41 _ _ _ h (Mg h (rfl,rfl) rfl) (by rw[show(⟨#[41]⟩:Str)=")" by decide +kernel];show .close _ W Q i) r (by simp;lia)
structure Zn(P:Program)(w:World)(K:FG)(mg:SV)(base:Heap)(DC bd:l7):Prop where
 T:Ke K DC
 cls:mg "Reading"=U (.ref DC)
 make:∃f fd,Mk K DC f/\AT P w K mg base eK 1 f fd [lH] (spRd0 DC)/\Binds K fd [lH] []
 tp:Mt P w K mg base DC "take_part" 1 [lH,pY] (spTP DC)
 ts:Mt P w K mg base DC "take_sign" 3 [lH,oj] (spTS DC bd)
 en:Mt P w K mg base DC "ends" 2 [lH] (spEnds DC bd)
inductive spSt(d b:l7)(vs:ly)(H:Hp)(Q:VK)(f:XK):Prop
 |mk (z) (lt) (o) (h:vs=[.str z,.bl lt]) (i:z.31 (· < 128)=L) (m:z.3<=100) (j:Rn lt z o 0 [] [] L) (q:Rd H b (.dK Dd)) (p:∀l g,dH H g->g l=U (.lst (o.5 V.str))->Q (.ref l) g)
noncomputable abbrev NSt:lr:=[ml,my,"reading","at","end"]
theorem scSt:AH NSt [ml,my] (defScope DW):=fG
inductive StA(lt:Bool)(b:l7)(z:Str)(o:lr)(p d f:l7)(H:Hp)(a:Nat):Prop
 |mk (S) (W) (wp) (R:gc b H p d f S (gp W) wp) (t:Rn lt z o a S W wp) (l:S.3+W.length<=a) (h:a<=z.3)
theorem Zo(F:eP g ox ox DW aM fd)(B:Bl mg)(X:Zn an aC g mg base f bd)(GE:Fn an aC g mg base "part_end" 5 [ml,"at",my] spPE):AT an aC g mg base eK 6 aM fd [ml,my] (spSt f bd):=by
 let(fI,dI,MI,GI,bI):=X.make;let(fT,dT,GT,mT,bT):=X.tp.ex;let(fS,dS,GS,mS,bS):=X.ts.ex;let(fN,dN,GN,mN,bN):=X.en.ex;let mC:=X.78;let M:=X.T;show F.m scSt λvs H a8 a7 h=>?_;let(z,lt,o,rfl,ha,h40,RN,hB,ab):=h;show(Y,λdc a5 bl bm w=>?_);let jS:eB 1 _:=w.51 qc;let i6:eB 2 _:=w.51 qc;let a4:eB 3 _:=w.51 qc;let r:=scSt.nd
 show(_,AC (AV (Ao (Ai (Br g Y Y B.gZ Y B.str EZ (Z 0)))) (AB AY) AM)
  (AC (A6 2 r (S7 MI GI i6 rfl mC bI .nil Af))
  (AC (A6 3 r AF)
  (At (Gr PassesOwn.never (AJ Fp (Z 3) (AS A7 rfl B.61 PySem.boot_len (AA (Z 0) AG)) (AN _))
   (At (A6 4 r (Bi (Ai (Ad (Z 2) rfl)) (fP GE w (AA (Z 0) (AA (Z 3) (AA (Z 1) AG)))) (Z 3)))
   (AB (AV (AJ Iu (Z 4) (Z 3) (AN _))
    (AC (Ae (Cy (Z 2) M.cl mT GT jS bT .nil Af (AA (Ey Ji (Z 0) (D9 (Z 3)) (D9 (Z 4))) AG))) (AB (A6 3 r (Z 4))))
    (AB (AV (Ai (Cy (Z 2) M.cl mS GS a4 bS .nil Af (AA (Am Lo (Z 0) (Z 3) (λ_ _=>rfl)) AG))) (AB (OX (i:=3) r rfl (Or.inl rfl) AF (P1:gx _ _ _))) (AB AY)))))))
  (AC (AV (Ao (Ai (Bj (Z 2) M.cl mN GN i6 bN .nil Af))) (AB AY) AM)
  (AB (AI (Ad (Z 2) rfl))))))),?_)
 show(7,_,_,_,ii,Y,.str z,Y,7,AU ?_);intro p dx hp et er;let sN:=Bn (D:=f) hp et er;show(p,dx,Y,dG,λx C H1 s1 a0 a2 R1=>(Y,?_));let S1:dH H H1:=λb o e=>s1 b o (sN _ _ e) (AK e hp);let a1:H x=gt:=none_of sN a0;let a3:H C=gt:=none_of sN a2;let T:∀{u d:Hp},dH H u->jh p x C u d->dH H d:=λ{u d}a b c o e=>b c o (a c o e) (AK e hp) (AK e a1) (AK e a3);let az:∀{u:Hp},dH H u->Rd u bd (.dK Dd):=λ{u}a=>Wj a hB;show(λj s=>(∃I,j=[U (.str z),U (.bl lt),U (.ref p),U (.int (z.3:Int)),I])/\dH H s/\∃S W m,gc f s p x C S (gp W) m/\S.3+W.length<=300/\m=O/\(∀ab∈W,1<=ab.b)/\o=S++(gp W).50,λar q=>?_,?_)
 ·show(λas j u=>∃a I,j=[U (.str z),U (.bl lt),U (.ref p),U (.int ((a:Nat):Int)),I]/\as=z.3-a/\dH H u/\StA lt f z o p x C u a,(z.3,0,gt,rfl,rfl,S1,.mk [] [] ii R1 RN (Nat.zero_le _) (Nat.zero_le _)),?_);rintro as j u ⟨a,I,rfl,rfl,i,S,W,m,R2,t,be,eh⟩;show(_,rfl,_,rfl,z,rfl,Nat.le_of_lt (AR ()),_,_,rfl,rfl,_,rfl,?_);let(L,J):=id R2.ex;cases t.next with
  |done ea R h e=>
   subst ea R;rw[zK (show ¬ ((z.3:Nat):Int)<(z.3:Int) by lia)];show AU (q _ _ ((_,Y),i,S,W,O,R2,by lia,Y,h,e))
  |part R n pt hn ag=>
   subst R;let aR:=pt.le;rw[zH (show((a:Nat):Int)<(z.3:Int) by lia)];show Ag (λj d=>∃b I,j=[U (.str z),U (.bl lt),U (.ref p),U (.int ((b:Nat):Int)),I]/\z.3-b<z.3-a/\dH H d/\StA lt f z o p x C d b,λgY s (b,al,D,E,P,Q)=>(z.3-b,E,b,al,D,Y,P,Q),(λj d=>j=[U (.str z),U (.bl lt),U (.ref p),U (.int ((a:Nat):Int)),U (.int ((a+n:Nat):Int))]/\dH H d/\gc f d p x C S (gp W) ii,λar q=>?_,?_))
   ·show(7,p,f,L,_,7,J,M.cl,M.nP,LV _ _ _,7,Ag ((7,7,7,z,a,n,lt,Y,ha,by lia,pt,λd l=>q _ _ (Y,i.7 l,R2.25 l))))
   ·rintro j d ⟨rfl,v,N⟩;let(G,y):=id N.ex;show(7,7,_,7,Y,7,?_);rw[zH (show((a+n:Nat):Int)>((a:Nat):Int) by lia)];show Ag ?_;show(7,p,G,7,y,Eg _ _ _,7,7,7,7,7,z,Y,Nat.le_of_lt (AR ()),p,x,C,S,gp W,ii,7,N,by lia,λH4 s4 A=>(7,a+n,7,by lia,T v s4,.mk _ W O A ag (_) aR))
  |sign c S' W' ku hc no st ag a9=>
   let je:a<z.3:=by
    have:=(z8.mp hc).1;rw[A3]at this;show this
   rw[zH (show((a:Nat):Int)<(z.3:Int) by lia)];show Ag (λj d=>∃b I,j=[U (.str z),U (.bl lt),U (.ref p),U (.int ((b:Nat):Int)),I]/\z.3-b<z.3-a/\dH H d/\StA lt f z o p x C d b,λgY s (b,al,D,E,P,Q)=>(z.3-b,E,b,al,D,Y,P,Q),(λj d=>j=[U (.str z),U (.bl lt),U (.ref p),U (.int ((a:Nat):Int)),U (.int ((a:Nat):Int))]/\dH H d/\gc f d p x C S (gp W) m,λar q=>?_,?_))
   ·show(_,rfl,p,f,L,_,_,rfl,J,M.cl,M.nP,LV _ _ _,_,rfl,?_);cases m with
    |false=>show AU (_,rfl,q _ _ (rfl,i,R2))
    |true=>show Ag (_,rfl,_,rfl,_,rfl,z,a,0,lt,rfl,ha,by lia,no,λd l=>q _ _ (rfl,i.7 l,R2.25 l))
   ·rintro j d ⟨rfl,v,N⟩;let(G,y):=id N.ex;show(7,7,_,7,Y,7,?_);rw[zK (show ¬ ((a:Nat):Int)>((a:Nat):Int) by lia)];show AU ?_;show(7,p,G,7,y,Eg _ _ _,7,7,z,(a:Int),c,Y,Y,Nat.le_of_lt (AR ()),BW hc,.mk p x C ⟨#[c]⟩ S S' W W' m ku Y N st () (az v) λH4 s4 A=>(7,Ag (7,_,7,Y,a+1,U (.int ((a:Nat):Int)),?_,by lia,T v s4,.mk S' W' ku A ag () ())));rfl
 rintro j u ⟨⟨I,rfl⟩,i,S,W,m,R2,bk,rfl,hq,rfl⟩;let(L,J):=id R2.ex;show(7,p,L,7,J,Eg _ _ _,.mk p x C S W Y R2 () hq (az i) λd l N=>(7,AU ?_));let(G,y):=id N.ex;show(7,p,f,G,_,7,y,M.cl,M.nS,Us _ _ _,ab x d (T i l) N.hs)
theorem Qf(a b:Nat):Builtin.bitXor (a) (b)=((a^^^b:Nat):Int):=by
 let i:(a^^^b)|||(a&&&b)=a|||b:=by
  show Nat.eq_of_testBit_eq λk=>?_;simp;cases a.testBit k<;>cases b.testBit k<;>rfl
 let h:(a^^^b)&&&(a&&&b)=0:=by
  show Nat.eq_of_testBit_eq λk=>?_;simp only[Nat.testBit_and,Nat.testBit_xor,Nat.zero_testBit];cases a.testBit k<;>cases b.testBit k<;>rfl
 let e:=Ui (a^^^b) (a&&&b);let d:Builtin.bitXor a b=Builtin.bitOr a b-Builtin.bitAnd a b:=rfl;rw[d,C8,DD]
 lia
abbrev En:=Str->Option (Nat×Nat)
structure Nv where
 due:Aa
 kvs:LK
 tb:Str->Nat
noncomputable def wv(n:Nv)(x:Str):Nat:=if Ba x then n.tb x else if Ca x then look n.55 x else digitsVal x.6
structure WdOk(n:Nv)(x:Str):Prop where
 as:x.31 (· < 128)=L
 l0:0<x.3
 l6:x.3<=200
 or:(Ba x=L/\Aj n.kvs (Sum.inr x)=U (.int (n.tb x:Nat)))\/(Ba x=O/\Ca x=L/\x∈n.due.5 (·.1))\/(Ba x=O/\Ca x=O/\AllDigits x.6)
theorem WdOk.nb(h:WdOk n x):x≠ "|" /\ x≠ "&" /\ x≠ "^" /\ x≠ "~":=by
 let d:∀y,Ba y=O->Ca y=O->(∃c∈y.6,¬ (48<=c/\c<=57))->x≠y:=λy j l (c,i,e) z=>by
  subst z;let(a,_)||(_,a,_)||(_,_,b):=h.or
  ·ext
  ·ext
  ·show e (b c i)
 show(d _ (by rfl) (by rfl) (124,by trivial,qc),d _ (by rfl) (by rfl) (38,by trivial,qc),d _ (by rfl) (by rfl) (94,by trivial,qc),d _ (by rfl) (by rfl) (126,by trivial,qc))
noncomputable def Sg.f:Sg->Nat->Nat->Nat|.an,a,b=>a&&&b|.xo,a,b=>a^^^b|_,a,b=>a|||b
inductive EvS(n:Nv):List Nat->Str->List Nat->Prop
 |ng (h) (v):EvS n (h++[v]) "~" (h++[kn n.55-(kn n.55&&&v)])
 |bn (g:Sg) (d:g.gK) (h) (a b):EvS n (h++[a]++[b]) g.s (h++[g.f a b])
 |wd (x) (W:WdOk n x) (h):EvS n h x (h++[wv n x])
inductive Ev(n:Nv)(o:Nat):List Nat->lr->Prop
 |nil:Ev n o [o] []
 |cons (h h') (x) (S) (a:EvS n h x h') (b:Ev n o h' S):Ev n o h (x::S)
noncomputable def Tr.gA(n:Nv):Tr->Nat
 |.wd x=>wv n x
 |.ng t=>kn n.55-(kn n.55&&&t.gA n)
 |.bn g a b=>g.f (a.gA n) (b.gA n)
def Tr.Ok(n:Nv):Tr->Prop
 |.wd x=>WdOk n x
 |.ng t=>t.Ok n
 |.bn g a b=>g.gK/\a.Ok n/\b.Ok n
theorem JJ:∀(t:Tr),t.Ok n->∀h S,Ev n o (h++[t.gA n]) S->Ev n o h (t.71++S)
 |.wd x,k,h,S,r=>.cons _ _ _ _ (.wd x k h) r
 |.ng t,k,h,S,r=>by
  change Ev n o h ((t.71++[("~":Str)])++S);rw[append_assoc];show JJ t k h _ (.cons _ _ _ _ (.ng h _) r)
 |.bn g a b,k,h,S,r=>by
  change Ev n o h ((a.71++b.71++[g.s])++S);rw[append_assoc,append_assoc];show JJ a k.2.1 h _ (JJ b k.2.2 _ _ (.cons _ _ _ _ (.bn g k.1 h _ _) r))
theorem Uw{t:Tr}(k:t.Ok n):Ev n (t.gA n) [] t.71:=by
 have:=JJ t k [] [] .nil
 rwa[zj]at this
theorem EvS.len{h b}{x}(e:EvS n h x b):b.3<=h.3+1:=by
 cases e<;>simp<;>lia
inductive spJn(vs:ly)(H:Hp)(Q:VK)(d:XK):Prop
 |mk (g:Sg) (a b:Nat) (f:vs=[.str g.s,.int (a),.int (b)]) (h:g.gK) (i:Q (.int ((g.f a b:Nat):Int)) H)
theorem cE:AH [oj,oq,me] [oj,oq,me] (defScope MT):=fG
theorem Zp(F:eP m "joined" "joined" MT f l):AT P w m o base eK 1 f l [oj,oq,me] spJn:=by
 show F.m cE λvs H Q E h=>?_;let(g,a,b,rfl,e,q):=h;show(rfl,λi A d s j=>?_);show(_,AC (AV (AJ Aq (Z 0) AL (AN _)) (AB (AI (AX Cn (Z 1) (Z 2)))) AM) (AC (AV (AJ Aq (Z 0) AL (AN _)) (AB (AI (AX Sx (Z 1) (Z 2)))) AM) (AB (AI (AX JO (Z 1) (Z 2))))),(_,rfl,rfl,_,rfl,?_));cases g with
 |br=>show e.40
 |no=>show e.40
 |an=>
  show Ag (7,7,_,7,Y,?_);change Q (V.int (Builtin.bitAnd _ _)) H
  rwa[DD]
 |xo=>
  show AU (7,Y,7,Ag (7,7,_,7,Y,?_));change Q (V.int (Builtin.bitXor _ _)) H
  rwa[Qf]
 |or=>
  show AU (7,Y,7,AU (7,7,_,7,Y,?_));change Q (V.int (Builtin.bitOr _ _)) H
  rwa[C8]
structure CJ(P:Program)(w:World)(K:FG)(mg:SV)(base:Heap)(C:l7)(m:Str)(k:Nat)(ps:lr)(sp:Sp):Prop where
 ex:∃f fd,AT P w K mg base (gO P w) k f fd ps sp/\Lj K C m f/\Binds K fd ps []
structure kh(P:Program)(w:World)(K:FG)(mg:SV)(base:Heap)(x:Str)(k:Nat)(ps:lr)(sp:Sp):Prop where
 ex:∃f fd,AT P w K mg base (gO P w) k f fd ps sp/\mg x=U (.ref f)/\W.keepIn K (.ref f)=L/\Binds K fd ps []
inductive spPN(C:l7)(vs:ly)(H:Hp)(Q:VK)(b:XK):Prop
 |mk (k t) (x) (n) (r) (f:vs=[.ref k,.str x,.ref t]) (g:eR C H k n.55 r) (j:Rd H t (.dK n.kvs)) (i:WdOk n x) (h:∀d,dH H d->Q (.int (wv n x:Nat)) d)
theorem cF:AH [lN,pY,nQ] [lN,pY,nQ] (defScope FE):=fG
theorem Zq(F:eP b pL pL FE f m)(B:Bl g)(T:Fm b C)(N:Fn P w b g base oM 1 [lM] spLet)(G:Fn P w b g base pN 1 [lM] spIsName)(l:Mt P w b g base C lO 2 [lH,lK] (spNumber C)):AT P w b g base eK 4 f m [lN,pY,nQ] (spPN C):=by
 let(R,S,l,y,L):=l.ex;show F.m cF λvs H Q E h=>?_;let(k,t,x,n,r,rfl,v,ht,W,q):=h;show(Y,λs A p al o=>?_);let e:eB 1 _:=o.51 qc
 show(_,AC (AV (Ai (fP N e (fy (pv 1)))) (AB (AI (Au (CK o) (pv 2) (pv 1)))) AM)
  (AC (AV (Ai (fP G e (fy (pv 1)))) (AB (AI (Cy (pv 0) T.cl y l (o.51 qc) L .nil Af (fy (pv 1))))) AM)
  (AB (AI (Ay CB rfl B.int Ea (fy (pv 1)))))),?_)
 let(dk,Z,X,M):=v.ins;let ab:=W.l6;show(_,rfl,.txt x rfl W.l6 (_,rfl,?_));let(d,D)||(d,i,I)||(d,i,O):=W.or
 ·have a:=q H (dH.refl _);unfold wv at a;rw[d]at a;rw[d];show Ag (7,7,t,7,.inl (_,Sum.inr x,ht,Y,D.35),a)
 ·rw[d];show AU (7,x,Y,W.as,by lia,λu j=>(7,?_));let a:=q u j;unfold wv at a;rw[d,i]at a;rw[i];show Ag (7,k,dk,7,j _ _ M,(Cb _ _ _),7,.mk k n.55 r x Y (v.25 j) I a)
 ·rw[d];show AU (7,x,Y,W.as,by lia,λu j=>(7,?_));let a:=q u j;unfold wv at a;rw[d,i]at a;rw[i];let ag:=W.l0;show AU (7,x,7,by lia,intText_digits O (λz=>by have:=A3 x;rw[z]at this;simp at this;lia) (),a)
inductive spNo(C:l7)(vs:ly)(H:Hp)(Q:VK)(b:XK):Prop
 |mk (k l t) (S) (o) (n) (r) (f:vs=[.ref k,.ref l,.ref t]) (g:eR C H k n.55 r) (p:Rd H t (.dK n.kvs)) (i:H l=U (.lst (S.5 V.str))) (h:S.3<=400) (m:Ev n o [] S) (j:∀d,dH H d->Q (.int (o:Int)) d)
noncomputable abbrev NNo:lr:=[lN,nH,nQ,"held","step","last"]
theorem scNo:AH NNo [lN,nH,nQ] (defScope IM):=fG
theorem Il(h)(v:Nat):iS (BK (h++[v])) (-1)=U (V.int (v))/\(BK (h++[v]))[(BK (h++[v])).3-1]?=U (V.int (v))/\(BK (h++[v])).dropLast=BK h/\i5 (BK (h++[v])).3 (-1)=U h.3/\∀u,(BK (h++[v])).set h.3 u=BK h++[u]:=by
 let e:BK (h++[v])=BK h++[V.int v]:=by unfold BK;rw[zl];rfl
 let d:(BK h).3=h.3:=AO _;rw[e]
 let a:i5 (BK h++[V.int v]).3 (-1)=U h.3:=by
  unfold i5;simp
  lia
 show(?_,?_,List.dropLast_concat,a,λu=>?_)
 ·unfold iS
  ext
 ·ext
 ext
theorem Ux{g:Sg}(h:g.gK):(if O=L then !iG (V.str g.s) [V.str "&",V.str "^",V.str "|"]else iG (V.str g.s) [V.str "&",V.str "^",V.str "|"])=L:=by
 cases g<;>first|trivial|rfl
theorem Zr(F:eP f qu qu IM az fd)(ar:Fm f C)(mJ:m "JOINING"=U (.ref l))(hJ:∀H,eO f H l [.str "&",.str "^",.str "|"])(q:Mt P w f m base C nG 2 [lH] (spKnown C))(GJ:Fn P w f m base "joined" 1 [oj,oq,me] spJn)(GP:Fn P w f m base pL 4 [lN,pY,nQ] (spPN C)):AT P w f m base eK 5 az fd [lN,nH,nQ] (spNo C):=by
 let(fK,dK,q,mK,bK):=q.ex;show F.m scNo λvs H a1 a0 h=>?_;let(k,ab,t,an,o,n,ag,rfl,KA,hT,hl,h400,al,aC):=h;show(Y,λdc aR a2 a3 Q=>?_);let S:=scNo.nd
 show(_,AC (A6 3 S (A4 AG))
  (AC (Cl PassesOwn.never rfl (BG (pv 1)) (BM 4 S)
   (AB (AV (AJ Aq (pv 4) AL (AN _))
    (AB (Bo (AX Cn (Bj (pv 0) ar.cl mK q (Q.51 qc) bK .nil Af) (DB Lh (Am (Ak f rfl) (pv 3) (DB C7 AF) (λ_ _=>rfl)))) (Lf (pv 3) (DB C7 AF) Gs)))
    (AB (AV (AJ Fb (pv 4) (BA (v:=.ref l) rfl mJ rfl) rfl)
     (AC (A6 5 S (F6 plainAttrs_list slot_list_pop type_list_pop Ht (pv 3)))
     (AB (Bo (fP GJ Q (AA (pv 4) (AA (Am (Ak f rfl) (pv 3) (DB C7 AF) (λ_ _=>rfl)) (AA (pv 5) AG)))) (Lf (pv 3) (DB C7 AF) Gs))))
     (AB (Ae (Bg (pv 3) (AA (fP GP Q (AA (pv 0) (AA (pv 4) (AA (pv 2) AG)))) AG)))))))))
  (AB (AI (F6 plainAttrs_list slot_list_pop type_list_pop Ht (pv 3))))),?_)
 show gL λN E=>((_),λd I=>?_);let T:=AD (dH.refl _) I (o:=HO.lst []);let h1:=dG (H:=H) (a:=d) (o:=HO.lst []);generalize upd H d (HO.lst [])=H1 at T h1 ⊢;show(gy E (gL λN E=>(7,ab,Y,(_,dY.of (T _ _ hl)),DP (λi X r=>(∃v4 v5,X=[U (.ref k),U (.ref ab),U (.ref t),U (.ref d),v4,v5])/\dH H r/\∃h,r d=U (.lst (BK h))/\Ev n o h (an.drop i)/\h.3<=i) ((_,7),T,[],h1,al,Nat.zero_le _) (λi X r _ e=>dY.of (e.2.1 _ _ hl)) ?_ ?_)):N _ _)
 ·intro i x X r hi h;show egN λz B=>?_;let((v4,v5,rfl),D,h,p,v,hle):=h;rw[zx]at hi;let(y,hy,rfl):=z5.mp hi;let(Z,ey):=z8.mp hy;rw[List.drop_eq_getElem_cons Z,ey]at v;let keep:∀{R:Hp}o,dH H R->dH H (upd R d o):=λ{R}o a b u e=>by rw[AE (AK e I)];show a b u e
  show(_,rfl,rfl,_,rfl,?_);cases v with
  |cons _ h' _ _ es A=>
   let fg:=es.61;cases es with
   |ng j a=>
    let(l1,l2,l3,l4,l5):=Il j a;let M:=KA.25 D;let(dxk,e1,e2,dj):=M.ins;show Ag (7,k,dxk,7,dj,(Cb _ _ _),k,n.55,ag,Y,M,λR s=>?_);show(7,7,d,_,-1,.int a,Y,Y,dY.of (s _ _ p),l1,7,_,7,Y,(7,7,d,_,-1,j.3,Y,Y,s _ _ p,l4,(gy B ((_,7),keep _ (D.7 s),j++[kn n.55-(kn n.55&&&a)],?_,A,by lia):z.nx _ _)));rw[dG,l5];change U (HO.lst (BK j++[V.int (Builtin.bitAnd ((Ah ((Al n.55).5 (·.1)))) (Builtin.bitNot a))]))=_;rw[J8,EM];unfold BK;rw[zl];rfl
   |bn g G j a b=>
    let(l1,l2,l3,l4,l5):=Il (j++[a]) b;let(m1,m2,m3,m4,m5):=Il j a;rw[show decide (V.str g.s=V.str "~")=O by cases g<;>first|show G.40|decide +kernel];show AU (7,l,7,.inr (hJ _),Y,Y,7,?_);rw[Ux G];apply Ag;show(7,.inl (Y,_,dY.of p),d,_,.int b,Y,Y,p,l2,?_);rw[l3];let h3:=dG (H:=r) (a:=d) (o:=HO.lst (BK (j++[a])));show(7,7,7,d,_,-1,.int a,Y,Y,dY.of h3,m1,7,g,a,b,Y,G,7,7,d,_,-1,j.3,Y,Y,h3,m4,(gy B ((_,7),keep _ (keep _ D),j++[g.f a b],?_,A,by lia):z.nx _ _));rw[dG];unfold BK
    ext
   |wd _ W _=>
    let(n1,n2,n3,n4):=W.nb;rw[zK (λaM=>n4 (V.str.inj aM))];show AU (7,l,7,.inr (hJ _),Y,Y,7,?_)
    let as:(if O=ii then !iG (V.str y) [V.str "&",V.str "^",V.str "|"]else iG (V.str y) [V.str "&",V.str "^",V.str "|"])=O:=by
     unfold iG;simp[j9,Ne.symm n1,Ne.symm n2,Ne.symm n3]
    rw[as];show AU (7,.inl (Y,_,dY.of p),7,7,7,.mk k t y n ag Y (KA.25 D) (dH.rd D hT) W λR s=>(d,_,7,Y,s _ _ p,AR (by unfold BK;grind),(gy B ((_,7),keep _ (D.7 s),h++[wv n y],?_,A,by lia):z.nx _ _)));rw[dG];unfold BK
    ext
 ·rintro X r ⟨⟨v4,v5,rfl⟩,D,h,p,v,_⟩;rw[AO,List.drop_length]at v;cases v with
  |nil=>
   show(gy E ?_:N _ _);show(7,.inl (Y,_,dY.of p),d,_,.int o,Y,Y,p,Y,aC _ λb u e=>?_);rw[AE (AK e I)];show D b u e
end
end Mk
namespace L2
open PySem
theorem Po{q}{a}{f}{g}{tt}{m}{e}{R}{p}{h}(d:Nat->List Key->Hp->Prop)(l:d 0 [] h)(j:∀i b H,i<=f.3->d i b H->dY q H a f)(s:∀i b H,d i b H->b.3<=1000)
  (r:∀i x b H,f[i]?=U x->d i b H->bT g tt (taS m) e p x b (d (i+1)) H) (o:∀b H,d f.3 b H->R b H):tW (jJ q a) [] ML (bT g tt (taS m) e p) R h:=K1 d l j s r o
end L2
namespace Mk
open PySem L2 MK PySem.NumText
mutual
structure LtL(ns S:lr):Prop where
 nd:ns.29
 so:PyProof.Rows.sortedS ns=L
 mem:∀x,x∈ns ↔ (x∈S/\Ba x=L)
 l:ns.3<=64
inductive spLi(vs:ly)(H:Hp)(Q:VK)(b:XK):Prop
 |mk (l) (S) (g:vs=[.ref l]) (h:H l=U (.lst (S.5 V.str))) (j:S.3<=400) (i:(S.30 Ba).3<64) (o:∀x∈S,x.3<=200) (m:∀p f d,dH H d->d p=U (.lst (f.5 V.str))->LtL f S->Q (.ref p) d)
theorem cG:AH [nH] [nH] (defScope Gg):=fG
theorem Zs(F:eP g pZ pZ Gg f s)(B:Bl b)(m:Fn P w g b base oM 1 [lM] spLet):AT P w g b base eK 2 f s [nH] spLi:=by
 show F.m cG λvs H Q E h=>?_;let(l,S,rfl,L,J,h64,o,q):=h;show(Y,λab A G al T=>?_);show(_,AB (AI (AS (MM Y) Y B.sorted Ff (fy (R0 [] [] (by rfl) (_) (by rfl) Y (BG (Z 0)) (λ_ _ _ _ _ _=>Fd (Ai (fP m T (fy (Z 0))))) (λ_ _ _ _ _ _=>Z 0))))),(7,l,Y,(_,dY.of L),Po (λi u r=>r=H/\∃d:lr,u=d.5 Sum.inr/\d.29/\(∀x,x∈d ↔ x∈(S.20 i).30 Ba)/\d.3<=((S.20 i).30 Ba).3) (Y,[],Y,nodup_nil,λx=>by simp,Nat.zero_le _) (λi u r _ k=>by let(e,_):=k;show e ▸ dY.of L) (λi u r (_,d,e,_,_,a)=>?_) ?_ ?_))
 ·grind
 ·rintro i an u r M ⟨rfl,d,rfl,C,N,a⟩;rw[zx]at M;let(y,U,rfl):=z5.mp M;let e1:(S.20 (i+1)).30 Ba=(S.20 i).30 Ba++[y].30 Ba:=by rw[zw,U,Option.toList_some,filter_append]
  show(_,rfl,.txt y rfl (o y (_)) (_,rfl,?_));cases ag:Ba y with
  |false=>
   show AU (Y,d,Y,C,by ext,by ext)
  |true=>
   show Ag (7,Sum.inr y,Y,Y,?_);unfold Nj;by_cases t:(Sum.inr y:Key)∈d.5 Sum.inr
   ·grind
   ·rw[zg t];show(y::d,Y,zi.53 (λz=>t (zh.53 (_,z,Y)),C),λx=>?_,?_)
    ·grind
    ext
 ·rintro u r ⟨rfl,d,rfl,C,N,a⟩ p v;rw[AO,zt]at N a;show(p,d,Y,dG,by lia,λR X I j D=>q R X _ (AD (AD (dH.refl _) v) I) dG (j.nodup_iff.53 C,D,λx=>?_,by rw[j.63];lia))
  grind
structure Uy(kvs:LK):Prop where
 len:kvs.3<=1000
 al:∀b∈kvs,∃(x:Str)(n:Nat),b=(Sum.inr x,(.int (n)))/\Ba x=L/\x.3<=200/\n<1099511627776
inductive spTab(vs:ly)(H:Hp)(Q:VK)(b:XK):Prop
 |mk (a) (o) (kvs) (f:vs=[.ref a]) (g:H a=U (.gj o (.dK kvs))) (i:Uy kvs) (h:∀d,dH H d->Q (.bl L) d)
theorem Zt:AH [lM] [lM] (defScope Jv):=fG
theorem JK:bootBuiltins mH=U (.type mH):=by rfl
theorem Yb(F:eP R "is_table" "is_table" Jv f X)(B:Bl b)(S:b mH=gt)(T:Fn P w R b base oM 1 [lM] spLet)(I:Fn P w R b base ow 2 [lM] spIsNumber):AT P w R b base eK 3 f X [lM] spTab:=by
 show F.m Zt λvs H Q E h=>?_;let(a,o,d,rfl,y,C,k):=h;show(Y,λN A u s z=>?_)
 show(_,AC (AV (Ao (Ai (AS Rs Y B.gZ EY (AA (Z 0) (fy (D6 (v:=.ty mH) Y S JK Y)))))) (AB (AI Cf)) AM)
  (AB (AI (AS (D3 rfl) rfl B.all IY (fy (Gz [] [] (by rfl) (_) (by rfl) (by rfl) rfl (JY (Z 0)) (λ_ _ _ _ _ _=>BJ) (λ_ _ _ _ _ _=>CI (fP T z (fy (Z 0))) (Cj (fP I z (fy (Z 1)))))))))),
  _,rfl,a,o,d,rfl,y,_,rfl,AU (_,rfl,a,o,d,rfl,y,Pc (λi r j=>C₃ (dH H j) (i<=d.3) (r=List.replicate i (V.bl L))) (dH.refl _,Nat.zero_le _,rfl) (λi r j m=>by let(l,_):=m;show l _ _ y) (λi r j g=>by let(_,h,e):=g;have:=C.61;rw[e,List.length_replicate];lia) ?_ ?_))
 ·rintro i D r j p q ⟨l,_,rfl⟩ t;let(x,n,rfl,J,G,M):=C.al D (zM q);show(p,7,eO.of dG,Y,_,7,_,7,Y,7,.txt x Y G (7,?_));rw[J];show Ag (7,n,Y,M,l.7 (AD (dH.refl _) t),(z8.mp q).1,?_);rw[List.replicate_succ']
 ·rintro r j ⟨l,_,rfl⟩ p t;show(p,List.replicate d.3 L,Y,dY.of (by rw[dG,List.map_replicate]),?_);rw[show(List.replicate d.3 L).all id=L by simp];show k _ (l.7 (AD (dH.refl _) t))
structure Zu(P:Program)(w:World)(K:FG)(mg:SV)(base:Heap)(DC bd:l7):Prop where
 ex:∃f fd,AT P w K mg base eK 6 f fd [ml,my] (spSt DC bd)/\mg ox=U (.ref f)/\W.keepIn K (.ref f)=L/\∃ds,Binds K fd [ml,my] ds/\Vals [.bl L] ds
structure Uz(T:lr):Prop where
 l4:T.3<=400
 l64:(T.30 Ba).3<64
 sh:∀x∈T,x.3<=200
inductive RkG(C b f d:l7)(T:lr)(kp:l7)(n:Nv)(H:Hp)(Q:VK)(E:XK):Prop
 |lack (x) (m:x∈T) (i:Ba x=L) (j:Aj n.kvs (Sum.inr x)=J) (q:Uq H E d)
 |go (v) (l:∀x∈T,Ba x=L->Aj n.kvs (Sum.inr x)≠J) (h:Ev n v [] T) (q:∀g,dH H g->spMade C b f [.ref kp,.int (v:Int)] g Q E)
inductive spRk(C b g f d:l7)(vs:ly)(H:Hp)(Q:VK)(E:XK):Prop
 |mk (kp a) (o) (z) (T) (n) (r) (h:vs=[.ref kp,.str z,.ref a]) (i:eR C H kp n.55 r) (l:z.31 (· < 128)=L) (j:z.3<=100) (p:Rn L z T 0 [] [] L) (m:Uz T) (q:Rd H d (.dK Dd)) (s:H a=U (.gj o (.dK n.kvs))) (u:Uy n.kvs) (v:RkG C b g f T kp n H Q E)
noncomputable abbrev NRk:lr:=[lN,ml,nQ,nH]
theorem scRk:AH NRk [lN,ml,nQ] (defScope IN):=fG
theorem Zv(F:eP f p0 p0 IN ag fd)(B:Bl b)(h:hX P w f b base nO cN)(p:Zu P w f b base DC s)(j:Fn P w f b base pZ 2 [nH] spLi)(GT:Fn P w f b base "is_table" 3 [lM] spTab)(m:Fn P w f b base qu 5 [lN,nH,nQ] (spNo C))(g:kh P w f b base "made" 6 [lN,lO] (spMade C r cR)):AT P w f b base (gO P w) 7 ag fd [lN,ml,nQ] (spRk C r cR cN s):=by
 let(fS,dS,GS,mS,kS,ds,bS,vS):=p.ex;let(fM,dM,g,mM,kM,bM):=g.ex;let(fX,dX,I,GX,bX):=h.make;show F.n scRk λvs a0 a2 aR al=>?_;let(kp,a,o,aC,T,n,as,rfl,KA,az,an,RN,SP,hB,R,TO,RK):=al;show(Y,λdc aM a3 a4 i=>?_);let u:eB 2 _:=i.51 qc
 show(_,AC (A6 3 scRk.nd (A0 GS i Y mS kS bS vS Af (fy (Z 1))))
  (AC (AV (Ao (Ai (fP GT i (fy (Z 2))))) (AB AY) AM)
  (AC (AV (Ao (Ai (AS (D3 rfl) rfl B.all IY (fy (BX [nQ] [U 2] (by rfl) (_) (by rfl) rfl (BG (fP j u (fy (Z 3)))) (λ_ _ _ _ _ _=>BJ) (λ_ _ _ _ _ _=>OW (Hx (CK i) (Z 0) (Z 1)))))))) (AB (E8 G7 rfl I.78 (E7 I GX u rfl h.78 bX .nil Af (fy AL)))) AM)
  (AB (AI (A0 g i rfl mM kM bM .nil G6 (AA (Z 0) (fy (fP m i (AA (Z 0) (AA (Z 3) (fy (Z 2)))))))))))),
  _,rfl,.mk aC L T rfl az an RN hB λl H1 N H=>(_,rfl,.mk a o n.kvs rfl (N _ _ R) TO λH2 M=>(_,rfl,AU (_,rfl,l,T,rfl,M _ _ H,SP.l4,SP.l64,SP.sh,λar t H3 Q E z=>?_))))
 let D:=(N.7 M).7 Q;show(ar,Y,(_,dY.of E),QT t _ (λx=>U (V.bl (Aj n.kvs (Sum.inr x)).26)) (IZ _ _) E (by have:=z.l;lia) (λv x X a1 G e A hN=>?_) λX A q4 ab=>?_)
 ·subst e;show(7,7,a,7,.inl (_,Sum.inr x,.inr (o,(D.7 A) _ _ R),Y,Y),hN _ (dH.refl _))
 ·rw[J6];show(q4,t.5 λx=>(Aj n.kvs (Sum.inr x)).26,rfl,dY.of (by rw[dG,map_map];rfl),_,rfl,?_);let y:=A.7 (AD (dH.refl _) ab (o:=HO.lst (t.5 λx=>V.bl (Aj n.kvs (Sum.inr x)).26)));let d:=D.7 y;cases RK with
  |lack x G S hn q=>
   rw[show(t.5 λx=>(Aj n.kvs (Sum.inr x)).26).all id=im by
    rw[all_map,List.all_eq_false];show(x,(z.mem x).53 (G,S),?_);change ¬ (Aj n.kvs (Sum.inr x)).26=L
    simp[hn]]
   show Ag (J9 (te:=λ_=>tC (.str "")) I.78 d q)
  |go v hs ev q=>
   rw[show(t.5 λx=>(Aj n.kvs (Sum.inr x)).26).all id=L by
    rw[all_map];show all_eq_true.53 λx G=>?_;let(h1,h2):=(z.mem x).mp G
    show Option.isSome_iff_ne_none.mpr (hs x h1 h2)]
   show AU (7,7,7,7,.mk kp l a T v n as Y (KA.25 d) (.inr (o,d _ _ R)) (((M.7 Q).7 y) _ _ H) SP.l4 ev λH5 s5=>q H5 (d.7 s5))
theorem Wk(e:0<w.3)(p:w.3<=6)(d:w.all De=L):lj lt w:=by
 show(e,λk l i x a=>?_)
 suffices h:Ca x=L by unfold Kd;rw[h];rfl
 let j:x.3=k:=by rw[←A3,a,zr];lia
 unfold Ca;rw[a,zH (),zH ()];show all_eq_true.53 λc o=>all_eq_true.mp d c (_)
noncomputable abbrev dg(m:Nat):List Nat:=(Nat.toDigits 10 m).5 Char.toNat
theorem Qg(h:¬ m<10):dg m=dg (m/10)++dg (m%10):=by
 let t:Nat.toDigits 10 (m/10)++Nat.toDigits 10 (m%10)=Nat.toDigits 10 (10*(m/10)+m%10):=Nat.toDigits_append_toDigits qc () (Nat.mod_lt m qc)
 grind
theorem Mh(h:m<10):dg m=[m+48]:=by
 change(Nat.toDigits 10 m).5 Char.toNat=_;rw[Nat.toDigits_of_lt_base h];have:∀d,d<10->[(Nat.digitChar d)].5 Char.toNat=[d+48]:=by decide
 show this m h
theorem Qh(m)(h:0<m):∃c r,dg m=c::r/\c≠48:=by
 induction m using Nat.strongRecOn with
 |_ m i=>
  by_cases a:m<10
  ·show(m+48,[],Mh a,by lia)
  ·let(c,r,e,d):=i (m/10) () ();show(c,r++dg (m%10),by rw[Qg a,e];rfl,d)
theorem Pp(m):(dg m).all DE=L:=by
 induction m using Nat.strongRecOn with
 |_ m d=>
  by_cases a:m<10
  ·rw[Mh a];simp[DE]
   lia
  ·rw[Qg a,List.all_append,d (m/10) (),d (m%10) ()];rfl
theorem U0(l)(k):digitsVal (l.20 k)<=digitsVal l:=by
 let d:∀(r:List Nat)a b,a<=b->a<=r.67 (λacc c=>acc*10+(c-48)) b:=λr=>by
  induction r with
  |nil=>simp
  |cons c r e=>show λa b h=>e a _ (_)
 unfold digitsVal
 conv=>rhs;rw[←List.take_append_drop k l,List.foldl_append]
 ext
theorem Yc(h:n<1099511627776):lj lt (dg n):=by
 let i:0<(dg n).3:=by
  by_cases p:n<10
  ·rw[Mh p];simp
  ·let(c,r,e,_):=Qh n ()
   ext
 show(i,λk q d x j=>?_);let a:x.36 DE=L:=by rw[j];show all_eq_true.53 λc o=>all_eq_true.mp (Pp n) c (_)
 suffices h:Me x=L by unfold Kd;rw[h];cases Ca x<;>rfl
 unfold Me;rw[a,Bool.true_and,Bool.or_eq_true,decide_eq_true_eq,Bool.and_eq_true,decide_eq_true_eq,Bool.not_eq_true'];let rfl||l:=Nat.eq_zero_or_pos n
 ·show .inl (Dj ?_);rw[j];have:k=1:=by rw[Mh qc]at d;simp at d;lia
  subst this;decide +kernel
 ·let(c,r,e,o):=Qh n l;show .inr (?_,?_)
  ·cases k with
   |zero=>lia
   |succ k=>ext
  ·rw[j];show Nat.lt_of_le_of_lt (U0 _ _) (by rwa[show digitsVal (dg n)=n from W.KIN.val_back n])
structure Wd(n:Nv)(x:Str)(v:Nat):Prop where
 ok:WdOk n x
 pw:∀lt,Ba x=O\/lt=L->lj lt x.6
 v:wv n x=v
 len:x.3<=13
theorem Qi(h:∀c∈x.6,c<97):Ba x=O:=by
 unfold Ba;cases e:x.6 with
 |nil=>rfl
 |cons a r=>
  cases r with
  |cons b r=>rfl
  |nil=>
   have:=h a (_);unfold Dc
   grind
theorem Qj(D:fZ n.55)(d:p∈n.55):Wd n p.1 p.2/\p.1.3<=6/\Ba p.1=O:=by
 let(h,j,_):=D.nm p d;let e:=h;unfold Ca at e;simp only[Bool.and_eq_true,decide_eq_true_eq]at e;let((q,o),i):=e;let sl:=A3 p.1
 let a:=Qi λc l=>by
  have:=all_eq_true.mp i c l;simp[De]at this
  lia
 show(((j,by lia,by lia,.inr (.inl (a,h,zh.53 (_,d,Y)))),λlt _=>Wk () () i,?_,by lia),o,a);unfold wv;rw[a,zf h];show Db D.nd d
noncomputable abbrev HY(n:Nat):Str:=Str.ofString (toString ((n:Nat):Int))
theorem Qk(n):(HY n).6=dg n:=by
 change(Str.ofString (toString (Int.ofNat n))).6=_;rw[PyProof.Rows.text_ofNat]
theorem Mi{v}(h:v<2^40):Wd n (HY v) v/\Ba (HY v)=O:=by
 let e:=Qk v;let p:=Pp v;let l:∀lt,lj lt (dg v):=λlt=>Yc ();let sl:=A3 (HY v)
 let q:(dg v).3<=13:=by
  rw[AO];show toDigits_len_pow qc qc ()
 rw[e]at sl;let o:=(l L).ne
 let d:∀c∈(HY v).6,48<=c/\c<=57:=λc j=>by
  rw[e]at j;have:=all_eq_true.mp p c j;simpa[DE]using this
 let a:Ba (HY v)=O:=Qi λc j=>by grind
 let i:Ca (HY v)=O:=by
  unfold Ca
  have:(HY v).36 De=O:=by
   cases t:(HY v).6 with
   |nil=>ext
   |cons c r=>
    have:=d c (_);simp[De]
    lia
  rw[this,Bool.and_false]
 show(((?_,by lia,by lia,.inr (.inr (a,i,d))),λlt _=>by rw[e];show l lt,?_,by lia),a)
 ·grind
 ·unfold wv;rw[a,i,e];show W.KIN.val_back v
theorem Mj{c}(i:Dc c=L)(h:Aj n.kvs (Sum.inr ⟨#[c]⟩)=U (.int (n.tb ⟨#[c]⟩:Nat))):Wd n ⟨#[c]⟩ (n.tb ⟨#[c]⟩):=by
 let e:Ba ⟨#[c]⟩=L:=i;let l:97<=c/\c<=122:=by simpa[Dc]using i
 show⟨(?_,(by change 0<1;decide),(by change 1<=200;decide),.inl (e,h)),λlt a=>?_,?_,(by change 1<=13;decide)⟩
 ·grind
 ·let z||rfl:=a
  ·rw[e]at z;cases z
  ·show((_),λk o d x j=>?_)
   have:k=1:=by
    have:k<=1:=d
    lia
   subst this
   have:Ba x=L:=by
    unfold Ba
    rwa[j]
   unfold Kd;rw[this];cases Ca x<;>cases Me x<;>rfl
 ·unfold wv
  ext
inductive LT
 |nm (x:Str)
 |no (n:Nat)
 |le (c:Nat)
 |ng (t:LT)
 |bn (g:Sg) (a b:LT)
noncomputable def LT.tr:LT->Tr
 |.nm x=>.wd x
 |.no n=>.wd (HY n)
 |.le c=>.wd ⟨#[c]⟩
 |.ng t=>.ng t.tr
 |.bn g a b=>.bn g a.tr b.tr
noncomputable def LT.ht:LT->Nat
 |.nm _=>0
 |.no _=>0
 |.le _=>0
 |.ng t=>t.ht+1
 |.bn _ a b=>max a.ht b.ht+1
def LT.Ok(d:lr)(sg:List Nat):LT->Prop
 |.nm x=>x∈d
 |.no n=>n<2^20
 |.le c=>c∈sg
 |.ng t=>t.Ok d sg
 |.bn g a b=>g.gK/\a.Ok d sg/\b.Ok d sg
def hO(H:Hp):V->LT->Prop
 |v,.nm x=>∃p,v=.ref p/\H p=U (.tup [.str lK,.str x])
 |v,.no n=>∃p,v=.ref p/\H p=U (.tup [.str lO,.int (n:Int)])
 |v,.le c=>∃p,v=.ref p/\H p=U (.tup [.str pP,.str ⟨#[c]⟩])
 |v,.ng t=>∃p u,v=.ref p/\H p=U (.tup [.str "~",u])/\hO H u t
 |v,.bn g a b=>∃p d f,v=.ref p/\H p=U (.tup [.str g.s,d,f])/\hO H d a/\hO H f b
theorem hO.eX(s:eQ H f):∀{t}{v},hO H v t->hO f v t
 |.nm x,v,h=>by
  let(p,e,h):=h;show(p,e,s _ _ h)
 |.no n,v,h=>by
  let(p,e,h):=h;show(p,e,s _ _ h)
 |.le c,v,h=>by
  let(p,e,h):=h;show(p,e,s _ _ h)
 |.ng t,v,h=>by
  let(p,u,e,h,a):=h;show(p,u,e,s _ _ h,a.eX s)
 |.bn g a b,v,h=>by
  let(p,d,i,e,h,x,y):=h;show(p,d,i,e,s _ _ h,x.eX s,y.eX s)
theorem eE.tt{x y}(a:H d=U (.lst [.int x,.int y]))(s:eE d H f):eQ H f:=λb h e=>s.old _ _ e (Py e a λz=>nomatch z)
theorem HZ{H:L2.Hp}{e:lr}(h:H d=U (.lst [.int x,.int y]))(b:H f=U (.lst (e.5 V.str)))(i:0<e.3):f≠d:=Py b h λz=>by
 cases e with
 |nil=>ext
 |cons a r=>ext
noncomputable abbrev KF:lr:=[lI,nr,oO,"_law_deep"]
inductive spTree(D:Nat)(vs:ly)(H:Hp)(Q:VK)(f:XK):Prop
 |mk (d wl) (a b) (ws) (sg) (h:vs=[.ref d,.ref wl,.str sg,.int (D)]) (i:H d=U (.lst [.int a,.int b])) (l:H wl=U (.lst (ws.5 V.str))) (j:0<ws.3) (o:ws.3<=10) (p:sg.3<=10)
  (m:∀v t g,eE d H g->hO g v t->t.Ok ws sg.6->t.ht<=D->Q v g)
inductive tNum(D:KR)(b:St)(H:Hp):Prop
 |mk (d) (x y) (e:b[0]?=U (U (.ref d))) (hd:H d=U (.lst [.int x,.int y])) (k:∀(n:Nat)p f,eE d H f->f p=U (.tup [.str lO,.int (n)])->n<2^20->D.rt (.ref p) f)
def XT:Nat->Sp
 |0=>λ_ _ _ _=>False
 |D+1=>spTree D
noncomputable abbrev Zx:lr:=[lI,nr,oO,"_law_deep","_law_kind","_law_one"]
theorem scTree:AH Zx KF (defScope HI):=fG
theorem Zy(h:PS X st t)(d:∀D b H,t' D b H->t D b H):PS X st t':=λa s b H D I k=>h a s b H D I (d D b H k)
theorem OE(F:eP b og og HI a9 fd)(ar:Bl mg)(S:Fn as a6 b mg base mx 2 [lI,mw] gE)(D)(a7:Fn as a6 b mg base og (2+D) KF (XT D)):AT as a6 b mg base eK (3+D) a9 fd KF (spTree D):=by
 let(fT,dT,GT,mT,kT,bT):=a7.ex;let M:3+D=2+D+1:=by lia
 rw[M];show F.m scTree λvs H Q ab bb=>?_;let(d,U,a,aC,ws,sg,rfl,hd,hw,h0,kP,hsg,q):=bb;show(Y,λdc bI bX b2 hr=>?_);let r:eB 2 _:=hr.51 ();let nd:=scTree.nd
 show(_,At (A6 4 nd (Bi (AJ Iu (pv 3) AF (AN _)) (fP S r (AA (pv 0) (AA AF AG))) (fP S r (AA (pv 0) (AA AF AG)))))
  (AC (AV (AJ Fp (pv 4) AF (AN _)) (AB (AI (AZ (AA AL (AA (Am (Ak b rfl) (pv 1) (fP S r (AA (pv 0) (AA (AS (BB b rfl) rfl ar.61 PySem.boot_len (AA (pv 1) AG)) AG))) (λ_ _=>rfl)) AG))))) AM)
  (At (AV (PW.pt (B8 (AJ Aq (pv 4) AF (AN _)) (Bc (PW.pt (Ci (AJ Aq (pv 4) AF (AN _)) (Bv (AJ Aq (pv 2) AL (AN _)))))))) (AB (Zy (t':=tNum) (AI (AZ (AA AL (AA (Am (Ak b rfl) (A4 (AA (fP S r (AA (pv 0) (AA AF AG))) (AA (fP S r (AA (pv 0) (AA (AX Od AF AF) AG))) (AA (fP S r (AA (pv 0) (AA AF AG))) AG)))) (fP S r (AA (pv 0) (AA AF AG))) (λ_ _=>rfl)) AG)))) ?numH)) AM)
  (AC (AV (AJ Aq (pv 4) AF (AN _)) (AB (AI (AZ (AA AL (AA (Am Lo (pv 2) (fP S r (AA (pv 0) (AA (AS A7 rfl ar.61 PySem.boot_len (AA (pv 2) AG)) AG))) (λ_ _=>rfl)) AG))))) AM)
  (AC (AV (AJ Aq (pv 4) AF (AN _)) (AB (AI (AZ (AA AL (AA (A0 GT hr rfl mT kT bT .nil Af (AA (pv 0) (AA (pv 1) (AA (pv 2) (AA (AX Cm (pv 3) AF) AG))))) AG))))) AM)
  (AC (A6 5 nd (A0 GT hr rfl mT kT bT .nil Af (AA (pv 0) (AA (pv 1) (AA (pv 2) (AA (AX Cm (pv 3) AF) AG))))))
  (AB (AI (AZ (AA (Am Lo AL (AX Cm (pv 4) AF) (λ_ _=>rfl)) (AA (pv 5) (AA (A0 GT hr rfl mT kT bT .nil Af (AA (pv 0) (AA (pv 1) (AA (pv 2) (AA (AX Cm (pv 3) AF) AG))))) AG))))))))))),?_)
 case numH=>
  rintro D G s ⟨d,x1,y1,e0,l,k⟩;show(_,e0,d,x1,y1,9,Y,l,qc,qc,λA I C br bR=>?_);let sA:=BZ (x':=I) (y':=C) l;show(_,e0,_,7,Y,(qc,qc,qc),d,I,C,7,dG,qc,qc,λw P T bs bu=>?_);let sB:=BZ (x':=P) (y':=T) (dG (H:=s) (a:=d) (o:=.lst [.int I,.int C]));show(_,e0,d,P,T,64,Y,dG,qc,qc,λB R X bB bW=>?_);let sC:=BZ (x':=R) (y':=X) (dG (H:=upd s d (.lst [.int I,.int C])) (a:=d) (o:=.lst [.int P,.int T]));let s4:=(sA.7 sB).7 sC;let al:=dG (H:=upd (upd s d (.lst [.int I,.int C])) d (.lst [.int P,.int T])) (a:=d) (o:=.lst [.int R,.int X]);generalize upd (upd (upd s d (.lst [.int I,.int C])) d (.lst [.int P,.int T])) d (.lst [.int R,.int X])=H4 at s4 al ⊢;show(jK,λp u=>?_);let aM:p≠d:=Ne.symm (AK al u);let s5:=s4.step (AD (dH.refl _) u (o:=HO.lst [V.int A,V.int w,V.int B]));let an:(upd H4 p (.lst [V.int A,V.int w,V.int B])) d=gl (.lst [.int R,.int X]):=by rw[AE (Ne.symm aM)];show al
  let jE:=dG (H:=H4) (a:=p) (o:=HO.lst [V.int A,V.int w,V.int B]);generalize upd H4 p (.lst [V.int A,V.int w,V.int B])=H5 at s5 an jE ⊢;show(_,e0,d,R,X,3,Y,an,qc,qc,λix a5 b5 bk bl=>?_);let sD:=BZ (x':=a5) (y':=b5) an;let jd:=sD.old _ _ jE aM;let(v,hv,x):=Ih (xs:=[V.int A,V.int w,V.int B]) bk bl;let a8:(2:Int)^(20:Int).32=1048576:=by decide
  let bS:w<1048576:=a8 ▸ bu
  let(n,rfl,hn):∃n:Nat,v=V.int (n:Int)/\n<2^20:=by
   let hm:=zM x;simp only[mem_cons,not_mem_nil,or_false]at hm;let b0:(2:Nat)^20=1048576:=by decide
   let rfl||rfl||rfl:=hm
   ·show(A.32,by rw[Int.toNat_of_nonneg br],by lia)
   ·show(w.32,by rw[Int.toNat_of_nonneg bs],by lia)
   ·show(B.32,by rw[Int.toNat_of_nonneg bB],by lia)
  show(p,_,ix,7,Y,dY.of jd,hv,ig,λp2 dv=>k n p2 _ ((s5.7 sD).step (AD (dH.refl _) dv)) dG hn)
 show(λG m=>∃i:Int,G=[gl (.ref d),gl (.ref U),gl (.str sg),gl (.int (D:Int)),gl (.int i),gt]/\0<=i/\i<8/\(D=0->i<4)/\eE d H m,λaz hR=>?_,?_)
 ·show(7,_,7,Y,7,BN (λu=>?_) (λu=>?_))
  ·have hD:(0:Int)<(D:Int):=zR u;show(7,d,a,aC,8,Y,hd,qc,qc,λi a1 b1 k0 k1=>hR _ _ (i,Y,k0,k1,λz=>absurd hD (),BZ hd))
  ·show(7,d,a,aC,4,Y,hd,qc,qc,λi a1 b1 k0 k1=>hR _ _ (i,Y,k0,by lia,λ_=>k1,BZ hd))
 rintro G s ⟨i,rfl,k0,k8,kD,f⟩;let ag:=f.old _ _ hw (HZ hd hw h0);let(x1,y1,l):=f.fV;let bO:(ws.5 V.str).3=ws.3:=AO _;show(7,_,7,Y,7,BN (λ_=>?_) (λh2=>?_))
 ·-- a name
  show(7,7,7,U,7,.inl (dY.of ag),d,x1,y1,7,l,by lia,by lia,λr2 I C a0 a2=>?_);let N:=BZ (x':=I) (y':=C) l;let be:=N.old _ _ ag (HZ l ag h0);let(v,hv,x):=Ih (xs:=ws.5 V.str) a0 (by show a2);rw[zx]at x;let(bF,hy,rfl):=z5.mp x;show(U,_,r2,7,Y,dY.of be,hv,ig,λp u=>q (.ref p) (.nm bF) _ ((f.7 N).step (AD (dH.refl _) u)) (p,Y,dG) (zM hy) (Nat.zero_le _))
 let bL:¬ i<2:=λz=>h2 (zH z);show(λG m=>G=[gl (.ref d),gl (.ref U),gl (.str sg),gl (.int (D:Int)),gl (.int i),gt]/\m=s/\i≠2/\(i=3->sg≠ ""),λaz hR=>?_,?_)
 ·have aR:tNum {nx:=az,rt:=Q} [gl (.ref d),gl (.ref U),gl (.str sg),gl (.int (D:Int)),gl (.int i),gt] s:=(d,x1,y1,rfl,l,λn p m N u hn=>q (.ref p) (.no n) _ (f.7 N) (p,rfl,u) hn (Nat.zero_le _));show(7,Y,7,?_);by_cases e2:i=2
  ·rw[zH (show V.int i=V.int 2 by rw[e2])];show Ag (Ag aR)
  rw[zK (show ¬ V.int i=V.int 2 from λz=>e2 (V.int.inj z))];show AU (7,Y,7,?_);by_cases M:i=3
  ·rw[zH (show V.int i=V.int 3 by rw[M])];show Ag (7,Y,7,?_);by_cases es:sg=""
   ·rw[zH (show V.str sg=V.str "" by rw[es])];show Ag aR
   ·rw[zK (show ¬ V.str sg=V.str "" from λz=>es (V.str.inj z))];show AU (hR _ _ (Y,Y,e2,λ_=>es))
  ·rw[zK (show ¬ V.int i=V.int 3 from λz=>M (V.int.inj z))];show AU (AU (hR _ _ (Y,Y,e2,λz=>absurd z M)))
 rintro G bK ⟨rfl,rfl,e2,bd⟩;show(7,Y,7,?_);by_cases M:i=3
 ·-- a letter
  rw[zH (show V.int i=V.int 3 by rw[M])]
  let er:0<sg.3:=by
   let z||z:=Nat.eq_zero_or_pos sg.3
   ·exfalso;show bd M (Dj ?_);have:=A3 sg;rw[z]at this;rw[List.length_eq_zero_iff.mp this];decide +kernel
   ·show z
  show Ag (7,7,7,sg,Y,Nat.le_of_lt (AR ()),d,x1,y1,7,l,by lia,by lia,λr2 I C a0 a2=>?_);let N:=BZ (x':=I) (y':=C) l;let(j,rfl):∃j:Nat,r2=(j:Int):=(r2.32,by lia);let hj:j<sg.cps.58:=by rw[A3];lia
  let(c,x):∃c,sg.6[j]?=gl c:=(_,z7 hj);let hv:=BW x;show(sg,(j:Int),c,Y,Y,Nat.le_of_lt (AR ()),hv,ig,λp u=>q (.ref p) (.le c) _ ((f.7 N).step (AD (dH.refl _) u)) (p,Y,dG) (zM x) (Nat.zero_le _))
 rw[zK (show ¬ V.int i=V.int 3 from λz=>M (V.int.inj z))];show AU ?_
 let(h,rfl):∃h,D=h+1:=by
  cases D with
  |zero=>have:=kD rfl;lia
  |succ h=>show(h,rfl)
 let eD:((h+1:Nat):Int)-1=(h:Int):=by lia
 let step:∀{y:Hp}{vs:ly}{Q:VK}{ab:XK},eE d H y->vs=[.ref d,.ref U,.str sg,.int (((h+1:Nat):Int)-1)]->(∀v t m,eE d y m->hO m v t->t.Ok ws sg.6->t.ht<=h->Q v m)->XT (h+1) vs y Q ab:=λ{y vs Q ab}N e k=>by
  let(x2,y2,Z):=N.fV;show(d,U,x2,y2,ws,sg,by rw[e,eD],Z,N.old _ _ hw (HZ hd hw h0),h0,kP,hsg,k)
 show(7,Y,7,?_);by_cases e4:i=4
 ·rw[zH (show V.int i=V.int 4 by rw[e4])];show Ag (7,7,7,7,_,7,Y,step f Y λv t y s2 lt ok ht=>(ig,λp u=>?_));let E:=AD (dH.refl _) u (o:=HO.tup [V.str "~",v]);show q (.ref p) (.ng t) _ ((f.7 s2).step E) (p,v,Y,dG,lt.eX (eQ.of E)) ok (Nat.succ_le_succ ht)
 rw[zK (show ¬ V.int i=V.int 4 from λz=>e4 (V.int.inj z))];show AU (7,7,7,7,_,7,Y,step f Y λv1 t1 y s2 bm bC bM=>?_)
 let(g,hg,hat):∃g:Sg,g.gK/\iS ("|^&":Str).6 (i-5)=gl g.c:=by
  have:i=5\/i=6\/i=7:=by lia
  let rfl||rfl||rfl:=this
  ·show(.or,True.intro,qb)
  ·show(.xo,True.intro,qb)
  ·show(.an,True.intro,qb)
 show(7,_,7,Y,"|^&",i-5,g.c,Y,Y,jK,hat,7,7,7,7,7,_,7,Y,step (f.7 s2) Y λv2 t2 H3 s3 bn bE bN=>(jK,λp u=>?_));let(x2,y2,Z):=s2.fV;rw[Mf];let E:=AD (dH.refl _) u (o:=HO.tup [V.str g.s,v1,v2]);show q (.ref p) (.bn g t1 t2) _ (((f.7 s2).7 s3).step E) (p,v1,v2,Y,dG,(bm.eX (eE.tt Z s3)).eX (eQ.of E),bn.eX (eQ.of E)) (hg,bC,bE) (by change max t1.ht t2.ht+1<=h+1;lia)
theorem Ql(F:eP l og og HI f g)(B:Bl j)(m:j og=U (.ref f))(b:Binds l g KF [])(d:Fn P w l j base mx 2 [lI,mw] gE):∀D,AT P w l j base eK (3+D) f g KF (spTree D)
 |0=>OE F B d 0 ⟨(f,g,F.ok scTree (λvs H Q E h=>h.40) (λe A a s H vs Q E i h=>h.40),m,F.kp,b)⟩
 |D+1=>OE F B d (D+1) ⟨(f,g,by have:=Ql F B m b d D;rw[show 3+D=2+(D+1) by lia]at this;show this,m,F.kp,b)⟩
end
end Mk
namespace L2
open PySem
theorem Qm(d:PSw X st t)(a:il X b u):il X (st::b) (WQ t u):=⟨At d.h a.h⟩
end L2
namespace Mk
open PySem L2 MK PySem.NumText
mutual
structure NW(x:Str):Prop where
 pw:lj L x.6
 as:x.31 (· < 128)=L
 l6:x.3<=6
 sm:∀c∈x.6,c<97
noncomputable def lb:Nat->Nat
 |0=>14
 |h+1=>2*lb h+5
theorem XU:∀D,D<=5->lb D<=603:=by decide
theorem U1:∀D,14<=lb D
 |0=>zp _
 |h+1=>by have:=U1 h;change 14<=2*lb h+5;lia
theorem C0(x y:Str):(x++y).6=x.6++y.6:=by
 change(x.cps++y.cps).37=_
 ext
theorem Bs(x y:Str):(x++y).3=x.3+y.3:=by rw[←A3,C0,zY,A3,A3]
theorem Dm{x y:Str}(h:x.31 (· < 128)=L)(b:y.31 (· < 128)=L):(x++y).31 (· < 128)=L:=by
 rw[←Array.all_toList]at h b ⊢;rw[C0,List.all_append,h,b];rfl
structure BlS(x:Str):Prop where
 bk:Bk x.6
 as:x.31 (· < 128)=L
 l1:x.3<=1
theorem cH:BlS "":=(.inl (by rfl),qb,by trivial)
theorem cI:BlS " ":=(.inr (by rfl),qb,by trivial)
def NoL:LT->Prop
 |.nm _=>False
 |.no _=>False
 |.le _=>False
 |_=>True
noncomputable def U2:LT->Nat
 |.ng _=>3
 |.bn g _ _=>g.b-1
 |_=>0
noncomputable abbrev Pq:lr:=[lI,nh,"_law_rank"]
inductive spWrt(D:Nat)(vs:ly)(H:Hp)(Q:VK)(f:XK):Prop
 |mk (d) (a b) (v) (t) (h) (sg) (r:Nat) (i:vs=[.ref d,v,.int (r)]) (j:H d=U (.lst [.int a,.int b])) (m:hO H v t) (l:t.Ok h sg) (p:t.ht<=D) (o:r<=3) (q:D<=5) (s:∀x∈h,NW x) (w:∀c∈sg,Dc c=L)
  (u:∀z g,eE d H g->Wr L t.tr r z.6->z.31 (· < 128)=L->z.3<=lb D->Q (.str z) g)
def Yd:Nat->Sp
 |0=>λ_ _ _ _=>False
 |D+1=>spWrt D
noncomputable abbrev cJ:lr:=[lI,nh,"_law_rank","_law_blank","_law_own",pa]
theorem scWrt:AH cJ Pq (defScope Dk):=fG
noncomputable abbrev Wl:LK:=[((Sum.inr "|":Key),(.int 0)),(Sum.inr "^",(.int 1)),(Sum.inr "&",(.int 2)),(Sum.inr "~",(.int 3))]
theorem Ye{g:Sg}(h:g.gK):Aj (EC [] Wl) (Sum.inr g.s:Key)=U (.int ((g.b-1:Nat):Int)):=by cases g<;>first|trivial|rfl
theorem own_no:Aj (EC [] Wl) (Sum.inr "~":Key)=U (.int ((3:Nat):Int)):=by rfl
theorem Qn(F:eP b ni ni Dk br fd)(a3:Bl mg)(f:Fn a4 be b mg base mx 2 [lI,mw] gE)(D)(bk:Fn a4 be b mg base ni (2+D) Pq (Yd D)):AT a4 be b mg base eK (3+D) br fd Pq (spWrt D):=by
 let(fR,dR,f,mR,kR,bR):=f.ex;let(fT,dT,GT,mT,kT,bT):=bk.ex;let R:3+D=2+D+1:=by lia
 rw[R];show F.m scWrt λvs H a5 bE aR=>?_;let(d,a,a6,ar,t,ws,sg,r,rfl,hd,lt,ok,ht,hr3,hD5,hW,Y,a2):=aR;show(zd,λdc bC b0 b2 X=>?_);let hu:=CK X;let i6:eB 2 _:=X.51 ();let nd:=scWrt.nd;let bL:=XU D hD5
 show(_,il.h (Qm (LF (i:=3) nd zd (Or.inl zd) (GM V8 (.mk AL) (.mk (Ay Hq zd a3.int Ea (AA (CG Aq (gJ.h (GO f i6 zd mR kR bR .nil Af (CC (.mk (pv 0)) (CC (.mk AF) HA)))) AF (AN _)) AG)))))
  (Qm (O5 (.mk (AJ Fb (gJ.h (EJ (Ac b rfl) (.mk (pv 1)) (.mk AF) (λ_ _=>rfl))) (AZ (AA AL (AA AL (AA AL AG)))) rfl)) (Di (.mk (AI (gJ.h (GM Be (.mk (pv 3)) (.mk (Ay (eW.or Li MF) rfl a3.str EZ (AA (gJ.h (EJ (Ac b rfl) (.mk (pv 1)) (.mk AF) (λ_ _=>rfl))) AG)))))))) ID)
  (Qm (LF (i:=4) nd rfl (Or.inl rfl) (.mk (Au hu (P9 (C2 AL AF (C2 AL AF (C2 AL AF (C2 AL AF P8)))) rfl rfl qc qc) (gJ.h (EJ (Ac b rfl) (.mk (pv 1)) (.mk AF) (λ_ _=>rfl))) (λ_ _=>rfl))))
  (Qm (O5 (.mk (AJ Aq (gJ.h (EJ (Ac b rfl) (.mk (pv 1)) (.mk AF) (λ_ _=>rfl))) AL (AN _)))
   (Di (LF (i:=5) nd rfl (Or.inl rfl) (GM Be (.mk AL) (GO GT X rfl mT kT bT .nil Af (CC (.mk (pv 0)) (CC (EJ (Ac b rfl) (.mk (pv 1)) (.mk AF) (λ_ _=>rfl)) (CC (.mk AF) HA)))))))
   (Di (LF (i:=5) nd rfl (Or.inl rfl) (GM Be (GM Be (GM Be (GO GT X rfl mT kT bT .nil Af (CC (.mk (pv 0)) (CC (EJ (Ac b rfl) (.mk (pv 1)) (.mk AF) (λ_ _=>rfl)) (CC (.mk (pv 4)) HA)))) (.mk (pv 3))) (EJ (Ac b rfl) (.mk (pv 1)) (.mk AF) (λ_ _=>rfl))) (GO GT X rfl mT kT bT .nil Af (CC (.mk (pv 0)) (CC (EJ (Ac b rfl) (.mk (pv 1)) (.mk AF) (λ_ _=>rfl)) (CC (GM CQ (.mk (pv 4)) (.mk AF)) HA))))))))
  (Di (.mk (AI (gJ.h (XM (.mk (PW.pt (B8 (AJ Fp (pv 4) (pv 2) (AN _)) (Bc (AJ Aq (gJ.h (GO f i6 rfl mR kR bR .nil Af (CC (.mk (pv 0)) (CC (.mk AF) HA)))) AF (AN _)))))) (GM Be (GM Be (GM Be (.mk (pv 3)) (.mk AL)) (.mk (pv 5))) (.mk AL)) (.mk (pv 5))))))))))),?_)
 show(λh u=>∃I:Str,h=[U (.ref d),U ar,U (.int (r:Int)),U (.str I),J,J]/\BlS I/\eE d H u,λaM S=>?_,?_)
 ·show(7,d,a,a6,6,zd,hd,qc,qc,λk a1 b1 k0 k1=>(zd,.inr (7," ",7,zd,?_)));cases decide (V.int k=V.int 0)with
  |true=>show .inr (rfl,S _ _ (" ",rfl,cI,BZ hd))
  |false=>show .inl (rfl,S _ _ ("",rfl,cH,BZ hd))
 rintro h H1 ⟨I,rfl,C,q⟩;let M:=lt.eX (eE.tt hd q);let(x1,y1,jV):=q.fV
 let ab:∀{x:Str}{E:Hp},eE d H E->lj L x.6->x.31 (· < 128)=L->x.3<=13->(t.tr=.wd x)->I.3+x.3<=sizeLine/\a5 (.str (I++x)) E:=λ{x E}P pw as bO e=>by
  let l1:=C.l1;have:=U1 D;show(Nat.le_of_lt (AR ()),a2 _ _ P ?_ (Dm C.as as) (by rw[Bs];lia));rw[e,C0];show .wd x r _ C.bk pw
 show(λh u=>h=[U (.ref d),U ar,U (.int (r:Int)),U (.str I),J,J]/\NoL t/\eE d H u,λaM S=>?_,?_)
 ·have s:∀{tp},H1 tp=J->dH H1 (upd H1 tp (.tup [V.str lK,V.str lO,V.str pP])):=λl=>AD (dH.refl _) l;cases t with
  |nm x=>
   let(p,rfl,y):=M;let nw:=hW x ok;let l6:=nw.l6;show(7,p,_,0,.str lK,zd,zd,eO.of y,zd,(_),λtp l=>(tp,7,.inr (eO.of dG),zd,zd,7,Ag (7,7,p,_,1,.str x,zd,zd,eO.of (s l _ _ y),zd,.inr (x,zd,?_))));let(h1,h2):=ab (q.step (s l)) nw.pw nw.as () rfl
   ext
  |no n=>
   let(p,rfl,y):=M;let bd:n<2^40:=Nat.lt_trans ok qc;let fw:=(Mi (n:=([],[],λ_=>0)) bd).1;show(7,p,_,0,.str lO,zd,zd,eO.of y,zd,(_),λtp l=>(tp,7,.inr (eO.of dG),zd,zd,7,Ag (7,7,p,_,1,.int (n:Int),zd,zd,eO.of (s l _ _ y),zd,.inl ((n:Int),zd,LU bd,?_))));let(h1,h2):=ab (x:=HY n) (q.step (s l)) (fw.pw L (.inr rfl)) fw.ok.as fw.61 rfl
   grind
  |le c=>
   let(p,rfl,y):=M;let lw:=Mj (n:=([],[(Sum.inr ⟨#[c]⟩,(.int ((0:Nat):Int)))],λ_=>0)) (Y c ok) (by simp[Aj]);show(7,p,_,0,.str pP,zd,zd,eO.of y,zd,(_),λtp l=>(tp,7,.inr (eO.of dG),zd,zd,7,Ag (7,7,p,_,1,.str ⟨#[c]⟩,zd,zd,eO.of (s l _ _ y),zd,.inr (⟨#[c]⟩,zd,?_))));let(h1,h2):=ab (x:=⟨#[c]⟩) (q.step (s l)) (lw.pw L (.inr rfl)) lw.ok.as lw.61 rfl
   ext
  |ng t'=>
   let(p,an,rfl,y,lu):=M;show(7,p,_,0,.str "~",zd,zd,eO.of y,zd,(_),λtp l=>(tp,7,.inr (eO.of dG),zd,zd,7,AU (S _ _ (zd,True.intro,q.step (s l)))))
  |bn g t1 t2=>
   let(p,u1,u2,rfl,y,lu1,lu2):=M;show(7,p,_,0,.str g.s,zd,zd,eO.of y,zd,(_),λtp l=>(tp,7,.inr (eO.of dG),zd,zd,7,?_));rw[show(if im=L then !iG (V.str g.s) [V.str lK,V.str lO,V.str pP]else iG (V.str g.s) [V.str lK,V.str lO,V.str pP])=im by cases g<;>decide +kernel];show AU (S _ _ (zd,True.intro,q.step (s l)))
 rintro h E ⟨rfl,G,P⟩;let a0:=lt.eX (eE.tt hd P);clear ab M jV;show(λh u=>h=[U (.ref d),U ar,U (.int (r:Int)),U (.str I),U (.int (U2 t:Int)),J]/\eE d H u,λaM S=>?_,?_)
 ·intro dp a8;let sb:dH E (upd (upd E dp (.dK [])) dp (.dK (EC [] Wl))):=λa6 bX e=>by rw[AE (AK e a8),AE (AK e a8)];show e
  show(dG,Wl,rfl,qc,?_);cases t with
  |nm x=>show G.40
  |no n=>show G.40
  |le c=>show G.40
  |ng t'=>
   let(p,an,rfl,y,lu):=a0;show(7,p,_,0,.str "~",zd,zd,eO.of (sb _ _ y),zd,dp,.int ((3:Nat):Int),zd,.inl (_,Sum.inr "~",.inl dG,zd,own_no.35),S _ _ (zd,P.step sb))
  |bn g t1 t2=>
   let(p,u1,u2,rfl,y,lu1,lu2):=a0;show(7,p,_,0,.str g.s,zd,zd,eO.of (sb _ _ y),zd,dp,.int ((g.b-1:Nat):Int),zd,.inl (_,Sum.inr g.s,.inl dG,zd,(Ye ok.1).35),S _ _ (zd,P.step sb))
 rintro h H3 ⟨rfl,s3⟩;let bb:=lt.eX (eE.tt hd s3);let(x3,y3,Z):=s3.fV;clear a0 P q;show(λh u=>∃T:Str,h=[U (.ref d),U ar,U (.int (r:Int)),U (.str I),U (.int (U2 t:Int)),U (.str T)]/\eE d H u/\(∀B,B<=U2 t->Wr L t.tr B T.6)/\T.31 (· < 128)=L/\T.3+3<=lb D,λaM S=>?_,?_)
 ·let(o,rfl):∃o,D=o+1:=by
   cases D with
   |zero=>cases t with
    |nm x=>trivial
    |no n=>trivial
    |le c=>trivial
    |ng t'=>trivial
    |bn g t1 t2=>trivial
   |succ o=>simp
  let bM:=XU o ();let bF:lb (o+1)=2*lb o+5:=rfl;let l1:=C.l1;cases t with
  |nm x=>show G.40
  |no n=>show G.40
  |le c=>show G.40
  |ng t'=>
   let(p,an,rfl,y,lu):=bb;show(7,p,_,0,.str "~",zd,zd,eO.of y,zd,zd,7,?_);rw[show decide (V.str "~"=V.str "~")=L by rfl];show Ag (7,7,p,_,1,an,zd,zd,eO.of y,zd,d,x3,y3,an,t',ws,sg,3,zd,Z,lu,ok,Nat.le_of_succ_le_succ ht,qc,by lia,hW,Y,λaC H4 m wz az lz=>("~",aC,zd,zd,Nat.le_of_lt (AR (by rw[show("~":Str).3=1 by rfl];lia)),S _ _ ("~" ++ aC,zd,s3.7 m,λB N=>?_,Dm qb az,?_)))
   ·rw[C0,show("~":Str).6=[126] by rfl];show .ng _ B _ N wz
   ·rw[Bs,show("~":Str).3=1 by rfl]
    lia
  |bn g t1 t2=>
   let(p,u1,u2,rfl,y,lu1,lu2):=bb;let bI:1<=g.b:=by have:=ok.1;cases g<;>first|show this.40|decide
   let bK:g.b<=3:=by have:=ok.1;cases g<;>first|show this.40|decide
   let hm:t1.ht<=o/\t2.ht<=o:=by
    have:max t1.ht t2.ht+1<=o+1:=ht
    lia
   show(7,p,_,0,.str g.s,zd,zd,eO.of y,zd,zd,7,?_);rw[show decide (V.str g.s=V.str "~")=im by have:=ok.1;cases g<;>first|show this.40|decide +kernel];show AU ⟨_,zd,_,zd,p,_,1,u1,zd,zd,eO.of y,zd,_,zd,d,x3,y3,u1,t1,ws,sg,g.b-1,zd,Z,lu1,ok.2.1,hm.1,by lia,by lia,hW,Y,λz1 H4 m bu bl bS=>?_⟩;let a9:H4 p=_:=(eE.tt Z m) _ _ y;let bs:=lu2.eX (eE.tt Z m);let(x4,y4,al):=m.fV;let lg:g.s.3=1:=by cases g<;>decide +kernel
   let ag:g.s.31 (· < 128)=L:=by cases g<;>decide +kernel
   let cg:g.s.6=[g.c]:=by cases g<;>decide +kernel
   show(7,z1,I,zd,zd,Nat.le_of_lt (AR ()),7,p,_,0,.str g.s,zd,zd,eO.of a9,zd,z1++I,g.s,zd,zd,Nat.le_of_lt (AR (by rw[Bs];lia)),(7,7,p,_,2,u2,zd,zd,eO.of a9,zd,7,_,7,zd,d,x4,y4,u2,t2,ws,sg,g.b,?_,al,bs,ok.2.2,hm.2,by lia,by lia,hW,Y,λz2 H5 Q bB bm bW=>?_))
   ·show [V.ref d,u2,V.int (((g.b-1:Nat):Int)+1)]=[V.ref d,u2,V.int (g.b:Int)]
    grind
   show(z1++I++g.s,z2,zd,zd,Nat.le_of_lt (AR (by rw[Bs,Bs];lia)),S _ _ (7,(s3.7 m).7 Q,λB N=>?_,Dm (Dm (Dm bl C.as) ag) bm,by rw[Bs,Bs,Bs];lia))
   let e:(z1++I++g.s++z2).6=z1.6++(I.6++(g.c::z2.6)):=by
    rw[C0,C0,C0,cg];simp
   rw[e];let bN:B<=g.b-1:=N;show .bn g t1.tr t2.tr B _ _ _ ok.1 () C.bk bu bB
 rintro h H4 ⟨T,rfl,m,wz,az,lz⟩;let(x4,y4,al):=m.fV;let l1:=C.l1
 let a7:∀{H5:Hp},eE d H H5->∃i j,V.str I=.str i/\V.str "("=.str j/\i.3+j.3<=sizeLine/\∃v z,V.str (i++j)=.str v/\V.str T=.str z/\v.3+z.3<=sizeLine/\∃w A,V.str (v++z)=.str w/\V.str ")"=.str A/\w.3+A.3<=sizeLine/\a5 (.str (w++A)) H5:=λ{H5}Q=>by
  let o1:("(":Str).3=1:=by decide +kernel
  let c1:(")":Str).3=1:=by decide +kernel
  show(I,"(",zd,zd,Nat.le_of_lt (AR ()),I ++ "(",T,zd,zd,Nat.le_of_lt (AR (by rw[Bs];lia)),I ++ "(" ++ T,")",zd,zd,Nat.le_of_lt (AR (by rw[Bs,Bs];lia)),a2 _ _ Q ?_ (Dm (Dm (Dm C.as qb) az) qb) (by rw[Bs,Bs,Bs];lia))
  let e:(I ++ "(" ++ T ++ ")":Str).6=I.6++(40::(T.6++[41])):=by
   rw[C0,C0,C0,show("(":Str).6=[40] by rfl,show(")":Str).6=[41] by rfl];simp
  rw[e];show .br _ r _ _ C.bk (wz 0 (Nat.zero_le _))
 show(7,7,_,7,zd,7,BN (λ_=>?_) (λaR=>?_))
 ·show Ag ?_;let(i,j,e1,e2,R,v,z,e4,e5,e6,w,A,e7,e8,e9,e10):=a7 m;show(7,i,j,e1,e2,R,7,v,z,e4,e5,e6,w,A,e7,e8,e9,e10)
 ·show(7,d,x4,y4,6,zd,al,qc,qc,λk a1 b1 k0 k1=>(zd,7,?_));let Q:=m.7 (BZ (x':=a1) (y':=b1) al);show BN (λ_=>?_) (λ_=>?_)
  ·let(i,j,e1,e2,R,v,z,e4,e5,e6,w,A,e7,e8,e9,e10):=a7 Q;show(7,i,j,e1,e2,R,7,v,z,e4,e5,e6,w,A,e7,e8,e9,e10)
  ·have N:r<=U2 t:=by
    have:¬ ((U2 t:Int)<(r:Int)):=λaC=>aR (zH aC)
    lia
   show(7,a2 _ _ Q (wz r N) az ())
theorem U3(F:eP l ni ni Dk f g)(B:Bl j)(m:j ni=U (.ref f))(b:Binds l g Pq [])(d:Fn P w l j base mx 2 [lI,mw] gE):∀D,AT P w l j base eK (3+D) f g Pq (spWrt D)
 |0=>Qn F B d 0 ⟨(f,g,F.ok scWrt (λvs H Q E h=>h.40) (λe A a s H vs Q E i h=>h.40),m,F.kp,b)⟩
 |D+1=>Qn F B d (D+1) ⟨(f,g,by have:=U3 F B m b d D;rw[show 3+D=2+(D+1) by lia]at this;show this,m,F.kp,b)⟩
noncomputable abbrev Qo:lr:=[lI,nr,oO]
inductive spForm(vs:ly)(H:Hp)(Q:VK)(f:XK):Prop
 |mk (d wl) (a b) (g) (sg) (i:vs=[.ref d,.ref wl,.str sg]) (j:H d=U (.lst [.int a,.int b])) (m:H wl=U (.lst (g.5 V.str))) (l:0<g.3) (p:g.3<=10) (o:∀x∈g,NW x) (s:sg.3<=10) (u:∀c∈sg.6,Dc c=L)
  (r:∀q z v t h,eE d H h->h q=U (.tup [.str z,v])->hO h v t->t.Ok g sg.6->t.ht<=3->Wr L t.tr 0 z.6->z.31 (· < 128)=L->z.3<=56->Q (.ref q) h)
noncomputable abbrev Zz:lr:=[lI,nr,oO,nh,pE]
theorem scForm:AH Zz Qo (defScope FM):=fG
theorem Wm(F:eP f oP oP FM ag fd)(B:Bl g)(GT:Fn P w f g base og 6 KF (spTree 3))(m:Fn P w f g base ni 6 Pq (spWrt 3)):AT P w f g base eK 7 ag fd Qo spForm:=by
 show F.m scForm λvs H az as h=>?_;let(d,G,a,b,I,sg,rfl,hd,M,N,X,hW,Y,O,an):=h;show(zd,λdc ar aM a1 A=>?_);let D:=scForm.nd
 show(_,AC (A6 3 D (fP GT A (AA (Z 0) (AA (Z 1) (AA (Z 2) (AA AF AG))))))
  (AC (A6 4 D (fP m A (AA (Z 0) (AA (Z 3) (AA AF AG)))))
  (At (AV (AJ Iu (AS A7 rfl B.61 PySem.boot_len (AA (Z 4) AG)) AF (AN _))
   (AC (A6 3 D (AZ (AA AL (AA (Am (Ak f rfl) (Z 1) AF (λ_ _=>rfl)) AG))))
   (AB (A6 4 D (Am (Ak f rfl) (Z 1) AF (λ_ _=>rfl))))) AM)
  (AB (AI (AZ (AA (Z 4) (AA (Z 3) AG))))))),?_)
 show(7,7,7,d,G,a,b,I,sg,zd,hd,M,N,X,Y,λv t H1 Q y i C=>?_);let(x1,y1,j):=Q.fV;show(7,7,d,x1,y1,v,t,I,sg.6,0,zd,j,y,i,C,qc,qc,hW,O,λz H2 R S q E=>?_);let e:=Q.7 R;let u:=e.old _ _ M (HZ hd M N);let aR:lb 3=147:=by decide
 show(λab r=>∃(z:Str)(v:V)(t:LT),ab=[U (.ref d),U (.ref G),U (.str sg),U v,U (.str z)]/\eE d H r/\hO r v t/\t.Ok I sg.6/\t.ht<=3/\Wr L t.tr 0 z.6/\z.31 (· < 128)=L/\z.3<=56,λaC s=>?_,?_)
 ·show(7,z,zd,Nat.le_of_lt (AR ()),_,7,zd,7,BN (λ_=>?_) (λh=>?_))
  ·cases I with
   |nil=>show absurd N qc
   |cons x a0=>
    let T:=hW x (_);let l6:=T.l6;show(7,G,_,0,.str x,zd,zd,dY.of u,BW zd,ig,λp o=>?_);let l:=AD (dH.refl _) o (o:=HO.tup [V.str lK,V.str x]);show(7,G,_,0,.str x,zd,zd,dY.of (l _ _ u),BW zd,s _ _ (x,.ref p,.nm x,zd,e.step l,(p,zd,dG),zE ..,Nat.zero_le _,?_,T.as,by lia));have:=Wr.wd x 0 [] (.inl rfl) T.pw;show this
  ·show s _ _ (z,v,t,zd,e,y.eX (eE.tt j R),i,C,S,q,by
    grind)
 rintro ab H3 ⟨z,v,t,rfl,s3,lt,ok,ht,S,q,E⟩;show(7,7,ig,λp o=>?_);let l:=AD (dH.refl _) o (o:=HO.tup [V.str z,v]);show an p z v t _ (s3.step l) dG (lt.eX (eQ.of l)) ok ht S q E
noncomputable abbrev KG:lr:=[nh,pA,pU,oQ]
inductive spCome(D:Nat)(vs:ly)(H:Hp)(Q:VK)(b:XK):Prop
 |mk (v) (nu le) (t) (n:Nv) (sg) (d:vs=[v,.ref nu,.int (kn n.55:Int),.ref le]) (f:hO H v t) (h:t.Ok (n.due.5 (·.1)) sg) (m:Rd H le (.dK n.kvs)) (o:∀c∈sg,Dc c=L/\Aj n.kvs (Sum.inr ⟨#[c]⟩)=U (.int (n.tb ⟨#[c]⟩:Nat))) (g:t.ht<=D) (j:H nu=U (.dK (BF n.55))) (i:fZ n.55)
  (l:Q (.int (t.tr.gA n:Nat)) H)
def U4:Nat->Sp
 |0=>λ_ _ _ _=>False
 |D+1=>spCome D
noncomputable abbrev Z0:lr:=[nh,pA,pU,oQ,"_law_one","_law_other"]
theorem scCome:AH Z0 KG (defScope HJ):=fG
theorem Qp(d:fZ n.55)(h:x∈n.due.5 (·.1)):wv n x=look n.55 x:=by
 let(p,a,rfl):=zh.mp h;rw[(Qj d a).1.v];show(Db d.nd a).35
theorem U5(h:v<2^20):wv n (HY v)=v:=(Mi (_)).1.v
theorem Du(d:b[0]?=U (U (.ref p)))(e:H p=U (.tup (.str s::g)))(a:decide (V.str s=V.str y)=O)(k:f D b H):Xg (Sy (jQ rEq (jQ (Xm i) (Ld 0) (tC (.int 0))) (tC (.str y)))) h f D b H:=by
 show(_,d,p,_,0,.str s,Y,Y,eO.of e,BW Y,Y,7,?_);rw[a];show AU k
theorem OF(F:eP b oh oh HJ f d)(D)(G:Fn P w b j base oh (1+D) KG (U4 D)):AT P w b j base eK (2+D) f d KG (spCome D):=by
 let(fT,dT,GT,mT,kT,bT):=G.ex;let R:2+D=1+D+1:=by lia
 rw[R];show F.m scCome λvs H Q E h=>?_;let(v,nu,le,t,n,sg,rfl,lt,ok,hle,hsg,ht,hn,DO,q):=h;show(Y,λdc A ab s B=>?_);let M:=CK B;let N:=scCome.nd
 show(_,il.h (DU (O5 (.mk (AJ Aq (gJ.h (EJ (Ac b Y) (.mk (Z 0)) (.mk AF))) AL (AN _))) (Di (.mk (AI (Au M (Z 1) (gJ.h (EJ (Ac b Y) (.mk (Z 0)) (.mk AF))))))) ID)
  (DU (O5 (.mk (AJ Aq (gJ.h (EJ (Ac b rfl) (.mk (Z 0)) (.mk AF))) AL (AN _))) (Di (.mk (AI (gJ.h (EJ (Ac b rfl) (.mk (Z 0)) (.mk AF)))))) ID)
  (DU (O5 (.mk (AJ Aq (gJ.h (EJ (Ac b rfl) (.mk (Z 0)) (.mk AF))) AL (AN _))) (Di (.mk (AI (Au M (Z 3) (gJ.h (EJ (Ac b rfl) (.mk (Z 0)) (.mk AF))))))) ID)
  (DU (LF (i:=4) N rfl (Or.inl rfl) (GO GT B rfl mT kT bT .nil Af (CC (EJ (Ac b rfl) (.mk (Z 0)) (.mk AF)) (CC (.mk (Z 1)) (CC (.mk (Z 2)) (CC (.mk (Z 3)) HA))))))
  (DU (O5 (.mk (AJ Aq (gJ.h (EJ (Ac b rfl) (.mk (Z 0)) (.mk AF))) AL (AN _))) (Di (.mk (AI (gJ.h (GM Cm (.mk (Z 2)) (GM Cn (.mk (Z 2)) (.mk (Z 4)))))))) ID)
  (DU (LF (i:=5) N rfl (Or.inl rfl) (GO GT B rfl mT kT bT .nil Af (CC (EJ (Ac b rfl) (.mk (Z 0)) (.mk AF)) (CC (.mk (Z 1)) (CC (.mk (Z 2)) (CC (.mk (Z 3)) HA))))))
  (DU (O5 (.mk (AJ Aq (gJ.h (EJ (Ac b rfl) (.mk (Z 0)) (.mk AF))) AL (AN _))) (Di (.mk (AI (gJ.h (GM Cn (.mk (Z 4)) (.mk (Z 5))))))) ID)
  (Di (.mk (AI (gJ.h (XM (.mk (AJ Aq (gJ.h (EJ (Ac b rfl) (.mk (Z 0)) (.mk AF))) AL (AN _))) (GM JO (.mk (Z 4)) (.mk (Z 5))) (GM Sx (.mk (Z 4)) (.mk (Z 5))))))))))))))),?_)
 let C:∀{r:LT}{u:V}{z:VK},hO H u r->r.Ok (n.due.5 (·.1)) sg->r.ht+1<=D->z (.int (r.tr.gA n)) H->U4 D [u,.ref nu,.int (kn n.55),.ref le] H z E0:=λ{r u z}l o h X=>by
  cases D with
  |zero=>show absurd h ()
  |succ D'=>show(u,nu,le,r,n,sg,rfl,l,o,hle,hsg,by lia,hn,DO,X)
 cases t with
 |nm x=>
  let(p,rfl,hp):=lt;show(7,p,_,0,.str lK,Y,Y,eO.of hp,Y,Y,7,Ag (7,7,p,_,1,.str x,Y,Y,eO.of hp,Y,nu,7,.inl (_,Sum.inr x,.inl hn,Y,(C3 ok).35),?_));have:(LT.nm x).tr.gA n=look n.55 x:=Qp DO ok
  rwa[this]at q
 |le c=>
  let(p,rfl,hp):=lt;let(h1,h2):=hsg c ok;apply Du rfl hp (by rfl);apply Du rfl hp (by rfl);show(7,p,_,0,.str pP,Y,Y,eO.of hp,Y,Y,7,?_);let e:(LT.le c).tr.gA n=n.tb ⟨#[c]⟩:=(Mj h1 h2).v;rw[e]at q;show Ag (7,7,p,_,1,.str ⟨#[c]⟩,Y,Y,eO.of hp,Y,le,7,.inl (_,Sum.inr ⟨#[c]⟩,hle,Y,h2.35),q)
 |no m=>
  let(p,rfl,hp):=lt;apply Du rfl hp (by rfl);show(7,p,_,0,.str lO,Y,Y,eO.of hp,Y,Y,7,?_);have:(LT.no m).tr.gA n=m:=U5 ok;rw[this]at q;show Ag (7,p,_,1,.int m,Y,Y,eO.of hp,Y,q)
 |ng r=>
  let(p,u,rfl,hp,lu):=lt;apply Du rfl hp (by rfl);apply Du rfl hp (by rfl);apply Du rfl hp qb;show(7,p,_,1,u,Y,Y,eO.of hp,Y,7,7,7,C lu ok ht (7,p,_,0,.str "~",Y,Y,eO.of hp,Y,Y,7,?_));show Ag (7,7,7,_,7,Y,_,7,Y,?_)
  let e:((kn n.55:Nat))-Builtin.bitAnd ((kn n.55:Nat)) ((r.tr.gA n:Nat))=(((LT.ng r).tr.gA n:Nat)):=by
   rw[DD];change _=((kn n.55-(kn n.55&&&r.tr.gA n):Nat):Int);have:=Nat.and_le_left (n:=kn n.55) (m:=r.tr.gA n)
   lia
  change Q (V.int (((kn n.55:Nat))-Builtin.bitAnd ((kn n.55:Nat)) ((r.tr.gA n:Nat)))) H
  rwa[e]
 |bn g t1 t2=>
  let(p,u1,u2,rfl,hp,lu1,lu2):=lt;let(hg,ok1,ok2):=ok
  let I:t1.ht+1<=D/\t2.ht+1<=D:=by
   have:max t1.ht t2.ht+1<=D:=ht
   lia
  let T:∀y,y=lK \/ y=lO \/ y=pP \/ y="~" -> decide (V.str g.s=V.str y)=O:=λy S=>by
   let rfl||rfl||rfl||rfl:=S<;>cases g<;>first|show hg.40|decide +kernel
  apply Du rfl hp (T _ (.inl rfl));apply Du rfl hp (_);apply Du rfl hp (_);show(_,rfl,p,_,1,u1,rfl,rfl,eO.of hp,rfl,_,rfl,_,rfl,_,rfl,C lu1 ok1 I.1 ?_);apply Du rfl hp (_);show(_,rfl,p,_,2,u2,rfl,rfl,eO.of hp,rfl,_,rfl,_,rfl,_,rfl,C lu2 ok2 I.2 (_,rfl,p,_,0,.str g.s,rfl,rfl,eO.of hp,rfl,rfl,_,rfl,?_));cases g with
  |br=>show hg.40
  |no=>show hg.40
  |an=>
   show Ag (7,7,_,7,Y,?_);change Q (V.int (Builtin.bitAnd _ _)) H
   rwa[DD]
  |or=>
   show AU (7,p,_,0,.str Sg.or.s,Y,Y,eO.of hp,Y,Y,7,Ag (7,7,_,7,Y,?_));change Q (V.int (Builtin.bitOr _ _)) H
   rwa[C8]
  |xo=>
   show AU (7,p,_,0,.str Sg.xo.s,Y,Y,eO.of hp,Y,Y,7,AU (7,7,_,7,Y,?_));change Q (V.int (Builtin.bitXor _ _)) H
   rwa[Qf]
end
section
variable {P:PySem.Program}{w:PySem.World}{ω:FG}{mg:SV}{base:PySem.Heap}{fd:PySem.FuncData}
theorem Qq{f}(F:eP ω oh oh HJ f fd)(m:mg oh=U (.ref f))(b:Binds ω fd KG []):∀D,AT P w ω mg base eK (2+D) f fd KG (spCome D)
 |0=>OF F 0 ⟨(f,fd,F.ok scCome (λvs H Q E h=>h.40) (λd A a s H vs Q E e h=>h.40),m,F.kp,b)⟩
 |D+1=>OF F (D+1) ⟨(f,fd,by have:=Qq F m b D;rw[show 2+D=1+(D+1) by lia]at this;show this,m,F.kp,b)⟩
end
mutual
theorem k4(G:kh X.14 X.w X.K X.mg X.39 x k u s)(o:eB j X.A)(r:BS (gO X.14 X.w) X E)(q:PA X (e::f) t)(l:k<=j:=by decide)(h:Gl X x:=by rfl)(d:iw x:=by decide)(i:iK X e f:=by rfl)(a:(backTo g (starEach f X.21)).any (·.1)=O:=by rfl):PE X (.Call (.Name x p) (e::f) [] g) (M6 s [] E t):=
 let(_,_,F,m,kp,b):=G.ex
 A0 F (o.51 l) h m kp b .nil r q d i a
theorem DF(i:PE X o to)(c:iQ X.K C)(G:Mt X.14 X.w X.K X.mg X.39 C m k p l)(h:eB d X.A)(e:k<=d:=by decide)
  (ht:eval (.Call (.Attribute o m j) [] [] g) X.21=(do
   let a ←eval o X.21
   standAt j.atName
   let (f,first) ←holding [a] (getMethod a m pl)
   callWith g f first (backTo g (starEach [] X.21)) (backToKw g (keywordEach [] X.21))):=by rfl):PE X (.Call (.Attribute o m j) [] [] g) (Ko C m l [] E0 to Ce):=
 let(_,_,F,m,b):=G.ex
 Bj i c m F (h.51 e) b .nil Af ht
theorem c_m(q:PE X o to)(c:iQ X.K C)(G:Mt X.14 X.w X.K X.mg X.39 C m k v u)(l:eB i X.A)(p:PA X (e::g) t)(j:k<=i:=by decide)(a:iK X e g:=by rfl)(d:(backTo r (starEach g X.21)).any (·.1)=O:=by rfl)
  (ht:eval (.Call (.Attribute o m s) (e::g) [] r) X.21=(do
   let h ←eval o X.21
   standAt s.atName
   let (f,first) ←holding [h] (getMethod h m pl)
   callWith r f first (backTo r (starEach (e::g) X.21)) (backToKw r (keywordEach [] X.21))):=by rfl):PE X (.Call (.Attribute o m s) (e::g) [] r) (Ko C m u [] E0 to t):=
 let(_,_,F,m,b):=G.ex
 Cy q c m F (l.51 j) b .nil Af p a d ht
theorem Dv(q:PE X o to)(c:iQ X.K C)(G:CJ X.14 X.w X.K X.mg X.39 C m k w v)(l:eB i X.A)(r:BS (gO X.14 X.w) X E)(p:PA X (e::g) t)(j:k<=i:=by decide)(d:iK X e g:=by rfl)(a:(backTo s (starEach g X.21)).any (·.1)=O:=by rfl)
  (ht:eval (.Call (.Attribute o m u) (e::g) [] s) X.21=(do
   let h ←eval o X.21
   standAt u.atName
   let (f,first) ←holding [h] (getMethod h m pl)
   callWith s f first (backTo s (starEach (e::g) X.21)) (backToKw s (keywordEach [] X.21))):=by rfl):PE X (.Call (.Attribute o m u) (e::g) [] s) (Ko C m v [] E to t):=
 let(_,_,F,m,b):=G.ex
 Cy q c m F (l.51 j) b .nil r p d a ht
theorem c_v(d:I0 X.14 X.w X.K X.mg X.39 C g)(o:eB j X.A)(q:PA X (e::f) t)(l:5<=j:=by decide)(h:Gl X "Value":=by rfl)(i:iK X e f:=by rfl)(a:(backTo m (starEach f X.21)).any (·.1)=O:=by rfl):PE X (.Call (.Name "Value" p) (e::f) [] m) (S6 g (spVInit C g) [] E0 t):=
 let(_,_,M,F,b):=d.make
 Dh M F (o.51 l) h d.78 b .nil Af q qc i a
theorem fJ(h:PE X a i)(e:PE X b g)(f:starEach [a,b] X.21=(O,(eval a X.21))::starEach [b] X.21:=by rfl)(d:starEach [b] X.21=(O,(eval b X.21))::starEach [] X.21:=by rfl):PA X [a,b] (An i (An g Ce)):=AA h (fy e d) f
theorem XV(d:hX P w b g base x C)(q:eB i (B9 (gO P w) P w b g base N qual scope f m A u s H E).A)(l:2<=i:=by decide)(h:Gl (B9 (gO P w) P w b g base N qual scope f m A u s H E) x:=by rfl)(a:iw x:=by decide):
  PS (B9 (gO P w) P w b g base N qual scope f m A u s H E) (.Raise (U (.Call (.Name x p) [.Constant (.str y) j q1] [] v)) J q2) (IC C (IB C (spErrInit b) [] E0 (An (tC (.str y)) Ce)) E):=by
 let(_,_,e,o,r):=d.make;show E8 G7 Y e.78 (E7 e o (q.51 l) h d.78 r .nil Af (fy AL) a)
theorem hX.rd(a:hX P w f g base x C)(e:dH H b)(h:Uq H E C):IC C (IB C (spErrInit f) [] E0 (An (tC (.str y)) Ce)) E D i b:=
 let(_,_,d,_,_):=a.make
 J9 (te:=λ_=>tC .eJ) d.78 e h
theorem JB(h:gd b H v k n)(q:Q (.int (n:Int)) H):ExM b lO (.ref v) H (Ce f H λvs d=>gg b (.ref v::(vs++[])) d Q E):=by
 let(e,a):=id h;show(v,e,7,a,XQ _ _ (_) (_),v,k,n,Y,h,q)
theorem KH(h:gd b H v k n)(q:Q (.ref k) H):ExM b lN (.ref v) H (Ce f H λvs d=>spVKind b (.ref v::(vs++[])) d Q E):=by
 let(e,a):=id h;show(v,e,7,a,XQ _ _ (_) (_),v,k,n,Y,h,q)
theorem Wn(h:eR C H k due r)(q:∀a,dH H a->Q (.int (kn due:Int)) a):ExM C nG (.ref k) H (Ce b H λvs e=>spKnown C (.ref k::(vs++[])) e Q E):=by
 let(j,o,p,d):=h.ins;show(k,j,7,d,(Cb _ _ _),k,due,r,Y,h,λl i=>?_);rw[J8];show q l i
theorem OG{H}{due}{C d}{k}{n:Nat}{Q:VK}{E}{r}{i:Int}(h:eR C H k due r)(y:i=(n))(I:n<2^40)(z:r=n6 \/ n-(n&&&kn due)=0)(q:∀p o,dH H o->gd d o p k n->Q (.ref p) o):∀x a,H x=J->H a=J->a≠x->spVInit C d (.ref x::([.ref k,.int i]++[])) (upd (upd H a (.own x)) x (.ins d a [])) (λv e=>v=.eJ/\Q (.ref x) e) E:=by
 intro p a t l j;subst y;let u:=Bn (D:=d) t l j;show(p,a,k,due,r,n,Y,dG,h.25 u,I,z,λe F G=>(Y,q p e (BQ u t F) G))
inductive spSK(C b:l7)(vs:ly)(H:Hp)(Q:VK)(d:XK):Prop
 |mk (p1 p2 k) (n1 n2) (due) (r) (g:vs=[.ref p1,.ref p2]) (h:gd b H p1 k n1) (j:gd b H p2 k n2) (i:eR C H k due r) (m:ko due) (l:∀f,dH H f->Q (.ref k) f)
theorem cK:AH [oq,me] [oq,me] (defScope IK):=fG
theorem Z1(F:eP b pF pF IK f B)(o:Ma b g)(a:Mt P w b m base g lN 1 [lH] (spVKind g))(i:Mt P w b m base C oo 2 [lH,me] (spEqK C))
  (l:W.findIn b (.ref C) ph=U (U (.builtin mP))) (z:W.mroIn b C (.type nI)=U ii):AT P w b m base eK 4 f B [oq,me] (spSK C g):=by
 let(L,dE,i,x,G):=i.ex;show F.m cK λvs H Q E h=>?_;let(M,R,k,N,S,d,r,rfl,v,I,j,asc,q):=h;show(Y,λy A p s e=>?_);show(_,AC (AV (AJ (E6 i e G x l z) (DF (Z 0) o.cl a e) (DF (Z 1) o.cl a e) (AN _)) (AB AY) AM) (AB (AI (DF (Z 0) o.cl a e))),?_);let(dk,J,O,u):=j.ins;show(7,KH v (7,KH I (k,dk,_,k,dk,7,Y,u,u,k,k,d,r,Y,j,asc,.inr (d,r,j,asc,λD t=>(7,7,7,?_)))));rw[zH ((rfl,rfl))];show AU (7,KH (v.25 t) (q D t))
inductive spOp(g:Nat->Nat->Nat)(C b:l7)(vs:ly)(H:Hp)(Q:VK)(d:XK):Prop
 |mk (p1 p2 k) (n1 n2) (due) (r) (h:vs=[.ref p1,.ref p2]) (i:gd b H p1 k n1) (l:gd b H p2 k n2) (j:eR C H k due r) (o:ko due) (m:g n1 n2<2^40) (p:r=n6 \/ g n1 n2-(g n1 n2&&&kn due)=0) (s:∀q f,dH H f->gd b f q k (g n1 n2)->Q (.ref q) f)
noncomputable abbrev kX(a b:Nat):Nat:=a|||b
noncomputable abbrev KS(a b:Nat):Nat:=a-(a&&&b)
theorem cL:AH [oq,me] [oq,me] (defScope PU):=fG
theorem Z2(F:eP g "union" "union" PU f B)(u:I0 P w g m base C b)(a:Mt P w g m base b lO 1 [lH] (gg b))(M:Fn P w g m base pF 4 [oq,me] (spSK C b)):AT P w g m base eK 6 f B [oq,me] (spOp kX C b):=by
 let x:=u.VT.cl;show F.m cL λvs H Q E h=>?_;let(G,J,k,o,v,l,r,rfl,y,z,t,asc,lt,i,q):=h;show(Y,λR A j s d=>?_);show(_,AB (AI (c_v u d (fJ (fP M d (fJ (Z 0) (Z 1))) (AX JO (DF (Z 0) x a d) (DF (Z 1) x a d))))),7,7,G,J,k,o,v,l,r,Y,y,z,t,asc,λN e=>(7,JB (y.25 e) (7,JB (z.25 e) (_,7,Y,OG (t.25 e) (C8 o v) lt i λp D I=>q p D (e.7 I)))))
theorem cS:AH [oq,me] [oq,me] (defScope Jt):=fG
theorem Z3(F:eP g "without" "without" Jt f B)(u:I0 P w g m base C b)(a:Mt P w g m base b lO 1 [lH] (gg b))(M:Fn P w g m base pF 4 [oq,me] (spSK C b)):AT P w g m base eK 6 f B [oq,me] (spOp KS C b):=by
 let x:=u.VT.cl;show F.m cS λvs H Q E h=>?_;let(G,J,k,o,v,l,r,rfl,y,z,t,asc,lt,i,q):=h;show(Y,λR A j s d=>?_);show(_,AB (AI (c_v u d (fJ (fP M d (fJ (Z 0) (Z 1))) (AX Cn (DF (Z 0) x a d) (DB Lh (DF (Z 1) x a d)))))),7,7,G,J,k,o,v,l,r,Y,y,z,t,asc,λN e=>(7,JB (y.25 e) (7,JB (z.25 e) (7,_,7,Y,OG (t.25 e) (EM o v) lt i λp D I=>q p D (e.7 I)))))
inductive spTu(C b:l7)(vs:ly)(H:Hp)(Q:VK)(d:XK):Prop
 |mk (p k) (n) (due) (r) (g:vs=[.ref p]) (h:gd b H p k n) (j:eR C H k due r) (i:kn due<2^20) (l:∀q f,dH H f->gd b f q k (kn due-(kn due&&&n))->Q (.ref q) f)
theorem cU:AH [oq] [oq] (defScope MR):=fG
theorem Z4(F:eP b "turned" "turned" MR f B)(T:Fm b C)(u:I0 P w b m base C g)(o:Mt P w b m base g lO 1 [lH] (gg g))(a:Mt P w b m base g lN 1 [lH] (spVKind g))(y:Mt P w b m base C nG 2 [lH] (spKnown C)):AT P w b m base eK 6 f B [oq] (spTu C g):=by
 let j:=u.VT.cl;show F.m cU λvs H Q E h=>?_;let(p,k,n,D,r,rfl,e,t,lt,q):=h;show(Y,λz A l s d=>?_);show(_,AB (AI (c_v u d (fJ (DF (Z 0) j a d) (AX Cn (DF (DF (Z 0) j a d) T.cl y d) (DB Lh (DF (Z 0) j o d)))))),7,KH e (7,KH e (Wn t λG i=>(7,JB (e.25 i) (7,_,7,Y,OG (t.25 i) (EM _ n) ?_ (.inr (QZ _ _)) λp v x=>q p v (i.7 x))))))
 lia
noncomputable def ia:lr:=["a","ab","b",qf,"q","x"]
theorem Hg{b:Type}[BEq b][LawfulBEq b]:∀{l m:List b},l.29->(∀x∈l,x∈m)->l.3<=m.3
 | [],m,_,_=>Nat.zero_le _
 |a::l,m,h,s=>by
  let(i,e):=zi.mp h;let d:=s a (_);have:=Hg (m:=m.erase a) e λx j=>(List.mem_erase_of_ne (λz=>i (_))).53 (s x (_));rw[List.length_erase_of_mem d]at this;have:=List.length_pos_of_mem d;rw[length_cons]
  lia
noncomputable def Dw(f:En)(x:Str)(v:Option (Nat×Nat)):En:=λy=>if y=x then v else f y
theorem Eh(f)(x)(v):Dw f x v x=v:=zf rfl
theorem Ei(f)(v)(h:y≠x):Dw f x v y=f y:=zg h
structure ip(ms:lr)(f:En):Prop where
 nd:ms.29
 w:∀x∈ms,x∈ia
 mem:∀x,x∈ms ↔ f x≠J
theorem ip.len{a}(h:ip a f):a.3<=6:=Hg h.nd h.w
theorem ip.eqlen(h:ip b f)(g:ip d f):b.3=d.3:=Nat.le_antisymm (Hg h.nd λx a=>(g.mem x).53 ((h.mem x).mp a)) (Hg g.nd λx a=>(h.mem x).53 ((g.mem x).mp a))
abbrev TpE(H:Hp)(t:l7)(n c:Nat):Prop:=H t=U (.tup [.int (n:Int),.int (c:Int)])
structure iu(H:Hp)(kvs:LK)(f:En):Prop where
 ks:∃ms,kvs.5 (·.1)=ms.5 Sum.inr/\ip ms f
 vl:∀x n c,f x=U (n,(c))->∃t,Aj kvs (Sum.inr x)=U (.ref t)/\TpE H t n c
theorem inr_mem{a:lr}:(Sum.inr x:Key)∈a.5 Sum.inr ↔ x∈a:=by
 ext
theorem Im{b:LK}(h:k∉ b.5 (·.1)):Aj b k=J:=by
 cases e:Aj b k with
 |none=>rfl
 |some v=>show absurd (Vj e) h
theorem iu.no{f}{x}(h:iu H b f)(e:f x=J):Aj b (Sum.inr x)=J:=by
 let(i,a,d):=h.ks;apply Im;rw[a,inr_mem,d.mem]
 ext
theorem iu.is(h:iu H b f)(x):(Aj b (Sum.inr x)).26=(f x).26:=by
 cases e:f x with
 |none=>rw[h.no e];rfl
 |some v=>let(t,a,_):=h.vl x v.1 v.2 e;ext
theorem iu.len(h:iu H b f):∃a,ip a f/\b.3=a.3:=by
 let(a,d,e):=h.ks;show(a,e,?_);have:=congrArg List.length d
 rwa[AO,AO]at this
theorem iu.small(h:iu H b f):b.3<sizeLine:=by
 let(e,a,d):=h.61;have:=a.61;show AR ()
theorem iu.keep(s:∀b g,H b=U (.tup g)->i b=U (.tup g))(h:iu H j f):iu i j f:=(h.ks,λx n c e=>by let(t,d,a):=h.vl x n c e;show (t,d,s _ _ a))
theorem iu.put(h:iu H g f)(D:x∈ia)(ht:TpE H t n c):iu H (Bp g (Sum.inr x) (.ref t)) (Dw f x (U (n,(c)))):=by
 let(l,q,i):=h.ks;show(?_,λy m d e=>?_)
 ·by_cases o:x∈l
  ·show(l,?_,i.nd,i.w,λy=>?_)
   ·have:(Bp g (Sum.inr x) (.ref t)).5 (·.1)=g.5 (·.1):=by
     unfold Bp
     let p:(g.any λj=>decide (j.1=Sum.inr x))=L:=by
      rw[DQ,h.is x];cases e:f x with
      |none=>show absurd e ((i.mem x).mp o)
      |some v=>rfl
     rw[zf p,map_map];show List.map_congr_left λj _=>?_;change(if j.1=Sum.inr x then (j.1,(V.ref t))else j).1=j.1;split<;>rfl
    rw[this,q]
   ·rw[i.mem];by_cases e:y=x
    ·subst e;rw[Eh];show(λ_=>(λz=>nomatch z),λ_=>(i.mem y).mp o)
    ·rw[Ei _ _ e]
  ·show(l++[x],?_,?_,λy r=>?_,λy=>?_)
   ·rw[E3 _ (h.no (Classical.byContradiction λz=>o ((i.mem x).53 z))),zl,zl,q];rfl
   ·show nodup_append.53 (i.nd,zi.53 (not_mem_nil,nodup_nil),λa p b u=>?_)
    grind
   ·let z||z:=mem_append.mp r
    ·show i.w y z
    ext
   ·rw[mem_append,i.mem];by_cases e:y=x
    ·subst e;rw[Eh]
     ext
    ·rw[Ei _ _ e]
     ext
 ·rw[JQ];by_cases z:y=x
  ·subst z;rw[Eh]at e
   grind
  ·rw[Ei _ _ z]at e;let(C,a,b):=h.vl y m d e
   grind
theorem Io(k j):∀b:LK,Aj (CA b k) j=if j=k then J else Aj b j
 | []=>by unfold CA;rw[List.filter_nil,M9];simp
 |p::r=>by
  by_cases e:p.1=k
  ·rw[RP e,Io k j r];by_cases z:j=k
   ·ext
   ·rw[zg z,zg z,A8 (λq=>z (q.symm.7 e))]
  ·rw[RS e];by_cases z:p.1=j
   ·rw[BD z,BD z,zg (λq=>e (z.7 q))]
   ·rw[A8 z,A8 z,Io k j r]
theorem iu.drop(h:iu H g f):iu H (CA g (Sum.inr x)) (Dw f x J):=by
 let(j,v,i):=h.ks;show((j.30 λy=>decide (y≠x),?_,i.nd.sublist List.filter_sublist,λy u=>i.w y (mem_filter.mp u).1,λy=>?_),λy m d e=>?_)
 ·have:∀(l:LK)(m:lr),l.5 (·.1)=m.5 Sum.inr->(l.30 λo=>decide (o.1≠Sum.inr x)).5 (·.1)=(m.30 λy=>decide (y≠x)).5 Sum.inr:=by
   intro l;induction l with
   |nil=>ext
   |cons p r C=>
    intro m e;cases m with
    |nil=>cases e
    |cons y m=>
     grind
  show this g j v
 ·rw[mem_filter,i.mem];by_cases e:y=x
  ·subst e;rw[Eh]
   ext
  ·rw[Ei _ _ e]
   ext
 ·by_cases z:y=x
  ·subst z;rw[Eh]at e;cases e
  ·rw[Ei _ _ z]at e;let(t,a,b):=h.vl y m d e;show(t,by rw[Io,zg (λq=>z (Sum.inr.inj q))];show a,b)
def BfAt(H:Hp)(v:V)(b:Option (Nat×Nat)):Prop:=(b=J/\v=.eJ)\/∃n c t,b=U (n,(c))/\v=.ref t/\TpE H t n c
inductive iY(H:Hp)(a:l7)(p:Str×Option (Nat×Nat)):Prop
 |mk (v) (b:H a=U (.tup [.str p.1,v])) (d:BfAt H v p.2)
structure Za where
 (b k e l:l7)
def FX(k:V)(d l:l7):List (Str×V):=BH qA (.ref l) (BH mZ (.ref d) (BH mu k []))
def jy(due:Aa)(r:Str)(f:En):Prop:=∀x n c,f x=U (n,(c))->n<2^20/\(r=n6 \/ n-(n&&&kn due)=0)
abbrev jj:=List (PySem.Str×Option (Nat×Nat))
structure gk(BC C:l7)(z:Za)(due:Aa)(r:Str)(f:En)(D:jj)(H:Hp):Prop where
 bk:∃dx,H z.b=U (.ins BC dx (FX (.ref z.k) z.e z.l))
 ka:eR C H z.k due r
 en:∃kvs,H z.e=U (.dK kvs)/\iu H kvs f
 de:∃as,H z.l=U (.lst (as.5 V.ref))/\Paired (iY H) as D/\D.3<=100
 ok:jy due r f
theorem BfAt.keep(s:∀b f,H b=U (.tup f)->g b=U (.tup f))(h:BfAt H v b):BfAt g v b:=by
 let h||(n,c,t,e,d,a):=h
 ·show .inl h
 ·show .inr (n,c,t,e,d,s _ _ a)
theorem iY.keep(s:∀b f,H b=U (.tup f)->g b=U (.tup f))(h:iY H a p):iY g a p:=by
 let(v,d,e):=h;show(v,s _ _ d,e.34 s)
structure C5(K:FG)(BC:l7):Prop where
 cl:iQ K BC
 nK:gf K BC mu
 nE:gf K BC mZ
 nD:gf K BC qA
theorem Z5(k)(d l){m:Str}(h:¬ m=qA:=by decide +kernel)(e:¬ m=mZ:=by decide +kernel)(a:¬ m=mu:=by decide +kernel):(FX k d l).8 m=J:=by
 unfold FX;rw[Aw,zg h,Aw,zg e,Aw,zg a];rfl
theorem cV(k)(d l):(FX k d l).8 (mu:Str)=U k:=by
 rfl
theorem Sf(k)(d l):(FX k d l).8 (mZ:Str)=U (.ref d):=by
 rfl
theorem cW(k)(d l):(FX k d l).8 (qA:Str)=U (.ref l):=by
 rfl
theorem gk.same{due}{r}(s:dH H m)(h:gk g C z due r f D H):gk g C z due r f D m:=by
 let((p,x),o,(a,l,v),(i,d,u,j),y):=h;show((p,s _ _ x),o.25 s,(a,s _ _ l,v.34 λb t e=>s _ _ e),(i,s _ _ d,Paired.imp' (λ_ _ q=>q.34 λb t e=>s _ _ e) u,j),y)
theorem kQ(a:C5 g b)(h:gk b C z due r f D H)(q:e (.ref z.e)):ExF g (.ref z.b) H mZ e:=by
 let(i,d):=h.bk;show(z.b,b,i,_,7,d,a.cl,a.nE,Sf _ _ _,q)
theorem g_d(a:C5 g b)(h:gk b C z due r f D H)(q:e (.ref z.l)):ExF g (.ref z.b) H qA e:=by
 let(i,d):=h.bk;show(z.b,b,i,_,7,d,a.cl,a.nD,cW _ _ _,q)
theorem jW(a:C5 g b)(h:gk b C z due r f D H)(q:e (.ref z.k)):ExF g (.ref z.b) H mu e:=by
 let(i,d):=h.bk;show(z.b,b,i,_,7,d,a.cl,a.nK,cV _ _ _,q)
inductive spEn(b C d:l7)(vs:ly)(H:Hp)(Q:VK)(E:XK):Prop
 |mk (z) (due) (r) (g) (D) (x) (n c) (f:vs=[.ref z.b,.str x]) (h:gk b C z due r g D H) (j:g x=U (n,(c))) (i:∀t,TpE H t n c->Q (.ref t) H)
 |no (z) (due) (r) (g) (D) (x) (f:vs=[.ref z.b,.str x]) (h:gk b C z due r g D H) (j:g x=J) (i:Uq H E d)
theorem cX:AH [lH,lK] [lH,lK] (defScope Gh):=fG
theorem Z6(F:eP b qG "Book.entry" Gh f R)(j:C5 b M)(v:hX P w b m base mG N)(G:Fn P w b m base oK 1 [lM,mQ] (DK b)):AT P w b m base (gO P w) 3 f R [lH,lK] (spEn M C N):=by
 show F.jR cX (λvs H Q E h=>?_) (λS A o s H vs Q E i h=>?_)
 ·let(_,_,_,_,_,_,_,_,rfl)||(_,_,_,_,_,_,rfl):=h<;>rfl
 ·show(_,AC (AV (Ao (Ai (fP G i (fJ (Z 1) (Ad (Z 0) rfl))))) (AB (XV v i)) AM) (AB (AI (Au (CK i) (Ad (Z 0) rfl) (Z 1)))),?_);let(z,p,r,g,D,x,n,c,rfl,B,e,q)||(z,p,r,g,D,x,rfl,B,e,I):=h
  ·let(a,d,l):=B.en;show(7,7,kQ j B (.inl (x,z.e,a,Y,.inl d,7,?_)));let(t,u,y):=l.vl x n c e;rw[u];show AU (7,kQ j B (7,z.e,7,.inl (_,Sum.inr x,.inl d,Y,u.35),q t y))
  ·let(a,d,l):=B.en;show(7,7,kQ j B (.inl (x,z.e,a,Y,.inl d,7,?_)));rw[l.no e];show Ag (v.rd (dH.refl _) I)
inductive spVl(b C d f:l7)(vs:ly)(H:Hp)(Q:VK)(E:XK):Prop
 |mk (z) (due) (r) (g) (D) (x) (n c) (i:vs=[.ref z.b,.str x]) (j:gk b C z due r g D H) (m:g x=U (n,(c))) (l:∀p h,dH H h->gd d h p z.k n->Q (.ref p) h)
 |no (z) (due) (r) (g) (D) (x) (i:vs=[.ref z.b,.str x]) (j:gk b C z due r g D H) (m:g x=J) (l:Uq H E f)
theorem gk.no{H}{due}{C}{a}{z}{r}{g}{D}{m:Str}{b}{t:TA}{k}(B:gk a C z due r g D H)(q:t b H k)(j:¬ m=qA:=by decide +kernel)(h:¬ m=mZ:=by decide +kernel)(e:¬ m=mu:=by decide +kernel):ExM a m (.ref z.b) H (t b H k):=by
 let(i,d):=B.bk;show(z.b,i,7,d,Z5 _ _ _ j h e,q)
theorem cY:AH [lH,lK] [lH,lK] (defScope Gi):=fG
theorem Z7(F:eP b nZ "Book.value" Gi f M)(e:C5 b m)(v:I0 P w b y base C G)(o:CJ P w b y base m qG 3 [lH,lK] (spEn m C I)):AT P w b y base (gO P w) 6 f M [lH,lK] (spVl m C G I):=by
 show F.jR cY (λvs H Q E h=>?_) (λu A j s H vs Q E l h=>?_)
 ·let(_,_,_,_,_,_,_,_,rfl)||(_,_,_,_,_,_,rfl):=h<;>rfl
 ·show(_,AB (AI (c_v v l (fJ (Ad (Z 0) rfl) (Am (Ac b rfl) (Dv (Z 0) e.cl o l G6 (fy (Z 1))) AF (λ_ _=>rfl))))),?_);let(z,a,r,g,D,x,n,c,rfl,B,d,q)||(z,a,r,g,D,x,rfl,B,d,p):=h
  ·let(lt,i):=B.ok x n c d;show(7,jW e B (7,B.no (7,.mk z a r g D x n c Y B d λt ht=>(t,_,0,7,Y,eO.of ht,Y,OG B.ka Y () i q))))
  ·show(7,jW e B (7,B.no (7,.no z a r g D x Y B d p)))
inductive spCh(b C:l7)(vs:ly)(H:Hp)(Q:VK)(d:XK):Prop
 |mk (z) (due) (r) (g) (D) (x) (n c) (f:vs=[.ref z.b,.str x]) (h:gk b C z due r g D H) (j:g x=U (n,(c))) (i:Q (.int (c:Int)) H)
theorem cZ:AH [lH,lK] [lH,lK] (defScope EV):=fG
theorem Z8(F:eP b pQ "Book.changes" EV f p)(l:C5 b m)(j:CJ P w b u base m qG 3 [lH,lK] (spEn m C v)):AT P w b u base (gO P w) 4 f p [lH,lK] (spCh m C):=by
 show F.n cZ λvs H Q E h=>?_;let(z,a,r,g,D,x,n,c,rfl,B,o,q):=h;show(Y,λe A d s i=>?_);show(_,AB (AI (Am (Ac b Y) (Dv (Z 0) l.cl j i G6 (fy (Z 1))) AF (λ_ _=>rfl))),7,B.no (7,.mk z a r g D x n c Y B o λt ht=>(t,_,1,7,Y,eO.of ht,Y,q)))
inductive spNs(b C:l7)(vs:ly)(H:Hp)(Q:VK)(d:XK):Prop
 |mk (z) (due) (r) (g) (D) (i:vs=[.ref z.b]) (j:gk b C z due r g D H) (m:∀l h f,dH H f->f l=U (.lst (h.5 V.str))->ip h g->PyProof.Rows.sortedS h=L->Q (.ref l) f)
theorem ip.perm(h:ip b g)(p:d.Perm b):ip d g:=(p.nodup_iff.53 h.nd,λx a=>h.w x (p.mem_iff.mp a),λx=>(p.mem_iff).7 (h.mem x))
theorem cb:AH [lH] [lH] (defScope Gj):=fG
theorem Z9(F:eP b mQ "Book.names" Gj f M)(B:Bl N)(u:C5 b m):AT P w b N base eK 1 f M [lH] (spNs m C):=by
 show F.m cb λvs H Q E h=>?_;let(z,J,r,g,D,rfl,i,q):=h;show(Y,λx A d s R=>?_);let(a,G,v):=i.en;let(I,o,e):=v.ks;have:=e.61;show(_,AB (AI (AS (Fx Y) Y B.sorted Ff (fy (Ad (Z 0) Y)))),7,kQ u i (z.e,a,I,Y,.inl G,o,by lia,λl t p j y=>q l t _ (AD (dH.refl _) p) dG (e.perm j) y))
inductive spLn(b C:l7)(vs:ly)(H:Hp)(Q:VK)(d:XK):Prop
 |mk (z) (due) (r) (g) (D) (h:vs=[.ref z.b]) (i:gk b C z due r g D H) (j:∀f,ip f g->Q (.int (f.3:Int)) H)
theorem cc:AH [lH] [lH] (defScope Jx):=fG
theorem aA(F:eP b qz "Book.__len__" Jx f y)(B:Bl G)(l:C5 b m):AT P w b G base eK 1 f y [lH] (spLn m C):=by
 show F.m cc λvs H Q E h=>?_;let(z,v,r,g,D,rfl,e,q):=h;show(Y,λp A d s x=>?_);let(a,t,o):=e.en;let(u,j,i):=o.61;show(_,AB (AI (AS Ky Y B.61 PySem.boot_len (fy (Ad (Z 0) Y)))),7,kQ l e (z.e,a,Y,t,?_));rw[i];show q u j
def jz(z:Za)(H d:Hp):Prop:=∀b o,H b=U o->b≠z.e->b≠z.l->d b=U o
noncomputable def ir(g:En)(x:Str)(n:Nat):En:=Dw g x (U (n,match g x with|none=>0|some (m,c)=>if n=m then c else c+1))
theorem gk.deed(B:gk y C z due r g D H)(s:jz z H f)(M:∃m,f z.e=U (.dK m)/\iu f m w)(G:∃d a,H z.l=U (.lst (d.5 V.ref))/\f z.l=U (.lst ((d++[a]).5 V.ref))/\iY f a p)(A:D.3<100)(ok:jy due r w):gk y C z due r w (D++[p]) f:=by
 let((t,J),E,(m,h3,h4),(d,v,R,Z),h8):=B;let j:∀{b:l7}{o:HO},H b=U o->(∀P,o≠ .dK P)->(∀i,o≠ .lst i)->f b=U o:=λ{b o}e X n2=>s b o e (λz=>by grind) (λz=>by grind);let ab:∀b i,H b=U (.tup i)->f b=U (.tup i):=λb i e=>j e (λ_ z=>nomatch z) (λ_ z=>nomatch z);let(bs,a,u,N,S):=G;rw[v]at u;have:=HO.lst.inj (Option.some.inj u);let l:=(List.map_inj_right (λx ag h=>V.ref.inj h)).mp this;subst l;show((t,j J (λ_ z=>nomatch z) (λ_ z=>nomatch z)),?_,M,(d++[a],N,?_,by grind),ok)
 ·let(t,F,O,Q,I,a,b,c):=E.ex;show⟨(t,F,O,Q,I,j a (λ_ z=>nomatch z) (λ_ z=>nomatch z),j b (λ_ z=>nomatch z) (λ_ z=>nomatch z),j c (λ_ z=>nomatch z) (λ_ z=>nomatch z))⟩
 ·have q:∀{d:List l7}{D:jj},Paired (iY H) d D->Paired (iY f) (d++[a]) (D++[p]):=λh=>by
   induction h with
   |nil=>show .cons S .nil
   |cons a r T=>show .cons (a.34 ab) T
  show q R
inductive iT(b C d:l7)(vs:ly)(H:Hp)(Q:VK)(f:XK):Prop
 |mk (z) (due) (r) (g) (D) (x) (v) (n) (i:vs=[.ref z.b,.str x,.ref v]) (j:gk b C z due r g D H) (m:gd d H v z.k n) (l:x∈ia) (p:D.3<100) (o:n<2^20/\(r=n6 \/ n-(n&&&kn due)=0)) (q:∀h,jz z H h->gk b C z due r (ir g x n) (D++[(x,(g x))]) h->Q .eJ h)
noncomputable abbrev NGv:lr:=[lH,lK,nZ,"before",lO,pQ]
theorem scGv:AH NGv [lH,lK,nZ] (defScope IQ):=fG
theorem aB(F:eP d "give" "Book.give" IQ ar fd)(f:C5 d r)(VT:Ma d q)(ag:Mt al aM d mg base q lO 1 [lH] (gg q)):AT al aM d mg base eK 2 ar fd [lH,lK,nZ] (iT r a0 q):=by
 show F.m scGv λvs H a3 a2 h=>?_;let(z,due,a6,g,a1,x,aC,n,rfl,B,hv,hx,hl,hn,az):=h;show(Y,λdc aR a5 a7 R=>?_);let hu:=CK R;let N:=scGv.nd
 show(_,AC (A6 3 N (TH hu (Ad (Z 0) Y) (Z 1) (Y,Y,Y,Y)))
  (AC (A6 4 N (DF (Z 2) VT.cl ag R))
  (AC (A6 5 N AF)
  (At (AV (Do (VR (Z 3))) (AB (A6 5 N (Bi (AJ Aq (Z 4) (Am (Ac d rfl) (Z 3) AF (λ_ _=>rfl)) (AN _)) (Am (Ac d rfl) (Z 3) AF (λ_ _=>rfl)) (AX CQ (Am (Ac d rfl) (Z 3) AF (λ_ _=>rfl)) AF)))) AM)
  (AC (Ae (Bg (Ad (Z 0) rfl) (fy (AZ (fJ (Z 1) (Z 3))))))
  (AB (EB hu (Ad (Z 0) rfl) (Z 1) (AZ (fJ (Z 4) (Z 5))) rfl)))))),?_)
 let(j,hk,S):=B.en;let(as,l,hpd,_):=B.de
 let(u,j6,L):∃u,(Aj j (Sum.inr x)).45 .eJ=u/\BfAt H u (g x):=by
  show(_,rfl,?_);cases e:g x with
  |none=>rw[S.no e];show .inl (Y,Y)
  |some y=>let(t,C,A):=S.vl x y.1 y.2 e;rw[C];show .inr (_,_,t,Y,Y,A)
 show(7,kQ f B (z.e,Y,.inl (_,.inl hk),7,_,.inl (_,Sum.inr x,.inl hk,Y,Y),?_));rw[j6];show(7,JB hv (λab H'=>H'=H/\∃c:Nat,ab=[U (.ref z.b),U (.str x),U (.ref aC),U u,U (.int n),U (.int c)]/\Dw g x (U (n,(c)))=ir g x n,λa4 T=>?_,?_))
 ·show(_,rfl,_,rfl,?_);let(e,rfl)||(m,c,t,e,rfl,ht):=L
  ·show AU (T _ _ (Y,0,Y,?_));unfold ir;rw[e]
  ·show Ag (7,7,t,_,0,7,Y,eO.of ht,Y,Y,7,BN (λh=>?_) (λh=>?_))
   ·have hh:n=m:=by have:=V.int.inj (zR h);lia
    show(7,t,_,1,7,Y,eO.of ht,Y,T _ _ (Y,c,Y,?_));unfold ir
    ext
   ·have hh:¬ n=m:=λe=>h (zH (by rw[e]));show(7,t,_,1,7,Y,eO.of ht,Y,_,7,Y,T _ _ (Y,c+1,Y,?_));unfold ir
    ext
 rintro ab s ⟨rfl,c,rfl,Q⟩;show(7,g_d f B (.inl (Y,_,dY.of l),7,7,ig,λa ha=>?_));let sa:=AD (dH.refl s) ha (o:=HO.tup [V.str x,u]);let fg:=hpd.3;show(z.l,_,7,Y,sa _ _ l,AR (_),?_);generalize D:upd (upd s a (HO.tup [V.str x,u])) z.l (HO.lst (as.5 V.ref++[V.ref a]))=v;let G:z.e≠z.l:=λy=>by ext
 let M:∀b o,s b=U o->b≠z.l->v b=U o:=λb o e X=>by rw[←D,AE X];show sa _ _ e
 let I:=M _ _ hk G;let(dx,X):=B.bk;show(7,7,ig,λt ht=>?_);let st:=AD (dH.refl v) ht (o:=HO.tup [V.int n,V.int c]);show(7,(z.b,r,dx,_,7,st _ _ (M _ _ X (λy=>by ext)),f.cl,f.nE,Sf _ _ _,7,z.e,7,iP.k (k:=Sum.inr x) (st _ _ I) S.small,?_));let p:(upd v t (HO.tup [V.int n,V.int c])) t=U (.tup [.int n,.int c]):=dG;generalize e3:upd v t (HO.tup [V.int n,V.int c])=w at st p;let P:jz z s (upd w z.e (.dK (Bp j (Sum.inr x) (.ref t)))):=λb o e C A=>by rw[AE C];show st _ _ (M b o e A)
 let E:∀b i,w b=U (.tup i)->(upd w z.e (.dK (Bp j (Sum.inr x) (.ref t)))) b=U (.tup i):=λb i e=>by rw[AE (λy=>by rw[y,st _ _ I]at e;cases e)];show e
 let t1:∀b i,s b=U (.tup i)->w b=U (.tup i):=λb i e=>st _ _ (M b _ e (λy=>by ext));show az _ P (B.deed P (_,dG,?_) (as,a,l,?_,u,?_,?_) hl ?_)
 ·rw[←Q];show((S.34 t1).put hx p).34 E
 ·rw[AE (Ne.symm G),zl];apply st _ _;rw[←D,dG];rfl
 ·show E _ _ (st _ _ ?_);rw[←D,AE (λy=>by ext),dG]
 ·show(L.34 t1).34 E
 ·rw[←Q];intro y m an e;by_cases hy:y=x
  ·subst hy;rw[Eh]at e
   ext
  ·rw[Ei _ _ hy]at e;show B.ok y m an e
theorem Qr(h:x∈due.5 (·.1)):∃p∈due,look due x=p.2:=by
 unfold look;cases q:due.find? λp=>decide (p.1=x)with
 |none=>
  grind
 |some p=>grind
def iO(due:Aa)(n:Nat):Prop:=n-(n&&&kn due)=0
theorem iO.iff:iO due n ↔ ∀k,n.testBit k=L->(kn due).testBit k=L:=by
 constructor
 ·intro h k a;have:=congrArg (λm=>m.testBit k) h;simp[Mb,a]at this;simpa using this
 ·intro h;show Nat.eq_of_testBit_eq λk=>?_;rw[Mb]
  ext
theorem iO.or{due}{n m}(h:iO due n)(g:iO due m):iO due (n|||m):=iO.iff.mpr λk a=>by
 rw[Nat.testBit_or,Bool.or_eq_true]at a;show a.40 (iO.iff.mp h k) (iO.iff.mp g k)
theorem iO.sub(m)(h:iO due n):iO due (n-(n&&&m)):=iO.iff.mpr λk a=>by
 rw[Mb,Bool.and_eq_true]at a;show iO.iff.mp h k a.1
theorem KJ{due}{a:lr}(b:∀x∈a,x∈due.5 (·.1)):iO due (Ah (a.5 (look due))):=iO.iff.mpr λk e=>by
 rw[DJ,any_map,any_eq_true]at e;let(x,d,i):=e;let(p,h,e):=Qr (b x d);unfold kn;rw[DJ]
 grind
theorem OH{a:lr}(b:∀x∈a,x∈due.5 (·.1))(h:∀p∈due,p.2<2^20):Ah (a.5 (look due))<2^20:=by
 show FA λn d=>?_;let(x,i,rfl):=zh.mp d;let(p,j,e):=Qr (b x i)
 grind
structure NmO(due:Aa)(ns:lr):Prop where
 l:ns.3<=100
 s:∀x∈ns,x∈due.5 (·.1)
 lt:∀p∈due,p.2<2^20
noncomputable abbrev sqO(b:Bool)(d:ly):HO:=if b then .tup d else .lst d
inductive spVo(C d:l7)(vs:ly)(H:Hp)(Q:VK)(f:XK):Prop
 |mk (b) (k l) (due) (r) (ns) (h:vs=[.ref k,.ref l]) (i:eR C H k due r) (m:H l=U (sqO b (ns.5 V.str))) (j:NmO due ns) (o:∀q g,dH H g->gd d g q k (Ah (ns.5 (look due)))->Q (.ref q) g)
theorem ci:AH [lN,mQ] [lN,mQ] (defScope Js):=fG
theorem aD(F:eP f pB pB Js ab fd)(B:Bl g)(T:Fm f C)(m:I0 P w f g base C h)(s:Fn P w f g base pj 1 [lZ] (spUnionOf f))(X:Mt P w f g base C lO 2 [lH,lK] (spNumber C)):AT P w f g base eK 6 ab fd [lN,mQ] (spVo C h):=by
 show F.m ci λvs H Q an ag=>?_;let(b,k,l,d,r,G,rfl,L,y,N,q):=ag;show(Y,λdc al ar az z=>?_);let(dk,d1,d2,hk):=L.ins;let as:=N.l;let S:∀{u:Hp}{q:Prop},dH H u->q->ExM C lO (.ref k) u q:=λa q=>(k,dk,_,rfl,a _ _ hk,(Cb _ _ _),q)
 let I:∀{u:Hp},dH H u->∀p,u p=J->spUnionOf f [.ref p] (upd u p (.lst (G.5 λx=>V.int (look d x:Nat)))) (λv j=>∀x M,j x=J->j M=J->M≠x->spVInit C h (.ref x::([.ref k,v]++[])) (upd (upd j M (.own x)) x (.ins h M [])) (λv E=>v=.eJ/\Q (.ref x) E) E0) E0:=λ{u}a p D=>by
  let i:=a.7 (AD (dH.refl _) D (o:=HO.lst (G.5 λx=>V.int (look d x:Nat))));show(p,G.5 (look d),Y,dY.of (by rw[dG];unfold BK;rw[map_map];rfl),OG (L.25 i) Y (Nat.lt_trans (OH N.s N.lt) qc) (.inr (KJ N.s)) λq' E s3=>q q' E (i.7 s3))
 cases b with
 |false=>
  show(_,AC (AV (Ao (Ai (AS (Jb f Y) Y B.gZ EY (fJ (Z 1) (AZ (fJ (D6 (v:=.ty md) Y B.list Fg Y) (D6 (v:=.ty mm) Y B.tuple DY Y))))))) (AB AY) AM)
   (AB (AI (c_v m z (fJ (Z 0) (fP s z (fy (BX [lN] [U 0] (by rfl) (_) (by rfl) rfl (BG (Z 1)) (λ_ _ _ _ _ _=>BJ) (λ_ _ _ _ _ _=>c_m (Z 1) T.cl X z (fy (Z 0)))))))))),_,rfl,by change 2<=sizeLine;decide,λt ht=>?_)
  let a:=AD (dH.refl _) ht (o:=HO.tup [V.ty md,V.ty mm]);show(l,t,7,.inl (a _ _ y),eO.of dG,7,AU (7,7,l,Y,(_,dY.of (a _ _ y)),QT G _ (λx=>U (V.int (look d x:Nat))) (IZ _ _) (a _ _ y) () (λv x j N' A e i R=>e ▸ (7,S (a.7 i) (7,k,d,r,x,Y,L.25 (a.7 i),N.s x A,R _ (dH.refl _)))) λj i p D=>by rw[J6];show I (a.7 i) p D))
 |true=>
  show(_,AC (AV (Ao (Ai (AS (Jb f Y) Y B.gZ EY (fJ (Z 1) (AZ (fJ (D6 (v:=.ty md) Y B.list Fg Y) (D6 (v:=.ty mm) Y B.tuple DY Y))))))) (AB AY) AM)
   (AB (AI (c_v m z (fJ (Z 0) (fP s z (fy (BX [lN] [U 0] (by rfl) (_) (by rfl) rfl (Oa (Z 1)) (λ_ _ _ _ _ _=>BJ) (λ_ _ _ _ _ _=>c_m (Z 1) T.cl X z (fy (Z 0)))))))))),_,rfl,by change 2<=sizeLine;decide,λt ht=>?_)
  let a:=AD (dH.refl _) ht (o:=HO.tup [V.ty md,V.ty mm]);show(l,t,7,.inr (a _ _ y),eO.of dG,7,AU (7,7,l,Y,(_,eO.of (a _ _ y)),Zb G _ (λx=>U (V.int (look d x:Nat))) (IZ _ _) (a _ _ y) () (λv x j N' A e i R=>e ▸ (7,S (a.7 i) (7,k,d,r,x,Y,L.25 (a.7 i),N.s x A,R _ (dH.refl _)))) λj i p D=>by rw[J6];show I (a.7 i) p D))
inductive spIb(vs:ly)(H:Hp)(Q:VK)(b:XK):Prop
 |mk (x) (f:vs=[.str x]) (g:x∈ia) (h:∀d,dH H d->Q (.bl L) d)
theorem Ml:∀x∈ia,x.31 (· < 128)=L/\1<=x.3/\x.3<=8/\x.36 Dc=L:=by decide +kernel
theorem cj:AH [lM] [lM] (defScope FF):=fG
theorem aE(F:eP g oR oR FF f j)(B:Bl d)(l:d "LONGEST_BOOK_NAME"=U (.int 8 m)):AT P w g d base eK 1 f j [lM] spIb:=by
 show F.m cj λvs H Q E h=>?_;let(x,rfl,hx,q):=h;show(Y,λI A X s T=>?_);let(ha,h1,h8,hs):=Ml x hx
 show(_,AC (AV (PW.pt (B8 (Ao (Ai (Br g Y Y B.gZ Y B.str EZ (Z 0)))) (Bc (Ao (Ex Eu Eu AF (AS A7 Y B.61 PySem.boot_len (fy (Z 0))) (BA (v:=.int 8) Y l (m,Y))))))) (AB AY) AM)
  (AB (AI (AS (D3 rfl) rfl B.all IY (fy (BX [] [] (by rfl) (_) (by rfl) rfl (JZ (Z 0)) (λ_ _ _ _ _ _=>BJ) (λ_ _ _ _ _ _=>Ew CM CM AL (Z 0) AL)))))),?_)
 show(7,_,_,_,L,Y,.str x,Y,7,AU (7,x,Y,Nat.le_of_lt (AR ()),_,7,Y,7,?_));rw[zH ()];show Ag (_,7,Y,7,?_);rw[zH ()];show AU (7,x,Y,ha,HK (λi u o=>i<=8/\o=H/\u=List.replicate i (V.bl L)) (qc,Y,Y) (λi u o (h,_,e)=>by grind) ?_ ?_)
 ·rintro i c u o N ⟨_,rfl,rfl⟩;let S:x.77=x.3:=rfl
  let R:i<x.77:=by
   let z||z:=Nat.lt_or_ge i x.77
   ·show z
   ·ext
  let r:=Ik 97 122 "a" "z" (by rfl) (by rfl) c;let C:∀b,b=Dc c->(i+1<=8/\o=o/\List.replicate i (V.bl L)++[V.bl b]=List.replicate (i+1) (V.bl L)):=λb D=>(by lia,rfl,by rw[D,all_eq_true.mp hs c (_),List.replicate_succ']);show(7,_,7,Y,7,BN (λy=>?_) (λy=>?_))
  ·rw[zf y]at r;show(_,7,Y,C _ r)
  ·rw[zg y]at r;show C _ r
 ·rintro u o ⟨M,rfl,rfl⟩ p G;show(p,List.replicate x.77 L,Y,dY.of (by rw[dG,List.map_replicate]),?_);rw[show(List.replicate x.77 L).all id=L by simp];show q _ (AD (dH.refl _) G)
def OI(b C:l7)(z:Za)(due:Aa)(r:Str)(g:En)(D:jj)(H:Hp)(Q:VK):Prop:=∀d,jz z H d->gk b C z due r g D d->Q .eJ d
def Vok(due:Aa)(r:Str)(n:Nat):Prop:=n<2^20/\(r=n6 \/ n-(n&&&kn due)=0)
theorem KK(B:gk b C z due r g D H)(d:gd f H v z.k n)(h:x∈ia)(a:D.3<100)(e:Vok due r n)(q:OI b C z due r (ir g x n) (D++[(x,(g x))]) H Q):iT b C f (.ref z.b::([.str x,.ref v]++[])) H Q E:=(z,due,r,g,D,x,v,n,rfl,B,d,h,a,e,q)
theorem NmO.ok{due}{r}{a}(N:NmO due a):Vok due r (Ah (a.5 (look due))):=(OH N.s N.lt,.inr (KJ N.s))
theorem gk.nmE(b)(B:gk i C z due r g D H)(d:H l=U (sqO b (f.5 V.str)))(N:NmO due f)(q:∀q a,dH H a->gd h a q z.k (Ah (f.5 (look due)))->e (.ref q) a):spVo C h (.ref z.k::([.ref l]++[])) H e E:=.mk b z.k l due r f rfl B.ka d N q
inductive spPu(b C:l7)(vs:ly)(H:Hp)(Q:VK)(d:XK):Prop
 |mk (z) (due) (r) (g) (D) (x) (l) (ns) (f:vs=[.ref z.b,.str x,.ref l]) (h:gk b C z due r g D H) (j:x∈ia) (i:D.3<100) (o:H l=U (.lst (ns.5 V.str))) (m:NmO due ns) (p:OI b C z due r (ir g x (Ah (ns.5 (look due)))) (D++[(x,(g x))]) H Q)
theorem ck:AH [lH,lK,mQ] [lH,lK,mQ] (defScope Jw):=fG
theorem aF(F:eP i "put" "Book.put" Jw f z)(t:C5 i l)(y:Fn P w i m base oR 1 [lM] spIb)(r:Fn P w i m base pB 6 [lN,mQ] (spVo C v))(s:Mt P w i m base l "give" 2 [lH,lK,nZ] (iT l C v)):AT P w i m base (gO P w) 7 f z [lH,lK,mQ] (spPu l C):=by
 show F.n ck λvs H Q E h=>?_;let(aC,T,ar,g,D,x,an,X,rfl,B,p,L,I,N,q):=h;show(Y,λM A al as d=>?_);show(_,AC (AV (Ao (Ai (fP y d (fy (Z 1))))) (AB AY) AM) (AB (Ae (c_m (Z 0) t.cl s d (fJ (Z 1) (fP r d (fJ (Ad (Z 0) Y) (Z 2))))))),7,.mk x Y p λag a=>(7,AU (7,(B.25 a).no (7,7,jW t (B.25 a) (_,Y,(B.25 a).nmE O (a _ _ I) N λaz ab j u=>KK (Q:=λ_ G=>Q .eJ G) ((B.25 a).25 j) u p L N.ok λR S=>q R λb o e=>S b o (j _ _ (a _ _ e)))))))
inductive spMr(p:Nat->Nat->Nat)(d C f:l7)(vs:ly)(H:Hp)(Q:VK)(E:XK):Prop
 |mk (z) (due) (r) (g) (D) (x) (l) (ns) (b) (n c) (h:vs=[.ref z.b,.str x,.ref l]) (i:gk d C z due r g D H) (m:x∈ia) (j:D.3<100) (q:H l=U (sqO b (ns.5 V.str))) (o:NmO due ns) (v:ko due) (s:g x=U (n,(c))) (u:OI d C z due r (ir g x (p n (Ah (ns.5 (look due))))) (D++[(x,(g x))]) H Q)
 |no (z) (due) (r) (g) (D) (x) (l) (h:vs=[.ref z.b,.str x,l]) (i:gk d C z due r g D H) (m:g x=J) (j:Uq H E f)
theorem cm:AH [lH,lK,"more"] [lH,lK,"more"] (defScope IR):=fG
theorem aG(F:eP f "mark" "Book.mark" IR al fd)(v:C5 f l)(X:Fn P w f m base "union" 6 [oq,me] (spOp kX C o))(T:Fn P w f m base pB 6 [lN,mQ] (spVo C o))(az:CJ P w f m base l nZ 6 [lH,lK] (spVl l C o s))(q:Mt P w f m base l "give" 2 [lH,lK,nZ] (iT l C o)):AT P w f m base (gO P w) 7 al fd [lH,lK,"more"] (spMr kX l C s):=by
 show F.jR cm (λvs H Q E h=>?_) (λdc aC aR aM H vs Q E i h=>?_)
 ·let(_,_,_,_,_,_,_,_,_,_,_,rfl)||(_,_,_,_,_,_,_,rfl):=h<;>rfl
 ·show(_,AB (Ae (c_m (pv 0) v.cl q i (fJ (pv 1) (fP X i (fJ (Dv (pv 0) v.cl az i G6 (fy (pv 1))) (fP T i (fJ (Ad (pv 0) rfl) (pv 2)))))))),?_);let(z,a,r,g,D,x,an,J,b,n,c,rfl,B,R,Z,S,N,asc,j,as)||(z,a,r,g,D,x,an,rfl,B,j,hU):=h
  ·show(7,B.no (7,7,B.no (7,.mk z a r g D x n c Y B j λv1 H1 p A=>(7,jW v (B.25 p) (7,?_)))));let G:=B.ok x n c j;let ag:Vok a r (Ah (J.5 (look a))):=N.ok;let t:Vok a r (kX n (Ah (J.5 (look a)))):=(Nat.or_lt_two_pow G.1 ag.1,G.2.imp id λz=>iO.or z (KJ N.s));let B1:=B.25 p;show B1.nmE b (p _ _ S) N λv2 H2 d y=>(v1,v2,z.k,n,_,a,r,Y,A.25 d,y,B1.ka.25 d,asc,Nat.lt_trans t.1 qc,t.2,λv3 H3 I ab=>KK (Q:=λ_ M=>Q .eJ M) ((B1.25 d).25 I) ab R Z t λu ef=>as u λb ar e=>ef b ar (I _ _ (d _ _ (p _ _ e))))
  ·show(7,B.no (7,7,B.no (7,.no z a r g D x Y B j hU)))
theorem cp:AH [lH,lK,"less"] [lH,lK,"less"] (defScope FI):=fG
theorem aH(F:eP l "unmark" "Book.unmark" FI f fd)(v:C5 l m)(u:Fn P w l o base "without" 6 [oq,me] (spOp KS C q))(S:Fn P w l o base pB 6 [lN,mQ] (spVo C q))(as:CJ P w l o base m nZ 6 [lH,lK] (spVl m C q y))(s:Mt P w l o base m "give" 2 [lH,lK,nZ] (iT m C q)):AT P w l o base (gO P w) 7 f fd [lH,lK,"less"] (spMr KS m C y):=by
 show F.jR cp (λvs H Q E h=>?_) (λaC az aR aM H vs Q E i h=>?_)
 ·let(_,_,_,_,_,_,_,_,_,_,_,rfl)||(_,_,_,_,_,_,_,rfl):=h<;>rfl
 ·show(_,AB (Ae (c_m (Z 0) v.cl s i (fJ (Z 1) (fP u i (fJ (Dv (Z 0) v.cl as i G6 (fy (Z 1))) (fP S i (fJ (Ad (Z 0) rfl) (Z 2)))))))),?_);let(z,a,r,g,D,x,al,ns,b,n,c,rfl,B,O,X,R,N,asc,j,ar)||(z,a,r,g,D,x,al,rfl,B,j,Y):=h
  ·show(7,B.no (7,7,B.no (7,.mk z a r g D x n c zd B j λv1 H1 p M=>(7,jW v (B.25 p) (7,?_)))));let G:=B.ok x n c j;let t:Vok a r (KS n (Ah (ns.5 (look a)))):=(Nat.lt_of_le_of_lt (Nat.sub_le _ _) G.1,G.2.imp id λz=>iO.sub _ z);let B1:=B.25 p;show B1.nmE b (p _ _ R) N λv2 H2 d ab=>(v1,v2,z.k,n,_,a,r,zd,M.25 d,ab,B1.ka.25 d,asc,Nat.lt_trans t.1 qc,t.2,λv3 H3 I T=>KK (Q:=λ_ ag=>Q .eJ ag) ((B1.25 d).25 I) T O X t λA ef=>ar A λb an e=>ef b an (I _ _ (d _ _ (p _ _ e))))
  ·show(7,B.no (7,7,B.no (7,.no z a r g D x zd B j Y)))
inductive spTn(b C d:l7)(vs:ly)(H:Hp)(Q:VK)(E:XK):Prop
 |mk (z) (due) (r) (g) (D) (x) (n c) (f:vs=[.ref z.b,.str x]) (h:gk b C z due r g D H) (j:x∈ia) (i:D.3<100) (l:kn due<2^20) (m:g x=U (n,(c))) (o:OI b C z due r (ir g x (kn due-(kn due&&&n))) (D++[(x,(g x))]) H Q)
 |no (z) (due) (r) (g) (D) (x) (f:vs=[.ref z.b,.str x]) (h:gk b C z due r g D H) (j:g x=J) (i:Uq H E d)
theorem cq:AH [lH,lK] [lH,lK] (defScope IS):=fG
theorem aI(F:eP p "turn" "Book.turn" IS f fd)(t:C5 p m)(y:Fn P w p s base "turned" 6 [oq] (spTu C A))(i:CJ P w p s base m nZ 6 [lH,lK] (spVl m C A X))(S:Mt P w p s base m "give" 2 [lH,lK,nZ] (iT m C A)):AT P w p s base (gO P w) 7 f fd [lH,lK] (spTn m C X):=by
 show F.jR cq (λvs H Q E h=>?_) (λan al aC aM H vs Q E d h=>?_)
 ·let(_,_,_,_,_,_,_,_,rfl)||(_,_,_,_,_,_,rfl):=h<;>rfl
 ·show(_,AB (Ae (c_m (Z 0) t.cl S d (fJ (Z 1) (fP y d (fy (Dv (Z 0) t.cl i d G6 (fy (Z 1)))))))),?_);let(z,a,r,g,D,x,n,c,rfl,B,J,M,u,j,q)||(z,a,r,g,D,x,rfl,B,j,N):=h
  ·show(7,B.no (7,7,B.no (7,.mk z a r g D x n c Y B j λag az l I=>(ag,z.k,n,a,r,Y,I,B.ka.25 l,u,λar as v ab=>KK (Q:=λ_ G=>Q .eJ G) ((B.25 l).25 v) ab J M (Nat.lt_of_le_of_lt (Nat.sub_le _ _) u,.inr (QZ _ _)) λR T=>q R λb o e=>T b o (v _ _ (l _ _ e))))))
  ·show(7,B.no (7,7,B.no (7,.no z a r g D x Y B j N)))
theorem gk.kp(B:gk q C z due r g D H)(s:jz z H f)(e:H b=U o)(l:∀d,o≠ .dK d:=by intro _;show λz=>nomatch z)(p:∀m,o≠ .lst m:=by intro _;show λz=>nomatch z):f b=U o:=by
 let(a,j,_):=B.en;let(i,h,_):=B.de;show s b o e (λz=>by grind) (λz=>by grind)
theorem gk.to(B:gk G C z due r g D H)(s:jz z H f)(o:∃A,f z.e=U (.dK A)/\iu f A w)(u:∃d,f z.l=U (.lst (d.5 V.ref))/\Paired (iY H) d m)(j:m.3<=100)(ok:jy due r w):gk G C z due r w m f:=by
 let(h,y):=B.bk;let(d,i,p):=u;show((h,B.kp s y),?_,o,(d,i,Paired.imp' (λ_ _ q=>q.34 λb E e=>B.kp s e) p,j),ok);let(h,t,l,v,x,a,b,c):=B.ka.ex;show⟨(h,t,l,v,x,B.kp s a,B.kp s b,B.kp s c)⟩
theorem jy.set(h:jy due r g)(v)(i:∀n c,v=U (n,(c))->Vok due r n):jy due r (Dw g x v):=λy m d e=>by
 by_cases a:y=x
 ·subst a;rw[Eh]at e;show i m d e
 ·rw[Ei _ _ a]at e;show h y m d e
inductive spDr(b C d:l7)(vs:ly)(H:Hp)(Q:VK)(E:XK):Prop
 |mk (z) (due) (r) (g) (D) (x) (n c) (f:vs=[.ref z.b,.str x]) (h:gk b C z due r g D H) (i:D.3<100) (l:g x=U (n,(c))) (m:OI b C z due r (Dw g x J) (D++[(x,(g x))]) H Q)
 |no (z) (due) (r) (g) (D) (x) (f:vs=[.ref z.b,.str x]) (h:gk b C z due r g D H) (j:g x=J) (i:Uq H E d)
theorem cr:AH [lH,lK] [lH,lK] (defScope IT):=fG
theorem aJ(F:eP q qo "Book.drop" IT f fd)(p:C5 q m)(s:CJ P w q mg base m qG 3 [lH,lK] (spEn m C A)):AT P w q mg base (gO P w) 4 f fd [lH,lK] (spDr m C A):=by
 show F.jR cr (λvs H Q E h=>?_) (λdc an ar az H vs Q E hr h=>?_)
 ·let(_,_,_,_,_,_,_,_,rfl)||(_,_,_,_,_,_,rfl):=h<;>rfl
 ·show(_,AC (Ae (Bg (Ad (Z 0) rfl) (fy (AZ (fJ (Z 1) (Dv (Z 0) p.cl s hr G6 (fy (Z 1)))))))) (AB (Ae (JT (Ad (Z 0) rfl) (Z 1) (rfl,rfl,rfl,rfl)))),?_);let(z,j,r,g,D,x,n,c,rfl,B,hD,v,al)||(z,j,r,g,D,x,rfl,B,v,hU):=h
  ·let(i,hk,Y):=B.en;let(I,d,S,_):=B.de;let(dx,N):=B.bk;let(t0,L,_):=Y.vl x n c v;show(7,g_d p B (.inl (zd,_,dY.of d),7,7,B.no (7,.mk z j r g D x n c zd B v λt ht=>(ig,λa ha=>?_))));let X:=AD (dH.refl H) ha (o:=HO.tup [V.str x,V.ref t]);let as:=S.3;show(z.l,_,7,zd,X _ _ d,AR (_),?_);let l:z.e≠z.l:=λy=>by ext
   let M:a≠z.l:=λy=>by ext
   generalize ag:upd (upd H a (HO.tup [V.str x,V.ref t])) z.l (HO.lst (I.5 V.ref++[V.ref a]))=R;let T:∀b o,H b=U o->b≠z.l->R b=U o:=λb o e N=>by rw[←ag,AE N];show X _ _ e
   let u:=T _ _ hk l;let l2:R z.l=U (.lst ((I++[a]).5 V.ref)):=by rw[←ag,dG,zl];rfl
   show(7,(z.b,m,dx,_,7,T _ _ N (λy=>by ext),p.cl,p.nE,Sf _ _ _,z.e,zd,.inl (_,.inl u),7,i,Sum.inr x,_,u,zd,L,?_));let ab:jz z H (upd R z.e (.dK (CA i (Sum.inr x)))):=λb o e h1 h2=>by rw[AE h1];ext
   let tk:∀b G,R b=U (.tup G)->(upd R z.e (.dK (CA i (Sum.inr x)))) b=U (.tup G):=λb G e=>by rwa[AE (λy=>by ext)]
   show al _ ab (B.deed ab (_,dG,(Y.34 λb G e=>B.kp ab e).drop) (I,a,d,by rw[AE (Ne.symm l)];show l2,.ref t,tk _ _ (by rw[←ag,AE M,dG]),.inr (n,c,t,v,rfl,B.kp ab ht)) hD (B.ok.set gt λ_ _ e=>nomatch e))
  ·let(I,d,_):=B.de;show(7,g_d p B (.inl (zd,_,dY.of d),7,7,B.no (7,.no z j r g D x zd B v hU)))
inductive spTk(d C f:l7)(vs:ly)(H:Hp)(Q:VK)(E:XK):Prop
 |mk (z) (due) (r) (g) (D) (x) (b) (h:vs=[.ref z.b]) (i:gk d C z due r g (D++[(x,(b))]) H) (l:x∈ia) (j:b=J->g x≠J) (m:∀n c,b=U (n,(c))->Vok due r n) (o:OI d C z due r (Dw g x b) D H Q)
 |no (z) (due) (r) (g) (h:vs=[.ref z.b]) (i:gk d C z due r g [] H) (j:Uq H E f)
theorem CN{b f}{F}:∀{d:List b}{D}{p:f},Paired F d (D++[p])->∃bs a,d=bs++[a]/\Paired F bs D/\F a p
 |_,[],_,.cons a .nil=>([],_,rfl,.nil,a)
 |_,_::D,_,.cons a r=>by
  let(bs,c,e,i,h):=CN r;show(_::bs,c,by rw[e];rfl,.cons a i,h)
theorem scTk:AH [lH,lK,"before"] [lH] (defScope Dr):=fG
theorem aK(F:eP f pG "Book.take_back" Dr ab fd)(B:Bl s)(u:C5 f m)(r:hX P w f s base nz cN):AT P w f s base (gO P w) 3 ab fd [lH] (spTk m an cN):=by
 show F.jR scTk (λvs H Q E h=>?_) (λdc al ar az H vs Q E X h=>?_)
 ·let(_,_,_,_,_,_,_,rfl)||(_,_,_,_,rfl):=h<;>rfl
 ·have C:=scTk.nd
  show(_,AC (AV (AJ Aq (AS (BB f zd) zd B.61 PySem.boot_len (fy (Ad (Z 0) zd))) AF (AN _)) (AB (XV r X)) AM)
   (AC (Bo (F6 plainAttrs_list slot_list_pop type_list_pop Ht (Ad (Z 0) rfl)) (BR rfl (AQ (BM 1 C) (AQ (BM 2 C) Az))))
   (AB (AV (Do (Le (Z 2))) (AB (Ae (JT (Ad (Z 0) rfl) (Z 1) (rfl,rfl,rfl,rfl)))) (AB (EB (CK X) (Ad (Z 0) rfl) (Z 1) (Z 2) rfl))))),?_)
  let(z,Y,ag,g,D,x,b,rfl,d,hx,hb0,U,q)||(z,Y,ag,g,rfl,d,hU):=h
  ·let(l,hk,N):=d.en;let(as,i,I,hD):=d.de;let(bs,a,rfl,J,aC,ha,hv):=CN I;let(dx,R):=d.bk;show(7,g_d u d (z.l,7,.inl (dY.of i),zd,7,?_));rw[zK (λy=>by grind)];show AU (7,g_d u d (.inl (zd,_,dY.of i),z.l,_,.ref a,zd,zd,i,by simp,?_));let p:z.e≠z.l:=λy=>by ext
   let el:((bs++[a]).5 V.ref).dropLast=bs.5 V.ref:=by rw[zl];show List.dropLast_concat
   rw[el];let M:∀b o,H b=gl o->b≠z.l->(upd H z.l (.lst (bs.5 V.ref))) b=gl o:=λb o e R=>by rwa[AE R]
   let T:(upd H z.l (.lst (bs.5 V.ref))) z.l=gl (.lst (bs.5 V.ref)):=dG;generalize upd H z.l (.lst (bs.5 V.ref))=v at M T;let G:=M _ _ hk p;let A:=M _ _ R (λy=>by ext);show(a,7,eO.of (M _ _ ha (λy=>by ext)),zd,_,7,_,7,zd,7,7,?_);let lD:D.3<=100:=by rw[zY]at hD;lia
   let(e,rfl)||(n,c,t,e,rfl,ht):=hv
   ·have he:=e;subst he
    let(y,hy):∃y,g x=gl y:=by
     cases e:g x with
     |none=>ext
     |some y=>simp
    let(t0,O,_):=N.vl x y.1 y.2 hy;let j:jz z H (upd v z.e (.dK (CA l (Sum.inr x)))):=λb o e S h2=>by rw[AE S];ext
    show Ag (_,rfl,(z.b,m,dx,_,_,rfl,A,u.cl,u.nE,Sf _ _ _,z.e,rfl,.inl (_,.inl G),_,rfl,l,Sum.inr x,_,G,rfl,O,q _ j (d.to j (_,dG,(N.34 λb xs e=>d.kp j e).drop) (bs,by rw[AE (Ne.symm p)];show T,J) lD (d.ok.set gt λ_ _ e=>nomatch e))))
   ·subst e;let j:jz z H (upd v z.e (.dK (Bp l (Sum.inr x) (.ref t)))):=λb o e S h2=>by rw[AE S];ext
    show AU (7,7,(z.b,m,dx,_,7,A,u.cl,u.nE,Sf _ _ _,7,z.e,7,iP.k (k:=Sum.inr x) G N.small,q _ j (d.to j (_,dG,(N.34 λb xs e=>d.kp j e).put hx (d.kp j ht)) (bs,by rw[AE (Ne.symm p)];show T,J) lD (d.ok.set _ λn c e=>U n c e))))
  ·let(as,i,I,_):=d.de;cases I;show(7,g_d u d (z.l,7,.inl (dY.of i),zd,7,Ag (r.rd (dH.refl _) hU)))
theorem la.of{n}(s:dH H b)(h:la H E f n):la b E f n:=λe d a j l i=>h e d a (s.7 j) (none_of s l) (none_of s i)
inductive spVa(C b d:l7)(vs:ly)(H:Hp)(Q:VK)(E:XK):Prop
 |mk (k p) (n) (f:vs=[.ref k,.ref p]) (g:gd b H p k n) (h:Q (.ref p) H)
 |no (k) (due) (r) (n:Nat) (f:vs=[.ref k,.int (n)]) (g:eR C H k due r) (h:n<2^40) (i:la H E d ((n-(n&&&kn due):Nat):Int))
theorem cu:AH [lN,lM] [lN,lM] (defScope FH):=fG
theorem aL(F:eP g oY oY FH f v)(B:Bl i)(M:iW g b)(p:i "Value"=U (.ref b))(u:W.kitOne g (.type qC) (.ref b)=U O)(e:Pk P w g i base T s)(y:Fn P w g i base pO 3 [lN,lO] (spRestOf C)):AT P w g i base (gO P w) 4 f v [lN,lM] (spVa C b s):=by
 let(_,_,d,N,z):=e.make;show F.jR cu (λvs H Q E h=>?_) (λab A ag an H vs Q E l h=>?_)
 ·let(_,_,_,rfl)||(_,_,_,_,rfl):=h<;>rfl
 ·show(_,AC (AV (Ao (Ai (AS (Ii g rfl) rfl B.gZ EY (fJ (Z 1) (BA (v:=.ref b) rfl p rfl))))) (AB (E8 G7 rfl d.78 (E7 d N l rfl e.78 z .nil Af (fy (fP y l (fJ (Z 0) (Z 1))))))) AM) (AB (AI (Z 1))),?_);let(k,al,n,rfl,(R,t),q)||(k,a,r,n,rfl,x,G,I):=h
  ·show(7,_,b,_,L,Y,M.ty t,FU g b,7,AU (7,q))
  ·show(_,rfl,_,b,_,O,rfl,.int _,u,_,rfl,Ag (_,rfl,_,rfl,k,a,r,n,rfl,x,λS X=>LS (σ:=[]) (D:={nx:=λ_ _=>True,rt:=λ_ _=>True}) (te:=tC (.int ((n-(n&&&kn a):Nat)))) d.78 e.st ?_ X I rfl));let o:n-(n&&&kn a)<2^40:=Nat.lt_of_le_of_lt (Nat.sub_le _ _) G;generalize n-(n&&&kn a)=m at o;let j||j:=Nat.eq_zero_or_pos m
   ·rw[j];decide
   ·show Nat.lt_trans ((Nat.log2_lt ()).53 o) qc
end
end Mk
namespace L2
open PySem PySem.Spec PyProof.Rows
theorem OJ{a}{o}{f}{g}{tt}{s m}{h}{R:LK->Hp->Prop}{u}{j}(d:Nat->LK->Hp->Prop)(r:d 0 [] j)(l:∀i b H,d i b H->H a=U (.gj o (.dK f)))(w:∀i b H,d i b H->b.3<=1000)
  (v:∀i e b H p,f[i]?=U e->d i b H->H p=J->bT g tt (taD s m) h u (.ref p) b (d (i+1)) (upd H p (.tup [kV e.1,e.2]))) (t:∀b H,d f.3 b H->R b H):tW (lq a o f) [] iU (bT g tt (taD s m) h u) R j:=J4 d r l (λi b H q=>G3 (w i b H q)) v t
end L2
namespace Mk
open PySem L2 MK PySem.NumText
mutual
noncomputable def js(g:En)(s:Str):Nat:=((g s).5 (·.1)).45 0
structure TbG(g:En)(kvs:LK):Prop where
 v:∀s,Ba s=L->Aj kvs (Sum.inr s)=(g s).5 λp=>V.int (p.1:Int)
 ok:Uy kvs
structure TbI(g:En)(S:lr)(ys:LK):Prop where
 v:∀s,Aj ys (Sum.inr s)=if s.3=1/\s∈S then (g s).5 λp=>V.int (p.1:Int)else J
 e:∀b∈ys,∃(s:Str)(n:Nat),b=(Sum.inr s,(V.int (n)))/\s∈ia/\s.3=1/\n<2^20
 l:ys.3<=S.3
theorem Yf:∀s∈ia,s.3=1->Ba s=L:=by trivial
theorem Wp(h:Ba s=L):s.3=1:=by
 unfold Ba at h;rw[←A3]
 grind
theorem TbI.done(h:TbI g b f)(k:ip b g):TbG g f:=by
 let q:=k.61;let t:=h.l;show(λs l=>?_,by lia,λi j=>?_)
 ·rw[h.v];by_cases a:s∈b
  ·rw[zf (Wp l,a)]
  ·rw[zg (λz=>a z.2),Classical.byContradiction λz=>a ((k.mem s).53 z)];rfl
 ·let(d,n,e,o,p,r):=h.e i j;show(d,n,e,Yf d o p,by lia,by lia)
theorem Hh:∀{b:LK}{i:Nat}{k}{v},(b.5 (·.1)).29->b[i]?=U (k,(v))->Aj b k=U v
 |p::r,0,k,v,_,h=>by cases h;show BD rfl
 |p::r,i+1,k,v,f,h=>by
  let(j,d):=zi.mp f;let a:r[i]?=U (k,(v)):=h;rw[A8 (λe=>j (by change p.1∈_;rw[e];show zh.53 (_,zM a,rfl)))];show Hh d a
def mkN(r:Str)(due:Aa)(v:Nat):Nat:=if r=n6 then v else v-AW due (v:Int)
def OK(r:Str)(due:Aa)(v:Nat):Prop:=AW due (v:Int)≠0/\(r=o7 \/ r=oX)
inductive RcO(b C f d:l7)(z:Za)(due:Aa)(r:Str)(g:En)(D:jj)(x:Str)(T:lr)(H:Hp)(Q:VK)(E:XK):Prop
 |lack (y) (p:y∈T) (j:Ba y=L) (l:g y=J) (q:Uq H E d)
 |go (v) (m:∀y∈T,Ba y=L->g y≠J) (i:∀h,TbG g h->Ev (due,h,js g) v [] T) (o:v<2^20) (q:(OK r due v/\la H E f (AW due (v):Nat))\/(¬ OK r due v/\OI b C z due r (ir g x (mkN r due v)) (D++[(x,(g x))]) H Q))
inductive spRc(b C h f d:l7)(vs:ly)(H:Hp)(Q:VK)(E:XK):Prop
 |mk (z) (due) (r) (g) (D) (x t) (T) (i:vs=[.ref z.b,.str x,.str t]) (j:gk b C z due r g D H) (m:x∈ia) (l:D.3<100) (p:kn due<2^20) (o:t.31 (· < 128)=L) (q:t.3<=100) (s:Rn L t T 0 [] [] L) (v:Uz T) (w:Rd H d (.dK Dd)) (y:r∈eU) (u:RcO b C h f z due r g D x T H Q E)
noncomputable abbrev NRc:lr:=[lH,lK,ml,nQ]
theorem scRc:AH NRc [lH,lK,ml] (defScope FJ):=fG
theorem aN(F:eP ω "reckon" "Book.reckon" FJ f fd)(B:Bl mg)(BT:C5 ω BC)(GI:Fn P w ω mg base oR 1 [lM] spIb)(GA:kh P w ω mg base oY 4 [lN,lM] (spVa C VC cR))(GK:kh P w ω mg base p0 7 [lN,ml,nQ] (spRk C VC cR cN bd))(GG:Mt P w ω mg base BC "give" 2 [lH,lK,nZ] (iT BC C VC)):AT P w ω mg base (gO P w) 8 f fd [lH,lK,ml] (spRc BC C cR cN bd):=by
 refine F.n scRc λvs H Q E h=>?_;obtain⟨z,d,r,g,D,x,t,T,rfl,Bb,hx,hD,kl,ta,tl,rn,st,hbd,hr4,RO⟩:=h;refine⟨zd,λdc A outer s hr=>?_⟩;have nd:=scRc.nd
 refine⟨_,AC (AV (Ao (Ai (fP GI hr (fy (pv 1))))) (AB AY) AM)
  (AC (NZ (Ru (i:=3) nd rfl rfl [] [] (by rfl) (by trivial) (by rfl) (by rfl) rfl (JY (Ad (pv 0) rfl)) (λ_ _ _ _ _ _=>Fd (AJ Aq (AS A7 rfl B.len PySem.boot_len (fy (pv 0))) AF (AN _))) (λ_ _ _ _ _ _=>pv 0) (λ_ _ _ _ _ _=>Am (Ac ω rfl) (pv 1) AF (λ_ _=>rfl))))
  (F9 (AB (Ae (c_m (pv 0) BT.cl GG hr (fJ (pv 1) (k4 GA hr G6 (fJ (Ad (pv 0) rfl) (k4 GK hr G6 (AA (Ad (pv 0) rfl) (fJ (pv 2) (pv 3)))))))))))),?_⟩
 refine⟨_,zd,.mk x zd hx λL s1=>⟨_,zd,AU ?_⟩⟩;obtain⟨a,hk,E'⟩:=Bb.en;obtain⟨ms,km,Y⟩:=E'.ks;obtain⟨dx,hb⟩:=Bb.bk;have hk1:=s1 _ _ hk
 have ndk:(a.map (·.1)).Nodup:=by
  rw[km];exact pairwise_map.mpr (Y.nd.imp λh e=>h (Sum.inr.inj e))
 refine⟨z.e,a,hk1,λo u e=>(by have e':H z.e=some (.gj o u):=e;rw[hk]at e';cases e'),λo=>?_⟩;have N:∀{b:l7}{u:HO},L b=some u->b≠z.e->(upd L z.e (.gj o (.dK a))) b=some u:=λe hb=>by rwa[AE hb]
 have I:(upd L z.e (.gj o (.dK a))) z.e=some (.gj o (.dK a)):=dG
 have hfr:∀{b:l7},(upd L z.e (.gj o (.dK a))) b=none->L b=none:=λ{b}e=>by
  by_cases y:b=z.e
  ·simp_all
  ·rwa[AE y]at e
 have huu:upd (upd L z.e (.gj o (.dK a))) z.e (.dK a)=L:=by
  funext b;by_cases y:b=z.e
  ·rw[y,dG,hk1]
  ·rw[AE y,AE y]
 generalize e0:upd L z.e (.gj o (.dK a))=Hf at N I hfr huu;refine⟨_,zd,⟨z.b,BC,dx,_,_,zd,N (s1 _ _ hb) (λy=>by simp_all),BT.cl,BT.nE,Sf _ _ _,z.e,o,a,zd,I,OJ (λi l J=>dH Hf J/\TbI g (ms.take i) l) ⟨dH.refl _,λs=>by rw[M9,zg (λy=>by simp_all)],λkv hk=>(by cases hk),zp _⟩ (λi l J ⟨R,_⟩=>R _ _ I) (λi l J ⟨_,t⟩=>by have h1:=t.l;have h2:=Y.len;rw[zr]at h1;lia) ?_ ?_⟩⟩
 ·rintro i ⟨key,val⟩ l J p hkv ⟨R,TI⟩ hp;have eq:(ms.map Sum.inr)[i]?=some key:=by rw[←km,zx,hkv];rfl
  rw[zx]at eq;obtain⟨G,M,rfl⟩:=z5.mp eq;have X:=zM M;obtain⟨⟨n,c⟩,hg⟩:∃y,g G=some y:=Option.ne_none_iff_exists'.mp ((Y.mem G).mp X);obtain⟨t',hv,ht'⟩:=E'.vl G n c hg;rw[Hh ndk hkv]at hv;cases hv;have s3:=AD R hp (o:=HO.tup [V.str G,V.ref t']);have hw8:=Ml G (Y.w G X);have O:ms.take (i+1)=ms.take i++[G]:=by rw[zw,M];rfl
  refine⟨p,_,zd,eO.of dG,zd,_,_,zd,_,_,zd,zd,_,zd,G,zd,Nat.le_of_lt (AR (by lia)),zd,_,zd,BN (λh1=>?_) (λh1=>?_)⟩
  ·have hl1:G.length=1:=by have:=V.int.inj (zR h1);lia
   have htH:(upd J p (.tup [V.str G,V.ref t'])) t'=some (.tup [.int (n:Int),.int (c:Int)]):=by
    refine s3 _ _ (N (s1 _ _ ht') λy=>?_);have e':H z.e=some (.tup [.int (n:Int),.int (c:Int)]):=y ▸ ht';rw[hk]at e';cases e'
   refine⟨_,zd,_,zd,t',_,0,_,zd,zd,eO.of htH,zd,Sum.inr G,zd,s3,λy=>?_,λkv U=>?_,?_⟩
   ·rw[JQ,O];by_cases e:y=G
    ·simp_all
    ·rw[TI.v]
     simp_all
   ·have fm:Aj l (Sum.inr G)=none:=by
     rw[TI.v,zg];rintro⟨_,hm⟩;obtain⟨j,hj,e⟩:=List.mem_take_iff_getElem.mp hm;exact(List.pairwise_iff_getElem.mp Y.nd j i _ ((z8.mp M).1) (by lia)) (e.trans ((z8.mp M).2).symm)
    rw[E3 _ fm]at U;rcases mem_append.mp U with y|y
    ·exact TI.e kv y
    ·exact⟨G,n,zz.mp y,Y.w G X,hl1,(Bb.ok G n c hg).1⟩
   ·have h1:=TI.l;have h2:=C1 l (Sum.inr G) (V.int (n:Int));rw[O,zY];refine show _<=(ms.take i).length+1 from ?_
    lia
  ·refine⟨s3,λy=>?_,TI.e,?_⟩
   ·rw[TI.v,O]
    grind
   ·have h1:=TI.l;rw[O,zY]
    lia
 ·rintro l J ⟨R,TI⟩ p hp;have hkl:a.length=ms.length:=by have:=congrArg List.length km;rwa[AO,AO]at this
  rw[hkl,zt]at TI;have TG:=TI.done Y;have ne:p≠z.e:=λy=>by rw[y,R _ _ I]at hp;cases hp
  refine⟨by rw[AE (Ne.symm ne)];exact R _ _ I,?_⟩
  have s3:dH L (upd (upd J p (.dK l)) z.e (.dK a)):=λb u e=>by
   by_cases y:b=z.e
   ·rw[y,dG,←hk1,←y,e]
   ·rw[AE y];exact AD R hp _ _ (N e y)
  have hp3:(upd (upd J p (.dK l)) z.e (.dK a)) p=some (.dK l):=by rw[AE ne,dG]
  have fb:=hfr (none_of R hp);generalize upd (upd J p (.dK l)) z.e (.dK a)=H3 at s3 hp3;refine⟨p,l,hp3,λo2=>?_⟩;have s4:dH H (upd H3 p (.gj o2 (.dK l))):=λb u e=>by rw[AE (AK (s1 _ _ e) fb)];exact s3 _ _ (s1 _ _ e)
  have hp4:(upd H3 p (.gj o2 (.dK l))) p=some (.gj o2 (.dK l)):=dG;generalize upd H3 p (.gj o2 (.dK l))=H4 at s4 hp4;have B4:=Bb.same s4;refine⟨_,zd,B4.no ⟨_,zd,_,zd,jW BT B4 ⟨_,zd,jW BT B4 ⟨_,zd,_,zd,?_⟩⟩⟩⟩
  have isN:∀y,Ba y=true->g y≠none->Aj l (Sum.inr y)≠none:=λy hl hn=>by
   rw[TG.v y hl];exact λe=>hn (by cases hg:g y with|none=>rfl|some w=>rw[hg]at e;cases e)
  refine .mk z.k p o2 t T ⟨d,l,js g⟩ r rfl B4.ka ta tl rn st (dH.rd s4 hbd) hp4 TG.ok ?_;cases RO with
  |lack y hy hl hn q=>exact .lack y hy hl (by refine show Aj l _=none from ?_;rw[TG.v y hl,hn];rfl) (q.of s4)
  |go v hs ev hv q=>
   refine .go v (λy hy hl=>isN y hl (hs y hy hl)) (ev l TG) λH5 s5=>?_;have B5:=B4.same s5;have s15:=s4.trans s5;have pl:plain (v:Int)=v:=by unfold plain;rw[zf (zW v),Int.toNat_natCast]
   have hv40:(v:Int)<1099511627776:=by have:(2:Nat)^20=1048576:=by decide
                                       lia
   refine⟨z.k,d,r,(v:Int),zd,B5.ka,kl,zW _,hv40,?_⟩;have S:AW d (v:Int)=v-(v&&&kn d):=by unfold AW;rw[pl]
   rcases q with⟨⟨hb1,hb2⟩,hU⟩|⟨hnb,hdone⟩
   ·rcases hb2 with rfl|rfl
    ·exact .inl ⟨hb1,zd,hU.of s15⟩
    ·exact .inr (.inl ⟨λq=>absurd q.2 (by trivial),hb1,zd,λH6 s6=>.no z.k d oX v zd (B5.ka.same s6) (Nat.lt_trans hv qc) (by rw[←S];exact hU.of (s15.trans s6))⟩)
   ·refine .inr (.inr ⟨λq=>hnb ⟨q.1,.inl q.2⟩,λq=>hnb ⟨q.1,.inr q.2⟩,λp' H6 s6 hV=>?_⟩);rw[pl]at hV;have em:(if r=n6 then v else v-AW d (v:Int))=mkN r d v:=rfl;rw[em]at hV;refine .mk z.k p' _ zd hV (KK (Q:=λ_ H'=>Q .eJ H') (B5.same s6) hV hx hD ?_ λH7 ef=>hdone H7 λb o e=>ef b o (s6 _ _ (s15 _ _ e)));unfold mkN;by_cases Z:r=n6
    ·rw[zf Z];exact⟨hv,.inl Z⟩
    ·rw[zg Z,S];refine⟨Nat.lt_of_le_of_lt (Nat.sub_le _ _) hv,.inr ?_⟩;have h1:v-(v-(v&&&kn d))=v&&&kn d:=by have:=Nat.and_le_left (n:=v) (m:=kn d);lia
     exact iO.iff.mpr λk hk=>by grind
end
end Mk
namespace L2
open PySem
theorem U6{a}{o}{f}{g:TG}{s:TS}{D:KR}{b}(d:Nat->St->Hp->Prop)(C:d 0 b H)(y:∀i b H,d i b H->H a=U (.gj o (.dK f)))
  (w:∀i t b H,f[i]?=U t->d i b H->g (kV t.1) b H λh u=>s {D with nx:=d (i+1),ct:=d (i+1),bk:=D.nx} h u) (E:∀b H,d f.3 b H->D.nx b H):
  ∃W:Nat->Nat->St->Hp->Prop,(∃m,W 0 m b H)/\∀i m b H,W i m b H ->
   ((Itk a o f).stop i H/\D.nx b H)\/((Itk a o f).go i H/\∃N,(∀j l,N j l->∃z,z<m/\W (i+1) z j l)/\∀x l,(Itk a o f).jD i H x l->g x b l λh u=>s {D with nx:=N,ct:=N,bk:=D.nx} h u):=by
 show(λi m b H=>C₃ (m=f.3-i) (i<=f.3) (d i b H),(7,Nat.zero_le _,C),?_);rintro i m b H ⟨rfl,F,r⟩;by_cases p:i<f.3
 ·show .inr ((y i b H r,p),d (i+1),λj l q=>(f.3-(i+1),by lia,Y,p,q),?_);rintro x l ⟨rfl,t,v,rfl⟩;show w i t b _ v r
 ·have e:i=f.3:=by lia
  subst e;show .inl ((y _ b H r,zp _),E b H r)
end L2
namespace Mk
open PySem L2 MK PySem.NumText
mutual
theorem Hi:BS (gO P w) X E0:=λ_ _ _ _ _ _ _ z=>by let(_,_,_,_,_,_,q):=z;show q.40
theorem U7(i:PE X o to)(c:iQ X.K C)(G:CJ X.14 X.w X.K X.mg X.39 C m k q p)(h:eB d X.A)(j:BS (gO X.14 X.w) X E)(e:k<=d:=by decide)
  (ht:eval (.Call (.Attribute o m l) [] [] g) X.21=(do
   let a ←eval o X.21
   standAt l.atName
   let (f,first) ←holding [a] (getMethod a m pl)
   callWith g f first (backTo g (starEach [] X.21)) (backToKw g (keywordEach [] X.21))):=by rfl):PE X (.Call (.Attribute o m l) [] [] g) (Ko C m p [] E to Ce):=
 let(_,_,F,m,b):=G.ex
 Bj i c m F (h.51 e) b .nil j ht
def rk(x:Str):Nat:=ia.findIdx (· == x)
theorem aO:∀x∈ia,∀y∈ia,PySem.Spec.ltCps x.6 y.6=decide (rk x<rk y):=by trivial
theorem U8:∀x∈ia,∀y∈ia,rk x=rk y->x=y:=by trivial
theorem KL:∀{l m:List Nat},l.70 (· < ·)->m.70 (· < ·)->(∀x,x∈l ↔ x∈m)->l=m
 | [],[],_,_,_=>rfl
 | [],b::m,_,_,h=>nomatch (h b).53 (_)
 |a::l,[],_,_,h=>nomatch (h a).mp (_)
 |a::l,b::m,f,g,h=>by
  let(p,e):=pairwise_cons.mp f;let(o,i):=pairwise_cons.mp g
  let d:a=b:=by
   let z||z:=mem_cons.mp ((h a).mp (by simp))
   ·show z
   ·let y||y:=mem_cons.mp ((h b).53 (by simp))
    ·lia
    grind
  subst d;congr 1;show KL e i λx=>(λj=>?_,λj=>?_)
  ·grind
  grind
theorem LX:∀b p,(∀x∈p::b,x∈ia)->PyProof.Rows.risingS p b=L->((p::b).5 rk).70 (· <= ·)
 | [],p,_,_=>List.pairwise_singleton ..
 |c::g,p,f,h=>by
  change (!PySem.Spec.ltCps c.6 p.6&&PyProof.Rows.risingS c g)=L at h;rw[aO c (f c (_)) p (f p (_)),Bool.and_eq_true,Bool.not_eq_true',decide_eq_false_iff_not]at h;let d:=LX g c (λx a=>f x (_)) h.2;show pairwise_cons.53 (λx a=>?_,d);let rfl||z:=mem_cons.mp a
  ·lia
  ·have:=(pairwise_cons.mp d).1 x z
   lia
theorem ip.uniq(h:ip f g)(k:ip A g)(B:PyProof.Rows.sortedS f=L)(u:PyProof.Rows.sortedS A=L):f=A:=by
 let st:∀{l:lr},ip l g->PyProof.Rows.sortedS l=L->(l.5 rk).70 (· < ·):=λ{l}h s=>by
  cases l with
  |nil=>show List.Pairwise.nil
  |cons p q=>
   let i:=LX q p h.w s;let d:((p::q).5 rk).70 (· ≠ ·):=pairwise_map.53 (List.Pairwise.imp_of_mem (λF t o e=>o (U8 _ (h.w _ F) _ (h.w _ t) e)) h.nd);show(i.and d).imp λz=>Nat.lt_of_le_of_ne z.1 z.2
 let r:∀{l m:lr},ip l g->ip m g->∀x,x∈l.5 rk->x∈m.5 rk:=λ{l m}h k x j=>by
  let(y,C,rfl):=zh.mp j;show zh.53 (y,(k.mem y).53 ((h.mem y).mp C),Y)
 let e:=KL (st h B) (st k u) λx=>(r h k x,r k h x)
 let inj:∀{l m:lr},(∀x∈l,x∈ia)->(∀x∈m,x∈ia)->l.5 rk=m.5 rk->l=m:=by
  intro l;induction l with
  |nil=>ext
  |cons a l D=>
   intro m i d e;cases m with
   |nil=>cases e
   |cons b m=>
    injection e with E v
    rw[U8 a (i a (_)) b (d b (_)) E,D (λx j=>i x (_)) (λx j=>d x (_)) v]
 show inj h.w k.w e
inductive spBi(f C:l7)(vs:ly)(H:Hp)(Q:VK)(g:XK):Prop
 |mk (p dx k) (due) (r) (i:vs=[.ref p,.ref k]) (j:H p=U (.ins f dx [])) (q:eR C H k due r) (m:∀d l h,(∀b o,H b=U o->b≠p->h b=U o)->H d=J->H l=J->gk f C ⟨p,k,d,l⟩ due r (λ_=>J) [] h->Q .eJ h)
theorem cv:AH [lH,lN] [lH,lN] (defScope IP):=fG
theorem aP(F:eP h lU "Book.__init__" IP f m)(u:C5 h g):AT az a0 h mg base eK 1 f m [lH,lN] (spBi g ar):=by
 show F.m cv λvs H aC as ab=>?_;let(p,i,k,due,al,rfl,hp,KA,ag):=ab;show(Y,λdc an aM aR hr=>?_);show(_,AC (CS (Z 0) (Z 1) Y) (AC (CS (Z 0) DR Y) (AB (CS (Z 0) (A4 AG) Y))),(7,7,p,g,i,[],Y,hp,u.cl,u.nK,(_),?_));intro d X;let C:=dG (H:=H) (a:=p) (o:=HO.ins g i (BH mu (.ref k) []));let o1:∀b o,H b=U o->b≠p->upd H p (HO.ins g i (BH mu (.ref k) [])) b=U o:=λb o e t=>by rwa[AE t]
 let M:∀b,upd H p (HO.ins g i (BH mu (.ref k) [])) b=J->H b=J:=λb e=>by
  by_cases y:b=p
  ·ext
  ·rwa[AE y]at e
 generalize upd H p (HO.ins g i (BH mu (.ref k) []))=A at C o1 M X ⊢;let G:=AD (dH.refl _) X (o:=HO.dK []);let P:(upd A d (.dK [])) d=U (.dK []):=dG;generalize upd A d (.dK [])=q at G P ⊢;show(7,p,g,i,7,G _ _ C,u.cl,u.nE,Nat.lt_of_le_of_lt (Ax _ _ _) (_),(_),λl r=>?_);let v:d≠p:=λy=>by ext
 let N:=dG (H:=q) (a:=p) (o:=HO.ins g i (BH mZ (.ref d) (BH mu (.ref k) [])));let S:∀b o,q b=U o->b≠p->upd q p (HO.ins g i (BH mZ (.ref d) (BH mu (.ref k) []))) b=U o:=λb o e t=>by rwa[AE t]
 let Q:∀b,upd q p (HO.ins g i (BH mZ (.ref d) (BH mu (.ref k) []))) b=J->q b=J:=λb e=>by
  by_cases y:b=p
  ·ext
  ·rwa[AE y]at e
 generalize upd q p (HO.ins g i (BH mZ (.ref d) (BH mu (.ref k) [])))=B at N S Q r ⊢;let I:=AD (dH.refl _) r (o:=HO.lst []);let E:(upd B l (.lst [])) l=U (.lst []):=dG;generalize upd B l (.lst [])=s at I E ⊢;show(7,p,g,i,7,I _ _ N,u.cl,u.nD,Nat.lt_of_le_of_lt (Ax _ _ _) (Nat.succ_lt_succ (Nat.lt_of_le_of_lt (Ax _ _ _) (_))),?_);let j:∀b o,H b=U o->b≠p->upd s p (HO.ins g i (FX (.ref k) d l)) b=U o:=λb o e t=>by rw[AE t];show I _ _ (S b o (G _ _ (o1 b o e t)) t)
 show ag d l _ j (M d X) (M l (none_of G (Q l r))) ((i,dG),?_,([],by change(upd s p (HO.ins g i (FX (.ref k) d l))) d=_;rw[AE v];show I _ _ (S _ _ P v),([],rfl,nodup_nil,λx hx=>(by cases hx),λx=>(λz=>(by cases z),λz=>absurd rfl z)),λx n c e=>nomatch e),([],by change(upd s p (HO.ins g i (FX (.ref k) d l))) l=_;rw[AE (Ne.symm (AK N r))];show E,.nil,Nat.zero_le _),λx n c e=>nomatch e);let(R,e1,T,e2,O,a,b,c):=KA.ex;let w:∀{b:l7}{o:HO},H b=U o->(∀D x,o≠ .ins D x [])->b≠p:=λe n y=>by grind
 show⟨(R,e1,T,e2,O,j _ _ a (w a λD x z=>?_),j _ _ b (w b λ_ _ z=>nomatch z),j _ _ c (w c λ_ _ z=>nomatch z))⟩;have:=HN e1 e2 al;rw[HO.ins.inj z|>.2.2]at this;cases this
inductive gH(H:Hp)(t:l7)(g:En):Prop
 |mk (kvs) (b:H t=U (.dK kvs)) (d:iu H kvs g)
inductive spLgv(vs:ly)(H:Hp)(Q:VK)(b:XK):Prop
 |mk (t) (g) (x) (n:Nat) (f:vs=[.ref t,.str x,.int (n)]) (h:gH H t g) (j:x∈ia) (i:∀q d,dH H d->H q=J->gH d q (ir g x n)->Q (.ref q) d)
noncomputable abbrev cw:lr:=[mf,lX,lV,pa,mw]
theorem scLgv:AH cw [mf,lX,lV] (defScope J1):=fG
theorem Yg(F:eP i pH pH J1 f s)(B:Bl j)(w:j mH=gt):AT al aM i j base eK 1 f s [mf,lX,lV] spLgv:=by
 show F.m scLgv λvs H an ab h=>?_;let(t,g,x,n,rfl,(d,ht,D),hx,q):=h;show(Y,λdc A ag aC hr=>?_);let C:=CK hr;let S:=scLgv.nd
 show(_,AC (Sq (i:=3) (j:=4) Y S Y Y qc Y Y (fJ (Ay GQ Y w JK (fy (Z 0))) AF) (by rfl))
  (At (AV (Do (Hx C (Z 1) (Z 0))) (AB (A6 4 S (AX CQ (Am (Ac i rfl) (Au C (Z 0) (Z 1) (λ_ _=>rfl)) AF (λ_ _=>rfl)) (Ay Hq rfl B.int Ea (fy (CG Dg (Am (Ac i rfl) (Au C (Z 0) (Z 1) (λ_ _=>rfl)) AF (λ_ _=>rfl)) (Z 2) (AN _))))))) AM)
  (AC (EB C (Z 3) (Z 1) (AZ (fJ (Z 2) (Z 4))) rfl)
  (AB (AI (Z 3))))),?_)
 show(7,t,d,Y,.inl ht,λp G=>?_);let l:=AD (dH.refl H) G (o:=HO.dK d);let r:(upd H p (.dK d)) p=gl (.dK d):=dG;generalize upd H p (.dK d)=P at l r;show(_,7,(λE R=>R=P/\∃c:Nat,E=[gl (.ref t),gl (.str x),gl (.int n),gl (.ref p),gl (.int c)]/\Dw g x (gl (n,(c)))=ir g x n,λar M=>?_,?_))
 ·show(_,rfl,_,rfl,t,_,rfl,.inl (_,Sum.inr x,.inl (l _ _ ht),rfl,rfl),_,rfl,?_);cases e:g x with
  |none=>
   rw[D.no e];show AU (M _ _ (Y,0,Y,?_));unfold ir;rw[e]
  |some y=>
   let(m,c):=y;let(T,J,U):=D.vl x m c e;rw[J];let v:=l _ _ U;show Ag (7,7,t,7,.inl (_,Sum.inr x,.inl (l _ _ ht),Y,J.35),T,_,1,7,Y,eO.of v,Y,7,7,t,7,.inl (_,Sum.inr x,.inl (l _ _ ht),Y,J.35),T,_,0,7,Y,eO.of v,Y,7,Y,.inr (7,_,7,Y,M _ _ (Y,if n=m then c else c+1,?_,by unfold ir;rw[e])));by_cases N:n=m
   ·subst N;simp;rfl
   ·have:¬ m=(n:Int):=by lia
    rw[zg N];simp[this];rfl
 rintro E I ⟨rfl,c,rfl,eg⟩;show(7,7,ig,λb X=>?_);let u:=AD (dH.refl I) X (o:=HO.tup [V.int n,V.int c]);let z:(upd I b (.tup [V.int n,V.int c])) b=gl (.tup [.int n,.int c]):=dG;generalize upd I b (.tup [V.int n,V.int c])=H3 at u z;show(7,7,p,7,iP.k (k:=Sum.inr x) (u _ _ r) D.small,7,q p _ (λa o e=>?_) G (_,dG,?_))
 ·rw[AE (AK e G)];show u _ _ (l _ _ e)
 ·rw[←eg];show((D.34 λa Q e=>u _ _ (l _ _ e)).put hx z).34 λa Q e=>?_;rw[AE (λy=>by rw[y,u _ _ r]at e;cases e)];show e
noncomputable def jY:lr:=["a","ab","b",qf,"x"]
theorem U9(h:x∈jY):x∈ia:=(show ∀x∈jY,x∈ia by decide +kernel) x h
inductive spLwo(vs:ly)(H:Hp)(Q:VK)(f:XK):Prop
 |mk (d) (a b) (h:vs=[.ref d]) (i:H d=U (.lst [.int a,.int b])) (j:∀x g,eE d H g->x∈jY->Q (.str x) g)
theorem aQ:AH [lI] [lI] (defScope Go):=fG
theorem Yh(F:eP g pC pC Go f B)(m:Fn P w g S base mx 2 [lI,mw] gE):AT P w g S base eK 3 f B [lI] spLwo:=by
 show F.m aQ λvs H Q E h=>?_;let(d,a,b,rfl,N,q):=h;show(Y,λT A p s I=>?_);show(_,AB (AI (Am (Ak g Y) (gJ.h (ZV (LB (LB (LB (LB (LB HA))))))) (fP m I (fJ (Z 0) AF)) (λ_ _=>rfl))),((_),λl r=>(7,d,a,b,5,Y,AD (dH.refl H) r _ _ N,qc,qc,λi M C G X=>?_)));let(j,rfl):=Int.eq_ofNat_of_zero_le G;let t:j<5:=by lia
 let(x,D,z):∃x,([("a":Str),"b","x","ab",qf].5 V.str)[j]?=U (.str x)/\x∈jY:=by
  have:∀j,j<5->∃x,([("a":Str),"b","x","ab",qf])[j]?=U x/\x∈jY:=by
   intro j t;let rfl||rfl||rfl||rfl||rfl:=(show j=0\/j=1\/j=2\/j=3\/j=4 by lia)
   ·trivial
   ·trivial
   ·trivial
   ·trivial
   ·trivial
  let(x,R,u):=this j t;show(x,by grind,u)
 show(l,_,_,7,Y,dY.of (by rw[AE (λy=>by ext)];show dG),BW D,q x _ (λc o e v=>?_,M,C,dG) z);rw[AE v];show AD (dH.refl H) r _ _ e
inductive spLn'(vs:ly)(H:Hp)(Q:VK)(f:XK):Prop
 |mk (d u) (m:Nat) (a b) (bs) (due) (i:vs=[.ref d,.ref u,.int (m)]) (j:H d=U (.lst [.int a,.int b])) (p:H u=U (.lst (bs.5 V.ref))) (o:dJ H bs (Ds due)) (s:0<due.3) (r:fZ due) (v:m<=20) (y:u≠d) (w:∀q l h g,eE d H g->H l=J->g q=U (.tup [.ref l,.int (Ah (h.5 (look due)):Nat)])->g l=U (.lst (h.5 V.str))->NmO due h->Q (.ref q) g)
noncomputable abbrev cy:lr:=[lI,mj,mi,nj,lV,"_law_turn",lX,"_law_more"]
theorem scLnm:AH cy [lI,mj,mi] (defScope IW):=fG
theorem Yi(F:eP b qg qg IW an fd)(B:Bl mg)(f:Fn ag aM b mg base mx 2 [lI,mw] gE):AT ag aM b mg base eK 3 an fd [lI,mj,mi] spLn':=by
 show F.m scLnm λvs H a1 a0 ar=>?_;let(d,u,aC,a,al,bs,r,rfl,hd,hu,M,h0,Y,hm,G,q):=ar;show(zd,λdc aR a2 a3 hr=>?_);let g:=scLnm.nd
 show(_,AC (Sq (i:=3) (j:=4) zd g zd zd qc zd zd (fJ (A4 AG) AF) (by rfl))
  (AC (Cl PassesOwn.never rfl (Ck rfl B.range (fy (fP f hr (fJ (Z 0) (AX CQ (Z 2) AF))))) (BM 5 g)
   (AC (Bo (Am (Ak b rfl) (Z 1) (fP f hr (fJ (Z 0) (AS (BB b rfl) rfl B.61 PySem.boot_len (fy (Z 1))))) (λ_ _=>rfl)) (BR rfl (AQ (BM 6 g) (AQ (BM 7 g) Az))))
   (AC (Ae (Bg (Z 3) (fy (Z 6))))
   (AB (A6 4 g (AX JO (Z 4) (Z 7)))))))
  (AB (AI (AZ (fJ (Z 3) (Z 4)))))),?_)
 let jM:bs.3=r.3:=by have:=M.3;unfold Ds at this;rwa[AO]at this
 show((_),λl Q=>(_,7,?_));let y:=AD (dH.refl H) Q (o:=HO.lst []);let l1:(upd H l (.lst [])) l=U (.lst []):=dG;let C:l≠d:=λab=>by ext
 generalize upd H l (.lst [])=H1 at y l1;show(7,7,_,7,zd,d,a,al,7,y _ _ hd,by lia,by lia,λi a' b' as hi=>?_);let(n,rfl):=Int.eq_ofNat_of_zero_le as;show(n,zd,by lia,by lia,Fa (λi A E=>∃(t:lr)(X s m:Option V),A=[U (.ref d),U (.ref u),U (.int aC),U (.ref l),U (.int (Ah (t.5 (look r)))),X,s,m]/\t.3=i/\eE d H E/\E l=U (.lst (t.5 V.str))/\∀x∈t,x∈r.5 (·.1)) ?_ ?_ ?_)
 ·show([],J,J,J,zd,zd,(λc o e T=>?_,a',b',dG),?_,λx hx=>by cases hx)
  ·rw[AE T];show y _ _ e
  ·rwa[AE C]
 ·rintro i A D hi ⟨t,X,s,m,rfl,hn,I,N,P⟩;let(x2,y2,hd2):=I.fV;let az:=I.old _ _ hu G;show(7,7,7,u,7,.inl (dY.of az),d,x2,y2,7,hd2,by ext,by have:=Y.61;rw[AO];lia,λj R h j0 jl=>?_);let(j,rfl):=Int.eq_ofNat_of_zero_le j0;rw[AO]at jl;let hj:j<bs.3:=by lia
  let v:eE d H (upd D d (.lst [.int R,.int h])):=I.upd;let w:(upd D d (.lst [.int R,.int h])) l=U (.lst (t.5 V.str)):=by rwa[AE C]
  let u3:(upd D d (.lst [.int R,.int h])) u=U (.lst (bs.5 V.ref)):=by rwa[AE G]
  generalize upd D d (.lst [.int R,.int h])=H3 at v w u3;let(pr,z,hb):=Bu M (z7 hj);unfold Ds at z;rw[zx]at z;let(p,S,rfl):=z5.mp z;show(u,_,_,7,zd,dY.of u3,BW (_),_,7,eO.of (v.old _ _ hb (λab=>by ext)),zd,_,7,_,7,zd,(7,.inl (zd,_,dY.of w),7,l,_,7,zd,w,AR (_),7,7,_,7,zd,t++[p.1],U (.int (0+i)),U (.str p.1),U (.int p.2),?_,by ext,(λc o e T=>?_,?_),by rw[dG,zl];rfl,λx hx=>?_))
  ·rw[zl];have:=Db Y.nd (zM S)
   let e:Ah (t.5 (look r)++[p].5 (λq=>look r q.1))=Ah (t.5 (look r))|||p.2:=by
    rw[List.map_singleton,this];unfold Ah;rw[List.foldl_append];rfl
   let e2:Builtin.bitOr ((Ah (t.5 (look r)):Nat)) p.2=((Ah (t.5 (look r)++[p.1].5 (look r)):Nat)):=by
    rw[C8];show congrArg _ e.35
   rw[←e2];rfl
  ·rw[AE (λab=>by ext)];show v.old c o e T
  ·let(x4,y4,h4):=v.fV;show(x4,y4,by rw[AE (Ne.symm C)];show h4)
  grind
 ·rintro A D ⟨t,X,s,m,rfl,hn,I,N,P⟩;show(7,7,ig,λp S=>?_);let sp:=AD (dH.refl D) S (o:=HO.tup [V.ref l,V.int (Ah (t.5 (look r)))]);show q p l t _ (I.step sp) Q dG (sp _ _ N) (by lia,P,Y.lt)
theorem gk.but(s:∀b o,H b=U o->b≠t->f b=U o)(ht:H t=U (.dK w))(l:t≠z.e)(h:gk m C z due r g D H):gk m C z due r g D f:=by
 let kp:∀{b:l7}{o:HO},H b=U o->(∀i,o≠ .dK i)->f b=U o:=λ{b o}e n=>s b o e λy=>by grind
 let p:∀b d,H b=U (.tup d)->f b=U (.tup d):=λb d e=>kp e λ_ z=>nomatch z;let((Q,F),v,(i,I,J),(O,u,N,G),R):=h;let(j,x,L,M,E,a,b,c):=v.ex;show((Q,kp F (λ_ z=>nomatch z)),⟨(j,x,L,M,E,kp a (λ_ z=>nomatch z),kp b (λ_ z=>nomatch z),kp c (λ_ z=>nomatch z))⟩,(i,s _ _ I (Ne.symm l),J.34 p),(O,kp u (λ_ z=>nomatch z),Paired.imp' (λ_ _ q=>q.34 p) N,G),R)
inductive spBl(b C:l7)(vs:ly)(H:Hp)(Q:VK)(d:XK):Prop
 |mk (z) (due) (r) (g) (D) (t) (h:vs=[.ref z.b,.ref t]) (i:gk b C z due r g D H) (l:gH H t g) (j:t≠z.e) (m:∀f,dH H f->Q (.bl L) f)
noncomputable abbrev NBl:lr:=[lJ,mf,lX]
theorem scBl:AH NBl [lJ,mf] (defScope EW):=fG
theorem aS(F:eP f oV oV EW a0 fd)(B:Bl m)(BT:C5 f h)(VT:Ma f p)(ar:Mt P w f m base h mQ 1 [lH] (spNs h C))(an:Mt P w f m base h qz 1 [lH] (spLn h C))(aC:CJ P w f m base h nZ 6 [lH,lK] (spVl h C p cB))(al:CJ P w f m base h pQ 4 [lH,lK] (spCh h C))(az:Mt P w f m base p lO 1 [lH] (gg p)):AT P w f m base eK 7 a0 fd [lJ,mf] (spBl h C):=by
 let(fL,dL,GL,mL,bL):=an.ex;show F.m scBl λvs H a8 a7 a1=>?_;let(z,l,r,g,D,t,rfl,M,(a,ht,E'),hte,a4):=a1;show(Y,λdc a6 a9 bd q=>?_);let hu:=CK q
 show(_,AC (AV (PW.pt (B8 (AJ (IA f Y q.41) (DF (Z 0) BT.cl ar q) (AS (Fx Y) Y B.sorted Ff (fy (Z 1))) (AN _)) (Bc (AJ Dg (AS (NI GL (q.51 qc) bL mL) Y B.61 PySem.boot_len (fy (Z 0))) (AS Ky Y B.61 PySem.boot_len (fy (Z 1))) (AN _))))) (AB AY) AM)
  (AC (NZ (Cl PassesOwn.never rfl (V6 (Z 1)) (BM 2 scBl.nd) (AB (AV (PW.pt (B8 (AJ Dg (DF (Dv (Z 0) BT.cl aC q Hi (fy (Z 2))) VT.cl az q) (Am (Ac f rfl) (Au hu (Z 1) (Z 2) (λ_ _=>rfl)) AF (λ_ _=>rfl)) (AN _)) (Bc (AJ Dg (Dv (Z 0) BT.cl al q Hi (fy (Z 2))) (Am (Ac f rfl) (Au hu (Z 1) (Z 2) (λ_ _=>rfl)) AF (λ_ _=>rfl)) (AN _))))) (AB AY) AM))))
  (AB (AI Cf))),?_)
 let(ms,km,kE):=E'.ks;let kH:=kE.61;let(dx,hb):=M.bk;show(7,M.no (z,l,r,g,D,Y,M,λl1 A Q s1 h1 k1 a5=>(7,t,a,ms,Y,.inl (s1 _ _ ht),km,by lia,λab n2 S hp aM=>?_)));let aR:=k1.uniq (kE.perm hp) a5 aM;subst aR;let G:=AD s1 S (o:=HO.lst (A.5 V.str));let as:=λx hx=>(Ml x (k1.w x hx)).1;let R:=AD (dH.refl Q) S (o:=HO.lst (A.5 V.str)) _ _ h1;let ag:(upd Q ab (HO.lst (A.5 V.str))) ab=U (.lst (A.5 V.str)):=dG;generalize upd Q ab (HO.lst (A.5 V.str))=s at G R ag;show(_,_,C4 R (HU _),C4 ag (HU _),FT as,FT as,7,?_);rw[Kc];let(ms',kE',eL):=E'.61;show AU (7,z.b,dx,7,G _ _ hb,z,l,r,g,D,Y,M.25 G,λm3 k3=>(m3.3,Y,Nat.lt_of_le_of_lt k3.61 qc,(7,t,a,Y,G _ _ ht,Y,7,?_)));rw[zH (by rw[eL,k3.eqlen kE'])];show AU (t,a,G _ _ ht,λo u e=>(by let e':H t=U (.gj o u):=e;rw[ht]at e';cases e'),λo=>?_);let X:∀b u,s b=U u->b≠t->(upd s t (.gj o (.dK a))) b=U u:=λb u e y=>by rwa[AE y]
 let t3:(upd s t (.gj o (.dK a))) t=U (.gj o (.dK a)):=dG
 let uu:∀j,dH (upd s t (.gj o (.dK a))) j->dH H (upd j t (.dK a)):=λj d b u e=>by
  by_cases y:b=t
  ·rw[y,dG,←ht,←y,e]
  ·rw[AE y];show d _ _ (X _ _ (G _ _ e) y)
 generalize upd s t (.gj o (.dK a))=H3 at X t3 uu;show(7,t,o,a,Y,t3,U6 (λi E j=>∃v,E=[U (.ref z.b),U (.ref t),v]/\dH H3 j) (gt,Y,dH.refl _) (λi E j (_,_,d)=>d _ _ t3) ?_ ?_)
 ·rintro i ⟨a3,val⟩ E j a2 ⟨v,rfl,d⟩;let N:(ms.5 Sum.inr)[i]?=U a3:=by rw[←km,zx,a2];rfl
  rw[zx]at N;let(x,hx,rfl):=z5.mp N;let((n,c),hg):∃y,g x=U y:=Option.ne_none_iff_exists'.mp ((kE.mem x).mp (_));let(t',hv,ht'):=E'.vl x n c hg;let T:=((M.25 G).but X (G _ _ ht) hte).25 d;let tp:∀{H5:Hp},dH j H5->H5 t'=U (.tup [.int n,.int c]):=λI=>I _ _ (d _ _ (X _ _ (G _ _ ht') λy=>by ext));show(7,T.no (7,.mk z l r g D x n c Y T hg λbb H5 I hV=>JB hV (7,7,t,7,.inl (_,Sum.inr x,.inr (o,I _ _ (d _ _ t3)),Y,hv.35),t',_,0,7,Y,eO.of (tp I),Y,Y,7,?_)));rw[zH (rfl)];show AU (7,(T.25 I).no (7,.mk z l r g D x n c Y (T.25 I) hg (7,7,t,7,.inl (_,Sum.inr x,.inr (o,I _ _ (d _ _ t3)),Y,hv.35),t',_,1,7,Y,eO.of (tp I),Y,Y,7,?_)));rw[zH (rfl)];show AU (7,d.7 I)
 ·rintro E j ⟨v,rfl,d⟩;show(d _ _ t3,a4 _ (uu j d))
structure iX(K:FG)(x qual:Str)(st:Stmt)(f:l7)(fd:FuncData)(c:l7):Prop where
 ex:∃(oc:Value)(od:Option l7)(kV doc pm:Value)(an:Option l7)(ct:Value)(kB:Array (Option Value)),
  fd=W.fnOf x qual (defArgs st) (defBody st) (defScope st) .none kV doc pm an (.ref c) ct/\K.8 f=U (oc,od,.func fd,kB)/\W.codeIn K (.ref c) qual=L
theorem iX.ok{x qual}{N d}{k}(F:iX m x qual st f B c)(S:AH N d (defScope st))(len:∀vs H Q E,g vs H Q E->vs.3=d.3)
  (a:∀A b s H vs Q E,eB k (A.56 (PyProof.Rows.envOfC qual (defScope st) s.4 f (.ref c)))->g vs H Q E ->
   ∃t,hA (B9 eK P w m D base N qual (defScope st) f (.ref c) A b s H E).jv (defBody st) t/\t {nx:=λ_ p=>Q .eJ p,rt:=Q} (start N vs) H):AT P w m D base eK (k+1) f B d g:=by
 let(C,v,kV,l,u,y,z,j,rfl,r,i):=F.ex;show P4 r i S len λA b s H vs Q E o e=>?_;let(t,h,q):=a A b s H vs Q E o e;show(t,h.jv,q)
noncomputable def Qs:Stmt->List Stmt|.For _ _ b _ _=>b|_=>[]
noncomputable def Yj(l:List Stmt)(i:Nat):Stmt:=l.45 i (.Pass (0,0,0,0))
theorem eV.same{q}(s:dH H b)(h:eV H f q g):eV b f q g:=by
 let(a,l,i,e):=h;show(a,s _ _ l,i,λx o=>?_);let z||(c,j,d):=e x o
 ·ext
 ·show .inr (c,j,s _ _ d)
theorem eV.sameX(l:H d=U (.lst [.int x,.int y]))(s:eE d H b)(h:eV H f q g):eV b f q g:=by
 let(e,p,j,i):=h;show(e,s.old _ _ p (λz=>by ext),j,λx r=>?_);let z||(c,o,a):=i x r
 ·ext
 ·show .inr (c,o,s.old _ _ a (λz=>by subst z;rw[l]at a;cases a))
theorem OL:G8 a q≠G5 a C b:=λz=>by
 let h:({objs:=Array.replicate (a+1) (.ref C,b,.fields (Array.replicate 6 .none),#[])}:Heap).13 a=U (.ref C,b,.fields (Array.replicate 6 .none),#[]):=by
  unfold Heap.get?;rw[Array.getElem?_replicate,zf (_)]
 let l:=congrFun (HO.ext.inj z) {objs:=Array.replicate (a+1) (.ref C,b,.fields (Array.replicate 6 .none),#[])};let(o,p,vs,t,e,i,j,d):=(l.53 (_,_,h,rfl,rfl,rfl,qc,qc));cases e;rw[h]at i;cases i;cases j;rw[Array.getElem?_replicate]at d;split at d<;>cases d
theorem OM(h:H b=U (.tup [.str x,.str y,.int n])):Bf d H (.tuple [.str x,.str y,.int n]) (.ref b):=by
 show(b,7,eO.of h,(_,7,by rw[Bf],?_));show(_,7,by rw[Bf],(_,7,by rw[Bf],?_));rw[Bm]
theorem ON(h:x.31 (· < 128)=L)(e:y.31 (· < 128)=L):SeqAt.shaped (.tuple [.str x,.str y,.int n])=L:=by
 unfold SeqAt.shaped;simp;show(?_,?_)
 ·show Pe λd a=>?_;simp at a;let rfl||rfl||rfl:=a
  ·show HV h
  ·show HV e
  rfl
 ·simp only[PyData.depth,PyData.depthAll]
  lia
theorem VA(x y)(n):PyData.eqv (.tuple [.str x,.str y,.int n]) (.tuple [.str x,.str y,.int n])=L:=Ed λd a=>by
 simp at a;let rfl||rfl||rfl:=a
 ·show By _
 ·show By _
 ·show MZ _
theorem OO(due)(n:Nat):AW due (n)=n-(n&&&kn due):=by
 rfl
theorem Wq(q:g.3=b.3)
  (l:(List.range b.3).all (λi=>match b[i]?,g[i]? with|some x,U j=>decide (X.N[j]?=U x)&&decide (X.24 x=U .cell)&&decide (scope.12 x=U .free)|_,_=>O)=L)
  (d:∀x c,f.8 x=U c->X.19 x=U c) (p:∀x,(scope.12 x=U .cell\/scope.12 x=U .free)->∃c,f.8 x=U c) (a:∀x c,f.8 x=U c->X.fn x=L\/c∉ gD X.33):LamN X b g scope f:=by
 show(q,λi x h=>?_,d,p,a);let o:=(z8.mp h).1;have:=all_eq_true.mp l i (mem_range.53 o);rw[h]at this;cases e:g[i]? with
 |none=>rw[e]at this;cases this
 |some j=>
  rw[e]at this;simp at this;show(j,Y,this.1.1,this.1.2,this.2)
structure Yk(X:Cx)(K:FG)(q:Str)(ec:Nat->l7)(cM c P0:l7)(ls:List Pos):Prop where
 fn:∃f fd,eP X.K lS lS A9 f fd/\X.mg lS=U (.ref f)/\Binds X.K fd [mq] []
 M:Sb X.mg ec
 EX:Uj X.K X.mg ec cM
 GW:FnS X.14 X.w X.K X.mg X.39 nv 1 [mv] (Ef X.K ec)
 L:X2 X c P0
 ne:(ls.all λl=>ls.all λq=>decide (q=l) || !(q.68==l.68&&q.col==l.col))=ii
 g:Gl X lS
 hK:X.K=K
 hq:X.42 ++ lP=q
noncomputable def tdB(N:lr)(f g:List (Str×NameKind))(b:lr)(d:List Nat)(h:List Pos)(i:Nat)(l:Pos):Bool:=(decide (h[i]?=U l)&&decide (d.3=b.3))&&((List.range b.3).all (λi=>match b[i]?,d[i]? with|some x,U j=>decide (N[j]?=U x)&&decide (f.8 x=U .cell)&&decide (g.8 x=U .free)|_,_=>O)&&g.all (λp=>!(p.2 == .cell)&&(!(p.2 == .free)||decide (f.8 p.1=U .cell))))
theorem Gq(T:Yk X az q w v c p m)(A:eB (k+2) X.A)(i)(g)(l)(ag:∀{a}t r R d N o E,eB k (R.56 (W.envX (X.42 ++ lP) (.function,b,im,im,f) N.4 t (.ref r) a))->PE (G9 X.14 X.w X.K X.mg X.39 g (X.42 ++ lP) (.function,b,im,im,f) t (.ref r) a R d N o E) u (tl E))
  (D:tdB X.N X.env.scope.54 b g l m i j=L:=by kernel_rfl) (s:∀x c,X.19 x=U c->X.fn x=L\/c∉ gD X.33:=by intro _ _ _;show .inl rfl):
  PE X (.Call (.Name lS aM) [.Lambda ([],[],J,[],[],J,[]) u (.function,b,im,im,f) j] [] aR) (Uo az w v p q m l tl):=by
 let(aC,fd,F,hm,an):=T.fn;obtain rfl:=T.hK;obtain rfl:=T.hq;unfold tdB at D;rw[Bool.and_eq_true,Bool.and_eq_true,Bool.and_eq_true,decide_eq_true_eq,decide_eq_true_eq]at D;let((O,h1),Z,M):=D;intro ab al as H Q I h
 let S:∀y∈b,y.2≠ .cell:=λy C z=>by
  have:=all_eq_true.mp M y C;rw[z]at this;cases this
 let(a,ar,G,c2):=QA (scope:=(.function,b,im,im,f)) λy C e=>I.ok.has y.1 (.inl (by
  have:=all_eq_true.mp M y C;rw[e]at this;let q:List.lookup y.1 X.env.scope.54=U .cell:=by simpa using this
  show q))
 show Wc F T.M T.EX T.GW A T.g hm F.kp an T.L (zM O) (λq B=>?_) ar Y (Wq h1 Z G (λx P=>?_) λx c e=>s x c (G x c e)) (λ_ _ _=>rfl) Y Y Y S (λt r=>ag t r) Y Y ab al as H Q I h
 ·have z:=all_eq_true.mp (all_eq_true.mp T.ne j (zM O)) q B;rw[Bool.or_eq_true]at z;let z||z:=z
  ·show .inl (zR z)
  ·show .inr (by rwa[Bool.not_eq_true']at z)
 ·let e||e:=P
  ·show absurd Y (S _ (EH e))
  ·show c2 _ (EH e) rfl
def Nx(H d:Hp):Prop:=∀b o,H b=U o->(∀C f,o≠G5 b C f)->d b=U o
theorem Nx.same(s:dH H d):Nx H d:=λb o e _=>s b o e
theorem Nx.exc(e:dH H f)(l:f a=U (G5 a q g))(i:dH (del f a) d):Nx H d:=λb o h p=>by
 let j:=e _ _ h;apply i _ _;unfold del
 rwa[zg (λz=>by grind)]
theorem eV.nx(s:Nx H b)(h:eV H f q g):eV b f q g:=by
 let(a,l,i,e):=h;show(a,s _ _ l (λ_ _ z=>nomatch z),i,λx o=>?_);let z||(c,j,d):=e x o
 ·ext
 ·show .inr (c,j,s _ _ d (λ_ _=>OL))
theorem eV.but(h:eV H f q m)(i:∀a,H f=U (.hZ a)->g f=U (.hZ a))(o:∀b d,H b=U (.ext d)->g b=U (.ext d)):eV g f q m:=by
 let(a,t,l,j):=h;show(a,i _ t,l,λx r=>?_);let z||(c,p,e):=j x r
 ·ext
 ·show .inr (c,p,o _ _ e)
theorem aT(EP:Fz g f b i j)(h:∀p d,Nx H d->d p=U (.tup [.str lR,.str (wd j)])->Q (.ref p) d):Uq H (F2 g f b Q) i:=λe u q _ _=>(i,rfl,λt a=>.inl (j,EP,rfl,λp o r l=>h p o (Nx.exc q a r) l))
theorem Yl(o:KB g f b 1)(h:∀p i,Nx H i->i p=U (.tup [.str lR,.str ny,.int n])->Q (.ref p) i):la H (F2 g f m Q) b n:=λe j x t _ _ _ _ l=>(b,rfl,λu a=>.inr (1,j,.int n,o,rfl,by
 let d:j≠u:=λz=>by rw[←z,l]at a;cases a
 unfold del;rw[zg d]
 show l,λp r v q=>h p r (Nx.exc t a v) q))
inductive Ch(due:Aa)(r:Str):List En->jj->En->Prop
 |nil:Ch due r [λ_=>J] [] (λ_=>J)
 |snoc (F D g g' x) (h:Ch due r F D g) (f:x∈jY) (e:∀y,y≠x->g' y=g y) (n:g x=J->g' x≠J) (ok:jy due r g) (b:∀n c,g' x=U (n,(c))->c=0\/∃m d,g x=U (m,(d))/\c<=d+1):Ch due r (F++[g']) (D++[(x,(g x))]) g'
theorem Ch.last(h:Ch due r F D g):(∃a,F=a++[g])/\F.length=D.3+1:=by
 induction h with
 |nil=>ext
 |snoc F D g d x h _ _ _ _ _ e=>ext
theorem Ch.nq(h:Ch due r F D g):g "q"=J:=by
 induction h with
 |nil=>rfl
 |snoc F D g i x h a e _ _ _ d=>rw[e "q" λz=>absurd (z ▸ a) qb,d]
theorem Ch.cnt(h:Ch due r F D g):∀y n c,g y=U (n,(c))->c<=D.3:=by
 induction h with
 |nil=>show λy n c z=>nomatch z
 |snoc F D g p x h _ e _ _ j i=>
  intro y n c z;rw[zY,length_singleton];by_cases a:y=x
  ·subst a;let h||(m,d,l,o):=j n c z
   ·omega
   ·have:=i _ _ _ l;omega
  ·have:=i y n c (e y a ▸ z);omega
structure Zw where
 (z:Za) (d t u:l7)
def Kp(y:Zw)(H d:Hp):Prop:=∀b o,H b=U o->b≠y.d->b≠y.z.e->b≠y.z.l->b≠y.t->(∀f,o≠ .hZ f)->(∀g,o≠ .ext g)->d b=U o
theorem Kp.trans(a:Kp y H f)(b:Kp y f q):Kp y H q:=λc o e p i h l d j=>b c o (a c o e p i h l d j) p i h l d j
theorem Kp.nx(s:Nx H d):Kp y H d:=λb o e _ _ _ _ _ h=>s b o e λC a=>h _
structure Nd(bd:l7)(y:Zw):Prop where
 dl:y.d≠y.z.l
 dt:y.d≠y.t
 lt:y.z.l≠y.t
 ud:y.u≠y.d
 ul:y.u≠y.z.l
 ut:y.u≠y.t
 be:bd≠y.z.e
abbrev TbL(y:Zw)(F:List En)(H:Hp):Prop:=∃b,H y.t=U (.lst (b.5 V.ref))/\Paired (gH H) b F/\∀a∈b,a≠y.z.e
structure Ws(BC C bd:l7)(T:List (l7×Str×List Pos))(y:Zw)(due:Aa)(r:Str)(g:En)(D:jj)(F:List En)(H:Hp):Prop where
 di:∃a b,H y.d=U (.lst [.int a,.int b])
 B:gk BC C y.z due r g D H
 tb:TbL y F H
 du:∃bs,H y.u=U (.lst (bs.5 V.ref))/\dJ H bs (Ds due)
 hb:Rd H bd (.dK Dd)
 tabs:∀p∈T,eV H p.1 p.2.1 p.2.2
theorem gH.keep(s:∀b j,H b=U (.tup j)->i b=U (.tup j))(st:∀f,H t=U (.dK f)->i t=U (.dK f))(h:gH H t g):gH i t g:=by
 let(f,d,a):=h;show(f,st _ d,a.34 s)
theorem KM{g h}{F G}:∀{d:List g}{bs:List h},Paired F d bs->(∀a∈d,∀b,F a b->G a b)->Paired G d bs
 |_,_,.nil,_=>.nil
 |_,_,.cons a r,f=>.cons (f _ (_) _ a) (KM r λc e=>f c (_))
theorem Ws.gen(W:Ws m C w T y due r g D F H)(N:Nd w y)(s:Kp y H f)(P:∃a b,f y.d=U (.lst [.int a,.int b]))(B:gk m C y.z due r X A f)(tb:TbL y l f)(d:∀p∈T,eV f p.1 p.2.1 p.2.2):Ws m C w T y due r X A l f:=by
 let(I,R,_):=W.B.en;let(Q,M,_):=W.B.de;let(a,b,S):=W.di;let(q,ht,_):=W.tb;let kp:∀{b:l7}{o:HO},H b=U o->(∀i,o≠ .lst i)->(∀v,o≠ .dK v)->(∀E,o≠ .hZ E)->(∀u,o≠ .ext u)->f b=U o:=λ{b o}e ab ag G x=>s b o e (λz=>by grind) (λz=>by grind) (λz=>by grind) (λz=>by grind) G x;show(P,B,tb,?_,?_,d)
 ·let(bs,t,j):=W.du;show(bs,s _ _ t N.ud (λz=>by ext) N.ul N.ut (λ_ z=>nomatch z) (λ_ z=>nomatch z),dJ.eX (λb i e=>kp e (λ_ z=>nomatch z) (λ_ z=>nomatch z) (λ_ z=>nomatch z) (λ_ z=>nomatch z)) j)
 ·let h||(o,h):=W.hb
  ·show .inl (s _ _ h (λz=>by ext) N.be (λz=>by ext) (λz=>by ext) (λ_ z=>nomatch z) (λ_ z=>nomatch z))
  ·show .inr (o,kp h (λ_ z=>nomatch z) (λ_ z=>nomatch z) (λ_ z=>nomatch z) (λ_ z=>nomatch z))
theorem gk.nx(s:Nx H f)(h:gk m C z due r g D H):gk m C z due r g D f:=by
 let kp:∀{b:l7}{o:HO},H b=U o->(∀y,o≠ .ext y)->f b=U o:=λ{b o}e n=>s b o e λC j=>n _;let l:∀b d,H b=U (.tup d)->f b=U (.tup d):=λb d e=>kp e λ_ z=>nomatch z;let((j,x),t,(E,G,I),(N,p,M,F),O):=h;let(i,u,J,L,v,a,b,c):=t.ex;show((j,kp x (λ_ z=>nomatch z)),⟨(i,u,J,L,v,kp a (λ_ z=>nomatch z),kp b (λ_ z=>nomatch z),kp c (λ_ z=>nomatch z))⟩,(E,kp G (λ_ z=>nomatch z),I.34 l),(N,kp p (λ_ z=>nomatch z),Paired.imp' (λ_ _ q=>q.34 l) M,F),O)
theorem Ws.nx(W:Ws v C m T y due r g D F H)(N:Nd m y)(s:Nx H f):Ws v C m T y due r g D F f:=by
 let kp:∀{b:l7}{o:HO},H b=U o->(∀l,o≠ .ext l)->f b=U o:=λ{b o}e n=>s b o e λC t=>n _;let(a,b,j):=W.di;let(h,ht,d,i):=W.tb;show W.gen N (.nx s) (a,b,kp j (λ_ z=>nomatch z)) (W.B.nx s) (h,kp ht (λ_ z=>nomatch z),Paired.imp' (λ_ _ q=>q.34 (λb u e=>kp e (λ_ z=>nomatch z)) λ_ e=>kp e (λ_ z=>nomatch z)) d,i) λp d=>eV.nx s (W.tabs p d)
theorem Ws.same{due}{r}(W:Ws d C b T y due r g D F H)(N:Nd b y)(s:dH H f):Ws d C b T y due r g D F f:=W.nx N (.same s)
theorem Ws.lst{H h}{due}{C}{t m}{T}{y}{r}{g}{D}{F j}{a}{f}(W:Ws t C m T y due r g D F H)(N:Nd m y)(s:∀b o,H b=U o->b≠a->h b=U o)(P:H a=U (.lst f))(M:a≠y.z.l)(kp:Kp y H h)(w:∃a b,h y.d=U (.lst [.int a,.int b]))(A:TbL y j h):Ws t C m T y due r g D j h:=by
 let d:∀{b:l7}{o:HO},H b=U o->(∀f,o≠ .lst f)->h b=U o:=λ{b o}e n=>s b o e λz=>by grind
 let((dx,J),x,(L,Q,R),(as,u,Y,O),h8):=W.B;let(i,E,S,X,G,a',I,Z):=x.ex;let l:∀b f,H b=U (.tup f)->h b=U (.tup f):=λb f e=>d e λ_ z=>nomatch z;show W.gen N kp w ((dx,d J (λ_ z=>nomatch z)),⟨(i,E,S,X,G,d a' (λ_ z=>nomatch z),d I (λ_ z=>nomatch z),d Z (λ_ z=>nomatch z))⟩,(L,d Q (λ_ z=>nomatch z),R.34 l),(as,s _ _ u (Ne.symm M),Paired.imp' (λ_ _ q=>q.34 l) Y,O),h8) A λp v=>eV.but (W.tabs p v) (λps e=>d e λ_ z=>nomatch z) λb ab e=>d e λ_ z=>nomatch z
theorem Kp.one(s:∀b o,H b=U o->b≠a->f b=U o)(h:a=y.d\/a=y.t):Kp y H f:=λb o e i _ _ d _ _=>s b o e (_)
theorem Ws.fV{due}{r}(W:Ws u C m T y due r g D F H)(N:Nd m y)(s:eE y.d H f):Ws u C m T y due r g D F f:=by
 let(a,b,p):=W.di;let(d,ht,j,l):=W.tb;let i:∀{b:l7}{o:HO},H b=U o->(∀h,o≠ .lst h)->f b=U o:=λ{b o}e n=>s.old b o e λz=>by grind
 show W.lst N s.old p N.dl (.one s.old (.inl rfl)) s.fV (d,s.old _ _ ht (Ne.symm N.dt),Paired.imp' (λ_ _ q=>q.34 (λb h e=>i e λ_ z=>nomatch z) λ_ e=>i e λ_ z=>nomatch z) j,l)
theorem DH{f g}{G}{d}{bs}{a:f}{b:g}(h:Paired G d bs)(k:G a b):Paired G (d++[a]) (bs++[b]):=by
 induction h with
 |nil=>show .cons k .nil
 |cons a r e=>show .cons a e
theorem Ws.push(W:Ws i C f T y due r g D F H)(N:Nd f y)(ht:H y.t=U (.lst (d.5 V.ref)))(m:Paired (gH H) d F)(u:∀a∈d,a≠y.z.e)(l:gH H a j)(p:a≠y.z.e):Ws i C f T y due r g D (F++[j]) (upd H y.t (.lst (d.5 V.ref++[.ref a]))):=by
 let s:∀b o,H b=U o->b≠y.t->(upd H y.t (.lst (d.5 V.ref++[.ref a]))) b=U o:=λb o e h=>by rwa[AE h]
 let v:∀{b:l7}{o:HO},H b=U o->(∀A,o≠ .lst A)->(upd H y.t (.lst (d.5 V.ref++[.ref a]))) b=U o:=λ{b o}e n=>s b o e λz=>by grind
 let(x1,x2,hd):=W.di;let w:∀{t:l7}{k:En},gH H t k->gH (upd H y.t (.lst (d.5 V.ref++[.ref a]))) t k:=λq=>q.34 (λb A e=>v e λ_ z=>nomatch z) λ_ e=>v e λ_ z=>nomatch z;show W.lst N s ht (Ne.symm N.lt) (.one s (.inr rfl)) (x1,x2,s _ _ hd N.dt) (d++[a],by rw[dG,zl];rfl,DH (Paired.imp' (λ_ _=>w) m) (w l),λb E=>?_)
 grind
theorem Ws.pop(W:Ws m C f T y due r g D (F++[w]) H)(N:Nd f y)(ht:H y.t=U (.lst ((d++[a]).5 V.ref)))(l:Paired (gH H) d F)(p:∀a∈d,a≠y.z.e):Ws m C f T y due r g D F (upd H y.t (.lst (d.5 V.ref))):=by
 let s:∀b o,H b=U o->b≠y.t->(upd H y.t (.lst (d.5 V.ref))) b=U o:=λb o e h=>by rwa[AE h]
 let j:∀{b:l7}{o:HO},H b=U o->(∀i,o≠ .lst i)->(upd H y.t (.lst (d.5 V.ref))) b=U o:=λ{b o}e n=>s b o e λz=>by grind
 let(v,u,t):=W.di;show W.lst N s ht (Ne.symm N.lt) (.one s (.inr rfl)) (v,u,s _ _ t N.dt) (d,dG,Paired.imp' (λ_ _ q=>q.34 (λb i e=>j e λ_ z=>nomatch z) λ_ e=>j e λ_ z=>nomatch z) l,p)
theorem Ws.tab(W:Ws w C m T y due r g D F H)(N:Nd m y)(un:∀q∈T,q.1=p.1->q=p)(G:p∈T)(s:LA p.1 H f)(ht:eV f p.1 p.2.1 p.2.2):Ws w C m T y due r g D F f:=by
 let(l,h0,_):=W.tabs p G;let d:∀{b:l7}{o:HO},H b=gl o->(∀l,o≠ .hZ l)->f b=gl o:=λ{b o}e n=>s b o (λz=>by grind) e;let(a,b,hd):=W.di;let(j,h,u,Y):=W.tb;let((dx,O),I,(Q,S,U),(as,E,h6,R),h8):=W.B;let(t,J,X,Z,L,a',M,c'):=I.ex;let v:∀b i,H b=gl (.tup i)->f b=gl (.tup i):=λb i e=>d e λ_ z=>nomatch z;show W.gen N (λb o e _ _ _ _ n _=>d e n) (a,b,d hd (λ_ z=>nomatch z)) ((dx,d O (λ_ z=>nomatch z)),⟨(t,J,X,Z,L,d a' (λ_ z=>nomatch z),d M (λ_ z=>nomatch z),d c' (λ_ z=>nomatch z))⟩,(Q,d S (λ_ z=>nomatch z),U.34 v),(as,d E (λ_ z=>nomatch z),Paired.imp' (λ_ _ q=>q.34 v) h6,R),h8) (j,d h (λ_ z=>nomatch z),Paired.imp' (λ_ _ q=>q.34 v λ_ e=>d e (λ_ z=>nomatch z)) u,Y) λq x=>?_;by_cases z:q.1=p.1
 ·rwa[un q x z]
 ·show eV.but (W.tabs q x) (λl e=>s _ _ z e) λb A e=>d e λ_ z=>nomatch z
theorem Ws.deed(W:Ws f C w T y due r g D F H)(N:Nd w y)(s:jz y.z H m)(B:gk f C y.z due r M A m):Ws f C w T y due r M A F m:=by
 let(a,b,u):=W.di;let(h,ht,d,j):=W.tb;let(i,L,_):=W.B.en;show W.gen N (λb o e _ l t _ _ _=>s b o e l t) (a,b,s _ _ u (λz=>by ext) N.dl) B (h,s _ _ ht (λz=>by ext) (Ne.symm N.lt),KM d λa v k q=>q.34 (λb x e=>W.B.kp s e) λi e=>s _ _ e (j a v) λz=>?_,j) λp d=>eV.but (W.tabs p d) (λI e=>W.B.kp s e) λb E e=>W.B.kp s e;let(J,G,_):=W.B.de
 ext
noncomputable def gV3(vs d:ly):ly:=match vs,d with| [a,b],[c]=>[a,b,c]|_,_=>[]
noncomputable def gU3(d f:lx):lx:=match d,f with| [a,b],[c]=>[a,b,c]|_,_=>[]
structure Mm(P:Program)(w:World)(K:FG)(mg:SV)(base:Heap)(C:l7):Prop where
 T:Fm K C
 cls:mg "Kind"=U (.ref C)
 make:∃f fd,Mk K C f/\AT P w K mg base eK 6 f fd [lH,oy,oz] (spInit C) /\
  ∃g,Oi K fd [lH,oy,oz] [oz] g gV3
def LtN(n:Nv)(sg:List Nat):Prop:=∀c∈sg,Dc c=L/\Aj n.kvs (Sum.inr ⟨#[c]⟩)=U (.int (n.tb ⟨#[c]⟩:Nat))/\n.tb ⟨#[c]⟩<2^20
theorem Qt(D:fZ n.55)(f:LtN n sg):∀{t:LT},t.Ok (n.due.5 (·.1)) sg->t.tr.Ok n
 |.nm x,h=>by
  let(p,d,rfl):=zh.mp h;show(Qj D d).1.ok
 |.no m,h=>(Mi (Nat.lt_trans h qc)).1.ok
 |.le c,h=>(Mj (f c h).1 (f c h).2.1).ok
 |.ng t,h=>Qt D f (t:=t) h
 |.bn g a b,h=>(h.1,Qt D f h.2.1,Qt D f h.2.2)
theorem aU{g:Sg}(d:a<2^20)(e:b<2^20):g.f a b<2^20:=by
 cases g<;>first|show Nat.or_lt_two_pow d e|show Nat.xor_lt_two_pow d e|show Nat.lt_of_le_of_lt Nat.and_le_left d
theorem Mn(D:fZ n.55)(f:LtN n sg):∀{t:LT},t.Ok (n.due.5 (·.1)) sg->t.tr.gA n<2^20
 |.nm x,h=>by
  change wv n x<2^20;rw[Qp D h];let(p,d,rfl):=zh.mp h;rw[Db D.nd d];show D.lt p d
 |.no m,h=>by
  change wv n (HY m)<2^20
  rwa[U5 h]
 |.le c,h=>by
  change wv n ⟨#[c]⟩<2^20;rw[(Mj (f c h).1 (f c h).2.1).v];show(f c h).2.2
 |.ng t,h=>Nat.lt_of_le_of_lt (Nat.sub_le _ _) (XR D.lt)
 |.bn g a b,h=>aU (Mn D f h.2.1) (Mn D f h.2.2)
theorem Hj:∀t:LT,t.tr.post.3+1<=2^(t.ht+1)
 |.nm x=>by change 1+1<=2^1;decide
 |.no n=>by change 1+1<=2^1;decide
 |.le n=>by change 1+1<=2^1;decide
 |.ng t=>by
  have:=Hj t;change(t.tr.71++[_]).3+1<=2^(t.ht+1+1)
  grind
 |.bn g a b=>by
  let i:=Hj a;let h:=Hj b;change(a.tr.71++b.tr.71++[_]).3+1<=2^(max a.ht b.ht+1+1);rw[zY,zY,length_singleton];let d:2^(a.ht+1)<=2^(max a.ht b.ht+1):=Nat.pow_le_pow_right qc ();let e:2^(b.ht+1)<=2^(max a.ht b.ht+1):=Nat.pow_le_pow_right qc ()
  lia
theorem Ym(g:Sg):g.s.3=1:=by cases g<;>decide +kernel
theorem Yn(g:Sg):Ba g.s=O:=by cases g<;>decide +kernel
structure PtW(sg:List Nat)(x:Str):Prop where
 l:x.3<=200
 m:Ba x=L->∃c∈sg,x=⟨#[c]⟩
 s:Ba x=L\/∀c∈x.6,Dc c=O
theorem XW(h:c<97):Dc c=O:=by
 unfold Dc
 grind
theorem JL{n:Nv}(D:fZ n.55):∀{t:LT},t.Ok (n.due.5 (·.1)) sg->(∀c∈sg,Dc c=L)->∀x∈t.tr.71,PtW sg x
 |.nm y,h,e,x,d=>by
  obtain rfl:x=y:=zz.mp d;let(p,l,rfl):=zh.mp h;let(w,q,o):=Qj D l;show(by lia,λz=>(_),.inr λc i=>?_);let j:=(D.nm p l).1;unfold Ca at j;simp only[Bool.and_eq_true]at j;have:=all_eq_true.mp j.2 c i;simp[De]at this;show XW ()
 |.no m,h,e,x,d=>by
  obtain rfl:x=HY m:=zz.mp d;let(w,o):=Mi (n:=n) (Nat.lt_trans h qc);have:=w.61;show(by lia,λz=>(_),.inr λc i=>?_);rw[Qk]at i;have:=all_eq_true.mp (Pp m) c i;simp[DE]at this;show XW ()
 |.le c,h,e,x,d=>by
  obtain rfl:x=⟨#[c]⟩:=zz.mp d;show((by change 1<=200;decide),λ_=>(c,h,Y),.inl (e c h))
 |.ng t,h,e,x,d=>by
  let z||z:=mem_append.mp d
  ·show JL D (t:=t) h e x z
  ·obtain rfl:=zz.mp z;show((_),λz=>absurd z (_),.inr (_))
 |.bn g a b,h,e,x,d=>by
  let z||z:=mem_append.mp d
  ·let z||z:=mem_append.mp z
   ·show JL D h.2.1 e x z
   ·show JL D h.2.2 e x z
  ·obtain rfl:=zz.mp z;show(by rw[Ym];decide,λz=>(by rw[Yn]at z;cases z),.inr ?_);cases g<;>decide +kernel
theorem aV(h:Wr lt t r u)(k:∀x∈t.post,PtW sg x)(hc:Dc c=true):c∈u ↔ (⟨#[c]⟩:Str)∈t.post:=by
 let nc:∀d,Dc d=false->c≠d:=λd hd z=>by ext
 let nb:∀bl,Bk bl->c∉ bl:=λbl hb hm=>by
  let rfl||rfl:=hb
  ·cases hm
  ·show nc 32 zd (_)
 induction h with
 |wd x r bl hb h=>
  let hx:=k x (zz.mpr rfl);change c∈bl++x.cps.toList ↔ _∈ [x];rw[mem_append];show(λz=>?_,λz=>.inr (_));let z||z:=z
  ·grind
  ·let hl||hn:=hx.s
   ·let(d,_,e):=hx.m hl
    ext
   ext
 |ng t r u hr h ih=>
  change c∈126::u ↔ _∈t.post++[("~":Str)];rw[mem_cons,mem_append,zz,(show c∈u ↔ (⟨#[c]⟩)∈t.post from ih λx hx=>k x (zL _ hx))];show(λz=>z.elim (λz=>absurd z (nc 126 zd)) .inl,λz=>z.elim .inr λz=>?_);have:=congrArg (λy=>y.cps.toList) z;injection this with this
  show absurd this (nc 126 zd)
 |bn g a b r u v bl hg hr hb ha hv iha ihb=>
  change c∈u++(bl++(g.c::v)) ↔ _∈a.post++b.post++[g.s];let ng:c≠g.c:=nc _ (by cases g<;>rfl)
  let ng2:(⟨#[c]⟩)≠g.s:=λz=>by
   rw[←Mf]at z
   ext
  simp[mem_append,mem_cons,not_mem_nil,iha (λx hx=>k x (zL _ (_))),ihb (λx hx=>k x (zL _ (_)))];show(λz=>?_,λz=>?_)
  ·grind
  grind
 |br t r u bl hb h ih=>
  rw[←(show c∈u ↔ (⟨#[c]⟩)∈t.post from ih k)];simp;show(λz=>?_,λz=>.inr (.inr (.inl z)));let z||z||z||z:=z
  ·grind
  ·show absurd z (nc 40 zd)
  ·show z
  ·show absurd z (nc 41 zd)
theorem VB{l:Aa}{p}(r:(l.5 (·.1)).29)(h:l[j]?=U p):p.1∉ (l.20 j).5 (·.1):=λt=>by
 let(q,o,e):=zh.mp t;let(i,d):=getElem?_of_mem o;rw[List.getElem?_take]at d;split at d
 ·rename_i a;let(y,u):=z8.mp d;let(x,v):=z8.mp h;apply (List.pairwise_iff_getElem.mp r) i j (_) (_) a
  ext
 trivial
theorem Yo(h:∀x∈T,PtW sg x)(a:T.3<64):Uz T:=(by lia,Nat.lt_of_le_of_lt (_) a,λx d=>(h x d).l)
noncomputable def jo:List Pos:=[(585,26,585,80),(587,32,587,87),(588,36,588,93),(589,36,589,74),(590,36,590,74),(594,26,594,88),(597,26,597,83),(600,26,600,64),(605,26,605,64),(608,30,608,64),(610,26,610,60)]
noncomputable abbrev q2:Str:="_law_step.<locals>." ++ lP
inductive Dq(f:FG)(H:Hp)(a b:V):Prop
 |mk (d) (g:Bf f H d a) (h:Bf f H d b) (i:SeqAt.shaped d=L) (j:PyData.eqv d d=L)
structure TdB(P:Program)(w:World)(K:FG)(mg:SV)(base:Heap)(ec:Nat->l7)(cM:l7):Prop where
 fn:∃f fd,eP K lS lS A9 f fd/\mg lS=U (.ref f)/\Binds K fd [mq] []
 M:Sb mg ec
 EX:Uj K mg ec cM
 GW:FnS P w K mg base nv 1 [mv] (Ef K ec)
theorem Sh(d)(a:X.K=d):eW X (.type mm) (λf H Q=>∃p b,f=[.ref p]/\((dY d H p b/\∀l,H l=J->Q (.ref l) (upd H l (.tup b)))\/(eO d H p b/\Q (.ref p) H))):=a ▸ Fq
theorem TdB.at(B:TdB P w i b base o m)(a:W.CodeHd base c j)(e:base.48 b j)(h:(ls.all λl=>ls.all λq=>decide (q=l) || !(q.68==l.68&&q.col==l.col))=L)(d:(B9 eK P w i b base N q sc f (.ref c) A outer s H E).jv.42 ++ lP=qq:=by rfl)(g:Gl (B9 eK P w i b base N q sc f (.ref c) A outer s H E).jv lS:=by rfl):Yk (B9 eK P w i b base N q sc f (.ref c) A outer s H E).jv i qq o m c j ls:=(B.fn,B.M,B.EX,B.GW,(rfl,a,e),h,g,rfl,d)
theorem Ps(h:H b=U (.tup [.str x,.str y])):Bf d H (.tuple [.str x,.str y]) (.ref b):=by
 show(b,7,eO.of h,?_);show(_,7,by rw[Bf],(_,7,by rw[Bf],?_));rw[Bm]
theorem Dq.eJ:Dq b H .eJ .eJ:=(.none,by rw[Bf],by rw[Bf],by rfl,HW)
theorem Qu(x y):PyData.eqv (.tuple [.str x,.str y]) (.tuple [.str x,.str y])=L:=Ed λd a=>by
 simp at a;let rfl||rfl:=a<;>show By _
theorem Dq.two(e:H a=U (.tup [.str lR,.str x]))(d:H b=U (.tup [.str lR,.str x]))(f:SeqAt.shaped (.tuple [.str lR,.str x])=L):Dq g H (.ref a) (.ref b):=(_,Ps e,Ps d,f,Qu _ _)
theorem Mo(d)(a):iS ((d++[a]).5 V.ref) (-1)=U (V.ref a):=by
 unfold iS i5;rw[AO,zY,zg qc,zf (by simp;lia)];change((d++[a]).5 V.ref)[((-1:Int)+((d.3+1:Nat))).32]?=_;rw[show((-1:Int)+((d.3+1:Nat))).32=d.3 by lia];simp
def Kt(H d:Hp):Prop:=∀b o,H b=U o->(∀f,o≠ .hZ f)->d b=U o
theorem Kt.kp(s:Kt H d):Kp y H d:=λb o e _ _ _ _ n _=>s b o e n
theorem jz.kp(s:jz y.z H f):Kp y H f:=λb o e _ a d _ _ _=>s b o e a d
theorem Ws.td(W:Ws m C j T y due r g D F H)(N:Nd j y)(a:(f,q,(l))∈T)(un:∀p∈T,p.1=f->p=(f,q,(l)))(s:LA f H i)(t:eV i f q l):Kt H i/\Ws m C j T y due r g D F i:=by
 let(h,d,_):=W.tabs _ a;show(λb o e n=>s b o (λz=>by grind) e,W.tab N un a s t)
theorem Ws.dn(W:Ws b C f T y due r g D F H)(N:Nd f y)(q:∀a,Kp y H a->Ws b C f T y due r i h F a->Q .eJ a):OI b C y.z due r i h H Q:=λa d B=>q a d.kp (W.deed N d B)
theorem Ws.uq(W:Ws f C b T y due r g D F H)(N:Nd b y)(EP:Fz m l i d j)(q:∀p a,Nx H a->Ws f C b T y due r g D F a->a p=U (.tup [.str lR,.str (wd j)])->Q (.ref p) a):Uq H (F2 m l i Q) d:=aT EP λp a nx h=>q p a nx (W.nx N nx) h
theorem KN{b f}{G}{a:List b}{bs:List f}(h:Paired G a bs):a.3=bs.3:=by
 induction h with
 |nil=>rfl
 |cons _ _ d=>ext
theorem Ws.ze(W:Ws b C d T y due r g D F H)(h:H p=J):p≠y.z.e:=λz=>by
 let(_,a,_):=W.B.en
 ext
theorem OP:∀{b d:List l7},b.5 V.ref=d.5 V.ref->b=d
 | [],[],_=>rfl
 |x::b,y::d,h=>by
  simp at h;rw[h.1,OP h.2]
 | [],_::_,h=>by cases h
 |_::_,[],h=>by cases h
theorem Ws.at(W:Ws m C s T y due r g D (F++[f]) H)(h:H y.t=U (.lst ((d++[a]).5 V.ref))):Paired (gH H) d F/\gH H a f/\a≠y.z.e/\∀b∈d,b≠y.z.e:=by
 let(l,i,j,p):=W.tb;rw[h]at i;cases OP (HO.lst.inj (Option.some.inj i));let(bs,b,e,q,o):=CN j
 ext
theorem Ws.gv(W:Ws v C s T y due r g D F H)(N:Nd s y)(a:dH H f)(j:H p=J)(ht:gH f p w)(u:F.length<200):∃m,f y.t=U (.lst m)/\m.3<sizeLine/\(∀b o,H b=U o->b≠y.t->(upd f y.t (.lst (m++[.ref p]))) b=U o)/\Ws v C s T y due r g D (F++[w]) (upd f y.t (.lst (m++[.ref p]))):=by
 let h:=W.same N a;let(t,i,d,l):=h.tb;show(_,i,by rw[AO,KN d];show zX u qc,λb o e q=>by rw[AE q];show a _ _ e,h.74 N i d l ht (W.ze j))
theorem Ws.own{due}{r}(W:Ws m C A T y due r g D F H)(ha:H a=gl (.lst f))(w:a≠y.d)(P:a≠y.z.l)(X:a≠y.t)(R:a≠y.u):Ws m C A T y due r g D F (upd H a o):=by
 let s:∀b l,H b=gl l->b≠a->(upd H a o) b=gl l:=λb l e h=>by rwa[AE h]
 let d:∀{b:l7}{u:HO},H b=gl u->(∀f,u≠ .lst f)->(upd H a o) b=gl u:=λ{b u}e n=>s b u e λz=>by grind
 generalize upd H a o=H' at s d;let i:∀b f,H b=gl (.tup f)->H' b=gl (.tup f):=λb f e=>d e λ_ z=>nomatch z;let((dx,O),I,(Q,U,Y),(as,E,h6,S),h8):=W.B;let(v,J,Z,d2,M,a',N,c'):=I.ex;let(x1,x2,hd):=W.di;let(t,ht,j,hn):=W.tb;let(bs,G,x):=W.du;show((x1,x2,s _ _ hd (Ne.symm w)),((dx,d O (λ_ z=>nomatch z)),⟨(v,J,Z,d2,M,d a' (λ_ z=>nomatch z),d N (λ_ z=>nomatch z),d c' (λ_ z=>nomatch z))⟩,(Q,d U (λ_ z=>nomatch z),Y.34 i),(as,s _ _ E (Ne.symm P),Paired.imp' (λ_ _ q=>q.34 i) h6,S),h8),(t,s _ _ ht (Ne.symm X),Paired.imp' (λ_ _ q=>q.34 i λ_ e=>d e (λ_ z=>nomatch z)) j,hn),(bs,s _ _ G (Ne.symm R),dJ.eX i x),?_,λp j=>eV.but (W.tabs p j) (λps e=>d e λ_ z=>nomatch z) λb ab e=>d e λ_ z=>nomatch z);let h||(o,h):=W.hb
 ·show .inl (d h (λ_ z=>nomatch z))
 ·show .inr (o,d h (λ_ z=>nomatch z))
noncomputable abbrev iz(x:Str):HO:=.tup [.str lR,.str x]
structure Rf(BC C bd:l7)(T:List (l7×Str×List Pos))(y:Zw)(due:Aa)(r:Str)(g:En)(D:jj)(F:List En)(H0:Hp)(l:l7)(as:List l7)(H:Hp):Prop where
 W:Ws BC C bd T y due r g D F H
 n1:l≠y.d
 n2:l≠y.z.l
 n3:l≠y.t
 n4:l≠y.u
 nw:∀o,H0 l=U o->(∀ps,o≠ .hZ ps)->(∀φ,o≠ .ext φ)->l=y.z.e
 kp:Kp y H0 H
 h:H l=U (.lst (as.5 V.ref))
 ts:∀b∈as,H b=U (iz mG)
theorem Rf.newL(W:Ws m C f T y due r g D F H)(N:Nd f y)(kp:Kp y w H)(h:H l=J)(p:∀b∈d,H b=U (iz mG)):Rf m C f T y due r g D F w l d (upd H l (.lst (d.5 V.ref))):=by
 let a:∀{b:l7}{o:HO},H b=U o->l≠b:=λ{b o}e z=>by ext
 let s:=AD (dH.refl H) h (o:=HO.lst (d.5 V.ref));let(G,E,i):=W.di;let(v,ht,_):=W.tb;let(bs,q,_):=W.du;let(_,j,_):=W.B.de;show(W.same N s,a i,a j,a ht,a q,λo e x t=>Classical.byContradiction λz=>?_,kp.7 (.nx (.same s)),dG,λb u=>s _ _ (p b u));have:=kp l o e (a i) z (a j) (a ht) x t;rw[h]at this;cases this
theorem Rf.new(W:Ws i C f T y due r g D F H)(N:Nd f y)(kp:Kp y j H)(d:H l=J)(e:H p=U (iz mG)):Rf i C f T y due r g D F j l [p] (upd H l (.lst [.ref p])):=.newL W N kp d λb a=>by cases zz.mp a;show e
theorem Rf.more(R:Rf m C s T y due r g D F w l f H)(k:Kt H A)(n:Nx A a)(t:Ws m C s T y due r g D F a)(E:a p=U (iz mG)):a l=U (.lst (f.5 V.ref))/\Rf m C s T y due r g D F w l (f++[p]) (upd a l (.lst (f.5 V.ref++[.ref p]))):=by
 let i:=n _ _ (k _ _ R.h λ_ z=>nomatch z) λ_ _ z=>nomatch z;show(i,t.own i R.n1 R.n2 R.n3 R.n4,R.n1,R.n2,R.n3,R.n4,R.nw,λb o e x h v q j d=>?_,by rw[dG,zl];rfl,λb u=>?_)
 ·by_cases z:b=l
  ·subst z;show absurd (R.nw o e j d) h
  ·rw[AE z];show((R.kp.7 k.kp).7 (.nx n)) b o e x h v q j d
 ·have e:a b=U (iz mG):=by
   let z||z:=mem_append.mp u
   ·show n _ _ (k _ _ (R.ts b z) λ_ z=>nomatch z) λ_ _ z=>nomatch z
   ·ext
  rwa[AE (λz=>by ext)]
theorem KP:∀{d:List l7},(∀b∈d,H b=U (iz mG))->Bm f H (List.replicate d.3 (.tuple [.str lR,.str mG])) (d.5 V.ref)
 | [],_=>by
  change Bm f H [] [];rw[Bm]
 |a::d,h=>by
  show(_,7,Ps (h a (zE ..)),KP λb e=>h b (zN _ e))
theorem Dq.rep{H:L2.Hp}{a as':List l7}(o:H l=U (.lst (a.5 V.ref)))(j:H i=U (.lst (as'.5 V.ref)))(e:a.3=as'.3)(t1:∀b∈a,H b=U (iz mG))(t2:∀b∈as',H b=U (iz mG)):Dq f H (.ref l) (.ref i):=by
 show(.list (List.replicate a.3 (.tuple [.str lR,.str mG])),?_,?_,FR λd h=>?_,Fy λd h=>?_)
 ·show(l,7,dY.of o,KP t1)
 ·rw[e];show(i,7,dY.of j,KP t2)
 ·rw[(List.mem_replicate.mp h).2];show(qd,qc)
 ·rw[(List.mem_replicate.mp h).2];show Qu _ _
theorem Rf.app(R:Rf B C m T y due r g D F P l Q H)(N:Nd m y)(j:(f,q,(S))∈T)(un:∀p∈T,p.1=f->p=(f,q,(S)))(d:Fz b w s X 5)(h:A[i]?=U (U (.ref l)))(ab:Q.3<=1000)(G:∀a e,Ws B C m T y due r g D F a->Kp y P a->Uq a (F2 b w s e) X->I (F2 b w s e) (Um ix A) a e)(k:∀q o,Rf B C m T y due r g D F P l (Q++[q]) o->E.nx A o):XC (tBM b md Lq (Ld i) (An (Uo b w s f q S ix I) Ce)) E A H:=by
 show(_,h,.inl (Y,_,dY.of R.h),R.W.tabs _ j,λa al z=>?_);let(t,u):=R.W.td N j un al z;show G a _ u (R.kp.7 t.kp) (u.uq N d λq M nb x ag=>?_);let(v,R2):=R.more t nb x ag;show(l,_,7,Y,v,AR (by rwa[AO]),k q _ R2)
theorem Mp(a b:Nat):(a)-Builtin.bitAnd (a) (b)=((a-(a&&&b):Nat):Int):=by
 rw[DD,Int.ofNat_sub Nat.and_le_left]
theorem Ch.gv(h:Ch due r F D g)(a:x∈jY)(ok:jy due r g):Ch due r (F++[ir g x n]) (D++[(x,(g x))]) (ir g x n):=.snoc F D g _ x h a (λy d=>by unfold ir Dw;ext) (λ_=>by unfold ir Dw;ext) ok λm c=>by unfold ir Dw;rw[zf rfl];cases g x<;>grind
theorem Ch.take{due}{r}(h:Ch due r (F++[b]) D g):(D=[]/\F=[])\/∃d a x,D=d++[(x,(a x))]/\Ch due r F d a/\x∈jY/\Dw g x (a x)=a/\(a x=J->g x≠J)/\jy due r a:=by
 generalize e:F++[b]=f at h;cases h with
 |nil=>show .inl (rfl,(append_inj' (e.7 (nil_append _).35) rfl).1)
 |snoc o i g2 _ x h j l n ok _=>
  let(rfl,_):=append_inj' e rfl;show .inr (i,g2,x,Y,h,j,?_,n,ok);funext y;unfold Dw
  ext
theorem Ch.drop(h:Ch due r F D g)(d:x∈jY)(ok:jy due r g)(a:g x≠J):Ch due r (F++[Dw g x J]) (D++[(x,(g x))]) (Dw g x J):=.snoc F D g _ x h d (λy e=>by unfold Dw;ext) (λz=>absurd z a) ok λm c=>by unfold Dw;simp
inductive spLr(h:FG)(f C d:l7)(T:List (l7×Str×List Pos))(vs:ly)(H:Hp)(Q:VK)(i:XK):Prop
 |mk (y) (due) (r) (g) (D) (F) (x) (p:vs=[.ref y.d,.ref y.z.b,.ref y.t,.ref y.u,.str r,.str x]) (s:Ws f C d T y due r g D F H) (v:Nd d y) (u:Ch due r F D g) (z:D.3<99) (w:fZ due) (A:0<due.3) (B:r∈eU) (G:x∈jY)
  (E:∀q a b o l m j,j q=U (.tup [a,b])->Dq h j a b->Ws f C d T y due r o l m j->Ch due r m l o->Kp y H j->l.3<=D.3+1->Q (.ref q) j)
inductive spLs(h:FG)(f C d:l7)(T:List (l7×Str×List Pos))(vs:ly)(H:Hp)(Q:VK)(i:XK):Prop
 |mk (y) (due) (r) (g) (D) (F) (p:vs=[.ref y.d,.ref y.z.b,.ref y.t,.ref y.u,.str r]) (s:Ws f C d T y due r g D F H) (v:Nd d y) (u:Ch due r F D g) (z:D.3<99) (w:fZ due) (A:0<due.3) (B:r∈eU)
  (E:∀q a b o l m j,j q=U (.tup [a,b])->Dq h j a b->Ws f C d T y due r o l m j->Ch due r m l o->Kp y H j->l.3<=D.3+1->Q (.ref q) j)
noncomputable abbrev NLs:lr:=[lI,lJ,nV,mj,m9,mf,"_law_own",lX,"_law_kind",nj,lV,"_law_is_there","_law_deeds","_law_fewer"]
noncomputable abbrev pLs:lr:=[lI,lJ,nV,mj,m9]
theorem scLs:AH NLs pLs (defScope DX):=fG
noncomputable def sLs(y:Zw)(r x:Str)(a o:l7)(i:Int)(l:l7)(n:Nat)(b:Bool):St:=[U (.ref y.d),U (.ref y.z.b),U (.ref y.t),U (.ref y.u),U (.str r),U (.ref a),U (.ref o),U (.str x),U (.int i),U (.ref l),U (.int (n:Int)),U (.bl b),J,J]
theorem aW(F:iX d m7 m7 DX a9 fd c)(hC:W.CodeHd base c P0)(b7:base.48 i P0)(TB:TdB P w d i base ec cM)(f:(P0,q2,(jo))∈a6)(un:∀az∈a6,az.1=P0->az=(P0,q2,(jo)))(bl:Bl i)(mD:i mH=gt)(BT:C5 d l)(a4:Fz d ec cM cB 5)(bO:Fz d ec cM cN 10)
  (GT:Fn P w d i base oB 2 [mj] spTable) (b3:Fn P w d i base pC 3 [lI] spLwo) (bX:Fn P w d i base mx 2 [lI,mw] spRollB) (bR:Fn P w d i base qg 3 [lI,mj,mi] spLn') (a5:Fn P w d i base pH 1 [mf,lX,lV] spLgv)
  (bS:CJ P w d i base l "put" 7 [lH,lK,mQ] (spPu l an)) (bn:CJ P w d i base l "mark" 7 [lH,lK,"more"] (spMr kX l an cB)) (bB:CJ P w d i base l "unmark" 7 [lH,lK,"less"] (spMr KS l an cB)) (bu:CJ P w d i base l "turn" 7 [lH,lK] (spTn l an cB)) (bm:CJ P w d i base l qo 4 [lH,lK] (spDr l an cB)) (br:CJ P w d i base l pG 3 [lH] (spTk l an cN))
  (bW:Fn P w d i base mh 11 [lI,lJ,nV,mj,m9,lX] (spLr d l an bd a6)):AT P w d i base eK 12 a9 fd pLs (spLs d l an bd a6):=by
 show F.ok scLs (λvs aM bC E h=>?_) (λbk bL bM aM vs bC E v h=>?_)
 ·let(_,_,_,_,_,_,rfl):=h;rfl
 ·have nd:=scLs.nd;let hu:=CK v;let T:=TB.at (N:=NLs) (qq:=q2) (q:=m7) (sc:=defScope DX) (f:=a9) (A:=bk) (outer:=bL) (s:=bM) (H:=aM) (E:=E) hC b7 (ls:=jo) (by rfl);let R:eB (8+2) _:=v.51 qc
  show(_,AC (Bo (hs:=by rfl) (hw:=by rfl) (AZ (AA (Am (Ak d Y) (Z 2) (DB C7 AF) (λ_ _=>rfl)) (fJ (fP GT v (fy (Z 3))) (fP b3 v (fy (Z 0)))))) (BR Y (AQ (BM 5 nd) (AQ (BM 6 nd) (AQ (BM 7 nd) Az)))))
   (AC (A6 8 nd (fP bX v (fJ (Z 0) AF)))
   (AC (Bo (fP bR v (AA (Z 0) (fJ (Z 3) AF))) (BR rfl (AQ (BM 9 nd) (AQ (BM 10 nd) Az))))
   (At (A6 11 nd (OW (Hx hu (Z 7) (Z 5))))
   (AC (AV (AJ Fp (Z 8) AF (AN _)) (AC (Ae (Bg (Z 2) (fy (fP a5 v (AA (Z 5) (fJ (Z 7) (Z 10)))))))
     (AB (AI (AZ (fJ (Gq T R 0 [lJ,lX,nj] [1,7,9] (λlf c' A' ag s' q E v=>Dv (Z 0) BT.cl bS v DS (fJ (Z 1) (Z 2)))) C6))))) AM)
    (AC (AV (PW.pt (Ci (AJ Fp (Z 8) AF (AN _)) (Bv (Ao (Ai (Z 11))))))
     (AC (A6 12 nd (A4 (fy (Gq T R 1 [lJ,lX,nj] [1,7,9] (λlf c' A' ag s' q E v=>Dv (Z 0) BT.cl bn v DS (fJ (Z 1) (Z 2)))))))
     (AC (Ae (Bg (Z 12) (fy (Gq T R 2 [lJ,lX,nj] [1,7,9] (λlf c' A' ag s' q E v=>Dv (Z 0) BT.cl bB v DS (fJ (Z 1) (Z 2)))))))
     (AC (Ae (Bg (Z 12) (fy (Gq T R 3 [lJ,lX] [1,7] (λlf c' A' ag s' q E v=>Dv (Z 0) BT.cl bu v DS (fy (Z 1)))))))
     (AC (Ae (Bg (Z 12) (fy (Gq T R 4 [lJ,lX] [1,7] (λlf c' A' ag s' q E v=>Dv (Z 0) BT.cl bm v DS (fy (Z 1)))))))
     (AB (AI (AZ (fJ (Z 12) (AX (V9 d rfl) (A4 (fy (AZ (fJ AL AL)))) AF))))))))) AM)
    (AC (AV (AJ Aq (Z 8) AF (AN _)) (AC (Ae (Bg (Z 2) (fy (fP a5 v (AA (Z 5) (fJ (Z 7) (AX JO (Am (Ac d rfl) (Au hu (Z 5) (Z 7) (λ_ _=>rfl)) AF (λ_ _=>rfl)) (Z 10)))))))) (AB (AI (AZ (fJ (Gq T R 5 [lJ,lX,nj] [1,7,9] (λlf c' A' ag s' q E v=>Dv (Z 0) BT.cl bn v DS (fJ (Z 1) (Ay (Sh d rfl) rfl bl.tuple DY (fy (Z 2)))))) C6))))) AM)
    (AC (AV (AJ Aq (Z 8) AF (AN _)) (AC (Ae (Bg (Z 2) (fy (fP a5 v (AA (Z 5) (fJ (Z 7) (AX Cm (Am (Ac d rfl) (Au hu (Z 5) (Z 7) (λ_ _=>rfl)) AF (λ_ _=>rfl)) (AX Cn (Am (Ac d rfl) (Au hu (Z 5) (Z 7) (λ_ _=>rfl)) AF (λ_ _=>rfl)) (Z 10))))))))) (AB (AI (AZ (fJ (Gq T R 6 [lJ,lX,nj] [1,7,9] (λlf c' A' ag s' q E v=>Dv (Z 0) BT.cl bB v DS (fJ (Z 1) (Z 2)))) C6))))) AM)
    (AC (AV (AJ Aq (Z 8) AF (AN _)) (AC (Ae (Bg (Z 2) (fy (fP a5 v (AA (Z 5) (fJ (Z 7) (AX Cm (Au hu (Z 6) AL (λ_ _=>rfl)) (AX Cn (Au hu (Z 6) AL (λ_ _=>rfl)) (Am (Ac d rfl) (Au hu (Z 5) (Z 7) (λ_ _=>rfl)) AF (λ_ _=>rfl)))))))))) (AB (AI (AZ (fJ (Gq T R 7 [lJ,lX] [1,7] (λlf c' A' ag s' q E v=>Dv (Z 0) BT.cl bu v DS (fy (Z 1)))) C6))))) AM)
    (AC (AV (AJ Aq (Z 8) AF (AN _)) (AC (A6 13 nd (Ay GQ rfl mD JK (fy (Z 5)))) (AC (Ae (JT (Z 13) (Z 7) (rfl,rfl,rfl,rfl))) (AC (Ae (Bg (Z 2) (fy (Z 13)))) (AB (AI (AZ (fJ (Gq T R 8 [lJ,lX] [1,7] (λlf c' A' ag s' q E v=>Dv (Z 0) BT.cl bm v DS (fy (Z 1)))) C6))))))) AM)
    (AC (AV (AJ Aq (Z 8) AF (AN _)) (AC (AV (AJ Aq (AS (BB d rfl) rfl bl.61 PySem.boot_len (fy (Z 2))) AF (AN _)) (AB (AI (AZ (fJ (Gq T R 9 [lJ] [1] (λlf c' A' ag s' q E v=>U7 (Z 0) BT.cl br v DS)) (AZ (fJ AL AL)))))) AM) (AC (Ae (F6 plainAttrs_list slot_list_pop type_list_pop Ht (Z 2))) (AB (AI (AZ (fJ (Gq T R 10 [lJ] [1] (λlf c' A' ag s' q E v=>U7 (Z 0) BT.cl br v DS)) C6)))))) AM)
    (AB (AI (fP bW v (AA (Z 0) (AA (Z 1) (AA (Z 2) (AA (Z 3) (fJ (Z 4) (Z 7))))))))))))))))))),?_)
  show gL λN S=>?_;let(y,j,r,g,D,Fs,rfl,W,t,ch,hD,dk,jF,hrn,az):=h;let(ji,ht,X,hn):=W.tb;let((F0,eF),lF):=ch.last;let(bs,j6,hu2):=W.du;subst eF;let(ts,a,rfl,dr,ha):=CN X;show(7,7,(y.t,_,-1,.ref a,Y,Y,dY.of ht,Mo _ _,7,(y.u,bs,j,Y,j6,hu2,dk.61,dk.lt,λo e cn ms H1 s1 h1 h2 h3 h4=>?_)));let W1:=W.same t s1;let(a0,b0,jV):=W1.di;show(7,(y.d,a0,b0,Y,jV,λx H2 s2 hv=>(by change 3<=sizeLine;decide,λp dv=>?_)));let hx:=U9 hv;let W2:=W1.fV t s2;let s3:=AD (dH.refl H2) dv (o:=HO.tup [.ref a,.ref o,.str x]);show(p,7,eO.of dG,Y,_,7,_,7,_,7,Y,?_);show(gy S (gL λN S=>?_):N _ _);generalize upd H2 p (HO.tup [.ref a,.ref o,.str x])=H3 at s3;let W3:=W2.25 t s3;let(a1,b1,kK):=W3.di;show(7,(y.d,a1,b1,8,Y,kK,qc,by trivial,λar a' b' i0 i8=>?_));show(gy S (gL λN S=>?_):N _ _);let s4:eE y.d H3 (upd H3 y.d (.lst [.int a',.int b'])):=(λb o e h=>by rw[AE h];show e,(a',b',dG));generalize upd H3 y.d (.lst [.int a',.int b'])=H4 at s4;let W4:=W3.fV t s4;let(a2,b2,hd4):=W4.di;let(bs4,hu4,ht4):=W4.du;show(7,7,(y.d,y.u,4,a2,b2,bs4,j,Y,hd4,hu4,ht4,jF,dk,qc,t.ud,λQ as ns H5 s5 cs hq hl Nm=>?_));show(Q,7,eO.of hq,Y,_,7,_,7,Y,?_);let B:=W4.fV t s5;let al:Kp y aM H5:=((((Kp.nx (.same s1)).7 (.one s2.old (.inl rfl))).7 (.nx (.same s3))).7 (.one s4.old (.inl rfl))).7 (.one s5.old (.inl rfl));let ol:∀b u,aM b=U u->b≠y.d->H5 b=U u:=λb u e hb=>s5.old _ _ (s4.old _ _ (s3 _ _ (s2.old _ _ (s1 _ _ e) hb)) hb) hb;let ab:=ol _ _ ht (Ne.symm t.dt)
  let bF:H5 o=U (.dK (Ue j e cn)):=by
   let bb:o≠y.d:=λz=>by ext
   show s5.old _ _ (s4.old _ _ (s3 _ _ (s2.old _ _ h1 bb)) bb) bb
  let cg:∀b u,H4 b=U u->as≠b:=λb u e z=>by ext
  let(_,(I,hk,EK),hae,_):=B.at ab
  let b6:(Aj I (Sum.inr x)).26=(g x).26:=by
   cases e:g x with
   |none=>rw[EK.no e];rfl
   |some z=>
    let(t',h1,_):=EK.vl x z.1 z.2 e
    ext
  show(gy S ?_:N _ _);show(λbN q=>q=H5/\bN=sLs y r x a o ar as (Ah (ns.5 (look j))) (g x).26,λco hR=>(7,7,a,7,.inl (_,Sum.inr x,.inl hk,Y,Y),by rw[b6];show hR _ _ (Y,Y)),?_);intro bN q h;show gL λN S=>?_;let(rfl,rfl):=h
  let lt:as≠y.t:=by
   let(_,h,_):=W4.tb;show cg _ _ h
  let kl:kn j<2^20:=FA λn hn=>by
   let(p,X,rfl):=zh.mp hn;show dk.lt p X
  let asc:ko j:=λp X=>(dk.nm p X).2.1;let hF:(F0++[g]).3<200:=by rw[lF];lia
  let a7:gH q a g:=(I,hk,EK)
  let aR:∀{g' D' F' A},Kp y aM A->Ws l an bd a6 y j r g' D' F' A->Ch j r F' D' g'->D'.3<=D.3+1->∀p,A p=gt->bC (.ref p) (upd A p (.tup [.eJ,.eJ])):=λ{g' D' F' A}k6 G c6 l6 p X=>by
   let sp:=AD (dH.refl A) X (o:=HO.tup [V.eJ,V.eJ]);show az p .eJ .eJ g' D' F' _ dG .eJ (G.25 t sp) c6 (k6.7 (.nx (.same sp))) l6
  let a3:∀b,(D++[(x,(b))]).3<=D.3+1:=λb=>by simp
  show(7,_,7,Y,7,BN (λh=>?_) (λh=>?_))
  ·show(_,rfl,.inl (rfl,_,dY.of ab),_,rfl,_,rfl,_,rfl,(a,g,x,_,rfl,a7,hx,λp H1 s1 X ht=>?_));let(xs,s,ln,C,G):=B.gv t s1 X ht hF;show(y.t,_,_,rfl,rfl,s,ln,G.tabs _ f,λM H t7=>?_);let(k7,m):=G.td t f un H t7;show(_,rfl,m.B.no (_,rfl,_,rfl,.mk y.z j r g D x as ns rfl m.B hx () (k7 _ _ (C _ _ hl lt) (λ_ z=>nomatch z)) Nm (m.dn t λH8 k8 W8=>(by trivial,aR (((al.7 (.one C (.inr rfl))).7 k7.kp).7 k8) W8 (ch.gv hv W.B.ok) (a3 _)))))
  show(gy S (gL λN S=>?_):N _ _);let jU:¬ ar<2:=λz=>h (zH z);show(7,_,7,Y,7,?_);by_cases h6:ar<6
  ·rw[zH h6];show Ag (_,rfl,_,rfl,?_);cases hg:g x with
   |none=>
    show Ag ?_;show gL λaC eM=>?_;show(B.tabs _ f,λA s6 t6=>?_);let(k6,G):=B.td t f un s6 t6;show(7,G.B.no (7,7,.no y.z j r g D x _ Y G.B hg (G.uq t a4 λp1 M n7 m e7=>(by change 1<=sizeLine;decide,λl1 ca=>?_))));show(gy eM (gL λaC eM=>?_):aC _ _);let R1:=Rf.new m t ((al.7 k6.kp).7 (.nx n7)) ca e7;generalize upd M l1 (.lst [.ref p1])=H8 at R1;show R1.app t f un a4 Y (_) (λHa Q' Wa k u=>(7,Wa.B.no (7,7,.no y.z j r g D x _ Y Wa.B hg u))) λp2 H9 R2=>?_;show(gy eM (gL λaC eM=>?_):aC _ _);show R2.app t f un a4 Y (_) (λHa Q' Wa k u=>(7,Wa.B.no (7,.no y.z j r g D x Y Wa.B hg u))) λp3 b4 R3=>?_;show(gy eM (gL λaC eM=>?_):aC _ _);show R3.app t f un a4 Y (_) (λHa Q' Wa k u=>(7,Wa.B.no (7,.no y.z j r g D x Y Wa.B hg u))) λp4 a8 R4=>?_;show(gy eM ?_:aC _ _);show(7,by trivial,λQ jE=>(by change 1<=sizeLine;decide,λl5 bE=>(l5,_,4,Y,Y,dY.of dG,qc,qc,λl6 kH=>(by change 2<=sizeLine;decide,λp6 jd=>?_))));let sa:=AD (dH.refl _) jE (o:=iz mG);let ha:(upd a8 Q (iz mG)) Q=U (iz mG):=dG;generalize upd a8 Q (iz mG)=Ha at sa ha bE kH jd;let sb:=AD (dH.refl _) bE (o:=HO.lst [.ref Q]);generalize upd Ha l5 (HO.lst [.ref Q])=Hb at sb kH jd;let sc:=AD (dH.refl _) kH (o:=HO.lst (List.replicate (4:Int).32 (.ref Q)));let hc:(upd Hb l6 (HO.lst (List.replicate (4:Int).32 (.ref Q)))) l6=U (.lst (List.replicate (4:Int).32 (.ref Q))):=dG;generalize upd Hb l6 (HO.lst (List.replicate (4:Int).32 (.ref Q)))=Hc at sc hc jd;let sd:=AD (dH.refl _) jd (o:=HO.tup [.ref l1,.ref l6]);let bK:(upd Hc p6 (HO.tup [.ref l1,.ref l6])) p6=U (.tup [.ref l1,.ref l6]):=dG;generalize upd Hc p6 (HO.tup [.ref l1,.ref l6])=Hd at sd bK;let s4:dH a8 Hd:=λb o e=>sd _ _ (sc _ _ (sb _ _ (sa _ _ e)));let h5:=sd _ _ (sc _ _ (sb _ _ ha));show az p6 _ _ g D _ Hd bK (.rep (as':=List.replicate 4 Q) (s4 _ _ R4.h) (sd _ _ hc) Y (λb hb=>s4 _ _ (R4.ts b hb)) λb hb=>(List.mem_replicate.mp hb).2 ▸ h5) (R4.W.25 t s4) ch (R4.kp.7 (.nx (.same s4))) (Nat.le_succ _)
   |some z=>
    let(n0,c0):=z;let(t',v1,v2):=EK.vl x n0 c0 hg;show AU ?_;show(gy S (gL λN S=>?_):N _ _);show(7,Y,7,BN (λe2=>?_) (λe2=>?_))
    ·show(_,rfl,.inl (rfl,_,dY.of ab),_,rfl,_,rfl,_,rfl,_,rfl,a,_,rfl,.inl (_,Sum.inr x,.inl hk,rfl,v1.35),t',_,0,_,rfl,rfl,eO.of v2,rfl,_,rfl,_,_,rfl,rfl,(a,g,x,kX n0 (Ah (ns.5 (look j))),congrArg (λz=>[V.ref a,V.str x,V.int z]) (C8 _ _),a7,hx,λp H1 s1 X ht=>?_));let(xs,s,ln,C,G):=B.gv t s1 X ht hF;show(y.t,_,_,rfl,rfl,s,ln,G.tabs _ f,λM H t7=>?_);let(k7,m):=G.td t f un H t7;let cd:=k7 _ _ (C _ _ hl lt) (λ_ z=>nomatch z);let be:=(al.7 (.one C (.inr rfl))).7 k7.kp;show(_,rfl,m.B.no (_,rfl,_,rfl,as,_,rfl,.inl (dY.of cd,λtp ce=>?_)));let sp:=AD (dH.refl M) ce (o:=HO.tup (ns.5 V.str));let W8:=m.25 t sp;show .mk y.z j r g D x tp ns ii n0 c0 rfl W8.B hx () dG Nm asc hg (W8.dn t λH9 k9 W9=>(by trivial,aR ((be.7 (.nx (.same sp))).7 k9) W9 (ch.gv hv W.B.ok) (a3 _)))
    show(gy S (gL λN S=>?_):N _ _);show(7,Y,7,BN (λe3=>?_) (λe3=>?_))
    ·show(_,rfl,.inl (rfl,_,dY.of ab),_,rfl,_,rfl,_,rfl,_,rfl,a,_,rfl,.inl (_,Sum.inr x,.inl hk,rfl,v1.35),t',_,0,_,rfl,rfl,eO.of v2,rfl,_,rfl,_,rfl,a,_,rfl,.inl (_,Sum.inr x,.inl hk,rfl,v1.35),t',_,0,_,rfl,rfl,eO.of v2,rfl,_,rfl,_,_,rfl,rfl,_,_,rfl,rfl,(a,g,x,KS n0 (Ah (ns.5 (look j))),congrArg (λz=>[V.ref a,V.str x,V.int z]) (Mp _ _),a7,hx,λp H1 s1 X ht=>?_));let(xs,s,ln,C,G):=B.gv t s1 X ht hF;show(y.t,_,_,rfl,rfl,s,ln,G.tabs _ f,λM H t7=>?_);let(k7,m):=G.td t f un H t7;let be:=(al.7 (.one C (.inr rfl))).7 k7.kp;show(_,rfl,m.B.no (_,rfl,_,rfl,.mk y.z j r g D x as ns im n0 c0 rfl m.B hx () (k7 _ _ (C _ _ hl lt) (λ_ z=>nomatch z)) Nm asc hg (m.dn t λH9 k9 W9=>(by trivial,aR (be.7 k9) W9 (ch.gv hv W.B.ok) (a3 _)))))
    show(gy S (gL λN S=>?_):N _ _);show(7,Y,7,BN (λe4=>?_) (λe4=>?_))
    ·show(7,.inl (Y,_,dY.of ab),7,7,7,o,7,.inl (_,Sum.inr nG,.inl bF,Y,(Cu _ _ _).35),7,o,7,.inl (_,Sum.inr nG,.inl bF,Y,(Cu _ _ _).35),7,7,a,7,.inl (_,Sum.inr x,.inl hk,Y,v1.35),t',_,0,7,Y,eO.of v2,Y,_,7,Y,_,7,Y,(a,g,x,kn j-(kn j&&&n0),congrArg (λz=>[V.ref a,V.str x,V.int z]) (Mp _ _),a7,hx,λp H1 s1 X ht=>?_));let(xs,s,ln,C,G):=B.gv t s1 X ht hF;show(y.t,_,7,Y,s,ln,G.tabs _ f,λM H t7=>?_);let(k7,m):=G.td t f un H t7;show(7,m.B.no (7,.mk y.z j r g D x n0 c0 Y m.B hx () kl hg (m.dn t λH9 k9 W9=>(by trivial,aR (((al.7 (.one C (.inr Y))).7 k7.kp).7 k9) W9 (ch.gv hv W.B.ok) (a3 _)))))
    show(gy S (gL λN S=>?_):N _ _);show(7,Y,7,BN (λe5=>?_) (λe5=>?_))
    ·show(7,a,I,Y,.inl hk,λp X=>?_);let s6:=AD (dH.refl q) X (o:=HO.dK I);let u6:(upd q p (.dK I)) p=U (.dK I):=dG;generalize upd q p (.dK I)=A at s6 u6;show(7,p,Y,.inl (_,.inl u6),7,I,Sum.inr x,_,u6,Y,v1,?_);let H:dH q (upd A p (.dK (CA I (Sum.inr x)))):=λb o e=>by rw[AE (AK e X)];show s6 _ _ e
     let u7:(upd A p (.dK (CA I (Sum.inr x)))) p=U (.dK (CA I (Sum.inr x))):=dG;generalize upd A p (.dK (CA I (Sum.inr x)))=M at H u7;let(xs,s,ln,o8,W8):=B.gv t H X (_,u7,(EK.34 λb xs e=>H _ _ e).drop) hF;show(7,.inl (Y,_,dY.of s),7,y.t,_,7,Y,s,ln,W8.tabs _ f,λH9 s9 t9=>?_);let(k9,W9):=W8.td t f un s9 t9;show(7,W9.B.no (7,.mk y.z j r g D x n0 c0 Y W9.B () hg (W9.dn t λb4 cf b5=>(by trivial,aR (((al.7 (.one o8 (.inr Y))).7 k9.kp).7 cf) b5 (ch.drop hv W.B.ok (by rw[hg];simp)) (a3 _)))))
    ·have n2:ar≠2:=λz=>e2 (zH (congrArg V.int z));let n3:ar≠3:=λz=>e3 (zH (congrArg V.int z));let n4:ar≠4:=λz=>e4 (zH (congrArg V.int z));let n5:ar≠5:=λz=>e5 (zH (congrArg V.int z))
     lia
  ·rw[zK h6]
   let no:∀k:Int,k<6->decide (V.int ar=V.int k)=ii->False:=λk hk z=>by
    have:=V.int.inj (zR z)
    lia
   show AU (AU ?_)
   iterate 4
    show(gy S (gL λN S=>?_):N _ _);show(7,Y,7,BN (λz=>(no _ qc z).40) λ_=>?_)
   show(gy S (gL λN S=>?_):N _ _);show(7,Y,7,BN (λ_=>?_) (λ_=>?_))
   ·let(hpt,_,_,hnt):=B.at ab;let cl:=KN hpt;show(7,y.t,7,.inl (dY.of ab),Y,7,BN (λs=>?_) (λs=>?_))
    ·have l1:(((ts++[a]).5 V.ref).3:Int)=1:=V.int.inj (zR s);rw[AO,zY]at l1;rw[zY]at lF;let d0:D=[]:=List.eq_nil_of_length_eq_zero (by simp at l1 lF;lia);subst d0;show(B.tabs _ f,λA s6 t6=>?_);let(k6,G):=B.td t f un s6 t6;show(7,G.B.no (.no y.z j r g Y G.B (G.uq t bO λp1 M n7 m e7=>(by trivial,λp2 dv=>(by change 2<=sizeLine;decide,λp3 bI=>?_)))));let sa:=AD (dH.refl _) dv (o:=iz nz);let ha:(upd M p2 (iz nz)) p2=U (iz nz):=dG;generalize upd M p2 (iz nz)=H8 at sa ha bI;let sb:=AD (dH.refl _) bI (o:=HO.tup [.ref p1,.ref p2]);let s2:dH M _:=λb o e=>sb _ _ (sa _ _ e);show az p3 _ _ g [] _ _ dG (.two (s2 _ _ e7) (sb _ _ ha) qd) (m.25 t s2) ch (((al.7 k6.kp).7 (.nx n7)).7 (.nx (.same s2))) (Nat.le_succ _)
    ·show(7,.inl (Y,_,dY.of ab),y.t,_,.ref a,Y,Y,ab,by simp,?_);let el:((ts++[a]).5 V.ref).dropLast=ts.5 V.ref:=by rw[zl];show List.dropLast_concat
     rw[el];let C:∀b o,q b=U o->b≠y.t->(upd q y.t (.lst (ts.5 V.ref))) b=U o:=λb o e hb=>by rw[AE hb];show e
     let G:=B.pop t ab hpt hnt;generalize upd q y.t (.lst (ts.5 V.ref))=A at C G;show(G.tabs _ f,λM H t7=>?_);let(k7,m):=G.td t f un H t7;let(rfl,z)||(D0,g0,x0,rfl,c0,hx0,eg,hn0,ok0):=ch.20
     ·rw[z]at cl;show absurd (zH (_)) s
     ·show(7,m.B.no (.mk y.z j r g D0 x0 (g0 x0) Y m.B (U9 hx0) hn0 (λn c e=>ok0 x0 n c e) (m.dn t λH9 k9 W9=>(by trivial,aR (((al.7 (.one C (.inr Y))).7 k7.kp).7 k9) (eg ▸ W9) c0 (by rw[zY];lia)))))
   ·show(gy S ?_:N _ _);show(7,7,7,7,7,7,.mk y j r g D _ x Y B t ch hD dk jF hrn hv λp a b g' D' F' A s e2 e3 e4 k as=>az p a b g' D' F' A s e2 e3 e4 (al.7 k) as)
noncomputable abbrev gU:List Nat:=[97,98,120]
theorem Qw:("abx":Str).6=gU:=by rfl
theorem Ip:∀c∈gU,Dc c=L:=by decide
theorem Wt{z}{g:TG}{f:TS}{D:KR}{b}(d:Nat->St->Hp->Prop)(r:d 0 b H)
  (s:∀i c b H,z.cps[i]?=U c->d i b H->g (.str ⟨#[c]⟩) b H λa o=>f {D with nx:=d (i+1),ct:=d (i+1),bk:=D.nx} a o) (C:∀b H,d z.77 b H->D.nx b H):
  ∃W:Nat->Nat->St->Hp->Prop,(∃m,W 0 m b H)/\∀i m b H,W i m b H ->
   ((Its z).stop i H/\D.nx b H)\/((Its z).go i H/\∃N,(∀h j,N h j->∃q,q<m/\W (i+1) q h j)/\∀x j,(Its z).jD i H x j->g x b j λa o=>f {D with nx:=N,ct:=N,bk:=D.nx} a o):=by
 show(λi m b H=>C₃ (m=z.77-i) (i<=z.77) (d i b H),(z.77,by simp,Nat.zero_le _,r),?_);rintro i m b H ⟨rfl,E,p⟩;by_cases l:i<z.77
 ·show .inr (l,d (i+1),λh j v=>(z.77-(i+1),by lia,Y,l,v),λx j y=>?_);let(e,c,u,t):=y;subst e;subst t;show s i c b _ u p
 ·have e:i=z.77:=by lia
  subst e;show .inl (zp _,C b H p)
noncomputable abbrev sgn(c:Nat):Str:=⟨#[c]⟩
structure ll(g:En)(cs:List Nat)(lk:LK):Prop where
 v:∀c,Aj lk (Sum.inr (sgn c))=if c∈cs then (g (sgn c)).5 λp=>V.int (p.1:Int)else J
 l:lk.3<=cs.3
theorem VD{a:LK}:(Bp a k v).3<=a.3+1:=by
 unfold Bp
 grind
theorem ll.no{g}{a}{c}(h:ll g a b)(i:c∉ a)(e:g (sgn c)=J):ll g (a++[c]) b:=by
 show(λd=>?_,Nat.le_trans h.l (_));rw[h.v]
 grind
theorem ll.yes(h:ll g b f)(e:g (sgn c)=U (n,(k))):ll g (b++[c]) (Bp f (Sum.inr (sgn c)) (.int (n:Int))):=by
 show(λd=>?_,Nat.le_trans VD (by rw[zY];show Nat.succ_le_succ h.l));rw[JQ,h.v]
 grind
theorem Iq:∀{t:LT},t.Ok ws sg->(∀c∈sg,sgn c∈t.tr.post->c∈e)->t.Ok ws e
 |.nm _,h,_=>h
 |.no _,h,_=>h
 |.le c,h,k=>k c h (zz.mpr rfl)
 |.ng t,h,k=>Iq (t:=t) h λc d i=>k c d (zL _ i)
 |.bn _ a b,h,k=>(h.1,Iq h.2.1 λc d i=>k c d (zL _ (_)),Iq h.2.2 λc d i=>k c d (zL _ (_)))
theorem Hk:∀t:LT,t.tr.gA (due,d,f)=t.tr.gA (due,k2,f)
 |.nm _=>rfl
 |.no _=>rfl
 |.le _=>rfl
 |.ng t=>congrArg (λz=>kn due-(kn due&&&z)) (Hk t)
 |.bn g a b=>by
  change g.f (a.tr.gA _) (b.tr.gA _)=g.f (a.tr.gA _) (b.tr.gA _);rw[Hk a,Hk b]
noncomputable def sgH(g:En):List Nat:=gU.30 λc=>(g (sgn c)).26
theorem Mq(ok:jy due r g)(h:∀c∈gU,Aj kvs (Sum.inr (sgn c))=(g (sgn c)).5 λp=>V.int (p.1:Int)):LtN (due,kvs,js g) (sgH g):=λc i=>by
 let(j,d):=mem_filter.mp i;let((n,k),e):=Option.isSome_iff_exists.mp d;let a:js g (sgn c)=n:=by unfold js;rw[e];rfl
 show(Ip c j,?_,?_)
 ·grind
 ·show js g (sgn c)<2^20;rw[a];show(ok (sgn c) n k e).1
theorem Kp.dk(k:Kp y H f)(W:Ws j C l T y due r g D F H)(e:H b=U (.dK i))(n:b≠y.z.e):f b=U (.dK i):=by
 let(_,_,h):=W.di;let(_,d,_):=W.B.de;let(_,a,_):=W.tb;show k b _ e (λz=>by ext) n (λz=>by ext) (λz=>by ext) (λ_ z=>nomatch z) (λ_ z=>nomatch z)
theorem Kp.tp(k:Kp y H f)(W:Ws l C m T y due r g D F H)(e:H b=U (.tup j)):f b=U (.tup j):=by
 let(_,_,i):=W.di;let(_,d,_):=W.B.de;let(_,a,_):=W.tb;let(_,h,_):=W.B.en;show k b _ e (λz=>by ext) (λz=>by ext) (λz=>by ext) (λz=>by ext) (λ_ z=>nomatch z) (λ_ z=>nomatch z)
inductive Fo(b C d:l7)(T:List (l7×Str×List Pos))(y:Zw)(due:Aa)(r:Str)(g:En)(D:jj)(F:List En)(x:Str)(t:LT)(v:Nat)(f:V)(H:Hp):Prop
 |lack (p) (e:f=.ref p) (h:H p=U (iz nO)) (c) (l:c∈gU) (m:sgn c∈t.tr.71) (o:g (sgn c)=J) (W:Ws b C d T y due r g D F H)
 |bad (p) (e:f=.ref p) (h:H p=U (.tup [.str lR,.str ny,.int (AW due (v):Nat)])) (j:∀c∈gU,sgn c∈t.tr.71->g (sgn c)≠J) (i:OK r due v) (W:Ws b C d T y due r g D F H)
 |ok (e:f=.eJ) (j:∀c∈gU,sgn c∈t.tr.71->g (sgn c)≠J) (i:¬ OK r due v) (W:Ws b C d T y due r (ir g x (mkN r due v)) (D++[(x,(g x))]) F H)
noncomputable def iB(tx:Str)(g:En)(c:Nat):Bool:=decide (c∈tx.6) && !(g (sgn c)).26
noncomputable def jm:List Pos:=[(621,27,621,78)]
noncomputable abbrev q3:Str:="_law_reckoning.<locals>." ++ lP
noncomputable abbrev NLr:lr:=[lI,lJ,nV,mj,m9,lX,mf,"_law_own",pA,"_law_one",lV,nh,oQ,"_law_sign",pa,"_law_left",pE]
noncomputable abbrev pLr:lr:=[lI,lJ,nV,mj,m9,lX]
theorem scLr:AH NLr pLr (defScope BV):=fG
noncomputable def sLr(y:Zw)(r x:Str)(a o u:l7)(b c d e f g h:Option V):St:=[U (.ref y.d),U (.ref y.z.b),U (.ref y.t),U (.ref y.u),U (.str r),U (.str x),U (.ref a),U (.ref o),U (.ref u),b,c,d,e,f,g,J,h]
theorem aX(F:iX ω mh mh BV f fd c)(hC:W.CodeHd base c P0)(hBu:base.BuiltinsAt mg P0)(TB:TdB P w ω mg base ec cM)(hT:(P0,q3,(jm))∈T)(un:∀q∈T,q.1=P0->q=(P0,q3,(jm)))(B:Bl mg)(BT:C5 ω BC)(EF:KB ω ec cR 1)(EPN:Fz ω ec cM cN 6)
  (GT:Fn P w ω mg base oB 2 [mj] spTable) (GGv:Fn P w ω mg base pH 1 [mf,lX,lV] spLgv) (GF:Fn P w ω mg base oP 7 Qo spForm) (GCo:Fn P w ω mg base oh 5 KG (spCome 3)) (GLm:Fn P w ω mg base qr 1 [mf,m9,lV] spLMade)
  (GRc:CJ P w ω mg base BC "reckon" 8 [lH,lK,ml] (spRc BC C cR cN bd)):AT P w ω mg base eK 11 f fd pLr (spLr ω BC C bd T):=by
 show F.ok scLr (λvs H Q E h=>?_) (λA outer s H vs Q E hr h=>?_)
 ·let(_,_,_,_,_,_,_,rfl):=h;rfl
 ·have nd:=scLr.nd;let hu:=CK hr;let TD:=TB.at (N:=NLr) (qq:=q3) (q:=mh) (sc:=defScope BV) (f:=f) (A:=A) (outer:=outer) (s:=s) (H:=H) (E:=E) hC hBu (ls:=jm) (by rfl)
  show(_,AC (Bo (hs:=by rfl) (hw:=by rfl) (AZ (AA (Am (Ak ω zd) (pv 2) (DB C7 AF) (λ_ _=>rfl)) (fJ (fP GT hr (fy (pv 3))) DR))) (BR zd (AQ (BM 6 nd) (AQ (BM 7 nd) (AQ (BM 8 nd) Az)))))
   (At (Cl PassesOwn.never rfl (BG (pv 3)) (BR rfl (AQ (BM 9 nd) (AQ (BM 10 nd) Az))) (AB (EB hu (pv 8) (pv 9) (pv 10) rfl)))
   (At (Bo (fP GF hr (AA (pv 0) (fJ (Gz [] [] (by rfl) (_) (by rfl) (by rfl) rfl (BG (pv 3)) (λ_ _ _ _ _ _=>BJ) (λ_ _ _ _ _ _=>pv 0)) AL))) (BR rfl (AQ (BM 16 nd) (AQ (BM 11 nd) Az))))
   (AC (A6 12 nd DR)
   (At (Cl PassesOwn.never rfl (JZ AL) (BM 13 nd) (AB (AV (Do (Hx hu (pv 13) (pv 6))) (AB (EB hu (pv 12) (pv 13) (Am (Ac ω rfl) (Au hu (pv 6) (pv 13) (λ_ _=>rfl)) AF (λ_ _=>rfl)) rfl)) AM)))
   (At (A6 14 nd (Gq (k:=8) TD hr 0 [lJ,lX,pE] [1,5,16] (λlf c' A' outer' s' u E hr=>Dv (pv 0) BT.cl GRc hr DS (fJ (pv 1) (pv 2)))))
   (AC (AV (AJ (IA ω rfl hr.units) (BX [pE,mf] [some 16,some 6] (by rfl) (_) (by rfl) rfl (JZ AL) (λ_ _ _ _ _ _=>Fd (PW.pt (Ci (AJ O6 (pv 0) (pv 1) rfl) (Bv (Do (Kx hu (pv 0) (pv 2))))))) (λ_ _ _ _ _ _=>pv 0)) (A4 AG) (AN _)) (AB (AI (AZ (fJ (pv 14) (AZ (fJ AL AL)))))) AM)
   (AC (A6 10 nd (fP GLm hr (AA (pv 7) (fJ (pv 4) (fP GCo hr (AA (pv 11) (AA (pv 8) (fJ (Au hu (pv 7) AL (λ_ _=>rfl)) (pv 12)))))))))
   (AC (AV (Ai (Br ω rfl rfl B.gZ rfl B.tuple DY (pv 10))) (AC (A6 15 nd (Bi (AJ Aq (Am (Ac ω rfl) (pv 10) AF (λ_ _=>rfl)) AL (AN _)) (Am (Ac ω rfl) (pv 10) AF (λ_ _=>rfl)) AF))
     (AB (AI (AZ (fJ (pv 14) (Bi (AJ Aq (Am (Ac ω rfl) (pv 10) AF (λ_ _=>rfl)) AL (AN _)) (AZ (AA AL (fJ AL (AX Cm (pv 15) (AX Cn (pv 15) (Au hu (pv 7) AL (λ_ _=>rfl))))))) (pv 10))))))) AM)
   (AC (Ae (Bg (pv 2) (fy (fP GGv hr (AA (pv 6) (fJ (pv 5) (pv 10)))))))
   (AB (AI (AZ (fJ (pv 14) C6))))))))))))),?_)
  show gL λN I=>?_;let(y,d,r,g,D,Fs,x,rfl,W,M,ch,hD,dk,jF,hrn,hbv,q):=h;let hx:=U9 hbv;let(ji,ht,hp,hn):=W.tb;let((F0,eF),lF):=ch.last;let(bs,j6,hu2):=W.du;subst eF;let(ts,a,rfl,X,ha):=CN hp;show(7,7,(y.t,_,-1,.ref a,zd,zd,dY.of ht,Mo _ _,7,(y.u,bs,d,zd,j6,hu2,dk.len,dk.lt,λo e m ms H1 s1 h1 h2 h3 h4=>?_)));let W1:=W.same M s1;show λS hnu=>(by change 3<=sizeLine;decide,λp dv=>?_);let s2:=AD (dH.refl H1) hnu (o:=HO.dK []);let hn2:=dG (H:=H1) (a:=S) (o:=HO.dK []);generalize upd H1 S (HO.dK [])=H2 at s2 hn2 dv;let s3:=AD (dH.refl H2) dv (o:=HO.tup [.ref a,.ref o,.ref S]);show(p,7,eO.of dG,zd,_,7,_,7,_,7,zd,?_);generalize upd H2 p (HO.tup [.ref a,.ref o,.ref S])=H3 at s3;let hn3:=s3 _ _ hn2;let s13:=s2.trans s3;let(bs1,hv1,hv2):=W1.du
  let jM:bs1.length=d.length:=by
   rw[hv2.length];unfold Ds;rw[AO]
  let keep:∀{H3:Hp}(o:HO),dH H1 H3->dH H1 (upd H3 S o):=λ{H3}o s b w e=>by rw[AE (AK e hnu)];show s b w e
  show(gy I (kZ λN I=>?_):N _ _);show(λJ u=>(∃x9 L,J=sLr y r x a o S x9 L none none none none none)/\u S=some (.dK (BF d))/\dH H1 u,λR hR=>?_,?_)
  ·show(7,y.u,zd,(_,dY.of (s13 _ _ hv1)),DP (ω:=ω) (a:=y.u) (xs:=bs1.map V.ref) (λj J u=>(∃x9 L,J=sLr y r x a o S x9 L none none none none none)/\u S=some (.dK (BF (d.take j)))/\dH H1 u) ((_,7),hn3,s13) (λj J u _ h=>dY.of (h.2.2 _ _ hv1)) ?_ (λJ u h=>hR _ _ ?_))
   ·rintro j v J H4 hj ⟨⟨x9,L,rfl⟩,hn4,s4⟩;let(bb,pr,rfl,_,X,dm):=DL (dJ.eX (eQ.of s4) hv2) hj;show(bb,7,eO.of dm,zd,_,7,_,7,zd,?_);let kP:=dk.len;show(7,7,7,S,7,.inl (_,Sum.inr pr.1,hn4,zd,AR ?_,zd),(_,7),?_,keep _ s4)
    ·unfold BF;rw[AO,zr]
     lia
    ·rw[dG,QS (VB dk.nd X),zw,X];rfl
   ·let(h1,h2,h3):=h;rw[AO,jM,zt]at h2;trivial
  intro J H4 h;show(gy I (kZ λN I=>?_):N _ _);let((x9,L,rfl),hn4,s4):=h;let W4:=W1.same M s4;let ho4:=s4 _ _ h1;let ht4:=s4 _ _ (s1 _ _ ht);let hv4:=s4 _ _ hv1;let hw4:=dJ.eX (eQ.of s4) hv2;let kp4:Kp y H H4:=.nx (.same (s1.trans s4));show(λJ u=>∃(tx:Str)(tv:V)(t:LT),J=sLr y r x a o S x9 L (some tv) none none none (some (.str tx))/\hO u tv t/\t.Ok (d.map (·.1)) gU/\t.ht<=3/\Wr true t.tr 0 tx.cps.toList/\tx.cps.all (· < 128)=true/\tx.length<=56/\eE y.d H4 u,λR hR=>?_,?_)
  ·show(7,7,y.u,zd,(_,dY.of hv4),Dz (ω:=ω) (a:=y.u) (xs:=bs1.map V.ref) (λi ys u=>ys=((d.take i).map (·.1)).map V.str/\u=H4) (zd,zd) (λi ys u _ (_,e)=>e ▸ dY.of hv4) (λi ys u (e,_)=>?_) ?_ ?_)
   ·have:=dk.len;rw[e,AO,AO,zr]
    lia
   ·rintro i v ys u hi ⟨rfl,rfl⟩;let(bb,pr,rfl,_,X,dm):=DL hw4 hi;show(bb,7,eO.of dm,zd,_,7,_,7,zd,?_);show(7,?_,zd);rw[zw,X,Option.toList_some,zl,zl];rfl
   ·rintro ys u ⟨rfl,rfl⟩ wl hwl;rw[AO,jM,zt];let sw:=AD (dH.refl _) hwl (o:=HO.lst ((d.map (·.1)).map V.str));let hw5:=dG (H:=u) (a:=wl) (o:=HO.lst ((d.map (·.1)).map V.str));generalize upd u wl (HO.lst ((d.map (·.1)).map V.str))=H5 at sw hw5 ⊢;let W5:=W4.same M sw;let(x5,y5,hd5):=W5.di;show(y.d,wl,x5,y5,d.map (·.1),"abx",zd,hd5,hw5,by rw[AO];lia,by rw[AO];show dk.len,λx hx=>?_,by trivial,Qw ▸ Ip,λq tx tv t H6 s6 hq lt ok ht wz az lz=>?_)
    ·let(p,hp,rfl):=zh.mp hx;let(h1,h2,h3):=Qj (n:=(d,[],js g)) dk hp;let hn:=(dk.nm p hp).1;unfold Ca at hn;simp only[Bool.and_eq_true,decide_eq_true_eq]at hn;show(h1.pw true (.inr zd),h1.ok.as,h2,λc l=>by have:=all_eq_true.mp hn.2 c l;simp[De]at this;lia)
    ·rw[Qw]at ok;show(q,7,eO.of hq,zd,_,7,_,7,zd,hR _ _ (tx,tv,t,zd,lt,ok,ht,wz,az,lz,(λb o e hb=>s6.old _ _ (sw _ _ e) hb,s6.fV)))
  intro J H5 h;show(gy I (gL λN I=>?_):N _ _);let(tx,tv,t,rfl,lt5,ok,ht3,wz,az,lz,s5):=h;let W5:=W4.fV M s5;let(xd,yd,hd4):=W4.di;let ht5:=s5.old _ _ ht4 (Ne.symm M.dt);let hn5:=s5.old _ _ hn4 λz=>by ext
  let(_,(kvs,hk,EK),hae,_):=W5.at ht5;let kp5:=kp4.trans (.one s5.old (.inl rfl));let nue:S≠y.z.e:=W1.ze hnu;show λle hle=>?_;let s6:=AD (dH.refl H5) hle (o:=HO.dK []);let kH:=dG (H:=H5) (a:=le) (o:=HO.dK []);generalize upd H5 le (HO.dK [])=H6 at s6 kH;let keep:∀{H3:Hp}(o:HO),dH H5 H3->dH H5 (upd H3 le o):=λ{H3}o s b w e=>by rw[AE (AK e hle)];show s b w e
  show(gy I (kZ λN I=>?_):N _ _);show(λJ u=>(∃Z,J=sLr y r x a o S x9 L (some tv) (some (.ref le)) Z none (some (.str tx)))/\(∃U,u le=some (.dK U)/\ll g gU U)/\dH H5 u,λR hR=>?_,?_)
  ·show("abx",zd,qb,Wt (z:="abx") (λj J u=>(∃Z,J=sLr y r x a o S x9 L (some tv) (some (.ref le)) Z none (some (.str tx)))/\(∃U,u le=some (.dK U)/\ll g (gU.take j) U)/\dH H5 u) ((_,zd),([],kH,λc=>rfl,zp _),s6) ?_ (λJ u h=>hR _ _ h));rintro j c J H7 l ⟨⟨Z,rfl⟩,⟨U,hl7,LD⟩,s7⟩;let jw:gU[j]?=some c:=by rwa[←Qw,Array.getElem?_toList]
   let tk:gU.take (j+1)=gU.take j++[c]:=by rw[zw,jw];rfl
   let hnc:c∉ gU.take j:=λz=>by
    let hj:=(z8.mp jw).1;have:j=0\/j=1\/j=2:=by simp at hj;lia
    let rfl||rfl||rfl:=this<;>(cases jw;revert z;decide)
   let hk7:=s7 _ _ hk;show(7,7,a,7,.inl (_,Sum.inr (sgn c),.inl hk7,zd,zd),7,?_);cases eg:g (sgn c)with
   |none=>
    rw[EK.no eg];show AU ((_,zd),(U,hl7,tk ▸ LD.no hnc eg),s7)
   |some z=>
    let(n0,c0):=z;let(t',v1,v2):=EK.vl (sgn c) n0 c0 eg;rw[v1];show Ag (7,7,a,7,.inl (_,Sum.inr (sgn c),.inl hk7,zd,v1.symm),t',_,0,7,zd,eO.of (s7 _ _ v2),zd,7,7,le,7,.inl (_,Sum.inr (sgn c),hl7,zd,AR ?_,zd),(_,zd),(_,dG,tk ▸ LD.yes eg),keep _ s7);have:=LD.l;let h3:gU.length=3:=rfl;rw[zr]at this
    lia
  intro J H7 h;show(gy I (kZ λN I=>?_):N _ _);let((Z,rfl),(U,hl7,LD),s7):=h;let W7:=W5.same M s7;let ho7:=s7 _ _ (s5.old _ _ ho4 λz=>by ext);let hn7:=s7 _ _ hn5;let lt7:=lt5.eX λb xs e=>s7 _ _ e;let kp7:=kp5.trans (.nx (.same s7))
  let oe:o≠y.z.e:=λz=>by
   let(ks,h1,h2):=W7.B.en;rw[←z,ho7]at h1;cases h1;let(ms,e1,e2):=h2.ks;have:(Sum.inr nG:Key)∈ms.map Sum.inr:=e1 ▸ zE ..;show absurd (e2.w _ (inr_mem.mp this)) (_)
  let EK7:=EK.keep λb xs e=>s7 _ _ e;let(v,hv):∃v,v=t.tr.gA ⟨d,U,js g⟩:=(_,rfl);let PW:=JL (n:=(d,U,js g)) dk ok Ip
  let hpl:t.tr.post.length<=15:=by
   let h1:=Hj t;let h2:2^(t.ht+1)<=2^4:=Nat.pow_le_pow_right qc ();let h3:(2:Nat)^4=16:=by decide
   lia
  show(λJ u=>∃fo,J=sLr y r x a o S x9 L (some tv) (some (.ref le)) Z (some fo) (some (.str tx))/\Fo BC C bd T y d r g D (F0++[g]) x t v fo u/\Kp y H7 u,λR hR=>?_,?_)
  ·show(W7.tabs _ hT,λH8 s8 t8=>?_);let(k8,W8):=W7.td M hT un s8 t8;show(7,W8.B.no (7,7,.mk y.z d r g D x tx t.tr.post zd W8.B hx () (XR dk.lt) az () (Uv wz) (Yo PW ()) W8.hb hrn ?_));by_cases O:∀c∈gU,sgn c∈t.tr.post->g (sgn c)≠none
   ·have ok':t.Ok (d.map (·.1)) (sgH g):=Iq ok λc l hm=>mem_filter.mpr (l,Option.isSome_iff_ne_none.mpr (O c l hm));let LN:=Mq (kvs:=U) W7.B.ok λc l=>by rw[LD.v,zf l]
    show .go v (λs hs hl=>?_) (λkvs' TG=>?_) (hv ▸ Mn (n:=(d,U,js g)) dk LN ok') ?_
    ·let(c,l,rfl):=(PW s hs).m hl;show O c l hs
    ·rw[hv,Hk (k2:=kvs') t];show Uw (Qt (n:=(d,kvs',js g)) dk (Mq W7.B.ok λc l=>TG.v _ (Ip c l)) ok')
    ·by_cases hb:OK r d v
     ·show .inl (hb,Yl EF λp H9 n9 e9=>hR _ _ (7,.bad p zd e9 O hb (W8.nx M n9),k8.kp.trans (.nx n9)))
     ·show .inr (hb,W8.dn M λH9 k9 W9=>hR _ _ (7,.ok zd O hb W9,k8.kp.trans k9))
   ·let(c,l,hm,hn):∃c,c∈gU/\sgn c∈t.tr.post/\g (sgn c)=none:=Classical.byContradiction λz=>O λc l hm e=>z (c,l,hm,e);show .lack (sgn c) hm (Ip c l) hn (W8.uq M EPN λp H9 n9 W9 e9=>hR _ _ (7,.lack p zd e9 c l hm hn W9,k8.kp.trans (.nx n9)))
  intro J H8 h;show(gy I (gL λN I=>?_):N _ _);let(fo,rfl,FO,k8):=h;let hk8:=k8.dk W7 (s7 _ _ hk) hae;let ho8:=k8.dk W7 ho7 oe;let hn8:=k8.dk W7 hn7 nue;let hl8:=k8.dk W7 hl7 (W5.ze hle);let EK8:=EK7.keep λb xs e=>k8.tp W7 e;let lt8:=lt7.eX λb xs e=>k8.tp W7 e;let kp8:=kp7.trans k8
  let vis:∀c,(Aj kvs (Sum.inr (sgn c))).isSome=(g (sgn c)).isSome:=λc=>by
   cases e:g (sgn c)with
   |none=>rw[EK8.no e];rfl
   |some z=>
    let(t',h1,_):=EK8.vl _ z.1 z.2 e
    ext
  show("abx",zd,qb,HK (x:="abx") (λi ys u=>u=H8/\ys=(((gU.take i).filter (iB tx g)).map sgn).map V.str) (zd,zd) (λi ys u (_,e)=>?_) ?_ ?_)
  ·rw[e,AO,AO];let h1:=zO (iB tx g) (gU.take i);rw[zr]at h1;let h2:gU.length=3:=rfl
   lia
  ·rintro i c ys u l ⟨rfl,rfl⟩;let jw:gU[i]?=some c:=by rwa[←Qw,Array.getElem?_toList]
   let e1:(gU.take (i+1)).filter (iB tx g)=(gU.take i).filter (iB tx g)++[c].filter (iB tx g):=by rw[zw,jw,Option.toList_some,filter_append]
   let y1:iB tx g c=true->(((gU.take (i+1)).filter (iB tx g)).map sgn).map V.str=(((gU.take i).filter (iB tx g)).map sgn).map V.str++[V.str (sgn c)]:=λz=>by
    ext
   let y0:iB tx g c=false->(((gU.take (i+1)).filter (iB tx g)).map sgn).map V.str=(((gU.take i).filter (iB tx g)).map sgn).map V.str:=λz=>by
    rw[e1,List.filter_cons_of_neg (by rw[z];decide)];simp
   show(7,7,c,tx,zd,zd,7,BN (λz=>?_) (λz=>?_))
   ·show(7,7,a,7,.inl (_,Sum.inr (sgn c),.inl hk8,zd,zd),7,?_);rw[vis c];show BN (λw=>(7,zd,(y1 ?_).symm)) (λw=>(zd,(y0 ?_).symm))
    ·unfold iB;rw[z,w];rfl
    ·unfold iB;rw[Bool.eq_false_iff.mpr w,Bool.and_false]
   ·show AU (zd,(y0 ?_).symm);unfold iB;rw[Bool.eq_false_iff.mpr z];rfl
  rintro ys u ⟨rfl,rfl⟩ p1 X;rw[take_of_length_le (_)];let sa:=AD (dH.refl _) X (o:=HO.lst (((gU.filter (iB tx g)).map sgn).map V.str));let ha:=dG (H:=u) (a:=p1) (o:=HO.lst (((gU.filter (iB tx g)).map sgn).map V.str));generalize upd u p1 (HO.lst (((gU.filter (iB tx g)).map sgn).map V.str))=Ha at sa ha;show(by simp,λp2 dv=>?_);let sb:=AD (dH.refl _) dv (o:=HO.lst []);let hb:=dG (H:=Ha) (a:=p2) (o:=HO.lst []);generalize upd Ha p2 (HO.lst [])=Hb at sb hb;let s9:=sa.trans sb;show(_,_,C4 (sb _ _ ha) (HU _),C4 (ds:=[]) hb (by rw[Bm]),FT λz hz=>?_,by rfl,7,?_)
  ·let(c,l,rfl):=zh.mp hz;have:=(mem_filter.mp l).1;simp at this;let rfl||rfl||rfl:=this<;>decide +kernel
  rw[QX];let txm:=λc l=>aV wz PW (Ip c l);let kp9:=kp8.trans (.nx (.same s9));let ho9:=s9 _ _ ho8;let hl9:=s9 _ _ hl8;let hn9:=s9 _ _ hn8;let lt9:=lt8.eX λb xs e=>s9 _ _ e
  let nil:(∀c∈gU,sgn c∈t.tr.post->g (sgn c)≠none)->gU.filter (iB tx g)=[]:=λhs=>by
   show List.filter_eq_nil_iff.mpr λc l z=>?_;unfold iB at z;rw[Bool.and_eq_true]at z;have:=hs c l ((txm c l).mp (zR z.1));show this (Option.isNone_iff_eq_none.mp (by simpa using z.2))
  let(p,rfl,h,c,l,hm,hn,W8)||(p,rfl,h,hs,Y,W8)||(rfl,hs,Y,W8):=FO
  ·have j7:c∈gU.filter (iB tx g):=mem_filter.mpr (l,by unfold iB;rw[zH ((txm c l).mpr hm),hn];rfl);let W9:=W8.same M s9;cases e:gU.filter (iB tx g)with
   |nil=>rw[e]at j7;cases j7
   |cons c2 jX=>
    show Ag (7,by trivial,λp5 jE=>(by change 2<=sizeLine;decide,λp6 jd=>?_));let sc:=AD (dH.refl _) jE (o:=iz nO);let hc5:=dG (H:=Hb) (a:=p5) (o:=iz nO);generalize upd Hb p5 (iz nO)=Hc at sc hc5 jd;let sd:=AD (dH.refl _) jd (o:=HO.tup [.ref p,.ref p5]);let s2:dH Hb _:=λb o e=>sd _ _ (sc _ _ e);show q p6 _ _ g D _ _ dG (.two (s2 _ _ (s9 _ _ h)) (sd _ _ hc5) qd) (W9.same M s2) ch (kp9.trans (.nx (.same s2))) (Nat.le_succ _)
  ·have ok':t.Ok (d.map (·.1)) (sgH g):=Iq ok λc l hm=>mem_filter.mpr (l,Option.isSome_iff_ne_none.mpr (hs c l hm));let LN:=Mq (kvs:=U) W.B.ok λc l=>by rw[LD.v,zf l]
   let W9:=W8.same M s9;rw[nil hs];show AU (gy I (gL λN I=>?_):N _ _);show(7,7,7,7,7,o,7,.inl (_,Sum.inr nG,.inl ho9,zd,(Cu _ _ _).symm),7,.mk tv S le t (d,U,js g) (sgH g) zd lt9 ok' (.inl hl9) (λc l=>((LN c l).1,(LN c l).2.1)) ht3 hn9 dk (.mk o e m d r _ zd ho9 (zW _) ?_));rw[←hv];let h9:=s9 _ _ h
   let w3:∀{p5:l7}{Hc:Hp},dH Hb Hc->Hc p5=some (.tup [.str lR,.str ny,.int (AW d (v:Int):Nat)])->∀p6,Hc p6=none->Q (.ref p6) (upd Hc p6 (.tup [.ref p,.ref p5])):=λ{p5 Hc}sc l p6 jd=>by
    let sd:=AD (dH.refl _) jd (o:=HO.tup [.ref p,.ref p5]);let s2:=sc.trans sd;show q p6 _ _ g D _ _ dG (_,OM (s2 _ _ h9),OM (sd _ _ l),ON qb qb,VA _ _ _) (W9.same M s2) ch (kp9.trans (.nx (.same s2))) (Nat.le_succ _)
   let(st,i6):=Y;let no1:¬ decide (V.str lR=V.str "left")=true:=by decide +kernel
   let i6||i6:=i6
   ·show .inl (st,i6,λp9 hp9=>?_);let sc:=AD (dH.refl _) hp9 (o:=HO.tup [.str lR,.str ny,.int (AW d (v:Int):Nat)]);let G:=dG (H:=Hb) (a:=p9) (o:=HO.tup [.str lR,.str ny,.int (AW d (v:Int):Nat)]);generalize upd Hb p9 (HO.tup [.str lR,.str ny,.int (AW d (v:Int):Nat)])=Hc at sc G;show(gy I (gL λN I=>?_):N _ _);show(7,_,_,_,true,zd,.tup G,zd,7,Ag ?_);show(7,p9,_,0,7,zd,eO.of G,zd,zd,7,BN (λz=>absurd z no1) λ_=>?_);show(7,7,p9,_,0,7,zd,eO.of G,zd,zd,7,BN (λz=>absurd z no1) λ_=>(7,by change 2<=sizeLine;decide,w3 sc G))
   ·show .inr (.inl (λz=>absurd (i6.symm.trans z.2) (_),st,i6,λp9 hp9=>?_));let sc:=AD (dH.refl _) hp9 (o:=HO.tup [.str "left",.int (v:Int)]);let G:=dG (H:=Hb) (a:=p9) (o:=HO.tup [.str "left",.int (v:Int)]);generalize upd Hb p9 (HO.tup [.str "left",.int (v:Int)])=Hc at sc G;let hoc:=sc _ _ ho9;let es:(v:Int)-Builtin.bitAnd (v:Int) ((kn d:Nat):Int)=((AW d (v:Int):Nat)):=by rw[Mp,OO]
    show(gy I (gL λN I=>?_):N _ _);show(7,_,_,_,true,zd,.tup G,zd,7,Ag ?_);show(7,p9,_,0,7,zd,eO.of G,zd,zd,7,BN (λ_=>?_) λz=>absurd (by rfl) z);show(7,p9,_,1,7,zd,eO.of G,zd,?_);show(7,7,p9,_,0,7,zd,eO.of G,zd,zd,7,BN (λ_=>?_) λz=>absurd (by rfl) z);show(7,7,7,o,7,.inl (_,Sum.inr nG,.inl hoc,zd,(Cu _ _ _).symm),_,7,zd,_,7,zd,by change 3<=sizeLine;decide,λp5 jE=>(by change 2<=sizeLine;decide,?_));let sd:=AD sc jE (o:=HO.tup [.str lR,.str ny,.int ((v:Int)-Builtin.bitAnd (v:Int) ((kn d:Nat):Int))]);show w3 sd (dG.trans (congrArg (λz=>some (HO.tup [.str lR,.str ny,.int z])) es))
  ·have ok':=Iq ok λc l hm=>mem_filter.mpr (l,Option.isSome_iff_ne_none.mpr (hs c l hm));let LN:=Mq (kvs:=U) W.B.ok λc l=>by rw[LD.v,zf l]
   let W9:=W8.same M s9;rw[nil hs];show AU (gy I (gL λN I=>?_):N _ _);show(7,7,7,7,7,o,7,.inl (_,Sum.inr nG,.inl ho9,zd,(Cu _ _ _).symm),7,.mk tv S le t (d,U,js g) (sgH g) zd lt9 ok' (.inl hl9) (λc l=>((LN c l).1,(LN c l).2.1)) ht3 hn9 dk (.mk o e m d r _ zd ho9 (zW _) ?_));rw[←hv];show .inr (.inr (λz=>Y (z.1,.inl z.2),λz=>Y (z.1,.inr z.2),?_));show(gy I (gL λN I=>?_):N _ _);show(7,_,_,_,false,zd,.int _,zd,7,AU ?_);show(gy I ?_:N _ _);let(tas9,ht9,_):=W9.tb;show(7,.inl (zd,_,dY.of ht9),7,7,7,(a,g,x,mkN r d v,zd,(kvs,s9 _ _ hk8,EK8.keep λb xs e=>s9 _ _ e),hx,λp H1 s1 hp ht=>?_));let(xs,e1,ln,o6,W6):=W9.gv M s1 hp ht ();show(y.t,_,7,zd,e1,ln,7,by trivial,λp6 jd=>?_);let sd:=AD (dH.refl _) jd (o:=HO.tup [V.eJ,V.eJ]);show q p6 .eJ .eJ _ _ _ _ dG .eJ (W6.same M sd) (ch.gv hbv W.B.ok) ((kp9.trans (.one o6 (.inr zd))).trans (.nx (.same sd))) (_)
structure Wu(P:Program)(w:World)(K:FG)(mg:SV)(base:Heap)(BC C:l7):Prop where
 T:C5 K BC
 cls:mg "Book"=U (.ref BC)
 make:∃f fd,Mk K BC f/\AT P w K mg base eK 1 f fd [lH,lN] (spBi BC C)/\Binds K fd [lH,lN] []
theorem VE(a):(As a).5 (·.1)=a.5 (·.1):=by
 let d:∀n,n<=a.3->(As (a.20 n)).5 (·.1)=(a.20 n).5 (·.1):=by
  intro n;induction n with
  |zero=>intro _;rfl
  |succ n i=>
   intro h;let e:a.20 (n+1)=a.20 n++[a[n]]:=by rw[zw,z7 ()];rfl
   rw[e,Fh,zl,zl,i ()];rfl
 have:=d a.3 (zp _)
 rwa[zt]at this
def KpL(d:l7)(y:Zw)(H f:Hp):Prop:=∀b g,H b=U (.lst g)->b≠d->(b≠y.z.e/\b≠y.z.l/\b≠y.t)/\f b=U (.lst g)
structure Lbk(BC C bd:l7)(T:List (l7×Str×List Pos))(d:l7)(y:Zw)(due:Aa)(r:Str)(g:En)(D:jj)(F:List En)(t:l7)(H:Hp):Prop where
 ed:y.d=d
 W:Ws BC C bd T y due r g D F H
 N:Nd bd y
 tb:gH H t g
 te:t≠y.z.e
 lD:D.3<=31
 dk:fZ due
 wd:∀x∈due.5 (·.1),x∈fQ
 hr:r∈eU
 dl:0<due.3
 ln:due.3<=9
 cn:∀x n c,g x=U (n,(c))->c<=31
 nq:g "q"=J
inductive spLb(h C f:l7)(T:List (l7×Str×List Pos))(vs:ly)(H:Hp)(Q:VK)(i:XK):Prop
 |mk (d) (a b) (l:vs=[.ref d,.int 12]) (m:H d=U (.lst [.int a,.int b])) (s:Rd H f (.dK Dd)) (o:∀p∈T,eV H p.1 p.2.1 p.2.2)
  (u:∀q y due r g D F t j,Lbk h C f T d y due r g D F t j->j q=U (.tup [.ref y.z.b,.ref t,.ref y.u,.str r,.bl L])->KpL d y H j->Q (.ref q) j)
noncomputable abbrev NLb:lr:=[lI,mi,"_law_rows",mj,m9,lJ,nV,"_law_good","_law_turn",pa,"_law_right"]
theorem scLb:AH NLb [lI,mi] (defScope J2):=fG
theorem aY(F:eP i qw qw J2 f fd)(a9:Bl j)(KO:Mm P w i j base C)(BO:Wu P w i j base m C)
  (GL:Fn P w i j base pT 3 [lI,mi] spLines) (bl:Fn P w i j base px 3 [lI] spRuleOf) (bk:Fn P w i j base mx 2 [lI,mw] spRollB)
  (bm:Fn P w i j base m7 12 pLs (spLs i m C p al)):AT P w i j base eK 13 f fd [lI,mi] (spLb m C p al):=by
 let(fI,dI,MI,GI,gI,kbI):=KO.make;let(fB,dB,MB,GB,bB):=BO.make;show F.ok scLb (λvs ag bn be h=>?_) (λdc b2 b5 b7 ag vs bn be B h=>?_)
 ·let(_,_,_,rfl,_):=h;rfl
 ·have u:=scLb.nd;let bX:=B.41;let i6:eB 2 _:=B.51 qc;let bS:eB 7 _:=B.51 qc
  show(_,AC (Bo (fP GL B (fJ (Z 0) AF)) (BR Y (AQ (BM 2 u) (AQ (BM 3 u) Az))))
    (AC (A6 4 u (fP bl B (fy (Z 0))))
    (At (V7 (i:=5) (j:=6) (k:=7) rfl u rfl rfl rfl rfl rfl rfl (AA (Dh MB GB i6 rfl BO.78 bB .nil Af (fy (Ja MI GI bS rfl KO.78 kbI (fy (Z 2)) (JG (Z 4) Ll))) qc) (fJ (A4 (fy DR)) Cf)) qd)
    (At (Cl PassesOwn.never rfl (Ck rfl a9.range (fy (fP bk B (fJ (Z 0) (AX CQ (Z 1) AF))))) (BM 8 u)
     (AC (Bo (fP bm B (AA (Z 0) (AA (Z 5) (AA (Z 6) (fJ (Z 3) (Z 4)))))) (BR rfl (AQ (BM 9 u) (AQ (BM 10 u) Az))))
     (AB (A6 7 u (CI (Z 7) (Cj (CG (Tc i rfl bX) (Z 9) (Z 10) (AN _))))))))
    (AB (AI (AZ (AA (Z 5) (AA (Am (Ak i rfl) (Z 6) (DB C7 AF) (λ_ _=>rfl)) (AA (Z 3) (fJ (Z 4) (Z 7))))))))))),?_)
  let(d,x,y,rfl,S,hB,hTab,kend):=h;show(7,d,x,y,6,Y,qc,qc,S,λab f ar fs bs l Ha a2 hq a4 a5 hf hP bW d3 r0 b6 RO d5=>(ab,7,eO.of hq,Y,_,7,_,7,Y,?_));let(A,ya,hda):=a2.fV;let bF:f≠d:=λz=>by rw[z,S]at a4;cases a4
  let ud:ar≠d:=λz=>by rw[z,S]at a5;cases a5
  let DO:=N8 RO ();show(_,rfl,d,A,ya,rfl,hda,λr I d4 G=>?_);let(xb,yb,hdb):=G.fV;let tX:eQ Ha I:=λb xs e=>G.old _ _ e (Py e hda λz=>nomatch z);let az:=G.old _ _ bW ud;let bK:=dJ.eX tX d3;let bI:=Bh tX hP;let bN:=G.old _ _ hf bF;let ob:∀b o,ag b=U o->b≠d->I b=U o:=λb o e E=>G.old _ _ (a2.old _ _ e E) E;show(λM s=>∃q:Zw,M=[U (.ref d),U (.int 12),U (.ref f),U (.ref ar),U (.str r),U (.ref q.z.b),U (.ref q.t),U (.bl ii),J,J,J]/\q.d=d/\q.u=ar/\Nd p q/\Ws m C p al q (As l) r (λ_=>J) [] [λ_=>J] s/\dH I s/\I q.z.e=J/\I q.z.l=J/\I q.t=J,λbr hR=>?_,?_)
  ·show(7,7,?_);intro k dk hk bM er;let sN:=Bn (D:=C) hk bM er;show(k,dk,f,l,r,Y,dG,(fs,sN _ _ bN,Bh (eQ.of sN) bI),r0,by lia,RO,d4,λH0 sd KA=>(Y,?_));let s0:=BQ sN hk sd;intro an dx hp et bR;let sM:=Bn (D:=m) hp et bR;show(an,dx,k,As l,r,Y,dG,KA.25 sM,λdE lE N s3 bL bO Bk=>(Y,?_));let a0:=BQ sM hp s3;let nE:=none_of sM bL;let T:=none_of sM bO;show λR as=>(by change 1<=sizeLine;decide,λt ht=>(_,_,7,?_));let Q:=AD (dH.refl _) as (o:=HO.dK []);let h4:=dG (H:=N) (a:=R) (o:=HO.dK []);generalize upd N R (.dK [])=H4 at Q h4 ht;let s6:=AD (dH.refl _) ht (o:=HO.lst [.ref R]);let a3:=dG (H:=H4) (a:=t) (o:=HO.lst [.ref R]);generalize upd H4 t (.lst [.ref R])=H6 at s6 a3;let a8:dH N H6:=λb o e=>s6 _ _ (Q _ _ e);let v:dH I H6:=λb o e=>a8 _ _ (a0 _ _ (s0 _ _ e));let bb:=Bk.25 a8;let H:=none_of Q ht;let(_,hen,_):=Bk.en;let(_,hde,_):=Bk.de;let pr:∀{b:l7}{o:HO},I b=U o->∀{c:l7},H0 c=J->b≠c:=λ{b o}e{c}n z=>by rw[z]at e;rw[s0 _ _ e]at n;cases n
   let a7:∀{b:l7}{o:HO},I b=U o->b≠t:=λ{b o}e z=>by rw[z]at e;rw[a0 _ _ (s0 _ _ e)]at H;cases H
   let aM:∃o,I p=U o:=by
    let h||(o,h):=hB
    ·show(_,ob _ _ h λz=>by rw[z,S]at h;cases h)
    ·show(_,ob _ _ h λz=>by rw[z,S]at h;cases h)
   let(ob',aM):=aM;show hR _ _ (((an,k,dE,lE),d,t,ar),rfl,rfl,rfl,(pr hdb T,a7 hdb,λz=>?_,ud,pr az T,a7 az,pr aM nE),((xb,yb,v _ _ hdb),bb,([R],a3,.cons ([],s6 _ _ h4,(([],rfl,nodup_nil,λx hx=>(by cases hx),λx=>(λz=>(by cases z),λz=>absurd rfl z)),λx n c e=>nomatch e)) .nil,λb E=>?_),(bs,v _ _ az,dJ.eX (eQ.of v) bK),?_,λan hp=>eV.same v (eV.sameX hda G (eV.sameX S a2 (hTab an hp)))),v,none_of s0 nE,none_of s0 T,none_of s0 (none_of a0 H))
   ·rw[show lE=t from z]at hde;rw[H]at hde;cases hde
   ·cases zz.mp E;show λz=>by rw[show R=dE from z,hen]at as;cases as
   ·let h||(o,h):=hB
    ·show .inl (v _ _ (ob _ _ h λz=>by rw[z,S]at h;cases h))
    ·show .inr (o,v _ _ (ob _ _ h λz=>by rw[z,S]at h;cases h))
  rintro M N ⟨y,rfl,bC,bE,Nn,W3,s3,nE,T,H⟩;subst bC;subst bE;let jF:0<(As l).3:=by rwa[CD]
  let(x3,y3,kK):=W3.di;show(λM s=>(∃x8 x9 A,M=[U (.ref y.d),U (.int 12),U (.ref f),U (.ref y.u),U (.str r),U (.ref y.z.b),U (.ref y.t),U (.bl ii),x8,x9,A])/\∃g D F,Ws m C p al y (As l) r g D F s/\Ch (As l) r F D g/\D.3<=31/\Kp y N s,λbr hR=>?_,?_)
  ·show(7,7,_,7,Y,y.d,x3,y3,13,Y,kK,qc,qb,λn a' b' n0 b4=>(n,Y,?_));let Q:eE y.d N (upd N y.d (.lst [.int a',.int b'])):=(λb o e h=>by rw[AE h];show e,(a',b',dG));generalize upd N y.d (.lst [.int a',.int b'])=H4 at Q;let W4:=W3.fV Nn Q;show(by lia,by lia,Fa (λaR M s=>(∃x8 x9 A,M=[U (.ref y.d),U (.int 12),U (.ref f),U (.ref y.u),U (.str r),U (.ref y.z.b),U (.ref y.t),U (.bl ii),x8,x9,A])/\∃g D F,Ws m C p al y (As l) r g D F s/\Ch (As l) r F D g/\D.3<=aR/\Kp y N s) ((_,_,7),_,_,_,W4,.nil,zp _,.one Q.old (.inl Y)) ?_ (λM s (h1,g,D,F,h2,h3,h4,h5)=>hR _ _ (h1,g,D,F,h2,h3,by lia,h5)));rintro aR M H5 hj ⟨⟨x8,x9,A,rfl⟩,g,D,F,W5,ch,lD,kp⟩;show(7,7,7,7,7,.mk y (As l) r g D F Y W5 Nn ch () DO jF d4 λab a1 b1 g' D' F' H6 e6 dq W6 bu k6 l6=>(ab,7,eO.of e6,Y,_,7,_,7,Y,?_));let(dd,q1',q2',q3',q4'):=dq;show(7,7,7,7,dd,dd,q1',q2',q3',q3',?_);rw[q4'];show((_,_,7),g',D',_,W6,bu,by lia,kp.7 k6)
  rintro M H4 ⟨⟨x8,x9,A,rfl⟩,g0,D0,F0,W4,aC,a6,b0⟩;let((F1,eF),_):=aC.last;subst eF;let(ji,ht6,jd,_):=W4.tb;let(ts,ta,rfl,_,_):=CN jd;let(_,tb6,te6,_):=W4.at ht6;show(7,7,7,y.t,_,-1,.ref ta,Y,Y,dY.of ht6,Mo _ _,7,7,7,by change 5<=sizeLine;decide,λab hq=>?_);let s5:=AD (dH.refl _) hq (o:=HO.tup [.ref y.z.b,.ref ta,.ref y.u,.str r,.bl ii]);show kend ab y (As l) r g0 D0 _ ta _ (Y,W4.25 Nn s5,Nn,tb6.34 (λb xs e=>s5 _ _ e) (λ_ e=>s5 _ _ e),te6,a6,DO,λx hx=>d5 x (by rwa[VE]at hx),d4,jF,by rw[CD];lia,λx n c e=>Nat.le_trans (aC.cnt x n c e) a6,aC.nq) dG λb xs e E=>?_;let e1:=ob _ _ e E;let X:∀{c:l7},I c=J->b≠c:=λn z=>by rw[z,n]at e1;cases e1
  show((X nE,X T,X H),s5 _ _ (b0 b _ (s3 _ _ e1) E (X nE) (X T) (X H) (λ_ z=>nomatch z) λ_ z=>nomatch z))
theorem Yp:PyData.eqv (.tuple [.int (n),.int (c)]) (.tuple [.int (m),.int (d)])=decide (n=m/\c=d):=by
 simp[PyData.eqv,PyData.eqvAll,Bool.and_eq_true,beq_iff_eq]
 grind
theorem VF(h:TpE H t n c):Bf ω H (.tuple [.int (n:Int),.int (c:Int)]) (.ref t):=by
 rw[Bf];show(t,7,eO.of h,by simp[Bm,Bf])
theorem ip.sub_eq(h:ip d f)(k:ip b g)(q:d.3=b.3)(e:∀x∈d,g x=f x):f=g:=by
 let o:∀x∈d,x∈b:=λx a=>(k.mem x).53 (by rw[e x a];show(h.mem x).mp a);funext x;by_cases a:x∈d
 ·show(e x a).35
 ·have p:f x=J:=Decidable.byContradiction λz=>a ((h.mem x).53 z)
  let j:g x=J:=Decidable.byContradiction λz=>by
   have:=Hg (l:=x::d) (zi.53 (a,h.nd)) λy i=>by
    let rfl||i:=mem_cons.mp i
    ·show(k.mem _).53 z
    ·show o y i
   rw[length_cons]at this;omega
  rw[p,j]
theorem Wv(A:iu H j f)(B:iu H s g):∃b,g6 ω H s j b/\((j.3==s.3&&b)=L ↔ f=g):=by
 let(I,D,q):=A.ks;let(Y,M,G):=B.ks
 let N:(j.5 (·.1)).29:=by
  rw[D];show pairwise_map.53 (q.nd.imp λn e=>n (Sum.inr.inj e))
 let X:∀p∈j,Aj j p.1=gl p.2:=λp u=>by
  let(i,o):=getElem?_of_mem u;show Hh N o
 let F:∀(l:LK)(a:lr),(∀p∈l,Aj j p.1=gl p.2)->l.5 (·.1)=a.5 Sum.inr->(∀x∈a,x∈I)->∃b,g6 ω H s l b/\(b=L ↔ ∀x∈a,g x=f x):=by
  intro l;induction l with
  |nil=>
   intro a _ e _;cases a with
   |nil=>show(L,.nil,by simp)
   |cons _ _=>cases e
  |cons p l T=>
   intro a w e P;cases a with
   |nil=>cases e
   |cons x a=>
    let(k,v):=p;let(U,O):=List.cons.inj e;obtain rfl:k=Sum.inr x:=U;let(b,C,o):=T a (λp u=>w p (zN _ u)) O λy R=>P y (zN _ R);let((n,c),E):∃y,f x=gl y:=Option.ne_none_iff_exists'.mp ((q.mem x).mp (P x (zE ..)));let(t,t1,t2):=A.vl x n c E;let S:v=.ref t:=Option.some.inj ((w _ (zE ..)).symm.7 t1);subst S;cases r:g x with
    |none=>
     show(im,.miss (Im λz=>?_),by simp;show λz=>by rw[r,E]at z;cases z);rw[M,inr_mem]at z;show(G.mem x).mp z r
    |some y=>
     let(m,d):=y;let(Z,t3,t4):=B.vl x m d r;show(_,.hit t3 (VF t2) (VF t4) (by rfl) (by rfl) C,?_);rw[Yp,Bool.and_eq_true,o];simp only[List.forall_mem_cons,r,E,decide_eq_true_eq,Option.some.injEq,Prod.mk.injEq]
     grind
 let(b,C,o):=F j I X D λ_ h=>h;let Q:j.3=I.3:=by simpa using congrArg List.length D
 let lb:s.3=Y.3:=by simpa using congrArg List.length M
 show(b,C,?_);rw[Bool.and_eq_true,beq_iff_eq,o,Q,lb];show(λz=>q.sub_eq G z.1 z.2,λz=>by subst z;show(q.eqlen G,λ_ _=>rfl))
inductive spBe(d C:l7)(vs:ly)(H:Hp)(Q:VK)(f:XK):Prop
 |mk (a) (b) (due) (r) (g) (D) (p:vs=[.ref a.b,.ref b]) (q:gk d C a due r g D H) (u:ko due)
   (s:(∃o,H b=U (.dK o)/\Q (.bl O) H)\/∃(z:Za)(h:Aa)(l:Str)(j:En)(m:jj),b=z.b/\gk d C z h l j m H/\ko h/\∀t i,dH H i->(t=L ↔ (due=h/\r=l)/\g=j)->Q (.bl t) i)
theorem cz:AH [lH,me] [lH,me] (defScope MV):=fG
theorem aZ(F:eP b oo "Book.__eq__" MV f Q)(B:Bl m)(o:C5 b g)(s:iW b g)(v:W.kitOne b (.type mH) (.ref g)=gl im)(y:m "Book"=gl (.ref g))
  (x:Mt P w b m base C oo 2 [lH,me] (spEqK C)):AT P w b m base eK 3 f Q [lH,me] (spBe g C):=by
 let(fE,dE,x,Y,bE):=x.ex;show F.m cz λvs H ab E h=>?_;let(a,al,G,r,an,D,rfl,q,R,h):=h;show(zd,λdc A az ar I=>?_)
 show(_,AB (AI (CI (AS (Ii b zd) zd B.gZ EY (AA (Z 1) (fy (BA (v:=.ref g) zd y zd))))
  (CI (CG (G4 x I bE Y) (Ad (Z 0) rfl) (Ad (Z 1) rfl) (AN _))
   (Cj (CG (R6 b rfl (eB.in1 (k:=1) I).41) (Ad (Z 0) rfl) (Ad (Z 1) rfl) (AN _)))))),?_)
 let(ag,O,k)||(z,j,r',g',D',rfl,l,N,k):=h
 ·show(7,_,g,_,im,zd,.dK O,v,7,AU k)
 ·let(dy,M):=l.bk;show(7,_,g,_,L,zd,s.ty M,FU b g,7,?_);show Ag ?_;let(u,d1,d2,i):=q.ka.ins;let(dkb,e1,e2,d):=l.ka.ins;show(7,jW o q (7,jW o l ?_));show(a.k,u,_,z.k,zd,zd,i,.inl (_,_,d),a.k,z.k,G,r,zd,q.ka,R,.inr (j,r',l.ka,N,λH1 p=>(7,7,?_)));show BN (λe=>?_) (λe=>?_)
  ·have T:=zR e;let A1:=q.25 p;let X:=l.25 p;let(U,i,EA):=A1.en;let(kb,d,S):=X.en;let(t,ht,hi):=Wv (ω:=b) EA S;show(7,kQ o A1 (7,kQ o X ?_));show(a.e,z.e,U,kb,t,zd,zd,.inl i,.inl d,λ_=>ht,k _ _ p (hi.7 (λz=>(T,z),λz=>z.2)))
  ·show k _ _ p (λz=>(nomatch z),λz=>(e (zH z.1)).40)
end
end Mk
namespace Mk
open PySem L2 MK PySem.NumText PyProof.Rows
mutual
noncomputable def nT(n:Nat):Str:=Str.ofString (toString (n:Int))
noncomputable def B0(q:Str×Nat):Str:=Str.empty++q.1 ++ "=" ++ nT q.2
noncomputable def Cd(q:Str×Nat×Nat):Str:=Str.empty++q.1 ++ "=" ++ nT q.2.1 ++ "=" ++ nT q.2.2
noncomputable def Hl(r:Str)(due:Aa)(b:List (Str×Nat×Nat)):Str:=Txt.join ";" [r,Txt.join "," (due.5 B0),Txt.join "," (b.5 Cd)]
noncomputable def KQ(r:Str)(due:Aa)(b:List (Str×Nat×Nat)):Str:=Hl r due b ++ "."
def Pl(x:Str):Prop:=∀c∈x.6,c≠44/\c≠46/\c≠59/\c≠61
theorem aa(h:c∈(nT n).6):48<=c/\c<=57:=by
 unfold nT at h;rw[W.KIN.signs_num]at h;let(d,a,e):=zh.mp h;have:=digit_range (Nat.isDigit_of_mem_toDigits qc qc a);omega
theorem OQ(n):Pl (nT n):=λc h=>by
 have:=aa h;omega
theorem FY(h:n<10^10):(nT n).3<=10:=W.KT.len_num (zW n) qe
theorem Pt(h:n<10^10):intText? (nT n)=U (n:Int):=W.KIN.num_reads (zW n) qe
theorem Fj(x):Str.empty++x=x:=W.KT.empty_app x
theorem Ww(q):B0 q=Txt.join "=" [q.1,nT q.2]:=by
 unfold B0;rw[Fj];show(StrLaws.glued_eq_join ("=":Str) [q.1,nT q.2]).35
theorem Pu(x y z:Str):x++y++z=x++(y++z):=Dj (by simp only[cps_toList_append,append_assoc])
theorem Wx(q):Cd q=Txt.join "=" [q.1,nT q.2.1,nT q.2.2]:=by
 unfold Cd;rw[Fj,Pu,Pu];show Eq.trans ?_ (StrLaws.glued_eq_join ("=":Str) [q.1,nT q.2.1,nT q.2.2]).35;change _=q.1 ++ "=" ++ (nT q.2.1 ++ "=" ++ nT q.2.2);simp only[Pu]
theorem Yq(h:Pl q.1):Txt.split (B0 q) "="=[q.1,nT q.2]:=by
 rw[Ww]
 show EL (c:=61) (cons_ne_nil _ _) λx a=>by
  let rfl||a:=mem_cons.mp a
  ·show λz=>(h _ z).2.2.2 rfl
  ·rw[zz.mp a];show λz=>(OQ _ _ z).2.2.2 rfl
theorem Yr(h:Pl q.1):Txt.split (Cd q) "="=[q.1,nT q.2.1,nT q.2.2]:=by
 rw[Wx]
 show EL (c:=61) (cons_ne_nil _ _) λx a=>by
  simp only[mem_cons,not_mem_nil,or_false]at a;let rfl||rfl||rfl:=a
  ·show λz=>(h _ z).2.2.2 rfl
  ·show λz=>(OQ _ _ z).2.2.2 rfl
  ·show λz=>(OQ _ _ z).2.2.2 rfl
theorem Mr(h:Pl q.1)(a:c∈(B0 q).6):c≠44/\c≠46/\c≠59:=by
 unfold B0 at a;rw[Fj]at a;simp only[cps_toList_append,mem_append]at a;rcases a with (a|a)|a
 ·have:=h _ a;show(this.1,this.2.1,this.2.2.1)
 ·have:c=61:=zz.mp a;omega
 ·have:=OQ _ _ a;show(this.1,this.2.1,this.2.2.1)
theorem Qx(h:Pl q.1)(a:c∈(Cd q).6):c≠44/\c≠46/\c≠59:=by
 let e:Cd q=B0 (q.1,(q.2.1)) ++ "=" ++ nT q.2.2:=rfl;rw[e]at a;simp only[cps_toList_append,mem_append]at a;rcases a with (a|a)|a
 ·show Mr (q:=(q.1,(q.2.1))) h a
 ·have:c=61:=zz.mp a;omega
 ·have:=OQ _ _ a;show(this.1,this.2.1,this.2.2.1)
theorem LY(h:∀x∈b,∀c∈x.6,c≠44/\c≠46/\c≠59)(a:c∈(Txt.join "," b).6):c≠46/\c≠59:=by
 let d:c∈(Str.join "," b).6:=by rw[←StrLaws.glued_eq_join];show a
 let(x,e,a)||(_,a):=(mem_join _ _ _).mp d
 ·show(h x e c a).2
 ·have:c=44:=zz.mp a;omega
noncomputable def prt(x:Str):List (lr):=((Txt.split x ",").30 λp=>!decide (p=("":Str))).5 λp=>Txt.split p "="
theorem OR{b:Type}{f}{g}{l:List b}(p:∀a∈l,44∉ (f a).6)(o:∀a∈l,61∈(f a).6)(j:∀a∈l,Txt.split (f a) "="=g a):prt (Txt.join "," (l.5 f))=l.5 g:=by
 unfold prt;by_cases i:l=[]
 ·subst i;let e:Txt.split (Txt.join "," ([]:lr)) ","=[("":Str)]:=by decide +kernel
  rw[map_nil,e];rfl
 ·rw[show Txt.split (Txt.join "," (l.5 f)) ","=l.5 f from EL (c:=44) (by simpa using i) λx h=>by
   let(a,d,rfl):=zh.mp h
   show p a d]
  rw[List.filter_eq_self.mpr λx h=>by
   let(a,d,rfl):=zh.mp h;rw[Bool.not_eq_true',decide_eq_false_iff_not];intro z;have:=o a d;rw[z]at this
   cases this]
  rw[map_map];show List.map_congr_left λa d=>j a d
theorem VG{due:List (Str×Nat)}(h:∀q∈due,Pl q.1):prt (Txt.join "," (due.5 B0))=due.5 λq=>[q.1,nT q.2]:=
 OR (λq a z=>(Mr (h q a) z).1 rfl) (λq a=>by unfold B0;simp only[cps_toList_append,mem_append];show .inl (.inr (zz.53 rfl))) λq a=>Yq (h q a)
theorem VH{b:List (Str×Nat×Nat)}(h:∀q∈b,Pl q.1):prt (Txt.join "," (b.5 Cd))=b.5 λq=>[q.1,nT q.2.1,nT q.2.2]:=
 OR (λq a z=>(Qx (h q a) z).1 rfl) (λq a=>by unfold Cd;simp only[cps_toList_append,mem_append];show .inl (.inr (zz.53 rfl))) λq a=>Yr (h q a)
structure Sv(r:Str)(due:Aa)(es:List (Str×Nat×Nat)):Prop where
 rp:Pl r
 rl:r.3<=8
 d:∀q∈due,Pl q.1/\q.1.3<=8/\q.2<10^10
 dl:due.3<=10
 e:∀q∈es,Pl q.1/\q.1.3<=8/\q.2.1<10^10/\q.2.2<10^10
 el:es.3<=6
theorem Sv.A(h:Sv r due b)(a:c∈(Txt.join "," (due.5 B0)).6):c≠46/\c≠59:=LY (λx e c a=>by
 let(q,d,rfl):=zh.mp e
 show Mr (h.d q d).1 a) a
theorem Sv.B(h:Sv r due b)(a:c∈(Txt.join "," (b.5 Cd)).6):c≠46/\c≠59:=LY (λx e c a=>by
 let(q,d,rfl):=zh.mp e
 show Qx (h.e q d).1 a) a
theorem Sv.split(h:Sv r due b):Txt.split (Hl r due b) ";"=[r,Txt.join "," (due.5 B0),Txt.join "," (b.5 Cd)]:=
 EL (c:=59) (cons_ne_nil _ _) λx a=>by
  simp only[mem_cons,not_mem_nil,or_false]at a;let rfl||rfl||rfl:=a
  ·show λz=>(h.rp _ z).2.2.1 rfl
  ·show λz=>(h.A z).2 rfl
  ·show λz=>(h.B z).2 rfl
theorem Sv.nodot(h:Sv r due b):46∉ (Hl r due b).6:=by
 intro d;let e:46∈(Str.join ";" [r,Txt.join "," (due.5 B0),Txt.join "," (b.5 Cd)]).6:=by rw[←StrLaws.glued_eq_join];show d
 let(x,i,a)||(_,a):=(mem_join _ _ _).mp e
 ·simp only[mem_cons,not_mem_nil,or_false]at i;let rfl||rfl||rfl:=i
  ·show(h.rp _ a).2.1 rfl
  ·show(h.A a).1 rfl
  ·show(h.B a).1 rfl
 ·cases zz.mp a
theorem Qy(h:46∉ x.6):Txt.endswith x "."=O:=by
 cases e:Txt.endswith x "." with
 |false=>rfl
 |true=>
  unfold Txt.endswith at e;rw[Bool.and_eq_true,decide_eq_true_eq]at e
  let a:1<=x.3:=by
   have:=e.1;change 0+1<=x.3 at this;omega
  have:=(StrLaws.subAt_one x 46 (x.3-1)).mp (by change x.3-1+1<=_;omega,e.2);show absurd (zM this) h
theorem VJ:Txt.endswith (KQ r due b) "."=L:=W.KT.ends_app _ _
theorem Fk:(KQ r due es).3=(Hl r due es).3+1:=by unfold KQ;rw[Str.length_append];rfl
theorem Qz{z:Str}(d:b<=z.3):(Txt.slice z J (U (b))).6=z.57 b:=by
 have:=FW z (a:=0) (Nat.zero_le b) d;rw[List.drop_zero,Nat.sub_zero]at this;rw[←this]
 let e:Builtin.Str.strSliceIndices J (U (b:Int)) 1 z.3=Builtin.Str.strSliceIndices (U ((0:Nat):Int)) (U (b:Int)) 1 z.3:=by
  unfold Builtin.Str.strSliceIndices;have:max 0 (min 0 (z.3:Int))=0:=by omega
  simp[this]
 unfold Txt.slice;rw[e]
theorem Wy(b:1<=z.3):Txt.slice z J (U (-1))=Txt.slice z J (U ((z.3-1:Nat):Int)):=by
 let e:Builtin.Str.strSliceIndices J (U (-1)) 1 z.3=Builtin.Str.strSliceIndices J (U ((z.3-1:Nat):Int)) 1 z.3:=by
  unfold Builtin.Str.strSliceIndices;have:¬ ((z.3-1:Nat):Int)<0:=by omega
  let e:(-1:Int)+(z.3:Int)=((z.3-1:Nat):Int):=by omega
  simp[this,e]
 unfold Txt.slice;rw[e]
theorem Q0:Txt.slice (KQ r due b) J (U (-1))=Hl r due b:=by
 let a:=Fk (r:=r) (due:=due) (es:=b);rw[Wy qe];show Dj ?_;rw[Qz qe,a];change((Hl r due b ++ ".").6).20 _=_;rw[cps_toList_append,Nat.add_sub_cancel];show List.take_left' rfl
theorem Sv.cut_no(h:Sv r due b)(a:k<(KQ r due b).3):Txt.endswith (Txt.slice (KQ r due b) J (U (k:Int))) "."=O:=by
 show Qy λz=>h.nodot ?_;rw[Qz qe]at z;rw[Fk]at a
 let e:((KQ r due b).6).20 k=(Hl r due b).57 k:=by
  change((Hl r due b ++ ".").6).20 _=_;rw[cps_toList_append];show List.take_append_of_le_length (by change k<=(Hl r due b).cps.58;rw[A3];omega)
 rw[e]at z;show mem_of_mem_take z
theorem Ej(x y:Str):(x++y).3=x.3+y.3:=Str.length_append ..
theorem FZ(h:q.1.3<=8/\q.2<10^10):(B0 q).3<=19:=by
 have:=FY h.2;unfold B0;rw[Fj,Ej,Ej];change _+1+_<=_;omega
theorem OS(h:q.1.3<=8/\q.2.1<10^10/\q.2.2<10^10):(Cd q).3<=30:=by
 let d:=FZ (q:=(q.1,(q.2.1))) (h.1,h.2.1);let a:=FY h.2.2;change(B0 (q.1,(q.2.1)) ++ "=" ++ nT q.2.2).3<=_;rw[Ej,Ej];change _+1+_<=_;omega
theorem Pv:∀{l:lr},(∀x∈l,x.3<=k)->(l.5 (·.3)).sum<=l.3*k
 | [],_=>Nat.zero_le _
 |x::l,h=>by
  let e:=h x (zE ..);let d:=Pv (l:=l) λy a=>h y (zN _ a);rw[map_cons,sum_cons,length_cons,Nat.add_mul,Nat.one_mul];omega
theorem Ms(h:∀x∈l,x.3<=k):(Txt.join ⟨#[c]⟩ l).3<=l.3*(k+1):=by
 let d:=StrLaws.join_length_le ⟨#[c]⟩ l;let a:=Pv h;let e:Txt.join ⟨#[c]⟩ l=Str.join ⟨#[c]⟩ l:=StrLaws.glued_eq_join _ _;rw[e,Nat.mul_add,Nat.mul_one];have:l.3*(⟨#[c]⟩:Str).3=l.3:=Nat.mul_one _;omega
theorem jOk(h:∀x∈l,x.3<=k)(a:l.3*(k+1)<=16777216):JoinOk ⟨#[c]⟩ l=L:=by
 show joinOk_of ?_;let d:=Pv h;have:l.3*(⟨#[c]⟩:Str).3=l.3:=Nat.mul_one _;rw[Nat.mul_add,Nat.mul_one]at a;omega
theorem Sv.lA(h:Sv r due b):∀x∈due.5 B0,x.3<=19:=λx d=>by
 let(q,a,rfl):=zh.mp d;show FZ (h.d q a).2
theorem Sv.lB(h:Sv r due b):∀x∈b.5 Cd,x.3<=30:=λx d=>by
 let(q,a,rfl):=zh.mp d;show OS (h.e q a).2
theorem Sv.lC(h:Sv r due b):∀x∈ [r,Txt.join "," (due.5 B0),Txt.join "," (b.5 Cd)],x.3<=200:=by
 intro x a;let e:(Txt.join "," (due.5 B0)).3<=_:=Ms (c:=44) h.lA;let d:(Txt.join "," (b.5 Cd)).3<=_:=Ms (c:=44) h.lB;let j:=h.dl;let l:=h.el;let i:=h.rl;rw[AO]at e d;simp only[mem_cons,not_mem_nil,or_false]at a;let rfl||rfl||rfl:=a<;>omega
theorem Sv.lT(h:Sv r due b):(KQ r due b).3<=604:=by
 rw[Fk];have:(Hl r due b).3<=_:=Ms (c:=59) h.lC;change _+1<=_;simp only[length_cons,length_nil]at this;omega
end
end Mk
namespace Mk
open PySem L2 MK PySem.NumText
section
variable {β:Type}
theorem LZ{p}{l:List β}{m}(h:l[i]?=U m):(l.20 (i+1)).30 p=(l.20 i).30 p++if p m=L then [m]else []:=by
 rw[zw,h,filter_append];cases e:p m<;>simp[e]
theorem XX(l)(p)(G)(F:Hp->V->β->Prop)(I:∀H z v m,dH H z->F H v m->F z v m)(C:Paired G A l)(E:w a=U (.lst A))(n:l.3<=1000)
  (P:∀v m d(N:Option V->Hp->Prop),m∈l->G v m->dH w d->(∀y j,p m=L->dH d j->F j y m->N (U y) j)->(∀j,p m=im->dH d j->N J j)->g v (EG X as) d λt d=>tt t d λb j=>if b=L then te t j λy T=>N (U y) T else N J j)
  (B:∀o d,dH w d->Paired (F d) o (l.30 p)->R o d):tW (jJ az a) [] iU (bT g tt (i4 te) X as) R w:=
 CL (n:=l.3) (λi o d=>dH w d/\Paired (F d) o ((l.20 i).30 p)) (dH.refl _,.nil) (λi o d ar=>by let(_,e):=ar;show G3 (by
   let ab:=zO p (l.20 i);rw[zr]at ab;rw[e.3]
   omega))
  (λi o d S (s,e)=>((A,A[i]'(by rw[C.3];show S),dY.of (s _ _ E),z7 _),λx z (al,h)=>by
   subst al;let ag:=h A (dY.of (s _ _ E));let(m,D,M):=Mk.Bu C ag;show P x m z (λan j=>(dH w j/\Paired (F j) (match an with|some y=>o++[y]|none=>o) ((l.20 (i+1)).30 p))) (zM D) M s (λy j r u Q=>(s.7 u,?_)) λj r u=>(s.7 u,?_)
   ·rw[LZ D,zf r];show DH (Paired.imp' (λ_ _ q=>I _ _ _ _ u q) e) Q
   ·rw[LZ D,zg (by rw[r];show Bool.false_ne_true),zj]
    show Paired.imp' (λ_ _ q=>I _ _ _ _ u q) e))
  λo d f=>by let(s,e):=f;show ((A,dY.of (s _ _ E),by rw[C.3];simp),by rw[zt]at e;show B o d s e)
theorem ac(l)(f)(T:(l.5 f).29)(G)(F:Hp->V->β->Prop)(hF:∀H r v m,dH H r->F H v m->F r v m)(C:Paired G w l)(B:q a=U (.lst w))(n:l.3<=1000)
  (hs:∀v m d(N:V->V->Hp->Prop)(ab:Hp->Prop),m∈l->G v m->dH q d->(∀y p,dH d p->F p y m->N (.str (f m)) y p)->g v (EG ix as) d λo d=>tt o d λb p=>if b=ii then tk o p λA P=>te o P λy t=>N A y t else ab p)
  (hd:∀h d,dH q d->h.5 (·.1)=l.5 (λm=>(Sum.inr (f m):Key))->Paired (F d) (h.5 (·.2)) l->R h d):tW (jJ az a) [] iU (bT g tt (taD tk te) ix as) R q:=
 CL (n:=l.3) (λi h d=>dH q d/\h.5 (·.1)=(l.20 i).5 (λm=>(Sum.inr (f m):Key))/\Paired (F d) (h.5 (·.2)) (l.20 i)) (dH.refl _,rfl,.nil) (λi h d (_,e,_)=>G3 (by
   let E:=congrArg List.length e;rw[AO,AO,zr]at E
   omega))
  (λi h d hi (s,e,u)=>((w,w[i]'(by rw[C.3];show hi),dY.of (s _ _ B),z7 _),λx r (al,an)=>by
   subst al;let ag:=an w (dY.of (s _ _ B));let(m,M,X):=Mk.Bu C ag;show hs x m r (λA y t=>∃k,A=kV k/\dH q t/\(Bp h k y).5 (·.1)=(l.20 (i+1)).5 (λm=>(Sum.inr (f m):Key))/\Paired (F t) ((Bp h k y).5 (·.2)) (l.20 (i+1))) _ (zM M) X s λy p Q hy=>(Sum.inr (f m),Y,s.7 Q,?_)
   let hn:(Sum.inr (f m):Key)∉ h.5 (·.1):=λz=>by
    rw[e,zh]at z;let(m',I,ez):=z;let(j,J):=getElem?_of_mem I
    let D:j<i:=by
     have:=(z8.mp J).1;rw[zr]at this;omega
    rw[List.getElem?_take_of_lt D]at J;let E:(l.5 f)[j]?=U (f m):=by rw[zx,J,←Sum.inr.inj ez];rfl
    let S:(l.5 f)[i]?=U (f m):=by rw[zx,M];rfl
    have:=(List.getElem?_inj (by rw[AO];omega) T).mp (E.7 S.35);omega
   rw[E3 y (Im hn),zl,zl,zw,M,zl,e]
   show(Y,DH (Paired.imp' (λ_ _ ar=>hF _ _ _ _ Q ar) u) hy)))
  λh d (s,e,u)=>((w,dY.of (s _ _ B),by rw[C.3];simp),by rw[zt]at e u;show hd h d s e u)
end
mutual
def g7(g:En):lr:=ia.30 λx=>(g x).26
noncomputable def gW(g:En)(x:Str):Str×Nat×Nat:=(x,((g x).45 (0,(0))).1,(((g x).45 (0,(0))).2))
def svG(r:Str)(due:Aa)(g:En):Str:=KQ r due ((g7 g).5 (gW g))
theorem VL(h:ip b g):ip (g7 g) g:=
 (List.Pairwise.filter _ (by decide +kernel:ia.29),λx a=>(mem_filter.mp a).1,λx=>by
  unfold g7;rw[mem_filter,←Option.isSome_iff_ne_none]
  show(λz=>z.2,λz=>(h.w x ((h.mem x).53 (Option.isSome_iff_ne_none.mp z)),z)))
theorem Ys(g):PyProof.Rows.sortedS (g7 g)=L:=by
 unfold g7 ia;simp only[filter_cons,List.filter_nil];generalize (g "a").26=b1;generalize (g "ab").26=b;generalize (g "b").26=d;generalize (g qf).26=f;generalize (g "q").26=h;generalize (g "x").26=i;revert b1 b d f h i;decide +kernel
theorem Yt(h:ip b g)(s:PyProof.Rows.sortedS b=L):b=g7 g:=h.uniq (VL h) s (Ys g)
theorem Hm{n:Nat}(h:n<10^10):(n:Int).69<1920:=by
 rw[Int.natAbs_natCast];by_cases a:n=0
 ·subst a;decide
 ·show(Nat.log2_lt a).53 (Nat.lt_trans h qb)
theorem iD(h:n<=1000):n<=sizeLine:=Nat.le_trans h qc
inductive spBk(b C:l7)(vs:ly)(H:Hp)(Q:VK)(d:XK):Prop
 |mk (z) (due) (r) (g) (D) (f:vs=[.ref z.b]) (h:gk b C z due r g D H) (i:Q (.ref z.k) H)
theorem c3:AH [lH] [lH] (defScope IU):=fG
theorem ad(F:eP b lN "Book.kind" IU f m)(e:C5 b l):AT P w b o base eK 1 f m [lH] (spBk l C):=by
 show F.m c3 λvs H Q E h=>?_;let(z,i,r,g,D,rfl,B,q):=h;show(Y,λd A a s j=>?_);show(_,AB (AI (Ad (Z 0) Y)),7,jW e B q)
inductive spSd(b C:l7)(vs:ly)(H:Hp)(Q:VK)(d:XK):Prop
 |mk (z) (due) (r) (g) (D) (h:vs=[.ref z.b]) (i:gk b C z due r g D H) (l:Sv r due ((g7 g).5 (gW g))) (j:∀f,dH H f->Q (.str (svG r due g)) f)
noncomputable abbrev NSd:lr:=["book",lN,oy,mZ]
theorem scSd:AH NSd ["book"] (defScope PV):=fG
theorem ae(F:eP b "saved" "saved" PV a3 fd)(bd:Bl h)(i:C5 b f)(al:Fm b C)(VT:Ma b l)(mE:h "END"=U (.str "." tE))(ar:Mt P w b h base f lN 1 [lH] (spBk f C))(GR:Mt P w b h base C oy 1 [lH] (spRows C))(aM:Mt P w b h base C oz 1 [lH] (spRest C))
  (aC:Mt P w b h base f mQ 1 [lH] (spNs f C)) (aR:Mt P w b h base l lO 1 [lH] (gg l)) (a0:CJ P w b h base f nZ 6 [lH,lK] (spVl f C l cB)) (az:CJ P w b h base f pQ 4 [lH,lK] (spCh f C)):AT P w b h base eK 7 a3 fd ["book"] (spSd f C):=by
 show F.m scSd λvs bk bl be a4=>?_;let(z,a,r,g,D,rfl,G,S,q):=a4;show(Y,λdc bb bm bn u=>?_);let N:=scSd.nd
 show(_,AC (A6 1 N (DF (Z 0) i.cl ar u))
  (AC (TN (i:=2) N rfl (by rfl) [] [] (by rfl) (_) (by rfl) (by rfl) rfl (BG (DF (Z 1) al.cl GR u)) (λ_ _ _ _ _ _=>BJ) (λ_ _ _ _ _ _=>XN (T9 (Z 0) (PN (PP (Z 1) T8)))))
  (AC (NF (i:=3) N rfl (by rfl) ["book"] [U 0] qd (_) (by rfl) rfl (BG (DF (Z 0) i.cl aC u)) (λ_ _ _ _ _ _=>BJ)
   (λ_ _ _ _ _ _=>XN (T9 (Z 0) (PN (PP (DF (Dv (Z 1) i.cl a0 u Hi (fy (Z 0))) VT.cl aR u) (PN (PP (Dv (Z 1) i.cl az u Hi (fy (Z 0))) T8)))))))
  (AB (AI (AX Be (Ft plainAttrs_str slot_str_join type_str_join MD AL (fy (A4 (AA (DF (Z 1) al.cl aM u)
   (fJ (Ft plainAttrs_str slot_str_join type_str_join MD AL (fy (Z 2))) (Ft plainAttrs_str slot_str_join type_str_join MD AL (fy (Z 3)))))))) (BA (v:=.str ".") rfl mE (_,rfl))))))),?_)
 let(dk,d1,d2,hk):=G.ka.ins;show(7,G.no (z,a,r,g,D,Y,G,?_));show(7,z.k,dk,7,hk,(Cb _ _ _),.mk z.k a r Y G.ka λa7 as H1 s1 hl ht=>?_);let jF:=S.dl;show(a7,Y,(_,dY.of hl),QT a _ (λq=>U (V.str (B0 q))) (dJ.vs ht) hl qe (λan m o a1 hm hG Q E=>?_) λo Q v dv=>?_)
 ·let(a2,rfl,hb):=hG;let(_,J,d):=S.d m hm;let h1:=FY d;let B:(Str.empty++m.1).3=m.1.3:=by rw[Fj]
  show(a2,7,eO.of (Q _ _ hb),Y,_,7,_,7,Y,7,m.1,Y,iD qe,iD ?_,7,(m.2:Int),Y,Hm d,iD ?_,iD ?_,E o (dH.refl _))
  ·rw[Ej,B];change _+1<=_;omega
  ·have:=FZ (q:=m) (J,d);show Nat.le_trans this qc
  ·have:=FZ (q:=m) (J,d);show Nat.le_trans this qc
 rw[J6];let s3:=AD (dH.refl o) dv (o:=HO.lst (a.5 λq=>V.str (B0 q)));let ag:(upd o v (HO.lst (a.5 λq=>V.str (B0 q)))) v=U (.lst (a.5 λq=>V.str (B0 q))):=dG;generalize upd o v (HO.lst (a.5 λq=>V.str (B0 q)))=H3 at s3 ag;let p:=s1.7 (Q.7 s3);let A:=G.25 p;show(7,A.no (z,a,r,g,D,Y,A,λl4 ns H4 s4 ab H so=>?_));let en:=Yt H so;subst en;let kH:=H.61;show(l4,Y,(_,dY.of ab),QT (g7 g) _ (λx=>U (V.str (Cd (gW g x)))) (IZ _ _) ab qe (λan x X a1 hx e R E=>?_) λX R y jE=>?_)
 ·subst e;let((n,c),hg):∃a9,g x=U a9:=Option.ne_none_iff_exists'.mp ((H.mem x).mp hx);let ee:gW g x=(x,n,(c)):=by unfold gW;rw[hg];rfl
  let(_,J,d,t):=S.e (x,n,(c)) (ee ▸ List.mem_map_of_mem hx);let s:=A.25 (s4.7 R);let h1:=FY d;let h2:=FY t;let B:(Str.empty++x).3=x.3:=by rw[Fj]
  let l0:(B0 (x,(n))).3<=19:=FZ (J,d);let l1:(Cd (x,n,(c))).3<=30:=OS (J,d,t);simp only at J d t h1 h2;show(7,x,Y,iD qe,iD ?_,7,s.no (7,.mk z a r g D x n c Y s hg λv6 T I h6=>JB h6 ((n:Int),Y,Hm d,iD (Nat.le_trans l0 qc),iD ?_,7,(s.25 I).no (7,.mk z a r g D x n c Y (s.25 I) hg ((c:Int),Y,Hm t,iD (Nat.le_trans l1 qc),iD (Nat.le_trans l1 qc),?_)))))
  ·rw[Ej,B];change _+1<=_;omega
  ·show(B0 (x,(n))++_).3<=_;rw[Ej];change _+1<=_;omega
  ·have:=E T I;rw[ee]at this;show this
 rw[J6];let I:=AD (dH.refl X) jE (o:=HO.lst ((g7 g).5 λx=>V.str (Cd (gW g x))));let M:(upd X y (HO.lst ((g7 g).5 λx=>V.str (Cd (gW g x))))) y=U (.lst ((g7 g).5 λx=>V.str (Cd (gW g x)))):=dG;generalize upd X y (HO.lst ((g7 g).5 λx=>V.str (Cd (gW g x))))=T at I M;let j:=s4.7 (R.7 I);let i6:=j _ _ ag;let k6:=(p.7 j) _ _ hk;let jA:JoinOk "," (a.5 B0)=L:=jOk (c:=44) S.lA (by rw[AO];omega);let jB:JoinOk "," (((g7 g).5 (gW g)).5 Cd)=L:=jOk (c:=44) S.lB (by have:=S.el;rw[AO];omega);let jC:JoinOk ";" [r,Txt.join "," (a.5 B0),Txt.join "," (((g7 g).5 (gW g)).5 Cd)]=L:=jOk (c:=59) S.lC (by change 3*201<=16777216;decide);show(Y,7,z.k,dk,7,k6,(Cb _ _ _),.mk z.k a r Y (G.ka.25 (p.7 j)) (Y,7,",",v,a.5 B0,Y,Y,by rw[i6,map_map];rfl,jA,Y,7,",",y,((g7 g).5 (gW g)).5 Cd,Y,Y,by rw[M,map_map,map_map];rfl,jB,by change 3<=sizeLine;decide,λp7 a5=>(";",p7,[r,Txt.join "," (a.5 B0),Txt.join "," (((g7 g).5 (gW g)).5 Cd)],Y,Y,dG,jC,_,7,Y,iD ?_,q _ ((p.7 j).7 (AD (dH.refl _) a5)))));have:=S.lT;rw[Fk]at this;change(Hl _ _ _).3+1<=_;omega
def AtV(v:V):Prop:=v=.eJ\/∃n,v=.int n/\n.69<1920
inductive spTextInit(b:FG)(f:l7)(vs:ly)(H:Hp)(Q:VK)(g:XK):Prop
 |mk (e C) (v) (h:vs=[.ref e,v]) (i:AtV v) (l:BE b C=L) (j:H e=U (Fl e C J)) (o:NX b C f "at") (m:∀d,H d=J->d≠e->Q .eJ (upd (upd H e (Fl e C (U d))) d (.xd [("at",(v))])))
theorem Pw:AH [lH,"at"] [lH,"at"] (defScope EQ):=fG
theorem OT(F:eP b lU "BadText.__init__" EQ f m)(a:YT P w b B base g):AT P w b B base eK 2 f m [lH,"at"] (spTextInit b g):=by
 let(y,x,o,j,l,q):=a.fn;show F.m Pw λvs H Q E h=>?_;let(e,C,v,rfl,r,u,i,S,k):=h;show(Y,λt A d s p=>?_);show(_,AC (Ae (Jh Y a.78 a.ga a.rd o j p l q .nil Af (AA (Z 0) (fy (QK (_) (Z 1)))))) (AB (QJ (M:=g) (Z 0) (Z 1) Y)),(7,7,r.40 (λz=>.inr (.inr z)) .inl,λz=>(e,C,J,z,Y,u,i,?_)));show(7,7,e,C,Y,i,S,k)
def UqA(H:Hp)(E:XK)(b:l7)(v:V):Prop:=∀e d f,dH H f->H e=J->H d=J->d≠e->f e=U (G5 e b (U d))->f d=U (.xd [("at",(v))])->E (.ref b) (U d) f
structure Q3(P:Program)(w:World)(K:FG)(mg:SV)(base:Heap)(cM cR:l7):Prop where
 cls:mg m8=U (.ref cR)
 make:∃f fd,MkX K cR f/\AT P w K mg base eK 2 f fd [lH,"at"] (spTextInit K cM)/\Binds K fd [lH,"at"] []
 st:NX K cR cM "at"
theorem La(t:BE m f=L)(S:NX m f s "at")(q:AtV v)(l:dH H g)(h:UqA H E f v)(ht:∀Q,Q v g->te w g Q):
  IC f (IB f (spTextInit m s) [] E0 (An te Ce)) E D w g:=by
 apply ht _;show((_),λa p=>(a,f,v,Y,q,t,dG,S,λd r i=>(Y,a,U d,Y,?_,?_)))
 ·rw[AE (Ne.symm i),dG]
 ·have j:g d=J:=by rwa[AE i]at r
  show h a d _ (λb u e=>?_) (none_of l p) (none_of l j) i dG ?_
  ·have o:=l _ _ e;let nb:=AK o p
   rwa[AE nb,AE (AK o j),AE nb,AE nb]
  ·rw[AE i,dG]
theorem Q4{g}{G}{l:List g}(h:Paired (λv m=>∃a,v=.ref a/\G a m) f l):∃d,f=d.5 V.ref/\Paired G d l:=by
 induction h with
 |nil=>show([],rfl,.nil)
 |cons a _ i=>
  let(b,rfl,e):=a;let(d,rfl,h):=i;show(b::d,Y,.cons e h)
abbrev lp(H:Hp)(a:l7)(b:lr):Prop:=H a=U (.lst (b.5 V.str))
inductive spPo(vs:ly)(H:Hp)(Q:VK)(b:XK):Prop
 |mk (x) (g:vs=[.str x]) (h:x.3<=900) (i:∀q f d,dH H d->d q=U (.lst (f.5 V.ref))->Paired (lp d) f (prt x)->Q (.ref q) d)
theorem c4:AH [ml] [ml] (defScope Jy):=fG
theorem af(F:eP b "parts_of" "parts_of" Jy f g):AT P al b mg base eK 1 f g [ml] spPo:=by
 show F.m c4 λvs H Q E h=>?_;let(x,rfl,hx,q):=h;show(Y,λS A C s hr=>?_)
 show(_,AB (AI (BX [] [] (by rfl) (_) (by rfl) Y (BG (Ft plainAttrs_str slot_str_split type_str_split Jn (pv 0) (fy AL)))
  (λ_ _ _ _ _ _=>Fd (AJ Dg (pv 0) AL (AN _))) (λ_ _ _ _ _ _=>bw b rfl (Ft plainAttrs_str slot_str_split type_str_split Jn (pv 0) (fy AL))))),?_)
 let hl:=PyProof.Rows.split_le x ",";show(7,Y,x,",",Y,Y,Y,iD qe,iD qe,λp m=>(p,Y,(_,dY.of dG),?_));let X:=AD (dH.refl _) m (o:=HO.lst ((Txt.split x ",").5 V.str));show XX (Txt.split x ",") (λs=>!decide (s=("":Str))) (λv s=>v=.str s) (λH v s=>∃a,v=.ref a/\lp H a (Txt.split s "=")) (λ_ _ _ _ s k=>by let(a,e,h):=k;show (a,e,s _ _ h)) (IZ _ _) dG qe (λv y d N R e D B M=>?_) λys d D r G j=>?_
 ·subst e;show(7,Y,7,?_);let ey:y.3<=x.3:=PyProof.Rows.part_short R;let ag:=PyProof.Rows.split_le y "=";change if (!decide (V.str y=V.str ""))=L then _ else _
  let w:decide (V.str y=V.str "")=decide (y=("":Str)):=decide_eq_decide.53 (λz=>V.str.inj z,λz=>by rw[z]);rw[w];show BN (λe=>?_) (λe=>?_)
  ·show(7,Y,y,"=",Y,Y,Y,iD qe,iD qe,λab i=>B _ _ e (AD (dH.refl _) i) (ab,Y,dG))
  ·show M _ (by simpa using e) (dH.refl _)
 ·let(u,rfl,Z):=Q4 r;let I:=AD (dH.refl _) j (o:=HO.lst (u.5 V.ref));show q G u _ (X.7 (D.7 I)) dG ?_;unfold prt
  let t:∀{bs:List l7}{l:lr},Paired (λa s=>lp d a (Txt.split s "=")) bs l->Paired (lp (upd d G (HO.lst (u.5 V.ref)))) bs (l.5 λp=>Txt.split p "="):=λh=>by
   induction h with
   |nil=>show .nil
   |cons a _ T=>show .cons (I _ _ a) T
  show t Z
noncomputable def Ek(due:Aa):List (Str×Th):=due.5 λq=>(q.1,(Th.num q.2))
theorem Ir(due):As (Ek due)=due:=by
 let d:∀(l a:Aa),(Ek l).67 (λdue r=>due++[(r.1,(Da due r.2))]) a=a++l:=by
  intro l;induction l with
  |nil=>show λa=>(zj a).35
  |cons q l e=>
   intro a;change(Ek l).67 _ (a++[(q.1,(q.2))])=_;rw[e,append_assoc];rfl
 show d due []
theorem fZ.take(h:fZ due)(i):fZ (due.20 i):=
 (Nat.le_trans (by rw[zr];omega) h.61,λp a=>h.lt p (mem_of_mem_take a),by rw[map_take];show h.nd.sublist (List.take_sublist _ _),λp a=>h.nm p (mem_of_mem_take a))
theorem OU(h:fZ due):FP (Ek due):=by
 intro i r o;unfold Ek at o;rw[zx,z5]at o;let(q,l,rfl):=o
 let e:As ((Ek due).take i)=due.take i:=by
  unfold Ek;rw[←map_take];show Ir _
 rw[e];let v:=(z8.mp l).1;let p:=zM l;let u:=h.len;show(h.take i,by rw[zr];omega,h.nm q p,λz=>?_,trivial,h.lt q p);rw[map_take]at z;let(j,d):=getElem?_of_mem z
 let a:j<i:=by
  have:=(z8.mp d).1;rw[zr]at this;omega
 rw[List.getElem?_take_of_lt a]at d;let t:(due.map (·.1))[i]?=some q.1:=by rw[zx,l];rfl
 have:=(List.getElem?_inj (by rw[AO];omega) h.nd).mp (d.trans t.symm);omega
theorem Yu(e:H l=U (.lst f))(h:Paired (λv m=>∃a,v=.ref a/\H a=U (.tup [.str m.1,.int (m.2:Int)])) f due):RowsAt H l (Ek due):=by
 let(i,rfl,j):=Q4 h;show(i,e,?_)
 let d:∀{bs:List l7}{l:Aa},Paired (λb m=>H b=U (.tup [.str m.1,.int (m.2:Int)])) bs l->Paired (gB H) bs (Ek l):=λh=>by
  induction h with
  |nil=>show .nil
  |cons a _ o=>show .cons (_,a,rfl) o
 show d j
theorem c8(l:ip (g7 g) g)(j:b.5 (·.1)=(g7 g).5 (λx=>(Sum.inr x:Key)))(h:Paired (λv x=>∃a,v=.ref a/\TpE H a (gW g x).2.1 (gW g x).2.2) (b.5 (·.2)) (g7 g)):iu H b g:=by
 show((g7 g,j,l),λx n c o=>?_)
 let D:(b.5 (·.1)).29:=by
  rw[j];show pairwise_map.53 (l.nd.imp λn e=>n (Sum.inr.inj e))
 let(i,q):=getElem?_of_mem ((l.mem x).53 (by rw[o];show λz=>nomatch z));let t:(b.5 (·.1))[i]?=U (Sum.inr x):=by rw[j,zx,q];rfl
 rw[zx,z5]at t;let((k,v),d,rfl):=t;let y:(b.5 (·.2))[i]?=U v:=by rw[zx,d];rfl
 let(m,r,a,u,p):=Bu h y;rw[q]at r;cases r;subst u;let C:gW g x=(x,n,(c)):=by unfold gW;rw[o];rfl
 rw[C]at p;show(a,Hh D d,p)
inductive spBo(b C:l7)(vs:ly)(H:Hp)(Q:VK)(g:XK):Prop
 |mk (k d) (due) (r) (kvs) (f) (i:vs=[.ref k,.ref d]) (j:eR C H k due r) (m:H d=U (.dK kvs)) (l:iu H kvs f) (p:jy due r f) (o:∀z h,dH H h->H z.e=J->H z.l=J->gk b C z due r f [] h->Q (.ref z.b) h)
theorem scBo:AH [lN,mZ,"book"] [lN,mZ] (defScope MU):=fG
theorem ah(F:eP q "book_of" "book_of" MU f r)(s:m mH=gt)(S:Wu P al q m base g C):AT P al q m base eK 3 f r [lN,mZ] (spBo g C):=by
 let(fB,dB,MB,GB,bB):=S.make;let BT:=S.T;show F.m scBo λvs H aM aC h=>?_;let(k,d,due,ag,i,a0,rfl,KA,hd,E',ok,ab):=h;show(Y,λdc ar aR a4 hr=>?_);show(_,AC (A6 2 scBo.nd (Dh MB GB hr Y S.78 bB .nil Af (fy (Z 0)) qc)) (AC (CS (Z 2) (Ay GQ Y s JK (fy (Z 1))) Y) (AB (AI (Z 2)))),7,λp dx G Q X=>?_);let z:=Bn (D:=g) G Q X;show .mk p dx k due ag Y dG (KA.25 z) λdE x B E a1 M Bk=>(Y,7,d,i,Y,.inl ?_,λu t=>?_)
 ·show BQ z G E _ _ hd
 let y:=BQ z G E;let w:=AD (dH.refl B) t (o:=HO.dK i);let D:=dG (H:=B) (a:=u) (o:=HO.dK i);let(j,I):=Bk.bk;generalize upd B u (.dK i)=A at w D;let T:u≠p:=Ne.symm (AK I t);let N:∀b o,A b=U o->b≠p->upd A p (HO.ins g j (FX (.ref k) u x)) b=U o:=λb o e I=>by rwa[AE I]
 let R:=Bk.25 w;let v:=w _ _ I;show(7,p,g,j,7,v,BT.cl,BT.nE,by change 3<1000;decide,7,?_);let l:dH H (upd A p (HO.ins g j (FX (.ref k) u x))):=λb o e=>N b o (w _ _ (y _ _ e)) (AK e G);let(as,O,a2,a3):=R.de;show ab (p,k,u,x) _ l (none_of y t) (none_of z M) ((j,dG),KA.25 l,(i,N _ _ D T,E'.34 λb xs e=>l _ _ e),(as,N _ _ O λan=>?_,?_,a3),ok)
 ·have z':x=p:=an;rw[show(x:l7)=p from z',v]at O;cases O
 ·cases a2;show .nil
structure lh(r:Str)(due:Aa)(g:En):Prop where
 S:Sv r due ((g7 g).5 (gW g))
 ky:ip (g7 g) g
 ok:jy due r g
 dk:fZ due
 d0:0<due.3
 hr:r∈eU
theorem VM{b}{f}:∀{d}{l:List b},Paired (lp H) d (l.5 f)->Paired (λv m=>∃a,v=.ref a/\lp H a (f m)) (d.5 V.ref) l
 | [],[],_=>.nil
 |_::_,_::_,.cons h r=>.cons (_,rfl,h) (VM r)
 | [],_::_,h=>by cases h
 |_::_,[],h=>by cases h
inductive spWk(b:FG)(f C d:l7)(vs:ly)(H:Hp)(Q:VK)(E:XK):Prop
 |eJ (v) (t) (i:vs=[v]) (j:gM b H v t) (l:W.kitOne b t (.type qD)=U O) (m:UqA H E d .eJ)
 |bad (x) (i:vs=[.str x]) (j:Txt.endswith x "."=O) (l:UqA H E d .eJ)
 |mk (r) (due) (g) (i:vs=[.str (svG r due g)]) (j:lh r due g) (l:∀z h,dH H h->H z.e=J->H z.l=J->gk f C z due r g [] h->Q (.ref z.b) h)
noncomputable abbrev NWk:lr:=[ml,"rule",oy,mZ,lN]
theorem scWk:AH NWk [ml] (defScope MW):=fG
theorem ai(F:eP b qH qH MW f fd)(B:Bl l)(mE:l "END"=gl (.str "." tE))(u:Q3 P w b l base cM cT)(KO:Mm P w b l base C)(aM:Fn P w b l base "parts_of" 1 [ml] spPo)(a1:Fn P w b l base "book_of" 3 [lN,mZ] (spBo BC C)):AT P w b l base (gO P w) 9 f fd [ml] (spWk b BC C cT):=by
 let(fX,dX,Z,GX,bX):=u.make;let(fI,dI,MI,GI,gI,kbI):=KO.make;let mX:=u.78;show F.jR scWk (λvs H a3 E h=>?_) (λdc ag bn s H vs a3 E G h=>?_)
 ·let(_,_,rfl)||(_,rfl)||(_,_,_,rfl):=h<;>rfl
 ·have rz:=G7 (P:=P) (w:=w) (ω:=b) (mg:=l) (base:=base) (N:=NWk) (qual:=qH) (scope:=defScope MW) (f:=f) (cd:=dc) (A:=ag) (outer:=bn) (s:=s) (H:=H) (E:=E);let A:=scWk.nd;let bd:eB 3 _:=G.51 qc;let be:eB 7 _:=G.51 qc
  show(_,AC (AV (PW.pt (B8 (Ao (Ai (Br b Y Y B.gZ Y B.str EZ (pv 0)))) (Bc (Ao (Ai (Ft plainAttrs_str slot_str_endswith type_str_endswith WF (pv 0) (fy (BA (v:=.str ".") Y mE (_,Y))))))))) (AB (E8 rz Y Z.78 (E7 Z GX bd Y mX bX .nil Af (fy C6)))) AM)
   (AC (Bo (Ft plainAttrs_str slot_str_split type_str_split Jn (Ey Ji (pv 0) Lm (D9 (DB C7 AF))) (fy AL)) (MN rfl (AQ (BM 1 A) (AQ (BM 2 A) (AQ (BM 3 A) Az)))))
   (AC (A6 4 A (Ja MI GI be rfl KO.78 kbI (fy (R9 [] [] (by rfl) (_) (by rfl) (by rfl) rfl (BG (fP aM G (fy (pv 2)))) (λ_ _ _ _ _ _=>BJ) (λ_ _ _ _ _ _=>AZ (fJ (pv 0) (Ay CB rfl B.int Ea (fy (pv 1))))))) (JG (pv 1) Ll)))
   (AB (AI (fP a1 G (fJ (pv 4) (PQ [] [] (by rfl) (_) (by rfl) (by rfl) (by rfl) rfl (BG (fP aM G (fy (pv 3)))) (λ_ _ _ _ _ _=>BJ) (λ_ _ _ _ _ _=>pv 0)
    (λ_ _ _ _ _ _=>AZ (fJ (Ay CB rfl B.int Ea (fy (pv 1))) (Ay CB rfl B.int Ea (fy (pv 2)))))))))))),?_)
  let(v,t,rfl,ty,D,hU)||(x,rfl,he,hU)||(r,d,g,rfl,S,q):=h
  ·show(7,_,_,_,im,Y,ty,D,7,?_);show Ag (Ag ?_);show La (te:=tC .eJ) Z.78 u.st (.inl Y) (dH.refl _) hU (λ_ z=>z)
  ·show(7,_,_,_,L,Y,.str x,Y,7,AU (7,Y,x,".",Y,Y,7,?_));rw[he];show Ag ?_;show La (te:=tC .eJ) Z.78 u.st (.inl Y) (dH.refl _) hU (λ_ z=>z)
  show(7,_,_,_,L,Y,.str _,Y,7,AU (7,Y,_,".",Y,Y,7,?_));rw[show Txt.endswith (svG r d g) "."=L from VJ];show AU ?_;let hT:=S.S.lT;let hB:=Fk (r:=r) (due:=d) (es:=(g7 g).5 (gW g));show(7,1,Y,-1,Y,7,iD (by change(KQ _ _ _).3<=_;omega),?_);rw[show Txt.slice (svG r d g) gt (gl (-1))=Hl r d ((g7 g).5 (gW g))from Q0];show(Y,_,";",Y,Y,Y,iD qe,by rw[S.S.split];change 3<=sizeLine;decide,λp hp=>?_);rw[S.S.split];let s1:=AD (dH.refl _) hp (o:=HO.lst ([r,Txt.join "," (d.5 B0),Txt.join "," (((g7 g).5 (gW g)).5 Cd)].5 V.str));let h1:=dG (H:=H) (a:=p) (o:=HO.lst ([r,Txt.join "," (d.5 B0),Txt.join "," (((g7 g).5 (gW g)).5 Cd)].5 V.str));generalize upd H p (HO.lst ([r,Txt.join "," (d.5 B0),Txt.join "," (((g7 g).5 (gW g)).5 Cd)].5 V.str))=H1 at s1 h1;let lA:=S.S.lC (Txt.join "," (d.5 B0)) (_);let lB:=S.S.lC (Txt.join "," (((g7 g).5 (gW g)).5 Cd)) (_);let jF:=S.dk.61;let bu:=S.ky.61;show(p,7,h1,Y,_,7,_,7,_,7,Y,?_);show(7,.mk _ Y qe λbk as H2 s2 hl an=>?_);rw[VG λq T=>(S.S.d q T).1]at an;show(bk,Y,(_,dY.of hl),XX d (λ_=>L) (λv m=>∃a,v=.ref a/\lp H2 a [m.1,nT m.2]) (λH v m=>∃a,v=.ref a/\H a=gl (.tup [.str m.1,.int (m.2:Int)])) (λ_ _ _ _ s n=>by let(a,e,h):=n;show (a,e,s _ _ h)) (VM an) hl qe (λv m N az hm Q X R _=>?_) λys N X aC I jE=>?_)
  ·let(a,rfl,ha):=Q;let j:=(S.S.d m hm).2.2;have:=FY j;show(a,7,X _ _ ha,Y,_,7,_,7,Y,7,7,nT m.2,(m.2:Int),Y,qe,Pt j,by change 2<=sizeLine;decide,λp4 a7=>R _ _ Y (AD (dH.refl _) a7) (p4,Y,dG))
  rw[List.filter_eq_self.mpr λ_ _=>rfl]at aC;let s4:=AD (dH.refl _) jE (o:=HO.lst ys);let(ra,J,al):RowsAt (upd N I (HO.lst ys)) I (Ek d):=Yu dG (Paired.imp' (λ_ _ a4=>by let(a,e,h):=a4;show (a,e,s4 _ _ h)) aC);generalize upd N I (HO.lst ys)=H4 at s4 J al;let bl:=s2.7 (X.7 s4);show(7,?_);intro k dk D a5 er;let sN:=Bn (D:=C) D a5 er;show(k,dk,I,Ek d,r,Y,dG,(ra,sN _ _ J,Bh (eQ.of sN) al),by unfold Ek;rw[AO];show S.d0,by unfold Ek;rw[AO];omega,OU S.dk,S.hr,λH5 sd KA=>(Y,?_));rw[Ir]at KA;let s5:=BQ sN D sd;let bm:=bl.7 s5;show(7,7,.mk _ Y qe λl2 bs H6 s6 a0 aR=>?_);rw[VH λq T=>(S.S.e q T).1,map_map]at aR;show(l2,Y,(_,dY.of a0),ac (g7 g) id (by rw[map_id];show S.ky.nd) (λv x=>∃a,v=.ref a/\lp H6 a [x,nT (gW g x).2.1,nT (gW g x).2.2]) (λH v x=>∃a,v=.ref a/\TpE H a (gW g x).2.1 (gW g x).2.2) (λ_ _ _ _ s c=>by let(a,e,h):=c;show (a,e,s _ _ h)) (VM aR) a0 qe (λv x y az N0 hx Q s7 R=>?_) λi y s7 a6 a8 M a9=>?_)
  ·let(a,rfl,ha):=Q;let(_,_,j,U):=S.S.e (gW g x) (List.mem_map_of_mem hx);let l1:=FY j;let l2:=FY U;show(a,7,s7 _ _ ha,Y,_,7,_,7,_,7,Y,7,7,_,((gW g x).2.1:Int),Y,qe,Pt j,7,_,((gW g x).2.2:Int),Y,qe,Pt U,by change 2<=sizeLine;decide,λp9 bb=>R _ _ (AD (dH.refl _) bb) (p9,Y,dG))
  let s8:=AD (dH.refl _) a9 (o:=HO.dK i);let ED:iu (upd y M (HO.dK i)) i g:=c8 S.ky a6 (Paired.imp' (λ_ _ a2=>by let(a,e,h):=a2;show (a,e,s8 _ _ h)) a8);let h8:=dG (H:=y) (a:=M) (o:=HO.dK i);generalize upd y M (HO.dK i)=H8 at s8 ED h8;let ar:=s6.7 (s7.7 s8);let ab:=s1.7 (bm.7 ar);show .mk k M d r i g Y (KA.25 ar) h8 ED S.ok λz H9 s9 ne nl Bk=>q z H9 (ab.7 s9) (none_of ab ne) (none_of ab nl) Bk
noncomputable def jq:List Pos:=[(647,21,647,51),(663,25,663,49),(666,25,666,48)]
noncomputable abbrev q1:Str:="law.<locals>." ++ lP
noncomputable abbrev Yv:lr:=[ma,lI,lJ,mf,mj,m9,"_law_good",pE,"_law_third","_law_turn","_law_bad","_law_other","_law_part"]
theorem iq:AH Yv [ma] (defScope Kb):=fG
theorem aj(h:Ca x=L):Pl x/\x.3<=8:=by
 unfold Ca at h;simp only[Bool.and_eq_true,decide_eq_true_eq,all_eq_true]at h;let((i,e),a):=h;show(λc d=>?_,qe);have:=a c d;unfold De at this;simp only[Bool.and_eq_true,decide_eq_true_eq]at this;omega
theorem ak(h:x∈ia):Pl x/\x.3<=8:=by
 have:=Ml x h;show(λc d=>?_,this.2.2.1);let a:=all_eq_true.mp this.2.2.2 c d;unfold Dc at a;simp only[Bool.and_eq_true,decide_eq_true_eq]at a;omega
theorem am(h:r∈eU):Pl r/\r.3<=8:=by
 let a:∀r∈eU,(r.36 λc=>decide (c≠44)&&(decide (c≠46)&&(decide (c≠59)&&decide (c≠61))))=L/\r.3<=8:=by decide +kernel
 let(i,d):=a r h;show(λc e=>?_,d);have:=all_eq_true.mp i c e;simpa[Bool.and_eq_true]using this
theorem lh.of(B:gk f C z due r g D H)(o:∀x n c,g x=U (n,(c))->c<=100)(dk:fZ due)(F:0<due.3)(j:r∈eU):lh r due g:=by
 let(u,_,E):=B.en;let(I,_,i):=E.ks;let h:=VL i;let(t,v):=am j;show((t,v,λq e=>?_,dk.61,λq e=>?_,by rw[AO];show h.61),h,B.ok,dk,F,j)
 ·let(a,b):=aj (dk.nm q e).1;have:=dk.lt q e;show(a,b,Nat.lt_trans this qc)
 ·let(x,l,rfl):=zh.mp e;let(a,b):=ak (h.w x l);let((n,c),d):∃y,g x=U y:=Option.ne_none_iff_exists'.mp ((h.mem x).mp l);let G:=(B.ok x n c d).1;let p:=o x n c d;show(a,b,?_,?_)
  ·show((g x).45 (0,(0))).1<_;rw[d];show Nat.lt_trans G qc
  ·show((g x).45 (0,(0))).2<_;rw[d];show Nat.lt_of_le_of_lt p qc
theorem VN(o:KB g f b 2)(h:∀p i,Nx H i->i p=U (.tup [.str lR,.str m8,v])->Q (.ref p) i):UqA H (F2 g f m Q) b v:=λe j y t _ _ _ _ l=>(b,rfl,λu a=>.inr (2,j,v,o,rfl,by
 let d:j≠u:=λz=>by rw[←z,l]at a;cases a
 unfold del;rw[zg d]
 show l,λp r x q=>h p r (Nx.exc t a x) q))
structure Lw(P:Program)(w:World)(K:FG)(mg:SV)(base:Heap)(BC C bd cN cT cM c P0:l7)(ec:Nat->l7)(T:List (l7×Str×List Pos)):Prop where
 hC:W.CodeHd base c P0
 hBu:base.48 mg P0
 TB:TdB P w K mg base ec cM
 hT:(P0,q1,(jq))∈T
 un:∀p∈T,∀q∈T,q.1=p.1->q=p
 B:Bl mg
 BT:C5 K BC
 BO:Wu P w K mg base BC C
 KO:Mm P w K mg base C
 neK:W.findIn K (.ref C) ph=U (U (.builtin mP))
 hm:W.mroIn K C (.type nI)=U L
 neB:W.findIn K (.ref BC) ph=U (U (.builtin mP))
 hmB:W.mroIn K BC (.type nI)=U L
 dsB:W.subIn K (.type mH) (.ref BC)=U O
 EPN:Fz K ec cM cN 10
 EFT:KB K ec cT 2
 GE:Mt P w K mg base C oo 2 [lH,me] (spEqK C)
 GEB:Mt P w K mg base BC oo 3 [lH,me] (spBe BC C)
 GRd:Fn P w K mg base pK 2 [ma,mi] (spRounds K)
 GLb:Fn P w K mg base qw 13 [lI,mi] (spLb BC C bd T)
 GRo:Fn P w K mg base mx 2 [lI,mw] spRollB
 GSd:Fn P w K mg base "saved" 7 ["book"] (spSd BC C)
 GWk:kh P w K mg base qH 9 [ml] (spWk K BC C cT)
 GBl:Fn P w K mg base oV 7 [lJ,mf] (spBl BC C)
 GBk:Mt P w K mg base BC lN 1 [lH] (spBk BC C)
 GTk:CJ P w K mg base BC pG 3 [lH] (spTk BC C cN)
 GPu:CJ P w K mg base BC "put" 7 [lH,lK,mQ] (spPu BC C)
abbrev XLw(P:Program)(w:World)(g:FG)(b:SV)(base:Heap)(c f:l7)(A:Around)(d:List Env)(s:lG)(H:Hp)(E:XK):Cx:=(B9 eK P w g b base Yv pR (defScope Kb) f (.ref c) A d s H E).jv
theorem Lw.td(b:Lw P w d j base l C m o p h c g i T):Yk (XLw P w d j base c f A q s H E) d q1 i h c g jq:=b.TB.at b.hC b.hBu (by rfl)
structure Rp where
 (a t:l7) (y:Zw) (due:Aa) (r:Str) (g:En) (D:jj) (F:List En) (H4:Hp)
noncomputable def Rp.st(p:Rp)(f:Nat->Option V):St:=[U (.ref p.a),U (.ref p.y.d),U (.ref p.y.z.b),U (.ref p.t),U (.ref p.y.u),U (.str p.r),U (.bl L),f 7,f 8,f 9,f 10,f 11,f 12]
noncomputable abbrev stF(f:Nat->Option V)(i:Nat)(v:V):Nat->Option V:=λj=>if j=i then U v else f j
structure gS(BC C bd:l7)(T:List (l7×Str×List Pos))(p:Rp):Prop where
 N:Nd bd p.y
 W:Ws BC C bd T p.y p.55 p.r p.g p.D p.F p.H4
 te:p.t≠p.y.z.e
 tb:gH p.H4 p.t p.g
 dk:fZ p.55
 dl:0<p.due.3
 ln:p.due.3<=9
 wd:∀x∈p.due.5 (·.1),x∈fQ
 hr:p.r∈eU
 cn:∀x n c,p.g x=U (n,(c))->c<=31
 nq:p.g "q"=J
def Sk(d:l7)(H f:Hp):Prop:=∀b o,H b=U o->b≠d->(∀g,o≠ .hZ g)->(∀h,o≠ .ext h)->f b=U o
theorem Sk.trans(a:Sk d H f)(b:Sk d f l):Sk d H l:=λc o e j i h=>b c o (a c o e j i h) j i h
theorem Sk.same(s:dH H f):Sk d H f:=λb o e _ _ _=>s b o e
theorem Sk.nx(s:Nx H f):Sk d H f:=λb o e _ _ n=>s b o e λC a=>n _
theorem Sk.fV(s:eE d H f):Sk d H f:=λb o e n _ _=>s.old b o e n
theorem Sk.kt(s:Kt H f):Sk d H f:=λb o e _ n _=>s b o e n
theorem Sk.kp(s:Sk y.d H f):Kp y H f:=λb o e n _ _ _ d a=>s b o e n d a
theorem gk.sk(T:H d=gl (.lst f))(F:z.l≠d)(s:Sk d H m)(h:gk w C z due r g D H):gk w C z due r g D m:=by
 let kp:∀{b:l7}{o:HO},H b=gl o->(∀f,o≠ .lst f)->(∀G,o≠ .hZ G)->(∀y,o≠ .ext y)->m b=gl o:=λ{b o}e n u Q=>s b o e (λz=>by rw[z,T]at e;show n _ (Option.some.inj e).35) u Q;let j:∀b f,H b=gl (.tup f)->m b=gl (.tup f):=λb f e=>kp e (λ_ z=>nomatch z) (λ_ z=>nomatch z) (λ_ z=>nomatch z);let((S,x),p,(E,J,L),(R,l,O,I),U):=h;let(i,t,M,N,v,a,b,c):=p.ex;show((S,kp x (λ_ z=>nomatch z) (λ_ z=>nomatch z) (λ_ z=>nomatch z)),⟨(i,t,M,N,v,kp a (λ_ z=>nomatch z) (λ_ z=>nomatch z) (λ_ z=>nomatch z),kp b (λ_ z=>nomatch z) (λ_ z=>nomatch z) (λ_ z=>nomatch z),kp c (λ_ z=>nomatch z) (λ_ z=>nomatch z) (λ_ z=>nomatch z))⟩,(E,kp J (λ_ z=>nomatch z) (λ_ z=>nomatch z) (λ_ z=>nomatch z),L.34 j),(R,s _ _ l F (λ_ z=>nomatch z) (λ_ z=>nomatch z),Paired.imp' (λ_ _ q=>q.34 j) O,I),U)
structure ik(BC C bd:l7)(T:List (l7×Str×List Pos))(p:Rp)(H:Hp):Prop where
 sk:Sk p.y.d p.H4 H
 W:Ws BC C bd T p.y p.55 p.r p.g p.D p.F H
theorem ik.same(g:gS b C d T p)(W:ik b C d T p H)(s:dH H f):ik b C d T p f:=(W.sk.trans (.same s),W.W.same g.N s)
theorem ik.nx(g:gS b C d T p)(W:ik b C d T p H)(s:Nx H f):ik b C d T p f:=(W.sk.trans (.nx s),W.W.nx g.N s)
theorem ik.fV(g:gS b C d T p)(W:ik b C d T p H)(s:eE p.y.d H f):ik b C d T p f:=(W.sk.trans (.fV s),W.W.fV g.N s)
theorem ik.td(f:Lw P w y v base b C g r s o c l u T)(m:gS b C g T p)(W:ik b C g T p H)(j:LA l H a)(i:eV a l q1 jq):Kt H a/\ik b C g T p a:=by
 let(k,d):=W.W.td m.N f.hT (λq h e=>f.un _ f.hT q h e) j i;show(k,W.sk.trans (.kt k),d)
theorem gS.tbk(f:gS g C i T p)(W:ik g C i T p H):gH H p.t p.g:=by
 let(a,b,d):=f.W.di;show f.tb.34 (λb h e=>W.sk b _ e (λz=>by rw[z,d]at e;cases e) (λ_ z=>nomatch z) λ_ z=>nomatch z) λ_ e=>W.sk _ _ e (λz=>by rw[z,d]at e;cases e) (λ_ z=>nomatch z) λ_ z=>nomatch z
def Fr(p:Rp)(a:l7):Prop:=∀o,p.H4 a=U o->(∀b,o≠ .hZ b)->(∀d,o≠ .ext d)->False
theorem ik.fr(W:ik f C g T p H)(h:H b=J):Fr p b:=λo e i d=>by
 let(x,y,a):=W.W.di;rw[W.sk b o e (λz=>by rw[z,a]at h;cases h) i d]at h;cases h
structure Ot(BC C:l7)(p:Rp)(due:Aa)(z:Za)(g:En)(D:jj)(H:Hp):Prop where
 B:gk BC C z due p.r g D H
 ne:Fr p z.e
 nl:Fr p z.l
theorem Ot.sk(m:gS f C o T p)(W:ik f C o T p H)(h:Ot f C p due z g D H)(s:Sk p.y.d H l):Ot f C p due z g D l:=by
 let(a,b,i):=W.W.di;let(e,j,d):=m.W.di;show(h.B.sk i (λz=>h.nl (.lst [.int e,.int j]) (z ▸ d) (λ_ y=>nomatch y) λ_ y=>nomatch y) s,h.ne,h.nl)
theorem ik.eff(f:gS m C A T p)(W:ik m C A T p H)(h:Ot m C p due z g D H)(s:jz z H w):ik m C A T p w:=by
 let(a,b,J):=W.W.di;let(M,L,d):=f.W.di;let t:∀{b:l7}{o:HO},p.H4 b=U o->(∀x,o≠ .hZ x)->(∀v,o≠ .ext v)->b≠z.e/\b≠z.l:=λ{b o}e i j=>(λy=>h.ne _ (y ▸ e) i j,λy=>h.nl _ (y ▸ e) i j);let u:=t d (λ_ z=>nomatch z) λ_ z=>nomatch z;let sk:Sk p.y.d p.H4 w:=λb o e n i j=>s b o (W.sk b o e n i j) (t e i j).1 (t e i j).2;let(r,ht,E,G):=f.W.tb;let I:∀b l,p.H4 b=U (.tup l)->w b=U (.tup l):=λb l e=>sk b _ e (λz=>by rw[z,d]at e;cases e) (λ_ z=>nomatch z) λ_ z=>nomatch z;show(sk,f.W.gen f.N sk.kp (a,b,s _ _ J u.1 u.2) (f.W.B.sk d (Ne.symm f.N.dl) sk) (r,sk _ _ ht (Ne.symm f.N.dt) (λ_ z=>nomatch z) (λ_ z=>nomatch z),Paired.imp' (λ_ _ q=>q.34 I λ_ e=>sk _ _ e (λz=>by rw[z,d]at e;cases e) (λ_ z=>nomatch z) λ_ z=>nomatch z) E,G) λq F=>eV.but (W.W.tabs q F) (λx e=>h.B.kp s e) λb v e=>h.B.kp s e)
abbrev Pr:=Rp->(Nat->Option V)->Hp->Prop
def Tri(X:Cx)(b C d:l7)(T:List (l7×Str×List Pos))(st:Stmt)(A B:Pr):Prop:=∃t,PSw X st t/\∀p,gS b C d T p->∀D f H,ik b C d T p H->A p f H->(∀h g,ik b C d T p g->B p h g->D.nx (p.st h) g)->t D (p.st f) H
def Wz(X:Cx)(b C d:l7)(T:List (l7×Str×List Pos))(g:List Stmt)(A B:Pr):Prop:=∃t,il X g t/\∀p,gS b C d T p->∀D f H,ik b C d T p H->A p f H->(∀i h,ik b C d T p h->B p i h->D.nx (p.st i) h)->t D (p.st f) H
theorem Tri.cons{C}{e g}{T}{X}{st}{d}{A B i}(a:Tri X e C g T st A B)(b:Wz X e C g T d B i):Wz X e C g T (st::d) A i:=by
 let(t,a,r):=a;let(u,b,o):=b;show(_,DU a b,λp m D f H W h post=>r p m _ f H W h λl v j q=>o p m D l v j q post)
theorem Tri.one(a:Tri X b C f T st A B):Wz X b C f T [st] A B:=by
 let(t,a,d):=a;show(_,Di a,d)
abbrev Hn(P:Program)(w:World)(d:FG)(b:SV)(base:Heap)(g C h c:l7)(T:List (l7×Str×List Pos))(i:Nat)(A B:Pr):Prop:=∀f j l s H E,eB 13 (XLw P w d b base c f j l s H E).A->Tri (XLw P w d b base c f j l s H E) g C h T (Yj (Qs (Yj (defBody Kb) 0)) i) A B
theorem gS.asc(b:gS d C f T p):ko p.55:=λq a=>(b.dk.nm q a).2.1
theorem gS.sav(b:gS d C f T p):lh p.r p.55 p.g:=lh.of b.W.B (λx n c e=>Nat.le_trans (b.cn x n c e) qc) b.dk b.dl b.hr
abbrev Rp.tx(p:Rp):Str:=svG p.r p.55 p.g
abbrev A1:Pr:=λ_ _ _=>True
abbrev B1:Pr:=λp f _=>f 7=U (.str p.tx)
structure Wo(BC C:l7)(p:Rp)(z:Za)(g:En)(D:jj)(f:Nat->Option V)(H:Hp):Prop where
 f7:f 7=U (.str p.tx)
 jN:f 11=U (.ref z.b)
 ot:Ot BC C p p.55 z g D H
theorem Wo.sk(h:Wo b C p z g D f H)(i:gS b C j T p)(W:ik b C j T p H)(s:Sk p.y.d H d):Wo b C p z g D f d:=(h.f7,h.jN,h.ot.sk i W s)
abbrev B2(b C:l7):Pr:=λp f H=>∃z,Wo b C p z p.g [] f H
theorem t1(g:Lw P w l j base b C i q r o c m u T):Hn P w l j base b C i c T 1 A1 B1:=λf e a s H E d=>by
 show(_,⟨A6 7 iq.nd (fP g.GSd d (fy (Z 2)))⟩,λp v D f H W _ post=>?_);show(7,.mk p.y.z p.55 p.r p.g p.D Y W.W.B v.sav.S λh s=>post (stF f 7 (.str p.tx)) _ (W.same v s) Y)
theorem t2(g:Lw P w q o base b C m v y u c r A T):Hn P w q o base b C m c T 2 B1 (B2 b C):=λf j a s H E e=>by
 show(_,⟨A6 11 iq.nd (k4 g.GWk e Hi (fy (Z 7)))⟩,λp G D f H W d post=>?_);show(_,congrArg U d,.mk p.r p.55 p.g Y G.sav λz l s i h B=>post (stF f 11 (.ref z.b)) _ (W.same G s) (z,d,Y,B,W.fr i,W.fr h))
theorem t3(g:Lw P w m B base b C A M N I c G Q T):Hn P w m B base b C A c T 3 (B2 b C) (B2 b C):=λf v a s H E j=>by
 let(q,dE,e,i,o):=g.GEB.ex;show(_,⟨AV (PW.pt (B8 (Ao (Ai (Z 6))) (B8 (Ao (Ai (Br m zd zd g.B.gZ zd g.B.str EZ (Z 7)))) (Bc (Ao (AJ (G4 e (j.51 qc) o i) (Z 11) (Z 2) (AN _))))))) (AB AY) AM⟩,λp R D f H W y post=>?_);let(z,Y):=y;show(7,7,AU (_,congrArg U Y.f7,_,_,_,L,zd,.str _,zd,7,AU ?_));let(l,h):=Y.ot.B.bk;let(u,d):=W.W.B.bk;show(_,congrArg U Y.jN,7,z.b,l,_,p.y.z.b,zd,zd,h,.inl (_,_,d),.mk z p.y.z.b p.55 p.r p.g [] zd Y.ot.B R.asc (.inr (p.y.z,p.55,p.r,p.g,p.D,zd,W.W.B,R.asc,λt r s ht=>(t,zd,7,?_))));rw[ht.53 ((rfl,rfl),rfl)];show AU (post _ _ (W.same R s) (z,Y.sk R W (.same s)))
theorem t4(b:Lw P w s q base g C m S X B c A ec T):Hn P w s q base g C m c T 4 (B2 g C) (B2 g C):=λf R ag al H E d=>by
 let(G,dE,t,u,x):=b.GE.ex;show(_,⟨AV (PW.pt (B8 (Ao (Ai (fP b.GBl d (fJ (Z 11) (Z 3))))) (Bc (AJ (E6 t (d.51 qc) x u b.neK b.hm) (DF (Z 11) b.BT.cl b.GBk d) (DF (Z 2) b.BT.cl b.GBk d) (AN _))))) (AB AY) AM⟩,λp ab D f H W k post=>?_);let(z,Y):=k;show(_,congrArg U Y.jN,7,.mk z p.55 p.r p.g [] p.t zd Y.ot.B (ab.tbk W) ?_ λQ o=>(7,AU ?_))
 ·show λe=>by
   let(j,v,_):=ab.tb;show Y.ot.ne (.dK j) (e ▸ v) (λ_ y=>nomatch y) λ_ y=>nomatch y
 let B1:=Y.ot.B.25 o;let a:=W.same ab o;let(dk,N,I,i):=B1.ka.ins;let(h,M,J,l):=a.W.B.ka.ins;show(_,congrArg U Y.jN,B1.no (.mk z p.55 p.r p.g [] zd B1 (7,a.W.B.no (.mk p.y.z p.55 p.r p.g p.D zd a.W.B (z.k,dk,_,p.y.z.k,h,7,zd,i,l,z.k,p.y.z.k,p.55,p.r,zd,B1.ka,ab.asc,.inr (p.55,p.r,a.W.B.ka,ab.asc,λF r=>(7,7,?_)))))));rw[zH (rfl,rfl)];show(7,AU (post _ _ (a.25 ab r) (z,Y.sk ab W (.same (o.7 r)))))
theorem t5(b:Lw P w s B base g C A cN cT cM c R ec T):Hn P w s B base g C A c T 5 (B2 g C) (B2 g C):=λf Ar x az H E h=>by
 show(_,⟨AV (AJ (IA s zd h.41) (Gq (k:=8) b.td (h.51 qc) 0 ["_law_other"] [11] (λas ar A' e an ag E h=>U7 (Z 0) b.BT.cl b.GTk h DS)) (AZ (fJ AL AL)) (AN _)) (AB AY) AM⟩,λp S D f H W m post=>?_);let(z,Y):=m;show(W.W.tabs _ b.hT,λal M N=>?_);let(I,u):=W.td b S M N;let i:=Y.sk S W (.kt I);show(_,congrArg U i.jN,i.ot.B.no (.no z p.55 p.r p.g zd i.ot.B (u.W.uq S.N b.EPN λq1 l nb Q ab=>(by trivial,λy q=>?_))));let j:=AD (dH.refl l) q (o:=iz nz);let F:=dG (H:=l) (a:=y) (o:=iz nz);generalize upd l y (iz nz)=X at j F;let(G,v,r,d,t):Dq s X (.ref q1) (.ref y):=.two (j _ _ ab) F qd;show(G,G,v,r,d,d,7,?_);rw[t];show AU (post _ _ ((u.nx S nb).25 S j) (z,i.sk S u ((Sk.nx nb).7 (.same j))))
theorem t6(b:Lw P w B A base g C m R S Q c N X T):Hn P w B A base g C m c T 6 (B2 g C) (B2 g C):=λf M h s H E e=>by
 let(G,dE,o,r,y):=b.GEB.ex;show(_,⟨AV (AJ (E6 o (e.51 qc) y r b.neB b.hmB) (k4 b.GWk e Hi (fy (fP b.GSd e (fy (Z 11))))) (Z 2) (AN _)) (AB AY) AM⟩,λp ab D f H W k post=>?_);let(z,Y):=k;show(_,congrArg U Y.jN,.mk z p.55 p.r p.g [] zd Y.ot.B ab.sav.S λag v=>.mk p.r p.55 p.g zd ab.sav λi F l _ _ B2=>?_);let a:=v.7 l;let d:=W.same ab a;let(x,q):=B2.bk;let(u,j):=d.W.B.bk;show(7,i.b,x,_,p.y.z.b,u,7,zd,q,j,.mk i p.y.z.b p.55 p.r p.g [] zd B2 ab.asc (.inr (p.y.z,p.55,p.r,p.g,p.D,zd,d.W.B,ab.asc,λt I s ht=>(t,zd,7,?_))));rw[ht.53 ((rfl,rfl),rfl)];show(7,AU (post _ _ (d.25 ab s) (z,Y.sk ab W (.same (a.7 s)))))
abbrev B7(b C:l7):Pr:=λp f H=>∃z n,Wo b C p z (ir p.g "q" n) [("q",(p.g "q"))] f H
theorem t7(m:Lw P w j A base g C s cN cT cM c P0 ec T):Hn P w j A base g C s c T 7 (B2 g C) (B7 g C):=λf ag t an H E R=>by
 show(_,⟨Ae (Dv (Z 11) m.BT.cl m.GPu R Hi (fJ AL (A4 (fy (Am (Ac j Y) (Am (Ak j Y) (Z 4) AF (λ_ _=>rfl)) AF (λ_ _=>rfl))))))⟩,λp ab D f H W (z,X) post=>?_);let(bs,I,ht):=W.W.du
 let(i,d,F):∃i d,p.55=i::d:=by
  cases e:p.55 with
  |nil=>have:=ab.dl;rw[e]at this;show absurd this qc
  |cons a b=>show(a,b,rfl)
 let(q,v,rfl,J):∃q v,bs=q::v/\H q=U (.tup [.str i.1,.int (i.2:Int)]):=by
  rw[F]at ht;cases ht with
  |cons h _=>show(_,_,rfl,h)
 show(_,congrArg U X.jN,X.ot.B.no (7,p.y.u,_,0,7,Y,dY.of I,BW (j:=0) Y,q,_,0,7,Y,eO.of J,Y,by change 1<=sizeLine;decide,λl Q=>?_));let r:=AD (dH.refl H) Q (o:=HO.lst [V.str i.1]);let y:=dG (H:=H) (a:=l) (o:=HO.lst [V.str i.1]);generalize upd H l (HO.lst [V.str i.1])=H1 at r y;let u:=X.ot.sk ab W (.same r);let M:=W.same ab r;show .mk z p.55 p.r p.g [] "q" l [i.1] Y u.B qb qc y (by change 1<=100;decide,λx N=>?_,ab.dk.lt) λG S B=>post f G (M.eff ab u S) (z,_,X.f7,X.jN,B,X.ot.ne,X.ot.nl);rw[zz.mp N,F];show zE ..
theorem Yw(h:g "q"=J):ir g "q" n≠g:=λz=>by
 have:=congrFun z "q";rw[h]at this;unfold ir Dw at this;simp at this
theorem c9(b:gS d C h T p)(g:Wo d C p z (ir p.g "q" n) D f H):lh p.r p.55 (ir p.g "q" n):=lh.of g.ot.B (λx m c e=>by
 unfold ir Dw at e;rw[b.nq]at e;by_cases a:x="q"
 ·rw[zf a]at e;cases e;show Nat.zero_le _
 ·rw[zg a]at e
  show Nat.le_trans (b.cn x m c e) qc) b.dk b.dl b.hr
theorem t8(b:Lw P w A m base g C l cN cT cM c P0 ec T):Hn P w A m base g C l c T 8 (B7 g C) (B7 g C):=λf X al s H ab a=>by
 let(Z,dE,u,x,I):=b.GEB.ex;show(_,⟨AV (PW.pt (B8 (AJ (G4 u (a.51 qc) I x) (pv 11) (pv 2) (AN _)) (B8 (Ao (Ai (fP b.GBl a (fJ (pv 2) (pv 3))))) (Bc (AJ (E6 u (a.51 qc) I x b.neB b.hmB) (k4 b.GWk a Hi (fy (fP b.GSd a (fy (pv 11))))) (pv 11) (AN _)))))) (AB AY) AM⟩,λp B D f H W k post=>?_);let(z,n,Y):=k;let S:=c9 B Y;let(R,M):=Y.ot.B.bk;let(dy,J):=W.W.B.bk;show(_,congrArg U Y.jN,7,z.b,R,_,p.y.z.b,zd,zd,M,.inl (_,_,J),.mk z p.y.z.b p.55 p.r _ _ zd Y.ot.B B.asc (.inr (p.y.z,p.55,p.r,p.g,p.D,zd,W.W.B,B.asc,λt H1 F ht=>(t,zd,7,?_))))
 let E:t=O:=by
  cases t with
  |false=>rfl
  |true=>show absurd (ht.mp rfl).2 (Yw B.nq)
 subst E;let e:=W.same B F;show AU (7,7,.mk p.y.z p.55 p.r p.g p.D p.t zd e.W.B (B.tbk e) B.te λag r=>(7,AU ?_));let q:=e.25 B r;let j:=Y.sk B W (.same (F.trans r));show(_,congrArg U j.jN,.mk z p.55 p.r _ _ zd j.ot.B S.S λH3 G=>.mk p.r p.55 _ zd S λo H4 v _ _ B2=>?_);let y:=q.25 B (G.7 v);let d:=j.sk B q (.same (G.7 v));let(h,N):=B2.bk;let(i,Q):=d.ot.B.bk;show(_,congrArg U d.jN,o.b,h,_,z.b,i,7,zd,N,Q,.mk o z.b p.55 p.r _ [] zd B2 B.asc (.inr (z,p.55,p.r,_,7,d.ot.B,B.asc,λt H' s ht=>(t,zd,7,?_))));rw[ht.53 ((rfl,rfl),rfl)];show(7,AU (post _ _ (y.25 B s) (z,n,d.sk B y (.same s))))
theorem t9(g:Lw P w m l base b C j u v r c o y T):Hn P w m l base b C j c T 9 (B7 b C) B1:=λf i a s H E e=>by
 show(_,⟨AV (AJ Dg (fP g.GSd e (fy (Z 2))) (Z 7) (AN _)) (AB AY) AM⟩,λp A D f H W q post=>?_);let(z,n,Y):=q;show(7,.mk p.y.z p.55 p.r p.g p.D zd W.W.B A.sav.S λh d=>(_,congrArg U Y.f7,zd,7,?_));rw[zH rfl];show AU (post _ _ (W.same A d) Y.f7)
theorem XY(h:fZ due)(l:due.3<=9)(f:∀x∈due.5 (·.1),x∈fQ):fZ (due++[(("ZZ":Str),(1))]):=by
 show(by rw[zY];change _+1<=10;omega,λq d=>?_,?_,λq d=>?_)
 ·let d||d:=mem_append.mp d
  ·show h.lt q d
  ·rw[zz.mp d];decide
 ·rw[zl,nodup_append];show(h.nd,qb,λa i b j e=>?_);rw[e,zz.mp j]at i;show absurd (f _ i) qb
 ·let d||d:=mem_append.mp d
  ·show h.nm q d
  ·rw[zz.mp d];decide +kernel
abbrev B10(b C:l7):Pr:=λp f H=>f 7=U (.str p.tx)/\∃z,f 8=U (.ref z.b)/\gk b C z (p.55++[(("ZZ":Str),(1))]) p.r (λ_=>J) [] H
theorem Lb:∀{bs}{due},dJ H bs (Ds due)->Paired (gB H) bs (Ek due)
 | [],[],_=>.nil
 |_::_,_::_,.cons h r=>.cons (_,h,rfl) (Lb r)
 | [],_::_,h=>by cases h
 |_::_,[],h=>by cases h
theorem t10(b:Lw P al as mg base g C j cN cT cM c P0 ec T):Hn P al as mg base g C j c T 10 B1 (B10 g C):=λf Ar x aR H az y=>by
 let(fI,dI,MI,GI,gI,ag):=b.KO.make;let(fB,dB,MB,GB,bB):=b.BO.make;show(_,⟨A6 8 iq.nd (Dh MB GB (y.51 qc) Y b.BO.78 bB .nil Af (fy (Ja MI GI (y.51 qc) Y b.KO.78 ag (fy (AX Hu (Z 4) (A4 (fy (AZ (fJ AL AF)))))) (JG (Z 5) Ll))) qc)⟩,λp m D f H W h7 post=>?_);let(bs,hu,ht):=W.W.du;show(7,by change 2<=sizeLine;decide,λt I=>(by change 1<=sizeLine;decide,λl Q=>?_));let v:=AD (dH.refl H) I (o:=HO.tup [.str "ZZ",.int 1]);let N:=dG (H:=H) (a:=t) (o:=HO.tup [.str "ZZ",.int 1]);generalize upd H t (HO.tup [.str "ZZ",.int 1])=s at v N Q;let h:=AD (dH.refl s) Q (o:=HO.lst [.ref t]);let M:=dG (H:=s) (a:=l) (o:=HO.lst [.ref t]);generalize upd s l (HO.lst [.ref t])=u at h M
 let lb:bs.3=p.due.3:=by
  have:=Paired.length ht;rw[this];show AO _
 let ln:=m.ln;show(p.y.u,l,_,7,Y,h _ _ (v _ _ hu),M,iD (by rw[AO,lb];change _+1<=_;omega),λq hq=>(7,?_));let G:=AD (dH.refl u) hq (o:=HO.lst (bs.5 V.ref++[.ref t]));let R:=dG (H:=u) (a:=q) (o:=HO.lst (bs.5 V.ref++[.ref t]));generalize upd u q (HO.lst (bs.5 V.ref++[.ref t]))=B at G R;let d:=v.7 (h.7 G);let X:=XY m.dk m.ln m.wd
 let hP:Paired (gB B) (bs++[t]) (Ek (p.55++[(("ZZ":Str),(1))])):=by
  unfold Ek;rw[zl];show DH (Bh (eQ.of d) (Lb ht)) (_,G _ _ (h _ _ N),Y)
 intro k dk A ab an;let i:=Bn (D:=C) A ab an;show(k,dk,q,Ek (p.55++[(("ZZ":Str),(1))]),p.r,Y,dG,(bs++[t],i _ _ (by rw[R,zl];rfl),Bh (eQ.of i) hP),by unfold Ek;rw[AO,zY];show Nat.succ_pos _,by unfold Ek;rw[AO];show X.61,OU X,m.hr,λH5 sd S=>(Y,?_));rw[Ir]at S;let s5:=BQ i A sd;intro r dx w F e;let z:=Bn (D:=g) w F e;show(r,dx,k,_,p.r,Y,dG,S.25 z,λE lE H6 s6 aC aM Bk=>(Y,?_));let ar:=BQ z w s6;show post (stF f 8 (.ref r)) _ (W.same m (d.7 (s5.7 ar))) (h7,(r,k,E,lE),Y,Bk)
theorem t11(b:Lw P a4 a5 mg base f C bd cN cT cM c P0 ec ag):Hn P a4 a5 mg base f C bd c ag 11 (B10 f C) B1:=λas Ar bl s H a6 a=>by
 let(fE,q,GE,mE,bE):=b.GEB.ex;let(fB,dB,MB,X,Y):=b.BO.make
 show(_,⟨AV (PW.pt (B8 (AJ (G4 GE (a.51 qc) bE mE) (Z 8) (Dh MB X (a.51 qc) zd b.BO.78 Y .nil Af (fy (DF (Z 2) b.BT.cl b.GBk a)) qc) (AN _))
  (Bc (AJ (E6 GE (a.51 qc) bE mE b.neB b.hmB) (Dh MB X (a.51 qc) rfl b.BO.78 Y .nil Af (fy (DF (Z 2) b.BT.cl b.GBk a)) qc) (k4 b.GWk a Hi (fy (fP b.GSd a (fy (Dh MB X (a.51 qc) rfl b.BO.78 Y .nil Af (fy (DF (Z 2) b.BT.cl b.GBk a)) qc))))) (AN _))))) (AB AY) AM⟩,λp g D as H W (h7,z,h8,B) post=>?_)
 let DZ:=XY g.dk g.ln g.wd;show(_,congrArg gl h8,7,W.W.B.no (.mk p.y.z p.55 p.r p.g p.D zd W.W.B λN dx u et S=>?_));let E:=Bn (D:=f) u et S;show .mk N dx p.y.z.k p.55 p.r zd dG (W.W.B.ka.same E) λq lE H1 a1 a7 bb Bk=>(zd,?_);let w:=BQ E u a1;let B1:=B.25 w;let W1:=W.same g w;let(dz,h1):=B1.bk;let(dk,h2):=Bk.bk;show(z.b,dz,_,N,zd,zd,h1,.inl (_,_,h2),.mk z N _ p.r _ _ zd B1 (λa0 hq=>(DZ.nm a0 hq).2.1) (.inr ((N,p.y.z.k,q,lE),p.55,p.r,_,7,Bk,g.asc,λt H2 s2 ht=>(t,zd,7,?_))))
 let ef:t=O:=by
  cases t with
  |false=>rfl
  |true=>
   have:=congrArg List.length (ht.mp rfl).1.1;rw[zY]at this;show absurd this (by change ¬ _+1=_;omega)
 subst ef;let M:=W1.25 g s2;show AU (_,rfl,M.W.B.no (.mk p.y.z p.55 p.r p.g p.D rfl M.W.B λd an r az ab=>?_));let I:=Bn (D:=f) r az ab;show .mk d an p.y.z.k p.55 p.r rfl dG (M.W.B.ka.25 I) λal aC H3 R a8 be T=>(rfl,?_);let s3:=BQ I r R;let j:=M.25 g s3;show(_,rfl,j.W.B.no (.mk p.y.z p.55 p.r p.g p.D rfl j.W.B λy ar v aR a3=>?_));let F:=Bn (D:=f) v aR a3;show .mk y ar p.y.z.k p.55 p.r rfl dG (j.W.B.ka.25 F) λQ aM H4 a2 a9 bk G=>(rfl,?_);let A:=BQ F v a2;let W4:=j.25 g A;let o:=lh.of G (λx n c e=>nomatch e) g.dk g.dl g.hr;show .mk (y,p.y.z.k,Q,aM) p.55 p.r _ [] rfl G o.S λH5 s5=>.mk p.r p.55 _ rfl o λi H6 s6 _ _ m=>?_;let h:=A.7 (s5.7 s6);let W6:=j.25 g h;let l:=T.25 h;let(d6,h6):=m.bk;let(d7,U):=l.bk;show(d,d7,_,i.b,d6,_,rfl,rfl,U,h6,.mk (d,p.y.z.k,al,aC) i.b p.55 p.r _ [] rfl l g.asc (.inr (i,p.55,p.r,_,[],rfl,m,g.asc,λt H' s ht=>(t,rfl,_,rfl,?_))));rw[ht.53 ((rfl,rfl),rfl)];show(_,rfl,AU (post _ _ (W6.25 g s) h7))
theorem t12(b:Lw P w y v base g C m B G A c z I T):Hn P w y v base g C m c T 12 B1 B1:=λf u d s H E o=>by
 let(t,dE,q,j,r):=b.GEB.ex;show(_,⟨AV (AJ (R7 q (o.51 qc) r j b.dsB) (Z 2) (Z 3) (AN _)) (AB AY) AM⟩,λp M D f H W h post=>?_);let(a,e,_):=M.tbk W;let(l,i):=W.W.B.bk;show(7,7,p.y.z.b,l,_,p.t,a,Y,Y,i,e,.mk p.y.z p.t p.55 p.r p.g p.D Y W.W.B M.asc (.inl (a,e,7,7,AU (post f _ W h))))
theorem XZ(h:H b=U (.tup [.str lR,.str m8,v]))(a:Bf f H d v):Bf f H (.tuple [.str lR,.str m8,d]) (.ref b):=by
 show(b,7,eO.of h,?_);show(_,7,by rw[Bf],(_,7,by rw[Bf],?_));show(_,7,a,?_);rw[Bm]
theorem Dq.t3(l:H a=U (.tup [.str lR,.str m8,v]))(j:H b=U (.tup [.str lR,.str m8,v]))(h:Bf g H d v)(f:SeqAt.shaped (.tuple [.str lR,.str m8,d])=L)(e:PyData.eqv d d=L):Dq g H (.ref a) (.ref b):=(_,XZ l h,XZ j h,f,Ed λx i=>by
 simp at i;let rfl||rfl||rfl:=i
 ·show By _
 ·show By _
 ·show e)
inductive Bx(b C g:l7)(T:List (l7×Str×List Pos))(p:Rp)(d:Hp)(h:St)(H:Hp):Prop
 |mk (f) (e:h=p.st f) (i:f 7=U (.str p.tx)) (W:ik b C g T p H) (s:Sk p.y.d d H)
theorem Q5(w:gS g C m T p)(W:ik g C m T p H)(E:H q=U (.tup [.str lR,.str m8,.eJ]))(k:∀d,ik g C m T p d->dH H d->D.nx f d):
  S5 (An (tC (.str lR)) (An (tC (.str m8)) (An (tC .eJ) Ce))) f H λy d=>∃r t,Bf s d r (.ref q)/\Bf s d t y/\SeqAt.shaped r=L/\SeqAt.shaped t=L/\ExB (.bl (!PyData.eqv r t)) λb=>if b=L then So D f d else Sm D f d:=by
 show(by change 3<=sizeLine;decide,λu j=>?_);let h:=AD (dH.refl H) j (o:=HO.tup [.str lR,.str m8,.eJ]);let x:=dG (H:=H) (a:=u) (o:=HO.tup [.str lR,.str m8,.eJ]);generalize upd H u (.tup [.str lR,.str m8,.eJ])=A at h x;let(z,l,i,e,v):Dq s A (.ref q) (.ref u):=.t3 (h _ _ E) x (by rw[Bf]) qd HW;show(z,z,l,i,e,e,7,?_);rw[v];show AU (k _ (W.same w h) h)
theorem t13(g:Lw P ab s v base l C o cN cT cM c P0 ec T):Hn P ab s v base l C o c T 13 B1 B1:=λf Ar aC az H E j=>by
 show(_,Tu PassesOwn.never Y ⟨Ck Y g.B.range (fy AF)⟩ (BM 9 iq.nd) (DU ⟨A6 12 iq.nd (Ey Ji (Z 7) Lm (D9 (fP g.GRo j (fJ (Z 1) (AS A7 Y g.B.61 PySem.boot_len (fy (Z 7)))))))⟩
  (Di ⟨AV (AJ (IA s rfl j.41) (Gq (k:=9) g.td (j.51 qc) 1 ["_law_part"] [12] (λlf c' A' ar I u E j=>k4 g.GWk j DS (fy (Z 0)))) (AZ (AA AL (fJ AL C6))) (AN _)) (AB AY) AM⟩)),λp w an f H W M post=>?_)
 let S:=w.sav.S;show(10,Y,qc,qc,Fa (λ_=>Bx l C o T p H) (f,Y,M,W,.same (.refl _)) ?_ (λal u m=>by let(N,e,J,r,_):=m;show e ▸ post N u r J));rintro i al z hi ⟨A,rfl,d,G,s1⟩;let(x,ag,hd):=G.W.di;let q:=S.lT
 let h1:1<=p.tx.3:=by
  change 1<=(KQ _ _ _).3;rw[Fk];omega
 show(_,congrArg U d,7,_,congrArg U d,p.tx,Y,iD (Nat.le_trans q qc),p.y.d,x,ag,(p.tx.3:Int),Y,hd,qe,?_,λn a b B nl=>(n,Y,p.tx,Y,iD (Nat.le_trans q qc),?_))
 ·have:p.tx.3<=604:=q;show Nat.lt_trans (Hm qe) qc
 let(k,rfl):=Int.eq_ofNat_of_zero_le B;let D:k<p.tx.3:=by omega
 let t:eE p.y.d z (upd z p.y.d (.lst [.int a,.int b])):=(λb as e h=>by rw[AE h];show e,(a,b,dG));generalize upd z p.y.d (.lst [.int a,.int b])=H2 at t;let F:=G.fV w t;show(F.W.tabs _ g.hT,λHa y ta=>?_);let(Q,X):=F.td g w y ta;show(7,.bad _ Y (S.cut_no D) (VN g.EFT λq1 Hb nb R=>?_));show Q5 w (X.nx w nb) R λu r I=>(stF (stF A 9 (.int (0+(i:Nat)))) 12 (.str (Txt.slice p.tx gt (U (k:Int)))),Y,d,r,s1.7 ((Sk.fV t).7 ((Sk.kt Q).7 ((Sk.nx nb).7 (.same I)))))
def Bd(b:FG)(v:V)(H:Hp):Prop:=(∃t,gM b H v t/\W.kitOne b t (.type qD)=U O)\/∃x,v=.str x/\Txt.endswith x "."=O
theorem Bd.wk(h:Bd f v H)(u:UqA H E b .eJ):spWk f g C b [v] H Q E:=by
 let(t,d,a)||(x,rfl,h):=h
 ·show .eJ v t Y d a u
 ·show .bad x Y h u
theorem t14(g:Lw al az i mg base m C w cN cT cM c P0 ec T):Hn al az i mg base m C w c T 14 B1 A1:=λf Ar aM s H ag I=>by
 show(_,Tu PassesOwn.never Y (X4 (Tt (.mk (AA (Ey Ji (Z 7) Lm (D9 (DB C7 AF))) (LB (ZO (ZP (bi (ZQ (Tt ⟨fy (Z 7)⟩) (ZR (V5 ⟨fy (Z 7)⟩) HA)))))).h)))) (BM 10 iq.nd)
  (Di ⟨AV (AJ (IA i rfl I.41) (Gq (k:=9) g.td (I.51 qc) 2 ["_law_bad"] [10] (λlf c' A' t s' j ag I=>k4 g.GWk I DS (fy (Z 0)))) (AZ (AA AL (fJ AL C6))) (AN _)) (AB AY) AM⟩),λp y aC f H W G post=>?_)
 let S:=y.sav.S;let hT:p.tx.3<=604:=S.lT;show(_,congrArg U G,1,Y,-1,Y,p.tx,Y,iD qe,_,congrArg U G,by change 1<=sizeLine;decide,λE q=>(_,congrArg U G,by change 1<=sizeLine;decide,λlb l=>(by change 7<=sizeLine;decide,λP d=>?_)));let A:=AD (dH.refl H) q (o:=HO.lst [.str p.tx]);let h1:=dG (H:=H) (a:=E) (o:=HO.lst [.str p.tx]);generalize upd H E (HO.lst [.str p.tx])=B at A h1 l d;let F:=AD (dH.refl B) l (o:=HO.tup [.str p.tx]);let h2:=dG (H:=B) (a:=lb) (o:=HO.tup [.str p.tx]);generalize upd B lb (HO.tup [.str p.tx])=D at F h2 d;rw[show Txt.slice p.tx gt (U (-1))=Hl p.r p.55 ((g7 p.g).5 (gW p.g))from Q0];generalize ex:[V.str (Hl p.r p.55 ((g7 p.g).5 (gW p.g))),.str "",.eJ,.int 5,.bl ii,.ref E,.ref lb]=u;let M:=AD (dH.refl D) d (o:=HO.lst u);let R:=dG (H:=D) (a:=P) (o:=HO.lst u);generalize upd D P (HO.lst u)=X at M R;let an:=A.7 (F.trans M);let W3:=W.same y an;let(x,aR,hd):=W.W.di;let Q:∀{b:l7},H b=gt->b≠p.y.d:=λh z=>by rw[z,hd]at h;cases h
 let r:∀v∈u,∀j,Sk p.y.d X j->Bd i v j:=by
  subst ex;intro v r j s;simp only[mem_cons,not_mem_nil,or_false]at r;let rfl||rfl||rfl||rfl||rfl||rfl||rfl:=r
  ·show .inr (7,Qy S.nodot)
  ·show .inr (7,qb)
  ·show .inl (_,.eJ,Y)
  ·show .inl (_,.int 5,Y)
  ·show .inl (_,.bl ii,Y)
  ·show .inl (_,.lst (s _ _ (M _ _ (F _ _ h1)) (Q q) (λ_ z=>nomatch z) λ_ z=>nomatch z),rfl)
  ·show .inl (_,.tup (s _ _ (M _ _ h2) (Q (none_of A l)) (λ_ z=>nomatch z) λ_ z=>nomatch z),rfl)
 show(P,rfl,(_,dY.of R),DP (λ_=>Bx m C w T p X) (f,rfl,G,W3,.same (.refl _)) (λar ab j _ as=>by let(_,_,_,_,s):=as;show dY.of (s _ _ R (Q (none_of (A.7 F) d)) (λ_ z=>nomatch z) λ_ z=>nomatch z)) ?_ (λab j n=>by let(f',e,h',N,_):=n;show e ▸ post f' j N trivial));rintro ar v ab H4 hi ⟨f4,rfl,h4,W4,s4⟩;let hb:=r v (zM hi);show(W4.W.tabs _ g.hT,λHa sa ta=>?_);let(ka,Wa):=W4.td g y sa ta;show(_,rfl,(hb Ha (s4.7 (.kt ka))).wk (VN g.EFT λq1 Hb nb eb=>?_));show Q5 y (Wa.nx y nb) eb λj N s'=>(stF f4 10 v,rfl,h4,N,s4.7 ((Sk.kt ka).7 ((Sk.nx nb).7 (.same s'))))
structure RdI(a l bd:l7)(T:List (l7×Str×List Pos))(as:List l7)(i:Nat)(σ:St)(H:Hp):Prop where
 st:∃f:Nat->Option V,σ=[U (.ref a),f 1,f 2,f 3,f 4,f 5,f 6,f 7,f 8,f 9,f 10,f 11,f 12]
 hl:H l=U (.lst (as.5 V.ref))
 hb:Rd H bd (.dK Dd)
 tb:∀p∈T,eV H p.1 p.2.1 p.2.2
 ds:∀j b,i<=j->as[j]?=U b->∃x y,H b=U (.lst [.int x,.int y])
def Q6(d:FG)(T:List (l7×Str×List Pos))(b:l7):Sp:=λvs H Q _=>∃(a:l7)(f:List Int),vs=[.ref a]/\dY d H a (f.5 V.int)/\f.3<=63/\(∀p∈T,eV H p.1 p.2.1 p.2.2)/\Rd H b (.dK Dd)/\∀g,Q (.bl L) g
theorem Yx(F:iX p pR pR Kb f fd c)(m:Lw P w p r base BC an q cN cT cM c P0 ec T):AT P w p r base eK 14 f fd [ma] (Q6 p T q):=by
 show F.ok iq (λvs H Q E h=>?_) (λA al ag H vs Q E o h=>?_)
 ·let(a,ns,rfl,_):=h;rfl
 ·have az:Wz (XLw P w p r base c f A al ag H E) BC an q T ((Qs (Yj (defBody Kb) 0)).drop 1) A1 A1:=(t1 m _ _ _ _ _ _ o).cons ((t2 m _ _ _ _ _ _ o).cons ((t3 m _ _ _ _ _ _ o).cons ((t4 m _ _ _ _ _ _ o).cons ((t5 m _ _ _ _ _ _ o).cons ((t6 m _ _ _ _ _ _ o).cons ((t7 m _ _ _ _ _ _ o).cons ((t8 m _ _ _ _ _ _ o).cons ((t9 m _ _ _ _ _ _ o).cons ((t10 m _ _ _ _ _ _ o).cons ((t11 m _ _ _ _ _ _ o).cons ((t12 m _ _ _ _ _ _ o).cons ((t13 m _ _ _ _ _ _ o).cons (t14 m _ _ _ _ _ _ o).one))))))))))));let(tt,ht,rt):=az;let s:=iq.nd
  let ar:∃t,il (XLw P w p r base c f A al ag H E) (defBody Kb) t/\t {nx:=λ_ G=>Q .eJ G,rt:=Q} (start Yv vs) H:=by
   show(_,DU (Tu PassesOwn.never Y ⟨BG (fP m.GRd o (fJ (pv 0) AF))⟩ (BM 1 s)
    (DU ⟨Bo (fP m.GLb o (fJ (pv 1) AF)) (BR rfl (AQ (BM 2 s) (AQ (BM 3 s) (AQ (BM 4 s) (AQ (BM 5 s) (AQ (BM 6 s) Az))))))⟩ ht)) (Di ⟨AI Cf⟩),?_)
   let(a,ns,rfl,hS,h63,O,hB,aC):=h;show(7,a,ns,Y,hS,h63,λl as H1 s1 hl a1 a0 h5 aM=>(l,Y,(_,dY.of hl),DP (λi v u=>RdI a l q T as i v u) ((λ_=>gt,Y),hl,dH.rd s1 hB,λa2 hp=>eV.same s1 (O a2 hp),λj b _ e=>(aM b (zM e)).2) (λi v u _ R=>dY.of R.hl) ?_ (λv u R=>aC _)));rintro i a4 v u hi M;rw[zx]at hi;let(d,I,rfl):=z5.mp hi;let(x,y0,hd):=M.ds i d (zp _) I;let(f0,rfl):=M.st;show(7,.mk d x y0 Y hd M.hb M.tb λa3 y X ab g D F t N B hq kL=>(a3,7,eO.of hq,Y,_,7,_,7,_,7,_,7,_,7,Y,?_));let ed:=B.ed;subst ed;show rt (a,t,y,X,ab,g,D,F,N) (B.N,B.W,B.te,B.tb,B.dk,B.dl,B.ln,B.wd,B.hr,B.cn,B.nq) _ f0 _ (λ_ _ e _ _ _=>e,B.W) trivial λf' G C _=>?_
   let kl:=λ{b xs}e hb=>by
    let(_,e3):=kL b xs e hb;show C.sk b _ e3 hb (λ_ z=>nomatch z) λ_ z=>nomatch z
   show((λj=>((Rp.st (a,t,y,X,ab,g,D,F,N) f')[j]?).45 gt,Y),kl M.hl (λz=>a0 (z ▸ zM I)),C.W.hb,C.W.tabs,λj b hj S=>?_)
   let aR:b≠y.d:=λz=>by
    subst z;let(hj2,ej):=z8.mp S;let(jU,ei):=z8.mp I;show(List.pairwise_iff_getElem.mp a1) i j jU hj2 () (by rw[ei,ej])
   let(x5,y5,e5):=M.ds j b () S;show(x5,y5,kl e5 aR)
  obtain⟨t,⟨ht⟩,rd⟩:=ar;show(t,ht,rd)
end
end Mk
namespace Mk
open PySem L2 MK
theorem Q7{b}{i}{f}{kV a l d q}{t}{n}(u:b.8 i=U (.type mm,J,.seq #[.str "" f] n,#[])):
  Binds b (W.fnOf lU nM (defArgs BP) (defBody BP) (defScope BP) (.ref i) kV a l t d q) [lH,pV] []:=by
 intro s h r p
 let e:h.3=2:=by
  rwa[zj]at p
 match h,e with
 | [v,x],_=>
  let j:=r _ _ u;intro M A E Q o;unfold bindArgs;simp only
  repeat (first|with_reducible show wpAny_seqItems j rfl ?_| (with_reducible show zo (wpAny_seqItems j rfl ?_))|wp_step)
  show Eq.mp (congrArg (λz=>Q z s) qd) o
theorem Px(X:f.In h)(G:h.Ns N b)(e:W.nsIn f N n=U (U v)):b n=U v:=by
 let(o,r,ep,p,l,_,i):=G;unfold W.nsIn at e;split at e
 ·rename_i c d j t sl q;have:=X _ _ q;rw[p]at this;cases this;cases l;split at e
  ·rename_i a;cases e;rw[←i];unfold nsFind findBy;rw[←Array.find?_toList,a];rfl
  ·split at e<;>cases e
 ·cases e
theorem W0{b}{kV e l h t}{q}:
  Oi b (W.fnOf lU o4 (defArgs Cq) (defBody Cq) (defScope Cq) .none kV e l q h t) [lH,oy,oz] [oz] gU3 gV3:=by
 show(λs p x _ a=>?_,λ{vs p y x}r i=>?_)
 ·unfold gU3 at a ⊢;split at a
  ·show .of_eq qd
  ·cases a
 ·cases r with
  |nil=>show .nil
  |cons u d=>
   cases d with
   |nil=>show .nil
   |cons j d=>
    cases d with
    |cons _ _=>show .nil
    |nil=>
     cases i with
     |nil=>show .nil
     |cons v o=>
      cases o with
      |nil=>show .cons u (.cons j (.cons v .nil))
      |cons _ _=>show .nil
theorem XA(ok:W.nsOkIn b a=L)(e:W.nsIn b a my=U (U v)):
  Binds b (W.fnOf ox ox (defArgs DW) (defBody DW) (defScope DW) .none (.ref a) p q f m g) [ml,my] [v]:=by
 intro s j h i
 let d:j.3=1:=by
  rw[zY]at i;show Nat.succ.inj i
 match j,d with
 | [o],_=>
  let G:s.heap.Ns a (s.heap.nsMap a):=.of_isNs (W.isNs_of_in h ok);intro M A E Q l;unfold bindArgs;simp only
  repeat (first| (with_reducible show wpAny_nsGet G ?_;rw[Px h G e])|wp_step)
  show Eq.mp (congrArg (λz=>Q z s) qd) l
end Mk
namespace Mk
open PySem L2 MK PySem.W
mutual
abbrev fO(x q:Str)(s:Stmt):=fnOf x q (defArgs s) (defBody s) (defScope s)
theorem D5(h:isClsIn b C=L)(a:typeIn b (.ref C)=U (.type qE))(e:subIn b (.type T) (.ref C)=U O):kitOne b (.type T) (.ref C)=U O:=by
 unfold kitOne;rw[zg (_)];unfold kitCls;change(if _ then _ else _)=_;rw[zf (by unfold isClsIn at h;rw[h,a];simp)];show e
theorem Q8(h:(clsIn d C).5 (λb=>(b.mro,(b.hasDict)))=U (Jg C M,(L)))(n:findIn d (.ref C) f=U J)(s:findIn d (.ref C) nU=U (U (.builtin mn))):NX d C M f:=by
 let(b,e,z):=z5.mp h;show((b,e,congrArg Prod.fst z,congrArg Prod.snd z),n,s)
noncomputable def OV(b:Frag)(c P:l7):Bool:=match b.8 c with
 |some ⟨.type "code",_,.fields vs,_⟩=>(match (vs[11]?:Option Value),vs.45 18 Value.none,vs.45 7 Value.none,vs.45 9 Value.none,vs.45 10 Value.none with
  |some (.ref p),.str _ _,.int _ _,.bool _,.int _ _=>p==P && !(c==P)
  |_,_,_,_,_=>O)
 |_=>O
theorem codeHd_of{K:Frag}{h:Heap}{c P:l7}(X:K.In h)(q:OV K c P=L):CodeHd h c P:=by
 unfold OV at q;split at q
 ·rename_i d vs sl ho;split at q
  ·rename_i p f tf fl tg b tx tt h11 h18 h7 h9 kP;rw[Bool.and_eq_true,beq_iff_eq]at q;let(rfl,hn):=q;show(_,vs,f,tf,fl,tg,b,tx,tt,X _ _ ho,Y,Y,h11,?_,h18,h7,h9,kP,λz=>by simp[z]at hn);rw[Array.getD_eq_getD_getElem?,h11];rfl
  ·cases q
 ·cases q
theorem fnT{P}{w}{ω:Frag}{mg}{base}{fd}{x}{st}{k}{a}{sp}{f}(F:eP ω x x st f fd)(ok:AT P w ω mg base eK k f fd a sp)(m:mg x=some (.ref f))(b:Binds ω fd a []):Fn P w ω mg base x k a sp:=⟨(f,fd,ok,m,F.kp,b)⟩
theorem mtT{P}{w}{ω}{mg}{base}{fd}{C}{x q}{st}{k}{d}{sp}{f}(a:findIn ω (.ref C) x=some (some (.ref f)))(i:isFn ω (.ref f)=true)(F:eP ω x q st f fd)(ok:AT P w ω mg base eK k f fd d sp)(b:Binds ω fd d []):Mt P w ω mg base C x k d sp:=⟨(f,fd,ok,(a,i,F.kp),b)⟩
abbrev fB(x q:Str)(st:Stmt)(kV g h:Value)(b:Option l7)(f d:Value)(i:lx):Sem (List (Str×Value)):=bindArgs (fO x q st .none kV g h b f d) (i,[])
theorem gT(F:eP o x q st f m)(h:∀a b c d e g i,fB x q st a b c d e g [i]=pure [(p1,(i))]):Binds o m [p1] []:=F.binds λ_ _ _ _ _ _ o p=>by rcases o with _|⟨_,_|_⟩<;>first|exact h ..|cases p
theorem gP(F:eP p x q st f m)(h:∀a b c d e g i j,fB x q st a b c d e g [i,j]=pure [(p1,(i)),(p2,(j))]):Binds p m [p1,p2] []:=F.binds λ_ _ _ _ _ _ o p=>by rcases o with _|⟨_,_|⟨_,_|_⟩⟩<;>first|exact h ..|cases p
theorem i9(F:eP r x q st f m)(h:∀a b c d e g i l j,fB x q st a b c d e g [i,l,j]=pure [(p1,(i)),(p2,(l)),(p3,(j))]):Binds r m [p1,p2,p3] []:=F.binds λ_ _ _ _ _ _ o p=>by rcases o with _|⟨_,_|⟨_,_|⟨_,_|_⟩⟩⟩<;>first|exact h ..|cases p
theorem bi4(F:eP s x q st f m)(h:∀a b c d e g j o l i,fB x q st a b c d e g [j,o,l,i]=pure [(p1,(j)),(p2,(o)),(p3,(l)),(p4,(i))]):Binds s m [p1,p2,p3,p4] []:=F.binds λ_ _ _ _ _ _ o p=>by rcases o with _|⟨_,_|⟨_,_|⟨_,_|⟨_,_|_⟩⟩⟩⟩<;>first|exact h ..|cases p
theorem bi5(F:eP s x q st f m)(h:∀a b c d e g j p l i o,fB x q st a b c d e g [j,p,l,i,o]=pure [(p1,(j)),(p2,(p)),(p3,(l)),(p4,(i)),(p5,(o))]):Binds s m [p1,p2,p3,p4,p5] []:=F.binds λ_ _ _ _ _ _ o p=>by rcases o with _|⟨_,_|⟨_,_|⟨_,_|⟨_,_|⟨_,_|_⟩⟩⟩⟩⟩<;>first|exact h ..|cases p
def DG(b:Frag)(x:Str)(st:Stmt):Prop:=∃f d,nsIn b mainGlobals x=U (U (.ref f))/\eP b x x st f d
def DM(b:Frag)(C:l7)(x q:Str)(st:Stmt):Prop:=∃f d,findIn b (.ref C) x=U (U (.ref f))/\isFn b (.ref f)=L/\(∃o,b.8 f=U o/\o.78=.type pf)/\eP b x q st f d
structure CF(K:Frag)(C:l7):Prop where
 pg:plainGet K C Str.empty=L
 hd:hasDictIn K C=L
 po:plainOver K C=L
 sa:findIn K (.ref C) nU=U (U (.builtin mn))
 mz:makesIn K C=L
 kc:keepIn K (.ref C)=L
 qa:findIn K (.ref C) oG=U (U (.builtin lL))
 qm:mroIn K C (.type nI)=U L
 ql:isClsIn K C=L
 qy:typeIn K (.ref C)=U (.type qE)
 qs:subIn K (.type md) (.ref C)=U O
 qi:subIn K (.type qC) (.ref C)=U O
 qt:subIn K (.type mm) (.ref C)=U O
 ne:findIn K (.ref C) ph=U (U (.builtin mP))
structure XF(K:Frag)(ec:Nat->l7)(C:l7)(j:Nat):Prop where
 cx:L2.BE K C=L
 ga:findIn K (.ref C) nA=U (U (.builtin lQ))
 gr:findIn K (.ref C) "__getattr__"=U J
 gb:mroIn K C (.type m6)=U L
 kc:(clsIn K C).26=L
 ka:findIn K (.ref C) oG=U (U (.builtin lL))
 km:mroIn K C (.type nI)=U L
 kt:((List.range 11).all λi=>i==j||decide (kitOne K (.ref C) (.ref (ec i))=U O))=L
 tv:kitOne K (.ref C) (.type lY)=U L
 ke:keepIn K (.ref C)=L
theorem XF.at(F:XF b f C j)(a:j<11)(e:C=f j)(o:specialIn b (.builtin lL) oS=U (U (.builtin lW)))(d:takesIn b (.builtin lL)=U L):Qb b f C j:=by
 show(a,((F.ga,F.gr,F.gb),F.kc,F.ka,o,d,F.km),λi l=>?_,F.tv);let h:=all_eq_true.mp F.kt i (mem_range.53 l);rw[Bool.or_eq_true]at h;let z||z:=h
 ·rw[eq_of_beq z,e,zH rfl];show FU b _
 ·by_cases q:i=j
  ·rw[q,e,zH rfl];show FU b _
  ·rw[zK q];show zR z
structure XP(K:Frag)(ec:Nat->l7)(cM C f:l7)(j:Nat):Prop where
 F:XF K ec C j
 n:((List.range 4).all λi=>!(Er K C).16 (.ref (ec i)))=L
 m:(Er K C).16 (.ref cM)=L
 i:findIn K (.ref C) lU=U (U (.ref f))
theorem XP.pl(F:XP b g p C f j)(a:j<11)(e:C=g j)(o:specialIn b (.builtin lL) oS=U (U (.builtin lW)))(d:takesIn b (.builtin lL)=U L):Fz b g p C j:=by
 let h:∀i,i<4->(Er b C).16 (.ref (g i))=O:=λi l=>by
  have:=all_eq_true.mp F.n i (mem_range.53 l);rw[Bool.not_eq_true']at this;show this
 show(F.F.at a e o d,F.F.cx,h 0 qc,h 1 qc,h 2 qc,h 3 qc,F.m)
structure XL(K:Frag)(ec:Nat->l7)(cM C:l7)(j:Nat)(fld:Str):Prop where
 F:XF K ec C j
 n:((List.range j).all λi=>!(Er K C).16 (.ref (ec i)))=L
 m:(Er K C).16 (.ref (ec j))=L
 gh:hasDictIn K C=L
 gn:findIn K (.ref C) fld=U J
 gs:findIn K (.ref C) nU=U (U (.builtin mn))
 s:(clsIn K C).5 (λb=>(b.mro,(b.hasDict)))=U (Jg C cM,(L))
theorem XL.fl(F:XL b f g C j (Mc j))(a:j<4)(e:C=f j)(l:specialIn b (.builtin lL) oS=U (U (.builtin lW)))(d:takesIn b (.builtin lL)=U L):KB b f C j:=by
 show(F.F.at qe e l d,F.F.cx,a,λi h=>?_,F.m,((F.F.ga,F.F.gr,F.F.gb),F.gh,F.gn));have:=all_eq_true.mp F.n i (mem_range.53 h);rw[Bool.not_eq_true']at this;show this
theorem bi6(F:eP s x q st f m)(h:∀a b c d e g l r o i p j,fB x q st a b c d e g [l,r,o,i,p,j]=pure [(p1,(l)),(p2,(r)),(p3,(o)),(p4,(i)),(p5,(p)),(p6,(j))]):Binds s m [p1,p2,p3,p4,p5,p6] []:=F.binds λ_ _ _ _ _ _ o p=>by rcases o with _|⟨_,_|⟨_,_|⟨_,_|⟨_,_|⟨_,_|⟨_,_|_⟩⟩⟩⟩⟩⟩<;>first|exact h ..|cases p
theorem Xa:∀{T:List (l7×Str×List Pos)},(T.5 (·.1)).29->∀p∈T,∀q∈T,q.1=p.1->q=p
 |a::r,h,p,b,q,f,e=>by
  let(j,l):=zi.mp h;let rfl||d:=mem_cons.mp b<;>let rfl||i:=mem_cons.mp f
  ·rfl
  ·show absurd (zh.53 (q,i,e)) j
  ·show absurd (show q.1∈r.5 (·.1)from zh.53 (p,d,e.35)) j
  ·show Xa l p d q i e
theorem all_mk{l:OpenLaw}{w:World}{K:Frag}{h:Heap}{mg:SV}{fz C I F d aR kd dt cM c P0 e0 e1 e2 e3 e4 Z e6 e7 e8 e9 r fin Y fla:l7}(X:K.In h)(G:h.Ns mainGlobals mg)(hfa:mg pR=some (.ref fz))
  {ocla kVla dcla pmla ctla ocin dcin pmin cdin ctin kVei dcei pmei cdei ctei ocK:Value}{odla anla odin anin odei anei odR odK:Option l7}{slla slin slei slK slR:Array (Option Value)}{tG tM tL tLi tB t1 t2 t3 t4 tE:Tok}{nRR epK nE:Nat}{esK:Array DictEntry}{jn fst k2:l7}{j1 j2 j3 tLB:Tok}{odJ odst anst odK2:Option l7}{nJ epK2:Nat}{slJ slst slK2:Array (Option Value)}{ocst dcst pmst cdst ctst ocK2:Value}{esK2:Array DictEntry}{tLN tEN:Tok}{bd:l7}{fs2 jX z:l7}{ocs2 kVs2 dcs2 pms2 cts2:Value}{ods2 ans2:Option l7}{sls2:Array (Option Value)}{fs3 kg E:l7}{ocs3 kVs3 dcs3 pms3 cts3:Value}{ods3 ans3:Option l7}{sls3:Array (Option Value)}
  (aC:nsIn K mainGlobals "Kind"=some (some (.ref C)))
  (aVC:nsIn K mainGlobals "Value"=some (some (.ref I)))
  (aDC:nsIn K mainGlobals "Reading"=some (some (.ref F)))
  (aBC:nsIn K mainGlobals "Book"=some (some (.ref d)))
  (aM:nsIn K mainGlobals "MarkError"=some (some (.ref cM)))
  (aX0:nsIn K mainGlobals "BadRows"=some (some (.ref e0)))
  (aX1:nsIn K mainGlobals ny=some (some (.ref e1)))
  (aX2:nsIn K mainGlobals m8=some (some (.ref e2)))
  (aX3:nsIn K mainGlobals "Unled"=some (some (.ref e3)))
  (aX4:nsIn K mainGlobals "BadRule"=some (some (.ref e4)))
  (aX5:nsIn K mainGlobals mG=some (some (.ref Z)))
  (aX6:nsIn K mainGlobals nO=some (some (.ref e6)))
  (aX7:nsIn K mainGlobals "Unlike"=some (some (.ref e7)))
  (aX8:nsIn K mainGlobals "BadPairs"=some (some (.ref e8)))
  (aX9:nsIn K mainGlobals "Never"=some (some (.ref e9)))
  (aX10:nsIn K mainGlobals nz=some (some (.ref r)))
  (z_VE:nsIn K mainGlobals lY=some none)
  (hwh:DG K oU Jp)
  (hnm:DG K pN MO)
  (huo:DG K pj Jq)
  (hnx:DG K qk IG)
  (hoo:DG K oK Jr)
  (hno:DG K pI Ga)
  (hth:DG K pk ER)
  (hro:DG K pS Gb)
  (hnb:DG K "numbered" IH)
  (hfi:DG K pJ FC)
  (hmK:DM K C nG "Kind.known" Gc)
  (hmN:DM K C lO "Kind.number" FD)
  (hmT:DM K C oz "Kind.rest" IJ)
  (hlc:DG K qp Jz)
  (hld:DG K o9 IV)
  (hlr:DG K mx HH)
  (hls:DG K pK Gk)
  (hll:DG K pT Ct)
  (hxn:DG K ow Fe)
  (hxr:DG K pO MQ)
  (hxi:DM K I lU "Value.__init__" Gd)
  (hxN:DM K I lO "Value.number" ES)
  (hlb:DG K pz Gm)
  (hlu:DG K px Gn)
  (je:DG K oB FL)
  (fc:DG K oM IL)
  (hgi:DG K pZ Gg)
  (hdS:DM K F "settle" "Reading.settle" DV)
  (hdP:DM K F "take_part" "Reading.take_part" Cr)
  (hdB:DM K F "take_between" "Reading.take_between" Bz)
  (hdA:DM K F "take_ahead" "Reading.take_ahead" CY)
  (hdC:DM K F "take_close" "Reading.take_close" CZ)
  (hdG:DM K F "take_sign" "Reading.take_sign" Cs)
  (hdN:DM K F "ends" "Reading.ends" EU)
  (hgj:DG K "joined" MT)
  (hmR:DM K C oy "Kind.rows" II)
  (hmE:DM K C oo "Kind.__eq__" MP)
  (hxK:DM K I lN "Value.kind" Ge)
  (hlm:DG K qr J0)
  (hsk:DG K pF IK)
  (hib:DG K oR FF)
  (hbN:DM K d mQ "Book.names" Gj)
  (hbL:DM K d qz "Book.__len__" Jx)
  (hbG:DM K d "give" "Book.give" IQ)
  (hlg:DG K pH J1)
  (hlx:DG K pC Go)
  (hly:DG K qg IW)
  (hbk:DM K d lN "Book.kind" IU)
  (hbQ:DM K d oo "Book.__eq__" MV)
  (hpo:DG K "parts_of" Jy)
  (hgf:DG K pW Gf)
  (hgp:DG K "is_part" MS)
  (hge:DG K "part_end" Ju)
  (hgn:DG K pL FE)
  (hgo:DG K qu IM)
  (hdI:DM K F lU "Reading.__init__" ET)
  (hti:DM K e2 lU "BadText.__init__" EQ)
  (hle:DG K og HI)
  (hlp:DG K ni Dk)
  (hlf:DG K oP FM)
  (hlw:DG K nv FK)
  (hlo:DG K lS A9)
  (hga:DG K "is_table" Jv)
  (hrk:DG K p0 IN)
  (hmd:DG K "made" QP)
  (hri:DM K e1 lU "BadRest.__init__" EO)
  (hlq:DG K oh HJ)
  (hva:DG K oY FH)
  (hvo:DG K pB Js)
  (huu:DG K "union" PU)
  (huw:DG K "without" Jt)
  (hut:DG K "turned" MR)
  (hbE:DM K d qG "Book.entry" Gh)
  (hbV:DM K d nZ "Book.value" Gi)
  (hbC:DM K d pQ "Book.changes" EV)
  (hbP:DM K d "put" "Book.put" Jw)
  (hbM:DM K d "mark" "Book.mark" IR)
  (hbU:DM K d "unmark" "Book.unmark" FI)
  (hbT:DM K d "turn" "Book.turn" IS)
  (hbD:DM K d qo "Book.drop" IT)
  (hbK:DM K d pG "Book.take_back" Dr)
  (hbR:DM K d "reckon" "Book.reckon" FJ)
  (hbI:DM K d lU "Book.__init__" IP)
  (hlk:DG K oV EW)
  (hlB:DG K qw J2)
  (hbo:DG K "book_of" MU)
  (hsd:DG K "saved" PV)
  (hwk:DG K qH MW)
  (ain:findIn K (.ref C) lU=some (some (.ref fin)))
  (iin:isFn K (.ref fin)=true)
  (lin:K.lookup fin=some (ocin,odin,.func (fO lU o4 Cq .none (.ref kd) dcin pmin anin cdin ctin),slin))
  (cin:codeIn K cdin o4=true)
  (iL:keepIn K (.ref fin)=true)
  (ala:nsIn K mainGlobals pR=some (some (.ref fla)))
  (lla:K.lookup fla=some (ocla,odla,.func (fO pR pR Kb .none kVla dcla pmla anla (.ref c) ctla),slla))
  (cla:codeIn K (.ref c) pR=true)
  (kla:keepIn K (.ref fla)=true)
  (aei:findIn K (.ref cM) lU=some (some (.ref Y)))
  (iei:isFn K (.ref Y)=true)
  (lei:K.lookup Y=some ((.type pf),odei,.func (fO lU nM BP (.ref dt) kVei dcei pmei anei cdei ctei),slei))
  (cei:codeIn K cdei nM=true)
  (kei:keepIn K (.ref Y)=true)
  (as2:nsIn K mainGlobals m7=some (some (.ref fs2)))
  (ls2:K.lookup fs2=some (ocs2,ods2,.func (fO m7 m7 DX .none kVs2 dcs2 pms2 ans2 (.ref jX) cts2),sls2))
  (c_s2:codeIn K (.ref jX) m7=true)
  (ks2:keepIn K (.ref fs2)=true)
  (as3:nsIn K mainGlobals mh=some (some (.ref fs3)))
  (ls3:K.lookup fs3=some (ocs3,ods3,.func (fO mh mh BV .none kVs3 dcs3 pms3 ans3 (.ref kg) cts3),sls3))
  (c_s3:codeIn K (.ref kg) mh=true)
  (ks3:keepIn K (.ref fs3)=true)
  (pd:([P0,z,E]:List l7).Nodup)
  (kdl:K.lookup kd=some (ocK,odK,.dict esK epK,slK))
  (kde:(esK.all λe=>match e.key with|.str _ _=>true|_=>false)=true)
  (kdr:nsIn K kd oz=some (some (.str o7 tB)))
  (dtl:K.lookup dt=some (.type mm,none,.seq #[.str "" tE] nE,#[]))
  (vG:nsIn K mainGlobals "GREATEST"=some (some (.int 1048575 tG)))
  (vM:nsIn K mainGlobals "MOST_ROWS"=some (some (.int 10 tM)))
  (vL:nsIn K mainGlobals "LONGEST_NAME"=some (some (.int 6 tL)))
  (vLi:nsIn K mainGlobals "LIMIT"=some (some (.int 1099511627776 tLi)))
  (vR:nsIn K mainGlobals "RULES"=some (some (.ref aR)))
  (qn:specialIn K (.builtin lL) oS=some (some (.builtin lW)))
  (qt:takesIn K (.builtin lL)=some true)
  (fC:CF K C)
  (p:CF K I)
  (fDC:CF K F)
  (q:CF K d)
  (nC_numbers:findIn K (.ref C) lZ=some none)
  (nC_firsts:findIn K (.ref C) ou=some none)
  (nC_rule:findIn K (.ref C) "rule"=some none)
  (O:findIn K (.ref I) mu=some none)
  (nVC_bits:findIn K (.ref I) nk=some none)
  (nDC_steps:findIn K (.ref F) nH=some none)
  (U:findIn K (.ref F) pb=some none)
  (u:findIn K (.ref F) oN=some none)
  (L:findIn K (.ref d) mu=some none)
  (S:findIn K (.ref d) mZ=some none)
  (nBC_deeds:findIn K (.ref d) qA=some none)
  (xm:L2.BE K cM=true)
  (xc0:L2.BE K e0=true)
  (xc1:L2.BE K e1=true)
  (xc2:L2.BE K e2=true)
  (xc3:L2.BE K e3=true)
  (y5:XP K (λi=>([e0,e1,e2,e3,e4,Z,e6,e7,e8,e9,r]:List l7).getD i 0) cM Z Y 5)
  (y6:XP K (λi=>([e0,e1,e2,e3,e4,Z,e6,e7,e8,e9,r]:List l7).getD i 0) cM e6 Y 6)
  (y10:XP K (λi=>([e0,e1,e2,e3,e4,Z,e6,e7,e8,e9,r]:List l7).getD i 0) cM r Y 10)
  (y1:XL K (λi=>([e0,e1,e2,e3,e4,Z,e6,e7,e8,e9,r]:List l7).getD i 0) cM e1 1 nk)
  (y2:XL K (λi=>([e0,e1,e2,e3,e4,Z,e6,e7,e8,e9,r]:List l7).getD i 0) cM e2 2 "at")
  (xmg:specialIn K (.ref cM) nA=some (some (.builtin oH)))
  (xmr:readsIn K cM (.type qE)=true)
  (xmf:findCls K (.ref cM) (.type qE) lU=some (.val (.ref Y)))
  (rL:K.lookup aR=some (.type mm,odR,.seq #[.str o7 t1,.str qo t2,.str n6 t3,.str oX t4] nRR,slR))
  (z_len:nsIn K mainGlobals "len"=some none)
  (N:nsIn K mainGlobals mr=some none)
  (z_max:nsIn K mainGlobals qB=some none)
  (z_min:nsIn K mainGlobals "min"=some none)
  (z_range:nsIn K mainGlobals oW=some none)
  (z_list:nsIn K mainGlobals md=some none)
  (z_tuple:nsIn K mainGlobals mm=some none)
  (z_sorted:nsIn K mainGlobals pM=some none)
  (z_sum:nsIn K mainGlobals "sum"=some none)
  (z_all:nsIn K mainGlobals "all"=some none)
  (R:nsIn K mainGlobals oE=some none)
  (z_int:nsIn K mainGlobals qC=some none)
  (z_bool:nsIn K mainGlobals "bool"=some none)
  (z_str:nsIn K mainGlobals qD=some none)
  (y:nsIn K mainGlobals mH=some none)
  (vBD:nsIn K mainGlobals "BINDING"=some (some (.ref bd)))
  (vJN:nsIn K mainGlobals "JOINING"=some (some (.ref jn)))
  (vLB:nsIn K mainGlobals qj=some (some (.int 1 tLB)))
  (jL:K.lookup jn=some (.type mm,odJ,.seq #[.str "&" j1,.str "^" j2,.str "|" j3] nJ,slJ))
  (ast:nsIn K mainGlobals ox=some (some (.ref fst)))
  (lst:K.lookup fst=some (ocst,odst,.func (fO ox ox DW .none (.ref k2) dcst pmst anst cdst ctst),slst))
  (cst:codeIn K cdst ox=true)
  (kst:keepIn K (.ref fst)=true)
  (k2l:K.lookup k2=some (ocK2,odK2,.dict esK2 epK2,slK2))
  (k2e:(esK2.all λe=>match e.key with|.str _ _=>true|_=>false)=true)
  (k2n:nsIn K k2 my=some (some (.bool true)))
  (vLN:nsIn K mainGlobals "LONGEST_BOOK_NAME"=some (some (.int 8 tLN)))
  (vEN:nsIn K mainGlobals "END"=some (some (.str "." tEN)))
  (dsB:subIn K (.type mH) (.ref d)=some false)
  :∃fd:FuncData,(∀(s:lG)(v:Value),BindsTo s fd ([v],[]) [(ma,(v))])/\∀base:Heap,K.In base->base.Ns mainGlobals mg->(∀t∈([(c,(P0)),(jX,(z)),(kg,(E))]:List (l7×l7)),CodeHd base t.1 t.2/\base.BuiltinsAt mg t.2)->AT l.prog w K mg base eK 14 fz fd [ma] (Q6 K [(P0,q1,(jq)),(z,q2,(jo)),(E,q3,(jm))] bd):=by
 let a:∀{x:Str}{v:Value},nsIn K mainGlobals x=some (some v)->mg x=some v:=λh=>mg_of X G h;let D:∀{x:Str},nsIn K mainGlobals x=some none->mg x=none:=λh=>mg_none_of X G h;let T:Fm K C:=((fC.pg,fC.hd,fC.po,fC.sa),nC_numbers,nC_firsts,nC_rule);let VT:Ma K I:=((p.pg,p.hd,p.po,p.sa),O,nVC_bits);let DT:Ke K F:=((fDC.pg,fDC.hd,fDC.po,fDC.sa),nDC_steps,U,u);let J:C5 K d:=((q.pg,q.hd,q.po,q.sa),L,S,nBC_deeds);let KI:iW K C:=((fC.pg,fC.hd,fC.po,fC.sa),fC.qa,qn,qt,fC.qm,D5 fC.ql fC.qy fC.qs);let VI:iW K I:=((p.pg,p.hd,p.po,p.sa),p.qa,qn,qt,p.qm,D5 p.ql p.qy p.qs);let mCg:=a aC;let mVg:=a aVC;let hLi:=a vLi;let vI:=D5 p.ql p.qy p.qi;let vT:=D5 p.ql p.qy p.qt;let qeC:=fC.ne;let qm:=fC.qm;let B:Bl mg:=(D z_len,D N,D z_max,D z_min,D z_range,D z_list,D z_tuple,D z_sorted,D z_sum,D z_all,D R,D z_int,D z_bool,D z_str);let rT:∀H:Hp,eO K H aR (eU.map V.str):=λH=>.inr (_,_,_,rL,rfl,rfl,sl4,.cons (_,rfl) (.cons (_,rfl) (.cons (_,rfl) (.cons (_,rfl) .nil))));let jT:∀H:Hp,eO K H jn [.str "&",.str "^",.str "|"]:=λH=>.inr (_,_,_,jL,rfl,rfl,jK,.cons (_,rfl) (.cons (_,rfl) (.cons (_,rfl) .nil)));let BI:iW K d:=((q.pg,q.hd,q.po,q.sa),q.qa,qn,qt,q.qm,D5 q.ql q.qy q.qs)
 let kdo:nsOkIn K kd=true:=by
  unfold nsOkIn;rw[kdl];show kde
 let hG:=a vG;let hM:=a vM;let hL:=a vL;let hR:=a vR;let M:Sb mg (λi=>([e0,e1,e2,e3,e4,Z,e6,e7,e8,e9,r]:List l7).getD i 0):=(a aX0,a aX1,a aX2,a aX3,a aX4,a aX5,a aX6,a aX7,a aX8,a aX9,a aX10,D z_VE);let EX:Uj K mg (λi=>([e0,e1,e2,e3,e4,Z,e6,e7,e8,e9,r]:List l7).getD i 0) cM:=(a aM,xm,xc0,xc1,xc2,xc3);let EPB5:=y5.pl qc rfl qn qt;let EPN6:=y6.pl qc rfl qn qt;let EPN10:=y10.pl qc rfl qn qt;let EFR:=XL.fl (j:=1) y1 qc rfl qn qt;let EFT:=XL.fl (j:=2) y2 qc rfl qn qt;let Fin:=fun_mk (st:=Cq) lin cin iL;let e:=hfa.symm.trans (a ala);cases e;let Fla:iX K pR pR Kb fz (fO pR pR Kb .none kVla dcla pmla anla (.ref c) ctla) c:=⟨(_,_,_,_,_,_,_,_,rfl,lla,cla)⟩;let Fei:FunD K lU nM BP Y _:=⟨(_,_,_,_,_,_,_,_,_,_,rfl,lei,cei)⟩;let(fwh,dwh,awh,Fwh):=hwh;let bwh:=gT (p1:=lM) Fwh λ_ _ _ _ _ _ _=>rfl;let(fnm,dnm,anm,Fnm):=hnm;let bnm:=gT (p1:=lM) Fnm λ_ _ _ _ _ _ _=>rfl;let(fuo,duo,auo,Fuo):=huo;let buo:=gT (p1:=lZ) Fuo λ_ _ _ _ _ _ _=>rfl;let(fnx,dnx,anx,Fnx):=hnx;let bnx:=gT (p1:=lZ) Fnx λ_ _ _ _ _ _ _=>rfl;let(foo,doo,aoo,Foo):=hoo;let boo:=gP (p1:=lM) (p2:=mQ) Foo λ_ _ _ _ _ _ _ _=>rfl;let(fno,dno,ano,Fno):=hno;let bno:=gP (p1:="parts") (p2:=nY) Fno λ_ _ _ _ _ _ _ _=>rfl;let(fth,dth,ath,Fth):=hth;let bth:=gP (p1:=lM) (p2:=nY) Fth λ_ _ _ _ _ _ _ _=>rfl;let(fro,dro,aro,Fro):=hro;let bro:=gP (p1:="row") (p2:=nY) Fro λ_ _ _ _ _ _ _ _=>rfl;let(fnb,dnb,anb,Fnb):=hnb;let bnb:=gT (p1:=oy) Fnb λ_ _ _ _ _ _ _=>rfl;let(ffi,dfi,afi,Ffi):=hfi;let bfi:=gT (p1:=lZ) Ffi λ_ _ _ _ _ _ _=>rfl;let(fmK,dmK,amK,imK,omK,FmK):=hmK;let bmK:=gT (p1:=lH) FmK λ_ _ _ _ _ _ _=>rfl;let(fmN,dmN,amN,imN,omN,FmN):=hmN;let bmN:=gP (p1:=lH) (p2:=lK) FmN λ_ _ _ _ _ _ _ _=>rfl;let(fmT,dmT,amT,imT,omT,FmT):=hmT;let bmT:=gT (p1:=lH) FmT λ_ _ _ _ _ _ _=>rfl;let(flc,dlc,alc,Flc):=hlc;let blc:=gP (p1:=ma) (p2:=oA) Flc λ_ _ _ _ _ _ _ _=>rfl;let(fld,dld,ald,Fld):=hld;let bld:=gP (p1:=n8) (p2:=oA) Fld λ_ _ _ _ _ _ _ _=>rfl;let(flr,dlr,alr,Flr):=hlr;let blr:=gP (p1:=lI) (p2:=mw) Flr λ_ _ _ _ _ _ _ _=>rfl;let(fls,dls,als,Fls):=hls;let bls:=gP (p1:=ma) (p2:=mi) Fls λ_ _ _ _ _ _ _ _=>rfl;let(fll,dll,all,Fll):=hll;let bll:=gP (p1:=lI) (p2:=mi) Fll λ_ _ _ _ _ _ _ _=>rfl;let(fxn,dxn,axn,Fxn):=hxn;let bxn:=gT (p1:=lM) Fxn λ_ _ _ _ _ _ _=>rfl;let(fxr,dxr,axr,Fxr):=hxr;let bxr:=gP (p1:=lN) (p2:=lO) Fxr λ_ _ _ _ _ _ _ _=>rfl;let(fxi,dxi,axi,ixi,oxi,Fxi):=hxi;let bxi:=i9 (p1:=lH) (p2:=lN) (p3:=lO) Fxi λ_ _ _ _ _ _ _ _ _=>rfl;let(fxN,dxN,axN,i5,oxN,FxN):=hxN;let bxN:=gT (p1:=lH) FxN λ_ _ _ _ _ _ _=>rfl;let(flb,dlb,alb,Flb):=hlb;let blb:=gT (p1:=lV) Flb λ_ _ _ _ _ _ _=>rfl;let(flu,dlu,alu,Flu):=hlu;let blu:=gT (p1:=lI) Flu λ_ _ _ _ _ _ _=>rfl;let(j8,dlt,alt,Flt):=je;let blt:=gT (p1:=mj) Flt λ_ _ _ _ _ _ _=>rfl;let(fgl,dgl,agl,Fgl):=fc;let bgl:=gT (p1:=lM) Fgl λ_ _ _ _ _ _ _=>rfl;let(fgi,dgi,agi,Fgi):=hgi;let bgi:=gT (p1:=nH) Fgi λ_ _ _ _ _ _ _=>rfl;let(fdS,jj,adS,idS,odS,FdS):=hdS;let bdS:=gP (p1:=lH) (p2:=pe) FdS λ_ _ _ _ _ _ _ _=>rfl;let(fdP,ddP,adP,idP,odP,FdP):=hdP;let bdP:=gP (p1:=lH) (p2:=pY) FdP λ_ _ _ _ _ _ _ _=>rfl;let(fdB,ddB,adB,idB,odB,FdB):=hdB;let bdB:=gP (p1:=lH) (p2:=oj) FdB λ_ _ _ _ _ _ _ _=>rfl;let(fdA,ddA,adA,idA,odA,FdA):=hdA;let bdA:=gP (p1:=lH) (p2:=oj) FdA λ_ _ _ _ _ _ _ _=>rfl;let(fdC,ddC,adC,idC,odC,FdC):=hdC;let bdC:=gT (p1:=lH) FdC λ_ _ _ _ _ _ _=>rfl;let(fdG,ddG,adG,idG,odG,FdG):=hdG;let bdG:=gP (p1:=lH) (p2:=oj) FdG λ_ _ _ _ _ _ _ _=>rfl;let(fdN,ddN,adN,idN,odN,FdN):=hdN;let bdN:=gT (p1:=lH) FdN λ_ _ _ _ _ _ _=>rfl;let(fgj,dgj,agj,Fgj):=hgj;let bgj:=i9 (p1:=oj) (p2:=oq) (p3:=me) Fgj λ_ _ _ _ _ _ _ _ _=>rfl;let(fmR,dmR,amR,imR,omR,FmR):=hmR;let bmR:=gT (p1:=lH) FmR λ_ _ _ _ _ _ _=>rfl;let(fmE,dmE,amE,imE,omE,FmE):=hmE;let bmE:=gP (p1:=lH) (p2:=me) FmE λ_ _ _ _ _ _ _ _=>rfl;let(fxK,dxK,axK,ixK,oxK,FxK):=hxK;let bxK:=gT (p1:=lH) FxK λ_ _ _ _ _ _ _=>rfl;let(flm,dlm,alm,Flm):=hlm;let blm:=i9 (p1:=mf) (p2:=m9) (p3:=lV) Flm λ_ _ _ _ _ _ _ _ _=>rfl;let(fsk,dsk,ask,Fsk):=hsk;let bsk:=gP (p1:=oq) (p2:=me) Fsk λ_ _ _ _ _ _ _ _=>rfl;let(fib,dib,aib,Fib):=hib;let bib:=gT (p1:=lM) Fib λ_ _ _ _ _ _ _=>rfl;let(fbN,dbN,abN,ibN,obN,FbN):=hbN;let bbN:=gT (p1:=lH) FbN λ_ _ _ _ _ _ _=>rfl;let(fbL,dbL,abL,ibL,obL,FbL):=hbL;let bbL:=gT (p1:=lH) FbL λ_ _ _ _ _ _ _=>rfl;let(fbG,dbG,abG,ibG,obG,FbG):=hbG;let bbG:=i9 (p1:=lH) (p2:=lK) (p3:=nZ) FbG λ_ _ _ _ _ _ _ _ _=>rfl;let(i7,dlg,alg,Flg):=hlg;let blg:=i9 (p1:=mf) (p2:=lX) (p3:=lV) Flg λ_ _ _ _ _ _ _ _ _=>rfl;let(flx,dlx,alx,Flx):=hlx;let blx:=gT (p1:=lI) Flx λ_ _ _ _ _ _ _=>rfl;let(fly,dly,aly,jP):=hly;let bly:=i9 (p1:=lI) (p2:=mj) (p3:=mi) jP λ_ _ _ _ _ _ _ _ _=>rfl;let(fbk,dbk,abk,ibk,obk,Fbk):=hbk;let bbk:=gT (p1:=lH) Fbk λ_ _ _ _ _ _ _=>rfl;let(fbQ,dbQ,abQ,ibQ,obQ,FbQ):=hbQ;let bbQ:=gP (p1:=lH) (p2:=me) FbQ λ_ _ _ _ _ _ _ _=>rfl;let(fpo,dpo,apo,Fpo):=hpo;let bpo:=gT (p1:=ml) Fpo λ_ _ _ _ _ _ _=>rfl;let(fgf,dgf,agf,Fgf):=hgf;let bgf:=gT (p1:=ml) Fgf λ_ _ _ _ _ _ _=>rfl;let(fgp,dgp,agp,Fgp):=hgp;let bgp:=gP (p1:=ml) (p2:=my) Fgp λ_ _ _ _ _ _ _ _=>rfl;let(fge,dge,age,Fge):=hge;let bge:=i9 (p1:=ml) (p2:="at") (p3:=my) Fge λ_ _ _ _ _ _ _ _ _=>rfl;let(fgn,dgn,agn,Fgn):=hgn;let bgn:=i9 (p1:=lN) (p2:=pY) (p3:=nQ) Fgn λ_ _ _ _ _ _ _ _ _=>rfl;let(fgo,dgo,ago,Fgo):=hgo;let bgo:=i9 (p1:=lN) (p2:=nH) (p3:=nQ) Fgo λ_ _ _ _ _ _ _ _ _=>rfl;let(fdI,ddI,adI,idI,odI,FdI):=hdI;let bdI:=gT (p1:=lH) FdI λ_ _ _ _ _ _ _=>rfl;let(fti,dti,ati,iti,oti,Fti):=hti;let bti:=gP (p1:=lH) (p2:="at") Fti λ_ _ _ _ _ _ _ _=>rfl;let(fle,dle,ale,Fle):=hle;let ble:=bi4 (p1:=lI) (p2:=nr) (p3:=oO) (p4:="_law_deep") Fle λ_ _ _ _ _ _ _ _ _ _=>rfl;let(flp,dlp,alp,Flp):=hlp;let blp:=i9 (p1:=lI) (p2:=nh) (p3:="_law_rank") Flp λ_ _ _ _ _ _ _ _ _=>rfl;let(flf,dlf,alf,Flf):=hlf;let blf:=i9 (p1:=lI) (p2:=nr) (p3:=oO) Flf λ_ _ _ _ _ _ _ _ _=>rfl;let(flw,dlw,alw,Flw):=hlw;let blw:=gT (p1:=mv) Flw λ_ _ _ _ _ _ _=>rfl;let(flo,dlo,alo,Flo):=hlo;let blo:=gT (p1:=mq) Flo λ_ _ _ _ _ _ _=>rfl;let(fga,dga,aga,Fga):=hga;let bga:=gT (p1:=lM) Fga λ_ _ _ _ _ _ _=>rfl;let(frk,drk,ark,Frk):=hrk;let brk:=i9 (p1:=lN) (p2:=ml) (p3:=nQ) Frk λ_ _ _ _ _ _ _ _ _=>rfl;let(fmd,dmd,amd,Fmd):=hmd;let bmd:=gP (p1:=lN) (p2:=lO) Fmd λ_ _ _ _ _ _ _ _=>rfl;let(fri,dri,ari,iri,ori,Fri):=hri;let bri:=gP (p1:=lH) (p2:=nk) Fri λ_ _ _ _ _ _ _ _=>rfl;let(flq,dlq,alq,Flq):=hlq;let blq:=bi4 (p1:=nh) (p2:=pA) (p3:=pU) (p4:=oQ) Flq λ_ _ _ _ _ _ _ _ _ _=>rfl;let(fva,dva,ava,Fva):=hva;let bva:=gP (p1:=lN) (p2:=lM) Fva λ_ _ _ _ _ _ _ _=>rfl;let(fvo,dvo,avo,Fvo):=hvo;let bvo:=gP (p1:=lN) (p2:=mQ) Fvo λ_ _ _ _ _ _ _ _=>rfl;let(fuu,duu,auu,Fuu):=huu;let buu:=gP (p1:=oq) (p2:=me) Fuu λ_ _ _ _ _ _ _ _=>rfl;let(fuw,duw,auw,Fuw):=huw;let buw:=gP (p1:=oq) (p2:=me) Fuw λ_ _ _ _ _ _ _ _=>rfl;let(fut,dut,aut,Fut):=hut;let but:=gT (p1:=oq) Fut λ_ _ _ _ _ _ _=>rfl;let(fbE,dbE,abE,ibE,obE,FbE):=hbE;let bbE:=gP (p1:=lH) (p2:=lK) FbE λ_ _ _ _ _ _ _ _=>rfl;let(fbV,dbV,abV,ibV,obV,FbV):=hbV;let bbV:=gP (p1:=lH) (p2:=lK) FbV λ_ _ _ _ _ _ _ _=>rfl;let(fbC,dbC,abC,ibC,obC,FbC):=hbC;let bbC:=gP (p1:=lH) (p2:=lK) FbC λ_ _ _ _ _ _ _ _=>rfl;let(fbP,dbP,abP,ibP,obP,FbP):=hbP;let bbP:=i9 (p1:=lH) (p2:=lK) (p3:=mQ) FbP λ_ _ _ _ _ _ _ _ _=>rfl;let(fbM,dbM,abM,ibM,obM,FbM):=hbM;let bbM:=i9 (p1:=lH) (p2:=lK) (p3:="more") FbM λ_ _ _ _ _ _ _ _ _=>rfl;let(fbU,dbU,abU,ibU,obU,FbU):=hbU;let bbU:=i9 (p1:=lH) (p2:=lK) (p3:="less") FbU λ_ _ _ _ _ _ _ _ _=>rfl;let(fbT,dbT,abT,ibT,obT,FbT):=hbT;let bbT:=gP (p1:=lH) (p2:=lK) FbT λ_ _ _ _ _ _ _ _=>rfl;let(fbD,dbD,abD,ibD,obD,FbD):=hbD;let bbD:=gP (p1:=lH) (p2:=lK) FbD λ_ _ _ _ _ _ _ _=>rfl;let(fbK,dbK,abK,ibK,obK,FbK):=hbK;let bbK:=gT (p1:=lH) FbK λ_ _ _ _ _ _ _=>rfl;let(fbR,dbR,abR,ibR,obR,FbR):=hbR;let bbR:=i9 (p1:=lH) (p2:=lK) (p3:=ml) FbR λ_ _ _ _ _ _ _ _ _=>rfl;let(fbI,dbI,abI,ibI,obI,FbI):=hbI;let bbI:=gP (p1:=lH) (p2:=lN) FbI λ_ _ _ _ _ _ _ _=>rfl;let(flk,dlk,alk,Flk):=hlk;let blk:=gP (p1:=lJ) (p2:=mf) Flk λ_ _ _ _ _ _ _ _=>rfl;let(flB,dlB,alB,FlB):=hlB;let blB:=gP (p1:=lI) (p2:=mi) FlB λ_ _ _ _ _ _ _ _=>rfl;let(fbo,dbo,abo,Fbo):=hbo;let bbo:=gP (p1:=lN) (p2:=mZ) Fbo λ_ _ _ _ _ _ _ _=>rfl;let(fsd,dsd,asd,Fsd):=hsd;let bsd:=gT (p1:="book") Fsd λ_ _ _ _ _ _ _=>rfl;let(fwk,dwk,awk,Fwk):=hwk;let bwk:=gT (p1:=ml) Fwk λ_ _ _ _ _ _ _=>rfl;show(fO pR pR Kb .none kVla dcla pmla anla (.ref c) ctla,λs v=>.of_eq zd,λbase _ _ hTT=>?_);let Fs2:iX K m7 m7 DX fs2 (fO m7 m7 DX .none kVs2 dcs2 pms2 ans2 (.ref jX) cts2) jX:=⟨(_,_,_,_,_,_,_,_,rfl,ls2,c_s2)⟩;let Fs3:iX K mh mh BV fs3 (fO mh mh BV .none kVs3 dcs3 pms3 ans3 (.ref kg) cts3) kg:=⟨(_,_,_,_,_,_,_,_,rfl,ls3,c_s3)⟩;let o:=@fnT l.prog w K mg base;let Q:=@mtT l.prog w K mg base;let Gwh:=o (sp:=spIsWhole) Fwh (Pb Fwh B) (a awh) bwh;let Gnm:=o (sp:=spIsName) Fnm (SB Fnm B hL) (a anm) bnm;let Guo:=o (sp:=(spUnionOf K)) Fuo (PX Fuo) (a auo) buo;let Gnx:=o (sp:=(spNextMark K)) Fnx (Ny Fnx B) (a anx) bnx;let Goo:=o (sp:=(DK K)) Foo (Pa Foo B) (a aoo) boo;let Gno:=o (sp:=spIsNamesOf) Fno (MY Fno B Goo) (a ano) bno;let Gth:=o (sp:=spThing) Fth (UK Fth B Gnx Gno Guo Gwh) (a ath) bth;let Gro:=o (sp:=spRow) Fro (YC Fro B hG Gnm Gth) (a aro) bro;let Gnb:=o (sp:=spNumbered) Fnb (N1 Fnb B hM Gro) (a anb) bnb;let Gfi:=o (sp:=spFirsts) Ffi (SJ Ffi) (a afi) bfi;let GmK:=Q (sp:=(spKnown C)) amK imK FmK (UR FmK B T Guo) bmK;let GmN:=Q (sp:=(spNumber C)) amN imN FmN (SW FmN T Goo) bmN;let GmT:=Q (sp:=(spRest C)) amT imT FmT (WU FmT T) bmT;let Glc:=o (sp:=(spCell K)) Flc (WO Flc B) (a alc) blc;let Gld:=o (sp:=spDrawn) Fld (UT Fld) (a ald) bld;let Glr:=o (sp:=gE) Flr (WP Flr Gld) (a alr) blr;let Gls:=o (sp:=(spRounds K)) Fls (SN Fls B Glc) (a als) bls;let Gll:=o (sp:=spLines) Fll (Ub Fll B Glr) (a all) bll;let Gxn:=o (sp:=spIsNumber) Fxn (Md Fxn hLi Gwh) (a axn) bxn;let Gxr:=o (sp:=(spRestOf C)) Fxr (SY Fxr T GmK) (a axr) bxr;let Gxi:=Q (sp:=(spVInit C I)) axi ixi Fxi (OB Fxi T VT Gxn Gxr GmT) bxi;let GxN:=Q (sp:=(gg I)) axN i5 FxN (Pi FxN VT) bxN;let Glb:=o (sp:=spBitsOf) Flb (SQ Flb B) (a alb) blb;let Glu:=o (sp:=spRuleOf) Flu (SM Flu Glr) (a alu) blu;let Glt:=o (sp:=spTable) Flt (Uf Flt B Glb) (a alt) blt;let Ggl:=o (sp:=spLet) Fgl (YV Fgl B) (a agl) bgl;let Ggi:=o (sp:=spLi) Fgi (Zs Fgi B Ggl) (a agi) bgi;let GdS:=Q (sp:=(spSet F bd)) adS idS FdS (YZ FdS B DT (a vBD)) bdS;let GdP:=Q (sp:=(spTP F)) adP idP FdP (Ze FdP DT) bdP;let GdB:=Q (sp:=(spTB F bd)) adB idB FdB (Zj FdB DT (a vBD) (a vJN) jT GdS) bdB;let GdA:=Q (sp:=(spTA F)) adA idA FdA (Zk FdA DT) bdA;let GdC:=Q (sp:=(spTC F bd)) adC idC FdC (Zl FdC B DT (a vLB) GdS) bdC;let GdG:=Q (sp:=(spTS F bd)) adG idG FdG (Zm FdG DT GdB GdA GdC) bdG;let GdN:=Q (sp:=(spEnds F bd)) adN idN FdN (Wi FdN B DT (a vLB) GdS) bdN;let Ggj:=o (sp:=spJn) Fgj (Zp Fgj) (a agj) bgj;let GmR:=Q (sp:=(spRows C)) amR imR FmR (WM FmR B T) bmR;let GmE:=Q (sp:=(spEqK C)) amE imE FmE (YN FmE B T KI mCg GmR) bmE;let GxK:=Q (sp:=(spVKind I)) axK ixK FxK (Uh FxK VT) bxK;let Glm:=o (sp:=spLMade) Flm (Ur Flm) (a alm) blm;let Gsk:=o (sp:=(spSK C I)) Fsk (Z1 Fsk VT GxK GmE qeC qm) (a ask) bsk;let Gib:=o (sp:=spIb) Fib (aE Fib B (a vLN)) (a aib) bib;let GbN:=Q (sp:=(spNs d C)) abN ibN FbN (Z9 FbN B J) bbN;let GbL:=Q (sp:=(spLn d C)) abL ibL FbL (aA FbL B J) bbL;let GbG:=Q (sp:=(iT d C I)) abG ibG FbG (aB FbG J VT GxN) bbG;let Glg:=o (sp:=spLgv) Flg (Yg Flg B (D y)) (a alg) blg;let Glx:=o (sp:=spLwo) Flx (Yh Flx Glr) (a alx) blx;let Gly:=o (sp:=spLn') jP (Yi jP B Glr) (a aly) bly;let Gbk:=Q (sp:=(spBk d C)) abk ibk Fbk (ad Fbk J) bbk;let GbQ:=Q (sp:=(spBe d C)) abQ ibQ FbQ (aZ FbQ B J BI (D5 q.ql q.qy dsB) (a aBC) GmE) bbQ;let Gpo:=o (sp:=spPo) Fpo (af Fpo) (a apo) bpo;let GW:FnS l.prog w K mg base nv 1 [mv] (Ef K (λi=>([e0,e1,e2,e3,e4,Z,e6,e7,e8,e9,r]:List l7).getD i 0)):=⟨(_,_,WZ Flw B M,a alw,Flw.kp,blw)⟩;let ME:YT l.prog w K mg base cM:=(a aM,xmg,xmr,(_,_,xmf,Ee Fei (D z_VE),kei,Q7 dtl));let EO5:hX l.prog w K mg base mG Z:=(a aX5,(_,_,(y5.F.cx,y5.i,iei,(_,lei,rfl),y5.F.ke),Ee Fei (D z_VE),Q7 dtl));let EO6:hX l.prog w K mg base nO e6:=(a aX6,(_,_,(y6.F.cx,y6.i,iei,(_,lei,rfl),y6.F.ke),Ee Fei (D z_VE),Q7 dtl));let EO10:hX l.prog w K mg base nz r:=(a aX10,(_,_,(y10.F.cx,y10.i,iei,(_,lei,rfl),y10.F.ke),Ee Fei (D z_VE),Q7 dtl));let VO:I0 l.prog w K mg base C I:=(VT,mVg,(_,_,(p.mz,axi,ixi,p.kc),OB Fxi T VT Gxn Gxr GmT,bxi));let GnG:=o (sp:=Pm) Fxn (Qc Fxn hLi Gwh) (a axn) bxn;let Ggf:=o (sp:=spFig) Fgf (YU Fgf B GnG) (a agf) bgf;let Ggp:=o (sp:=spPart) Fgp (Wf Fgp Gnm Ggf Ggl) (a agp) bgp;let Gge:=o (sp:=spPE) Fge (Wg Fge B Ggp) (a age) bge;let RD:Zn l.prog w K mg base F bd:=(DT,a aDC,(_,_,(fDC.mz,adI,idI,fDC.kc),YX FdI DT,bdI),GdP,GdG,GdN);let Fst:=fun_mk (st:=DW) lst cst kst
 let k2o:nsOkIn K k2=true:=by
  unfold nsOkIn;rw[k2l];show k2e
 let SO:Zu l.prog w K mg base F bd:=⟨(_,_,Zo Fst B RD Gge,a ast,kst,_,XA k2o k2n,.cons rfl .nil)⟩;let Ggn:=o (sp:=spPN C) Fgn (Zq Fgn B T Ggl Gnm GmN) (a agn) bgn;let Ggo:=o (sp:=spNo C) Fgo (Zr Fgo T (a vJN) jT GmK Ggj Ggn) (a ago) bgo;let Gle:Fn l.prog w K mg base og 6 KF (spTree 3):=⟨(_,_,Ql Fle B (a ale) ble Glr 3,a ale,Fle.kp,ble)⟩;let Glp:Fn l.prog w K mg base ni 6 Pq (spWrt 3):=⟨(_,_,U3 Flp B (a alp) blp Glr 3,a alp,Flp.kp,blp)⟩;let Glf:Fn l.prog w K mg base oP 7 Qo spForm:=⟨(_,_,Wm Flf B Gle Glp,a alf,Flf.kp,blf)⟩;let RO:Pk l.prog w K mg base cM e1:=(a aX1,(_,_,(xc1,ari,iri,ori,y1.F.ke),OC Fri ME,bri),Q8 y1.s y1.gn y1.gs);let Gmd:kh l.prog w K mg base "made" 6 [lN,lO] (spMade C I e1):=⟨(_,_,We Fmd hLi T VO RO Gwh Gxr GmT,a amd,Fmd.kp,bmd)⟩;let Gga:=o (sp:=spTab) Fga (Yb Fga B (D y) Ggl Gxn) (a aga) bga;let Grk:kh l.prog w K mg base p0 7 [lN,ml,nQ] (spRk C I e1 e6 bd):=⟨(_,_,Zv Frk B EO6 SO Ggi Gga Ggo Gmd,a ark,Frk.kp,brk)⟩;let GrB:=o (sp:=spRollB) Flr (N6 Flr Gld) (a alr) blr;let Glq:Fn l.prog w K mg base oh 5 KG (spCome 3):=⟨(_,_,Qq Flq (a alq) blq 3,a alq,Flq.kp,blq)⟩;let Guu:=o (sp:=spOp kX C I) Fuu (Z2 Fuu VO GxN Gsk) (a auu) buu;let Guw:=o (sp:=spOp KS C I) Fuw (Z3 Fuw VO GxN Gsk) (a auw) buw;let Gut:=o (sp:=spTu C I) Fut (Z4 Fut T VO GxN GxK GmK) (a aut) but;let Gva:kh l.prog w K mg base oY 4 [lN,lM] (spVa C I e1):=⟨(_,_,aL Fva B VI mVg vI RO Gxr,a ava,Fva.kp,bva)⟩;let Gvo:=o (sp:=spVo C I) Fvo (aD Fvo B T VO Guo GmN) (a avo) bvo;let GbE:CJ l.prog w K mg base d qG 3 [lH,lK] (spEn d C Z):=⟨(_,_,Z6 FbE J EO5 Goo,(abE,ibE,FbE.kp),bbE)⟩;let GbV:CJ l.prog w K mg base d nZ 6 [lH,lK] (spVl d C I Z):=⟨(_,_,Z7 FbV J VO GbE,(abV,ibV,FbV.kp),bbV)⟩;let GbC:CJ l.prog w K mg base d pQ 4 [lH,lK] (spCh d C):=⟨(_,_,Z8 FbC J GbE,(abC,ibC,FbC.kp),bbC)⟩;let GbP:CJ l.prog w K mg base d "put" 7 [lH,lK,mQ] (spPu d C):=⟨(_,_,aF FbP J Gib Gvo GbG,(abP,ibP,FbP.kp),bbP)⟩;let GbM:CJ l.prog w K mg base d "mark" 7 [lH,lK,"more"] (spMr kX d C Z):=⟨(_,_,aG FbM J Guu Gvo GbV GbG,(abM,ibM,FbM.kp),bbM)⟩;let GbU:CJ l.prog w K mg base d "unmark" 7 [lH,lK,"less"] (spMr KS d C Z):=⟨(_,_,aH FbU J Guw Gvo GbV GbG,(abU,ibU,FbU.kp),bbU)⟩;let GbT:CJ l.prog w K mg base d "turn" 7 [lH,lK] (spTn d C Z):=⟨(_,_,aI FbT J Gut GbV GbG,(abT,ibT,FbT.kp),bbT)⟩;let GbD:CJ l.prog w K mg base d qo 4 [lH,lK] (spDr d C Z):=⟨(_,_,aJ FbD J GbE,(abD,ibD,FbD.kp),bbD)⟩;let GbK:CJ l.prog w K mg base d pG 3 [lH] (spTk d C r):=⟨(_,_,aK FbK B J EO10,(abK,ibK,FbK.kp),bbK)⟩;let GbR:CJ l.prog w K mg base d "reckon" 8 [lH,lK,ml] (spRc d C e1 e6 bd):=⟨(_,_,aN FbR B J Gib Gva Grk GbG,(abR,ibR,FbR.kp),bbR)⟩;let BO:Wu l.prog w K mg base d C:=(J,a aBC,(_,_,(q.mz,abI,ibI,q.kc),aP FbI J,bbI));let Glk:=o (sp:=spBl d C) Flk (aS Flk B J VT GbN GbL GbV GbC GxN) (a alk) blk;let TB:TdB l.prog w K mg base (λi=>([e0,e1,e2,e3,e4,Z,e6,e7,e8,e9,r]:List l7).getD i 0) cM:=((_,_,Flo,a alo,blo),M,EX,GW);let(hC1,hBu1):=hTT _ (zE ..);let(hC2,hBu2):=hTT _ (zN _ (zE ..));let(hC3,hBu3):=hTT _ (zN _ (zN _ (zE ..)));let un:=Xa (T:=[(P0,q1,(jq)),(z,q2,(jo)),(E,q3,(jm))]) pd;let hT1:(P0,q1,(jq))∈([(P0,q1,(jq)),(z,q2,(jo)),(E,q3,(jm))]:List (l7×Str×List Pos)):=zE ..;let hT2:(z,q2,(jo))∈([(P0,q1,(jq)),(z,q2,(jo)),(E,q3,(jm))]:List (l7×Str×List Pos)):=zN _ (zE ..);let hT3:(E,q3,(jm))∈([(P0,q1,(jq)),(z,q2,(jo)),(E,q3,(jm))]:List (l7×Str×List Pos)):=zN _ (zN _ (zE ..));let bs2:=bi5 (p1:=lI) (p2:=lJ) (p3:=nV) (p4:=mj) (p5:=m9) (fun_mk (st:=DX) ls2 c_s2 ks2) λ_ _ _ _ _ _ _ _ _ _ _=>rfl;let bs3:=bi6 (p1:=lI) (p2:=lJ) (p3:=nV) (p4:=mj) (p5:=m9) (p6:=lX) (fun_mk (st:=BV) ls3 c_s3 ks3) λ_ _ _ _ _ _ _ _ _ _ _ _=>rfl;let Gs3:Fn l.prog w K mg base mh 11 pLr (spLr K d C bd [(P0,q1,(jq)),(z,q2,(jo)),(E,q3,(jm))]):=⟨(_,_,aX Fs3 hC3 hBu3 TB hT3 (un _ hT3) B J EFR EPN6 Glt Glg Glf Glq Glm GbR,a as3,ks3,bs3)⟩;let Gs2:Fn l.prog w K mg base m7 12 pLs (spLs K d C bd [(P0,q1,(jq)),(z,q2,(jo)),(E,q3,(jm))]):=⟨(_,_,aW Fs2 hC2 hBu2 TB hT2 (un _ hT2) B (D y) J EPB5 EPN10 Glt Glx GrB Gly Glg GbP GbM GbU GbT GbD GbK Gs3,a as2,ks2,bs2)⟩;let KO:Mm l.prog w K mg base C:=(T,mCg,(_,_,(fC.mz,ain,iin,fC.kc),WK Fin B T hR rT Gnb Gfi Goo,_,W0));let GlB:=o (sp:=spLb d C bd [(P0,q1,(jq)),(z,q2,(jo)),(E,q3,(jm))]) FlB (aY FlB B KO BO Gll Glu GrB Gs2) (a alB) blB;let TX:Q3 l.prog w K mg base cM e2:=(a aX2,(_,_,(xc2,ati,iti,oti,y2.F.ke),OT Fti ME,bti),Q8 y2.s y2.gn y2.gs);let Gbo:=o (sp:=spBo d C) Fbo (ah Fbo (D y) BO) (a abo) bbo;let Gsd:=o (sp:=spSd d C) Fsd (ae Fsd B J T VT (a vEN) Gbk GmR GmT GbN GxN GbV GbC) (a asd) bsd;let Gwk:kh l.prog w K mg base qH 9 [ml] (spWk K d C e2):=⟨(_,_,ai Fwk B (a vEN) TX KO Gpo Gbo,a awk,Fwk.kp,bwk)⟩;show Yx Fla (hC1,hBu1,TB,hT1,un,B,J,BO,KO,qeC,qm,q.ne,q.qm,dsB,EPN10,EFT,GmE,GbQ,Gls,GlB,GrB,Gsd,Gwk,Glk,Gbk,GbK,GbP)
theorem walk{l:OpenLaw}{q:Program}{loose:lr}{XP:(Str->Option Value)->Heap->Prop}{YP:World->Heap->Prop}{d:DefRec}{K:Params->Frag}{c P0 jX Ps2 kg Ps3 bd:l7}{dl:List DcE}{ep:Nat}(hn:l.most=U 63)(hdf:d.params.defaults=[])(hb5:5<=bd)(jF:dl.3<=1000)(kJ:(dl.5 (·.1)).29)(he:kf dl=Dd)
  (hY:∀(w:World)(h:Heap),YP w h->(K w.60).In h/\(∀t∈([(c,(P0)),(jX,(Ps2)),(kg,(Ps3))]:List (l7×l7)),h.13 t.2=U (tabObj #[])/\(K w.60).8 t.2=J/\CodeHd h t.1 t.2)/\h.13 bd=U (dcObj w.60 dl ep)/\(K w.60).8 bd=J)
  (F:∀(w:World)(mg:SV)(fa:l7)(h:Heap),(K w.60).In h->h.Ns mainGlobals mg->mg d.name=U (.ref fa) ->
   ∃fd:FuncData,(∀(s:lG)(u:Value),BindsTo s fd ([u],[]) [(ma,(u))])/\∀base:Heap,(K w.60).In base->base.Ns mainGlobals mg->(∀t∈([(c,(P0)),(jX,(Ps2)),(kg,(Ps3))]:List (l7×l7)),CodeHd base t.1 t.2/\base.48 mg t.2)->AT l.14 w (K w.60) mg base eK 14 fa fd [ma] (Q6 (K w.60) [(P0,q1,(jq)),(Ps2,q2,(jo)),(Ps3,q3,(jm))] bd)):
  WalkO q loose XP YP l.row.toRowW d [] (λf vs=>PySem.call f vs):=
 L2.Tw (n:=63) (k:=14) (x:=ma) (CX:=λ_=>eK) (sp:=λw=>Q6 (K w.60) [(P0,q1,(jq)),(Ps2,q2,(jo)),(Ps3,q3,(jm))] bd) hn qc hdf (rfl,qc,qc) hb5 jF kJ hY F
  (λ_ _ a ns hl hP hB hS=>(a,ns,rfl,hS,hl,λp hp=>by
   simp only[mem_cons,not_mem_nil,or_false]at hp;let rfl||rfl||rfl:=hp
   ·show(#[],hP (c,(P0)) (zE ..),trivial,λ_ _=>.inl Y)
   ·show(#[],hP (jX,(Ps2)) (zN _ (zE ..)),trivial,λ_ _=>.inl Y)
   ·show(#[],hP (kg,(Ps3)) (zN _ (zN _ (zE ..))),trivial,λ_ _=>.inl Y),he ▸ hB,λ_=>rfl)) λ_ _ _ _ _ z=>z
end
end Mk
end
end
noncomputable section
open PySem PySem.W PySem.Calls PyProof.Rows
noncomputable abbrev Mk.dl:List L2.DcE:=[("(",792,0,793),("|",794,1,795),("^",796,2,797),("&",798,3,799),("~",800,4,801)]
noncomputable abbrev Mk.ep:Nat:=5
theorem Mk.tree (P:Params):absHeap (Mq.T0 P) (nat_lit 11) {}=boot_heap P:=by kernel_rfl
theorem Mk.size (w:World):((boot_heap w.params).isNs mainGlobals,(boot_heap w.params).objs.size,(boot_heap w.params).nsMap mainGlobals "__annotations__")=(true,(nat_lit 11),some (.ref (nat_lit 6))):=by kernel_rfl
theorem Mk.opens (w:World):(fencedOpening treeTable PySem.Challenge.pw_markworks_k73_whole_saved_and_woken w (nat_lit 14006)).map (fun s=>(s.heap,s.gens,s.drawn,s.toks))=some (boot_heap w.params,#[],boot_drawn,boot_toks):=boot_open qd qc (fun s=>qd) w
theorem Mk.run_q (w:World) (os:OsState):Mq.RQ w os:=by
 have e:=Mq.sF_eq w
 cases h:w.params.followText "special-get-raises" with
 |true=>rw[h]at e;rw[←e];exact Mq.run_t w os
 |false=>rw[h]at e;rw[←e];exact Mq.run_f w os
theorem Mk.left:LeftO PySem.Challenge.pw_markworks_k73_whole_saved_and_woken Mq.qv Mq.loose Mq.Xt (fun s=>Mq.Kas.map s.heap.get?) (fun w=>(Mq.Kf w.params).map fun x=>some x.2) (nat_lit 14006):=by
 refine Hd.left_of (M:=nat_lit 6955) (T0:=Mq.T0) Mk.opens Mk.tree Mk.size qc fun w os=>?_
 have h:=Mk.run_q w os
 unfold Mq.RQ at h
 rw[←Fast.te8257016192812374322,←Fast.te16599536794577742827,←Fast.te14364793385576792824]at h
 exact h
theorem Mk.wsB:PySem.Challenge.rw_markworks_k73_whole_saved_and_woken.wellSaid=true:=by
 unfold OpenLaw.wellSaid
 repeat' with_reducible refine look_both ?_ ?_
 exact Mq.wsA
 all_goals kernel_rfl
theorem Mk.in_of {K:Frag}{h:Heap}{a:Addr}{o:Obj} (X:Frag.In ((a,o)::K) h) (e:K.lookup a=none):K.In h/\h.get? a=some o:=⟨fun b o' z=>X b o' (by
  rw[List.lookup_cons]
  cases q:(b== a)with
  |false=>exact z
  |true=>rw[beq_iff_eq.mp q,e]at z;cases z),X _ _ (by rw[List.lookup_cons,beq_self_eq_true])⟩
theorem Mk.kg_in {P:Params}{h:Heap} (X:(Mq.Kf P).In h):(Mq.Kg P).In h/\(∀t∈([(937,933),(918,914),(923,921)]:List (Addr×Addr)),h.get? t.2=some (tabObj #[])/\(Mq.Kg P).lookup t.2=none/\CodeHd h t.1 t.2)/\h.get? 477=some (L2.dcObj P Mk.dl Mk.ep)/\(Mq.Kg P).lookup 477=none:=by
 obtain⟨X,h0⟩:=Mk.in_of X qd
 obtain⟨X,h1⟩:=Mk.in_of X qd
 obtain⟨X,h2⟩:=Mk.in_of X qd
 obtain⟨X,hd⟩:=Mk.in_of X qd
 refine⟨X,fun t ht=>?_,hd,qd⟩
 simp only[List.mem_cons,List.not_mem_nil,or_false]at ht
 rcases ht with rfl|rfl|rfl
 · exact⟨h0,qd,Mk.codeHd_of X qd⟩
 · exact⟨h1,qd,Mk.codeHd_of X qd⟩
 · exact⟨h2,qd,Mk.codeHd_of X qd⟩
def Mk.dL:DefRec:=⟨"law",L2.defArgs (Mk.top (nat_lit 94)),L2.defBody (Mk.top (nat_lit 94)),L2.defScope (Mk.top (nat_lit 94)),match Mk.top (nat_lit 94)with|.FunctionDef _ _ _ _ _ _ _ _ _ p=>p|_=>⟨0,0,0,0⟩⟩
end
open PySem PySem.W PyProof.Rows
set_option maxRecDepth 100000 in
set_option maxHeartbeats 0 in
theorem PySem.Challenge.cw_markworks_k73_whole_saved_and_woken_holds : PySem.Challenge.rw_markworks_k73_whole_saved_and_woken.Holds := by
 w_on
 refine PySem.W.holds_law Mk.wsB fun said=>?_
 refine PySem.W.holds_open (r:=PySem.Challenge.rw_markworks_k73_whole_saved_and_woken.row) (q:=Mq.qv) (loose:=Mq.loose) (Xt:=Mq.Xt) (XP:=XL Mq.qv []) (YP:=InK Mq.Kf) (d:=Mk.dL) (kwd:=[]) Mk.left
  (fun w s e=>InK.of (fun P=>qd) w s e) InK.keeps (fun s e=>xl_of s (Bool.and_eq_true_iff.mp e).1) XL.keeps qd qd qd (fun s e=>recFacts_of (Bool.and_eq_true_iff.mp e).2) (by rfl) (by assumption) qb ⟨rfl,rfl,rfl,rfl,rfl,qb⟩ ?hw ?hc
 case hw=>w_witness2
 have aux:Function.const _ True (PySem.Challenge.rw_markworks_k73_whole_saved_and_woken,Mq.Kg):=by k_fill;trivial
 refine Mk.walk (l:=PySem.Challenge.rw_markworks_k73_whole_saved_and_woken) (bd:=477) (dl:=Mk.dl) (ep:=Mk.ep) (K:=Mq.Kg) rfl rfl qc qc qb rfl (fun w h Y=>Mk.kg_in Y) ?F
 case F=>
  intro w mg fa h KX G hmg
  apply Mk.all_mk KX G hmg
  all_goals first
   | (show _=_;k_is)
   |kernel_rfl
   | (refine' ⟨_,_,?a1,L2.fun_mk ?b1 ?c1 ?d1⟩;case a1|b1|c1|d1=>k_is)
   | (refine' ⟨_,_,?a1,?i1,⟨_,?o1,?q1⟩,L2.fun_mk ?b1 ?c1 ?d1⟩;(case a1|i1|b1=>k_is);(case o1|q1=>first|rfl|k_is);case c1|d1=>k_is)
   | (constructor<;>k_is;done)
   | (simp;done)
   | (repeat' first|kernel_rfl|constructor)
