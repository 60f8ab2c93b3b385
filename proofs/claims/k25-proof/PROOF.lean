import PyProof.Rows.All
import Wide.All
import OpenK.AllK
import Wide.FinOn
import PySem.Challenge.RW_makes_k25_items_read
set_option genSizeOf false
set_option bootstrap.genMatcherCode false
noncomputable section
set_option maxHeartbeats 2000000
set_option Elab.async false
set_option linter.all false
set_option maxRecDepth 100000
local macro_rules | `(tactic| trivial) => `(tactic| first | exact .inl rfl | exact .inr rfl | rfl | decide | (intro _; rfl) | assumption | exact ⟨rfl, rfl, rfl, by decide +kernel, rfl, by decide +kernel, by decide +kernel⟩ | fail)
theorem QU{p:Prop}(h:p:=by omega):p:=h
theorem QA{p:Prop}(h:p:=by decide +kernel):p:=h
theorem QO{p:Prop}(h:p:=by trivial):p:=h
theorem QI{p:Prop}(h:p:=by decide):p:=h
theorem QE{p:Prop}(h:p:=by simp):p:=h
section
open PySem
noncomputable abbrev XY:List Str:=["_law_feed_here","_law_make_here","_law_name","_law_value_here"]
noncomputable abbrev XG:List Str:=["_law_feed_here","_law_make_here","_law_name","_law_deep"]
noncomputable abbrev XF:List Str:=["_law_make_here","_law_name","_law_item_here","_law_path"]
noncomputable abbrev XB:List Str:=["_law_make_here","_law_name","_law_item_here"]
noncomputable abbrev XM:List Str:=["_law_make_here","_law_name","_law_value_here"]
noncomputable abbrev XD:List Str:=["_law_feed_here","_law_make_here","_law_shape","_law_deep"]
noncomputable abbrev XT:List Str:=["make","name","item","path"]
noncomputable abbrev XC:List Str:=["_law_make_here","_law_shape","_law_parts_here","_law_path"]
noncomputable abbrev XN:List Str:=["_law_feed_here","_law_many"]
noncomputable abbrev XR:List Str:=["_law_feed_here","_law_deep"]
noncomputable abbrev XS:List Str:=["make","shape","item","path"]
noncomputable abbrev XH:List Str:=["_law_feed_here","_law_sort","_law_parts_here"]
noncomputable abbrev XU:List Str:=["_law_make_here","_law_shape","_law_pairs","_law_path"]
noncomputable abbrev XA:List Str:=["_law_feed_here","_law_item_here"]
noncomputable abbrev XI:List Str:=["_law_feed_here","_law_names_here","_law_shapes"]
noncomputable abbrev QZ:List Str:=["_law_feed_here","_law_numbers_here"]
noncomputable abbrev QQ:List Str:=["_law_feed_here","_law_shape"]
noncomputable abbrev QJ:List Str:=["_law_feed_here","_law_names_here"]
noncomputable abbrev QW:List Str:=["self","path"]
noncomputable abbrev QY:List Str:=["_law_script"]
noncomputable abbrev QK:List Str:=["_law_feed_here","_law_most"]
noncomputable abbrev QG:List Str:=["make","name","item"]
noncomputable abbrev QF:List Str:=["row","map","rec"]
noncomputable abbrev QB:List Str:=["shape"]
noncomputable abbrev QM:List Str:=["make","name"]
noncomputable abbrev QD:List Str:=["_law_number","_law_numbers_here","_law_feed_here"]
noncomputable abbrev QT:List Str:=["shape","item"]
noncomputable abbrev QC:List Str:=["_law_feed_here"]
noncomputable abbrev QN:List Str:=["shape","number"]
noncomputable abbrev QL:List Str:=["_law_k","_law_keys","_law_some"]
noncomputable abbrev QR:List Str:=["_law_number","_law_feed_here"]
noncomputable abbrev QS:List Str:=["field"]
noncomputable abbrev QH:List Str:=["map","rec"]
end
def XZ:=@List.find?_eq_none
def ZE:=@Int.toNat_natCast
def ZI:=@List.length_range
def ZO:=@List.append_nil
def ZA:=@List.append_assoc
def ZU:=@List.length_singleton
section
open PySem
abbrev ZQ:=Value->Shared->Prop
abbrev ZJ:=Str->Option Value
abbrev ZW:=List (Addr×Obj)
abbrev ZV:=List (Str×NameKind)
abbrev ZY:=List (Option Nat)
abbrev ZK:=Array (Option Value)
abbrev ZG:=List Value
abbrev ZF:=List Str
abbrev ZM:=Option Value
abbrev ZD:=List Expr
abbrev ZT:=Array Value
abbrev ZC:=List Int
abbrev ZN:=Option Int
abbrev ZL:=Array Nat
abbrev ZR:=Option Nat
abbrev ZS:=Option Addr
abbrev ZH:=List Addr
abbrev ZP:=Unit->Shared->Prop
end
section
open PySem PySem.Spec PyProof.Rows
def Yv:=@List.length_map
def V9:=@List.not_mem_nil
def Mw:=@List.size_toArray
def Nw:=@List.mem_singleton
def Gw:=@List.map_append
def Sd:=@decide_eq_true
def Yt:=@Nat.le_refl
def Zn:=@wpAny_bind
def Z4:=@wpAny_pure
def G3:=@List.mem_map
def Jb:=@List.getElem?_map
def Bl:=@List.getElem?_eq_some_iff
def M6:=@List.mem_append
def Cy:=@Option.map_eq_some_iff
def Nl:=@List.length_append
def Fk:=@Option.some.inj
def Br:=@List.mem_cons_self
def Ck:=@List.mem_cons_of_mem
def G0l:=@List.getElem?_append_left
def G0e:=@List.getElem_mem
def Cr:=@List.mem_of_getElem?
def xp:=@Bool.false_eq_true
def Bh:=@List.getElem?_eq_getElem
def ij:=@beq_eq_false_iff_ne
def R0:=@Nat.lt_of_lt_of_le
def R1:=@List.length_cons
def Mu:=@List.map_cons
def Uz:=@Heap.get?_push_of_some
def U8:=@List.mem_cons
def B0s:=@beq_self_eq_true
def Sh:=@of_decide_eq_true
def oj:=@Bool.and_eq_true
def Vf:=@Nat.le_trans
def Cg:=@Bool.false_ne_true
def M7:=@Heap.get?_push_size
def Ut:=@Heap.lt_size
def Cs:=@List.length_take
def T0l:=@List.take_of_length_le
def B0x:=@Bool.false_and
def Qe:=@Nat.lt_of_le_of_lt
def Dc:=@Nat.zero_le
def xt:=@Array.length_toList
def Nj:=@Nat.ne_of_lt
def A0t:=@List.all_eq_true
def B0z:=@Bool.and_eq_true_iff
def F9:=@decide_eq_false
def L0z:=@List.length_zipWith
def nj:=@List.mem_append_right
def Ss:=@List.take_length
def ow:=@Array.getElem?_eq_getElem
abbrev Ya:=Value->Shared->Prop
abbrev Vs:=ZW
abbrev G6:=Str->ZM
theorem Zc{j:Type}{a b:j}(h:a=b):a=b:=h
end
namespace L2
open PySem PySem.Spec PyProof.Rows
noncomputable def inClass(s:Stmt)(j:Nat):Stmt:=match s with
 | .ClassDef _ _ _ body _ _ _ _ _ _ _=>body.getD j (.Pass ⟨0,0,0,0⟩)
 | _=>.Pass ⟨0,0,0,0⟩
noncomputable def Gh(s:Stmt):Arguments:=match s with
 | .FunctionDef _ a _ _ _ _ _ _ _ _=>a
 | _=>{ posonlyargs:=[],args:=[],vararg:=none,kwonlyargs:=[],kw_defaults:=[],kwarg:=none,defaults:=[] }
noncomputable def Jq(s:Stmt):List Stmt:=match s with
 | .FunctionDef _ _ b _ _ _ _ _ _ _=>b
 | _=>[]
noncomputable def Zb(s:Stmt):Scope:=match s with
 | .FunctionDef _ _ _ _ _ _ sc _ _ _=>sc
 | _=>{ kind:=.function,names:=[],isGenerator:=false,isCoroutine:=false }
end L2
namespace K25
open PySem PySem.Spec PyProof.Rows
noncomputable def top(i:Nat):Stmt:=PySem.Challenge.pw_makes_k25_items_read.main.body.getD i (.Pass ⟨0,0,0,0⟩)
end K25
namespace L2
open PySem PySem.W PySem.Calls PyProof.Rows
section
variable{tb:String->Option Builtin}{p:Program}{w:World}{m:Nat}{a:ZM}
noncomputable def Zvk(tb:String->Option Builtin)(p:Program)(w:World)(m:Nat)(a:ZM):Nat->SharedT->Thread->Option SharedT
 | 0,_,_=>none
 | k+1,s,t=>bif through t then some s else bif stepOk m a t then (match stepT (denote tb) p w s t with | some (s',t')=>Zvk tb p w m a k s' t' | none=>none) else none
theorem fj:∀{k:Nat} {s s':SharedT} {t:Thread},Zvk tb p w m a k s t=some s'->topRun tb p w m a k s.abs t=some s'.abs
 | 0,_,_,_,h=>by cases h
 | k+1,s,s',t,h=>by
  unfold Zvk at h;unfold topRun;cases ht:through t with
  | true=>rw[ht]at h;cases h;rfl
  | false =>
   rw[ht]at h;cases hk:stepOk m a t with
   | false=>rw[hk]at h;cases h
   | true =>
    rw[hk]at h;cases hs:stepT (denote tb) p w s t with
    | none=>rw[hs]at h;cases h
    | some r =>
     obtain⟨s₂,t₂⟩:=r;rw[hs]at h;rw[stepT_spec hs];exact fj h
end
noncomputable def mkT:List Obj->Nat->BT->BT
 | [],_,t=>t
 | o::l,i,t=>mkT l (i+1) (t.ins i o)
noncomputable abbrev zg(w:World)(os:OsState):Shared:=⟨boot_heap w.params,Array.mk [],boot_drawn,boot_toks,os⟩
noncomputable abbrev Zg0(w:World)(os:OsState):SharedT:=⟨mkT (boot_heap w.params).objs.toList 0 .nil,(boot_heap w.params).objs.size,(boot_heap w.params).life,Array.mk [],boot_drawn,boot_toks,os⟩
theorem boot_abs(w:World)(os:OsState):(Zg0 w os).abs=zg w os:=by kernel_rfl
noncomputable abbrev Sr(p:Program)(N:Nat)(w:World)(os:OsState):Option SharedT:=Zvk treeTable p w (boot_heap w.params).objs.size ((boot_heap w.params).nsMap mainGlobals "__annotations__") N (Zg0 w os) (topStub p)
noncomputable abbrev Zja(p:Program)(w:World)(s:Shared):Bool:=staticsOk (importedModules p.main.body) (boot_heap w.params) s.heap&&namesBound p s.heap&&gensDone s&&laidKept (boot_heap w.params) s.heap
theorem ns_ok(w:World):((boot_heap w.params).isNs mainGlobals&&(Array.mk []:Array GenState).size==0)=true:=by kernel_rfl
theorem T7{j:Type _}{o:Option SharedT}{f:Shared->j}{r:j}(h:(o.map λs=>f s.abs)=some r):∃s,o=some s/\f s.abs=r:=by
 obtain⟨s,e,q⟩:=Cy.mp h;exact⟨s,e,q⟩
theorem top_of{j Z:Type}{p:Program}{N:Nat}{w:World}{os:OsState}{f:Shared->j}{g:Shared->Z}{x:j}{y:Z}(h1:((Sr p N w os).map λs=>Zja p w s.abs)=some true)
  (h2:((Sr p N w os).map λs=>f s.abs)=some x) (h3:((Sr p N w os).map λs=>g s.abs)=some y) :
  (topFrom treeTable p w N (zg w os)).map (λs=>(f s,g s))=some (x,y):=by
 obtain⟨s,e,c⟩:=T7 h1;obtain⟨s2,e2,c2⟩:=T7 h2;obtain⟨s3,e3,c3⟩:=T7 h3;rw[e]at e2 e3;cases e2;cases e3;have r:=fj e;rw[boot_abs]at r;unfold topFrom;rw[show ((zg w os).heap.isNs mainGlobals&&(zg w os).gens.size==0)=true from ns_ok w];show Option.map _ (Option.bind (topRun treeTable p w (boot_heap w.params).objs.size ((boot_heap w.params).nsMap mainGlobals "__annotations__") N (zg w os) (topStub p)) _)=_;rw[r];show Option.map _ (match Zja p w s.abs with | true=>some s.abs | false=>none)=_;rw[c];show some (f s.abs,g s.abs)=_;rw[c2,c3]
end L2
namespace K25
open PySem PySem.Spec PyProof.Rows L2
def viewK:Program:={ PySem.Challenge.pw_makes_k25_items_read with main:={ PySem.Challenge.pw_makes_k25_items_read.main with body:=[top 1,top 2,top 3,top 4,top 5,top 6,top 7,top 8,top 9,top 10,top 11,top 13,top 14,top 15,top 16,top 17,top 19,top 21,top 22,top 23,top 24,top 25,top 27,top 28,top 29,top 30,top 31,top 32,top 33,top 34,top 35,top 36,top 37,top 38,top 39,top 40,top 41,top 42,top 43,top 44,top 45,top 46,top 47,top 48] } }
noncomputable def Uq:ZF:=["ITEM_SORTS"]
noncomputable abbrev en(P:Params)(x:Str)(t:Tok)(v:Value):DictEntry:=⟨PyData.keyHash P x,.str x t,v⟩
abbrev fo(cls:Value)(nm q:Str)(s:Stmt)(kw doc pm:Value)(an:ZS)(cd ct:Value)(sl:ZK):Obj:=⟨cls,none,.func (W.fnOf nm q (L2.Gh s) (L2.Jq s) (L2.Zb s) .none kw doc pm an cd ct),sl⟩
abbrev fn(nm q:Str)(s:Stmt)(md:Str)(t:Nat)(c:Addr):Obj:=fo (.type "function") nm q s .none .none (.str md t) .none (.ref c) .none #[]
noncomputable abbrev cd(x:Str)(a:Nat)(q:Str)(b c:Nat)(l k:Int)(r1 r2 r3 r4 r5:Addr)(e f:Int)(g:Nat):Obj:=⟨.type "code",.none,.fields #[.str x a,.str q b,.str "/claim/cut.py" c,.int l 0,.int k 0,.int 0 0,.int 0 0,.int 3 0,.ref r1,.bool Bool.true,.int 181 0,.ref r2,.none,.ref r3,.ref r4,.ref r5,.int e 0,.int f 0,.str "/claim/cut.py" g], #[]⟩
noncomputable abbrev QP (x:Str)(a n r:Addr)(c d:Nat):Obj:=⟨.type "type",.none,.cls { name:=x,bases:=[.ref 24],mro:=[.ref a,.ref 24,.type "ValueError",.type "Exception",.type "BaseException",.type "object"],ns:=n,qualname:=x }, #[.some (.ref r),.none,.some (.str x c),.some (.str x d),.some (.builtin "ValueError.__new__"),.some (.bool Bool.true)]⟩
noncomputable def heapK:Params->W.Frag:=λP =>
 (nat_lit 3,⟨.type "dict",.none,.dict #[en P "__name__" 165 (.str "law_makes_k25_items_read" 552),en P "__doc__" 166 (.none),en P "__package__" 167 (.none),en P "__loader__" 168 (.builtin "__main__.__loader__#opaque"),en P "__spec__" 169 (.none),en P "__annotations__" 170 (.ref 6),en P "__builtins__" 171 (.ref 4),en P "__file__" 173 (.str "/claim/cut.py" 172),en P "__cached__" 174 (.none),en P "MakeError" 206 (.ref 24),en P "BadByte" 231 (.ref 44),en P "NoPlace" 256 (.ref 63),en P "BadText" 281 (.ref 82),en P "BadItem" 306 (.ref 101),en P "BadDeed" 331 (.ref 120),en P "NoTable" 360 (.ref 139),en P "NoMove" 385 (.ref 158),en P "NoFile" 410 (.ref 177),en P "NoValue" 426 (.ref 189),en P "NoRow" 442 (.ref 201),en P "ITEM_SORTS" 466 (.ref 204),en P "item_sort" 473 (.ref 211),en P "bounds_of" 480 (.ref 218),en P "member_of" 489 (.ref 225),en P "may_be_left_out" 496 (.ref 232),en P "form_of" 506 (.ref 239),en P "read" 517 (.ref 246),en P "read_at" 523 (.ref 251),en P "can_be_read" 533 (.ref 258),en P "read_record" 539 (.ref 263),en P "read_choice" 551 (.ref 270),en P "_law_feed" 560 (.ref 277),en P "_law_draw" 572 (.ref 284),en P "_law_names" 578 (.ref 289),en P "_law_numbers" 584 (.ref 294),en P "_law_plain_shape" 595 (.ref 301),en P "_law_plain_value" 603 (.ref 308),en P "_law_struck" 609 (.ref 313),en P "_law_parts" 624 (.ref 320),en P "_law_make" 630 (.ref 325),en P "_law_value" 636 (.ref 330),en P "_law_record" 652 (.ref 337),en P "_law_item" 658 (.ref 342),en P "_law_wild" 664 (.ref 347),en P "_law_item_of" 670 (.ref 352),en P "_law_read" 685 (.ref 359),en P "_law_read_parts" 700 (.ref 366),en P "_law_read_record" 706 (.ref 371),en P "_law_item_bent" 717 (.ref 378),en P "_law_one_more" 723 (.ref 383),en P "_law_told" 735 (.ref 390),en P "_law_right" 744 (.ref 397),en P "law" 750 (.ref 402)] 53, #[]⟩) ::
 (nat_lit 23,⟨.type "dict",.none,.dict #[en P "__module__" 196 (.str "makes.errors" 187),en P "__firstlineno__" 200 (.int 2 199),en P "__static_attributes__" 201 (.ref 22),en P "__weakref__" 203 (.ref 25),en P "__doc__" 204 (.none)] 3, #[]⟩) ::
 (nat_lit 24,⟨.type "type",.none,.cls { name:="MakeError",bases:=[.type "ValueError"],mro:=[.ref 24,.type "ValueError",.type "Exception",.type "BaseException",.type "object"],ns:=23,qualname:="MakeError",subclasses:=[.ref 44,.ref 63,.ref 82,.ref 101,.ref 120,.ref 139,.ref 158,.ref 177,.ref 189,.ref 201] }, #[.some (.ref 15),.none,.some (.str "MakeError" 189),.some (.str "MakeError" 197),.some (.builtin "ValueError.__new__"),.some (.bool Bool.true)]⟩) ::
 (nat_lit 44,QP "BadByte" 44 43 28 207 215) ::
 (nat_lit 63,QP "NoPlace" 63 62 47 232 240) ::
 (nat_lit 82,QP "BadText" 82 81 66 257 265) ::
 (nat_lit 97,cd "__init__" 294 "BadItem.__init__" 295 296 18 2 92 93 94 95 96 299 18 300) ::
 (nat_lit 98,fn "__init__" "BadItem.__init__" (inClass (top 5) 0) "makes.errors" 187 97) ::
 (nat_lit 100,⟨.type "dict",.none,.dict #[en P "__module__" 289 (.str "makes.errors" 187),en P "__firstlineno__" 293 (.int 16 292),en P "__init__" 301 (.ref 98),en P "__static_attributes__" 303 (.ref 99),en P "__doc__" 304 (.none)] 2, #[]⟩) ::
 (nat_lit 101,QP "BadItem" 101 100 85 282 290) ::
 (nat_lit 120,QP "BadDeed" 120 119 104 307 315) ::
 (nat_lit 139,QP "NoTable" 139 138 123 332 340) ::
 (nat_lit 158,QP "NoMove" 158 157 142 361 369) ::
 (nat_lit 177,QP "NoFile" 177 176 161 386 394) ::
 (nat_lit 189,QP "NoValue" 189 188 180 411 419) ::
 (nat_lit 201,QP "NoRow" 201 200 192 427 435) ::
 (nat_lit 204,⟨.type "dict",.none,.dict #[en P "whole" 445 (.str "whole" 446),en P "truth" 447 (.str "whole" 448),en P "text" 449 (.str "text" 450),en P "row" 451 (.str "row" 452),en P "map" 453 (.str "map" 454),en P "record" 455 (.str "rec" 456),en P "choice" 457 (.str "arm" 458)] 7, #[]⟩) ::
 (nat_lit 210,cd "item_sort" 467 "item_sort" 468 469 44 1 205 206 207 208 209 471 44 472) ::
 (nat_lit 211,fn "item_sort" "item_sort" (top 14) "makes.shapes" 443 210) ::
 (nat_lit 217,cd "bounds_of" 474 "bounds_of" 475 476 46 1 212 213 214 215 216 478 46 479) ::
 (nat_lit 218,fn "bounds_of" "bounds_of" (top 15) "makes.shapes" 443 217) ::
 (nat_lit 224,cd "member_of" 481 "member_of" 482 483 48 2 219 220 221 222 223 487 48 488) ::
 (nat_lit 225,fn "member_of" "member_of" (top 16) "makes.shapes" 443 224) ::
 (nat_lit 231,cd "may_be_left_out" 490 "may_be_left_out" 491 492 53 1 226 227 228 229 230 494 53 495) ::
 (nat_lit 232,fn "may_be_left_out" "may_be_left_out" (top 17) "makes.shapes" 443 231) ::
 (nat_lit 238,cd "form_of" 499 "form_of" 500 501 56 2 233 234 235 236 237 504 56 505) ::
 (nat_lit 239,fn "form_of" "form_of" (top 19) "makes.forms" 497 238) ::
 (nat_lit 245,cd "read" 509 "read" 510 511 59 3 240 241 242 243 244 515 59 516) ::
 (nat_lit 246,fn "read" "read" (top 21) "makes.reading" 507 245) ::
 (nat_lit 250,⟨.type "code",.none,.fields #[.str "read_at" 518,.str "read_at" 519,.str "/claim/cut.py" 520,.int 61 0,.int 4 0,.int 0 0,.int 0 0,.int 3 0,.ref 247,.bool Bool.true,.int 181 0,.ref 248,.none,.none,.none,.ref 249,.int 521 0,.int 61 0,.str "/claim/cut.py" 522], #[]⟩) ::
 (nat_lit 251,fn "read_at" "read_at" (top 22) "makes.reading" 507 250) ::
 (nat_lit 257,cd "can_be_read" 524 "can_be_read" 525 526 77 2 252 253 254 255 256 531 77 532) ::
 (nat_lit 258,fn "can_be_read" "can_be_read" (top 23) "makes.reading" 507 257) ::
 (nat_lit 262,⟨.type "code",.none,.fields #[.str "read_record" 534,.str "read_record" 535,.str "/claim/cut.py" 536,.int 89 0,.int 4 0,.int 0 0,.int 0 0,.int 3 0,.ref 259,.bool Bool.true,.int 181 0,.ref 260,.none,.none,.none,.ref 261,.int 537 0,.int 89 0,.str "/claim/cut.py" 538], #[]⟩) ::
 (nat_lit 263,fn "read_record" "read_record" (top 24) "makes.reading" 507 262) ::
 (nat_lit 269,cd "read_choice" 540 "read_choice" 541 542 102 4 264 265 266 267 268 549 102 550) ::
 (nat_lit 270,fn "read_choice" "read_choice" (top 25) "makes.reading" 507 269) ::
 (nat_lit 276,cd "_law_feed" 554 "_law_feed" 555 556 109 1 271 272 273 274 275 558 109 559) ::
 (nat_lit 277,fn "_law_feed" "_law_feed" (top 27) "law_makes_k25_items_read" 552 276) ::
 (nat_lit 283,cd "_law_draw" 561 "_law_draw" 562 563 111 2 278 279 280 281 282 570 111 571) ::
 (nat_lit 284,fn "_law_draw" "_law_draw" (top 28) "law_makes_k25_items_read" 552 283) ::
 (nat_lit 288,⟨.type "code",.none,.fields #[.str "_law_names" 573,.str "_law_names" 574,.str "/claim/cut.py" 575,.int 125 0,.int 2 0,.int 0 0,.int 0 0,.int 3 0,.ref 285,.bool Bool.true,.int 181 0,.ref 286,.none,.none,.none,.ref 287,.int 576 0,.int 125 0,.str "/claim/cut.py" 577], #[]⟩) ::
 (nat_lit 289,fn "_law_names" "_law_names" (top 29) "law_makes_k25_items_read" 552 288) ::
 (nat_lit 293,⟨.type "code",.none,.fields #[.str "_law_numbers" 579,.str "_law_numbers" 580,.str "/claim/cut.py" 581,.int 130 0,.int 2 0,.int 0 0,.int 0 0,.int 3 0,.ref 290,.bool Bool.true,.int 181 0,.ref 291,.none,.none,.none,.ref 292,.int 582 0,.int 130 0,.str "/claim/cut.py" 583], #[]⟩) ::
 (nat_lit 294,fn "_law_numbers" "_law_numbers" (top 30) "law_makes_k25_items_read" 552 293) ::
 (nat_lit 300,cd "_law_plain_shape" 585 "_law_plain_shape" 586 587 133 2 295 296 297 298 299 593 133 594) ::
 (nat_lit 301,fn "_law_plain_shape" "_law_plain_shape" (top 31) "law_makes_k25_items_read" 552 300) ::
 (nat_lit 307,cd "_law_plain_value" 596 "_law_plain_value" 597 598 144 2 302 303 304 305 306 601 144 602) ::
 (nat_lit 308,fn "_law_plain_value" "_law_plain_value" (top 32) "law_makes_k25_items_read" 552 307) ::
 (nat_lit 312,⟨.type "code",.none,.fields #[.str "_law_struck" 604,.str "_law_struck" 605,.str "/claim/cut.py" 606,.int 152 0,.int 2 0,.int 0 0,.int 0 0,.int 3 0,.ref 309,.bool Bool.true,.int 181 0,.ref 310,.none,.none,.none,.ref 311,.int 607 0,.int 152 0,.str "/claim/cut.py" 608], #[]⟩) ::
 (nat_lit 313,fn "_law_struck" "_law_struck" (top 33) "law_makes_k25_items_read" 552 312) ::
 (nat_lit 319,cd "_law_parts" 610 "_law_parts" 611 612 154 3 314 315 316 317 318 622 154 623) ::
 (nat_lit 320,fn "_law_parts" "_law_parts" (top 34) "law_makes_k25_items_read" 552 319) ::
 (nat_lit 324,⟨.type "code",.none,.fields #[.str "_law_make" 625,.str "_law_make" 626,.str "/claim/cut.py" 627,.int 164 0,.int 1 0,.int 0 0,.int 0 0,.int 3 0,.ref 321,.bool Bool.true,.int 181 0,.ref 322,.none,.none,.none,.ref 323,.int 628 0,.int 164 0,.str "/claim/cut.py" 629], #[]⟩) ::
 (nat_lit 325,fn "_law_make" "_law_make" (top 35) "law_makes_k25_items_read" 552 324) ::
 (nat_lit 329,⟨.type "code",.none,.fields #[.str "_law_value" 631,.str "_law_value" 632,.str "/claim/cut.py" 633,.int 181 0,.int 4 0,.int 0 0,.int 0 0,.int 3 0,.ref 326,.bool Bool.true,.int 181 0,.ref 327,.none,.none,.none,.ref 328,.int 634 0,.int 181 0,.str "/claim/cut.py" 635], #[]⟩) ::
 (nat_lit 330,fn "_law_value" "_law_value" (top 36) "law_makes_k25_items_read" 552 329) ::
 (nat_lit 336,cd "_law_record" 637 "_law_record" 638 639 204 4 331 332 333 334 335 650 204 651) ::
 (nat_lit 337,fn "_law_record" "_law_record" (top 37) "law_makes_k25_items_read" 552 336) ::
 (nat_lit 341,⟨.type "code",.none,.fields #[.str "_law_item" 653,.str "_law_item" 654,.str "/claim/cut.py" 655,.int 214 0,.int 2 0,.int 0 0,.int 0 0,.int 3 0,.ref 338,.bool Bool.true,.int 181 0,.ref 339,.none,.none,.none,.ref 340,.int 656 0,.int 214 0,.str "/claim/cut.py" 657], #[]⟩) ::
 (nat_lit 342,fn "_law_item" "_law_item" (top 38) "law_makes_k25_items_read" 552 341) ::
 (nat_lit 346,⟨.type "code",.none,.fields #[.str "_law_wild" 659,.str "_law_wild" 660,.str "/claim/cut.py" 661,.int 228 0,.int 4 0,.int 0 0,.int 0 0,.int 3 0,.ref 343,.bool Bool.true,.int 181 0,.ref 344,.none,.none,.none,.ref 345,.int 662 0,.int 228 0,.str "/claim/cut.py" 663], #[]⟩) ::
 (nat_lit 347,fn "_law_wild" "_law_wild" (top 39) "law_makes_k25_items_read" 552 346) ::
 (nat_lit 351,⟨.type "code",.none,.fields #[.str "_law_item_of" 665,.str "_law_item_of" 666,.str "/claim/cut.py" 667,.int 247 0,.int 3 0,.int 0 0,.int 0 0,.int 3 0,.ref 348,.bool Bool.true,.int 181 0,.ref 349,.none,.none,.none,.ref 350,.int 668 0,.int 247 0,.str "/claim/cut.py" 669], #[]⟩) ::
 (nat_lit 352,fn "_law_item_of" "_law_item_of" (top 40) "law_makes_k25_items_read" 552 351) ::
 (nat_lit 358,cd "_law_read" 671 "_law_read" 672 673 265 4 353 354 355 356 357 683 265 684) ::
 (nat_lit 359,fn "_law_read" "_law_read" (top 41) "law_makes_k25_items_read" 552 358) ::
 (nat_lit 365,cd "_law_read_parts" 686 "_law_read_parts" 687 688 287 4 360 361 362 363 364 698 287 699) ::
 (nat_lit 366,fn "_law_read_parts" "_law_read_parts" (top 42) "law_makes_k25_items_read" 552 365) ::
 (nat_lit 370,⟨.type "code",.none,.fields #[.str "_law_read_record" 701,.str "_law_read_record" 702,.str "/claim/cut.py" 703,.int 297 0,.int 4 0,.int 0 0,.int 0 0,.int 3 0,.ref 367,.bool Bool.true,.int 181 0,.ref 368,.none,.none,.none,.ref 369,.int 704 0,.int 297 0,.str "/claim/cut.py" 705], #[]⟩) ::
 (nat_lit 371,fn "_law_read_record" "_law_read_record" (top 43) "law_makes_k25_items_read" 552 370) ::
 (nat_lit 377,cd "_law_item_bent" 707 "_law_item_bent" 708 709 311 2 372 373 374 375 376 715 311 716) ::
 (nat_lit 378,fn "_law_item_bent" "_law_item_bent" (top 44) "law_makes_k25_items_read" 552 377) ::
 (nat_lit 382,⟨.type "code",.none,.fields #[.str "_law_one_more" 718,.str "_law_one_more" 719,.str "/claim/cut.py" 720,.int 334 0,.int 3 0,.int 0 0,.int 0 0,.int 3 0,.ref 379,.bool Bool.true,.int 181 0,.ref 380,.none,.none,.none,.ref 381,.int 721 0,.int 334 0,.str "/claim/cut.py" 722], #[]⟩) ::
 (nat_lit 383,fn "_law_one_more" "_law_one_more" (top 45) "law_makes_k25_items_read" 552 382) ::
 (nat_lit 389,cd "_law_told" 724 "_law_told" 725 726 340 3 384 385 386 387 388 733 340 734) ::
 (nat_lit 390,fn "_law_told" "_law_told" (top 46) "law_makes_k25_items_read" 552 389) ::
 (nat_lit 396,cd "_law_right" 736 "_law_right" 737 738 349 3 391 392 393 394 395 742 349 743) ::
 (nat_lit 397,fn "_law_right" "_law_right" (top 47) "law_makes_k25_items_read" 552 396) ::
 (nat_lit 401,⟨.type "code",.none,.fields #[.str "law" 745,.str "law" 746,.str "/claim/cut.py" 747,.int 351 0,.int 1 0,.int 0 0,.int 0 0,.int 3 0,.ref 398,.bool Bool.true,.int 181 0,.ref 399,.none,.none,.none,.ref 400,.int 748 0,.int 351 0,.str "/claim/cut.py" 749], #[]⟩) ::
 (nat_lit 402,fn "law" "law" (top 48) "law_makes_k25_items_read" 552 401) ::
 []
noncomputable def asK:ZH:=[3,23,24,44,63,82,97,98,100,101,120,139,158,177,189,201,204,210,211,217,218,224,225,231,232,238,239,245,246,250,251,257,258,262,263,269,270,276,277,283,284,288,289,293,294,300,301,307,308,312,313,319,320,324,325,329,330,336,337,341,342,346,347,351,352,358,359,365,366,370,371,377,378,382,383,389,390,396,397,401,402]
theorem Ah(P:Params):asK=(heapK P).map (·.1):=by kernel_rfl
noncomputable abbrev Ca:W.Hook:=W.kHook heapK asK Ah
abbrev xtK(s:Shared):Bool:=W.xlAt viewK [] s&&W.recOk (W.RowW.records PySem.Challenge.rw_makes_k25_items_read.row.toRowW) s
abbrev y6(w:World):Prop:=(W.openEnds treeTable PySem.Challenge.pw_makes_k25_items_read w 7510).map (λs=>(W.openSeen viewK Uq (importedModules PySem.Challenge.pw_makes_k25_items_read.main.body) xtK true s,Ca.obs s))=some (W.openGood viewK Uq,Ca.val w)
abbrev G8(s:Shared):=W.openSeen viewK Uq (importedModules PySem.Challenge.pw_makes_k25_items_read.main.body) xtK true s
noncomputable abbrev wK(w:World)(b:Bool):World:=w.withFollow "special-get-raises" b
theorem chkF(w:World)(os:OsState):((L2.Sr PySem.Challenge.pw_makes_k25_items_read 7510 (wK w false) os).map λs=>L2.Zja PySem.Challenge.pw_makes_k25_items_read (wK w false) s.abs)=some true:=by kernel_rfl
theorem chkR(w:World)(os:OsState):((L2.Sr PySem.Challenge.pw_makes_k25_items_read 7510 (wK w true) os).map λs=>L2.Zja PySem.Challenge.pw_makes_k25_items_read (wK w true) s.abs)=some true:=by kernel_rfl
theorem seenF1(w:World)(os:OsState):((L2.Sr PySem.Challenge.pw_makes_k25_items_read 7510 (wK w false) os).map λs=>(G8 s.abs).1)=some (W.openGood viewK Uq).1:=by kernel_rfl
theorem seenF2(w:World)(os:OsState):((L2.Sr PySem.Challenge.pw_makes_k25_items_read 7510 (wK w false) os).map λs=>(G8 s.abs).2.1)=some (W.openGood viewK Uq).2.1:=by kernel_rfl
theorem seenF3(w:World)(os:OsState):((L2.Sr PySem.Challenge.pw_makes_k25_items_read 7510 (wK w false) os).map λs=>(G8 s.abs).2.2)=some (W.openGood viewK Uq).2.2:=by kernel_rfl
theorem seenT1(w:World)(os:OsState):((L2.Sr PySem.Challenge.pw_makes_k25_items_read 7510 (wK w true) os).map λs=>(G8 s.abs).1)=some (W.openGood viewK Uq).1:=by kernel_rfl
theorem seenT2(w:World)(os:OsState):((L2.Sr PySem.Challenge.pw_makes_k25_items_read 7510 (wK w true) os).map λs=>(G8 s.abs).2.1)=some (W.openGood viewK Uq).2.1:=by kernel_rfl
theorem seenT3(w:World)(os:OsState):((L2.Sr PySem.Challenge.pw_makes_k25_items_read 7510 (wK w true) os).map λs=>(G8 s.abs).2.2)=some (W.openGood viewK Uq).2.2:=by kernel_rfl
theorem gp{w:World}{os:OsState}(h1:((L2.Sr PySem.Challenge.pw_makes_k25_items_read 7510 w os).map λs=>(G8 s.abs).1)=some (W.openGood viewK Uq).1)(h2:((L2.Sr PySem.Challenge.pw_makes_k25_items_read 7510 w os).map λs=>(G8 s.abs).2.1)=some (W.openGood viewK Uq).2.1)
  (h3:((L2.Sr PySem.Challenge.pw_makes_k25_items_read 7510 w os).map λs=>(G8 s.abs).2.2)=some (W.openGood viewK Uq).2.2):((L2.Sr PySem.Challenge.pw_makes_k25_items_read 7510 w os).map λs=>G8 s.abs)=some (W.openGood viewK Uq):=by
 obtain⟨s,e,c1⟩:=L2.T7 (f:=λs=>(G8 s).1) h1;obtain⟨s2,e2,c2⟩:=L2.T7 (f:=λs=>(G8 s).2.1) h2;obtain⟨s3,e3,c3⟩:=L2.T7 (f:=λs=>(G8 s).2.2) h3;rw[e]at e2 e3;cases e2;cases e3;rw[e];exact congrArg some (Prod.ext c1 (Prod.ext c2 c3))
theorem seenF(w:World)(os:OsState):((L2.Sr PySem.Challenge.pw_makes_k25_items_read 7510 (wK w false) os).map λs=>G8 s.abs)=some (W.openGood viewK Uq):=gp (seenF1 w os) (seenF2 w os) (seenF3 w os)
theorem seenT(w:World)(os:OsState):((L2.Sr PySem.Challenge.pw_makes_k25_items_read 7510 (wK w true) os).map λs=>G8 s.abs)=some (W.openGood viewK Uq):=gp (seenT1 w os) (seenT2 w os) (seenT3 w os)
theorem obsF(w:World)(os:OsState):((L2.Sr PySem.Challenge.pw_makes_k25_items_read 7510 (wK w false) os).map λs=>Ca.obs s.abs)=some (Ca.val (wK w false)):=by kernel_rfl
theorem obsT(w:World)(os:OsState):((L2.Sr PySem.Challenge.pw_makes_k25_items_read 7510 (wK w true) os).map λs=>Ca.obs s.abs)=some (Ca.val (wK w true)):=by kernel_rfl
theorem ba(w:World)(h1:∀os,((L2.Sr PySem.Challenge.pw_makes_k25_items_read 7510 w os).map λs=>L2.Zja PySem.Challenge.pw_makes_k25_items_read w s.abs)=some true)(h2:∀os,((L2.Sr PySem.Challenge.pw_makes_k25_items_read 7510 w os).map λs=>G8 s.abs)=some (W.openGood viewK Uq))(h3:∀os,((L2.Sr PySem.Challenge.pw_makes_k25_items_read 7510 w os).map λs=>Ca.obs s.abs)=some (Ca.val w)):y6 w:=by
 obtain⟨⟨hp,g,d,k,os⟩,hs,hv⟩:=Cy.mp (W.boot_open (p:=PySem.Challenge.pw_makes_k25_items_read) (N:=7510) rfl QI (λs=>rfl) w);simp only[Prod.mk.injEq]at hv;obtain⟨rfl,rfl,rfl,rfl⟩:=hv;show Option.map _ (Option.bind (W.fencedOpening treeTable PySem.Challenge.pw_makes_k25_items_read w 7510) (W.topFrom treeTable PySem.Challenge.pw_makes_k25_items_read w 7510))=_;rw[hs];exact L2.top_of (h1 os) (h2 os) (h3 os)
theorem leftF(w:World):y6 (w.withFollow "special-get-raises" false):=ba _ (chkF w) (seenF w) (obsF w)
theorem leftT(w:World):y6 (w.withFollow "special-get-raises" true):=ba _ (chkR w) (seenT w) (obsT w)
theorem leftK:W.LeftO PySem.Challenge.pw_makes_k25_items_read viewK Uq xtK Ca.obs Ca.val 7510:=W.byRow2 "special-get-raises" leftF leftT
end K25
namespace L2
open PySem PySem.Spec PyProof.Rows
abbrev Key:=Sum Int Str
noncomputable def Wb:Key->Value->Bool
 | .inl k,v=>Value.isInt k v
 | .inr x,v=>Value.isStrOf x v
noncomputable def keyH(w:World):Key->Int
 | .inl k=>hashInt k
 | .inr x=>hashStr w x
theorem Yu:∀{k:Key} {v:Value},Wb k v=true->(∃i t,k=Sum.inl i/\v=Value.int i t)\/(∃x t,k=Sum.inr x/\v=Value.str x t)
 | .inl i,v,h=>by
  obtain⟨t,e⟩:=Value.isInt_shape (k:=i) (v:=v) h;exact .inl ⟨i,t,rfl,e⟩
 | .inr x,v,h=>by
  obtain⟨t,e⟩:=Value.isStrOf_shape (x:=x) (v:=v) h;exact .inr ⟨x,t,rfl,e⟩
theorem Kx(i:Int)(t:Tok):Wb (.inl i) (.int i t)=true:=by simp[Wb,Value.isInt]
theorem Kz(x:Str)(t:Tok):Wb (.inr x) (.str x t)=true:=by simp[Wb,Value.isStrOf]
theorem key_ll(a b:Int):decide ((Sum.inl a:Key)=Sum.inl b)=(a==b):=by
 by_cases e:a=b
 .subst e;simp
 .have h:¬ (Sum.inl a:Key)=Sum.inl b:=λq=>e (Sum.inl.inj q);rw[F9 h];exact(ij.mpr e).symm
theorem key_rr(a b:Str):decide ((Sum.inr a:Key)=Sum.inr b)=decide (a=b):=by
 by_cases e:a=b
 .subst e;simp
 .have h:¬ (Sum.inr a:Key)=Sum.inr b:=λq=>e (Sum.inr.inj q);rw[F9 h,F9 e]
theorem key_lr(a:Int)(b:Str):decide ((Sum.inl a:Key)=Sum.inr b)=false:=F9 (λq=>nomatch q)
theorem key_rl(a:Str)(b:Int):decide ((Sum.inr a:Key)=Sum.inl b)=false:=F9 (λq=>nomatch q)
noncomputable def Z8(prog:Program)(w:World):PySem.KeyKind prog w Key where
 is:=Wb
 hash:=keyH w
 inj:=λv a b ha hb=>by
  rcases Yu ha with ⟨i,t,rfl,rfl⟩ | ⟨x,t,rfl,rfl⟩
  .rcases Yu hb with ⟨j,u,rfl,e⟩ | ⟨y,u,rfl,e⟩
   .injection e with e1 _;rw[e1]
   .exact nomatch e
  .rcases Yu hb with ⟨j,u,rfl,e⟩ | ⟨y,u,rfl,e⟩
   .exact nomatch e
   .injection e with e1 _;rw[e1]
 byValue:=λk v h=>by
  rcases Yu h with ⟨i,t,rfl,rfl⟩ | ⟨x,t,rfl,rfl⟩<;>rfl
 pyHash:=λhv h=>by
  rcases Yu hv with ⟨i,t,rfl,rfl⟩ | ⟨x,t,rfl,rfl⟩
  .exact wpAny_pyHash_int h
  .exact wpAny_pyHash_str h
 eqBool:=λhu hv h=>by
  rcases Yu hu with ⟨i,t,rfl,rfl⟩ | ⟨x,t,rfl,rfl⟩
  .rcases Yu hv with ⟨j,u,rfl,rfl⟩ | ⟨y,u,rfl,rfl⟩
   .rw[key_ll]at h;exact wpAny_eqBool_int h
   .rw[key_lr]at h;exact SeqAt.EqAt.int_str i t y u _ _ _ _ h
  .rcases Yu hv with ⟨j,u,rfl,rfl⟩ | ⟨y,u,rfl,rfl⟩
   .rw[key_rl]at h;exact SeqAt.EqAt.str_int x t j u _ _ _ _ h
   .rw[key_rr]at h;exact wpAny_eqBool_str h
 «strs»:=λk x t v h=>by
  rcases Yu h with ⟨i,u,rfl,e⟩ | ⟨y,u,rfl,e⟩
  .exact nomatch e
  .injection e with e1 _
   subst e1;cases v<;>rfl
theorem Xx(prog:Program)(w:World)(i:Int)(t:Tok):(Z8 prog w).is (.inl i) (.int i t)=true:=Kx i t
theorem Xz(prog:Program)(w:World)(x:Str)(t:Tok):(Z8 prog w).is (.inr x) (.str x t)=true:=Kz x t
inductive V where
 | non | bl(b:Bool) | int(i:Int) | str(x:Str) | byt(b:Array UInt8) | flt(b:UInt64) | ref(a:Addr) | ty(n:String)
 deriving DecidableEq
abbrev ZZ:=List V
abbrev ZX:=List (Option V)
def RelV:V->Value->Prop
 | .non,u=>u=Value.none
 | .bl b,u=>u=Value.bool b
 | .int i,u=>∃t,u=Value.int i t
 | .str x,u=>∃t,u=Value.str x t
 | .byt b,u=>∃t,u=Value.bytes b t
 | .flt b,u=>∃t,u=Value.float b t
 | .ref a,u=>u=Value.ref a
 | .ty n,u=>u=Value.type n
abbrev Yj:ZZ->ZG->Prop:=Paired RelV
theorem Yj.length{xs:ZZ}{us:ZG}(r:Yj xs us):xs.length=us.length:=Paired.length r
theorem Yj.get:∀{xs:ZZ} {us:ZG} {i:Nat} {x:V},Yj xs us->xs[i]?=some x->∃u,us[i]?=some u/\RelV x u
 | _,_,_,_,.nil,e=>by simp at e
 | _,_,0,_,.cons r _,e=>by simp at e;subst e;exact⟨_,rfl,r⟩
 | _,_,i+1,x,.cons _ t,e=>by
  obtain⟨u,h1,h2⟩:=Yj.get (i:=i) (x:=x) t (by simpa using e);exact⟨u,by simpa using h1,h2⟩
theorem Yj.set{x:V}{u:Value}(r:RelV x u):∀{xs:ZZ} {us:ZG} (i:Nat),Yj xs us->Yj (xs.set i x) (us.set i u)
 | _,_,_,.nil=>.nil
 | _,_,0,.cons _ t=>.cons r t
 | _,_,i+1,.cons q t=>.cons q (Yj.set r i t)
theorem Yj.append:∀{xs ys:ZZ} {us ws:ZG},Yj xs us->Yj ys ws->Yj (xs++ys) (us++ws)
 | _,_,_,_,.nil,s=>s
 | _,_,_,_,.cons r t,s=>.cons r (Yj.append t s)
theorem Yj.take:∀{xs:ZZ} {us:ZG} (n:Nat),Yj xs us->Yj (xs.take n) (us.take n)
 | _,_,0,_=>.nil
 | _,_,_+1,.nil=>.nil
 | _,_,n+1,.cons r t=>.cons r (Yj.take n t)
theorem Yj.drop:∀{xs:ZZ} {us:ZG} (n:Nat),Yj xs us->Yj (xs.drop n) (us.drop n)
 | _,_,0,r=>r
 | _,_,_+1,.nil=>.nil
 | _,_,n+1,.cons _ t=>Yj.drop n t
def Rr:Option V->ZM->Prop
 | some v,some u=>RelV v u
 | none,none=>True
 | _,_=>False
def KV{j:Type}:List (j×V)->List (j×Value)->Prop:=Paired λ(p:j×V) (q:j×Value)=>p.1=q.1/\RelV p.2 q.2
noncomputable def kV:Key->V
 | .inl i=>.int i
 | .inr x=>.str x
inductive HO where
 | lst(xs:ZZ)
 | tup (xs:ZZ)
 | dK (XQ:List (Key×V)) | dT (XQ:List (List Key×V))
 | set (S:Int->Bool) (n:Nat)
 | ins (C dx:Addr) (fs:List (Str×V))
 | own (x:Addr)
 | xd (fs:List (Str×V))
 | met (f x:Addr)
 | rng (lo hi:Int)
 | frz (o:Obj) (u:HO)
 | tbl (ps:ZT)
 | ext (φ:Heap->Prop)
abbrev Hp:=Addr->Option HO
noncomputable def upd(H:Hp)(a:Addr)(o:HO):Hp:=λb=>if b=a then some o else H b
theorem Zz{H:Hp}{a:Addr}{o:HO}:upd H a o a=some o:=by unfold upd;rw[if_pos rfl]
theorem Zm{H:Hp}{a b:Addr}{o:HO}(h:b≠a):upd H a o b=H b:=by unfold upd;rw[if_neg h]
theorem R3{H:Hp}{a:Addr}{o u:HO}:upd (upd H a o) a u=upd H a u:=by
 funext b;unfold upd;split<;>rfl
theorem ne_of{H:Hp}{a b:Addr}{o u:HO}(h:H a=some o)(h':H b=some u)(d:o≠u):a≠b:=by
 intro e;subst e;rw[h]at h';exact d (Fk h')
theorem Z0{H:Hp}{a b:Addr}{o:HO}(h:H a=some o)(h':H b=none):a≠b:=by
 intro e;subst e;rw[h]at h';cases h'
section
variable(P:Program)(w:World)
def Sk(h:Heap)(a:Addr)(XJ:ZT):Prop:=∃o,h.get? a=some o/\o.cls=.type "tuple" /\ (∃n,o.data=.seq XJ n)/\o.dict=none
theorem Sk.tup{h:Heap}{a:Addr}{XJ:ZT}(x:Sk h a XJ):IsTup h a XJ:=let ⟨o,e,c,d,_⟩:=x;⟨o,e,c,d⟩
theorem Sk.lt{h:Heap}{a:Addr}{XJ:ZT}(x:Sk h a XJ):a<h.objs.size:=x.tup.lt
theorem Sk.new(h:Heap)(XJ:ZT):Sk (h.push { cls:=.type "tuple",data:=.seq XJ }) h.objs.size XJ:=⟨_,M7 _ rfl,rfl,⟨_,rfl⟩,rfl⟩
def Y4(H:Hp)(h:Heap)(a:Addr):HO->Prop
 | .lst xs=>xs.length<=sizeLine/\∃(XJ:ZG) (n:Nat),Yj xs XJ/\h.get? a=some { cls:=.type "list",data:=.seq XJ.toArray n }
 | .tup xs=>xs.length<=sizeLine/\∃XJ:ZG,Yj xs XJ/\Sk h a XJ.toArray
 | .dK XQ=>XQ.length<=sizeLine/\(a==sysModules)=false/\∃vs,KV XQ vs/\h.DictOf (Z8 P w) a vs
 | .dT XQ=>XQ.length<=sizeLine/\(a==sysModules)=false/\∃xs:List (List Key×Addr×Value),
   Paired (λ(p:List Key×V) (q:List Key×Addr×Value)=>p.1=q.1/\H q.2.1=some (.tup (p.1.map kV))/\RelV p.2 q.2.2) XQ xs /\
   ∃o es ep,h.get? a=some o/\o.ExactDict/\o.data=.dict es ep/\es.toList=xs.map (entryOfKey (tupleKind (Z8 P w)))/\(xs.map (·.1)).Nodup
 | .set S n=>h.SetOf (intKind P w) a S n
 | .ins C dx fs=>H dx=some (.own a)/\fs.length<=1000/\dx≠a/\h.get? a=some (W.instObj C dx) /\
   ∃mA,h.Ns1 dx mA/\(∀f,Rr (fs.lookup f) (mA f))/\PySem.Within mA (fs.map (·.1))
 | .own _=>∃o,h.get? a=some o
 | .xd fs=>∃mA,h.Ns1 a mA/\∀f,Rr (fs.lookup f) (mA f)
 | .rng lo hi=>∃t u v,h.get? a=some { cls:=.type "range",data:=.fields #[.int lo t,.int hi u,.int 1 v] }
 | .frz o u=>h.get? a=some o/\Y4 H h a u
 | .tbl ps=>h.get? a=some { cls:=.none,data:=.fields ps }
 | .met f x=>h.get? a=some (W.methodObj (.ref f) (.ref x))
 | .ext φ=>φ h/\(∃o,h.get? a=some o)/\∀h1 h2:Heap,φ h1->(∀o,h1.get? a=some o->h2.get? a=some o)->φ h2
def Bs(H:Hp)(h:Heap):Prop:=∀a o,H a=some o->Y4 P w H h a o
end
section
variable{P:Program}{w:World}{H H':Hp}{h h':Heap}{a:Addr}{o:HO}
theorem Y4.lt(x:Y4 P w H h a o):a<h.objs.size:=by
 cases o with
 | lst xs=>obtain⟨_,_,_,_,e⟩:=x;exact Ut e
 | tup xs=>obtain⟨_,_,_,p⟩:=x;exact p.lt
 | dK XQ=>obtain⟨_,_,_,_,o,_,_,e,_⟩:=x;exact Ut e
 | dT XQ=>obtain⟨_,_,_,_,o,_,_,e,_⟩:=x;exact Ut e
 | set S n=>obtain⟨o,_,_,_,e,_⟩:=x;exact Ut e
 | ins C dx fs=>obtain⟨_,_,_,e,_⟩:=x;exact Ut e
 | own y=>obtain⟨_,e⟩:=x;exact Ut e
 | xd fs=>obtain⟨_,⟨_,_,_,e,_⟩,_⟩:=x;exact Ut e
 | rng lo hi=>obtain⟨_,_,_,e⟩:=x;exact Ut e
 | frz ob u=>obtain⟨e,_⟩:=x;exact Ut e
 | tbl ps=>exact Ut (show h.get? a=some _ from x)
 | met f y=>exact Ut (show h.get? a=some _ from x)
 | ext φ=>obtain⟨_,⟨_,e⟩,_⟩:=x;exact Ut e
theorem Paired.mapP{j Z:Type}{F G:j->Z->Prop}:∀{l₁:List j} {l₂:List Z},Paired F l₁ l₂->(∀a b,F a b->G a b)->Paired G l₁ l₂
 | _,_,.nil,_=>.nil
 | _,_,.cons r t,f=>.cons (f _ _ r) (Paired.mapP t f)
theorem Y4.stay(x:Y4 P w H h a o)(k:∀b u,(b=a\/H b=some (.own a))->h.get? b=some u->h'.get? b=some u)
  (ho:∀b,H b=some (.own a)->H' b=some (.own a)) (ht:∀b xs,H b=some (.tup xs)->H' b=some (.tup xs)):Y4 P w H' h' a o:=by
 induction o with
 | lst xs=>obtain⟨z,XJ,n,r,e⟩:=x;exact⟨z,XJ,n,r,k _ _ (.inl rfl) e⟩
 | tup xs=>obtain⟨z,XJ,r,ob,e,c⟩:=x;exact⟨z,XJ,r,ob,k _ _ (.inl rfl) e,c⟩
 | dK XQ=>obtain⟨z,y,vs,r,ob,es,ep,e,c⟩:=x;exact⟨z,y,vs,r,ob,es,ep,k _ _ (.inl rfl) e,c⟩
 | dT XQ =>
  obtain⟨z,y,xs,r,ob,es,ep,e,c⟩:=x;exact⟨z,y,xs,Paired.mapP r λp q z=>⟨z.1,ht _ _ z.2.1,z.2.2⟩,ob,es,ep,k _ _ (.inl rfl) e,c⟩
 | set S n=>obtain⟨ob,es,ep,t,e,c⟩:=x;exact⟨ob,es,ep,t,k _ _ (.inl rfl) e,c⟩
 | ins C dx fs =>
  obtain⟨d,z,ne,e,mA,⟨od,es,ep,e2,c⟩,r⟩:=x;exact⟨ho _ d,z,ne,k _ _ (.inl rfl) e,mA,⟨od,es,ep,k _ _ (.inr d) e2,c⟩,r⟩
 | own y=>obtain⟨ob,e⟩:=x;exact⟨ob,k _ _ (.inl rfl) e⟩
 | xd fs=>obtain⟨mA,⟨od,es,ep,e,c⟩,r⟩:=x;exact⟨mA,⟨od,es,ep,k _ _ (.inl rfl) e,c⟩,r⟩
 | rng lo hi=>obtain⟨t,u,v,e⟩:=x;exact⟨t,u,v,k _ _ (.inl rfl) e⟩
 | frz ob u ih=>obtain⟨e,q⟩:=x;exact⟨k _ _ (.inl rfl) e,ih q⟩
 | tbl ps =>
  have e:h.get? a=some { cls:=.none,data:=.fields ps }:=x;show h'.get? a=some { cls:=.none,data:=.fields ps };exact k a _ (.inl rfl) e
 | met f y =>
  have e:h.get? a=some (W.methodObj (.ref f) (.ref y)):=x;show h'.get? a=some (W.methodObj (.ref f) (.ref y));exact k a _ (.inl rfl) e
 | ext φ=>obtain⟨p,⟨o,e⟩,st⟩:=x;exact⟨st _ _ p λo q=>k _ _ (.inl rfl) q,⟨o,k _ _ (.inl rfl) e⟩,st⟩
theorem Bs.lt(x:Bs P w H h)(e:H a=some o):a<h.objs.size:=(x a o e).lt
theorem Bs.fresh(x:Bs P w H h)(e:h.objs.size<=a):H a=none:=by
 cases q:H a with
 | none=>rfl
 | some u=>exact absurd (R0 (x.lt q) e) (Nat.lt_irrefl _)
theorem Bs.kept(x:Bs P w H h)(k:∀b u,h.get? b=some u->h'.get? b=some u):Bs P w H h':=λa o e =>
 (x a o e).stay (λb u _ q=>k b u q) (λ_ q=>q) λ_ _ q=>q
theorem Bs.laid(x:Bs P w H h)(k:∀b u,h.get? b=some u->h'.get? b=some u)(hp:h.objs.size<=a)(new:Y4 P w (upd H a o) h' a o):Bs P w (upd H a o) h':=λb u e=>by
 have hn:=x.fresh hp;by_cases hb:b=a
 .subst hb;rw[Zz]at e;cases e;exact new
 .rw[Zm hb]at e;exact(x b u e).stay (λc v _ q=>k c v q) (λc q=>by rw[Zm (Z0 q hn)];exact q) λc xs q=>by rw[Zm (Z0 q hn)];exact q
end
def Rd(H:Hp)(a:Addr)(u:HO):Prop:=H a=some u\/∃o,H a=some (.frz o u)
theorem Rd.of{H:Hp}{a:Addr}{u:HO}(h:H a=some u):Rd H a u:=.inl h
theorem Rd.ok{P:Program}{w:World}{H:Hp}{h:Heap}{a:Addr}{u:HO}(r:Rd H a u)(x:Bs P w H h):Y4 P w H h a u:=by
 rcases r with r | ⟨o,r⟩
 .exact x a u r
 .obtain⟨_,q⟩:=x a _ r;exact q
def Mut:Option HO->Prop
 | some (.lst _)=>True
 | some (.dK _)=>True
 | some (.dT _)=>True
 | some (.set _ _)=>True
 | some (.ins _ _ _)=>True
 | some (.ext _)=>True
 | _=>False
section
variable{P:Program}{w:World}{H:Hp}{h h':Heap}{x e:Addr}{o':HO}
theorem Bs.write(ok:Bs P w H h)(mu:Mut (H x))(he:e=x\/H e=some (.own x))(k:∀b u,b≠e->h.get? b=some u->h'.get? b=some u)(heo:∃u,h'.get? e=some u)
  (new:Y4 P w (upd H x o') h' x o'):Bs P w (upd H x o') h':=λb u q=>by
 have nown:∀c y,H c=some (.own y)->c≠x:=λc y r z=>by subst z;rw[r]at mu;exact mu
 have ntup:∀c xs,H c=some (.tup xs)->c≠x:=λc xs r z=>by subst z;rw[r]at mu;exact mu
 by_cases hb:b=x
 .subst hb;rw[Zz]at q;cases q;exact new
 .rw[Zm hb]at q;by_cases hbe:b=e
  .have q':H b=some (.own x):=by
    rcases he with z | z
    .exact absurd (hbe.trans z) hb
    .rw[hbe];exact z
   rw[q]at q';cases q';obtain⟨v,hv⟩:=heo;exact⟨v,by rw[hbe];exact hv⟩
  .refine(ok b u q).stay (λc v hc r=>k c v ?_ r) (λc r=>by rw[Zm (nown c b r)];exact r) λc xs r=>by rw[Zm (ntup c xs r)];exact r
   rcases hc with rfl | hc
   .exact hbe
   .rintro rfl;rcases he with z | z
    .exact nown c b hc z
    .rw[hc]at z;cases z;exact hb rfl
end
structure Un(fs ex:ZH)(H H':Hp)(h h':Heap):Prop where
 keep:∀b o,h.get? b=some o->H b=none->b∉fs->b∉ex->h'.get? b=some o
 slot:∀b o,h.get? b=some o->H b=none->b∈fs->b∉ex->∃sl,h'.get? b=some { o with slots:=sl }
 free:∀b o,h.get? b=some o->H b=none->b∉ex->H' b=none
 there:∀b o,h.get? b=some o->b∉ex->∃o',h'.get? b=some o'
 tups:∀b xs,H b=some (.tup xs)->H' b=some (.tup xs)
 frzs:∀b o u,H b=some (.frz o u)->H' b=some (.frz o u)
 tbls:∀b ps,H b=some (.tbl ps)->∃more,H' b=some (.tbl (ps++more))
section
variable{fs fs' ex ex':ZH}{H H1 H2:Hp}{h h1 h2 h':Heap}{a x e:Addr}{o:HO}
theorem Un.any(u:Un fs ex H H1 h h1){b:Addr}{ob:Obj}(q:h.get? b=some ob)(n:H b=none)(hx:b∉ex):∃sl,h1.get? b=some { ob with slots:=sl }:=by
 by_cases hb:b∈fs
 .exact u.slot b ob q n hb hx
 .exact⟨ob.slots,u.keep b ob q n hb hx⟩
theorem Un.trans(a:Un fs ex H H1 h h1)(b:Un fs ex H1 H2 h1 h2):Un fs ex H H2 h h2 where
 keep:=λc ob q n hc hx=>b.keep c ob (a.keep c ob q n hc hx) (a.free c ob q n hx) hc hx
 slot:=λc ob q n hc hx=>by
  obtain⟨sl,e1⟩:=a.slot c ob q n hc hx;obtain⟨sl',e2⟩:=b.slot c _ e1 (a.free c ob q n hx) hc hx;exact⟨sl',e2⟩
 free:=λc ob q n hx=>by
  obtain⟨o',e1⟩:=a.there c ob q hx;exact b.free c o' e1 (a.free c ob q n hx) hx
 there:=λc ob q hx=>by
  obtain⟨o',e1⟩:=a.there c ob q hx;exact b.there c o' e1 hx
 tups:=λc xs q=>b.tups c xs (a.tups c xs q)
 frzs:=λc ob xs q=>b.frzs c ob xs (a.frzs c ob xs q)
 tbls:=λc ps q=>by
  obtain⟨m1,e1⟩:=a.tbls c ps q;obtain⟨m2,e2⟩:=b.tbls c _ e1;exact⟨m1++m2,by rw[e2,Array.append_assoc]⟩
theorem Un.kept(k:∀b u,h.get? b=some u->h'.get? b=some u):Un fs ex H H h h' :=
 ⟨λb ob q _ _ _=>k b ob q,λb ob q _ _ _=>⟨ob.slots,k b ob q⟩,λ_ _ _ n _=>n,λb ob q _=>⟨ob,k b ob q⟩,λ_ _ q=>q,λ_ _ _ q=>q,λ_ ps q=>⟨#[],by rw[q];simp⟩⟩
theorem Un.refl:Un fs ex H H h h:=Un.kept λ_ _ q=>q
theorem Un.laid(k:∀b u,h.get? b=some u->h'.get? b=some u)(hp:h.objs.size<=a)(hn:H a=none):Un fs ex H (upd H a o) h h' where
 keep:=λb u q _ _ _=>k b u q
 slot:=λb u q _ _ _=>⟨u.slots,k b u q⟩
 free:=λb u q n _=>by rw[Zm (Nj (R0 (Ut q) hp))];exact n
 there:=λb u q _=>⟨u,k b u q⟩
 tups:=λb xs q=>by rw[Zm (Z0 q hn)];exact q
 frzs:=λb u xs q=>by rw[Zm (Z0 q hn)];exact q
 tbls:=λb ps q=>⟨#[],by rw[Zm (Z0 q hn),q];simp⟩
theorem Un.write(mu:Mut (H x))(he:e=x\/H e=some (.own x))(k:∀b u,b≠e->h.get? b=some u->h'.get? b=some u)(heo:∃u,h'.get? e=some u):Un fs ex H (upd H x o) h h':=by
 have hx:∀b,H b=none->b≠x:=λb n z=>by subst z;rw[n]at mu;exact mu
 have hb:∀b,H b=none->b≠e:=λb n z=>by
  subst z;rcases he with r | r
  .exact hx b n r
  .rw[n]at r;cases r
 have hm:∀b u,H b=some u->¬ Mut (some u)->b≠x:=λb u q nm z=>by subst z;rw[q]at mu;exact nm mu
 refine⟨λb u q n _ _=>k b u (hb b n) q,λb u q n _ _=>⟨u.slots,k b u (hb b n) q⟩,λb u q n _=>by rw[Zm (hx b n)];exact n,λb u q _=>?_,
  λb xs q=>by rw[Zm (hm b _ q λz=>z)];exact q,λb u xs q=>by rw[Zm (hm b _ q λz=>z)];exact q,λb ps q=>⟨#[],by rw[Zm (hm b _ q λz=>z),q];simp⟩⟩
 by_cases hbe:b=e
 .subst hbe;exact heo
 .exact⟨u,k b u hbe q⟩
theorem Un.mono(u:Un fs ex H H1 h h1)(hs:∀b∈fs,b∈fs')(hx:∀b∈ex,b∈ex'):Un fs' ex' H H1 h h1 :=
 ⟨λb ob q n hb he=>u.keep b ob q n (λz=>hb (hs b z)) λz=>he (hx b z),λ_ _ q n _ he=>u.any q n λz=>he (hx _ z),λb ob q n he=>u.free b ob q n λz=>he (hx b z),λb ob q he=>u.there b ob q λz=>he (hx b z),u.tups,u.frzs,u.tbls⟩
end
noncomputable def trk(h:Heap)(H:Hp):ZH:=(List.range h.objs.size).filter λa=>(H a).isSome
def Hi(h:Heap)(H:Hp):Heap:=W.hideAll h (trk h H)
theorem uh(h:Heap)(H:Hp):(Hi h H).objs.size=h.objs.size:=W.hideAll_size _ _
theorem Zq5(e:h.get? b=some o)(n:H b=none):(Hi h H).get? b=some o :=
 W.hideAll_get _ e λhm=>by
  have q:(H b).isSome=true:=(List.mem_filter.mp hm).2;rw[n]at q;simp at q
theorem Zyk(e:(Hi h H).get? b=some o):h.get? b=some o/\H b=none:=by
 have e':h.get? b=some o:=W.of_hideAll (trk h H) e;refine⟨e',?_⟩;cases q:H b with
 | none=>rfl
 | some x =>
  have hm:b∈trk h H:=List.mem_filter.mpr ⟨List.mem_range.mpr (Ut e'),by simp[q]⟩;have z:(Hi h H).get? b=none:=W.hideAll_none (trk h H) hm;rw[z]at e;cases e
noncomputable def Zkl(g h:Heap)(L:Addr):ZW:=(List.range h.objs.size).filterMap λa=>if a=L\/(g.get? a).isSome=true then none else (h.get? a).map λo=>(a,o)
noncomputable def rest(g h:Heap)(L d:Addr):ZW:=(Zkl g h L).filter λp=>decide (p.1≠d)
structure Mod(K:W.Frag)(mg:G6)(base:Heap):Prop where
 kin:K.In base
 glob:base.Ns mainGlobals mg
 blt:∃mb,base.Ns builtinsNs mb/\∀x:Str,x ≠ "__name__" -> mb x=bootBuiltins x
 nolimit:base.NoLimit
set_option genInjectivity false in
structure Cx where
 prog:Program
 w:World
 K:W.Frag
 mg:ZJ
 base:Heap
 A:Around
 N:ZF
 s₀:Shared
 H₀:Hp
 env:Env
 outer:List Env
 stack:List Env
 ex:ZH
 fn:Str->Bool
 calm:Bool
 pn:ZW
 xe:ZQ
noncomputable def dk(l:List Env):ZH:=l.filterMap (·.frame)
abbrev Cx.fs(X:Cx):ZH:=dk X.outer
def Vis(sc:Scope)(x:Str):Prop:=sc.names.lookup x=some .local\/sc.names.lookup x=some .cell\/sc.names.lookup x=some .free
def Loc(sc:Scope)(x:Str):Prop:=sc.names.lookup x=some .local\/sc.names.lookup x=some .cell
def Look(env:Env)(h:Heap)(m:G6)(x:Str)(u:Value):Prop :=
 (env.kindOf x=some .local/\m x=some u)\/((env.kindOf x=some .cell\/env.kindOf x=some .free)/\∃c,env.cells.lookup x=some c/\h.IsCell c (some u))
structure Cx.Ok(X:Cx):Prop where
 mod:Mod X.K X.mg X.base
 kind:X.env.scope.kind=.function
 glob:X.env.globals=mainGlobals
 blt:X.env.builtins=builtinsNs
 above:X.s₀.heap.objs.size<=X.env.locals
 inj:∀x y c,X.env.cells.lookup x=some c->X.env.cells.lookup y=some c->x=y
 has:∀x,(X.env.kindOf x=some .cell\/X.env.kindOf x=some .free)->∃c,X.env.cells.lookup x=some c
 cab:∀x c,X.fn x=true->X.env.cells.lookup x=some c->X.s₀.heap.objs.size<=c
 hd:X.calm=true->X.A.handled=none
 frames:X.A.frames=some X.stack
 stk:X.stack=X.outer\/(X.stack=X.env::X.outer/\X.env.frame=some X.env.locals)
 exf:∀b∈X.ex,b≠X.env.locals/\∀x c,X.env.cells.lookup x=some c->c≠b
 bs:∀b o,X.base.get? b=some o->X.s₀.heap.get? b=some o/\X.H₀ b=none
 bsz:X.base.objs.size<=X.s₀.heap.objs.size
 noex:∀b o,X.base.get? b=some o->b∉X.ex
 exfs:∀b∈X.ex,b∉X.fs
 funs:X.s₀.heap.FunFrames X.base X.outer
 frf:∀b∈X.fs,X.H₀ b=none
structure Inv(X:Cx)(XX:Vs)(j:ZX)(H:Hp)(s:Shared):Prop where
 ok:X.Ok
 os:s.os=X.s₀.os
 bare:AllBare s.gens
 base:Un X.fs X.ex X.H₀ H X.s₀.heap s.heap
 loc:∃m,s.heap.Ns X.env.locals m/\∀(i:Nat) (x:Str) (v:V),X.N[i]?=some x->j[i]?=some (some v)->Vis X.env.scope x->∃u,RelV v u/\Look X.env s.heap m x u
 cell:∀x c,X.env.cells.lookup x=some c->∃v,s.heap.IsCell c v
 free:H X.env.locals=none
 freeC:∀x c,X.env.cells.lookup x=some c->H c=none
 pin:∀p∈X.pn++XX,s.heap.get? p.1=some p.2/\H p.1=none/\p.1≠X.env.locals/\p.1∉X.fs/\∀v,p.2.data≠.cell v
 hok:Bs X.prog X.w H s.heap
 len:j.length=X.N.length
section
variable{X:Cx}{XX:Vs}{Z:ZX}{H H':Hp}{s:Shared}{h':Heap}
theorem Cx.Ok.nofr(ok:X.Ok)(e:X.base.get? b=some o):b∉X.fs:=λhb=>by
 have:=(ok.funs.mem hb).1;rw[e]at this;cases this
theorem Inv.bs(I:Inv X XX Z H s):∀b o,X.base.get? b=some o->s.heap.get? b=some o/\H b=none:=λb o e =>
 ⟨I.base.keep b o (I.ok.bs b o e).1 (I.ok.bs b o e).2 (I.ok.nofr e) (I.ok.noex b o e),I.base.free b o (I.ok.bs b o e).1 (I.ok.bs b o e).2 (I.ok.noex b o e)⟩
theorem Inv.bk(I:Inv X XX Z H s):∀b o,X.base.get? b=some o->s.heap.get? b=some o:=λb o e=>(I.bs b o e).1
theorem Inv.mod(I:Inv X XX Z H s):Mod X.K X.mg X.base:=I.ok.mod
theorem Inv.kIn(I:Inv X XX Z H s):X.K.In s.heap:=I.ok.mod.kin.keeps I.bk
theorem Inv.fr(I:Inv X XX Z H s):∃m,Fr X.base X.env.locals s.heap m :=
 let ⟨m,hn,_⟩:=I.loc
 ⟨m,hn,I.bk,Vf I.ok.bsz I.ok.above⟩
theorem Inv.lt(I:Inv X XX Z H s):X.env.locals<s.heap.objs.size:=let ⟨_,hn,_⟩:=I.loc;hn.lt
theorem Inv.sz(I:Inv X XX Z H s):X.s₀.heap.objs.size<=s.heap.objs.size:=Vf I.ok.above (Nat.le_of_lt I.lt)
theorem Inv.nofs(I:Inv X XX Z H s)(h:s.heap.objs.size<=a):a∉X.fs:=λhb=>by
 obtain⟨_,o,ho,_⟩:=I.ok.funs.mem hb;exact absurd (R0 (Ut ho) (Vf I.sz h)) (Nat.lt_irrefl _)
theorem Inv.cne(I:Inv X XX Z H s):∀x c,X.env.cells.lookup x=some c->c≠X.env.locals:=λx c e z=>by
 obtain⟨v,o,ho,hd⟩:=I.cell x c e;obtain⟨m,⟨o',es,ep,m9,hd',_⟩,_⟩:=I.loc;rw[z,m9]at ho;cases ho;rw[hd']at hd;cases hd
theorem Inv.funs(I:Inv X XX Z H s):s.heap.FunFrames X.base X.outer:=by
 have all:∀(l:List Env),(∀b∈dk l,b∈X.fs)->X.s₀.heap.FunFrames X.base l->s.heap.FunFrames X.base l:=by
  intro l
  induction l with
  | nil=>intro _ _;trivial
  | cons env r ih =>
   intro hs hl;obtain⟨hk,⟨L,o,hf,hn,ho,hd⟩,hr⟩:=hl;have hL:L∈X.fs:=hs L (by unfold dk;rw[List.filterMap_cons,hf];exact Br);obtain⟨sl,e⟩:=I.base.slot L o ho (I.ok.frf L hL) hL λz=>I.ok.exfs L z hL;exact⟨hk,⟨L,_,hf,hn,e,hd⟩,ih (λb hb=>hs b (by unfold dk;rw[List.filterMap_cons,hf];exact Ck _ hb)) hr⟩
 exact all X.outer (λ_ hb=>hb) I.ok.funs
theorem Inv.stack(I:Inv X XX Z H s):s.heap.FunFrames X.base X.stack:=by
 rcases I.ok.stk with e | ⟨e,hf⟩
 .rw[e];exact I.funs
 .rw[e];obtain⟨m,hn,_⟩:=I.loc;refine .cons (by rw[I.ok.kind];decide) hf hn ?_ I.funs;exact Heap.get?_none_of_le (Vf I.ok.bsz I.ok.above)
theorem Inv.stkSub(I:Inv X XX Z H s):∀b∈dk X.stack,b∈X.env.locals::X.fs:=λb hb=>by
 rcases I.ok.stk with e | ⟨e,hf⟩
 .rw[e]at hb;exact Ck _ hb
 .rw[e]at hb;unfold dk at hb;rw[List.filterMap_cons,hf]at hb;exact hb
theorem Inv.stkFree(I:Inv X XX Z H s):∀b∈dk X.stack,H b=none:=λb hb=>by
 rcases U8.mp (I.stkSub b hb) with e | hb
 .rw[e];exact I.free
 .obtain⟨_,o,ho,_⟩:=I.ok.funs.mem hb;exact I.base.free b o ho (I.ok.frf b hb) λz=>I.ok.exfs b z hb
theorem Inv.step{g':Array GenState}{t':Nat}{d':Drawn}{ch:ZH}(I:Inv X XX Z H s)
  (hch:∀b∈ch,(b∈X.ex\/X.s₀.heap.objs.size<=b)/\b≠X.env.locals/\(∀x c,X.env.cells.lookup x=some c->c≠b)/\∀p∈X.pn++XX,p.1≠b)
  (keep:∀b o,b≠X.env.locals->b∉X.fs->b∉ch->s.heap.get? b=some o->H b=none->h'.get? b=some o)
  (slot:∀b o,b≠X.env.locals->b∈X.fs->b∉ch->s.heap.get? b=some o->H b=none->∃sl,h'.get? b=some { o with slots:=sl }) (free:∀b o,b∉ch->s.heap.get? b=some o->H b=none->H' b=none)
  (there:∀b o,b∉ch->s.heap.get? b=some o->∃o',h'.get? b=some o')
  (tups:∀b xs,H b=some (.tup xs)->H' b=some (.tup xs)) (frzs:∀b o u,H b=some (.frz o u)->H' b=some (.frz o u)) (tbls:∀b ps,H b=some (.tbl ps)->∃more,H' b=some (.tbl (ps++more)))
  (ns:∀m,s.heap.Ns X.env.locals m->h'.Ns X.env.locals m) (hok:Bs X.prog X.w H' h') (hg:AllBare g') :
  Inv X XX Z H' { s with heap:=h',gens:=g',drawn:=d',toks:=t' }:=by
 have neL:∀b o,X.s₀.heap.get? b=some o->b≠X.env.locals:=λb o e=>Nj (R0 (Ut e) I.ok.above)
 have neC:∀b o,X.s₀.heap.get? b=some o->b∉X.ex->b∉ch:=λb o e hx hb=>by
  rcases(hch b hb).1 with z | z
  .exact hx z
  .exact absurd (R0 (Ut e) z) (Nat.lt_irrefl _)
 have cellK:∀x c,X.env.cells.lookup x=some c->∀v,s.heap.IsCell c v->h'.IsCell c v:=λx c e v ⟨o,ho,hd⟩=>by
  have nch:c∉ch:=λz=>(hch c z).2.2.1 x c e rfl;by_cases hc:c∈X.fs
  .obtain⟨sl,q⟩:=slot c o (I.cne x c e) hc nch ho (I.freeC x c e);exact⟨_,q,hd⟩
  .exact⟨o,keep c o (I.cne x c e) hc nch ho (I.freeC x c e),hd⟩
 refine⟨I.ok,I.os,hg,⟨λb o e n hb hx=>?_,λb o e n hb hx=>?_,λb o e n hx=>?_,λb o e hx=>?_,λb xs e=>tups b xs (I.base.tups b xs e),λb o xs e=>frzs b o xs (I.base.frzs b o xs e),λb ps e=>?_⟩,?_,λx c e=>?_,?_,λx c e=>?_,λp hp=>?_,hok,I.len⟩
 .exact keep b o (neL b o e) hb (neC b o e hx) (I.base.keep b o e n hb hx) (I.base.free b o e n hx)
 .obtain⟨sl,e1⟩:=I.base.slot b o e n hb hx;obtain⟨sl',e2⟩:=slot b _ (neL b o e) hb (neC b o e hx) e1 (I.base.free b o e n hx);exact⟨sl',e2⟩
 .obtain⟨o',e1⟩:=I.base.there b o e hx;exact free b o' (neC b o e hx) e1 (I.base.free b o e n hx)
 .obtain⟨o',e1⟩:=I.base.there b o e hx;exact there b o' (neC b o e hx) e1
 .obtain⟨m1,e1⟩:=I.base.tbls b ps e;obtain⟨m2,e2⟩:=tbls b _ e1;exact⟨m1++m2,by rw[e2,Array.append_assoc]⟩
 .obtain⟨m,hn,hl⟩:=I.loc;refine⟨m,ns m hn,λi x v e1 e2 e3=>?_⟩;obtain⟨u,r,l⟩:=hl i x v e1 e2 e3;refine⟨u,r,?_⟩;rcases l with l | ⟨k,c,e,z⟩
  .exact .inl l
  .exact .inr ⟨k,c,e,cellK x c e _ z⟩
 .obtain⟨v,z⟩:=I.cell x c e;exact⟨v,cellK x c e v z⟩
 .obtain⟨m,⟨o,_,_,ho,_⟩,_⟩:=I.loc;exact free _ o (λz=>(hch _ z).2.1 rfl) ho I.free
 .obtain⟨v,o,ho,hd⟩:=I.cell x c e;exact free c o (λz=>(hch c z).2.2.1 x c e rfl) ho (I.freeC x c e)
 .obtain⟨e,n,ne,nf,d⟩:=I.pin p hp;have nch:p.1∉ch:=λz=>(hch p.1 z).2.2.2 p hp rfl;exact⟨keep p.1 p.2 ne nf nch e n,free p.1 p.2 nch e n,ne,nf,d⟩
theorem Inv.un(I:Inv X XX Z H s)(u:Un X.fs [] H H' s.heap h')(hok:Bs X.prog X.w H' h'):Inv X XX Z H' { s with heap:=h',toks:=t' }:=by
 obtain⟨m,⟨o,es,ep,ho,r⟩,_⟩:=id I.loc;obtain⟨sl,hL⟩:=u.any ho I.free QE
 exact I.step (g':=s.gens) (d':=s.drawn) (ch:=[]) (λ_ z=>nomatch z) (λb o _ hb _ e n=>u.keep b o e n hb QE) (λb o _ hb _ e n=>u.slot b o e n hb QE) (λb o _ e n=>u.free b o e n QE) (λb o _ e=>u.there b o e QE) u.tups u.frzs u.tbls (λm' hm=>by
  obtain⟨o',O2,ep',m9,r'⟩:=hm;rw[ho]at m9;cases m9;exact⟨_,O2,ep',hL,r'⟩) hok I.bare
theorem Inv.call(I:Inv X XX Z H s)(u:Un (dk X.stack) ch H H' s.heap h')(hok:Bs X.prog X.w H' h')(hg:AllBare g')
  (hch:∀b∈ch,(b∈X.ex\/X.s₀.heap.objs.size<=b)/\b≠X.env.locals/\(∀x c,X.env.cells.lookup x=some c->c≠b)/\∀p∈X.pn++XX,p.1≠b) :
  Inv X XX Z H' { s with heap:=h',gens:=g',drawn:=d',toks:=t' }:=by
 obtain⟨m,⟨o,es,ep,ho,r⟩,_⟩:=id I.loc;obtain⟨sl,hL⟩:=u.any ho I.free λz=>(hch _ z).2.1 rfl
 exact I.step (ch:=ch) hch (λb o hL hb hc e n=>u.keep b o e n (λz=>(U8.mp (I.stkSub b z)).elim hL hb) hc) (λb o _ _ hc e n=>u.any e n hc) (λb o hc e n=>u.free b o e n hc) (λb o hc e=>u.there b o e hc) u.tups u.frzs u.tbls (λm' hm=>by
  obtain⟨o',O2,ep',m9,r'⟩:=hm;rw[ho]at m9;cases m9;exact⟨_,O2,ep',hL,r'⟩) hok hg
theorem Inv.turned(I:Inv X XX Z H s)(k:∀b o,b≠it->s.heap.get? b=some o->h'.get? b=some o)(hn:H it=none)(hL:it≠X.env.locals)
  (h1:it∈X.ex\/X.s₀.heap.objs.size<=it) (h2:∀x c,X.env.cells.lookup x=some c->c≠it) (h3:∀p∈X.pn++XX,p.1≠it):Inv X XX Z H { s with heap:=h',toks:=t' }:=by
 have nit:∀b u,H b=some u->b≠it:=λb u e z=>by rw[z,hn]at e;cases e
 refine I.step (g':=s.gens) (d':=s.drawn) (ch:=[it]) (λb hb=>?_) (λb o _ _ hc e _=>k b o (λz=>hc (by simp[z])) e) (λb o _ _ hc e _=>⟨o.slots,k b o (λz=>hc (by simp[z])) e⟩) (λ_ _ _ _ n=>n)
  (λb o hc e=>⟨o,k b o (λz=>hc (by simp[z])) e⟩) (λ_ _ e=>e) (λ_ _ _ e=>e) (λb ps e=>⟨#[],by rw[e];simp⟩) (λm hm=>?_) (λb u e=>?_) I.bare
 .have e:b=it:=by simpa using hb
  subst e;exact⟨h1,hL,h2,h3⟩
 .obtain⟨o,es,ep,ho,r⟩:=hm;exact⟨o,es,ep,k _ o (Ne.symm hL) ho,r⟩
 .refine(I.hok b u e).stay (λc v hc q=>k c v ?_ q) (λ_ q=>q) λ_ _ q=>q;rcases hc with z | z
  .rw[z];exact nit b u e
  .exact nit c _ z
theorem Inv.tok(I:Inv X XX Z H s)(t:Nat):Inv X XX Z H { s with toks:=t }:=I.un (h':=s.heap) (t':=t) Un.refl I.hok
theorem Inv.kept(I:Inv X XX Z H s)(k:∀b u,s.heap.get? b=some u->h'.get? b=some u):Inv X XX Z H { s with heap:=h',toks:=t' }:=I.un (Un.kept k) (I.hok.kept k)
theorem Inv.laid(I:Inv X XX Z H s)(k:∀b u,s.heap.get? b=some u->h'.get? b=some u)(hp:s.heap.objs.size<=a)(new:Y4 X.prog X.w (upd H a o) h' a o) :
  Inv X XX Z (upd H a o) { s with heap:=h',toks:=t' }:=I.un (Un.laid k hp (I.hok.fresh hp)) (I.hok.laid k hp new)
theorem Inv.write(I:Inv X XX Z H s)(mu:Mut (H x))(he:e=x\/H e=some (.own x))(k:∀b u,b≠e->s.heap.get? b=some u->h'.get? b=some u)(heo:∃u,h'.get? e=some u)
  (new:Y4 X.prog X.w (upd H x o) h' x o):Inv X XX Z (upd H x o) { s with heap:=h',toks:=t' }:=I.un (Un.write mu he k heo) (I.hok.write mu he k heo new)
theorem Inv.pins_of(I:Inv X XX Z H s)(h:∀p∈pins',s.heap.get? p.1=some p.2/\H p.1=none/\p.1≠X.env.locals/\p.1∉X.fs/\∀v,p.2.data≠.cell v):Inv X pins' Z H s :=
 ⟨I.ok,I.os,I.bare,I.base,I.loc,I.cell,I.free,I.freeC,λp hp=>(M6.mp hp).elim (λz=>I.pin p (List.mem_append_left _ z)) (h p),I.hok,I.len⟩
theorem P4{N:ZF}(hN:N.Nodup){i j:Nat}{x:Str}(a:N[i]?=some x)(b:N[j]?=some x):i=j:=by
 obtain⟨h1,e1⟩:=Bl.mp a;obtain⟨h2,e2⟩:=Bl.mp b;exact(List.getElem_inj hN).mp (e1.trans e2.symm)
theorem Eu(I:Inv X XX Z H s)(hN:X.N.Nodup)(hi:X.N[i]?=some x)(hx:Loc X.env.scope x)(r:RelV v u)
  (h:∀s',Inv X XX (Z.set i (some v)) H s'->(∃a,Heap.SameBut a s.heap s'.heap/\(a=X.env.locals\/X.env.cells.lookup x=some a))->Q () s') (hf:X.fn x=true\/X.env.scope.names.lookup x=some .local:=by first | exact .inl rfl | exact .inr rfl | assumption):wpAny M A (storeName X.env x u) Q E s:=by
 obtain⟨m,hn,hl⟩:=id I.loc;have hcls:(X.env.scope.kind==.class || (X.env.scope.kind==.module&&X.env.locals != X.env.globals))=false:=by rw[I.ok.kind];rfl
 have hiσ:i<Z.length:=by rw[I.len];exact(Bl.mp hi).1
 have cne:=I.cne
 have tracked:∀{a:Addr} {h':Heap},(∃o,s.heap.get? a=some o/\H a=none)->Heap.SameBut a s.heap h'->Bs X.prog X.w H h':=λ{a h'} ha hs b ob e=>by
  obtain⟨_,_,Xn⟩:=ha;refine(I.hok b ob e).stay (λc w' hc q=>(hs.2 c ?_).trans q) (λ_ q=>q) λ_ _ q=>q;rintro rfl;rcases hc with rfl | hc
  .rw[Xn]at e;cases e
  .rw[Xn]at hc;cases hc
 rcases hx with hk | hk
 .refine wpAny_storeName_local hk hn (λh' oi hs=>?_) hcls;obtain⟨oL,_,_,hoL,_⟩:=id hn;refine h _ ⟨I.ok,I.os,I.bare,⟨λb o e n hb hx=>?_,λb o e n hb hx=>?_,I.base.free,λb o e hx=>?_,I.base.tups,I.base.frzs,I.base.tbls⟩,⟨_,oi,λj y v' e1 e2 e3=>?_⟩,λy c e=>?_,I.free,I.freeC,λp hp=>?_,tracked ⟨oL,hoL,I.free⟩ hs,by simpa using I.len⟩ ⟨_,hs,.inl rfl⟩
  .exact(hs.2 b (Nj (R0 (Ut e) I.ok.above))).trans (I.base.keep b o e n hb hx)
  .obtain⟨sl,e1⟩:=I.base.slot b o e n hb hx;exact⟨sl,(hs.2 b (Nj (R0 (Ut e) I.ok.above))).trans e1⟩
  .obtain⟨o',e1⟩:=I.base.there b o e hx;exact⟨o',(hs.2 b (Nj (R0 (Ut e) I.ok.above))).trans e1⟩
  .by_cases hj:j=i
   .subst hj;rw[hi]at e1;cases e1;rw[List.getElem?_set_self hiσ]at e2;cases e2;exact⟨u,r,.inl ⟨hk,by simp⟩⟩
   .rw[List.getElem?_set_ne (Ne.symm hj)]at e2;obtain⟨u',r',q⟩:=hl j y v' e1 e2 e3;refine⟨u',r',?_⟩;rcases q with ⟨k,e⟩ | ⟨k,c,e,z⟩
    .refine .inl ⟨k,?_⟩;have:y≠x:=λe=>hj (P4 hN e1 (e ▸ hi));simp[this,e]
    .exact .inr ⟨k,c,e,z.sameBut hs (cne y c e)⟩
  .obtain⟨w',z⟩:=I.cell y c e;exact⟨w',z.sameBut hs (cne y c e)⟩
  .obtain⟨e,n,ne,nf,d⟩:=I.pin p hp;exact⟨(hs.2 p.1 ne).trans e,n,ne,nf,d⟩
 .have hfn:X.fn x=true:=by
   rcases hf with z | z
   .exact z
   .rw[z]at hk;cases hk
  obtain⟨c,hc⟩:=I.ok.has x (.inl hk);obtain⟨w',z⟩:=I.cell x c hc;refine wpAny_storeName_cell I.ok.kind hk hc z (λh' dz hs=>?_);obtain⟨oc,hoc,hocd⟩:=id z;refine h { s with heap:=h' } ⟨I.ok,I.os,I.bare,⟨λb o e n hb hx=>?_,λb o e n hb hx=>?_,I.base.free,λb o e hx=>?_,I.base.tups,I.base.frzs,I.base.tbls⟩,⟨m,hn.sameBut hs (Ne.symm (cne x c hc)),λj y v' e1 e2 e3=>?_⟩,λy c' e=>?_,I.free,I.freeC,λp hp=>?_,tracked ⟨oc,hoc,I.freeC x c hc⟩ hs,by simpa using I.len⟩ ⟨c,hs,.inr hc⟩
  .exact(hs.2 b (Nj (R0 (Ut e) (I.ok.cab x c hfn hc)))).trans (I.base.keep b o e n hb hx)
  .obtain⟨sl,e1⟩:=I.base.slot b o e n hb hx;exact⟨sl,(hs.2 b (Nj (R0 (Ut e) (I.ok.cab x c hfn hc)))).trans e1⟩
  .obtain⟨o',e1⟩:=I.base.there b o e hx;exact⟨o',(hs.2 b (Nj (R0 (Ut e) (I.ok.cab x c hfn hc)))).trans e1⟩
  .by_cases hj:j=i
   .subst hj;rw[hi]at e1;cases e1;rw[List.getElem?_set_self hiσ]at e2;cases e2;exact⟨u,r,.inr ⟨.inl hk,c,hc,dz⟩⟩
   .rw[List.getElem?_set_ne (Ne.symm hj)]at e2;obtain⟨u',r',q⟩:=hl j y v' e1 e2 e3;refine⟨u',r',?_⟩;rcases q with q | ⟨k,c',e,z'⟩
    .exact .inl q
    .refine .inr ⟨k,c',e,z'.sameBut hs ?_⟩;rintro rfl;exact hj (P4 hN e1 (I.ok.inj _ _ _ e hc ▸ hi))
  .by_cases hcc:c'=c
   .subst hcc;exact⟨_,dz⟩
   .obtain⟨w2,z2⟩:=I.cell y c' e;exact⟨w2,z2.sameBut hs hcc⟩
  .obtain⟨e,n,ne,nf,d⟩:=I.pin p hp;refine⟨(hs.2 p.1 ?_).trans e,n,ne,nf,d⟩;intro q;rw[q,hoc]at e;have q':oc=p.2:=Fk e;exact d w' (by rw[<-q'];exact hocd)
theorem Q7{M:Model}{A:Around}{E:Ya}{i:Nat}{x:Str}{v:V}{u:Value}{Q:ZP}(I:Inv X XX Z H s)(hN:X.N.Nodup)(hi:X.N[i]?=some x)(hx:Loc X.env.scope x)(r:RelV v u)
  (h:∀s',Inv X XX (Z.set i (some v)) H s'->Q () s') (hf:X.fn x=true\/X.env.scope.names.lookup x=some .local:=by first | exact .inl rfl | exact .inr rfl | assumption):wpAny M A (storeName X.env x u) Q E s :=
 Eu I hN hi hx r (λs' I' _=>h s' I') hf
theorem Inv.call'(I:Inv X XX Z H s)(ho:s'.os=s.os)(u:Un (dk X.stack) ch H H' s.heap s'.heap)(hok:Bs X.prog X.w H' s'.heap)(hg:AllBare s'.gens)
  (hch:∀b∈ch,(b∈X.ex\/X.s₀.heap.objs.size<=b)/\b≠X.env.locals/\(∀x c,X.env.cells.lookup x=some c->c≠b)/\∀p∈X.pn++XX,p.1≠b):Inv X XX Z H' s':=by
 obtain⟨h',g',d',t',o'⟩:=s';have e:o'=s.os:=ho;subst e;exact I.call (g':=g') (t':=t') (d':=d') u hok hg hch
end
abbrev XK:=Value->ZS->Hp->Prop
abbrev St:=ZX
abbrev VK:=V->Hp->Prop
abbrev TE:=St->Hp->VK->Prop
abbrev TT:=St->Hp->(Bool->Hp->Prop)->Prop
abbrev TA:=St->Hp->(ZZ->Hp->Prop)->Prop
set_option genInjectivity false in
structure Ends where
 nx:St->Hp->Prop
 rt:VK
 bk:St->Hp->Prop:=λ_ _=>False
 ct:St->Hp->Prop:=λ_ _=>False
abbrev TS:=Ends->St->Hp->Prop
def EP(X:Cx)(XX:Vs)(j:St)(Q:VK)(u:Value)(s':Shared):Prop:=∃v H',Inv X XX j H' s'/\RelV v u/\Q v H'
def TP(X:Cx)(XX:Vs)(j:St)(Q:Bool->Hp->Prop)(b:Bool)(s':Shared):Prop:=∃H',Inv X XX j H' s'/\Q b H'
def AP(X:Cx)(XX:Vs)(j:St)(Q:ZZ->Hp->Prop)(us:ZG)(s':Shared):Prop:=∃vs H',Inv X XX j H' s'/\Yj vs us/\Q vs H'
def SP(X:Cx)(XX:Vs)(D:Ends)(f:Flow)(s':Shared):Prop :=
 match f with
 | .next=>∃σ' H',Inv X XX σ' H' s'/\D.nx σ' H'
 | .brk=>∃σ' H',Inv X XX σ' H' s'/\D.bk σ' H'
 | .cont=>∃σ' H',Inv X XX σ' H' s'/\D.ct σ' H'
 | .ret u=>∃v σ' H',Inv X XX σ' H' s'/\RelV v u/\D.rt v H'
def PE(X:Cx)(e:Expr)(t:TE):Prop :=
 ∀(XX:Vs) (s:Shared) (j:St) (H:Hp) (Q:VK),Inv X XX j H s->t j H Q->wpAny (model X.prog X.w) X.A (eval e X.env) (EP X XX j Q) X.xe s
def PT(X:Cx)(e:Expr)(t:TT):Prop :=
 ∀(XX:Vs) (s:Shared) (j:St) (H:Hp) (Q:Bool->Hp->Prop),Inv X XX j H s->t j H Q->wpAny (model X.prog X.w) X.A (isTrue e X.env (eval e X.env)) (TP X XX j Q) X.xe s
def PW(X:Cx)(e:Expr)(t:TT):Prop :=
 ∀(whole:Sem Value) (XX:Vs) (s:Shared) (j:St) (H:Hp) (Q:Bool->Hp->Prop),Inv X XX j H s->t j H Q->wpAny (model X.prog X.w) X.A (isTrue e X.env whole) (TP X XX j Q) X.xe s
theorem PW.pt(h:PW X e t):PT X e t:=h _
def PA(X:Cx)(es:ZD)(t:TA):Prop :=
 ∀(pos:Pos) (XX:Vs) (s:Shared) (j:St) (H:Hp) (Q:ZZ->Hp->Prop),Inv X XX j H s->t j H Q->wpAny (model X.prog X.w) X.A (spliced (backTo pos (starEach es X.env))) (AP X XX j Q) X.xe s
def PS(X:Cx)(st:Stmt)(t:TS):Prop :=
 ∀(XX:Vs) (s:Shared) (j:St) (H:Hp) (D:Ends),Inv X XX j H s->t D j H->wpAny (model X.prog X.w) X.A (exec st X.env) (SP X XX D) X.xe s
def Ku(X:Cx)(st:List Stmt)(t:TS):Prop :=
 ∀(XX:Vs) (s:Shared) (j:St) (H:Hp) (D:Ends),Inv X XX j H s->t D j H->wpAny (model X.prog X.w) X.A (execs st X.env) (SP X XX D) X.xe s
theorem Y7{j:Type}{t:Sem j}{Q Q':j->Shared->Prop}{M:Model}{A:Around}{E:Ya}{s:Shared}(h:wpAny M A t Q E s)(hQ:∀a s,Q a s->Q' a s):wpAny M A t Q' E s:=wpAny_mono h hQ λ_ _ x=>x
section
variable{X:Cx}
inductive tVar_I(i:Nat)(j:St)(H:Hp)(Q:VK):Prop
 | mk(v)(Vx:j[i]?=some (some v))(Vz:Q v H)
def tVar(i:Nat):TE:=λj H Q=>tVar_I i j H Q
def tC(v:V):TE:=λ_ H Q=>Q v H
theorem pe_var(hN:X.N[i]?=some x)(hv:Vis X.env.scope x)(hd:(x==("__debug__" : Str))=false:=by decide)(Kk:(x==("__classdict__" : Str))=false:=by decide):PE X (.Name x pos) (tVar i):=by
 intro XX s j H Q I h;obtain⟨v,e,h⟩:=h;obtain⟨m,hn,hl⟩:=I.loc;obtain⟨u,r,l⟩:=hl i x v hN e hv;have fin:EP X XX j Q u s:=⟨v,H,I,r,h⟩;rcases l with ⟨hk,hm⟩ | ⟨hk,c,hc,Xr⟩
 .exact wpAny_Name (wpAny_loadName_local I.ok.kind hk hn hm fin) hd
 .rcases hk with hk | hk
  .exact wpAny_Name (wpAny_loadName_cell I.ok.kind hk hc Xr fin) hd
  .exact wpAny_Name (wpAny_loadName_free I.ok.kind hk hc Xr fin Kk) hd
theorem Zq{i j pos}:PE X (.Constant (.int i) j pos) (tC (.int i)):=λ_ _ _ H _ I h=>wpAny_Constant_int ⟨.int i,H,I.tok _,⟨_,rfl⟩,h⟩
theorem fu{b j pos}:PE X (.Constant (.bool b) j pos) (tC (.bl b)):=λ_ _ _ H _ I h=>Constant_bool ⟨.bl b,H,I,rfl,h⟩
theorem Pr{j pos}:PE X (.Constant .none j pos) (tC .non):=λ_ _ _ H _ I h=>Constant_none ⟨.non,H,I,rfl,h⟩
theorem Zk{x j pos}:PE X (.Constant (.str x) j pos) (tC (.str x)):=λ_ _ _ H _ I h=>Calls.Constant_str ⟨.str x,H,I.tok _,⟨_,rfl⟩,h⟩
def Gl(X:Cx)(x:Str):Prop:=X.env.kindOf x=some .globalImplicit
theorem Wf(I:Inv X XX j H s)(hg:Gl X x)(hm:X.mg x=some u)(h:Q u s)
  (hd:(x==("__debug__" : Str))=false:=by decide):wpAny (model X.prog X.w) X.A (eval (.Name x pos) X.env) Q E s :=
 Calls.Name_function_global I.ok.kind hg (Calls.loadGlobal_global (by rw[I.ok.glob];exact I.mod.glob.keeps I.bk) hm h) hd
theorem Rm(I:Inv X XX j H s)(hg:Gl X x)(hm:X.mg x=none)(hv:bootBuiltins x=some u)(h:Q u s)
  (hn:x ≠ "__name__" := by decide) (hd:(x==("__debug__" : Str))=false:=by decide):wpAny (model X.prog X.w) X.A (eval (.Name x pos) X.env) Q E s:=by
 obtain⟨mb,h1,h2⟩:=I.mod.blt;exact Calls.Name_function_global I.ok.kind hg (Calls.loadGlobal_builtin (by rw[I.ok.glob];exact I.mod.glob.keeps I.bk) hm (by rw[I.ok.blt];exact h1.keeps I.bk) ((h2 x hn).trans hv) h) hd
theorem Zv0(hg:Gl X x)(hm:X.mg x=some u)(r:RelV v u)(hd:(x==("__debug__" : Str))=false:=by decide):PE X (.Name x pos) (tC v) :=
 λ_ _ _ H _ I h=>Wf I hg hm ⟨v,H,I,r,h⟩ hd
theorem Zv5(hg:Gl X x)(hm:X.mg x=none)(hv:bootBuiltins x=some u)(r:RelV v u)(hn:x ≠ "__name__" := by decide)(hd:(x==("__debug__" : Str))=false:=by decide):PE X (.Name x pos) (tC v) :=
 λ_ _ _ H _ I h=>Rm I hg hm hv ⟨v,H,I,r,h⟩ hn hd
variable{a b:Expr}{ta tb:TE}{pos:Pos}
def PC(X:Cx)(op:CmpOp)(a b:Expr)(t:TE):Prop :=
 ∀(XX:Vs) (s:Shared) (j:St) (H:Hp) (Q:VK),Inv X XX j H s->t j H Q ->
  wpAny (model X.prog X.w) X.A (eval a X.env) (λv s₁=>wpAny (model X.prog X.w) X.A (eval b X.env) (λu s₂=>wpAny (model X.prog X.w) X.A (compareOp op v u) (EP X XX j Q) X.xe s₂) X.xe s₁) X.xe s
inductive tB_I(Q:(Bool->Hp->Prop))(x:V)(H1:Hp):Prop
 | mk(c)(Vx:x=.bl c)(Vz:Q c H1)
def tB(t:TE):TT:=λj H Q=>t j H λx H1=>tB_I Q x H1
theorem jg{op:CmpOp}{t:TE}(h:PC X op a b t)(h1:behindInMarks op b=false:=by first | exact nobehind _ QI QI | rfl):PT X (.Compare a [op] [b] pos) (tB t):=by
 intro XX s j H Q I hw;refine wpAny_isTrue_Compare1 (Y7 (h XX s j H _ I hw) λv s1 h1=>Y7 h1 λu s2 h2=>Y7 h2 λc s3 ⟨x,H1,I1,r1,q1⟩=>?_) h1;obtain⟨d,rfl,q⟩:=q1;cases r1;exact wpAny_truthy_bool ⟨H1,I1,q⟩
theorem B4{e:Expr}{t:TE}(h:PE X e t)(he:∀whole,isTrue e X.env whole=(do let v <-whole;standAt e.pos;holding [v] (truthy v)):=by intro _;rfl):PT X e (tB t):=by
 intro XX s j H Q I hw;refine isTrue_plain (Y7 (h XX s j H _ I hw) λv s1 ⟨x,H1,I1,r1,q1⟩=>?_) (he _);obtain⟨d,rfl,q⟩:=q1;cases r1;exact wpAny_truthy_bool ⟨H1,I1,q⟩
variable{tA tB':TT}{rest:ZD}
def tAnd(t u:TT):TT:=λj H Q=>t j H λc H1=>if c=true then u j H1 Q else Q false H1
def tOr(t u:TT):TT:=λj H Q=>t j H λc H1=>if c=true then Q true H1 else u j H1 Q
def tNot(t:TT):TT:=λj H Q=>t j H λc H1=>Q (!c) H1
theorem pw_and1(ha:PT X a tA):PW X (.BoolOp .And [a] pos) tA:=by
 intro wh XX s j H Q I h;refine isTrue_and (Y7 (ha XX s j H Q I h) λc s1 e=>?_);cases c with
 | true=>exact isTrue_and_nil e
 | false=>exact e
theorem pw_or1(ha:PT X a tA):PW X (.BoolOp .Or [a] pos) tA:=by
 intro wh XX s j H Q I h;refine isTrue_or (Y7 (ha XX s j H Q I h) λc s1 e=>?_);cases c with
 | false=>exact isTrue_or_nil e
 | true=>exact e
theorem pw_and(ha:PT X a tA)(hb:PW X (.BoolOp .And (b::rest) pos) tB'):PW X (.BoolOp .And (a::b::rest) pos) (tAnd tA tB'):=by
 intro wh XX s j H Q I h;refine isTrue_and (Y7 (ha XX s j H _ I h) λc s1 ⟨H1,I1,q1⟩=>?_);cases c with
 | true=>exact hb wh XX s1 j H1 Q I1 q1
 | false=>exact⟨H1,I1,q1⟩
theorem pw_or(ha:PT X a tA)(hb:PW X (.BoolOp .Or (b::rest) pos) tB'):PW X (.BoolOp .Or (a::b::rest) pos) (tOr tA tB'):=by
 intro wh XX s j H Q I h;refine isTrue_or (Y7 (ha XX s j H _ I h) λc s1 ⟨H1,I1,q1⟩=>?_);cases c with
 | true=>exact⟨H1,I1,q1⟩
 | false=>exact hb wh XX s1 j H1 Q I1 q1
theorem pt_not(ha:PT X a tA):PT X (.UnaryOp .Not a pos) (tNot tA):=by
 intro XX s j H Q I h;exact isTrue_not (ha XX s j H (λc H1=>Q (!c) H1) I h)
inductive tOrV_I(tb:TE)(j:St)(Q:VK)(x:V)(H1:Hp):Prop
 | mk(c)(Vx:x=.bl c)(Vz:if c=true then Q (.bl true) H1 else tb j H1 Q)
def tOrV(ta tb:TE):TE:=λj H Q=>ta j H λx H1=>tOrV_I tb j Q x H1
theorem pe_one{op}(h:PE X a t):PE X (.BoolOp op [a] pos) t:=λXX s j H Q I hw=>BoolOp_one (h XX s j H Q I hw)
theorem Zgx(ha:PE X a ta)(hb:PE X (.BoolOp .Or (b::rest) pos) tb):PE X (.BoolOp .Or (a::b::rest) pos) (tOrV ta tb):=by
 intro XX s j H Q I h;refine BoolOp_or (Y7 (ha XX s j H _ I h) λv s1 ⟨x,H1,I1,r1,q1⟩=>?_);obtain⟨c,rfl,q1⟩:=q1;cases r1;refine wpAny_truthy_bool ?_;cases c with
 | false=>exact hb XX s1 j H1 Q I1 q1
 | true=>exact⟨.bl true,H1,I1,rfl,q1⟩
def tIf(t:TT)(ta tb:TE):TE:=λj H Q=>t j H λc H1=>if c=true then ta j H1 Q else tb j H1 Q
theorem Ug{c:Expr}(hc:PT X c tA)(ha:PE X a ta)(hb:PE X b tb):PE X (.IfExp c a b pos) (tIf tA ta tb):=by
 intro XX s j H Q I h;refine wpAny_IfExp (Y7 (hc XX s j H _ I h) λd s1 ⟨H1,I1,q1⟩=>?_);cases d with
 | true=>exact ha XX s1 j H1 Q I1 q1
 | false=>exact hb XX s1 j H1 Q I1 q1
end
def Zu(K:W.Frag)(H:Hp)(a:Addr)(xs:ZZ):Prop :=
 Rd H a (.lst xs) \/
  ∃(o:Obj) (XJ:ZT) (n:Nat),K.lookup a=some o/\o.cls=.type "list" /\ o.dict=none/\o.data=.seq XJ n/\XJ.size<=sizeLine/\Yj xs XJ.toList
def Zp(K:W.Frag)(H:Hp)(a:Addr)(xs:ZZ):Prop :=
 Rd H a (.tup xs) \/
  ∃(o:Obj) (XJ:ZT) (n:Nat),K.lookup a=some o/\o.cls=.type "tuple" /\ o.dict=none/\o.data=.seq XJ n/\XJ.size<=sizeLine/\Yj xs XJ.toList
noncomputable def absV:Value->Option V
 | .none=>some .non
 | .bool b=>some (.bl b)
 | .int i _=>some (.int i)
 | .str x _=>some (.str x)
 | .bytes b _=>some (.byt b)
 | .float b _=>some (.flt b)
 | .ref a=>some (.ref a)
 | .type n=>some (.ty n)
 | _=>none
theorem RelV.abs(r:RelV x u):absV u=some x:=by
 cases x with
 | non=>cases r;rfl
 | bl _=>cases r;rfl
 | int _=>obtain⟨t,rfl⟩:=r;rfl
 | str _=>obtain⟨t,rfl⟩:=r;rfl
 | byt _=>obtain⟨t,rfl⟩:=r;rfl
 | flt _=>obtain⟨t,rfl⟩:=r;rfl
 | ref _=>cases r;rfl
 | ty _=>cases r;rfl
theorem RelV.inj{x y:V}{u:Value}(r:RelV x u)(q:RelV y u):x=y:=Fk (r.abs.symm.trans q.abs)
theorem Yj.inj:∀{xs ys:ZZ} {us:ZG},Yj xs us->Yj ys us->xs=ys
 | _,_,_,.nil,.nil=>rfl
 | _,_,_,.cons r t,.cons r' t'=>by rw[r.inj r',Yj.inj t t']
section
variable{X:Cx}{XX:Vs}{j:St}{H:Hp}{s:Shared}{a:Addr}{xs ys:ZZ}
theorem Zu.of{K:W.Frag}(h:H a=some (.lst xs)):Zu K H a xs:=.inl (.inl h)
theorem Zp.of{K:W.Frag}(h:H a=some (.tup xs)):Zp K H a xs:=.inl (.inl h)
theorem Inv.list(I:Inv X XX j H s)(h:Zu X.K H a xs):∃XJ:ZG,Yj xs XJ/\PlainL s.heap a XJ.toArray/\xs.length<=sizeLine:=by
 rcases h with h | ⟨o,XJ,n,hk,hc,hd,hs,hz,r⟩
 .obtain⟨z,XJ,n,r,e⟩:=h.ok I.hok;exact⟨XJ,r,⟨_,n,e,rfl,rfl,rfl⟩,z⟩
 .refine⟨XJ.toList,r,⟨o,n,I.kIn a o hk,hc,hd,by simpa using hs⟩,?_⟩;have e:=r.length;simp only[xt]at e;omega
theorem Inv.tupleN(I:Inv X XX j H s)(h:Zp X.K H a xs):∃XJ:ZG,Yj xs XJ/\Sk s.heap a XJ.toArray/\xs.length<=sizeLine:=by
 rcases h with h | ⟨o,XJ,n,hk,hc,hd,hs,hz,r⟩
 .obtain⟨z,XJ,r,p⟩:=h.ok I.hok;exact⟨XJ,r,p,z⟩
 .refine⟨XJ.toList,r,⟨o,I.kIn a o hk,hc,⟨n,by simpa using hs⟩,hd⟩,?_⟩;have e:=r.length;simp only[xt]at e;omega
theorem Inv.tuple(I:Inv X XX j H s)(h:Zp X.K H a xs):∃XJ:ZG,Yj xs XJ/\IsTup s.heap a XJ.toArray/\xs.length<=sizeLine:=by
 rcases h with h | ⟨o,XJ,n,hk,hc,hd,hs,hz,r⟩
 .obtain⟨z,XJ,r,p⟩:=h.ok I.hok;exact⟨XJ,r,p.tup,z⟩
 .refine⟨XJ.toList,r,⟨o,I.kIn a o hk,hc,n,by simpa using hs⟩,?_⟩;have e:=r.length;simp only[xt]at e;omega
theorem Inv.list_inj(I:Inv X XX j H s)(h:Zu X.K H a xs)(h':Zu X.K H a ys):xs=ys:=by
 obtain⟨XJ,r,⟨o,n,e,_,_,d⟩,_⟩:=I.list h;obtain⟨its',r',⟨o',n',e',_,_,d'⟩,_⟩:=I.list h';rw[e]at e';cases e';rw[d]at d'
 injection d' with d1 _
 have:XJ=its':=by simpa using congrArg Array.toList d1
 subst this;exact r.inj r'
theorem Inv.tuple_inj(I:Inv X XX j H s)(h:Zp X.K H a xs)(h':Zp X.K H a ys):xs=ys:=by
 obtain⟨XJ,r,⟨o,e,_,n,d⟩,_⟩:=I.tuple h;obtain⟨its',r',⟨o',e',_,n',d'⟩,_⟩:=I.tuple h';rw[e]at e';cases e';rw[d]at d'
 injection d' with d1 _
 have:XJ=its':=by simpa using congrArg Array.toList d1
 subst this;exact r.inj r'
end
noncomputable abbrev Cx.wish(X:Cx)(E:Ya):Cx:={ X with xe:=E }
noncomputable abbrev Cx.nox(X:Cx):Cx:=X.wish λ_ _=>False
theorem Cx.Ok.wish{X:Cx}(ok:X.Ok)(E:Ya):(X.wish E).Ok :=
 ⟨ok.mod,ok.kind,ok.glob,ok.blt,ok.above,ok.inj,ok.has,ok.cab,ok.hd,ok.frames,ok.stk,ok.exf,ok.bs,ok.bsz,ok.noex,ok.exfs,ok.funs,ok.frf⟩
theorem Cx.Ok.unwish{X:Cx}{E:Ya}(ok:(X.wish E).Ok):X.Ok :=
 ⟨ok.mod,ok.kind,ok.glob,ok.blt,ok.above,ok.inj,ok.has,ok.cab,ok.hd,ok.frames,ok.stk,ok.exf,ok.bs,ok.bsz,ok.noex,ok.exfs,ok.funs,ok.frf⟩
section
variable{X:Cx}{XX:Vs}{j:St}{H:Hp}{s:Shared}{E:Ya}
theorem Inv.wish(I:Inv X XX j H s)(E:Ya):Inv (X.wish E) XX j H s:=⟨I.ok.wish E,I.os,I.bare,I.base,I.loc,I.cell,I.free,I.freeC,I.pin,I.hok,I.len⟩
theorem Inv.unwish(I:Inv (X.wish E) XX j H s):Inv X XX j H s:=⟨I.ok.unwish,I.os,I.bare,I.base,I.loc,I.cell,I.free,I.freeC,I.pin,I.hok,I.len⟩
theorem SP.unwish(h:SP (X.wish E) XX D f s'):SP X XX D f s':=by
 cases f with
 | next=>obtain⟨σ',H',I,q⟩:=h;exact⟨σ',H',I.unwish,q⟩
 | brk=>obtain⟨σ',H',I,q⟩:=h;exact⟨σ',H',I.unwish,q⟩
 | cont=>obtain⟨σ',H',I,q⟩:=h;exact⟨σ',H',I.unwish,q⟩
 | ret u=>obtain⟨v,σ',H',I,r,q⟩:=h;exact⟨v,σ',H',I.unwish,r,q⟩
theorem Ku.nox{st:List Stmt}{t:TS}(h:Ku X.nox st t):Ku X st t:=λXX s j H D I hw =>
 wpAny_mono (h XX s j H D (I.wish _) hw) (λ_ _ q=>q.unwish) λ_ _ z=>False.elim z
end
section
variable{X:Cx}{st:Stmt}{rest:List Stmt}{t u:TS}{e:Expr}{te:TE}{pos:Pos}
def Zk1:TS:=λD j H=>D.nx j H
def Zzt(t u:TS):TS:=λD j H=>t { D with nx:=u D } j H
theorem Zl:Ku X [] Zk1:=λ_ _ j H _ I h=>wpAny_execs_nil ⟨j,H,I,h⟩
theorem Zd(h1:PS X st t)(h2:Ku X rest u):Ku X (st::rest) (Zzt t u):=by
 intro XX s j H D I h;refine wpAny_execs_cons (Y7 (h1 XX s j H { D with nx:=u D } I h) λf s1 q=>?_);cases f with
 | next =>
  obtain⟨σ',H',I',q⟩:=q;exact h2 XX s1 σ' H' D I' q
 | ret v=>exact q
 | brk=>exact q
 | cont=>exact q
theorem Z2(h1:PS X st t):Ku X [st] t:=by
 intro XX s j H D I h;refine wpAny_execs_cons (Y7 (h1 XX s j H D I h) λf s1 q=>?_);cases f with
 | next=>exact wpAny_execs_nil q
 | ret v=>exact q
 | brk=>exact q
 | cont=>exact q
theorem Inv.quiet{XX:Vs}{j:St}{H:Hp}{s:Shared}(I:Inv X XX j H s):interactive X.env=false:=by simp[interactive,I.ok.kind]
def tDrop(te:TE):TS:=λD j H=>te j H λ_ H1=>D.nx j H1
theorem Dj(he:PE X e te)(hs:swapsWith e none pos.line X.env=pure false:=by rfl):PS X (.Expr e pos) (tDrop te):=by
 intro XX s j H D I h;exact wpAny_Expr_any (Y7 (he XX s j H _ I h) λv s1 ⟨x,H1,I1,r1,q1⟩=>⟨j,H1,I1,q1⟩) I.quiet hs
def tRet(te:TE):TS:=λD j H=>te j H D.rt
theorem Y6(he:PE X e te):PS X (.Return (some e) pos) (tRet te):=by
 intro XX s j H D I h;exact wpAny_Return_some (Y7 (he XX s j H _ I h) λv s1 ⟨x,H1,I1,r1,q1⟩=>⟨x,j,H1,I1,r1,q1⟩)
def tIfS(c:TT)(t u:TS):TS:=λD j H=>c j H λb H1=>if b=true then t D j H1 else u D j H1
theorem Uo{c:Expr}{a b:List Stmt}{tc:TT}(hc:PT X c tc)(ha:Ku X a t)(hb:Ku X b u):PS X (.If c a b pos) (tIfS tc t u):=by
 intro XX s j H D I h;refine wpAny_If (Y7 (hc XX s j H _ I h) λd s1 ⟨H1,I1,q1⟩=>?_);cases d with
 | true=>exact ha XX s1 j H1 D I1 q1
 | false=>exact hb XX s1 j H1 D I1 q1
end
abbrev TG:=V->St->Hp->(St->Hp->Prop)->Prop
abbrev TGs:=ZZ->St->Hp->(St->Hp->Prop)->Prop
def PG(X:Cx)(target:Expr)(t:TG):Prop :=
 ∀(XX:Vs) (s:Shared) (j:St) (H:Hp) (v:V) (u:Value) (Q:St->Hp->Prop),Inv X XX j H s->RelV v u->t v j H Q ->
  wpAny (model X.prog X.w) X.A (assign target X.env u) (λ_ s'=>∃σ' H',Inv X XX σ' H' s'/\Q σ' H') X.xe s
def PGs(X:Cx)(ts:ZD)(t:TGs):Prop :=
 ∀(XX:Vs) (s:Shared) (j:St) (H:Hp) (vs:ZZ) (us:ZG) (Q:St->Hp->Prop),Inv X XX j H s->Yj vs us->t vs j H Q ->
  wpAny (model X.prog X.w) X.A (assignInOrder ((assignEach ts X.env).map (·.2)) us) (λ_ s'=>∃σ' H',Inv X XX σ' H' s'/\Q σ' H') X.xe s
abbrev TSet:=V->V->V->Hp->(Hp->Prop)->Prop
def PSet(X:Cx)(t:TSet):Prop :=
 ∀(XX:Vs) (s:Shared) (j:St) (H:Hp) (o i v:V) (ov iv u:Value) (Q:Hp->Prop),Inv X XX j H s->RelV o ov->RelV i iv->RelV v u->t o i v H Q ->
  wpAny (model X.prog X.w) X.A (setItem ov iv u) (λ_ s'=>∃H',Inv X XX j H' s'/\Q H') X.xe s
section
variable{X:Cx}{pos:Pos}
def D9(i:Nat):TG:=λv j H Q=>Q (j.set i (some v)) H
theorem Zve(hN:X.N.Nodup)(hi:X.N[i]?=some x)(hx:Loc X.env.scope x)(hf:X.fn x=true\/X.env.scope.names.lookup x=some .local:=by trivial):PG X (.Name x pos) (D9 i):=by
 intro XX s j H v u Q I r h;exact wpAny_assign_Name (Q7 I hN hi hx r (λs' I'=>⟨_,H,I',h⟩) hf)
def gNil:TGs:=λvs j H Q=>vs=[]/\Q j H
inductive Zkw(t:TG)(u:TGs)(vs:ZZ)(j:St)(H:Hp)(Q:(St->Hp->Prop)):Prop
 | mk(v r)(Vx:vs=v::r)(Vz:t v j H λσ' H'=>u r σ' H' Q)
def gCons(t:TG)(u:TGs):TGs:=λvs j H Q=>Zkw t u vs j H Q
theorem Ju:PGs X [] gNil:=by
 intro XX s j H vs us Q I r h;obtain⟨e,h⟩:=h;subst e;cases r;exact assignInOrder_nil ⟨j,H,I,h⟩
theorem Z3{e:Expr}{es:ZD}{t:TG}{u:TGs}(h1:PG X e t)(h2:PGs X es u)
  (hs:(assignEach (e::es) X.env).map (·.2)=assign e X.env::(assignEach es X.env).map (·.2):=by rfl):PGs X (e::es) (gCons t u):=by
 intro XX s j H vs us Q I r h;obtain⟨v,vr,e1,h⟩:=h;subst e1;cases r with
 | cons r rr =>
  rw[hs];refine assignInOrder_cons (Y7 (h1 XX s j H _ _ _ I r h) λ_ s1 ⟨σ1,H1,I1,q1⟩=>?_);exact h2 XX s1 σ1 H1 _ _ Q I1 rr q1
inductive gTup_I(K:W.Frag)(n:Nat)(t:TGs)(v:V)(j:St)(H:Hp)(Q:(St->Hp->Prop)):Prop
 | mk(a xs)(Vx:v=.ref a)(Vz:Zp K H a xs)(Vp:xs.length=n)(Jn:t xs j H Q)
def gTup(K:W.Frag)(n:Nat)(t:TGs):TG:=λv j H Q=>gTup_I K n t v j H Q
theorem De{es:ZD}{k:Nat}{t:TGs}{n:Nat}(hc:X.calm=true)(h:PGs X es t)
  (hn:(assignEach es X.env).length=n:=by rfl) (Ez:(assignEach es X.env).findIdx? (·.1)=none:=by rfl):PG X (.Tuple es k pos) (gTup X.K n t):=by
 intro XX s j H v u Q I r hw;obtain⟨a,xs,e1,hq,hl,hw⟩:=hw;subst e1;cases r;obtain⟨XJ,rv,ht,hz⟩:=I.tuple hq;refine assign_Tuple_tuple (I.ok.hd hc) ht (by simp[hn, <-hl,rv.length]) Ez λh' hx=>?_;have I1:Inv X XX j H { s with heap:=h' }:=I.kept (t':=s.toks) λb o e=>hx b o (Nj (Ut e)) e;exact h XX _ j H xs _ Q I1 (by simpa using rv) hw
def gSub(to ti:TE)(t:TSet):TG:=λv j H Q=>to j H λo H1=>ti j H1 λi H2=>t o i v H2 λH3=>Q j H3
theorem L0{o i:Expr}{to ti:TE}{t:TSet}(ho:PE X o to)(hi:PE X i ti)(hs:PSet X t)
  (ha:∀v,assign (.Subscript o i pos) X.env v=(do
   let ov <-holding [v] (eval o X.env)
   let iv <-holding [v,ov] (eval i X.env)
   standAt pos
   holding [v,ov,iv] (setItem ov iv v)
   release [v,ov,iv] []):=by intro _;rfl):PG X (.Subscript o i pos) (gSub to ti t):=by
 intro XX s j H v u Q I r h;rw[ha];refine Zn (wpAny_holding (Y7 (ho XX s j H _ I h) λov s1 ⟨x,H1,I1,r1,q1⟩=>?_));refine Zn (wpAny_holding (Y7 (hi XX s1 j H1 _ I1 q1) λiv s2 ⟨y,H2,I2,r2,q2⟩=>?_));refine Zn (wpAny_standAt (Zn (wpAny_holding (Y7 (hs XX s2 j H2 x y v ov iv u _ I2 r1 r2 r q2) λ_ s3 ⟨H3,I3,q3⟩=>?_))));exact wpAny_release ⟨j,H3,I3,q3⟩
def l7(te:TE)(g:TG):TS:=λD j H=>te j H λx H1=>g x j H1 D.nx
theorem Rv{tg e:Expr}{te:TE}{g:TG}(he:PE X e te)(hg:PG X tg g)(hs:swapsWithSole [tg] e pos.line X.env=pure false:=by rfl)(hw:swappedStores [tg] e X.env=pure none:=by rfl)
  (h1:(assignEach [tg] X.env).map (·.2)=[assign tg X.env]:=by rfl):PS X (.Assign [tg] e pos) (l7 te g):=by
 intro XX s j H D I h;refine wpAny_Assign_stores (Y7 (he XX s j H _ I h) λv s1 ⟨x,H1,I1,r1,q1⟩=>?_) hs hw;rw[h1];exact Y7 (hg XX s1 j H1 x v _ I1 r1 q1) λ_ s2 q=>q
theorem ps_set{i:Nat}{x:Str}{e:Expr}{te:TE}{pos':Pos}(hN:X.N.Nodup)(hi:X.N[i]?=some x)(hx:Loc X.env.scope x)(he:PE X e te)(hs:swapsWith e (some (.Name x pos')) pos.line X.env=pure false:=by rfl)(hf:X.fn x=true\/X.env.scope.names.lookup x=some .local:=by first | exact .inl rfl | exact .inr rfl | assumption) :
  PS X (.Assign [.Name x pos'] e pos) (l7 te (D9 i)):=by
 intro XX s j H D I h;refine wpAny_Assign_Name (Y7 (he XX s j H _ I h) λv s1 ⟨y,H1,I1,r1,q1⟩=>?_) hs;exact Q7 I1 hN hi hx r1 (λs2 I2=>⟨_,H1,I2,q1⟩) hf
end
section
variable{X:Cx}{pos:Pos}
end
set_option genInjectivity false in
structure It where
 go:Nat->Hp->Prop
 yld:Nat->Hp->V->Hp->Prop
 stop:Nat->Hp->Prop
def Nt(X:Cx)(XX:Vs)(H:Hp)(b:Addr):Prop :=
 H b=none/\b≠X.env.locals/\b∉X.fs/\(b∈X.ex\/X.s₀.heap.objs.size<=b)/\(∀x c,X.env.cells.lookup x=some c->c≠b)/\∀p∈X.pn++XX,p.1≠b
theorem Inv.fpOk(I:Inv X XX j H s)(hb:s.heap.objs.size<=b)(hn:H' b=none):Nt X XX H' b:=by
 refine⟨hn,Nat.ne_of_gt (R0 I.lt hb),I.nofs hb,.inr (Vf I.sz hb),λx c e z=>?_,λp hp z=>?_⟩
 .obtain⟨v,q⟩:=I.cell x c e;exact absurd (R0 q.lt (by rw[z];exact hb)) (Nat.lt_irrefl _)
 .exact absurd (R0 (Ut (I.pin p hp).1) (by rw[z];exact hb)) (Nat.lt_irrefl _)
structure Turn(P:Program)(w:World)(K:W.Frag)(tg:Expr)(J:It)(fp:ZH)(it:Addr)(tn:Nat->Heap->Prop):Prop where
 mem:it∈fp
 obj:∀i h,tn i h->∀b∈fp,∃o,h.get? b=some o/\∀v,o.data≠.cell v
 keep:∀i h h',tn i h->(∀b∈fp,∀o,h.get? b=some o->h'.get? b=some o)->tn i h'
 item:∀(X:Cx),X.prog=P->X.w=w->X.K=K->X.calm=true->∀(i:Nat) (XX:Vs) (s:Shared) (j:St) (H:Hp) (E:Ya),Inv X XX j H s->(∀b∈fp,Nt X XX H b)->tn i s.heap->J.go i H ->
  wpAny (model P w) X.A (pyNext (.ref it)) (λr s1=>∃u,r=some u /\
   wpAny (model P w) X.A (letOwnedTupleGo tg (.ref it) u) (λ_ s2=>∃x H',Inv X XX j H' s2/\RelV x u/\J.yld i H x H'/\tn (i+1) s2.heap/\∀b∈fp,H' b=none) E s1) E s
 done:∀(X:Cx),X.prog=P->X.w=w->X.K=K->X.calm=true->∀(i:Nat) (XX:Vs) (s:Shared) (j:St) (H:Hp) (E:Ya),Inv X XX j H s->(∀b∈fp,Nt X XX H b)->tn i s.heap->J.stop i H ->
  wpAny (model P w) X.A (pyNext (.ref it)) (λr s1=>r=none/\Inv X XX j H s1) E s
 self:∀(A:Around) (i:Nat) (s:Shared) (Q:Ya) (E:Ya),tn i s.heap->Q (.ref it) s->wpAny (model P w) A (pyIter (.ref it)) Q E s
abbrev TI:=St->Hp->(It->Hp->Prop)->Prop
def PIE(X:Cx)(XX:Vs)(j:St)(tg:Expr)(R:It->Hp->Prop)(itv:Value)(s2:Shared):Prop :=
 ∃(it:Addr) (fp:ZH) (tn:Nat->Heap->Prop) (J:It) (H':Hp),itv=.ref it/\Inv X XX j H' s2/\Turn X.prog X.w X.K tg J fp it tn/\tn 0 s2.heap/\(∀b∈fp,Nt X XX H' b)/\R J H'
def PI(X:Cx)(tg iter:Expr)(wi:TI):Prop :=
 ∀(XX:Vs) (s:Shared) (j:St) (H:Hp) (R:It->Hp->Prop),Inv X XX j H s->wi j H R ->
  wpAny (model X.prog X.w) X.A (eval iter X.env) (λv s1=>wpAny (model X.prog X.w) X.A (pyIter v) (PIE X XX j tg R) X.xe s1) X.xe s
theorem dj(ho:s.heap.get? it=some o)(hc:o.cls=.type n)(hd:o.data=.fields vs)
    (hn:["enumerate","zip","dict_itemiterator","dict_reverseitemiterator","odict_iterator","itertools.zip_longest","itertools.pairwise"].contains n=false) (hQ:Q () s):wpAny M A (letOwnedTupleGo tg (.ref it) u) Q E s:=by
  unfold letOwnedTupleGo
  cases tg<;>first
    | exact Z4 hQ
    | (cases u<;>first
        | exact Z4 hQ
        | (refine Zn (wpAny_load ho ?_)
           rw[hc,hd];show wpAny M A (if (["enumerate","zip","dict_itemiterator","dict_reverseitemiterator","odict_iterator","itertools.zip_longest","itertools.pairwise"].contains n&&vs[0]? == some (rawInt _))=true then _ else _) Q E s;rw[if_neg (by intro h;rw[hn,B0x]at h;cases h)];exact Z4 hQ))
noncomputable def Itl(K:W.Frag)(a:Addr):It :=
 ⟨λi H=>∃xs x,Zu K H a xs/\xs[i]?=some x,λi H x H'=>H'=H/\∀xs,Zu K H a xs->xs[i]?=some x,λi H=>∃xs,Zu K H a xs/\xs.length<=i⟩
noncomputable def Itt(K:W.Frag)(a:Addr):It :=
 ⟨λi H=>∃xs x,Zp K H a xs/\xs[i]?=some x,λi H x H'=>H'=H/\∀xs,Zp K H a xs->xs[i]?=some x,λi H=>∃xs,Zp K H a xs/\xs.length<=i⟩
noncomputable def Itr(lo:Int)(n:Nat):It:=⟨λi _=>i<n,λi H x H'=>H'=H/\x=.int (lo+i),λi _=>n<=i⟩
theorem lg{P:Program}{w:World}{K:W.Frag}{tg:Expr}(a it:Addr):Turn P w K tg (Itl K a) [it] it (λi h=>h.IsListIter it a i) where
 mem:=by simp
 obj:=λi h st b hb=>by
  have e:b=it:=by simpa using hb
  subst e;obtain⟨o,e,c,d⟩:=st;exact⟨o,e,λv z=>by rw[d]at z;cases z⟩
 keep:=λi h h' st k=>st.at λo e=>k it QE o e
 item:=by
  intro X hP hw hK hc i XX s j H E I hf st hg;subst hP hw hK;obtain⟨xs,x,hq,hx⟩:=hg;obtain⟨XJ,rv,p,hz⟩:=I.list hq;obtain⟨u,hu,ru⟩:=rv.get hx;obtain⟨f0,f1,f2,f3,f4,f5⟩:=hf it QE;refine wpAny_pyNext_list_item st p.isList (x:=u) (by simpa using hu) λh' Iz sb=>?_;have I1:Inv X XX j H { s with heap:=h' }:=I.turned (t':=s.toks) (λb o hb e=>(sb.2 b hb).trans e) f0 f1 f3 f4 f5;obtain⟨o,e,c,d⟩:=id Iz;exact⟨u,rfl,dj (s:={ s with heap:=h' }) e c d QI ⟨x,H,I1,ru,⟨rfl,λys hy=>by rw[I.list_inj hy hq];exact hx⟩,Iz,λb hb=>(hf b hb).1⟩⟩
 done:=by
  intro X hP hw hK hc i XX s j H E I hf st hg;subst hP hw hK;obtain⟨xs,hq,hx⟩:=hg;obtain⟨XJ,rv,p,hz⟩:=I.list hq;obtain⟨f0,f1,f2,f3,f4,f5⟩:=hf it QE;have hl:=rv.length;exact wpAny_pyNext_list_end (I.ok.hd hc) st p.isList (by simp;omega) λh' eb=>⟨rfl,I.turned (t':=s.toks) (λb o hb e=>eb b o hb e) f0 f1 f3 f4 f5⟩
 self:=λ_ _ _ _ _ st h=>wpAny_pyIter_listiter st h
theorem x9{P:Program}{w:World}{K:W.Frag}{tg:Expr}(a it:Addr):Turn P w K tg (Itt K a) [it] it (λi h=>h.IsTupleIter it a i) where
 mem:=by simp
 obj:=λi h st b hb=>by
  have e:b=it:=by simpa using hb
  subst e;obtain⟨o,e,c,d⟩:=st;exact⟨o,e,λv z=>by rw[d]at z;cases z⟩
 keep:=λi h h' st k=>st.at λo e=>k it QE o e
 item:=by
  intro X hP hw hK hc i XX s j H E I hf st hg;subst hP hw hK;obtain⟨xs,x,hq,hx⟩:=hg;obtain⟨XJ,rv,p,hz⟩:=I.tuple hq;obtain⟨u,hu,ru⟩:=rv.get hx;obtain⟨f0,f1,f2,f3,f4,f5⟩:=hf it QE;refine wpAny_pyNext_tuple_item st (show s.heap.IsTuple a XJ.toArray from p) (x:=u) (by simpa using hu) λh' Iz sb=>?_;have I1:Inv X XX j H { s with heap:=h' }:=I.turned (t':=s.toks) (λb o hb e=>(sb.2 b hb).trans e) f0 f1 f3 f4 f5;obtain⟨o,e,c,d⟩:=id Iz;exact⟨u,rfl,dj (s:={ s with heap:=h' }) e c d QI ⟨x,H,I1,ru,⟨rfl,λys hy=>by rw[I.tuple_inj hy hq];exact hx⟩,Iz,λb hb=>(hf b hb).1⟩⟩
 done:=by
  intro X hP hw hK hc i XX s j H E I hf st hg;subst hP hw hK;obtain⟨xs,hq,hx⟩:=hg;obtain⟨XJ,rv,p,hz⟩:=I.tuple hq;obtain⟨f0,f1,f2,f3,f4,f5⟩:=hf it QE;have hl:=rv.length;exact wpAny_pyNext_tuple_end (I.ok.hd hc) st (show s.heap.IsTuple a XJ.toArray from p) (by simp;omega) λh' eb=>⟨rfl,I.turned (t':=s.toks) (λb o hb e=>eb b o hb e) f0 f1 f3 f4 f5⟩
 self:=λ_ _ _ _ _ st h=>wpAny_pyIter_tupleiter st h
theorem qz{P:Program}{w:World}{K:PySem.W.Frag}{tg:Expr}(it:Addr)(lo:Int)(n:Nat):Turn P w K tg (Itr lo n) [it] it (λi h=>IsRangeIter h it (lo+(i:Nat)*1) ((n:Int)-(i:Nat)) 1) where
 mem:=by simp
 obj:=λi h st b hb=>by
  have e:b=it:=by simpa using hb
  subst e
  exact⟨_,st,λv z=>by
   have z':Data.fields _=Data.cell v:=z;cases z'⟩
 keep:=λi h h' st k=>k it QE _ st
 item:=by
  intro X hP hw hK hc i XX s j H E I hf st hg;subst hP hw hK;obtain⟨f0,f1,f2,f3,f4,f5⟩:=hf it QE;have W:=Walks.range (prog:=X.prog) (w:=X.w) (I.ok.hd hc) it lo 1 n;refine W.item i s _ _ hg st λv h' tk hv Iz kk=>?_;obtain⟨t,rfl⟩:=hv;have I1:Inv X XX j H { s with heap:=h',toks:=tk }:=I.turned (λb o hb e=>kk b o (by simpa using hb) e) f0 f1 f3 f4 f5;refine⟨_,rfl,dj (s:={ s with heap:=h',toks:=tk }) (n:="range_iterator") Iz rfl rfl QI ⟨.int (lo+i),H,I1,⟨t,?_⟩,⟨rfl,rfl⟩,Iz,λb hb=>(hf b hb).1⟩⟩;rw[Int.mul_one]
 done:=by
  intro X hP hw hK hc i XX s j H E I hf st hg;subst hP hw hK;obtain⟨f0,f1,f2,f3,f4,f5⟩:=hf it QE;exact wpAny_pyNext_range_end (I.ok.hd hc) st (by have:n<=i:=hg;omega) λh' eb=>⟨rfl,I.turned (t':=s.toks) (λb o hb e=>eb b o hb e) f0 f1 f3 f4 f5⟩
 self:=λ_ _ _ _ _ st h=>wpAny_pyIter_rangeiter st h
section
variable{X:Cx}{tg:Expr}
inductive Zy1(K:W.Frag)(R:(It->Hp->Prop))(x:V)(H1:Hp):Prop
 | mk(a)(Vx:x=.ref a)(Vz:(∃xs,Zu K H1 a xs))(Vp:R (Itl K a) H1)
def Zgk(K:W.Frag)(tl:TE):TI:=λj H R=>tl j H λx H1=>Zy1 K R x H1
inductive iTup_I(K:W.Frag)(R:(It->Hp->Prop))(x:V)(H1:Hp):Prop
 | mk(a)(Vx:x=.ref a)(Vz:(∃xs,Zp K H1 a xs))(Vp:R (Itt K a) H1)
def iTup(K:W.Frag)(tl:TE):TI:=λj H R=>tl j H λx H1=>iTup_I K R x H1
theorem Mc{l:Expr}{tl:TE}(hl:PE X l tl):PI X tg l (Zgk X.K tl):=by
 intro XX s j H R I h;refine Y7 (hl XX s j H _ I h) λv s1 ⟨x,H1,I1,r1,q1⟩=>?_;obtain⟨a,e,⟨xs,hq⟩,q⟩:=q1;subst e;cases r1;obtain⟨XJ,rv,p,hz⟩:=I1.list hq;refine wpAny_pyIter_list p.isList ?_;refine⟨s1.heap.objs.size,[s1.heap.objs.size],_,_,H1,rfl,I1.kept (t':=s1.toks) λb o e=>Uz _ e,lg a _,⟨_,M7 _ rfl,rfl,rfl⟩,λb hb=>?_,q⟩;have e:b=s1.heap.objs.size:=by simpa using hb
 subst e;exact I1.fpOk (Yt _) (I1.hok.fresh (Yt _))
theorem pi_tup(hl:PE X l tl):PI X tg l (iTup X.K tl):=by
 intro XX s j H R I h;refine Y7 (hl XX s j H _ I h) λv s1 ⟨x,H1,I1,r1,q1⟩=>?_;obtain⟨a,e,⟨xs,hq⟩,q⟩:=q1;subst e;cases r1;obtain⟨XJ,rv,p,hz⟩:=I1.tuple hq;refine wpAny_pyIter_tuple (show s1.heap.IsTuple a XJ.toArray from p) ?_;refine⟨s1.heap.objs.size,[s1.heap.objs.size],_,_,H1,rfl,I1.kept (t':=s1.toks) λb o e=>Uz _ e,x9 a _,⟨_,M7 _ rfl,rfl,rfl⟩,λb hb=>?_,q⟩;have e:b=s1.heap.objs.size:=by simpa using hb
 subst e;exact I1.fpOk (Yt _) (I1.hok.fresh (Yt _))
theorem Zxv{R:It->Hp->Prop}{lo hi:Int}{tk:Nat}(I:Inv X XX j H s)(h1:-(2 ^ 62)<=lo)(h2:lo<2 ^ 62)(h3:-(2 ^ 62)<=hi)(h4:hi<2 ^ 62)
  (q:R (Itr lo (hi-lo).toNat) H):wpAny (model X.prog X.w) X.A (pyIter (.ref s.heap.objs.size)) (PIE X XX j tg R) E { s with heap:=s.heap.push { cls:=.type "range",data:=.fields #[.int lo t,.int hi u,.int 1 v] },toks:=tk }:=by
 refine wpAny_pyIter_range (IsRange.new ..) (small_one h1 h2 h3 h4) ?_;have I1:Inv X XX j H { s with heap:=s.heap.push { cls:=.type "range",data:=.fields #[.int lo t,.int hi u,.int 1 v] },toks:=tk }:=I.kept λb o e=>Uz _ e
 refine⟨(s.heap.push { cls:=.type "range",data:=.fields #[.int lo t,.int hi u,.int 1 v] }).objs.size,[(s.heap.push { cls:=.type "range",data:=.fields #[.int lo t,.int hi u,.int 1 v] }).objs.size],_,_,H,rfl,
  I1.kept (t':=tk) λb o e=>Uz _ e,qz _ lo (hi-lo).toNat,?_,λb hb=>?_,q⟩
 .have e1:lo+((0:Nat):Int)*1=lo:=by simp
  have e2:(((hi-lo).toNat:Nat):Int)-((0:Nat):Int)=Builtin.Range.rangeSize lo hi 1:=by rw[rangeSize_one];split<;>omega
  show IsRangeIter _ _ (lo+((0:Nat):Int)*1) ((((hi-lo).toNat:Nat):Int)-((0:Nat):Int)) 1;rw[e1,e2];exact M7 _ rfl
 .have e:b=(s.heap.push { cls:=.type "range",data:=.fields #[.int lo t,.int hi u,.int 1 v] }).objs.size:=by simpa using hb
  subst e;exact I1.fpOk (Yt _) (I1.hok.fresh (Yt _))
inductive Zy0(R:(It->Hp->Prop))(vs:ZZ)(H1:Hp):Prop
 | mk(j:Int)(Vx:vs=[.int j])(Vz:-(2 ^ 62)<=j)(Vp:j<2 ^ 62)(Jn:R (Itr 0 j.toNat) H1)
def iRng1(ta:TA):TI:=λj H R=>ta j H λvs H1=>Zy0 R vs H1
theorem Uh{a:Expr}{ta:TA}{p pos:Pos}(hg:Gl X "range")(hm:X.mg "range"=none)(ha:PA X [a] ta)(hs:starEach [a] X.env=[(false,eval a X.env)]:=by rfl):PI X tg (.Call (.Name "range" p) [a] [] pos) (iRng1 ta):=by
 intro XX s Z H R I h;refine Call_ (Rm I hg hm boot_range (callWith_type1 (Y7 (ha pos XX s Z H _ I h) λus s1 ⟨vs,H1,I1,r1,q1⟩=>?_) hs rfl));obtain⟨j,e,q1,q2,q⟩:=q1;subst e;cases r1 with
 | cons r rr =>
  cases rr;obtain⟨t,rfl⟩:=r;exact call_range_1 (Zxv I1 QU QU q1 q2 (by simpa using q))
def tFor(wi:TI)(g:TG)(tb:TS):TS:=λD j H=>wi j H λJ H1=>∃W:Nat->Nat->St->Hp->Prop,(∃m,W 0 m j H1)/\∀i m j H,W i m j H ->
 (J.stop i H/\D.nx j H)\/(J.go i H/\∃N:St->Hp->Prop,(∀σ' H',N σ' H'->∃m',m'<m/\W (i+1) m' σ' H')/\∀x H',J.yld i H x H'->g x j H' λσ2 H2=>tb { D with nx:=N,ct:=N,bk:=D.nx } σ2 H2)
noncomputable def Pn(fp:ZH)(h:Heap):ZW:=fp.filterMap λb=>(h.get? b).map λo=>(b,o)
theorem N4(hb:b∈fp)(e:h.get? b=some o):(b,o)∈Pn fp h:=List.mem_filterMap.mpr ⟨b,hb,by rw[e];rfl⟩
theorem pe(hp:p∈Pn fp h):p.1∈fp/\h.get? p.1=some p.2:=by
 obtain⟨b,hb,e⟩:=List.mem_filterMap.mp hp;cases q:h.get? b with
 | none=>rw[q]at e;cases e
 | some o =>
  rw[q]at e;have e':(b,o)=p:=Fk e;subst e';exact⟨hb,q⟩
theorem Inv.pinned(I:Inv X XX j H s)(hf:∀b∈fp,Nt X XX H b)(ho:∀b∈fp,∃o,s.heap.get? b=some o/\∀v,o.data≠.cell v):Inv X (XX++Pn fp s.heap) j H s :=
 I.pins_of λp hp=>(M6.mp hp).elim (λz=>I.pin p (nj _ z)) λz=>by
  obtain⟨hb,e⟩:=pe z;obtain⟨f0,f1,f2,_⟩:=hf p.1 hb;obtain⟨o,e',d⟩:=ho p.1 hb;rw[e]at e';cases e';exact⟨e,f0,f1,f2,d⟩
theorem Inv.unpinned(I:Inv X (XX++pl) j H s):Inv X XX j H s:=I.pins_of λp hp=>I.pin p (nj _ (List.mem_append_left _ hp))
theorem Jj{iter:Expr}{body:List Stmt}{wi:TI}{g:TG}{tb:TS}{pos:Pos}(hp:PassesOwn (model X.prog X.w) X.A X.env X.xe)(hc:X.calm=true)(hi:PI X tg iter wi)(hg:PG X tg g)(hb:Ku X body tb)
  (hs:∀x,foldedSetIterable iter X.env x=pure x:=by intro _;rfl):PS X (.For tg iter body [] pos) (tFor wi g tb):=by
 intro XX s j H D I h;refine wpAny_For (Y7 (hi XX s j H _ I h) λv s1 h1=>Y7 h1 λitv s2 h2=>?_) hs;obtain⟨it,fp,tn,J,H2,e,I2,T,qk,f2,W,⟨m0,w0⟩,turn⟩:=h2;subst e;have stat:∀{H':Hp},(∀b∈fp,H' b=none)->∀b∈fp,Nt X XX H' b:=λhn b hb=>⟨hn b hb,(f2 b hb).2⟩;refine codeAny_forLoop_any (λn s'=>∃i σ' H',Inv X XX σ' H' s'/\tn i s'.heap/\(∀b∈fp,H' b=none)/\W i n σ' H') ?_ m0 ⟨0,j,H2,I2,qk,λb hb=>(f2 b hb).1,w0⟩;rintro n s3 ⟨i,σ3,H3,I3,st3,fr3,w3⟩;rcases turn i n σ3 H3 w3 with ⟨stop,qn⟩ | ⟨go,N,hN,step⟩
 .refine wpAny_passesOwn hp (Y7 (T.done X rfl rfl rfl hc i XX s3 σ3 H3 X.xe I3 (stat fr3) st3 stop) λr s4 ⟨hr,I4⟩=>?_);subst hr;exact wpAny_execs_nil ⟨σ3,H3,I4,qn⟩
 .refine wpAny_passesOwn hp (Y7 (T.item X rfl rfl rfl hc i XX s3 σ3 H3 X.xe I3 (stat fr3) st3 go) λr s4 ⟨u,hr,h4⟩=>?_);subst hr;refine wpAny_passesOwn hp (Y7 h4 λ_ s5 ⟨x,H5,I5,r5,y5,st5,fr5⟩=>?_);have I5':=I5.pinned (stat fr5) (T.obj _ _ st5);refine wpAny_passesOwn hp (Y7 (hg _ s5 σ3 H5 x u _ I5' r5 (step x H5 y5)) λ_ s6 ⟨σ6,H6,I6,q6⟩=>?_);refine wpAny_passesOwn hp (Y7 (hb _ s6 σ6 H6 _ I6 q6) λf s7 q7=>?_)
  have again:∀{σ7:St} {H7:Hp},Inv X (XX++Pn fp s5.heap) σ7 H7 s7->N σ7 H7->∃m,m<n/\∃i σ' H',Inv X XX σ' H' s7/\tn i s7.heap/\(∀b∈fp,H' b=none)/\W i m σ' H':=λ{σ7 H7} I7 n7=>by
   obtain⟨m',hm,w7⟩:=hN σ7 H7 n7;refine⟨m',hm,i+1,σ7,H7,I7.unpinned,T.keep _ _ _ st5 λb hb o e=>(I7.pin (b,o) (nj _ (nj _ (N4 hb e)))).1,λb hb=>?_,w7⟩;obtain⟨o,e,d⟩:=T.obj _ _ st5 b hb;exact(I7.pin (b,o) (nj _ (nj _ (N4 hb e)))).2.1
  cases f with
  | next=>obtain⟨σ7,H7,I7,n7⟩:=q7;exact again I7 n7
  | cont=>obtain⟨σ7,H7,I7,n7⟩:=q7;exact again I7 n7
  | brk=>obtain⟨σ7,H7,I7,q7⟩:=q7;exact⟨σ7,H7,I7.unpinned,q7⟩
  | ret v=>obtain⟨x7,σ7,H7,I7,r7,q7⟩:=q7;exact⟨x7,σ7,H7,I7.unpinned,r7,q7⟩
end
theorem W8{K:PySem.W.Frag}{a:Addr}{xs:ZZ}{g:TG}{tb:TS}{D:Ends}{j:St}{H:Hp}(Pv:Nat->St->Hp->Prop)(h0:Pv 0 j H)(hl:∀i j H,i<=xs.length->Pv i j H->Zu K H a xs)
  (hs:∀i x j H,xs[i]?=some x->Pv i j H->g x j H λσ2 H2=>tb { D with nx:=Pv (i+1),ct:=Pv (i+1),bk:=D.nx } σ2 H2) (hd:∀j H,Pv xs.length j H->D.nx j H) :
  ∃W:Nat->Nat->St->Hp->Prop,(∃m,W 0 m j H)/\∀i m j H,W i m j H ->
   ((Itl K a).stop i H/\D.nx j H)\/((Itl K a).go i H/\∃N:St->Hp->Prop,(∀σ' H',N σ' H'->∃m',m'<m/\W (i+1) m' σ' H')/\∀x H',(Itl K a).yld i H x H'->g x j H' λσ2 H2=>tb { D with nx:=N,ct:=N,bk:=D.nx } σ2 H2):=by
 refine⟨λi m j H=>m=xs.length-i/\i<=xs.length/\Pv i j H,⟨xs.length,by simp,Dc _,h0⟩,?_⟩;rintro i m j H ⟨rfl,hi,p⟩;have q:=hl i j H hi p;by_cases G9:i<xs.length
 .refine .inr ⟨⟨xs,xs[i],q,by simp[G9]⟩,Pv (i+1),λσ' H' p'=>⟨xs.length-(i+1),by omega,rfl,G9,p'⟩,λx H' y=>?_⟩;obtain⟨e,y⟩:=y;subst e;exact hs i x j _ (y xs q) p
 .have e:i=xs.length:=QU
  subst e;exact .inl ⟨⟨xs,q,Yt _⟩,hd j H p⟩
theorem W7{K:PySem.W.Frag}{a:Addr}{xs:ZZ}{g:TG}{tb:TS}{D:Ends}{j:St}{H:Hp}(Pv:Nat->St->Hp->Prop)(h0:Pv 0 j H)(hl:∀i j H,i<=xs.length->Pv i j H->Zp K H a xs)
  (hs:∀i x j H,xs[i]?=some x->Pv i j H->g x j H λσ2 H2=>tb { D with nx:=Pv (i+1),ct:=Pv (i+1),bk:=D.nx } σ2 H2) (hd:∀j H,Pv xs.length j H->D.nx j H) :
  ∃W:Nat->Nat->St->Hp->Prop,(∃m,W 0 m j H)/\∀i m j H,W i m j H ->
   ((Itt K a).stop i H/\D.nx j H)\/((Itt K a).go i H/\∃N:St->Hp->Prop,(∀σ' H',N σ' H'->∃m',m'<m/\W (i+1) m' σ' H')/\∀x H',(Itt K a).yld i H x H'->g x j H' λσ2 H2=>tb { D with nx:=N,ct:=N,bk:=D.nx } σ2 H2):=by
 refine⟨λi m j H=>m=xs.length-i/\i<=xs.length/\Pv i j H,⟨xs.length,by simp,Dc _,h0⟩,?_⟩;rintro i m j H ⟨rfl,hi,p⟩;have q:=hl i j H hi p;by_cases G9:i<xs.length
 .refine .inr ⟨⟨xs,xs[i],q,by simp[G9]⟩,Pv (i+1),λσ' H' p'=>⟨xs.length-(i+1),by omega,rfl,G9,p'⟩,λx H' y=>?_⟩;obtain⟨e,y⟩:=y;subst e;exact hs i x j _ (y xs q) p
 .have e:i=xs.length:=QU
  subst e;exact .inl ⟨⟨xs,q,Yt _⟩,hd j H p⟩
theorem Cz{lo:Int}{n:Nat}{g:TG}{tb:TS}{D:Ends}{j:St}{H:Hp}(Pv:Nat->St->Hp->Prop)(h0:Pv 0 j H)
  (hs:∀i j H,i<n->Pv i j H->g (.int (lo+i)) j H λσ2 H2=>tb { D with nx:=Pv (i+1),ct:=Pv (i+1),bk:=D.nx } σ2 H2) (hd:∀j H,Pv n j H->D.nx j H) :
  ∃W:Nat->Nat->St->Hp->Prop,(∃m,W 0 m j H)/\∀i m j H,W i m j H ->
   ((Itr lo n).stop i H/\D.nx j H)\/((Itr lo n).go i H/\∃N:St->Hp->Prop,(∀σ' H',N σ' H'->∃m',m'<m/\W (i+1) m' σ' H')/\∀x H',(Itr lo n).yld i H x H'->g x j H' λσ2 H2=>tb { D with nx:=N,ct:=N,bk:=D.nx } σ2 H2):=by
 refine⟨λi m j H=>m=n-i/\i<=n/\Pv i j H,⟨n,by simp,Dc _,h0⟩,?_⟩;rintro i m j H ⟨rfl,hi,p⟩;by_cases G9:i<n
 .refine .inr ⟨G9,Pv (i+1),λσ' H' p'=>⟨n-(i+1),by omega,rfl,G9,p'⟩,λx H' y=>?_⟩;obtain⟨e,y⟩:=y;subst e y;exact hs i j _ G9 p
 .have e:i=n:=QU
  subst e;exact .inl ⟨Yt _,hd j H p⟩
abbrev R2:=V->V->Hp->VK->Prop
def M4(X:Cx)(f:Value->Value->Sem Value)(r:R2):Prop :=
 ∀(XX:Vs) (s:Shared) (j:St) (H:Hp) (x y:V) (v u:Value) (Q:VK),Inv X XX j H s->RelV x v->RelV y u->r x y H Q ->
  wpAny (model X.prog X.w) X.A (f v u) (EP X XX j Q) X.xe s
def UnR(X:Cx)(f:Value->Sem Value)(r:V->Hp->VK->Prop):Prop :=
 ∀(XX:Vs) (s:Shared) (j:St) (H:Hp) (x:V) (v:Value) (Q:VK),Inv X XX j H s->RelV x v->r x H Q ->
  wpAny (model X.prog X.w) X.A (f v) (EP X XX j Q) X.xe s
def Jm(X:Cx)(f:Value)(r:ZZ->Hp->VK->Prop):Prop :=
 ∀(XX:Vs) (s:Shared) (j:St) (H:Hp) (xs:ZZ) (us:ZG) (Q:VK),Inv X XX j H s->Yj xs us->r xs H Q ->
  wpAny (model X.prog X.w) X.A (call f us) (EP X XX j Q) X.xe s
def tOp(r:R2)(ta tb:TE):TE:=λj H Q=>ta j H λx H1=>tb j H1 λy H2=>r x y H2 Q
def tUn(r:V->Hp->VK->Prop)(ta:TE):TE:=λj H Q=>ta j H λx H1=>r x H1 Q
inductive rI_I(C:Int->Int->Prop)(g:Int->Int->V)(x:V)(y:V)(H:Hp)(Q:VK):Prop
 | mk(i j)(Vx:x=.int i)(Vz:y=.int j)(Vp:C i j)(Jn:Q (g i j) H)
def rI(C:Int->Int->Prop)(g:Int->Int->V):R2:=λx y H Q=>rI_I C g x y H Q
inductive rI0_I(g:Int->Int->V)(x:V)(y:V)(H:Hp)(Q:VK):Prop
 | mk(i j)(Vx:x=.int i)(Vz:y=.int j)(Vp:Q (g i j) H)
def rI0(g:Int->Int->V):R2:=λx y H Q=>rI0_I g x y H Q
inductive rU_I(g:Int->V)(x:V)(H:Hp)(Q:VK):Prop
 | mk(i)(Vx:x=.int i)(Vz:Q (g i) H)
def rU(g:Int->V):V->Hp->VK->Prop:=λx H Q=>rU_I g x H Q
section
variable{X:Cx}{a b c:Expr}{ta tb tc:TE}{pos:Pos}
theorem binT(ha:PE X a ta)(hb:PE X b tb){R:V->V->Hp->Prop}(I:Inv X XX j H s)
  (h:ta j H λx H1=>tb j H1 λy H2=>R x y H2)  {f:Value->Value->Sem Value}
  (hf:∀v u s2 x y H2,Inv X XX j H2 s2->RelV x v->RelV y u->R x y H2->wpAny (model X.prog X.w) X.A (f v u) Q X.xe s2) :
  wpAny (model X.prog X.w) X.A (eval a X.env) (λv s₁=>wpAny (model X.prog X.w) X.A (eval b X.env) (λu s₂=>wpAny (model X.prog X.w) X.A (f v u) Q X.xe s₂) X.xe s₁) X.xe s:=by
 refine Y7 (ha XX s j H _ I h) λv s1 ⟨x,H1,I1,r1,q1⟩=>?_;refine Y7 (hb XX s1 j H1 _ I1 q1) λu s2 ⟨y,H2,I2,r2,q2⟩=>?_;exact hf v u s2 x y H2 I2 r1 r2 q2
theorem Gp{op:Operator}{r:R2}(ho:M4 X (binaryOp op) r)(ha:PE X a ta)(hb:PE X b tb):PE X (.BinOp a op b pos) (tOp r ta tb):=by
 intro XX s j H Q I h;exact wpAny_BinOp (binT ha hb I h λv u s2 x y H2 I2 rx ry q=>ho XX s2 j H2 x y v u Q I2 rx ry q)
theorem E3{op:UnaryOp}{r:V->Hp->VK->Prop}(ho:UnR X (unaryOp op) r)(ha:PE X a ta):PE X (.UnaryOp op a pos) (tUn r ta):=by
 intro XX s j H Q I h;exact UnaryOp_ (Y7 (ha XX s j H _ I h) λv s1 ⟨x,H1,I1,r1,q1⟩=>ho XX s1 j H1 x v Q I1 r1 q1)
theorem opI{f:Value->Value->Sem Value}{C:Int->Int->Prop}{g:Int->Int->Int}
  (rule:∀(i j:Int) (t u:Tok) (s:Shared) (Q:Ya) (E:Ya),C i j->Q (.int (g i j) s.toks) { s with toks:=s.toks+1 }->wpAny (model X.prog X.w) X.A (f (.int i t) (.int j u)) Q E s) :
  M4 X f (rI C λi j=>.int (g i j)):=by
 intro XX s Z H x y v u Q I rx ry h;obtain⟨i,j,rfl,rfl,hc,q⟩:=h;obtain⟨t,rfl⟩:=rx;obtain⟨t',rfl⟩:=ry;exact rule i j t t' s _ _ hc ⟨.int (g i j),H,I.tok _,⟨_,rfl⟩,q⟩
theorem opI0{f:Value->Value->Sem Value}{g:Int->Int->Int}
  (rule:∀(i j:Int) (t u:Tok) (s:Shared) (Q:Ya) (E:Ya),Q (.int (g i j) s.toks) { s with toks:=s.toks+1 }->wpAny (model X.prog X.w) X.A (f (.int i t) (.int j u)) Q E s) :
  M4 X f (rI0 λi j=>.int (g i j)):=by
 intro XX s Z H x y v u Q I rx ry h;obtain⟨i,j,rfl,rfl,q⟩:=h;obtain⟨t,rfl⟩:=rx;obtain⟨t',rfl⟩:=ry;exact rule i j t t' s _ _ ⟨.int (g i j),H,I.tok _,⟨_,rfl⟩,q⟩
theorem opB0{f:Value->Value->Sem Value}{g:Int->Int->Bool}
  (rule:∀(i j:Int) (t u:Tok) (s:Shared) (Q:Ya) (E:Ya),Q (.bool (g i j)) s->wpAny (model X.prog X.w) X.A (f (.int i t) (.int j u)) Q E s) :
  M4 X f (rI0 λi j=>.bl (g i j)):=by
 intro XX s Z H x y v u Q I rx ry h;obtain⟨i,j,rfl,rfl,q⟩:=h;obtain⟨t,rfl⟩:=rx;obtain⟨t',rfl⟩:=ry;exact rule i j t t' s _ _ ⟨.bl (g i j),H,I,rfl,q⟩
def CDiv(i j:Int):Prop:=0<j/\j<1073741824
def Zj9(i j:Int):Prop:=0<=j/\j<=1000000/\i.natAbs<2 ^ 64
def CMul(i j:Int):Prop:=(-(2 ^ 64)<i/\i<2 ^ 64)\/(-(2 ^ 64)<j/\j<2 ^ 64)
theorem CMul.ok{i j:Int}(h:CMul i j):IntMulOk i j:=by
 rcases h with ⟨h1,h2⟩ | ⟨h1,h2⟩
 .exact .of_left (intBits_le_64 h1 h2)
 .exact .of_right (intBits_le_64 h1 h2)
theorem Ja:M4 X (binaryOp .Add) (rI0 λi j=>.int (i+j)):=opI0 λ_ _ _ _ _ _ _ q=>add_int q
theorem B7:M4 X (binaryOp .Sub) (rI0 λi j=>.int (i-j)):=opI0 λ_ _ _ _ _ _ _ q=>sub_int q
theorem B8:M4 X (binaryOp .Mult) (rI CMul λi j=>.int (i*j)):=opI λ_ _ _ _ _ _ _ hc q=>mul_int q hc.ok
theorem Hk:M4 X (binaryOp .FloorDiv) (rI CDiv λi j=>.int (i / j)):=opI λi j _ _ _ _ _ hc q=>by
 have h1:(0:Int)<j:=hc.1;have h2:j<1073741824:=hc.2;exact floordiv_int QU (by rw[Int.fdiv_eq_ediv_of_nonneg i QU];exact q) (.inl (PyProof.noPylong_small QU))
theorem Me:M4 X (binaryOp .Mod) (rI (λ_ j=>0<j) λi j=>.int (i % j)):=opI λi j _ _ _ _ _ hc q=>by
 have h1:(0:Int)<j:=hc;exact mod_int' QU (by rw[Int.fmod_eq_emod_of_nonneg i QU];exact q)
theorem Rg:M4 X (binaryOp .Pow) (rI Zj9 λi j=>.int (i ^ j.toNat)):=opI λ_ _ _ _ _ _ _ hc q=>pow_int_small hc.1 hc.2.1 hc.2.2 q
theorem unI{f:Value->Sem Value}{g:Int->Int}
  (rule:∀(i:Int) (t:Tok) (s:Shared) (Q:Ya) (E:Ya),Q (.int (g i) s.toks) { s with toks:=s.toks+1 }->wpAny (model X.prog X.w) X.A (f (.int i t)) Q E s) :
  UnR X f (rU λi=>.int (g i)):=by
 intro XX s j H x v Q I rx h;obtain⟨i,rfl,q⟩:=h;obtain⟨t,rfl⟩:=rx;exact rule i t s _ _ ⟨.int (g i),H,I.tok _,⟨_,rfl⟩,q⟩
theorem Lp:UnR X (unaryOp .USub) (rU λi=>.int (-i)):=unI λ_ _ _ _ _ q=>neg_int q
end
noncomputable def scal:V->V->Bool
 | .non,.non=>true | .non,.int _=>true | .int _,.non=>true | .non,.bl _=>true | .bl _,.non=>true | .non,.str _=>true | .str _,.non=>true
 | .int _,.int _=>true | .bl _,.bl _=>true | .str _,.str _=>true | .byt _,.byt _=>true
 | .int _,.str _=>true | .str _,.int _=>true | .bl _,.str _=>true | .str _,.bl _=>true
 | _,_=>false
def rEq:R2:=λx y H Q=>scal x y=true/\Q (.bl (decide (x=y))) H
def rNe:R2:=λx y H Q=>scal x y=true/\Q (.bl (!decide (x=y))) H
theorem Qo{i j:Int}:decide (V.int i=V.int j)=(i==j):=by
 rw[Bool.eq_iff_iff];simp
theorem Zjr:decide (V.bl i=V.bl j)=(i==j):=by
 rw[Bool.eq_iff_iff];simp
theorem dh:decide (V.str i=V.str j)=(i==j):=by
 rw[Bool.eq_iff_iff];simp
theorem du:decide (V.byt i=V.byt j)=(i.toList==j.toList):=by
 rw[Bool.eq_iff_iff];cases i;cases j;simp
section
variable{X:Cx}{a b c:Expr}{ta tb tc:TE}{pos:Pos}
theorem Ym(I:Inv X XX j H s)(q:Q (.bl k) H)(e:k=k'):EP X XX j Q (.bool k') s:=by
 subst e;exact⟨.bl k,H,I,rfl,q⟩
theorem Za:M4 X (compareOp .Eq) rEq:=by
 intro XX s Z H x y v u Q I rx ry h;obtain⟨hs,q⟩:=h;cases x with
 | non =>
  cases rx;cases y with
  | non=>cases ry;exact PySem.EqNone.eq_none_none (Ym I q QE)
  | bl j=>cases ry;exact PySem.EqNone.eq_none_bool (Ym I q QE)
  | int j=>obtain⟨t',rfl⟩:=ry;exact PySem.EqNone.eq_none_int (Ym I q QE)
  | str j=>obtain⟨t',rfl⟩:=ry;exact PySem.EqNone.eq_none_str (Ym I q QE)
  | _=>exact absurd (show false=true from hs) Cg
 | bl i =>
  cases rx;cases y with
  | non=>cases ry;exact PySem.EqNone.eq_bool_none (Ym I q QE)
  | bl j=>cases ry;exact eq_bool (Ym I q Zjr)
  | str j=>obtain⟨t',rfl⟩:=ry;exact PySem.EqMixed.eq_bool_str (Ym I q QE)
  | _=>exact absurd (show false=true from hs) Cg
 | int i =>
  obtain⟨t,rfl⟩:=rx;cases y with
  | non=>cases ry;exact PySem.EqNone.eq_int_none (Ym I q QE)
  | int j=>obtain⟨t',rfl⟩:=ry;exact eq_int (Ym I q Qo)
  | str j=>obtain⟨t',rfl⟩:=ry;exact PySem.EqMixed.eq_int_str (Ym I q QE)
  | _=>exact absurd (show false=true from hs) Cg
 | str i =>
  obtain⟨t,rfl⟩:=rx;cases y with
  | non=>cases ry;exact PySem.EqNone.eq_str_none (Ym I q QE)
  | bl j=>cases ry;exact PySem.EqMixed.eq_str_bool (Ym I q QE)
  | int j=>obtain⟨t',rfl⟩:=ry;exact PySem.EqMixed.eq_str_int (Ym I q QE)
  | str j=>obtain⟨t',rfl⟩:=ry;exact eq_str (Ym I q dh)
  | _=>exact absurd (show false=true from hs) Cg
 | byt i =>
  obtain⟨t,rfl⟩:=rx;cases y with
  | byt j=>obtain⟨t',rfl⟩:=ry;exact W.eq_bytes (Ym I q du)
  | _=>exact absurd (show false=true from hs) Cg
 | _=>cases y<;>exact absurd (show false=true from hs) Cg
theorem Zx0:M4 X (compareOp .NotEq) rNe:=by
 intro XX s Z H x y v u Q I rx ry h;obtain⟨hs,q⟩:=h;cases x with
 | non =>
  cases rx;cases y with
  | non=>cases ry;exact PySem.EqNone.ne_none_none (Ym I q QE)
  | bl j=>cases ry;exact PySem.EqNone.ne_none_bool (Ym I q QE)
  | int j=>obtain⟨t',rfl⟩:=ry;exact PySem.EqNone.ne_none_int (Ym I q QE)
  | str j=>obtain⟨t',rfl⟩:=ry;exact PySem.EqNone.ne_none_str (Ym I q QE)
  | _=>exact absurd (show false=true from hs) Cg
 | bl i =>
  cases rx;cases y with
  | non=>cases ry;exact PySem.EqNone.ne_bool_none (Ym I q QE)
  | bl j=>cases ry;exact ne_bool (Ym I q (congrArg not Zjr))
  | str j=>obtain⟨t',rfl⟩:=ry;exact PySem.EqMixed.ne_bool_str (Ym I q QE)
  | _=>exact absurd (show false=true from hs) Cg
 | int i =>
  obtain⟨t,rfl⟩:=rx;cases y with
  | non=>cases ry;exact PySem.EqNone.ne_int_none (Ym I q QE)
  | int j=>obtain⟨t',rfl⟩:=ry;exact ne_int (Ym I q (congrArg not Qo))
  | str j=>obtain⟨t',rfl⟩:=ry;exact PySem.EqMixed.ne_int_str (Ym I q QE)
  | _=>exact absurd (show false=true from hs) Cg
 | str i =>
  obtain⟨t,rfl⟩:=rx;cases y with
  | non=>cases ry;exact PySem.EqNone.ne_str_none (Ym I q QE)
  | bl j=>cases ry;exact PySem.EqMixed.ne_str_bool (Ym I q QE)
  | int j=>obtain⟨t',rfl⟩:=ry;exact PySem.EqMixed.ne_str_int (Ym I q QE)
  | str j=>obtain⟨t',rfl⟩:=ry;exact ne_str (Ym I q (congrArg not dh))
  | _=>exact absurd (show false=true from hs) Cg
 | byt i =>
  obtain⟨t,rfl⟩:=rx;cases y with
  | byt j=>obtain⟨t',rfl⟩:=ry;exact W.ne_bytes (Ym I q (congrArg not du))
  | _=>exact absurd (show false=true from hs) Cg
 | _=>cases y<;>exact absurd (show false=true from hs) Cg
theorem Fs:M4 X (compareOp .Lt) (rI0 λi j=>.bl (decide (i<j))):=opB0 λ_ _ _ _ _ _ _ q=>lt_int q
theorem Pp:M4 X (compareOp .LtE) (rI0 λi j=>.bl (decide (i<=j))):=opB0 λ_ _ _ _ _ _ _ q=>le_int q
theorem Zgq:M4 X (compareOp .Gt) (rI0 λi j=>.bl (decide (j<i))):=opB0 λ_ _ _ _ _ _ _ q=>gt_int q
inductive Ie(x:V)(y:V)(H:Hp)(Q:VK):Prop
 | mk(i j)(Vx:x=.str i)(Vz:y=.str j)(Vp:Q (.bl (decide (i.cps.toList<j.cps.toList))) H)
theorem pj:M4 X (compareOp .Lt) (λx y H Q=>Ie x y H Q):=by
 intro XX s Z H x y v u Q I rx ry h;obtain⟨i,j,rfl,rfl,q⟩:=h;obtain⟨t,rfl⟩:=rx;obtain⟨t',rfl⟩:=ry;exact lt_str (Ym I q rfl)
theorem Zx1:M4 X (compareOp .Is) (λx y H Q=>y=.non/\Q (.bl (decide (x=.non))) H):=by
 intro XX s j H x y v u Q I rx ry h;obtain⟨rfl,q⟩:=h;cases ry;refine is_none_gen (Ym I q ?_)
 cases x<;>first
  | (cases rx;rfl)
  | (obtain⟨t,rfl⟩:=rx;rfl)
theorem Zv9:M4 X (compareOp .IsNot) (λx y H Q=>y=.non/\Q (.bl (!decide (x=.non))) H):=by
 intro XX s j H x y v u Q I rx ry h;obtain⟨rfl,q⟩:=h;cases ry;refine isnot_none_gen (Ym I q ?_)
 cases x<;>first
  | (cases rx;rfl)
  | (obtain⟨t,rfl⟩:=rx;rfl)
theorem j5(b:Expr)(h:op≠.In:=by decide)(h2:op≠.NotIn:=by decide):behindInMarks op b=false:=by
 have e1:(op==CmpOp.In)=false:=by cases op<;>first | rfl | exact absurd rfl h
 have e2:(op==CmpOp.NotIn)=false:=by cases op<;>first | rfl | exact absurd rfl h2
 cases b<;>simp[behindInMarks,e1,e2]
theorem fh{op:CmpOp}{r:R2}(ho:M4 X (compareOp op) r)(ha:PE X a ta)(hb:PE X b tb)(hm:behindInMarks op b=false):PE X (.Compare a [op] [b] pos) (tOp r ta tb):=by
 intro XX s j H Q I h;exact wpAny_Compare1 (binT ha hb I h λv u s2 x y H2 I2 rx ry q=>ho XX s2 j H2 x y v u Q I2 rx ry q) hm
inductive Zwp(Q:(Bool->Hp->Prop))(x:V)(H':Hp):Prop
 | mk(k)(Vx:x=.bl k)(Vz:Q k H')
def Zzd(t:TE):TT:=λj H Q=>t j H λx H'=>Zwp Q x H'
theorem Uw(ho:M4 X (compareOp op) r)(ha:PE X a ta)(hb:PE X b tb)(hm:behindInMarks op b=false):PT X (.Compare a [op] [b] pos) (Zzd (tOp r ta tb)):=by
 intro XX s j H Q I h
 refine wpAny_isTrue_Compare1 (Y7 (ha XX s j H _ I h) λv s1 ⟨x,H1,I1,r1,q1⟩=>Y7 (hb XX s1 j H1 _ I1 q1) λu s2 ⟨y,H2,I2,r2,q2⟩ =>
  Y7 (ho XX s2 j H2 x y v u _ I2 r1 r2 q2) λc s3 ⟨z,H3,I3,r3,k,e,q3⟩=>?_) hm
 subst e;cases r3;exact wpAny_truthy_bool ⟨H3,I3,q3⟩
inductive Zzh(r':R2)(tc:TE)(j:St)(Q:VK)(y:V)(z:V)(H3:Hp):Prop
 | mk(k)(Vx:z=.bl k)(Vz:(if k=true then tc j H3 λw' H4=>r' y w' H4 Q else Q (.bl false) H3))
def Zzp(r r':R2)(ta tb tc:TE):TE:=λj H Q=>ta j H λx H1=>tb j H1 λy H2=>r x y H2 λz H3=>Zzh r' tc j Q y z H3
theorem Zxh{op op':CmpOp}{r r':R2}(ho:M4 X (compareOp op) r)(m9:M4 X (compareOp op') r')(ha:PE X a ta)(hb:PE X b tb)(hc:PE X c tc)
  (hm:lastMarks [op,op'] [b,c]=false:=by with_unfolding_all rfl):PE X (.Compare a [op,op'] [b,c] pos) (Zzp r r' ta tb tc):=by
 intro XX s j H Q I h
 refine Compare_chain (Y7 (ha XX s j H _ I h) λv s1 ⟨x,H1,I1,r1,q1⟩=>chain_link (Y7 (hb XX s1 j H1 _ I1 q1) λu s2 ⟨y,H2,I2,r2,q2⟩ =>
  Y7 (ho XX s2 j H2 x y v u _ I2 r1 r2 q2) λd s3 ⟨z,H3,I3,r3,k,e,q3⟩=>?_)) hm
 subst e;cases r3;refine wpAny_truthy_bool ?_;cases k with
 | false=>exact ite_ff ⟨.bl false,H3,I3,rfl,q3⟩
 | true=>exact ite_tt (chain_last (Y7 (hc XX s3 j H3 _ I3 q3) λw' s4 ⟨z',H4,I4,r4,q4⟩=>m9 XX s4 j H4 y z' u w' Q I4 r2 r4 q4))
theorem Zxd{op op':CmpOp}{r r':R2}(ho:M4 X (compareOp op) r)(m9:M4 X (compareOp op') r')(ha:PE X a ta)(hb:PE X b tb)(hc:PE X c tc)
  (hm:lastMarks [op,op'] [b,c]=false:=by with_unfolding_all rfl):PT X (.Compare a [op,op'] [b,c] pos) (Zzd (Zzp r r' ta tb tc)):=by
 intro XX s j H Q I h
 refine isTrue_chain (Y7 (ha XX s j H _ I h) λv s1 ⟨x,H1,I1,r1,q1⟩=>test_link (Y7 (hb XX s1 j H1 _ I1 q1) λu s2 ⟨y,H2,I2,r2,q2⟩ =>
  Y7 (ho XX s2 j H2 x y v u _ I2 r1 r2 q2) λd s3 ⟨z,H3,I3,r3,k,e,q3⟩=>?_)) hm
 subst e;cases r3;refine wpAny_truthy_bool ?_;cases k with
 | false =>
  obtain⟨k',e',q'⟩:=q3;cases e';exact ite_ff ⟨H3,I3,q'⟩
 | true =>
  refine ite_tt (test_last (Y7 (hc XX s3 j H3 _ I3 q3) λw' s4 ⟨z',H4,I4,r4,q4⟩=>Y7 (m9 XX s4 j H4 y z' u w' _ I4 r2 r4 q4) λd' s5 ⟨z2,H5,I5,r5,k2,e2,q5⟩=>?_));subst e2;cases r5;exact wpAny_truthy_bool ⟨H5,I5,q5⟩
theorem Ox:(sizeLine:Nat)<2 ^ 63:=by rw[sizeLine_eq];decide
inductive Hg(x:V)(y:V)(H:Hp)(Q:VK):Prop
 | mk(i j)(Vx:x=.str i)(Vz:y=.str j)(Vp:i.length+j.length<=sizeLine)(Jn:Q (.str (i++j)) H)
theorem js:M4 X (binaryOp .Add) (λx y H Q=>Hg x y H Q):=by
 intro XX s Z H x y v u Q I rx ry h;obtain⟨i,j,rfl,rfl,hz,q⟩:=h;obtain⟨t,rfl⟩:=rx;obtain⟨t',rfl⟩:=ry;exact add_str (λt' tk=>⟨.str (i++j),H,I.tok _,⟨_,rfl⟩,q⟩) hz
theorem vals1(r:Yj [x] us):∃u,us=[u]/\RelV x u:=by
 cases r with
 | cons r1 r2=>cases r2;exact⟨_,rfl,r1⟩
theorem vals2(r:Yj [x,y] us):∃u w',us=[u,w']/\RelV x u/\RelV y w':=by
 cases r with
 | cons r1 r2 =>
  cases r2 with
  | cons r3 r4=>cases r4;exact⟨_,_,rfl,r1,r3⟩
inductive zj(xs:ZZ)(H:Hp)(Q:VK):Prop
 | mk(i j)(Vx:xs=[.int i,.int j])(Vz:Q (.int (if j<i then j else i)) H)
theorem Kt(hc:X.calm=true):Jm X (.builtin "min") (λxs H Q=>zj xs H Q):=by
 intro XX s Z H xs us Q I r h;obtain⟨i,j,rfl,q⟩:=h;obtain⟨u,w',rfl,⟨t,rfl⟩,⟨t',rfl⟩⟩:=vals2 r;refine min_two_ints (I.ok.hd hc) λh' tk k=>⟨_,H,I.kept k,?_,q⟩;by_cases hj:j<i
 .rw[if_pos hj,if_pos hj];exact⟨_,rfl⟩
 .rw[if_neg hj,if_neg hj];exact⟨_,rfl⟩
theorem Cj:Jm X (.type "int") (λxs H Q=>(∃i,xs=[.int i]/\Q (.int i) H)\/∃k,xs=[.bl k]/\Q (.int (if k then 1 else 0)) H):=by
 intro XX s j H xs us Q I r h;rcases h with ⟨i,rfl,q⟩ | ⟨k,rfl,q⟩
 .obtain⟨u,rfl,t,rfl⟩:=vals1 r;exact call_int_int ⟨.int i,H,I,⟨_,rfl⟩,q⟩
 .obtain⟨u,rfl,r1⟩:=vals1 r;cases r1;exact call_int_bool ⟨.int (if k then 1 else 0),H,I.tok _,⟨_,rfl⟩,q⟩
def LenV(K:W.Frag)(x:V)(H:Hp)(n:Nat):Prop :=
 match x with
 | .str y=>y.length<=sizeLine/\n=y.length
 | .byt y=>y.size<=sizeLine/\n=y.size
 | .ref p=>(∃xs,Zu K H p xs/\n=xs.length)\/∃xs,Zp K H p xs/\n=xs.length
 | _=>False
inductive yy(K:W.Frag)(xs:ZZ)(H:Hp)(Q:VK):Prop
 | mk(x n)(Vx:xs=[x])(Vz:LenV K x H n)(Vp:Q (.int n) H)
theorem Lq:Jm X (.builtin "len") (λxs H Q=>yy X.K xs H Q):=by
 intro XX s j H xs us Q I r h;obtain⟨x,n,rfl,e,q⟩:=h;obtain⟨u,rfl,rx⟩:=vals1 r;have hl:=Ox;have hs:sizeLine=16777216:=sizeLine_eq;cases x with
 | str y =>
  obtain⟨t,rfl⟩:=rx;obtain⟨hy,e'⟩:y.length<=sizeLine/\n=y.length:=e;subst e';exact len_str QU ⟨.int _,H,I.tok _,⟨_,rfl⟩,q⟩
 | byt y =>
  obtain⟨t,rfl⟩:=rx;obtain⟨hy,e'⟩:y.size<=sizeLine/\n=y.size:=e;subst e';exact W.len_bytes QU ⟨.int _,H,I.tok _,⟨_,rfl⟩,q⟩
 | ref p =>
  cases rx;have e':(∃xs,Zu X.K H p xs/\n=xs.length)\/∃xs,Zp X.K H p xs/\n=xs.length:=e;rcases e' with ⟨xs,hx,e'⟩ | ⟨xs,hx,e'⟩
  .subst e';obtain⟨XJ,r',pl,hz⟩:=I.list hx;have hlen:=r'.length;exact Calls.call_len_list pl.isList (by simp only[Mw];omega) ⟨.int xs.length,H,I.tok _,⟨_,by simp only[Mw];rw[hlen]⟩,q⟩
  .subst e';obtain⟨XJ,r',pl,hz⟩:=I.tuple hx;have hlen:=r'.length;exact len_tuple pl (by simp only[Mw];omega) ⟨.int xs.length,H,I.tok _,⟨_,by simp only[Mw];rw[hlen]⟩,q⟩
 | _=>exact(show False from e).elim
end
section
variable{prog:Program}{w:World}{A:Around}{E:Ya}{s:Shared}{K:W.Frag}{x dx C f:Addr}{mA:G6}{name:Str}{v:Value}
end
noncomputable def Rw(f:Str)(v:V):List (Str×V)->List (Str×V)
 | []=>[(f,v)]
 | (g,x)::r=>if g=f then (g,v)::r else (g,x)::Rw f v r
theorem Fo(f g:Str)(v:V):∀fs:List (Str×V),(Rw f v fs).lookup g=if g=f then some v else fs.lookup g
 | []=>by
  show List.lookup g [(f,v)]=_;by_cases h:g=f
  .have hb:(g==f)=true:=beq_iff_eq.mpr h;simp only[List.lookup,hb,if_pos h]
  .have hb:(g==f)=false:=ij.mpr h;simp only[List.lookup,hb,if_neg h]
 | (k,x)::r=>by
  have ih:=Fo f g v r;rw[show Rw f v ((k,x)::r)=(if k=f then (k,v)::r else (k,x)::Rw f v r) from rfl];by_cases hk:k=f
  .rw[if_pos hk];by_cases h:g=k
   .have hb:(g==k)=true:=beq_iff_eq.mpr h;simp only[List.lookup,hb,if_pos (h.trans hk)]
   .have hb:(g==k)=false:=ij.mpr h;simp only[List.lookup,hb,if_neg (λe:g=f=>h (e.trans hk.symm))]
  .rw[if_neg hk];by_cases h:g=k
   .have hb:(g==k)=true:=beq_iff_eq.mpr h;simp only[List.lookup,hb,if_neg (λe:g=f=>hk (h.symm.trans e))]
   .have hb:(g==k)=false:=ij.mpr h;simp only[List.lookup,hb];exact ih
theorem L9(f:Str)(v:V):∀fs:List (Str×V),f∈(Rw f v fs).map (·.1)/\∀g,g∈fs.map (·.1)->g∈(Rw f v fs).map (·.1)
 | []=>⟨by simp[Rw],λg h=>by simp at h⟩
 | (k,x)::r=>by
  obtain⟨i1,i2⟩:=L9 f v r;rw[show Rw f v ((k,x)::r)=(if k=f then (k,v)::r else (k,x)::Rw f v r) from rfl];by_cases hk:k=f
  .rw[if_pos hk];subst hk;exact⟨by simp,λg h=>by simpa using h⟩
  .rw[if_neg hk];refine⟨?_,λg h=>?_⟩
   .rw[Mu];exact Ck _ i1
   .rw[Mu]at h ⊢;rcases U8.mp h with e | e
    .exact U8.mpr (.inl e)
    .exact Ck _ (i2 g e)
theorem Fi(f:Str)(v:V):∀fs:List (Str×V),(Rw f v fs).length<=fs.length+1
 | []=>by simp[Rw]
 | (k,x)::r=>by
  have ih:=Fi f v r;rw[show Rw f v ((k,x)::r)=(if k=f then (k,v)::r else (k,x)::Rw f v r) from rfl];by_cases hk:k=f
  .rw[if_pos hk,R1,R1];omega
  .rw[if_neg hk,R1,R1];omega
theorem Rr.some_of(r:Rr (some v) o):∃u,o=some u/\RelV v u:=by
 cases o with
 | none=>exact(show False from r).elim
 | some u=>exact⟨u,rfl,r⟩
section
variable{P:Program}{w:World}{H H':Hp}{h h':Heap}{a C dx:Addr}{fs fs':List (Str×V)}
end
def Rh(K:W.Frag)(C:Addr)(f:Str):Prop:=W.findIn K (.ref C) f=some none
section
variable{X:Cx}{XX:Vs}{j:St}{H:Hp}{s:Shared}{a C dx:Addr}{fs:List (Str×V)}{f:Str}{v:V}{A:Around}{E:Ya}
theorem Zkc(hb:attributeBase e f env (eval e env)=eval e env)
  (h:wpAny (model prog w) A (eval e env) (λo s₁=>wpAny (model prog w) A (getAttr o f true) Q E s₁) E s):wpAny (model prog w) A (eval (.Attribute e f pos) env) Q E s :=
 Attribute_any_ h (by rw[arm_eval_Attribute,hb])
end
section
variable{X:Cx}{o e value:Expr}{f:Str}{pos pos' tpos:Pos}{ta tv:TE}
end
section
variable{X:Cx}{XX:Vs}{j:St}{H:Hp}{s:Shared}{A:Around}{E:Ya}{Q:Ya}{c:Value}{b:Bool}
end
structure V8(k:Nat)(A:Around):Prop where
 hd:A.handled=none
 dp:A.depth+3*k+5<recursionLimit
 un:A.units+16*k+200<cLine
 gd:A.guards=some []
theorem V8.mono(r:V8 k A)(h:j<=k):V8 j A:=⟨r.hd,by have:=r.dp;omega,by have:=r.un;omega,r.gd⟩
theorem V8.deeper(r:V8 (k+1) A)(env:Env):V8 k (A.deeper env) :=
 ⟨r.hd,by have:=r.dp;show A.depth+1+3*k+5<_;omega,by have:=r.un;show A.units+3+16*k+200<_;omega,r.gd⟩
theorem V8.in1(r:V8 (k+1) A):V8 k A.in1 :=
 ⟨r.hd,by have:=r.dp;show A.depth+3*k+5<_;omega,by have:=r.un;show A.units+1+16*k+200<_;omega,r.gd⟩
theorem wk{A:Around}{C:Addr}{us:ZG}{kw:List (Str×Value)}:(A.under (.builtin "type.__call__" ⟨.ref C::us,kw⟩)).depth=A.depth+1:=by
 first | rfl | simp[Around.under,Code.weight,Code.isCreation,Code.isGuard,Code.isCaller,Code.frames,Code.isFrame,guardIds]
theorem wj{A:Around}{C:Addr}{us:ZG}{kw:List (Str×Value)}:(A.under (.builtin "type.__call__" ⟨.ref C::us,kw⟩)).units=A.units+1:=by
 first | rfl | simp[Around.under,Code.cUnits,Code.frames,Code.isFrame]
theorem V8.make{k:Nat}{A:Around}(r:V8 (k+1) A)(C:Addr)(us:ZG)(kw:List (Str×Value)):V8 k (A.under (.builtin "type.__call__" ⟨.ref C::us,kw⟩)) :=
 ⟨r.hd,by have:=r.dp;rw[wk];omega,by have:=r.un;rw[wj];omega,by first | exact r.gd | simp[Around.under,Code.guards,Code.isGuard,guardIds,pushGuards,r.gd]⟩
theorem V8.depth(r:V8 k A):A.depth<recursionLimit:=by have:=r.dp;omega
theorem V8.units(r:V8 k A):A.units+64<cLine:=by have:=r.un;omega
theorem V8.units0(r:V8 k A):A.units<cLine:=by have:=r.un;omega
def tNil:TA:=λ_ H Q=>Q [] H
def Zzr(ta:TE)(tr:TA):TA:=λj H Q=>ta j H λx H1=>tr j H1 λxs H2=>Q (x::xs) H2
section
variable{X:Cx}{e:Expr}{es:ZD}{te:TE}{t:TA}{pos:Pos}
theorem Zx:PA X [] tNil:=λ_ _ _ _ H Q I h=>Calls.spliced_nil ⟨[],H,I,.nil,h⟩
theorem Zj(ha:PE X e te)(hr:PA X es t)(hs:starEach (e::es) X.env=(false,eval e X.env)::starEach es X.env:=by rfl):PA X (e::es) (Zzr te t):=by
 intro pos XX s j H Q I h;rw[hs];show wpAny _ _ (spliced ((false,eval e X.env)::backTo pos (starEach es X.env))) _ _ s;refine Calls.spliced_cons (Y7 (ha XX s j H _ I h) λu s1 ⟨x,H1,I1,r1,q1⟩=>?_);exact Y7 (hr pos XX s1 j H1 _ I1 q1) λus s2 ⟨xs,H2,I2,r2,q2⟩=>⟨x::xs,H2,I2,.cons r1 r2,q2⟩
inductive tTup_I(Q:VK)(xs:ZZ)(H1:Hp):Prop
 | mk  (Vx:xs.length<=sizeLine)(Vz:∀p,H1 p=none->Q (.ref p) (upd H1 p (.tup xs)))
def tTup(t:TA):TE:=λj H Q=>t j H λxs H1=>tTup_I Q xs H1
inductive tLst_I(Q:VK)(xs:ZZ)(H1:Hp):Prop
 | mk  (Vx:xs.length<=sizeLine)(Vz:∀p,H1 p=none->Q (.ref p) (upd H1 p (.lst xs)))
def tLst(t:TA):TE:=λj H Q=>t j H λxs H1=>tLst_I Q xs H1
theorem Ys{x1}(h:PA X es t):PE X (.Tuple es x1 pos) (tTup t):=by
 intro XX s j H Q I hq;refine wpAny_Tuple_spliced (Y7 (h pos XX s j H _ I hq) λus s1 ⟨xs,H1,I1,r,z,q⟩=>⟨by rw[<-r.length];exact z,?_⟩);have hf:H1 s1.heap.objs.size=none:=I1.hok.fresh (Yt _);refine⟨.ref s1.heap.objs.size,upd H1 s1.heap.objs.size (.tup xs),I1.laid (t':=s1.toks) (λb u e=>Uz _ e) (Yt _) ?_,rfl,q _ hf⟩;exact⟨z,us,r,⟨_,M7 _ rfl,rfl,⟨_,rfl⟩,rfl⟩⟩
theorem Z9(h:PA X es t):PE X (.List es pos) (tLst t):=by
 intro XX s j H Q I hq;refine wpAny_List_spliced (Y7 (h pos XX s j H _ I hq) λus s1 ⟨xs,H1,I1,r,z,q⟩=>⟨by rw[<-r.length];exact z,?_⟩);have hf:H1 s1.heap.objs.size=none:=I1.hok.fresh (Yt _);refine⟨.ref s1.heap.objs.size,upd H1 s1.heap.objs.size (.lst xs),I1.laid (t':=s1.toks) (λb u e=>Uz _ e) (Yt _) ?_,rfl,q _ hf⟩;exact⟨z,us,0,r,M7 _ rfl⟩
end
abbrev Sp:=ZZ->Hp->VK->XK->Prop
abbrev A3:=List Env->Hp->Shared->XK->Value->Shared->Prop
structure Es(P:Program)(w:World)(K:W.Frag)(mg:G6)(base:Heap)(A:Around)(outer:List Env)(s:Shared)(H:Hp):Prop where
 frames:A.frames=some outer
 mod:Mod K mg base
 bs:∀b o,base.get? b=some o->s.heap.get? b=some o/\H b=none
 bsz:base.objs.size<=s.heap.objs.size
 funs:s.heap.FunFrames base outer
 frf:∀b∈dk outer,H b=none
 hok:Bs P w H s.heap
 bare:AllBare s.gens
def CE(outer:List Env)(P:Program)(w:World)(H:Hp)(s:Shared)(Q:VK)(u:Value)(s':Shared):Prop :=
 ∃v H',s'.os=s.os/\AllBare s'.gens/\Un (dk outer) [] H H' s.heap s'.heap/\Bs P w H' s'.heap/\RelV v u/\Q v H'
def CR(CX:A3)(outer:List Env)(P:Program)(w:World)(H:Hp)(s:Shared)(Q:VK)(E:XK)(r:Result)(s':Shared):Prop :=
 match r with
 | .ok (.ret u)=>CE outer P w H s Q u s'
 | .ok _=>False
 | .error e=>CX outer H s E e s'
structure Yk(P:Program)(w:World)(K:W.Frag)(mg:G6)(base:Heap)(CX:A3)(k:Nat)(f:Addr)(fd:FuncData)(ps:ZF)(sp:Sp):Prop where
 len:∀vs H Q E,sp vs H Q E->vs.length=ps.length
 run:∀(A:Around) (outer:List Env) (s:Shared) (H:Hp) (args:Args) (us:ZG) (vs:ZZ) (Q:VK) (E:XK),V8 k A->Es P w K mg base A outer s H->BindsTo s fd args (ps.zip us)->Yj vs us->sp vs H Q E ->
  codeAny (model P w) A (.call (.ref f) args) (CR CX outer P w H s Q E) s
theorem Yk.mono{P:Program}{w:World}{K:W.Frag}{mg:G6}{base:Heap}{CX:A3}{j k:Nat}{f:Addr}{fd:FuncData}{ps:ZF}{sp:Sp}(F:Yk P w K mg base CX j f fd ps sp)(h:j<=k) :
  Yk P w K mg base CX k f fd ps sp:=⟨F.len,λA outer s H args us vs Q E hr=>F.run A outer s H args us vs Q E (hr.mono h)⟩
theorem Yk.m{P:Program}{w:World}{K:W.Frag}{mg:ZJ}{base:Heap}{CX:A3}{j k:Nat}{f:Addr}{fd:FuncData}{ps:ZF}{sp:Sp}(F:Yk P w K mg base CX j f fd ps sp)(h:j<=k:=by omega):Yk P w K mg base CX k f fd ps sp:=F.mono h
theorem Yk.imp{P:Program}{w:World}{K:W.Frag}{mg:G6}{base:Heap}{CX:A3}{k:Nat}{f:Addr}{fd:FuncData}{ps:ZF}{sp sp':Sp}(F:Yk P w K mg base CX k f fd ps sp)
  (h:∀vs H Q E,sp' vs H Q E->sp vs H Q E):Yk P w K mg base CX k f fd ps sp' :=
 ⟨λvs H Q E q=>F.len vs H Q E (h _ _ _ _ q),λA outer s H args us vs Q E hr he hb hv hs=>F.run A outer s H args us vs Q E hr he hb hv (h _ _ _ _ hs)⟩
theorem Es.make{P:Program}{w:World}{K:W.Frag}{mg:G6}{base:Heap}{A:Around}{outer:List Env}{s:Shared}{H:Hp}(e:Es P w K mg base A outer s H)(C:Addr)(us:ZG)(kw:List (Str×Value)) :
  Es P w K mg base (A.under (.builtin "type.__call__" ⟨.ref C::us,kw⟩)) outer s H:=⟨by first | exact e.frames | (simpa [Around.under,Code.envs,Code.isFrame,pushEnvs] using e.frames),e.mod,e.bs,e.bsz,e.funs,e.frf,e.hok,e.bare⟩
theorem Es.in1{P:Program}{w:World}{K:W.Frag}{mg:G6}{base:Heap}{A:Around}{outer:List Env}{s:Shared}{H:Hp}(e:Es P w K mg base A outer s H) :
  Es P w K mg base A.in1 outer s H:=⟨e.frames,e.mod,e.bs,e.bsz,e.funs,e.frf,e.hok,e.bare⟩
section
variable{X:Cx}{XX:Vs}{j:St}{H:Hp}{s s':Shared}
theorem Inv.env0(I:Inv X XX j H s):Es X.prog X.w X.K X.mg X.base X.A X.stack s H :=
 ⟨I.ok.frames,I.ok.mod,I.bs,Vf I.ok.bsz I.sz,I.stack,I.stkFree,I.hok,I.bare⟩
theorem Inv.after(I:Inv X XX j H s)(h:CE X.stack X.prog X.w H s Q u s'):EP X XX j Q u s':=by
 obtain⟨v,H',os,bare,un,hok,r,q⟩:=h;obtain⟨hh,g,d,t,os'⟩:=s';obtain rfl:os'=s.os:=os;exact⟨v,H',I.call (h':=hh) (g':=g) (d':=d) (t':=t) (ch:=[]) un hok bare (λb z=>absurd z QE),r,q⟩
end
def Zzu(sp:Sp)(dvs:ZZ)(E:XK)(t:TA):TE:=λj H Q=>t j H λvs H1=>sp (vs++dvs) H1 Q E
def Binds(K:W.Frag)(fd:FuncData)(ps:ZF)(ds:ZG):Prop :=
 ∀(s:Shared) (us:ZG),K.In s.heap->(us++ds).length=ps.length->BindsTo s fd ⟨us,[]⟩ (ps.zip (us++ds))
theorem Binds.all{K:W.Frag}{fd:FuncData}{ps:ZF}(h:∀us:ZG,us.length=ps.length->bindArgs fd ⟨us,[]⟩=pure (ps.zip us)):Binds K fd ps []:=λs us _ hl=>by
 rw[ZO]at hl ⊢;exact .of_eq (h us hl)
def Sf(CX:A3)(X:Cx)(E:XK):Prop:=∀(XX:Vs) (j:St) (H:Hp) (s:Shared) (e:Value) (s':Shared),Inv X XX j H s->CX X.stack H s E e s'->X.xe e s'
section
variable{X:Cx}{CX:A3}{k:Nat}{f C:Addr}{fd:FuncData}{ps:ZF}{sp:Sp}{dvs:ZZ}{ds:ZG}{E:XK}{x m:Str}{p pos apos:Pos}{e o:Expr}{es:ZD}{ta:TE}{t:TA}
theorem run_fn(F:Yk X.prog X.w X.K X.mg X.base CX k f fd ps sp)(hr:V8 k X.A)(hb:Binds X.K fd ps ds)(hd:Yj dvs ds)(hx:Sf CX X E)
  (I:Inv X XX j H s) (r:Yj vs us) (h:sp (vs++dvs) H Q E):wpAny (model X.prog X.w) X.A (call (.ref f) us) (EP X XX j Q) X.xe s:=by
 have r2:Yj (vs++dvs) (us++ds):=r.append hd;have hl:(us++ds).length=ps.length:=by rw[<-r2.length];exact F.len _ _ _ _ h
 refine wpAny_call (codeAny_mono (F.run X.A X.stack s H ⟨us,[]⟩ (us++ds) (vs++dvs) Q E hr I.env0 (hb s us I.kIn hl) r2 h) λr s' hq=>?_);cases r with
 | error e=>exact hx XX j H s e s' I hq
 | ok fl =>
  cases fl with
  | ret u=>exact I.after hq
  | next=>exact False.elim hq
  | brk=>exact False.elim hq
  | cont=>exact False.elim hq
theorem Zv4(F:Yk X.prog X.w X.K X.mg X.base CX k f fd ps sp)(hr:V8 k X.A)(hg:Gl X x)(hm:X.mg x=some (.ref f))(hk:W.keepIn X.K (.ref f)=true)(hb:Binds X.K fd ps ds)(hd:Yj dvs ds)(hx:Sf CX X E)
  (ha:PA X (e::es) t) (He:(x==("__debug__" : Str))=false:=by decide) (he:starEach (e::es) X.env=(false,eval e X.env)::starEach es X.env:=by rfl) (Tb:(backTo pos (starEach es X.env)).any (·.1)=false:=by rfl) :
  PE X (.Call (.Name x p) (e::es) [] pos) (Zzu sp dvs E t):=by
 intro XX s j H Q I h;refine wpAny_Call_Name_kw (Wf I hg hm ?_ He);refine W.callWith_K (h₀:=X.base) I.ok.mod.kin hk (Y7 (ha pos XX s j H _ I h) λus s1 ⟨vs,H1,I1,r,q⟩=>⟨I1.kIn,?_⟩) he Tb;exact run_fn F hr hb hd hx I1 r q
end
section
variable{X:Cx}{CX:A3}{k:Nat}{f C:Addr}{fd:FuncData}{ps ks:ZF}{sp:Sp}{E:XK}{x m:Str}{p pos apos kpos:Pos}{e o:Expr}{es:ZD}{kws:List Keyword}{te ta:TE}{t tk:TA}{nm:Option Str}
variable{g:ZG->ZG->ZG}{gV:ZZ->ZZ->ZZ}
end
structure Ze(N P:ZF)(sc:Scope):Prop where
 kind:sc.kind=.function
 co:sc.isCoroutine=false
 gen:sc.isGenerator=false
 nd:N.Nodup
 pre:N.take P.length=P
 par:∀x∈P,sc.names.lookup x=some .local\/sc.names.lookup x=some .cell
 nofree:∀y∈sc.names,y.2≠.free
theorem Kn{kindOf:Str->Option NameKind}:∀{binds:List (Str×Value)} {m:G6},(∀v,(x,v)∉binds)->bindL kindOf binds m x=m x
 | [],_,_=>rfl
 | (n,v)::r,m,h=>by
  unfold bindL;rw[Kn λw hw=>h w (Ck _ hw)]
  split
  .have:x≠n:=by rintro rfl;exact h v Br
   simp[this]
  .rfl
theorem Kr{kindOf:Str->Option NameKind}:∀{binds:List (Str×Value)} {m:G6},(∀v,(x,v)∉binds)->bindC kindOf binds m x=m x
 | [],_,_=>rfl
 | (n,v)::r,m,h=>by
  unfold bindC;rw[Kr λw hw=>h w (Ck _ hw)]
  split
  .rfl
  .have:x≠n:=by rintro rfl;exact h v Br
   simp[this]
theorem Kl{kindOf:Str->Option NameKind}:∀{P:ZF} {vs:ZG} {i:Nat} {m:G6},P.Nodup->P[i]?=some x->vs[i]?=some v->kindOf x=some .local ->
  bindL kindOf (P.zip vs) m x=some v
 | [],_,_,_,_,h,_,_=>by simp at h
 | _::_,[],_,_,_,_,h,_=>by simp at h
 | p::P,w::vs,0,m,nd,h1,h2,hk=>by
  simp at h1 h2;subst h1;subst h2;show bindL kindOf ((p,w)::P.zip vs) m p=_;unfold bindL;rw[Kn λv hv=>(List.nodup_cons.mp nd).1 (List.of_mem_zip hv).1,if_pos hk];simp
 | p::P,w::vs,i+1,m,nd,h1,h2,hk=>by
  show bindL kindOf ((p,w)::P.zip vs) m x=_;unfold bindL;exact Kl (i:=i) (List.nodup_cons.mp nd).2 (by simpa using h1) (by simpa using h2) hk
theorem Ks{kindOf:Str->Option NameKind}:∀{P:ZF} {vs:ZG} {i:Nat} {m:G6},P.Nodup->P[i]?=some x->vs[i]?=some v->kindOf x≠some .local ->
  bindC kindOf (P.zip vs) m x=some v
 | [],_,_,_,_,h,_,_=>by simp at h
 | _::_,[],_,_,_,_,h,_=>by simp at h
 | p::P,w::vs,0,m,nd,h1,h2,hk=>by
  simp at h1 h2;subst h1;subst h2;show bindC kindOf ((p,w)::P.zip vs) m p=_;unfold bindC;rw[Kr λv hv=>(List.nodup_cons.mp nd).1 (List.of_mem_zip hv).1,if_neg hk];simp
 | p::P,w::vs,i+1,m,nd,h1,h2,hk=>by
  show bindC kindOf ((p,w)::P.zip vs) m x=_;unfold bindC;exact Ks (i:=i) (List.nodup_cons.mp nd).2 (by simpa using h1) (by simpa using h2) hk
noncomputable def start(N:ZF)(vs:ZZ):St:=vs.map some++List.replicate (N.length-vs.length) none
noncomputable def O3(CX:A3)(P:Program)(w:World)(K:W.Frag)(mg:G6)(base:Heap)(N:ZF)(qual:Str)(scope:Scope)(f:Addr)(cd:Value)(A:Around)(outer:List Env)(s:Shared)(H:Hp)(E:XK):Cx where
 prog:=P
 w:=w
 K:=K
 mg:=mg
 base:=base
 A:=A.deeper (envOfC qual scope s.heap.objs.size f cd)
 N:=N
 s₀:=s
 H₀:=H
 env:=envOfC qual scope s.heap.objs.size f cd
 outer:=outer
 stack:=envOfC qual scope s.heap.objs.size f cd::outer
 ex:=[]
 calm:=true
 fn:=λ_=>true
 pn:=[]
 xe:=λe s'=>wpAny (model P w) (A.deeper (envOfC qual scope s.heap.objs.size f cd)) (leaving (envOfC qual scope s.heap.objs.size f cd) e) (λ_ s''=>CX outer H s E e s'') (λe' s''=>CX outer H s E e' s'') s'
theorem zx{sc:Scope}{n:Nat}{x:Str}(h:sc.names.lookup x=some .cell):∃c,(cellsFrom n sc.names []).lookup x=some c:=by
 have q:=W.cellsFrom_some sc.names n [] (.inl h);exact Option.isSome_iff_exists.mp q
theorem uf{CX:A3}{P:Program}{w:World}{K:W.Frag}{mg:G6}{base:Heap}{N ps:ZF}{qual:Str}{scope:Scope}{f:Addr}{cd:Value}{A:Around}{outer:List Env}{s s1:Shared}{H:Hp}{E:XK}{us:ZG}{vs:ZZ}
  (S:Ze N ps scope) (hd:A.handled=none) (e0:Es P w K mg base A outer s H) (hl:vs.length=ps.length) (r:Yj vs us)
  (x:InCallC s s.heap.objs.size (bindL (envOfC qual scope s.heap.objs.size f cd).kindOf (ps.zip us) λ_=>none) (cellsFrom (s.heap.objs.size+1) scope.names []) (bindC (envOfC qual scope s.heap.objs.size f cd).kindOf (ps.zip us) λ_=>none) s1) :
  Inv (O3 CX P w K mg base N qual scope f cd A outer s H E) [] (start N vs) H s1:=by
 have Tb:ps.length<=N.length:=by have:=congrArg List.length S.pre;rw[Cs]at this;omega
 obtain⟨h1,tk,rfl,hk⟩:=x.done;have noA:∀b:Addr,b∉(O3 CX P w K mg base N qual scope f cd A outer s H E).ex:=λb z=>absurd (show b∈([]:ZH) from z) QE
 refine⟨⟨e0.mod,S.kind,rfl,rfl,Yt _,λy z c h1 h2=>?_,λy hy=>?_,λy c _ h=>?_,λ_=>hd,Around.frames_deeper e0.frames,.inr ⟨rfl,rfl⟩,λb z=>absurd z (noA b),e0.bs,e0.bsz,λb _ _=>noA b,λb z=>absurd z (noA b),e0.funs,e0.frf⟩,
  rfl,e0.bare,Un.kept hk,⟨_,x.toInCall.ns,λi y v h1 h2 h3=>?_⟩,λy c h=>⟨_,x.cell y c h⟩,e0.hok.fresh (Yt _),λy c h=>?_,λp hp=>absurd (show p∈([]:Vs) from hp) QE,e0.hok.kept hk,?_⟩
 .exact name_of_addr x.apart (PySem.mem_of_lookup h1) (PySem.mem_of_lookup h2)
 .have hy:scope.names.lookup y=some .cell\/scope.names.lookup y=some .free:=hy;rcases hy with hy | hy
  .exact zx hy
  .exact absurd rfl (S.nofree _ (PySem.mem_of_lookup hy))
 .exact Nat.le_of_lt (x.above y c (PySem.mem_of_lookup h))
 .have hi:i<vs.length:=by
   unfold start at h2;by_cases hi:i<vs.length
   .exact hi
   .rw[List.getElem?_append_right (by simpa using hi)]at h2;rw[List.getElem?_replicate]at h2
    split at h2<;>cases h2
  have ha:vs[i]?=some v:=by
   unfold start at h2;rw[G0l (by simpa using hi),Jb]at h2;cases e:vs[i]? with
   | none=>rw[e]at h2;cases h2
   | some a=>rw[e]at h2;cases h2;rfl
  obtain⟨u,hu,rv⟩:=r.get ha
  have hp:ps[i]?=some y:=by
   rw[<-S.pre,List.getElem?_take_of_lt QU];exact h1
  have ndP:ps.Nodup:=by rw[<-S.pre];exact S.nd.sublist (List.take_sublist _ _)
  refine⟨u,rv,?_⟩;rcases S.par y (Cr hp) with k | k
  .exact .inl ⟨k,Kl ndP hp hu k⟩
  .obtain⟨c,e⟩:=zx (n:=s.heap.objs.size+1) k;refine .inr ⟨.inl k,c,e,?_⟩;have q:=x.cell y c e;rw[Ks ndP hp hu (by show scope.names.lookup y≠_;rw[k];decide)]at q;exact q
 .exact e0.hok.fresh (Nat.le_of_lt (x.above y c (PySem.mem_of_lookup h)))
 .unfold start;show _=N.length;rw[Nl,Yv,List.length_replicate];omega
theorem Zga{CX:A3}{P:Program}{w:World}{K:W.Frag}{mg:G6}{base:Heap}{k:Nat}{f:Addr}{name qual:Str}{params:Arguments}{body:List Stmt}{scope:Scope}{dV kV doc pm cdv ct oc:Value}{an od:ZS}
  {osl:ZK} {N ps:ZF} {sp:Sp} (lk:K.lookup f=some ⟨oc,od,.func (W.fnOf name qual params body scope dV kV doc pm an cdv ct),osl⟩) (Kk:W.codeIn K cdv qual=true) (S:Ze N ps scope)
  (len:∀vs H Q E,sp vs H Q E->vs.length=ps.length)
  (Xs:∀(A:Around) (outer:List Env) (s:Shared) (H:Hp) (vs:ZZ) (Q:VK) (E:XK),V8 k (A.deeper (envOfC qual scope s.heap.objs.size f cdv))->sp vs H Q E ->
   ∃t,Ku (O3 CX P w K mg base N qual scope f cdv A outer s H E) body t/\t { nx:=λ_ H'=>Q .non H',rt:=Q } (start N vs) H) :
  Yk P w K mg base CX (k+1) f (W.fnOf name qual params body scope dV kV doc pm an cdv ct) ps sp:=by
 refine⟨len,λA outer s H args us vs Q E hr e0 hb r hsp=>?_⟩;have hl:=len _ _ _ _ hsp;have KX:K.In s.heap:=e0.mod.kin.keeps λb o e=>(e0.bs b o e).1;have lim:s.heap.NoLimit:=e0.mod.nolimit.keeps λb o e=>(e0.bs b o e).1
 have hkind:∀y∈ps.zip us,scope.names.lookup y.1=some .local\/(scope.names.lookup y.1=some .cell/\((cellsFrom (s.heap.objs.size+1) scope.names []).lookup y.1).isSome=true):=λ⟨n,v⟩ hy=>by
  rcases S.par n (List.of_mem_zip hy).1 with q | q
  .exact .inl q
  .exact .inr ⟨q,W.cellsFrom_some _ _ _ (.inl q)⟩
 refine codeAny_call_function hr.depth (KX _ _ lk) rfl S.co S.gen rfl (W.codeRec_of KX Kk) (hb _ _ _ _ ?_);refine wpAny_newFunctionEnv_cells S.kind hkind λenv he s1 x=>?_;subst he;refine⟨lim.keeps x.toInCall.keep,codeAny_func ?_⟩;obtain⟨t,ht,hq⟩:=Xs A outer s H vs Q E (hr.deeper _) hsp;have I:Inv (O3 CX P w K mg base N qual scope f cdv A outer s H E) [] (start N vs) H s1:=uf S hr.hd e0 hl r x;refine wpAny_mono (ht [] s1 (start N vs) H _ I hq) (λfl s' hs=>?_) λe s' hs=>hs
 have fin:∀{σ':St} {H':Hp} {v:V} {u:Value},Inv (O3 CX P w K mg base N qual scope f cdv A outer s H E) [] σ' H' s'->RelV v u->Q v H'->CE outer P w H s Q u s' :=
  λ{σ' H' v u} J rv q=>⟨v,H',J.os,J.bare,J.base,J.hok,rv,q⟩
 cases fl with
 | ret u =>
  obtain⟨v,σ',H',J,rv,q⟩:=hs;exact fin J rv q
 | next =>
  obtain⟨σ',H',J,q⟩:=hs;exact fin (v:=V.non) (u:=Value.none) J rfl q
 | brk =>
  obtain⟨_,_,_,q⟩:=hs;exact False.elim q
 | cont =>
  obtain⟨_,_,_,q⟩:=hs;exact False.elim q
section
variable{X:Cx}{x:Str}{p pos:Pos}{e:Expr}{es:ZD}{t:TA}{id T:String}{r:ZZ->Hp->VK->Prop}
def tCB(r:ZZ->Hp->VK->Prop)(t:TA):TE:=λj H Q=>t j H λvs H1=>r vs H1 Q
theorem Nk(hc:Jm X (.builtin id) r)(hg:Gl X x)(hm:X.mg x=none)(hv:bootBuiltins x=some (.builtin id))(ha:PA X (e::es) t)(hn:x ≠ "__name__" := by decide)(He:(x==("__debug__" : Str))=false:=by decide)
  (he:starEach (e::es) X.env=(false,eval e X.env)::starEach es X.env:=by rfl) (Tb:(backTo pos (starEach es X.env)).any (·.1)=false:=by rfl):PE X (.Call (.Name x p) (e::es) [] pos) (tCB r t):=by
 intro XX s j H Q I h;refine wpAny_Call_Name_kw (Rm I hg hm hv ?_ hn He);exact callWith_builtin1 (Y7 (ha pos XX s j H _ I h) λus s1 ⟨vs,H1,I1,r1,q1⟩=>hc XX s1 j H1 vs us Q I1 r1 q1) he Tb
theorem Uu(hc:Jm X (.type T) r)(hg:Gl X x)(hm:X.mg x=none)(hv:bootBuiltins x=some (.type T))(ha:PA X (e::es) t)(hn:x ≠ "__name__" := by decide)(He:(x==("__debug__" : Str))=false:=by decide)
  (he:starEach (e::es) X.env=(false,eval e X.env)::starEach es X.env:=by rfl) (Tb:(backTo pos (starEach es X.env)).any (·.1)=false:=by rfl):PE X (.Call (.Name x p) (e::es) [] pos) (tCB r t):=by
 intro XX s j H Q I h;refine wpAny_Call_Name_kw (Rm I hg hm hv ?_ hn He);exact callWith_type1 (Y7 (ha pos XX s j H _ I h) λus s1 ⟨vs,H1,I1,r1,q1⟩=>hc XX s1 j H1 vs us Q I1 r1 q1) he Tb
end
end L2
namespace HT
open PySem PyProof.Rows
section
open PySem.SeqAt
open PySem.AutoSeq1 (wpAny_loadPart')
open PySem.MeetsSeq PySem.MeetsSeq2 PySem.MeetsSeq3
end
section
variable{prog:Program}{w:World}{A:Around}{E:Ya}{s:Shared}
theorem Zkm(ht:IsTup s.heap t vs.toArray)(hb:IsTup s.heap b ws.toArray)(hv:vs≠[])
  (h1:ws=[]->Q (.ref t) s) (h2:ws≠[]->Q (.ref s.heap.objs.size) { s with heap:=s.heap.push { cls:=.type "tuple",data:=.seq (vs++ws).toArray } })
  (hsz:vs.length+ws.length<=sizeLine):wpAny (model prog w) A (binaryOp .Add (.ref t) (.ref b)) Q E s:=by
 obtain⟨⟨cls,dd,data,sl⟩,ho,hc,n,hd⟩:=id ht;obtain⟨⟨cls2,dd2,data2,sl2⟩,ho2,hc2,n2,hd2⟩:=id hb;simp only at hc hd hc2 hd2;subst hc hd hc2 hd2;have e:vs.toArray++ws.toArray=(vs++ws).toArray:=by simp
 by_cases hw:ws=[]
 .exact concat_meets ⟨_,ho,rfl⟩ ⟨_,ho2,rfl⟩ noFill_tuple_add seq_tuple_add PySem.F.slot_tuple_add PySem.F.entry_tuple_add (PySem.F.args_tuple_add_2 _ _)
   (tuple_addW1 t b vs.toArray ws.toArray n n2 dd dd2 sl sl2 (by simpa using hv) (by simp[hw])) ⟨ho,ho2,h1 hw⟩
 .refine concat_meets ⟨_,ho,rfl⟩ ⟨_,ho2,rfl⟩ noFill_tuple_add seq_tuple_add PySem.F.slot_tuple_add PySem.F.entry_tuple_add (PySem.F.args_tuple_add_2 _ _)
   (tuple_addW2 t b vs.toArray ws.toArray n n2 dd dd2 sl sl2 (by simpa using hv) (by simpa using hw) (by rw[Mw,Mw];exact hsz)) ⟨ho,ho2,?_⟩
  rw[e];exact h2 hw
noncomputable def Uj(n d:Nat):ZN->Nat
 | none=>d
 | some v=>if v<0 then (v+(n:Int)).toNat else min v.toNat n
theorem R6(n d:Nat):Uj n d none=d:=rfl
theorem g9(n d k:Nat):Uj n d (some (k:Int))=min k n:=by
 show (if (k:Int)<0 then ((k:Int)+(n:Int)).toNat else min (k:Int).toNat n)=min k n;rw[if_neg QU,ZE]
theorem sIx_le(n d:Nat)(hd:d<=n)(o:ZN):Uj n d o<=n:=by
 cases o with
 | none=>exact hd
 | some v =>
  show (if v<0 then (v+(n:Int)).toNat else min v.toNat n)<=n;by_cases hv:v<0
  .rw[if_pos hv];omega
  .rw[if_neg hv];exact Nat.min_le_right _ _
theorem de(v:Int)(n d:Nat):(if v<0 then max (v+(n:Int)) 0 else min v (n:Int))=((Uj n d (some v):Nat):Int):=by
 show (if v<0 then max (v+(n:Int)) 0 else min v (n:Int))=(((if v<0 then (v+(n:Int)).toNat else min v.toNat n):Nat):Int);by_cases hv:v<0
 .simp only[if_pos hv];omega
 .simp only[if_neg hv];omega
theorem yp(lo hi:ZN)(n:Nat):Builtin.Slice.sliceAdjust lo hi 1 (n:Int)=(((Uj n 0 lo:Nat):Int),((Uj n n hi:Nat):Int)):=by
 have h1:¬ ((1:Int)<0):=QU
 unfold Builtin.Slice.sliceAdjust;simp only[h1,if_false];refine Prod.ext ?_ ?_
 .cases lo with
  | none=>rfl
  | some v=>exact de v n 0
 .cases hi with
  | none=>rfl
  | some v=>exact de v n n
theorem jm(i j:Nat):Builtin.Slice.slicePlaces (i:Int) (j:Int) 1=j-i:=by
 unfold Builtin.Slice.slicePlaces;have h1:(1:Int)>0:=QU
 simp only[h1,if_true,Int.ediv_one]
 split<;>omega
theorem Pq(p:IsPart v o)(h:Q o s):wpAny (model prog w) A (Builtin.Slice.slicePartIndex v) Q E s:=by
 cases p with
 | none=>exact slicePart_none h
 | int i t=>exact slicePart_int h
theorem Ny{sl:Addr}{vl vu:Value}{lo hi:ZN}{n:Nat}{Q:Int×Int×Nat->Shared->Prop}(hs:s.heap.IsSliceOf sl vl vu .none)(pl:IsPart vl lo)(pu:IsPart vu hi)
  (h:Q (((Uj n 0 lo:Nat):Int),1,Uj n n hi-Uj n 0 lo) s):wpAny (model prog w) A (Builtin.Slice.sliceApplied (.ref sl) (pure (n:Int))) Q E s:=by
 obtain⟨os,hos,hcs,hds⟩:=id hs;unfold Builtin.Slice.sliceApplied Builtin.Slice.sliceFields;refine Zn (Zn (wpAny_field hos hds (x:=vl) rfl (Zn (wpAny_field hos hds (x:=vu) rfl (Zn (wpAny_field hos hds (x:=.none) rfl (Z4 ?_)))))));refine Zn (slicePart_none ?_);show wpAny _ _ (if ((1:Int)==0)=true then _ else _) _ _ s;rw[if_neg QI];refine Zn (Pq pl (Zn (Pq pu (Zn (Z4 ?_)))));show wpAny _ _ (match Builtin.Slice.sliceAdjust lo hi 1 (n:Int) with | (lo,hi)=>pure (lo,(1:Int),Builtin.Slice.slicePlaces lo hi 1)) _ _ s;rw[yp lo hi n];show wpAny _ _ (pure (((Uj n 0 lo:Nat):Int),(1:Int),Builtin.Slice.slicePlaces ((Uj n 0 lo:Nat):Int) ((Uj n n hi:Nat):Int) 1)) _ _ s;rw[jm];exact Z4 h
theorem Zxc(xs:ZT)(i k:Nat):((List.range k).filterMap λ(m:Nat)=>xs[((i:Int)+(m:Int)*1).toNat]?).toArray=((xs.toList.drop i).take k).toArray:=by
 have e:(λ(m:Nat)=>xs[((i:Int)+(m:Int)*1).toNat]?)=λm=>xs[i+m]?:=by
  funext m
  have:((i:Int)+(m:Int)*1).toNat=i+m:=QU
  rw[this]
 rw[e];have:=pick_run xs i k;rw[List.filterMap_map]at this;have e2:((λx=>xs[x]?) ∘ λx=>i+x)=λm=>xs[i+m]?:=rfl;rw[e2]at this;rw[this]
theorem Wo{t sl:Addr}{items:ZT}{vl vu:Value}{lo hi:ZN}{Q:Ya}(ht:IsTup s.heap t items)(hs:s.heap.IsSliceOf sl vl vu .none)(pl:IsPart vl lo)(pu:IsPart vu hi)
  (hw:¬ (Uj items.size 0 lo=0/\Uj items.size items.size hi=items.size))
  (h:Q (.ref s.heap.objs.size) { s with heap:=s.heap.push { cls:=.type "tuple",data:=.seq ((items.toList.drop (Uj items.size 0 lo)).take (Uj items.size items.size hi-Uj items.size 0 lo)).toArray } })
  (hsz:items.size<=sizeLine):wpAny (model prog w) A (getItem (.ref t) (.ref sl)) Q E s:=by
 have m8:sizeOk (.seq ((items.toList.drop (Uj items.size 0 lo)).take (Uj items.size items.size hi-Uj items.size 0 lo)).toArray):=by
  show ((items.toList.drop (Uj items.size 0 lo)).take (Uj items.size items.size hi-Uj items.size 0 lo)).toArray.size<=sizeLine;rw[Mw,Cs,List.length_drop,xt];omega
 have hj:Uj items.size items.size hi<=items.size:=sIx_le _ _ (Yt _) hi;obtain⟨os,hos,hcs,hds⟩:=id hs;have hTs:s.TypeIs (.ref sl) "slice" := ⟨os,hos,hcs⟩;unfold getItem
 try with_reducible refine wpAny_holding ?_
 first | refine Zn (Z4 ?_) | skip
 refine Zn (wpAny_sequenceKey ht.typeIs QI ?_)
 refine Zn (wpAny_callSpecial?_slot (name:=Str.ofString "__getitem__") ht.typeIs slot_tuple_getitem
  (wpAny_call_entry slot_tuple_getitem ht.typeIs entry_tuple_getitem ?_ (args_tuple_getitem _ _)))
 show wpAny _ _ (Builtin.Tuple.tupleItemsOf (.ref t) >>= _) _ _ s;refine Zn (tupleItemsOf_ ht ?_);refine Zn (wpAny_typeOf hTs ?_);rw[if_pos QI];refine Zn (Ny hs pl pu ?_)
 have hno:¬ ((((Uj items.size 0 lo:Nat):Int)==0&&(1:Int)==1&&(Uj items.size items.size hi-Uj items.size 0 lo)==items.size)=true):=by
  intro q;rw[oj,oj]at q;have q1:((Uj items.size 0 lo:Nat):Int)=0:=eq_of_beq q.1.1;have q2:Uj items.size items.size hi-Uj items.size 0 lo=items.size:=eq_of_beq q.2;exact hw ⟨by omega,by omega⟩
 show wpAny _ _ (if (((Uj items.size 0 lo:Nat):Int)==0&&(1:Int)==1&&(Uj items.size items.size hi-Uj items.size 0 lo)==items.size)=true then _ else _) _ _ s;rw[if_neg hno,Zxc]
 first
  | exact Zn (m:=Builtin.Tuple.tupleExact _) (wpAny_newObj_type (Z4 ⟨_,rfl,Z4 h⟩) m8)
  | exact Zn (m:=Builtin.Tuple.tupleExact _) (wpAny_newObj_type (Zn (Z4 (Z4 ⟨_,rfl,Z4 h⟩))) m8)
  | exact Zn (Zn (m:=Builtin.Tuple.tupleExact _) (wpAny_newObj_type (Z4 (Z4 ⟨_,rfl,Z4 h⟩)) m8))
  | exact Zn (Zn (m:=Builtin.Tuple.tupleExact _) (wpAny_newObj_type (Z4 ⟨_,rfl,Z4 h⟩) m8))
end
end HT
namespace L2
open PySem PySem.Spec PyProof.Rows
abbrev TO:=St->Hp->(ZN->Hp->Prop)->Prop
def PO(X:Cx)(e:Option Expr)(t:TO):Prop :=
 ∀(XX:Vs) (s:Shared) (j:St) (H:Hp) (Q:ZN->Hp->Prop),Inv X XX j H s->t j H Q ->
  wpAny (model X.prog X.w) X.A (evalPart e X.env) (λu s'=>∃o H',Inv X XX j H' s'/\IsPart u o/\Q o H') X.xe s
def Zwo:TO:=λ_ H Q=>Q none H
inductive Zwa(Q:(ZN->Hp->Prop))(x:V)(H1:Hp):Prop
 | mk(i)(Vx:x=.int i)(Vz:Q (some i) H1)
def tPart(t:TE):TO:=λj H Q=>t j H λx H1=>Zwa Q x H1
section
variable{X:Cx}{e:Expr}{te:TE}{lo hi:Option Expr}{tl th:TO}{pos p2:Pos}
theorem Jx:PO X none Zwo:=by
 intro XX s j H Q I h;rw[evalPart_none];exact Z4 ⟨none,H,I,.none,h⟩
theorem Jz(h:PE X e te):PO X (some e) (tPart te):=by
 intro XX s j H Q I hw;rw[evalPart_some];refine Y7 (h XX s j H _ I hw) λu s1 ⟨x,H1,I1,r1,q1⟩=>?_;obtain⟨i,rfl,q⟩:=q1;obtain⟨t,rfl⟩:=r1;exact⟨some i,H1,I1,.int i t,q⟩
def SlR(X:Cx)(r:V->ZN->ZN->Hp->VK->Prop):Prop :=
 ∀(XX:Vs) (s:Shared) (j:St) (H:Hp) (x:V) (v vl vu:Value) (lo hi:ZN) (sl:Addr) (Q:VK),Inv X XX j H s->RelV x v->s.heap.IsSliceOf sl vl vu .none->IsPart vl lo->IsPart vu hi->r x lo hi H Q ->
  ∃T id,typeLookup (.type T) "__getitem__"=pure (some (.builtin id))/\s.TypeIs v T/\wpAny (model X.prog X.w) X.A (getItem v (.ref sl)) (EP X XX j Q) X.xe s
def tSl(r:V->ZN->ZN->Hp->VK->Prop)(te:TE)(tl th:TO):TE:=λj H Q=>te j H λx H1=>tl j H1 λl H2=>th j H2 λu H3=>r x l u H3 Q
theorem V6{r:V->ZN->ZN->Hp->VK->Prop}(hr:SlR X r)(he:PE X e te)(hl:PO X lo tl)(hu:PO X hi th):PE X (.Subscript e (.Slice lo hi none p2) pos) (tSl r te tl th):=by
 intro XX s j H Q I h;refine Subscript_ (Y7 (he XX s j H _ I h) λv s1 ⟨x,H1,I1,r1,q1⟩=>?_);refine wpAny_Slice (Y7 (hl XX s1 j H1 _ I1 q1) λvl s2 ⟨l,H2,I2,pl,q2⟩=>Y7 (hu XX s2 j H2 _ I2 q2) λvu s3 ⟨u,H3,I3,pu,q3⟩=>?_);rw[evalPart_none];refine Z4 ?_;have I4:Inv X XX j H3 { s3 with heap:=s3.heap.push { cls:=.type "slice",data:=.fields #[vl,vu,.none] } }:=I3.kept (t':=s3.toks) λb ob q=>Uz _ q;obtain⟨T,id,hT,ht,hg⟩:=hr XX { s3 with heap:=s3.heap.push { cls:=.type "slice",data:=.fields #[vl,vu,.none] } } j H3 x v vl vu l u s3.heap.objs.size Q I4 r1 (Heap.IsSliceOf.new ..) pl pu q3;show wpAny (model X.prog X.w) X.A (subscriptTail e (.Slice lo hi none p2) v (.ref s3.heap.objs.size)) (EP X XX j Q) X.xe { s3 with heap:=s3.heap.push { cls:=.type "slice",data:=.fields #[vl,vu,.none] } };exact tail_any (ops:=[.ref s3.heap.objs.size,v]) ht hT hg (by with_unfolding_all rfl)
noncomputable def Jt(xs:ZZ)(lo hi:ZN):ZZ:=(xs.drop (HT.Uj xs.length 0 lo)).take (HT.Uj xs.length xs.length hi-HT.Uj xs.length 0 lo)
theorem Ms(xs:ZZ)(lo hi:ZN):(Jt xs lo hi).length<=xs.length:=by
 unfold Jt;rw[Cs,List.length_drop];omega
inductive rSlT_I(K:W.Frag)(x:V)(lo:ZN)(hi:ZN)(H:Hp)(Q:VK):Prop
 | mk(a xs)(Vx:x=.ref a)(Vz:Zp K H a xs)(Vp:¬ (HT.Uj xs.length 0 lo=0/\HT.Uj xs.length xs.length hi=xs.length))(Jn:∀p,H p=none->Q (.ref p) (upd H p (.tup (Jt xs lo hi))))
def rSlT(K:W.Frag):V->ZN->ZN->Hp->VK->Prop:=λx lo hi H Q=>rSlT_I K x lo hi H Q
theorem sl_tup:SlR X (rSlT X.K):=by
 intro XX s j H x v vl vu lo hi sl Q I rx hs pl pu h;obtain⟨a,xs,rfl,hx,hw,q⟩:=h;cases rx;obtain⟨XJ,r,ht,hz⟩:=I.tuple hx;have hlen:XJ.toArray.size=xs.length:=by rw[Mw];exact r.length.symm
 refine⟨"tuple",_,slot_tuple_getitem.lookup,ht.typeIs,?_⟩;refine HT.Wo ht hs pl pu (by rw[hlen];exact hw) ?_ (by rw[hlen];exact hz);rw[hlen];refine⟨.ref s.heap.objs.size,_,I.laid (t':=s.toks) (o:=.tup (Jt xs lo hi)) (λb ob q=>Uz _ q) (Yt _) ?_,rfl,q _ (I.hok.fresh (Yt _))⟩;exact⟨Vf (Ms xs lo hi) hz,_,(r.drop (HT.Uj xs.length 0 lo)).take (HT.Uj xs.length xs.length hi-HT.Uj xs.length 0 lo),Sk.new _ _⟩
inductive Zvr(K:W.Frag)(x:V)(y:V)(H:Hp)(Q:VK):Prop
 | mk(a b xs ys)(Vx:x=.ref a)(Vz:y=.ref b)(Vp:Zp K H a xs)(Jn:Zp K H b ys)(Mf:xs≠[])(Co:xs.length+ys.length<=sizeLine)(Xo:(ys=[]->Q (.ref a) H))(h7_:(ys≠[]->∀p,H p=none->Q (.ref p) (upd H p (.tup (xs++ys)))))
def rCatT(K:W.Frag):R2:=λx y H Q=>Zvr K x y H Q
theorem Yj.nil_iff(r:Yj xs us):us=[]↔xs=[]:=by
 cases r with
 | nil=>simp
 | cons _ _=>simp
theorem Zyz:M4 X (binaryOp .Add) (rCatT X.K):=by
 intro XX s j H x y v u Q I rx ry h;obtain⟨a,b,xs,ys,rfl,rfl,ha,hb,hx,hz,q1,q2⟩:=h;cases rx;cases ry;obtain⟨XJ,r1,p1,_⟩:=I.tuple ha;obtain⟨its2,r2,p2,_⟩:=I.tuple hb;refine HT.Zkm p1 p2 (λz=>hx (r1.nil_iff.mp z)) (λz=>⟨.ref a,H,I,rfl,q1 (r2.nil_iff.mp z)⟩) (λz=>?_) (by rw[<-r1.length, <-r2.length];exact hz);refine⟨.ref s.heap.objs.size,_,I.laid (t':=s.toks) (o:=.tup (xs++ys)) (λb ob q=>Uz _ q) (Yt _) ?_,rfl,q2 (λw=>z (r2.nil_iff.mpr w)) _ (I.hok.fresh (Yt _))⟩;exact⟨by rw[Nl];exact hz,_,r1.append r2,Sk.new _ _⟩
end
noncomputable def ixN(n:Nat)(i:Int):ZR:=if 0<=i then (if i<n then some i.toNat else none) else if -(n:Int)<=i then some (i+n).toNat else none
noncomputable def Ll{Z:Type}(xs:List Z)(i:Int):Option Z:=(ixN xs.length i).bind λj=>xs[j]?
theorem b9(h:ixN n i=some j):seqIndex? i n=some j/\j<n/\-(n:Int)<=i/\i<n:=by
 unfold ixN at h;by_cases h0:0<=i
 .rw[if_pos h0]at h;by_cases h1:i<n
  .rw[if_pos h1]at h;have e:i.toNat=j:=Fk h;exact⟨by rw[seqIndex_of h0 h1,e],by omega,by omega,h1⟩
  .rw[if_neg h1]at h;cases h
 .rw[if_neg h0]at h;by_cases h1:-(n:Int)<=i
  .rw[if_pos h1]at h;have e:(i+n).toNat=j:=Fk h;exact⟨by rw[seqIndex_neg QU h1,e],by omega,h1,by omega⟩
  .rw[if_neg h1]at h;cases h
theorem tj{Z:Type}{xs:List Z}{i:Int}{v:Z}(h:Ll xs i=some v):∃j,seqIndex? i xs.length=some j/\xs[j]?=some v/\j<xs.length/\-(xs.length:Int)<=i/\i<xs.length:=by
 unfold Ll at h;cases e:ixN xs.length i with
 | none=>rw[e]at h;cases h
 | some j =>
  rw[e]at h;obtain⟨h1,h2,h3,h4⟩:=b9 e;exact⟨j,h1,h,h2,h3,h4⟩
theorem Vj{Z:Type}{xs:List Z}{j:Nat}{v:Z}(h:xs[j]?=some v):Ll xs (j:Int)=some v:=by
 have hj:j<xs.length:=(Bl.mp h).1
 have e:ixN xs.length (j:Int)=some j:=by
  unfold ixN;rw[if_pos QU,if_pos QU];simp
 unfold Ll;rw[e];exact h
theorem za{j:Type}(xs:List j)(v:j):Ll (xs++[v]) (-1)=some v:=by
 have hl:(xs++[v]).length=xs.length+1:=by simp
 have e:ixN (xs++[v]).length (-1)=some xs.length:=by
  unfold ixN;rw[hl,if_neg QI,if_pos QU]
  congr 1
  omega
 unfold Ll;rw[e];show (xs++[v])[xs.length]?=some v;simp
def cg(b:Expr):Prop:=∀o i,subscripted b false o i=operate [o,i] (getItem o i)
def IxR(X:Cx)(r:R2):Prop :=
 ∀(value slice:Expr) (XX:Vs) (s:Shared) (j:St) (H:Hp) (x y:V) (v u:Value) (Q:VK),Inv X XX j H s->RelV x v->RelV y u->r x y H Q ->
  subscripted slice false v u=operate [v,u] (getItem v u)->wpAny (model X.prog X.w) X.A (subscriptTail value slice v u) (EP X XX j Q) X.xe s
def MtR(X:Cx)(id:String)(r:V->ZZ->Hp->VK->Prop):Prop :=
 ∀(XX:Vs) (s:Shared) (j:St) (H:Hp) (x:V) (xs:ZZ) (v:Value) (us:ZG) (Q:VK),Inv X XX j H s->RelV x v->Yj xs us->r x xs H Q ->
  wpAny (model X.prog X.w) X.A (call (.builtin id) (v::us)) (EP X XX j Q) X.xe s
section
variable{X:Cx}{a b:Expr}{ta tb:TE}{pos:Pos}
theorem Y3{r:R2}(hr:IxR X r)(ha:PE X a ta)(hb:PE X b tb)(hs:cg b):PE X (.Subscript a b pos) (tOp r ta tb):=by
 intro XX s j H Q I h;exact Subscript_ (binT ha hb I h λv u s2 x y H2 I2 rx ry q=>hr a b XX s2 j H2 x y v u Q I2 rx ry q (hs _ _))
inductive rIxL_I(K:W.Frag)(x:V)(y:V)(H:Hp)(Q:VK):Prop
 | mk(p xs i v)(Vx:x=.ref p)(Vz:y=.int i)(Vp:Zu K H p xs)(Jn:Ll xs i=some v)(Mf:Q v H)
def rIxL(K:W.Frag):R2:=λx y H Q=>rIxL_I K x y H Q
inductive rIxT_I(K:W.Frag)(x:V)(y:V)(H:Hp)(Q:VK):Prop
 | mk(p xs i v)(Vx:x=.ref p)(Vz:y=.int i)(Vp:Zp K H p xs)(Jn:Ll xs i=some v)(Mf:Q v H)
def rIxT(K:W.Frag):R2:=λx y H Q=>rIxT_I K x y H Q
theorem Zh:IxR X (rIxL X.K):=by
 intro value slice XX s Z H x y v u Q I rx ry h hs;obtain⟨p,xs,i,z,rfl,rfl,hq,he,q⟩:=h;cases rx;obtain⟨t,rfl⟩:=ry;obtain⟨XJ,r,pl,hz⟩:=I.list hq;obtain⟨j,h1,h2,h3,h4,h5⟩:=tj he;obtain⟨w,ew,Ic⟩:=r.get h2;have hl:=r.length;have hn:=Ox;have fin:EP X XX Z Q w s:=⟨z,H,I,Ic,q⟩;by_cases h0:0<=i
 .have hj:i.toNat=j:=by
   rw[seqIndex_of h0 h5]at h1;exact Fk h1
  exact item_listR pl.isList h0 QU (by rw[hj];simpa using ew) fin hs
 .have hj:(i+(XJ.toArray.size:Int)).toNat=j:=by
   rw[seqIndex_neg QU h4]at h1;rw[Mw, <-hl];exact Fk h1
  exact subscriptTail_builtinR (x:=w) pl.isList.typeIs slot_list_getitem.lookup
   (wpAny_getItem_list_neg (Q:=λr s'=>r=w/\EP X XX Z Q r s') pl.isList QU (by rw[Mw]<;>omega) QU (by rw[hj];simpa using ew) ⟨rfl,fin⟩) hs
theorem Zy:IxR X (rIxT X.K):=by
 intro value slice XX s Z H x y v u Q I rx ry h hs;obtain⟨p,xs,i,z,rfl,rfl,hq,he,q⟩:=h;cases rx;obtain⟨t,rfl⟩:=ry;obtain⟨XJ,r,pl,hz⟩:=I.tuple hq;obtain⟨j,h1,h2,h3,h4,h5⟩:=tj he;obtain⟨w,ew,Ic⟩:=r.get h2;have hl:=r.length;have hn:=Ox;have fin:EP X XX Z Q w s:=⟨z,H,I,Ic,q⟩
 exact subscriptTail_builtinR (x:=w) pl.typeIs slot_tuple_getitem.lookup
  (getItem_tuple (j:=j) (Q:=λr s'=>r=w/\EP X XX Z Q r s') pl QU QU (by rw[Mw, <-hl];exact h1) (by simpa using ew) ⟨rfl,fin⟩) hs
theorem wq(XJ:ZG)(n j:Nat)(u:Value):Obj.mapSeq (·.setIfInBounds j u) { cls:=.type "list",data:=.seq XJ.toArray n }={ cls:=.type "list",data:=.seq (XJ.set j u).toArray n }:=by
 simp[Obj.mapSeq]
theorem Inv.lst{XX:Vs}{j:St}{H:Hp}{s:Shared}{p:Addr}{xs:ZZ}(I:Inv X XX j H s)(h:H p=some (.lst xs)) :
  ∃(XJ:ZG) (n:Nat),Yj xs XJ/\s.heap.get? p=some { cls:=.type "list",data:=.seq XJ.toArray n }/\xs.length<=sizeLine:=by
 obtain⟨z,XJ,n,r,e⟩:=I.hok p _ h;exact⟨XJ,n,r,e,z⟩
theorem Inv.lstUpd{XX:Vs}{j:St}{H:Hp}{s:Shared}{p:Addr}{xs ys:ZZ}{XJ its':ZG}{n n':Nat}{f:Obj->Obj}(I:Inv X XX j H s)(h:H p=some (.lst xs))
  (ho:s.heap.get? p=some { cls:=.type "list",data:=.seq XJ.toArray n }) (hf:f { cls:=.type "list",data:=.seq XJ.toArray n }={ cls:=.type "list",data:=.seq its'.toArray n' }) (r:Yj ys its') (hz:ys.length<=sizeLine) (t:Nat) :
  Inv X XX j (upd H p (.lst ys)) { s with heap:=s.heap.update p f,toks:=t }:=by
 have e:(s.heap.update p f).get? p=some { cls:=.type "list",data:=.seq its'.toArray n' }:=by
  rw[Heap.get?_update_self f ho (by rw[hf]<;>rfl),hf]
 refine I.write (x:=p) (e:=p) (by rw[h];trivial) (.inl rfl) (λb u hb q=>(Heap.get?_update_other _ _ (Ne.symm hb)).trans q) ⟨_,e⟩ ?_;exact⟨hz,its',n',r,e⟩
inductive Zvn(o:V)(i:V)(v:V)(H:Hp)(Q:(Hp->Prop)):Prop
 | mk(p xs k j)(Vx:o=.ref p)(Vz:i=.int k)(Vp:H p=some (.lst xs))(Jn:ixN xs.length k=some j)(Mf:Q (upd H p (.lst (xs.set j v))))
def rSetL:V->V->V->Hp->(Hp->Prop)->Prop:=λo i v H Q=>Zvn o i v H Q
theorem set_list:PSet X rSetL:=by
 intro XX s Z H o i v ov iv u Q I ro ri rv h;obtain⟨p,xs,k,j,rfl,rfl,hp,hj,q⟩:=h;cases ro;obtain⟨t,rfl⟩:=ri;obtain⟨XJ,n,r,ho,hz⟩:=I.lst hp;obtain⟨h1,h2,h3,h4⟩:=b9 hj;have hl:=r.length;have hn:=Ox
 have I':Inv X XX Z (upd H p (.lst (xs.set j v))) { s with heap:=s.heap.update p (Obj.mapSeq (·.setIfInBounds j u)) } :=
  I.lstUpd hp ho (wq XJ n j u) (r.set rv j) (by rw[List.length_set];exact hz) s.toks
 by_cases h0:0<=k
 .have hk:k.toNat=j:=by
   rw[seqIndex_of h0 h4]at h1;exact Fk h1
  exact W.ki_setAt ho h0 QU (by rw[Mw, <-hl];exact h4) (by rw[hk];exact⟨_,I',q⟩)
 .have hk:(k+(XJ.toArray.size:Int)).toNat=j:=by
   rw[seqIndex_neg QU h3]at h1;rw[Mw, <-hl];exact Fk h1
  exact W.ki_setBack ho QU (by rw[Mw, <-hl];exact h3) QU (by rw[hk];exact⟨_,I',q⟩)
theorem K7(lo hi:ZN)(n:Nat):(sliceBounds lo hi none n).1=((HT.Uj n 0 lo:Nat):Int)/\(sliceBounds lo hi none n).2.1=((HT.Uj n n hi:Nat):Int)/\(sliceBounds lo hi none n).2.2=1:=by
 refine⟨?_,?_,rfl⟩
 .cases lo with
  | none=>simp[sliceBounds,HT.Uj]
  | some i =>
   simp only[sliceBounds,HT.Uj,Option.getD_none,show (1:Int)>0 by decide,if_true];by_cases h:i<0
   .simp only[h,if_true]<;>omega
   .simp only[h,if_false]<;>omega
 .cases hi with
  | none=>simp[sliceBounds,HT.Uj]
  | some i =>
   simp only[sliceBounds,HT.Uj,Option.getD_none,show (1:Int)>0 by decide,if_true];by_cases h:i<0
   .simp only[h,if_true]<;>omega
   .simp only[h,if_false]<;>omega
theorem So(XJ:ZG)(lo hi:ZN):slicePick XJ.toArray lo hi none=((XJ.drop (HT.Uj XJ.length 0 lo)).take (HT.Uj XJ.length XJ.length hi-HT.Uj XJ.length 0 lo)).toArray:=by
 obtain⟨h1,h2,h3⟩:=K7 lo hi XJ.toArray.size;unfold slicePick;rw[h1,h2,h3];simp only[sliceRange_one,pick_run,Mw]<;>rfl
inductive rSlL_I(K:W.Frag)(x:V)(lo:ZN)(hi:ZN)(H:Hp)(Q:VK):Prop
 | mk(a xs)(Vx:x=.ref a)(Vz:Zu K H a xs)(Vp:∀p,H p=none->Q (.ref p) (upd H p (.lst (Jt xs lo hi))))
def rSlL(K:W.Frag):V->ZN->ZN->Hp->VK->Prop:=λx lo hi H Q=>rSlL_I K x lo hi H Q
theorem T5:SlR X (rSlL X.K):=by
 intro XX s j H x v vl vu lo hi sl Q I rx hs pl pu h;obtain⟨a,xs,rfl,hx,q⟩:=h;cases rx;obtain⟨XJ,r,ht,hz⟩:=I.list hx;have hlen:=r.length;refine⟨"list",_,slot_list_getitem.lookup,ht.isList.typeIs,?_⟩;refine wpAny_getItem_list_slice ht.isList hs pl pu .none QE ?_ (by rw[Mw]<;>omega);rw[So, <-hlen];refine⟨.ref s.heap.objs.size,_,I.laid (t':=s.toks) (o:=.lst (Jt xs lo hi)) (λb ob q=>Uz _ q) (Yt _) ?_,rfl,q _ (I.hok.fresh (Yt _))⟩;exact⟨Vf (Ms xs lo hi) hz,_,0,(r.drop (HT.Uj xs.length 0 lo)).take (HT.Uj xs.length xs.length hi-HT.Uj xs.length 0 lo),M7 _ rfl⟩
noncomputable def W9:V->Bool
 | .non=>true
 | .bl _=>true
 | .int _=>true
 | .str _=>true
 | _=>false
noncomputable def eqV:V->V->Bool
 | .non,.non=>true
 | .bl a,.bl b=>a==b
 | .bl a,.int b=>(if a then 1 else 0)==b
 | .int a,.bl b=>a==(if b then 1 else 0)
 | .int a,.int b=>a==b
 | .str a,.str b=>a==b
 | _,_=>false
theorem eqAt_V(ry:RelV y u)(rx:RelV x v)(fy:W9 y=true)(fx:W9 x=true):SeqAt.EqAt A s u v (eqV y x):=by
 cases y with
 | non =>
  cases ry;cases x with
  | non=>cases rx;exact SeqAt.EqAt.same _
  | bl b=>cases rx;exact SeqAt.EqAt.none_bool b
  | int b=>obtain⟨t,rfl⟩:=rx;exact SeqAt.EqAt.none_int b t
  | str b=>obtain⟨t,rfl⟩:=rx;exact SeqAt.EqAt.none_str b t
  | _=>exact absurd (show false=true from fx) Cg
 | bl a =>
  cases ry;cases x with
  | non=>cases rx;exact SeqAt.EqAt.bool_none a
  | bl b=>cases rx;exact SeqAt.EqAt.bool_bool a b
  | int b=>obtain⟨t,rfl⟩:=rx;exact SeqAt.EqAt.bool_int a b t
  | str b=>obtain⟨t,rfl⟩:=rx;exact SeqAt.EqAt.bool_str a b t
  | _=>exact absurd (show false=true from fx) Cg
 | int a =>
  obtain⟨t',rfl⟩:=ry;cases x with
  | non=>cases rx;exact SeqAt.EqAt.int_none a t'
  | bl b=>cases rx;exact SeqAt.EqAt.int_bool a t' b
  | int b=>obtain⟨t,rfl⟩:=rx;exact SeqAt.EqAt.int_int a t' b t
  | str b=>obtain⟨t,rfl⟩:=rx;exact SeqAt.EqAt.int_str a t' b t
  | _=>exact absurd (show false=true from fx) Cg
 | str a =>
  obtain⟨t',rfl⟩:=ry;cases x with
  | non=>cases rx;exact SeqAt.EqAt.str_none a t'
  | bl b=>cases rx;exact SeqAt.EqAt.str_bool a t' b
  | int b=>obtain⟨t,rfl⟩:=rx;exact SeqAt.EqAt.str_int a t' b t
  | str b=>obtain⟨t,rfl⟩:=rx;exact SeqAt.EqAt.str_str a t' b t
  | _=>exact absurd (show false=true from fx) Cg
 | _=>exact absurd (show false=true from fy) Cg
noncomputable def yq(x:V)(u:Value):Bool:=match u with
 | .none=>eqV .non x
 | .bool b=>eqV (.bl b) x
 | .int i _=>eqV (.int i) x
 | .str z _=>eqV (.str z) x
 | _=>false
theorem Zjt(r:RelV y u)(f:W9 y=true):yq x u=eqV y x:=by
 cases y with
 | non=>cases r;rfl
 | bl b=>cases r;rfl
 | int i=>obtain⟨t,rfl⟩:=r;rfl
 | str z=>obtain⟨t,rfl⟩:=r;rfl
 | _=>exact absurd (show false=true from f) Cg
theorem Lg:∀{xs:ZZ} {us:ZG},Yj xs us->xs.all W9=true->us.any (yq x)=xs.any λy=>eqV y x
 | _,_,.nil,_=>rfl
 | y::xs,u::us,.cons r t,f=>by
  rw[List.all_cons,oj]at f;rw[List.any_cons,List.any_cons,Zjt r f.1,Lg t f.2]
theorem Tv(rx:RelV x v)(fx:W9 x=true):∀{xs:ZZ} {us:ZG},Yj xs us->xs.all W9=true->∀u∈us,SeqAt.EqAt A s u v (yq x u)
 | _,_,.nil,_=>λu hu=>by cases hu
 | y::xs,u::us,.cons r t,f=>λu' hu=>by
  rw[List.all_cons,oj]at f;rcases U8.mp hu with rfl | hu
  .rw[Zjt r f.1];exact eqAt_V r rx f.1 fx
  .exact Tv rx fx t f.2 u' hu
noncomputable def A0(x:V)(xs:ZZ):Bool:=xs.any λy=>eqV y x
inductive rIn_I(K:W.Frag)(neg:Bool)(x:V)(y:V)(H:Hp)(Q:VK):Prop
 | mk(p xs)(Vx:y=.ref p)(Vz:(Zu K H p xs\/Zp K H p xs))(Vp:W9 x=true)(Jn:xs.all W9=true)(Mf:Q (.bl (if neg then !A0 x xs else A0 x xs)) H)
def rIn(K:W.Frag)(neg:Bool):R2:=λx y H Q=>rIn_I K neg x y H Q
theorem Df:M4 X (compareOp .In) (rIn X.K false):=by
 intro XX s j H x y v u Q I rx ry h;obtain⟨p,xs,rfl,hq,fx,fs,q⟩:=h;cases ry;rcases hq with hq | hq
 .obtain⟨XJ,r,pl,hz⟩:=I.list hq;refine SeqAt.in_listAt (yq x) pl.isList (λw hw=>Tv rx fx r fs w (by simpa using hw)) ⟨.bl _,H,I,rfl,?_⟩;rw[show XJ.toArray.any (yq x)=XJ.any (yq x) by simp,Lg r fs];exact q
 .obtain⟨XJ,r,pl,hz⟩:=I.tuple hq;refine SeqAt.in_tupleAt (yq x) pl (λw hw=>Tv rx fx r fs w (by simpa using hw)) ⟨.bl _,H,I,rfl,?_⟩;rw[show XJ.toArray.any (yq x)=XJ.any (yq x) by simp,Lg r fs];exact q
theorem Ua:M4 X (compareOp .NotIn) (rIn X.K true):=by
 intro XX s j H x y v u Q I rx ry h;obtain⟨p,xs,rfl,hq,fx,fs,q⟩:=h;cases ry;rcases hq with hq | hq
 .obtain⟨XJ,r,pl,hz⟩:=I.list hq;refine SeqAt.notIn_listAt (yq x) pl.isList (λw hw=>Tv rx fx r fs w (by simpa using hw)) ⟨.bl _,H,I,rfl,?_⟩;rw[show XJ.toArray.any (yq x)=XJ.any (yq x) by simp,Lg r fs];exact q
 .obtain⟨XJ,r,pl,hz⟩:=I.tuple hq;refine SeqAt.notIn_tupleAt (yq x) pl (λw hw=>Tv rx fx r fs w (by simpa using hw)) ⟨.bl _,H,I,rfl,?_⟩;rw[show XJ.toArray.any (yq x)=XJ.any (yq x) by simp,Lg r fs];exact q
inductive Sz(K:W.Frag)(xs:ZZ)(H:Hp)(Q:VK):Prop
 | mk(p ys)(Vx:xs=[.ref p])(Vz:(Zu K H p ys\/Zp K H p ys))(Vp:Q (.int ys.length) H)
theorem Yl:Jm X (.builtin "len") (λxs H Q=>Sz X.K xs H Q):=by
 intro XX s j H xs us Q I r h;obtain⟨p,ys,rfl,hq,q⟩:=h;obtain⟨u,rfl,rx⟩:=vals1 r;cases rx;have hn:=Ox;rcases hq with hq | hq
 .obtain⟨XJ,r',pl,hz⟩:=I.list hq;have hlen:=r'.length;exact Calls.call_len_list pl.isList (by simp only[Mw]<;>omega) ⟨.int ys.length,H,I.tok _,⟨s.toks+1,by rw[Mw,hlen]⟩,q⟩
 .obtain⟨XJ,r',pl,hz⟩:=I.tuple hq;have hlen:=r'.length;exact len_tuple pl (by simp only[Mw]<;>omega) ⟨.int ys.length,H,I.tok _,⟨s.toks+1,by rw[Mw,hlen]⟩,q⟩
inductive O9(K:W.Frag)(xs:ZZ)(H:Hp)(Q:VK):Prop
 | mk(p ys)(Vx:xs=[.ref p])(Vz:(Zu K H p ys\/Zp K H p ys))(Vp:∀l,H l=none->Q (.ref l) (upd H l (.lst ys)))
theorem Bq:Jm X (.type "list") (λxs H Q=>O9 X.K xs H Q):=by
 intro XX s j H xs us Q I r h;obtain⟨p,ys,rfl,hq,q⟩:=h;obtain⟨u,rfl,rx⟩:=vals1 r;cases rx
 have fin:∀(XJ:ZG),Yj ys XJ->ys.length<=sizeLine->∀(h':Heap) (c':Nat),(∀b o',s.heap.get? b=some o'->h'.get? b=some o') ->
   h'.get? s.heap.objs.size=some { cls:=.type "list",dict:=none,data:=.seq XJ.toArray c',slots:=#[] }->EP X XX j Q (.ref s.heap.objs.size) { s with heap:=h' }:=λXJ r' hz h' c' kp e =>
  ⟨.ref s.heap.objs.size,_,I.laid (t':=s.toks) kp (Yt _) (show Y4 X.prog X.w _ h' _ (.lst ys) from⟨hz,XJ,c',r',e⟩),rfl,q _ (I.hok.fresh (Yt _))⟩
 rcases hq with hq | hq
 .obtain⟨XJ,r',pl,hz⟩:=I.list hq;have hlen:=r'.length;obtain⟨o,ho,hc,n,hd⟩:=pl.isList;exact call_list_seq p (.inl rfl) ho hc hd (λh' c' kp e=>fin XJ r' hz h' c' kp e) (by simp only[Mw]<;>omega)
 .obtain⟨XJ,r',pl,hz⟩:=I.tuple hq;have hlen:=r'.length;obtain⟨o,ho,hc,n,hd⟩:=pl;exact call_list_seq p (.inr rfl) ho hc hd (λh' c' kp e=>fin XJ r' hz h' c' kp e) (by simp only[Mw]<;>omega)
inductive Qy(K:W.Frag)(xs:ZZ)(H:Hp)(Q:VK):Prop
 | mk(p ys)(Vx:xs=[.ref p])(Vz:((Zu K H p ys/\∀l,H l=none->Q (.ref l) (upd H l (.tup ys)))\/(Zp K H p ys/\Q (.ref p) H)))
theorem Zr:Jm X (.type "tuple") (λxs H Q=>Qy X.K xs H Q):=by
 intro XX s j H xs us Q I r h;obtain⟨p,ys,rfl,h⟩:=h;obtain⟨u,rfl,rx⟩:=vals1 r;cases rx;rcases h with ⟨hq,q⟩ | ⟨hq,q⟩
 .obtain⟨XJ,r',pl,hz⟩:=I.list hq;have hlen:=r'.length;refine call_tuple_list pl.isList (λh' kp=>?_) (by simp only[Mw]<;>omega);have I1:Inv X XX j H { s with heap:=h' }:=I.kept (t':=s.toks) kp
  have I2:Inv X XX j (upd H h'.objs.size (.tup ys)) { s with heap:=h'.push { cls:=.type "tuple",data:=.seq XJ.toArray } } :=
   I1.laid (t':=s.toks) (λb o e=>Uz _ e) (Yt _) (show Y4 X.prog X.w _ _ _ (.tup ys) from⟨hz,XJ,r',Sk.new _ _⟩)
  exact⟨.ref h'.objs.size,_,I2,rfl,q _ (I1.hok.fresh (Yt _))⟩
 .obtain⟨XJ,r',pl,hz⟩:=I.tuple hq;exact call_tuple_same pl ⟨.ref p,H,I,rfl,q⟩
def tyV(K:W.Frag)(T:String)(x:V)(H:Hp):Prop:=match x with
 | .str _=>T="str"
 | .int _=>T="int"
 | .ref p=>(T="list" /\ ∃xs,Zu K H p xs)\/(T="tuple" /\ ∃o,K.lookup p=some o/\o.cls=.type "tuple" /\ o.dict=none) \/
   (T="dict" /\ ((∃XQ,H p=some (.dK XQ))\/∃XQ,H p=some (.dT XQ)))\/(T="set" /\ ∃S n,H p=some (.set S n))
 | _=>False
theorem tyV_is(I:Inv X XX j H s)(r:RelV x v)(ty:tyV X.K T x H) :
  s.TypeIs v T/\∀a,v=.ref a->∃ob,s.heap.get? a=some ob/\ob.dict=none:=by
 cases x with
 | str z =>
  obtain⟨t,rfl⟩:=r;cases Zc ty;exact⟨typeIs_str s z t,λ_ e=>nomatch e⟩
 | int i =>
  obtain⟨t,rfl⟩:=r;cases Zc ty;exact⟨typeIs_int s i t,λ_ e=>nomatch e⟩
 | ref p =>
  cases r;rcases ty with ⟨rfl,xs,hq⟩ | ⟨rfl,o,hk,hc,hd⟩ | ⟨rfl,hk⟩ | ⟨rfl,S,n,hk⟩
  .obtain⟨XJ,_,pl,_⟩:=I.list hq;refine⟨pl.isList.typeIs,λa e=>?_⟩;cases e;obtain⟨o,n,e,c,hd,_⟩:=pl;exact⟨o,e,hd⟩
  .refine⟨⟨o,I.kIn p o hk,hc⟩,λa e=>?_⟩;cases e;exact⟨o,I.kIn _ o hk,hd⟩
  .have z:∃o,s.heap.get? p=some o/\o.ExactDict:=by
    rcases hk with ⟨XQ,hk⟩ | ⟨XQ,hk⟩
    .obtain⟨_,_,_,_,o,_,_,e,ex,_⟩:=I.hok p _ hk;exact⟨o,e,ex⟩
    .obtain⟨_,_,_,_,o,_,_,e,ex,_⟩:=I.hok p _ hk;exact⟨o,e,ex⟩
   obtain⟨o,e,ex⟩:=z;refine⟨⟨o,e,ex.1⟩,λa e2=>?_⟩;cases e2;exact⟨o,e,ex.2.1⟩
  .obtain⟨o,_,_,_,e,ex,_⟩:=I.hok p _ hk;refine⟨⟨o,e,ex.1⟩,λa e2=>?_⟩;cases e2;exact⟨o,e,ex.2.1⟩
 | _=>exact False.elim ty
def tBM(K:W.Frag)(T:String)(r:V->ZZ->Hp->VK->Prop)(to:TE)(t:TA):TE:=λj H Q=>to j H λx H1=>tyV K T x H1/\t j H1 λxs H2=>r x xs H2 Q
variable{o e:Expr}{es:ZD}{to:TE}{t:TA}{name:Str}{apos cpos:Pos}{T id:String}{r:V->ZZ->Hp->VK->Prop}
theorem Wx(pa:PlainAttrs T)(slot:Slot T name id)(hty:typeOf (.builtin id)=pure (.type "method_descriptor"))(hm:MtR X id r)(ho:PE X o to)(ha:PA X (e::es) t)
  (hbase:attributeBase o name X.env (eval o X.env)=eval o X.env:=by rfl)
  (hfew:((backTo cpos (starEach (e::es) X.env)).all (λx=>!x.1)&&(backToKw cpos (keywordEach [] X.env)).all (λx=>x.1.isSome)
   && decide ((e::es).length+([]:List Keyword).length+(if ([]:List Keyword).isEmpty then 0 else 1)<30))=true:=by rfl)
  (hline:(apos.endLine==cpos.line)=true:=by rfl) (hs:starEach (e::es) X.env=(false,eval e X.env)::starEach es X.env:=by rfl) (hplain:(backTo cpos (starEach es X.env)).any (·.1)=false:=by rfl) :
  PE X (.Call (.Attribute o name apos) (e::es) [] cpos) (tBM X.K T r to t):=by
 intro XX s j H Q I h;refine wpAny_Call_method_late hbase hfew hline rfl (Y7 (ho XX s j H _ I h) λv s1 ⟨x,H1,I1,r1,ty,q1⟩=>?_);obtain⟨h1,h2⟩:=tyV_is I1 r1 ty;refine⟨T,id,pa,slot,hty,h1,h2,?_⟩;have hA:=ha cpos XX s1 j H1 _ I1 q1;rw[hs]at hA ⊢;refine Calls.callWith_builtin (by show (false || (backTo cpos (starEach es X.env)).any (·.1))=false;rw[hplain]<;>rfl) (Calls.evalArgs_plain ?_);exact Y7 hA λus s2 ⟨vs,H2,I2,r2,q2⟩=>hm XX s2 j H2 x vs v us Q I2 r1 r2 q2
end
def MtM(X:Cx)(id:String)(r:V->ZZ->Hp->VK->Prop):Prop :=
 ∀(XX:Vs) (s:Shared) (j:St) (H:Hp) (x:V) (xs:ZZ) (v:Value) (us:ZG) (Q:VK),Inv X XX j H s->RelV x v->Yj xs us->r x xs H Q ->
  wpAny (model X.prog X.w) X.A (call (.builtin id) (v::us)) (EP X XX j Q) X.xe s
theorem Yj.one:∀{x:V} {us:ZG},Yj [x] us->∃u,us=[u]/\RelV x u
 | _,_,.cons r .nil=>⟨_,rfl,r⟩
theorem Yj.zero:∀{us:ZG},Yj [] us->us=[]
 | _,.nil=>rfl
theorem Yj.rep(h:Yj xs us):∀k:Nat,Yj (List.replicate k xs).flatten (List.replicate k us).flatten
 | 0=>.nil
 | k+1=>by
  rw[List.replicate_succ,List.replicate_succ,List.flatten_cons,List.flatten_cons];exact Yj.append h (Yj.rep h k)
theorem foldl_rep(XJ:ZG):∀(k:Nat) (acc:ZG),
  List.foldl (λx1 x2=>x1++x2) acc.toArray (List.replicate k XJ.toArray)=(acc++(List.replicate k XJ).flatten).toArray
 | 0,acc=>by simp
 | k+1,acc=>by
  have e:acc.toArray++XJ.toArray=(acc++XJ).toArray:=by simp
  have e2:(acc++XJ)++(List.replicate k XJ).flatten=acc++(List.replicate (k+1) XJ).flatten:=by
   rw[List.replicate_succ,List.flatten_cons,ZA]
  rw[<-e2, <-foldl_rep XJ k (acc++XJ), <-e,List.replicate_succ,List.foldl_cons]
section
variable{X:Cx}{XX:Vs}{j:St}{H:Hp}{s:Shared}{l b:Addr}{xs ys zs:ZZ}
theorem Inv.lset{XJ its':ZG}{n:Nat}{f:ZT->ZT}{t':Nat}(I:Inv X XX j H s)(hH:H l=some (.lst xs))
  (e:s.heap.get? l=some { cls:=.type "list",data:=.seq XJ.toArray n }) (hf:f XJ.toArray=its'.toArray) (hv:Yj ys its') (hz:ys.length<=sizeLine) :
  Inv X XX j (upd H l (.lst ys)) { s with heap:=s.heap.update l (Obj.mapSeq f),toks:=t' }:=by
 have q:=PySem.IsL.update e f;rw[hf]at q;refine I.write (x:=l) (e:=l) (by rw[hH];exact trivial) (.inl rfl) (λb' u hb hu=>(Heap.get?_update_other s.heap (Obj.mapSeq f) (Ne.symm hb)).trans hu) ⟨_,q⟩ ?_;exact⟨hz,its',_,hv,q⟩
theorem Inv.lnew(I:Inv X XX j H s)(hv:Yj ys XJ)(hz:ys.length<=sizeLine) :
  Inv X XX j (upd H s.heap.objs.size (.lst ys)) { s with heap:=s.heap.push { cls:=.type "list",data:=.seq XJ.toArray },toks:=t' } :=
 I.laid (λ_ _ q=>Uz _ q) (Yt _) ⟨hz,XJ,0,hv,M7 _ rfl⟩
theorem Inv.fresh(I:Inv X XX j H s):H s.heap.objs.size=none:=I.hok.fresh (Yt _)
theorem Inv.lstM(I:Inv X XX j H s)(hH:H l=some (.lst xs)):xs.length<=sizeLine/\∃(XJ:ZG) (n:Nat),Yj xs XJ/\xs.length=XJ.length/\s.heap.get? l=some { cls:=.type "list",data:=.seq XJ.toArray n }:=by
 obtain⟨z,XJ,n,r,e⟩:=I.hok l _ hH;exact⟨z,XJ,n,r,r.length,e⟩
theorem Zqq(h:n<=sizeLine):Builtin.List.listTooLong n=false:=by
 unfold Builtin.List.listTooLong;exact F9 QU
end
section
variable{X:Cx}
inductive sf(x:V)(vs:ZZ)(H:Hp)(Q:VK):Prop
 | mk(l xs y)(Vx:x=.ref l)(Vz:vs=[y])(Vp:H l=some (.lst xs))(Jn:xs.length<sizeLine)(Mf:Q .non (upd H l (.lst (xs++[y]))))
def Zvh:V->ZZ->Hp->VK->Prop:=λx vs H Q=>sf x vs H Q
theorem Ux:MtM X "list.append" Zvh:=by
 intro XX s j H x vs v us Q I rx rv h;obtain⟨l,xs,y,rfl,rfl,hH,hz,q⟩:=h;cases rx;obtain⟨u,rfl,ru⟩:=rv.one;obtain⟨z,XJ,n,r,hl,e⟩:=I.lstM hH;refine call_meets F.slot_list_append ⟨_,e,rfl⟩ F.entry_list_append (F.args_list_append_2 _ _) (PySem.list_append l XJ.toArray n u (by rw[Mw];omega)) ⟨e,?_⟩;refine⟨.non,_,I.lset (its':=XJ++[u]) hH e QE (r.append (.cons ru .nil)) ?_,rfl,q⟩;rw[Nl,ZU];omega
inductive rCat_I(x:V)(y:V)(H:Hp)(Q:VK):Prop
 | mk(l b xs zs)(Vx:x=.ref l)(Vz:y=.ref b)(Vp:H l=some (.lst xs))(Jn:H b=some (.lst zs))(Mf:xs.length+zs.length<=sizeLine)(Co:∀p,H p=none->Q (.ref p) (upd H p (.lst (xs++zs))))
def rCat:R2:=λx y H Q=>rCat_I x y H Q
theorem jl:M4 X (binaryOp .Add) rCat:=by
 intro XX s j H x y v u Q I rx ry h;obtain⟨l,b,xs,zs,rfl,rfl,hH,hB,hz,q⟩:=h;cases rx;cases ry;obtain⟨z,XJ,n,r,hl,e⟩:=I.lstM hH;obtain⟨z2,its2,n2,r2,ur,e2⟩:=I.lstM hB;refine PySem.P.add_list e e2 ?_ (by rw[Mw,Mw];omega);have ea:XJ.toArray++its2.toArray=(XJ++its2).toArray:=by simp
 rw[ea];exact⟨.ref _,_,I.lnew (t':=s.toks) (r.append r2) (by rw[Nl];omega),rfl,q _ I.fresh⟩
inductive rRep_I(x:V)(y:V)(H:Hp)(Q:VK):Prop
 | mk(l k xs)(Vx:x=.ref l)(Vz:y=.int k)(Vp:H l=some (.lst xs))(Jn:-(2 ^ 63)<=k)(Mf:k<2 ^ 63)(Co:xs.length*k.toNat<=sizeLine)(Xo:∀p,H p=none->Q (.ref p) (upd H p (.lst (List.replicate k.toNat xs).flatten)))
def rRep:R2:=λx y H Q=>rRep_I x y H Q
theorem len_rep{j:Type}(xs:List j)(k:Nat):(List.replicate k xs).flatten.length=k*xs.length:=by
 induction k with
 | zero=>simp
 | succ k ih=>rw[List.replicate_succ,List.flatten_cons,Nl,ih,Nat.succ_mul,Nat.add_comm]
theorem op_rep:M4 X (binaryOp .Mult) rRep:=by
 intro XX s j H x y v u Q I rx ry h;obtain⟨l,k,xs,rfl,rfl,hH,h1,h2,hz,q⟩:=h;cases rx;obtain⟨t,rfl⟩:=ry;obtain⟨z,XJ,n,r,hl,e⟩:=I.lstM hH;have hlen:XJ.toArray.size*k.toNat<=sizeLine:=by rw[Mw, <-hl];exact hz
 have hcap:¬ XJ.toArray.size*k.toNat>(2 ^ 63-1) / 8:=by
  have:(sizeLine:Nat)<=(2 ^ 63-1) / 8:=QI
  omega
 have Ex:¬ (!Builtin.List.listFitsIndex k)=true:=by
  rw[fitsIndex_both h1 h2];exact Cg
 have hlong:¬ Builtin.List.listTooLong (XJ.toArray.size*k.toNat)=true:=by
  rw[Zqq hlen];exact Cg
 have hnew:List.foldl (λx1 x2=>x1++x2) #[] (List.replicate (if XJ.toArray.isEmpty=true then 0 else k.toNat) XJ.toArray)=(List.replicate k.toNat XJ).flatten.toArray:=by
  have f0:∀m:Nat,List.foldl (λx1 x2=>x1++x2) #[] (List.replicate m XJ.toArray)=(List.replicate m XJ).flatten.toArray:=λm=>by
   have:=foldl_rep XJ m [];rw[List.nil_append]at this;exact this
  rw[f0];cases XJ with
  | nil=>simp
  | cons a r'=>rw[if_neg QE]
 refine wpAny_binaryOp_repeat_ref (T:="list") (U:="int") QI ⟨_,e,rfl⟩ (λs'=>typeIs_int s' k t) noFill_list_mul F.fills_int_mul F.slot_int_rmul repeat_list F.slot_int_index.lookup
  (call_meets F.slot_int_rmul (typeIs_int s k t) F.entry_int_rmul (F.args_int_rmul_2 _ _) (int___rmul___int_list k t l XJ.toArray n)
   ⟨e,rfl,⟨_,e,rfl⟩,call_meets F.slot_list_mul ⟨_,e,rfl⟩ F.entry_list_mul (F.args_list_mul_2 _ _) (AutoListH.list___mul___list_int_3 l XJ.toArray n k t Ex hcap hlong) ⟨e,?_⟩⟩)
 rw[hnew];exact⟨.ref _,_,I.lnew (t':=s.toks) (r.rep k.toNat) (by rw[len_rep,Nat.mul_comm];exact hz),rfl,q _ I.fresh⟩
end
section
variable{prog:Program}{w:World}{A:Around}{E:Ya}{s:Shared}
end
section
variable{X:Cx}
end
end L2
namespace Att
open PySem PySem.W PySem.Calls PyProof.Rows
theorem Qj:∀(ns:ZC) (vs:ZG),WellAll P h vs (ns.map WData.int)->IntsAre vs ns:=by
 intro ns
 induction ns with
 | nil =>
  intro vs w;rw[List.map_nil]at w;cases w;exact .nil
 | cons n ns ih =>
  intro vs w;rw[Mu]at w;cases w with
  | cons a b =>
   cases a;exact .cons _ _ (ih _ b)
theorem rl{l:OpenLaw}{n:Nat}(hn:l.most=some n){P:Params}{h:Heap}{args:List WData}{vals:ZG}
  (Zy5:l.row.toRowW.claim.pre args=true) (hwl:WellAll P h vals args) :
  ∃a vs ns,vals=[Value.ref a]/\args=[WData.list (ns.map WData.int)]/\h.get? a=some { cls:=.type "list",data:=.seq vs.toArray }/\IntsAre vs ns/\ns.length<=n:=by
 have hsh:WShape.hasAll [] args [.list .int]=true:=(pre_splitW Zy5).1;have hc:l.pre.holds [] { args:=args }=true:=(pre_splitW Zy5).2;obtain⟨d,r,rfl,h1,h2⟩:=hasAllW_cons hsh;obtain rfl:=hasAllW_nil h2;obtain⟨xs,rfl,h3⟩:=hasW_list h1;obtain⟨ns,rfl⟩:=items_int h3
 have hlen:ns.length<=n:=by
  unfold OpenLaw.pre at hc
  have h4:(WTm.not (.lt (.lit (.int (n:Int))) (.len (.arg 0)))).holds [] { args:=[.list (ns.map .int)] }=true:=by
   have h4:=(holds_andW hc).1;rw[hn]at h4;exact h4
  have h5:=condW_of h4 (w_not (w_lt w_lit (w_len_list (w_arg rfl))));rw[Yv]at h5;refine Nat.le_of_not_lt λq=>?_;have q':(n:Int)<((ns.length:Nat):Int):=QU
  first
   | (rw[Sd q']at h5;exact absurd h5 QI)
   | (simp at h5;omega)
 cases hwl with
 | cons w1 w2 =>
  cases w2;cases w1 with
  | list ho hall=>exact⟨_,_,ns,rfl,rfl,ho,Qj ns _ hall,hlen⟩
theorem sr(l:OpenLaw)(args:List WData):l.row.toRowW.claim.post args (.bool true) args=true :=
 postW_of (r:=l.row.toRowW) (X:=(true==true))
  (show WShape.has [] (.bool true) .bool=true by first | rfl | decide | simp[WShape.has,WShape.arms,WShape.armsAll])
  (show (WTm.eq .res (.lit (.bool true))).value [] { args:=args,res:=some (.bool true),after:=args }=some (.bool (true==true)) from w_eq_bool (w_res rfl) w_lit) rfl
theorem zu{l:OpenLaw}{n:Nat}{q:Program}{loose:ZF}{XP:(ZJ)->Heap->Prop}{YP:World->Heap->Prop}{d:DefRec}
  (hn:l.most=some n) (hdf:d.params.defaults=[])
  (call:∀(w:World) (s₀ s₁:Shared) (mg mb:G6) (fa:Addr) (o:Obj) (pm cd doc:Value) (a:Addr) (vs:ZG) (ns:ZC),
   Ground q loose [] XP w s₀ mg mb s₁.heap->YP w s₁.heap ->
   s₁.heap.get? fa=some o->o.data=.func (docDef d.name d.params d.body d.scope pm cd doc)->s₁.heap.CodeRec cd d.name->mg d.name=some (.ref fa) ->
   s₁.heap.get? a=some { cls:=.type "list",data:=.seq vs.toArray }->IntsAre vs ns->ns.length<=n->s₁.gens=#[] ->
   codeAny (model l.prog w) callerA (.call (.ref fa) ⟨[.ref a],[]⟩) (λr s'=>r=.ok (.ret (.bool true))/\OldK s₁.heap s'.heap/\s'.os=s₁.os/\AllBare s'.gens) s₁) :
  WalkO q loose XP YP l.row.toRowW d [] (λf vs=>PySem.call f vs):=by
 intro w s₀ s₁ mg mb G Y fa o pm cd doc dV kV ho hd Kk hD hmg hg args vals as Zy5 hlay hrd hwl hlo;obtain rfl:dV=.none:=Dflts.none hD hdf;obtain rfl:kV=.none:=Dflts.noKw hD;obtain⟨a,vs,ns,rfl,rfl,hobj,hints,hlen⟩:=rl hn Zy5 hwl;refine enter_call (codeAny_mono (call w s₀ s₁ mg mb fa o pm cd doc a vs ns G Y ho (fd_plain hd) Kk hmg hobj hints hlen hg) λr s' hq=>?_);obtain⟨rfl,h2,h3,h4⟩:=hq;exact⟨.inl ⟨.bool true,.bool true,[],rfl,λ_=>rfl,.bool true,sr l _,λ_=>⟨List.Pairwise.nil,λ_ hm=>(nomatch hm)⟩⟩,h2,h3,h4⟩
section
variable{prog:Program}{w:World}{A:Around}{E:Ya}{s:Shared}{K:Frag}
end
end Att
namespace L2
open PySem PySem.Spec PyProof.Rows
theorem Lr:∀{vs:ZG} {ns:ZC},IntsAre vs ns->Yj (ns.map V.int) vs
 | _,_,.nil=>.nil
 | _,_,.cons n t h=>.cons ⟨t,rfl⟩ (Lr h)
def Only(H:Hp):Prop:=∀b,H b=none\/∃o xs,H b=some (.frz o (.lst xs))
theorem Zqn{P:Program}{w:World}{K:W.Frag}{mg mb:G6}{CX:A3}{k:Nat}{fa a:Addr}{fd:FuncData}{x:Str}{sp:Sp}{s₁:Shared}{vs:ZG}{ns:ZC}
  (KX:K.In s₁.heap) (hns:s₁.heap.Ns mainGlobals mg) (hb:s₁.heap.Ns builtinsNs mb) (hbb:∀x:Str,x ≠ "__name__" -> mb x=bootBuiltins x) (hlim:s₁.heap.NoLimit) (hg:s₁.gens=#[])
  (ha:s₁.heap.get? a=some { cls:=.type "list",data:=.seq vs.toArray }) (hi:IntsAre vs ns) (hl:ns.length<=sizeLine) (hr:V8 k callerA)
  (F:∀base:Heap,K.In base->base.Ns mainGlobals mg->Yk P w K mg base CX k fa fd [x] sp) (hbind:∀(s:Shared) (u:Value),BindsTo s fd ⟨[u],[]⟩ [(x,u)])
  (hsp:∀H:Hp,Only H->Zu K H a (ns.map V.int)->sp [.ref a] H (λv _=>v=.bl true) λ_ _ _=>False)
  (hCX:∀H e s',CX [] H s₁ (λ_ _ _=>False) e s'->False) :
  codeAny (model P w) callerA (.call (.ref fa) ⟨[.ref a],[]⟩) (λr s'=>r=.ok (.ret (.bool true))/\OldK s₁.heap s'.heap/\s'.os=s₁.os/\AllBare s'.gens) s₁:=by
 have rv:=Lr hi;have lenV:=hi.length
 have core:∀H:Hp,Only H->Zu K H a (ns.map V.int)->Bs P w H s₁.heap->(∀b,H b≠none->b=a)->(H a≠none->K.lookup a=none) ->
   codeAny (model P w) callerA (.call (.ref fa) ⟨[.ref a],[]⟩) (λr s'=>r=.ok (.ret (.bool true))/\OldK s₁.heap s'.heap/\s'.os=s₁.os/\AllBare s'.gens) s₁:=by
  intro H hO hS hok hA hK;have base_of:∀{b:Addr} {o:Obj},s₁.heap.get? b=some o->H b=none->(Hi s₁.heap H).get? b=some o:=λe n=>Zq5 e n
  have noA:∀{b:Addr} {o:Obj} {es:Array DictEntry} {ep:Nat},s₁.heap.get? b=some o->o.data=.dict es ep->H b=none:=λ{b o es ep} e d=>by
   cases q:H b with
   | none=>rfl
   | some u =>
    have e':b=a:=hA b (by rw[q];simp);subst e';rw[ha]at e;cases e;have d':Data.seq vs.toArray _=Data.dict es ep:=d;cases d'
  have nsK:∀{b:Addr} {m:G6},s₁.heap.Ns b m->(Hi s₁.heap H).Ns b m:=λ{b m} ⟨o,es,ep,e,d,r⟩=>⟨o,es,ep,base_of e (noA e d),d,r⟩
  have hKb:K.In (Hi s₁.heap H):=λb o e=>base_of (KX b o e) (by
   cases q:H b with
   | none=>rfl
   | some u =>
    have e':b=a:=hA b (by rw[q];simp);subst e';rw[hK (by rw[q];simp)]at e;cases e)
  have hM:Mod K mg (Hi s₁.heap H):=⟨hKb,nsK hns,⟨mb,nsK hb,hbb⟩,let ⟨mc,h1,h2⟩:=hlim;⟨mc,nsK h1,h2⟩⟩;have e0:Es P w K mg (Hi s₁.heap H) callerA [] s₁ H:=⟨rfl,hM,λb o e=>Zyk e,Nat.le_of_eq (uh _ _),trivial,λb hb=>absurd (show b∈([]:ZH) from hb) QE,hok,.of_eq hg⟩;refine codeAny_mono ((F _ hKb (nsK hns)).run callerA [] s₁ H ⟨[.ref a],[]⟩ [.ref a] [.ref a] _ _ hr e0 (hbind s₁ (.ref a)) (.cons rfl .nil) (hsp H hO hS)) λr s' h=>?_;cases r with
  | error e=>exact(hCX H e s' h).elim
  | ok fl =>
   cases fl with
   | next=>exact False.elim h
   | brk=>exact False.elim h
   | cont=>exact False.elim h
   | ret u =>
    obtain⟨v,H',os,bare,un,hok',r',q⟩:=h;have q':v=.bl true:=q;subst q';obtain rfl:u=Value.bool true:=r';refine⟨rfl,OldK.of_keep λb o e=>?_,os,bare⟩;cases q:H b with
    | none=>exact un.keep b o e q (by intro z;exact absurd (show b∈([]:ZH) from z) QE) QE
    | some u =>
     rcases hO b with z | ⟨ob,xs,z⟩
     .rw[q]at z;cases z
     .have z2:=un.frzs b ob _ z;obtain⟨e1,_⟩:=hok b _ z;obtain⟨e2,_⟩:=hok' b _ z2;rw[e]at e1;cases e1;exact e2
 cases hk:K.lookup a with
 | some o =>
  have e:=KX a o hk;rw[ha]at e;cases e;refine core (λ_=>none) (λ_=>.inl rfl) (.inr ⟨_,vs.toArray,_,hk,rfl,rfl,rfl,by rw[Mw,lenV];exact hl,by simpa using rv⟩) (λb u z=>by have z':(none:Option HO)=some u:=z;cases z') (λb z=>absurd rfl z) λz=>absurd rfl z
 | none =>
  refine core (λb=>if b=a then some (.frz { cls:=.type "list",data:=.seq vs.toArray } (.lst (ns.map V.int))) else none) (λb=>?_) (.inl (.inr ⟨{ cls:=.type "list",data:=.seq vs.toArray },if_pos rfl⟩)) (λb u z=>?_) (λb z=>?_) λ_=>hk
  .by_cases hb:b=a
   .exact .inr ⟨_,_,if_pos hb⟩
   .exact .inl (if_neg hb)
  .by_cases hb:b=a
   .have z':=(if_pos hb).symm.trans z;cases z';subst hb;exact⟨ha,by rw[Yv];exact hl,vs,_,rv,ha⟩
   .have z':=(if_neg hb).symm.trans z;cases z'
  .by_cases hb:b=a
   .exact hb
   .exact absurd (if_neg hb) z
theorem Zwn{l:W.OpenLaw}{n k:Nat}{q:Program}{loose:ZF}{XP:(ZJ)->Heap->Prop}{YP:World->Heap->Prop}{d:DefRec}{K:Params->W.Frag}{CX:World->A3}{sp:World->Sp}{x:Str}
  (hn:l.most=some n) (hn2:n<=sizeLine) (hdf:d.params.defaults=[]) (hr:V8 k callerA)
  (hY:∀(w:World) (h:Heap),YP w h->(K w.params).In h)
  (F:∀(w:World) (mg:G6) (fa:Addr) (h:Heap),(K w.params).In h->h.Ns mainGlobals mg->mg d.name=some (.ref fa) ->
   ∃fd:FuncData,(∀(s:Shared) (u:Value),BindsTo s fd ⟨[u],[]⟩ [(x,u)]) /\
    ∀base:Heap,(K w.params).In base->base.Ns mainGlobals mg->Yk l.prog w (K w.params) mg base (CX w) k fa fd [x] (sp w))
  (hsp:∀(w:World) (H:Hp) (a:Addr) (ns:ZC),ns.length<=n->Only H->Zu (K w.params) H a (ns.map V.int)->sp w [.ref a] H (λv _=>v=.bl true) λ_ _ _=>False)
  (hCX:∀(w:World) (H:Hp) (s:Shared) (e:Value) (s':Shared),CX w [] H s (λ_ _ _=>False) e s'->False) :
  W.WalkO q loose XP YP l.row.toRowW d [] (λf vs=>PySem.call f vs):=by
 refine Att.zu hn hdf λw s₀ s₁ mg mb fa o pm cd doc a vs ns G Y ho hd Kk hmg hobj hints hlen hg=>?_;have KX:=hY w _ Y;obtain⟨fd,hb,hF⟩:=F w mg fa _ KX G.T.g hmg;exact Zqn KX G.T.g G.T.b G.T.builtins G.T.nolimit hg hobj hints (Vf hlen hn2) hr hF hb (λH hO hS=>hsp w H a ns hlen hO hS) λH e s'=>hCX w H s₁ e s'
abbrev Mm:A3:=λ_ _ _ _ _ _=>False
abbrev E0:XK:=λ_ _ _=>False
theorem Zxa{X:Cx}:Sf Mm X E0:=λ_ _ _ _ _ _ _ h=>h.elim
structure Fun(K:W.Frag)(x qual:Str)(st:Stmt)(f:Addr)(fd:FuncData):Prop where
 ex:∃(oc:Value) (od:ZS) (kV doc pm:Value) (an:ZS) (cdv ct:Value) (osl:ZK),
  fd=W.fnOf x qual (Gh st) (Jq st) (Zb st) .none kV doc pm an cdv ct/\K.lookup f=some ⟨oc,od,.func fd,osl⟩/\W.codeIn K cdv qual=true
 kp:W.keepIn K (.ref f)=true
section
variable{P:Program}{w:World}{K:W.Frag}{mg:G6}{base:Heap}
theorem Fun.ok{x qual:Str}{st:Stmt}{f:Addr}{fd:FuncData}{N ps:ZF}{k:Nat}{sp:Sp}(F:Fun K x qual st f fd)(S:Ze N ps (Zb st))(len:∀vs H Q E,sp vs H Q E->vs.length=ps.length)
  (Xs:∀(cdv:Value) (A:Around) (outer:List Env) (s:Shared) (H:Hp) (vs:ZZ) (Q:VK) (E:XK),V8 k (A.deeper (envOfC qual (Zb st) s.heap.objs.size f cdv))->sp vs H Q E ->
   ∃t,Ku (O3 Mm P w K mg base N qual (Zb st) f cdv A outer s H E).nox (Jq st) t/\t { nx:=λ_ H'=>Q .non H',rt:=Q } (start N vs) H):Yk P w K mg base Mm (k+1) f fd ps sp:=by
 obtain⟨oc,od,kV,doc,pm,an,cdv,ct,osl,rfl,lk,Kk⟩:=F.ex;refine Zga lk Kk S len λA outer s H vs Q E hr hsp=>?_;obtain⟨t,h,q⟩:=Xs cdv A outer s H vs Q E hr hsp;exact⟨t,h.nox,q⟩
theorem Fun.binds{x qual:Str}{st:Stmt}{f:Addr}{fd:FuncData}{ps:ZF}(F:Fun K x qual st f fd)
  (h:∀(kV doc pm:Value) (an:ZS) (cdv ct:Value) (us:ZG),us.length=ps.length->bindArgs (W.fnOf x qual (Gh st) (Jq st) (Zb st) .none kV doc pm an cdv ct) ⟨us,[]⟩=pure (ps.zip us)):Binds K fd ps []:=by
 obtain⟨oc,od,kV,doc,pm,an,cdv,ct,osl,rfl,lk,Kk⟩:=F.ex;exact .all (h kV doc pm an cdv ct)
theorem Yb{x qual:Str}{st:Stmt}{f:Addr}{oc:Value}{od an:ZS}{osl:ZK}{kV doc pm cdv ct:Value}(l:K.lookup f=some ⟨oc,od,.func (W.fnOf x qual (Gh st) (Jq st) (Zb st) .none kV doc pm an cdv ct),osl⟩)
  (c:W.codeIn K cdv qual=true) (k:W.keepIn K (.ref f)=true):Fun K x qual st f (W.fnOf x qual (Gh st) (Jq st) (Zb st) .none kV doc pm an cdv ct):=⟨⟨oc,od,kV,doc,pm,an,cdv,ct,osl,rfl,l,c⟩,k⟩
end
theorem Jo(hr:V8 k A):A.units+1<cLine:=Qe (Nat.add_le_add_left (by decide:1<=64) _) hr.units
theorem Yx(h:n<=1000):n<sizeLine:=Qe h QI
theorem sz(n:Nat)(h:n<=sizeLine:=by decide):n<=sizeLine:=h
theorem V8.m{j k:Nat}{A:Around}(r:V8 k A)(h:j<=k:=by omega):V8 j A:=r.mono h
section
variable{X:Cx}
theorem pv(i:Nat){x:Str}{pos:Pos}(hN:X.N[i]?=some x:=by rfl)(hv:Vis X.env.scope x:=by first | exact Or.inl rfl | exact Or.inr (Or.inl rfl) | exact Or.inr (Or.inr rfl))(hd:(x==("__debug__" : Str))=false:=by decide)
  (Kk:(x==("__classdict__" : Str))=false:=by decide):PE X (.Name x pos) (tVar i):=pe_var hN hv hd Kk
end
theorem Wn{A B:Prop}(h:B):if false=true then A else B:=by
 rw[if_neg Cg];exact h
theorem Wc{A B:Prop}(h:A):if true=true then A else B:=by
 rw[if_pos rfl];exact h
theorem Vb{c A B:Prop}[Decidable c](h1:c->A)(h2:¬ c->B):if c then A else B:=by
 by_cases h:c
 .rw[if_pos h];exact h1 h
 .rw[if_neg h];exact h2 h
def Zv(H H':Hp):Prop:=∀b o,H b=some o->H' b=some o
theorem Zv.refl(H:Hp):Zv H H:=λ_ _ h=>h
theorem Zv.trans{H H1 H2:Hp}(a:Zv H H1)(b:Zv H1 H2):Zv H H2:=λc o h=>b c o (a c o h)
theorem Zv.free(e:Zv H H')(h:H' l=Option.none):H l=Option.none:=by
 cases q:H l with
 | none=>rfl
 | some o =>
  rw[e l o q]at h;cases h
theorem Zv.seq{K:W.Frag}{H H':Hp}{a:Addr}{xs:ZZ}(e:Zv H H')(h:Zu K H a xs):Zu K H' a xs:=by
 rcases h with (h | ⟨o,h⟩) | h
 .exact .inl (.inl (e _ _ h))
 .exact .inl (.inr ⟨o,e _ _ h⟩)
 .exact .inr h
inductive D where
 | non | bl(b:Bool) | int(i:Int) | str(x:Str) | tup(xs:List D) | lst(xs:List D)
mutual
def Q0(K:W.Frag)(H:Hp):D->V->Prop
 | .non,v=>v=.non
 | .bl b,v=>v=.bl b
 | .int i,v=>v=.int i
 | .str x,v=>v=.str x
 | .tup ds,v=>∃a vs,v=.ref a/\Zp K H a vs/\Vg K H ds vs
 | .lst ds,v=>∃a vs,v=.ref a/\Zu K H a vs/\Vg K H ds vs
def Vg(K:W.Frag)(H:Hp):List D->ZZ->Prop
 | [],vs=>vs=[]
 | d::ds,vs=>∃v r,vs=v::r/\Q0 K H d v/\Vg K H ds r
end
theorem Vg.length{K:W.Frag}{H:Hp}:∀{ds:List D} {vs:ZZ},Vg K H ds vs->ds.length=vs.length
 | [],vs,h=>by
  have e:vs=[]:=h;subst e
  rfl
 | d::ds,vs,h=>by
  obtain⟨v,r,e,_,h2⟩:=(show ∃v r,vs=v::r/\Q0 K H d v/\Vg K H ds r from h);rw[e,R1,R1,Vg.length h2]
theorem Vg.get{K:W.Frag}{H:Hp}:∀{ds:List D} {vs:ZZ} {i:Nat} {d:D},Vg K H ds vs->ds[i]?=some d->∃v,vs[i]?=some v/\Q0 K H d v
 | [],vs,i,d,_,e=>by simp at e
 | d::ds,vs,0,d',h,e=>by
  obtain⟨v,r,rfl,h1,_⟩:=(show ∃v r,vs=v::r/\Q0 K H d v/\Vg K H ds r from h);simp at e;subst e;exact⟨v,rfl,h1⟩
 | d::ds,vs,i+1,d',h,e=>by
  obtain⟨v,r,rfl,_,h2⟩:=(show ∃v r,vs=v::r/\Q0 K H d v/\Vg K H ds r from h);obtain⟨v',e1,h3⟩:=Vg.get (i:=i) h2 (by simpa using e);exact⟨v',by simpa using e1,h3⟩
section
variable{X:Cx}{XX:Vs}{j:St}{H:Hp}{s:Shared}
theorem Inv.not_both(I:Inv X XX j H s)(h:Zu X.K H a xs)(h':Zp X.K H a ys):False:=by
 obtain⟨XJ,r,⟨o,n,e,c,_⟩,_⟩:=I.list h;obtain⟨its',r',⟨o',e',c',_⟩,_⟩:=I.tuple h';rw[e]at e';cases e';rw[c]at c'
 injection c' with c''
 exact absurd c'' QI
mutual
theorem Q0.inj(I:Inv X XX j H s):∀(d e:D) (v:V),Q0 X.K H d v->Q0 X.K H e v->d=e
 | .non,e,v,h,h'=>by
  have q:v=.non:=h;subst q;cases e with
  | non=>rfl
  | tup _=>obtain⟨_,_,z,_⟩:=h';cases z
  | lst _=>obtain⟨_,_,z,_⟩:=h';cases z
  | _=>cases Zc h'
 | .bl b,e,v,h,h'=>by
  have q:v=.bl b:=h;subst q;cases e with
  | bl c=>cases Zc h';rfl
  | tup _=>obtain⟨_,_,z,_⟩:=h';cases z
  | lst _=>obtain⟨_,_,z,_⟩:=h';cases z
  | _=>cases Zc h'
 | .int b,e,v,h,h'=>by
  have q:v=.int b:=h;subst q;cases e with
  | int c=>cases Zc h';rfl
  | tup _=>obtain⟨_,_,z,_⟩:=h';cases z
  | lst _=>obtain⟨_,_,z,_⟩:=h';cases z
  | _=>cases Zc h'
 | .str b,e,v,h,h'=>by
  have q:v=.str b:=h;subst q;cases e with
  | str c=>cases Zc h';rfl
  | tup _=>obtain⟨_,_,z,_⟩:=h';cases z
  | lst _=>obtain⟨_,_,z,_⟩:=h';cases z
  | _=>cases Zc h'
 | .tup ds,e,v,h,h'=>by
  obtain⟨a,vs,rfl,q,ar⟩:=(show ∃a vs,v=.ref a/\Zp X.K H a vs/\Vg X.K H ds vs from h);cases e with
  | tup es =>
   obtain⟨a',ws,z,q',ar'⟩:=(show ∃a' vs,V.ref a=.ref a'/\Zp X.K H a' vs/\Vg X.K H es vs from h');cases z;have e:=I.tuple_inj q q';subst e;rw[Vg.inj I ds es vs ar ar']
  | lst es =>
   obtain⟨a',ws,z,q',ar'⟩:=(show ∃a' vs,V.ref a=.ref a'/\Zu X.K H a' vs/\Vg X.K H es vs from h');cases z;exact(I.not_both q' q).elim
  | non=>cases Zc h'
  | bl _=>cases Zc h'
  | int _=>cases Zc h'
  | str _=>cases Zc h'
 | .lst ds,e,v,h,h'=>by
  obtain⟨a,vs,rfl,q,ar⟩:=(show ∃a vs,v=.ref a/\Zu X.K H a vs/\Vg X.K H ds vs from h);cases e with
  | lst es =>
   obtain⟨a',ws,z,q',ar'⟩:=(show ∃a' vs,V.ref a=.ref a'/\Zu X.K H a' vs/\Vg X.K H es vs from h');cases z;have e:=I.list_inj q q';subst e;rw[Vg.inj I ds es vs ar ar']
  | tup es =>
   obtain⟨a',ws,z,q',ar'⟩:=(show ∃a' vs,V.ref a=.ref a'/\Zp X.K H a' vs/\Vg X.K H es vs from h');cases z;exact(I.not_both q q').elim
  | non=>cases Zc h'
  | bl _=>cases Zc h'
  | int _=>cases Zc h'
  | str _=>cases Zc h'
theorem Vg.inj(I:Inv X XX j H s):∀(ds es:List D) (vs:ZZ),Vg X.K H ds vs->Vg X.K H es vs->ds=es
 | [],es,vs,h,h'=>by
  have q:vs=[]:=h;subst q;cases es with
  | nil=>rfl
  | cons e es=>obtain⟨_,_,z,_⟩:=h';cases z
 | d::ds,es,vs,h,h'=>by
  obtain⟨v,r,rfl,h1,h2⟩:=(show ∃v r,vs=v::r/\Q0 X.K H d v/\Vg X.K H ds r from h);cases es with
  | nil=>cases Zc h'
  | cons e es =>
   obtain⟨v',r',z,h1',h2'⟩:=(show ∃v' r',v::r=v'::r'/\Q0 X.K H e v'/\Vg X.K H es r' from h');cases z;rw[Q0.inj I d e v h1 h1',Vg.inj I ds es r h2 h2']
end
end
section
variable{X:Cx}
end
abbrev noE:ZQ:=λ_ _=>False
noncomputable def kr(ifs:ZD)(env:Env):Sem Bool :=
 forIn ifs true λc r=>if r=true then (isTrue c env (eval c env) >>= λb=>pure (ForInStep.yield b)) else pure (ForInStep.yield r)
section
variable(prog:Program)(w:World)(A:Around)(tg elt:Expr)(ifs:ZD)(env:Env)(it acc:Value)(E:Ya)
def Sy(nxt:Shared->Prop)(ok:Bool)(s:Shared):Prop :=
 if ok=true then wpAny (model prog w) A (eval elt env) (λy s1=>wpAny (model prog w) A (call (.builtin "list.append") [acc,y]) (λ_ s2=>nxt s2) E s1) E s else nxt s
def cv(nxt:Shared->Prop)(v:Value)(s:Shared):Prop :=
 wpAny (model prog w) A (letOwnedTupleGo tg it v) (λ_ s1=>wpAny (model prog w) A (assign tg env v) (λ_ s2=>wpAny (model prog w) A (kr ifs env) (Sy prog w A elt env acc E nxt) E s2) E s1) E s
end
theorem Ef(hE:∀v s,E v s->notedBy (model prog w) A env (λe s'=>R (.error e) s') v s)(W:Nat->Shared->Prop)
  (turn:∀m s1,W m s1->wpAny (model prog w) A (pyNext it) (λr s2=>r.elim (R (.ok .next) s2) λv=>cv prog w A tg elt ifs env it acc E (λs3=>∃m',m'<m/\W m' s3) v s2) E s1)
  (m:Nat) (start:W m s):codeAny (model prog w) A (.compLoop (.ListComp elt [⟨tg,iter,ifs,0⟩] scope pos) 0 it acc env) R s:=by
 refine codeAny_loop rfl W (λk s1 hw=>?_) m start;refine wpAny_noted (env:=env) (m:=compTurn (.ListComp elt [⟨tg,iter,ifs,0⟩] scope pos) 0 it acc env) ?_;rw[compTurn_list];refine Zn (wpAny_standAt (Zn (wpAny_mono (turn k s1 hw) (λr s2 q=>?_) λv s z=>hE v s z)));cases r with
 | none=>exact Z4 q
 | some v =>
  have q:cv prog w A tg elt ifs env it acc E (λs3=>∃m',m'<k/\W m' s3) v s2:=q;refine Zn (wpAny_mono q (λ_ s3 q3=>Zn (wpAny_mono q3 (λ_ s4 q4=>Zn (wpAny_mono q4 (λok s5 q5=>?_) λv s z=>hE v s z)) λv s z=>hE v s z)) λv s z=>hE v s z);cases ok with
  | false=>exact Z4 ⟨rfl,q5⟩
  | true=>exact Zn (Zn (wpAny_mono q5 (λy s6 q6=>Zn (wpAny_mono q6 (λ_ s7 q7=>Z4 (Z4 ⟨rfl,q7⟩)) λv s z=>hE v s z)) λv s z=>hE v s z))
noncomputable def V5(env:Env):ZV->List (Str×Addr)->List (Str×Addr)
 | [],cs=>cs
 | (n,k)::r,cs=>V5 env r (if k==.free then (n,(env.cells.lookup n).getD 0)::cs else cs)
noncomputable def Z6(X:Cx)(scope:Scope)(N:ZF)(fp:ZH)(s:Shared)(H:Hp):Cx :=
 { X with N:=N,s₀:=s,H₀:=H,env:=compEnvC scope (V5 X.env scope.names []) s.heap.objs.size X.env,outer:=X.stack,stack:=X.stack,ex:=fp,fn:=λ_=>false,pn:=[],xe:=noE }
structure Ae(X:Cx)(scope:Scope)(N:ZF)(fr:ZY):Prop where
 clos:closureFor scope X.env=pure (V5 X.env scope.names [])
 kind:scope.kind=.function
 nocell:∀y∈scope.names,y.2≠.cell
 names:∀y∈scope.names,y.2=.local->scope.names.lookup y.1=some .local
 cells:∀x c,(V5 X.env scope.names []).lookup x=some c->X.env.cells.lookup x=some c
 has:∀x,((relabel scope X.env).names.lookup x=some .cell\/(relabel scope X.env).names.lookup x=some .free)->∃c,(V5 X.env scope.names []).lookup x=some c
 len:fr.length=N.length
 fr:∀(i j:Nat),fr[i]?=some (some j)->∃x,N[i]?=some x/\X.N[j]?=some x/\Vis X.env.scope x/\¬ X.env.kindOf x=some .local/\((relabel scope X.env).names.lookup x=some .cell\/(relabel scope X.env).names.lookup x=some .free)
noncomputable def frees(fr:ZY)(j:St):St:=fr.map λo=>o.bind λi=>(j[i]?).bind id
theorem Aj(fr:ZY)(j:St):(frees fr j).length=fr.length:=Yv _
theorem ue{i:Nat}(h:(frees fr Z)[i]?=some (some v)):∃j,fr[i]?=some (some j)/\Z[j]?=some (some v):=by
 unfold frees at h;rw[Jb]at h;cases e:fr[i]? with
 | none=>rw[e]at h;cases h
 | some o =>
  rw[e]at h;cases o with
  | none=>cases h
  | some j =>
   refine⟨j,rfl,?_⟩;have h':(Z[j]?).bind id=some v:=Fk h;cases e2:Z[j]? with
   | none=>rw[e2]at h';cases h'
   | some o2=>rw[e2]at h';exact congrArg some h'
theorem Fp(h:(relabel scope env).names.lookup x=some k):∃k0,(x,k0)∈scope.names/\(k=k0\/(k0=.free/\k=.cell)):=by
 have hm:=PySem.mem_of_lookup h;obtain⟨⟨n,k0⟩,h1,h2⟩:=G3.mp (show (x,k)∈scope.names.map _ from hm);dsimp only at h2
 split at h2
 .rename_i hc
  cases h2;simp only[oj,beq_iff_eq]at hc;exact⟨k0,h1,.inr ⟨hc.1.1,rfl⟩⟩
 .cases h2;exact⟨k,h1,.inl rfl⟩
noncomputable def scOk(outer scope:Scope):Bool :=
 decide (scope.kind=.function)&&scope.names.all λy=>decide (y.2≠.cell)&&(decide (y.2≠.local) || decide (scope.names.lookup y.1=some .local)) &&
  (decide (y.2≠.free) || decide (outer.names.lookup y.1=some .cell) || decide (outer.names.lookup y.1=some .free))
noncomputable def W6(NX:ZF)(names:ZV):ZF->ZY->Bool
 | [],[]=>true
 | _::N,none::fr=>W6 NX names N fr
 | x::N,some j::fr=>decide (NX[j]?=some x)&&decide (names.lookup x=some .free)&&W6 NX names N fr
 | _,_=>false
theorem Oi:∀{N:ZF} {fr:ZY},W6 NX names N fr=true->fr.length=N.length
 | [],[],_=>rfl
 | [],_::_,h=>by simp[W6]at h
 | _::_,[],h=>by simp[W6]at h
 | x::N,none::fr,h=>by
  simp only[W6]at h;simp only[R1,Oi h]
 | x::N,some j::fr,h=>by
  simp only[W6,oj]at h;simp only[R1,Oi h.2]
theorem Oe:∀{N:ZF} {fr:ZY} {i j:Nat},W6 NX names N fr=true->fr[i]?=some (some j)->∃x,N[i]?=some x/\NX[j]?=some x/\names.lookup x=some .free
 | [],[],_,_,_,e=>by simp at e
 | [],_::_,_,_,h,_=>by simp[W6]at h
 | _::_,[],_,_,h,_=>by simp[W6]at h
 | x::N,none::fr,0,_,_,e=>by simp at e
 | x::N,none::fr,i+1,j,h,e=>by
  simp only[W6]at h;obtain⟨y,h1,h2⟩:=Oe (i:=i) h (by simpa using e);exact⟨y,by simpa using h1,h2⟩
 | x::N,some k::fr,0,j,h,e=>by
  simp only[W6,oj,decide_eq_true_eq]at h;simp at e;subst e;exact⟨x,rfl,h.1.1,h.1.2⟩
 | x::N,some k::fr,i+1,j,h,e=>by
  simp only[W6,oj]at h;obtain⟨y,h1,h2⟩:=Oe (i:=i) h.2 (by simpa using e);exact⟨y,by simpa using h1,h2⟩
theorem Bt{f:Str->NameKind->NameKind}(x:Str):∀names:ZV,(names.map λp=>(p.1,f p.1 p.2)).lookup x=(names.lookup x).map (f x)
 | []=>rfl
 | (n,k)::r=>by
  have ih:=Bt (f:=f) x r;cases e:x==n with
  | false =>
   simp only[Mu,List.lookup_cons,e];exact ih
  | true =>
   have e':x=n:=by simpa using e
   simp only[Mu,List.lookup_cons,e,Option.map_some];rw[e']
theorem S0(scope:Scope)(env:Env):(relabel scope env).names=scope.names.map λp=>(p.1,if (p.2==NameKind.free&&env.scope.kind==.function&&env.kindOf p.1==some .cell)=true then NameKind.cell else p.2):=by
 show scope.names.map _=_;refine List.map_congr_left λp _=>?_;obtain⟨n,k⟩:=p;dsimp only
 split<;>rfl
theorem Cf(h:scope.names.lookup x=some .free):(relabel scope env).names.lookup x=some .cell\/(relabel scope env).names.lookup x=some .free:=by
 rw[S0,Bt (f:=λn k=>if (k==NameKind.free&&env.scope.kind==.function&&env.kindOf n==some .cell)=true then NameKind.cell else k),h];dsimp only[Option.map_some]
 split
 .exact .inl rfl
 .exact .inr rfl
theorem O6:∀{names:ZV} {cs:List (Str×Addr)},(∀y∈names,y.2=.free->∃c,env.cells.lookup y.1=some c)->(∀p∈cs,env.cells.lookup p.1=some p.2)->∀p∈V5 env names cs,env.cells.lookup p.1=some p.2
 | [],cs,_,hc,p,hp=>hc p hp
 | (n,k)::r,cs,hn,hc,p,hp=>by
  simp only[V5]at hp;refine O6 (λy hy=>hn y (Ck _ hy)) (λq hq=>?_) p hp
  split at hq
  .rename_i hk
   rcases U8.mp hq with e | hq
   .obtain⟨c,dz⟩:=hn (n,k) Br (by simpa using hk);subst e;dsimp only at dz ⊢;rw[dz]
    rfl
   .exact hc q hq
  .exact hc q hq
theorem O5:∀{names:ZV} {cs:List (Str×Addr)} {p:Str×Addr},p∈cs->p∈V5 env names cs
 | [],_,_,h=>h
 | (n,k)::r,cs,p,h=>by
  simp only[V5];refine O5 ?_
  split
  .exact Ck _ h
  .exact h
theorem O7:∀{names:ZV} {cs:List (Str×Addr)} {x:Str},(x,NameKind.free)∈names->∃c,(x,c)∈V5 env names cs
 | (n,k)::r,cs,x,h=>by
  rcases U8.mp h with e | h
  .cases e;exact⟨_,by simp only[V5,B0s,if_true];exact O5 Br⟩
  .simp only[V5];exact O7 h
theorem Cp{j:Type}:∀{l:List (Str×j)} {x:Str} {b:j},(x,b)∈l->∃c,l.lookup x=some c
 | (n,c)::r,x,b,h=>by
  cases hx:x==n with
  | true=>exact⟨c,by simp only[List.lookup_cons,hx]⟩
  | false =>
   rcases U8.mp h with e | h
   .cases e;simp at hx
   .obtain⟨d,hd⟩:=Cp h;exact⟨d,by simp only[List.lookup_cons,hx];exact hd⟩
theorem Eb(h:∀y∈scope.names,y.2=.free->∃c,env.cells.lookup y.1=some c):closureFor scope env=pure (V5 env scope.names []):=by
 have go:∀(names:ZV) (cs:List (Str×Addr)),(∀y∈names,y.2=.free->∃c,env.cells.lookup y.1=some c) ->
   (forIn names cs λx cs=>(do
    if x.2==NameKind.free then pure (ForInStep.yield ((x.1, <-cellOf env x.1)::cs)) else pure (ForInStep.yield cs):Sem (ForInStep (List (Str×Addr)))))=pure (V5 env names cs):=by
  intro names
  induction names with
  | nil=>intro cs _;rfl
  | cons y r ih =>
   intro cs hn;obtain⟨n,k⟩:=y;have hr:∀y∈r,y.2=.free->∃c,env.cells.lookup y.1=some c:=λy hy=>hn y (Ck _ hy);rw[List.forIn_cons];by_cases hk:k=.free
   .subst hk;obtain⟨c,hc⟩:=hn (n,.free) Br rfl
    have ec:cellOf env n=pure c:=by
     unfold cellOf;dsimp only at hc;rw[hc]
    simp only[B0s,if_true,ec,pure_bind,V5];rw[ih _ hr];dsimp only at hc;rw[hc]
    rfl
   .have hb:(k==NameKind.free)=false:=by simpa using hk
    simp only[hb,xp,if_false,pure_bind,V5];exact ih _ hr
 have:=go scope.names [] h;unfold closureFor;simp only[bind_pure_comp]at this ⊢
 first
  | exact this
  | (simpa using this)
structure Bg(X:Cx)(NX:ZF)(outer scope:Scope)(N:ZF)(fr:ZY):Prop where
 nx:X.N=NX
 sc:X.env.scope.names=outer.names
 ok1:scOk outer scope=true
 ok2:W6 NX scope.names N fr=true
theorem Bg.ok{X:Cx}{NX:ZF}{outer scope:Scope}{N:ZF}{fr:ZY}(C:Bg X NX outer scope N fr)(ok:X.Ok):Ae X scope N fr:=by
 have h1:=C.ok1;unfold scOk at h1;simp only[oj,decide_eq_true_eq,A0t,Bool.or_eq_true]at h1;obtain⟨hk,hn⟩:=h1
 have kof:∀x,X.env.kindOf x=outer.names.lookup x:=λx=>by
  show X.env.scope.names.lookup x=_;rw[C.sc]
 have Xn:∀y∈scope.names,y.2=.free->X.env.kindOf y.1=some .cell\/X.env.kindOf y.1=some .free:=λy hy e=>by
  rcases(hn y hy).2 with (z | z) | z
  .exact absurd e z
  .exact .inl ((kof _).trans z)
  .exact .inr ((kof _).trans z)
 have Xr:∀y∈scope.names,y.2=.free->∃c,X.env.cells.lookup y.1=some c:=λy hy e=>ok.has y.1 (Xn y hy e);refine⟨Eb Xr,hk,λy hy=>(hn y hy).1.1,λy hy e=>?_,λx c e=>?_,λx h=>?_,Oi C.ok2,λi j e=>?_⟩
 .rcases(hn y hy).1.2 with z | z
  .exact absurd e z
  .exact z
 .exact O6 Xr (λp hp=>by cases hp) (x,c) (PySem.mem_of_lookup e)
 .have hm:(x,NameKind.free)∈scope.names:=by
   rcases h with h | h
   .obtain⟨k0,h1,h2⟩:=Fp h;rcases h2 with h2 | ⟨h2,_⟩
    .exact absurd h2.symm (hn _ h1).1.1
    .subst h2;exact h1
   .obtain⟨k0,h1,h2⟩:=Fp h;rcases h2 with h2 | ⟨_,h2⟩
    .subst h2;exact h1
    .cases h2
  obtain⟨c,hc⟩:=O7 (env:=X.env) (cs:=[]) hm;exact Cp hc
 .obtain⟨x,q1,q2,q3⟩:=Oe C.ok2 e;have hm:=PySem.mem_of_lookup q3;have hf:=Xn (x,.free) hm rfl;refine⟨x,q1,by rw[C.nx];exact q2,?_,?_,Cf q3⟩
  .exact .inr hf
  .intro z;dsimp only at hf;rw[z]at hf;rcases hf with hf | hf<;>cases hf
section
variable{X:Cx}{scope:Scope}{N:ZF}{fr:ZY}{XX:Vs}{Z:St}{H:Hp}{s:Shared}{fp:ZH}
theorem Zqe(C:Ae X scope N fr)(I:Inv X XX Z H s)(hf:∀b∈fp,Nt X XX H b)(hob:∀b∈fp,∃o,s.heap.get? b=some o)
  (hns:h1.Ns s.heap.objs.size λ_=>none) (hk:∀b o,s.heap.get? b=some o->h1.get? b=some o) :
  Inv (Z6 X scope N fp s H) [] (frees fr Z) H { s with heap:=h1,toks:=tk }:=by
 have lt:∀b∈fp,b<s.heap.objs.size:=λb hb=>let ⟨_,e⟩:=hob b hb;Ut e;have cellK:∀x c,(V5 X.env scope.names []).lookup x=some c->∃v,s.heap.IsCell c v:=λx c e=>I.cell x c (C.cells x c e);have ck:∀c v,s.heap.IsCell c v->h1.IsCell c v:=λc v ⟨o,e,d⟩=>⟨o,hk c o e,d⟩
 refine⟨⟨I.ok.mod,C.kind,I.ok.glob,I.ok.blt,Yt _,λx y c e1 e2=>I.ok.inj x y c (C.cells x c e1) (C.cells y c e2),λx h=>C.has x h,λx c h _=>absurd h Cg,I.ok.hd,I.ok.frames,.inl rfl,
   λb hb=>⟨Nj (lt b hb),λx c e=>(hf b hb).2.2.2.2.1 x c (C.cells x c e)⟩,I.bs,Vf I.ok.bsz I.sz,λb o e hb=>?_,λb hb hb'=>?_,I.stack,I.stkFree⟩,
  rfl,I.bare,Un.kept hk,⟨_,hns,λi x v e1 e2 e3=>?_⟩,λx c e=>?_,I.hok.fresh (Yt _),λx c e=>I.freeC x c (C.cells x c e),λp hp=>absurd (show p∈([]:Vs) from hp) QE,I.hok.kept hk,?_⟩
 .rcases(hf b hb).2.2.2.1 with z | z
  .exact I.ok.noex b o e z
  .exact absurd (R0 (Ut (I.ok.bs b o e).1) z) (Nat.lt_irrefl _)
 .rcases U8.mp (I.stkSub b hb') with z | z
  .exact(hf b hb).2.1 z
  .exact(hf b hb).2.2.1 z
 .obtain⟨j,q1,q2⟩:=ue e2;obtain⟨x',n1,n2,vis,nl,k⟩:=C.fr i j q1;have ex:x=x':=Fk (e1.symm.trans n1);subst ex;obtain⟨m,hm,hl⟩:=I.loc;obtain⟨u,r,l⟩:=hl j x v n2 q2 vis;refine⟨u,r,?_⟩;rcases l with ⟨l1,_⟩ | ⟨_,c,l2,l3⟩
  .exact absurd l1 nl
  .obtain⟨c',dz⟩:=C.has x k;have ec:=C.cells x c' dz;rw[l2]at ec;have ec':c=c':=Fk ec;subst ec';exact .inr ⟨k,c,dz,ck c _ l3⟩
 .obtain⟨v,z⟩:=cellK x c e;exact⟨v,ck c v z⟩
 .show (frees fr Z).length=N.length;rw[Aj,C.len]
theorem Of(I:Inv X XX Z H s)(hf:∀b∈fp,Nt X XX H b)(J:Inv (Z6 X scope N fp s H) [] σ' H' s'):Inv X XX Z H' s' :=
 I.call' (ch:=fp) J.os J.base J.hok J.bare λb hb=>⟨(hf b hb).2.2.2.1,(hf b hb).2.1,(hf b hb).2.2.2.2.1,(hf b hb).2.2.2.2.2⟩
end
def PTs(X:Cx)(ifs:ZD)(t:TT):Prop :=
 ∀(XX:Vs) (s:Shared) (j:St) (H:Hp) (Q:Bool->Hp->Prop),Inv X XX j H s->t j H Q ->
  wpAny (model X.prog X.w) X.A (kr ifs X.env) (TP X XX j Q) X.xe s
def T3:TT:=λ_ H Q=>Q true H
theorem Yp{X:Cx}:PTs X [] T3:=λ_ _ _ H _ I h=>wpAny_tests_nil ⟨H,I,h⟩
theorem Gn{X:Cx}{c:Expr}{t:TT}(h:PT X c t):PTs X [c] t:=λXX s j H Q I hw=>wpAny_tests_one (h XX s j H Q I hw)
def Nn(J:It)(g:TG)(tt:TT)(te:TE)(D:Addr)(W:Nat->Nat->ZZ->St->Hp->Prop)(fin:Hp->Prop):Prop :=
 ∀i m ys j H,W i m ys j H->H D=some (.lst ys)/\((J.stop i H/\fin H)\/(J.go i H/\∃N:ZZ->St->Hp->Prop,(∀ys' σ' H',N ys' σ' H'->∃m',m'<m/\W (i+1) m' ys' σ' H') /\
  ∀x H',J.yld i H x H'->g x j H' λσ2 H2=>tt σ2 H2 λok H3 =>
   if ok=true then te σ2 H3 λy H4=>H4 D=some (.lst ys)/\ys.length<sizeLine/\N (ys++[y]) σ2 (upd H4 D (.lst (ys++[y]))) else N ys σ2 H3))
abbrev DG:=ZH->Shared->Hp->TG
abbrev DT:=ZH->Shared->Hp->TT
abbrev DE:=ZH->Shared->Hp->TE
def A8(wi:TI)(fr:ZY)(g:DG)(tt:DT)(te:DE):TE:=λj H Q=>wi j H λJ H1=>∀D fp sx,H1 D=none ->
 ∃W:Nat->Nat->ZZ->St->Hp->Prop,(∃m,W 0 m [] (frees fr j) (upd H1 D (.lst [])))/\Nn J (g fp sx (upd H1 D (.lst []))) (tt fp sx (upd H1 D (.lst []))) (te fp sx (upd H1 D (.lst []))) D W (λH=>Q (.ref D) H)
section
variable{X:Cx}{scope:Scope}{N:ZF}{fr:ZY}{tg elt iter:Expr}{ifs:ZD}{pos:Pos}{wi:TI}{g:DG}{tt:DT}{te:DE}
theorem Km{tn:Nat->Heap->Prop}{RR:Value->Addr->Result->Shared->Prop}{xe:ZH->Shared->Hp->Value->Shared->Prop}
  (hc:X.calm=true) (C:Ae X scope N fr)
  (hg:∀fp s H,PG ((Z6 X scope N fp s H).wish (xe fp s H)) tg (g fp s H)) (ht:∀fp s H,PTs ((Z6 X scope N fp s H).wish (xe fp s H)) ifs (tt fp s H)) (he:∀fp s H,PE ((Z6 X scope N fp s H).wish (xe fp s H)) elt (te fp s H))
  (I2:Inv X XX j H2 s2) (T:Turn X.prog X.w X.K tg J fp it tn) (qk:tn 0 s2.heap) (f2:∀b∈fp,Nt X XX H2 b) {fin:Addr->Hp->Prop}
  (hW:∀D fp sx,H2 D=none->∃W:Nat->Nat->ZZ->St->Hp->Prop,(∃m,W 0 m [] (frees fr j) (upd H2 D (.lst [])))/\Nn J (g fp sx (upd H2 D (.lst []))) (tt fp sx (upd H2 D (.lst []))) (te fp sx (upd H2 D (.lst []))) D W (fin D))
  (vm:∀D Cc s' σ' H' m,Inv X XX j H' s'->H' Cc=none->Cc≠X.env.locals->Cc∉X.fs->X.s₀.heap.objs.size<=Cc->(∀x c,X.env.cells.lookup x=some c->c≠Cc)->(∀p∈X.pn++XX,p.1≠Cc)->s'.heap.Ns Cc m->fin D H' ->
   RR (.ref D) Cc (.ok σ') s')
  (herr:∀D S3 H3,Inv X XX j H3 S3->(∀b∈fp,Nt X XX H3 b)->∀v s',xe fp S3 H3 v s'->notedBy (model X.prog X.w) X.A (Z6 X scope N fp S3 H3).env (λe s''=>RR (.ref D) S3.heap.objs.size (.error e) s'') v s') :
  wpAny (model X.prog X.w) X.A (newList []) (λacc s₃=>wpAny (model X.prog X.w) X.A (newFunctionEnv scope X.env.globals (V5 X.env scope.names []) [] X.env.qual none .none (some X.env)) (λcenv s₄ =>
   codeAny (model X.prog X.w) X.A (.compStart (.ListComp elt [⟨tg,iter,ifs,0⟩] scope pos) 0 (.ref it) acc { cenv with scope:=relabel scope X.env }) (RR acc cenv.locals) s₄) E s₃) E s2:=by
 refine wpAny_newObj_type (wpAny_newFunctionEnv C.nocell (by intro y hy;simp at hy) (λh₁ hns₁ hsb₁=>?_) C.kind);dsimp only at hns₁ hsb₁ ⊢
 have I3:Inv X XX j (upd H2 s2.heap.objs.size (.lst [])) { s2 with heap:=s2.heap.push { cls:=.type "list",dict:=none,data:=.seq ([]:ZG).toArray } } :=
  I2.laid (t':=s2.toks) (λb o e=>Uz _ e) (Yt _) ⟨Dc _,[],0,.nil,M7 _ rfl⟩
 have hD:H2 s2.heap.objs.size=none:=I2.hok.fresh (Yt _);obtain⟨W,⟨m0,w0⟩,turn⟩:=hW _ fp { s2 with heap:=s2.heap.push { cls:=.type "list",dict:=none,data:=.seq ([]:ZG).toArray } } hD;generalize hDD:s2.heap.objs.size=D at *;generalize hS3:({ s2 with heap:=s2.heap.push { cls:=.type "list",dict:=none,data:=.seq ([]:ZG).toArray } }:Shared)=S3 at *;have hS3h:s2.heap.push { cls:=.type "list",dict:=none,data:=.seq ([]:ZG).toArray }=S3.heap:=by rw[<-hS3]
 rw[hS3h]at hns₁ hsb₁ ⊢;have obj2:=T.obj 0 _ qk
 have nD:∀b∈fp,b≠D:=λb hb z=>by
  obtain⟨o,e,_⟩:=obj2 b hb;have q:=Ut e;rw[hDD,z]at q;exact absurd q (Nat.lt_irrefl _)
 have f3:∀b∈fp,Nt X XX (upd H2 D (.lst [])) b:=λb hb=>⟨by rw[Zm (nD b hb)];exact(f2 b hb).1,(f2 b hb).2⟩
 have ob3:∀b∈fp,∃o,S3.heap.get? b=some o:=λb hb=>by
  obtain⟨o,e,_⟩:=obj2 b hb;exact⟨o,by rw[<-hS3h];exact Uz _ e⟩
 have st3:tn 0 S3.heap:=T.keep _ _ _ qk λb hb o e=>by rw[<-hS3h];exact Uz _ e
 have hk1:∀b o,S3.heap.get? b=some o->h₁.get? b=some o:=λb o e=>hsb₁.extBut b o (Nj (Ut e)) (Uz _ e);have J1:Inv (Z6 X scope N fp S3 (upd H2 D (.lst []))) [] (frees fr j) (upd H2 D (.lst [])) { S3 with heap:=h₁,toks:=s2.toks+([]:List (Str×Value)).length }:=Zqe C I3 f3 ob3 hns₁ hk1;have st4:tn 0 h₁:=T.keep _ _ _ st3 λb hb o e=>hk1 b o e;have es:({ s2 with heap:=h₁,toks:=s2.toks+([]:List (Str×Value)).length }:Shared)={ S3 with heap:=h₁,toks:=s2.toks+([]:List (Str×Value)).length }:=by rw[<-hS3]
 have FpC:∀{H':Hp},(∀b∈fp,H' b=none)->∀b∈fp,Nt (Z6 X scope N fp S3 (upd H2 D (.lst []))) [] H' b:=λhn b hb =>
  ⟨hn b hb,(J1.ok.exf b hb).1,J1.ok.exfs b hb,.inl hb,(J1.ok.exf b hb).2,λp hp=>absurd (show p∈([]:Vs) from hp) QE⟩
 have loop:codeAny (model X.prog X.w) X.A (.compLoop (.ListComp elt [⟨tg,iter,ifs,0⟩] scope pos) 0 (.ref it) (.ref D) (Z6 X scope N fp S3 (upd H2 D (.lst []))).env) (RR (.ref D) S3.heap.objs.size)
   { S3 with heap:=h₁,toks:=s2.toks+([]:List (Str×Value)).length }:=by
  refine Ef (E:=(xe fp S3 (upd H2 D (.lst [])))) (herr D S3 _ I3 f3) (λn s'=>∃i ys σ' H',Inv (Z6 X scope N fp S3 (upd H2 D (.lst []))) [] σ' H' s'/\tn i s'.heap/\(∀b∈fp,H' b=none)/\W i n ys σ' H') ?_ m0 ⟨0,[],_,_,J1,st4,λb hb=>(f3 b hb).1,w0⟩;rintro n s5 ⟨i,ys,σ5,H5,J5,st5,fr5,w5⟩;obtain⟨hDl,alt⟩:=turn i n ys σ5 H5 w5;rcases alt with ⟨stop,fi⟩ | ⟨go,NN,hNN,step⟩
  .refine Y7 (T.done (Z6 X scope N fp S3 (upd H2 D (.lst []))) rfl rfl rfl hc i [] s5 σ5 H5 (xe fp S3 (upd H2 D (.lst []))) J5 (FpC fr5) st5 stop) λr s6 ⟨hr,J6⟩=>?_;subst hr;show RR (.ref D) S3.heap.objs.size (.ok .next) s6;have I6:=Of I3 f3 J6;obtain⟨mm,hmm,_⟩:=J6.loc;refine vm D _ s6 _ H5 mm I6 J6.free ?_ ?_ ?_ ?_ ?_ hmm fi
   .exact Nat.ne_of_gt I3.lt
   .exact I3.nofs (Yt _)
   .exact I3.sz
   .intro x c e z;obtain⟨v,q⟩:=I3.cell x c e;exact absurd q.lt (by rw[z];exact Nat.lt_irrefl _)
   .intro p hp z;exact absurd (Ut (I3.pin p hp).1) (by rw[z];exact Nat.lt_irrefl _)
  .refine Y7 (T.item (Z6 X scope N fp S3 (upd H2 D (.lst []))) rfl rfl rfl hc i [] s5 σ5 H5 (xe fp S3 (upd H2 D (.lst []))) J5 (FpC fr5) st5 go) λr s6 ⟨u,hr,h6⟩=>?_;subst hr;refine Y7 (Q:=_) h6 λ_ s7 ⟨x,H7,J7,r7,y7,st7,fr7⟩=>?_;have J7':=J7.pinned (FpC fr7) (T.obj _ _ st7)
   have back:∀{σ9:St} {H9:Hp} {s9:Shared},Inv (Z6 X scope N fp S3 (upd H2 D (.lst []))) ([]++Pn fp s7.heap) σ9 H9 s9->tn (i+1) s9.heap/\∀b∈fp,H9 b=none:=λ{σ9 H9 s9} J9 =>
    ⟨T.keep _ _ _ st7 λb hb o e=>(J9.pin (b,o) (nj _ (nj _ (N4 hb e)))).1,λb hb=>by
     obtain⟨o,e,d⟩:=T.obj _ _ st7 b hb;exact(J9.pin (b,o) (nj _ (nj _ (N4 hb e)))).2.1⟩
   refine Y7 (hg fp S3 _ _ s7 σ5 H7 x u _ (J7'.wish _) r7 (step x H7 y7)) λ_ s8 ⟨σ8,H8,J8,q8⟩=>?_;refine Y7 (ht fp S3 _ _ s8 σ8 H8 _ J8 q8) λok s9 ⟨H9,J9w,q9⟩=>?_;have J9:=J9w.unwish;cases ok with
   | false =>
    rw[if_neg Cg]at q9;unfold Sy;rw[if_neg Cg];obtain⟨m',hm,w9⟩:=hNN _ _ _ q9;exact⟨m',hm,i+1,ys,σ8,H9,J9.unpinned,(back J9).1,(back J9).2,w9⟩
   | true =>
    rw[if_pos rfl]at q9;unfold Sy;rw[if_pos rfl];refine Y7 (he fp S3 _ _ s9 σ8 H9 _ J9w q9) λyv Pk ⟨y,H10,J10,r10,hD10,hz,n10⟩=>?_;obtain⟨m',hm,w10⟩:=hNN _ _ _ n10;refine Y7 (Ux (X:=(Z6 X scope N fp S3 (upd H2 D (.lst []))).wish (xe fp S3 (upd H2 D (.lst [])))) _ Pk σ8 H10 (.ref D) [y] (.ref D) [yv] (λ_ H'=>H'=upd H10 D (.lst (ys++[y]))) J10 rfl (.cons r10 .nil) ⟨D,ys,y,rfl,rfl,hD10,hz,rfl⟩) λ_ s11 ⟨v11,H11,J11w,_,e11⟩=>?_;have J11:=J11w.unwish;subst e11;exact⟨m',hm,i+1,ys++[y],σ8,_,J11.unpinned,(back J11).1,(back J11).2,w10⟩
 rw[es];exact codeAny_compStart_list loop (T.self _ 0 _ _ _ st4 loop)
theorem X8{tn:Nat->Heap->Prop}{RR:Value->Addr->Result->Shared->Prop}
  (hc:X.calm=true) (C:Ae X scope N fr)
  (hg:∀fp s H,PG (Z6 X scope N fp s H) tg (g fp s H)) (ht:∀fp s H,PTs (Z6 X scope N fp s H) ifs (tt fp s H)) (he:∀fp s H,PE (Z6 X scope N fp s H) elt (te fp s H))
  (I2:Inv X XX j H2 s2) (T:Turn X.prog X.w X.K tg J fp it tn) (qk:tn 0 s2.heap) (f2:∀b∈fp,Nt X XX H2 b) {fin:Addr->Hp->Prop}
  (hW:∀D fp sx,H2 D=none->∃W:Nat->Nat->ZZ->St->Hp->Prop,(∃m,W 0 m [] (frees fr j) (upd H2 D (.lst [])))/\Nn J (g fp sx (upd H2 D (.lst []))) (tt fp sx (upd H2 D (.lst []))) (te fp sx (upd H2 D (.lst []))) D W (fin D))
  (vm:∀D Cc s' σ' H' m,Inv X XX j H' s'->H' Cc=none->Cc≠X.env.locals->Cc∉X.fs->X.s₀.heap.objs.size<=Cc->(∀x c,X.env.cells.lookup x=some c->c≠Cc)->(∀p∈X.pn++XX,p.1≠Cc)->s'.heap.Ns Cc m->fin D H' ->
   RR (.ref D) Cc (.ok σ') s') :
  wpAny (model X.prog X.w) X.A (newList []) (λacc s₃=>wpAny (model X.prog X.w) X.A (newFunctionEnv scope X.env.globals (V5 X.env scope.names []) [] X.env.qual none .none (some X.env)) (λcenv s₄ =>
   codeAny (model X.prog X.w) X.A (.compStart (.ListComp elt [⟨tg,iter,ifs,0⟩] scope pos) 0 (.ref it) acc { cenv with scope:=relabel scope X.env }) (RR acc cenv.locals) s₄) E s₃) E s2 :=
 Km (xe:=λ_ _ _=>noE) hc C hg ht he I2 T qk f2 hW vm λ_ _ _ _ _ _ _ z=>z.elim
theorem Zv3(hc:X.calm=true)(hi:PI X tg iter wi)(C:Bg X NX outer scope N fr)
  (hg:∀fp s H,PG (Z6 X scope N fp s H) tg (g fp s H)) (ht:∀fp s H,PTs (Z6 X scope N fp s H) ifs (tt fp s H)) (he:∀fp s H,PE (Z6 X scope N fp s H) elt (te fp s H))
  (hs:∀x,foldedSetIterable iter X.env x=pure x:=by intro _;rfl):PE X (.ListComp elt [⟨tg,iter,ifs,0⟩] scope pos) (A8 wi fr g tt te):=by
 intro XX s j H Q I h;have C:=C.ok I.ok;rw[eval_ListComp];refine wpAny_comprehension_free (use:=none) rfl hs C.clos C.kind C.names (Y7 (hi XX s j H _ I h) λv s1 h1=>Y7 h1 λitv s2 h2=>?_);obtain⟨it,fp,tn,J,H2,e,I2,T,qk,f2,hW⟩:=h2;subst e;refine X8 (RR:=λacc Cc=>compPost (model X.prog X.w) X.A X.xe none (EP X XX j Q) acc Cc) hc C hg ht he I2 T qk f2 hW ?_;intro D Cc s' fl H' m I' f0 f1 f2' f3 f4 f5 hns fi;refine⟨m,hns,λh' sb=>?_⟩;exact⟨.ref D,H',I'.turned (t':=s'.toks) (λb o hb e=>(sb.2 b hb).trans e) f0 f1 (.inr f3) f4 f5,rfl,fi⟩
theorem jf(hN:X.N.Nodup)(hix:X.N[i]?=some x)(hx:Loc X.env.scope x)(hc:X.calm=true)(hi:PI X tg iter wi)(C:Bg X NX outer scope N fr)
  (hg:∀fp s H,PG (Z6 X scope N fp s H) tg (g fp s H)) (ht:∀fp s H,PTs (Z6 X scope N fp s H) ifs (tt fp s H)) (he:∀fp s H,PE (Z6 X scope N fp s H) elt (te fp s H))
  (hsw:swapsWith (.ListComp elt [⟨tg,iter,ifs,0⟩] scope pos) (some (.Name x pos')) Du.line X.env=pure true:=by rfl)
  (hs:∀x,foldedSetIterable iter X.env x=pure x:=by intro _;rfl) (hf:X.fn x=true\/X.env.scope.names.lookup x=some .local:=by first | exact .inl rfl | exact .inr rfl | assumption) :
  PS X (.Assign [.Name x pos'] (.ListComp elt [⟨tg,iter,ifs,0⟩] scope pos) Du) (l7 (A8 wi fr g tt te) (D9 i)):=by
 intro XX s j H Dd I h;have C:=C.ok I.ok;rw[exec_Assign_Name_used _ _ _ _ hsw];refine Zn (wpAny_standAt (Zn ?_));show wpAny _ X.A (do let _ <-comprehension (.ListComp elt [⟨tg,iter,ifs,0⟩] scope pos) scope X.env _ (newList []) false (eval iter X.env) (some (assign (.Name x pos') X.env))) _ _ s
 refine Zn (wpAny_mono (wpAny_comprehension_free (use:=some (assign (.Name x pos') X.env)) (Q:=λ_ s'=>SP X XX Dd .next s') rfl hs C.clos C.kind C.names
  (Y7 (hi XX s j H _ I h) λv s1 h1=>Y7 h1 λitv s2 h2=>?_)) (λ_ s' hq=>Z4 (Z4 hq)) λ_ _ e=>e)
 obtain⟨it,fp,tn,J,H2,e,I2,T,qk,f2,hW⟩:=h2;subst e;refine X8 (RR:=λacc Cc=>compPost (model X.prog X.w) X.A X.xe (some (assign (.Name x pos') X.env)) (λ_ s'=>SP X XX Dd .next s') acc Cc) hc C hg ht he I2 T qk f2 hW ?_;intro D Cc s' fl H' m I' f0 f1 f2' f3 f4 f5 hns fi;show wpAny _ X.A (assign (.Name x pos') X.env (.ref D)) _ _ _;refine wpAny_assign_Name (Eu (v:=.ref D) I' hN hix hx rfl (λs3 I3 ⟨a,sb,ha⟩=>?_) hf)
 have na:Cc≠a:=by
  rcases ha with z | z
  .rw[z];exact f1
  .exact λq=>f4 x a z q.symm
 refine⟨m,hns.sameBut sb na,λh' sb'=>?_⟩;exact⟨_,H',I3.turned (t':=s3.toks) (λb o hb e=>(sb'.2 b hb).trans e) f0 f1 (.inr f3) f4 f5,fi⟩
end
theorem J2{K:PySem.W.Frag}{a D:Addr}{xs:ZZ}{g:TG}{tt:TT}{te:TE}{fin:Hp->Prop}{σ0:St}{H0:Hp}(Pv:Nat->ZZ->St->Hp->Prop)(h0:Pv 0 [] σ0 H0)
  (hq:∀i ys j H,i<=xs.length->Pv i ys j H->Zp K H a xs/\H D=some (.lst ys))
  (hs:∀i x ys j H,xs[i]?=some x->Pv i ys j H->g x j H λσ2 H2=>tt σ2 H2 λok H3=>if ok=true then te σ2 H3 λy H4=>H4 D=some (.lst ys)/\ys.length<sizeLine/\Pv (i+1) (ys++[y]) σ2 (upd H4 D (.lst (ys++[y]))) else Pv (i+1) ys σ2 H3)
  (hd:∀ys j H,Pv xs.length ys j H->fin H):∃W:Nat->Nat->ZZ->St->Hp->Prop,(∃m,W 0 m [] σ0 H0)/\Nn (Itt K a) g tt te D W fin:=by
 refine⟨λi m ys j H=>m=xs.length-i/\i<=xs.length/\Pv i ys j H,⟨xs.length,by simp,Dc _,h0⟩,?_⟩;rintro i m ys j H ⟨rfl,hi,p⟩;obtain⟨q,hD⟩:=hq i ys j H hi p;refine⟨hD,?_⟩;by_cases G9:i<xs.length
 .refine .inr ⟨⟨xs,xs[i],q,by simp[G9]⟩,Pv (i+1),λys' σ' H' p'=>⟨xs.length-(i+1),by omega,rfl,G9,p'⟩,λx H' y=>?_⟩;obtain⟨e,y⟩:=y;subst e;exact hs i x ys j _ (y xs q) p
 .have e:i=xs.length:=QU
  subst e;exact .inl ⟨⟨xs,q,Yt _⟩,hd ys j H p⟩
theorem Ve{K:PySem.W.Frag}{a D:Addr}{xs:ZZ}{g:TG}{tt:TT}{te:TE}{fin:Hp->Prop}{σ0:St}{H0:Hp}(Pv:Nat->ZZ->St->Hp->Prop)(h0:Pv 0 [] σ0 H0)
  (hq:∀i ys j H,i<=xs.length->Pv i ys j H->Zu K H a xs/\H D=some (.lst ys))
  (hs:∀i x ys j H,xs[i]?=some x->Pv i ys j H->g x j H λσ2 H2=>tt σ2 H2 λok H3=>if ok=true then te σ2 H3 λy H4=>H4 D=some (.lst ys)/\ys.length<sizeLine/\Pv (i+1) (ys++[y]) σ2 (upd H4 D (.lst (ys++[y]))) else Pv (i+1) ys σ2 H3)
  (hd:∀ys j H,Pv xs.length ys j H->fin H):∃W:Nat->Nat->ZZ->St->Hp->Prop,(∃m,W 0 m [] σ0 H0)/\Nn (Itl K a) g tt te D W fin:=by
 refine⟨λi m ys j H=>m=xs.length-i/\i<=xs.length/\Pv i ys j H,⟨xs.length,by simp,Dc _,h0⟩,?_⟩;rintro i m ys j H ⟨rfl,hi,p⟩;obtain⟨q,hD⟩:=hq i ys j H hi p;refine⟨hD,?_⟩;by_cases G9:i<xs.length
 .refine .inr ⟨⟨xs,xs[i],q,by simp[G9]⟩,Pv (i+1),λys' σ' H' p'=>⟨xs.length-(i+1),by omega,rfl,G9,p'⟩,λx H' y=>?_⟩;obtain⟨e,y⟩:=y;subst e;exact hs i x ys j _ (y xs q) p
 .have e:i=xs.length:=QU
  subst e;exact .inl ⟨⟨xs,q,Yt _⟩,hd ys j H p⟩
theorem Mz{lo:Int}{n:Nat}{D:Addr}{g:TG}{tt:TT}{te:TE}{fin:Hp->Prop}{σ0:St}{H0:Hp}(Pv:Nat->ZZ->St->Hp->Prop)(h0:Pv 0 [] σ0 H0)
  (hq:∀i ys j H,i<=n->Pv i ys j H->H D=some (.lst ys))
  (hs:∀i ys j H,i<n->Pv i ys j H->g (.int (lo+i)) j H λσ2 H2=>tt σ2 H2 λok H3=>if ok=true then te σ2 H3 λy H4=>H4 D=some (.lst ys)/\ys.length<sizeLine/\Pv (i+1) (ys++[y]) σ2 (upd H4 D (.lst (ys++[y]))) else Pv (i+1) ys σ2 H3)
  (hd:∀ys j H,Pv n ys j H->fin H):∃W:Nat->Nat->ZZ->St->Hp->Prop,(∃m,W 0 m [] σ0 H0)/\Nn (Itr lo n) g tt te D W fin:=by
 refine⟨λi m ys j H=>m=n-i/\i<=n/\Pv i ys j H,⟨n,by simp,Dc _,h0⟩,?_⟩;rintro i m ys j H ⟨rfl,hi,p⟩;refine⟨hq i ys j H hi p,?_⟩;by_cases G9:i<n
 .refine .inr ⟨G9,Pv (i+1),λys' σ' H' p'=>⟨n-(i+1),by omega,rfl,G9,p'⟩,λx H' y=>?_⟩;obtain⟨e,y⟩:=y;subst e y;exact hs i ys j _ G9 p
 .have e:i=n:=QU
  subst e;exact .inl ⟨Yt _,hd ys j H p⟩
end L2
namespace SetM
open PySem
def Ris(xs:ZL):Prop:=∀a b (h:a<b) (hb:b<xs.size),xs[a]'(Nat.lt_trans h hb)<xs[b]
theorem getD_in{xs:ZL}{i d:Nat}(h:i<xs.size):xs.getD i d=xs[i]:=by simp[Array.getD,h]
theorem Ax(hr:Ris xs):∀(fuel lo hi:Nat),hi-lo<=fuel->lo<=hi->hi<=xs.size->(∀i (h:i<xs.size),i<lo->xs[i]<j)->(∀i (h:i<xs.size),hi<=i->j<=xs[i]) ->
  (∀i (h:i<xs.size),i<SetTable.below.go xs j fuel lo hi->xs[i]<j)/\(∀i (h:i<xs.size),SetTable.below.go xs j fuel lo hi<=i->j<=xs[i])/\SetTable.below.go xs j fuel lo hi<=xs.size
 | 0,lo,hi,hf,hl,hs,h1,h2=>by
  have e:lo=hi:=QU
  subst e;simp only[SetTable.below.go];exact⟨h1,h2,hs⟩
 | fuel+1,lo,hi,hf,hl,hs,h1,h2=>by
  simp only[SetTable.below.go];by_cases h:lo<hi
  .rw[if_pos h];have hm:(lo+hi) / 2<xs.size:=QU
   rw[getD_in hm];by_cases hc:xs[(lo+hi) / 2]<j
   .rw[if_pos hc];refine Ax hr fuel _ _ QU QU hs (λi vf G9=>?_) h2;rcases Nat.lt_or_ge i ((lo+hi) / 2) with z | z
    .exact Nat.lt_trans (hr i _ z hm) hc
    .have e:i=(lo+hi) / 2:=QU
     subst e;exact hc
   .rw[if_neg hc];refine Ax hr fuel _ _ QU QU QU h1 (λi vf hle=>?_);rcases Nat.lt_or_ge ((lo+hi) / 2) i with z | z
    .have:=hr _ i z vf;omega
    .have e:i=(lo+hi) / 2:=QU
     subst e;omega
  .rw[if_neg h];have e:lo=hi:=QU
   subst e;exact⟨h1,h2,hs⟩
theorem Bj{xs:ZL}{j:Nat}(hr:Ris xs):(∀i (h:i<xs.size),i<SetTable.below xs j->xs[i]<j)/\(∀i (h:i<xs.size),SetTable.below xs j<=i->j<=xs[i])/\SetTable.below xs j<=xs.size :=
 Ax hr xs.size 0 xs.size QU QU (Yt _) (λi _ h=>by omega) (λi h h'=>by omega)
theorem yb(hr:Ris xs)(h:i<xs.size):SetTable.below xs (xs[i]+1)=i+1:=by
 obtain⟨h1,h2,h3⟩:=Bj (j:=xs[i]+1) hr;rcases Nat.lt_trichotomy (SetTable.below xs (xs[i]+1)) (i+1) with z | z | z
 .have:=h2 i h QU;omega
 .exact z
 .have hi:i+1<xs.size:=QU
  have:=h1 (i+1) hi z;have:=hr i (i+1) QU hi;omega
theorem yf(hr:Ris xs):SetTable.below xs 0=0:=by
 obtain⟨h1,h2,h3⟩:=Bj (j:=0) hr;rcases Nat.eq_zero_or_pos (SetTable.below xs 0) with z | z
 .exact z
 .have:=h1 0 QU z;omega
theorem rh(n:Nat):Ris (Array.range n):=λa b h hb=>by simp;omega
theorem vq{xs:ZL}{p j:Nat}(hp:p<=xs.size):∀i,(SetTable.insertAt xs p j)[i]?=if i<p then xs[i]? else if i=p then some j else xs[i-1]?:=by
 intro i;unfold SetTable.insertAt;have hs1:((xs.extract 0 p).push j).size=p+1:=by simp;omega
 rw[Array.getElem?_append,hs1];by_cases h1:i<p+1
 .rw[if_pos h1,Array.getElem?_push];have hs2:(xs.extract 0 p).size=p:=by simp;omega
  rw[hs2];by_cases h2:i=p
  .rw[if_pos h2,if_neg QU,if_pos h2]
  .rw[if_neg h2,if_pos QU];rw[Array.getElem?_extract];simp;omega
 .rw[if_neg h1,if_neg QU,if_neg QU];rw[Array.getElem?_extract];have e:p+(i-(p+1))=i-1:=QU
  rw[e];simp;intro h;omega
theorem G0{Z:Type}{xs:Array Z}{p:Nat}{j:Z}(hp:p<=xs.size):(SetTable.insertAt xs p j).size=xs.size+1:=by
 unfold SetTable.insertAt;simp;omega
theorem Zvf{xs:ZL}{j:Nat}(hr:Ris xs)(hn:xs[SetTable.below xs j]?≠some j):Ris (SetTable.insertAt xs (SetTable.below xs j) j):=by
 obtain⟨h1,h2,h3⟩:=Bj (j:=j) hr;generalize hk:SetTable.below xs j=k at h1 h2 h3 hn;have g:=vq (xs:=xs) (j:=j) h3;intro a b hab hb;rw[G0 h3]at hb;have ga:=g a;have gb:=g b;have ha':a<(SetTable.insertAt xs k j).size:=by rw[G0 h3];omega
 have hb':b<(SetTable.insertAt xs k j).size:=by rw[G0 h3];omega
 rw[ow ha']at ga;rw[ow hb']at gb
 have strict:∀i (h:i<xs.size),k<=i->j<xs[i]:=λi h hk'=>by
  have hle:=h2 i h hk';rcases Nat.lt_or_ge k i with z | z
  .have hkz:k<xs.size:=QU
   have:=hr k i z h;have:=h2 k hkz (Yt _);omega
  .have e:i=k:=QU
   subst e;rw[ow h]at hn;have:xs[i]≠j:=λq=>hn (by rw[q]);omega
 by_cases a1:a<k
 .rw[if_pos a1,ow QU]at ga;have ga':=Fk ga;by_cases b1:b<k
  .rw[if_pos b1,ow QU]at gb;have gb':=Fk gb;rw[ga',gb'];exact hr a b hab QU
  .rw[if_neg b1]at gb;by_cases b2:b=k
   .rw[if_pos b2]at gb;have gb':=Fk gb;rw[ga',gb'];exact h1 a QU a1
   .rw[if_neg b2,ow QU]at gb;have gb':=Fk gb;rw[ga',gb'];exact hr a (b-1) QU QU
 .rw[if_neg a1]at ga;rw[if_neg QU,if_neg QU,ow QU]at gb;have gb':=Fk gb;by_cases a2:a=k
  .rw[if_pos a2]at ga;have ga':=Fk ga;rw[ga',gb'];exact strict (b-1) QU QU
  .rw[if_neg a2,ow QU]at ga;have ga':=Fk ga;rw[ga',gb'];exact hr (a-1) (b-1) QU QU
structure Cd(t:SetTable)(n:Nat):Prop where
 size:t.place.size=n
 dum:t.dummies=#[]
 ris:Ris t.place
 room:n<=t.mask
theorem Cd.fits(h:Cd t n):t.fits n=true:=by
 unfold SetTable.fits SetTable.fill;rw[h.dum,h.size];simp;exact h.room
theorem la(f m:Nat)(led:Bool):Cd (SetTable.fresh f m led) 0:=⟨rfl,rfl,λa b _ hb=>by simp[SetTable.fresh]at hb,Dc _⟩
theorem Md(t:SetTable)(n:Nat):Cd (t.standIn n) n:=⟨by simp[SetTable.standIn],rfl,rh n,by simp[SetTable.standIn];omega⟩
theorem dq(j:Nat):SetTable.has #[] j=false:=by simp[SetTable.has]
theorem Su{t:SetTable}{n:Nat}(hs:t.place.size=n)(hd:t.dummies=#[])(hr:Ris t.place):Cd (t.orStandIn n) n:=by
 unfold SetTable.orStandIn
 split
 .rename_i h
  refine⟨hs,hd,hr,?_⟩;unfold SetTable.fits SetTable.fill at h;rw[hd,hs]at h;simpa using h
 .exact Md t n
theorem Fl(hd:t.dummies=#[]):∀(fuel:Nat) (p:SetTable.Probe),p.dummy=none->SetTable.probe.go t f h fuel p=some (.empty j dm)->dm=none/\t.place[SetTable.below t.place j]?≠some j
 | 0,p,_,e=>by simp[SetTable.probe.go]at e
 | fuel+1,p,hp,e=>by
  have adv:(t.advance p).dummy=none:=by
   unfold SetTable.advance
   split
   .exact hp
   .exact hp
  simp only[SetTable.probe.go]at e;cases hs:t.slot p.j with
  | empty =>
   rw[hs]at e;simp only[Option.some.injEq,SetTable.Met.empty.injEq]at e;obtain⟨e1,e2⟩:=e;subst e1;refine⟨by rw[<-e2,hp],λq=>?_⟩;unfold SetTable.slot at hs;simp[q]at hs
  | dummy =>
   exfalso
   unfold SetTable.slot at hs;simp only[hd,dq]at hs
   split at hs<;>simp at hs
  | live i =>
   rw[hs]at e;simp only at e
   split at e
   .simp at e
   .exact Fl hd fuel _ adv e
theorem qj(h:Cd t es.size)(k:Int)(x:Value):Cd (layNew t es k x).2.1 (layNew t es k x).1.size:=by
 unfold layNew;cases hf:t.freeSlot k with
 | none =>
  simp only;have:(es.push (k,x)).size=es.size+1:=by simp
  rw[this];exact Md t _
 | some sw =>
  obtain⟨slot,wd⟩:=sw;simp only;unfold SetTable.freeSlot at hf
  have hn:t.place[SetTable.below t.place slot]?≠some slot:=by
   cases hp:t.probe (λ_=>k+1) k (t.probeStart k) with
   | none=>rw[hp]at hf;simp at hf
   | some m =>
    rw[hp]at hf;cases m with
    | candidate a b c=>simp at hf
    | empty j dm =>
     obtain⟨e1,e2⟩:=Fl h.dum _ (t.probeStart k) rfl hp;subst e1;simp at hf;rw[<-hf.1];exact e2
  obtain⟨_,_,hb⟩:=Bj (j:=slot) h.ris;have hb':SetTable.below t.place slot<=es.size:=by rw[<-h.size];exact hb
  have e1:(t.put slot).2=SetTable.below t.place slot:=rfl;refine Su ?_ ?_ ?_
  .rw[e1,G0 hb'];show (SetTable.insertAt t.place (SetTable.below t.place slot) slot).size=es.size+1;rw[G0 hb,h.size]
  .show (if SetTable.has t.dummies slot then _ else t.dummies)=#[];rw[h.dum,dq]
   rfl
  .exact Zvf h.ris hn
theorem wo(k:Int)(x:Value):(layNew t es k x).2.1.led=t.led:=by
 unfold layNew
 split
 .simp only[SetTable.orStandIn]
  split<;>rfl
 .rfl
theorem jk(n:Nat)(g:Nat->ZR):((List.range n).filterMap λj=>(g j).map (j, ·)).Pairwise λa b=>a.1<b.1:=by
 rw[List.pairwise_filterMap];refine List.Pairwise.imp ?_ List.pairwise_lt_range;intro a b hab c hc d hd;cases ha:g a with
 | none=>rw[ha]at hc;simp at hc
 | some u =>
  cases hb:g b with
  | none=>rw[hb]at hd;simp at hd
  | some v =>
   rw[ha]at hc;rw[hb]at hd;simp at hc hd;rw[<-hc, <-hd];exact hab
theorem K1(wanted:Nat):Cd (relayAll t es wanted).2.1 (relayAll t es wanted).1.size:=by
 unfold relayAll;cases hr:t.relaid (es.map (·.1)) wanted with
 | none=>exact Md t _
 | some to =>
  obtain⟨t',order⟩:=to;simp only
  split
  .rename_i hc
   unfold SetTable.relaid SetTable.laid at hr;cases hl:SetTable.layClean (SetTable.sizeAbove wanted-1) (es.map (·.1)) with
   | none=>rw[hl]at hr;simp at hr
   | some owner =>
    rw[hl]at hr;simp at hr;obtain⟨h1,h2⟩:=hr;have Ex:=(B0z.mp hc).2;have hd:t'.dummies=#[]:=by rw[<-h1]
    refine⟨?_,hd,?_,?_⟩
    .unfold SetTable.fits at Ex;simp at Ex;exact Ex.1
    .rw[<-h1];intro a b hab hb;have hp:=jk (SetTable.sizeAbove wanted-1+1) (λj=>owner[j]?.getD none);have ou:(((List.range (SetTable.sizeAbove wanted-1+1)).filterMap λj=>(owner[j]?.getD none).map (j, ·)).map λp=>p.1).Pairwise (· < ·):=List.pairwise_map.mpr hp;simp only[List.getElem_toArray];exact List.pairwise_iff_getElem.mp ou a b _ _ hab
    .unfold SetTable.fits SetTable.fill at Ex;rw[hd]at Ex;simp at Ex;exact(Ex.1 ▸ Ex.2:_)
  .exact Md t _
theorem Hy(wanted:Nat):(relayAll t es wanted).2.1.led=t.led:=by
 unfold relayAll;cases hr:t.relaid (es.map (·.1)) wanted with
 | none=>rfl
 | some to =>
  obtain⟨t',order⟩:=to;simp only
  split
  .unfold SetTable.relaid SetTable.laid at hr;cases hl:SetTable.layClean (SetTable.sizeAbove wanted-1) (es.map (·.1)) with
   | none=>rw[hl]at hr;simp at hr
   | some owner =>
    rw[hl]at hr;simp at hr;rw[<-hr.1]
  .rfl
theorem B5{j Z:Type}{F:j->Z->Prop}{l l':List Z}(p:l'.Perm l):∀{ks:List j},Paired F ks l->∃Fe,Paired F Fe l'/\Fe.Perm ks:=by
 induction p with
 | nil=>intro ks h;cases h;exact⟨[],.nil,.nil⟩
 | cons x p ih =>
  intro ks h;cases h with
  | cons r t =>
   obtain⟨Fe,h1,h2⟩:=ih t;exact⟨_::Fe,.cons r h1,h2.cons _⟩
 | swap x y l =>
  intro ks h;cases h with
  | cons r t =>
   cases t with
   | cons r' t'=>exact⟨_::_::_,.cons r' (.cons r t'),.swap _ _ _⟩
 | trans p1 p2 ih1 ih2 =>
  intro ks h;obtain⟨k1,h1,h2⟩:=ih2 h;obtain⟨k2,h3,h4⟩:=ih1 h1;exact⟨k2,h3,h4.trans h2⟩
theorem Ry{j Z:Type}{F:j->Z->Prop}:∀{ks:List j} {l:List Z},Paired F ks l->∀k∈ks,∃e∈l,F k e
 | _,_,.nil,k,h=>by cases h
 | _,_,.cons r t,k,h=>by
  rcases U8.mp h with z | z
  .subst z;exact⟨_,Br,r⟩
  .obtain⟨e,h1,h2⟩:=Ry t k z;exact⟨e,Ck _ h1,h2⟩
theorem B6{j Z:Type}{F:j->Z->Prop}:∀{ks:List j} {l:List Z},Paired F ks l->∀e∈l,∃k∈ks,F k e
 | _,_,.nil,k,h=>by cases h
 | _,_,.cons r t,k,h=>by
  rcases U8.mp h with z | z
  .subst z;exact⟨_,Br,r⟩
  .obtain⟨e,h1,h2⟩:=B6 t k z;exact⟨e,Ck _ h1,h2⟩
section
variable{prog:Program}{w:World}{K:Type}[DecidableEq K](knd:KeyKind prog w K)
structure Zku(o:Obj)(ks:List K):Prop where
 ex:o.ExactSet
 dat:∃es ep t,o.data=.set es ep t/\ElemsOf knd es.toList/\Paired (λk (e:Int×Value)=>knd.is k e.2=true) ks es.toList/\es.size<scanBound/\Cd t es.size/\t.led=!(w.params.followText "set-order")
 nd:ks.Nodup
def Ct(h:Heap)(a:Addr)(ks:List K):Prop:=∃o,h.get? a=some o/\Zku knd o ks
variable{knd}{A:Around}{E:Ya}{s:Shared}{a:Addr}
theorem Zku.len{o:Obj}{ks:List K}(h:Zku knd o ks):ks.length<scanBound:=by
 obtain⟨es,ep,t,_,_,p,b,_⟩:=h.dat;rw[p.length,xt];exact b
theorem Q8{o:Obj}{es O2:Array (Int×Value)}{ep:Nat}{t t':SetTable}{Fe:List K}{h:Heap}(ho:h.get? a=some o)(hex:o.ExactSet)(hd:o.data=.set es ep t)(el:ElemsOf knd O2.toList)
  (pr:Paired (λk (e:Int×Value)=>knd.is k e.2=true) Fe O2.toList) (hb:O2.size<scanBound) (ti:Cd t' O2.size) (hl:t'.led=!(w.params.followText "set-order")) (nd:Fe.Nodup) :
  (h.update a (Obj.putSet O2 t')).get? a=some { o with data:=.set O2 (ep+1) t' }/\Zku knd { o with data:=.set O2 (ep+1) t' } Fe:=by
 have mem:∀k',(decide (k'∈Fe))=true↔∃e∈O2.toList,knd.is k' e.2=true:=λk'=>by
  rw[decide_eq_true_eq];constructor
  .exact λhk=>Ry pr k' hk
  .rintro⟨e,he,hq⟩;obtain⟨k2,h1,h2⟩:=B6 pr e he;rw[knd.inj e.2 k' k2 hq h2];exact h1
 obtain⟨e1,o2,es2,ep2,t2,e2,ex2,d2,_⟩:=SetOf_store (knd:=knd) ho hex hd el mem hb ti.fits;rw[e1]at e2;cases e2;exact⟨e1,⟨ex2,⟨O2,ep+1,t',rfl,el,pr,hb,ti,hl⟩,nd⟩⟩
theorem Zvx(hkey:knd.is k x=true)(hsc:x.scannable=true)(hS:Ct knd s.heap a ks)(hroom:ks.length+1<scanBound)
  (h:∀h' Fe,Heap.SameBut a s.heap h'->Ct knd h' a Fe->Fe.Perm (if k∈ks then ks else ks++[k])->Q (!decide (k∈ks)) { s with heap:=h' }) :
  wpAny (model prog w) A (setAddHashed a x (knd.hash k)) Q E s:=by
 obtain⟨o,ho,S⟩:=hS;obtain⟨es,ep,t,hd,hel,pr,hb,ti,vg⟩:=S.dat;have hlen:ks.length=es.size:=by rw[pr.length,xt]
 unfold setAddHashed setAddHashedIn;refine wpAny_holding (Zn (wpAny_setState_of ho hd ti.fits ?_));dsimp only;rw[byScan_of hsc hb hel];simp only[↓reduceIte];unfold setAddByScan;refine Zn (Zn (wpAny_rule (Zn (wpAny_setScan_of hkey ho hd ti.fits hel ?_))));cases hr:List.findIdx? (λe=>knd.is k e.2) es.toList with
 | some j =>
  dsimp only;obtain⟨hj,hpj,_⟩:=List.findIdx?_eq_some_iff_getElem.mp hr
  have hk:k∈ks:=by
   obtain⟨k2,h1,h2⟩:=B6 pr _ (G0e hj);rw[knd.inj _ k k2 hpj h2];exact h1
  have q:=h s.heap ks (Heap.SameBut.refl a s.heap) ⟨o,ho,S⟩ (by rw[if_pos hk]);rw[Sd hk]at q;exact Z4 (Z4 q)
 | none =>
  dsimp only
  have hk:k∉ks:=λhm=>by
   obtain⟨e,he,hq⟩:=Ry pr k hm;have z:=List.findIdx?_eq_none_iff.mp hr e he;rw[hq]at z;cases z
  have gw:∀(b:Bool) {s₁:Shared} {Q':ZP},Q' () s₁->wpAny (model prog w) A (match b with | true=>rule "set.scan.the-table-gave-way" | false=>pure ()) Q' E s₁ :=
   λb s₁ Q' hq=>by cases b<;>first | exact Z4 hq | exact wpAny_rule hq
  have perm0:=layNew_perm t es (knd.hash k) x;have A7:=qj (t:=t) ti (knd.hash k) x;have Zqd:=wo (t:=t) (es:=es) (knd.hash k) x;generalize hL:layNew t es (knd.hash k) x=L at perm0 A7 Zqd ⊢;obtain⟨Eg,t1,wasDummy,gave⟩:=L;dsimp only at perm0 A7 Zqd ⊢;rw[Array.toList_push]at perm0;have el1:ElemsOf knd Eg.toList:=(hel.push hkey hsc).perm perm0;have pr0:Paired (λk (e:Int×Value)=>knd.is k e.2=true) (ks++[k]) (es.toList++[(knd.hash k,x)]):=Paired.snoc pr hkey;obtain⟨ks1,pr1,pk1⟩:=B5 perm0 pr0
  have nd1:ks1.Nodup:=pk1.nodup_iff.mpr (List.nodup_append.mpr ⟨S.nd,List.nodup_cons.mpr ⟨by simp,List.nodup_nil⟩,λu hu v hv=>by
   rw[Nw.mp hv];exactλz=>hk (z ▸ hu)⟩)
  have sz1:Eg.size=es.size+1:=by
   have:=perm0.length_eq;rw[Nl,xt,xt]at this;simpa using this
  have hb1:Eg.size<scanBound:=QU
  refine Zn (gw _ ?_)
  have tailOk:∀t2:SetTable,Cd t2 Eg.size->t2.led=t.led->wpAny (model prog w) A (do
    storeSet a Eg t2
    if (!wasDummy&&t2.tooFull)=true then do
      (match (relayAll t2 Eg (SetTable.grown Eg.size)).2.2 with | true=>rule "set.scan.the-table-gave-way" | false=>pure ())
      storeSet a (relayAll t2 Eg (SetTable.grown Eg.size)).1 (relayAll t2 Eg (SetTable.grown Eg.size)).2.1
      pure (some true)
     else pure (some true)) (λb s'=>b=some true/\∃h' Fe,s'={ s with heap:=h' }/\Heap.SameBut a s.heap h'/\Ct knd h' a Fe/\Fe.Perm (ks++[k])) E s:=by
   intro t2 ti2 ur;refine Zn (wpAny_storeSet_of ho hd ?_ (fits_of_scanBound hb1));obtain⟨g1,S1⟩:=Q8 (knd:=knd) ho S.ex hd el1 pr1 hb1 ti2 (ur.trans vg) nd1;have sb1:=Heap.SameBut.update s.heap a (Obj.putSet Eg t2)
   split
   .have hp:=relayAll_perm t2 Eg (SetTable.grown Eg.size);have ti3:=K1 (t:=t2) (es:=Eg) (SetTable.grown Eg.size);have led3:=Hy (t:=t2) (es:=Eg) (SetTable.grown Eg.size);generalize relayAll t2 Eg (SetTable.grown Eg.size)=Rl at hp ti3 led3 ⊢;obtain⟨es2,t3,gave2⟩:=Rl;dsimp only at hp ti3 led3 ⊢;obtain⟨ks2,pr2,pk2⟩:=B5 hp pr1
    have sz2:es2.size=Eg.size:=by
     have:=hp.length_eq
     rwa [xt,xt]at this
    have Qw:es2.size<scanBound:=QU
    refine Zn (gw _ ?_);refine Zn (wpAny_storeSet_of g1 rfl ?_ (fits_of_scanBound Qw));obtain⟨g2,S2⟩:=Q8 (knd:=knd) g1 S1.ex rfl (el1.perm hp) pr2 Qw ti3 (led3.trans (ur.trans vg)) (pk2.nodup_iff.mpr nd1);exact Z4 ⟨rfl,_,ks2,rfl,sb1.trans (Heap.SameBut.update _ a _),⟨_,g2,S2⟩,pk2.trans pk1⟩
   .exact Z4 ⟨rfl,_,ks1,rfl,sb1,⟨_,g1,S1⟩,pk1⟩
  have fin:∀b s',(b=some true/\∃h' Fe,s'={ s with heap:=h' }/\Heap.SameBut a s.heap h'/\Ct knd h' a Fe/\Fe.Perm (ks++[k])) ->
    wpAny (model prog w) A (match b with | some added=>pure added | none=>setAddHashedIn a x (knd.hash k) 99999) Q E s':=by
   rintro b s' ⟨rfl,h',Fe,rfl,sb,g,pk⟩;have q:=h h' Fe sb g (by rw[if_neg hk];exact pk);rw[F9 hk]at q;exact Z4 q
  split
  .refine Zn ?_;rw[hashByValue_scannable 8 hsc];refine Z4 ?_;refine wpAny_mono (tailOk _ ?_ ?_) fin λ_ _ z=>z
   .split
    .exact A7
    .exact⟨A7.size,A7.dum,A7.ris,A7.room⟩
   .split
    .exact Zqd
    .exact Zqd
  .refine Zn (Z4 ?_);simp only[↓reduceIte];exact wpAny_mono (tailOk _ A7 Zqd) fin λ_ _ z=>z
end
end SetM
namespace SetM
open PySem PyProof.Rows
section
variable{prog:Program}{w:World}{K:Type}[DecidableEq K]{knd:KeyKind prog w K}
theorem Ct.at'{h h':Heap}{a:Addr}{ks:List K}(x:Ct knd h a ks)(e:∀o,h.get? a=some o->h'.get? a=some o):Ct knd h' a ks:=let ⟨o,ho,S⟩:=x;⟨o,e o ho,S⟩
structure Aa(val:Nat->K)(i:Nat)(ks:List K):Prop where
 mem:∀x,x∈ks↔∃j,j<i/\val j=x
 len:ks.length<=i
theorem Aa.zero(val:Nat->K):Aa val 0 []:=⟨λx=>⟨λz=>absurd z V9,λ⟨j,z,_⟩=>absurd z (Nat.not_lt_zero _)⟩,Yt _⟩
theorem Aa.next{val:Nat->K}{i:Nat}(u:Aa val i ks)(pk:Fe.Perm (if val i∈ks then ks else ks++[val i])):Aa val (i+1) Fe:=by
 refine⟨λx=>?_,?_⟩
 .rw[pk.mem_iff];constructor
  .intro hx
   have hx':x∈ks\/x=val i:=by
    split at hx
    .exact .inl hx
    .rcases M6.mp hx with hx | hx
     .exact .inl hx
     .exact .inr (Nw.mp hx)
   rcases hx' with hx' | hx'
   .obtain⟨j,h1,h2⟩:=(u.mem x).mp hx';exact⟨j,by omega,h2⟩
   .exact⟨i,by omega,hx'.symm⟩
  .rintro⟨j,h1,h2⟩;by_cases hx:x∈ks
   .split
    .exact hx
    .exact List.mem_append_left _ hx
   .have e:j=i:=by
     rcases Nat.lt_or_ge j i with z | z
     .exact absurd ((u.mem x).mpr ⟨j,z,h2⟩) hx
     .omega
    subst e;rw[h2,if_neg hx];exact nj _ (List.mem_singleton_self _)
 .rw[pk.length_eq];have:=u.len
  split
  .omega
  .simp only[Nl,ZU];omega
variable{A:Around}{R:Result->Shared->Prop}{I:Addr}{fp wr:ZH}{G:Array GenState->Array GenState->Prop}{n:Nat}{P:Nat->Value->Prop}{St:Nat->Shared->Prop}
theorem Kb(W:WalksS prog w A.in1 I fp wr G n P St)(na:a∉fp)(hval:∀i v,P i v->knd.is (val i) v=true/\v.scannable=true)(hb:n+1<scanBound)(i:Nat)(s:Shared)(ks:List K)
  (hi:i<=n) (st:St i s) (hS:Ct knd s.heap a ks) (u:Aa val i ks) (fin:∀s' Fe,Moved (a::wr) G s s'->Ct knd s'.heap a Fe->Aa val n Fe->R (.ok (.ret .none)) s') :
  codeAny (model prog w) A (.builtin "set.update.loop" ⟨[.ref a,.ref I],[]⟩) R s:=by
 have naw:a∉wr:=λz=>na (W.sub _ z);have more:∀b∈wr,b∈a::wr:=λb z=>Ck _ z;refine codeAny_builtin PyProof.Rows.F.entry_set_update_loop ?_;rw[Around.under_plainId PyProof.Rows.F.plain_set_update_loop];refine Zn (m:=pyNext (.ref I)) ?_;by_cases G9:i<n
 .refine W.item i s _ _ G9 st λv s1 hP st1 mv=>?_;obtain⟨hv,hsc⟩:=hval i v hP;have hS1:Ct knd s1.heap a ks:=hS.at' λo e=>mv.heap a o naw e;refine Zn (m:=holding [v] (setAdd a v)) (wpAny_holding ?_);unfold setAdd;refine wpAny_holding (Zn (knd.pyHash (k:=val i) hv ?_));have:=u.len;refine Zvx (knd:=knd) (s:={ s1 with toks:=s1.toks+1 }) hv hsc hS1 QU λh2 ks2 sb hS2 pk=>Z4 ⟨plainId_quiet PyProof.Rows.F.plain_set_update_loop _,?_⟩;refine Kb W na hval hb (i+1) { s1 with heap:=h2,toks:=s1.toks+1 } ks2 G9 (W.frame _ s1 _ _ st1 (Nat.le_succ _) λb hb' o e=>?_) hS2 (u.next pk) λs3 ks3 mv3 hS3 u3=>?_
  .rw[sb.2 b λz=>na (z ▸ hb')];exact e
  .refine fin s3 ks3 (Moved.trans W.gtrans ((mv.mono more).then_heap (Nat.le_succ _) λb o hb' e=>?_) mv3) hS3 u3;rw[sb.2 b λz=>hb' (z ▸ Br)];exact e
 .have e:i=n:=QU
  subst e;exact W.done s _ _ st λs1 mv=>Z4 (fin s1 ks (mv.mono more) (hS.at' λo e=>mv.heap a o naw e) u)
termination_by n-i
end
section
variable{prog:Program}{w:World}{A:Around}{E:Ya}{s:Shared}
theorem yg(ft:TypeCalled T newId initId)(hct:checkTypeCall T ⟨args,[]⟩=pure ())
  (h:codeAny (model prog w) A.in1 (.call (.builtin newId) ⟨.type T::args,[]⟩) (wants (λobj s1=>s1.TypeIs obj T/\codeAny (model prog w) A.in1 (.call (.builtin initId) ⟨obj::args,[]⟩) (wants (λr s2=>r=.none/\Q obj s2) E) s1) E) s) :
  wpAny (model prog w) A (call (.type T) args) Q E s:=by
 have q1:=ft.notType;have q2:=ft.canCreate;have q3:=ft.made;have q4:=ft.sub;obtain⟨c,tl,q5⟩:=ft.mro
 apply wpAny_call
 apply codeAny_of_tree
 change wpAny (model prog w) _ (callAny (Value.type T) ⟨args,[]⟩) _ _ s
 refine Z4 (And.intro (Code.quiet_builtin _ QA) (codeAny_builtin PySem.F.entry_type_call ?_));rw[Around.under_plain (weight_type_call_type T args []) (units_type_call_type T args [])]
 repeat (any_goals (first | assumption | wp_step))
 refine codeAny_mono h λr s1 hr=>?_;rcases r with e | fl
 .exact hr
 .cases fl with
  | ret obj =>
   obtain⟨hT,hI⟩:=hr;have q6:=ft.init.lookup;have q7:=ft.init.bind obj
   repeat (any_goals (first | assumption | wp_step))
   refine codeAny_mono hI λr2 s2 hr2=>?_;rcases r2 with e2 | fl2
   .exact hr2
   .cases fl2 with
    | ret r3 =>
     obtain⟨rfl,q⟩:=hr2
     repeat (any_goals (first | assumption | wp_step))
    | _=>exact hr2.elim
  | _=>exact hr.elim
noncomputable abbrev C7(b:Bool):Obj:={ cls:=.type "set",dict:=none,data:=.set #[] 0 (.fresh 0 0 b) }
theorem Zyl(x:Value)(h:Q1 (.ref s.heap.objs.size) { s with heap:=s.heap.push (C7 (!(w.params.followText "set-order"))) }) :
  codeAny (model prog w) A (.call (.builtin "set.__new__") ⟨[.type "set",x],[]⟩) (wants Q1 E) s:=by
 have q:=sub_set_self;refine codeAny_call_builtin PySem.F.plain_set_new PySem.F.entry_set_new (wpAny_of_eq (PySem.F.newCall_set_1 x) ?_);unfold Builtin.«set.__new__» Builtin.Frozenset.newClass;obtain⟨hp,gs,dr,tk,so⟩:=s;dsimp only
 wp_walk
 refine wpAny_askSetting (Z4 ?_);dsimp only;simp only[newObj];exact Zn (wpAny_alloc (Z4 (Z4 h)))
variable{K:Type}[DecidableEq K]{knd:KeyKind prog w K}
set_option maxHeartbeats 4000000 in
theorem Zjo(hh:A.handled=none)(hl:s.heap.IsList l xs)(hx:∀i v,xs[i]?=some v->knd.is (val i) v=true/\v.scannable=true)(hb:xs.size+1<scanBound)
  (fin:∀(h1:Heap) (tk:Nat) (ks:List K),Ct knd h1 s.heap.objs.size ks->Aa val xs.size ks->(∀b o,s.heap.get? b=some o->h1.get? b=some o)->Q (.ref s.heap.objs.size) { s with heap:=h1,toks:=tk }) :
  wpAny (model prog w) A (call (.type "set") [.ref l]) Q E s:=by
 refine yg PySem.F.called_set (PySem.F.typeCall_set_1 (.ref l)) (Zyl (.ref l) ?_);generalize hb0:(!(w.params.followText "set-order"))=b0;have Yw:(s.heap.push (C7 b0)).get? s.heap.objs.size=some (C7 b0):=M7 _ rfl;have ty0:Shared.TypeIs { s with heap:=s.heap.push (C7 b0) } (.ref s.heap.objs.size) "set" := ⟨_,Yw,rfl⟩;refine⟨ty0,codeAny_call_builtin PySem.F.called_set.init.plain PySem.F.entry_set_init (check_set_init_1 ty0 ?_)⟩;obtain⟨⟨c0,d0,dt0,sl0⟩,e0,hc0,n0,hd0⟩:=hl;simp only at hc0 hd0;subst hc0 hd0;have e1:(s.heap.push (C7 b0)).get? l=some ⟨.type "list",d0,.seq xs n0,sl0⟩:=Uz _ e0;have li:(s.heap.push (C7 b0)).IsList l xs:=⟨_,e1,rfl,n0,rfl⟩;have u1:=PySem.F.sub_list_set;have u2:=PySem.F.sub_list_frozenset;have u3:(Value.type "list" == Value.type "dict")=false:=QI
 unfold Builtin.«set.__init__» noKeywords Builtin.Frozenset.updateFrom;generalize hit:pyIter=it
 wp_walk
 subst hit;have lt0:l<s.heap.objs.size:=Ut e0;have sz:(s.heap.push (C7 b0)).objs.size=s.heap.objs.size+1:=Heap.size_push _ _;refine wpAny_pyIter_list li (Zn (wpAny_runValue ?_))
 refine Kb (knd:=knd) (val:=val) ((Walks.list (by simp[hh]) _ l (by rw[sz];exact Nj (Nat.lt_succ_of_lt lt0)) xs).toS) (λz=>(U8.mp z).elim (λz=>absurd z (Nj (by rw[sz];exact Nat.lt_succ_self _))) λz=>absurd (Nw.mp z) (Nat.ne_of_gt lt0)) hx hb 0 _ [] (Dc _) ⟨⟨_,M7 _ rfl,rfl,rfl⟩,li.push _⟩
  ⟨_,Uz _ Yw,⟨⟨rfl,rfl,rfl⟩,⟨#[],0,_,rfl,λe he=>by simp at he,.nil,by unfold scanBound;decide,la _ _ _,hb0.symm⟩,List.nodup_nil⟩⟩ (Aa.zero val) ?_
 rintro⟨h2,g2,d2,tk2,o2⟩ ks mv S2 u;have x1:g2=s.gens:=mv.gens;have x2:d2=s.drawn:=mv.drawn;have x3:o2=s.os:=mv.os;subst x1 x2 x3;refine Z4 (Z4 ⟨rfl,fin h2 tk2 ks S2 u λb o e=>mv.heap b o ?_ (Uz _ (Uz _ e))⟩);have lb:=Ut e;intro z;rcases U8.mp z with z | z
 .exact absurd z (Nj lb)
 .have z:=Nw.mp z;rw[sz]at z;exact absurd z (Nj (Nat.lt_succ_of_lt lb))
end
theorem Np:Slot "set_iterator" "__next__" "set_iterator.__next__" :=
 Slot.of (owner:="set_iterator") (n:="__next__") (by rw[typeLookup_type,builtinLookup_eq_fast];kernel_rfl) QA QA QA (.inl QA) (by rw[isSubtype_type];kernel_rfl)
theorem Ik:entryFor table "set_iterator.__next__"=some Builtin.«set_iterator.__next__»:=entryFor_of_tree (by kernel_rfl)
theorem gh(a:Value):argsOk "set_iterator.__next__" ⟨[a],[]⟩:=by unfold argsOk;kernel_rfl
theorem Pj:entryFor table "set.__iter__"=some Builtin.«frozenset.__iter__»:=entryFor_alias (id':="frozenset.__iter__") (by kernel_rfl) rfl QA (by kernel_rfl)
theorem Rn{j:Type}:∀(l:List j) (i:Nat) (h:i<l.length),(l[i]::l.eraseIdx i).Perm l
 | x::l,0,h=>.refl _
 | x::l,i+1,h=>by
  have ih:=Rn l i (by simpa using h);simp only[List.getElem_cons_succ,List.eraseIdx_cons_succ];exact(List.Perm.swap _ _ _).trans (ih.cons x)
theorem Lz{j:Type}:∀(n:Nat) (xs:List j) (s:Shared) (Q:List j->Shared->Prop),xs.length=n->(∀ys d,ys.Perm xs->Q ys { s with drawn:=d })->wpAny (model prog w) A (drawOrder n xs) Q E s
 | 0,xs,s,Q,hn,h=>by
  have e:xs=[]:=List.length_eq_zero_iff.mp hn;subst e;have q:=h [] s.drawn .nil;exact Z4 q
 | n+1,xs,s,Q,hn,h=>by
  cases xs with
  | nil=>simp at hn
  | cons x0 xr =>
   generalize hx:x0::xr=xs at hn h ⊢
   have e:drawOrder (n+1) xs=(choose .order xs.length >>= λi=>match xs[i]? with | some x=>(drawOrder n (xs.eraseIdx i) >>= λr=>pure (x::r)) | none=>unsupported "internal:drawOrder"):=by
    subst hx;rfl
   rw[e];refine Zn ?_;intro Γ p hΓ;show Sem.wp _ _ (.choose _ _ _) _ _ _ _;rw[Sem.wp_choose];refine⟨by omega,?_⟩;have lt:=Nat.mod_lt ((model prog w).w.draws .order (s.drawn.get .order)) (show xs.length>0 by omega);generalize (model prog w).w.draws .order (s.drawn.get .order) % xs.length=i at lt ⊢;rw[Sem.wp_pure];have ex:xs[i]?=some xs[i]:=Bh lt;dsimp only;rw[ex];refine Zn (Lz n (xs.eraseIdx i) _ _ (by rw[List.length_eraseIdx_of_lt lt];omega) λys d hp=>Z4 (h _ _ ((hp.cons _).trans (Rn xs i lt))))
inductive ny(w:World)(a:Addr)(es:Array (Int×Value))(ep:Nat)(t:SetTable)(h:Heap):Nat->Value->ZG->Prop where
 | byText{i:Nat}{k:Int}{tk:Tok}:w.params.followText "set-order"=true->ny w a es ep t h i (.int k tk) ((pickOrder (w.params.setOrder a ep) es).toList.map (·.2))
 | drawn {i:Nat} {T:Addr} {c:Nat} {ps:List Nat}:ps.Perm (List.range es.size)->h.get? T=some { cls:=.type "tuple",data:=.seq (ps.map λ(p:Nat)=>rawInt p).toArray c } ->
   ny w a es ep t h i (.ref T) (ps.map λp=>(es.getD p (0,.none)).2)
 | plain {i:Nat} {tk:Tok}:w.params.followText "set-order"=false->(!t.plain&&es.size>1)=false->t.led=true->ny w a es ep t h i (.int (if i=0 then 0 else ((t.place.getD (i-1) 0+1:Nat):Int)) tk) (es.toList.map (·.2))
noncomputable abbrev Ov(first:Value)(i:Nat)(a:Addr)(n ep:Nat):Obj:={ cls:=.type "set_iterator",data:=.fields #[first,rawInt i,.ref a,rawInt n,rawInt ep] }
section
variable{prog:Program}{w:World}{A:Around}{E:Ya}{s:Shared}{a:Addr}{o:Obj}{es:Array (Int×Value)}{ep:Nat}{t:SetTable}
theorem Zqu(ho:s.heap.get? a=some o)(hex:o.ExactSet)(hd:o.data=.set es ep t)(ti:Cd t es.size)(hl:t.led=!(w.params.followText "set-order"))(hb:es.size<scanBound)
  (fin:∀I first h1 d vs,(∀b ob,s.heap.get? b=some ob->h1.get? b=some ob)->s.heap.objs.size<=I->h1.get? I=some (Ov first 0 a es.size ep)->(∀T,first=.ref T->T≠I/\s.heap.objs.size<=T)->ny w a es ep t h1 0 first vs->Q (.ref I) { s with heap:=h1,drawn:=d }) :
  wpAny (model prog w) A (pyIter (.ref a)) Q E s:=by
 have hT:s.TypeIs (.ref a) "set" := ⟨o,ho,hex.1⟩;refine wpAny_pyIter_slot hT PySem.F.slot_set_iter (wpAny_call_entry PySem.F.slot_set_iter hT Pj ?_ (PySem.F.args_set_iter_1 _));unfold Builtin.«frozenset.__iter__» Builtin.Frozenset.slot0 slotArgs;simp only[List.isEmpty_nil,Bool.not_true,xp, ↓reduceIte,bind_assoc,List.length_nil,bne_self_eq_false];unfold Builtin.Frozenset.addrOf Builtin.Frozenset.sizeOf;refine Zn (Z4 ?_);dsimp only;refine Zn (Z4 ?_);refine Zn (Zn (wpAny_setEntries_of ho hd ti.fits (Z4 ?_)));unfold setDrawn setsByText;refine Zn (Zn (wpAny_setState_of ho hd ti.fits ?_));dsimp only;refine Zn (Zn (wpAny_askSetting (Z4 (Z4 ?_))));dsimp only;have eEp:∀(s1:Shared) {Q1:Nat->Shared->Prop},s1.heap.get? a=some o->Q1 ep s1->wpAny (model prog w) A.in1 (setEpoch a) Q1 E s1:=λs1 Q1 e q=>wpAny_setEpoch_of e hd ti.fits q
 split
 .rename_i hdr
  refine Zn (Lz _ _ _ _ (ZI) λps d hp=>?_);refine Zn (wpAny_newTuple ?_ (by rw[Yv,hp.length_eq,ZI];exact fits_of_scanBound hb));refine Zn (eEp _ (Uz _ ho) ?_);refine Zn (wpAny_newObj_type (Z4 ⟨_,rfl,"set_iterator",_,⟨_,M7 _ rfl,rfl⟩,Np.lookup,?_⟩));refine fin _ (.ref s.heap.objs.size) _ d _ (λb ob e=>Uz _ (Uz _ e)) ?_ (M7 _ rfl) ?_ (.drawn hp (Uz _ (M7 _ rfl)))
  .rw[Heap.size_push];exact Nat.le_succ _
  .rintro T e;cases e;exact⟨by rw[Heap.size_push];exact Nj (Nat.lt_succ_self _),Yt _⟩
 .rename_i hdr
  refine Zn (Z4 (Zn (eEp _ ho ?_)));refine Zn (wpAny_newObj_type (Z4 ⟨_,rfl,"set_iterator",_,⟨_,M7 _ rfl,rfl⟩,Np.lookup,?_⟩));have old:∀b ob,s.heap.get? b=some ob->(s.heap.push (Ov (rawInt 0) 0 a es.size ep)).get? b=some ob:=λb ob e=>Uz _ e;cases hbt:w.params.followText "set-order" with
  | true=>exact fin s.heap.objs.size (rawInt 0) _ s.drawn _ old (Yt _) (M7 _ rfl) (λT e=>by cases e) (.byText hbt)
  | false =>
   have h1:(!t.plain&&decide (es.size>1))=false:=by
    have h2:¬ (!false&&(!t.plain&&decide (es.size>1)))=true:=by rw[<-hbt];exact hdr
    simpa using h2
   exact fin s.heap.objs.size (rawInt 0) _ s.drawn _ old (Yt _) (M7 _ rfl) (λT e=>by cases e) (.plain hbt h1 (by rw[hl,hbt];rfl))
end
theorem fb{j:Type}(nx:Nat->Nat):∀(fuel k:Nat) (left:List j) (out:Array j),left.length<=fuel->(pickOrder.go nx fuel k left out).toList.Perm (out.toList++left)
 | 0,k,left,out,h=>by
  have e:left=[]:=List.length_eq_zero_iff.mp QU;subst e;simp[pickOrder.go]
 | fuel+1,k,left,out,h=>by
  simp only[pickOrder.go];cases left with
  | nil=>simp
  | cons x0 xr =>
   generalize hx:x0::xr=l at h ⊢;have lt:nx k % l.length<l.length:=Nat.mod_lt _ (by rw[<-hx];simp);rw[Bh lt];dsimp only;refine(fb nx fuel (k+1) _ _ (by rw[List.length_eraseIdx_of_lt lt];omega)).trans ?_;rw[Array.toList_push,ZA];exact List.Perm.append_left _ (Rn l _ lt)
theorem si{j:Type}(nx:Nat->Nat)(xs:Array j):(pickOrder nx xs).toList.Perm xs.toList:=by
 have q:=fb nx xs.size 0 xs.toList #[] QE;exact q
theorem range_items(es:Array (Int×Value)):(List.range es.size).map (λp=>(es.getD p (0,.none)).2)=es.toList.map (·.2):=by
 apply List.ext_getElem
 .simp
 .intro i h1 h2;have h3:i<es.size:=by simpa using h1
  simp[h3]
section
variable{w:World}{a:Addr}{es:Array (Int×Value)}{ep:Nat}{t:SetTable}{h:Heap}{i:Nat}{first:Value}{vs:ZG}
theorem ny.perm(F:ny w a es ep t h i first vs):vs.Perm (es.toList.map (·.2)):=by
 cases F with
 | byText _=>exact(si _ _).map _
 | drawn hp _=>rw[<-range_items];exact hp.map _
 | plain _ _ _=>exact .refl _
end
section
variable{prog:Program}{w:World}{A:Around}{E:Ya}{s:Shared}{a I:Addr}{o:Obj}{es:Array (Int×Value)}{ep:Nat}{t:SetTable}{i:Nat}{first:Value}{vs:ZG}
theorem below_at(hr:Ris xs)(hi:i<=xs.size):SetTable.below xs (if i=0 then (0:Int) else ((xs.getD (i-1) 0+1:Nat):Int)).toNat=i:=by
 by_cases h:i=0
 .subst h;rw[if_pos rfl];exact yf hr
 .rw[if_neg h,ZE,getD_in QU,yb hr QU];omega
theorem Hs{h:Heap}{n:Nat}{x0 x1 x2 x3 x4:Value}(k:Nat)(v:Value)(hI:h.get? I=some { cls:=.type "set_iterator",data:=.fields #[x0,x1,x2,x3,x4] }) :
  (h.update I (Obj.mapFields (·.setIfInBounds k v))).get? I=some { cls:=.type "set_iterator",data:=.fields (#[x0,x1,x2,x3,x4].setIfInBounds k v) }:=by
 rw[Heap.get?_update_self _ hI rfl]
 rfl
theorem N7{h:Heap}{f:Obj->Obj}{b:Addr}{ob:Obj}(hb:b≠I)(e:h.get? b=some ob):(h.update I f).get? b=some ob:=(Heap.get?_update_other _ _ (Ne.symm hb)).trans e
theorem ny.heap(F:ny w a es ep t h i first vs)(k:∀T,first=.ref T->∀ob,h.get? T=some ob->h1.get? T=some ob):ny w a es ep t h1 i first vs:=by
 cases F with
 | byText hb=>exact .byText hb
 | drawn hp e=>exact .drawn hp (k _ rfl _ e)
 | plain hb hp hl=>exact .plain hb hp hl
theorem next_item(ho:s.heap.get? a=some o)(hex:o.ExactSet)(hd:o.data=.set es ep t)(ti:Cd t es.size)(hI:s.heap.get? I=some (Ov first i a es.size ep))(uc:a≠I)(hT:∀T,first=.ref T->T≠I)
  (F:ny w a es ep t s.heap i first vs) (hv:vs[i]?=some v)
  (fin:∀h1 first',(∀b ob,b≠I->s.heap.get? b=some ob->h1.get? b=some ob)->h1.get? I=some (Ov first' (i+1) a es.size ep)->(∀T,first'=.ref T->first=.ref T)->ny w a es ep t h1 (i+1) first' vs->Q (some v) { s with heap:=h1 }) :
  wpAny (model prog w) A (pyNext (.ref I)) Q E s:=by
 have hTy:s.TypeIs (.ref I) "set_iterator" := ⟨_,hI,rfl⟩;unfold pyNext;refine Zn (wpAny_attempt (wpAny_callSpecial?_slot (name:=Str.ofString "__next__") hTy Np (wpAny_call_entry Np hTy Ik ?_ (gh _))));unfold Builtin.«set_iterator.__next__» slotArgs;simp only[List.isEmpty_nil,Bool.not_true,xp, ↓reduceIte,bind_assoc,List.length_nil,bne_self_eq_false];refine Zn (Z4 ?_);dsimp only;refine Zn (wpAny_fieldsOf hI rfl ?_);dsimp only[rawInt];refine Zn (wpAny_setEntries_of ho hd ti.fits ?_);rw[if_neg QE]
 have two:∀(nx:Nat) {Q1:Fin->Shared->Prop},(∀h1,(∀b ob,b≠I->s.heap.get? b=some ob->h1.get? b=some ob)->h1.get? I=some (Ov (.int nx 0) (i+1) a es.size ep)->Q1 (.done (.ret v)) { s with heap:=h1 }) ->
   wpAny (model prog w) A.in1 (do setField (.ref I) 0 (.int nx 0);setField (.ref I) 1 (.int (i+1) 0);ret v) Q1 (λe s'=>wpAny (model prog w) A (do let b <-isInstance e (.type "StopIteration");if b=true then pure none else throw e) Q E s') s:=by
  intro nx Q1 q;refine Zn (wpAny_setField hI rfl QE ?_);have g1:=Hs (n:=es.size) 0 (.int nx 0) hI;refine Zn (wpAny_setField g1 rfl QE ?_);refine Z4 (q _ (λb ob hb e=>N7 hb (N7 hb e)) ?_);have g2:=Hs (n:=es.size) 1 (.int ((i:Int)+1) 0) g1;exact g2
 cases F with
 | byText hb =>
  dsimp only;unfold setNext setsByText;refine Zn (Zn (wpAny_setState_of ho hd ti.fits ?_));dsimp only;refine Zn (Zn (wpAny_askSetting (Z4 ?_)));dsimp only;rw[show (model prog w).w.params.followText "set-order"=true from hb];simp only[↓reduceIte,ZE,bne_self_eq_false,xp];unfold setWalk setsByText;refine Zn (Zn (wpAny_setState_of ho hd ti.fits ?_));dsimp only;refine Zn (Zn (wpAny_askSetting (Z4 ?_)));dsimp only;rw[show (model prog w).w.params.followText "set-order"=true from hb];simp only[↓reduceIte];refine Zn (wpAny_askSetting (Z4 ?_));dsimp only;rw[Jb,Array.getElem?_toList]at hv;have hv':(pickOrder ((model prog w).w.params.setOrder a ep) es)[i]?.map (·.2)=some v:=hv;cases hq:(pickOrder ((model prog w).w.params.setOrder a ep) es)[i]? with
  | none=>rw[hq]at hv';cases hv'
  | some e =>
   rw[hq]at hv';cases hv';refine Z4 ?_;dsimp only[Option.map_some];exact two _ λh1 k1 g1=>⟨_,rfl,Z4 (fin h1 _ k1 g1 (λT z=>by cases z) (.byText hb))⟩
 | @drawn T c ps hp hT2 =>
  dsimp only;refine Zn (wpAny_seqItems hT2 rfl ?_);dsimp only;rw[Jb]at hv;cases hq:ps[i]? with
  | none=>rw[hq]at hv;cases hv
  | some p =>
   rw[hq]at hv;cases hv;have G9:p<es.size:=List.mem_range.mp (hp.mem_iff.mp (Cr hq))
   have e1:(List.map (λ(p:Nat)=>rawInt p) ps).toArray[((i:Int)).toNat]?=some (.int (p:Int) 0):=by
    simp only[ZE,List.getElem?_toArray,Jb,hq]
    rfl
   rw[e1];dsimp only;unfold setNextDrawn;refine Zn (Zn (wpAny_setState_of ho hd ti.fits ?_));dsimp only;simp only[ZE,bne_self_eq_false,xp, ↓reduceIte,ow G9];refine Z4 ?_;refine Zn (wpAny_setField hI rfl QE ?_);have g1:=Hs (n:=es.size) 1 (.int ((i:Int)+1) 0) hI;have e2:(es.getD p (0,Value.none)).2=es[p].2:=by simp[G9]
   refine Z4 ⟨_,rfl,Z4 ?_⟩;have q:=fin _ _ (λb ob hb e=>N7 hb e) g1 (λT z=>z) (.drawn hp (N7 (hT T rfl) hT2));dsimp only at q;rw[e2]at q;exact q
 | plain hb Tb vg =>
  dsimp only;unfold setNext setsByText;refine Zn (Zn (wpAny_setState_of ho hd ti.fits ?_));dsimp only;refine Zn (Zn (wpAny_askSetting (Z4 ?_)));dsimp only;rw[show (model prog w).w.params.followText "set-order"=false from hb];simp only[↓reduceIte,ZE,bne_self_eq_false,xp];rw[if_neg (λz=>by have z':(!t.plain&&decide (es.size>1))=true:=z;rw[Tb]at z';cases z')]
  have led0:∀{Q1:ZP} {E1:Ya},Q1 () s->wpAny (model prog w) A.in1 (if (!t.led && !es.isEmpty)=true then unsupported "set:maker-not-led" else pure ()) Q1 E1 s:=λq=>by
   rw[vg,if_neg QE];exact Z4 q
  refine Zn (led0 ?_);rw[Jb,Array.getElem?_toList]at hv;cases hq:es[i]? with
  | none=>rw[hq]at hv;cases hv
  | some e =>
   rw[hq]at hv;cases hv;have G9:i<es.size:=(Array.getElem?_eq_some_iff.mp hq).1;have hlp:i<t.place.size:=by rw[ti.size];exact G9
   rw[below_at ti.ris (Nat.le_of_lt hlp),hq,ow hlp];refine Z4 ?_;dsimp only;refine two _ λh1 k1 g1=>⟨_,rfl,Z4 (fin h1 _ k1 g1 (λT z=>by cases z) ?_)⟩;have q:=ny.plain (w:=w) (a:=a) (es:=es) (ep:=ep) (t:=t) (h:=h1) (i:=i+1) (tk:=0) hb Tb vg;rw[if_neg (Nat.succ_ne_zero i),Nat.add_sub_cancel,getD_in hlp]at q;exact q
theorem next_end(hh:A.handled=none)(ho:s.heap.get? a=some o)(hex:o.ExactSet)(hd:o.data=.set es ep t)(ti:Cd t es.size)(hI:s.heap.get? I=some (Ov first i a es.size ep))(uc:a≠I)
  (F:ny w a es ep t s.heap i first vs) (hi:i=vs.length)
  (fin:∀h1,(∀b ob,b≠I->s.heap.get? b=some ob->h1.get? b=some ob)->Q none { s with heap:=h1 }) :
  wpAny (model prog w) A (pyNext (.ref I)) Q E s:=by
 have hTy:s.TypeIs (.ref I) "set_iterator" := ⟨_,hI,rfl⟩;have hlen:i=es.size:=by rw[hi,F.perm.length_eq,Yv,xt]
 unfold pyNext;refine Zn (wpAny_attempt (wpAny_callSpecial?_slot (name:=Str.ofString "__next__") hTy Np (wpAny_call_entry Np hTy Ik ?_ (gh _))));unfold Builtin.«set_iterator.__next__» slotArgs;simp only[List.isEmpty_nil,Bool.not_true,xp, ↓reduceIte,bind_assoc,List.length_nil,bne_self_eq_false];refine Zn (Z4 ?_);dsimp only;refine Zn (wpAny_fieldsOf hI rfl ?_);dsimp only[rawInt];refine Zn (wpAny_setEntries_of ho hd ti.fits ?_);rw[if_neg QE]
 have stop:∀(h0:Heap) {Q1:Fin->Shared->Prop},(∀b ob,b≠I->s.heap.get? b=some ob->h0.get? b=some ob)->wpAny (model prog w) A.in1 (do let e <-newExc (.type "StopIteration") [];raiseNew e) Q1
   (λe s'=>wpAny (model prog w) A (do let b <-isInstance e (.type "StopIteration");if b=true then pure none else throw e) Q E s') { s with heap:=h0 }:=by
  intro h0 Q1 k0;refine Zn ?_;simp only[newExc,newTuple];refine Zn (wpAny_newObj_type ?_ (by size_fits));refine Zn (m:=firstArgMember _ _) (wpAny_of_eq (a:=Value.none) (by first | rfl | (simp only[firstArgMember];rfl)) ?_);refine wpAny_newObj_type ?_ (by size_fits);simp only[raiseNew];refine Zn (wpAny_handled ?_);rw[show A.in1.handled=none from hh];refine Zn (Z4 (wpAny_throw ?_));refine Zn (wpAny_isInstance (T:="StopIteration") (b:=true) ⟨_,M7 _ rfl,rfl⟩ isSubtype_stop ?_);exact Z4 (fin _ λb ob hb e=>Uz _ (Uz _ (k0 b ob hb e)))
 have one:∀{Q1:Fin->Shared->Prop},wpAny (model prog w) A.in1 (do setField (.ref I) 2 .none;let e <-newExc (.type "StopIteration") [];raiseNew e) Q1
   (λe s'=>wpAny (model prog w) A (do let b <-isInstance e (.type "StopIteration");if b=true then pure none else throw e) Q E s') s:=by
  intro Q1;exact Zn (wpAny_setField hI rfl QE (stop _ λb ob hb e=>N7 hb e))
 cases F with
 | byText hb =>
  dsimp only;unfold setNext setsByText;refine Zn (Zn (wpAny_setState_of ho hd ti.fits ?_));dsimp only;refine Zn (Zn (wpAny_askSetting (Z4 ?_)));dsimp only;rw[show (model prog w).w.params.followText "set-order"=true from hb];simp only[↓reduceIte,ZE,bne_self_eq_false,xp];unfold setWalk setsByText;refine Zn (Zn (wpAny_setState_of ho hd ti.fits ?_));dsimp only;refine Zn (Zn (wpAny_askSetting (Z4 ?_)));dsimp only;rw[show (model prog w).w.params.followText "set-order"=true from hb];simp only[↓reduceIte];refine Zn (wpAny_askSetting (Z4 ?_));dsimp only
  have no:(pickOrder ((model prog w).w.params.setOrder a ep) es)[i]?=none:=by
   rw[Array.getElem?_eq_none_iff];rw[hi,Yv,xt];exact Yt _
  rw[no];refine Z4 ?_;exact one
 | @drawn T c ps hp hT2 =>
  dsimp only;refine Zn (wpAny_seqItems hT2 rfl ?_);dsimp only
  have e1:(List.map (λ(p:Nat)=>rawInt p) ps).toArray[((i:Int)).toNat]?=none:=by
   rw[hi];simp
  rw[e1];dsimp only;refine Zn (wpAny_setField hI rfl QE ?_);have g1:=Hs (n:=es.size) 0 (.int 0 0) hI;refine Zn (wpAny_setField g1 rfl QE ?_);exact stop _ λb ob hb e=>N7 hb (N7 hb e)
 | plain hb Tb vg =>
  dsimp only;unfold setNext setsByText;refine Zn (Zn (wpAny_setState_of ho hd ti.fits ?_));dsimp only;refine Zn (Zn (wpAny_askSetting (Z4 ?_)));dsimp only;rw[show (model prog w).w.params.followText "set-order"=false from hb];simp only[↓reduceIte,ZE,bne_self_eq_false,xp];rw[if_neg (λz=>by have z':(!t.plain&&decide (es.size>1))=true:=z;rw[Tb]at z';cases z')]
  have led0:∀{Q1:ZP} {E1:Ya},Q1 () s->wpAny (model prog w) A.in1 (if (!t.led && !es.isEmpty)=true then unsupported "set:maker-not-led" else pure ()) Q1 E1 s:=λq=>by
   rw[vg,if_neg QE];exact Z4 q
  refine Zn (led0 ?_);rw[below_at ti.ris (by rw[ti.size,hlen];exact Yt _),Array.getElem?_eq_none (by rw[hlen];exact Yt _)];refine Z4 ?_;exact one
end
theorem gn:Slot "set_iterator" "__iter__" "set_iterator.__iter__" :=
 Slot.of (owner:="set_iterator") (n:="__iter__") (by rw[typeLookup_type,builtinLookup_eq_fast];kernel_rfl) QA QA QA (.inl QA) (by rw[isSubtype_type];kernel_rfl)
theorem Si:entryFor table "set_iterator.__iter__"=some Builtin.«dict_keyiterator.__iter__»:=entryFor_alias (id':="dict_keyiterator.__iter__") (by kernel_rfl) rfl QA (by kernel_rfl)
theorem Hz(a:Value):argsOk "set_iterator.__iter__" ⟨[a],[]⟩:=by unfold argsOk;kernel_rfl
section
variable{prog:Program}{w:World}{A:Around}{E:Ya}{s:Shared}{a I:Addr}{o:Obj}{es:Array (Int×Value)}{ep:Nat}{t:SetTable}{vs:ZG}
def StI(w:World)(a I:Addr)(o:Obj)(es:Array (Int×Value))(ep:Nat)(t:SetTable)(Ts:ZH)(vs:ZG)(i:Nat)(h:Heap):Prop :=
 ∃first,h.get? I=some (Ov first i a es.size ep)/\h.get? a=some o/\(∀T,first=.ref T->T∈Ts)/\ny w a es ep t h i first vs
theorem lq(hh:A.handled=none)(hex:o.ExactSet)(hd:o.data=.set es ep t)(ti:Cd t es.size)(uc:a≠I)(Ts:ZH)(hTs:I∉Ts) :
  Walks prog w A I (I::a::Ts) [I] vs.length (λi v=>vs[i]?=some v) (StI w a I o es ep t Ts vs) where
 sub:=λb hb=>by rw[Nw.mp hb];exact Br
 frame:=λi h h1 st k=>by
  obtain⟨first,g1,g2,g3,F⟩:=st;exact⟨first,k I Br _ g1,k a (Ck _ Br) _ g2,g3,F.heap λT e ob q=>k T (Ck _ (Ck _ (g3 T e))) ob q⟩
 item:=λi s Q E hi st fin=>by
  obtain⟨first,g1,g2,g3,F⟩:=st;refine next_item g2 hex hd ti g1 uc (λT e z=>hTs (z ▸ g3 T e)) F (Bh hi) λh1 first' k1 q1 q2 F1=>?_
  exact fin _ h1 s.toks (Bh hi) ⟨first',q1,k1 a o uc g2,λT e=>g3 T (q2 T e),F1⟩ λb ob hb e=>k1 b ob (λz=>hb (by rw[z];exact List.mem_singleton_self _)) e
 done:=λs Q E st fin=>by
  obtain⟨first,g1,g2,g3,F⟩:=st;exact next_end hh g2 hex hd ti g1 uc F rfl λh1 k1=>fin h1 s.toks λb ob hb e=>k1 b ob (λz=>hb (by rw[z];exact List.mem_singleton_self _)) e
 self:=λi s Q E st q=>by
  obtain⟨first,g1,g2,g3,F⟩:=st;have hTy:s.TypeIs (.ref I) "set_iterator" := ⟨_,g1,rfl⟩;refine wpAny_pyIter_slot hTy gn (wpAny_call_entry gn hTy Si ?_ (Hz _));exact Z4 ⟨_,rfl,"set_iterator",_,hTy,Np.lookup,q⟩
theorem Zq4(hT:s.TypeIs (.ref a) "set")(h:Q false s):wpAny (model prog w) A (Builtin.List.listLengthHint (.ref a)) Q E s:=by
 unfold Builtin.List.listLengthHint;refine Zn (wpAny_specialOf hT PySem.F.slot_set_len.lookup ?_);generalize hid:("set.__len__" : String)=id0
 wp_delta
 rw[show splitId id0=some ("set","__len__") from by subst hid;decide +kernel];subst hid;refine Zn (wpAny_isInstance (b:=true) hT sub_set_self (wpAny_ite_split (λz=>absurd z QI) λ_=>wpAny_ite_split (λ_=>?_) λz=>absurd QA z));exact Zn (wpAny_typeOf hT (Z4 h))
theorem X9(hh:A.handled=none)(ho:s.heap.get? a=some o)(hex:o.ExactSet)(hd:o.data=.set es ep t)(ti:Cd t es.size)(hl:t.led=!(w.params.followText "set-order"))(hb:es.size<scanBound)
  (fin:∀(h1:Heap) (tk:Nat) (d:Drawn) (vs:ZG),(∀b ob,s.heap.get? b=some ob->h1.get? b=some ob)->s.heap.objs.size<h1.objs.size->vs.Perm (es.toList.map (·.2))->Q vs { s with heap:=h1,toks:=tk,drawn:=d }) :
  wpAny (model prog w) A (collect (.ref a)) Q E s:=by
 have alt:=Ut ho;unfold collect;refine Zn (wpAny_runValue (codeAny_builtin entry_proto_collect' ?_));rw[Around.under_plainId PySem.F.plain_proto_collect];refine Zn (m:=newList []) (wpAny_newObj_type (Z4 ⟨plainId_quiet PySem.F.plain_list_iadd _,codeAny_builtin entry_list_iadd' ?_⟩));rw[Around.under_plainId PySem.F.plain_list_iadd];generalize hs1:({ s with heap:=s.heap.push { cls:=.type "list",dict:=none,data:=.seq ([]:ZG).toArray } }:Shared)=s1
 change wpAny (model prog w) A.in1 (Builtin.List.listExtendWith (.ref s.heap.objs.size) (.ref a) (.ref s.heap.objs.size)) _ _ _
 have Vq:s1.heap.get? s.heap.objs.size=some { cls:=.type "list",dict:=none,data:=.seq #[] 0,slots:=#[] }:=by rw[<-hs1];exact M7 _ rfl
 have k1:∀b ob,s.heap.get? b=some ob->s1.heap.get? b=some ob:=λb ob e=>by rw[<-hs1];exact Uz _ e
 have ho1:=k1 a o ho;have hT1:s1.TypeIs (.ref a) "set" := ⟨o,ho1,hex.1⟩;unfold Builtin.List.listExtendWith;refine Zn (wpAny_typeOf hT1 ?_)
 have n1:Builtin.List.listSameRef (.ref s.heap.objs.size) (.ref a)=false:=by
  simp only[Builtin.List.listSameRef,ij];exact Nat.ne_of_gt alt
 have n2:(Value.type "set" == Value.type "list")=false:=QI
 have n3:(Value.type "set" == Value.type "tuple")=false:=QI
 simp only[n1,n2,n3,Bool.or_false,xp,if_false];refine Zn (Zqu ho1 hex hd ti hl hb λI first h2 d vs k2 hI at2 hf F=>?_);generalize hS:s.heap.objs.size=S at *;have S1:S<s1.heap.objs.size:=Ut Vq
 obtain⟨Ts,tin,tout,tall⟩:∃Ts:ZH,(∀T,first=.ref T->T∈Ts)/\I∉Ts/\∀T∈Ts,s1.heap.objs.size<=T:=by
  cases first with
  | ref T=>exact⟨[T],(λT' e=>by cases e;exact List.mem_singleton_self _),λz=>(hf T rfl).1 (Nw.mp z).symm,λT' z=>by rw[Nw.mp z];exact(hf T rfl).2⟩
  | _=>exact⟨[],(λT e=>nomatch e),V9,λT z=>absurd z V9⟩
 have aI:a≠I:=Nj (R0 (Nat.lt_trans alt S1) hI);have SI:S≠I:=Nj (R0 S1 hI)
 have Sfp:S∉I::a::Ts:=λz=>by
  rcases U8.mp z with z | z
  .exact SI z
  .rcases U8.mp z with z | z
   .exact Nat.ne_of_gt alt z
   .exact absurd (R0 S1 (tall S z)) (Nat.lt_irrefl _)
 have hn:vs.length<=sizeLine:=by
  rw[F.perm.length_eq,Yv,xt];exact fits_of_scanBound hb
 have W:=lq (prog:=prog) (w:=w) (A:=A.in1) (vs:=vs) hh hex hd ti aI Ts tout;have qk:StI w a I o es ep t Ts vs 0 h2:=⟨first,at2,k2 a o ho1,tin,F⟩
 have key:∀(h3:Heap) (c:Nat),StI w a I o es ep t Ts vs 0 h3->h3.get? S=some { cls:=.type "list",dict:=none,data:=.seq #[] c,slots:=#[] }->(∀b ob,s.heap.get? b=some ob->h3.get? b=some ob) ->
   codeAny (model prog w) A (.builtin "list.extend.loop" ⟨[.ref S,.ref I,.ref S],[]⟩) (λr s'=>match r with
    | .ok (.ret v)=>wpAny (model prog w) A (match v with
      | .ref a=>do
       let x <-load a
       match x.data with
        | .seq xs _=>pure xs.toList
        | _=>unsupported "internal:collect"
      | _=>unsupported "internal:collect") Q E s'
    | .ok _=>False
    | .error e=>E e s') { heap:=h3,gens:=s1.gens,drawn:=d,toks:=s1.toks,os:=s1.os }:=by
  intro h3 c st3 g3 k3;refine codeAny_extend_loopS W.toS hn S Sfp (.ref S) vs.length 0 _ #[] c rfl (Dc _) st3 g3 (ItemsOf.nil _) λs4 acc c4 mv g4 items=>?_;dsimp only;refine Zn (wpAny_load g4 ?_);dsimp only;obtain⟨h4,gg,d4,tk4,o4⟩:=s4;have x1:gg=s1.gens:=mv.gens;have x2:d4=d:=mv.drawn;have x3:o4=s1.os:=mv.os;subst x1 x2 x3
  have ev:acc.toList=vs:=by
   apply List.ext_getElem?
   intro i;rw[Array.getElem?_toList];by_cases hi:i<vs.length
   .have vf:i<acc.size:=by rw[items.1];exact hi
    rw[ow vf];exact(items.2 i _ (ow vf)).symm
   .rw[Array.getElem?_eq_none (by rw[items.1];omega),List.getElem?_eq_none QU]
  rw[ev];have q:=fin h4 tk4 d4 vs (λb ob e=>mv.heap b ob (λz=>?_) (k3 b ob e)) (Ut g4) F.perm
  .rw[<-hs1];exact Z4 q
  .have lb:=Ut e;rcases U8.mp z with z | z
   .rw[hS,z]at lb;exact Nat.lt_irrefl _ lb
   .rw[Nw.mp z,hS]at lb;exact Nat.lt_irrefl _ (R0 (Nat.lt_trans lb S1) hI)
 have kall:∀b ob,s.heap.get? b=some ob->h2.get? b=some ob:=λb ob e=>k2 b ob (k1 b ob e);have nbS:∀{b:Addr} {ob:Obj},s.heap.get? b=some ob->b≠S:=λe=>Nj (hS ▸ Ut e);refine Zn (wpAny_holding (Zq4 ⟨o,k2 a o ho1,hex.1⟩ ?_));refine wpAny_ite_split (λ_=>?_) (λ_=>Z4 ⟨plainId_quiet PySem.F.plain_extend_loop _,key h2 0 qk (k2 S _ Vq) kall⟩);refine Zn (wpAny_rule (Zn (m:=Builtin.List.listTouch (.ref S)) ?_))
 change wpAny (model prog w) _ (updateSeq S (·.push .none) >>= λ_=>updateSeq S (·.pop)) _ _ _
 refine Zn (wpAny_updateSeq (k2 S _ Vq) rfl ?_);have u1:=Heap.get?_update_self (Obj.mapSeq (·.push Value.none)) (k2 S _ Vq) rfl;refine wpAny_updateSeq (hz:=by seq_fits) u1 rfl ?_;have u2:=Heap.get?_update_self (Obj.mapSeq (·.pop)) u1 rfl;have other:∀b ob,b≠S->h2.get? b=some ob->((h2.update S (Obj.mapSeq (·.push Value.none))).update S (Obj.mapSeq (·.pop))).get? b=some ob:=λb ob z e=>(Heap.get?_update_other _ _ (Ne.symm z)).trans ((Heap.get?_update_other _ _ (Ne.symm z)).trans e);refine Z4 ⟨plainId_quiet PySem.F.plain_extend_loop _,key _ _ (W.frame 0 _ _ qk λb z ob e=>other b ob (λy=>Sfp (y ▸ z)) e) u2 λb ob e=>other b ob (nbS e) (kall b ob e)⟩
end
section
variable{prog:Program}{w:World}{K:Type}[DecidableEq K]{knd:PySem.KeyKind prog w K}{A:Around}{E:Ya}{s:Shared}{a:Addr}
theorem Bb(hb:b≠l)(e:h.get? b=some ob):(sortedHeap h l vs out).get? b=some ob:=by
 rw[sortedHeap_old hb (Ut e)];exact e
theorem Ph{j Z γ:Type}{G:j->γ->Prop}{g:Z->γ}:∀{l:List j} {r:List Z},Paired (λx y=>G x (g y)) l r->Paired G l (r.map g)
 | _,_,.nil=>.nil
 | _,_,.cons q t=>.cons q (Ph t)
theorem Sa(hh:A.handled=none)(hS:Ct knd s.heap a ks)
  (fin:∀(h1:Heap) (tk:Nat) (d:Drawn) (vs:ZG) (ks1:List K),(∀b ob,s.heap.get? b=some ob->h1.get? b=some ob)->s.heap.objs.size<h1.objs.size->Paired (λk v=>knd.is k v=true) ks1 vs->ks1.Perm ks ->
   wpAny (model prog w) A.in1.in1 (Builtin.«list.sort» ⟨[.ref h1.objs.size],[]⟩) (λr s2=>r=.done (.ret .none)/\Q (.ref h1.objs.size) s2) E { s with heap:=h1.push (seqObj "list" vs.toArray 0),toks:=tk,drawn:=d }) :
  wpAny (model prog w) A (call (.builtin "sorted") [.ref a]) Q E s:=by
 obtain⟨o,ho,S⟩:=hS;obtain⟨es,ep,t,hd,hel,pr,hb,ti,hl⟩:=S.dat;refine Calls.call_function_entry kind_sorted plain_sorted entry_sorted (args_sorted1 _) ?_;unfold Builtin.«sorted»;refine Zn (m:=checkCount "sorted" 1 1 _) (Z4 ?_);refine Zn (X9 hh ho S.ex hd ti hl hb λh1 tk d vs k1 sz hp=>?_)
 have hn:vs.length<=sizeLine:=by
  rw[hp.length_eq,Yv,xt];exact fits_of_scanBound hb
 have pr2:Paired (λk v=>knd.is k v=true) ks (es.toList.map (·.2)):=Ph pr;obtain⟨ks1,pr3,pk⟩:=B5 hp pr2;refine Zn (wpAny_newList ?_ hn);refine Zn (wpAny_holding ?_);have Vq:(h1.push (seqObj "list" vs.toArray 0)).get? h1.objs.size=some (seqObj "list" vs.toArray 0):=M7 _ rfl;refine wpAny_call_entry slot_list_sort ⟨_,Vq,rfl⟩ entry_list_sort ?_ (args_list_sort _);refine wpAny_mono (fin h1 tk d vs ks1 k1 sz pr3 pk) (λr s2 q=>?_) λ_ _ z=>z;obtain⟨rfl,q⟩:=q;exact⟨_,rfl,Z4 ⟨_,rfl,q⟩⟩
theorem ko:∀{ks:List K} {vs:ZG},(∀k v,k∈ks->knd.is k v=true->∃t,v=.str (f k) t)->Paired (λk v=>knd.is k v=true) ks vs->StrsAre vs (ks.map f)
 | _,_,_,.nil=>.nil
 | k::ks,v::vs,hf,.cons r t=>by
  obtain⟨tk,rfl⟩:=hf k v Br r;exact .cons _ _ (ko (λk v hk=>hf k v (Ck _ hk)) t)
theorem Qz(hh:A.handled=none)(hS:Ct knd s.heap a ks)(hf:∀k v,k∈ks->knd.is k v=true->∃t,v=.str (f k) t)(h64:ks.length<64)
  (fin:∀(h1:Heap) (tk:Nat) (d:Drawn) (l:Addr) (out:ZT) (n:Nat) (ns:ZF),(∀b ob,s.heap.get? b=some ob->h1.get? b=some ob)->s.heap.objs.size<=l->h1.get? l=some (seqObj "list" out n)->StrsAre out.toList ns->ns.Perm (ks.map f)->sortedS ns=true->Q (.ref l) { s with heap:=h1,toks:=tk,drawn:=d }) :
  wpAny (model prog w) A (call (.builtin "sorted") [.ref a]) Q E s:=by
 refine Sa hh hS λh1 tk d vs ks1 k1 sz pr pk=>?_;have hI:=ko (λk v hk=>hf k v (pk.mem_iff.mp hk)) pr;have hlen:vs.length=ks.length:=by rw[<-pr.length,pk.length_eq]
 refine list_sort_treeK strKind_oneLt (s:={ s with heap:=h1.push (seqObj "list" vs.toArray 0),toks:=tk,drawn:=d }) (M7 _ rfl) hI.keysOf (λv1 v2 rest e=>keyKind_strs (by rw[<-e];exact hI)) QU λst hp hs=>⟨rfl,?_⟩;obtain⟨ns,q1,q2,q3⟩:=sorted_out_str hI hp hs;obtain⟨n,e⟩:=sortedHeap_at (h:=h1.push (seqObj "list" vs.toArray 0)) (a:=h1.objs.size) (vs:=vs) (n:=0) (out:=(arrOf st).map (·.2)) (M7 _ rfl);exact fin _ tk d h1.objs.size _ n ns (λb ob e0=>Bb (Nj (Ut (k1 b ob e0))) (Uz _ (k1 b ob e0))) (Nat.le_of_lt sz) e q1 (q2.trans (pk.map f)) q3
end
end SetM
namespace L2
open PySem PySem.Spec PyProof.Rows
noncomputable def z8(P:Program)(w:World)(a:Addr)(us:List Key):HO:=.ext λh=>SetM.Ct (Z8 P w) h a us
theorem Zvq(k:Key)(r:RelV (kV k) v):(Z8 P w).is k v=true/\v.scannable=true:=by
 cases k with
 | inl i=>obtain⟨t,rfl⟩:=(show ∃t,v=Value.int i t from r);exact⟨Kx i t,rfl⟩
 | inr x=>obtain⟨t,rfl⟩:=(show ∃t,v=Value.str x t from r);exact⟨Kz x t,rfl⟩
theorem Inv.put{X:Cx}{XX:Vs}{j:St}{H:Hp}{s:Shared}{h':Heap}{a:Addr}{o:HO}{t':Nat}{d':Drawn}(I:Inv X XX j H s)(k:∀b u,s.heap.get? b=some u->h'.get? b=some u)(hp:s.heap.objs.size<=a)(new:Y4 X.prog X.w (upd H a o) h' a o) :
  Inv X XX j (upd H a o) { s with heap:=h',toks:=t',drawn:=d' } :=
 I.call (g':=s.gens) (t':=t') (d':=d') (ch:=[]) (Un.laid k hp (I.hok.fresh hp)) (I.hok.laid k hp new) I.bare λb z=>absurd z V9
section
variable{X:Cx}
theorem au(hc:X.calm=true):Jm X (.type "set") (λxs H Q=>∃(p:Addr) (ks:List Key),xs=[.ref p]/\Zu X.K H p (ks.map kV)/\ks.length+1<scanBound /\
  ∀(l:Addr) (us:List Key),H l=none->us.Nodup->(∀x,x∈us↔x∈ks)->us.length<=ks.length->Q (.ref l) (upd H l (z8 X.prog X.w l us))):=by
 intro XX s Z H xs us Q I r h;obtain⟨p,ks,rfl,hq,hz,q⟩:=h;obtain⟨u,rfl,rx⟩:=vals1 r;cases rx;obtain⟨XJ,rv,pl,hzz⟩:=I.list hq;have hl:XJ.toArray.size=ks.length:=by rw[Mw, <-rv.length,Yv]
 refine SetM.Zjo (knd:=Z8 X.prog X.w) (val:=λi=>ks.getD i (.inl 0)) (I.ok.hd hc) pl.isList (λi v e=>?_) QU λh1 tk ws S u k1=>?_
 .have e':XJ[i]?=some v:=by simpa using e
  have hi:i<ks.length:=by
   have:=(Bl.mp e').1;rw[Mw]at hl;omega
  have e2:(ks.map kV)[i]?=some (kV ks[i]):=by rw[Jb,Bh hi];rfl
  obtain⟨v',g1,g2⟩:=rv.get e2;rw[e']at g1;cases g1;have e3:ks.getD i (.inl 0)=ks[i]:=by simp[hi]
  rw[e3];exact Zvq _ g2
 .obtain⟨o,ho,SO⟩:=id S
  have mem:∀x,x∈ws↔x∈ks:=λx=>by
   rw[u.mem x,hl];constructor
   .rintro⟨j,h1,h2⟩;rw[<-h2];have e3:ks.getD j (.inl 0)=ks[j]:=by simp[h1]
    rw[e3];exact G0e h1
   .intro hx;obtain⟨j,h1,h2⟩:=List.mem_iff_getElem.mp hx;exact⟨j,h1,by simp[h1,h2]⟩
  refine⟨.ref s.heap.objs.size,_,I.put (o:=z8 X.prog X.w s.heap.objs.size ws) (d':=s.drawn) k1 (Yt _) ⟨S,⟨o,ho⟩,λh2 h3 x e=>SetM.Ct.at' x e⟩,rfl,q _ ws (I.hok.fresh (Yt _)) SO.nd mem ?_⟩;have:=u.len;omega
theorem Eh:∀{vs:ZG} {ss:ZF},StrsAre vs ss->Yj (ss.map V.str) vs
 | _,_,.nil=>.nil
 | _,_,.cons y t r=>.cons ⟨t,rfl⟩ (Eh r)
theorem Ag(hc:X.calm=true):Jm X (.builtin "sorted") (λxs H Q=>∃(a:Addr) (zs:ZF),xs=[.ref a]/\H a=some (z8 X.prog X.w a (zs.map Sum.inr))/\zs.length<64 /\
  ∀(l:Addr) (ns:ZF),H l=none->ns.Perm zs->sortedS ns=true->Q (.ref l) (upd H l (.lst (ns.map V.str)))):=by
 intro XX s Z H xs us Q I r h;obtain⟨a,zs,rfl,hq,hz,q⟩:=h;obtain⟨u,rfl,rx⟩:=vals1 r;cases rx;obtain⟨S,_,_⟩:=(show SetM.Ct (Z8 X.prog X.w) s.heap a (zs.map Sum.inr)/\_ from I.hok a _ hq);refine SetM.Qz (knd:=Z8 X.prog X.w) (f:=λk=>match k with | .inl _=>("" : Str) | .inr x=>x) (I.ok.hd hc) S (λk v hk hv=>?_) (by rw[Yv];exact hz) λh1 tk d l out n ns k1 sz Vq hI pm pw=>?_
 .obtain⟨x,_,rfl⟩:=G3.mp hk;rcases Yu (show Wb (Sum.inr x) v=true from hv) with ⟨j,t,e,rfl⟩ | ⟨y,t,e,rfl⟩
  .cases e
  .cases e;exact⟨t,rfl⟩
 .have pm':ns.Perm zs:=by
   have e:(zs.map (Sum.inr:Str->Key)).map (λk=>match k with | .inl _=>("" : Str) | .inr x=>x)=zs:=by rw[List.map_map];exact List.map_id' _
   rw[<-e];exact pm
  refine⟨.ref l,_,I.put (o:=.lst (ns.map V.str)) k1 sz ⟨?_,out.toList,n,Eh hI,?_⟩,rfl,q l ns (I.hok.fresh sz) pm' pw⟩
  .rw[Yv,pm'.length_eq];exact Nat.le_of_lt (Yx QU)
  .simpa using Vq
end
end L2
namespace ZipL
open PySem PySem.Calls PyProof.Rows PyProof.V PySem.Spec
section
variable{prog:Program}{w:World}{A:Around}{E:Ya}{s:Shared}{z TI TO T i1 i2 l1 l2:Addr}{f:Bool}{oT:Obj}{k1 k2:Nat}{xs ys:ZT}{x y:Value}
end
section
variable{prog:Program}{w:World}{A:Around}{R:Result->Shared->Prop}{E:Ya}{s:Shared}{z TI TO i1 i2 l1 l2 S:Addr}{xs ys:ZT}
end
end ZipL
namespace L2
open PySem PySem.Spec PyProof.Rows
section
variable{X:Cx}{XX:Vs}{j:St}{H H':Hp}{s:Shared}{h':Heap}
end
section
variable{X:Cx}{x y:Str}{p p2 pos Du:Pos}{a b:Expr}{t:TA}
end
def Fn(P:Program)(w:World)(K:W.Frag)(mg:G6)(base:Heap)(k:Nat)(x:Str)(ps:ZF)(sp:Sp):Prop :=
 ∃f fd,Yk P w K mg base Mm k f fd ps sp/\Binds K fd ps []/\W.keepIn K (.ref f)=true/\mg x=some (.ref f)
section
variable{X:Cx}{k:Nat}{x:Str}{ps:ZF}{sp:Sp}{p pos:Pos}{e:Expr}{es:ZD}{t:TA}
theorem Wz(G:Fn X.prog X.w X.K X.mg X.base k x ps sp)(hr:V8 k X.A)(hg:Gl X x)(ha:PA X (e::es) t)(He:(x==("__debug__" : Str))=false:=by decide)
  (he:starEach (e::es) X.env=(false,eval e X.env)::starEach es X.env:=by rfl) (Tb:(backTo pos (starEach es X.env)).any (·.1)=false:=by rfl) :
  PE X (.Call (.Name x p) (e::es) [] pos) (Zzu sp [] E0 t):=by
 obtain⟨f,fd,F,b,kp,m⟩:=G;exact Zv4 F hr hg m kp b .nil Zxa ha He he Tb
theorem Yk.any{P:Program}{w:World}{K:W.Frag}{mg:G6}{base:Heap}{CX:A3}{k:Nat}{f:Addr}{fd:FuncData}{ps:ZF}{ι:Type}{C:ι->Prop}{sp:ι->Sp}(h:∀i,C i->Yk P w K mg base CX k f fd ps (sp i)) :
  Yk P w K mg base CX k f fd ps (λvs H Q E=>∃i,C i/\sp i vs H Q E) :=
 ⟨λvs H Q E ⟨i,c,q⟩=>(h i c).len vs H Q E q,λA outer s H args us vs Q E hr he hb hv ⟨i,c,q⟩=>(h i c).run A outer s H args us vs Q E hr he hb hv q⟩
end
def Up(K:W.Frag)(H H':Hp):Prop:=∀a xs,Zp K H a xs->Zp K H' a xs
theorem Up.refl{K:W.Frag}(H:Hp):Up K H H:=λ_ _ h=>h
theorem Up.trans{K:W.Frag}{H H1 H2:Hp}(a:Up K H H1)(b:Up K H1 H2):Up K H H2:=λc xs h=>b c xs (a c xs h)
theorem Zv.up{K:W.Frag}{H H':Hp}(e:Zv H H'):Up K H H':=λa xs h=>by
 rcases h with (h | ⟨o,h⟩) | h
 .exact .inl (.inl (e _ _ h))
 .exact .inl (.inr ⟨o,e _ _ h⟩)
 .exact .inr h
theorem Zv.put{H H1:Hp}{p:Addr}{o:HO}(e:Zv H H1)(h:H p=none):Zv H (upd H1 p o):=λb u q=>by
 rw[Zm (Z0 q h)];exact e b u q
mutual
noncomputable def noL:D->Bool
 | .tup xs=>Zqj xs
 | .lst _=>false
 | _=>true
noncomputable def Zqj:List D->Bool
 | []=>true
 | d::ds=>noL d&&Zqj ds
end
mutual
theorem Q0.up{K:W.Frag}{H H':Hp}(u:Up K H H'):∀(d:D) (v:V),noL d=true->Q0 K H d v->Q0 K H' d v
 | .non,v,_,h=>h
 | .bl b,v,_,h=>h
 | .int i,v,_,h=>h
 | .str x,v,_,h=>h
 | .tup ds,v,n,h=>by
  obtain⟨a,vs,e,q,r⟩:=h;exact⟨a,vs,e,u a vs q,Vg.up u ds vs (by simpa [noL] using n) r⟩
 | .lst ds,v,n,h=>by simp[noL]at n
theorem Vg.up{K:W.Frag}{H H':Hp}(u:Up K H H'):∀(ds:List D) (vs:ZZ),Zqj ds=true->Vg K H ds vs->Vg K H' ds vs
 | [],vs,_,h=>h
 | d::ds,vs,n,h=>by
  obtain⟨v,r,e,q,t⟩:=h;have n':noL d=true/\Zqj ds=true:=by simpa [Zqj] using n
  exact⟨v,r,e,Q0.up u d v n'.1 q,Vg.up u ds r n'.2 t⟩
end
theorem Vg.append{K:W.Frag}{H:Hp}:∀{ds es:List D} {vs ws:ZZ},Vg K H ds vs->Vg K H es ws->Vg K H (ds++es) (vs++ws)
 | [],es,vs,ws,h,h'=>by
  have e:vs=[]:=h;subst e;exact h'
 | d::ds,es,vs,ws,h,h'=>by
  obtain⟨v,r,e,q,t⟩:=h;subst e;exact⟨v,r++ws,rfl,q,Vg.append t h'⟩
theorem Vg.one{K:W.Frag}{H:Hp}{d:D}{v:V}(h:Q0 K H d v):Vg K H [d] [v]:=⟨v,[],rfl,h,rfl⟩
theorem Vg.take{K:W.Frag}{H:Hp}:∀{ds:List D} {vs:ZZ} (n:Nat),Vg K H ds vs->Vg K H (ds.take n) (vs.take n)
 | ds,vs,0,_=>rfl
 | [],vs,n+1,h=>by
  have e:vs=[]:=h;subst e
  rfl
 | d::ds,vs,n+1,h=>by
  obtain⟨v,r,e,q,t⟩:=h;subst e;exact⟨v,r.take n,rfl,q,Vg.take n t⟩
theorem up_set{K:W.Frag}{H:Hp}{p:Addr}{o:HO}{ys:ZZ}(h:H p=some (.lst ys)):Up K H (upd H p o):=λc xs q=>by
 have ne:∀u,H c=some u->(∀ys,u≠.lst ys)->c≠p:=λu e n z=>by
  rw[z,h]at e;cases e;exact n _ rfl
 rcases q with (q | ⟨u,q⟩) | q
 .exact .inl (.inl (by rw[Zm (ne _ q λ_ z=>nomatch z)];exact q))
 .exact .inl (.inr ⟨u,by rw[Zm (ne _ q λ_ z=>nomatch z)];exact q⟩)
 .exact .inr q
section
variable{X:Cx}
theorem N0(i:Nat){x:Str}{e:Expr}{te:TE}{pos pos':Pos}(hN:X.N.Nodup)(hi:X.N[i]?=some x)(hx:Loc X.env.scope x)(he:PE X e te)
  (hs:swapsWith e (some (.Name x pos')) pos.line X.env=pure false:=by rfl) (hf:X.fn x=true\/X.env.scope.names.lookup x=some .local:=by first | exact .inl rfl | exact .inr rfl | assumption) :
  PS X (.Assign [.Name x pos'] e pos) (l7 te (D9 i)):=ps_set hN hi hx he hs hf
theorem R9(i:Nat){x:Str}{pos:Pos}(hN:X.N.Nodup)(hi:X.N[i]?=some x)(hx:Loc X.env.scope x)
  (hf:X.fn x=true\/X.env.scope.names.lookup x=some .local:=by first | exact .inl rfl | exact .inr rfl | assumption):PG X (.Name x pos) (D9 i):=Zve hN hi hx hf
theorem Ub{x:Str}{C:Addr}{pos:Pos}(hg:Gl X x)(hm:X.mg x=some (.ref C))(hd:(x==("__debug__" : Str))=false:=by decide):PE X (.Name x pos) (tC (.ref C)):=Zv0 hg hm rfl hd
theorem Zxp(hg:Gl X x)(hm:X.mg x=none)(hv:bootBuiltins x=some (.type T))(hn:x ≠ "__name__" := by decide)(hd:(x==("__debug__" : Str))=false:=by decide) :
  PE X (.Name x pos) (tC (.ty T)):=Zv5 hg hm hv rfl hn hd
theorem Gu(NX:ZF)(outer:Scope)(N:ZF)(fr:ZY){scope:Scope}{tg elt iter:Expr}{ifs:ZD}{pos:Pos}{wi:TI}{g:DG}{tt:DT}{te:DE}(hc:X.calm=true)(hi:PI X tg iter wi)
  (C:Bg X NX outer scope N fr) (hg:∀fp s H,PG (Z6 X scope N fp s H) tg (g fp s H)) (ht:∀fp s H,PTs (Z6 X scope N fp s H) ifs (tt fp s H)) (he:∀fp s H,PE (Z6 X scope N fp s H) elt (te fp s H))
  (hs:∀x,foldedSetIterable iter X.env x=pure x:=by intro _;rfl):PE X (.ListComp elt [⟨tg,iter,ifs,0⟩] scope pos) (A8 wi fr g tt te):=Zv3 hc hi C hg ht he hs
theorem V2(i:Nat)(NX:ZF)(outer:Scope)(N:ZF)(fr:ZY){scope:Scope}{tg elt iter:Expr}{ifs:ZD}{pos pos' Du:Pos}{wi:TI}{g:DG}{tt:DT}{te:DE}{x:Str}(hN:X.N.Nodup)(hix:X.N[i]?=some x)
  (hx:Loc X.env.scope x) (hc:X.calm=true) (hi:PI X tg iter wi) (C:Bg X NX outer scope N fr) (hg:∀fp s H,PG (Z6 X scope N fp s H) tg (g fp s H)) (ht:∀fp s H,PTs (Z6 X scope N fp s H) ifs (tt fp s H))
  (he:∀fp s H,PE (Z6 X scope N fp s H) elt (te fp s H)) (hsw:swapsWith (.ListComp elt [⟨tg,iter,ifs,0⟩] scope pos) (some (.Name x pos')) Du.line X.env=pure true:=by rfl)
  (hs:∀x,foldedSetIterable iter X.env x=pure x:=by intro _;rfl) (hf:X.fn x=true\/X.env.scope.names.lookup x=some .local:=by first | exact .inl rfl | exact .inr rfl | assumption) :
  PS X (.Assign [.Name x pos'] (.ListComp elt [⟨tg,iter,ifs,0⟩] scope pos) Du) (l7 (A8 wi fr g tt te) (D9 i)):=jf hN hix hx hc hi C hg ht he hsw hs hf
end
end L2
namespace DctE
open PySem PySem.SeqAt PySem.MeetsSeq
open PySem.AutoSeq1 (wpAny_loadPart')
end DctE
namespace L2
open PySem PySem.Spec PyProof.Rows
section
variable{X:Cx}{XX:Vs}{j:St}{H H':Hp}{s:Shared}{h':Heap}
theorem Inv.turnLay{t':Nat}{fp:ZH}{a:Addr}{o:HO}(I:Inv X XX j H s)(k:∀b u,b∉fp->s.heap.get? b=some u->h'.get? b=some u)(hf:∀b∈fp,Nt X XX H b)(hp:s.heap.objs.size<=a)(new:Y4 X.prog X.w (upd H a o) h' a o) :
  Inv X XX j (upd H a o) { s with heap:=h',toks:=t' }:=by
 have hn:=I.hok.fresh hp
 have nf:∀b u,H b=some u->b∉fp:=λb u e m=>by
  have z:=(hf b m).1;rw[e]at z;cases z
 have na:∀b u,s.heap.get? b=some u->b≠a:=λb u e=>Nj (R0 (Ut e) hp)
 refine I.call (g':=s.gens) (d':=s.drawn) (ch:=fp) ⟨λb u e _ _ hx=>k b u hx e,λb u e _ _ hx=>⟨u.slots,k b u hx e⟩,λb u e n _=>by rw[Zm (na b u e)];exact n,λb u e hx=>⟨u,k b u hx e⟩,
  λb xs e=>by rw[Zm (Z0 e hn)];exact e,λb ob u e=>by rw[Zm (Z0 e hn)];exact e,λb ps e=>⟨#[],by rw[Zm (Z0 e hn)];simp[e]⟩⟩ (λb u e=>?_) I.bare
  λb hb=>⟨(hf b hb).2.2.2.1,(hf b hb).2.1,(hf b hb).2.2.2.2.1,(hf b hb).2.2.2.2.2⟩
 by_cases hb:b=a
 .subst hb;rw[Zz]at e;cases e;exact new
 .rw[Zm hb]at e;refine(I.hok b u e).stay (λc v hc q=>k c v ?_ q) (λc q=>by rw[Zm (Z0 q hn)];exact q) λc xs q=>by rw[Zm (Z0 q hn)];exact q
  rcases hc with z | z
  .rw[z];exact nf b u e
  .exact nf c _ z
theorem Inv.turnL{t':Nat}{fp:ZH}(I:Inv X XX j H s)(k:∀b u,b∉fp->s.heap.get? b=some u->h'.get? b=some u)(hf:∀b∈fp,Nt X XX H b) :
  Inv X XX j H { s with heap:=h',toks:=t' }:=by
 have nf:∀b u,H b=some u->b∉fp:=λb u e m=>by
  have z:=(hf b m).1;rw[e]at z;cases z
 refine I.call (g':=s.gens) (d':=s.drawn) (ch:=fp) ⟨λb u e _ _ hx=>k b u hx e,λb u e _ _ hx=>⟨u.slots,k b u hx e⟩,λb u e n _=>n,λb u e hx=>⟨u,k b u hx e⟩,
  λb xs e=>e,λb ob u e=>e,λb ps e=>⟨#[],by simp[e]⟩⟩ (λb u e=>?_) I.bare
  λb hb=>⟨(hf b hb).2.2.2.1,(hf b hb).2.1,(hf b hb).2.2.2.2.1,(hf b hb).2.2.2.2.2⟩
 refine(I.hok b u e).stay (λc v hc q=>k c v ?_ q) (λc q=>q) λc xs q=>q;rcases hc with z | z
 .rw[z];exact nf b u e
 .exact nf c _ z
end
section
variable{X:Cx}{pos:Pos}
def tDct0:TE:=λ_ H Q=>∀p,H p=none->Q (.ref p) (upd H p (.dK []))
theorem fc:PE X (.Dict [] [] pos) tDct0:=λXX s j H Q I h =>
 wpAny_Dict_empty ⟨.ref s.heap.objs.size,_,I.laid (a:=s.heap.objs.size) (o:=.dK []) (t':=s.toks) (λ_ _ q=>Uz _ q) (Yt _)
  ⟨Dc _,ij.mpr (Ne.symm (Nj (Nat.lt_trans QI (I.mod.glob.keeps I.bk).lt))),[],.nil,Heap.DictOf.new s.heap⟩,rfl,h _ (I.hok.fresh (Yt _))⟩
theorem all_range(bs:List Bool):((List.range bs.length).all λi=>(bs[i]?).getD true)=bs.all id:=by
 rw[Bool.eq_iff_iff,A0t,A0t];constructor
 .intro h b hb;obtain⟨i,hi⟩:=List.mem_iff_getElem?.mp hb;have:=h i (List.mem_range.mpr (Bl.mp hi).1);rw[hi]at this;simpa using this
 .intro h i hi;have vf:=List.mem_range.mp hi;rw[Bh vf];simpa using h _ (G0e vf)
inductive zk(K:W.Frag)(xs:ZZ)(H:Hp)(Q:VK):Prop
 | mk(p:Addr)(bs:List Bool)(Vx:xs=[.ref p])(Vz:Zu K H p (bs.map V.bl))(Vp:Q (.bl (bs.all id)) H)
theorem aa(hc:X.calm=true):Jm X (.builtin "all") (λxs H Q=>zk X.K xs H Q):=by
 intro XX s j H xs us Q I r h;obtain⟨p,bs,rfl,hq,q⟩:=h;obtain⟨u,rfl,rx⟩:=vals1 r;cases rx;obtain⟨XJ,rv,pl,hz⟩:=I.list hq;have hl:=pl.isList;have G9:p<s.heap.objs.size:=by obtain⟨_,e,_⟩:=hl;exact Ut e
 have hlen:XJ.toArray.size=bs.length:=by rw[Mw, <-rv.length,Yv]
 refine call_all_walk (wpAny_pyIter_list hl ?_)
 refine⟨s.heap.objs.size,[s.heap.objs.size,p],[s.heap.objs.size],XJ.toArray.size,_,_,λi=>(bs[i]?).getD true,rfl,Walks.list (A:=X.A.in1) (I.ok.hd hc) _ p (Nj G9) XJ.toArray,
  ⟨⟨_,M7 _ rfl,rfl,rfl⟩,hl.push _⟩,λi v s' Q' E' hP hQ=>?_,λh' tk hk=>?_⟩
 .have e0:XJ[i]?=some v:=by simpa using hP
  have hi:i<bs.length:=by
   have:=(Bl.mp e0).1;rw[Mw]at hlen;omega
  obtain⟨v',e1,e2⟩:=rv.get (i:=i) (x:=V.bl bs[i]) (by rw[Jb,Bh hi];rfl);rw[e0]at e1;cases e1;cases e2;dsimp only at hQ;rw[Bh hi]at hQ;exact wpAny_truthy_bool hQ
 .rw[hlen,all_range];refine⟨.bl _,H,I.kept λb x e=>hk b x (λhm=>?_) (Uz _ e),rfl,q⟩;rw[Nw.mp hm]at e;exact Nat.lt_irrefl _ (Ut e)
noncomputable def sj(i:Str)(n:Nat):Str:=⟨(List.replicate n i.cps).foldl (·++·) #[]⟩
theorem Zxw(a:ZL):∀(n:Nat) (acc:ZL),((List.replicate n a).foldl (·++·) acc).toList=acc.toList++(List.replicate n a.toList).flatten
 | 0,acc=>by simp
 | n+1,acc=>by
  rw[List.replicate_succ,List.foldl_cons,Zxw a n (acc++a),List.replicate_succ,List.flatten_cons,Array.toList_append,ZA]
theorem Pm(i:Str)(n:Nat):(sj i n).cps.toList=(List.replicate n i.cps.toList).flatten:=by
 show ((List.replicate n i.cps).foldl (·++·) #[]).toList=_;rw[Zxw]
 rfl
theorem Ir(i:Str)(n:Nat):(sj i n).length=n*i.length:=by
 show (sj i n).cps.size=n*i.cps.size;rw[<-xt,Pm,len_rep,xt]
inductive px(x:V)(y:V)(H:Hp)(Q:VK):Prop
 | mk(i:Str)(n:Int)(Vx:x=.str i)(Vz:y=.int n)(Vp:2<=n)(Jn:n<=1000)(Mf:i.length≠0)(Co:i.length<=1000)(Xo:Q (.str (sj i n.toNat)) H)
theorem bz:M4 X (binaryOp .Mult) (λx y H Q=>px x y H Q):=by
 intro XX s j H x y v u Q I rx ry h;obtain⟨i,n,rfl,rfl,n2,n1,i0,i1,q⟩:=h;obtain⟨t,rfl⟩:=rx;obtain⟨t',rfl⟩:=ry;have c1:¬ n<1:=QU
 have c2:(n==1 || i.length==0)=false:=by
  rw[Bool.or_eq_false_iff];exact⟨ij.mpr QU,ij.mpr i0⟩
 have hm:i.length*n.toNat<=1000000:=Vf (Nat.mul_le_mul i1 (show n.toNat<=1000 by omega)) QI;refine PySem.P.mul_str ?_ (λ_ _=>?_) (λ_ _=>?_) ?_
 .rw[Bool.or_eq_false_iff];exact⟨F9 QU,F9 QU⟩
 .intro z;have hn0:(0:Int)<n:=QU
  have h1:(1000:Int)*n<=2 ^ 63-1:=QU
  have h2:=(Int.le_ediv_iff_mul_le hn0).mpr h1;omega
 .show decide (i.length*n.toNat>sizeLine)=false;exact F9 (Nat.not_lt_of_le (Vf hm QI))
 .rw[if_neg c1,if_neg (by rw[c2];decide)];have hl:(sj i n.toNat).length<=sizeLine:=by rw[Ir,Nat.mul_comm];exact Vf hm QI
  exact⟨hl,⟨.str _,H,I.tok _,⟨_,rfl⟩,q⟩⟩
end
section
variable{X:Cx}{tg l:Expr}{tl:TE}
end
section
variable{X:Cx}{es:ZD}{k:Nat}{p2 pos Du:Pos}{a b:Expr}{t:TA}
end
section
variable{X:Cx}
inductive jc(K:W.Frag)(x:V)(y:V)(H:Hp)(Q:VK):Prop
 | mk(l b zs)(Vx:x=.ref l)(Vz:y=.ref b)(Vp:Zp K H l [])(Jn:Zp K H b zs)(Mf:Q (.ref b) H)
theorem Zx3:M4 X (binaryOp .Add) (λx y H Q=>jc X.K x y H Q):=by
 intro XX s j H x y v u Q I rx ry h;obtain⟨l,b,zs,rfl,rfl,hl,hb,q⟩:=h;cases rx;cases ry;obtain⟨i1,r1,p1,z1⟩:=I.tuple hl;obtain⟨i2,r2,p2,z2⟩:=I.tuple hb;have e1:i1=[]:=by cases r1;rfl
 subst e1;obtain⟨⟨c1,d1,t1,s1⟩,o1,k1,n1,m1⟩:=id p1;obtain⟨⟨c2,d2,t2,s2⟩,o2,k2,n2,m2⟩:=id p2;simp only at k1 m1 k2 m2;subst k1 m1 k2 m2;exact concat_meets ⟨_,o1,rfl⟩ ⟨_,o2,rfl⟩ noFill_tuple_add seq_tuple_add PySem.F.slot_tuple_add PySem.F.entry_tuple_add (PySem.F.args_tuple_add_2 _ _) (tuple_addW0 l b _ _ n1 n2 d1 d2 s1 s2 rfl) ⟨o1,o2,⟨.ref b,H,I,rfl,q⟩⟩
end
end L2
namespace HT
open PySem PySem.Spec PyProof.Rows
section
variable{prog:Program}{w:World}{A:Around}{E:Ya}{s:Shared}
theorem Cb{t sl:Addr}{items:ZT}{vl vu:Value}{lo hi:ZN}{Q:Ya}(ht:IsTup s.heap t items)(hs:s.heap.IsSliceOf sl vl vu .none)(pl:IsPart vl lo)(pu:IsPart vu hi)
  (hw:Uj items.size 0 lo=0/\Uj items.size items.size hi=items.size) (h:Q (.ref t) s):wpAny (model prog w) A (getItem (.ref t) (.ref sl)) Q E s:=by
 obtain⟨os,hos,hcs,hds⟩:=id hs;have hTs:s.TypeIs (.ref sl) "slice" := ⟨os,hos,hcs⟩;unfold getItem
 try with_reducible refine wpAny_holding ?_
 first | refine Zn (Z4 ?_) | skip
 refine Zn (wpAny_sequenceKey ht.typeIs QI ?_)
 refine Zn (wpAny_callSpecial?_slot (name:=Str.ofString "__getitem__") ht.typeIs slot_tuple_getitem
  (wpAny_call_entry slot_tuple_getitem ht.typeIs entry_tuple_getitem ?_ (args_tuple_getitem _ _)))
 show wpAny _ _ (Builtin.Tuple.tupleItemsOf (.ref t) >>= _) _ _ s;refine Zn (tupleItemsOf_ ht ?_);refine Zn (wpAny_typeOf hTs ?_);rw[if_pos QI];refine Zn (Ny hs pl pu ?_)
 have hyes:(((Uj items.size 0 lo:Nat):Int)==0&&(1:Int)==1&&(Uj items.size items.size hi-Uj items.size 0 lo)==items.size)=true:=by
  rw[hw.1,hw.2];simp
 show wpAny _ _ (if (((Uj items.size 0 lo:Nat):Int)==0&&(1:Int)==1&&(Uj items.size items.size hi-Uj items.size 0 lo)==items.size)=true then _ else _) _ _ s;rw[if_pos hyes];refine Zn (m:=Builtin.Tuple.tupleIsExact (.ref t)) (Zn (wpAny_typeOf ht.typeIs (Z4 ?_)));rw[if_pos QI];exact Zn (wpAny_rule (Z4 ⟨_,rfl,Z4 h⟩))
end
end HT
namespace L2
open PySem PySem.Spec PyProof.Rows
section
variable{X:Cx}{e:Expr}{te:TE}{lo hi:Option Expr}{tl th:TO}{pos p2 p3 p4:Pos}{j1:Nat}
theorem Zv.lay{H:Hp}{p:Addr}{o:HO}(h:H p=none):Zv H (upd H p o):=λb u q=>by rw[Zm (Z0 q h)];exact q
inductive rSlG_I(K:W.Frag)(x:V)(lo:ZN)(hi:ZN)(H:Hp)(Q:VK):Prop
 | mk(a xs)(Vx:x=.ref a)(Vz:Zp K H a xs)(Vp:∀p H',Zv H H'->Zp K H' p (Jt xs lo hi)->Q (.ref p) H')
def rSlG(K:W.Frag):V->ZN->ZN->Hp->VK->Prop:=λx lo hi H Q=>rSlG_I K x lo hi H Q
theorem K8:SlR X (rSlG X.K):=by
 intro XX s j H x v vl vu lo hi sl Q I rx hs pl pu h;obtain⟨a,xs,rfl,hx,q⟩:=h;by_cases hw:HT.Uj xs.length 0 lo=0/\HT.Uj xs.length xs.length hi=xs.length
 .cases rx;obtain⟨XJ,r,ht,hz⟩:=I.tuple hx;have hlen:XJ.toArray.size=xs.length:=by rw[Mw];exact r.length.symm
  refine⟨"tuple",_,slot_tuple_getitem.lookup,ht.typeIs,?_⟩;refine HT.Cb ht hs pl pu (by rw[hlen];exact hw) ⟨.ref a,H,I,rfl,q a H (Zv.refl H) ?_⟩
  have e:Jt xs lo hi=xs:=by
   unfold Jt;rw[hw.1,hw.2,List.drop_zero,Nat.sub_zero,Ss]
  rw[e];exact hx
 .exact sl_tup XX s j H _ v vl vu lo hi sl Q I rx hs pl pu ⟨a,xs,rfl,hx,hw,λp hp=>q p _ (Zv.lay hp) (Zp.of Zz)⟩
inductive Zvs(K:W.Frag)(x:V)(y:V)(H:Hp)(Q:VK):Prop
 | mk(a b xs ys)(Vx:x=.ref a)(Vz:y=.ref b)(Vp:Zp K H a xs)(Jn:Zp K H b ys)(Mf:xs.length+ys.length<=sizeLine)(Co:∀p H',Zv H H'->Zp K H' p (xs++ys)->Q (.ref p) H')
def rCatG(K:W.Frag):R2:=λx y H Q=>Zvs K x y H Q
theorem Gr:M4 X (binaryOp .Add) (rCatG X.K):=by
 intro XX s j H x y v u Q I rx ry h;obtain⟨a,b,xs,ys,rfl,rfl,ha,hb,hz,q⟩:=h;cases xs with
 | nil=>exact Zx3 XX s j H _ _ v u Q I rx ry ⟨a,b,ys,rfl,rfl,ha,hb,q b H (Zv.refl H) hb⟩
 | cons x xs =>
  refine Zyz XX s j H _ _ v u Q I rx ry ⟨a,b,x::xs,ys,rfl,rfl,ha,hb,(λz=>nomatch z),hz,λe=>?_,λ_ p hp=>q p _ (Zv.lay hp) (Zp.of Zz)⟩;subst e;exact q a H (Zv.refl H) (by rw[ZO];exact ha)
end
section
variable{X:Cx}{x:Str}{p pos:Pos}{e:Expr}{es:ZD}{tn:TE}{t:TA}{Y:Cx->Addr->ZF->Sp->Prop}
end
inductive Th where
 | non | bl(b:Bool) | int(i:Int) | str(x:Str) | tup(ts:List Th) | opq
mutual
def Zg(K:W.Frag)(H:Hp):Th->V->Prop
 | .non,v=>v=.non
 | .bl b,v=>v=.bl b
 | .int i,v=>v=.int i
 | .str x,v=>v=.str x
 | .tup ts,v=>∃a vs,v=.ref a/\Zp K H a vs/\Zw K H ts vs
 | .opq,v=>∃a,v=.ref a/\((∃xs,H a=some (.lst xs))\/∃XQ,H a=some (.dK XQ))
def Zw(K:W.Frag)(H:Hp):List Th->ZZ->Prop
 | [],vs=>vs=[]
 | t::ts,vs=>∃v r,vs=v::r/\Zg K H t v/\Zw K H ts r
end
structure Ui(K:W.Frag)(H H':Hp):Prop where
 tup:Up K H H'
 lst:∀a xs,H a=some (.lst xs)->∃ys,H' a=some (.lst ys)
 dct:∀a XQ,H a=some (.dK XQ)->H' a=some (.dK XQ)
 frz:∀a o XQ,H a=some (.frz o (.dK XQ))->H' a=some (.frz o (.dK XQ))
section
variable{K:W.Frag}{H H1 H':Hp}
theorem Ui.refl(H:Hp):Ui K H H:=⟨Up.refl H,λ_ xs h=>⟨xs,h⟩,λ_ _ h=>h,λ_ _ _ h=>h⟩
theorem Ui.trans{H2:Hp}(a:Ui K H H1)(b:Ui K H1 H2):Ui K H H2:=⟨a.tup.trans b.tup,λp xs h=>let ⟨_,e⟩:=a.lst p xs h;b.lst p _ e,λp k h=>b.dct p k (a.dct p k h),λp o k h=>b.frz p o k (a.frz p o k h)⟩
theorem Zv.upT(e:Zv H H'):Ui K H H':=⟨e.up,λa xs h=>⟨xs,e _ _ h⟩,λa k h=>e _ _ h,λa o k h=>e _ _ h⟩
theorem Zi{p:Addr}{ys zs:ZZ}(h:H p=some (.lst ys)):Ui K H (upd H p (.lst zs)):=by
 refine⟨up_set h,λq xs e=>?_,λq k e=>?_,λq o k e=>?_⟩
 .by_cases z:q=p
  .exact⟨zs,by rw[z,Zz]⟩
  .exact⟨xs,by rw[Zm z];exact e⟩
 .rw[Zm (λz=>by rw[z,h]at e;cases e)];exact e
 .rw[Zm (λz=>by rw[z,h]at e;cases e)];exact e
mutual
theorem Zg.up(u:Ui K H H'):∀(t:Th) (v:V),Zg K H t v->Zg K H' t v
 | .non,_,h=>h
 | .bl _,_,h=>h
 | .int _,_,h=>h
 | .str _,_,h=>h
 | .tup ts,v,h=>by
  obtain⟨a,vs,e,q,r⟩:=h;exact⟨a,vs,e,u.tup a vs q,Zw.up u ts vs r⟩
 | .opq,v,h=>by
  obtain⟨a,e,q⟩:=h;refine⟨a,e,?_⟩;rcases q with ⟨xs,q⟩ | ⟨k,q⟩
  .exact .inl (u.lst a xs q)
  .exact .inr ⟨k,u.dct a k q⟩
theorem Zw.up(u:Ui K H H'):∀(ts:List Th) (vs:ZZ),Zw K H ts vs->Zw K H' ts vs
 | [],_,h=>h
 | t::ts,vs,h=>by
  obtain⟨v,r,e,q,w⟩:=h;exact⟨v,r,e,Zg.up u t v q,Zw.up u ts r w⟩
end
theorem Zw.length:∀{ts:List Th} {vs:ZZ},Zw K H ts vs->ts.length=vs.length
 | [],vs,h=>by
  have e:vs=[]:=h;subst e;rfl
 | t::ts,vs,h=>by
  obtain⟨v,r,rfl,_,w⟩:=h;simp only[R1,Zw.length w]
theorem Zw.get:∀{ts:List Th} {vs:ZZ} {i:Nat} {t:Th},Zw K H ts vs->ts[i]?=some t->∃v,vs[i]?=some v/\Zg K H t v
 | [],vs,i,t,_,e=>by simp at e
 | t::ts,vs,0,t',h,e=>by
  obtain⟨v,r,rfl,q,_⟩:=h;simp at e;subst e;exact⟨v,rfl,q⟩
 | t::ts,vs,i+1,t',h,e=>by
  obtain⟨v,r,rfl,_,w⟩:=h;obtain⟨v',e1,q⟩:=Zw.get (i:=i) w (by simpa using e);exact⟨v',by simpa using e1,q⟩
theorem Zw.got:∀{ts:List Th} {vs:ZZ} {i:Nat} {v:V},Zw K H ts vs->vs[i]?=some v->∃t,ts[i]?=some t/\Zg K H t v:=λ{ts vs i v} h e=>by
 have hi:=(Bl.mp e).1;have vf:i<ts.length:=by rw[h.length];exact hi
 obtain⟨v',e1,q⟩:=h.get (Bh vf);rw[e]at e1;cases e1;exact⟨_,Bh vf,q⟩
theorem Zw.append:∀{ts us:List Th} {vs ws:ZZ},Zw K H ts vs->Zw K H us ws->Zw K H (ts++us) (vs++ws)
 | [],us,vs,ws,h,h'=>by
  have e:vs=[]:=h;subst e;exact h'
 | t::ts,us,vs,ws,h,h'=>by
  obtain⟨v,r,rfl,q,w⟩:=h;exact⟨v,r++ws,rfl,q,Zw.append w h'⟩
theorem Zw.one{t:Th}{v:V}(h:Zg K H t v):Zw K H [t] [v]:=⟨v,[],rfl,h,rfl⟩
theorem Zw.drop:∀{ts:List Th} {vs:ZZ} (n:Nat),Zw K H ts vs->Zw K H (ts.drop n) (vs.drop n)
 | ts,vs,0,h=>h
 | [],vs,n+1,h=>by
  have e:vs=[]:=h;subst e;rfl
 | t::ts,vs,n+1,h=>by
  obtain⟨v,r,rfl,_,w⟩:=h;exact Zw.drop n w
theorem Zw.take:∀{ts:List Th} {vs:ZZ} (n:Nat),Zw K H ts vs->Zw K H (ts.take n) (vs.take n)
 | ts,vs,0,_=>rfl
 | [],vs,n+1,h=>by
  have e:vs=[]:=h;subst e;rfl
 | t::ts,vs,n+1,h=>by
  obtain⟨v,r,rfl,q,w⟩:=h;exact⟨v,r.take n,rfl,q,Zw.take n w⟩
end
section
variable{X:Cx}
inductive Zxb(K:W.Frag)(A:Around)(x:V)(y:V)(H:Hp)(Q:VK):Prop
 | mk(a b xs)(Vx:x=.ref a)(Vz:y=.ref b)(Vp:Zu K H a xs)(Jn:Zu K H b [])(Mf:A.units<cLine)(Co:Q (.bl xs.isEmpty) H)
def rEqNil(K:W.Frag)(A:Around):R2:=λx y H Q=>Zxb K A x y H Q
theorem Ng:M4 X (compareOp .Eq) (rEqNil X.K X.A):=by
 intro XX s Z H x y v u Q I rx ry h;obtain⟨a,b,xs,rfl,rfl,ha,hb,hu,q⟩:=h;cases rx;cases ry;obtain⟨i1,r1,p1,z1⟩:=I.list ha;obtain⟨i2,r2,p2,z2⟩:=I.list hb;have e2:i2=[]:=by cases r2;rfl
 subst e2;cases xs with
 | nil =>
  have e1:i1=[]:=by cases r1;rfl
  subst e1;have:=SeqAt.RcAt.lists (A:=X.A) (e:=λ_=>true) p1.isList p2.isList rfl hu (λj h1 h2=>absurd h1 QE);exact this X.prog X.w X.xe _ ⟨.bl _,H,I,rfl,q⟩
 | cons x xs =>
  have hl:=r1.length;exact SeqAt.RcAt.lists_lengths (A:=X.A) p1.isList p2.isList (by rw[Mw, <-hl];rfl) hu X.prog X.w X.xe _ ⟨.bl _,H,I,rfl,q⟩
end
theorem Ej{τ:St}{o:Option V}{v:V}{H:Hp}{tt:TT}{A B:St->Hp->Prop}(h:tt (some v::τ) H λok H3=>if ok=true then A (some v::τ) H3 else B (some v::τ) H3):D9 0 v (o::τ) H λσ2 H2=>tt σ2 H2 λok H3=>if ok=true then A σ2 H3 else B σ2 H3:=h
theorem Um{A B:St->Hp->Prop}(h:A (some v::τ) H):D9 0 v (o::τ) H λσ2 H2=>T3 σ2 H2 λok H3=>if ok=true then A σ2 H3 else B σ2 H3:=by
 show if true=true then A (some v::τ) H else B (some v::τ) H
 rw[if_pos rfl];exact h
theorem Zs{j:Type}{xs:List j}{i:Nat}{x:j}(e:xs[i]?=some x):xs.take (i+1)=xs.take i++[x]:=by rw[List.take_add_one,e];rfl
section
variable{K:W.Frag}{H:Hp}{a D:Addr}{xs:ZZ}{ts:List Th}{te:TE}{tt:TT}{fin:Hp->Prop}{τ:St}{o:Option V}
theorem Nb(ha:Zp K H a xs)(hA:Zw K H ts xs)(hl:ts.length<=1000000)(hD:H D=none)
  (h:∀t v H5 (Q:VK),t∈ts->Zv H H5->Zg K H5 t v->(∀v' H6,Zv H5 H6->Zg K H6 (f t) v'->Q v' H6)->te (some v::τ) H5 Q)
  (hf:∀H6 ws,Zv H H6->H6 D=some (.lst ws)->Zw K H6 (ts.map f) ws->fin H6) :
  ∃W:Nat->Nat->ZZ->St->Hp->Prop,(∃m,W 0 m [] (o::τ) (upd H D (.lst [])))/\Nn (Itt K a) (D9 0) T3 te D W fin:=by
 have hlen:=hA.length;refine J2 (xs:=xs) (λi ys j H5=>(∃o',j=o'::τ)/\Zw K H5 ((ts.take i).map f) ys/\Zv H H5/\H5 D=some (.lst ys)) ⟨⟨_,rfl⟩,rfl,(Zv.refl H).put hD,Zz⟩ ?_ ?_ ?_
 .rintro i ys j H5 hi ⟨_,_,s5,h5⟩;exact⟨s5.up _ _ ha,h5⟩
 .rintro i x ys j H5 hx ⟨⟨o',rfl⟩,ar,s5,h5⟩;obtain⟨t,et,it⟩:=hA.got hx;refine Um (h t x H5 _ (Cr et) s5 (Zg.up s5.upT t x it) λv' H6 s6 i6=>?_);refine⟨s6 _ _ h5,?_,⟨_,rfl⟩,?_,(s5.trans s6).put hD,Zz⟩
  .rw[<-ar.length,Yv,Cs];exact Qe (Vf (Nat.min_le_right _ _) hl) QI
  .rw[Zs et,Gw];have u6:Ui K H6 (upd H6 D (.lst (ys++[v']))):=Zi (s6 _ _ h5);exact Zw.append (Zw.up (s6.upT.trans u6) _ _ ar) (Zw.one (Zg.up u6 _ _ i6))
 .rintro ys j H5 ⟨_,ar,s5,h5⟩;refine hf H5 ys s5 h5 ?_;rw[<-hlen,Ss]at ar;exact ar
end
end L2
namespace K01
open PySem PySem.Spec PyProof.Rows L2
end K01
namespace L2
open PySem PySem.Spec PyProof.Rows
section
variable{X:Cx}
end
end L2
namespace RevA
open PySem
section
variable{prog:Program}{w:World}{A:Around}{E:Ya}{s:Shared}{r t:Addr}{XJ:ZT}{i:Int}
end
end RevA
namespace RevA
open PySem PyProof.Rows
section
variable{prog:Program}{w:World}{A:Around}{E:Ya}{s:Shared}{r t:Addr}{XJ:ZT}
end
section
variable{prog:Program}{w:World}{A:Around}{E:Ya}{s:Shared}{r t:Addr}{XJ:ZT}
end
section
variable{prog:Program}{w:World}{A:Around}{E:Ya}{s:Shared}{R:Result->Shared->Prop}{I S:Addr}{fp wr:ZH}{n:Nat}{P:Nat->Value->Prop}{St:Nat->Heap->Prop}{T:String}
end
section
variable{prog:Program}{w:World}{A:Around}{E:Ya}{s:Shared}{I:Addr}{fp wr:ZH}{n:Nat}{P:Nat->Value->Prop}{St:Nat->Heap->Prop}{T:String}
end
section
variable{prog:Program}{w:World}{A:Around}{E:Ya}{s:Shared}{r t:Addr}{XJ:ZT}
end
section
variable{prog:Program}{w:World}{A:Around}{E:Ya}{s:Shared}{I:Addr}{fp wr:ZH}{n:Nat}{P:Nat->Value->Prop}{St:Nat->Heap->Prop}{T:String}
end
section
variable{prog:Program}{w:World}{A:Around}{E:Ya}{s:Shared}
end
end RevA
namespace IdxT
open PySem PySem.SeqAt PySem.MeetsSeq
open PySem.AutoSeq1 (wpAny_loadPart')
end IdxT
namespace L2
open PySem PySem.Spec PyProof.Rows
section
variable{X:Cx}{p p2 pos Du:Pos}{a:Expr}{t:TA}
end
section
variable{X:Cx}{e:Expr}{t1 t2:TE}
end
section
variable{X:Cx}{p p2 pos Du:Pos}{a:Expr}{t:TA}
end
section
variable{X:Cx}
structure TopD(K:W.Frag)(w:World)(a:Addr):Prop where
 at':∃es n,K.lookup a=some ⟨.type "dict",none,.dict es n, #[]⟩/\W.KeysLit w.params es.toList
inductive Zvt(K:W.Frag)(w:World)(x:V)(y:V)(H:Hp)(Q:VK):Prop
 | mk(a:Addr)(z:Str)(v:V)(u:Value)(Vx:x=.ref a)(Vz:y=.str z)(Vp:TopD K w a)(Jn:W.nsIn K a z=some (some u))(Mf:RelV v u)(Co:Q v H)
def rTopD(K:W.Frag)(w:World):R2:=λx y H Q=>Zvt K w x y H Q
theorem Zyu:IxR X (rTopD X.K X.w):=by
 intro value slice XX s j H x y v u Q I rx ry h hs;obtain⟨a,z,v',u',rfl,rfl,⟨es,n,hl,hk⟩,e,r,q⟩:=h;cases rx;obtain⟨t,rfl⟩:=ry;have hm:=W.mapOf_K (prog:=X.prog) I.kIn hl hk;exact tail_any hm.typeIs slot_dict_getitem.lookup (wpAny_getItem_of (strKind_is X.prog X.w z t) hm (W.find_K hl e) ⟨v',H,I.tok _,r,q⟩) hs
end
section
variable{X:Cx}{k:Nat}{C:Addr}{m x:Str}{ps:ZF}{sp:Sp}{o e:Expr}{es:ZD}{ta:TE}{t:TA}{p pos apos:Pos}
end
end L2
namespace EnuT
open PySem
section
variable{prog:Program}{w:World}{A:Around}{E:Ya}{s:Shared}
theorem nextT(hi:s.heap.IsTupleIter it t i)(ht:s.heap.IsTuple t XJ)(hx:XJ[i]?=some x)
  (q:∀h',h'.IsTupleIter it t (i+1)->Heap.SameBut it s.heap h'->Q x { s with heap:=h' }):wpAny (model prog w) A (Builtin.SmallTypes.nextOf (.ref it)) Q E s:=by
 obtain⟨u,hu,hc,hd⟩:=id hi;obtain⟨p,hp,_,n,dp⟩:=ht;unfold Builtin.SmallTypes.nextOf;refine Zn (wpAny_callSpecial?_slot (name:=Str.ofString "__next__") hi.typeIs F.slot_tuple_iterator_next (wpAny_call_entry F.slot_tuple_iterator_next hi.typeIs F.entry_tuple_iterator_next ?_ (F.args_tuple_iterator_next_1 _)));show wpAny _ _ (field (.ref it) 0 >>= _) _ _ s;refine Zn (wpAny_field hu hd (x:=.ref t) rfl ?_);show wpAny _ _ (if (Value.ref t==Value.none)=true then _ else _) _ _ s;rw[if_neg (show ¬ ((Value.ref t==Value.none)=true) from Cg)];show wpAny _ _ (field (.ref it) 1 >>= _) _ _ s;refine Zn (wpAny_field hu hd (x:=.int i 0) rfl ?_);show wpAny _ _ (seqItems? (.ref t) >>= _) _ _ s;refine Zn (wpAny_seqItems hp dp ?_);simp only[ZE,hx];refine Zn (wpAny_setField hu hd QE (Z4 ⟨x,rfl,Z4 (q _ ?_ (Heap.SameBut.update ..))⟩));exact⟨_,Heap.get?_update_self _ hu (Obj.isFreed_of_fields (Obj.data_mapFields hd _)),(Obj.cls_mapFields ..).trans hc,by rw[Obj.data_mapFields hd];simp[rawInt]⟩
theorem endT(hh:A.handled=none)(hi:s.heap.IsTupleIter it t i)(ht:s.heap.IsTuple t XJ)(hx:XJ[i]?=none)
  (q:∀h' e,Heap.ExtBut it s.heap h'->(∃o,h'.get? e=some o/\o.cls=.type "StopIteration")->E (.ref e) { s with heap:=h' }):wpAny (model prog w) A (Builtin.SmallTypes.nextOf (.ref it)) Q E s:=by
 obtain⟨u,hu,hc,hd⟩:=id hi;obtain⟨p,hp,_,n,dp⟩:=ht;unfold Builtin.SmallTypes.nextOf;refine Zn (wpAny_callSpecial?_slot (name:=Str.ofString "__next__") hi.typeIs F.slot_tuple_iterator_next (wpAny_call_entry F.slot_tuple_iterator_next hi.typeIs F.entry_tuple_iterator_next ?_ (F.args_tuple_iterator_next_1 _)));show wpAny _ _ (field (.ref it) 0 >>= _) _ _ s;refine Zn (wpAny_field hu hd (x:=.ref t) rfl ?_);show wpAny _ _ (if (Value.ref t==Value.none)=true then _ else _) _ _ s;rw[if_neg (show ¬ ((Value.ref t==Value.none)=true) from Cg)];show wpAny _ _ (field (.ref it) 1 >>= _) _ _ s;refine Zn (wpAny_field hu hd (x:=.int i 0) rfl ?_);show wpAny _ _ (seqItems? (.ref t) >>= _) _ _ s;refine Zn (wpAny_seqItems hp dp ?_);simp only[ZE,hx];refine Zn (wpAny_rule (Zn (wpAny_setField hu hd QE ?_)));show wpAny _ _ (newExc (.type "StopIteration") [] >>= _) _ _ _;refine Zn ?_;simp only[newExc,newTuple];refine Zn (wpAny_newObj_type ?_ (by size_fits));refine Zn (m:=firstArgMember _ _) (wpAny_of_eq (a:=Value.none) (by first | rfl | (simp only[firstArgMember];rfl)) ?_);refine wpAny_newObj_type ?_ (by size_fits);simp only[raiseNew];refine Zn (wpAny_handled ?_)
 first | rw[show A.in1.handled=none from hh] | rw[hh]
 refine Zn (Z4 (wpAny_throw ?_));exact q _ _ (((Heap.SameBut.update ..).extBut.push _).push _) ⟨_,M7 _ rfl,rfl⟩
end
theorem Zjn(hh:A.handled=none)(it t:Addr)(uc:t≠it)(XJ:ZT) :
  Draws prog w A it [it,t] XJ.size (λi v=>XJ[i]?=some v) (λi h=>h.IsTupleIter it t i/\h.IsTuple t XJ) where
 live:=λ_ _ st=>let ⟨o,ho,_⟩:=st.1;⟨o,ho⟩
 frame:=λ_ _ _ st hk=>⟨let ⟨o,ho,r⟩:=st.1;⟨o,hk it QE o ho,r⟩,let ⟨o,ho,r⟩:=st.2;⟨o,hk t QE o ho,r⟩⟩
 item:=λi s Q E hi st hQ=>nextT st.1 st.2 (x:=XJ[i]) (by simp[hi]) λh' a b=>hQ _ h' s.toks (by simp[hi]) ⟨a,st.2.extBut b.extBut uc⟩ b
 done:=λs Q E st hE=>endT hh st.1 st.2 QE hE
theorem meetsT(t:Addr)(XJ:ZT)(n:Nat)(dct:ZS)(sl:ZK) :
  Meets (Builtin.«enumerate.__new__» ⟨[.type "enumerate",.ref t],[]⟩) (λ_ R s=>s.heap.get? t=some { cls:=.type "tuple",dict:=dct,data:=.seq XJ n,slots:=sl } /\
   R (.ok (.ret (.ref (s.heap.push { cls:=.type "tuple_iterator",data:=.fields #[.ref t,.int 0 0] }).objs.size)))
    { s with heap:=(s.heap.push { cls:=.type "tuple_iterator",data:=.fields #[.ref t,.int 0 0] }).push { cls:=.type "enumerate",data:=.fields #[.none,.bool false,.ref s.heap.objs.size,rawInt 0,.none,.none] } }) :=
 .of_wp λprog w A R s h=>by
  obtain⟨hp,g,d,tk,os⟩:=s;obtain⟨ht,h⟩:=h;have hs:=sub_enumerate;have hT:Heap.IsTuple (Shared.heap ⟨hp,g,d,tk,os⟩) t XJ:=⟨_,ht,rfl,n,rfl⟩
  wp_walk using AutoSeq1.wpAny_loadPart' ht
  refine wpAny_stack_any λst=>Z4 ?_
  split
  .rename_i c _ _ _ _ _
   cases(c==Value.type "enumerate")<;>(wp_walk using AutoSeq1.wpAny_loadPart' ht,wpAny_pyIter_tuple hT;exact⟨_,rfl,h⟩)
  .wp_walk using AutoSeq1.wpAny_loadPart' ht,wpAny_pyIter_tuple hT
   exact⟨_,rfl,h⟩
section
variable{prog:Program}{w:World}{A:Around}{E:Ya}{s:Shared}
theorem callT(hT:s.heap.IsTuple t XJ)
  (q:∀h',IsEnum h' (s.heap.objs.size+1) s.heap.objs.size 0 .none->h'.IsTupleIter s.heap.objs.size t 0->(∀b o,s.heap.get? b=some o->h'.get? b=some o)->Q (.ref (s.heap.objs.size+1)) { s with heap:=h' }) :
  wpAny (model prog w) A (call (.type "enumerate") [.ref t]) Q E s:=by
 obtain⟨⟨c,dct,dt,sl⟩,hl,hc,n,hd⟩:=hT;obtain rfl:c=.type "tuple" := hc;obtain rfl:dt=.seq XJ n:=hd;refine callType_new F.called_enumerate QI (F.typeCall_enumerate_1 _) (F.newCall_enumerate_1 _) (λobj=>F.args_object_init_2 obj _) F.entry_enumerate_new (meetsT t XJ n dct sl) ⟨hl,?_⟩;have hz:(s.heap.push { cls:=.type "tuple_iterator",data:=.fields #[.ref t,.int 0 0] }).objs.size=s.heap.objs.size+1:=Heap.size_push ..;show _/\_;rw[hz]
 have he:IsEnum ((s.heap.push { cls:=.type "tuple_iterator",data:=.fields #[.ref t,.int 0 0] }).push { cls:=.type "enumerate",data:=.fields #[.none,.bool false,.ref s.heap.objs.size,rawInt 0,.none,.none] }) (s.heap.objs.size+1) s.heap.objs.size 0 .none:=by
  have z:=M7 (s.heap.push { cls:=.type "tuple_iterator",data:=.fields #[.ref t,.int 0 0] }) (o:={ cls:=.type "enumerate",data:=.fields #[.none,.bool false,.ref s.heap.objs.size,rawInt 0,.none,.none] }) rfl;rw[hz]at z;exact z
 exact⟨⟨_,he,rfl⟩,q _ he ⟨_,Uz _ (M7 _ rfl),rfl,rfl⟩ λb o x=>Uz _ (Uz _ x)⟩
end
end EnuT
namespace L2
open PySem PySem.Spec PyProof.Rows
noncomputable def Itn(K:W.Frag)(a:Addr)(xs:ZZ):It :=
  ⟨λi H=>i<xs.length/\Zp K H a xs,
   λi H v H'=>∃p x,v=.ref p/\H p=none/\H'=upd H p (.tup [.int i,x])/\xs[i]?=some x,
   λi H=>xs.length<=i/\Zp K H a xs⟩
theorem ls{P:Program}{w:World}{K:W.Frag}{es:ZD}{k:Nat}{pos:Pos}(e it a:Addr)(xs:ZZ)(hei:e≠it)(hae:a≠e)(hai:a≠it) :
  Turn P w K (.Tuple es k pos) (Itn K a xs) [e,it] e (λi h=>i<=xs.length/\(∃old,IsEnum h e it ((i:Nat):Int) old)/\h.IsTupleIter it a i) where
 mem:=by simp
 obj:=λi h st b hb=>by
  obtain⟨_,⟨old,he⟩,⟨o,eo,_,d⟩⟩:=st;simp only[U8,V9,or_false]at hb;rcases hb with rfl | rfl
  .exact⟨_,he,λv q=>nomatch q⟩
  .exact⟨_,eo,λv q=>by rw[d]at q;cases q⟩
 keep:=λi h h' st hk=>by
  obtain⟨hi,⟨old,he⟩,ht⟩:=st;exact⟨hi,⟨old,hk e QE _ he⟩,ht.at λo eo=>hk it QE o eo⟩
 item:=by
  intro X hP hw hK hc i XX s j H E I hf st hg;subst hP hw hK;obtain⟨G9,hq⟩:=hg;obtain⟨hi,⟨old,he⟩,ht⟩:=st;obtain⟨XJ,rv,p,_⟩:=I.tuple hq;have hx:xs[i]?=some xs[i]:=Bh G9;obtain⟨u,hu,ru⟩:=rv.get hx;have hsz:XJ.toArray.size=xs.length:=by rw[Mw];exact rv.length.symm
  refine wpAny_pyNext_enum_itemD (EnuT.Zjn (A:=X.A.in1) (I.ok.hd hc) it a hai XJ.toArray) he ⟨ht,p⟩ QU hei (by simp only[U8,V9,or_false,not_or];exact⟨hei,λq=>hae q.symm⟩) λy h' tk py ho Iz ht' hz' hk=>?_
  have ey:y=u:=by
   have z:XJ.toArray[i]?=some u:=by simpa using hu
   exact Fk (py.symm.trans z)
  subst ey;refine⟨_,rfl,wpAny_letOwnedTupleGo_enum (s:={ s with heap:=h',toks:=tk+1 }) ho λh'' he'' vj=>?_⟩;have lt:∀{c o},s.heap.get? c=some o->s.heap.objs.size≠c:=λq=>Nat.ne_of_gt (Ut q);have ne:s.heap.objs.size≠e:=lt he
  have kk:∀c o,c∉[e,it]->s.heap.get? c=some o->h''.get? c=some o:=λc o m q=>by
   simp only[U8,V9,or_false,not_or]at m;exact vj.extBut _ _ m.1 (hk c o m.1 m.2 q)
  have J:Inv X XX j (upd H s.heap.objs.size (.tup [.int i,xs[i]])) { s with heap:=h'',toks:=tk+1 }:=I.turnLay kk hf (Yt _) ⟨by show 2<=sizeLine;decide,[.int i tk,y],.cons ⟨tk,rfl⟩ (.cons ru .nil),⟨_,vj.extBut _ _ ne ht',rfl,⟨_,rfl⟩,rfl⟩⟩;refine⟨.ref s.heap.objs.size,_,J,rfl,⟨_,_,rfl,I.hok.fresh (Yt _),rfl,hx⟩,⟨by omega,⟨_,by have:=he'';simpa using this⟩,Iz.1.extBut vj.extBut (λq=>hei q.symm)⟩,λc hc=>?_⟩
  have nc:c≠s.heap.objs.size:=λq=>by
   subst q;simp only[U8,V9,or_false]at hc;rcases hc with q | q
   .exact lt he q
   .obtain⟨_,eo,_⟩:=ht;exact lt eo q
  rw[Zm nc];exact(hf c hc).1
 done:=by
  intro X hP hw hK hc i XX s j H E I hf st hg;subst hP hw hK;obtain⟨hge,hq⟩:=hg;obtain⟨hi,⟨old,he⟩,ht⟩:=st;obtain⟨XJ,rv,p,_⟩:=I.tuple hq;have hsz:XJ.toArray.size=xs.length:=by rw[Mw];exact rv.length.symm
  have ei:i=XJ.toArray.size:=QU
  rw[ei]at ht;refine wpAny_pyNext_enum_endD (EnuT.Zjn (A:=X.A.in1) (I.ok.hd hc) it a hai XJ.toArray) he ⟨ht,p⟩ λh' eb=>⟨rfl,I.turnL (t':=s.toks) (fp:=[e,it]) (λc u m q=>?_) hf⟩;simp only[U8,V9,or_false,not_or]at m;exact eb c u m.2 q
 self:=λA i s Q E st h=>by
  obtain⟨_,⟨old,he⟩,_⟩:=st;exact wpAny_pyIter_enum he h
inductive Zy2(K:W.Frag)(R:(It->Hp->Prop))(vs:ZZ)(H1:Hp):Prop
 | mk(p xs)(Vx:vs=[.ref p])(Vz:Zp K H1 p xs)(Vp:R (Itn K p xs) H1)
def iEnum(K:W.Frag)(t:TA):TI:=λj H R=>t j H λvs H1=>Zy2 K R vs H1
section
variable{X:Cx}{es:ZD}{k:Nat}{p2 pos Du:Pos}{a:Expr}{t:TA}
theorem Zvo(hgz:Gl X "enumerate")(hmz:X.mg "enumerate"=none)(ha:PA X [a] t)
  (he2:starEach [a] X.env=(false,eval a X.env)::starEach [] X.env:=by rfl) (Tb:(backTo Du (starEach [] X.env)).any (·.1)=false:=by rfl) :
  PI X (.Tuple es k pos) (.Call (.Name "enumerate" p2) [a] [] Du) (iEnum X.K t):=by
 intro XX s j H R I h;refine wpAny_Call_Name_kw (Rm I hgz hmz (by decide +kernel:bootBuiltins "enumerate"=some (.type "enumerate")) ?_ QI QI);refine callWith_type1 (Y7 (ha Du XX s j H _ I h) λus s1 ⟨vs,H1,I1,r1,q1⟩=>?_) he2 Tb;obtain⟨l,xs,rfl,hx,q⟩:=q1;obtain⟨u1,rfl,e1⟩:=vals1 r1;cases e1;obtain⟨XJ,rv,pl,z⟩:=I1.tuple hx;have nl:l<s1.heap.objs.size:=by obtain⟨_,e,_⟩:=id pl;exact Ut e
 refine EnuT.callT (show s1.heap.IsTuple l XJ.toArray from pl) λh2 b1 b2 k2=>?_;refine wpAny_pyIter_enum (s:={ s1 with heap:=h2 }) b1 ?_;have J:Inv X XX j H1 { s1 with heap:=h2,toks:=s1.toks }:=I1.kept k2;refine⟨_,[s1.heap.objs.size+1,s1.heap.objs.size],_,_,H1,rfl,J,ls _ _ l xs (Nat.succ_ne_self _) (Nj (Nat.lt_succ_of_lt nl)) (Nj nl),⟨Dc _,⟨_,b1⟩,b2⟩,λc hc=>?_,q⟩
 have ge:s1.heap.objs.size<=c:=by
  simp only[U8,V9,or_false]at hc;rcases hc with q | q<;>rw[q]<;>first | exact Yt _ | exact Nat.le_add_right _ _
 exact I1.fpOk ge (I1.hok.fresh ge)
end
section
variable{X:Cx}
end
section
variable{X:Cx}{p p2 pos Du:Pos}{a b:Expr}{t:TA}
end
end L2
namespace EX
open PySem
structure z9(l:List Env)(e T:Addr)(oe:Obj)(h h':Heap):Prop where
 keep:∀b o,b≠e->b∉l.filterMap (·.frame)->h.get? b=some o->h'.get? b=some o
 slot:∀b o,b≠e->h.get? b=some o->∃sl,h'.get? b=some { o with slots:=sl }
 exc:h'.get? e=some (oe.mapFields (·.setIfInBounds 1 (.ref T)))
 new:h.objs.size<=T
 tb:∃oT ts,h'.get? T=some oT/\oT.data=.fields ts/\3<ts.size
section
variable{M:Model}{A:Around}{E:Ya}{s:Shared}{env:Env}{outer:List Env}{base:Heap}{L e T:Addr}{oe:Obj}{vs:ZT}{Q:ZP}
theorem Fw(hl:s.heap.FunFrames base (env::outer))(he:s.heap.get? e=some oe)(hd:oe.data=.fields vs):e∉(env::outer).filterMap (·.frame):=λhm=>by
 obtain⟨_,o,ho,hn⟩:=hl.mem hm;rw[he]at ho;cases ho;exact hn vs hd
theorem Zqz(A1:A.frames=some (env::outer))(hl:s.heap.FunFrames base (env::outer))(hf:env.frame=some L)
  (he:s.heap.get? e=some oe) (hd:oe.data=.fields vs) (h1:vs[1]?=some .none)
  (h:∀h' T,z9 (env::outer) e T oe s.heap h'->Q () { s with heap:=h' }):wpAny M A (noteFrame (.ref e) env) Q E s:=by
 have hz:1<vs.size:=(Array.getElem?_eq_some_iff.mp h1).1;have uc:=Fw hl he hd;unfold noteFrame;simp only[hf];refine Zn (wpAny_field he hd h1 ?_);rw[if_neg QI];refine Zn (wpAny_frameOf_fun A1 hl hf λh₁ sl=>Zn (wpAny_entryPlaceOf λpl Tb=>?_));unfold EntryCells.newEntry newFields;refine Zn (wpAny_newObj_type ?_ (Tb.sizeOk5 _ _ _ _ _));have e1:h₁.get? e=some oe:=(sl.2.1 e uc).trans he;have z1:h₁.objs.size=s.heap.objs.size:=sl.1;refine wpAny_setField (Uz _ e1) hd hz (h _ h₁.objs.size ⟨λb o hb hn q=>?_,λb o hb q=>?_,?_,Nat.le_of_eq z1.symm,?_⟩)
 .exact(Heap.get?_update_other _ _ (Ne.symm hb)).trans (Uz _ ((sl.2.1 b hn).trans q))
 .obtain⟨x,q'⟩:=sl.2.2 b o q;exact⟨x,(Heap.get?_update_other _ _ (Ne.symm hb)).trans (Uz _ q')⟩
 .exact Heap.get?_update_self _ (Uz _ e1) (Obj.isFreed_of_fields (Obj.data_mapFields hd _))
 .refine⟨_,_,(Heap.get?_update_other _ _ (Nj (Ut e1))).trans (M7 h₁ rfl),rfl,?_⟩;simp only[Mw,Nl,R1,List.length_nil];omega
theorem O0(he:s.heap.get? e=some oe)(hd:oe.data=.fields vs)(h1:vs[1]?=some (.ref T))(hT:s.heap.get? T=some oT)(Fz:oT.data=.fields ts)(hz:3<ts.size)
  (h:∀h',(∀b,b≠T->h'.get? b=s.heap.get? b)->(∃oT ts,h'.get? T=some oT/\oT.data=.fields ts/\3<ts.size)->Q () { s with heap:=h' }):wpAny M A (setFlight (.ref e) none) Q E s:=by
 refine wpAny_setFlight_none he hd h1 hT Fz hz (h _ (λb hb=>Heap.get?_update_other _ _ (Ne.symm hb)) ⟨_,_,Heap.get?_update_self _ hT (Obj.isFreed_of_fields (Obj.data_mapFields Fz _)),Obj.data_mapFields Fz _,?_⟩);rw[Array.size_setIfInBounds];exact hz
end
abbrev Lk{j:Type}(M:Model)(h:Heap)(t:Sem j)(r:j):Prop :=
 ∀(A:Around) (Q:j->Shared->Prop) (E:Ya) (s:Shared),(∀b o,h.get? b=some o->s.heap.get? b=some o)->Q r s->wpAny M A t Q E s
section
variable{M:Model}{A:Around}{E:Ya}{s:Shared}{env:Env}
theorem Zyd(he:h.get? e=some oe)(hd:oe.data=.fields vs):Lk M h (isType (.ref e)) false:=by
 intro A Q E s k q;show wpAny M A (do return match (<-loadHead e).data with | .cls _=>true | _=>false) Q E s;refine Zn (wpAny_loadPart (k _ _ he) ?_);rw[hd];exact Z4 q
theorem T1(he:h.get? e=some oe)(hc:oe.cls=c):Lk M h (typeOf (.ref e)) c:=by
 intro A Q E s k q;show wpAny M A (do return (<-loadPart e (some headPart)).cls) Q E s;refine Zn (wpAny_loadPart (k _ _ he) ?_);rw[hc];exact Z4 q
theorem Zxy(hh:A.handled=none)
  (h:wpAny M A x (λv s₁=>∃e C oe vs,v=.ref e/\s₁.heap.get? e=some oe/\oe.cls=.ref C/\oe.data=.fields vs/\vs[1]?=some .none /\
   Lk M s₁.heap (isSubtype (.ref C) (.type "BaseException")) true/\Lk M s₁.heap (typeOf (.ref C)) (.type "type")/\E (.ref e) s₁) E s) :
  wpAny M A (raiseStmt env (some x) none) Q E s:=by
 unfold raiseStmt;refine Zn (wpAny_mono h (λv s₁ h₁=>?_) λ_ _ y=>y);obtain⟨e,C,oe,vs,rfl,he,hc,hd,h1,hs,ht,hE⟩:=h₁;have n1:=Zyd (M:=M) he hd;have n2:=T1 (M:=M) he hc;refine Zn (Z4 (Zn (wpAny_holding ?_)));unfold excFromValue isExcClass isInstance;refine Zn (Zn (n1 _ _ _ _ (λ_ _ z=>z) ?_));rw[if_neg Cg];refine Z4 ?_;rw[if_neg Cg];refine Zn (Zn (n2 _ _ _ _ (λ_ _ z=>z) (hs _ _ _ _ (λ_ _ z=>z) ?_)));rw[if_pos rfl];refine Z4 ?_;refine Zn (n1 _ _ _ _ (λ_ _ z=>z) ?_);rw[if_neg Cg];unfold raisedInstance;refine Zn (Zn (n2 _ _ _ _ (λ_ _ z=>z) (Zn (ht _ _ _ _ (λ_ _ z=>z) ?_))));rw[if_pos QI];refine Z4 (Zn ?_);unfold setFlight;refine Zn (wpAny_field he hd h1 ?_);rw[if_neg QI];exact Z4 (wpAny_raiseNew_none hh hE)
end
section
variable{M:Model}{A:Around}{E:Ya}{s:Shared}{env:Env}
theorem is_cls(he:h.get? c=some oc)(hd:oc.data=.cls cd):Lk M h (isType (.ref c)) true:=by
 intro A Q E s k q;show wpAny M A (do return match (<-loadHead c).data with | .cls _=>true | _=>false) Q E s;refine Zn (wpAny_loadPart (k _ _ he) ?_);rw[hd];exact Z4 q
theorem wx(h1:Lk M s.heap (typeOf (.ref D)) (.type "type"))(h2:Lk M s.heap (isType (.ref D)) true)(h3:Lk M s.heap (isSubtype (.ref D) (.type "BaseException")) true)
  (h4:Lk M s.heap (typeOf (.ref e)) (.ref C)) (h5:Lk M s.heap (isSubtype (.ref C) (.ref D)) b) (h:Q b s):wpAny M A (excMatches (.ref e) (.ref D)) Q E s:=by
 have nt:isSubtype (.type "type") (.type "tuple")=pure false:=by rw[isSubtype_type];kernel_rfl
 unfold excMatches isInstance;refine Zn (Zn (h1 _ _ _ _ (λ_ _ z=>z) ?_));rw[nt];refine Z4 ?_;rw[if_neg Cg];refine Zn (Z4 ?_);simp only[List.forIn_cons,List.forIn_nil];unfold isExcClass;refine Zn (Zn (Zn (Zn (h2 _ _ _ _ (λ_ _ z=>z) ?_))));rw[if_pos rfl];refine h3 _ _ _ _ (λ_ _ z=>z) ?_;simp only[Bool.not_true,xp,if_false];refine Z4 (Z4 (Zn (h4 _ _ _ _ (λ_ _ z=>z) ?_)));refine Zn (Zn (Zn (h5 _ _ _ _ (λ_ _ z=>z) ?_)));cases b with
 | true =>
  simp only[if_true];exact Z4 (Z4 (Z4 h))
 | false =>
  simp only[xp,if_false];exact Z4 (Z4 (Z4 h))
end
section
variable{prog:Program}{w:World}{A:Around}{E:Ya}{s:Shared}{env:Env}
theorem ua
  (h:wpAny (model prog w) (A.mark (some (.ref e))) (eval t env) (λc s₁=>c=.ref D/\Lk (model prog w) s₁.heap (typeOf (.ref D)) (.type "type")/\Lk (model prog w) s₁.heap (isType (.ref D)) true /\
   Lk (model prog w) s₁.heap (isSubtype (.ref D) (.type "BaseException")) true/\Lk (model prog w) s₁.heap (typeOf (.ref e)) (.ref C)/\Lk (model prog w) s₁.heap (isSubtype (.ref C) (.ref D)) true /\
   wpAny (model prog w) (A.mark (some (.ref e))) (setFlight (.ref e) none) (λ_ s₂ =>
     wpAny (model prog w) (A.mark (some (.ref e))) (storeName env n (.ref e)) (λ_ s₃ =>
      wpAny (model prog w) (A.mark (some (.ref e))) (execs (b₀::suite) env)
       (λf s₄=>wpAny (model prog w) A (do bindName env n .none;unbindBehindTheSuite env n pos) (λ_ s₅=>Q f s₅) E s₄)
       (λ_ _=>False) s₃) (λ_ _=>False) s₂) (λ_ _=>False) s₁) (λ_ _=>False) s) :
  wpAny (model prog w) A (handleBy (.ref e) env (.ExceptHandler (some t) (some n) (b₀::suite) pos::rest)) Q E s:=by
 refine wpAny_handleBy_cons (codeAny_handlers_test (wpAny_mono h (λc s₁ h₁=>?_) λ_ _ x=>x.elim)) (by intro q;cases q);obtain⟨rfl,x1,x2,x3,x4,x5,hk⟩:=h₁;refine wx x1 x2 x3 x4 x5 ?_;refine codeAny_handlers_suite_as (wpAny_mono hk (λ_ s₂ h₂=>wpAny_mono h₂ (λ_ s₃ h₃=>wpAny_mono h₃ (λf s₄ h₄=>h₄) λ_ _ z=>z.elim) λ_ _ z=>z.elim) λ_ _ z=>z.elim)
end
section
variable{prog:Program}{w:World}{A:Around}{E:Ya}{h:Heap}{g:Array GenState}{d:Drawn}{t:Nat}{os:OsState}
variable{nm q:Str}{C N:Addr}{bs bm bmB:ZG}{vt:Bool}{sn:ZF}{sub:ZG}{ab:Bool}{col:Option Bool}{dd:ZS}{k0 k1 k2 k3 k5:ZM}{B newId initId:String}
noncomputable abbrev tupO(rest:ZG):Obj:={ cls:=.type "tuple",data:=.seq rest.toArray }
noncomputable abbrev excO(C t:Addr):Obj:={ cls:=.ref C,data:=.fields #[.ref t,.none,.none,.none,.bool false,.none] }
noncomputable abbrev made(h:Heap)(C:Addr)(rest:ZG):Heap:=(h.push (tupO rest)).push (excO C h.objs.size)
theorem T8:∀b o,h.get? b=some o->(made h C rest).get? b=some o:=λ_ _ e=>Uz _ (Uz _ e)
theorem bf:(made h C rest).get? (h.objs.size+1)=some (excO C h.objs.size):=by
 have:=M7 (h.push (tupO rest)) (o:=excO C h.objs.size) rfl
 rwa [Heap.size_push]at this
theorem Zkv(F:ExcBaseFacts B newId initId bmB)(T:OwnTail h bmB bm)
  (hC:h.get? C=some (excClassObj nm q C N bs bm vt sn sub ab col dd k0 k1 k2 k3 k5 newId)) (hI:Lk (model prog w) h (typeLookup (.ref C) "__init__") (some (.ref fI)))
  (hf:Lk (model prog w) h (typeOf (.ref fI)) (.type "function")) (Zq3:rest.length<=sizeLine)
  (hq:wpAny (model prog w) A (call (.ref fI) (.ref (h.objs.size+1)::rest)) (λr s'=>r=.none/\Q (.done (.ret (.ref (h.objs.size+1)))) s') E ⟨made h C rest,g,d,t,os⟩) :
  wpAny (model prog w) A (Builtin.«type.__call__» ⟨.ref C::rest,[]⟩) Q E ⟨h,g,d,t,os⟩:=by
 have c1:=T8 (C:=C) (rest:=rest) _ _ hC;have cC:(Value.ref C::bm).contains (.ref C)=true:=by simp
 repeat (first | with_reducible refine wpAny_madeBy_exc hC ?_ | with_reducible refine wpAny_loadPart_at hC ?_ | wp_step)
 refine codeAny_call_builtin_code (Code.quiet_builtin _ F.quiet) (wpAny_check_new_subT F T hC (codeAny_exc_new_subT F T hC ?_ Zq3));show wpAny _ _ _ _ _ _;unfold isInstance;have e1:=bf (h:=h) (C:=C) (rest:=rest)
 repeat (first | (with_reducible refine wpAny_isSubtype_exc c1 ?_;rw[cC]) | with_reducible refine wpAny_loadPart_at e1 ?_ | wp_step)
 show wpAny _ _ (typeLookup (.ref C) _) _ _ _;refine hI _ _ _ _ T8 (wpAny_holding (Zn ?_));unfold bindSpecial;refine Zn (hf _ _ _ _ T8 ?_);rw[if_pos QI];refine Z4 (Zn (wpAny_mono hq (λr s' ⟨hr,hQ⟩=>?_) λ_ _ y=>y));subst hr
 wp_walk
 exact hQ
end
section
variable{prog:Program}{w:World}{A:Around}{E:Ya}{h:Heap}{g:Array GenState}{d:Drawn}{t:Nat}{os:OsState}
variable{nm q:Str}{C N:Addr}{bs bm bmB:ZG}{vt:Bool}{sn:ZF}{sub:ZG}{ab:Bool}{col:Option Bool}{dd:ZS}{k0 k1 k2 k3 k5:ZM}{B newId initId:String}
theorem Zjd(F:ExcBaseFacts B newId initId bmB)(T:OwnTail h bmB bm)
  (hC:h.get? C=some (excClassObj nm q C N bs bm vt sn sub ab col dd k0 k1 k2 k3 k5 newId)) (hI:Lk (model prog w) h (typeLookup (.ref C) "__init__") (some (.ref fI)))
  (hf:Lk (model prog w) h (typeOf (.ref fI)) (.type "function")) (Zq3:rest.length<=sizeLine)
  (hq:wpAny (model prog w) (A.under (.builtin "type.__call__" ⟨.ref C::rest,[]⟩)) (call (.ref fI) (.ref (h.objs.size+1)::rest)) (λr s'=>r=.none/\Q (.ref (h.objs.size+1)) s') E ⟨made h C rest,g,d,t,os⟩) :
  wpAny (model prog w) A (call (.ref C) rest) Q E ⟨h,g,d,t,os⟩:=by
 have f2:=tc_bind (.ref C);have f1:=tc_lookup;have ty:(⟨h,g,d,t,os⟩:Shared).TypeIs (.ref C) "type" := ⟨_,hC,rfl⟩;refine wpAny_call (codeAny_of_tree ?_);show wpAny _ _ (callAny (.ref C) _) _ _ _
 repeat (any_goals (first | with_reducible refine wpAny_loadPart_at hC ?_ | assumption | wp_step))
 refine⟨rfl,codeAny_call_builtin_at (Code.quiet_builtin _ QA) entry_typeCall (wpAny_check_type_call_sub hC (Zkv F T hC hI hf Zq3 hq))⟩
end
end EX
namespace EX
open PySem Builtin Builtin.ObjectAttr
structure cy(M:Model)(h:Heap)(x C:Addr)(name:Str):Prop where
 sa:Lk M h (typeLookup (.ref C) "__setattr__") (some (.builtin "object.__setattr__"))
 no:Lk M h (typeLookup (.ref C) name) none
 rf:Lk M h (refuseIfOverridden (.ref x) "__setattr__") ()
 ob:Lk M h (isSubtype (.ref C) (.type "object")) true
 cd:∃cd,Lk M h (classData C) cd/\cd.hasDict=true
structure Qi:Prop where
 slot:Slot "object" "__setattr__" "object.__setattr__"
 entry:entryFor table "object.__setattr__"=some Builtin.«object.__setattr__»
 kind:builtinKind "object.__setattr__"=some .slot
 split:splitId "object.__setattr__"=some ("object","__setattr__")
 args:∀a b c:Value,argsOk "object.__setattr__" ⟨[a,b,c],[]⟩
section
variable{prog:Program}{w:World}{A:Around}{E:Ya}{s:Shared}{x C:Addr}{o:Obj}{name:Str}{v:Value}
theorem C6{M:Model}{i owner n:String}{self:Value}{rest:ZG}{Q:ZP}(hk:builtinKind i=some .slot)(hs:splitId i=some (owner,n))
  (hi:Lk M s.heap (isInstance self (.type owner)) true) (ha:argsOk i ⟨self::rest,[]⟩) (z:Q () s):wpAny M A (checkBuiltinCall i ⟨self::rest,[]⟩) Q E s:=by
 simp only[checkBuiltinCall,hk,hs];refine Zn (hi _ _ _ _ (λ_ _ y=>y) ?_);rw[if_neg QI];cases g:Manifest.signature? i with
 | none=>exact Z4 z
 | some sig =>
  have e:Bind.checkArgs i sig ⟨self::rest,[]⟩=pure ():=by unfold argsOk at ha;rw[g]at ha;exact ha
  exact(show wpAny M A (Bind.checkArgs i sig ⟨self::rest,[]⟩) Q E s by rw[e];exact Z4 z)
theorem Hu(hx:h.get? x=some o)(hc:o.cls=.ref C)(hb:Lk M h (isSubtype (.ref C) b) r):Lk M h (isInstance (.ref x) b) r:=by
 intro A Q E s k q;unfold isInstance;exact Zn (T1 hx hc _ _ _ _ k (hb _ _ _ _ k q))
theorem osa_as(self v:Value)(name:Str)(tk:Tok):Builtin.«object.__setattr__» ⟨[self,.str name tk,v],[]⟩=(refuseIfOverridden self "__setattr__" >>= λ_=>typeOf self >>= λc=>typeLookup c name >>= λa =>
  storeTaker? a >>= λy=>match y with | some y=>setByDescriptor y self v | none=>storeInOwnDict self c (.str name tk) name v a.isSome):=by kernel_rfl
theorem Ig(SF:Qi)(S:cy (model prog w) s.heap x C name)(hx:s.heap.get? x=some o)(hc:o.cls=.ref C)
  (h:∀(A:Around) (R:Fin->Shared->Prop) (E':Ya) (b:Bool) (tk:Tok),(∀s',Q () s'->R (.done (.ret .none)) s') ->
   wpAny (model prog w) A (storeInOwnDict (.ref x) (.ref C) (.str name tk) name v b) R E' { s with toks:=s.toks+1 }) :
  wpAny (model prog w) A (setAttr (.ref x) name v) Q E s:=by
 have ty:=T1 (M:=model prog w) hx hc;have same:∀b o,s.heap.get? b=some o->({ s with toks:=s.toks+1 }:Shared).heap.get? b=some o:=λ_ _ e=>e;unfold setAttr callSpecial? specialOf;refine Zn (wpAny_mkText (Zn (Zn (Zn (ty _ _ _ _ same (S.sa _ _ _ _ same (wpAny_holding ?_)))))));rw[SF.slot.bind];refine Zn (Z4 (Zn (wpAny_call ?_)));refine codeAny_call_builtin SF.slot.plain SF.entry ?_;have ag:=SF.args (.ref x) (.str name s.toks) v;have ii:=Hu (M:=model prog w) hx hc S.ob;refine @C6 _ _ { s with toks:=s.toks+1 } (model prog w) "object.__setattr__" "object" "__setattr__" (.ref x) [.str name s.toks,v] _ SF.kind SF.split ii ag ?_;rw[show ([Value.ref x]++[Value.str name s.toks,v])=[.ref x,.str name s.toks,v] from rfl,osa_as];refine Zn (S.rf _ _ _ _ same (Zn (ty _ _ _ _ same (Zn (S.no _ _ _ _ same (Zn (Z4 ?_)))))));exact h _ _ _ _ _ λs' z=>Z4 (Z4 z)
noncomputable abbrev newD:Obj:={ cls:=.type "dict",data:=.dict #[] }
theorem rn(SF:Qi)(S:cy (model prog w) s.heap x C name)(hx:s.heap.get? x=some o)(hc:o.cls=.ref C)(hd:o.dict=none)(hv:o.data=.fields vs)
  (h:∀h' tk,(∀b u,b≠x->s.heap.get? b=some u->h'.get? b=some u)->h'.get? x=some { o with dict:=some s.heap.objs.size }->h'.Ns1 s.heap.objs.size (λy=>if y=name then some v else none) ->
   Q () { s with heap:=h',toks:=tk }):wpAny (model prog w) A (setAttr (.ref x) name v) Q E s:=by
 refine Ig SF S hx hc λA R E' b tk hR=>?_;obtain⟨cd,Kk,hh⟩:=S.cd;have same:∀b o,s.heap.get? b=some o->({ s with toks:=s.toks+1 }:Shared).heap.get? b=some o:=λ_ _ e=>e;obtain⟨oc,od,dt,sl⟩:=o;obtain rfl:oc=.ref C:=hc;obtain rfl:od=none:=hd;obtain rfl:dt=.fields vs:=hv;have nx:s.heap.objs.size≠x:=Nat.ne_of_gt (Ut hx);unfold storeInOwnDict ownDictForStores instanceDict;refine Zn (Z4 (Zn (Zn (wpAny_loadPart (same _ _ hx) (Zn (Kk _ _ _ _ same ?_))))));rw[hh];refine Zn (wpAny_alloc (Zn (wpAny_update (Uz _ hx) (Z4 ?_))));have e1:=Uz newD hx;have e2:((s.heap.push newD).update x λo=>{ o with dict:=some s.heap.objs.size }).get? x=some ⟨.ref C,some s.heap.objs.size,.fields vs,sl⟩:=Heap.get?_update_self _ e1 rfl;have e3:((s.heap.push newD).update x λo=>{ o with dict:=some s.heap.objs.size }).get? s.heap.objs.size=some newD:=(Heap.get?_update_other _ _ (Ne.symm nx)).trans (M7 _ rfl);have ns:((s.heap.push newD).update x λo=>{ o with dict:=some s.heap.objs.size }).Ns s.heap.objs.size (λ_=>none):=⟨newD, #[],_,e3,rfl,(λe he=>absurd he QE),λ_=>rfl⟩;show wpAny _ _ (storeInDict s.heap.objs.size (.str name tk) name v) _ _ _;unfold storeInDict newKeyGuard;refine Zn (Z4 (Zn (wpAny_nsSet1 (Heap.Ns1.of_empty ns) λh' oi hs=>?_)));obtain⟨oD,esD,epD,hoD,hdD,hcD⟩:=oi.count (Within.cons name v Within.nil);refine Zn (wpAny_lookBehind hoD ?_ (Z4 (hR _ (h h' _ (λb u hb q=>?_) ((hs.2 x (Ne.symm nx)).trans e2) oi))))
 .rw[hdD];exact pastItsLine_dict (Vf hcD (by rw[sizeLine_eq,R1,List.length_nil];omega))
 .exact(hs.2 b (Nj (Ut q))).trans ((Heap.get?_update_other _ _ (Ne.symm hb)).trans (Uz _ q))
theorem Zxx(SF:Qi)(S:cy (model prog w) s.heap x C name)(hx:s.heap.get? x=some o)(hc:o.cls=.ref C)(hd:o.dict=some dx)
  (hn:s.heap.Ns1 dx mA) (hw:Within mA ns) (hz:ns.length<1000)
  (h:∀h' tk,Heap.SameBut dx s.heap h'->h'.Ns1 dx (λy=>if y=name then some v else mA y)->Q () { s with heap:=h',toks:=tk }):wpAny (model prog w) A (setAttr (.ref x) name v) Q E s:=by
 refine Ig SF S hx hc λA R E' b tk hR=>?_;obtain⟨cd,Kk,hh⟩:=S.cd;have same:∀b o,s.heap.get? b=some o->({ s with toks:=s.toks+1 }:Shared).heap.get? b=some o:=λ_ _ e=>e;obtain⟨oc,od,dt,sl⟩:=o;obtain rfl:oc=.ref C:=hc;obtain rfl:od=some dx:=hd;unfold storeInOwnDict ownDictForStores instanceDict;refine Zn (Z4 (Zn (Zn (wpAny_loadPart (same _ _ hx) (Zn (Kk _ _ _ _ same ?_))))));rw[hh];refine Z4 (a:=some dx) ?_;show wpAny _ _ (storeInDict dx (.str name tk) name v) _ _ _;unfold storeInDict newKeyGuard;refine Zn (Z4 (Zn (wpAny_nsSet1 (s:={ s with toks:=s.toks+1 }) hn λh' oi hs=>?_)));obtain⟨oD,esD,epD,hoD,hdD,hcD⟩:=oi.count (Within.cons name v hw);refine Zn (wpAny_lookBehind hoD ?_ (Z4 (hR _ (h h' _ hs oi))));rw[hdD];exact pastItsLine_dict (Vf hcD (by rw[sizeLine_eq,R1];omega))
end
structure Zfj(M:Model)(h:Heap)(C:Addr)(name:Str):Prop where
 ga:Lk M h (typeLookup (.ref C) "__getattribute__") (some (.builtin "BaseException.__getattribute__"))
 hk:Lk M h (typeLookup (.ref C) "__getattr__") none
 no:Lk M h (typeLookup (.ref C) name) none
 ob:Lk M h (isSubtype (.ref C) (.type "BaseException")) true
 cd:∃cd,Lk M h (classData C) cd/\cd.hasDict=true
theorem Zx7(self:Value)(name:Str)(tk:Tok):∃miss:Value->Sem Fin,Builtin.«object.__getattribute__» ⟨[self,.str name tk],[]⟩=(typeOf self >>= λtp=>find self tp name >>= λf =>
  match f with | .value v=>ret v | .bind g a=>bindTo g a self tp | .missing=>miss tp):=⟨_,rfl⟩
section
variable{prog:Program}{w:World}{A:Around}{E:Ya}{s:Shared}{x C dx:Addr}{o:Obj}{name:Str}{v:Value}{mA:G6}{vs:ZT}
theorem Qu:Slot "ValueError" "__getattribute__" "BaseException.__getattribute__" := PySem.F.excAttr_ValueError.ga
theorem get_at(G:Zfj (model prog w) s.heap C name)(hx:s.heap.get? x=some o)(hc:o.cls=.ref C)(hd:o.dict=some dx)(hv:o.data=.fields vs)(hn:s.heap.Ns dx mA)
  (hm:mA name=some v) (ho:∀i,v≠.builtin i) (h:Q v { s with toks:=s.toks+1 }):wpAny (model prog w) A (getAttr (.ref x) name expr) Q E s:=by
 obtain⟨cd,Kk,hh⟩:=G.cd;obtain⟨oc,od,dt,sl⟩:=o;obtain rfl:oc=.ref C:=hc;obtain rfl:od=some dx:=hd;obtain rfl:dt=.fields vs:=hv;have ty:=T1 (M:=model prog w) hx rfl;have same:∀b o,s.heap.get? b=some o->({ s with toks:=s.toks+1 }:Shared).heap.get? b=some o:=λ_ _ e=>e
 have hand:handedOut v=pure v:=by
  cases v<;>first | rfl | exact absurd rfl (ho _)
 unfold getAttr getAttrBy;refine Zn (wpAny_mkText (wpAny_holding (Zn (ty _ _ _ _ same (Zn (G.ga _ _ _ _ same ?_))))))
 have e0:(onTheHeap (Value.ref C)&&Value.builtin "BaseException.__getattribute__" == Value.builtin "object.__getattribute__")=false:=by
  rw[show (Value.builtin "BaseException.__getattribute__" == Value.builtin "object.__getattribute__")=false by decide +kernel,Bool.and_false]
 show wpAny _ _ (if (onTheHeap (Value.ref C)&&Value.builtin "BaseException.__getattribute__" == Value.builtin "object.__getattribute__")=true then _ else _) _ _ _;rw[e0,if_neg Cg];unfold getAttrByItsOwn hookBefore;refine Zn (G.hk _ _ _ _ same (Zn (wpAny_attempt (wpAny_holding ?_))));unfold callGetattribute boundAndCalled;have e1:(expr&&onTheHeap (Value.builtin "BaseException.__getattribute__"))=false:=by cases expr<;>rfl
 rw[e1,if_neg Cg,Qu.bind];refine Zn (Z4 (wpAny_call ?_));refine codeAny_call_builtin Qu.plain PySem.F.entry_bexc_ga ?_;have ag:=PySem.F.args_bexc_ga (.ref x) (.str name s.toks);have ii:=Hu (M:=model prog w) hx rfl G.ob;refine @C6 _ _ { s with toks:=s.toks+1 } (model prog w) "BaseException.__getattribute__" "BaseException" "__getattribute__" (.ref x) [.str name s.toks] _ QA QA ii ag ?_;obtain⟨miss,em⟩:=Zx7 (.ref x) name s.toks;rw[show ([Value.ref x]++[Value.str name s.toks])=[.ref x,.str name s.toks] from rfl,em];refine Zn (ty _ _ _ _ same (Zn ?_));unfold find;refine Zn (G.no _ _ _ _ same (Zn (Z4 (Zn (Z4 ?_)))));unfold ownThenClass inOwnDict ownDict instanceDict;refine Zn (Zn (Zn (wpAny_loadPart (same _ _ hx) (Zn (wpAny_loadPart (same _ _ hx) (Zn (Kk _ _ _ _ same ?_)))))));rw[hh];refine Z4 (a:=some dx) ?_;refine wpAny_nsGet (s:={ s with toks:=s.toks+1 }) hn ?_;rw[hm];refine Zn (wpAny_rule (Z4 (Z4 ?_)));show wpAny _ _ (handedOut v) _ _ _;rw[hand];exact Z4 h
end
end EX
namespace EX
open PySem
section
variable{prog:Program}{w:World}{A:Around}{E:Ya}{h:Heap}{g:Array GenState}{d:Drawn}{t:Nat}{os:OsState}
variable{nm q:Str}{C N:Addr}{bs bm bmB:ZG}{vt:Bool}{sn:ZF}{sub:ZG}{ab:Bool}{col:Option Bool}{dd:ZS}{k0 k1 k2 k3 k5:ZM}{B newId initId:String}
end
end EX
namespace EX
open PySem PySem.W Builtin Builtin.ObjectAttr
section
variable{prog:Program}{w:World}{A:Around}{E:Ya}{s:Shared}{x C:Addr}{o:Obj}{od:Option Obj}{K:Frag}
theorem v9(hc:(clsIn K C).isSome=true)(ha:findIn K (.ref C) "__class__"=some (some (.builtin "object.__class__")))(hg:specialIn K (.builtin "object.__class__") "__get__"=some (some (.builtin "getset_descriptor.__get__")))
  (ht:takesIn K (.builtin "object.__class__")=some true):findObj K C od "__class__"=some (.bind (.builtin "getset_descriptor.__get__") (.builtin "object.__class__")):=by
 obtain⟨cd,hc⟩:=Option.isSome_iff_exists.mp hc;unfold findObj;rw[hc,ha];simp only[Option.bind_some,hg,ht]
theorem Zju(X:K.In s.heap)(I:InstAt s.heap x o C od)(ga:findIn K (.ref C) "__getattribute__"=some (some (.builtin "BaseException.__getattribute__")))(hk:findIn K (.ref C) "__getattr__"=some none)
  (be:mroIn K C (.type "BaseException")=some true) (ob:mroIn K C (.type "object")=some true) (hf:findObj K C od "__class__"=some (.bind (.builtin "getset_descriptor.__get__") (.builtin "object.__class__")))
  (h:Q (some (.ref C)) { s with toks:=s.toks+1 }):wpAny (model prog w) A (getAttr? (.ref x) "__class__") Q E s:=by
 have ty:=I.type (M:=model prog w);have same:∀b o,s.heap.get? b=some o->({ s with toks:=s.toks+1 }:Shared).heap.get? b=some o:=λ_ _ e=>e;unfold getAttr? getAttrBy? getAttrBy;refine Zn (wpAny_mkText (Zn (wpAny_attempt (wpAny_holding (Zn (ty _ _ _ _ same (Zn (looks_findIn X ga _ _ _ _ same ?_))))))))
 have e0:(onTheHeap (Value.ref C)&&Value.builtin "BaseException.__getattribute__" == Value.builtin "object.__getattribute__")=false:=by
  rw[show (Value.builtin "BaseException.__getattribute__" == Value.builtin "object.__getattribute__")=false by decide +kernel,Bool.and_false]
 show wpAny _ _ (if (onTheHeap (Value.ref C)&&Value.builtin "BaseException.__getattribute__" == Value.builtin "object.__getattribute__")=true then _ else _) _ _ _;rw[e0,if_neg Cg];unfold getAttrByItsOwn hookBefore;refine Zn (looks_findIn X hk _ _ _ _ same (Zn (wpAny_attempt (wpAny_holding ?_))));unfold callGetattribute boundAndCalled;rw[B0x,if_neg Cg,Qu.bind];refine Zn (Z4 (wpAny_call ?_));refine codeAny_call_builtin Qu.plain PySem.F.entry_bexc_ga ?_;have ag:=PySem.F.args_bexc_ga (.ref x) (.str "__class__" s.toks);have ii:=Hu (M:=model prog w) I.at_ I.cls (looks_mroIn X be);refine @C6 _ _ { s with toks:=s.toks+1 } (model prog w) "BaseException.__getattribute__" "BaseException" "__getattribute__" (.ref x) [.str "__class__" s.toks] _ QA QA ii ag ?_;obtain⟨miss,em⟩:=Zx7 (.ref x) "__class__" s.toks;rw[show ([Value.ref x]++[Value.str "__class__" s.toks])=[.ref x,.str "__class__" s.toks] from rfl,em];refine Zn (ty _ _ _ _ same (Zn (looks_find X I hf _ _ _ _ same ?_)));show wpAny _ _ (holding [Value.builtin "object.__class__"] (call (.builtin "getset_descriptor.__get__") [.builtin "object.__class__",.ref x,.ref C]) >>= ret) _ _ _;refine Zn (wpAny_holding (wpAny_call (class_get (s:={ s with toks:=s.toks+1 }) (ox:=o) (od:=od) X I ob ?_)));exact Z4 (Z4 (Z4 h))
end
end EX
namespace L2
open PySem PySem.Spec PyProof.Rows
def XO(a C:Addr)(od:ZS)(new:Bool)(h:Heap):Prop:=∃vs sl,h.get? a=some ⟨.ref C,od,.fields vs,sl⟩/\1<vs.size/\(new=true->vs[1]?=some .none)
noncomputable abbrev Mh(a C:Addr)(od:ZS)(new:Bool):HO:=.ext (XO a C od new)
def DO(a:Addr)(fs:List (Str×V))(h:Heap):Prop:=fs.length<=100/\∃mA,h.Ns1 a mA/\(∀f,Rr (fs.lookup f) (mA f))/\PySem.Within mA (fs.map (·.1))
noncomputable abbrev DHO(a:Addr)(fs:List (Str×V)):HO:=.ext (DO a fs)
section
variable{P:Program}{w:World}{H:Hp}{h:Heap}{a C:Addr}{od:ZS}{new:Bool}{fs:List (Str×V)}
theorem XO.ok(x:XO a C od new h):Y4 P w H h a (Mh a C od new):=by
 obtain⟨vs,sl,e,z⟩:=x;exact⟨⟨vs,sl,e,z⟩,⟨_,e⟩,λh1 h2 ⟨vs,sl,e,z⟩ k=>⟨vs,sl,k _ e,z⟩⟩
theorem DO.ok(x:DO a fs h):Y4 P w H h a (DHO a fs):=by
 obtain⟨z,mA,⟨o,es,ep,e,r⟩,q⟩:=x;exact⟨⟨z,mA,⟨o,es,ep,e,r⟩,q⟩,⟨o,e⟩,λh1 h2 ⟨z,mA,⟨o,es,ep,e,r⟩,q⟩ k=>⟨z,mA,⟨o,es,ep,k _ e,r⟩,q⟩⟩
theorem Bs.xo(x:Bs P w H h)(e:H a=some (Mh a C od new)):XO a C od new h:=(x a _ e).1
theorem Bs.do_(x:Bs P w H h)(e:H a=some (DHO a fs)):DO a fs h:=(x a _ e).1
end
noncomputable def Bf:ZG:=[.type "ValueError",.type "Exception",.type "BaseException",.type "object"]
noncomputable def Pu:ZG->Bool
 | .ref _::r=>Pu r
 | l=>l==Bf
theorem Ee(self:Value):∀{l:ZG},Pu l=true->refuseLoop self "__setattr__" l=pure ()
 | [],e=>by cases e
 | v::r,e=>by
  cases v with
  | ref c=>rw[refuseLoop_ref];exact Ee self (l:=r) e
  | type n=>rw[show (Value.type n::r)=Bf from beq_iff_eq.mp e];exact PySem.F.store_ValueError.passes self
  | _=>cases(show _=Bf from beq_iff_eq.mp e)
structure Mb(K:W.Frag)(C:Addr):Prop where
 sa:W.findIn K (.ref C) "__setattr__"=some (some (.builtin "object.__setattr__"))
 ga:W.findIn K (.ref C) "__getattribute__"=some (some (.builtin "BaseException.__getattribute__"))
 hk:W.findIn K (.ref C) "__getattr__"=some none
 ca:W.findIn K (.ref C) "__class__"=some (some (.builtin "object.__class__"))
 be:W.mroIn K C (.type "BaseException")=some true
 ob:W.mroIn K C (.type "object")=some true
 hd:W.hasDictIn K C=true
 ty:W.typeIn K (.ref C)=some (.type "type")
 rf:((W.clsIn K C).any λcd=>Pu cd.mro)=true
 gs:W.specialIn K (.builtin "object.__class__") "__get__"=some (some (.builtin "getset_descriptor.__get__"))
 tk:W.takesIn K (.builtin "object.__class__")=some true
theorem Im:EX.Qi:=⟨PySem.F.store_object.slot,PySem.F.store_object.entry,PySem.F.store_object.kind,PySem.F.store_object.split,PySem.F.store_object.args⟩
section
variable{K:W.Frag}{C x:Addr}{M:Model}{h:Heap}{f:Str}{o:Obj}
theorem Mb.setOk(c:Mb K C)(X:K.In h)(n:Rh K C f)(hx:h.get? x=some o)(hc:o.cls=.ref C):EX.cy M h x C f:=by
 refine⟨W.looks_findIn X c.sa,W.looks_findIn X n,?_,W.looks_mroIn X c.ob,?_⟩
 .obtain⟨cd,dz,e⟩:=W.any_some c.rf;have hm:W.Looks M h (mroOf (.ref C)) cd.mro:=(W.looks_clsIn X dz).andThen .now;intro A Q E s k q;rw[refuse_eq];refine Zn (EX.T1 hx hc _ _ _ _ k (Zn (hm _ _ _ _ k ?_)));rw[Ee _ e];exact Z4 q
 .obtain⟨cd,dz,e⟩:=W.any_some c.hd;exact⟨cd,W.looks_clsIn X dz,e⟩
theorem Mb.getOk(c:Mb K C)(X:K.In h)(n:Rh K C f):EX.Zfj M h C f:=by
 obtain⟨cd,dz,e⟩:=W.any_some c.hd;exact⟨W.looks_findIn X c.ga,W.looks_findIn X c.hk,W.looks_findIn X n,W.looks_mroIn X c.be,cd,W.looks_clsIn X dz,e⟩
end
section
variable{X:Cx}{XX:Vs}{j:St}{H:Hp}{s:Shared}{h':Heap}{t':Nat}
theorem G5(e:H a=some (.ext φ))(q:H b=some u)(hu:∀ψ,u≠.ext ψ):b≠a:=λz=>by
 subst z;rw[q]at e;exact hu _ (Fk e)
theorem Inv.wr2(I:Inv X XX j H s)(ea:H a=some (.ext φ))(hd:s.heap.objs.size<=d)(k:∀b v,b≠a->s.heap.get? b=some v->h'.get? b=some v)
  (na:Y4 X.prog X.w (upd (upd H d u) a o) h' a o) (nd:Y4 X.prog X.w (upd (upd H d u) a o) h' d u) (hh:∃v,h'.get? a=some v):Inv X XX j (upd (upd H d u) a o) { s with heap:=h',toks:=t' }:=by
 have hfd:H d=none:=I.hok.fresh hd;have nda:d≠a:=λz=>by rw[z,ea]at hfd;cases hfd
 have at_:∀{b:Addr},b≠a->b≠d->upd (upd H d u) a o b=H b:=λh1 h2=>by rw[Zm h1,Zm h2]
 have nd_:∀{b:Addr} {v:HO},H b=some v->b≠d:=λq z=>by rw[z,hfd]at q;cases q
 have na_:∀{b:Addr},H b=none->b≠a:=λq z=>by rw[z,ea]at q;cases q
 refine I.un ⟨λb v q n _ _=>k b v (na_ n) q,λb v q n _ _=>⟨v.slots,k b v (na_ n) q⟩,λb v q n _=>?_,λb v q _=>?_,λb xs q=>?_,λb v xs q=>?_,λb ps q=>⟨#[],?_⟩⟩ λb v q=>?_
 .rw[at_ (na_ n) (Nj (R0 (Ut q) hd))];exact n
 .by_cases z:b=a
  .rw[z];exact hh
  .exact⟨v,k b v z q⟩
 .rw[at_ (G5 ea q λ_ z=>nomatch z) (nd_ q)];exact q
 .rw[at_ (G5 ea q λ_ z=>nomatch z) (nd_ q)];exact q
 .rw[at_ (G5 ea q λ_ z=>nomatch z) (nd_ q),q];simp
 .by_cases z:b=a
  .subst z;rw[Zz]at q;cases q;exact na
  .by_cases z2:b=d
   .subst z2;rw[Zm z,Zz]at q;cases q;exact nd
   .rw[at_ z z2]at q;refine(I.hok b v q).stay (λc w' hc r=>k c w' ?_ r) (λc r=>?_) λc xs r=>?_
    .rcases hc with hc | hc
     .rw[hc];exact z
     .exact G5 ea hc λ_ y=>nomatch y
    .rw[at_ (G5 ea r λ_ y=>nomatch y) (nd_ r)];exact r
    .rw[at_ (G5 ea r λ_ y=>nomatch y) (nd_ r)];exact r
end
inductive Zvw(K:W.Frag)(f:Str)(D:Ends)(j:St)(y:V)(x:V)(H2:Hp):Prop
 | mk(a C od new)(Vx:x=.ref a)(Vz:H2 a=some (Mh a C od new))(Vp:Mb K C)(Jn:Rh K C f)(Mf:((od=none/\∀d,H2 d=none->d≠a->D.nx j (upd (upd H2 d (DHO d [(f,y)])) a (Mh a C (some d) new)))\/(∃d fs,od=some d/\H2 d=some (DHO d fs)/\fs.length<100/\D.nx j (upd H2 d (DHO d (Rw f y fs))))))
def sFldX(K:W.Frag)(ta tv:TE)(f:Str):TS:=λD j H=>tv j H λy H1=>ta j H1 λx H2=>Zvw K f D j y x H2
section
variable{X:Cx}{o e value:Expr}{f:Str}{pos pos':Pos}{ta tv:TE}
theorem Zvu(ha:PE X o ta)(hv:PE X value tv)(hs:swapsWith value (some (.Attribute o f pos')) pos.line X.env=pure false):PS X (.Assign [.Attribute o f pos'] value pos) (sFldX X.K ta tv f):=by
 intro XX s j H D I h;refine plainObj_wpAny_Assign_Attribute (Y7 (hv XX s j H _ I h) λu s1 ⟨y,H1,I1,ry,q⟩=>Y7 (ha XX s1 j H1 _ I1 q) λov s2 ⟨x,H2,I2,rx,a,C,od,new,ex,ea,c,n,q2⟩=>?_) hs;subst ex;obtain rfl:ov=Value.ref a:=rx;obtain⟨vs,sl,hx,z1,z2⟩:=I2.hok.xo ea;have S:=c.setOk (M:=model X.prog X.w) I2.kIn n hx rfl;rcases q2 with ⟨rfl,q2⟩ | ⟨d,fs,rfl,ed,hl,q2⟩
 .refine EX.rn Im S hx rfl rfl rfl λh' tk k e1 ns=>?_;have hf:H2 s2.heap.objs.size=none:=I2.hok.fresh (Yt _);have nx:s2.heap.objs.size≠a:=Nat.ne_of_gt (Ut hx);refine⟨j,_,I2.wr2 (d:=s2.heap.objs.size) (u:=DHO s2.heap.objs.size [(f,y)]) (o:=Mh a C (some s2.heap.objs.size) new) ea (Yt _) k (XO.ok ⟨vs,sl,e1,z1,z2⟩) (DO.ok ⟨by simp,_,ns,λg=>?_,λg hg=>?_⟩) ⟨_,e1⟩,q2 _ hf nx⟩
  .by_cases z:g=f
   .subst z;simp only[List.lookup,B0s,if_true];exact ry
   .simp only[List.lookup,ij.mpr z,if_neg z];trivial
  .by_cases z:g=f
   .subst z;simp
   .exact absurd (show (if g=f then some u else none)=none from if_neg z) hg
 .obtain⟨z3,mA,ns,r,wi⟩:=I2.hok.do_ ed;refine EX.Zxx Im S hx rfl rfl ns wi (by rw[Yv];omega) λh' tk sb ns'=>⟨j,_,?_,q2⟩;have hd:∃u,h'.get? d=some u:=let ⟨o,_,_,e',_⟩:=ns';⟨o,e'⟩;refine I2.write (x:=d) (e:=d) (by rw[ed];exact True.intro) (.inl rfl) (λb v hb z=>(sb.2 b hb).trans z) hd (DO.ok ⟨?_,_,ns',λg=>?_,λg hg=>?_⟩)
  .have:=Fi f y fs;omega
  .show Rr ((Rw f y fs).lookup g) (if g=f then some u else mA g);rw[Fo];by_cases z:g=f
   .rw[if_pos z,if_pos z];exact ry
   .rw[if_neg z,if_neg z];exact r g
  .by_cases z:g=f
   .rw[z];exact(L9 f y fs).1
   .exact(L9 f y fs).2 g (wi g λz'=>hg (show (if g=f then some u else mA g)=none by rw[if_neg z];exact z'))
inductive Zwi(K:W.Frag)(f:Str)(Q:VK)(x:V)(H1:Hp):Prop
 | mk(a C d new fs v)(Vx:x=.ref a)(Vz:H1 a=some (Mh a C (some d) new))(Vp:H1 d=some (DHO d fs))(Jn:Mb K C)(Mf:Rh K C f)(Co:fs.lookup f=some v)(Xo:Q v H1)
def tFldX(K:W.Frag)(ta:TE)(f:Str):TE:=λj H Q=>ta j H λx H1=>Zwi K f Q x H1
theorem Zvd(r:RelV v u):∀i,u≠.builtin i:=λi z=>by
 subst z;cases v with
 | non=>cases Zc r
 | bl b=>cases Zc r
 | int n=>obtain⟨t,e⟩:=(show ∃t,Value.builtin i=Value.int n t from r);cases e
 | str x=>obtain⟨t,e⟩:=(show ∃t,Value.builtin i=Value.str x t from r);cases e
 | byt b=>obtain⟨t,e⟩:=(show ∃t,Value.builtin i=Value.bytes b t from r);cases e
 | flt b=>obtain⟨t,e⟩:=(show ∃t,Value.builtin i=Value.float b t from r);cases e
 | ref a=>cases Zc r
 | ty n=>cases Zc r
theorem Zv1(he:PE X e ta)(hb:attributeBase e f X.env (eval e X.env)=eval e X.env):PE X (.Attribute e f pos) (tFldX X.K ta f):=by
 intro XX s j H Q I h;refine Zkc hb (Y7 (he XX s j H _ I h) λu s1 ⟨x,H1,I1,rx,a,C,d,new,fs,v,ex,ea,ed,c,n,l,q⟩=>?_);subst ex;obtain rfl:u=Value.ref a:=rx;obtain⟨vs,sl,hx,_⟩:=I1.hok.xo ea;obtain⟨_,mA,ns,r,_⟩:=I1.hok.do_ ed;obtain⟨u',hu,ru⟩:=Rr.some_of (v:=v) (o:=mA f) (by rw[<-l];exact r f);exact EX.get_at (c.getOk I1.kIn n) hx rfl rfl rfl ns.ns hu (Zvd ru) ⟨v,H1,I1.tok _,ru,q⟩
end
noncomputable def xTy:Value->Bool
 | .type t=>t == "type"
 | _=>false
noncomputable def xNw:Value->Bool
 | .builtin n=>n == "ValueError.__new__"
 | _=>false
noncomputable def xMr (K:W.Frag) (C:Addr):List Value->Bool
 | []=>false
 | v::bm=>v == .ref C && W.tailIn K Bf bm
noncomputable def xDt (K:W.Frag) (C:Addr):Data->Bool
 | .cls cd=>!cd.hasDel && xMr K C cd.mro
 | _=>false
noncomputable def xSl (sl:List (Option Value)):Bool:=sl.length == 6 && (sl[4]?.bind id).any xNw
noncomputable def xIn (K:W.Frag) (C:Addr):Bool:=(K.lookup C).any fun o=>xTy o.cls && (xDt K C o.data && xSl o.slots.toList)
theorem xTy_is {v:Value} (h:xTy v=true):v=.type "type":=by
 cases v <;> first | cases h | skip
 exact congrArg Value.type (beq_iff_eq.mp h)
theorem xNw_is {v:Value} (h:xNw v=true):v=.builtin "ValueError.__new__":=by
 cases v <;> first | cases h | skip
 exact congrArg Value.builtin (beq_iff_eq.mp h)
theorem xSl_is {sl:List (Option Value)} (h:xSl sl=true):∃ k0 k1 k2 k3 k5,sl=[k0,k1,k2,k3,some (.builtin "ValueError.__new__"),k5]:=by
 unfold xSl at h
 rw [Bool.and_eq_true,beq_iff_eq] at h
 obtain ⟨hl,h⟩:=h
 rcases sl with _ | ⟨k0,_ | ⟨k1,_ | ⟨k2,_ | ⟨k3,_ | ⟨k4,_ | ⟨k5,_ | ⟨_,_⟩⟩⟩⟩⟩⟩⟩ <;> first | cases hl | skip
 cases k4 with
 | none=>cases h
 | some v=>cases xNw_is (v:=v) h; exact ⟨_,_,_,_,_,rfl⟩
theorem x_cls{K:W.Frag}{h:Heap}{C:Addr}(X:K.In h)(q:xIn K C=true): ∃ nm qn N bs bm hdct sn sub ab col dd k0 k1 k2 k3 k5,
  h.get? C=some (excClassObj nm qn C N bs bm hdct sn sub ab col dd k0 k1 k2 k3 k5 "ValueError.__new__")/\OwnTail h Bf bm:=by
 unfold xIn at q
 cases ho:K.lookup C with
 | none=>rw [ho] at q; cases q
 | some o =>
  rw [ho] at q
  have q:(xTy o.cls && (xDt K C o.data && xSl o.slots.toList))=true:=q
  simp only [Bool.and_eq_true] at q
  obtain ⟨q1,q2,q3⟩:=q
  obtain ⟨cls,dd,data,⟨sl⟩⟩:=o
  obtain ⟨k0,k1,k2,k3,k5,e⟩:=xSl_is q3
  cases xTy_is q1
  cases (show sl=_ from e)
  cases data <;> first | cases q2 | skip
  rename_i cd
  have q2:(!cd.hasDel && xMr K C cd.mro)=true:=q2
  obtain ⟨nm,bs,mro,ns,qn,hd,sn,sub,ab,col,del⟩:=cd
  rw [Bool.and_eq_true,Bool.not_eq_true'] at q2
  obtain ⟨hdel,hm⟩:=q2
  cases (show del=false from hdel)
  cases mro with
  | nil=>cases hm
  | cons v bm =>
   have hm:(v == .ref C && W.tailIn K Bf bm)=true:=hm
   rw [Bool.and_eq_true,beq_iff_eq] at hm
   obtain ⟨rfl,ht⟩:=hm
   exact ⟨nm,qn,ns,bs,bm,hd,sn,sub,ab,col,dd,k0,k1,k2,k3,k5,X _ _ ho,W.tail_of_in X ht⟩
structure XMk(K:W.Frag)(C f:Addr):Prop where
 made:xIn K C=true
 init:W.findIn K (.ref C) "__init__"=some (some (.ref f))
 fn:W.isFn K (.ref f)=true
 kp:W.keepIn K (.ref C)=true
inductive Zzc(C:Addr)(sp:Sp)(E:XK)(Q:VK)(vs:ZZ)(H1:Hp):Prop
 | mk  (Vx:vs.length<=100)(Vz:∀x,H1 x=none->sp (.ref x::vs) (upd H1 x (Mh x C none true)) (λv H2=>v=.non/\Q (.ref x) H2) E)
def tMkX(C:Addr)(sp:Sp)(E:XK)(t:TA):TE:=λj H Q=>t j H λvs H1=>Zzc C sp E Q vs H1
section
variable{X:Cx}{CX:A3}{k:Nat}{f C:Addr}{fd:FuncData}{ps:ZF}{sp:Sp}{E:XK}{x m:Str}{p pos:Pos}{e:Expr}{es:ZD}{t:TA}
theorem Zvy(M:XMk X.K C f)(F:Yk X.prog X.w X.K X.mg X.base CX k f fd ps sp)(hr:V8 (k+1) X.A)(hb:Binds X.K fd ps [])
  (hx:Sf CX X E) (I:Inv X XX j H s) (r:Yj vs us) (hz:vs.length<=100)
  (h:∀x,H x=none->sp (.ref x::vs) (upd H x (Mh x C none true)) (λv H2=>v=.non/\Q (.ref x) H2) E) :
  wpAny (model X.prog X.w) X.A (call (.ref C) us) (EP X XX j Q) X.xe s:=by
 obtain⟨nm,qn,N,bs,bm,vt,sn,sub,ab,col,dd,k0,k1,k2,k3,k5,hC,T⟩:=x_cls I.kIn M.made;have hq:=h (s.heap.objs.size+1) (I.hok.fresh (Nat.le_succ _))
 have I2:Inv X XX j (upd H (s.heap.objs.size+1) (Mh (s.heap.objs.size+1) C none true)) { s with heap:=EX.made s.heap C us } :=
  I.laid (a:=s.heap.objs.size+1) (t':=s.toks) EX.T8 (Nat.le_succ _) (XO.ok ⟨_,_,EX.bf,by simp,λ_=>rfl⟩)
 have r2:Yj (V.ref (s.heap.objs.size+1)::vs) (Value.ref (s.heap.objs.size+1)::us):=.cons rfl r
 have hl:(Value.ref (s.heap.objs.size+1)::us++[]).length=ps.length:=by
  rw[ZO, <-r2.length];exact F.len _ _ _ _ hq
 have hu:us.length<=sizeLine:=by rw[<-r.length];exact Nat.le_of_lt (Yx QU)
 have bb:=hb _ (Value.ref (s.heap.objs.size+1)::us) I2.kIn hl;rw[ZO]at bb;obtain⟨hh,gg,d,tk,os⟩:=s;refine EX.Zjd PySem.F.excBase_ValueError T hC (W.looks_findIn I.kIn M.init) (W.looks_typeIn I.kIn (beq_iff_eq.mp M.fn)) hu ?_;refine wpAny_call (codeAny_mono (F.run _ X.stack _ _ ⟨Value.ref (hh.objs.size+1)::us,[]⟩ _ _ _ E (hr.make C us []) (I2.env0.make C us []) bb r2 hq) λr s' hq'=>?_);cases r with
 | error e=>exact hx XX j _ _ e s' I2 hq'
 | ok fl =>
  cases fl with
  | ret u =>
   obtain⟨v,H',I3,rv,ev,q3⟩:=I2.after hq';subst ev;exact⟨rv,⟨V.ref (hh.objs.size+1),H',I3,rfl,q3⟩⟩
  | next=>exact False.elim hq'
  | brk=>exact False.elim hq'
  | cont=>exact False.elim hq'
theorem Zxl(M:XMk X.K C f)(F:Yk X.prog X.w X.K X.mg X.base CX k f fd ps sp)(hr:V8 (k+1) X.A)(hg:Gl X x)(hm:X.mg x=some (.ref C))(hb:Binds X.K fd ps [])(hx:Sf CX X E)
  (ha:PA X (e::es) t) (He:(x==("__debug__" : Str))=false:=by decide) (he:starEach (e::es) X.env=(false,eval e X.env)::starEach es X.env:=by rfl) (Tb:(backTo pos (starEach es X.env)).any (·.1)=false:=by rfl) :
  PE X (.Call (.Name x p) (e::es) [] pos) (tMkX C sp E t):=by
 intro XX s j H Q I h;refine wpAny_Call_Name_kw (Wf I hg hm ?_ He);exact W.callWith_K (h₀:=X.base) I.ok.mod.kin M.kp (Y7 (ha pos XX s j H _ I h) λus s1 ⟨vs,H1,I1,r,z,q⟩=>⟨I1.kIn,Zvy M F hr hb hx I1 r z q⟩) he Tb
end
noncomputable def Cx.tr(X:Cx)(pn:Vs)(W:St->Hp->Addr->Addr->ZS->Prop):Cx:={ X with pn:=pn,xe:=λv s'=>∃e σ' H' C od,v=.ref e/\Inv { X with pn:=pn } [] σ' H' s'/\H' e=some (Mh e C od true)/\W σ' H' e C od }
noncomputable def Cx.ec(X:Cx)(e:Addr):Cx:={ X with A:=X.A.mark (some (.ref e)),calm:=false,xe:=λ_ _=>False }
section
variable{X:Cx}{XX pn:Vs}{j:St}{H:Hp}{s:Shared}{e:Addr}{W:St->Hp->Addr->Addr->ZS->Prop}
theorem Inv.toPn(I:Inv X XX j H s):Inv { X with pn:=X.pn++XX } [] j H s :=
 ⟨⟨I.ok.mod,I.ok.kind,I.ok.glob,I.ok.blt,I.ok.above,I.ok.inj,I.ok.has,I.ok.cab,I.ok.hd,I.ok.frames,I.ok.stk,I.ok.exf,I.ok.bs,I.ok.bsz,I.ok.noex,I.ok.exfs,I.ok.funs,I.ok.frf⟩,I.os,I.bare,I.base,I.loc,I.cell,I.free,I.freeC,
  λp hp=>I.pin p (by simpa using hp),I.hok,I.len⟩
theorem Inv.ofPn(I:Inv { X with pn:=X.pn++XX } [] j H s):Inv X XX j H s :=
 ⟨⟨I.ok.mod,I.ok.kind,I.ok.glob,I.ok.blt,I.ok.above,I.ok.inj,I.ok.has,I.ok.cab,I.ok.hd,I.ok.frames,I.ok.stk,I.ok.exf,I.ok.bs,I.ok.bsz,I.ok.noex,I.ok.exfs,I.ok.funs,I.ok.frf⟩,I.os,I.bare,I.base,I.loc,I.cell,I.free,I.freeC,
  λp hp=>I.pin p (by simpa using hp),I.hok,I.len⟩
theorem Inv.toEc(I:Inv X XX j H s):Inv (X.ec e) XX j H s :=
 ⟨⟨I.ok.mod,I.ok.kind,I.ok.glob,I.ok.blt,I.ok.above,I.ok.inj,I.ok.has,I.ok.cab,(λz=>nomatch z),I.ok.frames,I.ok.stk,I.ok.exf,I.ok.bs,I.ok.bsz,I.ok.noex,I.ok.exfs,I.ok.funs,I.ok.frf⟩,I.os,I.bare,I.base,I.loc,I.cell,I.free,I.freeC,
  I.pin,I.hok,I.len⟩
theorem Inv.ofEc(ok:X.Ok)(I:Inv (X.ec e) XX j H s):Inv X XX j H s:=⟨ok,I.os,I.bare,I.base,I.loc,I.cell,I.free,I.freeC,I.pin,I.hok,I.len⟩
end
section
variable{X:Cx}{XX:Vs}{Z:St}{H:Hp}{s:Shared}
theorem Qh(I:Inv X XX Z H s)(hN:X.N.Nodup)(hi:X.N[i]?=some n)(hk:X.env.kindOf n=some .local)
  (h:∀s',Inv X XX (Z.set i none) H s'->Q () s'):wpAny M A (do bindName X.env n .none;unbindBehindTheSuite X.env n pos) Q E s:=by
 obtain⟨m,hn,hl⟩:=id I.loc;have hcls:(X.env.scope.kind==.class || (X.env.scope.kind==.module&&X.env.locals != X.env.globals))=false:=by rw[I.ok.kind];rfl
 have hiσ:i<Z.length:=by rw[I.len];exact(Bl.mp hi).1
 obtain⟨oL,_,_,hoL,_⟩:=id hn;refine wpAny_nameGoes_keeps hk hn hcls λh' v oi hs=>?_;have ne:∀b o,X.s₀.heap.get? b=some o->b≠X.env.locals:=λb o e=>Nj (R0 (Ut e) I.ok.above)
 have hok:Bs X.prog X.w H h':=λb ob e=>by
  refine(I.hok b ob e).stay (λc w' hc q=>(hs.2 c ?_).trans q) (λ_ q=>q) λ_ _ q=>q;rintro rfl;rcases hc with rfl | hc
  .rw[I.free]at e;cases e
  .rw[I.free]at hc;cases hc
 refine h _ ⟨I.ok,I.os,I.bare,⟨λb o e n hb hx=>?_,λb o e n hb hx=>?_,I.base.free,λb o e hx=>?_,I.base.tups,I.base.frzs,I.base.tbls⟩,⟨_,oi,λj y v' e1 e2 e3=>?_⟩,λy c e=>?_,I.free,I.freeC,λp hp=>?_,hok,by simpa using I.len⟩
 .exact(hs.2 b (ne b o e)).trans (I.base.keep b o e n hb hx)
 .obtain⟨sl,e1⟩:=I.base.slot b o e n hb hx;exact⟨sl,(hs.2 b (ne b o e)).trans e1⟩
 .obtain⟨o',e1⟩:=I.base.there b o e hx;exact⟨o',(hs.2 b (ne b o e)).trans e1⟩
 .by_cases hj:j=i
  .subst hj;rw[List.getElem?_set_self hiσ]at e2;cases e2
  .rw[List.getElem?_set_ne (Ne.symm hj)]at e2;obtain⟨u',r',q⟩:=hl j y v' e1 e2 e3;refine⟨u',r',?_⟩;rcases q with ⟨k,e⟩ | ⟨k,c,e,z⟩
   .refine .inl ⟨k,?_⟩;have:y≠n:=λe=>hj (P4 hN e1 (e ▸ hi));simp[this,e]
   .exact .inr ⟨k,c,e,z.sameBut hs (I.cne y c e)⟩
 .obtain⟨w',z⟩:=I.cell y c e;exact⟨w',z.sameBut hs (I.cne y c e)⟩
 .obtain⟨e,n,ne,nf,d⟩:=I.pin p hp;exact⟨(hs.2 p.1 ne).trans e,n,ne,nf,d⟩
theorem Inv.noted(I:Inv X XX Z H s)(ea:H e=some (Mh e C od new))(N:EX.z9 X.stack e T oe s.heap h1)(k:∀b,b≠T->h2.get? b=h1.get? b)
  (x:XO e C od false h2):Inv X XX Z (upd H e (Mh e C od false)) { s with heap:=h2 }:=by
 have nT:∀b o,s.heap.get? b=some o->b≠T:=λb o q z=>Nat.lt_irrefl _ (R0 (Ut (z ▸ q)) N.new);have ne:∀{b},H b=none->b≠e:=λq z=>by rw[z,ea]at q;cases q
 have keep:∀b o,b≠e->b∉dk X.stack->s.heap.get? b=some o->h2.get? b=some o:=λb o hb hf q=>(k b (nT b o q)).trans (N.keep b o hb hf q)
 have slot:∀b o,b≠e->s.heap.get? b=some o->∃sl,h2.get? b=some { o with slots:=sl }:=λb o hb q=>by
  obtain⟨sl,z⟩:=N.slot b o hb q;exact⟨sl,(k b (nT b o q)).trans z⟩
 refine I.call (ch:=[]) (g':=s.gens) (d':=s.drawn) (t':=s.toks) ⟨λb o q n hf _=>keep b o (ne n) hf q,λb o q n _ _=>slot b o (ne n) q,λb o q n _=>?_,λb o q _=>?_,λb xs q=>?_,λb o u q=>?_,λb p q=>⟨#[],?_⟩⟩ (λb u q=>?_) I.bare (λb z=>absurd z QE)
 .rw[Zm (ne n)];exact n
 .by_cases z:b=e
  .subst z;obtain⟨vs,sl,q',_⟩:=x;exact⟨_,q'⟩
  .obtain⟨sl,q'⟩:=slot b o z q;exact⟨_,q'⟩
 .rw[Zm (G5 ea q λ_ z=>nomatch z)];exact q
 .rw[Zm (G5 ea q λ_ z=>nomatch z)];exact q
 .rw[Zm (G5 ea q λ_ z=>nomatch z),q];simp
 .by_cases z:b=e
  .subst z;rw[Zz]at q;cases q;exact x.ok
  .rw[Zm z]at q;have nf:∀{c u},H c=some u->c∉dk X.stack:=λq' hf=>by rw[I.stkFree _ hf]at q';cases q'
   refine(I.hok b u q).stay (λc w' hc r=>?_) (λc r=>?_) λc xs r=>?_
   .rcases hc with hc | hc
    .subst hc;exact keep c w' z (nf q) r
    .exact keep c w' (G5 ea hc λ_ y=>nomatch y) (nf hc) r
   .rw[Zm (G5 ea r λ_ y=>nomatch y)];exact r
   .rw[Zm (G5 ea r λ_ y=>nomatch y)];exact r
end
noncomputable def Ends.less(D:Ends)(i:Nat):Ends:={ nx:=λj H=>D.nx (j.set i none) H,rt:=D.rt,bk:=λj H=>D.bk (j.set i none) H,ct:=λj H=>D.ct (j.set i none) H }
section
variable{X:Cx}{W:St->Hp->Addr->Addr->ZS->Prop}
theorem Oy{K:PySem.W.Frag}{M:Model}{h:Heap}{C:Addr}(k:K.In h)(e:(PySem.W.clsIn K C).isSome=true):EX.Lk M h (isType (.ref C)) true:=by
 unfold PySem.W.clsIn at e
 split at e
 .rename_i ho;exact EX.is_cls (k _ _ ho) rfl
 .cases e
end
section
variable{X:Cx}
end
theorem Mb.here{K:W.Frag}{C:Addr}(c:Mb K C):(W.clsIn K C).isSome=true:=by
 obtain⟨cd,e,_⟩:=W.any_some c.hd;rw[e];rfl
theorem Oq{K:W.Frag}{x C:Addr}(c:Mb K C):W.KitX K (.ref x) (.ref C) (λh=>∃o od,W.InstAt h x o C od) where
 ty:=λM h X ⟨o,od,I⟩=>I.type
 it:=λM h X _=>Oy X c.here
 ne:=λh tp dd XJ n sl X htp=>by
  refine Bool.eq_false_iff.mpr λq=>?_;have e:C=tp:=Value.ref.inj (beq_iff_eq.mp q);subst e;have hs:=c.here;unfold W.clsIn at hs
  split at hs
  .rename_i ho
   have z:=X _ _ ho;rw[htp]at z;cases z
  .cases hs
 ca:=λX ⟨o,od,I⟩ k=>EX.Zju X I c.ga c.hk c.be c.ob (EX.v9 c.here c.ca c.gs c.tk) k
def IsX(H:Hp)(a C:Addr):Prop:=∃od new,H a=some (Mh a C od new)/\∀d,od=some d->∃fs,H d=some (DHO d fs)
theorem IsX.inst(x:IsX H a C)(ok:Bs P w H h):∃o od,W.InstAt h a o C od:=by
 obtain⟨od,new,ea,hd⟩:=x;obtain⟨vs,sl,e,_⟩:=ok.xo ea;cases od with
 | none=>exact⟨_,none,e,rfl,rfl,trivial⟩
 | some d =>
  obtain⟨fs,ed⟩:=hd d rfl;obtain⟨_,mA,⟨o,es,ep,ho,_⟩,_⟩:=ok.do_ ed;exact⟨_,some o,e,rfl,rfl,ho⟩
theorem A5:∀{ds:ZH} {us:ZG},Yj (ds.map V.ref) us->us=ds.map Value.ref
 | [],_,.nil=>rfl
 | d::ds,_,.cons r t=>by rw[A5 t,show _=Value.ref d from r];rfl
section
variable{X:Cx}
inductive zw(K:W.Frag)(xs:ZZ)(H:Hp)(Q:VK):Prop
 | mk(a C D b)(Vx:xs=[.ref a,.ref D])(Vz:IsX H a C)(Vp:Mb K C)(Jn:W.kitOne K (.ref C) (.ref D)=some b)(Mf:Q (.bl b) H)
theorem Kc:Jm X (.builtin "isinstance") (λxs H Q=>zw X.K xs H Q):=by
 intro XX s j H xs us Q I r h;obtain⟨a,C,D,b,rfl,ix,c,e,q⟩:=h;obtain⟨u,w',rfl,rx,ry⟩:=vals2 r;cases rx;cases ry;exact W.kia_one (Oq c) I.kIn (ix.inst I.hok) e (λz=>nomatch z) λtk=>⟨.bl b,H,I.tok _,rfl,q⟩
inductive Ad(K:W.Frag)(xs:ZZ)(H:Hp)(Q:VK):Prop
 | mk(a C T b)(Vx:xs=[.ref a,.ty T])(Vz:IsX H a C)(Vp:Mb K C)(Jn:W.kitOne K (.ref C) (.type T)=some b)(Mf:Q (.bl b) H)
theorem yk:Jm X (.builtin "isinstance") (λxs H Q=>Ad X.K xs H Q):=by
 intro XX s j H xs us Q I r h;obtain⟨a,C,T,b,rfl,ix,c,e,q⟩:=h;obtain⟨u,w',rfl,rx,ry⟩:=vals2 r;cases rx;cases ry;exact W.kia_one (Oq c) I.kIn (ix.inst I.hok) e (λz=>nomatch z) λtk=>⟨.bl b,H,I.tok _,rfl,q⟩
inductive Am(K:W.Frag)(xs:ZZ)(H:Hp)(Q:VK):Prop
 | mk(a C p:Addr)(ds:ZH)(b:Bool)(Vx:xs=[.ref a,.ref p])(Vz:H p=some (.tup (ds.map V.ref)))(Vp:IsX H a C)(Jn:Mb K C)(Mf:W.kitAny K (.ref C) (ds.map Value.ref)=some b)(Co:Q (.bl b) H)
theorem Sq:Jm X (.builtin "isinstance") (λxs H Q=>Am X.K xs H Q):=by
 intro XX s j H xs us Q I r h;obtain⟨a,C,p,ds,b,rfl,hp,ix,c,e,q⟩:=h;obtain⟨u,w',rfl,rx,ry⟩:=vals2 r;cases rx;cases ry;obtain⟨_,XJ,rv,o,ho,hc,⟨n,hd⟩,_⟩:=(show Y4 X.prog X.w H s.heap p (.tup (ds.map V.ref)) from I.hok p _ hp);rw[A5 rv]at hd;obtain⟨oc,od,dt,sl⟩:=o;obtain rfl:oc=_:=hc;obtain rfl:dt=_:=hd;exact W.kia_tup (Oq c) I.kIn (ix.inst I.hok) ho e (λz=>nomatch z) λtk=>⟨.bl b,H,I.tok _,rfl,q⟩
end
end L2
namespace EX
open PySem
def QV(h:Heap)(vs:ZT):Prop:=vs[1]?=some .none\/∃T oT ts,vs[1]?=some (.ref T)/\h.get? T=some oT/\oT.data=.fields ts/\ts[3]?=some .none
section
variable{M:Model}{A:Around}{E:Ya}{s:Shared}{env:Env}{outer:List Env}{base:Heap}{L e T:Addr}{oe:Obj}{vs:ZT}{Q:ZP}
theorem P2(A1:A.frames=some (env::outer))(hl:s.heap.FunFrames base (env::outer))(hf:env.frame=some L)
  (he:s.heap.get? e=some oe) (hd:oe.data=.fields vs) (hq:QV s.heap vs)
  (h:∀h' T,z9 (env::outer) e T oe s.heap h'->Q () { s with heap:=h' }):wpAny M A (noteFrame (.ref e) env) Q E s:=by
 rcases hq with h1 | ⟨T0,oT,ts,h1,hT,Fz,h3⟩
 .exact Zqz A1 hl hf he hd h1 h
 have hz:1<vs.size:=(Array.getElem?_eq_some_iff.mp h1).1;have uc:=Fw hl he hd;unfold noteFrame;simp only[hf];refine Zn (wpAny_field he hd h1 ?_);rw[if_pos (show (Value.ref T0 != Value.none)=true from by simp)];refine Zn (wpAny_field hT Fz h3 ?_);rw[if_neg (show ¬ ((Value.none==rawInt L)=true) from by simp[rawInt])];refine Zn (wpAny_setField hT Fz (Array.getElem?_eq_some_iff.mp h3).1 ?_);rw[Heap.update_setField_same _ _ _ _ _ _ hT Fz h3];refine Zn (wpAny_frameOf_fun A1 hl hf λh₁ sl=>Zn (wpAny_entryPlaceOf λpl Tb=>?_));unfold EntryCells.newEntry newFields;refine Zn (wpAny_newObj_type ?_ (Tb.sizeOk5 _ _ _ _ _));have e1:h₁.get? e=some oe:=(sl.2.1 e uc).trans he;have z1:h₁.objs.size=s.heap.objs.size:=sl.1;refine wpAny_setField (Uz _ e1) hd hz (h _ h₁.objs.size ⟨λb o hb hn q=>?_,λb o hb q=>?_,?_,Nat.le_of_eq z1.symm,?_⟩)
 .exact(Heap.get?_update_other _ _ (Ne.symm hb)).trans (Uz _ ((sl.2.1 b hn).trans q))
 .obtain⟨x,q'⟩:=sl.2.2 b o q;exact⟨x,(Heap.get?_update_other _ _ (Ne.symm hb)).trans (Uz _ q')⟩
 .exact Heap.get?_update_self _ (Uz _ e1) (Obj.isFreed_of_fields (Obj.data_mapFields hd _))
 .refine⟨_,_,(Heap.get?_update_other _ _ (Nj (Ut e1))).trans (M7 h₁ rfl),rfl,?_⟩;simp only[Mw,Nl,R1,List.length_nil];omega
theorem Zqc(A1:A.frames=some (env::outer))(hl:s.heap.FunFrames base (env::outer))(hf:env.frame=some L)
  (he:s.heap.get? e=some oe) (hd:oe.data=.fields vs) (hq:QV s.heap vs)
  (h:∀h1 h2 T,z9 (env::outer) e T oe s.heap h1->(∀b,b≠T->h2.get? b=h1.get? b)->QV h2 (vs.setIfInBounds 1 (.ref T))->Q () { s with heap:=h2 }):wpAny M A (leaving env (.ref e)) Q E s:=by
 have hz:1<vs.size:=by
  rcases hq with h1 | ⟨_,_,_,h1,_⟩
  .exact(Array.getElem?_eq_some_iff.mp h1).1
  .exact(Array.getElem?_eq_some_iff.mp h1).1
 unfold leaving;refine Zn (P2 A1 hl hf he hd hq λg1 T N=>?_);obtain⟨oT,ts,hT,Fz,hz3⟩:=N.tb;have v1:(vs.setIfInBounds 1 (.ref T))[1]?=some (.ref T):=by simp[hz]
 refine wpAny_setFlight_none (s:={ s with heap:=g1 }) N.exc (Obj.data_mapFields hd _) v1 hT Fz hz3 (h g1 _ T N (λb hb=>Heap.get?_update_other _ _ (Ne.symm hb)) (.inr ⟨T,_,_,v1,Heap.get?_update_self _ hT (Obj.isFreed_of_fields (Obj.data_mapFields Fz _)),Obj.data_mapFields Fz _,?_⟩));simp[hz3]
end
end EX
namespace L2
open PySem PySem.Spec PyProof.Rows
def QX(h:Heap)(a:Addr):Prop:=∃oe vs,h.get? a=some oe/\oe.data=.fields vs/\EX.QV h vs
theorem A6(e:H a=some o):upd H a o=H:=by
 funext b
 by_cases z:b=a
 .subst z;rw[Zz,e]
 .rw[Zm z]
abbrev Au:=St->Hp->Addr->Addr->ZS->Prop
def xb(P:Program)(w:World):A3:=λouter H s E v s'=>∃a H' C od,v=.ref a/\s'.os=s.os/\AllBare s'.gens/\Un (dk outer) [] H H' s.heap s'.heap/\Bs P w H' s'.heap/\H' a=some (Mh a C od false)/\QX s'.heap a/\E (.ref C) od H'
def XW(X:Cx)(W:Au):Prop:=∀(XX:Vs) (j:St) (H:Hp) (s:Shared) (a C:Addr) (od:ZS) (new:Bool),Inv X XX j H s->H a=some (Mh a C od new)->QX s.heap a->W j (upd H a (Mh a C od false)) a C od->X.xe (.ref a) s
section
variable{X:Cx}{XX:Vs}{j:St}{H:Hp}{s s':Shared}
theorem Zqt(I:Inv X XX j H s)(ea:H a=some (Mh a C od new))(q:QX s.heap a)(Ez:X.stack=X.env::X.outer)(A1:X.env.frame=some X.env.locals)
  (k:∀h',Inv X XX j (upd H a (Mh a C od false)) { s with heap:=h' }->QX h' a->Q () { s with heap:=h' }):wpAny M X.A (leaving X.env (.ref a)) Q E s:=by
 obtain⟨oe,vs,he,hd,qv⟩:=q;obtain⟨vs',sl,hx,z1,_⟩:=I.hok.xo ea;rw[he]at hx;cases hx;cases hd;have fr:X.A.frames=some (X.env::X.outer):=by rw[I.ok.frames,Ez]
 have hl:s.heap.FunFrames X.base (X.env::X.outer):=by rw[<-Ez];exact I.stack
 refine EX.Zqc fr hl A1 he rfl qv λg1 g2 T N k2 qv2=>?_;have nT:a≠T:=λz=>Nat.lt_irrefl _ (R0 (Ut (z ▸ he)) N.new);have e2:g2.get? a=some ⟨.ref C,od,.fields (vs.setIfInBounds 1 (.ref T)),sl⟩:=(k2 a nT).trans N.exc;exact k g2 (I.noted (T:=T) ea (by rw[Ez];exact N) k2 ⟨_,sl,e2,by simp[z1],λz=>nomatch z⟩) ⟨_,_,e2,rfl,qv2⟩
theorem xb.inv(I:Inv X XX j H s)(h:xb X.prog X.w X.stack H s E v s'):∃a H' C od,v=.ref a/\Inv X XX j H' s'/\H' a=some (Mh a C od false)/\QX s'.heap a/\E (.ref C) od H':=by
 obtain⟨a,H',C,od,rfl,os,bare,un,hok,ea,q,e⟩:=h;exact⟨a,H',C,od,rfl,I.call' (ch:=[]) os un hok bare (λb z=>absurd z QE),ea,q,e⟩
end
theorem Q3{P:Program}{w:World}{K:W.Frag}{mg:G6}{base:Heap}{N:ZF}{qual:Str}{scope:Scope}{f:Addr}{cd:Value}{A:Around}{outer:List Env}{s:Shared}{H:Hp}{E:XK} :
  XW (O3 (xb P w) P w K mg base N qual scope f cd A outer s H E) (λ_ H' _ C od=>E (.ref C) od H'):=by
 intro XX j H' s' a C od new I ea q e;refine Zqt (X:=O3 (xb P w) P w K mg base N qual scope f cd A outer s H E) I ea q rfl rfl λh' J q'=>?_;exact⟨a,_,C,od,rfl,J.os,J.bare,J.base,J.hok,Zz,q',e⟩
section
variable{P:Program}{w:World}{K:W.Frag}{mg:G6}{base:Heap}
theorem Fun.okX{x qual:Str}{st:Stmt}{f:Addr}{fd:FuncData}{N ps:ZF}{k:Nat}{sp:Sp}(F:Fun K x qual st f fd)(S:Ze N ps (Zb st))(len:∀vs H Q E,sp vs H Q E->vs.length=ps.length)
  (Xs:∀(cdv:Value) (A:Around) (outer:List Env) (s:Shared) (H:Hp) (vs:ZZ) (Q:VK) (E:XK),V8 k (A.deeper (envOfC qual (Zb st) s.heap.objs.size f cdv))->sp vs H Q E ->
   ∃t,Ku (O3 (xb P w) P w K mg base N qual (Zb st) f cdv A outer s H E) (Jq st) t/\t { nx:=λ_ H'=>Q .non H',rt:=Q } (start N vs) H):Yk P w K mg base (xb P w) (k+1) f fd ps sp:=by
 obtain⟨oc,od,kV,doc,pm,an,cdv,ct,osl,rfl,lk,Kk⟩:=F.ex;exact Zga lk Kk S len λA outer s H vs Q E hr hsp=>Xs cdv A outer s H vs Q E hr hsp
end
def oz(P:Program)(w:World)(K:W.Frag)(mg:G6)(base:Heap)(k:Nat)(x:Str)(ps:ZF)(sp:Sp):Prop :=
 ∃f fd,Yk P w K mg base (xb P w) k f fd ps sp/\Binds K fd ps []/\W.keepIn K (.ref f)=true/\mg x=some (.ref f)
def tCallX(sp:Sp)(W:Au)(t:TA):TE:=λj H Q=>t j H λvs H1=>sp vs H1 Q λCv od H'=>∀a C,Cv=.ref C->H' a=some (Mh a C od false)->W j H' a C od
inductive Ep(K:PySem.W.Frag)(W:Au)(j:St)(v:V)(H1:Hp):Prop
 | mk(a C od)(Vx:v=.ref a)(Vz:H1 a=some (Mh a C od true))(Vp:Mb K C)(Jn:W j (upd H1 a (Mh a C od false)) a C od)
def Zwu(K:PySem.W.Frag)(W:Au)(te:TE):TS:=λ_ j H=>te j H λv H1=>Ep K W j v H1
section
variable{X:Cx}{W:Au}{k:Nat}{x:Str}{ps:ZF}{sp:Sp}{p pos:Pos}{e:Expr}{es:ZD}{t:TA}{te:TE}
theorem Ga(G:oz X.prog X.w X.K X.mg X.base k x ps sp)(hw:XW X W)(hr:V8 k X.A)(hg:Gl X x)(ha:PA X (e::es) t)(He:(x==("__debug__" : Str))=false:=by decide)
  (he:starEach (e::es) X.env=(false,eval e X.env)::starEach es X.env:=by rfl) (Tb:(backTo pos (starEach es X.env)).any (·.1)=false:=by rfl) :
  PE X (.Call (.Name x p) (e::es) [] pos) (tCallX sp W t):=by
 obtain⟨f,fd,F,hb,kp,m⟩:=G;intro XX s j H Q I h;refine wpAny_Call_Name_kw (Wf I hg m ?_ He);refine PySem.W.callWith_K (h₀:=X.base) I.ok.mod.kin kp (Y7 (ha pos XX s j H _ I h) λus s1 ⟨vs,H1,I1,r,q⟩=>⟨I1.kIn,?_⟩) he Tb;have hl:(us++[]).length=ps.length:=by rw[ZO, <-r.length];exact F.len _ _ _ _ q
 have bb:=hb s1 us I1.kIn hl;rw[ZO]at bb;refine wpAny_call (codeAny_mono (F.run X.A X.stack s1 H1 ⟨us,[]⟩ us vs Q _ hr I1.env0 bb r q) λr s' hq=>?_);cases r with
 | error v =>
  have hq:xb X.prog X.w X.stack H1 s1 (λCv od H'=>∀a C,Cv=.ref C->H' a=some (Mh a C od false)->W j H' a C od) v s':=hq;obtain⟨a,H',C,od,rfl,I',ea,qx,w'⟩:=xb.inv I1 hq;exact hw XX j H' s' a C od false I' ea qx (by rw[A6 ea];exact w' a C rfl ea)
 | ok fl =>
  cases fl with
  | ret u=>exact I1.after hq
  | next=>exact False.elim hq
  | brk=>exact False.elim hq
  | cont=>exact False.elim hq
theorem E2(hw:XW X W)(he:PE X e te)(hc:X.calm=true):PS X (.Raise (some e) none pos) (Zwu X.K W te):=by
 intro XX s j H D I h;rw[arm_exec_Raise];refine Zn (wpAny_standAt (EX.Zxy (I.ok.hd hc) ?_));refine Zn (Y7 (he XX s j H _ I h) λv s1 ⟨x,H1,I1,rx,a,C,od,ex,ea,c,q⟩=>Zn (wpAny_standAt (Z4 ?_)));subst ex;obtain rfl:v=Value.ref a:=rx;obtain⟨vs,sl,hx,z1,z2⟩:=I1.hok.xo ea;exact⟨a,C,_,vs,rfl,hx,rfl,rfl,z2 rfl,PySem.W.looks_mroIn I1.kIn c.be,PySem.W.looks_typeIn I1.kIn c.ty,hw XX j H1 s1 a C od true I1 ea ⟨_,_,hx,rfl,.inl (z2 rfl)⟩ q⟩
end
noncomputable def Cx.tx(X:Cx)(pn:Vs)(W:Au):Cx:={ X with pn:=pn,xe:=λv s'=>∃e σ' H' C od new,v=.ref e/\Inv { X with pn:=pn } [] σ' H' s'/\H' e=some (Mh e C od new)/\QX s'.heap e/\W σ' (upd H' e (Mh e C od false)) e C od }
section
variable{X:Cx}{XX pn:Vs}{j:St}{H:Hp}{s:Shared}{e:Addr}{W:Au}
theorem Inv.toTx(I:Inv { X with pn:=pn } XX j H s):Inv (X.tx pn W) XX j H s:=I.wish _
theorem Inv.ofTx(I:Inv (X.tx pn W) XX j H s):Inv { X with pn:=pn } XX j H s:=(show Inv ({ X with pn:=pn }:Cx) XX j H s from Inv.unwish (X:={ X with pn:=pn }) I)
theorem xw_tx:XW (X.tx pn W) W:=by
 intro XX j H s a C od new I ea q w';exact⟨a,j,H,C,od,new,rfl,I.ofTx.pins_of λp hp=>absurd hp QE,ea,q,w'⟩
end
inductive Zwh(K:PySem.W.Frag)(D0:Addr)(W:Au)(i:Nat)(tb:ZW->TS)(th:Addr->TS)(D:Ends)(j:St)(H:Hp):Prop
 | mk  (Vx:(∀pn,tb pn D j H))(Vz:∀σ' H' e C od,H' e=some (Mh e C od false)->W σ' H' e C od->PySem.W.mroIn K C (.ref D0)=some true/\th e (D.less i) (σ'.set i (some (.ref e))) H')
def tTryX(K:PySem.W.Frag)(D0:Addr)(W:Au)(i:Nat)(tb:ZW->TS)(th:Addr->TS):TS:=λD j H=>Zwh K D0 W i tb th D j H
section
variable{X:Cx}
theorem Zvp(W:Au)(i:Nat){D0:Addr}{n cls:Str}{body suite:List Stmt}{b₀:Stmt}{p hp pos:Pos}{tb:ZW->TS}{th:Addr->TS}(hb:∀pn,Ku (X.tx pn W) body (tb pn))(hh:∀e,Ku (X.ec e) (b₀::suite) (th e))(Ez:X.stack=X.env::X.outer)
  (A1:X.env.frame=some X.env.locals) (hg:Gl X cls) (hm:X.mg cls=some (.ref D0)) (dc:Mb X.K D0) (di:(PySem.W.clsIn X.K D0).isSome=true) (hN:X.N.Nodup) (hi:X.N[i]?=some n) (hx:X.env.scope.names.lookup n=some .local)
  (He:(cls==("__debug__" : Str))=false:=by decide) :
  PS X (.Try body [.ExceptHandler (some (.Name cls p)) (some n) (b₀::suite) hp] [] [] pos) (tTryX X.K D0 W i tb th):=by
 intro XX s j H D I ⟨h1,h2⟩;refine wpAny_Try_except (wpAny_mono (hb (X.pn++XX) [] s j H D I.toPn.toTx (h1 _)) (λf s1 q=>?_) λv s1 q=>?_)
 .cases f with
  | next=>obtain⟨σ',H',I',q⟩:=q;exact wpAny_execs_nil ⟨σ',H',I'.ofTx.ofPn,q⟩
  | ret u=>obtain⟨v,σ',H',I',r,q⟩:=q;exact⟨v,σ',H',I'.ofTx.ofPn,r,q⟩
  | brk=>obtain⟨σ',H',I',q⟩:=q;exact⟨σ',H',I'.ofTx.ofPn,q⟩
  | cont=>obtain⟨σ',H',I',q⟩:=q;exact⟨σ',H',I'.ofTx.ofPn,q⟩
 .obtain⟨e,σ',H',C,od,new,rfl,I1,ea,qx,hw⟩:=q;have I1:Inv X XX σ' H' s1:=I1.ofPn;obtain⟨vs,sl,hx1,z1,_⟩:=I1.hok.xo ea;obtain⟨oe',vs',he',hd',qv⟩:=qx;rw[hx1]at he';cases he';cases hd';obtain⟨hm1,hth⟩:=h2 σ' _ e C od Zz hw;have fr:X.A.frames=some (X.env::X.outer):=by rw[I1.ok.frames,Ez]
  have hl:s1.heap.FunFrames X.base (X.env::X.outer):=by rw[<-Ez];exact I1.stack
  refine EX.P2 fr hl A1 hx1 rfl qv λg1 T N=>?_;have e1:g1.get? e=some ⟨.ref C,od,.fields (vs.setIfInBounds 1 (.ref T)),sl⟩:=N.exc;have v1:(vs.setIfInBounds 1 (.ref T))[1]?=some (.ref T):=by simp[z1]
  obtain⟨oT,ts,hT,Fz,hz3⟩:=N.tb;refine EX.O0 (s:={ s1 with heap:=g1 }) e1 rfl v1 hT Fz hz3 λg2 k2 tb2=>?_;have nT:∀b o,s1.heap.get? b=some o->b≠T:=λb o q z=>Nat.lt_irrefl _ (R0 (Ut (z ▸ q)) N.new);have e2:g2.get? e=some ⟨.ref C,od,.fields (vs.setIfInBounds 1 (.ref T)),sl⟩:=(k2 e (nT _ _ hx1)).trans e1;have I2:Inv X XX σ' (upd H' e (Mh e C od false)) { s1 with heap:=g2 }:=I1.noted (T:=T) ea (by rw[Ez];exact N) k2 ⟨_,sl,e2,by simp[z1],λz=>nomatch z⟩;refine EX.ua (D:=D0) (C:=C) (Wf (X:=X.ec e) I2.toEc hg hm ⟨rfl,PySem.W.looks_typeIn I2.kIn dc.ty,Oy I2.kIn di,PySem.W.looks_mroIn I2.kIn dc.be,EX.T1 e2 rfl,PySem.W.looks_mroIn I2.kIn hm1,?_⟩ He);obtain⟨oT',ts',hT',Zq8,hz'⟩:=tb2;refine EX.O0 (s:={ s1 with heap:=g2 }) e2 rfl v1 hT' Zq8 hz' λg3 k3 _=>?_
  have hTn:upd H' e (Mh e C od false) T=none:=by
   rw[Zm (Ne.symm (nT _ _ hx1))];exact I1.hok.fresh N.new
  have I3:Inv X XX σ' (upd H' e (Mh e C od false)) { s1 with heap:=g3 }:=by
   refine Inv.turned (s:={ s1 with heap:=g2 }) (it:=T) (h':=g3) (t':=s1.toks) I2 (λb o hb q=>(k3 b hb).trans q) hTn (Nat.ne_of_gt (R0 I1.lt N.new)) (.inr (Vf I1.sz N.new)) (λy c q=>?_) λy hy=>?_
   .obtain⟨v,o,ho,_⟩:=I1.cell y c q;exact nT c o ho
   .exact nT y.1 y.2 (I1.pin y hy).1
  refine Q7 (X:=X.ec e) I3.toEc hN hi (.inl hx) (show RelV (.ref e) (.ref e) from rfl) (λs4 I4=>?_) (.inr hx);refine wpAny_mono (hh e XX s4 _ _ (D.less i) I4 hth) (λf s5 q=>?_) λ_ _ z=>z;cases f with
  | next=>obtain⟨σ5,H5,I5,q⟩:=q;exact Qh (I5.ofEc I1.ok) hN hi hx λs6 I6=>⟨_,H5,I6,q⟩
  | ret u=>obtain⟨v,σ5,H5,I5,r,q⟩:=q;exact Qh (I5.ofEc I1.ok) hN hi hx λs6 I6=>⟨v,_,H5,I6,r,q⟩
  | brk=>obtain⟨σ5,H5,I5,q⟩:=q;exact Qh (I5.ofEc I1.ok) hN hi hx λs6 I6=>⟨_,H5,I6,q⟩
  | cont=>obtain⟨σ5,H5,I5,q⟩:=q;exact Qh (I5.ofEc I1.ok) hN hi hx λs6 I6=>⟨_,H5,I6,q⟩
end
section
variable{X:Cx}
end
section
variable{X:Cx}{XX:Vs}{j:St}{H:Hp}{s:Shared}
end
section
variable{X:Cx}{W:Au}{k:Nat}{f C:Addr}{fd:FuncData}{m:Str}{ps:ZF}{sp:Sp}{o e:Expr}{es:ZD}{ta:TE}{t:TA}{p pos apos:Pos}
end
section
variable{X:Cx}
end
noncomputable def xOk(K:W.Frag)(C:Addr)(pre:ZG)(x:Str):Bool :=
 W.findIn K (.ref C) "__setattr__" == some (some (.builtin "object.__setattr__"))&&(W.findIn K (.ref C) "__getattribute__" == some (some (.builtin "BaseException.__getattribute__")) &&
 (W.findIn K (.ref C) "__getattr__" == some none&&(W.findIn K (.ref C) "__class__" == some (some (.builtin "object.__class__"))&&(W.hasDictIn K C&&(W.typeIn K (.ref C)==some (.type "type") &&
 (((W.clsIn K C).any λcd=>cd.mro==pre++Bf)&&(W.specialIn K (.builtin "object.__class__") "__get__" == some (some (.builtin "getset_descriptor.__get__")) &&
 (W.takesIn K (.builtin "object.__class__")==some true&&(W.findIn K (.ref C) x==some none&&(xIn K C&&W.keepIn K (.ref C)))))))))))
theorem bx:∀(as:ZH),Pu (as.map Value.ref++Bf)=true
 | []=>by decide +kernel
 | a::as=>bx as
structure XOk(K:W.Frag)(C:Addr)(as:ZH)(x:Str):Prop where
 xc:Mb K C
 mro:∀b,W.mroIn K C b=some ((as.map Value.ref++Bf).contains b)
 here:(W.clsIn K C).isSome=true
 no:Rh K C x
 made:xIn K C=true
 kp:W.keepIn K (.ref C)=true
theorem Zzk{K:W.Frag}{C:Addr}{a:Addr}{as:ZH}{x:Str}(h:xOk K C ((a::as).map Value.ref) x=true):XOk K C (a::as) x:=by
 unfold xOk at h;simp only[oj,beq_iff_eq]at h;obtain⟨h1,h2,h3,h4,h5,h6,h7,h8,h9,F0,h11,vp⟩:=h;obtain⟨cd,hc,hm⟩:=W.any_some h7;have hm:cd.mro=(a::as).map Value.ref++Bf:=beq_iff_eq.mp hm
 have mro:∀b,W.mroIn K C b=some (((a::as).map Value.ref++Bf).contains b):=λb=>by
  unfold W.mroIn;rw[hc,Option.bind_some,hm]
  rfl
 have inVE:∀b,Bf.contains b=true->(((a::as).map Value.ref++Bf).contains b)=true:=λb hb=>by
  rw[List.contains_iff_mem]at hb ⊢;exact nj _ hb
 refine⟨⟨h1,h2,h3,h4,?_,?_,h5,h6,?_,h8,h9⟩,mro,by rw[hc];rfl,F0,h11,vp⟩
 .rw[mro,inVE _ QA]
 .rw[mro,inVE _ QA]
 .rw[hc];show Pu cd.mro=true;rw[hm];exact bx _
theorem XOk.ve{K:W.Frag}{C M:Addr}{y:Str}(x:XOk K C [C,M] y):W.kitOne K (.ref C) (.type "ValueError")=some true:=by
 unfold W.kitOne;rw[if_neg QE];unfold W.kitCls;dsimp only;rw[if_pos QA];show W.mroIn K C (.type "ValueError")=some true;rw[x.mro];exact congrArg some (List.contains_iff_mem.mpr (nj _ QA))
theorem XOk.up{K:W.Frag}{C M:Addr}{y:Str}(x:XOk K C [C,M] y):W.mroIn K C (.ref M)=some true:=by
 rw[x.mro]
 congr 1
 rw[List.contains_iff_mem];simp
theorem Zql{K:W.Frag}{C:Addr}:W.kitOne K (.ref C) (.ref C)=some true:=by
 unfold W.kitOne;rw[if_pos (B0s _)]
theorem Yk.noX{P:Program}{w:World}{K:W.Frag}{mg:G6}{base:Heap}{k:Nat}{f:Addr}{fd:FuncData}{ps:ZF}{sp:Sp}(F:Yk P w K mg base (xb P w) k f fd ps sp) :
  Yk P w K mg base Mm k f fd ps (λvs H Q _=>sp vs H Q E0) :=
 ⟨λvs H Q E h=>F.len vs H Q E0 h,λA outer s H args us vs Q E hr he hb hv h=>codeAny_mono (F.run A outer s H args us vs Q E0 hr he hb hv h) λr s' q=>by
  cases r with
  | ok v=>cases v<;>exact q
  | error v =>
   obtain⟨a,H',C,od,_,_,_,_,_,_,_,z⟩:=q;exact z.elim⟩
theorem oz.fn{P:Program}{w:World}{K:W.Frag}{mg:G6}{base:Heap}{k:Nat}{x:Str}{ps:ZF}{sp:Sp}(G:oz P w K mg base k x ps sp):Fn P w K mg base k x ps (λvs H Q _=>sp vs H Q E0):=by
 obtain⟨f,fd,F,r⟩:=G;exact⟨f,fd,F.noX,r⟩
inductive Zvc(x:V)(hi:ZN)(H:Hp)(Q:VK):Prop
 | mk(z:Str)(Vx:x=.str z)(Vz:z.length<=sizeLine)(Vp:∀z':Str,z'.length<=z.length->(∀k:Nat,hi=some (k:Int)->z'.length<=k)->(∀c∈z'.cps.toList,c∈z.cps.toList)->Q (.str z') H)
def rSlSg:V->ZN->ZN->Hp->VK->Prop:=λx _ hi H Q=>Zvc x hi H Q
theorem Zxt(x:Str)(is:List Nat):∀c∈(Str.mk (is.filterMap (x.cps[·]?)).toArray).cps.toList,c∈x.cps.toList:=λc m=>by
 have m:c∈is.filterMap (x.cps[·]?):=by simpa using m
 obtain⟨i,_,e⟩:=List.mem_filterMap.mp m;have:=Array.mem_of_getElem? e;exact Array.mem_toList_iff.mpr this
theorem ix_hi(l:ZN)(k n:Nat):(Builtin.Str.strSliceIndices l (some (k:Int)) 1 n).length<=k:=by
 unfold Builtin.Str.strSliceIndices sliceRange;cases l<;>simp only[show (1:Int)>0 by decide,if_true,Yv,ZI]<;>(split<;>(try split)<;>(try split)<;>(try simp only[Int.ediv_one])<;>omega)
theorem Zxz(x:Str)(l:ZN)(k:Nat):(Txt.slice x l (some (k:Int))).length<=k:=by
 have h:=ix_hi l k x.length;unfold Txt.slice
 split
 .rename_i c
  simp only[oj,beq_iff_eq]at c;omega
 .show (List.filterMap _ (Builtin.Str.strSliceIndices l (some (k:Int)) 1 x.length)).toArray.size<=k;rw[Mw];exact Vf (List.length_filterMap_le _ _) h
theorem rm(x:Str)(l u:ZN):∀c∈(Txt.slice x l u).cps.toList,c∈x.cps.toList:=by
 unfold Txt.slice
 split
 .exact λ_ m=>m
 .exact Zxt x _
section
variable{X:Cx}{e:Expr}{te t1 t2:TE}{p2 p3 p4 pos:Pos}{j1:Nat}
theorem K9:SlR X rSlSg:=by
 intro XX s Z H x v vl vu lo hi sl Q I rx hs pl pu h;obtain⟨z,rfl,hz,q⟩:=h;obtain⟨t,rfl⟩:=rx;have q':∀(l u:ZN) (t':Tok) (k:Nat),u=hi->EP X XX Z Q (.str (Txt.slice z l u) t') { s with toks:=k }:=λl u t' k e=>⟨.str _,H,I.tok _,⟨t',rfl⟩,q _ (Txt.slice_le z l u) (λk ek=>by rw[e,ek];exact Zxz z l k) (rm z l u)⟩;refine⟨"str",_,PySem.F.slot_str_getitem.lookup,typeIs_str _ _ _,?_⟩;cases pl with
 | none=>cases pu with
  | none=>exact wpAny_getItem_str_slice (l:=none) (u:=none) (st:=none) hs rfl (post_val_or_str ⟨Vf (Txt.slice_le z _ _) hz,λt' k=>q' none none t' k rfl⟩)
  | int j uj=>exact wpAny_getItem_str_slice (l:=none) (u:=some (j,uj)) (st:=none) hs rfl (post_val_or_str ⟨Vf (Txt.slice_le z _ _) hz,λt' k=>q' none (some j) t' k rfl⟩)
 | int i ui=>cases pu with
  | none=>exact wpAny_getItem_str_slice (l:=some (i,ui)) (u:=none) (st:=none) hs rfl (post_val_or_str ⟨Vf (Txt.slice_le z _ _) hz,λt' k=>q' (some i) none t' k rfl⟩)
  | int j uj=>exact wpAny_getItem_str_slice (l:=some (i,ui)) (u:=some (j,uj)) (st:=none) hs rfl (post_val_or_str ⟨Vf (Txt.slice_le z _ _) hz,λt' k=>q' (some i) (some j) t' k rfl⟩)
noncomputable def cI1:Const->Option Int
 | .int k=>some k
 | _=>none
noncomputable def cI2:Expr->Option Int
 | .Constant c _ _=>cI1 c
 | _=>none
noncomputable def Tf(es:ZD)(ns:ZC):Bool:=decide (es.map cI2=ns.map some)
theorem cI3{e:Expr}{n:Int}(h:cI2 e=some n):∃j p,e=.Constant (.int n) j p:=by
 cases e<;>first | cases h | skip
 rename_i c j p;have h:cI1 c=some n:=h;cases c<;>first | cases h | skip
 exact⟨_,_,rfl⟩
def Zk2:ZC->TA
 | []=>tNil
 | n::ns=>Zzr (tC (.int n)) (Zk2 ns)
theorem V4{es:ZD}(ns:ZC)(h:Tf es ns=true):PA X es (Zk2 ns):=by
 have h:es.map cI2=ns.map some:=of_decide_eq_true h
 induction es generalizing ns with
 | nil=>cases ns with
  | nil=>exact Zx
  | cons n ns=>cases h
 | cons e es ih =>
  cases ns with
  | nil=>cases h
  | cons n ns =>
   have h1:cI2 e=some n:=(List.cons.inj h).1
   obtain⟨j,p,rfl⟩:=cI3 h1;exact Zj Zq (ih ns (decide_eq_true (List.cons.inj h).2) (List.cons.inj h).2) rfl
end
section
variable{j:Type}[DecidableEq j]
noncomputable def Dn(XQ:List (j×V))(k:j):Option V:=(XQ.find? λkv=>decide (kv.1=k)).map (·.2)
noncomputable def putK(XQ:List (j×V))(k:j)(v:V):List (j×V) :=
 if (XQ.any λkv=>decide (kv.1=k))=true then XQ.map (λkv=>if kv.1=k then (kv.1,v) else kv) else XQ++[(k,v)]
noncomputable def Zgi(XQ:List (j×V))(k:j):List (j×V):=XQ.filter λkv=>decide (kv.1≠k)
theorem Bu{p:j×V}{r:List (j×V)}{k:j}(e:p.1=k):Dn (p::r) k=some p.2:=by simp[Dn,List.find?_cons,e]
theorem Nv{p:j×V}{r:List (j×V)}{k:j}(e:¬ p.1=k):Dn (p::r) k=Dn r k:=by simp[Dn,List.find?_cons,e]
theorem Q4(k:j):∀XQ:List (j×V),(XQ.any λkv=>decide (kv.1=k))=(Dn XQ k).isSome
 | []=>rfl
 | p::r=>by
  rw[List.any_cons];by_cases e:p.1=k
  .simp only[Bu e,Sd e,Bool.true_or,Option.isSome_some]
  .rw[Nv e,F9 e,Bool.false_or];exact Q4 k r
theorem Ml(XQ:List (j×V))(k:j)(v:V):(putK XQ k v).length<=XQ.length+1:=by
 unfold putK
 split
 .rw[Yv];omega
 .rw[Nl,R1,List.length_nil];omega
theorem Pt{XQ:List (j×V)}{k:j}(v:V)(h:Dn XQ k=none):putK XQ k v=XQ++[(k,v)]:=by
 unfold putK;rw[Q4,h];exact if_neg QI
theorem Rr.isSome_eq(r:Rr o u):o.isSome=u.isSome:=by
 cases o with
 | none=>cases u with
  | none=>rfl
  | some _=>exact(show False from r).elim
 | some _=>cases u with
  | none=>exact(show False from r).elim
  | some _=>rfl
theorem Rr.getD(r:Rr o u)(rd:RelV d d'):RelV (o.getD d) (u.getD d'):=by
 cases o with
 | none=>cases u with
  | none=>exact rd
  | some _=>exact(show False from r).elim
 | some _=>cases u with
  | none=>exact(show False from r).elim
  | some _=>exact r
theorem KV.val(r:KV XQ vs)(k:j):Rr (Dn XQ k) (valueAt vs k):=by
 unfold KV at r
 induction r with
 | nil=>exact True.intro
 | @cons p q ps qs h t ih =>
  obtain⟨h1,h2⟩:=h;by_cases e:p.1=k
  .have e':q.1=k:=h1.symm.trans e;have b:valueAt (q::qs) k=some q.2:=by simp[valueAt,List.find?_cons,e']
   rw[Bu e,b];exact h2
  .have e':¬ q.1=k:=λz=>e (h1.trans z);have b:valueAt (q::qs) k=valueAt qs k:=by simp[valueAt,List.find?_cons,e']
   rw[Nv e,b];exact ih
theorem KV.any(r:KV XQ vs)(k:j):(XQ.any λkv=>decide (kv.1=k))=vs.any λkv=>decide (kv.1=k):=by
 unfold KV at r
 induction r with
 | nil=>rfl
 | cons h t ih=>rw[List.any_cons,List.any_cons,ih,h.1]
theorem KV.repl(r:KV XQ vs)(k:j)(ry:RelV y u) :
  KV (XQ.map λkv=>if kv.1=k then (kv.1,y) else kv) (vs.map λkv=>if kv.1=k then (kv.1,u) else kv):=by
 unfold KV at r ⊢
 induction r with
 | nil=>exact .nil
 | @cons p q ps qs h t ih =>
  rw[Mu,Mu];refine .cons ?_ ih;obtain⟨h1,h2⟩:=h;by_cases e:p.1=k
  .rw[if_pos e,if_pos (h1.symm.trans e)];exact⟨h1,ry⟩
  .rw[if_neg e,if_neg (λz=>e (h1.trans z))];exact⟨h1,h2⟩
theorem KV.put{XQ:List (j×V)}{vs:List (j×Value)}(r:KV XQ vs)(k:j){y:V}{u:Value}(ry:RelV y u):KV (putK XQ k y) (stored vs k u):=by
 unfold putK stored;rw[r.any k];by_cases e:(vs.any λkv=>decide (kv.1=k))=true
 .rw[if_pos e,if_pos e];exact r.repl k ry
 .rw[if_neg e,if_neg e];exact Paired.snoc r ⟨rfl,ry⟩
theorem KV.drop(r:KV XQ vs)(k:j):KV (Zgi XQ k) (without vs k):=by
 unfold KV at r ⊢;unfold Zgi without
 induction r with
 | nil=>exact .nil
 | @cons p q ps qs h t ih =>
  obtain⟨h1,h2⟩:=h;rw[List.filter_cons,List.filter_cons];by_cases e:p.1=k
  .have a:¬ decide (p.1≠k)=true:=by simp[e]
   have b:¬ decide (q.1≠k)=true:=by simp[h1.symm.trans e]
   rw[if_neg a,if_neg b];exact ih
  .have e':¬ q.1=k:=λz=>e (h1.trans z);have a:decide (p.1≠k)=true:=by simp[e]
   have b:decide (q.1≠k)=true:=by simp[e']
   rw[if_pos a,if_pos b];exact .cons ⟨h1,h2⟩ ih
theorem KV.keys{XQ:List (j×V)}{vs:List (j×Value)}(r:KV XQ vs):XQ.map (·.1)=vs.map (·.1):=by
 unfold KV at r
 induction r with
 | nil=>rfl
 | cons h t ih=>rw[Mu,Mu,ih,h.1]
theorem KV.length{XQ:List (j×V)}{vs:List (j×Value)}(r:KV XQ vs):XQ.length=vs.length:=Paired.length r
end
theorem Wt(r:RelV (kV k) u):(Z8 P w).is k u=true:=by
 cases k with
 | inl i=>obtain⟨t,e⟩:=(show ∃t,u=Value.int i t from r);subst e;exact Xx P w i t
 | inr x=>obtain⟨t,e⟩:=(show ∃t,u=Value.str x t from r);subst e;exact Xz P w x t
theorem Kw:∀{ks:List Key} {us:ZG},Yj (ks.map kV) us->ItemsAre (Z8 P w) ks us
 | [],_,r=>by rw[List.map_nil]at r;cases r;exact .nil
 | k::ks,_,r=>by
  rw[Mu]at r;cases r with
  | cons h t=>exact .cons (Wt h) (Kw t)
abbrev KT(H:Hp):List (List Key×V)->List (List Key×Addr×Value)->Prop:=Paired λp q=>p.1=q.1/\H q.2.1=some (.tup (p.1.map kV))/\RelV p.2 q.2.2
theorem KT.val(r:KT H XQ xs)(k:List Key):Rr (Dn XQ k) ((atKey xs k).map (·.2)):=by
 induction r with
 | nil=>exact True.intro
 | @cons p q ps qs h t ih =>
  obtain⟨h1,_,h2⟩:=h;by_cases e:p.1=k
  .have e':q.1=k:=h1.symm.trans e;have b:atKey (q::qs) k=some q.2:=by simp[atKey,List.find?_cons,e']
   rw[Bu e,b];exact h2
  .have e':¬ q.1=k:=λz=>e (h1.trans z);have b:atKey (q::qs) k=atKey qs k:=by simp[atKey,List.find?_cons,e']
   rw[Nv e,b];exact ih
theorem KT.repl(r:KT H XQ xs)(k:List Key)(ry:RelV y u) :
  KT H (XQ.map λkv=>if kv.1=k then (kv.1,y) else kv) (xs.map (putAt k u)):=by
 induction r with
 | nil=>exact .nil
 | @cons p q ps qs h t ih =>
  rw[Mu,Mu];refine .cons ?_ ih;obtain⟨h1,h2,h3⟩:=h;unfold putAt;by_cases e:p.1=k
  .rw[if_pos e,if_pos (h1.symm.trans e)];exact⟨h1,h2,ry⟩
  .rw[if_neg e,if_neg (λz=>e (h1.trans z))];exact⟨h1,h2,h3⟩
theorem KT.put{H:Hp}{XQ:List (List Key×V)}{xs:List (List Key×Addr×Value)}(r:KT H XQ xs)(k:List Key){b:Addr}{y:V}{u:Value}(hb:H b=some (.tup (k.map kV)))(ry:RelV y u) :
  KT H (putK XQ k y) (storedH xs k b u):=by
 have e:(XQ.any λkv=>decide (kv.1=k))=(atKey xs k).isSome:=by
  rw[Q4,(r.val k).isSome_eq,Option.isSome_map]
 unfold putK storedH;rw[e];by_cases q:(atKey xs k).isSome=true
 .rw[if_pos q,if_pos q];exact r.repl k ry
 .rw[if_neg q,if_neg q];exact Paired.snoc r ⟨rfl,hb,ry⟩
theorem KT.keeps(r:KT H XQ xs)(ht:∀b ys,H b=some (.tup ys)->H' b=some (.tup ys)):KT H' XQ xs :=
 Paired.mapP r λ_ _ z=>⟨z.1,ht _ _ z.2.1,z.2.2⟩
section
variable{P:Program}{w:World}{H:Hp}{h:Heap}{a:Addr}
theorem Zk8(ok:Bs P w H h)(e:Rd H a u):Y4 P w H h a u:=e.ok ok
theorem Ci(ok:Bs P w H h)(e:Rd H a (.dK XQ)):XQ.length<=sizeLine/\(a==sysModules)=false/\∃vs,KV XQ vs/\h.DictOf (Z8 P w) a vs :=
 show Y4 P w H h a (.dK XQ) from Zk8 ok e
theorem Zge(ok:Bs P w H h)(e:H a=some (.dK XQ)):XQ.length<=sizeLine/\(a==sysModules)=false/\∃vs,KV XQ vs/\h.DictOf (Z8 P w) a vs:=Ci ok (.inl e)
theorem Rt(ok:Bs P w H h)(e:H a=some (.tup (ks.map kV))):(tupleKind (Z8 P w)).is h ks a:=by
 obtain⟨_,XJ,r,o,h1,h2,⟨n,h3⟩,_⟩:=(show Y4 P w H h a (.tup (ks.map kV)) from ok a _ e);exact⟨o,XJ.toArray,n,h1,h2,h3,by simpa using Kw r⟩
theorem F6(ok:Bs P w H h)(e:Rd H a (.dT XQ)):XQ.length<=sizeLine/\(a==sysModules)=false /\
  ∃xs,KT H XQ xs/\h.DictOfH (tupleKind (Z8 P w)) a xs:=by
 obtain⟨z,y,xs,r,o,es,ep,h1,h2,h3,h4,h5⟩:=(show Y4 P w H h a (.dT XQ) from Zk8 ok e);refine⟨z,y,xs,r,o,es,ep,h1,h2,h3,h4,λx hx=>?_,h5⟩
 have all:∀{l:List (List Key×V)} {m:List (List Key×Addr×Value)},KT H l m->∀x∈m,(tupleKind (Z8 P w)).is h x.1 x.2.1:=by
  intro l m q
  induction q with
  | nil=>intro x hx;exact nomatch hx
  | @cons p q ps qs hq t ih =>
   intro x hx;rcases U8.mp hx with e | hx
   .subst e;exact Rt ok (by rw[<-hq.1];exact hq.2.1)
   .exact ih x hx
 exact all r x hx
theorem dt_of(ok:Bs P w H h)(e:H a=some (.dT XQ)):XQ.length<=sizeLine/\(a==sysModules)=false /\
  ∃xs,KT H XQ xs/\h.DictOfH (tupleKind (Z8 P w)) a xs:=F6 ok (.inl e)
end
def Ue(H:Hp)(a:Addr)(y:V)(r:Option V):Prop :=
 (∃XQ k,Rd H a (.dK XQ)/\y=kV k/\r=Dn XQ k)\/∃XQ k b,Rd H a (.dT XQ)/\y=.ref b/\H b=some (.tup (k.map kV))/\r=Dn XQ k
def y9(H:Hp)(a:Addr)(y v:V)(H':Hp):Prop :=
 (∃XQ k,H a=some (.dK XQ)/\y=kV k/\XQ.length<sizeLine/\H'=upd H a (.dK (putK XQ k v))) \/
 ∃XQ k b,H a=some (.dT XQ)/\y=.ref b/\H b=some (.tup (k.map kV))/\XQ.length<sizeLine/\H'=upd H a (.dT (putK XQ k v))
theorem Ue.k{H:Hp}{a:Addr}{XQ:List (Key×V)}{k:Key}(e:H a=some (.dK XQ)):Ue H a (kV k) (Dn XQ k):=.inl ⟨XQ,k,.inl e,rfl,rfl⟩
theorem Ue.t{H:Hp}{a b:Addr}{XQ:List (List Key×V)}{k:List Key}(e:H a=some (.dT XQ))(eb:H b=some (.tup (k.map kV))):Ue H a (.ref b) (Dn XQ k):=.inr ⟨XQ,k,b,.inl e,rfl,eb,rfl⟩
theorem y9.k{H:Hp}{a:Addr}{XQ:List (Key×V)}{k:Key}{v:V}(e:H a=some (.dK XQ))(hl:XQ.length<sizeLine):y9 H a (kV k) v (upd H a (.dK (putK XQ k v))):=.inl ⟨XQ,k,e,rfl,hl,rfl⟩
theorem y9.t{H:Hp}{a b:Addr}{XQ:List (List Key×V)}{k:List Key}{v:V}(e:H a=some (.dT XQ))(eb:H b=some (.tup (k.map kV)))(hl:XQ.length<sizeLine) :
  y9 H a (.ref b) v (upd H a (.dT (putK XQ k v))):=.inr ⟨XQ,k,b,e,rfl,eb,hl,rfl⟩
section
variable{X:Cx}{XX:Vs}{j:St}{H:Hp}{s:Shared}{a:Addr}{y v:V}{u r:Value}{o:Option V}{A:Around}{E:Ya}
theorem Inv.big(I:Inv X XX j H s):sysModules<s.heap.objs.size:=by
 have h:mainGlobals<s.heap.objs.size:=(I.mod.glob.keeps I.bk).lt;exact Nat.lt_trans QI h
theorem aw(hu:A.units+1<cLine)(I:Inv X XX j H s)(g:Ue H a y (some v))(ry:RelV y u)(h:∀w' s',Inv X XX j H s'->RelV v w'->Q w' s') :
  wpAny (model X.prog X.w) A (getItem (.ref a) u) Q E s:=by
 rcases g with ⟨XQ,k,e,ey,l⟩ | ⟨XQ,k,b,e,ey,eb,l⟩
 .subst ey;obtain⟨z,hd,vs,rel,dd⟩:=Ci I.hok e;obtain⟨w',hw,Ic⟩:=Rr.some_of (v:=v) (o:=valueAt vs k) (by rw[l];exact rel.val k);exact wpAny_getItem_of (Wt ry) dd.mapOf hw (h w' _ (I.tok _) Ic)
 .subst ey;cases Zc ry;obtain⟨z,hd,xs,rel,dd⟩:=F6 I.hok e;obtain⟨w',hw,Ic⟩:=Rr.some_of (v:=v) (o:=(atKey xs k).map (·.2)) (by rw[l];exact rel.val k);obtain⟨p,hp,ou⟩:=Cy.mp hw;refine wpAny_getItem_heap (tupleKind_room_in1 hu) (Rt I.hok eb) dd hp ?_;rw[ou];exact h w' _ (I.tok _) Ic
theorem d_in(hu:A.units+1<cLine)(I:Inv X XX j H s)(g:Ue H a y o)(ry:RelV y u)(h:∀s',Inv X XX j H s'->Q (.bool o.isSome) s') :
  wpAny (model X.prog X.w) A (compareOp .In u (.ref a)) Q E s:=by
 rcases g with ⟨XQ,k,e,ey,l⟩ | ⟨XQ,k,b,e,ey,eb,l⟩
 .subst ey;obtain⟨z,hd,vs,rel,dd⟩:=Ci I.hok e;refine wpAny_in_of (Wt ry) hd dd.mapOf ?_;rw[<-(rel.val k).isSome_eq, <-l];exact h _ (I.tok _)
 .subst ey;cases Zc ry;obtain⟨z,hd,xs,rel,dd⟩:=F6 I.hok e;refine wpAny_in_heap (tupleKind_room_in1 hu) (Rt I.hok eb) hd dd ?_;have q:=(rel.val k).isSome_eq;rw[Option.isSome_map]at q;rw[<-q, <-l];exact h _ (I.tok _)
theorem Zkk(hu:A.units+1<cLine)(I:Inv X XX j H s)(g:Ue H a y o)(ry:RelV y u)(h:∀s',Inv X XX j H s'->Q (.bool (!o.isSome)) s') :
  wpAny (model X.prog X.w) A (compareOp .NotIn u (.ref a)) Q E s:=by
 rcases g with ⟨XQ,k,e,ey,l⟩ | ⟨XQ,k,b,e,ey,eb,l⟩
 .subst ey;obtain⟨z,hd,vs,rel,dd⟩:=Ci I.hok e;refine wpAny_notIn_of (Wt ry) hd dd.mapOf ?_;rw[<-(rel.val k).isSome_eq, <-l];exact h _ (I.tok _)
 .subst ey;cases Zc ry;obtain⟨z,hd,xs,rel,dd⟩:=F6 I.hok e;refine wpAny_notIn_heap (tupleKind_room_in1 hu) (Rt I.hok eb) hd dd ?_;have q:=(rel.val k).isSome_eq;rw[Option.isSome_map]at q;rw[<-q, <-l];exact h _ (I.tok _)
theorem Ak(I:Inv X XX j H s)(mu:Mut (H a))(hs:Heap.SameBut a s.heap h')(he:∃q,h'.get? a=some q)(new:Y4 X.prog X.w (upd H a ob) h' a ob) :
  Inv X XX j (upd H a ob) { s with heap:=h',toks:=t' } :=
 I.write (x:=a) (e:=a) mu (.inl rfl) (λb q hb z=>(hs.2 b hb).trans z) he new
theorem Ay(z:XQ.length<=sizeLine)(hd:(a==sysModules)=false)(rel:KV XQ vs)(dd:h'.DictOf (Z8 P w) a vs) :
  Y4 P w H' h' a (.dK XQ):=⟨z,hd,vs,rel,dd⟩
theorem aj(hu:A.units+1<cLine)(I:Inv X XX j H s)(g:y9 H a y v H')(ry:RelV y u)(rv:RelV v r)(h:∀s',Inv X XX j H' s'->Q () s') :
  wpAny (model X.prog X.w) A (setItem (.ref a) u r) Q E s:=by
 rcases g with ⟨XQ,k,e,ey,l,eH⟩ | ⟨XQ,k,b,e,ey,eb,l,eH⟩
 .subst ey eH;obtain⟨z,hd,vs,rel,dd⟩:=Zge I.hok e;have hz:vs.length<=sizeLine:=by rw[<-rel.length];exact z
  have hl:(putK XQ k v).length<=sizeLine:=by have:=Ml XQ k v;omega
  refine wpAny_setItem_pairs (hsz:=hz) (Wt ry) dd λh' dd' hs=>h _ ?_;have he:∃q,h'.get? a=some q:=let ⟨q,_,_,hq,_⟩:=dd';⟨q,hq⟩;exact Ak I (by rw[e];exact True.intro) hs he (Ay hl hd (rel.put k rv) dd')
 .subst ey eH;cases Zc ry;obtain⟨z,hd,xs,rel,dd⟩:=dt_of I.hok e;have hz:xs.length<=sizeLine:=by rw[<-Paired.length rel];exact z
  have hl:(putK XQ k v).length<=sizeLine:=by have:=Ml XQ k v;omega
  refine wpAny_setItem_heap (hsz:=hz) (tupleKind_room_in1 hu) (Rt I.hok eb) dd λh' dd' hs=>h _ ?_;obtain⟨q,es,ep,hq,h2,h3,h4,_,h5⟩:=dd';refine Ak I (by rw[e];exact True.intro) hs ⟨q,hq⟩ ⟨hl,hd,_,(rel.put k eb rv).keeps λc ys ec=>?_,q,es,ep,hq,h2,h3,h4,h5⟩;rw[Zm (ne_of ec e (λz=>nomatch z))];exact ec
end
section
variable{X:Cx}{XX:Vs}{j:St}{H:Hp}{s:Shared}{a:Addr}{XQ:List (Key×V)}{k:Key}{u:Value}{A:Around}{E:Ya}
end
def NoSl(i:Expr):Prop:=∀ov iv,subscripted i false ov iv=operate [ov,iv] (getItem ov iv)
theorem Zw1{T id:String}
  (hl:typeLookup (.type T) "__getitem__"=pure (some (.builtin id))) (hs:NoSl slice)
  (h:wpAny (model prog w) A (eval value env) (λo s₁=>wpAny (model prog w) A (eval slice env) (λi s₂=>s₂.TypeIs o T/\wpAny (model prog w) A (getItem o i) Q E s₂) E s₁) E s) :
  wpAny (model prog w) A (eval (.Subscript value slice pos) env) Q E s:=by
 refine Subscript_ (wpAny_mono h (λo s₁ h₁=>wpAny_mono h₁ (λi s₂ h₂=>?_) λ_ _ x=>x) λ_ _ x=>x);obtain⟨hT,h₂⟩:=h₂;unfold subscriptTail;refine Zn ?_;rw[getitemInPython_of_ne hT.not_modules];refine Zn (wpAny_specialOf hT hl ?_)
 have fin:wpAny (model prog w) A (subscripted slice false o i) (λr s₃=>wpAny (model prog w) A (letTemporaryGo value o r >>= λ_=>pure r) Q E s₃) E s₂:=by
  rw[hs o i];exact wpAny_operating (wpAny_mono h₂ (λr s₃ h₃=>Zn (wpAny_letTemporaryGo (Z4 h₃))) λ_ _ x=>x)
 first
  | exact Z4 (Zn fin)
  | exact Zn (Z4 (Zn fin))
  | exact Zn fin
theorem X7(I:Inv X XX j H s)(g:Ue H a y o):s.TypeIs (.ref a) "dict" := by
 rcases g with ⟨XQ,k,e,_,_⟩ | ⟨XQ,k,b,e,_,_,_⟩
 .obtain⟨_,_,vs,_,dd⟩:=Ci I.hok e;exact dd.typeIs
 .obtain⟨_,_,xs,_,dd⟩:=F6 I.hok e;exact dd.typeIs
inductive Zw0(Q:VK)(x:V)(y:V)(H2:Hp):Prop
 | mk(a v)(Vx:x=.ref a)(Vz:Ue H2 a y (some v))(Vp:Q v H2)
def tDGet(td ty:TE):TE:=λj H Q=>td j H λx H1=>ty j H1 λy H2=>Zw0 Q x y H2
inductive tDIn_I(Q:VK)(y:V)(x:V)(H2:Hp):Prop
 | mk(a o)(Vx:x=.ref a)(Vz:Ue H2 a y o)(Vp:Q (.bl o.isSome) H2)
def tDIn(ty td:TE):TE:=λj H Q=>ty j H λy H1=>td j H1 λx H2=>tDIn_I Q y x H2
inductive l4(Q:VK)(y:V)(x:V)(H2:Hp):Prop
 | mk(a o)(Vx:x=.ref a)(Vz:Ue H2 a y o)(Vp:Q (.bl (!o.isSome)) H2)
def Zwe(ty td:TE):TE:=λj H Q=>ty j H λy H1=>td j H1 λx H2=>l4 Q y x H2
inductive Zvv(D:Ends)(j:St)(v:V)(x:V)(y:V)(H3:Hp):Prop
 | mk(a H4)(Vx:x=.ref a)(Vz:y9 H3 a y v H4)(Vp:D.nx j H4)
def sDPut(td ty tv:TE):TS:=λD j H=>tv j H λv H1=>td j H1 λx H2=>ty j H2 λy H3=>Zvv D j v x y H3
section
variable{X:Cx}{o i e value:Expr}{pos pos' tpos:Pos}{td ty tv:TE}
theorem Mn(hu:X.A.units+1<cLine)(ho:PE X o td)(hi:PE X i ty)(hs:NoSl i):PE X (.Subscript o i pos) (tDGet td ty):=by
 intro XX s j H Q I h;refine Zw1 PySem.F.slot_dict_getitem.lookup hs (Y7 (ho XX s j H _ I h) λu s1 ⟨x,H1,I1,rx,q1⟩=>Y7 (hi XX s1 j H1 _ I1 q1) λiv s2 ⟨y,H2,I2,ry,a,v,ex,g,q2⟩=>?_);subst ex;obtain rfl:u=Value.ref a:=rx;exact⟨X7 I2 g,aw hu I2 g ry λw' s3 I3 Ic=>⟨v,H2,I3,Ic,q2⟩⟩
theorem Zxu(hu:X.A.units+1<cLine)(hi:PE X i ty)(ho:PE X o td):PC X .In i o (tDIn ty td):=by
 intro XX s j H Q I h;refine Y7 (hi XX s j H _ I h) λiv s1 ⟨y,H1,I1,ry,q1⟩=>Y7 (ho XX s1 j H1 _ I1 q1) λu s2 ⟨x,H2,I2,rx,a,ov,ex,g,q2⟩=>?_;subst ex;obtain rfl:u=Value.ref a:=rx;exact d_in hu I2 g ry λs3 I3=>⟨.bl ov.isSome,H2,I3,rfl,q2⟩
theorem se(hu:X.A.units+1<cLine)(hi:PE X i ty)(ho:PE X o td):PC X .NotIn i o (Zwe ty td):=by
 intro XX s j H Q I h;refine Y7 (hi XX s j H _ I h) λiv s1 ⟨y,H1,I1,ry,q1⟩=>Y7 (ho XX s1 j H1 _ I1 q1) λu s2 ⟨x,H2,I2,rx,a,ov,ex,g,q2⟩=>?_;subst ex;obtain rfl:u=Value.ref a:=rx;exact Zkk hu I2 g ry λs3 I3=>⟨.bl (!ov.isSome),H2,I3,rfl,q2⟩
theorem Qn(hu:X.A.units+1<cLine)(ho:PE X o td)(hi:PE X i ty)(hv:PE X value tv)(hs:swapsWith value (some (.Subscript o i pos')) pos.line X.env=pure false) :
  PS X (.Assign [.Subscript o i pos'] value pos) (sDPut td ty tv):=by
 intro XX s j H D I h;refine wpAny_Assign_Subscript (Y7 (hv XX s j H _ I h) λr s1 ⟨v,H1,I1,rv,q1⟩=>Y7 (ho XX s1 j H1 _ I1 q1) λu s2 ⟨x,H2,I2,rx,q2⟩=>Y7 (hi XX s2 j H2 _ I2 q2) λiv s3 ⟨y,H3,I3,ry,a,H4,ex,g,q3⟩=>?_) hs;subst ex;obtain rfl:u=Value.ref a:=rx;exact aj hu I3 g ry rv λs4 I4=>⟨j,H4,I4,q3⟩
end
theorem Zjl(h:Heap)(hb:sysModules<h.objs.size):Y4 P w H (h.push { cls:=.type "dict",data:=.dict #[] }) h.objs.size (.dK []) :=
 ⟨Dc _,ij.mpr (Ne.symm (Nj hb)),[],.nil,Heap.DictOf.new h⟩
section
variable{X:Cx}{pos:Pos}
end
def qw:List (TE×TE)->St->Hp->(List (V×V)->Hp->Prop)->Prop
 | [],_,H,Q=>Q [] H
 | (tk,tv)::r,j,H,Q=>tk j H λx H1=>tv j H1 λy H2=>qw r j H2 λps H3=>Q ((x,y)::ps) H3
abbrev VV:List (V×V)->List (Value×Value)->Prop:=Paired λp q=>RelV p.1 q.1/\RelV p.2 q.2
def PPs(X:Cx)(pos:Pos)(keys:List (Option Expr))(values:ZD)(trs:List (TE×TE)):Prop :=
 ∀(XX:Vs) (s:Shared) (j:St) (H:Hp) (Q:List (V×V)->Hp->Prop),Inv X XX j H s->qw trs j H Q ->
  wpAny (model X.prog X.w) X.A (evalPairs (pairTrees keys values X.env pos)) (λvs s'=>∃ps H',Inv X XX j H' s'/\VV ps vs/\Q ps H') X.xe s
theorem Zva{X:Cx}{pos:Pos}:PPs X pos [] [] []:=λXX s j H Q I h=>pairTrees_nil_walk ⟨[],H,I,.nil,h⟩
theorem Pc{X:Cx}{pos:Pos}{k v:Expr}{ks:List (Option Expr)}{vs:ZD}{tk tv:TE}{trs:List (TE×TE)}(hk:PE X k tk)(hv:PE X v tv)(hr:PPs X pos ks vs trs) :
  PPs X pos (some k::ks) (v::vs) ((tk,tv)::trs):=λXX s j H Q I h =>
 pairTrees_cons_walk (Y7 (hk XX s j H _ I h) λu s1 ⟨x,H1,I1,rx,q1⟩=>Y7 (hv XX s1 j H1 _ I1 q1) λw2 s2 ⟨y,H2,I2,ry,q2⟩ =>
  Y7 (hr XX s2 j H2 _ I2 q2) λws s3 ⟨ps,H3,I3,rel,q3⟩=>⟨(x,y)::ps,H3,I3,.cons ⟨rx,ry⟩ rel,q3⟩)
noncomputable def L7(XQ more:List (Key×V)):List (Key×V):=more.foldl (λacc kv=>putK acc kv.1 kv.2) XQ
theorem KV.merge:∀{more:List (Key×V)} {rs:List (Key×Value)} {XQ:List (Key×V)} {vs:List (Key×Value)},KV more rs->KV XQ vs->KV (L7 XQ more) (merged vs rs):=by
 intro more rs XQ vs r;unfold KV at r
 induction r generalizing XQ vs with
 | nil=>intro q;exact q
 | @cons p q ps qs h t ih =>
  intro r0
  have e:KV (putK XQ p.1 p.2) (stored vs q.1 q.2):=by
   have:=r0.put p.1 h.2;rw[<-h.1];exact this
  exact ih e
theorem Cu:∀(more XQ:List (Key×V)),(L7 XQ more).length<=XQ.length+more.length
 | [],XQ=>by show XQ.length<=XQ.length+0;omega
 | p::r,XQ=>by
  have h1:=Cu r (putK XQ p.1 p.2);have h2:=Ml XQ p.1 p.2;show (L7 (putK XQ p.1 p.2) r).length<=_;rw[R1];omega
theorem O8:∀{XQ:List (Key×V)} {ws:List (Value×Value)},VV (XQ.map λkv=>(kV kv.1,kv.2)) ws->∃rs,Carries (Z8 P w) ws rs/\KV XQ rs
 | [],_,r=>by rw[List.map_nil]at r;cases r;exact⟨[],True.intro,.nil⟩
 | p::XQ,_,r=>by
  rw[Mu]at r;cases r with
  | @cons a b as bs h t =>
   obtain⟨rs,c,q⟩:=O8 (P:=P) (w:=w) t;obtain⟨b1,b2⟩:=b;exact⟨(p.1,b2)::rs,⟨Wt h.1,rfl,c⟩,.cons ⟨rfl,h.2⟩ q⟩
def tDisp(trs:List (TE×TE)):TE:=λj H Q=>∀p,H p=none->qw trs j (upd H p (.dK [])) λps H2=>H2 p=some (.dK [])/\∃XQ:List (Key×V),ps=XQ.map (λkv=>(kV kv.1,kv.2))/\XQ.length<=15/\Q (.ref p) (upd H2 p (.dK (L7 [] XQ)))
theorem Zv2{X:Cx}{pos:Pos}{keys:List (Option Expr)}{values:ZD}{trs:List (TE×TE)}(h:PPs X pos keys values trs)(hall:keys.all (·.isSome)=true)(hl:keys.length=values.length)(h0:keys≠[])
  (h15:keys.length<=15):PE X (.Dict keys values pos) (tDisp trs):=by
 intro XX s j H Q I q;have hn:=I.hok.fresh (Yt s.heap.objs.size);have I1:=I.laid (a:=s.heap.objs.size) (o:=.dK []) (h':=s.heap.push { cls:=.type "dict",data:=.dict #[] }) (t':=s.toks) (λ_ _ q=>Uz _ q) (Yt _) (Zjl s.heap I.big);refine wpAny_Dict_walk (knd:=Z8 X.prog X.w) hall hl h0 h15 (Y7 (h XX _ j _ _ I1 (q _ hn)) λws s2 ⟨ps,H2,I2,rel,e,XQ,ep,lk,q2⟩=>?_);subst ep;obtain⟨rs,c,rk⟩:=O8 (P:=X.prog) (w:=X.w) rel;obtain⟨z,hd,vs0,r0,dd⟩:=Zge I2.hok e;cases r0;refine⟨rs,c,dd,λh' dd' hs=>⟨.ref s.heap.objs.size,_,?_,rfl,q2⟩⟩
 have hz:(L7 [] XQ).length<=sizeLine:=by
  have h1:=Cu XQ [];rw[List.length_nil]at h1;rw[sizeLine_eq];omega
 have he:∃q,h'.get? s.heap.objs.size=some q:=let ⟨q,_,_,hq,_⟩:=dd';⟨q,hq⟩;exact Ak I2 (by rw[e];exact True.intro) hs he (Ay hz hd (rk.merge .nil) dd')
structure M1(X:Cx)(o:Expr)(m:Str)(apos:Pos)(e:Expr)(cpos:Pos):Prop where
 base:attributeBase o m X.env (eval o X.env)=eval o X.env
 few:((backTo cpos (starEach [e] X.env)).all (λx=>!x.1)&&(backToKw cpos (keywordEach [] X.env)).all (λx=>x.1.isSome)
  && decide (([e]:ZD).length+([]:List Keyword).length+(if ([]:List Keyword).isEmpty then 0 else 1)<30))=true
 line:(apos.endLine==cpos.line)=true
 trees:backTo cpos (starEach [e] X.env)=[(false,eval e X.env)]
structure M2(X:Cx)(o:Expr)(m:Str)(apos:Pos)(e f:Expr)(cpos:Pos):Prop where
 base:attributeBase o m X.env (eval o X.env)=eval o X.env
 few:((backTo cpos (starEach [e,f] X.env)).all (λx=>!x.1)&&(backToKw cpos (keywordEach [] X.env)).all (λx=>x.1.isSome)
  && decide (([e,f]:ZD).length+([]:List Keyword).length+(if ([]:List Keyword).isEmpty then 0 else 1)<30))=true
 line:(apos.endLine==cpos.line)=true
 trees:backTo cpos (starEach [e,f] X.env)=[(false,eval e X.env),(false,eval f X.env)]
def Zj6(H:Hp)(a:Addr):Prop:=(∃XQ,Rd H a (.dK XQ))\/∃XQ,Rd H a (.dT XQ)
theorem Xt(I:Inv X XX j H s)(d:Zj6 H a) :
  s.TypeIs (.ref a) "dict" /\ (∀b,Value.ref a=.ref b->∃ob,s.heap.get? b=some ob/\ob.dict=none)/\(a==sysModules)=false:=by
 rcases d with ⟨XQ,e⟩ | ⟨XQ,e⟩
 .obtain⟨_,hd,vs,_,dd⟩:=Ci I.hok e;refine⟨dd.typeIs,λb q=>?_,hd⟩;cases q;obtain⟨ob,_,_,h1,h2,_⟩:=dd;exact⟨ob,h1,h2.2.1⟩
 .obtain⟨_,hd,xs,_,dd⟩:=F6 I.hok e;refine⟨dd.typeIs,λb q=>?_,hd⟩;cases q;obtain⟨ob,_,_,h1,h2,_⟩:=dd;exact⟨ob,h1,h2.2.1⟩
section
variable{X:Cx}{XX:Vs}{j:St}{H:Hp}{s:Shared}{a:Addr}{y d:V}{u r:Value}{o:Option V}{A:Around}{E:Ya}
theorem d_get1(hu:A.units+1<cLine)(I:Inv X XX j H s)(g:Ue H a y o)(ry:RelV y u)(h:∀w' s',Inv X XX j H s'->RelV (o.getD .non) w'->Q w' s') :
  wpAny (model X.prog X.w) A (call (.builtin "dict.get") [.ref a,u]) Q E s:=by
 rcases g with ⟨XQ,k,e,ey,l⟩ | ⟨XQ,k,b,e,ey,eb,l⟩
 .subst ey;obtain⟨z,hd,vs,rel,dd⟩:=Ci I.hok e;refine call_meetsIn PySem.F.slot_dict_get dd.typeIs PySem.F.entry_dict_get (PySem.F.args_dict_get_2 _ _) (meets_dict_get (Z8 X.prog X.w) a (Wt ry) hd) ⟨_,dd.mapOf,h _ _ (I.tok _) ?_⟩;rw[l];exact(rel.val k).getD rfl
 .subst ey;cases Zc ry;obtain⟨z,hd,xs,rel,dd⟩:=F6 I.hok e;refine call_meetsIn PySem.F.slot_dict_get dd.typeIs PySem.F.entry_dict_get (PySem.F.args_dict_get_2 _ _) (meetsH_dict_get (tupleKind (Z8 X.prog X.w)) a b hd) ⟨tupleKind_room_in1 hu,k,xs,Rt I.hok eb,dd,h _ _ (I.tok _) ?_⟩;rw[l];exact(rel.val k).getD rfl
theorem d_get2(hu:A.units+1<cLine)(I:Inv X XX j H s)(g:Ue H a y o)(ry:RelV y u)(rd:RelV d r)(h:∀w' s',Inv X XX j H s'->RelV (o.getD d) w'->Q w' s') :
  wpAny (model X.prog X.w) A (call (.builtin "dict.get") [.ref a,u,r]) Q E s:=by
 rcases g with ⟨XQ,k,e,ey,l⟩ | ⟨XQ,k,b,e,ey,eb,l⟩
 .subst ey;obtain⟨z,hd,vs,rel,dd⟩:=Ci I.hok e;refine call_meetsIn PySem.F.slot_dict_get dd.typeIs PySem.F.entry_dict_get (PySem.F.args_dict_get_3 _ _ _) (meets_dict_get_default (Z8 X.prog X.w) a (Wt ry) hd r) ⟨_,dd.mapOf,h _ _ (I.tok _) ?_⟩;rw[l];exact(rel.val k).getD rd
 .subst ey;cases Zc ry;obtain⟨z,hd,xs,rel,dd⟩:=F6 I.hok e;refine call_meetsIn PySem.F.slot_dict_get dd.typeIs PySem.F.entry_dict_get (PySem.F.args_dict_get_3 _ _ _) (meetsH_dict_get_default (tupleKind (Z8 X.prog X.w)) a b hd r) ⟨tupleKind_room_in1 hu,k,xs,Rt I.hok eb,dd,h _ _ (I.tok _) ?_⟩;rw[l];exact(rel.val k).getD rd
end
inductive Zzl(ty:TE)(j:St)(Q:VK)(x:V)(H1:Hp):Prop
 | mk(a)(Vx:x=.ref a)(Vz:Zj6 H1 a)(Vp:ty j H1 λy H2=>∃o,Ue H2 a y o/\Q (o.getD .non) H2)
def tDGet1(td ty:TE):TE:=λj H Q=>td j H λx H1=>Zzl ty j Q x H1
inductive Zzn(ty:TE)(tx:TE)(j:St)(Q:VK)(x:V)(H1:Hp):Prop
 | mk(a)(Vx:x=.ref a)(Vz:Zj6 H1 a)(Vp:ty j H1 λy H2=>tx j H2 λz H3=>∃o,Ue H3 a y o/\Q (o.getD z) H3)
def tDGet2(td ty tx:TE):TE:=λj H Q=>td j H λx H1=>Zzn ty tx j Q x H1
section
variable{X:Cx}{o e f:Expr}{apos cpos:Pos}{td ty tx:TE}
theorem Zxr(hu:X.A.units+1<cLine)(ho:PE X o td)(he:PE X e ty)(m:M1 X o "get" apos e cpos):PE X (.Call (.Attribute o "get" apos) [e] [] cpos) (tDGet1 td ty):=by
 intro XX s j H Q I h;refine wpAny_Call_method m.base m.few m.line PySem.F.plainAttrs_dict PySem.F.slot_dict_get PySem.F.type_dict_get (Y7 (ho XX s j H _ I h) λu s1 ⟨x,H1,I1,rx,a,ex,d,q1⟩=>?_);subst ex;obtain rfl:u=Value.ref a:=rx;obtain⟨t1,t2,_⟩:=Xt I1 d;refine⟨t1,t2,?_⟩;rw[m.trees];refine Calls.callWith_builtin rfl (Calls.evalArgs_plain (Calls.spliced_cons (Y7 (he XX s1 j H1 _ I1 q1) λiv s2 ⟨y,H2,I2,ry,ov,g,q2⟩=>Calls.spliced_nil ?_)));exact d_get1 hu I2 g ry λw' s3 I3 Ic=>⟨_,H2,I3,Ic,q2⟩
theorem Iu(hu:X.A.units+1<cLine)(ho:PE X o td)(he:PE X e ty)(hf:PE X f tx)(m:M2 X o "get" apos e f cpos):PE X (.Call (.Attribute o "get" apos) [e,f] [] cpos) (tDGet2 td ty tx):=by
 intro XX s j H Q I h;refine wpAny_Call_method m.base m.few m.line PySem.F.plainAttrs_dict PySem.F.slot_dict_get PySem.F.type_dict_get (Y7 (ho XX s j H _ I h) λu s1 ⟨x,H1,I1,rx,a,ex,d,q1⟩=>?_);subst ex;obtain rfl:u=Value.ref a:=rx;obtain⟨t1,t2,_⟩:=Xt I1 d;refine⟨t1,t2,?_⟩;rw[m.trees]
 refine Calls.callWith_builtin rfl (Calls.evalArgs_plain (Calls.spliced_cons (Y7 (he XX s1 j H1 _ I1 q1) λiv s2 ⟨y,H2,I2,ry,q2⟩ =>
  Calls.spliced_cons (Y7 (hf XX s2 j H2 _ I2 q2) λfv s3 ⟨z,H3,I3,rz,ov,g,q3⟩=>Calls.spliced_nil ?_))))
 exact d_get2 hu I3 g ry rz λw' s4 I4 Ic=>⟨_,H3,I4,Ic,q3⟩
end
section
variable{X:Cx}{XX:Vs}{j:St}{H:Hp}{s:Shared}{a:Addr}{XQ:List (Key×V)}{A:Around}{E:Ya}
theorem Zjh(I:Inv X XX j H s)(e:Rd H a (.dK XQ))(h:∀p s',H p=none->Inv X XX j (upd H p (.dK XQ)) s'->Q (.ref p) s'):wpAny (model X.prog X.w) A (call (.type "dict") [.ref a]) Q E s:=by
 obtain⟨z,hd,vs,rel,dd⟩:=Ci I.hok e;refine kt_call_dict hd dd (by rw[<-rel.length];exact z) λh' dd' hs=>?_;refine h _ _ (I.hok.fresh (Yt _)) (I.laid (a:=s.heap.objs.size) (o:=.dK XQ) (t':=s.toks) (λb q hq=>?_) (Yt _) (Ay z (ij.mpr (Ne.symm (Nj I.big))) rel dd'));exact(hs.2 b (Nj (Ut hq))).trans (Uz _ hq)
end
section
variable{X:Cx}{XX:Vs}{j:St}{H:Hp}{s:Shared}{a:Addr}{y:V}{u:Value}{A:Around}{E:Ya}
end
section
variable{X:Cx}
end
section
variable{j:Type}[DecidableEq j]
end
section
variable{X:Cx}{XX:Vs}{Z:St}{H:Hp}{s:Shared}
theorem Inv.freeze(I:Inv X XX Z H s)(e:H d=some (.dK XQ)):∃o,s.heap.get? d=some o/\Inv X XX Z (upd H d (.frz o (.dK XQ))) s:=by
 obtain⟨z,y,vs,r,o,es,ep,ho,c⟩:=(show Y4 X.prog X.w H s.heap d (.dK XQ) from I.hok d _ e)
 have ne:∀{b:Addr} {u:HO},H b=some u->(∀k,u≠.dK k)->b≠d:=λh n z=>by
  rw[z,e]at h;cases h;exact n _ rfl
 refine⟨o,ho,?_⟩;refine I.step (g':=s.gens) (d':=s.drawn) (t':=s.toks) (h':=s.heap) (ch:=[]) (λ_ z=>nomatch z) (λ_ _ _ _ _ h _=>h) (λ_ o _ _ _ h _=>⟨o.slots,h⟩) (λb _ _ _ n=>?_) (λ_ o _ h=>⟨o,h⟩) (λb xs h=>?_) (λb o u h=>?_) (λb ps h=>⟨#[],?_⟩) (λ_ h=>h) (λb u h=>?_) I.bare
 .rw[Zm (λz=>by rw[z,e]at n;cases n)];exact n
 .rw[Zm (ne h λ_ z=>nomatch z)];exact h
 .rw[Zm (ne h λ_ z=>nomatch z)];exact h
 .rw[Zm (ne h λ_ z=>nomatch z),h];simp
 .by_cases q:b=d
  .subst q;rw[Zz]at h;cases h;exact⟨ho,z,y,vs,r,o,es,ep,ho,c⟩
  .rw[Zm q]at h;refine(I.hok b u h).stay (λc v hc q=>q) (λc q=>?_) λc xs q=>?_
   .rw[Zm (ne q λ_ z=>nomatch z)];exact q
   .rw[Zm (ne q λ_ z=>nomatch z)];exact q
noncomputable def Itd(d:Addr)(o:Obj)(XQ:List (Key×V)):It :=
 ⟨λi H=>i<XQ.length/\H d=some (.frz o (.dK XQ)),λi H v H'=>H'=H/\∃k x,XQ[i]?=some (k,x)/\v=kV k,λi H=>XQ.length<=i/\H d=some (.frz o (.dK XQ))⟩
inductive Zy3(R:(It->Hp->Prop))(x:V)(H1:Hp):Prop
 | mk(d XQ)(Vx:x=.ref d)(Vz:H1 d=some (.dK XQ))(Vp:∀o,R (Itd d o XQ) (upd H1 d (.frz o (.dK XQ))))
def iDict(te:TE):TI:=λZ H R=>te Z H λx H1=>Zy3 R x H1
theorem at_of(I:Inv X XX Z H s)(e:H d=some (.frz o (.dK XQ))):∃vs es ep,(d==sysModules)=false/\KV XQ vs/\o.data=.dict es ep/\s.heap.DictAt (Z8 X.prog X.w) d vs ep:=by
 obtain⟨ho,z,y,vs,r,o',es,ep,m9,c⟩:=(show Y4 X.prog X.w H s.heap d (.frz o (.dK XQ)) from I.hok d _ e);rw[ho]at m9;cases m9;exact⟨vs,es,ep,y,r,c.2.1,o,es,ho,c⟩
theorem KV.at{j:Type}:∀{XQ:List (j×V)} {vs:List (j×Value)} {i:Nat} {k:j} {x:V},KV XQ vs->XQ[i]?=some (k,x)->∃v,vs[i]?=some (k,v)
 | [],_,i,k,x,_,e=>by simp at e
 | a::XQ,_,0,k,x,.cons h t,e=>by
  rename_i b bs
  simp at e;subst e;exact⟨b.2,by rw[show k=b.1 from h.1];rfl⟩
 | a::XQ,_,i+1,k,x,.cons h t,e=>by
  obtain⟨v,e'⟩:=KV.at (i:=i) t (by simpa using e);exact⟨v,by simpa using e'⟩
theorem kV_rel(h:(Z8 P w).is k u=true):RelV (kV k) u:=by
 rcases Yu (show Wb k u=true from h) with ⟨j,t,rfl,rfl⟩ | ⟨x,t,rfl,rfl⟩
 .exact⟨t,rfl⟩
 .exact⟨t,rfl⟩
theorem lh{P:Program}{w:World}{K:W.Frag}{tg:Expr}(d it:Addr)(o:Obj)(XQ:List (Key×V))(es:Array DictEntry)(ep:Nat)(ho:o.data=.dict es ep) :
  Turn P w K tg (Itd d o XQ) [it] it (λi h=>h.IsKeyIter it d i XQ.length ep) where
 mem:=by simp
 obj:=λi h st b hb=>by
  have e:b=it:=by simpa using hb
  subst e;obtain⟨o,e,c,d⟩:=st;exact⟨o,e,λv z=>by rw[d]at z;cases z⟩
 keep:=λi h h' st k=>by
  obtain⟨o,e,c,d⟩:=st;exact⟨o,k it QE o e,c,d⟩
 item:=by
  intro X hP hw hK hc i XX s Z H E I hf st hg;subst hP hw hK;obtain⟨hi,hd⟩:=hg;obtain⟨vs,O2,ep',y,r,e',m⟩:=at_of I hd;rw[ho]at e';cases e';obtain⟨f0,f1,f2,f3,f4,f5⟩:=hf it QE;obtain⟨v,hv⟩:=KV.at (i:=i) (k:=XQ[i].1) (x:=XQ[i].2) r (Bh hi);have ln:=r.length;refine wpAny_pyNext_dict_item (by rw[<-ln];exact st) m hv λkey h' hk Iz sb=>?_;have I1:Inv X XX Z H { s with heap:=h' }:=I.turned (t':=s.toks) (λb o hb e=>(sb.2 b hb).trans e) f0 f1 f3 f4 f5;obtain⟨oo,e,c,dd⟩:=id Iz;exact⟨key,rfl,dj (s:={ s with heap:=h' }) e c dd QI ⟨kV XQ[i].1,H,I1,kV_rel hk,⟨rfl,_,_,Bh hi,rfl⟩,by rw[ln];exact Iz,λb hb=>(hf b hb).1⟩⟩
 done:=by
  intro X hP hw hK hc i XX s Z H E I hf st hg;subst hP hw hK;obtain⟨hi,hd⟩:=hg;obtain⟨vs,O2,ep',y,r,e',m⟩:=at_of I hd;rw[ho]at e';cases e';obtain⟨f0,f1,f2,f3,f4,f5⟩:=hf it QE;have ln:=r.length;exact wpAny_pyNext_dict_end (I.ok.hd hc) (by rw[<-ln];exact st) m (List.getElem?_eq_none QU) λh' eb=>⟨rfl,I.turned (t':=s.toks) (λb o hb e=>eb b o hb e) f0 f1 f3 f4 f5⟩
 self:=λ_ _ _ _ _ st h=>wpAny_pyIter_keyiter st h
theorem Zvi{tg l:Expr}{tl:TE}(hl:PE X l tl):PI X tg l (iDict tl):=by
 intro XX s Z H R I h;refine Y7 (hl XX s Z H _ I h) λv s1 ⟨x,H1,I1,r1,q1⟩=>?_;obtain⟨d,XQ,e,hd,q⟩:=q1;subst e;cases r1;obtain⟨o,ho,I2⟩:=I1.freeze hd;obtain⟨vs,es,ep,y,r,e',m⟩:=at_of I2 Zz;have ln:=r.length;refine wpAny_pyIter_dict y m ?_;refine⟨s1.heap.objs.size,[s1.heap.objs.size],_,_,_,rfl,I2.kept (t':=s1.toks) λb o e=>Uz _ e,lh d _ o XQ es ep e',⟨_,M7 _ rfl,rfl,by rw[ln];rfl⟩,λb hb=>?_,q o⟩;have e:b=s1.heap.objs.size:=by simpa using hb
 subst e;exact I2.fpOk (Yt _) (I2.hok.fresh (Yt _))
theorem Zjb{d:Addr}{o:Obj}{XQ:List (Key×V)}{g:TG}{tb:TS}{D:Ends}{Z:St}{H:Hp}(Pv:Nat->St->Hp->Prop)(h0:Pv 0 Z H)(hl:∀i Z H,i<=XQ.length->Pv i Z H->H d=some (.frz o (.dK XQ)))
  (hs:∀i k x Z H,XQ[i]?=some (k,x)->Pv i Z H->g (kV k) Z H λσ2 H2=>tb { D with nx:=Pv (i+1),ct:=Pv (i+1),bk:=D.nx } σ2 H2) (hd:∀Z H,Pv XQ.length Z H->D.nx Z H) :
  ∃W:Nat->Nat->St->Hp->Prop,(∃m,W 0 m Z H)/\∀i m Z H,W i m Z H ->
   ((Itd d o XQ).stop i H/\D.nx Z H)\/((Itd d o XQ).go i H/\∃N:St->Hp->Prop,(∀σ' H',N σ' H'->∃m',m'<m/\W (i+1) m' σ' H')/\∀x H',(Itd d o XQ).yld i H x H'->g x Z H' λσ2 H2=>tb { D with nx:=N,ct:=N,bk:=D.nx } σ2 H2):=by
 refine⟨λi m Z H=>m=XQ.length-i/\i<=XQ.length/\Pv i Z H,⟨XQ.length,by simp,Dc _,h0⟩,?_⟩;rintro i m Z H ⟨rfl,hi,p⟩;have q:=hl i Z H hi p;by_cases G9:i<XQ.length
 .refine .inr ⟨⟨G9,q⟩,Pv (i+1),λσ' H' p'=>⟨XQ.length-(i+1),by omega,rfl,G9,p'⟩,λx H' y=>?_⟩;obtain⟨e,k,z,ek,rfl⟩:=y;subst e;exact hs i k z Z _ ek p
 .have e:i=XQ.length:=QU
  subst e;exact .inl ⟨⟨Yt _,q⟩,hd Z H p⟩
inductive pq(x:V)(y:V)(H:Hp)(Q:VK):Prop
 | mk(l:Addr)(k:Int)(a:V)(Vx:x=.ref l)(Vz:y=.int k)(Vp:H l=some (.lst [a]))(Jn:(k=0\/k=1))(Mf:∀p,H p=none->Q (.ref p) (upd H p (.lst (List.replicate k.toNat a))))
theorem Zv8:M4 X (binaryOp .Mult) (λx y H Q=>pq x y H Q):=by
 intro XX s Z H x y v u Q I rx ry h;obtain⟨l,k,a,rfl,rfl,hH,hk,q⟩:=h;cases rx;obtain⟨t,rfl⟩:=ry;obtain⟨_,XJ,n,rv,ho⟩:=(show Y4 X.prog X.w H s.heap l (.lst [a]) from I.hok l _ hH);obtain⟨b,rfl,rb⟩:=rv.one
 refine wpAny_binaryOp_repeat_ref (T:="list") (U:="int") QI ⟨_,ho,rfl⟩ (λs'=>typeIs_int s' k t) noFill_list_mul F.fills_int_mul F.slot_int_rmul repeat_list F.slot_int_index.lookup
  (call_meets F.slot_int_rmul (typeIs_int s k t) F.entry_int_rmul (F.args_int_rmul_2 _ _) (int___rmul___int_list k t l [b].toArray n)
   ⟨ho,rfl,⟨_,ho,rfl⟩,call_meets F.slot_list_mul ⟨_,ho,rfl⟩ F.entry_list_mul (F.args_list_mul_2 _ _)
    (AutoListH.list___mul___list_int_3 l [b].toArray n k t (by simp[Builtin.List.listFitsIndex];omega) (by rcases hk with rfl | rfl<;>simp) (by rcases hk with rfl | rfl<;>simp[Builtin.List.listTooLong,sizeLine]))
    ⟨ho,?_⟩⟩)
 refine⟨.ref _,_,I.laid (t':=s.toks) (o:=.lst (List.replicate k.toNat a)) (λb u e=>Uz _ e) (Yt _) ?_,rfl,q _ (I.hok.fresh (Yt _))⟩;rcases hk with rfl | rfl
 .exact⟨Dc _,[],0,.nil,M7 _ rfl⟩
 .exact⟨by show 1<=sizeLine;decide,[b],0,.cons rb .nil,M7 _ rfl⟩
inductive Em(xs:ZZ)(H:Hp)(Q:VK):Prop
 | mk(a:Addr)(XQ:List (Key×V))(Vx:xs=[.ref a])(Vz:Rd H a (.dK XQ))(Vp:∀p,H p=none->Q (.ref p) (upd H p (.dK XQ)))
theorem zy:Jm X (.type "dict") (λxs H Q=>Em xs H Q):=by
 intro XX s Z H xs us Q I r h;obtain⟨a,XQ,rfl,e,q⟩:=h;obtain⟨u,rfl,rx⟩:=vals1 r;cases rx;exact Zjh I e λp s' hp I'=>⟨.ref p,_,I',rfl,q p hp⟩
end
def Fd(r:Nat)(H:Hp)(l:Addr):Prop:=∃(a:Addr) (ns:ZC) (b c d:Int),H l=some (.lst [.ref a,.int b,.int c,.int d])/\H a=some (.lst (ns.map V.int))/\1<=ns.length/\ns.length<=64/\0<=b/\0<=d/\d+(r:Int)<=1000000000000
theorem Fd.mono(f:Fd r H l)(h:r'<=r):Fd r' H l:=by
 obtain⟨a,ns,b,c,d,e,e2,h1,h2,h3,h4,h5⟩:=f;exact⟨a,ns,b,c,d,e,e2,h1,h2,h3,h4,by omega⟩
noncomputable def cellOf(H:Hp)(l:Addr):Option V:=match H l with
 | some (.lst (x::_))=>some x
 | _=>none
structure Ye(l:Addr)(r:Nat)(H H':Hp):Prop where
 keep:∀x o,x≠l->H x=some o->H' x=some o
 feed:Fd r H' l
 cell:cellOf H' l=cellOf H l
theorem Dt(h:H l=some (.lst (x::r))):cellOf H l=some x:=by unfold cellOf;rw[h]
theorem zq(h:cellOf H l=some x):∃r,H l=some (.lst (x::r)):=by
 unfold cellOf at h
 split at h
 .rename_i y r e
  cases h;exact⟨r,e⟩
 .cases h
theorem fd_ne{l a:Addr}{ns:ZC}{b c d:Int}{H:Hp}(h1:H l=some (.lst [.ref a,.int b,.int c,.int d]))(h2:H a=some (.lst (ns.map V.int))):a≠l:=λe=>by
 rw[e,h1]at h2
 injection h2 with h2
 injection h2 with h2
 cases ns with
 | nil=>cases h2
 | cons n ns=>injection h2 with h3 _;cases h3
theorem Ye.refl(f:Fd r H l):Ye l r H H:=⟨λ_ _ _ h=>h,f,rfl⟩
theorem Ye.mono(a:Ye l r H H1)(h:r'<=r):Ye l r' H H1:=⟨a.keep,a.feed.mono h,a.cell⟩
theorem Ye.m{l:Addr}{r r':Nat}{H H1:Hp}(a:Ye l r H H1)(h:r'<=r:=by omega):Ye l r' H H1:=a.mono h
theorem Fd.m{r r':Nat}{H:Hp}{l:Addr}(f:Fd r H l)(h:r'<=r:=by omega):Fd r' H l:=f.mono h
theorem Ye.trans{l:Addr}{r r':Nat}{H H1 H2:Hp}(a:Ye l r H H1)(b:Ye l r' H1 H2):Ye l r' H H2:=⟨λx o n h=>b.keep x o n (a.keep x o n h),b.feed,b.cell.trans a.cell⟩
theorem Fd.ne(f:Fd r H l)(h:H p=none):p≠l:=λe=>by
 obtain⟨a,ns,b,c,d,q,_⟩:=f;rw[e,q]at h;cases h
theorem Fd.put{l p:Addr}{r:Nat}{H:Hp}{o:HO}(f:Fd r H l)(h:H p=none):Fd r (upd H p o) l:=by
 obtain⟨a,ns,b,c,d,e,e2,rr⟩:=f;exact⟨a,ns,b,c,d,by rw[Zm (Z0 e h)];exact e,by rw[Zm (Z0 e2 h)];exact e2,rr⟩
theorem Fd.set(f:Fd r H l)(h:H p=some u)(n:∀xs,u≠.lst xs):Fd r (upd H p o) l:=by
 obtain⟨a,ns,b,c,d,e,e2,rr⟩:=f
 have ne:∀{x:Addr} {xs:ZZ},H x=some (.lst xs)->x≠p:=λe z=>by
  rw[z,h]at e;cases e;exact n _ rfl
 exact⟨a,ns,b,c,d,by rw[Zm (ne e)];exact e,by rw[Zm (ne e2)];exact e2,rr⟩
theorem Ye.free(a:Ye l r H H')(h:H' p=none):H p=none:=by
 cases q:H p with
 | none=>rfl
 | some o =>
  by_cases e:p=l
  .obtain⟨_,_,_,_,_,z,_⟩:=a.feed;rw[e,z]at h;cases h
  .rw[a.keep p o e q]at h;cases h
theorem Fd.same{l:Addr}{r:Nat}{H H':Hp}(f:Fd r H l)(s:Zv H H'):Fd r H' l:=by
 obtain⟨a,ns,b,c,d,e,e2,rr⟩:=f;exact⟨a,ns,b,c,d,s _ _ e,s _ _ e2,rr⟩
theorem Ye.same{l:Addr}{r:Nat}{H H1 H2:Hp}(a:Ye l r H H1)(b:Zv H1 H2):Ye l r H H2:=⟨λx o n h=>b _ _ (a.keep x o n h),a.feed.same b,by
 obtain⟨c,ns,x,y,z,e,_⟩:=a.feed;rw[<-a.cell,Dt e,Dt (b _ _ e)]⟩
theorem Ye.lay{l p:Addr}{r:Nat}{H H':Hp}{o:HO}(a:Ye l r H H')(h:H' p=none):Ye l r H (upd H' p o):=a.same (Zv.lay h)
theorem Ye.put{l p:Addr}{r:Nat}{H H':Hp}{o:HO}(a:Ye l r H H')(h:H p=none)(hc:∀q r',H l=some (.lst (.ref q::r'))->p≠q):Ye l r H (upd H' p o):=by
 obtain⟨c,ns,x,y,z,e,e2,rr⟩:=a.feed;have ec:=a.cell;rw[Dt e]at ec;obtain⟨r',eH⟩:=zq ec.symm;have n1:l≠p:=Z0 eH h;have n2:c≠p:=(hc c r' eH).symm;refine⟨λx u q e=>by rw[Zm (Z0 e h)];exact a.keep x u q e,⟨c,ns,x,y,z,by rw[Zm n1];exact e,by rw[Zm n2];exact e2,rr⟩,?_⟩;rw[Dt (by rw[Zm n1];exact e),ec]
theorem Fd.far(f:Fd r H l)(h:H p=none):∀q r',H l=some (.lst (.ref q::r'))->p≠q:=by
 obtain⟨c,ns,x,y,z,e,e2,rr⟩:=f;intro q r' e' z';rw[e]at e';cases e';rw[z',e2]at h;cases h
theorem Fd.cell(f:Fd r H l)(n:p≠l)(g:∀(a:Addr) (ns:ZC) (b c d:Int),H l=some (.lst [.ref a,.int b,.int c,.int d])->H a=some (.lst (ns.map V.int))->p≠a):Fd r (upd H p o) l:=by
 obtain⟨a,ns,b,c,d,e,e2,rr⟩:=f;exact⟨a,ns,b,c,d,by rw[Zm n.symm];exact e,by rw[Zm (g a ns b c d e e2).symm];exact e2,rr⟩
theorem Ye.up{K:W.Frag}{l:Addr}{r r':Nat}{H H':Hp}(a:Ye l r H H')(f:Fd r' H l):Up K H H':=λc xs h=>by
 have ne:∀o,H c=some o->(∀ys,o≠.lst ys)->c≠l:=λo e n q=>by
  obtain⟨_,_,_,_,_,z,_⟩:=f;rw[q,z]at e;cases e;exact n _ rfl
 rcases h with (h | ⟨o,h⟩) | h
 .exact .inl (.inl (a.keep _ _ (ne _ h λ_ z=>nomatch z) h))
 .exact .inl (.inr ⟨o,a.keep _ _ (ne _ h λ_ z=>nomatch z) h⟩)
 .exact .inr h
theorem Ye.upT{K:W.Frag}{l:Addr}{r r':Nat}{H H':Hp}(a:Ye l r H H')(f:Fd r' H l):Ui K H H':=by
 obtain⟨x,ns,y,z,w,e,_⟩:=id f;refine⟨a.up f,λp xs h=>?_,λp k h=>?_,λp o k h=>?_⟩
 .by_cases q:p=l
  .obtain⟨_,_,_,_,_,e',_⟩:=a.feed;exact⟨_,by rw[q];exact e'⟩
  .exact⟨xs,a.keep p _ q h⟩
 .refine a.keep p _ (λq=>?_) h;rw[q,e]at h;cases h
 .refine a.keep p _ (λq=>?_) h;rw[q,e]at h;cases h
end L2
namespace ZipT
open PySem
theorem D8(st:h.IsTupleIter i t k)(e:Heap.ExtBut b h h')(n:i≠b):h'.IsTupleIter i t k:=let ⟨o,ho,r⟩:=st;⟨o,e _ _ n ho,r⟩
theorem tupK(st:h.IsTuple t xs)(e:Heap.ExtBut b h h')(n:t≠b):h'.IsTuple t xs:=let ⟨o,ho,r⟩:=st;⟨o,e _ _ n ho,r⟩
section
variable{prog:Program}{w:World}{A:Around}{E:Ya}{s:Shared}{z TI TO i1 i2 t1 t2:Addr}{k:Nat}{xs ys:ZT}{x y a b:Value}
theorem itemT{Q:Ya}(D:ZipApart z TI TO i1 i2 t1 t2)(hz:IsZip s.heap z TI TO .none)(hI:IsPair s.heap TI (.ref i1) (.ref i2))(hO:IsPair s.heap TO a b)(j1:s.heap.IsTupleIter i1 t1 k)(j2:s.heap.IsTupleIter i2 t2 k)(p1:s.heap.IsTuple t1 xs)(p2:s.heap.IsTuple t2 ys)(hx:xs[k]?=some x)(hy:ys[k]?=some y)
  (q:∀h',IsZip h' z TI TO (rawInt s.heap.objs.size)->IsPair h' TO x y->h'.IsTupleIter i1 t1 (k+1)->h'.IsTupleIter i2 t2 (k+1)->IsPair h' s.heap.objs.size x y->h'.objs.size=s.heap.objs.size+1->(∀c o,c≠z->c≠TO->c≠i1->c≠i2->s.heap.get? c=some o->h'.get? c=some o)->Q (.ref s.heap.objs.size) { s with heap:=h' }) :
  wpAny (model prog w) A (Builtin.«zip.__next__» ⟨[.ref z],[]⟩) (λfin s'=>∃v,fin=.done (.ret v)/\Q v s') E s:=by
 show wpAny _ _ (field (.ref z) 2 >>= _) _ _ _;refine Zn (wpAny_field hz rfl (x:=.bool false) rfl ?_);show wpAny _ _ (field (.ref z) 3 >>= _) _ _ _;refine Zn (wpAny_field hz rfl (x:=.ref TI) rfl (Zn (wpAny_seqItems hI rfl ?_)));show wpAny _ _ (Builtin.SmallTypes.ownedTupleIsFree (.ref z) >>= _) _ _ _;refine Zn ?_;unfold Builtin.SmallTypes.ownedTupleIsFree;refine Zn (wpAny_field hz rfl (x:=.none) rfl (Z4 ?_));simp only[if_true];refine Zn (wpAny_rule (Zn (wpAny_field hz rfl (x:=.ref TO) rfl ?_)));refine Zn (wpAny_setField_rec hz QE λg1 hz1 e1=>?_);replace hz1:IsZip g1 z TI TO .ellipsis:=hz1;refine Zn ?_;simp only[List.zipIdx_cons,List.zipIdx_nil,List.forIn_cons,List.forIn_nil];refine Zn (Zn (wpAny_onRaise ?_));show wpAny _ _ (Builtin.SmallTypes.nextOf (.ref i1) >>= _) _ _ _;refine Zn (EnuT.nextT (D8 j1 e1.extBut D.i1z) (tupK p1 e1.extBut D.l1z) hx λg2 j12 e2=>Z4 ?_);have hO2:IsPair g2 TO a b:=e2.extBut _ _ D.TOi1 (e1.extBut _ _ D.TOz hO);refine Zn (wpAny_seqItems hO2 rfl (Zn (wpAny_updateSeq_pair hO2 λg3 hO3 e3=>?_)));replace hO3:IsPair g3 TO x b:=hO3;refine Zn (wpAny_letGo (Z4 (Zn (Zn (wpAny_onRaise ?_)))));show wpAny _ _ (Builtin.SmallTypes.nextOf (.ref i2) >>= _) _ _ _;refine Zn (EnuT.nextT (D8 (D8 (D8 j2 e1.extBut D.i2z) e2.extBut D.i12.symm) e3.extBut D.TOi2.symm) (tupK (tupK (tupK p2 e1.extBut D.l2z) e2.extBut D.l2i1) e3.extBut D.l2TO) hy λg4 j24 e4=>Z4 ?_);have hO4:IsPair g4 TO x b:=e4.extBut _ _ D.TOi2 hO3;refine Zn (wpAny_seqItems hO4 rfl (Zn (wpAny_updateSeq_pair hO4 λg5 hO5 e5=>?_)));replace hO5:IsPair g5 TO x y:=hO5;refine Zn (wpAny_letGo (Z4 (Z4 (Zn (wpAny_seqItems hO5 rfl (Zn (wpAny_newTuple ?_)))))));have sz:g5.objs.size=s.heap.objs.size:=by rw[e5.1,e4.1,e3.1,e2.1,e1.1]
 have hz5:IsZip g5 z TI TO .ellipsis:=e5.extBut _ _ D.TOz.symm (e4.extBut _ _ D.i2z.symm (e3.extBut _ _ D.TOz.symm (e2.extBut _ _ D.i1z.symm hz1)));have kp:∀c o,c≠z->c≠TO->c≠i1->c≠i2->s.heap.get? c=some o->g5.get? c=some o:=λc o c1 c2 c3 c4 e=>e5.extBut _ _ c2 (e4.extBut _ _ c4 (e3.extBut _ _ c2 (e2.extBut _ _ c3 (e1.extBut _ _ c1 e))));have j15:g5.IsTupleIter i1 t1 (k+1):=D8 (D8 (D8 j12 e3.extBut D.TOi1.symm) e4.extBut D.i12) e5.extBut D.TOi1.symm;have j25:g5.IsTupleIter i2 t2 (k+1):=D8 j24 e5.extBut D.TOi2.symm;have zl:z<g5.objs.size:=Ut hz5;show wpAny _ _ (Builtin.SmallTypes.ownedTupleHandOut (.ref z) (.ref g5.objs.size) >>= _) _ _ _;refine Zn ?_;unfold Builtin.SmallTypes.ownedTupleHandOut;have hz6:IsZip (g5.push { cls:=.type "tuple",data:=.seq #[x,y] }) z TI TO .ellipsis:=Uz _ hz5;refine Zn (wpAny_setField_rec hz6 QE λg7 hz7 e7=>?_);replace hz7:IsZip g7 z TI TO (rawInt g5.objs.size):=hz7;refine wpAny_setField_rec hz7 QE λg8 hz8 e8=>?_;replace hz8:IsZip g8 z TI TO (rawInt g5.objs.size):=hz8;have up:∀c o,c≠z->g5.get? c=some o->g8.get? c=some o:=λc o c1 e=>e8.extBut _ _ c1 (e7.extBut _ _ c1 (Uz _ e));have hT8:IsPair g8 g5.objs.size x y:=e8.extBut _ _ (Nat.ne_of_gt zl) (e7.extBut _ _ (Nat.ne_of_gt zl) (M7 _ rfl));have sz8:g8.objs.size=g5.objs.size+1:=by rw[e8.1,e7.1,Heap.size_push]
 rw[sz]at hz8 hT8 sz8;refine Z4 ⟨_,rfl,?_⟩;show Q (.ref g5.objs.size) _;rw[sz];exact q g8 hz8 (up _ _ D.TOz hO5) (let ⟨o,ho,r⟩:=j15;⟨o,up _ _ D.i1z ho,r⟩) (let ⟨o,ho,r⟩:=j25;⟨o,up _ _ D.i2z ho,r⟩) hT8 sz8 λc o c1 c2 c3 c4 e=>up c o c1 (kp c o c1 c2 c3 c4 e)
theorem endT(hh:A.handled=none)(D:ZipApart z TI TO i1 i2 t1 t2)(hz:IsZip s.heap z TI TO .none)(hI:IsPair s.heap TI (.ref i1) (.ref i2))(hO:IsPair s.heap TO a b)(j1:s.heap.IsTupleIter i1 t1 k)(j2:s.heap.IsTupleIter i2 t2 k)(p1:s.heap.IsTuple t1 xs)(p2:s.heap.IsTuple t2 ys)(vm:xs[k]?=none\/ys[k]?=none)
  (q:∀h' e,(∀c o,c≠z->c≠TO->c≠i1->c≠i2->s.heap.get? c=some o->h'.get? c=some o)->(∃o,h'.get? e=some o/\o.cls=.type "StopIteration")->E (.ref e) { s with heap:=h' }) :
  wpAny (model prog w) A (Builtin.«zip.__next__» ⟨[.ref z],[]⟩) Q E s:=by
 show wpAny _ _ (field (.ref z) 2 >>= _) _ _ _;refine Zn (wpAny_field hz rfl (x:=.bool false) rfl ?_);show wpAny _ _ (field (.ref z) 3 >>= _) _ _ _;refine Zn (wpAny_field hz rfl (x:=.ref TI) rfl (Zn (wpAny_seqItems hI rfl ?_)));show wpAny _ _ (Builtin.SmallTypes.ownedTupleIsFree (.ref z) >>= _) _ _ _;refine Zn ?_;unfold Builtin.SmallTypes.ownedTupleIsFree;refine Zn (wpAny_field hz rfl (x:=.none) rfl (Z4 ?_));simp only[if_true];refine Zn (wpAny_rule (Zn (wpAny_field hz rfl (x:=.ref TO) rfl ?_)));refine Zn (wpAny_setField_rec hz QE λg1 hz1 e1=>?_);replace hz1:IsZip g1 z TI TO .ellipsis:=hz1;refine Zn ?_;simp only[List.zipIdx_cons,List.zipIdx_nil,List.forIn_cons,List.forIn_nil];refine Zn (Zn (wpAny_onRaise ?_));show wpAny _ _ (Builtin.SmallTypes.nextOf (.ref i1) >>= _) _ _ _;cases hx:xs[k]? with
 | none =>
  refine Zn (EnuT.endT hh (D8 j1 e1.extBut D.i1z) (tupK p1 e1.extBut D.l1z) hx λg2 e e2 he=>?_);obtain⟨oe,hoe,hce⟩:=he;have hz2:IsZip g2 z TI TO .ellipsis:=e2 _ _ D.i1z.symm hz1;have ez:e≠z:=λv=>by subst v;rw[hz2]at hoe;cases hoe;simp at hce
  exact wpAny_setField_rec hz2 QE λg3 _ e3=>q g3 e (λc o c1 _ c3 _ v=>e3.extBut _ _ c1 (e2 _ _ c3 (e1.extBut _ _ c1 v))) ⟨oe,e3.extBut _ _ ez hoe,hce⟩
 | some x =>
  have hy:ys[k]?=none:=by rcases vm with h | h;rw[hx]at h;cases h;exact h
  refine Zn (EnuT.nextT (D8 j1 e1.extBut D.i1z) (tupK p1 e1.extBut D.l1z) hx λg2 j12 e2=>Z4 ?_);have hO2:IsPair g2 TO a b:=e2.extBut _ _ D.TOi1 (e1.extBut _ _ D.TOz hO);refine Zn (wpAny_seqItems hO2 rfl (Zn (wpAny_updateSeq_pair hO2 λg3 hO3 e3=>?_)));refine Zn (wpAny_letGo (Z4 (Zn (Zn (wpAny_onRaise ?_)))));show wpAny _ _ (Builtin.SmallTypes.nextOf (.ref i2) >>= _) _ _ _;refine Zn (EnuT.endT hh (D8 (D8 (D8 j2 e1.extBut D.i2z) e2.extBut D.i12.symm) e3.extBut D.TOi2.symm) (tupK (tupK (tupK p2 e1.extBut D.l2z) e2.extBut D.l2i1) e3.extBut D.l2TO) hy λg4 e e4 he=>?_);obtain⟨oe,hoe,hce⟩:=he;have hz4:IsZip g4 z TI TO .ellipsis:=e4 _ _ D.i2z.symm (e3.extBut _ _ D.TOz.symm (e2.extBut _ _ D.i1z.symm hz1));have ez:e≠z:=λv=>by subst v;rw[hz4]at hoe;cases hoe;simp at hce
  exact wpAny_setField_rec hz4 QE λg5 _ e5=>q g5 e (λc o c1 c2 c3 c4 v=>e5.extBut _ _ c1 (e4 _ _ c4 (e3.extBut _ _ c2 (e2.extBut _ _ c3 (e1.extBut _ _ c1 v))))) ⟨oe,e5.extBut _ _ ez hoe,hce⟩
theorem Zqv(D:ZipApart z TI TO i1 i2 t1 t2)(hz:IsZip s.heap z TI TO .none)(hI:IsPair s.heap TI (.ref i1) (.ref i2))(hO:IsPair s.heap TO a b)(j1:s.heap.IsTupleIter i1 t1 k)(j2:s.heap.IsTupleIter i2 t2 k)(p1:s.heap.IsTuple t1 xs)(p2:s.heap.IsTuple t2 ys)(hx:xs[k]?=some x)(hy:ys[k]?=some y)
  (q:∀h',IsZip h' z TI TO (rawInt s.heap.objs.size)->IsPair h' TO x y->h'.IsTupleIter i1 t1 (k+1)->h'.IsTupleIter i2 t2 (k+1)->IsPair h' s.heap.objs.size x y->h'.objs.size=s.heap.objs.size+1->(∀c o,c≠z->c≠TO->c≠i1->c≠i2->s.heap.get? c=some o->h'.get? c=some o)->Q (some (.ref s.heap.objs.size)) { s with heap:=h' }) :
  wpAny (model prog w) A (pyNext (.ref z)) Q E s:=by
 have T:s.TypeIs (.ref z) "zip" := ⟨_,hz,rfl⟩;unfold pyNext;exact Zn (wpAny_attempt (wpAny_callSpecial?_slot (name:=Str.ofString "__next__") T F.slot_zip_next (wpAny_call_entry F.slot_zip_next T F.entry_zip_next (itemT D hz hI hO j1 j2 p1 p2 hx hy λh' a1 a2 a3 a4 a5 a6 a7=>Z4 (q h' a1 a2 a3 a4 a5 a6 a7)) (F.args_zip_next_1 _))))
theorem Zyn(hh:A.handled=none)(D:ZipApart z TI TO i1 i2 t1 t2)(hz:IsZip s.heap z TI TO .none)(hI:IsPair s.heap TI (.ref i1) (.ref i2))(hO:IsPair s.heap TO a b)(j1:s.heap.IsTupleIter i1 t1 k)(j2:s.heap.IsTupleIter i2 t2 k)(p1:s.heap.IsTuple t1 xs)(p2:s.heap.IsTuple t2 ys)(vm:xs[k]?=none\/ys[k]?=none)
  (q:∀h',(∀c o,c≠z->c≠TO->c≠i1->c≠i2->s.heap.get? c=some o->h'.get? c=some o)->Q none { s with heap:=h' }):wpAny (model prog w) A (pyNext (.ref z)) Q E s:=by
 have T:s.TypeIs (.ref z) "zip" := ⟨_,hz,rfl⟩;unfold pyNext;refine Zn (wpAny_attempt (wpAny_callSpecial?_slot (name:=Str.ofString "__next__") T F.slot_zip_next (wpAny_call_entry F.slot_zip_next T F.entry_zip_next (endT hh D hz hI hO j1 j2 p1 p2 vm λh' e hk he=>?_) (F.args_zip_next_1 _))));obtain⟨o,ho,hc⟩:=he;exact Zn (wpAny_isInstance (T:="StopIteration") (b:=true) ⟨o,ho,hc⟩ isSubtype_stop (Z4 (q _ hk)))
end
noncomputable abbrev H1(h:Heap)(l1:Addr):Heap:=h.push { cls:=.type "tuple_iterator",data:=.fields #[.ref l1,.int 0 0] }
noncomputable abbrev H2(h:Heap)(l1 l2:Addr):Heap:=(H1 h l1).push { cls:=.type "tuple_iterator",data:=.fields #[.ref l2,.int 0 0] }
noncomputable abbrev H3(h:Heap)(l1 l2:Addr):Heap:=(H2 h l1 l2).push { cls:=.type "tuple",data:=.seq #[.ref h.objs.size,.ref (H1 h l1).objs.size] }
noncomputable abbrev H4(h:Heap)(l1 l2:Addr):Heap:=(H3 h l1 l2).push { cls:=.type "tuple",data:=.seq #[.none,.none] }
noncomputable abbrev H5(h:Heap)(l1 l2:Addr):Heap:=(H4 h l1 l2).push { cls:=.type "zip",data:=.fields #[.none,.bool false,.bool false,.ref (H2 h l1 l2).objs.size,.ref (H3 h l1 l2).objs.size] }
theorem meets(l1 l2:Addr)(xs ys:ZT) :
  Meets (Builtin.«zip.__new__» ⟨[.type "zip",.ref l1,.ref l2],[]⟩) (λ_ R s=>s.heap.IsTuple l1 xs/\s.heap.IsTuple l2 ys /\
   R (.ok (.ret (.ref (H4 s.heap l1 l2).objs.size))) { s with heap:=H5 s.heap l1 l2 }) :=
 .of_wp λprog w A R s h=>by
  obtain⟨hp,g,d,tk,os⟩:=s;obtain⟨xh,ur,h⟩:=h;have hsub:=sub_zip;have hL1:Heap.IsTuple (Shared.heap ⟨hp,g,d,tk,os⟩) l1 xs:=xh;have hL2:Heap.IsTuple (Shared.heap ⟨hp.push { cls:=.type "tuple_iterator",data:=.fields #[.ref l1,.int 0 0] },g,d,tk,os⟩) l2 ys:=let ⟨o,ho,r⟩:=ur;⟨o,Uz _ ho,r⟩
  wp_walk using wpAny_pyIter_tuple hL1,wpAny_pyIter_tuple hL2
  exact⟨_,rfl,h⟩
theorem call2(xh:s.heap.IsTuple l1 xs)(ur:s.heap.IsTuple l2 ys)
  (h:∀h',IsZip h' (s.heap.objs.size+4) (s.heap.objs.size+2) (s.heap.objs.size+3) .none->IsPair h' (s.heap.objs.size+2) (.ref s.heap.objs.size) (.ref (s.heap.objs.size+1)) ->
   IsPair h' (s.heap.objs.size+3) .none .none->h'.IsTupleIter s.heap.objs.size l1 0->h'.IsTupleIter (s.heap.objs.size+1) l2 0->h'.objs.size=s.heap.objs.size+5 ->
   (∀c o,s.heap.get? c=some o->h'.get? c=some o)->Q (.ref (s.heap.objs.size+4)) { s with heap:=h' }) :
  wpAny (model prog w) A (call (.type "zip") [.ref l1,.ref l2]) Q E s:=by
 refine callType_new F.called_zip QI (F.typeCall_zip_2 _ _) (F.newCall_zip_2 _ _) (λobj=>F.args_object_init_3 obj _ _) F.entry_zip_new (meets l1 l2 xs ys) ⟨xh,ur,?_⟩;have z1:(H1 s.heap l1).objs.size=s.heap.objs.size+1:=Heap.size_push ..;have z2:(H2 s.heap l1 l2).objs.size=s.heap.objs.size+2:=by rw[Heap.size_push,z1]
 have z3:(H3 s.heap l1 l2).objs.size=s.heap.objs.size+3:=by rw[Heap.size_push,z2]
 have z4:(H4 s.heap l1 l2).objs.size=s.heap.objs.size+4:=by rw[Heap.size_push,z3]
 have z5:(H5 s.heap l1 l2).objs.size=s.heap.objs.size+5:=by rw[Heap.size_push,z4]
 have g5:(H5 s.heap l1 l2).get? (H4 s.heap l1 l2).objs.size=some _:=M7 _ rfl;have g4:(H5 s.heap l1 l2).get? (H3 s.heap l1 l2).objs.size=some _:=Uz _ (M7 _ rfl);have g3:(H5 s.heap l1 l2).get? (H2 s.heap l1 l2).objs.size=some _:=Uz _ (Uz _ (M7 _ rfl));have g2:(H5 s.heap l1 l2).get? (H1 s.heap l1).objs.size=some _:=Uz _ (Uz _ (Uz _ (M7 _ rfl)));have g1:(H5 s.heap l1 l2).get? s.heap.objs.size=some _:=Uz _ (Uz _ (Uz _ (Uz _ (M7 _ rfl))));show _/\_;rw[z2,z3,z4]at g5;rw[z1,z2]at g3;rw[z3]at g4;rw[z1]at g2;rw[z4]
 exact⟨⟨_,g5,rfl⟩,h _ g5 g3 g4 ⟨_,g1,rfl,rfl⟩ ⟨_,g2,rfl,rfl⟩ z5 λc o x =>
  Uz _ (Uz _ (Uz _ (Uz _ (Uz _ x))))⟩
end ZipT
namespace L2
open PySem PySem.Spec PyProof.Rows
noncomputable def a8(K:W.Frag)(l1 l2:Addr):It :=
  ⟨λi H=>∃xs ys x y,Zp K H l1 xs/\Zp K H l2 ys/\xs[i]?=some x/\ys[i]?=some y,
   λi H v H'=>∃p x y,v=.ref p/\H p=none/\H'=upd H p (.tup [x,y])/\(∀xs,Zp K H l1 xs->xs[i]?=some x)/\∀ys,Zp K H l2 ys->ys[i]?=some y,
   λi H=>∃xs ys,Zp K H l1 xs/\Zp K H l2 ys/\(xs.length<=i\/ys.length<=i)⟩
theorem lj{P:Program}{w:World}{K:W.Frag}{es:ZD}{k:Nat}{pos:Pos}(z TI TO i1 i2 l1 l2:Addr)(D:ZipApart z TI TO i1 i2 l1 l2) :
  Turn P w K (.Tuple es k pos) (a8 K l1 l2) [z,TI,TO,i1,i2] z (λi h=>IsZip h z TI TO .none/\IsPair h TI (.ref i1) (.ref i2)/\(∃a b,IsPair h TO a b)/\h.IsTupleIter i1 l1 i/\h.IsTupleIter i2 l2 i) where
 mem:=by simp
 obj:=λi h st b hb=>by
  obtain⟨hz,hTI,⟨a,c,hTO⟩,⟨o1,e1,_,d1⟩,⟨o2,e2,_,d2⟩⟩:=st;simp only[U8,V9,or_false]at hb;rcases hb with rfl | rfl | rfl | rfl | rfl
  .exact⟨_,hz,λv q=>nomatch q⟩
  .exact⟨_,hTI,λv q=>nomatch q⟩
  .exact⟨_,hTO,λv q=>nomatch q⟩
  .exact⟨_,e1,λv q=>by rw[d1]at q;cases q⟩
  .exact⟨_,e2,λv q=>by rw[d2]at q;cases q⟩
 keep:=λi h h' st hk=>by
  obtain⟨hz,hTI,⟨a,b,hTO⟩,h1,h2⟩:=st;exact⟨hk z QE _ hz,hk TI QE _ hTI,⟨a,b,hk TO QE _ hTO⟩,(let ⟨o,ho,r⟩:=h1;⟨o,hk i1 QE o ho,r⟩),(let ⟨o,ho,r⟩:=h2;⟨o,hk i2 QE o ho,r⟩)⟩
 item:=by
  intro X hP hw hK hc i XX s j H E I hf st hg;subst hP hw hK;obtain⟨xs,ys,x,y,q1,q2,g1,g2⟩:=hg;obtain⟨hz,hTI,⟨a,b,hTO⟩,h1,h2⟩:=st;obtain⟨mr,v1,pl1,z1⟩:=I.tuple q1;obtain⟨is2,v2,pl2,z2⟩:=I.tuple q2;obtain⟨u1,e1,r1⟩:=v1.get g1;obtain⟨u2,e2,r2⟩:=v2.get g2;refine ZipT.Zqv D hz hTI hTO h1 h2 (show s.heap.IsTuple l1 mr.toArray from pl1) (show s.heap.IsTuple l2 is2.toArray from pl2) (x:=u1) (y:=u2) (by simpa using e1) (by simpa using e2) λh' a1 a2 a3 a4 a5 a6 hk=>?_;refine⟨_,rfl,wpAny_letOwnedTupleGo_zip (s:={ s with heap:=h' }) a1 λh'' hz' hs'=>?_⟩;have lt:∀{c o},s.heap.get? c=some o->s.heap.objs.size≠c:=λe=>Nat.ne_of_gt (Ut e);have nz:s.heap.objs.size≠z:=lt hz
  have kk:∀c u,c∉[z,TI,TO,i1,i2]->s.heap.get? c=some u->h''.get? c=some u:=λc u m e=>by
   simp only[U8,V9,or_false,not_or]at m;exact hs'.extBut _ _ m.1 (hk c u m.1 m.2.2.1 m.2.2.2.1 m.2.2.2.2 e)
  have fresh:=I.hok.fresh (Yt s.heap.objs.size);have J:Inv X XX j (upd H s.heap.objs.size (.tup [x,y])) { s with heap:=h'',toks:=s.toks }:=I.turnLay kk hf (Yt _) ⟨by show 2<=sizeLine;decide,[u1,u2],.cons r1 (.cons r2 .nil),⟨_,hs'.extBut _ _ nz a5,rfl,⟨_,rfl⟩,rfl⟩⟩;refine⟨.ref s.heap.objs.size,_,J,rfl,⟨_,x,y,rfl,fresh,rfl,λws hw=>by rw[I.tuple_inj hw q1];exact g1,λws hw=>by rw[I.tuple_inj hw q2];exact g2⟩,⟨hz',hs'.extBut _ _ D.TIz (hk _ _ D.TIz D.TITO D.TIi1 D.TIi2 hTI),⟨_,_,hs'.extBut _ _ D.TOz a2⟩,ZipT.D8 a3 hs'.extBut D.i1z,ZipT.D8 a4 hs'.extBut D.i2z⟩,λc hc=>?_⟩
  have nc:c≠s.heap.objs.size:=λq=>by
   subst q;simp only[U8,V9,or_false]at hc;rcases hc with q | q | q | q | q
   .exact lt hz q
   .exact lt hTI q
   .exact lt hTO q
   .obtain⟨_,e,_⟩:=h1;exact lt e q
   .obtain⟨_,e,_⟩:=h2;exact lt e q
  rw[Zm nc];exact(hf c hc).1
 done:=by
  intro X hP hw hK hc i XX s j H E I hf st hg;subst hP hw hK;obtain⟨xs,ys,q1,q2,g⟩:=hg;obtain⟨hz,hTI,⟨a,b,hTO⟩,h1,h2⟩:=st;obtain⟨mr,v1,pl1,z1⟩:=I.tuple q1;obtain⟨is2,v2,pl2,z2⟩:=I.tuple q2;have xh:=v1.length;have ur:=v2.length;refine ZipT.Zyn (I.ok.hd hc) D hz hTI hTO h1 h2 (show s.heap.IsTuple l1 mr.toArray from pl1) (show s.heap.IsTuple l2 is2.toArray from pl2) (by rcases g with g | g;exact .inl (by simp;omega);exact .inr (by simp;omega)) λh' hk=>⟨rfl,I.turnL (t':=s.toks) (fp:=[z,TI,TO,i1,i2]) (λc u m e=>?_) hf⟩;simp only[U8,V9,or_false,not_or]at m;exact hk c u m.1 m.2.2.1 m.2.2.2.1 m.2.2.2.2 e
 self:=λA i s Q E st h=>wpAny_pyIter_zip st.1 h
inductive Zye(K:W.Frag)(R:(It->Hp->Prop))(vs:ZZ)(H1:Hp):Prop
 | mk(p q)(Vx:vs=[.ref p,.ref q])(Vz:(∃xs,Zp K H1 p xs))(Vp:(∃ys,Zp K H1 q ys))(Jn:R (a8 K p q) H1)
def iZipT(K:W.Frag)(t:TA):TI:=λj H R=>t j H λvs H1=>Zye K R vs H1
section
variable{X:Cx}{es:ZD}{k:Nat}{p2 pos Du:Pos}{a b:Expr}{t:TA}
theorem fm(hgz:Gl X "zip")(hmz:X.mg "zip"=none)(ha:PA X [a,b] t)
  (he2:starEach [a,b] X.env=(false,eval a X.env)::starEach [b] X.env:=by rfl) (Tb:(backTo Du (starEach [b] X.env)).any (·.1)=false:=by rfl) :
  PI X (.Tuple es k pos) (.Call (.Name "zip" p2) [a,b] [] Du) (iZipT X.K t):=by
 intro XX s j H R I h;refine wpAny_Call_Name_kw (Rm I hgz hmz (by decide +kernel:bootBuiltins "zip"=some (.type "zip")) ?_ QI QI);refine callWith_type1 (Y7 (ha Du XX s j H _ I h) λus s1 ⟨vs,H1,I1,r1,q1⟩=>?_) he2 Tb;obtain⟨l1,l2,rfl,⟨xs,hx⟩,⟨ys,hy⟩,q⟩:=q1;obtain⟨u1,u2,rfl,e1,e2⟩:=vals2 r1;cases e1;cases e2;obtain⟨mr,v1,pl1,z1⟩:=I1.tuple hx;obtain⟨is2,v2,pl2,z2⟩:=I1.tuple hy;have n1:l1<s1.heap.objs.size:=by obtain⟨_,e,_⟩:=(show s1.heap.IsTuple l1 mr.toArray from pl1);exact Ut e
 have n2:l2<s1.heap.objs.size:=by obtain⟨_,e,_⟩:=(show s1.heap.IsTuple l2 is2.toArray from pl2);exact Ut e
 refine ZipT.call2 (show s1.heap.IsTuple l1 mr.toArray from pl1) (show s1.heap.IsTuple l2 is2.toArray from pl2) λh2 b1 b2 b3 b4 b5 b6 k2=>?_;refine wpAny_pyIter_zip (s:={ s1 with heap:=h2 }) b1 ?_;have J:Inv X XX j H1 { s1 with heap:=h2,toks:=s1.toks }:=I1.kept k2;refine⟨_,[s1.heap.objs.size+4,s1.heap.objs.size+2,s1.heap.objs.size+3,s1.heap.objs.size,s1.heap.objs.size+1],_,_,H1,rfl,J,lj _ _ _ _ _ l1 l2 (zipApart_new n1 n2),⟨b1,b2,⟨_,_,b3⟩,b4,b5⟩,λc hc=>?_,q⟩
 have ge:s1.heap.objs.size<=c:=by
  simp only[U8,V9,or_false]at hc;rcases hc with q | q | q | q | q<;>rw[q]<;>first | exact Yt _ | exact Nat.le_add_right _ _
 exact I1.fpOk ge (I1.hok.fresh ge)
end
theorem ak{K:PySem.W.Frag}{l1 l2 D:Addr}{xs ys:ZZ}{g:TG}{tt:TT}{te:TE}{fin:Hp->Prop}{σ0:St}{H0:Hp}(Pv:Nat->ZZ->St->Hp->Prop)(h0:Pv 0 [] σ0 H0)
  (hq:∀i zs j H,i<=min xs.length ys.length->Pv i zs j H->Zp K H l1 xs/\Zp K H l2 ys/\H D=some (.lst zs))
  (hs:∀i x y p zs j H,xs[i]?=some x->ys[i]?=some y->Pv i zs j H->H p=none->g (.ref p) j (upd H p (.tup [x,y])) λσ2 H2=>tt σ2 H2 λok H3=>if ok=true then te σ2 H3 λy H4=>H4 D=some (.lst zs)/\zs.length<sizeLine/\Pv (i+1) (zs++[y]) σ2 (upd H4 D (.lst (zs++[y]))) else Pv (i+1) zs σ2 H3)
  (hd:∀zs j H,Pv (min xs.length ys.length) zs j H->fin H):∃W:Nat->Nat->ZZ->St->Hp->Prop,(∃m,W 0 m [] σ0 H0)/\Nn (a8 K l1 l2) g tt te D W fin:=by
 refine⟨λi m zs j H=>m=min xs.length ys.length-i/\i<=min xs.length ys.length/\Pv i zs j H,⟨min xs.length ys.length,by simp,Dc _,h0⟩,?_⟩;rintro i m zs j H ⟨rfl,hi,p⟩;obtain⟨q1,q2,hD⟩:=hq i zs j H hi p;refine⟨hD,?_⟩;by_cases G9:i<min xs.length ys.length
 .have c1:i<xs.length:=QU
  have c2:i<ys.length:=QU
  refine .inr ⟨⟨xs,ys,xs[i],ys[i],q1,q2,by simp[c1],by simp[c2]⟩,Pv (i+1),λys' σ' H' p'=>⟨min xs.length ys.length-(i+1),by omega,rfl,G9,p'⟩,λv H' y=>?_⟩;obtain⟨a,x,y',rfl,hn,rfl,y1,y2⟩:=y;exact hs i x y' a zs j H (y1 xs q1) (y2 ys q2) p hn
 .have e:i=min xs.length ys.length:=QU
  subst e;exact .inl ⟨⟨xs,ys,q1,q2,by omega⟩,hd zs j H p⟩
section
variable{X:Cx}
inductive sy(K:W.Frag)(A:Around)(x:V)(y:V)(H:Hp)(Q:VK):Prop
 | mk(a b xs)(Vx:x=.ref a)(Vz:y=.ref b)(Vp:Zp K H a xs)(Jn:Zp K H b [])(Mf:A.units<cLine)(Co:Q (.bl xs.isEmpty) H)
def Zvl(K:W.Frag)(A:Around):R2:=λx y H Q=>sy K A x y H Q
theorem E6:M4 X (compareOp .Eq) (Zvl X.K X.A):=by
 intro XX s Z H x y v u Q I rx ry h;obtain⟨a,b,xs,rfl,rfl,ha,hb,hu,q⟩:=h;cases rx;cases ry;obtain⟨i1,r1,p1,z1⟩:=I.tuple ha;obtain⟨i2,r2,p2,z2⟩:=I.tuple hb;have e2:i2=[]:=by cases r2;rfl
 subst e2;have:=SeqAt.RcAt.tuples (A:=X.A) (e:=λ_=>true) (show s.heap.IsTuple a i1.toArray from p1) (show s.heap.IsTuple b #[] from p2) hu (λj h1 h2=>absurd h2 QE)
 have e:((List.range (min i1.toArray.size (#[]:ZT).size)).all (λ_=>true)&&i1.toArray.size==(#[]:ZT).size)=xs.isEmpty:=by
  have hl:=r1.length;cases xs with
  | nil =>
   have e1:i1=[]:=by cases r1;rfl
   subst e1;rfl
  | cons x xs =>
   rw[Mw, <-hl];simp
 rw[e]at this;exact this X.prog X.w X.xe _ ⟨.bl _,H,I,rfl,q⟩
end
noncomputable def Zj5(K:W.Frag)(a:Addr)(xs:ZZ):It :=
  ⟨λi H=>i<xs.length/\Zu K H a xs,
   λi H v H'=>∃p x,v=.ref p/\H p=none/\H'=upd H p (.tup [.int i,x])/\xs[i]?=some x,
   λi H=>xs.length<=i/\Zu K H a xs⟩
theorem qq{P:Program}{w:World}{K:W.Frag}{es:ZD}{k:Nat}{pos:Pos}(e it a:Addr)(xs:ZZ)(hei:e≠it)(hae:a≠e)(hai:a≠it) :
  Turn P w K (.Tuple es k pos) (Zj5 K a xs) [e,it] e (λi h=>i<=xs.length/\(∃old,IsEnum h e it ((i:Nat):Int) old)/\h.IsListIter it a i) where
 mem:=by simp
 obj:=λi h st b hb=>by
  obtain⟨_,⟨old,he⟩,⟨o,eo,_,d⟩⟩:=st;simp only[U8,V9,or_false]at hb;rcases hb with rfl | rfl
  .exact⟨_,he,λv q=>nomatch q⟩
  .exact⟨_,eo,λv q=>by rw[d]at q;cases q⟩
 keep:=λi h h' st hk=>by
  obtain⟨hi,⟨old,he⟩,ht⟩:=st;exact⟨hi,⟨old,hk e QE _ he⟩,ht.at λo eo=>hk it QE o eo⟩
 item:=by
  intro X hP hw hK hc i XX s j H E I hf st hg;subst hP hw hK;obtain⟨G9,hq⟩:=hg;obtain⟨hi,⟨old,he⟩,ht⟩:=st;obtain⟨XJ,rv,p,_⟩:=I.list hq;have hx:xs[i]?=some xs[i]:=Bh G9;obtain⟨u,hu,ru⟩:=rv.get hx;have hsz:XJ.toArray.size=xs.length:=by rw[Mw];exact rv.length.symm
  refine wpAny_pyNext_enum_itemD (Draws.list (A:=X.A.in1) (I.ok.hd hc) it a hai XJ.toArray) he ⟨ht,p.isList⟩ QU hei (by simp only[U8,V9,or_false,not_or];exact⟨hei,λq=>hae q.symm⟩) λy h' tk py ho Iz ht' hz' hk=>?_
  have ey:y=u:=by
   have z:XJ.toArray[i]?=some u:=by simpa using hu
   exact Fk (py.symm.trans z)
  subst ey;refine⟨_,rfl,wpAny_letOwnedTupleGo_enum (s:={ s with heap:=h',toks:=tk+1 }) ho λh'' he'' vj=>?_⟩;have lt:∀{c o},s.heap.get? c=some o->s.heap.objs.size≠c:=λq=>Nat.ne_of_gt (Ut q);have ne:s.heap.objs.size≠e:=lt he
  have kk:∀c o,c∉[e,it]->s.heap.get? c=some o->h''.get? c=some o:=λc o m q=>by
   simp only[U8,V9,or_false,not_or]at m;exact vj.extBut _ _ m.1 (hk c o m.1 m.2 q)
  have J:Inv X XX j (upd H s.heap.objs.size (.tup [.int i,xs[i]])) { s with heap:=h'',toks:=tk+1 }:=I.turnLay kk hf (Yt _) ⟨by show 2<=sizeLine;decide,[.int i tk,y],.cons ⟨tk,rfl⟩ (.cons ru .nil),⟨_,vj.extBut _ _ ne ht',rfl,⟨_,rfl⟩,rfl⟩⟩;refine⟨.ref s.heap.objs.size,_,J,rfl,⟨_,_,rfl,I.hok.fresh (Yt _),rfl,hx⟩,⟨by omega,⟨_,by have:=he'';simpa using this⟩,Iz.1.extBut vj.extBut (λq=>hei q.symm)⟩,λc hc=>?_⟩
  have nc:c≠s.heap.objs.size:=λq=>by
   subst q;simp only[U8,V9,or_false]at hc;rcases hc with q | q
   .exact lt he q
   .obtain⟨_,eo,_⟩:=ht;exact lt eo q
  rw[Zm nc];exact(hf c hc).1
 done:=by
  intro X hP hw hK hc i XX s j H E I hf st hg;subst hP hw hK;obtain⟨hge,hq⟩:=hg;obtain⟨hi,⟨old,he⟩,ht⟩:=st;obtain⟨XJ,rv,p,_⟩:=I.list hq;have hsz:XJ.toArray.size=xs.length:=by rw[Mw];exact rv.length.symm
  have ei:i=XJ.toArray.size:=QU
  rw[ei]at ht;refine wpAny_pyNext_enum_endD (Draws.list (A:=X.A.in1) (I.ok.hd hc) it a hai XJ.toArray) he ⟨ht,p.isList⟩ λh' eb=>⟨rfl,I.turnL (t':=s.toks) (fp:=[e,it]) (λc u m q=>?_) hf⟩;simp only[U8,V9,or_false,not_or]at m;exact eb c u m.2 q
 self:=λA i s Q E st h=>by
  obtain⟨_,⟨old,he⟩,_⟩:=st;exact wpAny_pyIter_enum he h
inductive Zq0(K:W.Frag)(R:(It->Hp->Prop))(vs:ZZ)(H1:Hp):Prop
 | mk(p xs)(Vx:vs=[.ref p])(Vz:Zu K H1 p xs)(Vp:R (Zj5 K p xs) H1)
def iEnumL(K:W.Frag)(t:TA):TI:=λj H R=>t j H λvs H1=>Zq0 K R vs H1
section
variable{X:Cx}{es:ZD}{k:Nat}{p2 pos Du:Pos}{a:Expr}{t:TA}
theorem Zxn(hgz:Gl X "enumerate")(hmz:X.mg "enumerate"=none)(ha:PA X [a] t)
  (he2:starEach [a] X.env=(false,eval a X.env)::starEach [] X.env:=by rfl) (Tb:(backTo Du (starEach [] X.env)).any (·.1)=false:=by rfl) :
  PI X (.Tuple es k pos) (.Call (.Name "enumerate" p2) [a] [] Du) (iEnumL X.K t):=by
 intro XX s j H R I h;refine wpAny_Call_Name_kw (Rm I hgz hmz (by decide +kernel:bootBuiltins "enumerate"=some (.type "enumerate")) ?_ QI QI);refine callWith_type1 (Y7 (ha Du XX s j H _ I h) λus s1 ⟨vs,H1,I1,r1,q1⟩=>?_) he2 Tb;obtain⟨l,xs,rfl,hx,q⟩:=q1;obtain⟨u1,rfl,e1⟩:=vals1 r1;cases e1;obtain⟨XJ,rv,pl,z⟩:=I1.list hx;have nl:l<s1.heap.objs.size:=by obtain⟨_,e,_⟩:=pl.isList;exact Ut e
 refine call_enumerate_list pl.isList λh2 b1 b2 _ k2=>?_;refine wpAny_pyIter_enum (s:={ s1 with heap:=h2 }) b1 ?_;have J:Inv X XX j H1 { s1 with heap:=h2,toks:=s1.toks }:=I1.kept k2;refine⟨_,[s1.heap.objs.size+1,s1.heap.objs.size],_,_,H1,rfl,J,qq _ _ l xs (Nat.succ_ne_self _) (Nj (Nat.lt_succ_of_lt nl)) (Nj nl),⟨Dc _,⟨_,b1⟩,b2⟩,λc hc=>?_,q⟩
 have ge:s1.heap.objs.size<=c:=by
  simp only[U8,V9,or_false]at hc;rcases hc with q | q<;>rw[q]<;>first | exact Yt _ | exact Nat.le_add_right _ _
 exact I1.fpOk ge (I1.hok.fresh ge)
end
theorem u0{K:PySem.W.Frag}{a:Addr}{xs:ZZ}{g:TG}{tb:TS}{D:Ends}{j:St}{H:Hp}(Pv:Nat->St->Hp->Prop)(h0:Pv 0 j H)(hl:∀i j H,i<=xs.length->Pv i j H->Zu K H a xs)
  (hs:∀i x p j H,xs[i]?=some x->Pv i j H->H p=none->g (.ref p) j (upd H p (.tup [.int i,x])) λσ2 H2=>tb { D with nx:=Pv (i+1),ct:=Pv (i+1),bk:=D.nx } σ2 H2) (hd:∀j H,Pv xs.length j H->D.nx j H) :
  ∃W:Nat->Nat->St->Hp->Prop,(∃m,W 0 m j H)/\∀i m j H,W i m j H ->
   ((Zj5 K a xs).stop i H/\D.nx j H)\/((Zj5 K a xs).go i H/\∃N:St->Hp->Prop,(∀σ' H',N σ' H'->∃m',m'<m/\W (i+1) m' σ' H')/\∀x H',(Zj5 K a xs).yld i H x H'->g x j H' λσ2 H2=>tb { D with nx:=N,ct:=N,bk:=D.nx } σ2 H2):=by
 refine⟨λi m j H=>m=xs.length-i/\i<=xs.length/\Pv i j H,⟨xs.length,by simp,Dc _,h0⟩,?_⟩;rintro i m j H ⟨rfl,hi,p⟩;have q:=hl i j H hi p;by_cases G9:i<xs.length
 .refine .inr ⟨⟨G9,q⟩,Pv (i+1),λσ' H' p'=>⟨xs.length-(i+1),by omega,rfl,G9,p'⟩,λx H' y=>?_⟩;obtain⟨r,z,rfl,hr,rfl,hz⟩:=y;exact hs i z r j H hz p hr
 .have e:i=xs.length:=QU
  subst e;exact .inl ⟨⟨Yt _,q⟩,hd j H p⟩
mutual
noncomputable def Ei:D->Str
 | .non=>Str.ofString "None"
 | .bl b=>if b=true then Str.ofString "True" else Str.ofString "False"
 | .int i=>Str.ofString (toString i)
 | .str x=>reprText x
 | .tup ds=>tupleText (Il ds)
 | .lst _=>Str.ofString "[]"
noncomputable def Il:List D->ZF
 | []=>[]
 | d::ds=>Ei d::Il ds
end
mutual
def Zvg:D->Prop
 | .int i=>i.natAbs.log2<1920
 | .str x=>(reprText x).length<=sizeLine
 | .tup ds=>Pg ds
 | .lst _=>False
 | _=>True
def Pg:List D->Prop
 | []=>True
 | d::ds=>Zvg d/\Pg ds
end
mutual
noncomputable def lvD:D->Nat
 | .tup ds=>P9 ds+1
 | _=>0
noncomputable def P9:List D->Nat
 | []=>0
 | d::ds=>max (lvD d) (P9 ds)
end
theorem Zxk(ha:∀b∈as,b∈as')(hd:d<=d'):∀{l:ZG} {ts:ZF},ReprAllK P w as h d l ts->ReprAllK P w as' h d' l ts
 | _,_,.nil=>.nil
 | _,_,.cons r t=>.cons ((r.more ha).level_le hd) (Zxk ha hd t)
section
variable{X:Cx}{XX:Vs}{j:St}{H:Hp}{s:Shared}
mutual
theorem Zvm(I:Inv X XX j H s):∀(d:D) (v:V) (u:Value),Q0 X.K H d v->RelV v u->Zvg d->∃as,ReprK X.prog X.w as s.heap (lvD d) u (Ei d)/\∀b∈as,∃e,Q0 X.K H e (.ref b)/\lvD e<=lvD d
 | .non,v,u,h,r,_=>by
  cases Zc h;cases Zc r;exact⟨[],.of_is .none _ _ _,λb m=>absurd m V9⟩
 | .bl b,v,u,h,r,_=>by
  cases Zc h;cases Zc r;exact⟨[],.of_is (.bool b) _ _ _,λb m=>absurd m V9⟩
 | .int i,v,u,h,r,k=>by
  cases Zc h;obtain⟨t,rfl⟩:=(show ∃t,u=Value.int i t from r);exact⟨[],.of_is (.int t k) _ _ _,λb m=>absurd m V9⟩
 | .str x,v,u,h,r,k=>by
  cases Zc h;obtain⟨t,rfl⟩:=(show ∃t,u=Value.str x t from r);exact⟨[],.of_is (.str x t k) _ _ _,λb m=>absurd m V9⟩
 | .tup ds,v,u,h,r,k=>by
  obtain⟨a,vs,rfl,q,ar⟩:=(show ∃a vs,v=.ref a/\Zp X.K H a vs/\Vg X.K H ds vs from h);cases Zc r;obtain⟨XJ,rv,tp,_⟩:=I.tuple q;obtain⟨as,ra,ea⟩:=Pb I ds vs XJ ar rv k
  have na:a∉as:=λm=>by
   obtain⟨e,ie,le⟩:=ea a m;have z:=Q0.inj I e (.tup ds) (.ref a) ie h;rw[z]at le;simp only[lvD]at le;omega
  obtain⟨o,n,ho,hc,hd⟩:∃o n,s.heap.get? a=some o/\o.cls=.type "tuple" /\ o.data=.seq XJ.toArray n:=by
   obtain⟨o,h1,h2,n,h3⟩:=tp;exact⟨o,n,h1,h2,h3⟩
  refine⟨a::as,?_,λb m=>?_⟩
  .simp only[lvD,Ei];exact ReprK.tuple ho hc hd na (by simpa using ra)
  .rcases U8.mp m with rfl | m
   .exact⟨_,h,Yt _⟩
   .obtain⟨e,ie,le⟩:=ea b m;exact⟨e,ie,by simp only[lvD];omega⟩
 | .lst _,_,_,_,_,k=>False.elim k
theorem Pb(I:Inv X XX j H s):∀(ds:List D) (vs:ZZ) (us:ZG),Vg X.K H ds vs->Yj vs us->Pg ds->∃as,ReprAllK X.prog X.w as s.heap (P9 ds) us (Il ds)/\∀b∈as,∃e,Q0 X.K H e (.ref b)/\lvD e<=P9 ds
 | [],vs,us,h,r,_=>by
  cases Zc h;cases r;exact⟨[],.nil,λb m=>absurd m V9⟩
 | d::ds,vs,us,h,r,k=>by
  obtain⟨v,vr,rfl,h1,h2⟩:=(show ∃v r,vs=v::r/\Q0 X.K H d v/\Vg X.K H ds r from h);cases r with
  | cons r1 r2 =>
   obtain⟨as,a1,a2⟩:=Zvm I d v _ h1 r1 k.1;obtain⟨bs,b1,b2⟩:=Pb I ds vr _ h2 r2 k.2;refine⟨as++bs,?_,λb m=>?_⟩
   .simp only[P9,Il];exact .cons ((a1.more λb m=>List.mem_append_left _ m).level_le (Nat.le_max_left _ _)) (Zxk (λb m=>nj _ m) (Nat.le_max_right _ _) b1)
   .simp only[P9];rcases M6.mp m with m | m
    .obtain⟨e,ie,le⟩:=a2 b m;exact⟨e,ie,Vf le (Nat.le_max_left _ _)⟩
    .obtain⟨e,ie,le⟩:=b2 b m;exact⟨e,ie,Vf le (Nat.le_max_right _ _)⟩
end
end
section
variable{X:Cx}
inductive Ab(K:W.Frag)(xs:ZZ)(H:Hp)(Q:VK):Prop
 | mk(x:V)(ds:List D)(Vx:xs=[x])(Vz:Q0 K H (.tup ds) x)(Vp:Pg ds)(Jn:P9 ds<=100)(Mf:(Ei (.tup ds)).length<=sizeLine)(Co:Q (.str (Ei (.tup ds))) H)
theorem Bx(hr:V8 k X.A):Jm X (.builtin "repr") (λxs H Q=>Ab X.K xs H Q):=by
 intro XX s j H xs us Q I r h;obtain⟨x,ds,rfl,ix,k,lv,ln,q⟩:=h;obtain⟨a,vs,rfl,sq,ar⟩:=(show ∃a vs,x=.ref a/\Zp X.K H a vs/\Vg X.K H ds vs from ix);cases r with
 | cons r1 r2 =>
  cases r2;cases Zc r1;obtain⟨XJ,rv,tp,_⟩:=I.tuple sq;obtain⟨as,ra,ea⟩:=Pb I ds vs XJ ar rv k
  have na:a∉as:=λm=>by
   obtain⟨e,ie,le⟩:=ea a m;have z:=Q0.inj I e (.tup ds) (.ref a) ie ix;rw[z]at le;simp only[lvD]at le;omega
  obtain⟨o,n,ho,hc,hd⟩:∃o n,s.heap.get? a=some o/\o.cls=.type "tuple" /\ o.data=.seq XJ.toArray n:=by
   obtain⟨o,h1,h2,n,h3⟩:=tp;exact⟨o,n,h1,h2,h3⟩
  have un:=hr.un;refine call_repr_slot QU ⟨o,ho,hc⟩ PySem.F.slot_tuple_repr ?_;refine call_tuple_reprK ho hc hd na (by simpa using ra) (g:=[]) hr.gd (λb _=>Clear.nil b) (by show X.A.units+1+_<_;omega) (λ_ _ e=>e) (λh' u tk k'=>?_) ln;exact⟨_,u,rfl,.str _,H,I.kept k',⟨u,rfl⟩,q⟩
end
section
variable{X:Cx}{XX:Vs}{j:St}{H:Hp}{s:Shared}
theorem Zyb{h h':Heap}{L:Addr}{m:G6}(n:h.Ns L m)(k:∀o,h.get? L=some o->h'.get? L=some o):h'.Ns L m :=
 let ⟨o,es,ep,e,r⟩:=n
 ⟨o,es,ep,k o e,r⟩
end
noncomputable def S8(h:Heap)(L:Addr):Heap:={ h with objs:=h.objs.extract 0 L }
theorem bh{L b:Nat}:(S8 h L).objs[b]?=if b<L then h.objs[b]? else none:=by
 show (h.objs.extract 0 L)[b]?=_;rw[Array.getElem?_extract];simp only[Nat.zero_add,Nat.sub_zero];by_cases hb:b<L
 .rw[if_pos hb];by_cases hc:b<h.objs.size
  .rw[if_pos QU]
  .rw[if_neg QU,Array.getElem?_eq_none QU]
 .rw[if_neg hb,if_neg QU]
theorem Xb(e:h.get? b=some o)(hb:b<L):(S8 h L).get? b=some o:=by
 unfold Heap.get? at e ⊢;rw[bh,if_pos hb];exact e
theorem br(e:(S8 h L).get? b=some o):h.get? b=some o/\b<L:=by
 unfold Heap.get? at e;rw[bh]at e;by_cases hb:b<L
 .rw[if_pos hb]at e;exact⟨e,hb⟩
 .rw[if_neg hb]at e;cases e
noncomputable def E7(h:Heap)(L:Addr):ZW:=(List.range h.objs.size).filterMap λb=>if b<=L then none else (h.get? b).map λo=>(b,o)
theorem L6:(b,o)∈E7 h L↔L<b/\h.get? b=some o:=by
 unfold E7;rw[List.mem_filterMap];constructor
 .rintro⟨x,hx,e⟩;by_cases z:x<=L
  .rw[if_pos z]at e;cases e
  .rw[if_neg z]at e;obtain⟨o',e1,e2⟩:=Cy.mp e;cases e2;exact⟨Nat.lt_of_not_le z,e1⟩
 .rintro⟨hb,e⟩;refine⟨b,List.mem_range.mpr (Ut e),?_⟩;rw[if_neg (Nat.not_le.mpr hb),e];rfl
theorem Y4.has(x:Y4 P w H h a o):∃u,h.get? a=some u:=by
 cases o with
 | lst xs=>obtain⟨_,_,_,_,e⟩:=x;exact⟨_,e⟩
 | tup xs=>obtain⟨_,_,_,o,e,_⟩:=x;exact⟨_,e⟩
 | dK XQ=>obtain⟨_,_,_,_,o,_,_,e,_⟩:=x;exact⟨_,e⟩
 | dT XQ=>obtain⟨_,_,_,_,o,_,_,e,_⟩:=x;exact⟨_,e⟩
 | set S n=>obtain⟨o,_,_,_,e,_⟩:=x;exact⟨_,e⟩
 | ins C dx fs=>obtain⟨_,_,_,e,_⟩:=x;exact⟨_,e⟩
 | own y=>exact x
 | xd fs=>obtain⟨_,⟨_,_,_,e,_⟩,_⟩:=x;exact⟨_,e⟩
 | rng lo hi=>obtain⟨_,_,_,e⟩:=x;exact⟨_,e⟩
 | frz ob u=>obtain⟨e,_⟩:=x;exact⟨_,e⟩
 | tbl ps=>exact⟨_,(show h.get? a=some _ from x)⟩
 | met f y=>exact⟨_,(show h.get? a=some _ from x)⟩
 | ext φ=>obtain⟨_,e,_⟩:=x;exact e
theorem Zyp(f:Fr (S8 h L) L h' m)(n:News (S8 h L) L h' own)(hs:∀p∈E7 h L,p∈own):∀b o,b≠L->h.get? b=some o->h'.get? b=some o:=λb o nb e=>by
 rcases Nat.lt_trichotomy b L with z | z | z
 .exact f.keep b o (Xb e z)
 .exact absurd z nb
 .exact(n (b,o) (hs _ (L6.mpr ⟨z,e⟩))).1
section
variable{X:Cx}{e:Expr}{te:TA}{p pos lp kp p0 p1 p2 p3:Pos}
end
end L2
namespace PySem.Heap
theorem IsTupleIter.xB(st:h.IsTupleIter i t k)(e:Heap.ExtBut b h h')(n:i≠b):h'.IsTupleIter i t k:=let ⟨o,ho,r⟩:=st;⟨o,e _ _ n ho,r⟩
theorem IsTuple.aT{h h':Heap}{t:Addr}{xs:ZT}(st:h.IsTuple t xs)(e:∀o,h.get? t=some o->h'.get? t=some o):h'.IsTuple t xs:=let ⟨o,ho,r⟩:=st;⟨o,e _ ho,r⟩
end PySem.Heap
namespace L2
open PySem PySem.Spec PyProof.Rows
section
variable{X:Cx}{x y:Str}{p p2 pos Du:Pos}{a b:Expr}{t:TA}
end
theorem Zjf{K:PySem.W.Frag}{l1 l2:Addr}{xs ys:ZZ}{g:TG}{tb:TS}{D:Ends}{j:St}{H:Hp}(Pv:Nat->St->Hp->Prop)(h0:Pv 0 j H)(hl:∀i j H,i<=min xs.length ys.length->Pv i j H->Zp K H l1 xs/\Zp K H l2 ys)
  (hs:∀i x y p j H,xs[i]?=some x->ys[i]?=some y->Pv i j H->H p=none->g (.ref p) j (upd H p (.tup [x,y])) λσ2 H2=>tb { D with nx:=Pv (i+1),ct:=Pv (i+1),bk:=D.nx } σ2 H2) (hd:∀j H,Pv (min xs.length ys.length) j H->D.nx j H) :
  ∃W:Nat->Nat->St->Hp->Prop,(∃m,W 0 m j H)/\∀i m j H,W i m j H ->
   ((a8 K l1 l2).stop i H/\D.nx j H)\/((a8 K l1 l2).go i H/\∃N:St->Hp->Prop,(∀σ' H',N σ' H'->∃m',m'<m/\W (i+1) m' σ' H')/\∀x H',(a8 K l1 l2).yld i H x H'->g x j H' λσ2 H2=>tb { D with nx:=N,ct:=N,bk:=D.nx } σ2 H2):=by
 refine⟨λi m j H=>m=min xs.length ys.length-i/\i<=min xs.length ys.length/\Pv i j H,⟨min xs.length ys.length,by simp,Dc _,h0⟩,?_⟩;rintro i m j H ⟨rfl,hi,p⟩;obtain⟨q1,q2⟩:=hl i j H hi p;by_cases G9:i<min xs.length ys.length
 .have c1:i<xs.length:=QU
  have c2:i<ys.length:=QU
  refine .inr ⟨⟨xs,ys,xs[i],ys[i],q1,q2,by simp[c1],by simp[c2]⟩,Pv (i+1),λσ' H' p'=>⟨min xs.length ys.length-(i+1),by omega,rfl,G9,p'⟩,λv H' y=>?_⟩;obtain⟨a,x,y',rfl,hn,rfl,y1,y2⟩:=y;exact hs i x y' a j H (y1 xs q1) (y2 ys q2) p hn
 .have e:i=min xs.length ys.length:=QU
  subst e;exact .inl ⟨⟨xs,ys,q1,q2,by omega⟩,hd j H p⟩
end L2
namespace DicP2
open PySem PySem.Spec PyProof.Rows
noncomputable def Zg5(t:Value):Obj:={ cls:=.type "AttributeError",data:=.fields #[t,.none,.none,.none,.bool false,.none,unsetMember,unsetMember] }
theorem nst:((Manifest.find? "AttributeError").elim false λt=>t.mro.contains "StopIteration" || t.mro.contains "SystemExit")=false:=by decide +kernel
theorem newAE
  (hq:∀h' e t,(∀b u,s.heap.get? b=some u->h'.get? b=some u)->h'.get? e=some (Zg5 t)->s.heap.get? e=none->Q (.ref e) { s with heap:=h' }):wpAny (model prog w) A (newExc (.type "AttributeError") [v]) Q E s:=by
 obtain⟨h,g,d,t,os⟩:=s;simp only[newExc,newTuple]
 wp_walk
 have e:(#[Value.ref h.objs.size,Value.none,Value.none,Value.none,Value.bool false,if ((Manifest.find? "AttributeError").elim false λt=>t.mro.contains "StopIteration" || t.mro.contains "SystemExit")=true then [v].headD Value.none else Value.none]++ownMembersOf (Value.type "AttributeError") [v])=#[.ref h.objs.size,.none,.none,.none,.bool false,.none,unsetMember,unsetMember]:=by
  rw[nst];rfl
 rw[e];refine hq _ _ (.ref h.objs.size) (λb u q=>Uz _ (Uz _ q)) (M7 _ rfl) ?_;cases z:h.get? (h.push { cls:=Value.type "tuple",data:=Data.seq #[v] }).objs.size with
 | none=>rfl
 | some o =>
  have:=Ut z;rw[Heap.size_push]at this;exact absurd this (Nat.not_lt.mpr (Nat.le_succ _))
theorem note(he:s.heap.get? e=some (Zg5 t))
  (hq:∀h' d,Heap.SameBut e s.heap h'->h'.get? e=some { cls:=.type "AttributeError",data:=d }->Q () { s with heap:=h' }):wpAny (model prog w) A (noteAttr (.ref e) o nm) Q E s:=by
 unfold noteAttr;simp only[];unfold lacksNameAndObj;simp only[];refine Zn (Zn (wpAny_isInstance (T:="AttributeError") (b:=true) ⟨_,he,rfl⟩ (by rw[isSubtype_type];kernel_rfl) ?_));simp only[Bool.not_true,xp,if_false];refine Zn (wpAny_load he ?_);show wpAny _ _ (pure true) _ _ _;refine Z4 ?_;simp only[if_true];refine Zn (wpAny_rule (Zn (wpAny_typeOf (T:="AttributeError") ⟨_,he,rfl⟩ ?_)));refine wpAny_layMembers he rfl ?_;refine hq _ _ ⟨Heap.size_update _ _ _,λb hb=>Heap.get?_update_other _ _ (Ne.symm hb)⟩ (Heap.get?_update_self _ he rfl)
theorem tl1:typeLookup (.type "tuple") (Str.ofString "__getattribute__")=pure (some (.builtin "tuple.__getattribute__")):=by rw[typeLookup_type,builtinLookup_eq_fast];kernel_rfl
theorem tl2:typeLookup (.type "tuple") (Str.ofString "keys")=pure none:=by rw[typeLookup_type,builtinLookup_eq_fast];kernel_rfl
theorem tl3:typeLookup (.type "tuple") (Str.ofString "__getattr__")=pure none:=by rw[typeLookup_type,builtinLookup_eq_fast];kernel_rfl
theorem gc:Slot "tuple" (Str.ofString "__getattribute__") "tuple.__getattribute__" := Slot.of (owner:="tuple") (n:="__getattribute__") tl1 QA QA QA (.inl QA) (by rw[isSubtype_type];kernel_rfl)
theorem Zjc:entryFor table "tuple.__getattribute__"=some Builtin.«object.__getattribute__»:=entryFor_alias (id':="object.__getattribute__") (by kernel_rfl) rfl QA (by kernel_rfl)
theorem Zkn(a b:Value):argsOk "tuple.__getattribute__" ⟨[a,b],[]⟩:=by unfold argsOk;kernel_rfl
theorem Zkj(hh:A.handled=none)(ho:s.heap.get? a=some ⟨.type "tuple",none,.seq XJ n,sl⟩)
  (hq:∀e h' t',(∃o,h'.get? e=some o/\o.cls=.type "AttributeError")->(∀b u,s.heap.get? b=some u->h'.get? b=some u)->E (.ref e) { s with heap:=h',toks:=t' }):wpAny (model prog w) A (Builtin.«object.__getattribute__» ⟨[.ref a,.str (Str.ofString "keys") u],[]⟩) Q E s:=by
 obtain⟨h,g,d,t,os⟩:=s;have ho:h.get? a=some ⟨.type "tuple",none,.seq XJ n,sl⟩:=ho;unfold Builtin.«object.__getattribute__»
 wp_walk
 show wpAny _ _ (typeLookup (.type "tuple") _) _ _ _;rw[tl2]
 wp_walk
 have hl:(Str.ofString (toString "'" ++ toString ((Manifest.find? "tuple").elim "tuple" λx=>x.tpName)++toString "' object has no attribute '")++Str.ofString "keys" ++ Str.ofString "'").length<=sizeLine:=QA
 generalize (Str.ofString (toString "'" ++ toString ((Manifest.find? "tuple").elim "tuple" λx=>x.tpName)++toString "' object has no attribute '")++Str.ofString "keys" ++ Str.ofString "'")=msg at hl ⊢;unfold raiseAttrError;refine Zn (wpAny_mkStr ?_ hl);refine Zn (newAE λh1 e t1 k1 e1 n1=>?_);refine Zn (wpAny_mkText ?_);refine Zn (note e1 λh2 d2 sb e2=>?_);refine wpAny_raiseNew_none hh (hq e h2 _ ⟨_,e2,rfl⟩ λb u q=>?_);refine(sb.2 b λz=>?_).trans (k1 b u q);rw[z]at q;rw[show h.get? e=none from n1]at q;cases q
theorem hb0:hookBefore (.type "tuple")=pure none:=rfl
theorem uk(hh:A.handled=none)(ho:s.heap.get? a=some ⟨.type "tuple",none,.seq XJ n,sl⟩)
  (hq:∀h' t',(∀b u,s.heap.get? b=some u->h'.get? b=some u)->Q none { s with heap:=h',toks:=t' }):wpAny (model prog w) A (getAttr? (.ref a) (Str.ofString "keys")) Q E s:=by
 obtain⟨h,g,d,t,os⟩:=s;have ho:h.get? a=some ⟨.type "tuple",none,.seq XJ n,sl⟩:=ho;unfold getAttr?;refine Zn (wpAny_mkText ?_);unfold getAttrBy?;refine Zn (wpAny_attempt ?_);unfold getAttrBy;refine wpAny_holding ?_;have ht:Shared.TypeIs ⟨h,g,d,t+1,os⟩ (.ref a) "tuple" := ⟨_,ho,rfl⟩;refine Zn (wpAny_typeOf ht ?_);rw[tl1];refine Zn (Z4 ?_);simp only[];refine wpAny_ite_split (λz=>absurd z QI) λ_=>?_;unfold getAttrByItsOwn;rw[hb0];refine Zn (Z4 ?_);refine Zn (wpAny_attempt (wpAny_holding ?_));show wpAny _ _ (boundAndCalled (.builtin "tuple.__getattribute__") (.ref a) _) _ _ _;unfold boundAndCalled;rw[gc.toG.bind];refine Zn (Z4 ?_);show wpAny _ _ (call (.builtin "tuple.__getattribute__") [.ref a,.str (Str.ofString "keys") t]) _ _ _;refine wpAny_call_entry gc ht Zjc ?_ (Zkn _ _);refine Zkj (s:=⟨h,g,d,t+1,os⟩) hh ho λe h' t' he kp=>?_;obtain⟨o,e1,e2⟩:=he;have ae:∀t'',Shared.TypeIs ⟨h',g,d,t'',os⟩ (.ref e) "AttributeError" := λ_=>⟨o,e1,e2⟩;show wpAny _ _ (getattributeRaised _ _ _ _ _ _ _) _ _ _;unfold getattributeRaised;refine Zn (wpAny_isInstance (T:="AttributeError") (b:=true) (ae _) (by rw[isSubtype_type];kernel_rfl) ?_);simp only[if_true];rw[show hookBehind (Value.type "tuple") none=typeLookup (.type "tuple") (Str.ofString "__getattr__") from rfl,tl3];refine Zn (Z4 ?_);unfold hookOrError;simp only[];unfold attributeErrorLeaves;simp only[Bool.not_false,if_true];refine Zn (wpAny_throw ?_);refine Zn (wpAny_isInstance (T:="AttributeError") (b:=true) (ae _) (by rw[isSubtype_type];kernel_rfl) ?_);simp only[if_true];exact Z4 (hq h' t' kp)
theorem Oz:entryFor table "dict.update.loop"=some Builtin.«dict.update.loop»:=entryFor_of_tree (by kernel_rfl)
theorem N6:plainId "dict.update.loop"=true:=by decide +kernel
section
variable{prog:Program}{w:World}{K:Type}[DecidableEq K]{knd:PySem.KeyKind prog w K}
def Prs(knd:PySem.KeyKind prog w K)(h:Heap)(XJ:ZT)(rs:List (K×Value)):Prop :=
 XJ.size=rs.length/\∀(j:Nat) (k:K) (v:Value),rs[j]?=some (k,v)->∃p u,XJ[j]?=some (.ref p)/\IsTup h p #[u,v]/\knd.is k u=true
noncomputable def stK(rs:List (K×Value))(i:Nat):List (K×Value):=(rs.take i).foldl (λacc kv=>stored acc kv.1 kv.2) []
theorem qy(XQ:List (K×Value))(k:K)(v:Value):(stored XQ k v).length<=XQ.length+1:=by
 unfold stored
 split
 .rw[Yv];omega
 .rw[Nl];simp
theorem A9{rs:List (K×Value)}{i:Nat}{k:K}{v:Value}(h:rs[i]?=some (k,v)):stK rs (i+1)=stored (stK rs i) k v:=by
 unfold stK;rw[List.take_succ,h];simp
theorem K2(rs:List (K×Value)):∀i,(stK rs i).length<=i
 | 0=>by simp[stK]
 | i+1=>by
  cases h:rs[i]? with
  | none =>
   have:=K2 rs i;unfold stK at this ⊢;rw[List.take_succ,h];simp only[Option.toList_none,ZO];omega
  | some p =>
   obtain⟨k,v⟩:=p;rw[A9 h];have:=K2 rs i;have:=qy (stK rs i) k v;omega
variable{A:Around}{R:Result->Shared->Prop}{E:Ya}{s:Shared}{d it t:Addr}{XJ:ZT}{rs:List (K×Value)}
theorem loop(hh:A.handled=none)(hdi:d≠it)(htd:t≠d)(hti:t≠it)(hz:rs.length<=sizeLine)(ht:h₁.IsTuple t XJ)(hp:Prs knd h₁ XJ rs)(hpd:∀(p:Addr),.ref p∈XJ.toList->p≠d/\p≠it)
  (fin:∀h' tk,(∀b o,b≠d->b≠it->h₁.get? b=some o->h'.get? b=some o)->h'.DictOf knd d (stK rs rs.length)->R (.ok (.ret .none)) { s with heap:=h',toks:=tk }) :
  ∀(k i:Nat) (h:Heap) (tk:Nat),rs.length-i=k->i<=rs.length->(∀b o,b≠d->b≠it->h₁.get? b=some o->h.get? b=some o)->h.IsTupleIter it t i->h.DictOf knd d (stK rs i) ->
   codeAny (model prog w) A (.builtin "dict.update.loop" ⟨[.ref d,.ref it,rawInt i,.none],[]⟩) R { s with heap:=h,toks:=tk }:=by
 intro k
 induction k with
 | zero =>
  intro i h tk hk hi kp st dd;have ei:i=rs.length:=QU
  subst ei;refine codeAny_builtin Oz ?_;rw[Around.under_plainId N6 _]
  change wpAny _ A.in1 (pyNext (.ref it) >>= _) _ _ _
  refine Zn (wpAny_pyNext_tuple_end (s:={ s with heap:=h,toks:=tk }) (A:=A.in1) hh st (ht.aT λo e=>kp _ o htd hti e) (Array.getElem?_eq_none (by rw[hp.1];exact Yt _)) λh' ext=>?_)
  change wpAny _ A.in1 (Builtin.Dict.addKeywords d [] >>= _) _ _ _
  refine Zn (m:=Builtin.Dict.addKeywords d []) ?_;unfold Builtin.Dict.addKeywords;simp only[List.forIn_nil];refine Zn (Z4 (Z4 (Z4 ?_)));refine fin h' tk (λb o n1 n2 e=>ext b o n2 (kp b o n1 n2 e)) ?_;obtain⟨o,es,ep,e1,r⟩:=dd;exact⟨o,es,ep,ext d o hdi e1,r⟩
 | succ k ih =>
  intro i h tk hk hi kp st dd;have G9:i<rs.length:=QU
  obtain⟨⟨kk,vv⟩,hkv⟩:∃p,rs[i]?=some p:=⟨rs[i],Bh G9⟩;obtain⟨p,u,ep,tp,ku⟩:=hp.2 i kk vv hkv;have np:=hpd p (by rw[<-Array.mem_def];exact Array.mem_of_getElem? ep);refine codeAny_builtin Oz ?_;rw[Around.under_plainId N6 _]
  change wpAny _ A.in1 (pyNext (.ref it) >>= _) _ _ _
  refine Zn (wpAny_pyNext_tuple_item (s:={ s with heap:=h,toks:=tk }) (A:=A.in1) st (ht.aT λo e=>kp _ o htd hti e) ep λh' Iz sb=>?_);have tp':IsTup h' p #[u,vv]:=let ⟨o,e1,e2⟩:=tp;⟨o,sb.extBut _ _ np.2 (kp _ _ np.1 np.2 e1),e2⟩;have dd':h'.DictOf knd d (stK rs i):=let ⟨o,es,ep,e1,r⟩:=dd;⟨o,es,ep,sb.extBut _ _ hdi e1,r⟩;simp only[];refine Zn (wpAny_holding (Zn (wpAny_tryCatch ?_)));unfold Builtin.Dict.pairItems;refine Zn (wpAny_typeOf (T:="tuple") tp'.typeIs ?_);simp only[show (Value.type "tuple" == Value.type "list" || Value.type "tuple" == Value.type "tuple")=true from by decide,if_true];obtain⟨o,e1,e2,n,e3⟩:=id tp';refine Zn (m:=seqItems? (.ref p)) ?_;unfold seqItems?;simp only[];refine Zn (wpAny_load e1 ?_);rw[e3];refine Z4 (Z4 ?_);show wpAny _ _ (holding [u,vv] (dictSet d u vv)) _ _ _;refine wpAny_holding ?_;refine wpAny_dictSet_pairs (hsz:=Vf (K2 rs i) (Vf hi hz)) ku dd' λh2 dd2 sb2=>?_;refine Z4 ⟨plainId_quiet N6 _,?_⟩;refine ih (i+1) h2 _ QU G9 (λb o n1 n2 e=>sb2.extBut _ _ n1 (sb.extBut _ _ n2 (kp b o n1 n2 e))) (Iz.xB sb2.extBut hdi.symm) ?_;rw[A9 hkv];exact dd2
theorem yw(hh:A.handled=none)(ho:s.heap.get? t=some ⟨.type "tuple",none,.seq XJ n,sl⟩)(hp:Prs knd s.heap XJ rs)(hz:rs.length<=sizeLine)
  (hl:∀(p:Addr),.ref p∈XJ.toList->p<s.heap.objs.size)
  (fin:∀h' tk,(∀b o,s.heap.get? b=some o->h'.get? b=some o)->h'.DictOf knd s.heap.objs.size (stK rs rs.length)->Q (.ref s.heap.objs.size) { s with heap:=h',toks:=tk }) :
  wpAny (model prog w) A (call (.type "dict") [.ref t]) Q E s:=by
 have lt:∀{c o},s.heap.get? c=some o->c≠s.heap.objs.size:=λe=>Nj (Ut e);have pu:∀{c o},s.heap.get? c=some o->(s.heap.push { cls:=.type "dict",data:=.dict #[] }).get? c=some o:=λe=>Uz _ e
 refine callType_codes (Q₁:=λobj s₁=>obj=.ref s.heap.objs.size/\s₁={ s with heap:=s.heap.push { cls:=.type "dict",data:=.dict #[] } }) F.kt_called_dict (F.kt_typeCall_dict_1 _) F.entry_dict_init
  (kt_code_dict_new _ ⟨rfl,rfl⟩) λobj s₁ q=>?_
 obtain⟨rfl,rfl⟩:=q;have Vq:(s.heap.push { cls:=.type "dict",data:=.dict #[] }).get? s.heap.objs.size=some { cls:=.type "dict",data:=.dict #[] }:=M7 _ rfl;refine⟨⟨_,Vq,rfl⟩,F.args_dict_init_2 _ _,?_⟩;have ty:Shared.TypeIs { s with heap:=s.heap.push { cls:=.type "dict",data:=.dict #[] } } (.ref s.heap.objs.size) "dict" := ⟨_,Vq,rfl⟩;unfold Builtin.«dict.__init__»;unfold Builtin.Dict.selfAndRest;refine Zn (Zn (wpAny_notOrdered_dict ty ?_));refine Zn (m:=Builtin.Dict.addrOf (.ref s.heap.objs.size)) (Z4 (Z4 ?_));show wpAny _ _ (Builtin.Dict.updateFrom "dict.__init__" s.heap.objs.size (.ref t) [] .none) _ _ _;unfold Builtin.Dict.updateFrom;refine Zn (wpAny_typeOf (T:="tuple") ⟨_,pu ho,rfl⟩ ?_);simp only[show (Value.type "tuple" != Value.type "dict")=true from by decide,if_true];refine Zn (uk (s:={ s with heap:=s.heap.push { cls:=.type "dict",data:=.dict #[] } }) (A:=A.in1.in1) hh (pu ho) λh2 t2 k2=>?_);simp only[Option.isNone_none,if_true];refine Zn (wpAny_rule ?_);have tu:Heap.IsTuple h2 t XJ:=⟨_,k2 _ _ (pu ho),rfl,n,rfl⟩;refine Zn (wpAny_pyIter_tuple (s:={ s with heap:=h2,toks:=t2 }) tu ?_);have lt2:∀{c o},h2.get? c=some o->c≠h2.objs.size:=λe=>Nj (Ut e);have at2:=k2 _ _ Vq;have sz2:s.heap.objs.size<h2.objs.size:=Ut at2;refine Z4 ⟨plainId_quiet N6 _,?_⟩;have kp3:∀b o,h2.get? b=some o->(h2.push { cls:=.type "tuple_iterator",data:=.fields #[.ref t,.int 0 0] }).get? b=some o:=λb o e=>Uz _ e;refine loop (knd:=knd) (s:=s) (A:=A.in1) (d:=s.heap.objs.size) (it:=h2.objs.size) (t:=t) hh (Nj sz2) (lt ho) (lt2 (k2 _ _ (pu ho))) hz (h₁:=h2.push { cls:=.type "tuple_iterator",data:=.fields #[.ref t,.int 0 0] }) (tu.aT λo e=>kp3 _ o e) ⟨hp.1,λj k v e=>?_⟩ (λp hm=>⟨Nj (hl p hm),Nj (Nat.lt_trans (hl p hm) sz2)⟩) (λh' tk kp dd=>?_) _ 0 _ t2 rfl (Dc _) (λb o _ _ e=>e) ⟨_,M7 _ rfl,rfl,rfl⟩ ?_
 .obtain⟨p,u,e1,tp,ku⟩:=hp.2 j k v e;exact⟨p,u,e1,let ⟨o,a1,a2⟩:=tp;⟨o,kp3 _ _ (k2 _ _ (pu a1)),a2⟩,ku⟩
 .refine⟨rfl,fin h' tk (λb o e=>kp b o (lt e) (lt2 (k2 _ _ (pu e))) (kp3 _ _ (k2 _ _ (pu e)))) dd⟩
 .exact⟨_, #[],_,kp3 _ _ at2,⟨rfl,rfl,rfl⟩,rfl,λe he=>by simp at he,.nil,List.nodup_nil⟩
end
end DicP2
namespace L2
open PySem PySem.Spec PyProof.Rows
section
variable{X:Cx}{XX:Vs}{Z:St}{H:Hp}{s:Shared}
theorem Inv.lay2{h':Heap}{D:Addr}{u:HO}{t':Nat}(I:Inv X XX Z H s){m:G6}(hn:s.heap.Ns X.env.locals m)(oi:h'.Ns X.env.locals m)(ka:∀b o,b≠X.env.locals->s.heap.get? b=some o->h'.get? b=some o)(nD:s.heap.get? D=none)
  (new:Y4 X.prog X.w (upd H D u) h' D u):Inv X XX Z (upd H D u) { s with heap:=h',toks:=t' }/\H D=none:=by
 have fD:H D=none:=by
  cases eo:H D with
  | none=>rfl
  | some u =>
   obtain⟨o,e⟩:=(I.hok D u eo).has;rw[e]at nD;cases nD
 refine⟨?_,fD⟩;have ne:∀{b:Addr} {o:Obj},s.heap.get? b=some o->b≠D:=λ{b o} e z=>by rw[z,nD]at e;cases e
 have neH:∀{b:Addr} {u:HO},H b=some u->b≠D:=λ{b u} e z=>by rw[z,fD]at e;cases e
 refine I.step (h':=h') (g':=s.gens) (d':=s.drawn) (t':=t') (ch:=[]) (H':=upd H D u) (λ_ z=>nomatch z)
  (λb o nl _ _ e _=>ka b o nl e) (λb o nl _ _ e _=>⟨o.slots,ka b o nl e⟩) (λb o _ e n=>by rw[Zm (ne e)];exact n) (λb o _ e=>?_) (λb xs e=>by rw[Zm (neH e)];exact e) (λb o u e=>by rw[Zm (neH e)];exact e) (λb qs e=>⟨#[],by rw[Zm (neH e),e];simp⟩) (λm' hm=>?_) (λb v e=>?_) I.bare
 .by_cases z:b=X.env.locals
  .obtain⟨o2,_,_,e2,_⟩:=oi;exact⟨o2,by rw[z];exact e2⟩
  .exact⟨o,ka b o z e⟩
 .have em:m'=m:=by
   obtain⟨o2,es,ep,e2,d2,_,r2⟩:=hm;obtain⟨o3,es3,ep3,e3,d3,_,r3⟩:=hn;rw[e2]at e3;cases e3;rw[d2]at d3;cases d3;exact funext λx=>(r2 x).symm.trans (r3 x)
  rw[em];exact oi
 .by_cases z:b=D
  .subst z;rw[Zz]at e;cases e;exact new
  .rw[Zm z]at e;refine(I.hok b v e).stay (λd v hd q=>ka d v ?_ q) (λd q=>by rw[Zm (neH q)];exact q) λd xs q=>by rw[Zm (neH q)];exact q
   rcases hd with rfl | hd
   .exact λzz=>by rw[zz,I.free]at e;cases e
   .exact λzz=>by rw[zz,I.free]at hd;cases hd
theorem Inv.frame(I:Inv X XX Z H s):∃m,s.heap.Ns X.env.locals m/\Fr (S8 s.heap X.env.locals) X.env.locals s.heap m/\News (S8 s.heap X.env.locals) X.env.locals s.heap (E7 s.heap X.env.locals):=by
 obtain⟨m,hn,_⟩:=id I.loc
 have lsz:(S8 s.heap X.env.locals).objs.size<=X.env.locals:=by
  show (s.heap.objs.extract 0 X.env.locals).size<=_;rw[Array.size_extract];omega
 refine⟨m,hn,⟨hn,λb o e=>(br e).1,lsz⟩,λp hp=>?_⟩;obtain⟨b,o⟩:=p;obtain⟨h1,h2⟩:=L6.mp hp;refine⟨h2,Nat.ne_of_gt h1,?_⟩;cases z:(S8 s.heap X.env.locals).get? b with
 | none=>rfl
 | some o'=>exact absurd (br z).2 (Nat.lt_asymm h1)
theorem Inv.newAt{h':Heap}{D:Addr}{o:Obj}{m:G6}(n':News (S8 s.heap X.env.locals) X.env.locals h' ((D,o)::E7 s.heap X.env.locals))(hD:∀q∈E7 s.heap X.env.locals,q.1<D):s.heap.get? D=none:=by
 obtain⟨_,nDL,lD⟩:=n' (D,o) Br;cases eo:s.heap.get? D with
 | none=>rfl
 | some o =>
  exfalso
  rcases Nat.lt_trichotomy D X.env.locals with y | y | y
  .rw[Xb eo y]at lD;cases lD
  .exact nDL y
  .exact absurd (hD (D,o) (L6.mpr ⟨y,eo⟩)) (Nat.lt_irrefl _)
theorem Wu:∀{zs:ZC} {vs:ZG} {XQ:List (Key×Value)},XQ.map (·.1)=zs.map Sum.inl->vs.length=XQ.length->(∀(j:Nat) (v:Value),vs[j]?=some v->∃k x,XQ[j]?=some (k,x)/\(Z8 P w).is k v=true)->IntsAre vs zs
 | [],vs,XQ,e,l,_=>by
  cases XQ with
  | nil=>cases vs with
   | nil=>exact .nil
   | cons _ _=>simp at l
  | cons _ _=>simp at e
 | z::zs,vs,XQ,e,l,h=>by
  cases XQ with
  | nil=>simp at e
  | cons p r =>
   cases vs with
   | nil=>simp at l
   | cons v vs =>
    rw[Mu,Mu]at e
    injection e with e1 e2
    obtain⟨k,x,ek,iv⟩:=h 0 v rfl;have ek:p=(k,x):=by simpa using ek
    subst ek;have e1:k=Sum.inl z:=e1;subst e1;rcases Yu (show Wb (Sum.inl z) v=true from iv) with ⟨j,t,ej,rfl⟩ | ⟨y,t,ej,rfl⟩
    .cases ej;exact .cons _ _ (Wu e2 (by simpa using l) λj v hv=>h (j+1) v hv)
    .cases ej
theorem Af(hc:X.calm=true):Jm X (.builtin "sorted") (λxs H Q=>∃(a:Addr) (XQ:List (Key×V)) (zs:ZC),xs=[.ref a]/\Rd H a (.dK XQ)/\XQ.map (·.1)=zs.map Sum.inl/\zs.length<64 /\
  ∀(l:Addr) (ns:ZC),H l=none->ns.Perm zs->ns.Pairwise (·<=·)->Q (.ref l) (upd H l (.lst (ns.map V.int)))):=by
 intro XX s Z H xs us Q I r h;obtain⟨a,XQ,zs,rfl,hq,hk,hz,q⟩:=h;obtain⟨u,rfl,rx⟩:=vals1 r;cases rx;obtain⟨z,hd,ws,rel,dd⟩:=Ci I.hok hq;obtain⟨ep,da⟩:=dd.dictAt;obtain⟨m,hn,fr,nw⟩:=I.frame
 have wl:ws.length=zs.length:=by
  rw[<-rel.length, <-Yv (·.1),hk,Yv]
 refine W.kdu_sorted (W.kdl_dict (knd:=Z8 X.prog X.w) (ep:=ep) hd) (I.ok.hd hc) fr nw da (by rw[<-rel.length];exact z) λD h' tk vs f' n' hD vl hv=>?_;have hI:IntsAre vs zs:=Wu (by rw[<-rel.keys];exact hk) vl hv;have ka:=Zyp f' n' λp hp=>Ck _ hp;have nD:=Inv.newAt (X:=X) (m:=m) n' hD;obtain⟨eD,nDL,_⟩:=n' _ Br;have Vq:h'.get? D=some (seqObj "list" vs.toArray 0):=eD;refine wpAny_call_entry slot_list_sort ⟨_,Vq,rfl⟩ entry_list_sort ?_ (args_list_sort _);refine list_sort_tree (s:={ heap:=h',gens:=s.gens,drawn:=s.drawn,toks:=tk,os:=s.os }) Vq hI (by rw[vl,wl];exact hz) λout ns q1 q2 q3=>⟨_,rfl,?_⟩;obtain⟨n,e⟩:=sortedHeap_at (h:=h') (a:=D) (vs:=vs) (n:=0) (out:=out) Vq;have ks:∀b o,b≠D->h'.get? b=some o->(sortedHeap h' D vs out).get? b=some o:=λb o nb eb=>SetM.Bb nb eb;have neD:∀{b:Addr} {o:Obj},s.heap.get? b=some o->b≠D:=λ{b o} e z=>by rw[z,nD]at e;cases e
 have hlen:(ns.map V.int).length<=sizeLine:=by
  rw[Yv,q2.length_eq];exact Nat.le_of_lt (Nat.lt_trans hz QI)
 obtain⟨J,fD⟩:=I.lay2 (h':=sortedHeap h' D vs out) (D:=D) (u:=.lst (ns.map V.int)) (t':=tk) hn (Zyb f'.ns λo e=>ks _ o (λz=>nDL z.symm) e) (λb o nb eb=>ks b o (neD eb) (ka b o nb eb)) nD ⟨hlen,out.toList,n,Lr q1,by simpa using e⟩;exact⟨.ref D,_,J,rfl,q D ns fD q2 q3⟩
end
theorem Xd{P:Nat->Key->Value->Prop}:∀{XQ:List (Key×V)} (o:Nat),(∀j k v,XQ[j]?=some (k,v)->∃w,RelV v w/\P (o+j) k w)->∃rs,KV XQ rs/\∀j k w,rs[j]?=some (k,w)->P (o+j) k w
 | [],o,_=>⟨[],.nil,λj k w e=>by simp at e⟩
 | (k,v)::XQ,o,h=>by
  obtain⟨w,Ic,pw⟩:=h 0 k v rfl
  obtain⟨rs,kv,pr⟩:=Xd (P:=P) (XQ:=XQ) (o+1) λj k' v' e=>by
   obtain⟨w',a,b⟩:=h (j+1) k' v' e;exact⟨w',a,by rw[Nat.add_assoc,Nat.add_comm 1 j];exact b⟩
  refine⟨(k,w)::rs,.cons ⟨rfl,Ic⟩ kv,λj k' w' e=>?_⟩;cases j with
  | zero =>
   have e':(k,w)=(k',w'):=by simpa using e
   cases e';exact pw
  | succ j =>
   have:=pr j k' w' (by simpa using e);rw[Nat.add_assoc,Nat.add_comm 1 j]at this;exact this
def Mr(XQ:List (Key×V)):List (Key×V):=XQ.foldl (λacc kv=>putK acc kv.1 kv.2) []
theorem b7:∀{XQ:List (Key×V)} {rs:List (Key×Value)} {a:List (Key×V)} {b:List (Key×Value)},KV XQ rs->KV a b->KV (XQ.foldl (λacc kv=>putK acc kv.1 kv.2) a) (rs.foldl (λacc kv=>stored acc kv.1 kv.2) b)
 | _,_,_,_,.nil,h=>h
 | (k,v)::XQ,(k',v')::rs,_,_,.cons r t,h=>by
  have e:k=k':=r.1;subst e;rw[List.foldl_cons,List.foldl_cons];exact b7 (XQ:=XQ) (rs:=rs) t (h.put k r.2)
theorem Kf:∀(XQ a:List (Key×V)),(XQ.foldl (λacc kv=>putK acc kv.1 kv.2) a).length<=a.length+XQ.length
 | [],a=>by simp
 | p::XQ,a=>by
  have:=Kf XQ (putK a p.1 p.2);have:=Ml a p.1 p.2;rw[List.foldl_cons,R1];omega
section
variable{X:Cx}
theorem Mq(hc:X.calm=true):Jm X (.type "dict") (λxs H Q=>∃(a:Addr) (ys:ZZ) (XQ:List (Key×V)),xs=[.ref a]/\Zp X.K H a ys/\ys.length=XQ.length/\(∀(j:Nat) (k:Key) (v:V),XQ[j]?=some (k,v)->∃p,ys[j]?=some (.ref p)/\Zp X.K H p [kV k,v]) /\
  ∀D,H D=none->Q (.ref D) (upd H D (.dK (Mr XQ)))):=by
 intro XX s Z H xs us Q I r h;obtain⟨a,ys,XQ,rfl,sq,hl,hp,q⟩:=h;obtain⟨u,rfl,rx⟩:=vals1 r;cases rx;obtain⟨XJ,rv,⟨o,e1,e2,⟨n,e3⟩,e4⟩,hz⟩:=I.tupleN sq;obtain⟨oc,od,dt,sl⟩:=o;obtain rfl:oc=_:=e2;obtain rfl:dt=_:=e3;obtain rfl:od=none:=e4
 obtain⟨rs,kv,pr⟩:=Xd (P:=λj k w=>∃p u,XJ.toArray[j]?=some (.ref p)/\IsTup s.heap p #[u,w]/\(Z8 X.prog X.w).is k u=true) (XQ:=XQ) 0 λj k v e=>by
  obtain⟨p,ep,sp⟩:=hp j k v e;obtain⟨jts,jr,tp,_⟩:=I.tuple sp;cases jr with
  | cons j1 j2=>cases j2 with
   | cons j2 j3 =>
    cases j3;obtain⟨w,ew,Ic⟩:=rv.get ep;cases Zc Ic;exact⟨_,j2,p,_,by simpa using ew,tp,Wt j1⟩
 have lr:XJ.toArray.size=rs.length:=by rw[Mw, <-rv.length,hl,kv.length]
 have pr':∀(j:Nat) (k:Key) (w:Value),rs[j]?=some (k,w)->∃p u,XJ.toArray[j]?=some (.ref p)/\IsTup s.heap p #[u,w]/\(Z8 X.prog X.w).is k u=true:=λj k w e=>by
  have:=pr j k w e;rw[Nat.zero_add]at this;exact this
 have kz:XQ.length<=sizeLine:=by rw[<-hl];exact hz
 refine DicP2.yw (knd:=Z8 X.prog X.w) (rs:=rs) (I.ok.hd hc) e1 ⟨lr,pr'⟩ (by rw[<-kv.length];exact kz) (λp hm=>?_) λh' tk kp dd=>?_
 .obtain⟨j,hj⟩:=List.mem_iff_getElem?.mp hm
  have hjl:j<rs.length:=by
   rw[<-lr];have:=(Bl.mp hj).1;simpa using this
  obtain⟨p',u,a1,tp,_⟩:=pr' j _ _ (Bh hjl);have:Value.ref p=Value.ref p':=Fk ((show XJ.toArray[j]?=some (.ref p) by simpa using hj).symm.trans a1);cases this;exact tp.lt
 .refine⟨.ref s.heap.objs.size,_,I.laid (o:=.dK (Mr XQ)) (t':=tk) kp (Yt _) (Ay ?_ (ij.mpr (Ne.symm (Nj I.big))) (vs:=DicP2.stK rs rs.length) ?_ dd),rfl,q _ (I.hok.fresh (Yt _))⟩
  .have:=Kf XQ [];unfold Mr;simp only[List.length_nil,Nat.zero_add]at this;omega
  .unfold DicP2.stK Mr;rw[Ss];exact b7 kv .nil
end
section
variable{X:Cx}{XX:Vs}{j:St}{H:Hp}{s:Shared}
end
end L2
namespace DctT
open PySem PySem.SeqAt PySem.MeetsSeq
open PySem.AutoSeq1 (wpAny_loadPart')
end DctT
namespace L2
open PySem PySem.Spec PyProof.Rows
section
variable{X:Cx}
end
section
variable{X:Cx}
inductive Io(K:W.Frag)(A:Around)(x:V)(y:V)(H:Hp)(Q:VK):Prop
 | mk(a b xs)(Vx:x=.ref a)(Vz:y=.ref b)(Vp:Zp K H a xs)(Jn:Zp K H b [])(Mf:A.units<cLine)(Co:Q (.bl (!xs.isEmpty)) H)
theorem E5:M4 X (compareOp .NotEq) (λx y H Q=>Io X.K X.A x y H Q):=by
 intro XX s Z H x y v u Q I rx ry h;obtain⟨a,b,xs,rfl,rfl,ha,hb,hu,q⟩:=h;cases rx;cases ry;obtain⟨i1,r1,p1,z1⟩:=I.tuple ha;obtain⟨i2,r2,p2,z2⟩:=I.tuple hb;have e2:i2=[]:=by cases r2;rfl
 subst e2;have:=SeqAt.RcNeAt.tuples (A:=X.A) (e:=λ_=>true) (show s.heap.IsTuple a i1.toArray from p1) (show s.heap.IsTuple b #[] from p2) hu (λj h1 h2=>absurd h2 QE)
 have e:((List.range (min i1.toArray.size (#[]:ZT).size)).all (λ_=>true)&&i1.toArray.size==(#[]:ZT).size)=xs.isEmpty:=by
  have hl:=r1.length;cases xs with
  | nil =>
   have e1:i1=[]:=by cases r1;rfl
   subst e1;rfl
  | cons x xs =>
   rw[Mw, <-hl];simp
 rw[e]at this;exact this X.prog X.w X.xe _ ⟨.bl _,H,I,rfl,q⟩
end
end L2
namespace EX
open PySem
theorem je(h:e1.frame=e2.frame)(x:Value):noteFrame x e1=noteFrame x e2:=by
 unfold noteFrame frameOf;rw[h]
section
variable{M:Model}{A:Around}{E:Ya}{s:Shared}{env:Env}{outer:List Env}{base:Heap}{L e T:Addr}{oe oT:Obj}{vs ts:ZT}{x:Value}{Q:ZP}
theorem Zqx(A1:A.frames=some (env::outer))(hl:s.heap.FunFrames base (env::outer))(hf:env.frame=some L)
  (he:s.heap.get? e=some oe) (hd:oe.data=.fields vs) (h1:vs[1]?=some (.ref T)) (hT:s.heap.get? T=some oT) (Fz:oT.data=.fields ts) (h3:ts[3]?=some x) (hTe:T≠e)
  (ur:(s.heap.update T (Obj.mapFields (·.setIfInBounds 3 .none))).FunFrames base (env::outer))
  (h0:Q () s) (h:∀h' T',z9 (env::outer) e T' oe (s.heap.update T (Obj.mapFields (·.setIfInBounds 3 .none))) h'->Q () { s with heap:=h' }):wpAny M A (noteFrame (.ref e) env) Q E s:=by
 have hz:1<vs.size:=(Array.getElem?_eq_some_iff.mp h1).1;unfold noteFrame;simp only[hf];refine Zn (wpAny_field he hd h1 ?_);rw[if_pos (show (Value.ref T != Value.none)=true from by simp)];refine Zn (wpAny_field hT Fz h3 ?_);by_cases hx:(x==rawInt L)=true
 .rw[if_pos hx];exact Z4 h0
 rw[if_neg hx];refine Zn (wpAny_setField hT Fz (Array.getElem?_eq_some_iff.mp h3).1 ?_);have e0:(s.heap.update T (Obj.mapFields (·.setIfInBounds 3 .none))).get? e=some oe:=(Heap.get?_update_other _ _ hTe).trans he;have uc:=Fw (s:={ s with heap:=s.heap.update T (Obj.mapFields (·.setIfInBounds 3 .none)) }) ur e0 hd;refine Zn (wpAny_frameOf_fun (s:={ s with heap:=s.heap.update T (Obj.mapFields (·.setIfInBounds 3 .none)) }) A1 ur hf λh₁ sl=>Zn (wpAny_entryPlaceOf λpl Tb=>?_));unfold EntryCells.newEntry newFields;refine Zn (wpAny_newObj_type ?_ (Tb.sizeOk5 _ _ _ _ _));have e1:h₁.get? e=some oe:=(sl.2.1 e uc).trans e0;have z1:h₁.objs.size=_:=sl.1;refine wpAny_setField (Uz _ e1) hd hz (h _ h₁.objs.size ⟨λb o hb hn q=>?_,λb o hb q=>?_,?_,Nat.le_of_eq z1.symm,?_⟩)
 .exact(Heap.get?_update_other _ _ (Ne.symm hb)).trans (Uz _ ((sl.2.1 b hn).trans q))
 .obtain⟨y,q'⟩:=sl.2.2 b o q;exact⟨y,(Heap.get?_update_other _ _ (Ne.symm hb)).trans (Uz _ q')⟩
 .exact Heap.get?_update_self _ (Uz _ e1) (Obj.isFreed_of_fields (Obj.data_mapFields hd _))
 .refine⟨_,_,(Heap.get?_update_other _ _ (Nj (Ut e1))).trans (M7 h₁ rfl),rfl,?_⟩;simp only[Mw,Nl,R1,List.length_nil];omega
theorem Zv6{j:Type}{what:String}{Q:j->Shared->Prop}(he:s.heap.get? e=some oe)(hd:oe.data=.fields vs)(h1:vs[1]?=some (.ref T))(hT:s.heap.get? T=some oT)(Fz:oT.data=.fields ts)(hz:3<ts.size)
  (h:∀h',(∀b,b≠T->h'.get? b=s.heap.get? b)->(∃oT ts,h'.get? T=some oT/\oT.data=.fields ts/\3<ts.size)->E (.ref e) { s with heap:=h' }):wpAny M A (passOn what (.ref e) env:Sem j) Q E s:=by
 unfold passOn;refine Zn (wpAny_field he hd h1 ?_);rw[if_neg (show ¬ ((Value.ref T==Value.none)=true) from by simp)];unfold setFlight;refine Zn (Zn (wpAny_field he hd h1 ?_));rw[if_pos (show (Value.ref T != Value.none)=true from by simp)];refine wpAny_setField hT Fz hz (wpAny_throw (h _ (λb hb=>Heap.get?_update_other _ _ (Ne.symm hb)) ⟨_,_,Heap.get?_update_self _ hT (Obj.isFreed_of_fields (Obj.data_mapFields Fz _)),Obj.data_mapFields Fz _,?_⟩));rw[Array.size_setIfInBounds];exact hz
end
end EX
namespace L2
open PySem PySem.Spec PyProof.Rows
def Zfw(h:Heap)(a T:Addr):Prop:=∃oe vs oT ts,h.get? a=some oe/\oe.data=.fields vs/\vs[1]?=some (.ref T)/\h.get? T=some oT/\oT.data=.fields ts/\3<ts.size
def XWF(X:Cx)(W:Au):Prop:=∀(XX:Vs) (j:St) (H:Hp) (s:Shared) (a C:Addr) (od:ZS) (new:Bool) (T:Addr),Inv X XX j H s->H a=some (Mh a C od new)->Zfw s.heap a T->Nt X XX H T->W j (upd H a (Mh a C od false)) a C od->X.xe (.ref a) s
section
variable{X:Cx}{XX:Vs}{j:St}{H:Hp}{s s':Shared}
theorem Inv.turnT(I:Inv X XX j H s)(fp:Nt X XX H T)(k:∀b,b≠T->h'.get? b=s.heap.get? b):Inv X XX j H { s with heap:=h',toks:=t' } :=
 I.turned (t':=t') (it:=T) (λb o hb e=>(k b hb).trans e) fp.1 fp.2.1 fp.2.2.2.1 fp.2.2.2.2.1 fp.2.2.2.2.2
theorem uy(I:Inv X XX j H s)(ea:H a=some (Mh a C od new))(q:Zfw s.heap a T)(fp:Nt X XX H T)(Ez:X.stack=X.env::X.outer)(A1:X.env.frame=some X.env.locals)
  (k:∀h',Inv X XX j (upd H a (Mh a C od false)) { s with heap:=h' }->QX h' a->Q () { s with heap:=h' }):wpAny M X.A (leaving X.env (.ref a)) Q E s:=by
 obtain⟨oe,vs,oT,ts,he,hd,h1,hT,Fz,hz3⟩:=q;obtain⟨vs',sl,hx,z1,z2⟩:=I.hok.xo ea;rw[he]at hx;cases hx;cases hd;have nTa:T≠a:=λz=>by rw[<-z,fp.1]at ea;cases ea
 have hz1:1<vs.size:=(Array.getElem?_eq_some_iff.mp h1).1;have fr:X.A.frames=some (X.env::X.outer):=by rw[I.ok.frames,Ez]
 have hl:s.heap.FunFrames X.base (X.env::X.outer):=by rw[<-Ez];exact I.stack
 have k1:∀b,b≠T->(s.heap.update T (Obj.mapFields (·.setIfInBounds 3 .none))).get? b=s.heap.get? b:=λb hb=>Heap.get?_update_other _ _ (Ne.symm hb);have I1:Inv X XX j H { s with heap:=s.heap.update T (Obj.mapFields (·.setIfInBounds 3 .none)) }:=I.turnT (t':=s.toks) fp k1;have ur:(s.heap.update T (Obj.mapFields (·.setIfInBounds 3 .none))).FunFrames X.base (X.env::X.outer):=by rw[<-Ez];exact I1.stack
 have e0:(s.heap.update T (Obj.mapFields (·.setIfInBounds 3 .none))).get? a=some ⟨.ref C,od,.fields vs,sl⟩:=(k1 a (Ne.symm nTa)).trans he;unfold leaving;refine Zn (EX.Zqx fr hl A1 he rfl h1 hT Fz (ow hz3) nTa ur ?_ λg1 T' N=>?_)
 .refine wpAny_setFlight_none he rfl h1 hT Fz hz3 ?_
  have nw:new=false:=by
   cases new with
   | false=>rfl
   | true =>
    have z:=z2 rfl;rw[h1]at z;cases z
  subst nw;refine k _ (by rw[A6 ea];exact I1) ⟨_,_,e0,rfl,.inr ⟨T,_,_,h1,Heap.get?_update_self _ hT (Obj.isFreed_of_fields (Obj.data_mapFields Fz _)),Obj.data_mapFields Fz _,?_⟩⟩;simp[hz3]
 .obtain⟨oT',ts',hT',Zq8,hz'⟩:=N.tb;have e1:g1.get? a=some ⟨.ref C,od,.fields (vs.setIfInBounds 1 (.ref T')),sl⟩:=N.exc;have v1:(vs.setIfInBounds 1 (.ref T'))[1]?=some (.ref T'):=by simp[hz1]
  have nT:a≠T':=λz=>Nat.lt_irrefl _ (R0 (Ut (z ▸ e0)) N.new);refine wpAny_setFlight_none (s:={ s with heap:=g1 }) e1 rfl v1 hT' Zq8 hz' ?_;have k2:∀b,b≠T'->(g1.update T' (Obj.mapFields (·.setIfInBounds 3 .none))).get? b=g1.get? b:=λb hb=>Heap.get?_update_other _ _ (Ne.symm hb);have e2:=(k2 a nT).trans e1;refine k _ (I1.noted (T:=T') ea (by rw[Ez];exact N) k2 ⟨_,sl,e2,by simp[hz1],λz=>nomatch z⟩) ⟨_,_,e2,rfl,.inr ⟨T',_,_,v1,Heap.get?_update_self _ hT' (Obj.isFreed_of_fields (Obj.data_mapFields Zq8 _)),Obj.data_mapFields Zq8 _,?_⟩⟩;simp[hz']
end
theorem Zzy{P:Program}{w:World}{K:W.Frag}{mg:G6}{base:Heap}{N:ZF}{qual:Str}{scope:Scope}{f:Addr}{cd:Value}{A:Around}{outer:List Env}{s:Shared}{H:Hp}{E:XK} :
  XWF (O3 (xb P w) P w K mg base N qual scope f cd A outer s H E) (λ_ H' _ C od=>E (.ref C) od H'):=by
 intro XX j H' s' a C od new T I ea q fp e;refine uy (X:=O3 (xb P w) P w K mg base N qual scope f cd A outer s H E) I ea q fp rfl rfl λh' J q'=>?_;exact⟨a,_,C,od,rfl,J.os,J.bare,J.base,J.hok,Zz,q',e⟩
def xeC(X:Cx)(scope:Scope)(N:ZF)(W:Au)(j:St)(fp:ZH)(S3:Shared)(H3:Hp):ZQ:=λv s' =>
 ∃(a:Addr) (σ':St) (H':Hp) (C:Addr) (od:ZS) (new:Bool),v=.ref a/\Inv (Z6 X scope N fp S3 H3) [] σ' H' s'/\H' a=some (Mh a C od new)/\QX s'.heap a/\W j (upd H' a (Mh a C od false)) a C od
noncomputable def Bz(X:Cx)(scope:Scope)(N:ZF)(W:Au)(j:St)(fp:ZH)(S3:Shared)(H3:Hp):Cx:=(Z6 X scope N fp S3 H3).wish (xeC X scope N W j fp S3 H3)
theorem kd{X:Cx}{scope:Scope}{N:ZF}{W:Au}{j:St}{fp:ZH}{s:Shared}{H:Hp}:XW (Bz X scope N W j fp s H) (λ_=>W j):=by
 intro XX σ' H' s' a C od new I ea q w';exact⟨a,σ',H',C,od,new,rfl,(Inv.unwish I).pins_of (λp hp=>absurd hp QE),ea,q,w'⟩
def Zzs(wi:TI)(fr:ZY)(g:St->DG)(tt:St->DT)(te:St->DE):TE:=λj H Q=>wi j H λJ H1=>∀D fp sx,H1 D=none ->
 ∃W:Nat->Nat->ZZ->St->Hp->Prop,(∃m,W 0 m [] (frees fr j) (upd H1 D (.lst [])))/\Nn J (g j fp sx (upd H1 D (.lst []))) (tt j fp sx (upd H1 D (.lst []))) (te j fp sx (upd H1 D (.lst []))) D W (λH=>Q (.ref D) H)
section
variable{X:Cx}{scope:Scope}{N:ZF}{fr:ZY}{tg elt iter:Expr}{ifs:ZD}{pos:Pos}{wi:TI}{g:St->DG}{tt:St->DT}{te:St->DE}{W:Au}
theorem Zxs(hw:XWF X W)(Ez:X.stack=X.env::X.outer)(A1:X.env.frame=some X.env.locals)(hc:X.calm=true)(hi:PI X tg iter wi)(C:Bg X NX outer scope N fr)
  (hg:∀j fp s H,PG (Bz X scope N W j fp s H) tg (g j fp s H)) (ht:∀j fp s H,PTs (Bz X scope N W j fp s H) ifs (tt j fp s H)) (he:∀j fp s H,PE (Bz X scope N W j fp s H) elt (te j fp s H))
  (hs:∀x,foldedSetIterable iter X.env x=pure x:=by intro _;rfl):PE X (.ListComp elt [⟨tg,iter,ifs,0⟩] scope pos) (Zzs wi fr g tt te):=by
 intro XX s j H Q I h;have C:=C.ok I.ok;rw[eval_ListComp];refine wpAny_comprehension_free (use:=none) rfl hs C.clos C.kind C.names (Y7 (hi XX s j H _ I h) λv s1 h1=>Y7 h1 λitv s2 h2=>?_);obtain⟨it,fp,tn,J,H2,e,I2,T,qk,f2,hW⟩:=h2;subst e;refine Km (RR:=λacc Cc=>compPost (model X.prog X.w) X.A X.xe none (EP X XX j Q) acc Cc) (xe:=xeC X scope N W j) hc C (hg j) (ht j) (he j) I2 T qk f2 hW ?_ ?_
 .intro D Cc s' fl H' m I' f0 f1 f2' f3 f4 f5 hns fi;refine⟨m,hns,λh' sb=>?_⟩;exact⟨.ref D,H',I'.turned (t':=s'.toks) (λb o hb e=>(sb.2 b hb).trans e) f0 f1 (.inr f3) f4 f5,rfl,fi⟩
 .rintro D S3 H3 I3 f3 v s' ⟨a,σ',H',C0,od,new,rfl,J,ea,qx,w'⟩;show wpAny _ X.A (noteFrame (.ref a) (Z6 X scope N fp S3 H3).env) _ _ s';rw[EX.je (e1:=(Z6 X scope N fp S3 H3).env) (e2:=X.env) rfl];have I':Inv X XX j H' s':=Of I3 f3 J;obtain⟨oe,vs,he0,hd,qv⟩:=qx;obtain⟨vs',sl,hx,z1,_⟩:=I'.hok.xo ea;rw[he0]at hx;cases hx;cases hd;have fr:X.A.frames=some (X.env::X.outer):=by rw[I'.ok.frames,Ez]
  have hl:s'.heap.FunFrames X.base (X.env::X.outer):=by rw[<-Ez];exact I'.stack
  refine EX.P2 fr hl A1 he0 rfl qv λg1 T N1=>?_;have e1:g1.get? a=some ⟨.ref C0,od,.fields (vs.setIfInBounds 1 (.ref T)),sl⟩:=N1.exc;have v1:(vs.setIfInBounds 1 (.ref T))[1]?=some (.ref T):=by simp[z1]
  have I1:Inv X XX j (upd H' a (Mh a C0 od false)) { s' with heap:=g1 }:=I'.noted (T:=T) ea (by rw[Ez];exact N1) (λ_ _=>rfl) ⟨_,sl,e1,by simp[z1],λz=>nomatch z⟩;obtain⟨mm,⟨o,es,ep,ho,r⟩,_⟩:=J.loc;have fC:H' S3.heap.objs.size=none:=J.free;have nCa:S3.heap.objs.size≠a:=λz=>by rw[<-z,fC]at ea;cases ea
  have nCf:S3.heap.objs.size∉(X.env::X.outer).filterMap (·.frame):=λhb=>by
   rw[<-Ez]at hb;rcases U8.mp (I3.stkSub _ hb) with z | z
   .exact Nat.ne_of_gt I3.lt z
   .exact I3.nofs (Yt _) z
  refine⟨mm,⟨o,es,ep,N1.keep _ o nCa nCf ho,r⟩,λh' sb cenv _=>?_⟩;have fpC:Nt X XX (upd H' a (Mh a C0 od false)) S3.heap.objs.size:=I3.fpOk (Yt _) (by rw[Zm nCa];exact fC);have I2:Inv X XX j (upd H' a (Mh a C0 od false)) { s' with heap:=h' }:=I1.turnT (t':=s'.toks) fpC λb hb=>sb.2 b hb;have e2:=(sb.2 a (Ne.symm nCa)).trans e1;obtain⟨oT,ts,hT,Fz,hz3⟩:=N1.tb;have nTa:T≠a:=λz=>Nat.lt_irrefl _ (R0 (Ut he0) (by rw[<-z];exact N1.new));have nTC:T≠S3.heap.objs.size:=λz=>Nat.lt_irrefl _ (R0 (Ut ho) (show _<=S3.heap.objs.size by rw[<-z];exact N1.new));have hT2:=(sb.2 T nTC).trans hT;have fpT:Nt X XX (upd H' a (Mh a C0 od false)) T:=I'.fpOk N1.new (by rw[Zm nTa];exact I'.hok.fresh N1.new);refine EX.Zv6 (s:={ s' with heap:=h' }) e2 rfl v1 hT2 Fz hz3 λh2 k2 ⟨oT2,ts2,hT3,hdT2,hz2⟩=>?_;have I4:Inv X XX j (upd H' a (Mh a C0 od false)) { s' with heap:=h2 }:=I2.turnT (s:={ s' with heap:=h' }) (t':=s'.toks) fpT k2;exact hw XX j _ _ a C0 od false T I4 Zz ⟨_,_,_,_,(k2 a (Ne.symm nTa)).trans e2,rfl,v1,hT3,hdT2,hz2⟩ fpT (by rw[R3];exact w')
end
section
variable{X:Cx}
theorem E4(NX:ZF)(outer:Scope)(N:ZF)(fr:ZY){scope:Scope}{tg elt iter:Expr}{ifs:ZD}{pos:Pos}{wi:TI}{g:St->DG}{tt:St->DT}{te:St->DE}{W:Au}(hw:XWF X W)(Ez:X.stack=X.env::X.outer)(A1:X.env.frame=some X.env.locals)(hc:X.calm=true)(hi:PI X tg iter wi)(C:Bg X NX outer scope N fr)
  (hg:∀j fp s H,PG (Bz X scope N W j fp s H) tg (g j fp s H)) (ht:∀j fp s H,PTs (Bz X scope N W j fp s H) ifs (tt j fp s H)) (he:∀j fp s H,PE (Bz X scope N W j fp s H) elt (te j fp s H))
  (hs:∀x,foldedSetIterable iter X.env x=pure x:=by intro _;rfl):PE X (.ListComp elt [⟨tg,iter,ifs,0⟩] scope pos) (Zzs wi fr g tt te):=Zxs hw Ez A1 hc hi C hg ht he hs
end
theorem ah{K:PySem.W.Frag}{a D:Addr}{xs:ZZ}{g:TG}{tt:TT}{te:TE}{fin:Hp->Prop}{σ0:St}{H0:Hp}(Pv:Nat->ZZ->St->Hp->Prop)(h0:Pv 0 [] σ0 H0)
  (hq:∀i ys j H,i<=xs.length->Pv i ys j H->Zp K H a xs/\H D=some (.lst ys))
  (hs:∀i x p ys j H,xs[i]?=some x->Pv i ys j H->H p=none->g (.ref p) j (upd H p (.tup [.int i,x])) λσ2 H2=>tt σ2 H2 λok H3=>if ok=true then te σ2 H3 λy H4=>H4 D=some (.lst ys)/\ys.length<sizeLine/\Pv (i+1) (ys++[y]) σ2 (upd H4 D (.lst (ys++[y]))) else Pv (i+1) ys σ2 H3)
  (hd:∀ys j H,Pv xs.length ys j H->fin H):∃W:Nat->Nat->ZZ->St->Hp->Prop,(∃m,W 0 m [] σ0 H0)/\Nn (Itn K a xs) g tt te D W fin:=by
 refine⟨λi m ys j H=>m=xs.length-i/\i<=xs.length/\Pv i ys j H,⟨xs.length,by simp,Dc _,h0⟩,?_⟩;rintro i m ys j H ⟨rfl,hi,p⟩;obtain⟨q,hD⟩:=hq i ys j H hi p;refine⟨hD,?_⟩;by_cases G9:i<xs.length
 .refine .inr ⟨⟨G9,q⟩,Pv (i+1),λys' σ' H' p'=>⟨xs.length-(i+1),by omega,rfl,G9,p'⟩,λx H' y=>?_⟩;obtain⟨r,z,rfl,hr,rfl,hz⟩:=y;exact hs i z r ys j H hz p hr
 .have e:i=xs.length:=QU
  subst e;exact .inl ⟨⟨Yt _,q⟩,hd ys j H p⟩
section
variable{X:Cx}
inductive jt(x:V)(y:V)(H:Hp)(Q:VK):Prop
 | mk(i:Str)(n:Int)(Vx:x=.str i)(Vz:y=.int n)(Vp:2<=n)(Jn:n<=1000)(Mf:i.length<=1000)(Co:∀z:Str,z.length<=n.toNat*i.length->(∀c∈z.cps.toList,c∈i.cps.toList)->Q (.str z) H)
theorem Zxe:M4 X (binaryOp .Mult) (λx y H Q=>jt x y H Q):=by
 intro XX s j H x y v u Q I rx ry h;obtain⟨i,n,rfl,rfl,n2,n1,i1,q⟩:=h;by_cases i0:i.length=0
 .obtain⟨t,rfl⟩:=rx;obtain⟨t',rfl⟩:=ry;have c1:¬ n<1:=QU
  have c2:(n==1 || i.length==0)=true:=by rw[i0];simp
  refine PySem.P.mul_str ?_ (λ_ z=>?_) (λ_ z=>?_) ?_
  .rw[Bool.or_eq_false_iff];exact⟨F9 QU,F9 QU⟩
  .rw[c2]at z;cases z
  .rw[c2]at z;cases z
  .rw[if_neg c1,if_pos c2];exact⟨.str i,H,I,⟨_,rfl⟩,q i (by rw[i0];exact Dc _) λc m=>m⟩
 .refine bz XX s j H _ _ v u Q I rx ry ⟨i,n,rfl,rfl,n2,n1,i0,i1,q _ (Nat.le_of_eq (Ir i _)) λc m=>?_⟩;rw[Pm]at m;obtain⟨l,ml,mc⟩:=List.mem_flatten.mp m;rw[List.eq_of_mem_replicate ml]at mc;exact mc
end
section
variable{X:Cx}
inductive Zxg(K:W.Frag)(A:Around)(x:V)(y:V)(H:Hp)(Q:VK):Prop
 | mk(a b xs)(Vx:x=.ref a)(Vz:y=.ref b)(Vp:Zu K H a xs)(Jn:Zu K H b [])(Mf:A.units<cLine)(Co:Q (.bl (!xs.isEmpty)) H)
def rNeNil(K:W.Frag)(A:Around):R2:=λx y H Q=>Zxg K A x y H Q
theorem Ii:M4 X (compareOp .NotEq) (rNeNil X.K X.A):=by
 intro XX s Z H x y v u Q I rx ry h;obtain⟨a,b,xs,rfl,rfl,ha,hb,hu,q⟩:=h;cases rx;cases ry;obtain⟨i1,r1,p1,z1⟩:=I.list ha;obtain⟨i2,r2,p2,z2⟩:=I.list hb;have e2:i2=[]:=by cases r2;rfl
 subst e2;cases xs with
 | nil =>
  have e1:i1=[]:=by cases r1;rfl
  subst e1;have:=SeqAt.RcNeAt.lists (A:=X.A) (e:=λ_=>true) p1.isList p2.isList rfl hu (λj h1 h2=>absurd h1 QE);exact this X.prog X.w X.xe _ ⟨.bl _,H,I,rfl,q⟩
 | cons x xs =>
  have hl:=r1.length;exact SeqAt.RcNeAt.lists_lengths (A:=X.A) p1.isList p2.isList (by rw[Mw, <-hl];rfl) hu X.prog X.w X.xe _ ⟨.bl _,H,I,rfl,q⟩
inductive Zxf(K:W.Frag)(A:Around)(x:V)(y:V)(H:Hp)(Q:VK):Prop
 | mk(a p)(cs:List (Addr×ZZ))(Vx:x=.ref a)(Vz:y=.ref p)(Vp:Zu K H a [])(Jn:Zu K H p (cs.map λz=>.ref z.1))(Mf:∀z∈cs,z.1≠a/\H z.1=some (.lst z.2))(Co:A.units+10<cLine)(Xo:Q (.bl (cs.any λz=>z.2.isEmpty)) H)
def rInNil(K:W.Frag)(A:Around):R2:=λx y H Q=>Zxf K A x y H Q
theorem Zx2:M4 X (compareOp .In) (rInNil X.K X.A):=by
 intro XX s Z H x y v u Q I rx ry h;obtain⟨a,p,cs,rfl,rfl,ha,hq,hc,hu,q⟩:=h;cases rx;cases ry;obtain⟨XJ,r,pl,hz⟩:=I.list hq;obtain⟨i2,r2,p2,z2⟩:=I.list ha;have e2:i2=[]:=by cases r2;rfl
 subst e2
 classical
 have at_:∀{w:Value},w∈XJ->∃z∈cs,w=.ref z.1:=λ{w} hw=>by
  obtain⟨i,hi⟩:=List.getElem?_of_mem hw;have hl:=(Bl.mp hi).1;have ll:=r.length;rw[Yv]at ll;obtain⟨z,ez⟩:∃z,cs[i]?=some z:=⟨_,Bh QU⟩;obtain⟨w',hw',rr⟩:=Yj.get r (show (cs.map λz=>V.ref z.1)[i]?=some (.ref z.1) by rw[Jb,ez];rfl);rw[hi]at hw';cases hw';cases rr;exact⟨z,Cr ez,rfl⟩
 have key:∀z∈cs,decide (∃z'∈cs,Value.ref z.1=.ref z'.1/\z'.2=[])=z.2.isEmpty:=λz mz=>by
  cases e:z.2 with
  | nil=>exact Sd ⟨z,mz,rfl,e⟩
  | cons w ws =>
   refine F9 λ⟨z',mz',h1,h2⟩=>?_;have h3:=(hc z mz).2
   injection h1 with h1
   rw[h1,(hc z' mz').2,e,h2]at h3;cases h3
 refine SeqAt.in_listAt (λw=>decide (∃z∈cs,w=.ref z.1/\z.2=[])) pl.isList (λw hw=>?_) ⟨.bl _,H,I,rfl,?_⟩
 .obtain⟨z,mz,rfl⟩:=at_ (show w∈XJ by simpa using hw);show SeqAt.EqAt X.A.in1 s _ _ (decide _);rw[key z mz];obtain⟨i1,r1,p1,z1⟩:=I.list (Zu.of (hc z mz).2);have hu1:X.A.in1.units<cLine:=by show X.A.units+1<cLine;omega
  refine SeqAt.EqAt.of_refs (hc z mz).1 ?_;cases e:z.2 with
  | nil =>
   rw[e]at r1;have e1:i1=[]:=by cases r1;rfl
   subst e1;exact SeqAt.RcAt.lists (A:=X.A.in1) (e:=λ_=>true) p1.isList p2.isList rfl hu1 (λj h1 h2=>absurd h1 QE)
  | cons x xs =>
   have hl:=r1.length;rw[e]at hl;exact SeqAt.RcAt.lists_lengths (A:=X.A.in1) p1.isList p2.isList (by rw[Mw, <-hl];rfl) hu1
 .have e:(XJ.toArray.any λw=>decide (∃z∈cs,w=.ref z.1/\z.2=[]))=cs.any λz=>z.2.isEmpty:=by
   rw[Bool.eq_iff_iff];simp only[List.any_toArray,List.any_eq_true,decide_eq_true_eq];constructor
   .rintro⟨w,hw,z,mz,_,h⟩;exact⟨z,mz,by rw[h];rfl⟩
   .rintro⟨z,mz,h⟩;obtain⟨j,hj⟩:=List.getElem?_of_mem mz;obtain⟨w',hw',rr⟩:=Yj.get r (show (cs.map λz=>V.ref z.1)[j]?=some (.ref z.1) by rw[Jb,hj];rfl);cases rr;exact⟨_,Cr hw',z,mz,rfl,by simpa using h⟩
  rw[e];exact q
end
end L2
namespace K25
open PySem PySem.Spec PyProof.Rows L2 K01
section
variable{P:Program}{w:World}{K:W.Frag}{mg:G6}{base:Heap}{f:Addr}{fd:FuncData}
theorem Dz:bootBuiltins "len"=some (.builtin "len"):=by decide +kernel
theorem b_all:bootBuiltins "all"=some (.builtin "all"):=by decide +kernel
theorem Zg1:bootBuiltins "min"=some (.builtin "min"):=by decide +kernel
theorem J3:bootBuiltins "isinstance"=some (.builtin "isinstance"):=by decide +kernel
theorem Yd:bootBuiltins "tuple"=some (.type "tuple"):=by decide +kernel
theorem yd:bootBuiltins "list"=some (.type "list"):=by decide +kernel
theorem b_set:bootBuiltins "set"=some (.type "set"):=by decide +kernel
theorem tq:bootBuiltins "int"=some (.type "int"):=by decide +kernel
theorem Ar:bootBuiltins "dict"=some (.type "dict"):=by decide +kernel
theorem zm:bootBuiltins "sorted"=some (.builtin "sorted"):=by decide +kernel
theorem An:bootBuiltins "repr"=some (.builtin "repr"):=by decide +kernel
theorem As:bootBuiltins "ValueError"=some (.type "ValueError"):=by decide +kernel
structure Bn(mg:G6):Prop where
 len:mg "len"=none
 all:mg "all"=none
 any:mg "any"=none
 max:mg "max"=none
 min:mg "min"=none
 isinstance:mg "isinstance"=none
 tuple:mg "tuple"=none
 list:mg "list"=none
 set:mg "set"=none
 int:mg "int"=none
 str:mg "str"=none
 bool:mg "bool"=none
 dict:mg "dict"=none
 range:mg "range"=none
 zip:mg "zip"=none
 enumerate:mg "enumerate"=none
 sorted:mg "sorted"=none
 repr:mg "repr"=none
 verr:mg "ValueError"=none
theorem Zf{X:Cx}{e:Expr}{es:ZD}{te:TE}{t:TA}(ha:PE X e te)(hr:PA X es t)(hs:starEach (e::es) X.env=(false,eval e X.env)::starEach es X.env:=by exact rfl):PA X (e::es) (Zzr te t):=Zj ha hr hs
theorem cF{X:Cx}{k j:Nat}{x:Str}{ps:ZF}{sp:Sp}{p pos:Pos}{e:Expr}{es:ZD}{t:TA}(G:Fn X.prog X.w X.K X.mg X.base k x ps sp)(hr:V8 j X.A)(ha:PA X (e::es) t)(hj:k<=j:=by omega)(hg:Gl X x:=by exact rfl)(He:(x==("__debug__" : Str))=false:=by decide)(he:starEach (e::es) X.env=(false,eval e X.env)::starEach es X.env:=by exact rfl)(Tb:(backTo pos (starEach es X.env)).any (·.1)=false:=by exact rfl):PE X (.Call (.Name x p) (e::es) [] pos) (Zzu sp [] E0 t):=Wz G (hr.mono hj) hg ha He he Tb
theorem cB{id:String}{r:ZZ->Hp->VK->Prop}(hc:Jm X (.builtin id) r)(hm:X.mg x=none)(hv:bootBuiltins x=some (.builtin id))(ha:PA X (e::es) t)(hg:Gl X x:=by exact rfl)(hn:x ≠ "__name__" := by decide)(He:(x==("__debug__" : Str))=false:=by decide)(he:starEach (e::es) X.env=(false,eval e X.env)::starEach es X.env:=by exact rfl)(Tb:(backTo pos (starEach es X.env)).any (·.1)=false:=by exact rfl):PE X (.Call (.Name x p) (e::es) [] pos) (tCB r t):=Nk hc hg hm hv ha hn He he Tb
theorem cT(hc:Jm X (.type T) r)(hm:X.mg x=none)(hv:bootBuiltins x=some (.type T))(ha:PA X (e::es) t)(hg:Gl X x:=by exact rfl)(hn:x ≠ "__name__" := by decide)(He:(x==("__debug__" : Str))=false:=by decide)(he:starEach (e::es) X.env=(false,eval e X.env)::starEach es X.env:=by exact rfl)(Tb:(backTo pos (starEach es X.env)).any (·.1)=false:=by exact rfl):PE X (.Call (.Name x p) (e::es) [] pos) (tCB r t):=Uu hc hg hm hv ha hn He he Tb
theorem iX{X:Cx}{a b:Expr}{ta tb:TE}{pos:Pos}{r:R2}(hr:IxR X r)(ha:PE X a ta)(hb:PE X b tb)(hs:cg b:=by exactλ_ _=>rfl):PE X (.Subscript a b pos) (tOp r ta tb):=Y3 hr ha hb hs
theorem tQ(ho:M4 X (compareOp op) r)(ha:PE X a ta)(hb:PE X b tb)(hm:behindInMarks op b=false:=by exact j5 _):PT X (.Compare a [op] [b] pos) (Zzd (tOp r ta tb)):=Uw ho ha hb hm
theorem eQ(ho:M4 X (compareOp op) r)(ha:PE X a ta)(hb:PE X b tb)(hm:behindInMarks op b=false:=by exact j5 _):PE X (.Compare a [op] [b] pos) (tOp r ta tb):=fh ho ha hb hm
theorem sI{X:Cx}(i:Nat){x:Str}{e:Expr}{te:TE}{pos pos':Pos}(hN:X.N.Nodup)(he:PE X e te)(hi:X.N[i]?=some x:=by exact rfl)(hx:Loc X.env.scope x:=by first | exact .inl rfl | exact .inr rfl)(hs:swapsWith e (some (.Name x pos')) pos.line X.env=pure false:=by exact rfl)(hf:X.fn x=true\/X.env.scope.names.lookup x=some .local:=by first | exact .inl rfl | exact .inr rfl):PS X (.Assign [.Name x pos'] e pos) (l7 te (D9 i)):=N0 i hN hi hx he hs hf
theorem nI{X:Cx}{scope:Scope}{N:ZF}{fp:ZH}{s:Shared}{H:Hp}(i:Nat){x:Str}{pos:Pos}(hN:N.Nodup:=by decide +kernel)(hi:N[i]?=some x:=by exact rfl)(hx:Loc (Z6 X scope N fp s H).env.scope x:=by exact .inl rfl)(hf:(Z6 X scope N fp s H).fn x=true\/(Z6 X scope N fp s H).env.scope.names.lookup x=some .local:=by first | exact .inl rfl | exact .inr rfl):PG (Z6 X scope N fp s H) (.Name x pos) (D9 i):=R9 i hN hi hx hf
theorem qs{X:Cx}{st:Stmt}{rest:List Stmt}{t u:TS}(h1:PS X st t)(h2:Ku X rest u)(_u:True:=trivial):Ku X (st::rest) (Zzt t u):=Zd h1 h2
theorem q1{X:Cx}{st:Stmt}{t:TS}(h1:PS X st t)(_u:True:=trivial):Ku X [st] t:=Z2 h1
theorem qr{X:Cx}{e:Expr}{te:TE}{pos:Pos}(he:PE X e te)(_u:True:=trivial):PS X (.Return (some e) pos) (tRet te):=Y6 he
theorem qi(hc:PT X c tc)(ha:Ku X a t)(hb:Ku X b u)(_u:True:=trivial):PS X (.If c a b pos) (tIfS tc t u):=Uo hc ha hb
theorem qt{x1}(h:PA X es t)(_u:True:=trivial):PE X (.Tuple es x1 pos) (tTup t):=Ys h
theorem qo{X:Cx}{op:Operator}{r:R2}{a b:Expr}{ta tb:TE}{pos:Pos}(ho:M4 X (binaryOp op) r)(ha:PE X a ta)(hb:PE X b tb)(_u:True:=trivial):PE X (.BinOp a op b pos) (tOp r ta tb):=Gp ho ha hb
theorem ql(h:PA X es t)(_u:True:=trivial):PE X (.List es pos) (tLst t):=Z9 h
theorem qn(ha:PT X a tA)(_u:True:=trivial):PT X (.UnaryOp .Not a pos) (tNot tA):=pt_not ha
theorem qp(h:PW X e t)(_u:True:=trivial):PT X e t:=h.pt
theorem qO{X:Cx}{a b:Expr}{rest:ZD}{tA tB':TT}{pos:Pos}(ha:PT X a tA)(hb:PW X (.BoolOp .Or (b::rest) pos) tB')(_u:True:=trivial):PW X (.BoolOp .Or (a::b::rest) pos) (tOr tA tB'):=pw_or ha hb
theorem qQ(ha:PT X a tA)(_u:True:=trivial):PW X (.BoolOp .Or [a] pos) tA:=pw_or1 ha
theorem qe{op}(h:PE X a t)(_u:True:=trivial):PE X (.BoolOp op [a] pos) t:=pe_one h
theorem qI(hl:PE X l tl)(_u:True:=trivial):PI X tg l (iTup X.K tl):=pi_tup hl
theorem qL(hl:PE X l tl)(_u:True:=trivial):PI X tg l (Zgk X.K tl):=Mc hl
theorem nJ(i:Nat)(hN:X.N.Nodup)(hi:X.N[i]?=some x:=by exact rfl)(hx:Loc X.env.scope x:=by first | exact .inl rfl | exact .inr rfl)(hf:X.fn x=true\/X.env.scope.names.lookup x=some .local:=by first | exact .inl rfl | exact .inr rfl):PG X (.Name x pos) (D9 i):=R9 i hN hi hx hf
theorem pC{X:Cx}(NX:ZF)(outer:Scope)(N:ZF)(fr:ZY){scope:Scope}{tg elt iter:Expr}{ifs:ZD}{pos:Pos}{wi:TI}{g:DG}{tt:DT}{te:DE}(hi:PI X tg iter wi)(hg:∀fp s H,PG (Z6 X scope N fp s H) tg (g fp s H))(ht:∀fp s H,PTs (Z6 X scope N fp s H) ifs (tt fp s H))(he:∀fp s H,PE (Z6 X scope N fp s H) elt (te fp s H))(hc:X.calm=true:=by exact rfl)(C:Bg X NX outer scope N fr:=by exact⟨rfl,rfl,by decide +kernel,by decide +kernel⟩)(hs:∀x,foldedSetIterable iter X.env x=pure x:=by intro _;rfl):PE X (.ListComp elt [⟨tg,iter,ifs,0⟩] scope pos) (A8 wi fr g tt te):=Gu NX outer N fr hc hi C hg ht he hs
theorem hide{G:Prop}(h:∀X:Prop,(G->X)->X):G:=h G id
theorem Z5{A B:Prop}(h:b=false)(q:B):if b=true then A else B:=by subst h;exact Wn q
theorem Vi{A B:Prop}(h:b=true)(q:A):if b=true then A else B:=by subst h;exact Wc q
theorem iN{A B:Prop}(q:B)(h:b=false:=by decide +kernel):if b=true then A else B:=Z5 h q
theorem iY{A B:Prop}(q:A)(h:b=true:=by decide +kernel):if b=true then A else B:=Vi h q
theorem _root_.L2.Fun.b1{K:W.Frag}{x qual:Str}{st:Stmt}{f:Addr}{fd:FuncData}{ps:ZF}(F:Fun K x qual st f fd)(l:ps.length=1)(h:∀(kV doc pm:Value) (an:ZS) (cdv ct:Value) a,bindArgs (W.fnOf x qual (Gh st) (Jq st) (Zb st) .none kV doc pm an cdv ct) ⟨[a],[]⟩=pure (ps.zip [a]):=by intros;rfl):Binds K fd ps []:=F.binds λ_ _ _ _ _ _ us hl=>by obtain⟨_,rfl⟩:=List.length_eq_one_iff.mp (hl.trans l);exact h ..
theorem _root_.L2.Fun.b2{K:W.Frag}{x qual:Str}{st:Stmt}{f:Addr}{fd:FuncData}{ps:ZF}(F:Fun K x qual st f fd)(l:ps.length=2)(h:∀(kV doc pm:Value) (an:ZS) (cdv ct:Value) a b,bindArgs (W.fnOf x qual (Gh st) (Jq st) (Zb st) .none kV doc pm an cdv ct) ⟨[a,b],[]⟩=pure (ps.zip [a,b]):=by intros;rfl):Binds K fd ps []:=F.binds λ_ _ _ _ _ _ us hl=>by
 rcases us with _ | ⟨_,r⟩
 .cases hl.trans l
 obtain⟨_,rfl⟩:=List.length_eq_one_iff.mp (Nat.succ.inj (hl.trans l));exact h ..
theorem _root_.L2.Fun.b3{K:W.Frag}{x qual:Str}{st:Stmt}{f:Addr}{fd:FuncData}{ps:ZF}(F:Fun K x qual st f fd)(l:ps.length=3)(h:∀(kV doc pm:Value) (an:ZS) (cdv ct:Value) a b c,bindArgs (W.fnOf x qual (Gh st) (Jq st) (Zb st) .none kV doc pm an cdv ct) ⟨[a,b,c],[]⟩=pure (ps.zip [a,b,c]):=by intros;rfl):Binds K fd ps []:=F.binds λ_ _ _ _ _ _ us hl=>by
 rcases us with _ | ⟨_,_ | ⟨_,r⟩⟩
 .cases hl.trans l
 .cases hl.trans l
 obtain⟨_,rfl⟩:=List.length_eq_one_iff.mp (Nat.succ.inj (Nat.succ.inj (hl.trans l)));exact h ..
theorem _root_.L2.Fun.b4{K:W.Frag}{x qual:Str}{st:Stmt}{f:Addr}{fd:FuncData}{ps:ZF}(F:Fun K x qual st f fd)(l:ps.length=4)(h:∀(kV doc pm:Value) (an:ZS) (cdv ct:Value) a b c d,bindArgs (W.fnOf x qual (Gh st) (Jq st) (Zb st) .none kV doc pm an cdv ct) ⟨[a,b,c,d],[]⟩=pure (ps.zip [a,b,c,d]):=by intros;rfl):Binds K fd ps []:=F.binds λ_ _ _ _ _ _ us hl=>by
 rcases us with _ | ⟨_,_ | ⟨_,_ | ⟨_,r⟩⟩⟩
 .cases hl.trans l
 .cases hl.trans l
 .cases hl.trans l
 obtain⟨_,rfl⟩:=List.length_eq_one_iff.mp (Nat.succ.inj (Nat.succ.inj (Nat.succ.inj (hl.trans l))));exact h ..
theorem Xg(h:i<a):(a-i)*v=(a-(i+1))*v+v:=by rw[show a-i=(a-(i+1))+1 by omega,Nat.add_mul,Nat.one_mul]
abbrev Fu(K:W.Frag)(x:Str):=Fun K x x
abbrev Rq:Stmt:=top 27
noncomputable abbrev yi:ZF:=QY
theorem Ib:Ze yi QY (Zb Rq):=by trivial
abbrev Rj:Stmt:=top 28
noncomputable abbrev y4:ZF:=["_law_feed_here","_law_many","_law_turn","_law_cell","_law_mixed","_law_digit"]
theorem Jy:Ze y4 XN (Zb Rj):=by trivial
inductive Zz7(K:W.Frag)(vs:ZZ)(H:Hp)(Q:VK):Prop
 | mk(a:Addr)(ns:ZC)(Vx:vs=[.ref a])(Vz:Zu K H a (ns.map V.int))(Vp:ns.length<=63)(Jn:∀(l:Addr) (H':Hp),Zv H H'->H l=none->Fd 1000000000000 H' l->Q (.ref l) H')
def jx(K:W.Frag):Sp:=λvs H Q _=>Zz7 K vs H Q
inductive Zz8(vs:ZZ)(H:Hp)(Q:VK):Prop
 | mk(l:Addr)(m:Int)(r:Nat)(Vx:vs=[.ref l,.int m])(Vz:Fd (r+1) H l)(Vp:0<m)(Jn:m<1073741824)(Mf:∀(x:Int) (H':Hp),0<=x->x<m->Ye l r H H'->Q (.int x) H')
def jq:Sp:=λvs H Q _=>Zz8 vs H Q
theorem Pl(ss:ZF){r:Int}(h0:0<=r)(h1:r<ss.length):∃x,x∈ss/\Ll (ss.map V.str) r=some (.str x):=by
 have hj:r.toNat<ss.length:=QU
 refine⟨ss[r.toNat],G0e hj,?_⟩;have z:Ll (ss.map V.str) ((r.toNat:Nat):Int)=some (.str ss[r.toNat]):=Vj (by rw[Jb,Bh hj];rfl);rw[show ((r.toNat:Nat):Int)=r by omega]at z;exact z
theorem Di(ns:ZC){r:Int}(h0:0<=r)(h1:r<ns.length):∃n,n∈ns/\Ll (ns.map V.int) r=some (.int n):=by
 have hj:r.toNat<ns.length:=QU
 refine⟨ns[r.toNat],G0e hj,?_⟩;have z:Ll (ns.map V.int) ((r.toNat:Nat):Int)=some (.int ns[r.toNat]):=Vj (by rw[Jb,Bh hj];rfl);rw[show ((r.toNat:Nat):Int)=r by omega]at z;exact z
theorem Zkf(ws:ZZ)(h:ws.length<=k):Jt ws none (some (k:Int))=ws:=by
 unfold Jt;rw[HT.g9,HT.R6,List.drop_zero,Nat.sub_zero,Nat.min_eq_right h,Ss]
theorem Zyv(F:Fu K "_law_feed" Rq f fd)(m:Bn mg):Yk P w K mg base Mm 1 f fd QY (jx K):=by
 refine F.ok Ib (λvs H Q E h=>?_) λ_ A _ s H vs Q E hr h=>?_
 .obtain⟨a,ns,rfl,_⟩:=h
  rfl
 obtain⟨a,ns,rfl,hS,h63,q⟩:=h;refine⟨_,(@Z2 _ _ _ (@Y6 _ _ _ _ (@Z9 _ _ _ _ (@Zj _ _ _ _ _ (@Gp _ _ _ _ _ _ _ _ jl (@Uu _ _ _ _ _ _ _ _ _ Bq rfl m.list yd (@Zj _ _ _ _ _ (@V6 _ _ _ _ _ _ _ _ _ _ T5 (pv 0) (@Jx _) (@Jz _ _ _ Zq)) Zx rfl) QO QO QO QO) (@Gp _ _ _ _ _ _ _ _ Zv8 (@Z9 _ _ _ _ (@Zj _ _ _ _ _ Zq Zx rfl)) (@Uu _ _ _ _ _ _ _ _ _ Cj rfl m.int tq (@Zj _ _ _ _ _ (@fh _ _ _ _ _ _ _ _ Ng (pv 0) (@Z9 _ _ _ _ Zx) (j5 _)) Zx rfl) QO QO QO QO))) (@Zj _ _ _ _ _ Zq (@Zj _ _ _ _ _ Zq (@Zj _ _ _ _ _ Zq Zx rfl) rfl) rfl) rfl)))),?_⟩;refine⟨_,rfl,_,rfl,a,_,rfl,hS,λp1 h1=>?_⟩;have e63:Jt (ns.map V.int) none (some 63)=ns.map V.int:=Zkf (k:=63) _ (by rw[Yv];exact h63);rw[e63];have s1:=Zv.lay (o:=.lst (ns.map V.int)) h1;refine⟨p1,_,rfl,.inl (Zu.of Zz),λp2 h2=>⟨(sz 1),λp3 h3=>?_⟩⟩;have s2:=Zv.lay (o:=.lst (ns.map V.int)) h2;have s3:=Zv.lay (o:=.lst [.int 0]) h3;refine⟨_,rfl,(sz 0),λp4 h4=>?_⟩;have s4:=Zv.lay (o:=.lst []) h4;have fq:=s1.trans (s2.trans (s3.trans s4));refine⟨a,p4,_,rfl,rfl,fq.seq hS,Zu.of Zz,Qe (Nat.le_add_right _ 1) (Jo hr),.inr ⟨_,rfl,?_⟩⟩;have m2:Zu K _ p2 (ns.map V.int):=Zu.of ((s3.trans s4) _ _ Zz);refine⟨p3,_,_,rfl,rfl,s4 _ _ Zz,(by split<;>simp),λp5 h5=>?_⟩;have s5:=Zv.lay (o:=.lst (List.replicate ((if (ns.map V.int).isEmpty=true then (1:Int) else 0)).toNat (V.int 0))) h5;refine⟨p2,p5,_,_,rfl,rfl,(s3.trans (s4.trans s5)) _ _ Zz,Zz,?_,λp6 h6=>⟨(sz 4),λp7 h7=>?_⟩⟩
 .rw[Yv,List.length_replicate];refine Vf (show _<=64 from ?_) QI
  split<;>simp<;>omega
 have s6:=Zv.lay (o:=.lst (ns.map V.int++List.replicate ((if (ns.map V.int).isEmpty=true then (1:Int) else 0)).toNat (V.int 0))) h6;have s7:=Zv.lay (o:=.lst [.ref p6,.int 0,.int 0,.int 0]) h7;have ss:=fq.trans (s5.trans (s6.trans s7));have hl7:H p7=none:=(fq.trans (s5.trans s6)).free h7;refine q p7 _ ss hl7 ⟨p6,ns++List.replicate ((if (ns.map V.int).isEmpty=true then (1:Int) else 0)).toNat 0,0,0,0,Zz,?_,?_,?_,by decide,by decide,by decide⟩
 .rw[Gw,List.map_replicate];exact s7 _ _ Zz
 .rw[Nl,List.length_replicate];cases ns<;>simp
 .rw[Nl,List.length_replicate];cases ns with
  | nil=>simp
  | cons n ns=>simp at h63 ⊢;omega
theorem Zyy(F:Fu K "_law_draw" Rj f fd)(m:Bn mg):Yk P w K mg base Mm 1 f fd XN jq:=by
 refine F.ok Jy (λvs H Q E h=>?_) λ_ A _ s H vs Q E hr h=>?_
 .obtain⟨l,m,r,rfl,_⟩:=h
  rfl
 obtain⟨l,mm,r,rfl,⟨a,ns,b,c,d,hH,hA,n1,n64,b0,d0,dr⟩,hm,hm2,q⟩:=h;refine⟨_,(@Zd _ _ _ _ _ (Rv (qo Ja (iX Zh (pv 0) Zq) Zq) (@L0 _ _ _ _ _ _ _ (pv 0) Zq set_list QO)) (qs (sI 2 Jy.nd (iX Zh (pv 0) Zq)) (qs (qi (tQ Za (iX Zh (pv 0) Zq) Zq) (qs (sI 3 Jy.nd (iX Zh (iX Zh (pv 0) Zq) (qo Me (iX Zh (pv 0) Zq) (cB Yl m.len Dz (Zf (iX Zh (pv 0) Zq) Zx))))) (qs (Rv (qo Ja (iX Zh (pv 0) Zq) Zq) (@L0 _ _ _ _ _ _ _ (pv 0) Zq set_list QO)) (qs (qi (tQ Fs (pv 3) (qo Rg Zq Zq)) (qs (sI 4 Jy.nd (qo Ja (qo Ja (qo Ja (qo Me (pv 3) Zq) (qo B8 (qo B8 Zq (pv 2)) (pv 2))) (qo B8 Zq (pv 2))) Zq)) (qs (sI 4 Jy.nd (qo B8 (qo Hk (qo Me (qo B8 (pv 4) Zq) Zq) Zq) Zq)) (q1 (qr (qo Me (qo Hk (qo Me (pv 4) Zq) Zq) (pv 1)))))) Zl) (q1 (Rv (pv 3) (@L0 _ _ _ _ _ _ _ (pv 0) Zq set_list QO)))))) Zl) (qs (sI 5 Jy.nd (qo Me (iX Zh (pv 0) Zq) (pv 1))) (qs (Rv (qo Hk (iX Zh (pv 0) Zq) (pv 1)) (@L0 _ _ _ _ _ _ _ (pv 0) Zq set_list QO)) (q1 (qr (pv 5)))))))),?_⟩;have nal:=fd_ne hH hA;refine⟨_,rfl,l,_,_,_,rfl,rfl,Zu.of hH,rfl,_,_,rfl,rfl,_,rfl,l,_,_,_,rfl,rfl,hH,rfl,?_⟩;have h2:(upd H l (.lst [.ref a,.int b,.int c,.int (d+1)])) l=some (.lst [.ref a,.int b,.int c,.int (d+1)]):=Zz;have hA2:(upd H l (.lst [.ref a,.int b,.int c,.int (d+1)])) a=some (.lst (ns.map V.int)):=by rw[Zm nal];exact hA
 have ok:∀b' c':Int,0<=b'->Ye l r H (upd H l (.lst [.ref a,.int b',.int c',.int (d+1)])):=λb' c' hb=>⟨λx o n h=>by rw[Zm n];exact h,⟨a,ns,b',c',d+1,Zz,by rw[Zm nal];exact hA,n1,n64,hb,by omega,by omega⟩,by rw[Dt hH,Dt Zz]⟩;refine⟨_,rfl,l,_,_,_,rfl,rfl,Zu.of h2,rfl,?_⟩;refine⟨_,rfl,l,_,_,_,rfl,rfl,Zu.of h2,rfl,rfl,_,rfl,?_⟩;have pw:Zj9 10 18:=⟨by decide,by decide,by decide⟩;have vy:(0:Int)<(((ns.map V.int).length:Nat):Int):=by rw[Yv];omega
 have hr0:=Int.emod_nonneg b (Int.ne_of_gt vy);have hr1:=Int.emod_lt_of_pos b vy;obtain⟨cell,_,hat⟩:=Di ns (r:=b % (((ns.map V.int).length:Nat):Int)) hr0 (by rw[Yv]at hr1 ⊢;exact hr1);refine Vb (λc1=>?_) (λc1=>?_)
 .refine⟨_,rfl,l,_,_,_,rfl,rfl,Zu.of h2,rfl,_,rfl,l,_,_,_,rfl,rfl,Zu.of h2,rfl,_,rfl,l,_,_,_,rfl,rfl,Zu.of h2,rfl,a,_,rfl,.inl (Zu.of hA2),_,_,rfl,rfl,vy,a,_,_,_,rfl,rfl,Zu.of hA2,hat,?_⟩;refine⟨_,rfl,l,_,_,_,rfl,rfl,Zu.of h2,rfl,_,_,rfl,rfl,_,rfl,l,_,_,_,rfl,rfl,h2,rfl,?_⟩;rw[R3];refine⟨_,rfl,_,_,rfl,rfl,pw,_,_,rfl,rfl,_,rfl,?_⟩;have h3:(upd H l (.lst [.ref a,.int (b+1),.int c,.int (d+1)])) l=some (.lst [.ref a,.int (b+1),.int c,.int (d+1)]):=Zz;refine Vb (λc2=>?_) (λc2=>?_)
  .refine⟨_,rfl,_,_,rfl,rfl,(show (0:Int)<2147483629 by decide),_,rfl,_,_,rfl,rfl,.inl ⟨by decide,by decide⟩,_,rfl,_,_,rfl,rfl,.inr ⟨by omega,by omega⟩,_,_,rfl,rfl,_,rfl,_,_,rfl,rfl,.inl ⟨by decide,by decide⟩,_,_,rfl,rfl,_,_,rfl,rfl,?_⟩;refine⟨_,rfl,_,_,rfl,rfl,.inr ⟨by decide,by decide⟩,_,_,rfl,rfl,(show (0:Int)<2147483647 by decide),_,_,rfl,rfl,⟨by decide,by decide⟩,_,_,rfl,rfl,.inr ⟨by decide,by decide⟩,?_⟩;refine⟨_,rfl,_,_,rfl,rfl,(show (0:Int)<2147483629 by decide),_,_,rfl,rfl,⟨by decide,by decide⟩,_,rfl,_,_,rfl,rfl,hm,?_⟩;exact q _ _ (Int.emod_nonneg _ QU) (Int.emod_lt_of_pos _ hm) (ok _ _ QU)
  .refine⟨_,rfl,_,rfl,l,_,_,_,rfl,rfl,h3,rfl,?_⟩;rw[R3];have h4:(upd H l (.lst [.ref a,.int (b+1),.int cell,.int (d+1)])) l=some (.lst [.ref a,.int (b+1),.int cell,.int (d+1)]):=Zz;refine⟨_,rfl,l,_,_,_,rfl,rfl,Zu.of h4,rfl,_,rfl,_,_,rfl,rfl,hm,?_⟩;refine⟨_,rfl,l,_,_,_,rfl,rfl,Zu.of h4,rfl,_,rfl,_,_,rfl,rfl,⟨hm,hm2⟩,_,rfl,l,_,_,_,rfl,rfl,h4,rfl,_,rfl,?_⟩;rw[R3];exact q _ _ (Int.emod_nonneg _ QU) (Int.emod_lt_of_pos _ hm) (ok _ _ QU)
 .refine⟨_,rfl,l,_,_,_,rfl,rfl,Zu.of h2,rfl,_,rfl,_,_,rfl,rfl,hm,?_⟩;refine⟨_,rfl,l,_,_,_,rfl,rfl,Zu.of h2,rfl,_,rfl,_,_,rfl,rfl,⟨hm,hm2⟩,_,rfl,l,_,_,_,rfl,rfl,h2,rfl,_,rfl,?_⟩;rw[R3];exact q _ _ (Int.emod_nonneg _ QU) (Int.emod_lt_of_pos _ hm) (ok _ _ b0)
abbrev Mt:Stmt:=top 29
noncomputable abbrev F7:ZF:=["_law_feed_here","_law_many","_law_some","_law_first","_law_step"]
theorem Dx:Ze F7 XN (Zb Mt):=by trivial
noncomputable def U6:ZF:=["a","ab","abc","make","form","row","text","must","none","b","mak","abcdefgh"]
noncomputable def bj(f s:Nat)(m:Nat):ZF:=(List.range m).map λk=>U6.getD ((f+s*k) % 12) "a"
theorem Zqw(f s i:Nat):bj f s (i+1)=bj f s i++[U6.getD ((f+s*i) % 12) "a"]:=by
 unfold bj;rw[List.range_succ,Gw];rfl
theorem bq(f s m:Nat):(bj f s m).length=m:=by unfold bj;rw[Yv,ZI]
theorem Zyc{f s m:Nat}{x:Str}(h:x∈bj f s m):x∈U6:=by
 unfold bj at h;obtain⟨k,_,rfl⟩:=G3.mp h;have hk:(f+s*k) % 12<U6.length:=Nat.mod_lt _ QI;rw[List.getD_eq_getElem?_getD,Bh hk];exact G0e hk
theorem Zyt(f s:Nat):∀{m:Nat},m<=8->bj f s m=(bj f s 8).take m:=λ{m} h=>by
 unfold bj;rw[<-List.map_take,List.take_range,Nat.min_eq_left h]
theorem ux:∀f<12,∀s∈[1,5,7,11],(bj f s 8).Nodup:=by decide +kernel
theorem p9{f s m:Nat}(hf:f<12)(hs:s∈[1,5,7,11])(hm:m<=8):(bj f s m).Nodup:=by
 rw[Zyt f s hm];exact List.Sublist.nodup (List.take_sublist _ _) (ux f hf s hs)
structure Names(ss:ZF)(m:Nat):Prop where
 len:ss.length=m
 mem:∀x∈ss,x∈U6
 nd:ss.Nodup
inductive rj(vs:ZZ)(H:Hp)(Q:VK):Prop
 | mk(l:Addr)(m r:Nat)(Vx:vs=[.ref l,.int m])(Vz:Fd (r+2) H l)(Vp:m<=8)(Jn:∀(p:Addr) (ss:ZF) (H':Hp),H' p=some (.lst (ss.map V.str))->H p=none->Names ss m->Ye l r H H'->Q (.ref p) H')
def K4:Sp:=λvs H Q _=>rj vs H Q
set_option maxHeartbeats 0 in
abbrev gD(P:Program)(w:World)(K:W.Frag)(mg:G6)(base:Heap):=Fn P w K mg base 1 "_law_draw" XN jq
theorem Zx6(F:Fu K "_law_names" Mt f fd)(m:Bn mg)(Zt:gD P w K mg base):Yk P w K mg base Mm 2 f fd XN K4:=by
 refine F.ok Dx (λvs H Q E h=>?_) λ_ A _ s H vs Q E hr h=>?_
 .obtain⟨l,m,r,rfl,_⟩:=h
  rfl
 obtain⟨l,mm,r,rfl,fe,h8,q⟩:=h;refine⟨_,(@Zd _ _ _ _ _ (@N0 _ 2 _ _ _ _ _ Dx.nd rfl QO (@Z9 _ _ _ _ (@Zj _ _ _ _ _ Zk (@Zj _ _ _ _ _ Zk (@Zj _ _ _ _ _ Zk (@Zj _ _ _ _ _ Zk (@Zj _ _ _ _ _ Zk (@Zj _ _ _ _ _ Zk (@Zj _ _ _ _ _ Zk (@Zj _ _ _ _ _ Zk (@Zj _ _ _ _ _ Zk (@Zj _ _ _ _ _ Zk (@Zj _ _ _ _ _ Zk (@Zj _ _ _ _ _ Zk Zx rfl) rfl) rfl) rfl) rfl) rfl) rfl) rfl) rfl) rfl) rfl) rfl)) rfl QO) (@Zd _ _ _ _ _ (sI 3 Dx.nd (cF Zt hr (Zf (pv 0) (Zf Zq Zx)))) (@Zd _ _ _ _ _ (@N0 _ 4 _ _ _ _ _ Dx.nd rfl QO (@Y3 _ _ _ _ _ _ _ Zh (@Z9 _ _ _ _ (@V4 _ _ [1,5,7,11] rfl)) (cF Zt hr (Zf (pv 0) (Zf Zq Zx))) (λ_ _=>rfl)) rfl QO) (q1 (qr (pC F7 (Zb Mt) ["_law_k","_law_some","_law_first","_law_step"] [none,some 2,some 3,some 4] (@Uh _ _ _ _ _ _ rfl m.range (Zf (pv 1) Zx) QO) (λ_ _ _=>(nI 0)) (λ_ _ _=>Yp) (λ_ _ _=>(iX Zh (pv 1) (qo Me (qo Ja (pv 2) (qo B8 (pv 3) (pv 0))) Zq))))))))),?_⟩;refine⟨(sz 12),λL hL=>?_⟩;have s1:=Zv.lay (o:=.lst (U6.map V.str)) hL;have t1:Ye l (r+2) H _:=(Ye.refl fe).same s1;refine⟨_,rfl,l,12,r+1,rfl,t1.feed,by decide,by decide,λx H2 x0 x1 t2=>?_⟩;have t02:=t1.trans t2;have nL:L≠l:=fe.ne hL;have hL2:H2 L=some (.lst (U6.map V.str)):=t2.keep _ _ nL Zz;refine⟨(sz 4),λL3 h3=>?_⟩;have s3:=Zv.lay (o:=.lst ([1,5,7,11].map V.int)) h3;have kh:=t02.same s3;refine⟨_,rfl,l,4,r,rfl,kh.feed,by decide,by decide,λy H4 y0 y1 t4=>?_⟩;have ot:=kh.trans t4;have n3:L3≠l:=t02.feed.ne h3;obtain⟨st,mst,est⟩:=Di [1,5,7,11] y0 y1;refine⟨L3,_,_,_,rfl,rfl,Zu.of (t4.keep _ _ n3 Zz),est,?_⟩;have hL4:H4 L=some (.lst (U6.map V.str)):=t4.keep _ _ nL (s3 _ _ hL2);obtain⟨fn,rfl⟩:∃n:Nat,x=n:=⟨x.toNat,by omega⟩
 obtain⟨sn,rfl,msn⟩:∃n:Nat,st=n/\n∈[1,5,7,11]:=by
  simp only[U8,V9,or_false]at mst;rcases mst with rfl | rfl | rfl | rfl
  .exact⟨1,rfl,by decide⟩
  .exact⟨5,rfl,by decide⟩
  .exact⟨7,rfl,by decide⟩
  .exact⟨11,rfl,by decide⟩
 refine⟨_,rfl,_,rfl,by omega,by omega,λD fp sx hD=>?_⟩;refine Mz (λi zs j H5=>(∃o,j=[o,some (.ref L),some (.int fn),some (.int sn)])/\zs=(bj fn sn i).map V.str/\Zv H4 H5/\H5 D=some (.lst zs)) ⟨⟨_,rfl⟩,rfl,(Zv.refl H4).put hD,Zz⟩ ?_ ?_ ?_
 .rintro i zs j H5 hi ⟨_,_,s5,h5⟩;exact h5
 .rintro i zs j H5 hi ⟨⟨o,rfl⟩,rfl,s5,h5⟩;refine Um ?_;have hk:(fn+sn*i) % 12<U6.length:=Nat.mod_lt _ QI
  have ev:Ll (U6.map V.str) (((fn:Int)+(sn:Int)*(0+(i:Int))) % 12)=some (.str (U6.getD ((fn+sn*i) % 12) "a")):=by
   rw[show ((fn:Int)+(sn:Int)*(0+(i:Int))) % 12=(((fn+sn*i) % 12:Nat):Int) by rw[Int.zero_add];omega];refine Vj ?_;rw[Jb,Bh hk,List.getD_eq_getElem?_getD,Bh hk];rfl
  have sb:sn<=11:=by
   simp only[U8,V9,or_false]at msn;omega
  refine⟨_,rfl,_,rfl,_,rfl,_,rfl,_,_,rfl,rfl,.inl ⟨by omega,by omega⟩,_,_,rfl,rfl,_,_,rfl,rfl,(show (0:Int)<12 by decide),L,_,_,_,rfl,rfl,Zu.of (s5 _ _ hL4),ev,h5,?_,⟨_,rfl⟩,?_,s5.put hD,Zz⟩
  .rw[Yv,bq];exact R0 (show i<8 by have:i<((mm:Nat):Int).toNat:=hi;omega) QI
  .rw[Zqw,Gw];rfl
 .rintro zs j H5 ⟨_,rfl,s5,h5⟩;have e:((mm:Nat):Int).toNat=mm:=QU
  have h5:H5 D=some (.lst ((bj fn sn ((mm:Nat):Int).toNat).map V.str)):=h5;rw[e]at h5;exact q D _ H5 h5 (ot.free hD) ⟨bq _ _ _,λx h=>Zyc h,p9 QU msn h8⟩ (ot.same s5)
abbrev Gc:Stmt:=top 30
noncomputable abbrev C1:ZF:=["_law_feed_here","_law_most","_law_some"]
theorem Bo:Ze C1 QK (Zb Gc):=by trivial
abbrev Dq:Stmt:=top 33
noncomputable abbrev Lm:ZF:=QZ
theorem Se:Ze Lm QZ (Zb Dq):=by trivial
noncomputable def Fb:ZC:=[1,2,3,9,10,99,100,999]
noncomputable def Qg:ZC:=[4,11,99,998]
inductive Iv(vs:ZZ)(H:Hp)(Q:VK):Prop
 | mk(l:Addr)(m r:Nat)(Vx:vs=[.ref l,.int m])(Vz:Fd (r+8) H l)(Vp:∀(p:Addr) (ns:ZC) (H':Hp),H' p=some (.lst (ns.map V.int))->H p=none->ns.Sublist Fb->ns.length<=m->Ye l r H H'->Q (.ref p) H')
def La:Sp:=λvs H Q _=>Iv vs H Q
inductive Iq(K:W.Frag)(vs:ZZ)(H:Hp)(Q:VK):Prop
 | mk(l p:Addr)(ns:ZC)(r:Nat)(Vx:vs=[.ref l,.ref p])(Vz:H p=some (.lst (ns.map V.int)))(Vp:Fd (r+4) H l)(Jn:∀(q:Addr) (us:ZC) (H':Hp),Zp K H' q (us.map V.int)->us.Sublist Qg->(∀u∈us,u∉ns)->Ye l r H H'->Q (.ref q) H')
def Lu(K:W.Frag):Sp:=λvs H Q _=>Iq K vs H Q
theorem Cq(ns:ZC):(ns.map V.int).all W9=true:=by
 rw[A0t];intro x m;obtain⟨n,_,rfl⟩:=G3.mp m
 rfl
theorem N8(n:Int):∀ns:ZC,A0 (.int n) (ns.map V.int)=decide (n∈ns)
 | []=>by simp[A0]
 | k::ns=>by
  have ih:=N8 n ns;unfold A0 at ih ⊢;rw[Mu,List.any_cons,ih];show (decide (k=n) || decide (n∈ns))=_;by_cases h:k=n
  .subst h;simp
  .have:¬ n=k:=λz=>h z.symm;simp[h,this]
theorem jo(F:Fu K "_law_numbers" Gc f fd)(m:Bn mg)(Zt:gD P w K mg base):Yk P w K mg base Mm 2 f fd QK La:=by
 refine F.ok Bo (λvs H Q E h=>?_) λ_ A _ s H vs Q E hr h=>?_
 .obtain⟨l,m,r,rfl,_⟩:=h
  rfl
 obtain⟨l,mm,r,rfl,fe,q⟩:=h;refine⟨_,(@Zd _ _ _ _ _ (@V2 _ 2 C1 (Zb Gc) QR [none,some 0] _ _ _ _ _ _ _ _ _ _ _ _ _ Bo.nd rfl QO rfl (@Mc _ _ _ _ (@Z9 _ _ _ _ (@V4 _ _ [1,2,3,9,10,99,100,999] rfl))) ⟨rfl,rfl,by decide +kernel,by decide +kernel⟩ (λ_ _ _=>(nI 0)) (λ_ _ _=>(@Gn _ _ _ (tQ Za (cF Zt hr (Zf (pv 1) (Zf Zq Zx))) Zq))) (λ_ _ _=>(pv 0)) QO QO QO) (q1 (qr (@V6 _ _ _ _ _ _ _ _ _ _ T5 (pv 2) (@Jx _) (@Jz _ _ _ (pv 1)))))),?_⟩;refine⟨(sz 8),λL hL=>⟨L,rfl,⟨_,Zu.of Zz⟩,λD fp sx hD=>?_⟩⟩;have s1:=Zv.lay (o:=.lst (Fb.map V.int)) hL;have f1:Fd (r+8) (upd H L (.lst (Fb.map V.int))) l:=fe.same s1;have nD:D≠l:=f1.ne hD;have nL:L≠l:=fe.ne hL;have nLD:L≠D:=λe=>by rw[<-e,Zz]at hD;cases hD
 refine Ve (K:=K) (xs:=Fb.map V.int) (λi ys j H5=>(∃o,j=[o,some (.ref l)])/\(∃ns:ZC,ys=ns.map V.int/\ns.Sublist (Fb.take i))/\Ye l (r+(8-i)) (upd H L (.lst (Fb.map V.int))) H5/\H5 L=some (.lst (Fb.map V.int))/\H5 D=some (.lst ys))
  ⟨⟨_,rfl⟩,⟨[],rfl,.slnil⟩,(Ye.refl f1).put hD (f1.far hD),by rw[Zm nLD];exact Zz,Zz⟩ ?_ ?_ ?_
 .intro i ys j H5 hi Ot;refine hide λ_ Z1=>?_;obtain⟨_,_,t5,h5,h6⟩:=Ot;refine Z1 ?_;exact⟨Zu.of h5,h6⟩
 .intro i x ys j H5 hx Rc;refine hide λ_ Yz=>?_;obtain⟨⟨o,rfl⟩,⟨ns,rfl,sb⟩,t5,h5,h6⟩:=Rc;rw[Jb]at hx;obtain⟨n,en,rfl⟩:=Cy.mp hx;refine Yz ?_;have hi:i<8:=(Bl.mp en).1;have tk:=Zs en;refine Ej ?_;refine⟨_,rfl,l,3,r+(8-(i+1)),rfl,t5.feed.m,by decide,by decide,λz H6 z0 z1 t6=>?_⟩;have t56:=t5.trans t6;have h6D:=t6.keep _ _ nD h6;have h6L:=t6.keep _ _ nL h5;refine⟨rfl,_,rfl,?_⟩;refine Vb (λc=>?_) (λc=>?_)
  .refine⟨_,rfl,h6D,?_,⟨_,rfl⟩,⟨ns++[n],by rw[Gw];rfl,?_⟩,t56.put hD (f1.far hD),by rw[Zm nLD];exact h6L,Zz⟩
   .have:=sb.length_le;rw[Cs]at this;rw[Yv];exact Qe (show ns.length<=8 by omega) QI
   .rw[tk];exact sb.append (List.Sublist.refl _)
  .exact⟨⟨_,rfl⟩,⟨ns,rfl,by rw[tk];exact sb.trans (List.sublist_append_left _ _)⟩,t56,h6L,h6D⟩
 .intro ys j H5 Om;refine hide λ_ Yq=>?_;obtain⟨_,⟨ns,rfl,sb⟩,t5,h5,h6⟩:=Om;refine Yq ?_;refine⟨_,rfl,_,rfl,_,rfl,D,_,rfl,Zu.of h6,λp hp=>?_⟩
  have e:Jt (ns.map V.int) none (some ((mm:Nat):Int))=(ns.take mm).map V.int:=by
   unfold Jt;rw[HT.g9,HT.R6,List.drop_zero,Nat.sub_zero,List.map_take];by_cases h:mm<=(ns.map V.int).length
   .rw[Nat.min_eq_left h]
   .rw[Nat.min_eq_right QU,T0l (Yt _),T0l QU]
  rw[e];have t7:=t5.lay (o:=.lst ((ns.take mm).map V.int)) hp;refine q p (ns.take mm) _ Zz (s1.free (t5.free hp)) ((List.take_sublist _ _).trans sb) (by rw[Cs];omega) ?_;exact((Ye.refl fe).same s1).trans (t7.m)
theorem jh(F:Fu K "_law_struck" Dq f fd)(m:Bn mg)(Zt:gD P w K mg base):Yk P w K mg base Mm 2 f fd QZ (Lu K):=by
 refine F.ok Se (λvs H Q E h=>?_) λ_ A _ s H vs Q E hr h=>?_
 .obtain⟨l,p,ns,r,rfl,_⟩:=h
  rfl
 obtain⟨l,p,tk,r,rfl,hp,fe,q⟩:=h;refine⟨_,(@Z2 _ _ _ (@Y6 _ _ _ _ (@Uu _ _ _ _ _ _ _ _ _ Zr rfl m.tuple Yd (@Zj _ _ _ _ _ (@Gu _ Lm (Zb Dq) QD [none,some 1,some 0] _ _ _ _ _ _ _ _ _ _ rfl (@Mc _ _ _ _ (@Z9 _ _ _ _ (@V4 _ _ [4,11,99,998] rfl))) ⟨rfl,rfl,by decide +kernel,by decide +kernel⟩ (λ_ _ _=>(nI 0)) (λ_ _ _=>(@Gn _ _ _ (qp (@pw_and _ _ _ _ _ _ _ (Uw Ua (pv 0) (pv 1) rfl) (@pw_and1 _ _ _ _ (tQ Za (cF Zt hr (Zf (pv 2) (Zf Zq Zx))) Zq)))))) (λ_ _ _=>(pv 0)) QO) Zx rfl) QO QO QO QO))),?_⟩;refine⟨(sz 4),λL hL=>⟨L,rfl,⟨_,Zu.of Zz⟩,λD fp sx hD=>?_⟩⟩;have s1:=Zv.lay (o:=.lst (Qg.map V.int)) hL;have f1:Fd (r+4) (upd H L (.lst (Qg.map V.int))) l:=fe.same s1;have nD:D≠l:=f1.ne hD;have nL:L≠l:=fe.ne hL;have nLD:L≠D:=λe=>by rw[<-e,Zz]at hD;cases hD
 have np:p≠l:=λe=>by
  refine hide λ_ Yy=>?_;obtain⟨a,ks,b,c,d,e1,_⟩:=fe;refine Yy ?_;rw[e,e1]at hp
  injection hp with hp
  injection hp with hp
  cases tk with
  | nil=>cases hp
  | cons n ns=>injection hp with h3 _;cases h3
 have Ho:=s1 _ _ hp;have npD:p≠D:=Z0 Ho hD
 refine Ve (K:=K) (xs:=Qg.map V.int) (λi ys j H5=>(∃o,j=[o,some (.ref p),some (.ref l)])/\(∃ns:ZC,ys=ns.map V.int/\ns.Sublist (Qg.take i)/\∀u∈ns,u∉tk)/\Ye l (r+(4-i)) (upd H L (.lst (Qg.map V.int))) H5/\H5 L=some (.lst (Qg.map V.int))/\H5 D=some (.lst ys)/\H5 p=some (.lst (tk.map V.int)))
  ⟨⟨_,rfl⟩,⟨[],rfl,.slnil,λu mu=>absurd mu V9⟩,(Ye.refl f1).put hD (f1.far hD),by rw[Zm nLD];exact Zz,Zz,by rw[Zm npD];exact Ho⟩ ?_ ?_ ?_
 .intro i ys j H5 hi vh;refine hide λ_ Yg=>?_;obtain⟨_,_,t5,h5,h6,_⟩:=vh;refine Yg ?_;exact⟨Zu.of h5,h6⟩
 .intro i x ys j H5 hx vc;refine hide λ_ Yc=>?_;obtain⟨⟨o,rfl⟩,⟨ns,rfl,sb,no⟩,t5,h5,h6,h7⟩:=vc;rw[Jb]at hx;obtain⟨n,en,rfl⟩:=Cy.mp hx;refine Yc ?_;have hi:i<4:=(Bl.mp en).1;have tm:=Zs en
  have skip:∀{H6:Hp} {o':Option V},Ye l (r+(4-(i+1))) (upd H L (.lst (Qg.map V.int))) H6->H6 L=some (.lst (Qg.map V.int))->H6 D=some (.lst (ns.map V.int))->H6 p=some (.lst (tk.map V.int)) ->
    (∃o,([o',some (.ref p),some (.ref l)]:L2.St)=[o,some (.ref p),some (.ref l)])/\(∃ms:ZC,ns.map V.int=ms.map V.int/\ms.Sublist (Qg.take (i+1))/\∀u∈ms,u∉tk)/\Ye l (r+(4-(i+1))) (upd H L (.lst (Qg.map V.int))) H6/\H6 L=some (.lst (Qg.map V.int))/\H6 D=some (.lst (ns.map V.int))/\H6 p=some (.lst (tk.map V.int)) :=
   λa b c d=>⟨⟨_,rfl⟩,⟨ns,rfl,by rw[tm];exact sb.trans (List.sublist_append_left _ _),no⟩,a,b,c,d⟩
  refine Ej ?_;refine⟨_,rfl,_,rfl,p,_,rfl,.inl (Zu.of h7),rfl,Cq tk,_,rfl,?_⟩;show if (!A0 (.int n) (tk.map V.int))=true then _ else _
  rw[N8];refine Vb (λcm=>?_) (λcm=>?_)
  .have cm':n∉tk:=by simpa using cm
   refine⟨_,rfl,l,4,r+(4-(i+1)),rfl,t5.feed.m,by decide,by decide,λz H6 z0 z1 t6=>?_⟩;have t56:=t5.trans t6;have h6D:=t6.keep _ _ nD h6;have h6L:=t6.keep _ _ nL h5;have h6p:=t6.keep _ _ np h7;refine⟨rfl,_,rfl,?_⟩;refine Vb (λc=>?_) (λc=>?_)
   .refine⟨_,rfl,h6D,?_,⟨_,rfl⟩,⟨ns++[n],by rw[Gw];rfl,?_,?_⟩,t56.put hD (f1.far hD),by rw[Zm nLD];exact h6L,Zz,by rw[Zm npD];exact h6p⟩
    .have:=sb.length_le;rw[Cs]at this;rw[Yv];exact Qe (show ns.length<=8 by omega) QI
    .rw[tm];exact sb.append (List.Sublist.refl _)
    .intro u mu;rcases M6.mp mu with mu | mu
     .exact no u mu
     .rw[Nw.mp mu];exact cm'
   .exact skip t56 h6L h6D h6p
  .exact skip (t5.m) h5 h6 h7
 .intro ys j H5 Fq;refine hide λ_ Yr=>?_;obtain⟨_,⟨ns,rfl,sb,no⟩,t5,h5,h6,h7⟩:=Fq;refine Yr ?_;refine⟨D,_,rfl,.inl ⟨Zu.of h6,λe he=>?_⟩⟩;exact q e ns _ (Zp.of Zz) sb no (((Ye.refl fe).same s1).trans ((t5.lay he).m))
abbrev Jh:Stmt:=top 31
noncomputable abbrev Lc:ZF:=["_law_feed_here","_law_names_here","_law_way","_law_low","_law_word"]
theorem V3:Ze Lc QJ (Zb Jh):=by trivial
set_option genInjectivity false in
structure Vk where
 n:Int
 x:Str
 y:Str
 d:Option Th
noncomputable def Vk.t(f:Vk):Th:=.tup [.int f.n,.str f.x,.str f.y,.tup f.d.toList]
noncomputable def Vk.a(f:Vk):Th:=.tup [.int f.n,.str f.x,.str f.y]
set_option genInjectivity false in
inductive Yn where
 | whole(lo hi:Int) | truth | text(n:Int) | row(b:Bool)(y:Str)(n:Int) | rcd(fs:List Vk)(us:ZC) | cho(fs:List Vk)(us:ZC)(o:Bool)
noncomputable def Yn.t:Yn->Th
 | .whole lo hi=>.tup [.str "whole",.int lo,.int hi]
 | .truth=>.tup [.str "truth"]
 | .text n=>.tup [.str "text",.int n]
 | .row b y n=>.tup [.str (if b=true then "row" else "map"),.str y,.int n]
 | .rcd fs us=>.tup [.str "record",.tup (fs.map Vk.t),.tup (us.map Th.int)]
 | .cho fs us o=>.tup [.str "choice",.tup (fs.map Vk.a),.tup (us.map Th.int),.bl o]
noncomputable def Te:Int:=1000000000000000000
def Pln(ss:ZF):Yn->Prop
 | .whole lo hi=>-Te<=lo/\lo<=hi/\hi<=Te
 | .truth=>True
 | .text n=>0<=n/\n<=200
 | .row _ y n=>y∈ss/\0<=n/\n<=20
 | _=>False
noncomputable def LOWS:ZC:=[0, -3,1,5, -((10:Int) ^ (18:Int).toNat),0]
noncomputable def ADDS:ZC:=[1,0,7,300,(10:Int) ^ (18:Int).toNat]
theorem Zys:∀x∈LOWS, -Te<=x/\x<=5:=by decide
theorem Zkr:∀x∈ADDS,0<=x/\x<=Te:=by decide
theorem e18:(10:Int) ^ (18:Int).toNat=Te:=by decide
inductive qm(K:W.Frag)(vs:ZZ)(H:Hp)(Q:VK):Prop
 | mk(l p:Addr)(ss:ZF)(r:Nat)(Vx:vs=[.ref l,.ref p])(Vz:H p=some (.lst (ss.map V.str)))(Vp:1<=ss.length)(Jn:ss.length<=12)(Mf:Fd (r+3) H l)(Co:∀v s H',Zg K H' (Yn.t s) v->Pln ss s->Ye l r H H'->Q v H')
def Q9(K:W.Frag):Sp:=λvs H Q _=>qm K vs H Q
theorem ke{H:Hp}{l p:Addr}{r:Nat}{ss:ZF}(fe:Fd r H l)(hp:H p=some (.lst (ss.map V.str))):p≠l:=λe=>by
 obtain⟨a,ks,b,c,d,e1,_⟩:=fe;rw[e,e1]at hp
 injection hp with hp
 injection hp with hp
 cases ss with
 | nil=>cases hp
 | cons n ns=>injection hp with h3 _;cases h3
theorem P0(F:Fu K "_law_plain_shape" Jh f fd)(m:Bn mg)(Zt:gD P w K mg base):Yk P w K mg base Mm 2 f fd QJ (Q9 K):=by
 refine F.ok V3 (λvs H Q E h=>?_) λ_ A _ s H vs Q E hr h=>?_
 .obtain⟨l,p,ss,r,rfl,_⟩:=h
  rfl
 obtain⟨l,p,ss,r,rfl,hp,l1,l2,fe,q⟩:=h;have mmin:=m.min;refine⟨_,(@Zd _ _ _ _ _ (sI 2 V3.nd (cF Zt hr (Zf (pv 0) (Zf Zq Zx)))) (@Zd _ _ _ _ _ (@Uo _ _ _ _ _ _ _ _ (tQ Fs (pv 2) Zq) (@Zd _ _ _ _ _ (@N0 _ 3 _ _ _ _ _ V3.nd rfl QO (@Y3 _ _ _ _ _ _ _ Zh (@Z9 _ _ _ _ (@Zj _ _ _ _ _ Zq (@Zj _ _ _ _ _ (@E3 _ _ _ _ _ _ Lp Zq) (@Zj _ _ _ _ _ Zq (@Zj _ _ _ _ _ Zq (@Zj _ _ _ _ _ (@E3 _ _ _ _ _ _ Lp (@Gp _ _ _ _ _ _ _ _ Rg Zq Zq)) (@Zj _ _ _ _ _ Zq Zx rfl) rfl) rfl) rfl) rfl) rfl)) (cF Zt hr (Zf (pv 0) (Zf Zq Zx))) (λ_ _=>rfl)) rfl QO) (@Z2 _ _ _ (@Y6 _ _ _ _ (@Ys _ _ _ _ _ (@Zj _ _ _ _ _ Zk (@Zj _ _ _ _ _ (pv 3) (@Zj _ _ _ _ _ (@Nk _ _ _ _ _ _ _ _ _ (Kt rfl) rfl mmin Zg1 (@Zj _ _ _ _ _ (qo Rg Zq Zq) (@Zj _ _ _ _ _ (@Gp _ _ _ _ _ _ _ _ Ja (pv 3) (@Y3 _ _ _ _ _ _ _ Zh (@Z9 _ _ _ _ (@Zj _ _ _ _ _ Zq (@Zj _ _ _ _ _ Zq (@Zj _ _ _ _ _ Zq (@Zj _ _ _ _ _ Zq (@Zj _ _ _ _ _ (@Gp _ _ _ _ _ _ _ _ Rg Zq Zq) Zx rfl) rfl) rfl) rfl) rfl)) (cF Zt hr (Zf (pv 0) (Zf Zq Zx))) (λ_ _=>rfl))) Zx rfl) rfl) QI QI rfl rfl) Zx rfl) rfl) rfl))))) Zl) (@Zd _ _ _ _ _ (qi (tQ Za (pv 2) Zq) (q1 (qr (qt (Zf Zk Zx)))) Zl) (@Zd _ _ _ _ _ (@Uo _ _ _ _ _ _ _ _ (tQ Fs (pv 2) Zq) (@Z2 _ _ _ (@Y6 _ _ _ _ (@Ys _ _ _ _ _ (@Zj _ _ _ _ _ Zk (@Zj _ _ _ _ _ (@Y3 _ _ _ _ _ _ _ Zh (@Z9 _ _ _ _ (@V4 _ _ [0,1,3,5,200] rfl)) (cF Zt hr (Zf (pv 0) (Zf Zq Zx))) (λ_ _=>rfl)) Zx rfl) rfl)))) Zl) (@Zd _ _ _ _ _ (@N0 _ 4 _ _ _ _ _ V3.nd rfl QO (@Y3 _ _ _ _ _ _ _ Zh (@Z9 _ _ _ _ (@Zj _ _ _ _ _ Zk (@Zj _ _ _ _ _ Zk (@Zj _ _ _ _ _ Zk Zx rfl) rfl) rfl)) (qo B7 (pv 2) Zq) (λ_ _=>rfl)) rfl QO) (@Z2 _ _ _ (@Y6 _ _ _ _ (@Ys _ _ _ _ _ (@Zj _ _ _ _ _ (pv 4) (@Zj _ _ _ _ _ (iX Zh (pv 1) (cF Zt hr (Zf (pv 0) (Zf (cB Yl m.len Dz (Zf (pv 1) Zx)) Zx)))) (@Zj _ _ _ _ _ (@Y3 _ _ _ _ _ _ _ Zh (@Z9 _ _ _ _ (@V4 _ _ [0,1,2,3,20] rfl)) (cF Zt hr (Zf (pv 0) (Zf Zq Zx))) (λ_ _=>rfl)) Zx rfl) rfl) rfl))))))))),?_⟩;have pw:Zj9 10 18:=⟨by decide,by decide,by decide⟩;have np:=ke fe hp;refine⟨_,rfl,l,8,r+2,rfl,fe,by decide,by decide,λx H1 x0 x1 t1=>?_⟩;refine⟨_,rfl,_,_,rfl,rfl,_,rfl,?_⟩;refine Vb (λc1=>?_) (λc1=>?_)
 .refine⟨_,rfl,_,_,rfl,rfl,pw,_,rfl,(sz 6),λL hL=>?_⟩;have s2:=Zv.lay (o:=.lst (LOWS.map V.int)) hL;have t2:=t1.same s2;refine⟨_,rfl,l,6,r+1,rfl,t2.feed,by decide,by decide,λy H3 y0 y1 t3=>?_⟩;obtain⟨lo,mlo,elo⟩:=Di LOWS y0 y1;have kh:=t2.trans t3;refine⟨L,_,_,_,rfl,rfl,Zu.of (t3.keep _ _ (t1.feed.ne hL) Zz),elo,?_⟩;refine⟨_,rfl,_,_,rfl,rfl,pw,_,rfl,_,_,rfl,rfl,pw,(sz 5),λL4 h4=>?_⟩;have s4:=Zv.lay (o:=.lst (ADDS.map V.int)) h4;have ot:=kh.same s4;refine⟨_,rfl,l,5,r,rfl,ot.feed,by decide,by decide,λz H5 z0 z1 t5=>?_⟩;obtain⟨ad,mad,ead⟩:=Di ADDS z0 z1;have t05:=ot.trans t5;refine⟨L4,_,_,_,rfl,rfl,Zu.of (t5.keep _ _ (kh.feed.ne h4) Zz),ead,_,_,rfl,rfl,_,_,rfl,(sz 3),λe he=>?_⟩;have b1:=Zys lo mlo;have b2:=Zkr ad mad;refine q _ (.whole lo _) _ ⟨e,_,rfl,Zp.of Zz,_,_,rfl,rfl,_,_,rfl,rfl,_,_,rfl,rfl,rfl⟩ ⟨b1.1,?_,?_⟩ ((t05.lay he).m)
  .have a1:(1000000000000000000:Int)=Te:=rfl;rw[e18];split<;>omega
  .rw[e18];split<;>omega
 .refine⟨_,rfl,rfl,_,rfl,?_⟩;refine Vb (λc2=>?_) (λc2=>?_)
  .refine⟨(sz 1),λe he=>?_⟩;exact q _ .truth _ ⟨e,_,rfl,Zp.of Zz,_,_,rfl,rfl,rfl⟩ trivial ((t1.lay he).m)
  .refine⟨_,rfl,_,_,rfl,rfl,_,rfl,?_⟩;refine Vb (λc3=>?_) (λc3=>?_)
   .refine⟨(sz 5),λL hL=>?_⟩;have s2:=Zv.lay (o:=.lst ([0,1,3,5,200].map V.int)) hL;have t2:=t1.same s2;refine⟨_,rfl,l,5,r+1,rfl,t2.feed,by decide,by decide,λy H3 y0 y1 t3=>?_⟩;obtain⟨n,mn,en⟩:=Di [0,1,3,5,200] y0 y1;refine⟨L,_,_,_,rfl,rfl,Zu.of (t3.keep _ _ (t1.feed.ne hL) Zz),en,(sz 2),λe he=>?_⟩;have bn:0<=n/\n<=200:=(by decide:∀x∈([0,1,3,5,200]:ZC),0<=x/\x<=200) n mn;exact q _ (.text n) _ ⟨e,_,rfl,Zp.of Zz,_,_,rfl,rfl,_,_,rfl,rfl,rfl⟩ bn (((t2.trans t3).lay he).m)
   .refine⟨(sz 3),λL hL=>?_⟩;have s2:=Zv.lay (o:=.lst ((["row","map","row"]:ZF).map V.str)) hL;have t2:=t1.same s2;have c3':¬ x<5:=λz=>c3 (Sd z);obtain⟨wd,mw,ew⟩:=Pl ["row","map","row"] (r:=x-5) QU (by show x-5<3;omega)
    obtain⟨b,rfl⟩:∃b:Bool,wd=(if b=true then ("row" : Str) else ("map" : Str)):=by
     simp only[U8,V9,or_false]at mw;rcases mw with rfl | rfl | rfl
     .exact⟨true,rfl⟩
     .exact⟨false,rfl⟩
     .exact⟨true,rfl⟩
    refine⟨_,rfl,_,_,rfl,rfl,L,_,_,_,rfl,rfl,Zu.of Zz,ew,?_⟩;have ou:=s2 _ _ (t1.keep _ _ np hp);refine⟨_,rfl,_,rfl,_,rfl,_,rfl,p,_,rfl,.inl (Zu.of ou),l,_,r+1,rfl,t2.feed,?_,?_,λy H3 y0 y1 t3=>?_⟩
    .rw[Yv];omega
    .rw[Yv];omega
    obtain⟨nm,mn,en⟩:=Pl ss y0 (by rw[Yv]at y1;exact y1);have Ky:=t3.keep _ _ np ou;have kh:=t2.trans t3;refine⟨p,_,_,_,rfl,rfl,Zu.of Ky,en,(sz 5),λL4 h4=>?_⟩;have s4:=Zv.lay (o:=.lst ([0,1,2,3,20].map V.int)) h4;have ot:=kh.same s4;refine⟨_,rfl,l,5,r,rfl,ot.feed,by decide,by decide,λz H5 z0 z1 t5=>?_⟩;obtain⟨n,mn',en'⟩:=Di [0,1,2,3,20] z0 z1;refine⟨L4,_,_,_,rfl,rfl,Zu.of (t5.keep _ _ (kh.feed.ne h4) Zz),en',(sz 3),λe he=>?_⟩;have bn:0<=n/\n<=20:=(by decide:∀x∈([0,1,2,3,20]:ZC),0<=x/\x<=20) n mn';exact q _ (.row b nm n) _ ⟨e,_,rfl,Zp.of Zz,_,_,rfl,rfl,_,_,rfl,rfl,_,_,rfl,rfl,rfl⟩ ⟨mn,bn⟩ ((ot.trans t5).lay he)
abbrev Js:Stmt:=top 32
noncomputable abbrev Ld:ZF:=QQ
theorem Rz:Ze Ld QQ (Zb Js):=by trivial
theorem Yw:Ll (a::l) 0=some a:=Vj (xs:=a::l) (j:=0) rfl
theorem Vq:Ll (a::b::l) 1=some b:=Vj (xs:=a::b::l) (j:=1) rfl
theorem at2:Ll (a::b::c::l) 2=some c:=Vj (xs:=a::b::c::l) (j:=2) rfl
theorem at3:Ll (a::b::c::d::l) 3=some d:=Vj (xs:=a::b::c::d::l) (j:=3) rfl
theorem Sv(h:Zw K H [a] ws):∃x,ws=[x]/\Zg K H a x:=by
 obtain⟨x,r,rfl,i1,e⟩:=h;cases Zc e;exact⟨x,rfl,i1⟩
theorem U5(h:Zw K H [a,b] ws):∃x y,ws=[x,y]/\Zg K H a x/\Zg K H b y:=by
 obtain⟨x,r,rfl,i1,y,r2,rfl,i2,e⟩:=h;cases Zc e;exact⟨x,y,rfl,i1,i2⟩
theorem J4(h:Zw K H [a,b,c] ws):∃x y z,ws=[x,y,z]/\Zg K H a x/\Zg K H b y/\Zg K H c z:=by
 obtain⟨x,r,rfl,i1,y,r2,rfl,i2,z,r3,rfl,i3,e⟩:=h;cases Zc e;exact⟨x,y,z,rfl,i1,i2,i3⟩
theorem Qk(h:Zw K H [a,b,c,d] ws):∃x y z u,ws=[x,y,z,u]/\Zg K H a x/\Zg K H b y/\Zg K H c z/\Zg K H d u:=by
 obtain⟨x,r,rfl,i1,y,r2,rfl,i2,z,r3,rfl,i3,u,r4,rfl,i4,e⟩:=h;cases Zc e;exact⟨x,y,z,u,rfl,i1,i2,i3,i4⟩
theorem Nm:∀{ns:ZC} {ws:ZZ},Zw K H (ns.map Th.int) ws->ws=ns.map V.int
 | [],_,h=>h
 | n::ns,_,h=>by
  obtain⟨v,r,rfl,e,a⟩:=h;cases Zc e;rw[Nm a];rfl
noncomputable def ud:Th->Int
 | .int i=>i
 | _=>0
noncomputable def P1:Th->Th
 | .tup (a::_)=>a
 | t=>t
noncomputable def Zks:ZF:=["","a"," b-c","must 1",sj "~" (200:Int).toNat]
def fg(c:Nat):Prop:=32<=c/\c<127/\c≠39/\c≠92
instance (c:Nat):Decidable (fg c):=by unfold fg;infer_instance
def Cm(x:Str):Prop:=(∀c∈x.cps.toList,fg c)/\x.length<=200
theorem Zws:∀x∈Zks,Cm x:=λx m=>by
 have h:∀x∈Zks,(x.cps.toList.all λc=>decide (fg c))=true/\x.length<=200:=QA
 exact⟨λc mc=>Sh (A0t.mp (h x m).1 c mc),(h x m).2⟩
mutual
def nqT:Th->Prop
 | .tup ts=>Zx9 ts
 | .opq=>False
 | _=>True
def Zx9:List Th->Prop
 | []=>True
 | t::ts=>nqT t/\Zx9 ts
end
theorem B9:∀{ts:List Th},(∀t∈ts,nqT t)->Zx9 ts
 | [],_=>trivial
 | t::ts,h=>⟨h t Br,B9 λx m=>h x (Ck _ m)⟩
mutual
theorem mj(u:Up K H H'):∀(t:Th) (v:V),nqT t->Zg K H t v->Zg K H' t v
 | .non,_,_,h=>h
 | .bl _,_,_,h=>h
 | .int _,_,_,h=>h
 | .str _,_,_,h=>h
 | .tup ts,v,n,h=>by
  obtain⟨a,vs,e,q,r⟩:=h;exact⟨a,vs,e,u a vs q,z7 u ts vs n r⟩
 | .opq,v,n,h=>n.elim
theorem z7(u:Up K H H'):∀(ts:List Th) (vs:ZZ),Zx9 ts->Zw K H ts vs->Zw K H' ts vs
 | [],_,_,h=>h
 | t::ts,vs,n,h=>by
  obtain⟨v,r,e,q,w⟩:=h;exact⟨v,r,e,mj u t v n.1 q,z7 u ts r n.2 w⟩
end
def Pv:Yn->Th->Prop
 | .whole _ _,.int i=>-Te<=i/\i<=Te
 | .truth,.bl _=>True
 | .text _,.str z=>Cm z
 | .row _ _ _,.tup []=>True
 | _,_=>False
inductive qb(K:W.Frag)(vs:ZZ)(H:Hp)(Q:VK):Prop
 | mk(l:Addr)(v:V)(s:Yn)(ss:ZF)(r:Nat)(Vx:vs=[.ref l,v])(Vz:Zg K H s.t v)(Vp:Pln ss s)(Jn:Fd (r+1) H l)(Mf:∀x u H',Zg K H' u x->Pv s u->Ye l r H H'->Q x H')
def R4(K:W.Frag):Sp:=λvs H Q _=>qb K vs H Q
theorem Pe(F:Fu K "_law_plain_value" Js f fd)(m:Bn mg)(Zt:gD P w K mg base):Yk P w K mg base Mm 2 f fd QQ (R4 K):=by
 refine F.ok Rz (λvs H Q E h=>?_) λ_ A _ s H vs Q E hr h=>?_
 .obtain⟨l,v,t,ss,r,rfl,_⟩:=h
  rfl
 obtain⟨l,v,s0,ss,r,rfl,ht,pl,fe,q⟩:=h;have mmin:=m.min;refine⟨_,(@Zd _ _ _ _ _ (@Uo _ _ _ _ _ _ _ _ (tQ Za (iX Zy (pv 1) Zq) Zk) (@Z2 _ _ _ (@Y6 _ _ _ _ (@Y3 _ _ _ _ _ _ _ Zh (@Z9 _ _ _ _ (@Zj _ _ _ _ _ (@Y3 _ _ _ _ _ _ _ Zy (pv 1) Zq (λ_ _=>rfl)) (@Zj _ _ _ _ _ (@Y3 _ _ _ _ _ _ _ Zy (pv 1) Zq (λ_ _=>rfl)) (@Zj _ _ _ _ _ (@Nk _ _ _ _ _ _ _ _ _ (Kt rfl) rfl mmin Zg1 (@Zj _ _ _ _ _ (@Y3 _ _ _ _ _ _ _ Zy (pv 1) Zq (λ_ _=>rfl)) (@Zj _ _ _ _ _ (@Gp _ _ _ _ _ _ _ _ Ja (@Y3 _ _ _ _ _ _ _ Zy (pv 1) Zq (λ_ _=>rfl)) Zq) Zx rfl) rfl) QI QI rfl rfl) Zx rfl) rfl) rfl)) (cF Zt hr (Zf (pv 0) (Zf Zq Zx))) (λ_ _=>rfl)))) Zl) (@Zd _ _ _ _ _ (qi (tQ Za (iX Zy (pv 1) Zq) Zk) (q1 (qr (eQ Za (cF Zt hr (Zf (pv 0) (Zf Zq Zx))) Zq))) Zl) (@Zd _ _ _ _ _ (@Uo _ _ _ _ _ _ _ _ (tQ Za (iX Zy (pv 1) Zq) Zk) (@Z2 _ _ _ (@Y6 _ _ _ _ (@V6 _ _ _ _ _ _ _ _ _ _ K9 (@Y3 _ _ _ _ _ _ _ Zh (@Z9 _ _ _ _ (@Zj _ _ _ _ _ Zk (@Zj _ _ _ _ _ Zk (@Zj _ _ _ _ _ Zk (@Zj _ _ _ _ _ Zk (@Zj _ _ _ _ _ (@Gp _ _ _ _ _ _ _ _ bz Zk Zq) Zx rfl) rfl) rfl) rfl) rfl)) (cF Zt hr (Zf (pv 0) (Zf Zq Zx))) (λ_ _=>rfl)) (@Jx _) (@Jz _ _ _ (iX Zy (pv 1) Zq))))) Zl) (q1 (qr (qt Zx)))))),?_⟩;cases s0 with
 | rcd _ _=>exact pl.elim
 | cho _ _ _=>exact pl.elim
 | whole lo hi =>
  refine hide λ_ Z1=>?_;obtain⟨a,ws,rfl,ha,at'⟩:=ht;obtain⟨w1,w2,w3,rfl,i1,i2,i3⟩:=J4 at';cases Zc i1;cases Zc i2;cases Zc i3;refine Z1 ?_;refine⟨_,rfl,a,_,_,_,rfl,rfl,ha,Yw,rfl,_,rfl,iY ?_⟩;refine⟨_,rfl,a,_,_,_,rfl,rfl,ha,Vq,_,rfl,a,_,_,_,rfl,rfl,ha,at2,_,rfl,a,_,_,_,rfl,rfl,ha,at2,_,rfl,a,_,_,_,rfl,rfl,ha,Vq,_,_,rfl,rfl,_,_,rfl,(sz 3),λL hL=>?_⟩;have t1:=(Ye.refl fe).lay (o:=.lst ([lo,hi,if lo+1<hi then lo+1 else hi].map V.int)) hL;refine⟨_,rfl,l,3,r,rfl,t1.feed,by decide,by decide,λy H3 y0 y1 t3=>?_⟩;refine hide λ_ Yz=>?_;obtain⟨k,mk,ek⟩:=Di [lo,hi,if lo+1<hi then lo+1 else hi] y0 y1;refine Yz ?_;refine⟨L,_,_,_,rfl,rfl,Zu.of (t3.keep _ _ (fe.ne hL) Zz),ek,?_⟩;refine q _ (.int k) H3 rfl ?_ (t1.trans t3);refine hide λ_ Yq=>?_;obtain⟨p1,p2,p3⟩:=pl;refine Yq ?_;simp only[U8,V9,or_false]at mk;show -Te<=k/\k<=Te;rcases mk with rfl | rfl | rfl
  .omega
  .omega
  .split<;>omega
 | truth =>
  refine hide λ_ Yy=>?_;obtain⟨a,ws,rfl,ha,at'⟩:=ht;obtain⟨w1,rfl,i1⟩:=Sv at';cases Zc i1;refine Yy ?_;refine⟨_,rfl,a,_,_,_,rfl,rfl,ha,Yw,rfl,_,rfl,iN ?_⟩;refine⟨_,rfl,a,_,_,_,rfl,rfl,ha,Yw,rfl,_,rfl,iY ?_⟩;refine⟨_,rfl,l,2,r,rfl,fe,by decide,by decide,λy H3 y0 y1 t3=>?_⟩;exact⟨rfl,q _ (.bl _) H3 rfl trivial t3⟩
 | text n =>
  refine hide λ_ Yg=>?_;obtain⟨n0,n1⟩:=pl;obtain⟨a,ws,rfl,ha,at'⟩:=ht;obtain⟨w1,w2,rfl,i1,i2⟩:=U5 at';cases Zc i1;cases Zc i2;refine Yg ?_
  iterate 2 refine⟨_,rfl,a,_,_,_,rfl,rfl,ha,Yw,rfl,_,rfl,iN ?_⟩
  refine⟨_,rfl,a,_,_,_,rfl,rfl,ha,Yw,rfl,_,rfl,iY ?_⟩;refine⟨_,_,rfl,rfl,by decide,by decide,by decide +kernel,by decide +kernel,(sz 5),λL hL=>?_⟩;have t1:=(Ye.refl fe).lay (o:=.lst (Zks.map V.str)) hL;refine⟨_,rfl,l,5,r,rfl,t1.feed,by decide,by decide,λy H3 y0 y1 t3=>?_⟩;refine hide λ_ Yc=>?_;obtain⟨x,mx,ex⟩:=Pl Zks y0 y1;refine Yc ?_;have gx:=Zws x mx;have Qm:=t1.trans t3;refine⟨L,_,_,_,rfl,rfl,Zu.of (t3.keep _ _ (fe.ne hL) Zz),ex,_,rfl,a,_,_,_,rfl,rfl,(Qm.up (K:=K) fe) _ _ ha,Vq,_,rfl,x,rfl,Vf gx.2 QI,λz h1 _ h3=>?_⟩;exact q _ (.str z) H3 rfl ⟨λc mc=>gx.1 c (h3 c mc),Vf h1 gx.2⟩ Qm
 | row b x n =>
  refine hide λ_ Yr=>?_;obtain⟨a,ws,rfl,ha,at'⟩:=ht;obtain⟨w1,w2,w3,rfl,i1,i2,i3⟩:=J4 at';have e1:∀b:Bool,decide (V.str (if b=true then ("row" : Str) else "map")=V.str "whole")=false/\decide (V.str (if b=true then ("row" : Str) else "map")=V.str "truth")=false/\decide (V.str (if b=true then ("row" : Str) else "map")=V.str "text")=false:=QA
  cases Zc i1;refine Yr ?_;refine⟨_,rfl,a,_,_,_,rfl,rfl,ha,Yw,rfl,_,rfl,Z5 (e1 b).1 ?_⟩;refine⟨_,rfl,a,_,_,_,rfl,rfl,ha,Yw,rfl,_,rfl,Z5 (e1 b).2.1 ?_⟩;refine⟨_,rfl,a,_,_,_,rfl,rfl,ha,Yw,rfl,_,rfl,Z5 (e1 b).2.2 ?_⟩;refine⟨(sz 0),λe he=>?_⟩;exact q _ (.tup []) _ ⟨e,_,rfl,Zp.of Zz,rfl⟩ trivial (((Ye.refl fe).lay he).m)
abbrev B1:Stmt:=top 34
noncomputable abbrev xw:ZF:=["_law_feed_here","_law_names_here","_law_shapes","_law_called","_law_found","_law_k","_law_number","_law_inner","_law_default"]
theorem Vd:Ze xw XI (Zb B1):=by trivial
def PC(ss:ZF)(s:Yn):Prop:=Pln ss s\/∃fs us o,s=.cho fs us o
structure Ka(ss:ZF)(pl:Str->Option Yn)(f:Vk):Prop where
 n:f.n∈Fb
 y:f.y∈ss
 d:∀u,f.d=some u->∃s,pl f.y=some s/\Pv s u
structure Cw(ss:ZF)(pl:Str->Option Yn)(fs:List Vk):Prop where
 len:fs.length<=5
 form:∀f∈fs,Ka ss pl f
 nums:(fs.map Vk.n).Sublist Fb
def oq(K:W.Frag)(H:Hp)(ss:ZF)(pl:Str->Option Yn)(d:Addr):Prop:=∃XQ:List (Key×V),H d=some (.dK XQ)/\∀x v,Dn XQ (.inr x)=some v->∃s,pl x=some s/\Zg K H (Yn.t s) v/\PC ss s
theorem oq.up(h:oq K H ss pl d)(u:Ui K H H'):oq K H' ss pl d:=by
 obtain⟨XQ,e,g⟩:=h;refine⟨XQ,u.dct _ _ e,λk v ev=>?_⟩;obtain⟨s,es,i,c⟩:=g k v ev;exact⟨s,es,Zg.up u _ _ i,c⟩
inductive qd(K:W.Frag)(vs:ZZ)(H:Hp)(Q:VK):Prop
 | mk(l p d:Addr)(ss:ZF)(pl:Str->Option Yn)(r:Nat)(Vx:vs=[.ref l,.ref p,.ref d])(Vz:H p=some (.lst (ss.map V.str)))(Vp:1<=ss.length)(Jn:ss.length<=12)(Mf:oq K H ss pl d)(Co:Fd (r+25) H l)(Xo:∀v fs H',Zg K H' (.tup (fs.map Vk.t)) v->Cw ss pl fs->Ye l r H H'->Q v H')
def Pz(K:W.Frag):Sp:=λvs H Q _=>qd K vs H Q
theorem jb(h:Pln ss s):∃(w0:Str) (r0:List Th),s.t=.tup (.str w0::r0)/\A0 (.str w0) [.str "none",.str "choice"]=false:=by
 cases s with
 | whole lo hi=>exact⟨_,_,rfl,by decide +kernel⟩
 | truth=>exact⟨_,_,rfl,by decide +kernel⟩
 | text n=>exact⟨_,_,rfl,by decide +kernel⟩
 | row b y n =>
  have e:∀b:Bool,A0 (.str (if b=true then ("row" : Str) else "map")) [.str "none",.str "choice"]=false:=QA
  exact⟨_,_,rfl,e b⟩
 | rcd _ _=>exact h.elim
 | cho _ _ _=>exact h.elim
structure Kq(K:W.Frag)(l C N D:Addr)(H:Hp)(cs:ZF)(ns:ZC)(ws:ZZ)(fs:List Th)(r:Nat)(Ha:Hp):Prop where
 st:Ye l r H Ha
 c:Ha C=some (.lst (cs.map V.str))
 n:Ha N=some (.lst (ns.map V.int))
 d:Ha D=some (.lst ws)
 a:Zw K Ha fs ws
theorem Kq.same{K:W.Frag}{l C N D:Addr}{H:Hp}{cs:ZF}{ns:ZC}{ws:ZZ}{fs:List Th}{r:Nat}{Ha Hb:Hp}(k:Kq K l C N D H cs ns ws fs r Ha)(s:Zv Ha Hb):Kq K l C N D H cs ns ws fs r Hb :=
 ⟨k.st.same s,s _ _ k.c,s _ _ k.n,s _ _ k.d,Zw.up s.upT _ _ k.a⟩
theorem Kq.step{K:W.Frag}{l C N D:Addr}{H:Hp}{cs:ZF}{ns:ZC}{ws:ZZ}{fs:List Th}{r r':Nat}{Ha Hb:Hp}(k:Kq K l C N D H cs ns ws fs r Ha)(t:Ye l r' Ha Hb)(c:C≠l)(n:N≠l)(d:D≠l):Kq K l C N D H cs ns ws fs r' Hb :=
 ⟨k.st.trans t,t.keep _ _ c k.c,t.keep _ _ n k.n,t.keep _ _ d k.d,Zw.up (t.upT k.st.feed) _ _ k.a⟩
abbrev gN(P:Program)(w:World)(K:W.Frag)(mg:G6)(base:Heap):=Fn P w K mg base 2 "_law_names" XN K4
theorem ph(F:Fu K "_law_parts" B1 f fd)(m:Bn mg)(Zt:gD P w K mg base)(G1:gN P w K mg base)
  (Ek:Fn P w K mg base 2 "_law_numbers" QK La) (Ji:Fn P w K mg base 2 "_law_plain_value" QQ (R4 K)):Yk P w K mg base Mm 3 f fd XI (Pz K):=by
 refine F.ok Vd (λvs H Q E h=>?_) λ_ A _ s H vs Q E hr h=>?_
 .obtain⟨l,p,d,ss,pl,r,rfl,_⟩:=h
  rfl
 obtain⟨l,p,d,ss,pl,r,rfl,hp,l1,l2,dp,fe,q⟩:=h;refine⟨_,(@Zd _ _ _ _ _ (sI 3 Vd.nd (cF G1 hr (Zf (pv 0) (Zf Zq Zx)))) (qs (sI 4 Vd.nd (ql Zx)) (qs (Jj PassesOwn.never rfl (Zxn rfl m.enumerate (Zf (cF Ek hr (Zf (pv 0) (Zf Zq Zx))) Zx)) (De rfl (Z3 (nJ 5 Vd.nd) (Z3 (nJ 6 Vd.nd) Ju))) (qs (sI 7 Vd.nd (iX Zh (pv 1) (cF Zt hr (Zf (pv 0) (Zf (cB Yl m.len Dz (Zf (pv 1) Zx)) Zx))))) (qs (sI 8 Vd.nd (qt Zx)) (qs (qi (qp (@pw_and _ _ _ _ _ _ _ (Uw Ua (iX Zy (@Iu _ _ _ _ _ _ _ _ _ (Jo hr) (pv 2) (pv 7) (qt (Zf Zk Zx)) ⟨rfl,rfl,rfl,rfl⟩) Zq) (qt (Zf Zk (Zf Zk Zx))) rfl) (@pw_and1 _ _ _ _ (tQ Za (cF Zt hr (Zf (pv 0) (Zf Zq Zx))) Zq)))) (q1 (sI 8 Vd.nd (qt (Zf (cF Ji hr (Zf (pv 0) (Zf (@Mn _ _ _ _ _ _ (Jo hr) (pv 2) (pv 7) (λ_ _=>rfl)) Zx))) Zx)))) Zl) (q1 (@Dj _ _ _ _ (@Wx _ _ _ _ _ _ _ _ _ _ _ _ PySem.F.plainAttrs_list PySem.F.slot_list_append PySem.F.type_list_append Ux (pv 4) (Zf (qt (Zf (pv 6) (Zf (iX Zh (pv 3) (pv 5)) (Zf (pv 7) (Zf (pv 8) Zx))))) Zx) QO QO QO QO QO) rfl)))))) (q1 (qr (cT Zr m.tuple Yd (Zf (pv 4) Zx))))))),?_⟩;have np:=ke fe hp;refine⟨_,rfl,l,8,r+23,rfl,fe,by decide,λC cs H1 hC nC okC t1=>?_⟩;have nCl:C≠l:=fe.ne nC;refine⟨(sz 0),λD hD=>?_⟩;have t2:=t1.lay (o:=.lst []) hD;have nD:H D=none:=t1.free hD;have nDl:D≠l:=fe.ne nD;have hC2:=(Zv.lay (o:=.lst []) hD) _ _ hC;have nDC:D≠C:=λe=>by rw[e,hC]at hD;cases hD
 refine⟨_,rfl,l,5,r+15,rfl,t2.feed.m,λN ns H3 hN nN sbN lnN t3=>?_⟩;have kh:=t2.trans t3;have nNl:N≠l:=t2.feed.ne nN;have hC3:=t3.keep _ _ nCl hC2;have Sl:H3 D=some (.lst []):=t3.keep _ _ nDl Zz;have nDN:D≠N:=λe=>by rw[<-e,Zz]at nN;cases nN
 have Ky:=kh.keep _ _ np hp;have npD:p≠D:=Z0 hp nD;refine⟨N,_,rfl,Zu.of hN,?_⟩
 refine u0 (xs:=ns.map V.int) (λi j H5=>(∃o5 o6 o7 o8,j=[some (.ref l),some (.ref p),some (.ref d),some (.ref C),some (.ref D),o5,o6,o7,o8])/\Ye l (r+3*(5-i)) H H5/\H5 C=some (.lst (cs.map V.str))/\H5 N=some (.lst (ns.map V.int)) /\
   ∃(fs:List Vk) (ws:ZZ),H5 D=some (.lst ws)/\Zw K H5 (fs.map Vk.t) ws/\(∀f∈fs,Ka ss pl f)/\fs.map Vk.n=ns.take i)
  ⟨⟨_,_,_,_,rfl⟩,kh.m,hC3,hN,[],[],Sl,rfl,λf m=>absurd m V9,rfl⟩ ?_ ?_ ?_
 .intro i j H5 hi Ot;refine hide λ_ Z1=>?_;obtain⟨_,_,_,h5,_⟩:=Ot;refine Z1 ?_;exact Zu.of h5
 .intro i x e j H5 hx Rc he;refine hide λ_ Yz=>?_;obtain⟨⟨o5,o6,o7,o8,rfl⟩,t5,h5C,h5N,fs,ws,Qv,af,ff,fn⟩:=Rc;rw[Jb]at hx;obtain⟨n,en,rfl⟩:=Cy.mp hx;refine Yz ?_;have hi:i<ns.length:=(Bl.mp en).1;have nN:n∈Fb:=sbN.subset (Cr en);have ic:i<cs.length:=by rw[okC.len];omega
  have ec:cs[i]?=some cs[i]:=Bh ic;have mC:cs[i]∈cs:=G0e ic;have eC:Ll (cs.map V.str) (i:Int)=some (.str cs[i]):=Vj (by rw[Jb,ec];rfl);generalize cs[i]=cx at ec mC eC
  have wl:ws.length<sizeLine:=by
   have:fs.length=i:=by
    have z:=congrArg List.length fn;rw[Yv,Cs]at z;omega
   rw[<-af.length,Yv];exact Qe (show fs.length<=8 by omega) QI
  have k5:Kq K l C N D H cs ns ws (fs.map Vk.t) (r+3*(5-i)) H5:=⟨t5,h5C,h5N,Qv,af⟩;have k6:=k5.same (Zv.lay (o:=.tup [.int i,.int n]) he);refine⟨e,_,rfl,Zp.of Zz,rfl,_,_,rfl,_,_,rfl,rfl,?_⟩;have hp6:=k6.st.keep _ _ np hp;refine⟨_,rfl,_,rfl,_,rfl,p,_,rfl,.inl (Zu.of hp6),l,_,r+3*(5-(i+1))+2,rfl,k6.st.feed.m,?_,?_,λy H7 y0 y1 t7=>?_⟩
  .rw[Yv];omega
  .rw[Yv];omega
  refine hide λ_ Yq=>?_;obtain⟨nm,mn,enm⟩:=Pl ss y0 (by rw[Yv]at y1;exact y1);refine Yq ?_;have k7:=k6.step t7 nCl nNl nDl;refine⟨p,_,_,_,rfl,rfl,Zu.of (k7.st.keep _ _ np hp),enm,(sz 0),λed hed=>?_⟩;have k8:=k7.same (Zv.lay (o:=.tup []) hed);have i8:Zg K (upd H7 ed (.tup [])) (.tup []) (.ref ed):=⟨ed,[],rfl,Zp.of Zz,rfl⟩;refine hide λ_ Yy=>?_;obtain⟨XQ,hd8,g8⟩:=dp.up (k8.st.upT fe);refine Yy ?_;refine⟨_,rfl,d,rfl,.inl ⟨_,.inl hd8⟩,_,rfl,(sz 1),λe9 h9=>?_⟩;have s9:=Zv.lay (o:=.tup [.str "none"]) h9;have k9:=k8.same s9;refine⟨_,Ue.k (k:=.inr nm) (s9 _ _ hd8),?_⟩;cases hv:Dn XQ (.inr nm) with
  | none =>
   refine⟨e9,_,_,_,rfl,rfl,Zp.of Zz,Yw,(sz 2),λe10 F0=>?_⟩;have Pk:=Zv.lay (o:=.tup [.str "none",.str "choice"]) F0;refine⟨e10,_,rfl,.inr (Zp.of Zz),rfl,rfl,_,rfl,Z5 QA (Wn ?_)⟩;have kT:=(k9.same Pk);refine hide λ_ Yg=>?_;obtain⟨od,iD,okD⟩:∃od:Option Th,Zg K _ (.tup od.toList) (.ref ed)/\(∀u,od=some u->∃s,pl nm=some s/\Pv s u):=⟨none,Zg.up (s9.trans Pk).upT _ _ i8,λu e=>nomatch e⟩;refine Yg ?_;refine⟨_,rfl,.inl ⟨rfl,_,Zu.of kT.d⟩,_,rfl,_,rfl,_,rfl,C,_,_,_,rfl,rfl,Zu.of kT.c,eC,_,rfl,_,rfl,(sz 4),λeT hT=>?_⟩;have sT:=Zv.lay (o:=.tup [.int n,.str cx,.str nm,.ref ed]) hT;have kU:=kT.same sT;refine⟨D,ws,_,rfl,rfl,kU.d,wl,?_⟩;have uD:Ui K _ (upd _ D (.lst (ws++[.ref eT]))):=Zi kU.d;have fT:Ka ss pl ⟨n,cx,nm,od⟩:=⟨nN,mn,okD⟩;refine⟨⟨_,_,_,_,rfl⟩,(kU.st.put nD (fe.far nD)).m,by rw[Zm nDC.symm];exact kU.c,by rw[Zm nDN.symm];exact kU.n,fs++[⟨n,cx,nm,od⟩],_,Zz,?_,λg mg=>?_,?_⟩
   .rw[Gw];refine Zw.append (Zw.up uD _ _ kU.a) (Zw.one (Zg.up uD _ _ ⟨eT,_,rfl,Zp.of Zz,?_⟩));exact⟨_,_,rfl,rfl,_,_,rfl,rfl,_,_,rfl,rfl,_,_,rfl,Zg.up sT.upT _ _ iD,rfl⟩
   .rcases M6.mp mg with mg | mg
    .exact ff g mg
    .rw[Nw.mp mg];exact fT
   .rw[Gw,fn,Zs en];rfl
  | some v =>
   refine hide λ_ Yc=>?_;obtain⟨s,es,it,ct⟩:=g8 _ _ hv;refine Yc ?_;have it9:=Zg.up s9.upT _ _ it;rcases ct with pt | ⟨cf,cu,co,rfl⟩
   .refine hide λ_ Yr=>?_;obtain⟨w0,r0,et,nw⟩:=jb pt;rw[et]at it9;obtain⟨pv,vs,rfl,hv9,v0,vr,rfl,i0,_⟩:=it9;cases Zc i0;refine Yr ?_;refine⟨pv,_,_,_,rfl,rfl,hv9,Yw,(sz 2),λe10 F0=>?_⟩;have Pk:=Zv.lay (o:=.tup [.str "none",.str "choice"]) F0;have k10:=k9.same Pk;refine⟨e10,_,rfl,.inr (Zp.of Zz),rfl,rfl,_,rfl,Vi (by rw[nw];rfl) ?_⟩;refine⟨_,rfl,l,2,r+3*(5-(i+1))+1,rfl,k10.st.feed.m,by decide,by decide,λz H11 z0 z1 Q6=>?_⟩;have k11:=k10.step Q6 nCl nNl nDl;refine⟨rfl,_,rfl,?_⟩;refine Vb (λcz=>?_) (λcz=>?_)
    .have u811:Ui K (upd H7 ed (.tup [])) H11:=(s9.trans Pk).upT.trans (Q6.upT k10.st.feed);refine⟨_,rfl,_,rfl,_,rfl,d,_,rfl,(show Ue H11 d (kV (.inr nm)) (some (.ref pv)) from hv ▸ Ue.k (k:=.inr nm) (u811.dct _ _ hd8)),l,.ref pv,s,ss,r+3*(5-(i+1)),rfl,Zg.up u811 _ _ it,pt,k11.st.feed,λx u H12 ix lu t12=>?_⟩;have k12:=k11.step t12 nCl nNl nDl;refine⟨(sz 1),λed hed2=>?_⟩;have s13:=Zv.lay (o:=.tup [x]) hed2;have kT:=k12.same s13;refine hide λ_ Yo=>?_;obtain⟨od,iD,okD⟩:∃od:Option Th,Zg K (upd H12 ed (.tup [x])) (.tup od.toList) (.ref ed)/\(∀u,od=some u->∃s,pl nm=some s/\Pv s u):=⟨some u,⟨ed,_,rfl,Zp.of Zz,Zw.one (Zg.up s13.upT _ _ ix)⟩,λu' e'=>by cases e';exact⟨s,es,lu⟩⟩;refine Yo ?_;refine⟨_,rfl,.inl ⟨rfl,_,Zu.of kT.d⟩,_,rfl,_,rfl,_,rfl,C,_,_,_,rfl,rfl,Zu.of kT.c,eC,_,rfl,_,rfl,(sz 4),λeT hT=>?_⟩;have sT:=Zv.lay (o:=.tup [.int n,.str cx,.str nm,.ref ed]) hT;have kU:=kT.same sT;refine⟨D,ws,_,rfl,rfl,kU.d,wl,?_⟩;have uD:Ui K _ (upd _ D (.lst (ws++[.ref eT]))):=Zi kU.d;have fT:Ka ss pl ⟨n,cx,nm,od⟩:=⟨nN,mn,okD⟩;refine⟨⟨_,_,_,_,rfl⟩,(kU.st.put nD (fe.far nD)).m,by rw[Zm nDC.symm];exact kU.c,by rw[Zm nDN.symm];exact kU.n,fs++[⟨n,cx,nm,od⟩],_,Zz,?_,λg mg=>?_,?_⟩
     .rw[Gw];refine Zw.append (Zw.up uD _ _ kU.a) (Zw.one (Zg.up uD _ _ ⟨eT,_,rfl,Zp.of Zz,?_⟩));exact⟨_,_,rfl,rfl,_,_,rfl,rfl,_,_,rfl,rfl,_,_,rfl,Zg.up sT.upT _ _ iD,rfl⟩
     .rcases M6.mp mg with mg | mg
      .exact ff g mg
      .rw[Nw.mp mg];exact fT
     .rw[Gw,fn,Zs en];rfl
    .have kT:=k11;refine hide λ_ Z1=>?_;obtain⟨od,iD,okD⟩:∃od:Option Th,Zg K _ (.tup od.toList) (.ref ed)/\(∀u,od=some u->∃s,pl nm=some s/\Pv s u):=⟨none,Zg.up ((s9.trans Pk).upT.trans (Q6.upT k10.st.feed)) _ _ i8,λu e=>nomatch e⟩;refine Z1 ?_;refine⟨_,rfl,.inl ⟨rfl,_,Zu.of kT.d⟩,_,rfl,_,rfl,_,rfl,C,_,_,_,rfl,rfl,Zu.of kT.c,eC,_,rfl,_,rfl,(sz 4),λeT hT=>?_⟩;have sT:=Zv.lay (o:=.tup [.int n,.str cx,.str nm,.ref ed]) hT;have kU:=kT.same sT;refine⟨D,ws,_,rfl,rfl,kU.d,wl,?_⟩;have uD:Ui K _ (upd _ D (.lst (ws++[.ref eT]))):=Zi kU.d;have fT:Ka ss pl ⟨n,cx,nm,od⟩:=⟨nN,mn,okD⟩;refine⟨⟨_,_,_,_,rfl⟩,(kU.st.put nD (fe.far nD)).m,by rw[Zm nDC.symm];exact kU.c,by rw[Zm nDN.symm];exact kU.n,fs++[⟨n,cx,nm,od⟩],_,Zz,?_,λg mg=>?_,?_⟩
     .rw[Gw];refine Zw.append (Zw.up uD _ _ kU.a) (Zw.one (Zg.up uD _ _ ⟨eT,_,rfl,Zp.of Zz,?_⟩));exact⟨_,_,rfl,rfl,_,_,rfl,rfl,_,_,rfl,rfl,_,_,rfl,Zg.up sT.upT _ _ iD,rfl⟩
     .rcases M6.mp mg with mg | mg
      .exact ff g mg
      .rw[Nw.mp mg];exact fT
     .rw[Gw,fn,Zs en];rfl
   .refine hide λ_ Yz=>?_;obtain⟨pv,vs,rfl,hv9,v0,vr,rfl,i0,_⟩:=it9;cases Zc i0;refine Yz ?_;refine⟨pv,_,_,_,rfl,rfl,hv9,Yw,(sz 2),λe10 F0=>?_⟩;have Pk:=Zv.lay (o:=.tup [.str "none",.str "choice"]) F0;refine⟨e10,_,rfl,.inr (Zp.of Zz),rfl,rfl,_,rfl,Z5 QA (Wn ?_)⟩;have kT:=(k9.same Pk);refine hide λ_ Yq=>?_;obtain⟨od,iD,okD⟩:∃od:Option Th,Zg K _ (.tup od.toList) (.ref ed)/\(∀u,od=some u->∃s,pl nm=some s/\Pv s u):=⟨none,Zg.up (s9.trans Pk).upT _ _ i8,λu e=>nomatch e⟩;refine Yq ?_;refine⟨_,rfl,.inl ⟨rfl,_,Zu.of kT.d⟩,_,rfl,_,rfl,_,rfl,C,_,_,_,rfl,rfl,Zu.of kT.c,eC,_,rfl,_,rfl,(sz 4),λeT hT=>?_⟩;have sT:=Zv.lay (o:=.tup [.int n,.str cx,.str nm,.ref ed]) hT;have kU:=kT.same sT;refine⟨D,ws,_,rfl,rfl,kU.d,wl,?_⟩;have uD:Ui K _ (upd _ D (.lst (ws++[.ref eT]))):=Zi kU.d;have fT:Ka ss pl ⟨n,cx,nm,od⟩:=⟨nN,mn,okD⟩;refine⟨⟨_,_,_,_,rfl⟩,(kU.st.put nD (fe.far nD)).m,by rw[Zm nDC.symm];exact kU.c,by rw[Zm nDN.symm];exact kU.n,fs++[⟨n,cx,nm,od⟩],_,Zz,?_,λg mg=>?_,?_⟩
    .rw[Gw];refine Zw.append (Zw.up uD _ _ kU.a) (Zw.one (Zg.up uD _ _ ⟨eT,_,rfl,Zp.of Zz,?_⟩));exact⟨_,_,rfl,rfl,_,_,rfl,rfl,_,_,rfl,rfl,_,_,rfl,Zg.up sT.upT _ _ iD,rfl⟩
    .rcases M6.mp mg with mg | mg
     .exact ff g mg
     .rw[Nw.mp mg];exact fT
    .rw[Gw,fn,Zs en];rfl
 .intro j H5 Oa;refine hide λ_ Yy=>?_;obtain⟨⟨o5,o6,o7,o8,rfl⟩,t5,h5C,h5N,fs,ws,Qv,af,ff,fn⟩:=Oa;refine Yy ?_;refine⟨_,rfl,D,ws,rfl,.inl ⟨Zu.of Qv,λe he=>?_⟩⟩;have s6:=Zv.lay (o:=.tup ws) he;rw[T0l (by rw[Yv];exact Yt _)]at fn;have fl:fs.length=ns.length:=by rw[<-fn,Yv]
  refine q (.ref e) fs _ ⟨e,ws,rfl,Zp.of Zz,Zw.up s6.upT _ _ af⟩ ⟨by omega,ff,by rw[fn];exact sbN⟩ ((t5.same s6).m)
abbrev Gv:Stmt:=top 35
noncomputable abbrev Bv:ZF:=["_law_feed_here","_law_names_here","_law_shapes","_law_name","_law_way","_law_arms","_law_struck_here","_law_plain","_law_parts_here"]
theorem Vv:Ze Bv QC (Zb Gv):=by trivial
structure UpO(K:W.Frag)(H H':Hp):Prop where
 tup:Up K H H'
 lst:∀a xs,H a=some (.lst xs)->∃ys,H' a=some (.lst ys)
 dct:∀a XQ,H a=some (.dK XQ)->∃Zyh,H' a=some (.dK Zyh)
theorem C4(u:Ui K H H'):UpO K H H':=⟨u.tup,u.lst,λa k h=>⟨k,u.dct a k h⟩⟩
mutual
theorem Wp(u:UpO K H H'):∀(t:Th) (v:V),Zg K H t v->Zg K H' t v
 | .non,_,h=>h
 | .bl _,_,h=>h
 | .int _,_,h=>h
 | .str _,_,h=>h
 | .tup ts,v,h=>by
  obtain⟨a,vs,e,q,r⟩:=h;exact⟨a,vs,e,u.tup a vs q,Kp u ts vs r⟩
 | .opq,v,h=>by
  obtain⟨a,e,q⟩:=h;refine⟨a,e,?_⟩;rcases q with ⟨xs,q⟩ | ⟨k,q⟩
  .exact .inl (u.lst a xs q)
  .exact .inr (u.dct a k q)
theorem Kp(u:UpO K H H'):∀(ts:List Th) (vs:ZZ),Zw K H ts vs->Zw K H' ts vs
 | [],_,h=>h
 | t::ts,vs,h=>by
  obtain⟨v,r,e,q,w⟩:=h;exact⟨v,r,e,Wp u t v q,Kp u ts r w⟩
end
theorem K0(h:H S=some (.dK XQ)):UpO K H (upd H S (.dK Zyh)):=by
 have ne:∀{x:Addr} {o:HO},H x=some o->(∀k,o≠.dK k)->x≠S:=λe n z=>by
  rw[z,h]at e;cases e;exact n _ rfl
 refine⟨λc xs q=>?_,λa xs q=>⟨xs,by rw[Zm (ne q λ_ z=>nomatch z)];exact q⟩,λa k q=>?_⟩
 .rcases q with (q | ⟨o,q⟩) | q
  .exact .inl (.inl (by rw[Zm (ne q λ_ z=>nomatch z)];exact q))
  .exact .inl (.inr ⟨o,by rw[Zm (ne q λ_ z=>nomatch z)];exact q⟩)
  .exact .inr q
 .by_cases z:a=S
  .exact⟨Zyh,by rw[z,Zz]⟩
  .exact⟨k,by rw[Zm z];exact q⟩
noncomputable def Jc:List (Str×Yn)->Str->Option Yn
 | [],_=>none
 | (y,s)::r,x=>if y=x then some s else Jc r x
theorem bu:Jc (a++b) x=(Jc a x).or (Jc b x):=by
 induction a with
 | nil=>simp[Jc]
 | cons p a ih =>
  obtain⟨y,s⟩:=p;by_cases h:y=x
  .simp[Jc,h]
  .simp[Jc,h,ih]
theorem Xm:Jc a x=none↔x∉a.map (·.1):=by
 induction a with
 | nil=>simp[Jc]
 | cons p a ih =>
  obtain⟨y,s⟩:=p;by_cases h:y=x
  .simp[Jc,h]
  .have h':¬ x=y:=λz=>h z.symm;simp[Jc,h,h',ih]
theorem bp(h:Jc a x=some s):(x,s)∈a:=by
 induction a with
 | nil=>cases h
 | cons p a ih =>
  obtain⟨y,s'⟩:=p;by_cases e:y=x
  .simp only[Jc,e,if_true]at h;cases h;rw[e];exact Br
  .simp only[Jc,e,if_false]at h;exact Ck _ (ih h)
def Dm(K:W.Frag)(H:Hp):List (Key×V)->List (Str×Yn)->Prop:=Paired λp m=>p.1=.inr m.1/\Zg K H m.2.t p.2
theorem Dm.up(h:Dm K H XQ ms)(u:UpO K H H'):Dm K H' XQ ms:=Paired.mapP h λ_ _ z=>⟨z.1,Wp u _ _ z.2⟩
theorem Dm.val:∀{XQ:List (Key×V)} {ms:List (Str×Yn)},Dm K H XQ ms->∀x,(Jc ms x=none/\Dn XQ (.inr x)=none)\/∃s v,Jc ms x=some s/\Dn XQ (.inr x)=some v/\Zg K H s.t v
 | _,_,.nil,x=>.inl ⟨rfl,rfl⟩
 | (k,v)::XQ,(y,s)::ms,.cons r t,x=>by
  have rk:k=.inr y:=r.1;subst rk;by_cases e:y=x
  .subst e;exact .inr ⟨s,v,by simp[Jc],Bu rfl,r.2⟩
  .have e':¬ ((Sum.inr y,v):Key×V).1=Sum.inr x:=λz=>e (Sum.inr.inj z);rw[Nv e'];simp only[Jc,e,if_false];exact Dm.val t x
theorem Dm.keys:∀{XQ:List (Key×V)} {ms:List (Str×Yn)},Dm K H XQ ms->XQ.map (·.1)=ms.map λp=>Sum.inr p.1
 | _,_,.nil=>rfl
 | (k,v)::XQ,(y,s)::ms,.cons r t=>by
  rw[Mu,Mu,Dm.keys t];exact congrArg (·::_) r.1
theorem Dm.snoc(h:Dm K H XQ ms)(i:Zg K H s.t v):Dm K H (XQ++[(.inr x,v)]) (ms++[(x,s)]):=by
 induction h with
 | nil=>exact .cons ⟨rfl,i⟩ .nil
 | cons r t ih=>exact .cons r ih
structure Mk(K:W.Frag)(l C S:Addr)(H:Hp)(cs:ZF)(ms:List (Str×Yn))(r:Nat)(Ha:Hp):Prop where
 st:Ye l r H Ha
 c:Ha C=some (.lst (cs.map V.str))
 d:∃XQ,Ha S=some (.dK XQ)/\Dm K Ha XQ ms
section
variable{K:W.Frag}{l C S:Addr}{H Ha Hb:Hp}{cs:ZF}{ms:List (Str×Yn)}{r r':Nat}
theorem Mk.same(k:Mk K l C S H cs ms r Ha)(s:Zv Ha Hb):Mk K l C S H cs ms r Hb :=
 let ⟨XQ,e,g⟩:=k.d
 ⟨k.st.same s,s _ _ k.c,XQ,s _ _ e,g.up (C4 s.upT)⟩
theorem Mk.step(k:Mk K l C S H cs ms r Ha)(t:Ye l r' Ha Hb)(c:C≠l)(d:S≠l):Mk K l C S H cs ms r' Hb :=
 let ⟨XQ,e,g⟩:=k.d
 ⟨k.st.trans t,t.keep _ _ c k.c,XQ,t.keep _ _ d e,g.up (C4 (t.upT k.st.feed))⟩
theorem Mk.mono(k:Mk K l C S H cs ms r Ha)(h:r'<=r):Mk K l C S H cs ms r' Ha:=⟨k.st.mono h,k.c,k.d⟩
theorem Mk.m(k:Mk K l C S H cs ms r Ha)(h:r'<=r:=by omega):Mk K l C S H cs ms r' Ha:=k.mono h
theorem Mk.put(k:Mk K l C S H cs ms r Ha)(fe:Fd r' H l)(nS:H S=none)(nCS:C≠S)(i:Zg K Ha s.t v)(hn:ms.length<sizeLine)(nx:Jc ms x=none):∃Hb,y9 Ha S (kV (.inr x)) v Hb/\Mk K l C S H cs (ms++[(x,s)]) r Hb/\(∀a,a≠S->Hb a=Ha a)/\UpO K Ha Hb:=by
 obtain⟨XQ,e,g⟩:=k.d
 have vn:Dn XQ (.inr x)=none:=by
  rcases g.val x with ⟨_,z⟩ | ⟨s',v',z,_⟩
  .exact z
  .rw[nx]at z;cases z
 have lk:XQ.length=ms.length:=Paired.length g;refine⟨_,.inl ⟨XQ,.inr x,e,rfl,by omega,rfl⟩,⟨k.st.put nS (fe.far nS),by rw[Zm nCS];exact k.c,_,Zz,?_⟩,λa n=>Zm n,K0 e⟩;rw[Pt v vn];exact(g.snoc i).up (K0 e)
end
theorem yj{K:PySem.W.Frag}{H:Hp}{a D:Addr}{xs:ZZ}{ts:List Th}{te:TE}{fin:Hp->Prop}{τ:L2.St}{o:Option V}{f:Th->Th}(ha:Zu K H a xs)(hA:Zw K H ts xs)(hl:ts.length<=1000000)(hD:H D=none)
  (h:∀t v H5 (Q:VK),t∈ts->Zv H H5->Zg K H5 t v->(∀v' H6,Zv H5 H6->Zg K H6 (f t) v'->Q v' H6)->te (some v::τ) H5 Q)
  (hf:∀H6 ws,Zv H H6->H6 D=some (.lst ws)->Zw K H6 (ts.map f) ws->fin H6) :
  ∃W:Nat->Nat->ZZ->L2.St->Hp->Prop,(∃m,W 0 m [] (o::τ) (upd H D (.lst [])))/\Nn (Itl K a) (D9 0) T3 te D W fin:=by
 have hlen:=hA.length;refine Ve (xs:=xs) (λi ys j H5=>(∃o',j=o'::τ)/\Zw K H5 ((ts.take i).map f) ys/\Zv H H5/\H5 D=some (.lst ys)) ⟨⟨_,rfl⟩,rfl,(Zv.refl H).put hD,Zz⟩ ?_ ?_ ?_
 .rintro i ys j H5 hi ⟨_,_,s5,h5⟩;exact⟨s5.seq ha,h5⟩
 .rintro i x ys j H5 hx ⟨⟨o',rfl⟩,ar,s5,h5⟩;obtain⟨t,et,it⟩:=hA.got hx;refine Um (h t x H5 _ (Cr et) s5 (Zg.up s5.upT t x it) λv' H6 s6 i6=>?_);refine⟨s6 _ _ h5,?_,⟨_,rfl⟩,?_,(s5.trans s6).put hD,Zz⟩
  .rw[<-ar.length,Yv,Cs];exact Qe (Vf (Nat.min_le_right _ _) hl) QI
  .rw[Zs et,Gw];have u6:Ui K H6 (upd H6 D (.lst (ys++[v']))):=Zi (s6 _ _ h5);exact Zw.append (Zw.up (s6.upT.trans u6) _ _ ar) (Zw.one (Zg.up u6 _ _ i6))
 .rintro ys j H5 ⟨_,ar,s5,h5⟩;refine hf H5 ys s5 h5 ?_;rw[<-hlen,Ss]at ar;exact ar
theorem Qr:∀us:ZC,Zw K H (us.map Th.int) (us.map V.int)
 | []=>rfl
 | u::us=>⟨_,_,rfl,rfl,Qr us⟩
structure V0(ms:List (Str×Yn))(fs:List Vk):Prop where
 len:fs.length<=5
 nums:(fs.map Vk.n).Sublist Fb
 y:∀f∈fs,(Jc ms f.y).isSome=true
 d:∀f∈fs,∀u,f.d=some u->∃s,Jc ms f.y=some s/\Pv s u
def Zkp(ms:List (Str×Yn)):Yn->Prop
 | .whole lo hi=>-Te<=lo/\lo<=hi/\hi<=Te
 | .truth=>True
 | .text n=>0<=n/\n<=200
 | .row _ y n=>(Jc ms y).isSome=true/\0<=n/\n<=20
 | .rcd fs _=>V0 ms fs
 | .cho fs _ _=>V0 ms fs/\∀f∈fs,f.d=none
structure Nd(ms:List (Str×Yn)):Prop where
 nd:(ms.map (·.1)).Nodup
 len:ms.length<=6
 ok:∀x s,Jc ms x=some s->Zkp ms s
structure M1(cs:ZF)(i:Nat)(ms:List (Str×Yn)):Prop where
 sub:(ms.map (·.1)).Sublist ((cs.drop 1).take i)
 ok:∀p∈ms,Pln cs p.2\/∃fs us o,p.2=.cho fs us o/\Cw cs (λ_=>none) fs
structure M2(cs:ZF)(m1:List (Str×Yn))(i:Nat)(ms:List (Str×Yn)):Prop where
 ex:∃rs:List (Str×Yn),ms=m1++rs/\∀p∈rs,∃fs us,p.2=.rcd fs us/\Cw cs (Jc m1) fs
 nd:(ms.map (·.1)).Nodup
 mem:∀p∈ms,p.1∈cs
 all:∀x∈cs.take i,(Jc ms x).isSome=true
theorem M2.fin(h1:M1 cs (cs.drop 1).length m1)(h:M2 cs m1 cs.length ms)(hc:cs.length<=6):Nd ms:=by
 have al:∀x∈cs,(Jc ms x).isSome=true:=λx mx=>h.all x (by rw[Ss];exact mx);obtain⟨rs,e,hr⟩:=h.ex;have lk:∀x s,Jc m1 x=some s->Jc ms x=some s:=λx s es=>by rw[e,bu,es];rfl
 have pr:∀{fs:List Vk} {pl:Str->Option Yn},Cw cs pl fs->(∀x s,pl x=some s->Jc ms x=some s)->V0 ms fs:=λ{fs pl} p hp =>
  ⟨p.len,p.nums,λf mf=>al _ (p.form f mf).y,λf mf u eu=>let ⟨s,es,pv⟩:=(p.form f mf).d u eu;⟨s,hp _ _ es,pv⟩⟩
 refine⟨h.nd,?_,λx s es=>?_⟩
 .have:(ms.map (·.1)).length<=cs.length:=List.Nodup.length_le_of_subset h.nd λy my=>by
   obtain⟨p,mp,rfl⟩:=G3.mp my;exact h.mem p mp
  rw[Yv]at this;omega
 .have ms':=bp es;rw[e]at ms';rcases M6.mp ms' with mm | mm
  .rcases h1.ok _ mm with pl | ⟨fs,us,o,O2,po⟩
   .have pl:Pln cs s:=pl;cases s with
    | whole lo hi=>exact pl
    | truth=>trivial
    | text n=>exact pl
    | row b y n=>exact⟨al y pl.1,pl.2⟩
    | rcd _ _=>exact pl.elim
    | cho _ _ _=>exact pl.elim
   .have O2:s=.cho fs us o:=O2;subst O2;refine⟨pr po λx s z=>(nomatch z),λf mf=>?_⟩;cases ed:f.d with
    | none=>rfl
    | some u =>
     obtain⟨s,z,_⟩:=(po.form f mf).d u ed;cases z
  .obtain⟨fs,us,O2,po⟩:=hr _ mm;have O2:s=.rcd fs us:=O2;subst O2;exact pr po lk
theorem M1.nil(cs:ZF):M1 cs 0 []:=⟨List.nil_sublist _,λp m=>absurd m V9⟩
theorem M1.skip(h:M1 cs i ms)(en:(cs.drop 1)[i]?=some nm):M1 cs (i+1) ms:=⟨h.sub.trans (by rw[Zs en];exact List.sublist_append_left _ _),h.ok⟩
theorem M1.more(h:M1 cs i ms)(en:(cs.drop 1)[i]?=some nm)(hs:Pln cs s\/∃fs us o,s=.cho fs us o/\Cw cs (λ_=>none) fs):M1 cs (i+1) (ms++[(nm,s)]) :=
 ⟨by rw[Zs en,Gw];exact h.sub.append (List.Sublist.refl _),λp m=>(M6.mp m).elim (h.ok p) λm=>by rw[Nw.mp m];exact hs⟩
theorem nd_at{cs:ZF}{i:Nat}{nm:Str}(nd:cs.Nodup)(en:cs[i]?=some nm):nm∉cs.take i:=λz=>by
 have h:=nd.sublist (List.take_sublist (i+1) cs);rw[Zs en]at h;exact(List.nodup_append.mp h).2.2 nm z nm Br rfl
theorem M1.new(h:M1 cs i ms)(nd:cs.Nodup)(en:(cs.drop 1)[i]?=some nm):Jc ms nm=none :=
 Xm.mpr λz=>nd_at (nd.sublist (List.drop_sublist 1 cs)) en (h.sub.subset z)
theorem M1.len(h:M1 cs i ms):ms.length<=i:=by
 have:=h.sub.length_le;rw[Yv,Cs]at this;omega
theorem M2.start(h:M1 cs i m1)(nd:cs.Nodup):M2 cs m1 0 m1:=by
 have sb:(m1.map (·.1)).Sublist cs:=h.sub.trans ((List.take_sublist _ _).trans (List.drop_sublist 1 cs));exact⟨⟨[],(ZO _).symm,λp m=>absurd m V9⟩,nd.sublist sb,λp m=>sb.subset (List.mem_map_of_mem m),λx m=>absurd m V9⟩
theorem M2.skip(h:M2 cs m1 i ms)(en:cs[i]?=some nm)(hs:Jc ms nm=some s):M2 cs m1 (i+1) ms :=
 ⟨h.ex,h.nd,h.mem,λx m=>by
  rw[Zs en]at m;rcases M6.mp m with m | m
  .exact h.all x m
  .rw[Nw.mp m,hs];rfl⟩
theorem M2.more(h:M2 cs m1 i ms)(en:cs[i]?=some nm)(hn:Jc ms nm=none)(us:ZC)(hp:Cw cs (Jc m1) fs):M2 cs m1 (i+1) (ms++[(nm,.rcd fs us)]):=by
 obtain⟨rs,e,hr⟩:=h.ex;refine⟨⟨rs++[(nm,.rcd fs us)],by rw[e,ZA],λp m=>?_⟩,?_,λp m=>?_,λx m=>?_⟩
 .rcases M6.mp m with m | m
  .exact hr p m
  .rw[Nw.mp m];exact⟨fs,us,rfl,hp⟩
 .rw[Gw];refine List.nodup_append.mpr ⟨h.nd,List.nodup_cons.mpr ⟨V9,List.nodup_nil⟩,λa ma b mb z=>?_⟩;rw[z,Nw.mp mb]at ma;exact Xm.mp hn ma
 .rcases M6.mp m with m | m
  .exact h.mem p m
  .rw[Nw.mp m];exact Cr en
 .rw[Zs en]at m;rw[bu];rcases M6.mp m with m | m
  .obtain⟨s,es⟩:=Option.isSome_iff_exists.mp (h.all x m);rw[es];rfl
  .rw[Nw.mp m,hn];simp[Jc]
theorem M2.len(h:M2 cs m1 i ms):ms.length<=cs.length:=by
 have:(ms.map (·.1)).length<=cs.length:=List.Nodup.length_le_of_subset h.nd λy my=>by
  obtain⟨p,mp,rfl⟩:=G3.mp my;exact h.mem p mp
 rw[Yv]at this;exact this
def IsMk(K:W.Frag)(H:Hp)(S:Addr)(ms:List (Str×Yn)):Prop:=∃XQ,H S=some (.dK XQ)/\Dm K H XQ ms
inductive Zz3(K:W.Frag)(vs:ZZ)(H:Hp)(Q:VK):Prop
 | mk(l:Addr)(r:Nat)(Vx:vs=[.ref l])(Vz:Fd (r+400) H l)(Vp:∀(e S:Addr) (v:V) (ms:List (Str×Yn)) (H':Hp),Zp K H' e [v,.ref S]->IsMk K H' S ms->H S=none->Nd ms->Ye l r H H'->Q (.ref e) H')
def qh(K:W.Frag):Sp:=λvs H Q _=>Zz3 K vs H Q
noncomputable def Zg2:Th->Th
 | .tup (a::b::c::_)=>.tup [a,b,c]
 | t=>t
theorem Zje(fs:List Vk):(fs.map Vk.t).map Zg2=fs.map Vk.a:=by
 rw[List.map_map];exact List.map_congr_left λf _=>rfl
theorem Tc(fs:List Vk):(fs.map Vk.t).map P1=(fs.map Vk.n).map Th.int/\(fs.map Vk.a).map P1=(fs.map Vk.n).map Th.int:=by
 constructor<;>rw[List.map_map,List.map_map]<;>exact List.map_congr_left λf _=>rfl
theorem Zyw(F:Fu K "_law_make" Gv f fd)(m:Bn mg)(Zt:gD P w K mg base)(G1:gN P w K mg base)
  (W2:Fn P w K mg base 2 "_law_plain_shape" QJ (Q9 K)) (F5:Fn P w K mg base 3 "_law_parts" XI (Pz K))
  (We:Fn P w K mg base 2 "_law_struck" QZ (Lu K)):Yk P w K mg base Mm 4 f fd QC (qh K):=by
 refine F.ok Vv (λvs H Q E h=>?_) λ_ A _ s H vs Q E hr h=>?_
 .obtain⟨l,r,rfl,_⟩:=h
  rfl
 obtain⟨l,r,rfl,fe,q⟩:=h;refine⟨_,(@Zd _ _ _ _ _ (sI 1 Vv.nd (cF G1 hr (Zf (pv 0) (Zf (qo Ja Zq (cF Zt hr (Zf (pv 0) (Zf Zq Zx)))) Zx)))) (qs (sI 2 Vv.nd (@fc _ _)) (qs (Jj PassesOwn.never rfl (qL (@V6 _ _ _ _ _ _ _ _ _ _ T5 (pv 1) (@Jz _ _ _ Zq) (@Jx _))) (nJ 3 Vv.nd) (qs (sI 4 Vv.nd (cF Zt hr (Zf (pv 0) (Zf Zq Zx)))) (q1 (qi (tQ Fs (pv 4) Zq) (q1 (@Qn _ _ _ _ _ _ _ _ _ (Jo hr) (pv 2) (pv 3) (cF W2 hr (Zf (pv 0) (Zf (pv 1) Zx))) rfl)) (q1 (qi (tQ Za (pv 4) Zq) (qs (@V2 _ 5 Bv (Zb Gv) ["_law_part"] [none] _ _ _ _ _ _ _ _ _ _ _ _ _ Vv.nd rfl QO rfl (qI (cF F5 hr (Zf (pv 0) (Zf (pv 1) (Zf (@fc _ _) Zx))))) ⟨rfl,rfl,by decide +kernel,by decide +kernel⟩ (λ_ _ _=>(nI 0)) (λ_ _ _=>Yp) (λ_ _ _=>(@V6 _ _ _ _ _ _ _ _ _ _ K8 (pv 0) (@Jx _) (@Jz _ _ _ Zq))) QO QO QO) (qs (sI 6 Vv.nd (cF We hr (Zf (pv 0) (Zf (pC Bv (Zb Gv) ["_law_part"] [none] (qL (pv 5)) (λ_ _ _=>(nI 0)) (λ_ _ _=>Yp) (λ_ _ _=>(iX Zy (pv 0) Zq))) Zx)))) (q1 (@Qn _ _ _ _ _ _ _ _ _ (Jo hr) (pv 2) (pv 3) (qt (Zf Zk (Zf (cT Zr m.tuple Yd (Zf (pv 5) Zx)) (Zf (pv 6) (Zf (eQ Za (cF Zt hr (Zf (pv 0) (Zf Zq Zx))) Zq) Zx))))) rfl)))) Zl)))))) (qs (sI 7 Vv.nd (cT zy m.dict Ar (Zf (pv 2) Zx))) (qs (Jj PassesOwn.never rfl (qL (pv 1)) (nJ 3 Vv.nd) (q1 (qi (@jg _ _ _ _ _ _ (@se _ _ _ _ _ (Jo hr) (pv 3) (pv 2)) QO) (qs (sI 8 Vv.nd (cF F5 hr (Zf (pv 0) (Zf (pv 1) (Zf (pv 7) Zx))))) (q1 (@Qn _ _ _ _ _ _ _ _ _ (Jo hr) (pv 2) (pv 3) (qt (Zf Zk (Zf (pv 8) (Zf (cF We hr (Zf (pv 0) (Zf (pC Bv (Zb Gv) ["_law_part"] [none] (qI (pv 8)) (λ_ _ _=>(nI 0)) (λ_ _ _=>Yp) (λ_ _ _=>(iX Zy (pv 0) Zq))) Zx))) Zx)))) rfl))) Zl))) (q1 (qr (qt (Zf (iX Zh (pv 1) (qo B8 (cF Zt hr (Zf (pv 0) (Zf (cB Yl m.len Dz (Zf (pv 1) Zx)) Zx))) (cT Cj m.int tq (Zf (eQ Za (cF Zt hr (Zf (pv 0) (Zf Zq Zx))) Zq) Zx)))) (Zf (pv 2) Zx)))))))))),?_⟩;refine⟨_,rfl,_,rfl,l,5,r+399,rfl,fe,by decide,by decide,λx H1 x0 x1 t1=>?_⟩;refine hide λ_ Z1=>?_;obtain⟨xn,rfl⟩:∃n:Nat,x=n:=⟨x.toNat,by omega⟩;refine Z1 ?_;refine⟨_,_,rfl,rfl,l,2+xn,r+397,by rw[Int.natCast_add];rfl,t1.feed,by omega,λC cs H2 hC nC okC t2=>?_⟩;have t02:=t1.trans t2;have nC0:H C=none:=t1.free nC;have nCl:C≠l:=fe.ne nC0;refineλS hS=>?_;have nS:H S=none:=t02.free hS;have nSl:S≠l:=fe.ne nS;have nCS:C≠S:=Z0 hC hS
 have k3:Mk K l C S H cs [] (r+397) (upd H2 S (.dK [])) :=
  ⟨t02.lay hS,by rw[Zm nCS];exact hC,[],Zz,.nil⟩
 refine⟨_,rfl,_,rfl,C,_,rfl,Zu.of k3.c,λL hL=>?_⟩
 have cut:Jt (cs.map V.str) (some 1) none=(cs.drop 1).map V.str:=by
  rw[List.map_drop];unfold Jt;have e2:HT.Uj (cs.map V.str).length (cs.map V.str).length none=(cs.map V.str).length:=rfl;have e1:HT.Uj (cs.map V.str).length 0 (some 1)=min 1 (cs.map V.str).length:=by simp[HT.Uj]
  rw[e1,e2];generalize cs.map V.str=zs;cases zs with
  | nil=>rfl
  | cons x r=>simp
 rw[cut];have c6:cs.length<=6:=by rw[okC.len];omega
 have c2:2<=cs.length:=by rw[okC.len];omega
 have k4:=k3.same (Zv.lay (o:=.lst ((cs.drop 1).map V.str)) hL);have nL0:H L=none:=k3.st.free hL;have nLl:L≠l:=fe.ne nL0;have nLS:L≠S:=λz=>by rw[z,Zz]at hL;cases hL
 refine⟨L,rfl,⟨_,Zu.of Zz⟩,?_⟩
 refine W8 (K:=K) (xs:=(cs.drop 1).map V.str) (λi j H5=>(∃o3 o4 o5 o6 o7 o8,j=[some (.ref l),some (.ref C),some (.ref S),o3,o4,o5,o6,o7,o8])/\(∃ms,M1 cs i ms/\Mk K l C S H cs ms (r+200+31*(5-i)) H5)/\H5 L=some (.lst ((cs.drop 1).map V.str)))
  ⟨⟨_,_,_,_,_,_,rfl⟩,⟨[],M1.nil cs,k4.m⟩,Zz⟩ ?_ ?_ ?_
 .intro i j H5 hi Rc;refine hide λ_ Yz=>?_;obtain⟨_,_,h5⟩:=Rc;refine Yz ?_;exact Zu.of h5
 .intro i x j H5 hx Om;refine hide λ_ Yq=>?_;obtain⟨⟨o3,o4,o5,o6,o7,o8,rfl⟩,⟨ms,m5,k5⟩,h5L⟩:=Om;rw[Jb]at hx;obtain⟨nm,en,rfl⟩:=Cy.mp hx;refine Yq ?_;have hi:i<(cs.drop 1).length:=(Bl.mp en).1;rw[List.length_drop]at hi;have nw:=m5.new okC.nd en;have ln:ms.length<sizeLine:=Qe (show ms.length<=8 by have:=m5.len;omega) QI;refine⟨_,rfl,l,6,r+200+31*(5-(i+1))+30,rfl,k5.st.feed.m,by decide,by decide,λy H6 y0 y1 t6=>?_⟩;have k6:=k5.step t6 nCl nSl;have h6L:=t6.keep _ _ nLl h5L;refine⟨_,rfl,_,_,rfl,rfl,_,rfl,?_⟩;refine Vb (λca=>?_) (λca=>?_)
  .refine⟨_,rfl,_,rfl,l,C,cs,r+200+31*(5-(i+1))+27,rfl,k6.c,by omega,by omega,k6.st.feed,λv t H7 it pt t7=>?_⟩;have k7:=k6.step t7 nCl nSl;refine hide λ_ Yy=>?_;obtain⟨Hb,pu,kb,sb,ub⟩:=k7.put fe nS nCS it ln nw;refine Yy ?_;refine⟨_,rfl,_,rfl,S,Hb,rfl,pu,⟨_,_,_,_,_,_,rfl⟩,⟨_,m5.more en (.inl pt),kb.m⟩,(sb L nLS).trans (t7.keep _ _ nLl h6L)⟩
  .refine⟨_,rfl,rfl,_,rfl,?_⟩;refine Vb (λcb=>?_) (λcb=>?_)
   .refine⟨_,rfl,_,rfl,λd0 hd0=>?_⟩;have s7:=Zv.lay (o:=.dK []) hd0;have k7:=k6.same s7;refine⟨l,C,d0,cs,λ_=>none,r+200+31*(5-(i+1))+5,rfl,k7.c,by omega,by omega,⟨[],Zz,λ_ _ e=>by cases e⟩,k7.st.feed,λv fs H8 iv okp t8=>?_⟩;have k8:=k7.step t8 nCl nSl;have h8L:=t8.keep _ _ nLl (s7 _ _ h6L);refine hide λ_ Yg=>?_;obtain⟨pp,ws,rfl,hpp,afs⟩:=iv;refine Yg ?_;have lf:fs.length<=1000000:=Vf okp.len QI;refine⟨pp,rfl,⟨_,hpp⟩,λD fp sx hD=>?_⟩;refine Nb (f:=Zg2) hpp afs (by rw[Yv];exact lf) hD (λt v H5 Q5 mt s5 i5 q5=>?_) λH9 w9 s9 h9 a9=>?_
    .refine hide λ_ Yc=>?_;obtain⟨fl,mfl,rfl⟩:=G3.mp mt;obtain⟨a,xs,rfl,ha,ax⟩:=i5;obtain⟨v1,v2,v3,v4,rfl,j1,j2,j3,j4⟩:=Qk ax;refine Yc ?_;refine⟨_,rfl,_,rfl,a,_,rfl,ha,λp' H' s' h'=>?_⟩;exact q5 (.ref p') H' s' ⟨p',_,rfl,h',_,_,rfl,Zg.up s'.upT _ _ j1,_,_,rfl,Zg.up s'.upT _ _ j2,_,_,rfl,Zg.up s'.upT _ _ j3,rfl⟩
    rw[Zje]at a9;have k9:=k8.same s9;have h9L:=s9 _ _ h8L;have hDf:H D=none:=k8.st.free hD;have nDl:D≠l:=fe.ne hDf;refine⟨_,rfl,_,rfl,D,rfl,⟨_,Zu.of h9⟩,λD2 fp2 sx2 Nq=>?_⟩;refine yj (f:=P1) (Zu.of h9) a9 (by rw[Yv];exact lf) Nq (λt v H5 Q5 mt s5 i5 q5=>?_) λH10 w10 Pk F0 a10=>?_
    .refine hide λ_ Yr=>?_;obtain⟨g,mg,rfl⟩:=G3.mp mt;obtain⟨a,xs,rfl,ha,y1,ys,rfl,iy,_⟩:=i5;refine Yr ?_;exact⟨_,rfl,a,_,_,_,rfl,rfl,ha,Yw,q5 y1 H5 (Zv.refl H5) iy⟩
    have k10:=k9.same Pk;have h10L:=Pk _ _ h9L;rw[(Tc fs).2]at a10;have ew:=Nm a10;subst ew;refine⟨l,D2,_,r+200+31*(5-(i+1))+1,rfl,F0,k10.st.feed.m,λqs us H11 hqs sbu nou Q6=>?_⟩;have k11:=k10.step Q6 nCl nSl;have h11L:=Q6.keep _ _ nLl h10L;have h11D:=Q6.keep _ _ nDl (Pk _ _ h9);have Zwl:=Pk.upT.trans (Q6.upT (K:=K) k10.st.feed);refine⟨_,rfl,D,_,rfl,.inl ⟨Zu.of h11D,λe12 vp=>?_⟩⟩;have Ni:=Zv.lay (o:=.tup w9) vp;have k12:=k11.same Ni;refine⟨_,rfl,_,rfl,l,2,r+200+31*(5-(i+1)),rfl,k12.st.feed,by decide,by decide,λz H13 z0 z1 Qm=>⟨rfl,(sz 4),λe14 h14=>?_⟩⟩;have fq:=Zv.lay (o:=.tup [.str "choice",.ref e12,.ref qs,.bl (decide (V.int z=V.int 0))]) h14;have k13:=k12.step Qm nCl nSl;have k14:=k13.same fq;have u12:Ui K _ _:=(Qm.upT (K:=K) k12.st.feed).trans fq.upT
    have it:Zg K _ (Yn.t (.cho fs us (decide (V.int z=V.int 0)))) (.ref e14) :=
     ⟨e14,_,rfl,Zp.of Zz,_,_,rfl,rfl,_,_,rfl,⟨e12,w9,rfl,u12.tup _ _ (Zp.of Zz),Zw.up (Zwl.trans (Ni.upT.trans u12)) _ _ a9⟩,_,_,rfl,⟨qs,_,rfl,(Ni.upT.trans u12).tup _ _ hqs,Qr us⟩,_,_,rfl,rfl,rfl⟩
    refine hide λ_ Yo=>?_;obtain⟨Hb,pu,kb,sb,ub⟩:=k14.put fe nS nCS it ln nw;refine Yo ?_;refine⟨_,rfl,_,rfl,S,Hb,rfl,pu,⟨_,_,_,_,_,_,rfl⟩,⟨_,m5.more en (.inr ⟨fs,us,_,rfl,okp⟩),kb⟩,(sb L nLS).trans (fq _ _ (Qm.keep _ _ nLl (Ni _ _ h11L)))⟩
   .exact⟨⟨_,_,_,_,_,_,rfl⟩,⟨_,m5.skip en,k6.m⟩,h6L⟩
 .intro j H5 Fx;refine hide λ_ Z1=>?_;obtain⟨⟨o3,o4,o5,o6,o7,o8,rfl⟩,⟨m1,h1,k5⟩,h5L⟩:=Fx;have n5:((cs.drop 1).map V.str).length<=5:=by rw[Yv,List.length_drop];omega
  have k5:=k5.mono (r':=r+200) QU;rw[Yv]at h1;obtain⟨XQ,eS,g5⟩:=k5.d;refine Z1 ?_;refine⟨_,rfl,S,XQ,rfl,.inl eS,λB hB=>?_⟩;have s6:=Zv.lay (o:=.dK XQ) hB;have k6:=k5.same s6;have nB:H B=none:=k5.st.free hB;have nBl:B≠l:=fe.ne nB;have nBS:B≠S:=λz=>by rw[z,eS]at hB;cases hB
  have d6:oq K (upd H5 B (.dK XQ)) cs (Jc m1) B:=⟨XQ,Zz,λk v e=>by
   rcases g5.val k with ⟨_,z⟩ | ⟨s,v',es,ev,it⟩
   .rw[e]at z;cases z
   .rw[e]at ev;cases ev;refine⟨s,es,Zg.up s6.upT _ _ it,?_⟩;rcases h1.ok _ (bp es) with pl | ⟨fs,us,o,z,_⟩
    .exact .inl pl
    .exact .inr ⟨fs,us,o,z⟩⟩
  refine⟨_,rfl,C,rfl,⟨_,Zu.of k6.c⟩,?_⟩
  refine W8 (K:=K) (xs:=cs.map V.str) (λi j H5=>(∃o3 o4 o5 o6 o8,j=[some (.ref l),some (.ref C),some (.ref S),o3,o4,o5,o6,some (.ref B),o8])/\(∃ms,M2 cs m1 i ms/\Mk K l C S H cs ms (r+2+29*(6-i)) H5)/\oq K H5 cs (Jc m1) B)
   ⟨⟨_,_,_,_,_,rfl⟩,⟨m1,M2.start h1 okC.nd,k6.m⟩,d6⟩ ?_ ?_ ?_
  .intro i j H5 hi Nf;refine hide λ_ Yz=>?_;obtain⟨_,⟨_,_,k⟩,_⟩:=Nf;refine Yz ?_;exact Zu.of k.c
  .intro i x j H7 hx Td;refine hide λ_ Yq=>?_;obtain⟨⟨o3,o4,o5,o6,o8,rfl⟩,⟨ms,m7,k7⟩,d7⟩:=Td;rw[Jb]at hx;obtain⟨nm,en,rfl⟩:=Cy.mp hx;have hi:i<cs.length:=(Bl.mp en).1;obtain⟨kvs7,e7,g7⟩:=k7.d;refine Yq ?_;have ln:ms.length<sizeLine:=Qe (show ms.length<=8 by have:=m7.len;omega) QI;refine⟨_,rfl,_,rfl,S,_,rfl,Ue.k (k:=.inr nm) e7,_,rfl,?_⟩;refine Vb (λca=>?_) (λca=>?_)
   .have nw:Jc ms nm=none:=by
     rcases g7.val nm with ⟨z,_⟩ | ⟨s,v,_,z,_⟩
     .exact z
     .rw[z]at ca;cases ca
    refine⟨_,rfl,_,rfl,_,rfl,l,C,B,cs,Jc m1,r+2+29*(6-(i+1))+4,rfl,k7.c,by omega,by omega,d7,k7.st.feed.m,λv fs H8 iv okp t8=>?_⟩;have k8:=k7.step t8 nCl nSl;have d8:=d7.up (t8.upT (K:=K) k7.st.feed);refine hide λ_ Yy=>?_;obtain⟨pp,ws,rfl,hpp,afs⟩:=iv;refine Yy ?_;have lf:fs.length<=1000000:=Vf okp.len QI;refine⟨_,rfl,_,rfl,_,rfl,pp,rfl,⟨_,hpp⟩,λD fp sx hD=>?_⟩;refine Nb (f:=P1) hpp afs (by rw[Yv];exact lf) hD (λt v H5 Q5 mt s5 i5 q5=>?_) λH9 w9 s9 h9 a9=>?_
    .refine hide λ_ Yg=>?_;obtain⟨fl,mfl,rfl⟩:=G3.mp mt;obtain⟨a,xs,rfl,ha,y1,ys,rfl,iy,_⟩:=i5;refine Yg ?_;exact⟨_,rfl,a,_,_,_,rfl,rfl,ha,Yw,q5 y1 H5 (Zv.refl H5) iy⟩
    have k9:=k8.same s9;have d9:=d8.up s9.upT;rw[(Tc fs).1]at a9;have ew:=Nm a9;subst ew;refine⟨l,D,_,r+2+29*(6-(i+1)),rfl,h9,k9.st.feed,λqs us H11 hqs sbu nou Q6=>⟨(sz 3),λe12 vp=>?_⟩⟩;have k11:=k9.step Q6 nCl nSl;have Ni:=Zv.lay (o:=.tup [.str "record",.ref pp,.ref qs]) vp;have k12:=k11.same Ni;have Zwl:=Q6.upT (K:=K) k9.st.feed;have d12:=d9.up (Zwl.trans Ni.upT);have u8:=s9.upT.trans (Zwl.trans Ni.upT)
    have it:Zg K _ (Yn.t (.rcd fs us)) (.ref e12) :=
     ⟨e12,_,rfl,Zp.of Zz,_,_,rfl,rfl,_,_,rfl,⟨pp,ws,rfl,u8.tup _ _ hpp,Zw.up u8 _ _ afs⟩,_,_,rfl,⟨qs,_,rfl,Ni.up _ _ hqs,Qr us⟩,rfl⟩
    refine hide λ_ Yc=>?_;obtain⟨Hb,pu,kb,sb,ub⟩:=k12.put fe nS nCS it ln nw;refine Yc ?_;refine⟨_,rfl,_,rfl,S,Hb,rfl,pu,⟨_,_,_,_,_,rfl⟩,⟨_,m7.more en nw us okp,kb⟩,?_⟩;refine hide λ_ Yr=>?_;obtain⟨kB,eB,gB⟩:=d12;refine Yr ?_;exact⟨kB,(sb B nBS).trans eB,λk v e=>let ⟨t,es,i,c⟩:=gB k v e;⟨t,es,Wp ub _ v i,c⟩⟩
   .refine⟨⟨_,_,_,_,_,rfl⟩,?_,d7⟩;rcases g7.val nm with ⟨_,z⟩ | ⟨s,v,es,_,_⟩
    .rw[z]at ca;exact absurd rfl ca
    .exact⟨_,m7.skip en es,k7.m⟩
  .intro j H7 Wa;refine hide λ_ Yo=>?_;obtain⟨⟨o3,o4,o5,o6,o8,rfl⟩,⟨ms,m7,k7⟩,d7⟩:=Wa;refine Yo ?_;have n6:(cs.map V.str).length<=6:=by rw[Yv];exact c6
   have k7:=k7.mono (r':=r+2) QU;rw[Yv]at m7;refine⟨_,rfl,_,rfl,_,rfl,C,_,rfl,.inl (Zu.of k7.c),l,_,r+1,rfl,k7.st.feed,?_,?_,λy H8 y0 y1 t8=>?_⟩
   .rw[Yv];omega
   .rw[Yv];omega
   have k8:=k7.step t8 nCl nSl;refine⟨_,rfl,l,3,r,rfl,k8.st.feed,by decide,by decide,λz H9 z0 z1 t9=>⟨rfl,.inr ⟨_,rfl,?_⟩⟩⟩;have k9:=k8.step t9 nCl nSl;refine⟨_,_,rfl,rfl,.inr ⟨by split<;>decide,by split<;>decide⟩,?_⟩;refine hide λ_ Z1=>?_;obtain⟨nm,mn,enm⟩:=Pl cs (r:=y*(if decide (V.int z=V.int 0)=true then (1:Int) else 0)) (by split<;>omega) (by rw[Yv]at y1;split<;>omega);refine Z1 ?_;refine⟨C,_,_,_,rfl,rfl,Zu.of k9.c,enm,_,rfl,(sz 2),λe he=>?_⟩;have kE:=k9.same (Zv.lay (o:=.tup [.str nm,.ref S]) he);exact q e S (.str nm) ms _ (Zp.of Zz) kE.d nS (m7.fin h1 c6) kE.st
mutual
noncomputable def oy:Th->D
 | .non=>.non
 | .bl b=>.bl b
 | .int i=>.int i
 | .str x=>.str x
 | .tup ts=>.tup (Dl ts)
 | .opq=>.non
noncomputable def Dl:List Th->List D
 | []=>[]
 | t::ts=>oy t::Dl ts
end
theorem Ba:∀ts:List Th,Dl ts=ts.map oy
 | []=>rfl
 | t::ts=>by rw[Dl,Ba ts,Mu]
mutual
theorem Og{K:W.Frag}{H:Hp}:∀(t:Th) (v:V),nqT t->Zg K H t v->Q0 K H (oy t) v
 | .non,_,_,h=>h
 | .bl _,_,_,h=>h
 | .int _,_,_,h=>h
 | .str _,_,_,h=>h
 | .tup ts,v,n,h=>by
  obtain⟨a,vs,e,q,r⟩:=h;exact⟨a,vs,e,q,tf ts vs n r⟩
 | .opq,v,n,h=>n.elim
theorem tf{K:W.Frag}{H:Hp}:∀(ts:List Th) (vs:ZZ),Zx9 ts->Zw K H ts vs->Vg K H (Dl ts) vs
 | [],_,_,h=>h
 | t::ts,vs,n,h=>by
  obtain⟨v,r,e,q,w⟩:=h;exact⟨v,r,e,Og t v n.1 q,tf ts r n.2 w⟩
end
theorem lenS(s:String):(Str.ofString s).length=s.toList.length:=by
 rw[Str.ofString_eq_toList];simp[Str.length]
theorem Kv{i:Int}(h0:-Te<=i)(h1:i<=Te):(Str.ofString (toString i)).length<=25/\i.natAbs.log2<1920:=by
 have hb:i.natAbs<10 ^ 20:=by
  have:(Te:Int)<10 ^ 20:=QI
  omega
 refine⟨?_,?_⟩
 .rw[lenS];have hd:(Nat.toDigits 10 i.natAbs).length<=20:=(Nat.length_toDigits_le_iff QI QI).mpr hb;cases i with
  | ofNat n =>
   show (Nat.repr n).toList.length<=25;rw[Nat.toList_repr];exact Vf hd QI
  | negSucc n =>
   show (("-" ++ Nat.repr (n+1):String)).toList.length<=25;rw[String.toList_append,Nat.toList_repr,Nl];have:(Nat.toDigits 10 (n+1)).length<=20:=hd;have e1:("-" : String).toList.length=1:=rfl;omega
 .by_cases z:i.natAbs=0
  .rw[z];decide
  .exact(Nat.log2_lt z).mpr (Nat.lt_trans hb QA)
theorem Zxm{x:Str}(h:Cm x):reprQuote x=39:=by
 unfold reprQuote
 have:x.cps.contains 39=false:=by
  rw[Bool.eq_false_iff];intro z;have:(39:Nat)∈x.cps.toList:=by simpa using z
  exact(h.1 39 this).2.2.1 rfl
 rw[this];rfl
theorem Zkb:∀c,c<127->fg c->Builtin.Str.reprChar 39 c=[c]:=by decide +kernel
theorem Zvb{x:Str}(h:Cm x):(reprText x).cps.toList=39::x.cps.toList++[39]:=by
 unfold reprText;rw[Zxm h]
 have:∀(l:List Nat) (a:ZL),(∀c∈l,fg c)->(l.foldl (λout c=>out++(Builtin.Str.reprChar 39 c).toArray) a).toList=a.toList++l:=λl=>by
  induction l with
  | nil=>intro a _;simp
  | cons c l ih =>
   intro a hl;have pc:=hl c Br;rw[List.foldl_cons,ih _ λz m=>hl z (Ck _ m),Zkb c pc.2.1 pc];simp
 rw[Array.toList_push, <-Array.foldl_toList,this _ _ h.1];simp
structure Gd(c d:Nat)(t:Th):Prop where
 nq:nqT t
 rp:Zvg (oy t)
 len:(Ei (oy t)).length<=c
 lv:lvD (oy t)<=d
theorem Gd.mono{c d c' d':Nat}{t:Th}(h:Gd c d t)(hc:c<=c')(hd:d<=d'):Gd c' d' t:=⟨h.nq,h.rp,Vf h.len hc,Vf h.lv hd⟩
theorem Tt{i:Int}(h0:-Te<=i)(h1:i<=Te):Gd 25 0 (.int i):=⟨trivial,(Kv h0 h1).2,(Kv h0 h1).1,Yt _⟩
theorem dy(b:Bool):Gd 5 0 (.bl b):=⟨trivial,trivial,by cases b<;>decide +kernel,Yt _⟩
theorem Zjj{x:Str}{c:Nat}(h:∀z∈x.cps.toList,z<127)(hl:10*x.length+2<=c)(hc:c<=2002):Gd c 0 (.str x):=by
 have:=StrLaws.reprText_len x λz m=>Nat.lt_trans (h z m) QI;refine⟨trivial,?_,Vf this hl,Yt _⟩;show (reprText x).length<=sizeLine;exact Vf (Vf this (Vf hl hc)) QI
theorem Zgh{x:Str}(h:Cm x):Gd 2002 0 (.str x):=Zjj (λz m=>(h.1 z m).2.1) (by have:=h.2;omega) (Yt _)
theorem Pf:∀ds:List D,Il ds=ds.map Ei
 | []=>rfl
 | d::ds=>by rw[Il,Pf ds,Mu]
theorem Eo:∀{ds:List D},(∀d∈ds,Zvg d)->Pg ds
 | [],_=>trivial
 | d::ds,h=>⟨h d Br,Eo λx m=>h x (Ck _ m)⟩
theorem Xf{n:Nat}:∀{ds:List D},(∀d∈ds,lvD d<=n)->P9 ds<=n
 | [],_=>Dc _
 | d::ds,h=>Nat.max_le.mpr ⟨h d Br,Xf λx m=>h x (Ck _ m)⟩
theorem Oo{c d k:Nat}{ts:List Th}(h:∀t∈ts,∃c',Gd c' d t)(hs:(ts.map λt=>(Ei (oy t)).length).sum+2*ts.length+3<=c):Gd c (d+1) (.tup ts):=by
 refine⟨B9 λt m=>(h t m).elim λ_ g=>g.nq,?_,?_,?_⟩
 .show Pg (Dl ts);rw[Ba];refine Eo λx m=>?_;obtain⟨t,mt,rfl⟩:=G3.mp m;exact(h t mt).elim λ_ g=>g.rp
 .show (tupleText (Il (Dl ts))).length<=c;have:=tupleText_len_le (Il (Dl ts));rw[Pf,Ba,List.map_map,List.map_map,Yv]at this;rw[Pf,Ba,List.map_map];exact Vf this hs
 .show P9 (Dl ts)+1<=d+1;rw[Ba];refine Nat.succ_le_succ (Xf λx m=>?_);obtain⟨t,mt,rfl⟩:=G3.mp m;exact(h t mt).elim λ_ g=>g.lv
theorem N9{c d n:Nat}{ts:List Th}(h:∀t∈ts,Gd c d t)(hn:ts.length<=n):Gd (n*(c+2)+3) (d+1) (.tup ts):=by
 refine Oo (k:=0) (λt m=>⟨c,h t m⟩) ?_
 have:∀l:List Th,(∀t∈l,Gd c d t)->(l.map λt=>(Ei (oy t)).length).sum+2*l.length<=l.length*(c+2):=λl=>by
  induction l with
  | nil=>intro _;simp
  | cons t l ih =>
   intro hl;have i:=ih λx m=>hl x (Ck _ m);have g:=(hl t Br).len;simp only[Mu,List.sum_cons,R1,Nat.add_mul,Nat.one_mul];omega
 have:=this ts h;have m:=Nat.mul_le_mul_right (c+2) hn;omega
theorem gd2{c c' d:Nat}{a b:Th}(ha:Gd c d a)(hb:Gd c' d b):Gd (c+c'+7) (d+1) (.tup [a,b]):=by
 refine Oo (k:=0) (λt m=>?_) ?_
 .simp only[U8,V9,or_false]at m;rcases m with rfl | rfl
  .exact⟨_,ha⟩
  .exact⟨_,hb⟩
 .have:=ha.len;have:=hb.len;simp only[Mu,List.map_nil,List.sum_cons,List.sum_nil,R1,List.length_nil];omega
theorem gd3{c c' c'' d:Nat}{a b e:Th}(ha:Gd c d a)(hb:Gd c' d b)(he:Gd c'' d e):Gd (c+c'+c''+9) (d+1) (.tup [a,b,e]):=by
 refine Oo (k:=0) (λt m=>?_) ?_
 .simp only[U8,V9,or_false]at m;rcases m with rfl | rfl | rfl
  .exact⟨_,ha⟩
  .exact⟨_,hb⟩
  .exact⟨_,he⟩
 .have:=ha.len;have:=hb.len;have:=he.len;simp only[Mu,List.map_nil,List.sum_cons,List.sum_nil,R1,List.length_nil];omega
theorem Gd.shown{c d:Nat}{ts:List Th}(h:Gd c d (.tup ts))(hc:c<=sizeLine)(hd:d<=100):Pg (Dl ts)/\P9 (Dl ts)<=100/\(Ei (.tup (Dl ts))).length<=sizeLine :=
 ⟨h.rp,by have:P9 (Dl ts)+1<=d:=h.lv;omega,Vf h.len hc⟩
noncomputable def U2(p:Int×Th):Th:=.tup [.int p.1,p.2]
noncomputable def R8(p:Str×Th):Th:=.tup [.str p.1,p.2]
noncomputable def J0(fs:List Vk)(n:Int):Option Vk:=fs.find? λf=>decide (f.n=n)
theorem Wi{x:Str}(h:Cm x):Gd (x.length+2) 0 (.str x):=by
 have e:(reprText x).length=x.length+2:=by
  show (reprText x).cps.size=x.cps.size+2;rw[<-xt,Zvb h];simp
 refine⟨trivial,?_,Nat.le_of_eq e,Yt _⟩;show (reprText x).length<=sizeLine;rw[e];exact Vf (Nat.add_le_add_right h.2 2) QI
mutual
noncomputable def Y9:Th->Nat
 | .tup ts=>600+Y0 ts
 | .str x=>x.length+4
 | .int _=>25
 | _=>10
noncomputable def Y0:List Th->Nat
 | []=>0
 | t::ts=>Y9 t+2+Y0 ts
end
theorem P6:∀(a b:List Th),Y0 (a++b)=Y0 a+Y0 b
 | [],b=>by simp[Y0]
 | t::a,b=>by simp only[List.cons_append,Y0];rw[P6 a b];omega
theorem Vo:∀{ts:List Th} {t:Th},t∈ts->Y9 t+2<=Y0 ts
 | u::ts,t,h=>by
  simp only[Y0];rcases U8.mp h with rfl | h
  .omega
  .have:=Vo h;omega
theorem Tj:∀{ts:List Th},(∀t∈ts,600<=Y9 t)->600*ts.length<=Y0 ts
 | [],_=>Dc _
 | t::ts,h=>by
  have a:=h t Br;have b:=Tj λx m=>h x (Ck _ m);simp only[Y0,R1];omega
theorem Hn{c:Nat}:∀{ts:List Th},(∀t∈ts,Y9 t<=c)->Y0 ts<=ts.length*(c+2)
 | [],_=>Dc _
 | t::ts,h=>by
  have a:=h t Br;have b:=Hn λx m=>h x (Ck _ m);simp only[Y0,R1,Nat.add_mul,Nat.one_mul];omega
noncomputable def yu:ZF:=["whole","text","row","map","rec","arm","other","at","key","field","value","bad"]
theorem T2:∀x∈yu,Cm x:=λx m=>by
 have h:∀x∈yu,(x.cps.toList.all λc=>decide (fg c))=true/\x.length<=200:=QA
 exact⟨λc mc=>Sh (A0t.mp (h x m).1 c mc),(h x m).2⟩
def Tn(x:Str):Prop:=Cm x/\x.length<=8
inductive Vm:Nat->Th->Prop
 | whole{n:Nat}(i:Int)(h0:-Te<=i)(h1:i<=Te):Vm (n+1) (.tup [.str "whole",.int i])
 | text {n:Nat} (x:Str) (h:Cm x):Vm (n+1) (.tup [.str "text",.str x])
 | row {n:Nat} (l:List Th) (h:∀u∈l,Vm n u):Vm (n+1) (.tup [.str "row",.tup l])
 | map {n:Nat} (l:List (Str×Th)) (k:∀p∈l,Tn p.1) (h:∀p∈l,Vm n p.2):Vm (n+1) (.tup [.str "map",.tup (l.map R8)])
 | recd {n:Nat} (l:List (Int×Th)) (k:∀p∈l,0<=p.1/\p.1<=1000) (s:(l.map (·.1)).Pairwise (· < ·)) (h:∀p∈l,Vm n p.2):Vm (n+1) (.tup [.str "rec",.tup (l.map U2)])
 | arm {n:Nat} (k:Int) (u:Th) (h0:0<=k) (h1:k<=1000) (h:Vm n u):Vm (n+1) (.tup [.str "arm",.int k,u])
theorem Vm.mono{n m:Nat}{t:Th}(h:Vm n t):n<=m->Vm m t:=by
 induction h generalizing m with
 | whole i h0 h1=>intro hm;obtain⟨k,rfl⟩:∃k,m=k+1:=⟨m-1,by omega⟩;exact .whole i h0 h1
 | text x h=>intro hm;obtain⟨k,rfl⟩:∃k,m=k+1:=⟨m-1,by omega⟩;exact .text x h
 | row l h ih=>intro hm;obtain⟨k,rfl⟩:∃k,m=k+1:=⟨m-1,by omega⟩;exact .row l λu mu=>ih u mu QU
 | map l k h ih=>intro hm;obtain⟨j,rfl⟩:∃k,m=k+1:=⟨m-1,by omega⟩;exact .map l k λu mu=>ih u mu QU
 | recd l k s h ih=>intro hm;obtain⟨j,rfl⟩:∃k,m=k+1:=⟨m-1,by omega⟩;exact .recd l k s λu mu=>ih u mu QU
 | arm k u h0 h1 h ih=>intro hm;obtain⟨j,rfl⟩:∃k,m=k+1:=⟨m-1,by omega⟩;exact .arm k u h0 h1 (ih QU)
theorem Vm.m{n m:Nat}{t:Th}(h:Vm n t)(k:n<=m:=by omega):Vm m t:=h.mono k
theorem Vm.big{n:Nat}{t:Th}(h:Vm n t):600<=Y9 t:=by
 cases h<;>exact Nat.le_add_right _ _
theorem Xe{d:Nat}{ts:List Th}(h:∀t∈ts,Gd (Y9 t) d t):Gd (Y9 (.tup ts)) (d+1) (.tup ts):=by
 refine Oo (k:=0) (λt m=>⟨_,h t m⟩) ?_
 have:∀l:List Th,(∀t∈l,Gd (Y9 t) d t)->(l.map λt=>(Ei (oy t)).length).sum+2*l.length<=Y0 l:=λl=>by
  induction l with
  | nil=>intro _;exact Yt _
  | cons t l ih =>
   intro hl;have i:=ih λx m=>hl x (Ck _ m);have g:=(hl t Br).len;simp only[Mu,List.sum_cons,R1,Y0];omega
 have:=this ts h;show _<=600+Y0 ts;omega
theorem Zjy{d:Nat}{x:Str}(h:Cm x):Gd (Y9 (.str x)) d (.str x):=(Wi h).mono (by show _<=x.length+4;omega) (Dc _)
theorem Kg{d:Nat}{x:Str}(m:x∈yu):Gd (Y9 (.str x)) d (.str x):=Zjy (T2 x m)
theorem Zjv{d:Nat}{k:Int}(h0:0<=k)(h1:k<=1000):Gd (Y9 (.int k)) d (.int k):=by
 have a:(0:Int)<=Te:=QI
 have b:(1000:Int)<=Te:=QI
 exact(Tt QU QU).mono (Yt _) (Dc _)
theorem F4{d:Nat}{a b:Th}(ha:Gd (Y9 a) d a)(hb:Gd (Y9 b) d b):Gd (Y9 (.tup [a,b])) (d+1) (.tup [a,b]):=Xe λt m=>by
 simp only[U8,V9,or_false]at m;rcases m with rfl | rfl
 .exact ha
 .exact hb
theorem Vm.gd{n:Nat}{t:Th}(h:Vm n t):Gd (Y9 t) (3*n) t:=by
 induction h with
 | @whole n i h0 h1=>exact(F4 (d:=0) (b:=.int i) (Kg QI) (Tt h0 h1)).mono (Yt _) QU
 | @text n x h=>exact(F4 (d:=0) (Kg QI) (Zjy h)).mono (Yt _) QU
 | @row n l h ih=>exact(F4 (Kg QI) (Xe ih)).mono (Yt _) QU
 | @map n l k h ih =>
  refine(F4 (Kg QI) (Xe (d:=3*n+1) λt m=>?_)).mono (Yt _) QU;obtain⟨p,mp,rfl⟩:=G3.mp m;exact F4 (Zjy (k p mp).1) (ih p mp)
 | @recd n l k s h ih =>
  refine(F4 (Kg QI) (Xe (d:=3*n+1) λt m=>?_)).mono (Yt _) QU;obtain⟨p,mp,rfl⟩:=G3.mp m;exact F4 (Zjv (k p mp).1 (k p mp).2) (ih p mp)
 | @arm n k u h0 h1 h ih =>
  refine(Xe (d:=3*n) (ts:=[.str "arm",.int k,u]) λt m=>?_).mono (Yt _) QU;simp only[U8,V9,or_false]at m;rcases m with rfl | rfl | rfl
  .exact Kg QI
  .exact Zjv h0 h1
  .exact ih
noncomputable def MU:Nat->Nat
 | 0=>700
 | k+1=>2*MU k+2600
structure GI(k:Nat)(t:Th):Prop where
 w:Vm (k+1) t
 mu:Y9 t<=MU k
theorem Zfz:∀k,700<=MU k
 | 0=>Yt _
 | k+1=>by show 700<=2*MU k+2600;omega
theorem GI.gd{t:Th}(h:GI 2 t):Gd 10600 9 t:=h.w.gd.mono h.mu (Yt _)
inductive Rs(j:Type) where
 | ok(v:j)
 | bad (p:List Th)
noncomputable def mapR{j Z:Type}(g:j->Z):Rs j->Rs Z
 | .ok v=>.ok (g v)
 | .bad p=>.bad p
noncomputable def Z7{j:Type}(f:Nat->j->Rs Th):Nat->List j->Rs (List Th)
 | _,[]=>.ok []
 | i,a::l=>match f i a with
  | .bad p=>.bad p
  | .ok v=>mapR (v::·) (Z7 f (i+1) l)
theorem Le{j:Type}{f:Nat->j->Rs Th}:∀{l m:List j} {i:Nat} {vs:List Th},Z7 f i l=.ok vs->Z7 f i (l++m)=mapR (vs++·) (Z7 f (i+l.length) m)
 | [],m,i,vs,h=>by
  cases h;show Z7 f i m=mapR _ (Z7 f i m);cases Z7 f i m<;>rfl
 | a::l,m,i,vs,h=>by
  unfold Z7 at h
  show (match f i a with
   | .bad p=>Rs.bad p
   | .ok v=>mapR (v::·) (Z7 f (i+1) (l++m)))=_
  cases e:f i a with
  | bad p=>rw[e]at h;cases h
  | ok v =>
   rw[e]at h;cases e2:Z7 f (i+1) l with
   | bad p=>rw[e2]at h;cases h
   | ok ws =>
    rw[e2]at h;cases h;show mapR (v::·) (Z7 f (i+1) (l++m))=_;rw[Le e2,R1,show i+1+l.length=i+(l.length+1) by omega];cases Z7 f (i+(l.length+1)) m<;>rfl
theorem Gk{j:Type}{f:Nat->j->Rs Th}{l:List j}{i:Nat}{a:j}{vs p:List Th}(ea:l[i]?=some a)(h:Z7 f 0 (l.take i)=.ok vs)(b:f i a=.bad p):Z7 f 0 l=.bad p:=by
 have hi:i<l.length:=(Bl.mp ea).1;have e:l=l.take i++a::l.drop (i+1):=by rw[<-(Bl.mp ea).2, <-List.drop_eq_getElem_cons hi,List.take_append_drop]
 rw[e,Le h]
 have:Z7 f (0+(l.take i).length) (a::l.drop (i+1))=.bad p:=by
  rw[Cs,Nat.min_eq_left (Nat.le_of_lt hi),Nat.zero_add];unfold Z7;rw[b]
 rw[this];rfl
theorem Dp{j:Type}{f:Nat->j->Rs Th}{l:List j}{i:Nat}{a:j}{vs:List Th}{v:Th}(ea:l[i]?=some a)(h:Z7 f 0 (l.take i)=.ok vs)(b:f i a=.ok v):Z7 f 0 (l.take (i+1))=.ok (vs++[v]):=by
 have hi:i<l.length:=(Bl.mp ea).1;rw[Zs ea,Le h]
 have:Z7 f (0+(l.take i).length) [a]=.ok [v]:=by
  rw[Cs,Nat.min_eq_left (Nat.le_of_lt hi),Nat.zero_add];unfold Z7;rw[b];rfl
 rw[this];rfl
theorem Us{j:Type}{f:Nat->j->Rs Th}:∀{l:List j} {i:Nat} {vs:List Th},Z7 f i l=.ok vs->vs.length=l.length
 | [],_,_,h=>by cases h;rfl
 | a::l,i,vs,h=>by
  unfold Z7 at h;cases e:f i a with
  | bad p=>rw[e]at h;cases h
  | ok v =>
   rw[e]at h;cases e2:Z7 f (i+1) l with
   | bad p=>rw[e2]at h;cases h
   | ok ws=>rw[e2]at h;cases h;rw[R1,R1,Us e2]
noncomputable def U0:Th->Str
 | .tup (.str w::_)=>w
 | _ => ""
noncomputable def Gb:Th->Th
 | .tup (_::b::_)=>b
 | t=>t
noncomputable def Zg3:Th->Th
 | .tup (_::_::c::_)=>c
 | t=>t
noncomputable def Zyr:Th->List Th
 | .tup ts=>ts
 | _=>[]
noncomputable def lenT:Th->Nat
 | .str x=>x.length
 | .tup ts=>ts.length
 | _=>0
noncomputable def Bm:Yn->Str
 | .whole _ _ => "whole"
 | .truth => "whole"
 | .text _ => "text"
 | .row b _ _=>if b=true then "row" else "map"
 | .rcd _ _ => "rec"
 | .cho _ _ _ => "arm"
noncomputable def X6:Yn->Th->Bool
 | .whole lo hi,a=>decide (lo<=ud a)&&decide (ud a<=hi)
 | .truth,a=>decide (0<=ud a)&&decide (ud a<=1)
 | .text n,a=>decide ((lenT a:Int)<=n)
 | .row _ _ n,a=>decide ((lenT a:Int)<=n)
 | .rcd _ _,_=>true
 | .cho fs _ o,a=>o || (J0 fs (ud a)).isSome
noncomputable def Mx(s:Yn)(t:Th):Bool:=decide (U0 t=Bm s)&&X6 s (Gb t)
noncomputable def Y8(w:Str)(t:Th):Th:=.tup [.str w,t]
noncomputable def W4:Th->Th
 | .tup (a::_)=>a
 | t=>t
noncomputable def Tg(n:Int)(ts:List Th):Option Th:=(ts.find? λq=>decide (ud (W4 q)=n)).map Gb
noncomputable def Jp(R:Str->Th->List Th->Rs Th)(p ts:List Th)(f:Vk):Rs Th:=match Tg f.n ts with
 | some u=>R f.y u (p++[Y8 "field" (.int f.n)])
 | none=>match f.d with
  | some d=>.ok d
  | none=>.bad (p++[Y8 "field" (.int f.n)])
noncomputable def N2(fs:List Vk)(ts:List Th):List Th:=ts.filter λq=>(J0 fs (ud (W4 q))).isNone
noncomputable def rdS(R:Str->Th->List Th->Rs Th):Yn->Th->List Th->Rs Th
 | .whole _ _,t,_=>.ok (Gb t)
 | .truth,t,_=>.ok (.bl (decide (ud (Gb t)=1)))
 | .text _,t,_=>.ok (Gb t)
 | .row b y _,t,p=>mapR Th.tup (if b=true then Z7 (λi u=>R y u (p++[Y8 "at" (.int (i:Int))])) 0 (Zyr (Gb t)) else Z7 (λ_ q=>mapR (λv=>.tup [W4 q,v]) (R y (Gb q) (p++[Y8 "key" (W4 q)]))) 0 (Zyr (Gb t)))
 | .rcd fs _,t,p=>mapR (λvs=>.tup [.tup vs,.tup (N2 fs (Zyr (Gb t)))]) (Z7 (λ_ f=>Jp R p (Zyr (Gb t)) f) 0 fs)
 | .cho fs _ _,t,p=>match J0 fs (ud (Gb t)) with
  | none=>.ok (.tup [.str "other",Gb t,Zg3 t])
  | some g=>mapR (λv=>.tup [.str "arm",Gb t,v]) (R g.y (Zg3 t) (p++[Y8 "arm" (Gb t)]))
noncomputable def Jd(ms:List (Str×Yn)):Nat->Str->Th->List Th->Rs Th
 | 0,_,_,p=>.bad p
 | n+1,x,t,p=>match Jc ms x with
  | none=>.bad p
  | some s=>if Mx s t=true then rdS (Jd ms n) s t p else .bad p
theorem Li{ms:List (Str×Yn)}{n:Nat}{x:Str}{s:Yn}{t:Th}{p:List Th}(es:Jc ms x=some s):Jd ms (n+1) x t p=if Mx s t=true then rdS (Jd ms n) s t p else .bad p:=by
 show (match Jc ms x with
  | none=>Rs.bad p
  | some s=>if Mx s t=true then rdS (Jd ms n) s t p else .bad p)=_
 rw[es]
set_option genInjectivity false in
structure Ent where
 f:Vk
 u:Th
 w:Th
set_option genInjectivity false in
structure Ai where
 k:Str
 u:Th
 w:Th
noncomputable def lfo(e:Ent):Bool:=decide (Ei (.tup (Dl [e.u]))=Ei (.tup (Dl e.f.d.toList)))
noncomputable def kept(l:List Ent):List (Int×Th):=(l.filter λe=>!lfo e).map λe=>(e.f.n,e.w)
structure Zka(own:Bool)(fs:List Vk)(os:List (Int×Th)):Prop where
 own:own=true->os=[]
 nd:(os.map (·.1)).Nodup
 len:os.length<=6
 ok:∀o∈os,o.1∉fs.map Vk.n/\0<=o.1/\o.1<=1000/\GI 2 o.2
def VW(W:Str->Th->Th->Prop)(own:Bool):Yn->Th->Th->Prop
 | .whole lo hi,u,w=>Pv (.whole lo hi) u/\w=.tup [.str "whole",u]
 | .truth,u,w=>∃b:Bool,u=.bl b/\w=.tup [.str "whole",.int (if b=true then 1 else 0)]
 | .text n,u,w=>Pv (.text n) u/\w=.tup [.str "text",u]
 | .row true y _,u,w=>∃l:List Ai,l.length<=3/\(∀e∈l,e.k∈U6/\W y e.u e.w)/\u=.tup (l.map Ai.u)/\w=.tup [.str "row",.tup (l.map Ai.w)]
 | .row false y _,u,w=>∃l:List Ai,l.length<=3/\(∀e∈l,e.k∈U6/\W y e.u e.w)/\u=.tup (l.map λe=>.tup [.str e.k,e.u])/\w=.tup [.str "map",.tup (l.map λe=>.tup [.str e.k,e.w])]
 | .rcd fs _,u,w=>∃(l:List Ent) (os ps:List (Int×Th)),l.map Ent.f=fs/\(∀e∈l,W e.f.y e.u e.w)/\Zka own fs os/\u=.tup [.tup (l.map Ent.u),.tup (os.map U2)]/\ps.Perm (kept l++os)/\ps.Pairwise (λa b=>a.1<=b.1)/\w=.tup [.str "rec",.tup (ps.map U2)]
 | .cho fs _ _,u,w=>(∃f∈fs,∃u' w',W f.y u' w'/\u=.tup [.str "arm",.int f.n,u']/\w=.tup [.str "arm",.int f.n,w']) \/
   (own=false/\∃n it,n∉fs.map Vk.n/\0<=n/\n<=1000/\GI 2 it/\u=.tup [.str "other",.int n,it]/\w=.tup [.str "arm",.int n,it])
def Wr(own:Bool)(ms:List (Str×Yn)):Nat->Str->Th->Th->Prop
 | 0,x,u,w=>∃s,Jc ms x=some s/\VW (λ_ _ _=>False) own s u w
 | n+1,x,u,w=>∃s,Jc ms x=some s/\VW (Wr own ms n) own s u w
def cj(own:Bool)(ms:List (Str×Yn)):Nat->Str->Th->Th->Prop
 | 0=>λ_ _ _=>False
 | n+1=>Wr own ms n
theorem Wr.out{own:Bool}{ms:List (Str×Yn)}:∀{n:Nat} {x:Str} {u w:Th},Wr own ms n x u w->∃s,Jc ms x=some s/\VW (cj own ms n) own s u w
 | 0,_,_,_,h=>h
 | _+1,_,_,_,h=>h
theorem Wr.of{own:Bool}{ms:List (Str×Yn)}:∀{n:Nat} {x:Str} {u w:Th} {s:Yn},Jc ms x=some s->VW (cj own ms n) own s u w->Wr own ms n x u w
 | 0,_,_,_,_,e,h=>⟨_,e,h⟩
 | _+1,_,_,_,_,e,h=>⟨_,e,h⟩
noncomputable def CW:Nat->Nat
 | 0=>0
 | n+1=>5*CW n+75000
theorem Zgs{x:Str}(h:(x.cps.toList.all λz=>decide (z<127))=true)(hl:x.length<=8):Gd 82 0 (.str x):=Zjj (λz m=>Sh (A0t.mp h z m)) QU QI
theorem Zzb:∀x∈U6,Gd 82 0 (.str x):=λx m=>by
 have h:∀x∈U6,(x.cps.toList.all λz=>decide (z<127))=true/\x.length<=8:=QA
 exact Zgs (h x m).1 (h x m).2
theorem Zyf:∀n∈Fb,0<=n/\n<=1000:=by decide
theorem Px{n:Int}(h0:0<=n)(h1:n<=1000):Gd 25 0 (.int n):=Tt (by have:=(show (0:Int)<=Te by decide);omega) (by have:=(show (1000:Int)<=Te by decide);omega)
theorem v8{ms:List (Str×Yn)}{fs:List Vk}(h:V0 ms fs){f:Vk}(m:f∈fs):0<=f.n/\f.n<=1000:=Zyf _ (h.nums.subset (List.mem_map_of_mem m))
theorem Zjq{d:Nat}{x:Str}(h:(x.cps.toList.all λz=>decide (z<127))=true)(hl:x.length<=8):Gd 82 d (.str x):=(Zgs h hl).mono (Yt _) (Dc _)
theorem Wm(l:List Ent):(kept l).length<=l.length:=by
 unfold kept;rw[Yv];exact List.length_filter_le _ _
theorem VW.gd{own:Bool}{ms:List (Str×Yn)}{W:Str->Th->Th->Prop}{c n:Nat}{s:Yn}{u w:Th}(ok:Zkp ms s)(ih:∀x u w,W x u w->Gd c (10+3*n) u)(h:VW W own s u w):Gd (5*c+75000) (13+3*n) u:=by
 have base:∀{c' d:Nat} {t:Th},Gd c' d t->c'<=75000->d<=13->Gd (5*c+75000) (13+3*n) t:=λg hc hd=>g.mono QU QU;cases s with
 | whole lo hi =>
  obtain⟨p,rfl⟩:=h;cases u with
  | int i=>exact base (Tt p.1 p.2) QI QI
  | _=>exact p.elim
 | truth =>
  obtain⟨b,rfl,rfl⟩:=h;exact base (dy b) QI QI
 | text k =>
  obtain⟨p,rfl⟩:=h;cases u with
  | str z=>exact base (Zgh p) QI QI
  | _=>exact p.elim
 | row b y k =>
  cases b with
  | true =>
   obtain⟨l,l3,hl,rfl,rfl⟩:=h
   have gu:Gd (3*(c+2)+3) (10+3*n+1) (.tup (l.map Ai.u)):=N9 (λt m=>by
    obtain⟨e,me,rfl⟩:=G3.mp m;exact ih _ _ _ (hl e me).2) (by rw[Yv];exact l3)
   exact gu.mono QU QU
  | false =>
   obtain⟨l,l3,hl,rfl,rfl⟩:=h
   have gu:Gd (3*(82+c+7+2)+3) (10+3*n+1+1) (.tup (l.map λe=>.tup [.str e.k,e.u])):=N9 (λt m=>by
    obtain⟨e,me,rfl⟩:=G3.mp m;exact gd2 ((Zzb _ (hl e me).1).mono (Yt _) (Dc _)) (ih _ _ _ (hl e me).2)) (by rw[Yv];exact l3)
   exact gu.mono QU QU
 | rcd fs us =>
  obtain⟨l,os,ps,rfl,hl,ho,rfl,hp,sp,rfl⟩:=h;have ok:V0 ms (l.map Ent.f):=ok;have l5:l.length<=5:=by have:=ok.len;rw[Yv]at this;exact this
  have g1:Gd (5*(c+2)+3) (10+3*n+1) (.tup (l.map Ent.u)):=N9 (λt m=>by
   obtain⟨e,me,rfl⟩:=G3.mp m;exact ih _ _ _ (hl e me)) (by rw[Yv];exact l5)
  have g2:Gd (6*(25+10600+7+2)+3) (9+1+1) (.tup (os.map U2)):=N9 (λt m=>by
   obtain⟨p,mp,rfl⟩:=G3.mp m;exact gd2 ((Px (ho.ok p mp).2.1 (ho.ok p mp).2.2.1).mono (Yt _) (Dc _)) (ho.ok p mp).2.2.2.gd) (by rw[Yv];exact ho.len)
  exact(gd2 g1 (g2.mono (Yt _) (by omega:9+1+1<=10+3*n+1))).mono QU QU
 | cho fs us o =>
  have ok:V0 ms fs/\_:=ok;rcases h with ⟨f,mf,u',w',hw,rfl,rfl⟩ | ⟨_,k,it,nk,k0,k1,gi,rfl,rfl⟩
  .have b:=v8 ok.1 mf;have gi:Gd 25 (10+3*n) (.int f.n):=(Px b.1 b.2).mono (Yt _) (Dc _);exact(gd3 (Zjq QA QA) gi (ih _ _ _ hw)).mono QU QU
  .have gk:Gd 25 9 (.int k):=(Px k0 k1).mono (Yt _) (Dc _);exact base (gd3 (Zjq QA QA) gk gi.gd) QI QI
theorem Wr.gd{own:Bool}{ms:List (Str×Yn)}(mk:Nd ms):∀{n:Nat} {x:Str} {u w:Th},Wr own ms n x u w->Gd (CW (n+1)) (13+3*n) u
 | 0,x,u,w,h=>by
  obtain⟨s,es,h⟩:=h;exact VW.gd (n:=0) (c:=0) (mk.ok x s es) (λ_ _ _ z=>z.elim) h
 | n+1,x,u,w,h=>by
  obtain⟨s,es,h⟩:=h;exact VW.gd (n:=n+1) (c:=CW (n+1)) (mk.ok x s es) (λ_ _ _ z=>(Wr.gd mk z).mono (Yt _) QU) h
theorem Kd{K:PySem.W.Frag}{H:Hp}{a D:Addr}{xs:ZZ}{ts rs:List Th}{g:TG}{tt:TT}{te:TE}{fin:Hp->Prop}{σ0:L2.St}(G:Nat->Hp->Prop)(Sg:L2.St->Prop)(ha:∀i H5,G i H5->Zp K H5 a xs)(hA:Zw K H ts xs)(hr:rs.length=ts.length)(hl:ts.length<=1000000)
  (up:∀i H5,G i H5->Ui K H H5) (put:∀i H5 ys zs,G i H5->H5 D=some (.lst ys)->G i (upd H5 D (.lst zs))) (g0:G 0 (upd H D (.lst []))) (s0:Sg σ0)
  (h:∀i t r v j H5 (Q:V->L2.St->Hp->Prop),ts[i]?=some t->rs[i]?=some r->Sg j->G i H5->Zg K H5 t v->(∃ys,H5 D=some (.lst ys))->(∀v' σ' H6,Sg σ'->G (i+1) H6->Ui K H5 H6->(∀o,H5 D=some o->H6 D=some o)->Zg K H6 r v'->Q v' σ' H6) ->
   g v j H5 λσ2 H2=>tt σ2 H2 λok H3=>ok=true/\te σ2 H3 λy H4=>Q y σ2 H4)
  (mg:∀v j H5 (A:L2.St->Hp->Prop) (B:L2.St->Hp->Prop),(g v j H5 λσ2 H2=>tt σ2 H2 λok H3=>ok=true/\A σ2 H3)->g v j H5 λσ2 H2=>tt σ2 H2 λok H3=>if ok=true then A σ2 H3 else B σ2 H3)
  (hf:∀H6 ws j,Sg j->G ts.length H6->H6 D=some (.lst ws)->Zw K H6 rs ws->fin H6) :
  ∃W:Nat->Nat->ZZ->L2.St->Hp->Prop,(∃m,W 0 m [] σ0 (upd H D (.lst [])))/\Nn (Itt K a) g tt te D W fin:=by
 have hlen:=hA.length;refine J2 (xs:=xs) (λi ys j H5=>Sg j/\Zw K H5 (rs.take i) ys/\G i H5/\H5 D=some (.lst ys)) ⟨s0,rfl,g0,Zz⟩ ?_ ?_ ?_
 .rintro i ys j H5 hi ⟨_,_,s5,h5⟩;exact⟨ha i H5 s5,h5⟩
 .rintro i x ys j H5 hx ⟨sg,ar,s5,h5⟩;obtain⟨t,et,it⟩:=hA.got hx;have hi:i<ts.length:=(Bl.mp et).1;have er:rs[i]?=some rs[i]:=Bh QU;refine mg _ _ _ _ _ (h i t _ x j H5 (λy σ2 H4=>H4 D=some (.lst ys)/\ys.length<sizeLine/\Sg σ2/\Zw K (upd H4 D (.lst (ys++[y]))) (rs.take (i+1)) (ys++[y])/\G (i+1) (upd H4 D (.lst (ys++[y])))/\upd H4 D (.lst (ys++[y])) D=some (.lst (ys++[y]))) et er sg s5 (Zg.up (up i H5 s5) t x it) ⟨_,h5⟩ λv' σ' H6 sg' g6 u6 k6 i6=>?_);have h6:=k6 _ h5;refine⟨h6,?_,sg',?_,put _ _ _ _ g6 h6,Zz⟩
  .rw[<-ar.length,Cs];exact Qe (Vf (Nat.min_le_right _ _) (by omega:rs.length<=1000000)) QI
  .rw[Zs er];have uS:Ui K H6 (upd H6 D (.lst (ys++[v']))):=Zi h6;exact Zw.append (Zw.up (u6.trans uS) _ _ ar) (Zw.one (Zg.up uS _ _ i6))
 .rintro ys j H5 ⟨sg,ar,s5,h5⟩;rw[<-hlen]at ar s5;refine hf H5 ys j sg s5 h5 ?_;rw[<-hr,Ss]at ar;exact ar
theorem O4{K:PySem.W.Frag}{H:Hp}{a D:Addr}{xs:ZZ}{ts rs:List Th}{g:TG}{tt:TT}{te:TE}{fin:Hp->Prop}{σ0:L2.St}(G:Nat->Hp->Prop)(Sg:L2.St->Prop)(ha:∀i H5,G i H5->Zu K H5 a xs)(hA:Zw K H ts xs)(hr:rs.length=ts.length)(hl:ts.length<=1000000)
  (up:∀i H5,G i H5->Ui K H H5) (put:∀i H5 ys zs,G i H5->H5 D=some (.lst ys)->G i (upd H5 D (.lst zs))) (g0:G 0 (upd H D (.lst []))) (s0:Sg σ0)
  (h:∀i t r v j H5 (Q:V->L2.St->Hp->Prop),ts[i]?=some t->rs[i]?=some r->Sg j->G i H5->Zg K H5 t v->(∃ys,H5 D=some (.lst ys))->(∀v' σ' H6,Sg σ'->G (i+1) H6->Ui K H5 H6->(∀o,H5 D=some o->H6 D=some o)->Zg K H6 r v'->Q v' σ' H6) ->
   g v j H5 λσ2 H2=>tt σ2 H2 λok H3=>ok=true/\te σ2 H3 λy H4=>Q y σ2 H4)
  (mg:∀v j H5 (A:L2.St->Hp->Prop) (B:L2.St->Hp->Prop),(g v j H5 λσ2 H2=>tt σ2 H2 λok H3=>ok=true/\A σ2 H3)->g v j H5 λσ2 H2=>tt σ2 H2 λok H3=>if ok=true then A σ2 H3 else B σ2 H3)
  (hf:∀H6 ws j,Sg j->G ts.length H6->H6 D=some (.lst ws)->Zw K H6 rs ws->fin H6) :
  ∃W:Nat->Nat->ZZ->L2.St->Hp->Prop,(∃m,W 0 m [] σ0 (upd H D (.lst [])))/\Nn (Itl K a) g tt te D W fin:=by
 have hlen:=hA.length;refine Ve (xs:=xs) (λi ys j H5=>Sg j/\Zw K H5 (rs.take i) ys/\G i H5/\H5 D=some (.lst ys)) ⟨s0,rfl,g0,Zz⟩ ?_ ?_ ?_
 .rintro i ys j H5 hi ⟨_,_,s5,h5⟩;exact⟨ha i H5 s5,h5⟩
 .rintro i x ys j H5 hx ⟨sg,ar,s5,h5⟩;obtain⟨t,et,it⟩:=hA.got hx;have hi:i<ts.length:=(Bl.mp et).1;have er:rs[i]?=some rs[i]:=Bh QU;refine mg _ _ _ _ _ (h i t _ x j H5 (λy σ2 H4=>H4 D=some (.lst ys)/\ys.length<sizeLine/\Sg σ2/\Zw K (upd H4 D (.lst (ys++[y]))) (rs.take (i+1)) (ys++[y])/\G (i+1) (upd H4 D (.lst (ys++[y])))/\upd H4 D (.lst (ys++[y])) D=some (.lst (ys++[y]))) et er sg s5 (Zg.up (up i H5 s5) t x it) ⟨_,h5⟩ λv' σ' H6 sg' g6 u6 k6 i6=>?_);have h6:=k6 _ h5;refine⟨h6,?_,sg',?_,put _ _ _ _ g6 h6,Zz⟩
  .rw[<-ar.length,Cs];exact Qe (Vf (Nat.min_le_right _ _) (by omega:rs.length<=1000000)) QI
  .rw[Zs er];have uS:Ui K H6 (upd H6 D (.lst (ys++[v']))):=Zi h6;exact Zw.append (Zw.up (u6.trans uS) _ _ ar) (Zw.one (Zg.up uS _ _ i6))
 .rintro ys j H5 ⟨sg,ar,s5,h5⟩;rw[<-hlen]at ar s5;refine hf H5 ys j sg s5 h5 ?_;rw[<-hr,Ss]at ar;exact ar
abbrev Lo:Stmt:=top 19
noncomputable abbrev ai:ZF:=QM
theorem jv:Ze ai QM (Zb Lo):=by trivial
abbrev Be:Stmt:=top 16
noncomputable abbrev xq:ZF:=["shape","number","member"]
theorem R5:Ze xq QN (Zb Be):=by trivial
theorem rd_up{K:W.Frag}{H H':Hp}(u:Ui K H H'){a:Addr}{k:List (Key×V)}(h:Rd H a (.dK k)):Rd H' a (.dK k):=h.imp (u.dct _ _) λ⟨o,z⟩=>⟨o,u.frz _ _ _ z⟩
theorem Pd{H:Hp}{a:Addr}{k:List (Key×V)}(h:Rd H a (.dK k))(x:Key):Ue H a (kV x) (Dn k x):=.inl ⟨k,x,h,rfl,rfl⟩
structure M5(K:W.Frag)(H:Hp)(e S:Addr)(ms:List (Str×Yn)):Prop where
 e:∃v,Zp K H e [v,.ref S]
 d:∃XQ,Rd H S (.dK XQ)/\Dm K H XQ ms
theorem M5.up{K:W.Frag}{H H':Hp}{e S:Addr}{ms:List (Str×Yn)}(h:M5 K H e S ms)(u:Ui K H H'):M5 K H' e S ms :=
 let ⟨v,hv⟩:=h.e
 let ⟨XQ,q,d⟩:=h.d
 ⟨⟨v,u.tup _ _ hv⟩,XQ,rd_up u q,d.up (C4 u)⟩
theorem M5.get{K:W.Frag}{H:Hp}{e S:Addr}{ms:List (Str×Yn)}(h:M5 K H e S ms){x:Str}{s:Yn}(es:Jc ms x=some s):∃XQ v,Rd H S (.dK XQ)/\Dn XQ (.inr x)=some v/\Zg K H s.t v:=by
 obtain⟨XQ,q,d⟩:=h.d;rcases d.val x with ⟨z,_⟩ | ⟨s',v,e1,e2,e3⟩
 .rw[es]at z;cases z
 .rw[es]at e1;cases e1;exact⟨XQ,v,q,e2,e3⟩
inductive Zz6(K:W.Frag)(vs:ZZ)(H:Hp)(Q:VK):Prop
 | mk(e S:Addr)(ms:List (Str×Yn))(x:Str)(s:Yn)(Vx:vs=[.ref e,.str x])(Vz:M5 K H e S ms)(Vp:Jc ms x=some s)(Jn:∀v,Zg K H s.t v->Q v H)
def K6(K:W.Frag):Sp:=λvs H Q _=>Zz6 K vs H Q
inductive Zw5(K:W.Frag)(vs:ZZ)(H:Hp)(Q:VK):Prop
 | mk(sv:V)(w0:Th)(r:List Th)(g:Vk->Th)(fs:List Vk)(n:Int)(Vx:vs=[sv,.int n])(Vz:Zg K H (.tup (w0::.tup (fs.map g)::r)) sv)(Vp:(∀f,∃r,g f=.tup (.int f.n::r)))(Jn:(J0 fs n=none->Q .non H))(Mf:∀f v,J0 fs n=some f->Zg K H (g f) v->Q v H)
def Zz2(K:W.Frag):Sp:=λvs H Q _=>Zw5 K vs H Q
theorem Zjm{fs:List Vk}{n:Int}{i:Nat}{h:Vk}(e:fs[i]?=some h)(no:∀g∈fs.take i,g.n≠n)(c:h.n=n):J0 fs n=some h:=by
 have hi:i<fs.length:=(Bl.mp e).1;have eh:fs[i]=h:=(Bl.mp e).2;have sp:fs=fs.take i++h::fs.drop (i+1):=by rw[<-eh, <-List.drop_eq_getElem_cons hi,List.take_append_drop]
 unfold J0;rw[sp,List.find?_append];have n1:(fs.take i).find? (λf=>decide (f.n=n))=none:=XZ.mpr λg mg z=>no g mg (Sh z);rw[n1,List.find?_cons,Sd c]
 rfl
theorem ji(F:Fu K "form_of" Lo f fd)(m:Bn mg):Yk P w K mg base Mm 1 f fd QM (K6 K):=by
 refine F.ok jv (λvs H Q E h=>?_) λ_ A _ s H vs Q E hr h=>?_
 .obtain⟨e,S,ms,x,s,rfl,_⟩:=h
  rfl
 obtain⟨e,S,ms,x,sh,rfl,mk,es,q⟩:=h;obtain⟨v0,he⟩:=mk.e;obtain⟨XQ,v,hS,ev,iv⟩:=mk.get es;refine⟨_,(@Z2 _ _ _ (qr (@Zxr _ _ _ _ _ _ _ (Jo hr) (iX Zy (pv 0) Zq) (pv 1) ⟨rfl,rfl,rfl,rfl⟩))),?_⟩;refine⟨_,rfl,e,_,_,_,rfl,rfl,he,Vq,S,rfl,.inl ⟨_,hS⟩,_,rfl,_,Pd hS (.inr x),?_⟩;rw[ev];exact q v iv
theorem Hf(F:Fu K "member_of" Be f fd)(m:Bn mg):Yk P w K mg base Mm 1 f fd QN (Zz2 K):=by
 refine F.ok R5 (λvs H Q E h=>?_) λ_ A _ s H vs Q E hr h=>?_
 .obtain⟨sv,w0,r,g,fs,n,rfl,_⟩:=h
  rfl
 obtain⟨sv,w0,r,g,fs,n,rfl,is,hg,qn,q⟩:=h;obtain⟨a,ws,rfl,ha,w1,ws',rfl,i1,w2,ws2,rfl,i2,i3⟩:=is;obtain⟨pa,xs,rfl,G4,axs⟩:=i2;refine⟨_,(@Zd _ _ _ _ _ (Jj PassesOwn.never rfl (qI (iX Zy (pv 0) Zq)) (nJ 2 R5.nd) (q1 (qi (tQ Za (iX Zy (pv 2) Zq) (pv 1)) (q1 (qr (pv 2))) Zl))) (q1 (qr Pr))),?_⟩;refine⟨_,rfl,a,_,_,_,rfl,rfl,ha,Vq,pa,rfl,⟨_,G4⟩,?_⟩;refine W7 (K:=K) (xs:=xs) (λi j H5=>(∃o',j=[some (.ref a),some (.int n),o'])/\H5=H/\∀h∈fs.take i,h.n≠n) ⟨⟨_,rfl⟩,rfl,λh m=>absurd m V9⟩ ?_ ?_ ?_
 .intro i j H5 hi Ot;refine hide λ_ Z1=>?_;obtain⟨_,rfl,_⟩:=Ot;refine Z1 ?_;exact G4
 .intro i x j H5 hx Rc;refine hide λ_ Yz=>?_;obtain⟨⟨o',rfl⟩,rfl,no⟩:=Rc;obtain⟨t,et,it⟩:=axs.got hx;rw[Jb]at et;obtain⟨h,eh,rfl⟩:=Cy.mp et;have it0:=it;obtain⟨rr,er⟩:=hg h;rw[er]at it;obtain⟨b,ys,rfl,hb,y1,yr,rfl,j1,_⟩:=it;cases Zc j1;refine Yz ?_;refine⟨_,rfl,b,_,_,_,rfl,rfl,hb,Yw,_,rfl,rfl,_,rfl,?_⟩;refine Vb (λc=>?_) (λc=>?_)
  .have c:h.n=n:=by injection Sh c
   exact⟨_,rfl,q h _ (Zjm eh no c) it0⟩
  .refine⟨⟨_,rfl⟩,rfl,λz mz=>?_⟩;rw[Zs eh]at mz;rcases M6.mp mz with mz | mz
   .exact no z mz
   .rw[Nw.mp mz];exactλe=>c (by rw[e];exact Sd rfl)
 .intro j H5 Om;refine hide λ_ Yq=>?_;obtain⟨_,rfl,no⟩:=Om;refine Yq ?_;rw[<-axs.length,Yv,Ss]at no;exact qn (XZ.mpr λg mg z=>no g mg (Sh z))
abbrev Gy:Stmt:=top 38
noncomputable abbrev By:ZF:=["_law_feed_here","_law_deep","_law_way","_law_some"]
theorem Bi:Ze By XR (Zb Gy):=by trivial
noncomputable def IB:Nat->Nat
 | 0=>2
 | k+1=>3*IB k+3
theorem IB_le:∀k,2<=IB k
 | 0=>Yt _
 | k+1=>by show 2<=3*IB k+3;omega
inductive spIt_I(K:W.Frag)(k:Nat)(vs:ZZ)(H:Hp)(Q:VK):Prop
 | mk(l:Addr)(r:Nat)(Vx:vs=[.ref l,.int (k:Int)])(Vz:Fd (r+IB k) H l)(Vp:∀v u H',Zg K H' u v->GI k u->Ye l r H H'->Q v H')
def jz(K:W.Frag)(k:Nat):Sp:=λvs H Q _=>spIt_I K k vs H Q
def Zk6(K:W.Frag):Nat->Sp
 | 0=>λ_ _ _ _=>False
 | k+1=>jz K k
noncomputable def ITI:ZC:=[0,1, -1,7,(10:Int) ^ (18:Int).toNat, -((10:Int) ^ (18:Int).toNat)]
theorem Zqp:∀x∈ITI, -Te<=x/\x<=Te:=by decide
noncomputable def ITS:ZF:=["","a","~ 1"]
theorem its_ok:∀x∈ITS,Cm x/\x.length<=3:=λx m=>by
 have h:∀x∈ITS,(x.cps.toList.all λc=>decide (fg c))=true/\x.length<=3:=QA
 exact⟨⟨λc mc=>Sh (A0t.mp (h x m).1 c mc),Vf (h x m).2 QI⟩,(h x m).2⟩
noncomputable def ITN:ZF:=["a","ab","b"]
theorem vz{x:Str}(h:(x.cps.toList.all λc=>decide (fg c))=true)(l:x.length<=8):Tn x:=⟨⟨λc mc=>Sh (A0t.mp h c mc),Vf l QI⟩,l⟩
theorem itn_ok:∀x∈ITN,Tn x:=λx m=>by
 have h:∀x∈ITN,(x.cps.toList.all λc=>decide (fg c))=true/\x.length<=8:=QA
 exact vz (h x m).1 (h x m).2
noncomputable def ITR:ZC:=[1,10,999]
theorem itr_ok:∀x∈ITR,0<=x/\x<=1000:=by decide
noncomputable def ITA:ZC:=[1,4,999]
theorem ita_ok:∀x∈ITA,0<=x/\x<=1000:=by decide
theorem D1(i:Int):Y9 (.tup [.str "whole",.int i])=638:=rfl
theorem Ww(x:Str):Y9 (.tup [.str "text",.str x])=616+x.length:=by show 600+(8+2+(x.length+4+2+0))=_;omega
theorem Tz(l:List Th):Y9 (.tup [.str "row",.tup l])=1211+Y0 l:=by show 600+(7+2+(600+Y0 l+2+0))=_;omega
theorem Tq(l:List Th):Y9 (.tup [.str "map",.tup l])=1211+Y0 l:=by show 600+(7+2+(600+Y0 l+2+0))=_;omega
theorem Tx(l:List Th):Y9 (.tup [.str "rec",.tup l])=1211+Y0 l:=by show 600+(7+2+(600+Y0 l+2+0))=_;omega
theorem Gg(k:Int)(u:Th):Y9 (.tup [.str "arm",.int k,u])=638+Y9 u:=by show 600+(7+2+(25+2+(Y9 u+2+0)))=_;omega
theorem D6(p:Int×Th):Y9 (U2 p)=629+Y9 p.2:=by show 600+(25+2+(Y9 p.2+2+0))=_;omega
theorem M3(p:Str×Th):Y9 (R8 p)=608+p.1.length+Y9 p.2:=by show 600+(p.1.length+4+2+(Y9 p.2+2+0))=_;omega
theorem Xi{k:Nat}{i:Int}(h0:-Te<=i)(h1:i<=Te):GI k (.tup [.str "whole",.int i]):=⟨.whole i h0 h1,by rw[D1];have:=Zfz k;omega⟩
theorem Zkq{k:Nat}{x:Str}(h:Cm x/\x.length<=3):GI k (.tup [.str "text",.str x]):=⟨.text x h.1,by rw[Ww];have:=Zfz k;have:=h.2;omega⟩
theorem j7{c:Nat}{l:List Th}(h:∀t∈l,Y9 t<=c)(l2:l.length<=2):Y0 l<=2*(c+2):=Vf (Hn h) (Nat.mul_le_mul_right _ l2)
theorem gi_row{k:Nat}{l:List Th}(h:∀u∈l,GI k u)(l2:l.length<=2):GI (k+1) (.tup [.str "row",.tup l]) :=
 ⟨.row l λu m=>(h u m).w,by rw[Tz];have:=j7 (λt m=>(h t m).mu) l2;show _<=2*MU k+2600;omega⟩
theorem gi_map{k:Nat}{l:List (Str×Th)}(hk:∀p∈l,Tn p.1)(h:∀p∈l,GI k p.2)(l2:l.length<=2):GI (k+1) (.tup [.str "map",.tup (l.map R8)]) :=
 ⟨.map l hk λp m=>(h p m).w,by
  rw[Tq];have:=j7 (c:=616+MU k) (l:=l.map R8) (λt m=>by obtain⟨p,mp,rfl⟩:=G3.mp m;rw[M3];have:=(h p mp).mu;have:=(hk p mp).2;omega) (by rw[Yv];exact l2);show _<=2*MU k+2600;omega⟩
theorem gi_rec{k:Nat}{l:List (Int×Th)}(hk:∀p∈l,0<=p.1/\p.1<=1000)(s:(l.map (·.1)).Pairwise (· < ·))(h:∀p∈l,GI k p.2)(l2:l.length<=2):GI (k+1) (.tup [.str "rec",.tup (l.map U2)]) :=
 ⟨.recd l hk s λp m=>(h p m).w,by
  rw[Tx];have:=j7 (c:=629+MU k) (l:=l.map U2) (λt m=>by obtain⟨p,mp,rfl⟩:=G3.mp m;rw[D6];have:=(h p mp).mu;omega) (by rw[Yv];exact l2);show _<=2*MU k+2600;omega⟩
theorem gi_arm{k:Nat}{n:Int}{u:Th}(h0:0<=n/\n<=1000)(h:GI k u):GI (k+1) (.tup [.str "arm",.int n,u]):=⟨.arm n u h0.1 h0.2 h.w,by rw[Gg];have:=h.mu;show _<=2*MU k+2600;omega⟩
theorem km:∀(ns:ZF) (us:List Th),List.zipWith (λa b=>Th.tup [a,b]) (ns.map Th.str) us=(ns.zip us).map R8
 | [],_=>by simp
 | _::_,[]=>by simp
 | n::ns,u::us=>by rw[Mu,List.zipWith_cons_cons,km ns us];rfl
theorem kf:∀(ns:ZC) (us:List Th),List.zipWith (λa b=>Th.tup [a,b]) (ns.map Th.int) us=(ns.zip us).map U2
 | [],_=>by simp
 | _::_,[]=>by simp
 | n::ns,u::us=>by rw[Mu,List.zipWith_cons_cons,kf ns us];rfl
theorem kj{j:Type}:∀(ns:List j) (us:List Th),((ns.zip us).map (·.1)).Sublist ns
 | [],_=>by simp
 | _::_,[]=>by simp
 | n::ns,u::us=>by rw[List.zip_cons_cons,Mu];exact(kj ns us).cons_cons n
theorem Zj0{K:W.Frag}{H:Hp}:∀{ts:List Th} {vs:ZZ} {i:Nat} {t:Th},Zw K H ts vs->ts[i]?=some t->∃v,vs[i]?=some v/\Zg K H t v:=λ{ts vs i t} h e=>by
 have hi:=(Bl.mp e).1;have l:=h.length;obtain⟨v,ev⟩:∃v,vs[i]?=some v:=⟨_,Bh QU⟩;obtain⟨t',et,it⟩:=h.got ev;rw[e]at et;cases et;exact⟨v,ev,it⟩
theorem Ht{k n:Nat}(F:Fu K "_law_item" Gy f fd)(m:Bn mg)(Zt:gD P w K mg base)(Yf:Fn P w K mg base (n+1) "_law_item" XR (Zk6 K k)):Yk P w K mg base Mm (n+2) f fd XR (jz K k):=by
 refine F.ok Bi (λvs H Q E h=>?_) λ_ A _ s H vs Q E hr h=>?_
 .obtain⟨l,r,rfl,_⟩:=h
  rfl
 obtain⟨l,r,rfl,fe,q⟩:=h;have pw:Zj9 10 18:=⟨by decide,by decide,by decide⟩;obtain⟨c,hc⟩:∃c,IB k=c+2:=⟨IB k-2,by have:=IB_le k;omega⟩
 refine⟨_,(@Zd _ _ _ _ _ (sI 2 Bi.nd (cF Zt hr (Zf (pv 0) (Zf Zq Zx)))) (@Zd _ _ _ _ _ (@Uo _ _ _ _ _ _ _ _ (qp (qO (tQ Za (pv 2) Zq) (qQ (tQ Za (pv 1) Zq)))) (@Z2 _ _ _ (@Y6 _ _ _ _ (@Ys _ _ _ _ _ (@Zj _ _ _ _ _ Zk (@Zj _ _ _ _ _ (@Y3 _ _ _ _ _ _ _ Zh (@Z9 _ _ _ _ (@Zj _ _ _ _ _ Zq (@Zj _ _ _ _ _ Zq (@Zj _ _ _ _ _ (@E3 _ _ _ _ _ _ Lp Zq) (@Zj _ _ _ _ _ Zq (@Zj _ _ _ _ _ (@Gp _ _ _ _ _ _ _ _ Rg Zq Zq) (@Zj _ _ _ _ _ (@E3 _ _ _ _ _ _ Lp (@Gp _ _ _ _ _ _ _ _ Rg Zq Zq)) Zx rfl) rfl) rfl) rfl) rfl) rfl)) (cF Zt hr (Zf (pv 0) (Zf Zq Zx))) (λ_ _=>rfl)) Zx rfl) rfl)))) Zl) (@Zd _ _ _ _ _ (@Uo _ _ _ _ _ _ _ _ (tQ Za (pv 2) Zq) (@Z2 _ _ _ (@Y6 _ _ _ _ (@Ys _ _ _ _ _ (@Zj _ _ _ _ _ Zk (@Zj _ _ _ _ _ (@Y3 _ _ _ _ _ _ _ Zh (@Z9 _ _ _ _ (@Zj _ _ _ _ _ Zk (@Zj _ _ _ _ _ Zk (@Zj _ _ _ _ _ Zk Zx rfl) rfl) rfl)) (cF Zt hr (Zf (pv 0) (Zf Zq Zx))) (λ_ _=>rfl)) Zx rfl) rfl)))) Zl) (@Zd _ _ _ _ _ (sI 3 Bi.nd (pC By (Zb Gy) ["_law_k","_law_feed_here","_law_deep"] [none,some 0,some 1] (@Uh _ _ _ _ _ _ rfl m.range (Zf (cF Zt hr (Zf (pv 0) (Zf Zq Zx))) Zx) QO) (λ_ _ _=>(nI 0)) (λ_ _ _=>Yp) (λ_ _ _=>(cF Yf hr (Zf (pv 1) (Zf (qo B7 (pv 2) Zq) Zx)))))) (@Zd _ _ _ _ _ (qi (tQ Za (pv 2) Zq) (q1 (qr (qt (Zf Zk (Zf (cT Zr m.tuple Yd (Zf (pv 3) Zx)) Zx))))) Zl) (@Zd _ _ _ _ _ (@Uo _ _ _ _ _ _ _ _ (tQ Za (pv 2) Zq) (@Z2 _ _ _ (@Y6 _ _ _ _ (@Ys _ _ _ _ _ (@Zj _ _ _ _ _ Zk (@Zj _ _ _ _ _ (@Uu _ _ _ _ _ _ _ _ _ Zr rfl m.tuple Yd (@Zj _ _ _ _ _ (@Gu _ By (Zb Gy) ["_law_k","_law_some"] [none,some 3] _ _ _ _ _ _ _ _ _ _ rfl (@Uh _ _ _ _ _ _ rfl m.range (Zf (cB Yl m.len Dz (Zf (pv 3) Zx)) Zx) QO) ⟨rfl,rfl,by decide +kernel,by decide +kernel⟩ (λ_ _ _=>(nI 0)) (λ_ _ _=>Yp) (λ_ _ _=>(@Ys _ _ _ _ _ (@Zj _ _ _ _ _ (@Y3 _ _ _ _ _ _ _ Zh (@Z9 _ _ _ _ (@Zj _ _ _ _ _ Zk (@Zj _ _ _ _ _ Zk (@Zj _ _ _ _ _ Zk Zx rfl) rfl) rfl)) (pv 0) (λ_ _=>rfl)) (Zf (iX Zh (pv 1) (pv 0)) Zx) rfl))) QO) Zx rfl) QO QO QO QO) Zx rfl) rfl)))) Zl) (@Zd _ _ _ _ _ (@Uo _ _ _ _ _ _ _ _ (tQ Za (pv 2) Zq) (@Z2 _ _ _ (@Y6 _ _ _ _ (@Ys _ _ _ _ _ (@Zj _ _ _ _ _ Zk (@Zj _ _ _ _ _ (@Uu _ _ _ _ _ _ _ _ _ Zr rfl m.tuple Yd (@Zj _ _ _ _ _ (@Gu _ By (Zb Gy) ["_law_k","_law_some"] [none,some 3] _ _ _ _ _ _ _ _ _ _ rfl (@Uh _ _ _ _ _ _ rfl m.range (Zf (cB Yl m.len Dz (Zf (pv 3) Zx)) Zx) QO) ⟨rfl,rfl,by decide +kernel,by decide +kernel⟩ (λ_ _ _=>(nI 0)) (λ_ _ _=>Yp) (λ_ _ _=>(@Ys _ _ _ _ _ (@Zj _ _ _ _ _ (@Y3 _ _ _ _ _ _ _ Zh (@Z9 _ _ _ _ (@V4 _ _ [1,10,999] rfl)) (pv 0) (λ_ _=>rfl)) (Zf (iX Zh (pv 1) (pv 0)) Zx) rfl))) QO) Zx rfl) QO QO QO QO) Zx rfl) rfl)))) Zl) (@Z2 _ _ _ (@Y6 _ _ _ _ (@Ys _ _ _ _ _ (@Zj _ _ _ _ _ Zk (@Zj _ _ _ _ _ (@Y3 _ _ _ _ _ _ _ Zh (@Z9 _ _ _ _ (@V4 _ _ [1,4,999] rfl)) (cF Zt hr (Zf (pv 0) (Zf Zq Zx))) (λ_ _=>rfl)) (Zf (cF Yf hr (Zf (pv 0) (Zf (qo B7 (pv 1) Zq) Zx))) Zx) rfl) rfl))))))))))),?_⟩
 refine⟨_,rfl,l,6,r+c+1,rfl,(hc ▸ fe:Fd (r+(c+2)) H l),by decide,by decide,λx H1 x0 x1 t1=>?_⟩;refine⟨_,rfl,rfl,_,rfl,?_⟩;refine Vb (λc0=>Vi rfl ?_) (λc0=>⟨_,rfl,rfl,_,rfl,Vb (λc1=>?_) (λc1=>?_)⟩)
 .refine⟨_,rfl,_,_,rfl,rfl,pw,_,_,rfl,rfl,pw,_,rfl,(sz 6),λL hL=>?_⟩;have s2:=Zv.lay (o:=.lst (ITI.map V.int)) hL;have t2:=t1.same s2;refine⟨_,rfl,l,6,r+c,rfl,t2.feed,by decide,by decide,λy H3 y0 y1 t3=>?_⟩;refine hide λ_ Z1=>?_;obtain⟨i,mi,ei⟩:=Di ITI y0 y1;refine Z1 ?_;refine⟨L,_,_,_,rfl,rfl,Zu.of (t3.keep _ _ (t1.feed.ne hL) Zz),ei,(sz 2),λe he=>?_⟩;have b:=Zqp i mi;exact q _ (.tup [.str "whole",.int i]) _ ⟨e,_,rfl,Zp.of Zz,_,_,rfl,rfl,_,_,rfl,rfl,rfl⟩ (Xi b.1 b.2) (((t2.trans t3).lay he).m)
 .refine⟨_,rfl,_,_,rfl,rfl,pw,_,_,rfl,rfl,pw,_,rfl,(sz 6),λL hL=>?_⟩;have s2:=Zv.lay (o:=.lst (ITI.map V.int)) hL;have t2:=t1.same s2;refine⟨_,rfl,l,6,r+c,rfl,t2.feed,by decide,by decide,λy H3 y0 y1 t3=>?_⟩;refine hide λ_ Yz=>?_;obtain⟨i,mi,ei⟩:=Di ITI y0 y1;refine Yz ?_;refine⟨L,_,_,_,rfl,rfl,Zu.of (t3.keep _ _ (t1.feed.ne hL) Zz),ei,(sz 2),λe he=>?_⟩;have b:=Zqp i mi;exact q _ (.tup [.str "whole",.int i]) _ ⟨e,_,rfl,Zp.of Zz,_,_,rfl,rfl,_,_,rfl,rfl,rfl⟩ (Xi b.1 b.2) (((t2.trans t3).lay he).m)
 refine⟨_,rfl,rfl,_,rfl,?_⟩;refine Vb (λc2=>?_) (λc2=>?_)
 .refine⟨(sz 3),λL hL=>?_⟩;have s2:=Zv.lay (o:=.lst (ITS.map V.str)) hL;have t2:=t1.same s2;refine⟨_,rfl,l,3,r+c,rfl,t2.feed,by decide,by decide,λy H3 y0 y1 t3=>?_⟩;refine hide λ_ Yq=>?_;obtain⟨i,mi,ei⟩:=Pl ITS y0 y1;refine Yq ?_;refine⟨L,_,_,_,rfl,rfl,Zu.of (t3.keep _ _ (t1.feed.ne hL) Zz),ei,(sz 2),λe he=>?_⟩;exact q _ (.tup [.str "text",.str i]) _ ⟨e,_,rfl,Zp.of Zz,_,_,rfl,rfl,_,_,rfl,rfl,rfl⟩ (Zkq (its_ok i mi)) (((t2.trans t3).lay he).m)
 cases k with
 | zero=>exact absurd (Sd rfl) c1
 | succ k' =>
  have hc:3*IB k'+3=c+2:=hc;refine⟨_,rfl,l,3,r+c,rfl,t1.feed,by decide,by decide,λmany H2 m0 m3 t2=>⟨many,rfl,by omega,by omega,λD fp sx hD=>?_⟩⟩;have t12:=t1.trans t2;have nD:=t12.feed.ne hD;have hD0:=t12.free hD
  refine Mz (n:=many.toNat) (λi ys j H5=>∃us:List Th,(∃o,j=[o,some (.ref l),some (.int ((k'+1:Nat):Int))])/\(∀u∈us,GI k' u)/\us.length=i/\Zw K H5 us ys/\Ye l (r+1+IB k'+(2-i)*IB k') H H5/\H5 D=some (.lst ys))
   ⟨[],⟨_,rfl⟩,λu mu=>absurd mu V9,rfl,rfl,(t12.put hD0 (fe.far hD0)).m,Zz⟩ ?_ ?_ ?_
  .intro i ys j H5 hi hI4_;refine hide λ_ Yy=>?_;obtain⟨us,_,_,_,_,_,h5⟩:=hI4_;refine Yy ?_;exact h5
  .intro i ys j H5 hi vh;refine hide λ_ Yg=>?_;obtain⟨us,⟨o,rfl⟩,gu,lu,ae,t5,h5⟩:=vh;refine Yg ?_;have eb:(2-i)*IB k'=(2-(i+1))*IB k'+IB k':=Xg QU;refine Um ?_;refine⟨_,rfl,_,rfl,_,_,rfl,rfl,l,r+1+IB k'+(2-(i+1))*IB k',?_,t5.feed.m,λv u H6 iv gv t6=>?_⟩
   .show [V.ref l,V.int (((k'+1:Nat):Int)-1)]=_;rw[show ((k'+1:Nat):Int)-1=(k':Int) by omega]
   have h6:=t6.keep _ _ nD h5;have uS:Ui K H6 (upd H6 D (.lst (ys++[v]))):=Zi h6;refine⟨h6,?_,us++[u],⟨_,rfl⟩,?_,?_,Zw.append (Zw.up ((t6.upT t5.feed).trans uS) _ _ ae) (Zw.one (Zg.up uS _ _ iv)),(t5.trans t6).put hD0 (fe.far hD0),Zz⟩
   .rw[<-ae.length];exact Yx QU
   .intro z mz;rcases M6.mp mz with mz | mz
    .exact gu z mz
    .rw[Nw.mp mz];exact gv
   .rw[Nl,ZU];omega
  .intro ys j H5 vc;refine hide λ_ Yc=>?_;obtain⟨us,⟨o,rfl⟩,gu,lu,ae,t5,h5⟩:=vc;refine Yc ?_;have ly:=ae.length;have l2:us.length<=2:=QU
   have t5:=t5.mono (r':=r+1+IB k') QU;refine⟨_,rfl,rfl,_,rfl,?_⟩;refine Vb (λc3=>?_) (λc3=>?_)
   .refine⟨_,rfl,D,ys,rfl,.inl ⟨Zu.of h5,λp1 Ho=>⟨(sz 2),λp hp=>?_⟩⟩⟩;have s8:=Zv.lay (o:=.tup ys) Ho;have s9:=Zv.lay (o:=.tup [.str "row",.ref p1]) hp;refine q _ (.tup [.str "row",.tup us]) _ ⟨p,_,rfl,Zp.of Zz,_,_,rfl,rfl,_,_,rfl,⟨p1,ys,rfl,s9.up _ _ (Zp.of Zz),Zw.up (s8.trans s9).upT _ _ ae⟩,rfl⟩ ?_ ((t5.same (s8.trans s9)).m);exact gi_row gu l2
   .refine⟨_,rfl,rfl,_,rfl,?_⟩;refine Vb (λc4=>?_) (λc4=>?_)
    .refine⟨_,rfl,D,_,rfl,.inl (Zu.of h5),(ys.length:Int),rfl,by omega,by omega,λD2 fp2 sx2 Nq=>?_⟩;have nD2:D2≠D:=λz=>by rw[z,h5]at Nq;cases Nq
     refine Mz (n:=((ys.length:Nat):Int).toNat) (λi zs j H7=>(∃o',j=[o',some (.ref D)])/\Zw K H7 ((List.zipWith (λa b=>Th.tup [a,b]) (ITN.map Th.str) us).take i) zs/\Zv H5 H7/\H7 D2=some (.lst zs)) ⟨⟨_,rfl⟩,rfl,(Zv.refl H5).put Nq,Zz⟩ ?_ ?_ ?_
     .intro i zs j H7 hi Fq;refine hide λ_ Yr=>?_;obtain⟨_,_,_,h7⟩:=Fq;refine Yr ?_;exact h7
     .intro i zs j H7 hi Ob;refine hide λ_ Yo=>?_;obtain⟨⟨o',rfl⟩,az,s7,h7⟩:=Ob;refine Yo ?_;have hi2:i<us.length:=QU
      have hi3:i<ITN.length:=by show i<3;omega
      refine Um ?_;refine⟨(sz 3),λL hL=>?_⟩;have sL:=Zv.lay (o:=.lst (ITN.map V.str)) hL;refine hide λ_ Z1=>?_;obtain⟨nm,mn,en⟩:∃nm,ITN[i]?=some nm/\Ll (ITN.map V.str) (0+(i:Int))=some (V.str nm):=⟨ITN[i],Bh hi3,by rw[Int.zero_add];exact Vj (by rw[Jb,Bh hi3];rfl)⟩;obtain⟨u,eu⟩:∃u,us[i]?=some u:=⟨_,Bh hi2⟩;obtain⟨vv,ev,iv⟩:=Zj0 ae eu;refine Z1 ?_;have evI:Ll ys (0+(i:Int))=some vv:=by rw[Int.zero_add];exact Vj ev
      refine⟨_,rfl,L,_,_,_,rfl,rfl,Zu.of Zz,en,_,rfl,_,rfl,D,_,_,_,rfl,rfl,Zu.of (sL _ _ (s7 _ _ h5)),evI,(sz 2),λe2 h2=>?_⟩;have sE:=Zv.lay (o:=.tup [V.str nm,vv]) h2;have h8:=(sL.trans sE) _ _ h7;have uS:Ui K _ (upd _ D2 (.lst (zs++[.ref e2]))):=Zi h8
      have ez:(List.zipWith (λa b=>Th.tup [a,b]) (ITN.map Th.str) us)[i]?=some (.tup [Th.str nm,u]):=by
       rw[List.getElem?_zipWith,Jb,mn,eu];rfl
      refine⟨h8,?_,⟨_,rfl⟩,?_,(s7.trans (sL.trans sE)).put Nq,Zz⟩
      .rw[<-az.length,Cs];exact Yx (by rw[L0z];omega)
      .rw[Zs ez];exact Zw.append (Zw.up ((sL.trans sE).upT.trans uS) _ _ az) (Zw.one (Zg.up uS _ _ ⟨e2,_,rfl,Zp.of Zz,_,_,rfl,rfl,_,_,rfl,Zg.up (s7.trans (sL.trans sE)).upT _ _ iv,rfl⟩))
     .intro zs j H7 Nf;refine hide λ_ Yz=>?_;obtain⟨_,az,s7,h7⟩:=Nf;refine Yz ?_
      have lz:(List.zipWith (λa b=>Th.tup [a,b]) (ITN.map Th.str) us).length<=((ys.length:Nat):Int).toNat:=by
       rw[L0z];omega
      rw[T0l lz]at az;refine⟨D2,zs,rfl,.inl ⟨Zu.of h7,λp1 Ho=>⟨(sz 2),λp hp=>?_⟩⟩⟩;have s8:=Zv.lay (o:=.tup zs) Ho;have s9:=Zv.lay (o:=.tup [.str "map",.ref p1]) hp;refine q _ (.tup [.str "map",.tup (List.zipWith (λa b=>Th.tup [a,b]) (ITN.map Th.str) us)]) _ ⟨p,_,rfl,Zp.of Zz,_,_,rfl,rfl,_,_,rfl,⟨p1,zs,rfl,s9.up _ _ (Zp.of Zz),Zw.up (s8.trans s9).upT _ _ az⟩,rfl⟩ ?_ (((t5.same s7).same (s8.trans s9)).m);rw[km];exact gi_map (λp mp=>itn_ok _ (List.of_mem_zip mp).1) (λp mp=>gu _ (List.of_mem_zip mp).2) (by rw[List.length_zip];omega)
    .refine⟨_,rfl,rfl,_,rfl,?_⟩;refine Vb (λc5=>?_) (λc5=>?_)
     .refine⟨_,rfl,D,_,rfl,.inl (Zu.of h5),(ys.length:Int),rfl,by omega,by omega,λD2 fp2 sx2 Nq=>?_⟩;have nD2:D2≠D:=λz=>by rw[z,h5]at Nq;cases Nq
      refine Mz (n:=((ys.length:Nat):Int).toNat) (λi zs j H7=>(∃o',j=[o',some (.ref D)])/\Zw K H7 ((List.zipWith (λa b=>Th.tup [a,b]) (ITR.map Th.int) us).take i) zs/\Zv H5 H7/\H7 D2=some (.lst zs)) ⟨⟨_,rfl⟩,rfl,(Zv.refl H5).put Nq,Zz⟩ ?_ ?_ ?_
      .intro i zs j H7 hi Td;refine hide λ_ Yq=>?_;obtain⟨_,_,_,h7⟩:=Td;refine Yq ?_;exact h7
      .intro i zs j H7 hi Oa;refine hide λ_ Yy=>?_;obtain⟨⟨o',rfl⟩,az,s7,h7⟩:=Oa;refine Yy ?_;have hi2:i<us.length:=QU
       have hi3:i<ITR.length:=by show i<3;omega
       refine Um ?_;refine⟨(sz 3),λL hL=>?_⟩;have sL:=Zv.lay (o:=.lst (ITR.map V.int)) hL;refine hide λ_ Yg=>?_;obtain⟨nm,mn,en⟩:∃nm,ITR[i]?=some nm/\Ll (ITR.map V.int) (0+(i:Int))=some (V.int nm):=⟨ITR[i],Bh hi3,by rw[Int.zero_add];exact Vj (by rw[Jb,Bh hi3];rfl)⟩;obtain⟨u,eu⟩:∃u,us[i]?=some u:=⟨_,Bh hi2⟩;obtain⟨vv,ev,iv⟩:=Zj0 ae eu;refine Yg ?_;have evI:Ll ys (0+(i:Int))=some vv:=by rw[Int.zero_add];exact Vj ev
       refine⟨_,rfl,L,_,_,_,rfl,rfl,Zu.of Zz,en,_,rfl,_,rfl,D,_,_,_,rfl,rfl,Zu.of (sL _ _ (s7 _ _ h5)),evI,(sz 2),λe2 h2=>?_⟩;have sE:=Zv.lay (o:=.tup [V.int nm,vv]) h2;have h8:=(sL.trans sE) _ _ h7;have uS:Ui K _ (upd _ D2 (.lst (zs++[.ref e2]))):=Zi h8
       have ez:(List.zipWith (λa b=>Th.tup [a,b]) (ITR.map Th.int) us)[i]?=some (.tup [Th.int nm,u]):=by
        rw[List.getElem?_zipWith,Jb,mn,eu];rfl
       refine⟨h8,?_,⟨_,rfl⟩,?_,(s7.trans (sL.trans sE)).put Nq,Zz⟩
       .rw[<-az.length,Cs];exact Yx (by rw[L0z];omega)
       .rw[Zs ez];exact Zw.append (Zw.up ((sL.trans sE).upT.trans uS) _ _ az) (Zw.one (Zg.up uS _ _ ⟨e2,_,rfl,Zp.of Zz,_,_,rfl,rfl,_,_,rfl,Zg.up (s7.trans (sL.trans sE)).upT _ _ iv,rfl⟩))
      .intro zs j H7 Ou;refine hide λ_ Yc=>?_;obtain⟨_,az,s7,h7⟩:=Ou;refine Yc ?_
       have lz:(List.zipWith (λa b=>Th.tup [a,b]) (ITR.map Th.int) us).length<=((ys.length:Nat):Int).toNat:=by
        rw[L0z];omega
       rw[T0l lz]at az;refine⟨D2,zs,rfl,.inl ⟨Zu.of h7,λp1 Ho=>⟨(sz 2),λp hp=>?_⟩⟩⟩;have s8:=Zv.lay (o:=.tup zs) Ho;have s9:=Zv.lay (o:=.tup [.str "rec",.ref p1]) hp;refine q _ (.tup [.str "rec",.tup (List.zipWith (λa b=>Th.tup [a,b]) (ITR.map Th.int) us)]) _ ⟨p,_,rfl,Zp.of Zz,_,_,rfl,rfl,_,_,rfl,⟨p1,zs,rfl,s9.up _ _ (Zp.of Zz),Zw.up (s8.trans s9).upT _ _ az⟩,rfl⟩ ?_ (((t5.same s7).same (s8.trans s9)).m);rw[kf];exact gi_rec (λp mp=>itr_ok _ (List.of_mem_zip mp).1) (List.Pairwise.sublist (kj _ _) QI) (λp mp=>gu _ (List.of_mem_zip mp).2) (by rw[List.length_zip];omega)
     .refine⟨(sz 3),λL hL=>?_⟩;have sL:=Zv.lay (o:=.lst (ITA.map V.int)) hL;have t6:=t5.same sL;refine⟨_,rfl,l,3,r+IB k',rfl,t6.feed.m,by decide,by decide,λy H7 y0 y1 t7=>?_⟩;refine hide λ_ Yr=>?_;obtain⟨n',mi,ei⟩:=Di ITA y0 y1;refine Yr ?_;refine⟨L,_,_,_,rfl,rfl,Zu.of (t7.keep _ _ (t5.feed.ne hL) Zz),ei,?_⟩;refine⟨_,rfl,_,rfl,_,_,rfl,rfl,l,r,?_,t7.feed,λv u H8 iv gv t8=>⟨(sz 3),λp hp=>?_⟩⟩
      .show [V.ref l,V.int (((k'+1:Nat):Int)-1)]=_;rw[show ((k'+1:Nat):Int)-1=(k':Int) by omega]
      have s9:=Zv.lay (o:=.tup [.str "arm",.int n',v]) hp;refine q _ (.tup [.str "arm",.int n',u]) _ ⟨p,_,rfl,Zp.of Zz,_,_,rfl,rfl,_,_,rfl,rfl,_,_,rfl,Zg.up s9.upT _ _ iv,rfl⟩ ?_ (((t6.trans t7).trans t8).same s9);exact gi_arm (ita_ok n' mi) gv
abbrev Vn:Stmt:=top 40
noncomputable abbrev U7:ZF:=["_law_make_here","_law_name","_law_value_here","_law_shape","_law_inner","_law_parts_here","_law_field","_law_one"]
theorem Va:Ze U7 XM (Zb Vn):=by trivial
inductive qu(K:PySem.W.Frag)(W:List (Str×Yn)->Str->Th->Th->Prop)(vs:ZZ)(H:Hp)(Q:VK):Prop
 | mk(e S:Addr)(ms:List (Str×Yn))(x:Str)(u w:Th)(v:V)(Vx:vs=[.ref e,.str x,v])(Vz:M5 K H e S ms)(Vp:Nd ms)(Jn:W ms x u w)(Mf:Zg K H u v)(Co:∀v' H',Zg K H' w v'->Zv H H'->Q v' H')
def Jl(K:PySem.W.Frag)(W:List (Str×Yn)->Str->Th->Th->Prop):Sp:=λvs H Q _=>qu K W vs H Q
theorem Kj(l:List Ent)(e:Ent):kept (l++[e])=kept l++(if lfo e=true then [] else [(e.f.n,e.w)]):=by
 unfold kept;rw[List.filter_append,Gw]
 congr 1
 cases h:lfo e<;>simp[h]
theorem b8{own:Bool}{l:List Ent}{os:List (Int×Th)}(ho:Zka own (l.map Ent.f) os)(nd:((l.map Ent.f).map Vk.n).Nodup):((kept l++os).map (·.1)).Nodup:=by
 have e:(kept l).map (·.1)=((l.filter λe=>!lfo e).map Ent.f).map Vk.n:=by
  unfold kept;rw[List.map_map,List.map_map]
  rfl
 have sb:((kept l).map (·.1)).Sublist ((l.map Ent.f).map Vk.n):=by
  rw[e];exact(List.filter_sublist.map _).map _
 rw[Gw];refine List.nodup_append.mpr ⟨nd.sublist sb,ho.nd,λa ma b mb z=>?_⟩;obtain⟨o,mo,rfl⟩:=G3.mp mb;exact(ho.ok o mo).1 (z ▸ sb.subset ma)
def DR(K:W.Frag)(H:Hp)(q:Key×V)(p:Int×Th):Prop:=q.1=.inl p.1/\Zg K H p.2 q.2
theorem dn{K:W.Frag}{H:Hp}:∀{XQ:List (Key×V)} {l:List (Int×Th)},Paired (DR K H) XQ l->XQ.map (·.1)=(l.map (·.1)).map Sum.inl
 | _,_,.nil=>rfl
 | _,_,.cons r t=>by rw[Mu,Mu,Mu,r.1,dn t]
theorem dg{K:W.Frag}{H:Hp}{XQ:List (Key×V)}{l:List (Int×Th)}(h:Paired (DR K H) XQ l){n:Int}{t:Th}{v:V}(i:Zg K H t v):Paired (DR K H) (XQ++[(.inl n,v)]) (l++[(n,t)]):=by
 induction h with
 | nil=>exact .cons ⟨rfl,i⟩ .nil
 | cons r t ih=>exact .cons r ih
theorem Lx{K:W.Frag}{H:Hp}{n:Int}:∀{XQ:List (Key×V)} {l:List (Int×Th)},Paired (DR K H) XQ l->n∉l.map (·.1)->Dn XQ (.inl n)=none
 | _,_,.nil,_=>rfl
 | (k,v)::_,p::_,.cons r t,h=>by
  have e:¬ ((k,v):Key×V).1=Sum.inl n:=λz=>h (by
   have rk:k=.inl p.1:=r.1;rw[show ((k,v):Key×V).1=k from rfl,rk]at z;rw[<-Sum.inl.inj z];exact Br)
  rw[Nv e];exact Lx t λm=>h (Ck _ m)
theorem Av{K:W.Frag}{H:Hp}{p:Int×Th}:∀{XQ:List (Key×V)} {l:List (Int×Th)},Paired (DR K H) XQ l->(l.map (·.1)).Nodup->p∈l->∃v,Dn XQ (.inl p.1)=some v/\Zg K H p.2 v
 | _,_,.nil,_,h=>absurd h V9
 | (k,v)::_,q::_,.cons r t,nd,h=>by
  have rk:k=.inl q.1:=r.1;subst rk;rw[Mu,List.nodup_cons]at nd;by_cases z:q.1=p.1
  .have:q=p:=by
    rcases U8.mp h with h | h
    .exact h.symm
    .exact absurd (by rw[z];exact List.mem_map_of_mem h) nd.1
   subst this;exact⟨v,Bu rfl,r.2⟩
  .have e:¬ ((Sum.inl q.1,v):Key×V).1=Sum.inl p.1:=λy=>z (Sum.inl.inj y);rw[Nv e];rcases U8.mp h with h | h
   .exact absurd (by rw[h]) z
   .exact Av t nd.2 h
theorem Qa{K:W.Frag}{H:Hp}:∀{XQ:List (Key×V)} {l:List (Int×Th)} {a:List (Key×V)} {b:List (Int×Th)},Paired (DR K H) XQ l->Paired (DR K H) a b->((b++l).map (·.1)).Nodup->Paired (DR K H) (XQ.foldl (λacc kv=>putK acc kv.1 kv.2) a) (b++l)
 | _,_,a,b,.nil,h,_=>by rw[ZO];exact h
 | (k,v)::XQ,p::l,a,b,.cons r t,h,nd=>by
  have rk:k=.inl p.1:=r.1;subst rk
  have nn:p.1∉b.map (·.1):=λm=>by
   rw[Gw,Mu]at nd;exact(List.nodup_append.mp nd).2.2 _ m _ Br rfl
  have e:b++p::l=(b++[p])++l:=by rw[ZA];rfl
  rw[List.foldl_cons,Pt v (Lx h nn),e];rw[e]at nd;exact Qa t (dg h r.2) nd
theorem df{K:W.Frag}{H:Hp}:∀{l:List (Int×Th)} {ys:ZZ},Zw K H (l.map U2) ys->∃XQ:List (Key×V),Paired (DR K H) XQ l/\ys.length=XQ.length/\∀(j:Nat) (k:Key) (v:V),XQ[j]?=some (k,v)->∃p,ys[j]?=some (.ref p)/\Zp K H p [kV k,v]
 | [],ys,h=>by
  cases Zc h;exact⟨[],.nil,rfl,λj k v e=>by simp at e⟩
 | p::l,ys,h=>by
  obtain⟨v,r,rfl,i,a⟩:=h;obtain⟨XQ,pd,ln,at'⟩:=df a;obtain⟨b,zs,rfl,hb,az⟩:=i;obtain⟨z1,z2,rfl,k1,k2⟩:=U5 az;cases Zc k1;refine⟨(.inl p.1,z2)::XQ,.cons ⟨rfl,k2⟩ pd,by simp[ln],λj k v e=>?_⟩;cases j with
  | zero =>
   simp only[List.getElem?_cons_zero,Option.some.injEq,Prod.mk.injEq]at e;obtain⟨rfl,rfl⟩:=e;exact⟨b,rfl,hb⟩
  | succ j =>
   simp only[List.getElem?_cons_succ]at e ⊢;exact at' j k v e
theorem DR.upO{K:W.Frag}{H H':Hp}{XQ:List (Key×V)}{l:List (Int×Th)}(h:Paired (DR K H) XQ l)(u:UpO K H H'):Paired (DR K H') XQ l:=Paired.mapP h λ_ _ z=>⟨z.1,Wp u _ _ z.2⟩
theorem um{a b l:ZC}(pa:a.Perm l)(pb:b.Perm l)(sa:a.Pairwise (·<=·))(sb:b.Pairwise (·<=·)):a=b :=
 List.Perm.eq_of_pairwise (λx y _ _ h1 h2=>Int.le_antisymm h1 h2) sa sb (pa.trans pb.symm)
theorem wr_gd'{own:Bool}{ms:List (Str×Yn)}(mo:Nd ms):∀{n:Nat} {x:Str} {u w:Th},cj own ms n x u w->Gd (CW n) (10+3*n) u
 | 0,_,_,_,h=>False.elim h
 | n+1,_,_,_,h=>(Wr.gd mo (n:=n) h).mono (Yt _) QU
theorem pv_gd{s:Yn}{d:Th}(h:Pv s d):Gd 2002 1 d:=by
 cases s with
 | whole lo hi =>
  cases d with
  | int i=>exact(Tt h.1 h.2).mono QI QI
  | _=>exact h.elim
 | truth =>
  cases d with
  | bl b=>exact(dy b).mono QI QI
  | _=>exact h.elim
 | text k =>
  cases d with
  | str z=>exact(Zgh h).mono QI QI
  | _=>exact h.elim
 | row b y k =>
  cases d with
  | tup ts =>
   cases ts with
   | nil=>exact(N9 (c:=0) (d:=0) (n:=0) (ts:=[]) (λt m=>absurd m V9) (Yt _)).mono QI QI
   | cons _ _=>exact h.elim
  | _=>exact h.elim
 | rcd _ _=>cases d<;>exact h.elim
 | cho _ _ _=>cases d<;>exact h.elim
theorem jd{ms:List (Str×Yn)}{fs:List Vk}(pr:V0 ms fs){f:Vk}(mf:f∈fs):Gd 2010 2 (.tup f.d.toList):=by
 have:∀t∈f.d.toList,Gd 2002 1 t:=λt m=>by
  cases ed:f.d with
  | none=>rw[ed]at m;exact absurd m V9
  | some d =>
   rw[ed]at m;rw[Nw.mp m];exact(pr.d f mf d ed).elim λs z=>pv_gd z.2
 exact(N9 (n:=1) this (by cases f.d with
  | none=>exact Dc _
  | some _=>exact Yt _)).mono QI QI
theorem nd_atI{cs:ZC}{i:Nat}{n:Int}(nd:cs.Nodup)(en:cs[i]?=some n):n∉cs.take i:=λz=>by
 have h:=nd.sublist (List.take_sublist (i+1) cs);rw[Zs en]at h;exact(List.nodup_append.mp h).2.2 n z n Br rfl
theorem Fv{nb:Int}:∀{fs:List Vk},nb∉fs.map Vk.n->(fs.filter λf=>decide (f.n=nb))=[]
 | [],_=>rfl
 | f::fs,h=>by
  rw[Mu]at h;have h1:¬ f.n=nb:=λz=>h (by rw[z];exact Br);rw[List.filter_cons,if_neg (by simpa using h1)];exact Fv λm=>h (Ck _ m)
theorem O1{g:Vk}:∀{fs:List Vk},(fs.map Vk.n).Nodup->g∈fs->(fs.filter λf=>decide (f.n=g.n))=[g]
 | [],_,m=>absurd m V9
 | f::fs,nd,m=>by
  rw[Mu,List.nodup_cons]at nd;rcases U8.mp m with rfl | m
  .rw[List.filter_cons,if_pos QE,Fv nd.1]
  .have h1:¬ f.n=g.n:=λz=>nd.1 (by rw[z];exact List.mem_map_of_mem m);rw[List.filter_cons,if_neg (by simpa using h1)];exact O1 nd.2 m
theorem N3{k n:Nat}(hn:n<=3){own:Bool}(F:Fu K "_law_item_of" Vn f fd)(m:Bn mg)(Vl:Fn P w K mg base k "_law_item_of" XM (Jl K λms=>cj own ms n)):Yk P w K mg base Mm (k+1) f fd XM (Jl K λms=>Wr own ms n):=by
 refine F.ok Va (λvs H Q E h=>?_) λ_ A _ s H vs Q E hr h=>?_
 .obtain⟨e,S,ms,x,u,w,v,rfl,_⟩:=h
  rfl
 obtain⟨e,S,ms,x,u,wt,v,rfl,mk,mo,hw,iu,q⟩:=h;obtain⟨sh,es,hw⟩:=hw.out;obtain⟨v0,he⟩:=mk.e;obtain⟨XQ,sv,hS,ev,isv⟩:=mk.get es;refine⟨_,(@Zd _ _ _ _ _ (sI 3 Va.nd (@Mn _ _ _ _ _ _ (Jo hr) (iX Zy (pv 0) Zq) (pv 1) (λ_ _=>rfl))) (qs (qi (Uw Df (iX Zy (pv 3) Zq) (qt (Zf Zk (Zf Zk Zx))) rfl) (q1 (qr (qt (Zf Zk (Zf (cT Cj m.int tq (Zf (pv 2) Zx)) Zx))))) Zl) (qs (qi (tQ Za (iX Zy (pv 3) Zq) Zk) (q1 (qr (qt (Zf Zk (Zf (pv 2) Zx))))) Zl) (qs (qi (tQ Za (iX Zy (pv 3) Zq) Zk) (q1 (qr (qt (Zf Zk (Zf (cT Zr m.tuple Yd (Zf (pC U7 (Zb Vn) ["_law_one","_law_make_here","_law_shape"] [none,some 0,some 3] (qI (pv 2)) (λ_ _ _=>(nI 0)) (λ_ _ _=>Yp) (λ_ _ _=>(cF Vl hr (Zf (pv 1) (Zf (iX Zy (pv 2) Zq) (Zf (pv 0) Zx)))))) Zx)) Zx))))) Zl) (qs (qi (tQ Za (iX Zy (pv 3) Zq) Zk) (q1 (qr (qt (Zf Zk (Zf (cT Zr m.tuple Yd (Zf (pC U7 (Zb Vn) ["_law_key","_law_one","_law_make_here","_law_shape"] [none,none,some 0,some 3] (qI (pv 2)) (λ_ _ _=>(De rfl (Z3 (nI 0) (Z3 (nI 1) Ju)))) (λ_ _ _=>Yp) (λ_ _ _=>(qt (Zf (pv 0) (Zf (cF Vl hr (Zf (pv 2) (Zf (iX Zy (pv 3) Zq) (Zf (pv 1) Zx)))) Zx))))) Zx)) Zx))))) Zl) (qs (qi (tQ Za (iX Zy (pv 3) Zq) Zk) (qs (@V2 _ 4 U7 (Zb Vn) ["_law_arm","_law_value_here"] [none,some 2] _ _ _ _ _ _ _ _ _ _ _ _ _ Va.nd rfl QO rfl (qI (iX Zy (pv 3) Zq)) ⟨rfl,rfl,by decide +kernel,by decide +kernel⟩ (λ_ _ _=>(nI 0)) (λ_ _ _=>(@Gn _ _ _ (tQ Za (iX Zy (pv 0) Zq) (iX Zy (pv 1) Zq)))) (λ_ _ _=>(iX Zy (pv 0) Zq)) QO QO QO) (q1 (qr (qt (Zf Zk (Zf (iX Zy (pv 2) Zq) (Zf (@Ug _ _ _ _ _ _ _ _ (tQ Ng (pv 4) (ql Zx)) (iX Zy (pv 2) Zq) (cF Vl hr (Zf (pv 0) (Zf (iX Zh (pv 4) Zq) (Zf (iX Zy (pv 2) Zq) Zx))))) Zx))))))) Zl) (qs (sI 5 Va.nd (cT (Mq rfl) m.dict Ar (Zf (iX Zy (pv 2) Zq) Zx))) (qs (Jj PassesOwn.never rfl (@fm _ _ _ _ _ _ _ _ _ rfl m.zip (Zf (iX Zy (pv 3) Zq) (Zf (iX Zy (pv 2) Zq) Zx)) QO QO) (De rfl (Z3 (nJ 6 Va.nd) (Z3 (nJ 7 Va.nd) Ju))) (q1 (qi (tQ Zx0 (cB (Bx hr) m.repr An (Zf (qt (Zf (pv 7) Zx)) Zx)) (cB (Bx hr) m.repr An (Zf (iX Zy (pv 6) Zq) Zx))) (q1 (@Qn _ _ _ _ _ _ _ _ _ (Jo hr) (pv 5) (iX Zy (pv 6) Zq) (cF Vl hr (Zf (pv 0) (Zf (iX Zy (pv 6) Zq) (Zf (pv 7) Zx)))) rfl)) Zl))) (q1 (qr (qt (Zf Zk (Zf (cT Zr m.tuple Yd (Zf (pC U7 (Zb Vn) ["_law_number","_law_parts_here"] [none,some 5] (qL (cB (Af rfl) m.sorted zm (Zf (pv 5) Zx))) (λ_ _ _=>(nI 0)) (λ_ _ _=>Yp) (λ_ _ _=>(qt (Zf (pv 0) (Zf (@Mn _ _ _ _ _ _ (Jo hr) (pv 1) (pv 0) (λ_ _=>rfl)) Zx))))) Zx)) Zx))))))))))))),?_⟩;refine⟨_,rfl,e,_,_,_,rfl,rfl,he,Vq,_,rfl,S,_,rfl,(show Ue H S (kV (.inr x)) (some sv) from ev ▸ Pd hS (.inr x)),?_⟩;have ug:=isv;cases sh with
 | whole lo hi =>
  refine hide λ_ Z1=>?_;obtain⟨pu,rfl⟩:=hw;obtain⟨a,ws,rfl,ha,at'⟩:=isv;obtain⟨w1,w2,w3,rfl,i1,i2,i3⟩:=J4 at';cases Zc i1;refine Z1 ?_;refine⟨_,rfl,a,_,_,_,rfl,rfl,ha,Yw,(sz 2),λe0 h0=>?_⟩;have s0:=Zv.lay (o:=.tup [.str "whole",.str "truth"]) h0;refine⟨e0,_,rfl,.inr (Zp.of Zz),rfl,rfl,_,rfl,iY ?_⟩;have ha:=s0.up _ _ ha;have Dy:=s0.upT (K:=K);refine hide λ_ Yz=>?_
  obtain⟨i,rfl⟩:∃i,u=.int i:=by
   cases u with
   | int i=>exact⟨i,rfl⟩
   | _=>exact pu.elim
  cases Zc iu;refine Yz ?_;refine⟨_,rfl,.inl ⟨i,rfl,(sz 2),λe2 h2=>?_⟩⟩;have s2:=Zv.lay (o:=.tup [.str "whole",.int i]) h2;exact q _ _ ⟨e2,_,rfl,Zp.of Zz,_,_,rfl,rfl,_,_,rfl,rfl,rfl⟩ (s0.trans s2)
 | truth =>
  refine hide λ_ Yq=>?_;obtain⟨b,rfl,rfl⟩:=hw;cases Zc iu;obtain⟨a,ws,rfl,ha,at'⟩:=isv;obtain⟨w1,rfl,i1⟩:=Sv at';cases Zc i1;refine Yq ?_;refine⟨_,rfl,a,_,_,_,rfl,rfl,ha,Yw,(sz 2),λe0 h0=>?_⟩;have s0:=Zv.lay (o:=.tup [.str "whole",.str "truth"]) h0;refine⟨e0,_,rfl,.inr (Zp.of Zz),rfl,rfl,_,rfl,iY ?_⟩;have ha:=s0.up _ _ ha;have Dy:=s0.upT (K:=K);refine⟨_,rfl,.inr ⟨b,rfl,(sz 2),λe2 h2=>?_⟩⟩;have s2:=Zv.lay (o:=.tup [.str "whole",.int (if b=true then 1 else 0)]) h2;exact q _ _ ⟨e2,_,rfl,Zp.of Zz,_,_,rfl,rfl,_,_,rfl,rfl,rfl⟩ (s0.trans s2)
 | text k =>
  refine hide λ_ Yy=>?_;obtain⟨pu,rfl⟩:=hw;obtain⟨a,ws,rfl,ha,at'⟩:=isv;obtain⟨w1,w2,rfl,i1,i2⟩:=U5 at';cases Zc i1;refine Yy ?_;refine⟨_,rfl,a,_,_,_,rfl,rfl,ha,Yw,(sz 2),λe0 h0=>?_⟩;have s0:=Zv.lay (o:=.tup [.str "whole",.str "truth"]) h0;refine⟨e0,_,rfl,.inr (Zp.of Zz),rfl,rfl,_,rfl,iN ?_⟩;have ha:=s0.up _ _ ha;have Dy:=s0.upT (K:=K);refine⟨_,rfl,a,_,_,_,rfl,rfl,ha,Yw,rfl,_,rfl,iY ?_⟩;refine⟨_,rfl,(sz 2),λe2 h2=>?_⟩;have s2:=Zv.lay (o:=.tup [.str "text",v]) h2;exact q _ _ ⟨e2,_,rfl,Zp.of Zz,_,_,rfl,rfl,_,_,rfl,Zg.up (s0.trans s2).upT _ _ iu,rfl⟩ (s0.trans s2)
 | row b y nn =>
  refine hide λ_ Yg=>?_;obtain⟨a,ws,rfl,ha,at'⟩:=isv;obtain⟨w1,w2,w3,rfl,i1,i2,i3⟩:=J4 at';cases Zc i2;refine Yg ?_;cases b with
  | true =>
   refine hide λ_ Yc=>?_;obtain⟨l,l3,hl,rfl,rfl⟩:=hw;cases Zc i1;obtain⟨pa,xs,rfl,G4,axs⟩:=iu;refine Yc ?_;refine⟨_,rfl,a,_,_,_,rfl,rfl,ha,Yw,(sz 2),λe0 h0=>?_⟩;have s0:=Zv.lay (o:=.tup [.str "whole",.str "truth"]) h0;refine⟨e0,_,rfl,.inr (Zp.of Zz),rfl,rfl,_,rfl,iN ?_⟩;have ha:=s0.up _ _ ha;have Dy:=s0.upT (K:=K);refine⟨_,rfl,a,_,_,_,rfl,rfl,ha,Yw,rfl,_,rfl,iN ?_⟩;refine⟨_,rfl,a,_,_,_,rfl,rfl,ha,Yw,rfl,_,rfl,iY ?_⟩;have mk:=mk.up Dy;have G4:=Dy.tup _ _ G4;have axs:=Zw.up Dy _ _ axs;refine⟨_,rfl,pa,rfl,⟨_,G4⟩,λD fp sx hD=>?_⟩;refine Kd (K:=K) (xs:=xs) (ts:=l.map Ai.u) (rs:=l.map Ai.w) (λ_ H5=>Zv _ H5) (λj=>∃o,j=[o,some (.ref e),some (.ref a)]) (λi H5 g=>g.up _ _ G4) axs (by rw[Yv,Yv]) (by rw[Yv];omega) (λi H5 g=>g.upT) (λi H5 ys zs g h=>g.put hD) (Zv.lay hD) ⟨_,rfl⟩ ?_ ?_ ?_
   .rintro i t r v j H5 Q5 et er ⟨o,rfl⟩ g5 it ⟨ys,hy⟩ q5;rw[Jb]at et er;refine hide λ_ Yr=>?_;obtain⟨en,ee,rfl⟩:=Cy.mp et;refine Yr ?_;rw[ee]at er;cases er;refine⟨rfl,?_⟩;refine⟨_,rfl,_,rfl,a,_,_,_,rfl,rfl,g5.up _ _ ha,Vq,_,rfl,e,S,ms,y,en.u,en.w,v,rfl,mk.up g5.upT,mo,(hl en (Cr ee)).2,it,λv' H6 iv g6=>?_⟩;exact q5 v' _ H6 ⟨_,rfl⟩ (g5.trans g6) g6.upT (λo ho=>g6 _ _ ho) iv
   .intro v j H5 A B h;show (if true=true then A (j.set 0 (some v)) H5 else B (j.set 0 (some v)) H5);exact Vi rfl h.2
   .rintro H6 ws j _ g6 h6 a6;refine⟨D,_,rfl,.inl ⟨Zu.of h6,λe1 h1=>⟨(sz 2),λe2 h2=>?_⟩⟩⟩;have s1:=Zv.lay (o:=.tup ws) h1;have s2:=Zv.lay (o:=.tup [.str "row",.ref e1]) h2;exact q _ _ ⟨e2,_,rfl,Zp.of Zz,_,_,rfl,rfl,_,_,rfl,⟨e1,ws,rfl,s2.up _ _ (Zp.of Zz),Zw.up (s1.trans s2).upT _ _ a6⟩,rfl⟩ (s0.trans (g6.trans (s1.trans s2)))
  | false =>
   refine hide λ_ Yo=>?_;obtain⟨l,l3,hl,rfl,rfl⟩:=hw;cases Zc i1;obtain⟨pa,xs,rfl,G4,axs⟩:=iu;refine Yo ?_;refine⟨_,rfl,a,_,_,_,rfl,rfl,ha,Yw,(sz 2),λe0 h0=>?_⟩;have s0:=Zv.lay (o:=.tup [.str "whole",.str "truth"]) h0;refine⟨e0,_,rfl,.inr (Zp.of Zz),rfl,rfl,_,rfl,iN ?_⟩;have ha:=s0.up _ _ ha;have Dy:=s0.upT (K:=K)
   iterate 2 refine⟨_,rfl,a,_,_,_,rfl,rfl,ha,Yw,rfl,_,rfl,iN ?_⟩
   refine⟨_,rfl,a,_,_,_,rfl,rfl,ha,Yw,rfl,_,rfl,iY ?_⟩;have mk:=mk.up Dy;have G4:=Dy.tup _ _ G4;have axs:=Zw.up Dy _ _ axs;refine⟨_,rfl,pa,rfl,⟨_,G4⟩,λD fp sx hD=>?_⟩;refine Kd (K:=K) (xs:=xs) (ts:=l.map λe=>.tup [.str e.k,e.u]) (rs:=l.map λe=>.tup [.str e.k,e.w]) (λ_ H5=>Zv _ H5) (λj=>∃o1 o2,j=[o1,o2,some (.ref e),some (.ref a)]) (λi H5 g=>g.up _ _ G4) axs (by rw[Yv,Yv]) (by rw[Yv];omega) (λi H5 g=>g.upT) (λi H5 ys zs g h=>g.put hD) (Zv.lay hD) ⟨_,_,rfl⟩ ?_ ?_ ?_
   .rintro i t r v j H5 Q5 et er ⟨o1,o2,rfl⟩ g5 it ⟨ys,hy⟩ q5;rw[Jb]at et er;refine hide λ_ Z1=>?_;obtain⟨en,ee,rfl⟩:=Cy.mp et;refine Z1 ?_;rw[ee]at er;cases er;refine hide λ_ Yz=>?_;obtain⟨pb,zs,rfl,hpb,azs⟩:=it;obtain⟨z1,z2,rfl,k1,k2⟩:=U5 azs;cases Zc k1;refine Yz ?_;refine⟨pb,_,rfl,hpb,rfl,_,_,rfl,_,_,rfl,rfl,rfl,?_⟩;refine⟨_,rfl,_,rfl,_,rfl,a,_,_,_,rfl,rfl,g5.up _ _ ha,Vq,_,rfl,e,S,ms,y,en.u,en.w,z2,rfl,mk.up g5.upT,mo,(hl en (Cr ee)).2,k2,λv' H6 iv g6=>⟨(sz 2),λe2 h2=>?_⟩⟩;have s2:=Zv.lay (o:=.tup [.str en.k,v']) h2;exact q5 _ _ _ ⟨_,_,rfl⟩ (g5.trans (g6.trans s2)) (g6.trans s2).upT (λo ho=>(g6.trans s2) _ _ ho) ⟨e2,_,rfl,Zp.of Zz,_,_,rfl,rfl,_,_,rfl,Zg.up s2.upT _ _ iv,rfl⟩
   .intro v j H5 A B h;refine hide λ_ Yq=>?_;obtain⟨a1,x1,e1,e2,e3,y1,r1,e4,y2,r2,e5,e6,_,h⟩:=h;refine Yq ?_;exact⟨a1,x1,e1,e2,e3,y1,r1,e4,y2,r2,e5,e6,(show (if true=true then A ((j.set 0 (some y1)).set 1 (some y2)) H5 else B ((j.set 0 (some y1)).set 1 (some y2)) H5) from Vi rfl h)⟩
   .rintro H6 ws j _ g6 h6 a6;refine⟨D,_,rfl,.inl ⟨Zu.of h6,λe1 h1=>⟨(sz 2),λe2 h2=>?_⟩⟩⟩;have s1:=Zv.lay (o:=.tup ws) h1;have s2:=Zv.lay (o:=.tup [.str "map",.ref e1]) h2;exact q _ _ ⟨e2,_,rfl,Zp.of Zz,_,_,rfl,rfl,_,_,rfl,⟨e1,ws,rfl,s2.up _ _ (Zp.of Zz),Zw.up (s1.trans s2).upT _ _ a6⟩,rfl⟩ (s0.trans (g6.trans (s1.trans s2)))
 | cho fs us o =>
  refine hide λ_ Yy=>?_;obtain⟨a,ws,rfl,ha,at'⟩:=isv;obtain⟨w1,w2,w3,w4,rfl,i1,i2,i3,i4⟩:=Qk at';cases Zc i1;obtain⟨fa,fws,rfl,Mg,afs⟩:=i2;refine Yy ?_;refine⟨_,rfl,a,_,_,_,rfl,rfl,ha,Yw,(sz 2),λe0 h0=>?_⟩;have s0:=Zv.lay (o:=.tup [.str "whole",.str "truth"]) h0;refine⟨e0,_,rfl,.inr (Zp.of Zz),rfl,rfl,_,rfl,iN ?_⟩;have ha:=s0.up _ _ ha;have Dy:=s0.upT (K:=K)
  iterate 3 refine⟨_,rfl,a,_,_,_,rfl,rfl,ha,Yw,rfl,_,rfl,iN ?_⟩
  refine⟨_,rfl,a,_,_,_,rfl,rfl,ha,Yw,rfl,_,rfl,iY ?_⟩;have Mg:=Dy.tup _ _ Mg;have afs:=Zw.up Dy _ _ afs;have iu:=Zg.up Dy _ _ iu;have mk:=mk.up Dy;have pr:V0 ms fs:=(mo.ok x _ es).1;have nd:(fs.map Vk.n).Nodup:=List.Nodup.sublist pr.nums QI;refine hide λ_ Yg=>?_
  obtain⟨tag,nb,t3,w3,rfl,rfl,hc⟩:∃(tag:Str) (nb:Int) (t3 w3:Th),u=.tup [.str tag,.int nb,t3]/\wt=.tup [.str "arm",.int nb,w3]/\((∃g∈fs,g.n=nb/\cj own ms n g.y t3 w3)\/(nb∉fs.map Vk.n/\w3=t3)):=by
   rcases hw with ⟨g,mg',u',w',hw',rfl,rfl⟩ | ⟨_,nn,it,nk,n0,n1,gi,rfl,rfl⟩
   .exact⟨_,_,_,_,rfl,rfl,.inl ⟨g,mg',rfl,hw'⟩⟩
   .exact⟨_,_,_,_,rfl,rfl,.inr ⟨nk,rfl⟩⟩
  obtain⟨pa,xs,rfl,G4,axs⟩:=iu;obtain⟨z1,z2,z3,rfl,k1,k2,k3⟩:=J4 axs;cases Zc k2;refine Yg ?_;have l5:=pr.len;refine⟨_,rfl,a,_,_,_,rfl,rfl,ha,Vq,fa,rfl,⟨_,Mg⟩,λD fp sx hD=>?_⟩;refine J2 (K:=K) (xs:=fws) (λi ys j H5=>(∃o,j=[o,some (.ref pa)])/\ys=((fs.take i).filter λf=>decide (f.n=nb)).map (λf=>V.str f.y)/\Zv _ H5/\H5 D=some (.lst ys)) ⟨⟨_,rfl⟩,rfl,Zv.lay hD,Zz⟩ ?_ ?_ ?_
  .intro i ys j H5 hi Ou;refine hide λ_ Yc=>?_;obtain⟨_,_,g5,h5⟩:=Ou;refine Yc ?_;exact⟨g5.up _ _ Mg,h5⟩
  .intro i x ys j H5 hx Oh;refine hide λ_ Yr=>?_;obtain⟨⟨o,rfl⟩,ey,g5,h5⟩:=Oh;obtain⟨t,et,it⟩:=afs.got hx;rw[Jb]at et;obtain⟨fl,ef,rfl⟩:=Cy.mp et;obtain⟨b,bs,rfl,hb,ab⟩:=Zg.up g5.upT _ _ it;obtain⟨b1,b2,b3,rfl,j1,j2,j3⟩:=J4 ab;cases Zc j1;cases Zc j3;refine Yr ?_;refine Ej ?_;refine⟨_,rfl,b,_,_,_,rfl,rfl,hb,Yw,_,rfl,pa,_,_,_,rfl,rfl,g5.up _ _ G4,Vq,rfl,_,rfl,?_⟩;refine Vb (λc=>?_) (λc=>?_)
   .have c:fl.n=nb:=by injection Sh c
    refine⟨_,rfl,b,_,_,_,rfl,rfl,hb,at2,h5,?_,⟨_,rfl⟩,?_,g5.put hD,Zz⟩
    .rw[ey,Yv];exact Yx (Vf (List.length_filter_le _ _) (by rw[Cs];omega))
    .rw[Zs ef,List.filter_append,Gw, <-ey];simp[c]
   .have c:¬ fl.n=nb:=λz=>c (by rw[z];exact Sd rfl);refine⟨⟨_,rfl⟩,?_,g5,h5⟩;rw[Zs ef,List.filter_append,Gw, <-ey];simp[c]
  .intro ys j H5 Wa;refine hide λ_ Yo=>?_;obtain⟨_,ey,g5,h5⟩:=Wa;refine Yo ?_;have lf:=afs.length;rw[Yv]at lf;rw[<-lf,Ss]at ey;refine⟨_,rfl,pa,_,_,_,rfl,rfl,g5.up _ _ G4,Vq,?_⟩;refine⟨_,rfl,(sz 0),λL hL=>?_⟩;have sL:=Zv.lay (o:=.lst []) hL;have gL:=g5.trans sL;refine⟨D,L,ys,rfl,rfl,Zu.of (sL _ _ h5),Zu.of Zz,?_,_,rfl,?_⟩
   .have h:A.units+3+16*k+200<cLine:=hr.un;show A.units+3<cLine;omega
   rcases hc with ⟨g,mg',rfl,hw'⟩ | ⟨nk,rfl⟩
   .rw[O1 nd mg']at ey;cases ey;refine Z5 rfl ?_;refine⟨_,rfl,_,rfl,D,_,_,_,rfl,rfl,Zu.of (sL _ _ h5),Yw,_,rfl,pa,_,_,_,rfl,rfl,gL.up _ _ G4,at2,e,S,ms,g.y,t3,w3,z3,rfl,mk.up gL.upT,mo,hw',Zg.up gL.upT _ _ k3,λv' H6 iv g6=>⟨(sz 3),λe2 h2=>?_⟩⟩;have s2:=Zv.lay (o:=.tup [.str "arm",.int g.n,v']) h2;exact q _ _ ⟨e2,_,rfl,Zp.of Zz,_,_,rfl,rfl,_,_,rfl,rfl,_,_,rfl,Zg.up s2.upT _ _ iv,rfl⟩ (s0.trans (gL.trans (g6.trans s2)))
   .rw[Fv nk]at ey;cases ey;refine Vi rfl ?_;refine⟨_,rfl,pa,_,_,_,rfl,rfl,gL.up _ _ G4,at2,(sz 3),λe2 h2=>?_⟩;have s2:=Zv.lay (o:=.tup [.str "arm",.int nb,z3]) h2;exact q _ _ ⟨e2,_,rfl,Zp.of Zz,_,_,rfl,rfl,_,_,rfl,rfl,_,_,rfl,Zg.up (gL.trans s2).upT _ _ k3,rfl⟩ (s0.trans (gL.trans s2))
 | rcd fs us =>
  refine hide λ_ Z1=>?_;obtain⟨l,os,ps,rfl,hl,ho,rfl,hp,sp,rfl⟩:=hw;have pr:V0 ms (l.map Ent.f):=mo.ok x _ es;have l5:l.length<=5:=by have:=pr.len;rw[Yv]at this;exact this
  have nn:((l.map Ent.f).map Vk.n).Nodup:=List.Nodup.sublist pr.nums QI;have kn:=b8 ho nn;obtain⟨a,ws,rfl,ha,at'⟩:=isv;obtain⟨w1,w2,w3,rfl,i1,i2,i3⟩:=J4 at';cases Zc i1;obtain⟨fa,fws,rfl,Mg,afs⟩:=i2;obtain⟨pa,xs,rfl,G4,axs⟩:=iu;obtain⟨z1,z2,rfl,k1,k2⟩:=U5 axs;obtain⟨ka,kx,rfl,hka,akx⟩:=k1;obtain⟨oa,ox,rfl,hoa,aox⟩:=k2;refine Z1 ?_;refine⟨_,rfl,a,_,_,_,rfl,rfl,ha,Yw,(sz 2),λe0 h0=>?_⟩;have s0:=Zv.lay (o:=.tup [.str "whole",.str "truth"]) h0;refine⟨e0,_,rfl,.inr (Zp.of Zz),rfl,rfl,_,rfl,iN ?_⟩;have ha:=s0.up _ _ ha;have Dy:=s0.upT (K:=K)
  iterate 4 refine⟨_,rfl,a,_,_,_,rfl,rfl,ha,Yw,rfl,_,rfl,iN ?_⟩
  have mk:=mk.up Dy;have Mg:=Dy.tup _ _ Mg;have afs:=Zw.up Dy _ _ afs;have G4:=Dy.tup _ _ G4;have hka:=Dy.tup _ _ hka;have akx:=Zw.up Dy _ _ akx;have hoa:=Dy.tup _ _ hoa;have aox:=Zw.up Dy _ _ aox;refine hide λ_ Yz=>?_;obtain⟨we,pd0,ln0,Zqr⟩:=df aox;refine Yz ?_;refine⟨_,rfl,pa,_,_,_,rfl,rfl,G4,Vq,oa,ox,we,rfl,hoa,ln0,Zqr,λD hD=>?_⟩;have sD:=Zv.lay (o:=.dK (Mr we)) hD;have pf:Paired (DR K _) (Mr we) os:=Qa (b:=[]) pd0 .nil (by rw[List.nil_append];exact ho.nd);refine⟨_,rfl,a,_,_,_,rfl,rfl,sD.up _ _ ha,Vq,_,rfl,pa,_,_,_,rfl,rfl,sD.up _ _ G4,Yw,fa,ka,rfl,⟨_,sD.up _ _ Mg⟩,⟨_,sD.up _ _ hka⟩,?_⟩;have lfw:fws.length=l.length:=by rw[<-afs.length,Yv,Yv]
  have lkx:kx.length=l.length:=by rw[<-akx.length,Yv]
  refine Zjf (K:=K) (xs:=fws) (ys:=kx) (λi j H5=>(∃o4 o6 o7,j=[some (.ref e),some (.str x),some (.ref pa),some (.ref a),o4,some (.ref D),o6,o7])/\Zv _ H5/\∃XQ,H5 D=some (.dK XQ)/\Paired (DR K H5) XQ (os++kept (l.take i))) ⟨⟨_,_,_,rfl⟩,sD,_,Zz,?_⟩ ?_ ?_ ?_
  .rw[List.take_zero,show kept []=[] from rfl,ZO];exact DR.upO pf (C4 sD.upT)
  .intro i j H5 hi Ol;refine hide λ_ Yq=>?_;obtain⟨_,g5,_⟩:=Ol;refine Yq ?_;exact⟨g5.up _ _ Mg,g5.up _ _ hka⟩
  .intro i xv yv p j H5 hx hy Od hpn;refine hide λ_ Yy=>?_;obtain⟨⟨o4,o6,o7,rfl⟩,g5,XQ,h5,pd⟩:=Od;have sP:=Zv.lay (o:=.tup [xv,yv]) hpn;have g6:=g5.trans sP;obtain⟨t,et,it⟩:=afs.got hx;rw[Jb,Jb]at et
   obtain⟨en,ee,rfl⟩:∃en,l[i]?=some en/\en.f.t=t:=by
    cases z:l[i]? with
    | none=>rw[z]at et;cases et
    | some en=>rw[z]at et;exact⟨en,rfl,Fk et⟩
   obtain⟨t2,et2,iu⟩:=akx.got hy;refine Yy ?_;rw[Jb,ee]at et2;cases et2;have men:=Cr ee;have mf:en.f∈l.map Ent.f:=List.mem_map_of_mem men;have m6:=hl en men;refine hide λ_ Yg=>?_;obtain⟨b,bs,rfl,hb,ab⟩:=it;obtain⟨b1,b2,b3,b4,rfl,j1,j2,j3,j4⟩:=Qk ab;cases Zc j1;cases Zc j3;refine Yg ?_;have gu:=wr_gd' mo m6;have gd1:=jd pr mf;have gu1:=N9 (ts:=[en.u]) (n:=1) (λt m=>by rw[Nw.mp m];exact gu) (Yt _);have cw:CW n<=3000000:=(by decide:∀n,n<4->CW n<=3000000) n QU;have su:=gu1.shown (Vf (show _<=3000010 by omega) QI) QU;have sd:=gd1.shown QI QI;refine⟨p,_,rfl,Zp.of Zz,rfl,_,_,rfl,_,_,rfl,rfl,?_⟩;refine⟨_,rfl,(sz 1),λe1 h1=>?_⟩;have s1:=Zv.lay (o:=.tup [yv]) h1;have g7:=g6.trans s1;refine⟨_,Dl [en.u],rfl,Og (.tup [en.u]) _ ⟨gu.nq,trivial⟩ ⟨e1,_,rfl,Zp.of Zz,Zw.one (Zg.up g7.upT _ _ iu)⟩,su.1,su.2.1,su.2.2,?_⟩;refine⟨_,rfl,b,_,_,_,rfl,rfl,g7.up _ _ hb,at3,_,Dl en.f.d.toList,rfl,Og (.tup en.f.d.toList) _ gd1.nq (Zg.up g7.upT _ _ j4),sd.1,sd.2.1,sd.2.2,?_⟩;have sl:Ei (.tup (Dl [en.u]))=Ei (.tup (Dl en.f.d.toList))↔lfo en=true:=decide_eq_true_iff.symm;refine⟨rfl,_,rfl,?_⟩;have pd7:Paired (DR K _) XQ (os++kept (l.take i)):=DR.upO pd (C4 (sP.trans s1).upT);have h7:=(sP.trans s1) _ _ h5;refine Vb (λc=>?_) (λc=>?_)
   .have c':lfo en=false:=by
     cases z:lfo en
     .rfl
     .rw[sl.mpr z]at c;simp at c
    refine⟨_,rfl,_,rfl,b,_,_,_,rfl,rfl,g7.up _ _ hb,at2,_,rfl,e,S,ms,en.f.y,en.u,en.w,yv,rfl,mk.up g7.upT,mo,m6,Zg.up g7.upT _ _ iu,λv' H8 iv g8=>?_⟩;have h8:=g8 _ _ h7;have pd8:=DR.upO pd7 (C4 g8.upT)
    have lk:XQ.length<=11:=by
     rw[Paired.length pd,Nl];have:=Wm (l.take i);rw[Cs]at this;have:=ho.len;omega
    have g78:=g7.trans g8;refine⟨_,rfl,_,rfl,b,_,_,_,rfl,rfl,g78.up _ _ hb,Yw,D,upd H8 D (.dK (putK XQ (.inl en.f.n) v')),rfl,.inl ⟨XQ,.inl en.f.n,h8,rfl,Qe lk QI,rfl⟩,⟨_,_,_,rfl⟩,g78.put hD,_,Zz,?_⟩
    have nk:en.f.n∉(os++kept (l.take i)).map (·.1):=λmm=>by
     rw[Gw]at mm;rcases M6.mp mm with mm | mm
     .refine hide λ_ Yc=>?_;obtain⟨o,mo',eo⟩:=G3.mp mm;refine Yc ?_;exact(ho.ok o mo').1 (by rw[eo];exact List.mem_map_of_mem mf)
     .refine hide λ_ Yr=>?_;obtain⟨o,mo',eo⟩:=G3.mp mm;obtain⟨e',me',rfl⟩:=G3.mp mo';refine Yr ?_;have me':=(List.mem_filter.mp me').1;refine nd_atI (i:=i) nn (n:=en.f.n) (by rw[Jb,Jb,ee];rfl) ?_;rw[<-eo, <-List.map_take, <-List.map_take];exact List.mem_map_of_mem (List.mem_map_of_mem me')
    rw[Pt v' (Lx pd8 nk),Zs ee,Kj,c',if_neg QI, <-ZA];exact DR.upO (dg pd8 iv) (K0 h8)
   .have c':lfo en=true:=by
     refine sl.mp ?_;by_cases z:Ei (.tup (Dl [en.u]))=Ei (.tup (Dl en.f.d.toList))
     .exact z
     .exact absurd (by simpa using z) c
    refine⟨⟨_,_,_,rfl⟩,g7,XQ,h7,?_⟩;rw[Zs ee,Kj,if_pos c',ZO];exact pd7
  .intro j H5 Zq9;refine hide λ_ Yo=>?_;obtain⟨⟨o4,o6,o7,rfl⟩,g5,XQ,h5,pd⟩:=Zq9;refine Yo ?_;rw[lfw,lkx,Nat.min_self,Ss]at pd;have pdp:(os++kept l).Perm (kept l++os):=List.perm_append_comm;have kn':((os++kept l).map (·.1)).Nodup:=(pdp.map _).nodup_iff.mpr kn;refine⟨_,rfl,D,XQ,(os++kept l).map (·.1),rfl,.inl h5,dn pd,?_,λL ns nL pn sn=>?_⟩
   .rw[Yv,Nl];have:=Wm l;have:=ho.len;omega
   have en:ns=ps.map (·.1):=um pn ((hp.map (·.1)).trans (pdp.map (·.1)).symm) sn (List.pairwise_map.mpr sp);subst en;have sL:=Zv.lay (o:=.lst ((ps.map (·.1)).map V.int)) nL;refine⟨L,rfl,⟨_,Zu.of Zz⟩,λD2 fp sx Nq=>?_⟩
   have aI:Zw K (upd H5 L (.lst ((ps.map (·.1)).map V.int))) (ps.map λp=>Th.int p.1) ((ps.map (·.1)).map V.int):=by
    have:=Qr (K:=K) (H:=upd H5 L (.lst ((ps.map (·.1)).map V.int))) (ps.map (·.1));rw[show (ps.map λp=>Th.int p.1)=(ps.map (·.1)).map Th.int by rw[List.map_map];rfl];exact this
   have lps:ps.length<=11:=by
    rw[hp.length_eq,Nl];have:=Wm l;have:=ho.len;omega
   refine O4 (K:=K) (xs:=(ps.map (·.1)).map V.int) (ts:=ps.map λp=>Th.int p.1) (rs:=ps.map U2) (λ_ H6=>Zv _ H6) (λj=>∃o,j=[o,some (.ref D)]) (λi H6 g=>Zu.of (g _ _ Zz)) aI (by rw[Yv,Yv]) (by rw[Yv];omega) (λi H6 g=>g.upT) (λi H6 ys zs g h=>g.put Nq) (Zv.lay Nq) ⟨_,rfl⟩ ?_ ?_ ?_
   .rintro i t r v j H6 Q5 et er ⟨o,rfl⟩ g6 it ⟨ys,hy⟩ q5;rw[Jb]at et er;refine hide λ_ Z1=>?_;obtain⟨pp,ep,rfl⟩:=Cy.mp et;refine Z1 ?_;rw[ep]at er;cases er;refine hide λ_ Yz=>?_;cases Zc it;have sL6:=sL.trans g6;have pd6:=DR.upO pd (C4 sL6.upT);obtain⟨vv,evv,ivv⟩:=Av pd6 kn' (pdp.mem_iff.mpr (hp.mem_iff.mp (Cr ep)));refine Yz ?_;refine⟨rfl,?_⟩;refine⟨_,rfl,_,rfl,_,rfl,D,_,rfl,(show Ue H6 D (kV (.inl pp.1)) (some vv) from evv ▸ Ue.k (k:=.inl pp.1) (sL6 _ _ h5)),(sz 2),λe2 h2=>?_⟩;have s2:=Zv.lay (o:=.tup [.int pp.1,vv]) h2;exact q5 _ _ _ ⟨_,rfl⟩ (g6.trans s2) s2.upT (λo ho=>s2 _ _ ho) ⟨e2,_,rfl,Zp.of Zz,_,_,rfl,rfl,_,_,rfl,Zg.up s2.upT _ _ ivv,rfl⟩
   .intro v j H5 A B h;show (if true=true then A (j.set 0 (some v)) H5 else B (j.set 0 (some v)) H5);exact Vi rfl h.2
   .rintro H6 ws j _ g6 h6 a6;refine⟨D2,_,rfl,.inl ⟨Zu.of h6,λe1 h1=>⟨(sz 2),λe2 h2=>?_⟩⟩⟩;have s1:=Zv.lay (o:=.tup ws) h1;have s2:=Zv.lay (o:=.tup [.str "rec",.ref e1]) h2;exact q _ _ ⟨e2,_,rfl,Zp.of Zz,_,_,rfl,rfl,_,_,rfl,⟨e1,ws,rfl,s2.up _ _ (Zp.of Zz),Zw.up (s1.trans s2).upT _ _ a6⟩,rfl⟩ (s0.trans (g5.trans (sL.trans (g6.trans (s1.trans s2)))))
abbrev Nu:Stmt:=top 37
noncomputable abbrev Ao:ZF:=["_law_feed_here","_law_make_here","_law_shape","_law_deep","_law_known","_law_number","_law_name","_law_inner","_law_default","_law_some"]
theorem Vw:Ze Ao XD (Zb Nu):=by trivial
noncomputable def VB:Nat->Nat
 | 0=>10
 | n+1=>10+6*VB n
def Res(K:PySem.W.Frag)(H:Hp)(W:Th->Th->Prop)(L:Addr):Prop:=H L=some (.lst [])\/∃v u w,H L=some (.lst [v])/\Zg K H u v/\W u w
section
variable{K:PySem.W.Frag}{H H':Hp}{W:Th->Th->Prop}{L l:Addr}{r r':Nat}
theorem Res.same(h:Res K H W L)(s:Zv H H'):Res K H' W L:=h.imp (λz=>s _ _ z) λ⟨v,u,w,e,i,q⟩=>⟨v,u,w,s _ _ e,Zg.up s.upT _ _ i,q⟩
theorem Res.ne(h:Res K H W L)(f:Fd r H l):L≠l:=λz=>by
 obtain⟨a,ns,b,c,d,e,_⟩:=f;rcases h with h | ⟨v,u,w,h,_⟩<;>(rw[z,e]at h;cases h)
theorem Res.step(h:Res K H W L)(f:Fd r' H l)(t:Ye l r H H'):Res K H' W L:=by
 have n:=h.ne f;exact h.imp (λz=>t.keep _ _ n z) λ⟨v,u,w,e,i,q⟩=>⟨v,u,w,t.keep _ _ n e,Zg.up (t.upT f) _ _ i,q⟩
theorem Res.put(h:Res K H W L){D:Addr}{ys zs:ZZ}(hD:H D=some (.lst ys))(n:L≠D):Res K (upd H D (.lst zs)) W L:=h.imp (λz=>by rw[Zm n];exact z) λ⟨v,u,w,e,i,q⟩=>⟨v,u,w,by rw[Zm n];exact e,Zg.up (Zi hD) _ _ i,q⟩
end
theorem fk{own:Bool}{ms:List (Str×Yn)}{n:Nat}{y:Str}{s:Yn}{d:Th}(es:Jc ms y=some s)(p:Pv s d):∃w,Wr own ms n y d w:=by
 cases s with
 | whole lo hi=>exact⟨_,Wr.of es ⟨p,rfl⟩⟩
 | truth =>
  cases d with
  | bl b=>exact⟨_,Wr.of es ⟨b,rfl,rfl⟩⟩
  | _=>exact p.elim
 | text k=>exact⟨_,Wr.of es ⟨p,rfl⟩⟩
 | row b y k =>
  have hd:d=.tup []:=by
   cases d with
   | tup ts =>
    cases ts with
    | nil=>rfl
    | cons _ _=>exact p.elim
   | _=>exact p.elim
  subst hd;cases b with
  | true=>exact⟨_,Wr.of es ⟨[],Dc _,λe m=>absurd m V9,rfl,rfl⟩⟩
  | false=>exact⟨_,Wr.of es ⟨[],Dc _,λe m=>absurd m V9,rfl,rfl⟩⟩
 | rcd _ _=>cases d<;>exact p.elim
 | cho _ _ _=>cases d<;>exact p.elim
theorem Zqg{W:Str->Th->Th->Prop}{own:Bool}{l:List Ent}{us:ZC}{os:List (Int×Th)}(hl:∀e∈l,W e.f.y e.u e.w)(ho:Zka own (l.map Ent.f) os):∃w,VW W own (.rcd (l.map Ent.f) us) (.tup [.tup (l.map Ent.u),.tup (os.map U2)]) w :=
 ⟨_,l,os,(kept l++os).mergeSort (λa b=>decide (a.1<=b.1)),rfl,hl,ho,rfl,List.mergeSort_perm _ _,by
  have:=List.pairwise_mergeSort (le:=λa b:Int×Th=>decide (a.1<=b.1)) (λa b c h1 h2=>by simp only[decide_eq_true_eq]at *;omega) (λa b=>by simp only[Bool.or_eq_true,decide_eq_true_eq];omega) (kept l++os);exact this.imp λh=>Sh h,rfl⟩
theorem Zxi{K:W.Frag}{H:Hp}{o:Option Th}{dx:ZZ}(h:Zw K H o.toList dx):dx.isEmpty=o.isNone:=by
 cases o with
 | none=>cases Zc h;rfl
 | some d=>obtain⟨v,rfl,_⟩:=Sv h;rfl
theorem Zxq{X Y:TS}{D:Ends}{rt:VK}{bk ct:L2.St->Hp->Prop}{i:Nat}{v:V}{j:L2.St}{H:Hp}(N:L2.St->Hp->Prop)(hY:∀σ' H',N σ' H'->Y D σ' H')(hX:∀M:L2.St->Hp->Prop,(∀σ' H',N σ' H'->M σ' H')->X { D with nx:=M } (j.set i (some v)) H):D9 i v j H (Ends.nx ⟨Zzt X Y D,rt,bk,ct⟩):=hX (Y D) hY
inductive Zw2(K:W.Frag)(n:Nat)(vs:ZZ)(H:Hp)(Q:VK):Prop
 | mk(l e S:Addr)(ms:List (Str×Yn))(x:Str)(r:Nat)(Vx:vs=[.ref l,.ref e,.str x,.int (n:Int)])(Vz:M5 K H e S ms)(Vp:Nd ms)(Jn:(Jc ms x).isSome=true)(Mf:Fd (r+VB n) H l)(Co:∀L H',Res K H' (Wr true ms n x) L->H L=none->Ye l r H H'->Q (.ref L) H')
def Fc(K:W.Frag)(n:Nat):Sp:=λvs H Q _=>Zw2 K n vs H Q
def Zzo(K:W.Frag):Nat->Sp
 | 0=>λ_ _ _ _=>False
 | n+1=>Fc K n
inductive Zw3(K:W.Frag)(n:Nat)(vs:ZZ)(H:Hp)(Q:VK):Prop
 | mk(l e S:Addr)(ms:List (Str×Yn))(sv:V)(fs:List Vk)(us:ZC)(r:Nat)(Vx:vs=[.ref l,.ref e,sv,.int ((n+1:Nat):Int)])(Vz:M5 K H e S ms)(Vp:Nd ms)(Jn:Zg K H (Yn.rcd fs us).t sv)(Mf:V0 ms fs)(Co:Fd (r+(5+5*VB n)) H l)(Xo:∀L H',Res K H' (VW (Wr true ms n) true (.rcd fs us)) L->H L=none->Ye l r H H'->Q (.ref L) H')
def Ij(K:W.Frag)(n:Nat):Sp:=λvs H Q _=>Zw3 K n vs H Q
def Zze(K:W.Frag):Nat->Sp
 | 0=>λ_ _ _ _=>False
 | n+1=>Ij K n
structure Rk(K:W.Frag)(l C:Addr)(H:Hp)(ys:ZZ)(es:List Ent)(r:Nat)(Ha:Hp):Prop where
 st:Ye l r H Ha
 c:Ha C=some (.lst ys)
 a:Zw K Ha (es.map Ent.u) ys
section
variable{K:W.Frag}{l C:Addr}{H Ha Hb:Hp}{ys:ZZ}{es:List Ent}{r r':Nat}
theorem Rk.same(k:Rk K l C H ys es r Ha)(s:Zv Ha Hb):Rk K l C H ys es r Hb:=⟨k.st.same s,s _ _ k.c,Zw.up s.upT _ _ k.a⟩
theorem Rk.step(k:Rk K l C H ys es r Ha)(t:Ye l r' Ha Hb)(n:C≠l):Rk K l C H ys es r' Hb:=⟨k.st.trans t,t.keep _ _ n k.c,Zw.up (t.upT k.st.feed) _ _ k.a⟩
theorem Rk.mono(k:Rk K l C H ys es r Ha)(h:r'<=r):Rk K l C H ys es r' Ha:=⟨k.st.mono h,k.c,k.a⟩
theorem Rk.m(k:Rk K l C H ys es r Ha)(h:r'<=r:=by omega):Rk K l C H ys es r' Ha:=k.mono h
end
theorem L5{k n:Nat}(hn:n<=3)(F:Fu K "_law_record" Nu f fd)(m:Bn mg)(Zt:gD P w K mg base)(Jf:Fn P w K mg base k "_law_value" XG (Fc K n))(k1:1<=k):Yk P w K mg base Mm (k+1) f fd XD (Ij K n):=by
 refine F.ok Vw (λvs H Q E h=>?_) λ_ A _ s H vs Q E hr h=>?_
 .obtain⟨l,e,S,ms,sv,fs,us,r,rfl,_⟩:=h
  rfl
 obtain⟨l,e,S,ms,sv,fs,us,r,rfl,mk,mo,is,pr,fe,q⟩:=h;obtain⟨a,ws,rfl,ha,at'⟩:=is;obtain⟨w1,w2,w3,rfl,i1,i2,i3⟩:=J4 at';obtain⟨fa,fws,rfl,Mg,afs⟩:=i2;refine⟨_,(@Zd _ _ _ _ _ (sI 4 Vw.nd (ql Zx)) (@Zd _ _ _ _ _ (Jj PassesOwn.never rfl (qI (iX Zy (pv 2) Zq)) (De rfl (Z3 (nJ 5 Vw.nd) (Z3 (nJ 6 Vw.nd) (Z3 (nJ 7 Vw.nd) (Z3 (nJ 8 Vw.nd) Ju))))) (qs (sI 9 Vw.nd (cT Bq m.list yd (Zf (pv 8) Zx))) (qs (qi (qp (qO (tQ E6 (pv 8) (qt Zx)) (qQ (tQ Za (cF Zt hr (Zf (pv 0) (Zf Zq Zx))) Zq)))) (q1 (sI 9 Vw.nd (cF Jf hr (Zf (pv 0) (Zf (pv 1) (Zf (pv 7) (Zf (qo B7 (pv 3) Zq) Zx))))))) Zl) (qs (qi (qp (@pw_and _ _ _ _ _ _ _ (tQ Ng (pv 9) (ql Zx)) (@pw_and1 _ _ _ _ (tQ E6 (pv 8) (qt Zx))))) (q1 (qr (ql Zx))) Zl) (q1 (@Dj _ _ _ _ (@Wx _ _ _ _ _ _ _ _ _ _ _ _ PySem.F.plainAttrs_list PySem.F.slot_list_append PySem.F.type_list_append Ux (pv 4) (Zf (@Ug _ _ _ _ _ _ _ _ (tQ Ii (pv 9) (ql Zx)) (iX Zh (pv 9) Zq) (iX Zy (pv 8) Zq)) Zx) QO QO QO QO QO) rfl)))))) (@Z2 _ _ _ (@Y6 _ _ _ _ (@Z9 _ _ _ _ (@Zj _ _ _ _ _ (@Ys _ _ _ _ _ (@Zj _ _ _ _ _ (@Uu _ _ _ _ _ _ _ _ _ Zr rfl m.tuple Yd (@Zj _ _ _ _ _ (pv 4) Zx rfl) QO QO QO QO) (@Zj _ _ _ _ _ (@Ys _ _ _ _ _ Zx) Zx rfl) rfl)) Zx rfl)))))),?_⟩;have uN:A.units+3+16*k+200<cLine:=hr.un;have lfw:fws.length=fs.length:=by rw[<-afs.length,Yv]
 refine⟨(sz 0),λC hC=>?_⟩;have sC:=Zv.lay (o:=.lst []) hC;have nCl:C≠l:=fe.ne hC;refine⟨_,rfl,a,_,_,_,rfl,rfl,sC.up _ _ ha,Vq,fa,rfl,⟨_,sC.up _ _ Mg⟩,?_⟩
 refine W7 (K:=K) (xs:=fws) (λi j H5=>(∃o5 o6 o7 o8 o9,j=[some (.ref l),some (.ref e),some (.ref a),some (.int ((n+1:Nat):Int)),some (.ref C),o5,o6,o7,o8,o9])/\∃ys es,Rk K l C H ys es (r+(5-i)*(1+VB n)) H5/\es.map Ent.f=fs.take i/\∀t∈es,Wr true ms n t.f.y t.u t.w)
  ⟨⟨_,_,_,_,_,rfl⟩,[],[],⟨((Ye.refl fe).same sC).m,Zz,rfl⟩,rfl,λt m=>absurd m V9⟩ ?_ ?_ ?_
 .intro i j H5 hi Ot;refine hide λ_ Z1=>?_;obtain⟨_,ys,es,k5,_⟩:=Ot;refine Z1 ?_;exact(k5.st.upT (K:=K) fe).tup _ _ Mg
 .intro i x j H5 hx Rc;refine hide λ_ Yz=>?_;obtain⟨⟨o5,o6,o7,o8,o9,rfl⟩,ys,es,k5,ef,he⟩:=Rc;refine Yz ?_;have hi:i<fs.length:=by rw[<-lfw];exact(Bl.mp hx).1
  have l5:=pr.len;have eb:(5-i)*(1+VB n)=(5-(i+1))*(1+VB n)+1+VB n:=(Xg QU).trans (Nat.add_assoc ..).symm;generalize hR:(5-(i+1))*(1+VB n)=R at *;refine hide λ_ Yq=>?_;obtain⟨t,et,it⟩:=afs.got hx;rw[Jb]at et;obtain⟨fl,ee,rfl⟩:=Cy.mp et;have mf:=Cr ee;have u5:=k5.st.upT (K:=K) fe;obtain⟨b,bs,rfl,hb,ab⟩:=Zg.up u5 _ _ it;obtain⟨b1,b2,b3,b4,rfl,j1,j2,j3,j4⟩:=Qk ab;cases Zc j1;cases Zc j2;cases Zc j3;obtain⟨da,dx,rfl,hda,adx⟩:=j4;refine Yq ?_;have dE:=Zxi adx;have un0:A.units+3<cLine:=QU
  refine⟨b,_,rfl,hb,rfl,_,_,rfl,_,_,rfl,_,_,rfl,_,_,rfl,rfl,?_⟩;refine⟨_,rfl,da,dx,rfl,.inr hda,λL1 hL1=>?_⟩;have s1:=Zv.lay (o:=.lst dx) hL1;refine Zxq (λσ' HX=>∃LX,σ'=[some (.ref l),some (.ref e),some (.ref a),some (.int ((n+1:Nat):Int)),some (.ref C),some (.int fl.n),some (.str fl.x),some (.str fl.y),some (.ref da),some (.ref LX)]/\Rk K l C H ys es (r+R) HX/\Ui K H5 HX/\Res K HX (Wr true ms n fl.y) LX) ?_ λM hM=>?_
  .intro σ' HX hI4_;refine hide λ_ Yy=>?_;obtain⟨LX,rfl,kX,uX,rX⟩:=hI4_;refine Yy ?_;refine⟨_,rfl,(sz 0),λeA hA=>?_⟩;have sA:=Zv.lay (o:=.lst []) hA;have kA:=kX.same sA;have uA:=uX.trans (sA.upT (K:=K))
   have wl:ys.length<sizeLine:=by
    have z:=congrArg List.length ef;rw[Yv,Cs]at z;rw[<-kA.a.length,Yv];exact Yx QU
   rcases rX.same sA with hO | ⟨v,u,w,hO,iO,qO⟩
   .refine⟨LX,eA,[],rfl,rfl,Zu.of hO,Zu.of Zz,un0,_,rfl,Vi rfl ?_⟩;refine⟨_,rfl,(sz 0),λeB hB=>?_⟩;have sB:=Zv.lay (o:=.tup []) hB;have kB:=kA.same sB;have uB:=uA.trans (sB.upT (K:=K));refine⟨da,eB,dx,rfl,rfl,uB.tup _ _ hda,Zp.of Zz,un0,_,rfl,?_⟩;cases ed:fl.d with
    | none =>
     refine Vi (by rw[dE,ed];rfl) ⟨(sz 0),λp hp=>?_⟩;exact q p _ (.inl Zz) (kB.st.free hp) ((kB.st.lay hp).m)
    | some d0 =>
     refine Z5 (by rw[dE,ed];rfl) ?_;rw[ed]at adx;refine hide λ_ Yg=>?_;obtain⟨v0,rfl,i0⟩:=Sv adx;obtain⟨s0,es0,pv0⟩:=pr.d fl mf d0 ed;obtain⟨w0,hw0⟩:=fk (own:=true) (n:=n) es0 pv0;refine Yg ?_;refine⟨_,rfl,.inl ⟨rfl,_,Zu.of kB.c⟩,_,rfl,(sz 0),λeC hC'=>?_⟩;have sE:=Zv.lay (o:=.lst []) hC';have kC:=kB.same sE;have uC:=uB.trans (sE.upT (K:=K));refine⟨LX,eC,[],rfl,rfl,Zu.of ((sB.trans sE) _ _ hO),Zu.of Zz,un0,_,rfl,Z5 rfl ?_⟩;refine⟨_,rfl,da,_,_,_,rfl,rfl,uC.tup _ _ hda,Yw,?_⟩;refine⟨C,ys,_,rfl,rfl,kC.c,wl,⟨_,_,_,_,_,rfl⟩,ys++[v0],es++[⟨fl,d0,w0⟩],⟨(kC.st.put hC (fe.far hC)).m,Zz,?_⟩,?_,?_⟩
     .rw[Gw];have uS:Ui K _ (upd _ C (.lst (ys++[v0]))):=Zi kC.c;exact Zw.append (Zw.up uS _ _ kC.a) (Zw.one (Zg.up uS _ _ (Zg.up uC _ _ i0)))
     .rw[Gw,ef,Zs ee];rfl
     .intro t mt;rcases M6.mp mt with mt | mt
      .exact he t mt
      .rw[Nw.mp mt];exact hw0
   .refine⟨LX,eA,[v],rfl,rfl,Zu.of hO,Zu.of Zz,un0,_,rfl,Z5 rfl (Wn ?_)⟩;refine⟨_,rfl,.inl ⟨rfl,_,Zu.of kA.c⟩,_,rfl,(sz 0),λeC hC'=>?_⟩;have sE:=Zv.lay (o:=.lst []) hC';have kC:=kA.same sE;refine⟨LX,eC,[v],rfl,rfl,Zu.of (sE _ _ hO),Zu.of Zz,un0,_,rfl,Vi rfl ?_⟩;refine⟨_,rfl,_,_,_,_,rfl,rfl,Zu.of (sE _ _ hO),Yw,?_⟩;refine⟨C,ys,_,rfl,rfl,kC.c,wl,⟨_,_,_,_,_,rfl⟩,ys++[v],es++[⟨fl,u,w⟩],⟨(kC.st.put hC (fe.far hC)).m,Zz,?_⟩,?_,?_⟩
    .rw[Gw];have uS:Ui K _ (upd _ C (.lst (ys++[v]))):=Zi kC.c;exact Zw.append (Zw.up uS _ _ kC.a) (Zw.one (Zg.up uS _ _ (Zg.up sE.upT _ _ iO)))
    .rw[Gw,ef,Zs ee];rfl
    .intro t mt;rcases M6.mp mt with mt | mt
     .exact he t mt
     .rw[Nw.mp mt];exact qO
  refine⟨_,rfl,(sz 0),λe0 h0=>?_⟩;have s2:=Zv.lay (o:=.tup []) h0;have k6:=k5.same (s1.trans s2);refine⟨da,e0,dx,rfl,rfl,(s1.trans s2).up _ _ hda,Zp.of Zz,un0,_,rfl,?_⟩;have call:∀{H':Hp},Ui K H5 H'->M5 K H' e S ms:=λu=>mk.up (u5.trans u);have arg:[V.ref l,V.ref e,V.str fl.y,V.int (((n+1:Nat):Int)-1)]=[V.ref l,V.ref e,V.str fl.y,V.int (n:Int)]:=by rw[show ((n+1:Nat):Int)-1=(n:Int) by omega]
  cases ed:fl.d with
  | none =>
   refine Vi (by rw[dE,ed];rfl) (Vi rfl ?_);refine⟨_,rfl,_,rfl,_,rfl,_,rfl,_,_,rfl,rfl,l,e,S,ms,fl.y,r+R,arg,call (s1.trans s2).upT,mo,pr.y fl mf,k6.st.feed.m,λLX H7 rX nL t7=>?_⟩;exact hM _ _ ⟨LX,rfl,k6.step t7 nCl,(s1.trans s2).upT.trans (t7.upT k6.st.feed),rX⟩
  | some d1 =>
   refine Z5 (by rw[dE,ed];rfl) ?_;refine⟨_,rfl,l,2,r+R+VB n,rfl,k6.st.feed.m,by decide,by decide,λz H7 z0 z1 t7=>⟨rfl,_,rfl,?_⟩⟩;have k7:=k6.step t7 nCl;have u7:Ui K H5 H7:=(s1.trans s2).upT.trans (t7.upT k6.st.feed);refine Vb (λc=>?_) (λc=>?_)
   .refine⟨_,rfl,_,rfl,_,rfl,_,rfl,_,_,rfl,rfl,l,e,S,ms,fl.y,r+R,arg,call u7,mo,pr.y fl mf,k7.st.feed.m,λLX H8 rX nL t8=>?_⟩;exact hM _ _ ⟨LX,rfl,k7.step t8 nCl,u7.trans (t8.upT k7.st.feed),rX⟩
   .have rX:Res K H7 (Wr true ms n fl.y) L1:=by
     rw[ed]at adx;refine hide λ_ Yc=>?_;obtain⟨v0,rfl,i0⟩:=Sv adx;obtain⟨s0,es0,pv0⟩:=pr.d fl mf d1 ed;obtain⟨w0,hw0⟩:=fk (own:=true) (n:=n) es0 pv0;refine Yc ?_;have rr:Res K _ (Wr true ms n fl.y) L1:=.inr ⟨v0,d1,w0,s2 _ _ Zz,Zg.up (s1.trans s2).upT _ _ i0,hw0⟩;exact rr.step k6.st.feed t7
    exact hM _ _ ⟨L1,rfl,k7.m,u7,rX⟩
 .intro j H5 Fq;refine hide λ_ Yr=>?_;obtain⟨⟨o5,o6,o7,o8,o9,rfl⟩,ys,es,k5,ef,he⟩:=Fq;refine Yr ?_;rw[lfw,Ss]at ef;subst ef;refine⟨_,rfl,C,_,rfl,.inl ⟨Zu.of k5.c,λp1 Ho=>?_⟩⟩;have s1:=Zv.lay (o:=.tup ys) Ho;refine⟨(sz 0),λp2 ou=>⟨(sz 2),λp3 Ky=>⟨(sz 1),λp4 Xc=>?_⟩⟩⟩;have s2:=Zv.lay (o:=.tup []) ou;have s3:=Zv.lay (o:=.tup [.ref p1,.ref p2]) Ky;have s4:=Zv.lay (o:=.lst [.ref p3]) Xc;have s24:=s2.trans (s3.trans s4);have fq:=s1.trans s24;refine hide λ_ Yo=>?_;obtain⟨w,hw⟩:=Zqg (us:=us) he (os:=[]) ⟨λ_=>rfl,List.nodup_nil,Dc _,λo m=>absurd m V9⟩;refine Yo ?_;refine q p4 _ (.inr ⟨_,.tup [.tup (es.map Ent.u),.tup []],w,Zz,⟨p3,_,rfl,s4.up _ _ (Zp.of Zz),_,_,rfl,⟨p1,ys,rfl,s24.up _ _ (Zp.of Zz),Zw.up fq.upT _ _ k5.a⟩,_,_,rfl,⟨p2,[],rfl,(s3.trans s4).up _ _ (Zp.of Zz),rfl⟩,rfl⟩,hw⟩) ?_ ((k5.st.same fq).m);exact k5.st.free (s1.free (s2.free (s3.free Xc)))
abbrev Jk:Stmt:=top 36
noncomputable abbrev Mp:ZF:=["_law_feed_here","_law_make_here","_law_name","_law_deep","_law_shape","_law_keys","_law_some","_law_first","_law_k","_law_number","_law_inner"]
theorem Yi:Ze Mp XG (Zb Jk):=by trivial
theorem VB_le:∀n,10<=VB n
 | 0=>Yt _
 | n+1=>by show 10<=10+6*VB n;omega
theorem Zkg(ns:ZF)(lo hi:ZN):∃ks:ZF,Jt (ns.map V.str) lo hi=ks.map V.str/\ks.Sublist ns:=by
 unfold Jt;rw[Yv];refine⟨(ns.drop (HT.Uj ns.length 0 lo)).take (HT.Uj ns.length ns.length hi-HT.Uj ns.length 0 lo),?_,(List.take_sublist _ _).trans (List.drop_sublist _ _)⟩;rw[List.map_take,List.map_drop]
def Zko(K:PySem.W.Frag)(H:Hp)(W:Th->Th->Prop)(e:Ai)(L:Addr):Prop:=∃v,H L=some (.lst [v])/\Zg K H e.u v/\W e.u e.w
theorem Res.nf{K:PySem.W.Frag}{H:Hp}{W:Th->Th->Prop}{L e:Addr}(h:Res K H W L)(n:H e=none):L≠e:=λz=>by rcases h with h | ⟨v,u,w,h,_⟩<;>(rw[z,n]at h;cases h)
theorem Zg4{K:PySem.W.Frag}{H:Hp}{W:Th->Th->Prop}:∀{Ls:ZH} {ks:ZF},ks.length=Ls.length->(∀L∈Ls,Res K H W L)->∃cs:List (Addr×ZZ),Ls=cs.map (·.1)/\(∀z∈cs,H z.1=some (.lst z.2))/\((cs.any λz=>z.2.isEmpty)=true\/((cs.any λz=>z.2.isEmpty)=false/\∃es:List Ai,es.map Ai.k=ks/\Paired (Zko K H W) es Ls))
 | [],ks,hk,_=>by
  cases ks with
  | nil=>exact⟨[],rfl,λo m=>absurd m V9,.inr ⟨rfl,[],rfl,.nil⟩⟩
  | cons _ _=>cases hk
 | L::Ls,ks,hk,h=>by
  cases ks with
  | nil=>cases hk
  | cons k ks =>
   obtain⟨cs,e0,hc,alt⟩:=Zg4 (ks:=ks) (Nat.succ.inj hk) λx m=>h x (Ck _ m)
   have on:∀{ws:ZZ},H L=some (.lst ws)->∀z∈(L,ws)::cs,H z.1=some (.lst z.2):=λe z m=>by
    rcases U8.mp m with rfl | m
    .exact e
    .exact hc z m
   rcases h L Br with e | ⟨v,u,w,e,i,q⟩
   .exact⟨(L,[])::cs,by rw[Mu, <-e0],on e,.inl rfl⟩
   .refine⟨(L,[v])::cs,by rw[Mu, <-e0],on e,?_⟩;rcases alt with a | ⟨a,es,ek,pd⟩
    .exact .inl a
    .exact .inr ⟨a,⟨k,u,w⟩::es,by rw[Mu,ek],.cons ⟨v,e,i,q⟩ pd⟩
theorem Az{K:PySem.W.Frag}{H:Hp}{W:Th->Th->Prop}:∀{es:List Ai} {Ls:ZH} {i:Nat} {L:Addr},Paired (Zko K H W) es Ls->Ls[i]?=some L->∃e,es[i]?=some e/\Zko K H W e L
 | _,_,i,L,.nil,h=>by simp at h
 | e::es,M::Ls,i,L,.cons r t,h=>by
  cases i with
  | zero =>
   simp only[List.getElem?_cons_zero,Option.some.injEq]at h;subst h;exact⟨e,rfl,r⟩
  | succ i =>
   simp only[List.getElem?_cons_succ]at h ⊢;exact Az t h
theorem Xh{K:PySem.W.Frag}{H:Hp}{W:Th->Th->Prop}:∀{es:List Ai} {Ls:ZH},Paired (Zko K H W) es Ls->∀e∈es,W e.u e.w
 | _,_,.nil,e,m=>absurd m V9
 | _,_,.cons r t,e,m=>by
  rcases U8.mp m with rfl | m
  .exact r.elim λv z=>z.2.2
  .exact Xh t e m
theorem mh{cs:ZF}:∀{us:List Key},(∀z∈us,z∈cs.map (Sum.inr:Str->Key))->∃zs:ZF,us=zs.map Sum.inr/\∀z∈zs,z∈cs
 | [],_=>⟨[],rfl,λz m=>absurd m V9⟩
 | u::us,h=>by
  obtain⟨c,mc,rfl⟩:=G3.mp (h u Br);obtain⟨zs,rfl,hz⟩:=mh (us:=us) λz m=>h z (Ck _ m);refine⟨c::zs,rfl,λz m=>?_⟩;rcases U8.mp m with rfl | m
  .exact mc
  .exact hz z m
abbrev gV(P:Program)(w:World)(K:W.Frag)(mg:G6)(base:Heap):=Fn P w K mg base 2 "_law_plain_value" QQ (R4 K)
theorem Wq{k n:Nat}(hn:n<=3)(k2:2<=k)(F:Fu K "_law_value" Jk f fd)(m:Bn mg)(Zt:gD P w K mg base)(G1:gN P w K mg base)(Ji:gV P w K mg base)(Jf:Fn P w K mg base k "_law_value" XG (Zzo K n))(Aq:Fn P w K mg base (k+1) "_law_record" XD (Zze K n)):Yk P w K mg base Mm (k+2) f fd XG (Fc K n):=by
 refine F.ok Yi (λvs H Q E h=>?_) λ_ A _ s H vs Q E hr h=>?_
 .obtain⟨l,e,S,ms,x,r,rfl,_⟩:=h
  rfl
 obtain⟨l,e,S,ms,x,r,rfl,mk,mo,ix,fe,q⟩:=h;obtain⟨sh,es⟩:=Option.isSome_iff_exists.mp ix;obtain⟨v0,he⟩:=mk.e;obtain⟨XQ,sv,hS,ev,isv⟩:=mk.get es
 refine⟨_,(@Zd _ _ _ _ _ (sI 4 Yi.nd (@Mn _ _ _ _ _ _ (Jo hr) (iX Zy (pv 1) Zq) (pv 2) (λ_ _=>rfl))) (@Zd _ _ _ _ _ (@Uo _ _ _ _ _ _ _ _ (Uw Df (iX Zy (pv 4) Zq) (qt (Zf Zk (Zf Zk (Zf Zk Zx)))) rfl) (@Z2 _ _ _ (@Y6 _ _ _ _ (@Z9 _ _ _ _ (@Zj _ _ _ _ _ (@Wz _ _ _ _ _ _ _ _ _ _ Ji (hr.m) rfl (@Zj _ _ _ _ _ (pv 0) (@Zj _ _ _ _ _ (pv 4) Zx rfl) rfl) QI rfl rfl) Zx rfl)))) Zl) (@Zd _ _ _ _ _ (@Uo _ _ _ _ _ _ _ _ (Uw Df (iX Zy (pv 4) Zq) (qt (Zf Zk (Zf Zk Zx))) rfl) (@Zd _ _ _ _ _ (sI 5 Yi.nd (@V6 _ _ _ _ _ _ _ _ _ _ T5 (cB (Ag rfl) m.sorted zm (Zf (cT (au rfl) m.set b_set (Zf (cF G1 hr (Zf (pv 0) (Zf (qo B8 (cF Zt hr (Zf (pv 0) (Zf Zq Zx))) (cT Cj m.int tq (Zf (eQ Zgq (pv 3) Zq) Zx))) Zx))) Zx)) Zx)) (@Jx _) (@Jz _ _ _ (iX Zy (pv 4) Zq)))) (@Zd _ _ _ _ _ (sI 6 Yi.nd (pC Mp (Zb Jk) ["_law_key","_law_feed_here","_law_make_here","_law_shape","_law_deep"] [none,some 0,some 1,some 4,some 3] (qL (pv 5)) (λ_ _ _=>(nI 0)) (λ_ _ _=>Yp) (λ_ _ _=>(cF Jf hr (Zf (pv 1) (Zf (pv 2) (Zf (iX Zy (pv 3) Zq) (Zf (qo B7 (pv 4) Zq) Zx)))))))) (@Zd _ _ _ _ _ (@Uo _ _ _ _ _ _ _ _ (Uw Zx2 (ql Zx) (pv 6) rfl) (@Z2 _ _ _ (@Y6 _ _ _ _ (@Z9 _ _ _ _ (@Zj _ _ _ _ _ (@Ys _ _ _ _ _ Zx) Zx rfl)))) Zl) (@Zd _ _ _ _ _ (@Uo _ _ _ _ _ _ _ _ (tQ Za (iX Zy (pv 4) Zq) Zk) (@Z2 _ _ _ (@Y6 _ _ _ _ (@Z9 _ _ _ _ (@Zj _ _ _ _ _ (@Uu _ _ _ _ _ _ _ _ _ Zr rfl m.tuple Yd (@Zj _ _ _ _ _ (@Gu _ Mp (Zb Jk) ["_law_one"] [none] _ _ _ _ _ _ _ _ _ _ rfl (@Mc _ _ _ _ (pv 6)) ⟨rfl,rfl,by decide +kernel,by decide +kernel⟩ (λ_ _ _=>(@R9 _ 0 _ _ (show List.Nodup (["_law_one"]:ZF) from by decide +kernel) rfl (Or.inl rfl) QO)) (λ_ _ _=>Yp) (λ_ _ _=>(@Y3 _ _ _ _ _ _ _ Zh (pv 0) Zq (λ_ _=>rfl))) QO) Zx rfl) QO QO QO QO) Zx rfl)))) Zl) (@Z2 _ _ _ (@Y6 _ _ _ _ (@Z9 _ _ _ _ (@Zj _ _ _ _ _ (@Uu _ _ _ _ _ _ _ _ _ Zr rfl m.tuple Yd (@Zj _ _ _ _ _ (@Gu _ Mp (Zb Jk) QL [none,some 5,some 6] _ _ _ _ _ _ _ _ _ _ rfl (@Uh _ _ _ _ _ _ rfl m.range (@Zj _ _ _ _ _ (@Nk _ _ _ _ _ _ _ _ _ Yl rfl m.len Dz (@Zj _ _ _ _ _ (pv 5) Zx rfl) QI QI rfl rfl) Zx rfl) QO) ⟨rfl,rfl,by decide +kernel,by decide +kernel⟩ (λ_ _ _=>(@R9 _ 0 _ _ (show List.Nodup (QL:ZF) from by decide +kernel) rfl (Or.inl rfl) QO)) (λ_ _ _=>Yp) (λ_ _ _=>(@Ys _ _ _ _ _ (@Zj _ _ _ _ _ (@Y3 _ _ _ _ _ _ _ Zh (pv 1) (pv 0) (λ_ _=>rfl)) (@Zj _ _ _ _ _ (@Y3 _ _ _ _ _ _ _ Zh (@Y3 _ _ _ _ _ _ _ Zh (pv 2) (pv 0) (λ_ _=>rfl)) Zq (λ_ _=>rfl)) Zx rfl) rfl))) QO) Zx rfl) QO QO QO QO) Zx rfl)))))))) Zl) (@Zd _ _ _ _ _ (qi (tQ Fs (pv 3) Zq) (q1 (qr (ql Zx))) Zl) (@Zd _ _ _ _ _ (qi (tQ Za (iX Zy (pv 4) Zq) Zk) (q1 (qr (cF Aq hr (Zf (pv 0) (Zf (pv 1) (Zf (pv 4) (Zf (pv 3) Zx))))))) Zl) (@Zd _ _ _ _ _ (sI 7 Yi.nd (cF Zt hr (Zf (pv 0) (Zf Zq Zx)))) (@Zd _ _ _ _ _ (@Jj _ _ _ _ _ _ _ _ PassesOwn.never rfl (@Uh _ _ _ _ _ _ rfl m.range (Zf (cB Yl m.len Dz (Zf (iX Zy (pv 4) Zq) Zx)) Zx) QO) (nJ 8 Yi.nd) (@Zd _ _ _ _ _ (Rv (iX Zy (iX Zy (pv 4) Zq) (qo Me (qo Ja (pv 7) (pv 8)) (cB Yl m.len Dz (Zf (iX Zy (pv 4) Zq) Zx)))) (De rfl (Z3 (nJ 9 Yi.nd) (Z3 (nJ 2 Yi.nd) (Z3 (nJ 10 Yi.nd) Ju))))) (@Zd _ _ _ _ _ (sI 6 Yi.nd (cF Jf hr (Zf (pv 0) (Zf (pv 1) (Zf (pv 10) (Zf (qo B7 (pv 3) Zq) Zx)))))) (@Z2 _ _ _ (@Uo _ _ _ _ _ _ _ _ (tQ Ii (pv 6) (ql Zx)) (@Z2 _ _ _ (@Y6 _ _ _ _ (@Z9 _ _ _ _ (@Zj _ _ _ _ _ (@Ys _ _ _ _ _ (@Zj _ _ _ _ _ Zk (@Zj _ _ _ _ _ (pv 9) (@Zj _ _ _ _ _ (@Y3 _ _ _ _ _ _ _ Zh (pv 6) Zq (λ_ _=>rfl)) Zx rfl) rfl) rfl)) Zx rfl)))) Zl)))) QO) (q1 (qr (ql Zx)))))))))),?_⟩
 have uN:A.units+3+16*(k+1)+200<cLine:=hr.un;have shk:=mo.ok x sh es;have vb:=VB_le n;refine⟨_,rfl,e,_,_,_,rfl,rfl,he,Vq,_,rfl,S,_,rfl,(show Ue H S (kV (.inr x)) (some sv) from ev ▸ Pd hS (.inr x)),?_⟩;have ug:=isv
 have plain:∀{H1:Hp},Zv H H1->Pln [] sh->(∀v u H',Zg K H' u v->Pv sh u->Ye l r H H'->∀L,H' L=none->Q (.ref L) (upd H' L (.lst [v]))):=λ{H1} s1 pl v u H' i pv t L hL=>by
  refine hide λ_ Z1=>?_;obtain⟨w,hw⟩:=fk (own:=true) (n:=n) es pv;refine Z1 ?_;exact q L _ (.inr ⟨v,u,w,Zz,Zg.up (Zv.lay hL).upT _ _ i,hw⟩) (t.free hL) (t.lay hL)
 cases sh with
 | whole lo hi =>
  refine hide λ_ Yz=>?_;obtain⟨a,ws,rfl,ha,at'⟩:=isv;obtain⟨w1,w2,w3,rfl,i1,i2,i3⟩:=J4 at';cases Zc i1;refine Yz ?_;refine⟨_,rfl,a,_,_,_,rfl,rfl,ha,Yw,(sz 3),λe0 h0=>?_⟩;have s0:=Zv.lay (o:=.tup [.str "whole",.str "truth",.str "text"]) h0;refine⟨e0,_,rfl,.inr (Zp.of Zz),rfl,rfl,_,rfl,iY ?_⟩;refine⟨_,rfl,_,rfl,l,_,.whole lo hi,[],r+VB n-1,rfl,Zg.up s0.upT _ _ ug,shk,(fe.same s0).m,λv u H' i pv t=>⟨(sz 1),λL hL=>?_⟩⟩;exact plain s0 shk v u H' i pv ((((Ye.refl fe).same s0).trans t).m) L hL
 | truth =>
  refine hide λ_ Yq=>?_;obtain⟨a,ws,rfl,ha,at'⟩:=isv;obtain⟨w1,rfl,i1⟩:=Sv at';cases Zc i1;refine Yq ?_;refine⟨_,rfl,a,_,_,_,rfl,rfl,ha,Yw,(sz 3),λe0 h0=>?_⟩;have s0:=Zv.lay (o:=.tup [.str "whole",.str "truth",.str "text"]) h0;refine⟨e0,_,rfl,.inr (Zp.of Zz),rfl,rfl,_,rfl,iY ?_⟩;refine⟨_,rfl,_,rfl,l,_,.truth,[],r+VB n-1,rfl,Zg.up s0.upT _ _ ug,shk,(fe.same s0).m,λv u H' i pv t=>⟨(sz 1),λL hL=>?_⟩⟩;exact plain s0 shk v u H' i pv ((((Ye.refl fe).same s0).trans t).m) L hL
 | text nn =>
  refine hide λ_ Yy=>?_;obtain⟨a,ws,rfl,ha,at'⟩:=isv;obtain⟨w1,w2,rfl,i1,i2⟩:=U5 at';cases Zc i1;refine Yy ?_;refine⟨_,rfl,a,_,_,_,rfl,rfl,ha,Yw,(sz 3),λe0 h0=>?_⟩;have s0:=Zv.lay (o:=.tup [.str "whole",.str "truth",.str "text"]) h0;refine⟨e0,_,rfl,.inr (Zp.of Zz),rfl,rfl,_,rfl,iY ?_⟩;refine⟨_,rfl,_,rfl,l,_,.text nn,[],r+VB n-1,rfl,Zg.up s0.upT _ _ ug,shk,(fe.same s0).m,λv u H' i pv t=>⟨(sz 1),λL hL=>?_⟩⟩;exact plain s0 shk v u H' i pv ((((Ye.refl fe).same s0).trans t).m) L hL
 | row b y nn =>
  refine hide λ_ Yg=>?_;obtain⟨a,ws,rfl,ha,at'⟩:=isv;obtain⟨w1,w2,w3,rfl,i1,i2,i3⟩:=J4 at';cases Zc i2;cases Zc i3;have hb:∀b:Bool,A0 (.str (if b=true then ("row" : Str) else "map")) [.str "whole",.str "truth",.str "text"]=false/\A0 (.str (if b=true then ("row" : Str) else "map")) [.str "row",.str "map"]=true/\decide (V.str (if b=true then ("row" : Str) else "map")=V.str "row")=b:=QA
  cases Zc i1;refine Yg ?_;refine⟨_,rfl,a,_,_,_,rfl,rfl,ha,Yw,(sz 3),λe0 h0=>?_⟩;have s0:=Zv.lay (o:=.tup [.str "whole",.str "truth",.str "text"]) h0;refine⟨e0,_,rfl,.inr (Zp.of Zz),rfl,rfl,_,rfl,Z5 (hb b).1 ?_⟩;refine⟨_,rfl,a,_,_,_,rfl,rfl,s0.up _ _ ha,Yw,(sz 2),λe1 h1=>?_⟩;have s1:=s0.trans (Zv.lay (o:=.tup [.str "row",.str "map"]) h1);refine⟨e1,_,rfl,.inr (Zp.of Zz),rfl,rfl,_,rfl,Vi (hb b).2.1 ?_⟩;have t1:=(Ye.refl fe).same s1;refine⟨_,rfl,_,rfl,l,4,r+(VB n-1),rfl,t1.feed.m,by decide,by decide,λd H2 d0 d1 t2=>?_⟩;refine⟨_,rfl,_,_,rfl,rfl,.inr ⟨_,rfl,_,_,rfl,rfl,.inr ⟨by split<;>decide,by split<;>decide⟩,?_⟩⟩;refine hide λ_ Yc=>?_
  obtain⟨mm,emm,m3,mz⟩:∃mm:Nat,d*(if decide ((n:Int)>0)=true then (1:Int) else 0)=(mm:Int)/\mm<=3/\(n=0->mm=0):=by
   by_cases z:(n:Int)>0
   .rw[if_pos (Sd z)];exact⟨d.toNat,by omega,by omega,λy=>by omega⟩
   .rw[if_neg (by simpa using z)];exact⟨0,by omega,by omega,λ_=>rfl⟩
  refine Yc ?_;have t12:=t1.trans t2;refine⟨l,mm,r+(VB n-3),by rw[<-emm];rfl,t2.feed.m,by omega,λC cs H3 hC nC okC t3=>?_⟩;have Qm:=t12.trans t3;refine⟨C,cs.map Sum.inr,rfl,by rw[List.map_map];exact Zu.of hC,?_,λSx uz hSx ndz mz' lz=>?_⟩
  .rw[Yv,okC.len];exact Qe (show mm+1<=9 by omega) QI
  refine hide λ_ Yr=>?_;obtain⟨zs,rfl,hzs⟩:=mh (us:=uz) λz m=>(mz' z).mp m;refine Yr ?_;rw[Yv,Yv,okC.len]at lz;have sS:=Zv.lay (o:=z8 P w Sx (zs.map Sum.inr)) hSx;refine⟨Sx,zs,rfl,Zz,by omega,λKL ns hKL pz _=>?_⟩;have sK:=Zv.lay (o:=.lst (ns.map V.str)) hKL;have t14:=Qm.same (sS.trans sK);have u14:=t14.upT (K:=K) fe;have ha4:=u14.tup _ _ ha;refine hide λ_ Yo=>?_;obtain⟨ks,eks,sks⟩:=Zkg ns none (some nn);refine Yo ?_;refine⟨_,rfl,a,_,_,_,rfl,rfl,ha4,at2,_,rfl,KL,_,rfl,Zu.of Zz,?_⟩;rw[eks];intro KS hKS;have sKS:=Zv.lay (o:=.lst (ks.map V.str)) hKS;have t15:=t14.same sKS;have hK15:upd (upd (upd H3 Sx (z8 P w Sx (zs.map Sum.inr))) KL (.lst (ns.map V.str))) KS (.lst (ks.map V.str)) KS=some (.lst (ks.map V.str)):=Zz;have lks:ks.length<=mm:=Vf sks.length_le (by rw[pz.length_eq];exact lz);have mks:∀k∈ks,k∈U6:=λk m=>okC.mem k (hzs k (pz.mem_iff.mp (sks.subset m)));have nKS0:H KS=none:=t14.free hKS;have nKSl:KS≠l:=fe.ne nKS0;have u15:=t15.upT (K:=K) fe;refine⟨_,rfl,KS,rfl,⟨_,Zu.of hK15⟩,λD fp sx hD=>?_⟩;have nD0:H D=none:=t15.free hD;have nDl:D≠l:=fe.ne nD0;have nKD:KS≠D:=Z0 hK15 hD
  refine Ve (K:=K) (xs:=ks.map V.str) (λi ys Z H5=>(∃o,Z=[o,some (.ref l),some (.ref e),some (.ref a),some (.int (n:Int))])/\Ye l (r+(3-i)*(VB n / 6)) H H5/\H5 KS=some (.lst (ks.map V.str))/\H5 D=some (.lst ys)/\∃Ls:ZH,ys=Ls.map V.ref/\Ls.length=i/\∀L∈Ls,Res K H5 (cj true ms n y) L/\L≠D/\L≠KS)
   ⟨⟨_,rfl⟩,(t15.lay hD).m,(Zv.lay hD) _ _ hK15,Zz,[],rfl,rfl,λL m=>absurd m V9⟩ ?_ ?_ ?_
  .intro i ys Z H5 hi Fx;refine hide λ_ Z1=>?_;obtain⟨_,_,h5,Qv,_⟩:=Fx;refine Z1 ?_;exact⟨Zu.of h5,Qv⟩
  .intro i xk ys Z H5 hx Nf;refine hide λ_ Yz=>?_;obtain⟨⟨o,rfl⟩,t5,h5,Qv,Ls,rfl,lL,hL⟩:=Nf;refine Yz ?_;have hi:i<ks.length:=by rw[<-Yv V.str];exact(Bl.mp hx).1
   cases n with
   | zero=>rw[mz rfl]at lks;omega
   | succ n' =>
    have vbe:VB (n'+1)=10+6*VB n':=rfl;have vb6:VB n'<=VB (n'+1) / 6:=QU
    generalize VB (n'+1) / 6=vd at *;have eb:(3-i)*vd=(3-(i+1))*vd+vd:=Xg QU;have u5:=t5.upT (K:=K) fe;have arg:[V.ref l,V.ref e,V.str y,V.int (((n'+1:Nat):Int)-1)]=[V.ref l,V.ref e,V.str y,V.int (n':Int)]:=by rw[show ((n'+1:Nat):Int)-1=(n':Int) by omega]
    refine Um ?_;refine⟨_,rfl,_,rfl,_,rfl,a,_,_,_,rfl,rfl,u5.tup _ _ ha,Vq,_,rfl,_,_,rfl,rfl,l,e,S,ms,y,r+(3-(i+1))*vd,arg,mk.up u5,mo,shk.1,t5.feed.m,λLX H6 rX nL t6=>?_⟩;have h6D:=t6.keep _ _ nDl Qv;have nLD:LX≠D:=λz=>by rw[z,Qv]at nL;cases nL
    have nLK:LX≠KS:=λz=>by rw[z,h5]at nL;cases nL
    refine⟨h6D,?_,⟨_,rfl⟩,(t5.trans t6).put nD0 (fe.far nD0),by rw[Zm nKD];exact t6.keep _ _ nKSl h5,Zz,Ls++[LX],by rw[Gw];rfl,by rw[Nl,ZU,lL],λL m=>?_⟩
    .rw[Yv,lL];exact Yx QU
    .rcases M6.mp m with m | m
     .refine hide λ_ Yq=>?_;obtain⟨z,n1,n2⟩:=hL L m;refine Yq ?_;exact⟨(z.step t5.feed t6).put h6D n1,n1,n2⟩
     .rw[Nw.mp m];exact⟨rX.put h6D nLD,nLD,nLK⟩
  .intro ys Z H5 Oa;refine hide λ_ Yy=>?_;obtain⟨⟨o,rfl⟩,t5,h5,Qv,Ls,rfl,lL,hL⟩:=Oa;refine Yy ?_;have t5:=t5.mono (r':=r) QU;have u5:=t5.upT (K:=K) fe;rw[Yv]at lL;refine⟨(sz 0),λeA hA=>?_⟩;have sA:=Zv.lay (o:=.lst []) hA;refine hide λ_ Yg=>?_;obtain⟨cs,e0,hcs,alt⟩:=Zg4 (ks:=ks) lL.symm λL m=>((hL L m).1).same sA;refine Yg ?_
   have hD':Zu K (upd H5 eA (.lst [])) D (cs.map λz=>V.ref z.1):=by
    rw[show (cs.map λz=>V.ref z.1)=(cs.map (·.1)).map V.ref by rw[List.map_map];rfl, <-e0];exact Zu.of (sA _ _ Qv)
   refine⟨_,rfl,eA,D,cs,rfl,rfl,Zu.of Zz,hD',λz mz=>⟨((hL z.1 (by rw[e0];exact List.mem_map_of_mem mz)).1).nf hA,hcs z mz⟩,(by show A.units+3+10<cLine;omega),_,rfl,?_⟩;have t6:=t5.same sA;have ha6:=(t6.upT (K:=K) fe).tup _ _ ha;rcases alt with c | ⟨c,ents,ek,pd⟩
   .refine Vi c ⟨(sz 0),λp3 Ky=>⟨(sz 1),λp4 Xc=>?_⟩⟩;have s3:=Zv.lay (o:=.tup []) Ky;have s4:=Zv.lay (o:=.lst [.ref p3]) Xc;refine hide λ_ Yc=>?_;obtain⟨w,hw⟩:=fk (own:=true) (n:=n) (d:=.tup []) es trivial;refine Yc ?_;exact q p4 _ (.inr ⟨_,.tup [],w,Zz,⟨p3,[],rfl,s4.up _ _ (Zp.of Zz),rfl⟩,hw⟩) (t6.free (s3.free Xc)) (t6.same (s3.trans s4))
   .refine Z5 c ?_;have le:ents.length=Ls.length:=Paired.length pd;have l3:ents.length<=3:=QU
    have hal:∀en∈ents,en.k∈U6/\cj true ms n y en.u en.w:=λen me=>⟨mks _ (by rw[<-ek];exact List.mem_map_of_mem me),Xh pd en me⟩;refine⟨_,rfl,a,_,_,_,rfl,rfl,ha6,Yw,rfl,_,rfl,?_⟩;cases b with
    | true =>
     refine iY ?_;refine⟨_,rfl,D,rfl,⟨_,Zu.of (sA _ _ Qv)⟩,λD2 fp2 sx2 Nq=>?_⟩;refine Ve (K:=K) (xs:=Ls.map V.ref) (λi zs Z H7=>(∃o,Z=[o])/\Zv _ H7/\H7 D2=some (.lst zs)/\Zw K H7 ((ents.take i).map Ai.u) zs) ⟨⟨_,rfl⟩,Zv.lay Nq,Zz,rfl⟩ ?_ ?_ ?_
     .intro i zs Z H7 hi Oh;refine hide λ_ Yr=>?_;obtain⟨_,s7,h7,_⟩:=Oh;refine Yr ?_;exact⟨Zu.of (s7 _ _ (sA _ _ Qv)),h7⟩
     .intro i xv zs Z H7 hx Wa;refine hide λ_ Yo=>?_;obtain⟨⟨o,rfl⟩,s7,h7,az⟩:=Wa;rw[Jb]at hx;obtain⟨L,eL,rfl⟩:=Cy.mp hx;obtain⟨en,ee,v,hv,iv,_⟩:=Az pd eL;refine Yo ?_;refine Um ?_;have uS:Ui K H7 (upd H7 D2 (.lst (zs++[v]))):=Zi h7;refine⟨_,rfl,L,_,_,_,rfl,rfl,Zu.of (s7 _ _ hv),Yw,h7,?_,⟨_,rfl⟩,s7.put Nq,Zz,?_⟩
      .rw[<-az.length,Yv,Cs];exact Yx QU
      .rw[Zs ee,Gw];exact Zw.append (Zw.up uS _ _ az) (Zw.one (Zg.up (s7.upT.trans uS) _ _ iv))
     .intro zs Z H7 Xa;refine hide λ_ Z1=>?_;obtain⟨_,s7,h7,az⟩:=Xa;refine Z1 ?_;rw[Yv, <-le,Ss]at az;refine⟨D2,zs,rfl,.inl ⟨Zu.of h7,λp3 Ky=>⟨(sz 1),λp4 Xc=>?_⟩⟩⟩;have s3:=Zv.lay (o:=.tup zs) Ky;have s4:=Zv.lay (o:=.lst [.ref p3]) Xc;exact q p4 _ (.inr ⟨_,.tup (ents.map Ai.u),_,Zz,⟨p3,zs,rfl,s4.up _ _ (Zp.of Zz),Zw.up (s3.trans s4).upT _ _ az⟩,Wr.of es ⟨ents,l3,hal,rfl,rfl⟩⟩) (t6.free (s7.free (s3.free Xc))) (t6.same (s7.trans (s3.trans s4)))
    | false =>
     refine iN ?_;have lkm:(ks.map V.str).length=ks.length:=Yv _;refine⟨_,rfl,KS,_,rfl,.inl (Zu.of (sA _ _ h5)),((ks.map V.str).length:Int),rfl,by omega,by omega,λD2 fp2 sx2 Nq=>?_⟩;refine Mz (n:=(((ks.map V.str).length:Nat):Int).toNat) (λi zs Z H7=>(∃o,Z=[o,some (.ref KS),some (.ref D)])/\Zv _ H7/\H7 D2=some (.lst zs)/\Zw K H7 ((ents.take i).map λe=>.tup [.str e.k,e.u]) zs) ⟨⟨_,rfl⟩,Zv.lay Nq,Zz,rfl⟩ ?_ ?_ ?_
     .intro i zs Z H7 hi hI18_;refine hide λ_ Yz=>?_;obtain⟨_,s7,h7,_⟩:=hI18_;refine Yz ?_;exact h7
     .intro i zs Z H7 hi Ol;refine hide λ_ Yq=>?_;obtain⟨⟨o,rfl⟩,s7,h7,az⟩:=Ol
      have hi:i<Ls.length:=by
       have:(ks.map V.str).length=ks.length:=Yv _;omega
      have eL:Ls[i]?=some Ls[i]:=Bh hi;obtain⟨en,ee,v,hv,iv,_⟩:=Az pd eL;refine Yq ?_;have ekk:ks[i]?=some en.k:=by rw[<-ek,Jb,ee];rfl
      have aK:Ll (ks.map V.str) (0+(i:Int))=some (.str en.k):=by rw[Int.zero_add];exact Vj (by rw[Jb,ekk];rfl)
      have aL:Ll (Ls.map V.ref) (0+(i:Int))=some (.ref Ls[i]):=by rw[Int.zero_add];exact Vj (by rw[Jb,eL];rfl)
      refine Um ?_;refine⟨_,rfl,_,rfl,KS,_,_,_,rfl,rfl,Zu.of (s7 _ _ (sA _ _ h5)),aK,_,rfl,_,rfl,D,_,_,_,rfl,rfl,Zu.of (s7 _ _ (sA _ _ Qv)),aL,_,_,_,_,rfl,rfl,Zu.of (s7 _ _ hv),Yw,(sz 2),λe2 h2=>?_⟩;have s2:=Zv.lay (o:=.tup [.str en.k,v]) h2;have h8:=s2 _ _ h7;have uS:Ui K _ (upd _ D2 (.lst (zs++[.ref e2]))):=Zi h8;refine⟨h8,?_,⟨_,rfl⟩,(s7.trans s2).put Nq,Zz,?_⟩
      .rw[<-az.length,Yv,Cs];exact Yx QU
      .rw[Zs ee,Gw];exact Zw.append (Zw.up (s2.upT.trans uS) _ _ az) (Zw.one (Zg.up uS _ _ ⟨e2,_,rfl,Zp.of Zz,_,_,rfl,rfl,_,_,rfl,Zg.up (s7.trans s2).upT _ _ iv,rfl⟩))
     .intro zs Z H7 Od;refine hide λ_ Yy=>?_;obtain⟨_,s7,h7,az⟩:=Od;refine Yy ?_
      have lz:ents.length<=(((ks.map V.str).length:Nat):Int).toNat:=by
       have:(ks.map V.str).length=ks.length:=Yv _;omega
      rw[T0l lz]at az;refine⟨D2,zs,rfl,.inl ⟨Zu.of h7,λp3 Ky=>⟨(sz 1),λp4 Xc=>?_⟩⟩⟩;have s3:=Zv.lay (o:=.tup zs) Ky;have s4:=Zv.lay (o:=.lst [.ref p3]) Xc;exact q p4 _ (.inr ⟨_,.tup (ents.map λe=>.tup [.str e.k,e.u]),_,Zz,⟨p3,zs,rfl,s4.up _ _ (Zp.of Zz),Zw.up (s3.trans s4).upT _ _ az⟩,Wr.of es ⟨ents,l3,hal,rfl,rfl⟩⟩) (t6.free (s7.free (s3.free Xc))) (t6.same (s7.trans (s3.trans s4)))
 | rcd fs us =>
  refine hide λ_ Yg=>?_;obtain⟨a,ws,rfl,ha,at'⟩:=isv;obtain⟨w1,w2,w3,rfl,i1,i2,i3⟩:=J4 at';cases Zc i1;refine Yg ?_;have ha00:=ha;refine⟨_,rfl,a,_,_,_,rfl,rfl,ha,Yw,(sz 3),λe0 h0=>?_⟩;have s0:=Zv.lay (o:=.tup [.str "whole",.str "truth",.str "text"]) h0;refine⟨e0,_,rfl,.inr (Zp.of Zz),rfl,rfl,_,rfl,iN ?_⟩;refine⟨_,rfl,a,_,_,_,rfl,rfl,s0.up _ _ ha,Yw,(sz 2),λe1 h1=>?_⟩;have s1:=s0.trans (Zv.lay (o:=.tup [.str "row",.str "map"]) h1);refine⟨e1,_,rfl,.inr (Zp.of Zz),rfl,rfl,_,rfl,iN ?_⟩;have t1:=(Ye.refl fe).same s1;have ha:=s1.up _ _ ha;refine⟨_,rfl,_,_,rfl,rfl,_,rfl,?_⟩;cases n with
  | zero =>
   refine Vi rfl ⟨(sz 0),λL hL=>?_⟩;exact q L _ (.inl Zz) (t1.free hL) ((t1.lay hL).m)
  | succ n' =>
   refine Z5 (F9 QU) ?_;refine⟨_,rfl,a,_,_,_,rfl,rfl,ha,Yw,rfl,_,rfl,iY ?_⟩;have vbe:VB (n'+1)=10+6*VB n':=rfl;refine⟨_,rfl,_,rfl,_,rfl,_,rfl,l,e,S,ms,_,fs,us,r,rfl,mk.up s1.upT,mo,Zg.up s1.upT _ _ ug,shk,t1.feed.m,λL H' rs nL t=>?_⟩;refine q L H' ?_ (t1.free nL) (t1.trans t);exact rs.imp id λ⟨v,u,w,e',i,z⟩=>⟨v,u,w,e',i,_,es,z⟩
 | cho fs us o =>
  refine hide λ_ Yc=>?_;obtain⟨a,ws,rfl,ha,at'⟩:=isv;obtain⟨w1,w2,w3,w4,rfl,i1,i2,i3,i4⟩:=Qk at';cases Zc i1;obtain⟨fa,fws,rfl,Mg,afs⟩:=i2;refine Yc ?_;have pr:V0 ms fs:=shk.1;have ha00:=ha;refine⟨_,rfl,a,_,_,_,rfl,rfl,ha,Yw,(sz 3),λe0 h0=>?_⟩;have s0:=Zv.lay (o:=.tup [.str "whole",.str "truth",.str "text"]) h0;refine⟨e0,_,rfl,.inr (Zp.of Zz),rfl,rfl,_,rfl,iN ?_⟩;refine⟨_,rfl,a,_,_,_,rfl,rfl,s0.up _ _ ha,Yw,(sz 2),λe1 h1=>?_⟩;have s1:=s0.trans (Zv.lay (o:=.tup [.str "row",.str "map"]) h1);refine⟨e1,_,rfl,.inr (Zp.of Zz),rfl,rfl,_,rfl,iN ?_⟩;have t1:=(Ye.refl fe).same s1;have ha:=s1.up _ _ ha;refine⟨_,rfl,_,_,rfl,rfl,_,rfl,?_⟩;cases n with
  | zero =>
   refine Vi rfl ⟨(sz 0),λL hL=>?_⟩;exact q L _ (.inl Zz) (t1.free hL) ((t1.lay hL).m)
  | succ n' =>
   refine Z5 (F9 QU) ?_;refine⟨_,rfl,a,_,_,_,rfl,rfl,ha,Yw,rfl,_,rfl,iN ?_⟩;have vbe:VB (n'+1)=10+6*VB n':=rfl;refine⟨_,rfl,l,8,r+5*VB n',rfl,t1.feed.m,by decide,by decide,λfst H2 f0 f1 t2=>?_⟩;have t12:=t1.trans t2;have u12:=t12.upT (K:=K) fe;have lfw:fws.length=fs.length:=by rw[<-afs.length,Yv]
   have l5:=pr.len;have ha2:=(t2.upT (K:=K) t1.feed).tup _ _ ha;refine⟨_,rfl,a,_,_,_,rfl,rfl,ha2,Vq,fa,_,rfl,.inr (u12.tup _ _ Mg),(fws.length:Int),rfl,by omega,by omega,?_⟩;refine Cz (n:=((fws.length:Nat):Int).toNat) (λi Z H5=>(∃o2 o5 o6 o8 o9 o10,Z=[some (.ref l),some (.ref e),o2,some (.int ((n'+1:Nat):Int)),some (.ref a),o5,o6,some (.int fst),o8,o9,o10])/\Ye l (r+(5-i)*VB n') H H5) ⟨⟨_,_,_,_,_,_,rfl⟩,t12.m⟩ ?_ ?_
   .intro i Z H5 hi Zjz;refine hide λ_ Yr=>?_;obtain⟨⟨o2,o5,o6,o8,o9,o10,rfl⟩,t5⟩:=Zjz;refine Yr ?_;have vf:i<fs.length:=QU
    have eb:(5-i)*VB n'=(5-(i+1))*VB n'+VB n':=Xg QU;have u5:=t5.upT (K:=K) fe;have hj0:0<=(fst+(0+(i:Int))) % (fws.length:Int):=Int.emod_nonneg _ QU;have hj1:(fst+(0+(i:Int))) % (fws.length:Int)<(fws.length:Int):=Int.emod_lt_of_pos _ QU;generalize hj:(fst+(0+(i:Int))) % (fws.length:Int)=j at hj0 hj1;refine hide λ_ Yo=>?_;obtain⟨jn,rfl⟩:∃jn:Nat,j=jn:=⟨j.toNat,by omega⟩;have ej:fws[jn]?=some fws[jn]:=Bh QU;obtain⟨t,et,it⟩:=afs.got ej;rw[Jb]at et;obtain⟨fl,ee,rfl⟩:=Cy.mp et;have mf:=Cr ee;have eI:Ll fws ((fst+(0+(i:Int))) % (fws.length:Int))=some fws[jn]:=by rw[hj];exact Vj ej
    obtain⟨b,bs,eb',hb,ab⟩:=Zg.up u5 _ _ it;rw[eb']at eI;obtain⟨b1,b2,b3,rfl,j1,j2,j3⟩:=J4 ab;cases Zc j1;cases Zc j2;cases Zc j3;refine Yo ?_;have ha5:=(t5.upT (K:=K) fe).tup _ _ ha00;have Zq6:=u5.tup _ _ Mg;have arg:[V.ref l,V.ref e,V.str fl.y,V.int (((n'+1:Nat):Int)-1)]=[V.ref l,V.ref e,V.str fl.y,V.int (n':Int)]:=by rw[show ((n'+1:Nat):Int)-1=(n':Int) by omega]
    refine⟨_,rfl,a,_,_,_,rfl,rfl,ha5,Vq,_,rfl,_,rfl,_,_,rfl,rfl,_,rfl,a,_,_,_,rfl,rfl,ha5,Vq,fa,_,rfl,.inr Zq6,_,_,rfl,rfl,(by show (0:Int)<_;omega),fa,_,_,_,rfl,rfl,Zq6,eI,b,_,rfl,hb,rfl,_,_,rfl,_,_,rfl,_,_,rfl,rfl,?_⟩;refine⟨_,rfl,_,rfl,_,rfl,_,rfl,_,_,rfl,rfl,l,e,S,ms,fl.y,r+(5-(i+1))*VB n',arg,mk.up u5,mo,pr.y fl mf,t5.feed.m,λLX H6 rX nL t6=>?_⟩;refine⟨_,rfl,(sz 0),λeA hA=>?_⟩;have sA:=Zv.lay (o:=.lst []) hA;have un1:A.units+3<cLine:=QU
    have t7:=(t5.trans t6).same sA;rcases rX.same sA with hO | ⟨v,u,w,hO,iO,qO⟩
    .exact⟨LX,eA,[],rfl,rfl,Zu.of hO,Zu.of Zz,un1,_,rfl,Z5 rfl ⟨⟨_,_,_,_,_,_,rfl⟩,t7⟩⟩
    .refine⟨LX,eA,[v],rfl,rfl,Zu.of hO,Zu.of Zz,un1,_,rfl,Vi rfl ?_⟩;refine⟨_,rfl,_,rfl,_,_,_,_,rfl,rfl,Zu.of hO,Yw,(sz 3),λp3 Ky=>⟨(sz 1),λp4 Xc=>?_⟩⟩;have s3:=Zv.lay (o:=.tup [.str "arm",.int fl.n,v]) Ky;have s4:=Zv.lay (o:=.lst [.ref p3]) Xc;refine q p4 _ (.inr ⟨_,.tup [.str "arm",.int fl.n,u],.tup [.str "arm",.int fl.n,w],Zz,⟨p3,_,rfl,s4.up _ _ (Zp.of Zz),_,_,rfl,rfl,_,_,rfl,rfl,_,_,rfl,Zg.up (s3.trans s4).upT _ _ iO,rfl⟩,_,es,.inl ⟨fl,mf,u,w,qO,rfl,rfl⟩⟩) (t7.free (s3.free Xc)) ((t7.same (s3.trans s4)).m)
   .intro Z H5 Xp;refine hide λ_ Z1=>?_;obtain⟨⟨o2,o5,o6,o8,o9,o10,rfl⟩,t5⟩:=Xp;refine Z1 ?_;refine⟨(sz 0),λL hL=>?_⟩;exact q L _ (.inl Zz) (t5.free hL) ((t5.lay hL).m)
abbrev Y5:Stmt:=top 39
noncomputable abbrev Vr:ZF:=["_law_feed_here","_law_make_here","_law_name","_law_value_here","_law_shape","_law_known","_law_numbers_here","_law_some","_law_inner"]
theorem V1:Ze Vr XY (Zb Y5):=by trivial
noncomputable def WB:Nat->Nat
 | 0=>300
 | n+1=>5*WB n+300
theorem WB_le:∀n,300<=WB n
 | 0=>Yt _
 | n+1=>by show 300<=5*WB n+300;omega
inductive Zza(K:W.Frag)(n:Nat)(vs:ZZ)(H:Hp)(Q:VK):Prop
 | mk(l e S:Addr)(ms:List (Str×Yn))(x:Str)(u w:Th)(v:V)(r:Nat)(Vx:vs=[.ref l,.ref e,.str x,v])(Vz:M5 K H e S ms)(Vp:Nd ms)(Jn:Wr true ms n x u w)(Mf:Zg K H u v)(Co:Fd (r+WB n) H l)(Xo:∀v' u' w' H',Zg K H' u' v'->Wr false ms n x u' w'->Ye l r H H'->Q v' H')
def C5(K:W.Frag)(n:Nat):Sp:=λvs H Q _=>Zza K n vs H Q
def gz(K:W.Frag):Nat->Sp
 | 0=>λ_ _ _ _=>False
 | n+1=>C5 K n
theorem Qb{n:Nat}{ms:List (Str×Yn)}{y:Str}{u w:Th}(h:cj true ms n y u w):∃n',n=n'+1:=by
 cases n with
 | zero=>exact False.elim h
 | succ n'=>exact⟨n',rfl⟩
noncomputable def A2:ZC:=[1,4,7,50,100,998]
theorem Zxo:∀n∈A2,0<=n/\n<=1000:=by decide
theorem alw{j:L2.St}{H:Hp}{A B:Hp->Prop}(h:A H):T3 j H λok H3=>if ok=true then A H3 else B H3:=by
 show if true=true then A H else B H
 exact Vi rfl h
abbrev gI(P:Program)(w:World)(K:W.Frag)(mg:G6)(base:Heap):=Fn P w K mg base 4 "_law_item" XR (jz K 2)
theorem Ql{k n:Nat}(k4:4<=k)(F:Fu K "_law_wild" Y5 f fd)(m:Bn mg)(Zt:gD P w K mg base)(Yf:gI P w K mg base)(Gf:Fn P w K mg base k "_law_wild" XY (gz K n)):Yk P w K mg base Mm (k+1) f fd XY (C5 K n):=by
 refine F.ok V1 (λvs H Q E h=>?_) λ_ A _ s H vs Q E hr h=>?_
 .obtain⟨l,e,S,ms,x,u,w,v,r,rfl,_⟩:=h
  rfl
 obtain⟨l,e,S,ms,x,u,wt,v,r,rfl,mk,mo,hw,iu,fe,q⟩:=h;obtain⟨sh,es,hw⟩:=hw.out;obtain⟨v0,he⟩:=mk.e;obtain⟨XQ,sv,hS,ev,isv⟩:=mk.get es
 refine⟨_,(@Zd _ _ _ _ _ (sI 4 V1.nd (@Mn _ _ _ _ _ _ (Jo hr) (iX Zy (pv 1) Zq) (pv 2) (λ_ _=>rfl))) (@Zd _ _ _ _ _ (qi (tQ Za (iX Zy (pv 4) Zq) Zk) (q1 (qr (cT Zr m.tuple Yd (Zf (pC Vr (Zb Y5) ["_law_one","_law_feed_here","_law_make_here","_law_shape"] [none,some 0,some 1,some 4] (qI (pv 3)) (λ_ _ _=>(nI 0)) (λ_ _ _=>Yp) (λ_ _ _=>(cF Gf hr (Zf (pv 1) (Zf (pv 2) (Zf (iX Zy (pv 3) Zq) (Zf (pv 0) Zx))))))) Zx)))) Zl) (@Zd _ _ _ _ _ (qi (tQ Za (iX Zy (pv 4) Zq) Zk) (q1 (qr (cT Zr m.tuple Yd (Zf (pC Vr (Zb Y5) ["_law_key","_law_one","_law_feed_here","_law_make_here","_law_shape"] [none,none,some 0,some 1,some 4] (qI (pv 3)) (λ_ _ _=>(De rfl (Z3 (nI 0) (Z3 (nI 1) Ju)))) (λ_ _ _=>Yp) (λ_ _ _=>(qt (Zf (pv 0) (Zf (cF Gf hr (Zf (pv 2) (Zf (pv 3) (Zf (iX Zy (pv 4) Zq) (Zf (pv 1) Zx))))) Zx))))) Zx)))) Zl) (@Zd _ _ _ _ _ (@Uo _ _ _ _ _ _ _ _ (tQ Za (iX Zy (pv 4) Zq) Zk) (@Zd _ _ _ _ _ (@V2 _ 5 Vr (Zb Y5) ["_law_field","_law_one","_law_feed_here","_law_make_here"] [none,none,some 0,some 1] _ _ _ _ _ _ _ _ _ _ _ _ _ V1.nd rfl QO rfl (@fm _ _ _ _ _ _ _ _ _ rfl m.zip (Zf (iX Zy (pv 4) Zq) (Zf (iX Zy (pv 3) Zq) Zx)) QO QO) ⟨rfl,rfl,by decide +kernel,by decide +kernel⟩ (λ_ _ _=>(De rfl (Z3 (nI 0) (Z3 (nI 1) Ju)))) (λ_ _ _=>Yp) (λ_ _ _=>(cF Gf hr (Zf (pv 2) (Zf (pv 3) (Zf (iX Zy (pv 0) Zq) (Zf (pv 1) Zx)))))) QO QO QO) (@Zd _ _ _ _ _ (sI 6 V1.nd (pC Vr (Zb Y5) ["_law_field"] [none] (qI (iX Zy (pv 4) Zq)) (λ_ _ _=>(nI 0)) (λ_ _ _=>Yp) (λ_ _ _=>(iX Zy (pv 0) Zq)))) (@Zd _ _ _ _ _ (@V2 _ 7 Vr (Zb Y5) QD [none,some 6,some 0] _ _ _ _ _ _ _ _ _ _ _ _ _ V1.nd rfl QO rfl (@Mc _ _ _ _ (@Z9 _ _ _ _ (@V4 _ _ [1,4,7,50,100,998] rfl))) ⟨rfl,rfl,by decide +kernel,by decide +kernel⟩ (λ_ _ _=>(nI 0)) (λ_ _ _=>(@Gn _ _ _ (qp (@pw_and _ _ _ _ _ _ _ (Uw Ua (pv 0) (pv 1) rfl) (@pw_and1 _ _ _ _ (tQ Za (cF Zt hr (Zf (pv 2) (Zf Zq Zx))) Zq)))))) (λ_ _ _=>(pv 0)) QO QO QO) (q1 (qr (qt (Zf (cT Zr m.tuple Yd (Zf (pv 5) Zx)) (Zf (cT Zr m.tuple Yd (Zf (pC Vr (Zb Y5) QR [none,some 0] (qL (pv 7)) (λ_ _ _=>(nI 0)) (λ_ _ _=>Yp) (λ_ _ _=>(qt (Zf (pv 0) (Zf (cF Yf hr (Zf (pv 1) (Zf Zq Zx))) Zx))))) Zx)) Zx)))))))) Zl) (@Zd _ _ _ _ _ (@Uo _ _ _ _ _ _ _ _ (tQ Za (iX Zy (pv 4) Zq) Zk) (@Zd _ _ _ _ _ (sI 6 V1.nd (pC Vr (Zb Y5) ["_law_arm"] [none] (qI (iX Zy (pv 4) Zq)) (λ_ _ _=>(nI 0)) (λ_ _ _=>Yp) (λ_ _ _=>(iX Zy (pv 0) Zq)))) (@Zd _ _ _ _ _ (@V2 _ 7 Vr (Zb Y5) ["_law_number","_law_numbers_here"] [none,some 6] _ _ _ _ _ _ _ _ _ _ _ _ _ V1.nd rfl QO rfl (@Mc _ _ _ _ (@Z9 _ _ _ _ (@V4 _ _ [1,4,7,50,100,998] rfl))) ⟨rfl,rfl,by decide +kernel,by decide +kernel⟩ (λ_ _ _=>(nI 0)) (λ_ _ _=>(@Gn _ _ _ (Uw Ua (pv 0) (pv 1) rfl))) (λ_ _ _=>(pv 0)) QO QO QO) (qs (qi (qp (@pw_and _ _ _ _ _ _ _ (B4 (iX Zy (pv 4) Zq) (by intro _;rfl)) (@pw_and1 _ _ _ _ (tQ Za (cF Zt hr (Zf (pv 0) (Zf Zq Zx))) Zq)))) (q1 (qr (qt (Zf Zk (Zf (iX Zh (pv 7) (cF Zt hr (Zf (pv 0) (Zf (cB Yl m.len Dz (Zf (pv 7) Zx)) Zx)))) (Zf (cF Yf hr (Zf (pv 0) (Zf Zq Zx))) Zx)))))) Zl) (qs (@V2 _ 8 Vr (Zb Y5) ["_law_arm","_law_value_here"] [none,some 3] _ _ _ _ _ _ _ _ _ _ _ _ _ V1.nd rfl QO rfl (qI (iX Zy (pv 4) Zq)) ⟨rfl,rfl,by decide +kernel,by decide +kernel⟩ (λ_ _ _=>(nI 0)) (λ_ _ _=>(@Gn _ _ _ (tQ Za (iX Zy (pv 0) Zq) (iX Zy (pv 1) Zq)))) (λ_ _ _=>(iX Zy (pv 0) Zq)) QO QO QO) (q1 (qr (qo Gr (@V6 _ _ _ _ _ _ _ _ _ _ K8 (pv 3) (@Jx _) (@Jz _ _ _ Zq)) (qt (Zf (cF Gf hr (Zf (pv 0) (Zf (pv 1) (Zf (iX Zh (pv 8) Zq) (Zf (iX Zy (pv 3) Zq) Zx))))) Zx))))))))) Zl) (q1 (qr (pv 3)))))))),?_⟩
 have uN:A.units+3+16*k+200<cLine:=hr.un;have shk:=mo.ok x sh es;have wb:=WB_le n;refine⟨_,rfl,e,_,_,_,rfl,rfl,he,Vq,_,rfl,S,_,rfl,(show Ue H S (kV (.inr x)) (some sv) from ev ▸ Pd hS (.inr x)),?_⟩;have ug:=isv;cases sh with
 | whole lo hi =>
  refine hide λ_ Z1=>?_;obtain⟨a,ws,rfl,ha,at'⟩:=isv;obtain⟨w1,w2,w3,rfl,i1,i2,i3⟩:=J4 at';cases Zc i1;refine Z1 ?_
  iterate 4 refine⟨_,rfl,a,_,_,_,rfl,rfl,ha,Yw,rfl,_,rfl,iN ?_⟩
  exact⟨_,rfl,q v u wt H iu (Wr.of es hw) ((Ye.refl fe).m)⟩
 | truth =>
  refine hide λ_ Yz=>?_;obtain⟨a,ws,rfl,ha,at'⟩:=isv;obtain⟨w1,rfl,i1⟩:=Sv at';cases Zc i1;refine Yz ?_
  iterate 4 refine⟨_,rfl,a,_,_,_,rfl,rfl,ha,Yw,rfl,_,rfl,iN ?_⟩
  exact⟨_,rfl,q v u wt H iu (Wr.of es hw) ((Ye.refl fe).m)⟩
 | text nn =>
  refine hide λ_ Yq=>?_;obtain⟨a,ws,rfl,ha,at'⟩:=isv;obtain⟨w1,w2,rfl,i1,i2⟩:=U5 at';cases Zc i1;refine Yq ?_
  iterate 4 refine⟨_,rfl,a,_,_,_,rfl,rfl,ha,Yw,rfl,_,rfl,iN ?_⟩
  exact⟨_,rfl,q v u wt H iu (Wr.of es hw) ((Ye.refl fe).m)⟩
 | row b y nn =>
  refine hide λ_ Yy=>?_;obtain⟨a,ws,rfl,ha,at'⟩:=isv;obtain⟨w1,w2,w3,rfl,i1,i2,i3⟩:=J4 at';cases Zc i2;refine Yy ?_;cases b with
  | true =>
   refine hide λ_ Yg=>?_;obtain⟨l0,l3,hl,rfl,rfl⟩:=hw;cases Zc i1;obtain⟨pa,xs,rfl,G4,axs⟩:=iu;refine Yg ?_;refine⟨_,rfl,a,_,_,_,rfl,rfl,ha,Yw,rfl,_,rfl,iY ?_⟩;refine⟨_,rfl,pa,rfl,⟨_,G4⟩,λD fp sx hD=>?_⟩;have nDl:D≠l:=fe.ne hD;have lx:xs.length=l0.length:=by rw[<-axs.length,Yv]
   refine J2 (K:=K) (xs:=xs) (λi ys j H5=>(∃o1,j=[o1,some (.ref l),some (.ref e),some (.ref a)])/\Ye l (r+(3-i)*(WB n / 5)) H H5/\H5 D=some (.lst ys)/\∃l1:List Ai,l1.length=i/\(∀e∈l1,e.k∈U6/\cj false ms n y e.u e.w)/\Zw K H5 (l1.map Ai.u) ys)
    ⟨⟨_,rfl⟩,((Ye.refl fe).lay hD).m,Zz,[],rfl,λe m=>absurd m V9,rfl⟩ ?_ ?_ ?_
   .intro i ys j H5 hi vc;refine hide λ_ Yc=>?_;obtain⟨_,t5,h5,_⟩:=vc;refine Yc ?_;exact⟨(t5.upT (K:=K) fe).tup _ _ G4,h5⟩
   .intro i xv ys j H5 hx Fq;refine hide λ_ Yr=>?_;obtain⟨⟨o1,rfl⟩,t5,h5,l1,le,xh,a1⟩:=Fq;have hi:i<l0.length:=by rw[<-lx];exact(Bl.mp hx).1
    obtain⟨t,et,it⟩:=axs.got hx;rw[Jb]at et;obtain⟨en,ee,rfl⟩:=Cy.mp et;obtain⟨hk,m6⟩:=hl en (Cr ee);obtain⟨n',rfl⟩:=Qb m6;refine Yr ?_;have wbe:WB (n'+1)=5*WB n'+300:=rfl;have wb6:WB n'<=WB (n'+1) / 5:=QU
    generalize WB (n'+1) / 5=vd at *;have eb:(3-i)*vd=(3-(i+1))*vd+vd:=Xg QU;have u5:=t5.upT (K:=K) fe;refine Um ?_;refine⟨_,rfl,_,rfl,_,rfl,a,_,_,_,rfl,rfl,u5.tup _ _ ha,Vq,_,rfl,l,e,S,ms,y,en.u,en.w,xv,r+(3-(i+1))*vd,rfl,mk.up u5,mo,m6,Zg.up u5 _ _ it,t5.feed.m,λv' u' w' H6 iv hw6 t6=>?_⟩;have t7:=t5.trans t6;have h7:=t6.keep _ _ nDl h5;have u7:Ui K H5 _:=t6.upT (K:=K) t5.feed;have i7:=iv;refine⟨h7,?_,⟨_,rfl⟩,t7.put hD (fe.far hD),Zz,l1++[⟨en.k,u',w'⟩],by rw[Nl,ZU,le],λz mz=>?_,?_⟩
    .rw[<-a1.length,Yv,le];exact Yx QU
    .rcases M6.mp mz with mz | mz
     .exact xh z mz
     .rw[Nw.mp mz];exact⟨hk,hw6⟩
    .rw[Gw];have uS:Ui K _ (upd _ D (.lst (ys++[v']))):=Zi h7;exact Zw.append (Zw.up (u7.trans uS) _ _ a1) (Zw.one (Zg.up uS _ _ i7))
   .intro ys j H5 Ob;refine hide λ_ Yo=>?_;obtain⟨_,t5,h5,l1,le,xh,a1⟩:=Ob;refine Yo ?_;refine⟨D,ys,rfl,.inl ⟨Zu.of h5,λp3 Ky=>?_⟩⟩;have s3:=Zv.lay (o:=.tup ys) Ky;exact q _ (.tup (l1.map Ai.u)) _ _ ⟨p3,ys,rfl,Zp.of Zz,Zw.up s3.upT _ _ a1⟩ (Wr.of es ⟨l1,by omega,xh,rfl,rfl⟩) ((t5.same s3).m)
  | false =>
   refine hide λ_ Z1=>?_;obtain⟨l0,l3,hl,rfl,rfl⟩:=hw;cases Zc i1;obtain⟨pa,xs,rfl,G4,axs⟩:=iu;refine Z1 ?_;refine⟨_,rfl,a,_,_,_,rfl,rfl,ha,Yw,rfl,_,rfl,iN ?_⟩;refine⟨_,rfl,a,_,_,_,rfl,rfl,ha,Yw,rfl,_,rfl,iY ?_⟩;refine⟨_,rfl,pa,rfl,⟨_,G4⟩,λD fp sx hD=>?_⟩;have nDl:D≠l:=fe.ne hD;have lx:xs.length=l0.length:=by rw[<-axs.length,Yv]
   refine J2 (K:=K) (xs:=xs) (λi ys j H5=>(∃o1 o2,j=[o1,o2,some (.ref l),some (.ref e),some (.ref a)])/\Ye l (r+(3-i)*(WB n / 5)) H H5/\H5 D=some (.lst ys)/\∃l1:List Ai,l1.length=i/\(∀e∈l1,e.k∈U6/\cj false ms n y e.u e.w)/\Zw K H5 (l1.map (λe=>Th.tup [.str e.k,e.u])) ys)
    ⟨⟨_,_,rfl⟩,((Ye.refl fe).lay hD).m,Zz,[],rfl,λe m=>absurd m V9,rfl⟩ ?_ ?_ ?_
   .intro i ys j H5 hi Nf;refine hide λ_ Yz=>?_;obtain⟨_,t5,h5,_⟩:=Nf;refine Yz ?_;exact⟨(t5.upT (K:=K) fe).tup _ _ G4,h5⟩
   .intro i xv ys j H5 hx Td;refine hide λ_ Yq=>?_;obtain⟨⟨o1,o2,rfl⟩,t5,h5,l1,le,xh,a1⟩:=Td;have hi:i<l0.length:=by rw[<-lx];exact(Bl.mp hx).1
    obtain⟨t,et,it⟩:=axs.got hx;rw[Jb]at et;obtain⟨en,ee,rfl⟩:=Cy.mp et;obtain⟨hk,m6⟩:=hl en (Cr ee);obtain⟨n',rfl⟩:=Qb m6;refine Yq ?_;have wbe:WB (n'+1)=5*WB n'+300:=rfl;have wb6:WB n'<=WB (n'+1) / 5:=QU
    generalize WB (n'+1) / 5=vd at *;have eb:(3-i)*vd=(3-(i+1))*vd+vd:=Xg QU;have u5:=t5.upT (K:=K) fe;refine hide λ_ Yy=>?_;obtain⟨pb,zs,rfl,hpb,azs⟩:=Zg.up u5 _ _ it;obtain⟨z1,z2,rfl,k1,k2⟩:=U5 azs;cases Zc k1;refine Yy ?_;refine⟨pb,_,rfl,hpb,rfl,_,_,rfl,_,_,rfl,rfl,?_⟩;refine alw ?_;refine⟨_,rfl,_,rfl,_,rfl,_,rfl,a,_,_,_,rfl,rfl,u5.tup _ _ ha,Vq,_,rfl,l,e,S,ms,y,en.u,en.w,z2,r+(3-(i+1))*vd,rfl,mk.up u5,mo,m6,k2,t5.feed.m,λv' u' w' H6 iv hw6 t6=>⟨(sz 2),λe2 h2=>?_⟩⟩;have s2:=Zv.lay (o:=.tup [.str en.k,v']) h2;have t7:=(t5.trans t6).same s2;have h7:=s2 _ _ (t6.keep _ _ nDl h5);have u7:Ui K H5 _:=(t6.upT (K:=K) t5.feed).trans s2.upT;have i7:Zg K _ (.tup [.str en.k,u']) (.ref e2):=⟨e2,_,rfl,Zp.of Zz,_,_,rfl,rfl,_,_,rfl,Zg.up s2.upT _ _ iv,rfl⟩;refine⟨h7,?_,⟨_,_,rfl⟩,t7.put hD (fe.far hD),Zz,l1++[⟨en.k,u',w'⟩],by rw[Nl,ZU,le],λz mz=>?_,?_⟩
    .rw[<-a1.length,Yv,le];exact Yx QU
    .rcases M6.mp mz with mz | mz
     .exact xh z mz
     .rw[Nw.mp mz];exact⟨hk,hw6⟩
    .rw[Gw];have uS:Ui K _ (upd _ D (.lst (ys++[.ref e2]))):=Zi h7;exact Zw.append (Zw.up (u7.trans uS) _ _ a1) (Zw.one (Zg.up uS _ _ i7))
   .intro ys j H5 Zjx;refine hide λ_ Yg=>?_;obtain⟨_,t5,h5,l1,le,xh,a1⟩:=Zjx;refine Yg ?_;refine⟨D,ys,rfl,.inl ⟨Zu.of h5,λp3 Ky=>?_⟩⟩;have s3:=Zv.lay (o:=.tup ys) Ky;exact q _ (.tup (l1.map (λe=>Th.tup [.str e.k,e.u]))) _ _ ⟨p3,ys,rfl,Zp.of Zz,Zw.up s3.upT _ _ a1⟩ (Wr.of es ⟨l1,by omega,xh,rfl,rfl⟩) ((t5.same s3).m)
 | rcd fs us =>
  refine hide λ_ Yc=>?_;obtain⟨l0,os,ps,rfl,hl,ho,rfl,hp,sp,rfl⟩:=hw;have pr:V0 ms (l0.map Ent.f):=shk;have l5:l0.length<=5:=by have:=pr.len;rw[Yv]at this;exact this
  obtain⟨a,ws,rfl,ha,at'⟩:=isv;obtain⟨w1,w2,w3,rfl,i1,i2,i3⟩:=J4 at';cases Zc i1;obtain⟨fa,fws,rfl,Mg,afs⟩:=i2;obtain⟨pa,xs,rfl,G4,axs⟩:=iu;obtain⟨z1,z2,rfl,k1,k2⟩:=U5 axs;obtain⟨ka,kx,rfl,hka,akx⟩:=k1;refine Yc ?_;have lfw:fws.length=l0.length:=by rw[<-afs.length,Yv,Yv]
  have lkx:kx.length=l0.length:=by rw[<-akx.length,Yv]
  iterate 2 refine⟨_,rfl,a,_,_,_,rfl,rfl,ha,Yw,rfl,_,rfl,iN ?_⟩
  refine⟨_,rfl,a,_,_,_,rfl,rfl,ha,Yw,rfl,_,rfl,iY ?_⟩;refine⟨_,rfl,a,_,_,_,rfl,rfl,ha,Vq,_,rfl,pa,_,_,_,rfl,rfl,G4,Yw,fa,ka,rfl,⟨_,Mg⟩,⟨_,hka⟩,λD fp sx hD=>?_⟩;have nDl:D≠l:=fe.ne hD
  refine ak (K:=K) (xs:=fws) (ys:=kx) (λi ys j H5=>(∃o1 o2,j=[o1,o2,some (.ref l),some (.ref e)])/\Ye l (r+300+(5-i)*((WB n-300) / 5)) H H5/\H5 D=some (.lst ys)/\∃l1:List Ent,l1.map Ent.f=(l0.map Ent.f).take i/\(∀t∈l1,cj false ms n t.f.y t.u t.w)/\Zw K H5 (l1.map Ent.u) ys)
   ⟨⟨_,_,rfl⟩,((Ye.refl fe).lay hD).m,Zz,[],rfl,λe m=>absurd m V9,rfl⟩ ?_ ?_ ?_
  .intro i ys j H5 hi Oh;refine hide λ_ Yr=>?_;obtain⟨_,t5,h5,_⟩:=Oh;refine Yr ?_;have u5:=t5.upT (K:=K) fe;exact⟨u5.tup _ _ Mg,u5.tup _ _ hka,h5⟩
  .intro i xv yv p ys j H5 hx hy Wa hpn;refine hide λ_ Yo=>?_;obtain⟨⟨o1,o2,rfl⟩,t5,h5,l1,le,xh,a1⟩:=Wa;have hi:i<l0.length:=by rw[<-lfw];exact(Bl.mp hx).1
   obtain⟨t,et,it⟩:=afs.got hx;rw[Jb,Jb]at et
   obtain⟨en,ee,rfl⟩:∃en,l0[i]?=some en/\en.f.t=t:=by
    cases z:l0[i]? with
    | none=>rw[z]at et;cases et
    | some en=>rw[z]at et;exact⟨en,rfl,Fk et⟩
   obtain⟨t2,et2,iu⟩:=akx.got hy;refine Yo ?_;rw[Jb,ee]at et2;cases et2;have m6:=hl en (Cr ee);refine hide λ_ Z1=>?_;obtain⟨n',rfl⟩:=Qb m6;refine Z1 ?_;have wbe:WB (n'+1)=5*WB n'+300:=rfl;have wb6:WB n'=(WB (n'+1)-300) / 5:=QU
   rw[<-wb6]at t5 ⊢;have eb:(5-i)*WB n'=(5-(i+1))*WB n'+WB n':=Xg QU;have sP:=Zv.lay (o:=.tup [xv,yv]) hpn;have t6:=t5.same sP;have u6:=t6.upT (K:=K) fe;refine hide λ_ Yz=>?_;obtain⟨b,bs,rfl,hb,ab⟩:=it;obtain⟨b1,b2,b3,b4,rfl,j1,j2,j3,j4⟩:=Qk ab;cases Zc j3;refine Yz ?_;refine⟨p,_,rfl,Zp.of Zz,rfl,_,_,rfl,_,_,rfl,rfl,?_⟩;refine alw ?_;refine⟨_,rfl,_,rfl,_,rfl,b,_,_,_,rfl,rfl,u6.tup _ _ hb,at2,_,rfl,l,e,S,ms,en.f.y,en.u,en.w,yv,r+300+(5-(i+1))*WB n',rfl,mk.up u6,mo,m6,Zg.up u6 _ _ iu,t6.feed.m,λv' u' w' H7 iv hw7 t7=>?_⟩;have h7:=t7.keep _ _ nDl (sP _ _ h5);have u7:Ui K H5 H7:=sP.upT.trans (t7.upT (K:=K) t6.feed);refine⟨h7,?_,⟨_,_,rfl⟩,(t6.trans t7).put hD (fe.far hD),Zz,l1++[⟨en.f,u',w'⟩],?_,λz mz=>?_,?_⟩
   .have:=congrArg List.length le;rw[Yv,Cs,Yv]at this;rw[<-a1.length,Yv];exact Yx QU
   .rw[Gw,le,Zs (x:=en.f) (by rw[Jb,ee];rfl)];rfl
   .rcases M6.mp mz with mz | mz
    .exact xh z mz
    .rw[Nw.mp mz];exact hw7
   .rw[Gw];have uS:Ui K _ (upd _ D (.lst (ys++[v']))):=Zi h7;exact Zw.append (Zw.up (u7.trans uS) _ _ a1) (Zw.one (Zg.up uS _ _ iv))
  .intro ys j H5 Ol;refine hide λ_ Yq=>?_;obtain⟨⟨o1,o2,rfl⟩,t5,h5,l1,le,xh,a1⟩:=Ol;refine Yq ?_;have t5:=t5.mono (r':=r+300) QU;rw[lfw,lkx,Nat.min_self,T0l (by rw[Yv];exact Yt _)]at le;have u5:=t5.upT (K:=K) fe;have f5:=Zw.up u5 _ _ afs;refine⟨_,rfl,a,_,_,_,rfl,rfl,u5.tup _ _ ha,Vq,fa,rfl,⟨_,u5.tup _ _ Mg⟩,λD2 fp2 sx2 Nq=>?_⟩;refine Nb (f:=P1) (u5.tup _ _ Mg) f5 (by rw[Yv,Yv];omega) Nq (λt v H5 Q5 mt s5 i5 q5=>?_) λH6 w6 s6 h6 a6=>?_
   .refine hide λ_ Yy=>?_;obtain⟨fl,mfl,rfl⟩:=G3.mp mt;obtain⟨b,bs,rfl,hb,y1,yr,rfl,iy,_⟩:=i5;refine Yy ?_;exact⟨_,rfl,b,_,_,_,rfl,rfl,hb,Yw,q5 y1 H5 (Zv.refl H5) iy⟩
   rw[(Tc (l0.map Ent.f)).1]at a6;have ew:=Nm a6;subst ew;have t6:=t5.same s6;have nD2l:D2≠l:=t5.feed.ne Nq;refine⟨(sz 6),λL hL=>⟨L,rfl,⟨_,Zu.of Zz⟩,λD3 fp3 sx3 Sl=>?_⟩⟩;have sL:=Zv.lay (o:=.lst (A2.map V.int)) hL;have t7:=t6.same sL;have nLl:L≠l:=t6.feed.ne hL;have nD3l:D3≠l:=t7.feed.ne Sl;have h7D2:=sL _ _ h6;have h7D:=sL _ _ (s6 _ _ h5);have h7L:upd H6 L (.lst (A2.map V.int)) L=some (.lst (A2.map V.int)):=Zz
   refine Ve (K:=K) (xs:=A2.map V.int) (λi ys j H8=>(∃o,j=[o,some (.ref D2),some (.ref l)])/\(∃ns:ZC,ys=ns.map V.int/\ns.Sublist (A2.take i)/\∀u∈ns,u∉(l0.map Ent.f).map Vk.n)/\Ye l (r+280+(6-i)) (upd H6 L (.lst (A2.map V.int))) H8/\H8 D3=some (.lst ys))
    ⟨⟨_,rfl⟩,⟨[],rfl,.slnil,λu mu=>absurd mu V9⟩,((Ye.refl t7.feed).lay Sl).m,Zz⟩ ?_ ?_ ?_
   .intro i ys j H8 hi Xu;refine hide λ_ Yg=>?_;obtain⟨_,_,t8,h8⟩:=Xu;refine Yg ?_;exact⟨Zu.of (t8.keep _ _ nLl h7L),h8⟩
   .intro i xv ys j H8 hx hI22_;refine hide λ_ Yc=>?_;obtain⟨⟨o,rfl⟩,⟨ns,rfl,sb,nn⟩,t8,h8⟩:=hI22_;rw[Jb]at hx;obtain⟨nb,en,rfl⟩:=Cy.mp hx;refine Yc ?_;have hi:i<6:=(Bl.mp en).1;have tm:=Zs en;refine Ej ?_;refine⟨_,rfl,_,rfl,D2,_,rfl,.inl (Zu.of (t8.keep _ _ nD2l h7D2)),rfl,Cq _,_,rfl,?_⟩;show if (!A0 (.int nb) (((l0.map Ent.f).map Vk.n).map V.int))=true then _ else _
    rw[N8];refine Vb (λcm=>?_) (λcm=>?_)
    .have cm':nb∉(l0.map Ent.f).map Vk.n:=by simpa using cm
     refine⟨_,rfl,l,3,r+280+(6-(i+1)),rfl,t8.feed.m,by decide,by decide,λz H9 z0 z1 t9=>?_⟩;have h9:=t9.keep _ _ nD3l h8;refine⟨rfl,_,rfl,?_⟩;refine Vb (λc=>?_) (λc=>?_)
     .refine⟨_,rfl,h9,?_,⟨_,rfl⟩,⟨ns++[nb],by rw[Gw];rfl,?_,?_⟩,(t8.trans t9).put Sl (t7.feed.far Sl),Zz⟩
      .have:=sb.length_le;rw[Cs]at this;rw[Yv];exact Yx QU
      .rw[tm];exact sb.append (List.Sublist.refl _)
      .intro u mu;rcases M6.mp mu with mu | mu
       .exact nn u mu
       .rw[Nw.mp mu];exact cm'
     .exact⟨⟨_,rfl⟩,⟨ns,rfl,by rw[tm];exact sb.trans (List.sublist_append_left _ _),nn⟩,t8.trans t9,h9⟩
    .exact⟨⟨_,rfl⟩,⟨ns,rfl,by rw[tm];exact sb.trans (List.sublist_append_left _ _),nn⟩,t8.m,h8⟩
   .intro ys' j H8 Zjz;refine hide λ_ Yr=>?_;obtain⟨⟨o,rfl⟩,⟨ns,rfl,sb,nn⟩,t8,h8⟩:=Zjz;refine Yr ?_;have sb:ns.Sublist A2:=sb.trans (List.take_sublist _ _);have ln:ns.length<=6:=sb.length_le;have t8:=t8.mono (r':=r+280) QU;have h8D:=t8.keep _ _ nDl h7D;refine⟨_,rfl,D,ys,rfl,.inl ⟨Zu.of h8D,λp1 Ho=>?_⟩⟩;have s9:=Zv.lay (o:=.tup ys) Ho;have t9:=(t7.trans t8).same s9;have u9:Ui K H5 _:=(s6.trans sL).upT.trans ((t8.upT (K:=K) t7.feed).trans s9.upT);have a9:=Zw.up u9 _ _ a1;have h9:=s9 _ _ h8;have hp9:upd H8 p1 (.tup ys) p1=some (.tup ys):=Zz;refine⟨_,rfl,D3,rfl,⟨_,Zu.of h9⟩,λD4 fp4 sx4 iz=>?_⟩;have nD4l:D4≠l:=t9.feed.ne iz
    refine Ve (K:=K) (xs:=ns.map V.int) (λi zs j H10=>(∃o,j=[o,some (.ref l)])/\Ye l (r+(6-i)*IB 2) (upd H8 p1 (.tup ys)) H10/\H10 D4=some (.lst zs)/\∃qs:List (Int×Th),qs.map (·.1)=ns.take i/\(∀q∈qs,GI 2 q.2)/\Zw K H10 (qs.map U2) zs)
     ⟨⟨_,rfl⟩,((Ye.refl t9.feed).lay iz).mono (by show r+6*IB 2<=_;rw[show IB 2=30 from rfl];omega),Zz,[],rfl,λq m=>absurd m V9,rfl⟩ ?_ ?_ ?_
    .intro i zs j H10 hi Zq9;refine hide λ_ Yo=>?_;obtain⟨_,og,F0,_⟩:=Zq9;refine Yo ?_;exact⟨Zu.of (og.keep _ _ nD3l h9),F0⟩
    .intro i xv zs j H10 hx Xp;refine hide λ_ Z1=>?_;obtain⟨⟨o,rfl⟩,og,F0,qs,eq,gq,aq⟩:=Xp;rw[Jb]at hx;obtain⟨nb,en,rfl⟩:=Cy.mp hx;refine Z1 ?_;have hi:i<ns.length:=(Bl.mp en).1;have eb:(6-i)*IB 2=(6-(i+1))*IB 2+IB 2:=Xg QU;refine Um ?_;refine⟨_,rfl,_,rfl,l,r+(6-(i+1))*IB 2,rfl,og.feed.m,λv' u' H11 iv gv Q6=>⟨(sz 2),λe2 h2=>?_⟩⟩;have Ni:=Zv.lay (o:=.tup [.int nb,v']) h2;have vp:=Ni _ _ (Q6.keep _ _ nD4l F0);have u12:Ui K H10 _:=(Q6.upT (K:=K) og.feed).trans Ni.upT;refine⟨vp,?_,⟨_,rfl⟩,((og.trans Q6).same Ni).put iz (t9.feed.far iz),Zz,qs++[(nb,u')],?_,λz mz=>?_,?_⟩
     .rw[<-aq.length,Yv, <-Yv (·.1),eq,Cs];exact Yx QU
     .rw[Gw,eq,Zs en];rfl
     .rcases M6.mp mz with mz | mz
      .exact gq z mz
      .rw[Nw.mp mz];exact gv
     .rw[Gw];have uS:Ui K _ (upd _ D4 (.lst (zs++[.ref e2]))):=Zi vp;exact Zw.append (Zw.up (u12.trans uS) _ _ aq) (Zw.one (Zg.up uS _ _ ⟨e2,_,rfl,Zp.of Zz,_,_,rfl,rfl,_,_,rfl,Zg.up Ni.upT _ _ iv,rfl⟩))
    .intro zs j H10 hI26_;refine hide λ_ Yz=>?_;obtain⟨_,og,F0,qs,eq,gq,aq⟩:=hI26_;refine Yz ?_;rw[T0l (by rw[Yv];exact Yt _)]at eq;refine⟨D4,zs,rfl,.inl ⟨Zu.of F0,λp2 ou=>⟨(sz 2),λp3 Ky=>?_⟩⟩⟩;have s11:=Zv.lay (o:=.tup zs) ou;have Ni:=Zv.lay (o:=.tup [.ref p1,.ref p2]) Ky;have u10:Ui K _ H10:=og.upT (K:=K) t9.feed;have uE:=u10.trans (s11.trans Ni).upT
     have oth:Zka false (l1.map Ent.f) qs:=by
      refine⟨λz=>(nomatch z),by rw[eq];exact List.Nodup.sublist sb QI,by rw[<-Yv (·.1),eq];exact ln,λo mo'=>?_⟩;have mn:o.1∈ns:=by rw[<-eq];exact List.mem_map_of_mem mo'
      have b:=Zxo o.1 (sb.subset mn);exact⟨by rw[le];exact nn _ mn,b.1,b.2,gq o mo'⟩
     refine hide λ_ Yq=>?_;obtain⟨wn,m6⟩:=Zqg (us:=us) xh oth;refine Yq ?_;rw[le]at m6;refine q _ (.tup [.tup (l1.map Ent.u),.tup (qs.map U2)]) wn _ ⟨p3,_,rfl,Zp.of Zz,_,_,rfl,⟨p1,ys,rfl,uE.tup _ _ (Zp.of hp9),Zw.up uE _ _ a9⟩,_,_,rfl,⟨p2,zs,rfl,Ni.up _ _ (Zp.of Zz),Zw.up (s11.trans Ni).upT _ _ aq⟩,rfl⟩ (Wr.of es m6) (((t9.trans og).same (s11.trans Ni)).m)
 | cho fs us o =>
  have pr:V0 ms fs:=shk.1;have nd:(fs.map Vk.n).Nodup:=List.Nodup.sublist pr.nums QI;have l5:=pr.len;refine hide λ_ Yy=>?_;obtain⟨a,ws,rfl,ha,at'⟩:=isv;obtain⟨w1,w2,w3,w4,rfl,i1,i2,i3,i4⟩:=Qk at';cases Zc i1;cases Zc i4;obtain⟨fa,fws,rfl,Mg,afs⟩:=i2
  obtain⟨g,mg',u',w',hw',rfl,rfl⟩:∃f∈fs,∃u' w',cj true ms n f.y u' w'/\u=.tup [.str "arm",.int f.n,u']/\wt=.tup [.str "arm",.int f.n,w']:=by
   rcases hw with hw | ⟨z,_⟩
   .exact hw
   .cases z
  obtain⟨n',rfl⟩:=Qb hw';have wbe:WB (n'+1)=5*WB n'+300:=rfl;obtain⟨pa,xs,rfl,G4,axs⟩:=iu;obtain⟨z1,z2,z3,rfl,k1,k2,k3⟩:=J4 axs;cases Zc k1;cases Zc k2;refine Yy ?_
  iterate 3 refine⟨_,rfl,a,_,_,_,rfl,rfl,ha,Yw,rfl,_,rfl,iN ?_⟩
  refine⟨_,rfl,a,_,_,_,rfl,rfl,ha,Yw,rfl,_,rfl,iY ?_⟩;refine⟨_,rfl,a,_,_,_,rfl,rfl,ha,Vq,fa,rfl,⟨_,Mg⟩,λD2 fp2 sx2 Nq=>?_⟩;refine Nb (f:=P1) Mg afs (by rw[Yv];omega) Nq (λt v H5 Q5 mt s5 i5 q5=>?_) λH6 w6 s6 h6 a6=>?_
  .refine hide λ_ Yg=>?_;obtain⟨fl,mfl,rfl⟩:=G3.mp mt;obtain⟨b,bs,rfl,hb,y1,yr,rfl,iy,_⟩:=i5;refine Yg ?_;exact⟨_,rfl,b,_,_,_,rfl,rfl,hb,Yw,q5 y1 H5 (Zv.refl H5) iy⟩
  rw[(Tc fs).2]at a6;have ew:=Nm a6;subst ew;refine⟨(sz 6),λL hL=>⟨L,rfl,⟨_,Zu.of Zz⟩,λD3 fp3 sx3 Sl=>?_⟩⟩;have sL:=Zv.lay (o:=.lst (A2.map V.int)) hL;have h7D2:=sL _ _ h6;have h7L:upd H6 L (.lst (A2.map V.int)) L=some (.lst (A2.map V.int)):=Zz;refine Ve (K:=K) (xs:=A2.map V.int) (λi ys j H8=>(∃o,j=[o,some (.ref D2)])/\ys=((A2.take i).filter λz=>decide (z∉fs.map Vk.n)).map V.int/\Zv (upd H6 L (.lst (A2.map V.int))) H8/\H8 D3=some (.lst ys)) ⟨⟨_,rfl⟩,rfl,Zv.lay Sl,Zz⟩ ?_ ?_ ?_
  .intro i ys j H8 hi hI30_;refine hide λ_ Yc=>?_;obtain⟨_,_,s8,h8⟩:=hI30_;refine Yc ?_;exact⟨Zu.of (s8 _ _ h7L),h8⟩
  .intro i xv ys j H8 hx hI31_;refine hide λ_ Yr=>?_;obtain⟨⟨o,rfl⟩,ey,s8,h8⟩:=hI31_;rw[Jb]at hx;obtain⟨nb,en,rfl⟩:=Cy.mp hx;refine Yr ?_;have hi:i<6:=(Bl.mp en).1;refine Ej ?_;refine⟨_,rfl,_,rfl,D2,_,rfl,.inl (Zu.of (s8 _ _ h7D2)),rfl,Cq _,_,rfl,?_⟩;show if (!A0 (.int nb) ((fs.map Vk.n).map V.int))=true then _ else _
   rw[N8];refine Vb (λcm=>?_) (λcm=>?_)
   .have cm':nb∉fs.map Vk.n:=by simpa using cm
    refine⟨_,rfl,h8,?_,⟨_,rfl⟩,?_,s8.put Sl,Zz⟩
    .rw[ey,Yv];exact Yx (Vf (List.length_filter_le _ _) (by rw[Cs];omega))
    .rw[Zs en,List.filter_append,Gw, <-ey,List.filter_cons,if_pos (Sd cm')];rfl
   .have cm':¬ nb∉fs.map Vk.n:=by simpa using cm
    refine⟨⟨_,rfl⟩,?_,s8,h8⟩;rw[Zs en,List.filter_append,Gw, <-ey,List.filter_cons,if_neg (by simpa using cm')];exact(ZO _).symm
  .intro ys j H8 hI32_;refine hide λ_ Yo=>?_;obtain⟨⟨o',rfl⟩,ey,s8,h8⟩:=hI32_;refine Yo ?_;rw[T0l QI]at ey;have s68:=s6.trans (sL.trans s8);have t8:=(Ye.refl fe).same s68;have ha8:=s68.up _ _ ha;have hpa8:=s68.up _ _ G4
   have ne:1<=(A2.filter λz=>decide (z∉fs.map Vk.n)).length:=by
    have m4:(4:Int)∈A2.filter λz=>decide (z∉fs.map Vk.n):=List.mem_filter.mpr ⟨by decide,Sd λz=>absurd (pr.nums.subset z) QI⟩;exact List.length_pos_of_mem m4
   have l6:(A2.filter λz=>decide (z∉fs.map Vk.n)).length<=6:=List.length_filter_le _ _;refine Zxq (λσ' HT=>(∃o5 o6 o7 o8,σ'=[some (.ref l),some (.ref e),some (.str x),some (.ref pa),some (.ref a),o5,o6,o7,o8])/\Ye l (r+WB n') H HT) ?_ λM hM=>?_
   .intro σ' HT hI33_;refine hide λ_ Z1=>?_;obtain⟨⟨o5,o6,o7,o8,rfl⟩,tT⟩:=hI33_;refine Z1 ?_;have uT:=tT.upT (K:=K) fe;have haT:=uT.tup _ _ ha;have hpaT:=uT.tup _ _ G4;have hfaT:=uT.tup _ _ Mg;have afT:=Zw.up uT _ _ afs;refine⟨_,rfl,a,_,_,_,rfl,rfl,haT,Vq,fa,rfl,⟨_,hfaT⟩,λD5 fp5 sx5 hD5=>?_⟩;refine J2 (K:=K) (xs:=fws) (λi ys j H5=>(∃o,j=[o,some (.ref pa)])/\ys=((fs.take i).filter λf=>decide (f.n=g.n)).map (λf=>V.str f.y)/\Zv _ H5/\H5 D5=some (.lst ys)) ⟨⟨_,rfl⟩,rfl,Zv.lay hD5,Zz⟩ ?_ ?_ ?_
    .intro i ys j H5 hi hI34_;refine hide λ_ Yz=>?_;obtain⟨_,_,g5,h5⟩:=hI34_;refine Yz ?_;exact⟨g5.up _ _ hfaT,h5⟩
    .intro i x ys j H5 hx hI35_;refine hide λ_ Yq=>?_;obtain⟨⟨o,rfl⟩,ey,g5,h5⟩:=hI35_;obtain⟨t,et,it⟩:=afT.got hx;rw[Jb]at et;obtain⟨fl,ef,rfl⟩:=Cy.mp et;obtain⟨b,bs,rfl,hb,ab⟩:=Zg.up g5.upT _ _ it;obtain⟨b1,b2,b3,rfl,j1,j2,j3⟩:=J4 ab;cases Zc j1;cases Zc j3;refine Yq ?_;refine Ej ?_;refine⟨_,rfl,b,_,_,_,rfl,rfl,hb,Yw,_,rfl,pa,_,_,_,rfl,rfl,g5.up _ _ hpaT,Vq,rfl,_,rfl,?_⟩;refine Vb (λc=>?_) (λc=>?_)
     .have c:fl.n=g.n:=by injection Sh c
      refine⟨_,rfl,b,_,_,_,rfl,rfl,hb,at2,h5,?_,⟨_,rfl⟩,?_,g5.put hD5,Zz⟩
      .rw[ey,Yv];exact Yx (Vf (List.length_filter_le _ _) (by rw[Cs];omega))
      .rw[Zs ef,List.filter_append,Gw, <-ey];simp[c]
     .have c:¬ fl.n=g.n:=λz=>c (by rw[z];exact Sd rfl);refine⟨⟨_,rfl⟩,?_,g5,h5⟩;rw[Zs ef,List.filter_append,Gw, <-ey];simp[c]
    .intro ys j H5 hI36_;refine hide λ_ Yy=>?_;obtain⟨_,ey,g5,h5⟩:=hI36_;refine Yy ?_;have lf:=afs.length;rw[Yv]at lf;rw[<-lf,Ss,O1 nd mg']at ey;subst ey;refine⟨_,rfl,_,rfl,pa,_,rfl,g5.up _ _ hpaT,λp5 H10 Pk F0=>?_⟩;have sT:=g5.trans Pk;have tU:=tT.same sT;have uU:=tU.upT (K:=K) fe;refine⟨_,rfl,_,rfl,_,rfl,D5,_,_,_,rfl,rfl,Zu.of (Pk _ _ h5),Yw,_,rfl,pa,_,_,_,rfl,rfl,sT.up _ _ hpaT,at2,l,e,S,ms,g.y,u',w',z3,r,rfl,mk.up uU,mo,hw',Zg.up uU _ _ k3,tU.feed,λv' u2 w2 H11 iv hw2 Q6=>⟨(sz 1),λp6 hp6=>?_⟩⟩;have Ni:=Zv.lay (o:=.tup [v']) hp6;have u12:Ui K H10 _:=(Q6.upT (K:=K) tU.feed).trans Ni.upT;refine⟨p5,p6,_,[v'],rfl,rfl,u12.tup _ _ F0,Zp.of Zz,(sz 3),λp7 H13 s13 h13=>?_⟩;exact q _ (.tup [.str "arm",.int g.n,u2]) (.tup [.str "arm",.int g.n,w2]) _ ⟨p7,_,rfl,h13,_,_,rfl,rfl,_,_,rfl,rfl,_,_,rfl,Zg.up (Ni.trans s13).upT _ _ iv,rfl⟩ (Wr.of es (.inl ⟨g,mg',u2,w2,hw2,rfl,rfl⟩)) ((tU.trans Q6).same (Ni.trans s13))
   refine⟨_,rfl,a,_,_,_,rfl,rfl,ha8,at3,o,rfl,?_⟩;cases o with
   | false =>
    exact Z5 rfl (Wn (hM _ _ ⟨⟨_,_,_,_,rfl⟩,t8.m⟩))
   | true =>
    refine Vi rfl ?_;refine⟨_,rfl,l,2,r+(WB n'+50),rfl,t8.feed.m,by decide,by decide,λz H9 z0 z1 t9=>⟨rfl,_,rfl,?_⟩⟩;have t89:=t8.trans t9;refine Vb (λc=>?_) (λc=>?_)
    .have nD3l:D3≠l:=((Ye.refl fe).same (s6.trans sL)).feed.ne Sl;have h9:=t9.keep _ _ nD3l h8;subst ey;refine⟨_,rfl,_,rfl,_,rfl,D3,_,rfl,.inl (Zu.of h9),l,_,r+40,rfl,t9.feed.m,?_,?_,λy H10 y0 y1 og=>?_⟩
     .rw[Yv];omega
     .rw[Yv];omega
     rw[Yv]at y1;refine hide λ_ Yg=>?_;obtain⟨nb,mnb,enb⟩:=Di (A2.filter λz=>decide (z∉fs.map Vk.n)) y0 y1;refine Yg ?_;have F0:=og.keep _ _ nD3l h9;refine⟨D3,_,_,_,rfl,rfl,Zu.of F0,enb,?_⟩;refine⟨_,rfl,l,r,rfl,og.feed.mono (by rw[show IB 2=30 from rfl];omega),λv' u2 H11 iv gv Q6=>⟨(sz 3),λp3 Ky=>?_⟩⟩;have Ni:=Zv.lay (o:=.tup [.str "other",.int nb,v']) Ky;refine hide λ_ Yc=>?_;obtain⟨mo1,mo2⟩:=List.mem_filter.mp mnb;refine Yc ?_;have b:=Zxo nb mo1;refine q _ (.tup [.str "other",.int nb,u2]) (.tup [.str "arm",.int nb,u2]) _ ⟨p3,_,rfl,Zp.of Zz,_,_,rfl,rfl,_,_,rfl,rfl,_,_,rfl,Zg.up Ni.upT _ _ iv,rfl⟩ (Wr.of es (.inr ⟨rfl,nb,u2,Sh mo2,b.1,b.2,gv,rfl,rfl⟩)) (((t89.trans og).trans Q6).same Ni)
    .exact hM _ _ ⟨⟨_,_,_,_,rfl⟩,t89.m⟩
abbrev Dh:Stmt:=inClass (top 5) 0
noncomputable abbrev Sb:ZF:=QW
theorem Qq:Ze Sb QW (Zb Dh):=by trivial
abbrev B2:Stmt:=top 14
noncomputable abbrev xy:ZF:=QB
theorem Hq:Ze xy QB (Zb B2):=by trivial
abbrev B3:Stmt:=top 15
noncomputable abbrev xg:ZF:=QB
theorem Hj:Ze xg QB (Zb B3):=by trivial
abbrev Jr:Stmt:=top 17
noncomputable abbrev Lb:ZF:=QS
theorem C9:Ze Lb QS (Zb Jr):=by trivial
abbrev Mi:Stmt:=top 23
noncomputable abbrev Er:ZF:=["shape","item","sort","bounds"]
theorem Ds:Ze Er QT (Zb Mi):=by trivial
noncomputable def hdW:Yn->Str
 | .whole _ _ => "whole"
 | .truth => "truth"
 | .text _ => "text"
 | .row b _ _=>if b=true then "row" else "map"
 | .rcd _ _ => "record"
 | .cho _ _ _ => "choice"
structure Zg6(K:W.Frag)(w:World)(a:Addr):Prop where
 top:TopD K w a
 at':∀s:Yn,∃u,W.nsIn K a (hdW s)=some (some u)/\RelV (.str (Bm s)) u
theorem jw(s:Yn):∃r,s.t=.tup (.str (hdW s)::r):=by cases s<;>exact⟨_,rfl⟩
inductive l8(C:Addr)(vs:ZZ)(H:Hp)(Q:VK):Prop
 | mk(x y)(Vx:vs=[.ref x,y])(Vz:H x=some (Mh x C none true))(Vp:∀(d:Addr) (H':Hp),H d=none->d≠x->(∀b,b≠x->b≠d->H' b=H b)->H' x=some (Mh x C (some d) true)->H' d=some (DHO d [("path",y)])->Q .non H')
def T4(C:Addr):Sp:=λvs H Q _=>l8 C vs H Q
def BI(K:W.Frag)(CB:Addr)(E:XK)(H:Hp)(q:List Th):Prop:=∀(d:Addr) (y:V) (H':Hp),Zv H H'->H' d=some (DHO d [("path",y)])->Zg K H' (.tup q) y->E (.ref CB) (some d) H'
theorem BI.same{K:W.Frag}{CB:Addr}{E:XK}{H H1:Hp}{q:List Th}(b:BI K CB E H q)(s:Zv H H1):BI K CB E H1 q:=λd y H' s'=>b d y H' (s.trans s')
theorem zf{K:W.Frag}{C:Addr}{E E':XK}{H:Hp}{q:List Th}{y:V}{j:L2.St}(c:Mb K C)(n:BI K C E H q)(iy:Zg K H (.tup q) y):Zzc C (T4 C) E' (λv H1=>Ep K (λ_ H' _ C od=>E (.ref C) od H') j v H1) [y] H:=by
 refine⟨(by show 1<=100;decide),λx hx=>⟨x,_,rfl,Zz,λd H' hd nd keep hx' hd'=>?_⟩⟩
 have sm:Zv H (upd H' x (Mh x C (some d) false)):=λb o e=>by
  have b1:b≠x:=λz=>by rw[z,hx]at e;cases e
  have b2:b≠d:=λz=>by rw[Zm nd, <-z,e]at hd;cases hd
  rw[Zm b1,keep b b1 b2,Zm b1];exact e
 exact⟨rfl,x,C,some d,rfl,hx',c,n d y _ sm (by rw[Zm nd];exact hd') (Zg.up sm.upT _ _ iy)⟩
def Oc(K:W.Frag)(CB:Addr)(H:Hp)(Q:VK)(E:XK):Rs Th->Prop
 | .ok u=>∀(v:V) (H':Hp),Zv H H'->Zg K H' u v->Q v H'
 | .bad q=>BI K CB E H q
theorem Oc.same{K:W.Frag}{CB:Addr}{H H1:Hp}{Q:VK}{E:XK}{r:Rs Th}(o:Oc K CB H Q E r)(s:Zv H H1):Oc K CB H1 Q E r:=by
 cases r with
 | ok u=>exactλv H' s' i=>o v H' (s.trans s') i
 | bad q=>exact BI.same o s
inductive rg(K:W.Frag)(vs:ZZ)(H:Hp)(Q:VK):Prop
 | mk(sv s)(Vx:vs=[sv])(Vz:Zg K H (Yn.t s) sv)(Vp:Q (.str (Bm s)) H)
def K5(K:W.Frag):Sp:=λvs H Q _=>rg K vs H Q
inductive Zz9(K:W.Frag)(vs:ZZ)(H:Hp)(Q:VK):Prop
 | mk(sv:V)(s:Yn)(lo hi:Int)(Vx:vs=[sv])(Vz:Zg K H s.t sv)(Vp:((s=.whole lo hi)\/(s=.truth/\lo=0/\hi=1)))(Jn:∀e H',Zv H H'->Zp K H' e [.int lo,.int hi]->Q (.ref e) H')
def jj(K:W.Frag):Sp:=λvs H Q _=>Zz9 K vs H Q
inductive Zw6(K:W.Frag)(vs:ZZ)(H:Hp)(Q:VK):Prop
 | mk(v:V)(fl:Vk)(Vx:vs=[v])(Vz:Zg K H fl.t v)(Vp:Gd 2010 2 (.tup fl.d.toList))(Jn:∀H',Zv H H'->Q (.bl fl.d.isSome) H')
def gj(K:W.Frag):Sp:=λvs H Q _=>Zw6 K vs H Q
inductive Zvz(K:W.Frag)(vs:ZZ)(H:Hp)(Q:VK):Prop
 | mk(sv v:V)(s:Yn)(n:Nat)(t:Th)(Vx:vs=[sv,v])(Vz:Zg K H (Yn.t s) sv)(Vp:Vm n t)(Jn:Zg K H t v)(Mf:∀H',Zv H H'->Q (.bl (Mx s t)) H')
def gm(K:W.Frag):Sp:=λvs H Q _=>Zvz K vs H Q
theorem Zqa{n:Nat}{t:Th}(h:Vm n t):∃a r,t=.tup (.str (U0 t)::a::r):=by cases h<;>exact⟨_,_,rfl⟩
theorem Ge{n:Nat}{t:Th}(h:Vm n t)(e:U0 t="whole"):∃i,t=.tup [.str "whole",.int i]/\-Te<=i/\i<=Te:=by
 cases h with
 | whole i h0 h1=>exact⟨i,rfl,h0,h1⟩
 | _=>simp only[U0]at e;exact absurd e QA
theorem Qs{n:Nat}{t:Th}(h:Vm n t)(e:U0 t="text"):∃x,t=.tup [.str "text",.str x]/\Cm x:=by
 cases h with
 | text x h=>exact⟨x,rfl,h⟩
 | _=>simp only[U0]at e;exact absurd e QA
theorem Oj{n:Nat}{t:Th}(h:Vm (n+1) t)(e:U0 t="row"):∃l,t=.tup [.str "row",.tup l]/\∀u∈l,Vm n u:=by
 cases h with
 | row l h=>exact⟨l,rfl,h⟩
 | _=>simp only[U0]at e;exact absurd e QA
theorem Ow{n:Nat}{t:Th}(h:Vm (n+1) t)(e:U0 t="map"):∃l:List (Str×Th),t=.tup [.str "map",.tup (l.map R8)]/\(∀p∈l,Tn p.1)/\∀p∈l,Vm n p.2:=by
 cases h with
 | map l k h=>exact⟨l,rfl,k,h⟩
 | _=>simp only[U0]at e;exact absurd e QA
theorem Hr{n:Nat}{t:Th}(h:Vm (n+1) t)(e:U0 t="rec"):∃l:List (Int×Th),t=.tup [.str "rec",.tup (l.map U2)]/\(∀p∈l,0<=p.1/\p.1<=1000)/\(l.map (·.1)).Pairwise (· < ·)/\∀p∈l,Vm n p.2:=by
 cases h with
 | recd l k s h=>exact⟨l,rfl,k,s,h⟩
 | _=>simp only[U0]at e;exact absurd e QA
theorem Hh{n:Nat}{t:Th}(h:Vm (n+1) t)(e:U0 t="arm"):∃k u,t=.tup [.str "arm",.int k,u]/\0<=k/\k<=1000/\Vm n u:=by
 cases h with
 | arm k u h0 h1 h=>exact⟨k,u,rfl,h0,h1,h⟩
 | _=>simp only[U0]at e;exact absurd e QA
theorem Vm.pos{n:Nat}{t:Th}(h:Vm n t):∃k,n=k+1:=by cases h<;>exact⟨_,rfl⟩
theorem nf{b:Bool}(h:¬ b=true):b=false:=by simpa using h
theorem fits(s:Yn){t:Th}(c:U0 t=Bm s):Mx s t=X6 s (Gb t):=by unfold Mx;rw[Sd c,Bool.true_and]
section
variable{P:Program}{w:World}{K:W.Frag}{mg:G6}{base:Heap}{f:Addr}{fd:FuncData}{C aI:Addr}
theorem Zx4(F:Fun K "__init__" "BadItem.__init__" Dh f fd)(c:Mb K C)(n:Rh K C "path"):Yk P w K mg base Mm 1 f fd QW (T4 C):=by
 refine F.ok Qq (λvs H Q E h=>?_) λ_ A _ s H vs Q E hr h=>?_
 .obtain⟨x,y,rfl,_⟩:=h
  rfl
 obtain⟨x,y,rfl,hx,q⟩:=h;refine⟨_,(@Z2 _ _ _ (@Zvu _ _ _ _ _ _ _ _ (pv 0) (pv 1) rfl)),?_⟩;refine⟨_,rfl,_,rfl,x,C,none,true,rfl,hx,c,n,.inl ⟨rfl,λd hd nd=>?_⟩⟩;exact q d _ hd nd (λb h1 h2=>by rw[Zm h1,Zm h2]) Zz (by rw[Zm nd,Zz])
theorem Hm(F:Fu K "item_sort" B2 f fd)(so:Zg6 K w aI)(Ke:mg "ITEM_SORTS"=some (.ref aI)):Yk P w K mg base Mm 1 f fd QB (K5 K):=by
 refine F.ok Hq (λvs H Q E h=>?_) λ_ A _ s H vs Q E hr h=>?_
 .obtain⟨sv,s,rfl,_⟩:=h
  rfl
 obtain⟨sv,sh,rfl,is,q⟩:=h;obtain⟨r,er⟩:=jw sh;rw[er]at is;obtain⟨a,ws,rfl,ha,w1,ws',rfl,i1,_⟩:=is;cases Zc i1;obtain⟨u,hu,ru⟩:=so.at' sh;refine⟨_,(@Z2 _ _ _ (qr (iX Zyu (@Ub _ _ _ _ rfl Ke QI) (iX Zy (pv 0) Zq)))),?_⟩;exact⟨_,rfl,a,_,_,_,rfl,rfl,ha,Yw,aI,_,.str (Bm sh),u,rfl,rfl,so.top,hu,ru,q⟩
theorem Hc(F:Fu K "bounds_of" B3 f fd)(m:Bn mg):Yk P w K mg base Mm 1 f fd QB (jj K):=by
 refine F.ok Hj (λvs H Q E h=>?_) λ_ A _ s H vs Q E hr h=>?_
 .obtain⟨sv,s,lo,hi,rfl,_⟩:=h
  rfl
 obtain⟨sv,sh,lo,hi,rfl,is,e,q⟩:=h;refine⟨_,(@Z2 _ _ _ (qr (@Ug _ _ _ _ _ _ _ _ (tQ Za (iX Zy (pv 0) Zq) Zk) (qt (@V4 _ _ [0,1] rfl)) (qt (Zf (iX Zy (pv 0) Zq) (Zf (iX Zy (pv 0) Zq) Zx)))))),?_⟩;rcases e with rfl | ⟨rfl,rfl,rfl⟩
 .refine hide λ_ Z1=>?_;obtain⟨a,ws,rfl,ha,at'⟩:=is;obtain⟨w1,w2,w3,rfl,i1,i2,i3⟩:=J4 at';cases Zc i1;cases Zc i2;cases Zc i3;refine Z1 ?_;refine⟨_,rfl,a,_,_,_,rfl,rfl,ha,Yw,rfl,_,rfl,iN ?_⟩;refine⟨_,rfl,a,_,_,_,rfl,rfl,ha,Vq,_,rfl,a,_,_,_,rfl,rfl,ha,at2,(sz 2),λe he=>?_⟩;exact q e _ (Zv.lay he) (Zp.of Zz)
 .refine hide λ_ Yz=>?_;obtain⟨a,ws,rfl,ha,at'⟩:=is;obtain⟨w1,rfl,i1⟩:=Sv at';cases Zc i1;refine Yz ?_;refine⟨_,rfl,a,_,_,_,rfl,rfl,ha,Yw,rfl,_,rfl,iY ?_⟩;exact⟨(sz 2),λe he=>q e _ (Zv.lay he) (Zp.of Zz)⟩
theorem ok_may(F:Fu K "may_be_left_out" Jr f fd)(m:Bn mg):Yk P w K mg base Mm 1 f fd QS (gj K):=by
 refine F.ok C9 (λvs H Q E h=>?_) λ_ A _ s H vs Q E hr h=>?_
 .obtain⟨v,fl,rfl,_⟩:=h
  rfl
 obtain⟨v,fl,rfl,iv,gd,q⟩:=h;obtain⟨a,ws,rfl,ha,at'⟩:=iv;obtain⟨w1,w2,w3,w4,rfl,i1,i2,i3,i4⟩:=Qk at';refine⟨_,(@Z2 _ _ _ (qr (eQ E5 (iX Zy (pv 0) Zq) (qt Zx)))),?_⟩;refine⟨_,rfl,a,_,_,_,rfl,rfl,ha,at3,(sz 0),λe0 h0=>?_⟩;have s0:=Zv.lay (o:=.tup []) h0;refine hide λ_ Yq=>?_;obtain⟨da,dx,rfl,hda,adx⟩:=i4;refine Yq ?_;refine⟨da,e0,dx,rfl,rfl,s0.up _ _ hda,Zp.of Zz,Qe (Nat.le_add_right _ _) hr.units,?_⟩;have:=q _ s0;rw[Zxi adx];cases ed:fl.d with
 | none=>rw[ed]at this;exact this
 | some d=>rw[ed]at this;exact this
abbrev gM(P:Program)(w:World)(K:W.Frag)(mg:G6)(base:Heap):=Fn P w K mg base 1 "member_of" QN (Zz2 K)
theorem ok_can(F:Fu K "can_be_read" Mi f fd)(m:Bn mg)(X2:Fn P w K mg base 1 "item_sort" QB (K5 K))(X3:Fn P w K mg base 1 "bounds_of" QB (jj K))(Vt:gM P w K mg base):Yk P w K mg base Mm 2 f fd QT (gm K):=by
 refine F.ok Ds (λvs H Q E h=>?_) λ_ A _ s H vs Q E hr h=>?_
 .obtain⟨sv,v,s,n,t,rfl,_⟩:=h
  rfl
 obtain⟨sv,v,sh,n,t,rfl,is,it,iv,q⟩:=h;obtain⟨a0,r0,et⟩:=Zqa it;have iv0:=iv;rw[et]at iv;obtain⟨b,ys,rfl,hb,y1,yr,rfl,j1,y2,yr2,rfl,j2,j3⟩:=iv;cases Zc j1;refine⟨_,(@Zd _ _ _ _ _ (sI 2 Ds.nd (cF X2 hr (Zf (pv 0) Zx))) (qs (qi (tQ Zx0 (iX Zy (pv 1) Zq) (pv 2)) (q1 (qr fu)) Zl) (qs (qi (tQ Za (pv 2) Zk) (qs (sI 3 Ds.nd (cF X3 hr (Zf (pv 0) Zx))) (q1 (qr (@Zxh _ _ _ _ _ _ _ _ _ _ _ _ Pp Pp (iX Zy (pv 3) Zq) (iX Zy (pv 1) Zq) (iX Zy (pv 3) Zq) QO)))) Zl) (qs (qi (tQ Za (pv 2) Zk) (q1 (qr (eQ Pp (cB Lq m.len Dz (Zf (iX Zy (pv 1) Zq) Zx)) (iX Zy (pv 0) Zq)))) Zl) (qs (qi (qp (qO (tQ Za (pv 2) Zk) (qQ (tQ Za (pv 2) Zk)))) (q1 (qr (eQ Pp (cB Lq m.len Dz (Zf (iX Zy (pv 1) Zq) Zx)) (iX Zy (pv 0) Zq)))) Zl) (q1 (qr (@Zgx _ _ _ _ _ _ _ (eQ Za (pv 2) Zk) (@Zgx _ _ _ _ _ _ _ (iX Zy (pv 0) Zq) (qe (eQ Zv9 (cF Vt hr (Zf (pv 0) (Zf (iX Zy (pv 1) Zq) Zx))) Pr))))))))))),?_⟩;refine⟨_,rfl,sv,sh,rfl,is,?_⟩;generalize hW:Bm sh=W;refine⟨_,rfl,b,_,_,_,rfl,rfl,hb,Yw,_,rfl,rfl,_,rfl,?_⟩;by_cases c:U0 t=W
 .refine Z5 (by rw[c,Sd rfl];rfl) ?_;have c:=c.trans hW.symm;rw[fits sh c]at q;cases sh with
  | whole lo hi =>
   refine hide λ_ Yy=>?_;cases (show "whole"=W from hW);obtain⟨i,rfl,_⟩:=Ge it c;refine Yy ?_;cases et;refine hide λ_ Yg=>?_;cases Zc j2;refine Yg ?_;refine⟨_,rfl,rfl,_,rfl,iY ?_⟩;refine⟨_,rfl,sv,_,lo,hi,rfl,is,.inl rfl,λe H1 s1 he=>?_⟩;refine⟨_,rfl,e,_,_,_,rfl,rfl,he,Yw,_,rfl,b,_,_,_,rfl,rfl,s1.up _ _ hb,Vq,_,_,rfl,rfl,_,rfl,?_⟩;have q:Q (.bl (decide (lo<=i)&&decide (i<=hi))) H1:=q H1 s1;refine Vb (λc1=>?_) (λc1=>?_)
   .refine⟨_,rfl,e,_,_,_,rfl,rfl,he,Vq,_,_,rfl,rfl,?_⟩;rw[c1,Bool.true_and]at q;exact q
   .rw[nf c1,B0x]at q;exact q
  | truth =>
   refine hide λ_ Yc=>?_;cases (show "whole"=W from hW);obtain⟨i,rfl,_⟩:=Ge it c;refine Yc ?_;cases et;refine hide λ_ Yr=>?_;cases Zc j2;refine Yr ?_;refine⟨_,rfl,rfl,_,rfl,iY ?_⟩;refine⟨_,rfl,sv,_,0,1,rfl,is,.inr ⟨rfl,rfl,rfl⟩,λe H1 s1 he=>?_⟩;refine⟨_,rfl,e,_,_,_,rfl,rfl,he,Yw,_,rfl,b,_,_,_,rfl,rfl,s1.up _ _ hb,Vq,_,_,rfl,rfl,_,rfl,?_⟩;have q:Q (.bl (decide ((0:Int)<=i)&&decide (i<=1))) H1:=q H1 s1;refine Vb (λc1=>?_) (λc1=>?_)
   .refine⟨_,rfl,e,_,_,_,rfl,rfl,he,Vq,_,_,rfl,rfl,?_⟩;rw[c1,Bool.true_and]at q;exact q
   .rw[nf c1,B0x]at q;exact q
  | text k =>
   refine hide λ_ Yo=>?_;cases (show "text"=W from hW);obtain⟨x,rfl,tx⟩:=Qs it c;refine Yo ?_;cases et;refine hide λ_ Z1=>?_;cases Zc j2;obtain⟨a,ws,rfl,ha,at'⟩:=is;obtain⟨w1,w2,rfl,i1,i2⟩:=U5 at';cases Zc i2;refine Z1 ?_;refine⟨_,rfl,rfl,_,rfl,iN ?_⟩;refine⟨_,rfl,rfl,_,rfl,iY ?_⟩;exact⟨_,rfl,b,_,_,_,rfl,rfl,hb,Vq,.str x,_,rfl,⟨Vf tx.2 QI,rfl⟩,_,rfl,a,_,_,_,rfl,rfl,ha,Vq,_,_,rfl,rfl,q _ (Zv.refl H)⟩
  | row bb y k =>
   refine hide λ_ Yz=>?_;obtain⟨n',rfl⟩:=it.pos;obtain⟨a,ws,rfl,ha,at'⟩:=is;obtain⟨w1,w2,w3,rfl,i1,i2,i3⟩:=J4 at';cases Zc i3
   obtain⟨l,et2⟩:∃l,t=.tup [.str (Bm (.row bb y k)),.tup l]:=by
    cases bb with
    | true=>obtain⟨l,e,_⟩:=Oj it c;exact⟨l,e⟩
    | false=>obtain⟨l,e,_⟩:=Ow it c;exact⟨_,e⟩
   refine Yz ?_;subst et2;cases et;refine hide λ_ Yq=>?_;obtain⟨pa,xs,rfl,G4,axs⟩:=j2;refine Yq ?_;have q1:Q (.bl (decide ((l.length:Int)<=k))) H:=q _ (Zv.refl H);rw[axs.length]at q1;cases bb with
   | true =>
    refine hide λ_ Yy=>?_;cases (show "row"=W from hW);refine Yy ?_;refine⟨_,rfl,rfl,_,rfl,Z5 QA ⟨_,rfl,rfl,_,rfl,iN ?_⟩⟩;refine⟨_,rfl,rfl,_,rfl,Vi QA (Vi rfl ?_)⟩;exact⟨_,rfl,b,_,_,_,rfl,rfl,hb,Vq,.ref pa,_,rfl,.inr ⟨xs,G4,rfl⟩,_,rfl,a,_,_,_,rfl,rfl,ha,at2,_,_,rfl,rfl,q1⟩
   | false =>
    refine hide λ_ Yg=>?_;cases (show "map"=W from hW);refine Yg ?_;refine⟨_,rfl,rfl,_,rfl,Z5 QA ⟨_,rfl,rfl,_,rfl,iN ?_⟩⟩;refine⟨_,rfl,rfl,_,rfl,Z5 QA ⟨_,rfl,rfl,_,rfl,iY ?_⟩⟩;exact⟨_,rfl,b,_,_,_,rfl,rfl,hb,Vq,.ref pa,_,rfl,.inr ⟨xs,G4,rfl⟩,_,rfl,a,_,_,_,rfl,rfl,ha,at2,_,_,rfl,rfl,q1⟩
  | rcd fs us =>
   refine hide λ_ Yc=>?_;cases (show "rec"=W from hW);refine Yc ?_
   iterate 2 refine⟨_,rfl,rfl,_,rfl,Z5 QA ⟨_,rfl,rfl,_,rfl,iN ?_⟩⟩
   exact⟨_,rfl,rfl,_,rfl,Vi QA (q _ (Zv.refl H))⟩
  | cho fs us o =>
   refine hide λ_ Yr=>?_;cases (show "arm"=W from hW);obtain⟨n',rfl⟩:=it.pos;obtain⟨k,u,rfl,_⟩:=Hh it c;refine Yr ?_;cases et;refine hide λ_ Yo=>?_;cases Zc j2;have vx:=is;obtain⟨a,ws,rfl,ha,at'⟩:=is;obtain⟨w1,w2,w3,w4,rfl,i1,i2,i3,i4⟩:=Qk at';cases Zc i4;refine Yo ?_
   iterate 2 refine⟨_,rfl,rfl,_,rfl,Z5 QA ⟨_,rfl,rfl,_,rfl,iN ?_⟩⟩
   refine⟨_,rfl,rfl,_,rfl,Z5 QA ⟨_,rfl,a,_,_,_,rfl,rfl,ha,at3,_,rfl,?_⟩⟩;have q:Q (.bl (o || (J0 fs k).isSome)) H:=q _ (Zv.refl H);cases o with
   | true=>exact Wc q
   | false =>
    refine Wn ⟨_,rfl,_,rfl,b,_,_,_,rfl,rfl,hb,Vq,.ref a,_,_,Vk.a,fs,k,rfl,vx,λf=>⟨_,rfl⟩,λen=>?_,λg v eg ig=>?_⟩
    .rw[en]at q;exact⟨rfl,q⟩
    .rw[eg]at q;refine hide λ_ Z1=>?_;obtain⟨p,_,rfl,_⟩:=ig;refine Z1 ?_;exact⟨rfl,q⟩
 .refine Vi (by rw[F9 (λz=>c (by injection z))];rfl) ?_;have e1:Mx sh t=false:=by unfold Mx;rw[hW,F9 c];rfl
  rw[e1]at q;exact q _ (Zv.refl H)
end
abbrev Gm:Stmt:=top 25
noncomputable abbrev El:ZF:=["make","shape","item","path","number","arm"]
theorem Dr:Ze El XS (Zb Gm):=by trivial
abbrev U1:Stmt:=top 24
noncomputable abbrev Ce:ZF:=["make","shape","item","path","inner","known","field","way","others"]
theorem Vu:Ze Ce XS (Zb U1):=by trivial
def XE(E:XK):XK:=λCv od H'=>∀(a C:Addr),Cv=.ref C->H' a=some (Mh a C od false)->E (.ref C) od H'
theorem Zkt{K:W.Frag}{CB:Addr}{E:XK}{H:Hp}{q:List Th}(b:BI K CB E H q):BI K CB (XE E) H q:=λd y H' s h i a C e _=>by cases e;exact b d y H' s h i
theorem I9{K:W.Frag}{CB:Addr}{H:Hp}{Q:VK}{E:XK}{r:Rs Th}(ho:∀u,r=.ok u->∀(v:V) (H':Hp),Zv H H'->Zg K H' u v->Q v H')(hb:∀q,r=.bad q->BI K CB E H q):Oc K CB H Q (XE E) r:=by
 cases r with
 | ok u=>exact ho u rfl
 | bad q=>exact Zkt (hb q rfl)
theorem Dw{K:W.Frag}{H H':Hp}{p:List Th}{xs:ZZ}{e1 p':Addr}{a b:Th}{va vb:V}(ax:Zw K H p xs)(s:Zv H H')(h1:Zp K H' e1 [va,vb])(ia:Zg K H' a va)(ib:Zg K H' b vb)(hp:Zp K H' p' (xs++[.ref e1])):Zg K H' (.tup (p++[.tup [a,b]])) (.ref p') :=
 ⟨p',_,rfl,hp,Zw.append (Zw.up s.upT _ _ ax) (Zw.one ⟨e1,_,rfl,h1,va,_,rfl,ia,vb,_,rfl,ib,rfl⟩)⟩
noncomputable def Cn:Nat:=13000000
inductive spRA_I(K:W.Frag)(CB:Addr)(n:Nat)(vs:ZZ)(H:Hp)(Q:VK)(E:XK):Prop
 | mk(e S:Addr)(ms:List (Str×Yn))(x:Str)(t:Th)(p:List Th)(v zv:V)(Vx:vs=[.ref e,.str x,v,zv])(Vz:M5 K H e S ms)(Vp:Nd ms)(Jn:(Jc ms x).isSome=true)(Mf:Vm n t)(Co:Y9 t<=Cn)(Xo:Zg K H t v)(h7_:Zg K H (.tup p) zv)(h8_:p.length+n<=100)(h9_:Oc K CB H Q E (Jd ms n x t p))
def Iw(K:W.Frag)(CB:Addr)(n:Nat):Sp:=λvs H Q E=>spRA_I K CB n vs H Q E
inductive spRC_I(K:W.Frag)(CB:Addr)(n:Nat)(vs:ZZ)(H:Hp)(Q:VK)(E:XK):Prop
 | mk(e S:Addr)(ms:List (Str×Yn))(fs:List Vk)(us:ZC)(o:Bool)(t:Th)(p:List Th)(sv v zv:V)(Vx:vs=[.ref e,sv,v,zv])(Vz:M5 K H e S ms)(Vp:Nd ms)(Jn:V0 ms fs)(Mf:Zg K H (Yn.cho fs us o).t sv)(Co:Vm (n+1) t)(Xo:U0 t="arm")(h7_:Y9 t<=Cn)(h8_:Zg K H t v)(h9_:Zg K H (.tup p) zv)(h10_:p.length+n<100)(h11_:Oc K CB H Q E (rdS (Jd ms n) (.cho fs us o) t p))
def spRC(K:W.Frag)(CB:Addr)(n:Nat):Sp:=λvs H Q E=>spRC_I K CB n vs H Q E
inductive spRR_I(K:W.Frag)(CB:Addr)(n:Nat)(vs:ZZ)(H:Hp)(Q:VK)(E:XK):Prop
 | mk(e S:Addr)(ms:List (Str×Yn))(fs:List Vk)(us:ZC)(t:Th)(p:List Th)(sv v zv:V)(Vx:vs=[.ref e,sv,v,zv])(Vz:M5 K H e S ms)(Vp:Nd ms)(Jn:V0 ms fs)(Mf:Zg K H (Yn.rcd fs us).t sv)(Co:Vm (n+1) t)(Xo:U0 t="rec")(h7_:Y9 t<=Cn)(h8_:Zg K H t v)(h9_:Zg K H (.tup p) zv)(h10_:p.length+n<100)(h11_:Oc K CB H Q E (rdS (Jd ms n) (.rcd fs us) t p))
def spRR(K:W.Frag)(CB:Addr)(n:Nat):Sp:=λvs H Q E=>spRR_I K CB n vs H Q E
theorem wa(n:Int)(l:List (Int×Th)):Tg n (l.map U2)=(l.find? λp=>decide (p.1=n)).map (·.2):=by
 unfold Tg;rw[List.find?_map,Option.map_map]
 rfl
theorem Qd{R:Str->Th->List Th->Rs Th}{p ts:List Th}{f:Vk}{u:Th}(h:Tg f.n ts=some u):Jp R p ts f=R f.y u (p++[Y8 "field" (.int f.n)]):=by unfold Jp;rw[h]
theorem Qt{R:Str->Th->List Th->Rs Th}{p ts:List Th}{f:Vk}{d:Th}(h:Tg f.n ts=none)(e:f.d=some d):Jp R p ts f=.ok d:=by unfold Jp;rw[h,e]
theorem Qc{R:Str->Th->List Th->Rs Th}{p ts:List Th}{f:Vk}(h:Tg f.n ts=none)(e:f.d=none):Jp R p ts f=.bad (p++[Y8 "field" (.int f.n)]):=by unfold Jp;rw[h,e]
theorem Zgj{l:ZC}(h:l.Pairwise (· < ·)):l.Nodup:=List.Pairwise.imp (λh=>Int.ne_of_lt h) h
theorem fw{l:List (Int×Th)}{n:Nat}(h:∀p∈l,Vm n p.2)(hm:Y9 (.tup [.str "rec",.tup (l.map U2)])<=Cn):l.length<=100000:=by
 rw[Tx]at hm;have:=Tj (ts:=l.map U2) λt m=>by obtain⟨p,mp,rfl⟩:=G3.mp m;rw[D6];omega
 rw[Yv]at this;have e:Cn=13000000:=rfl;omega
theorem Ia(fs:List Vk){ts:List Th}{i:Nat}{t:Th}(e:ts[i]?=some t):N2 fs (ts.take (i+1))=N2 fs (ts.take i)++(if (J0 fs (ud (W4 t))).isNone=true then [t] else []):=by
 unfold N2;rw[Zs e,List.filter_append,List.filter_cons,List.filter_nil]
section
variable{P:Program}{w:World}{K:W.Frag}{mg:G6}{base:Heap}{f:Addr}{fd:FuncData}{C fi:Addr}{fdi:FuncData}
theorem Po{k n:Nat}(hk:1<=k)(F:Fu K "read_choice" Gm f fd)(m:Bn mg)(Vt:gM P w K mg base)(Jg:oz P w K mg base k "read_at" XT (Iw K C n)):Yk P w K mg base (xb P w) (k+1) f fd XS (spRC K C n):=by
 refine F.okX Dr (λvs H Q E h=>?_) λ_ A _ s H vs Q E hr h=>?_
 .obtain⟨e,S,ms,fs,us,o,t,p,sv,v,zv,rfl,_⟩:=h
  rfl
 obtain⟨e,S,ms,fs,us,o,t,p,sv,v,zv,rfl,mk,mo,pr,is,it,wt,hm,iv,ip,hp,oc⟩:=h;obtain⟨nb,u,rfl,n0,n1,iw⟩:=Hh it wt;obtain⟨b,ys,rfl,hb,ab⟩:=iv;obtain⟨y1,y2,y3,rfl,j1,j2,j3⟩:=J4 ab;cases Zc j2;refine⟨_,(@Zd _ _ _ _ _ (sI 4 Dr.nd (iX Zy (pv 2) Zq)) (qs (sI 5 Dr.nd (cF Vt hr (Zf (pv 1) (Zf (pv 4) Zx)))) (qs (qi (tQ Zx1 (pv 5) Pr) (q1 (qr (qt (Zf Zk (Zf (pv 4) (Zf (iX Zy (pv 2) Zq) Zx)))))) Zl) (q1 (qr (qt (Zf Zk (Zf (pv 4) (Zf (@Ga _ _ _ _ _ _ _ _ _ _ _ Jg Q3 (hr.m) rfl (Zf (pv 0) (Zf (iX Zy (pv 5) Zq) (Zf (iX Zy (pv 2) Zq) (Zf (qo Gr (pv 3) (qt (Zf (qt (Zf Zk (Zf (pv 4) Zx))) Zx))) Zx)))) QI rfl rfl) Zx))))))))),?_⟩
 have oc:Oc K C H Q E (match J0 fs nb with
  | none=>.ok (.tup [.str "other",.int nb,u])
  | some g=>mapR (λv=>.tup [.str "arm",.int nb,v]) (Jd ms n g.y u (p++[Y8 "arm" (.int nb)]))):=oc
 refine⟨_,rfl,b,_,_,_,rfl,rfl,hb,Vq,?_⟩;refine⟨_,rfl,_,rfl,sv,_,_,Vk.a,fs,nb,rfl,is,λf=>⟨_,rfl⟩,λen=>?_,λg gv eg ig=>?_⟩
 .rw[en]at oc;refine⟨_,rfl,rfl,_,rfl,Vi QI ?_⟩;refine⟨_,rfl,_,rfl,b,_,_,_,rfl,rfl,hb,at2,(sz 3),λe1 h1=>?_⟩;have s1:=Zv.lay (o:=.tup [.str "other",.int nb,y3]) h1;exact oc _ _ s1 ⟨e1,_,rfl,Zp.of Zz,_,_,rfl,rfl,_,_,rfl,rfl,_,_,rfl,Zg.up s1.upT _ _ j3,rfl⟩
 .rw[eg]at oc;have oc:Oc K C H Q E (mapR (λv=>.tup [.str "arm",.int nb,v]) (Jd ms n g.y u (p++[Y8 "arm" (.int nb)]))):=oc;have mg':g∈fs:=List.mem_of_find?_eq_some eg;refine hide λ_ Z1=>?_;obtain⟨ga,gs,rfl,hga,ag⟩:=ig;obtain⟨g1,g2,g3,rfl,l1,l2,l3⟩:=J4 ag;cases Zc l3;obtain⟨pa,xs,rfl,G4,ax⟩:=ip;refine Z1 ?_;refine⟨_,rfl,rfl,_,rfl,Z5 (F9 λz=>nomatch z) ?_⟩;refine⟨_,rfl,_,rfl,_,rfl,ga,_,_,_,rfl,rfl,hga,at2,_,rfl,b,_,_,_,rfl,rfl,hb,at2,_,rfl,_,rfl,(sz 2),λe1 h1=>⟨(sz 1),λe2 h2=>?_⟩⟩;have s1:=Zv.lay (o:=.tup [.str "arm",.int nb]) h1;have s2:=Zv.lay (o:=.tup [.ref e1]) h2;have Ni:=s1.trans s2;have lx:=ax.length;refine⟨pa,e2,xs,_,rfl,rfl,Ni.up _ _ G4,Zp.of Zz,?_,λp' H3 s3 vk=>?_⟩
  .rw[<-lx];exact Vf (show p.length+1<=101 by omega) QI
  have s13:=Ni.trans s3;refine⟨e,S,ms,g.y,u,p++[Y8 "arm" (.int nb)],y3,.ref p',rfl,mk.up s13.upT,mo,pr.y g mg',iw,?_,Zg.up s13.upT _ _ j3,Dw ax s13 (s3.up _ _ (Zp.of (s2 _ _ Zz))) rfl rfl vk,?_,?_⟩
  .rw[Gg]at hm;omega
  .rw[Nl,ZU];omega
  refine I9 (λw' ew v' H4 s4 i4=>?_) (λq eq=>?_)
  .rw[ew]at oc;refine⟨(sz 3),λe5 h5=>?_⟩;have s5:=Zv.lay (o:=.tup [.str "arm",.int nb,v']) h5;exact oc _ _ (s13.trans (s4.trans s5)) ⟨e5,_,rfl,Zp.of Zz,_,_,rfl,rfl,_,_,rfl,rfl,_,_,rfl,Zg.up s5.upT _ _ i4,rfl⟩
  .rw[eq]at oc;exact BI.same oc s13
theorem Pa{k n:Nat}(hk:2<=k)(F:Fu K "read_record" U1 f fd)(m:Bn mg)(cb:Mb K C)(mk_BadItem:XMk K C fi)(f_BadItem:Yk P w K mg base Mm 1 fi fdi QW (T4 C))(Uc:mg "BadItem"=some (.ref C))(bi_BadItem:Binds K fdi QW [])
  (Vt:gM P w K mg base) (Uv:Fn P w K mg base 1 "may_be_left_out" QS (gj K)) (Jg:oz P w K mg base k "read_at" XT (Iw K C n)):Yk P w K mg base (xb P w) (k+1) f fd XS (spRR K C n):=by
 refine F.okX Vu (λvs H Q E h=>?_) λ_ A _ s H vs Q E hr h=>?_
 .obtain⟨e,S,ms,fs,us,t,p,sv,v,zv,rfl,_⟩:=h
  rfl
 obtain⟨e,S,ms,fs,us,t,p,sv,v,zv,rfl,mk,mo,pr,is,it,wt,hm,iv,ip,hp,oc⟩:=h;obtain⟨l,rfl,kb,sl,iw⟩:=Hr it wt;have ll:=fw iw hm;have nd:=Zgj sl;obtain⟨b,bs,rfl,hb,ab⟩:=iv;obtain⟨y1,y2,rfl,j1,j2⟩:=U5 ab;obtain⟨ia,ix,rfl,Ln,aix⟩:=j2;obtain⟨we,pd0,ln0,Zqr⟩:=df aix;have vx:=is;obtain⟨a,ws,rfl,ha,at'⟩:=is;obtain⟨w1,w2,w3,rfl,i1,i2,i3⟩:=J4 at';obtain⟨fa,fws,rfl,Mg,afs⟩:=i2;obtain⟨pa,xs,rfl,G4,ax⟩:=ip;refine⟨_,(@Zd _ _ _ _ _ (sI 4 Vu.nd (cT (Mq rfl) m.dict Ar (Zf (iX Zy (pv 2) Zq) Zx))) (qs (sI 5 Vu.nd (ql Zx)) (qs (Jj PassesOwn.leaving rfl (qI (iX Zy (pv 1) Zq)) (nJ 6 Vu.nd) (qs (sI 7 Vu.nd (qo Gr (pv 3) (qt (Zf (qt (Zf Zk (Zf (iX Zy (pv 6) Zq) Zx))) Zx)))) (q1 (qi (@jg _ _ _ _ _ _ (@Zxu _ _ _ _ _ (Jo hr) (iX Zy (pv 6) Zq) (pv 4)) QO) (q1 (@Dj _ _ _ _ (@Wx _ _ _ _ _ _ _ _ _ _ _ _ PySem.F.plainAttrs_list PySem.F.slot_list_append PySem.F.type_list_append Ux (pv 5) (Zf (@Ga _ _ _ _ _ _ _ _ _ _ _ Jg Q3 (hr.m) rfl (Zf (pv 0) (Zf (iX Zy (pv 6) Zq) (Zf (@Mn _ _ _ _ _ _ (Jo hr) (pv 4) (iX Zy (pv 6) Zq) (λ_ _=>rfl)) (Zf (pv 7) Zx)))) QI rfl rfl) Zx) QO QO QO QO QO) rfl)) (q1 (qi (B4 (cF Uv hr (Zf (pv 6) Zx)) (by intro _;rfl)) (q1 (@Dj _ _ _ _ (@Wx _ _ _ _ _ _ _ _ _ _ _ _ PySem.F.plainAttrs_list PySem.F.slot_list_append PySem.F.type_list_append Ux (pv 5) (Zf (iX Zy (iX Zy (pv 6) Zq) Zq) Zx) QO QO QO QO QO) rfl)) (q1 (@E2 _ _ _ _ _ Q3 (@Zxl _ _ _ _ _ _ _ _ _ _ _ _ _ _ _ mk_BadItem f_BadItem (hr.m) rfl Uc bi_BadItem Zxa (Zf (pv 7) Zx) QI rfl rfl) rfl)))))))) (qs (@V2 _ 8 Ce (Zb U1) ["pair","shape"] [none,some 1] _ _ _ _ _ _ _ _ _ _ _ _ _ Vu.nd rfl QO rfl (qI (iX Zy (pv 2) Zq)) ⟨rfl,rfl,by decide +kernel,by decide +kernel⟩ (λ_ _ _=>(nI 0)) (λ_ _ _=>(@Gn _ _ _ (tQ Zx1 (cF Vt hr (Zf (pv 1) (Zf (iX Zy (pv 0) Zq) Zx))) Pr))) (λ_ _ _=>(pv 0)) QO QO QO) (q1 (qr (qt (Zf (cT Zr m.tuple Yd (Zf (pv 5) Zx)) (Zf (cT Zr m.tuple Yd (Zf (pv 8) Zx)) Zx))))))))),?_⟩;have lx:=ax.length;have lf:fws.length=fs.length:=by rw[<-afs.length,Yv]
 have oc:Oc K C H Q E (mapR (λvs=>.tup [.tup vs,.tup (N2 fs (l.map U2))]) (Z7 (λ_ f=>Jp (Jd ms n) p (l.map U2) f) 0 fs)):=oc;refine⟨_,rfl,b,_,_,_,rfl,rfl,hb,Vq,ia,ix,we,rfl,Ln,ln0,Zqr,λD hD=>?_⟩;have sD:=Zv.lay (o:=.dK (Mr we)) hD;have pf:Paired (DR K H) (Mr we) l:=Qa (b:=[]) pd0 .nil (by rw[List.nil_append];exact nd);refine⟨(sz 0),λL hL=>?_⟩;have sL:=Zv.lay (o:=.lst []) hL;have sDL:=sD.trans sL;refine⟨_,rfl,a,_,_,_,rfl,rfl,sDL.up _ _ ha,Vq,fa,rfl,⟨_,sDL.up _ _ Mg⟩,?_⟩
 refine W7 (K:=K) (xs:=fws) (λi j H5=>(∃o6 o7 o8,j=[some (.ref e),some (.ref a),some (.ref b),some (.ref pa),some (.ref D),some (.ref L),o6,o7,o8])/\Zv (upd H D (.dK (Mr we))) H5/\∃vs ys,Z7 (λ_ f=>Jp (Jd ms n) p (l.map U2) f) 0 (fs.take i)=.ok vs/\H5 L=some (.lst ys)/\Zw K H5 vs ys)
  ⟨⟨_,_,_,rfl⟩,sL,[],[],rfl,Zz,rfl⟩ ?_ ?_ ?_
 .intro i j H5 hi Rc;refine hide λ_ Yz=>?_;obtain⟨_,s5,_⟩:=Rc;refine Yz ?_;exact(sD.trans s5).up _ _ Mg
 .intro i x j H5 hx Om;refine hide λ_ Yq=>?_;obtain⟨⟨o6,o7,o8,rfl⟩,s5,vs,ys,er,h5,av⟩:=Om;obtain⟨t,et,it⟩:=afs.got hx;rw[Jb]at et;obtain⟨fl,ef,rfl⟩:=Cy.mp et;have mf:fl∈fs:=Cr ef;have hi:i<fs.length:=(Bl.mp ef).1;have it0:=it;obtain⟨c,cs,rfl,hc,ac⟩:=it;obtain⟨c1,c2,c3,c4,rfl,k1,k2,k3,k4⟩:=Qk ac;cases Zc k1;cases Zc k3;obtain⟨da,dx,rfl,hda,adx⟩:=k4;refine Yq ?_;have Hw:=sD.trans s5
  have yl:ys.length<sizeLine:=by
   rw[<-av.length,Us er,Cs];exact Yx (Vf (Nat.min_le_right _ _) (Vf pr.len QI))
  refine⟨_,rfl,_,rfl,c,_,_,_,rfl,rfl,Hw.up _ _ hc,Yw,(sz 2),λe1 h1=>⟨(sz 1),λe2 h2=>?_⟩⟩;have s1:=Zv.lay (o:=.tup [.str "field",.int fl.n]) h1;have s2:=Zv.lay (o:=.tup [.ref e1]) h2;have Ni:=s1.trans s2;refine⟨pa,e2,xs,_,rfl,rfl,(Hw.trans Ni).up _ _ G4,Zp.of Zz,?_,λp' H6 s6 vk=>?_⟩
  .rw[<-lx];exact Vf (show p.length+1<=101 by omega) QI
  have s56:=Ni.trans s6;have Sn:=Hw.trans s56;have way:Zg K H6 (.tup (p++[Y8 "field" (.int fl.n)])) (.ref p'):=Dw ax Sn (s6.up _ _ (Zp.of (s2 _ _ Zz))) rfl rfl vk;have hL6:=s56 _ _ h5;have hD6:H6 D=some (.dK (Mr we)):=(s5.trans s56) _ _ Zz;have hc6:=Sn.up (K:=K) _ _ hc;refine⟨_,rfl,c,_,_,_,rfl,rfl,hc6,Yw,_,rfl,D,_,rfl,Ue.k (k:=.inl fl.n) hD6,_,rfl,?_⟩;have fe:=wa fl.n l;cases el:l.find? (λp=>decide (p.1=fl.n)) with
  | some q =>
   have mq:=List.mem_of_find?_eq_some el;have eq1:q.1=fl.n:=Sh (List.find?_some (p:=λp:Int×Th=>decide (p.1=fl.n)) el);refine hide λ_ Yy=>?_;obtain⟨qv,ev,iq⟩:=Av pf nd mq;refine Yy ?_;rw[eq1]at ev;rw[el]at fe;have fe:Jp (Jd ms n) p (l.map U2) fl=Jd ms n fl.y q.2 (p++[Y8 "field" (.int fl.n)]):=Qd fe;refine Vi (by rw[ev];rfl) ?_;refine⟨_,rfl,.inl ⟨rfl,_,Zu.of hL6⟩,_,rfl,_,rfl,c,_,_,_,rfl,rfl,hc6,at2,_,rfl,_,rfl,c,_,_,_,rfl,rfl,hc6,Yw,D,qv,rfl,(show Ue H6 D (kV (.inl fl.n)) (some qv) from ev ▸ Ue.k (k:=.inl fl.n) hD6),_,rfl,?_⟩;refine⟨e,S,ms,fl.y,q.2,p++[Y8 "field" (.int fl.n)],qv,.ref p',rfl,mk.up Sn.upT,mo,pr.y fl mf,iw q mq,?_,Zg.up Sn.upT _ _ iq,way,?_,?_⟩
   .have:=Vo (List.mem_map_of_mem (f:=U2) mq);rw[D6]at this;rw[Tx]at hm;omega
   .rw[Nl,ZU];omega
   refine I9 (λw' ew v' H7 s7 i7=>?_) (λq' eq'=>?_)
   .refine⟨L,ys,v',rfl,rfl,s7 _ _ hL6,yl,⟨_,_,_,rfl⟩,((s5.trans s56).trans s7).put hL,vs++[w'],ys++[v'],Dp ef er (fe.trans ew),Zz,?_⟩;have uS:Ui K H7 (upd H7 L (.lst (ys++[v']))):=Zi (s7 _ _ hL6);exact Zw.append (Zw.up ((s56.trans s7).upT.trans uS) _ _ av) (Zw.one (Zg.up uS _ _ i7))
   .rw[Gk ef er (fe.trans eq')]at oc;exact BI.same oc Sn
  | none =>
   have nn:fl.n∉l.map (·.1):=λmm=>by
    refine hide λ_ Yg=>?_;obtain⟨q,mq,e⟩:=G3.mp mm;refine Yg ?_;exact absurd (Sd e) (XZ.mp el q mq)
   have ev:=Lx pf nn;rw[el]at fe;refine Z5 (by rw[ev];rfl) ?_;refine⟨_,rfl,.ref c,fl,rfl,Zg.up Sn.upT _ _ it0,jd pr mf,λH7 s7=>⟨_,rfl,?_⟩⟩;have Ea:=s56.trans s7;cases ed:fl.d with
   | some d =>
    have fe:Jp (Jd ms n) p (l.map U2) fl=.ok d:=Qt fe ed;rw[ed]at adx;refine hide λ_ Yc=>?_;obtain⟨dv,rfl,id⟩:=Sv adx;refine Yc ?_;refine Wc ⟨_,rfl,.inl ⟨rfl,_,Zu.of (Ea _ _ h5)⟩,_,rfl,c,_,_,_,rfl,rfl,s7.up _ _ hc6,at3,da,_,_,_,rfl,rfl,(Sn.trans s7).up _ _ hda,Yw,?_⟩;refine⟨L,ys,dv,rfl,rfl,Ea _ _ h5,yl,⟨_,_,_,rfl⟩,(s5.trans Ea).put hL,vs++[d],ys++[dv],Dp ef er fe,Zz,?_⟩;have uS:Ui K H7 (upd H7 L (.lst (ys++[dv]))):=Zi (Ea _ _ h5);exact Zw.append (Zw.up (Ea.upT.trans uS) _ _ av) (Zw.one (Zg.up ((Sn.trans s7).upT.trans uS) _ _ id))
   | none =>
    have fe:Jp (Jd ms n) p (l.map U2) fl=.bad (p++[Y8 "field" (.int fl.n)]):=Qc fe ed;rw[Gk ef er fe]at oc;exact Wn ⟨_,rfl,zf cb (BI.same oc (Sn.trans s7)) (Zg.up s7.upT _ _ way)⟩
 .intro j H5 Fq;refine hide λ_ Yr=>?_;obtain⟨⟨o6,o7,o8,rfl⟩,s5,vs,ys,er,h5,av⟩:=Fq;refine Yr ?_;rw[lf,Ss]at er;rw[er]at oc;have Hw:=sD.trans s5;have hia5:=Hw.up (K:=K) _ _ Ln;refine⟨_,rfl,b,_,_,_,rfl,rfl,Hw.up _ _ hb,Vq,ia,rfl,⟨_,hia5⟩,λD2 fp sx Nq=>?_⟩;refine J2 (K:=K) (xs:=ix) (λi zs j H6=>(∃o,j=[o,some (.ref a)])/\Zv H5 H6/\H6 D2=some (.lst zs)/\Zw K H6 (N2 fs ((l.map U2).take i)) zs) ⟨⟨_,rfl⟩,Zv.lay Nq,Zz,rfl⟩ ?_ ?_ ?_
  .intro i zs j H6 hi Ob;refine hide λ_ Yo=>?_;obtain⟨_,s6,h6,_⟩:=Ob;refine Yo ?_;exact⟨s6.up _ _ hia5,h6⟩
  .intro i x zs j H6 hx Fx;refine hide λ_ Z1=>?_;obtain⟨⟨o,rfl⟩,s6,h6,az⟩:=Fx;obtain⟨t,et,it⟩:=aix.got hx;have oo:=Ia fs et;rw[Jb]at et;obtain⟨q,eq,rfl⟩:=Cy.mp et;have it0:=it;obtain⟨c,cs,rfl,hc,ac⟩:=it;obtain⟨c1,c2,rfl,k1,k2⟩:=U5 ac;cases Zc k1;refine Z1 ?_;have Sn:=Hw.trans s6
   have zl:zs.length<sizeLine:=by
    rw[<-az.length];refine Qe (Vf (List.length_filter_le _ _) (Vf (by rw[Cs];exact Nat.min_le_right _ _) (by rw[Yv];exact ll))) QI
   refine Ej ?_;refine⟨_,rfl,_,rfl,c,_,_,_,rfl,rfl,Sn.up _ _ hc,Yw,.ref a,_,_,Vk.t,fs,q.1,rfl,Zg.up Sn.upT _ _ vx,λf=>⟨_,rfl⟩,λen=>?_,λg gv eg ig=>?_⟩
   .refine⟨rfl,_,rfl,Vi QI ?_⟩;have oo:N2 fs ((l.map U2).take (i+1))=N2 fs ((l.map U2).take i)++[U2 q]:=by rw[oo];show _++(if (J0 fs q.1).isNone=true then _ else _)=_;rw[en];rfl
    have uS:Ui K H6 (upd H6 D2 (.lst (zs++[.ref c]))):=Zi h6;refine⟨_,rfl,h6,zl,⟨_,rfl⟩,s6.put Nq,Zz,?_⟩;rw[oo];exact Zw.append (Zw.up uS _ _ az) (Zw.one (Zg.up (Sn.upT.trans uS) _ _ it0))
   .refine hide λ_ Yz=>?_;obtain⟨_,_,rfl,_⟩:=ig;refine Yz ?_;refine⟨rfl,_,rfl,Z5 (F9 λz=>nomatch z) ?_⟩;have oo:N2 fs ((l.map U2).take (i+1))=N2 fs ((l.map U2).take i):=by rw[oo];show _++(if (J0 fs q.1).isNone=true then _ else _)=_;rw[eg];exact ZO _
    exact⟨⟨_,rfl⟩,s6,h6,by rw[oo];exact az⟩
  .intro zs j H6 Td;refine hide λ_ Yq=>?_;obtain⟨_,s6,h6,az⟩:=Td;refine Yq ?_;rw[<-aix.length,Ss]at az;refine⟨_,rfl,L,ys,rfl,.inl ⟨Zu.of (s6 _ _ h5),λp1 h1=>⟨_,rfl,D2,zs,rfl,.inl ⟨Zu.of (Zv.lay h1 _ _ h6),λp2 h2=>⟨(sz 2),λp3 h3=>?_⟩⟩⟩⟩⟩;have s7:=Zv.lay (o:=.tup ys) h1;have s8:=Zv.lay (o:=.tup zs) h2;have s9:=Zv.lay (o:=.tup [.ref p1,.ref p2]) h3;have s79:=s7.trans (s8.trans s9);exact oc _ _ (Hw.trans (s6.trans s79)) ⟨p3,_,rfl,Zp.of Zz,_,_,rfl,⟨p1,ys,rfl,(s8.trans s9).up _ _ (Zp.of Zz),Zw.up (s6.trans s79).upT _ _ av⟩,_,_,rfl,⟨p2,zs,rfl,s9.up _ _ (Zp.of Zz),Zw.up s79.upT _ _ az⟩,rfl⟩
end
abbrev Dg:Stmt:=top 22
noncomputable abbrev Fg:ZF:=["make","name","item","path","shape","sort"]
theorem C8:Ze Fg XT (Zb Dg):=by trivial
abbrev jy:Stmt:=top 21
noncomputable abbrev N_read:ZF:=QG
theorem Zvj:Ze N_read QG (Zb jy):=by trivial
theorem cq{j:L2.St}{H:Hp}{A B:Hp->Prop}(h:A H):T3 j H λok H3=>if ok=true then A H3 else B H3:=by
 show if true=true then A H else B H
 exact Wc (A:=A H) (B:=B H) h
theorem Zx8{K:W.Frag}{CB:Addr}{H H1:Hp}{Q:VK}{E:XK}{r:Rs Th}(o:Oc K CB H Q E r)(s:Zv H H1):Oc K CB H1 Q (XE E) r :=
 I9 (λu e v H' s' i=>by rw[e]at o;exact o v H' (s.trans s') i) (λq e=>by rw[e]at o;exact BI.same o s)
theorem Hv{l:List Th}{n:Nat}(h:∀u∈l,Vm n u)(hm:Y9 (.tup [.str "row",.tup l])<=Cn):l.length<=100000:=by
 rw[Tz]at hm;have:=Tj (ts:=l) λt m=>(h t m).big;have e:Cn=13000000:=rfl;omega
theorem map_len{l:List (Str×Th)}(hm:Y9 (.tup [.str "map",.tup (l.map R8)])<=Cn):l.length<=100000:=by
 rw[Tq]at hm;have:=Tj (ts:=l.map R8) λt m=>by obtain⟨p,mp,rfl⟩:=G3.mp m;rw[M3];omega
 rw[Yv]at this;have e:Cn=13000000:=rfl;omega
theorem kc{s:Yn}{t:Th}(c:Mx s t=true):U0 t=Bm s:=Sh (B0z.mp c).1
section
variable{P:Program}{w:World}{K:W.Frag}{mg:G6}{base:Heap}{f:Addr}{fd:FuncData}{C fi:Addr}{fdi:FuncData}
theorem ja{k n:Nat}(hk:2<=k)(F:Fu K "read_at" Dg f fd)(m:Bn mg)(cb:Mb K C)(mk_BadItem:XMk K C fi)(f_BadItem:Yk P w K mg base Mm 1 fi fdi QW (T4 C))(Uc:mg "BadItem"=some (.ref C))(bi_BadItem:Binds K fdi QW [])
  (T9:Fn P w K mg base 1 "form_of" QM (K6 K)) (Gs:Fn P w K mg base 2 "can_be_read" QT (gm K)) (Jg:oz P w K mg base k "read_at" XT (Iw K C n))
  (Ew:oz P w K mg base (k+1) "read_record" XS (spRR K C n)) (Ey:oz P w K mg base (k+1) "read_choice" XS (spRC K C n)):Yk P w K mg base (xb P w) (k+2) f fd XT (Iw K C (n+1)):=by
 refine F.okX C8 (λvs H Q E h=>?_) λ_ A _ s H vs Q E hr h=>?_
 .obtain⟨e,S,ms,x,t,p,v,zv,rfl,_⟩:=h
  rfl
 obtain⟨e,S,ms,x,t,p,v,zv,rfl,mk,mo,hx,it,hm,iv,ip,hp,oc⟩:=h;obtain⟨sh,es⟩:=Option.isSome_iff_exists.mp hx;refine⟨_,(@Zd _ _ _ _ _ (sI 4 C8.nd (cF T9 hr (Zf (pv 0) (Zf (pv 1) Zx)))) (qs (sI 5 C8.nd (iX Zy (pv 4) Zq)) (qs (qi (qn (B4 (cF Gs hr (Zf (pv 4) (Zf (pv 2) Zx))) (by intro _;rfl))) (q1 (@E2 _ _ _ _ _ Q3 (@Zxl _ _ _ _ _ _ _ _ _ _ _ _ _ _ _ mk_BadItem f_BadItem (hr.m) rfl Uc bi_BadItem Zxa (Zf (pv 3) Zx) QI rfl rfl) rfl)) Zl) (qs (qi (tQ Za (pv 5) Zk) (q1 (qr (eQ Za (iX Zy (pv 2) Zq) Zq))) Zl) (qs (qi (tQ Za (pv 5) Zk) (q1 (qr (cT Zr m.tuple Yd (Zf (@E4 _ Fg (Zb Dg) ["k","part","make","shape","path"] [none,none,some 0,some 4,some 3] _ _ _ _ _ _ _ _ _ _ _ Zzy rfl rfl rfl (Zvo rfl m.enumerate (Zf (iX Zy (pv 2) Zq) Zx)) ⟨rfl,rfl,by decide +kernel,by decide +kernel⟩ (λ_ _ _ _=>(De rfl (Z3 (@R9 _ 0 _ _ (show List.Nodup (["k","part","make","shape","path"]:List Str) from by decide +kernel) rfl (.inl rfl) (.inr rfl)) (Z3 (@R9 _ 1 _ _ (show List.Nodup (["k","part","make","shape","path"]:List Str) from by decide +kernel) rfl (.inl rfl) (.inr rfl)) Ju)))) (λ_ _ _ _=>Yp) (λ_ _ _ _=>(@Ga _ _ _ _ _ _ _ _ _ _ _ Jg kd (hr.m) rfl (Zf (pv 2) (Zf (iX Zy (pv 3) Zq) (Zf (pv 1) (Zf (qo Gr (pv 4) (qt (Zf (qt (Zf Zk (Zf (pv 0) Zx))) Zx))) Zx)))) QI rfl rfl)) QO) Zx)))) Zl) (qs (qi (tQ Za (pv 5) Zk) (q1 (qr (cT Zr m.tuple Yd (Zf (@E4 _ Fg (Zb Dg) ["key","part","make","shape","path"] [none,none,some 0,some 4,some 3] _ _ _ _ _ _ _ _ _ _ _ Zzy rfl rfl rfl (qI (iX Zy (pv 2) Zq)) ⟨rfl,rfl,by decide +kernel,by decide +kernel⟩ (λ_ _ _ _=>(De rfl (Z3 (@R9 _ 0 _ _ (show List.Nodup (["key","part","make","shape","path"]:List Str) from by decide +kernel) rfl (.inl rfl) (.inr rfl)) (Z3 (@R9 _ 1 _ _ (show List.Nodup (["key","part","make","shape","path"]:List Str) from by decide +kernel) rfl (.inl rfl) (.inr rfl)) Ju)))) (λ_ _ _ _=>Yp) (λ_ _ _ _=>(qt (Zf (pv 0) (Zf (@Ga _ _ _ _ _ _ _ _ _ _ _ Jg kd (hr.m) rfl (Zf (pv 2) (Zf (iX Zy (pv 3) Zq) (Zf (pv 1) (Zf (qo Gr (pv 4) (qt (Zf (qt (Zf Zk (Zf (pv 0) Zx))) Zx))) Zx)))) QI rfl rfl) Zx)))) QO) Zx)))) Zl) (qs (qi (tQ Za (pv 5) Zk) (q1 (qr (@Ga _ _ _ _ _ _ _ _ _ _ _ Ew Q3 (hr.m) rfl (Zf (pv 0) (Zf (pv 4) (Zf (pv 2) (Zf (pv 3) Zx)))) QI rfl rfl))) Zl) (qs (qi (tQ Za (pv 5) Zk) (q1 (qr (@Ga _ _ _ _ _ _ _ _ _ _ _ Ey Q3 (hr.m) rfl (Zf (pv 0) (Zf (pv 4) (Zf (pv 2) (Zf (pv 3) Zx)))) QI rfl rfl))) Zl) (q1 (qr (iX Zy (pv 2) Zq))))))))))),?_⟩;rw[Li es]at oc;have sk:=mo.ok x sh es;refine⟨_,rfl,_,rfl,e,S,ms,x,sh,rfl,mk,es,λsv is=>?_⟩;have vx:=is;refine hide λ_ Z1=>?_;obtain⟨r,er⟩:=jw sh;rw[er]at is;obtain⟨a,ws,rfl,ha,w1,ws',rfl,i1,iR⟩:=is;cases Zc i1;refine Z1 ?_;refine⟨_,rfl,a,_,_,_,rfl,rfl,ha,Yw,?_⟩;refine⟨_,rfl,_,rfl,.ref a,v,sh,n+1,t,rfl,vx,it,iv,λH1 s1=>⟨_,rfl,?_⟩⟩;have ip1:=Zg.up (K:=K) s1.upT _ _ ip;by_cases c:Mx sh t=true
 .rw[if_pos c]at oc;refine Z5 (by rw[c];rfl) ?_;have wd:=kc c;have oh:=Zg.up (K:=K) s1.upT _ _ iv;have mr:=Zg.up (K:=K) s1.upT _ _ vx;have mk1:=mk.up (K:=K) s1.upT;have Ho:p.length+n<100:=QU
  generalize hW:hdW sh=W;cases sh with
  | whole lo hi =>
   refine hide λ_ Yz=>?_;cases (show "whole"=W from hW);obtain⟨i,rfl,_⟩:=Ge it wd;obtain⟨b,ys,rfl,hb,ab⟩:=oh;obtain⟨y1,y2,rfl,j1,j2⟩:=U5 ab;refine Yz ?_;refine⟨_,rfl,rfl,_,rfl,Z5 QA ⟨_,rfl,rfl,_,rfl,Z5 QA ⟨_,rfl,rfl,_,rfl,Z5 QA ⟨_,rfl,rfl,_,rfl,Z5 QA ⟨_,rfl,rfl,_,rfl,iN ?_⟩⟩⟩⟩⟩;exact⟨_,rfl,b,_,_,_,rfl,rfl,hb,Vq,oc _ _ s1 j2⟩
  | truth =>
   refine hide λ_ Yq=>?_;cases (show "truth"=W from hW);obtain⟨i,rfl,_⟩:=Ge it wd;obtain⟨b,ys,rfl,hb,ab⟩:=oh;obtain⟨y1,y2,rfl,j1,j2⟩:=U5 ab;cases Zc j2;refine Yq ?_;refine⟨_,rfl,rfl,_,rfl,iY ?_⟩;refine⟨_,rfl,b,_,_,_,rfl,rfl,hb,Vq,rfl,oc _ _ s1 ?_⟩;show V.bl (decide (V.int i=V.int 1))=V.bl (decide (i=1));rw[Qo];rfl
  | text kk =>
   refine hide λ_ Yy=>?_;cases (show "text"=W from hW);obtain⟨z,rfl,_⟩:=Qs it wd;obtain⟨b,ys,rfl,hb,ab⟩:=oh;obtain⟨y1,y2,rfl,j1,j2⟩:=U5 ab;refine Yy ?_;refine⟨_,rfl,rfl,_,rfl,Z5 QA ⟨_,rfl,rfl,_,rfl,Z5 QA ⟨_,rfl,rfl,_,rfl,Z5 QA ⟨_,rfl,rfl,_,rfl,Z5 QA ⟨_,rfl,rfl,_,rfl,iN ?_⟩⟩⟩⟩⟩;exact⟨_,rfl,b,_,_,_,rfl,rfl,hb,Vq,oc _ _ s1 j2⟩
  | row bb y kk =>
   refine hide λ_ Yg=>?_;obtain⟨pa,xs,rfl,G4,ax⟩:=ip1;have lx:=ax.length;obtain⟨a',ws2,ea,ha1,at'⟩:=mr;refine Yg ?_;cases ea;refine hide λ_ Yc=>?_;obtain⟨w1,w2,w3,rfl,i1,i2,i3⟩:=J4 at';cases Zc i2;refine Yc ?_;have yok:=sk.1;cases bb with
   | true =>
    refine hide λ_ Yr=>?_;cases (show "row"=W from hW);obtain⟨l,rfl,iw⟩:=Oj it wd;have ll:=Hv iw hm;obtain⟨b,ys,rfl,hb,ab⟩:=oh;obtain⟨y1,y2,rfl,j1,j2⟩:=U5 ab;obtain⟨ia,ix,rfl,Ln,aix⟩:=j2;refine Yr ?_;have oc:Oc K C H Q E (mapR Th.tup (Z7 (λi u=>Jd ms n y u (p++[Y8 "at" (.int (i:Int))])) 0 l)):=oc;refine⟨_,rfl,rfl,_,rfl,Z5 QA ⟨_,rfl,rfl,_,rfl,iY ?_⟩⟩;refine⟨_,rfl,b,_,_,_,rfl,rfl,hb,Vq,ia,_,rfl,Ln,λD fp sx hD=>?_⟩
    refine ah (K:=K) (xs:=ix) (λi ys j H5=>(∃o1 o2,j=[o1,o2,some (.ref e),some (.ref a),some (.ref pa)])/\Zv H1 H5/\H5 D=some (.lst ys)/\∃vs,Z7 (λi u=>Jd ms n y u (p++[Y8 "at" (.int (i:Int))])) 0 (l.take i)=.ok vs/\Zw K H5 vs ys)
     ⟨⟨_,_,rfl⟩,Zv.lay hD,Zz,[],rfl,rfl⟩ ?_ ?_ ?_
    .intro i ys j H5 hi Ob;refine hide λ_ Yo=>?_;obtain⟨_,s5,h5,_⟩:=Ob;refine Yo ?_;exact⟨s5.up _ _ Ln,h5⟩
    .intro i xv pp ys j H5 hx Fx hpp;refine hide λ_ Z1=>?_;obtain⟨⟨o1,o2,rfl⟩,s5,h5,vs,er,av⟩:=Fx;obtain⟨u,eu,iu⟩:=aix.got hx;refine Z1 ?_;have mu:=Cr eu;have sP:=Zv.lay (o:=.tup [.int i,xv]) hpp;refine⟨pp,_,rfl,Zp.of Zz,rfl,_,_,rfl,_,_,rfl,rfl,cq ?_⟩;have s6:=s5.trans sP;refine⟨_,rfl,_,rfl,a,_,_,_,rfl,rfl,s6.up _ _ ha1,Vq,_,rfl,_,rfl,_,rfl,(sz 2),λe1 h1=>⟨(sz 1),λe2 h2=>?_⟩⟩;have t1:=Zv.lay (o:=.tup [.str "at",.int i]) h1;have t2:=Zv.lay (o:=.tup [.ref e1]) h2;refine⟨pa,e2,xs,_,rfl,rfl,(s6.trans (t1.trans t2)).up _ _ G4,Zp.of Zz,?_,λp' H6 t3 vk=>?_⟩
     .rw[<-lx];exact Vf (show p.length+1<=101 by omega) QI
     have Qm:=sP.trans ((t1.trans t2).trans t3);have Py:=s5.trans Qm;refine⟨e,S,ms,y,u,p++[Y8 "at" (.int (i:Int))],xv,.ref p',rfl,mk1.up Py.upT,mo,yok,iw u mu,?_,Zg.up Py.upT _ _ iu,Dw ax Py (t3.up _ _ (Zp.of (t2 _ _ Zz))) rfl rfl vk,?_,?_⟩
     .have:=Vo mu;rw[Tz]at hm;omega
     .rw[Nl,ZU];omega
     refine I9 (λw' ew v' H7 s7 i7=>?_) (λq eq=>?_)
     .have h7:=s7 _ _ (Qm _ _ h5);have uS:Ui K H7 (upd H7 D (.lst (ys++[v']))):=Zi h7;refine⟨h7,?_,⟨_,_,rfl⟩,(Py.trans s7).put hD,Zz,vs++[w'],Dp eu er ew,Zw.append (Zw.up ((Qm.trans s7).upT.trans uS) _ _ av) (Zw.one (Zg.up uS _ _ i7))⟩;rw[<-av.length,Us er,Cs];exact Qe (Vf (Nat.min_le_right _ _) ll) QI
     .rw[Gk eu er eq]at oc;exact BI.same oc (s1.trans Py)
    .intro ys j H5 Nf;refine hide λ_ Yz=>?_;obtain⟨_,s5,h5,vs,er,av⟩:=Nf;refine Yz ?_;rw[<-aix.length,Ss]at er;rw[er]at oc;refine⟨D,ys,rfl,.inl ⟨Zu.of h5,λp1 h1=>?_⟩⟩;have s6:=Zv.lay (o:=.tup ys) h1;exact oc _ _ (s1.trans (s5.trans s6)) ⟨p1,ys,rfl,Zp.of Zz,Zw.up s6.upT _ _ av⟩
   | false =>
    refine hide λ_ Yq=>?_;cases (show "map"=W from hW);obtain⟨l,rfl,kw,iw⟩:=Ow it wd;have ll:=map_len hm;obtain⟨b,ys,rfl,hb,ab⟩:=oh;obtain⟨y1,y2,rfl,j1,j2⟩:=U5 ab;obtain⟨ia,ix,rfl,Ln,aix⟩:=j2;refine Yq ?_;have oc:Oc K C H Q E (mapR Th.tup (Z7 (λ_ q=>mapR (λv=>.tup [W4 q,v]) (Jd ms n y (Gb q) (p++[Y8 "key" (W4 q)]))) 0 (l.map R8))):=oc;refine⟨_,rfl,rfl,_,rfl,Z5 QA ⟨_,rfl,rfl,_,rfl,Z5 QA ⟨_,rfl,rfl,_,rfl,iY ?_⟩⟩⟩;refine⟨_,rfl,b,_,_,_,rfl,rfl,hb,Vq,ia,rfl,⟨_,Ln⟩,λD fp sx hD=>?_⟩
    refine J2 (K:=K) (xs:=ix) (λi ys j H5=>(∃o1 o2,j=[o1,o2,some (.ref e),some (.ref a),some (.ref pa)])/\Zv H1 H5/\H5 D=some (.lst ys)/\∃vs,Z7 (λ_ q=>mapR (λv=>.tup [W4 q,v]) (Jd ms n y (Gb q) (p++[Y8 "key" (W4 q)]))) 0 ((l.map R8).take i)=.ok vs/\Zw K H5 vs ys)
     ⟨⟨_,_,rfl⟩,Zv.lay hD,Zz,[],rfl,rfl⟩ ?_ ?_ ?_
    .intro i ys j H5 hi Oa;refine hide λ_ Yy=>?_;obtain⟨_,s5,h5,_⟩:=Oa;refine Yy ?_;exact⟨s5.up _ _ Ln,h5⟩
    .intro i xv ys j H5 hx Zjx;refine hide λ_ Yg=>?_;obtain⟨⟨o1,o2,rfl⟩,s5,h5,vs,er,av⟩:=Zjx;obtain⟨u,eu,iu⟩:=aix.got hx;have eu0:=eu;rw[Jb]at eu;obtain⟨q0,eq0,rfl⟩:=Cy.mp eu;have mu:=Cr eq0;obtain⟨c,cs,rfl,hc,ac⟩:=iu;obtain⟨c1,c2,rfl,k1,k2⟩:=U5 ac;cases Zc k1;refine Yg ?_;refine⟨c,_,rfl,s5.up _ _ hc,rfl,_,_,rfl,_,_,rfl,rfl,cq ?_⟩;refine⟨_,rfl,_,rfl,_,rfl,a,_,_,_,rfl,rfl,s5.up _ _ ha1,Vq,_,rfl,_,rfl,_,rfl,(sz 2),λe1 h1=>⟨(sz 1),λe2 h2=>?_⟩⟩;have t1:=Zv.lay (o:=.tup [.str "key",.str q0.1]) h1;have t2:=Zv.lay (o:=.tup [.ref e1]) h2;refine⟨pa,e2,xs,_,rfl,rfl,(s5.trans (t1.trans t2)).up _ _ G4,Zp.of Zz,?_,λp' H6 t3 vk=>?_⟩
     .rw[<-lx];exact Vf (show p.length+1<=101 by omega) QI
     have Qm:=(t1.trans t2).trans t3;have Py:=s5.trans Qm;refine⟨e,S,ms,y,q0.2,p++[Y8 "key" (.str q0.1)],c2,.ref p',rfl,mk1.up Py.upT,mo,yok,iw q0 mu,?_,Zg.up Py.upT _ _ k2,Dw ax Py (t3.up _ _ (Zp.of (t2 _ _ Zz))) rfl rfl vk,?_,?_⟩
     .have:=Vo (List.mem_map_of_mem (f:=R8) mu);rw[M3]at this;rw[Tq]at hm;omega
     .rw[Nl,ZU];omega
     refine I9 (λw' ew v' H7 s7 i7=>?_) (λq eq=>?_)
     .refine⟨(sz 2),λe3 h3=>?_⟩;have t4:=Zv.lay (o:=.tup [.str q0.1,v']) h3;have s47:=Qm.trans (s7.trans t4);have h7:=s47 _ _ h5;have uS:Ui K _ (upd _ D (.lst (ys++[.ref e3]))):=Zi h7;refine⟨h7,?_,⟨_,_,rfl⟩,(s5.trans s47).put hD,Zz,vs++[.tup [.str q0.1,w']],Dp eu0 er (by show mapR _ (Jd ms n y q0.2 (p++[Y8 "key" (.str q0.1)]))=_;rw[ew];rfl),Zw.append (Zw.up (s47.upT.trans uS) _ _ av) (Zw.one (Zg.up uS (.tup [.str q0.1,w']) _ ⟨e3,_,rfl,Zp.of Zz,_,_,rfl,rfl,_,_,rfl,Zg.up t4.upT _ _ i7,rfl⟩))⟩;rw[<-av.length,Us er,Cs];exact Qe (Vf (Nat.min_le_right _ _) (by rw[Yv];exact ll)) QI
     .rw[Gk eu0 er (p:=q) (by show mapR _ (Jd ms n y q0.2 (p++[Y8 "key" (.str q0.1)]))=_;rw[eq];rfl)]at oc;exact BI.same oc (s1.trans Py)
    .intro ys j H5 Ou;refine hide λ_ Yc=>?_;obtain⟨_,s5,h5,vs,er,av⟩:=Ou;refine Yc ?_;rw[<-aix.length,Ss]at er;rw[er]at oc;refine⟨D,ys,rfl,.inl ⟨Zu.of h5,λp1 h1=>?_⟩⟩;have s6:=Zv.lay (o:=.tup ys) h1;exact oc _ _ (s1.trans (s5.trans s6)) ⟨p1,ys,rfl,Zp.of Zz,Zw.up s6.upT _ _ av⟩
  | rcd fs us =>
   refine hide λ_ Yr=>?_;cases (show "record"=W from hW);refine Yr ?_;refine⟨_,rfl,rfl,_,rfl,Z5 QA ⟨_,rfl,rfl,_,rfl,Z5 QA ⟨_,rfl,rfl,_,rfl,Z5 QA ⟨_,rfl,rfl,_,rfl,iY ?_⟩⟩⟩⟩;exact⟨_,rfl,_,rfl,_,rfl,_,rfl,e,S,ms,fs,us,t,p,.ref a,v,zv,rfl,mk1,mo,sk,mr,it,wd,hm,oh,ip1,Ho,Zx8 oc s1⟩
  | cho fs us o =>
   refine hide λ_ Yo=>?_;cases (show "choice"=W from hW);refine Yo ?_;refine⟨_,rfl,rfl,_,rfl,Z5 QA ⟨_,rfl,rfl,_,rfl,Z5 QA ⟨_,rfl,rfl,_,rfl,Z5 QA ⟨_,rfl,rfl,_,rfl,Z5 QA ⟨_,rfl,rfl,_,rfl,iY ?_⟩⟩⟩⟩⟩;exact⟨_,rfl,_,rfl,_,rfl,_,rfl,e,S,ms,fs,us,o,t,p,.ref a,v,zv,rfl,mk1,mo,sk.1,mr,it,wd,hm,oh,ip1,Ho,Zx8 oc s1⟩
 .rw[if_neg c]at oc;exact Vi (by rw[nf c];rfl) ⟨_,rfl,zf cb (BI.same oc s1) ip1⟩
inductive Zz0(K:W.Frag)(CB:Addr)(n:Nat)(vs:ZZ)(H:Hp)(Q:VK)(E:XK):Prop
 | mk(e S:Addr)(ms:List (Str×Yn))(x:Str)(t:Th)(v:V)(Vx:vs=[.ref e,.str x,v])(Vz:M5 K H e S ms)(Vp:Nd ms)(Jn:(Jc ms x).isSome=true)(Mf:Vm n t)(Co:Y9 t<=Cn)(Xo:Zg K H t v)(h7_:n<=100)(h8_:Oc K CB H Q E (Jd ms n x t []))
def qf(K:W.Frag)(CB:Addr)(n:Nat):Sp:=λvs H Q E=>Zz0 K CB n vs H Q E
theorem Zyj{k n:Nat}(F:Fu K "read" jy f fd)(m:Bn mg)(Jg:oz P w K mg base k "read_at" XT (Iw K C n)):Yk P w K mg base (xb P w) (k+1) f fd QG (qf K C n):=by
 refine F.okX Zvj (λvs H Q E h=>?_) λ_ A _ s H vs Q E hr h=>?_
 .obtain⟨e,S,ms,x,t,v,rfl,_⟩:=h
  rfl
 obtain⟨e,S,ms,x,t,v,rfl,mk,mo,hx,it,hm,iv,hn,oc⟩:=h;refine⟨_,(@Z2 _ _ _ (qr (@Ga _ _ _ _ _ _ _ _ _ _ _ Jg Q3 (hr.m) rfl (Zf (pv 0) (Zf (pv 1) (Zf (pv 2) (Zf (qt Zx) Zx)))) QI rfl rfl))),?_⟩;refine⟨_,rfl,_,rfl,_,rfl,(sz 0),λe0 h0=>?_⟩;have s0:=Zv.lay (o:=.tup []) h0;exact⟨e,S,ms,x,t,[],v,.ref e0,rfl,mk.up s0.upT,mo,hx,it,hm,Zg.up s0.upT _ _ iv,⟨e0,[],rfl,Zp.of Zz,rfl⟩,by simpa using hn,Zx8 oc s0⟩
end
abbrev Ur:Stmt:=top 42
noncomputable abbrev Ff:ZF:=["_law_make_here","_law_shape","_law_parts_here","_law_path","_law_values","_law_k","_law_step","_law_one","_law_found"]
theorem Y1:Ze Ff XC (Zb Ur):=by trivial
abbrev Y2:Stmt:=top 43
noncomputable abbrev Gz:ZF:=["_law_make_here","_law_shape","_law_pairs","_law_path","_law_here","_law_known","_law_number","_law_name","_law_inner","_law_default","_law_found","_law_numbers_here"]
theorem Zo:Ze Gz XU (Zb Y2):=by trivial
noncomputable def resT:Rs Th->Th
 | .ok u=>.tup [.str "value",u]
 | .bad q=>.tup [.str "bad",.tup q]
theorem Lh{K:W.Frag}{H:Hp}{u:Th}{v:V}{e0:Addr}(i:Zg K H u v)(h0:H e0=none):Zg K (upd H e0 (.tup [.str "value",v])) (resT (.ok u)) (.ref e0) :=
 ⟨e0,_,rfl,Zp.of Zz,_,_,rfl,rfl,_,_,rfl,Zg.up (Zv.lay h0).upT _ _ i,rfl⟩
theorem ym{K:W.Frag}{H:Hp}{p:List Th}{v:V}{e0:Addr}(i:Zg K H (.tup p) v)(h0:H e0=none):Zg K (upd H e0 (.tup [.str "bad",v])) (resT (.bad p)) (.ref e0) :=
 ⟨e0,_,rfl,Zp.of Zz,_,_,rfl,rfl,_,_,rfl,Zg.up (Zv.lay h0).upT _ _ i,rfl⟩
def LO(K:W.Frag)(H:Hp)(Q:VK)(r:Rs Th):Prop:=∀(v:V) (H':Hp),Zv H H'->Zg K H' (resT r) v->Q v H'
inductive spLR_I(K:W.Frag)(n:Nat)(vs:ZZ)(H:Hp)(Q:VK):Prop
 | mk(e S:Addr)(ms:List (Str×Yn))(x:Str)(t:Th)(p:List Th)(v zv:V)(Vx:vs=[.ref e,.str x,v,zv])(Vz:M5 K H e S ms)(Vp:Nd ms)(Jn:(Jc ms x).isSome=true)(Mf:Vm n t)(Co:Y9 t<=Cn)(Xo:Zg K H t v)(h7_:Zg K H (.tup p) zv)(h8_:p.length+n<=100)(h9_:LO K H Q (Jd ms n x t p))
def Iy(K:W.Frag)(n:Nat):Sp:=λvs H Q _=>spLR_I K n vs H Q
noncomputable def Aw(ms:List (Str×Yn))(n:Nat)(y:Str)(p:List Th):Nat->Th->Rs Th:=λi u=>Jd ms n y u (p++[Y8 "at" (.int (i:Int))])
noncomputable def yz(ms:List (Str×Yn))(n:Nat)(y:Str)(p:List Th):Nat->Th->Rs Th:=λ_ q=>mapR (λv=>.tup [W4 q,v]) (Jd ms n y (Gb q) (p++[Y8 "key" (W4 q)]))
inductive spLP_I(K:W.Frag)(n:Nat)(vs:ZZ)(H:Hp)(Q:VK):Prop
 | mk(e S:Addr)(ms:List (Str×Yn))(b:Bool)(y:Str)(k:Int)(ts p:List Th)(sv v zv:V)(Vx:vs=[.ref e,sv,v,zv])(Vz:M5 K H e S ms)(Vp:Nd ms)(Jn:(Jc ms y).isSome=true)(Mf:Zg K H (Yn.row b y k).t sv)(Co:(∀t∈ts,∃u,(if b=true then t=u else ∃z,t=R8 (z,u))/\Vm n u/\Y9 u<=Cn))(Xo:ts.length<=100000)(h7_:Zg K H (.tup ts) v)(h8_:Zg K H (.tup p) zv)(h9_:p.length+n<100)(h10_:LO K H Q (mapR Th.tup (Z7 (if b=true then Aw ms n y p else yz ms n y p) 0 ts)))
def spLP(K:W.Frag)(n:Nat):Sp:=λvs H Q _=>spLP_I K n vs H Q
inductive Zw8(K:W.Frag)(n:Nat)(vs:ZZ)(H:Hp)(Q:VK):Prop
 | mk(e S:Addr)(ms:List (Str×Yn))(fs:List Vk)(us:ZC)(l:List (Int×Th))(p:List Th)(sv v zv:V)(Vx:vs=[.ref e,sv,v,zv])(Vz:M5 K H e S ms)(Vp:Nd ms)(Jn:V0 ms fs)(Mf:Zg K H (Yn.rcd fs us).t sv)(Co:(l.map (·.1)).Pairwise (· < ·))(Xo:(∀q∈l,Vm n q.2/\Y9 q.2<=Cn))(h7_:l.length<=100000)(h8_:Zg K H (.tup (l.map U2)) v)(h9_:Zg K H (.tup p) zv)(h10_:p.length+n<100)(h11_:LO K H Q (rdS (Jd ms n) (.rcd fs us) (.tup [.str "rec",.tup (l.map U2)]) p))
def Zk5(K:W.Frag)(n:Nat):Sp:=λvs H Q _=>Zw8 K n vs H Q
theorem X4{fs:List Vk}{k:Int}:(J0 fs k).isNone=!A0 (.int k) ((fs.map Vk.n).map V.int):=by
 rw[N8];unfold J0;by_cases h:k∈fs.map Vk.n
 .rw[Sd h];obtain⟨f,mf,e⟩:=G3.mp h;cases z:fs.find? λf=>decide (f.n=k) with
  | some _=>rfl
  | none=>exact absurd (Sd e) (XZ.mp z f mf)
 .rw[F9 h];have z:fs.find? (λf=>decide (f.n=k))=none:=XZ.mpr λf mf z=>h (G3.mpr ⟨f,mf,Sh z⟩);rw[z];rfl
theorem nx_by{X Y:TS}{D:Ends}{rt:VK}{bk ct:L2.St->Hp->Prop}{j:L2.St}{H:Hp}(N:L2.St->Hp->Prop)(hY:∀σ' H',N σ' H'->Y D σ' H')(hX:∀M:L2.St->Hp->Prop,(∀σ' H',N σ' H'->M σ' H')->X { D with nx:=M } j H):Zk1 ⟨Zzt X Y D,rt,bk,ct⟩ j H:=hX (Y D) hY
theorem Wj{k n:Nat}(hk:1<=k)(F:Fu K "_law_read_parts" Ur f fd)(m:Bn mg)(Jw:Fn P w K mg base k "_law_read" XF (Iy K n)):Yk P w K mg base Mm (k+1) f fd XC (spLP K n):=by
 refine F.ok Y1 (λvs H Q E h=>?_) λ_ A _ s H vs Q E hr h=>?_
 .obtain⟨e,S,ms,b,y,k,ts,p,sv,v,zv,rfl,_⟩:=h
  rfl
 obtain⟨e,S,ms,bb,y,kk,ts,p,sv,v,zv,rfl,mk,mo,hy,is,hts,ll,iv,ip,hp,lo⟩:=h;obtain⟨a,ws,rfl,ha,at'⟩:=is;obtain⟨w1,w2,w3,rfl,i1,i2,i3⟩:=J4 at';cases Zc i2;obtain⟨ia,ix,rfl,Ln,aix⟩:=iv;have lix:=aix.length;obtain⟨pa,xs,rfl,G4,ax⟩:=ip;refine⟨_,(@Zd _ _ _ _ _ (sI 4 Y1.nd (ql Zx)) (qs (Jj PassesOwn.never rfl (@Uh _ _ _ _ _ _ rfl m.range (Zf (cB Yl m.len Dz (Zf (pv 2) Zx)) Zx) QO) (nJ 5 Y1.nd) (qs (sI 6 Y1.nd (@Ug _ _ _ _ _ _ _ _ (tQ Za (iX Zy (pv 1) Zq) Zk) (qt (Zf Zk (Zf (pv 5) Zx))) (qt (Zf Zk (Zf (iX Zy (iX Zy (pv 2) (pv 5)) Zq) Zx))))) (qs (sI 7 Y1.nd (@Ug _ _ _ _ _ _ _ _ (tQ Za (iX Zy (pv 1) Zq) Zk) (iX Zy (pv 2) (pv 5)) (iX Zy (iX Zy (pv 2) (pv 5)) Zq))) (qs (sI 8 Y1.nd (cF Jw hr (Zf (pv 0) (Zf (iX Zy (pv 1) Zq) (Zf (pv 7) (Zf (qo Gr (pv 3) (qt (Zf (pv 6) Zx))) Zx)))))) (qs (qi (tQ Za (iX Zy (pv 8) Zq) Zk) (q1 (qr (pv 8))) Zl) (q1 (@Dj _ _ _ _ (@Wx _ _ _ _ _ _ _ _ _ _ _ _ PySem.F.plainAttrs_list PySem.F.slot_list_append PySem.F.type_list_append Ux (pv 4) (Zf (@Ug _ _ _ _ _ _ _ _ (tQ Za (iX Zy (pv 1) Zq) Zk) (iX Zy (pv 8) Zq) (qt (Zf (iX Zy (iX Zy (pv 2) (pv 5)) Zq) (Zf (iX Zy (pv 8) Zq) Zx)))) Zx) QO QO QO QO QO) rfl))))))) (q1 (qr (qt (Zf Zk (Zf (cT Zr m.tuple Yd (Zf (pv 4) Zx)) Zx))))))),?_⟩;have lx:=ax.length;refine⟨(sz 0),λL hL=>?_⟩;have sL:=Zv.lay (o:=.lst []) hL;refine⟨_,rfl,ia,_,rfl,.inr (sL.up _ _ Ln),_,rfl,by omega,by omega,?_⟩
 refine Cz (n:=ix.length) (λi j H5=>(∃o5 o6 o7 o8,j=[some (.ref e),some (.ref a),some (.ref ia),some (.ref pa),some (.ref L),o5,o6,o7,o8])/\Zv H H5/\∃vs ys,Z7 (if bb=true then Aw ms n y p else yz ms n y p) 0 (ts.take i)=.ok vs/\H5 L=some (.lst ys)/\Zw K H5 vs ys)
  ⟨⟨_,_,_,_,rfl⟩,sL,[],[],rfl,Zz,rfl⟩ ?_ ?_
 .intro i j H5 hi Ot;refine hide λ_ Z1=>?_;obtain⟨⟨o5,o6,o7,o8,rfl⟩,s5,vs,ys,er,h5,av⟩:=Ot;obtain⟨xv,ev⟩:∃xv,ix[i]?=some xv:=⟨_,Bh hi⟩;obtain⟨t,et,it⟩:=aix.got ev;obtain⟨u,hu,iw,hm⟩:=hts t (Cr et);refine Z1 ?_;have evI:Ll ix (0+(i:Int))=some xv:=by rw[Int.zero_add];exact Vj ev
  have yl:ys.length<sizeLine:=by
   rw[<-av.length,Us er,Cs];exact Qe (Vf (Nat.min_le_right _ _) ll) QI
  have bd:∀z:Addr,xs.length+[V.ref z].length<=sizeLine:=λz=>by rw[<-lx];exact Vf (show p.length+1<=101 by omega) QI
  cases bb with
  | true =>
   have hu':u=t:=(show t=u from hu).symm;subst hu';refine hide λ_ Yz=>?_;cases Zc i1;refine Yz ?_;have er:Z7 (Aw ms n y p) 0 (ts.take i)=.ok vs:=er;have lo:LO K H Q (mapR Th.tup (Z7 (Aw ms n y p) 0 ts)):=lo;refine⟨_,rfl,a,_,_,_,rfl,rfl,s5.up _ _ ha,Yw,rfl,_,rfl,Vi QA ⟨_,rfl,(sz 2),λe1 h1=>?_⟩⟩;have t1:=Zv.lay (o:=.tup [.str "at",.int (0+(i:Int))]) h1;have s6:=s5.trans t1;refine⟨_,rfl,a,_,_,_,rfl,rfl,s6.up _ _ ha,Yw,rfl,_,rfl,Vi QA ⟨_,rfl,_,rfl,ia,_,_,_,rfl,rfl,s6.up _ _ Ln,evI,?_⟩⟩;refine⟨_,rfl,_,rfl,a,_,_,_,rfl,rfl,s6.up _ _ ha,Vq,_,rfl,_,rfl,_,rfl,(sz 1),λe2 h2=>?_⟩;have t2:=Zv.lay (o:=.tup [.ref e1]) h2;refine⟨pa,e2,xs,_,rfl,rfl,(s6.trans t2).up _ _ G4,Zp.of Zz,bd _,λp' H6 t3 vk=>?_⟩;have Qm:=t1.trans (t2.trans t3);have Py:=s5.trans Qm;refine⟨e,S,ms,y,u,p++[Y8 "at" (.int (i:Int))],xv,.ref p',rfl,mk.up Py.upT,mo,hy,iw,hm,Zg.up Py.upT _ _ it,Dw ax Py ((t2.trans t3).up _ _ (Zp.of Zz)) rfl (show V.int _=V.int _ by rw[Int.zero_add]) vk,by rw[Nl,ZU];omega,λv' H7 s7 i7=>?_⟩;have Ea:=Qm.trans s7;cases ew:Jd ms n y u (p++[Y8 "at" (.int (i:Int))]) with
   | bad q =>
    rw[ew]at i7;have i70:=i7;refine hide λ_ Yq=>?_;obtain⟨fa,fx,rfl,Mg,af⟩:=i7;obtain⟨f1,f2,rfl,j1,j2⟩:=U5 af;cases Zc j1;refine Yq ?_;refine⟨_,rfl,fa,_,_,_,rfl,rfl,Mg,Yw,rfl,_,rfl,Vi QA ⟨_,rfl,?_⟩⟩;rw[Gk et er (show Aw ms n y p i u=.bad q from ew)]at lo;exact lo _ _ (s5.trans Ea) i70
   | ok w' =>
    rw[ew]at i7;refine hide λ_ Yy=>?_;obtain⟨fa,fx,rfl,Mg,af⟩:=i7;obtain⟨f1,f2,rfl,j1,j2⟩:=U5 af;cases Zc j1;refine Yy ?_;have h7:=Ea _ _ h5;have uS:Ui K H7 (upd H7 L (.lst (ys++[f2]))):=Zi h7;refine⟨_,rfl,fa,_,_,_,rfl,rfl,Mg,Yw,rfl,_,rfl,Z5 QA ⟨_,rfl,.inl ⟨rfl,_,Zu.of h7⟩,_,rfl,a,_,_,_,rfl,rfl,(s5.trans Ea).up _ _ ha,Yw,rfl,_,rfl,Vi QA ⟨_,rfl,fa,_,_,_,rfl,rfl,Mg,Vq,?_⟩⟩⟩;exact⟨L,ys,f2,rfl,rfl,h7,yl,⟨_,_,_,_,rfl⟩,(s5.trans Ea).put hL,vs++[w'],ys++[f2],Dp et er (show Aw ms n y p i u=.ok w' from ew),Zz,Zw.append (Zw.up (Ea.upT.trans uS) _ _ av) (Zw.one (Zg.up uS _ _ j2))⟩
  | false =>
   refine hide λ_ Yg=>?_;obtain⟨z,rfl⟩:∃z,t=R8 (z,u):=hu;cases Zc i1;have er:Z7 (yz ms n y p) 0 (ts.take i)=.ok vs:=er;have lo:LO K H Q (mapR Th.tup (Z7 (yz ms n y p) 0 ts)):=lo;obtain⟨c,cs,rfl,hc,ac⟩:=it;obtain⟨c1,c2,rfl,k1,k2⟩:=U5 ac;cases Zc k1;refine Yg ?_;refine⟨_,rfl,a,_,_,_,rfl,rfl,s5.up _ _ ha,Yw,rfl,_,rfl,Z5 QA ⟨_,rfl,_,rfl,ia,_,_,_,rfl,rfl,s5.up _ _ Ln,evI,c,_,_,_,rfl,rfl,s5.up _ _ hc,Yw,(sz 2),λe1 h1=>?_⟩⟩;have t1:=Zv.lay (o:=.tup [.str "key",.str z]) h1;have s6:=s5.trans t1;refine⟨_,rfl,a,_,_,_,rfl,rfl,s6.up _ _ ha,Yw,rfl,_,rfl,Z5 QA ⟨_,rfl,_,rfl,ia,_,_,_,rfl,rfl,s6.up _ _ Ln,evI,c,_,_,_,rfl,rfl,s6.up _ _ hc,Vq,?_⟩⟩;refine⟨_,rfl,_,rfl,a,_,_,_,rfl,rfl,s6.up _ _ ha,Vq,_,rfl,_,rfl,_,rfl,(sz 1),λe2 h2=>?_⟩;have t2:=Zv.lay (o:=.tup [.ref e1]) h2;refine⟨pa,e2,xs,_,rfl,rfl,(s6.trans t2).up _ _ G4,Zp.of Zz,bd _,λp' H6 t3 vk=>?_⟩;have Qm:=t1.trans (t2.trans t3);have Py:=s5.trans Qm;refine⟨e,S,ms,y,u,p++[Y8 "key" (.str z)],c2,.ref p',rfl,mk.up Py.upT,mo,hy,iw,hm,Zg.up Py.upT _ _ k2,Dw ax Py ((t2.trans t3).up _ _ (Zp.of Zz)) rfl rfl vk,by rw[Nl,ZU];omega,λv' H7 s7 i7=>?_⟩;have Ea:=Qm.trans s7;have s07:=s5.trans Ea;cases ew:Jd ms n y u (p++[Y8 "key" (.str z)]) with
   | bad q =>
    rw[ew]at i7;have i70:=i7;refine hide λ_ Yc=>?_;obtain⟨fa,fx,rfl,Mg,af⟩:=i7;obtain⟨f1,f2,rfl,j1,j2⟩:=U5 af;cases Zc j1;refine Yc ?_;refine⟨_,rfl,fa,_,_,_,rfl,rfl,Mg,Yw,rfl,_,rfl,Vi QA ⟨_,rfl,?_⟩⟩;rw[Gk et er (p:=q) (by show mapR _ (Jd ms n y u (p++[Y8 "key" (.str z)]))=_;rw[ew];rfl)]at lo;exact lo _ _ s07 i70
   | ok w' =>
    rw[ew]at i7;refine hide λ_ Yr=>?_;obtain⟨fa,fx,rfl,Mg,af⟩:=i7;obtain⟨f1,f2,rfl,j1,j2⟩:=U5 af;cases Zc j1;refine Yr ?_;have h7:=Ea _ _ h5;refine⟨_,rfl,fa,_,_,_,rfl,rfl,Mg,Yw,rfl,_,rfl,Z5 QA ⟨_,rfl,.inl ⟨rfl,_,Zu.of h7⟩,_,rfl,a,_,_,_,rfl,rfl,s07.up _ _ ha,Yw,rfl,_,rfl,Z5 QA ⟨_,rfl,_,rfl,ia,_,_,_,rfl,rfl,s07.up _ _ Ln,evI,c,_,_,_,rfl,rfl,s07.up _ _ hc,Yw,_,rfl,fa,_,_,_,rfl,rfl,Mg,Vq,(sz 2),λe5 h8=>?_⟩⟩⟩;have t8:=Zv.lay (o:=.tup [.str z,f2]) h8;have uS:Ui K _ (upd _ L (.lst (ys++[.ref e5]))):=Zi (t8 _ _ h7);exact⟨L,ys,.ref e5,rfl,rfl,t8 _ _ h7,yl,⟨_,_,_,_,rfl⟩,(s07.trans t8).put hL,vs++[.tup [.str z,w']],ys++[.ref e5],Dp et er (by show mapR _ (Jd ms n y u (p++[Y8 "key" (.str z)]))=_;rw[ew];rfl),Zz,Zw.append (Zw.up ((Ea.trans t8).upT.trans uS) _ _ av) (Zw.one (Zg.up uS (.tup [.str z,w']) _ ⟨e5,_,rfl,Zp.of Zz,_,_,rfl,rfl,_,_,rfl,Zg.up t8.upT _ _ j2,rfl⟩))⟩
 .intro j H5 Ob;refine hide λ_ Yo=>?_;obtain⟨⟨o5,o6,o7,o8,rfl⟩,s5,vs,ys,er,h5,av⟩:=Ob;refine Yo ?_;rw[<-lix,Ss]at er;rw[er]at lo;refine⟨_,rfl,L,ys,rfl,.inl ⟨Zu.of h5,λp1 h1=>⟨(sz 2),λp2 h2=>?_⟩⟩⟩;have s6:=Zv.lay (o:=.tup ys) h1;exact lo _ _ (s5.trans (s6.trans (Zv.lay h2))) (Lh ⟨p1,ys,rfl,Zp.of Zz,Zw.up s6.upT _ _ av⟩ h2)
theorem Rf{k n:Nat}(hk:1<=k)(F:Fu K "_law_read_record" Y2 f fd)(m:Bn mg)(Jw:Fn P w K mg base k "_law_read" XF (Iy K n)):Yk P w K mg base Mm (k+1) f fd XU (Zk5 K n):=by
 refine F.ok Zo (λvs H Q E h=>?_) λ_ A _ s H vs Q E hr h=>?_
 .obtain⟨e,S,ms,fs,us,l,p,sv,v,zv,rfl,_⟩:=h
  rfl
 obtain⟨e,S,ms,fs,us,l,p,sv,v,zv,rfl,mk,mo,pr,is,sl,iw,ll,iv,ip,hp,lo⟩:=h;have nd:=Zgj sl;obtain⟨ia,ix,rfl,Ln,aix⟩:=iv;obtain⟨we,pd0,ln0,Zqr⟩:=df aix;obtain⟨a,ws,rfl,ha,at'⟩:=is;obtain⟨w1,w2,w3,rfl,i1,i2,i3⟩:=J4 at';obtain⟨fa,fws,rfl,Mg,afs⟩:=i2;obtain⟨pa,xs,rfl,G4,ax⟩:=ip;refine⟨_,(@Zd _ _ _ _ _ (sI 4 Zo.nd (cT (Mq rfl) m.dict Ar (Zf (pv 2) Zx))) (qs (sI 5 Zo.nd (ql Zx)) (qs (Jj PassesOwn.never rfl (qI (iX Zy (pv 1) Zq)) (De rfl (Z3 (nJ 6 Zo.nd) (Z3 (nJ 7 Zo.nd) (Z3 (nJ 8 Zo.nd) (Z3 (nJ 9 Zo.nd) Ju))))) (qs (sI 10 Zo.nd (qt (Zf Zk (Zf (qo Gr (pv 3) (qt (Zf (qt (Zf Zk (Zf (pv 6) Zx))) Zx))) Zx)))) (qs (qi (@jg _ _ _ _ _ _ (@Zxu _ _ _ _ _ (Jo hr) (pv 6) (pv 4)) QO) (q1 (sI 10 Zo.nd (cF Jw hr (Zf (pv 0) (Zf (pv 8) (Zf (@Mn _ _ _ _ _ _ (Jo hr) (pv 4) (pv 6) (λ_ _=>rfl)) (Zf (qo Gr (pv 3) (qt (Zf (qt (Zf Zk (Zf (pv 6) Zx))) Zx))) Zx))))))) (q1 (qi (tQ E5 (pv 9) (qt Zx)) (q1 (sI 10 Zo.nd (qt (Zf Zk (Zf (iX Zy (pv 9) Zq) Zx))))) Zl))) (qs (qi (tQ Za (iX Zy (pv 10) Zq) Zk) (q1 (qr (pv 10))) Zl) (q1 (@Dj _ _ _ _ (@Wx _ _ _ _ _ _ _ _ _ _ _ _ PySem.F.plainAttrs_list PySem.F.slot_list_append PySem.F.type_list_append Ux (pv 5) (Zf (iX Zy (pv 10) Zq) Zx) QO QO QO QO QO) rfl)))))) (qs (sI 11 Zo.nd (pC Gz (Zb Y2) ["_law_field"] [none] (qI (iX Zy (pv 1) Zq)) (λ_ _ _=>(nI 0)) (λ_ _ _=>Yp) (λ_ _ _=>(iX Zy (pv 0) Zq)))) (q1 (qr (qt (Zf Zk (Zf (qt (Zf (cT Zr m.tuple Yd (Zf (pv 5) Zx)) (Zf (cT Zr m.tuple Yd (Zf (pC Gz (Zb Y2) ["_law_pair","_law_numbers_here"] [none,some 11] (qI (pv 2)) (λ_ _ _=>(nI 0)) (λ_ _ _=>(@Gn _ _ _ (Uw Ua (iX Zy (pv 0) Zq) (pv 1) rfl))) (λ_ _ _=>(pv 0))) Zx)) Zx))) Zx))))))))),?_⟩;have lx:=ax.length;have lf:fws.length=fs.length:=by rw[<-afs.length,Yv]
 have bd:∀z:Addr,xs.length+[V.ref z].length<=sizeLine:=λz=>by rw[<-lx];exact Vf (show p.length+1<=101 by omega) QI
 have lo:LO K H Q (mapR (λvs=>.tup [.tup vs,.tup (N2 fs (l.map U2))]) (Z7 (λ_ f=>Jp (Jd ms n) p (l.map U2) f) 0 fs)):=lo;refine⟨_,rfl,ia,ix,we,rfl,Ln,ln0,Zqr,λD hD=>?_⟩;have sD:=Zv.lay (o:=.dK (Mr we)) hD;have pf:Paired (DR K H) (Mr we) l:=Qa (b:=[]) pd0 .nil (by rw[List.nil_append];exact nd);refine⟨(sz 0),λL hL=>?_⟩;have sL:=Zv.lay (o:=.lst []) hL;have sDL:=sD.trans sL;refine⟨_,rfl,a,_,_,_,rfl,rfl,sDL.up _ _ ha,Vq,fa,rfl,⟨_,sDL.up _ _ Mg⟩,?_⟩
 refine W7 (K:=K) (xs:=fws) (λi j H5=>(∃o6 o7 o8 o9 o10 o11,j=[some (.ref e),some (.ref a),some (.ref ia),some (.ref pa),some (.ref D),some (.ref L),o6,o7,o8,o9,o10,o11])/\Zv (upd H D (.dK (Mr we))) H5/\∃vs ys,Z7 (λ_ f=>Jp (Jd ms n) p (l.map U2) f) 0 (fs.take i)=.ok vs/\H5 L=some (.lst ys)/\Zw K H5 vs ys)
  ⟨⟨_,_,_,_,_,_,rfl⟩,sL,[],[],rfl,Zz,rfl⟩ ?_ ?_ ?_
 .intro i j H5 hi Fx;refine hide λ_ Z1=>?_;obtain⟨_,s5,_⟩:=Fx;refine Z1 ?_;exact(sD.trans s5).up _ _ Mg
 .intro i x j H5 hx Nf;refine hide λ_ Yz=>?_;obtain⟨⟨o6,o7,o8,o9,o10,o11,rfl⟩,s5,vs,ys,er,h5,av⟩:=Nf;obtain⟨t,et,it⟩:=afs.got hx;rw[Jb]at et;obtain⟨fl,ef,rfl⟩:=Cy.mp et;have mf:fl∈fs:=Cr ef;obtain⟨c,cs,rfl,hc,ac⟩:=it;obtain⟨c1,c2,c3,c4,rfl,k1,k2,k3,k4⟩:=Qk ac;cases Zc k1;cases Zc k3;have k40:=k4;obtain⟨da,dx,rfl,hda,adx⟩:=k4;refine Yz ?_;have Hw:=sD.trans s5
  have yl:ys.length<sizeLine:=by
   rw[<-av.length,Us er,Cs];exact Yx (Vf (Nat.min_le_right _ _) (Vf pr.len QI))
  refine⟨c,_,rfl,Hw.up _ _ hc,rfl,_,_,rfl,_,_,rfl,_,_,rfl,_,_,rfl,rfl,?_⟩;refine⟨_,rfl,_,rfl,(sz 2),λe1 h1=>⟨(sz 1),λe2 h2=>?_⟩⟩;have t1:=Zv.lay (o:=.tup [.str "field",.int fl.n]) h1;have t2:=Zv.lay (o:=.tup [.ref e1]) h2;refine⟨pa,e2,xs,_,rfl,rfl,(Hw.trans (t1.trans t2)).up _ _ G4,Zp.of Zz,bd _,λp' H6 t3 vk=>⟨(sz 2),λe3 h3=>?_⟩⟩;have Qm:=(t1.trans t2).trans t3;have way:Zg K H6 (.tup (p++[Y8 "field" (.int fl.n)])) (.ref p'):=Dw ax (Hw.trans Qm) (t3.up _ _ (Zp.of (t2 _ _ Zz))) rfl rfl vk;have t4:=Zv.lay (o:=.tup [.str "bad",.ref p']) h3;have ibad:=ym way h3;have s56:=Qm.trans t4;have Sn:=Hw.trans s56;have hD6:(upd H6 e3 (.tup [.str "bad",.ref p'])) D=some (.dK (Mr we)):=(s5.trans s56) _ _ Zz;refine nx_by (λσ' H'=>∃v' o6 o7 o8 o9 o11,σ'=[some (.ref e),some (.ref a),some (.ref ia),some (.ref pa),some (.ref D),some (.ref L),o6,o7,o8,o9,some v',o11]/\Zv (upd H6 e3 (.tup [.str "bad",.ref p'])) H'/\Zg K H' (resT (Jp (Jd ms n) p (l.map U2) fl)) v') ?_ λM hM=>?_
  .intro σ' H7 Td;refine hide λ_ Yq=>?_;obtain⟨v',o6,o7,o8,o9,o11,rfl,s7,i7⟩:=Td;refine Yq ?_;have Ea:=s56.trans s7;cases ew:Jp (Jd ms n) p (l.map U2) fl with
   | bad q =>
    rw[ew]at i7;have i70:=i7;refine hide λ_ Yy=>?_;obtain⟨ra,rx,rfl,hra,ar⟩:=i7;obtain⟨f1,f2,rfl,j1,j2⟩:=U5 ar;cases Zc j1;refine Yy ?_;refine⟨_,rfl,ra,_,_,_,rfl,rfl,hra,Yw,rfl,_,rfl,Vi QA ⟨_,rfl,?_⟩⟩;rw[Gk ef er ew]at lo;exact lo _ _ (Hw.trans Ea) i70
   | ok w' =>
    rw[ew]at i7;refine hide λ_ Yg=>?_;obtain⟨ra,rx,rfl,hra,ar⟩:=i7;obtain⟨f1,f2,rfl,j1,j2⟩:=U5 ar;cases Zc j1;refine Yg ?_;have h7:=Ea _ _ h5;have uS:Ui K H7 (upd H7 L (.lst (ys++[f2]))):=Zi h7;refine⟨_,rfl,ra,_,_,_,rfl,rfl,hra,Yw,rfl,_,rfl,Z5 QA ⟨_,rfl,.inl ⟨rfl,_,Zu.of h7⟩,_,rfl,ra,_,_,_,rfl,rfl,hra,Vq,?_⟩⟩;exact⟨L,ys,f2,rfl,rfl,h7,yl,⟨_,_,_,_,_,_,rfl⟩,(s5.trans Ea).put hL,vs++[w'],ys++[f2],Dp ef er ew,Zz,Zw.append (Zw.up (Ea.upT.trans uS) _ _ av) (Zw.one (Zg.up uS _ _ j2))⟩
  refine⟨_,rfl,_,rfl,D,_,rfl,Ue.k (k:=.inl fl.n) hD6,_,rfl,?_⟩;have fe:=wa fl.n l;cases el:l.find? (λp=>decide (p.1=fl.n)) with
  | some q =>
   have mq:=List.mem_of_find?_eq_some el;have eq1:q.1=fl.n:=Sh (List.find?_some (p:=λp:Int×Th=>decide (p.1=fl.n)) el);refine hide λ_ Yc=>?_;obtain⟨qv,ev,iq⟩:=Av pf nd mq;refine Yc ?_;rw[eq1]at ev;rw[el]at fe;rw[Qd fe]at hM;refine Vi (by rw[ev];rfl) ?_;refine⟨_,rfl,_,rfl,_,rfl,_,rfl,D,qv,rfl,(show Ue _ D (kV (.inl fl.n)) (some qv) from ev ▸ Ue.k (k:=.inl fl.n) hD6),_,rfl,_,rfl,(sz 2),λe4 h4=>⟨(sz 1),λe5 h5'=>?_⟩⟩;have t5:=Zv.lay (o:=.tup [.str "field",.int fl.n]) h4;have t6:=Zv.lay (o:=.tup [.ref e4]) h5';refine⟨pa,e5,xs,_,rfl,rfl,(Sn.trans (t5.trans t6)).up _ _ G4,Zp.of Zz,bd _,λp2 H8 t7 ou=>?_⟩;have t57:=(t5.trans t6).trans t7;have s08:=Sn.trans t57;refine⟨e,S,ms,fl.y,q.2,p++[Y8 "field" (.int fl.n)],qv,.ref p2,rfl,mk.up s08.upT,mo,pr.y fl mf,(iw q mq).1,(iw q mq).2,Zg.up s08.upT _ _ iq,Dw ax s08 (t7.up _ _ (Zp.of (t6 _ _ Zz))) rfl rfl ou,by rw[Nl,ZU];omega,λv' H9 s9 i9=>?_⟩;exact hM _ _ ⟨v',_,_,_,_,_,rfl,t57.trans s9,i9⟩
  | none =>
   have nn:fl.n∉l.map (·.1):=λmm=>by
    refine hide λ_ Yr=>?_;obtain⟨q,mq,e⟩:=G3.mp mm;refine Yr ?_;exact absurd (Sd e) (XZ.mp el q mq)
   have ev:=Lx pf nn;rw[el]at fe;refine Z5 (by rw[ev];rfl) ?_;refine⟨_,rfl,(sz 0),λe0 h0=>?_⟩;have t5:=Zv.lay (o:=.tup []) h0;have dE:=Zxi adx;refine⟨da,e0,dx,rfl,rfl,(Sn.trans t5).up _ _ hda,Zp.of Zz,Qe (Nat.le_add_right _ _) hr.units,_,rfl,?_⟩;cases ed:fl.d with
   | some d =>
    rw[Qt fe ed]at hM;rw[ed]at adx;refine hide λ_ Yo=>?_;obtain⟨dv,rfl,id⟩:=Sv adx;refine Yo ?_;refine Vi (by rw[dE,ed];rfl) ⟨_,rfl,da,_,_,_,rfl,rfl,(Sn.trans t5).up _ _ hda,Yw,(sz 2),λe4 h4=>?_⟩;exact hM _ _ ⟨.ref e4,_,_,_,_,_,rfl,t5.trans (Zv.lay h4),Lh (Zg.up (Sn.trans t5).upT _ _ id) h4⟩
   | none =>
    rw[Qc fe ed]at hM;exact Z5 (by rw[dE,ed];rfl) (hM _ _ ⟨.ref e3,_,_,_,_,_,rfl,t5,Zg.up t5.upT _ _ ibad⟩)
 .intro j H5 Xa;refine hide λ_ Z1=>?_;obtain⟨⟨o6,o7,o8,o9,o10,o11,rfl⟩,s5,vs,ys,er,h5,av⟩:=Xa;refine Z1 ?_;rw[lf,Ss]at er;rw[er]at lo;have Hw:=sD.trans s5;have Zq6:=Hw.up (K:=K) _ _ Mg;refine⟨_,rfl,a,_,_,_,rfl,rfl,Hw.up _ _ ha,Vq,fa,rfl,⟨_,Zq6⟩,λD2 fp sx Nq=>?_⟩;refine Nb (f:=P1) Zq6 (Zw.up Hw.upT _ _ afs) (by rw[Yv];exact Vf pr.len QI) Nq (λt v H5 Q5 mt s5 i5 q5=>?_) λH9 w9 s9 h9 a9=>?_
  .refine hide λ_ Yz=>?_;obtain⟨fl,mfl,rfl⟩:=G3.mp mt;obtain⟨c,xs,rfl,hc,y1,ys,rfl,iy,_⟩:=i5;refine Yz ?_;exact⟨_,rfl,c,_,_,_,rfl,rfl,hc,Yw,q5 y1 H5 (Zv.refl H5) iy⟩
  rw[(Tc fs).1]at a9;have ew:=Nm a9;subst ew;have s09:=Hw.trans s9;refine⟨_,rfl,L,ys,rfl,.inl ⟨Zu.of (s9 _ _ h5),λp1 h1=>?_⟩⟩;have t1:=Zv.lay (o:=.tup ys) h1;have s01:=s09.trans t1;have hia1:=s01.up (K:=K) _ _ Ln;have hD21:=t1 _ _ h9;refine⟨_,rfl,ia,rfl,⟨_,hia1⟩,λD3 fp3 sx3 Sl=>?_⟩;refine J2 (K:=K) (xs:=ix) (λi zs j H6=>(∃o,j=[o,some (.ref D2)])/\Zv (upd H9 p1 (.tup ys)) H6/\H6 D3=some (.lst zs)/\Zw K H6 (N2 fs ((l.map U2).take i)) zs) ⟨⟨_,rfl⟩,Zv.lay Sl,Zz,rfl⟩ ?_ ?_ ?_
  .intro i zs j H6 hi Ol;refine hide λ_ Yq=>?_;obtain⟨_,s6,h6,_⟩:=Ol;refine Yq ?_;exact⟨s6.up _ _ hia1,h6⟩
  .intro i x zs j H6 hx Od;refine hide λ_ Yy=>?_;obtain⟨⟨o,rfl⟩,s6,h6,az⟩:=Od;obtain⟨t,et,it⟩:=aix.got hx;have oo:=Ia fs et;rw[Jb]at et;obtain⟨q,eq,rfl⟩:=Cy.mp et;have it0:=it;obtain⟨c,cs,rfl,hc,ac⟩:=it;obtain⟨c1,c2,rfl,k1,k2⟩:=U5 ac;cases Zc k1;refine Yy ?_;have Sn:=s01.trans s6
   have zl:zs.length<sizeLine:=by
    rw[<-az.length];refine Qe (Vf (List.length_filter_le _ _) (Vf (by rw[Cs];exact Nat.min_le_right _ _) (by rw[Yv];exact ll))) QI
   refine Ej ?_;refine⟨_,rfl,c,_,_,_,rfl,rfl,Sn.up _ _ hc,Yw,_,rfl,D2,_,rfl,.inl (Zu.of (s6 _ _ hD21)),rfl,Cq _,_,rfl,?_⟩;show if (!A0 (.int q.1) ((fs.map Vk.n).map V.int))=true then _ else _
   have oo:N2 fs ((l.map U2).take (i+1))=N2 fs ((l.map U2).take i)++(if (!A0 (.int q.1) ((fs.map Vk.n).map V.int))=true then [U2 q] else []):=by rw[oo, <-X4];rfl
   refine Vb (λcc=>?_) (λcc=>?_)
   .rw[if_pos cc]at oo;have uS:Ui K H6 (upd H6 D3 (.lst (zs++[.ref c]))):=Zi h6;refine⟨_,rfl,h6,zl,⟨_,rfl⟩,s6.put Sl,Zz,?_⟩;rw[oo];exact Zw.append (Zw.up uS _ _ az) (Zw.one (Zg.up (Sn.upT.trans uS) _ _ it0))
   .rw[if_neg cc,ZO]at oo;exact⟨⟨_,rfl⟩,s6,h6,by rw[oo];exact az⟩
  .intro zs j H6 Xu;refine hide λ_ Yg=>?_;obtain⟨_,s6,h6,az⟩:=Xu;refine Yg ?_;rw[<-aix.length,Ss]at az;refine⟨D3,zs,rfl,.inl ⟨Zu.of h6,λp2 h2=>⟨(sz 2),λp3 h3=>⟨(sz 2),λp4 h4=>?_⟩⟩⟩⟩;have t2:=Zv.lay (o:=.tup zs) h2;have t3:=Zv.lay (o:=.tup [.ref p1,.ref p2]) h3;have s63:=s6.trans (t2.trans t3);exact lo _ _ ((s01.trans s63).trans (Zv.lay h4)) (Lh ⟨p3,_,rfl,Zp.of Zz,_,_,rfl,⟨p1,ys,rfl,s63.up _ _ (Zp.of Zz),Zw.up ((s9.trans t1).trans s63).upT _ _ av⟩,_,_,rfl,⟨p2,zs,rfl,t3.up _ _ (Zp.of Zz),Zw.up (t2.trans t3).upT _ _ az⟩,rfl⟩ h4)
abbrev Na:Stmt:=top 41
noncomputable abbrev yo:ZF:=["_law_make_here","_law_name","_law_item_here","_law_path","_law_shape","_law_heads","_law_number","_law_inner","_law_found"]
theorem Uy:Ze yo XF (Zb Na):=by trivial
noncomputable def F8:List (Key×V):=[(.inr "truth",.str "whole"),(.inr "record",.str "rec"),(.inr "choice",.str "arm")]
theorem Xl:L7 [] F8=F8:=by rfl
theorem uu(sh:Yn):(Dn F8 (.inr (hdW sh))).getD (.str (hdW sh))=.str (Bm sh):=by
 cases sh with
 | whole lo hi=>rfl
 | truth=>rfl
 | text n=>rfl
 | row b y n=>cases b<;>rfl
 | rcd fs us=>rfl
 | cho fs us o=>rfl
theorem Zjp(a:V)(ws:ZZ):Jt (a::ws) (some 1) none=ws:=by
 unfold Jt;have e2:HT.Uj (a::ws).length (a::ws).length none=(a::ws).length:=rfl;have e1:HT.Uj (a::ws).length 0 (some 1)=min 1 (a::ws).length:=by simp[HT.Uj]
 rw[e1,e2];simp
theorem I8{k n:Nat}(hk:1<=k)(F:Fu K "_law_read" Na f fd)(m:Bn mg)(Jw:Fn P w K mg base k "_law_read" XF (Iy K n))
  (Fj:Fn P w K mg base (k+1) "_law_read_parts" XC (spLP K n)) (W1:Fn P w K mg base (k+1) "_law_read_record" XU (Zk5 K n)):Yk P w K mg base Mm (k+2) f fd XF (Iy K (n+1)):=by
 refine F.ok Uy (λvs H Q E h=>?_) λ_ A _ s H vs Q E hr h=>?_
 .obtain⟨e,S,ms,x,t,p,v,zv,rfl,_⟩:=h
  rfl
 obtain⟨e,S,ms,x,t,p,v,zv,rfl,mk,mo,hx,it,hm,iv,ip,hp,lo⟩:=h;obtain⟨sh,es⟩:=Option.isSome_iff_exists.mp hx;rw[Li es]at lo;have sk:=mo.ok x sh es;obtain⟨v0,he⟩:=mk.e;obtain⟨XQ,sv,hS,ev,is⟩:=mk.get es;refine⟨_,(@Zd _ _ _ _ _ (sI 4 Uy.nd (@Mn _ _ _ _ _ _ (Jo hr) (iX Zy (pv 0) Zq) (pv 1) (λ_ _=>rfl))) (qs (sI 5 Uy.nd (@Zv2 _ _ _ _ _ (@Pc _ _ _ _ _ _ _ _ _ Zk Zk (@Pc _ _ _ _ _ _ _ _ _ Zk Zk (@Pc _ _ _ _ _ _ _ _ _ Zk Zk (@Zva _ _)))) rfl rfl QE QI)) (qs (qi (tQ Zx0 (@Iu _ _ _ _ _ _ _ _ _ (Jo hr) (pv 5) (iX Zy (pv 4) Zq) (iX Zy (pv 4) Zq) ⟨rfl,rfl,rfl,rfl⟩) (iX Zy (pv 2) Zq)) (q1 (qr (qt (Zf Zk (Zf (pv 3) Zx))))) Zl) (qs (qi (tQ Za (iX Zy (pv 4) Zq) Zk) (q1 (qr (@Ug _ _ _ _ _ _ _ _ (Uw Df (iX Zy (pv 2) Zq) (qt (@V4 _ _ [0,1] rfl)) rfl) (qt (Zf Zk (Zf (eQ Za (iX Zy (pv 2) Zq) Zq) Zx))) (qt (Zf Zk (Zf (pv 3) Zx)))))) Zl) (qs (qi (tQ Za (iX Zy (pv 4) Zq) Zk) (q1 (qr (@Ug _ _ _ _ _ _ _ _ (@Zxd _ _ _ _ _ _ _ _ _ _ _ _ Pp Pp (iX Zy (pv 4) Zq) (iX Zy (pv 2) Zq) (iX Zy (pv 4) Zq) QO) (qt (Zf Zk (Zf (iX Zy (pv 2) Zq) Zx))) (qt (Zf Zk (Zf (pv 3) Zx)))))) Zl) (qs (qi (tQ Za (iX Zy (pv 4) Zq) Zk) (q1 (qr (@Ug _ _ _ _ _ _ _ _ (tQ Pp (cB Lq m.len Dz (Zf (iX Zy (pv 2) Zq) Zx)) (iX Zy (pv 4) Zq)) (qt (Zf Zk (Zf (iX Zy (pv 2) Zq) Zx))) (qt (Zf Zk (Zf (pv 3) Zx)))))) Zl) (qs (qi (Uw Df (iX Zy (pv 4) Zq) (qt (Zf Zk (Zf Zk Zx))) rfl) (qs (qi (tQ Zgq (cB Lq m.len Dz (Zf (iX Zy (pv 2) Zq) Zx)) (iX Zy (pv 4) Zq)) (q1 (qr (qt (Zf Zk (Zf (pv 3) Zx))))) Zl) (q1 (qr (cF Fj hr (Zf (pv 0) (Zf (pv 4) (Zf (iX Zy (pv 2) Zq) (Zf (pv 3) Zx)))))))) Zl) (qs (qi (tQ Za (iX Zy (pv 4) Zq) Zk) (q1 (qr (cF W1 hr (Zf (pv 0) (Zf (pv 4) (Zf (iX Zy (pv 2) Zq) (Zf (pv 3) Zx))))))) Zl) (qs (Jj PassesOwn.never rfl (qI (iX Zy (pv 4) Zq)) (De rfl (Z3 (nJ 6 Uy.nd) (Z3 (nJ 1 Uy.nd) (Z3 (nJ 7 Uy.nd) Ju)))) (q1 (qi (tQ Za (pv 6) (iX Zy (pv 2) Zq)) (qs (sI 8 Uy.nd (cF Jw hr (Zf (pv 0) (Zf (pv 7) (Zf (iX Zy (pv 2) Zq) (Zf (qo Gr (pv 3) (qt (Zf (qt (Zf Zk (Zf (pv 6) Zx))) Zx))) Zx)))))) (q1 (qr (@Ug _ _ _ _ _ _ _ _ (tQ Za (iX Zy (pv 8) Zq) Zk) (pv 8) (qt (Zf Zk (Zf (qt (Zf Zk (Zf (pv 6) (Zf (iX Zy (pv 8) Zq) Zx)))) Zx))))))) Zl))) (q1 (qr (@Ug _ _ _ _ _ _ _ _ (B4 (iX Zy (pv 4) Zq) (by intro _;rfl)) (qt (Zf Zk (Zf (qo Gr (qt (Zf Zk Zx)) (@V6 _ _ _ _ _ _ _ _ _ _ K8 (pv 2) (@Jz _ _ _ Zq) (@Jx _))) Zx))) (qt (Zf Zk (Zf (pv 3) Zx))))))))))))))),?_⟩;refine⟨_,rfl,e,_,_,_,rfl,rfl,he,Vq,_,rfl,S,_,rfl,(show Ue H S (kV (.inr x)) (some sv) from ev ▸ Pd hS (.inr x)),?_⟩;refineλd hd=>⟨Zz,F8,rfl,(by show 3<=15;decide),?_⟩;rw[Xl];have s1:Zv H (upd (upd H d (.dK [])) d (.dK F8)):=(Zv.lay hd).put hd;have hd1:(upd (upd H d (.dK [])) d (.dK F8)) d=some (.dK F8):=Zz;generalize upd (upd H d (.dK [])) d (.dK F8)=H1 at s1 hd1;have mr:=Zg.up (K:=K) s1.upT _ _ is;have ip1:=Zg.up (K:=K) s1.upT _ _ ip;have oh:=Zg.up (K:=K) s1.upT _ _ iv;have mk1:=mk.up (K:=K) s1.upT;have vx:=mr;refine hide λ_ Z1=>?_;obtain⟨r,er⟩:=jw sh;rw[er]at mr;obtain⟨a,ws,rfl,ha,w1,ws',rfl,i1,iR⟩:=mr;cases Zc i1
 obtain⟨a0,r0,et⟩:=Zqa it;have iv2:=oh;rw[et]at iv2;obtain⟨b,ys,rfl,hb,y1,yr,rfl,j1,y2,yr2,rfl,j2,j3⟩:=iv2;cases Zc j1;refine Z1 ?_;refine⟨_,rfl,d,rfl,.inl ⟨_,.inl hd1⟩,_,rfl,a,_,_,_,rfl,rfl,ha,Yw,_,rfl,a,_,_,_,rfl,rfl,ha,Yw,_,Ue.k (k:=.inr (hdW sh)) hd1,?_⟩;rw[uu];refine⟨_,rfl,b,_,_,_,rfl,rfl,hb,Yw,rfl,_,rfl,?_⟩
 have bad:Jd ms (n+1) x t p=.bad p->∀{H2:Hp},Zv H1 H2->∀e0,H2 e0=none->Q (.ref e0) (upd H2 e0 (.tup [.str "bad",zv])):=λz H2 s2 e0 h0=>by
  rw[<-Li es,z]at lo;exact lo _ _ (s1.trans (s2.trans (Zv.lay h0))) (ym (Zg.up s2.upT _ _ ip1) h0)
 have good:∀u,Jd ms (n+1) x t p=.ok u->∀{H2:Hp},Zv H1 H2->∀e0 v,H2 e0=none->Zg K H2 u v->Q (.ref e0) (upd H2 e0 (.tup [.str "value",v])):=λu z H2 s2 e0 v h0 iu=>by
  rw[<-Li es,z]at lo;exact lo _ _ (s1.trans (s2.trans (Zv.lay h0))) (Lh iu h0)
 rw[Li es]at bad good;by_cases c:Bm sh=U0 t
 .refine Z5 (by rw[c,Sd rfl];rfl) ?_;have cr:Mx sh t=X6 sh (Gb t):=fits sh c.symm;rw[cr]at lo bad good;have Ho:p.length+n<100:=QU
  cases sh with
  | whole lo' vf =>
   refine hide λ_ Yz=>?_;obtain⟨i,rfl,_⟩:=Ge it c.symm;refine Yz ?_;cases et;refine hide λ_ Yq=>?_;cases Zc j2;obtain⟨_,ws2,ea,ha,at'⟩:=vx;refine Yq ?_;cases ea;refine hide λ_ Yy=>?_;obtain⟨w1,w2,w3,rfl,i1,i2,i3⟩:=J4 at';cases Zc i1;cases Zc i2;cases Zc i3;refine Yy ?_;refine⟨_,rfl,a,_,_,_,rfl,rfl,ha,Yw,rfl,_,rfl,Z5 QA ⟨_,rfl,a,_,_,_,rfl,rfl,ha,Yw,rfl,_,rfl,iY ?_⟩⟩;refine⟨_,rfl,a,_,_,_,rfl,rfl,ha,Vq,_,rfl,b,_,_,_,rfl,rfl,hb,Vq,_,_,rfl,rfl,_,rfl,?_⟩;have fit:X6 (.whole lo' vf) (Gb (.tup [.str "whole",.int i]))=(decide (lo'<=i)&&decide (i<=vf)):=rfl;rw[fit]at bad good;refine Vb (λc1=>⟨_,rfl,a,_,_,_,rfl,rfl,ha,at2,_,_,rfl,rfl,_,rfl,Vb (λc2=>?_) (λc2=>?_)⟩) (λc1=>?_)
   .rw[c1,c2]at good;exact⟨_,rfl,b,_,_,_,rfl,rfl,hb,Vq,(sz 2),λe0 h0=>good _ rfl (Zv.refl H1) e0 _ h0 rfl⟩
   .rw[c1,nf c2]at bad;exact⟨_,rfl,(sz 2),λe0 h0=>bad rfl (Zv.refl H1) e0 h0⟩
   .rw[nf c1]at bad;exact⟨_,rfl,Wn ⟨_,rfl,(sz 2),λe0 h0=>bad rfl (Zv.refl H1) e0 h0⟩⟩
  | truth =>
   refine hide λ_ Yg=>?_;obtain⟨i,rfl,_⟩:=Ge it c.symm;refine Yg ?_;cases et;refine hide λ_ Yc=>?_;cases Zc j2;obtain⟨_,ws2,ea,ha,at'⟩:=vx;refine Yc ?_;cases ea;refine hide λ_ Yr=>?_;obtain⟨w1,rfl,i1⟩:=Sv at';cases Zc i1;refine Yr ?_;refine⟨_,rfl,a,_,_,_,rfl,rfl,ha,Yw,rfl,_,rfl,iY ?_⟩;refine⟨_,rfl,b,_,_,_,rfl,rfl,hb,Vq,(sz 2),λe2 h2=>?_⟩;have t2:=Zv.lay (o:=.tup [.int 0,.int 1]) h2;refine⟨e2,[.int 0,.int 1],rfl,.inr (Zp.of Zz),rfl,rfl,_,rfl,?_⟩;show if A0 (.int i) (([0,1]:ZC).map V.int)=true then _ else _
   have fit:X6 .truth (Gb (.tup [.str "whole",.int i]))=A0 (.int i) (([0,1]:ZC).map V.int):=by
    show (decide (0<=i)&&decide (i<=1))=_;rw[N8, <-Bool.decide_and];refine decide_eq_decide.mpr ⟨λz=>?_,λz=>?_⟩
    .simp only[U8,V9,or_false];omega
    .simp only[U8,V9,or_false]at z;omega
   rw[fit]at bad good;refine Vb (λc1=>?_) (λc1=>?_)
   .rw[c1]at good;refine⟨_,rfl,b,_,_,_,rfl,rfl,t2.up _ _ hb,Vq,rfl,(sz 2),λe0 h0=>good _ rfl t2 e0 _ h0 ?_⟩;show V.bl (decide (V.int i=V.int 1))=V.bl (decide (i=1));rw[Qo];rfl
   .rw[nf c1]at bad;exact⟨_,rfl,(sz 2),λe0 h0=>bad rfl t2 e0 h0⟩
  | text kk =>
   refine hide λ_ Yo=>?_;obtain⟨z,rfl,tx⟩:=Qs it c.symm;refine Yo ?_;cases et;refine hide λ_ Z1=>?_;cases Zc j2;obtain⟨_,ws2,ea,ha,at'⟩:=vx;refine Z1 ?_;cases ea;refine hide λ_ Yz=>?_;obtain⟨w1,w2,rfl,i1,i2⟩:=U5 at';cases Zc i1;cases Zc i2;refine Yz ?_;refine⟨_,rfl,a,_,_,_,rfl,rfl,ha,Yw,rfl,_,rfl,Z5 QA ⟨_,rfl,a,_,_,_,rfl,rfl,ha,Yw,rfl,_,rfl,Z5 QA ⟨_,rfl,a,_,_,_,rfl,rfl,ha,Yw,rfl,_,rfl,iY ?_⟩⟩⟩;refine⟨_,rfl,b,_,_,_,rfl,rfl,hb,Vq,.str z,_,rfl,⟨Vf tx.2 QI,rfl⟩,_,rfl,a,_,_,_,rfl,rfl,ha,Vq,_,_,rfl,rfl,_,rfl,?_⟩;have fit:X6 (.text kk) (Gb (.tup [.str "text",.str z]))=decide ((z.length:Int)<=kk):=rfl;rw[fit]at bad good;refine Vb (λc1=>?_) (λc1=>?_)
   .rw[c1]at good;exact⟨_,rfl,b,_,_,_,rfl,rfl,hb,Vq,(sz 2),λe0 h0=>good _ rfl (Zv.refl H1) e0 _ h0 rfl⟩
   .rw[nf c1]at bad;exact⟨_,rfl,(sz 2),λe0 h0=>bad rfl (Zv.refl H1) e0 h0⟩
  | row bb y kk =>
   have is2:=vx;refine hide λ_ Yq=>?_;obtain⟨_,ws2,ea,ha,at'⟩:=vx;refine Yq ?_;cases ea;refine hide λ_ Yy=>?_;obtain⟨w1,w2,w3,rfl,i1,i2,i3⟩:=J4 at';cases Zc i3
   obtain⟨l,ia,xs,et2,ey,Ln,axs,ll,hl⟩:∃(l:List Th) (ia:Addr) (xs:ZZ),t=.tup [.str (Bm (.row bb y kk)),.tup l]/\y2=.ref ia/\Zp K H1 ia xs/\Zw K H1 l xs/\l.length<=100000/\∀u∈l,∃z,(if bb=true then u=z else ∃q,u=R8 (q,z))/\Vm n z/\Y9 z<=Cn:=by
    cases bb with
    | true =>
     obtain⟨l,rfl,iw⟩:=Oj it c.symm;cases et;obtain⟨ia,xs,rfl,Ln,axs⟩:=j2;refine⟨l,ia,xs,rfl,rfl,Ln,axs,Hv iw hm,λu mu=>⟨u,rfl,iw u mu,?_⟩⟩;have:=Vo mu;rw[Tz]at hm;omega
    | false =>
     obtain⟨l,rfl,kw,iw⟩:=Ow it c.symm;cases et;obtain⟨ia,xs,rfl,Ln,axs⟩:=j2;refine⟨l.map R8,ia,xs,rfl,rfl,Ln,axs,by rw[Yv];exact map_len hm,λu mu=>?_⟩;have z:=Vo mu;obtain⟨q,mq,rfl⟩:=G3.mp mu;refine⟨q.2,⟨q.1,rfl⟩,iw q mq,?_⟩;rw[M3]at z;rw[Tq]at hm;omega
   refine Yy ?_;subst et2 ey;have fit:X6 (.row bb y kk) (Gb (.tup [.str (Bm (.row bb y kk)),.tup l]))=decide ((l.length:Int)<=kk):=rfl;rw[fit]at bad lo;have lx:=axs.length
   have lo':(l.length:Int)<=kk->LO K H Q (mapR Th.tup (Z7 (if bb=true then Aw ms n y p else yz ms n y p) 0 l)):=λz=>by
    rw[Sd z]at lo;cases bb with
    | true=>exact lo
    | false=>exact lo
   cases bb with
   | true =>
    refine hide λ_ Yg=>?_;cases Zc i1;refine Yg ?_;refine⟨_,rfl,a,_,_,_,rfl,rfl,ha,Yw,rfl,_,rfl,Z5 QA ⟨_,rfl,a,_,_,_,rfl,rfl,ha,Yw,rfl,_,rfl,Z5 QA ⟨_,rfl,a,_,_,_,rfl,rfl,ha,Yw,rfl,_,rfl,Z5 QA ⟨_,rfl,a,_,_,_,rfl,rfl,ha,Yw,(sz 2),λe2 h2=>?_⟩⟩⟩⟩;have t2:=Zv.lay (o:=.tup [.str "row",.str "map"]) h2;refine⟨e2,_,rfl,.inr (Zp.of Zz),rfl,rfl,_,rfl,iY ?_⟩;refine⟨_,rfl,b,_,_,_,rfl,rfl,t2.up _ _ hb,Vq,.ref ia,_,rfl,.inr ⟨xs,t2.up _ _ Ln,rfl⟩,_,rfl,a,_,_,_,rfl,rfl,t2.up _ _ ha,at2,_,_,rfl,rfl,_,rfl,?_⟩;refine Vb (λc1=>?_) (λc1=>?_)
    .have c1:=Sh c1;rw[F9 QU]at bad;exact⟨_,rfl,(sz 2),λe0 h0=>bad rfl t2 e0 h0⟩
    .have c1:=of_decide_eq_false (nf c1);have lo2:=lo' QU;exact⟨_,rfl,_,rfl,_,rfl,b,_,_,_,rfl,rfl,t2.up _ _ hb,Vq,_,rfl,e,S,ms,true,y,kk,l,p,.ref a,.ref ia,zv,rfl,mk1.up t2.upT,mo,sk.1,Zg.up t2.upT _ _ is2,hl,ll,⟨ia,xs,rfl,t2.up _ _ Ln,Zw.up t2.upT _ _ axs⟩,Zg.up t2.upT _ _ ip1,Ho,λv' H' s' i'=>lo2 v' H' (s1.trans (t2.trans s')) i'⟩
   | false =>
    refine hide λ_ Yc=>?_;cases Zc i1;refine Yc ?_;refine⟨_,rfl,a,_,_,_,rfl,rfl,ha,Yw,rfl,_,rfl,Z5 QA ⟨_,rfl,a,_,_,_,rfl,rfl,ha,Yw,rfl,_,rfl,Z5 QA ⟨_,rfl,a,_,_,_,rfl,rfl,ha,Yw,rfl,_,rfl,Z5 QA ⟨_,rfl,a,_,_,_,rfl,rfl,ha,Yw,(sz 2),λe2 h2=>?_⟩⟩⟩⟩;have t2:=Zv.lay (o:=.tup [.str "row",.str "map"]) h2;refine⟨e2,_,rfl,.inr (Zp.of Zz),rfl,rfl,_,rfl,iY ?_⟩;refine⟨_,rfl,b,_,_,_,rfl,rfl,t2.up _ _ hb,Vq,.ref ia,_,rfl,.inr ⟨xs,t2.up _ _ Ln,rfl⟩,_,rfl,a,_,_,_,rfl,rfl,t2.up _ _ ha,at2,_,_,rfl,rfl,_,rfl,?_⟩;refine Vb (λc1=>?_) (λc1=>?_)
    .have c1:=Sh c1;rw[F9 QU]at bad;exact⟨_,rfl,(sz 2),λe0 h0=>bad rfl t2 e0 h0⟩
    .have c1:=of_decide_eq_false (nf c1);have lo2:=lo' QU;exact⟨_,rfl,_,rfl,_,rfl,b,_,_,_,rfl,rfl,t2.up _ _ hb,Vq,_,rfl,e,S,ms,false,y,kk,l,p,.ref a,.ref ia,zv,rfl,mk1.up t2.upT,mo,sk.1,Zg.up t2.upT _ _ is2,hl,ll,⟨ia,xs,rfl,t2.up _ _ Ln,Zw.up t2.upT _ _ axs⟩,Zg.up t2.upT _ _ ip1,Ho,λv' H' s' i'=>lo2 v' H' (s1.trans (t2.trans s')) i'⟩
  | rcd fs us =>
   have is2:=vx;refine hide λ_ Yr=>?_;obtain⟨_,ws2,ea,ha,at'⟩:=vx;refine Yr ?_;cases ea;refine hide λ_ Yo=>?_;obtain⟨w1,w2,w3,rfl,i1,i2,i3⟩:=J4 at';cases Zc i1;obtain⟨l,rfl,kb,sl,iw⟩:=Hr it c.symm;refine Yo ?_;cases et;have ll:=fw iw hm;refine⟨_,rfl,a,_,_,_,rfl,rfl,ha,Yw,rfl,_,rfl,Z5 QA ⟨_,rfl,a,_,_,_,rfl,rfl,ha,Yw,rfl,_,rfl,Z5 QA ⟨_,rfl,a,_,_,_,rfl,rfl,ha,Yw,rfl,_,rfl,Z5 QA ⟨_,rfl,a,_,_,_,rfl,rfl,ha,Yw,(sz 2),λe2 h2=>?_⟩⟩⟩⟩;have t2:=Zv.lay (o:=.tup [.str "row",.str "map"]) h2;refine⟨e2,_,rfl,.inr (Zp.of Zz),rfl,rfl,_,rfl,iN ?_⟩;refine⟨_,rfl,a,_,_,_,rfl,rfl,t2.up _ _ ha,Yw,rfl,_,rfl,iY ?_⟩;refine⟨_,rfl,_,rfl,_,rfl,b,_,_,_,rfl,rfl,t2.up _ _ hb,Vq,_,rfl,e,S,ms,fs,us,l,p,.ref a,y2,zv,rfl,mk1.up t2.upT,mo,sk,Zg.up t2.upT _ _ is2,sl,λq mq=>⟨iw q mq,?_⟩,ll,Zg.up t2.upT _ _ j2,Zg.up t2.upT _ _ ip1,Ho,λv' H' s' i'=>lo v' H' (s1.trans (t2.trans s')) i'⟩;have:=Vo (List.mem_map_of_mem (f:=U2) mq);rw[D6]at this;rw[Tx]at hm;omega
  | cho fs us o =>
   refine hide λ_ Z1=>?_;obtain⟨_,ws2,ea,ha,at'⟩:=vx;refine Z1 ?_;cases ea;refine hide λ_ Yz=>?_;obtain⟨w1,w2,w3,w4,rfl,i1,i2,i3,i4⟩:=Qk at';cases Zc i1;cases Zc i4;obtain⟨fa,fws,rfl,Mg,afs⟩:=i2;have lf:fws.length=fs.length:=by rw[<-afs.length,Yv]
   obtain⟨nb,u,rfl,n0,n1,iw⟩:=Hh it c.symm;refine Yz ?_;cases et;refine hide λ_ Yq=>?_;cases Zc j2;obtain⟨y3,yr3,rfl,ju,jn⟩:=j3;cases Zc jn;refine Yq ?_;have mu:Y9 u<=Cn:=by rw[Gg]at hm;omega
   have fit:X6 (.cho fs us o) (Gb (.tup [.str "arm",.int nb,u]))=(o || (J0 fs nb).isSome):=rfl;rw[fit]at bad good
   have rds:rdS (Jd ms n) (.cho fs us o) (.tup [.str "arm",.int nb,u]) p=(match J0 fs nb with
    | none=>.ok (.tup [.str "other",.int nb,u])
    | some g=>mapR (λv=>.tup [.str "arm",.int nb,v]) (Jd ms n g.y u (p++[Y8 "arm" (.int nb)]))):=rfl
   rw[rds]at bad good;refine⟨_,rfl,a,_,_,_,rfl,rfl,ha,Yw,rfl,_,rfl,Z5 QA ⟨_,rfl,a,_,_,_,rfl,rfl,ha,Yw,rfl,_,rfl,Z5 QA ⟨_,rfl,a,_,_,_,rfl,rfl,ha,Yw,rfl,_,rfl,Z5 QA ⟨_,rfl,a,_,_,_,rfl,rfl,ha,Yw,(sz 2),λe2 h2=>?_⟩⟩⟩⟩;have t2:=Zv.lay (o:=.tup [.str "row",.str "map"]) h2;refine⟨e2,_,rfl,.inr (Zp.of Zz),rfl,rfl,_,rfl,iN ?_⟩;refine⟨_,rfl,a,_,_,_,rfl,rfl,t2.up _ _ ha,Yw,rfl,_,rfl,iN ?_⟩;generalize (upd H1 e2 (.tup [.str "row",.str "map"]))=H2 at t2;refine⟨_,rfl,a,_,_,_,rfl,rfl,t2.up _ _ ha,Vq,fa,rfl,⟨_,t2.up _ _ Mg⟩,?_⟩;refine W7 (K:=K) (xs:=fws) (λi j H5=>(∃o1 o6 o7 o8,j=[some (.ref e),o1,some (.ref b),some zv,some (.ref a),some (.ref d),o6,o7,o8])/\H5=H2/\∀g∈fs.take i,g.n≠nb) ⟨⟨_,_,_,_,rfl⟩,rfl,λg mg=>absurd mg V9⟩ ?_ ?_ ?_
   .intro i j H5 hi Od;refine hide λ_ Yy=>?_;obtain⟨_,rfl,_⟩:=Od;refine Yy ?_;exact t2.up _ _ Mg
   .intro i xv j H5 hx Xu;refine hide λ_ Yg=>?_;obtain⟨⟨o1,o6,o7,o8,rfl⟩,rfl,no⟩:=Xu;obtain⟨t',et',it'⟩:=afs.got hx;rw[Jb]at et';obtain⟨g,eg,rfl⟩:=Cy.mp et';have mg':g∈fs:=Cr eg;obtain⟨c0,cs,rfl,hc,ac⟩:=it';obtain⟨c1,c2,c3,rfl,k1,k2,k3⟩:=J4 ac;cases Zc k1;cases Zc k3;refine Yg ?_;refine⟨c0,_,rfl,t2.up _ _ hc,rfl,_,_,rfl,_,_,rfl,_,_,rfl,rfl,?_⟩;refine⟨_,rfl,_,rfl,b,_,_,_,rfl,rfl,t2.up _ _ hb,Vq,rfl,_,rfl,?_⟩;refine Vb (λcn=>?_) (λcn=>?_)
    .have cn:g.n=nb:=by injection Sh cn
     have ef:=Zjm eg no cn;refine hide λ_ Yc=>?_;obtain⟨pa,xs,ez,G4,ax⟩:=ip1;refine Yc ?_;subst ez;have lx:=ax.length;refine⟨_,rfl,_,rfl,_,rfl,b,_,_,_,rfl,rfl,t2.up _ _ hb,at2,_,rfl,_,rfl,(sz 2),λe3 h3=>⟨(sz 1),λe4 h4=>?_⟩⟩;have t3:=Zv.lay (o:=.tup [.str "arm",.int g.n]) h3;have t4:=Zv.lay (o:=.tup [.ref e3]) h4;refine⟨pa,e4,xs,_,rfl,rfl,(t2.trans (t3.trans t4)).up _ _ G4,Zp.of Zz,?_,λp' H6 t5 vk=>?_⟩
     .rw[<-lx];exact Vf (show p.length+1<=101 by omega) QI
     have t35:=(t3.trans t4).trans t5;have Py:=t2.trans t35;refine⟨e,S,ms,g.y,u,p++[Y8 "arm" (.int nb)],y3,.ref p',rfl,mk1.up Py.upT,mo,sk.1.y g mg',iw,mu,Zg.up Py.upT _ _ ju,Dw ax Py (t5.up _ _ (Zp.of (t4 _ _ Zz))) rfl (show V.int g.n=V.int nb by rw[cn]) vk,by rw[Nl,ZU];omega,λv' H7 s7 i7=>?_⟩;rw[fit,rds,ef,show (o || (some g).isSome)=true by simp]at lo;have lo:LO K H Q (mapR (λv=>Th.tup [.str "arm",.int nb,v]) (Jd ms n g.y u (p++[Y8 "arm" (.int nb)]))):=lo;have s07:=s1.trans (Py.trans s7);cases ew:Jd ms n g.y u (p++[Y8 "arm" (.int nb)]) with
     | bad q =>
      rw[ew]at i7 lo;have i70:=i7;refine hide λ_ Yr=>?_;obtain⟨ra,rx,rfl,hra,ar⟩:=i7;obtain⟨f1,f2,rfl,l1,l2⟩:=U5 ar;cases Zc l1;refine Yr ?_;exact⟨_,rfl,ra,_,_,_,rfl,rfl,hra,Yw,rfl,_,rfl,Vi QA ⟨_,rfl,lo _ _ s07 i70⟩⟩
     | ok w' =>
      rw[ew]at i7 lo;refine hide λ_ Yo=>?_;obtain⟨ra,rx,rfl,hra,ar⟩:=i7;obtain⟨f1,f2,rfl,l1,l2⟩:=U5 ar;cases Zc l1;refine Yo ?_;refine⟨_,rfl,ra,_,_,_,rfl,rfl,hra,Yw,rfl,_,rfl,Z5 QA ⟨_,rfl,_,rfl,ra,_,_,_,rfl,rfl,hra,Vq,(sz 3),λe5 h5=>⟨(sz 2),λe6 h6=>?_⟩⟩⟩;have t8:=Zv.lay (o:=.tup [.str "arm",.int g.n,f2]) h5;exact lo _ _ (s07.trans (t8.trans (Zv.lay h6))) (Lh ⟨e5,_,rfl,Zp.of Zz,_,_,rfl,rfl,_,_,rfl,(show V.int g.n=V.int nb by rw[cn]),_,_,rfl,Zg.up t8.upT _ _ l2,rfl⟩ h6)
    .refine⟨⟨_,_,_,_,rfl⟩,rfl,λz mz=>?_⟩;rw[Zs eg]at mz;rcases M6.mp mz with mz | mz
     .exact no z mz
     .rw[Nw.mp mz];exactλe=>cn (by rw[e];exact Sd rfl)
   .intro j H5 Xp;refine hide λ_ Z1=>?_;obtain⟨⟨o1,o6,o7,o8,rfl⟩,rfl,no⟩:=Xp;refine Z1 ?_;rw[lf,Ss]at no;have ef:J0 fs nb=none:=XZ.mpr λg mg z=>no g mg (Sh z);rw[ef]at bad good;refine⟨_,rfl,a,_,_,_,rfl,rfl,t2.up _ _ ha,at3,_,rfl,?_⟩;cases o with
    | true =>
     refine Wc ⟨(sz 1),λe3 h3=>?_⟩;have t3:=Zv.lay (o:=.tup [.str "other"]) h3;refine⟨_,rfl,_,rfl,b,_,rfl,(t2.trans t3).up _ _ hb,λp4 H4 t4 Xc=>?_⟩;rw[Zjp]at Xc;refine⟨e3,p4,_,_,rfl,rfl,t4.up _ _ (Zp.of Zz),Xc,(sz 3),λp5 H5 t5 hp5=>⟨(sz 2),λe6 h6=>?_⟩⟩;have s15:=t2.trans (t3.trans (t4.trans t5));exact good (.tup [.str "other",.int nb,u]) rfl s15 e6 (.ref p5) h6 ⟨p5,_,rfl,hp5,_,_,rfl,rfl,_,_,rfl,rfl,_,_,rfl,Zg.up s15.upT _ _ ju,rfl⟩
    | false =>
     exact Wn ⟨_,rfl,(sz 2),λe0 h0=>bad rfl t2 e0 h0⟩
 .refine Vi (by rw[F9 (λz=>c (by injection z))];rfl) ?_;have e1:Mx sh t=false:=by unfold Mx;rw[F9 (λz=>c z.symm)];rfl
  rw[e1]at bad;exact⟨_,rfl,(sz 2),λe0 h0=>bad rfl (Zv.refl H1) e0 h0⟩
abbrev Uk:Stmt:=top 45
noncomputable abbrev Mv:ZF:=XH
theorem Qx:Ze Mv XH (Zb Uk):=by trivial
noncomputable def xf:ZF:=["y","z","zz"]
noncomputable def Sm:ZC:=[997,999]
theorem Zqk:∀x∈xf,Tn x:=λx m=>by
 have h:∀x∈xf,(x.cps.toList.all λc=>decide (fg c))=true/\x.length<=8:=QA
 exact vz (h x m).1 (h x m).2
theorem X5(v:V):∀k,(List.replicate k [v]).flatten=List.replicate k v
 | 0=>rfl
 | k+1=>by rw[List.replicate_succ,List.flatten_cons,X5 v k];rfl
theorem tw{K:W.Frag}{H:Hp}{u:Th}{v:V}(i:Zg K H u v):∀k,Zw K H (List.replicate k u) (List.replicate k v)
 | 0=>rfl
 | k+1=>⟨v,_,rfl,i,tw i k⟩
inductive Zw4(K:W.Frag)(vs:ZZ)(H:Hp)(Q:VK):Prop
 | mk(l D:Addr)(srt:Str)(ts:List Th)(ys:ZZ)(r:Nat)(Vx:vs=[.ref l,.str srt,.ref D])(Vz:H D=some (.lst ys))(Vp:D≠l)(Jn:Zw K H ts ys)(Mf:Fd (r+28) H l)(Co:((srt="row" /\ ∀p us ws H',H p=none->H' p=some (.lst ws)->Zw K H' us ws->(∀u∈us,GI 1 u)->us.length<=21->Ye l r H H'->Q (.ref p) H')\/(srt="map" /\ ∃kl:List (Str×Th),ts=kl.map R8/\∀p (l2:List (Str×Th)) ws H',H p=none->H' p=some (.lst ws)->Zw K H' (l2.map R8) ws->(∀q∈l2,Tn q.1/\GI 1 q.2)->l2.length<=3->Ye l r H H'->Q (.ref p) H')\/(srt="rec" /\ ∃kl:List (Int×Th),ts=kl.map U2/\(kl.map (·.1)).Pairwise (· < ·)/\∀p (l2:List (Int×Th)) ws H',H p=none->H' p=some (.lst ws)->Zw K H' (l2.map U2) ws->(∀q∈l2,(0<=q.1/\q.1<=1000)/\GI 1 q.2)->((kl++l2).map (·.1)).Pairwise (· < ·)->l2.length<=2->Ye l r H H'->Q (.ref p) H')))
def Zk4(K:W.Frag):Sp:=λvs H Q _=>Zw4 K vs H Q
theorem bo{j:Type}{l:List j}(h:l≠[]):∃i x,l=i++[x]:=⟨l.dropLast,l.getLast h,(List.dropLast_concat_getLast h).symm⟩
theorem zi{K:W.Frag}{H:Hp}{ts:List Th}{t:Th}{ys:ZZ}(h:Zw K H (ts++[t]) ys):∃zs v,ys=zs++[v]/\Zg K H t v:=by
 induction ts generalizing ys with
 | nil=>obtain⟨v,r,rfl,i,e⟩:=h;cases Zc e;exact⟨[],v,rfl,i⟩
 | cons u us ih=>obtain⟨v,r,rfl,i,e⟩:=h;obtain⟨zs,w,rfl,j⟩:=ih e;exact⟨v::zs,w,rfl,j⟩
theorem pw_snoc{l:ZC}{n:Int}(h:l.Pairwise (· < ·))(g:∀x∈l,x<n):(l++[n]).Pairwise (· < ·):=List.pairwise_append.mpr ⟨h,List.pairwise_singleton _ _,λa ma b mb=>by rw[Nw.mp mb];exact g a ma⟩
theorem I0(F:Fu K "_law_one_more" Uk f fd)(m:Bn mg)(Zt:gD P w K mg base)(Yf:Fn P w K mg base 3 "_law_item" XR (jz K 1)):Yk P w K mg base Mm 4 f fd XH (Zk4 K):=by
 refine F.ok Qx (λvs H Q E h=>?_) λ_ A _ s H vs Q E hr h=>?_
 .obtain⟨l,D,srt,ts,ys,r,rfl,_⟩:=h
  rfl
 obtain⟨l,D,srt,ts,ys,r,rfl,hD,nD,at',fe,q⟩:=h;refine⟨_,(@Zd _ _ _ _ _ (@Uo _ _ _ _ _ _ _ _ (tQ Za (pv 1) Zk) (@Z2 _ _ _ (@Y6 _ _ _ _ (@Gp _ _ _ _ _ _ _ _ op_rep (@Z9 _ _ _ _ (@Zj _ _ _ _ _ (@Wz _ _ _ _ _ _ _ _ _ _ Yf (hr.m) rfl (@Zj _ _ _ _ _ (pv 0) (@Zj _ _ _ _ _ Zq Zx rfl) rfl) QI rfl rfl) Zx rfl)) (@Y3 _ _ _ _ _ _ _ Zh (@Z9 _ _ _ _ (@V4 _ _ [1,4,21] rfl)) (cF Zt hr (Zf (pv 0) (Zf Zq Zx))) (λ_ _=>rfl))))) Zl) (@Zd _ _ _ _ _ (@Uo _ _ _ _ _ _ _ _ (tQ Za (pv 1) Zk) (@Z2 _ _ _ (@Y6 _ _ _ _ (@Gu _ Mv (Zb Uk) ["_law_key","_law_feed_here","_law_parts_here"] [none,some 0,some 2] _ _ _ _ _ _ _ _ _ _ rfl (@Mc _ _ _ _ (@Z9 _ _ _ _ (@Zj _ _ _ _ _ Zk (@Zj _ _ _ _ _ Zk (@Zj _ _ _ _ _ Zk Zx rfl) rfl) rfl))) ⟨rfl,rfl,by decide +kernel,by decide +kernel⟩ (λ_ _ _=>(nI 0)) (λ_ _ _=>(@Gn _ _ _ (qp (qO (tQ Ng (pv 2) (ql Zx)) (qQ (tQ pj (iX Zy (iX Zh (pv 2) (@E3 _ _ _ _ _ _ Lp Zq)) Zq) (pv 0))))))) (λ_ _ _=>(qt (Zf (pv 0) (Zf (cF Yf hr (Zf (pv 1) (Zf Zq Zx))) Zx)))) QO))) Zl) (@Z2 _ _ _ (@Y6 _ _ _ _ (@Gu _ Mv (Zb Uk) ["_law_number","_law_feed_here","_law_parts_here"] [none,some 0,some 2] _ _ _ _ _ _ _ _ _ _ rfl (@Mc _ _ _ _ (@Z9 _ _ _ _ (@V4 _ _ [997,999] rfl))) ⟨rfl,rfl,by decide +kernel,by decide +kernel⟩ (λ_ _ _=>(nI 0)) (λ_ _ _=>(@Gn _ _ _ (qp (qO (tQ Ng (pv 2) (ql Zx)) (qQ (tQ Fs (iX Zy (iX Zh (pv 2) (@E3 _ _ _ _ _ _ Lp Zq)) Zq) (pv 0))))))) (λ_ _ _=>(qt (Zf (pv 0) (Zf (cF Yf hr (Zf (pv 1) (Zf Zq Zx))) Zx)))) QO))))),?_⟩;have hu:=V8.units0 hr;have ib:IB 1=9:=rfl;rcases q with ⟨rfl,q⟩ | ⟨rfl,kl,rfl,q⟩ | ⟨rfl,kl,rfl,pk,q⟩
 .refine⟨_,rfl,rfl,_,rfl,iY ?_⟩;refine⟨_,rfl,l,r+1,rfl,fe.m,λv u H1 iv gv t1=>⟨(sz 1),λL1 h1=>⟨(sz 3),λL2 h2=>?_⟩⟩⟩;have s1:=Zv.lay (o:=.lst [v]) h1;have s2:=Zv.lay (o:=.lst ([1,4,21].map V.int)) h2;have t2:=t1.same (s1.trans s2);refine⟨_,rfl,l,3,r,rfl,t2.feed,by decide,by decide,λx H3 x0 x1 t3=>?_⟩;refine hide λ_ Z1=>?_;obtain⟨k,mk,ek⟩:=Di [1,4,21] x0 x1;refine Z1 ?_;have nL1:L1≠l:=t1.feed.ne h1;have nL2:L2≠l:=(t1.same s1).feed.ne h2;have bk:0<=k/\k<=21:=(by decide:∀x∈([1,4,21]:ZC),0<=x/\x<=21) k mk;refine⟨L2,_,_,_,rfl,rfl,Zu.of (t3.keep _ _ nL2 Zz),ek,L1,k,[v],rfl,rfl,t3.keep _ _ nL1 (s2 _ _ Zz),by omega,by omega,?_,λp hp=>?_⟩
  .show 1*k.toNat<=sizeLine;exact Vf (show 1*k.toNat<=21 by omega) QI
  have kh:=t2.trans t3;have s4:=Zv.lay (o:=.lst (List.replicate k.toNat [v]).flatten) hp;refine q p (List.replicate k.toNat u) _ _ (kh.free hp) Zz ?_ (λz mz=>by rw[List.eq_of_mem_replicate mz];exact gv) (by rw[List.length_replicate];omega) (kh.same s4);have a:=tw (Zg.up (((s1.trans s2).upT.trans (t3.upT t2.feed)).trans s4.upT) _ _ iv) k.toNat;rw[<-X5 v]at a;exact a
 .refine⟨_,rfl,rfl,_,rfl,Z5 QA ⟨_,rfl,rfl,_,rfl,iY ?_⟩⟩;refine⟨(sz 3),λLk hk=>⟨Lk,rfl,⟨_,Zu.of Zz⟩,λD2 fp sx Nq=>?_⟩⟩;have s1:=Zv.lay (o:=.lst (xf.map V.str)) hk;have s2:=Zv.lay (o:=.lst []) Nq;have nk:Lk≠l:=fe.ne hk;have n2:D2≠l:=(fe.same s1).ne Nq;have f2:H D2=none:=s1.free Nq;have nkD:Lk≠D2:=λz=>by rw[<-z,Zz]at Nq;cases Nq
  have nDD:D≠D2:=Z0 hD f2;have st0:Ye l (r+9*(3-0)) H _:=((Ye.refl fe).same (s1.trans s2)).m
  refine Ve (K:=K) (xs:=xf.map V.str) (λi zs j H5=>(∃o,j=[o,some (.ref l),some (.ref D)])/\H5 Lk=some (.lst (xf.map V.str))/\H5 D=some (.lst ys)/\Ye l (r+9*(3-i)) H H5/\H5 D2=some (.lst zs)/\∃l2:List (Str×Th),(∀q∈l2,Tn q.1/\GI 1 q.2)/\l2.length<=i/\Zw K H5 (l2.map R8) zs)
   ⟨⟨_,rfl⟩,s2 _ _ Zz,(s1.trans s2) _ _ hD,st0,Zz,[],λq mq=>absurd mq V9,Yt _,rfl⟩ ?_ ?_ ?_
  .intro i zs j H5 hi Rc;refine hide λ_ Yz=>?_;obtain⟨_,h5,_,_,h6,_⟩:=Rc;refine Yz ?_;exact⟨Zu.of h5,h6⟩
  .intro i x zs j H5 hx Om;refine hide λ_ Yq=>?_;obtain⟨⟨o,rfl⟩,h5k,Qv,t5,h5,l2,g2,ln,az⟩:=Om;rw[Jb]at hx;obtain⟨ky,ek,rfl⟩:=Cy.mp hx;refine Yq ?_;have hi:i<3:=(Bl.mp ek).1;have mky:=Zqk ky (Cr ek);have zl:zs.length<sizeLine:=by rw[<-az.length,Yv];exact Yx QU
   refine Ej ?_;refine⟨_,rfl,(sz 0),λe0 h0=>?_⟩;have s6:=Zv.lay (o:=.lst []) h0;have t6:=t5.same s6;refine⟨D,e0,ys,rfl,rfl,Zu.of (s6 _ _ Qv),Zu.of Zz,Qe (Yt _) hu,_,rfl,?_⟩;cases hE:ys.isEmpty with
   | true =>
    refine Wc (Wc ⟨_,rfl,_,rfl,l,r+9*(3-(i+1)),rfl,t6.feed.m,λv u H7 iv gv t7=>⟨(sz 2),λe8 h8=>?_⟩⟩);have s8:=Zv.lay (o:=.tup [.str ky,v]) h8;have h9:=s8 _ _ (t7.keep _ _ n2 (s6 _ _ h5));have uS:Ui K _ (upd _ D2 (.lst (zs++[.ref e8]))):=Zi h9;have t9:=(t6.trans t7).same s8;refine⟨h9,zl,⟨_,rfl⟩,by rw[Zm nkD];exact s8 _ _ (t7.keep _ _ nk (s6 _ _ h5k)),by rw[Zm nDD];exact s8 _ _ (t7.keep _ _ nD (s6 _ _ Qv)),t9.put f2 (fe.far f2),Zz,l2++[(ky,u)],λq mq=>?_,by rw[Nl,ZU];omega,?_⟩
    .rcases M6.mp mq with mq | mq
     .exact g2 q mq
     .rw[Nw.mp mq];exact⟨mky,gv⟩
    .rw[Gw];exact Zw.append (Zw.up ((s6.upT.trans (t7.upT t6.feed)).trans (s8.upT.trans uS)) _ _ az) (Zw.one (Zg.up uS (.tup [.str ky,u]) _ ⟨e8,_,rfl,Zp.of Zz,_,_,rfl,rfl,_,_,rfl,Zg.up s8.upT _ _ iv,rfl⟩))
   | false =>
    have nil:kl≠[]:=λz=>by subst z;cases Zc at';cases hE
    refine hide λ_ Yy=>?_;obtain⟨ki,kx,rfl⟩:=bo nil;rw[Gw]at at';obtain⟨y0,yx,rfl,ix⟩:=zi at';obtain⟨c,cs,rfl,hc,ac⟩:=Zg.up ((t5.upT fe).trans s6.upT) _ _ ix;obtain⟨c1,c2,rfl,k1,k2⟩:=U5 ac;cases Zc k1;refine Yy ?_;refine Wn ⟨_,rfl,_,rfl,D,_,_,_,rfl,rfl,Zu.of (s6 _ _ Qv),za _ _,c,_,_,_,rfl,rfl,hc,Yw,_,rfl,_,_,rfl,rfl,_,rfl,?_⟩;refine Vb (λcc=>?_) (λcc=>?_)
    .refine⟨_,rfl,_,rfl,l,r+9*(3-(i+1)),rfl,t6.feed.m,λv u H7 iv gv t7=>⟨(sz 2),λe8 h8=>?_⟩⟩;have s8:=Zv.lay (o:=.tup [.str ky,v]) h8;have h9:=s8 _ _ (t7.keep _ _ n2 (s6 _ _ h5));have uS:Ui K _ (upd _ D2 (.lst (zs++[.ref e8]))):=Zi h9;have t9:=(t6.trans t7).same s8;refine⟨h9,zl,⟨_,rfl⟩,by rw[Zm nkD];exact s8 _ _ (t7.keep _ _ nk (s6 _ _ h5k)),by rw[Zm nDD];exact s8 _ _ (t7.keep _ _ nD (s6 _ _ Qv)),t9.put f2 (fe.far f2),Zz,l2++[(ky,u)],λq mq=>?_,by rw[Nl,ZU];omega,?_⟩
     .rcases M6.mp mq with mq | mq
      .exact g2 q mq
      .rw[Nw.mp mq];exact⟨mky,gv⟩
     .rw[Gw];exact Zw.append (Zw.up ((s6.upT.trans (t7.upT t6.feed)).trans (s8.upT.trans uS)) _ _ az) (Zw.one (Zg.up uS (.tup [.str ky,u]) _ ⟨e8,_,rfl,Zp.of Zz,_,_,rfl,rfl,_,_,rfl,Zg.up s8.upT _ _ iv,rfl⟩))
    .exact⟨⟨_,rfl⟩,s6 _ _ h5k,s6 _ _ Qv,t6.m,s6 _ _ h5,l2,g2,by omega,Zw.up s6.upT _ _ az⟩
  .intro zs j H5 vh;refine hide λ_ Yg=>?_;obtain⟨_,_,_,t5,h5,l2,g2,ln,az⟩:=vh;refine Yg ?_;exact q D2 l2 zs H5 f2 h5 az g2 ln (t5.m)
 .refine⟨_,rfl,rfl,_,rfl,Z5 QA ⟨_,rfl,rfl,_,rfl,iN ?_⟩⟩;refine⟨(sz 2),λLk hk=>⟨Lk,rfl,⟨_,Zu.of Zz⟩,λD2 fp sx Nq=>?_⟩⟩;have s1:=Zv.lay (o:=.lst (Sm.map V.int)) hk;have s2:=Zv.lay (o:=.lst []) Nq;have nk:Lk≠l:=fe.ne hk;have n2:D2≠l:=(fe.same s1).ne Nq;have f2:H D2=none:=s1.free Nq;have nkD:Lk≠D2:=λz=>by rw[<-z,Zz]at Nq;cases Nq
  have nDD:D≠D2:=Z0 hD f2;have st0:Ye l (r+9*(2-0)) H _:=((Ye.refl fe).same (s1.trans s2)).m
  refine Ve (K:=K) (xs:=Sm.map V.int) (λi zs j H5=>(∃o,j=[o,some (.ref l),some (.ref D)])/\H5 Lk=some (.lst (Sm.map V.int))/\H5 D=some (.lst ys)/\Ye l (r+9*(2-i)) H H5/\H5 D2=some (.lst zs)/\∃l2:List (Int×Th),(∀q∈l2,(0<=q.1/\q.1<=1000)/\GI 1 q.2)/\l2.length<=i/\Zw K H5 (l2.map U2) zs/\((kl++l2).map (·.1)).Pairwise (· < ·)/\(l2.map (·.1)).Sublist (Sm.take i))
   ⟨⟨_,rfl⟩,s2 _ _ Zz,(s1.trans s2) _ _ hD,st0,Zz,[],λq mq=>absurd mq V9,Yt _,rfl,by rw[ZO];exact pk,List.Sublist.refl _⟩ ?_ ?_ ?_
  .intro i zs j H5 hi vc;refine hide λ_ Yc=>?_;obtain⟨_,h5,_,_,h6,_⟩:=vc;refine Yc ?_;exact⟨Zu.of h5,h6⟩
  .intro i x zs j H5 hx Fq;refine hide λ_ Yr=>?_;obtain⟨⟨o,rfl⟩,h5k,Qv,t5,h5,l2,g2,ln,az,pw,sb⟩:=Fq;rw[Jb]at hx;obtain⟨ky,ek,rfl⟩:=Cy.mp hx;refine Yr ?_;have hi:i<2:=(Bl.mp ek).1;have mky:0<=ky/\ky<=1000:=(by decide:∀x∈Sm,0<=x/\x<=1000) ky (Cr ek)
   have lt2:∀x∈l2.map (·.1),x<ky:=λx mx=>by
    have z:=sb.subset mx;have t:=Zs ek;have pn:(Sm.take (i+1)).Pairwise (· < ·):=List.Pairwise.sublist (List.take_sublist _ _) QI;rw[t]at pn;exact(List.pairwise_append.mp pn).2.2 x z ky Br
   have more:∀u:Th,(∀x∈kl.map (·.1),x<ky)->((kl++(l2++[((ky,u):Int×Th)])).map (·.1)).Pairwise (· < ·)/\((l2++[((ky,u):Int×Th)]).map (·.1)).Sublist (Sm.take (i+1)):=λu hk=>by
    constructor
    .rw[<-ZA,Gw];refine pw_snoc pw λx mx=>?_;rw[Gw]at mx;rcases M6.mp mx with mx | mx
     .exact hk x mx
     .exact lt2 x mx
    .rw[Zs ek,Gw];exact sb.append (List.Sublist.refl _)
   have zl:zs.length<sizeLine:=by rw[<-az.length,Yv];exact Yx QU
   refine Ej ?_;refine⟨_,rfl,(sz 0),λe0 h0=>?_⟩;have s6:=Zv.lay (o:=.lst []) h0;have t6:=t5.same s6;refine⟨D,e0,ys,rfl,rfl,Zu.of (s6 _ _ Qv),Zu.of Zz,Qe (Yt _) hu,_,rfl,?_⟩;cases hE:ys.isEmpty with
   | true =>
    have hkl:∀x∈kl.map (·.1),x<ky:=λx mx=>by
     have ye:ys=[]:=List.isEmpty_iff.mp hE;subst ye;have:=at'.length;rw[Yv]at this;rw[List.eq_nil_of_length_eq_zero this]at mx;exact absurd mx V9
    refine Wc (Wc ⟨_,rfl,_,rfl,l,r+9*(2-(i+1)),rfl,t6.feed.m,λv u H7 iv gv t7=>⟨(sz 2),λe8 h8=>?_⟩⟩);have s8:=Zv.lay (o:=.tup [.int ky,v]) h8;have h9:=s8 _ _ (t7.keep _ _ n2 (s6 _ _ h5));have uS:Ui K _ (upd _ D2 (.lst (zs++[.ref e8]))):=Zi h9;have t9:=(t6.trans t7).same s8;refine⟨h9,zl,⟨_,rfl⟩,by rw[Zm nkD];exact s8 _ _ (t7.keep _ _ nk (s6 _ _ h5k)),by rw[Zm nDD];exact s8 _ _ (t7.keep _ _ nD (s6 _ _ Qv)),t9.put f2 (fe.far f2),Zz,l2++[(ky,u)],λq mq=>?_,by rw[Nl,ZU];omega,?_,(more _ hkl).1,(more _ hkl).2⟩
    .rcases M6.mp mq with mq | mq
     .exact g2 q mq
     .rw[Nw.mp mq];exact⟨mky,gv⟩
    .rw[Gw];exact Zw.append (Zw.up ((s6.upT.trans (t7.upT t6.feed)).trans (s8.upT.trans uS)) _ _ az) (Zw.one (Zg.up uS (.tup [.int ky,u]) _ ⟨e8,_,rfl,Zp.of Zz,_,_,rfl,rfl,_,_,rfl,Zg.up s8.upT _ _ iv,rfl⟩))
   | false =>
    have nil:kl≠[]:=λz=>by subst z;cases Zc at';cases hE
    refine hide λ_ Yo=>?_;obtain⟨ki,kx,rfl⟩:=bo nil;rw[Gw]at at';obtain⟨y0,yx,rfl,ix⟩:=zi at';obtain⟨c,cs,rfl,hc,ac⟩:=Zg.up ((t5.upT fe).trans s6.upT) _ _ ix;obtain⟨c1,c2,rfl,k1,k2⟩:=U5 ac;cases Zc k1;refine Yo ?_;refine Wn ⟨_,rfl,_,rfl,D,_,_,_,rfl,rfl,Zu.of (s6 _ _ Qv),za _ _,c,_,_,_,rfl,rfl,hc,Yw,_,rfl,_,_,rfl,rfl,_,rfl,?_⟩;refine Vb (λcc=>?_) (λcc=>?_)
    .have hkl:∀x∈(ki++[kx]).map (·.1),x<ky:=λx mx=>by
      have cc:=Sh cc;rw[Gw]at mx pk;rcases M6.mp mx with mx | mx
      .exact Int.lt_trans ((List.pairwise_append.mp pk).2.2 x mx kx.1 Br) cc
      .rw[Nw.mp mx];exact cc
     refine⟨_,rfl,_,rfl,l,r+9*(2-(i+1)),rfl,t6.feed.m,λv u H7 iv gv t7=>⟨(sz 2),λe8 h8=>?_⟩⟩;have s8:=Zv.lay (o:=.tup [.int ky,v]) h8;have h9:=s8 _ _ (t7.keep _ _ n2 (s6 _ _ h5));have uS:Ui K _ (upd _ D2 (.lst (zs++[.ref e8]))):=Zi h9;have t9:=(t6.trans t7).same s8;refine⟨h9,zl,⟨_,rfl⟩,by rw[Zm nkD];exact s8 _ _ (t7.keep _ _ nk (s6 _ _ h5k)),by rw[Zm nDD];exact s8 _ _ (t7.keep _ _ nD (s6 _ _ Qv)),t9.put f2 (fe.far f2),Zz,l2++[(ky,u)],λq mq=>?_,by rw[Nl,ZU];omega,?_,(more _ hkl).1,(more _ hkl).2⟩
     .rcases M6.mp mq with mq | mq
      .exact g2 q mq
      .rw[Nw.mp mq];exact⟨mky,gv⟩
     .rw[Gw];exact Zw.append (Zw.up ((s6.upT.trans (t7.upT t6.feed)).trans (s8.upT.trans uS)) _ _ az) (Zw.one (Zg.up uS (.tup [.int ky,u]) _ ⟨e8,_,rfl,Zp.of Zz,_,_,rfl,rfl,_,_,rfl,Zg.up s8.upT _ _ iv,rfl⟩))
    .exact⟨⟨_,rfl⟩,s6 _ _ h5k,s6 _ _ Qv,t6.m,s6 _ _ h5,l2,g2,by omega,Zw.up s6.upT _ _ az,pw,sb.trans (by rw[Zs ek];exact List.sublist_append_left _ _)⟩
  .intro zs j H5 Fx;refine hide λ_ Z1=>?_;obtain⟨_,_,_,t5,h5,l2,g2,ln,az,pw,sb⟩:=Fx;refine Z1 ?_;exact q D2 l2 zs H5 f2 h5 az g2 pw ln (t5.m)
abbrev U9:Stmt:=top 44
noncomputable abbrev Qf:ZF:=["_law_feed_here","_law_item_here","_law_way","_law_parts_here","_law_at"]
theorem Ul:Ze Qf XA (Zb U9):=by trivial
inductive Zz1(K:W.Frag)(vs:ZZ)(H:Hp)(Q:VK):Prop
 | mk(l D:Addr)(srt:Str)(ts:List Th)(ys:ZZ)(r N:Nat)(Vx:vs=[.ref l,.str srt,.ref D])(Vz:H D=some (.lst ys))(Vp:D≠l)(Jn:Zw K H ts ys)(Mf:Fd (r+28) H l)(Co:srt∈(QF:ZF))(Xo:Vm (N+1) (.tup [.str srt,.tup ts]))(h7_:2<=N)(h8_:∀p us ws H',H p=none->H' p=some (.lst ws)->Zw K H' us ws->us.length<=21->Y0 us<=84100->Vm (N+1) (.tup [.str srt,.tup (ts++us)])->Ye l r H H'->Q (.ref p) H')
def qc(K:W.Frag):Sp:=λvs H Q _=>Zz1 K vs H Q
theorem Wl{N:Nat}{ts:List Th}(h:Vm (N+1) (.tup [.str "row",.tup ts])):∀u∈ts,Vm N u:=by
 obtain⟨l,e,h⟩:=Oj h rfl;cases e;exact h
theorem Wh{N:Nat}{ts:List Th}(h:Vm (N+1) (.tup [.str "map",.tup ts])):∃l:List (Str×Th),ts=l.map R8/\(∀p∈l,Tn p.1)/\∀p∈l,Vm N p.2:=by
 obtain⟨l,e,h⟩:=Ow h rfl
 injection e with e;injection e with _ e;injection e with e _;injection e with e
 exact⟨l,e,h⟩
theorem Ws{N:Nat}{ts:List Th}(h:Vm (N+1) (.tup [.str "rec",.tup ts])):∃l:List (Int×Th),ts=l.map U2/\(∀p∈l,0<=p.1/\p.1<=1000)/\(l.map (·.1)).Pairwise (· < ·)/\∀p∈l,Vm N p.2:=by
 obtain⟨l,e,h⟩:=Hr h rfl
 injection e with e;injection e with _ e;injection e with e _;injection e with e
 exact⟨l,e,h⟩
theorem Rb{c n k:Nat}{us:List Th}(h:∀u∈us,Y9 u<=c)(l:us.length<=n)(e:n*(c+2)<=k):Y0 us<=k:=Vf (Hn h) (Vf (Nat.mul_le_mul_right _ l) e)
theorem one2{K:W.Frag}{vs:ZZ}{H:Hp}{Q:VK}{E:XK}(h:qc K vs H Q E):Zk4 K vs H Q E:=by
 obtain⟨l,D,srt,ts,ys,r,N,rfl,hD,nD,at',fe,ms,it,h2,q⟩:=h;refine⟨l,D,srt,ts,ys,r,rfl,hD,nD,at',fe,?_⟩;simp only[U8,V9,or_false]at ms;have m1:MU 1=4000:=rfl;rcases ms with rfl | rfl | rfl
 .refine .inl ⟨rfl,λp us ws H' f h a g ln t=>q p us ws H' f h a ln (Rb (c:=4000) (n:=21) (λu mu=>(g u mu).mu) ln QI) (.row _ λu mu=>?_) t⟩;rcases M6.mp mu with mu | mu
  .exact Wl it u mu
  .exact(g u mu).w.m
 .obtain⟨kl,rfl,kk,kw⟩:=Wh it;refine .inr (.inl ⟨rfl,kl,rfl,λp l2 ws H' f h a g ln t=>q p (l2.map R8) ws H' f h a (by rw[Yv];omega) (Rb (c:=4616) (n:=3) (λu mu=>?_) (by rw[Yv];exact ln) QI) ?_ t⟩)
  .obtain⟨z,mz,rfl⟩:=G3.mp mu;rw[M3];have:=(g z mz).1.2;have:=(g z mz).2.mu;omega
  .rw[<-Gw];refine .map _ (λz mz=>?_) (λz mz=>?_)
   .rcases M6.mp mz with mz | mz
    .exact kk z mz
    .exact(g z mz).1
   .rcases M6.mp mz with mz | mz
    .exact kw z mz
    .exact(g z mz).2.w.m
 .obtain⟨kl,rfl,kk,ks,kw⟩:=Ws it;refine .inr (.inr ⟨rfl,kl,rfl,ks,λp l2 ws H' f h a g pw ln t=>q p (l2.map U2) ws H' f h a (by rw[Yv];omega) (Rb (c:=4629) (n:=3) (λu mu=>?_) (by rw[Yv];omega) QI) ?_ t⟩)
  .obtain⟨z,mz,rfl⟩:=G3.mp mu;rw[D6];have:=(g z mz).2.mu;omega
  .rw[<-Gw];refine .recd _ (λz mz=>?_) pw (λz mz=>?_)
   .rcases M6.mp mz with mz | mz
    .exact kk z mz
    .exact(g z mz).1
   .rcases M6.mp mz with mz | mz
    .exact kw z mz
    .exact(g z mz).2.w.m
theorem it_del{N i:Nat}{srt:Str}{ts:List Th}(ms:srt∈(QF:ZF))(it:Vm (N+1) (.tup [.str srt,.tup ts])):Vm (N+1) (.tup [.str srt,.tup (ts.take i++ts.drop (i+1))]):=by
 have sb:∀{j:Type} (l:List j),(l.take i++l.drop (i+1)).Sublist l:=λl=>by
  have h:(l.take i++l.drop (i+1)).Sublist (l.take i++l.drop i):=(List.Sublist.refl _).append (by rw[<-List.drop_drop];exact List.drop_sublist 1 _);rw[List.take_append_drop]at h;exact h
 simp only[U8,V9,or_false]at ms;rcases ms with rfl | rfl | rfl
 .exact .row _ λu mu=>Wl it u ((sb ts).subset mu)
 .obtain⟨kl,rfl,kk,kw⟩:=Wh it;rw[<-List.map_take, <-List.map_drop, <-Gw];exact .map _ (λz mz=>kk z ((sb kl).subset mz)) (λz mz=>kw z ((sb kl).subset mz))
 .obtain⟨kl,rfl,kk,ks,kw⟩:=Ws it;rw[<-List.map_take, <-List.map_drop, <-Gw];exact .recd _ (λz mz=>kk z ((sb kl).subset mz)) (List.Pairwise.sublist ((sb kl).map _) ks) (λz mz=>kw z ((sb kl).subset mz))
theorem Tw{j:Type}{l:List j}{i:Nat}{a x:j}(h:x∈l.set i a):x∈l\/x=a:=by
 rcases List.mem_or_eq_of_mem_set h with h | h
 .exact .inl h
 .exact .inr h
theorem Zyo{N M i:Nat}{u':Th}{ts:List Th}(it:Vm (N+1) (.tup [.str "row",.tup ts]))(hM:N<=M)(iu:Vm M u'):Vm (M+1) (.tup [.str "row",.tup (ts.set i u')]):=.row _ λu mu=>by
 rcases Tw mu with mu | rfl
 .exact(Wl it u mu).mono hM
 .exact iu
theorem Zya{N M i:Nat}{srt:Str}{a u u':Th}{ts:List Th}(ms:srt∈(QH:ZF))(it:Vm (N+1) (.tup [.str srt,.tup ts]))(et:ts[i]?=some (.tup [a,u]))(hM:N<=M)(iu:Vm M u'):Vm (M+1) (.tup [.str srt,.tup (ts.set i (.tup [a,u']))]):=by
 simp only[U8,V9,or_false]at ms;rcases ms with rfl | rfl
 .obtain⟨kl,rfl,kk,kw⟩:=Wh it;rw[Jb]at et;obtain⟨z,ez,e⟩:=Cy.mp et
  injection e with e;injection e with e1 e;cases e1
  have e2:(kl.map R8).set i (.tup [.str z.1,u'])=(kl.set i (z.1,u')).map R8:=by rw[List.map_set];rfl
  rw[e2];refine .map _ (λy my=>?_) (λy my=>?_)
  .rcases Tw my with my | rfl
   .exact kk y my
   .exact kk z (Cr ez)
  .rcases Tw my with my | rfl
   .exact(kw y my).mono hM
   .exact iu
 .obtain⟨kl,rfl,kk,ks,kw⟩:=Ws it;rw[Jb]at et;obtain⟨z,ez,e⟩:=Cy.mp et
  injection e with e;injection e with e1 e;cases e1
  have e2:(kl.map U2).set i (.tup [.int z.1,u'])=(kl.set i (z.1,u')).map U2:=by rw[List.map_set];rfl
  have e3:(kl.set i (z.1,u')).map (·.1)=kl.map (·.1):=by
   rw[List.map_set];refine List.ext_getElem? λj=>?_;by_cases hj:i=j
   .subst hj;rw[List.getElem?_set_self (by rw[Yv];exact(Bl.mp ez).1),Jb,ez];rfl
   .rw[List.getElem?_set_ne hj]
  rw[e2];refine .recd _ (λy my=>?_) (by rw[e3];exact ks) (λy my=>?_)
  .rcases Tw my with my | rfl
   .exact kk y my
   .exact kk z (Cr ez)
  .rcases Tw my with my | rfl
   .exact(kw y my).mono hM
   .exact iu
theorem j9:∀{ts:List Th} {i:Nat} {t t':Th},ts[i]?=some t->Y0 (ts.set i t')+Y9 t=Y0 ts+Y9 t'
 | [],i,t,t',e=>by simp at e
 | u::ts,0,t,t',e=>by simp at e;subst e;simp only[List.set_cons_zero,Y0];omega
 | u::ts,i+1,t,t',e=>by
  have:=j9 (ts:=ts) (i:=i) (t:=t) (t':=t') (by simpa using e);simp only[List.set_cons_succ,Y0];omega
theorem Zqy:∀(ts:List Th) (i:Nat),Y0 (ts.take i++ts.drop (i+1))<=Y0 ts
 | [],i=>by simp
 | u::ts,0=>by simp only[List.take_zero,List.nil_append,List.drop_succ_cons,List.drop_zero,Y0];omega
 | u::ts,i+1=>by
  have:=Zqy ts i;simp only[List.take_succ_cons,List.cons_append,List.drop_succ_cons,Y0];omega
theorem P5{srt:Str}(ms:srt∈(QF:ZF))(ts:List Th):Y9 (.tup [.str srt,.tup ts])=1211+Y0 ts:=by
 simp only[U8,V9,or_false]at ms;rcases ms with rfl | rfl | rfl
 .exact Tz ts
 .exact Tq ts
 .exact Tx ts
theorem Ap{K:W.Frag}{H:Hp}{t':Th}{v':V}(i':Zg K H t' v'):∀{ts:List Th} {vs:ZZ} (j:Nat),Zw K H ts vs->Zw K H (ts.set j t') (vs.set j v')
 | [],_,_,h=>by cases Zc h;exact rfl
 | t::ts,_,0,h=>by obtain⟨v,r,rfl,i,a⟩:=h;exact⟨v',r,rfl,i',a⟩
 | t::ts,_,j+1,h=>by obtain⟨v,r,rfl,i,a⟩:=h;exact⟨v,_,rfl,i,Ap i' j a⟩
theorem zo{K:W.Frag}{H:Hp}:∀{ts:List Th} {vs:ZZ} (j:Nat),Zw K H ts vs->Zw K H (ts.take j) (vs.take j)
 | [],_,j,h=>by cases Zc h;rw[List.take_nil,List.take_nil];exact rfl
 | t::ts,_,0,h=>rfl
 | t::ts,_,j+1,h=>by obtain⟨v,r,rfl,i,a⟩:=h;exact⟨v,_,rfl,i,zo j a⟩
theorem ze{K:W.Frag}{H:Hp}:∀{ts:List Th} {vs:ZZ} (j:Nat),Zw K H ts vs->Zw K H (ts.drop j) (vs.drop j)
 | [],_,j,h=>by cases Zc h;rw[List.drop_nil,List.drop_nil];exact rfl
 | t::ts,_,0,h=>h
 | t::ts,_,j+1,h=>by obtain⟨v,r,rfl,i,a⟩:=h;exact ze j a
inductive spIB_I(K:W.Frag)(n:Nat)(vs:ZZ)(H:Hp)(Q:VK):Prop
 | mk(l:Addr)(v:V)(t:Th)(r:Nat)(Vx:vs=[.ref l,v])(Vz:Vm n t)(Vp:Y9 t<=Cn)(Jn:Zg K H t v)(Mf:Fd (r+(2*n+40)) H l)(Co:∀v' t' H',Zg K H' t' v'->Vm (n+3) t'->Y9 t'<=Y9 t+85000->Ye l r H H'->Q v' H')
def Zz5(K:W.Frag)(n:Nat):Sp:=λvs H Q _=>spIB_I K n vs H Q
theorem cut_to(ws:ZZ){k:Int}(h0:0<=k)(h1:k<ws.length):Jt ws none (some k)=ws.take k.toNat:=by
 unfold Jt
 have e:HT.Uj ws.length ws.length (some k)=k.toNat:=by
  show (if k<0 then (k+(ws.length:Int)).toNat else min k.toNat ws.length)=_;rw[if_neg QU];omega
 rw[e,HT.R6,List.drop_zero,Nat.sub_zero]
theorem ay(ws:ZZ){k:Int}(h0:0<=k)(h1:k<ws.length):Jt ws (some (k+1)) none=ws.drop (k.toNat+1):=by
 unfold Jt
 have e:HT.Uj ws.length 0 (some (k+1))=k.toNat+1:=by
  show (if k+1<0 then (k+1+(ws.length:Int)).toNat else min (k+1).toNat ws.length)=_;rw[if_neg QU];omega
 rw[e,HT.R6,T0l];rw[List.length_drop];omega
theorem Zyi{n:Nat}{t:Th}(h:Vm (n+1) t):(∃i,t=.tup [.str "whole",.int i]/\-Te<=i/\i<=Te)\/(∃x,t=.tup [.str "text",.str x]/\Cm x)\/(∃k u,t=.tup [.str "arm",.int k,u]/\0<=k/\k<=1000/\Vm n u)\/∃srt ts,t=.tup [.str srt,.tup ts]/\srt∈(QF:ZF):=by
 cases h with
 | whole i h0 h1=>exact .inl ⟨i,rfl,h0,h1⟩
 | text x h=>exact .inr (.inl ⟨x,rfl,h⟩)
 | arm k u h0 h1 h=>exact .inr (.inr (.inl ⟨k,u,rfl,h0,h1,h⟩))
 | row l h=>exact .inr (.inr (.inr ⟨_,l,rfl,by decide +kernel⟩))
 | map l k h=>exact .inr (.inr (.inr ⟨_,_,rfl,by decide +kernel⟩))
 | recd l k s h=>exact .inr (.inr (.inr ⟨_,_,rfl,by decide +kernel⟩))
theorem Zji{n:Nat}{srt:Str}{ts:List Th}{t:Th}(ms:srt∈(QH:ZF))(it:Vm (n+1) (.tup [.str srt,.tup ts]))(m:t∈ts):∃a u,t=.tup [a,u]/\Vm n u/\Y9 u<=Y9 t:=by
 simp only[U8,V9,or_false]at ms;rcases ms with rfl | rfl
 .obtain⟨kl,rfl,kk,kw⟩:=Wh it;obtain⟨z,mz,rfl⟩:=G3.mp m;exact⟨_,_,rfl,kw z mz,by rw[M3];omega⟩
 .obtain⟨kl,rfl,kk,ks,kw⟩:=Ws it;obtain⟨z,mz,rfl⟩:=G3.mp m;exact⟨_,_,rfl,kw z mz,by rw[D6];omega⟩
theorem Zkd{n:Nat}{srt:Str}{ts:List Th}(ms:srt∈(QF:ZF))(it:Vm (n+1) (.tup [.str srt,.tup ts])):∀t∈ts,600<=Y9 t:=λt m=>by
 simp only[U8,V9,or_false]at ms;rcases ms with rfl | rfl | rfl
 .exact(Wl it t m).big
 .obtain⟨kl,rfl,kk,kw⟩:=Wh it;obtain⟨z,mz,rfl⟩:=G3.mp m;rw[M3];omega
 .obtain⟨kl,rfl,kk,ks,kw⟩:=Ws it;obtain⟨z,mz,rfl⟩:=G3.mp m;rw[D6];omega
theorem Zqs{n:Nat}{x:Int}(h0:0<=x)(h1:x<n):ixN n x=some x.toNat:=by unfold ixN;rw[if_pos h0,if_pos h1]
abbrev gO(P:Program)(w:World)(K:W.Frag)(mg:G6)(base:Heap):=Fn P w K mg base 4 "_law_one_more" XH (qc K)
theorem Hd{k n:Nat}(hk:4<=k)(F:Fu K "_law_item_bent" U9 f fd)(m:Bn mg)(Zt:gD P w K mg base)(Yf:gI P w K mg base)(Je:gO P w K mg base)
  (V7:Fn P w K mg base k "_law_item_bent" XA (Zz5 K n)):Yk P w K mg base Mm (k+1) f fd XA (Zz5 K (n+1)):=by
 refine F.ok Ul (λvs H Q E h=>?_) λ_ A _ s H vs Q E hr h=>?_
 .obtain⟨l,v,t,r,rfl,_⟩:=h
  rfl
 obtain⟨l,v,t,r,rfl,it,hm,iv,fe,q⟩:=h
 refine⟨_,(@Zd _ _ _ _ _ (sI 2 Ul.nd (cF Zt hr (Zf (pv 0) (Zf Zq Zx)))) (@Zd _ _ _ _ _ (qi (qp (qO (tQ Za (pv 2) Zq) (qQ (qp (@pw_and _ _ _ _ _ _ _ (Uw Df (iX Zy (pv 1) Zq) (qt (Zf Zk (Zf Zk Zx))) rfl) (@pw_and1 _ _ _ _ (tQ Fs (pv 2) Zq))))))) (q1 (qr (cF Yf hr (Zf (pv 0) (Zf Zq Zx))))) Zl) (@Zd _ _ _ _ _ (@Uo _ _ _ _ _ _ _ _ (tQ Za (iX Zy (pv 1) Zq) Zk) (@Z2 _ _ _ (@Y6 _ _ _ _ (@Ys _ _ _ _ _ (@Zj _ _ _ _ _ Zk (@Zj _ _ _ _ _ (@Gp _ _ _ _ _ _ _ _ Me (@Y3 _ _ _ _ _ _ _ Zh (@Z9 _ _ _ _ (@Zj _ _ _ _ _ (@Gp _ _ _ _ _ _ _ _ Ja (@Y3 _ _ _ _ _ _ _ Zy (pv 1) Zq (λ_ _=>rfl)) Zq) (@Zj _ _ _ _ _ (@Gp _ _ _ _ _ _ _ _ B7 (@Y3 _ _ _ _ _ _ _ Zy (pv 1) Zq (λ_ _=>rfl)) Zq) (@Zj _ _ _ _ _ Zq (@Zj _ _ _ _ _ (@Gp _ _ _ _ _ _ _ _ B7 Zq (@Y3 _ _ _ _ _ _ _ Zy (pv 1) Zq (λ_ _=>rfl))) Zx rfl) rfl) rfl) rfl)) (cF Zt hr (Zf (pv 0) (Zf Zq Zx))) (λ_ _=>rfl)) (qo Ja (qo Rg Zq Zq) Zq)) Zx rfl) rfl)))) Zl) (@Zd _ _ _ _ _ (@Uo _ _ _ _ _ _ _ _ (tQ Za (iX Zy (pv 1) Zq) Zk) (@Z2 _ _ _ (@Y6 _ _ _ _ (@Ys _ _ _ _ _ (@Zj _ _ _ _ _ Zk (@Zj _ _ _ _ _ (@V6 _ _ _ _ _ _ _ _ _ _ K9 (@Y3 _ _ _ _ _ _ _ Zh (@Z9 _ _ _ _ (@Zj _ _ _ _ _ (@Gp _ _ _ _ _ _ _ _ js (@Y3 _ _ _ _ _ _ _ Zy (pv 1) Zq (λ_ _=>rfl)) Zk) (@Zj _ _ _ _ _ (@V6 _ _ _ _ _ _ _ _ _ _ K9 (@Y3 _ _ _ _ _ _ _ Zy (pv 1) Zq (λ_ _=>rfl)) (@Jz _ _ _ Zq) (@Jx _)) (@Zj _ _ _ _ _ (@Gp _ _ _ _ _ _ _ _ Zxe (@Y3 _ _ _ _ _ _ _ Zy (pv 1) Zq (λ_ _=>rfl)) Zq) Zx rfl) rfl) rfl)) (cF Zt hr (Zf (pv 0) (Zf Zq Zx))) (λ_ _=>rfl)) (@Jx _) (@Jz _ _ _ Zq)) Zx rfl) rfl)))) Zl) (@Zd _ _ _ _ _ (@Uo _ _ _ _ _ _ _ _ (tQ Za (iX Zy (pv 1) Zq) Zk) (@Zd _ _ _ _ _ (@Uo _ _ _ _ _ _ _ _ (tQ Fs (pv 2) Zq) (@Z2 _ _ _ (@Y6 _ _ _ _ (@Ys _ _ _ _ _ (@Zj _ _ _ _ _ Zk (@Zj _ _ _ _ _ (@Y3 _ _ _ _ _ _ _ Zh (@Z9 _ _ _ _ (@V4 _ _ [1,2,9,50,999] rfl)) (cF Zt hr (Zf (pv 0) (Zf Zq Zx))) (λ_ _=>rfl)) (Zf (iX Zy (pv 1) Zq) Zx) rfl) rfl)))) Zl) (q1 (qr (qt (Zf Zk (Zf (iX Zy (pv 1) Zq) (Zf (cF V7 hr (Zf (pv 0) (Zf (iX Zy (pv 1) Zq) Zx))) Zx))))))) Zl) (qs (sI 3 Ul.nd (cT Bq m.list yd (Zf (iX Zy (pv 1) Zq) Zx))) (qs (qi (qp (qO (tQ Ng (pv 3) (ql Zx)) (qQ (tQ Za (pv 2) Zq)))) (q1 (qr (qt (Zf (iX Zy (pv 1) Zq) (Zf (cT Zr m.tuple Yd (Zf (qo jl (pv 3) (cF Je hr (Zf (pv 0) (Zf (iX Zy (pv 1) Zq) (Zf (pv 3) Zx))))) Zx)) Zx))))) Zl) (qs (sI 4 Ul.nd (cF Zt hr (Zf (pv 0) (Zf (cB Yl m.len Dz (Zf (pv 3) Zx)) Zx)))) (qs (qi (tQ Za (pv 2) Zq) (q1 (qr (qt (Zf (iX Zy (pv 1) Zq) (Zf (cT Zr m.tuple Yd (Zf (qo jl (@V6 _ _ _ _ _ _ _ _ _ _ T5 (pv 3) (@Jx _) (@Jz _ _ _ (pv 4))) (@V6 _ _ _ _ _ _ _ _ _ _ T5 (pv 3) (@Jz _ _ _ (qo Ja (pv 4) Zq)) (@Jx _))) Zx)) Zx))))) Zl) (qs (qi (tQ Za (iX Zy (pv 1) Zq) Zk) (q1 (Rv (cF V7 hr (Zf (pv 0) (Zf (iX Zh (pv 3) (pv 4)) Zx))) (@L0 _ _ _ _ _ _ _ (pv 3) (pv 4) set_list QO))) (q1 (Rv (qt (Zf (iX Zy (iX Zh (pv 3) (pv 4)) Zq) (Zf (cF V7 hr (Zf (pv 0) (Zf (iX Zy (iX Zh (pv 3) (pv 4)) Zq) Zx))) Zx))) (@L0 _ _ _ _ _ _ _ (pv 3) (pv 4) set_list QO)))) (q1 (qr (qt (Zf (iX Zy (pv 1) Zq) (Zf (cT Zr m.tuple Yd (Zf (pv 3) Zx)) Zx))))))))))))))),?_⟩
 have hu:=V8.units0 hr;have ib:IB 2=30:=rfl;have m2:MU 2=10600:=rfl;have pw:Zj9 10 18:=⟨by decide,by decide,by decide⟩;refine⟨_,rfl,l,8,r+(2*n+41),rfl,fe.m,by decide,by decide,λwy H1 w0 w8 t1=>?_⟩;have it2:∀{H2:Hp},Ye l (r+(2*n+41)) H H2->∀v u H3,Zg K H3 u v->GI 2 u->Ye l r H2 H3->Q v H3:=λt2 v u H3 iv gv t3=>q v u H3 iv (gv.w.m) (Vf gv.mu QU) (t2.trans t3);refine hide λ_ Z1=>?_;obtain⟨a0,r0,et⟩:=Zqa it;have oh:=Zg.up (K:=K) (t1.upT fe) _ _ iv;have iv2:=oh;rw[et]at iv2;obtain⟨b,bs,rfl,hb,y1,yr,rfl,j1,y2,yr2,rfl,j2,j3⟩:=iv2;cases Zc j1;refine Z1 ?_;refine⟨_,rfl,rfl,_,rfl,?_⟩;refine Vb (λc0=>Vi rfl ⟨_,rfl,l,r,rfl,t1.feed.m,λv u H3 iv gv t3=>it2 t1 v u H3 iv gv t3⟩) (λc0=>?_);refine⟨_,rfl,b,_,_,_,rfl,rfl,hb,Yw,(sz 2),λe2 h2=>?_⟩;have s2:=Zv.lay (o:=.tup [.str "whole",.str "text"]) h2;have t2:=t1.same s2;have Qw:=s2.up (K:=K) _ _ hb;have iv2:=Zg.up (K:=K) s2.upT _ _ oh;refine⟨e2,_,rfl,.inr (Zp.of Zz),rfl,rfl,_,rfl,?_⟩;generalize (upd H1 e2 (.tup [.str "whole",.str "text"]))=H2 at s2 t2 Qw iv2;generalize hW:U0 t=W at hb Qw ⊢;rcases Zyi it with ⟨i,rfl,i0,i1⟩ | ⟨x,rfl,tx⟩ | ⟨nb,u,rfl,n0,n1,iw⟩ | ⟨srt,ts,rfl,ms⟩
 .refine hide λ_ Yz=>?_;cases (show "whole"=W from hW);refine Yz ?_;cases et;refine hide λ_ Yq=>?_;cases Zc j2;refine Yq ?_;refine Vi QA ⟨_,rfl,_,_,rfl,rfl,_,rfl,?_⟩;refine Vb (λc1=>⟨_,rfl,l,r,rfl,t2.feed.m,λv u H3 iv gv t3=>it2 t2 v u H3 iv gv t3⟩) (λc1=>?_);refine⟨_,rfl,b,_,_,_,rfl,rfl,Qw,Yw,rfl,_,rfl,iY ?_⟩;refine⟨_,rfl,b,_,_,_,rfl,rfl,Qw,Vq,_,_,rfl,rfl,_,rfl,b,_,_,_,rfl,rfl,Qw,Vq,_,_,rfl,rfl,_,rfl,b,_,_,_,rfl,rfl,Qw,Vq,_,_,rfl,rfl,(sz 4),λL hL=>?_⟩;have s3:=Zv.lay (o:=.lst ([i+1,i-1,2,0-i].map V.int)) hL;have t3:=t2.same s3;refine⟨_,rfl,l,4,r,rfl,t3.feed.m,by decide,by decide,λx H4 x0 x1 t4=>?_⟩;refine hide λ_ Yy=>?_;obtain⟨k',mk,ek⟩:=Di [i+1,i-1,2,0-i] x0 x1;refine Yy ?_;have vy:(0:Int)<(10:Int) ^ (18:Int).toNat+1:=QI
  refine⟨L,_,_,_,rfl,rfl,Zu.of (t4.keep _ _ (t2.feed.ne hL) Zz),ek,_,_,rfl,rfl,pw,_,_,rfl,rfl,_,_,rfl,rfl,vy,(sz 2),λe he=>?_⟩;have e18':(10:Int) ^ (18:Int).toNat=Te:=e18;have m0:=Int.emod_nonneg k' (Int.ne_of_gt vy);have m1:=Int.emod_lt_of_pos k' vy;have al:(0:Int)<=Te:=QI
  refine q _ (.tup [.str "whole",.int (k' % ((10:Int) ^ (18:Int).toNat+1))]) _ ⟨e,_,rfl,Zp.of Zz,_,_,rfl,rfl,_,_,rfl,rfl,rfl⟩ (.whole _ QU (by rw[e18']at m1 ⊢;omega)) (by rw[D1,D1];omega) ((t3.trans t4).lay he)
 .refine hide λ_ Yg=>?_;cases (show "text"=W from hW);refine Yg ?_;cases et;refine hide λ_ Yc=>?_;cases Zc j2;refine Yc ?_;refine Vi QA ⟨_,rfl,_,_,rfl,rfl,_,rfl,?_⟩;refine Vb (λc1=>⟨_,rfl,l,r,rfl,t2.feed.m,λv u H3 iv gv t3=>it2 t2 v u H3 iv gv t3⟩) (λc1=>?_);refine⟨_,rfl,b,_,_,_,rfl,rfl,Qw,Yw,rfl,_,rfl,Z5 QA ⟨_,rfl,b,_,_,_,rfl,rfl,Qw,Yw,rfl,_,rfl,iY ?_⟩⟩;have xl:=tx.2;refine⟨_,rfl,b,_,_,_,rfl,rfl,Qw,Vq,_,_,rfl,rfl,?_,_,rfl,b,_,_,_,rfl,rfl,Qw,Vq,_,rfl,x,rfl,Vf xl QI,λz1 a1 a2 a3=>?_⟩
  .exact Vf (show x.length+1<=201 by omega) QI
  refine⟨_,rfl,b,_,_,_,rfl,rfl,Qw,Vq,x,2,rfl,rfl,by decide,by decide,by omega,λz2 b1 b2=>⟨(sz 3),λL hL=>?_⟩⟩;have s3:=Zv.lay (o:=.lst ([x++("a" : Str),z1,z2].map V.str)) hL;have t3:=t2.same s3;refine⟨_,rfl,l,3,r,rfl,t3.feed.m,by decide,by decide,λy H4 x0 x1 t4=>?_⟩;refine hide λ_ Yr=>?_;obtain⟨x',mx,ex⟩:=Pl [x++("a" : Str),z1,z2] x0 x1
  obtain⟨xc,xn⟩:(∀c∈x'.cps.toList,fg c)/\x'.length<=400:=by
   simp only[U8,V9,or_false]at mx;rcases mx with rfl | rfl | rfl
   .refine⟨λc mc=>?_,?_⟩
    .have mc:c∈(x.cps++("a" : Str).cps).toList:=mc;rw[Array.toList_append]at mc;rcases M6.mp mc with mc | mc
     .exact tx.1 c mc
     .exact(by decide +kernel:∀c∈("a" : Str).cps.toList,fg c) c mc
    .rw[strLen_append];exact Vf (show x.length+1<=400 by omega) (Yt _)
   .exact⟨λc mc=>tx.1 c (a3 c mc),by omega⟩
   .exact⟨λc mc=>tx.1 c (b2 c mc),by have:(2:Int).toNat=2:=rfl;rw[this]at b1;omega⟩
  refine Yr ?_;refine⟨L,_,_,_,rfl,rfl,Zu.of (t4.keep _ _ (t2.feed.ne hL) Zz),ex,_,rfl,x',rfl,Vf xn QI,λz c1' c2' c3'=>⟨(sz 2),λe he=>?_⟩⟩;have zl:z.length<=200:=c2' 200 rfl;exact q _ (.tup [.str "text",.str z]) _ ⟨e,_,rfl,Zp.of Zz,_,_,rfl,rfl,_,_,rfl,rfl,rfl⟩ (.text _ ⟨λc mc=>xc c (c3' c mc),zl⟩) (by rw[Ww,Ww];omega) ((t3.trans t4).lay he)
 .refine hide λ_ Yo=>?_;cases (show "arm"=W from hW);refine Yo ?_;cases et;refine hide λ_ Z1=>?_;cases Zc j2;obtain⟨y3,yr3,rfl,ju,jn⟩:=j3;cases Zc jn;refine Z1 ?_;have ju2:=Zg.up (K:=K) s2.upT _ _ ju;have mu:Y9 u<=Cn:=by rw[Gg]at hm;omega
  refine Z5 QA (Wn ⟨_,rfl,b,_,_,_,rfl,rfl,Qw,Yw,rfl,_,rfl,Z5 QA ⟨_,rfl,b,_,_,_,rfl,rfl,Qw,Yw,rfl,_,rfl,Z5 QA ⟨_,rfl,b,_,_,_,rfl,rfl,Qw,Yw,rfl,_,rfl,iY ?_⟩⟩⟩);refine⟨_,rfl,_,_,rfl,rfl,_,rfl,?_⟩;refine Vb (λc1=>?_) (λc1=>?_)
  .refine⟨(sz 5),λL hL=>?_⟩;have s3:=Zv.lay (o:=.lst ([1,2,9,50,999].map V.int)) hL;have t3:=t2.same s3;refine⟨_,rfl,l,5,r,rfl,t3.feed.m,by decide,by decide,λx H4 x0 x1 t4=>?_⟩;refine hide λ_ Yz=>?_;obtain⟨k',mk,ek⟩:=Di [1,2,9,50,999] x0 x1;refine Yz ?_;have bk:0<=k'/\k'<=1000:=(by decide:∀x∈([1,2,9,50,999]:ZC),0<=x/\x<=1000) k' mk;have u4:=s3.upT.trans (t4.upT (K:=K) t3.feed);refine⟨L,_,_,_,rfl,rfl,Zu.of (t4.keep _ _ (t2.feed.ne hL) Zz),ek,_,rfl,b,_,_,_,rfl,rfl,u4.tup _ _ Qw,at2,(sz 3),λe he=>?_⟩;exact q _ (.tup [.str "arm",.int k',u]) _ ⟨e,_,rfl,Zp.of Zz,_,_,rfl,rfl,_,_,rfl,rfl,_,_,rfl,Zg.up (u4.trans (Zv.lay he).upT) _ _ ju2,rfl⟩ (.arm _ _ bk.1 bk.2 (iw.m)) (by rw[Gg,Gg];omega) ((t3.trans t4).lay he)
  .refine⟨_,rfl,b,_,_,_,rfl,rfl,Qw,Vq,_,rfl,_,rfl,b,_,_,_,rfl,rfl,Qw,at2,l,y3,u,r,rfl,iw,mu,ju2,t2.feed.m,λv' u' H4 iv' iw' mu' t4=>⟨(sz 3),λe he=>?_⟩⟩;exact q _ (.tup [.str "arm",.int nb,u']) _ ⟨e,_,rfl,Zp.of Zz,_,_,rfl,rfl,_,_,rfl,rfl,_,_,rfl,Zg.up (Zv.lay he).upT _ _ iv',rfl⟩ (.arm _ _ n0 n1 iw') (by rw[Gg,Gg];omega) ((t2.trans t4).lay he)
 .have hW':srt=W:=hW;subst hW';cases et;refine hide λ_ Yq=>?_;obtain⟨ia,ix,rfl,Ln,aix⟩:=j2;have hia2:=s2.up (K:=K) _ _ Ln;have aix2:=Zw.up (K:=K) s2.upT _ _ aix;have hw:∀s∈(QF:ZF),A0 (.str s) [.str "whole",.str "text"]=false/\decide (V.str s=V.str "whole")=false/\decide (V.str s=V.str "text")=false/\decide (V.str s=V.str "arm")=false:=QA
  obtain⟨d1,d2,d3,d4⟩:=hw srt ms;refine Yq ?_;have lx:=aix.length;have mb:=P5 ms ts;rw[mb]at hm q
  have ll:ts.length<=100000:=by
   have z:=Tj (Zkd ms it);have e:Cn=13000000:=rfl;omega
  refine Z5 d1 (Wn ⟨_,rfl,b,_,_,_,rfl,rfl,Qw,Yw,rfl,_,rfl,Z5 d2 ⟨_,rfl,b,_,_,_,rfl,rfl,Qw,Yw,rfl,_,rfl,Z5 d3 ⟨_,rfl,b,_,_,_,rfl,rfl,Qw,Yw,rfl,_,rfl,Z5 d4 ?_⟩⟩⟩);refine⟨_,rfl,b,_,_,_,rfl,rfl,Qw,Vq,ia,ix,rfl,.inr hia2,λD hD=>?_⟩;have sD:=Zv.lay (o:=.lst ix) hD;have tD:=t2.same sD;have nD:D≠l:=t2.feed.ne hD;have hDf:H D=none:=t2.free hD;refine⟨_,rfl,(sz 0),λe3 h3=>?_⟩;have s3:=Zv.lay (o:=.lst []) h3;have t3:=tD.same s3;have Sl:=s3 _ _ (show (upd H2 D (.lst ix)) D=some (.lst ix) from Zz);have Zj3:=Zw.up (K:=K) (sD.trans s3).upT _ _ aix2;have hb3:=(sD.trans s3).up (K:=K) _ _ Qw;refine⟨D,e3,ix,rfl,rfl,Zu.of Sl,Zu.of Zz,hu,_,rfl,?_⟩;generalize upd (upd H2 D (.lst ix)) e3 (.lst [])=H3 at s3 t3 Sl Zj3 hb3
  have more:∀{H5:Hp} {us:List Th} {ws:ZZ} {p:Addr},H5 p=some (.lst ws)->Zw K H5 us ws->us.length<=21->Y0 us<=84100->Vm (n+3+1) (.tup [.str srt,.tup (ts++us)])->Ye l r H3 H5->∀p6,H5 p6=none->∀p7,(upd H5 p6 (.lst (ix++ws))) p7=none->∀e8,(upd (upd H5 p6 (.lst (ix++ws))) p7 (.tup (ix++ws))) e8=none->Q (.ref e8) (upd (upd (upd H5 p6 (.lst (ix++ws))) p7 (.tup (ix++ws))) e8 (.tup [.str srt,.ref p7])):=λ{H5 us ws p} h5 a5 ln mu iw t5 p6 h6 p7 h7 e8 h8=>by
   have s6:=Zv.lay (o:=.lst (ix++ws)) h6;have s7:=Zv.lay (o:=.tup (ix++ws)) h7;have s8:=Zv.lay (o:=.tup [.str srt,.ref p7]) h8;refine q _ (.tup [.str srt,.tup (ts++us)]) _ ⟨e8,_,rfl,Zp.of Zz,_,_,rfl,rfl,_,_,rfl,⟨p7,_,rfl,s8.up _ _ (Zp.of Zz),?_⟩,rfl⟩ iw (by rw[P5 ms,P6];omega) (((t3.trans t5).same s6).same (s7.trans s8));exact Zw.append (Zw.up ((t5.upT t3.feed).trans (s6.trans (s7.trans s8)).upT) _ _ Zj3) (Zw.up (s6.trans (s7.trans s8)).upT _ _ a5)
  have body:∀{H5:Hp} {us:List Th} {ws:ZZ},Zw K H5 us ws->us.length<=21->ix.length+ws.length<=sizeLine:=λa5 ln=>by
   rw[<-lx, <-a5.length];exact Vf (show _<=100021 by omega) QI
  cases hE:ix.isEmpty with
  | true =>
   refine Wc (Wc ⟨_,rfl,b,_,_,_,rfl,rfl,hb3,Yw,_,rfl,_,rfl,_,rfl,b,_,_,_,rfl,rfl,hb3,Yw,_,rfl,l,D,srt,ts,ix,r,n+3,rfl,Sl,nD,Zj3,t3.feed.m,ms,it.m,by omega,λp us ws H5 f5 h5 a5 ln mu iw t5=>?_⟩);exact⟨D,p,ix,ws,rfl,rfl,t5.keep _ _ nD Sl,h5,body a5 ln,λp6 h6=>⟨p6,_,rfl,.inl ⟨Zu.of Zz,λp7 h7=>⟨(sz 2),λe8 h8=>more h5 a5 ln mu iw t5 p6 h6 p7 h7 e8 h8⟩⟩⟩⟩
  | false =>
   refine Wn ⟨_,rfl,rfl,_,rfl,?_⟩;refine Vb (λc1=>?_) (λc1=>?_)
   .refine⟨_,rfl,b,_,_,_,rfl,rfl,hb3,Yw,_,rfl,_,rfl,_,rfl,b,_,_,_,rfl,rfl,hb3,Yw,_,rfl,l,D,srt,ts,ix,r,n+3,rfl,Sl,nD,Zj3,t3.feed.m,ms,it.m,by omega,λp us ws H5 f5 h5 a5 ln mu iw t5=>?_⟩;exact⟨D,p,ix,ws,rfl,rfl,t5.keep _ _ nD Sl,h5,body a5 ln,λp6 h6=>⟨p6,_,rfl,.inl ⟨Zu.of Zz,λp7 h7=>⟨(sz 2),λe8 h8=>more h5 a5 ln mu iw t5 p6 h6 p7 h7 e8 h8⟩⟩⟩⟩
   have ln0:0<ix.length:=by
    cases ix with
    | nil=>cases hE
    | cons _ _=>exact Nat.succ_pos _
   refine⟨_,rfl,_,rfl,D,_,rfl,.inl (Zu.of Sl),l,_,r+(2*n+40),rfl,t3.feed,by omega,by omega,λx H4 x0 x1 t4=>?_⟩;have iz:=t4.keep _ _ nD Sl;have u34:=t4.upT (K:=K) t3.feed;have hb4:=u34.tup _ _ hb3;have Zj2:=Zw.up u34 _ _ Zj3;have ot:=t3.trans t4;have hxn:x.toNat<ix.length:=QU
   refine hide λ_ Yy=>?_;obtain⟨xv,exv⟩:∃xv,ix[x.toNat]?=some xv:=⟨_,Bh hxn⟩
   have exI:Ll ix x=some xv:=by
    have z:=Vj exv;rw[show ((x.toNat:Nat):Int)=x by omega]at z;exact z
   obtain⟨t',et',iT⟩:=Zj2.got exv;refine Yy ?_;refine⟨_,rfl,rfl,_,rfl,?_⟩;refine Vb (λc2=>?_) (λc2=>?_)
   .refine⟨_,rfl,b,_,_,_,rfl,rfl,hb4,Yw,_,rfl,_,rfl,_,rfl,D,ix,rfl,Zu.of iz,λp5 h5=>?_⟩;have s5:=Zv.lay (o:=.lst (Jt ix none (some x))) h5;refine⟨_,rfl,_,rfl,_,_,rfl,rfl,_,rfl,D,ix,rfl,Zu.of (s5 _ _ iz),λp6 h6=>?_⟩;have s6:=Zv.lay (o:=.lst (Jt ix (some (x+1)) none)) h6;refine⟨p5,p6,_,_,rfl,rfl,s6 _ _ Zz,Zz,?_,λp7 h7=>⟨p7,_,rfl,.inl ⟨Zu.of Zz,λp8 h8=>⟨(sz 2),λe9 h9=>?_⟩⟩⟩⟩
    .exact Vf (Nat.add_le_add (Ms _ _ _) (Ms _ _ _)) (by rw[<-lx];exact Vf (show _<=200000 by omega) QI)
    have s7:=Zv.lay (o:=.lst (Jt ix none (some x)++Jt ix (some (x+1)) none)) h7;have s8:=Zv.lay (o:=.tup (Jt ix none (some x)++Jt ix (some (x+1)) none)) h8;have s9:=Zv.lay (o:=.tup [.str srt,.ref p8]) h9;have s59:=s5.trans (s6.trans (s7.trans (s8.trans s9)));refine q _ (.tup [.str srt,.tup (ts.take x.toNat++ts.drop (x.toNat+1))]) _ ⟨e9,_,rfl,Zp.of Zz,_,_,rfl,rfl,_,_,rfl,⟨p8,_,rfl,s9.up _ _ (Zp.of Zz),?_⟩,rfl⟩ ((it_del ms it).m) (by rw[P5 ms];have:=Zqy ts x.toNat;omega) ((ot.same s59).m);have a:=Zw.append (Zw.up s59.upT _ _ (zo x.toNat Zj2)) (Zw.up s59.upT _ _ (ze (x.toNat+1) Zj2));rw[<-cut_to ix x0 x1, <-ay ix x0 x1]at a;exact a
   by_cases cr:srt="row"
   .subst cr;have iu:=Wl it t' (Cr et');have mt:=Vo (Cr et');refine⟨_,rfl,b,_,_,_,rfl,rfl,hb4,Yw,rfl,_,rfl,iY ?_⟩;refine⟨_,rfl,_,rfl,_,rfl,D,_,_,_,rfl,rfl,Zu.of iz,exI,l,xv,t',r,rfl,iu,by omega,iT,t4.feed.m,λv' u' H5 iv' iw' mu' t5=>?_⟩;have hD5:=t5.keep _ _ nD iz;refine⟨_,rfl,_,rfl,D,ix,x,x.toNat,rfl,rfl,hD5,Zqs x0 x1,?_⟩;have uS:Ui K H5 (upd H5 D (.lst (ix.set x.toNat v'))):=Zi hD5;have u5:=(t5.upT (K:=K) t4.feed).trans uS;refine⟨_,rfl,b,_,_,_,rfl,rfl,u5.tup _ _ hb4,Yw,_,rfl,D,_,rfl,.inl ⟨Zu.of Zz,λp6 h6=>⟨(sz 2),λe7 h7=>?_⟩⟩⟩;have s6:=Zv.lay (o:=.tup (ix.set x.toNat v')) h6;have s7:=Zv.lay (o:=.tup [.str "row",.ref p6]) h7;refine q _ (.tup [.str "row",.tup (ts.set x.toNat u')]) _ ⟨e7,_,rfl,Zp.of Zz,_,_,rfl,rfl,_,_,rfl,⟨p6,_,rfl,s7.up _ _ (Zp.of Zz),Zw.up (s6.trans s7).upT _ _ (Ap (Zg.up uS _ _ iv') _ (Zw.up u5 _ _ Zj2))⟩,rfl⟩ (Zyo it QU iw') ?_ (((ot.trans t5).put hDf (fe.far hDf)).same (s6.trans s7));rw[P5 ms];have:=j9 (t':=u') et';omega
   .have ms2:srt∈(QH:ZF):=by
     simp only[U8,V9,or_false]at ms ⊢;rcases ms with z | z
     .exact absurd z cr
     .exact z
    refine hide λ_ Yg=>?_;obtain⟨pa',u,rfl,iu,mu⟩:=Zji ms2 it (Cr et');have mt:=Vo (Cr et');have hr':∀s∈(QH:ZF),decide (V.str s=V.str "row")=false:=QA
    obtain⟨c,cs,rfl,hc,ac⟩:=iT;obtain⟨c1,c2',rfl,k1,k2⟩:=U5 ac;refine Yg ?_;refine⟨_,rfl,b,_,_,_,rfl,rfl,hb4,Yw,rfl,_,rfl,Z5 (hr' srt ms2) ?_⟩;refine⟨_,rfl,_,rfl,D,_,_,_,rfl,rfl,Zu.of iz,exI,c,_,_,_,rfl,rfl,hc,Yw,_,rfl,_,rfl,_,rfl,D,_,_,_,rfl,rfl,Zu.of iz,exI,c,_,_,_,rfl,rfl,hc,Vq,l,c2',u,r,rfl,iu,by omega,k2,t4.feed.m,λv' u' H5 iv' iw' mu' t5=>⟨(sz 2),λe6 h6=>?_⟩⟩;have s6:=Zv.lay (o:=.tup [c1,v']) h6;have t46:=t5.same s6;have hD6:=s6 _ _ (t5.keep _ _ nD iz);refine⟨_,rfl,_,rfl,D,ix,x,x.toNat,rfl,rfl,hD6,Zqs x0 x1,?_⟩;have uS:Ui K (upd H5 e6 (.tup [c1,v'])) (upd (upd H5 e6 (.tup [c1,v'])) D (.lst (ix.set x.toNat (.ref e6)))):=Zi hD6;have u5:=(t46.upT (K:=K) t4.feed).trans uS;refine⟨_,rfl,b,_,_,_,rfl,rfl,u5.tup _ _ hb4,Yw,_,rfl,D,_,rfl,.inl ⟨Zu.of Zz,λp7 h7=>⟨(sz 2),λe8 h8=>?_⟩⟩⟩;have s7:=Zv.lay (o:=.tup (ix.set x.toNat (.ref e6))) h7;have s8:=Zv.lay (o:=.tup [.str srt,.ref p7]) h8;have iN:Zg K (upd H5 e6 (.tup [c1,v'])) (.tup [pa',u']) (.ref e6):=⟨e6,_,rfl,Zp.of Zz,_,_,rfl,Zg.up (t46.upT t4.feed) _ _ k1,_,_,rfl,Zg.up s6.upT _ _ iv',rfl⟩;refine q _ (.tup [.str srt,.tup (ts.set x.toNat (.tup [pa',u']))]) _ ⟨e8,_,rfl,Zp.of Zz,_,_,rfl,rfl,_,_,rfl,⟨p7,_,rfl,s8.up _ _ (Zp.of Zz),Zw.up (s7.trans s8).upT _ _ (Ap (Zg.up uS _ _ iN) _ (Zw.up u5 _ _ Zj2))⟩,rfl⟩ (Zya ms2 it et' QU iw') ?_ (((ot.trans t46).put hDf (fe.far hDf)).same (s7.trans s8));rw[P5 ms];have z:=j9 (t':=.tup [pa',u']) et';have z1:Y9 (.tup [pa',u])=600+(Y9 pa'+2+(Y9 u+2+0)):=rfl;have z2:Y9 (.tup [pa',u'])=600+(Y9 pa'+2+(Y9 u'+2+0)):=rfl;omega
theorem T6{Z:Type}{f:Nat->Z->Rs Th}{g:Z->Nat}{d:Nat}:∀{l:List Z} {i:Nat} {vs:List Th},(∀j a v,a∈l->j<i+l.length->f j a=.ok v->Gd (g a) d v)->Z7 f i l=.ok vs->(∀v∈vs,∃c,Gd c d v)/\(vs.map λt=>(Ei (oy t)).length).sum<=(l.map g).sum
 | [],_,_,_,h=>by cases h;exact⟨λv m=>absurd m V9,Yt _⟩
 | a::l,i,vs,hg,h=>by
  unfold Z7 at h;cases e:f i a with
  | bad p=>rw[e]at h;cases h
  | ok v =>
   rw[e]at h;cases e2:Z7 f (i+1) l with
   | bad p=>rw[e2]at h;cases h
   | ok ws =>
    rw[e2]at h;cases h;obtain⟨h1,h2⟩:=T6 (λj b v m hj=>hg j b v (Ck _ m) (by simp only[R1];omega)) e2;have gv:=hg i a v Br QE e;refine⟨λu m=>?_,?_⟩
    .rcases U8.mp m with rfl | m
     .exact⟨_,gv⟩
     .exact h1 u m
    .simp only[Mu,List.sum_cons];have:=gv.len;omega
theorem R7{Z:Type}{f:Nat->Z->Rs Th}:∀{l:List Z} {i:Nat} {p:List Th},Z7 f i l=.bad p->∃j a,a∈l/\i<=j/\j<i+l.length/\f j a=.bad p
 | [],_,_,h=>by cases h
 | a::l,i,p,h=>by
  unfold Z7 at h;cases e:f i a with
  | bad q=>rw[e]at h;cases h;exact⟨i,a,Br,Yt _,by simp,e⟩
  | ok v =>
   rw[e]at h;cases e2:Z7 f (i+1) l with
   | ok ws=>rw[e2]at h;cases h
   | bad q =>
    rw[e2]at h;cases h;obtain⟨j,b,m,h1,h2,h3⟩:=R7 e2;exact⟨j,b,Ck _ m,by omega,by simp only[R1];omega,h3⟩
theorem j8(l:List Th):(l.map Y9).sum+2*l.length=Y0 l:=by
 induction l with
 | nil=>rfl
 | cons t l ih=>simp only[Mu,List.sum_cons,R1,Y0];omega
theorem Qp{c d:Nat}{ts:List Th}(h:∀t∈ts,∃c',Gd c' d t){k:Nat}(hs:(ts.map λt=>(Ei (oy t)).length).sum<=k)(hc:k+2*ts.length+3<=c):Gd c (d+1) (.tup ts):=Oo (k:=0) h QU
theorem gd_len{d:Nat}{ts:List Th}(h:∀t∈ts,Gd (Y9 t) d t):(ts.map λt=>(Ei (oy t)).length).sum<=(ts.map Y9).sum:=by
 induction ts with
 | nil=>exact Yt _
 | cons t l ih =>
  have:=(h t Br).len;have:=ih λx m=>h x (Ck _ m);simp only[Mu,List.sum_cons];omega
noncomputable def S9(q:Th):Int:=ud (W4 q)
noncomputable def gF(ts:List Th)(f:Vk):Nat:=match Tg f.n ts with
 | some u=>Y9 u
 | none=>206
theorem bg(P:Th->Bool):∀ts:List Th,Y0 (ts.filter P)+Y0 (ts.filter λq=>!P q)=Y0 ts
 | []=>rfl
 | t::ts=>by
  have:=bg P ts;rw[List.filter_cons,List.filter_cons];cases P t<;>simp only[Bool.not_true,Bool.not_false,if_true,xp,if_false,Y0]<;>omega
theorem bw{P R:Th->Bool}:∀{ts:List Th},(∀t,P t=true->R t=false)->Y0 (ts.filter λq=>P q || R q)=Y0 (ts.filter P)+Y0 (ts.filter R)
 | [],_=>rfl
 | t::ts,h=>by
  have:=bw (ts:=ts) h;rw[List.filter_cons,List.filter_cons,List.filter_cons];cases hp:P t with
  | true=>rw[h t hp];simp only[Bool.or_false,if_true,xp,if_false,Y0];omega
  | false=>cases R t<;>simp only[Bool.or_false,Bool.or_true,if_true,xp,if_false,Y0]<;>omega
theorem gF_le{ts:List Th}(hu:∀q∈ts,Y9 (Gb q)<=Y9 q)(f:Vk):gF ts f<=206+Y0 (ts.filter λq=>decide (S9 q=f.n)):=by
 unfold gF Tg;cases e:ts.find? (λq=>decide (ud (W4 q)=f.n)) with
 | none=>exact Nat.le_add_right _ _
 | some q =>
  have mq:=List.mem_of_find?_eq_some e;have kq:=List.find?_some (p:=λq=>decide (ud (W4 q)=f.n)) e;have:=Vo (ts:=ts.filter λq=>decide (S9 q=f.n)) (List.mem_filter.mpr ⟨mq,kq⟩);have:=hu q mq;show Y9 (Gb q)<=_;omega
theorem Zjg{ts:List Th}(hu:∀q∈ts,Y9 (Gb q)<=Y9 q):∀{fs:List Vk},(fs.map Vk.n).Nodup->(fs.map (gF ts)).sum<=206*fs.length+Y0 (ts.filter λq=>decide (S9 q∈fs.map Vk.n))
 | [],_=>Dc _
 | f::fs,nd=>by
  rw[Mu,List.nodup_cons]at nd;have ih:=Zjg hu nd.2;have h1:=gF_le hu f
  have e:(ts.filter λq=>decide (S9 q∈(f::fs).map Vk.n))=ts.filter λq=>decide (S9 q=f.n) || decide (S9 q∈fs.map Vk.n):=by
   congr 1;funext q
   rw[Mu, <-Bool.decide_or];exact decide_eq_decide.mpr U8
  have h2:=bw (ts:=ts) (P:=λq=>decide (S9 q=f.n)) (R:=λq=>decide (S9 q∈fs.map Vk.n)) λt z=>F9 λy=>nd.1 (Sh z ▸ y);rw[e,h2];simp only[Mu,List.sum_cons,R1];omega
theorem Zv7(fs:List Vk)(ts:List Th):N2 fs ts=ts.filter λq=>!decide (S9 q∈fs.map Vk.n):=by
 unfold N2
 congr 1;funext q
 rw[X4,N8];rfl
theorem pv_mu{s:Yn}{d:Th}(h:Pv s d):Gd 206 1 d:=by
 cases s with
 | whole lo hi =>
  cases d with
  | int i=>exact(Tt h.1 h.2).mono QI QI
  | _=>exact h.elim
 | truth =>
  cases d with
  | bl b=>exact(dy b).mono QI QI
  | _=>exact h.elim
 | text k =>
  cases d with
  | str z =>
   have h:Cm z:=h;exact(Wi h).mono (by have:=h.2;omega) QI
  | _=>exact h.elim
 | row b y k =>
  cases d with
  | tup ts =>
   cases ts with
   | nil=>exact(N9 (c:=0) (d:=0) (n:=0) (ts:=[]) (λt m=>absurd m V9) (Yt _)).mono QI QI
   | cons _ _=>exact h.elim
  | _=>exact h.elim
 | rcd _ _=>cases d<;>exact h.elim
 | cho _ _ _=>cases d<;>exact h.elim
def RGd(n:Nat)(t:Th)(p:List Th):Rs Th->Prop
 | .ok v=>Gd (Y9 t) (3*n+1) v
 | .bad q=>q.length<=p.length+n/\∀s∈q,Gd 60 1 s
theorem Zjw{w:Str}{t:Th}(m:w∈yu)(h:Gd 25 0 t):Gd 60 1 (Y8 w t):=by
 have l:∀x∈yu,x.length<=5:=QA
 exact(gd2 (Wi (T2 w m)) h).mono (by have:=l w m;omega) (Yt _)
theorem Ac{n:Nat}{p q:List Th}{w:Str}{a:Th}(m:w∈yu)(h:Gd 25 0 a)(hp:∀s∈p,Gd 60 1 s)(g:(∀s∈p++[Y8 w a],Gd 60 1 s)->q.length<=(p++[Y8 w a]).length+n/\∀s∈q,Gd 60 1 s):q.length<=p.length+(n+1)/\∀s∈q,Gd 60 1 s:=by
 obtain⟨h1,h2⟩:=g λs ms=>by
  rcases M6.mp ms with ms | ms
  .exact hp s ms
  .rw[Nw.mp ms];exact Zjw m h
 rw[Nl,ZU]at h1;exact⟨by omega,h2⟩
theorem dw{k:Int}(h0:0<=k)(h1:k<=100000):Gd 25 0 (.int k):=by
 have a:(0:Int)<=Te:=QI
 have b:(100000:Int)<=Te:=QI
 exact Tt QU QU
theorem Zyg:∀k∈Fb,0<=k/\k<=100000:=by decide
theorem Zk9{ms:List (Str×Yn)}(mo:Nd ms):∀{n:Nat} {x:Str} {t:Th} {p:List Th},Vm n t->Y9 t<=Cn->(∀s∈p,Gd 60 1 s)->RGd n t p (Jd ms n x t p)
 | 0,_,_,_,it,_,_=>nomatch it
 | n+1,x,t,p,it,hm,hp=>by
  have bad0:RGd (n+1) t p (.bad p):=⟨by omega,hp⟩;cases es:Jc ms x with
  | none =>
   have e:Jd ms (n+1) x t p=.bad p:=by
    show (match Jc ms x with
     | none=>Rs.bad p
     | some s=>if Mx s t=true then rdS (Jd ms n) s t p else .bad p)=_
    rw[es]
   rw[e];exact bad0
  | some sh =>
   rw[Li es];have sk:=mo.ok x sh es;by_cases c:Mx sh t=true
   .rw[if_pos c];have wd:=kc c;have ih:∀{y:Str} {u:Th} {p':List Th},Vm n u->Y9 u<=Cn->(∀s∈p',Gd 60 1 s)->RGd n u p' (Jd ms n y u p'):=λa b c=>Zk9 mo a b c
    have step:∀{w:Str} {a:Th},w∈yu->Gd 25 0 a->∀s∈p++[Y8 w a],Gd 60 1 s:=λm h s ms=>by
     rcases M6.mp ms with ms | ms
     .exact hp s ms
     .rw[Nw.mp ms];exact Zjw m h
    cases sh with
    | whole lo hi =>
     obtain⟨i,rfl,i0,i1⟩:=Ge it wd;exact(Tt i0 i1).mono (by rw[D1];decide) (Dc _)
    | truth =>
     obtain⟨i,rfl,_⟩:=Ge it wd;exact(dy _).mono (by rw[D1];decide) (Dc _)
    | text k =>
     obtain⟨z,rfl,tx⟩:=Qs it wd;exact(Wi tx).mono (by rw[Ww];omega) (Dc _)
    | row b y k =>
     cases b with
     | true =>
      obtain⟨l,rfl,iw⟩:=Oj it wd;have ll:=Hv iw hm;have hml:∀u∈l,Y9 u<=Cn:=λu mu=>by have:=Vo mu;rw[Tz]at hm;omega
      show RGd (n+1) _ p (mapR Th.tup (Z7 (Aw ms n y p) 0 l));cases er:Z7 (Aw ms n y p) 0 l with
      | ok vs =>
       obtain⟨h1,h2⟩:=T6 (g:=Y9) (d:=3*n+1) (λj u v mu hj e=>by
        have z:=ih (y:=y) (u:=u) (p':=p++[Y8 "at" (.int (j:Int))]) (iw u mu) (hml u mu) (step QA (dw QU QU));rw[show Jd ms n y u (p++[Y8 "at" (.int (j:Int))])=.ok v from e]at z;exact z) er
       have lv:=Us er;exact(Qp h1 h2 (by rw[Tz, <-j8 l,lv];omega:_<=Y9 (.tup [.str "row",.tup l]))).mono (Yt _) QU
      | bad q =>
       obtain⟨j,u,mu,j0,j1,e⟩:=R7 er;refine Ac (w:="at") (a:=.int (j:Int)) (n:=n) QA (dw QU QU) hp λh=>?_;have z:=ih (y:=y) (iw u mu) (hml u mu) h;rw[show Jd ms n y u (p++[Y8 "at" (.int (j:Int))])=.bad q from e]at z;exact z
     | false =>
      obtain⟨l,rfl,kw,iw⟩:=Ow it wd;have hml:∀q∈l,Y9 q.2<=Cn:=λq mq=>by have:=Vo (List.mem_map_of_mem (f:=R8) mq);rw[M3]at this;rw[Tq]at hm;omega
      have kg:∀q∈l,Gd 25 0 (.str q.1):=λq mq=>(Wi (kw q mq).1).mono (by have:=(kw q mq).2;omega) (Yt _);show RGd (n+1) _ p (mapR Th.tup (Z7 (yz ms n y p) 0 (l.map R8)));cases er:Z7 (yz ms n y p) 0 (l.map R8) with
      | ok vs =>
       obtain⟨h1,h2⟩:=T6 (g:=Y9) (d:=3*n+2) (λj u v mu hj e=>by
        obtain⟨q,mq,rfl⟩:=G3.mp mu;have z:=ih (y:=y) (u:=q.2) (iw q mq) (hml q mq) (step (w:="key") (a:=.str q.1) QA (kg q mq));have e:mapR (λv=>Th.tup [.str q.1,v]) (Jd ms n y q.2 (p++[Y8 "key" (.str q.1)]))=.ok v:=e;cases ew:Jd ms n y q.2 (p++[Y8 "key" (.str q.1)]) with
        | bad _=>rw[ew]at e;cases e
        | ok w' =>
         rw[ew]at e z;cases e;exact(gd2 ((kg q mq).mono (Yt _) (Dc _)) z).mono (by rw[M3];omega) (Yt _)) er
       have lv:=Us er;exact(Qp h1 h2 (by rw[Tq, <-j8 (l.map R8),lv];omega:_<=Y9 (.tup [.str "map",.tup (l.map R8)]))).mono (Yt _) QU
      | bad q =>
       obtain⟨j,u,mu,j0,j1,e⟩:=R7 er;obtain⟨q0,mq,rfl⟩:=G3.mp mu;refine Ac (w:="key") (a:=.str q0.1) (n:=n) QA (kg q0 mq) hp λh=>?_;have z:=ih (y:=y) (iw q0 mq) (hml q0 mq) h;have e:mapR (λv=>Th.tup [.str q0.1,v]) (Jd ms n y q0.2 (p++[Y8 "key" (.str q0.1)]))=.bad q:=e;cases ew:Jd ms n y q0.2 (p++[Y8 "key" (.str q0.1)]) with
       | ok _=>rw[ew]at e;cases e
       | bad q'=>rw[ew]at e z;cases e;exact z
    | rcd fs us =>
     obtain⟨l,rfl,kb,sl,iw⟩:=Hr it wd;have sk:V0 ms fs:=sk;have nd:(fs.map Vk.n).Nodup:=List.Nodup.sublist sk.nums QI;have hml:∀q∈l,Y9 q.2<=Cn:=λq mq=>by have:=Vo (List.mem_map_of_mem (f:=U2) mq);rw[D6]at this;rw[Tx]at hm;omega
     have nk:∀fl∈fs,Gd 25 0 (.int fl.n):=λfl mf=>have z:=Zyg _ (sk.nums.subset (List.mem_map_of_mem mf));dw z.1 z.2
     have lk:∀{k u},Tg k (l.map U2)=some u->∃q∈l,u=q.2:=λ{k u} e=>by
      rw[wa]at e;obtain⟨q,eq,rfl⟩:=Cy.mp e;exact⟨q,List.mem_of_find?_eq_some eq,rfl⟩
     show RGd (n+1) _ p (mapR (λvs=>.tup [.tup vs,.tup (N2 fs (l.map U2))]) (Z7 (λ_ f=>Jp (Jd ms n) p (l.map U2) f) 0 fs));cases er:Z7 (λ_ f=>Jp (Jd ms n) p (l.map U2) f) 0 fs with
     | ok vs =>
      obtain⟨h1,h2⟩:=T6 (g:=gF (l.map U2)) (d:=3*n+1) (λj fl v mf hj e=>by
       unfold gF;cases el:Tg fl.n (l.map U2) with
       | some u =>
        rw[Qd el]at e;obtain⟨q,mq,rfl⟩:=lk el;have z:=ih (y:=fl.y) (u:=q.2) (iw q mq) (hml q mq) (step (w:="field") (a:=.int fl.n) QA (nk fl mf));rw[e]at z;exact z
       | none =>
        cases ed:fl.d with
        | none=>rw[Qc el ed]at e;cases e
        | some d =>
         rw[Qt el ed]at e;cases e;obtain⟨s,_,pv⟩:=sk.d fl mf _ ed;exact(pv_mu pv).mono (Yt _) QU) er
      have lv:=Us er;have l5:=sk.len;have gs:=Zjg (ts:=l.map U2) (λq mq=>by obtain⟨z,mz,rfl⟩:=G3.mp mq;rw[D6];show Y9 z.2<=_;omega) nd;have pt:=bg (λq=>decide (S9 q∈fs.map Vk.n)) (l.map U2);rw[<-Zv7]at pt;have g1:=Qp h1 h2 (Yt _)
      have go:∀q∈N2 fs (l.map U2),Gd (Y9 q) (3*n+1) q:=λq mq=>by
       obtain⟨z,mz,rfl⟩:=G3.mp (List.mem_filter.mp mq).1;exact F4 (Zjv (kb z mz).1 (kb z mz).2) ((iw z mz).gd)
      have g2:=Qp (λq mq=>⟨_,go q mq⟩) (gd_len go) (Yt _);have mo':=j8 (N2 fs (l.map U2));refine(gd2 g1 g2).mono ?_ QU;rw[Tx,lv];omega
     | bad q =>
      obtain⟨j,fl,mf,j0,j1,e⟩:=R7 er;have e:Jp (Jd ms n) p (l.map U2) fl=.bad q:=e;refine Ac (w:="field") (a:=.int fl.n) (n:=n) QA (nk fl mf) hp λh=>?_;cases el:Tg fl.n (l.map U2) with
      | some u =>
       rw[Qd el]at e;obtain⟨q0,mq,rfl⟩:=lk el;have z:=ih (y:=fl.y) (iw q0 mq) (hml q0 mq) h;rw[e]at z;exact z
      | none =>
       cases ed:fl.d with
       | none=>rw[Qc el ed]at e;cases e;exact⟨by omega,h⟩
       | some d=>rw[Qt el ed]at e;cases e
    | cho fs us o =>
     obtain⟨k,u,rfl,k0,k1,iw⟩:=Hh it wd;have mu:Y9 u<=Cn:=by rw[Gg]at hm;omega
     have gk:Gd 25 0 (.int k):=dw k0 QU
     show RGd (n+1) _ p (match J0 fs k with
      | none=>.ok (.tup [.str "other",.int k,u])
      | some g=>mapR (λv=>.tup [.str "arm",.int k,v]) (Jd ms n g.y u (p++[Y8 "arm" (.int k)])))
     cases ef:J0 fs k with
     | none=>exact(gd3 (d:=3*n) ((Wi (T2 "other" QA)).mono (show _<=7 by decide +kernel) (Dc _)) (gk.mono (Yt _) (Dc _)) iw.gd).mono (by rw[Gg];omega) QU
     | some g =>
      show RGd (n+1) _ p (mapR (λv=>.tup [.str "arm",.int k,v]) (Jd ms n g.y u (p++[Y8 "arm" (.int k)])));cases ew:Jd ms n g.y u (p++[Y8 "arm" (.int k)]) with
      | ok w' =>
       have z:=ih (y:=g.y) iw mu (step (w:="arm") (a:=.int k) QA gk);rw[ew]at z;exact(gd3 (d:=3*n+1) ((Wi (T2 "arm" QA)).mono (show _<=5 by decide +kernel) (Dc _)) (gk.mono (Yt _) (Dc _)) z).mono (by rw[Gg];omega) QU
      | bad q =>
       refine Ac (w:="arm") (a:=.int k) (n:=n) QA gk hp λh=>?_;have z:=ih (y:=g.y) iw mu h;rw[ew]at z;exact z
   .rw[if_neg c];exact bad0
abbrev Rx:Stmt:=top 46
noncomputable abbrev ya:ZF:=["_law_make_here","_law_name","_law_item_here","_law_told_here","e","_law_others"]
theorem Jv:Ze ya XB (Zb Rx):=by trivial
abbrev B0:Stmt:=top 47
noncomputable abbrev xj:ZF:=XB
theorem Hx:Ze xj XB (Zb B0):=by trivial
structure Exs(K:W.Frag)(M C c9:Addr)(ds es:ZH):Prop where
 xm:Mb K M
 xc:Mb K C
 mro:W.mroIn K C (.ref M)=some true
 self:W.kitOne K (.ref C) (.ref C)=some true
 ve:W.kitOne K (.ref C) (.type "ValueError")=some true
 nv:W.kitOne K (.ref C) (.ref c9)=some false
 any1:W.kitAny K (.ref C) (ds.map Value.ref)=some false
 any2:W.kitAny K (.ref C) (es.map Value.ref)=some false
 no:Rh K C "path"
inductive Zzi(K:W.Frag)(n:Nat)(vs:ZZ)(H:Hp)(Q:VK):Prop
 | mk(e S:Addr)(ms:List (Str×Yn))(x:Str)(t:Th)(v:V)(Vx:vs=[.ref e,.str x,v])(Vz:M5 K H e S ms)(Vp:Nd ms)(Jn:(Jc ms x).isSome=true)(Mf:Vm n t)(Co:Y9 t<=Cn)(Xo:Zg K H t v)(h7_:n<=100)(h8_:LO K H Q (Jd ms n x t []))
def qg(K:W.Frag)(n:Nat):Sp:=λvs H Q _=>Zzi K n vs H Q
inductive rq(K:W.Frag)(n:Nat)(vs:ZZ)(H:Hp)(Q:VK):Prop
 | mk(e S:Addr)(ms:List (Str×Yn))(x:Str)(t:Th)(v:V)(Vx:vs=[.ref e,.str x,v])(Vz:M5 K H e S ms)(Vp:Nd ms)(Jn:(Jc ms x).isSome=true)(Mf:Vm n t)(Co:Y9 t<=Cn)(Xo:Zg K H t v)(h7_:n<=20)(h8_:∀H',Zv H H'->Q (.bl true) H')
def K3(K:W.Frag)(n:Nat):Sp:=λvs H Q _=>rq K n vs H Q
def wTold(K:W.Frag)(H:Hp)(e CB:Addr)(x:Str)(v:V)(r:Rs Th):Au:=λj H' _ C' od=>(∃t0,j=[some (.ref e),some (.str x),some v,some t0,none,none])/\Zv H H'/\C'=CB/\∃q d y,r=.bad q/\od=some d/\H' d=some (DHO d [("path",y)])/\Zg K H' (.tup q) y
section
variable{P:Program}{w:World}{K:W.Frag}{mg:G6}{base:Heap}{f:Addr}{fd:FuncData}{M C c1 c2 c3 c4 c5 c6 c7 c8 c9:Addr}
theorem Zyq{k n:Nat}(F:Fu K "_law_told" Rx f fd)(m:Bn mg)(X:Exs K M C c9 [c1,c2,c3,c4] [c5,c6,c7,c8])(g_read:oz P w K mg base k "read" QG (qf K C n))
  (A4:mg "MakeError"=some (.ref M)) (Uc:mg "BadItem"=some (.ref C)) (n8:mg "BadByte"=some (.ref c1)) (ni:mg "BadDeed"=some (.ref c2)) (nu:mg "BadText"=some (.ref c3))
  (Zzf:mg "NoFile"=some (.ref c4)) (Zzg:mg "NoMove"=some (.ref c5)) (nh:mg "NoPlace"=some (.ref c6)) (Zwc:mg "NoRow"=some (.ref c7)) (nr:mg "NoTable"=some (.ref c8)) (ng:mg "NoValue"=some (.ref c9)) :
  Yk P w K mg base Mm (k+1) f fd XB (qg K n):=by
 have xc_MakeError:=X.xm;have mv:=m.verr;refine F.ok Jv (λvs H Q E h=>?_) λ_ A _ s H vs Q E hr h=>?_
 .obtain⟨e,S,ms,x,t,v,rfl,_⟩:=h
  rfl
 obtain⟨e0,S,ms,x,t,v,rfl,mk,mo,hx,it,hm,iv,hn,lo⟩:=h
 let W:Au:=wTold K H e0 C x v (Jd ms n x t [])
 refine⟨_,(@Zd _ _ _ _ _ (sI 3 Jv.nd (qt (Zf Zk (Zf Pr Zx)))) (@Zd _ _ _ _ _ (@Zvp _ W 4 _ _ _ _ _ _ _ _ _ _ _ (λpn=>(q1 (sI 3 Jv.nd (qt (Zf Zk (Zf (@Ga _ _ _ _ _ _ _ _ _ _ _ g_read xw_tx (hr.m) rfl (Zf (pv 0) (Zf (pv 1) (Zf (pv 2) Zx))) QI rfl rfl) Zx)))))) (λe=>(@Zd _ _ _ _ _ (@N0 _ 5 _ _ _ _ _ Jv.nd rfl QO (@Z9 _ _ _ _ (@Zj _ _ _ _ _ (@Nk _ _ _ _ _ _ _ _ _ Sq rfl m.isinstance J3 (@Zj _ _ _ _ _ (pv 4) (@Zj _ _ _ _ _ (@Ys _ _ _ _ _ (@Zj _ _ _ _ _ (@Ub _ _ _ _ rfl n8 QI) (@Zj _ _ _ _ _ (@Ub _ _ _ _ rfl ni QI) (@Zj _ _ _ _ _ (@Ub _ _ _ _ rfl nu QI) (@Zj _ _ _ _ _ (@Ub _ _ _ _ rfl Zzf QI) Zx rfl) rfl) rfl) rfl)) Zx rfl) rfl) QI QI rfl rfl) (@Zj _ _ _ _ _ (@Nk _ _ _ _ _ _ _ _ _ Sq rfl m.isinstance J3 (@Zj _ _ _ _ _ (pv 4) (@Zj _ _ _ _ _ (@Ys _ _ _ _ _ (@Zj _ _ _ _ _ (@Ub _ _ _ _ rfl Zzg QI) (@Zj _ _ _ _ _ (@Ub _ _ _ _ rfl nh QI) (@Zj _ _ _ _ _ (@Ub _ _ _ _ rfl Zwc QI) (@Zj _ _ _ _ _ (@Ub _ _ _ _ rfl nr QI) Zx rfl) rfl) rfl) rfl)) Zx rfl) rfl) QI QI rfl rfl) Zx rfl) rfl)) rfl QO) (q1 (qi (qp (@pw_and _ _ _ _ _ _ _ (B4 (cB Kc m.isinstance J3 (Zf (pv 4) (Zf (@Ub _ _ _ _ rfl Uc QI) Zx))) (by intro _;rfl)) (@pw_and _ _ _ _ _ _ _ (B4 (cB yk m.isinstance J3 (Zf (pv 4) (Zf (Zxp rfl mv As QI QI) Zx))) (by intro _;rfl)) (@pw_and _ _ _ _ _ _ _ (qn (B4 (cB Kc m.isinstance J3 (Zf (pv 4) (Zf (@Ub _ _ _ _ rfl ng QI) Zx))) (by intro _;rfl))) (@pw_and1 _ _ _ _ (Uw Ua fu (pv 5) rfl)))))) (q1 (sI 3 Jv.nd (qt (Zf Zk (Zf (@Zv1 _ _ _ _ _ (pv 4) rfl) Zx))))) Zl)))) rfl rfl rfl A4 xc_MakeError xc_MakeError.here Jv.nd rfl rfl QI) (q1 (qr (pv 3))))),?_⟩;refine⟨(sz 2),λt0 ht0=>?_⟩;have s0:=Zv.lay (o:=.tup [.str "other",.non]) ht0;refine⟨λpn=>?_,?_⟩
 .refine⟨_,rfl,_,rfl,_,rfl,e0,S,ms,x,t,v,rfl,mk.up s0.upT,mo,hx,it,hm,Zg.up s0.upT _ _ iv,hn,?_⟩;cases er:Jd ms n x t []with
  | ok u =>
   refineλv' H2 s2 i2=>⟨(sz 2),λt1 ht1=>⟨_,rfl,?_⟩⟩;rw[er]at lo;exact lo _ _ (s0.trans (s2.trans (Zv.lay ht1))) (Lh i2 ht1)
  | bad q =>
   refineλd y H' s' hd iy a' C' ec _=>?_;cases ec;exact⟨⟨_,rfl⟩,s0.trans s',rfl,q,d,y,er,rfl,hd,iy⟩
 .intro σ' H1 e C' od ee Ot;refine hide λ_ Z1=>?_;obtain⟨⟨t0',rfl⟩,s1,rfl,q,d,y,er,rfl,hd,iy⟩:=Ot;refine Z1 ?_;have ix:∀{H2:Hp},Zv H1 H2->IsX H2 e C':=λs2=>⟨some d,false,s2 _ _ ee,λd' e'=>by cases e';exact⟨_,s2 _ _ hd⟩⟩;refine⟨X.mro,?_⟩;refine⟨_,rfl,(sz 4),λt1 ht1=>?_⟩;have u1:=Zv.lay (o:=.tup (([c1,c2,c3,c4]:ZH).map V.ref)) ht1;refine⟨e,C',t1,[c1,c2,c3,c4],false,rfl,Zz,ix u1,X.xc,X.any1,?_⟩;refine⟨_,rfl,(sz 4),λt2 ht2=>?_⟩;have u2:=Zv.lay (o:=.tup (([c5,c6,c7,c8]:ZH).map V.ref)) ht2;refine⟨e,C',t2,[c5,c6,c7,c8],false,rfl,Zz,ix (u1.trans u2),X.xc,X.any2,(sz 2),λL hL=>?_⟩;have u3:=Zv.lay (o:=.lst [.bl false,.bl false]) hL;have u13:=u1.trans (u2.trans u3);refine⟨_,rfl,e,C',C',true,rfl,ix u13,X.xc,X.self,true,rfl,Wc ?_⟩;refine⟨_,rfl,e,C',"ValueError",true,rfl,ix u13,X.xc,X.ve,true,rfl,Wc ?_⟩;refine⟨_,rfl,e,C',c9,false,rfl,ix u13,X.xc,X.nv,false,rfl,Wc ?_⟩;refine⟨_,rfl,L,_,rfl,.inl (Zu.of Zz),rfl,rfl,_,rfl,iY ?_⟩;refine⟨_,rfl,e,C',d,false,_,y,rfl,u13 _ _ ee,u13 _ _ hd,X.xc,X.no,rfl,(sz 2),λt4 ht4=>⟨_,rfl,?_⟩⟩;rw[er]at lo;exact lo _ _ (s1.trans (u13.trans (Zv.lay ht4))) (ym (Zg.up u13.upT _ _ iy) ht4)
theorem r9{ms:List (Str×Yn)}(mo:Nd ms){n:Nat}{x:Str}{t:Th}(it:Vm n t)(hm:Y9 t<=Cn)(hn:n<=20):∃ts c d,resT (Jd ms n x t [])=.tup ts/\Gd c d (.tup ts)/\c<=sizeLine/\d<=100:=by
 have z:=Zk9 mo (x:=x) (p:=[]) it hm λs ms=>absurd ms V9;have e:Cn=13000000:=rfl;have es:sizeLine=16777216:=rfl;cases er:Jd ms n x t []with
 | ok v =>
  rw[er]at z;exact⟨_,_,_,rfl,gd2 ((Wi (T2 "value" QA)).mono (show _<=7 by decide +kernel) (Dc _)) z,by omega,by omega⟩
 | bad q =>
  rw[er]at z;have z:q.length<=0+n/\∀s∈q,Gd 60 1 s:=z;have g:=N9 (n:=20) z.2 QU;exact⟨_,_,_,rfl,gd2 ((Wi (T2 "bad" QA)).mono (show _<=7 by decide +kernel) (Dc _)) g,by omega,by omega⟩
theorem Zx5{k n:Nat}(F:Fu K "_law_right" B0 f fd)(m:Bn mg)(vo:Fn P w K mg base k "_law_told" XB (qg K n))(Jw:Fn P w K mg base k "_law_read" XF (Iy K n)):Yk P w K mg base Mm (k+1) f fd XB (K3 K n):=by
 refine F.ok Hx (λvs H Q E h=>?_) λ_ A _ s H vs Q E hr h=>?_
 .obtain⟨e,S,ms,x,t,v,rfl,_⟩:=h
  rfl
 obtain⟨e,S,ms,x,t,v,rfl,mk,mo,hx,it,hm,iv,hn,q⟩:=h;obtain⟨ts,c,d,er,g,hc,hd⟩:=r9 mo (x:=x) it hm hn;refine⟨_,(@Z2 _ _ _ (qr (eQ Za (cB (Bx hr) m.repr An (Zf (cF vo hr (Zf (pv 0) (Zf (pv 1) (Zf (pv 2) Zx)))) Zx)) (cB (Bx hr) m.repr An (Zf (cF Jw hr (Zf (pv 0) (Zf (pv 1) (Zf (pv 2) (Zf (qt Zx) Zx))))) Zx))))),?_⟩;have su:=g.shown hc hd;refine⟨_,rfl,_,rfl,_,rfl,e,S,ms,x,t,v,rfl,mk,mo,hx,it,hm,iv,by omega,λv1 H1 s1 i1=>?_⟩;rw[er]at i1;refine⟨_,Dl ts,rfl,Og (.tup ts) _ g.nq i1,su.1,su.2.1,su.2.2,?_⟩;refine⟨_,rfl,_,rfl,_,rfl,(sz 0),λe0 h0=>?_⟩;have s2:=Zv.lay (o:=.tup []) h0;have Ni:=s1.trans s2;refine⟨e,S,ms,x,t,[],v,.ref e0,rfl,mk.up Ni.upT,mo,hx,it,hm,Zg.up Ni.upT _ _ iv,⟨e0,[],rfl,Zp.of Zz,rfl⟩,by simp;omega,λv2 H2 s3 i2=>?_⟩;rw[er]at i2;refine⟨_,Dl ts,rfl,Og (.tup ts) _ g.nq i2,su.1,su.2.1,su.2.2,rfl,?_⟩;rw[Sd rfl];exact q _ (Ni.trans s3)
end
theorem Zzm{K:W.Frag}{H:Hp}{S:Addr}{XQ:List (Key×V)}{o:HO}(h:H S=some (.dK XQ)):Up K H (upd H S o):=by
 have ne:∀{x:Addr} {o:HO},H x=some o->(∀k,o≠.dK k)->x≠S:=λe n z=>by
  rw[z,h]at e;cases e;exact n _ rfl
 intro c xs q;rcases q with (q | ⟨o,q⟩) | q
 .exact .inl (.inl (by rw[Zm (ne q λ_ z=>nomatch z)];exact q))
 .exact .inl (.inr ⟨o,by rw[Zm (ne q λ_ z=>nomatch z)];exact q⟩)
 .exact .inr q
theorem VW.any{W W':Str->Th->Th->Prop}(h:∀x u w,W x u w->W' x u w){s:Yn}{u w:Th}(v:VW W true s u w):VW W' false s u w:=by
 cases s with
 | whole _ _=>exact v
 | truth=>exact v
 | text _=>exact v
 | row b y k =>
  cases b with
  | true =>
   obtain⟨l,l3,hl,e1,e2⟩:=v;exact⟨l,l3,λe m=>⟨(hl e m).1,h _ _ _ (hl e m).2⟩,e1,e2⟩
  | false =>
   obtain⟨l,l3,hl,e1,e2⟩:=v;exact⟨l,l3,λe m=>⟨(hl e m).1,h _ _ _ (hl e m).2⟩,e1,e2⟩
 | rcd fs us =>
  obtain⟨l,os,ps,ef,hl,ho,e1,p,sp,e2⟩:=v;exact⟨l,os,ps,ef,λe m=>h _ _ _ (hl e m),⟨λz=>(nomatch z),ho.nd,ho.len,ho.ok⟩,e1,p,sp,e2⟩
 | cho fs us o =>
  rcases v with ⟨f,mf,u',w',hw,e1,e2⟩ | ⟨z,_⟩
  .exact .inl ⟨f,mf,u',w',h _ _ _ hw,e1,e2⟩
  .cases z
theorem Wr.any{ms:List (Str×Yn)}:∀{n:Nat} {x:Str} {u w:Th},Wr true ms n x u w->Wr false ms n x u w
 | 0,_,_,_,⟨s,es,v⟩=>⟨s,es,v.any λ_ _ _ z=>z⟩
 | _+1,_,_,_,⟨s,es,v⟩=>⟨s,es,v.any λ_ _ _ z=>z.any⟩
theorem Zqm{ms:List (Str×Yn)}(nd:(ms.map (·.1)).Nodup){x:Str}{s:Yn}(h:(x,s)∈ms):Jc ms x=some s:=by
 induction ms with
 | nil=>cases h
 | cons p ms ih =>
  obtain⟨y,t⟩:=p;rw[Mu,List.nodup_cons]at nd;rcases U8.mp h with h | h
  .cases h;simp[Jc]
  .have:¬ y=x:=λz=>nd.1 (by rw[show ((y,t):Str×Yn).1=x from z];exact List.mem_map_of_mem (f:=(·.1)) h);simp only[Jc,this,if_false];exact ih nd.2 h
theorem shp_nq{ms:List (Str×Yn)}{s:Yn}(h:Zkp ms s):nqT s.t:=by
 have iq:∀us:ZC,nqT (.tup (us.map Th.int)):=λus=>B9 λt m=>by
  obtain⟨u,_,rfl⟩:=G3.mp m
  trivial
 cases s with
 | whole _ _=>exact⟨trivial,trivial,trivial,trivial⟩
 | truth=>exact⟨trivial,trivial⟩
 | text _=>exact⟨trivial,trivial,trivial⟩
 | row _ _ _=>exact⟨trivial,trivial,trivial,trivial⟩
 | rcd fs us =>
  have h:V0 ms fs:=h;refine⟨trivial,B9 λt m=>?_,iq us,trivial⟩;obtain⟨f,mf,rfl⟩:=G3.mp m;exact⟨trivial,trivial,trivial,(jd h mf).nq,trivial⟩
 | cho fs us o =>
  refine⟨trivial,B9 λt m=>?_,iq us,trivial,trivial⟩;obtain⟨f,mf,rfl⟩:=G3.mp m;exact⟨trivial,trivial,trivial,trivial⟩
theorem Dm.nq{K:W.Frag}{H H':Hp}(u:Up K H H'):∀{XQ:List (Key×V)} {ms:List (Str×Yn)},Dm K H XQ ms->(∀p∈ms,nqT p.2.t)->Dm K H' XQ ms
 | _,_,.nil,_=>.nil
 | _,_,.cons r t,h=>.cons ⟨r.1,mj u _ _ (h _ Br) r.2⟩ (Dm.nq u t λp m=>h p (Ck _ m))
theorem n9:∀x∈U6,Tn x:=λx m=>by
 have h:∀x∈U6,(x.cps.toList.all λc=>decide (fg c))=true/\x.length<=8:=QA
 exact vz (h x m).1 (h x m).2
theorem uq{a b:List Th}(h:a.Perm b):Y0 a=Y0 b:=by
 induction h with
 | nil=>rfl
 | cons x _ ih=>simp only[Y0,ih]
 | swap x y l=>simp only[Y0];omega
 | trans _ _ i j=>exact i.trans j
theorem VW.it{own:Bool}{ms:List (Str×Yn)}{W:Str->Th->Th->Prop}{c n:Nat}{s:Yn}{u w:Th}(ok:Zkp ms s)(hn:3<=n)(ih:∀x u w,W x u w->Vm n w/\Y9 w<=c)(h:VW W own s u w):Vm (n+1) w/\Y9 w<=5*c+75000:=by
 cases s with
 | whole lo hi =>
  obtain⟨p,rfl⟩:=h;cases u with
  | int i=>exact⟨.whole i p.1 p.2,by rw[D1];omega⟩
  | _=>exact p.elim
 | truth =>
  obtain⟨b,rfl,rfl⟩:=h;exact⟨.whole _ (by cases b<;>decide) (by cases b<;>decide),by rw[D1];omega⟩
 | text k =>
  obtain⟨p,rfl⟩:=h;cases u with
  | str z =>
   have p:Cm z:=p;exact⟨.text z p,by rw[Ww];have:=p.2;omega⟩
  | _=>exact p.elim
 | row b y k =>
  cases b with
  | true =>
   obtain⟨l,l3,hl,_,rfl⟩:=h
   have hw:∀t∈l.map Ai.w,Vm n t/\Y9 t<=c:=λt m=>by
    obtain⟨e,me,rfl⟩:=G3.mp m;exact ih _ _ _ (hl e me).2
   refine⟨.row _ λt m=>(hw t m).1,?_⟩;have:=Rb (n:=3) (k:=3*(c+2)) (λt m=>(hw t m).2) (by rw[Yv];exact l3) (Yt _);rw[Tz];omega
  | false =>
   obtain⟨l,l3,hl,_,rfl⟩:=h;have e:(l.map λe=>Th.tup [.str e.k,e.w])=(l.map λe=>(e.k,e.w)).map R8:=by rw[List.map_map];rfl
   rw[e]
   have hw:∀p∈l.map (λe=>(e.k,e.w)),Tn p.1/\Vm n p.2/\Y9 p.2<=c:=λp m=>by
    obtain⟨e,me,rfl⟩:=G3.mp m;exact⟨n9 _ (hl e me).1,ih _ _ _ (hl e me).2⟩
   refine⟨.map _ (λp m=>(hw p m).1) λp m=>(hw p m).2.1,?_⟩
   have:=Rb (c:=c+616) (n:=3) (k:=3*(c+616+2)) (us:=(l.map λe=>(e.k,e.w)).map R8) (λt m=>by
    obtain⟨p,mp,rfl⟩:=G3.mp m;have h:=hw p mp;have:=h.1.2;rw[M3];omega) (by rw[Yv,Yv];exact l3) (Yt _)
   rw[Tq];omega
 | rcd fs us =>
  obtain⟨l,os,ps,rfl,hl,ho,_,hp,sp,rfl⟩:=h;have ok:V0 ms (l.map Ent.f):=ok;have l5:l.length<=5:=by have:=ok.len;rw[Yv]at this;exact this
  have nk:((kept l++os).map (·.1)).Nodup:=b8 ho (ok.nums.nodup QI);have nd:(ps.map (·.1)).Nodup:=(hp.map _).nodup_iff.mpr nk
  have hk:∀p∈kept l,(0<=p.1/\p.1<=1000)/\Vm n p.2/\Y9 p.2<=c:=λp m=>by
   obtain⟨e,me,rfl⟩:=G3.mp m;have me:=(List.mem_filter.mp me).1;exact⟨v8 ok (List.mem_map_of_mem me),ih _ _ _ (hl e me)⟩
  have hq:∀p∈os,(0<=p.1/\p.1<=1000)/\Vm n p.2/\Y9 p.2<=10600:=λp m=>by
   have h:=(ho.ok p m).2;exact⟨⟨h.1,h.2.1⟩,h.2.2.w.m,h.2.2.mu⟩
  have ha:∀p∈ps,(0<=p.1/\p.1<=1000)/\Vm n p.2:=λp m=>by
   rcases M6.mp (hp.mem_iff.mp m) with z | z
   .exact⟨(hk p z).1,(hk p z).2.1⟩
   .exact⟨(hq p z).1,(hq p z).2.1⟩
  refine⟨.recd _ (λp m=>(ha p m).1) ?_ λp m=>(ha p m).2,?_⟩
  .rw[List.pairwise_map];have nd:ps.Pairwise λa b=>a.1≠b.1:=List.pairwise_map.mp nd;exact(sp.and nd).imp λh=>by omega
  .have m1:=Rb (c:=c+629) (n:=5) (k:=5*(c+629+2)) (us:=(kept l).map U2) (λt m=>by
    obtain⟨p,mp,rfl⟩:=G3.mp m;have h:=(hk p mp).2.2;rw[D6];omega) (by rw[Yv];exact Vf (Wm l) l5) (Yt _)
   have m2:=Rb (c:=11229) (n:=6) (k:=67386) (us:=os.map U2) (λt m=>by
    obtain⟨p,mp,rfl⟩:=G3.mp m;have h:=(hq p mp).2.2;rw[D6];omega) (by rw[Yv];exact ho.len) QI
   rw[Tx,uq (hp.map U2),Gw,P6];omega
 | cho fs us o =>
  rcases h with ⟨f,mf,u',w',hw,_,rfl⟩ | ⟨_,nb,it,_,h0,h1,gi,_,rfl⟩
  .have b:=v8 (show V0 ms fs from ok.1) mf;have h:=ih _ _ _ hw;exact⟨.arm _ _ b.1 b.2 h.1,by rw[Gg];omega⟩
  .exact⟨.arm _ _ h0 h1 (gi.w.m),by rw[Gg];have:Y9 it<=10600:=gi.mu;omega⟩
theorem Wr.it{own:Bool}{ms:List (Str×Yn)}(mo:Nd ms):∀{n:Nat} {x:Str} {u w:Th},Wr own ms n x u w->Vm (n+4) w/\Y9 w<=CW (n+1)
 | 0,x,_,_,⟨s,es,v⟩=>v.it (n:=3) (c:=0) (mo.ok x s es) (Yt _) λ_ _ _ z=>z.elim
 | n+1,x,_,_,⟨s,es,v⟩=>v.it (n:=n+4) (mo.ok x s es) QU λ_ _ _ z=>Wr.it mo z
abbrev Pw:Stmt:=top 48
noncomputable abbrev Zg9:ZF:=["_law_script","_law_feed_here","_law_make_here","_law_name","_law_some","_law_value_here","_law_k","_law_bent","_law_more"]
theorem Mo:Ze Zg9 QY (Zb Pw):=by trivial
inductive Zw7(K:W.Frag)(vs:ZZ)(H:Hp)(Q:VK):Prop
 | mk(a:Addr)(ns:ZC)(Vx:vs=[.ref a])(Vz:Zu K H a (ns.map V.int))(Vp:ns.length<=63)(Jn:∀H',Q (.bl true) H')
def gy(K:W.Frag):Sp:=λvs H Q _=>Zw7 K vs H Q
inductive Zw9(K:W.Frag)(vs:ZZ)(H:Hp)(Q:VK)(E:XK):Prop
 | mk(j)(Vx:j<3)(Vz:Zz5 K (7+3*j) vs H Q E)
def Zz4(K:W.Frag):Sp:=λvs H Q E=>Zw9 K vs H Q E
theorem bents{P:Program}{w:World}{K:W.Frag}{mg:G6}{base:Heap}{k:Nat}{f:Addr}{fd:FuncData}{ps:ZF}(h:∀j,j<3->Yk P w K mg base Mm k f fd ps (Zz5 K (7+3*j))):Yk P w K mg base Mm k f fd ps (Zz4 K) :=
 ⟨λvs H Q E q=>let ⟨j,a,b⟩:=q;(h j a).len vs H Q E b,λA outer s H args us vs Q E hr he hb hv hs=>let ⟨j,a,b⟩:=hs;(h j a).run A outer s H args us vs Q E hr he hb hv b⟩
structure Wd(K:W.Frag)(l e S:Addr)(ms:List (Str×Yn))(XQ:List (Key×V))(o:Obj)(r:Nat)(H:Hp):Prop where
 fd:Fd r H l
 md:M5 K H e S ms
 fz:H S=some (.frz o (.dK XQ))
structure SM(K:W.Frag)(l sm:Addr)(H0:Hp)(ts:List Th)(ws:ZZ)(r:Nat)(H:Hp):Prop where
 st:Ye l r H0 H
 cl:H sm=some (.lst ws)
 ar:Zw K H ts ws
 it:∀t∈ts,Vm 16 t/\Y9 t<=Cn
section
variable{K:W.Frag}{l e S sm:Addr}{ms:List (Str×Yn)}{XQ:List (Key×V)}{o:Obj}{r r':Nat}{H0 H H':Hp}{ts:List Th}{ws:ZZ}
theorem Wd.same(w:Wd K l e S ms XQ o r H)(s:Zv H H'):Wd K l e S ms XQ o r H':=⟨w.fd.same s,w.md.up s.upT,s _ _ w.fz⟩
theorem Wd.step(w:Wd K l e S ms XQ o r H)(t:Ye l r' H H'):Wd K l e S ms XQ o r' H':=⟨t.feed,w.md.up (t.upT w.fd),(t.upT (K:=K) w.fd).frz _ _ _ w.fz⟩
theorem Wd.mono(w:Wd K l e S ms XQ o r H)(h:r'<=r):Wd K l e S ms XQ o r' H:=⟨w.fd.mono h,w.md,w.fz⟩
theorem Wd.m(w:Wd K l e S ms XQ o r H)(h:r'<=r:=by omega):Wd K l e S ms XQ o r' H:=w.mono h
theorem SM.same(m:SM K l sm H0 ts ws r H)(s:Zv H H'):SM K l sm H0 ts ws r H':=⟨m.st.same s,s _ _ m.cl,Zw.up s.upT _ _ m.ar,m.it⟩
theorem SM.step(m:SM K l sm H0 ts ws r H)(n:sm≠l)(t:Ye l r' H H'):SM K l sm H0 ts ws r' H':=⟨m.st.trans t,t.keep _ _ n m.cl,Zw.up (t.upT m.st.feed) _ _ m.ar,m.it⟩
theorem SM.mono(m:SM K l sm H0 ts ws r H)(h:r'<=r):SM K l sm H0 ts ws r' H:=⟨m.st.mono h,m.cl,m.ar,m.it⟩
theorem SM.m(m:SM K l sm H0 ts ws r H)(h:r'<=r:=by omega):SM K l sm H0 ts ws r' H:=m.mono h
theorem SM.push(m:SM K l sm H0 ts ws r H)(n:H0 sm=none)(f:Fd r' H0 l){t:Th}{v:V}(i:Zg K H t v)(ht:Vm 16 t/\Y9 t<=Cn):SM K l sm H0 (ts++[t]) (ws++[v]) r (upd H sm (.lst (ws++[v]))):=by
 have u:Ui K H (upd H sm (.lst (ws++[v]))):=Zi m.cl;refine⟨m.st.put n (f.far n),Zz,Zw.append (Zw.up u _ _ m.ar) (Zw.one (Zg.up u _ _ i)),λz mz=>?_⟩;rcases M6.mp mz with mz | mz
 .exact m.it z mz
 .cases Nw.mp mz;exact ht
end
theorem gn_by{X Y:TS}{D:Ends}{rt:VK}{bk ct:L2.St->Hp->Prop}{i:Nat}{v:V}{j:L2.St}{H:Hp}(N:L2.St->Hp->Prop)(hY:∀σ' H',N σ' H'->Y D σ' H')(hX:∀M:L2.St->Hp->Prop,(∀σ' H',N σ' H'->M σ' H')->X { D with nx:=M } (j.set i (some v)) H):D9 i v j H ({ nx:=Zzt X Y D,rt:=rt,bk:=bk,ct:=ct }:Ends).nx:=hX (Y D) hY
theorem Ip{K:W.Frag}{H:Hp}{x:Str}{u:Th}{v:V}{p:Addr}(i:Zg K H u v)(h:H p=none):Zg K (upd H p (.tup [.str x,v])) (.tup [.str x,u]) (.ref p):=⟨p,_,rfl,Zp.of Zz,_,_,rfl,rfl,_,_,rfl,Zg.up (Zv.lay h).upT _ _ i,rfl⟩
theorem j6{K:W.Frag}{H:Hp}{p:Addr}:Zg K (upd H p (.tup [])) (.tup []) (.ref p):=⟨p,[],rfl,Zp.of Zz,rfl⟩
theorem Zj1{K:W.Frag}{H:Hp}:∀{ts:List Th} {ws:ZZ},Zw K H (ts.map λ_=>Th.bl true) ws->∃bs:List Bool,ws=bs.map V.bl/\bs.all id=true
 | [],_,h=>⟨[],h,rfl⟩
 | _::ts,_,⟨_,_,e,i,h⟩=>by
  obtain⟨bs,rfl,hb⟩:=Zj1 (ts:=ts) h;exact⟨true::bs,by rw[e,show _=V.bl true from i];rfl,hb⟩
noncomputable def SIX(u:Th):List Th:=[u,.tup [.str "row",.tup []],.tup [.str "map",.tup []],.tup [.str "rec",.tup []],.tup [.str "arm",.int 1,.tup [.str "whole",.int 0]],.tup [.str "whole",.int 1]]
theorem six_ok{u:Th}(g:GI 2 u):∀t∈SIX u,Vm 16 t/\Y9 t<=Cn:=λt m=>by
 simp only[SIX,U8,V9,or_false]at m;rcases m with rfl | rfl | rfl | rfl | rfl | rfl
 .exact⟨g.w.mono QI,Vf g.mu QI⟩
 .exact⟨.row [] λ_ z=>(nomatch z),by decide +kernel⟩
 .exact⟨.map [] (λ_ z=>(nomatch z)) λ_ z=>(nomatch z),by decide +kernel⟩
 .exact⟨.recd [] (λ_ z=>(nomatch z)) .nil λ_ z=>(nomatch z),by decide +kernel⟩
 .exact⟨.arm 1 _ QI QI (.whole 0 QI QI),by decide +kernel⟩
 .exact⟨.whole 1 QI QI,by decide +kernel⟩
theorem ok_law(F:Fu K "law" Pw f fd)(m:Bn mg)(v7:Fn P w K mg base 1 "_law_feed" QY (jx K))(Zt:gD P w K mg base)(v5:Fn P w K mg base 4 "_law_make" QC (qh K))(Yf:gI P w K mg base)
  (Jf:Fn P w K mg base 10 "_law_value" XG (Fc K 3)) (Gf:Fn P w K mg base 8 "_law_wild" XY (C5 K 3))
  (Vl:Fn P w K mg base 5 "_law_item_of" XM (Jl K λms=>Wr false ms 3)) (V7:Fn P w K mg base 18 "_law_item_bent" XA (Zz4 K)) (X0:Fn P w K mg base 38 "_law_right" XB (K3 K 16)):Yk P w K mg base Mm 39 f fd QY (gy K):=by
 refine F.ok Mo (λvs H Q E h=>?_) λ_ A _ s H vs Q E hr h=>?_
 .obtain⟨a,ns,rfl,_⟩:=h
  rfl
 obtain⟨a,ns,rfl,hA,h63,q⟩:=h;refine⟨_,(@Zd _ _ _ _ _ (sI 1 Mo.nd (cF v7 hr (Zf (pv 0) Zx))) (@Zd _ _ _ _ _ (sI 2 Mo.nd (cF v5 hr (Zf (pv 1) Zx))) (@Zd _ _ _ _ _ (@Jj _ _ _ _ _ _ _ _ PassesOwn.never rfl (@Zvi _ _ _ _ (iX Zy (pv 2) Zq)) (nJ 3 Mo.nd) (@Zd _ _ _ _ _ (@N0 _ 4 _ _ _ _ _ Mo.nd rfl QO (@Z9 _ _ _ _ (@Zj _ _ _ _ _ (@Wz _ _ _ _ _ _ _ _ _ _ Yf (hr.m) rfl (@Zj _ _ _ _ _ (pv 1) (@Zj _ _ _ _ _ Zq Zx rfl) rfl) QI rfl rfl) (@Zj _ _ _ _ _ (@Ys _ _ _ _ _ (@Zj _ _ _ _ _ Zk (@Zj _ _ _ _ _ (@Ys _ _ _ _ _ Zx) Zx rfl) rfl)) (@Zj _ _ _ _ _ (@Ys _ _ _ _ _ (@Zj _ _ _ _ _ Zk (@Zj _ _ _ _ _ (@Ys _ _ _ _ _ Zx) Zx rfl) rfl)) (@Zj _ _ _ _ _ (@Ys _ _ _ _ _ (@Zj _ _ _ _ _ Zk (@Zj _ _ _ _ _ (@Ys _ _ _ _ _ Zx) Zx rfl) rfl)) (@Zj _ _ _ _ _ (@Ys _ _ _ _ _ (@Zj _ _ _ _ _ Zk (@Zj _ _ _ _ _ Zq (@Zj _ _ _ _ _ (@Ys _ _ _ _ _ (@Zj _ _ _ _ _ Zk (@Zj _ _ _ _ _ Zq Zx rfl) rfl)) Zx rfl) rfl) rfl)) (@Zj _ _ _ _ _ (@Ys _ _ _ _ _ (@Zj _ _ _ _ _ Zk (@Zj _ _ _ _ _ Zq Zx rfl) rfl)) Zx rfl) rfl) rfl) rfl) rfl) rfl)) rfl QO) (@Zd _ _ _ _ _ (@Jj _ _ _ _ _ _ _ _ PassesOwn.never rfl (qL (cF Jf hr (Zf (pv 1) (Zf (pv 2) (Zf (pv 3) (Zf Zq Zx)))))) (nJ 5 Mo.nd) (@Zd _ _ _ _ _ (@Dj _ _ _ _ (@Wx _ _ _ _ _ _ _ _ _ _ _ _ PySem.F.plainAttrs_list PySem.F.slot_list_append PySem.F.type_list_append Ux (pv 4) (Zf (cF Vl hr (Zf (pv 2) (Zf (pv 3) (Zf (pv 5) Zx)))) Zx) QO QO QO QO QO) rfl) (@Zd _ _ _ _ _ (@Dj _ _ _ _ (@Wx _ _ _ _ _ _ _ _ _ _ _ _ PySem.F.plainAttrs_list PySem.F.slot_list_append PySem.F.type_list_append Ux (pv 4) (Zf (cF Vl hr (Zf (pv 2) (Zf (pv 3) (Zf (cF Gf hr (Zf (pv 1) (Zf (pv 2) (Zf (pv 3) (Zf (pv 5) Zx))))) Zx)))) Zx) QO QO QO QO QO) rfl) (@Z2 _ _ _ (@Jj _ _ _ _ _ _ _ _ PassesOwn.never rfl (@Uh _ _ _ _ _ _ rfl m.range (Zf Zq Zx) QO) (nJ 6 Mo.nd) (@Zd _ _ _ _ _ (sI 7 Mo.nd (iX Zh (pv 4) (qo Ja Zq (qo Me (pv 6) Zq)))) (@Zd _ _ _ _ _ (@Jj _ _ _ _ _ _ _ _ PassesOwn.never rfl (@Uh _ _ _ _ _ _ rfl m.range (@Zj _ _ _ _ _ (@Y3 _ _ _ _ _ _ _ Zh (@Z9 _ _ _ _ (@V4 _ _ [1,1,2,3] rfl)) (cF Zt hr (Zf (pv 1) (Zf Zq Zx))) (λ_ _=>rfl)) Zx rfl) QO) (nJ 8 Mo.nd) (q1 (sI 7 Mo.nd (cF V7 hr (Zf (pv 1) (Zf (pv 7) Zx))))) QO) (q1 (@Dj _ _ _ _ (@Wx _ _ _ _ _ _ _ _ _ _ _ _ PySem.F.plainAttrs_list PySem.F.slot_list_append PySem.F.type_list_append Ux (pv 4) (Zf (pv 7) Zx) QO QO QO QO QO) rfl)))) QO)))) QO) (q1 (qi (qn (B4 (cB (aa rfl) m.all b_all (Zf (pC Zg9 (Zb Pw) ["_law_item_here","_law_make_here","_law_name"] [none,some 2,some 3] (qL (pv 4)) (λ_ _ _=>(nI 0)) (λ_ _ _=>Yp) (λ_ _ _=>(cF X0 hr (Zf (pv 1) (Zf (pv 2) (Zf (pv 0) Zx)))))) Zx)) (by intro _;rfl))) (q1 (qr fu)) Zl)))) QO) (q1 (qr fu))))),?_⟩;refine⟨_,rfl,a,ns,rfl,hA,h63,λl H1 s1 nl f1=>?_⟩;refine⟨_,rfl,l,400000,rfl,f1.mono QI,λe S v ms H2 he hS nS mo t2=>?_⟩;refine hide λ_ Z1=>?_
 obtain⟨XQ,hS,dm⟩:=hS;refine Z1 ?_;refine⟨_,rfl,e,_,_,_,rfl,rfl,he,Vq,S,XQ,rfl,hS,λo=>?_⟩;have nqs:∀p∈ms,nqT p.2.t:=λp mp=>shp_nq (mo.ok p.1 p.2 (Zqm mo.nd mp));have W3:Wd K l e S ms XQ o 400000 (upd H2 S (.frz o (.dK XQ))):=⟨t2.feed.set hS (λ_ z=>nomatch z),⟨⟨v,Zzm hS _ _ he⟩,XQ,.inr ⟨o,Zz⟩,dm.nq (Zzm hS) nqs⟩,Zz⟩;have lk:XQ.length<=6:=by rw[Paired.length dm];exact mo.len
 refine Zjb (λi Z H5=>(∃o3 o4 o5 o6 o7 o8,Z=[some (.ref a),some (.ref l),some (.ref e),o3,o4,o5,o6,o7,o8])/\Wd K l e S ms XQ o (60000*(6-i)) H5) ⟨⟨_,_,_,_,_,_,rfl⟩,W3.m⟩ ?_ ?_ ?_
 .intro i Z H5 hi Rc;refine hide λ_ Yz=>?_;obtain⟨_,W5⟩:=Rc;refine Yz ?_;exact W5.fz
 .intro i kk xx Z H5 ek Om;refine hide λ_ Yq=>?_;obtain⟨⟨o3,o4,o5,o6,o7,o8,rfl⟩,W5⟩:=Om;refine Yq ?_;have hi:i<XQ.length:=(Bl.mp ek).1;generalize hR1:60000*(6-(i+1))=R;have eR:60000*(6-i)=R+60000:=QU
  rw[eR]at W5;refine hide λ_ Yy=>?_
  obtain⟨nm,sh,rfl,em⟩:∃nm sh,kk=.inr nm/\(nm,sh)∈ms:=by
   have h1:=dm.keys;have h2:=congrArg (λz=>z[i]?) h1;simp only[Jb,ek]at h2;cases z:ms[i]? with
   | none=>rw[z]at h2;cases h2
   | some p=>rw[z]at h2;exact⟨p.1,p.2,Fk h2,Cr z⟩
  refine Yy ?_;have es:=Zqm mo.nd em;have vb3:VB 3=2590:=rfl;have wb3:WB 3=46800:=rfl;have ib2:IB 2=30:=rfl;refine⟨_,rfl,l,R+55000,rfl,W5.fd.m,λvi ui H6 ii gi t6=>?_⟩;have z0:0<=sizeLine:=Dc _;have z2:2<=sizeLine:=QI
  have z3:3<=sizeLine:=QI
  have z6:6<=sizeLine:=QI
  refine⟨z0,λe1 h1=>⟨z2,λe2 h2=>⟨z0,λe3 h3=>⟨z2,λe4 h4=>⟨z0,λe5 h5=>⟨z2,λe6 h6=>⟨z2,λe7 h7=>⟨z3,λe8 h8=>⟨z2,λe9 h9=>⟨z6,λsm ns=>?_⟩⟩⟩⟩⟩⟩⟩⟩⟩⟩;have s1':=Zv.lay (o:=.tup []) h1;have s2':=Zv.lay (o:=.tup [.str "row",.ref e1]) h2;have s3':=Zv.lay (o:=.tup []) h3;have s4':=Zv.lay (o:=.tup [.str "map",.ref e3]) h4;have s5':=Zv.lay (o:=.tup []) h5;have s6':=Zv.lay (o:=.tup [.str "rec",.ref e5]) h6;have s7':=Zv.lay (o:=.tup [.str "whole",.int 0]) h7;have s8':=Zv.lay (o:=.tup [.str "arm",.int 1,.ref e7]) h8;have s9':=Zv.lay (o:=.tup [.str "whole",.int 1]) h9;have r8:=s8'.trans s9';have r6:=s7'.trans r8;have r4:=s5'.trans (s6'.trans r6);have r2:=s3'.trans (s4'.trans r4);have r0:=s1'.trans (s2'.trans r2);have i2:=Zg.up (r2.upT (K:=K)) _ _ (Ip (x:="row") j6 h2);have i4:=Zg.up (r4.upT (K:=K)) _ _ (Ip (x:="map") j6 h4);have i6:=Zg.up (r6.upT (K:=K)) _ _ (Ip (x:="rec") j6 h6);have i7:=Zg.up (s8'.upT (K:=K)) _ _ (Ip (x:="whole") (u:=.int 0) (v:=.int 0) rfl h7);have i8:Zg K _ (.tup [.str "arm",.int 1,.tup [.str "whole",.int 0]]) (.ref e8):=⟨e8,_,rfl,s9'.up _ _ (Zp.of Zz),_,_,rfl,rfl,_,_,rfl,rfl,_,_,rfl,Zg.up s9'.upT _ _ i7,rfl⟩;have i9:=Ip (K:=K) (x:="whole") (u:=.int 1) (v:=.int 1) rfl h9;have i1:=Zg.up (r0.upT (K:=K)) _ _ ii;have W0:=(W5.step t6).same r0;have ia:Zw K _ (SIX ui) [vi,.ref e2,.ref e4,.ref e6,.ref e8,.ref e9]:=⟨_,_,rfl,i1,_,_,rfl,i2,_,_,rfl,i4,_,_,rfl,i6,_,_,rfl,i8,_,_,rfl,i9,rfl⟩
  clear i1 i2 i4 i6 i7 i8 i9 s1' s2' s3' s4' s5' s6' s7' s8' s9' r0 r2 r4 r6 r8 h1 h2 h3 h4 h5 h6 h7 h8 h9
  revert W0 ia ns
  generalize (upd _ e9 (HO.tup [.str "whole",.int 1]))=H0;intro ns W0 ia;have so:=Zv.lay (o:=.lst [vi,.ref e2,.ref e4,.ref e6,.ref e8,.ref e9]) ns;have M0:SM K l sm H0 (SIX ui) _ (R+55000) (upd H0 sm (.lst [vi,.ref e2,.ref e4,.ref e6,.ref e8,.ref e9])):=⟨(Ye.refl W0.fd).lay ns,Zz,Zw.up so.upT _ _ ia,six_ok gi⟩;have nsl:sm≠l:=W0.fd.ne ns;have WW:∀{r:Nat} {H:Hp} {ts:List Th} {ws:ZZ},SM K l sm H0 ts ws r H->Wd K l e S ms XQ o r H:=λm=>W0.step m.st;refine gn_by (λσ' HX=>(∃o5 o6 o7 o8,σ'=[some (.ref a),some (.ref l),some (.ref e),some (.str nm),some (.ref sm),o5,o6,o7,o8])/\∃ts ws,SM K l sm H0 ts ws R HX/\ts.length<=20) ?_ λM hM=>?_
  .intro σ' HX vh;refine hide λ_ Yg=>?_;obtain⟨⟨o5,o6,o7,o8,rfl⟩,ts,ws,MX,lt⟩:=vh;refine Yg ?_;refine⟨_,rfl,sm,rfl,⟨_,Zu.of MX.cl⟩,λD fp sx hD=>?_⟩;refine O4 (K:=K) (xs:=ws) (ts:=ts) (rs:=ts.map λ_=>Th.bl true) (λ_ H6=>Zv HX H6) (λZ=>∃o,Z=[o,some (.ref e),some (.str nm)]) (λi H6 g=>Zu.of (g _ _ MX.cl)) MX.ar (by rw[Yv]) QU (λi H6 g=>g.upT) (λi H6 ys zs g h=>g.put hD) (Zv.lay hD) ⟨_,rfl⟩ ?_ ?_ ?_
   .rintro i t r v Z H6 Q5 et er ⟨o,rfl⟩ g6 it ⟨ys,hy⟩ q5;rw[Jb,et]at er;cases er;have ti:=MX.it t (Cr et);refine⟨rfl,?_⟩;refine⟨_,rfl,_,rfl,_,rfl,e,S,ms,nm,t,v,rfl,(WW MX).md.up g6.upT,mo,(by rw[es];rfl),ti.1,ti.2,it,by decide,λH7 s7=>?_⟩;exact q5 _ _ H7 ⟨_,rfl⟩ (g6.trans s7) s7.upT (λo ho=>s7 _ _ ho) rfl
   .intro v Z H5 A B h;show (if true=true then A (Z.set 0 (some v)) H5 else B (Z.set 0 (some v)) H5);exact Vi rfl h.2
   .rintro H6 wz Z _ g6 h6 a6;refine hide λ_ Yc=>?_;obtain⟨bs,rfl,hb⟩:=Zj1 a6;refine Yc ?_;refine⟨D,bs,rfl,Zu.of h6,_,rfl,Z5 (by rw[hb];rfl) ?_⟩;exact⟨⟨_,_,_,_,_,_,rfl⟩,(WW MX).same g6⟩
  refine⟨_,rfl,_,rfl,_,rfl,l,e,S,ms,nm,R+52000,rfl,(WW M0).md,mo,(by rw[es];rfl),(WW M0).fd.m,λL H8 rX nL t8=>?_⟩;have M8:=M0.step nsl t8;have hLs:L≠sm:=λz=>by rw[z,Zz]at nL;cases nL
  have hLl:L≠l:=(WW M0).fd.ne nL;rcases rX with hL | ⟨v,u,w,hL,iu,hw⟩
  .refine⟨L,rfl,⟨_,Zu.of hL⟩,?_⟩;refine W8 (K:=K) (xs:=[]) (λj Z H9=>(∃o5 o6 o7 o8,Z=[some (.ref a),some (.ref l),some (.ref e),some (.str nm),some (.ref sm),o5,o6,o7,o8])/\(∃ts ws,SM K l sm H0 ts ws R H9/\ts.length<=20)/\H9 L=some (.lst [])) ⟨⟨_,_,_,_,rfl⟩,⟨_,_,M8.m,(by decide:6<=20)⟩,hL⟩ ?_ ?_ ?_
   .intro j Z H9 _ Fq;refine hide λ_ Yr=>?_;obtain⟨_,_,h9⟩:=Fq;refine Yr ?_;exact Zu.of h9
   .rintro j xv Z H9 hx _;simp at hx
   .intro Z H9 Ob;refine hide λ_ Yo=>?_;obtain⟨z,M9,_⟩:=Ob;refine Yo ?_;exact hM _ _ ⟨z,M9⟩
  .refine⟨L,rfl,⟨_,Zu.of hL⟩,?_⟩;have wi:Vm 7 w/\Y9 w<=11700000:=⟨(hw.it mo).1,Vf (hw.it mo).2 QI⟩;refine W8 (K:=K) (xs:=[v]) (λj Z H9=>(∃o5 o6 o7 o8,Z=[some (.ref a),some (.ref l),some (.ref e),some (.str nm),some (.ref sm),o5,o6,o7,o8])/\(∃ts ws,SM K l sm H0 ts ws (R+(1-j)*52000) H9/\ts.length=6+7*j)/\H9 L=some (.lst [v])/\(j=0->Zg K H9 u v)) ⟨⟨_,_,_,_,rfl⟩,⟨_,_,M8.m,rfl⟩,hL,λ_=>iu⟩ ?_ ?_ ?_
   .intro j Z H9 _ Fx;refine hide λ_ Z1=>?_;obtain⟨_,_,h9,_⟩:=Fx;refine Z1 ?_;exact Zu.of h9
   .intro j xv Z H9 hx Nf;refine hide λ_ Yz=>?_;obtain⟨⟨o5,o6,o7,o8,rfl⟩,⟨ts,ws,M9,l9⟩,h9,iu9⟩:=Nf
    have j0:j=0:=by
     have:=(Bl.mp hx).1;simp at this;exact this
    subst j0;have iu9:=iu9 rfl;cases Zc hx;refine Yz ?_;have M9:SM K l sm H0 ts ws (R+52000) H9:=M9;have l9:ts.length=6:=l9;have lw:=M9.ar.length
    have ll:∀{ts:List Th} {ws:ZZ} {r:Nat} {H:Hp},SM K l sm H0 ts ws r H->ts.length<=20->ws.length<sizeLine:=λm h=>by
     rw[<-m.ar.length];exact Qe h QI
    refine⟨_,rfl,.inl ⟨rfl,_,Zu.of M9.cl⟩,_,rfl,_,rfl,_,rfl,e,S,ms,nm,u,w,v,rfl,(WW M9).md,mo,hw.any,iu9,λv1 H10 i1 Pk=>?_⟩;have N10:=M9.same Pk;have M10:=N10.push ns W0.fd i1 ⟨wi.1.mono QI,Vf wi.2 QI⟩;refine⟨sm,_,v1,rfl,rfl,N10.cl,ll N10 QU,?_⟩;have u10:Ui K H10 (upd H10 sm (.lst (ws++[v1]))):=Zi N10.cl;have F0:upd H10 sm (.lst (ws++[v1])) L=some (.lst [v]):=by rw[Zm hLs];exact Pk _ _ h9
    refine⟨_,rfl,.inl ⟨rfl,_,Zu.of M10.cl⟩,_,rfl,_,rfl,_,rfl,_,rfl,_,rfl,_,rfl,l,e,S,ms,nm,u,w,v,R+5000,rfl,(WW M10).md,mo,hw,Zg.up (Pk.upT.trans u10) _ _ iu9,(WW M10).fd.m,λvw uw ww H11 iw hww Q6=>?_⟩;have M11:=M10.step nsl Q6;have xi:Vm 7 ww/\Y9 ww<=11700000:=⟨(hww.it mo).1,Vf (hww.it mo).2 QI⟩;refine⟨e,S,ms,nm,uw,ww,vw,rfl,(WW M11).md,mo,hww,iw,λv2 H12 i2 Ni=>?_⟩;have N12:=M11.same Ni;have M12:=N12.push ns W0.fd i2 ⟨xi.1.mono QI,Vf xi.2 QI⟩;have h11:=Q6.keep _ _ hLl F0;refine⟨sm,_,v2,rfl,rfl,N12.cl,ll N12 (by rw[Nl,ZU];omega),?_⟩;have vp:upd H12 sm (.lst (ws++[v1]++[v2])) L=some (.lst [v]):=by rw[Zm hLs];exact Ni _ _ h11
    refine⟨_,rfl,by decide,by decide,?_⟩;have g6:(ts++[w]++[ww])[6]?=some w:=by rw[<-l9];simp
    have g7:(ts++[w]++[ww])[7]?=some ww:=by rw[show 7=(ts++[w]).length by rw[Nl,l9];rfl];simp
    refine Cz (λj Z H9=>(∃o6 o7 o8,Z=[some (.ref a),some (.ref l),some (.ref e),some (.str nm),some (.ref sm),some v,o6,o7,o8])/\(∃tz wz,SM K l sm H0 tz wz (R+1000*(5-j)) H9/\tz.length=8+j/\tz[6]?=some w/\tz[7]?=some ww)/\H9 L=some (.lst [v])) ⟨⟨_,_,_,rfl⟩,⟨_,_,M12,by rw[Nl,Nl,l9];rfl,g6,g7⟩,vp⟩ ?_ ?_
    .intro k Z H13 hk Td;refine hide λ_ Yq=>?_;obtain⟨⟨o6,o7,o8,rfl⟩,⟨tz,wz,M13,lz,g6,g7⟩,h13⟩:=Td;have hk:k<5:=hk
     obtain⟨bv,bt,ab,ib,wb,mb⟩:∃bv bt,Ll wz (6+(0+(k:Int)) % 2)=some bv/\Zg K H13 bt bv/\Vm 7 bt/\Y9 bt<=11700000:=by
      rcases Nat.mod_two_eq_zero_or_one k with z | z
      .obtain⟨bv,eb,ib⟩:=M13.ar.get g6;exact⟨bv,w,by rw[show 6+(0+(k:Int)) % 2=((6:Nat):Int) by omega];exact Vj eb,ib,wi⟩
      .obtain⟨bv,eb,ib⟩:=M13.ar.get g7;exact⟨bv,ww,by rw[show 6+(0+(k:Int)) % 2=((7:Nat):Int) by omega];exact Vj eb,ib,xi⟩
     refine Yq ?_;refine⟨_,rfl,_,rfl,_,_,rfl,rfl,by decide,_,_,rfl,rfl,sm,wz,_,bv,rfl,rfl,Zu.of M13.cl,ab,?_⟩;refine⟨(sz 4),λL4 h4=>?_⟩;have fq:=Zv.lay (o:=.lst ([1,1,2,3].map V.int)) h4;have M14:=M13.same fq;refine hide λ_ Yy=>?_;obtain⟨B,hB⟩:∃B,R+1000*(5-(k+1))=B:=⟨_,rfl⟩;refine Yy ?_;refine⟨_,rfl,l,4,B+300,rfl,(WW M14).fd.m,by decide,by decide,λx H15 x0 x1 t15=>?_⟩;have M15:=M14.step nsl t15;have n4:L4≠l:=(WW M13).fd.ne h4;have h15:=t15.keep _ _ hLl (fq _ _ h13);have ib15:=Zg.up (fq.upT.trans (t15.upT (WW M14).fd)) _ _ ib;refine hide λ_ Yg=>?_;obtain⟨c,mc,ec⟩:=Di [1,1,2,3] x0 x1;refine Yg ?_;have bc:0<=c/\c<=3:=(by decide:∀x∈([1,1,2,3]:ZC),0<=x/\x<=3) c mc;refine⟨L4,_,_,_,rfl,rfl,Zu.of (t15.keep _ _ n4 Zz),ec,c,rfl,by omega,by omega,?_⟩;refine Cz (λi Z H=>(∃bv o8,Z=[some (.ref a),some (.ref l),some (.ref e),some (.str nm),some (.ref sm),some v,some (.int (0+(k:Int))),some bv,o8]/\∃bt,Zg K H bt bv/\Vm (7+3*i) bt/\Y9 bt<=11700000+85000*i)/\SM K l sm H0 tz wz (B+100*(3-i)) H/\H L=some (.lst [v])) ⟨⟨bv,_,rfl,bt,ib15,wb,mb⟩,M15,h15⟩ ?_ ?_
     .intro i Z H16 hi Ou;refine hide λ_ Yc=>?_;obtain⟨⟨bv,o8,rfl,bt,ib,wb,mb⟩,M16,h16⟩:=Ou;refine Yc ?_;have hi:i<3:=QU
      have em:Cn=13000000:=rfl;refine⟨_,rfl,_,rfl,i,hi,l,bv,bt,B+100*(3-(i+1)),rfl,wb,by omega,ib,(WW M16).fd.m,λv' t' H17 i17 w17 m17 t17=>?_⟩;have w18:Vm (7+3*(i+1)) t':=w17.m;have m18:Y9 t'<=11700000+85000*(i+1):=Vf m17 (Vf (Nat.add_le_add_right mb _) (Nat.le_of_eq (by rw[Nat.mul_succ,Nat.add_assoc])));exact⟨⟨v',_,rfl,t',i17,w18,m18⟩,M16.step nsl t17,t17.keep _ _ hLl h16⟩
     .intro Z H16 Oh;refine hide λ_ Yr=>?_;obtain⟨⟨bv,o8,rfl,bt,ib,wb,mb⟩,M16,h16⟩:=Oh;refine Yr ?_;have em:Cn=13000000:=rfl;have M17:=M16.push ns W0.fd ib ⟨wb.m,by omega⟩;refine⟨_,rfl,.inl ⟨rfl,_,Zu.of M16.cl⟩,_,rfl,sm,wz,bv,rfl,rfl,M16.cl,ll M16 QU,?_⟩;exact⟨⟨_,_,_,rfl⟩,⟨_,_,M17.m,by rw[Nl,ZU];omega,by rw[G0l QU];exact g6,by rw[G0l QU];exact g7⟩,by rw[Zm hLs];exact h16⟩
    .intro Z H13 Wa;refine hide λ_ Yo=>?_;obtain⟨⟨o6,o7,o8,rfl⟩,⟨tz,wz,M13,lz,_⟩,h13⟩:=Wa;refine Yo ?_;exact⟨⟨_,_,_,_,rfl⟩,⟨tz,wz,M13.m,by omega⟩,h13,λz=>nomatch z⟩
   .intro Z H9 Xa;refine hide λ_ Z1=>?_;obtain⟨z,⟨ts,ws,M9,l9⟩,_⟩:=Xa;refine Z1 ?_;have l13:ts.length=6+7*1:=l9;exact hM _ _ ⟨z,ts,ws,M9.mono (Nat.le_add_right _ _),by omega⟩
 .rintro Z H5 _;exact q H5
section
variable{P:Program}{w:World}{K:W.Frag}{mg:G6}{base:Heap}
theorem Fh{CX:A3}{f:Addr}{fd:FuncData}{ps:ZF}{k:Nat}{sp:Sp}(h:∀vs H Q E,¬ sp vs H Q E):Yk P w K mg base CX k f fd ps sp:=⟨λ_ _ _ _ z=>(h _ _ _ _ z).elim,λ_ _ _ _ _ _ _ _ _ _ _ _ _ z=>(h _ _ _ _ z).elim⟩
theorem no_it(vs:ZZ)(H:Hp)(Q:VK)(E:XK):¬ Jl K (λms=>cj false ms 0) vs H Q E:=λ⟨_,_,_,_,_,_,_,_,_,_,z,_,_⟩=>z
theorem it0{t:Th}(h:Vm 0 t):False:=h.pos.elim λ_ z=>nomatch z
theorem zb{f:Addr}{fd:FuncData}(F:Fu K "_law_item_bent" U9 f fd)(m:Bn mg)(b:Binds K fd XA [])(mm:mg "_law_item_bent"=some (.ref f))(Zt:gD P w K mg base)(Yf:gI P w K mg base)(Je:gO P w K mg base) :
  ∀n,Yk P w K mg base Mm (n+4) f fd XA (Zz5 K n)
 | 0=>Fh λ_ _ _ _ ⟨_,_,_,_,_,z,_,_,_,_⟩=>it0 z
 | n+1=>Hd (Nat.le_add_left _ _) F m Zt Yf Je ⟨_,_,zb F m b mm Zt Yf Je n,b,F.kp,mm⟩
theorem E9{f1 f2 f3:Addr}{d1 d2 d3:FuncData}(F1:Fu K "_law_read" Na f1 d1)(F2:Fu K "_law_read_parts" Ur f2 d2)(F3:Fu K "_law_read_record" Y2 f3 d3)(m:Bn mg)
  (b1:Binds K d1 XF []) (m1:mg "_law_read"=some (.ref f1)) (b2:Binds K d2 XC []) (m2:mg "_law_read_parts"=some (.ref f2)) (b3:Binds K d3 XU []) (m3:mg "_law_read_record"=some (.ref f3)) :
  ∀n,Yk P w K mg base Mm (2*n+1) f1 d1 XF (Iy K n)
 | 0=>Fh λ_ _ _ _ ⟨_,_,_,_,_,_,_,_,_,_,_,_,z,_,_,_,_,_⟩=>it0 z
 | n+1=>by
  have g:Fn P w K mg base (2*n+1) "_law_read" XF (Iy K n):=⟨_,_,E9 F1 F2 F3 m b1 m1 b2 m2 b3 m3 n,b1,F1.kp,m1⟩;exact I8 (Nat.le_add_left _ _) F1 m g ⟨_,_,Wj (Nat.le_add_left _ _) F2 m g,b2,F2.kp,m2⟩ ⟨_,_,Rf (Nat.le_add_left _ _) F3 m g,b3,F3.kp,m3⟩
theorem Ih{f1 f2 f3 C fi:Addr}{d1 d2 d3 fdi:FuncData}(F1:Fu K "read_at" Dg f1 d1)(F2:Fu K "read_record" U1 f2 d2)(F3:Fu K "read_choice" Gm f3 d3)(m:Bn mg)
  (b1:Binds K d1 XT []) (m1:mg "read_at"=some (.ref f1)) (b2:Binds K d2 XS []) (m2:mg "read_record"=some (.ref f2)) (b3:Binds K d3 XS []) (m3:mg "read_choice"=some (.ref f3))
  (cb:Mb K C) (mk_BadItem:XMk K C fi) (f_BadItem:Yk P w K mg base Mm 1 fi fdi QW (T4 C)) (Uc:mg "BadItem"=some (.ref C)) (bi_BadItem:Binds K fdi QW [])
  (T9:Fn P w K mg base 1 "form_of" QM (K6 K)) (Gs:Fn P w K mg base 2 "can_be_read" QT (gm K)) (Vt:gM P w K mg base) (Uv:Fn P w K mg base 1 "may_be_left_out" QS (gj K)) :
  ∀n,Yk P w K mg base (xb P w) (2*n+2) f1 d1 XT (Iw K C n)
 | 0=>Fh λ_ _ _ _ ⟨_,_,_,_,_,_,_,_,_,_,_,_,z,_,_,_,_,_⟩=>it0 z
 | n+1=>by
  have g:oz P w K mg base (2*n+2) "read_at" XT (Iw K C n):=⟨_,_,Ih F1 F2 F3 m b1 m1 b2 m2 b3 m3 cb mk_BadItem f_BadItem Uc bi_BadItem T9 Gs Vt Uv n,b1,F1.kp,m1⟩;exact ja (Nat.le_add_left _ _) F1 m cb mk_BadItem f_BadItem Uc bi_BadItem T9 Gs g ⟨_,_,Pa (Nat.le_add_left _ _) F2 m cb mk_BadItem f_BadItem Uc bi_BadItem Vt Uv g,b2,F2.kp,m2⟩ ⟨_,_,Po QU F3 m Vt g,b3,F3.kp,m3⟩
end
structure FA(K:W.Frag)(x:Str)(st:Stmt)(f:Addr)(fd:FuncData):Prop where
 a:W.nsIn K mainGlobals x=some (some (.ref f))
 F:Fun K x x st f fd
set_option maxHeartbeats 0 in
theorem all_mk{l:W.OpenLaw}{w:World}{K:W.Frag}{h:Heap}{mg:G6}{fa f1 f2 f3 f4 f5 f6 f7 f8 f9 f10 f11 f12 f13 f14 f15 f16 f17 f18 f19 f20 f21 f22 f23 f24 f25 f26 f27 f28 f29 f30 f31 f32 M X1 gi1 c1_ c2_ c3_ c4_ c5_ c6_ c7_ c8_ c9_ aI:Addr}{d1 d2 d3 d4 d5 d6 d7 d8 d9 d10 d11 d12 d13 d14 d15 d16 d17 d18 d19 d20 d21 d22 d23 d24 d25 d26 d27 d28 d29 d30 d31 d32 di1:FuncData}(X:K.In h)(G:h.Ns mainGlobals mg)(Mg:mg "law"=some (.ref fa))
  {nI:Nat} {esI:Array DictEntry} {ti0 ti1 ti2 ti3 ti4 ti5 ti6:Tok}
  (h1:FA K "item_sort" B2 f1 d1)
  (h2:FA K "bounds_of" B3 f2 d2)
  (h3:FA K "member_of" Be f3 d3)
  (h4:FA K "may_be_left_out" Jr f4 d4)
  (h5:FA K "form_of" Lo f5 d5)
  (h6:FA K "read" jy f6 d6)
  (h7:FA K "read_at" Dg f7 d7)
  (h8:FA K "can_be_read" Mi f8 d8)
  (h9:FA K "read_record" U1 f9 d9)
  (F0:FA K "read_choice" Gm f10 d10)
  (h11:FA K "_law_feed" Rq f11 d11)
  (vp:FA K "_law_draw" Rj f12 d12)
  (h13:FA K "_law_names" Mt f13 d13)
  (h14:FA K "_law_numbers" Gc f14 d14)
  (h15:FA K "_law_plain_shape" Jh f15 d15)
  (h16:FA K "_law_plain_value" Js f16 d16)
  (h17:FA K "_law_struck" Dq f17 d17)
  (h18:FA K "_law_parts" B1 f18 d18)
  (h19:FA K "_law_make" Gv f19 d19)
  (h20:FA K "_law_value" Jk f20 d20)
  (h21:FA K "_law_record" Nu f21 d21)
  (h22:FA K "_law_item" Gy f22 d22)
  (h23:FA K "_law_wild" Y5 f23 d23)
  (h24:FA K "_law_item_of" Vn f24 d24)
  (h25:FA K "_law_read" Na f25 d25)
  (h26:FA K "_law_read_parts" Ur f26 d26)
  (h27:FA K "_law_read_record" Y2 f27 d27)
  (h28:FA K "_law_item_bent" U9 f28 d28)
  (h29:FA K "_law_one_more" Uk f29 d29)
  (h30:FA K "_law_told" Rx f30 d30)
  (h31:FA K "_law_right" B0 f31 d31)
  (h32:FA K "law" Pw f32 d32)
  (aM:W.nsIn K mainGlobals "MakeError"=some (some (.ref M)))
  (xm:xOk K M [.ref M] "path"=true)
  (aX1:W.nsIn K mainGlobals "BadItem"=some (some (.ref X1)))
  (iX1:W.findIn K (.ref X1) "__init__"=some (some (.ref gi1)))
  (JX1:Fun K "__init__" "BadItem.__init__" Dh gi1 di1)
  (fX1:W.isFn K (.ref gi1)=true)
  (xn1:xOk K X1 [.ref X1,.ref M] "path"=true)
  (aO1:W.nsIn K mainGlobals "BadByte"=some (some (.ref c1_)))
  (aO2:W.nsIn K mainGlobals "BadDeed"=some (some (.ref c2_)))
  (aO3:W.nsIn K mainGlobals "BadText"=some (some (.ref c3_)))
  (aO4:W.nsIn K mainGlobals "NoFile"=some (some (.ref c4_)))
  (aO5:W.nsIn K mainGlobals "NoMove"=some (some (.ref c5_)))
  (aO6:W.nsIn K mainGlobals "NoPlace"=some (some (.ref c6_)))
  (aO7:W.nsIn K mainGlobals "NoRow"=some (some (.ref c7_)))
  (aO8:W.nsIn K mainGlobals "NoTable"=some (some (.ref c8_)))
  (aO9:W.nsIn K mainGlobals "NoValue"=some (some (.ref c9_)))
  (xnv:W.kitOne K (.ref X1) (.ref c9_)=some false)
  (xa1:W.kitAny K (.ref X1) [.ref c1_,.ref c2_,.ref c3_,.ref c4_]=some false)
  (xa2:W.kitAny K (.ref X1) [.ref c5_,.ref c6_,.ref c7_,.ref c8_]=some false)
  (Zzq:W.nsIn K mainGlobals "len"=some none)
  (Zzv:W.nsIn K mainGlobals "all"=some none)
  (Zzw:W.nsIn K mainGlobals "any"=some none)
  (Zzx:W.nsIn K mainGlobals "max"=some none)
  (Zzz:W.nsIn K mainGlobals "min"=some none)
  (Nr:W.nsIn K mainGlobals "isinstance"=some none)
  (Ko:W.nsIn K mainGlobals "tuple"=some none)
  (xa:W.nsIn K mainGlobals "list"=some none)
  (ir:W.nsIn K mainGlobals "set"=some none)
  (Zzj:W.nsIn K mainGlobals "int"=some none)
  (il:W.nsIn K mainGlobals "str"=some none)
  (x8:W.nsIn K mainGlobals "bool"=some none)
  (x6:W.nsIn K mainGlobals "dict"=some none)
  (Ki:W.nsIn K mainGlobals "range"=some none)
  (ik:W.nsIn K mainGlobals "zip"=some none)
  (Bp:W.nsIn K mainGlobals "enumerate"=some none)
  (Q2:W.nsIn K mainGlobals "sorted"=some none)
  (xu:W.nsIn K mainGlobals "repr"=some none)
  (Nh:W.nsIn K mainGlobals "ValueError"=some none)
  (aIs:W.nsIn K mainGlobals "ITEM_SORTS"=some (some (.ref aI)))
  (lIs:K.lookup aI=some ⟨.type "dict",none,.dict esI nI, #[]⟩)
  (kIs:W.KeysLit w.params esI.toList)
  (bI0:W.nsIn K aI "whole"=some (some (.str "whole" ti0)))
  (bI1:W.nsIn K aI "truth"=some (some (.str "whole" ti1)))
  (bI2:W.nsIn K aI "text"=some (some (.str "text" ti2)))
  (bI3:W.nsIn K aI "row"=some (some (.str "row" ti3)))
  (bI4:W.nsIn K aI "map"=some (some (.str "map" ti4)))
  (bI5:W.nsIn K aI "record"=some (some (.str "rec" ti5)))
  (bI6:W.nsIn K aI "choice"=some (some (.str "arm" ti6)))
  : ∃fd:FuncData,(∀(s:Shared) (v:Value),BindsTo s fd ⟨[v],[]⟩ [("_law_script",v)])/\∀base:Heap,K.In base->base.Ns mainGlobals mg->Yk l.prog w K mg base Mm 39 fa fd QY (gy K):=by
 have e:=Mg.symm.trans (W.mg_of X G h32.a);cases e;have To:=h1.F;have zh:=To.b1 (ps:=QB) rfl;have Xy:=W.mg_of X G h1.a;have Ti:=h2.F;have zp:=Ti.b1 (ps:=QB) rfl;have Xk:=W.mg_of X G h2.a;have Tr:=h3.F;have zd:=Tr.b2 (ps:=QN) rfl;have Xq:=W.mg_of X G h3.a;have Gx:=h4.F;have Lj:=Gx.b1 (ps:=QS) rfl;have Wv:=W.mg_of X G h4.a;have Ft:=h5.F;have ao:=Ft.b2 (ps:=QM) rfl;have uv:=W.mg_of X G h5.a;have y8:=h6.F;have b_read:=y8.b3 (ps:=QG) rfl;have m_read:=W.mg_of X G h6.a;have Fm:=h7.F;have Kh:=Fm.b4 (ps:=XT) rfl;have E8:=W.mg_of X G h7.a;have Nx:=h8.F;have En:=Nx.b2 (ps:=QT) rfl;have S7:=W.mg_of X G h8.a;have C2:=h9.F;have Ed:=C2.b4 (ps:=XS) rfl;have S4:=W.mg_of X G h9.a;have C3:=F0.F;have Et:=C3.b4 (ps:=XS) rfl;have S5:=W.mg_of X G F0.a;have Ro:=h11.F;have yn:=Ro.b1 (ps:=QY) rfl;have wc:=W.mg_of X G h11.a;have Ri:=vp.F;have yh:=Ri.b2 (ps:=XN) rfl;have wu:=W.mg_of X G vp.a;have Ta:=h13.F;have zr:=Ta.b2 (ps:=XN) rfl;have Xv:=W.mg_of X G h13.a;have Nz:=h14.F;have Ec:=Nz.b2 (ps:=QK) rfl;have S6:=W.mg_of X G h14.a;have Gj:=h15.F;have Ly:=Gj.b2 (ps:=QJ) rfl;have Wg:=W.mg_of X G h15.a;have Gq:=h16.F;have Lv:=Gq.b2 (ps:=QQ) rfl;have Wk:=W.mg_of X G h16.a;have Bk:=h17.F;have Al:=Bk.b2 (ps:=QZ) rfl;have Hl:=W.mg_of X G h17.a;have Tu:=h18.F;have zc:=Tu.b3 (ps:=XI) rfl;have Xw:=W.mg_of X G h18.a;have Ra:=h19.F;have yc:=Ra.b1 (ps:=QC) rfl;have wm:=W.mg_of X G h19.a;have Vy:=h20.F;have G2:=Vy.b4 (ps:=XG) rfl;have Gi:=W.mg_of X G h20.a;have Vc:=h21.F;have Dk:=Vc.b4 (ps:=XD) rfl;have Dv:=W.mg_of X G h21.a;have Ud:=h22.F;have Bw:=Ud.b2 (ps:=XR) rfl;have N5:=W.mg_of X G h22.a;have Vh:=h23.F;have Mj:=Vh.b4 (ps:=XY) rfl;have D7:=W.mg_of X G h23.a;have Yh:=h24.F;have U4:=Yh.b3 (ps:=XM) rfl;have U3:=W.mg_of X G h24.a;have Ru:=h25.F;have Sj:=Ru.b4 (ps:=XF) rfl;have P7:=W.mg_of X G h25.a;have Nc:=h26.F;have Fy:=Nc.b4 (ps:=XC) rfl;have L8:=W.mg_of X G h26.a;have Ma:=h27.F;have Lw:=Ma.b4 (ps:=XU) rfl;have Wy:=W.mg_of X G h27.a;have G7:=h28.F;have Bc:=G7.b2 (ps:=XA) rfl;have Bd:=W.mg_of X G h28.a;have My:=h29.F;have Sw:=My.b3 (ps:=XH) rfl;have P8:=W.mg_of X G h29.a
 have Rp:=h30.F;have yt:=Rp.b3 (ps:=XB) rfl;have wg:=W.mg_of X G h30.a;have Tp:=h31.F;have zt:=Tp.b3 (ps:=XB) rfl;have Xj:=W.mg_of X G h31.a;have Zfv:=h32.F;have m:Bn mg:=⟨W.mg_none_of X G Zzq,W.mg_none_of X G Zzv,W.mg_none_of X G Zzw,W.mg_none_of X G Zzx,W.mg_none_of X G Zzz,W.mg_none_of X G Nr,W.mg_none_of X G Ko,W.mg_none_of X G xa,W.mg_none_of X G ir,W.mg_none_of X G Zzj,W.mg_none_of X G il,W.mg_none_of X G x8,W.mg_none_of X G x6,W.mg_none_of X G Ki,W.mg_none_of X G ik,W.mg_none_of X G Bp,W.mg_none_of X G Q2,W.mg_none_of X G xu,W.mg_none_of X G Nh⟩;have om:=Zzk (as:=[]) xm;have bi1:=JX1.b2 (ps:=QW) rfl;have on1:=Zzk (as:=[M]) xn1;have mk1:XMk K X1 gi1:=⟨on1.made,iX1,fX1,on1.kp⟩;obtain⟨oc,od,kV,doc,pm,an,cdv,ct,osl,rfl,lk,Kk⟩:=Zfv.ex;refine⟨W.fnOf "law" "law" (Gh Pw) (Jq Pw) (Zb Pw) .none kV doc pm an cdv ct,λs v=>.of_eq rfl,λbase _ _=>?_⟩;have x_IS:=W.mg_of X G aIs;have x_BI:=W.mg_of X G aX1
 have so:Zg6 K w aI:=⟨⟨⟨esI,nI,lIs,kIs⟩⟩,λs=>match s with
  | .whole _ _=>⟨_,bI0,⟨_,rfl⟩⟩
  | .truth=>⟨_,bI1,⟨_,rfl⟩⟩
  | .text _=>⟨_,bI2,⟨_,rfl⟩⟩
  | .row true _ _=>⟨_,bI3,⟨_,rfl⟩⟩
  | .row false _ _=>⟨_,bI4,⟨_,rfl⟩⟩
  | .rcd _ _=>⟨_,bI5,⟨_,rfl⟩⟩
  | .cho _ _ _=>⟨_,bI6,⟨_,rfl⟩⟩⟩
 have xx:Exs K M X1 c9_ [c1_,c2_,c3_,c4_] [c5_,c6_,c7_,c8_]:=⟨om.xc,on1.xc,on1.up,Zql,on1.ve,xnv,xa1,xa2,on1.no⟩;have f_i:Yk l.prog w K mg base Mm 1 gi1 _ QW (T4 X1):=Zx4 JX1 on1.xc on1.no;have g_is:Fn l.prog w K mg base 1 "item_sort" QB (K5 K):=⟨_,_,Hm To so x_IS,zh,To.kp,Xy⟩;have g_bo:Fn l.prog w K mg base 1 "bounds_of" QB (jj K):=⟨_,_,Hc Ti m,zp,Ti.kp,Xk⟩;have g_ma:Fn l.prog w K mg base 1 "may_be_left_out" QS (gj K):=⟨_,_,ok_may Gx m,Lj,Gx.kp,Wv⟩;have g_mb:Fn l.prog w K mg base 1 "member_of" QN (Zz2 K):=⟨_,_,Hf Tr m,zd,Tr.kp,Xq⟩;have g_fo:Fn l.prog w K mg base 1 "form_of" QM (K6 K):=⟨_,_,ji Ft m,ao,Ft.kp,uv⟩;have g_ca:Fn l.prog w K mg base 2 "can_be_read" QT (gm K):=⟨_,_,ok_can Nx m g_is g_bo g_mb,En,Nx.kp,S7⟩;have g_ra:oz l.prog w K mg base 34 "read_at" XT (Iw K X1 16):=⟨_,_,Ih Fm C2 C3 m Kh E8 Ed S4 Et S5 on1.xc mk1 f_i x_BI bi1 g_fo g_ca g_mb g_ma 16,Kh,Fm.kp,E8⟩;have g_re:oz l.prog w K mg base 35 "read" QG (qf K X1 16):=⟨_,_,Zyj y8 m g_ra,b_read,y8.kp,m_read⟩;have g_to:Fn l.prog w K mg base 36 "_law_told" XB (qg K 16):=⟨_,_,Zyq Rp m xx g_re (W.mg_of X G aM) x_BI (W.mg_of X G aO1) (W.mg_of X G aO2) (W.mg_of X G aO3) (W.mg_of X G aO4) (W.mg_of X G aO5) (W.mg_of X G aO6) (W.mg_of X G aO7) (W.mg_of X G aO8) (W.mg_of X G aO9),yt,Rp.kp,wg⟩;have g_lr:Fn l.prog w K mg base 36 "_law_read" XF (Iy K 16):=⟨_,_,(E9 Ru Nc Ma m Sj P7 Fy L8 Lw Wy 16).mono QI,Sj,Ru.kp,P7⟩;have g_ri:Fn l.prog w K mg base 38 "_law_right" XB (K3 K 16):=⟨_,_,(Zx5 Tp m g_to g_lr).mono QI,zt,Tp.kp,Xj⟩;have gf:Fn l.prog w K mg base 1 "_law_feed" QY (jx K):=⟨_,_,Zyv Ro m,yn,Ro.kp,wc⟩;have gr:Fn l.prog w K mg base 1 "_law_draw" XN jq:=⟨_,_,Zyy Ri m,yh,Ri.kp,wu⟩;have uo:Fn l.prog w K mg base 2 "_law_names" XN K4:=⟨_,_,Zx6 Ta m gr,zr,Ta.kp,Xv⟩;have g_ns:Fn l.prog w K mg base 2 "_law_numbers" QK La:=⟨_,_,jo Nz m gr,Ec,Nz.kp,S6⟩;have g_ps:Fn l.prog w K mg base 2 "_law_plain_shape" QJ (Q9 K):=⟨_,_,P0 Gj m gr,Ly,Gj.kp,Wg⟩;have Zjk:Fn l.prog w K mg base 2 "_law_plain_value" QQ (R4 K):=⟨_,_,Pe Gq m gr,Lv,Gq.kp,Wk⟩;have g_sd:Fn l.prog w K mg base 2 "_law_struck" QZ (Lu K):=⟨_,_,jh Bk m gr,Al,Bk.kp,Hl⟩;have g_pd:Fn l.prog w K mg base 3 "_law_parts" XI (Pz K):=⟨_,_,ph Tu m gr uo g_ns Zjk,zc,Tu.kp,Xw⟩;have g_mk:Fn l.prog w K mg base 4 "_law_make" QC (qh K):=⟨_,_,Zyw Ra m gr uo g_ps g_pd g_sd,yc,Ra.kp,wm⟩;have gi_:Fn l.prog w K mg base 1 "_law_item" XR (Zk6 K 0):=⟨_,_,Fh λ_ _ _ _ z=>z,Bw,Ud.kp,N5⟩
 have gi0:Fn l.prog w K mg base 2 "_law_item" XR (jz K 0):=⟨_,_,Ht (k:=0) (n:=0) Ud m gr gi_,Bw,Ud.kp,N5⟩;have gi1:Fn l.prog w K mg base 3 "_law_item" XR (jz K 1):=⟨_,_,Ht (k:=1) (n:=1) Ud m gr gi0,Bw,Ud.kp,N5⟩;have gi2:Fn l.prog w K mg base 4 "_law_item" XR (jz K 2):=⟨_,_,Ht (k:=2) (n:=2) Ud m gr gi1,Bw,Ud.kp,N5⟩;have g_om:Fn l.prog w K mg base 4 "_law_one_more" XH (qc K):=⟨_,_,(I0 My m gr gi1).imp λ_ _ _ _ z=>one2 z,Sw,My.kp,P8⟩;have g_ib:Fn l.prog w K mg base 18 "_law_item_bent" XA (Zz4 K):=⟨_,_,bents λj hj=>(zb G7 m Bc Bd gr gi2 g_om _).m,Bc,G7.kp,Bd⟩;have go_:Fn l.prog w K mg base 1 "_law_item_of" XM (Jl K λms=>cj false ms 0):=⟨_,_,Fh no_it,U4,Yh.kp,U3⟩;have go0:Fn l.prog w K mg base 2 "_law_item_of" XM (Jl K λms=>Wr false ms 0):=⟨_,_,N3 (n:=0) QI Yh m go_,U4,Yh.kp,U3⟩;have go1:Fn l.prog w K mg base 3 "_law_item_of" XM (Jl K λms=>Wr false ms 1):=⟨_,_,N3 (n:=1) QI Yh m go0,U4,Yh.kp,U3⟩;have go2:Fn l.prog w K mg base 4 "_law_item_of" XM (Jl K λms=>Wr false ms 2):=⟨_,_,N3 (n:=2) QI Yh m go1,U4,Yh.kp,U3⟩;have go3:Fn l.prog w K mg base 5 "_law_item_of" XM (Jl K λms=>Wr false ms 3):=⟨_,_,N3 (n:=3) QI Yh m go2,U4,Yh.kp,U3⟩;have gv_:Fn l.prog w K mg base 2 "_law_value" XG (Zzo K 0):=⟨_,_,Fh λ_ _ _ _ z=>z,G2,Vy.kp,Gi⟩;have gc_:Fn l.prog w K mg base 3 "_law_record" XD (Zze K 0):=⟨_,_,Fh λ_ _ _ _ z=>z,Dk,Vc.kp,Dv⟩;have gv0:Fn l.prog w K mg base 4 "_law_value" XG (Fc K 0):=⟨_,_,Wq (n:=0) QI QI Vy m gr uo Zjk gv_ gc_,G2,Vy.kp,Gi⟩;have gc1:Fn l.prog w K mg base 5 "_law_record" XD (Ij K 0):=⟨_,_,L5 (n:=0) QI Vc m gr gv0 QI,Dk,Vc.kp,Dv⟩;have gv1:Fn l.prog w K mg base 6 "_law_value" XG (Fc K 1):=⟨_,_,Wq (n:=1) QI QI Vy m gr uo Zjk gv0 gc1,G2,Vy.kp,Gi⟩;have gc2:Fn l.prog w K mg base 7 "_law_record" XD (Ij K 1):=⟨_,_,L5 (n:=1) QI Vc m gr gv1 QI,Dk,Vc.kp,Dv⟩;have gv2:Fn l.prog w K mg base 8 "_law_value" XG (Fc K 2):=⟨_,_,Wq (n:=2) QI QI Vy m gr uo Zjk gv1 gc2,G2,Vy.kp,Gi⟩
 have gc3:Fn l.prog w K mg base 9 "_law_record" XD (Ij K 2):=⟨_,_,L5 (n:=2) QI Vc m gr gv2 QI,Dk,Vc.kp,Dv⟩;have gv3:Fn l.prog w K mg base 10 "_law_value" XG (Fc K 3):=⟨_,_,Wq (n:=3) QI QI Vy m gr uo Zjk gv2 gc3,G2,Vy.kp,Gi⟩;have gx_:Fn l.prog w K mg base 4 "_law_wild" XY (gz K 0):=⟨_,_,Fh λ_ _ _ _ z=>z,Mj,Vh.kp,D7⟩;have gx0:Fn l.prog w K mg base 5 "_law_wild" XY (C5 K 0):=⟨_,_,Ql (n:=0) QI Vh m gr gi2 gx_,Mj,Vh.kp,D7⟩;have gx1:Fn l.prog w K mg base 6 "_law_wild" XY (C5 K 1):=⟨_,_,Ql (n:=1) QI Vh m gr gi2 gx0,Mj,Vh.kp,D7⟩;have gx2:Fn l.prog w K mg base 7 "_law_wild" XY (C5 K 2):=⟨_,_,Ql (n:=2) QI Vh m gr gi2 gx1,Mj,Vh.kp,D7⟩;have gx3:Fn l.prog w K mg base 8 "_law_wild" XY (C5 K 3):=⟨_,_,Ql (n:=3) QI Vh m gr gi2 gx2,Mj,Vh.kp,D7⟩;exact ok_law Zfv m gf gr g_mk gi2 gv3 gx3 go3 g_ib g_ri
theorem walk{l:W.OpenLaw}{q:Program}{loose:ZF}{XP:(ZJ)->Heap->Prop}{YP:World->Heap->Prop}{d:DefRec}{K:Params->W.Frag}(hn:l.most=some 63)(hdf:d.params.defaults=[])
  (hY:∀(w:World) (h:Heap),YP w h->(K w.params).In h)
  (F:∀(w:World) (mg:G6) (fa:Addr) (h:Heap),(K w.params).In h->h.Ns mainGlobals mg->mg d.name=some (.ref fa) ->
   ∃fd:FuncData,(∀(s:Shared) (u:Value),BindsTo s fd ⟨[u],[]⟩ [("_law_script",u)])/\∀base:Heap,(K w.params).In base->base.Ns mainGlobals mg->Yk l.prog w (K w.params) mg base Mm 39 fa fd QY (gy (K w.params))) :
  W.WalkO q loose XP YP l.row.toRowW d [] (λf vs=>PySem.call f vs) :=
 L2.Zwn (n:=63) (k:=39) (x:="_law_script") (CX:=λ_=>Mm) (sp:=λw=>gy (K w.params)) hn QI hdf ⟨rfl,by decide,by decide,rfl⟩ hY F (λ_ _ a ns hl _ hS=>⟨a,ns,rfl,hS,hl,λ_=>rfl⟩) λ_ _ _ _ _ z=>z
end
end K25
open PySem PySem.W PyProof.Rows
set_option maxRecDepth 100000 in
set_option maxHeartbeats 0 in
theorem K25.ws:PySem.Challenge.rw_makes_k25_items_read.wellSaid=true:=by
 delta OpenLaw.wellSaid
 iterate 18 refine look_both ?_ ?_
 case _ =>
  delta OpenRow.wellSaid
  refine look_both (look_both ?_ ?_) ?_
  case _ =>
   delta OpenRow.partSaid
   iterate 13 refine look_both ?_ ?_
   case _ =>
    delta looksOpen
    iterate 5 refine look_both ?_ ?_
    all_goals decide +kernel
   all_goals decide +kernel
  all_goals decide +kernel
 all_goals decide +kernel
set_option maxRecDepth 100000 in
set_option maxHeartbeats 0 in
theorem PySem.Challenge.cw_makes_k25_items_read_holds : PySem.Challenge.rw_makes_k25_items_read.Holds := by
 w_on
 refine holds_law K25.ws λsaid=>?_
 refine holds_open (q:=K25.viewK) (loose:=K25.Uq) (XP:=XL K25.viewK []) (YP:=Hook.says (W.kHook K25.heapK K25.asK K25.Ah)) (N:=7510)
  K25.leftK (Hook.of (W.kHook K25.heapK K25.asK K25.Ah)) (Hook.keeps (W.kHook K25.heapK K25.asK K25.Ah)) (λs e=>xl_of s (B0z.mp e).1)
  XL.keeps (by rfl) (by rfl) (by rfl) (λs e=>recFacts_of (B0z.mp e).2) (by rfl) (by assumption)
  QA ⟨rfl,rfl,rfl,rfl,rfl,by decide +kernel⟩ ?hw ?hc
 case hw=>w_witness2
 k_fill
 refine K25.walk (l:=PySem.Challenge.rw_makes_k25_items_read) rfl rfl (λw h Y=>W.kIn_of Y) ?F
 case F =>
  intro w mg fa h KX G hmg;refine' K25.all_mk KX G hmg ?h1 ?h2 ?h3 ?h4 ?h5 ?h6 ?h7 ?h8 ?h9 ?F0 ?h11 ?vp ?h13 ?h14 ?h15 ?h16 ?h17 ?h18 ?h19 ?h20 ?h21 ?h22 ?h23 ?h24 ?h25 ?h26 ?h27 ?h28 ?h29 ?h30 ?h31 ?h32 ?aM ?xm ?aX1 ?iX1 ?JX1 ?fX1 ?xn1 ?aO1 ?aO2 ?aO3 ?aO4 ?aO5 ?aO6 ?aO7 ?aO8 ?aO9 ?xnv ?xa1 ?xa2 ?Zzq ?Zzv ?Zzw ?Zzx ?Zzz ?Nr ?Ko ?xa ?ir ?Zzj ?il ?x8 ?x6 ?Ki ?ik ?Bp ?Q2 ?xu ?Nh ?aIs ?lIs ?kIs ?bI0 ?bI1 ?bI2 ?bI3 ?bI4 ?bI5 ?bI6
  case h1|h2|h3|h4|h5|h6|h7|h8|h9|F0|h11|vp|h13|h14|h15|h16|h17|h18|h19|h20|h21|h22|h23|h24|h25|h26|h27|h28|h29|h30|h31|h32=>exact⟨by k_is,L2.Yb (by k_is) (by k_is) (by k_is)⟩
  case aM=>k_is
  case xm=>kernel_rfl
  case aX1|iX1=>k_is
  case JX1=>exact L2.Yb (by k_is) (by k_is) (by k_is)
  case fX1=>k_is
  case xn1=>kernel_rfl
  case aO1|aO2|aO3|aO4|aO5|aO6|aO7|aO8|aO9=>k_is
  case xnv|xa1|xa2=>kernel_rfl
  case Zzq|Zzv|Zzw|Zzx|Zzz|Nr|Ko|xa|ir|Zzj|il|x8|x6|Ki|ik|Bp|Q2|xu|Nh|aIs|lIs=>k_is
  case kIs=>k_keys
  case bI0|bI1|bI2|bI3|bI4|bI5|bI6=>k_is
