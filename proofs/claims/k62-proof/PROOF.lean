import PyProof.Rows.All
import Wide.All
import OpenK.AllK
import Wide.FinOn
import PySem.Challenge.RW_makes_k62_who_can_follow
set_option genSizeOf false
set_option genInjectivity false
set_option bootstrap.genMatcherCode false
noncomputable section
set_option maxHeartbeats 2000000
set_option Elab.async false
set_option linter.all false
set_option maxRecDepth 100000
local macro_rules | `(tactic| trivial) => `(tactic| first | exact .inl rfl | exact .inr rfl | rfl | decide | (intro _; rfl) | exact Or.inl rfl | exact Or.inr rfl | assumption | exact ⟨rfl, rfl, rfl, by decide +kernel, rfl, by decide +kernel, by decide +kernel⟩ | fail)
def XJ:=@List.find?_eq_none
def XQ:=@Int.toNat_natCast
def XX:=@List.length_set
def XZ:=@List.length_range
def ZE:=@List.append_nil
def ZI:=@List.append_assoc
def ZO:=@List.any_eq_true
def ZA:=@List.pairwise_cons
def ZU:=@List.length_singleton
def ZP:=@Option.bind_eq_some_iff
section
open PySem
abbrev ZQ:=Value->Shared->Prop
abbrev ZJ:=Str->Option Value
abbrev ZW:=List (Str×NameKind)
abbrev ZV:=List (Option Nat)
abbrev ZY:=Array (Option Value)
abbrev ZK:=List Value
abbrev ZG:=List Str
abbrev ZF:=Option Value
abbrev ZM:=List Expr
abbrev ZD:=Array Value
abbrev ZT:=List Int
abbrev ZC:=Option Int
abbrev ZN:=Array Nat
abbrev ZL:=Option Nat
abbrev ZR:=Option Addr
abbrev ZS:=List Addr
abbrev ZH:=Unit->Shared->Prop
end
section
open PySem PyProof.Rows
def Zu:=@List.length_map
def Tz:=@List.not_mem_nil
def Jv:=@List.size_toArray
def V1:=@List.mem_singleton
def Q9:=@List.map_append
def Ma:=@decide_eq_true
def Gc:=@Nat.le_refl
def Zq:=@wpAny_bind
def Zt:=@wpAny_pure
def Gf:=@List.mem_map
def G0m:=@List.getElem?_map
def dw:=@List.getElem?_eq_some_iff
def Cj:=@List.mem_append
def Y3:=@Option.map_eq_some_iff
def Gn:=@List.length_append
def Ms:=@Option.some.inj
def Yn:=@List.mem_cons_self
def Vk:=@List.mem_cons_of_mem
def G0e:=@List.getElem_mem
def Zd:=@List.forall_mem_cons
def B0f:=@Bool.false_eq_true
def Wi:=@List.getElem?_eq_getElem
def B0n:=@beq_eq_false_iff_ne
def N0l:=@Nat.lt_of_lt_of_le
def Jk:=@List.length_cons
def S9:=@List.map_cons
def Y4:=@Heap.get?_push_of_some
def Vv:=@List.mem_cons
def B0s:=@beq_self_eq_true
def R6:=@of_decide_eq_true
def Vp:=@Bool.and_eq_true
def Jy:=@Nat.le_trans
def Q6:=@Bool.false_ne_true
def Gb:=@Heap.get?_push_size
def Jw:=@Heap.lt_size
def dz:=@List.length_take
def N0o:=@Nat.lt_of_le_of_lt
def Wz:=@Nat.zero_le
def Ln:=@Array.length_toList
def Cq:=@Nat.ne_of_lt
def tj:=@List.all_eq_true
def Xd:=@Bool.and_eq_true_iff
def Cw:=@decide_eq_false
def de:=@List.mem_append_right
def T0g:=@List.take_length
def iv:=@Array.getElem?_eq_getElem
end
namespace L2
open PySem PySem.Spec PyProof.Rows
noncomputable def inClass(s:Stmt)(j:Nat):Stmt:=match s with
 | .ClassDef _ _ _ body _ _ _ _ _ _ _=>body.getD j (.Pass ⟨0,0,0,0⟩)
 | _=>.Pass ⟨0,0,0,0⟩
noncomputable def Vx(s:Stmt):Arguments:=match s with
 | .FunctionDef _ a _ _ _ _ _ _ _ _=>a
 | _=>{ posonlyargs:=[],args:=[],vararg:=none,kwonlyargs:=[],kw_defaults:=[],kwarg:=none,defaults:=[] }
def Z0(s:Stmt):List Stmt:=match s with
 | .FunctionDef _ _ b _ _ _ _ _ _ _=>b
 | _=>[]
noncomputable def Zx(s:Stmt):Scope:=match s with
 | .FunctionDef _ _ _ _ _ _ sc _ _ _=>sc
 | _=>{ kind:=.function,names:=[],isGenerator:=false,isCoroutine:=false }
end L2
namespace K62
open PySem PySem.Spec PyProof.Rows
noncomputable def top(i:Nat):Stmt:=PySem.Challenge.pw_makes_k62_who_can_follow.main.body.getD i (.Pass ⟨0,0,0,0⟩)
end K62
namespace L2
open PySem PySem.W PySem.Calls PyProof.Rows
section
variable{tb:String->Option Builtin}{p:Program}{w:World}{m:Nat}{a:ZF}
def rx(tb:String->Option Builtin)(p:Program)(w:World)(m:Nat)(a:ZF):Nat->SharedT->Thread->Option SharedT
 | 0,_,_=>none
 | k+1,s,t=>bif through t then some s else bif stepOk m a t then (match stepT (denote tb) p w s t with | some (s',t')=>rx tb p w m a k s' t' | none=>none) else none
theorem A2:∀{k:Nat} {s s':SharedT} {t:Thread},rx tb p w m a k s t=some s'->topRun tb p w m a k s.abs t=some s'.abs
 | 0,_,_,_,h=>by cases h
 | k+1,s,s',t,h=>by
  unfold rx at h;unfold topRun;cases ht:through t with
  | true=>rw[ht]at h;cases h;rfl
  | false =>
   rw[ht]at h;cases hk:stepOk m a t with
   | false=>rw[hk]at h;cases h
   | true =>
    rw[hk]at h;cases hs:stepT (denote tb) p w s t with
    | none=>rw[hs]at h;cases h
    | some r =>
     obtain⟨s₂,t₂⟩:=r;rw[hs]at h;rw[stepT_spec hs];exact A2 h
end
noncomputable def mkT:List Obj->Nat->BT->BT
 | [],_,t=>t
 | o::l,i,t=>mkT l (i+1) (t.ins i o)
noncomputable abbrev Se(w:World)(os:OsState):Shared:=⟨boot_heap w.params,Array.mk [],boot_drawn,boot_toks,os⟩
noncomputable abbrev Zzu(w:World)(os:OsState):SharedT:=⟨mkT (boot_heap w.params).objs.toList 0 .nil,(boot_heap w.params).objs.size,(boot_heap w.params).life,Array.mk [],boot_drawn,boot_toks,os⟩
theorem boot_abs(w:World)(os:OsState):(Zzu w os).abs=Se w os:=by kernel_rfl
noncomputable abbrev R8(p:Program)(N:Nat)(w:World)(os:OsState):Option SharedT:=rx treeTable p w (boot_heap w.params).objs.size ((boot_heap w.params).nsMap mainGlobals "__annotations__") N (Zzu w os) (topStub p)
noncomputable abbrev bg(p:Program)(w:World)(s:Shared):Bool:=staticsOk (importedModules p.main.body) (boot_heap w.params) s.heap && namesBound p s.heap && gensDone s && laidKept (boot_heap w.params) s.heap
theorem ns_ok(w:World):((boot_heap w.params).isNs mainGlobals && (Array.mk []:Array GenState).size == 0)=true:=by kernel_rfl
theorem Dg{j:Type _}{o:Option SharedT}{f:Shared->j}{r:j}(h:(o.map fun s=>f s.abs)=some r):∃s,o=some s/\f s.abs=r:=by
 obtain⟨s,e,q⟩:=Y3.mp h;exact⟨s,e,q⟩
theorem top_of{j l:Type}{p:Program}{N:Nat}{w:World}{os:OsState}{f:Shared->j}{g:Shared->l}{x:j}{y:l}(h1:((R8 p N w os).map fun s=>bg p w s.abs)=some true)
  (h2:((R8 p N w os).map fun s=>f s.abs)=some x) (h3:((R8 p N w os).map fun s=>g s.abs)=some y) :
  (topFrom treeTable p w N (Se w os)).map (fun s=>(f s,g s))=some (x,y):=by
 obtain⟨s,e,c⟩:=Dg h1;obtain⟨s2,e2,c2⟩:=Dg h2;obtain⟨s3,e3,c3⟩:=Dg h3;rw[e]at e2 e3;cases e2;cases e3;have r:=A2 e;rw[boot_abs]at r;unfold topFrom;rw[show ((Se w os).heap.isNs mainGlobals && (Se w os).gens.size == 0)=true from ns_ok w];show Option.map _ (Option.bind (topRun treeTable p w (boot_heap w.params).objs.size ((boot_heap w.params).nsMap mainGlobals "__annotations__") N (Se w os) (topStub p)) _)=_;rw[r];show Option.map _ (match bg p w s.abs with | true=>some s.abs | false=>none)=_;rw[c];show some (f s.abs,g s.abs)=_;rw[c2,c3]
end L2
namespace K62
open PySem PySem.Spec PyProof.Rows L2
def viewK:Program:={ PySem.Challenge.pw_makes_k62_who_can_follow with main:={ PySem.Challenge.pw_makes_k62_who_can_follow.main with body:=[top 1,top 2,top 3,top 4,top 5,top 6,top 7,top 8,top 9,top 10,top 11,top 12,top 14,top 15,top 16,top 17,top 18,top 19,top 20,top 21,top 22,top 23,top 24,top 25,top 26,top 28,top 29,top 30,top 31,top 32,top 33,top 34,top 35,top 37,top 38,top 39,top 40,top 42,top 43,top 45,top 46,top 47,top 48,top 49,top 50,top 51,top 52,top 53,top 54,top 55,top 56,top 57,top 59,top 60,top 61,top 62,top 63,top 64,top 65,top 66,top 67,top 68,top 69,top 70,top 71,top 72,top 73,top 74,top 75,top 76] } }
def Yz:ZG:=["SIZES","SORTS_FOR"]
abbrev en(P:Params)(x:Str)(t:Tok)(v:Value):DictEntry:=⟨PyData.keyHash P x,.str x t,v⟩
abbrev fo(cls:Value)(nm q:Str)(s:Stmt)(kw doc pm:Value)(an:ZR)(cd ct:Value)(sl:ZY):Obj:=⟨cls,none,.func (W.fnOf nm q (L2.Vx s) (L2.Z0 s) (L2.Zx s) .none kw doc pm an cd ct),sl⟩
abbrev fn(nm q:Str)(s:Stmt)(md:Str)(t:Nat)(c:Addr):Obj:=fo (.type "function") nm q s .none .none (.str md t) .none (.ref c) .none #[]
abbrev cd(x:Str)(a:Nat)(q:Str)(b c:Nat)(l k:Int)(r1 r2 r3 r4 r5:Addr)(e f:Int)(g:Nat):Obj:=⟨.type "code",.none,.fields #[.str x a,.str q b,.str "/claim/cut.py" c,.int l 0,.int k 0,.int 0 0,.int 0 0,.int 3 0,.ref r1,.bool Bool.true,.int 181 0,.ref r2,.none,.ref r3,.ref r4,.ref r5,.int e 0,.int f 0,.str "/claim/cut.py" g], #[]⟩
abbrev Gj(x:Str)(a:Nat)(l k:Int)(r e:Nat):Obj:=cd x a x (a+1) (a+2) l k r (r+1) (r+2) (r+3) (r+4) e l (e+1)
abbrev Q8(x:Str)(a:Nat)(l k:Int)(r e:Nat):Obj:=⟨.type "code",.none,.fields #[.str x a,.str x (a+1),.str "/claim/cut.py" (a+2),.int l 0,.int k 0,.int 0 0,.int 0 0,.int 3 0,.ref r,.bool Bool.true,.int 181 0,.ref (r+1),.none,.none,.none,.ref (r+2),.int e 0,.int l 0,.str "/claim/cut.py" (e+1)], #[]⟩
abbrev fnA(x:Str)(i:Nat)(c:Addr):Obj:=fn x x (top i) "makes.items" 187 c
abbrev gc(x:Str)(i:Nat)(c:Addr):Obj:=fn x x (top i) "makes.shapes" 242 c
abbrev fnC(x:Str)(i:Nat)(c:Addr):Obj:=fn x x (top i) "makes.forms" 328 c
abbrev fnD(x:Str)(i:Nat)(c:Addr):Obj:=fn x x (top i) "makes.history" 382 c
abbrev gf(x:Str)(i:Nat)(c:Addr):Obj:=fn x x (top i) "makes.deeds" 461 c
abbrev Q7(x:Str)(i:Nat)(c:Addr):Obj:=fn x x (top i) "law_makes_k62_who_can_follow" 599 c
noncomputable def heapK:Params->W.Frag:=fun P =>
 (nat_lit 3, ⟨.type "dict", .none, .dict #[en P "__name__" 165 (.str "law_makes_k62_who_can_follow" 599), en P "__doc__" 166 (.none), en P "__package__" 167 (.none), en P "__loader__" 168 (.builtin "__main__.__loader__#opaque"), en P "__spec__" 169 (.none), en P "__annotations__" 170 (.ref 6), en P "__builtins__" 171 (.ref 4), en P "__file__" 173 (.str "/claim/cut.py" 172), en P "__cached__" 174 (.none), en P "LETTERS" 190 (.str "abcdefghijklmnopqrstuvwxyz" 189), en P "SIGNS" 192 (.str " !\"#$&'()*+,-./0123456789:;<=>?@ABCDEFGHIJKLMNOPQRSTUVWXYZ[\\]^_`abcdefghijklmnopqrstuvwxyz{|}~" 191), en P "GREATEST_WHOLE" 194 (.int 1000000000000000000 193), en P "GREATEST_NUMBER" 196 (.int 999 195), en P "LONGEST_TEXT" 198 (.int 200 197), en P "LONGEST_NAME" 200 (.int 8 199), en P "is_whole" 209 (.ref 21), en P "is_item_whole" 216 (.ref 28), en P "is_number" 223 (.ref 35), en P "is_text" 229 (.ref 40), en P "is_name" 235 (.ref 45), en P "rises" 241 (.ref 50), en P "MOST_PARTS" 245 (.int 20 244), en P "MOST_FIELDS" 247 (.int 8 246), en P "is_shape" 255 (.ref 57), en P "are_bounds" 263 (.ref 64), en P "are_members" 269 (.ref 69), en P "is_struck" 275 (.ref 74), en P "is_short_tuple" 282 (.ref 81), en P "is_field" 289 (.ref 88), en P "is_default" 296 (.ref 95), en P "is_arm" 303 (.ref 102), en P "is_single_value" 311 (.ref 109), en P "member_of" 320 (.ref 116), en P "may_be_left_out" 327 (.ref 123), en P "MOST_FORMS" 331 (.int 8 330), en P "is_make" 337 (.ref 128), en P "form_of" 345 (.ref 135), en P "is_form" 353 (.ref 142), en P "are_forms" 359 (.ref 147), en P "fits_in" 365 (.ref 152), en P "ofs_of" 371 (.ref 157), en P "fits_default" 381 (.ref 164), en P "cannot_follow" 393 (.ref 171), en P "break_between" 399 (.ref 176), en P "is_turned" 407 (.ref 183), en P "life_in" 415 (.ref 190), en P "MakeError" 435 (.ref 200), en P "BadDeed" 460 (.ref 220), en P "SIZES" 484 (.ref 223), en P "SORTS_FOR" 508 (.ref 224), en P "done" 519 (.ref 237), en P "fault_of" 528 (.ref 244), en P "is_deed" 535 (.ref 251), en P "fault_of_form" 543 (.ref 258), en P "is_thing_for" 551 (.ref 265), en P "fault_of_member" 561 (.ref 272), en P "is_name_beside" 567 (.ref 277), en P "is_narrower" 576 (.ref 284), en P "shape_behind" 582 (.ref 289), en P "number_of" 589 (.ref 296), en P "renamed" 598 (.ref 303), en P "_law_tape" 607 (.ref 310), en P "_law_draw" 619 (.ref 317), en P "_law_plain" 629 (.ref 324), en P "_law_default" 637 (.ref 331), en P "_law_part" 650 (.ref 338), en P "_law_parted" 656 (.ref 343), en P "_law_plains" 665 (.ref 350), en P "_law_make" 681 (.ref 357), en P "_law_alike" 687 (.ref 362), en P "_law_near" 696 (.ref 369), en P "_law_turned" 702 (.ref 374), en P "_law_next" 712 (.ref 381), en P "_law_deed" 718 (.ref 386), en P "_law_tried" 728 (.ref 393), en P "_law_form_word" 734 (.ref 398), en P "_law_follow_word" 740 (.ref 403), en P "_law_right" 749 (.ref 410), en P "law" 762 (.ref 417)] 79, #[]⟩) ::
 (nat_lit 20,Gj "is_whole" 201 8 3 15 207) ::
 (nat_lit 21,fnA "is_whole" 7 20) ::
 (nat_lit 27,Gj "is_item_whole" 210 10 1 22 214) ::
 (nat_lit 28,fnA "is_item_whole" 8 27) ::
 (nat_lit 34,Gj "is_number" 217 12 1 29 221) ::
 (nat_lit 35,fnA "is_number" 9 34) ::
 (nat_lit 39,Q8 "is_text" 224 14 2 36 227) ::
 (nat_lit 40,fnA "is_text" 10 39) ::
 (nat_lit 44,Q8 "is_name" 230 16 1 41 233) ::
 (nat_lit 45,fnA "is_name" 11 44) ::
 (nat_lit 49,Q8 "rises" 236 20 1 46 239) ::
 (nat_lit 50,fnA "rises" 12 49) ::
 (nat_lit 56,Gj "is_shape" 248 25 1 51 253) ::
 (nat_lit 57,gc "is_shape" 16 56) ::
 (nat_lit 63,Gj "are_bounds" 256 42 2 58 261) ::
 (nat_lit 64,gc "are_bounds" 17 63) ::
 (nat_lit 68,Q8 "are_members" 264 44 3 65 267) ::
 (nat_lit 69,gc "are_members" 18 68) ::
 (nat_lit 73,Q8 "is_struck" 270 50 2 70 273) ::
 (nat_lit 74,gc "is_struck" 19 73) ::
 (nat_lit 80,Gj "is_short_tuple" 276 54 1 75 280) ::
 (nat_lit 81,gc "is_short_tuple" 20 80) ::
 (nat_lit 87,Gj "is_field" 283 56 1 82 287) ::
 (nat_lit 88,gc "is_field" 21 87) ::
 (nat_lit 94,Gj "is_default" 290 58 1 89 294) ::
 (nat_lit 95,gc "is_default" 22 94) ::
 (nat_lit 101,Gj "is_arm" 297 60 1 96 301) ::
 (nat_lit 102,gc "is_arm" 23 101) ::
 (nat_lit 108,Gj "is_single_value" 304 64 2 103 309) ::
 (nat_lit 109,gc "is_single_value" 24 108) ::
 (nat_lit 115,Gj "member_of" 312 70 2 110 318) ::
 (nat_lit 116,gc "member_of" 25 115) ::
 (nat_lit 122,Gj "may_be_left_out" 321 75 1 117 325) ::
 (nat_lit 123,gc "may_be_left_out" 26 122) ::
 (nat_lit 127,Q8 "is_make" 332 79 1 124 335) ::
 (nat_lit 128,fnC "is_make" 29 127) ::
 (nat_lit 134,Gj "form_of" 338 87 2 129 343) ::
 (nat_lit 135,fnC "form_of" 30 134) ::
 (nat_lit 141,Gj "is_form" 346 89 2 136 351) ::
 (nat_lit 142,fnC "is_form" 31 141) ::
 (nat_lit 146,Q8 "are_forms" 354 91 1 143 357) ::
 (nat_lit 147,fnC "are_forms" 32 146) ::
 (nat_lit 151,Q8 "fits_in" 360 95 2 148 363) ::
 (nat_lit 152,fnC "fits_in" 33 151) ::
 (nat_lit 156,Q8 "ofs_of" 366 99 1 153 369) ::
 (nat_lit 157,fnC "ofs_of" 34 156) ::
 (nat_lit 163,Gj "fits_default" 372 105 2 158 379) ::
 (nat_lit 164,fnC "fits_default" 35 163) ::
 (nat_lit 170,Gj "cannot_follow" 384 114 2 165 391) ::
 (nat_lit 171,fnD "cannot_follow" 37 170) ::
 (nat_lit 175,Q8 "break_between" 394 122 2 172 397) ::
 (nat_lit 176,fnD "break_between" 38 175) ::
 (nat_lit 182,Gj "is_turned" 400 134 2 177 405) ::
 (nat_lit 183,fnD "is_turned" 39 182) ::
 (nat_lit 189,Gj "life_in" 408 136 2 184 413) ::
 (nat_lit 190,fnD "life_in" 40 189) ::
 (nat_lit 199,⟨.type "dict",.none,.dict #[en P "__module__" 425 (.str "makes.errors" 416),en P "__firstlineno__" 429 (.int 143 428),en P "__static_attributes__" 430 (.ref 198),en P "__weakref__" 432 (.ref 201),en P "__doc__" 433 (.none)] 3, #[]⟩) ::
 (nat_lit 200,⟨.type "type",.none,.cls { name:="MakeError",bases:=[.type "ValueError"],mro:=[.ref 200,.type "ValueError",.type "Exception",.type "BaseException",.type "object"],ns:=199,qualname:="MakeError",subclasses:=[.ref 220] }, #[.some (.ref 191),.none,.some (.str "MakeError" 418),.some (.str "MakeError" 426),.some (.builtin "ValueError.__new__"),.some (.bool Bool.true)]⟩) ::
 (nat_lit 216,cd "__init__" 448 "BadDeed.__init__" 449 450 147 2 211 212 213 214 215 453 147 454) ::
 (nat_lit 217,fn "__init__" "BadDeed.__init__" (inClass (top 43) 0) "makes.errors" 416 216) ::
 (nat_lit 219,⟨.type "dict",.none,.dict #[en P "__module__" 443 (.str "makes.errors" 416),en P "__firstlineno__" 447 (.int 145 446),en P "__init__" 455 (.ref 217),en P "__static_attributes__" 457 (.ref 218),en P "__doc__" 458 (.none)] 2, #[]⟩) ::
 (nat_lit 220,⟨.type "type",.none,.cls { name:="BadDeed",bases:=[.ref 200],mro:=[.ref 220,.ref 200,.type "ValueError",.type "Exception",.type "BaseException",.type "object"],ns:=219,qualname:="BadDeed" }, #[.some (.ref 204),.none,.some (.str "BadDeed" 436),.some (.str "BadDeed" 444),.some (.builtin "ValueError.__new__"),.some (.bool Bool.true)]⟩) ::
 (nat_lit 223,⟨.type "dict",.none,.dict #[en P "add" 463 (.int 3 464),en P "strike" 465 (.int 3 466),en P "rename" 467 (.int 4 468),en P "widen" 469 (.int 3 470),en P "arm" 471 (.int 3 472),en P "open" 473 (.int 2 474),en P "form" 475 (.int 3 476)] 7, #[]⟩) ::
 (nat_lit 224,⟨.type "dict",.none,.dict #[en P "add" 485 (.ref 225),en P "strike" 487 (.ref 226),en P "rename" 490 (.ref 227),en P "widen" 493 (.ref 228),en P "arm" 498 (.ref 229),en P "open" 500 (.ref 230)] 6, #[]⟩) ::
 (nat_lit 225,⟨.type "tuple",.none,.seq #[.str "record" 486], #[]⟩) ::
 (nat_lit 226,⟨.type "tuple",.none,.seq #[.str "record" 488,.str "choice" 489], #[]⟩) ::
 (nat_lit 227,⟨.type "tuple",.none,.seq #[.str "record" 491,.str "choice" 492], #[]⟩) ::
 (nat_lit 228,⟨.type "tuple",.none,.seq #[.str "whole" 494,.str "text" 495,.str "row" 496,.str "map" 497], #[]⟩) ::
 (nat_lit 229,⟨.type "tuple",.none,.seq #[.str "choice" 499], #[]⟩) ::
 (nat_lit 230,⟨.type "tuple",.none,.seq #[.str "choice" 501], #[]⟩) ::
 (nat_lit 236,Gj "done" 509 152 2 231 517) ::
 (nat_lit 237,gf "done" 47 236) ::
 (nat_lit 243,Gj "fault_of" 520 162 2 238 526) ::
 (nat_lit 244,gf "fault_of" 48 243) ::
 (nat_lit 250,Gj "is_deed" 529 177 1 245 533) ::
 (nat_lit 251,gf "is_deed" 49 250) ::
 (nat_lit 257,Gj "fault_of_form" 536 181 2 252 541) ::
 (nat_lit 258,gf "fault_of_form" 50 257) ::
 (nat_lit 264,Gj "is_thing_for" 544 185 1 259 549) ::
 (nat_lit 265,gf "is_thing_for" 51 264) ::
 (nat_lit 271,Gj "fault_of_member" 552 196 2 266 559) ::
 (nat_lit 272,gf "fault_of_member" 52 271) ::
 (nat_lit 276,Q8 "is_name_beside" 562 208 3 273 565) ::
 (nat_lit 277,gf "is_name_beside" 53 276) ::
 (nat_lit 283,Gj "is_narrower" 568 210 2 278 574) ::
 (nat_lit 284,gf "is_narrower" 54 283) ::
 (nat_lit 288,Q8 "shape_behind" 577 219 2 285 580) ::
 (nat_lit 289,gf "shape_behind" 55 288) ::
 (nat_lit 295,Gj "number_of" 583 235 1 290 587) ::
 (nat_lit 296,gf "number_of" 56 295) ::
 (nat_lit 302,Gj "renamed" 590 237 3 297 596) ::
 (nat_lit 303,gf "renamed" 57 302) ::
 (nat_lit 309,Gj "_law_tape" 601 240 1 304 605) ::
 (nat_lit 310,Q7 "_law_tape" 59 309) ::
 (nat_lit 316,Gj "_law_draw" 608 242 2 311 617) ::
 (nat_lit 317,Q7 "_law_draw" 60 316) ::
 (nat_lit 323,Gj "_law_plain" 620 256 3 318 627) ::
 (nat_lit 324,Q7 "_law_plain" 61 323) ::
 (nat_lit 330,Gj "_law_default" 630 265 2 325 635) ::
 (nat_lit 331,Q7 "_law_default" 62 330) ::
 (nat_lit 337,Gj "_law_part" 638 273 5 332 648) ::
 (nat_lit 338,Q7 "_law_part" 63 337) ::
 (nat_lit 342,Q8 "_law_parted" 651 284 4 339 654) ::
 (nat_lit 343,Q7 "_law_parted" 64 342) ::
 (nat_lit 349,Gj "_law_plains" 657 292 1 344 663) ::
 (nat_lit 350,Q7 "_law_plains" 65 349) ::
 (nat_lit 356,Gj "_law_make" 666 298 1 351 679) ::
 (nat_lit 357,Q7 "_law_make" 66 356) ::
 (nat_lit 361,Q8 "_law_alike" 682 315 2 358 685) ::
 (nat_lit 362,Q7 "_law_alike" 67 361) ::
 (nat_lit 368,Gj "_law_near" 688 331 2 363 694) ::
 (nat_lit 369,Q7 "_law_near" 68 368) ::
 (nat_lit 373,Q8 "_law_turned" 697 338 2 370 700) ::
 (nat_lit 374,Q7 "_law_turned" 69 373) ::
 (nat_lit 380,Gj "_law_next" 703 369 3 375 710) ::
 (nat_lit 381,Q7 "_law_next" 70 380) ::
 (nat_lit 385,Q8 "_law_deed" 713 373 2 382 716) ::
 (nat_lit 386,Q7 "_law_deed" 71 385) ::
 (nat_lit 392,Gj "_law_tried" 719 397 2 387 726) ::
 (nat_lit 393,Q7 "_law_tried" 72 392) ::
 (nat_lit 397,Q8 "_law_form_word" 729 404 2 394 732) ::
 (nat_lit 398,Q7 "_law_form_word" 73 397) ::
 (nat_lit 402,Q8 "_law_follow_word" 735 418 2 399 738) ::
 (nat_lit 403,Q7 "_law_follow_word" 74 402) ::
 (nat_lit 409,Gj "_law_right" 741 424 2 404 747) ::
 (nat_lit 410,Q7 "_law_right" 75 409) ::
 (nat_lit 416,Gj "law" 750 429 1 411 760) ::
 (nat_lit 417,Q7 "law" 76 416) ::
 []
def asK:ZS:=[3,20,21,27,28,34,35,39,40,44,45,49,50,56,57,63,64,68,69,73,74,80,81,87,88,94,95,101,102,108,109,115,116,122,123,127,128,134,135,141,142,146,147,151,152,156,157,163,164,170,171,175,176,182,183,189,190,199,200,216,217,219,220,223,224,225,226,227,228,229,230,236,237,243,244,250,251,257,258,264,265,271,272,276,277,283,284,288,289,295,296,302,303,309,310,316,317,323,324,330,331,337,338,342,343,349,350,356,357,361,362,368,369,373,374,380,381,385,386,392,393,397,398,402,403,409,410,416,417]
theorem Qo(P:Params):asK=(heapK P).map (·.1):=by kernel_rfl
noncomputable abbrev D9:W.Hook:=W.kHook heapK asK Qo
abbrev xtK(s:Shared):Bool:=W.xlAt viewK [] s && W.recOk (W.RowW.records PySem.Challenge.rw_makes_k62_who_can_follow.row.toRowW) s
abbrev Az(w:World):Prop:=(W.openEnds treeTable PySem.Challenge.pw_makes_k62_who_can_follow w 5086).map (fun s=>(W.openSeen viewK Yz (importedModules PySem.Challenge.pw_makes_k62_who_can_follow.main.body) xtK true s,D9.obs s))=some (W.openGood viewK Yz,D9.val w)
abbrev V3(s:Shared):=W.openSeen viewK Yz (importedModules PySem.Challenge.pw_makes_k62_who_can_follow.main.body) xtK true s
abbrev wK(w:World)(b:Bool):World:=w.withFollow "special-get-raises" b
theorem chkF(w:World)(os:OsState):((L2.R8 PySem.Challenge.pw_makes_k62_who_can_follow 5086 (wK w false) os).map fun s=>L2.bg PySem.Challenge.pw_makes_k62_who_can_follow (wK w false) s.abs)=some true:=by kernel_rfl
theorem chkR(w:World)(os:OsState):((L2.R8 PySem.Challenge.pw_makes_k62_who_can_follow 5086 (wK w true) os).map fun s=>L2.bg PySem.Challenge.pw_makes_k62_who_can_follow (wK w true) s.abs)=some true:=by kernel_rfl
theorem seenF1(w:World)(os:OsState):((L2.R8 PySem.Challenge.pw_makes_k62_who_can_follow 5086 (wK w false) os).map fun s=>(V3 s.abs).1)=some (W.openGood viewK Yz).1:=by kernel_rfl
theorem seenF2(w:World)(os:OsState):((L2.R8 PySem.Challenge.pw_makes_k62_who_can_follow 5086 (wK w false) os).map fun s=>(V3 s.abs).2.1)=some (W.openGood viewK Yz).2.1:=by kernel_rfl
theorem seenF3(w:World)(os:OsState):((L2.R8 PySem.Challenge.pw_makes_k62_who_can_follow 5086 (wK w false) os).map fun s=>(V3 s.abs).2.2)=some (W.openGood viewK Yz).2.2:=by kernel_rfl
theorem seenT1(w:World)(os:OsState):((L2.R8 PySem.Challenge.pw_makes_k62_who_can_follow 5086 (wK w true) os).map fun s=>(V3 s.abs).1)=some (W.openGood viewK Yz).1:=by kernel_rfl
theorem seenT2(w:World)(os:OsState):((L2.R8 PySem.Challenge.pw_makes_k62_who_can_follow 5086 (wK w true) os).map fun s=>(V3 s.abs).2.1)=some (W.openGood viewK Yz).2.1:=by kernel_rfl
theorem seenT3(w:World)(os:OsState):((L2.R8 PySem.Challenge.pw_makes_k62_who_can_follow 5086 (wK w true) os).map fun s=>(V3 s.abs).2.2)=some (W.openGood viewK Yz).2.2:=by kernel_rfl
theorem A1{w:World}{os:OsState}(h1:((L2.R8 PySem.Challenge.pw_makes_k62_who_can_follow 5086 w os).map fun s=>(V3 s.abs).1)=some (W.openGood viewK Yz).1)(h2:((L2.R8 PySem.Challenge.pw_makes_k62_who_can_follow 5086 w os).map fun s=>(V3 s.abs).2.1)=some (W.openGood viewK Yz).2.1)
  (h3:((L2.R8 PySem.Challenge.pw_makes_k62_who_can_follow 5086 w os).map fun s=>(V3 s.abs).2.2)=some (W.openGood viewK Yz).2.2):((L2.R8 PySem.Challenge.pw_makes_k62_who_can_follow 5086 w os).map fun s=>V3 s.abs)=some (W.openGood viewK Yz):=by
 obtain⟨s,e,c1⟩:=L2.Dg (f:=fun s=>(V3 s).1) h1;obtain⟨s2,e2,c2⟩:=L2.Dg (f:=fun s=>(V3 s).2.1) h2;obtain⟨s3,e3,c3⟩:=L2.Dg (f:=fun s=>(V3 s).2.2) h3;rw[e]at e2 e3;cases e2;cases e3;rw[e];exact congrArg some (Prod.ext c1 (Prod.ext c2 c3))
theorem seenF(w:World)(os:OsState):((L2.R8 PySem.Challenge.pw_makes_k62_who_can_follow 5086 (wK w false) os).map fun s=>V3 s.abs)=some (W.openGood viewK Yz):=A1 (seenF1 w os) (seenF2 w os) (seenF3 w os)
theorem seenT(w:World)(os:OsState):((L2.R8 PySem.Challenge.pw_makes_k62_who_can_follow 5086 (wK w true) os).map fun s=>V3 s.abs)=some (W.openGood viewK Yz):=A1 (seenT1 w os) (seenT2 w os) (seenT3 w os)
theorem obsF(w:World)(os:OsState):((L2.R8 PySem.Challenge.pw_makes_k62_who_can_follow 5086 (wK w false) os).map fun s=>D9.obs s.abs)=some (D9.val (wK w false)):=by kernel_rfl
theorem obsT(w:World)(os:OsState):((L2.R8 PySem.Challenge.pw_makes_k62_who_can_follow 5086 (wK w true) os).map fun s=>D9.obs s.abs)=some (D9.val (wK w true)):=by kernel_rfl
theorem Ib(w:World)(h1:∀os,((L2.R8 PySem.Challenge.pw_makes_k62_who_can_follow 5086 w os).map fun s=>L2.bg PySem.Challenge.pw_makes_k62_who_can_follow w s.abs)=some true)(h2:∀os,((L2.R8 PySem.Challenge.pw_makes_k62_who_can_follow 5086 w os).map fun s=>V3 s.abs)=some (W.openGood viewK Yz))(h3:∀os,((L2.R8 PySem.Challenge.pw_makes_k62_who_can_follow 5086 w os).map fun s=>D9.obs s.abs)=some (D9.val w)):Az w:=by
 obtain⟨⟨hp,g,d,k,os⟩,hs,hv⟩:=Y3.mp (W.boot_open (p:=PySem.Challenge.pw_makes_k62_who_can_follow) (N:=5086) rfl (by decide) (fun s=>rfl) w);simp only[Prod.mk.injEq]at hv;obtain⟨rfl,rfl,rfl,rfl⟩:=hv;show Option.map _ (Option.bind (W.fencedOpening treeTable PySem.Challenge.pw_makes_k62_who_can_follow w 5086) (W.topFrom treeTable PySem.Challenge.pw_makes_k62_who_can_follow w 5086))=_;rw[hs];exact L2.top_of (h1 os) (h2 os) (h3 os)
theorem leftF(w:World):Az (w.withFollow "special-get-raises" false):=Ib _ (chkF w) (seenF w) (obsF w)
theorem leftT(w:World):Az (w.withFollow "special-get-raises" true):=Ib _ (chkR w) (seenT w) (obsT w)
theorem leftK:W.LeftO PySem.Challenge.pw_makes_k62_who_can_follow viewK Yz xtK D9.obs D9.val 5086:=W.byRow2 "special-get-raises" leftF leftT
end K62
namespace PySem.Heap
end PySem.Heap
namespace EnuT
open PySem
section
variable{prog:Program}{w:World}{A:Around}{E:ZQ}{s:Shared}
theorem nextT{it t:Addr}{i:Nat}{its:ZD}{x:Value}{Q:ZQ}(hi:s.heap.IsTupleIter it t i)(ht:s.heap.IsTuple t its)(hx:its[i]?=some x)
  (q:∀h',h'.IsTupleIter it t (i+1)->Heap.SameBut it s.heap h'->Q x { s with heap:=h' }):wpAny (model prog w) A (Builtin.SmallTypes.nextOf (.ref it)) Q E s:=by
 obtain⟨u,hu,hc,hd⟩:=id hi;obtain⟨p,hp,_,n,dp⟩:=ht;unfold Builtin.SmallTypes.nextOf;refine Zq (wpAny_callSpecial?_slot (name:=Str.ofString "__next__") hi.typeIs F.slot_tuple_iterator_next (wpAny_call_entry F.slot_tuple_iterator_next hi.typeIs F.entry_tuple_iterator_next ?_ (F.args_tuple_iterator_next_1 _)));show wpAny _ _ (field (.ref it) 0 >>= _) _ _ s;refine Zq (wpAny_field hu hd (x:=.ref t) rfl ?_);show wpAny _ _ (if (Value.ref t == Value.none)=true then _ else _) _ _ s;rw[if_neg (show ¬ ((Value.ref t == Value.none)=true) from Q6)];show wpAny _ _ (field (.ref it) 1 >>= _) _ _ s;refine Zq (wpAny_field hu hd (x:=.int i 0) rfl ?_);show wpAny _ _ (seqItems? (.ref t) >>= _) _ _ s;refine Zq (wpAny_seqItems hp dp ?_);simp only[XQ,hx];refine Zq (wpAny_setField hu hd (by simp) (Zt ⟨x,rfl,Zt (q _ ?_ (Heap.SameBut.update ..))⟩));exact⟨_,Heap.get?_update_self _ hu (Obj.isFreed_of_fields (Obj.data_mapFields hd _)),(Obj.cls_mapFields ..).trans hc,by rw[Obj.data_mapFields hd];simp[rawInt]⟩
theorem endT{it t:Addr}{i:Nat}{its:ZD}{Q:ZQ}(hh:A.handled=none)(hi:s.heap.IsTupleIter it t i)(ht:s.heap.IsTuple t its)(hx:its[i]?=none)
  (q:∀h' e,Heap.ExtBut it s.heap h'->(∃o,h'.get? e=some o/\o.cls=.type "StopIteration")->E (.ref e) { s with heap:=h' }):wpAny (model prog w) A (Builtin.SmallTypes.nextOf (.ref it)) Q E s:=by
 obtain⟨u,hu,hc,hd⟩:=id hi;obtain⟨p,hp,_,n,dp⟩:=ht;unfold Builtin.SmallTypes.nextOf;refine Zq (wpAny_callSpecial?_slot (name:=Str.ofString "__next__") hi.typeIs F.slot_tuple_iterator_next (wpAny_call_entry F.slot_tuple_iterator_next hi.typeIs F.entry_tuple_iterator_next ?_ (F.args_tuple_iterator_next_1 _)));show wpAny _ _ (field (.ref it) 0 >>= _) _ _ s;refine Zq (wpAny_field hu hd (x:=.ref t) rfl ?_);show wpAny _ _ (if (Value.ref t == Value.none)=true then _ else _) _ _ s;rw[if_neg (show ¬ ((Value.ref t == Value.none)=true) from Q6)];show wpAny _ _ (field (.ref it) 1 >>= _) _ _ s;refine Zq (wpAny_field hu hd (x:=.int i 0) rfl ?_);show wpAny _ _ (seqItems? (.ref t) >>= _) _ _ s;refine Zq (wpAny_seqItems hp dp ?_);simp only[XQ,hx];refine Zq (wpAny_rule (Zq (wpAny_setField hu hd (by simp) ?_)));show wpAny _ _ (newExc (.type "StopIteration") [] >>= _) _ _ _;refine Zq ?_;simp only[newExc,newTuple];refine Zq (wpAny_newObj_type ?_ (by size_fits));refine Zq (m:=firstArgMember _ _) (wpAny_of_eq (a:=Value.none) (by first | rfl | (simp only[firstArgMember];rfl)) ?_);refine wpAny_newObj_type ?_ (by size_fits);simp only[raiseNew];refine Zq (wpAny_handled ?_)
 first | rw[show A.in1.handled=none from hh] | rw[hh]
 refine Zq (Zt (wpAny_throw ?_));exact q _ _ (((Heap.SameBut.update ..).extBut.push _).push _) ⟨_,Gb _ rfl,rfl⟩
end
section
variable{prog:Program}{w:World}{A:Around}{E:ZQ}{s:Shared}
end
end EnuT
namespace ZipT
open PySem
theorem Ub{h h':Heap}{b i t:Addr}{k:Nat}(st:h.IsTupleIter i t k)(e:Heap.ExtBut b h h')(n:i≠b):h'.IsTupleIter i t k:=let ⟨o,ho,r⟩:=st;⟨o,e _ _ n ho,r⟩
theorem tupK{h h':Heap}{b t:Addr}{xs:ZD}(st:h.IsTuple t xs)(e:Heap.ExtBut b h h')(n:t≠b):h'.IsTuple t xs:=let ⟨o,ho,r⟩:=st;⟨o,e _ _ n ho,r⟩
section
variable{prog:Program}{w:World}{A:Around}{E:ZQ}{s:Shared}{z TI TO i1 i2 t1 t2:Addr}{k:Nat}{xs ys:ZD}{x y a b:Value}
theorem itemT{Q:ZQ}(D:ZipApart z TI TO i1 i2 t1 t2)(hz:IsZip s.heap z TI TO .none)(hI:IsPair s.heap TI (.ref i1) (.ref i2))(hO:IsPair s.heap TO a b)(j1:s.heap.IsTupleIter i1 t1 k)(j2:s.heap.IsTupleIter i2 t2 k)(p1:s.heap.IsTuple t1 xs)(p2:s.heap.IsTuple t2 ys)(hx:xs[k]?=some x)(hy:ys[k]?=some y)
  (q:∀h',IsZip h' z TI TO (rawInt s.heap.objs.size)->IsPair h' TO x y->h'.IsTupleIter i1 t1 (k+1)->h'.IsTupleIter i2 t2 (k+1)->IsPair h' s.heap.objs.size x y->h'.objs.size=s.heap.objs.size+1->(∀c o,c≠z->c≠TO->c≠i1->c≠i2->s.heap.get? c=some o->h'.get? c=some o)->Q (.ref s.heap.objs.size) { s with heap:=h' }) :
  wpAny (model prog w) A (Builtin.«zip.__next__» ⟨[.ref z],[]⟩) (fun fin s'=>∃v,fin=.done (.ret v)/\Q v s') E s:=by
 show wpAny _ _ (field (.ref z) 2 >>= _) _ _ _;refine Zq (wpAny_field hz rfl (x:=.bool false) rfl ?_);show wpAny _ _ (field (.ref z) 3 >>= _) _ _ _;refine Zq (wpAny_field hz rfl (x:=.ref TI) rfl (Zq (wpAny_seqItems hI rfl ?_)));show wpAny _ _ (Builtin.SmallTypes.ownedTupleIsFree (.ref z) >>= _) _ _ _;refine Zq ?_;unfold Builtin.SmallTypes.ownedTupleIsFree;refine Zq (wpAny_field hz rfl (x:=.none) rfl (Zt ?_));simp only[if_true];refine Zq (wpAny_rule (Zq (wpAny_field hz rfl (x:=.ref TO) rfl ?_)));refine Zq (wpAny_setField_rec hz (by simp) fun g1 Ih e1=>?_);replace Ih:IsZip g1 z TI TO .ellipsis:=Ih;refine Zq ?_;simp only[List.zipIdx_cons,List.zipIdx_nil,List.forIn_cons,List.forIn_nil];refine Zq (Zq (wpAny_onRaise ?_));show wpAny _ _ (Builtin.SmallTypes.nextOf (.ref i1) >>= _) _ _ _;refine Zq (EnuT.nextT (Ub j1 e1.extBut D.i1z) (tupK p1 e1.extBut D.l1z) hx fun g2 j12 e2=>Zt ?_);have hO2:IsPair g2 TO a b:=e2.extBut _ _ D.TOi1 (e1.extBut _ _ D.TOz hO);refine Zq (wpAny_seqItems hO2 rfl (Zq (wpAny_updateSeq_pair hO2 fun g3 hO3 e3=>?_)));replace hO3:IsPair g3 TO x b:=hO3;refine Zq (wpAny_letGo (Zt (Zq (Zq (wpAny_onRaise ?_)))));show wpAny _ _ (Builtin.SmallTypes.nextOf (.ref i2) >>= _) _ _ _;refine Zq (EnuT.nextT (Ub (Ub (Ub j2 e1.extBut D.i2z) e2.extBut D.i12.symm) e3.extBut D.TOi2.symm) (tupK (tupK (tupK p2 e1.extBut D.l2z) e2.extBut D.l2i1) e3.extBut D.l2TO) hy fun g4 j24 e4=>Zt ?_);have hO4:IsPair g4 TO x b:=e4.extBut _ _ D.TOi2 hO3;refine Zq (wpAny_seqItems hO4 rfl (Zq (wpAny_updateSeq_pair hO4 fun g5 hO5 e5=>?_)));replace hO5:IsPair g5 TO x y:=hO5;refine Zq (wpAny_letGo (Zt (Zt (Zq (wpAny_seqItems hO5 rfl (Zq (wpAny_newTuple ?_)))))));have sz:g5.objs.size=s.heap.objs.size:=by rw[e5.1,e4.1,e3.1,e2.1,e1.1]
 have hz5:IsZip g5 z TI TO .ellipsis:=e5.extBut _ _ D.TOz.symm (e4.extBut _ _ D.i2z.symm (e3.extBut _ _ D.TOz.symm (e2.extBut _ _ D.i1z.symm Ih)));have kp:∀c o,c≠z->c≠TO->c≠i1->c≠i2->s.heap.get? c=some o->g5.get? c=some o:=fun c o c1 c2 c3 c4 e=>e5.extBut _ _ c2 (e4.extBut _ _ c4 (e3.extBut _ _ c2 (e2.extBut _ _ c3 (e1.extBut _ _ c1 e))));have j15:g5.IsTupleIter i1 t1 (k+1):=Ub (Ub (Ub j12 e3.extBut D.TOi1.symm) e4.extBut D.i12) e5.extBut D.TOi1.symm;have j25:g5.IsTupleIter i2 t2 (k+1):=Ub j24 e5.extBut D.TOi2.symm;have zl:z<g5.objs.size:=Jw hz5;show wpAny _ _ (Builtin.SmallTypes.ownedTupleHandOut (.ref z) (.ref g5.objs.size) >>= _) _ _ _;refine Zq ?_;unfold Builtin.SmallTypes.ownedTupleHandOut;have hz6:IsZip (g5.push { cls:=.type "tuple",data:=.seq #[x,y] }) z TI TO .ellipsis:=Y4 _ hz5;refine Zq (wpAny_setField_rec hz6 (by simp) fun g7 hz7 e7=>?_);replace hz7:IsZip g7 z TI TO (rawInt g5.objs.size):=hz7;refine wpAny_setField_rec hz7 (by simp) fun g8 hz8 e8=>?_;replace hz8:IsZip g8 z TI TO (rawInt g5.objs.size):=hz8;have up:∀c o,c≠z->g5.get? c=some o->g8.get? c=some o:=fun c o c1 e=>e8.extBut _ _ c1 (e7.extBut _ _ c1 (Y4 _ e));have hT8:IsPair g8 g5.objs.size x y:=e8.extBut _ _ (Nat.ne_of_gt zl) (e7.extBut _ _ (Nat.ne_of_gt zl) (Gb _ rfl));have sz8:g8.objs.size=g5.objs.size+1:=by rw[e8.1,e7.1,Heap.size_push]
 rw[sz]at hz8 hT8 sz8;refine Zt ⟨_,rfl, ?_⟩;show Q (.ref g5.objs.size) _;rw[sz];exact q g8 hz8 (up _ _ D.TOz hO5) (let ⟨o,ho,r⟩:=j15;⟨o,up _ _ D.i1z ho,r⟩) (let ⟨o,ho,r⟩:=j25;⟨o,up _ _ D.i2z ho,r⟩) hT8 sz8 fun c o c1 c2 c3 c4 e=>up c o c1 (kp c o c1 c2 c3 c4 e)
theorem endT{Q:Fin->Shared->Prop}(hh:A.handled=none)(D:ZipApart z TI TO i1 i2 t1 t2)(hz:IsZip s.heap z TI TO .none)(hI:IsPair s.heap TI (.ref i1) (.ref i2))(hO:IsPair s.heap TO a b)(j1:s.heap.IsTupleIter i1 t1 k)(j2:s.heap.IsTupleIter i2 t2 k)(p1:s.heap.IsTuple t1 xs)(p2:s.heap.IsTuple t2 ys)(kh:xs[k]?=none\/ys[k]?=none)
  (q:∀h' e,(∀c o,c≠z->c≠TO->c≠i1->c≠i2->s.heap.get? c=some o->h'.get? c=some o)->(∃o,h'.get? e=some o/\o.cls=.type "StopIteration")->E (.ref e) { s with heap:=h' }) :
  wpAny (model prog w) A (Builtin.«zip.__next__» ⟨[.ref z],[]⟩) Q E s:=by
 show wpAny _ _ (field (.ref z) 2 >>= _) _ _ _;refine Zq (wpAny_field hz rfl (x:=.bool false) rfl ?_);show wpAny _ _ (field (.ref z) 3 >>= _) _ _ _;refine Zq (wpAny_field hz rfl (x:=.ref TI) rfl (Zq (wpAny_seqItems hI rfl ?_)));show wpAny _ _ (Builtin.SmallTypes.ownedTupleIsFree (.ref z) >>= _) _ _ _;refine Zq ?_;unfold Builtin.SmallTypes.ownedTupleIsFree;refine Zq (wpAny_field hz rfl (x:=.none) rfl (Zt ?_));simp only[if_true];refine Zq (wpAny_rule (Zq (wpAny_field hz rfl (x:=.ref TO) rfl ?_)));refine Zq (wpAny_setField_rec hz (by simp) fun g1 Ih e1=>?_);replace Ih:IsZip g1 z TI TO .ellipsis:=Ih;refine Zq ?_;simp only[List.zipIdx_cons,List.zipIdx_nil,List.forIn_cons,List.forIn_nil];refine Zq (Zq (wpAny_onRaise ?_));show wpAny _ _ (Builtin.SmallTypes.nextOf (.ref i1) >>= _) _ _ _;cases hx:xs[k]? with
 | none =>
  refine Zq (EnuT.endT hh (Ub j1 e1.extBut D.i1z) (tupK p1 e1.extBut D.l1z) hx fun g2 e e2 he=>?_);obtain⟨oe,hoe,hce⟩:=he;have hz2:IsZip g2 z TI TO .ellipsis:=e2 _ _ D.i1z.symm Ih;have ez:e≠z:=fun v=>by subst v;rw[hz2]at hoe;cases hoe;simp at hce
  exact wpAny_setField_rec hz2 (by simp) fun g3 _ e3=>q g3 e (fun c o c1 _ c3 _ v=>e3.extBut _ _ c1 (e2 _ _ c3 (e1.extBut _ _ c1 v))) ⟨oe,e3.extBut _ _ ez hoe,hce⟩
 | some x =>
  have hy:ys[k]?=none:=by rcases kh with h | h;rw[hx]at h;cases h;exact h
  refine Zq (EnuT.nextT (Ub j1 e1.extBut D.i1z) (tupK p1 e1.extBut D.l1z) hx fun g2 j12 e2=>Zt ?_);have hO2:IsPair g2 TO a b:=e2.extBut _ _ D.TOi1 (e1.extBut _ _ D.TOz hO);refine Zq (wpAny_seqItems hO2 rfl (Zq (wpAny_updateSeq_pair hO2 fun g3 hO3 e3=>?_)));refine Zq (wpAny_letGo (Zt (Zq (Zq (wpAny_onRaise ?_)))));show wpAny _ _ (Builtin.SmallTypes.nextOf (.ref i2) >>= _) _ _ _;refine Zq (EnuT.endT hh (Ub (Ub (Ub j2 e1.extBut D.i2z) e2.extBut D.i12.symm) e3.extBut D.TOi2.symm) (tupK (tupK (tupK p2 e1.extBut D.l2z) e2.extBut D.l2i1) e3.extBut D.l2TO) hy fun g4 e e4 he=>?_);obtain⟨oe,hoe,hce⟩:=he;have hz4:IsZip g4 z TI TO .ellipsis:=e4 _ _ D.i2z.symm (e3.extBut _ _ D.TOz.symm (e2.extBut _ _ D.i1z.symm Ih));have ez:e≠z:=fun v=>by subst v;rw[hz4]at hoe;cases hoe;simp at hce
  exact wpAny_setField_rec hz4 (by simp) fun g5 _ e5=>q g5 e (fun c o c1 c2 c3 c4 v=>e5.extBut _ _ c1 (e4 _ _ c4 (e3.extBut _ _ c2 (e2.extBut _ _ c3 (e1.extBut _ _ c1 v))))) ⟨oe,e5.extBut _ _ ez hoe,hce⟩
theorem yk{Q:ZF->Shared->Prop}(D:ZipApart z TI TO i1 i2 t1 t2)(hz:IsZip s.heap z TI TO .none)(hI:IsPair s.heap TI (.ref i1) (.ref i2))(hO:IsPair s.heap TO a b)(j1:s.heap.IsTupleIter i1 t1 k)(j2:s.heap.IsTupleIter i2 t2 k)(p1:s.heap.IsTuple t1 xs)(p2:s.heap.IsTuple t2 ys)(hx:xs[k]?=some x)(hy:ys[k]?=some y)
  (q:∀h',IsZip h' z TI TO (rawInt s.heap.objs.size)->IsPair h' TO x y->h'.IsTupleIter i1 t1 (k+1)->h'.IsTupleIter i2 t2 (k+1)->IsPair h' s.heap.objs.size x y->h'.objs.size=s.heap.objs.size+1->(∀c o,c≠z->c≠TO->c≠i1->c≠i2->s.heap.get? c=some o->h'.get? c=some o)->Q (some (.ref s.heap.objs.size)) { s with heap:=h' }) :
  wpAny (model prog w) A (pyNext (.ref z)) Q E s:=by
 have T:s.TypeIs (.ref z) "zip" := ⟨_,hz,rfl⟩;unfold pyNext;exact Zq (wpAny_attempt (wpAny_callSpecial?_slot (name:=Str.ofString "__next__") T F.slot_zip_next (wpAny_call_entry F.slot_zip_next T F.entry_zip_next (itemT D hz hI hO j1 j2 p1 p2 hx hy fun h' a1 a2 a3 a4 a5 a6 a7=>Zt (q h' a1 a2 a3 a4 a5 a6 a7)) (F.args_zip_next_1 _))))
theorem sg{Q:ZF->Shared->Prop}(hh:A.handled=none)(D:ZipApart z TI TO i1 i2 t1 t2)(hz:IsZip s.heap z TI TO .none)(hI:IsPair s.heap TI (.ref i1) (.ref i2))(hO:IsPair s.heap TO a b)(j1:s.heap.IsTupleIter i1 t1 k)(j2:s.heap.IsTupleIter i2 t2 k)(p1:s.heap.IsTuple t1 xs)(p2:s.heap.IsTuple t2 ys)(kh:xs[k]?=none\/ys[k]?=none)
  (q:∀h',(∀c o,c≠z->c≠TO->c≠i1->c≠i2->s.heap.get? c=some o->h'.get? c=some o)->Q none { s with heap:=h' }):wpAny (model prog w) A (pyNext (.ref z)) Q E s:=by
 have T:s.TypeIs (.ref z) "zip" := ⟨_,hz,rfl⟩;unfold pyNext;refine Zq (wpAny_attempt (wpAny_callSpecial?_slot (name:=Str.ofString "__next__") T F.slot_zip_next (wpAny_call_entry F.slot_zip_next T F.entry_zip_next (endT hh D hz hI hO j1 j2 p1 p2 kh fun h' e hk he=>?_) (F.args_zip_next_1 _))));obtain⟨o,ho,hc⟩:=he;exact Zq (wpAny_isInstance (T:="StopIteration") (b:=true) ⟨o,ho,hc⟩ isSubtype_stop (Zt (q _ hk)))
end
noncomputable abbrev H1(h:Heap)(l1:Addr):Heap:=h.push { cls:=.type "tuple_iterator",data:=.fields #[.ref l1,.int 0 0] }
noncomputable abbrev H2(h:Heap)(l1 l2:Addr):Heap:=(H1 h l1).push { cls:=.type "tuple_iterator",data:=.fields #[.ref l2,.int 0 0] }
noncomputable abbrev H3(h:Heap)(l1 l2:Addr):Heap:=(H2 h l1 l2).push { cls:=.type "tuple",data:=.seq #[.ref h.objs.size,.ref (H1 h l1).objs.size] }
noncomputable abbrev H4(h:Heap)(l1 l2:Addr):Heap:=(H3 h l1 l2).push { cls:=.type "tuple",data:=.seq #[.none,.none] }
noncomputable abbrev H5(h:Heap)(l1 l2:Addr):Heap:=(H4 h l1 l2).push { cls:=.type "zip",data:=.fields #[.none,.bool false,.bool false,.ref (H2 h l1 l2).objs.size,.ref (H3 h l1 l2).objs.size] }
theorem meets(l1 l2:Addr)(xs ys:ZD) :
  Meets (Builtin.«zip.__new__» ⟨[.type "zip",.ref l1,.ref l2],[]⟩) (fun _ R s=>s.heap.IsTuple l1 xs/\s.heap.IsTuple l2 ys /\
   R (.ok (.ret (.ref (H4 s.heap l1 l2).objs.size))) { s with heap:=H5 s.heap l1 l2 }) :=
 .of_wp fun prog w A R s h=>by
  obtain⟨hp,g,d,tk,os⟩:=s;obtain⟨hl1,hl2,h⟩:=h;have kg:=sub_zip;have hL1:Heap.IsTuple (Shared.heap ⟨hp,g,d,tk,os⟩) l1 xs:=hl1;have hL2:Heap.IsTuple (Shared.heap ⟨hp.push { cls:=.type "tuple_iterator",data:=.fields #[.ref l1,.int 0 0] },g,d,tk,os⟩) l2 ys:=let ⟨o,ho,r⟩:=hl2;⟨o,Y4 _ ho,r⟩
  wp_walk using wpAny_pyIter_tuple hL1,wpAny_pyIter_tuple hL2
  exact⟨_,rfl,h⟩
theorem call2{prog:Program}{w:World}{A:Around}{E:ZQ}{s:Shared}{l1 l2:Addr}{xs ys:ZD}{Q:ZQ}(hl1:s.heap.IsTuple l1 xs)(hl2:s.heap.IsTuple l2 ys)
  (h:∀h',IsZip h' (s.heap.objs.size+4) (s.heap.objs.size+2) (s.heap.objs.size+3) .none->IsPair h' (s.heap.objs.size+2) (.ref s.heap.objs.size) (.ref (s.heap.objs.size+1)) ->
   IsPair h' (s.heap.objs.size+3) .none .none->h'.IsTupleIter s.heap.objs.size l1 0->h'.IsTupleIter (s.heap.objs.size+1) l2 0->h'.objs.size=s.heap.objs.size+5 ->
   (∀c o,s.heap.get? c=some o->h'.get? c=some o)->Q (.ref (s.heap.objs.size+4)) { s with heap:=h' }) :
  wpAny (model prog w) A (call (.type "zip") [.ref l1,.ref l2]) Q E s:=by
 refine callType_new F.called_zip (by decide) (F.typeCall_zip_2 _ _) (F.newCall_zip_2 _ _) (fun obj=>F.args_object_init_3 obj _ _) F.entry_zip_new (meets l1 l2 xs ys) ⟨hl1,hl2, ?_⟩;have z1:(H1 s.heap l1).objs.size=s.heap.objs.size+1:=Heap.size_push ..;have z2:(H2 s.heap l1 l2).objs.size=s.heap.objs.size+2:=by rw[Heap.size_push,z1]
 have z3:(H3 s.heap l1 l2).objs.size=s.heap.objs.size+3:=by rw[Heap.size_push,z2]
 have z4:(H4 s.heap l1 l2).objs.size=s.heap.objs.size+4:=by rw[Heap.size_push,z3]
 have z5:(H5 s.heap l1 l2).objs.size=s.heap.objs.size+5:=by rw[Heap.size_push,z4]
 have g5:(H5 s.heap l1 l2).get? (H4 s.heap l1 l2).objs.size=some _:=Gb _ rfl;have g4:(H5 s.heap l1 l2).get? (H3 s.heap l1 l2).objs.size=some _:=Y4 _ (Gb _ rfl);have g3:(H5 s.heap l1 l2).get? (H2 s.heap l1 l2).objs.size=some _:=Y4 _ (Y4 _ (Gb _ rfl));have g2:(H5 s.heap l1 l2).get? (H1 s.heap l1).objs.size=some _:=Y4 _ (Y4 _ (Y4 _ (Gb _ rfl)));have g1:(H5 s.heap l1 l2).get? s.heap.objs.size=some _:=Y4 _ (Y4 _ (Y4 _ (Y4 _ (Gb _ rfl))));show _/\_;rw[z2,z3,z4]at g5;rw[z1,z2]at g3;rw[z3]at g4;rw[z1]at g2;rw[z4]
 exact⟨⟨_,g5,rfl⟩,h _ g5 g3 g4 ⟨_,g1,rfl,rfl⟩ ⟨_,g2,rfl,rfl⟩ z5 fun c o x =>
  Y4 _ (Y4 _ (Y4 _ (Y4 _ (Y4 _ x))))⟩
end ZipT
namespace EX
open PySem
structure Xm(l:List Env)(e T:Addr)(oe:Obj)(h h':Heap):Prop where
 keep:∀b o,b≠e->b ∉ l.filterMap (·.frame)->h.get? b=some o->h'.get? b=some o
 slot:∀b o,b≠e->h.get? b=some o->∃sl,h'.get? b=some { o with slots:=sl }
 exc:h'.get? e=some (oe.mapFields (·.setIfInBounds 1 (.ref T)))
 new:h.objs.size<=T
 tb:∃oT ts,h'.get? T=some oT/\oT.data=.fields ts/\3<ts.size
section
variable{M:Model}{A:Around}{E:ZQ}{s:Shared}{env:Env}{outer:List Env}{base:Heap}{L e T:Addr}{oe:Obj}{vs:ZD}{Q:ZH}
theorem Lj(hl:s.heap.FunFrames base (env::outer))(he:s.heap.get? e=some oe)(hd:oe.data=.fields vs):e ∉ (env::outer).filterMap (·.frame):=fun hm=>by
 obtain⟨_,o,ho,hn⟩:=hl.mem hm;rw[he]at ho;cases ho;exact hn vs hd
theorem yq(Dt:A.frames=some (env::outer))(hl:s.heap.FunFrames base (env::outer))(hf:env.frame=some L)
  (he:s.heap.get? e=some oe) (hd:oe.data=.fields vs) (h1:vs[1]?=some .none)
  (h:∀h' T,Xm (env::outer) e T oe s.heap h'->Q () { s with heap:=h' }):wpAny M A (noteFrame (.ref e) env) Q E s:=by
 have hz:1<vs.size:=(Array.getElem?_eq_some_iff.mp h1).1;have hne:=Lj hl he hd;unfold noteFrame;simp only[hf];refine Zq (wpAny_field he hd h1 ?_);rw[if_neg (by decide)];refine Zq (wpAny_frameOf_fun Dt hl hf fun h₁ sl=>Zq (wpAny_entryPlaceOf fun pl hpl=>?_));unfold EntryCells.newEntry newFields;refine Zq (wpAny_newObj_type ?_ (hpl.sizeOk5 _ _ _ _ _));have e1:h₁.get? e=some oe:=(sl.2.1 e hne).trans he;have z1:h₁.objs.size=s.heap.objs.size:=sl.1;refine wpAny_setField (Y4 _ e1) hd hz (h _ h₁.objs.size ⟨fun b o hb hn q=>?_,fun b o hb q=>?_, ?_,Nat.le_of_eq z1.symm, ?_⟩)
 .exact(Heap.get?_update_other _ _ (Ne.symm hb)).trans (Y4 _ ((sl.2.1 b hn).trans q))
 .obtain⟨x,q'⟩:=sl.2.2 b o q;exact⟨x,(Heap.get?_update_other _ _ (Ne.symm hb)).trans (Y4 _ q')⟩
 .exact Heap.get?_update_self _ (Y4 _ e1) (Obj.isFreed_of_fields (Obj.data_mapFields hd _))
 .refine⟨_,_,(Heap.get?_update_other _ _ (Cq (Jw e1))).trans (Gb h₁ rfl),rfl, ?_⟩;simp only[Jv,Gn,Jk,List.length_nil];omega
theorem Ry{oT:Obj}{ts:ZD}(he:s.heap.get? e=some oe)(hd:oe.data=.fields vs)(h1:vs[1]?=some (.ref T))(hT:s.heap.get? T=some oT)(z8:oT.data=.fields ts)(hz:3<ts.size)
  (h:∀h',(∀b,b≠T->h'.get? b=s.heap.get? b)->(∃oT ts,h'.get? T=some oT/\oT.data=.fields ts/\3<ts.size)->Q () { s with heap:=h' }):wpAny M A (setFlight (.ref e) none) Q E s:=by
 refine wpAny_setFlight_none he hd h1 hT z8 hz (h _ (fun b hb=>Heap.get?_update_other _ _ (Ne.symm hb)) ⟨_,_,Heap.get?_update_self _ hT (Obj.isFreed_of_fields (Obj.data_mapFields z8 _)),Obj.data_mapFields z8 _, ?_⟩);rw[Array.size_setIfInBounds];exact hz
end
abbrev Lk{j:Type}(M:Model)(h:Heap)(t:Sem j)(r:j):Prop :=
 ∀(A:Around) (Q:j->Shared->Prop) (E:ZQ) (s:Shared),(∀b o,h.get? b=some o->s.heap.get? b=some o)->Q r s->wpAny M A t Q E s
section
variable{M:Model}{A:Around}{E:ZQ}{s:Shared}{env:Env}
theorem sq{h:Heap}{e:Addr}{oe:Obj}{vs:ZD}(he:h.get? e=some oe)(hd:oe.data=.fields vs):Lk M h (isType (.ref e)) false:=by
 intro A Q E s k q;show wpAny M A (do return match (<-loadHead e).data with | .cls _=>true | _=>false) Q E s;refine Zq (wpAny_loadPart (k _ _ he) ?_);rw[hd];exact Zt q
theorem Dv{h:Heap}{e:Addr}{oe:Obj}{c:Value}(he:h.get? e=some oe)(hc:oe.cls=c):Lk M h (typeOf (.ref e)) c:=by
 intro A Q E s k q;show wpAny M A (do return (<-loadPart e (some headPart)).cls) Q E s;refine Zq (wpAny_loadPart (k _ _ he) ?_);rw[hc];exact Zt q
theorem vm{x:Sem Value}{Q:Flow->Shared->Prop}(hh:A.handled=none)
  (h:wpAny M A x (fun v s₁=>∃e C oe vs,v=.ref e/\s₁.heap.get? e=some oe/\oe.cls=.ref C/\oe.data=.fields vs/\vs[1]?=some .none /\
   Lk M s₁.heap (isSubtype (.ref C) (.type "BaseException")) true/\Lk M s₁.heap (typeOf (.ref C)) (.type "type")/\E (.ref e) s₁) E s) :
  wpAny M A (raiseStmt env (some x) none) Q E s:=by
 unfold raiseStmt;refine Zq (wpAny_mono h (fun v s₁ h₁=>?_) fun _ _ y=>y);obtain⟨e,C,oe,vs,rfl,he,hc,hd,h1,hs,ht,hE⟩:=h₁;have n1:=sq (M:=M) he hd;have n2:=Dv (M:=M) he hc;refine Zq (Zt (Zq (wpAny_holding ?_)));unfold excFromValue isExcClass isInstance;refine Zq (Zq (n1 _ _ _ _ (fun _ _ z=>z) ?_));rw[if_neg Q6];refine Zt ?_;rw[if_neg Q6];refine Zq (Zq (n2 _ _ _ _ (fun _ _ z=>z) (hs _ _ _ _ (fun _ _ z=>z) ?_)));rw[if_pos rfl];refine Zt ?_;refine Zq (n1 _ _ _ _ (fun _ _ z=>z) ?_);rw[if_neg Q6];unfold raisedInstance;refine Zq (Zq (n2 _ _ _ _ (fun _ _ z=>z) (Zq (ht _ _ _ _ (fun _ _ z=>z) ?_))));rw[if_pos (by decide)];refine Zt (Zq ?_);unfold setFlight;refine Zq (wpAny_field he hd h1 ?_);rw[if_neg (by decide)];exact Zt (wpAny_raiseNew_none hh hE)
end
section
variable{M:Model}{A:Around}{E:ZQ}{s:Shared}{env:Env}
theorem is_cls{h:Heap}{c:Addr}{oc:Obj}{cd:ClassData}(he:h.get? c=some oc)(hd:oc.data=.cls cd):Lk M h (isType (.ref c)) true:=by
 intro A Q E s k q;show wpAny M A (do return match (<-loadHead c).data with | .cls _=>true | _=>false) Q E s;refine Zq (wpAny_loadPart (k _ _ he) ?_);rw[hd];exact Zt q
theorem Kf{e C D:Addr}{b:Bool}{Q:Bool->Shared->Prop}(h1:Lk M s.heap (typeOf (.ref D)) (.type "type"))(h2:Lk M s.heap (isType (.ref D)) true)(h3:Lk M s.heap (isSubtype (.ref D) (.type "BaseException")) true)
  (h4:Lk M s.heap (typeOf (.ref e)) (.ref C)) (h5:Lk M s.heap (isSubtype (.ref C) (.ref D)) b) (h:Q b s):wpAny M A (excMatches (.ref e) (.ref D)) Q E s:=by
 have nt:isSubtype (.type "type") (.type "tuple")=pure false:=by rw[isSubtype_type];kernel_rfl
 unfold excMatches isInstance;refine Zq (Zq (h1 _ _ _ _ (fun _ _ z=>z) ?_));rw[nt];refine Zt ?_;rw[if_neg Q6];refine Zq (Zt ?_);simp only[List.forIn_cons,List.forIn_nil];unfold isExcClass;refine Zq (Zq (Zq (Zq (h2 _ _ _ _ (fun _ _ z=>z) ?_))));rw[if_pos rfl];refine h3 _ _ _ _ (fun _ _ z=>z) ?_;simp only[Bool.not_true,B0f,if_false];refine Zt (Zt (Zq (h4 _ _ _ _ (fun _ _ z=>z) ?_)));refine Zq (Zq (Zq (h5 _ _ _ _ (fun _ _ z=>z) ?_)));cases b with
 | true =>
  simp only[if_true];exact Zt (Zt (Zt h))
 | false =>
  simp only[B0f,if_false];exact Zt (Zt (Zt h))
end
section
variable{prog:Program}{w:World}{A:Around}{E:ZQ}{s:Shared}{env:Env}
theorem z9{e C D:Addr}{t:Expr}{n:Str}{b₀:Stmt}{suite:List Stmt}{pos:Pos}{rest:List ExceptHandler}{Q:Flow->Shared->Prop}
  (h:wpAny (model prog w) (A.mark (some (.ref e))) (eval t env) (fun c s₁=>c=.ref D/\Lk (model prog w) s₁.heap (typeOf (.ref D)) (.type "type")/\Lk (model prog w) s₁.heap (isType (.ref D)) true /\
   Lk (model prog w) s₁.heap (isSubtype (.ref D) (.type "BaseException")) true/\Lk (model prog w) s₁.heap (typeOf (.ref e)) (.ref C)/\Lk (model prog w) s₁.heap (isSubtype (.ref C) (.ref D)) true /\
   wpAny (model prog w) (A.mark (some (.ref e))) (setFlight (.ref e) none) (fun _ s₂ =>
     wpAny (model prog w) (A.mark (some (.ref e))) (storeName env n (.ref e)) (fun _ s₃ =>
      wpAny (model prog w) (A.mark (some (.ref e))) (execs (b₀::suite) env)
       (fun f s₄=>wpAny (model prog w) A (do bindName env n .none;unbindBehindTheSuite env n pos) (fun _ s₅=>Q f s₅) E s₄)
       (fun _ _=>False) s₃) (fun _ _=>False) s₂) (fun _ _=>False) s₁) (fun _ _=>False) s) :
  wpAny (model prog w) A (handleBy (.ref e) env (.ExceptHandler (some t) (some n) (b₀::suite) pos::rest)) Q E s:=by
 refine wpAny_handleBy_cons (codeAny_handlers_test (wpAny_mono h (fun c s₁ h₁=>?_) fun _ _ x=>x.elim)) (by intro q;cases q);obtain⟨rfl,x1,x2,x3,x4,x5,hk⟩:=h₁;refine Kf x1 x2 x3 x4 x5 ?_;refine codeAny_handlers_suite_as (wpAny_mono hk (fun _ s₂ h₂=>wpAny_mono h₂ (fun _ s₃ h₃=>wpAny_mono h₃ (fun f s₄ h₄=>h₄) fun _ _ z=>z.elim) fun _ _ z=>z.elim) fun _ _ z=>z.elim)
end
end EX
namespace DicP2
open PySem PySem.Spec PyProof.Rows
noncomputable def Zzo(t:Value):Obj:={ cls:=.type "AttributeError",data:=.fields #[t,.none,.none,.none,.bool false,.none,unsetMember,unsetMember] }
theorem nst:((Manifest.find? "AttributeError").elim false fun t=>t.mro.contains "StopIteration" || t.mro.contains "SystemExit")=false:=by decide +kernel
theorem newAE{prog:Program}{w:World}{A:Around}{E:ZQ}{s:Shared}{v:Value}{Q:ZQ}
  (hq:∀h' e t,(∀b u,s.heap.get? b=some u->h'.get? b=some u)->h'.get? e=some (Zzo t)->s.heap.get? e=none->Q (.ref e) { s with heap:=h' }):wpAny (model prog w) A (newExc (.type "AttributeError") [v]) Q E s:=by
 obtain⟨h,g,d,t,os⟩:=s;simp only[newExc,newTuple]
 wp_walk
 have e:(#[Value.ref h.objs.size,Value.none,Value.none,Value.none,Value.bool false,if ((Manifest.find? "AttributeError").elim false fun t=>t.mro.contains "StopIteration" || t.mro.contains "SystemExit")=true then [v].headD Value.none else Value.none]++ownMembersOf (Value.type "AttributeError") [v])=#[.ref h.objs.size,.none,.none,.none,.bool false,.none,unsetMember,unsetMember]:=by
  rw[nst];rfl
 rw[e];refine hq _ _ (.ref h.objs.size) (fun b u q=>Y4 _ (Y4 _ q)) (Gb _ rfl) ?_;cases z:h.get? (h.push { cls:=Value.type "tuple",data:=Data.seq #[v] }).objs.size with
 | none=>rfl
 | some o =>
  have:=Jw z;rw[Heap.size_push]at this;exact absurd this (Nat.not_lt.mpr (Nat.le_succ _))
theorem note{prog:Program}{w:World}{A:Around}{E:ZQ}{s:Shared}{e:Addr}{t o nm:Value}{Q:ZH}(he:s.heap.get? e=some (Zzo t))
  (hq:∀h' d,Heap.SameBut e s.heap h'->h'.get? e=some { cls:=.type "AttributeError",data:=d }->Q () { s with heap:=h' }):wpAny (model prog w) A (noteAttr (.ref e) o nm) Q E s:=by
 unfold noteAttr;simp only[];unfold lacksNameAndObj;simp only[];refine Zq (Zq (wpAny_isInstance (T:="AttributeError") (b:=true) ⟨_,he,rfl⟩ (by rw[isSubtype_type];kernel_rfl) ?_));simp only[Bool.not_true,B0f,if_false];refine Zq (wpAny_load he ?_);show wpAny _ _ (pure true) _ _ _;refine Zt ?_;simp only[if_true];refine Zq (wpAny_rule (Zq (wpAny_typeOf (T:="AttributeError") ⟨_,he,rfl⟩ ?_)));refine wpAny_layMembers he rfl ?_;refine hq _ _ ⟨Heap.size_update _ _ _,fun b hb=>Heap.get?_update_other _ _ (Ne.symm hb)⟩ (Heap.get?_update_self _ he rfl)
theorem tl1:typeLookup (.type "tuple") (Str.ofString "__getattribute__")=pure (some (.builtin "tuple.__getattribute__")):=by rw[typeLookup_type,builtinLookup_eq_fast];kernel_rfl
theorem tl2:typeLookup (.type "tuple") (Str.ofString "keys")=pure none:=by rw[typeLookup_type,builtinLookup_eq_fast];kernel_rfl
theorem tl3:typeLookup (.type "tuple") (Str.ofString "__getattr__")=pure none:=by rw[typeLookup_type,builtinLookup_eq_fast];kernel_rfl
theorem slot_ga:Slot "tuple" (Str.ofString "__getattribute__") "tuple.__getattribute__" := Slot.of (owner:="tuple") (n:="__getattribute__") tl1 (by decide +kernel) (by decide +kernel) (by decide +kernel) (.inl (by decide +kernel)) (by rw[isSubtype_type];kernel_rfl)
theorem hb0:hookBefore (.type "tuple")=pure none:=rfl
theorem C8:entryFor table "dict.update.loop" = some Builtin.«dict.update.loop»:=entryFor_of_tree (by kernel_rfl)
theorem Jn:plainId "dict.update.loop" = true:=by decide +kernel
section
variable{prog:Program}{w:World}{K:Type}[DecidableEq K]{knd:PySem.KeyKind prog w K}
def Prs(knd:PySem.KeyKind prog w K)(h:Heap)(its:ZD)(rs:List (K×Value)):Prop :=
 its.size=rs.length/\∀(j:Nat) (k:K) (v:Value),rs[j]?=some (k,v)->∃p u,its[j]?=some (.ref p)/\IsTup h p #[u,v]/\knd.is k u=true
noncomputable def stK(rs:List (K×Value))(i:Nat):List (K×Value):=(rs.take i).foldl (fun acc kv=>stored acc kv.1 kv.2) []
theorem Ep(XY:List (K×Value))(k:K)(v:Value):(stored XY k v).length<=XY.length+1:=by
 unfold stored
 split
 .rw[Zu];omega
 .rw[Gn];simp
theorem Pn{rs:List (K×Value)}{i:Nat}{k:K}{v:Value}(h:rs[i]?=some (k,v)):stK rs (i+1)=stored (stK rs i) k v:=by
 unfold stK;rw[List.take_succ,h];simp
theorem L3(rs:List (K×Value)):∀i,(stK rs i).length<=i
 | 0=>by simp[stK]
 | i+1=>by
  cases h:rs[i]? with
  | none =>
   have:=L3 rs i;unfold stK at this ⊢;rw[List.take_succ,h];simp only[Option.toList_none,ZE];omega
  | some p =>
   obtain⟨k,v⟩:=p;rw[Pn h];have:=L3 rs i;have:=Ep (stK rs i) k v;omega
variable{A:Around}{R:Result->Shared->Prop}{E:ZQ}{s:Shared}{d it t:Addr}{its:ZD}{rs:List (K×Value)}
end
end DicP2
namespace DicL
open PySem PySem.Spec PyProof.Rows
open DicP2
theorem tl1:typeLookup (.type "list") (Str.ofString "__getattribute__")=pure (some (.builtin "list.__getattribute__")):=by rw[typeLookup_type,builtinLookup_eq_fast];kernel_rfl
theorem tl2:typeLookup (.type "list") (Str.ofString "keys")=pure none:=by rw[typeLookup_type,builtinLookup_eq_fast];kernel_rfl
theorem tl3:typeLookup (.type "list") (Str.ofString "__getattr__")=pure none:=by rw[typeLookup_type,builtinLookup_eq_fast];kernel_rfl
theorem slot_ga:Slot "list" (Str.ofString "__getattribute__") "list.__getattribute__" := Slot.of (owner:="list") (n:="__getattribute__") tl1 (by decide +kernel) (by decide +kernel) (by decide +kernel) (.inl (by decide +kernel)) (by rw[isSubtype_type];kernel_rfl)
theorem fk:entryFor table "list.__getattribute__" = some Builtin.«object.__getattribute__»:=entryFor_alias (id':="object.__getattribute__") (by kernel_rfl) rfl (by decide +kernel) (by kernel_rfl)
theorem ot(a b:Value):argsOk "list.__getattribute__" ⟨[a,b],[]⟩:=by unfold argsOk;kernel_rfl
theorem u5{prog:Program}{w:World}{A:Around}{E:ZQ}{s:Shared}{u:Nat}{a:Addr}{its:ZD}{n:Nat}{sl:ZY}{Q:PySem.Fin->Shared->Prop}(hh:A.handled=none)(ho:s.heap.get? a=some ⟨.type "list",none,.seq its n,sl⟩)
  (hq:∀e h' t',(∃o,h'.get? e=some o/\o.cls=.type "AttributeError")->(∀b u,s.heap.get? b=some u->h'.get? b=some u)->E (.ref e) { s with heap:=h',toks:=t' }):wpAny (model prog w) A (Builtin.«object.__getattribute__» ⟨[.ref a,.str (Str.ofString "keys") u],[]⟩) Q E s:=by
 obtain⟨h,g,d,t,os⟩:=s;have ho:h.get? a=some ⟨.type "list",none,.seq its n,sl⟩:=ho;unfold Builtin.«object.__getattribute__»
 wp_walk
 show wpAny _ _ (typeLookup (.type "list") _) _ _ _;rw[tl2]
 wp_walk
 have hl:(Str.ofString (toString "'" ++ toString ((Manifest.find? "list").elim "list" fun x=>x.tpName)++toString "' object has no attribute '")++Str.ofString "keys" ++ Str.ofString "'").length<=sizeLine:=by decide +kernel
 generalize (Str.ofString (toString "'" ++ toString ((Manifest.find? "list").elim "list" fun x=>x.tpName)++toString "' object has no attribute '")++Str.ofString "keys" ++ Str.ofString "'")=msg at hl ⊢;unfold raiseAttrError;refine Zq (wpAny_mkStr ?_ hl);refine Zq (newAE fun h1 e t1 k1 e1 n1=>?_);refine Zq (wpAny_mkText ?_);refine Zq (note e1 fun h2 d2 sb e2=>?_);refine wpAny_raiseNew_none hh (hq e h2 _ ⟨_,e2,rfl⟩ fun b u q=>?_);refine(sb.2 b fun z=>?_).trans (k1 b u q);rw[z]at q;rw[show h.get? e=none from n1]at q;cases q
theorem hb0:hookBefore (.type "list")=pure none:=rfl
theorem zm{prog:Program}{w:World}{A:Around}{E:ZQ}{s:Shared}{a:Addr}{its:ZD}{n:Nat}{sl:ZY}{Q:ZF->Shared->Prop}(hh:A.handled=none)(ho:s.heap.get? a=some ⟨.type "list",none,.seq its n,sl⟩)
  (hq:∀h' t',(∀b u,s.heap.get? b=some u->h'.get? b=some u)->Q none { s with heap:=h',toks:=t' }):wpAny (model prog w) A (getAttr? (.ref a) (Str.ofString "keys")) Q E s:=by
 obtain⟨h,g,d,t,os⟩:=s;have ho:h.get? a=some ⟨.type "list",none,.seq its n,sl⟩:=ho;unfold getAttr?;refine Zq (wpAny_mkText ?_);unfold getAttrBy?;refine Zq (wpAny_attempt ?_);unfold getAttrBy;refine wpAny_holding ?_;have ht:Shared.TypeIs ⟨h,g,d,t+1,os⟩ (.ref a) "list" := ⟨_,ho,rfl⟩;refine Zq (wpAny_typeOf ht ?_);rw[tl1];refine Zq (Zt ?_);simp only[];refine wpAny_ite_split (fun z=>absurd z (by decide)) fun _=>?_;unfold getAttrByItsOwn;rw[hb0];refine Zq (Zt ?_);refine Zq (wpAny_attempt (wpAny_holding ?_));show wpAny _ _ (boundAndCalled (.builtin "list.__getattribute__") (.ref a) _) _ _ _;unfold boundAndCalled;rw[slot_ga.toG.bind];refine Zq (Zt ?_);show wpAny _ _ (call (.builtin "list.__getattribute__") [.ref a,.str (Str.ofString "keys") t]) _ _ _;refine wpAny_call_entry slot_ga ht fk ?_ (ot _ _);refine u5 (s:=⟨h,g,d,t+1,os⟩) hh ho fun e h' t' he kp=>?_;obtain⟨o,e1,e2⟩:=he;have ae:∀t'',Shared.TypeIs ⟨h',g,d,t'',os⟩ (.ref e) "AttributeError" := fun _=>⟨o,e1,e2⟩;show wpAny _ _ (getattributeRaised _ _ _ _ _ _ _) _ _ _;unfold getattributeRaised;refine Zq (wpAny_isInstance (T:="AttributeError") (b:=true) (ae _) (by rw[isSubtype_type];kernel_rfl) ?_);simp only[if_true];rw[show hookBehind (Value.type "list") none=typeLookup (.type "list") (Str.ofString "__getattr__") from rfl,tl3];refine Zq (Zt ?_);unfold hookOrError;simp only[];unfold attributeErrorLeaves;simp only[Bool.not_false,if_true];refine Zq (wpAny_throw ?_);refine Zq (wpAny_isInstance (T:="AttributeError") (b:=true) (ae _) (by rw[isSubtype_type];kernel_rfl) ?_);simp only[if_true];exact Zt (hq h' t' kp)
end DicL
namespace DicL
open PySem PySem.Spec PyProof.Rows DicP2
section
variable{prog:Program}{w:World}{K:Type}[DecidableEq K]{knd:PySem.KeyKind prog w K}
variable{A:Around}{R:Result->Shared->Prop}{E:ZQ}{s:Shared}{d it t:Addr}{its:ZD}{rs:List (K×Value)}
theorem loop(hh:A.handled=none)(hdi:d≠it)(htd:t≠d)(hti:t≠it)(hz:rs.length<=sizeLine){h₁:Heap}(ht:h₁.IsList t its)(hp:Prs knd h₁ its rs)(hpd:∀(p:Addr),.ref p∈its.toList->p≠d/\p≠it)
  (fin:∀h' tk,(∀b o,b≠d->b≠it->h₁.get? b=some o->h'.get? b=some o)->h'.DictOf knd d (stK rs rs.length)->R (.ok (.ret .none)) { s with heap:=h',toks:=tk }) :
  ∀(k i:Nat) (h:Heap) (tk:Nat),rs.length - i=k->i<=rs.length->(∀b o,b≠d->b≠it->h₁.get? b=some o->h.get? b=some o)->h.IsListIter it t i->h.DictOf knd d (stK rs i) ->
   codeAny (model prog w) A (.builtin "dict.update.loop" ⟨[.ref d,.ref it,rawInt i,.none],[]⟩) R { s with heap:=h,toks:=tk }:=by
 intro k
 induction k with
 | zero =>
  intro i h tk hk hi kp st dd;have ei:i=rs.length:=by omega
  subst ei;refine codeAny_builtin C8 ?_;rw[Around.under_plainId Jn _]
  change wpAny _ A.in1 (pyNext (.ref it) >>= _) _ _ _
  refine Zq (wpAny_pyNext_list_end (s:={ s with heap:=h,toks:=tk }) (A:=A.in1) hh st (ht.at fun o e=>kp _ o htd hti e) (Array.getElem?_eq_none (by rw[hp.1];exact Gc _)) fun h' ext=>?_)
  change wpAny _ A.in1 (Builtin.Dict.addKeywords d [] >>= _) _ _ _
  refine Zq (m:=Builtin.Dict.addKeywords d []) ?_;unfold Builtin.Dict.addKeywords;simp only[List.forIn_nil];refine Zq (Zt (Zt (Zt ?_)));refine fin h' tk (fun b o n1 n2 e=>ext b o n2 (kp b o n1 n2 e)) ?_;obtain⟨o,es,ep,e1,r⟩:=dd;exact⟨o,es,ep,ext d o hdi e1,r⟩
 | succ k ih =>
  intro i h tk hk hi kp st dd;have Oa:i<rs.length:=by omega
  obtain⟨⟨kk,vv⟩,hkv⟩:∃p,rs[i]?=some p:=⟨rs[i],Wi Oa⟩;obtain⟨p,u,ep,tp,ku⟩:=hp.2 i kk vv hkv;have np:=hpd p (by rw[<-Array.mem_def];exact Array.mem_of_getElem? ep);refine codeAny_builtin C8 ?_;rw[Around.under_plainId Jn _]
  change wpAny _ A.in1 (pyNext (.ref it) >>= _) _ _ _
  refine Zq (wpAny_pyNext_list_item (s:={ s with heap:=h,toks:=tk }) (A:=A.in1) st (ht.at fun o e=>kp _ o htd hti e) ep fun h' Wj sb=>?_);have tp':IsTup h' p #[u,vv]:=let ⟨o,e1,e2⟩:=tp;⟨o,sb.extBut _ _ np.2 (kp _ _ np.1 np.2 e1),e2⟩;have dd':h'.DictOf knd d (stK rs i):=let ⟨o,es,ep,e1,r⟩:=dd;⟨o,es,ep,sb.extBut _ _ hdi e1,r⟩;simp only[];refine Zq (wpAny_holding (Zq (wpAny_tryCatch ?_)));unfold Builtin.Dict.pairItems;refine Zq (wpAny_typeOf (T:="tuple") tp'.typeIs ?_);simp only[show (Value.type "tuple" == Value.type "list" || Value.type "tuple" == Value.type "tuple")=true from by decide,if_true];obtain⟨o,e1,e2,n,e3⟩:=id tp';refine Zq (m:=seqItems? (.ref p)) ?_;unfold seqItems?;simp only[];refine Zq (wpAny_load e1 ?_);rw[e3];refine Zt (Zt ?_);show wpAny _ _ (holding [u,vv] (dictSet d u vv)) _ _ _;refine wpAny_holding ?_;refine wpAny_dictSet_pairs (hsz:=Jy (L3 rs i) (Jy hi hz)) ku dd' fun h2 dd2 sb2=>?_;refine Zt ⟨plainId_quiet Jn _, ?_⟩;refine ih (i+1) h2 _ (by omega) Oa (fun b o n1 n2 e=>sb2.extBut _ _ n1 (sb.extBut _ _ n2 (kp b o n1 n2 e))) (Wj.extBut sb2.extBut hdi.symm) ?_;rw[Pn hkv];exact dd2
theorem Hl{Q:ZQ}(hh:A.handled=none){n:Nat}{sl:ZY}(ho:s.heap.get? t=some ⟨.type "list",none,.seq its n,sl⟩)(hp:Prs knd s.heap its rs)(hz:rs.length<=sizeLine)
  (hl:∀(p:Addr),.ref p∈its.toList->p<s.heap.objs.size)
  (fin:∀h' tk,(∀b o,s.heap.get? b=some o->h'.get? b=some o)->h'.DictOf knd s.heap.objs.size (stK rs rs.length)->Q (.ref s.heap.objs.size) { s with heap:=h',toks:=tk }) :
  wpAny (model prog w) A (call (.type "dict") [.ref t]) Q E s:=by
 have lt:∀{c o},s.heap.get? c=some o->c≠s.heap.objs.size:=fun e=>Cq (Jw e);have pu:∀{c o},s.heap.get? c=some o->(s.heap.push { cls:=.type "dict",data:=.dict #[] }).get? c=some o:=fun e=>Y4 _ e
 refine callType_codes (Q₁:=fun obj s₁=>obj=.ref s.heap.objs.size/\s₁={ s with heap:=s.heap.push { cls:=.type "dict",data:=.dict #[] } }) F.kt_called_dict (F.kt_typeCall_dict_1 _) F.entry_dict_init
  (kt_code_dict_new _ ⟨rfl,rfl⟩) fun obj s₁ q=>?_
 obtain⟨rfl,rfl⟩:=q;have T9:(s.heap.push { cls:=.type "dict",data:=.dict #[] }).get? s.heap.objs.size=some { cls:=.type "dict",data:=.dict #[] }:=Gb _ rfl;refine⟨⟨_,T9,rfl⟩,F.args_dict_init_2 _ _, ?_⟩;have ty:Shared.TypeIs { s with heap:=s.heap.push { cls:=.type "dict",data:=.dict #[] } } (.ref s.heap.objs.size) "dict" := ⟨_,T9,rfl⟩;unfold Builtin.«dict.__init__»;unfold Builtin.Dict.selfAndRest;refine Zq (Zq (wpAny_notOrdered_dict ty ?_));refine Zq (m:=Builtin.Dict.addrOf (.ref s.heap.objs.size)) (Zt (Zt ?_));show wpAny _ _ (Builtin.Dict.updateFrom "dict.__init__" s.heap.objs.size (.ref t) [] .none) _ _ _;unfold Builtin.Dict.updateFrom;refine Zq (wpAny_typeOf (T:="list") ⟨_,pu ho,rfl⟩ ?_);simp only[show (Value.type "list" != Value.type "dict")=true from by decide,if_true];refine Zq (zm (s:={ s with heap:=s.heap.push { cls:=.type "dict",data:=.dict #[] } }) (A:=A.in1.in1) hh (pu ho) fun h2 t2 k2=>?_);simp only[Option.isNone_none,if_true];refine Zq (wpAny_rule ?_);have tu:Heap.IsList h2 t its:=⟨_,k2 _ _ (pu ho),rfl,n,rfl⟩;refine Zq (wpAny_pyIter_list (s:={ s with heap:=h2,toks:=t2 }) tu ?_);have lt2:∀{c o},h2.get? c=some o->c≠h2.objs.size:=fun e=>Cq (Jw e);have at2:=k2 _ _ T9;have sz2:s.heap.objs.size<h2.objs.size:=Jw at2;refine Zt ⟨plainId_quiet Jn _, ?_⟩;have kp3:∀b o,h2.get? b=some o->(h2.push { cls:=.type "list_iterator",data:=.fields #[.ref t,.int 0 0] }).get? b=some o:=fun b o e=>Y4 _ e;refine loop (knd:=knd) (s:=s) (A:=A.in1) (d:=s.heap.objs.size) (it:=h2.objs.size) (t:=t) hh (Cq sz2) (lt ho) (lt2 (k2 _ _ (pu ho))) hz (h₁:=h2.push { cls:=.type "list_iterator",data:=.fields #[.ref t,.int 0 0] }) (tu.at fun o e=>kp3 _ o e) ⟨hp.1,fun j k v e=>?_⟩ (fun p hm=>⟨Cq (hl p hm),Cq (Nat.lt_trans (hl p hm) sz2)⟩) (fun h' tk kp dd=>?_) _ 0 _ t2 rfl (Wz _) (fun b o _ _ e=>e) ⟨_,Gb _ rfl,rfl,rfl⟩ ?_
 .obtain⟨p,u,e1,tp,ku⟩:=hp.2 j k v e;exact⟨p,u,e1,let ⟨o,a1,a2⟩:=tp;⟨o,kp3 _ _ (k2 _ _ (pu a1)),a2⟩,ku⟩
 .refine⟨rfl,fin h' tk (fun b o e=>kp b o (lt e) (lt2 (k2 _ _ (pu e))) (kp3 _ _ (k2 _ _ (pu e)))) dd⟩
 .exact⟨_, #[],_,kp3 _ _ at2,⟨rfl,rfl,rfl⟩,rfl,fun e he=>by simp at he,.nil,List.nodup_nil⟩
end
end DicL
namespace SetM
open PySem
def Ris(xs:ZN):Prop:=∀a b (h:a<b) (hb:b<xs.size),xs[a]'(Nat.lt_trans h hb)<xs[b]
theorem getD_in{xs:ZN}{i d:Nat}(h:i<xs.size):xs.getD i d=xs[i]:=by simp[Array.getD,h]
theorem Fu{xs:ZN}{j:Nat}(hr:Ris xs):∀(fuel lo hi:Nat),hi - lo<=fuel->lo<=hi->hi<=xs.size->(∀i (h:i<xs.size),i<lo->xs[i]<j)->(∀i (h:i<xs.size),hi<=i->j<=xs[i]) ->
  (∀i (h:i<xs.size),i<SetTable.below.go xs j fuel lo hi->xs[i]<j)/\(∀i (h:i<xs.size),SetTable.below.go xs j fuel lo hi<=i->j<=xs[i])/\SetTable.below.go xs j fuel lo hi<=xs.size
 | 0,lo,hi,hf,hl,hs,h1,h2=>by
  have e:lo=hi:=by omega
  subst e;simp only[SetTable.below.go];exact⟨h1,h2,hs⟩
 | fuel+1,lo,hi,hf,hl,hs,h1,h2=>by
  simp only[SetTable.below.go];by_cases h:lo<hi
  .rw[if_pos h];have hm:(lo+hi) / 2<xs.size:=by omega
   rw[getD_in hm];by_cases hc:xs[(lo+hi) / 2]<j
   .rw[if_pos hc];refine Fu hr fuel _ _ (by omega) (by omega) hs (fun i K6 Oa=>?_) h2;rcases Nat.lt_or_ge i ((lo+hi) / 2) with z | z
    .exact Nat.lt_trans (hr i _ z hm) hc
    .have e:i=(lo+hi) / 2:=by omega
     subst e;exact hc
   .rw[if_neg hc];refine Fu hr fuel _ _ (by omega) (by omega) (by omega) h1 (fun i K6 hle=>?_);rcases Nat.lt_or_ge ((lo+hi) / 2) i with z | z
    .have:=hr _ i z K6;omega
    .have e:i=(lo+hi) / 2:=by omega
     subst e;omega
  .rw[if_neg h];have e:lo=hi:=by omega
   subst e;exact⟨h1,h2,hs⟩
theorem Ro{xs:ZN}{j:Nat}(hr:Ris xs):(∀i (h:i<xs.size),i<SetTable.below xs j->xs[i]<j)/\(∀i (h:i<xs.size),SetTable.below xs j<=i->j<=xs[i])/\SetTable.below xs j<=xs.size :=
 Fu hr xs.size 0 xs.size (by omega) (by omega) (Gc _) (fun i _ h=>by omega) (fun i h h'=>by omega)
theorem X8(n:Nat):Ris (Array.range n):=fun a b h hb=>by simp;omega
theorem K3{xs:ZN}{p j:Nat}(hp:p<=xs.size):∀i,(SetTable.insertAt xs p j)[i]?=if i<p then xs[i]? else if i=p then some j else xs[i - 1]?:=by
 intro i;unfold SetTable.insertAt;have du:((xs.extract 0 p).push j).size=p+1:=by simp;omega
 rw[Array.getElem?_append,du];by_cases h1:i<p+1
 .rw[if_pos h1,Array.getElem?_push];have hs2:(xs.extract 0 p).size=p:=by simp;omega
  rw[hs2];by_cases h2:i=p
  .rw[if_pos h2,if_neg (by omega),if_pos h2]
  .rw[if_neg h2,if_pos (by omega)];rw[Array.getElem?_extract];simp;omega
 .rw[if_neg h1,if_neg (by omega),if_neg (by omega)];rw[Array.getElem?_extract];have e:p+(i - (p+1))=i - 1:=by omega
  rw[e];simp;intro h;omega
theorem Vh{l:Type}{xs:Array l}{p:Nat}{j:l}(hp:p<=xs.size):(SetTable.insertAt xs p j).size=xs.size+1:=by
 unfold SetTable.insertAt;simp;omega
theorem rg{xs:ZN}{j:Nat}(hr:Ris xs)(hn:xs[SetTable.below xs j]?≠some j):Ris (SetTable.insertAt xs (SetTable.below xs j) j):=by
 obtain⟨h1,h2,h3⟩:=Ro (j:=j) hr;generalize hk:SetTable.below xs j=k at h1 h2 h3 hn;have g:=K3 (xs:=xs) (j:=j) h3;intro a b hab hb;rw[Vh h3]at hb;have ga:=g a;have gb:=g b;have ha':a<(SetTable.insertAt xs k j).size:=by rw[Vh h3];omega
 have hb':b<(SetTable.insertAt xs k j).size:=by rw[Vh h3];omega
 rw[iv ha']at ga;rw[iv hb']at gb
 have strict:∀i (h:i<xs.size),k<=i->j<xs[i]:=fun i h Ew=>by
  have hle:=h2 i h Ew;rcases Nat.lt_or_ge k i with z | z
  .have hkz:k<xs.size:=by omega
   have:=hr k i z h;have:=h2 k hkz (Gc _);omega
  .have e:i=k:=by omega
   subst e;rw[iv h]at hn;have:xs[i]≠j:=fun q=>hn (by rw[q]);omega
 by_cases a1:a<k
 .rw[if_pos a1,iv (by omega)]at ga;have ga':=Ms ga;by_cases b1:b<k
  .rw[if_pos b1,iv (by omega)]at gb;have gb':=Ms gb;rw[ga',gb'];exact hr a b hab (by omega)
  .rw[if_neg b1]at gb;by_cases b2:b=k
   .rw[if_pos b2]at gb;have gb':=Ms gb;rw[ga',gb'];exact h1 a (by omega) a1
   .rw[if_neg b2,iv (by omega)]at gb;have gb':=Ms gb;rw[ga',gb'];exact hr a (b - 1) (by omega) (by omega)
 .rw[if_neg a1]at ga;rw[if_neg (by omega),if_neg (by omega),iv (by omega)]at gb;have gb':=Ms gb;by_cases a2:a=k
  .rw[if_pos a2]at ga;have ga':=Ms ga;rw[ga',gb'];exact strict (b - 1) (by omega) (by omega)
  .rw[if_neg a2,iv (by omega)]at ga;have ga':=Ms ga;rw[ga',gb'];exact hr (a - 1) (b - 1) (by omega) (by omega)
structure R5(t:SetTable)(n:Nat):Prop where
 size:t.place.size=n
 dum:t.dummies=#[]
 ris:Ris t.place
 room:n<=t.mask
theorem R5.fits{t:SetTable}{n:Nat}(h:R5 t n):t.fits n=true:=by
 unfold SetTable.fits SetTable.fill;rw[h.dum,h.size];simp;exact h.room
theorem Xo(f m:Nat)(led:Bool):R5 (SetTable.fresh f m led) 0:=⟨rfl,rfl,fun a b _ hb=>by simp[SetTable.fresh]at hb,Wz _⟩
theorem Un(t:SetTable)(n:Nat):R5 (t.standIn n) n:=⟨by simp[SetTable.standIn],rfl,X8 n,by simp[SetTable.standIn];omega⟩
theorem Iu(j:Nat):SetTable.has #[] j=false:=by simp[SetTable.has]
theorem Wq{t:SetTable}{n:Nat}(hs:t.place.size=n)(hd:t.dummies=#[])(hr:Ris t.place):R5 (t.orStandIn n) n:=by
 unfold SetTable.orStandIn
 split
 .rename_i h
  refine⟨hs,hd,hr, ?_⟩;unfold SetTable.fits SetTable.fill at h;rw[hd,hs]at h;simpa using h
 .exact Un t n
theorem B2{t:SetTable}(hd:t.dummies=#[]){f:Nat->Int}{h:Int}{j:Nat}{dm:ZL}:∀(fuel:Nat) (p:SetTable.Probe),p.dummy=none->SetTable.probe.go t f h fuel p=some (.empty j dm)->dm=none/\t.place[SetTable.below t.place j]?≠some j
 | 0,p,_,e=>by simp[SetTable.probe.go]at e
 | fuel+1,p,hp,e=>by
  have adv:(t.advance p).dummy=none:=by
   unfold SetTable.advance
   split
   .exact hp
   .exact hp
  simp only[SetTable.probe.go]at e;cases hs:t.slot p.j with
  | empty =>
   rw[hs]at e;simp only[Option.some.injEq,SetTable.Met.empty.injEq]at e;obtain⟨e1,e2⟩:=e;subst e1;refine⟨by rw[<-e2,hp],fun q=>?_⟩;unfold SetTable.slot at hs;simp[q]at hs
  | dummy =>
   exfalso
   unfold SetTable.slot at hs;simp only[hd,Iu]at hs
   split at hs<;>simp at hs
  | live i =>
   rw[hs]at e;simp only at e
   split at e
   .simp at e
   .exact B2 hd fuel _ adv e
theorem Eh{t:SetTable}{es:Array (Int×Value)}(h:R5 t es.size)(k:Int)(x:Value):R5 (layNew t es k x).2.1 (layNew t es k x).1.size:=by
 unfold layNew;cases hf:t.freeSlot k with
 | none =>
  simp only;have:(es.push (k,x)).size=es.size+1:=by simp
  rw[this];exact Un t _
 | some sw =>
  obtain⟨slot,wd⟩:=sw;simp only;unfold SetTable.freeSlot at hf
  have hn:t.place[SetTable.below t.place slot]?≠some slot:=by
   cases hp:t.probe (fun _=>k+1) k (t.probeStart k) with
   | none=>rw[hp]at hf;simp at hf
   | some m =>
    rw[hp]at hf;cases m with
    | candidate a b c=>simp at hf
    | empty j dm =>
     obtain⟨e1,e2⟩:=B2 h.dum _ (t.probeStart k) rfl hp;subst e1;simp at hf;rw[<-hf.1];exact e2
  obtain⟨_,_,hb⟩:=Ro (j:=slot) h.ris;have hb':SetTable.below t.place slot<=es.size:=by rw[<-h.size];exact hb
  have e1:(t.put slot).2=SetTable.below t.place slot:=rfl;refine Wq ?_ ?_ ?_
  .rw[e1,Vh hb'];show (SetTable.insertAt t.place (SetTable.below t.place slot) slot).size=es.size+1;rw[Vh hb,h.size]
  .show (if SetTable.has t.dummies slot then _ else t.dummies)=#[];rw[h.dum,Iu]
   rfl
  .exact rg h.ris hn
theorem Kh{t:SetTable}{es:Array (Int×Value)}(k:Int)(x:Value):(layNew t es k x).2.1.led=t.led:=by
 unfold layNew
 split
 .simp only[SetTable.orStandIn]
  split<;>rfl
 .rfl
theorem E3(n:Nat)(g:Nat->ZL):((List.range n).filterMap fun j=>(g j).map (j, ·)).Pairwise fun a b=>a.1<b.1:=by
 rw[List.pairwise_filterMap];refine List.Pairwise.imp ?_ List.pairwise_lt_range;intro a b hab c hc d hd;cases ha:g a with
 | none=>rw[ha]at hc;simp at hc
 | some u =>
  cases hb:g b with
  | none=>rw[hb]at hd;simp at hd
  | some v =>
   rw[ha]at hc;rw[hb]at hd;simp at hc hd;rw[<-hc, <-hd];exact hab
theorem L0{t:SetTable}{es:Array (Int×Value)}(wanted:Nat):R5 (relayAll t es wanted).2.1 (relayAll t es wanted).1.size:=by
 unfold relayAll;cases hr:t.relaid (es.map (·.1)) wanted with
 | none=>exact Un t _
 | some to =>
  obtain⟨t',order⟩:=to;simp only
  split
  .rename_i hc
   unfold SetTable.relaid SetTable.laid at hr;cases hl:SetTable.layClean (SetTable.sizeAbove wanted - 1) (es.map (·.1)) with
   | none=>rw[hl]at hr;simp at hr
   | some owner =>
    rw[hl]at hr;simp at hr;obtain⟨h1,h2⟩:=hr;have Wg:=(Xd.mp hc).2;have hd:t'.dummies=#[]:=by rw[<-h1]
    refine⟨?_,hd, ?_, ?_⟩
    .unfold SetTable.fits at Wg;simp at Wg;exact Wg.1
    .rw[<-h1];intro a b hab hb;have hp:=E3 (SetTable.sizeAbove wanted - 1+1) (fun j=>owner[j]?.getD none);have hp2:(((List.range (SetTable.sizeAbove wanted - 1+1)).filterMap fun j=>(owner[j]?.getD none).map (j, ·)).map fun p=>p.1).Pairwise (· < ·):=List.pairwise_map.mpr hp;simp only[List.getElem_toArray];exact List.pairwise_iff_getElem.mp hp2 a b _ _ hab
    .unfold SetTable.fits SetTable.fill at Wg;rw[hd]at Wg;simp at Wg;exact(Wg.1 ▸ Wg.2:_)
  .exact Un t _
theorem Fz{t:SetTable}{es:Array (Int×Value)}(wanted:Nat):(relayAll t es wanted).2.1.led=t.led:=by
 unfold relayAll;cases hr:t.relaid (es.map (·.1)) wanted with
 | none=>rfl
 | some to =>
  obtain⟨t',order⟩:=to;simp only
  split
  .unfold SetTable.relaid SetTable.laid at hr;cases hl:SetTable.layClean (SetTable.sizeAbove wanted - 1) (es.map (·.1)) with
   | none=>rw[hl]at hr;simp at hr
   | some owner =>
    rw[hl]at hr;simp at hr;rw[<-hr.1]
  .rfl
theorem Ge{j V:Type}{F:j->V->Prop}{l l':List V}(p:l'.Perm l):∀{ks:List j},Paired F ks l->∃U5,Paired F U5 l'/\U5.Perm ks:=by
 induction p with
 | nil=>intro ks h;cases h;exact⟨[],.nil,.nil⟩
 | cons x p ih =>
  intro ks h;cases h with
  | cons r t =>
   obtain⟨U5,h1,h2⟩:=ih t;exact⟨_::U5,.cons r h1,h2.cons _⟩
 | swap x y l =>
  intro ks h;cases h with
  | cons r t =>
   cases t with
   | cons r' t'=>exact⟨_::_::_,.cons r' (.cons r t'),.swap _ _ _⟩
 | trans p1 p2 ih1 ih2 =>
  intro ks h;obtain⟨k1,h1,h2⟩:=ih2 h;obtain⟨k2,h3,h4⟩:=ih1 h1;exact⟨k2,h3,h4.trans h2⟩
theorem Mg{j V:Type}{F:j->V->Prop}:∀{ks:List j} {l:List V},Paired F ks l->∀k∈ks,∃e∈l,F k e
 | _,_,.nil,k,h=>by cases h
 | _,_,.cons r t,k,h=>by
  rcases Vv.mp h with z | z
  .subst z;exact⟨_,Yn,r⟩
  .obtain⟨e,h1,h2⟩:=Mg t k z;exact⟨e,Vk _ h1,h2⟩
theorem G0{j V:Type}{F:j->V->Prop}:∀{ks:List j} {l:List V},Paired F ks l->∀e∈l,∃k∈ks,F k e
 | _,_,.nil,k,h=>by cases h
 | _,_,.cons r t,k,h=>by
  rcases Vv.mp h with z | z
  .subst z;exact⟨_,Yn,r⟩
  .obtain⟨e,h1,h2⟩:=G0 t k z;exact⟨e,Vk _ h1,h2⟩
section
variable{prog:Program}{w:World}{K:Type}[DecidableEq K](knd:KeyKind prog w K)
structure oi(o:Obj)(ks:List K):Prop where
 ex:o.ExactSet
 dat:∃es ep t,o.data=.set es ep t/\ElemsOf knd es.toList/\Paired (fun k (e:Int×Value)=>knd.is k e.2=true) ks es.toList/\es.size<scanBound/\R5 t es.size/\t.led=!(w.params.followText "set-order")
 nd:ks.Nodup
def Bi(h:Heap)(a:Addr)(ks:List K):Prop:=∃o,h.get? a=some o/\oi knd o ks
variable{knd}{A:Around}{E:ZQ}{s:Shared}{a:Addr}
theorem oi.len{o:Obj}{ks:List K}(h:oi knd o ks):ks.length<scanBound:=by
 obtain⟨es,ep,t,_,_,p,b,_⟩:=h.dat;rw[p.length,Ln];exact b
theorem Cd{o:Obj}{es N5:Array (Int×Value)}{ep:Nat}{t t':SetTable}{U5:List K}{h:Heap}(ho:h.get? a=some o)(hex:o.ExactSet)(hd:o.data=.set es ep t)(el:ElemsOf knd N5.toList)
  (pr:Paired (fun k (e:Int×Value)=>knd.is k e.2=true) U5 N5.toList) (hb:N5.size<scanBound) (ti:R5 t' N5.size) (hl:t'.led=!(w.params.followText "set-order")) (nd:U5.Nodup) :
  (h.update a (Obj.putSet N5 t')).get? a=some { o with data:=.set N5 (ep+1) t' }/\oi knd { o with data:=.set N5 (ep+1) t' } U5:=by
 have mem:∀k',(decide (k'∈U5))=true↔∃e∈N5.toList,knd.is k' e.2=true:=fun k'=>by
  rw[decide_eq_true_eq];constructor
  .exact fun hk=>Mg pr k' hk
  .rintro⟨e,he,hq⟩;obtain⟨k2,h1,h2⟩:=G0 pr e he;rw[knd.inj e.2 k' k2 hq h2];exact h1
 obtain⟨e1,o2,es2,ep2,t2,e2,ex2,d2,_⟩:=SetOf_store (knd:=knd) ho hex hd el mem hb ti.fits;rw[e1]at e2;cases e2;exact⟨e1,⟨ex2,⟨N5,ep+1,t',rfl,el,pr,hb,ti,hl⟩,nd⟩⟩
theorem nv{ks:List K}{k:K}{x:Value}{Q:Bool->Shared->Prop}(hkey:knd.is k x=true)(hsc:x.scannable=true)(hS:Bi knd s.heap a ks)(hroom:ks.length+1<scanBound)
  (h:∀h' U5,Heap.SameBut a s.heap h'->Bi knd h' a U5->U5.Perm (if k∈ks then ks else ks++[k])->Q (!decide (k∈ks)) { s with heap:=h' }) :
  wpAny (model prog w) A (setAddHashed a x (knd.hash k)) Q E s:=by
 obtain⟨o,ho,S⟩:=hS;obtain⟨es,ep,t,hd,hel,pr,hb,ti,hled⟩:=S.dat;have hlen:ks.length=es.size:=by rw[pr.length,Ln]
 unfold setAddHashed setAddHashedIn;refine wpAny_holding (Zq (wpAny_setState_of ho hd ti.fits ?_));dsimp only;rw[byScan_of hsc hb hel];simp only[↓reduceIte];unfold setAddByScan;refine Zq (Zq (wpAny_rule (Zq (wpAny_setScan_of hkey ho hd ti.fits hel ?_))));cases hr:List.findIdx? (fun e=>knd.is k e.2) es.toList with
 | some j =>
  dsimp only;obtain⟨hj,hpj,_⟩:=List.findIdx?_eq_some_iff_getElem.mp hr
  have hk:k∈ks:=by
   obtain⟨k2,h1,h2⟩:=G0 pr _ (G0e hj);rw[knd.inj _ k k2 hpj h2];exact h1
  have q:=h s.heap ks (Heap.SameBut.refl a s.heap) ⟨o,ho,S⟩ (by rw[if_pos hk]);rw[Ma hk]at q;exact Zt (Zt q)
 | none =>
  dsimp only
  have hk:k ∉ ks:=fun hm=>by
   obtain⟨e,he,hq⟩:=Mg pr k hm;have z:=List.findIdx?_eq_none_iff.mp hr e he;rw[hq]at z;cases z
  have gw:∀(b:Bool) {s₁:Shared} {Q':ZH},Q' () s₁->wpAny (model prog w) A (match b with | true=>rule "set.scan.the-table-gave-way" | false=>pure ()) Q' E s₁ :=
   fun b s₁ Q' hq=>by cases b<;>first | exact Zt hq | exact wpAny_rule hq
  have perm0:=layNew_perm t es (knd.hash k) x;have Pd:=Eh (t:=t) ti (knd.hash k) x;have yp:=Kh (t:=t) (es:=es) (knd.hash k) x;generalize hL:layNew t es (knd.hash k) x=L at perm0 Pd yp ⊢;obtain⟨Rb,t1,wasDummy,gave⟩:=L;dsimp only at perm0 Pd yp ⊢;rw[Array.toList_push]at perm0;have el1:ElemsOf knd Rb.toList:=(hel.push hkey hsc).perm perm0;have pr0:Paired (fun k (e:Int×Value)=>knd.is k e.2=true) (ks++[k]) (es.toList++[(knd.hash k,x)]):=Paired.snoc pr hkey;obtain⟨ks1,Tw,pk1⟩:=Ge perm0 pr0
  have nd1:ks1.Nodup:=pk1.nodup_iff.mpr (List.nodup_append.mpr ⟨S.nd,List.nodup_cons.mpr ⟨by simp,List.nodup_nil⟩,fun u hu v hv=>by
   rw[V1.mp hv];exact fun z=>hk (z ▸ hu)⟩)
  have sz1:Rb.size=es.size+1:=by
   have:=perm0.length_eq;rw[Gn,Ln,Ln]at this;simpa using this
  have hb1:Rb.size<scanBound:=by omega
  refine Zq (gw _ ?_)
  have tailOk:∀t2:SetTable,R5 t2 Rb.size->t2.led=t.led->wpAny (model prog w) A (do
    storeSet a Rb t2
    if (!wasDummy && t2.tooFull)=true then do
      (match (relayAll t2 Rb (SetTable.grown Rb.size)).2.2 with | true=>rule "set.scan.the-table-gave-way" | false=>pure ())
      storeSet a (relayAll t2 Rb (SetTable.grown Rb.size)).1 (relayAll t2 Rb (SetTable.grown Rb.size)).2.1
      pure (some true)
     else pure (some true)) (fun b s'=>b=some true/\∃h' U5,s'={ s with heap:=h' }/\Heap.SameBut a s.heap h'/\Bi knd h' a U5/\U5.Perm (ks++[k])) E s:=by
   intro t2 ti2 hl2;refine Zq (wpAny_storeSet_of ho hd ?_ (fits_of_scanBound hb1));obtain⟨g1,S1⟩:=Cd (knd:=knd) ho S.ex hd el1 Tw hb1 ti2 (hl2.trans hled) nd1;have sb1:=Heap.SameBut.update s.heap a (Obj.putSet Rb t2)
   split
   .have hp:=relayAll_perm t2 Rb (SetTable.grown Rb.size);have ti3:=L0 (t:=t2) (es:=Rb) (SetTable.grown Rb.size);have led3:=Fz (t:=t2) (es:=Rb) (SetTable.grown Rb.size);generalize relayAll t2 Rb (SetTable.grown Rb.size)=Rl at hp ti3 led3 ⊢;obtain⟨es2,t3,gave2⟩:=Rl;dsimp only at hp ti3 led3 ⊢;obtain⟨ks2,pr2,pk2⟩:=Ge hp Tw
    have sz2:es2.size=Rb.size:=by
     have:=hp.length_eq
     rwa [Ln,Ln]at this
    have hb2:es2.size<scanBound:=by omega
    refine Zq (gw _ ?_);refine Zq (wpAny_storeSet_of g1 rfl ?_ (fits_of_scanBound hb2));obtain⟨g2,S2⟩:=Cd (knd:=knd) g1 S1.ex rfl (el1.perm hp) pr2 hb2 ti3 (led3.trans (hl2.trans hled)) (pk2.nodup_iff.mpr nd1);exact Zt ⟨rfl,_,ks2,rfl,sb1.trans (Heap.SameBut.update _ a _),⟨_,g2,S2⟩,pk2.trans pk1⟩
   .exact Zt ⟨rfl,_,ks1,rfl,sb1,⟨_,g1,S1⟩,pk1⟩
  have fin:∀b s',(b=some true/\∃h' U5,s'={ s with heap:=h' }/\Heap.SameBut a s.heap h'/\Bi knd h' a U5/\U5.Perm (ks++[k])) ->
    wpAny (model prog w) A (match b with | some added=>pure added | none=>setAddHashedIn a x (knd.hash k) 99999) Q E s':=by
   rintro b s' ⟨rfl,h',U5,rfl,sb,g,pk⟩;have q:=h h' U5 sb g (by rw[if_neg hk];exact pk);rw[Cw hk]at q;exact Zt q
  split
  .refine Zq ?_;rw[hashByValue_scannable 8 hsc];refine Zt ?_;refine wpAny_mono (tailOk _ ?_ ?_) fin fun _ _ z=>z
   .split
    .exact Pd
    .exact⟨Pd.size,Pd.dum,Pd.ris,Pd.room⟩
   .split
    .exact yp
    .exact yp
  .refine Zq (Zt ?_);simp only[↓reduceIte];exact wpAny_mono (tailOk _ Pd yp) fin fun _ _ z=>z
end
end SetM
namespace SetM
open PySem PyProof.Rows
section
variable{prog:Program}{w:World}{K:Type}[DecidableEq K]{knd:KeyKind prog w K}
theorem Bi.at'{h h':Heap}{a:Addr}{ks:List K}(x:Bi knd h a ks)(e:∀o,h.get? a=some o->h'.get? a=some o):Bi knd h' a ks:=let ⟨o,ho,S⟩:=x;⟨o,e o ho,S⟩
structure Qe(val:Nat->K)(i:Nat)(ks:List K):Prop where
 mem:∀x,x∈ks↔∃j,j<i/\val j=x
 len:ks.length<=i
theorem Qe.zero(val:Nat->K):Qe val 0 []:=⟨fun x=>⟨fun z=>absurd z Tz,fun⟨j,z,_⟩=>absurd z (Nat.not_lt_zero _)⟩,Gc _⟩
theorem Qe.next{val:Nat->K}{i:Nat}{ks U5:List K}(u:Qe val i ks)(pk:U5.Perm (if val i∈ks then ks else ks++[val i])):Qe val (i+1) U5:=by
 refine⟨fun x=>?_, ?_⟩
 .rw[pk.mem_iff];constructor
  .intro hx
   have hx':x∈ks\/x=val i:=by
    split at hx
    .exact .inl hx
    .rcases Cj.mp hx with hx | hx
     .exact .inl hx
     .exact .inr (V1.mp hx)
   rcases hx' with hx' | hx'
   .obtain⟨j,h1,h2⟩:=(u.mem x).mp hx';exact⟨j,by omega,h2⟩
   .exact⟨i,by omega,hx'.symm⟩
  .rintro⟨j,h1,h2⟩;by_cases hx:x∈ks
   .split
    .exact hx
    .exact List.mem_append_left _ hx
   .have e:j=i:=by
     rcases Nat.lt_or_ge j i with z | z
     .exact absurd ((u.mem x).mpr ⟨j,z,h2⟩) hx
     .omega
    subst e;rw[h2,if_neg hx];exact de _ (List.mem_singleton_self _)
 .rw[pk.length_eq];have:=u.len
  split
  .omega
  .simp only[Gn,ZU];omega
variable{A:Around}{R:Result->Shared->Prop}{I:Addr}{fp wr:ZS}{G:Array GenState->Array GenState->Prop}{n:Nat}{P:Nat->Value->Prop}{St:Nat->Shared->Prop}
theorem Ly(W:WalksS prog w A.in1 I fp wr G n P St){a:Addr}(na:a ∉ fp){val:Nat->K}(hval:∀i v,P i v->knd.is (val i) v=true/\v.scannable=true)(hb:n+1<scanBound)(i:Nat)(s:Shared)(ks:List K)
  (hi:i<=n) (st:St i s) (hS:Bi knd s.heap a ks) (u:Qe val i ks) (fin:∀s' U5,Moved (a::wr) G s s'->Bi knd s'.heap a U5->Qe val n U5->R (.ok (.ret .none)) s') :
  codeAny (model prog w) A (.builtin "set.update.loop" ⟨[.ref a,.ref I],[]⟩) R s:=by
 have naw:a ∉ wr:=fun z=>na (W.sub _ z);have more:∀b∈wr,b∈a::wr:=fun b z=>Vk _ z;refine codeAny_builtin PyProof.Rows.F.entry_set_update_loop ?_;rw[Around.under_plainId PyProof.Rows.F.plain_set_update_loop];refine Zq (m:=pyNext (.ref I)) ?_;by_cases Oa:i<n
 .refine W.item i s _ _ Oa st fun v s1 hP st1 mv=>?_;obtain⟨hv,hsc⟩:=hval i v hP;have hS1:Bi knd s1.heap a ks:=hS.at' fun o e=>mv.heap a o naw e;refine Zq (m:=holding [v] (setAdd a v)) (wpAny_holding ?_);unfold setAdd;refine wpAny_holding (Zq (knd.pyHash (k:=val i) hv ?_));have:=u.len;refine nv (knd:=knd) (s:={ s1 with toks:=s1.toks+1 }) hv hsc hS1 (by omega) fun h2 ks2 sb hS2 pk=>Zt ⟨plainId_quiet PyProof.Rows.F.plain_set_update_loop _, ?_⟩;refine Ly W na hval hb (i+1) { s1 with heap:=h2,toks:=s1.toks+1 } ks2 Oa (W.frame _ s1 _ _ st1 (Nat.le_succ _) fun b hb' o e=>?_) hS2 (u.next pk) fun s3 ks3 mv3 hS3 u3=>?_
  .rw[sb.2 b fun z=>na (z ▸ hb')];exact e
  .refine fin s3 ks3 (Moved.trans W.gtrans ((mv.mono more).then_heap (Nat.le_succ _) fun b o hb' e=>?_) mv3) hS3 u3;rw[sb.2 b fun z=>hb' (z ▸ Yn)];exact e
 .have e:i=n:=by omega
  subst e;exact W.done s _ _ st fun s1 mv=>Zt (fin s1 ks (mv.mono more) (hS.at' fun o e=>mv.heap a o naw e) u)
termination_by n - i
end
section
variable{prog:Program}{w:World}{A:Around}{E:ZQ}{s:Shared}
theorem Hr{T newId initId:String}{args:ZK}{Q:ZQ}(ft:TypeCalled T newId initId)(hct:checkTypeCall T ⟨args,[]⟩=pure ())
  (h:codeAny (model prog w) A.in1 (.call (.builtin newId) ⟨.type T::args,[]⟩) (wants (fun obj s1=>s1.TypeIs obj T/\codeAny (model prog w) A.in1 (.call (.builtin initId) ⟨obj::args,[]⟩) (wants (fun r s2=>r=.none/\Q obj s2) E) s1) E) s) :
  wpAny (model prog w) A (call (.type T) args) Q E s:=by
 have q1:=ft.notType;have q2:=ft.canCreate;have q3:=ft.made;have q4:=ft.sub;obtain⟨c,tl,q5⟩:=ft.mro
 apply wpAny_call
 apply codeAny_of_tree
 change wpAny (model prog w) _ (callAny (Value.type T) ⟨args,[]⟩) _ _ s
 refine Zt (And.intro (Code.quiet_builtin _ (by decide +kernel)) (codeAny_builtin PySem.F.entry_type_call ?_));rw[Around.under_plain (weight_type_call_type T args []) (units_type_call_type T args [])]
 repeat (any_goals (first | assumption | wp_step))
 refine codeAny_mono h fun r s1 hr=>?_;rcases r with e | fl
 .exact hr
 .cases fl with
  | ret obj =>
   obtain⟨hT,hI⟩:=hr;have q6:=ft.init.lookup;have q7:=ft.init.bind obj
   repeat (any_goals (first | assumption | wp_step))
   refine codeAny_mono hI fun r2 s2 hr2=>?_;rcases r2 with e2 | fl2
   .exact hr2
   .cases fl2 with
    | ret r3 =>
     obtain⟨rfl,q⟩:=hr2
     repeat (any_goals (first | assumption | wp_step))
    | _=>exact hr2.elim
  | _=>exact hr.elim
noncomputable abbrev My(b:Bool):Obj:={ cls:=.type "set",dict:=none,data:=.set #[] 0 (.fresh 0 0 b) }
theorem sf(x:Value){Q1:ZQ}(h:Q1 (.ref s.heap.objs.size) { s with heap:=s.heap.push (My (!(w.params.followText "set-order"))) }) :
  codeAny (model prog w) A (.call (.builtin "set.__new__") ⟨[.type "set",x],[]⟩) (wants Q1 E) s:=by
 have q:=sub_set_self;refine codeAny_call_builtin PySem.F.plain_set_new PySem.F.entry_set_new (wpAny_of_eq (PySem.F.newCall_set_1 x) ?_);unfold Builtin.«set.__new__» Builtin.Frozenset.newClass;obtain⟨hp,gs,dr,tk,so⟩:=s;dsimp only
 wp_walk
 refine wpAny_askSetting (Zt ?_);dsimp only;simp only[newObj];exact Zq (wpAny_alloc (Zt (Zt h)))
variable{K:Type}[DecidableEq K]{knd:KeyKind prog w K}
set_option maxHeartbeats 4000000 in
theorem br{l:Addr}{xs:ZD}{val:Nat->K}{Q:ZQ}(hh:A.handled=none)(hl:s.heap.IsList l xs)(hx:∀i v,xs[i]?=some v->knd.is (val i) v=true/\v.scannable=true)(hb:xs.size+1<scanBound)
  (fin:∀(h1:Heap) (tk:Nat) (ks:List K),Bi knd h1 s.heap.objs.size ks->Qe val xs.size ks->(∀b o,s.heap.get? b=some o->h1.get? b=some o)->Q (.ref s.heap.objs.size) { s with heap:=h1,toks:=tk }) :
  wpAny (model prog w) A (call (.type "set") [.ref l]) Q E s:=by
 refine Hr PySem.F.called_set (PySem.F.typeCall_set_1 (.ref l)) (sf (.ref l) ?_);generalize hb0:(!(w.params.followText "set-order"))=b0;have at0:(s.heap.push (My b0)).get? s.heap.objs.size=some (My b0):=Gb _ rfl;have ty0:Shared.TypeIs { s with heap:=s.heap.push (My b0) } (.ref s.heap.objs.size) "set" := ⟨_,at0,rfl⟩;refine⟨ty0,codeAny_call_builtin PySem.F.called_set.init.plain PySem.F.entry_set_init (check_set_init_1 ty0 ?_)⟩;obtain⟨⟨c0,d0,dt0,sl0⟩,e0,hc0,n0,hd0⟩:=hl;simp only at hc0 hd0;subst hc0 hd0;have e1:(s.heap.push (My b0)).get? l=some ⟨.type "list",d0,.seq xs n0,sl0⟩:=Y4 _ e0;have li:(s.heap.push (My b0)).IsList l xs:=⟨_,e1,rfl,n0,rfl⟩;have u1:=PySem.F.sub_list_set;have u2:=PySem.F.sub_list_frozenset;have u3:(Value.type "list" == Value.type "dict")=false:=by decide
 unfold Builtin.«set.__init__» noKeywords Builtin.Frozenset.updateFrom;generalize hit:pyIter=it
 wp_walk
 subst hit;have lt0:l<s.heap.objs.size:=Jw e0;have sz:(s.heap.push (My b0)).objs.size=s.heap.objs.size+1:=Heap.size_push _ _;refine wpAny_pyIter_list li (Zq (wpAny_runValue ?_))
 refine Ly (knd:=knd) (val:=val) ((Walks.list (by simp[hh]) _ l (by rw[sz];exact Cq (Nat.lt_succ_of_lt lt0)) xs).toS) (fun z=>(Vv.mp z).elim (fun z=>absurd z (Cq (by rw[sz];exact Nat.lt_succ_self _))) fun z=>absurd (V1.mp z) (Nat.ne_of_gt lt0)) hx hb 0 _ [] (Wz _) ⟨⟨_,Gb _ rfl,rfl,rfl⟩,li.push _⟩
  ⟨_,Y4 _ at0,⟨⟨rfl,rfl,rfl⟩,⟨#[],0,_,rfl,fun e he=>by simp at he,.nil,by unfold scanBound;decide,Xo _ _ _,hb0.symm⟩,List.nodup_nil⟩⟩ (Qe.zero val) ?_
 rintro⟨h2,g2,d2,tk2,o2⟩ ks mv S2 u;have x1:g2=s.gens:=mv.gens;have x2:d2=s.drawn:=mv.drawn;have x3:o2=s.os:=mv.os;subst x1 x2 x3;refine Zt (Zt ⟨rfl,fin h2 tk2 ks S2 u fun b o e=>mv.heap b o ?_ (Y4 _ (Y4 _ e))⟩);have lb:=Jw e;intro z;rcases Vv.mp z with z | z
 .exact absurd z (Cq lb)
 .have z:=V1.mp z;rw[sz]at z;exact absurd z (Cq (Nat.lt_succ_of_lt lb))
end
section
variable{prog:Program}{w:World}{A:Around}{E:ZQ}{s:Shared}{a:Addr}{o:Obj}{es:Array (Int×Value)}{ep:Nat}{t:SetTable}
end
section
variable{w:World}{a:Addr}{es:Array (Int×Value)}{ep:Nat}{t:SetTable}{h:Heap}{i:Nat}{first:Value}{vs:ZK}
end
section
variable{prog:Program}{w:World}{A:Around}{E:ZQ}{s:Shared}{a I:Addr}{o:Obj}{es:Array (Int×Value)}{ep:Nat}{t:SetTable}{i:Nat}{first:Value}{vs:ZK}
end
section
variable{prog:Program}{w:World}{A:Around}{E:ZQ}{s:Shared}{a I:Addr}{o:Obj}{es:Array (Int×Value)}{ep:Nat}{t:SetTable}{vs:ZK}
end
section
variable{prog:Program}{w:World}{K:Type}[DecidableEq K]{knd:PySem.KeyKind prog w K}{A:Around}{E:ZQ}{s:Shared}{a:Addr}
theorem Vo{h:Heap}{l b:Addr}{vs:ZK}{out:ZD}{ob:Obj}(hb:b≠l)(e:h.get? b=some ob):(sortedHeap h l vs out).get? b=some ob:=by
 rw[sortedHeap_old hb (Jw e)];exact e
end
end SetM
namespace L2
open PySem PySem.Spec PyProof.Rows
abbrev Key:=Sum Int Str
noncomputable def Rz:Key->Value->Bool
 | .inl k,v=>Value.isInt k v
 | .inr x,v=>Value.isStrOf x v
noncomputable def keyH(w:World):Key->Int
 | .inl k=>hashInt k
 | .inr x=>hashStr w x
theorem Zh:∀{k:Key} {v:Value},Rz k v=true->(∃i t,k=Sum.inl i/\v=Value.int i t)\/(∃x t,k=Sum.inr x/\v=Value.str x t)
 | .inl i,v,h=>by
  obtain⟨t,e⟩:=Value.isInt_shape (k:=i) (v:=v) h;exact .inl ⟨i,t,rfl,e⟩
 | .inr x,v,h=>by
  obtain⟨t,e⟩:=Value.isStrOf_shape (x:=x) (v:=v) h;exact .inr ⟨x,t,rfl,e⟩
theorem zc(i:Int)(t:Tok):Rz (.inl i) (.int i t)=true:=by simp[Rz,Value.isInt]
theorem zd(x:Str)(t:Tok):Rz (.inr x) (.str x t)=true:=by simp[Rz,Value.isStrOf]
theorem key_ll(a b:Int):decide ((Sum.inl a:Key)=Sum.inl b)=(a == b):=by
 by_cases e:a=b
 .subst e;simp
 .have h:¬ (Sum.inl a:Key)=Sum.inl b:=fun q=>e (Sum.inl.inj q);rw[Cw h];exact(B0n.mpr e).symm
theorem key_rr(a b:Str):decide ((Sum.inr a:Key)=Sum.inr b)=decide (a=b):=by
 by_cases e:a=b
 .subst e;simp
 .have h:¬ (Sum.inr a:Key)=Sum.inr b:=fun q=>e (Sum.inr.inj q);rw[Cw h,Cw e]
theorem key_lr(a:Int)(b:Str):decide ((Sum.inl a:Key)=Sum.inr b)=false:=Cw (fun q=>nomatch q)
theorem key_rl(a:Str)(b:Int):decide ((Sum.inr a:Key)=Sum.inl b)=false:=Cw (fun q=>nomatch q)
noncomputable def Zk(prog:Program)(w:World):PySem.KeyKind prog w Key where
 is:=Rz
 hash:=keyH w
 inj:=fun v a b ha hb=>by
  rcases Zh ha with ⟨i,t,rfl,rfl⟩ | ⟨x,t,rfl,rfl⟩
  .rcases Zh hb with ⟨j,u,rfl,e⟩ | ⟨y,u,rfl,e⟩
   .injection e with e1 _;rw[e1]
   .exact nomatch e
  .rcases Zh hb with ⟨j,u,rfl,e⟩ | ⟨y,u,rfl,e⟩
   .exact nomatch e
   .injection e with e1 _;rw[e1]
 byValue:=fun k v h=>by
  rcases Zh h with ⟨i,t,rfl,rfl⟩ | ⟨x,t,rfl,rfl⟩<;>rfl
 pyHash:=fun hv h=>by
  rcases Zh hv with ⟨i,t,rfl,rfl⟩ | ⟨x,t,rfl,rfl⟩
  .exact wpAny_pyHash_int h
  .exact wpAny_pyHash_str h
 eqBool:=fun hu hv h=>by
  rcases Zh hu with ⟨i,t,rfl,rfl⟩ | ⟨x,t,rfl,rfl⟩
  .rcases Zh hv with ⟨j,u,rfl,rfl⟩ | ⟨y,u,rfl,rfl⟩
   .rw[key_ll]at h;exact wpAny_eqBool_int h
   .rw[key_lr]at h;exact SeqAt.EqAt.int_str i t y u _ _ _ _ h
  .rcases Zh hv with ⟨j,u,rfl,rfl⟩ | ⟨y,u,rfl,rfl⟩
   .rw[key_rl]at h;exact SeqAt.EqAt.str_int x t j u _ _ _ _ h
   .rw[key_rr]at h;exact wpAny_eqBool_str h
 «strs»:=fun k x t v h=>by
  rcases Zh h with ⟨i,u,rfl,e⟩ | ⟨y,u,rfl,e⟩
  .exact nomatch e
  .injection e with e1 _
   subst e1;cases v<;>rfl
theorem Ow(prog:Program)(w:World)(i:Int)(t:Tok):(Zk prog w).is (.inl i) (.int i t)=true:=zc i t
theorem G3(prog:Program)(w:World)(x:Str)(t:Tok):(Zk prog w).is (.inr x) (.str x t)=true:=zd x t
end L2
namespace HT
open PySem PyProof.Rows
section
variable{prog:Program}{w:World}{A:Around}{E:ZQ}{s:Shared}
noncomputable def Y7(n d:Nat):ZC->Nat
 | none=>d
 | some v=>if v<0 then (v+(n:Int)).toNat else min v.toNat n
theorem l8(n d k:Nat):Y7 n d (some (k:Int))=min k n:=by
 show (if (k:Int)<0 then ((k:Int)+(n:Int)).toNat else min (k:Int).toNat n)=min k n;rw[if_neg (by omega),XQ]
theorem sIx_le(n d:Nat)(hd:d<=n)(o:ZC):Y7 n d o<=n:=by
 cases o with
 | none=>exact hd
 | some v =>
  show (if v<0 then (v+(n:Int)).toNat else min v.toNat n)<=n;by_cases hv:v<0
  .rw[if_pos hv];omega
  .rw[if_neg hv];exact Nat.min_le_right _ _
theorem Xw(v:Int)(n d:Nat):(if v<0 then max (v+(n:Int)) 0 else min v (n:Int))=((Y7 n d (some v):Nat):Int):=by
 show (if v<0 then max (v+(n:Int)) 0 else min v (n:Int))=(((if v<0 then (v+(n:Int)).toNat else min v.toNat n):Nat):Int);by_cases hv:v<0
 .simp only[if_pos hv];omega
 .simp only[if_neg hv];omega
theorem H7(lo hi:ZC)(n:Nat):Builtin.Slice.sliceAdjust lo hi 1 (n:Int)=(((Y7 n 0 lo:Nat):Int),((Y7 n n hi:Nat):Int)):=by
 have h1:¬ ((1:Int)<0):=by omega
 unfold Builtin.Slice.sliceAdjust;simp only[h1,if_false];refine Prod.ext ?_ ?_
 .cases lo with
  | none=>rfl
  | some v=>exact Xw v n 0
 .cases hi with
  | none=>rfl
  | some v=>exact Xw v n n
theorem E7(i j:Nat):Builtin.Slice.slicePlaces (i:Int) (j:Int) 1=j - i:=by
 unfold Builtin.Slice.slicePlaces;have h1:(1:Int)>0:=by omega
 simp only[h1,if_true,Int.ediv_one]
 split<;>omega
theorem Ca{v:Value}{o:ZC}{Q:ZC->Shared->Prop}(p:IsPart v o)(h:Q o s):wpAny (model prog w) A (Builtin.Slice.slicePartIndex v) Q E s:=by
 cases p with
 | none=>exact slicePart_none h
 | int i t=>exact slicePart_int h
theorem U8{sl:Addr}{vl vu:Value}{lo hi:ZC}{n:Nat}{Q:Int×Int×Nat->Shared->Prop}(hs:s.heap.IsSliceOf sl vl vu .none)(pl:IsPart vl lo)(pu:IsPart vu hi)
  (h:Q (((Y7 n 0 lo:Nat):Int),1,Y7 n n hi - Y7 n 0 lo) s):wpAny (model prog w) A (Builtin.Slice.sliceApplied (.ref sl) (pure (n:Int))) Q E s:=by
 obtain⟨os,hos,hcs,hds⟩:=id hs;unfold Builtin.Slice.sliceApplied Builtin.Slice.sliceFields;refine Zq (Zq (wpAny_field hos hds (x:=vl) rfl (Zq (wpAny_field hos hds (x:=vu) rfl (Zq (wpAny_field hos hds (x:=.none) rfl (Zt ?_)))))));refine Zq (slicePart_none ?_);show wpAny _ _ (if ((1:Int) == 0)=true then _ else _) _ _ s;rw[if_neg (by decide)];refine Zq (Ca pl (Zq (Ca pu (Zq (Zt ?_)))));show wpAny _ _ (match Builtin.Slice.sliceAdjust lo hi 1 (n:Int) with | (lo,hi)=>pure (lo,(1:Int),Builtin.Slice.slicePlaces lo hi 1)) _ _ s;rw[H7 lo hi n];show wpAny _ _ (pure (((Y7 n 0 lo:Nat):Int),(1:Int),Builtin.Slice.slicePlaces ((Y7 n 0 lo:Nat):Int) ((Y7 n n hi:Nat):Int) 1)) _ _ s;rw[E7];exact Zt h
theorem vh(xs:ZD)(i k:Nat):((List.range k).filterMap fun(m:Nat)=>xs[((i:Int)+(m:Int) * 1).toNat]?).toArray=((xs.toList.drop i).take k).toArray:=by
 have e:(fun(m:Nat)=>xs[((i:Int)+(m:Int) * 1).toNat]?)=fun m=>xs[i+m]?:=by
  funext m
  have:((i:Int)+(m:Int) * 1).toNat=i+m:=by omega
  rw[this]
 rw[e];have:=pick_run xs i k;rw[List.filterMap_map]at this;have e2:((fun x=>xs[x]?) ∘ fun x=>i+x)=fun m=>xs[i+m]?:=rfl;rw[e2]at this;rw[this]
theorem Nz{t sl:Addr}{items:ZD}{vl vu:Value}{lo hi:ZC}{Q:ZQ}(ht:IsTup s.heap t items)(hs:s.heap.IsSliceOf sl vl vu .none)(pl:IsPart vl lo)(pu:IsPart vu hi)
  (hw:¬ (Y7 items.size 0 lo=0/\Y7 items.size items.size hi=items.size))
  (h:Q (.ref s.heap.objs.size) { s with heap:=s.heap.push { cls:=.type "tuple",data:=.seq ((items.toList.drop (Y7 items.size 0 lo)).take (Y7 items.size items.size hi - Y7 items.size 0 lo)).toArray } })
  (hsz:items.size<=sizeLine):wpAny (model prog w) A (getItem (.ref t) (.ref sl)) Q E s:=by
 have Ip:sizeOk (.seq ((items.toList.drop (Y7 items.size 0 lo)).take (Y7 items.size items.size hi - Y7 items.size 0 lo)).toArray):=by
  show ((items.toList.drop (Y7 items.size 0 lo)).take (Y7 items.size items.size hi - Y7 items.size 0 lo)).toArray.size<=sizeLine;rw[Jv,dz,List.length_drop,Ln];omega
 have hj:Y7 items.size items.size hi<=items.size:=sIx_le _ _ (Gc _) hi;obtain⟨os,hos,hcs,hds⟩:=id hs;have hTs:s.TypeIs (.ref sl) "slice" := ⟨os,hos,hcs⟩;unfold getItem
 try with_reducible refine wpAny_holding ?_
 first | refine Zq (Zt ?_) | skip
 refine Zq (wpAny_sequenceKey ht.typeIs (by decide) ?_)
 refine Zq (wpAny_callSpecial?_slot (name:=Str.ofString "__getitem__") ht.typeIs slot_tuple_getitem
  (wpAny_call_entry slot_tuple_getitem ht.typeIs entry_tuple_getitem ?_ (args_tuple_getitem _ _)))
 show wpAny _ _ (Builtin.Tuple.tupleItemsOf (.ref t) >>= _) _ _ s;refine Zq (tupleItemsOf_ ht ?_);refine Zq (wpAny_typeOf hTs ?_);rw[if_pos (by decide)];refine Zq (U8 hs pl pu ?_)
 have hno:¬ ((((Y7 items.size 0 lo:Nat):Int) == 0 && (1:Int) == 1 && (Y7 items.size items.size hi - Y7 items.size 0 lo) == items.size)=true):=by
  intro q;rw[Vp,Vp]at q;have q1:((Y7 items.size 0 lo:Nat):Int)=0:=eq_of_beq q.1.1;have q2:Y7 items.size items.size hi - Y7 items.size 0 lo=items.size:=eq_of_beq q.2;exact hw ⟨by omega,by omega⟩
 show wpAny _ _ (if (((Y7 items.size 0 lo:Nat):Int) == 0 && (1:Int) == 1 && (Y7 items.size items.size hi - Y7 items.size 0 lo) == items.size)=true then _ else _) _ _ s;rw[if_neg hno,vh]
 first
  | exact Zq (m:=Builtin.Tuple.tupleExact _) (wpAny_newObj_type (Zt ⟨_,rfl,Zt h⟩) Ip)
  | exact Zq (m:=Builtin.Tuple.tupleExact _) (wpAny_newObj_type (Zq (Zt (Zt ⟨_,rfl,Zt h⟩))) Ip)
  | exact Zq (Zq (m:=Builtin.Tuple.tupleExact _) (wpAny_newObj_type (Zt (Zt ⟨_,rfl,Zt h⟩)) Ip))
  | exact Zq (Zq (m:=Builtin.Tuple.tupleExact _) (wpAny_newObj_type (Zt ⟨_,rfl,Zt h⟩) Ip))
theorem ao{t b:Addr}{vs ws:ZK}{Q:ZQ}(ht:IsTup s.heap t vs.toArray)(hb:IsTup s.heap b ws.toArray)(hv:vs≠[])
  (h1:ws=[]->Q (.ref t) s) (h2:ws≠[]->Q (.ref s.heap.objs.size) { s with heap:=s.heap.push { cls:=.type "tuple",data:=.seq (vs++ws).toArray } })
  (hsz:vs.length+ws.length<=sizeLine):wpAny (model prog w) A (binaryOp .Add (.ref t) (.ref b)) Q E s:=by
 obtain⟨⟨cls,dd,data,sl⟩,ho,hc,n,hd⟩:=id ht;obtain⟨⟨cls2,dd2,data2,sl2⟩,ho2,hc2,n2,hd2⟩:=id hb;simp only at hc hd hc2 hd2;subst hc hd hc2 hd2;have e:vs.toArray++ws.toArray=(vs++ws).toArray:=by simp
 by_cases hw:ws=[]
 .exact concat_meets ⟨_,ho,rfl⟩ ⟨_,ho2,rfl⟩ noFill_tuple_add seq_tuple_add PySem.F.slot_tuple_add PySem.F.entry_tuple_add (PySem.F.args_tuple_add_2 _ _)
   (tuple_addW1 t b vs.toArray ws.toArray n n2 dd dd2 sl sl2 (by simpa using hv) (by simp[hw])) ⟨ho,ho2,h1 hw⟩
 .refine concat_meets ⟨_,ho,rfl⟩ ⟨_,ho2,rfl⟩ noFill_tuple_add seq_tuple_add PySem.F.slot_tuple_add PySem.F.entry_tuple_add (PySem.F.args_tuple_add_2 _ _)
   (tuple_addW2 t b vs.toArray ws.toArray n n2 dd dd2 sl sl2 (by simpa using hv) (by simpa using hw) (by rw[Jv,Jv];exact hsz)) ⟨ho,ho2, ?_⟩
  rw[e];exact h2 hw
end
end HT
namespace L2
open PySem PySem.Spec PyProof.Rows
structure U2(N P:ZG)(sc:Scope):Prop where
 kind:sc.kind=.function
 co:sc.isCoroutine=false
 gen:sc.isGenerator=false
 nd:N.Nodup
 pre:N.take P.length=P
 par:∀x∈P,sc.names.lookup x=some .local\/sc.names.lookup x=some .cell
 nofree:∀y∈sc.names,y.2≠.free
noncomputable def ug(n:Nat)(i:Int):ZL:=if 0<=i then (if i<n then some i.toNat else none) else if -(n:Int)<=i then some (i+n).toNat else none
noncomputable def R9{l:Type}(xs:List l)(i:Int):Option l:=(ug xs.length i).bind fun j=>xs[j]?
theorem Im{n:Nat}{i:Int}{j:Nat}(h:ug n i=some j):seqIndex? i n=some j/\j<n/\-(n:Int)<=i/\i<n:=by
 unfold ug at h;by_cases h0:0<=i
 .rw[if_pos h0]at h;by_cases h1:i<n
  .rw[if_pos h1]at h;have e:i.toNat=j:=Ms h;exact⟨by rw[seqIndex_of h0 h1,e],by omega,by omega,h1⟩
  .rw[if_neg h1]at h;cases h
 .rw[if_neg h0]at h;by_cases h1:-(n:Int)<=i
  .rw[if_pos h1]at h;have e:(i+n).toNat=j:=Ms h;exact⟨by rw[seqIndex_neg (by omega) h1,e],by omega,h1,by omega⟩
  .rw[if_neg h1]at h;cases h
theorem Qu{l:Type}{xs:List l}{i:Int}{v:l}(h:R9 xs i=some v):∃j,seqIndex? i xs.length=some j/\xs[j]?=some v/\j<xs.length/\-(xs.length:Int)<=i/\i<xs.length:=by
 unfold R9 at h;cases e:ug xs.length i with
 | none=>rw[e]at h;cases h
 | some j =>
  rw[e]at h;obtain⟨h1,h2,h3,h4⟩:=Im e;exact⟨j,h1,h,h2,h3,h4⟩
theorem C7(its:ZK)(n j:Nat)(u:Value):Obj.mapSeq (·.setIfInBounds j u) { cls:=.type "list",data:=.seq its.toArray n }={ cls:=.type "list",data:=.seq (its.set j u).toArray n }:=by
 simp[Obj.mapSeq]
theorem L5(lo hi:ZC)(n:Nat):(sliceBounds lo hi none n).1=((HT.Y7 n 0 lo:Nat):Int)/\(sliceBounds lo hi none n).2.1=((HT.Y7 n n hi:Nat):Int)/\(sliceBounds lo hi none n).2.2=1:=by
 refine⟨?_, ?_,rfl⟩
 .cases lo with
  | none=>simp[sliceBounds,HT.Y7]
  | some i =>
   simp only[sliceBounds,HT.Y7,Option.getD_none,show (1:Int)>0 by decide,if_true];by_cases h:i<0
   .simp only[h,if_true]<;>omega
   .simp only[h,if_false]<;>omega
 .cases hi with
  | none=>simp[sliceBounds,HT.Y7]
  | some i =>
   simp only[sliceBounds,HT.Y7,Option.getD_none,show (1:Int)>0 by decide,if_true];by_cases h:i<0
   .simp only[h,if_true]<;>omega
   .simp only[h,if_false]<;>omega
theorem Ww(its:ZK)(lo hi:ZC):slicePick its.toArray lo hi none=((its.drop (HT.Y7 its.length 0 lo)).take (HT.Y7 its.length its.length hi - HT.Y7 its.length 0 lo)).toArray:=by
 obtain⟨h1,h2,h3⟩:=L5 lo hi its.toArray.size;unfold slicePick;rw[h1,h2,h3];simp only[sliceRange_one,pick_run,Jv]<;>rfl
theorem Lf{kindOf:Str->Option NameKind}{x:Str}:∀{binds:List (Str×Value)} {m:ZJ},(∀v,(x,v) ∉ binds)->bindL kindOf binds m x=m x
 | [],_,_=>rfl
 | (n,v)::r,m,h=>by
  unfold bindL;rw[Lf fun w hw=>h w (Vk _ hw)]
  split
  .have:x≠n:=by rintro rfl;exact h v Yn
   simp[this]
  .rfl
theorem Lb{kindOf:Str->Option NameKind}{x:Str}:∀{binds:List (Str×Value)} {m:ZJ},(∀v,(x,v) ∉ binds)->bindC kindOf binds m x=m x
 | [],_,_=>rfl
 | (n,v)::r,m,h=>by
  unfold bindC;rw[Lb fun w hw=>h w (Vk _ hw)]
  split
  .rfl
  .have:x≠n:=by rintro rfl;exact h v Yn
   simp[this]
theorem Jj{kindOf:Str->Option NameKind}{x:Str}{v:Value}:∀{P:ZG} {vs:ZK} {i:Nat} {m:ZJ},P.Nodup->P[i]?=some x->vs[i]?=some v->kindOf x=some .local ->
  bindL kindOf (P.zip vs) m x=some v
 | [],_,_,_,_,h,_,_=>by simp at h
 | _::_,[],_,_,_,_,h,_=>by simp at h
 | p::P,w::vs,0,m,nd,h1,h2,hk=>by
  simp at h1 h2;subst h1;subst h2;show bindL kindOf ((p,w)::P.zip vs) m p=_;unfold bindL;rw[Lf fun v hv=>(List.nodup_cons.mp nd).1 (List.of_mem_zip hv).1,if_pos hk];simp
 | p::P,w::vs,i+1,m,nd,h1,h2,hk=>by
  show bindL kindOf ((p,w)::P.zip vs) m x=_;unfold bindL;exact Jj (i:=i) (List.nodup_cons.mp nd).2 (by simpa using h1) (by simpa using h2) hk
theorem Bp{kindOf:Str->Option NameKind}{x:Str}{v:Value}:∀{P:ZG} {vs:ZK} {i:Nat} {m:ZJ},P.Nodup->P[i]?=some x->vs[i]?=some v->kindOf x≠some .local ->
  bindC kindOf (P.zip vs) m x=some v
 | [],_,_,_,_,h,_,_=>by simp at h
 | _::_,[],_,_,_,_,h,_=>by simp at h
 | p::P,w::vs,0,m,nd,h1,h2,hk=>by
  simp at h1 h2;subst h1;subst h2;show bindC kindOf ((p,w)::P.zip vs) m p=_;unfold bindC;rw[Lb fun v hv=>(List.nodup_cons.mp nd).1 (List.of_mem_zip hv).1,if_neg hk];simp
 | p::P,w::vs,i+1,m,nd,h1,h2,hk=>by
  show bindC kindOf ((p,w)::P.zip vs) m x=_;unfold bindC;exact Bp (i:=i) (List.nodup_cons.mp nd).2 (by simpa using h1) (by simpa using h2) hk
theorem Nl{sc:Scope}{n:Nat}{x:Str}(h:sc.names.lookup x=some .cell):∃c,(cellsFrom n sc.names []).lookup x=some c:=by
 have q:=W.cellsFrom_some sc.names n [] (.inl h);exact Option.isSome_iff_exists.mp q
theorem Yr{j:Type}{t:Sem j}{Q Q':j->Shared->Prop}{M:Model}{A:Around}{E:ZQ}{s:Shared}(h:wpAny M A t Q E s)(hQ:∀a s,Q a s->Q' a s):wpAny M A t Q' E s:=wpAny_mono h hQ fun _ _ x=>x
theorem Kc:(sizeLine:Nat)<2 ^ 63:=by rw[sizeLine_eq];decide
theorem foldl_rep(its:ZK):∀(k:Nat) (acc:ZK),
  List.foldl (fun x1 x2=>x1++x2) acc.toArray (List.replicate k its.toArray)=(acc++(List.replicate k its).flatten).toArray
 | 0,acc=>by simp
 | k+1,acc=>by
  have e:acc.toArray++its.toArray=(acc++its).toArray:=by simp
  have e2:(acc++its)++(List.replicate k its).flatten=acc++(List.replicate (k+1) its).flatten:=by
   rw[List.replicate_succ,List.flatten_cons,ZI]
  rw[<-e2, <-foldl_rep its k (acc++its), <-e,List.replicate_succ,List.foldl_cons]
theorem yw{n:Nat}(h:n<=sizeLine):Builtin.List.listTooLong n=false:=by
 unfold Builtin.List.listTooLong;exact Cw (by omega)
theorem len_rep{j:Type}(xs:List j)(k:Nat):(List.replicate k xs).flatten.length=k * xs.length:=by
 induction k with
 | zero=>simp
 | succ k ih=>rw[List.replicate_succ,List.flatten_cons,Gn,ih,Nat.succ_mul,Nat.add_comm]
def Q4(K:W.Frag)(C:Addr)(f:Str):Prop:=W.findIn K (.ref C) f=some none
theorem a9{prog:Program}{w:World}{env:Env}{e:Expr}{f:Str}{pos:Pos}{s:Shared}{Q:ZQ}(hb:attributeBase e f env (eval e env)=eval e env)
  (h:wpAny (model prog w) A (eval e env) (fun o s₁=>wpAny (model prog w) A (getAttr o f true) Q E s₁) E s):wpAny (model prog w) A (eval (.Attribute e f pos) env) Q E s :=
 Attribute_any_ h (by rw[arm_eval_Attribute,hb])
def Binds(K:W.Frag)(fd:FuncData)(ps:ZG)(ds:ZK):Prop :=
 ∀(s:Shared) (us:ZK),K.In s.heap->(us++ds).length=ps.length->BindsTo s fd ⟨us,[]⟩ (ps.zip (us++ds))
theorem Binds.all{K:W.Frag}{fd:FuncData}{ps:ZG}(h:∀us:ZK,us.length=ps.length->bindArgs fd ⟨us,[]⟩=pure (ps.zip us)):Binds K fd ps []:=fun s us _ hl=>by
 rw[ZE]at hl ⊢;exact .of_eq (h us hl)
noncomputable def repS(i:Str)(n:Nat):Str:=⟨(List.replicate n i.cps).foldl (·++·) #[]⟩
theorem vy(a:ZN):∀(n:Nat) (acc:ZN),((List.replicate n a).foldl (·++·) acc).toList=acc.toList++(List.replicate n a.toList).flatten
 | 0,acc=>by simp
 | n+1,acc=>by
  rw[List.replicate_succ,List.foldl_cons,vy a n (acc++a),List.replicate_succ,List.flatten_cons,Array.toList_append,ZI]
theorem Ce(i:Str)(n:Nat):(repS i n).cps.toList=(List.replicate n i.cps.toList).flatten:=by
 show ((List.replicate n i.cps).foldl (·++·) #[]).toList=_;rw[vy]
 rfl
theorem vg(i:Str)(n:Nat):(repS i n).length=n * i.length:=by
 show (repS i n).cps.size=n * i.cps.size;rw[<-Ln,Ce,len_rep,Ln]
end L2
namespace SRT
open PySem PySem.Spec PyProof.Rows L2
noncomputable def insI(x:Int):ZT->ZT
 | []=>[x]
 | y::r=>if x<=y then x::y::r else y::insI x r
def Mw:ZT->ZT
 | []=>[]
 | x::r=>insI x (Mw r)
theorem insI_perm(x:Int):∀r:ZT,(insI x r).Perm (x::r)
 | []=>.refl _
 | y::r=>by
  unfold insI
  split
  .exact .refl _
  .exact((insI_perm x r).cons y).trans (.swap x y r)
theorem Yf:∀r:ZT,(Mw r).Perm r
 | []=>.refl _
 | x::r=>(insI_perm x _).trans ((Yf r).cons x)
theorem Oc(x:Int):∀r:ZT,r.Pairwise (·<=·)->(insI x r).Pairwise (·<=·)
 | [],_=>List.pairwise_singleton _ _
 | y::r,h=>by
  rw[ZA]at h;unfold insI
  split
  .rename_i hx
   rw[ZA,ZA];exact⟨fun z m=>by rcases Vv.mp m with rfl | m;exact hx;exact Int.le_trans hx (h.1 z m),h.1,h.2⟩
  .rename_i hx
   rw[ZA];refine⟨fun z m=>?_,Oc x r h.2⟩;rcases Vv.mp ((insI_perm x r).mem_iff.mp m) with rfl | m
   .omega
   .exact h.1 z m
theorem Pp:∀r:ZT,(Mw r).Pairwise (·<=·)
 | []=>List.Pairwise.nil
 | x::r=>Oc x _ (Pp r)
theorem cb{a b:ZT}(h:a.Perm b)(s:a.Pairwise (·<=·)):a=Mw b :=
 List.Perm.eq_of_pairwise (fun _ _ _ _ h1 h2=>Int.le_antisymm h1 h2) s (Pp b) (h.trans (Yf b).symm)
noncomputable def Ej(a b:Str):Bool:=!decide (b.cps.toList<a.cps.toList)
noncomputable def ze(x:Str):ZG->ZG
 | []=>[x]
 | y::r=>if Ej x y=true then x::y::r else y::ze x r
def Z7:ZG->ZG
 | []=>[]
 | x::r=>ze x (Z7 r)
theorem Bf(x:Str):∀r:ZG,(ze x r).Perm (x::r)
 | []=>.refl _
 | y::r=>by
  unfold ze
  split
  .exact .refl _
  .exact((Bf x r).cons y).trans (.swap x y r)
theorem Z4:∀r:ZG,(Z7 r).Perm r
 | []=>.refl _
 | x::r=>(Bf x _).trans ((Z4 r).cons x)
theorem Fm{a b:Str}:Ej a b=true↔¬ b.cps.toList<a.cps.toList:=by unfold Ej;simp
theorem W9{a b c:Str}(h1:Ej a b=true)(h2:Ej b c=true):Ej a c=true:=by
 rw[Fm]at *;exact List.not_lt.mpr (List.le_trans (List.not_lt.mp h1) (List.not_lt.mp h2))
theorem zb{a b:Str}(h:¬ Ej a b=true):Ej b a=true:=by
 rw[Fm]at *;exact fun z=>List.lt_asymm (Decidable.not_not.mp h) z
theorem yo{a b:Str}(h1:Ej a b=true)(h2:Ej b a=true):a=b:=by
 rw[Fm]at *;have e:a.cps.toList=b.cps.toList:=List.le_antisymm (List.not_lt.mp h1) (List.not_lt.mp h2);cases a;cases b
 congr
 exact Array.toList_inj.mp e
theorem Ot(x:Str):∀r:ZG,r.Pairwise (fun a b=>Ej a b=true)->(ze x r).Pairwise (fun a b=>Ej a b=true)
 | [],_=>List.pairwise_singleton _ _
 | y::r,h=>by
  rw[ZA]at h;unfold ze
  split
  .rename_i hx
   rw[ZA,ZA];exact⟨fun z m=>by rcases Vv.mp m with rfl | m;exact hx;exact W9 hx (h.1 z m),h.1,h.2⟩
  .rename_i hx
   rw[ZA];refine⟨fun z m=>?_,Ot x r h.2⟩;rcases Vv.mp ((Bf x r).mem_iff.mp m) with rfl | m
   .exact zb hx
   .exact h.1 z m
theorem Ph:∀r:ZG,(Z7 r).Pairwise (fun a b=>Ej a b=true)
 | []=>List.Pairwise.nil
 | x::r=>Ot x _ (Ph r)
theorem M0:∀(l:ZG) (p:Str),risingS p l=true->(p::l).Pairwise (fun a b=>Ej a b=true)
 | [],p,_=>List.pairwise_singleton _ _
 | q::l,p,h=>by
  unfold risingS at h;rw[Vp]at h;have r:=M0 l q h.2
  have h1:Ej p q=true:=by
   have:=h.1;rw[ltCps_eq]at this;exact this
  rw[ZA];refine⟨fun z m=>?_,r⟩;rcases Vv.mp m with rfl | m
  .exact h1
  .exact W9 h1 ((ZA.mp r).1 z m)
theorem L4:∀l:ZG,sortedS l=true->l.Pairwise (fun a b=>Ej a b=true)
 | [],_=>List.Pairwise.nil
 | p::l,h=>M0 l p h
theorem cf{a b:ZG}(h:a.Perm b)(s:sortedS a=true):a=Z7 b :=
 List.Perm.eq_of_pairwise (fun _ _ _ _ h1 h2=>yo h1 h2) (L4 a s) (Ph b) (h.trans (Z4 b).symm)
noncomputable def qb{j:Type}[DecidableEq j]:List j->List j
 | []=>[]
 | x::r=>if x∈r then qb r else x::qb r
theorem T3{j:Type}[DecidableEq j]{x:j}:∀{l:List j},x∈qb l↔x∈l
 | []=>Iff.rfl
 | y::r=>by
  unfold qb
  split
  .rename_i hy
   rw[T3,Vv];exact⟨.inr,fun h=>h.elim (fun e=>e ▸ hy) id⟩
  .rw[Vv,Vv,T3]
theorem Kz{j:Type}[DecidableEq j]:∀{l:List j},(qb l).Nodup
 | []=>List.Pairwise.nil
 | y::r=>by
  unfold qb
  split
  .exact Kz
  .rename_i hy
   exact List.nodup_cons.mpr ⟨fun m=>hy (T3.mp m),Kz⟩
theorem v9{j:Type}[DecidableEq j]{us l:List j}(nd:us.Nodup)(h:∀x,x∈us↔x∈l):us.Perm (qb l) :=
 (List.perm_ext_iff_of_nodup nd Kz).mpr fun x=>(h x).trans T3.symm
section
variable{j:Type}
noncomputable def z0(x:Int×j):List (Int×j)->List (Int×j)
 | []=>[x]
 | y::r=>if x.1<=y.1 then x::y::r else y::z0 x r
def Eu:List (Int×j)->List (Int×j)
 | []=>[]
 | x::r=>z0 x (Eu r)
theorem Bb(x:Int×j):∀r:List (Int×j),(z0 x r).Perm (x::r)
 | []=>.refl _
 | y::r=>by
  unfold z0
  split
  .exact .refl _
  .exact((Bb x r).cons y).trans (.swap x y r)
theorem Dk:∀r:List (Int×j),(Eu r).Perm r
 | []=>.refl _
 | x::r=>(Bb x _).trans ((Dk r).cons x)
theorem Ol(x:Int×j):∀r:List (Int×j),r.Pairwise (fun a b=>a.1<=b.1)->(z0 x r).Pairwise (fun a b=>a.1<=b.1)
 | [],_=>List.pairwise_singleton _ _
 | y::r,h=>by
  rw[ZA]at h;unfold z0
  split
  .rename_i hx
   rw[ZA,ZA];exact⟨fun z m=>by rcases Vv.mp m with rfl | m;exact hx;exact Int.le_trans hx (h.1 z m),h.1,h.2⟩
  .rename_i hx
   rw[ZA];refine⟨fun z m=>?_,Ol x r h.2⟩;rcases Vv.mp ((Bb x r).mem_iff.mp m) with rfl | m
   .omega
   .exact h.1 z m
theorem Pu:∀r:List (Int×j),(Eu r).Pairwise (fun a b=>a.1<=b.1)
 | []=>List.Pairwise.nil
 | x::r=>Ol x _ (Pu r)
theorem Cf{a b:Int×j}:∀{l:List (Int×j)},l.Pairwise (fun a b=>a.1<b.1)->a∈l->b∈l->a.1=b.1->a=b
 | [],_,h,_,_=>absurd h Tz
 | x::l,p,h,h',e=>by
  rw[ZA]at p;rcases Vv.mp h with e1 | m1
  .rcases Vv.mp h' with e2 | m2
   .rw[e1,e2]
   .have:=p.1 b m2;rw[<-e1]at this;omega
  .rcases Vv.mp h' with e2 | m2
   .have:=p.1 a m1;rw[<-e2]at this;omega
   .exact Cf p.2 m1 m2 e
theorem cn{a b:List (Int×j)}(h:a.Perm b)(s:a.Pairwise (fun a b=>a.1<b.1)):a=Eu b :=
 List.Perm.eq_of_pairwise (fun x y mx my h1 h2=>Cf s mx (h.symm.mem_iff.mp ((Dk b).mem_iff.mp my)) (Int.le_antisymm h1 h2)) (s.imp fun h=>Int.le_of_lt h) (Pu b) (h.trans (Dk b).symm)
end
end SRT
namespace SRT
open PySem PySem.Spec PyProof.Rows PySem.W
noncomputable def runK{l:Type}(b:Nat->Nat->Bool):KasT l->l
 | .ret a=>a
 | .ask i j k=>runK b (k (b i j))
def AllK{l:Type}(n:Nat)(P:l->Prop):KasT l->Prop
 | .ret a=>P a
 | .ask i j k=>i<n/\j<n/\∀c,AllK n P (k c)
theorem AllK.bind{j l:Type}{n:Nat}{P:j->Prop}{R:l->Prop}{f:j->KasT l}:∀{t:KasT j},AllK n P t->(∀a,P a->AllK n R (f a))->AllK n R (t.bind f)
 | .ret a,h,g=>g a h
 | .ask _ _ k,h,g=>⟨h.1,h.2.1,fun c=>AllK.bind (h.2.2 c) g⟩
theorem A3{l:Type}{n:Nat}{P:l->Prop}{b:Nat->Nat->Bool}{s:Shared}{cmp:Nat->Nat->(Bool->Shared->Prop)->Shared->Prop}(hc:∀i j,i<n->j<n->∀C:Bool->Shared->Prop,C (b i j) s->cmp i j C s){Q:l->Shared->Prop} :
  ∀{t:KasT l},AllK n P t->(P (runK b t)->Q (runK b t) s)->t.kasWp cmp Q s
 | .ret _,h,q=>q h
 | .ask i j _,h,q=>hc i j h.1 h.2.1 _ (A3 hc (h.2.2 (b i j)) q)
theorem Po{l:Type}{n:Nat}{P:l->Prop}{b:Nat->Nat->Bool}:∀{t:KasT l},AllK n P t->P (runK b t)
 | .ret _,h=>h
 | .ask i j k,h=>Po (t:=k (b i j)) (h.2.2 (b i j))
def Pm(n:Nat)(p:ZN):Prop:=p.toList.Perm (List.range n)
theorem Pm.perm{n:Nat}{p q:ZN}(h:Pm n p)(e:q.Perm p):Pm n q:=(Array.perm_iff_toList_perm.mp e).trans h
theorem Pm.at{n:Nat}(n0:0<n){p:ZN}(h:Pm n p)(k:Nat):p.getD k 0<n:=by
 unfold Array.getD
 split
 .rename_i hk
  exact List.mem_range.mp (h.mem_iff.mp (Array.mem_def.mp (Array.getElem_mem hk)))
 .exact n0
section
variable{n:Nat}(n0:0<n)
include n0
theorem Qa{p:ZN}(h:Pm n p):∀f m,AllK n (fun _=>True) (kas_asc p f m)
 | 0,_=>trivial
 | f+1,m=>⟨h.at n0 _,h.at n0 _,fun c=>by cases c;exact Qa h f _;exact trivial⟩
theorem Ng:∀f (p:ZN) m q,Pm n p->AllK n (fun r=>Pm n r.1) (kas_desc f p m q)
 | 0,_,_,_,h=>h
 | f+1,p,m,q,h=>⟨h.at n0 _,h.at n0 _,fun c=>by
  cases c with
  | true =>
   show AllK n _ (if q>0 then _ else _)
   split
   .exact Ng f _ _ _ (h.perm (mirror_perm _ _ _ _))
   .exact Ng f _ _ _ h
  | false=>exact⟨h.at n0 _,h.at n0 _,fun c=>by cases c;exact Ng f _ _ _ h;exact h⟩⟩
theorem W0{p:ZN}(h:Pm n p)(m:Nat):AllK n (fun r=>Pm n r.2) (kas_tail3 m n p) :=
 (Qa n0 (h.perm (mirror_perm _ _ _ _)) _ _).bind fun _ _=>h.perm (mirror_perm _ _ _ _)
theorem Nf{p:ZN}(h:Pm n p)(m:Nat):AllK n (fun r=>Pm n r.2) (kas_descPart m n p) :=
 (Ng n0 _ p _ _ h).bind fun r hr=>by
  show AllK n _ (if r.2.2>0 then _ else _)
  split
  .exact W0 n0 (hr.perm (mirror_perm _ _ _ _)) _
  .exact W0 n0 hr _
theorem xn{p:ZN}(h:Pm n p):AllK n (fun r=>Pm n r.2) (kas_count n p) :=
 (Qa n0 h _ _).bind fun m _=>by
  show AllK n _ (if (m == n)=true then _ else _)
  split
  .exact h
  .split
   .exact⟨h.at n0 _,h.at n0 _,fun c=>by cases c;exact Nf n0 (h.perm (mirror_perm _ _ _ _)) _;exact h⟩
   .exact Nf n0 h _
theorem W6{p:ZN}(h:Pm n p)(k:Nat):∀f l r,AllK n (fun _=>True) (kas_place p k f l r)
 | 0,_,_=>trivial
 | f+1,l,r=>by
  unfold kas_place
  split
  .exact trivial
  .exact⟨h.at n0 _,h.at n0 _,fun c=>by cases c<;>exact W6 h k f _ _⟩
theorem Xy:∀f (p:ZN) k,Pm n p->AllK n (Pm n) (kas_bin f p k)
 | 0,_,_,h=>h
 | f+1,p,k,h=>(W6 n0 h _ _ _ _).bind fun l _=>Xy f _ _ (h.perm (bubble_perm _ _ _))
theorem Pa:AllK n (Pm n) (kas_sort n) :=
 (xn n0 (show Pm n (List.toArray (List.range n)) by unfold Pm;rw[List.toList_toArray])).bind fun r hr=>by
  show AllK n _ (if r.1<n then _ else _)
  split
  .exact Xy n0 _ _ _ hr
  .exact hr
end
end SRT
namespace SRT
open PySem PySem.Spec PyProof.Rows L2 PySem.W
def srtN(n:Nat)(b:Nat->Nat->Bool):List Nat:=(runK b (kas_sort n)).toList
theorem X2{n:Nat}(n0:0<n)(b:Nat->Nat->Bool):(srtN n b).Perm (List.range n):=Po (Pa n0)
end SRT
namespace L2
open PySem PySem.Spec PyProof.Rows
abbrev sv:ZQ:=fun _ _=>False
def Ah(ifs:ZM)(env:Env):Sem Bool :=
 forIn ifs true fun c r=>if r=true then (isTrue c env (eval c env) >>= fun b=>pure (ForInStep.yield b)) else pure (ForInStep.yield r)
section
variable(prog:Program)(w:World)(A:Around)(tg elt:Expr)(ifs:ZM)(env:Env)(it acc:Value)
def TurnEnd(nxt:Shared->Prop)(ok:Bool)(s:Shared):Prop :=
 if ok=true then wpAny (model prog w) A (eval elt env) (fun y s1=>wpAny (model prog w) A (call (.builtin "list.append") [acc,y]) (fun _ s2=>nxt s2) sv s1) sv s else nxt s
def H8(nxt:Shared->Prop)(v:Value)(s:Shared):Prop :=
 wpAny (model prog w) A (letOwnedTupleGo tg it v) (fun _ s1=>wpAny (model prog w) A (assign tg env v) (fun _ s2=>wpAny (model prog w) A (Ah ifs env) (TurnEnd prog w A elt env acc nxt) sv s2) sv s1) sv s
end
theorem Qt{prog:Program}{w:World}{A:Around}{R:Result->Shared->Prop}{s:Shared}{elt tg iter:Expr}{ifs:ZM}{scope:Scope}{pos:Pos}{it acc:Value}{env:Env}(W:Nat->Shared->Prop)
  (turn:∀m s1,W m s1->wpAny (model prog w) A (pyNext it) (fun r s2=>r.elim (R (.ok .next) s2) fun v=>H8 prog w A tg elt ifs env it acc (fun s3=>∃m',m'<m/\W m' s3) v s2) sv s1)
  (m:Nat) (start:W m s):codeAny (model prog w) A (.compLoop (.ListComp elt [⟨tg,iter,ifs,0⟩] scope pos) 0 it acc env) R s:=by
 refine codeAny_loop rfl W (fun k s1 hw=>?_) m start;refine wpAny_noted (env:=env) (m:=compTurn (.ListComp elt [⟨tg,iter,ifs,0⟩] scope pos) 0 it acc env) ?_;rw[compTurn_list];refine Zq (wpAny_standAt (Zq (wpAny_mono (turn k s1 hw) (fun r s2 q=>?_) fun _ _ z=>z.elim)));cases r with
 | none=>exact Zt q
 | some v =>
  have q:H8 prog w A tg elt ifs env it acc (fun s3=>∃m',m'<k/\W m' s3) v s2:=q;refine Zq (wpAny_mono q (fun _ s3 q3=>Zq (wpAny_mono q3 (fun _ s4 q4=>Zq (wpAny_mono q4 (fun ok s5 q5=>?_) fun _ _ z=>z.elim)) fun _ _ z=>z.elim)) fun _ _ z=>z.elim);cases ok with
  | false=>exact Zt ⟨rfl,q5⟩
  | true=>exact Zq (Zq (wpAny_mono q5 (fun y s6 q6=>Zq (wpAny_mono q6 (fun _ s7 q7=>Zt (Zt ⟨rfl,q7⟩)) fun _ _ z=>z.elim)) fun _ _ z=>z.elim))
noncomputable def Yx(env:Env):ZW->List (Str×Addr)->List (Str×Addr)
 | [],cs=>cs
 | (n,k)::r,cs=>Yx env r (if k == .free then (n,(env.cells.lookup n).getD 0)::cs else cs)
theorem B5{scope:Scope}{env:Env}{x:Str}{k:NameKind}(h:(relabel scope env).names.lookup x=some k):∃k0,(x,k0)∈scope.names/\(k=k0\/(k0=.free/\k=.cell)):=by
 have hm:=PySem.mem_of_lookup h;obtain⟨⟨n,k0⟩,h1,h2⟩:=Gf.mp (show (x,k)∈scope.names.map _ from hm);dsimp only at h2
 split at h2
 .rename_i hc
  cases h2;simp only[Vp,beq_iff_eq]at hc;exact⟨k0,h1,.inr ⟨hc.1.1,rfl⟩⟩
 .cases h2;exact⟨k,h1,.inl rfl⟩
noncomputable def Wv(outer scope:Scope):Bool :=
 decide (scope.kind=.function) && scope.names.all fun y=>decide (y.2≠.cell) && (decide (y.2≠.local) || decide (scope.names.lookup y.1=some .local)) &&
  (decide (y.2≠.free) || decide (outer.names.lookup y.1=some .cell) || decide (outer.names.lookup y.1=some .free))
noncomputable def Js(NX:ZG)(names:ZW):ZG->ZV->Bool
 | [],[]=>true
 | _::N,none::fr=>Js NX names N fr
 | x::N,some j::fr=>decide (NX[j]?=some x) && decide (names.lookup x=some .free) && Js NX names N fr
 | _,_=>false
theorem Rw{NX:ZG}{names:ZW}:∀{N:ZG} {fr:ZV},Js NX names N fr=true->fr.length=N.length
 | [],[],_=>rfl
 | [],_::_,h=>by simp[Js]at h
 | _::_,[],h=>by simp[Js]at h
 | x::N,none::fr,h=>by
  simp only[Js]at h;simp only[Jk,Rw h]
 | x::N,some j::fr,h=>by
  simp only[Js,Vp]at h;simp only[Jk,Rw h.2]
theorem Rv{NX:ZG}{names:ZW}:∀{N:ZG} {fr:ZV} {i j:Nat},Js NX names N fr=true->fr[i]?=some (some j)->∃x,N[i]?=some x/\NX[j]?=some x/\names.lookup x=some .free
 | [],[],_,_,_,e=>by simp at e
 | [],_::_,_,_,h,_=>by simp[Js]at h
 | _::_,[],_,_,h,_=>by simp[Js]at h
 | x::N,none::fr,0,_,_,e=>by simp at e
 | x::N,none::fr,i+1,j,h,e=>by
  simp only[Js]at h;obtain⟨y,h1,h2⟩:=Rv (i:=i) h (by simpa using e);exact⟨y,by simpa using h1,h2⟩
 | x::N,some k::fr,0,j,h,e=>by
  simp only[Js,Vp,decide_eq_true_eq]at h;simp at e;subst e;exact⟨x,rfl,h.1.1,h.1.2⟩
 | x::N,some k::fr,i+1,j,h,e=>by
  simp only[Js,Vp]at h;obtain⟨y,h1,h2⟩:=Rv (i:=i) h.2 (by simpa using e);exact⟨y,by simpa using h1,h2⟩
theorem Ve{f:Str->NameKind->NameKind}(x:Str):∀names:ZW,(names.map fun p=>(p.1,f p.1 p.2)).lookup x=(names.lookup x).map (f x)
 | []=>rfl
 | (n,k)::r=>by
  have ih:=Ve (f:=f) x r;cases e:x == n with
  | false =>
   simp only[S9,List.lookup_cons,e];exact ih
  | true =>
   have e':x=n:=by simpa using e
   simp only[S9,List.lookup_cons,e,Option.map_some];rw[e']
theorem D6(scope:Scope)(env:Env):(relabel scope env).names=scope.names.map fun p=>(p.1,if (p.2 == NameKind.free && env.scope.kind == .function && env.kindOf p.1 == some .cell)=true then NameKind.cell else p.2):=by
 show scope.names.map _=_;refine List.map_congr_left fun p _=>?_;obtain⟨n,k⟩:=p;dsimp only
 split<;>rfl
theorem D1{scope:Scope}{env:Env}{x:Str}(h:scope.names.lookup x=some .free):(relabel scope env).names.lookup x=some .cell\/(relabel scope env).names.lookup x=some .free:=by
 rw[D6,Ve (f:=fun n k=>if (k == NameKind.free && env.scope.kind == .function && env.kindOf n == some .cell)=true then NameKind.cell else k),h];dsimp only[Option.map_some]
 split
 .exact .inl rfl
 .exact .inr rfl
theorem Rc{env:Env}:∀{names:ZW} {cs:List (Str×Addr)},(∀y∈names,y.2=.free->∃c,env.cells.lookup y.1=some c)->(∀p∈cs,env.cells.lookup p.1=some p.2)->∀p∈Yx env names cs,env.cells.lookup p.1=some p.2
 | [],cs,_,hc,p,hp=>hc p hp
 | (n,k)::r,cs,hn,hc,p,hp=>by
  simp only[Yx]at hp;refine Rc (fun y hy=>hn y (Vk _ hy)) (fun q hq=>?_) p hp
  split at hq
  .rename_i hk
   rcases Vv.mp hq with e | hq
   .obtain⟨c,Fh⟩:=hn (n,k) Yn (by simpa using hk);subst e;dsimp only at Fh ⊢;rw[Fh]
    rfl
   .exact hc q hq
  .exact hc q hq
theorem Rt{env:Env}:∀{names:ZW} {cs:List (Str×Addr)} {p:Str×Addr},p∈cs->p∈Yx env names cs
 | [],_,_,h=>h
 | (n,k)::r,cs,p,h=>by
  simp only[Yx];refine Rt ?_
  split
  .exact Vk _ h
  .exact h
theorem Rr{env:Env}:∀{names:ZW} {cs:List (Str×Addr)} {x:Str},(x,NameKind.free)∈names->∃c,(x,c)∈Yx env names cs
 | (n,k)::r,cs,x,h=>by
  rcases Vv.mp h with e | h
  .cases e;exact⟨_,by simp only[Yx,B0s,if_true];exact Rt Yn⟩
  .simp only[Yx];exact Rr h
theorem D8{j:Type}:∀{l:List (Str×j)} {x:Str} {b:j},(x,b)∈l->∃c,l.lookup x=some c
 | (n,c)::r,x,b,h=>by
  cases hx:x == n with
  | true=>exact⟨c,by simp only[List.lookup_cons,hx]⟩
  | false =>
   rcases Vv.mp h with e | h
   .cases e;simp at hx
   .obtain⟨d,hd⟩:=D8 h;exact⟨d,by simp only[List.lookup_cons,hx];exact hd⟩
theorem Wr{scope:Scope}{env:Env}(h:∀y∈scope.names,y.2=.free->∃c,env.cells.lookup y.1=some c):closureFor scope env=pure (Yx env scope.names []):=by
 have go:∀(names:ZW) (cs:List (Str×Addr)),(∀y∈names,y.2=.free->∃c,env.cells.lookup y.1=some c) ->
   (forIn names cs fun x cs=>(do
    if x.2 == NameKind.free then pure (ForInStep.yield ((x.1, <-cellOf env x.1)::cs)) else pure (ForInStep.yield cs):Sem (ForInStep (List (Str×Addr)))))=pure (Yx env names cs):=by
  intro names
  induction names with
  | nil=>intro cs _;rfl
  | cons y r ih =>
   intro cs hn;obtain⟨n,k⟩:=y;have hr:∀y∈r,y.2=.free->∃c,env.cells.lookup y.1=some c:=fun y hy=>hn y (Vk _ hy);rw[List.forIn_cons];by_cases hk:k=.free
   .subst hk;obtain⟨c,hc⟩:=hn (n,.free) Yn rfl
    have ec:cellOf env n=pure c:=by
     unfold cellOf;dsimp only at hc;rw[hc]
    simp only[B0s,if_true,ec,pure_bind,Yx];rw[ih _ hr];dsimp only at hc;rw[hc]
    rfl
   .have hb:(k == NameKind.free)=false:=by simpa using hk
    simp only[hb,B0f,if_false,pure_bind,Yx];exact ih _ hr
 have:=go scope.names [] h;unfold closureFor;simp only[bind_pure_comp]at this ⊢
 first
  | exact this
  | (simpa using this)
noncomputable def frees(fr:ZV)(j:List (ZF)):List (ZF):=fr.map fun o=>o.bind fun i=>(j[i]?).bind id
noncomputable def Bk(h:Heap)(L:Addr):Heap:={ h with objs:=h.objs.extract 0 L }
theorem Ig{h:Heap}{L b:Nat}:(Bk h L).objs[b]?=if b<L then h.objs[b]? else none:=by
 show (h.objs.extract 0 L)[b]?=_;rw[Array.getElem?_extract];simp only[Nat.zero_add,Nat.sub_zero];by_cases hb:b<L
 .rw[if_pos hb];by_cases hc:b<h.objs.size
  .rw[if_pos (by omega)]
  .rw[if_neg (by omega),Array.getElem?_eq_none (by omega)]
 .rw[if_neg hb,if_neg (by omega)]
theorem Ov{h:Heap}{L b:Addr}{o:Obj}(e:h.get? b=some o)(hb:b<L):(Bk h L).get? b=some o:=by
 unfold Heap.get? at e ⊢;rw[Ig,if_pos hb];exact e
theorem Ff{h:Heap}{L b:Addr}{o:Obj}(e:(Bk h L).get? b=some o):h.get? b=some o/\b<L:=by
 unfold Heap.get? at e;rw[Ig]at e;by_cases hb:b<L
 .rw[if_pos hb]at e;exact⟨e,hb⟩
 .rw[if_neg hb]at e;cases e
noncomputable def D7(h:Heap)(L:Addr):List (Addr×Obj):=(List.range h.objs.size).filterMap fun b=>if b<=L then none else (h.get? b).map fun o=>(b,o)
theorem By{h:Heap}{L b:Addr}{o:Obj}:(b,o)∈D7 h L↔L<b/\h.get? b=some o:=by
 unfold D7;rw[List.mem_filterMap];constructor
 .rintro⟨x,hx,e⟩;by_cases z:x<=L
  .rw[if_pos z]at e;cases e
  .rw[if_neg z]at e;obtain⟨o',e1,e2⟩:=Y3.mp e;cases e2;exact⟨Nat.lt_of_not_le z,e1⟩
 .rintro⟨hb,e⟩;refine⟨b,List.mem_range.mpr (Jw e), ?_⟩;rw[if_neg (Nat.not_le.mpr hb),e];rfl
theorem M6{h h':Heap}{L:Addr}{m:ZJ}{own:List (Addr×Obj)}(f:Fr (Bk h L) L h' m)(n:News (Bk h L) L h' own)(hs:∀p∈D7 h L,p∈own):∀b o,b≠L->h.get? b=some o->h'.get? b=some o:=fun b o nb e=>by
 rcases Nat.lt_trichotomy b L with z | z | z
 .exact f.keep b o (Ov e z)
 .exact absurd z nb
 .exact(n (b,o) (hs _ (By.mpr ⟨z,e⟩))).1
theorem Rj{h:Heap}{L:Addr}{m:ZJ}(hn:h.Ns L m):Fr (Bk h L) L h m/\News (Bk h L) L h (D7 h L):=by
 have lsz:(Bk h L).objs.size<=L:=by
  show (h.objs.extract 0 L).size<=_;rw[Array.size_extract];omega
 refine⟨⟨hn,fun b o e=>(Ff e).1,lsz⟩,fun⟨b,o⟩ hp=>?_⟩;obtain⟨h1,h2⟩:=By.mp hp;refine⟨h2,Nat.ne_of_gt h1, ?_⟩;cases z:(Bk h L).get? b with
 | none=>rfl
 | some o'=>exact absurd (Ff z).2 (Nat.lt_asymm h1)
theorem i7{h h':Heap}{L D:Addr}{o:Obj}(n':News (Bk h L) L h' ((D,o)::D7 h L))(hD:∀q∈D7 h L,q.1<D):h.get? D=none:=by
 obtain⟨_,nDL,lD⟩:=n' (D,o) Yn;cases eo:h.get? D with
 | none=>rfl
 | some o =>
  exfalso
  rcases Nat.lt_trichotomy D L with y | y | y
  .rw[Ov eo y]at lD;cases lD
  .exact nDL y
  .exact absurd (hD (D,o) (By.mpr ⟨y,eo⟩)) (Nat.lt_irrefl _)
theorem all_range(bs:List Bool):((List.range bs.length).all fun i=>(bs[i]?).getD true)=bs.all id:=by
 rw[Bool.eq_iff_iff,tj,tj];constructor
 .intro h b hb;obtain⟨i,hi⟩:=List.mem_iff_getElem?.mp hb;have:=h i (List.mem_range.mpr (dw.mp hi).1);rw[hi]at this;simpa using this
 .intro h i hi;have K6:=List.mem_range.mp hi;rw[Wi K6];simpa using h _ (G0e K6)
theorem any_range(bs:List Bool):((List.range bs.length).any fun i=>(bs[i]?).getD true)=bs.any id:=by
 rw[Bool.eq_iff_iff,ZO,ZO];constructor
 .rintro⟨i,hi,h⟩;have K6:=List.mem_range.mp hi;rw[Wi K6]at h;exact⟨bs[i],G0e K6,by simpa using h⟩
 .rintro⟨b,hb,h⟩;obtain⟨i,hi⟩:=List.mem_iff_getElem?.mp hb;exact⟨i,List.mem_range.mpr (dw.mp hi).1,by rw[hi];simpa using h⟩
end L2
namespace SRT
open PySem PySem.Spec PyProof.Rows L2 PySem.W
section
variable{prog:Program}{w:World}{A:Around}{E:ZQ}{s:Shared}
theorem Sb{l:Addr}{o:Obj}{vs:ZK}{n:Nat}{T:String}{Q:ZK->Shared->Prop}(ho:s.heap.get? l=some o)(hc:o.cls=.type T)(hT:T = "list" \/ T = "tuple")(hd:o.data=.seq vs.toArray n)
  (h:Q vs { s with heap:=(s.heap.push (seqObj "list" #[] 0)).update s.heap.objs.size (Obj.mapSeq (·++vs.toArray)) }) (hsz:vs.length<=sizeLine) :
  wpAny (model prog w) A (collect (.ref l)) Q E s:=by
 unfold collect;refine Zq (wpAny_runValue (codeAny_builtin entry_proto_collect' ?_));show wpAny _ _ (do again (.builtin "list.__iadd__" ⟨[<-newList [],.ref l],[]⟩)) _ _ s;refine Zq (wpAny_newList (Zt ⟨Code.quiet_builtin _ (by decide +kernel),codeAny_builtin entry_list_iadd' ?_⟩));show wpAny _ _ (Builtin.List.listExtendWith (.ref s.heap.objs.size) (.ref l) (.ref s.heap.objs.size)) _ _ { s with heap:=s.heap.push (seqObj "list" #[] 0) };unfold Builtin.List.listExtendWith;have ho':(s.heap.push (seqObj "list" #[] 0)).get? l=some o:=Y4 _ ho;refine Zq (wpAny_typeOf (T:=T) ⟨o,ho',hc⟩ ?_)
 have ht:(Value.type T == Value.type "list" || Value.type T == Value.type "tuple")=true:=by
  rcases hT with rfl | rfl<;>rfl
 rw[if_pos (by rw[Bool.or_assoc,ht];simp)];refine Zq (listItems_at ho' hd ?_);refine Zq (listItems_at (xs:=#[]) (n:=0) (Gb _ rfl) rfl ?_);rw[if_neg (by simp)];refine Zq (listUpdate_at (xs:=#[]) (n:=0) (Gb _ rfl) rfl ?_ (Wz _) (by show (#[]++vs.toArray).size<=sizeLine+1;simp only[Array.size_append,Jv,List.length_nil];omega));refine Zt ?_
 show wpAny (model prog w) A (do
   let o <-load s.heap.objs.size
   match o.data with
   | .seq xs _=>pure xs.toList
   | _=>unsupported "internal:collect") Q E { s with heap:=(s.heap.push (seqObj "list" #[] 0)).update s.heap.objs.size (Obj.mapSeq (·++vs.toArray)) }
 refine Zq (wpAny_load (get?_update_seq (Gb _ rfl) _) ?_);show wpAny _ _ (pure ((#[]:ZD)++vs.toArray).toList) Q E _;rw[show ((#[]:ZD)++vs.toArray).toList=vs by simp];exact Zt h
theorem B1{l:Addr}{o:Obj}{vs:ZK}{n:Nat}{T:String}{Q:ZQ}(ho:s.heap.get? l=some o)(hc:o.cls=.type T)(hT:T = "list" \/ T = "tuple")(hd:o.data=.seq vs.toArray n)(hsz:vs.length<=sizeLine)
  (h:∀(h1:Heap) (D:Addr),(∀b ob,s.heap.get? b=some ob->h1.get? b=some ob)->s.heap.objs.size<=D->h1.get? D=some (seqObj "list" vs.toArray 0) ->
   wpAny (model prog w) A.in1 (call (.builtin "list.sort") [.ref D]) (fun _ s'=>Q (.ref D) s') E { s with heap:=h1 }) :
  wpAny (model prog w) A (call (.builtin "sorted") [.ref l]) Q E s:=by
 refine Calls.call_function_entry kind_sorted plain_sorted entry_sorted (args_sorted1 _) ?_;unfold Builtin.«sorted»;refine Zq (m:=checkCount "sorted" 1 1 _) (Zt ?_);refine Zq (Sb ho hc hT hd ?_ hsz);refine Zq (wpAny_newList ?_ hsz)
 have du:((s.heap.push (seqObj "list" #[] 0)).update s.heap.objs.size (Obj.mapSeq (·++vs.toArray))).objs.size=s.heap.objs.size+1:=by
  rw[Heap.size_update,size_push']
 have k1:∀b ob,s.heap.get? b=some ob->((s.heap.push (seqObj "list" #[] 0)).update s.heap.objs.size (Obj.mapSeq (·++vs.toArray))).get? b=some ob:=fun b ob e=>by
  rw[Heap.get?_update_ne _ _ _ _ (Cq (Jw e))];exact Y4 _ e
 have hg:=h ((((s.heap.push (seqObj "list" #[] 0)).update s.heap.objs.size (Obj.mapSeq (·++vs.toArray)))).push (seqObj "list" vs.toArray 0)) _ (fun b ob e=>Y4 _ (k1 b ob e)) (by rw[du];exact Nat.le_succ _) (Gb _ rfl);refine Zq (wpAny_holding (wpAny_mono hg (fun _ s' x=>?_) fun _ _ e=>e));exact Zt ⟨_,rfl,x⟩
def Srt(prog:Program)(w:World)(Ok:Heap->Prop)(vs:ZK)(R:ZK->Prop):Prop:=∀(A:Around) (E:ZQ) (s:Shared) (D:Addr) (Q:Shared->Prop),Ok s.heap->s.heap.get? D=some (seqObj "list" vs.toArray 0) ->
 (∀(h1:Heap) (out:ZD) (n:Nat),(∀b ob,b≠D->s.heap.get? b=some ob->h1.get? b=some ob)->h1.get? D=some (seqObj "list" out n)->R out.toList->Q { s with heap:=h1 }) ->
 wpAny (model prog w) A (call (.builtin "list.sort") [.ref D]) (fun _ s'=>Q s') E s
theorem srt_ints{Ok:Heap->Prop}{vs:ZK}{zs:ZT}(hI:IntsAre vs zs)(h64:vs.length<64):Srt prog w Ok vs fun o=>IntsAre o (Mw zs):=by
 intro A E s D Q _ T9 h;refine wpAny_call_entry slot_list_sort ⟨_,T9,rfl⟩ entry_list_sort ?_ (args_list_sort _);refine list_sort_tree T9 hI h64 fun out ns q1 q2 q3=>⟨_,rfl, ?_⟩;obtain⟨n,e⟩:=sortedHeap_at (h:=s.heap) (a:=D) (vs:=vs) (n:=0) (out:=out) T9;exact h _ out n (fun b ob nb e0=>SetM.Vo nb e0) e (by rw[<-cb q2 q3];exact q1)
theorem srt_strs{Ok:Heap->Prop}{vs:ZK}{ss:ZG}(hI:StrsAre vs ss)(h64:vs.length<64):Srt prog w Ok vs fun o=>StrsAre o (Z7 ss):=by
 intro A E s D Q _ T9 h;refine wpAny_call_entry slot_list_sort ⟨_,T9,rfl⟩ entry_list_sort ?_ (args_list_sort _);refine list_sort_treeK strKind_oneLt T9 hI.keysOf (fun v1 v2 rest e=>keyKind_strs (by rw[<-e];exact hI)) h64 fun st hp hs=>⟨_,rfl, ?_⟩;obtain⟨ns,q1,q2,q3⟩:=sorted_out_str hI hp hs;obtain⟨n,e⟩:=sortedHeap_at (h:=s.heap) (a:=D) (vs:=vs) (n:=0) (out:=(arrOf st).map (·.2)) T9;exact h _ _ n (fun b ob nb e0=>SetM.Vo nb e0) e (by rw[<-cf q2 q3];exact q1)
theorem X1{Ok:Heap->Prop}{vs:ZK}(hz:vs.length<2):Srt prog w Ok vs fun o=>o=vs:=by
 intro A E s D Q _ T9 h;refine wpAny_call_entry slot_list_sort ⟨_,T9,rfl⟩ entry_list_sort ?_ (args_list_sort _);have ha:D<s.heap.objs.size:=Jw T9;have sl:=sizeLine_eq;rw[list_sort_plain];refine Zq (listItems_at T9 rfl (Zq (listUpdate_at T9 rfl ?_ (by rw[Jv];omega) (Wz _))));obtain⟨e1,ho1⟩:∃e1,(s.heap.update D (Obj.mapSeq fun _=>#[])).get? D=some (seqObj "list" #[] e1):=⟨_,get?_update_seq T9 (fun _=>#[])⟩;refine Zq (seqEpoch_at ho1 rfl (Zq (wpAny_newTuple (Zq (wpAny_newList (wpAny_holding ?_) (Wz _))) (by show vs.length<=_;omega))))
 have ho6:(((s.heap.update D (Obj.mapSeq fun _=>#[])).push (seqObj "tuple" vs.toArray 0)).push (seqObj "list" #[] 0)).get? D=some (seqObj "list" #[] e1) :=
  Y4 _ (Y4 _ ho1)
 show wpAny _ _ _ _ _ { s with heap:=((s.heap.update D (Obj.mapSeq fun _=>#[])).push (seqObj "tuple" vs.toArray 0)).push (seqObj "list" #[] 0) };dsimp only;have h2:vs.toArray.size<2:=by rw[Jv];exact hz
 rw[if_pos h2,if_pos h2];refine Zq (Zt ?_);rw[StateT.run_pure];refine Zq (Zt ?_);dsimp only;refine Zq (seqEpoch_at ho6 rfl (Zq (listUpdate_at ho6 rfl ?_ (Wz _) (by rw[Array.size_map];show (pairsOf vs).size<=_;rw[pairsOf_size];omega))));simp only[bne_self_eq_false,B0f,if_false];refine Zt ⟨_,rfl, ?_⟩;obtain⟨n,e⟩:=sortedHeap_at (h:=s.heap) (a:=D) (vs:=vs) (n:=0) (out:=(pairsOf vs).map fun x:Keyed=>x.2) T9;refine h (sortedHeap s.heap D vs ((pairsOf vs).map fun x:Keyed=>x.2)) ((pairsOf vs).map fun x:Keyed=>x.2) n (fun b ob nb e0=>SetM.Vo nb e0) e ?_;rw[Array.toList_map];unfold pairsOf;rw[Array.toList_zip];exact List.map_snd_zip (Gc _)
theorem Ac{h:Heap}:∀{vs:ZK},(∀v∈vs,∃a o xs n i t,v=.ref a/\h.get? a=some o/\o.cls=.type "tuple" /\ o.data=.seq xs n/\xs[0]?=some (.int i t))->∃fs,KatTups h vs fs/\fs.length=vs.length/\∀v∈fs,∃i t,v=.int i t
 | [],_=>⟨[],trivial,rfl,fun _ m=>absurd m Tz⟩
 | v::vs,g=>by
  obtain⟨fs,k1,k2,k3⟩:=Ac (vs:=vs) fun v m=>g v (Vk _ m);obtain⟨a,o,xs,n,i,t,rfl,h1,h2,h3,h4⟩:=g v Yn
  exact⟨.int i t::fs,⟨⟨a,o,xs,n,rfl,h1,h2,h3,h4⟩,k1⟩,by simp[k2],fun v m=>by
   rcases Vv.mp m with rfl | m
   .exact⟨_,_,rfl⟩
   .exact k3 v m⟩
end
end SRT
namespace EX
open PySem
section
variable{prog:Program}{w:World}{A:Around}{E:ZQ}{h:Heap}{g:Array GenState}{d:Drawn}{t:Nat}{os:OsState}
variable{nm q:Str}{C N:Addr}{bs bm bmB:ZK}{z7:Bool}{sn:ZG}{sub:ZK}{ab:Bool}{col:Option Bool}{dd:ZR}{k0 k1 k2 k3 k5:ZF}{B newId initId:String}
noncomputable abbrev tupO(rest:ZK):Obj:={ cls:=.type "tuple",data:=.seq rest.toArray }
noncomputable abbrev aj(C t:Addr):Obj:={ cls:=.ref C,data:=.fields #[.ref t,.none,.none,.none,.bool false,.none] }
noncomputable abbrev made(h:Heap)(C:Addr)(rest:ZK):Heap:=(h.push (tupO rest)).push (aj C h.objs.size)
theorem Dm{rest:ZK}:∀b o,h.get? b=some o->(made h C rest).get? b=some o:=fun _ _ e=>Y4 _ (Y4 _ e)
theorem Iy{rest:ZK}:(made h C rest).get? (h.objs.size+1)=some (aj C h.objs.size):=by
 have:=Gb (h.push (tupO rest)) (o:=aj C h.objs.size) rfl
 rwa [Heap.size_push]at this
theorem ax(F:ExcBaseFacts B newId initId bmB)(T:OwnTail h bmB bm){rest:ZK}{fI:Addr}{Q:Fin->Shared->Prop}
  (hC:h.get? C=some (excClassObj nm q C N bs bm z7 sn sub ab col dd k0 k1 k2 k3 k5 newId)) (hI:Lk (model prog w) h (typeLookup (.ref C) "__init__") (some (.ref fI)))
  (hf:Lk (model prog w) h (typeOf (.ref fI)) (.type "function")) (km:rest.length<=sizeLine)
  (hq:wpAny (model prog w) A (call (.ref fI) (.ref (h.objs.size+1)::rest)) (fun r s'=>r=.none/\Q (.done (.ret (.ref (h.objs.size+1)))) s') E ⟨made h C rest,g,d,t,os⟩) :
  wpAny (model prog w) A (Builtin.«type.__call__» ⟨.ref C::rest,[]⟩) Q E ⟨h,g,d,t,os⟩:=by
 have c1:=Dm (C:=C) (rest:=rest) _ _ hC;have cC:(Value.ref C::bm).contains (.ref C)=true:=by simp
 repeat (first | with_reducible refine wpAny_madeBy_exc hC ?_ | with_reducible refine wpAny_loadPart_at hC ?_ | wp_step)
 refine codeAny_call_builtin_code (Code.quiet_builtin _ F.quiet) (wpAny_check_new_subT F T hC (codeAny_exc_new_subT F T hC ?_ km));show wpAny _ _ _ _ _ _;unfold isInstance;have e1:=Iy (h:=h) (C:=C) (rest:=rest)
 repeat (first | (with_reducible refine wpAny_isSubtype_exc c1 ?_;rw[cC]) | with_reducible refine wpAny_loadPart_at e1 ?_ | wp_step)
 show wpAny _ _ (typeLookup (.ref C) _) _ _ _;refine hI _ _ _ _ Dm (wpAny_holding (Zq ?_));unfold bindSpecial;refine Zq (hf _ _ _ _ Dm ?_);rw[if_pos (by decide)];refine Zt (Zq (wpAny_mono hq (fun r s' ⟨hr,hQ⟩=>?_) fun _ _ y=>y));subst hr
 wp_walk
 exact hQ
end
section
variable{prog:Program}{w:World}{A:Around}{E:ZQ}{h:Heap}{g:Array GenState}{d:Drawn}{t:Nat}{os:OsState}
variable{nm q:Str}{C N:Addr}{bs bm bmB:ZK}{z7:Bool}{sn:ZG}{sub:ZK}{ab:Bool}{col:Option Bool}{dd:ZR}{k0 k1 k2 k3 k5:ZF}{B newId initId:String}
theorem fx(F:ExcBaseFacts B newId initId bmB)(T:OwnTail h bmB bm){rest:ZK}{fI:Addr}{Q:ZQ}
  (hC:h.get? C=some (excClassObj nm q C N bs bm z7 sn sub ab col dd k0 k1 k2 k3 k5 newId)) (hI:Lk (model prog w) h (typeLookup (.ref C) "__init__") (some (.ref fI)))
  (hf:Lk (model prog w) h (typeOf (.ref fI)) (.type "function")) (km:rest.length<=sizeLine)
  (hq:wpAny (model prog w) (A.under (.builtin "type.__call__" ⟨.ref C::rest,[]⟩)) (call (.ref fI) (.ref (h.objs.size+1)::rest)) (fun r s'=>r=.none/\Q (.ref (h.objs.size+1)) s') E ⟨made h C rest,g,d,t,os⟩) :
  wpAny (model prog w) A (call (.ref C) rest) Q E ⟨h,g,d,t,os⟩:=by
 have f2:=tc_bind (.ref C);have f1:=tc_lookup;have ty:(⟨h,g,d,t,os⟩:Shared).TypeIs (.ref C) "type" := ⟨_,hC,rfl⟩;refine wpAny_call (codeAny_of_tree ?_);show wpAny _ _ (callAny (.ref C) _) _ _ _
 repeat (any_goals (first | with_reducible refine wpAny_loadPart_at hC ?_ | assumption | wp_step))
 refine⟨rfl,codeAny_call_builtin_at (Code.quiet_builtin _ (by decide +kernel)) entry_typeCall (wpAny_check_type_call_sub hC (ax F T hC hI hf km hq))⟩
end
end EX
namespace EX
open PySem Builtin Builtin.ObjectAttr
structure m4(M:Model)(h:Heap)(x C:Addr)(name:Str):Prop where
 sa:Lk M h (typeLookup (.ref C) "__setattr__") (some (.builtin "object.__setattr__"))
 no:Lk M h (typeLookup (.ref C) name) none
 rf:Lk M h (refuseIfOverridden (.ref x) "__setattr__") ()
 ob:Lk M h (isSubtype (.ref C) (.type "object")) true
 cd:∃cd,Lk M h (classData C) cd/\cd.hasDict=true
structure Q0:Prop where
 slot:Slot "object" "__setattr__" "object.__setattr__"
 entry:entryFor table "object.__setattr__" = some Builtin.«object.__setattr__»
 kind:builtinKind "object.__setattr__" = some .slot
 split:splitId "object.__setattr__" = some ("object","__setattr__")
 args:∀a b c:Value,argsOk "object.__setattr__" ⟨[a,b,c],[]⟩
section
variable{prog:Program}{w:World}{A:Around}{E:ZQ}{s:Shared}{x C:Addr}{o:Obj}{name:Str}{v:Value}
theorem Cu{M:Model}{i owner n:String}{self:Value}{rest:ZK}{Q:ZH}(hk:builtinKind i=some .slot)(hs:splitId i=some (owner,n))
  (hi:Lk M s.heap (isInstance self (.type owner)) true) (ha:argsOk i ⟨self::rest,[]⟩) (z:Q () s):wpAny M A (checkBuiltinCall i ⟨self::rest,[]⟩) Q E s:=by
 simp only[checkBuiltinCall,hk,hs];refine Zq (hi _ _ _ _ (fun _ _ y=>y) ?_);rw[if_neg (by decide)];cases g:Manifest.signature? i with
 | none=>exact Zt z
 | some sig =>
  have e:Bind.checkArgs i sig ⟨self::rest,[]⟩=pure ():=by unfold argsOk at ha;rw[g]at ha;exact ha
  exact(show wpAny M A (Bind.checkArgs i sig ⟨self::rest,[]⟩) Q E s by rw[e];exact Zt z)
theorem Ic{M:Model}{h:Heap}{b:Value}{r:Bool}(hx:h.get? x=some o)(hc:o.cls=.ref C)(hb:Lk M h (isSubtype (.ref C) b) r):Lk M h (isInstance (.ref x) b) r:=by
 intro A Q E s k q;unfold isInstance;exact Zq (Dv hx hc _ _ _ _ k (hb _ _ _ _ k q))
theorem osa_as(self v:Value)(name:Str)(tk:Tok):Builtin.«object.__setattr__» ⟨[self,.str name tk,v],[]⟩=(refuseIfOverridden self "__setattr__" >>= fun _=>typeOf self >>= fun c=>typeLookup c name >>= fun a =>
  storeTaker? a >>= fun y=>match y with | some y=>setByDescriptor y self v | none=>storeInOwnDict self c (.str name tk) name v a.isSome):=by kernel_rfl
theorem we(SF:Q0){Q:ZH}(S:m4 (model prog w) s.heap x C name)(hx:s.heap.get? x=some o)(hc:o.cls=.ref C)
  (h:∀(A:Around) (R:Fin->Shared->Prop) (E':ZQ) (b:Bool) (tk:Tok),(∀s',Q () s'->R (.done (.ret .none)) s') ->
   wpAny (model prog w) A (storeInOwnDict (.ref x) (.ref C) (.str name tk) name v b) R E' { s with toks:=s.toks+1 }) :
  wpAny (model prog w) A (setAttr (.ref x) name v) Q E s:=by
 have ty:=Dv (M:=model prog w) hx hc;have same:∀b o,s.heap.get? b=some o->({ s with toks:=s.toks+1 }:Shared).heap.get? b=some o:=fun _ _ e=>e;unfold setAttr callSpecial? specialOf;refine Zq (wpAny_mkText (Zq (Zq (Zq (ty _ _ _ _ same (S.sa _ _ _ _ same (wpAny_holding ?_)))))));rw[SF.slot.bind];refine Zq (Zt (Zq (wpAny_call ?_)));refine codeAny_call_builtin SF.slot.plain SF.entry ?_;have ag:=SF.args (.ref x) (.str name s.toks) v;have ii:=Ic (M:=model prog w) hx hc S.ob;refine @Cu _ _ { s with toks:=s.toks+1 } (model prog w) "object.__setattr__" "object" "__setattr__" (.ref x) [.str name s.toks,v] _ SF.kind SF.split ii ag ?_;rw[show ([Value.ref x]++[Value.str name s.toks,v])=[.ref x,.str name s.toks,v] from rfl,osa_as];refine Zq (S.rf _ _ _ _ same (Zq (ty _ _ _ _ same (Zq (S.no _ _ _ _ same (Zq (Zt ?_)))))));exact h _ _ _ _ _ fun s' z=>Zt (Zt z)
noncomputable abbrev newD:Obj:={ cls:=.type "dict",data:=.dict #[] }
theorem X4(SF:Q0){Q:ZH}{vs:ZD}(S:m4 (model prog w) s.heap x C name)(hx:s.heap.get? x=some o)(hc:o.cls=.ref C)(hd:o.dict=none)(hv:o.data=.fields vs)
  (h:∀h' tk,(∀b u,b≠x->s.heap.get? b=some u->h'.get? b=some u)->h'.get? x=some { o with dict:=some s.heap.objs.size }->h'.Ns1 s.heap.objs.size (fun y=>if y=name then some v else none) ->
   Q () { s with heap:=h',toks:=tk }):wpAny (model prog w) A (setAttr (.ref x) name v) Q E s:=by
 refine we SF S hx hc fun A R E' b tk hR=>?_;obtain⟨cd,Rq,hh⟩:=S.cd;have same:∀b o,s.heap.get? b=some o->({ s with toks:=s.toks+1 }:Shared).heap.get? b=some o:=fun _ _ e=>e;obtain⟨oc,od,dt,sl⟩:=o;obtain rfl:oc=.ref C:=hc;obtain rfl:od=none:=hd;obtain rfl:dt=.fields vs:=hv;have nx:s.heap.objs.size≠x:=Nat.ne_of_gt (Jw hx);unfold storeInOwnDict ownDictForStores instanceDict;refine Zq (Zt (Zq (Zq (wpAny_loadPart (same _ _ hx) (Zq (Rq _ _ _ _ same ?_))))));rw[hh];refine Zq (wpAny_alloc (Zq (wpAny_update (Y4 _ hx) (Zt ?_))));have e1:=Y4 newD hx;have e2:((s.heap.push newD).update x fun o=>{ o with dict:=some s.heap.objs.size }).get? x=some ⟨.ref C,some s.heap.objs.size,.fields vs,sl⟩:=Heap.get?_update_self _ e1 rfl;have e3:((s.heap.push newD).update x fun o=>{ o with dict:=some s.heap.objs.size }).get? s.heap.objs.size=some newD:=(Heap.get?_update_other _ _ (Ne.symm nx)).trans (Gb _ rfl);have ns:((s.heap.push newD).update x fun o=>{ o with dict:=some s.heap.objs.size }).Ns s.heap.objs.size (fun _=>none):=⟨newD, #[],_,e3,rfl,(fun e he=>absurd he (by simp)),fun _=>rfl⟩;show wpAny _ _ (storeInDict s.heap.objs.size (.str name tk) name v) _ _ _;unfold storeInDict newKeyGuard;refine Zq (Zt (Zq (wpAny_nsSet1 (Heap.Ns1.of_empty ns) fun h' hn' hs=>?_)));obtain⟨oD,esD,epD,hoD,hdD,hcD⟩:=hn'.count (Within.cons name v Within.nil);refine Zq (wpAny_lookBehind hoD ?_ (Zt (hR _ (h h' _ (fun b u hb q=>?_) ((hs.2 x (Ne.symm nx)).trans e2) hn'))))
 .rw[hdD];exact pastItsLine_dict (Jy hcD (by rw[sizeLine_eq,Jk,List.length_nil];omega))
 .exact(hs.2 b (Cq (Jw q))).trans ((Heap.get?_update_other _ _ (Ne.symm hb)).trans (Y4 _ q))
end
structure Zz3(M:Model)(h:Heap)(C:Addr)(name:Str):Prop where
 ga:Lk M h (typeLookup (.ref C) "__getattribute__") (some (.builtin "BaseException.__getattribute__"))
 hk:Lk M h (typeLookup (.ref C) "__getattr__") none
 no:Lk M h (typeLookup (.ref C) name) none
 ob:Lk M h (isSubtype (.ref C) (.type "BaseException")) true
 cd:∃cd,Lk M h (classData C) cd/\cd.hasDict=true
theorem oga_as(self:Value)(name:Str)(tk:Tok):∃miss:Value->Sem Fin,Builtin.«object.__getattribute__» ⟨[self,.str name tk],[]⟩=(typeOf self >>= fun tp=>find self tp name >>= fun f =>
  match f with | .value v=>ret v | .bind g a=>bindTo g a self tp | .missing=>miss tp):=⟨_,rfl⟩
section
variable{prog:Program}{w:World}{A:Around}{E:ZQ}{s:Shared}{x C dx:Addr}{o:Obj}{name:Str}{v:Value}{mA:ZJ}{vs:ZD}
theorem Io:Slot "ValueError" "__getattribute__" "BaseException.__getattribute__" := PySem.F.excAttr_ValueError.ga
theorem get_at{expr:Bool}{Q:ZQ}(G:Zz3 (model prog w) s.heap C name)(hx:s.heap.get? x=some o)(hc:o.cls=.ref C)(hd:o.dict=some dx)(hv:o.data=.fields vs)(hn:s.heap.Ns dx mA)
  (hm:mA name=some v) (ho:∀i,v≠.builtin i) (h:Q v { s with toks:=s.toks+1 }):wpAny (model prog w) A (getAttr (.ref x) name expr) Q E s:=by
 obtain⟨cd,Rq,hh⟩:=G.cd;obtain⟨oc,od,dt,sl⟩:=o;obtain rfl:oc=.ref C:=hc;obtain rfl:od=some dx:=hd;obtain rfl:dt=.fields vs:=hv;have ty:=Dv (M:=model prog w) hx rfl;have same:∀b o,s.heap.get? b=some o->({ s with toks:=s.toks+1 }:Shared).heap.get? b=some o:=fun _ _ e=>e
 have hand:handedOut v=pure v:=by
  cases v<;>first | rfl | exact absurd rfl (ho _)
 unfold getAttr getAttrBy;refine Zq (wpAny_mkText (wpAny_holding (Zq (ty _ _ _ _ same (Zq (G.ga _ _ _ _ same ?_))))))
 have e0:(onTheHeap (Value.ref C) && Value.builtin "BaseException.__getattribute__" == Value.builtin "object.__getattribute__")=false:=by
  rw[show (Value.builtin "BaseException.__getattribute__" == Value.builtin "object.__getattribute__")=false by decide +kernel,Bool.and_false]
 show wpAny _ _ (if (onTheHeap (Value.ref C) && Value.builtin "BaseException.__getattribute__" == Value.builtin "object.__getattribute__")=true then _ else _) _ _ _;rw[e0,if_neg Q6];unfold getAttrByItsOwn hookBefore;refine Zq (G.hk _ _ _ _ same (Zq (wpAny_attempt (wpAny_holding ?_))));unfold callGetattribute boundAndCalled;have e1:(expr && onTheHeap (Value.builtin "BaseException.__getattribute__"))=false:=by cases expr<;>rfl
 rw[e1,if_neg Q6,Io.bind];refine Zq (Zt (wpAny_call ?_));refine codeAny_call_builtin Io.plain PySem.F.entry_bexc_ga ?_;have ag:=PySem.F.args_bexc_ga (.ref x) (.str name s.toks);have ii:=Ic (M:=model prog w) hx rfl G.ob;refine @Cu _ _ { s with toks:=s.toks+1 } (model prog w) "BaseException.__getattribute__" "BaseException" "__getattribute__" (.ref x) [.str name s.toks] _ (by decide +kernel) (by decide +kernel) ii ag ?_;obtain⟨miss,em⟩:=oga_as (.ref x) name s.toks;rw[show ([Value.ref x]++[Value.str name s.toks])=[.ref x,.str name s.toks] from rfl,em];refine Zq (ty _ _ _ _ same (Zq ?_));unfold find;refine Zq (G.no _ _ _ _ same (Zq (Zt (Zq (Zt ?_)))));unfold ownThenClass inOwnDict ownDict instanceDict;refine Zq (Zq (Zq (wpAny_loadPart (same _ _ hx) (Zq (wpAny_loadPart (same _ _ hx) (Zq (Rq _ _ _ _ same ?_)))))));rw[hh];refine Zt (a:=some dx) ?_;refine wpAny_nsGet (s:={ s with toks:=s.toks+1 }) hn ?_;rw[hm];refine Zq (wpAny_rule (Zt (Zt ?_)));show wpAny _ _ (handedOut v) _ _ _;rw[hand];exact Zt h
end
end EX
namespace PV
open PySem
structure qf where
 c:Str
 fld:Str
 sup:ZG
open PySem.Spec PyProof.Rows L2
inductive T where
 | non | bl(b:Bool) | int(i:Int) | str(x:Str) | tup(ts:List T) | lst(ts:List T) | dct(XY:List (Key×T)) | fn(x:Str) | exn(c:Str)(t:T)
abbrev ZZ:=List T
abbrev ZX:=List (Key×T)
inductive Sl where | no | f(t:T) | o(t:T)
abbrev P:=List Sl
set_option genInjectivity true in
inductive A where | t(t:T) | s(i:Nat)
inductive Op where | add | sub | mul | fdiv | mod | pow
inductive Cm where | eq | ne | lt | le | gt | ge | isin | notin | is | isnt
inductive Kd where | int | bool | str | tuple | list | dict
inductive Pr where
 | op(o:Op) | cm(c:Cm) | c2(c d:Cm) | neg | ix | sl(lo hi:Bool) | rev
 | len | all | any | list | tuple | sorted | sset | lset | min | max | int | repr | dict | sum | abs | str | isi (n:Kd) | get1 | get2 | join (x:Str) | lvals | tup1 | dnew | idx | dct1 | srtP | srtF | tin (x:Str) | tix (x:Str) | fld (x:Str) | isx (xs:ZG)
inductive Mt where | append | extend | pop | popAt | insert
inductive Ik where | rng | zip | vls | its
inductive E where
 | v(i:Nat) | mv(i:Nat) | io(i:Nat) | k(t:T) | g(x:Str)
 | nil | cons (a r:E)
 | tup (es:E) | lst (es:E) | pr (p:Pr) (es:E)
 | and (a b:E) | or (a b:E) | not (a:E) | ite (c a b:E)
 | call (f:Str) (es:E) | cal (i:Nat) (es:E) | mt (m:Mt) (i:Nat) (es:E)
 | comp (tg it c el:E) (fr:ZV) (ns:ZG) | itr (k:Ik) (es:E) | tmp (a:E)
inductive S where
 | nil | seq(a r:S) | ret(a:E) | ex(a:E) | set(i:Nat)(a:E) | unp(tg a:E) | put(i:Nat)(k a:E)
 | ite (c:E) (a b:S) | loop (tg it:E) (b:S) | wh (c:E) (b:S) | pass | brk | cont | rais (c:Str) (a:E) | tri (b:S) (c:Str) (i:ZL) (h:S)
noncomputable def D3:List qf:=[⟨"BadDeed","word",["BadDeed","MakeError","ValueError"]⟩]
noncomputable def xw(c:Str):Str:=match D3.find? fun x=>decide (x.c=c) with
 | some x=>x.fld
 | none => ""
noncomputable def Pt(c d:Str):Bool:=match D3.find? fun x=>decide (x.c=c) with
 | some x=>x.sup.any fun y=>decide (y=d)
 | none=>false
noncomputable def Cg(x:Str):Option (ZX) :=
 if x = "SIZES" then some [(.inr "add",.int 3),(.inr "strike",.int 3),(.inr "rename",.int 4),(.inr "widen",.int 3),(.inr "arm",.int 3),(.inr "open",.int 2),(.inr "form",.int 3)]
 else if x = "SORTS_FOR" then some [(.inr "add",.tup [.str "record"]),(.inr "strike",.tup [.str "record",.str "choice"]),(.inr "rename",.tup [.str "record",.str "choice"]),(.inr "widen",.tup [.str "whole",.str "text",.str "row",.str "map"]),(.inr "arm",.tup [.str "choice"]),(.inr "open",.tup [.str "choice"])]
 else none
noncomputable def Dz:ZG:="is_whole" :: "is_item_whole" :: "is_number" :: "is_text" :: "is_name" :: "rises" :: "is_shape" :: "are_bounds" :: "are_members" :: "is_struck" :: "is_short_tuple" :: "is_field" :: "is_default" :: "is_arm" :: "is_single_value" :: "member_of" :: "may_be_left_out" :: "is_make" :: "form_of" :: "is_form" :: "are_forms" :: "fits_in" :: "ofs_of" :: "fits_default" :: "cannot_follow" :: "break_between" :: "is_turned" :: "life_in" :: "fault_of" :: "is_deed" :: "fault_of_form" :: "is_thing_for" :: "fault_of_member" :: "is_name_beside" :: "is_narrower" :: "shape_behind" :: "renamed" :: "_law_tape" :: "_law_draw" :: "_law_plain" :: "_law_default" :: "_law_part" :: "_law_parted" :: "_law_plains" :: "_law_make" :: "_law_alike" :: "_law_near" :: "_law_turned" :: "_law_next" :: "_law_deed" :: "_law_form_word" :: "_law_follow_word" :: "_law_right" :: "done" :: "_law_tried" :: "number_of" :: []
def xl:ZG:=["BadDeed"]
abbrev C9:Str:="number_of"
noncomputable def Yp(ts:ZZ)(lo hi:ZC):ZZ:=(ts.drop (HT.Y7 ts.length 0 lo)).take (HT.Y7 ts.length ts.length hi - HT.Y7 ts.length 0 lo)
noncomputable def Zv(XY:ZX)(k:Key):Option T:=(XY.find? fun p=>decide (p.1=k)).map (·.2)
noncomputable def Zo(XY:ZX)(k:Key)(v:T):ZX :=
 if (XY.any fun p=>decide (p.1=k))=true then XY.map fun p=>if p.1=k then (p.1,v) else p else XY++[(k,v)]
noncomputable def Mf:T->Option Key
 | .int i=>some (.inl i)
 | .str x=>some (.inr x)
 | _=>none
def Jd:Key->T
 | .inl i=>.int i
 | .inr x=>.str x
noncomputable def allB:ZZ->Option (List Bool)
 | []=>some []
 | .bl b::r=>(allB r).map (b::·)
 | _::_=>none
def Nq:T->Bool
 | .non=>true
 | .bl _=>true
 | .int _=>true
 | .str _=>true
 | _=>false
noncomputable def qt:T->T->Option Bool
 | .non,b=>some (match b with
  | .non=>true
  | _=>false)
 | .bl a,b=>some (match b with
  | .bl c=>a == c
  | .int c=>(if a then 1 else 0) == c
  | _=>false)
 | .int a,b=>some (match b with
  | .bl c=>a == (if c then 1 else 0)
  | .int c=>a == c
  | _=>false)
 | .str a,b=>some (match b with
  | .str c=>a == c
  | _=>false)
 | .tup _,_=>some false
 | _,_=>none
noncomputable def eqT:T->T->Option Bool
 | .str a,.str b=>some (decide (a=b))
 | .int a,.int b=>some (decide (a=b))
 | a,b=>if Nq b=true then qt a b else none
def Pg:T->Option (ZZ)
 | .tup ts=>some ts
 | _=>none
noncomputable def eq1(a b:T):Option Bool:=match Pg b with
 | none=>eqT a b
 | some bs=>if bs.isEmpty=true then (match Pg a with
  | some as=>some as.isEmpty
  | none=>if Nq a=true then some false else none) else none
noncomputable def fq:ZZ->ZZ->Option Bool
 | [],[]=>some true
 | [],_::_=>some false
 | _::_,[]=>some false
 | a::r,b::q=>(eq1 a b).bind fun x=>(fq r q).map (x && ·)
noncomputable def eqE(a b:T):Option Bool:=match Pg b with
 | none=>eqT a b
 | some bs=>(Pg a).bind fun as=>fq as bs
noncomputable def pb:T->T->Option Bool
 | .int a,.int b=>some (decide (a<b))
 | .str a,.str b=>some (decide (a.cps.toList<b.cps.toList))
 | .bl a,.bl b=>some (!a && b)
 | _,_=>none
noncomputable def ltTs:ZZ->ZZ->Option Bool
 | [],bs=>some (!bs.isEmpty)
 | a::r,bs=>match bs with
  | []=>some false
  | b::q=>if r.isEmpty=true/\q.isEmpty=true then pb a b else none
def ltE(a b:T):Option Bool:=match Pg b with
 | none=>pb a b
 | some bs=>(Pg a).bind fun as=>ltTs as bs
noncomputable def G4:ZZ->ZZ->Option Bool
 | [],bs=>some (!bs.isEmpty)
 | _::_,[]=>some false
 | a::r,b::q=>(eqE a b).bind fun e=>if e=true then G4 r q else ltE a b
noncomputable def Ck:ZZ->Option (List (ZZ))
 | []=>some []
 | .tup (.int i::r)::ts=>(Ck ts).map ((.int i::r)::·)
 | _::_=>none
noncomputable def Pl(ts:ZZ):Option (ZZ):=(Ck ts).bind fun us=>if ts.length<2 then some ts else
 if ts.length<64/\∀a∈us,∀b∈us,(G4 a b).isSome=true then some ((SRT.srtN ts.length fun i j=>(G4 (us.getD i []) (us.getD j [])).getD false).map fun i=>ts.getD i .non) else none
noncomputable def Ou(n:Int):ZT->ZL
 | []=>none
 | z::r=>if z=n then some 0 else (Ou n r).map (·+1)
noncomputable def ltT:T->T->Option Bool
 | .int a,.int b=>some (decide (a<b))
 | _,_=>none
def geT:T->T->Option Bool
 | .int a,.int b=>some (decide (b<=a))
 | _,_=>none
noncomputable def Lm(a:T):ZZ->Option Bool
 | []=>some false
 | t::r=>(eqT t a).bind fun b=>(Lm a r).map (b || ·)
noncomputable def G6:ZZ->Option (ZT)
 | []=>some []
 | .int i::r=>(G6 r).map (i::·)
 | _::_=>none
noncomputable def Mi:ZZ->Option (ZG)
 | []=>some []
 | .str i::r=>(Mi r).map (i::·)
 | _::_=>none
def A4:Key->PyData
 | .inl i=>.int i
 | .inr x=>.str x
mutual
noncomputable def toPy:T->Option PyData
 | .non=>some .none
 | .bl b=>some (.bool b)
 | .int i=>some (.int i)
 | .str x=>some (.str x)
 | .tup ts=>(Uc ts).map .tuple
 | .lst ts=>(Uc ts).map .list
 | .dct XY=>(D5 XY).map .dict
 | .fn _=>none
 | .exn _ _=>none
noncomputable def Uc:ZZ->Option (List PyData)
 | []=>some []
 | t::r=>(toPy t).bind fun d=>(Uc r).map (d::·)
noncomputable def D5:ZX->Option (List (PyData×PyData))
 | []=>some []
 | (k,t)::r=>(toPy t).bind fun d=>(D5 r).map ((A4 k,d)::·)
end
noncomputable def rpT(t:T):Option Str:=(toPy t).bind fun d=>if d.showable=true/\d.shown.length<=sizeLine/\d.depth<=100 then some d.shown else none
def inF(a:T)(ts:ZZ):Option Bool:=if Nq a=true then Lm a ts else none
noncomputable def kj:T->Str->Option Bool
 | .str x,y=>some (!(Builtin.Str.occurrences y x 0 y.length 1).isEmpty)
 | _,_=>none
noncomputable def K5(a:T):T->Option Bool
 | .lst ts=>inF a ts
 | .tup ts=>inF a ts
 | .dct XY=>(Mf a).map fun k=>(Zv XY k).isSome
 | .str y=>kj a y
 | _=>none
noncomputable def isT:T->T->Option Bool
 | .non,.non=>some true
 | .bl a,.bl b=>some (a == b)
 | _,.non=>some false
 | _,_=>none
noncomputable def eqC:T->T->Option Bool
 | .tup ts,.tup []=>some ts.isEmpty
 | a,b=>eqT a b
noncomputable def eqG:T->T->Option Bool
 | .tup ts,.tup (b::q)=>fq ts (b::q)
 | a,b=>eqC a b
noncomputable def Jq:Cm->T->T->Option Bool
 | .eq,a,b=>eqG a b
 | .ne,a,b=>(eqG a b).map not
 | .lt,a,b=>ltT a b
 | .gt,a,b=>ltT b a
 | .le,a,b=>(ltT b a).map not
 | .ge,a,b=>geT a b
 | .isin,a,b=>K5 a b
 | .notin,a,b=>(K5 a b).map not
 | .is,a,b=>isT a b
 | .isnt,a,b=>(isT a b).map not
noncomputable def y9(f:Int->Int->Option Sl)(t t':T):Option Sl:=match t with
 | .int a=>(match t' with
  | .int b=>f a b
  | _=>none)
 | _=>none
noncomputable def addT(t t':T):Option Sl:=match t with
 | .int a=>(match t' with
  | .int b=>some (.f (.int (a+b)))
  | _=>none)
 | .str a=>(match t' with
  | .str b=>if a.length+b.length<=sizeLine then some (.f (.str (a++b))) else none
  | _=>none)
 | .lst a=>(match t' with
  | .lst b=>if a.length+b.length<=sizeLine then some (.o (.lst (a++b))) else none
  | _=>none)
 | .tup a=>(match t' with
  | .tup b=>if a.length+b.length<=sizeLine then some (.f (.tup (a++b))) else none
  | _=>none)
 | .bl a=>(match t' with
  | .int b=>some (.f (.int ((if a=true then 1 else 0)+b)))
  | _=>none)
 | _=>none
noncomputable def mulT(t t':T):Option Sl:=match t with
 | .int a=>(match t' with
  | .int b=>if (-(2 ^ 64)<a/\a<2 ^ 64)\/(-(2 ^ 64)<b/\b<2 ^ 64) then some (.f (.int (a * b))) else none
  | _=>none)
 | .str a=>(match t' with
  | .int n=>if 0<=n/\n<=1000/\a.length<=1000 then some (.f (.str (repS a n.toNat))) else none
  | _=>none)
 | .lst a=>(match t' with
  | .int n=>if -(2 ^ 63)<=n/\n<2 ^ 63/\a.length * n.toNat<=sizeLine then some (.o (.lst (List.replicate n.toNat a).flatten)) else none
  | _=>none)
 | _=>none
noncomputable def dn(o:Op)(t t':T):Option Sl:=match o with
 | .add=>addT t t'
 | .sub=>y9 (fun a b=>some (.f (.int (a - b)))) t t'
 | .mul=>mulT t t'
 | .fdiv=>y9 (fun a b=>if 0<b/\b<1073741824 then some (.f (.int (a / b))) else none) t t'
 | .mod=>y9 (fun a b=>if 0<b then some (.f (.int (a % b))) else none) t t'
 | .pow=>y9 (fun a b=>if 0<=b/\b<=1000000/\a.natAbs<2 ^ 64 then some (.f (.int (a ^ b.toNat))) else none) t t'
noncomputable def T5:T->T->Option T
 | .tup ts,.int i=>R9 ts i
 | .lst ts,.int i=>R9 ts i
 | .str z,.int i=>if z.length<=sizeLine then (R9 z.cps.toList i).map fun c=>.str ⟨#[c]⟩ else none
 | .dct XY,k=>(Mf k).bind (Zv XY)
 | _,_=>none
noncomputable def ig:T->ZC->ZC->Option Sl
 | .tup ts,lo,hi=>some (.f (.tup (Yp ts lo hi)))
 | .lst ts,lo,hi=>some (.o (.lst (Yp ts lo hi)))
 | .str z,lo,hi=>if z.length<=sizeLine then some (.f (.str (Txt.slice z lo hi))) else none
 | _,_,_=>none
noncomputable def yh:T->ZL
 | .tup ts=>some ts.length
 | .lst ts=>some ts.length
 | .dct ts=>some ts.length
 | .str z=>if z.length<=sizeLine then some z.length else none
 | _=>none
noncomputable def isiT:Kd->T->Option Bool
 | .int,.int _=>some true
 | .int,.bl _=>some true
 | .bool,.bl _=>some true
 | .str,.str _=>some true
 | .tuple,.tup _=>some true
 | .list,.lst _=>some true
 | .dict,.dct _=>some true
 | _,.fn _=>none
 | _,.exn _ _=>none
 | _,_=>some false
def Od:T->ZC
 | .int i=>some i
 | _=>none
def Wl:T->Bool
 | .lst _=>true
 | .dct _=>true
 | _=>false
noncomputable def Gi:ZZ->Option (ZX)
 | []=>some []
 | .tup [a,b]::r=>(Mf a).bind fun k=>(Gi r).map ((k,b)::·)
 | _::_=>none
noncomputable def Cr(ts:ZZ):Option (ZZ) :=
 if ts.length<64 then match G6 ts with
  | some zs=>some ((SRT.Mw zs).map .int)
  | none=>(Mi ts).map fun ss=>(SRT.Z7 ss).map .str
 else none
noncomputable def G8:ZZ->Option (ZT)
 | []=>some []
 | .tup (.int i::_)::r=>(G8 r).map (i::·)
 | _::_=>none
mutual
def sy:T->Bool
 | .tup ts=>yy ts
 | .lst _=>false
 | .dct _=>false
 | .fn _=>false
 | .exn _ _=>false
 | _=>true
def yy:ZZ->Bool
 | []=>true
 | t::r=>sy t && yy r
end
def pOp(o:Op):ZZ->Option Sl
 | [a,b]=>dn o a b
 | _=>none
noncomputable def pCm(c:Cm):ZZ->Option Sl
 | [a,b]=>(Jq c a b).map fun r=>.f (.bl r)
 | _=>none
noncomputable def pC2(c:Cm)(d:Cm):ZZ->Option Sl
 | [a,b,e]=>(Jq c a b).bind fun r=>if r=true then (Jq d b e).map fun r=>.f (.bl r) else some (.f (.bl false))
 | _=>none
noncomputable def pNeg:ZZ->Option Sl
 | [.int i]=>some (.f (.int (-i)))
 | _=>none
noncomputable def pIx:ZZ->Option Sl
 | [a,b]=>(T5 a b).map .f
 | _=>none
noncomputable def pSl10:ZZ->Option Sl
 | [a,l]=>(Od l).bind fun i=>ig a (some i) none
 | _=>none
def pSl01:ZZ->Option Sl
 | [a,h]=>(Od h).bind fun j=>ig a none (some j)
 | _=>none
noncomputable def pSl11:ZZ->Option Sl
 | [a,l,h]=>(Od l).bind fun i=>(Od h).bind fun j=>ig a (some i) (some j)
 | _=>none
noncomputable def pLen:ZZ->Option Sl
 | [a]=>(yh a).map fun n=>.f (.int n)
 | _=>none
noncomputable def pAll:ZZ->Option Sl
 | [.lst ts]=>(allB ts).map fun bs=>.f (.bl (bs.all id))
 | _=>none
def pAny:ZZ->Option Sl
 | [.lst ts]=>(allB ts).map fun bs=>.f (.bl (bs.any id))
 | _=>none
noncomputable def i5:ZZ->Option Sl
 | [.tup ts]=>some (.o (.lst ts))
 | [.dct XY]=>some (.o (.lst (XY.map fun p=>Jd p.1)))
 | _=>none
noncomputable def A9:ZZ->Option Sl
 | [.lst ts]=>(Cr ts).map fun us=>.o (.lst us)
 | [.dct XY]=>(Cr (XY.map fun p=>Jd p.1)).map fun us=>.o (.lst us)
 | _=>none
noncomputable def vp:ZZ->Option Sl
 | [.lst ts]=>some (.f (.tup ts))
 | _=>none
noncomputable def pMin:ZZ->Option Sl
 | [.int a,.int b]=>some (.f (.int (if b<a then b else a)))
 | _=>none
noncomputable def pMax:ZZ->Option Sl
 | [.int a,.int b]=>some (.f (.int (if b>a then b else a)))
 | _=>none
noncomputable def pInt:ZZ->Option Sl
 | [.bl b]=>some (.f (.int (if b then 1 else 0)))
 | _=>none
noncomputable def pIsi(n:Kd):ZZ->Option Sl
 | [a]=>(isiT n a).map fun r=>.f (.bl r)
 | _=>none
noncomputable def ve:ZZ->Option Sl
 | [.dct XY]=>some (.o (.dct XY))
 | [.lst ts]=>(Gi ts).map fun XY=>.o (.dct (XY.foldl (fun acc kv=>Zo acc kv.1 kv.2) []))
 | _=>none
noncomputable def i4:ZZ->Option Sl
 | [a]=>(rpT a).map fun z=>.f (.str z)
 | _=>none
def pDnew:ZZ->Option Sl
 | []=>some (.o (.dct []))
 | _=>none
noncomputable def pGet1:ZZ->Option Sl
 | [.dct XY,k]=>(Mf k).map fun k=>.f ((Zv XY k).getD .non)
 | _=>none
noncomputable def pGet2:ZZ->Option Sl
 | [.dct XY,k,x]=>if Wl x=true then none else (Mf k).map fun k=>.f ((Zv XY k).getD x)
 | _=>none
noncomputable def pIdx:ZZ->Option Sl
 | [.lst ts,.int n]=>(G6 ts).bind fun zs=>(Ou n zs).map fun j:Nat=>Sl.f (.int (j:Nat))
 | _=>none
noncomputable def vi:ZZ->Option Sl
 | [.lst ts]=>(Mi ts).bind fun ss=>if ss.length<64 then some (.f (.int (SRT.qb ss).length)) else none
 | _=>none
noncomputable def pDct1:ZZ->Option Sl
 | [k,v]=>if Wl v=true then none else (Mf k).map fun k=>.o (.dct [(k,v)])
 | _=>none
noncomputable def ie:ZZ->Option Sl
 | [.tup ts]=>(Pl ts).map fun us=>.o (.lst us)
 | _=>none
noncomputable def va:ZZ->Option Sl
 | [.lst ts]=>(G8 ts).bind fun hs=>if hs.Nodup/\ts.length<64 then some (.o (.lst ((SRT.Eu (hs.zip ts)).map (·.2)))) else none
 | _=>none
def Xa(x:Str)(z:Str):Option T:=(Cg x).bind fun XY=>Zv XY (.inr z)
noncomputable def r7(x:Str):ZZ->Option Sl
 | [.str z]=>(Xa x z).map fun _=>.f (.bl true)
 | _=>none
noncomputable def r6(x:Str):ZZ->Option Sl
 | [.str z]=>(Xa x z).map .f
 | _=>none
noncomputable def pFld(x:Str):ZZ->Option Sl
 | [.exn c t]=>if xw c=x then some (.f t) else none
 | _=>none
noncomputable def pIsx(xs:ZG):ZZ->Option Sl
 | [.exn c _]=>some (.f (.bl (xs.any (Pt c))))
 | _=>none
noncomputable def W5:Pr->ZZ->Option Sl
 | .op o=>pOp o
 | .cm c=>pCm c
 | .c2 c d=>pC2 c d
 | .neg=>pNeg
 | .ix=>pIx
 | .sl true false=>pSl10
 | .sl false true=>pSl01
 | .sl true true=>pSl11
 | .len=>pLen
 | .all=>pAll
 | .any=>pAny
 | .list=>i5
 | .sorted=>A9
 | .tuple=>vp
 | .min=>pMin
 | .max=>pMax
 | .int=>pInt
 | .isi n=>pIsi n
 | .dict=>ve
 | .repr=>i4
 | .dnew=>pDnew
 | .get1=>pGet1
 | .idx=>pIdx
 | .lset=>vi
 | .dct1=>pDct1
 | .srtP=>ie
 | .srtF=>va
 | .tin x=>r7 x
 | .tix x=>r6 x
 | .get2=>pGet2
 | .fld x=>pFld x
 | .isx xs=>pIsx xs
 | _=>fun _=>none
noncomputable def t7:Sl->Option Sl
 | .f t=>if sy t=true then some (.f t) else none
 | .o t=>(match t with
  | .dct XY=>if XY.all (fun p=>sy p.2)=true then some (.o (.dct XY)) else none
  | _=>none)
 | .no=>none
noncomputable def look(p:P)(a:A):Option T :=
 match a with
 | .t t=>some t
 | .s i=>match p[i]? with
  | some (.f t)=>some t
  | some (.o t)=>some t
  | _=>none
noncomputable def looks(p:P):List A->Option (ZZ)
 | []=>some []
 | a::r=>(look p a).bind fun t=>(looks p r).map (t::·)
def frs:Sl->Sl
 | .o t=>.f t
 | s=>s
noncomputable def frz(p:P):P:=p.map frs
noncomputable def args(p:P):List A->Option (List Sl)
 | []=>some []
 | .t t::r=>(args p r).map (.f t::·)
 | .s i::r=>match p[i]? with
  | some (.o t)=>(args (p.set i .no) r).map (.o t::·)
  | _=>none
def mkO:T->Sl
 | .fn _=>.no
 | t=>.o t
theorem mkO_f{t u:T}:mkO t≠.f u:=by cases t<;>exact fun z=>nomatch z
noncomputable def outs(p:P):List A->ZZ->Option P
 | [],[]=>some p
 | .t _::r,ts=>outs p r ts
 | .s i::r,t::ts=>outs (p.set i (mkO t)) r ts
 | _,_=>none
noncomputable def Oy(p:P):List A->P
 | []=>p
 | .t _::r=>Oy p r
 | .s i::r=>Oy (p.set i .no) r
noncomputable def u6(fr:ZV)(p:P):P:=fr.map fun o=>match o with
 | some j=>(p[j]?).getD .no
 | none=>.no
noncomputable def back:ZV->P->P->P
 | some j::fr,s::q,p=>back fr q (p.set j s)
 | none::fr,_::q,p=>back fr q p
 | _,_,p=>p
mutual
noncomputable def asg:E->T->P->Option P
 | .v i,t,p=>some (p.set i (.f t))
 | .tup es,.tup ts,p=>S4 es ts p
 | _,_,_=>none
noncomputable def S4:E->ZZ->P->Option P
 | .nil,[],p=>some p
 | .cons a r,t::ts,p=>(asg a t p).bind fun q=>S4 r ts q
 | _,_,_=>none
end
def thaw:Sl->Option T
 | .f t=>some t
 | .o t=>some t
 | .no=>none
noncomputable def Px:T->Option (ZZ)
 | .tup ts=>some ts
 | .lst ts=>some ts
 | .dct XY=>some (XY.map fun p=>Jd p.1)
 | .str z=>if z.length<=sizeLine then some (z.cps.toList.map fun c=>.str ⟨#[c]⟩) else none
 | _=>none
noncomputable def mtT:Mt->T->ZZ->Option (T×T)
 | .append,.lst ts,[x]=>if ts.length<sizeLine then some (.lst (ts++[x]),.non) else none
 | _,_,_=>none
abbrev Lc:=Str×T
abbrev Cs:=Str->List Sl->(Sl×ZZ->Prop)->(Lc->Prop)->Prop
structure W where
 C:Cs
 gl:Str->Option T
 xe:Lc->P->Prop
noncomputable def read(p:P)(i:Nat):Option (T×P):=match p[i]? with
 | some (.f t)=>some (t,p)
 | some (.o t)=>some (t,p.set i (.f t))
 | _=>none
noncomputable def done(p:P)(i:Nat):Bool:=match p[i]? with
 | some (.f _)=>true
 | some (.o _)=>true
 | _=>false
noncomputable def ownL(p:P)(i:Nat):Bool:=match p[i]? with
 | some (.o (.lst _))=>true
 | _=>false
noncomputable def ry:T->Option (ZZ)
 | .int n=>if -1000000<=n/\n<=1000000 then some ((List.range n.toNat).map fun k=>.int (k:Nat)) else none
 | _=>none
noncomputable def Du(a b:ZZ):ZZ:=(a.zip b).map fun p=>.tup [p.1,p.2]
noncomputable def itT:Ik->ZZ->Option (ZZ)
 | .rng,[t]=>ry t
 | .zip,[.lst a,.lst b]=>some (Du a b)
 | .zip,[.tup a,.tup b]=>some (Du a b)
 | .vls,[.dct XY]=>some (XY.map (·.2))
 | .its,[.dct XY]=>some (XY.map fun p=>.tup [Jd p.1,p.2])
 | _,_=>none
def isNil:E->Bool
 | .nil=>true
 | _=>false
noncomputable def Jm(pt:Nat->Bool):E->Bool
 | .v i=>!pt i
 | .tup es=>Jm pt es
 | .nil=>true
 | .cons a r=>Jm pt a && Jm pt r
 | _=>false
noncomputable def putAt:T->T->T->Option T
 | .lst ts,.int i,t=>(ug ts.length i).map fun j=>.lst (ts.set j t)
 | .dct XY,k,t=>(Mf k).bind fun k=>if XY.length<sizeLine then some (.dct (Zo XY k t)) else none
 | _,_,_=>none
def on{j:Type}(o:Option j)(Q:j->Prop):Prop:=match o with
 | some a=>Q a
 | none=>False
theorem Zm{j:Type}{o:Option j}{a:j}{Q:j->Prop}(e:o=some a)(h:Q a):on o Q:=by rw[e];exact h
theorem Za{j:Type}{o:Option j}{Q:j->Prop}(h:on o Q):∃a,o=some a/\Q a:=by
 cases o with
 | none=>exact h.elim
 | some a=>exact⟨a,rfl,h⟩
noncomputable def Fj(r:Sl)(Q:Bool->Prop):Prop:=match r with
 | .f (.bl b)=>Q b
 | _=>False
def Mu(r:Sl)(Q:T->Prop):Prop:=match r with
 | .f t=>Q t
 | .o t=>Q t
 | .no=>False
def Z6(body:T->P->(Option T->P->Prop)->Prop):ZZ->ZZ->P->(ZZ->P->Prop)->Prop
 | [],acc,p,Q=>Q acc p
 | x::r,acc,p,Q=>body x p fun o p'=>match o with
  | some y=>Z6 body r (acc++[y]) p' Q
  | none=>Z6 body r acc p' Q
def wH(m:Bool)(a:E)(p:P)(k:(Sl->P->Prop)->Prop)(K:A->P->Prop):Prop:=match a with
 | .io i=>if done p i=true then K (.s i) p else False
 | .v i=>if m=true then (if done p i=true then K (.s i) p else False) else on (read p i) fun q=>K (.t q.1) q.2
 | _=>k fun s p1=>Mu s fun t=>K (.t t) p1
def cC(c:(Sl×ZZ->Prop)->(Lc->Prop)->Prop)(R:Sl×ZZ->Prop)(X:Lc->Prop):Prop:=c R X
def wC(w:W)(f:Str)(as:List A)(p:P)(Q:Sl->P->Prop):Prop:=on (args p as) fun sl=>cC (w.C f sl) (fun r=>on (outs p as r.2) fun p2=>Q r.1 p2) fun e=>w.xe e (Oy p as)
def W.nx(w:W):W:=⟨w.C,w.gl,fun _ _=>False⟩
mutual
noncomputable def wE:W->E->P->(Sl->P->Prop)->Prop
 | w,.v i,p,Q=>on (read p i) fun q=>Q (.f q.1) q.2
 | w,.mv i,p,Q=>match p[i]? with
  | some (.o t)=>Q (.o t) (p.set i .no)
  | some (.f t)=>Q (.f t) p
  | _=>False
 | w,.k t,p,Q=>Q (.f t) p
 | w,.g x,p,Q=>on (w.gl x) fun t=>Q (.f t) p
 | w,.tup es,p,Q=>wR w false es p fun as p1=>on (looks p1 as) fun ts=>if ts.length<=sizeLine then Q (.f (.tup ts)) p1 else False
 | w,.lst es,p,Q=>wR w false es p fun as p1=>on (looks p1 as) fun ts=>if ts.length<=sizeLine then Q (.o (.lst ts)) p1 else False
 | w,.pr r es,p,Q=>wR w true es p fun as p1=>on (looks p1 as) fun ts=>on (W5 r ts) fun s=>Q s p1
 | w,.and a b,p,Q=>wE w a p fun r p1=>Fj r fun c=>if c=true then wE w b p1 Q else Q (.f (.bl false)) p1
 | w,.or a b,p,Q=>wE w a p fun r p1=>Fj r fun c=>if c=true then Q (.f (.bl true)) p1 else wE w b p1 Q
 | w,.not a,p,Q=>wE w a p fun r p1=>Fj r fun c=>Q (.f (.bl (!c))) p1
 | w,.ite c a b,p,Q=>wE w c p fun r p1=>Fj r fun c=>if c=true then wE w a p1 Q else wE w b p1 Q
 | w,.call f es,p,Q=>wR w false es p fun as p1=>wC w f as p1 Q
 | w,.cal i es,p,Q=>match p[i]? with
  | some (.f (.fn f))=>wR w false es p fun as p1=>wC w f as p1 Q
  | _=>False
 | w,.mt m i es,p,Q=>if ownL p i=true then wR w false es p fun as p1=>on (looks p1 as) fun ts=>match p1[i]? with
   | some (.o t)=>on (mtT m t ts) fun r=>Q (.f r.2) (p1.set i (.o r.1))
   | _=>False
  else False
 | w,.comp tg it c el fr _,p,Q=>wE w it p fun r p1=>Mu r fun t=>on (Px t) fun xs=>Z6 (fun x s K=>on (asg tg x s) fun s1=>if isNil c=true then wE w.nx el s1 fun r s2=>Mu r fun y=>K (some y) s2
   else wE w.nx c s1 fun r s2=>Fj r fun b=>if b=true then wE w.nx el s2 fun r s3=>Mu r fun y=>K (some y) s3 else K none s2) xs [] (u6 fr p1) fun ys s=>Q (.o (.lst ys)) (back fr s p1)
 | w,.itr k es,p,Q=>wR w false es p fun as p1=>on (looks p1 as) fun ts=>on (itT k ts) fun xs=>Q (.f (.lst xs)) p1
 | w,.tmp a,p,Q=>wE w a (frz p) fun r _=>on (t7 r) fun r=>Q r p
 | _,_,_,_=>False
noncomputable def wR:W->Bool->E->P->(List A->P->Prop)->Prop
 | _,_,.nil,p,Q=>Q [] p
 | w,m,.cons a r,p,Q=>wH m a p (wE w a p) fun a1 p1=>wR w m r p1 fun as p2=>Q (a1::as) p2
 | _,_,_,_,_=>False
end
structure En where
 nx:P->Prop
 rt:Sl->P->Prop
 bk:P->Prop:=fun _=>False
 ct:P->Prop:=fun _=>False
def Lh(body:T->P->En->Prop):ZZ->P->En->Prop
 | [],p,D=>D.nx p
 | x::r,p,D=>body x p ⟨fun q=>Lh body r q D,D.rt,D.nx,fun q=>Lh body r q D⟩
def wWh(test:P->(Bool->P->Prop)->Prop)(body:P->En->Prop):Nat->P->En->Prop
 | 0,_,_=>False
 | n+1,p,D=>test p fun b p1=>if b=true then body p1 ⟨fun q=>wWh test body n q D,D.rt,D.nx,fun q=>wWh test body n q D⟩ else D.nx p1
def bindX(i:ZL)(t:T)(q:P):P:=match i with
 | some i=>q.set i (.f t)
 | none=>q
def unX(i:ZL)(q:P):P:=match i with
 | some i=>q.set i .no
 | none=>q
def En.un(D:En)(i:ZL):En:=⟨fun q=>D.nx (unX i q),fun r q=>D.rt r (unX i q),fun q=>D.bk (unX i q),fun q=>D.ct (unX i q)⟩
def ptX(pt:Nat->Bool)(i:ZL):Bool:=match i with
 | some i=>pt i
 | none=>false
def wS:W->(Nat->Bool)->S->P->En->Prop
 | w,pt,.nil,p,D=>D.nx p
 | w,pt,.seq a r,p,D=>wS w pt a p ⟨fun q=>wS w pt r q D,D.rt,D.bk,D.ct⟩
 | w,pt,.ret a,p,D=>wE w a p D.rt
 | w,pt,.ex a,p,D=>wE w a p fun _ q=>D.nx q
 | w,pt,.set i a,p,D=>if pt i=true then False else wE w a p fun r q=>D.nx (q.set i r)
 | w,pt,.unp tg a,p,D=>if Jm pt tg=true then wE w a p fun r q=>Mu r fun t=>on (asg tg t q) D.nx else False
 | w,pt,.put i k a,p,D=>wE w a p fun r p1=>Mu r fun t=>if done p1 i=true then wE w k p1 fun r p2=>Mu r fun k=>match p2[i]? with
   | some (.o x)=>on (putAt x k t) fun x'=>D.nx (p2.set i (.o x'))
   | _=>False
  else False
 | w,pt,.ite c a b,p,D=>wE w c p fun r q=>Fj r fun b'=>if b'=true then wS w pt a q D else wS w pt b q D
 | w,pt,.loop tg it b,p,D=>if Jm pt tg=true then wE w it p fun r q=>Mu r fun t=>on (Px t) fun xs=>Lh (fun x s D=>on (asg tg x s) fun s1=>wS w pt b s1 D) xs q D else False
 | w,pt,.wh c b,p,D=>wWh (fun s K=>wE w c s fun r q=>Fj r fun b=>K b q) (fun s D=>wS w pt b s D) 1000000 p D
 | w,pt,.pass,p,D=>D.nx p
 | w,pt,.brk,p,D=>D.bk p
 | w,pt,.cont,p,D=>D.ct p
 | w,_,.rais c a,p,_=>wE w a p fun r q=>Mu r fun t=>w.xe (c,t) q
 | w,pt,.tri b c i h,p,D=>if ptX pt i=true then False else wS ⟨w.C,w.gl,fun e q=>if Pt e.1 c=true then wS w pt h (bindX i (.exn e.1 e.2) q) (D.un i) else False⟩ pt b p D
def Yk(as:List Sl)(i:Nat):Bool:=match as[i]? with
 | some (.o _)=>true
 | _=>false
def leftT:Sl->T
 | .o t=>t
 | _=>.fn ""
noncomputable def G1:List Sl->P->Option (ZZ)
 | [],_=>some []
 | .o _::r,x::q=>(G1 r q).map (leftT x::·)
 | .f _::r,_::q=>G1 r q
 | .no::r,_::q=>G1 r q
 | _,_=>none
noncomputable def fin(as:List Sl)(r:Sl)(p:P):Option (Sl×ZZ):=(G1 as p).map fun ts=>(r,ts)
structure Df where
 n:Nat
 ar:Nat
 code:S
def Wy(d:Df)(w:W)(as:List Sl)(R:Sl×ZZ->Prop):Prop:=if as.length=d.ar then wS w (Yk as) d.code (as++List.replicate (d.n - d.ar) .no) ⟨fun p=>on (fin as (.f .non) p) R,fun r p=>on (fin as r p) R,fun _=>False,fun _=>False⟩ else False
def Cn(tab:Str->Option Df)(gl:Str->Option T):Nat->Cs
 | 0=>fun _ _ _ _=>False
 | n+1=>fun f as R X=>on (tab f) fun d=>Wy d ⟨Cn tab gl n,gl,fun e _=>X e⟩ as R
end PV
namespace PV
open PySem PySem.Spec PyProof.Rows L2
example (w:W) (pt:Nat->Bool) (a r:S) (p:P) (D:En):wS w pt (.seq a r) p D=wS w pt a p ⟨fun q=>wS w pt r q D,D.rt,D.bk,D.ct⟩:=rfl
abbrev OM:=Addr->Option Obj
structure Md where
 prog:Program
 w:World
 mg:ZJ
 K:W.Frag
 base:Heap
structure Tu(o:Obj)(us:ZK):Prop where
 c:o.cls=.type "tuple"
 d:o.dict=none
 s:∃n,o.data=.seq us.toArray n
 z:us.length<=sizeLine
def Wo(o:Obj)(us:ZK):Prop:=us.length<=sizeLine/\∃n,o={ cls:=.type "list",data:=.seq us.toArray n }
structure We(g:Md)(a:Addr)(o:Obj)(vs:List (Key×Value)):Prop where
 ex:o.ExactDict
 es:∃es ep,o.data=.dict es ep/\KeysOf (Zk g.prog g.w) es/\Pairs (Zk g.prog g.w) es.toList vs
 nd:(vs.map (·.1)).Nodup
 z:vs.length<=sizeLine
 ns:(a == sysModules)=false
structure Ex(g:Md)(F:OM)(o:Obj)(c:Str)(u:Value):Prop where
 cl:∃C,o.cls=.ref C/\g.mg c=some (.ref C)
 fs:∃vs,o.data=.fields vs/\vs.size=6
 dc:∃d od m,o.dict=some d/\F d=some od/\(∀h:Heap,h.get? d=some od->h.Ns d m)/\m (xw c)=some u
inductive Top(g:Md)(F:OM):OM->T->Value->Prop
 | non{D:OM}:Top g F D .non .none
 | bl {D:OM} {b:Bool}:Top g F D (.bl b) (.bool b)
 | int {D:OM} {i:Int} {t:Tok}:Top g F D (.int i) (.int i t)
 | str {D:OM} {x:Str} {t:Tok}:Top g F D (.str x) (.str x t)
 | fn {D:OM} {x:Str} {a:Addr} (h:g.mg x=some (.ref a)) (k:W.keepIn g.K (.ref a)=true):Top g F D (.fn x) (.ref a)
 | tup {D:OM} {ts:ZZ} {a:Addr} {o:Obj} {us:ZK} (h:D a=some o) (k:Tu o us) (l:us.length=ts.length) (e:∀i (h:i<ts.length),Top g F F ts[i] (us.getD i .none)):Top g F D (.tup ts) (.ref a)
 | lst {D:OM} {ts:ZZ} {a:Addr} {o:Obj} {us:ZK} (h:D a=some o) (k:Wo o us) (l:us.length=ts.length) (e:∀i (h:i<ts.length),Top g F F ts[i] (us.getD i .none)):Top g F D (.lst ts) (.ref a)
 | dct {D:OM} {XY:ZX} {a:Addr} {o:Obj} {vs:List (Key×Value)} (h:D a=some o) (k:We g a o vs) (l:vs.map (·.1)=XY.map (·.1)) (e:∀i (h:i<XY.length),Top g F F (XY[i]).2 ((vs.map (·.2)).getD i .none)):Top g F D (.dct XY) (.ref a)
 | exn {D:OM} {c:Str} {t:T} {a:Addr} {o:Obj} {u:Value} (h:D a=some o) (k:Ex g F o c u) (e:Top g F F t u):Top g F D (.exn c t) (.ref a)
abbrev IsT(g:Md)(F:OM):T->Value->Prop:=Top g F F
abbrev Zr(g:Md)(F:OM):ZZ->ZK->Prop:=Paired (IsT g F)
abbrev Z9(g:Md)(F:OM):ZX->List (Key×Value)->Prop:=Paired fun p q=>p.1=q.1/\IsT g F p.2 q.2
def Le(F F':OM):Prop:=∀a o,F a=some o->F' a=some o
theorem Le.refl(F:OM):Le F F:=fun _ _ h=>h
theorem Le.trans{F F1 F2:OM}(a:Le F F1)(b:Le F1 F2):Le F F2:=fun c u h=>b c u (a c u h)
theorem W4{j l:Type}{R:j->l->Prop}(d:l):∀{as:List j} {bs:List l},Paired R as bs->∀i (h:i<as.length),R as[i] (bs.getD i d)
 | _,_,.nil,i,h=>absurd h (Nat.not_lt_zero _)
 | _,_,.cons r t,0,_=>r
 | _,_,.cons r t,i+1,h=>W4 d t i (Nat.lt_of_succ_lt_succ h)
theorem A6{j V:Type}{R:j->V->Prop}(d:V):∀{as:List j} {bs:List V},bs.length=as.length->(∀i (h:i<as.length),R as[i] (bs.getD i d))->Paired R as bs
 | [],[],_,_=>.nil
 | a::as,b::bs,l,h=>.cons (h 0 (Nat.zero_lt_succ _)) (A6 d (Nat.succ.inj l) fun i hi=>h (i+1) (Nat.succ_lt_succ hi))
theorem Fx{j l γ δ:Type}{R:j->l->Prop}{S:γ->δ->Prop}{f:j->γ}{k:l->δ}(h:∀a b,R a b->S (f a) (k b)):∀{as:List j} {bs:List l},Paired R as bs->Paired S (as.map f) (bs.map k)
 | _,_,.nil=>.nil
 | _,_,.cons r t=>.cons (h _ _ r) (Fx h t)
theorem E6{j l:Type}{R S:j->l->Prop}(h:∀a b,R a b->S a b):∀{as:List j} {bs:List l},Paired R as bs->Paired S as bs
 | _,_,.nil=>.nil
 | _,_,.cons r t=>.cons (h _ _ r) (E6 h t)
section
variable{j l:Type}{R:j->l->Prop}{as as':List j}{bs bs':List l}
theorem Ga:∀{as:List j} {bs:List l},Paired R as bs->Paired R as' bs'->Paired R (as++as') (bs++bs')
 | _,_,.nil,h=>h
 | _,_,.cons r t,h=>.cons r (Ga t h)
theorem Y1:∀{as:List j} {bs:List l} {i:Nat} {a:j},Paired R as bs->as[i]?=some a->∃b,bs[i]?=some b/\R a b
 | _,_,_,_,.nil,e=>by simp at e
 | _,_,0,_,.cons r t,e=>⟨_,rfl,by cases e;exact r⟩
 | _,_,i+1,_,.cons r t,e=>Y1 (i:=i) t e
theorem A5:∀{as:List j} {bs:List l} (n:Nat),Paired R as bs->Paired R (as.take n) (bs.take n)
 | _,_,0,_=>.nil
 | _,_,_+1,.nil=>.nil
 | _,_,n+1,.cons r t=>.cons r (A5 n t)
theorem A8:∀{as:List j} {bs:List l} (n:Nat),Paired R as bs->Paired R (as.drop n) (bs.drop n)
 | _,_,0,h=>h
 | _,_,_+1,.nil=>.nil
 | _,_,n+1,.cons r t=>A8 n t
theorem vc{a:j}{b:l}(h:R a b):∀{as:List j} {bs:List l} (n:Nat),Paired R as bs->Paired R (as.set n a) (bs.set n b)
 | _,_,_,.nil=>.nil
 | _,_,0,.cons r t=>.cons h t
 | _,_,n+1,.cons r t=>.cons r (vc h n t)
theorem Tw{a:j}(h:Paired R [a] bs):∃b,bs=[b]/\R a b:=by cases h with | cons r t=>cases t;exact⟨_,rfl,r⟩
theorem pr2{a a':j}(h:Paired R [a,a'] bs):∃b b',bs=[b,b']/\R a b/\R a' b':=by cases h with | cons r t=>obtain⟨b,rfl,q⟩:=Tw t;exact⟨_,b,rfl,r,q⟩
end
section
variable{g:Md}{F F' D D':OM}{a:Addr}{o:Obj}{v:Value}
theorem Top.mkT{ts:ZZ}{us:ZK}(h:D a=some o)(k:Tu o us)(r:Zr g F ts us):Top g F D (.tup ts) (.ref a):=.tup h k r.length.symm (W4 _ r)
theorem Top.mkL{ts:ZZ}{us:ZK}(h:D a=some o)(k:Wo o us)(r:Zr g F ts us):Top g F D (.lst ts) (.ref a):=.lst h k r.length.symm (W4 _ r)
theorem Top.unT{ts:ZZ}(h:Top g F D (.tup ts) v):∃a o us,v=.ref a/\D a=some o/\Tu o us/\Zr g F ts us:=by
 cases h with | tup h k l e=>exact⟨_,_,_,rfl,h,k,A6 _ l e⟩
theorem Top.unL{ts:ZZ}(h:Top g F D (.lst ts) v):∃a o us,v=.ref a/\D a=some o/\Wo o us/\Zr g F ts us:=by
 cases h with | lst h k l e=>exact⟨_,_,_,rfl,h,k,A6 _ l e⟩
theorem areK{XY:ZX}{vs:List (Key×Value)}:Z9 g F XY vs↔vs.map (·.1)=XY.map (·.1)/\Zr g F (XY.map (·.2)) (vs.map (·.2)):=by
 constructor
 .intro h;refine⟨?_,Fx (fun a b h=>h.2) h⟩
  induction h with
  | nil=>rfl
  | cons r t ih=>rw[S9,S9,ih,r.1]
 .rintro⟨h1,h2⟩
  induction XY generalizing vs with
  | nil=>cases vs with
   | nil=>exact .nil
   | cons _ _=>cases h1
  | cons p r ih=>cases vs with
   | nil=>cases h1
   | cons q s =>
    cases h2 with | cons h2 h3 =>
    obtain⟨e1,e2⟩:=List.cons.inj h1;exact .cons ⟨e1.symm,h2⟩ (ih e2 h3)
theorem Top.mkD{XY:ZX}{vs:List (Key×Value)}(h:D a=some o)(k:We g a o vs)(r:Z9 g F XY vs):Top g F D (.dct XY) (.ref a):=by
 obtain⟨h1,h2⟩:=areK.mp r;refine .dct h k h1 fun i hi=>?_;have:=W4 .none h2 i (by rw[Zu];exact hi);rw[List.getElem_map]at this;exact this
theorem Top.unD{XY:ZX}(h:Top g F D (.dct XY) v):∃a o vs,v=.ref a/\D a=some o/\We g a o vs/\Z9 g F XY vs:=by
 cases h with | dct h k l e =>
 refine⟨_,_,_,rfl,h,k,areK.mpr ⟨l,A6 .none (by have:=congrArg List.length l;simpa using this) fun i hi=>?_⟩⟩;rw[List.getElem_map];exact e i (by rw[Zu]at hi;exact hi)
theorem Ex.up{c:Str}{u:Value}(l:Le F F')(h:Ex g F o c u):Ex g F' o c u :=
 let ⟨d,od,m,h1,h2,r⟩:=h.dc
 ⟨h.cl,h.fs,d,od,m,h1,l _ _ h2,r⟩
theorem Top.up'(l:Le F F'){t:T}(h:Top g F D t v):(Le D D'->Top g F' D' t v)/\(D=F->IsT g F' t v):=by
 suffices q:∀D',Le D D'->Top g F' D' t v from⟨q D',fun e=>q F' (e ▸ l)⟩
 induction h with
 | non=>exact fun _ _=>.non
 | bl=>exact fun _ _=>.bl
 | int=>exact fun _ _=>.int
 | str=>exact fun _ _=>.str
 | fn h k=>exact fun _ _=>.fn h k
 | tup h k z _ ih=>exact fun D' d=>.tup (d _ _ h) k z fun i hi=>ih i hi F' l
 | lst h k z _ ih=>exact fun D' d=>.lst (d _ _ h) k z fun i hi=>ih i hi F' l
 | dct h k z _ ih=>exact fun D' d=>.dct (d _ _ h) k z fun i hi=>ih i hi F' l
 | exn h k _ ih=>exact fun D' d=>.exn (d _ _ h) (k.up l) (ih F' l)
theorem Top.up{t:T}(h:Top g F D t v)(l:Le F F')(d:Le D D'):Top g F' D' t v:=(h.up' (D':=D') l).1 d
theorem IsT.up{t:T}(h:IsT g F t v)(l:Le F F'):IsT g F' t v:=Top.up h l l
theorem Zr.up{ts:ZZ}{us:ZK}(h:Zr g F ts us)(l:Le F F'):Zr g F' ts us:=E6 (fun _ _ h=>IsT.up h l) h
theorem Z9.up{ts:ZX}{us:List (Key×Value)}(h:Z9 g F ts us)(l:Le F F'):Z9 g F' ts us:=E6 (fun _ _ h=>⟨h.1,IsT.up h.2 l⟩) h
theorem Top.at{t:T}(h:Top g F D t v)(hc:Wl t=true):∃a o,v=.ref a/\D a=some o:=by
 cases h with
 | lst h _ _ _=>exact⟨_,_,rfl,h⟩
 | dct h _ _ _=>exact⟨_,_,rfl,h⟩
 | _=>cases hc
theorem Top.to{t:T}{a:Addr}(h:Top g F D t (.ref a))(hc:Wl t=true)(e:∀o,D a=some o->D' a=some o):Top g F D' t (.ref a):=by
 cases h with
 | lst h k l r=>exact .lst (e _ h) k l r
 | dct h k l r=>exact .dct (e _ h) k l r
 | _=>cases hc
end
end PV
namespace L2
open PySem
noncomputable def ux(x:Str)(p0:Pos):Arguments:={ posonlyargs:=[],args:=[{ arg:=x,annotation:=none,pos:=p0:PySem.Arg }],vararg:=none,kwonlyargs:=[],kw_defaults:=[],kwarg:=none,defaults:=[]:PySem.Arguments }
noncomputable def uq(x:Str)(p1 p2 p3:Pos):Expr:=.Subscript (.Name x p1) (.Constant (.int 0) 0 p2) p3
noncomputable def uz(x:Str):Scope:={ kind:=.function,names:=[(x,.local)],isGenerator:=false,isCoroutine:=false,more:=[]:PySem.Scope }
end L2
namespace PV
open PySem L2
def ij(g:Md):Prop:=∃(f:Addr) (name qual:Str) (kV doc pm cdv ct oc:Value) (an od:ZR) (osl:ZY) (p0 p1 p2 p3 p4:Pos),g.K.lookup f=some ⟨oc,od,.func (W.fnOf name qual (ux "member" p0) [.Return (some (uq "member" p1 p2 p3)) p4] (uz "member") .none kV doc pm an cdv ct),osl⟩/\W.codeIn g.K cdv qual=true/\g.mg C9=some (.ref f)
end PV
namespace PV
open PySem PySem.Spec PyProof.Rows L2
structure Cx extends Md where
 A:Around
 N:ZG
 env:Env
 outer:List Env
 stack:List Env
 own:Bool
 calm:Bool
 os:OsState
 G:OM
 F0:OM
 σ0:List (ZF)
 pt:Nat->Bool
 xe:ZQ
noncomputable def K8(l:List Env):ZS:=l.filterMap (·.frame)
def Cx.mn(X:Cx)(a:Addr):Prop:=a=X.env.locals\/(X.own=true/\∃x,X.env.cells.lookup x=some a)
def Cx.kp(X:Cx)(a:Addr):Prop:=X.G a≠none\/X.mn a
def Kp(fs:ZS)(h:Heap)(a:Addr)(o:Obj):Prop:=∃sl,h.get? a=some { o with slots:=sl }/\(a ∉ fs->sl=o.slots)
def Look(env:Env)(h:Heap)(m:ZJ)(x:Str)(u:Value):Prop :=
 (env.kindOf x=some .local/\m x=some u)\/((env.kindOf x=some .cell\/env.kindOf x=some .free)/\∃c,env.cells.lookup x=some c/\h.IsCell c (some u))
structure Mod(g:Md):Prop where
 kin:g.K.In g.base
 glob:g.base.Ns mainGlobals g.mg
 blt:∃mb,g.base.Ns builtinsNs mb/\∀x:Str,x ≠ "__name__" -> mb x=bootBuiltins x
 nolimit:g.base.NoLimit
structure Cx.Ok(X:Cx):Prop where
 mod:Mod X.toMd
 kind:X.env.scope.kind=.function
 gl:X.env.globals=mainGlobals
 bl:X.env.builtins=builtinsNs
 ab:X.base.objs.size<=X.env.locals
 inj:∀x y c,X.env.cells.lookup x=some c->X.env.cells.lookup y=some c->x=y
 has:∀x,(X.env.kindOf x=some .cell\/X.env.kindOf x=some .free)->∃c,X.env.cells.lookup x=some c
 hd:X.calm=true->X.A.handled=none
 frames:X.A.frames=some X.stack
 stk:X.stack=X.outer\/(X.stack=X.env::X.outer/\X.env.frame=some X.env.locals)
 b:∀a o,X.base.get? a=some o->X.F0 a=some o
 fg:∀b∈K8 X.outer,X.G b≠none
 gm:∀a,X.mn a->X.G a=none
 cg:∀x c,X.env.cells.lookup x=some c->X.own=true\/X.G c≠none
abbrev Vs:=List (ZF)
structure Cz(X:Cx)(F:OM)(h:Heap)(a:Addr)(t:T):Prop where
 c:Wl t=true
 f:F a=none
 k:¬ X.kp a
 t:Top X.toMd F h.get? t (.ref a)
structure Rel(X:Cx)(F:OM)(p:P)(l:Vs)(h:Heap):Prop where
 fz:∀(i:Nat) (t:T),p[i]?=some (Sl.f t)->∃v,l[i]?=some (some v)/\IsT X.toMd F t v
 ow:∀(i:Nat) (t:T),p[i]?=some (Sl.o t)->∃a,l[i]?=some (some (.ref a))/\Cz X F h a t
 ap:∀(i j:Nat) (t u:T) (a:Addr),p[i]?=some (Sl.o t)->p[j]?=some (Sl.o u)->l[i]?=some (some (.ref a))->l[j]?=some (some (.ref a))->i=j
 ln:p.length=l.length
structure Inv(X:Cx)(F:OM)(p:P)(j:Vs)(s:Shared):Prop where
 ok:X.Ok
 os:s.os=X.os
 bare:AllBare s.gens
 le:Le X.F0 F
 f:∀a o,F a=some o->s.heap.get? a=some o/\¬ X.kp a
 g:∀a o,X.G a=some o->Kp (K8 X.outer) s.heap a o
 fr:s.heap.FunFrames X.base X.outer
 ns:∃m,s.heap.Ns X.env.locals m/\∀(i:Nat) (x:Str) (u:Value),X.N[i]?=some x->j[i]?=some (some u)->Look X.env s.heap m x u
 cell:∀x c,X.env.cells.lookup x=some c->∃v,s.heap.IsCell c v
 len:j.length=X.N.length
 r:Rel X F p j s.heap
 pr:∀i,X.pt i=true->j[i]?=X.σ0[i]?
def Res(X:Cx)(F:OM)(p:P)(j:Vs)(h:Heap)(r:Sl)(v:Value):Prop:=match r with
 | .f t=>IsT X.toMd F t v
 | .o t=>∃a,v=.ref a/\Cz X F h a t/\∀(i:Nat) (u:T),p[i]?=some (Sl.o u)->j[i]?≠some (some (.ref a))
 | .no=>False
theorem Uz{h h' base:Heap}:∀{l:List Env},(∀b∈K8 l,∀o,h.get? b=some o->∃sl,h'.get? b=some { o with slots:=sl })->h.FunFrames base l->h'.FunFrames base l
 | [],_,_=>trivial
 | env::r,k,hl=>by
  obtain⟨hk,⟨L,o,hf,hn,ho,hd⟩,hr⟩:=hl;have e:K8 (env::r)=L::K8 r:=by unfold K8;rw[List.filterMap_cons,hf]
  rw[e]at k;obtain⟨sl,e'⟩:=k L Yn o ho;exact⟨hk,⟨L,_,hf,hn,e',hd⟩,Uz (fun b hb=>k b (Vk _ hb)) hr⟩
section
variable{X:Cx}{F F':OM}{p p':P}{V σ':Vs}{s s':Shared}{h h':Heap}
theorem Cz.at{a:Addr}{t:T}(o:Cz X F h a t):∃x,h.get? a=some x:=by
 obtain⟨_,x,e,q⟩:=o.t.at o.c;cases e;exact⟨x,q⟩
theorem Cz.to{a:Addr}{t:T}(o:Cz X F h a t)(l:Le F F')(n:F' a=none)(k:∀x,h.get? a=some x->h'.get? a=some x):Cz X F' h' a t :=
 ⟨o.c,n,o.k,(o.t.to (D':=h'.get?) o.c k).up l fun _ _ e=>e⟩
theorem Rel.to(r:Rel X F p V h)(l:Le F F')(n:∀(i:Nat) (t:T) (a:Addr),p[i]?=some (Sl.o t)->V[i]?=some (some (.ref a))->F' a=none/\∀x,h.get? a=some x->h'.get? a=some x):Rel X F' p V h' :=
 ⟨fun i t e=>let ⟨v,h1,h2⟩:=r.fz i t e;⟨v,h1,h2.up l⟩,fun i t e=>let ⟨a,h1,h2⟩:=r.ow i t e;let ⟨n1,n2⟩:=n i t a e h1;⟨a,h1,h2.to l n1 n2⟩,r.ap,r.ln⟩
theorem Inv.stackSub(I:Inv X F p V s){b:Addr}(hb:b∈K8 X.stack):b=X.env.locals\/b∈K8 X.outer:=by
 rcases I.ok.stk with e | ⟨e,hf⟩
 .rw[e]at hb;exact .inr hb
 .rw[e]at hb;unfold K8 at hb;rw[List.filterMap_cons,hf]at hb;exact Vv.mp hb
theorem Inv.bk(I:Inv X F p V s):∀a o,X.base.get? a=some o->s.heap.get? a=some o:=fun a o e=>(I.f a o (I.le a o (I.ok.b a o e))).1
theorem Inv.kIn(I:Inv X F p V s):X.K.In s.heap:=I.ok.mod.kin.keeps I.bk
theorem Inv.lt(I:Inv X F p V s):X.env.locals<s.heap.objs.size:=let ⟨_,hn,_⟩:=I.ns;hn.lt
theorem Inv.kpAt(I:Inv X F p V s){a:Addr}(k:X.kp a):∃o,s.heap.get? a=some o:=by
 rcases k with k | rfl | ⟨_,x,e⟩
 .cases q:X.G a with
  | none=>exact absurd q k
  | some o=>obtain⟨sl,e,_⟩:=I.g a o q;exact⟨_,e⟩
 .obtain⟨m,⟨o,_,_,e,_⟩,_⟩:=I.ns;exact⟨o,e⟩
 .obtain⟨v,o,e,_⟩:=I.cell x a e;exact⟨o,e⟩
theorem Inv.cellKp(I:Inv X F p V s){x:Str}{c:Addr}(e:X.env.cells.lookup x=some c):X.kp c:=(I.ok.cg x c e).elim (fun h=>.inr (.inr ⟨h,x,e⟩)) .inl
theorem Inv.stack(I:Inv X F p V s):s.heap.FunFrames X.base X.stack:=by
 rcases I.ok.stk with e | ⟨e,hf⟩
 .rw[e];exact I.fr
 .rw[e];obtain⟨m,hn,_⟩:=I.ns;exact .cons (by rw[I.ok.kind];decide) hf hn (Heap.get?_none_of_le I.ok.ab) I.fr
theorem M7{c:Addr}{v:ZF}{fs:ZS}(k:∀o,h.get? c=some o->Kp fs h' c o)(z:h.IsCell c v):h'.IsCell c v:=by
 obtain⟨o,e,d⟩:=z;obtain⟨sl,e',_⟩:=k o e;exact⟨_,e',d⟩
theorem Inv.cne(I:Inv X F p V s){y:Str}{c:Addr}(e:X.env.cells.lookup y=some c):c≠X.env.locals:=fun z=>by
 obtain⟨v,o,ho,hd⟩:=I.cell y c e;obtain⟨m,⟨o',es,ep,ho',hd',_⟩,_⟩:=I.ns;rw[z,ho']at ho;cases ho;rw[hd']at hd;cases hd
theorem Inv.step(I:Inv X F p V s)(os:s'.os=s.os)(ba:AllBare s'.gens)(l:Le F F')(f:∀a o,F' a=some o->s'.heap.get? a=some o/\¬ X.kp a)(k:∀a o,X.kp a->a≠X.env.locals->s.heap.get? a=some o->Kp (K8 X.stack) s'.heap a o)(n:∀m,s.heap.Ns X.env.locals m->s'.heap.Ns X.env.locals m)(r:Rel X F' p' V s'.heap):Inv X F' p' V s':=by
 have gL:∀{a:Addr},X.G a≠none->a≠X.env.locals:=fun h z=>h (I.ok.gm _ (.inl z));refine⟨I.ok,os.trans I.os,ba,I.le.trans l,f,fun a o e=>?_,Uz (fun b hb o e=>?_) I.fr, ?_,fun x c e=>?_,I.len,r,I.pr⟩
 .obtain⟨sl,e1,n1⟩:=I.g a o e;have kp:X.G a≠none:=by rw[e];exact fun z=>nomatch z
  obtain⟨sl',e2,n2⟩:=k a _ (.inl kp) (gL kp) e1;exact⟨sl',e2,fun na=>(n2 fun z=>(I.stackSub z).elim (gL kp) na).trans (n1 na)⟩
 .obtain⟨sl,e2,_⟩:=k b o (.inl (I.ok.fg b hb)) (gL (I.ok.fg b hb)) e;exact⟨sl,e2⟩
 .obtain⟨m,hn,hl⟩:=I.ns;refine⟨m,n m hn,fun i x u e1 e3=>?_⟩;rcases hl i x u e1 e3 with z | ⟨z,c,e,w⟩
  .exact .inl z
  .exact .inr ⟨z,c,e,M7 (fun o=>k c o (I.cellKp e) (I.cne e)) w⟩
 .obtain⟨v,z⟩:=I.cell x c e;exact⟨v,M7 (fun o=>k c o (I.cellKp e) (I.cne e)) z⟩
theorem Kp.same{fs:ZS}{a:Addr}{o:Obj}(e:h.get? a=some o):Kp fs h a o:=⟨o.slots,e,fun _=>rfl⟩
theorem Cz.ne{a:Addr}{t:T}(o:Cz X F h a t):a≠X.env.locals:=fun z=>o.k (.inr (.inl z))
theorem Inv.more{t:Nat}(I:Inv X F p V s)(k:∀b o,b≠X.env.locals->s.heap.get? b=some o->h'.get? b=some o)(m:∀m,s.heap.Ns X.env.locals m->h'.Ns X.env.locals m)(l:Le F F')(n:∀a o,F' a=some o->F a=some o\/(s.heap.get? a=none/\h'.get? a=some o)):Inv X F' p V { s with heap:=h',toks:=t } :=
 I.step rfl I.bare l (fun a o e=>(n a o e).elim (fun e=>let ⟨h1,h2⟩:=I.f a o e;⟨k _ _ (fun z=>h2 (.inr (.inl z))) h1,h2⟩) fun⟨h1,h2⟩=>⟨h2,fun z=>let ⟨_,e⟩:=I.kpAt z;by rw[h1]at e;cases e⟩)
  (fun a o _ ne e=>.same (k a o ne e)) m (I.r.to l fun i t a e1 e2=>by
   obtain⟨b,h1,h2⟩:=I.r.ow i t e1;rw[e2]at h1;cases h1;refine⟨?_,fun x=>k a x h2.ne⟩;cases q:F' a with
   | none=>rfl
   | some o =>
    obtain⟨x,hx⟩:=h2.at;rcases n a o q with z | ⟨z,_⟩
    .rw[h2.f]at z;cases z
    .rw[z]at hx;cases hx)
theorem Inv.kept{t:Nat}(I:Inv X F p V s)(k:∀b o,s.heap.get? b=some o->h'.get? b=some o):Inv X F p V { s with heap:=h',toks:=t }:=I.more (fun b o _=>k b o) (fun _ hn=>hn.keeps k) (Le.refl F) fun _ _ e=>.inl e
theorem Inv.tok(I:Inv X F p V s)(t:Nat):Inv X F p V { s with toks:=t }:=I.kept (h':=s.heap) fun _ _ e=>e
theorem Inv.slots(I:Inv X F p V s)(r:Rel X F p' V s.heap):Inv X F p' V s:=⟨I.ok,I.os,I.bare,I.le,I.f,I.g,I.fr,I.ns,I.cell,I.len,r,I.pr⟩
theorem Yq{i j:Nat}{r u:Sl}(h:(p.set i r)[j]?=some u):(j=i/\u=r)\/(j≠i/\p[j]?=some u):=by
 by_cases e:i=j
 .subst e;rw[List.getElem?_set_self']at h;cases q:p[i]? with
  | none=>rw[q]at h;cases h
  | some x=>rw[q]at h;exact .inl ⟨rfl,(Ms h).symm⟩
 .rw[List.getElem?_set_ne e]at h;exact .inr ⟨fun z=>e z.symm,h⟩
theorem Rel.say(r:Rel X F p V h){i:Nat}{q:Sl}{v:Value}(hq:q=.no\/(V[i]?=some (some v)/\Res X F (p.set i .no) V h q v)):Rel X F (p.set i q) V h:=by
 have own:∀{j:Nat} {t:T},(p.set i q)[j]?=some (Sl.o t)->∃a,V[j]?=some (some (.ref a))/\Cz X F h a t/\((j=i/\∀(k:Nat) (u:T),(p.set i .no)[k]?=some (Sl.o u)->V[k]?≠some (some (.ref a)))\/(j≠i/\p[j]?=some (Sl.o t))):=fun {j t} e=>by
  rcases Yq e with ⟨z,y⟩ | ⟨n,e⟩
  .subst z y;rcases hq with z | ⟨e1,a,rfl,o,n⟩
   .cases z
   .exact⟨a,e1,o,.inl ⟨rfl,n⟩⟩
  .obtain⟨a,h1,h2⟩:=r.ow j t e;exact⟨a,h1,h2,.inr ⟨n,e⟩⟩
 have no:∀{k:Nat} {u:T},k≠i->p[k]?=some (Sl.o u)->(p.set i .no)[k]?=some (Sl.o u):=fun {k u} n e=>by rw[List.getElem?_set_ne (Ne.symm n)];exact e
 refine⟨fun j t e=>?_,fun j t e=>let ⟨a,h1,h2,_⟩:=own e;⟨a,h1,h2⟩,fun j k t u a e1 e2 h1 h2=>?_,by rw[XX];exact r.ln⟩
 .rcases Yq e with ⟨z,y⟩ | ⟨_,e⟩
  .subst z y;rcases hq with z | ⟨e1,e2⟩
   .cases z
   .exact⟨v,e1,e2⟩
  .exact r.fz j t e
 .obtain⟨b,g1,_,g2⟩:=own e1;obtain⟨c,k1,_,k2⟩:=own e2;rw[h1]at g1;cases g1;rw[h2]at k1;cases k1;rcases g2 with ⟨z,n⟩ | ⟨z,q1⟩<;>rcases k2 with ⟨y,m⟩ | ⟨y,q2⟩
  .exact z.trans y.symm
  .exact absurd h2 (n k u (no y q2))
  .exact absurd h1 (m j t (no z q1))
  .exact r.ap j k t u a q1 q2 h1 h2
theorem Inv.drop(I:Inv X F p V s)(i:Nat):Inv X F (p.set i .no) V s:=I.slots (I.r.say (v:=.none) (.inl rfl))
end
noncomputable def OM.put(F:OM)(a:Addr)(o:Obj):OM:=fun b=>if b=a then some o else F b
section
variable{F:OM}{a b:Addr}{o:Obj}
theorem Gu:F.put a o a=some o:=if_pos rfl
theorem Gh(n:b≠a):F.put a o b=F b:=if_neg n
theorem Le.put(h:F a=none):Le F (F.put a o):=fun b x e=>by rw[Gh fun z=>by rw[z,h]at e;cases e];exact e
variable{X:Cx}{p:P}{V:Vs}{s:Shared}{t:T}
theorem Inv.freeze(I:Inv X F p V s)(w:Cz X F s.heap a t)(n:∀(i:Nat) (u:T),p[i]?=some (Sl.o u)->V[i]?≠some (some (.ref a))):∃F',Le F F'/\Inv X F' p V s/\IsT X.toMd F' t (.ref a):=by
 obtain⟨o,e⟩:=w.at;have l:Le F (F.put a o):=.put w.f;refine⟨F.put a o,l,I.step rfl I.bare l (fun b x q=>?_) (fun _ _ _ _ e=>.same e) (fun _ hn=>hn) (I.r.to l fun i u b h1 h2=>⟨?_,fun _ e=>e⟩),(w.t.to (D':=F.put a o) w.c fun x q=>by rw[Gu];rw[e]at q;exact q).up l fun _ _ e=>e⟩
 .by_cases z:b=a
  .subst z;rw[Gu]at q;cases q;exact⟨e,w.k⟩
  .rw[Gh z]at q;exact I.f b x q
 .obtain⟨c,g1,g2⟩:=I.r.ow i u h1;rw[h2]at g1;cases g1;rw[Gh fun z=>n i u h1 (by rw[<-z];exact h2)];exact g2.f
theorem Inv.thaw{r:Sl}{v:Value}(I:Inv X F p V s)(e:PV.thaw r=some t)(h:Res X F p V s.heap r v):∃F',Le F F'/\Inv X F' p V s/\IsT X.toMd F' t v:=by
 cases r with
 | no=>cases e
 | f u=>cases e;exact⟨F,.refl F,I,h⟩
 | o u=>cases e;obtain⟨a,rfl,w,n⟩:=h;exact I.freeze w n
theorem Inv.readAt{i:Nat}{p':P}(I:Inv X F p V s)(e:PV.read p i=some (t,p')):∃F' v,Le F F'/\Inv X F' p' V s/\V[i]?=some (some v)/\IsT X.toMd F' t v:=by
 unfold PV.read at e
 split at e
 .rename_i q
  cases e;obtain⟨v,h1,h2⟩:=I.r.fz i _ q;exact⟨F,v,.refl F,I,h1,h2⟩
 .rename_i q
  cases e;obtain⟨a,h1,h2⟩:=I.r.ow i _ q
  obtain⟨F',l,I',h⟩:=(I.drop i).freeze h2 fun j u e1 e2=>by
   rcases Yq e1 with ⟨_,z⟩ | ⟨n,e1⟩
   .cases z
   .exact n (I.r.ap j i u t a e1 q e2 h1)
  have r:=I'.r.say (i:=i) (q:=.f t) (.inr ⟨h1,h⟩);rw[List.set_set]at r;exact⟨F',_,l,I'.slots r,h1,h⟩
 .cases e
end
abbrev WP(X:Cx){j:Type}(t:Sem j)(Q:j->Shared->Prop)(s:Shared):Prop:=wpAny (model X.prog X.w) X.A t Q X.xe s
def EP(X:Cx)(F:OM)(j:Vs)(Q:Sl->P->Prop)(v:Value)(s':Shared):Prop:=∃F' p' r,Le F F'/\Inv X F' p' j s'/\Res X F' p' j s'.heap r v/\Q r p'
def TP(X:Cx)(F:OM)(j:Vs)(Q:Bool->P->Prop)(b:Bool)(s':Shared):Prop:=∃F' p',Le F F'/\Inv X F' p' j s'/\Q b p'
section
variable{X:Cx}{F:OM}{p:P}{l:Vs}{s:Shared}
theorem var_ok{i:Nat}{x:Str}{v:Value}{pos:Pos}{R:ZQ}(I:Inv X F p l s)(hN:X.N[i]?=some x)(hv:l[i]?=some (some v))(hd:(x == ("__debug__" : Str))=false)(hc:(x == ("__classdict__" : Str))=false)(h:R v s):WP X (eval (.Name x pos) X.env) R s:=by
 obtain⟨m,hn,hl⟩:=I.ns;rcases hl i x v hN hv with ⟨hk,hm⟩ | ⟨hk,c,Fh,Oe⟩
 .exact wpAny_Name (wpAny_loadName_local I.ok.kind hk hn hm h) hd
 .rcases hk with hk | hk
  .exact wpAny_Name (wpAny_loadName_cell I.ok.kind hk Fh Oe h) hd
  .exact wpAny_Name (wpAny_loadName_free I.ok.kind hk Fh Oe h hc) hd
def Gl(X:Cx)(x:Str):Prop:=X.env.kindOf x=some .globalImplicit
theorem Jl{x:Str}{u:Value}{pos:Pos}{R:ZQ}(I:Inv X F p l s)(hg:Gl X x)(hm:X.mg x=some u)(hd:(x == ("__debug__" : Str))=false)(h:R u s):WP X (eval (.Name x pos) X.env) R s :=
 Calls.Name_function_global I.ok.kind hg (Calls.loadGlobal_global (by rw[I.ok.gl];exact I.ok.mod.glob.keeps I.bk) hm h) hd
theorem G5{x:Str}{u:Value}{pos:Pos}{R:ZQ}(I:Inv X F p l s)(hg:Gl X x)(hm:X.mg x=none)(hv:bootBuiltins x=some u)(hd:(x == ("__debug__" : Str))=false)(hn:x ≠ "__name__")(h:R u s):WP X (eval (.Name x pos) X.env) R s:=by
 obtain⟨mb,h1,h2⟩:=I.ok.mod.blt;exact Calls.Name_function_global I.ok.kind hg (Calls.loadGlobal_builtin (by rw[I.ok.gl];exact I.ok.mod.glob.keeps I.bk) hm (by rw[I.ok.bl];exact h1.keeps I.bk) ((h2 x hn).trans hv) h) hd
theorem M5{N:ZG}(hN:N.Nodup){i j:Nat}{x:Str}(a:N[i]?=some x)(b:N[j]?=some x):i=j:=by
 obtain⟨h1,e1⟩:=dw.mp a;obtain⟨h2,e2⟩:=dw.mp b;exact(List.getElem_inj hN).mp (e1.trans e2.symm)
theorem W1{M:Model}{A:Around}{E:ZQ}{i:Nat}{x:Str}{r:Sl}{u:Value}{Q:ZH}(I:Inv X F p l s)(hN:X.N.Nodup)(hi:X.N[i]?=some x)(hx:X.env.kindOf x=some .local\/(X.own=true/\X.env.kindOf x=some .cell))(hp:X.pt i=false)
  (hr:Res X F p l s.heap r u) (h:∀s' a,X.mn a->Heap.SameBut a s.heap s'.heap->Inv X F (p.set i r) (l.set i (some u)) s'->Q () s'):wpAny M A (storeName X.env x u) Q E s:=by
 obtain⟨m,hn,hl⟩:=id I.ns;have hcls:(X.env.scope.kind == .class || (X.env.scope.kind == .module && X.env.locals != X.env.globals))=false:=by rw[I.ok.kind];rfl
 have hiσ:i<l.length:=by rw[I.len];exact(dw.mp hi).1
 have get:∀{j:Nat} {v:ZF},(l.set i (some u))[j]?=some v->(j=i/\v=some u)\/(j≠i/\l[j]?=some v):=fun {j v} e=>by
  by_cases q:i=j
  .subst q;rw[List.getElem?_set_self hiσ]at e;cases e;exact .inl ⟨rfl,rfl⟩
  .rw[List.getElem?_set_ne q]at e;exact .inr ⟨fun z=>q z.symm,e⟩
 have go:∀{a:Addr} {h':Heap} {t:Nat},X.mn a->Heap.SameBut a s.heap h'->(∃m,h'.Ns X.env.locals m/\∀(j:Nat) (y:Str) (v:Value),X.N[j]?=some y->(l.set i (some u))[j]?=some (some v)->Look X.env h' m y v)->(∀y c,X.env.cells.lookup y=some c->∃v,h'.IsCell c v) ->
   Inv X F (p.set i r) (l.set i (some u)) { s with heap:=h',toks:=t }:=fun {a h' t} ma hs ns' cell'=>by
  have ne:∀{b:Addr},¬ X.kp b->b≠a:=fun n z=>n (z ▸ .inr ma);have ka:X.G a=none:=I.ok.gm a ma
  have rel:Rel X F p l h':=I.r.to (.refl F) fun j t b e1 e2=>by
   obtain⟨c,g1,g2⟩:=I.r.ow j t e1;rw[e2]at g1;cases g1;exact⟨g2.f,fun x e=>(hs.2 b (ne g2.k)).trans e⟩
  have res:Res X F p l h' r u:=by
   cases r with
   | no=>exact hr
   | f t=>exact hr
   | o t =>
    obtain⟨b,rfl,w,n⟩:=hr;exact⟨b,rfl,w.to (.refl F) w.f fun x e=>(hs.2 b (ne w.k)).trans e,n⟩
  refine⟨I.ok,I.os,I.bare,I.le,fun b o e=>?_,fun b o e=>?_,Uz (fun b hb o e=>?_) I.fr,ns',cell',by rw[XX];exact I.len, ?_,fun j hj=>?_⟩
  .obtain⟨h1,h2⟩:=I.f b o e;exact⟨(hs.2 b (ne h2)).trans h1,h2⟩
  .obtain⟨sl,e1,n1⟩:=I.g b o e;exact⟨sl,(hs.2 b fun z=>by rw[z,ka]at e;cases e).trans e1,n1⟩
  .exact⟨o.slots,(hs.2 b fun z=>I.ok.fg b hb (z ▸ ka)).trans e⟩
  .
   have own:∀{j:Nat} {t:T},(p.set i r)[j]?=some (Sl.o t)->∃b,(l.set i (some u))[j]?=some (some (.ref b))/\Cz X F h' b t/\((j=i/\∀(k:Nat) (t':T),p[k]?=some (Sl.o t')->l[k]?≠some (some (.ref b)))\/(j≠i/\p[j]?=some (Sl.o t)/\l[j]?=some (some (.ref b)))):=fun {j t} e=>by
    rcases Yq e with ⟨z,y⟩ | ⟨n,e⟩
    .subst z y;obtain⟨b,rfl,w,n⟩:=res;exact⟨b,List.getElem?_set_self hiσ,w,.inl ⟨rfl,n⟩⟩
    .obtain⟨b,h1,h2⟩:=rel.ow j t e;exact⟨b,by rw[List.getElem?_set_ne (Ne.symm n)];exact h1,h2,.inr ⟨n,e,h1⟩⟩
   refine⟨fun j t e=>?_,fun j t e=>let ⟨b,h1,h2,_⟩:=own e;⟨b,h1,h2⟩,fun j k t t' b e1 e2 h1 h2=>?_,by rw[XX,XX];exact rel.ln⟩
   .rcases Yq e with ⟨z,y⟩ | ⟨n,e⟩
    .subst z y;exact⟨u,List.getElem?_set_self hiσ,res⟩
    .obtain⟨v,g1,g2⟩:=rel.fz j t e;exact⟨v,by rw[List.getElem?_set_ne (Ne.symm n)];exact g1,g2⟩
   .obtain⟨c,g1,_,g2⟩:=own e1;obtain⟨d,k1,_,k2⟩:=own e2;rw[h1]at g1;cases g1;rw[h2]at k1;cases k1;rcases g2 with ⟨z,n⟩ | ⟨z,q1,q2⟩<;>rcases k2 with ⟨y,m⟩ | ⟨y,q3,q4⟩
    .exact z.trans y.symm
    .exact absurd q4 (n k t' q3)
    .exact absurd q2 (m j t q1)
    .exact rel.ap j k t t' b q1 q3 q2 q4
  .rw[List.getElem?_set_ne fun z=>by rw[z,hj]at hp;cases hp];exact I.pr j hj
 rcases hx with hk | ⟨ow,hk⟩
 .refine wpAny_storeName_local hk hn (fun h' hn' hs=>h _ _ (.inl rfl) hs (go (.inl rfl) hs ⟨_,hn',fun j y v e1 e2=>?_⟩ fun y c e=>?_)) hcls
  .rcases get e2 with ⟨z,w⟩ | ⟨n,e2⟩
   .subst z;cases w;rw[hi]at e1;cases e1;exact .inl ⟨hk,by simp⟩
   .rcases hl j y v e1 e2 with ⟨k,e⟩ | ⟨k,c,e,z⟩
    .have:y≠x:=fun e=>n (M5 hN e1 (e ▸ hi));exact .inl ⟨k,by simp[this,e]⟩
    .exact .inr ⟨k,c,e,z.sameBut hs (I.cne e)⟩
  .obtain⟨w,z⟩:=I.cell y c e;exact⟨w,z.sameBut hs (I.cne e)⟩
 .obtain⟨c,hc⟩:=I.ok.has x (.inl hk);obtain⟨w,z⟩:=I.cell x c hc;refine wpAny_storeName_cell I.ok.kind hk hc z (fun h' Fh hs=>h { s with heap:=h' } c (.inr ⟨ow,x,hc⟩) hs (go (t:=s.toks) (.inr ⟨ow,x,hc⟩) hs ⟨m,hn.sameBut hs (Ne.symm (I.cne hc)),fun j y v e1 e2=>?_⟩ fun y c' e=>?_))
  .rcases get e2 with ⟨z,w⟩ | ⟨n,e2⟩
   .subst z;cases w;rw[hi]at e1;cases e1;exact .inr ⟨.inl hk,c,hc,Fh⟩
   .rcases hl j y v e1 e2 with q | ⟨k,c',e,z'⟩
    .exact .inl q
    .refine .inr ⟨k,c',e,z'.sameBut hs ?_⟩;rintro rfl;exact n (M5 hN e1 (I.ok.inj _ _ _ e hc ▸ hi))
  .by_cases hcc:c'=c
   .subst hcc;exact⟨_,Fh⟩
   .obtain⟨w2,z2⟩:=I.cell y c' e;exact⟨w2,z2.sameBut hs hcc⟩
theorem Cb{M:Model}{A:Around}{E:ZQ}{i:Nat}{x:Str}{r:Sl}{u:Value}{Q:ZH}(I:Inv X F p l s)(hN:X.N.Nodup)(hi:X.N[i]?=some x)(hx:X.env.kindOf x=some .local\/(X.own=true/\X.env.kindOf x=some .cell))(hp:X.pt i=false)
  (hr:Res X F p l s.heap r u) (h:∀s',Inv X F (p.set i r) (l.set i (some u)) s'->Q () s'):wpAny M A (storeName X.env x u) Q E s:=W1 I hN hi hx hp hr fun s' _ _ _=>h s'
end
structure Got(g:Md)(F:OM)(L:Addr)(h h':Heap)(r:Sl)(v:Value):Prop where
 k:∀b o,b≠L->h.get? b=some o->h'.get? b=some o
 n:∀m,h.Ns L m->h'.Ns L m
 r:match r with
  | .f t=>∃F',Le F F'/\(∀a o,F' a=some o->F a=some o\/(h.get? a=none/\h'.get? a=some o))/\IsT g F' t v
  | .o t=>∃a,v=.ref a/\Wl t=true/\h.get? a=none/\Top g F h'.get? t (.ref a)
  | .no=>False
section
variable{g:Md}{F:OM}{L:Addr}{h h':Heap}{t:T}{v:Value}{ts:ZZ}{us:ZK}
theorem Got.kept(k:∀b o,h.get? b=some o->h'.get? b=some o)(q:IsT g F t v):Got g F L h h' (.f t) v:=⟨fun b o _=>k b o,fun _ hn=>hn.keeps k,F,.refl F,fun _ _ e=>.inl e,q⟩
theorem Got.sc(q:IsT g F t v):Got g F L h h (.f t) v:=.kept (fun _ _ e=>e) q
theorem Got.own{a:Addr}(k:∀b o,b≠L->h.get? b=some o->h'.get? b=some o)(n:∀m,h.Ns L m->h'.Ns L m)(c:Wl t=true)(h1:h.get? a=none)(q:Top g F h'.get? t (.ref a)):Got g F L h h' (.o t) (.ref a):=⟨k,n,a,rfl,c,h1,q⟩
theorem Got.lst(r:Zr g F ts us)(z:us.length<=sizeLine):Got g F L h (h.push { cls:=.type "list",data:=.seq us.toArray }) (.o (.lst ts)) (.ref h.objs.size) :=
 ⟨fun _ _ _ e=>Y4 _ e,fun _ hn=>hn.push _,_,rfl,rfl,Heap.get?_none_of_le (Gc _),.mkL (Gb h rfl) ⟨z,0,rfl⟩ r⟩
theorem Got.tupN{a:Addr}{o:Obj}(fF:∀a o,F a=some o->h.get? a=some o)(k:∀b o,h.get? b=some o->h'.get? b=some o)(h1:h.get? a=none)(h2:h'.get? a=some o)(q:Tu o us)(r:Zr g F ts us):Got g F L h h' (.f (.tup ts)) (.ref a) :=
 have n:F a=none:=by
  cases q:F a with
  | none=>rfl
  | some o=>rw[fF _ o q]at h1;cases h1
 ⟨fun b o _=>k b o,fun _ hn=>hn.keeps k,F.put a o,.put n,fun b x e=>by
  by_cases z:b=a
  .subst z;rw[Gu]at e;cases e;exact .inr ⟨h1,h2⟩
  .rw[Gh z]at e;exact .inl e,.mkT Gu q (r.up (.put n))⟩
theorem Got.tup(fF:∀a o,F a=some o->h.get? a=some o)(r:Zr g F ts us)(z:us.length<=sizeLine):Got g F L h (h.push { cls:=.type "tuple",data:=.seq us.toArray }) (.f (.tup ts)) (.ref h.objs.size) :=
 .tupN fF (fun _ _ e=>Y4 _ e) (Heap.get?_none_of_le (Gc _)) (Gb h rfl) ⟨rfl,rfl,⟨_,rfl⟩,z⟩ r
end
section
variable{X:Cx}{F:OM}{p:P}{V:Vs}{s:Shared}{h':Heap}{r:Sl}{v:Value}{Q:Sl->P->Prop}{tk:Nat}
theorem Inv.got(I:Inv X F p V s)(G:Got X.toMd F X.env.locals s.heap h' r v):∃F',Le F F'/\Inv X F' p V { s with heap:=h',toks:=tk }/\Res X F' p V h' r v:=by
 obtain⟨k,m,q⟩:=G;cases r with
 | no=>exact q.elim
 | f t =>
  obtain⟨F',l,n,i⟩:=q;exact⟨F',l,I.more k m l n,i⟩
 | o t =>
  obtain⟨a,rfl,c,n,i⟩:=q;refine⟨F,.refl F,I.more k m (.refl F) fun _ _ e=>.inl e,a,rfl,⟨c, ?_,fun z=>?_,i⟩,fun j u e e2=>?_⟩
  .cases q:F a with
   | none=>rfl
   | some o=>rw[(I.f a o q).1]at n;cases n
  .obtain⟨o,e⟩:=I.kpAt z;rw[e]at n;cases n
  .obtain⟨b,h1,h2⟩:=I.r.ow j u e;rw[e2]at h1;cases h1;obtain⟨x,hx⟩:=h2.at;rw[hx]at n;cases n
theorem Inv.ep(I:Inv X F p V s)(G:Got X.toMd F X.env.locals s.heap h' r v)(q:Q r p):EP X F V Q v { s with heap:=h',toks:=tk }:=let ⟨F',l,I',i⟩:=I.got G;⟨F',p,r,l,I',i,q⟩
theorem EP.le{F0:OM}{s':Shared}(l:Le F0 F)(h:EP X F V Q v s'):EP X F0 V Q v s':=let ⟨F',p',r,l',h⟩:=h;⟨F',p',r,l.trans l',h⟩
theorem TP.le{F0:OM}{s':Shared}{b:Bool}{Q:Bool->P->Prop}(l:Le F0 F)(h:TP X F V Q b s'):TP X F0 V Q b s':=let ⟨F',p',l',h⟩:=h;⟨F',p',l.trans l',h⟩
end
def SE(w:W)(e:E)(X:Cx)(x:Expr):Prop:=∀(F:OM) (p:P) (j:Vs) (s:Shared) (Q:Sl->P->Prop),Inv X F p j s->wE w e p Q->WP X (eval x X.env) (EP X F j Q) s
def ST(w:W)(e:E)(X:Cx)(x:Expr)(wh:Sem Value):Prop:=∀(F:OM) (p:P) (j:Vs) (s:Shared) (Q:Bool->P->Prop),Inv X F p j s->wE w e p (fun r q=>Fj r fun b=>Q b q)->WP X (isTrue x X.env wh) (TP X F j Q) s
def Ar(X:Cx)(F:OM)(j:Vs)(a:A)(v:Value):Prop:=match a with
 | .t t=>IsT X.toMd F t v
 | .s i=>j[i]?=some (some v)
theorem Ar.up{X:Cx}{F F':OM}{j:Vs}{a:A}{v:Value}(l:Le F F')(h:Ar X F j a v):Ar X F' j a v:=by
 cases a with
 | t t=>exact IsT.up h l
 | s i=>exact h
def um:E->Bool
 | .io _=>true
 | _=>false
def Vy:E->Bool
 | .cons a r=>!um a && Vy r
 | _=>true
def SH(w:W)(m:Bool)(a:E)(X:Cx)(x:Expr):Prop:=∀(F:OM) (p:P) (j:Vs) (s:Shared) (K:A->P->Prop),Inv X F p j s->wH m a p (wE w a p) K ->
 WP X (eval x X.env) (fun v s'=>∃F' p' b,Le F F'/\Inv X F' p' j s'/\Ar X F' j b v/\((m || um a)=false->∃t,b=.t t)/\K b p') s
def noStar:Expr->Bool
 | .Starred _ _=>false
 | _=>true
theorem Z2{e:Expr}{es:ZM}{env:Env}(h:noStar e=true):starEach (e::es) env=(false,eval e env)::starEach es env:=by
 cases e<;>first | rfl | cases h
inductive Hs(X:Cx)(w:W)(m:Bool):E->ZM->Prop
 | nil:Hs X w m .nil []
 | cons {a r:E} {x:Expr} {xs:ZM} (h:SH w m a X x) (s:noStar x=true) (t:Hs X w m r xs):Hs X w m (.cons a r) (x::xs)
def Tq(X:Cx):ZM->(ZK->Shared->Prop)->Shared->Prop
 | [],K,s=>K [] s
 | x::r,K,s=>WP X (eval x X.env) (fun v s1=>Tq X r (fun us=>K (v::us)) s1) s
section
variable{X:Cx}{w:W}{F:OM}{p:P}{V:Vs}{s:Shared}
def Vu(g:Md)(F:OM)(h:Heap)(t:T)(v:Value):Prop:=Top g F (bif Wl t then h.get? else F) t v
theorem Vu.of{g:Md}{F:OM}{h:Heap}{t:T}{v:Value}(fF:∀a o,F a=some o->h.get? a=some o)(i:IsT g F t v):Vu g F h t v:=by
 unfold Vu;cases Wl t with
 | true=>exact Top.up i (.refl F) fF
 | false=>exact i
theorem Inv.fh(I:Inv X F p V s):∀a o,F a=some o->s.heap.get? a=some o:=fun a o e=>(I.f a o e).1
theorem Inv.look{a:A}{t:T}{v:Value}(I:Inv X F p V s)(e:PV.look p a=some t)(h:Ar X F V a v):Vu X.toMd F s.heap t v:=by
 cases a with
 | t u=>cases e;exact .of I.fh h
 | s i =>
  unfold PV.look at e;dsimp only at e
  split at e
  .rename_i q
   cases e;obtain⟨v',h1,h2⟩:=I.r.fz i _ q;rw[show V[i]?=_ from h]at h1;cases h1;exact .of I.fh h2
  .rename_i q
   cases e;obtain⟨a,h1,h2⟩:=I.r.ow i _ q;rw[show V[i]?=_ from h]at h1;cases h1;unfold Vu;rw[h2.c];exact h2.t
  .cases e
theorem Inv.looks(I:Inv X F p V s):∀{as:List A} {us:ZK} {ts:ZZ},Paired (Ar X F V) as us->looks p as=some ts->Paired (Vu X.toMd F s.heap) ts us
 | _,_,_,.nil,e=>by cases e;exact .nil
 | _,_,_,.cons r t,e=>by
  obtain⟨u,e1,e⟩:=ZP.mp e;obtain⟨us,e2,rfl⟩:=Y3.mp e;exact .cons (I.look e1 r) (I.looks t e2)
theorem Ni:∀{as:List A} {us:ZK} {ts:ZZ},(∀a∈as,∃t,a=A.t t)->Paired (Ar X F V) as us->looks p as=some ts->Zr X.toMd F ts us
 | _,_,_,_,.nil,e=>by cases e;exact .nil
 | _,_,_,n,.cons r t,e=>by
  obtain⟨u,e1,e⟩:=ZP.mp e;obtain⟨us,e2,rfl⟩:=Y3.mp e;obtain⟨u',rfl⟩:=n _ Yn;cases e1;exact .cons r (Ni (fun a m=>n a (Vk _ m)) t e2)
theorem ay{m:Bool}:∀{es:E} {xs:ZM} {F:OM} {p:P} {s:Shared} {Q:List A->P->Prop} {K:ZK->Shared->Prop},Hs X w m es xs->Inv X F p V s->wR w m es p Q ->
  (∀F' p' as us s',Le F F'->Inv X F' p' V s'->Paired (Ar X F' V) as us->(m=false->Vy es=true->∀a∈as,∃t,a=A.t t)->Q as p'->K us s')->Tq X xs K s
 | _,_,F,p,s,Q,K,.nil,I,h,k=>k F p [] [] s (.refl F) I .nil (fun _ _ a m=>absurd m Tz) (by cases m<;>exact h)
 | .cons a r,_,F,p,s,Q,K,.cons h1 _ t,I,h,k=>by
  have h:wH m a p (wE w a p) fun a1 p1=>wR w m r p1 fun as p2=>Q (a1::as) p2:=by cases m<;>exact h
  refine Yr (h1 F p V s _ I h) fun v s1 ⟨F1,p1,b,l1,I1,r1,n1,q1⟩=>?_;refine ay t I1 q1 fun F2 p2 as us s2 l2 I2 r2 n2 q2=>k F2 p2 (b::as) (v::us) s2 (l1.trans l2) I2 (.cons (r1.up l2) r2) (fun em en c mc=>?_) q2;have en:(!um a && Vy r)=true:=en;rw[Vp]at en;rcases Vv.mp mc with rfl | mc
  .exact n1 (by rw[em];simpa using en.1)
  .exact n2 em en.2 c mc
theorem Hs.star{m:Bool}:∀{es:E} {xs:ZM},Hs X w m es xs->∀x∈xs,noStar x=true
 | _,_,.nil,x,h=>absurd h Tz
 | _,_,.cons h s t,x,hx=>by
  rcases Vv.mp hx with rfl | hx
  .exact s
  .exact t.star x hx
theorem Yg{pos:Pos}:∀{xs:ZM} {K:ZK->Shared->Prop} {s:Shared},(∀x∈xs,noStar x=true)->Tq X xs K s->WP X (spliced (backTo pos (starEach xs X.env))) K s
 | [],_,_,_,h=>Calls.spliced_nil h
 | x::xs,K,s,n,h=>by
  rw[Z2 (n x Yn)];show WP X (spliced ((false,eval x X.env)::backTo pos (starEach xs X.env))) _ s;exact Calls.spliced_cons (Yr h fun v s1 h1=>Yg (fun y m=>n y (Vk _ m)) h1)
theorem Y5:∀(es:ZM) (env:Env) (pos:Pos),(∀e∈es,noStar e=true)->(backTo pos (starEach es env)).any (·.1)=false
 | [],env,pos,h=>rfl
 | e::es,env,pos,h=>by
  rw[Z2 (h e Yn)];have:=Y5 es env pos fun e m=>h e (Vk _ m);show (false || (backTo pos (starEach es env)).any (·.1))=false;rw[this];rfl
structure Nm(X:Cx)(i:Nat)(y:Str):Prop where
 n:X.N[i]?=some y
 d:(y == ("__debug__" : Str))=false
 c:(y == ("__classdict__" : Str))=false
theorem B4{i:Nat}{y:Str}{pos:Pos}{v:Value}{R:ZQ}(n:Nm X i y)(I:Inv X F p V s)(e:V[i]?=some (some v))(h:R v s):WP X (eval (.Name y pos) X.env) R s:=var_ok I n.n e n.d n.c h
theorem Inv.val{i:Nat}(I:Inv X F p V s)(h:done p i=true):∃v,V[i]?=some (some v):=by
 unfold done at h
 split at h
 .rename_i e;obtain⟨v,h,_⟩:=I.r.fz i _ e;exact⟨v,h⟩
 .rename_i e;obtain⟨a,h,_⟩:=I.r.ow i _ e;exact⟨_,h⟩
 .cases h
theorem wu{i:Nat}{y:Str}{pos:Pos}{m:Bool}(n:Nm X i y):SH w true (.v i) X (.Name y pos)/\SH w m (.io i) X (.Name y pos):=by
 refine⟨fun F p V s K I h=>?_,fun F p V s K I h=>?_⟩
 .have h:if true=true then (if done p i=true then K (.s i) p else False) else on (read p i) fun q=>K (.t q.1) q.2:=h
  rw[if_pos rfl]at h
  split at h
  .rename_i d
   obtain⟨v,e⟩:=I.val d;exact B4 n I e ⟨F,p,.s i,.refl F,I,e,(fun z=>nomatch z),h⟩
  .exact h.elim
 .have h:if done p i=true then K (.s i) p else False:=h
  split at h
  .rename_i d
   obtain⟨v,e⟩:=I.val d;exact B4 n I e ⟨F,p,.s i,.refl F,I,e,(fun z=>by rw[show um (.io i)=true from rfl,Bool.or_true]at z;cases z),h⟩
  .exact h.elim
theorem EP.t{v:Value}{s':Shared}{K:T->P->Prop}(h:EP X F V (fun r q=>Mu r fun t=>K t q) v s'):∃F' p' t,Le F F'/\Inv X F' p' V s'/\IsT X.toMd F' t v/\K t p':=by
 obtain⟨F1,p1,r,l1,I1,rs,q⟩:=h;cases r with
 | no=>exact q.elim
 | f t=>exact⟨F1,p1,t,l1,I1,rs,q⟩
 | o t=>obtain⟨F2,l2,I2,i⟩:=I1.thaw rfl rs;exact⟨F2,p1,t,l1.trans l2,I2,i,q⟩
theorem wo{a:E}{x:Expr}{m:Bool}(h:SE w a X x)(e:∀p K,wH m a p (wE w a p) K->wE w a p fun r q=>Mu r fun t=>K (.t t) q):SH w m a X x:=fun F p V s K I hw =>
 Yr (h F p V s _ I (e p K hw)) fun v s1 q=>let ⟨F1,p1,t,l,I1,i,k⟩:=q.t;⟨F1,p1,.t t,l,I1,i,fun _=>⟨t,rfl⟩,k⟩
theorem sh_v{i:Nat}{x:Expr}(h:SE w (.v i) X x):SH w false (.v i) X x:=wo h fun p K hw=>by
 have hw:on (read p i) fun q=>K (.t q.1) q.2:=hw;obtain⟨q,e,hw⟩:=Za hw;exact Zm e hw
theorem sh_of{a:E}{x:Expr}{m:Bool}(h1:∀i,a≠.io i)(h2:∀i,a≠.v i)(h:SE w a X x):SH w m a X x:=wo h fun p K hw=>by
 cases a<;>first | exact hw | exact absurd rfl (h1 _) | exact absurd rfl (h2 _)
theorem se_v{i:Nat}{y:Str}{pos:Pos}(n:Nm X i y):SE w (.v i) X (.Name y pos):=fun F p V s Q I h=>by
 obtain⟨⟨t,p'⟩,e,h⟩:=Za (show on (read p i) fun q=>Q (.f q.1) q.2 from h);obtain⟨F',v,l,I',e1,i1⟩:=I.readAt e;exact B4 n I e1 ⟨F',p',.f t,l,I',i1,h⟩
theorem se_mv{i:Nat}{y:Str}{pos:Pos}(n:Nm X i y):SE w (.mv i) X (.Name y pos):=fun F p V s Q I h=>by
 unfold wE at h
 split at h
 .rename_i t e
  obtain⟨a,h1,h2⟩:=I.r.ow i t e;refine B4 n I h1 ⟨F,_,.o t,.refl F,I.drop i,⟨a,rfl,h2,fun j u e1 e2=>?_⟩,h⟩;rcases Yq e1 with ⟨_,z⟩ | ⟨ne,e1⟩
  .cases z
  .exact ne (I.r.ap j i u t a e1 e e2 h1)
 .rename_i t e
  obtain⟨v,h1,h2⟩:=I.r.fz i t e;exact B4 n I h1 ⟨F,p,.f t,.refl F,I,h2,h⟩
 .exact h.elim
theorem se_k{t:T}{k:Const}{j:Nat}{pos:Pos}(h:(t=.non/\k=.none)\/(∃b,t=.bl b/\k=.bool b)\/(∃i,t=.int i/\k=.int i)\/∃x,t=.str x/\k=.str x):SE w (.k t) X (.Constant k j pos):=fun F p V s Q I q=>by
 have q:Q (.f t) p:=q;rcases h with ⟨rfl,rfl⟩ | ⟨b,rfl,rfl⟩ | ⟨i,rfl,rfl⟩ | ⟨x,rfl,rfl⟩
 .exact Constant_none ⟨F,p,.f _,.refl F,I,Top.non,q⟩
 .exact Constant_bool ⟨F,p,.f _,.refl F,I,Top.bl,q⟩
 .exact wpAny_Constant_int ⟨F,p,.f _,.refl F,I.tok _,Top.int,q⟩
 .exact Calls.Constant_str ⟨F,p,.f _,.refl F,I.tok _,Top.str,q⟩
variable{a b c:E}{x y z:Expr}{r:ZM}{pos:Pos}
theorem onB_is{q:Sl}{Q:Bool->Prop}(h:Fj q Q):∃b,q=.f (.bl b)/\Q b:=by
 unfold Fj at h
 split at h
 .exact⟨_,rfl,h⟩
 .exact h.elim
theorem EP.bo{v:Value}{s':Shared}{K:Bool->P->Prop}(h:EP X F V (fun r q=>Fj r fun t=>K t q) v s'):∃F' p' b,Le F F'/\Inv X F' p' V s'/\v=.bool b/\K b p':=by
 obtain⟨F1,p1,r,l1,I1,rs,q⟩:=h;obtain⟨b,rfl,q⟩:=onB_is q;cases(show IsT X.toMd F1 (.bl b) v from rs);exact⟨F1,p1,b,l1,I1,rfl,q⟩
theorem se_and(ha:SE w a X x)(hb:SE w b X (.BoolOp .And (y::r) pos)):SE w (.and a b) X (.BoolOp .And (x::y::r) pos):=fun F p V s Q I h=>by
 refine BoolOp_and (Yr (ha F p V s _ I h) fun v s1 q=>?_);obtain⟨F1,p1,c,l,I1,rfl,k⟩:=q.bo;refine wpAny_truthy_bool ?_;cases c with
 | true=>exact Yr (hb F1 p1 V s1 Q I1 k) fun v s2 q=>q.le l
 | false=>exact⟨F1,p1,.f _,l,I1,Top.bl,k⟩
theorem se_or(ha:SE w a X x)(hb:SE w b X (.BoolOp .Or (y::r) pos)):SE w (.or a b) X (.BoolOp .Or (x::y::r) pos):=fun F p V s Q I h=>by
 refine BoolOp_or (Yr (ha F p V s _ I h) fun v s1 q=>?_);obtain⟨F1,p1,c,l,I1,rfl,k⟩:=q.bo;refine wpAny_truthy_bool ?_;cases c with
 | false=>exact Yr (hb F1 p1 V s1 Q I1 k) fun v s2 q=>q.le l
 | true=>exact⟨F1,p1,.f _,l,I1,Top.bl,k⟩
theorem w5{op:BoolOp}(h:SE w a X x):SE w a X (.BoolOp op [x] pos):=fun F p V s Q I hw=>BoolOp_one (h F p V s Q I hw)
theorem se_not(ha:SE w a X x):SE w (.not a) X (.UnaryOp .Not x pos):=fun F p V s Q I h=>by
 refine UnaryOp_ (Yr (ha F p V s _ I h) fun v s1 q=>?_);obtain⟨F1,p1,c,l,I1,rfl,k⟩:=q.bo;exact not_of (wpAny_truthy_bool ⟨F1,p1,.f _,l,I1,Top.bl,k⟩)
theorem se_ite(hc:ST w c X z (eval z X.env))(ha:SE w a X x)(hb:SE w b X y):SE w (.ite c a b) X (.IfExp z x y pos):=fun F p V s Q I h=>by
 refine wpAny_IfExp (Yr (hc F p V s _ I h) fun d s1 ⟨F1,p1,l,I1,k⟩=>?_);cases d with
 | true=>exact Yr (ha F1 p1 V s1 Q I1 k) fun v s2 q=>q.le l
 | false=>exact Yr (hb F1 p1 V s1 Q I1 k) fun v s2 q=>q.le l
theorem wx(h:SE w a X x)(he:∀whole,isTrue x X.env whole=(do let v <-whole;standAt x.pos;holding [v] (truthy v))):ST w a X x (eval x X.env):=fun F p V s Q I hw=>by
 refine isTrue_plain (Yr (h F p V s _ I hw) fun v s1 q=>?_) (he _);obtain⟨F1,p1,c,l,I1,rfl,k⟩:=q.bo;exact wpAny_truthy_bool ⟨F1,p1,l,I1,k⟩
theorem cx{wh wh':Sem Value}(ha:ST w a X x wh)(e:wh=eval x X.env):ST w a X (.BoolOp .And [x] pos) wh':=fun F p V s Q I h=>by
 subst e;refine isTrue_and (Yr (ha F p V s Q I h) fun c s1 e=>?_);cases c with
 | true=>exact isTrue_and_nil e
 | false=>exact e
theorem st_or1{wh wh':Sem Value}(ha:ST w a X x wh)(e:wh=eval x X.env):ST w a X (.BoolOp .Or [x] pos) wh':=fun F p V s Q I h=>by
 subst e;refine isTrue_or (Yr (ha F p V s Q I h) fun c s1 e=>?_);cases c with
 | false=>exact isTrue_or_nil e
 | true=>exact e
theorem st_and{wh:Sem Value}(ha:ST w a X x (eval x X.env))(hb:∀wh,ST w b X (.BoolOp .And (y::r) pos) wh):ST w (.and a b) X (.BoolOp .And (x::y::r) pos) wh:=fun F p V s Q I h=>by
 refine isTrue_and (Yr (ha F p V s _ I h) fun c s1 ⟨F1,p1,l,I1,k⟩=>?_);cases c with
 | true=>exact Yr (hb wh F1 p1 V s1 Q I1 k) fun v s2 q=>q.le l
 | false=>exact⟨F1,p1,l,I1,k⟩
theorem st_or{wh:Sem Value}(ha:ST w a X x (eval x X.env))(hb:∀wh,ST w b X (.BoolOp .Or (y::r) pos) wh):ST w (.or a b) X (.BoolOp .Or (x::y::r) pos) wh:=fun F p V s Q I h=>by
 refine isTrue_or (Yr (ha F p V s _ I h) fun c s1 ⟨F1,p1,l,I1,k⟩=>?_);cases c with
 | true=>exact⟨F1,p1,l,I1,k⟩
 | false=>exact Yr (hb wh F1 p1 V s1 Q I1 k) fun v s2 q=>q.le l
theorem st_not{wh:Sem Value}(ha:ST w a X x (eval x X.env)):ST w (.not a) X (.UnaryOp .Not x pos) wh:=fun F p V s Q I h=>isTrue_not (Yr (ha F p V s (fun c q=>Q (!c) q) I h) fun c s1 e=>e)
variable{es:E}{xs:ZM}
theorem se_tup{j:Nat}(hs:Hs X w false es xs)(n:Vy es=true):SE w (.tup es) X (.Tuple xs j pos):=fun F p V s Q I h=>by
 refine wpAny_Tuple_spliced (Yg hs.star (ay hs I h fun F1 p1 as us s1 l I1 ar nt q=>?_));obtain⟨ts,e,q⟩:=Za q;have r:=Ni (nt rfl n) ar e
 split at q
 .rename_i z
  have z:us.length<=sizeLine:=by rw[<-r.length];exact z
  exact⟨z,(I1.ep (tk:=s1.toks) (.tup I1.fh r z) q).le l⟩
 .exact q.elim
theorem se_lst(hs:Hs X w false es xs)(n:Vy es=true):SE w (.lst es) X (.List xs pos):=fun F p V s Q I h=>by
 refine wpAny_List_spliced (Yg hs.star (ay hs I h fun F1 p1 as us s1 l I1 ar nt q=>?_));obtain⟨ts,e,q⟩:=Za q;have r:=Ni (nt rfl n) ar e
 split at q
 .rename_i z
  have z:us.length<=sizeLine:=by rw[<-r.length];exact z
  exact⟨z,(I1.ep (tk:=s1.toks) (.lst r z) q).le l⟩
 .exact q.elim
theorem W3{q:Pr}{Q:Sl->P->Prop}{K:ZK->Shared->Prop}(hs:Hs X w true es xs)(I:Inv X F p V s)(h:wE w (.pr q es) p Q)(k:∀F' p' ts us s' r,Le F F'->Inv X F' p' V s'->Paired (Vu X.toMd F' s'.heap) ts us->W5 q ts=some r->Q r p'->K us s'):Tq X xs K s :=
 ay hs I h fun F1 p1 as us s1 l I1 ar _ q=>by
  obtain⟨ts,e,q⟩:=Za q;obtain⟨r,e2,q⟩:=Za q;exact k F1 p1 ts us s1 r l I1 (I1.looks ar e) e2 q
end
noncomputable def opOf:Op->Operator
 | .add=>.Add
 | .sub=>.Sub
 | .mul=>.Mult
 | .fdiv=>.FloorDiv
 | .mod=>.Mod
 | .pow=>.Pow
noncomputable def Rd:Cm->CmpOp
 | .eq=>.Eq
 | .ne=>.NotEq
 | .lt=>.Lt
 | .le=>.LtE
 | .gt=>.Gt
 | .ge=>.GtE
 | .isin=>.In
 | .notin=>.NotIn
 | .is=>.Is
 | .isnt=>.IsNot
section
variable{g:Md}{F:OM}{D:OM}{A:Around}{R:ZQ}{E:ZQ}{s:Shared}{h:Heap}{t t':T}{u v:Value}{r:Sl}{a L:Addr}{o:Obj}{us:ZK}
theorem Tu.is{us:ZK}(k:Tu o us)(e:h.get? a=some o):IsTup h a us.toArray:=⟨o,e,k.c,k.s⟩
theorem Wo.at{us:ZK}(k:Wo o us)(e:h.get? a=some o):∃n,h.get? a=some { cls:=.type "list",data:=.seq us.toArray n }:=let ⟨_,n,q⟩:=k;⟨n,q ▸ e⟩
theorem Wo.is{us:ZK}(k:Wo o us)(e:h.get? a=some o):h.IsList a us.toArray:=by
 obtain⟨n,q⟩:=k.at e;exact⟨_,q,rfl,⟨n,rfl⟩⟩
theorem We.is{vs:List (Key×Value)}(k:We g a o vs)(e:h.get? a=some o):h.DictOf (Zk g.prog g.w) a vs:=let ⟨es,ep,d,c,q⟩:=k.es;⟨o,es,ep,e,k.ex,d,c,q,k.nd⟩
abbrev Ok(g:Md)(F:OM)(L:Addr)(s:Shared)(r:Sl)(R:ZQ):Prop:=∀h' v t,Got g F L s.heap h' r v->R v { s with heap:=h',toks:=t }
theorem V4(fF:∀a o,F a=some o->s.heap.get? a=some o){ts:ZZ}(h:IsT g F (.tup ts) v):∃a us,v=.ref a/\us.length<=sizeLine/\IsTup s.heap a us.toArray/\Zr g F ts us :=
 let ⟨a,o,us,e,h1,k,r⟩:=h.unT
 ⟨a,us,e,k.z,k.is (fF a o h1),r⟩
theorem Jc{ts:ZZ}(h:Vu g F s.heap (.lst ts) v):∃a us n,v=.ref a/\us.length<=sizeLine/\s.heap.get? a=some { cls:=.type "list",data:=.seq us.toArray n }/\Zr g F ts us :=
 let ⟨a,o,us,e,h1,k,r⟩:=Top.unL h
 let ⟨n,q⟩:=k.at h1
 ⟨a,us,n,e,k.1,q,r⟩
theorem Br{XY:ZX}(h:Vu g F s.heap (.dct XY) v):∃a vs,v=.ref a/\vs.length<=sizeLine/\(a == sysModules)=false/\s.heap.DictOf (Zk g.prog g.w) a vs/\Z9 g F XY vs :=
 let ⟨a,o,vs,e,h1,k,r⟩:=Top.unD h
 ⟨a,vs,e,k.z,k.ns,k.is h1,r⟩
theorem A7{j l:Type}{R:j->l->Prop}{as:List j}{bs:List l}(h:Paired R as bs):∀n:Nat,Paired R (List.replicate n as).flatten (List.replicate n bs).flatten
 | 0=>.nil
 | n+1=>by
  rw[List.replicate_succ,List.replicate_succ,List.flatten_cons,List.flatten_cons];exact Ga h (A7 h n)
theorem yd{i:Str}{n:Int}{w w':Tok}(n0:0<=n)(n1:n<=1000)(i1:i.length<=1000)(q:∀t k,R (.str (repS i n.toNat) t) { s with toks:=k }):wpAny (model g.prog g.w) A (binaryOp .Mult (.str i w) (.int n w')) R E s:=by
 have hm:i.length * n.toNat<=1000000:=Jy (Nat.mul_le_mul i1 (show n.toNat<=1000 by omega)) (by decide);by_cases c1:n<1
 .have:n=0:=by omega
  subst this;exact PySem.P.mul_str_none (by decide) (by decide) (q _ _)
 by_cases c2:(n == 1 || i.length == 0)=true
 .have e:repS i n.toNat=i:=by
   rw[Bool.or_eq_true,beq_iff_eq,beq_iff_eq]at c2
   have:(repS i n.toNat).cps.toList=i.cps.toList:=by
    rw[Ce];rcases c2 with rfl | c2
    .simp
    .have:i.cps.toList=[]:=List.eq_nil_of_length_eq_zero (by have:i.cps.size=0:=c2;simpa using this);rw[this];simp
   cases i;cases hr:repS _ n.toNat;rw[hr]at this;simp at this;simp[this]
  rw[e]at q;refine PySem.P.mul_str ?_ (fun _ z=>?_) (fun _ z=>?_) ?_
  .rw[Bool.or_eq_false_iff];exact⟨Cw (by omega),Cw (by omega)⟩
  .rw[c2]at z;cases z
  .rw[c2]at z;cases z
  .rw[if_neg c1,if_pos c2];exact q _ s.toks
 .have c2':=c2;rw[Bool.or_eq_true,beq_iff_eq,beq_iff_eq]at c2';refine PySem.P.mul_str ?_ (fun _ _=>?_) (fun _ _=>?_) ?_
  .rw[Bool.or_eq_false_iff];exact⟨Cw (by omega),Cw (by omega)⟩
  .intro z;have h2:=(Int.le_ediv_iff_mul_le (show (0:Int)<n by omega)).mpr (show (1000:Int) * n<=2 ^ 63 - 1 by omega);omega
  .exact Cw (Nat.not_lt_of_le (Jy hm (by decide)))
  .rw[if_neg c1,if_neg c2];exact⟨by show (repS i n.toNat).length<=_;rw[vg,Nat.mul_comm];exact Jy hm (by decide),q _ _⟩
theorem pz{l:Addr}{k:Int}{w:Tok}{n:Nat}(e:s.heap.get? l=some { cls:=.type "list",data:=.seq us.toArray n })(h1:-(2 ^ 63)<=k)(h2:k<2 ^ 63)(hz:us.length * k.toNat<=sizeLine)
  (q:R (.ref s.heap.objs.size) { s with heap:=s.heap.push { cls:=.type "list",data:=.seq (List.replicate k.toNat us).flatten.toArray } }):wpAny (model g.prog g.w) A (binaryOp .Mult (.ref l) (.int k w)) R E s:=by
 have hlen:us.toArray.size * k.toNat<=sizeLine:=by rw[Jv];exact hz
 have hcap:¬ us.toArray.size * k.toNat>(2 ^ 63 - 1) / 8:=by
  have:(sizeLine:Nat)<=(2 ^ 63 - 1) / 8:=by decide
  omega
 have Wg:¬ (!Builtin.List.listFitsIndex k)=true:=by
  rw[fitsIndex_both h1 h2];exact Q6
 have hlong:¬ Builtin.List.listTooLong (us.toArray.size * k.toNat)=true:=by
  rw[yw hlen];exact Q6
 have hnew:List.foldl (fun x1 x2=>x1++x2) #[] (List.replicate (if us.toArray.isEmpty=true then 0 else k.toNat) us.toArray)=(List.replicate k.toNat us).flatten.toArray:=by
  have f0:∀m:Nat,List.foldl (fun x1 x2=>x1++x2) #[] (List.replicate m us.toArray)=(List.replicate m us).flatten.toArray:=fun m=>by
   have:=foldl_rep us m [];rw[List.nil_append]at this;exact this
  rw[f0];cases us with
  | nil=>simp
  | cons a r'=>rw[if_neg (by simp)]
 refine wpAny_binaryOp_repeat_ref (T:="list") (U:="int") (by decide) ⟨_,e,rfl⟩ (fun s'=>typeIs_int s' k w) noFill_list_mul F.fills_int_mul F.slot_int_rmul repeat_list F.slot_int_index.lookup
  (call_meets F.slot_int_rmul (typeIs_int s k w) F.entry_int_rmul (F.args_int_rmul_2 _ _) (int___rmul___int_list k w l us.toArray n)
   ⟨e,rfl,⟨_,e,rfl⟩,call_meets F.slot_list_mul ⟨_,e,rfl⟩ F.entry_list_mul (F.args_list_mul_2 _ _) (AutoListH.list___mul___list_int_3 l us.toArray n k w Wg hcap hlong) ⟨e, ?_⟩⟩)
 rw[hnew];exact q
theorem T7{f:Int->Int->Option Sl}(h:y9 f t t'=some r):∃a b,t=.int a/\t'=.int b/\f a b=some r:=by
 cases t<;>first | cases h | skip
 cases t'<;>first | cases h | skip
 exact⟨_,_,rfl,rfl,h⟩
theorem op_run(o:Op)(fF:∀a o,F a=some o->s.heap.get? a=some o)(s1:Vu g F s.heap t u)(s2:Vu g F s.heap t' v)(e:dn o t t'=some r)(k:Ok g F L s r R):wpAny (model g.prog g.w) A (binaryOp (opOf o) u v) R E s:=by
 have fi:∀{i tk},r=.f (.int i)->R (.int i s.toks) { s with toks:=tk }:=fun {i tk} q=>k s.heap _ tk (by rw[q];exact .sc .int);cases o with
 | add =>
  have e:addT t t'=some r:=e;cases t with
  | int a=>cases t'<;>cases e;cases s1;cases s2;exact add_int (fi rfl)
  | bl a=>cases t'<;>cases e;cases s1;cases s2;exact IntBool.add_bool_int (fi rfl)
  | str a =>
   cases t'<;>first | cases e | skip
   cases s1;cases s2;obtain⟨hz,e⟩:=Option.ite_none_right_eq_some.mp e;cases e;exact add_str (fun t tk=>k s.heap _ tk (.sc .str)) hz
  | lst a =>
   cases t'<;>first | cases e | skip
   obtain⟨hz,e⟩:=Option.ite_none_right_eq_some.mp e;cases e;obtain⟨p,us,n,rfl,z1,h1,r1⟩:=Jc s1;obtain⟨q,ws,m,rfl,z2,h2,r2⟩:=Jc s2;have l1:=r1.length;have l2:=r2.length;refine PySem.P.add_list h1 h2 ?_ (by rw[Jv,Jv];omega);rw[show us.toArray++ws.toArray=(us++ws).toArray by simp];exact k _ _ s.toks (.lst (Ga r1 r2) (by rw[Gn];omega))
  | tup a =>
   cases t'<;>first | cases e | skip
   obtain⟨hz,e⟩:=Option.ite_none_right_eq_some.mp e;cases e;obtain⟨p,us,rfl,z1,h1,r1⟩:=V4 fF s1;obtain⟨q,ws,rfl,z2,h2,r2⟩:=V4 fF s2;have l1:=r1.length;have l2:=r2.length;by_cases eu:us=[]
   .subst eu;cases r1;obtain⟨⟨c1,d1,t1,L9⟩,o1,k1,n1,m1⟩:=id h1;obtain⟨⟨c2,d2,t2,E0⟩,o2,k2,n2,m2⟩:=id h2;simp only at k1 m1 k2 m2;subst k1 m1 k2 m2;exact concat_meets ⟨_,o1,rfl⟩ ⟨_,o2,rfl⟩ noFill_tuple_add seq_tuple_add PySem.F.slot_tuple_add PySem.F.entry_tuple_add (PySem.F.args_tuple_add_2 _ _) (tuple_addW0 p q _ _ n1 n2 d1 d2 L9 E0 rfl) ⟨o1,o2,k s.heap _ s.toks (.sc s2)⟩
   .refine HT.ao h1 h2 eu (fun ew=>?_) (fun ew=>k _ _ s.toks (.tup fF (Ga r1 r2) (by rw[Gn];omega))) (by omega);subst ew;cases r2;rw[ZE]at k;exact k s.heap _ s.toks (.sc s1)
  | _=>cases e
 | sub=>obtain⟨a,b,rfl,rfl,e⟩:=T7 e;cases e;cases s1;cases s2;exact sub_int (fi rfl)
 | mul =>
  have e:mulT t t'=some r:=e;cases t with
  | int a =>
   cases t'<;>first | cases e | skip
   cases s1;cases s2;obtain⟨hz,e⟩:=Option.ite_none_right_eq_some.mp e;cases e;exact mul_int (fi rfl) (hz.elim (fun⟨a,b⟩=>.of_left (intBits_le_64 a b)) fun⟨a,b⟩=>.of_right (intBits_le_64 a b))
  | str a =>
   cases t'<;>first | cases e | skip
   cases s1;cases s2;obtain⟨hz,e⟩:=Option.ite_none_right_eq_some.mp e;cases e;exact yd hz.1 hz.2.1 hz.2.2 fun t tk=>k s.heap _ tk (.sc .str)
  | lst a =>
   cases t'<;>first | cases e | skip
   cases s2;obtain⟨hz,e⟩:=Option.ite_none_right_eq_some.mp e;cases e;obtain⟨p,us,n,rfl,z1,h1,r1⟩:=Jc s1;refine pz h1 hz.1 hz.2.1 (by rw[<-r1.length];exact hz.2.2) (k _ _ s.toks (.lst (A7 r1 _) (by rw[len_rep, <-r1.length,Nat.mul_comm];exact hz.2.2)))
  | _=>cases e
 | fdiv =>
  obtain⟨a,b,rfl,rfl,e⟩:=T7 e;cases s1;cases s2;obtain⟨hz,e⟩:=Option.ite_none_right_eq_some.mp e;cases e;exact floordiv_int (by omega) (by rw[Int.fdiv_eq_ediv_of_nonneg a (by omega)];exact fi rfl) (.inl (PyProof.noPylong_small (by omega)))
 | mod =>
  obtain⟨a,b,rfl,rfl,e⟩:=T7 e;cases s1;cases s2;obtain⟨hz,e⟩:=Option.ite_none_right_eq_some.mp e;cases e;exact mod_int' (by omega) (by rw[Int.fmod_eq_emod_of_nonneg a (by omega)];exact fi rfl)
 | pow =>
  obtain⟨a,b,rfl,rfl,e⟩:=T7 e;cases s1;cases s2;obtain⟨hz,e⟩:=Option.ite_none_right_eq_some.mp e;cases e;exact pow_int_small hz.1 hz.2.1 hz.2.2 (fi rfl)
end
section
variable{g:Md}{F:OM}{A:Around}{R:ZQ}{E:ZQ}{s:Shared}{t t':T}{u v:Value}{r:Sl}{a:Addr}{us:ZK}
theorem Hf{b:Bool}(hu:A.units<cLine)(fF:∀a o,F a=some o->s.heap.get? a=some o)(s1:IsT g F t u)(s2:IsT g F t' v)(fb:Nq t'=true)(h:qt t t'=some b) :
  SeqAt.EqAt A s u v b/\SeqAt.RcAt A s u v b/\SeqAt.RcNeAt A s u v (!b)/\(u=v->b=true):=by
 cases t with
 | tup ts =>
  obtain⟨p,us,rfl,_,tp,_⟩:=V4 fF s1;cases t' with
  | non=>cases s2;cases h;exact⟨.tuple_none tp hu,.tuple_none tp hu,.tuple_none tp hu,fun z=>nomatch z⟩
  | bl c=>cases s2;cases h;exact⟨.tuple_bool _ tp hu,.tuple_bool _ tp hu,.tuple_bool _ tp hu,fun z=>nomatch z⟩
  | int c=>cases s2;cases h;exact⟨.tuple_int _ _ tp hu,.tuple_int _ _ tp hu,.tuple_int _ _ tp hu,fun z=>nomatch z⟩
  | str c=>cases s2;cases h;exact⟨.tuple_str _ _ tp hu,.tuple_str _ _ tp hu,.tuple_str _ _ tp hu,fun z=>nomatch z⟩
  | _=>cases fb
 | non =>
  cases s1;cases t' with
  | non=>cases s2;cases h;exact⟨.same _,.none_none,.none_none,fun _=>rfl⟩
  | bl c=>cases s2;cases h;exact⟨.none_bool _,.none_bool _,.none_bool _,fun z=>nomatch z⟩
  | int c=>cases s2;cases h;exact⟨.none_int _ _,.none_int _ _,.none_int _ _,fun z=>nomatch z⟩
  | str c=>cases s2;cases h;exact⟨.none_str _ _,.none_str _ _,.none_str _ _,fun z=>nomatch z⟩
  | _=>cases fb
 | bl a =>
  cases s1;cases t' with
  | non=>cases s2;cases h;exact⟨.bool_none _,.bool_none _,.bool_none _,fun z=>nomatch z⟩
  | bl c=>cases s2;cases h;exact⟨.bool_bool _ _,.bool_bool _ _,.bool_bool _ _,fun z=>by cases z;exact B0s _⟩
  | int c=>cases s2;cases h;exact⟨.bool_int _ _ _,.bool_int _ _ _,.bool_int _ _ _,fun z=>nomatch z⟩
  | str c=>cases s2;cases h;exact⟨.bool_str _ _ _,.bool_str _ _ _,.bool_str _ _ _,fun z=>nomatch z⟩
  | _=>cases fb
 | int a =>
  cases s1;cases t' with
  | non=>cases s2;cases h;exact⟨.int_none _ _,.int_none _ _,.int_none _ _,fun z=>nomatch z⟩
  | bl c=>cases s2;cases h;exact⟨.int_bool _ _ _,.int_bool _ _ _,.int_bool _ _ _,fun z=>nomatch z⟩
  | int c=>cases s2;cases h;exact⟨.int_int _ _ _ _,.int_int _ _ _ _,.int_int _ _ _ _,fun z=>by cases z;exact B0s _⟩
  | str c=>cases s2;cases h;exact⟨.int_str _ _ _ _,.int_str _ _ _ _,.int_str _ _ _ _,fun z=>nomatch z⟩
  | _=>cases fb
 | str a =>
  cases s1;cases t' with
  | non=>cases s2;cases h;exact⟨.str_none _ _,.str_none _ _,.str_none _ _,fun z=>nomatch z⟩
  | bl c=>cases s2;cases h;exact⟨.str_bool _ _ _,.str_bool _ _ _,.str_bool _ _ _,fun z=>nomatch z⟩
  | int c=>cases s2;cases h;exact⟨.str_int _ _ _ _,.str_int _ _ _ _,.str_int _ _ _ _,fun z=>nomatch z⟩
  | str c=>cases s2;cases h;exact⟨.str_str _ _ _ _,.str_str _ _ _ _,.str_str _ _ _ _,fun z=>by cases z;exact B0s _⟩
  | _=>cases fb
 | _=>cases h
theorem Sv{b:Bool}(h:eqT t t'=some b):Nq t'=true/\qt t t'=some b:=by
 unfold eqT at h
 split at h
 .cases h;exact⟨rfl,congrArg some (Bool.beq_eq_decide_eq _ _)⟩
 .cases h;exact⟨rfl,congrArg some (Bool.beq_eq_decide_eq _ _)⟩
 .split at h
  .exact⟨‹_›,h⟩
  .cases h
theorem eqF_c{b:Bool}(h:qt t t'=some b):Wl t=false:=by cases t<;>first | rfl | cases h
theorem Ci(c:Wl t=false)(h:Vu g F s.heap t u):IsT g F t u:=by unfold Vu at h;rw[c]at h;exact h
theorem K9(h:Nq t=true):Wl t=false:=by cases t<;>first | rfl | cases h
theorem Dy{as:ZZ}(h:Pg t=some as):t=.tup as:=by cases t<;>cases h;rfl
theorem Py{h:Heap}{p:Addr}{a b:ZK}(x:IsTup h p a.toArray)(y:IsTup h p b.toArray):a=b:=by
 obtain⟨o,e,_,n,d⟩:=x;obtain⟨o',e',_,n',d'⟩:=y;rw[e]at e';cases e';rw[d]at d';cases d';rfl
theorem Pw{p q:Addr}(hu:A.units<cLine)(tp:IsTup s.heap p us.toArray)(tq:IsTup s.heap q #[]):SeqAt.RcAt A s (.ref p) (.ref q) us.isEmpty/\SeqAt.RcNeAt A s (.ref p) (.ref q) (!us.isEmpty):=by
 have ev:((List.range (min us.toArray.size (#[]:ZD).size)).all (fun _=>true) && us.toArray.size == (#[]:ZD).size)=us.isEmpty:=by cases us<;>simp
 rw[<-ev];exact⟨.tuples (e:=fun _=>true) tp tq hu fun j _ h2=>absurd h2 (by simp),.tuples (e:=fun _=>true) tp tq hu fun j _ h2=>absurd h2 (by simp)⟩
theorem fy{b:Bool}(hu:A.units<cLine)(fF:∀a o,F a=some o->s.heap.get? a=some o)(s1:IsT g F t u)(s2:IsT g F t' v)(h:eq1 t t'=some b):SeqAt.EqAt A s u v b/\(u=v->b=true):=by
 unfold eq1 at h
 split at h
 .obtain⟨h1,h2⟩:=Sv h;obtain⟨q1,_,_,q2⟩:=Hf hu fF s1 s2 h1 h2;exact⟨q1,q2⟩
 .rename_i bs hb
  cases Dy hb
  split at h
  .rename_i he
   obtain rfl:=List.isEmpty_iff.mp he;obtain⟨q,ws,rfl,_,tq,rw'⟩:=V4 fF s2;cases rw'
   split at h
   .rename_i as ha
    cases Dy ha;cases h;obtain⟨p,vs,rfl,_,tp,rv⟩:=V4 fF s1;have l:as.isEmpty=vs.isEmpty:=by cases rv<;>rfl
    rw[l];by_cases z:p=q
    .subst z;rw[Py tp tq];exact⟨.same _,fun _=>rfl⟩
    .exact⟨.of_refs z (Pw hu tp tq).1,fun e=>by cases e;exact absurd rfl z⟩
   .split at h
    .rename_i hf
     cases h;cases t with
     | non=>cases s1;exact⟨.none_tuple tq hu,fun z=>nomatch z⟩
     | bl _=>cases s1;exact⟨.bool_tuple _ tq hu,fun z=>nomatch z⟩
     | int _=>cases s1;exact⟨.int_tuple _ _ tq hu,fun z=>nomatch z⟩
     | str _=>cases s1;exact⟨.str_tuple _ _ tq hu,fun z=>nomatch z⟩
     | _=>cases hf
    .cases h
  .cases h
theorem rj(e:Nat->Bool)(n m:Nat):((List.range (min (n+1) (m+1))).all e && n+1 == m+1)=(e 0 && ((List.range (min n m)).all (fun j=>e (j+1)) && n == m)):=by
 rw[show min (n+1) (m+1)=min n m+1 by omega,List.range_succ_eq_map,List.all_cons,List.all_map,Bool.and_assoc,show (n+1 == m+1)=(n == m) by rw[Bool.eq_iff_iff];simp]
 rfl
theorem Ie(hu:A.units<cLine)(fF:∀a o,F a=some o->s.heap.get? a=some o):∀{as bs:ZZ} {us zs:ZK} {b:Bool},fq as bs=some b->Zr g F as us->Zr g F bs zs ->
  ∃e:Nat->Bool,(∀(j:Nat) (h1:j<us.length) (h2:j<zs.length),SeqAt.EqAt A s us[j] zs[j] (e j))/\((List.range (min us.length zs.length)).all e && us.length == zs.length)=b/\(us=zs->b=true)
 | _,_,_,_,b,h,.nil,.nil=>by cases h;exact⟨fun _=>true,fun j h1=>absurd h1 (Nat.not_lt_zero j),rfl,fun _=>rfl⟩
 | _,_,_,_,b,h,.nil,.cons _ _=>by cases h;exact⟨fun _=>true,fun j h1=>absurd h1 (Nat.not_lt_zero j),rfl,fun z=>nomatch z⟩
 | _,_,_,_,b,h,.cons _ _,.nil=>by cases h;exact⟨fun _=>true,fun j _ h2=>absurd h2 (Nat.not_lt_zero j),rfl,fun z=>nomatch z⟩
 | _,_,u::us,z::zs,b,h,.cons r1 t1,.cons r2 t2=>by
  obtain⟨x,e1,h⟩:=ZP.mp h;obtain⟨b',e2,rfl⟩:=Y3.mp h;obtain⟨e,g1,g2,g3⟩:=Ie hu fF e2 t1 t2;obtain⟨k1,k2⟩:=fy hu fF r1 r2 e1;refine⟨fun j=>match j with | 0=>x | j+1=>e j,fun j h1 h2=>?_, ?_,fun ev=>?_⟩
  .cases j with
   | zero=>exact k1
   | succ j=>exact g1 j (Nat.lt_of_succ_lt_succ h1) (Nat.lt_of_succ_lt_succ h2)
  .show ((List.range (min (us.length+1) (zs.length+1))).all _ && us.length+1 == zs.length+1)=_;rw[rj, <-g2]
  .cases ev;rw[k2 rfl,g3 rfl];rfl
theorem rcTs{b:Bool}{as bs:ZZ}(hu:A.in1.units<cLine)(fF:∀a o,F a=some o->s.heap.get? a=some o)(s1:IsT g F (.tup as) u)(s2:IsT g F (.tup bs) v)(h:fq as bs=some b):SeqAt.RcAt A s u v b/\SeqAt.RcNeAt A s u v (!b)/\(u=v->b=true):=by
 obtain⟨p,us,rfl,_,tp,r1⟩:=V4 fF s1;obtain⟨q,zs,rfl,_,tq,r2⟩:=V4 fF s2;obtain⟨e,g1,g2,g3⟩:=Ie (A:=A.in1) hu fF h r1 r2;have h1:=SeqAt.RcAt.tuples (A:=A) (e:=e) tp tq (Nat.lt_of_succ_lt hu) fun j h1 h2=>g1 j (by simpa using h1) (by simpa using h2);have h2:=SeqAt.RcNeAt.tuples (A:=A) (e:=e) tp tq (Nat.lt_of_succ_lt hu) fun j h1 h2=>g1 j (by simpa using h1) (by simpa using h2);rw[Jv,Jv,g2]at h1 h2;exact⟨h1,h2,fun z=>by cases z;exact g3 (Py tp tq)⟩
theorem eqE_at{b:Bool}(hu:A.in1.units<cLine)(fF:∀a o,F a=some o->s.heap.get? a=some o)(s1:IsT g F t u)(s2:IsT g F t' v)(h:eqE t t'=some b):SeqAt.EqAt A s u v b:=by
 unfold eqE at h
 split at h
 .rename_i hb
  exact(fy (Nat.lt_of_succ_lt hu) fF s1 s2 (by unfold eq1;rw[hb];exact h)).1
 .rename_i bs hb
  cases Dy hb;obtain⟨as,ha,h⟩:=ZP.mp h;cases Dy ha;obtain⟨k1,_,k2⟩:=rcTs hu fF s1 s2 h;obtain⟨p,us,rfl,_⟩:=V4 fF s1;obtain⟨q,zs,rfl,_⟩:=V4 fF s2;by_cases z:p=q
  .subst z;rw[k2 rfl];exact .same _
  .exact .of_refs z k1
theorem fj{b:Bool}(hu:A.in1.units<cLine)(fF:∀a o,F a=some o->s.heap.get? a=some o)(s1:Vu g F s.heap t u)(s2:Vu g F s.heap t' v)(h:eqG t t'=some b):SeqAt.RcAt A s u v b/\SeqAt.RcNeAt A s u v (!b):=by
 unfold eqG at h
 split at h
 .let ⟨h1,h2,_⟩:=rcTs hu fF s1 s2 h;exact⟨h1,h2⟩
 .unfold eqC at h
  split at h
  .rename_i ts _
   cases h;obtain⟨p,us,rfl,_,tp,r1⟩:=V4 fF s1;obtain⟨q,ws,rfl,_,tq,r2⟩:=V4 fF s2;cases r2;have l:ts.isEmpty=us.isEmpty:=by cases r1<;>rfl
   rw[l];exact Pw (Nat.lt_of_succ_lt hu) tp tq
  .obtain⟨h1,h2⟩:=Sv h
   let ⟨_,q1,q2,_⟩:=Hf (Nat.lt_of_succ_lt hu) fF (Ci (eqF_c h2) s1) (Ci (K9 h1) s2) h1 h2
   exact⟨q1,q2⟩
theorem kq{A:Around}(hu:A.units<cLine)(fF:∀a o,F a=some o->s.heap.get? a=some o)(f:Nq t=true)(s1:IsT g F t v):∀{ts:ZZ} {us:ZK} {b:Bool},Zr g F ts us->Lm t ts=some b ->
  ∃e:Value->Bool,(∀u∈us,SeqAt.EqAt A s u v (e u))/\us.any e=b:=by
 let ev:Value->Bool:=fun u=>match u with
  | .none=>(qt .non t).getD false
  | .bool c=>(qt (.bl c) t).getD false
  | .int i _=>(qt (.int i) t).getD false
  | .str x _=>(qt (.str x) t).getD false
  | _=>false
 suffices q:∀{ts:ZZ} {us:ZK} {b:Bool},Zr g F ts us->Lm t ts=some b->(∀u∈us,SeqAt.EqAt A s u v (ev u))/\us.any ev=b from fun {_ _ _} r h=>⟨ev,q r h⟩
 intro ts us b r h
 induction r generalizing b with
 | nil=>cases h;exact⟨fun u m=>absurd m Tz,rfl⟩
 | cons r1 r2 ih =>
  rename_i t1 u1 ts us
  obtain⟨c,e1,h⟩:=ZP.mp h;obtain⟨b',e2,rfl⟩:=Y3.mp h;obtain⟨g1,g2⟩:=ih e2;obtain⟨_,e3⟩:=Sv e1
  have key:SeqAt.EqAt A s u1 v (ev u1)/\ev u1=c:=by
   have k:=(Hf hu fF r1 s1 f e3).1
   have ec:ev u1=c:=by
    cases t1 with
    | tup _=>obtain⟨p,_,_,rfl,_⟩:=Top.unT r1;cases e3;rfl
    | non=>cases r1;show (qt .non t).getD false=c;rw[e3];rfl
    | bl _=>cases r1;show (qt (.bl _) t).getD false=c;rw[e3];rfl
    | int _=>cases r1;show (qt (.int _) t).getD false=c;rw[e3];rfl
    | str _=>cases r1;show (qt (.str _) t).getD false=c;rw[e3];rfl
    | _=>cases e3
   exact⟨by rw[ec];exact k,ec⟩
  refine⟨fun u m=>?_,by rw[List.any_cons,key.2,g2]⟩;rcases Vv.mp m with rfl | m
  .exact key.1
  .exact g1 u m
theorem M9{XY:ZX}{vs:List (Key×Value)}(k:Key)(h:Z9 g F XY vs):(∀t,Zv XY k=some t->∃v,valueAt vs k=some v/\IsT g F t v)/\(Zv XY k=none->valueAt vs k=none):=by
 induction h with
 | nil=>exact⟨(fun t e=>by cases e),fun _=>rfl⟩
 | cons r t ih =>
  rename_i p q ps qs
  unfold Zv valueAt at *;rw[List.find?_cons,List.find?_cons, <-r.1];by_cases z:p.1=k
  .rw[Ma z];exact⟨fun t e=>by cases e;exact⟨_,rfl,r.2⟩,fun e=>nomatch e⟩
  .rw[Cw z];exact ih
theorem ue{XY:ZX}{vs:List (Key×Value)}{k:Key}(h:Z9 g F XY vs):(valueAt vs k).isSome=(Zv XY k).isSome:=by
 obtain⟨h1,h2⟩:=M9 k h;cases e:Zv XY k with
 | none=>rw[h2 e];rfl
 | some t=>obtain⟨v,q,_⟩:=h1 t e;rw[q];rfl
theorem key_is{k:Key}(e:Mf t=some k)(h:Vu g F s.heap t v):(Zk g.prog g.w).is k v=true:=by
 cases t with
 | int i=>cases e;cases h;exact Ow _ _ i _
 | str i=>cases e;cases h;exact G3 _ _ i _
 | _=>cases e
theorem K4{b:Bool}(un:A.units+150<cLine)(fF:∀a o,F a=some o->s.heap.get? a=some o)(s1:Vu g F s.heap t u)(s2:Vu g F s.heap t' v)(e:K5 t t'=some b) :
  ((∀k,R (.bool b) { s with toks:=k })->wpAny (model g.prog g.w) A (compareOp .In u v) R E s)/\((∀k,R (.bool (!b)) { s with toks:=k })->wpAny (model g.prog g.w) A (compareOp .NotIn u v) R E s):=by
 have h1:A.in1.units<cLine:=by show A.units+1<cLine;omega
 cases t' with
 | lst ts =>
  obtain⟨f,e⟩:=Option.ite_none_right_eq_some.mp (show inF t ts=some b from e);obtain⟨a,us,n,rfl,_,hl,r⟩:=Jc s2;obtain⟨e,g1,g2⟩:=kq h1 fF f (Ci (K9 f) s1) r e;have l:s.heap.IsList a us.toArray:=⟨_,hl,rfl,⟨n,rfl⟩⟩;exact⟨fun q=>SeqAt.in_listAt e l (fun y m=>g1 y (by simpa using m)) (by rw[List.any_toArray,g2];exact q s.toks),fun q=>SeqAt.notIn_listAt e l (fun y m=>g1 y (by simpa using m)) (by rw[List.any_toArray,g2];exact q s.toks)⟩
 | tup ts =>
  obtain⟨f,e⟩:=Option.ite_none_right_eq_some.mp (show inF t ts=some b from e);obtain⟨a,us,rfl,_,l,r⟩:=V4 fF s2;obtain⟨e,g1,g2⟩:=kq h1 fF f (Ci (K9 f) s1) r e;exact⟨fun q=>SeqAt.in_tupleAt e l (fun y m=>g1 y (by simpa using m)) (by rw[List.any_toArray,g2];exact q s.toks),fun q=>SeqAt.notIn_tupleAt e l (fun y m=>g1 y (by simpa using m)) (by rw[List.any_toArray,g2];exact q s.toks)⟩
 | dct XY =>
  obtain⟨k,e1,rfl⟩:=Y3.mp (show (Mf t).map _=some b from e);obtain⟨a,vs,rfl,_,hd,dd,r⟩:=Br s2;rw[<-ue r];exact⟨fun q=>wpAny_in_of (key_is e1 s1) hd dd.mapOf (q _),fun q=>wpAny_notIn_of (key_is e1 s1) hd dd.mapOf (q _)⟩
 | str y =>
  have e:kj t y=some b:=e;unfold kj at e
  split at e
  .cases e;cases s1;cases s2;exact⟨fun q=>in_str (q s.toks),fun q=>notIn_str (q s.toks)⟩
  .cases e
 | _=>cases e
theorem le_not(i j:Int):decide (i<=j)=!decide (j<i):=by rw[<-decide_not];exact decide_eq_decide.mpr Int.not_lt.symm
theorem Kt{b:Bool}(h:ltT t t'=some b):∃i j,t=.int i/\t'=.int j/\b=decide (i<j):=by
 unfold ltT at h
 split at h
 .cases h;exact⟨_,_,rfl,rfl,rfl⟩
 .cases h
theorem y3{b:Bool}(s1:Vu g F s.heap t u)(s2:Vu g F s.heap t' v)(e:isT t t'=some b) :
  (R (.bool b) s->wpAny (model g.prog g.w) A (compareOp .Is u v) R E s)/\(R (.bool (!b)) s->wpAny (model g.prog g.w) A (compareOp .IsNot u v) R E s):=by
 unfold isT at e
 split at e
 .cases e;cases s1;cases s2;exact⟨fun q=>is_none_gen q,fun q=>isnot_none_gen q⟩
 .cases e;cases s1;cases s2;exact⟨fun q=>is_bool q,fun q=>isnot_bool q⟩
 .rename_i n1
  cases e;cases s2
  have:(u == Value.none)=false:=by
   cases t with
   | non=>exact(n1 rfl).elim
   | _=>cases s1;rfl
  exact⟨fun q=>is_none_gen (by rw[this];exact q),fun q=>isnot_none_gen (by rw[this];exact q)⟩
 .cases e
theorem Hc{b:Bool}(c:Cm)(un:A.units+150<cLine)(fF:∀a o,F a=some o->s.heap.get? a=some o)(s1:Vu g F s.heap t u)(s2:Vu g F s.heap t' v)(e:Jq c t t'=some b)(q:∀k,R (.bool b) { s with toks:=k }) :
  wpAny (model g.prog g.w) A (compareOp (Rd c) u v) R E s:=by
 have hu:A.in1.units<cLine:=by show A.units+1<cLine;omega
 cases c with
 | eq=>exact(fj hu fF s1 s2 e).1 _ _ _ _ (q s.toks)
 | ne =>
  obtain⟨r,e1,rfl⟩:=Y3.mp (show (eqG t t').map not=some b from e);exact(fj hu fF s1 s2 e1).2 _ _ _ _ (q s.toks)
 | lt=>obtain⟨i,j,rfl,rfl,rfl⟩:=Kt e;cases s1;cases s2;exact lt_int (q s.toks)
 | gt=>obtain⟨i,j,rfl,rfl,rfl⟩:=Kt e;cases s1;cases s2;exact gt_int (q s.toks)
 | le =>
  obtain⟨r,e1,rfl⟩:=Y3.mp (show (ltT t' t).map not=some b from e);obtain⟨i,j,rfl,rfl,rfl⟩:=Kt e1;cases s1;cases s2;exact le_int (by rw[le_not];exact q s.toks)
 | ge =>
  have e:geT t t'=some b:=e;unfold geT at e
  split at e
  .cases e;cases s1;cases s2;exact ge_int (q s.toks)
  .cases e
 | isin=>exact(K4 un fF s1 s2 e).1 q
 | notin =>
  obtain⟨r,e1,rfl⟩:=Y3.mp (show (K5 t t').map not=some b from e);exact(K4 un fF s1 s2 e1).2 q
 | is=>exact(y3 s1 s2 e).1 (q s.toks)
 | isnt =>
  obtain⟨r,e1,rfl⟩:=Y3.mp (show (isT t t').map not=some b from e);exact(y3 s1 s2 e1).2 (q s.toks)
end
section
variable{g:Md}{F:OM}{A:Around}{R:ZQ}{E:ZQ}{s:Shared}{h:Heap}{t:T}{u v:Value}{r:Sl}{a L:Addr}{ts ws:ZZ}{us:ZK}
theorem Bo:∀{ts:ZZ} {us:ZK} {bs:List Bool},Zr g F ts us->allB ts=some bs->us=bs.map Value.bool
 | _,_,_,.nil,e=>by cases e;rfl
 | t::_,_,_,.cons r q,e=>by
  cases t with
  | bl b =>
   obtain⟨bs',e1,rfl⟩:=Y3.mp (show (allB _).map (b::·)=_ from e);cases r;rw[Bo q e1];rfl
  | _=>cases e
theorem Ba:∀{ts:ZZ} {us:ZK} {zs:ZT},Zr g F ts us->G6 ts=some zs->ts=zs.map .int/\IntsAre us zs
 | _,_,_,.nil,e=>by cases e;exact⟨rfl,.nil⟩
 | t::_,_,_,.cons r q,e=>by
  cases t with
  | int b =>
   obtain⟨bs',e1,rfl⟩:=Y3.mp (show (G6 _).map (b::·)=_ from e);obtain⟨h1,h2⟩:=Ba q e1;cases r;exact⟨by rw[h1];rfl,.cons _ _ h2⟩
  | _=>cases e
theorem Bu:∀{ts:ZZ} {us:ZK} {zs:ZG},Zr g F ts us->Mi ts=some zs->ts=zs.map .str/\StrsAre us zs
 | _,_,_,.nil,e=>by cases e;exact⟨rfl,.nil⟩
 | t::_,_,_,.cons r q,e=>by
  cases t with
  | str b =>
   obtain⟨bs',e1,rfl⟩:=Y3.mp (show (Mi _).map (b::·)=_ from e);obtain⟨h1,h2⟩:=Bu q e1;cases r;exact⟨by rw[h1];rfl,.cons _ _ h2⟩
  | _=>cases e
theorem Fy:∀{us:ZK} {zs:ZT},IntsAre us zs->Zr g F (zs.map .int) us
 | _,_,.nil=>.nil
 | _,_,.cons _ _ h=>.cons .int (Fy h)
theorem Fv:∀{us:ZK} {zs:ZG},StrsAre us zs->Zr g F (zs.map .str) us
 | _,_,.nil=>.nil
 | _,_,.cons _ _ h=>.cons .str (Fv h)
theorem Fd{k:Key}(h:(Zk g.prog g.w).is k v=true):IsT g F (Jd k) v:=by
 rcases Zh h with ⟨i,t,rfl,rfl⟩ | ⟨x,t,rfl,rfl⟩
 .exact .int
 .exact .str
theorem Ob{XY:ZX}{vs:List (Key×Value)}(rk:Z9 g F XY vs)(hl:us.length=vs.length)(hk:∀(j:Nat) (v:Value),us[j]?=some v->∃k x,vs[j]?=some (k,x)/\(Zk g.prog g.w).is k v=true):Zr g F (XY.map fun p=>Jd p.1) us:=by
 induction rk generalizing us with
 | nil=>obtain rfl:=List.eq_nil_of_length_eq_zero hl;exact .nil
 | cons r t ih =>
  cases us with
  | nil=>cases hl
  | cons u us =>
   obtain⟨k,x,e,q⟩:=hk 0 u rfl;cases e;refine .cons ?_ (ih (Nat.succ.inj hl) fun j v e=>hk (j+1) v e);show IsT g F (Jd _) u;rw[r.1];exact Fd q
theorem Ao(r:Zr g F ts us)(e:Cr ts=some ws):SRT.Srt g.prog g.w (fun _=>True) us fun out=>Zr g F ws out/\out.length=us.length:=by
 obtain⟨h64,e⟩:=Option.ite_none_right_eq_some.mp e;have l:=r.length
 split at e
 .rename_i zs ez
  cases e;obtain⟨h1,h2⟩:=Ba r ez;intro A E s D Q o e q;refine SRT.srt_ints (Ok:=fun _=>True) h2 (by omega) A E s D Q o e fun h1' out n k e1 r1=>q h1' out n k e1 ⟨Fy r1, ?_⟩;rw[<-(Fy (g:=g) (F:=F) r1).length,Zu,(SRT.Yf _).length_eq, <-l,h1,Zu]
 .obtain⟨zs,ez,rfl⟩:=Y3.mp e;obtain⟨h1,h2⟩:=Bu r ez;intro A E s D Q o e q;refine SRT.srt_strs (Ok:=fun _=>True) h2 (by omega) A E s D Q o e fun h1' out n k e1 r1=>q h1' out n k e1 ⟨Fv r1, ?_⟩;rw[<-(Fv (g:=g) (F:=F) r1).length,Zu,(SRT.Z4 _).length_eq, <-l,h1,Zu]
theorem Fg{D:Addr}{out:ZD}{n:Nat}(e:h.get? D=some (seqObj "list" out n))(r:Zr g F ts out.toList)(z:out.size<=sizeLine):Top g F h.get? (.lst ts) (.ref D) :=
 .mkL (us:=out.toList) e ⟨by rw[Ln];exact z,n,by rw[Array.toArray_toList]⟩ r
theorem Cp{o:Obj}{n:Nat}{T:String}(ho:s.heap.get? a=some o)(hc:o.cls=.type T)(hT:T = "list" \/ T = "tuple")(hd:o.data=.seq us.toArray n)(z:us.length<=sizeLine)
  (st:SRT.Srt g.prog g.w (fun _=>True) us fun out=>Zr g F ws out/\out.length=us.length) (k:Ok g F L s (.o (.lst ws)) R):wpAny (model g.prog g.w) A (call (.builtin "sorted") [.ref a]) R E s:=by
 refine SRT.B1 ho hc hT hd z fun h1 D k1 sz T9=>?_;refine st _ _ { s with heap:=h1 } D _ trivial T9 fun h2 out n k2 at2 r2=>?_;have kp:∀b o,s.heap.get? b=some o->h2.get? b=some o:=fun b o e=>k2 b o (Cq (N0l (Jw e) sz)) (k1 b o e);exact k h2 _ s.toks (.own (fun b o _=>kp b o) (fun _ hn=>hn.keeps kp) rfl (Heap.get?_none_of_le sz) (Fg at2 r2.1 (by have:=r2.2;rw[Ln]at this;omega)))
theorem Ea{vs:List (Key×Value)}(hh:A.handled=none)(hn:∃m,s.heap.Ns L m)(nm:(a == sysModules)=false)(dd:s.heap.DictOf (Zk g.prog g.w) a vs)(z:vs.length<=sizeLine){XY:List (Key×PV.T)}(rk:Z9 g F XY vs)(e:Cr (XY.map fun p=>Jd p.1)=some ws)(k:Ok g F L s (.o (.lst ws)) R) :
  wpAny (model g.prog g.w) A (call (.builtin "sorted") [.ref a]) R E s:=by
 obtain⟨m,hn⟩:=hn;obtain⟨fr,nw⟩:=Rj hn;obtain⟨ep,da⟩:=dd.dictAt;refine W.kdu_sorted (W.kdl_dict (knd:=Zk g.prog g.w) (ep:=ep) nm) hh fr nw da z fun D h' tk us f' n' hD vl hv'=>?_;have r:=Ob (us:=us) rk vl hv';have ka:=M6 f' n' fun p hp=>Vk _ hp;have nD:=i7 n' hD;obtain⟨eD,nDL,_⟩:=n' _ Yn;refine Ao r e _ _ { s with heap:=h',toks:=tk } D _ trivial eD fun h2 out n k2 at2 r2=>?_;have neD:∀{b:Addr} {o:Obj},s.heap.get? b=some o->b≠D:=fun {b o} e z=>by rw[z,nD]at e;cases e
 refine k h2 _ tk (.own (fun b o nb eb=>k2 b o (neD eb) (ka b o nb eb)) (fun m' hm=>?_) rfl nD (Fg at2 r2.1 ?_))
 .obtain⟨o,es,ep,e1,d,q1,q2⟩:=f'.ns;obtain⟨o',N5,ep',e1',d',q1',q2'⟩:=hm;exact⟨o,es,ep,k2 _ o (fun z=>nDL z.symm) e1,d,q1,fun x=>(q2 x).trans (Heap.Ns.agree hn ⟨o',N5,ep',e1',d',q1',q2'⟩ x)⟩
 .have:=r2.2;rw[Ln]at this;omega
theorem oa{bs:List Bool}{n:Nat}(hh:A.handled=none)(ho:s.heap.get? a=some { cls:=.type "list",data:=.seq (bs.map Value.bool).toArray n })(k:Ok g F L s (.f (.bl (bs.all id))) R):wpAny (model g.prog g.w) A (call (.builtin "all") [.ref a]) R E s:=by
 have hl:s.heap.IsList a (bs.map Value.bool).toArray:=⟨_,ho,rfl,⟨n,rfl⟩⟩;have hlen:(bs.map Value.bool).toArray.size=bs.length:=by simp
 refine call_all_walk (wpAny_pyIter_list hl ?_)
 refine⟨s.heap.objs.size,[s.heap.objs.size,a],[s.heap.objs.size],(bs.map Value.bool).toArray.size,_,_,fun i=>(bs[i]?).getD true,rfl,Walks.list (A:=A.in1) hh _ a (Cq (Jw ho)) (bs.map Value.bool).toArray,
  ⟨⟨_,Gb _ rfl,rfl,rfl⟩,hl.push _⟩,fun i v s' Q' E' hP hQ=>?_,fun h' tk hk=>?_⟩
 .have e0:(bs.map Value.bool)[i]?=some v:=by simpa using hP
  rw[G0m]at e0;obtain⟨b,e1,rfl⟩:=Y3.mp e0;dsimp only at hQ;rw[e1]at hQ;exact wpAny_truthy_bool hQ
 .rw[hlen,L2.all_range];exact k h' _ tk (.kept (fun b x e=>hk b x (fun hm=>by rw[V1.mp hm]at e;exact Nat.lt_irrefl _ (Jw e)) (Y4 _ e)) .bl)
theorem ou{bs:List Bool}{n:Nat}(hh:A.handled=none)(ho:s.heap.get? a=some { cls:=.type "list",data:=.seq (bs.map Value.bool).toArray n })(k:Ok g F L s (.f (.bl (bs.any id))) R):wpAny (model g.prog g.w) A (call (.builtin "any") [.ref a]) R E s:=by
 have hl:s.heap.IsList a (bs.map Value.bool).toArray:=⟨_,ho,rfl,⟨n,rfl⟩⟩;have hlen:(bs.map Value.bool).toArray.size=bs.length:=by simp
 refine call_any_walk (wpAny_pyIter_list hl ?_)
 refine⟨s.heap.objs.size,[s.heap.objs.size,a],[s.heap.objs.size],(bs.map Value.bool).toArray.size,_,_,fun i=>(bs[i]?).getD true,rfl,Walks.list (A:=A.in1) hh _ a (Cq (Jw ho)) (bs.map Value.bool).toArray,
  ⟨⟨_,Gb _ rfl,rfl,rfl⟩,hl.push _⟩,fun i v s' Q' E' hP hQ=>?_,fun h' tk hk=>?_⟩
 .have e0:(bs.map Value.bool)[i]?=some v:=by simpa using hP
  rw[G0m]at e0;obtain⟨b,e1,rfl⟩:=Y3.mp e0;dsimp only at hQ;rw[e1]at hQ;exact wpAny_truthy_bool hQ
 .rw[hlen,L2.any_range];exact k h' _ tk (.kept (fun b x e=>hk b x (fun hm=>by rw[V1.mp hm]at e;exact Nat.lt_irrefl _ (Jw e)) (Y4 _ e)) .bl)
theorem pe{n:Nat}(s1:Vu g F s.heap t u)(fF:∀a o,F a=some o->s.heap.get? a=some o)(e:yh t=some n)(k:Ok g F L s (.f (.int n)) R):wpAny (model g.prog g.w) A (call (.builtin "len") [u]) R E s:=by
 have hn:=Kc;have z:=sizeLine_eq;have fi:∀tk t',R (.int (n:Int) t') { s with toks:=tk }:=fun tk t'=>k s.heap _ tk (.sc .int);cases t with
 | tup ts =>
  cases e;obtain⟨a,us,rfl,z1,h1,r⟩:=V4 fF s1;exact len_tuple h1 (by simp only[Jv];omega) (by simp only[Jv];rw[<-r.length];exact fi _ _)
 | lst ts =>
  cases e;obtain⟨a,us,n,rfl,z1,h1,r⟩:=Jc s1;exact Calls.call_len_list ⟨_,h1,rfl,⟨n,rfl⟩⟩ (by simp only[Jv];omega) (by simp only[Jv];rw[<-r.length];exact fi _ _)
 | dct XY =>
  cases e;obtain⟨a,vs,rfl,z1,nm,dd,r⟩:=Br s1;exact call_len_dict nm dd (by omega) (by rw[<-r.length];exact fi _ _)
 | str x =>
  obtain⟨hz,e⟩:=Option.ite_none_right_eq_some.mp (show (if x.length<=sizeLine then some x.length else none)=some n from e);cases e;cases s1;exact len_str (by omega) (fi _ _)
 | _=>cases e
theorem yl{o:Obj}{n:Nat}{T:String}(ho:s.heap.get? a=some o)(hc:o.cls=.type T)(hT:T = "list" \/ T = "tuple")(hd:o.data=.seq us.toArray n)(z:us.length<=sizeLine)(r:Zr g F ts us)(k:Ok g F L s (.o (.lst ts)) R):wpAny (model g.prog g.w) A (call (.type "list") [.ref a]) R E s :=
 call_list_seq a hT ho hc hd (fun h' c' kp e=>k h' _ s.toks (.own (fun b o _=>kp b o) (fun _ hn=>hn.keeps kp) rfl (Heap.get?_none_of_le (Gc _)) (.mkL e ⟨z,c',rfl⟩ r))) (by rw[Jv];exact z)
theorem yr{vs:List (Key×Value)}(hh:A.handled=none)(nm:(a == sysModules)=false)(dd:s.heap.DictOf (Zk g.prog g.w) a vs)(z:vs.length<=sizeLine){XY:List (Key×PV.T)}(rk:Z9 g F XY vs)(k:Ok g F L s (.o (.lst (XY.map fun p=>Jd p.1))) R):wpAny (model g.prog g.w) A (call (.type "list") [.ref a]) R E s:=by
 obtain⟨ep,da⟩:=dd.dictAt;refine W.kdl_call (W.kdl_dict (knd:=Zk g.prog g.w) (ep:=ep) nm) hh da z fun h' tk acc c k1 T9 hacc=>?_;have r:=Ob (us:=acc.toList) rk (by rw[Ln];exact hacc.1) fun j v e=>hacc.2 j v (by rw[<-Array.getElem?_toList];exact e);exact k h' _ tk (.own (fun b o _=>k1 b o) (fun _ hn=>hn.keeps k1) rfl (Heap.get?_none_of_le (Gc _)) (Fg (n:=c) T9 r (by rw[hacc.1];exact z)))
theorem Xp{n:Nat}(fF:∀a o,F a=some o->s.heap.get? a=some o)(ho:s.heap.get? a=some { cls:=.type "list",data:=.seq us.toArray n })(z:us.length<=sizeLine)(r:Zr g F ts us)(k:Ok g F L s (.f (.tup ts)) R):wpAny (model g.prog g.w) A (call (.type "tuple") [.ref a]) R E s:=by
 refine call_tuple_list ⟨_,ho,rfl,⟨n,rfl⟩⟩ (fun h' kp=>?_) (by rw[Jv];exact z);refine k _ _ s.toks (.tupN (us:=us) fF (fun b o e=>Y4 _ (kp b o e)) ?_ (Gb _ rfl) ⟨rfl,rfl,⟨_,rfl⟩,z⟩ r);cases e:s.heap.get? h'.objs.size with
 | none=>rfl
 | some o=>exact absurd (Jw (kp _ _ e)) (Nat.lt_irrefl _)
theorem pj{i j:Int}{t t':Tok}(hh:A.handled=none)(k:Ok g F L s (.f (.int (if j<i then j else i))) R):wpAny (model g.prog g.w) A (call (.builtin "min") [.int i t,.int j t']) R E s:=by
 refine min_two_ints hh fun h' tk kp=>k h' _ tk (.kept kp ?_);by_cases hj:j<i
 .rw[if_pos hj,if_pos hj];exact .int
 .rw[if_neg hj,if_neg hj];exact .int
theorem pg{i j:Int}{t t':Tok}(hh:A.handled=none)(k:Ok g F L s (.f (.int (if j>i then j else i))) R):wpAny (model g.prog g.w) A (call (.builtin "max") [.int i t,.int j t']) R E s:=by
 refine max_two_ints hh fun h' tk kp=>k h' _ tk (.kept kp ?_);by_cases hj:j>i
 .rw[if_pos hj,if_pos hj];exact .int
 .rw[if_neg hj,if_neg hj];exact .int
end
end PV
namespace HT
open PySem PyProof.Rows
section
variable{prog:Program}{w:World}{A:Around}{E:ZQ}{s:Shared}
theorem D2{t sl:Addr}{items:ZD}{vl vu:Value}{lo hi:ZC}{Q:ZQ}(ht:IsTup s.heap t items)(hs:s.heap.IsSliceOf sl vl vu .none)(pl:IsPart vl lo)(pu:IsPart vu hi)
  (hw:Y7 items.size 0 lo=0/\Y7 items.size items.size hi=items.size) (h:Q (.ref t) s):wpAny (model prog w) A (getItem (.ref t) (.ref sl)) Q E s:=by
 obtain⟨os,hos,hcs,hds⟩:=id hs;have hTs:s.TypeIs (.ref sl) "slice" := ⟨os,hos,hcs⟩;unfold getItem
 try with_reducible refine wpAny_holding ?_
 first | refine Zq (Zt ?_) | skip
 refine Zq (wpAny_sequenceKey ht.typeIs (by decide) ?_)
 refine Zq (wpAny_callSpecial?_slot (name:=Str.ofString "__getitem__") ht.typeIs slot_tuple_getitem
  (wpAny_call_entry slot_tuple_getitem ht.typeIs entry_tuple_getitem ?_ (args_tuple_getitem _ _)))
 show wpAny _ _ (Builtin.Tuple.tupleItemsOf (.ref t) >>= _) _ _ s;refine Zq (tupleItemsOf_ ht ?_);refine Zq (wpAny_typeOf hTs ?_);rw[if_pos (by decide)];refine Zq (U8 hs pl pu ?_)
 have hyes:(((Y7 items.size 0 lo:Nat):Int) == 0 && (1:Int) == 1 && (Y7 items.size items.size hi - Y7 items.size 0 lo) == items.size)=true:=by
  rw[hw.1,hw.2];simp
 show wpAny _ _ (if (((Y7 items.size 0 lo:Nat):Int) == 0 && (1:Int) == 1 && (Y7 items.size items.size hi - Y7 items.size 0 lo) == items.size)=true then _ else _) _ _ s;rw[if_pos hyes];refine Zq (m:=Builtin.Tuple.tupleIsExact (.ref t)) (Zq (wpAny_typeOf ht.typeIs (Zt ?_)));rw[if_pos (by decide)];exact Zq (wpAny_rule (Zt ⟨_,rfl,Zt h⟩))
end
end HT
namespace PV
open PySem PySem.Spec PyProof.Rows L2
noncomputable def dh:Kd->String
 | .int => "int"
 | .bool => "bool"
 | .str => "str"
 | .tuple => "tuple"
 | .list => "list"
 | .dict => "dict"
section
variable{g:Md}{F:OM}{A:Around}{R:ZQ}{E:ZQ}{s:Shared}{t t':T}{u v:Value}{r:Sl}{a L:Addr}{ts ws:ZZ}{us:ZK}
abbrev FH(F:OM)(h:Heap):Prop:=∀a o,F a=some o->h.get? a=some o
theorem uf{n:Kd}{b:Bool}(kin:g.K.In s.heap)(fF:FH F s.heap)(s1:Vu g F s.heap t v)(e:isiT n t=some b)(k:Ok g F L s (.f (.bl b)) R):wpAny (model g.prog g.w) A (call (.builtin "isinstance") [v,.type (dh n)]) R E s:=by
 have fin:∀tk,R (.bool b) { s with toks:=tk }:=fun tk=>k s.heap _ tk (.sc .bl);cases t with
 | non=>cases s1;exact W.kia_one W.kitx_none kin True.intro (by cases n<;>cases e<;>rfl) (fun z=>nomatch z) fin
 | bl x=>cases s1;exact W.kia_one W.kitx_bool kin True.intro (by cases n<;>cases e<;>rfl) (fun z=>nomatch z) fin
 | int x=>cases s1;exact W.kia_one W.kitx_int kin True.intro (by cases n<;>cases e<;>rfl) (fun z=>nomatch z) fin
 | str x=>cases s1;exact W.kia_one W.kitx_str kin True.intro (by cases n<;>cases e<;>rfl) (fun z=>nomatch z) fin
 | tup ts =>
  obtain⟨a,us,rfl,_,⟨o,h1,h2,_⟩,_⟩:=V4 fF s1;exact W.kia_one W.kitx_tuple kin ⟨o,h1,h2⟩ (by cases n<;>cases e<;>rfl) (fun z=>nomatch z) fin
 | lst ts =>
  obtain⟨a,us,m,rfl,_,h1,_⟩:=Jc s1;exact W.kia_one W.kitx_list kin ⟨_,h1,rfl⟩ (by cases n<;>cases e<;>rfl) (fun z=>nomatch z) fin
 | dct ts =>
  obtain⟨a,us,rfl,_,_,⟨o,es,ep,h1,h2,_⟩,_⟩:=Br s1;exact W.kia_one W.kitx_dict kin ⟨o,h1,h2.1⟩ (by cases n<;>cases e<;>rfl) (fun z=>nomatch z) fin
 | fn _=>cases n<;>cases e
 | exn _ _=>cases n<;>cases e
theorem y2{z:T}{value slice:Expr}(fF:FH F s.heap)(s1:Vu g F s.heap t v)(s2:Vu g F s.heap t' u)(e:T5 t t'=some z)(k:Ok g F L s (.f z) R)(hs:subscripted slice false v u=operate [v,u] (getItem v u)):wpAny (model g.prog g.w) A (subscriptTail value slice v u) R E s:=by
 have ln:=Kc;cases t with
 | tup ts =>
  cases t'<;>first | (cases e;done) | skip
  rename_i i
  cases s2;obtain⟨p,us,rfl,hz,pl,r⟩:=V4 fF s1;obtain⟨j,h1,h2,h3,h4,h5⟩:=Qu (show R9 ts i=some z from e);obtain⟨w,ew,rw'⟩:=Y1 r h2;have hl:=r.length
  exact subscriptTail_builtinR (x:=w) pl.typeIs slot_tuple_getitem.lookup
   (getItem_tuple (j:=j) (Q:=fun r s'=>r=w/\R r s') pl (by omega) (by omega) (by rw[Jv, <-hl];exact h1) (by simpa using ew) ⟨rfl,k s.heap _ s.toks (.sc rw')⟩) hs
 | lst ts =>
  cases t'<;>first | (cases e;done) | skip
  rename_i i
  cases s2;obtain⟨p,us,m,rfl,hz,ho,r⟩:=Jc s1;have pl:s.heap.IsList p us.toArray:=⟨_,ho,rfl,⟨m,rfl⟩⟩;obtain⟨j,h1,h2,h3,h4,h5⟩:=Qu (show R9 ts i=some z from e);obtain⟨w,ew,rw'⟩:=Y1 r h2;have hl:=r.length;have fin:R w s:=k s.heap _ s.toks (.sc rw');by_cases h0:0<=i
  .have hj:i.toNat=j:=by
    rw[seqIndex_of h0 h5]at h1;exact Ms h1
   exact item_listR pl h0 (by omega) (by rw[hj];simpa using ew) fin hs
  .have hj:(i+(us.toArray.size:Int)).toNat=j:=by
    rw[seqIndex_neg (by omega) h4]at h1;rw[Jv, <-hl];exact Ms h1
   exact subscriptTail_builtinR (x:=w) pl.typeIs slot_list_getitem.lookup
    (wpAny_getItem_list_neg (Q:=fun r s'=>r=w/\R r s') pl (by omega) (by rw[Jv]<;>omega) (by omega) (by rw[hj];simpa using ew) ⟨rfl,fin⟩) hs
 | str x =>
  cases t'<;>first | (cases e;done) | skip
  rename_i i
  obtain⟨hz,e⟩:=Option.ite_none_right_eq_some.mp (show (if x.length<=sizeLine then (R9 x.cps.toList i).map fun c=>T.str ⟨#[c]⟩ else none)=some z from e);obtain⟨c,he,rfl⟩:=Y3.mp e;cases s1;cases s2;obtain⟨j,h1,h2,h3,h4,h5⟩:=Qu he;have hl:x.cps.toList.length=x.length:=by simp[Str.length]
  rw[hl]at h1 h4 h5
  exact tail_any (typeIs_str s x _) slot_str_getitem.lookup (getItem_str (c:=c) (by
   have e1:decide (i < -(2 ^ 63:Int))=false:=Cw (by omega);have e2:decide (i ≥ 2 ^ 63)=false:=Cw (by omega);rw[e1,e2,Bool.or_false]) (by rw[h1];simpa using h2) (k s.heap _ _ (.sc .str))) hs
 | dct XY =>
  obtain⟨key,e1,e2⟩:=ZP.mp (show (Mf t').bind (Zv XY)=some z from e);obtain⟨p,vs,rfl,hz,ns,dd,r⟩:=Br s1;obtain⟨w,ew,rw'⟩:=(M9 key r).1 z e2;exact tail_any dd.typeIs PySem.F.slot_dict_getitem.lookup (wpAny_getItem_of (key_is e1 s2) dd.mapOf ew (k s.heap _ _ (.sc rw'))) hs
 | _=>cases e
theorem Zr.cut(h:Zr g F ts us)(lo hi:ZC):Zr g F (Yp ts lo hi) ((us.drop (HT.Y7 us.length 0 lo)).take (HT.Y7 us.length us.length hi - HT.Y7 us.length 0 lo)):=by
 unfold Yp;rw[h.length];exact A5 _ (A8 _ h)
theorem sl_run{lo hi:ZC}{vl vu:Value}{sl:Addr}(fF:FH F s.heap)(s1:Vu g F s.heap t v)(hs:s.heap.IsSliceOf sl vl vu .none)(pl:IsPart vl lo)(pu:IsPart vu hi)(e:ig t lo hi=some r)(k:Ok g F L s r R) :
  ∃T id,typeLookup (.type T) "__getitem__" = pure (some (.builtin id))/\s.TypeIs v T/\wpAny (model g.prog g.w) A (getItem v (.ref sl)) R E s:=by
 cases t with
 | tup ts =>
  cases e;obtain⟨p,us,rfl,hz,tp,r⟩:=V4 fF s1;refine⟨"tuple",_,slot_tuple_getitem.lookup,tp.typeIs, ?_⟩;have rc:=r.cut lo hi;by_cases hw:HT.Y7 us.length 0 lo=0/\HT.Y7 us.length us.length hi=us.length
  .refine HT.D2 tp hs pl pu (by rw[Jv];exact hw) (k s.heap _ s.toks (.sc ?_));rw[hw.1,hw.2,List.drop_zero,Nat.sub_zero,T0g]at rc;have:=s1.unT
   have e2:Yp ts lo hi=ts:=by
    unfold Yp;rw[r.length,hw.1,hw.2,List.drop_zero,Nat.sub_zero, <-r.length,T0g]
   rw[e2];exact s1
  .refine HT.Nz tp hs pl pu (by rw[Jv];exact hw) ?_ (by rw[Jv];exact hz);rw[show us.toArray.size=us.length by simp,show us.toArray.toList=us by simp];exact k _ _ s.toks (.tup fF rc (by rw[dz,List.length_drop];omega))
 | lst ts =>
  cases e;obtain⟨p,us,m,rfl,hz,ho,r⟩:=Jc s1;have hl:s.heap.IsList p us.toArray:=⟨_,ho,rfl,⟨m,rfl⟩⟩;refine⟨"list",_,slot_list_getitem.lookup,hl.typeIs, ?_⟩;refine wpAny_getItem_list_slice hl hs pl pu .none (by simp) ?_ (by rw[Jv];exact hz);rw[Ww];exact k _ _ s.toks (.lst (r.cut lo hi) (by rw[dz,List.length_drop];omega))
 | str z =>
  obtain⟨hz,e⟩:=Option.ite_none_right_eq_some.mp (show (if z.length<=sizeLine then some (.f (.str (Txt.slice z lo hi))) else none)=some r from e);cases e;cases s1;have q':∀(t':Tok) (tk:Nat),R (.str (Txt.slice z lo hi) t') { s with toks:=tk }:=fun t' tk=>k s.heap _ tk (.sc .str);refine⟨"str",_,PySem.F.slot_str_getitem.lookup,typeIs_str _ _ _, ?_⟩;cases pl with
  | none=>cases pu with
   | none=>exact wpAny_getItem_str_slice (l:=none) (u:=none) (st:=none) hs rfl (post_val_or_str ⟨Jy (Txt.slice_le z _ _) hz,fun t' k=>q' t' k⟩)
   | int j uj=>exact wpAny_getItem_str_slice (l:=none) (u:=some (j,uj)) (st:=none) hs rfl (post_val_or_str ⟨Jy (Txt.slice_le z _ _) hz,fun t' k=>q' t' k⟩)
  | int i ui=>cases pu with
   | none=>exact wpAny_getItem_str_slice (l:=some (i,ui)) (u:=none) (st:=none) hs rfl (post_val_or_str ⟨Jy (Txt.slice_le z _ _) hz,fun t' k=>q' t' k⟩)
   | int j uj=>exact wpAny_getItem_str_slice (l:=some (i,ui)) (u:=some (j,uj)) (st:=none) hs rfl (post_val_or_str ⟨Jy (Txt.slice_le z _ _) hz,fun t' k=>q' t' k⟩)
 | _=>cases e
theorem Kx{h:Heap}(hb:sysModules<h.objs.size):(h.objs.size == sysModules)=false:=B0n.mpr (Ne.symm (Cq hb))
theorem Got.dctN{h h':Heap}{a:Addr}{vs:List (Key×Value)}{XY:ZX}(kp:∀b o,h.get? b=some o->h'.get? b=some o)(n:h.get? a=none)(dd:h'.DictOf (Zk g.prog g.w) a vs)(z:vs.length<=sizeLine)(ns:(a == sysModules)=false)(r:Z9 g F XY vs):Got g F L h h' (.o (.dct XY)) (.ref a):=by
 obtain⟨o,es,ep,e,ex,d,c,pr,nd⟩:=dd;exact .own (fun b o _=>kp b o) (fun _ hn=>hn.keeps kp) rfl n (.mkD e ⟨ex,⟨es,ep,d,c,pr⟩,nd,z,ns⟩ r)
theorem Z9.put'{k:Key}{XY:ZX}{vs:List (Key×Value)}(it:IsT g F t v)(r:Z9 g F XY vs):Z9 g F (Zo XY k t) (stored vs k v):=by
 have hi:(XY.any fun p=>decide (p.1=k))=vs.any fun p=>decide (p.1=k):=by
  induction r with
  | nil=>rfl
  | cons q _ ih=>rw[List.any_cons,List.any_cons,ih,q.1]
 unfold Zo stored;rw[hi]
 split
 .refine Fx (fun x y q=>?_) r;rw[q.1];by_cases e:y.1=k
  .rw[if_pos e,if_pos e];exact⟨rfl,it⟩
  .rw[if_neg e,if_neg e];exact q
 .exact Ga r (.cons ⟨rfl,it⟩ .nil)
theorem xd(hb:sysModules<s.heap.objs.size){XY:ZX}(s1:Vu g F s.heap (.dct XY) v)(k:Ok g F L s (.o (.dct XY)) R):wpAny (model g.prog g.w) A (call (.type "dict") [v]) R E s:=by
 obtain⟨a,vs,rfl,z,ns,dd,r⟩:=Br s1;refine kt_call_dict ns dd z fun h' dd' hs=>?_;exact k h' _ s.toks (.dctN (fun b q hq=>(hs.2 b (Cq (Jw hq))).trans (Y4 _ hq)) (Heap.get?_none_of_le (Gc _)) dd' z (Kx hb) r)
theorem Z9.fold:∀{XY acc:ZX} {rs vs:List (Key×Value)},Z9 g F XY rs->Z9 g F acc vs->Z9 g F (XY.foldl (fun acc kv=>Zo acc kv.1 kv.2) acc) (rs.foldl (fun acc kv=>stored acc kv.1 kv.2) vs)
 | _,_,_,_,.nil,r=>r
 | p::XY,acc,q::rs,vs,.cons h t,r=>by
  rw[List.foldl_cons,List.foldl_cons,h.1];exact Z9.fold t (r.put' h.2)
theorem vd(XY:ZX)(k:Key)(t:T):(Zo XY k t).length<=XY.length+1:=by
 unfold Zo
 split
 .rw[Zu];omega
 .rw[Gn];simp
theorem O2:∀(XY acc:ZX),(XY.foldl (fun acc kv=>Zo acc kv.1 kv.2) acc).length<=acc.length+XY.length
 | [],acc=>by simp
 | p::XY,acc=>by
  have h1:=O2 XY (Zo acc p.1 p.2);have h2:=vd acc p.1 p.2;rw[List.foldl_cons,Jk];omega
theorem vt(fF:FH F s.heap):∀{ts:ZZ} {us:ZK} {XY:ZX},Zr g F ts us->Gi ts=some XY->∃rs,Z9 g F XY rs/\us.length=rs.length/\∀(j:Nat) (k:Key) (v:Value),rs[j]?=some (k,v)->∃p u,us[j]?=some (.ref p)/\IsTup s.heap p #[u,v]/\(Zk g.prog g.w).is k u=true
 | _,_,_,.nil,e=>by cases e;exact⟨[],.nil,rfl,fun j k v h=>by simp at h⟩
 | t::ts,u::us,XY,.cons h r,e=>by
  unfold Gi at e
  split at e
  .rename_i z;cases z
  .rename_i a b q z
   cases z;obtain⟨key,e1,e⟩:=ZP.mp e;obtain⟨Zp,e2,rfl⟩:=Y3.mp e;obtain⟨p,vs,rfl,_,tp,r2⟩:=V4 fF h;obtain⟨u1,u2,rfl,i1,i2⟩:=pr2 r2;obtain⟨rs,g1,g2,g3⟩:=vt fF r e2;refine⟨(key,u2)::rs,.cons ⟨rfl,i2⟩ g1,by rw[Jk,Jk,g2],fun j k v e=>?_⟩;cases j with
   | zero=>cases e;exact⟨p,u1,rfl,tp,key_is e1 (.of fF i1)⟩
   | succ j=>exact g3 j k v e
  .cases e
theorem Hb(hh:A.handled=none)(hb:sysModules<s.heap.objs.size)(fF:FH F s.heap){XY:ZX}(s1:Vu g F s.heap (.lst ts) v)(e:Gi ts=some XY)(k:Ok g F L s (.o (.dct (XY.foldl (fun acc kv=>Zo acc kv.1 kv.2) []))) R):wpAny (model g.prog g.w) A (call (.type "dict") [v]) R E s:=by
 obtain⟨a,us,m,rfl,z,ho,r⟩:=Jc s1;obtain⟨rs,g1,g2,g3⟩:=vt fF r e;refine DicL.Hl (knd:=Zk g.prog g.w) (rs:=rs) hh ho ⟨by rw[Jv];exact g2,fun j k v e=>by obtain⟨p,u,q1,q⟩:=g3 j k v e;exact⟨p,u,by simpa using q1,q⟩⟩ (by omega) (fun p hm=>?_) fun h' tk kp dd=>?_
 .obtain⟨j,hj⟩:=List.mem_iff_getElem?.mp hm;have hj:us[j]?=some (.ref p):=by simpa using hj
  have hjl:j<rs.length:=by rw[<-g2];exact(dw.mp hj).1
  obtain⟨p',u,a1,tp,_⟩:=g3 j _ _ (Wi hjl);rw[hj]at a1;cases a1;exact tp.lt
 .have rr:=Z9.fold g1 (show Z9 g F [] [] from .nil);refine k h' _ tk (.dctN kp (Heap.get?_none_of_le (Gc _)) dd ?_ (Kx hb) ?_)
  .unfold DicP2.stK;rw[T0g, <-rr.length];have:=O2 XY [];have:=g1.length;simp only[List.length_nil,Nat.zero_add]at *;omega
  .unfold DicP2.stK;rw[T0g];exact rr
theorem gx{XY:ZX}{key:Key}(s1:Vu g F s.heap (.dct XY) v)(s2:Vu g F s.heap t u)(e:Mf t=some key)(k:Ok g F L s (.f ((Zv XY key).getD .non)) R):wpAny (model g.prog g.w) A (call (.builtin "dict.get") [v,u]) R E s:=by
 obtain⟨a,vs,rfl,z,ns,dd,r⟩:=Br s1;refine call_meetsIn PySem.F.slot_dict_get dd.typeIs PySem.F.entry_dict_get (PySem.F.args_dict_get_2 _ _) (meets_dict_get (Zk g.prog g.w) a (key_is e s2) ns) ⟨_,dd.mapOf,k s.heap _ _ (.sc ?_)⟩;obtain⟨h1,h2⟩:=M9 key r;cases q:Zv XY key with
 | none=>rw[h2 q];exact .non
 | some x=>obtain⟨w,e1,e2⟩:=h1 x q;rw[e1];exact e2
theorem gz{XY:ZX}{key:Key}{x:T}{w:Value}(s1:Vu g F s.heap (.dct XY) v)(s2:Vu g F s.heap t u)(s3:Vu g F s.heap x w)(c:Wl x=false)(e:Mf t=some key)(k:Ok g F L s (.f ((Zv XY key).getD x)) R):wpAny (model g.prog g.w) A (call (.builtin "dict.get") [v,u,w]) R E s:=by
 obtain⟨a,vs,rfl,z,ns,dd,r⟩:=Br s1;refine call_meetsIn PySem.F.slot_dict_get dd.typeIs PySem.F.entry_dict_get (PySem.F.args_dict_get_3 _ _ _) (meets_dict_get_default (Zk g.prog g.w) a (key_is e s2) ns w) ⟨_,dd.mapOf,k s.heap _ _ (.sc ?_)⟩;obtain⟨h1,h2⟩:=M9 key r;cases q:Zv XY key with
 | none =>
  rw[h2 q];unfold Vu at s3;rw[c]at s3;exact s3
 | some x=>obtain⟨w,e1,e2⟩:=h1 x q;rw[e1];exact e2
end
end PV
namespace TLT
open PySem PySem.Calls PyProof.Rows SeqAt
def Lt1(s:Shared)(c e:Bool)(l:List (Value×Value)):Prop:=(l=[]/\c=e)\/∃x y,l=[(x,y)]/\(∀A,EqAt A s x y false)/\∀(prog:Program) (w:World) (A:Around) (Q E:ZQ),Q (.bool c) s->wpAny (model prog w) A (richCompare .Lt x y) Q E s
theorem j5(l b:Addr)(items items2:ZD)(n n2:Nat)(dd dd2:ZR)(sl sl2:ZY)(c:Bool) :
  Meets (Builtin.«tuple.__lt__» ⟨[.ref l,.ref b],[]⟩)
   (fun A R s=>s.heap.get? l=some { cls:=.type "tuple",dict:=dd,data:=.seq items n,slots:=sl }/\s.heap.get? b=some { cls:=.type "tuple",dict:=dd2,data:=.seq items2 n2,slots:=sl2 } /\
    Lt1 s c (decide (items.size<items2.size)) (items.toList.zip items2.toList)/\R (.ok (.ret (.bool c))) s) :=
 .of_wp fun prog w A R s h=>by
  obtain⟨hp,g,d,tk,os⟩:=s;obtain⟨hl,hb,lx,h⟩:=h;have f2:=AutoSeq1.sub_tuple_tuple
  wp_walk using wpAny_loadPart' hl,wpAny_loadPart' hb,wpAny_forIn_list _ (fun rest b s'=>b.1=none/\s'=⟨hp,g,d,tk,os⟩/\Lt1 ⟨hp,g,d,tk,os⟩ c (decide (items.size<items2.size)) rest) _
  case turn =>
   rintro⟨y,x⟩ rest b s' ⟨hb',rfl,lx⟩;rcases lx with ⟨z,_⟩ | ⟨y',x',e,q1,q2⟩
   .cases z
   .cases e;refine Zq (q1 _ prog w _ _ ?_)
    wp_walk using q2
    exact⟨_,rfl,h⟩
  case fin =>
   rintro⟨b1,b2⟩ s' ⟨z,rfl,lx⟩;rcases lx with ⟨_,e⟩ | ⟨y',x',e,_⟩
   .cases z;subst e
    wp_walk
    exact⟨_,rfl,h⟩
   .cases e
  case h=>exact⟨rfl,rfl,lx⟩
theorem zg{prog:Program}{w:World}{A:Around}{E:ZQ}{s:Shared}{l b:Addr}{items items2:ZD}{c:Bool}{Q:ZQ}(hl:s.heap.IsTuple l items)(hb:s.heap.IsTuple b items2)(hu:A.units<cLine)(lx:Lt1 s c (decide (items.size<items2.size)) (items.toList.zip items2.toList))(h:Q (.bool c) s):wpAny (model prog w) A (richCompare .Lt (.ref l) (.ref b)) Q E s:=by
 obtain⟨o,ho,hc,n,hd⟩:=hl;obtain⟨o2,ho2,hc2,n2,hd2⟩:=hb;cases o with | mk cls dd data sl =>
 cases o2 with | mk cls2 dd2 data2 sl2 =>
 cases hc;cases hd;cases hc2;cases hd2;have fin:Value.bool c≠Value.notImplemented/\Q (.bool c) s:=⟨fun z=>(nomatch z),h⟩;exact richCompare_meets_room (op:=.Lt) ⟨_,ho,rfl⟩ ⟨_,ho2,rfl⟩ F.slot_tuple_lt F.entry_tuple_lt (F.args_tuple_lt_2 _ _) (j5 l b items items2 n n2 dd dd2 sl sl2 c) ⟨ho,ho2,lx,fin⟩ hu
end TLT
namespace L2
open PySem PySem.Spec PyProof.Rows
theorem bz{P:Program}{w:World}{A:Around}{E:ZQ}{s:Shared}{f t:Addr}{name qual:Str}{kV doc pm cdv ct oc:Value}{an od:ZR}{osl:ZY}{p0 p1 p2 p3 p4:Pos}{its:ZK}{k:Int}{tk:Tok}{Q:ZQ}
  (hd:A.depth<recursionLimit) (hf:s.heap.get? f=some ⟨oc,od,.func (W.fnOf name qual (ux "member" p0) [.Return (some (uq "member" p1 p2 p3)) p4] (uz "member") .none kV doc pm an cdv ct),osl⟩) (hc:s.heap.CodeRec cdv qual) (lim:s.heap.NoLimit)
  (ht:IsTup s.heap t (.int k tk::its).toArray) (hz:its.length+1<=sizeLine)
  (h:∀(h':Heap) (tk':Nat) (t':Tok),(∀b o,s.heap.get? b=some o->h'.get? b=some o)->Q (.int k t') { s with heap:=h',toks:=tk' }) :
  wpAny (model P w) A (call (.ref f) [.ref t]) Q E s:=by
 refine wpAny_call ?_;have hb:bindArgs (W.fnOf name qual (ux "member" p0) [.Return (some (uq "member" p1 p2 p3)) p4] (uz "member") .none kV doc pm an cdv ct) ⟨[.ref t],[]⟩=pure [(Str.ofString "member",Value.ref t)]:=by rfl
 refine codeAny_call_function hd hf rfl rfl rfl rfl hc ?_;rw[hb];refine Zt ?_;refine wpAny_newFunctionEnv_cells rfl (fun x hx=>.inl ?_) fun env he s1 x=>?_
 .have e:x=(Str.ofString "member",Value.ref t):=by simpa using hx
  subst e
  rfl
 subst he;refine⟨lim.keeps x.toInCall.keep,codeAny_func ?_⟩;obtain⟨h1,tk1,rfl⟩:=x.toInCall.same;have kp:=x.toInCall.keep;refine wpAny_execs_cons (wpAny_Return_some ?_);refine Subscript_ (wpAny_Name (wpAny_loadName_local rfl rfl x.toInCall.ns rfl ?_) (by decide));refine wpAny_Constant_int ?_;have ht1:IsTup h1 t (.int k tk::its).toArray:=let ⟨o,e1,e2,e3⟩:=ht;⟨o,kp _ _ e1,e2,e3⟩
 refine subscriptTail_builtinR (x:=.int k tk) (show Shared.TypeIs _ (.ref t) "tuple" from let ⟨o,e1,e2,_⟩:=ht1;⟨o,e1,e2⟩) slot_tuple_getitem.lookup
  (getItem_tuple (j:=0) (Q:=fun r s'=>r=.int k tk/\_) ht1 (by decide) (by decide) ?_ (by simp) ⟨rfl, ?_⟩) rfl
 .rw[Jv];exact seqIndex_of (by decide) (by rw[Jk];omega)
 .exact h h1 _ tk kp
end L2
namespace PV
open PySem PySem.Spec PyProof.Rows L2 PySem.W
section
variable{g:Md}{F:OM}{A:Around}{R:ZQ}{E:ZQ}{s:Shared}{a b t t':T}{u v:Value}{r:Bool}{L:Addr}{ts ws:ZZ}{us zs:ZK}
theorem yn(i1:IsT g F a u)(i2:IsT g F b v)(h:pb a b=some r)(prog:Program)(w:World)(A:Around)(Q E:ZQ)(q:Q (.bool r) s):wpAny (model prog w) A (richCompare .Lt u v) Q E s:=by
 unfold pb at h
 split at h
 .cases i1;cases i2;cases h;exact lt_int q
 .cases i1;cases i2;cases h;exact lt_str q
 .rename_i c d
  cases i1;cases i2;cases h;refine lt_bool ?_;have e:decide (b2i c<b2i d)=(!c && d):=by cases c<;>cases d<;>decide
  rw[e];exact q
 .cases h
theorem yc(h:pb a b=some r):Nq a=true/\Nq b=true/\Pg b=none:=by
 unfold pb at h
 split at h<;>first | exact⟨rfl,rfl,rfl⟩ | cases h
theorem lt1_ne(i1:IsT g F a u)(i2:IsT g F b v)(h:pb a b=some r)(e:eqT a b=some false):∀A,SeqAt.EqAt A s u v false:=by
 intro A;obtain⟨_,e⟩:=Sv e;unfold pb at h
 split at h
 .cases i1;cases i2;rw[<-Ms e];exact SeqAt.EqAt.int_int _ _ _ _
 .cases i1;cases i2;rw[<-Ms e];exact SeqAt.EqAt.str_str _ _ _ _
 .cases i1;cases i2;rw[<-Ms e];exact SeqAt.EqAt.bool_bool _ _
 .cases h
theorem I8{j l:Type}{a:List j}{b:List l}(h:a.length=b.length):a.isEmpty=b.isEmpty:=by
 cases a<;>cases b<;>first | rfl | cases h
theorem ltE_at{Q E:ZQ}(fF:FH F s.heap)(hu:A.units<cLine)(i1:IsT g F a u)(i2:IsT g F b v)(ne:eqE a b=some false)(h:ltE a b=some r)(q:Q (.bool r) s):wpAny (model g.prog g.w) A (richCompare .Lt u v) Q E s:=by
 unfold ltE at h
 split at h
 .exact yn i1 i2 h g.prog g.w A Q E q
 .rename_i bs hb
  obtain⟨as,ha,hl⟩:=ZP.mp h
  clear h
  cases Dy hb;cases Dy ha;obtain⟨p,us,rfl,_,tp,av⟩:=V4 fF i1;obtain⟨p',zs,rfl,_,tq,aw⟩:=V4 fF i2;refine TLT.zg tp tq hu ?_ q;show TLT.Lt1 s r _ (us.zip zs);rw[Jv,Jv];cases as with
  | nil =>
   cases hl;cases av;refine .inl ⟨rfl, ?_⟩;rw[I8 aw.length];cases zs<;>rfl
  | cons a r' =>
   cases bs with
   | nil =>
    cases hl;cases aw;exact .inl ⟨List.zip_nil_right,by simp⟩
   | cons b q' =>
    replace hl:(if r'.isEmpty=true/\q'.isEmpty=true then pb a b else none)=some r:=hl
    split at hl
    .rename_i he
     obtain rfl:r'=[]:=List.isEmpty_iff.mp he.1;obtain rfl:q'=[]:=List.isEmpty_iff.mp he.2;obtain⟨x1,rfl,j1⟩:=Tw av;obtain⟨y1,rfl,j2⟩:=Tw aw;obtain⟨f1,f2,f3⟩:=yc hl;obtain⟨e,e1,n2⟩:=ZP.mp (show (eq1 a b).bind (fun x=>(some true).map (x && ·))=some false from ne);have n3:some (e && true)=some false:=n2;rw[Bool.and_true]at n3;cases n3
     have e1:eqT a b=some false:=by
      unfold eq1 at e1;rw[f3]at e1;exact e1
     obtain⟨_,e2⟩:=Sv e1;exact .inr ⟨_,_,rfl,lt1_ne j1 j2 hl e1,fun prog w A Q E q=>yn j1 j2 hl prog w A Q E q⟩
    .cases hl
theorem Og{Q:Bool->Shared->Prop}(fF:FH F s.heap)(hu:A.in1.units<cLine):∀{as bs:ZZ} {us zs:ZK} {c fin:Bool} {i:Nat},G4 as bs=some c->Zr g F as us->Zr g F bs zs->fin=decide (us.length<zs.length)->Q c s->KatLex g.prog g.w A true fin Q (us.zip zs) (i+1) s
 | [],bs,us,zs,c,fin,i,h,a1,a2,ef,q=>by
  cases a1;cases h;subst ef;show Q _ s;rw[I8 a2.length]at q;cases zs<;>exact q
 | a::r,[],us,zs,c,fin,i,h,a1,a2,ef,q=>by
  cases a2;cases a1;cases h;subst ef;rw[List.zip_nil_right];show Q _ s;simpa using q
 | a::r,b::t,us,zs,c,fin,i,h,a1,a2,ef,q=>by
  cases a1 with | cons i1 a1 =>
  cases a2 with | cons i2 a2 =>
  obtain⟨e,e1,h⟩:=ZP.mp (show (eqE a b).bind _=some c from h);rw[List.zip_cons_cons];refine kat_cons (eqE_at hu fF i1 i2 e1 g.prog g.w _ _ ?_);cases e with
  | true =>
   refine kat_yes (Og fF hu h a1 a2 ?_ q);rw[ef,Jk,Jk];exact decide_eq_decide.mpr Nat.succ_lt_succ_iff
  | false =>
   refine kat_no (kat_one _ _ ?_);exact ltE_at fF (Nat.lt_of_succ_lt hu) i1 i2 e1 h q
theorem Te(fF:FH F s.heap):∀{ts:ZZ} {vs:ZK} {us:List (ZZ)},Zr g F ts vs->Ck ts=some us->∀i,i<vs.length->∃p ws k r,vs.getD i .none=.ref p/\IsTup s.heap p ws.toArray/\Zr g F (us.getD i []) ws/\us.getD i []=.int k::r/\us.getD i []∈us/\F p≠none
 | _,_,us,.nil,e,i,hi=>absurd hi (Nat.not_lt_zero _)
 | t::ts,v::vs,us,.cons q r,e,i,hi=>by
  unfold Ck at e
  split at e
  .rename_i z;cases z
  .rename_i z
   cases z;obtain⟨us',e1,rfl⟩:=Y3.mp e;cases i with
   | zero =>
    obtain⟨p,o,ws,rfl,ho,k,ar⟩:=q.unT;exact⟨p,ws,_,_,rfl,k.is (fF _ _ ho),ar,rfl,Yn,by rw[ho];exact fun z=>nomatch z⟩
   | succ i =>
    obtain⟨p,ws,k,r',h1,h2,h3,h4,h5,h6⟩:=Te fF r e1 i (by simpa using hi);exact⟨p,ws,k,r',by simpa using h1,h2,by simpa using h3,by simpa using h4,by simpa using Vk _ h5,h6⟩
  .cases e
theorem oz{s':Shared}{vs:ZK}{us:List (ZZ)}(un:A.units+150<cLine)(fF:FH F s'.heap)(ar:Zr g F ts vs)(e:Ck ts=some us)(all:∀a∈us,∀b∈us,(G4 a b).isSome=true){i j:Nat}(hi:i<vs.length)(hj:j<vs.length){C:Bool->Shared->Prop}{E':ZQ}(hC:C ((G4 (us.getD i []) (us.getD j [])).getD false) s') :
  wpAny (model g.prog g.w) A.in1.in1 (keyLt' (tuples' true) (vs.getD i .none) (vs.getD j .none)) C E' s':=by
 obtain⟨p,ws,k,r,h1,⟨o,g1,g2,n,g3⟩,h3,h4,h5,_⟩:=Te fF ar e i hi;obtain⟨p',ws',k',r',h1',⟨o',g1',g2',n',g3'⟩,h3',h4',h5',_⟩:=Te fF ar e j hj;rw[h1,h1'];obtain⟨c,ec⟩:=Option.isSome_iff_exists.mp (all _ h5 _ h5');rw[ec]at hC;have hC:C c s':=hC;rw[h4]at ec h3;rw[h4']at ec h3';cases h3 with | cons i1 a1 =>
 cases h3' with | cons i2 a2 =>
 cases i1;cases i2
 rename_i t1 _ t2
 refine kat_lt g1 g3 g1' g3' ?_;refine kat_cons (SeqAt.EqAt.int_int k _ k' _ g.prog g.w _ _ ?_);have ec:(if decide (k=k')=true then G4 r r' else ltE (.int k) (.int k'))=some c:=ec;by_cases z:k=k'
 .rw[Ma z,if_pos rfl]at ec;rw[show (k == k')=true from beq_iff_eq.mpr z];refine kat_yes (Og fF (by show A.units+1+1+1<cLine;omega) ec a1 a2 ?_ hC);simp
 .rw[Cw z,if_neg (by decide)]at ec;rw[show (k == k')=false from B0n.mpr z];refine kat_no ?_;cases(show some (decide (k<k'))=some c from ec);exact oneLt_int hC
theorem i6{h h':Heap}{L:Addr}{m m':ZJ}(hn:h.Ns L m)(hm:h.Ns L m')(n:h'.Ns L m):h'.Ns L m':=by
 obtain⟨o,es,ep,e1,d,q1,q2⟩:=n;exact⟨o,es,ep,e1,d,q1,fun x=>(q2 x).trans (Heap.Ns.agree hn hm x)⟩
theorem pick{vs:ZK}(r:Zr g F ts vs):∀(p:List Nat),(∀i∈p,i<vs.length)->Zr g F (p.map fun i=>ts.getD i .non) (p.map fun i=>vs.getD i .none)
 | [],_=>.nil
 | i::p,h=>by
  refine .cons ?_ (pick r p fun j m=>h j (Vk _ m));have hi:i<ts.length:=by rw[r.length];exact h i Yn
  have:=W4 .none r i hi;show IsT g F (ts.getD i .non) (vs.getD i .none);rw[List.getD_eq_getElem?_getD,Wi hi];exact this
theorem wj(un:A.units+150<cLine)(hn:∃m,s.heap.Ns L m)(fF:FH F s.heap)(nL:F L=none)(s1:Vu g F s.heap (.tup ts) v)(e:Pl ts=some ws)(k:Ok g F L s (.o (.lst ws)) R):wpAny (model g.prog g.w) A (call (.builtin "sorted") [v]) R E s:=by
 obtain⟨us,eu,e⟩:=ZP.mp e;obtain⟨a,vs,rfl,z,⟨o,e0,hc,n,hd⟩,r⟩:=V4 fF s1;have vl:=r.length
 split at e
 .cases e;exact Cp (T:="tuple") e0 hc (.inr rfl) hd z (fun A E s D Q o e q=>SRT.X1 (Ok:=fun _=>True) (by omega) A E s D Q o e fun h1 out n k e1 r1=>q h1 out n k e1 (by rw[r1];exact⟨r,rfl⟩)) k
 split at e
 rotate_left
 .cases e
 rename_i hz
 cases e;obtain⟨m,hn⟩:=hn;obtain⟨fr,nw⟩:=Rj hn;refine SRT.B1 e0 hc (.inr rfl) hd z fun h1 D k1 sz T9=>?_;have nDs:s.heap.get? D=none:=Heap.get?_none_of_le sz;have nDL:D≠L:=Nat.ne_of_gt (N0l hn.lt sz)
 have N1:News (Bk s.heap L) L h1 ((D,listOf vs.toArray 0)::D7 s.heap L):=fun p hp=>by
  rcases Vv.mp hp with rfl | hp
  .refine⟨T9,nDL, ?_⟩;cases eo:(Bk s.heap L).get? D with
   | none=>rfl
   | some o=>have:=(Ff eo).1;rw[nDs]at this;cases this
  .exact(nw.grown k1) p hp
 have lt:∀q∈D7 s.heap L,q.1≠D:=fun q hq z=>by have:=(nw q hq).1;rw[z,nDs]at this;cases this
 refine kat_lsort (vs:=vs) (s:={ s with heap:=h1 }) (fr.kept k1) N1 (.head lt) (by simp) (by omega) (by omega) fun e1 h' F' N'=>?_;have N2:News (Bk s.heap L) L h' (D7 s.heap L):=fun p hp=>N' p (Vk _ hp);have kp:∀b o,b≠L->s.heap.get? b=some o->h'.get? b=some o:=M6 F' N2 fun p hp=>hp;have fF':FH F h':=fun a o e=>kp a o (fun z=>by rw[z,nL]at e;cases e) (fF a o e)
 obtain⟨fs,t1,t2,t3⟩:=SRT.Ac (h:=h') (vs:=vs) fun v mv=>by
  obtain⟨i,hi,rfl⟩:=List.getElem_of_mem mv;obtain⟨p,ws,k,r',h1,⟨o,g1,g2,n,g3⟩,h3,h4,_⟩:=Te (s:={ s with heap:=h' }) fF' r eu i hi;rw[List.getD_eq_getElem?_getD,Wi hi]at h1;rw[h4]at h3;cases h3 with | cons i1 a1 =>
  cases i1;exact⟨p,o,_,n,k,_,h1,g1,g2,g3,by simp;rfl⟩
 refine kat_kind (s:={ s with heap:=h' }) (T:=.type "int") t1 (by omega) (fun v m=>?_) rfl ?_
 .obtain⟨i,t,rfl⟩:=t3 v m;exact Looks.of_pure rfl
 rw[show (Value.type "int" != Value.type "tuple")=true by decide];refine SRT.A3 (n:=vs.length) (b:=fun i j=>(G4 (us.getD i []) (us.getD j [])).getD false) (s:={ s with heap:=h' }) (fun i j hi hj C hC=>oz un fF' r eu hz.2 hi hj hC) (SRT.Pa (by omega)) fun pm=>?_;refine KasFin.intro F' N' (g:=fun o=>(D,o)::D7 s.heap L) (.head lt) fun h2 c F2 N3=>?_;have ka:=M6 F2 N3 fun p hp=>Vk _ hp;obtain⟨eD,_,_⟩:=N3 _ Yn;have pl':∀i∈(SRT.runK (fun i j=>(G4 (us.getD i []) (us.getD j [])).getD false) (kas_sort vs.length)).toList,i<vs.length:=fun i mi=>List.mem_range.mp (pm.mem_iff.mp mi);have rp:=pick r _ pl';have sl:=sizeLine_eq
 have ln:((SRT.runK (fun i j=>(G4 (us.getD i []) (us.getD j [])).getD false) (kas_sort vs.length)).toList.map fun i=>vs.getD i .none).length<=sizeLine:=by
  rw[Zu,pm.length_eq,XZ];omega
 refine k h2 _ s.toks (.own (fun b o nb eb=>ka b o nb eb) (fun m' hm=>i6 hn hm F2.ns) rfl nDs ?_);rw[vl];exact .mkL (us:=_) (o:={ cls:=.type "list",data:=.seq _ c }) (by simpa using eD) ⟨ln,c,rfl⟩ rp
theorem qr:∀{kz:ZT} {xs:ZZ} {vs:ZK},Zr g F xs vs->Paired (fun(p:Int×T) (q:Int×Value)=>p.1=q.1/\IsT g F p.2 q.2) (kz.zip xs) (kz.zip vs)
 | [],_,_,_=>.nil
 | _::_,[],_,.nil=>.nil
 | k::kz,_,_,.cons r t=>.cons ⟨rfl,r⟩ (qr t)
theorem E5:∀{qs:List (Int×T)} {ps:List (Int×Value)},Paired (fun(p:Int×T) (q:Int×Value)=>p.1=q.1/\IsT g F p.2 q.2) qs ps->Zr g F (qs.map (·.2)) (ps.map (·.2))/\qs.map (·.1)=ps.map (·.1)
 | _,_,.nil=>⟨.nil,rfl⟩
 | _,_,.cons r t=>⟨.cons r.2 (E5 t).1,by rw[S9,S9,r.1,(E5 t).2]⟩
theorem Oo(fF:FH F s.heap):∀{ts:ZZ} {vs:ZK} {hs:ZT},Zr g F ts vs->G8 ts=some hs->hs.length=vs.length/\∀(i:Nat) (k:Int) (v:Value),hs[i]?=some k->vs[i]?=some v->∃p r tk,v=.ref p/\IsTup s.heap p (.int k tk::r).toArray/\r.length+1<=sizeLine/\F p≠none
 | _,_,hs,.nil,e=>by cases e;exact⟨rfl,fun i k v h=>by simp at h⟩
 | t::ts,v::vs,hs,.cons q r,e=>by
  unfold G8 at e
  split at e
  .rename_i z;cases z
  .rename_i z
   cases z;obtain⟨Tg,e1,rfl⟩:=Y3.mp e;obtain⟨h1,h2⟩:=Oo fF r e1;refine⟨by rw[Jk,Jk,h1],fun i k w hk hw=>?_⟩;cases i with
   | zero =>
    cases hk;cases hw;obtain⟨p,o,ws,rfl,ho,k,ar⟩:=q.unT;cases ar with | cons i1 a1 =>
    cases i1;exact⟨p,_,_,rfl,k.is (fF _ _ ho),k.z,by rw[ho];exact fun z=>nomatch z⟩
   | succ i=>exact h2 i k w hk hw
  .cases e
theorem wk(kf:ij g)(hd:A.depth<recursionLimit)(hn:∃m,s.heap.Ns L m)(kin:g.K.In g.base)(lim:g.base.NoLimit)(hB:∀b o,g.base.get? b=some o->F b=some o)(fF:FH F s.heap)(nL:F L=none){hs:ZT}(s1:Vu g F s.heap (.lst ts) v)(e:G8 ts=some hs)(nd:hs.Nodup)(h64:ts.length<64)(k:Ok g F L s (.o (.lst ((SRT.Eu (hs.zip ts)).map (·.2)))) R) :
  ∃f,g.mg C9=some (.ref f)/\wpAny (model g.prog g.w) A (call (.builtin "sorted") [v] [(Str.ofString "key",.ref f)]) R E s:=by
 obtain⟨f,name,qual,kV,doc,pm,cdv,ct,oc,an,od,osl,p0,p1,p2,p3,p4,lk,Rq,hm⟩:=kf;refine⟨f,hm, ?_⟩;obtain⟨l,vs,n,rfl,z,ho,r⟩:=Jc s1;have pl:s.heap.IsList l vs.toArray:=⟨_,ho,rfl,⟨n,rfl⟩⟩;obtain⟨m,hn⟩:=hn;obtain⟨fr,nw⟩:=Rj hn;have vl:=r.length;obtain⟨hl,hk⟩:=Oo fF r e;refine ksk_sorted (b:=false) (vs:=vs) (kz:=hs) (f:=.ref f) fr nw pl hl (by omega) (ksk_s1 _ _) (fun _=>ksk_l1 _ _) (fun a=>ksk_t1 f a) (fun i v kk hv hkk h' tk own f' n'=>?_) fun D h' tk out c f' n' hD ko=>?_
 .have ka:=M6 f' n' fun q hq=>List.mem_append_left _ hq;obtain⟨t,ys,tt,rfl,⟨o,e1,e2,e3⟩,tz,nF⟩:=hk i kk v hkk hv;have nt:∀{b:Addr},F b≠none->b≠L:=fun h z=>h (z ▸ nL);have tp':IsTup h' t _:=⟨o,ka _ _ (nt nF) e1,e2,e3⟩;have lb:∀b o,g.base.get? b=some o->h'.get? b=some o:=fun b o e=>ka b o (nt (by rw[hB b o e];exact fun z=>nomatch z)) (fF b o (hB b o e));have kx:=kin.keeps lb;refine bz (s:={ heap:=h',gens:=s.gens,drawn:=s.drawn,toks:=tk,os:=s.os }) hd (kx _ _ lk) (W.codeRec_of kx Rq) (lim.keeps lb) tp' tz fun h2 tk2 t2 kp=>?_;exact KskEnd.intro ⟨f'.ns.keeps kp,fun b o e=>kp _ _ (f'.keep b o e),f'.above⟩ (fun q hq=>let ⟨a1,a2,a3⟩:=n' q hq;⟨kp _ _ a1,a2,a3⟩) (fun q hq=>hq)
 .have ka:=M6 f' n' fun q hq=>Vk _ hq;obtain⟨eD,nDL,lD⟩:=n' (D,seqObj "list" out c) Yn;have nD:=i7 n' hD;obtain⟨ps1,pm2,eo,pw⟩:=ko;obtain⟨qs,pq,qp⟩:=SetM.Ge pm2 (qr (kz:=hs) r);obtain⟨rq,eq⟩:=E5 pq
  have pw1:(qs.map (·.1)).Pairwise (·<=·):=by
   rw[eq];exact List.pairwise_map.mpr (pw.imp fun q=>by simpa using q)
  have nd1:(qs.map (·.1)).Nodup:=by
   have:(qs.map (·.1)).Perm ((hs.zip ts).map (·.1)):=qp.map _;rw[List.map_fst_zip (by omega)]at this;exact this.nodup_iff.mpr nd
  have lt:qs.Pairwise (fun a b=>a.1<b.1):=by
   have:=List.pairwise_map.mp (List.Pairwise.and pw1 nd1);exact this.imp fun⟨a,b⟩=>by omega
  have es:=SRT.cn qp lt;refine k h' _ tk (.own (fun b o nb eb=>ka b o nb eb) (fun m' hm=>i6 hn hm f'.ns) rfl nD ?_);rw[<-es];refine Fg (n:=c) eD (by rw[eo];exact rq) ?_;rw[<-Ln,eo,Zu, <-pq.length,qp.length_eq,List.length_zip];omega
theorem Ir:∀{zs:ZT} {n:Int} {j:Nat},Ou n zs=some j->zs[j]?=some n/\∀m,m<j->zs[m]?≠some n
 | [],_,_,e=>by cases e
 | z::r,n,j,e=>by
  unfold Ou at e
  split at e
  .rename_i h;cases e;subst h;exact⟨rfl,fun m h=>absurd h (Nat.not_lt_zero m)⟩
  .rename_i h
   obtain⟨i,e1,rfl⟩:=Y3.mp e;obtain⟨h1,h2⟩:=Ir e1;refine⟨h1,fun m hm=>?_⟩;cases m with
   | zero=>exact fun q=>h (Ms q)
   | succ m=>exact h2 m (Nat.lt_of_succ_lt_succ hm)
theorem ur{n:Int}{zs:ZT}{j:Nat}(s1:Vu g F s.heap (.lst ts) v)(s2:Vu g F s.heap (.int n) u)(e:G6 ts=some zs)(e2:Ou n zs=some j)(k:Ok g F L s (.f (.int j)) R):wpAny (model g.prog g.w) A (call (.builtin "list.index") [v,u]) R E s:=by
 obtain⟨a,us,m,rfl,z,ho,r⟩:=Jc s1;cases s2
 rename_i tz
 obtain⟨rfl,ia⟩:=Ba r e;obtain⟨hj,hno⟩:=Ir e2;have il:us.length=zs.length:=by rw[<-r.length,Zu]
 have hjl:=(dw.mp hj).1;have hsm:(j:Int)<2 ^ 63 - 1:=by have:=sizeLine_eq;omega
 have at':∀(i:Nat) (h:i<us.length),∃t,us[i]=.int (zs[i]'(by omega)) t:=fun i h=>by
  have:=W4 .none r i (by rw[Zu];omega);rw[List.getElem_map,List.getD_eq_getElem?_getD,Wi h]at this;have this:IsT g F (.int zs[i]) us[i]:=this;generalize us[i]=y at this ⊢;cases this;exact⟨_,rfl⟩
 let ev:Value->Bool:=fun y=>match y with
  | .int i _=>i == n
  | _=>false
 refine call_meets PySem.F.slot_list_index ⟨_,ho,rfl⟩ PySem.F.entry_list_index (PySem.F.args_list_index_2 _ _) (SeqAt.list_indexAt a us.toArray m none #[] (.int n tz) ev j (by simp;omega) hsm ?_ fun i hm h2=>?_) ⟨ho,fun y hy=>?_,k s.heap _ _ (.sc .int)⟩
 .simp only[List.getElem_toArray];obtain⟨t,et⟩:=at' j (by omega);rw[et];show (zs[j] == n)=true;rw[Wi hjl]at hj;exact beq_iff_eq.mpr (Ms hj)
 .simp only[List.getElem_toArray];have hi:i<us.length:=by simpa using hm
  obtain⟨t,et⟩:=at' i hi;rw[et];show (zs[i]'(by omega) == n)=false;refine B0n.mpr fun q=>hno i h2 ?_;rw[Wi (show i<zs.length by omega),q]
 .obtain⟨i,hi,rfl⟩:=List.getElem_of_mem (show y∈us by simpa using hy);obtain⟨t,et⟩:=at' i hi;rw[et];exact SeqAt.EqAt.int_int _ _ _ _
end
end PV
namespace EX
open PySem
def QV(h:Heap)(vs:ZD):Prop:=vs[1]?=some .none\/∃T oT ts,vs[1]?=some (.ref T)/\h.get? T=some oT/\oT.data=.fields ts/\ts[3]?=some .none
section
variable{M:Model}{A:Around}{E:ZQ}{s:Shared}{env:Env}{outer:List Env}{base:Heap}{L e T:Addr}{oe:Obj}{vs:ZD}{Q:ZH}
theorem P9(Dt:A.frames=some (env::outer))(hl:s.heap.FunFrames base (env::outer))(hf:env.frame=some L)
  (he:s.heap.get? e=some oe) (hd:oe.data=.fields vs) (hq:QV s.heap vs)
  (h:∀h' T,Xm (env::outer) e T oe s.heap h'->Q () { s with heap:=h' }):wpAny M A (noteFrame (.ref e) env) Q E s:=by
 rcases hq with h1 | ⟨T0,oT,ts,h1,hT,z8,h3⟩
 .exact yq Dt hl hf he hd h1 h
 have hz:1<vs.size:=(Array.getElem?_eq_some_iff.mp h1).1;have hne:=Lj hl he hd;unfold noteFrame;simp only[hf];refine Zq (wpAny_field he hd h1 ?_);rw[if_pos (show (Value.ref T0 != Value.none)=true from by simp)];refine Zq (wpAny_field hT z8 h3 ?_);rw[if_neg (show ¬ ((Value.none == rawInt L)=true) from by simp[rawInt])];refine Zq (wpAny_setField hT z8 (Array.getElem?_eq_some_iff.mp h3).1 ?_);rw[Heap.update_setField_same _ _ _ _ _ _ hT z8 h3];refine Zq (wpAny_frameOf_fun Dt hl hf fun h₁ sl=>Zq (wpAny_entryPlaceOf fun pl hpl=>?_));unfold EntryCells.newEntry newFields;refine Zq (wpAny_newObj_type ?_ (hpl.sizeOk5 _ _ _ _ _));have e1:h₁.get? e=some oe:=(sl.2.1 e hne).trans he;have z1:h₁.objs.size=s.heap.objs.size:=sl.1;refine wpAny_setField (Y4 _ e1) hd hz (h _ h₁.objs.size ⟨fun b o hb hn q=>?_,fun b o hb q=>?_, ?_,Nat.le_of_eq z1.symm, ?_⟩)
 .exact(Heap.get?_update_other _ _ (Ne.symm hb)).trans (Y4 _ ((sl.2.1 b hn).trans q))
 .obtain⟨x,q'⟩:=sl.2.2 b o q;exact⟨x,(Heap.get?_update_other _ _ (Ne.symm hb)).trans (Y4 _ q')⟩
 .exact Heap.get?_update_self _ (Y4 _ e1) (Obj.isFreed_of_fields (Obj.data_mapFields hd _))
 .refine⟨_,_,(Heap.get?_update_other _ _ (Cq (Jw e1))).trans (Gb h₁ rfl),rfl, ?_⟩;simp only[Jv,Gn,Jk,List.length_nil];omega
theorem ya(Dt:A.frames=some (env::outer))(hl:s.heap.FunFrames base (env::outer))(hf:env.frame=some L)
  (he:s.heap.get? e=some oe) (hd:oe.data=.fields vs) (hq:QV s.heap vs)
  (h:∀h1 h2 T,Xm (env::outer) e T oe s.heap h1->(∀b,b≠T->h2.get? b=h1.get? b)->QV h2 (vs.setIfInBounds 1 (.ref T))->Q () { s with heap:=h2 }):wpAny M A (leaving env (.ref e)) Q E s:=by
 have hz:1<vs.size:=by
  rcases hq with h1 | ⟨_,_,_,h1,_⟩
  .exact(Array.getElem?_eq_some_iff.mp h1).1
  .exact(Array.getElem?_eq_some_iff.mp h1).1
 unfold leaving;refine Zq (P9 Dt hl hf he hd hq fun g1 T N=>?_);obtain⟨oT,ts,hT,z8,hz3⟩:=N.tb;have v1:(vs.setIfInBounds 1 (.ref T))[1]?=some (.ref T):=by simp[hz]
 refine wpAny_setFlight_none (s:={ s with heap:=g1 }) N.exc (Obj.data_mapFields hd _) v1 hT z8 hz3 (h g1 _ T N (fun b hb=>Heap.get?_update_other _ _ (Ne.symm hb)) (.inr ⟨T,_,_,v1,Heap.get?_update_self _ hT (Obj.isFreed_of_fields (Obj.data_mapFields z8 _)),Obj.data_mapFields z8 _, ?_⟩));simp[hz3]
end
end EX
namespace PV
open PySem PySem.Spec PyProof.Rows L2
open Classical in
noncomputable def GG(F:OM)(p:P)(j:Vs)(L:Nat->Prop)(h:Heap):OM:=fun a=>if F a≠none\/∃i t,L i/\p[i]?=some (Sl.o t)/\j[i]?=some (some (.ref a)) then none else h.get? a
section
variable{X Y:Cx}{F F':OM}{p p2 q:P}{V τ:Vs}{s s':Shared}{L:Nat->Prop}{h:Heap}{a:Addr}
theorem M8{o:Obj}(n:F a=none)(l:∀i t,L i->p[i]?=some (Sl.o t)->V[i]?≠some (some (.ref a)))(e:h.get? a=some o):GG F p V L h a=some o:=by
 unfold GG;rw[if_neg (fun z=>z.elim (fun z=>z n) fun⟨i,t,h1,h2,h3⟩=>l i t h1 h2 h3)];exact e
theorem O0(n:F a≠none):GG F p V L h a=none:=if_pos (.inl n)
theorem Ia{i:Nat}{t:T}(l:L i)(e:p[i]?=some (Sl.o t))(e2:V[i]?=some (some (.ref a))):GG F p V L h a=none:=if_pos (.inr ⟨i,t,l,e,e2⟩)
theorem Fe(n:h.get? a=none):GG F p V L h a=none:=by
 unfold GG
 split
 .rfl
 .exact n
theorem M4{b:Addr}{m:ZJ}{h':Heap}(k:∀o,h.get? b=some o->∃sl,h'.get? b=some { o with slots:=sl })(hn:h.Ns b m):h'.Ns b m:=by
 obtain⟨o,es,ep,e1,d,q⟩:=hn;obtain⟨sl,e'⟩:=k o e1;exact⟨_,es,ep,e',d,q⟩
theorem Inv.stackKp(I:Inv X F p V s){b:Addr}(hb:b∈K8 X.stack):X.kp b:=(I.stackSub hb).elim (fun z=>.inr (.inl z)) fun z=>.inl (I.ok.fg b z)
theorem Inv.kpF(I:Inv X F p V s)(k:X.kp a):F a=none:=by
 cases e:F a with
 | none=>rfl
 | some o=>exact absurd k (I.f a o e).2
structure Sub(X:Cx)(F:OM)(p:P)(V:Vs)(s:Shared)(L:Nat->Prop)(Y:Cx):Prop where
 md:Y.toMd=X.toMd
 G:Y.G=GG F p V L s.heap
 out:Y.outer=X.stack
 F0:Y.F0=F
 os:Y.os=s.os
theorem Sub.kp(S:Sub X F p V s L Y)(I:Inv X F p V s)(k:X.kp a):Y.kp a:=by
 obtain⟨o,e⟩:=I.kpAt k;refine .inl ?_;rw[S.G,M8 (I.kpF k) (fun i t _ e1 e2=>?_) e]
 .exact fun z=>nomatch z
 .obtain⟨b,h1,h2⟩:=I.r.ow i t e1;rw[e2]at h1;cases h1;exact h2.k k
theorem Sub.own(S:Sub X F p V s L Y)(I:Inv X F p V s){i:Nat}{t:T}(e:p[i]?=some (Sl.o t))(e2:V[i]?=some (some (.ref a)))(n:¬ L i):∃o,s.heap.get? a=some o/\Y.G a=some o:=by
 obtain⟨b,h1,h2⟩:=I.r.ow i t e;rw[e2]at h1;cases h1;obtain⟨o,eo⟩:=h2.at;refine⟨o,eo, ?_⟩;rw[S.G];exact M8 h2.f (fun j u l e3 e4=>n (I.r.ap j i u t a e3 e e4 e2 ▸ l)) eo
theorem Cz.ofY(S:Sub X F p V s L Y)(I:Inv X F p V s){t:T}(o:Cz Y F' h a t):Cz X F' h a t:=⟨o.c,o.f,fun z=>o.k (S.kp I z),S.md ▸ o.t⟩
theorem Inv.exit(I:Inv X F p V s)(S:Sub X F p V s L Y)(J:Inv Y F' q τ s'){ι:Nat->ZL}(hf:∀(i:Nat) (t:T),p2[i]?=some (Sl.f t)->p[i]?=some (Sl.f t)\/∃k:Nat,q[k]?=some (Sl.f t)/\τ[k]?=V[i]?)
  (ho:∀(i:Nat) (t:T),p2[i]?=some (Sl.o t)->(p[i]?=some (Sl.o t)/\¬ L i)\/∃k:Nat,q[k]?=some (Sl.o t)/\τ[k]?=V[i]?/\ι k=some i) (ln:p2.length=p.length) :
  Le F F'/\Inv X F' p2 V s'/\∀r v,Res Y F' q τ s'.heap r v->Res X F' p2 V s'.heap r v:=by
 have l:Le F F':=S.F0 ▸ J.le
 have yf:∀{b:Addr} {o:Obj},Y.G b=some o->F' b=none:=fun {b o} e=>by
  cases z:F' b with
  | none=>rfl
  | some x=>exact absurd (.inl (by rw[e];exact fun z=>nomatch z)) (J.f b x z).2
 have kp:∀b o,X.kp b->s.heap.get? b=some o->Kp (K8 X.stack) s'.heap b o:=fun b o k e=>by
  rw[<-S.out];refine J.g b o ?_;rw[S.G];refine M8 (I.kpF k) (fun i t _ e1 e2=>?_) e;obtain⟨b',h1,h2⟩:=I.r.ow i t e1;rw[e2]at h1;cases h1;exact h2.k k
 have rel:Rel X F' p2 V s'.heap:=by
  refine⟨fun i t e=>?_,fun i t e=>?_,fun i j t u a e1 e2 h1 h2=>?_,ln.trans I.r.ln⟩
  .rcases hf i t e with e | ⟨k,e1,e2⟩
   .obtain⟨v,h1,h2⟩:=I.r.fz i t e;exact⟨v,h1,h2.up l⟩
   .obtain⟨v,h1,h2⟩:=J.r.fz k t e1;exact⟨v,e2.symm.trans h1,S.md ▸ h2⟩
  .obtain⟨pt,nl⟩ | ⟨k,ek,es,_⟩:=ho i t e
   .obtain⟨a,h1,w⟩:=I.r.ow i t pt;obtain⟨o,e1,e2⟩:=S.own I pt h1 nl;refine⟨a,h1,w.to l (yf e2) fun x ex=>?_⟩;obtain⟨sl,e3,n⟩:=J.g a o e2;rw[e1]at ex;cases ex;rw[S.out]at n;rw[e3,n fun z=>w.k (I.stackKp z)]
   .obtain⟨a,h1,w⟩:=J.r.ow k t ek;exact⟨a,es.symm.trans h1,w.ofY S I⟩
  .have no:∀{i k:Nat} {t u:T},p[i]?=some (Sl.o t)->¬ L i->V[i]?=some (some (.ref a))->q[k]?=some (Sl.o u)->τ[k]?=some (some (.ref a))->False:=fun {i k t u} g1 g2 g3 g4 g5=>by
    obtain⟨o,_,e2⟩:=S.own I g1 g3 g2;obtain⟨b,z,w⟩:=J.r.ow k u g4;rw[g5]at z;cases z;exact w.k (.inl (by rw[e2];exact fun z=>nomatch z))
   obtain⟨pt,nl⟩ | ⟨k,ek,es,ei⟩:=ho i t e1<;>obtain⟨pt',nl'⟩ | ⟨k',ek',N5,ei'⟩:=ho j u e2
   .exact I.r.ap i j t u a pt pt' h1 h2
   .exact(no pt nl h1 ek' (N5.trans h2)).elim
   .exact(no pt' nl' h2 ek (es.trans h1)).elim
   .have:=J.r.ap k k' t u a ek ek' (es.trans h1) (N5.trans h2);subst this;rw[ei]at ei';exact Ms ei'
 refine⟨l,I.step (J.os.trans S.os) J.bare l (fun a o e=>⟨(J.f a o e).1,fun z=>(J.f a o e).2 (S.kp I z)⟩) (fun a o k _ e=>kp a o k e) (fun m hn=>M4 (fun o e=>let ⟨sl,e',_⟩:=kp _ o (.inr (.inl rfl)) e;⟨sl,e'⟩) hn) rel,fun r v rs=>?_⟩;cases r with
 | no=>exact rs
 | f t=>exact(show IsT X.toMd F' t v from S.md ▸ (show IsT Y.toMd F' t v from rs))
 | o t =>
  obtain⟨a,rfl,w,n⟩:=rs;refine⟨a,rfl,w.ofY S I,fun i u e z=>?_⟩;obtain⟨pt,nl⟩ | ⟨k,ek,es,_⟩:=ho i u e
  .obtain⟨o,e1,e2⟩:=S.own I pt z nl;exact w.k (.inl (by rw[e2];exact fun z=>nomatch z))
  .exact n k u ek (es.trans z)
structure iw(X:Cx)(F:OM)(h:Heap)(e:Addr)(c:Str)(t:T):Prop where
 f:F e=none
 k:¬ X.kp e
 ex:∃o u vs,h.get? e=some o/\Ex X.toMd F o c u/\IsT X.toMd F t u/\o.data=.fields vs/\EX.QV h vs
theorem iw.ofY{e:Addr}{c:Str}{t:T}(S:Sub X F p V s L Y)(I:Inv X F p V s)(x:iw Y F' h e c t):iw X F' h e c t:=⟨x.f,fun z=>x.k (S.kp I z),S.md ▸ x.ex⟩
theorem Ex.tb{g:Md}{o:Obj}{c:Str}{u v:Value}(h:Ex g F o c u):Ex g F (o.mapFields (·.setIfInBounds 1 v)) c u:=by
 obtain⟨vs,e,z⟩:=h.fs;obtain⟨cl,od,d,sl⟩:=o;dsimp only at e;subst e;exact⟨h.cl,⟨_,rfl,by rw[Array.size_setIfInBounds];exact z⟩,h.dc⟩
theorem Cz.neX{e:Addr}{t:T}{o:Obj}{vs:ZD}(w:Cz X F h a t)(ho:h.get? e=some o)(hd:o.data=.fields vs):a≠e:=by
 rintro rfl;have hc:=w.c;have ht:=w.t;cases t with
 | lst ts =>
  obtain⟨b,x,us,e1,e2,k,_⟩:=ht.unL;cases e1;obtain⟨_,n,rfl⟩:=k;rw[ho]at e2;cases e2;cases hd
 | dct ts =>
  obtain⟨b,x,us,e1,e2,k,_⟩:=ht.unD;cases e1;obtain⟨es,ep,d,_⟩:=k.es;rw[ho]at e2;cases e2;rw[d]at hd;cases hd
 | _=>cases hc
theorem Inv.noted{e T':Addr}{oe:Obj}{vs:ZD}{h1 h2:Heap}(I:Inv X F p V s)(fe:F e=none)(ke:¬ X.kp e)(he:s.heap.get? e=some oe)(hd:oe.data=.fields vs)(N:EX.Xm X.stack e T' oe s.heap h1)(k2:∀b,b≠T'->h2.get? b=h1.get? b):Inv X F p V { s with heap:=h2 }:=by
 have nT:∀{b:Addr} {o:Obj},s.heap.get? b=some o->b≠T':=fun {b o} q z=>Nat.lt_irrefl _ (N0l (Jw (z ▸ q)) N.new);have kk:∀{b:Addr} {o:Obj},b≠e->b ∉ K8 X.stack->s.heap.get? b=some o->h2.get? b=some o:=fun {b o} n1 n2 q=>(k2 b (nT q)).trans (N.keep b o n1 n2 q);have sl:∀{b:Addr} {o:Obj},b≠e->s.heap.get? b=some o->∃x,h2.get? b=some { o with slots:=x }:=fun {b o} n1 q=>let ⟨x,q'⟩:=N.slot b o n1 q;⟨x,(k2 b (nT q)).trans q'⟩;refine I.step rfl I.bare (.refl F) (fun a o q=>?_) (fun a o k _ q=>?_) (fun m hn=>M4 (fun o q=>sl (fun z=>ke (z ▸ .inr (.inl rfl))) q) hn) (I.r.to (.refl F) fun i t a e1 e2=>?_)
 .obtain⟨q1,q2⟩:=I.f a o q;exact⟨kk (fun z=>by rw[z,fe]at q;cases q) (fun z=>q2 (I.stackKp z)) q1,q2⟩
 .have ne:a≠e:=fun z=>ke (z ▸ k);by_cases hb:a∈K8 X.stack
  .obtain⟨x,q'⟩:=sl ne q;exact⟨x,q',fun z=>absurd hb z⟩
  .exact .same (kk ne hb q)
 .obtain⟨b,g1,w⟩:=I.r.ow i t e1;rw[e2]at g1;cases g1;exact⟨w.f,fun x=>kk (w.neX he hd) fun z=>w.k (I.stackKp z)⟩
end
structure Q2(k:Nat)(A:Around):Prop where
 hd:A.handled=none
 dp:A.depth+3 * k+5<recursionLimit
 un:A.units+16 * k+200<cLine
 gd:A.guards=some []
theorem Q2.deeper{k:Nat}{A:Around}(r:Q2 (k+1) A)(env:Env):Q2 k (A.deeper env) :=
 ⟨r.hd,by have:=r.dp;show A.depth+1+3 * k+5<_;omega,by have:=r.un;show A.units+3+16 * k+200<_;omega,r.gd⟩
theorem args_get:∀{as:List A} {p:P} {sl:List Sl},args p as=some sl->sl.length=as.length/\(∀(i:Nat) (s:Sl),sl[i]?=some s->(∃t,as[i]?=some (.t t)/\s=.f t)\/∃j t,as[i]?=some (.s j)/\s=.o t/\p[j]?=some (.o t)) /\
  (∀(i:Nat) (j:Nat),as[i]?=some (.s j)->∃t,sl[i]?=some (.o t)/\p[j]?=some (.o t))/\∀(i k j:Nat),as[i]?=some (.s j)->as[k]?=some (.s j)->i=k
 | [],p,sl,e=>by cases e;exact⟨rfl,fun i s h=>by simp at h,fun i j h=>by simp at h,fun i k j h=>by simp at h⟩
 | .t t::r,p,sl,e=>by
  obtain⟨q,e1,rfl⟩:=Y3.mp (show (args p r).map (.f t::·)=some sl from e);obtain⟨h1,h2,h3,h4⟩:=args_get e1;refine⟨by rw[Jk,Jk,h1],fun i s h=>?_,fun i j h=>?_,fun i k j a b=>?_⟩
  .cases i with
   | zero=>cases(Ms h);exact .inl ⟨t,rfl,rfl⟩
   | succ i=>exact h2 i s h
  .cases i with
   | zero=>cases h
   | succ i=>exact h3 i j h
  .cases i with
   | zero=>cases a
   | succ i=>cases k with
    | zero=>cases b
    | succ k=>exact congrArg _ (h4 i k j a b)
 | .s l::r,p,sl,e=>by
  unfold args at e
  split at e
  .rename_i t et
   obtain⟨q,e1,rfl⟩:=Y3.mp e;obtain⟨h1,h2,h3,h4⟩:=args_get e1
   have up:∀{j:Nat} {u:T},(p.set l .no)[j]?=some (Sl.o u)->j≠l/\p[j]?=some (Sl.o u):=fun {j u} h=>by
    rcases Yq h with ⟨_,z⟩ | h
    .cases z
    .exact h
   refine⟨by rw[Jk,Jk,h1],fun i s h=>?_,fun i j h=>?_,fun i k j a b=>?_⟩
   .cases i with
    | zero=>cases(Ms h);exact .inr ⟨l,t,rfl,rfl,et⟩
    | succ i=>exact(h2 i s h).imp id fun⟨j,u,g1,g2,g3⟩=>⟨j,u,g1,g2,(up g3).2⟩
   .cases i with
    | zero=>cases h;exact⟨t,rfl,et⟩
    | succ i=>obtain⟨u,g1,g2⟩:=h3 i j h;exact⟨u,g1,(up g2).2⟩
   .cases i with
    | zero=>cases a;cases k with
     | zero=>rfl
     | succ k=>obtain⟨u,_,g2⟩:=h3 k l b;exact absurd rfl (up g2).1
    | succ i=>cases k with
     | zero=>cases b;obtain⟨u,_,g2⟩:=h3 i l a;exact absurd rfl (up g2).1
     | succ k=>exact congrArg _ (h4 i k j a b)
  .cases e
theorem Fq:∀{as:List A} {sl:List Sl} {p0 p q:P} {ts:ZZ},args p0 as=some sl->G1 sl q=some ts ->
  ∃p2,outs p as ts=some p2/\p2.length=p.length/\∀(i:Nat) (s:Sl),p2[i]?=some s->(p[i]?=some s/\∀k:Nat,as[k]?≠some (.s i))\/∃(k:Nat) (x:Sl),as[k]?=some (.s i)/\q[k]?=some x/\s=mkO (leftT x)
 | [],sl,p0,p,q,ts,e,eo=>by
  cases e;have:ts=[]:=by cases q<;>(cases eo;rfl)
  subst this;exact⟨p,rfl,rfl,fun i s h=>.inl ⟨h,fun k z=>by simp at z⟩⟩
 | .t t::r,sl,p0,p,q,ts,e,eo=>by
  obtain⟨sl',e1,rfl⟩:=Y3.mp (show (args p0 r).map (.f t::·)=some sl from e);cases q with
  | nil=>cases eo
  | cons x q =>
  obtain⟨p2,h1,h2,h3⟩:=Fq (p:=p) e1 (show G1 sl' q=some ts from eo);refine⟨p2,h1,h2,fun i s h=>?_⟩;rcases h3 i s h with ⟨a,b⟩ | ⟨k,y,a,b,c⟩
  .refine .inl ⟨a,fun k z=>?_⟩;cases k with
   | zero=>cases z
   | succ k=>exact b k z
  .exact .inr ⟨k+1,y,a,b,c⟩
 | .s l::r,sl,p0,p,q,ts,e,eo=>by
  unfold args at e
  split at e
  .rename_i t et
   obtain⟨sl',e1,rfl⟩:=Y3.mp e;cases q with
   | nil=>cases eo
   | cons x q =>
   obtain⟨ts',e2,rfl⟩:=Y3.mp (show (G1 sl' q).map (leftT x::·)=some ts from eo);obtain⟨p2,h1,h2,h3⟩:=Fq (p:=p.set l (mkO (leftT x))) e1 e2;refine⟨p2,h1,h2.trans (XX ..),fun i s h=>?_⟩;rcases h3 i s h with ⟨a,b⟩ | ⟨k,y,a,b,c⟩
   .rcases Yq a with ⟨z1,z2⟩ | ⟨n,a⟩
    .exact .inr ⟨0,x,by rw[z1];rfl,rfl,z2⟩
    .refine .inl ⟨a,fun k z=>?_⟩;cases k with
     | zero=>cases z;exact n rfl
     | succ k=>exact b k z
   .exact .inr ⟨k+1,y,a,b,c⟩
  .cases e
theorem mkO_o{x:Sl}{t:T}(h:mkO (leftT x)=.o t):x=.o t:=by
 cases x with
 | o u=>cases u<;>cases h<;>rfl
 | f u=>cases h
 | no=>cases h
theorem Fb:∀{as:List A} {p:P},(Oy p as).length=p.length/\∀(i:Nat) (s:Sl),(Oy p as)[i]?=some s->(p[i]?=some s/\∀k:Nat,as[k]?≠some (.s i))\/s=.no
 | [],p=>⟨rfl,fun i s h=>.inl ⟨h,fun k z=>by simp at z⟩⟩
 | .t t::r,p=>by
  obtain⟨h1,h2⟩:=Fb (as:=r) (p:=p);refine⟨h1,fun i s h=>(h2 i s h).imp (fun⟨a,b⟩=>⟨a,fun k z=>?_⟩) id⟩;cases k with
  | zero=>cases z
  | succ k=>exact b k z
 | .s l::r,p=>by
  obtain⟨h1,h2⟩:=Fb (as:=r) (p:=p.set l .no);refine⟨h1.trans (XX ..),fun i s h=>?_⟩;rcases h2 i s h with ⟨a,b⟩ | z
  .rcases Yq a with ⟨_,z⟩ | ⟨n,a⟩
   .exact .inr z
   .refine .inl ⟨a,fun k z=>?_⟩;cases k with
    | zero=>cases z;exact n rfl
    | succ k=>exact b k z
  .exact .inr z
def CE(X:Cx)(F:OM)(p:P)(j:Vs)(as:List A)(R:Sl×ZZ->Prop)(v:Value)(s':Shared):Prop:=∃F' p2 r ts,Le F F'/\outs p as ts=some p2/\Inv X F' p2 j s'/\Res X F' p2 j s'.heap r v/\R (r,ts)
def CX(X:Cx)(F:OM)(p:P)(j:Vs)(as:List A)(R:Lc->Prop)(v:Value)(s':Shared):Prop:=∃F' e c t,v=.ref e/\Le F F'/\Inv X F' (Oy p as) j s'/\iw X F' s'.heap e c t/\R (c,t)
def FnP(g:Md)(C:Cs)(k:Nat)(f:Str):Prop:=∀(a:Addr),g.mg f=some (.ref a)->∀(X:Cx) (F:OM) (p:P) (j:Vs) (s:Shared) (as:List A) (us:ZK) (sl:List Sl) (R:Sl×ZZ->Prop) (Xe:Lc->Prop),X.toMd=g->Q2 k X.A->Inv X F p j s->Paired (Ar X F j) as us->args p as=some sl->C f sl R Xe ->
 wpAny (model X.prog X.w) X.A (call (.ref a) us) (CE X F p j as R) (CX X F p j as Xe) s
noncomputable def start(N:ZG)(us:ZK):Vs:=us.map some++List.replicate (N.length - us.length) none
abbrev Kr(as:List A)(i:Nat):Prop:=∃k:Nat,as[k]?=some (.s i)
noncomputable def Wn(X:Cx)(F:OM)(p:P)(j:Vs)(s:Shared)(as:List A)(sl:List Sl)(us:ZK)(N:ZG)(qual:Str)(scope:Scope)(f:Addr)(cd:Value)(xe:ZQ):Cx where
 toMd:=X.toMd
 A:=X.A.deeper (envOfC qual scope s.heap.objs.size f cd)
 N:=N
 env:=envOfC qual scope s.heap.objs.size f cd
 outer:=X.stack
 stack:=envOfC qual scope s.heap.objs.size f cd::X.stack
 own:=true
 calm:=true
 os:=s.os
 G:=GG F p j (Kr as) s.heap
 F0:=F
 σ0:=start N us
 pt:=Yk sl
 xe:=xe
section
variable{X:Cx}{F:OM}{p:P}{V:Vs}{s s1:Shared}{as:List A}{sl:List Sl}{us:ZK}{N ps:ZG}{qual:Str}{scope:Scope}{f:Addr}{cd:Value}{xe:ZQ}
theorem sub_cx:Sub X F p V s (Kr as) (Wn X F p V s as sl us N qual scope f cd xe):=⟨rfl,rfl,rfl,rfl,rfl⟩
theorem Vm{i:Nat}(h:i<us.length):(start N us)[i]?=some (us[i]?):=by
 unfold start;rw[List.getElem?_append_left (by rw[Zu];exact h),G0m,Wi h]
 rfl
theorem zo(I:Inv X F p V s)(S:U2 N ps scope)(hd:X.A.handled=none)(ar:Paired (Ar X F V) as us)(ea:args p as=some sl)(hl:us.length=ps.length)
  (x:InCallC s s.heap.objs.size (bindL (envOfC qual scope s.heap.objs.size f cd).kindOf (ps.zip us) fun _=>none) (cellsFrom (s.heap.objs.size+1) scope.names []) (bindC (envOfC qual scope s.heap.objs.size f cd).kindOf (ps.zip us) fun _=>none) s1) :
  Inv (Wn X F p V s as sl us N qual scope f cd xe) F (sl++List.replicate (N.length - sl.length) .no) (start N us) s1:=by
 have hpl:ps.length<=N.length:=by have:=congrArg List.length S.pre;rw[dz]at this;omega
 obtain⟨h1,tk,rfl,hk⟩:=x.done;obtain⟨a1,a2,a3,a4⟩:=args_get ea;have al:=ar.length;have new:∀{b:Addr},s.heap.objs.size<=b->s.heap.get? b=none:=fun h=>Heap.get?_none_of_le h
 have mn:∀{b:Addr},(Wn X F p V s as sl us N qual scope f cd xe).mn b->s.heap.get? b=none:=fun {b} h=>by
  rcases h with rfl | ⟨_,y,e⟩
  .exact new (Gc _)
  .exact new (Nat.le_of_lt (x.above y b (PySem.mem_of_lookup e)))
 have nokp:∀{b:Addr} {o:Obj},s.heap.get? b=some o->GG F p V (Kr as) s.heap b=none->¬ (Wn X F p V s as sl us N qual scope f cd xe).kp b:=fun {b o} e g h=>by
  rcases h with h | h
  .exact h g
  .rw[mn h]at e;cases e
 have sz:∀{i:Nat} {q:Sl},(sl++List.replicate (N.length - sl.length) Sl.no)[i]?=some q->q≠.no->sl[i]?=some q/\i<us.length:=fun {i q} h n=>by
  rw[List.getElem?_append]at h
  split at h
  .rename_i hi;exact⟨h,by omega⟩
  .rw[List.getElem?_replicate]at h
   split at h
   .cases h;exact absurd rfl n
   .cases h
 have own:∀{i:Nat} {t:T},sl[i]?=some (Sl.o t)->∃j a,as[i]?=some (.s j)/\p[j]?=some (Sl.o t)/\us[i]?=some (.ref a)/\V[j]?=some (some (.ref a))/\Cz X F s.heap a t:=fun {i t} h=>by
  rcases a2 i _ h with ⟨u,_,z⟩ | ⟨j,u,h2,z,h3⟩
  .cases z
  .cases z;obtain⟨v,hv,r⟩:=Y1 ar h2;obtain⟨a,g1,w⟩:=I.r.ow j t h3;rw[show V[j]?=some (some v) from r]at g1;cases g1;exact⟨j,a,h2,h3,hv,r,w⟩
 refine⟨⟨I.ok.mod,S.kind,rfl,rfl, ?_,fun y z c e1 e2=>name_of_addr x.apart (PySem.mem_of_lookup e1) (PySem.mem_of_lookup e2),fun y hy=>?_,fun _=>hd,Around.frames_deeper I.ok.frames,.inr ⟨rfl,rfl⟩,fun a o e=>I.le a o (I.ok.b a o e),fun b hb=>?_,fun a ma=>Fe (mn ma),fun y c _=>.inl rfl⟩,
  rfl,I.bare,.refl F,fun a o e=>?_,fun a o e=>.same (hk a o ?_),Uz (fun b _ o e=>⟨o.slots,hk b o e⟩) I.stack,⟨_,x.toInCall.ns,fun i y v e1 e2=>?_⟩,fun y c e=>⟨_,x.cell y c e⟩, ?_, ?_,fun _ _=>rfl⟩
 .exact Nat.le_of_lt (N0o I.ok.ab I.lt)
 .have hy:scope.names.lookup y=some .cell\/scope.names.lookup y=some .free:=hy;rcases hy with hy | hy
  .exact Nl hy
  .exact absurd rfl (S.nofree _ (PySem.mem_of_lookup hy))
 .have k:=I.stackKp hb;obtain⟨o,e⟩:=I.kpAt k;rw[show (Wn X F p V s as sl us N qual scope f cd xe).G b=some o from M8 (I.kpF k) (fun i t _ q1 q2=>?_) e]
  .exact fun z=>nomatch z
  .obtain⟨c,g1,w⟩:=I.r.ow i t q1;rw[q2]at g1;cases g1;exact w.k k
 .obtain⟨h1,_⟩:=I.f a o e;exact⟨hk a o h1,nokp h1 (O0 (by rw[e];exact fun z=>nomatch z))⟩
 .have e:GG F p V (Kr as) s.heap a=some o:=e;unfold GG at e
  split at e
  .cases e
  .exact e
 .have hi:i<us.length:=by
   refine Nat.lt_of_not_le fun z=>?_;unfold start at e2;rw[List.getElem?_append_right (by simpa using z),List.getElem?_replicate]at e2
   split at e2<;>cases e2
  rw[Vm hi]at e2;have hu:=Ms e2
  have hp:ps[i]?=some y:=by
   rw[<-S.pre,List.getElem?_take_of_lt (by omega)];exact e1
  have ndP:ps.Nodup:=by rw[<-S.pre];exact S.nd.sublist (List.take_sublist _ _)
  rcases S.par y (List.mem_of_getElem? hp) with k | k
  .exact .inl ⟨k,Jj ndP hp hu k⟩
  .obtain⟨c,e⟩:=Nl (n:=s.heap.objs.size+1) k;refine .inr ⟨.inl k,c,e, ?_⟩;have q:=x.cell y c e;rw[Bp ndP hp hu (by show scope.names.lookup y≠_;rw[k];decide)]at q;exact q
 .unfold start;show _=N.length;rw[Gn,Zu,List.length_replicate];omega
 .refine⟨fun i t e=>?_,fun i t e=>?_,fun i j t u a e1 e2 g1 g2=>?_, ?_⟩
  .obtain⟨e,hi⟩:=sz e fun z=>nomatch z;rcases a2 i _ e with ⟨u,h2,z⟩ | ⟨j,u,h2,z,_⟩
   .cases z;obtain⟨v,hv,r⟩:=Y1 ar h2;exact⟨v,by rw[Vm hi,hv],r⟩
   .cases z
  .obtain⟨e,hi⟩:=sz e fun z=>nomatch z;obtain⟨j,a,h2,h3,h4,h5,w⟩:=own e;obtain⟨o,eo⟩:=w.at;exact⟨a,by rw[Vm hi,h4],w.c,w.f,nokp eo (Ia ⟨i,h2⟩ h3 h5),(w.t.to (D':=h1.get?) w.c (hk a))⟩
  .obtain⟨e1,i1⟩:=sz e1 fun z=>nomatch z;obtain⟨e2,i2⟩:=sz e2 fun z=>nomatch z;obtain⟨k,b,h2,h3,h4,h5,_⟩:=own e1;obtain⟨l,c,h2',h3',h4',h5',_⟩:=own e2;rw[Vm i1,h4]at g1;cases g1;rw[Vm i2,h4']at g2;cases g2;have z:=I.r.ap k l t u a h3 h3' h5 h5';subst z;exact a4 i j k h2 h2'
  .unfold start;simp only[Gn,Zu,List.length_replicate];omega
end
end PV
namespace L2
open PySem PySem.Spec PyProof.Rows
noncomputable def Gv:ZK:=[.type "ValueError",.type "Exception",.type "BaseException",.type "object"]
noncomputable def C3:ZK->Bool
 | .ref _::r=>C3 r
 | l=>l == Gv
theorem W2(self:Value):∀{l:ZK},C3 l=true->refuseLoop self "__setattr__" l=pure ()
 | [],e=>by cases e
 | v::r,e=>by
  cases v with
  | ref c=>rw[refuseLoop_ref];exact W2 self (l:=r) e
  | type n=>rw[show (Value.type n::r)=Gv from beq_iff_eq.mp e];exact PySem.F.store_ValueError.passes self
  | _=>cases(show _=Gv from beq_iff_eq.mp e)
structure Wu(K:W.Frag)(C:Addr):Prop where
 sa:W.findIn K (.ref C) "__setattr__" = some (some (.builtin "object.__setattr__"))
 ga:W.findIn K (.ref C) "__getattribute__" = some (some (.builtin "BaseException.__getattribute__"))
 hk:W.findIn K (.ref C) "__getattr__" = some none
 ca:W.findIn K (.ref C) "__class__" = some (some (.builtin "object.__class__"))
 be:W.mroIn K C (.type "BaseException")=some true
 ob:W.mroIn K C (.type "object")=some true
 hd:W.hasDictIn K C=true
 ty:W.typeIn K (.ref C)=some (.type "type")
 rf:((W.clsIn K C).any fun cd=>C3 cd.mro)=true
 gs:W.specialIn K (.builtin "object.__class__") "__get__" = some (some (.builtin "getset_descriptor.__get__"))
 tk:W.takesIn K (.builtin "object.__class__")=some true
theorem w7:EX.Q0:=⟨PySem.F.store_object.slot,PySem.F.store_object.entry,PySem.F.store_object.kind,PySem.F.store_object.split,PySem.F.store_object.args⟩
section
variable{K:W.Frag}{C x:Addr}{M:Model}{h:Heap}{f:Str}{o:Obj}
theorem Wu.setOk(c:Wu K C)(X:K.In h)(n:Q4 K C f)(hx:h.get? x=some o)(hc:o.cls=.ref C):EX.m4 M h x C f:=by
 refine⟨W.looks_findIn X c.sa,W.looks_findIn X n, ?_,W.looks_mroIn X c.ob, ?_⟩
 .obtain⟨cd,Fh,e⟩:=W.any_some c.rf;have hm:W.Looks M h (mroOf (.ref C)) cd.mro:=(W.looks_clsIn X Fh).andThen .now;intro A Q E s k q;rw[refuse_eq];refine Zq (EX.Dv hx hc _ _ _ _ k (Zq (hm _ _ _ _ k ?_)));rw[W2 _ e];exact Zt q
 .obtain⟨cd,Fh,e⟩:=W.any_some c.hd;exact⟨cd,W.looks_clsIn X Fh,e⟩
theorem Wu.getOk(c:Wu K C)(X:K.In h)(n:Q4 K C f):EX.Zz3 M h C f:=by
 obtain⟨cd,Fh,e⟩:=W.any_some c.hd;exact⟨W.looks_findIn X c.ga,W.looks_findIn X c.hk,W.looks_findIn X n,W.looks_mroIn X c.be,cd,W.looks_clsIn X Fh,e⟩
end
noncomputable def xIn(K:W.Frag)(C:Addr):Bool :=
 match K.lookup C with
 | some ⟨.type "type",_,.cls cd,⟨[_,_,_,_,some (.builtin n),_]⟩⟩=>match cd.mro with
  | .ref C'::bm=>C' == C && n == "ValueError.__new__" && !cd.hasDel && W.tailIn K Gv bm
  | _=>false
 | _=>false
theorem x_cls{K:W.Frag}{h:Heap}{C:Addr}(X:K.In h)(q:xIn K C=true):∃nm qn N bs bm z7 sn sub ab col dd k0 k1 k2 k3 k5,
  h.get? C=some (excClassObj nm qn C N bs bm z7 sn sub ab col dd k0 k1 k2 k3 k5 "ValueError.__new__")/\OwnTail h Gv bm:=by
 unfold xIn at q
 split at q
 .rename_i dd cd k0 k1 k2 k3 n k5 ho
  split at q
  .rename_i C' bm hm
   simp only[Vp,beq_iff_eq,Bool.not_eq_true']at q;obtain⟨⟨⟨rfl,rfl⟩,hdel⟩,ht⟩:=q;obtain⟨nm,bs,mro,ns,qn,hd,sn,sub,ab,col,del⟩:=cd;dsimp only at hm hdel;subst hm;subst hdel;exact⟨nm,qn,ns,bs,bm,hd,sn,sub,ab,col,dd,k0,k1,k2,k3,k5,X _ _ ho,W.tail_of_in X ht⟩
  .cases q
 .cases q
theorem Ki{K:W.Frag}{M:Model}{h:Heap}{C:Addr}(k:K.In h)(e:(W.clsIn K C).isSome=true):EX.Lk M h (isType (.ref C)) true:=by
 unfold W.clsIn at e
 split at e
 .rename_i ho;exact EX.is_cls (k _ _ ho) rfl
 .cases e
theorem Wu.here{K:W.Frag}{C:Addr}(c:Wu K C):(W.clsIn K C).isSome=true:=by
 obtain⟨cd,e,_⟩:=W.any_some c.hd;rw[e];rfl
end L2
namespace PV
open PySem PySem.Spec PyProof.Rows L2
structure dj(K:W.Frag)(fi:Addr)(fld:Str):Prop where
 ex:∃(name qual y:Str) (st:Stmt) (oc:Value) (od:ZR) (kV doc pm:Value) (an:ZR) (cdv ct:Value) (osl:ZY) (p1 p2 p3 p4:Pos),
  K.lookup fi=some ⟨oc,od,.func (W.fnOf name qual (Vx st) (Z0 st) (Zx st) .none kV doc pm an cdv ct),osl⟩/\W.codeIn K cdv qual=true/\U2 ["self",y] ["self",y] (Zx st) /\
  (Zx st).names.lookup ("self" : Str)=some NameKind.local/\(Zx st).names.lookup y=some NameKind.local/\(y == ("__debug__" : Str))=false/\Z0 st=[.Assign [.Attribute (.Name "self" p1) fld p2] (.Name y p3) p4] /\
  ∀us:ZK,us.length=2->bindArgs (W.fnOf name qual (Vx st) (Z0 st) (Zx st) .none kV doc pm an cdv ct) ⟨us,[]⟩=pure ([("self" : Str),y].zip us)
structure XF(g:Md)(d:qf)(C:Addr)(fi:Addr):Prop where
 m:g.mg d.c=some (.ref C)
 c:Wu g.K C
 no:Q4 g.K C d.fld
 made:xIn g.K C=true
 init:W.findIn g.K (.ref C) "__init__" = some (some (.ref fi))
 fn:W.isFn g.K (.ref fi)=true
 kp:W.keepIn g.K (.ref C)=true
 i:dj g.K fi d.fld
theorem Kb{A:Around}{C:Addr}{us:ZK}:(A.under (.builtin "type.__call__" ⟨.ref C::us,[]⟩)).depth=A.depth+1:=by
 first | rfl | simp[Around.under,Code.weight,Code.isCreation,Code.isGuard,Code.isCaller,Code.frames,Code.isFrame,guardIds]
section
variable{X:Cx}{F:OM}{p:P}{j:Vs}{s:Shared}{d:qf}{C fi:Addr}{t:T}{u:Value}
theorem px(xf:XF X.toMd d C fi)(hf:xw d.c=d.fld)(I:Inv X F p j s)(hd:X.A.depth+5<recursionLimit)(it:IsT X.toMd F t u){Q:ZQ}
  (k:∀F' s' e o vs,Le F F'->Inv X F' p j s'->iw X F' s'.heap e d.c t->s'.heap.get? e=some o->o.cls=.ref C->o.data=.fields vs->vs[1]?=some .none->Q (.ref e) s'):WP X (call (.ref C) [u]) Q s:=by
 obtain⟨nm,qn,N,bs,bm,z7,sn,sub,ab,col,dd,k0,k1,k2,k3,k5,hC,T⟩:=x_cls I.kIn xf.made;obtain⟨name,qual,y,st,oc,od,kV,doc,pm,an,cdv,ct,osl,p1,p2,p3,p4,lk,Rq,S,l1,l2,ly,hb,ba⟩:=xf.i.ex;obtain⟨hh,gg,dr,tk,os⟩:=s;have kin:X.K.In hh:=I.kIn;have lim:hh.NoLimit:=I.ok.mod.nolimit.keeps I.bk;have mk:∀b o,hh.get? b=some o->(EX.made hh C [u]).get? b=some o:=EX.Dm;refine EX.fx PySem.F.excBase_ValueError T hC (W.looks_findIn kin xf.init) (W.looks_typeIn kin (beq_iff_eq.mp xf.fn)) (show 1<=sizeLine by decide) ?_;have d1:=Kb (A:=X.A) (C:=C) (us:=[u]);have kin1:X.K.In (EX.made hh C [u]):=kin.keeps mk;refine wpAny_call (codeAny_mono (R:=fun r s'=>match r with | .ok (.ret v)=>v=.none/\Q (.ref (hh.objs.size+1)) s' | .ok _=>False | .error e=>X.xe e s') ?_ fun r s' hq=>hq);refine codeAny_call_function (by omega) (kin1 _ _ lk) rfl S.co S.gen rfl (W.codeRec_of kin1 Rq) (BindsTo.of_eq (ba [.ref (hh.objs.size+1),u] rfl) _ _ _ _ ?_)
 refine wpAny_newFunctionEnv_cells S.kind (fun⟨n,v⟩ hy=>by
  simp only[List.zip_cons_cons,List.zip_nil_right,Vv,Tz,or_false,Prod.mk.injEq]at hy;rcases hy with ⟨rfl,rfl⟩ | ⟨rfl,rfl⟩
  .exact .inl l1
  .exact .inl l2) fun env he s1 x1=>?_
 subst he;refine⟨(lim.keeps mk).keeps x1.toInCall.keep,codeAny_func ?_⟩;have hn:=x1.toInCall.ns;obtain⟨h1,tk1,rfl,hk⟩:=x1.done;have e1:h1.get? (hh.objs.size+1)=some (EX.aj C hh.objs.size):=hk _ _ EX.Iy;have nd:=S.nd;show wpAny _ _ (execs (Z0 st) _) _ _ _;rw[hb];have S0:=xf.c.setOk (M:=model X.prog X.w) (h:=h1) (kin1.keeps hk) xf.no e1 rfl;have m1:bindL (envOfC qual (Zx st) (EX.made hh C [u]).objs.size fi cdv).kindOf ([("self" : Str),y].zip [.ref (hh.objs.size+1),u]) (fun _=>none) ("self" : Str)=some (.ref (hh.objs.size+1)):=Jj (i:=0) S.nd rfl rfl l1;have m2:bindL (envOfC qual (Zx st) (EX.made hh C [u]).objs.size fi cdv).kindOf ([("self" : Str),y].zip [.ref (hh.objs.size+1),u]) (fun _=>none) y=some u:=Jj (i:=1) S.nd rfl rfl l2;refine wpAny_execs_cons (plainObj_wpAny_Assign_Attribute (wpAny_Name (wpAny_loadName_local S.kind l2 hn m2 (wpAny_Name (wpAny_loadName_local S.kind l1 hn m1 ?_) rfl)) ly) rfl);refine EX.X4 w7 S0 e1 rfl rfl rfl fun h' tk' kp e2 ns=>wpAny_execs_nil ?_;refine⟨rfl, ?_⟩;have K0:∀b o,hh.get? b=some o->h'.get? b=some o:=fun b o e=>kp b o (fun z=>by rw[z,Heap.get?_none_of_le (Nat.le_succ _)]at e;cases e) (hk _ _ (mk _ _ e))
 have sp:hh.get? h1.objs.size=none:=by
  cases z:hh.get? h1.objs.size with
  | none=>rfl
  | some o=>exact absurd (Jw (hk _ _ (mk _ _ z))) (Nat.lt_irrefl _)
 have ne':hh.get? (hh.objs.size+1)=none:=Heap.get?_none_of_le (Nat.le_succ _)
 have fe:∀{b:Addr},hh.get? b=none->F b=none:=fun {b} z=>by
  cases q:F b with
  | none=>rfl
  | some o=>rw[show hh.get? b=some o from I.fh _ _ q]at z;cases z
 obtain⟨oD,es,ep,eD,dD,sD,uD,fD⟩:=ns;have l:Le F (F.put h1.objs.size oD):=.put (fe sp);have ne:hh.objs.size+1≠h1.objs.size:=fun z=>Nat.lt_irrefl _ (z ▸ Jw e1);refine k (F.put h1.objs.size oD) _ (hh.objs.size+1) _ #[.ref hh.objs.size,.none,.none,.none,.bool false,.none] l (I.more (h':=h') (t:=tk') (fun b o _=>K0 b o) (fun m hn=>hn.keeps K0) l fun a o e=>?_) ⟨?_,fun z=>?_,_,u,_,e2,⟨⟨C,rfl,xf.m⟩,⟨_,rfl,rfl⟩,h1.objs.size,oD,_,rfl,Gu,fun h e=>⟨oD,es,ep,e,dD,sD,fD⟩,by rw[hf];exact if_pos rfl⟩,it.up l,rfl,.inl rfl⟩ e2 rfl rfl rfl
 .by_cases z:a=h1.objs.size
  .subst z;rw[Gu]at e;cases e;exact .inr ⟨sp,eD⟩
  .rw[Gh z]at e;exact .inl e
 .rw[Gh ne];exact fe ne'
 .obtain⟨o,e⟩:=I.kpAt z;rw[show hh.get? _=_ from ne']at e;cases e
end
def Fo(X:Cx)(F:OM)(p:P)(j:Vs)(h:Heap)(D:En):Flow->Prop
 | .next=>D.nx p
 | .brk=>D.bk p
 | .cont=>D.ct p
 | .ret v=>∃r,Res X F p j h r v/\D.rt r p
def SP(X:Cx)(F:OM)(D:En)(fl:Flow)(s':Shared):Prop:=∃F' p' σ',Le F F'/\Inv X F' p' σ' s'/\Fo X F' p' σ' s'.heap D fl
def SB(w:W)(b:S)(X:Cx)(xs:List Stmt):Prop:=∀(F:OM) (p:P) (j:Vs) (s:Shared) (D:En),Inv X F p j s->wS w X.pt b p D->WP X (execs xs X.env) (SP X F D) s
def SS(w:W)(b:S)(X:Cx)(st:Stmt):Prop:=∀(F:OM) (p:P) (j:Vs) (s:Shared) (D:En),Inv X F p j s->wS w X.pt b p D->WP X (exec st X.env) (SP X F D) s
theorem SP.le{X:Cx}{F0 F:OM}{D:En}{fl:Flow}{s':Shared}(l:Le F0 F)(h:SP X F D fl s'):SP X F0 D fl s':=let ⟨F',p',σ',l',h⟩:=h;⟨F',p',σ',l.trans l',h⟩
def qw(X:Cx)(w:W):Prop:=∀(F:OM) (p:P) (j:Vs) (s:Shared) (e:Addr) (c:Str) (t:T),Inv X F p j s->iw X F s.heap e c t->w.xe (c,t) p->X.xe (.ref e) s
noncomputable def Dw:ZG:=["len","all","any","list","tuple","min","max","int","abs","dict","isinstance","sorted","set","range","zip","enumerate","sum","repr","str","bool"]
def TopF(g:Md)(x:Str)(XY:ZX):Prop:=∃a vs,g.mg x=some (.ref a)/\g.base.DictOf (Zk g.prog g.w) a vs/\(a == sysModules)=false/\vs.length<=sizeLine/\Z9 g g.base.get? XY vs
structure BN(g:Md):Prop where
 b:∀x∈Dw,g.mg x=none
 d:∀x∈Dz,∃a,g.mg x=some (.ref a)/\W.keepIn g.K (.ref a)=true
 t:∀x XY,Cg x=some XY->TopF g x XY
 k:Dz.contains C9=true->ij g
 x:∀d∈D3,∃C fi,XF g d C fi
 h:∀c∈xl,∃D,g.mg c=some (.ref D)/\Wu g.K D/\∀d∈D3,∀C,g.mg d.c=some (.ref C)->W.mroIn g.K C (.ref D)=some (Pt d.c c)
structure Ct(X:Cx)(w:W)(k:Nat)(N:ZG)(sc:ZW):Prop where
 nN:X.N=N
 nd:N.Nodup
 nm:∀x c,sc.lookup x=some c->X.env.scope.names.lookup x=some c\/(c=.free/\X.env.scope.names.lookup x=some .cell)
 room:X.calm=true->Q2 k X.A
 un:X.A.units+150<cLine
 gd:X.A.guards=some []
 bn:BN X.toMd
 fn:∀f as R Xe,w.C f as R Xe->FnP X.toMd w.C k f
 gl:∀x t,w.gl x=some t->∃v,X.mg x=some v/\IsT X.toMd X.base.get? t v
 xe:qw X w
 cl:∀x,sc.lookup x=some .cell->X.own=true
 calm:X.calm=true
section
variable{X:Cx}{F:OM}{p:P}{j:Vs}{s s1:Shared}{as:List A}{sl:List Sl}{us:ZK}{N ps:ZG}{qual:Str}{scope:Scope}{f:Addr}{cd:Value}{xe:ZQ}{R:Sl×ZZ->Prop}{Xe:Lc->Prop}
theorem yu{Y:Cx}{F':OM}{q:P}{τ:Vs}{s':Shared}{e:Addr}{c:Str}{t:T}{M:Model}{Q:ZH}{E:ZQ}(J:Inv Y F' q τ s')(x:iw Y F' s'.heap e c t)(G7:Y.stack=Y.env::Y.outer)(Dt:Y.env.frame=some Y.env.locals)
  (k:∀h',Inv Y F' q τ { s' with heap:=h' }->iw Y F' h' e c t->Q () { s' with heap:=h' }):wpAny M Y.A (leaving Y.env (.ref e)) Q E s':=by
 obtain⟨o,u,vs,he,hx,ht,hd,qv⟩:=x.ex;have fr:Y.A.frames=some (Y.env::Y.outer):=by rw[J.ok.frames,G7]
 have hl:s'.heap.FunFrames Y.base (Y.env::Y.outer):=by rw[<-G7];exact J.stack
 refine EX.ya fr hl Dt he hd qv fun g1 g2 T' N k2 qv2=>?_;have nT:e≠T':=fun z=>Nat.lt_irrefl _ (N0l (Jw (z ▸ he)) N.new);refine k g2 (J.noted (T':=T') x.f x.k he hd (by rw[G7];exact N) k2) ⟨x.f,x.k,_,u,_,(k2 e nT).trans N.exc,hx.tb,ht,Obj.data_mapFields hd _,qv2⟩
theorem xh{Y:Cx}(I:Inv X F p j s)(S:Sub X F p j s (Kr as) Y)(ea:args p as=some sl)(ar:Paired (Ar X F j) as us)(hpt:Y.pt=Yk sl)(hσ:Y.σ0=start N us){F':OM}{q:P}{τ:Vs}{s':Shared}(J:Inv Y F' q τ s'){ts:ZZ}(eo:G1 sl q=some ts) :
  ∃p2,outs p as ts=some p2/\Le F F'/\Inv X F' p2 j s'/\∀r v,Res Y F' q τ s'.heap r v->Res X F' p2 j s'.heap r v:=by
 obtain⟨a1,a2,a3,a4⟩:=args_get ea;obtain⟨p2,o1,o2,o3⟩:=Fq (p:=p) ea eo;refine⟨p2,o1,I.exit (ι:=fun k=>match as[k]? with | some (.s i)=>some i | _=>none) S J (fun i t e=>?_) (fun i t e=>?_) o2⟩
 .rcases o3 i _ e with ⟨h,_⟩ | ⟨k,x,_,_,z⟩
  .exact .inl h
  .exact absurd z.symm mkO_f
 .rcases o3 i _ e with ⟨h,n⟩ | ⟨k,x,h1,h2,z⟩
  .exact .inl ⟨h,fun⟨k,hk⟩=>n k hk⟩
  .obtain⟨u,g1,g2⟩:=a3 k i h1;obtain⟨v,hv,r⟩:=Y1 ar h1;refine .inr ⟨k,by rw[h2,mkO_o z.symm], ?_,by rw[h1]⟩;rw[J.pr k (by rw[hpt];unfold Yk;rw[g1]),hσ,Vm (dw.mp hv).1,hv];exact r.symm
theorem xr{Y:Cx}(I:Inv X F p j s)(S:Sub X F p j s (Kr as) Y){F':OM}{q:P}{τ:Vs}{s':Shared}(J:Inv Y F' q τ s'):Le F F'/\Inv X F' (Oy p as) j s':=by
 obtain⟨o2,o3⟩:=Fb (as:=as) (p:=p);have:=I.exit (p2:=Oy p as) (ι:=fun _=>none) S J (fun i t e=>(o3 i _ e).elim (fun h=>.inl h.1) fun z=>nomatch z) (fun i t e=>(o3 i _ e).elim (fun h=>.inl ⟨h.1,fun⟨k,hk⟩=>h.2 k hk⟩) fun z=>nomatch z) o2;exact⟨this.1,this.2.1⟩
end
structure Zc(K:W.Frag)(x:Str)(st:Stmt)(f:Addr)(fd:FuncData):Prop where
 ex:∃(oc:Value) (od:ZR) (kV doc pm:Value) (an:ZR) (cdv ct:Value) (osl:ZY),fd=W.fnOf x x (Vx st) (Z0 st) (Zx st) .none kV doc pm an cdv ct/\K.lookup f=some ⟨oc,od,.func fd,osl⟩/\W.codeIn K cdv x=true
 kp:W.keepIn K (.ref f)=true
theorem fn_of{g:Md}{x:Str}{st:Stmt}{f:Addr}{fd:FuncData}{N ps:ZG}{k:Nat}{d:Df}{C C':Cs}{gl:Str->Option T}(Fn:Zc g.K x st f fd)(hm:g.mg x=some (.ref f))(S:U2 N ps (Zx st))(hn:N.length=d.n)(ha:ps.length=d.ar)(hb:Binds g.K fd ps [])
  (hC:∀as R Xe,C' x as R Xe->Wy d ⟨C,gl,fun e _=>Xe e⟩ as R)
  (body:∀(Y:Cx) (w:W),Y.toMd=g->Y.env.scope=Zx st->Y.N=N->Y.own=true->Y.calm=true->Y.stack=Y.env::Y.outer->Y.env.frame=some Y.env.locals->Q2 k Y.A->w.C=C->w.gl=gl->qw Y w->PassesOwn (model Y.prog Y.w) Y.A Y.env Y.xe->SB w d.code Y (Z0 st)):FnP g C' (k+1) x:=by
 intro f' hm' X F p j s as us sl R Xe hX hr I ar ea hc;subst hX;have e0:f=f':=by rw[hm]at hm';cases hm';rfl
 subst e0;have hc:=hC sl R Xe hc;unfold Wy at hc;obtain⟨oc,od,kV,doc,pm,an,cdv,ct,osl,rfl,lk,Rq⟩:=Fn.ex;obtain⟨a1,a2,a3,a4⟩:=args_get ea;have al:=ar.length
 split at hc
 rotate_left
 .exact hc.elim
 rename_i hal
 have hl:us.length=ps.length:=by omega
 have KX:X.K.In s.heap:=I.kIn;have lim:s.heap.NoLimit:=I.ok.mod.nolimit.keeps I.bk
 have hkind:∀y∈ps.zip us,(Zx st).names.lookup y.1=some .local\/((Zx st).names.lookup y.1=some .cell/\((cellsFrom (s.heap.objs.size+1) (Zx st).names []).lookup y.1).isSome=true):=fun⟨n,v⟩ hy=>by
  rcases S.par n (List.of_mem_zip hy).1 with q | q
  .exact .inl q
  .exact .inr ⟨q,PySem.W.cellsFrom_some _ _ _ (.inl q)⟩
 have bb:=hb s us KX (by rw[ZE];exact hl);rw[ZE]at bb;refine wpAny_call (codeAny_mono (R:=fun r s'=>match r with | .ok (.ret v)=>CE X F p j as R v s' | .ok _=>False | .error e=>CX X F p j as Xe e s') ?_ fun r s' hq=>hq);refine codeAny_call_function (by have:=hr.dp;omega) (KX _ _ lk) rfl S.co S.gen rfl (PySem.W.codeRec_of KX Rq) (bb _ _ _ _ ?_);refine wpAny_newFunctionEnv_cells S.kind hkind fun env he s1 x1=>?_;subst he;refine⟨lim.keeps x1.toInCall.keep,codeAny_func ?_⟩
 let xe:ZQ:=fun e s'=>wpAny (model X.prog X.w) (X.A.deeper (envOfC x (Zx st) s.heap.objs.size f cdv)) (leaving (envOfC x (Zx st) s.heap.objs.size f cdv) e) (fun _ s''=>CX X F p j as Xe e s'') (fun e' s''=>CX X F p j as Xe e' s'') s'
 have I1:Inv (Wn X F p j s as sl us N x (Zx st) f cdv xe) F _ (start N us) s1:=zo I S hr.hd ar ea hl x1;have sub:Sub X F p j s (Kr as) (Wn X F p j s as sl us N x (Zx st) f cdv xe):=sub_cx
 have hx:qw (Wn X F p j s as sl us N x (Zx st) f cdv xe) ⟨C,gl,fun e _=>Xe e⟩:=fun F' q τ s' e c t J ex hw=>yu J ex rfl rfl fun h' J' ex'=>by
  obtain⟨l,J2⟩:=xr I sub J';exact⟨F',e,c,t,rfl,l,J2,ex'.ofY sub I,hw⟩
 have hN:N.length - sl.length=d.n - d.ar:=by omega
 rw[hN]at I1;refine wpAny_mono (body (Wn X F p j s as sl us N x (Zx st) f cdv xe) ⟨C,gl,fun e _=>Xe e⟩ rfl rfl rfl rfl rfl rfl rfl (hr.deeper _) rfl rfl hx PassesOwn.leaving F _ _ s1 _ I1 hc) (fun fl s' ⟨F',q,τ,l,J,fo⟩=>?_) fun e s' hs=>hs
 have fin:∀{r:Sl} {v:Value},Res (Wn X F p j s as sl us N x (Zx st) f cdv xe) F' q τ s'.heap r v->on (fin sl r q) R->CE X F p j as R v s':=fun {r v} rs h=>by
  obtain⟨z,e,h⟩:=Za h;obtain⟨ts,e2,rfl⟩:=Y3.mp e;obtain⟨p2,o1,l2,J2,rr⟩:=xh I sub ea ar rfl rfl J e2;exact⟨F',p2,r,ts,l2,o1,J2,rr r v rs,h⟩
 cases fl with
 | ret u=>obtain⟨r,rs,h⟩:=fo;exact fin rs h
 | next=>exact fin (r:=.f .non) (v:=Value.none) Top.non fo
 | brk=>exact fo.elim
 | cont=>exact fo.elim
section
variable{X:Cx}{w:W}{k:Nat}{N:ZG}{sc:ZW}{es:E}{xs:ZM}{f:Str}{pos q:Pos}{F:OM}{p:P}{j:Vs}{s:Shared}
theorem vx(c:Ct X w k N sc)(hc:X.calm=true){as:List A}{us:ZK}{Q:Sl->P->Prop}{a:Addr}(hm:X.mg f=some (.ref a))(I:Inv X F p j s)(ar:Paired (Ar X F j) as us)(h:wC w f as p Q):WP X (call (.ref a) us) (EP X F j Q) s:=by
 obtain⟨sl,ea,h⟩:=Za h;refine wpAny_mono (c.fn _ _ _ _ h a hm X F p j s as us sl _ _ rfl (c.room hc) I ar ea h) (fun v s' ⟨F',p2,r,ts,l,e,J,rs,q⟩=>?_) fun v s' ⟨F',e,c',t,ev,l,J,x,q⟩=>?_
 .obtain⟨p3,e3,q⟩:=Za q;have e3:outs p as ts=some p3:=e3;rw[e]at e3;cases e3;exact⟨F',p2,r,l,J,rs,q⟩
 .subst ev;exact c.xe F' _ j s' e c' t J x q
theorem Ct.gi(c:Ct X w k N sc){x:Str}(h:sc.lookup x=some .globalImplicit):Gl X x:=by
 rcases c.nm x _ h with e | ⟨z,_⟩
 .exact e
 .cases z
theorem n9{x:Expr}(c:Ct X w k N sc)(hc:X.calm=true)(hg:sc.lookup f=some .globalImplicit)(hd:(f == ("__debug__" : Str))=false)(hf:f∈Dz)(hs:Hs X w false es (x::xs)):SE w (.call f es) X (.Call (.Name f q) (x::xs) [] pos):=fun F p j s Q I h=>by
 obtain⟨a,hm,kp⟩:=c.bn.d f hf;refine wpAny_Call_Name_kw (Jl I (c.gi hg) hm hd ?_);have st:=hs.star;refine PySem.W.callWith_K (h₀:=X.base) I.ok.mod.kin kp (Yg st (ay hs I h fun F1 p1 as us s1 l I1 ar _ q=>⟨I1.kIn, ?_⟩)) (Z2 (st _ Yn)) (Y5 xs X.env pos fun e m=>st e (Vk _ m));exact Yr (vx c hc hm I1 ar q) fun v s2 q=>q.le l
theorem se_cal{i:Nat}{y:Str}{x:Expr}(c:Ct X w k N sc)(hc:X.calm=true)(n:Nm X i y)(hs:Hs X w false es (x::xs)):SE w (.cal i es) X (.Call (.Name y q) (x::xs) [] pos):=fun F p j s Q I h=>by
 unfold wE at h
 split at h
 .rename_i f e
  obtain⟨v,h1,h2⟩:=I.r.fz i _ e;cases h2 with | fn hm kp =>
  refine wpAny_Call_Name_kw (B4 n I h1 ?_);have st:=hs.star;refine PySem.W.callWith_K (h₀:=X.base) I.ok.mod.kin kp (Yg st (ay hs I h fun F1 p1 as us s1 l I1 ar _ q=>⟨I1.kIn, ?_⟩)) (Z2 (st _ Yn)) (Y5 xs X.env pos fun e m=>st e (Vk _ m));exact Yr (vx c hc hm I1 ar q) fun v s2 q=>q.le l
 .exact h.elim
end
section
variable{X:Cx}{F:OM}{p:P}{V:Vs}{s:Shared}{h':Heap}{i tk:Nat}{t t':T}{a:Addr}
theorem Inv.mut(I:Inv X F p V s)(e:p[i]?=some (Sl.o t))(e2:V[i]?=some (some (.ref a)))(hs:∀b o,b≠a->s.heap.get? b=some o->h'.get? b=some o)(c:Wl t'=true)(q:Top X.toMd F h'.get? t' (.ref a)):Inv X F (p.set i (.o t')) V { s with heap:=h',toks:=tk }:=by
 obtain⟨a',h1,w⟩:=I.r.ow i t e;rw[e2]at h1;cases h1
 have own:∀{j:Nat} {u:T},(p.set i (Sl.o t'))[j]?=some (Sl.o u)->(j=i/\u=t')\/(j≠i/\p[j]?=some (Sl.o u)):=fun {j u} q=>by
  rcases Yq q with ⟨z,y⟩ | z
  .cases y;exact .inl ⟨z,rfl⟩
  .exact .inr z
 refine I.step rfl I.bare (.refl F) (fun b o q=>?_) (fun b o k _ q=>.same (hs b o (fun z=>w.k (z ▸ k)) q)) (fun m hn=>M4 (fun o q=>⟨o.slots,hs _ o (Ne.symm w.ne) q⟩) hn) ⟨fun j u q=>?_,fun j u q=>?_,fun j l u u' b q1 q2 g1 g2=>?_,by rw[XX];exact I.r.ln⟩
 .obtain⟨q1,q2⟩:=I.f b o q;exact⟨hs b o (fun z=>by rw[z,w.f]at q;cases q) q1,q2⟩
 .rcases Yq q with ⟨_,z⟩ | ⟨_,q⟩
  .cases z
  .exact I.r.fz j u q
 .rcases own q with ⟨rfl,rfl⟩ | ⟨n,q⟩
  .exact⟨a,e2,c,w.f,w.k,by assumption⟩
  .obtain⟨b,g1,w2⟩:=I.r.ow j u q;exact⟨b,g1,w2.to (.refl F) w2.f fun x=>hs b x fun z=>n (I.r.ap j i u t b q e g1 (z ▸ e2))⟩
 .have old:∀{j:Nat} {u:T},(p.set i (Sl.o t'))[j]?=some (Sl.o u)->∃u',p[j]?=some (Sl.o u'):=fun {j u} q=>by
   rcases own q with ⟨rfl,_⟩ | ⟨_,q⟩
   .exact⟨t,e⟩
   .exact⟨u,q⟩
  obtain⟨u1,q1⟩:=old q1;obtain⟨u2,q2⟩:=old q2;exact I.r.ap j l u1 u2 b q1 q2 g1 g2
end
section
variable{g:Md}{F:OM}{XY:ZX}{vs:List (Key×Value)}{k:Key}{t:T}{v:Value}{a:Addr}{h:Heap}
theorem We.of(dd:h.DictOf (Zk g.prog g.w) a vs)(z:vs.length<=sizeLine)(ns:(a == sysModules)=false):∃o,h.get? a=some o/\We g a o vs:=let ⟨o,es,ep,e,ex,d,c,pr,nd⟩:=dd;⟨o,e,ex,⟨es,ep,d,c,pr⟩,nd,z,ns⟩
theorem Z9.put(it:IsT g F t v)(r:Z9 g F XY vs):Z9 g F (Zo XY k t) (stored vs k v):=by
 have hi:(XY.any fun p=>decide (p.1=k))=vs.any fun p=>decide (p.1=k):=by
  induction r with
  | nil=>rfl
  | cons q _ ih=>rw[List.any_cons,List.any_cons,ih,q.1]
 unfold Zo stored;rw[hi]
 split
 .refine Fx (fun x y q=>?_) r;rw[q.1];by_cases e:y.1=k
  .rw[if_pos e,if_pos e];exact⟨rfl,it⟩
  .rw[if_neg e,if_neg e];exact q
 .exact Ga r (.cons ⟨rfl,it⟩ .nil)
end
noncomputable def locs(sc:ZW)(x:Str):Bool:=match sc.lookup x with
 | some .local=>true
 | some .cell=>true
 | _=>false
theorem Xz{e:Expr}{es:ZM}{env:Env}(h:noStar e=true):assignEach (e::es) env=(false,assign e env)::assignEach es env:=by
 cases e<;>first | rfl | cases h
theorem Rm:∀{es:ZM} {env:Env},(∀x∈es,noStar x=true)->(assignEach es env).length=es.length/\(assignEach es env).findIdx? (·.1)=none
 | [],env,_=>⟨rfl,rfl⟩
 | e::es,env,h=>by
  rw[Xz (h e Yn)];obtain⟨h1,h2⟩:=Rm (env:=env) fun x m=>h x (Vk _ m);exact⟨by rw[Jk,Jk,h1],by rw[List.findIdx?_cons,h2];rfl⟩
inductive Shp where
 | name(y:Str) | bin(a:Expr)(op:Operator)(b:Expr) | cmp(a:Expr)(ops:List CmpOp)(bs:ZM) | un(op:UnaryOp)(a:Expr) | sub(a b:Expr) | dct(ks:List (Option Expr))(vs:ZM)
 | callN (f:Str) (xs:ZM) | callA (o:Expr) (m:Str) (ap:Pos) (xs:ZM) (cp:Pos) | tup (xs:ZM) | lst (xs:ZM) | boo (o:BoolOp) (xs:ZM) (p:Pos) | ife (c a b:Expr) | lc (e:Expr) (g:List Comprehension) (s:Scope) | slc (l h s:Option Expr) | att (o:Expr) (m:Str) | non
noncomputable def shpC:Expr->ZM->List Keyword->Pos->Shp
 | .Name f _,xs,[],_=>.callN f xs
 | .Attribute o m ap,xs,[],cp=>.callA o m ap xs cp
 | _,_,_,_=>.non
noncomputable def Tx:Expr->Shp
 | .Name y _=>.name y
 | .BinOp a op b _=>.bin a op b
 | .Compare a ops bs _=>.cmp a ops bs
 | .UnaryOp op a _=>.un op a
 | .Subscript a b _=>.sub a b
 | .Dict ks vs _=>.dct ks vs
 | .Call f xs ks cp=>shpC f xs ks cp
 | .Tuple xs _ _=>.tup xs
 | .List xs _=>.lst xs
 | .BoolOp o xs p=>.boo o xs p
 | .IfExp c a b _=>.ife c a b
 | .ListComp e g s _=>.lc e g s
 | .Slice l h s _=>.slc l h s
 | .Attribute o m _=>.att o m
 | _=>.non
def ShpI:Shp->Expr->Prop
 | .name y,x=>∃p,x=.Name y p
 | .bin a op b,x=>∃p,x=.BinOp a op b p
 | .cmp a ops bs,x=>∃p,x=.Compare a ops bs p
 | .un op a,x=>∃p,x=.UnaryOp op a p
 | .sub a b,x=>∃p,x=.Subscript a b p
 | .dct ks vs,x=>∃p,x=.Dict ks vs p
 | .callN f xs,x=>∃q p,x=.Call (.Name f q) xs [] p
 | .callA o m ap xs cp,x=>x=.Call (.Attribute o m ap) xs [] cp
 | .tup xs,x=>∃j p,x=.Tuple xs j p
 | .lst xs,x=>∃p,x=.List xs p
 | .boo o xs p,x=>x=.BoolOp o xs p
 | .ife c a b,x=>∃p,x=.IfExp c a b p
 | .lc e g s,x=>∃p,x=.ListComp e g s p
 | .slc l h s,x=>∃p,x=.Slice l h s p
 | .att o m,x=>∃p,x=.Attribute o m p
 | .non,_=>True
theorem c8(x:Expr):ShpI (Tx x) x:=by
 cases x
 case Call f xs ks cp =>
  cases f
  case Name=>cases ks with
   | nil=>exact⟨_,_,rfl⟩
   | cons _ _=>trivial
  case Attribute=>cases ks with
   | nil=>rfl
   | cons _ _=>trivial
  all_goals exact True.intro
 case BoolOp=>rfl
 case Tuple=>exact⟨_,_,rfl⟩
 all_goals first | exact⟨_,rfl⟩ | exact True.intro
theorem Ze{x:Expr}{s:Shp}(e:Tx x=s):ShpI s x:=e ▸ c8 x
noncomputable def U6(x:Expr):Option Str:=match Tx x with
 | .name y=>some y
 | _=>none
theorem Vz{x:Expr}{y:Str}(h:U6 x=some y):∃p,x=.Name y p:=by
 unfold U6 at h
 split at h
 .rename_i e
  cases h;exact Ze e
 .cases h
noncomputable def R0(x:Expr):Option (ZM):=match Tx x with
 | .tup xs=>some xs
 | _=>none
theorem Ri{x:Expr}{y:ZM}(h:R0 x=some y):∃j pos,x=.Tuple y j pos:=by
 unfold R0 at h
 split at h
 .rename_i e;cases h;exact Ze e
 .cases h
mutual
noncomputable def Jt(N:ZG)(sc:ZW):E->Expr->Bool
 | .v i,x=>match U6 x with
  | some y=>N[i]? == some y && locs sc y
  | none=>false
 | .tup es,x=>match R0 x with
  | some xs=>C0 N sc es xs
  | none=>false
 | _,_=>false
noncomputable def C0(N:ZG)(sc:ZW):E->ZM->Bool
 | .nil,[]=>true
 | .cons a r,x::xs=>noStar x && Jt N sc a x && C0 N sc r xs
 | _,_=>false
end
section
variable{X:Cx}{w:W}{k:Nat}{N:ZG}{sc:ZW}
theorem Ct.loc(c:Ct X w k N sc){x:Str}(h:locs sc x=true):X.env.kindOf x=some .local\/(X.own=true/\X.env.kindOf x=some .cell):=by
 unfold locs at h
 split at h
 .rename_i e
  rcases c.nm x _ e with e | ⟨z,_⟩
  .exact .inl e
  .cases z
 .rename_i e
  rcases c.nm x _ e with e' | ⟨z,_⟩
  .exact .inr ⟨c.cl x e,e'⟩
  .cases z
 .cases h
theorem k6{es:E}:∀{xs:ZM} {ts:ZZ} {p p':P},C0 N sc es xs=true->S4 es ts p=some p'->ts.length=xs.length/\∀x∈xs,noStar x=true:=by
 induction es with
 | nil =>
  intro xs ts p p' h e;cases xs with
  | cons x xs=>cases(show false=true from h)
  | nil =>
  cases ts with
  | nil=>exact⟨rfl,fun x m=>absurd m Tz⟩
  | cons t ts=>cases e
 | cons a r _ ih =>
  intro xs ts p p' h e;cases xs with
  | nil=>cases(show false=true from h)
  | cons x xs =>
  have h:(noStar x && Jt N sc a x && C0 N sc r xs)=true:=h;simp only[Vp]at h;cases ts with
  | nil=>cases e
  | cons t ts =>
  obtain⟨q,_,e2⟩:=ZP.mp (show (asg a t p).bind (fun q=>S4 r ts q)=some p' from e);obtain⟨h1,h2⟩:=ih h.2 e2;refine⟨by rw[Jk,Jk,h1],fun y m=>?_⟩;rcases Vv.mp m with rfl | m
  .exact h.1.1
  .exact h2 y m
 | _=>intro xs ts p p' h;cases xs<;>cases(show false=true from h)
theorem Es(c:Ct X w k N sc)(hc:X.calm=true):∀tg:E,
  (∀(x:Expr) (F:OM) (p p':P) (l:Vs) (s:Shared) (t:T) (u:Value) (Q:ZH),Jt N sc tg x=true->Inv X F p l s->IsT X.toMd F t u->Jm X.pt tg=true->asg tg t p=some p'->(∀σ' s',Inv X F p' σ' s'->Q () s')->WP X (assign x X.env u) Q s) /\
  ∀(xs:ZM) (F:OM) (p p':P) (l:Vs) (s:Shared) (ts:ZZ) (us:ZK) (Q:ZH),C0 N sc tg xs=true->Inv X F p l s->Zr X.toMd F ts us->Jm X.pt tg=true->S4 tg ts p=some p'->(∀σ' s',Inv X F p' σ' s'->Q () s') ->
   WP X (assignInOrder ((assignEach xs X.env).map (·.2)) us) Q s:=by
 intro tg
 induction tg with
 | v i =>
  refine⟨fun x F p p' l s t u Q h I it ho e k=>?_,fun xs F p p' l s ts us Q h=>by cases xs<;>cases(show false=true from h)⟩;cases e;unfold Jt at h
  split at h
  .rename_i y ey
   obtain⟨pos,rfl⟩:=Vz ey;rw[Vp,beq_iff_eq]at h;exact wpAny_assign_Name (Cb I (by rw[c.nN];exact c.nd) (by rw[c.nN];exact h.1) (c.loc h.2) (by simpa [Jm] using ho) (r:=.f t) it fun s' I'=>k _ s' I')
  .cases h
 | tup es ih =>
  refine⟨fun x F p p' l s t u Q h I it ho e k=>?_,fun xs F p p' l s ts us Q h=>by cases xs<;>cases(show false=true from h)⟩;unfold Jt at h
  split at h
  .rename_i xs ex
   obtain⟨j,pos,rfl⟩:=Ri ex;cases t<;>first | cases e | skip
   rename_i ts
   obtain⟨a,us,rfl,z,tp,r⟩:=V4 I.fh it;obtain⟨hl,G7⟩:=k6 h (show S4 es ts p=some p' from e);obtain⟨a1,a2⟩:=Rm (env:=X.env) G7;refine assign_Tuple_tuple (I.ok.hd hc) tp (by rw[Jv,a1, <-hl,r.length]) a2 fun h' hx=>?_;have I1:Inv X F p l { s with heap:=h' }:=I.more (t:=s.toks) (fun b o _ e=>hx b o (Cq (Jw e)) e) (fun m hn=>hn.keeps fun b o e=>hx b o (Cq (Jw e)) e) (.refl F) fun _ _ e=>.inl e;exact ih.2 xs F p p' l _ ts us Q h I1 r ho e k
  .cases h
 | nil =>
  refine⟨fun x F p p' l s t u Q h=>absurd (show false=true from h) Q6,fun xs F p p' l s ts us Q h I r ho e k=>?_⟩;cases xs with
  | cons x xs=>cases(show false=true from h)
  | nil =>
  cases ts with
  | nil=>cases e;cases r;exact assignInOrder_nil (k l s I)
  | cons t ts=>cases e
 | cons a r' ih1 ih2 =>
  refine⟨fun x F p p' l s t u Q h=>absurd (show false=true from h) Q6,fun xs F p p' l s ts us Q h I r ho e k=>?_⟩;cases xs with
  | nil=>cases(show false=true from h)
  | cons x xs =>
  have h:(noStar x && Jt N sc a x && C0 N sc r' xs)=true:=h;simp only[Vp]at h;cases ts with
  | nil=>cases e
  | cons t ts =>
  cases r with | cons r1 r2 =>
  obtain⟨q,e1,e2⟩:=ZP.mp (show (asg a t p).bind (fun q=>S4 r' ts q)=some p' from e);have ho:(Jm X.pt a && Jm X.pt r')=true:=ho;rw[Vp]at ho;rw[Xz h.1.1];exact assignInOrder_cons (ih1.1 x F p q l s t _ _ h.1.2 I r1 ho.1 e1 fun σ1 s1 I1=>ih2.2 xs F q p' σ1 s1 ts _ Q h.2 I1 r2 ho.2 e2 k)
 | _=>exact⟨fun x F p p' l s t u Q h=>absurd (show false=true from h) Q6,fun xs F p p' l s ts us Q h=>by cases xs<;>cases(show false=true from h)⟩
end
section
variable{X:Cx}{w:W}{k:Nat}{N:ZG}{sc:ZW}{a b c:E}{x y z:Expr}{pos:Pos}
theorem Inv.quiet{F:OM}{p:P}{j:Vs}{s:Shared}(I:Inv X F p j s):interactive X.env=false:=by simp[interactive,I.ok.kind]
theorem Ee:SB w .nil X []:=fun F p j s D I h=>wpAny_execs_nil ⟨F,p,j,.refl F,I,h⟩
theorem Ei{a r:S}{st:Stmt}{rest:List Stmt}(ha:SS w a X st)(hr:SB w r X rest):SB w (.seq a r) X (st::rest):=fun F p j s D I h=>by
 refine wpAny_execs_cons (Yr (ha F p j s _ I h) fun f s1 ⟨F1,p1,σ1,l,I1,q⟩=>?_);cases f with
 | next=>exact Yr (hr F1 p1 σ1 s1 D I1 q) fun _ _ q=>q.le l
 | ret v=>exact⟨F1,p1,σ1,l,I1,q⟩
 | brk=>exact⟨F1,p1,σ1,l,I1,q⟩
 | cont=>exact⟨F1,p1,σ1,l,I1,q⟩
theorem ss_ret(h:SE w a X x):SS w (.ret a) X (.Return (some x) pos):=fun F p j s D I hw=>wpAny_Return_some (Yr (h F p j s _ I hw) fun v s1 ⟨F1,p1,r,l,I1,rs,q⟩=>⟨F1,p1,j,l,I1,r,rs,q⟩)
theorem cj:SS w (.ret (.k .non)) X (.Return none pos):=fun F p j s D I hw=>wpAny_Return_none ⟨F,p,j,.refl F,I,.f .non,Top.non,hw⟩
theorem ss_ex(h:SE w a X x)(hs:swapsWith x none pos.line X.env=pure false):SS w (.ex a) X (.Expr x pos):=fun F p j s D I hw=>wpAny_Expr_any (Yr (h F p j s _ I hw) fun v s1 ⟨F1,p1,r,l,I1,rs,q⟩=>⟨F1,p1,j,l,I1,q⟩) I.quiet hs
theorem cv:SS w .pass X (.Pass pos):=fun F p j s D I hw=>wpAny_Pass ⟨F,p,j,.refl F,I,hw⟩
theorem ss_brk:SS w .brk X (.Break pos):=fun F p j s D I hw=>wpAny_Break ⟨F,p,j,.refl F,I,hw⟩
theorem cy:SS w .cont X (.Continue pos):=fun F p j s D I hw=>wpAny_Continue ⟨F,p,j,.refl F,I,hw⟩
theorem ss_ite{b1 b2:S}{ys zs:List Stmt}(hc:ST w c X z (eval z X.env))(h1:SB w b1 X ys)(h2:SB w b2 X zs):SS w (.ite c b1 b2) X (.If z ys zs pos):=fun F p j s D I hw=>by
 refine wpAny_If (Yr (hc F p j s _ I hw) fun d s1 ⟨F1,p1,l,I1,q⟩=>?_);cases d with
 | true=>exact Yr (h1 F1 p1 j s1 D I1 q) fun _ _ q=>q.le l
 | false=>exact Yr (h2 F1 p1 j s1 D I1 q) fun _ _ q=>q.le l
theorem Aa(hN:X.N.Nodup){i:Nat}{y:Str}{pos':Pos}(hi:X.N[i]?=some y)(hl:X.env.kindOf y=some .local\/(X.own=true/\X.env.kindOf y=some .cell))(h:SE w a X x)(hs:swapsWith x (some (.Name y pos')) pos.line X.env=pure false):SS w (.set i a) X (.Assign [.Name y pos'] x pos):=fun F p j s D I hw=>by
 have hw:if X.pt i=true then False else wE w a p fun r q=>D.nx (q.set i r):=hw
 split at hw
 .exact hw.elim
 .rename_i hp
  refine wpAny_Assign_Name (Yr (h F p j s _ I hw) fun v s1 ⟨F1,p1,r,l,I1,rs,q⟩=>?_) hs;exact Cb I1 hN hi hl (by simpa using hp) rs fun s' I'=>⟨F1,_,_,l,I',q⟩
theorem wq(cc:Ct X w k N sc){i:Nat}{y:Str}{pos':Pos}(hi:N[i]?=some y)(hl:locs sc y=true)(h:SE w a X x)(hs:swapsWith x (some (.Name y pos')) pos.line X.env=pure false):SS w (.set i a) X (.Assign [.Name y pos'] x pos):=Aa (by rw[cc.nN];exact cc.nd) (by rw[cc.nN];exact hi) (cc.loc hl) h hs
def notName:Expr->Bool
 | .Name _ _=>false
 | _=>true
theorem Ap{x t:Expr}{ln:Nat}{env:Env}(h:notName t=true):swapsWith x (some t) ln env=pure false:=by
 cases x<;>first | rfl | (cases t<;>first | rfl | cases h)
def isTup:Expr->Bool
 | .Tuple _ _ _=>true
 | _=>false
theorem ss_unp(cc:Ct X w k N sc)(hc:X.calm=true){tg a:E}{ts:ZM}{j:Nat}{pt:Pos}(hg:Jt N sc tg (.Tuple ts j pt)=true)(h:SE w a X x)(hx:isTup x=false):SS w (.unp tg a) X (.Assign [.Tuple ts j pt] x pos):=fun F p V s D I hw=>by
 have hw:if Jm X.pt tg=true then wE w a p fun r q=>Mu r fun t=>on (asg tg t q) D.nx else False:=hw
 split at hw
 .rename_i ho
  refine wpAny_Assign_stores (Yr (h F p V s _ I hw) fun v s1 q=>?_) (show swapsWith x (some (.Tuple ts j pt)) pos.line X.env=pure false from Ap rfl) (by unfold swappedStores;cases x<;>first | rfl | cases hx);obtain⟨F1,p1,t,l,I1,it,q⟩:=q.t;obtain⟨p2,e,q⟩:=Za q;show WP X (assign (.Tuple ts j pt) X.env v) _ s1;exact(Es cc hc tg).1 _ F1 p1 p2 V s1 t v _ hg I1 it ho e fun σ' s' I'=>⟨F1,p2,σ',l,I',q⟩
 .exact hw.elim
theorem ss_put{i:Nat}{kk:E}{kx:Expr}{y:Str}{pos' P4:Pos}(n:Nm X i y)(h:SE w a X x)(hk:SE w kk X kx):SS w (.put i kk a) X (.Assign [.Subscript (.Name y pos') kx P4] x pos):=fun F p l s D I hw=>by
 refine wpAny_Assign_Subscript (Yr (h F p l s _ I hw) fun v s1 q=>?_) (Ap rfl);obtain⟨F1,p1,t,l1,I1,it,q⟩:=q.t
 split at q
 .rename_i hd
  obtain⟨vo,eo⟩:=I1.val hd;refine B4 n I1 eo (Yr (hk F1 p1 l s1 _ I1 q) fun vk s2 q=>?_);obtain⟨F2,p2,kt,l2,I2,ik,q⟩:=q.t
  split at q
  .rename_i u eu
   obtain⟨u',e3,q⟩:=Za q;obtain⟨b,eb,ow⟩:=I2.r.ow i u eu;rw[eo]at eb;cases eb;have it:=it.up l2;have fin:∀{h':Heap} {tk:Nat},(∀b' o,b'≠b->s2.heap.get? b'=some o->h'.get? b'=some o)->Wl u'=true->Top X.toMd F2 h'.get? u' (.ref b)->SP X F D .next { s2 with heap:=h',toks:=tk }:=fun hs c q'=>⟨F2,_,l,l1.trans l2,I2.mut eu eo hs c q',q⟩;unfold putAt at e3
   split at e3
   .rename_i k'
    obtain⟨j,e4,rfl⟩:=Y3.mp e3;cases ik;obtain⟨_,o,us,e5,e6,ko,r⟩:=ow.t.unL;cases e5;obtain⟨m,eo'⟩:=ko.at e6;have lr:=r.length;have ln:=Kc;have z:=ko.1;rw[lr]at e4;obtain⟨g1,g2,g3,g4⟩:=Im e4
    have go:∀jj:Nat,jj=j->SP X F D .next { s2 with heap:=s2.heap.update b (Obj.mapSeq (·.setIfInBounds jj v)) }:=fun jj ej=>by
     subst ej;refine fin (tk:=s2.toks) (fun b' o' ne e=>(Heap.get?_update_other _ _ (Ne.symm ne)).trans e) rfl ?_;refine .mkL (us:=us.set jj v) (o:={ cls:=.type "list",data:=.seq (us.set jj v).toArray m }) ?_ ⟨by rw[XX];exact z,m,rfl⟩ (vc it jj r);rw[Heap.get?_update_self (Obj.mapSeq (·.setIfInBounds jj v)) eo' (by rw[C7 us m jj v]<;>rfl),C7 us m jj v]
    by_cases h0:0<=k'
    .have hk:k'.toNat=j:=by
      rw[seqIndex_of h0 g4]at g1;exact Ms g1
     exact PySem.W.ki_setAt eo' h0 (by omega) (by rw[Jv];exact g4) (go _ hk)
    .have hk:(k'+(us.toArray.size:Int)).toNat=j:=by
      rw[seqIndex_neg (by omega) g3]at g1;rw[Jv];exact Ms g1
     exact PySem.W.ki_setBack eo' (by omega) (by rw[Jv];exact g3) (by omega) (go _ hk)
   .obtain⟨key,e4,e5⟩:=ZP.mp e3;obtain⟨hz,e5⟩:=Option.ite_none_right_eq_some.mp e5;cases e5;obtain⟨_,o,vs,e5,e6,ko,r⟩:=ow.t.unD;cases e5;have lr:=r.length;refine wpAny_setItem_pairs (hsz:=ko.z) (key_is (F:=F2) (s:=s2) e4 (.of I2.fh ik)) (ko.is e6) fun h' dd' hs=>?_;refine fin (fun b' o' ne e=>(hs.2 b' ne).trans e) rfl ?_;have hl:=stored_length_le vs key v;obtain⟨o',e7,ko'⟩:=We.of dd' (by omega) ko.ns;exact .mkD e7 ko' (r.put it)
   .cases e3
  .exact q.elim
 .exact q.elim
theorem ss_wh(po:PassesOwn (model X.prog X.w) X.A X.env X.xe){bd:S}{ys:List Stmt}(hc:ST w c X z (eval z X.env))(hb:SB w bd X ys):SS w (.wh c bd) X (.While z ys [] pos):=fun F p j s D I hw=>by
 refine wpAny_While (codeAny_whileLoop (fun n s'=>∃F' p' σ',Le F F'/\Inv X F' p' σ' s'/\wWh (fun s K=>wE w c s fun r q=>Fj r fun b=>K b q) (fun s D=>wS w X.pt bd s D) n p' D) ?_ 1000000 ⟨F,p,j,.refl F,I,hw⟩);rintro n s1 ⟨F1,p1,σ1,l1,I1,w1⟩;cases n with
 | zero=>exact w1.elim
 | succ n =>
 refine wpAny_passesOwn po (Yr (hc F1 p1 σ1 s1 _ I1 w1) fun d s2 ⟨F2,p2,l2,I2,q⟩=>?_);cases d with
 | true =>
  rw[if_pos rfl]at q ⊢;refine wpAny_passesOwn po (Yr (hb F2 p2 σ1 s2 _ I2 q) fun f s3 ⟨F3,p3,σ3,l3,I3,q⟩=>?_);have ll:=l1.trans (l2.trans l3);cases f with
  | next=>exact⟨n,Nat.lt_succ_self n,F3,p3,σ3,ll,I3,q⟩
  | cont=>exact⟨n,Nat.lt_succ_self n,F3,p3,σ3,ll,I3,q⟩
  | brk=>exact⟨F3,p3,σ3,ll,I3,q⟩
  | ret v=>exact⟨F3,p3,σ3,ll,I3,q⟩
 | false =>
  rw[if_neg Q6]at q ⊢;exact wpAny_execs_nil ⟨F2,p2,σ1,l1.trans l2,I2,q⟩
end
def Yl(g:Md)(F:OM)(h:Heap)(tg:Expr)(x:T)(u:Value):Prop:=IsT g F x u\/(isTup tg=true/\∃a us ts,u=.ref a/\x=.tup ts/\IsTup h a us.toArray/\Zr g F ts us)
structure Turn(g:Md)(F:OM)(tg:Expr)(xs:ZZ)(fp:ZS)(it:Addr)(tn:Nat->Heap->Prop):Prop where
 mem:it∈fp
 obj:∀i h,tn i h->∀b∈fp,∃o,h.get? b=some o
 keep:∀i h h',tn i h->(∀b∈fp,∀o,h.get? b=some o->h'.get? b=some o)->tn i h'
 item:∀(A:Around) (i:Nat) (s:Shared) (E:ZQ) (Q:ZQ),A.handled=none->tn i s.heap->(∀a o,F a=some o->s.heap.get? a=some o)->(hi:i<xs.length) ->
  (∀h' tk u,(∀b o,b ∉ fp->s.heap.get? b=some o->h'.get? b=some o)->tn (i+1) h'->Yl g F h' tg xs[i] u->Q u { s with heap:=h',toks:=tk }) ->
  wpAny (model g.prog g.w) A (pyNext (.ref it)) (fun r s1=>∃u,r=some u/\wpAny (model g.prog g.w) A (letOwnedTupleGo tg (.ref it) u) (fun _ s2=>Q u s2) E s1) E s
 done:∀(A:Around) (i:Nat) (s:Shared) (E:ZQ) (Q:ZF->Shared->Prop),A.handled=none->tn i s.heap->(∀a o,F a=some o->s.heap.get? a=some o)->xs.length<=i ->
  (∀h' tk,(∀b o,b ∉ fp->s.heap.get? b=some o->h'.get? b=some o)->Q none { s with heap:=h',toks:=tk })->wpAny (model g.prog g.w) A (pyNext (.ref it)) Q E s
 self:∀(A:Around) (i:Nat) (s:Shared) (Q:ZQ) (E:ZQ),tn i s.heap->Q (.ref it) s->wpAny (model g.prog g.w) A (pyIter (.ref it)) Q E s
def IE(X:Cx)(F:OM)(j:Vs)(tg:Expr)(Q:ZZ->P->Prop)(itv:Value)(s2:Shared):Prop:=∃F' p' xs it fp tn h0,itv=.ref it/\Le F F'/\Inv X F' p' j { s2 with heap:=h0 }/\Turn X.toMd F' tg xs fp it tn/\tn 0 s2.heap/\(∀b∈fp,h0.get? b=none)/\(∀b o,h0.get? b=some o->s2.heap.get? b=some o)/\xs.length<=sizeLine/\Q xs p'
def wI(w:W)(e:E)(p:P)(Q:ZZ->P->Prop):Prop:=wE w e p fun r q=>Mu r fun t=>on (Px t) fun xs=>Q xs q
def SI(w:W)(e:E)(X:Cx)(tg x:Expr):Prop:=∀(F:OM) (p:P) (j:Vs) (s:Shared) (Q:ZZ->P->Prop),Inv X F p j s->wI w e p Q->WP X (eval x X.env) (fun v s1=>WP X (pyIter v) (IE X F j tg Q) s1) s
theorem Lq{M:Model}{A:Around}{E:ZQ}{s:Shared}{tg:Expr}{it:Addr}{u:Value}{o:Obj}{n:String}{vs:ZD}{Q:ZH}(ho:s.heap.get? it=some o)(hc:o.cls=.type n)(hd:o.data=.fields vs)
    (hn:["enumerate","zip","dict_itemiterator","dict_reverseitemiterator","odict_iterator","itertools.zip_longest","itertools.pairwise"].contains n=false) (hQ:Q () s):wpAny M A (letOwnedTupleGo tg (.ref it) u) Q E s:=by
  unfold letOwnedTupleGo
  cases tg<;>first
    | exact Zt hQ
    | (cases u<;>first
        | exact Zt hQ
        | (refine Zq (wpAny_load ho ?_)
           rw[hc,hd];show wpAny M A (if (["enumerate","zip","dict_itemiterator","dict_reverseitemiterator","odict_iterator","itertools.zip_longest","itertools.pairwise"].contains n && vs[0]? == some (rawInt _))=true then _ else _) Q E s;rw[if_neg (by intro h;rw[hn,Bool.false_and]at h;cases h)];exact Zt hQ))
section
variable{g:Md}{F:OM}{tg:Expr}{a it:Addr}{o:Obj}{us:ZK}{ts:ZZ}{vs:List (Key×Value)}{XY:ZX}
theorem Xs(ho:F a=some o)(k:Wo o us)(r:Zr g F ts us):Turn g F tg ts [it] it (fun i h=>h.IsListIter it a i) where
 mem:=by simp
 obj:=fun i h st b hb=>by
  obtain rfl:b=it:=by simpa using hb
  obtain⟨o,e,_⟩:=st;exact⟨o,e⟩
 keep:=fun i h h' st k=>st.at fun o e=>k it (by simp) o e
 item:=fun A i s E Q hh st fF hi k'=>by
  obtain⟨u,hu,ru⟩:=Y1 r (Wi hi);refine wpAny_pyNext_list_item st (k.is (fF _ _ ho)) (x:=u) (by simpa using hu) fun h' Wj sb=>?_;obtain⟨o',e,c,d⟩:=id Wj;exact⟨u,rfl,Lq (s:={ s with heap:=h' }) e c d (by decide) (k' h' s.toks u (fun b o m q=>(sb.2 b (by simpa using m)).trans q) Wj (.inl ru))⟩
 done:=fun A i s E Q hh st fF hi k'=>by
  have hl:=r.length;exact wpAny_pyNext_list_end hh st (k.is (fF _ _ ho)) (by simp;omega) fun h' eb=>k' h' s.toks fun b o m q=>eb b o (by simpa using m) q
 self:=fun _ _ _ _ _ st h=>wpAny_pyIter_listiter st h
theorem j3(ho:F a=some o)(k:Tu o us)(r:Zr g F ts us):Turn g F tg ts [it] it (fun i h=>h.IsTupleIter it a i) where
 mem:=by simp
 obj:=fun i h st b hb=>by
  obtain rfl:b=it:=by simpa using hb
  obtain⟨o,e,_⟩:=st;exact⟨o,e⟩
 keep:=fun i h h' st k=>st.at fun o e=>k it (by simp) o e
 item:=fun A i s E Q hh st fF hi k'=>by
  obtain⟨u,hu,ru⟩:=Y1 r (Wi hi);refine wpAny_pyNext_tuple_item st (show s.heap.IsTuple a us.toArray from k.is (fF _ _ ho)) (x:=u) (by simpa using hu) fun h' Wj sb=>?_;obtain⟨o',e,c,d⟩:=id Wj;exact⟨u,rfl,Lq (s:={ s with heap:=h' }) e c d (by decide) (k' h' s.toks u (fun b o m q=>(sb.2 b (by simpa using m)).trans q) Wj (.inl ru))⟩
 done:=fun A i s E Q hh st fF hi k'=>by
  have hl:=r.length;exact wpAny_pyNext_tuple_end hh st (show s.heap.IsTuple a us.toArray from k.is (fF _ _ ho)) (by simp;omega) fun h' eb=>k' h' s.toks fun b o m q=>eb b o (by simpa using m) q
 self:=fun _ _ _ _ _ st h=>wpAny_pyIter_tupleiter st h
theorem j4(n:Nat):Turn g F tg ((List.range n).map fun k=>.int (k:Nat)) [it] it (fun i h=>IsRangeIter h it (0+(i:Nat) * 1) ((n:Int) - (i:Nat)) 1) where
 mem:=by simp
 obj:=fun i h st b hb=>by
  obtain rfl:b=it:=by simpa using hb
  exact⟨_,st⟩
 keep:=fun i h h' st k=>k it (by simp) _ st
 item:=fun A i s E Q hh st fF hi k'=>by
  rw[Zu,XZ]at hi;have W:=Walks.range (prog:=g.prog) (w:=g.w) hh it 0 1 n;refine W.item i s _ _ hi st fun v h' tk hv Wj kk=>?_;obtain⟨t,rfl⟩:=hv;refine⟨_,rfl,Lq (s:={ s with heap:=h',toks:=tk }) (n:="range_iterator") Wj rfl rfl (by decide) (k' h' tk _ kk Wj (.inl ?_))⟩;rw[List.getElem_map,List.getElem_range,Int.mul_one,Int.zero_add];exact .int
 done:=fun A i s E Q hh st fF hi k'=>by
  rw[Zu,XZ]at hi;exact wpAny_pyNext_range_end hh st (by omega) fun h' eb=>k' h' s.toks fun b o m q=>eb b o (by simpa using m) q
 self:=fun _ _ _ _ _ st h=>wpAny_pyIter_rangeiter st h
theorem Pq(x:Str)(N:String)(t:Tok)(hT:["enumerate","zip","dict_itemiterator","dict_reverseitemiterator","odict_iterator","itertools.zip_longest","itertools.pairwise"].contains N=false)
  (W:∀A:Around,A.handled=none->Walks g.prog g.w A it [it] [it] x.cps.size (SignAt x) (fun i h=>h.IsStrIter it N x t i)) (hs:∀(A:Around) (i:Nat) (s:Shared) (Q:ZQ) (E:ZQ),s.heap.IsStrIter it N x t i->Q (.ref it) s->wpAny (model g.prog g.w) A (pyIter (.ref it)) Q E s)
  (hd:∀(A:Around) (i:Nat) (s:Shared) (Q:ZF->Shared->Prop) (E:ZQ),A.handled=none->x.cps.size<=i->s.heap.IsStrIter it N x t i->(∀h' tk,(∀b o,b≠it->s.heap.get? b=some o->h'.get? b=some o)->Q none { s with heap:=h',toks:=tk })->wpAny (model g.prog g.w) A (pyNext (.ref it)) Q E s) :
  Turn g F tg (x.cps.toList.map fun c=>.str ⟨#[c]⟩) [it] it (fun i h=>h.IsStrIter it N x t i) where
 mem:=by simp
 obj:=fun i h st b hb=>by
  obtain rfl:b=it:=by simpa using hb
  obtain⟨o,e,_⟩:=st;exact⟨o,e⟩
 keep:=fun i h h' st k=>let ⟨o,ho,r⟩:=st;⟨o,k it (by simp) o ho,r⟩
 item:=fun A i s E Q hh st fF hi k'=>by
  rw[Zu,Ln]at hi;refine(W A hh).item i s _ _ hi st fun v h' tk hv Wj kk=>?_;obtain⟨c,u,Fh,rfl⟩:=hv;obtain⟨o,e,c1,d⟩:=id Wj;refine⟨_,rfl,Lq (s:={ s with heap:=h',toks:=tk }) e c1 d hT (k' h' tk _ kk Wj (.inl ?_))⟩;rw[List.getElem_map,Array.getElem_toList,show x.cps[i]=c from Ms ((iv hi).symm.trans Fh)];exact .str
 done:=fun A i s E Q hh st fF hi k'=>by
  rw[Zu,Ln]at hi;exact hd A i s _ _ hh hi st fun h' tk eb=>k' h' tk fun b o m q=>eb b o (by simpa using m) q
 self:=fun A i s Q E st h=>hs A i s Q E st h
variable{ep:Nat}
end
section
variable{g:Md}{F:OM}{tg:Expr}{a it:Addr}{o:Obj}{us:ZK}{ts:ZZ}{vs:List (Key×Value)}{XY:ZX}{ep:Nat}
abbrev DAt(g:Md)(F:OM)(a:Addr)(vs:List (Key×Value))(ep:Nat):Prop:=∀h:Heap,(∀b o,F b=some o->h.get? b=some o)->h.DictAt (Zk g.prog g.w) a vs ep
theorem Hd(ho:F a=some o)(k:We g a o vs):∃ep,DAt g F a vs ep:=by
 obtain⟨es,ep,d,c,pr⟩:=k.es;exact⟨ep,fun h e=>⟨o,es,e _ _ ho,k.ex,d,c,pr,k.nd⟩⟩
theorem Xh(m:DAt g F a vs ep)(r:Z9 g F XY vs):Turn g F tg (XY.map fun p=>Jd p.1) [it] it (fun i h=>h.IsKeyIter it a i vs.length ep) where
 mem:=by simp
 obj:=fun i h st b hb=>by
  obtain rfl:b=it:=by simpa using hb
  obtain⟨o,e,_⟩:=st;exact⟨o,e⟩
 keep:=fun i h h' st k=>by
  obtain⟨o,e,c,d⟩:=st;exact⟨o,k it (by simp) o e,c,d⟩
 item:=fun A i s E Q hh st fF hi k'=>by
  rw[Zu]at hi;obtain⟨⟨k,v⟩,hv,rv⟩:=Y1 r (Wi hi);refine wpAny_pyNext_dict_item st (m _ fF) hv fun key h' hk Wj sb=>?_;obtain⟨oo,e,c,dd⟩:=id Wj;refine⟨key,rfl,Lq (s:={ s with heap:=h' }) e c dd (by decide) (k' h' s.toks key (fun b o m q=>(sb.2 b (by simpa using m)).trans q) Wj (.inl ?_))⟩;rw[List.getElem_map,rv.1];exact Fd hk
 done:=fun A i s E Q hh st fF hi k'=>by
  rw[Zu,r.length]at hi;exact wpAny_pyNext_dict_end hh st (m _ fF) (List.getElem?_eq_none hi) fun h' eb=>k' h' s.toks fun b o m q=>eb b o (by simpa using m) q
 self:=fun _ _ _ _ _ st h=>wpAny_pyIter_keyiter st h
theorem Xr(m:DAt g F a vs ep)(r:Z9 g F XY vs):Turn g F tg (XY.map (·.2)) [it] it (fun i h=>h.IsValIter it a i vs.length ep) where
 mem:=by simp
 obj:=fun i h st b hb=>by
  obtain rfl:b=it:=by simpa using hb
  obtain⟨o,e,_⟩:=st;exact⟨o,e⟩
 keep:=fun i h h' st k=>by
  obtain⟨o,e,c,d⟩:=st;exact⟨o,k it (by simp) o e,c,d⟩
 item:=fun A i s E Q hh st fF hi k'=>by
  rw[Zu]at hi;obtain⟨⟨k,v⟩,hv,rv⟩:=Y1 r (Wi hi);refine wpAny_pyNext_values_item st (m _ fF) hv fun h' Wj sb=>?_;obtain⟨oo,e,c,dd⟩:=id Wj;refine⟨v,rfl,Lq (s:={ s with heap:=h' }) e c dd (by decide) (k' h' s.toks v (fun b o m q=>(sb.2 b (by simpa using m)).trans q) Wj (.inl ?_))⟩;rw[List.getElem_map];exact rv.2
 done:=fun A i s E Q hh st fF hi k'=>by
  rw[Zu,r.length]at hi;exact wpAny_pyNext_values_end hh st (m _ fF) (List.getElem?_eq_none hi) fun h' eb=>k' h' s.toks fun b o m q=>eb b o (by simpa using m) q
 self:=fun _ _ _ _ _ st h=>wpAny_pyIter_valiter st h
theorem Tj{P:Program}{w:World}{A:Around}{E:ZQ}{s:Shared}{it d:Addr}{i n ep:Nat}{ok ov:Value}{Q:ZQ}(hit:IsItemIter s.heap it d i n ep ok ov)(h:Q (.ref it) s):wpAny (model P w) A (pyIter (.ref it)) Q E s:=by
 have hT:s.TypeIs (.ref it) "dict_itemiterator" := ⟨_,hit,rfl⟩;refine wpAny_pyIter_slot hT F.slot_dict_itemiterator_iter (wpAny_call_entry F.slot_dict_itemiterator_iter hT (show entryFor table "dict_itemiterator.__iter__" = some Builtin.«dict_keyiterator.__iter__» from entryFor_alias (id':="dict_keyiterator.__iter__") (by kernel_rfl) rfl (by decide +kernel) (by kernel_rfl)) ?_ (F.args_dict_itemiterator_iter_1 _));show wpAny _ _ (ret (.ref it)) _ _ s;exact Zt ⟨_,rfl,"dict_itemiterator",_,hT,F.slot_dict_itemiterator_next.lookup,h⟩
theorem Er{N5:ZM}{k':Nat}{pos:Pos}(m:DAt g F a vs ep)(r:Z9 g F XY vs):Turn g F (.Tuple N5 k' pos) (XY.map fun p=>.tup [Jd p.1,p.2]) [it] it (fun i h=>∃ok ov,IsItemIter h it a i vs.length ep ok ov) where
 mem:=by simp
 obj:=fun i h st b hb=>by
  obtain rfl:b=it:=by simpa using hb
  obtain⟨ok,ov,e⟩:=st;exact⟨_,e⟩
 keep:=fun i h h' st k=>by
  obtain⟨ok,ov,e⟩:=st;exact⟨ok,ov,k it (by simp) _ e⟩
 item:=fun A i s E Q hh st fF hi k'=>by
  rw[Zu]at hi;obtain⟨⟨k,v⟩,hv,rv⟩:=Y1 r (Wi hi);obtain⟨ok,ov,st⟩:=st;refine wpAny_pyNext_items_item st (m _ fF) hv fun key h' hk Wj ht hz kp=>?_;refine⟨_,rfl,wpAny_letOwnedTupleGo_items (s:={ s with heap:=h' }) Wj fun h'' st'' hs=>?_⟩;have ne:s.heap.objs.size≠it:=Nat.ne_of_gt (Jw st);refine k' h'' s.toks _ (fun c o m q=>hs.extBut _ _ (by simpa using m) (kp c o (by simpa using m) q)) ⟨key,v,st''⟩ (.inr ⟨rfl,_,[key,v],[Jd XY[i].1,XY[i].2],rfl,by rw[List.getElem_map],⟨_,hs.extBut _ _ ne ht,rfl,⟨_,rfl⟩⟩,.cons ?_ (.cons rv.2 .nil)⟩);rw[rv.1];exact Fd hk
 done:=fun A i s E Q hh st fF hi k'=>by
  rw[Zu,r.length]at hi;obtain⟨ok,ov,st⟩:=st;exact wpAny_pyNext_items_end hh st (m _ fF) (List.getElem?_eq_none hi) fun h' eb=>k' h' s.toks fun b o m q=>eb b o (by simpa using m) q
 self:=fun _ _ _ _ _ st h=>let ⟨_,_,e⟩:=st;Tj e h
variable{es:ZM}{k:Nat}{pos:Pos}{z TI TO i1 i2 l1 l2:Addr}{o1 o2:Obj}{Mh U7:ZK}{Xu j6:ZZ}
theorem qh{i:Nat}(hi:i<(Du Xu j6).length):∃x y,Xu[i]?=some x/\j6[i]?=some y/\(Du Xu j6)[i]=.tup [x,y]:=by
 have e:(Du Xu j6)[i]?=some (Du Xu j6)[i]:=Wi hi;unfold Du at e;rw[G0m]at e;obtain⟨⟨x,y⟩,e1,e2⟩:=Y3.mp e;obtain⟨h1,h2⟩:=List.getElem?_zip_eq_some.mp e1;exact⟨x,y,h1,h2,e2.symm⟩
theorem To:(Du Xu j6).length=min Xu.length j6.length:=by unfold Du;rw[Zu,List.length_zip]
theorem j0(D:ZipApart z TI TO i1 i2 l1 l2)(h1:F l1=some o1)(k1:Wo o1 Mh)(r1:Zr g F Xu Mh)(h2:F l2=some o2)(k2:Wo o2 U7)(r2:Zr g F j6 U7) :
  Turn g F (.Tuple es k pos) (Du Xu j6) [z,TI,TO,i1,i2] z (fun i h=>IsZip h z TI TO .none/\IsPair h TI (.ref i1) (.ref i2)/\(∃a b,IsPair h TO a b)/\h.IsListIter i1 l1 i/\h.IsListIter i2 l2 i) where
 mem:=by simp
 obj:=fun i h st b hb=>by
  obtain⟨hz,K7,⟨a,c,xx⟩,⟨o1,e1,_,d1⟩,⟨o2,e2,_,d2⟩⟩:=st;simp only[Vv,Tz,or_false]at hb;rcases hb with rfl | rfl | rfl | rfl | rfl<;>exact⟨_,by assumption⟩
 keep:=fun i h h' st hk=>by
  obtain⟨hz,K7,⟨a,b,xx⟩,h1,h2⟩:=st;exact⟨hk z (by simp) _ hz,hk TI (by simp) _ K7,⟨a,b,hk TO (by simp) _ xx⟩,h1.at fun o e=>hk i1 (by simp) o e,h2.at fun o e=>hk i2 (by simp) o e⟩
 item:=fun A i s E Q hh st fF hi k'=>by
  obtain⟨x,y,g1,g2,et⟩:=qh hi;obtain⟨hz,K7,⟨a,b,xx⟩,j1,j2⟩:=st;obtain⟨u1,e1,q1⟩:=Y1 r1 g1;obtain⟨u2,e2,q2⟩:=Y1 r2 g2;refine wpAny_pyNext_zip_item D hz K7 xx j1 j2 (k1.is (fF _ _ h1)) (k2.is (fF _ _ h2)) (x:=u1) (y:=u2) (by simpa using e1) (by simpa using e2) fun h' a1 a2 a3 a4 a5 a6 hk=>?_;refine⟨_,rfl,wpAny_letOwnedTupleGo_zip (s:={ s with heap:=h' }) a1 fun h'' R7 Tg=>?_⟩;have nz:s.heap.objs.size≠z:=Nat.ne_of_gt (Jw hz);refine k' h'' s.toks _ (fun c u m e=>?_) ⟨R7,Tg.extBut _ _ D.TIz (hk _ _ D.TIz D.TITO D.TIi1 D.TIi2 K7),⟨_,_,Tg.extBut _ _ D.TOz a2⟩,a3.extBut Tg.extBut D.i1z,a4.extBut Tg.extBut D.i2z⟩ (.inr ⟨rfl,_,[u1,u2],[x,y],rfl,et,⟨_,Tg.extBut _ _ nz a5,rfl,⟨_,rfl⟩⟩,.cons q1 (.cons q2 .nil)⟩);simp only[Vv,Tz,or_false,not_or]at m;exact Tg.extBut _ _ m.1 (hk c u m.1 m.2.2.1 m.2.2.2.1 m.2.2.2.2 e)
 done:=fun A i s E Q hh st fF hi k'=>by
  rw[To]at hi;obtain⟨hz,K7,⟨a,b,xx⟩,j1,j2⟩:=st;have hl1:=r1.length;have hl2:=r2.length;refine wpAny_pyNext_zip_end hh D hz K7 xx j1 j2 (k1.is (fF _ _ h1)) (k2.is (fF _ _ h2)) ?_ fun h' hk=>k' h' s.toks fun c u m e=>?_
  .by_cases z:Xu.length<=i
   .exact .inl (by simp;omega)
   .exact .inr (by simp;omega)
  .simp only[Vv,Tz,or_false,not_or]at m;exact hk c u m.1 m.2.2.1 m.2.2.2.1 m.2.2.2.2 e
 self:=fun A i s Q E st h=>wpAny_pyIter_zip st.1 h
theorem Xl(D:ZipApart z TI TO i1 i2 l1 l2)(h1:F l1=some o1)(k1:Tu o1 Mh)(r1:Zr g F Xu Mh)(h2:F l2=some o2)(k2:Tu o2 U7)(r2:Zr g F j6 U7) :
  Turn g F (.Tuple es k pos) (Du Xu j6) [z,TI,TO,i1,i2] z (fun i h=>IsZip h z TI TO .none/\IsPair h TI (.ref i1) (.ref i2)/\(∃a b,IsPair h TO a b)/\h.IsTupleIter i1 l1 i/\h.IsTupleIter i2 l2 i) where
 mem:=by simp
 obj:=fun i h st b hb=>by
  obtain⟨hz,K7,⟨a,c,xx⟩,⟨o1,e1,_,d1⟩,⟨o2,e2,_,d2⟩⟩:=st;simp only[Vv,Tz,or_false]at hb;rcases hb with rfl | rfl | rfl | rfl | rfl<;>exact⟨_,by assumption⟩
 keep:=fun i h h' st hk=>by
  obtain⟨hz,K7,⟨a,b,xx⟩,h1,h2⟩:=st;exact⟨hk z (by simp) _ hz,hk TI (by simp) _ K7,⟨a,b,hk TO (by simp) _ xx⟩,(let ⟨o,ho,r⟩:=h1;⟨o,hk i1 (by simp) o ho,r⟩),(let ⟨o,ho,r⟩:=h2;⟨o,hk i2 (by simp) o ho,r⟩)⟩
 item:=fun A i s E Q hh st fF hi k'=>by
  obtain⟨x,y,g1,g2,et⟩:=qh hi;obtain⟨hz,K7,⟨a,b,xx⟩,j1,j2⟩:=st;obtain⟨u1,e1,q1⟩:=Y1 r1 g1;obtain⟨u2,e2,q2⟩:=Y1 r2 g2;refine ZipT.yk D hz K7 xx j1 j2 (show s.heap.IsTuple l1 Mh.toArray from k1.is (fF _ _ h1)) (show s.heap.IsTuple l2 U7.toArray from k2.is (fF _ _ h2)) (x:=u1) (y:=u2) (by simpa using e1) (by simpa using e2) fun h' a1 a2 a3 a4 a5 a6 hk=>?_;refine⟨_,rfl,wpAny_letOwnedTupleGo_zip (s:={ s with heap:=h' }) a1 fun h'' R7 Tg=>?_⟩;have nz:s.heap.objs.size≠z:=Nat.ne_of_gt (Jw hz);refine k' h'' s.toks _ (fun c u m e=>?_) ⟨R7,Tg.extBut _ _ D.TIz (hk _ _ D.TIz D.TITO D.TIi1 D.TIi2 K7),⟨_,_,Tg.extBut _ _ D.TOz a2⟩,ZipT.Ub a3 Tg.extBut D.i1z,ZipT.Ub a4 Tg.extBut D.i2z⟩ (.inr ⟨rfl,_,[u1,u2],[x,y],rfl,et,⟨_,Tg.extBut _ _ nz a5,rfl,⟨_,rfl⟩⟩,.cons q1 (.cons q2 .nil)⟩);simp only[Vv,Tz,or_false,not_or]at m;exact Tg.extBut _ _ m.1 (hk c u m.1 m.2.2.1 m.2.2.2.1 m.2.2.2.2 e)
 done:=fun A i s E Q hh st fF hi k'=>by
  rw[To]at hi;obtain⟨hz,K7,⟨a,b,xx⟩,j1,j2⟩:=st;have hl1:=r1.length;have hl2:=r2.length;refine ZipT.sg hh D hz K7 xx j1 j2 (show s.heap.IsTuple l1 Mh.toArray from k1.is (fF _ _ h1)) (show s.heap.IsTuple l2 U7.toArray from k2.is (fF _ _ h2)) ?_ fun h' hk=>k' h' s.toks fun c u m e=>?_
  .by_cases z:Xu.length<=i
   .exact .inl (by simp;omega)
   .exact .inr (by simp;omega)
  .simp only[Vv,Tz,or_false,not_or]at m;exact hk c u m.1 m.2.2.1 m.2.2.2.1 m.2.2.2.2 e
 self:=fun A i s Q E st h=>wpAny_pyIter_zip st.1 h
end
section
variable{X:Cx}{F:OM}{p:P}{j:Vs}{s:Shared}{tg:Expr}{t:T}{v:Value}{xs:ZZ}{Q:ZZ->P->Prop}{w:W}{k:Nat}{N:ZG}{sc:ZW}
theorem ie1{h':Heap}{tk:Nat}{it:Addr}{tn:Nat->Heap->Prop}(I:Inv X F p j s)(T':Turn X.toMd F tg xs [it] it tn)(t0:tn 0 h')(n:s.heap.get? it=none)(kp:∀b o,s.heap.get? b=some o->h'.get? b=some o)(z:xs.length<=sizeLine)(q:Q xs p):IE X F j tg Q (.ref it) { s with heap:=h',toks:=tk } :=
 ⟨F,p,xs,it,[it],tn,s.heap,rfl,.refl F,I.tok tk,T',t0,fun b hb=>(V1.mp hb) ▸ n,kp,z,q⟩
theorem IE.le{F0:OM}{itv:Value}{s2:Shared}(l:Le F0 F)(h:IE X F j tg Q itv s2):IE X F0 j tg Q itv s2:=let ⟨F',p',xs,it,fp,tn,h0,e,l',h⟩:=h;⟨F',p',xs,it,fp,tn,h0,e,l.trans l',h⟩
theorem jk(I:Inv X F p j s)(i:IsT X.toMd F t v)(e:Px t=some xs)(q:Q xs p):WP X (pyIter v) (IE X F j tg Q) s:=by
 have new:s.heap.get? s.heap.objs.size=none:=Heap.get?_none_of_le (Gc _);have kp:∀(o':Obj) b o,s.heap.get? b=some o->(s.heap.push o').get? b=some o:=fun o' b o e=>Y4 _ e;cases t with
 | tup ts =>
  cases e;obtain⟨a,o,us,rfl,ho,k,r⟩:=i.unT;exact wpAny_pyIter_tuple (show s.heap.IsTuple a us.toArray from k.is (I.fh _ _ ho)) (ie1 (tk:=s.toks) I (j3 ho k r) ⟨_,Gb _ rfl,rfl,rfl⟩ new (kp _) (by rw[r.length];exact k.z) q)
 | lst ts =>
  cases e;obtain⟨a,o,us,rfl,ho,k,r⟩:=i.unL;exact wpAny_pyIter_list (k.is (I.fh _ _ ho)) (ie1 (tk:=s.toks) I (Xs ho k r) ⟨_,Gb _ rfl,rfl,rfl⟩ new (kp _) (by rw[r.length];exact k.1) q)
 | dct XY =>
  cases e;obtain⟨a,o,vs,rfl,ho,k,r⟩:=i.unD;obtain⟨ep,m⟩:=Hd ho k;exact wpAny_pyIter_dict k.ns (m _ I.fh) (ie1 (tk:=s.toks) I (Xh m r) ⟨_,Gb _ rfl,rfl,rfl⟩ new (kp _) (by rw[Zu,r.length];exact k.z) q)
 | str x =>
  obtain⟨hz,e⟩:=Option.ite_none_right_eq_some.mp (show (if x.length<=sizeLine then some (x.cps.toList.map fun c=>T.str ⟨#[c]⟩) else none)=some xs from e);cases e;cases i
  rename_i t
  cases ha:x.cps.all (·<128)
  .exact wpAny_pyIter_wide ha (ie1 (tk:=s.toks) I (Pq x "str_iterator" t (by decide) (fun A hA=>Walks.strWide hA _ x t) (fun A i s Q E st h=>wpAny_pyIter_striter_wide st h)
    (fun A i s Q E hA hi st h=>wpAny_pyNext_wide_end hA st (by simp[hi]) fun h' he=>h h' s.toks fun b o hb e=>he b o hb e)) ⟨_,Gb _ rfl,rfl,rfl⟩ new (kp _) (by rw[Zu];exact hz) q)
  .exact wpAny_pyIter_ascii ha (ie1 (tk:=s.toks) I (Pq x "str_ascii_iterator" t (by decide) (fun A hA=>Walks.strAscii hA _ x t) (fun A i s Q E st h=>wpAny_pyIter_striter_ascii st h)
    (fun A i s Q E hA hi st h=>wpAny_pyNext_ascii_end hA st (by simp[hi]) fun h' he=>h h' s.toks fun b o hb e=>he b o hb e)) ⟨_,Gb _ rfl,rfl,rfl⟩ new (kp _) (by rw[Zu];exact hz) q)
 | _=>cases e
theorem si_of{e:E}{x:Expr}(h:SE w e X x):SI w e X tg x:=fun F p j s Q I hw=>Yr (h F p j s _ I hw) fun v s1 q=>by
 obtain⟨F1,p1,t,l,I1,i,q⟩:=q.t;obtain⟨xs,e,q⟩:=Za q;exact wpAny_mono (jk I1 i e q) (fun _ _ q=>q.le l) fun _ _ z=>z
theorem Rx{q:Ik}{es:E}{ys:ZM}{K:ZK->Shared->Prop}(hs:Hs X w false es ys)(n:Vy es=true)(I:Inv X F p j s)(h:wI w (.itr q es) p Q)
  (kk:∀F1 p1 ts us s1 xs,Le F F1->Inv X F1 p1 j s1->Zr X.toMd F1 ts us->itT q ts=some xs->Q xs p1->K us s1):Tq X ys K s:=by
 refine ay hs I h fun F1 p1 as us s1 l I1 ar nt h=>?_;obtain⟨ts,e1,h⟩:=Za h;obtain⟨xs,e2,h⟩:=Za h;exact kk F1 p1 ts us s1 xs l I1 (Ni (nt rfl n) ar e1) e2 h
theorem Ko{q:Ik}{ts:ZZ}(h:itT q ts=some xs):(q=.rng/\∃t,ts=[t]/\ry t=some xs)\/(q=.zip/\∃a b,ts=[.lst a,.lst b]/\xs=Du a b)\/(q=.zip/\∃a b,ts=[.tup a,.tup b]/\xs=Du a b) \/
  (q=.vls/\∃XY,ts=[.dct XY]/\xs=XY.map (·.2))\/(q=.its/\∃XY,ts=[.dct XY]/\xs=XY.map fun p=>.tup [Jd p.1,p.2]):=by
 unfold itT at h
 split at h
 .exact .inl ⟨rfl,_,rfl,h⟩
 .cases h;exact .inr (.inl ⟨rfl,_,_,rfl,rfl⟩)
 .cases h;exact .inr (.inr (.inl ⟨rfl,_,_,rfl,rfl⟩))
 .cases h;exact .inr (.inr (.inr (.inl ⟨rfl,_,rfl,rfl⟩)))
 .cases h;exact .inr (.inr (.inr (.inr ⟨rfl,_,rfl,rfl⟩)))
 .cases h
theorem si_rng{x:Expr}{es:E}{pos q:Pos}(c:Ct X w k N sc)(hg:sc.lookup ("range" : Str)=some .globalImplicit)(hs:Hs X w false es [x])(n:Vy es=true):SI w (.itr .rng es) X tg (.Call (.Name "range" q) [x] [] pos):=fun F p j s Q I h=>by
 have st:=hs.star;refine wpAny_Call_Name_kw (G5 I (c.gi hg) (c.bn.b _ (by decide +kernel)) boot_range (by decide) (by decide) (callWith_type1 (Yg st (Rx hs n I h fun F1 p1 ts us s1 xs l I1 ar e q=>?_)) (Z2 (st _ Yn)) rfl));cases ts with
 | nil=>cases e
 | cons t r =>
 cases r with
 | cons _ _=>cases e
 | nil =>
  obtain⟨u,rfl,r⟩:=Tw ar;have e:ry t=some xs:=e;cases t with
  | int nn =>
   obtain⟨hz,e⟩:=Option.ite_none_right_eq_some.mp e;cases e;cases r;refine call_range_1 (wpAny_pyIter_range (IsRange.new ..) (small_one (by decide) (by decide) (by omega) (by omega)) ?_);refine IE.le l (ie1 (it:=_) (tn:=fun i h=>IsRangeIter h _ (0+(i:Nat) * 1) ((nn.toNat:Int) - (i:Nat)) 1) (s:=s1) I1 (j4 nn.toNat) ?_ ?_ (fun b o e=>Y4 _ (Y4 _ e)) (by rw[Zu,XZ,sizeLine_eq];omega) q)
   .have e2:((nn.toNat:Nat):Int) - ((0:Nat):Int)=Builtin.Range.rangeSize 0 nn 1:=by rw[rangeSize_one];split<;>omega
    show IsRangeIter _ _ (0+((0:Nat):Int) * 1) (((nn.toNat:Nat):Int) - ((0:Nat):Int)) 1;rw[e2,show (0:Int)+((0:Nat):Int) * 1=0 by simp];exact Gb _ rfl
   .refine Heap.get?_none_of_le ?_;rw[Heap.size_push];omega
  | _=>cases e
theorem si_zip{a b:Expr}{N5:ZM}{k':Nat}{pos':Pos}{es:E}{pos q:Pos}(c:Ct X w k N sc)(hg:sc.lookup ("zip" : Str)=some .globalImplicit)(hs:Hs X w false es [a,b])(n:Vy es=true):SI w (.itr .zip es) X (.Tuple N5 k' pos') (.Call (.Name "zip" q) [a,b] [] pos):=fun F p j s Q I h=>by
 have st:=hs.star;refine wpAny_Call_Name_kw (G5 I (c.gi hg) (c.bn.b _ (by decide +kernel)) (by decide +kernel:bootBuiltins "zip" = some (.type "zip")) (by decide) (by decide) (callWith_type1 (Yg st (Rx hs n I h fun F1 p1 ts us s1 xs l I1 ar e q=>?_)) (Z2 (st _ Yn)) (Y5 [b] X.env pos fun e m=>st e (Vk _ m))))
 have fin:∀{l1 l2:Addr} {h2:Heap} {tn:Nat->Heap->Prop},(∃o,s1.heap.get? l1=some o)->(∃o,s1.heap.get? l2=some o)->(ZipApart (s1.heap.objs.size+4) (s1.heap.objs.size+2) (s1.heap.objs.size+3) s1.heap.objs.size (s1.heap.objs.size+1) l1 l2->Turn X.toMd F1 (.Tuple N5 k' pos') xs [s1.heap.objs.size+4,s1.heap.objs.size+2,s1.heap.objs.size+3,s1.heap.objs.size,s1.heap.objs.size+1] (s1.heap.objs.size+4) tn)->tn 0 h2 ->
   (∀b o,s1.heap.get? b=some o->h2.get? b=some o)->xs.length<=sizeLine->IE X F j (.Tuple N5 k' pos') Q (.ref (s1.heap.objs.size+4)) { s1 with heap:=h2 }:=fun n1 n2 T' t0 kp zz=>by
  obtain⟨_,n1⟩:=n1;obtain⟨_,n2⟩:=n2;refine⟨F1,p1,xs,_,_,_,s1.heap,rfl,l,I1,T' (zipApart_new (Jw n1) (Jw n2)),t0,fun c hc=>Heap.get?_none_of_le ?_,kp,zz,q⟩;simp only[Vv,Tz,or_false]at hc;rcases hc with rfl | rfl | rfl | rfl | rfl<;>first | exact Gc _ | exact Nat.le_add_right _ _
 rcases Ko e with ⟨z,_⟩ | ⟨_,a,b,rfl,rfl⟩ | ⟨_,a,b,rfl,rfl⟩ | ⟨z,_⟩ | ⟨z,_⟩
 .cases z
 .obtain⟨u1,u2,rfl,r1,r2⟩:=pr2 ar;obtain⟨l1,o1,Mh,rfl,h1,k1,q1⟩:=r1.unL;obtain⟨l2,o2,U7,rfl,h2,k2,q2⟩:=r2.unL;have g1:=I1.fh _ _ h1;have g2:=I1.fh _ _ h2;refine call_zip_2 (k1.is g1) (k2.is g2) fun hh b1 b2 b3 b4 b5 b6 k3=>wpAny_pyIter_zip (s:={ s1 with heap:=hh }) b1 (fin ⟨_,g1⟩ ⟨_,g2⟩ (fun D=>j0 D h1 k1 q1 h2 k2 q2) ⟨b1,b2,⟨_,_,b3⟩,b4,b5⟩ k3 (by rw[To,q1.length];exact Jy (Nat.min_le_left _ _) k1.1))
 .obtain⟨u1,u2,rfl,r1,r2⟩:=pr2 ar;obtain⟨l1,o1,Mh,rfl,h1,k1,q1⟩:=r1.unT;obtain⟨l2,o2,U7,rfl,h2,k2,q2⟩:=r2.unT;have g1:=I1.fh _ _ h1;have g2:=I1.fh _ _ h2;refine ZipT.call2 (show s1.heap.IsTuple l1 Mh.toArray from k1.is g1) (show s1.heap.IsTuple l2 U7.toArray from k2.is g2) fun hh b1 b2 b3 b4 b5 b6 k3=>wpAny_pyIter_zip (s:={ s1 with heap:=hh }) b1 (fin ⟨_,g1⟩ ⟨_,g2⟩ (fun D=>Xl D h1 k1 q1 h2 k2 q2) ⟨b1,b2,⟨_,_,b3⟩,b4,b5⟩ k3 (by rw[To,q1.length];exact Jy (Nat.min_le_left _ _) k1.z))
 .cases z
 .cases z
def Yb:Expr->Bool
 | .Call _ _ _ _=>false
 | _=>true
theorem Dp{o:Expr}(h:Yb o=true)(m:Str)(env:Env)(wh:Sem Value):attributeBase o m env wh=wh:=by
 cases o<;>first | rfl | cases h
theorem Ae{ox:Expr}{es:E}{ap cp:Pos}{q:Ik}(m:Str)(hq:(q=.vls/\m = "values")\/(q=.its/\m = "items" /\ isTup tg=true))(hs:Hs X w false es [ox])(n:Vy es=true)(hc:Yb ox=true)(hline:(ap.endLine == cp.line)=true):SI w (.itr q es) X tg (.Call (.Attribute ox m ap) [] [] cp):=fun F p j s Q I h=>by
 have z:Tq X [ox] (fun us s1=>∃v,us=[v]/\MethodOn X.prog X.w X.A m cp v [] (fun v s=>WP X (pyIter v) (IE X F j tg Q) s) X.xe s1) s:=by
  refine Rx hs n I h fun F1 p1 ts us s1 xs l I1 ar e qq=>?_
  .rcases hq with ⟨rfl,rfl⟩ | ⟨rfl,rfl,ht⟩
   .rcases Ko e with ⟨z,_⟩ | ⟨z,_⟩ | ⟨z,_⟩ | ⟨_,XY,rfl,rfl⟩ | ⟨z,_⟩
    rotate_right
    .cases z
    rotate_right
    .obtain⟨v,rfl,r⟩:=Tw ar;obtain⟨d,o,vs,rfl,ho,k,r⟩:=r.unD;obtain⟨ep,m⟩:=Hd ho k;have hd:=I1.fh _ _ ho;refine⟨_,rfl,"dict","dict.values",PySem.F.plainAttrs_dict,PySem.F.slot_dict_values,PySem.F.type_dict_values,(k.is hd).typeIs,fun a e=>by cases e;exact⟨o,hd,k.ex.2.1⟩,Calls.callWith_builtin rfl (PySem.evalArgs_none ?_)⟩;refine call_meetsIn PySem.F.slot_dict_values (k.is hd).typeIs PySem.F.entry_dict_values (PySem.F.args_dict_values_1 _) (meets_dict_values (Zk X.prog X.w) d k.ns) ⟨⟨vs,k.is hd⟩, ?_⟩;refine wpAny_pyIter_values (s:={ s1 with heap:=s1.heap.push { cls:=.type "dict_values",data:=.fields #[.ref d] } }) ⟨_,Gb _ rfl,rfl,rfl⟩ ((m _ I1.fh).push _) ?_;exact IE.le l (ie1 (s:=s1) (tk:=s1.toks) I1 (Xr m r) ⟨_,Gb _ rfl,rfl,rfl⟩ (Heap.get?_none_of_le (by rw[Heap.size_push];omega)) (fun b o e=>Y4 _ (Y4 _ e)) (by rw[Zu,r.length];exact k.z) qq)
    all_goals cases z
   .rcases Ko e with ⟨z,_⟩ | ⟨z,_⟩ | ⟨z,_⟩ | ⟨z,_⟩ | ⟨_,XY,rfl,rfl⟩
    rotate_right
    .cases tg<;>first | (cases ht;done) | skip
     obtain⟨v,rfl,r⟩:=Tw ar;obtain⟨d,o,vs,rfl,ho,k,r⟩:=r.unD;obtain⟨ep,m⟩:=Hd ho k;have hd:=I1.fh _ _ ho;refine⟨_,rfl,"dict","dict.items",PySem.F.plainAttrs_dict,PySem.F.slot_dict_items,PySem.F.type_dict_items,(k.is hd).typeIs,fun a e=>by cases e;exact⟨o,hd,k.ex.2.1⟩,Calls.callWith_builtin rfl (PySem.evalArgs_none ?_)⟩;refine call_meetsIn PySem.F.slot_dict_items (k.is hd).typeIs PySem.F.entry_dict_items (PySem.F.args_dict_items_1 _) (meets_dict_items (Zk X.prog X.w) d k.ns) ⟨⟨vs,k.is hd⟩, ?_⟩;refine wpAny_pyIter_items (s:={ s1 with heap:=s1.heap.push { cls:=.type "dict_items",data:=.fields #[.ref d] } }) ⟨_,Gb _ rfl,rfl,rfl⟩ ((m _ I1.fh).push _) ?_;exact IE.le l (ie1 (s:=s1) (tk:=s1.toks) I1 (Er m r) ⟨.none,.none,Gb _ rfl⟩ (Heap.get?_none_of_le (by rw[Heap.size_push];omega)) (fun b o e=>Y4 _ (Y4 _ e)) (by rw[Zu,r.length];exact k.z) qq)
    all_goals cases z
 exact wpAny_Call_method0_late (Dp hc _ _ _) hline (wpAny_mono z (fun v s1 q=>by
  obtain⟨v',e,q⟩:=q;cases e;exact q) fun _ _ z=>z)
end
noncomputable def Cx.pin(X:Cx)(fp:ZS)(h:Heap):Cx:={ X with G:=fun a=>if a∈fp then h.get? a else X.G a }
structure Fp(X:Cx)(F:OM)(p:P)(j:Vs)(b:Addr):Prop where
 n:F b=none
 k:¬ X.kp b
 o:∀(i:Nat) (t:T),p[i]?=some (Sl.o t)->j[i]?≠some (some (.ref b))
section
variable{X:Cx}{F F':OM}{p p':P}{l σ':Vs}{s s':Shared}{h h':Heap}{fp:ZS}{b:Addr}{tk:Nat}
theorem Inv.isFp(I:Inv X F p l s)(n:s.heap.get? b=none):Fp X F p l b:=by
 refine⟨?_,fun z=>?_,fun i t e e2=>?_⟩
 .cases e:F b with
  | none=>rfl
  | some o=>rw[I.fh _ _ e]at n;cases n
 .obtain⟨o,e⟩:=I.kpAt z;rw[n]at e;cases e
 .obtain⟨a,e1,w⟩:=I.r.ow i t e;rw[e2]at e1;cases e1;obtain⟨x,hx⟩:=w.at;rw[n]at hx;cases hx
theorem Inv.turned(I:Inv X F p l s)(hf:∀b∈fp,Fp X F p l b)(kk:∀b o,b ∉ fp->s.heap.get? b=some o->h'.get? b=some o):Inv X F p l { s with heap:=h',toks:=tk }:=by
 have nf:∀{a:Addr},X.kp a->a ∉ fp:=fun k m=>(hf _ m).k k;refine I.step rfl I.bare (.refl F) (fun a o e=>?_) (fun a o k _ e=>.same (kk a o (nf k) e)) (fun m hn=>M4 (fun o e=>⟨o.slots,kk _ o (nf (.inr (.inl rfl))) e⟩) hn) (I.r.to (.refl F) fun i t a e1 e2=>?_)
 .obtain⟨h1,h2⟩:=I.f a o e;exact⟨kk a o (fun m=>by rw[(hf a m).n]at e;cases e) h1,h2⟩
 .obtain⟨c,g1,w⟩:=I.r.ow i t e1;rw[e2]at g1;cases g1;exact⟨w.f,fun x=>kk a x fun m=>(hf a m).o i t e1 e2⟩
theorem E8(ho:∀b∈fp,∃o,h.get? b=some o){a:Addr}(k:X.kp a):(X.pin fp h).kp a:=by
 rcases k with k | k
 .refine .inl ?_;show (if a∈fp then h.get? a else X.G a)≠none
  split
  .rename_i m
   obtain⟨o,e⟩:=ho a m;rw[e];exact fun z=>nomatch z
  .exact k
 .exact .inr k
theorem ye{a:Addr}(k:(X.pin fp h).kp a):a∈fp\/X.kp a:=by
 rcases k with k | k
 .by_cases m:a∈fp
  .exact .inl m
  .refine .inr (.inl ?_);have k:(if a∈fp then h.get? a else X.G a)≠none:=k;rw[if_neg m]at k;exact k
 .exact .inr (.inr k)
theorem Cx.Ok.pin(ok:X.Ok)(hf:∀b∈fp,¬ X.kp b):(X.pin fp h).Ok:=by
 have ne:∀{a:Addr},X.kp a->(X.pin fp h).G a=X.G a:=fun {a} k=>if_neg fun m=>hf a m k;exact⟨ok.mod,ok.kind,ok.gl,ok.bl,ok.ab,ok.inj,ok.has,ok.hd,ok.frames,ok.stk,ok.b,fun b hb=>by rw[ne (.inl (ok.fg b hb))];exact ok.fg b hb,fun a ma=>(ne (.inr ma)).trans (ok.gm a ma),fun y c e=>(ok.cg y c e).imp id fun z=>by rw[ne (.inl z)];exact z⟩
theorem Inv.pin(I:Inv X F p l s)(hf:∀b∈fp,Fp X F p l b)(ho:∀b∈fp,∃o,s.heap.get? b=some o):Inv (X.pin fp s.heap) F p l s:=by
 have ow:∀{a:Addr} {t:T},Cz X F s.heap a t->a ∉ fp->Cz (X.pin fp s.heap) F s.heap a t:=fun w m=>⟨w.c,w.f,fun z=>(ye z).elim m w.k,w.t⟩;refine⟨I.ok.pin fun b m=>(hf b m).k,I.os,I.bare,I.le,fun a o e=>?_,fun a o e=>?_,I.fr,I.ns,I.cell,I.len,⟨I.r.fz,fun i t e=>?_,I.r.ap,I.r.ln⟩,I.pr⟩
 .obtain⟨h1,h2⟩:=I.f a o e;exact⟨h1,fun z=>(ye z).elim (fun m=>by rw[(hf a m).n]at e;cases e) h2⟩
 .have e:(if a∈fp then s.heap.get? a else X.G a)=some o:=e
  split at e
  .exact .same e
  .exact I.g a o e
 .obtain⟨a,h1,w⟩:=I.r.ow i t e;exact⟨a,h1,ow w fun m=>(hf a m).o i t e h1⟩
theorem Cz.unpin(ho:∀b∈fp,∃o,h.get? b=some o){a:Addr}{t:T}(w:Cz (X.pin fp h) F h' a t):Cz X F h' a t:=⟨w.c,w.f,fun z=>w.k (E8 ho z),w.t⟩
theorem Inv.unpin(ok:X.Ok)(hf:∀b∈fp,¬ X.kp b)(ho:∀b∈fp,∃o,h.get? b=some o)(J:Inv (X.pin fp h) F' p' σ' s'):Inv X F' p' σ' s'/\(∀b∈fp,Fp X F' p' σ' b)/\∀b∈fp,∀o,h.get? b=some o->s'.heap.get? b=some o:=by
 have pk:∀{b:Addr},b∈fp->(X.pin fp h).kp b:=fun {b} m=>.inl (by
  show (if b∈fp then h.get? b else X.G b)≠none;rw[if_pos m];obtain⟨o,e⟩:=ho b m;rw[e];exact fun z=>nomatch z)
 refine⟨⟨ok,J.os,J.bare,J.le,fun a o e=>⟨(J.f a o e).1,fun z=>(J.f a o e).2 (E8 ho z)⟩,fun a o e=>J.g a o ?_,J.fr,J.ns,J.cell,J.len,⟨J.r.fz,fun i t e=>let ⟨a,h1,w⟩:=J.r.ow i t e;⟨a,h1,w.unpin ho⟩,J.r.ap,J.r.ln⟩,J.pr⟩,fun b m=>⟨?_,hf b m,fun i t e e2=>?_⟩,fun b m o e=>?_⟩
 .exact(if_neg fun m=>hf a m (.inl (by rw[e];exact fun z=>nomatch z))).trans e
 .cases e:F' b with
  | none=>rfl
  | some o=>exact absurd (pk m) (J.f b o e).2
 .obtain⟨a,h1,w⟩:=J.r.ow i t e;rw[e2]at h1;cases h1;exact w.k (pk m)
 .obtain⟨sl,e1,n⟩:=J.g b o (show (if b∈fp then h.get? b else X.G b)=some o by rw[if_pos m];exact e);rw[e1,n fun z=>hf b m (.inl (ok.fg b z))]
theorem Res.unpin{r:Sl}{v:Value}(ho:∀b∈fp,∃o,h.get? b=some o)(rs:Res (X.pin fp h) F p l h' r v):Res X F p l h' r v:=by
 cases r with
 | no=>exact rs
 | f t=>exact rs
 | o t=>obtain⟨a,e,w,n⟩:=rs;exact⟨a,e,w.unpin ho,n⟩
variable{w:W}{k:Nat}{N:ZG}{sc:ZW}
theorem Ct.pin(c:Ct X w k N sc)(ok:X.Ok)(hf:∀b∈fp,¬ X.kp b)(ho:∀b∈fp,∃o,h.get? b=some o):Ct (X.pin fp h) w k N sc :=
 ⟨c.nN,c.nd,c.nm,c.room,c.un,c.gd,c.bn,c.fn,c.gl,fun F p l s e cc t J x hw=>c.xe F p l s e cc t (J.unpin ok hf ho).1 ⟨x.f,fun z=>x.k (E8 ho z),x.ex⟩ hw,c.cl,c.calm⟩
theorem Pb(c:Ct X w k N sc)(hc:X.calm=true){tg:E}{t:Expr}(hg:Jt N sc tg t=true){x:T}{u:Value}{Q:ZH}(I:Inv X F p l s)(y:Yl X.toMd F s.heap t x u)(ho:Jm X.pt tg=true)(e:asg tg x p=some p')(q:∀σ' s',Inv X F p' σ' s'->Q () s'):WP X (assign t X.env u) Q s:=by
 rcases y with i | ⟨ht,a,us,ts,rfl,rfl,tp,r⟩
 .exact(Es c hc tg).1 t F p p' l s x u Q hg I i ho e q
 .cases tg with
  | tup es =>
   have hg:(match R0 t with | some xs=>C0 N sc es xs | none=>false)=true:=hg
   split at hg
   .rename_i xs ex
    obtain⟨j,pos,rfl⟩:=Ri ex;obtain⟨hl,G7⟩:=k6 hg (show S4 es ts p=some p' from e);obtain⟨a1,a2⟩:=Rm (env:=X.env) G7;refine assign_Tuple_tuple (I.ok.hd hc) tp (by rw[Jv,a1, <-hl,r.length]) a2 fun h' hx=>?_;have I1:Inv X F p l { s with heap:=h' }:=I.more (t:=s.toks) (fun b o _ e=>hx b o (Cq (Jw e)) e) (fun m hn=>hn.keeps fun b o e=>hx b o (Cq (Jw e)) e) (.refl F) fun _ _ e=>.inl e;exact(Es c hc es).2 xs F p p' l _ ts us Q hg I1 r ho e q
   .cases hg
  | v i =>
   have hg:(match U6 t with | some y=>N[i]? == some y && locs sc y | none=>false)=true:=hg
   split at hg
   .rename_i ey
    obtain⟨pos,rfl⟩:=Vz ey;cases ht
   .cases hg
  | _=>cases(show false=true from hg)
theorem ss_for(po:PassesOwn (model X.prog X.w) X.A X.env X.xe)(c:Ct X w k N sc)(hc:X.calm=true){tg it:E}{bd:S}{t iter:Expr}{body:List Stmt}{pos:Pos}(hi:SI w it X t iter)(hg:Jt N sc tg t=true)(hb:∀fp h,Ct (X.pin fp h) w k N sc->SB w bd (X.pin fp h) body)(hs:∀v,foldedSetIterable iter X.env v=pure v):SS w (.loop tg it bd) X (.For t iter body [] pos):=fun F p l s D I hw=>by
 have hw:if Jm X.pt tg=true then wI w it p fun xs q=>Lh (fun x s D=>on (asg tg x s) fun s1=>wS w X.pt bd s1 D) xs q D else False:=hw
 split at hw
 rotate_left
 .exact hw.elim
 rename_i htg
 refine wpAny_For (Yr (hi F p l s _ I hw) fun v s1 h1=>Yr h1 fun itv s2 h2=>?_) hs;obtain⟨F0,p0,xs,itA,fp,tn,h0,rfl,l0,I0,Tr,t0,new,kp0,zz,q0⟩:=h2;have I2:Inv X F0 p0 l s2:=I0.kept (s:={ s2 with heap:=h0 }) (t:=s2.toks) kp0;have f0:∀b∈fp,Fp X F0 p0 l b:=fun b m=>I0.isFp (new b m);refine codeAny_forLoop_any (fun n s'=>∃i F1 p1 σ1,n=xs.length - i/\i<=xs.length/\Le F0 F1/\Inv X F1 p1 σ1 s'/\tn i s'.heap/\(∀b∈fp,Fp X F1 p1 σ1 b)/\Lh (fun x s D=>on (asg tg x s) fun s1=>wS w X.pt bd s1 D) (xs.drop i) p1 D) ?_ xs.length ⟨0,F0,p0,l,rfl,Wz _,.refl F0,I2,t0,f0,q0⟩;rintro n s3 ⟨i,F1,p1,σ1,rfl,K6,l1,I1,t1,f1,q1⟩;have fF:∀a o,F0 a=some o->s3.heap.get? a=some o:=fun a o e=>I1.fh a o (l1 a o e);by_cases Oa:i<xs.length
 .rw[List.drop_eq_getElem_cons Oa]at q1;have q1:on (asg tg xs[i] p1) fun s1=>wS w X.pt bd s1 ⟨fun q=>Lh (fun x s D=>on (asg tg x s) fun s1=>wS w X.pt bd s1 D) (xs.drop (i+1)) q D,D.rt,D.nx,fun q=>Lh (fun x s D=>on (asg tg x s) fun s1=>wS w X.pt bd s1 D) (xs.drop (i+1)) q D⟩:=q1;obtain⟨p2,ea,q1⟩:=Za q1;refine wpAny_passesOwn po (Tr.item X.A i s3 X.xe (fun u s5=>∃h' tk,s5={ s3 with heap:=h',toks:=tk }/\(∀b o,b ∉ fp->s3.heap.get? b=some o->h'.get? b=some o)/\tn (i+1) h'/\Yl X.toMd F0 h' t xs[i] u) (I1.ok.hd hc) t1 fF Oa (fun h' tk u k' t' y=>⟨h',tk,rfl,k',t',y⟩) |> fun z=>wpAny_mono z (fun r s4 ⟨u,hr,h4⟩=>?_) fun _ _ z=>z);subst hr;refine wpAny_passesOwn po (Yr h4 fun _ s5 ⟨h',tk,e5,k5,t5,y5⟩=>?_);subst e5;have I5:Inv X F1 p1 σ1 { s3 with heap:=h',toks:=tk }:=I1.turned f1 k5;have ho:=Tr.obj _ _ t5;have nk:∀b∈fp,¬ X.kp b:=fun b m=>(f1 b m).k;have I6:=I5.pin f1 ho;have cp:Ct (X.pin fp h') w k N sc:=c.pin I1.ok nk ho;have y6:Yl (X.pin fp h').toMd F1 h' t xs[i] u:=y5.imp (fun i=>i.up l1) fun⟨a,b,c,d,e,g,hh,r⟩=>⟨a,b,c,d,e,g,hh,r.up l1⟩;refine wpAny_passesOwn po (Yr (Pb (X:=X.pin fp h') cp hc hg I6 y6 htg ea (Q:=fun _ s6=>∃σ6,Inv (X.pin fp h') F1 p2 σ6 s6) fun σ' s' J=>⟨σ',J⟩) fun _ s6 ⟨σ6,J6⟩=>?_);refine wpAny_passesOwn po (Yr (hb fp h' cp F1 p2 σ6 s6 _ J6 q1) fun f s7 ⟨F7,p7,σ7,l7,J7,q7⟩=>?_);obtain⟨I7,f7,k7⟩:=J7.unpin I1.ok nk ho;have l70:=l0.trans (l1.trans l7);cases f with
  | next=>exact⟨_,by omega,i+1,F7,p7,σ7,rfl,Oa,l1.trans l7,I7,Tr.keep _ _ _ t5 k7,f7,q7⟩
  | cont=>exact⟨_,by omega,i+1,F7,p7,σ7,rfl,Oa,l1.trans l7,I7,Tr.keep _ _ _ t5 k7,f7,q7⟩
  | brk=>exact⟨F7,p7,σ7,l70,I7,q7⟩
  | ret v=>obtain⟨r,rs,q7⟩:=q7;exact⟨F7,p7,σ7,l70,I7,r,rs.unpin ho,q7⟩
 .have ei:i=xs.length:=by omega
  subst ei;rw[List.drop_length]at q1;refine wpAny_passesOwn po (Tr.done X.A xs.length s3 X.xe _ (I1.ok.hd hc) t1 fF (Gc _) fun h' tk k'=>?_);exact wpAny_execs_nil ⟨F1,p1,σ1,l0.trans l1,I1.turned f1 k',q1⟩
end
theorem Qp:∀{fr:ZV} {q p:P},fr.length=q.length->(back fr q p).length=p.length/\∀(i:Nat) (s:Sl),(back fr q p)[i]?=some s->(p[i]?=some s/\∀k:Nat,fr[k]?≠some (some i))\/∃k:Nat,fr[k]?=some (some i)/\q[k]?=some s
 | [],q,p,_=>⟨rfl,fun i s h=>.inl ⟨h,fun k z=>by simp at z⟩⟩
 | none::fr,[],p,h=>by cases h
 | some j::fr,[],p,h=>by cases h
 | none::fr,x::q,p,h=>by
  obtain⟨h1,h2⟩:=Qp (fr:=fr) (q:=q) (p:=p) (Nat.succ.inj h);refine⟨h1,fun i s e=>?_⟩;rcases h2 i s e with ⟨a,b⟩ | ⟨k,a,b⟩
  .refine .inl ⟨a,fun k z=>?_⟩;cases k with
   | zero=>cases z
   | succ k=>exact b k z
  .exact .inr ⟨k+1,a,b⟩
 | some j::fr,x::q,p,h=>by
  obtain⟨h1,h2⟩:=Qp (fr:=fr) (q:=q) (p:=p.set j x) (Nat.succ.inj h);refine⟨h1.trans (XX ..),fun i s e=>?_⟩;rcases h2 i s e with ⟨a,b⟩ | ⟨k,a,b⟩
  .rcases Yq a with ⟨z1,z2⟩ | ⟨n,a⟩
   .exact .inr ⟨0,by rw[z1];rfl,by rw[z2];rfl⟩
   .refine .inl ⟨a,fun k z=>?_⟩;cases k with
    | zero=>cases z;exact n rfl
    | succ k=>exact b k z
  .exact .inr ⟨k+1,a,b⟩
abbrev Of(fr:ZV)(j:Nat):Prop:=∃k:Nat,fr[k]?=some (some j)
noncomputable def Ey(X:Cx)(F:OM)(p:P)(j:Vs)(s:Shared)(scope:Scope)(ns:ZG)(fr:ZV)(L:Addr):Cx :=
 { X with N:=ns,env:=compEnvC scope (Yx X.env scope.names []) L X.env,outer:=X.stack,stack:=X.stack,own:=false,os:=s.os,G:=GG F p j (Of fr) s.heap,F0:=F,σ0:=frees fr j,pt:=fun i=>(fr[i]?).join.isSome,xe:=sv }
structure Q5(X:Cx)(scope:Scope)(N:ZG)(fr:ZV):Prop where
 clos:closureFor scope X.env=pure (Yx X.env scope.names [])
 kind:scope.kind=.function
 nocell:∀y∈scope.names,y.2≠.cell
 names:∀y∈scope.names,y.2=.local->scope.names.lookup y.1=some .local
 cells:∀x c,(Yx X.env scope.names []).lookup x=some c->X.env.cells.lookup x=some c
 has:∀x,((relabel scope X.env).names.lookup x=some .cell\/(relabel scope X.env).names.lookup x=some .free)->∃c,(Yx X.env scope.names []).lookup x=some c
 len:fr.length=N.length
 fr:∀(i j:Nat),fr[i]?=some (some j)->∃x,N[i]?=some x/\X.N[j]?=some x/\¬ X.env.kindOf x=some .local/\((relabel scope X.env).names.lookup x=some .cell\/(relabel scope X.env).names.lookup x=some .free)
theorem Xq{X:Cx}{NX:ZG}{outer scope:Scope}{N:ZG}{fr:ZV}(nx:X.N=NX)(sc:X.env.scope.names=outer.names)(h1:Wv outer scope=true)(ok2:Js NX scope.names N fr=true)(ok:X.Ok):Q5 X scope N fr:=by
 unfold Wv at h1;simp only[Vp,decide_eq_true_eq,tj,Bool.or_eq_true]at h1;obtain⟨hk,hn⟩:=h1
 have kof:∀x,X.env.kindOf x=outer.names.lookup x:=fun x=>by
  show X.env.scope.names.lookup x=_;rw[sc]
 have Zzf:∀y∈scope.names,y.2=.free->X.env.kindOf y.1=some .cell\/X.env.kindOf y.1=some .free:=fun y hy e=>by
  rcases(hn y hy).2 with (z | z) | z
  .exact absurd e z
  .exact .inl ((kof _).trans z)
  .exact .inr ((kof _).trans z)
 have Oe:∀y∈scope.names,y.2=.free->∃c,X.env.cells.lookup y.1=some c:=fun y hy e=>ok.has y.1 (Zzf y hy e);refine⟨Wr Oe,hk,fun y hy=>(hn y hy).1.1,fun y hy e=>?_,fun x c e=>?_,fun x h=>?_,Rw ok2,fun i j e=>?_⟩
 .rcases(hn y hy).1.2 with z | z
  .exact absurd e z
  .exact z
 .exact Rc Oe (fun p hp=>by cases hp) (x,c) (PySem.mem_of_lookup e)
 .have hm:(x,NameKind.free)∈scope.names:=by
   rcases h with h | h
   .obtain⟨k0,h1,h2⟩:=B5 h;rcases h2 with h2 | ⟨h2,_⟩
    .exact absurd h2.symm (hn _ h1).1.1
    .subst h2;exact h1
   .obtain⟨k0,h1,h2⟩:=B5 h;rcases h2 with h2 | ⟨_,h2⟩
    .subst h2;exact h1
    .cases h2
  obtain⟨c,hc⟩:=Rr (env:=X.env) (cs:=[]) hm;exact D8 hc
 .obtain⟨x,q1,q2,q3⟩:=Rv ok2 e;have hm:=PySem.mem_of_lookup q3;have hf:=Zzf (x,.free) hm rfl;refine⟨x,q1,by rw[nx];exact q2, ?_,D1 q3⟩;intro z;dsimp only at hf;rw[z]at hf;rcases hf with hf | hf<;>cases hf
section
variable{X:Cx}{scope:Scope}{N:ZG}{fr:ZV}{F F':OM}{p q:P}{V τ:Vs}{s s':Shared}{L:Addr}
theorem sub_B:Sub X F p V s (Of fr) (Ey X F p V s scope N fr L):=⟨rfl,rfl,rfl,rfl,rfl⟩
theorem Bm{i:Nat}{v:Value}(h:(frees fr V)[i]?=some (some v)):∃j,fr[i]?=some (some j)/\V[j]?=some (some v):=by
 unfold frees at h;rw[G0m]at h;cases e:fr[i]? with
 | none=>rw[e]at h;cases h
 | some o =>
  rw[e]at h;cases o with
  | none=>cases h
  | some j =>
   refine⟨j,rfl, ?_⟩;have h':(V[j]?).bind id=some v:=Ms h;cases e2:V[j]? with
   | none=>rw[e2]at h';cases h'
   | some o2=>rw[e2]at h';exact congrArg some h'
theorem G9{i j:Nat}{v:Value}(e:fr[i]?=some (some j))(h:V[j]?=some (some v)):(frees fr V)[i]?=some (some v):=by
 unfold frees;rw[G0m,e];show some ((V[j]?).bind id)=_;rw[h];rfl
theorem Nx{i:Nat}{x:Sl}(h:(u6 fr p)[i]?=some x)(n:x≠.no):∃j,fr[i]?=some (some j)/\p[j]?=some x:=by
 unfold u6 at h;rw[G0m]at h;cases e:fr[i]? with
 | none=>rw[e]at h;cases h
 | some o =>
  rw[e]at h;cases o with
  | none=>cases h;exact absurd rfl n
  | some j =>
   refine⟨j,rfl, ?_⟩;have h':(p[j]?).getD .no=x:=Ms h;cases e2:p[j]? with
   | none=>rw[e2]at h';exact absurd h'.symm n
   | some o2=>rw[e2]at h';exact congrArg some h'
theorem y8(C:Q5 X scope N fr)(I:Inv X F p V s)(hN:N.Nodup)(hXN:X.N.Nodup)(new:s.heap.get? L=none)(hL:X.base.objs.size<=L){h1:Heap}{tk:Nat}(hns:h1.Ns L fun _=>none)(hk:∀b o,s.heap.get? b=some o->h1.get? b=some o) :
  Inv (Ey X F p V s scope N fr L) F (u6 fr p) (frees fr V) { s with heap:=h1,toks:=tk }:=by
 have gk:∀{b:Addr},X.kp b->GG F p V (Of fr) s.heap b≠none:=fun {b} k=>by
  obtain⟨o,e⟩:=I.kpAt k;rw[M8 (I.kpF k) (fun i t _ q1 q2=>?_) e]
  .exact fun z=>nomatch z
  .obtain⟨c,g1,w⟩:=I.r.ow i t q1;rw[q2]at g1;cases g1;exact w.k k
 have mn:∀{b:Addr},(Ey X F p V s scope N fr L).mn b->b=L:=fun {b} h=>by
  rcases h with h | ⟨z,_⟩
  .exact h
  .cases z
 have nokp:∀{b:Addr} {o:Obj},s.heap.get? b=some o->GG F p V (Of fr) s.heap b=none->¬ (Ey X F p V s scope N fr L).kp b:=fun {b o} e g h=>by
  rcases h with h | h
  .exact h g
  .rw[mn h,new]at e;cases e
 have cell:∀x c,(Yx X.env scope.names []).lookup x=some c->∃v,h1.IsCell c v:=fun x c e=>by
  obtain⟨v,o,e1,d⟩:=I.cell x c (C.cells x c e);exact⟨v,o,hk c o e1,d⟩
 refine⟨⟨I.ok.mod,C.kind,I.ok.gl,I.ok.bl,hL,fun x y c e1 e2=>I.ok.inj x y c (C.cells x c e1) (C.cells y c e2),fun x h=>C.has x h,I.ok.hd,I.ok.frames,.inl rfl,fun a o e=>I.le a o (I.ok.b a o e),fun b hb=>gk (I.stackKp hb),fun a ma=>by rw[mn ma];exact Fe new,fun x c e=>.inr (gk (I.cellKp (C.cells x c e)))⟩,
  rfl,I.bare,.refl F,fun a o e=>?_,fun a o e=>.same (hk a o ?_),Uz (fun b _ o e=>⟨o.slots,hk b o e⟩) I.stack,⟨_,hns,fun i x v e1 e2=>?_⟩,cell, ?_, ?_,fun _ _=>rfl⟩
 .obtain⟨g1,_⟩:=I.f a o e;exact⟨hk a o g1,nokp g1 (O0 (by rw[e];exact fun z=>nomatch z))⟩
 .have e:GG F p V (Of fr) s.heap a=some o:=e;unfold GG at e
  split at e
  .cases e
  .exact e
 .obtain⟨j,q1,q2⟩:=Bm e2;obtain⟨x',n1,n2,nl,k⟩:=C.fr i j q1;obtain rfl:x=x':=Ms (e1.symm.trans n1);obtain⟨m,hm,hl⟩:=I.ns;rcases hl j x v n2 q2 with ⟨l1,_⟩ | ⟨_,c,l2,o,l3,l4⟩
  .exact absurd l1 nl
  .obtain⟨c',Fh⟩:=C.has x k;have ec:=C.cells x c' Fh;rw[l2]at ec;cases ec;exact .inr ⟨k,c,Fh,o,hk c o l3,l4⟩
 .show (frees fr V).length=N.length;unfold frees;rw[Zu,C.len]
 .refine⟨fun i t e=>?_,fun i t e=>?_,fun i j t u a e1 e2 g1 g2=>?_,by unfold u6 frees;rw[Zu,Zu]⟩
  .obtain⟨j,q1,q2⟩:=Nx e fun z=>nomatch z;obtain⟨v,h1,h2⟩:=I.r.fz j t q2;exact⟨v,G9 q1 h1,h2⟩
  .obtain⟨j,q1,q2⟩:=Nx e fun z=>nomatch z;obtain⟨a,g1,w⟩:=I.r.ow j t q2;obtain⟨o,eo⟩:=w.at;exact⟨a,G9 q1 g1,w.c,w.f,nokp eo (Ia ⟨i,q1⟩ q2 g1),w.t.to (D':=h1.get?) w.c (hk a)⟩
  .obtain⟨k,q1,q2⟩:=Nx e1 fun z=>nomatch z;obtain⟨l,q3,q4⟩:=Nx e2 fun z=>nomatch z;obtain⟨b,h1,_⟩:=I.r.ow k t q2;obtain⟨c,h2,_⟩:=I.r.ow l u q4;rw[G9 q1 h1]at g1;cases g1;rw[G9 q3 h2]at g2;cases g2;have:=I.r.ap k l t u a q2 q4 h1 h2;subst this;obtain⟨x,n1,n2,_⟩:=C.fr i k q1;obtain⟨y,n3,n4,_⟩:=C.fr j k q3;rw[n2]at n4;cases n4;exact M5 hN n1 n3
theorem K2(C:Q5 X scope N fr)(I:Inv X F p V s)(new:s.heap.get? L=none)(J:Inv (Ey X F p V s scope N fr L) F' q τ s'):Le F F'/\Inv X F' (back fr q p) V s'/\(∀r v,Res (Ey X F p V s scope N fr L) F' q τ s'.heap r v->Res X F' (back fr q p) V s'.heap r v)/\Fp X F' (back fr q p) V L:=by
 have hl:fr.length=q.length:=by rw[J.r.ln,J.len,C.len];rfl
 obtain⟨b1,b2⟩:=Qp (p:=p) hl
 have val:∀{i k:Nat} {v:Value},fr[k]?=some (some i)->τ[k]?=some (some v)->τ[k]?=V[i]?:=fun {i k v} e1 e2=>by
  have:τ[k]?=(frees fr V)[k]?:=J.pr k (show (fr[k]?).join.isSome=true by rw[e1];rfl);rw[this]at e2;obtain⟨j,g1,g2⟩:=Bm e2;rw[e1]at g1;cases g1;rw[this,G9 e1 g2,g2]
 have kL:(Ey X F p V s scope N fr L).kp L:=.inr (.inl rfl);have ex:=I.exit (p2:=back fr q p) (ι:=fun k=>(fr[k]?).join) sub_B J (fun i t e=>?_) (fun i t e=>?_) b1;refine⟨ex.1,ex.2.1,ex.2.2,⟨J.kpF kL,fun z=>?_,fun i t e e2=>?_⟩⟩
 .obtain⟨o,eo⟩:=I.kpAt z;rw[new]at eo;cases eo
 .rcases b2 i _ e with ⟨h,_⟩ | ⟨k,h1,h2⟩
  .obtain⟨a,g1,w⟩:=I.r.ow i t h;rw[e2]at g1;cases g1;obtain⟨x,hx⟩:=w.at;rw[new]at hx;cases hx
  .obtain⟨a,g1,w⟩:=J.r.ow k t h2;rw[val h1 g1,e2]at g1;cases g1;exact w.k kL
 .rcases b2 i _ e with ⟨h,_⟩ | ⟨k,h1,h2⟩
  .exact .inl h
  .obtain⟨v,g1,_⟩:=J.r.fz k t h2;exact .inr ⟨k,h2,val h1 g1⟩
 .rcases b2 i _ e with ⟨h,n⟩ | ⟨k,h1,h2⟩
  .exact .inl ⟨h,fun⟨k,hk⟩=>n k hk⟩
  .obtain⟨a,g1,_⟩:=J.r.ow k t h2;exact .inr ⟨k,h2,val h1 g1,by rw[h1];rfl⟩
end
theorem R2{prog:Program}{w:World}{A:Around}{E:ZQ}{s:Shared}{a:Addr}{us:ZK}{n:Nat}{u:Value}{Q:ZQ}(e:s.heap.get? a=some { cls:=.type "list",data:=.seq us.toArray n })(hz:us.length<sizeLine)
  (k:∀h' m,(∀b,b≠a->h'.get? b=s.heap.get? b)->h'.get? a=some { cls:=.type "list",data:=.seq (us++[u]).toArray m }->Q .none { s with heap:=h' }):wpAny (model prog w) A (call (.builtin "list.append") [.ref a,u]) Q E s:=by
 refine call_meets PySem.F.slot_list_append ⟨_,e,rfl⟩ PySem.F.entry_list_append (PySem.F.args_list_append_2 _ _) (PySem.list_append a us.toArray n u (by rw[Jv];omega)) ⟨e, ?_⟩
 have em:Obj.mapSeq (fun x=>x.push u) { cls:=.type "list",data:=.seq us.toArray n }={ cls:=.type "list",data:=.seq (us++[u]).toArray (n+1) }:=by
  simp[Obj.mapSeq]
 exact k _ _ (fun b nb=>Heap.get?_update_other _ _ (Ne.symm nb)) ((Heap.get?_update_self _ e (by rfl)).trans (congrArg some em))
def Na(w:W)(tg c el:E):T->P->(Option T->P->Prop)->Prop:=fun x s K=>on (asg tg x s) fun s1=>if isNil c=true then wE w.nx el s1 fun r s2=>Mu r fun y=>K (some y) s2
 else wE w.nx c s1 fun r s2=>Fj r fun b=>if b=true then wE w.nx el s2 fun r s3=>Mu r fun y=>K (some y) s3 else K none s2
def HT(w:W)(c:E)(Y:Cx)(ifs:ZM):Prop:=∀(F:OM) (p:P) (j:Vs) (s:Shared) (Q:Bool->P->Prop),Inv Y F p j s->(if isNil c=true then Q true p else wE w c p fun r q=>Fj r fun b=>Q b q)->WP Y (Ah ifs Y.env) (TP Y F j Q) s
theorem ht_nil{w:W}{c:E}{Y:Cx}(h:isNil c=true):HT w c Y []:=fun F p j s Q I q=>by
 rw[if_pos h]at q;exact wpAny_tests_nil ⟨F,p,.refl F,I,q⟩
theorem ht_one{w:W}{c:E}{Y:Cx}{z:Expr}(h:isNil c=false)(hc:ST w c Y z (eval z Y.env)):HT w c Y [z]:=fun F p j s Q I q=>by
 rw[if_neg (by rw[h];exact Q6)]at q;exact wpAny_tests_one (hc F p j s Q I q)
section
variable{X:Cx}{w:W}{k:Nat}{N:ZG}{sc:Scope}{scope:Scope}{ns:ZG}{fr:ZV}
theorem Ct.comp(c:Ct X w k N sc.names)(h1:Wv sc scope=true)(nd:ns.Nodup){F:OM}{p:P}{j:Vs}{s:Shared}{L:Addr}:Ct (Ey X F p j s scope ns fr L) w.nx k ns scope.names:=by
 refine⟨rfl,nd,fun x kd e=>?_,c.room,c.un,c.gd,c.bn,c.fn,c.gl,fun _ _ _ _ _ _ _ _ _ z=>z.elim,fun x e=>?_,c.calm⟩
 .have e2:(relabel scope X.env).names.lookup x=some (if (kd == NameKind.free && X.env.scope.kind == .function && X.env.kindOf x == some .cell)=true then NameKind.cell else kd):=by
   rw[D6,Ve (f:=fun n k=>if (k == NameKind.free && X.env.scope.kind == .function && X.env.kindOf n == some .cell)=true then NameKind.cell else k),e]
   rfl
  show (relabel scope X.env).names.lookup x=some kd\/(kd=NameKind.free/\(relabel scope X.env).names.lookup x=some NameKind.cell);rw[e2]
  split
  .rename_i h
   simp only[Vp,beq_iff_eq]at h;exact .inr ⟨h.1.1,rfl⟩
  .exact .inl rfl
 .unfold Wv at h1;simp only[Vp,decide_eq_true_eq,tj,Bool.or_eq_true]at h1;exact absurd rfl (h1.2 (x,.cell) (PySem.mem_of_lookup e)).1.1
theorem Sf(c:Ct X w k N sc.names)(hc:X.calm=true)(C:Q5 X scope ns fr)(h1:Wv sc scope=true)(nd:ns.Nodup){tg cd el:E}{t elt iter:Expr}{ifs:ZM}{pos:Pos}(hg:Jt ns scope.names tg t=true)(htg:Jm (fun i=>(fr[i]?).join.isSome) tg=true)
  (ht:∀Y,Ct Y w.nx k ns scope.names->HT w.nx cd Y ifs) (he:∀Y,Ct Y w.nx k ns scope.names->SE w.nx el Y elt) {F:OM} {l:Vs} {s2:Shared} {itv:Value} {Q:Sl->P->Prop} {RR:Value->Addr->Result->Shared->Prop} {E:ZQ}
  (h2:IE X F l t (fun xs q=>Z6 (Na w tg cd el) xs [] (u6 fr q) fun ys s=>Q (.o (.lst ys)) (back fr s q)) itv s2)
  (kh:∀(D L:Addr) (fl:Flow) (s':Shared) (F':OM) (p':P) (ys:ZZ) (m:ZJ),Le F F'->Inv X F' p' l s'->Res X F' p' l s'.heap (.o (.lst ys)) (.ref D)->Fp X F' p' l L->D≠L->s'.heap.Ns L m->Q (.o (.lst ys)) p'->RR (.ref D) L (.ok fl) s') :
  wpAny (model X.prog X.w) X.A (newList []) (fun acc s₃=>wpAny (model X.prog X.w) X.A (newFunctionEnv scope X.env.globals (Yx X.env scope.names []) [] X.env.qual none .none (some X.env)) (fun cenv s₄ =>
   codeAny (model X.prog X.w) X.A (.compStart (.ListComp elt [⟨t,iter,ifs,0⟩] scope pos) 0 itv acc { cenv with scope:=relabel scope X.env }) (RR acc cenv.locals) s₄) E s₃) E s2:=by
 obtain⟨F0,p0,xs,itA,fp,tn,h0,rfl,l0,I0,Tr,t0,new,kp0,zz,q0⟩:=h2;have obj0:=Tr.obj 0 _ t0;refine wpAny_newObj_type (wpAny_newFunctionEnv C.nocell (by intro y hy;simp at hy) (fun hh hns hsb=>?_) C.kind);dsimp only at hns hsb ⊢;have eD:(s2.heap.push { cls:=.type "list",data:=.seq ([]:ZK).toArray }).get? s2.heap.objs.size=some { cls:=.type "list",data:=.seq ([]:ZK).toArray }:=Gb _ rfl;have nLD:s2.heap.objs.size≠(s2.heap.push { cls:=.type "list",data:=.seq ([]:ZK).toArray }).objs.size:=by rw[Heap.size_push];omega
 have hk1:∀b o,(s2.heap.push { cls:=.type "list",data:=.seq ([]:ZK).toArray }).get? b=some o->hh.get? b=some o:=fun b o e=>hsb.extBut b o (Cq (Jw e)) (Y4 _ e);have hk2:∀b o,s2.heap.get? b=some o->hh.get? b=some o:=fun b o e=>hk1 b o (Y4 _ e);have szL:s2.heap.objs.size<(s2.heap.push { cls:=.type "list",data:=.seq ([]:ZK).toArray }).objs.size:=by rw[Heap.size_push];omega
 have eD1:=hk1 _ _ eD;generalize hD:s2.heap.objs.size=D at *;generalize hL:(s2.heap.push { cls:=.type "list",data:=.seq ([]:ZK).toArray }).objs.size=L at *
 have new0:∀{b:Addr},D<=b->h0.get? b=none:=fun {b} h=>by
  cases e:h0.get? b with
  | none=>rfl
  | some o=>exact absurd (Jw (kp0 b o e)) (by rw[hD];exact Nat.not_lt_of_le h)
 have I2:Inv X F0 p0 l s2:=I0.kept (s:={ s2 with heap:=h0 }) (t:=s2.toks) kp0
 have hbL:X.base.objs.size<=L:=by
  have a1:=I2.ok.ab;have a2:=I2.lt;rw[hD]at a2;exact Nat.le_of_lt (N0o a1 (Nat.lt_trans a2 szL))
 have J1:=y8 (h1:=hh) (tk:=s2.toks+([]:List (Str×Value)).length) C I0 nd (by rw[c.nN];exact c.nd) (new0 (Nat.le_of_lt szL)) hbL hns (fun b o e=>hk2 b o (kp0 b o e))
 have nD:D ∉ fp:=fun m=>by
  obtain⟨o,e⟩:=obj0 D m;exact absurd (Jw e) (by rw[hD];exact Nat.lt_irrefl _)
 have fpY:∀b∈D::fp,Fp (Ey X F0 p0 l { s2 with heap:=h0 } scope ns fr L) F0 (u6 fr p0) (frees fr l) b:=fun b m=>by
  have nb:h0.get? b=none/\b≠L:=by
   rcases Vv.mp m with rfl | m
   .exact⟨new0 (Gc _),nLD⟩
   .obtain⟨o,e⟩:=obj0 b m;exact⟨new b m,fun z=>absurd (Jw e) (by rw[hD,z];exact Nat.not_lt_of_le (Nat.le_of_lt szL))⟩
  have f0:=I0.isFp nb.1;refine⟨f0.n,fun z=>?_,fun i u e e2=>?_⟩
  .rcases z with z | z | ⟨z,_⟩
   .exact z (Fe nb.1)
   .exact nb.2 z
   .cases z
  .obtain⟨j,g1,g2⟩:=Nx e fun z=>nomatch z;obtain⟨j',g3,g4⟩:=Bm e2;rw[g1]at g3;cases g3;exact f0.o j u g2 g4
 have cY:Ct (Ey X F0 p0 l { s2 with heap:=h0 } scope ns fr L) w.nx k ns scope.names:=c.comp h1 nd;have okY:=J1.ok
 have loop:codeAny (model X.prog X.w) X.A (.compLoop (.ListComp elt [⟨t,iter,ifs,0⟩] scope pos) 0 (.ref itA) (.ref D) (Ey X F0 p0 l { s2 with heap:=h0 } scope ns fr L).env) (RR (.ref D) L) { s2 with heap:=hh,toks:=s2.toks+([]:List (Str×Value)).length }:=by
  refine Qt (fun n s'=>∃i F1 q1 τ1 us ys m,n=xs.length - i/\i<=xs.length/\Le F0 F1/\Inv (Ey X F0 p0 l { s2 with heap:=h0 } scope ns fr L) F1 q1 τ1 s'/\tn i s'.heap/\(∀b∈D::fp,Fp (Ey X F0 p0 l { s2 with heap:=h0 } scope ns fr L) F1 q1 τ1 b) /\
   s'.heap.get? D=some { cls:=.type "list",data:=.seq us.toArray m }/\Zr X.toMd F1 ys us/\us.length<=i/\Z6 (Na w tg cd el) (xs.drop i) ys q1 fun ys s=>Q (.o (.lst ys)) (back fr s p0)) ?_ xs.length ⟨0,F0,_,_,[],[],0,rfl,Wz _,.refl F0,J1,Tr.keep _ _ _ t0 (fun b _ o e=>hk2 b o e),fpY,eD1,.nil,Gc _,q0⟩
  rintro n s3 ⟨i,F1,q1,τ1,us,ys,m,rfl,K6,l1,J3,t3,f3,e3,r3,z3,w3⟩;have fF:∀a o,F0 a=some o->s3.heap.get? a=some o:=fun a o e=>J3.fh a o (l1 a o e);by_cases Oa:i<xs.length
  .rw[List.drop_eq_getElem_cons Oa]at w3
   have w3:Na w tg cd el xs[i] q1 fun o p'=>match o with
    | some y=>Z6 (Na w tg cd el) (xs.drop (i+1)) (ys++[y]) p' fun ys s=>Q (.o (.lst ys)) (back fr s p0)
    | none=>Z6 (Na w tg cd el) (xs.drop (i+1)) ys p' fun ys s=>Q (.o (.lst ys)) (back fr s p0):=w3
   obtain⟨p2,ea,w3⟩:=Za w3;refine wpAny_mono (Tr.item X.A i s3 sv (fun u s5=>∃h' tk,s5={ s3 with heap:=h',toks:=tk }/\(∀b o,b ∉ fp->s3.heap.get? b=some o->h'.get? b=some o)/\tn (i+1) h'/\Yl X.toMd F0 h' t xs[i] u) (J3.ok.hd hc) t3 fF Oa (fun h' tk u k' t' y=>⟨h',tk,rfl,k',t',y⟩)) (fun r s4 ⟨u,hr,h4⟩=>?_) fun _ _ z=>z;subst hr;show H8 _ _ _ _ _ _ _ _ _ _ _ _;refine wpAny_mono h4 (fun _ s5 ⟨h',tk,e5,k5,t5,y5⟩=>?_) fun _ _ z=>z;subst e5;have kD:=k5 D _ nD e3;have I5:=J3.turned (fp:=D::fp) (h':=h') (tk:=tk) f3 (fun b o n e=>k5 b o (fun z=>n (Vk _ z)) e)
   have ho:∀b∈D::fp,∃o,h'.get? b=some o:=fun b mb=>by
    rcases Vv.mp mb with rfl | mb
    .exact⟨_,kD⟩
    .exact Tr.obj _ _ t5 b mb
   have nk:∀b∈D::fp,¬ (Ey X F0 p0 l { s2 with heap:=h0 } scope ns fr L).kp b:=fun b mb=>(f3 b mb).k;have I6:=I5.pin f3 ho;have cp:=cY.pin (fp:=D::fp) (h:=h') okY nk ho;have y6:Yl X.toMd F1 h' t xs[i] u:=y5.imp (fun i=>i.up l1) fun⟨a,b,c,d,e,g,hh,r⟩=>⟨a,b,c,d,e,g,hh,r.up l1⟩;refine wpAny_mono (Pb (X:=(Ey X F0 p0 l { s2 with heap:=h0 } scope ns fr L).pin (D::fp) h') cp hc hg I6 y6 htg ea (Q:=fun _ s6=>∃σ6,Inv ((Ey X F0 p0 l { s2 with heap:=h0 } scope ns fr L).pin (D::fp) h') F1 p2 σ6 s6) fun σ' s' J=>⟨σ',J⟩) (fun _ s6 ⟨σ6,J6⟩=>?_) fun _ _ z=>z;refine wpAny_mono (ht _ cp F1 p2 σ6 s6 (fun b q=>if b=true then wE w.nx el q fun r s3=>Mu r fun y=>Z6 (Na w tg cd el) (xs.drop (i+1)) (ys++[y]) s3 fun ys s=>Q (.o (.lst ys)) (back fr s p0) else Z6 (Na w tg cd el) (xs.drop (i+1)) ys q fun ys s=>Q (.o (.lst ys)) (back fr s p0)) J6 ?_) (fun ok s9 ⟨F9,p9,l9,J9,q9⟩=>?_) fun _ _ z=>z
   .split at w3
    .rename_i hn
     rw[if_pos hn,if_pos rfl];exact w3
    .rename_i hn
     rw[if_neg hn];exact w3
   unfold L2.TurnEnd;cases ok with
   | false =>
    rw[if_neg Q6]at q9 ⊢;obtain⟨I9,f9,k9⟩:=J9.unpin okY nk ho;exact⟨_,by omega,i+1,F9,p9,σ6,us,ys,m,rfl,Oa,l1.trans l9,I9,Tr.keep _ _ _ t5 (fun b mb o e=>k9 b (Vk _ mb) o e),f9,k9 D Yn _ kD,r3.up l9,by omega,q9⟩
   | true =>
    rw[if_pos rfl]at q9 ⊢;refine wpAny_mono (he _ cp F9 p9 σ6 s9 _ J9 q9) (fun yv rz q10=>?_) fun _ _ z=>z;obtain⟨F10,p10,y,l10,J10,iy,q10⟩:=q10.t;obtain⟨I10,f10,k10⟩:=J10.unpin okY nk ho;have e10:=k10 D Yn _ kD;refine R2 e10 (by omega) fun g11 m' kk e11=>?_;have I11:=I10.turned (fp:=D::fp) (h':=g11) (tk:=rz.toks) f10 (fun b o n e=>(kk b fun z=>n (z ▸ Yn)).trans e);refine⟨_,by omega,i+1,F10,p10,σ6,us++[yv],ys++[y],m',rfl,Oa,l1.trans (l9.trans l10),I11,Tr.keep _ _ _ t5 (fun b mb o e=>(kk b fun z=>nD (z ▸ mb)).trans (k10 b (Vk _ mb) o e)),f10,e11,Ga (r3.up (l9.trans l10)) (.cons iy .nil), ?_,q10⟩;rw[Gn,ZU];omega
  .have ei:i=xs.length:=by omega
   subst ei;rw[List.drop_length]at w3;refine Tr.done X.A xs.length s3 sv _ (J3.ok.hd hc) t3 fF (Gc _) fun h' tk k'=>?_;have J4:=J3.turned (fp:=D::fp) (h':=h') (tk:=tk) f3 (fun b o n e=>k' b o (fun z=>n (Vk _ z)) e);obtain⟨l4,I4,rs4,fL⟩:=K2 C I0 (new0 (Nat.le_of_lt szL)) J4;obtain⟨mm,hmm,_⟩:=J4.ns;have fD:=f3 D Yn;have eD':=k' D _ nD e3;exact kh D L .next _ F1 _ ys mm (l0.trans l1) I4 (rs4 (.o (.lst ys)) (.ref D) ⟨D,rfl,⟨rfl,fD.n,fD.k,.mkL (us:=us) eD' ⟨by omega,m,rfl⟩ r3⟩,fD.o⟩) fL nLD hmm w3
 exact codeAny_compStart_list loop (Tr.self _ 0 _ _ _ (Tr.keep _ _ _ t0 fun b _ o e=>hk2 b o e) loop)
end
section
variable{X:Cx}{w:W}{k:Nat}{N:ZG}{sc:Scope}{scope:Scope}{ns:ZG}{fr:ZV}
theorem Res.turned{F:OM}{p:P}{j:Vs}{h h':Heap}{r:Sl}{v:Value}{b:Addr}(rs:Res X F p j h r v)(n:∀a,v=.ref a->a≠b)(k:∀a,a≠b->h'.get? a=h.get? a):Res X F p j h' r v:=by
 cases r with
 | no=>exact rs
 | f t=>exact rs
 | o t=>obtain⟨a,rfl,w,m⟩:=rs;exact⟨a,rfl,w.to (.refl F) w.f fun x e=>(k a (n a rfl)).trans e,m⟩
theorem n8(c:Ct X w k N sc.names)(ct:X.env.scope.names=sc.names)(hc:X.calm=true)(h1:Wv sc scope=true)(ok2:Js N scope.names ns fr=true)(nd:ns.Nodup){tg it cd el:E}{t elt iter:Expr}{ifs:ZM}{pos:Pos}(hi:SI w it X t iter)(hg:Jt ns scope.names tg t=true)(htg:Jm (fun i=>(fr[i]?).join.isSome) tg=true)
  (ht:∀Y,Ct Y w.nx k ns scope.names->HT w.nx cd Y ifs) (he:∀Y,Ct Y w.nx k ns scope.names->SE w.nx el Y elt) (hs:∀x,foldedSetIterable iter X.env x=pure x):SE w (.comp tg it cd el fr ns) X (.ListComp elt [⟨t,iter,ifs,0⟩] scope pos):=fun F p j s Q I hw=>by
 have C:=Xq c.nN ct h1 ok2 I.ok;rw[eval_ListComp];refine wpAny_comprehension_free (use:=none) rfl hs C.clos C.kind C.names (Yr (hi F p j s (fun xs q=>Z6 (Na w tg cd el) xs [] (u6 fr q) fun ys s=>Q (.o (.lst ys)) (back fr s q)) I hw) fun v s1 g1=>Yr g1 fun itv s2 h2=>?_);refine Sf (RR:=fun acc Cc=>compPost (model X.prog X.w) X.A X.xe none (EP X F j Q) acc Cc) c hc C h1 nd hg htg ht he h2 ?_;intro D L fl s' F' p' ys m l I' rs fL ne hns q;refine⟨m,hns,fun h' sb=>?_⟩;exact⟨F',p',_,l,I'.turned (fp:=[L]) (tk:=s'.toks) (fun b hb=>(V1.mp hb) ▸ fL) (fun b o n e=>(sb.2 b (by simpa using n)).trans e),rs.turned (fun a e=>by cases e;exact ne) sb.2,q⟩
theorem cq(c:Ct X w k N sc.names)(ct:X.env.scope.names=sc.names)(hc:X.calm=true)(h1:Wv sc scope=true)(ok2:Js N scope.names ns fr=true)(nd:ns.Nodup){tg it cd el:E}{t elt iter:Expr}{ifs:ZM}{pos pos' P4:Pos}{i:Nat}{y:Str}(hiN:N[i]?=some y)(hl:locs sc.names y=true)(hi:SI w it X t iter)(hg:Jt ns scope.names tg t=true)(htg:Jm (fun i=>(fr[i]?).join.isSome) tg=true)
  (ht:∀Y,Ct Y w.nx k ns scope.names->HT w.nx cd Y ifs) (he:∀Y,Ct Y w.nx k ns scope.names->SE w.nx el Y elt) (hs:∀x,foldedSetIterable iter X.env x=pure x) (hsw:swapsWith (.ListComp elt [⟨t,iter,ifs,0⟩] scope pos) (some (.Name y pos')) P4.line X.env=pure true) :
  SS w (.set i (.comp tg it cd el fr ns)) X (.Assign [.Name y pos'] (.ListComp elt [⟨t,iter,ifs,0⟩] scope pos) P4):=fun F p V s Dd I hw=>by
 have hw:if X.pt i=true then False else wE w (.comp tg it cd el fr ns) p fun r q=>Dd.nx (q.set i r):=hw
 split at hw
 .exact hw.elim
 rename_i hp
 have C:=Xq c.nN ct h1 ok2 I.ok;rw[exec_Assign_Name_used _ _ _ _ hsw];refine Zq (wpAny_standAt (Zq ?_));show wpAny _ X.A (do let _ <-comprehension (.ListComp elt [⟨t,iter,ifs,0⟩] scope pos) scope X.env _ (newList []) false (eval iter X.env) (some (assign (.Name y pos') X.env))) _ _ s
 refine Zq (wpAny_mono (wpAny_comprehension_free (use:=some (assign (.Name y pos') X.env)) (Q:=fun _ s'=>SP X F Dd .next s') rfl hs C.clos C.kind C.names
  (Yr (hi F p V s (fun xs q=>Z6 (Na w tg cd el) xs [] (u6 fr q) fun ys s=>Dd.nx ((back fr s q).set i (.o (.lst ys)))) I hw) fun v s1 g1=>Yr g1 fun itv s2 h2=>?_)) (fun _ s' hq=>Zt (Zt hq)) fun _ _ e=>e)
 refine Sf (Q:=fun r q=>Dd.nx (q.set i r)) (RR:=fun acc Cc=>compPost (model X.prog X.w) X.A X.xe (some (assign (.Name y pos') X.env)) (fun _ s'=>SP X F Dd .next s') acc Cc) c hc C h1 nd hg htg ht he h2 ?_;intro D L fl s' F' p' ys m l I' rs fL ne hns q;show wpAny _ X.A (assign (.Name y pos') X.env (.ref D)) _ _ _;refine wpAny_assign_Name (W1 I' (by rw[c.nN];exact c.nd) (by rw[c.nN];exact hiN) (c.loc hl) (by simpa using hp) rs fun s3 a ma sb I3=>?_);have na:L≠a:=fun z=>fL.k (.inr (z ▸ ma));refine⟨m,hns.sameBut sb na,fun h' sb'=>?_⟩;refine⟨F',_,_,l,I3.turned (fp:=[L]) (tk:=s3.toks) (fun b hb=>?_) (fun b o n e=>(sb'.2 b (by simpa using n)).trans e),q⟩;obtain rfl:b=L:=V1.mp hb;refine⟨fL.n,fL.k,fun j u e e2=>?_⟩;have hiσ:i<V.length:=by rw[I.len,c.nN];exact(dw.mp hiN).1
 rcases Yq e with ⟨rfl,_⟩ | ⟨n,e⟩
 .rw[List.getElem?_set_self hiσ]at e2;cases e2;exact ne rfl
 .rw[List.getElem?_set_ne (Ne.symm n)]at e2;exact fL.o j u e e2
end
section
variable{g:Md}{F:OM}{s:Shared}
def Shw(g:Md)(s:Shared)(u:Value)(d:PyData):Prop:=∃as bs,Reads s.heap u d as/\ReadAtMost s.heap d.depth bs/\ReprK g.prog g.w bs s.heap d.depth u d.shown
def D4(g:Md)(s:Shared)(us:ZK)(ds:List PyData):Prop:=∃as bs,ReadsAll s.heap us ds as/\ReadAtMost s.heap (PyData.depthAll ds) bs/\ReprAllK g.prog g.w bs s.heap (PyData.depthAll ds) us (PyData.shownAll ds)
theorem D4.cons{u:Value}{d:PyData}{us:ZK}{ds:List PyData}(h:Shw g s u d)(h':D4 g s us ds):D4 g s (u::us) (d::ds):=by
 obtain⟨a1,b1,r1,m1,k1⟩:=h;obtain⟨a2,b2,r2,m2,k2⟩:=h';refine⟨_,b1++b2,.cons r1 r2, ?_, ?_⟩
 .simp only[PyData.depthAll];exact(m1.mono (Nat.le_max_left _ _)).append (m2.mono (Nat.le_max_right _ _))
 .simp only[PyData.depthAll,PyData.shownAll];exact .cons ((k1.more fun b hb=>List.mem_append_left _ hb).level_le (Nat.le_max_left _ _)) (k2.more_le (fun b hb=>de _ hb) (Nat.le_max_right _ _))
theorem D4.nil:D4 g s [] []:=⟨_,[],.nil,(fun _ h=>nomatch h),by simp only[PyData.shownAll];exact .nil⟩
theorem U9{u:Value}{d:PyData}(r:Reads s.heap u d [])(hs:d.showable=true)(hz:d.shown.length<=sizeLine):Shw g s u d:=by
 obtain⟨bs,m,k⟩:=ReprK.of_reads (prog:=g.prog) (w:=g.w) r hs (fun _ h=>nomatch h) hz;exact⟨[],bs,r,m,k⟩
theorem cu{a:Addr}{its:ZK}{ds:List PyData}(h:IsTup s.heap a its.toArray)(c:D4 g s its ds):Shw g s (.ref a) (.tuple ds):=by
 obtain⟨as,bs,r1,m1,k1⟩:=c;obtain⟨o,h1,h2,n,h3⟩:=h;have r:Reads s.heap (.ref a) (.tuple ds) _:=.tuple h1 h2 h3 (by simpa using r1);have kc:a ∉ bs:=not_mem_of_deeper r (by simp only[PyData.depth];omega) m1;refine⟨_,a::bs,r,ReadAtMost.cons r (by simp only[PyData.depth];omega) m1, ?_⟩;simp only[PyData.depth,PyData.shown];exact ReprK.tuple h1 h2 h3 kc (by simpa using k1)
theorem c5{a:Addr}{its:ZK}{ds:List PyData}(h:s.heap.IsList a its.toArray)(c:D4 g s its ds):Shw g s (.ref a) (.list ds):=by
 obtain⟨as,bs,r1,m1,k1⟩:=c;obtain⟨o,h1,h2,n,h3⟩:=h;have r:Reads s.heap (.ref a) (.list ds) _:=.list h1 h2 h3 (by simpa using r1);have kc:a ∉ bs:=not_mem_of_deeper r (by simp only[PyData.depth];omega) m1;refine⟨_,a::bs,r,ReadAtMost.cons r (by simp only[PyData.depth];omega) m1, ?_⟩;simp only[PyData.depth,PyData.shown];cases its with
 | nil =>
  cases r1;simp only[PyData.shownAll,listText_nil];exact ReprK.listEmpty h1 h2 h3
 | cons x l=>exact ReprK.list h1 h2 h3 kc (by simpa using k1.length_eq) (fun i y e=>k1.item i y (by simpa using e))
def ShwE(g:Md)(s:Shared)(es:List DictEntry)(dk:List (PyData×PyData)):Prop:=D4 g s (es.map (·.key)) (dk.map (·.1))/\D4 g s (es.map (·.val)) (dk.map (·.2))
theorem c7{a:Addr}{o:Obj}{es:Array DictEntry}{n:Nat}{dk:List (PyData×PyData)}(h1:s.heap.get? a=some o)(h2:o.cls=.type "dict")(h3:o.data=.dict es n)(hy:(a == sysModules)=false)(c:ShwE g s es.toList dk):Shw g s (.ref a) (.dict dk):=by
 obtain⟨⟨a1,b1,r1,m1,k1⟩,a2,b2,r2,m2,k2⟩:=c;have r:Reads s.heap (.ref a) (.dict dk) _:=.dict h1 h2 h3 r1 r2;have hb:ReadAtMost s.heap (PyData.depthKv dk) (b1++b2):=(m1.mono (PyData.depthAll_keys_le dk)).append (m2.mono (PyData.depthAll_vals_le dk));have kc:a ∉ b1++b2:=not_mem_of_deeper r (by simp only[PyData.depth];omega) hb;refine⟨_,a::(b1++b2),r,ReadAtMost.cons r (by simp only[PyData.depth];omega) hb, ?_⟩;simp only[PyData.depth,PyData.shown,PyData.shownKv_eq]
 exact ReprK.dict h1 h2 h3 hy kc (ReprEntriesK.of_two es.toList _ _
  (k1.more_le (fun b hb=>List.mem_append_left _ hb) (PyData.depthAll_keys_le dk)) (k2.more_le (fun b hb=>de _ hb) (PyData.depthAll_vals_le dk)))
theorem c6{k:Key}{u:Value}(h:(Zk g.prog g.w).is k u=true)(hs:(A4 k).showable=true)(hz:(A4 k).shown.length<=sizeLine):Shw g s u (A4 k):=by
 rcases Zh (show Rz k u=true from h) with ⟨j,t,rfl,rfl⟩ | ⟨y,t,rfl,rfl⟩
 .exact U9 (.int _ _) hs hz
 .exact U9 (.str _ _) hs hz
end
section
variable{g:Md}{F:OM}{s:Shared}
mutual
theorem ib(fF:∀a o,F a=some o->s.heap.get? a=some o):∀(t:T) (u:Value) (d:PyData),IsT g F t u->toPy t=some d->d.showable=true->d.shown.length<=sizeLine->Shw g s u d
 | .non,u,d,h,e,hs,hz=>by cases e;cases h;exact U9 .none hs hz
 | .bl b,u,d,h,e,hs,hz=>by cases e;cases h;exact U9 (.bool b) hs hz
 | .int b,u,d,h,e,hs,hz=>by cases e;cases h;exact U9 (.int b _) hs hz
 | .str b,u,d,h,e,hs,hz=>by cases e;cases h;exact U9 (.str b _) hs hz
 | .tup ts,u,d,h,e,hs,hz=>by
  obtain⟨ds,e1,rfl⟩:=Y3.mp (show (Uc ts).map .tuple=some d by unfold toPy at e;exact e);obtain⟨a,us,rfl,_,tp,r⟩:=V4 fF h;have R7:(tupleText (PyData.shownAll ds)).length<=sizeLine:=by simpa only [PyData.shown] using hz
  exact cu tp (Co fF ts us ds r e1 (by simpa [PyData.showable] using hs) fun t m=>Jy (tupleText_mem_le m) R7)
 | .lst ts,u,d,h,e,hs,hz=>by
  obtain⟨ds,e1,rfl⟩:=Y3.mp (show (Uc ts).map .list=some d by unfold toPy at e;exact e);obtain⟨a,us,n,rfl,_,hl,r⟩:=Jc (.of fF h);have R7:(listText (PyData.shownAll ds)).length<=sizeLine:=by simpa only [PyData.shown] using hz
  exact c5 ⟨_,hl,rfl,⟨n,rfl⟩⟩ (Co fF ts us ds r e1 (by simpa [PyData.showable] using hs) fun t m=>Jy (listText_mem_le m) R7)
 | .dct XY,u,d,h,e,hs,hz=>by
  obtain⟨dk,e1,rfl⟩:=Y3.mp (show (D5 XY).map .dict=some d by unfold toPy at e;exact e);obtain⟨a,vs,rfl,_,hy,⟨o,es,ep,h1,h2,h3,_,pr,_⟩,r⟩:=Br (.of fF h);have R7:(dictText (PyData.shownKv dk)).length<=sizeLine:=by simpa only [PyData.shown] using hz
  obtain⟨du,hs2⟩:=PyData.showableKv_split dk (by simpa [PyData.showable] using hs);exact c7 h1 h2.1 h3 hy (wb fF XY vs es.toList dk r pr e1 du hs2 (fun t ht=>let ⟨p,hp,hl⟩:=PyData.shownKv_key_le dk t ht;Jy hl (Jy (dictText_mem_le hp) R7)) (fun t ht=>let ⟨p,hp,hl⟩:=PyData.shownKv_val_le dk t ht;Jy hl (Jy (dictText_mem_le hp) R7)))
 | .fn _,u,d,h,e,hs,hz=>by unfold toPy at e;cases e
 | .exn _ _,u,d,h,e,hs,hz=>by unfold toPy at e;cases e
theorem Co(fF:∀a o,F a=some o->s.heap.get? a=some o):∀(ts:ZZ) (us:ZK) (ds:List PyData),Zr g F ts us->Uc ts=some ds->PyData.showableAll ds=true->(∀t∈PyData.shownAll ds,t.length<=sizeLine)->D4 g s us ds
 | [],us,ds,r,e,hs,hz=>by
  unfold Uc at e;cases e;cases r;exact D4.nil
 | t::ts,us,ds,r,e,hs,hz=>by
  unfold Uc at e;obtain⟨d,e1,e⟩:=ZP.mp e;obtain⟨ds',e2,rfl⟩:=Y3.mp e;cases r with | cons r1 r2 =>
  have Tg:d.showable=true/\PyData.showableAll ds'=true:=by simpa [PyData.showableAll] using hs
  exact D4.cons (ib fF t _ d r1 e1 Tg.1 (hz _ (by simp only[PyData.shownAll];exact Yn ..))) (Co fF ts _ ds' r2 e2 Tg.2 fun t m=>hz t (by simp only[PyData.shownAll];exact Vk _ m))
theorem wb(fF:∀a o,F a=some o->s.heap.get? a=some o):∀(XY:ZX) (vs:List (Key×Value)) (es:List DictEntry) (dk:List (PyData×PyData)),Z9 g F XY vs->Pairs (Zk g.prog g.w) es vs->D5 XY=some dk ->
  PyData.showableAll (dk.map (·.1))=true->PyData.showableAll (dk.map (·.2))=true->(∀t∈PyData.shownAll (dk.map (·.1)),t.length<=sizeLine)->(∀t∈PyData.shownAll (dk.map (·.2)),t.length<=sizeLine)->ShwE g s es dk
 | [],vs,es,dk,r,p,e,_,_,_,_=>by
  unfold D5 at e;cases e;cases r;cases p;exact⟨D4.nil,D4.nil⟩
 | (k,t)::XY,vs,es,dk,r,p,e,du,hs2,Ih,hz2=>by
  unfold D5 at e;obtain⟨d,e1,e⟩:=ZP.mp e;obtain⟨dk',e2,rfl⟩:=Y3.mp e;cases r with | cons r1 r2 =>
  obtain⟨ek,r1⟩:=r1;cases p with | cons p1 p2 p3 =>
  have ek:k=_:=ek;rw[<-ek]at p1;rw[S9]at du hs2 Ih hz2;have hs1':(A4 k).showable=true/\PyData.showableAll (dk'.map (·.1))=true:=by simpa [PyData.showableAll] using du
  have hs2':d.showable=true/\PyData.showableAll (dk'.map (·.2))=true:=by simpa [PyData.showableAll] using hs2
  obtain⟨c1,c2⟩:=wb fF XY _ _ dk' r2 p3 e2 hs1'.2 hs2'.2 (fun t m=>Ih t (by simp only[PyData.shownAll];exact Vk _ m)) (fun t m=>hz2 t (by simp only[PyData.shownAll];exact Vk _ m));refine⟨D4.cons (c6 p1 hs1'.1 (Ih _ (by simp only[PyData.shownAll];exact Yn ..))) c1,D4.cons ?_ c2⟩;show Shw g s (DictEntry.val _) d;rw[p2];exact ib fF t _ d r1 e1 hs2'.1 (hz2 _ (by simp only[PyData.shownAll];exact Yn ..))
end
variable{A:Around}{R:ZQ}{E:ZQ}{L:Addr}{u:Value}{t:T}
theorem vj{z:Str}(un:A.units+150<cLine)(gd:A.guards=some [])(fF:∀a o,F a=some o->s.heap.get? a=some o)(s1:Vu g F s.heap t u)(e:rpT t=some z)(k:Ok g F L s (.f (.str z)) R):wpAny (model g.prog g.w) A (call (.builtin "repr") [u]) R E s:=by
 unfold rpT at e;obtain⟨d,e1,e⟩:=ZP.mp e
 split at e
 .rename_i hh
  cases e;obtain⟨hs,hz,hd⟩:=hh;have fin:∀tk t',R (.str d.shown t') { s with toks:=tk }:=fun tk t'=>k s.heap _ tk (.sc .str);have O3:∀h' u tk,(∀b o,s.heap.get? b=some o->h'.get? b=some o)->∃x t,Value.str d.shown u=.str x t/\R (.str d.shown u) { s with heap:=h',toks:=tk }:=fun h' u tk kp=>⟨_,u,rfl,k h' _ tk (.kept kp .str)⟩;cases t with
  | non=>cases e1;cases s1;exact P.repr_of_none (fin _ _)
  | bl b=>cases e1;cases s1;simp only[PyData.shown]at fin;exact P.repr_of_bool (fin _ _)
  | int i =>
   cases e1;cases s1;simp only[PyData.shown]at fin;exact P.repr_of_int (by simpa [PyData.showable] using hs) (fin _ _)
  | str i =>
   cases e1;cases s1;simp only[PyData.shown]at fin hz;exact P.repr_of_str (fin _ _) hz
  | tup ts =>
   obtain⟨ds,e2,rfl⟩:=Y3.mp (show (Uc ts).map .tuple=some d by unfold toPy at e1;exact e1);obtain⟨a,us,rfl,_,tp,r⟩:=V4 fF s1;have R7:(tupleText (PyData.shownAll ds)).length<=sizeLine:=by simpa only [PyData.shown] using hz
   obtain⟨as,bs,r1,m1,k1⟩:=Co fF ts us ds r e2 (by simpa [PyData.showable] using hs) fun t m=>Jy (tupleText_mem_le m) R7;obtain⟨o,h1,h2,n,h3⟩:=tp;have r:Reads s.heap (.ref a) (.tuple ds) _:=.tuple h1 h2 h3 (by simpa using r1);have kc:a ∉ bs:=not_mem_of_deeper r (by simp only[PyData.depth];omega) m1;simp only[PyData.depth]at hd;simp only[PyData.shown]at O3;exact call_repr_slot (by omega) ⟨o,h1,h2⟩ PySem.F.slot_tuple_repr (call_tuple_reprK h1 h2 h3 kc (by simpa using k1) (g:=[]) gd (fun b _=>Clear.nil b) (by show A.units+1+_<_;omega) (fun _ _ e=>e) (fun h' u tk k=>O3 h' u tk k) R7)
  | lst ts =>
   obtain⟨ds,e2,rfl⟩:=Y3.mp (show (Uc ts).map .list=some d by unfold toPy at e1;exact e1);obtain⟨a,us,n,rfl,_,h1,r⟩:=Jc s1;have R7:(listText (PyData.shownAll ds)).length<=sizeLine:=by simpa only [PyData.shown] using hz
   obtain⟨as,bs,r1,m1,k1⟩:=Co fF ts us ds r e2 (by simpa [PyData.showable] using hs) fun t m=>Jy (listText_mem_le m) R7;have r:Reads s.heap (.ref a) (.list ds) _:=.list h1 rfl rfl (by simpa using r1);have kc:a ∉ bs:=not_mem_of_deeper r (by simp only[PyData.depth];omega) m1;simp only[PyData.depth]at hd;simp only[PyData.shown]at O3;refine call_repr_slot (by omega) ⟨_,h1,rfl⟩ PySem.F.slot_list_repr.toG ?_;cases us with
   | nil =>
    cases r1;simp only[PyData.shownAll,listText_nil]at O3;exact call_list_repr_empty ⟨_,h1,rfl⟩ h1 rfl (O3 s.heap _ _ fun _ _ e=>e)
   | cons y l=>exact call_list_reprK h1 rfl rfl kc (by simpa using k1.length_eq) (fun i y e=>k1.item i y (by simpa using e)) (g:=[]) gd (fun b _=>Clear.nil b) (by show A.units+1+_<_;omega) (fun _ _ e=>e) (fun h' u tk k=>O3 h' u tk k) R7
  | dct XY =>
   obtain⟨dk,e2,rfl⟩:=Y3.mp (show (D5 XY).map .dict=some d by unfold toPy at e1;exact e1);obtain⟨a,vs,rfl,_,hy,⟨o,es,ep,h1,h2,h3,_,pr,_⟩,r⟩:=Br s1;have R7:(dictText (PyData.shownKv dk)).length<=sizeLine:=by simpa only [PyData.shown] using hz
   obtain⟨du,hs2⟩:=PyData.showableKv_split dk (by simpa [PyData.showable] using hs);obtain⟨⟨a1,b1,r1,m1,k1⟩,a2,b2,r2,m2,k2⟩:=wb fF XY vs es.toList dk r pr e2 du hs2 (fun t ht=>let ⟨p,hp,hl⟩:=PyData.shownKv_key_le dk t ht;Jy hl (Jy (dictText_mem_le hp) R7)) (fun t ht=>let ⟨p,hp,hl⟩:=PyData.shownKv_val_le dk t ht;Jy hl (Jy (dictText_mem_le hp) R7));have r:Reads s.heap (.ref a) (.dict dk) _:=.dict h1 h2.1 h3 r1 r2;have hb:ReadAtMost s.heap (PyData.depthKv dk) (b1++b2):=(m1.mono (PyData.depthAll_keys_le dk)).append (m2.mono (PyData.depthAll_vals_le dk));have kc:a ∉ b1++b2:=not_mem_of_deeper r (by simp only[PyData.depth];omega) hb;simp only[PyData.depth]at hd;simp only[PyData.shown,PyData.shownKv_eq]at O3
   exact call_repr_slot (by omega) ⟨o,h1,h2.1⟩ PySem.F.slot_dict_repr (call_dict_reprK h1 h2.1 h3 hy kc (ReprEntriesK.of_two es.toList _ _
    (k1.more_le (fun b hb=>List.mem_append_left _ hb) (PyData.depthAll_keys_le dk)) (k2.more_le (fun b hb=>de _ hb) (PyData.depthAll_vals_le dk))) (g:=[]) gd (fun b _=>Clear.nil b) (by show A.units+1+_<_;omega) (fun _ _ e=>e) (fun h' u tk k=>O3 h' u tk k) (by rw[<-PyData.shownKv_eq];exact R7))
  | fn _=>unfold toPy at e1;cases e1
  | exn _ _=>unfold toPy at e1;cases e1
 .cases e
end
noncomputable def btV:Pr->Option (Str×Value)
 | .len=>some ("len",.builtin "len")
 | .all=>some ("all",.builtin "all")
 | .any=>some ("any",.builtin "any")
 | .list=>some ("list",.type "list")
 | .tuple=>some ("tuple",.type "tuple")
 | .min=>some ("min",.builtin "min")
 | .max=>some ("max",.builtin "max")
 | .int=>some ("int",.type "int")
 | .dict=>some ("dict",.type "dict")
 | .sorted=>some ("sorted",.builtin "sorted")
 | .srtP=>some ("sorted",.builtin "sorted")
 | .repr=>some ("repr",.builtin "repr")
 | _=>none
noncomputable def vis(sc:ZW)(x:Str):Bool:=match sc.lookup x with
 | some .local=>true
 | some .cell=>true
 | some .free=>true
 | _=>false
noncomputable def Gm(sc:ZW)(x:Str):Bool:=sc.lookup x == some .globalImplicit && !(x == ("__debug__" : Str))
noncomputable def Gk(N:ZG)(sc:ZW)(i:Nat)(x:Str):Bool:=N[i]? == some x && vis sc x && !(x == ("__debug__" : Str)) && !(x == ("__classdict__" : Str))
def Uk:Expr->Bool
 | .Slice _ _ _ _=>false
 | _=>true
def ub(x:Str):Expr->Bool
 | .Name y _=>decide (y=x)
 | _=>false
theorem Fc{x:Str}{e:Expr}(h:ub x e=true):∃p,e=.Name x p:=by
 cases e
 case Name y p=>cases R6 (show decide (y=x)=true from h);exact⟨p,rfl⟩
 all_goals cases h
noncomputable def vOp(o:Op)(x:Expr):Option (ZM):=match Tx x with
 | .bin a op b=>if op=opOf o then some [a,b] else none
 | _=>none
theorem vOp_ex{o:Op}{x:Expr}{xs:ZM}(h:vOp o x=some xs):∃a op b p,x=.BinOp a op b p/\(if op=opOf o then some [a,b] else none)=some xs:=by
 unfold vOp at h
 split at h
 .rename_i e
  obtain⟨p,rfl⟩:=Ze e;exact⟨_,_,_,p,rfl,h⟩
 .cases h
noncomputable def je(x:Expr):Option (Expr×List CmpOp×ZM):=match Tx x with
 | .cmp a ops bs=>some (a,ops,bs)
 | _=>none
theorem La{x a:Expr}{ops:List CmpOp}{bs:ZM}(h:je x=some (a,ops,bs)):∃p,x=.Compare a ops bs p:=by
 unfold je at h
 split at h
 .rename_i e
  cases h;exact Ze e
 .cases h
noncomputable def vCm(c:Cm)(x:Expr):Option (ZM):=match je x with
 | some (a,[op],[b])=>if op=Rd c/\behindInMarks op b=false then some [a,b] else none
 | _=>none
theorem vCm_ex{c:Cm}{x:Expr}{xs:ZM}(h:vCm c x=some xs):∃a op b p,x=.Compare a [op] [b] p/\(if op=Rd c/\behindInMarks op b=false then some [a,b] else none)=some xs:=by
 unfold vCm at h
 split at h
 .rename_i e
  obtain⟨p,rfl⟩:=La e;exact⟨_,_,_,p,rfl,h⟩
 .cases h
noncomputable def vC2(c:Cm)(d:Cm)(x:Expr):Option (ZM):=match je x with
 | some (a,[op,op'],[b,e])=>if op=Rd c/\op'=Rd d/\lastMarks [op,op'] [b,e]=false then some [a,b,e] else none
 | _=>none
theorem vC2_ex{c d:Cm}{x:Expr}{xs:ZM}(h:vC2 c d x=some xs):∃a op op' b e p,x=.Compare a [op,op'] [b,e] p/\(if op=Rd c/\op'=Rd d/\lastMarks [op,op'] [b,e]=false then some [a,b,e] else none)=some xs:=by
 unfold vC2 at h
 split at h
 .rename_i e
  obtain⟨p,rfl⟩:=La e;exact⟨_,_,_,_,_,p,rfl,h⟩
 .cases h
noncomputable def tc(x:Expr):Option (ZM):=match Tx x with
 | .un op a=>if op=.USub then some [a] else none
 | _=>none
theorem td{x:Expr}{xs:ZM}(h:tc x=some xs):∃a p,x=.UnaryOp .USub a p/\some [a]=some xs:=by
 unfold tc at h
 split at h
 .rename_i e
  obtain⟨p,rfl⟩:=Ze e
  split at h
  .rename_i z;subst z;exact⟨_,p,rfl,h⟩
  .cases h
 .cases h
noncomputable def jt(x:Expr):Option (Expr×Expr):=match Tx x with
 | .sub a b=>some (a,b)
 | _=>none
theorem Lp{x a b:Expr}(h:jt x=some (a,b)):∃p,x=.Subscript a b p:=by
 unfold jt at h
 split at h
 .rename_i e
  cases h;exact Ze e
 .cases h
noncomputable def vIx(x:Expr):Option (ZM):=match jt x with
 | some (a,b)=>if Uk b=true then some [a,b] else none
 | none=>none
theorem vIx_ex{x:Expr}{xs:ZM}(h:vIx x=some xs):∃a b p,x=.Subscript a b p/\(if Uk b=true then some [a,b] else none)=some xs:=by
 unfold vIx at h
 split at h
 .rename_i e
  obtain⟨p,rfl⟩:=Lp e;exact⟨_,_,p,rfl,h⟩
 .cases h
noncomputable def ji(x:Expr):Option (Expr×Option Expr×Option Expr×Option Expr):=match jt x with
 | some (a,b)=>(match Tx b with
  | .slc l h s=>some (a,l,h,s)
  | _=>none)
 | none=>none
theorem Lu{x a:Expr}{l hh s:Option Expr}(h:ji x=some (a,l,hh,s)):∃q p,x=.Subscript a (.Slice l hh s q) p:=by
 unfold ji at h
 split at h
 .rename_i e
  obtain⟨p,rfl⟩:=Lp e
  split at h
  .rename_i e'
   cases h;obtain⟨q,rfl⟩:=Ze e';exact⟨q,p,rfl⟩
  .cases h
 .cases h
noncomputable def Av(x:Expr):Option (ZM):=match ji x with
 | some (a,some l,none,none)=>some [a,l]
 | _=>none
theorem jl{x:Expr}{xs:ZM}(h:Av x=some xs):∃a l q p,x=.Subscript a (.Slice (some l) none none q) p/\some [a,l]=some xs:=by
 unfold Av at h
 split at h
 .rename_i e
  obtain⟨q,p,rfl⟩:=Lu e;exact⟨_,_,q,p,rfl,h⟩
 .cases h
noncomputable def Ay(x:Expr):Option (ZM):=match ji x with
 | some (a,none,some l,none)=>some [a,l]
 | _=>none
theorem jr{x:Expr}{xs:ZM}(h:Ay x=some xs):∃a l q p,x=.Subscript a (.Slice none (some l) none q) p/\some [a,l]=some xs:=by
 unfold Ay at h
 split at h
 .rename_i e
  obtain⟨q,p,rfl⟩:=Lu e;exact⟨_,_,q,p,rfl,h⟩
 .cases h
noncomputable def Aw(x:Expr):Option (ZM):=match ji x with
 | some (a,some l,some u,none)=>some [a,l,u]
 | _=>none
theorem jn{x:Expr}{xs:ZM}(h:Aw x=some xs):∃a l u q p,x=.Subscript a (.Slice (some l) (some u) none q) p/\some [a,l,u]=some xs:=by
 unfold Aw at h
 split at h
 .rename_i e
  obtain⟨q,p,rfl⟩:=Lu e;exact⟨_,_,_,q,p,rfl,h⟩
 .cases h
noncomputable def Am(x:Expr):Option (ZM):=match Tx x with
 | .dct [] []=>some []
 | _=>none
theorem ja{x:Expr}{xs:ZM}(h:Am x=some xs):∃p,x=.Dict [] [] p/\some ([]:ZM)=some xs:=by
 unfold Am at h
 split at h
 .rename_i e
  obtain⟨p,rfl⟩:=Ze e;exact⟨p,rfl,h⟩
 .cases h
noncomputable def is1:Expr->Bool
 | .Constant (.int i) _ _=>decide (i=1)
 | _=>false
noncomputable def El(x:Expr):Option (Str×ZM):=match Tx x with
 | .callN f xs=>some (f,xs)
 | _=>none
theorem Mo{x:Expr}{f:Str}{xs:ZM}(h:El x=some (f,xs)):∃q p,x=.Call (.Name f q) xs [] p:=by
 unfold El at h
 split at h
 .rename_i e
  cases h;exact Ze e
 .cases h
noncomputable def ta(sc:ZW)(n:Kd)(x:Expr):Option (ZM):=match El x with
 | some (f,[a,k])=>(match U6 k with
  | some k=>if f = "isinstance" /\ Gm sc f=true/\k=dh n/\Gm sc k=true then some [a] else none
  | none=>none)
 | _=>none
theorem th{sc:ZW}{n:Kd}{x:Expr}{xs:ZM}(h:ta sc n x=some xs):∃f q a k q' p,x=.Call (.Name f q) [a,.Name k q'] [] p/\(if f = "isinstance" /\ Gm sc f=true/\k=dh n/\Gm sc k=true then some [a] else none)=some xs:=by
 unfold ta at h
 split at h
 .rename_i e
  obtain⟨q,p,rfl⟩:=Mo e
  split at h
  .rename_i e'
   obtain⟨q',rfl⟩:=Vz e';exact⟨_,q,_,_,q',p,rfl,h⟩
  .cases h
 .cases h
noncomputable def Af(x:Expr):Option (ZM):=match Tx x with
 | .callA o m ap [a] cp=>if m = "get" /\ Yb o=true/\(ap.endLine == cp.line)=true then some [o,a] else none
 | _=>none
theorem ju{x:Expr}{xs:ZM}(h:Af x=some xs):∃o m ap a cp,x=.Call (.Attribute o m ap) [a] [] cp/\(if m = "get" /\ Yb o=true/\(ap.endLine == cp.line)=true then some [o,a] else none)=some xs:=by
 unfold Af at h
 split at h
 .rename_i e;exact⟨_,_,_,_,_,Ze e,h⟩
 .cases h
noncomputable def Ag(x:Expr):Option (ZM):=match Tx x with
 | .callA o m ap [a,b] cp=>if m = "get" /\ Yb o=true/\(ap.endLine == cp.line)=true then some [o,a,b] else none
 | _=>none
theorem jh{x:Expr}{xs:ZM}(h:Ag x=some xs):∃o m ap a b cp,x=.Call (.Attribute o m ap) [a,b] [] cp/\(if m = "get" /\ Yb o=true/\(ap.endLine == cp.line)=true then some [o,a,b] else none)=some xs:=by
 unfold Ag at h
 split at h
 .rename_i e;exact⟨_,_,_,_,_,_,Ze e,h⟩
 .cases h
noncomputable def t4(x:Expr):Option (ZM):=match Tx x with
 | .callA o m ap [a] cp=>if m = "index" /\ Yb o=true/\(ap.endLine == cp.line)=true then some [o,a] else none
 | _=>none
theorem te{x:Expr}{xs:ZM}(h:t4 x=some xs):∃o m ap a cp,x=.Call (.Attribute o m ap) [a] [] cp/\(if m = "index" /\ Yb o=true/\(ap.endLine == cp.line)=true then some [o,a] else none)=some xs:=by
 unfold t4 at h
 split at h
 .rename_i e;exact⟨_,_,_,_,_,Ze e,h⟩
 .cases h
noncomputable def Ak(sc:ZW)(x:Expr):Option (ZM):=match El x with
 | some (f,[y])=>(match El y with
  | some (g,[a])=>if f = "len" /\ Gm sc f=true/\g = "set" /\ Gm sc g=true then some [a] else none
  | _=>none)
 | _=>none
theorem js{sc:ZW}{x:Expr}{xs:ZM}(h:Ak sc x=some xs):∃f q g q' a p' p,x=.Call (.Name f q) [.Call (.Name g q') [a] [] p'] [] p/\(if f = "len" /\ Gm sc f=true/\g = "set" /\ Gm sc g=true then some [a] else none)=some xs:=by
 unfold Ak at h
 split at h
 .rename_i e
  obtain⟨q,p,rfl⟩:=Mo e
  split at h
  .rename_i e'
   obtain⟨q',p',rfl⟩:=Mo e';exact⟨_,q,_,q',_,p',p,rfl,h⟩
  .cases h
 .cases h
noncomputable def Ad(x:Expr):Option (ZM):=match Tx x with
 | .dct [some k] [v]=>some [k,v]
 | _=>none
theorem jo{x:Expr}{xs:ZM}(h:Ad x=some xs):∃k v p,x=.Dict [some k] [v] p/\some [k,v]=some xs:=by
 unfold Ad at h
 split at h
 .rename_i e
  obtain⟨p,rfl⟩:=Ze e;exact⟨_,_,p,rfl,h⟩
 .cases h
noncomputable def kwNm(k:Keyword):Bool:=decide (k.arg=some "key") && ub C9 k.value
noncomputable def Aj(sc:ZW):Expr->Option (ZM)
 | .Call (.Name f _) [a] [kw] _=>if f = "sorted" /\ Gm sc f=true/\(Gm sc C9 && Dz.contains C9)=true/\kwNm kw=true then some [a] else none
 | _=>none
theorem jc{sc:ZW}{x:Expr}{xs:ZM}(h:Aj sc x=some xs):∃p a q kp pos,x=.Call (.Name "sorted" p) [a] [{ arg:=some "key",value:=.Name C9 q,pos:=kp:Keyword }] pos/\Gm sc "sorted" = true/\(Gm sc C9 && Dz.contains C9)=true/\xs=[a]:=by
 unfold Aj at h
 split at h
 .rename_i kw _
  split at h
  .rename_i ho
   cases h;obtain⟨h1,h2,h3,h4⟩:=ho;subst h1;obtain⟨ka,kv,kp⟩:=kw;obtain⟨h5,h6⟩:=Xd.mp h4;have h5:ka=some "key" := R6 h5;obtain⟨q,h6⟩:=Fc h6;have h6:kv=_:=h6;subst h5 h6;exact⟨_,_,q,kp,_,rfl,h2,h3,rfl⟩
  .cases h
 .cases h
noncomputable def jd(sc:ZW)(g:Str)(x:Expr):Option (ZM):=match je x with
 | some (a,[op],[b])=>if op=.In/\behindInMarks op b=false/\ub g b=true/\Gm sc g=true then some [a] else none
 | _=>none
theorem Aq{sc:ZW}{g:Str}{x:Expr}{xs:ZM}(h:jd sc g x=some xs):∃a q p,x=.Compare a [.In] [.Name g q] p/\behindInMarks .In (.Name g q)=false/\Gm sc g=true/\xs=[a]:=by
 unfold jd at h
 split at h
 .rename_i e
  obtain⟨p,rfl⟩:=La e
  split at h
  .rename_i ho
   cases h;obtain⟨h1,h2,h3,h4⟩:=ho;obtain⟨q,rfl⟩:=Fc h3;subst h1;exact⟨_,q,p,rfl,h2,h4,rfl⟩
  .cases h
 .cases h
noncomputable def tm(sc:ZW)(g:Str)(x:Expr):Option (ZM):=match jt x with
 | some (a,b)=>if ub g a=true/\Gm sc g=true/\Uk b=true then some [b] else none
 | none=>none
theorem tf{sc:ZW}{g:Str}{x:Expr}{xs:ZM}(h:tm sc g x=some xs):∃q b p,x=.Subscript (.Name g q) b p/\Gm sc g=true/\Uk b=true/\xs=[b]:=by
 unfold tm at h
 split at h
 .rename_i e
  obtain⟨p,rfl⟩:=Lp e
  split at h
  .rename_i ho
   cases h;obtain⟨h1,h2,h3⟩:=ho;obtain⟨q,rfl⟩:=Fc h1;exact⟨q,_,p,rfl,h2,h3,rfl⟩
  .cases h
 .cases h
noncomputable def vBt(sc:ZW)(q:Pr)(x:Expr):Option (ZM):=match El x with
 | some (f,a::r)=>(match btV q with
  | some (n,_)=>if f=n/\Gm sc f=true then some (a::r) else none
  | none=>none)
 | _=>none
theorem vBt_ex{sc:ZW}{q:Pr}{x:Expr}{xs:ZM}(h:vBt sc q x=some xs):∃f p0 a r p,x=.Call (.Name f p0) (a::r) [] p/\(match btV q with
  | some (n,_)=>if f=n/\Gm sc f=true then some (a::r) else none
  | none=>none)=some xs:=by
 unfold vBt at h
 split at h
 .rename_i e
  obtain⟨p0,p,rfl⟩:=Mo e;exact⟨_,p0,_,_,p,rfl,h⟩
 .cases h
noncomputable def t6(f:Str)(x:Expr):Option (ZM):=match Tx x with
 | .att o m=>if m=f/\Yb o=true then some [o] else none
 | _=>none
theorem Ab{f:Str}{x:Expr}{xs:ZM}(h:t6 f x=some xs):∃o p,x=.Attribute o f p/\Yb o=true/\xs=[o]:=by
 unfold t6 at h
 split at h
 .rename_i e
  obtain⟨p,rfl⟩:=Ze e
  split at h
  .rename_i z;obtain⟨rfl,z⟩:=z;cases h;exact⟨_,p,rfl,z,rfl⟩
  .cases h
 .cases h
def vIsx(sc:ZW)(ns:ZG)(x:Expr):Option (ZM):=none
noncomputable def view(sc:ZW):Pr->Expr->Option (ZM)
 | .op o=>vOp o
 | .cm c=>vCm c
 | .c2 c d=>vC2 c d
 | .neg=>tc
 | .ix=>vIx
 | .sl true false=>Av
 | .sl false true=>Ay
 | .sl true true=>Aw
 | .dnew=>Am
 | .isi n=>ta sc n
 | .get1=>Af
 | .get2=>Ag
 | .idx=>t4
 | .lset=>Ak sc
 | .dct1=>Ad
 | .srtF=>Aj sc
 | .tin g=>jd sc g
 | .tix g=>tm sc g
 | .fld x=>t6 x
 | .isx xs=>vIsx sc xs
 | q=>vBt sc q
section
variable{g:Md}{F:OM}{A:Around}{R:ZQ}{E:ZQ}{s:Shared}{t:T}{u v:Value}{r:Sl}{a L:Addr}{ts ws:ZZ}{us:ZK}
theorem cz{zs:ZG}:∀{us:ZK},StrsAre us zs->∀(i:Nat) (v:Value),us[i]?=some v->∃t,v=.str (zs.getD i "") t:=fun h=>by
 induction h with
 | nil=>exact fun i v e=>by simp at e
 | cons y t r ih =>
  intro i v e;cases i with
  | zero=>cases e;exact⟨t,rfl⟩
  | succ i=>exact ih i v e
theorem nq{zs:ZG}(hh:A.handled=none)(s1:Vu g F s.heap (.lst ts) v)(e:Mi ts=some zs)(h64:zs.length<64)
  (k:∀h' tk a (es:List Key),(∀b o,s.heap.get? b=some o->h'.get? b=some o)->SetM.Bi (Zk g.prog g.w) h' a es->es.length=(SRT.qb zs).length->R (.ref a) { s with heap:=h',toks:=tk }):wpAny (model g.prog g.w) A (call (.type "set") [v]) R E s:=by
 obtain⟨p,us,m,rfl,z,ho,r⟩:=Jc s1;obtain⟨rfl,sa⟩:=Bu r e;have ul:us.length=zs.length:=by rw[<-r.length,Zu]
 refine SetM.br (knd:=Zk g.prog g.w) (val:=fun i=>.inr (zs.getD i "")) hh ⟨_,ho,rfl,⟨m,rfl⟩⟩ (fun i v e=>?_) (by rw[Jv];unfold scanBound;omega) fun h1 tk es S u k1=>?_
 .obtain⟨t,rfl⟩:=cz sa i v (by simpa using e);exact⟨G3 _ _ _ t,rfl⟩
 .obtain⟨o,ho',SO⟩:=id S;refine k h1 tk _ es k1 S ?_
  have mem:∀x,x∈es↔x∈zs.map (Sum.inr:Str->Key):=fun x=>by
   rw[u.mem x,Jv,ul];constructor
   .rintro⟨j,h1,h2⟩;rw[<-h2];refine Gf.mpr ⟨zs.getD j "", ?_,rfl⟩;rw[List.getD_eq_getElem?_getD,Wi h1];exact G0e h1
   .intro hx;obtain⟨y,hy,rfl⟩:=Gf.mp hx;obtain⟨j,h1,h2⟩:=List.mem_iff_getElem.mp hy;exact⟨j,h1,by rw[List.getD_eq_getElem?_getD,Wi h1, <-h2];rfl⟩
  obtain⟨N5,rfl⟩:∃N5:ZG,es=N5.map Sum.inr:=by
   have:∀x∈es,x∈zs.map (Sum.inr:Str->Key):=fun x m=>(mem x).mp m
   clear mem SO S ho' u
   induction es with
   | nil=>exact⟨[],rfl⟩
   | cons x r ih =>
    obtain⟨r',rfl⟩:=ih fun y m=>this y (Vk _ m);obtain⟨i,_,rfl⟩:=Gf.mp (this x Yn);exact⟨i::r',rfl⟩
  have sp:N5.Nodup:=(List.pairwise_map.mp SO.nd).imp fun h z=>h (by rw[z])
  have mem':∀x,x∈N5↔x∈zs:=fun x=>by
   have:=mem (.inr x);rw[Gf,Gf]at this;exact⟨fun m=>let ⟨y,h,e⟩:=this.mp ⟨x,m,rfl⟩;by cases e;exact h,fun m=>let ⟨y,h,e⟩:=this.mpr ⟨x,m,rfl⟩;by cases e;exact h⟩
  rw[Zu,(SRT.v9 sp mem').length_eq]
theorem Ks{es:List Key}{n:Nat}(S:SetM.Bi (Zk g.prog g.w) s.heap a es)(e:es.length=n)(k:∀t tk,R (.int n t) { s with toks:=tk }):wpAny (model g.prog g.w) A (call (.builtin "len") [.ref a]) R E s:=by
 obtain⟨o,ho,S⟩:=id S;obtain⟨ds,ep,t,hd,el,pr,hb,ti,hl⟩:=S.dat;have e1:ds.size=es.length:=by rw[pr.length,Ln]
 have Oa:es.length<2 ^ 63:=Nat.lt_trans S.len (by decide +kernel);refine call_len_set ho S.ex hd ti.fits (by omega) ?_;rw[e1,e];exact k _ _
structure Rn(g:Md)(F:OM)(L:Addr)(A:Around)(s:Shared):Prop where
 hh:A.handled=none
 un:A.units+150<cLine
 gd:A.guards=some []
 fF:FH F s.heap
 hn:∃m,s.heap.Ns L m
 nL:F L=none
 big:sysModules<s.heap.objs.size
theorem bt_run{q:Pr}{nm:Str}{fv:Value}(hb:btV q=some (nm,fv))(n:Rn g F L A s)(se:Paired (Vu g F s.heap) ts us)(e:W5 q ts=some r)(k:Ok g F L s r R):wpAny (model g.prog g.w) A (call fv us) R E s:=by
 unfold W5 at e
 split at e<;>first | (cases e;done) | (cases hb;done) | cases hb
 .unfold pLen at e
  split at e
  rotate_left
  .cases e
  obtain⟨m,e1,rfl⟩:=Y3.mp e;obtain⟨u,rfl,s1⟩:=Tw se;obtain⟨m',e2,e3⟩:=ZP.mp (show (yh _).bind (fun n=>some ((n:Nat):Int))=some m from e1);cases e3;exact pe s1 n.fF e2 k
 .unfold pAll at e
  split at e
  rotate_left
  .cases e
  obtain⟨bs,e1,rfl⟩:=Y3.mp e;obtain⟨u,rfl,s1⟩:=Tw se;obtain⟨a,us,m,rfl,z,ho,r⟩:=Jc s1;rw[Bo r e1]at ho;exact oa n.hh ho k
 .unfold pAny at e
  split at e
  rotate_left
  .cases e
  obtain⟨bs,e1,rfl⟩:=Y3.mp e;obtain⟨u,rfl,s1⟩:=Tw se;obtain⟨a,us,m,rfl,z,ho,r⟩:=Jc s1;rw[Bo r e1]at ho;exact ou n.hh ho k
 .unfold i5 at e
  split at e
  .cases e;obtain⟨u,rfl,s1⟩:=Tw se;obtain⟨a,us,rfl,z,⟨o,h1,h2,m,h3⟩,r⟩:=V4 n.fF s1;exact yl (T:="tuple") h1 h2 (.inr rfl) h3 z r k
  .cases e;obtain⟨u,rfl,s1⟩:=Tw se;obtain⟨a,vs,rfl,z,ns,dd,r⟩:=Br s1;exact yr n.hh ns dd z r k
  .cases e
 .unfold A9 at e
  split at e
  .obtain⟨ws,e1,rfl⟩:=Y3.mp e;obtain⟨u,rfl,s1⟩:=Tw se;obtain⟨a,us,m,rfl,z,ho,r⟩:=Jc s1;exact Cp (T:="list") ho rfl (.inl rfl) rfl z (Ao r e1) k
  .obtain⟨ws,e1,rfl⟩:=Y3.mp e;obtain⟨u,rfl,s1⟩:=Tw se;obtain⟨a,vs,rfl,z,ns,dd,r⟩:=Br s1;exact Ea n.hh n.hn ns dd z r e1 k
  .cases e
 .unfold vp at e
  split at e
  rotate_left
  .cases e
  cases e;obtain⟨u,rfl,s1⟩:=Tw se;obtain⟨a,us,m,rfl,z,ho,r⟩:=Jc s1;exact Xp n.fF ho z r k
 .unfold pMin at e
  split at e
  rotate_left
  .cases e
  cases e;obtain⟨u,v,rfl,s1,s2⟩:=pr2 se;cases s1;cases s2;exact pj n.hh k
 .unfold pMax at e
  split at e
  rotate_left
  .cases e
  cases e;obtain⟨u,v,rfl,s1,s2⟩:=pr2 se;cases s1;cases s2;exact pg n.hh k
 .unfold pInt at e
  split at e
  rotate_left
  .cases e
  cases e;obtain⟨u,rfl,s1⟩:=Tw se;cases s1;exact call_int_bool (k s.heap _ _ (.sc .int))
 .unfold ve at e
  split at e
  .cases e;obtain⟨u,rfl,s1⟩:=Tw se;exact xd n.big s1 k
  .obtain⟨XY,e1,rfl⟩:=Y3.mp e;obtain⟨u,rfl,s1⟩:=Tw se;exact Hb n.hh n.big n.fF s1 e1 k
  .cases e
 .unfold i4 at e
  split at e
  rotate_left
  .cases e
  obtain⟨z,e1,rfl⟩:=Y3.mp e;obtain⟨u,rfl,s1⟩:=Tw se;exact vj n.un n.gd n.fF s1 e1 k
 .unfold ie at e
  split at e
  rotate_left
  .cases e
  obtain⟨ws,e1,rfl⟩:=Y3.mp e;obtain⟨u,rfl,s1⟩:=Tw se;exact wj n.un n.hn n.fF n.nL s1 e1 k
end
section
variable{X:Cx}{w:W}{k:Nat}{N:ZG}{sc:ZW}{F:OM}{p:P}{j:Vs}{s:Shared}
theorem Inv.rn(I:Inv X F p j s)(c:Ct X w k N sc)(hc:X.calm=true):Rn X.toMd F X.env.locals X.A s:=by
 refine⟨I.ok.hd hc,c.un,c.gd,I.fh,let ⟨m,hn,_⟩:=I.ns;⟨m,hn⟩,I.kpF (.inr (.inl rfl)), ?_⟩;obtain⟨o,es,ep,e,_⟩:=I.ok.mod.glob;exact N0o (by decide) (Jw (I.bk _ _ e))
theorem Inv.ok'{r:Sl}{Q:Sl->P->Prop}{F0:OM}(I:Inv X F p j s)(l:Le F0 F)(q:Q r p):Ok X.toMd F X.env.locals s r (EP X F0 j Q):=fun h' v t G=>(I.ep (tk:=t) G q).le l
variable{q:Pr}{es:E}{x y z:Expr}{Q:Sl->P->Prop}
theorem go1(hs:Hs X w true es [x])(I:Inv X F p j s)(h:wE w (.pr q es) p Q){f:ZQ}(kk:∀F' p' t u s' r,Le F F'->Inv X F' p' j s'->Vu X.toMd F' s'.heap t u->W5 q [t]=some r->Q r p'->f u s'):WP X (eval x X.env) f s :=
 show Tq X [x] (fun us s'=>match us with | [u]=>f u s' | _=>True) s from W3 hs I h fun F' p' ts us s' r l I' se e q=>by
  match ts,us,se with
  | [t],[u],.cons s1 .nil=>exact kk F' p' t u s' r l I' s1 e q
  | [],_,.nil=>trivial
  | _::_::_,_,.cons _ (.cons _ _)=>split<;>first | trivial | (rename_i z;cases z)
theorem go2(hs:Hs X w true es [x,y])(I:Inv X F p j s)(h:wE w (.pr q es) p Q){f:Value->Value->Shared->Prop}(kk:∀F' p' t t' u v s' r,Le F F'->Inv X F' p' j s'->Vu X.toMd F' s'.heap t u->Vu X.toMd F' s'.heap t' v->W5 q [t,t']=some r->Q r p'->f u v s'):WP X (eval x X.env) (fun u s1=>WP X (eval y X.env) (fun v s2=>f u v s2) s1) s :=
 show Tq X [x,y] (fun us s'=>match us with | [u,v]=>f u v s' | _=>True) s from W3 hs I h fun F' p' ts us s' r l I' se e q=>by
  match ts,us,se with
  | [t,t'],[u,v],.cons s1 (.cons s2 .nil)=>exact kk F' p' t t' u v s' r l I' s1 s2 e q
  | [],_,.nil=>trivial
  | [_],_,.cons _ .nil=>trivial
  | _::_::_::_,_,.cons _ (.cons _ (.cons _ _))=>trivial
theorem go3(hs:Hs X w true es [x,y,z])(I:Inv X F p j s)(h:wE w (.pr q es) p Q){f:Value->Value->Value->Shared->Prop}(kk:∀F' p' t t' t2 u v u2 s' r,Le F F'->Inv X F' p' j s'->Vu X.toMd F' s'.heap t u->Vu X.toMd F' s'.heap t' v->Vu X.toMd F' s'.heap t2 u2->W5 q [t,t',t2]=some r->Q r p'->f u v u2 s'):WP X (eval x X.env) (fun u s1=>WP X (eval y X.env) (fun v s2=>WP X (eval z X.env) (fun u2 s3=>f u v u2 s3) s2) s1) s :=
 show Tq X [x,y,z] (fun us s'=>match us with | [u,v,u2]=>f u v u2 s' | _=>True) s from W3 hs I h fun F' p' ts us s' r l I' se e q=>by
  match ts,us,se with
  | [t,t',t2],[u,v,u2],.cons s1 (.cons s2 (.cons s3 .nil))=>exact kk F' p' t t' t2 u v u2 s' r l I' s1 s2 s3 e q
  | [],_,.nil=>trivial
  | [_],_,.cons _ .nil=>trivial
  | [_,_],_,.cons _ (.cons _ .nil)=>trivial
  | _::_::_::_::_,_,.cons _ (.cons _ (.cons _ (.cons _ _)))=>trivial
end
def isVI:E->Bool
 | .v _=>true
 | .io _=>true
 | _=>false
mutual
noncomputable def bc:E->Bool
 | .k _=>true
 | .g _=>true
 | .pr _ es=>Dq es
 | _=>false
noncomputable def Dq:E->Bool
 | .nil=>true
 | .cons a r=>(isVI a || bc a) && Dq r
 | _=>false
end
section
variable{w:W}
mutual
theorem bf:∀(a:E) {p:P} {Q:Sl->P->Prop},bc a=true->wE w a p Q->∃r,Q r p/\∀Q':Sl->P->Prop,Q' r p->wE w a p Q'
 | .k t,p,Q,_,h=>⟨.f t,h,fun _ q=>q⟩
 | .g x,p,Q,_,h=>by
  obtain⟨t,e,h⟩:=Za (show on (w.gl x) fun t=>Q (.f t) p from h);exact⟨.f t,h,fun Q' q=>(show on (w.gl x) fun t=>Q' (.f t) p from Zm e q)⟩
 | .pr r es,p,Q,c,h=>by
  obtain⟨as,h,k⟩:=Qc es (show Dq es=true from c) (show wR w true es p fun as p1=>on (looks p1 as) fun ts=>on (W5 r ts) fun s=>Q s p1 from h);obtain⟨ts,e1,h⟩:=Za h;obtain⟨s,e2,h⟩:=Za h;exact⟨s,h,fun Q' q=>(show wR w true es p fun as p1=>on (looks p1 as) fun ts=>on (W5 r ts) fun s=>Q' s p1 from k _ (Zm e1 (Zm e2 q)))⟩
 | .v _,_,_,c,_=>by cases c
 | .mv _,_,_,c,_=>by cases c
 | .io _,_,_,c,_=>by cases c
 | .nil,_,_,c,_=>by cases c
 | .cons _ _,_,_,c,_=>by cases c
 | .tup _,_,_,c,_=>by cases c
 | .lst _,_,_,c,_=>by cases c
 | .and _ _,_,_,c,_=>by cases c
 | .or _ _,_,_,c,_=>by cases c
 | .not _,_,_,c,_=>by cases c
 | .ite _ _ _,_,_,c,_=>by cases c
 | .call _ _,_,_,c,_=>by cases c
 | .cal _ _,_,_,c,_=>by cases c
 | .mt _ _ _,_,_,c,_=>by cases c
 | .comp _ _ _ _ _ _,_,_,c,_=>by cases c
 | .itr _ _,_,_,c,_=>by cases c
 | .tmp _,_,_,c,_=>by cases c
theorem Qc:∀(es:E) {p:P} {K:List A->P->Prop},Dq es=true->wR w true es p K->∃as,K as p/\∀K':List A->P->Prop,K' as p->wR w true es p K'
 | .nil,p,K,_,h=>⟨[],h,fun _ q=>q⟩
 | .cons a r,p,K,c,h=>by
  have h:wH true a p (wE w a p) fun a1 p1=>wR w true r p1 fun as p2=>K (a1::as) p2:=h;obtain⟨c1,c2⟩:=Xd.mp (show ((isVI a || bc a) && Dq r)=true from c)
  have slot:∀(i:Nat) {K0:A->P->Prop},(if done p i=true then K0 (.s i) p else False)->done p i=true/\K0 (.s i) p:=fun i {K0} h=>by
   split at h
   .exact⟨by assumption,h⟩
   .exact h.elim
  have toK:∀{s:Sl},(Mu s fun t=>wR w true r p fun as p2=>K (.t t::as) p2)->(∀Q':Sl->P->Prop,Q' s p->wE w a p Q')->∃t,(wR w true r p fun as p2=>K (.t t::as) p2)/\∀K':A->P->Prop,K' (.t t) p->wE w a p fun s p1=>Mu s fun t=>K' (.t t) p1:=fun {s} h k=>by
   cases s with
   | no=>exact h.elim
   | f t=>exact⟨t,h,fun K' q=>k _ q⟩
   | o t=>exact⟨t,h,fun K' q=>k _ q⟩
  have key:∃a1,(wR w true r p fun as p2=>K (a1::as) p2)/\∀K':A->P->Prop,K' a1 p->wH true a p (wE w a p) K':=by
   cases a with
   | v i=>obtain⟨d,h⟩:=slot i (K0:=fun a1 p1=>wR w true r p1 fun as p2=>K (a1::as) p2) h;exact⟨.s i,h,fun K' q=>(show if done p i=true then K' (.s i) p else False by rw[if_pos d];exact q)⟩
   | io i=>obtain⟨d,h⟩:=slot i (K0:=fun a1 p1=>wR w true r p1 fun as p2=>K (a1::as) p2) h;exact⟨.s i,h,fun K' q=>(show if done p i=true then K' (.s i) p else False by rw[if_pos d];exact q)⟩
   | k t=>exact⟨.t t,h,fun K' q=>q⟩
   | g x =>
    obtain⟨s,h,k⟩:=bf (.g x) (Q:=fun s p1=>Mu s fun t=>wR w true r p1 fun as p2=>K (.t t::as) p2) rfl h;obtain⟨t,h,k⟩:=toK h k;exact⟨.t t,h,k⟩
   | pr q es =>
    obtain⟨s,h,k⟩:=bf (.pr q es) (Q:=fun s p1=>Mu s fun t=>wR w true r p1 fun as p2=>K (.t t::as) p2) c1 h;obtain⟨t,h,k⟩:=toK h k;exact⟨.t t,h,k⟩
   | _=>cases c1
  obtain⟨a1,h,k1⟩:=key;obtain⟨as,h,k2⟩:=Qc r c2 h;exact⟨a1::as,h,fun K' q=>(show wH true a p (wE w a p) fun a1 p1=>wR w true r p1 fun as p2=>K' (a1::as) p2 from k1 _ (k2 _ q))⟩
 | .k _,_,_,c,_=>by cases c
 | .g _,_,_,c,_=>by cases c
 | .pr _ _,_,_,c,_=>by cases c
 | .v _,_,_,c,_=>by cases c
 | .mv _,_,_,c,_=>by cases c
 | .io _,_,_,c,_=>by cases c
 | .tup _,_,_,c,_=>by cases c
 | .lst _,_,_,c,_=>by cases c
 | .and _ _,_,_,c,_=>by cases c
 | .or _ _,_,_,c,_=>by cases c
 | .not _,_,_,c,_=>by cases c
 | .ite _ _ _,_,_,c,_=>by cases c
 | .call _ _,_,_,c,_=>by cases c
 | .cal _ _,_,_,c,_=>by cases c
 | .mt _ _ _,_,_,c,_=>by cases c
 | .comp _ _ _ _ _ _,_,_,c,_=>by cases c
 | .itr _ _,_,_,c,_=>by cases c
 | .tmp _,_,_,c,_=>by cases c
end
end
noncomputable def quiet:Pr->E->Bool
 | .c2 _ _,.cons _ (.cons _ r)=>Dq r
 | .get1,.cons _ r=>Dq r
 | .idx,.cons _ r=>Dq r
 | .get2,.cons _ r=>Dq r
 | .c2 _ _,_=>false
 | .get1,_=>false
 | .idx,_=>false
 | .get2,_=>false
 | _,_=>true
theorem Qz{es:ZM}{env:Env}{cpos:Pos}(h:∀e∈es,noStar e=true)(hl:es.length<30):((backTo cpos (starEach es env)).all (fun x=>!x.1) && (backToKw cpos (keywordEach [] env)).all (fun x=>x.1.isSome)
  && decide (es.length+([]:List Keyword).length+(if ([]:List Keyword).isEmpty then 0 else 1)<30))=true:=by
 have h1:(backTo cpos (starEach es env)).all (fun x=>!x.1)=true:=by
  rw[List.all_eq_not_any_not];have:=Y5 es env cpos h;simp only[Bool.not_not];rw[this];rfl
 rw[h1];show (true && true && decide (es.length+0+0<30))=true;rw[Ma (by omega)];rfl
section
variable{X:Cx}{w:W}{k:Nat}{N:ZG}{sc:ZW}{F:OM}{p:P}{j:Vs}{s:Shared}
theorem Fi{q:Pr}{a r:E}{x:Expr}{xs:ZM}{Q:Sl->P->Prop}{f:ZQ}(hs:Hs X w true (.cons a r) (x::xs))(hq:Dq r=true)(I:Inv X F p j s)(h:wE w (.pr q (.cons a r)) p Q)
  (kk:∀F1 p1 b v s1 as ts rr,Le F F1->Inv X F1 p1 j s1->Ar X F1 j b v->looks p1 (b::as)=some ts->W5 q ts=some rr->Q rr p1->(∀K':List A->P->Prop,K' as p1->wR w true r p1 K')->f v s1):WP X (eval x X.env) f s:=by
 cases hs with | cons ha _ t =>
 have h:wH true a p (wE w a p) fun a1 p1=>wR w true r p1 fun as p2=>on (looks p2 (a1::as)) fun ts=>on (W5 q ts) fun s=>Q s p2:=h;refine Yr (ha F p j s _ I h) fun v s1 ⟨F1,p1,b,l1,I1,r1,_,h⟩=>?_;obtain⟨as,h,kr⟩:=Qc r hq h;obtain⟨ts,e1,h⟩:=Za h;obtain⟨rr,e2,h⟩:=Za h;exact kk F1 p1 b v s1 as ts rr l1 I1 r1 e1 e2 h kr
theorem T8{r:E}{xs:ZM}{p1:P}{as:List A}(t:Hs X w true r xs)(I:Inv X F p1 j s)(kr:∀K':List A->P->Prop,K' as p1->wR w true r p1 K'){K:ZK->Shared->Prop}(kk:∀F' us s',Le F F'->Inv X F' p1 j s'->Paired (Ar X F' j) as us->K us s'):Tq X xs K s :=
 ay t I (kr (fun as' q=>as'=as/\q=p1) ⟨rfl,rfl⟩) fun F' p' as' us s' l I' ar _ ⟨e1,e2⟩=>by subst e1 e2;exact kk F' us s' l I' ar
theorem Ug{a:A}{as:List A}{ts:ZZ}(h:looks p (a::as)=some ts):∃t r,look p a=some t/\looks p as=some r/\ts=t::r:=by
 obtain⟨t,e1,h⟩:=ZP.mp (show (look p a).bind _=some ts from h);obtain⟨r,e2,rfl⟩:=Y3.mp h;exact⟨t,r,e1,e2,rfl⟩
theorem Ct.gl'(c:Ct X w k N sc){x:Str}(h:Gm sc x=true):Gl X x/\(x == ("__debug__" : Str))=false:=by
 unfold Gm at h;rw[Vp,beq_iff_eq]at h;exact⟨c.gi h.1,by simpa using h.2⟩
theorem Ct.nm'(c:Ct X w k N sc){i:Nat}{x:Str}(h:Gk N sc i x=true):Nm X i x:=by
 unfold Gk at h;simp only[Vp,beq_iff_eq]at h;exact⟨by rw[c.nN];exact h.1.1.1,by simpa using h.1.2,by simpa using h.2⟩
theorem Lo(c:Ct X w k N sc){x:Str}{XY:ZX}(e:Cg x=some XY)(I:Inv X F p j s):∃a,X.mg x=some (.ref a)/\Vu X.toMd F s.heap (.dct XY) (.ref a):=by
 obtain⟨a,vs,hm,dd,ns,z,r⟩:=c.bn.t x XY e;have l:Le X.base.get? F:=fun a o h=>I.le a o (I.ok.b a o h);obtain⟨o,ho,k⟩:=We.of dd z ns;exact⟨a,hm,.of I.fh (.mkD (l a o ho) k (Z9.up r l))⟩
theorem An{x z:Str}{t:T}(h:Xa x z=some t):∃XY,Cg x=some XY/\Zv XY (.inr z)=some t:=ZP.mp h
variable{es:E}
theorem a8{q:Pr}{nm:Str}{fv:Value}(h:btV q=some (nm,fv)):nm∈Dw/\bootBuiltins nm=some fv/\nm ≠ "__name__" /\ ((∃id,fv=.builtin id)\/∃T,fv=.type T):=by
 unfold btV at h
 split at h<;>first | (cases h;done) | (cases h;exact⟨by decide +kernel,by decide +kernel,by decide +kernel,by first | exact .inl ⟨_,rfl⟩ | exact .inr ⟨_,rfl⟩⟩)
theorem iu(c:Ct X w k N sc)(hc:X.calm=true){q:Pr}{x:Expr}{xs:ZM}(hv:vBt sc q x=some xs)(hs:Hs X w true es xs):SE w (.pr q es) X x:=fun F p j s Q I h=>by
 obtain⟨f,p0,a,r,pos,rfl,hv2⟩:=vBt_ex hv
 clear hv
 split at hv2
 rotate_left
 .cases hv2
 rename_i nm fv hb
 split at hv2
 rotate_left
 .cases hv2
 rename_i ho
 cases hv2;obtain⟨rfl,g1⟩:=ho;obtain⟨gg,gd⟩:=c.gl' g1;obtain⟨b1,b2,b3,b4⟩:=a8 hb;have st:=hs.star;have main:WP X (spliced (backTo pos (starEach (a::r) X.env))) (fun us s1=>WP X (call fv us) (EP X F j Q) s1) s:=Yg st (W3 hs I h fun F1 p1 ts us s1 rr l I1 se e q=>bt_run hb (I1.rn c hc) se e (I1.ok' l q));refine wpAny_Call_Name_kw (G5 I gg (c.bn.b _ b1) b2 gd b3 ?_);rcases b4 with ⟨id,rfl⟩ | ⟨T,rfl⟩
 .exact callWith_builtin1 main (Z2 (st _ Yn)) (Y5 r X.env pos fun e m=>st e (Vk _ m))
 .exact callWith_type1 main (Z2 (st _ Yn)) (Y5 r X.env pos fun e m=>st e (Vk _ m))
end
section
variable{X:Cx}{w:W}{k:Nat}{N:ZG}{sc:ZW}{es:E}
theorem se_op{o:Op}{x:Expr}{xs:ZM}(hv:vOp o x=some xs)(hs:Hs X w true es xs):SE w (.pr (.op o) es) X x:=fun F p j s Q I h=>by
 replace hv:=vOp_ex hv
 obtain⟨a,op,b,p0,rfl,hv⟩:=hv
 split at hv
 .rename_i ho
  subst ho;cases hv;exact wpAny_BinOp (go2 hs I h fun F1 p1 t t' u v s1 r l I1 L9 E0 e q=>op_run o I1.fh L9 E0 e (I1.ok' l q))
 .cases hv
theorem Zzh(c:Ct X w k N sc){cm:Cm}{a b:Expr}{f:ZQ}(hs:Hs X w true es [a,b]){F:OM}{p:P}{j:Vs}{s:Shared}{Q:Sl->P->Prop}(I:Inv X F p j s)(h:wE w (.pr (.cm cm) es) p Q)(kk:∀F1 p1 bb s1,Le F F1->Inv X F1 p1 j s1->Q (.f (.bl bb)) p1->f (.bool bb) s1) :
  WP X (eval a X.env) (fun v s1=>WP X (eval b X.env) (fun u s2=>WP X (compareOp (Rd cm) v u) f s2) s1) s :=
 go2 hs I h fun F1 p1 t t' u v s1 r l I1 L9 E0 e q=>by
  obtain⟨bb,e1,rfl⟩:=Y3.mp (show (Jq cm t t').map _=some r from e);exact Hc cm c.un I1.fh L9 E0 e1 fun tk=>kk F1 p1 bb _ l (I1.tok tk) q
theorem ir(c:Ct X w k N sc){cm:Cm}{x:Expr}{xs:ZM}(hv:vCm cm x=some xs)(hs:Hs X w true es xs):SE w (.pr (.cm cm) es) X x/\∀wh,ST w (.pr (.cm cm) es) X x wh:=by
 replace hv:=vCm_ex hv
 obtain⟨a,op,b,p0,rfl,hv⟩:=hv
 split at hv
 .rename_i ho
  obtain⟨rfl,hm⟩:=ho;cases hv
  exact⟨fun F p j s Q I h=>wpAny_Compare1 (Zzh c hs I h fun F1 p1 bb s1 l I1 q=>⟨F1,p1,.f (.bl bb),l,I1,Top.bl,q⟩) hm,
   fun wh F p j s Q I h=>wpAny_isTrue_Compare1 (Zzh c hs I h fun F1 p1 bb s1 l I1 q=>wpAny_truthy_bool ⟨F1,p1,l,I1,q⟩) hm⟩
 .cases hv
theorem Zzp(c:Ct X w k N sc){cm bw:Cm}{a b d:Expr}{fin:Bool->Shared->Prop}(hs:Hs X w true es [a,b,d])(hq:quiet (.c2 cm bw) es=true){F:OM}{p:P}{j:Vs}{s:Shared}{Q:Sl->P->Prop}(I:Inv X F p j s)(h:wE w (.pr (.c2 cm bw) es) p Q)
  (kk:∀F1 p1 bb s1,Le F F1->Inv X F1 p1 j s1->Q (.f (.bl bb)) p1->fin bb s1) :
  WP X (eval a X.env) (fun v s1=>WP X (eval b X.env) (fun u s2=>WP X (compareOp (Rd cm) v u) (fun e s3=>∃bb,e=.bool bb/\if bb=true then WP X (eval d X.env) (fun z s4=>WP X (compareOp (Rd bw) u z) (fun e s5=>∃bb,e=.bool bb/\fin bb s5) s4) s3 else fin false s3) s2) s1) s:=by
 cases hs with | @cons ea er x xs ha sa t=>cases t with | @cons eb r x xs hb sb t =>
 have hq:Dq r=true:=hq;have h:wH true ea p (wE w ea p) fun a1 p1=>wH true eb p1 (wE w eb p1) fun a2 p2=>wR w true r p2 fun as p3=>on (looks p3 (a1::a2::as)) fun ts=>on (W5 (.c2 cm bw) ts) fun s=>Q s p3:=h;refine Yr (ha F p j s _ I h) fun v s1 ⟨F1,p1,a1,l1,I1,r1,_,h⟩=>Yr (hb F1 p1 j s1 _ I1 h) fun u s2 ⟨F2,p2,a2,l2,I2,r2,_,h⟩=>?_;obtain⟨as,h,kr⟩:=Qc r hq h;obtain⟨ts,e1,h⟩:=Za h;obtain⟨rr,e2,h⟩:=Za h;obtain⟨t1,q1,g1,g2,rfl⟩:=Ug e1;obtain⟨t2,q2,g3,g4,rfl⟩:=Ug g2;have r1:=r1.up l2
 match q2,g4,e2 with
 | [],g4,e2=>cases e2
 | _::_::_,g4,e2=>cases e2
 | [t3],g4,e2 =>
 obtain⟨b1,e3,e2⟩:=ZP.mp (show (Jq cm t1 t2).bind _=some rr from e2);refine Hc cm c.un I2.fh (I2.look g1 r1) (I2.look g3 r2) e3 fun tk=>⟨b1,rfl, ?_⟩;have I3:=I2.tok tk;cases b1 with
 | false =>
  cases e2;rw[if_neg Q6];exact kk F2 p2 false _ (l1.trans l2) I3 h
 | true =>
  obtain⟨b2,e4,rfl⟩:=Y3.mp e2;rw[if_pos rfl];refine T8 (K:=fun us s4=>match us with | [z]=>WP X (compareOp (Rd bw) u z) (fun e s5=>∃bb,e=.bool bb/\fin bb s5) s4 | _=>True) t I3 kr fun F4 us s4 l4 I4 ar=>?_
  match us,I4.looks ar g4 with
  | [z],.cons s3 .nil=>exact Hc bw c.un I4.fh (I4.look g3 (r2.up l4)) s3 e4 fun tk=>⟨b2,rfl,kk F4 p2 b2 _ (l1.trans (l2.trans l4)) (I4.tok tk) h⟩
theorem ip(c:Ct X w k N sc){cm bw:Cm}{x:Expr}{xs:ZM}(hv:vC2 cm bw x=some xs)(hq:quiet (.c2 cm bw) es=true)(hs:Hs X w true es xs):SE w (.pr (.c2 cm bw) es) X x/\∀wh,ST w (.pr (.c2 cm bw) es) X x wh:=by
 replace hv:=vC2_ex hv
 obtain⟨a,op,op',b,d,p0,rfl,hv⟩:=hv
 split at hv
 rotate_left
 .cases hv
 rename_i ho
 obtain⟨rfl,rfl,hm⟩:=ho;cases hv
 refine⟨fun F p j s Q I h=>Compare_chain (Yr (Zzp (fin:=fun bb s'=>EP X F j Q (.bool bb) s') c hs hq I h fun F1 p1 bb s1 l I1 q=>⟨F1,p1,.f (.bl bb),l,I1,Top.bl,q⟩) fun v s1 g=>chain_link (Yr g fun u s2 g=>Yr g fun e s3 ⟨bb,ee,g⟩=>?_)) hm,
  fun wh F p j s Q I h=>isTrue_chain (Yr (Zzp (fin:=fun bb s'=>TP X F j Q bb s') c hs hq I h fun F1 p1 bb s1 l I1 q=>⟨F1,p1,l,I1,q⟩) fun v s1 g=>test_link (Yr g fun u s2 g=>Yr g fun e s3 ⟨bb,ee,g⟩=>?_)) hm⟩
 .subst ee;refine wpAny_truthy_bool ?_;cases bb with
  | false=>rw[if_neg Q6]at g;exact ite_ff g
  | true=>rw[if_pos rfl]at g;exact ite_tt (chain_last (Yr g fun z s4 g=>Yr g fun e s5 ⟨bb,ee,g⟩=>by subst ee;exact g))
 .subst ee;refine wpAny_truthy_bool ?_;cases bb with
  | false=>rw[if_neg Q6]at g;exact ite_ff g
  | true=>rw[if_pos rfl]at g;exact ite_tt (test_last (Yr g fun z s4 g=>Yr g fun e s5 ⟨bb,ee,g⟩=>by subst ee;exact wpAny_truthy_bool g))
theorem P5{b:Expr}(h:Uk b=true):∀o i,subscripted b false o i=operate [o,i] (getItem o i):=fun o i=>by cases b<;>first | rfl | cases h
theorem se_neg{x:Expr}{xs:ZM}(hv:tc x=some xs)(hs:Hs X w true es xs):SE w (.pr .neg es) X x:=fun F p j s Q I h=>by
 replace hv:=td hv
 obtain⟨a,p0,rfl,hv⟩:=hv;cases hv;refine UnaryOp_ (go1 hs I h fun F1 p1 t u s1 r l I1 se e q=>?_);cases t<;>first | (cases e;done) | skip
 cases e;cases se;exact neg_int ((I1.ep (tk:=_) (.sc .int) q).le l)
theorem se_ix{x:Expr}{xs:ZM}(hv:vIx x=some xs)(hs:Hs X w true es xs):SE w (.pr .ix es) X x:=fun F p j s Q I h=>by
 replace hv:=vIx_ex hv
 obtain⟨a,b,p0,rfl,hv⟩:=hv
 split at hv
 .rename_i ho
  cases hv;refine Subscript_ (go2 hs I h fun F1 p1 t t' u v s1 r l I1 L9 E0 e q=>?_);obtain⟨z,e1,rfl⟩:=Y3.mp (show (T5 t t').map Sl.f=some r from e);exact y2 I1.fh L9 E0 e1 (I1.ok' l q) (P5 ho _ _)
 .cases hv
theorem Eo{F F1:OM}{p1:P}{j:Vs}{s1:Shared}{Q:Sl->P->Prop}{t:T}{v vl vu:Value}{lo hi:ZC}{r:Sl}{e:Expr}{lo' K6:Option Expr}{p2:Pos}(l:Le F F1)(I:Inv X F1 p1 j s1)(se:Vu X.toMd F1 s1.heap t v)(pl:IsPart vl lo)(pu:IsPart vu hi)(e1:ig t lo hi=some r)(q:Q r p1) :
  WP X (subscriptTail e (.Slice lo' K6 none p2) v (.ref s1.heap.objs.size)) (EP X F j Q) { s1 with heap:=s1.heap.push { cls:=.type "slice",data:=.fields #[vl,vu,.none] } }:=by
 have I4:Inv X F1 p1 j { s1 with heap:=s1.heap.push { cls:=.type "slice",data:=.fields #[vl,vu,.none] } }:=I.kept (t:=s1.toks) fun b ob q=>Y4 _ q
 have se4:Vu X.toMd F1 (s1.heap.push { cls:=.type "slice",data:=.fields #[vl,vu,.none] }) t v:=by
  unfold Vu at *;cases hc:Wl t with
  | true =>
   rw[hc]at se;obtain⟨a,o,rfl,_⟩:=se.at hc;exact se.to (D':=(s1.heap.push _).get?) hc fun o e=>Y4 _ e
  | false=>rw[hc]at se;exact se
 obtain⟨T,id,hT,ht,hg⟩:=sl_run (A:=X.A) (E:=X.xe) I4.fh se4 (Heap.IsSliceOf.new ..) pl pu e1 (I4.ok' l q);exact tail_any (ops:=[.ref s1.heap.objs.size,v]) ht hT hg (by with_unfolding_all rfl)
theorem nc{x:Expr}{xs:ZM}(hv:Av x=some xs)(hs:Hs X w true es xs):SE w (.pr (.sl true false) es) X x:=fun F p j s Q I h=>by
 replace hv:=jl hv
 obtain⟨a,l0,q0,p0,rfl,hv⟩:=hv;cases hv;refine Subscript_ (Yr (go2 (f:=fun v u s1=>WP X (subscriptTail a (.Slice (some l0) none none q0) v (.ref s1.heap.objs.size)) (EP X F j Q) { s1 with heap:=s1.heap.push { cls:=.type "slice",data:=.fields #[u,.none,.none] } }) hs I h fun F1 p1 t t' u v s1 r l I1 L9 E0 e q=>?_) fun v s1 g=>wpAny_Slice ?_)
 .obtain⟨i,e1,e2⟩:=ZP.mp (show (Od t').bind (fun i=>ig t (some i) none)=some r from e);cases t'<;>first | (cases e1;done) | skip
  cases e1;cases E0;exact Eo l I1 L9 (.int _ _) .none e2 q
 .rw[evalPart_some];refine Yr g fun u s2 g=>?_;rw[evalPart_none];exact Zt (Zt g)
theorem nr{x:Expr}{xs:ZM}(hv:Ay x=some xs)(hs:Hs X w true es xs):SE w (.pr (.sl false true) es) X x:=fun F p j s Q I h=>by
 replace hv:=jr hv
 obtain⟨a,l0,q0,p0,rfl,hv⟩:=hv;cases hv;refine Subscript_ (Yr (go2 (f:=fun v u s1=>WP X (subscriptTail a (.Slice none (some l0) none q0) v (.ref s1.heap.objs.size)) (EP X F j Q) { s1 with heap:=s1.heap.push { cls:=.type "slice",data:=.fields #[.none,u,.none] } }) hs I h fun F1 p1 t t' u v s1 r l I1 L9 E0 e q=>?_) fun v s1 g=>wpAny_Slice ?_)
 .obtain⟨i,e1,e2⟩:=ZP.mp (show (Od t').bind (fun i=>ig t none (some i))=some r from e);cases t'<;>first | (cases e1;done) | skip
  cases e1;cases E0;exact Eo l I1 L9 .none (.int _ _) e2 q
 .rw[evalPart_none];refine Zt ?_;rw[evalPart_some];exact Yr g fun u s2 g=>Zt g
theorem ng{x:Expr}{xs:ZM}(hv:Aw x=some xs)(hs:Hs X w true es xs):SE w (.pr (.sl true true) es) X x:=fun F p V s Q I h=>by
 replace hv:=jn hv
 obtain⟨a,l0,u0,q0,p0,rfl,hv⟩:=hv;cases hv;refine Subscript_ (Yr (go3 (f:=fun v u u2 s1=>WP X (subscriptTail a (.Slice (some l0) (some u0) none q0) v (.ref s1.heap.objs.size)) (EP X F V Q) { s1 with heap:=s1.heap.push { cls:=.type "slice",data:=.fields #[u,u2,.none] } }) hs I h fun F1 p1 t t' t2 u v u2 s1 r l I1 L9 E0 s3' e q=>?_) fun v s1 g=>wpAny_Slice ?_)
 .obtain⟨i,e1,e2⟩:=ZP.mp (show (Od t').bind (fun i=>(Od t2).bind fun j=>ig t (some i) (some j))=some r from e);obtain⟨j,e3,e4⟩:=ZP.mp e2;cases t'<;>first | (cases e1;done) | skip
  cases t2<;>first | (cases e3;done) | skip
  cases e1;cases e3;cases E0;cases s3';exact Eo l I1 L9 (.int _ _) (.int _ _) e4 q
 .rw[evalPart_some];refine Yr g fun u s2 g=>?_;rw[evalPart_some];refine Yr g fun u2 s3 g=>?_;rw[evalPart_none];exact Zt g
end
section
variable{X:Cx}{w:W}{k:Nat}{N:ZG}{sc:ZW}{es:E}
theorem se_isi(c:Ct X w k N sc){n:Kd}{x:Expr}{xs:ZM}(hv:ta sc n x=some xs)(hs:Hs X w true es xs):SE w (.pr (.isi n) es) X x:=fun F p j s Q I h=>by
 replace hv:=th hv
 obtain⟨f,q0,a,kn,q1,p0,rfl,hv⟩:=hv
 split at hv
 rotate_left
 .cases hv
 rename_i ho
 cases hv;obtain⟨rfl,g1,rfl,g2⟩:=ho;obtain⟨uo,u4⟩:=c.gl' g1;obtain⟨gg2,gd2⟩:=c.gl' g2;have st:=hs.star
 have st2:∀e∈[a,Expr.Name (Str.ofString (dh n)) q1],noStar e=true:=fun e m=>by
  rcases Vv.mp m with rfl | m
  .exact st _ Yn
  .cases V1.mp m;rfl
 have kb:(Str.ofString (dh n))∈Dw/\bootBuiltins (Str.ofString (dh n))=some (.type (dh n))/\Str.ofString (dh n) ≠ "__name__" := by cases n<;>decide +kernel
 have main:Tq X [a,Expr.Name (Str.ofString (dh n)) q1] (fun us s1=>WP X (call (.builtin "isinstance") us) (EP X F j Q) s1) s :=
  go1 (f:=fun v s1=>WP X (eval (.Name (Str.ofString (dh n)) q1) X.env) (fun u s2=>WP X (call (.builtin "isinstance") [v,u]) (EP X F j Q) s2) s1) hs I h fun F1 p1 t u s1 r l I1 se e q=>by
   obtain⟨b,e1,rfl⟩:=Y3.mp (show (isiT n t).map _=some r from e);exact G5 I1 gg2 (c.bn.b _ kb.1) kb.2.1 gd2 kb.2.2 (uf I1.kIn I1.fh se e1 (I1.ok' l q))
 refine wpAny_Call_Name_kw (G5 I uo (c.bn.b _ (by decide +kernel)) (by decide +kernel:bootBuiltins "isinstance" = some (.builtin "isinstance")) u4 (by decide) ?_);exact callWith_builtin1 (Yg st2 main) (Z2 (st _ Yn)) rfl
theorem n5{x:Expr}{xs:ZM}(hv:Af x=some xs)(hq:quiet .get1 es=true)(hs:Hs X w true es xs):SE w (.pr .get1 es) X x:=fun F p j s Q I h=>by
 replace hv:=ju hv
 obtain⟨o,m,ap,a,cp,rfl,hv⟩:=hv
 split at hv
 rotate_left
 .cases hv
 rename_i ho
 cases hv;obtain⟨rfl,hn,hl⟩:=ho;cases hs with | @cons ea er _ _ ha sa t =>
 have st:=t.star;refine wpAny_Call_method_late (Dp hn _ _ _) (Qz st (by first | (show 1<30;decide) | (show 2<30;decide))) hl rfl (Fi (.cons ha sa t) hq I h fun F1 p1 b v s1 as ts rr l1 I1 r1 e1 e2 q kr=>?_);obtain⟨t1,q1,g1,g2,rfl⟩:=Ug e1;cases t1<;>first | (rcases q1 with _ | ⟨_,_ | ⟨_,_⟩⟩<;>cases e2;done) | skip
 rename_i XY
 obtain⟨a0,vs,rfl,z,ns,dd,r⟩:=Br (I1.look g1 r1);have dd0:=dd;obtain⟨ob,_,_,h1,h2,_⟩:=dd0;refine⟨"dict","dict.get",PySem.F.plainAttrs_dict,PySem.F.slot_dict_get,PySem.F.type_dict_get,dd.typeIs,fun a e=>by cases e;exact⟨ob,h1,h2.2.1⟩, ?_⟩
 have main:WP X (spliced (backTo cp (starEach (_::_) X.env))) (fun us s2=>WP X (call (.builtin "dict.get") (.ref a0::us)) (EP X F j Q) s2) s1:=Yg st (T8 t I1 kr fun F2 us s2 l2 I2 ar=>by
  match q1,us,I2.looks ar g2,e2 with
  | [kt],[u],.cons s3 .nil,e2 =>
   obtain⟨key,e3,rfl⟩:=Y3.mp (show (Mf kt).map _=some rr from e2);exact gx (I2.look g1 (r1.up l2)) s3 e3 (I2.ok' (l1.trans l2) q))
 rw[Z2 (st _ Yn)]at main ⊢;exact Calls.callWith_builtin rfl (Calls.evalArgs_plain main)
theorem nu{x:Expr}{xs:ZM}(hv:Ag x=some xs)(hq:quiet .get2 es=true)(hs:Hs X w true es xs):SE w (.pr .get2 es) X x:=fun F p j s Q I h=>by
 replace hv:=jh hv
 obtain⟨o,m,ap,a,b0,cp,rfl,hv⟩:=hv
 split at hv
 rotate_left
 .cases hv
 rename_i ho
 cases hv;obtain⟨rfl,hn,hl⟩:=ho;cases hs with | @cons ea er _ _ ha sa t =>
 have st:=t.star;refine wpAny_Call_method_late (Dp hn _ _ _) (Qz st (by first | (show 1<30;decide) | (show 2<30;decide))) hl rfl (Fi (.cons ha sa t) hq I h fun F1 p1 b v s1 as ts rr l1 I1 r1 e1 e2 q kr=>?_);obtain⟨t1,q1,g1,g2,rfl⟩:=Ug e1;cases t1<;>first | (rcases q1 with _ | ⟨_,_ | ⟨_,_ | ⟨_,_⟩⟩⟩<;>cases e2;done) | skip
 rename_i XY
 obtain⟨a0,vs,rfl,z,ns,dd,r⟩:=Br (I1.look g1 r1);have dd0:=dd;obtain⟨ob,_,_,h1,h2,_⟩:=dd0;refine⟨"dict","dict.get",PySem.F.plainAttrs_dict,PySem.F.slot_dict_get,PySem.F.type_dict_get,dd.typeIs,fun a e=>by cases e;exact⟨ob,h1,h2.2.1⟩, ?_⟩
 have main:WP X (spliced (backTo cp (starEach (_::_) X.env))) (fun us s2=>WP X (call (.builtin "dict.get") (.ref a0::us)) (EP X F j Q) s2) s1:=Yg st (T8 t I1 kr fun F2 us s2 l2 I2 ar=>by
  match q1,us,I2.looks ar g2,e2 with
  | [kt,xt],[u,v],.cons s3 (.cons s4 .nil),e2 =>
   have e2:(if Wl xt=true then none else (Mf kt).map fun k=>Sl.f ((Zv XY k).getD xt))=some rr:=e2
   split at e2
   .cases e2
   .rename_i hct
    obtain⟨key,e3,rfl⟩:=Y3.mp e2;exact gz (I2.look g1 (r1.up l2)) s3 s4 (by simpa using hct) e3 (I2.ok' (l1.trans l2) q))
 rw[Z2 (st _ Yn)]at main ⊢;exact Calls.callWith_builtin (Y5 [b0] X.env cp fun e m=>st e (Vk _ m)) (Calls.evalArgs_plain main)
theorem se_idx{x:Expr}{xs:ZM}(hv:t4 x=some xs)(hq:quiet .idx es=true)(hs:Hs X w true es xs):SE w (.pr .idx es) X x:=fun F p l s Q I h=>by
 replace hv:=te hv
 obtain⟨o,m,ap,a,cp,rfl,hv⟩:=hv
 split at hv
 rotate_left
 .cases hv
 rename_i ho
 cases hv;obtain⟨rfl,hn,hl⟩:=ho;cases hs with | @cons ea er _ _ ha sa t =>
 have st:=t.star;refine wpAny_Call_method_late (Dp hn _ _ _) (Qz st (by first | (show 1<30;decide) | (show 2<30;decide))) hl rfl (Fi (.cons ha sa t) hq I h fun F1 p1 b v s1 as ts rr l1 I1 r1 e1 e2 q kr=>?_);obtain⟨t1,q1,g1,g2,rfl⟩:=Ug e1;cases t1<;>first | (rcases q1 with _ | ⟨_,_ | ⟨_,_⟩⟩<;>cases e2;done) | skip
 rename_i ts
 obtain⟨a0,us,mm,rfl,z,ho,r⟩:=Jc (I1.look g1 r1);refine⟨"list","list.index",PySem.F.plainAttrs_list,PySem.F.slot_list_index,PySem.F.type_list_index,⟨_,ho,rfl⟩,fun a e=>by cases e;exact⟨_,ho,rfl⟩, ?_⟩
 have main:WP X (spliced (backTo cp (starEach (_::_) X.env))) (fun us s2=>WP X (call (.builtin "list.index") (.ref a0::us)) (EP X F l Q) s2) s1:=Yg st (T8 t I1 kr fun F2 us s2 l2 I2 ar=>by
  match q1,us,I2.looks ar g2,e2 with
  | h1::_::_,_,_,e2=>cases h1<;>exact absurd (show (none:Option Sl)=some rr from e2) (fun z=>nomatch z)
  | [kt],[u],.cons s3 .nil,e2 =>
   cases kt<;>first | (cases e2;done) | skip
   rename_i n
   obtain⟨zs,e3,e4⟩:=ZP.mp (show (G6 ts).bind _=some rr from e2);obtain⟨j,e5,rfl⟩:=Y3.mp e4;exact ur (I2.look g1 (r1.up l2)) s3 e3 e5 (I2.ok' (l1.trans l2) q))
 rw[Z2 (st _ Yn)]at main ⊢;exact Calls.callWith_builtin rfl (Calls.evalArgs_plain main)
theorem nh(c:Ct X w k N sc)(hc:X.calm=true){x:Expr}{xs:ZM}(hv:Ak sc x=some xs)(hs:Hs X w true es xs):SE w (.pr .lset es) X x:=fun F p j s Q I h=>by
 replace hv:=js hv
 obtain⟨f,qq,g,qq',a,pp',pp,rfl,hv⟩:=hv
 split at hv
 rotate_left
 .cases hv
 rename_i ho
 cases hv;obtain⟨rfl,g1,rfl,g2⟩:=ho;obtain⟨uo,u4⟩:=c.gl' g1;obtain⟨gg2,gd2⟩:=c.gl' g2;have st:=hs.star;refine wpAny_Call_Name_kw (G5 I uo (c.bn.b _ (by decide +kernel)) (by decide +kernel:bootBuiltins "len" = some (.builtin "len")) u4 (by decide) (callWith_builtin1 (Yg (fun e m=>by cases V1.mp m;rfl) ?_) rfl rfl));show WP X (eval (.Call (.Name "set" qq') [a] [] pp') X.env) (fun v s1=>WP X (call (.builtin "len") [v]) (EP X F j Q) s1) s;refine wpAny_Call_Name_kw (G5 I gg2 (c.bn.b _ (by decide +kernel)) (by decide +kernel:bootBuiltins "set" = some (.type "set")) gd2 (by decide) (callWith_type1 (Yg st (W3 hs I h fun F1 p1 ts us s1 rr l I1 se e q=>?_)) (Z2 (st _ Yn)) rfl));have e:vi ts=some rr:=e;unfold vi at e
 split at e
 rotate_left
 .cases e
 obtain⟨ss,e1,e2⟩:=ZP.mp e
 split at e2
 rotate_left
 .cases e2
 rename_i hz
 cases e2;obtain⟨u,rfl,L9⟩:=Tw se;refine nq (I1.ok.hd hc) L9 e1 hz fun h' tk a es kp S el=>?_;refine Ks (s:={ s1 with heap:=h',toks:=tk }) S el fun t tk'=>?_;exact⟨F1,p1,.f (.int (SRT.qb ss).length),l,(I1.kept (t:=tk') kp),Top.int,q⟩
theorem ny(c:Ct X w k N sc)(hc:X.calm=true){x:Expr}{xs:ZM}(hv:Aj sc x=some xs)(hs:Hs X w true es xs):SE w (.pr .srtF es) X x:=fun F p j s Q I h=>by
 obtain⟨p0,a,q0,kp,pos,rfl,g1,g2,rfl⟩:=jc hv;rw[Vp]at g2;obtain⟨uo,u4⟩:=c.gl' g1;obtain⟨gg2,gd2⟩:=c.gl' g2.1;have st:=hs.star;have kf:=c.bn.k g2.2;refine wpAny_Call_Name_kw (G5 I uo (c.bn.b _ (by decide +kernel)) (by decide +kernel:bootBuiltins "sorted" = some (.builtin "sorted")) u4 (by decide) (callWith_kw (Yg st (W3 hs I h fun F1 p1 ts us s1 rr l I1 se e q=>?_)) (by rw[Z2 (st _ Yn)];rfl) (by rw[Z2 (st _ Yn)];rfl)));have e:va ts=some rr:=e;unfold va at e
 split at e
 rotate_left
 .cases e
 obtain⟨Tg,e1,e2⟩:=ZP.mp e
 split at e2
 rotate_left
 .cases e2
 rename_i hz
 cases e2;obtain⟨u,rfl,L9⟩:=Tw se;have rn:=I1.rn c hc;obtain⟨f,hm,run⟩:=wk (R:=EP X F j Q) (E:=X.xe) kf (by have:=(c.room hc).dp;show X.A.depth<_;omega) rn.hn I1.ok.mod.kin I1.ok.mod.nolimit (fun b o e=>I1.le b o (I1.ok.b b o e)) rn.fF rn.nL L9 e1 hz.1 hz.2 (I1.ok' l q);exact wpAny_evalAll_cons (Zq (Jl I1 gg2 hm gd2 (Zq (wpAny_standAt (Zt (wpAny_evalAll_nil run))))))
theorem Al{g:Str}{ts:ZZ}{r:Sl}(h:r7 g ts=some r\/r6 g ts=some r):∃z t XY,ts=[.str z]/\Xa g z=some t/\Cg g=some XY/\Zv XY (.inr z)=some t:=by
 rcases h with h | h
 .unfold r7 at h
  split at h
  .obtain⟨t,e,_⟩:=Y3.mp h;obtain⟨XY,e1,e2⟩:=An e;exact⟨_,t,XY,rfl,e,e1,e2⟩
  .cases h
 .unfold r6 at h
  split at h
  .obtain⟨t,e,_⟩:=Y3.mp h;obtain⟨XY,e1,e2⟩:=An e;exact⟨_,t,XY,rfl,e,e1,e2⟩
  .cases h
theorem j9(c:Ct X w k N sc){g:Str}{a:Expr}{q0:Pos}(g1:Gm sc g=true){f:ZQ}(hs:Hs X w true es [a]){F:OM}{p:P}{j:Vs}{s:Shared}{Q:Sl->P->Prop}(I:Inv X F p j s)(h:wE w (.pr (.tin g) es) p Q)(kk:∀F1 p1 s1,Le F F1->Inv X F1 p1 j s1->Q (.f (.bl true)) p1->f (.bool true) s1) :
  WP X (eval a X.env) (fun v s1=>WP X (eval (.Name g q0) X.env) (fun u s2=>WP X (compareOp .In v u) f s2) s1) s :=
 go1 hs I h fun F1 p1 t u s1 r l I1 se e q=>by
  obtain⟨uo,u4⟩:=c.gl' g1;obtain⟨z,t',XY,ez,e1,e2,e3⟩:=Al (.inl (show r7 g [t]=some r from e));cases ez
  have er:r=.f (.bl true):=by
   have e:(Xa g z).map (fun _=>Sl.f (.bl true))=some r:=e;rw[e1]at e;exact(Ms e).symm
  subst er;obtain⟨m,hm,sd⟩:=Lo c e2 I1;exact Jl I1 uo hm u4 ((K4 c.un I1.fh se sd (show K5 (.str z) (.dct XY)=some true by show some (Zv XY (.inr z)).isSome=_;rw[e3];rfl)).1 fun tk=>kk F1 p1 _ l (I1.tok tk) q)
theorem se_tin(c:Ct X w k N sc){g:Str}{x:Expr}{xs:ZM}(hv:jd sc g x=some xs)(hs:Hs X w true es xs):SE w (.pr (.tin g) es) X x:=fun F p j s Q I h=>by
 obtain⟨a,q0,p0,rfl,hm,g1,rfl⟩:=Aq hv;exact wpAny_Compare1 (j9 c g1 hs I h fun F1 p1 s1 l I1 q=>⟨F1,p1,.f (.bl true),l,I1,Top.bl,q⟩) hm
theorem st_tin(c:Ct X w k N sc){g:Str}{x:Expr}{xs:ZM}{wh:Sem Value}(hv:jd sc g x=some xs)(hs:Hs X w true es xs):ST w (.pr (.tin g) es) X x wh:=fun F p j s Q I h=>by
 obtain⟨a,q0,p0,rfl,hm,g1,rfl⟩:=Aq hv;exact wpAny_isTrue_Compare1 (j9 c g1 hs I h fun F1 p1 s1 l I1 q=>wpAny_truthy_bool ⟨F1,p1,l,I1,q⟩) hm
theorem se_tix(c:Ct X w k N sc){g:Str}{x:Expr}{xs:ZM}(hv:tm sc g x=some xs)(hs:Hs X w true es xs)(hne:(Cg g).isSome=true):SE w (.pr (.tix g) es) X x:=fun F p j s Q I h=>by
 obtain⟨q0,b,p0,rfl,g1,hn,rfl⟩:=tf hv;obtain⟨uo,u4⟩:=c.gl' g1;obtain⟨XY,e2⟩:=Option.isSome_iff_exists.mp hne;obtain⟨m,hm,_⟩:=Lo c e2 I;refine Subscript_ (Jl I uo hm u4 (go1 hs I h fun F1 p1 t u s1 r l I1 se e q=>?_));obtain⟨z,t',Zp,ez,e1,e2',e3⟩:=Al (.inr (show r6 g [t]=some r from e));cases ez;rw[e2]at e2';cases e2'
 have er:r=.f t':=by
  have e:(Xa g z).map Sl.f=some r:=e;rw[e1]at e;exact(Ms e).symm
 subst er;obtain⟨m',hm',sd⟩:=Lo c e2 I1;rw[hm]at hm';cases hm';exact y2 I1.fh sd se (show T5 (.dct XY) (.str z)=some t' from e3) (I1.ok' l q) (P5 hn _ _)
theorem n6(c:Ct X w k N sc)(hc:X.calm=true){x:Expr}{xs:ZM}(hv:Am x=some xs)(hs:Hs X w true es xs):SE w (.pr .dnew es) X x:=fun F p j s Q I h=>by
 replace hv:=ja hv
 obtain⟨p0,rfl,hv⟩:=hv;cases hv;cases hs;have h:Q (.o (.dct [])) p:=h;exact wpAny_Dict_empty (I.ep (tk:=s.toks) (.dctN (vs:=[]) (fun _ _ e=>Y4 _ e) (Heap.get?_none_of_le (Gc _)) (Heap.DictOf.new s.heap) (Wz _) (Kx (I.rn c hc).big) .nil) h)
theorem n7(c:Ct X w k N sc)(hc:X.calm=true){x:Expr}{xs:ZM}(hv:Ad x=some xs)(hsA:∀fp h,Ct (X.pin fp h) w k N sc->Hs (X.pin fp h) w true es xs):SE w (.pr .dct1 es) X x:=fun F p j s Q I h=>by
 replace hv:=jo hv
 obtain⟨k0,v0,pp,rfl,hv⟩:=hv;cases hv;have nD:s.heap.get? s.heap.objs.size=none:=Heap.get?_none_of_le (Gc _);have big:=(I.rn c hc).big;have dd:(s.heap.push { cls:=.type "dict",data:=.dict #[] }).DictOf (Zk X.prog X.w) s.heap.objs.size []:=Heap.DictOf.new s.heap;have I1:Inv X F p j { s with heap:=s.heap.push { cls:=.type "dict",data:=.dict #[] } }:=I.kept (t:=s.toks) fun _ _ e=>Y4 _ e;generalize hD:s.heap.objs.size=D at *;have f1:∀b∈[D],Fp X F p j b:=fun b m=>by cases V1.mp m;exact I.isFp nD
 have eD:(s.heap.push { cls:=.type "dict",data:=.dict #[] }).get? D=some { cls:=.type "dict",data:=.dict #[] }:=by rw[<-hD];exact Gb _ rfl
 have ho:∀b∈[D],∃o,(s.heap.push { cls:=.type "dict",data:=.dict #[] }).get? b=some o:=fun b m=>by cases V1.mp m;exact⟨_,eD⟩
 have nk:∀b∈[D],¬ X.kp b:=fun b m=>(f1 b m).k;have I2:=I1.pin f1 ho;have cp:=c.pin I.ok nk ho;refine wpAny_Dict_walk (knd:=Zk X.prog X.w) rfl rfl (fun z=>nomatch z) (by show 1<=15;decide) (pairTrees_cons_walk ?_);refine go2 (X:=X.pin [D] (s.heap.push { cls:=.type "dict",data:=.dict #[] })) (hsA _ _ cp) I2 h fun F1 p1 t t' u v s1 r l J1 L9 E0 e q=>pairTrees_nil_walk ?_;obtain⟨I3,f3,k3⟩:=J1.unpin I.ok nk ho;have e:(if Wl t'=true then none else (Mf t).map fun k=>Sl.o (.dct [(k,t')]))=some r:=e
 split at e
 .cases e
 rename_i hct
 obtain⟨key,e1,rfl⟩:=Y3.mp e;have e3:=k3 D (V1.mpr rfl) _ eD;refine⟨[(key,v)],⟨key_is e1 L9,rfl,trivial⟩,by rw[hD];exact⟨_,_,_,e3,⟨rfl,rfl,rfl⟩,rfl,fun e he=>absurd he (by simp),.nil,List.nodup_nil⟩,fun h' dd' hs=>?_⟩;rw[hD]at dd' hs ⊢;obtain⟨o,N5,ep,g1,g2,g3,g4,g5,g6⟩:=dd';have it:IsT X.toMd F1 t' v:=Ci (by simpa using hct) E0;have fD:=f3 D (V1.mpr rfl);have I4:=I3.turned (fp:=[D]) (h':=h') (tk:=s1.toks+1) f3 (fun b o n e=>(hs.2 b (by simpa using n)).trans e);exact⟨F1,p1,.o (.dct [(key,t')]),l,I4,⟨D,rfl,⟨rfl,fD.n,fD.k,.mkD g1 ⟨g2,⟨N5,ep,g3,g4,g5⟩,g6,by show 1<=sizeLine;decide,B0n.mpr (Ne.symm (Cq big))⟩ (.cons ⟨rfl,it⟩ .nil)⟩,fD.o⟩,q⟩
end
section
variable{X:Cx}{w:W}{k:Nat}{N:ZG}{sc:ZW}{es:E}{a:E}{x:Expr}
theorem se_mt{i:Nat}{y:Str}{p0 ap cp:Pos}(n:Nm X i y)(hs:Hs X w false es [x])(ni:Vy es=true)(hl:(ap.endLine == cp.line)=true):SE w (.mt .append i es) X (.Call (.Attribute (.Name y p0) "append" ap) [x] [] cp):=fun F p j s Q I h=>by
 have h:if ownL p i=true then wR w false es p fun as p1=>on (looks p1 as) fun ts=>match p1[i]? with
   | some (.o t)=>on (mtT .append t ts) fun r=>Q (.f r.2) (p1.set i (.o r.1))
   | _=>False
  else False:=h
 split at h
 rotate_left
 .exact h.elim
 rename_i ho
 obtain⟨b,hb,us0,m0,ho0⟩:∃b:Addr,j[i]?=some (some (.ref b))/\∃us m,s.heap.get? b=some { cls:=.type "list",data:=.seq us m }:=by
  unfold ownL at ho
  split at ho
  .rename_i l q
   obtain⟨b,h1,w1⟩:=I.r.ow i _ q;obtain⟨_,o,us,e,e2,⟨_,m,rfl⟩,_⟩:=w1.t.unL;cases e;exact⟨b,h1,_,m,e2⟩
  .cases ho
 have st:=hs.star;refine wpAny_Call_method_late (Dp rfl _ _ _) (Qz st (by show 1<30;decide)) hl rfl (B4 n I hb ⟨"list","list.append",PySem.F.plainAttrs_list,PySem.F.slot_list_append,PySem.F.type_list_append,⟨_,ho0,rfl⟩,fun a e=>by cases e;exact⟨_,ho0,rfl⟩, ?_⟩)
 have main:WP X (spliced (backTo cp (starEach [x] X.env))) (fun us s2=>WP X (call (.builtin "list.append") (.ref b::us)) (EP X F j Q) s2) s:=Yg st (ay hs I h fun F1 p1 as us s1 l I1 ar nt q=>by
  obtain⟨ts,e,q⟩:=Za q
  split at q
  rotate_left
  .exact q.elim
  rename_i t et
  obtain⟨r,e2,q⟩:=Za q;have at':=Ni (nt rfl ni) ar e;unfold mtT at e2
  split at e2
  rotate_left
  .cases e2
  rename_i l' x'
  split at e2
  rotate_left
  .cases e2
  rename_i hz
  cases e2;obtain⟨u,rfl,it⟩:=Tw at';obtain⟨b',h1,w1⟩:=I1.r.ow i _ et;rw[hb]at h1;cases h1;obtain⟨_,o,vs,e3,e4,⟨z,m,rfl⟩,r⟩:=w1.t.unL;cases e3;refine R2 e4 (by rw[<-r.length];exact hz) fun h' m' kp e5=>?_;exact⟨F1,_,.f .non,l,I1.mut (tk:=s1.toks) et hb (fun b o ne e=>(kp b ne).trans e) rfl (.mkL e5 ⟨by rw[Gn, <-r.length];exact hz,m',rfl⟩ (Ga r (.cons it .nil))),Top.non,q⟩)
 rw[Z2 (st _ Yn)]at main ⊢;exact Calls.callWith_builtin rfl (Calls.evalArgs_plain main)
theorem Ox:∀{ts:ZZ} {i:Nat} (h:i<ts.length),yy ts=true->sy ts[i]=true
 | t::r,0,_,e=>(Xd.mp (show (sy t && yy r)=true from e)).1
 | t::r,i+1,h,e=>Ox (Nat.lt_of_succ_lt_succ h) (Xd.mp (show (sy t && yy r)=true from e)).2
theorem Top.pure{g:Md}{F F' D:OM}{t:T}{v:Value}(hk:∀a o us,F a=some o->Tu o us->F' a=some o)(h:Top g F D t v)(hD:D=F)(n:sy t=true):IsT g F' t v:=by
 induction h with
 | non=>exact .non
 | bl=>exact .bl
 | int=>exact .int
 | str=>exact .str
 | tup h k l e ih=>subst hD;exact .tup (hk _ _ _ h k) k l fun i hi=>ih i hi rfl (Ox hi n)
 | _=>cases n
theorem Z9.pure{g:Md}{F F':OM}{XY:ZX}{vs:List (Key×Value)}(hk:∀a o us,F a=some o->Tu o us->F' a=some o)(n:∀z∈XY,sy z.2=true)(r:Z9 g F XY vs):Z9 g F' XY vs:=by
 induction r with
 | nil=>exact .nil
 | cons h1 _ ih=>exact .cons ⟨h1.1,Top.pure hk h1.2 rfl (n _ Yn)⟩ (ih fun z m=>n z (Vk _ m))
open Classical in
noncomputable def zv(F:OM)(p:P)(j:Vs)(h:Heap):OM:=fun a=>if ∃(i:Nat) (t:T),p[i]?=some (Sl.o t)/\j[i]?=some (some (.ref a)) then h.get? a else F a
open Classical in
noncomputable def B6(F:OM)(p:P)(j:Vs):OM:=fun a=>if ∃(i:Nat) (t:T),p[i]?=some (Sl.o t)/\j[i]?=some (some (.ref a)) then none else F a
theorem F8{p:P}{i:Nat}{s:Sl}(h:(frz p)[i]?=some s):∃s',p[i]?=some s'/\s=frs s':=by
 unfold frz at h;rw[G0m]at h;obtain⟨s',e,rfl⟩:=Y3.mp h;exact⟨s',e,rfl⟩
theorem w4(h:SE w a X x):SE w (.tmp a) X x:=fun F p l s Q I hw=>by
 have hw:wE w a (frz p) fun r _=>on (t7 r) fun r=>Q r p:=hw
 have own:∀{i:Nat} {t:T} {b:Addr},p[i]?=some (Sl.o t)->l[i]?=some (some (.ref b))->Cz X F s.heap b t:=fun {i t b} e e2=>by
  obtain⟨c,h1,w1⟩:=I.r.ow i t e;rw[e2]at h1;cases h1;exact w1
 have fo:∀{i:Nat} {t:T} {b:Addr},p[i]?=some (Sl.o t)->l[i]?=some (some (.ref b))->zv F p l s.heap b=s.heap.get? b:=fun e e2=>if_pos ⟨_,_,e,e2⟩
 have l1:Le F (zv F p l s.heap):=fun b o e=>by
  unfold zv
  split
  .exact I.fh b o e
  .exact e
 have I1:Inv X (zv F p l s.heap) (frz p) l s:=by
  refine I.step rfl I.bare l1 (fun b o e=>?_) (fun _ _ _ _ e=>.same e) (fun _ hn=>hn) ⟨fun i t e=>?_,fun i t e=>?_,fun i j t u b e _ _ _=>?_,by unfold frz;rw[Zu];exact I.r.ln⟩
  .unfold zv at e
   split at e
   .rename_i z
    obtain⟨i,t,z1,z2⟩:=z;exact⟨e,(own z1 z2).k⟩
   .exact I.f b o e
  .obtain⟨s',e1,e2⟩:=F8 e;cases s' with
   | no=>cases e2
   | f u =>
    cases e2;obtain⟨v,h1,h2⟩:=I.r.fz i _ e1;exact⟨v,h1,h2.up l1⟩
   | o u =>
    cases e2;obtain⟨b,h1,w1⟩:=I.r.ow i _ e1;exact⟨_,h1,(w1.t.to (D':=zv F p l s.heap) w1.c fun o q=>(fo e1 h1).trans q).up l1 fun _ _ e=>e⟩
  .obtain⟨s',e1,e2⟩:=F8 e;cases s'<;>cases e2
  .obtain⟨s',e1,e2⟩:=F8 e;cases s'<;>cases e2
 refine Yr (h _ _ l s _ I1 hw) fun v s2 ⟨F2,p2,r,l2,I2,rs,q⟩=>?_;obtain⟨r',e,q⟩:=Za q;have keep:∀{i:Nat} {t:T} {b:Addr} {o:Obj},p[i]?=some (Sl.o t)->l[i]?=some (some (.ref b))->s.heap.get? b=some o->F2 b=some o:=fun e1 e2 e3=>l2 _ _ ((fo e1 e2).trans e3)
 have l3:Le F (B6 F2 p l):=fun b o e=>by
  unfold B6
  split
  .rename_i z
   obtain⟨i,t,z1,z2⟩:=z;rw[(own z1 z2).f]at e;cases e
  .exact l2 _ _ (l1 _ _ e)
 have I3:Inv X (B6 F2 p l) p l s2:=by
  refine⟨I2.ok,I2.os,I2.bare,I.le.trans l3,fun b o e=>?_,I2.g,I2.fr,I2.ns,I2.cell,I2.len,⟨fun i t e=>?_,fun i t e=>?_,I.r.ap,I.r.ln⟩,I2.pr⟩
  .unfold B6 at e
   split at e
   .cases e
   .exact I2.f b o e
  .obtain⟨v,h1,h2⟩:=I.r.fz i t e;exact⟨v,h1,h2.up l3⟩
  .obtain⟨b,h1,w1⟩:=I.r.ow i t e;exact⟨b,h1,w1.to l3 (if_pos ⟨i,t,e,h1⟩) fun o q=>I2.fh b o (keep e h1 q)⟩
 have hk:∀b o us,F2 b=some o->Tu o us->B6 F2 p l b=some o:=fun b o us e k=>by
  unfold B6
  split
  .rename_i z
   obtain⟨i,t,z1,z2⟩:=z;have w1:=own z1 z2;obtain⟨o',e1⟩:=w1.at;have e2:=keep z1 z2 e1;rw[e]at e2;cases e2;have hc:=w1.c;have ht:=w1.t;cases t with
   | lst ts =>
    obtain⟨_,o',us',q1,q2,⟨_,m,rfl⟩,_⟩:=ht.unL;cases q1;rw[e1]at q2;cases q2;exact absurd k.c (by simp)
   | dct ts =>
    obtain⟨_,o',us',q1,q2,k',_⟩:=ht.unD;cases q1;rw[e1]at q2;cases q2;obtain⟨N5,ep,d,_⟩:=k'.es;obtain⟨m,d'⟩:=k.s;rw[d]at d';cases d'
   | _=>cases hc
  .exact e
 unfold t7 at e
 split at e
 .split at e
  .rename_i t n
   cases e;exact⟨_,p,.f t,l3,I3,Top.pure hk rs rfl n,q⟩
  .cases e
 .split at e
  .rename_i t XY
   split at e
   .rename_i n
    cases e;obtain⟨b,rfl,w1,nn⟩:=rs;obtain⟨_,o,vs,q1,q2,k',r⟩:=w1.t.unD;cases q1
    have f3:B6 F2 p l b=none:=by
     unfold B6
     split
     .rfl
     .exact w1.f
    refine⟨_,p,.o (.dct XY),l3,I3,⟨b,rfl,⟨rfl,f3,w1.k,.mkD q2 k' ?_⟩,fun i u e1 e2=>?_⟩,q⟩
    .exact Z9.pure hk (tj.mp n) r
    .obtain⟨o',e3⟩:=(own e1 e2).at;have:=keep e1 e2 e3;rw[w1.f]at this;cases this
   .cases e
  .cases e
 .cases e
theorem Top.nb{g:Md}{F D:OM}{t:T}{v:Value}(h:Top g F D t v):∀i,v≠.builtin i:=fun i z=>by
 subst z;cases h
theorem w6(bn:BN X.toMd){f:Str}{o:Expr}{pos:Pos}(hn:Yb o=true)(hs:Hs X w true es [o])(ne:f ≠ ""):SE w (.pr (.fld f) es) X (.Attribute o f pos):=fun F p j s Q I h =>
 a9 (Dp hn _ _ _) (go1 hs I h fun F1 p1 t u s1 r l I1 se e0 q=>by
  have e:pFld f [t]=some r:=e0
  clear e0
  unfold pFld at e
  split at e
  rotate_left
  .cases e
  rename_i c t' et
  cases et
  split at e
  rotate_left
  .cases e
  rename_i hc
  cases e;have se:Top X.toMd F1 F1 (.exn c t') u:=se;cases se with | exn h1 h2 h3 =>
  obtain⟨C,hcl,hm⟩:=h2.cl;obtain⟨vs,hd,_⟩:=h2.fs;obtain⟨d,od,m,e1,e2,e3,e4⟩:=h2.dc
  obtain⟨D,C',fi,xf,ec,ef⟩:∃D C' fi,XF X.toMd D C' fi/\D.c=c/\D.fld=f:=by
   cases z:D3.find? fun x=>decide (x.c=c) with
   | none =>
    exfalso
    unfold xw at hc;rw[z]at hc;exact ne hc.symm
   | some D =>
    obtain⟨C',fi,xf⟩:=bn.x D (List.mem_of_find?_eq_some z);have:=List.find?_some z;unfold xw at hc;rw[z]at hc;exact⟨D,C',fi,xf,R6 this,hc⟩
  subst ef;have xm:=xf.m;rw[ec,hm]at xm;cases xm;exact EX.get_at (xf.c.getOk I1.kIn xf.no) (I1.fh _ _ h1) hcl e1 hd (e3 _ (I1.fh _ _ e2)) (by rw[<-hc];exact e4) h3.nb ⟨F1,p1,.f t',l,I1.tok _,h3,q⟩)
end
section
variable{X:Cx}{w:W}{k:Nat}{N:ZG}{sc:ZW}{F F':OM}{p:P}{l:Vs}{s s':Shared}
theorem fld_of:∀d∈D3,xw d.c=d.fld:=by decide
theorem aq{c:Str}(h:(D3.any fun d=>decide (d.c=c))=true):∃d∈D3,d.c=c:=let ⟨d,m,e⟩:=ZO.mp h;⟨d,m,R6 e⟩
theorem cw(cc:Ct X w k N sc)(hc:X.calm=true){c:Str}{a:E}{x:Expr}{q pos pos':Pos}(hg:Gm sc c=true)(hx:(D3.any fun d=>decide (d.c=c))=true)(h:SE w a X x)(hs:noStar x=true):SS w (.rais c a) X (.Raise (some (.Call (.Name c q) [x] [] pos)) none pos'):=fun F p l s D I hw=>by
 obtain⟨d,md,rfl⟩:=aq hx;obtain⟨C,fi,xf⟩:=cc.bn.x d md;obtain⟨gg,gd⟩:=cc.gl' hg;rw[arm_exec_Raise];refine Zq (wpAny_standAt (EX.vm (I.ok.hd hc) (Zq (wpAny_Call_Name_kw (Jl I gg xf.m gd ?_)))));have st:∀y∈[x],noStar y=true:=fun y m=>by cases V1.mp m;exact hs
 refine PySem.W.callWith_K (h₀:=X.base) I.ok.mod.kin xf.kp (Yg st ?_) (Z2 hs) rfl;refine(show Tq X [x] _ s from Yr (h F p l s _ I hw) fun v s1 z=>?_);obtain⟨F1,p1,t,l1,I1,it,z⟩:=EP.t (K:=fun t q=>w.xe (d.c,t) q) z;refine⟨I1.kIn,px xf (fld_of d md) I1 (by have:=(cc.room hc).dp;omega) it fun F2 s2 e o vs l2 I2 x2 he hcl hd hv=>Zq (wpAny_standAt (Zt ?_))⟩;exact⟨e,C,o,vs,rfl,he,hcl,hd,hv,PySem.W.looks_mroIn I2.kIn xf.c.be,PySem.W.looks_typeIn I2.kIn xf.c.ty,cc.xe F2 p1 l s2 e d.c t I2 x2 z⟩
noncomputable def Cx.tr(X:Cx)(F:OM)(E:ZQ):Cx:={ X with F0:=F,xe:=E }
noncomputable def Cx.ec(X:Cx)(e:Addr):Cx:={ X with A:=X.A.mark (some (.ref e)),calm:=false,xe:=fun _ _=>False }
theorem Inv.toTr{E:ZQ}(I:Inv X F p l s):Inv (X.tr F E) F p l s :=
 ⟨⟨I.ok.mod,I.ok.kind,I.ok.gl,I.ok.bl,I.ok.ab,I.ok.inj,I.ok.has,I.ok.hd,I.ok.frames,I.ok.stk,fun a o e=>I.le a o (I.ok.b a o e),I.ok.fg,I.ok.gm,I.ok.cg⟩,I.os,I.bare,.refl F,I.f,I.g,I.fr,I.ns,I.cell,I.len,⟨I.r.fz,fun i t e=>let ⟨a,h,w⟩:=I.r.ow i t e;⟨a,h,w.c,w.f,w.k,w.t⟩,I.r.ap,I.r.ln⟩,I.pr⟩
theorem Inv.ofTr{E:ZQ}(ok:X.Ok)(l0:Le X.F0 F)(J:Inv (X.tr F E) F' p l s):Inv X F' p l s :=
 ⟨ok,J.os,J.bare,l0.trans J.le,J.f,J.g,J.fr,J.ns,J.cell,J.len,⟨J.r.fz,fun i t e=>let ⟨a,h,w⟩:=J.r.ow i t e;⟨a,h,w.c,w.f,w.k,w.t⟩,J.r.ap,J.r.ln⟩,J.pr⟩
theorem Inv.toEc{e:Addr}(I:Inv X F p l s):Inv (X.ec e) F p l s :=
 ⟨⟨I.ok.mod,I.ok.kind,I.ok.gl,I.ok.bl,I.ok.ab,I.ok.inj,I.ok.has,(fun z=>nomatch z),I.ok.frames,I.ok.stk,I.ok.b,I.ok.fg,I.ok.gm,I.ok.cg⟩,I.os,I.bare,I.le,I.f,I.g,I.fr,I.ns,I.cell,I.len,⟨I.r.fz,fun i t e=>let ⟨a,h,w⟩:=I.r.ow i t e;⟨a,h,w.c,w.f,w.k,w.t⟩,I.r.ap,I.r.ln⟩,I.pr⟩
theorem Inv.ofEc{e:Addr}(ok:X.Ok)(I:Inv (X.ec e) F p l s):Inv X F p l s :=
 ⟨ok,I.os,I.bare,I.le,I.f,I.g,I.fr,I.ns,I.cell,I.len,⟨I.r.fz,fun i t e=>let ⟨a,h,w⟩:=I.r.ow i t e;⟨a,h,w.c,w.f,w.k,w.t⟩,I.r.ap,I.r.ln⟩,I.pr⟩
theorem Ct.tr{E:ZQ}{w':W}(c:Ct X w k N sc)(e1:w'.C=w.C)(e2:w'.gl=w.gl)(hx:qw (X.tr F E) w'):Ct (X.tr F E) w' k N sc :=
 ⟨c.nN,c.nd,c.nm,c.room,c.un,c.gd,c.bn,by rw[e1];exact c.fn,by rw[e2];exact c.gl,hx,c.cl,c.calm⟩
theorem ua{M:Model}{A:Around}{E:ZQ}{i:Nat}{n:Str}{pos:Pos}{Q:ZH}(I:Inv X F p l s)(hN:X.N.Nodup)(hi:X.N[i]?=some n)(hk:X.env.kindOf n=some .local)(hp:X.pt i=false)
  (h:∀s' σ',Inv X F (p.set i .no) σ' s'->(∀r v,Res X F p l s.heap r v->Res X F (p.set i .no) σ' s'.heap r v)->Q () s'):wpAny M A (do bindName X.env n .none;unbindBehindTheSuite X.env n pos) Q E s:=by
 obtain⟨m,hn,hl⟩:=id I.ns;have hcls:(X.env.scope.kind == .class || (X.env.scope.kind == .module && X.env.locals != X.env.globals))=false:=by rw[I.ok.kind];rfl
 have hiσ:i<l.length:=by rw[I.len];exact(dw.mp hi).1
 refine wpAny_nameGoes_keeps hk hn hcls fun h' v hn' hs=>?_;have ne:∀{b:Addr},¬ X.kp b->b≠X.env.locals:=fun n z=>n (z ▸ .inr (.inl rfl));have ka:X.G X.env.locals=none:=I.ok.gm _ (.inl rfl)
 have get:∀{j:Nat} {v:ZF},(l.set i none)[j]?=some v->(j=i/\v=none)\/(j≠i/\l[j]?=some v):=fun {j v} e=>by
  by_cases q:i=j
  .subst q;rw[List.getElem?_set_self hiσ]at e;cases e;exact .inl ⟨rfl,rfl⟩
  .rw[List.getElem?_set_ne q]at e;exact .inr ⟨fun z=>q z.symm,e⟩
 have old:∀{j:Nat} {u:Sl},(p.set i .no)[j]?=some u->u≠.no->p[j]?=some u/\(l.set i none)[j]?=l[j]?:=fun {j u} e n=>by
  rcases Yq e with ⟨_,z⟩ | ⟨n,e⟩
  .exact absurd z n
  .exact⟨e,List.getElem?_set_ne (Ne.symm n)⟩
 refine h _ (l.set i none) ⟨I.ok,I.os,I.bare,I.le,fun b o e=>?_,fun b o e=>?_,Uz (fun b hb o e=>⟨o.slots,(hs.2 b fun z=>I.ok.fg b hb (z ▸ ka)).trans e⟩) I.fr,⟨_,hn',fun j y v' e1 e2=>?_⟩,fun y c e=>?_,by rw[XX];exact I.len,⟨fun j t e=>?_,fun j t e=>?_,fun j k t u a e1 e2 h1 h2=>?_,by rw[XX,XX];exact I.r.ln⟩,fun j hj=>?_⟩ fun r v rs=>?_
 .obtain⟨h1,h2⟩:=I.f b o e;exact⟨(hs.2 b (ne h2)).trans h1,h2⟩
 .obtain⟨sl,e1,n1⟩:=I.g b o e;exact⟨sl,(hs.2 b fun z=>by rw[z,ka]at e;cases e).trans e1,n1⟩
 .rcases get e2 with ⟨_,z⟩ | ⟨nj,e2⟩
  .cases z
  .rcases hl j y v' e1 e2 with ⟨k,e⟩ | ⟨k,c,e,z⟩
   .have:y≠n:=fun e=>nj (M5 hN e1 (e ▸ hi));exact .inl ⟨k,by simp[this,e]⟩
   .exact .inr ⟨k,c,e,z.sameBut hs (I.cne e)⟩
 .obtain⟨v',z⟩:=I.cell y c e;exact⟨v',z.sameBut hs (I.cne e)⟩
 .obtain⟨e,es⟩:=old e fun z=>nomatch z;rw[es];exact I.r.fz j t e
 .obtain⟨e,es⟩:=old e fun z=>nomatch z;rw[es];obtain⟨a,h1,w1⟩:=I.r.ow j t e;exact⟨a,h1,w1.to (.refl F) w1.f fun x q=>(hs.2 a (ne w1.k)).trans q⟩
 .obtain⟨e1,Rb⟩:=old e1 fun z=>nomatch z;obtain⟨e2,es2⟩:=old e2 fun z=>nomatch z;rw[Rb]at h1;rw[es2]at h2;exact I.r.ap j k t u a e1 e2 h1 h2
 .rw[List.getElem?_set_ne fun z=>by rw[z,hj]at hp;cases hp];exact I.pr j hj
 .cases r with
  | no=>exact rs
  | f t=>exact rs
  | o t =>
   obtain⟨a,rfl,w1,n1⟩:=rs;refine⟨a,rfl,w1.to (.refl F) w1.f fun x q=>(hs.2 a (ne w1.k)).trans q,fun j u e=>?_⟩;obtain⟨e,es⟩:=old e fun z=>nomatch z;rw[es];exact n1 j u e
theorem Res.tr{E:ZQ}{h:Heap}{r:Sl}{v:Value}(rs:Res (X.tr F E) F' p l h r v):Res X F' p l h r v:=by
 cases r with
 | no=>exact rs
 | f t=>exact rs
 | o t=>obtain⟨a,e,w1,n⟩:=rs;exact⟨a,e,⟨w1.c,w1.f,w1.k,w1.t⟩,n⟩
theorem Res.ec{e:Addr}{h:Heap}{r:Sl}{v:Value}(rs:Res (X.ec e) F' p l h r v):Res X F' p l h r v:=by
 cases r with
 | no=>exact rs
 | f t=>exact rs
 | o t=>obtain⟨a,e,w1,n⟩:=rs;exact⟨a,e,⟨w1.c,w1.f,w1.k,w1.t⟩,n⟩
theorem ss_tri(cc:Ct X w k N sc)(hc:X.calm=true)(G7:X.stack=X.env::X.outer)(Dt:X.env.frame=some X.env.locals){c n:Str}{i:Nat}{b hS:S}{b₀:Stmt}{body suite:List Stmt}{q hp pos:Pos}
  (hg:Gm sc c=true) (hcat:xl.contains c=true) (hi:N[i]?=some n) (hl:sc.lookup n=some .local)
  (hb:∀(F:OM) (E:ZQ) (w':W),Ct (X.tr F E) w' k N sc->SB w' b (X.tr F E) body) (hh:∀e,SB w hS (X.ec e) (b₀::suite)) :
  SS w (.tri b c (some i) hS) X (.Try body [.ExceptHandler (some (.Name c q)) (some n) (b₀::suite) hp] [] [] pos):=fun F p l s D I hw=>by
 have hw:if X.pt i=true then False else wS ⟨w.C,w.gl,fun e q=>if Pt e.1 c=true then wS w X.pt hS (q.set i (.f (.exn e.1 e.2))) (D.un (some i)) else False⟩ X.pt b p D:=hw
 split at hw
 .exact hw.elim
 rename_i hpi
 have hpi:X.pt i=false:=by simpa using hpi
 obtain⟨D0,hm,dc,dm⟩:=cc.bn.h c (by simpa using hcat);obtain⟨gg,gd⟩:=cc.gl' hg
 have hk:X.env.kindOf n=some .local:=by
  rcases cc.nm n _ hl with z | ⟨z,_⟩
  .exact z
  .cases z
 have K6:X.N[i]?=some n:=by rw[cc.nN];exact hi
 have hN:X.N.Nodup:=by rw[cc.nN];exact cc.nd
 generalize hW:(⟨w.C,w.gl,fun e q=>if Pt e.1 c=true then wS w X.pt hS (q.set i (.f (.exn e.1 e.2))) (D.un (some i)) else False⟩:W)=w' at hw;have hx:qw (X.tr F fun v s'=>∃F' p' σ' e c' t,v=.ref e/\Le F F'/\Inv X F' p' σ' s'/\iw X F' s'.heap e c' t/\w'.xe (c',t) p') w':=fun F' p' σ' s' e c' t J x z=>⟨F',p',σ',e,c',t,rfl,J.le,J.ofTr I.ok I.le,⟨x.f,x.k,x.ex⟩,z⟩;refine wpAny_Try_except (wpAny_mono (hb F _ w' (cc.tr (by rw[<-hW]) (by rw[<-hW]) hx) F p l s D I.toTr hw) (fun f s1 ⟨F1,p1,σ1,l1,J,fo⟩=>?_) fun v s1 ⟨F1,p1,σ1,e,c',t,ev,l1,I1,x1,z⟩=>?_)
 .have I1:=J.ofTr I.ok I.le;cases f with
  | next=>exact wpAny_execs_nil ⟨F1,p1,σ1,l1,I1,fo⟩
  | ret u=>obtain⟨r,rs,fo⟩:=fo;exact⟨F1,p1,σ1,l1,I1,r,rs.tr,fo⟩
  | brk=>exact⟨F1,p1,σ1,l1,I1,fo⟩
  | cont=>exact⟨F1,p1,σ1,l1,I1,fo⟩
 .subst ev hW;have z:if Pt c' c=true then wS w X.pt hS (p1.set i (.f (.exn c' t))) (D.un (some i)) else False:=z
  split at z
  rotate_left
  .exact z.elim
  rename_i kg
  obtain⟨o,u,vs,he,hx2,it,hd,qv⟩:=x1.ex;have fr:X.A.frames=some (X.env::X.outer):=by rw[I1.ok.frames,G7]
  have hl':s1.heap.FunFrames X.base (X.env::X.outer):=by rw[<-G7];exact I1.stack
  refine EX.P9 fr hl' Dt he hd qv fun g1 T' N'=>?_
  have Ih:1<vs.size:=by
   obtain⟨vs',e1,e2⟩:=hx2.fs;rw[hd]at e1;cases e1;omega
  have v1:(vs.setIfInBounds 1 (.ref T'))[1]?=some (.ref T'):=by simp[Ih]
  obtain⟨oT,ts,hT,z8,hz3⟩:=N'.tb;have hx3:=hx2.tb (v:=.ref T');refine EX.Ry (s:={ s1 with heap:=g1 }) N'.exc (Obj.data_mapFields hd _) v1 hT z8 hz3 fun g2 k2 tb2=>?_;have I2:Inv X F1 p1 σ1 { s1 with heap:=g2 }:=I1.noted (T':=T') x1.f x1.k he hd (by rw[G7];exact N') k2;have nT:e≠T':=fun z=>Nat.lt_irrefl _ (N0l (Jw (z ▸ he)) N'.new);have e2:=(k2 e nT).trans N'.exc;obtain⟨C,hcl,hmC⟩:=hx3.cl
  obtain⟨d,md,dc'⟩:∃d∈D3,d.c=c':=by
   unfold Pt at kg
   split at kg
   .rename_i q
    exact⟨_,List.mem_of_find?_eq_some q,R6 (List.find?_some (p:=fun x:qf=>decide (x.c=c')) q)⟩
   .cases kg
  have hm1:=dm d md C (by rw[dc'];exact hmC);rw[dc',kg]at hm1;refine EX.z9 (D:=D0) (C:=C) (Jl (X:=X.ec e) I2.toEc gg hm gd ⟨rfl,PySem.W.looks_typeIn I2.kIn dc.ty,Ki I2.kIn dc.here,PySem.W.looks_mroIn I2.kIn dc.be,EX.Dv e2 hcl,PySem.W.looks_mroIn I2.kIn hm1, ?_⟩);obtain⟨oT',ts',qm,hdT',R7⟩:=tb2;refine EX.Ry (s:={ s1 with heap:=g2 }) e2 (Obj.data_mapFields hd _) v1 qm hdT' R7 fun g3 k3 _=>?_;have I3:Inv X F1 p1 σ1 { s1 with heap:=g3 }:=I2.turned (fp:=[T']) (h':=g3) (tk:=s1.toks) (fun b m=>by cases V1.mp m;exact I1.isFp (Heap.get?_none_of_le N'.new)) (fun b o m q=>(k3 b (by simpa using m)).trans q);have e3:=(k3 e nT).trans e2;have l3:Le F1 (F1.put e (o.mapFields (·.setIfInBounds 1 (.ref T')))):=.put x1.f
  have I4:Inv X (F1.put e (o.mapFields (·.setIfInBounds 1 (.ref T')))) p1 σ1 { s1 with heap:=g3 }:=by
   refine I3.step rfl I3.bare l3 (fun b x q=>?_) (fun _ _ _ _ e=>.same e) (fun _ hn=>hn) (I3.r.to l3 fun j t' b h1 h2=>⟨?_,fun _ e=>e⟩)
   .by_cases z:b=e
    .subst z;rw[Gu]at q;cases q;exact⟨e3,x1.k⟩
    .rw[Gh z]at q;exact I3.f b x q
   .obtain⟨b',q1,w1⟩:=I3.r.ow j t' h1;rw[h2]at q1;cases q1;rw[Gh (w1.neX e3 (Obj.data_mapFields hd _))];exact w1.f
  refine Cb (X:=X.ec e) I4.toEc hN K6 (.inl hk) hpi (r:=.f (.exn c' t)) (Top.exn Gu (hx3.up l3) (it.up l3)) fun s4 I5=>?_;refine wpAny_mono (hh e _ _ _ s4 (D.un (some i)) I5 z) (fun f s5 ⟨F5,p5,σ5,l5,J5,fo⟩=>?_) fun _ _ z=>z;refine ua (J5.ofEc I.ok) hN K6 hk hpi fun s6 σ6 I6 rr=>?_;have ll:=l1.trans (l3.trans l5);cases f with
  | next=>exact⟨F5,_,σ6,ll,I6,fo⟩
  | ret u=>obtain⟨r,rs,fo⟩:=fo;exact⟨F5,_,σ6,ll,I6,r,rr r u rs.ec,fo⟩
  | brk=>exact⟨F5,_,σ6,ll,I6,fo⟩
  | cont=>exact⟨F5,_,σ6,ll,I6,fo⟩
end
noncomputable def S6(x:Expr):Option (ZM):=match Tx x with
 | .lst xs=>some xs
 | _=>none
noncomputable def Mx(op:BoolOp)(z:Expr):Option (Expr×Expr×ZM×Pos):=match Tx z with
 | .boo o (x::y::r) pos=>if o=op then some (x,y,r,pos) else none
 | _=>none
noncomputable def R1(z:Expr):Option Expr:=match Tx z with
 | .un o x=>if o=.Not then some x else none
 | _=>none
noncomputable def og(z:Expr):Option (Expr×Expr×Expr):=match Tx z with
 | .ife c a b=>some (c,a,b)
 | _=>none
def Mz:Expr->Option (Str×ZM):=El
noncomputable def Xk(z:Expr):Option (Str×Str×ZM):=match Tx z with
 | .callA o m ap xs cp=>(match U6 o with
  | some y=>if (ap.endLine == cp.line)=true then some (y,m,xs) else none
  | none=>none)
 | _=>none
noncomputable def Xg(z:Expr):Option (Expr×Expr×Expr×ZM×Scope):=match Tx z with
 | .lc elt [⟨t,iter,ifs,0⟩] scope=>some (elt,t,iter,ifs,scope)
 | _=>none
noncomputable def oj(x:Expr):Option (Str×Expr):=match Tx x with
 | .callA o m ap xs cp=>if xs.isEmpty=true/\Yb o=true/\(ap.endLine == cp.line)=true then some (m,o) else none
 | _=>none
noncomputable def plainT:Expr->Bool
 | .UnaryOp .Not _ _=>false
 | .BoolOp _ _ _=>false
 | .IfExp _ _ _ _=>false
 | .Compare _ _ _ _=>false
 | _=>true
def Bw:Expr->Bool
 | .Set _ _ _=>false
 | _=>true
def isApp:Mt->Bool
 | .append=>true
 | _=>false
def y7:E->Bool
 | .and _ _=>true
 | _=>false
def Zzz:E->Bool
 | .or _ _=>true
 | _=>false
noncomputable def B0:E->Expr->Bool
 | .and a b,x=>match Mx .And x with
  | some (x0,y,r,pos)=>B0 a x0 && (if r.isEmpty then B0 b y else B0 b (.BoolOp .And (y::r) pos) && y7 b)
  | none=>false
 | .or a b,x=>match Mx .Or x with
  | some (x0,y,r,pos)=>B0 a x0 && (if r.isEmpty then B0 b y else B0 b (.BoolOp .Or (y::r) pos) && Zzz b)
  | none=>false
 | .not a,x=>match R1 x with
  | some y=>B0 a y
  | none=>false
 | .pr (.cm _) _,_=>true
 | .pr (.c2 _ _) _,_=>true
 | _,x=>plainT x
noncomputable def v7:Pr->Bool
 | .tix g=>(Cg g).isSome
 | .fld f=>!decide (f = "")
 | _=>true
noncomputable def ikN:Ik->Str
 | .rng => "range"
 | .zip => "zip"
 | .vls => "values"
 | .its => "items"
def ikL:Ik->Nat
 | .zip=>2
 | _=>1
def ikV:Ik->Bool
 | .vls=>true
 | .its=>true
 | _=>false
def uc:Ik->Expr->Bool
 | .rng,_=>true
 | .vls,_=>true
 | _,t=>isTup t
noncomputable def conK:T->Const->Bool
 | .int i,.int j=>i == j
 | .str i,.str j=>i == j
 | .bl i,.bool j=>i == j
 | .non,.none=>true
 | _,_=>false
def cnst:Expr->Option Const
 | .Constant c _ _=>some c
 | _=>none
noncomputable def vf(t:T)(x:Expr):Bool:=match cnst x with
 | some c=>conK t c
 | none=>false
mutual
noncomputable def rep:Bool->ZG->Scope->E->Expr->Bool
 | _,N,sc,.v i,x=>match U6 x with
  | some y=>Gk N sc.names i y
  | none=>false
 | _,N,sc,.mv i,x=>match U6 x with
  | some y=>Gk N sc.names i y
  | none=>false
 | _,_,_,.k t,x=>vf t x
 | _,_,sc,.g g,x=>match U6 x with
  | some y=>g == y && Gm sc.names y
  | none=>false
 | tp,N,sc,.tup es,x=>match R0 x with
  | some xs=>Vy es && Vi tp N sc es xs
  | none=>false
 | tp,N,sc,.lst es,x=>match S6 x with
  | some xs=>Vy es && Vi tp N sc es xs
  | none=>false
 | tp,N,sc,.pr q es,x=>match view sc.names q x with
  | some xs=>Vy es && quiet q es && v7 q && Vi tp N sc es xs
  | none=>false
 | tp,N,sc,.and a b,x=>match Mx .And x with
  | some (x0,y,r,pos)=>rep tp N sc a x0 && (if r.isEmpty then rep tp N sc b y else rep tp N sc b (.BoolOp .And (y::r) pos))
  | none=>false
 | tp,N,sc,.or a b,x=>match Mx .Or x with
  | some (x0,y,r,pos)=>rep tp N sc a x0 && (if r.isEmpty then rep tp N sc b y else rep tp N sc b (.BoolOp .Or (y::r) pos))
  | none=>false
 | tp,N,sc,.not a,x=>match R1 x with
  | some y=>rep tp N sc a y
  | none=>false
 | tp,N,sc,.ite c a b,x=>match og x with
  | some (z,x0,y)=>rep tp N sc c z && B0 c z && rep tp N sc a x0 && rep tp N sc b y
  | none=>false
 | tp,N,sc,.call f es,x=>match Mz x with
  | some (g,xs)=>f == g && Dz.contains f && Gm sc.names g && !xs.isEmpty && Vi tp N sc es xs
  | none=>false
 | tp,N,sc,.cal i es,x=>match Mz x with
  | some (g,xs)=>Gk N sc.names i g && !xs.isEmpty && Vy es && Vi tp N sc es xs
  | none=>false
 | tp,N,sc,.mt m i es,x=>match Xk x with
  | some (y,n,xs)=>n == "append" && isApp m && Gk N sc.names i y && Vy es && Vi tp N sc es xs && decide (xs.length=1)
  | none=>false
 | tp,N,sc,.comp tg it c el fr ns,x=>match Xg x with
  | some (elt,t,iter,ifs,scope)=>tp && P1 tp N sc t it iter && Wv sc scope && Js N scope.names ns fr && decide ns.Nodup && Jm (fun i=>(fr[i]?).join.isSome) tg && Bw iter && Jt ns scope.names tg t
   && (if isNil c then ifs.isEmpty else (match ifs with
    | [z]=>rep false ns scope c z && B0 c z
    | _=>false)) && rep false ns scope el elt
  | none=>false
 | tp,N,sc,.tmp a,x=>rep tp N sc a x
 | _,_,_,_,_=>false
noncomputable def P1:Bool->ZG->Scope->Expr->E->Expr->Bool
 | tp,N,sc,t,.itr q es,x=>match Mz x with
  | some (f,xs)=>f == ikN q && !ikV q && Gm sc.names f && uc q t && decide (xs.length=ikL q) && Vy es && Vi tp N sc es xs
  | none=>(match oj x with
   | some y=>y.1 == ikN q && ikV q && uc q t && Vy es && Vi tp N sc es [y.2]
   | none=>false)
 | tp,N,sc,_,.v i,x=>match U6 x with
  | some y=>Gk N sc.names i y
  | none=>false
 | tp,N,sc,_,.pr q es,x=>match view sc.names q x with
  | some xs=>Vy es && quiet q es && v7 q && Vi tp N sc es xs
  | none=>false
 | tp,N,sc,_,.call f es,x=>match Mz x with
  | some (g,xs)=>f == g && Dz.contains f && Gm sc.names g && !xs.isEmpty && Vi tp N sc es xs
  | none=>false
 | tp,N,sc,_,.lst es,x=>match S6 x with
  | some xs=>Vy es && Vi tp N sc es xs
  | none=>false
 | tp,N,sc,_,.tup es,x=>match R0 x with
  | some xs=>Vy es && Vi tp N sc es xs
  | none=>false
 | _,_,_,_,_,_=>false
noncomputable def Vi:Bool->ZG->Scope->E->ZM->Bool
 | _,_,_,.nil,[]=>true
 | tp,N,sc,.cons a r,x::xs=>noStar x && (match a with
  | .io i=>(match U6 x with
   | some y=>Gk N sc.names i y
   | none=>false)
  | _=>rep tp N sc a x) && Vi tp N sc r xs
 | _,_,_,_,_=>false
end
theorem C2{x:Expr}{env:Env}(h:plainT x=true):∀whole,isTrue x env whole=(do let v <-whole;standAt x.pos;holding [v] (truthy v)):=by
 intro wh;cases x<;>first | rfl | cases h | (rename_i op _ _;cases op<;>first | rfl | cases h)
theorem G2{x:Expr}{env:Env}(h:Bw x=true):∀v,foldedSetIterable x env v=pure v:=by
 intro v;cases x<;>first | rfl | cases h
theorem mj{x:Expr}{y:ZM}(h:S6 x=some y):∃pos,x=.List y pos:=by
 unfold S6 at h
 split at h
 .rename_i e;cases h;exact Ze e
 .cases h
theorem mh{op:BoolOp}{x x0 y:Expr}{r:ZM}{pos:Pos}(h:Mx op x=some (x0,y,r,pos)):x=.BoolOp op (x0::y::r) pos:=by
 unfold Mx at h
 split at h
 .rename_i e'
  split at h
  .rename_i e;cases h;rw[<-e];exact Ze e'
  .cases h
 .cases h
theorem S5{x y:Expr}(h:R1 x=some y):∃pos,x=.UnaryOp .Not y pos:=by
 unfold R1 at h
 split at h
 .rename_i e'
  split at h
  .rename_i e;cases h;rw[<-e];exact Ze e'
  .cases h
 .cases h
theorem oy{x a b c:Expr}(h:og x=some (c,a,b)):∃pos,x=.IfExp c a b pos:=by
 unfold og at h
 split at h
 .rename_i e;cases h;exact Ze e
 .cases h
theorem b9{x:Expr}{y m:Str}{xs:ZM}(h:Xk x=some (y,m,xs)):∃p ap cp,x=.Call (.Attribute (.Name y p) m ap) xs [] cp/\(ap.endLine == cp.line)=true:=by
 unfold Xk at h
 split at h
 .rename_i e
  split at h
  .rename_i e'
   obtain⟨p,rfl⟩:=Vz e'
   split at h
   .rename_i z;cases h;exact⟨p,_,_,Ze e,z⟩
   .cases h
  .cases h
 .cases h
theorem oq{x:Expr}{y:Str×Expr}(h:oj x=some y):∃ap cp,x=.Call (.Attribute y.2 y.1 ap) [] [] cp/\Yb y.2=true/\(ap.endLine == cp.line)=true:=by
 unfold oj at h
 split at h
 .rename_i e
  split at h
  .rename_i z
   cases h;obtain⟨z1,z2,z3⟩:=z;have:=Ze e;cases List.isEmpty_iff.mp z1;exact⟨_,_,this,z2,z3⟩
  .cases h
 .cases h
theorem ml{x elt t iter:Expr}{ifs:ZM}{scope:Scope}(h:Xg x=some (elt,t,iter,ifs,scope)):∃pos,x=.ListComp elt [⟨t,iter,ifs,0⟩] scope pos:=by
 unfold Xg at h
 split at h
 .rename_i e;cases h;exact Ze e
 .cases h
def Zza:E->Bool
 | .and _ _=>true
 | .or _ _=>true
 | _=>false
def NE(e:E):Prop:=∀(w:W) (X:Cx) (k:Nat) (N:ZG) (sc:Scope) (tp:Bool) (x:Expr),Ct X w k N sc.names->(tp=true->X.env.scope.names=sc.names)->rep tp N sc e x=true->SE w e X x
def NT(e:E):Prop:=∀(w:W) (X:Cx) (k:Nat) (N:ZG) (sc:Scope) (tp:Bool) (x:Expr) (wh:Sem Value),Ct X w k N sc.names->(tp=true->X.env.scope.names=sc.names)->rep tp N sc e x=true->B0 e x=true->(Zza e=true\/wh=eval x X.env)->ST w e X x wh
def NR(e:E):Prop:=∀(w:W) (X:Cx) (k:Nat) (N:ZG) (sc:Scope) (tp m:Bool) (xs:ZM),Ct X w k N sc.names->(tp=true->X.env.scope.names=sc.names)->Vi tp N sc e xs=true->Hs X w m e xs
def NI(e:E):Prop:=∀(w:W) (X:Cx) (k:Nat) (N:ZG) (sc:Scope) (tp:Bool) (t x:Expr),Ct X w k N sc.names->(tp=true->X.env.scope.names=sc.names)->P1 tp N sc t e x=true->SI w e X t x
theorem Z8{e:E}(h:NE e)(ht:∀x,B0 e x=plainT x)(ha:Zza e=false):NT e:=fun w X k N sc tp x wh c ct hr z6 hw=>by
 rcases hw with z | rfl
 .rw[ha]at z;cases z
 .exact wx (h w X k N sc tp x c ct hr) (C2 (by rw[<-ht x];exact z6))
theorem Iw{e:E}(h:∀tp N sc x,rep tp N sc e x=false):NE e:=fun w X k N sc tp x c ct hr=>by rw[h]at hr;cases hr
theorem Ij{e:E}(h:∀tp N sc x,rep tp N sc e x=false):NT e:=fun w X k N sc tp x wh c ct hr=>by rw[h]at hr;cases hr
theorem Vg{e:E}(h:∀tp N sc xs,Vi tp N sc e xs=false):NR e:=fun w X k N sc tp m xs c ct hr=>by rw[h]at hr;cases hr
theorem Us{e:E}(h:∀tp N sc t x,P1 tp N sc t e x=false):NI e:=fun w X k N sc tp t x c ct hr=>by rw[h]at hr;cases hr
theorem Oq{e:E}(h:NE e)(r:∀tp N sc t x,P1 tp N sc t e x=rep tp N sc e x):NI e:=fun w X k N sc tp t x c ct hr=>si_of (h w X k N sc tp x c ct (by rw[<-r tp N sc t x];exact hr))
theorem ne_v(i:Nat):NE (.v i):=fun w X k N sc tp x c ct hr=>by
 replace hr:(match U6 x with | some y=>Gk N sc.names i y | none=>false)=true:=hr
 split at hr
 .rename_i e;obtain⟨p,rfl⟩:=Vz e;exact se_v (c.nm' hr)
 .cases hr
theorem i8(i:Nat):NE (.mv i):=fun w X k N sc tp x c ct hr=>by
 replace hr:(match U6 x with | some y=>Gk N sc.names i y | none=>false)=true:=hr
 split at hr
 .rename_i e;obtain⟨p,rfl⟩:=Vz e;exact se_mv (c.nm' hr)
 .cases hr
theorem Xx{t:T}{k:Const}(h:conK t k=true):(t=.non/\k=.none)\/(∃b,t=.bl b/\k=.bool b)\/(∃i,t=.int i/\k=.int i)\/∃x,t=.str x/\k=.str x:=by
 unfold conK at h
 split at h
 .cases eq_of_beq h;exact .inr (.inr (.inl ⟨_,rfl,rfl⟩))
 .cases eq_of_beq h;exact .inr (.inr (.inr ⟨_,rfl,rfl⟩))
 .cases eq_of_beq h;exact .inr (.inl ⟨_,rfl,rfl⟩)
 .exact .inl ⟨rfl,rfl⟩
 .cases h
theorem ne_k(t:T):NE (.k t):=fun w X k N sc tp x c ct hr=>by
 replace hr:vf t x=true:=hr
 unfold vf at hr
 split at hr
 .rename_i cc e
  cases x<;>first | cases e | skip
  exact se_k (Xx hr)
 .cases hr
theorem ne_g(g:Str):NE (.g g):=fun w X k N sc tp x c ct hr=>by
 replace hr:(match U6 x with | some y=>g == y && Gm sc.names y | none=>false)=true:=hr
 split at hr
 .rename_i e
  obtain⟨p0,rfl⟩:=Vz e;rw[Vp,beq_iff_eq]at hr;obtain⟨rfl,h⟩:=hr;obtain⟨g1,g2⟩:=c.gl' h;intro F p j s Q I h;obtain⟨t,e,h⟩:=Za (show on (w.gl g) fun t=>Q (.f t) p from h);obtain⟨v,hm,it⟩:=c.gl g t e;exact Jl I g1 hm g2 ⟨F,p,.f t,.refl F,I,it.up fun a o e=>I.le a o (I.ok.b a o e),h⟩
 .cases hr
theorem Ky{es:E}(ih:NR es):NE (.tup es):=fun w X k N sc tp x c ct hr=>by
 replace hr:(match R0 x with | some xs=>Vy es && Vi tp N sc es xs | none=>false)=true:=hr
 split at hr
 .rename_i e
  obtain⟨j,p,rfl⟩:=Ri e;rw[Vp]at hr;exact se_tup (ih w X k N sc tp false _ c ct hr.2) hr.1
 .cases hr
theorem Kk{es:E}(ih:NR es):NE (.lst es):=fun w X k N sc tp x c ct hr=>by
 replace hr:(match S6 x with | some xs=>Vy es && Vi tp N sc es xs | none=>false)=true:=hr
 split at hr
 .rename_i e
  obtain⟨p,rfl⟩:=mj e;rw[Vp]at hr;exact se_lst (ih w X k N sc tp false _ c ct hr.2) hr.1
 .cases hr
theorem vn{tp:Bool}{N:ZG}{sc:Scope}{q:Pr}{es:E}{x:Expr}(hr:rep tp N sc (.pr q es) x=true):∃xs,view sc.names q x=some xs/\Vy es=true/\quiet q es=true/\v7 q=true/\Vi tp N sc es xs=true:=by
 replace hr:(match view sc.names q x with | some xs=>Vy es && quiet q es && v7 q && Vi tp N sc es xs | none=>false)=true:=hr
 split at hr
 .rename_i xs e
  simp only[Vp]at hr;exact⟨xs,e,hr.1.1.1,hr.1.1.2,hr.1.2,hr.2⟩
 .cases hr
theorem yg{q:Pr}{es:E}(ih:NR es):NE (.pr q es):=fun w X k N sc tp x c ct hr=>by
 obtain⟨xs,hv,h1,h2,h3,h4⟩:=vn hr;have hs:=ih w X k N sc tp true _ c ct h4;have hc:=c.calm;cases q with
 | op o=>exact se_op hv hs
 | cm m=>exact(ir c hv hs).1
 | c2 m m'=>exact(ip c hv h2 hs).1
 | neg=>exact se_neg hv hs
 | ix=>exact se_ix hv hs
 | sl lo hi=>cases lo<;>cases hi<;>first | exact nc hv hs | exact nr hv hs | exact ng hv hs | exact iu c hc hv hs
 | dnew=>exact n6 c hc hv hs
 | isi n=>exact se_isi c hv hs
 | get1=>exact n5 hv h2 hs
 | get2=>exact nu hv h2 hs
 | idx=>exact se_idx hv h2 hs
 | lset=>exact nh c hc hv hs
 | dct1=>exact n7 c hc hv fun fp h cc=>ih w _ k N sc tp true _ cc ct h4
 | srtF=>exact ny c hc hv hs
 | tin g=>exact se_tin c hv hs
 | tix g=>exact se_tix c hv hs h3
 | fld f =>
  obtain⟨o,p,rfl,hn,rfl⟩:=Ab hv;exact w6 c.bn hn hs (by simpa [v7] using h3)
 | isx ns=>cases hv
 | _=>exact iu c hc hv hs
theorem nt_pr{q:Pr}{es:E}(ih:NR es):NT (.pr q es):=fun w X k N sc tp x wh c ct hr ht hw=>by
 obtain⟨xs,hv,h1,h2,h3,h4⟩:=vn hr;have hs:=ih w X k N sc tp true _ c ct h4
 have pl:plainT x=true->ST w (.pr q es) X x wh:=fun z=>by
  rcases hw with y | rfl
  .cases y
  .exact wx (yg ih w X k N sc tp x c ct hr) (C2 z)
 cases q with
 | cm m=>exact(ir c hv hs).2 wh
 | c2 m m'=>exact(ip c hv h2 hs).2 wh
 | tin g=>exact st_tin c hv hs
 | _=>exact pl ht
theorem Qh{op:BoolOp}{tp:Bool}{N:ZG}{sc:Scope}{a b:E}{x:Expr}(hr:(match Mx op x with
  | some (x0,y,r,pos)=>rep tp N sc a x0 && (if r.isEmpty then rep tp N sc b y else rep tp N sc b (.BoolOp op (y::r) pos))
  | none=>false)=true):∃x0 y r pos,x=.BoolOp op (x0::y::r) pos/\Mx op x=some (x0,y,r,pos)/\rep tp N sc a x0=true/\((r=[]/\rep tp N sc b y=true)\/(r.isEmpty=false/\rep tp N sc b (.BoolOp op (y::r) pos)=true)):=by
 split at hr
 .rename_i x0 y r pos e
  rw[Vp]at hr;refine⟨x0,y,r,pos,mh e,e,hr.1, ?_⟩;cases r with
  | nil=>exact .inl ⟨rfl,hr.2⟩
  | cons z r=>exact .inr ⟨rfl,hr.2⟩
 .cases hr
theorem ne_and{a b:E}(ha:NE a)(hb:NE b):NE (.and a b):=fun w X k N sc tp x c ct hr=>by
 obtain⟨x0,y,r,pos,rfl,_,h1,h2⟩:=Qh hr;refine se_and (ha w X k N sc tp _ c ct h1) ?_;rcases h2 with ⟨rfl,h2⟩ | ⟨_,h2⟩
 .exact w5 (hb w X k N sc tp _ c ct h2)
 .exact hb w X k N sc tp _ c ct h2
theorem ne_or{a b:E}(ha:NE a)(hb:NE b):NE (.or a b):=fun w X k N sc tp x c ct hr=>by
 obtain⟨x0,y,r,pos,rfl,_,h1,h2⟩:=Qh hr;refine se_or (ha w X k N sc tp _ c ct h1) ?_;rcases h2 with ⟨rfl,h2⟩ | ⟨_,h2⟩
 .exact w5 (hb w X k N sc tp _ c ct h2)
 .exact hb w X k N sc tp _ c ct h2
theorem nt_and{a b:E}(ha:NT a)(hb:NT b):NT (.and a b):=fun w X k N sc tp x wh c ct hr ht _=>by
 obtain⟨x0,y,r,pos,rfl,e,h1,h2⟩:=Qh hr
 replace ht:(match Mx .And (Expr.BoolOp .And (x0::y::r) pos) with
  | some (x0,y,r,pos)=>B0 a x0 && (if r.isEmpty then B0 b y else B0 b (.BoolOp .And (y::r) pos) && y7 b)
  | none=>false)=true:=ht
 rw[e]at ht;obtain⟨t1,t2⟩:=Xd.mp ht;refine st_and (ha w X k N sc tp _ _ c ct h1 t1 (.inr rfl)) fun wh'=>?_;rcases h2 with ⟨rfl,h2⟩ | ⟨re,h2⟩
 .exact cx (hb w X k N sc tp _ _ c ct h2 t2 (.inr rfl)) rfl
 .rw[re]at t2;obtain⟨t2,t3⟩:=Xd.mp t2;exact hb w X k N sc tp _ _ c ct h2 t2 (.inl (by cases b<;>first | rfl | cases t3))
theorem nt_or{a b:E}(ha:NT a)(hb:NT b):NT (.or a b):=fun w X k N sc tp x wh c ct hr ht _=>by
 obtain⟨x0,y,r,pos,rfl,e,h1,h2⟩:=Qh hr
 replace ht:(match Mx .Or (Expr.BoolOp .Or (x0::y::r) pos) with
  | some (x0,y,r,pos)=>B0 a x0 && (if r.isEmpty then B0 b y else B0 b (.BoolOp .Or (y::r) pos) && Zzz b)
  | none=>false)=true:=ht
 rw[e]at ht;obtain⟨t1,t2⟩:=Xd.mp ht;refine st_or (ha w X k N sc tp _ _ c ct h1 t1 (.inr rfl)) fun wh'=>?_;rcases h2 with ⟨rfl,h2⟩ | ⟨re,h2⟩
 .exact st_or1 (hb w X k N sc tp _ _ c ct h2 t2 (.inr rfl)) rfl
 .rw[re]at t2;obtain⟨t2,t3⟩:=Xd.mp t2;exact hb w X k N sc tp _ _ c ct h2 t2 (.inl (by cases b<;>first | rfl | cases t3))
theorem ne_not{a:E}(ha:NE a):NE (.not a):=fun w X k N sc tp x c ct hr=>by
 replace hr:(match R1 x with | some y=>rep tp N sc a y | none=>false)=true:=hr
 split at hr
 .rename_i y e
  obtain⟨p,rfl⟩:=S5 e;exact se_not (ha w X k N sc tp _ c ct hr)
 .cases hr
theorem nt_not{a:E}(ha:NT a):NT (.not a):=fun w X k N sc tp x wh c ct hr ht _=>by
 replace hr:(match R1 x with | some y=>rep tp N sc a y | none=>false)=true:=hr
 replace ht:(match R1 x with | some y=>B0 a y | none=>false)=true:=ht
 split at hr
 .rename_i y e
  rw[e]at ht;obtain⟨p,rfl⟩:=S5 e;exact st_not (ha w X k N sc tp _ _ c ct hr ht (.inr rfl))
 .cases hr
theorem yb{d a b:E}(hd:NT d)(ha:NE a)(hb:NE b):NE (.ite d a b):=fun w X k N sc tp x c ct hr=>by
 replace hr:(match og x with | some (z,x0,y)=>rep tp N sc d z && B0 d z && rep tp N sc a x0 && rep tp N sc b y | none=>false)=true:=hr
 split at hr
 .rename_i z x0 y e
  obtain⟨p,rfl⟩:=oy e;simp only[Vp]at hr;exact se_ite (hd w X k N sc tp _ _ c ct hr.1.1.1 hr.1.1.2 (.inr rfl)) (ha w X k N sc tp _ c ct hr.1.2) (hb w X k N sc tp _ c ct hr.2)
 .cases hr
theorem Ti{x:Expr}{f:Str}{xs:ZM}(h:Mz x=some (f,xs)):∃p pos,x=.Call (.Name f p) xs [] pos:=Mo h
theorem Fk{f:Str}{es:E}(ih:NR es):NE (.call f es):=fun w X k N sc tp x c ct hr=>by
 replace hr:(match Mz x with | some (g,xs)=>f == g && Dz.contains f && Gm sc.names g && !xs.isEmpty && Vi tp N sc es xs | none=>false)=true:=hr
 split at hr
 .rename_i g xs e
  obtain⟨p,pos,rfl⟩:=Ti e;simp only[Vp,beq_iff_eq]at hr;obtain⟨⟨⟨⟨rfl,h2⟩,h3⟩,h4⟩,h5⟩:=hr;unfold Gm at h3;rw[Vp,beq_iff_eq]at h3;cases xs with
  | nil=>cases h4
  | cons y ys=>exact n9 c c.calm h3.1 (by simpa using h3.2) (by simpa using h2) (ih w X k N sc tp false _ c ct h5)
 .cases hr
theorem ym{i:Nat}{es:E}(ih:NR es):NE (.cal i es):=fun w X k N sc tp x c ct hr=>by
 replace hr:(match Mz x with | some (g,xs)=>Gk N sc.names i g && !xs.isEmpty && Vy es && Vi tp N sc es xs | none=>false)=true:=hr
 split at hr
 .rename_i g xs e
  obtain⟨p,pos,rfl⟩:=Ti e;simp only[Vp]at hr;obtain⟨⟨⟨h1,h2⟩,h3⟩,h4⟩:=hr;cases xs with
  | nil=>cases h2
  | cons y ys=>exact se_cal c c.calm (c.nm' h1) (ih w X k N sc tp false _ c ct h4)
 .cases hr
theorem i9{m:Mt}{i:Nat}{es:E}(ih:NR es):NE (.mt m i es):=fun w X k N sc tp x c ct hr F p j s Q I hw=>by
 replace hr:(match Xk x with | some (y,n,xs)=>n == "append" && isApp m && Gk N sc.names i y && Vy es && Vi tp N sc es xs && decide (xs.length=1) | none=>false)=true:=hr
 split at hr
 .rename_i y n xs e
  obtain⟨p0,ap,cp,rfl,hl⟩:=b9 e;simp only[Vp,beq_iff_eq,decide_eq_true_eq]at hr;obtain⟨⟨⟨⟨⟨rfl,h1⟩,h2⟩,h3⟩,h4⟩,h5⟩:=hr
  match xs,h5 with
  | [x0],_ =>
  cases m with
  | append=>exact se_mt (c.nm' h2) (ih w X k N sc tp false _ c ct h4) h3 hl F p j s Q I hw
  | _=>cases h1
 .cases hr
theorem Xj{tg it cd el:E}{fr:ZV}{ns:ZG}{tp:Bool}{N:ZG}{sc:Scope}{x:Expr}(hr:rep tp N sc (.comp tg it cd el fr ns) x=true):∃elt t iter ifs scope pos,x=.ListComp elt [⟨t,iter,ifs,0⟩] scope pos/\tp=true/\P1 tp N sc t it iter=true/\Wv sc scope=true/\Js N scope.names ns fr=true/\ns.Nodup/\Jm (fun i=>(fr[i]?).join.isSome) tg=true/\Bw iter=true/\Jt ns scope.names tg t=true /\
  ((isNil cd=true/\ifs=[])\/(isNil cd=false/\∃z,ifs=[z]/\rep false ns scope cd z=true/\B0 cd z=true))/\rep false ns scope el elt=true:=by
 replace hr:(match Xg x with
  | some (elt,t,iter,ifs,scope)=>tp && P1 tp N sc t it iter && Wv sc scope && Js N scope.names ns fr && decide ns.Nodup && Jm (fun i=>(fr[i]?).join.isSome) tg && Bw iter && Jt ns scope.names tg t
   && (if isNil cd then ifs.isEmpty else (match ifs with
    | [z]=>rep false ns scope cd z && B0 cd z
    | _=>false)) && rep false ns scope el elt
  | none=>false)=true:=hr
 split at hr
 .rename_i elt t iter ifs scope e
  obtain⟨pos,rfl⟩:=ml e;simp only[Vp,decide_eq_true_eq]at hr;obtain⟨⟨⟨⟨⟨⟨⟨⟨⟨h1,h2⟩,h3⟩,h4⟩,h5⟩,h6⟩,h7⟩,h8⟩,h9⟩,qd⟩:=hr;refine⟨elt,t,iter,ifs,scope,pos,rfl,h1,h2,h3,h4,h5,h6,h7,h8, ?_,qd⟩;cases hn:isNil cd with
  | true =>
   rw[hn]at h9;exact .inl ⟨rfl,List.isEmpty_iff.mp h9⟩
  | false =>
   rw[hn]at h9
   match ifs,h9 with
   | [z],h9=>exact .inr ⟨rfl,z,rfl,Xd.mp h9⟩
 .cases hr
theorem bj{cd:E}{ifs:ZM}{ns:ZG}{scope:Scope}{w:W}{k:Nat}(Rq:NT cd)(h:(isNil cd=true/\ifs=[])\/(isNil cd=false/\∃z,ifs=[z]/\rep false ns scope cd z=true/\B0 cd z=true)):∀Y,Ct Y w k ns scope.names->HT w cd Y ifs:=fun Y c=>by
 rcases h with ⟨h,rfl⟩ | ⟨h,z,rfl,h1,h2⟩
 .exact ht_nil h
 .exact ht_one h (Rq w Y k ns scope false z _ c (fun z=>nomatch z) h1 h2 (.inr rfl))
theorem Iv{tg it cd el:E}{fr:ZV}{ns:ZG}(hit:NI it)(Rq:NT cd)(hel:NE el):NE (.comp tg it cd el fr ns):=fun w X k N sc tp x c ct hr=>by
 obtain⟨elt,t,iter,ifs,scope,pos,rfl,h1,h2,h3,h4,h5,h6,h7,h8,h9,qd⟩:=Xj hr;exact n8 c (ct h1) c.calm h3 h4 h5 (hit w X k N sc tp t iter c ct h2) h8 h6 (bj Rq h9) (fun Y cc=>hel w.nx Y k ns scope false elt cc (fun z=>nomatch z) qd) (G2 h7)
theorem ni_itr{q:Ik}{es:E}(ih:NR es):NI (.itr q es):=fun w X k N sc tp t x c ct hr=>by
 replace hr:(match Mz x with
  | some (f,xs)=>f == ikN q && !ikV q && Gm sc.names f && uc q t && decide (xs.length=ikL q) && Vy es && Vi tp N sc es xs
  | none=>(match oj x with
   | some y=>y.1 == ikN q && ikV q && uc q t && Vy es && Vi tp N sc es [y.2]
   | none=>false))=true:=hr
 split at hr
 .rename_i f xs e
  obtain⟨p,pos,rfl⟩:=Ti e;simp only[Vp,beq_iff_eq,decide_eq_true_eq,Bool.not_eq_true']at hr;obtain⟨⟨⟨⟨⟨⟨rfl,h0⟩,h2⟩,h3⟩,h4⟩,h5⟩,h6⟩:=hr;unfold Gm at h2;rw[Vp,beq_iff_eq]at h2;have hs:=ih w X k N sc tp false _ c ct h6;cases q with
  | rng=>match xs,h4 with
   | [a],_=>exact si_rng c h2.1 hs h5
  | zip=>match xs,h4 with
   | [a,b],_ =>
    cases t<;>first | exact si_zip c h2.1 hs h5 | cases h3
  | vls=>cases h0
  | its=>cases h0
 .split at hr
  .rename_i y e
   obtain⟨ap,cp,rfl,hc,hl⟩:=oq e;simp only[Vp,beq_iff_eq]at hr;obtain⟨⟨⟨⟨h1,h0⟩,h3⟩,h5⟩,h6⟩:=hr;have hs:=ih w X k N sc tp false _ c ct h6;cases q with
   | vls=>exact Ae _ (.inl ⟨rfl,h1⟩) hs h5 hc hl
   | its=>exact Ae _ (.inr ⟨rfl,h1,h3⟩) hs h5 hc hl
   | rng=>cases h0
   | zip=>cases h0
  .cases hr
theorem r9{a r:E}(ha:NE a)(hr':NR r):NR (.cons a r):=fun w X k N sc tp m xs c ct hr=>by
 cases xs with
 | nil=>cases(show false=true from hr)
 | cons x xs =>
  replace hr:(noStar x && (match (generalizing:=false) a with
  | .io i=>(match U6 x with
   | some y=>Gk N sc.names i y
   | none=>false)
  | _=>rep tp N sc a x) && Vi tp N sc r xs)=true:=hr
  simp only[Vp]at hr;obtain⟨⟨h1,h2⟩,h3⟩:=hr;refine .cons ?_ h1 (hr' w X k N sc tp m xs c ct h3);cases a with
  | io i =>
   have h2:(match U6 x with | some y=>Gk N sc.names i y | none=>false)=true:=h2
   split at h2
   .rename_i e;obtain⟨p,rfl⟩:=Vz e;exact(wu (m:=m) (c.nm' h2)).2
   .cases h2
  | v i =>
   have h2':(match U6 x with | some y=>Gk N sc.names i y | none=>false)=true:=h2;cases m with
   | false=>exact sh_v (ha w X k N sc tp x c ct h2)
   | true =>
    split at h2'
    .rename_i e;obtain⟨p,rfl⟩:=Vz e;exact(wu (m:=true) (c.nm' h2')).1
    .cases h2'
  | _=>exact sh_of (fun _ z=>nomatch z) (fun _ z=>nomatch z) (ha w X k N sc tp x c ct h2)
theorem nr_nil:NR .nil:=fun w X k N sc tp m xs c ct hr=>by
 cases xs with
 | nil=>exact .nil
 | cons _ _=>cases(show false=true from hr)
theorem Jz:∀e:E,NE e/\NT e/\NR e/\NI e:=by
 intro e
 induction e with
 | v i=>exact⟨ne_v i,Z8 (ne_v i) (fun _=>rfl) rfl,Vg fun tp N sc xs=>rfl,Oq (ne_v i) fun tp N sc t x=>rfl⟩
 | mv i=>exact⟨i8 i,Z8 (i8 i) (fun _=>rfl) rfl,Vg fun tp N sc xs=>rfl,Us fun tp N sc t x=>rfl⟩
 | io i=>exact⟨Iw fun tp N sc x=>rfl,Ij fun tp N sc x=>rfl,Vg fun tp N sc xs=>rfl,Us fun tp N sc t x=>rfl⟩
 | k t=>exact⟨ne_k t,Z8 (ne_k t) (fun _=>rfl) rfl,Vg fun tp N sc xs=>rfl,Us fun tp N sc t x=>rfl⟩
 | g x=>exact⟨ne_g x,Z8 (ne_g x) (fun _=>rfl) rfl,Vg fun tp N sc xs=>rfl,Us fun tp N sc t x=>rfl⟩
 | nil=>exact⟨Iw fun tp N sc x=>rfl,Ij fun tp N sc x=>rfl,nr_nil,Us fun tp N sc t x=>rfl⟩
 | cons a r ha hr=>exact⟨Iw fun tp N sc x=>rfl,Ij fun tp N sc x=>rfl,r9 ha.1 hr.2.2.1,Us fun tp N sc t x=>rfl⟩
 | tup es ih=>exact⟨Ky ih.2.2.1,Z8 (Ky ih.2.2.1) (fun _=>rfl) rfl,Vg fun tp N sc xs=>rfl,Oq (Ky ih.2.2.1) fun tp N sc t x=>rfl⟩
 | lst es ih=>exact⟨Kk ih.2.2.1,Z8 (Kk ih.2.2.1) (fun _=>rfl) rfl,Vg fun tp N sc xs=>rfl,Oq (Kk ih.2.2.1) fun tp N sc t x=>rfl⟩
 | pr q es ih=>exact⟨yg ih.2.2.1,nt_pr ih.2.2.1,Vg fun tp N sc xs=>rfl,Oq (yg ih.2.2.1) fun tp N sc t x=>rfl⟩
 | and a b ha hb=>exact⟨ne_and ha.1 hb.1,nt_and ha.2.1 hb.2.1,Vg fun tp N sc xs=>rfl,Us fun tp N sc t x=>rfl⟩
 | or a b ha hb=>exact⟨ne_or ha.1 hb.1,nt_or ha.2.1 hb.2.1,Vg fun tp N sc xs=>rfl,Us fun tp N sc t x=>rfl⟩
 | not a ha=>exact⟨ne_not ha.1,nt_not ha.2.1,Vg fun tp N sc xs=>rfl,Us fun tp N sc t x=>rfl⟩
 | ite d a b hd ha hb=>exact⟨yb hd.2.1 ha.1 hb.1,Z8 (yb hd.2.1 ha.1 hb.1) (fun _=>rfl) rfl,Vg fun tp N sc xs=>rfl,Us fun tp N sc t x=>rfl⟩
 | call f es ih=>exact⟨Fk ih.2.2.1,Z8 (Fk ih.2.2.1) (fun _=>rfl) rfl,Vg fun tp N sc xs=>rfl,Oq (Fk ih.2.2.1) fun tp N sc t x=>rfl⟩
 | cal i es ih=>exact⟨ym ih.2.2.1,Z8 (ym ih.2.2.1) (fun _=>rfl) rfl,Vg fun tp N sc xs=>rfl,Us fun tp N sc t x=>rfl⟩
 | mt m i es ih=>exact⟨i9 ih.2.2.1,Z8 (i9 ih.2.2.1) (fun _=>rfl) rfl,Vg fun tp N sc xs=>rfl,Us fun tp N sc t x=>rfl⟩
 | comp tg it cd el fr ns htg hit Rq hel=>exact⟨Iv hit.2.2.2 Rq.2.1 hel.1,Z8 (Iv hit.2.2.2 Rq.2.1 hel.1) (fun _=>rfl) rfl,Vg fun tp N sc xs=>rfl,Us fun tp N sc t x=>rfl⟩
 | itr q es ih=>exact⟨Iw fun tp N sc x=>rfl,Ij fun tp N sc x=>rfl,Vg fun tp N sc xs=>rfl,ni_itr ih.2.2.1⟩
 | tmp a ha=>exact⟨fun w X k N sc tp x c ct hr=>w4 (ha.1 w X k N sc tp x c ct hr),Z8 (fun w X k N sc tp x c ct hr=>w4 (ha.1 w X k N sc tp x c ct hr)) (fun _=>rfl) rfl,Vg fun tp N sc xs=>rfl,Us fun tp N sc t x=>rfl⟩
def Fl:E->Bool
 | .comp _ _ _ _ _ _=>true
 | _=>false
noncomputable def Ur:Expr->Bool
 | .ListComp _ _ _ _=>false
 | .SetComp _ _ _ _=>false
 | .DictComp _ _ _ _ _=>false
 | _=>true
theorem L1{x:Expr}{t:Option Expr}{ln:Nat}{env:Env}(h:Ur x=true):swapsWith x t ln env=pure false:=by
 cases x<;>first | rfl | cases h
inductive ShS where
 | ret(x:Option Expr) | ex(x:Expr) | asg(t x:Expr) | ite(z:Expr)(a b:List Stmt) | loop(t it:Expr)(b:List Stmt) | wh(z:Expr)(b:List Stmt) | pass | brk | cont | rais(e:Expr) | tri(b:List Stmt)(c:Expr)(n:Str)(b₀:Stmt)(h:List Stmt) | non
noncomputable def shA:ZM->Expr->ShS
 | [],_=>.non
 | t::r,x=>match r with
  | []=>.asg t x
  | _::_=>.non
def shL(t it:Expr)(b:List Stmt):List Stmt->ShS
 | []=>.loop t it b
 | _::_=>.non
def shW(z:Expr)(b:List Stmt):List Stmt->ShS
 | []=>.wh z b
 | _::_=>.non
def shR:Option Expr->Option Expr->ShS
 | some e,none=>.rais e
 | _,_=>.non
noncomputable def shT(b:List Stmt):List ExceptHandler->List Stmt->List Stmt->ShS
 | [.ExceptHandler (some c) (some n) (b₀::h) _],[],[]=>.tri b c n b₀ h
 | _,_,_=>.non
noncomputable def Mp:Stmt->ShS
 | .Return x _=>.ret x
 | .Expr x _=>.ex x
 | .Assign ts x _=>shA ts x
 | .If z a b _=>.ite z a b
 | .For t it b e _=>shL t it b e
 | .While z b e _=>shW z b e
 | .Pass _=>.pass
 | .Break _=>.brk
 | .Continue _=>.cont
 | .Raise e c _=>shR e c
 | .Try b hs o f _=>shT b hs o f
 | _=>.non
def ShSI:ShS->Stmt->Prop
 | .ret x,s=>∃p,s=.Return x p
 | .ex x,s=>∃p,s=.Expr x p
 | .asg t x,s=>∃p,s=.Assign [t] x p
 | .ite z a b,s=>∃p,s=.If z a b p
 | .loop t it b,s=>∃p,s=.For t it b [] p
 | .wh z b,s=>∃p,s=.While z b [] p
 | .pass,s=>∃p,s=.Pass p
 | .brk,s=>∃p,s=.Break p
 | .cont,s=>∃p,s=.Continue p
 | .rais e,s=>∃p,s=.Raise (some e) none p
 | .tri b c n b₀ h,s=>∃q p,s=.Try b [.ExceptHandler (some c) (some n) (b₀::h) q] [] [] p
 | .non,_=>True
theorem c9(s:Stmt):ShSI (Mp s) s:=by
 cases s
 case Assign ts x p=>cases ts with
  | nil=>trivial
  | cons t r=>cases r with
   | nil=>exact⟨_,rfl⟩
   | cons _ _=>trivial
 case For t it b e p=>cases e with
  | nil=>exact⟨_,rfl⟩
  | cons _ _=>trivial
 case While z b e p=>cases e with
  | nil=>exact⟨_,rfl⟩
  | cons _ _=>trivial
 case Raise e c p =>
  cases e<;>cases c<;>first | exact⟨_,rfl⟩ | trivial
 case Try b hs o f p =>
  show ShSI (shT b hs o f) _;unfold shT
  split
  .exact⟨_,_,rfl⟩
  .trivial
 all_goals first | exact⟨_,rfl⟩ | exact True.intro
theorem Y0{s:Stmt}{h:ShS}(e:Mp s=h):ShSI h s:=e ▸ c9 s
def Ke:E->Bool
 | .k t=>match t with
  | .non=>true
  | _=>false
 | _=>false
theorem zh{a:E}(h:Ke a=true):a=.k .non:=by
 cases a with
 | k t=>cases t with
  | non=>rfl
  | _=>cases h
 | _=>cases h
noncomputable def Kj(t:Expr):Option Str:=match Tx t with
 | .name y=>some y
 | _=>none
theorem T4{t:Expr}{y:Str}(h:Kj t=some y):∃p,t=.Name y p:=by
 unfold Kj at h
 split at h
 .rename_i e
  cases h;exact Ze e
 .cases h
noncomputable def lg(t:Expr):Option (Str×Expr):=match Tx t with
 | .sub o k=>(Kj o).map (·,k)
 | _=>none
theorem lq{t k:Expr}{y:Str}(h:lg t=some (y,k)):∃q p,t=.Subscript (.Name y q) k p:=by
 unfold lg at h
 split at h
 .rename_i e
  obtain⟨p,rfl⟩:=Ze e;obtain⟨z,e1,e2⟩:=Y3.mp h;cases e2;obtain⟨q,rfl⟩:=T4 e1;exact⟨q,p,rfl⟩
 .cases h
noncomputable def rm(N:ZG)(sc:Scope):S->List Stmt->Bool
 | .seq (.set j a) .nil,[st]=>(match Mp st with
  | .asg t x=>(match Kj t with
   | some y=>N[j]? == some y && locs sc.names y && rep true N sc a x && Ur x
   | none=>false)
  | _=>false)
 | _,_=>false
noncomputable def repE(N:ZG)(sc:Scope):E->Expr->Bool
 | .k t,x=>vf t x
 | .pr (.fld f) (.cons (.v i) .nil),x=>(match t6 f x with
  | some [o]=>(match U6 o with
   | some y=>Gk N sc.names i y && !decide (f = "")
   | none=>false)
  | _=>false)
 | _,_=>false
noncomputable def rd(N:ZG)(sc:Scope):S->List Stmt->Bool
 | .seq (.set j a) .nil,[st]=>(match Mp st with
  | .asg t x=>(match Kj t with
   | some y=>N[j]? == some y && locs sc.names y && repE N sc a x && Ur x
   | none=>false)
  | _=>false)
 | _,_=>false
mutual
noncomputable def repS(N:ZG)(sc:Scope):S->Stmt->Bool
 | .ret a,st=>match Mp st with
  | .ret x=>(match x with
   | some x=>rep true N sc a x
   | none=>Ke a)
  | _=>false
 | .ex a,st=>match Mp st with
  | .ex x=>rep true N sc a x && Ur x
  | _=>false
 | .set i a,st=>match Mp st with
  | .asg t x=>(match Kj t with
   | some y=>N[i]? == some y && locs sc.names y && rep true N sc a x && (Ur x || Fl a)
   | none=>false)
  | _=>false
 | .unp tg a,st=>match Mp st with
  | .asg t x=>Jt N sc.names tg t && isTup t && rep true N sc a x && !isTup x
  | _=>false
 | .put i k a,st=>match Mp st with
  | .asg t x=>(match lg t with
   | some q=>Gk N sc.names i q.1 && rep true N sc a x && rep true N sc k q.2 && Uk q.2
   | none=>false)
  | _=>false
 | .ite c a b,st=>match Mp st with
  | .ite z x y=>rep true N sc c z && B0 c z && De N sc a x && De N sc b y
  | _=>false
 | .loop tg it b,st=>match Mp st with
  | .loop t iter body=>P1 true N sc t it iter && Jt N sc.names tg t && De N sc b body && Bw iter
  | _=>false
 | .wh c b,st=>match Mp st with
  | .wh z body=>rep true N sc c z && B0 c z && De N sc b body
  | _=>false
 | .pass,st=>match Mp st with
  | .pass=>true
  | _=>false
 | .brk,st=>match Mp st with
  | .brk=>true
  | _=>false
 | .cont,st=>match Mp st with
  | .cont=>true
  | _=>false
 | .rais c a,st=>match Mp st with
  | .rais e=>(match Mz e with
   | some (g,[x])=>c == g && Gm sc.names c && (D3.any fun d=>decide (d.c=c)) && rep true N sc a x && noStar x
   | _=>false)
  | _=>false
 | .tri b c i h,st=>match Mp st with
  | .tri body t n b₀ suite=>(match U6 t with
   | some g=>(match i with
    | some i=>c == g && Gm sc.names c && xl.contains c && N[i]? == some n && sc.names.lookup n == some .local && rm N sc b body && rd N sc h (b₀::suite)
    | none=>false)
   | none=>false)
  | _=>false
 | _,_=>false
noncomputable def De(N:ZG)(sc:Scope):S->List Stmt->Bool
 | .nil,[]=>true
 | .seq a r,st::rest=>repS N sc a st && De N sc r rest
 | _,_=>false
end
theorem Xi{elt:Expr}{gs:List Comprehension}{scope:Scope}{pos p:Pos}{t:Str}{ln:Nat}{env:Env}:swapsWith (.ListComp elt gs scope pos) (some (.Name t p)) ln env=pure (env.blockKind == .function && env.kindOf t == some .local && p.line == pos.line && !(scope.names.any fun(n,k)=>n == t && (k == .local || k == .cell))):=rfl
def NS(s:S):Prop:=∀(w:W) (X:Cx) (k:Nat) (N:ZG) (sc:Scope),Ct X w k N sc.names->X.env.scope.names=sc.names->PassesOwn (model X.prog X.w) X.A X.env X.xe->X.stack=X.env::X.outer->X.env.frame=some X.env.locals->(∀st,repS N sc s st=true->SS w s X st)/\∀sts,De N sc s sts=true->SB w s X sts
theorem Bv{s:S}{w:W}{X:Cx}{N:ZG}{sc:Scope}(h:∀sts,De N sc s sts=false):∀sts,De N sc s sts=true->SB w s X sts:=fun sts z=>by rw[h]at z;cases z
theorem no_S{s:S}{w:W}{X:Cx}{N:ZG}{sc:Scope}(h:∀st,repS N sc s st=false):∀st,repS N sc s st=true->SS w s X st:=fun st z=>by rw[h]at z;cases z
section
variable{X:Cx}{w:W}{k:Nat}{N:ZG}{sc:Scope}
theorem ic(c:Ct X w k N sc.names)(ct:X.env.scope.names=sc.names){i:Nat}{a:E}{x:Expr}{y:Str}{pos pos':Pos}(h1:N[i]?=some y)(h2:locs sc.names y=true)(h3:rep true N sc a x=true)(h4:(Ur x || Fl a)=true):SS w (.set i a) X (.Assign [.Name y pos'] x pos):=by
 have hse:=(Jz a).1 w X k N sc true x c (fun _=>ct) h3;rw[Bool.or_eq_true]at h4;rcases h4 with h4 | h4
 .exact wq c h1 h2 hse (L1 h4)
 .cases a<;>first | cases h4 | skip
  rename_i tg it cd el fr ns
  obtain⟨elt,t,iter,ifs,scope,P4,rfl,g1,g2,g3,g4,g5,g6,g7,g8,g9,g10⟩:=Xj h3
  have hsw:swapsWith (.ListComp elt [⟨t,iter,ifs,0⟩] scope P4) (some (.Name y pos')) pos.line X.env=pure false\/swapsWith (.ListComp elt [⟨t,iter,ifs,0⟩] scope P4) (some (.Name y pos')) pos.line X.env=pure true:=by
   rw[Xi];cases(X.env.blockKind == .function && X.env.kindOf y == some .local && pos'.line == P4.line && !(scope.names.any fun(n,k)=>n == y && (k == .local || k == .cell)))<;>first | exact .inl rfl | exact .inr rfl
  rcases hsw with hsw | hsw
  .exact wq c h1 h2 hse hsw
  .exact cq c ct c.calm g3 g4 g5 h1 h2 ((Jz it).2.2.2 w X k N sc true t iter c (fun _=>ct) g2) g8 g6 (bj (Jz cd).2.1 g9) (fun Y cc=>(Jz el).1 w.nx Y k ns scope false elt cc (fun z=>nomatch z) g10) (G2 g7) hsw
theorem tri_n(c:Ct X w k N sc.names){e:Addr}{h:S}{b₀:Stmt}{suite:List Stmt}(hr:rd N sc h (b₀::suite)=true):SB w h (X.ec e) (b₀::suite):=by
 unfold rd at hr
 split at hr
 rotate_left
 .cases hr
 rename_i j a st eq
 cases eq
 split at hr
 rotate_left
 .cases hr
 rename_i t x es
 obtain⟨p0,rfl⟩:=Y0 es
 split at hr
 rotate_left
 .cases hr
 rename_i y ey
 obtain⟨p1,rfl⟩:=T4 ey;simp only[Vp,beq_iff_eq]at hr;obtain⟨⟨⟨h1,h2⟩,h3⟩,h4⟩:=hr;refine Ei (Aa (X:=X.ec e) (by show X.N.Nodup;rw[c.nN];exact c.nd) (by show X.N[j]?=_;rw[c.nN];exact h1) (c.loc h2) ?_ (L1 h4)) Ee;unfold repE at h3
 split at h3
 .unfold vf at h3
  split at h3
  .rename_i cc e
   cases x<;>first | cases e | skip
   exact se_k (Xx h3)
  .cases h3
 .split at h3
  rotate_left
  .cases h3
  rename_i o ev
  split at h3
  rotate_left
  .cases h3
  rename_i z ez
  obtain⟨o',p2,rfl,hn,eo⟩:=Ab ev;cases eo;obtain⟨p3,rfl⟩:=Vz ez;rw[Vp]at h3;have n:=c.nm' h3.1;exact w6 (X:=X.ec e) c.bn hn (.cons (wu (X:=X.ec e) (m:=true) ⟨n.n,n.d,n.c⟩).1 rfl .nil) (by simpa using h3.2)
 .cases h3
theorem try_n{F:OM}{E:ZQ}{w':W}(ct:X.env.scope.names=sc.names){b:S}{body:List Stmt}(hr:rm N sc b body=true)(c:Ct (X.tr F E) w' k N sc.names):SB w' b (X.tr F E) body:=by
 unfold rm at hr
 split at hr
 rotate_left
 .cases hr
 split at hr
 rotate_left
 .cases hr
 rename_i t x es
 obtain⟨p0,rfl⟩:=Y0 es
 split at hr
 rotate_left
 .cases hr
 rename_i y ey
 obtain⟨p1,rfl⟩:=T4 ey;simp only[Vp,beq_iff_eq]at hr;obtain⟨⟨⟨h1,h2⟩,h3⟩,h4⟩:=hr;exact Ei (ic c ct h1 h2 h3 (by rw[h4];rfl)) Ee
end
theorem yz:∀s:S,NS s:=by
 intro s
 induction s with
 | nil =>
  intro w X k N sc c ct po G7 Dt;refine⟨no_S fun st=>rfl,fun sts h=>?_⟩;cases sts with
  | nil=>exact Ee
  | cons _ _=>cases(show false=true from h)
 | seq a r ha hr =>
  intro w X k N sc c ct po G7 Dt;refine⟨no_S fun st=>rfl,fun sts h=>?_⟩;cases sts with
  | nil=>cases(show false=true from h)
  | cons st rest =>
   obtain⟨h1,h2⟩:=Xd.mp (show (repS N sc a st && De N sc r rest)=true from h);exact Ei ((ha w X k N sc c ct po G7 Dt).1 st h1) ((hr w X k N sc c ct po G7 Dt).2 rest h2)
 | ret a =>
  intro w X k N sc c ct po G7 Dt;refine⟨fun st h=>?_,Bv fun sts=>rfl⟩
  replace h:(match Mp st with | .ret x=>(match x with | some x=>rep true N sc a x | none=>Ke a) | _=>false)=true:=h
  split at h
  .rename_i e
   obtain⟨p,rfl⟩:=Y0 e
   split at h
   .exact ss_ret ((Jz a).1 w X k N sc true _ c (fun _=>ct) h)
   .rw[zh h];exact cj
  .cases h
 | ex a =>
  intro w X k N sc c ct po G7 Dt;refine⟨fun st h=>?_,Bv fun sts=>rfl⟩
  replace h:(match Mp st with | .ex x=>rep true N sc a x && Ur x | _=>false)=true:=h
  split at h
  .rename_i e
   obtain⟨p,rfl⟩:=Y0 e;rw[Vp]at h;exact ss_ex ((Jz a).1 w X k N sc true _ c (fun _=>ct) h.1) (L1 h.2)
  .cases h
 | set i a =>
  intro w X k N sc c ct po G7 Dt;refine⟨fun st h=>?_,Bv fun sts=>rfl⟩
  replace h:(match Mp st with | .asg t x=>(match Kj t with | some y=>N[i]? == some y && locs sc.names y && rep true N sc a x && (Ur x || Fl a) | none=>false) | _=>false)=true:=h
  split at h
  .rename_i e
   obtain⟨p,rfl⟩:=Y0 e
   split at h
   .rename_i e
    obtain⟨p,rfl⟩:=T4 e;simp only[Vp,beq_iff_eq]at h;obtain⟨⟨⟨h1,h2⟩,h3⟩,h4⟩:=h;exact ic c ct h1 h2 h3 h4
   .cases h
  .cases h
 | unp tg a =>
  intro w X k N sc c ct po G7 Dt;refine⟨fun st h=>?_,Bv fun sts=>rfl⟩
  replace h:(match Mp st with | .asg t x=>Jt N sc.names tg t && isTup t && rep true N sc a x && !isTup x | _=>false)=true:=h
  split at h
  .rename_i t x e
   obtain⟨p,rfl⟩:=Y0 e;simp only[Vp]at h;obtain⟨⟨⟨h1,h2⟩,h3⟩,h4⟩:=h;cases t<;>first | cases h2 | skip
   exact ss_unp c c.calm h1 ((Jz a).1 w X k N sc true _ c (fun _=>ct) h3) (by simpa using h4)
  .cases h
 | put i kk a =>
  intro w X k N sc c ct po G7 Dt;refine⟨fun st h=>?_,Bv fun sts=>rfl⟩
  replace h:(match Mp st with | .asg t x=>(match lg t with | some q=>Gk N sc.names i q.1 && rep true N sc a x && rep true N sc kk q.2 && Uk q.2 | none=>false) | _=>false)=true:=h
  split at h
  .rename_i e
   obtain⟨p,rfl⟩:=Y0 e
   split at h
   .rename_i e
    obtain⟨q,p,rfl⟩:=lq e;simp only[Vp]at h;obtain⟨⟨⟨h1,h2⟩,h3⟩,h4⟩:=h;exact ss_put (c.nm' h1) ((Jz a).1 w X k N sc true _ c (fun _=>ct) h2) ((Jz kk).1 w X k N sc true _ c (fun _=>ct) h3)
   .cases h
  .cases h
 | ite cd a b ha hb =>
  intro w X k N sc c ct po G7 Dt;refine⟨fun st h=>?_,Bv fun sts=>rfl⟩
  replace h:(match Mp st with | .ite z x y=>rep true N sc cd z && B0 cd z && De N sc a x && De N sc b y | _=>false)=true:=h
  split at h
  .rename_i e
   obtain⟨p,rfl⟩:=Y0 e;simp only[Vp]at h;obtain⟨⟨⟨h1,h2⟩,h3⟩,h4⟩:=h;exact ss_ite ((Jz cd).2.1 w X k N sc true _ _ c (fun _=>ct) h1 h2 (.inr rfl)) ((ha w X k N sc c ct po G7 Dt).2 _ h3) ((hb w X k N sc c ct po G7 Dt).2 _ h4)
  .cases h
 | loop tg it b hb =>
  intro w X k N sc c ct po G7 Dt;refine⟨fun st h=>?_,Bv fun sts=>rfl⟩
  replace h:(match Mp st with | .loop t iter body=>P1 true N sc t it iter && Jt N sc.names tg t && De N sc b body && Bw iter | _=>false)=true:=h
  split at h
  .rename_i e
   obtain⟨p,rfl⟩:=Y0 e;simp only[Vp]at h;obtain⟨⟨⟨h1,h2⟩,h3⟩,h4⟩:=h;exact ss_for po c c.calm ((Jz it).2.2.2 w X k N sc true _ _ c (fun _=>ct) h1) h2 (fun fp hh cc=>(hb w _ k N sc cc ct po G7 Dt).2 _ h3) (G2 h4)
  .cases h
 | wh cd b hb =>
  intro w X k N sc c ct po G7 Dt;refine⟨fun st h=>?_,Bv fun sts=>rfl⟩
  replace h:(match Mp st with | .wh z body=>rep true N sc cd z && B0 cd z && De N sc b body | _=>false)=true:=h
  split at h
  .rename_i e
   obtain⟨p,rfl⟩:=Y0 e;simp only[Vp]at h;obtain⟨⟨h1,h2⟩,h3⟩:=h;exact ss_wh po ((Jz cd).2.1 w X k N sc true _ _ c (fun _=>ct) h1 h2 (.inr rfl)) ((hb w X k N sc c ct po G7 Dt).2 _ h3)
  .cases h
 | pass =>
  intro w X k N sc c ct po G7 Dt;refine⟨fun st h=>?_,Bv fun sts=>rfl⟩
  replace h:(match Mp st with | .pass=>true | _=>false)=true:=h
  split at h
  .rename_i e;obtain⟨p,rfl⟩:=Y0 e;exact cv
  .cases h
 | brk =>
  intro w X k N sc c ct po G7 Dt;refine⟨fun st h=>?_,Bv fun sts=>rfl⟩
  replace h:(match Mp st with | .brk=>true | _=>false)=true:=h
  split at h
  .rename_i e;obtain⟨p,rfl⟩:=Y0 e;exact ss_brk
  .cases h
 | cont =>
  intro w X k N sc c ct po G7 Dt;refine⟨fun st h=>?_,Bv fun sts=>rfl⟩
  replace h:(match Mp st with | .cont=>true | _=>false)=true:=h
  split at h
  .rename_i e;obtain⟨p,rfl⟩:=Y0 e;exact cy
  .cases h
 | rais cl a =>
  intro w X k N sc c ct po G7 Dt;refine⟨fun st h=>?_,Bv fun sts=>rfl⟩
  replace h:(match Mp st with | .rais e=>(match Mz e with | some (g,[x])=>cl == g && Gm sc.names cl && (D3.any fun d=>decide (d.c=cl)) && rep true N sc a x && noStar x | _=>false) | _=>false)=true:=h
  split at h
  .rename_i e
   obtain⟨p,rfl⟩:=Y0 e
   split at h
   .rename_i e
    obtain⟨q,p,rfl⟩:=Ti e;simp only[Vp,beq_iff_eq]at h;obtain⟨⟨⟨⟨rfl,h2⟩,h3⟩,h4⟩,h5⟩:=h;exact cw c c.calm h2 h3 ((Jz a).1 w X k N sc true _ c (fun _=>ct) h4) h5
   .cases h
  .cases h
 | tri b cl i h0 =>
  intro w X k N sc c ct po G7 Dt;refine⟨fun st h=>?_,Bv fun sts=>rfl⟩
  replace h:(match Mp st with | .tri body t n b₀ suite=>(match U6 t with | some g=>(match (generalizing:=false) i with | some i=>cl == g && Gm sc.names cl && xl.contains cl && N[i]? == some n && sc.names.lookup n == some .local && rm N sc b body && rd N sc h0 (b₀::suite) | none=>false) | none=>false) | _=>false)=true:=h
  split at h
  .rename_i e
   obtain⟨q,p,rfl⟩:=Y0 e
   split at h
   .rename_i e
    obtain⟨q2,rfl⟩:=Vz e
    split at h
    .simp only[Vp,beq_iff_eq]at h;obtain⟨⟨⟨⟨⟨⟨rfl,h2⟩,h3⟩,h4⟩,h5⟩,h6⟩,h7⟩:=h;exact ss_tri c c.calm G7 Dt h2 h3 h4 h5 (fun F E w' cc=>try_n ct h6 cc) fun e=>tri_n c h7
    .cases h
   .cases h
  .cases h
end PV
namespace Att
open PySem PySem.W PySem.Calls PyProof.Rows
theorem Tv{P:Params}{h:Heap}:∀(ns:ZT) (vs:ZK),WellAll P h vs (ns.map WData.int)->IntsAre vs ns:=by
 intro ns
 induction ns with
 | nil =>
  intro vs w;rw[List.map_nil]at w;cases w;exact .nil
 | cons n ns ih =>
  intro vs w;rw[S9]at w;cases w with
  | cons a b =>
   cases a;exact .cons _ _ (ih _ b)
theorem X5{l:OpenLaw}{n:Nat}(hn:l.most=some n){P:Params}{h:Heap}{args:List WData}{vals:ZK}
  (uh:l.row.toRowW.claim.pre args=true) (hwl:WellAll P h vals args) :
  ∃a vs ns,vals=[Value.ref a]/\args=[WData.list (ns.map WData.int)]/\h.get? a=some { cls:=.type "list",data:=.seq vs.toArray }/\IntsAre vs ns/\ns.length<=n:=by
 have hsh:WShape.hasAll [] args [.list .int]=true:=(pre_splitW uh).1;have hc:l.pre.holds [] { args:=args }=true:=(pre_splitW uh).2;obtain⟨d,r,rfl,h1,h2⟩:=hasAllW_cons hsh;obtain rfl:=hasAllW_nil h2;obtain⟨xs,rfl,h3⟩:=hasW_list h1;obtain⟨ns,rfl⟩:=items_int h3
 have hlen:ns.length<=n:=by
  unfold OpenLaw.pre at hc
  have h4:(WTm.not (.lt (.lit (.int (n:Int))) (.len (.arg 0)))).holds [] { args:=[.list (ns.map .int)] }=true:=by
   have h4:=(holds_andW hc).1;rw[hn]at h4;exact h4
  have h5:=condW_of h4 (w_not (w_lt w_lit (w_len_list (w_arg rfl))));rw[Zu]at h5;refine Nat.le_of_not_lt fun q=>?_;have q':(n:Int)<((ns.length:Nat):Int):=by omega
  first
   | (rw[Ma q']at h5;exact absurd h5 (by decide))
   | (simp at h5;omega)
 cases hwl with
 | cons w1 w2 =>
  cases w2;cases w1 with
  | list ho hall=>exact⟨_,_,ns,rfl,rfl,ho,Tv ns _ hall,hlen⟩
theorem X9(l:OpenLaw)(args:List WData):l.row.toRowW.claim.post args (.bool true) args=true :=
 postW_of (r:=l.row.toRowW) (X:=(true == true))
  (show WShape.has [] (.bool true) .bool=true by first | rfl | decide | simp[WShape.has,WShape.arms,WShape.armsAll])
  (show (WTm.eq .res (.lit (.bool true))).value [] { args:=args,res:=some (.bool true),after:=args }=some (.bool (true == true)) from w_eq_bool (w_res rfl) w_lit) rfl
theorem S3{l:OpenLaw}{n:Nat}{q:Program}{loose:ZG}{XP:(ZJ)->Heap->Prop}{YP:World->Heap->Prop}{d:DefRec}
  (hn:l.most=some n) (hdf:d.params.defaults=[])
  (call:∀(w:World) (s₀ s₁:Shared) (mg mb:ZJ) (fa:Addr) (o:Obj) (pm cd doc:Value) (a:Addr) (vs:ZK) (ns:ZT),
   Ground q loose [] XP w s₀ mg mb s₁.heap->YP w s₁.heap ->
   s₁.heap.get? fa=some o->o.data=.func (docDef d.name d.params d.body d.scope pm cd doc)->s₁.heap.CodeRec cd d.name->mg d.name=some (.ref fa) ->
   s₁.heap.get? a=some { cls:=.type "list",data:=.seq vs.toArray }->IntsAre vs ns->ns.length<=n->s₁.gens=#[] ->
   codeAny (model l.prog w) callerA (.call (.ref fa) ⟨[.ref a],[]⟩) (fun r s'=>r=.ok (.ret (.bool true))/\OldK s₁.heap s'.heap/\s'.os=s₁.os/\AllBare s'.gens) s₁) :
  WalkO q loose XP YP l.row.toRowW d [] (fun f vs=>PySem.call f vs):=by
 intro w s₀ s₁ mg mb G Y fa o pm cd doc dV kV ho hd Rq hD hmg hg args vals as uh hlay hrd hwl hlo;obtain rfl:dV=.none:=Dflts.none hD hdf;obtain rfl:kV=.none:=Dflts.noKw hD;obtain⟨a,vs,ns,rfl,rfl,hobj,hints,hlen⟩:=X5 hn uh hwl;refine enter_call (codeAny_mono (call w s₀ s₁ mg mb fa o pm cd doc a vs ns G Y ho (fd_plain hd) Rq hmg hobj hints hlen hg) fun r s' hq=>?_);obtain⟨rfl,h2,h3,h4⟩:=hq;exact⟨.inl ⟨.bool true,.bool true,[],rfl,fun _=>rfl,.bool true,X9 l _,fun _=>⟨List.Pairwise.nil,fun _ hm=>(nomatch hm)⟩⟩,h2,h3,h4⟩
end Att
namespace L2
open PySem PySem.Spec PyProof.Rows
end L2
namespace PV
open PySem PySem.Spec PyProof.Rows L2
theorem Zc.mk'{K:W.Frag}{x:Str}{st:Stmt}{f:Addr}{oc:Value}{od an:ZR}{osl:ZY}{kV doc pm cdv ct:Value}(l:K.lookup f=some ⟨oc,od,.func (W.fnOf x x (Vx st) (Z0 st) (Zx st) .none kV doc pm an cdv ct),osl⟩)
  (c:W.codeIn K cdv x=true) (k:W.keepIn K (.ref f)=true):Zc K x st f (W.fnOf x x (Vx st) (Z0 st) (Zx st) .none kV doc pm an cdv ct):=⟨⟨oc,od,kV,doc,pm,an,cdv,ct,osl,rfl,l,c⟩,k⟩
structure V2(g:Md)(f:Str)(d:Df):Prop where
 ex:∃st a fd N ps,Zc g.K f st a fd/\g.mg f=some (.ref a)/\U2 N ps (Zx st)/\N.length=d.n/\ps.length=d.ar/\De N (Zx st) d.code (Z0 st)=true/\Binds g.K fd ps []
def qk(g:Md)(gl:Str->Option T):Prop:=∀x t,gl x=some t->∃v,g.mg x=some v/\IsT g g.base.get? t v
section
variable{g:Md}{tab:Str->Option Df}{gl:Str->Option T}
theorem Zzs{Y:Cx}{w:W}{k:Nat}{N ps:ZG}{sc:Scope}{C:Cs}(eY:Y.toMd=g)(es:Y.env.scope=sc)(eN:Y.N=N)(eo:Y.own=true)(ec:Y.calm=true)(hr:Q2 k Y.A)(e1:w.C=C)(e2:w.gl=gl)(hx:qw Y w)(S:U2 N ps sc)(bn:BN g)(fn:∀f as R Xe,C f as R Xe->FnP g C k f)(hg:qk g gl):Ct Y w k N sc.names:=by
 subst eY e1 e2;exact⟨eN,S.nd,fun y kd e=>.inl (by rw[es];exact e),fun _=>hr,(by have:=hr.un;omega),hr.gd,bn,fn,hg,hx,fun _ _=>eo,ec⟩
theorem gy{x:Str}{d:Df}{k:Nat}{C C':Cs}(F:V2 g x d)(bn:BN g)(fn:∀f as R Xe,C f as R Xe->FnP g C k f)(hg:qk g gl)(hC:∀as R Xe,C' x as R Xe->Wy d ⟨C,gl,fun e _=>Xe e⟩ as R):FnP g C' (k+1) x:=by
 obtain⟨st,a,fd,N,ps,Fn,hm,S,hn,ha,hrep,hb⟩:=F.ex;exact fn_of Fn hm S hn ha hb hC fun Y w eY es eN eo ec G7 Dt hr e1 e2 hx po=>(yz d.code w Y k N (Zx st) (Zzs eY es eN eo ec hr e1 e2 hx S bn fn hg) (by rw[es]) po G7 Dt).2 _ hrep
theorem knot(bn:BN g)(ft:∀f d,tab f=some d->V2 g f d)(hg:qk g gl):∀n f as R Xe,Cn tab gl n f as R Xe->FnP g (Cn tab gl n) n f
 | 0,f,as,R,Xe,h=>h.elim
 | n+1,f,as,R,Xe,h=>by
  obtain⟨d,e,_⟩:=Za (show on (tab f) (fun d=>Wy d ⟨Cn tab gl n,gl,fun e _=>Xe e⟩ as R) from h)
  exact gy (ft f d e) bn (knot bn ft hg n) hg fun as R Xe h=>by
   obtain⟨d',e',h⟩:=Za (show on (tab f) (fun d=>Wy d ⟨Cn tab gl n,gl,fun e _=>Xe e⟩ as R) from h);rw[e]at e';cases e';exact h
noncomputable def Sg(g:Md)(A:Around)(s:Shared)(u:Value)(N:ZG)(x:Str)(sc:Scope)(f:Addr)(cd:Value):Cx where
 toMd:=g
 A:=A.deeper (envOfC x sc s.heap.objs.size f cd)
 N:=N
 env:=envOfC x sc s.heap.objs.size f cd
 outer:=[]
 stack:=[envOfC x sc s.heap.objs.size f cd]
 own:=true
 calm:=true
 os:=s.os
 G:=fun _=>none
 F0:=s.heap.get?
 σ0:=start N [u]
 pt:=fun _=>false
 xe:=fun _ _=>False
theorem ud{A:Around}{s s1:Shared}{u:Value}{t:T}{N:ZG}{x y:Str}{sc:Scope}{f:Addr}{cd:Value}(mod:Mod g)(hb:g.base=s.heap)(bare:AllBare s.gens)(hd:A.handled=none)(hf:A.frames=some [])(S:U2 N [y] sc)(it:IsT g s.heap.get? t u)
  (x1:InCallC s s.heap.objs.size (bindL (envOfC x sc s.heap.objs.size f cd).kindOf ([y].zip [u]) fun _=>none) (cellsFrom (s.heap.objs.size+1) sc.names []) (bindC (envOfC x sc s.heap.objs.size f cd).kindOf ([y].zip [u]) fun _=>none) s1) :
  Inv (Sg g A s u N x sc f cd) s.heap.get? (.f t::List.replicate (N.length - 1) .no) (start N [u]) s1:=by
 have hpl:1<=N.length:=by have:=congrArg List.length S.pre;rw[dz]at this;simp at this;omega
 obtain⟨h1,tk,rfl,hk⟩:=x1.done;have new:∀{b:Addr},s.heap.objs.size<=b->s.heap.get? b=none:=fun h=>Heap.get?_none_of_le h
 have nokp:∀{b:Addr} {o:Obj},s.heap.get? b=some o->¬ (Sg g A s u N x sc f cd).kp b:=fun {b o} e h=>by
  rcases h with h | rfl | ⟨_,y,h⟩
  .exact h rfl
  .exact absurd ((new (Gc _)).symm.trans (show s.heap.get? s.heap.objs.size=some o from e)) fun z=>nomatch z
  .rw[new (Nat.le_of_lt (x1.above y b (PySem.mem_of_lookup h)))]at e;cases e
 have no:∀{i:Nat} {q:Sl},(Sl.f t::List.replicate (N.length - 1) Sl.no)[i]?=some q->q≠.no->i=0/\q=.f t:=fun {i q} h n=>by
  cases i with
  | zero=>exact⟨rfl,(Ms h).symm⟩
  | succ i =>
   rw[List.getElem?_cons_succ,List.getElem?_replicate]at h
   split at h
   .cases h;exact absurd rfl n
   .cases h
 refine⟨⟨mod,S.kind,rfl,rfl,by show g.base.objs.size<=_;rw[hb];exact Gc _,fun y z c e1 e2=>name_of_addr x1.apart (PySem.mem_of_lookup e1) (PySem.mem_of_lookup e2),fun y hy=>?_,fun _=>hd,Around.frames_deeper hf,.inr ⟨rfl,rfl⟩,fun a o e=>(by show s.heap.get? a=some o;rw[<-hb];exact e),fun b hb=>absurd hb (by simp[K8,Sg]),fun a ma=>rfl,fun y c _=>.inl rfl⟩,
  rfl,bare,.refl _,fun a o e=>⟨hk a o e,nokp e⟩,(fun a o e=>nomatch e),trivial,⟨_,x1.toInCall.ns,fun i z v e1 e2=>?_⟩,fun y c e=>⟨_,x1.cell y c e⟩, ?_,⟨fun i t' e=>?_,fun i t' e=>?_,fun i j t' u' a e1 _ _ _=>?_, ?_⟩,fun _ h=>nomatch h⟩
 .have hy:sc.names.lookup y=some .cell\/sc.names.lookup y=some .free:=hy;rcases hy with hy | hy
  .exact Nl hy
  .exact absurd rfl (S.nofree _ (PySem.mem_of_lookup hy))
 .have hi:i < [u].length:=by
   refine Nat.lt_of_not_le fun z=>?_;have e2:(start N [u])[i]?=some (some v):=e2;unfold start at e2;rw[List.getElem?_append_right (by simpa using z),List.getElem?_replicate]at e2
   split at e2<;>cases e2
  have e2:(start N [u])[i]?=some (some v):=e2;rw[Vm hi]at e2;have hu:=Ms e2
  have hp:([y]:ZG)[i]?=some z:=by
   rw[<-S.pre,List.getElem?_take_of_lt (by exact hi)];exact e1
  have ndP:([y]:ZG).Nodup:=by simp
  rcases S.par z (List.mem_of_getElem? hp) with k | k
  .exact .inl ⟨k,Jj ndP hp hu k⟩
  .obtain⟨c,e⟩:=Nl (n:=s.heap.objs.size+1) k;refine .inr ⟨.inl k,c,e, ?_⟩;have q:=x1.cell z c e;rw[Bp ndP hp hu (by show sc.names.lookup z≠_;rw[k];decide)]at q;exact q
 .unfold start;show _=N.length;rw[Gn,Zu,List.length_replicate];simp;omega
 .obtain⟨rfl,z⟩:=no e fun z=>nomatch z;cases z;exact⟨u,rfl,it⟩
 .obtain⟨_,z⟩:=no e fun z=>nomatch z;cases z
 .obtain⟨_,z⟩:=no e1 fun z=>nomatch z;cases z
 .unfold start;rw[Jk,Gn,Zu,List.length_replicate,List.length_replicate];simp;omega
theorem p8{n:Nat}{x:Str}{d:Df}{A:Around}{s:Shared}{fa:Addr}{t:T}{u:Value}(bn:BN g)(ft:∀f d,tab f=some d->V2 g f d)(hg:qk g gl)(mod:Mod g)(hb:g.base=s.heap)(bare:AllBare s.gens)(hr:Q2 (n+1) A)(hf:A.frames=some [])(hm:g.mg x=some (.ref fa))(it:IsT g s.heap.get? t u)(e:tab x=some d)
  (law:Cn tab gl (n+1) x [.f t] (fun r=>r=(.f (.bl true),[])) fun _=>False) :
  codeAny (model g.prog g.w) A (.call (.ref fa) ⟨[u],[]⟩) (fun r s'=>r=.ok (.ret (.bool true))/\(∀b o,s.heap.get? b=some o->s'.heap.get? b=some o)/\s'.os=s.os/\AllBare s'.gens) s:=by
 obtain⟨d',e',law⟩:=Za (show on (tab x) (fun d=>Wy d ⟨Cn tab gl n,gl,fun e _=>False⟩ [.f t] fun r=>r=(.f (.bl true),[])) from law);rw[e]at e';cases e';obtain⟨st,a,fd,N,ps,Fn,hm',S,hn,ha,hrep,hbi⟩:=(ft x d e).ex;rw[hm]at hm';cases hm';unfold Wy at law
 split at law
 rotate_left
 .exact law.elim
 rename_i har
 have har:1=d.ar:=har
 obtain⟨y,rfl⟩:∃y,ps=[y]:=by
  match ps,ha with
  | [y],_=>exact⟨y,rfl⟩
  | [],h=>rw[<-har]at h;cases h
  | _::_::_,h=>rw[<-har]at h;simp at h
 obtain⟨oc,od,kV,doc,pm,an,cdv,ct,osl,rfl,lk,Rq⟩:=Fn.ex;have KX:g.K.In s.heap:=by rw[<-hb];exact mod.kin
 have lim:s.heap.NoLimit:=by rw[<-hb];exact mod.nolimit
 have bb:=hbi s [u] KX rfl;rw[ZE]at bb;refine codeAny_call_function (by have:=hr.dp;omega) (KX _ _ lk) rfl S.co S.gen rfl (W.codeRec_of KX Rq) (bb _ _ _ _ ?_);refine wpAny_newFunctionEnv_cells S.kind (fun⟨n,v⟩ hy=>?_) fun env he s1 x1=>?_
 .rcases S.par n (List.of_mem_zip hy).1 with q | q
  .exact .inl q
  .exact .inr ⟨q,W.cellsFrom_some _ _ _ (.inl q)⟩
 subst he;refine⟨lim.keeps x1.toInCall.keep,codeAny_func ?_⟩;have I1:=ud (x:=x) (f:=fa) (cd:=cdv) mod hb bare hr.hd hf S it x1;have c:Ct (Sg g A s u N x (Zx st) fa cdv) ⟨Cn tab gl n,gl,fun e _=>False⟩ n N (Zx st).names:=Zzs rfl rfl rfl rfl rfl (hr.deeper _) rfl rfl (fun _ _ _ _ _ _ _ _ _ z=>z.elim) S bn (knot bn ft hg n) hg;have hN:d.n - d.ar=N.length - 1:=by omega
 rw[hN]at law
 have pt:Yk [Sl.f t]=fun _=>false:=by
  funext i
  unfold Yk
  match i with
  | 0=>rfl
  | i+1=>rfl
 rw[pt]at law;refine wpAny_mono ((yz d.code _ _ n N (Zx st) c rfl PassesOwn.never rfl rfl).2 _ hrep s.heap.get? _ _ s1 _ I1 law) (fun fl s' ⟨F',q,τ,l,J,fo⟩=>?_) fun _ _ z=>z.elim
 have fin:∀{r:Sl} {v:Value},Res (Sg g A s u N x (Zx st) fa cdv) F' q τ s'.heap r v->on (fin [.f t] r q) (fun r=>r=(.f (.bl true),[]))->v=.bool true/\(∀b o,s.heap.get? b=some o->s'.heap.get? b=some o)/\s'.os=s.os/\AllBare s'.gens:=fun {r v} rs h=>by
  obtain⟨z,e,h⟩:=Za h;obtain⟨ts,e2,rfl⟩:=Y3.mp e;cases h;have rs:Top g F' F' (.bl true) v:=rs;cases rs;exact⟨rfl,fun b o e=>(J.f b o (l b o e)).1,J.os,J.bare⟩
 cases fl with
 | ret v =>
  obtain⟨r,rs,h⟩:=fo;obtain⟨rfl,h⟩:=fin rs h;exact⟨rfl,h⟩
 | next =>
  obtain⟨z,_⟩:=fin (r:=.f .non) (v:=Value.none) Top.non fo;cases z
 | brk=>exact fo.elim
 | cont=>exact fo.elim
end
theorem ints_T{g:Md}{F:OM}{vs:ZK}{ns:ZT}(h:IntsAre vs ns):Zr g F (ns.map .int) vs:=by
 induction h with
 | nil=>exact .nil
 | cons z t r ih=>exact .cons .int ih
theorem walkE{l:W.OpenLaw}{q:Program}{loose:ZG}{XP:(ZJ)->Heap->Prop}{YP:World->Heap->Prop}{d:DefRec}{K:Params->W.Frag}{n:Nat}{df:Df}{tab:Str->Option Df}{gl:Str->Option T}(hn:l.most=some 63)(hdf:d.params.defaults=[])(hr:Q2 (n+1) callerA)(hf:callerA.frames=some [])
  (hY:∀(w:World) (h:Heap),YP w h->(K w.params).In h) (e:tab d.name=some df)
  (F:∀(w:World) (mg:ZJ) (h:Heap),(K w.params).In h->h.Ns mainGlobals mg->BN ⟨l.prog,w,mg,K w.params,h⟩/\(∀f d,tab f=some d->V2 ⟨l.prog,w,mg,K w.params,h⟩ f d)/\qk ⟨l.prog,w,mg,K w.params,h⟩ gl)
  (law:∀zs:ZT,zs.length<=63->Cn tab gl (n+1) d.name [.f (.lst (zs.map .int))] (fun r=>r=(.f (.bl true),[])) fun _=>False) :
  W.WalkO q loose XP YP l.row.toRowW d [] (fun f vs=>PySem.call f vs):=by
 refine Att.S3 hn hdf fun w s₀ s₁ mg mb fa o pm cd doc a vs ns G Y ho hd Rq hmg hobj hints hlen hg=>?_;have KX:=hY w _ Y;obtain⟨bn,ft,gk⟩:=F w mg _ KX G.T.g;have lv:=hints.length;refine codeAny_mono (p8 (g:=⟨l.prog,w,mg,K w.params,s₁.heap⟩) (t:=.lst (ns.map .int)) bn ft gk ⟨KX,G.T.g,⟨mb,G.T.b,G.T.builtins⟩,G.T.nolimit⟩ rfl (.of_eq hg) hr hf hmg (.mkL hobj ⟨by rw[lv];exact Jy hlen (by decide),0,rfl⟩ (ints_T hints)) e (law ns hlen)) fun r s' ⟨h1,h2,h3,h4⟩=>⟨h1,.of_keep h2,h3,h4⟩
end PV
namespace L2
open PySem PySem.Spec PyProof.Rows
noncomputable def xOk(K:W.Frag)(C:Addr)(pre:ZK)(x:Str):Bool :=
 W.findIn K (.ref C) "__setattr__" == some (some (.builtin "object.__setattr__")) && (W.findIn K (.ref C) "__getattribute__" == some (some (.builtin "BaseException.__getattribute__")) &&
 (W.findIn K (.ref C) "__getattr__" == some none && (W.findIn K (.ref C) "__class__" == some (some (.builtin "object.__class__")) && (W.hasDictIn K C && (W.typeIn K (.ref C) == some (.type "type") &&
 (((W.clsIn K C).any fun cd=>cd.mro == pre++Gv) && (W.specialIn K (.builtin "object.__class__") "__get__" == some (some (.builtin "getset_descriptor.__get__")) &&
 (W.takesIn K (.builtin "object.__class__") == some true && (W.findIn K (.ref C) x == some none && (xIn K C && W.keepIn K (.ref C)))))))))))
theorem Iz:∀(as:ZS),C3 (as.map Value.ref++Gv)=true
 | []=>by decide +kernel
 | a::as=>Iz as
structure XOk(K:W.Frag)(C:Addr)(as:ZS)(x:Str):Prop where
 xc:Wu K C
 mro:∀b,W.mroIn K C b=some ((as.map Value.ref++Gv).contains b)
 here:(W.clsIn K C).isSome=true
 no:Q4 K C x
 made:xIn K C=true
 kp:W.keepIn K (.ref C)=true
theorem Ed{K:W.Frag}{C:Addr}{a:Addr}{as:ZS}{x:Str}(h:xOk K C ((a::as).map Value.ref) x=true):XOk K C (a::as) x:=by
 unfold xOk at h;simp only[Vp,beq_iff_eq]at h;obtain⟨h1,h2,h3,h4,h5,h6,h7,h8,h9,qd,h11,uu⟩:=h;obtain⟨cd,hc,hm⟩:=W.any_some h7;have hm:cd.mro=(a::as).map Value.ref++Gv:=beq_iff_eq.mp hm
 have mro:∀b,W.mroIn K C b=some (((a::as).map Value.ref++Gv).contains b):=fun b=>by
  unfold W.mroIn;rw[hc,Option.bind_some,hm]
  rfl
 have inVE:∀b,Gv.contains b=true->(((a::as).map Value.ref++Gv).contains b)=true:=fun b hb=>by
  rw[List.contains_iff_mem]at hb ⊢;exact de _ hb
 refine⟨⟨h1,h2,h3,h4, ?_, ?_,h5,h6, ?_,h8,h9⟩,mro,by rw[hc];rfl,qd,h11,uu⟩
 .rw[mro,inVE _ (by decide +kernel)]
 .rw[mro,inVE _ (by decide +kernel)]
 .rw[hc];show C3 cd.mro=true;rw[hm];exact Iz _
end L2
namespace PV
open PySem PySem.Spec PyProof.Rows L2
structure FA(K:W.Frag)(x:Str)(st:Stmt)(f:Addr)(fd:FuncData):Prop where
 a:W.nsIn K mainGlobals x=some (some (.ref f))
 F:Zc K x st f fd
noncomputable def chk(N:ZG)(d:Df)(st:Stmt):Bool :=
 (match (Zx st).kind with | .function=>true | _=>false) && (!(Zx st).isCoroutine && (!(Zx st).isGenerator && (decide N.Nodup && (decide (N.take (N.take d.ar).length=N.take d.ar) && (((N.take d.ar).all fun x=>decide ((Zx st).names.lookup x=some .local) || decide ((Zx st).names.lookup x=some .cell)) && (((Zx st).names.all fun y=>!decide (y.2=.free)) && (decide (N.length=d.n) && (decide ((N.take d.ar).length=d.ar) && (decide ((N.take d.ar).length<=N.length) && De N (Zx st) d.code (Z0 st))))))))))
theorem chk_of{N:ZG}{d:Df}{st:Stmt}(h:chk N d st=true):U2 N (N.take d.ar) (Zx st)/\N.length=d.n/\(N.take d.ar).length=d.ar/\(N.take d.ar).length<=N.length/\De N (Zx st) d.code (Z0 st)=true:=by
 unfold chk at h;simp only[Vp,decide_eq_true_eq]at h;obtain⟨h1,h2,h3,h4,h5,h6,h7,h8,h9,qd,h11⟩:=h;refine⟨⟨?_,by simpa using h2,by simpa using h3,h4,h5,fun x m=>?_,fun y m=>?_⟩,h8,h9,qd,h11⟩
 .split at h1
  .assumption
  .cases h1
 .have:=tj.mp h6 x m;simpa using this
 .have:=tj.mp h7 y m;simpa using this
theorem FA.fc{g:Md}{h:Heap}{x:Str}{st:Stmt}{f:Addr}{fd:FuncData}{d:Df}{N:ZG}(A:FA g.K x st f fd)(X:g.K.In h)(G:h.Ns mainGlobals g.mg)(hc:chk N d st=true)
  (hb:∀(kV doc pm:Value) (an:ZR) (cdv ct:Value) (us:ZK),us.length=(N.take d.ar).length->bindArgs (W.fnOf x x (Vx st) (Z0 st) (Zx st) .none kV doc pm an cdv ct) ⟨us,[]⟩=pure ((N.take d.ar).zip us)):V2 g x d :=
 let ⟨S,hn,ha,_,hr⟩:=chk_of hc
 ⟨⟨st,f,fd,N,N.take d.ar,A.F,W.mg_of X G A.a,S,hn,ha,hr,let ⟨_,_,kV,doc,pm,an,cdv,ct,_,e,_⟩:=A.F.ex;by subst e;exact .all (hb kV doc pm an cdv ct)⟩⟩
theorem FA.at{g:Md}{h:Heap}{x:Str}{st:Stmt}{f:Addr}{fd:FuncData}(A:FA g.K x st f fd)(X:g.K.In h)(G:h.Ns mainGlobals g.mg):∃a,g.mg x=some (.ref a)/\W.keepIn g.K (.ref a)=true:=⟨f,W.mg_of X G A.a,A.F.kp⟩
def FC(x:Str)(st:Stmt)(d:Df):Prop:=∀{g:Md} {h:Heap} {f:Addr} {fd:FuncData},g.K.In h->h.Ns mainGlobals g.mg->FA g.K x st f fd->V2 g x d
theorem tab_of{g:Md}{L:List (Str×Df)}(h:∀p∈L,V2 g p.1 p.2)(f:Str)(d:Df)(e:((L.find? fun p=>decide (p.1=f)).map (·.2))=some d):V2 g f d:=by
 obtain⟨p,hp,rfl⟩:=Y3.mp e;have t:=List.find?_some hp;have this:p.1=f:=R6 t;have q:=h p (List.mem_of_find?_eq_some hp);rw[this]at q;exact q
theorem usS{n:Nat}{us:ZK}(h:us.length=n+1):∃a r,us=a::r/\r.length=n:=by
 cases us with
 | nil=>cases h
 | cons a r=>exact⟨a,r,rfl,Nat.succ.inj h⟩
theorem us0{us:ZK}(h:us.length=0):us=[]:=List.eq_nil_of_length_eq_zero h
theorem Mh{us:ZK}(h:us.length=1):∃a,us=[a]:=by
 obtain⟨a,r,rfl,g⟩:=usS h;cases us0 g;exact⟨a,rfl⟩
theorem U7{us:ZK}(h:us.length=2):∃a b,us=[a,b]:=by
 obtain⟨a,r,rfl,g⟩:=usS h;obtain⟨b,rfl⟩:=Mh g;exact⟨a,b,rfl⟩
theorem us3{us:ZK}(h:us.length=3):∃a b c,us=[a,b,c]:=by
 obtain⟨a,r,rfl,g⟩:=usS h;obtain⟨b,c,rfl⟩:=U7 g;exact⟨a,b,c,rfl⟩
theorem us4{us:ZK}(h:us.length=4):∃a b c d,us=[a,b,c,d]:=by
 obtain⟨a,r,rfl,g⟩:=usS h;obtain⟨b,c,d,rfl⟩:=us3 g;exact⟨a,b,c,d,rfl⟩
theorem us5{us:ZK}(h:us.length=5):∃a b c d e,us=[a,b,c,d,e]:=by
 obtain⟨a,r,rfl,g⟩:=usS h;obtain⟨b,c,d,e,rfl⟩:=us4 g;exact⟨a,b,c,d,e,rfl⟩
noncomputable def Au:ZZ->ZK->Bool
 | [],[]=>true
 | .str x::ts,.str y _::vs=>x == y && Au ts vs
 | _,_=>false
noncomputable def tupB(K:W.Frag)(q:Addr)(ts:ZZ):Bool:=match K.lookup q with
 | some ⟨.type c,none,.seq its _,_⟩=>c == "tuple" && (Au ts its.toList && decide (its.size<=10))
 | _=>false
noncomputable def tv(K:W.Frag):T->Value->Bool
 | .int i,.int j _=>i == j
 | .tup ts,.ref q=>tupB K q ts
 | _,_=>false
noncomputable def xg(K:W.Frag):ZX->List DictEntry->Bool
 | [],[]=>true
 | (.inr x,t)::r,e::es=>e.key.isStr x && tv K t e.val && xg K r es
 | _,_=>false
section
variable{g:Md}
theorem Pc{F:OM}:∀{ts:ZZ} {vs:ZK},Au ts vs=true->Zr g F ts vs
 | [],[],_=>.nil
 | [],_::_,e=>by cases e
 | .str x::ts,[],e=>by cases e
 | .str x::ts,v::vs,e=>by
  cases v with
  | str y t =>
   obtain⟨e1,e2⟩:=Xd.mp (show (x == y && Au ts vs)=true from e);cases eq_of_beq e1;exact .cons .str (Pc e2)
  | _=>cases e
 | .int _::_,vs,e=>by cases vs<;>cases e
 | .bl _::_,vs,e=>by cases vs<;>cases e
 | .non::_,vs,e=>by cases vs<;>cases e
 | .tup _::_,vs,e=>by cases vs<;>cases e
 | .lst _::_,vs,e=>by cases vs<;>cases e
 | .dct _::_,vs,e=>by cases vs<;>cases e
 | .fn _::_,vs,e=>by cases vs<;>cases e
 | .exn _ _::_,vs,e=>by cases vs<;>cases e
theorem val_of{F:OM}(X:∀a o,g.K.lookup a=some o->F a=some o){t:T}{v:Value}(e:tv g.K t v=true):IsT g F t v:=by
 unfold tv at e
 split at e
 .cases eq_of_beq e;exact .int
 .unfold tupB at e
  split at e
  .rename_i c its n sl lk
   simp only[Vp,beq_iff_eq,decide_eq_true_eq]at e;obtain⟨rfl,e1,e2⟩:=e;refine .mkT (X _ _ lk) ⟨rfl,rfl,⟨n,rfl⟩, ?_⟩ (Pc e1);rw[Ln];exact Jy e2 (by decide)
  .cases e
 .cases e
theorem ff{F:OM}(X:∀a o,g.K.lookup a=some o->F a=some o):∀{XY:ZX} {es:List DictEntry},xg g.K XY es=true->W.KeysLit g.w.params es->∃vs:List (Key×Value),Pairs (Zk g.prog g.w) es vs/\Z9 g F XY vs/\vs.map (·.1)=XY.map (·.1)/\∀e∈es,∃k,(Zk g.prog g.w).is k e.key=true/\e.hash=(Zk g.prog g.w).hash k
 | [],[],_,_=>⟨[],.nil,.nil,rfl,fun e m=>absurd m Tz⟩
 | [],_::_,e,_=>by cases e
 | (.inl _,_)::_,[],e,_=>by cases e
 | (.inr _,_)::_,[],e,_=>by cases e
 | (.inl _,_)::_,_::_,e,_=>by cases e
 | (.inr x,t)::r,e::es,h,⟨⟨y,tk,hy,hh⟩,kl⟩=>by
  have h:(e.key.isStr x && tv g.K t e.val && xg g.K r es)=true:=h;simp only[Vp]at h;obtain⟨⟨h1,h2⟩,h3⟩:=h;obtain⟨vs,p,a,ks,q⟩:=ff X h3 kl;rw[hy]at h1
  have exy:y=x:=by
   have:(Value.str y tk).isStr x=true:=h1;simpa [Value.isStr] using this
  subst exy;have is1:(Zk g.prog g.w).is (.inr y) e.key=true:=by rw[hy];exact G3 _ _ _ _
  refine⟨(.inr y,e.val)::vs,.cons is1 rfl p,.cons ⟨rfl,val_of X h2⟩ a,by rw[S9,S9,ks],fun e' m=>?_⟩;rcases Vv.mp m with rfl | m
  .exact⟨_,is1,hh⟩
  .exact q e' m
theorem As{a:Addr}{x:Str}{es:Array DictEntry}{n:Nat}{XY:ZX}(X:g.K.In g.base)(G:g.base.Ns mainGlobals g.mg)(hx:W.nsIn g.K mainGlobals x=some (some (.ref a)))(l:g.K.lookup a=some ⟨.type "dict",none,.dict es n, #[]⟩)(k:W.KeysLit g.w.params es.toList)(na:(a == sysModules)=false)(e:xg g.K XY es.toList=true)(nd:(XY.map (·.1)).Nodup)(z:XY.length<=100):TopF g x XY:=by
 obtain⟨vs,p,ar,ks,q⟩:=ff (F:=g.base.get?) (fun b o h=>X b o h) e k;refine⟨a,vs,W.mg_of X G hx,⟨_,es,n,X _ _ l,⟨rfl,rfl,rfl⟩,rfl,fun e m=>q e (by simpa using m),p,by rw[ks];exact nd⟩,na, ?_,ar⟩;rw[<-ar.length];exact Jy z (by decide)
structure qg(K:W.Frag)(x qual:Str)(st:Stmt)(f:Addr):Prop where
 ex:∃(oc:Value) (od:ZR) (kV doc pm:Value) (an:ZR) (cdv ct:Value) (osl:ZY),K.lookup f=some ⟨oc,od,.func (W.fnOf x qual (Vx st) (Z0 st) (Zx st) .none kV doc pm an cdv ct),osl⟩/\W.codeIn K cdv qual=true
theorem qg.mk'{K:W.Frag}{x qual:Str}{st:Stmt}{f:Addr}{oc:Value}{od an:ZR}{osl:ZY}{kV doc pm cdv ct:Value}(l:K.lookup f=some ⟨oc,od,.func (W.fnOf x qual (Vx st) (Z0 st) (Zx st) .none kV doc pm an cdv ct),osl⟩)(c:W.codeIn K cdv qual=true):qg K x qual st f:=⟨⟨oc,od,kV,doc,pm,an,cdv,ct,osl,l,c⟩⟩
theorem qg.i{K:W.Frag}{fi:Addr}{fld name qual y:Str}{st:Stmt}(F:qg K name qual st fi)(S:U2 [("self" : Str),y] [("self" : Str),y] (Zx st))(l1:(Zx st).names.lookup ("self" : Str)=some NameKind.local)(l2:(Zx st).names.lookup y=some NameKind.local)(ly:(y == ("__debug__" : Str))=false)(hb:∃p1 p2 p3 p4,Z0 st=[.Assign [.Attribute (.Name "self" p1) fld p2] (.Name y p3) p4])
  (ba:∀(kV doc pm:Value) (an:ZR) (cdv ct:Value) (us:ZK),us.length=2->bindArgs (W.fnOf name qual (Vx st) (Z0 st) (Zx st) .none kV doc pm an cdv ct) ⟨us,[]⟩=pure ([("self" : Str),y].zip us)):dj K fi fld :=
 let ⟨p1,p2,p3,p4,hb⟩:=hb
 let ⟨oc,od,kV,doc,pm,an,cdv,ct,osl,l,c⟩:=F.ex
 ⟨⟨name,qual,y,st,oc,od,kV,doc,pm,an,cdv,ct,osl,p1,p2,p3,p4,l,c,S,l1,l2,ly,hb,ba kV doc pm an cdv ct⟩⟩
theorem xf_of{d:qf}{C M fi:Addr}(hm:g.mg d.c=some (.ref C))(x:xOk g.K C [.ref C,.ref M] d.fld=true)(i:W.findIn g.K (.ref C) "__init__" = some (some (.ref fi)))(fn:W.isFn g.K (.ref fi)=true)(I:dj g.K fi d.fld):XF g d C fi :=
 have ox:=Ed (as:=[M]) x
 ⟨hm,ox.xc,ox.no,ox.made,i,fn,ox.kp,I⟩
theorem yt{d:qf}{C M:Addr}(x:xOk g.K C [.ref C,.ref M] d.fld=true):W.mroIn g.K C (.ref C)=some true:=by
 rw[(Ed (as:=[M]) x).mro];exact congrArg some (by simp)
theorem uv{f:Addr}{fd:FuncData}{i:Nat}{st:Stmt}(X:g.K.In g.base)(G:g.base.Ns mainGlobals g.mg)(A:FA g.K C9 st f fd){p0 p1 p2 p3 p4:Pos}(e1:Vx st=ux "member" p0)(e2:Z0 st=[.Return (some (uq "member" p1 p2 p3)) p4])(e3:Zx st=uz "member"):ij g:=by
 obtain⟨oc,od,kV,doc,pm,an,cdv,ct,osl,rfl,lk,Rq⟩:=A.F.ex;rw[e1,e2,e3]at lk;exact⟨f,_,_,kV,doc,pm,cdv,ct,oc,an,od,osl,_,_,_,_,_,lk,Rq,W.mg_of X G A.a⟩
end
end PV
namespace PV
open PySem
abbrev Zb(a:E):E:=.cons a .nil
abbrev Zj(a b:E):E:=.cons a (.cons b .nil)
abbrev Gy(a b c:E):E:=.cons a (.cons b (.cons c .nil))
abbrev dg(a b c d:E):E:=.cons a (.cons b (.cons c (.cons d .nil)))
abbrev ki(i:Int):E:=.k (.int i)
abbrev ks(x:Str):E:=.k (.str x)
abbrev Zw(a b:E):E:=.pr .ix (.cons a (.cons b .nil))
noncomputable abbrev Z3(a b:E):E:=.pr (.cm .eq) (.cons a (.cons b .nil))
abbrev Gd(a b:E):E:=.pr (.op .add) (.cons a (.cons b .nil))
abbrev Jh(a:E):E:=.pr .len (.cons a .nil)
abbrev Zn(a:S):S:=.seq a .nil
end PV
namespace PV
open PySem PySem.Spec PyProof.Rows L2
theorem Iq{j:Type}{o:Option j}{Q Q':j->Prop}(h:on o Q)(q:∀x,Q x->Q' x):on o Q':=by
 obtain⟨a,e,h⟩:=Za h;rw[e];exact q a h
theorem Ec{body:T->P->(Option T->P->Prop)->Prop}(I:ZZ->ZZ->P->Prop)(st:∀x r acc p K,I (x::r) acc p->(∀y p',I r (acc++[y]) p'->K (some y) p')->(∀p',I r acc p'->K none p')->body x p K) :
  ∀(xs acc:ZZ) (p:P) (Q:ZZ->P->Prop),I xs acc p->(∀acc p,I [] acc p->Q acc p)->Z6 body xs acc p Q
 | [],acc,p,Q,h,q=>q acc p h
 | x::r,acc,p,Q,h,q=>st x r acc p _ h (fun y p' h'=>Ec I st r (acc++[y]) p' Q h' q) fun p' h'=>Ec I st r acc p' Q h' q
theorem jf{body:T->P->En->Prop}(I:ZZ->P->Prop)(B:P->Prop)(R:Sl->P->Prop)
  (st:∀x r p (D:En),I (x::r) p->(∀q,I r q->D.nx q)->(∀q,I r q->D.ct q)->(∀q,B q->D.bk q)->(∀s q,R s q->D.rt s q)->body x p D) :
  ∀(xs:ZZ) (p:P) (D:En),I xs p->(∀q,I [] q->D.nx q)->(∀q,B q->D.nx q)->(∀s q,R s q->D.rt s q)->Lh body xs p D
 | [],p,D,h,q,_,_=>q p h
 | x::r,p,D,h,q,b,t=>st x r p _ h (fun p' h'=>jf I B R st r p' D h' q b t) (fun p' h'=>jf I B R st r p' D h' q b t) b t
theorem Bx{body:T->P->(Option T->P->Prop)->Prop}{xs:ZZ}{p:P}{Q:ZZ->P->Prop}(I:ZZ->ZZ->P->Prop)(h:I xs [] p)(st:∀x r acc p K,I (x::r) acc p->(∀y p',I r (acc++[y]) p'->K (some y) p')->(∀p',I r acc p'->K none p')->body x p K)(q:∀acc p,I [] acc p->Q acc p):Z6 body xs [] p Q :=
 Ec I st xs [] p Q h q
def cN(c:(Sl×ZZ->Prop)->(Lc->Prop)->Prop)(Q:Sl×ZZ->Prop):Prop:=∀(R:Sl×ZZ->Prop) (X:Lc->Prop),(∀x,Q x->R x)->c R X
def cNX(c:(Sl×ZZ->Prop)->(Lc->Prop)->Prop)(Q:Sl×ZZ->Prop)(Z:Lc->Prop):Prop:=∀(R:Sl×ZZ->Prop) (X:Lc->Prop),(∀x,Q x->R x)->(∀e,Z e->X e)->c R X
def wF(d:Df)(w:W)(as:List Sl)(Q:Sl×ZZ->Prop):Prop:=∀R:Sl×ZZ->Prop,(∀x,Q x->R x)->Wy d w as R
section
variable{c:(Sl×ZZ->Prop)->(Lc->Prop)->Prop}{Q R:Sl×ZZ->Prop}{X Z:Lc->Prop}
theorem Zg(h:cN c Q)(q:∀x,Q x->R x):cC c R X:=h R X q
theorem callX(h:cNX c Q Z)(q:∀x,Q x->R x)(z:∀e,Z e->X e):cC c R X:=h R X q z
theorem callW{tab:Str->Option Df}{gl:Str->Option T}{n:Nat}{f:Str}{as:List Sl}{d:Df}(e:tab f=some d)(h:∀xe,wF d ⟨Cn tab gl n,gl,xe⟩ as Q):cN (Cn tab gl (n+1) f as) Q:=fun R X q=>Zm e (h _ R q)
theorem callWX{tab:Str->Option Df}{gl:Str->Option T}{n:Nat}{f:Str}{as:List Sl}{d:Df}(e:tab f=some d)(h:∀X:Lc->Prop,(∀e,Z e->X e)->wF d ⟨Cn tab gl n,gl,fun e _=>X e⟩ as Q):cNX (Cn tab gl (n+1) f as) Q Z:=fun R X q z=>Zm e (h X z R q)
end
theorem Ml(a:Int):∀zs:ZT,Lm (.int a) (zs.map .int)=some (zs.any fun z=>decide (z=a))
 | []=>rfl
 | z::zs=>by
  show (Lm (.int a) (zs.map .int)).map (decide (z=a) || ·)=_;rw[Ml a zs];rfl
theorem Fs(a:Int)(zs:ZT):K5 (.int a) (.lst (zs.map .int))=some (zs.any fun z=>decide (z=a)):=Ml a zs
theorem Oh(a:Int)(zs:ZT):K5 (.int a) (.tup (zs.map .int))=some (zs.any fun z=>decide (z=a)):=Ml a zs
theorem strs_map:∀ss:ZG,Mi (ss.map .str)=some ss
 | []=>rfl
 | s::ss=>by show (Mi (ss.map .str)).map (s::·)=_;rw[strs_map ss];rfl
theorem ints_map:∀ss:ZT,G6 (ss.map .int)=some ss
 | []=>rfl
 | s::ss=>by show (G6 (ss.map .int)).map (s::·)=_;rw[ints_map ss];rfl
theorem zi(s:Str)(ss:ZG):G6 ((s::ss).map .str)=none:=rfl
theorem srt_ints(zs:ZT)(h:zs.length<64):Cr (zs.map .int)=some ((SRT.Mw zs).map .int):=by
 unfold Cr;rw[if_pos (by rw[Zu];exact h),ints_map]
theorem srt_strs(ss:ZG)(h:ss.length<64):Cr (ss.map .str)=some ((SRT.Z7 ss).map .str):=by
 unfold Cr;rw[if_pos (by rw[Zu];exact h)];cases ss with
 | nil=>rfl
 | cons s ss=>rw[zi,strs_map];rfl
theorem H0{j:Type}{xs:List j}{i:Int}(h0:0<=i)(h1:i<xs.length):∃x,R9 xs i=some x/\xs[i.toNat]?=some x/\x∈xs:=by
 have hj:i.toNat<xs.length:=by omega
 refine⟨xs[i.toNat], ?_,Wi hj,G0e hj⟩;unfold R9 ug;rw[if_pos h0,if_pos h1];exact Wi hj
theorem ixP{ts:ZZ}{r:Int}{Q:Sl->Prop}(h0:0<=r)(h1:r<ts.length)(q:∀x,ts[r.toNat]?=some x->x∈ts->Q (.f x)):on ((T5 (.lst ts) (.int r)).map Sl.f) Q:=by
 obtain⟨x,hx,e,mx⟩:=H0 h0 h1;exact Zm (a:=Sl.f x) (by show (R9 _ _).map _=_;rw[hx];rfl) (q x e mx)
theorem w8{n:Nat}{d:Nat}{i:Int}(h0:0<=i)(h1:i<=n):HT.Y7 n d (some i)=i.toNat:=by
 obtain⟨k,rfl⟩:=Int.eq_ofNat_of_zero_le h0;rw[HT.l8,XQ];omega
theorem cut_to{ts:ZZ}{i:Int}(h0:0<=i)(h1:i<=ts.length):Yp ts none (some i)=ts.take i.toNat:=by
 unfold Yp;rw[w8 h0 h1];show (ts.drop 0).take (i.toNat - 0)=_;simp
theorem Nn{ts:ZZ}{i:Int}(h0:0<=i)(h1:i<=ts.length):Yp ts (some i) none=ts.drop i.toNat:=by
 unfold Yp;rw[w8 h0 h1];show (ts.drop i.toNat).take (ts.length - i.toNat)=_;rw[List.take_of_length_le (by rw[List.length_drop];omega)]
theorem uy{a:T}{l:ZZ}:(T5 (.tup (a::l)) (.int 0)).map Sl.f=some (.f a):=by
 show (R9 _ _).map _=_;unfold R9 ug;rw[if_pos (by omega),if_pos (by rw[Jk];omega)]
 rfl
theorem ix_snd{a b:T}{l:ZZ}:(T5 (.tup (a::b::l)) (.int 1)).map Sl.f=some (.f b):=by
 show (R9 _ _).map _=_;unfold R9 ug;rw[if_pos (by omega),if_pos (by rw[Jk,Jk];omega)]
 rfl
theorem ixE{ts:ZZ}{r:Int}{x:T}(e:R9 ts r=some x):(T5 (.lst ts) (.int r)).map Sl.f=some (.f x):=by show (R9 ts r).map _=_;rw[e];rfl
theorem ixTE{ts:ZZ}{r:Int}{x:T}(e:R9 ts r=some x):(T5 (.tup ts) (.int r)).map Sl.f=some (.f x):=by show (R9 ts r).map _=_;rw[e];rfl
theorem ixDE{XY:ZX}{k:Str}{x:T}(e:Zv XY (.inr k)=some x):(T5 (.dct XY) (.str k)).map Sl.f=some (.f x):=by show (Zv XY (.inr k)).map _=_;rw[e];rfl
theorem notinP{a:Int}{zs:ZT}{Q:Sl->Prop}(q:Q (.f (.bl (!(zs.any fun z=>decide (z=a)))))):on ((Jq .notin (.int a) (.lst (zs.map .int))).map fun r=>Sl.f (.bl r)) Q:=Zm (by show ((K5 _ _).map not).map _=_;rw[Fs];rfl) q
theorem sx{a:Int}{zs:ZT}{Q:Sl->Prop}(q:Q (.f (.bl (!(zs.any fun z=>decide (z=a)))))):on ((Jq .notin (.int a) (.tup (zs.map .int))).map fun r=>Sl.f (.bl r)) Q:=Zm (by show ((K5 _ _).map not).map _=_;rw[Oh];rfl) q
theorem Ud{a:T}{l:ZZ}{Q:Sl->Prop}(q:Q (.f a)):on ((T5 (.tup (a::l)) (.int 0)).map Sl.f) Q:=Zm uy q
theorem Bg{a b:T}{l:ZZ}{Q:Sl->Prop}(q:Q (.f b)):on ((T5 (.tup (a::b::l)) (.int 1)).map Sl.f) Q:=Zm ix_snd q
theorem ixLP{ts:ZZ}{r:Int}{x:T}{Q:Sl->Prop}(e:R9 ts r=some x)(q:Q (.f x)):on ((T5 (.lst ts) (.int r)).map Sl.f) Q:=Zm (ixE e) q
theorem uk{ts:ZZ}{r:Int}{x:T}{Q:Sl->Prop}(e:R9 ts r=some x)(q:Q (.f x)):on ((T5 (.tup ts) (.int r)).map Sl.f) Q:=Zm (ixTE e) q
theorem Ka{XY:ZX}{k:Str}{x:T}{Q:Sl->Prop}(e:Zv XY (.inr k)=some x)(q:Q (.f x)):on ((T5 (.dct XY) (.str k)).map Sl.f) Q:=Zm (ixDE e) q
theorem Zy{d:Df}{w:W}{as:List Sl}{Q:Sl×ZZ->Prop}(ha:as.length=d.ar)(h:∀D:En,(∀r p,on (fin as r p) Q->D.rt r p)->(∀p,on (fin as (.f .non) p) Q->D.nx p)->wS w (Yk as) d.code (as++List.replicate (d.n - d.ar) .no) D):wF d w as Q:=fun R k=>by
 unfold Wy;rw[if_pos ha];exact h _ (fun _ _ z=>Iq z k) fun _ z=>Iq z k
theorem Ai{ts us:ZZ}{Q:Sl->Prop}(e:Cr ts=some us)(q:Q (.o (.lst us))):on ((Cr ts).map fun us=>Sl.o (.lst us)) Q:=Zm (by rw[e];rfl) q
theorem rngP{m:Int}{Q:ZZ->Prop}(h0:-1000000<=m)(h1:m<=1000000)(q:Q ((List.range m.toNat).map fun k=>T.int (k:Nat))):on (ry (.int m)) Q:=by
 refine Zm (a:=(List.range m.toNat).map fun k=>T.int (k:Nat)) ?_ q;show (if -1000000<=m/\m<=1000000 then some ((List.range m.toNat).map fun k=>T.int (k:Nat)) else none)=_;rw[if_pos ⟨h0,h1⟩]
theorem ifS{c:Prop}[Decidable c]{j:Type}{a:j}{o:Option j}{Q:j->Prop}(h:c)(q:Q a):on (if c then some a else o) Q:=by rw[if_pos h];exact q
theorem Ld{a b:ZZ}{Q:Sl->Prop}(h:a.length+b.length<=sizeLine)(q:Q (.o (.lst (a++b)))):on (dn .add (.lst a) (.lst b)) Q:=ifS h q
theorem R4{a b:ZZ}{Q:Sl->Prop}(h:a.length+b.length<=sizeLine)(q:Q (.f (.tup (a++b)))):on (dn .add (.tup a) (.tup b)) Q:=ifS h q
theorem addSP{a b:Str}{Q:Sl->Prop}(h:a.length+b.length<=sizeLine)(q:Q (.f (.str (a++b)))):on (dn .add (.str a) (.str b)) Q:=ifS h q
theorem vb{p:P}{i:Nat}{t:T}(h:p[i]?=some (.o t)\/p[i]?=some (.f t)):read p i=some (t,p.set i (.f t)):=by
 rcases h with h | h
 .unfold read;rw[h]
 .have e:p.set i (.f t)=p:=by
   refine List.ext_getElem? fun j=>?_;by_cases z:i=j
   .subst z;rw[List.getElem?_set_self (dw.mp h).1,h]
   .rw[List.getElem?_set_ne z]
  unfold read;rw[h,e]
def OF(s:Sl)(t:T):Prop:=s=.o t\/s=.f t
theorem P2{p:P}{i:Nat}{s:Sl}{t:T}{Q:T×P->Prop}(h:OF s t)(e:p[i]?=some s)(q:Q (t,p.set i (.f t))):on (read p i) Q:=by
 refine Zm (vb ?_) q;rcases h with rfl | rfl
 .exact .inl e
 .exact .inr e
theorem Zi{body:T->P->(Option T->P->Prop)->Prop}{xs:ZZ}{p:P}{Q:ZZ->P->Prop}(g:T->T)(St:P->Prop)(h0:St p)(st:∀x∈xs,∀p K,St p->(∀p',St p'->K (some (g x)) p')->body x p K)(q:∀p,St p->Q (xs.map g) p):Z6 body xs [] p Q:=by
 refine Bx (fun r acc p=>St p/\(∀x∈r,x∈xs)/\acc++r.map g=xs.map g) ⟨h0,fun _ m=>m,rfl⟩ (fun x r acc p K hi ky _=>?_) fun acc p hi=>?_
 .obtain⟨h1,h2,h3⟩:=hi;exact st x (h2 x Yn) p K h1 fun p' h'=>ky _ p' ⟨h',fun y m=>h2 y (Vk _ m),by rw[ZI];exact h3⟩
 .obtain⟨h1,_,h3⟩:=hi;rw[List.map_nil,ZE]at h3;rw[h3];exact q p h1
theorem jb{body:T->P->(Option T->P->Prop)->Prop}{xs:ZZ}{p:P}{Q:ZZ->P->Prop}(g:T->Option T)(St:P->Prop)(h0:St p)(st:∀x∈xs,∀p K,St p->(∀p',St p'->K (g x) p')->body x p K)(q:∀p,St p->Q (xs.filterMap g) p):Z6 body xs [] p Q:=by
 refine Bx (fun r acc p=>St p/\(∀x∈r,x∈xs)/\acc++r.filterMap g=xs.filterMap g) ⟨h0,fun _ m=>m,rfl⟩ (fun x r acc p K hi ky kn=>?_) fun acc p hi=>?_
 .obtain⟨h1,h2,h3⟩:=hi;refine st x (h2 x Yn) p K h1 fun p' h'=>?_;cases e:g x with
  | some y=>exact ky y p' ⟨h',fun y m=>h2 y (Vk _ m),by rw[ZI];rw[List.filterMap_cons_some e]at h3;exact h3⟩
  | none=>exact kn p' ⟨h',fun y m=>h2 y (Vk _ m),by rw[List.filterMap_cons_none e]at h3;exact h3⟩
 .obtain⟨h1,_,h3⟩:=hi;rw[List.filterMap_nil,ZE]at h3;rw[h3];exact q p h1
theorem R3(f:T->Bool):∀xs:ZZ,allB (xs.map fun x=>.bl (f x))=some (xs.map f)
 | []=>rfl
 | x::xs=>by show (allB (xs.map fun x=>.bl (f x))).map (f x::·)=_;rw[R3 f xs];rfl
theorem me{f:T->Bool}{xs:ZZ}{Q:Sl->Prop}(q:Q (.f (.bl (xs.all f)))):on ((allB (xs.map fun x=>.bl (f x))).map fun bs=>Sl.f (.bl (bs.all id))) Q:=Zm (by rw[R3];show some (Sl.f (.bl ((xs.map f).all id)))=_;rw[List.all_map];rfl) q
theorem H6{f:T->Bool}{xs:ZZ}{Q:Sl->Prop}(q:Q (.f (.bl (xs.any f)))):on ((allB (xs.map fun x=>.bl (f x))).map fun bs=>Sl.f (.bl (bs.any id))) Q:=Zm (by rw[R3];show some (Sl.f (.bl ((xs.map f).any id)))=_;rw[List.any_map];rfl) q
def okK:Key->Prop
 | .inl i=>i.natAbs<=10 ^ 19
 | .inr x=>∀c∈x.cps.toList,c<16 ^ 8
def wtK:Key->Nat
 | .inl _=>70
 | .inr x=>x.length
mutual
def okT(n:Nat):T->Prop
 | .int i=>i.natAbs<=10 ^ 19
 | .str x=>∀c∈x.cps.toList,c<16 ^ 8
 | .tup ts=>ts.length<=n/\v5 n ts
 | .lst ts=>ts.length<=n/\v5 n ts
 | .dct XY=>r8 n XY
 | .fn _=>False
 | .exn _ _=>False
 | .non=>True
 | .bl _=>True
def v5(n:Nat):ZZ->Prop
 | []=>True
 | t::r=>okT n t/\v5 n r
def r8(n:Nat):ZX->Prop
 | []=>True
 | (k,t)::r=>okK k/\okT n t/\r8 n r
end
mutual
noncomputable def dy:T->Nat
 | .int _=>70
 | .str x=>x.length
 | .tup ts=>Et ts
 | .lst ts=>Et ts
 | .dct XY=>Xt XY
 | .fn _=>0
 | .exn _ _=>0
 | .non=>0
 | .bl _=>0
noncomputable def Et:ZZ->Nat
 | []=>0
 | t::r=>dy t+1+Et r
noncomputable def Xt:ZX->Nat
 | []=>0
 | (k,t)::r=>wtK k+dy t+2+Xt r
end
mutual
noncomputable def dpT:T->Nat
 | .tup ts=>xb ts+1
 | .lst ts=>xb ts+1
 | .dct XY=>fu XY+1
 | _=>0
noncomputable def xb:ZZ->Nat
 | []=>0
 | t::r=>max (dpT t) (xb r)
noncomputable def fu:ZX->Nat
 | []=>0
 | (_,t)::r=>max (dpT t) (fu r)
end
theorem T6{i:Int}(h:i.natAbs<=10 ^ 19):(if i == 0 then 0 else i.natAbs.log2+1)<=70/\i.natAbs.log2<1920:=by
 have:i.natAbs.log2<64:=by
  by_cases z:i.natAbs=0
  .rw[z];decide
  .exact(Nat.log2_lt z).mpr (N0o h (by decide))
 exact⟨by split<;>omega,by omega⟩
theorem lenS(s:String):(Str.ofString s).length=s.toList.length:=by
 rw[Str.ofString_eq_toList];simp[Str.length]
theorem Lz{i:Int}(h:i.natAbs<=10 ^ 19):(PyData.shown (.int i)).length<=30:=by
 show (Str.ofString (toString i)).length<=30;have hb:i.natAbs<10 ^ 20:=N0o h (by decide);rw[lenS];have hd:(Nat.toDigits 10 i.natAbs).length<=20:=(Nat.length_toDigits_le_iff (by decide) (by decide)).mpr hb;cases i with
 | ofNat n =>
  show (Nat.repr n).toList.length<=30;rw[Nat.toList_repr];exact Jy hd (by decide)
 | negSucc n =>
  show ("-" ++ Nat.repr (n+1)).toList.length<=30;rw[String.toList_append,Gn,Nat.toList_repr];have hd:(Nat.toDigits 10 (n+1)).length<=20:=hd;show 1+_<=30;omega
structure Shn(n:Nat)(t:T)(x:PyData):Prop where
 e:toPy t=some x
 s:x.showable=true
 l:x.leavesShort 30=true
 w:x.weight<=dy t
 d:x.depth=dpT t
theorem uw{k:Key}(h:okK k):(A4 k).showable=true/\(A4 k).leavesShort 30=true/\(A4 k).weight<=wtK k/\(A4 k).depth=0:=by
 cases k with
 | inl i=>exact⟨Ma (T6 h).2,Ma (Lz h),(T6 h).1,rfl⟩
 | inr x=>exact⟨rfl,tj.mpr fun c m=>Ma (h c m),Gc _,rfl⟩
mutual
theorem Fw(n:Nat):∀t:T,okT n t->∃x,Shn n t x
 | .int i,h=>⟨.int i,rfl,Ma (T6 h).2,Ma (Lz h),(T6 h).1,rfl⟩
 | .str x,h=>⟨.str x,rfl,rfl,tj.mpr fun c m=>Ma (h c m),Gc _,rfl⟩
 | .non,_=>⟨.none,rfl,rfl,rfl,Gc _,rfl⟩
 | .bl b,_=>⟨.bool b,rfl,rfl,rfl,Gc _,rfl⟩
 | .fn _,h=>h.elim
 | .exn _ _,h=>h.elim
 | .tup ts,h=>by
  obtain⟨xs,a,b,c,d,e⟩:=C4 n ts h.2;exact⟨.tuple xs,by show (Uc ts).map _=_;rw[a];rfl,b,c,d,by show PyData.depthAll xs+1=_;rw[e];rfl⟩
 | .lst ts,h=>by
  obtain⟨xs,a,b,c,d,e⟩:=C4 n ts h.2;exact⟨.list xs,by show (Uc ts).map _=_;rw[a];rfl,b,c,d,by show PyData.depthAll xs+1=_;rw[e];rfl⟩
 | .dct XY,h=>by
  obtain⟨xs,a,b,c,d,e⟩:=P7 n XY h;exact⟨.dict xs,by show (D5 XY).map _=_;rw[a];rfl,b,c,d,by show PyData.depthKv xs+1=_;rw[e];rfl⟩
theorem C4(n:Nat):∀ts:ZZ,v5 n ts->∃xs,Uc ts=some xs/\PyData.showableAll xs=true/\PyData.leavesShortAll 30 xs=true/\PyData.weightAll xs<=Et ts/\PyData.depthAll xs=xb ts
 | [],_=>⟨[],rfl,rfl,rfl,Gc _,rfl⟩
 | t::ts,h=>by
  obtain⟨x,a1,b1,c1,d1,e1⟩:=Fw n t h.1;obtain⟨xs,a,b,c,d,e⟩:=C4 n ts h.2;refine⟨x::xs,by show (toPy t).bind _=_;rw[a1];show (Uc ts).map _=_;rw[a];rfl,by show (x.showable && _)=true;rw[b1,b];rfl,by show (x.leavesShort 30 && _)=true;rw[c1,c];rfl, ?_, ?_⟩
  .show x.weight+1+PyData.weightAll xs<=dy t+1+Et ts;omega
  .show max x.depth (PyData.depthAll xs)=max (dpT t) (xb ts);rw[e1,e]
theorem P7(n:Nat):∀ts:ZX,r8 n ts->∃xs,D5 ts=some xs/\PyData.showableKv xs=true/\PyData.leavesShortKv 30 xs=true/\PyData.weightKv xs<=Xt ts/\PyData.depthKv xs=fu ts
 | [],_=>⟨[],rfl,rfl,rfl,Gc _,rfl⟩
 | (k,t)::ts,h=>by
  obtain⟨x,a1,b1,c1,d1,e1⟩:=Fw n t h.2.1;obtain⟨xs,a,b,c,d,e⟩:=P7 n ts h.2.2;obtain⟨k1,k2,k3,k4⟩:=uw h.1;refine⟨(A4 k,x)::xs,by show (toPy t).bind _=_;rw[a1];show (D5 ts).map _=_;rw[a];rfl,by show ((A4 k).showable && x.showable && _)=true;rw[k1,b1,b];rfl,by show ((A4 k).leavesShort 30 && x.leavesShort 30 && _)=true;rw[k2,c1,c];rfl, ?_, ?_⟩
  .show (A4 k).weight+x.weight+2+PyData.weightKv xs<=wtK k+dy t+2+Xt ts;omega
  .show max (max (A4 k).depth x.depth) (PyData.depthKv xs)=max (dpT t) (fu ts);rw[e1,e,k4,Nat.zero_max]
end
theorem rpT_ok{n:Nat}{t:T}(h:okT n t)(hw:dy t<=400000)(hd:dpT t<=100):∃z,rpT t=some z:=by
 obtain⟨x,e,s,l,w,d⟩:=Fw n t h;have:=PyData.shown_le 30 (by decide) x l;refine⟨x.shown, ?_⟩;unfold rpT;rw[e];show (if _ then _ else _)=_;rw[if_pos ⟨s,by rw[sizeLine_eq];omega,by rw[d];exact hd⟩]
theorem Nc{a:ZZ}{lo hi:ZC}{t:T}(m:t∈Yp a lo hi):t∈a:=List.mem_of_mem_drop (List.mem_of_mem_take m)
theorem Um{ts:ZZ}{lo hi:ZC}:(Yp ts lo hi).length<=ts.length:=by
 unfold Yp;rw[dz,List.length_drop];omega
end PV
namespace PV
open PySem PySem.Spec PyProof.Rows L2 SRT
theorem le_int{a b:Int}:(!decide (b<a))=decide (a<=b):=by
 by_cases h:a<=b
 .rw[Ma h,Cw (by omega)];rfl
 .rw[Cw h,Ma (by omega)];rfl
theorem bq(a b:Int):Jq .le (.int a) (.int b)=some (decide (a<=b)):=by
 show some (!decide (b<a))=_;rw[le_int]
theorem c2P{a b c:Int}{Q:Sl->Prop}(q:Q (.f (.bl (decide (a<=b) && decide (b<=c))))):on (W5 (.c2 .le .le) [.int a,.int b,.int c]) Q:=by
 refine Zm ?_ q;show ((Jq .le (.int a) (.int b)).bind fun r=>if r=true then (Jq .le (.int b) (.int c)).map fun r=>Sl.f (.bl r) else some (Sl.f (.bl false)))=_;rw[bq,bq];show (if decide (a<=b)=true then some (Sl.f (.bl (decide (b<=c)))) else _)=_;by_cases h:a<=b
 .rw[Ma h];rfl
 .rw[Cw h];rfl
theorem lenP{x:Str}{Q:Sl->Prop}(h:x.length<=sizeLine)(q:Q (.f (.int x.length))):on (W5 .len [.str x]) Q:=by
 have e:yh (.str x)=some x.length:=if_pos h;refine Zm ?_ q;show ((yh (.str x)).bind fun a=>some (a:Int)).map (fun n=>Sl.f (.int n))=_;rw[e]
 rfl
theorem jg{x:Str}{Q:ZZ->Prop}(h:x.length<=sizeLine)(q:Q (x.cps.toList.map fun c=>.str ⟨#[c]⟩)):on (Px (.str x)) Q:=Zm (by show (if x.length<=sizeLine then some _ else none)=_;rw[if_pos h]) q
theorem xq{gl:Str->Option T}{x:Str}{t:T}{Q:T->Prop}(e:gl x=some t)(q:Q t):on (gl x) Q:=Zm e q
theorem yj{b:Bool}(h:(!b)=true):b=false:=by
 cases b with
 | true=>cases h
 | false=>rfl
theorem Oz{b:Bool}(h:(!b)=false):b=true:=by
 cases b with
 | true=>rfl
 | false=>cases h
end PV
namespace K62
open PySem PySem.Spec PyProof.Rows L2 PV
def Ha:S:=(Zn (.ret (.and (.pr (.isi .int) (Zb (.v 0))) (.and (.not (.pr (.isi .bool) (Zb (.v 0)))) (.pr (.c2 .le .le) (Gy (.v 1) (.v 0) (.v 2)))))))
def Vd:Df:=⟨3,3,Ha⟩
def Tn:S:=(Zn (.ret (.call "is_whole" (Gy (.v 0) (.pr .neg (Zb (.g "GREATEST_WHOLE"))) (.g "GREATEST_WHOLE")))))
def Ya:Df:=⟨1,1,Tn⟩
def So:S:=(Zn (.ret (.call "is_whole" (Gy (.v 0) (ki 1) (.g "GREATEST_NUMBER")))))
def U0:Df:=⟨1,1,So⟩
noncomputable def xu:S:=(Zn (.ret (.and (.pr (.isi .str) (Zb (.v 0))) (.and (.pr (.cm .le) (Zj (Jh (.v 0)) (.v 1))) (.pr .all (Zb (.comp (.v 0) (.v 0) .nil (.pr (.cm .isin) (Zj (.v 0) (.g "SIGNS"))) [none] ["sign"])))))))
def Dl:Df:=⟨2,2,xu⟩
noncomputable def xa:S:=(.seq (.ite (.or (.not (.pr (.isi .str) (Zb (.v 0)))) (.not (.pr (.c2 .le .le) (Gy (ki 1) (Jh (.v 0)) (.g "LONGEST_NAME")))))
    (Zn (.ret (.k (.bl false))))
    .nil)
   (.seq (.ret (.pr .all (Zb (.comp (.v 0) (.v 0) .nil (.pr (.cm .isin) (Zj (.v 0) (.g "LETTERS"))) [none] ["sign"]))))
   .nil))
def Ux:Df:=⟨1,1,xa⟩
noncomputable def ai:S:=(Zn (.ret (.pr .all (Zb (.comp (.tup (Zj (.v 0) (.v 1))) (.itr .zip (Zj (.v 0) (.pr (.sl true false) (Zj (.v 0) (ki 1))))) .nil (.pr (.cm .lt) (Zj (.v 0) (.v 1))) [none,none] ["one","other"])))))
def Nb:Df:=⟨1,1,ai⟩
noncomputable def Ho:S:=(.seq (.ite (.or (.not (.pr (.isi .tuple) (Zb (.v 0)))) (Z3 (Jh (.v 0)) (ki 0)))
    (Zn (.ret (.k (.bl false))))
    .nil)
   (.seq (.set 1 (Zw (.v 0) (ki 0)))
   (.seq (.ite (Z3 (.v 1) (ks "whole"))
    (Zn (.ret (.and (Z3 (Jh (.v 0)) (ki 3)) (.call "are_bounds" (Zj (Zw (.v 0) (ki 1)) (Zw (.v 0) (ki 2)))))))
    .nil)
   (.seq (.ite (Z3 (.v 1) (ks "truth"))
    (Zn (.ret (Z3 (Jh (.v 0)) (ki 1))))
    .nil)
   (.seq (.ite (Z3 (.v 1) (ks "text"))
    (Zn (.ret (.and (Z3 (Jh (.v 0)) (ki 2)) (.call "is_whole" (Gy (Zw (.v 0) (ki 1)) (ki 0) (.g "LONGEST_TEXT"))))))
    .nil)
   (.seq (.ite (.or (Z3 (.v 1) (ks "row")) (Z3 (.v 1) (ks "map")))
    (Zn (.ret (.and (Z3 (Jh (.v 0)) (ki 3)) (.and (.call "is_name" (Zb (Zw (.v 0) (ki 1)))) (.call "is_whole" (Gy (Zw (.v 0) (ki 2)) (ki 0) (.g "MOST_PARTS")))))))
    .nil)
   (.seq (.ite (Z3 (.v 1) (ks "record"))
    (Zn (.ret (.and (Z3 (Jh (.v 0)) (ki 3)) (.call "are_members" (Gy (Zw (.v 0) (ki 1)) (Zw (.v 0) (ki 2)) (.g "is_field"))))))
    .nil)
   (.seq (.ite (Z3 (.v 1) (ks "choice"))
    (Zn (.ret (.and (Z3 (Jh (.v 0)) (ki 4)) (.and (.call "are_members" (Gy (Zw (.v 0) (ki 1)) (Zw (.v 0) (ki 2)) (.g "is_arm"))) (.pr (.isi .bool) (Zb (Zw (.v 0) (ki 3))))))))
    .nil)
   (.seq (.ret (.k (.bl false)))
   .nil)))))))))
def Gz:Df:=⟨2,1,Ho⟩
def Qr:S:=(Zn (.ret (.and (.call "is_item_whole" (Zb (.v 0))) (.and (.call "is_item_whole" (Zb (.v 1))) (.pr (.cm .le) (Zj (.v 0) (.v 1)))))))
def V9:Df:=⟨2,2,Qr⟩
noncomputable def Wp:S:=(.seq (.ite (.or (.not (.call "is_short_tuple" (Zb (.v 0)))) (.not (.pr .all (Zb (.comp (.v 0) (.v 0) .nil (.cal 1 (Zb (.v 0))) [none,some 2] ["member","is_member"])))))
    (Zn (.ret (.k (.bl false))))
    .nil)
   (.seq (.set 3 (.comp (.v 0) (.v 0) .nil (Zw (.v 0) (ki 0)) [none] ["member"]))
   (.seq (.set 4 (.comp (.v 0) (.v 0) .nil (Zw (.v 0) (ki 1)) [none] ["member"]))
   (.seq (.ret (.and (.call "rises" (Zb (.v 3))) (.and (Z3 (.pr .lset (Zb (.v 4))) (Jh (.v 4))) (.call "is_struck" (Zj (.v 1) (.v 3))))))
   .nil))))
def Yh:Df:=⟨5,3,Wp⟩
noncomputable def Sa:S:=(.seq (.ite (.or (.not (.call "is_short_tuple" (Zb (.v 0)))) (.not (.pr .all (Zb (.comp (.v 0) (.v 0) .nil (.call "is_number" (Zb (.v 0))) [none] ["number"])))))
    (Zn (.ret (.k (.bl false))))
    .nil)
   (.seq (.ret (.and (.call "rises" (Zb (.v 0))) (.not (.pr .any (Zb (.comp (.v 0) (.v 0) .nil (.pr (.cm .isin) (Zj (.v 0) (.v 1))) [none,some 1] ["number","taken"]))))))
   .nil))
def Ue:Df:=⟨2,2,Sa⟩
def Bs:S:=(Zn (.ret (.and (.pr (.isi .tuple) (Zb (.v 0))) (.pr (.cm .le) (Zj (Jh (.v 0)) (.g "MOST_FIELDS"))))))
def Ym:Df:=⟨1,1,Bs⟩
noncomputable def Hi:S:=(Zn (.ret (.and (.pr (.isi .tuple) (Zb (.v 0))) (.and (Z3 (Jh (.v 0)) (ki 4)) (.and (.call "is_arm" (Zb (.pr (.sl false true) (Zj (.v 0) (ki 3))))) (.call "is_default" (Zb (Zw (.v 0) (ki 3)))))))))
def Gx:Df:=⟨1,1,Hi⟩
def Ql:S:=(Zn (.ret (.and (.pr (.isi .tuple) (Zb (.v 0))) (.pr (.cm .le) (Zj (Jh (.v 0)) (ki 1))))))
def V8:Df:=⟨1,1,Ql⟩
noncomputable def b7:S:=(.seq (.ite (.or (.not (.pr (.isi .tuple) (Zb (.v 0)))) (.pr (.cm .ne) (Zj (Jh (.v 0)) (ki 3))))
    (Zn (.ret (.k (.bl false))))
    .nil)
   (.seq (.ret (.and (.call "is_number" (Zb (Zw (.v 0) (ki 0)))) (.and (.call "is_name" (Zb (Zw (.v 0) (ki 1)))) (.call "is_name" (Zb (Zw (.v 0) (ki 2)))))))
   .nil))
def Nt:Df:=⟨1,1,b7⟩
noncomputable def Np:S:=(.seq (.ite (Z3 (Zw (.v 0) (ki 0)) (ks "whole"))
    (Zn (.ret (.call "is_whole" (Gy (.v 1) (Zw (.v 0) (ki 1)) (Zw (.v 0) (ki 2))))))
    .nil)
   (.seq (.ite (Z3 (Zw (.v 0) (ki 0)) (ks "truth"))
    (Zn (.ret (.pr (.isi .bool) (Zb (.v 1)))))
    .nil)
   (.seq (.ret (.and (Z3 (Zw (.v 0) (ki 0)) (ks "text")) (.call "is_text" (Zj (.v 1) (Zw (.v 0) (ki 1))))))
   .nil)))
def Yv:Df:=⟨2,2,Np⟩
noncomputable def Sd:S:=(.seq (.loop (.v 2) (Zw (.v 0) (ki 1))
    (Zn (.ite (Z3 (Zw (.v 2) (ki 0)) (.v 1))
    (Zn (.ret (.mv 2)))
    .nil)))
   (.seq (.ret (.k .non))
   .nil))
def Uh:Df:=⟨3,2,Sd⟩
def Nr:S:=(Zn (.ret (.pr (.cm .ne) (Zj (Zw (.v 0) (ki 3)) (.tup .nil)))))
def Yj:Df:=⟨1,1,Nr⟩
noncomputable def xo:S:=(.seq (.ite (.or (.not (.pr (.isi .tuple) (Zb (.v 0)))) (.pr (.cm .ne) (Zj (Jh (.v 0)) (ki 2))))
    (Zn (.ret (.k (.bl false))))
    .nil)
   (.seq (.set 1 (Zw (.v 0) (ki 0)))
   (.seq (.set 2 (Zw (.v 0) (ki 1)))
   (.seq (.ite (.or (.not (.call "are_forms" (Zb (.v 2)))) (.or (.not (.call "is_name" (Zb (.v 1)))) (.pr (.cm .notin) (Zj (.v 1) (.v 2)))))
    (Zn (.ret (.k (.bl false))))
    .nil)
   (.seq (.ret (.pr .all (Zb (.comp (.v 0) (.itr .vls (Zb (.v 2))) .nil (.call "fits_in" (Zj (.v 0) (.v 1))) [none,some 2] ["shape","forms"]))))
   .nil)))))
def Dr:Df:=⟨3,1,xo⟩
def x7:S:=(Zn (.ret (.pr .get1 (Zj (Zw (.v 0) (ki 1)) (.v 1)))))
def Uj:Df:=⟨2,2,x7⟩
def xi:S:=(Zn (.ret (.and (.call "is_name" (Zb (.v 1))) (.pr (.cm .isin) (Zj (.v 1) (Zw (.v 0) (ki 1)))))))
def Uq:Df:=⟨2,2,xi⟩
noncomputable def Si:S:=(.seq (.ite (.or (.not (.pr (.isi .dict) (Zb (.v 0)))) (.not (.pr (.c2 .le .le) (Gy (ki 1) (Jh (.v 0)) (.g "MOST_FORMS")))))
    (Zn (.ret (.k (.bl false))))
    .nil)
   (.seq (.ret (.pr .all (Zb (.comp (.tup (Zj (.v 0) (.v 1))) (.itr .its (Zb (.v 0))) .nil (.and (.call "is_name" (Zb (.v 0))) (.call "is_shape" (Zb (.v 1)))) [none,none] ["name","shape"]))))
   .nil))
def U1:Df:=⟨1,1,Si⟩
noncomputable def x8:S:=(.seq (.ite (.not (.pr .all (Zb (.comp (.v 0) (.call "ofs_of" (Zb (.v 0))) .nil (.pr (.cm .isin) (Zj (.v 0) (.v 1))) [none,some 1] ["of","forms"]))))
    (Zn (.ret (.k (.bl false))))
    .nil)
   (.seq (.ret (.or (.pr (.cm .ne) (Zj (Zw (.v 0) (ki 0)) (ks "record"))) (.pr .all (Zb (.comp (.v 0) (Zw (.v 0) (ki 1)) .nil (.call "fits_default" (Zj (.v 0) (.v 1))) [none,some 1] ["field","forms"])))))
   .nil))
def Dh:Df:=⟨2,2,x8⟩
noncomputable def bp:S:=(.seq (.ite (.or (Z3 (Zw (.v 0) (ki 0)) (ks "row")) (Z3 (Zw (.v 0) (ki 0)) (ks "map")))
    (Zn (.ret (.lst (Zb (Zw (.v 0) (ki 1))))))
    .nil)
   (.seq (.ite (.or (Z3 (Zw (.v 0) (ki 0)) (ks "record")) (Z3 (Zw (.v 0) (ki 0)) (ks "choice")))
    (Zn (.ret (.comp (.v 0) (Zw (.v 0) (ki 1)) .nil (Zw (.v 0) (ki 2)) [none] ["member"])))
    .nil)
   (.seq (.ret (.lst .nil))
   .nil)))
def Nd:Df:=⟨1,1,bp⟩
noncomputable def Ra:S:=(.seq (.set 2 (Zw (.v 0) (ki 3)))
   (.seq (.set 3 (Zw (.v 1) (Zw (.v 0) (ki 2))))
   (.seq (.ite (Z3 (.v 2) (.tup .nil))
    (Zn (.ret (.k (.bl true))))
    .nil)
   (.seq (.ite (.or (Z3 (Zw (.v 3) (ki 0)) (ks "row")) (Z3 (Zw (.v 3) (ki 0)) (ks "map")))
    (Zn (.ret (Z3 (.v 2) (.tup (Zb (.tup .nil))))))
    .nil)
   (.seq (.ret (.call "is_single_value" (Zj (.v 3) (Zw (.v 2) (ki 0)))))
   .nil)))))
def Vw:Df:=⟨4,2,Ra⟩
noncomputable def Th:S:=(.seq (.ite (.pr (.cm .ne) (Zj (Zw (.v 0) (ki 0)) (Zw (.v 1) (ki 0))))
    (Zn (.ret (ks "root")))
    .nil)
   (.seq (.loop (.v 2) (.pr .sorted (Zb (Zw (.v 0) (ki 1))))
    (.seq (.set 3 (.call "break_between" (Zj (.call "form_of" (Zj (.v 0) (.v 2))) (.call "form_of" (Zj (.v 1) (.v 2))))))
   (.seq (.ite (.pr (.cm .isnt) (Zj (.v 3) (.k .non)))
    (Zn (.ret (.mv 3)))
    .nil)
   .nil)))
   (.seq (.ret (.k .non))
   .nil)))
def Yi:Df:=⟨4,2,Th⟩
noncomputable def Tp:S:=(.seq (.ite (.or (.pr (.cm .is) (Zj (.v 1) (.k .non))) (.pr (.cm .ne) (Zj (Zw (.v 1) (ki 0)) (Zw (.v 0) (ki 0)))))
    (Zn (.ret (ks "form")))
    .nil)
   (.seq (.ite (.and (.pr (.cm .ne) (Zj (Zw (.v 0) (ki 0)) (ks "record"))) (.pr (.cm .ne) (Zj (Zw (.v 0) (ki 0)) (ks "choice"))))
    (Zn (.ret (.k .non)))
    .nil)
   (.seq (.ite (.pr .any (Zb (.comp (.v 0) (Zw (.v 0) (ki 1)) .nil (Z3 (.call "life_in" (Zj (.v 1) (Zw (.v 0) (ki 0)))) (ks "none")) [none,some 1] ["member","later"])))
    (Zn (.ret (ks "lost")))
    .nil)
   (.seq (.ite (.pr .any (Zb (.comp (.v 0) (Zw (.v 0) (ki 2)) .nil (.pr (.cm .notin) (Zj (.v 0) (Zw (.v 1) (ki 2)))) [none,some 1] ["number","later"])))
    (Zn (.ret (ks "back")))
    .nil)
   (.seq (.ite (.pr .any (Zb (.comp (.v 0) (Zw (.v 0) (ki 1)) .nil (.call "is_turned" (Zj (.v 0) (.call "member_of" (Zj (.v 1) (Zw (.v 0) (ki 0)))))) [none,some 1] ["member","later"])))
    (Zn (.ret (ks "turned")))
    .nil)
   (.seq (.ret (.ite (.and (Z3 (Zw (.v 0) (ki 0)) (ks "choice")) (.and (Zw (.v 0) (ki 3)) (.not (Zw (.v 1) (ki 3))))) (ks "shut") (.k .non)))
   .nil))))))
def Ye:Df:=⟨2,2,Tp⟩
def Su:S:=(Zn (.ret (.and (.pr (.cm .isnt) (Zj (.v 1) (.k .non))) (.pr (.cm .ne) (Zj (Zw (.v 1) (ki 2)) (Zw (.v 0) (ki 2)))))))
def Ui:Df:=⟨2,2,Su⟩
noncomputable def Lg:S:=(.seq (.ite (.or (.pr (.cm .is) (Zj (.v 0) (.k .non))) (.pr (.cm .notin) (Zj (Zw (.v 0) (ki 0)) (.tup (Zj (ks "record") (ks "choice"))))))
    (Zn (.ret (ks "none")))
    .nil)
   (.seq (.ite (.pr (.cm .isnt) (Zj (.call "member_of" (Zj (.v 0) (.v 1))) (.k .non)))
    (Zn (.ret (ks "there")))
    .nil)
   (.seq (.ret (.ite (.pr (.cm .isin) (Zj (.v 1) (Zw (.v 0) (ki 2)))) (ks "struck") (ks "none")))
   .nil)))
def Dn:Df:=⟨2,2,Lg⟩
noncomputable def He:S:=(.seq (.ite (.not (.call "is_deed" (Zb (.v 1))))
    (Zn (.ret (ks "deed")))
    .nil)
   (.seq (.ite (Z3 (Zw (.v 1) (ki 0)) (ks "form"))
    (Zn (.ret (.call "fault_of_form" (Zj (.v 0) (.v 1)))))
    .nil)
   (.seq (.ite (.not (.call "is_form" (Zj (.v 0) (Zw (.v 1) (ki 1)))))
    (Zn (.ret (ks "form")))
    .nil)
   (.seq (.set 2 (.call "form_of" (Zj (.v 0) (Zw (.v 1) (ki 1)))))
   (.seq (.ite (.pr (.cm .notin) (Zj (Zw (.v 2) (ki 0)) (.pr (.tix "SORTS_FOR") (Zb (Zw (.v 1) (ki 0))))))
    (Zn (.ret (ks "sort")))
    .nil)
   (.seq (.ite (.not (.call "is_thing_for" (Zb (.v 1))))
    (Zn (.ret (ks "thing")))
    .nil)
   (.seq (.ite (Z3 (Zw (.v 1) (ki 0)) (ks "widen"))
    (Zn (.ret (.ite (.call "is_narrower" (Zj (.v 2) (Zw (.v 1) (ki 2)))) (ks "narrow") (.k .non))))
    .nil)
   (.seq (.ret (.ite (Z3 (Zw (.v 1) (ki 0)) (ks "open")) (.k .non) (.call "fault_of_member" (Zj (.v 2) (.v 1)))))
   .nil))))))))
def Gq:Df:=⟨3,2,He⟩
noncomputable def x6:S:=(.seq (.ite (.or (.not (.pr (.isi .tuple) (Zb (.v 0)))) (.or (Z3 (Jh (.v 0)) (ki 0)) (.not (.pr (.isi .str) (Zb (Zw (.v 0) (ki 0)))))))
    (Zn (.ret (.k (.bl false))))
    .nil)
   (.seq (.ret (.and (.pr (.tin "SIZES") (Zb (Zw (.v 0) (ki 0)))) (Z3 (Jh (.v 0)) (.pr (.tix "SIZES") (Zb (Zw (.v 0) (ki 0)))))))
   .nil))
def Ds:Df:=⟨1,1,x6⟩
noncomputable def Ts:S:=(.seq (.ite (.or (.not (.call "is_name" (Zb (Zw (.v 1) (ki 1))))) (.call "is_form" (Zj (.v 0) (Zw (.v 1) (ki 1)))))
    (Zn (.ret (ks "form")))
    .nil)
   (.seq (.ret (.ite (.call "is_shape" (Zb (Zw (.v 1) (ki 2)))) (.k .non) (ks "thing")))
   .nil))
def Yo:Df:=⟨2,2,Ts⟩
noncomputable def Ru:S:=(.seq (.set 1 (Zw (.v 0) (ki 0)))
   (.seq (.ite (Z3 (.v 1) (ks "add"))
    (Zn (.ret (.call "is_field" (Zb (Zw (.v 0) (ki 2))))))
    .nil)
   (.seq (.ite (Z3 (.v 1) (ks "strike"))
    (Zn (.ret (.call "is_number" (Zb (Zw (.v 0) (ki 2))))))
    .nil)
   (.seq (.ite (Z3 (.v 1) (ks "rename"))
    (Zn (.ret (.and (.call "is_number" (Zb (Zw (.v 0) (ki 2)))) (.call "is_name" (Zb (Zw (.v 0) (ki 3)))))))
    .nil)
   (.seq (.ite (Z3 (.v 1) (ks "widen"))
    (Zn (.ret (.call "is_shape" (Zb (Zw (.v 0) (ki 2))))))
    .nil)
   (.seq (.ret (.or (Z3 (.v 1) (ks "open")) (.call "is_arm" (Zb (Zw (.v 0) (ki 2))))))
   .nil))))))
def Vj:Df:=⟨2,1,Ru⟩
noncomputable def Nu:S:=(.seq (.set 2 (Zw (.v 1) (ki 0)))
   (.seq (.ite (.or (Z3 (.v 2) (ks "strike")) (Z3 (.v 2) (ks "rename")))
    (.seq (.ite (.pr (.cm .is) (Zj (.call "member_of" (Zj (.v 0) (Zw (.v 1) (ki 2)))) (.k .non)))
    (Zn (.ret (ks "number")))
    .nil)
   (.seq (.ret (.ite (.and (Z3 (.v 2) (ks "rename")) (.call "is_name_beside" (Gy (.v 0) (Zw (.v 1) (ki 2)) (Zw (.v 1) (ki 3))))) (ks "name") (.k .non)))
   .nil))
    .nil)
   (.seq (.set 3 (Zw (Zw (.v 1) (ki 2)) (ki 0)))
   (.seq (.ite (.or (.pr (.cm .isnt) (Zj (.call "member_of" (Zj (.v 0) (.v 3))) (.k .non))) (.pr (.cm .isin) (Zj (.v 3) (Zw (.v 0) (ki 2)))))
    (Zn (.ret (ks "number")))
    .nil)
   (.seq (.ite (.call "is_name_beside" (Gy (.v 0) (.v 3) (Zw (Zw (.v 1) (ki 2)) (ki 1))))
    (Zn (.ret (ks "name")))
    .nil)
   (.seq (.ret (.ite (.and (Z3 (.v 2) (ks "add")) (.not (.call "may_be_left_out" (Zb (Zw (.v 1) (ki 2)))))) (ks "must") (.k .non)))
   .nil))))))
def Yy:Df:=⟨4,2,Nu⟩
noncomputable def Bh:S:=(Zn (.ret (.pr .any (Zb (.comp (.v 0) (Zw (.v 0) (ki 1)) .nil (.and (Z3 (Zw (.v 0) (ki 1)) (.v 1)) (.pr (.cm .ne) (Zj (Zw (.v 0) (ki 0)) (.v 2)))) [none,some 2,some 1] ["member","name","number"])))))
def Yd:Df:=⟨3,3,Bh⟩
noncomputable def Wh:S:=(.seq (.set 2 (Zw (.v 0) (ki 0)))
   (.seq (.ite (.pr (.cm .ne) (Zj (Zw (.v 1) (ki 0)) (.v 2)))
    (Zn (.ret (.k (.bl true))))
    .nil)
   (.seq (.ite (Z3 (.v 2) (ks "whole"))
    (Zn (.ret (.or (.pr (.cm .gt) (Zj (Zw (.v 1) (ki 1)) (Zw (.v 0) (ki 1)))) (.pr (.cm .lt) (Zj (Zw (.v 1) (ki 2)) (Zw (.v 0) (ki 2)))))))
    .nil)
   (.seq (.ite (Z3 (.v 2) (ks "text"))
    (Zn (.ret (.pr (.cm .lt) (Zj (Zw (.v 1) (ki 1)) (Zw (.v 0) (ki 1))))))
    .nil)
   (.seq (.ret (.or (.pr (.cm .ne) (Zj (Zw (.v 1) (ki 1)) (Zw (.v 0) (ki 1)))) (.pr (.cm .lt) (Zj (Zw (.v 1) (ki 2)) (Zw (.v 0) (ki 2))))))
   .nil)))))
def Vn:Df:=⟨3,2,Wh⟩
noncomputable def Dj:S:=(.seq (.set 2 (Zw (.v 1) (ki 0)))
   (.seq (.ite (.or (Z3 (.v 2) (ks "widen")) (Z3 (.v 2) (ks "form")))
    (Zn (.ret (Zw (.v 1) (ki 2))))
    .nil)
   (.seq (.ite (Z3 (.v 2) (ks "open"))
    (Zn (.ret (Gd (.pr (.sl false true) (Zj (.v 0) (ki 3))) (.tup (Zb (.k (.bl true)))))))
    .nil)
   (.seq (.set 3 (.pr .list (Zb (Zw (.v 0) (ki 1)))))
   (.seq (.set 4 (.pr .list (Zb (Zw (.v 0) (ki 2)))))
   (.seq (.ite (Z3 (.v 2) (ks "strike"))
    (.seq (.set 3 (.comp (.v 0) (.v 3) (.pr (.cm .ne) (Zj (Zw (.v 0) (ki 0)) (Zw (.v 1) (ki 2)))) (.v 0) [none,some 1] ["member","deed"]))
   (.seq (.ex (.mt .append 4 (Zb (Zw (.v 1) (ki 2)))))
   .nil))
    (Zn (.ite (Z3 (.v 2) (ks "rename"))
    (Zn (.set 3 (.comp (.v 0) (.v 3) .nil (.call "renamed" (Gy (.v 0) (Zw (.v 1) (ki 2)) (Zw (.v 1) (ki 3)))) [none,some 1] ["member","deed"])))
    (Zn (.ex (.mt .append 3 (Zb (Zw (.v 1) (ki 2)))))))))
   (.seq (.ret (Gd (.tup (Gy (Zw (.v 0) (ki 0)) (.pr .tuple (Zb (.pr .srtF (Zb (.v 3))))) (.pr .tuple (Zb (.pr .sorted (Zb (.v 4))))))) (.pr (.sl true false) (Zj (.v 0) (ki 3)))))
   .nil)))))))
def Vq:Df:=⟨5,2,Dj⟩
noncomputable def xp:S:=(Zn (.ret (.ite (Z3 (Zw (.v 0) (ki 0)) (.v 1)) (Gd (.tup (Zj (.v 1) (.v 2))) (.pr (.sl true false) (Zj (.v 0) (ki 2)))) (.v 0))))
def Dc:Df:=⟨3,3,xp⟩
def Hh:S:=(Zn (.ret (.lst (Gy (.v 0) (ki 0) (ki 0)))))
def Ju:Df:=⟨1,1,Hh⟩
noncomputable def Y2:S:=(.seq (.ite (Z3 (Zw (.v 0) (ki 2)) (ki 0))
    (.seq (.set 2 (Zw (.v 0) (ki 1)))
   (.seq (.put 0 (ki 1) (Gd (.v 2) (ki 1)))
   (.seq (.set 3 (.v 2))
   (.seq (.ite (.pr (.cm .gt) (Zj (Jh (Zw (.v 0) (ki 0))) (ki 0)))
    (Zn (.set 3 (Zw (Zw (.v 0) (ki 0)) (.pr (.op .mod) (Zj (.v 2) (Jh (Zw (.v 0) (ki 0))))))))
    .nil)
   (.seq (.ite (.or (.pr (.cm .lt) (Zj (.v 3) (.pr (.op .pow) (Zj (ki 10) (ki 18))))) (.pr (.cm .ge) (Zj (.v 2) (Jh (Zw (.v 0) (ki 0))))))
    (.seq (.set 4 (.pr (.op .mod) (Zj (.pr (.op .mul) (Zj (Gd (.pr (.op .mod) (Zj (.v 3) (ki 1000003))) (ki 1)) (Gd (ki 48271) (.pr (.op .mul) (Zj (ki 2) (.pr (.op .mod) (Zj (.v 2) (ki 997)))))))) (ki 2147483647))))
   (.seq (.ret (.pr (.op .mod) (Zj (.pr (.op .fdiv) (Zj (.pr (.op .mod) (Zj (.pr (.op .mul) (Zj (Gd (.v 4) (.pr (.op .mul) (Zj (ki 104729) (.v 2)))) (ki 69621))) (ki 2147483629))) (ki 7))) (.v 1))))
   .nil))
    .nil)
   (.seq (.put 0 (ki 2) (.v 3))
   .nil))))))
    .nil)
   (.seq (.set 5 (.pr (.op .mod) (Zj (Zw (.v 0) (ki 2)) (.v 1))))
   (.seq (.put 0 (ki 2) (.pr (.op .fdiv) (Zj (Zw (.v 0) (ki 2)) (.v 1))))
   (.seq (.ret (.mv 5))
   .nil))))
def J0:Df:=⟨6,2,Y2⟩
noncomputable def Ss:S:=(.seq (.ite (Z3 (.v 1) (ks "whole"))
    (.seq (.set 3 (Zw (.lst (.cons (ki 0) (.cons (ki 0) (.cons (.pr .neg (Zb (ki 1))) (.cons (ki 5) (.cons (.pr .neg (Zb (.pr (.op .pow) (Zj (ki 10) (ki 18))))) (.cons (.pr (.op .sub) (Zj (.pr (.op .pow) (Zj (ki 10) (ki 18))) (ki 1))) .nil))))))) (.call "_law_draw" (Zj (.io 0) (ki 6)))))
   (.seq (.ret (.tup (Gy (ks "whole") (.v 3) (.pr .min (Zj (.pr (.op .pow) (Zj (ki 10) (ki 18))) (Gd (.v 3) (Zw (.lst (dg (ki 0) (ki 1) (ki 9) (.pr (.op .pow) (Zj (ki 10) (ki 18))))) (.call "_law_draw" (Zj (.io 0) (ki 4))))))))))
   .nil))
    .nil)
   (.seq (.ite (Z3 (.v 1) (ks "truth"))
    (Zn (.ret (.tup (Zb (ks "truth")))))
    .nil)
   (.seq (.ite (Z3 (.v 1) (ks "text"))
    (Zn (.ret (.tup (Zj (ks "text") (Zw (.lst (dg (ki 0) (ki 1) (ki 2) (ki 200))) (.call "_law_draw" (Zj (.io 0) (ki 4))))))))
    .nil)
   (.seq (.ret (.tup (Gy (.v 1) (Zw (.v 2) (.call "_law_draw" (Zj (.io 0) (Jh (.v 2))))) (Zw (.lst (dg (ki 0) (ki 1) (ki 2) (ki 20))) (.call "_law_draw" (Zj (.io 0) (ki 4)))))))
   .nil))))
def Ua:Df:=⟨4,3,Ss⟩
noncomputable def Ws:S:=(.seq (.ite (Z3 (Zw (.v 1) (ki 0)) (ks "whole"))
    (Zn (.ret (Gd (Zw (.v 1) (ki 1)) (.call "_law_draw" (Zj (.io 0) (.pr .min (Zj (ki 3) (Gd (.pr (.op .sub) (Zj (Zw (.v 1) (ki 2)) (Zw (.v 1) (ki 1)))) (ki 1)))))))))
    .nil)
   (.seq (.ite (Z3 (Zw (.v 1) (ki 0)) (ks "truth"))
    (Zn (.ret (Z3 (.call "_law_draw" (Zj (.io 0) (ki 2))) (ki 1))))
    .nil)
   (.seq (.ite (Z3 (Zw (.v 1) (ki 0)) (ks "text"))
    (Zn (.ret (.pr (.op .mul) (Zj (ks "a") (.call "_law_draw" (Zj (.io 0) (.pr .min (Zj (ki 3) (Gd (Zw (.v 1) (ki 1)) (ki 1))))))))))
    .nil)
   (.seq (.ret (.tup .nil))
   .nil))))
def Vc:Df:=⟨2,2,Ws⟩
noncomputable def Rh:S:=(.seq (.set 5 (.lst (.cons (ks "a") (.cons (ks "ab") (.cons (ks "abc") (.cons (ks "form") (.cons (ks "x") (.cons (ks "xx") (.cons (ks "must") (.cons (ks "none") (.cons (ks "rowa") .nil)))))))))))
   (.seq (.set 5 (Zw (.v 5) (.pr .idx (Zj (.lst (.cons (ki 1) (.cons (ki 2) (.cons (ki 3) (.cons (ki 9) (.cons (ki 10) (.cons (ki 99) (.cons (ki 100) (.cons (ki 999) (.cons (ki 500) .nil)))))))))) (.v 2)))))
   (.seq (.set 6 (Zw (.v 4) (.call "_law_draw" (Zj (.io 0) (Jh (.v 4))))))
   (.seq (.ite (Z3 (.v 1) (ks "choice"))
    (Zn (.ret (.tup (Gy (.v 2) (.v 5) (.v 6)))))
    .nil)
   (.seq (.ite (.pr (.cm .gt) (Zj (.v 2) (ki 1)))
    (Zn (.set 6 (Zw (.pr .sorted (Zb (.v 3))) (.call "_law_draw" (Zj (.io 0) (Jh (.v 3)))))))
    .nil)
   (.seq (.ite (.and (.pr (.cm .isin) (Zj (.v 6) (.v 3))) (.pr (.cm .gt) (Zj (.call "_law_draw" (Zj (.io 0) (ki 4))) (ki 0))))
    (Zn (.ret (.tup (dg (.v 2) (.v 5) (.v 6) (.tup (Zb (.call "_law_default" (Zj (.io 0) (Zw (.v 3) (.v 6))))))))))
    .nil)
   (.seq (.ret (.tup (dg (.v 2) (.v 5) (.v 6) (.tup .nil))))
   .nil)))))))
def Ja:Df:=⟨7,5,Rh⟩
noncomputable def Gw:S:=(.seq (.set 4 (.lst (.cons (ki 1) (.cons (ki 2) (.cons (ki 3) (.cons (ki 9) (.cons (ki 10) (.cons (ki 99) (.cons (ki 100) (.cons (ki 999) .nil))))))))))
   (.seq (.set 5 (.call "_law_draw" (Zj (.io 0) (ki 8))))
   (.seq (.set 4 (.pr (.sl false true) (Zj (Gd (.pr (.sl true false) (Zj (.v 4) (.v 5))) (.pr (.sl false true) (Zj (.v 4) (.v 5)))) (.call "_law_draw" (Zj (.io 0) (ki 8))))))
   (.seq (.set 6 (.pr .max (Zj (ki 0) (.pr (.op .sub) (Zj (Jh (.v 4)) (Zw (.lst (dg (ki 0) (ki 0) (ki 1) (ki 2))) (.call "_law_draw" (Zj (.io 0) (ki 4)))))))))
   (.seq (.set 7 (.comp (.v 0) (.pr .sorted (Zb (.pr (.sl false true) (Zj (.v 4) (.v 6))))) .nil (.call "_law_part" (.cons (.io 1) (.cons (.v 2) (.cons (.v 0) (.cons (.v 3) (.cons (.v 4) .nil)))))) [none,some 0,some 1,some 2,some 3] ["_law_number","_law_tape_here","_law_sort","_law_plain_here","_law_names"]))
   (.seq (.set 8 (.tup (Gy (.v 1) (.pr .tuple (Zb (.v 7))) (.pr .tuple (Zb (.pr .sorted (Zb (.pr (.sl true false) (Zj (.v 4) (.v 6))))))))))
   (.seq (.ret (.ite (Z3 (.v 1) (ks "record")) (.v 8) (Gd (.v 8) (.tup (Zb (Z3 (.call "_law_draw" (Zj (.io 0) (ki 2))) (ki 0)))))))
   .nil)))))))
def V7:Df:=⟨9,4,Gw⟩
noncomputable def Qn:S:=(.seq (.set 1 (.pr .dnew .nil))
   (.seq (.loop (.v 2) (.v 0)
    (Zn (.ite (.pr (.cm .notin) (Zj (Zw (Zw (.v 0) (.v 2)) (ki 0)) (.lst (Zj (ks "record") (ks "choice")))))
    (Zn (.put 1 (.v 2) (Zw (.v 0) (.v 2))))
    .nil)))
   (.seq (.ret (.mv 1))
   .nil)))
def V6:Df:=⟨3,1,Qn⟩
noncomputable def Rp:S:=(.seq (.set 1 (.lst (.cons (ks "a") (.cons (ks "ab") (.cons (ks "b") (.cons (ks "make") (.cons (ks "form") (.cons (ks "row") (.cons (ks "rows") (.cons (ks "text") (.cons (ks "must") (.cons (ks "none") (.cons (ks "abcdefgh") (.cons (ks "x") (.cons (ks "xx") (.cons (ks "arm") .nil))))))))))))))))
   (.seq (.set 2 (.call "_law_draw" (Zj (.io 0) (ki 14))))
   (.seq (.set 3 (.pr (.sl false true) (Zj (Gd (.pr (.sl true false) (Zj (.v 1) (.v 2))) (.pr (.sl false true) (Zj (.v 1) (.v 2)))) (Gd (ki 2) (.call "_law_draw" (Zj (.io 0) (ki 5)))))))
   (.seq (.set 4 (.lst (.cons (ks "record") (.cons (ks "choice") (.cons (ks "whole") (.cons (ks "record") (.cons (ks "choice") (.cons (ks "truth") (.cons (ks "text") (.cons (ks "row") (.cons (ks "map") .nil)))))))))))
   (.seq (.set 5 (.pr .dct1 (Zj (Zw (.v 3) (ki 0)) (.call "_law_plain" (Gy (.io 0) (Zw (.lst (dg (ks "whole") (ks "truth") (ks "text") (ks "row"))) (.call "_law_draw" (Zj (.io 0) (ki 4)))) (.v 3))))))
   (.seq (.set 6 (.lst .nil))
   (.seq (.loop (.v 7) (.pr (.sl true false) (Zj (.v 3) (ki 1)))
    (.seq (.set 8 (Zw (.v 4) (.call "_law_draw" (Zj (.io 0) (ki 9)))))
   (.seq (.ite (.or (Z3 (.v 8) (ks "record")) (Z3 (.v 8) (ks "choice")))
    (Zn (.ex (.mt .append 6 (Zb (.tup (Zj (.v 7) (.v 8)))))))
    (Zn (.put 5 (.v 7) (.call "_law_plain" (Gy (.io 0) (.v 8) (.v 3))))))
   .nil)))
   (.seq (.set 9 (.pr .dict (Zb (.v 5))))
   (.seq (.loop (.tup (Zj (.v 7) (.v 8))) (.v 6)
    (Zn (.put 5 (.v 7) (.call "_law_parted" (dg (.io 0) (.v 8) (.v 9) (.v 3))))))
   (.seq (.ret (.tup (Zj (Zw (.v 3) (.call "_law_draw" (Zj (.io 0) (Jh (.v 3))))) (.v 5))))
   .nil))))))))))
def Je:Df:=⟨10,1,Rp⟩
noncomputable def Sp:S:=(.seq (.ite (.or (.pr (.isi .tuple) (Zb (.v 0))) (.pr (.isi .list) (Zb (.v 0))))
    (.seq (.ite (.pr (.cm .ne) (Zj (.pr (.isi .tuple) (Zb (.v 0))) (.pr (.isi .tuple) (Zb (.v 1)))))
    (Zn (.ret (.k (.bl false))))
    .nil)
   (.seq (.ite (.pr (.cm .ne) (Zj (.pr (.isi .list) (Zb (.v 0))) (.pr (.isi .list) (Zb (.v 1)))))
    (Zn (.ret (.k (.bl false))))
    .nil)
   (.seq (.ite (.pr (.cm .ne) (Zj (Jh (.v 0)) (Jh (.v 1))))
    (Zn (.ret (.k (.bl false))))
    .nil)
   (.seq (.ret (.pr .all (Zb (.comp (.v 0) (.itr .rng (Zb (Jh (.v 0)))) .nil (.call "_law_alike" (Zj (Zw (.v 1) (.v 0)) (Zw (.v 2) (.v 0)))) [none,some 0,some 1] ["_law_k","_law_due","_law_found"]))))
   .nil))))
    .nil)
   (.seq (.ite (.pr (.cm .is) (Zj (.v 0) (.k .non)))
    (Zn (.ret (.pr (.cm .is) (Zj (.v 1) (.k .non)))))
    .nil)
   (.seq (.ite (.pr (.isi .str) (Zb (.v 0)))
    (Zn (.ret (.and (.pr (.isi .str) (Zb (.v 1))) (Z3 (.v 1) (.v 0)))))
    .nil)
   (.seq (.ite (.pr (.isi .bool) (Zb (.v 0)))
    (Zn (.ret (.and (.pr (.isi .bool) (Zb (.v 1))) (Z3 (.v 1) (.v 0)))))
    .nil)
   (.seq (.ret (.and (.pr (.isi .int) (Zb (.v 1))) (.and (.not (.pr (.isi .bool) (Zb (.v 1)))) (Z3 (.v 1) (.v 0)))))
   .nil)))))
def Uo:Df:=⟨2,2,Sp⟩
noncomputable def Hu:S:=(.seq (.set 2 (.pr (.op .sub) (Zj (.call "_law_draw" (Zj (.io 0) (ki 4))) (ki 1))))
   (.seq (.ite (Z3 (Zw (.v 1) (ki 0)) (ks "truth"))
    (Zn (.ret (.tup (Gy (ks "whole") (ki 0) (Gd (ki 1) (.v 2))))))
    .nil)
   (.seq (.ite (Z3 (Zw (.v 1) (ki 0)) (ks "whole"))
    (Zn (.ret (.tup (Gy (ks "whole") (.pr (.op .sub) (Zj (Zw (.v 1) (ki 1)) (.v 2))) (.pr (.op .sub) (Zj (Gd (Zw (.v 1) (ki 2)) (.call "_law_draw" (Zj (.io 0) (ki 4)))) (ki 1)))))))
    .nil)
   (.seq (.ret (Gd (.pr (.sl false true) (Zj (.v 1) (.pr .neg (Zb (ki 1))))) (.tup (Zb (Gd (Zw (.v 1) (.pr .neg (Zb (ki 1)))) (.v 2))))))
   .nil))))
def Ji:Df:=⟨3,2,Hu⟩
noncomputable def Yt:S:=(.seq (.set 2 (.pr .sorted (Zb (Zw (.v 1) (ki 1)))))
   (.seq (.set 3 (Zw (.v 2) (.call "_law_draw" (Zj (.io 0) (Jh (.v 2))))))
   (.seq (.set 4 (Zw (Zw (.v 1) (ki 1)) (.v 3)))
   (.seq (.set 5 (.pr .dict (Zb (Zw (.v 1) (ki 1)))))
   (.seq (.set 6 (.tmp (.call "_law_plains" (Zb (.v 5)))))
   (.seq (.set 7 (.call "_law_draw" (Zj (.io 0) (ki 8))))
   (.seq (.ite (.pr (.cm .isin) (Zj (.v 3) (.v 6)))
    (Zn (.put 5 (.v 3) (.ite (.pr (.cm .gt) (Zj (.v 7) (ki 1))) (.call "_law_near" (Zj (.io 0) (.v 4))) (.call "_law_plain" (Gy (.io 0) (Zw (.v 4) (ki 0)) (.v 2))))))
    (.seq (.unp (.tup (Zj (.v 8) (.v 9))) (.pr (.sl true true) (Gy (.v 4) (ki 1) (ki 3))))
   (.seq (.set 10 (.pr (.sl true false) (Zj (.v 4) (ki 3))))
   (.seq (.set 11 (.call "_law_draw" (Zj (.io 0) (Gd (Jh (.v 8)) (ki 1)))))
   (.seq (.ite (.and (Z3 (.v 7) (ki 0)) (.pr (.cm .gt) (Zj (Jh (.v 10)) (ki 0))))
    (Zn (.set 10 (.tup (Zb (.not (Zw (.v 10) (ki 0)))))))
    (Zn (.ite (Z3 (.v 7) (ki 1))
    (Zn (.set 9 (.pr (.sl true false) (Zj (.v 9) (ki 1)))))
    (Zn (.ite (.pr (.cm .lt) (Zj (.v 7) (ki 4)))
    (.seq (.set 12 (.comp (.v 0) (.pr (.sl true true) (Gy (.v 8) (.v 11) (Gd (.v 11) (ki 1)))) .nil (Zw (.v 0) (ki 0)) [none] ["_law_part_here"]))
   (.seq (.set 8 (Gd (.pr (.sl false true) (Zj (.v 8) (.v 11))) (.pr (.sl true false) (Zj (.v 8) (Gd (.v 11) (ki 1))))))
   (.seq (.set 9 (.pr .tuple (Zb (.pr .sorted (Zb (Gd (.pr .list (Zb (.v 9))) (.pr (.op .mul) (Zj (.v 12) (.pr (.op .sub) (Zj (.v 7) (ki 2)))))))))))
   .nil)))
    (Zn (.ite (Z3 (.v 7) (ki 4))
    (Zn (.set 8 (.pr .tuple (Zb (.pr .srtP (Zb (Gd (.v 8) (.tup (Zb (.call "_law_part" (.cons (.io 0) (.cons (Zw (.v 4) (ki 0)) (.cons (ki 500) (.cons (.v 6) (.cons (.v 2) .nil)))))))))))))))
    (Zn (.ite (.pr (.cm .lt) (Zj (.v 11) (Jh (.v 8))))
    (.seq (.set 13 (.call "_law_part" (.cons (.io 0) (.cons (Zw (.v 4) (ki 0)) (.cons (Zw (Zw (.v 8) (.v 11)) (ki 0)) (.cons (.v 6) (.cons (.v 2) .nil)))))))
   (.seq (.ite (Z3 (.v 7) (ki 7))
    (Zn (.set 13 (Gd (.tup (Zj (Zw (Zw (.v 8) (.v 11)) (ki 0)) (Gd (ks "q") (.pr (.sl false true) (Zj (Zw (Zw (.v 8) (.v 11)) (ki 1)) (ki 6)))))) (.pr (.sl true false) (Zj (Zw (.v 8) (.v 11)) (ki 2))))))
    .nil)
   (.seq (.set 8 (Gd (Gd (.pr (.sl false true) (Zj (.v 8) (.v 11))) (.tup (Zb (.v 13)))) (.pr (.sl true false) (Zj (.v 8) (Gd (.v 11) (ki 1))))))
   .nil)))
    .nil)))))))))
   (.seq (.put 5 (.v 3) (Gd (.tup (Gy (Zw (.v 4) (ki 0)) (.v 8) (.v 9))) (.v 10)))
   .nil))))))
   (.seq (.set 14 (.tup (Zj (Zw (.lst (Zj (Zw (.v 1) (ki 0)) (.v 3))) (.pr .int (Zb (Z3 (.call "_law_draw" (Zj (.io 0) (ki 16))) (ki 0))))) (.v 5))))
   (.seq (.ret (.ite (.call "is_make" (Zb (.v 14))) (.v 14) (.v 1)))
   .nil)))))))))
def V5:Df:=⟨15,2,Yt⟩
noncomputable def Hp:S:=(.seq (.loop (.v 3) (.itr .rng (Zb (.call "_law_draw" (Zj (.io 0) (Gd (.v 2) (ki 1))))))
    (Zn (.set 1 (.call "_law_turned" (Zj (.io 0) (.v 1))))))
   (.seq (.ret (.mv 1))
   .nil))
def Jo:Df:=⟨4,3,Hp⟩
noncomputable def Vt:S:=(.seq (.set 2 (.pr .sorted (Zb (Zw (.v 1) (ki 1)))))
   (.seq (.set 3 (Zw (.v 2) (.call "_law_draw" (Zj (.io 0) (Jh (.v 2))))))
   (.seq (.set 4 (Zw (Zw (.v 1) (ki 1)) (.v 3)))
   (.seq (.set 5 (.tmp (.call "_law_plains" (Zb (Zw (.v 1) (ki 1))))))
   (.seq (.set 6 (Zw (.lst (.cons (ki 1) (.cons (ki 2) (.cons (ki 9) (.cons (ki 10) (.cons (ki 99) (.cons (ki 999) (.cons (ki 500) .nil)))))))) (.call "_law_draw" (Zj (.io 0) (ki 7)))))
   (.seq (.set 7 (.call "_law_draw" (Zj (.io 0) (ki 9))))
   (.seq (.ite (Z3 (.v 7) (ki 0))
    (.seq (.set 8 (Zw (.lst (.cons (ks "whole") (.cons (ks "truth") (.cons (ks "text") (.cons (ks "row") (.cons (ks "map") (.cons (ks "record") (.cons (ks "choice") .nil)))))))) (.call "_law_draw" (Zj (.io 0) (ki 7)))))
   (.seq (.set 9 (Zw (.lst (Gy (ks "new") (ks "newer") (ks "a"))) (.call "_law_draw" (Zj (.io 0) (ki 3)))))
   (.seq (.ite (.pr (.cm .isin) (Zj (.v 8) (.lst (Zj (ks "record") (ks "choice")))))
    (Zn (.ret (.tup (Gy (ks "form") (.v 9) (.call "_law_parted" (dg (.io 0) (.v 8) (.v 5) (Gd (.v 2) (.lst (Zj (.v 9) (.v 9))))))))))
    .nil)
   (.seq (.ret (.tup (Gy (ks "form") (.v 9) (.call "_law_plain" (Gy (.io 0) (.v 8) (Gd (.v 2) (.lst (Zj (.v 9) (.v 9)))))))))
   .nil))))
    .nil)
   (.seq (.ite (.pr (.cm .isin) (Zj (.v 3) (.v 5)))
    (Zn (.ret (.tup (Gy (ks "widen") (.v 3) (.call "_law_near" (Zj (.io 0) (.v 4)))))))
    .nil)
   (.seq (.set 10 (Gd (.comp (.v 0) (Zw (.v 4) (ki 1)) .nil (Zw (.v 0) (ki 0)) [none] ["_law_part_here"]) (.lst (Zb (.v 6)))))
   (.seq (.set 11 (Zw (.v 10) (.call "_law_draw" (Zj (.io 0) (Jh (.v 10))))))
   (.seq (.ite (.pr (.cm .lt) (Zj (.v 7) (ki 4)))
    (Zn (.ret (.tup (Gy (ks "strike") (.v 3) (.v 11)))))
    .nil)
   (.seq (.ite (Z3 (.v 7) (ki 4))
    (Zn (.ret (.tup (dg (ks "rename") (.v 3) (.v 11) (Zw (.lst (Gy (ks "own") (ks "owner") (ks "a"))) (.call "_law_draw" (Zj (.io 0) (ki 3))))))))
    .nil)
   (.seq (.ite (Z3 (.v 7) (ki 5))
    (Zn (.ret (.tup (Zj (ks "open") (.v 3)))))
    .nil)
   (.seq (.ret (.tup (Gy (Zw (.lst (Zj (ks "add") (ks "arm"))) (.pr .int (Zb (Z3 (Zw (.v 4) (ki 0)) (ks "choice"))))) (.v 3) (.call "_law_part" (.cons (.io 0) (.cons (Zw (.v 4) (ki 0)) (.cons (.v 6) (.cons (.v 5) (.cons (.v 2) .nil)))))))))
   .nil))))))))))))))
def J8:Df:=⟨12,2,Vt⟩
noncomputable def V0:S:=(.seq (.ite (.or (.pr (.cm .is) (Zj (.v 1) (.k .non))) (.pr (.cm .ne) (Zj (Zw (.v 1) (ki 0)) (Zw (.v 0) (ki 0)))))
    (Zn (.ret (ks "form")))
    .nil)
   (.seq (.ite (.pr (.cm .notin) (Zj (Zw (.v 0) (ki 0)) (.lst (Zj (ks "record") (ks "choice")))))
    (Zn (.ret (.k .non)))
    .nil)
   (.seq (.set 2 (.pr .dict (Zb (.comp (.v 0) (Zw (.v 0) (ki 1)) .nil (.tup (Zj (Zw (.v 0) (ki 0)) (Zw (.v 0) (ki 2)))) [none] ["_law_part_here"]))))
   (.seq (.set 3 (.pr .dict (Zb (.comp (.v 0) (Zw (.v 1) (ki 1)) .nil (.tup (Zj (Zw (.v 0) (ki 0)) (Zw (.v 0) (ki 2)))) [none] ["_law_part_here"]))))
   (.seq (.ite (.pr (.cm .gt) (Zj (Jh (.comp (.v 0) (.v 2) (.pr (.cm .notin) (Zj (.v 0) (Gd (.pr .list (Zb (.v 1))) (.pr .list (Zb (Zw (.v 2) (ki 2))))))) (.v 0) [none,some 3,some 1] ["_law_number","_law_theirs","_law_there"])) (ki 0)))
    (Zn (.ret (ks "lost")))
    .nil)
   (.seq (.ite (.pr (.cm .gt) (Zj (Jh (.comp (.v 0) (Zw (.v 0) (ki 2)) (.pr (.cm .notin) (Zj (.v 0) (Zw (.v 1) (ki 2)))) (.v 0) [none,some 1] ["_law_number","_law_there"])) (ki 0)))
    (Zn (.ret (ks "back")))
    .nil)
   (.seq (.ite (.pr (.cm .gt) (Zj (Jh (.comp (.v 0) (.v 2) (.pr (.cm .ne) (Zj (.pr .get2 (Gy (.v 2) (.v 0) (Zw (.v 1) (.v 0)))) (Zw (.v 1) (.v 0)))) (.v 0) [none,some 2,some 3] ["_law_number","_law_mine","_law_theirs"])) (ki 0)))
    (Zn (.ret (ks "turned")))
    .nil)
   (.seq (.ret (.ite (.and (Z3 (Zw (.v 0) (ki 0)) (ks "choice")) (.and (Zw (.v 0) (ki 3)) (.not (Zw (.v 1) (ki 3))))) (ks "shut") (.k .non)))
   .nil))))))))
def Yu:Df:=⟨4,2,V0⟩
noncomputable def Nh:S:=(.seq (.ite (.pr (.cm .ne) (Zj (Zw (.v 0) (ki 0)) (Zw (.v 1) (ki 0))))
    (Zn (.ret (ks "root")))
    .nil)
   (.seq (.set 2 (.comp (.v 0) (.pr .sorted (Zb (Zw (.v 0) (ki 1)))) .nil (.call "_law_form_word" (Zj (Zw (Zw (.v 1) (ki 1)) (.v 0)) (.pr .get1 (Zj (Zw (.v 2) (ki 1)) (.v 0))))) [none,some 0,some 1] ["_law_name","_law_make_here","_law_other"]))
   (.seq (.set 2 (.comp (.v 0) (.v 2) (.pr (.cm .isnt) (Zj (.v 0) (.k .non))) (.v 0) [none] ["_law_word"]))
   (.seq (.ret (.ite (.pr (.cm .gt) (Zj (Jh (.v 2)) (ki 0))) (Zw (.v 2) (ki 0)) (.k .non)))
   .nil))))
def Yw:Df:=⟨3,2,Nh⟩
noncomputable def Sr:S:=(.seq (.set 2 (.pr .repr (Zb (.tup (Zj (.v 0) (.v 1))))))
   (.seq (.ite (.not (.call "_law_alike" (Zj (.call "_law_follow_word" (Zj (.v 0) (.v 1))) (.call "cannot_follow" (Zj (.v 0) (.v 1))))))
    (Zn (.ret (.k (.bl false))))
    .nil)
   (.seq (.ret (Z3 (.pr .repr (Zb (.tup (Zj (.v 0) (.v 1))))) (.v 2)))
   .nil)))
def Uu:Df:=⟨3,2,Sr⟩
noncomputable def bu:S:=(.seq (.set 1 (.call "_law_tape" (Zb (.v 0))))
   (.seq (.loop (.v 2) (.itr .rng (Zb (ki 10)))
    (.seq (.set 3 (.call "_law_make" (Zb (.io 1))))
   (.seq (.set 4 (.v 3))
   (.seq (.set 5 (.call "_law_draw" (Zj (.io 1) (ki 5))))
   (.seq (.ite (.pr (.cm .lt) (Zj (.v 5) (ki 3)))
    (.seq (.set 6 (.call "_law_tried" (Zj (.v 3) (.call "_law_deed" (Zj (.io 1) (.v 3))))))
   (.seq (.set 4 (.ite (.pr (.isi .str) (Zb (.v 6))) (.v 3) (.v 6)))
   .nil))
    .nil)
   (.seq (.ite (.and (Z3 (.v 5) (ki 4)) (Z3 (.call "_law_draw" (Zj (.io 1) (ki 4))) (ki 0)))
    (Zn (.set 4 (.call "_law_make" (Zb (.io 1)))))
    .nil)
   (.seq (.set 4 (.call "_law_next" (Gy (.io 1) (.v 4) (ki 3))))
   (.seq (.ite (.or (.not (.call "_law_right" (Zj (.v 3) (.v 4)))) (.or (.not (.call "_law_right" (Zj (.v 4) (.v 3)))) (.not (.call "_law_right" (Zj (.v 3) (.v 3))))))
    (Zn (.ret (.k (.bl false))))
    .nil)
   .nil))))))))
   (.seq (.ret (.k (.bl true)))
   .nil)))
def Sk:Df:=⟨7,1,bu⟩
noncomputable def c_done:S:=(.seq (.set 2 (.call "fault_of" (Zj (.v 0) (.v 1))))
   (.seq (.ite (.pr (.cm .isnt) (Zj (.v 2) (.k .non)))
    (Zn (.rais "BadDeed" (.v 2)))
    .nil)
   (.seq (.set 3 (.pr .dict (Zb (Zw (.v 0) (ki 1)))))
   (.seq (.put 3 (Zw (.v 1) (ki 1)) (.call "shape_behind" (Zj (.call "form_of" (Zj (.v 0) (Zw (.v 1) (ki 1)))) (.v 1))))
   (.seq (.set 4 (.tup (Zj (Zw (.v 0) (ki 0)) (.v 3))))
   (.seq (.ite (.not (.call "is_make" (Zb (.v 4))))
    (Zn (.rais "BadDeed" (ks "make")))
    .nil)
   (.seq (.ret (.mv 4))
   .nil)))))))
def Qm:Df:=⟨5,2,c_done⟩
noncomputable def Sn:S:=(.seq (.set 2 (.k .non))
   (.seq (.tri (Zn (.set 2 (.call "done" (Zj (.v 0) (.v 1))))) "BadDeed" (some 3) (Zn (.set 2 (.pr (.fld "word") (Zb (.v 3))))))
   (.seq (.ret (.v 2))
   .nil)))
def Up:Df:=⟨4,2,Sn⟩
theorem P6{c:Prop}[Decidable c]{j:Type}{a:j}{o:Option j}{Q:j->Prop}(h:c)(q:Q a):on (if c then some a else o) Q:=by rw[if_pos h];exact q
theorem Zz{b:Bool}{A B:Prop}(h:b=true->A)(h':b=false->B):if b=true then A else B:=by
 cases b with
 | true=>exact h rfl
 | false=>exact h' rfl
theorem mulP{a b:Int}{Q:Sl->Prop}(h:0<=a/\a<2 ^ 64)(q:Q (.f (.int (a * b)))):on (dn .mul (.int a) (.int b)) Q:=P6 (.inl ⟨by omega,h.2⟩) q
theorem mulR{a b:Int}{Q:Sl->Prop}(h:0<=b/\b<2 ^ 64)(q:Q (.f (.int (a * b)))):on (dn .mul (.int a) (.int b)) Q:=P6 (.inr ⟨by omega,h.2⟩) q
theorem modP{a b:Int}{Q:Sl->Prop}(h:0<b)(q:Q (.f (.int (a % b)))):on (dn .mod (.int a) (.int b)) Q:=P6 h q
theorem divP{a b:Int}{Q:Sl->Prop}(h:0<b/\b<1073741824)(q:Q (.f (.int (a / b)))):on (dn .fdiv (.int a) (.int b)) Q:=P6 h q
theorem oh{ts:ZZ}{x:T}{Q:T×T->Prop}(h:ts.length<sizeLine)(q:Q (.lst (ts++[x]),.non)):on (mtT .append (.lst ts) [x]) Q:=P6 h q
theorem Cy{body:T->P->En->Prop}{xs:ZZ}{p:P}{D:En}(I:ZZ->P->Prop)(h:I xs p)(st:∀x r p (D':En),I (x::r) p->(∀q,I r q->D'.nx q)->(∀s q,D.rt s q->D'.rt s q)->body x p D')(q:∀q,I [] q->D.nx q):Lh body xs p D :=
 jf I (fun _=>False) D.rt (fun x r p D' h n _ _ r'=>st x r p D' h n r') xs p D h q (fun _ z=>z.elim) fun _ _ z=>z
noncomputable def Zs:Nat->S->S
 | 0,s=>s
 | n+1,.seq _ r=>Zs n r
 | _,s=>s
def Pf:S->S
 | .seq (.ite _ a _) _=>a
 | s=>s
def fm:S->S
 | .seq (.ite _ _ a) _=>a
 | s=>s
def lpB:S->S
 | .seq (.loop _ _ b) _=>b
 | s=>s
noncomputable def Zf(zs:ZT)(i k:Int):T:=.lst [.lst (zs.map .int),.int i,.int k]
def Vf(C:Cs):Prop:=∀{zs:ZT} {i k m:Int},0<m->m<1000000->cN (C "_law_draw" [.o (Zf zs i k),.f (.int m)]) fun x=>∃r i' k',0<=r/\r<m/\x=(.f (.int r),[Zf zs i' k'])
theorem Zl{C:Cs}(h:Vf C){zs:ZT}{i k m:Int}{Q:Sl×ZZ->Prop}{X:Lc->Prop}(m0:0<m)(m1:m<1000000)(q:∀r i' k',0<=r->r<m->Q (.f (.int r),[Zf zs i' k'])):cC (C "_law_draw" [.o (Zf zs i k),.f (.int m)]) Q X :=
 Zg (h m0 m1) fun x ⟨r,i',k',h1,h2,e⟩=>by rw[e];exact q r i' k' h1 h2
theorem t9{w:W}(zs:ZT):wF Ju w [.f (.lst (zs.map .int))] fun x=>x=(.o (Zf zs 0 0),[]):=by
 refine Zy rfl fun D rt _=>?_;exact rt _ _ rfl
theorem ak{w:W}{zs:ZT}{i k m:Int}(m0:0<m)(m1:m<1000000):wF J0 w [.o (Zf zs i k),.f (.int m)] fun x=>∃r i' k',0<=r/\r<m/\x=(.f (.int r),[Zf zs i' k']):=by
 refine Zy rfl fun D rt _=>?_
 have fin:∀(i' k':Int) (s2 s3 s4:Sl),wS w (Yk [.o (Zf zs i k),.f (.int m)]) (Zs 1 Y2) [.o (Zf zs i' k'),.f (.int m),s2,s3,s4,.no] D:=fun i' k' s2 s3 s4=>by
  refine modP m0 ?_;refine divP ⟨m0,by omega⟩ ?_;exact rt _ _ ⟨k' % m,i',k' / m,Int.emod_nonneg _ (by omega),Int.emod_lt_of_pos _ m0,rfl⟩
 refine Zz (b:=decide (k=0)) (fun _=>?_) fun _=>fin i k _ _ _
 have fin2:∀c:Int,wS w (Yk [.o (Zf zs i k),.f (.int m)]) (Zs 4 (Pf Y2)) [.o (Zf zs (i+1) k),.f (.int m),.f (.int i),.f (.int c),.no,.no] ⟨fun q=>wS w (Yk [.o (Zf zs i k),.f (.int m)]) (Zs 1 Y2) q D,D.rt,D.bk,D.ct⟩:=fun c=>by
  have out:wS w (Yk [.o (Zf zs i k),.f (.int m)]) (Pf (Zs 4 (Pf Y2))) [.o (Zf zs (i+1) k),.f (.int m),.f (.int i),.f (.int c),.no,.no] ⟨fun q=>wS w (Yk [.o (Zf zs i k),.f (.int m)]) (Zs 5 (Pf Y2)) q ⟨fun q=>wS w (Yk [.o (Zf zs i k),.f (.int m)]) (Zs 1 Y2) q D,D.rt,D.bk,D.ct⟩,D.rt,D.bk,D.ct⟩:=by
   have a0:=Int.emod_nonneg c (show (1000003:Int)≠0 by omega);have a1:=Int.emod_lt_of_pos c (show (0:Int)<1000003 by omega);refine mulP (a:=c % 1000003+1) ⟨by omega,by omega⟩ ?_;refine mulR ⟨by omega,by omega⟩ ?_;refine modP m0 ?_;exact rt _ _ ⟨_,_,_,Int.emod_nonneg _ (by omega),Int.emod_lt_of_pos _ m0,rfl⟩
  refine Zz (b:=decide (c<(10:Int) ^ 18)) (fun _=>out) fun _=>?_;refine Zz (b:=decide ((((zs.map T.int).length:Nat):Int)<=i)) (fun _=>out) fun _=>?_;exact fin _ _ _ _ _
 refine Zz (b:=decide ((0:Int)<((zs.map T.int).length:Nat))) (fun g=>?_) fun _=>fin2 i;have g:=R6 g;refine modP g ?_;obtain⟨x,hx,_,mx⟩:=H0 (xs:=zs.map T.int) (Int.emod_nonneg i (show (((zs.map T.int).length:Nat):Int)≠0 by omega)) (Int.emod_lt_of_pos i g);obtain⟨z,_,rfl⟩:=Gf.mp mx;refine ixLP hx ?_;exact fin2 z
abbrev Kn:=List Sl->(Sl×ZZ->Prop)->Prop
abbrev cl(C:Cs)(f:Str):Kn:=fun as Q=>cN (C f as) Q
def Tl(P:Prop)(x:Sl×ZZ):Prop:=∃b:Bool,(b=true->P)/\x=(.f (.bl b),[])
theorem Yc{C:Cs}{f:Str}{as:List Sl}{P:Prop}{Q:Sl×ZZ->Prop}(h:cN (C f as) (Tl P)){X:Lc->Prop}(q:∀b:Bool,(b=true->P)->Q (.f (.bl b),[])):cC (C f as) Q X:=Zg h fun x ⟨b,hb,e⟩=>by rw[e];exact q b hb
theorem Tl.no{P:Prop}:Tl P (.f (.bl false),[]):=⟨false,(fun z=>nomatch z),rfl⟩
def LET:Str:="abcdefghijklmnopqrstuvwxyz"
def SIG : Str := " !\"#$&'()*+,-./0123456789:;<=>?@ABCDEFGHIJKLMNOPQRSTUVWXYZ[\\]^_`abcdefghijklmnopqrstuvwxyz{|}~"
structure GL(g:Str->Option T):Prop where
 gw:g "GREATEST_WHOLE" = some (.int 1000000000000000000)
 gn:g "GREATEST_NUMBER" = some (.int 999)
 lt:g "LONGEST_TEXT" = some (.int 200)
 ln:g "LONGEST_NAME" = some (.int 8)
 mp:g "MOST_PARTS" = some (.int 20)
 mf:g "MOST_FIELDS" = some (.int 8)
 mm:g "MOST_FORMS" = some (.int 8)
 le:g "LETTERS" = some (.str LET)
 si:g "SIGNS" = some (.str SIG)
 fi:g "is_field" = some (.fn "is_field")
 ar:g "is_arm" = some (.fn "is_arm")
noncomputable def Wa:ZT:=[1,2,3,9,10,99,100,999,500]
def ql(i:Int):Prop:=-1000000000000000000<=i/\i<=1000000000000000000
def Sm(x:Str):Prop:=x.length<=8/\okK (.inr x)
theorem Sm.z{x:Str}(h:Sm x):x.length<=sizeLine:=by have:=sizeLine_eq;have:=h.1;omega
inductive Dx:T->Prop
 | int{i:Int}(h:ql i):Dx (.int i)
 | bl {b:Bool}:Dx (.bl b)
 | str {x:Str} (h:Sm x):Dx (.str x)
 | nil:Dx (.tup [])
inductive Dfl:ZZ->Prop
 | no:Dfl []
 | is {x:T} (h:Dx x):Dfl [x]
inductive Dfs:Bool->ZZ->Prop
 | arm:Dfs false []
 | fld {ds:ZZ} (h:Dfl ds):Dfs true [.tup ds]
inductive Gg(ns:ZG)(k:Bool):T->Prop
 | mk{n:Int}{x o:Str}{ds:ZZ}(hn:n∈Wa)(hx:Sm x)(ho:o∈ns)(hd:Dfs k ds):Gg ns k (.tup (.int n::.str x::.str o::ds))
noncomputable def Z1:T->Int
 | .tup (.int i::_)=>i
 | _=>0
structure Mr(ns:ZG)(k:Bool)(ps:ZZ):Prop where
 l:ps.length<=20
 p:∀p∈ps,Gg ns k p
inductive Raw(ns:ZG):T->Prop
 | whole{a b:Int}:Raw ns (.tup [.str "whole",.int a,.int b])
 | truth:Raw ns (.tup [.str "truth"])
 | text {n:Int}:Raw ns (.tup [.str "text",.int n])
 | row {o:Str} {n:Int} (ho:o∈ns):Raw ns (.tup [.str "row",.str o,.int n])
 | map {o:Str} {n:Int} (ho:o∈ns):Raw ns (.tup [.str "map",.str o,.int n])
 | record {ps:ZZ} {zs:ZT} (hp:Mr ns true ps) (hs:zs.length<=20):Raw ns (.tup [.str "record",.tup ps,.tup (zs.map .int)])
 | choice {ps:ZZ} {zs:ZT} {b:Bool} (hp:Mr ns false ps) (hs:zs.length<=20):Raw ns (.tup [.str "choice",.tup ps,.tup (zs.map .int),.bl b])
def Ris(zs:ZT):Prop:=zs.Pairwise (· < ·)
structure Mem(ps:ZZ)(zs:ZT):Prop where
 l:ps.length<=8
 d:(ps.map Z1).Nodup
 sl:zs.length<=8
 sb:∀z∈zs,ql z
inductive N6:T->Prop
 | whole{a b:Int}(ha:ql a)(hb:ql b)(le:a<=b):N6 (.tup [.str "whole",.int a,.int b])
 | truth:N6 (.tup [.str "truth"])
 | text {n:Int} (h0:0<=n) (h1:n<=200):N6 (.tup [.str "text",.int n])
 | row {o:Str} {n:Int} (h0:0<=n) (h1:n<=20):N6 (.tup [.str "row",.str o,.int n])
 | map {o:Str} {n:Int} (h0:0<=n) (h1:n<=20):N6 (.tup [.str "map",.str o,.int n])
 | record {ps:ZZ} {zs:ZT} (h:Mem ps zs):N6 (.tup [.str "record",.tup ps,.tup (zs.map .int)])
 | choice {ps:ZZ} {zs:ZT} {b:Bool} (h:Mem ps zs):N6 (.tup [.str "choice",.tup ps,.tup (zs.map .int),.bl b])
def H9(K:Kn):Prop:=∀{t:T} {lo hi:Int},Dx t->K [.f t,.f (.int lo),.f (.int hi)] (Tl (∃i,t=.int i/\lo<=i/\i<=hi))
def N0(K:Kn):Prop:=∀{i lo hi:Int},K [.f (.int i),.f (.int lo),.f (.int hi)] (Tl (lo<=i/\i<=hi))
theorem Xc{w:W}:N0 (wF Vd w):=fun {i lo hi}=>by
 refine Zy rfl fun D rt _=>?_;refine c2P ?_;exact rt _ _ ⟨_,(fun z=>by simpa using z),rfl⟩
theorem jy{w:W}:H9 (wF Vd w):=fun {t lo hi} h=>by
 cases h with
 | int h =>
  refine Zy rfl fun D rt _=>?_;refine c2P ?_;exact rt _ _ ⟨_,(fun z=>⟨_,rfl,by simpa using z⟩),rfl⟩
 | bl=>refine Zy rfl fun D rt _=>?_;exact rt _ _ .no
 | str h=>refine Zy rfl fun D rt _=>?_;exact rt _ _ .no
 | nil=>refine Zy rfl fun D rt _=>?_;exact rt _ _ .no
def PItW(K:Kn):Prop:=∀{i:Int},K [.f (.int i)] (Tl (ql i))
theorem Ft{w:W}(g:GL w.gl)(hW:N0 (cl w.C "is_whole")):PItW (wF Ya w):=fun {i}=>by
 refine Zy rfl fun D rt _=>?_;refine xq g.gw ?_;refine xq g.gw ?_;refine Yc hW fun b hb=>?_;exact rt _ _ ⟨b,hb,rfl⟩
def m7(K:Kn):Prop:=∀{i:Int},K [.f (.int i)] (Tl (1<=i/\i<=999))
theorem zy{w:W}(g:GL w.gl)(hW:N0 (cl w.C "is_whole")):m7 (wF U0 w):=fun {i}=>by
 refine Zy rfl fun D rt _=>?_;refine xq g.gn ?_;refine Yc hW fun b hb=>?_;exact rt _ _ ⟨b,hb,rfl⟩
theorem Bq{w:W}{x:Str}{g:Str}{s:Str}(hg:w.gl g=some (.str s))(hz:x.length<=sizeLine){Q:ZZ->P->Prop}(q:∀s0,Q ((x.cps.toList.map fun c=>T.str ⟨#[c]⟩).map fun t=>.bl ((K5 t (.str s)).getD false)) [s0]) :
  Z6 (fun t p K=>on (asg (.v 0) t p) fun s1=>if isNil .nil=true then wE w.nx (.pr (.cm .isin) (Zj (.v 0) (.g g))) s1 fun r s2=>Mu r fun y=>K (some y) s2
   else wE w.nx .nil s1 fun r s2=>Fj r fun b=>if b=true then wE w.nx (.pr (.cm .isin) (Zj (.v 0) (.g g))) s2 fun r s3=>Mu r fun y=>K (some y) s3 else K none s2) (x.cps.toList.map fun c=>T.str ⟨#[c]⟩) [] [.no] Q:=by
 refine Zi (fun t=>.bl ((K5 t (.str s)).getD false)) (fun p=>∃s0,p=[s0]) ⟨_,rfl⟩ (fun t mt p K hp hk=>?_) fun p hp=>by obtain⟨s0,rfl⟩:=hp;exact q s0
 obtain⟨s0,rfl⟩:=hp;obtain⟨c,_,rfl⟩:=Gf.mp mt;refine xq hg ?_;exact hk _ ⟨_,rfl⟩
def m5(K:Kn):Prop:=∀{t:T} {n:Int},Dx t->K [.f t,.f (.int n)] (Tl (∃x,t=.str x/\(x.length:Int)<=n))
theorem t8{w:W}(g:GL w.gl):m5 (wF Dl w):=fun {t n} h=>by
 cases h with
 | int h=>refine Zy rfl fun D rt _=>?_;exact rt _ _ .no
 | bl=>refine Zy rfl fun D rt _=>?_;exact rt _ _ .no
 | nil=>refine Zy rfl fun D rt _=>?_;exact rt _ _ .no
 | @str x h =>
  refine Zy rfl fun D rt _=>?_;refine lenP h.z ?_;refine Zz (b:=!decide (n<(x.length:Int))) (fun z=>?_) fun z=>rt _ _ .no;refine jg h.z ?_;refine Bq g.si h.z fun p=>?_;refine me ?_;exact rt _ _ ⟨_,fun _=>⟨x,rfl,by simpa using z⟩,rfl⟩
def B9(K:Kn):Prop:=∀{x:Str},x.length<=sizeLine->K [.f (.str x)] (Tl True)
theorem su{w:W}(g:GL w.gl):B9 (wF Ux w):=fun {x} h=>by
 refine Zy rfl fun D rt _=>?_;refine lenP h ?_;refine xq g.ln ?_;refine c2P ?_;refine Zz (b:=!(decide (1<=(x.length:Int)) && decide ((x.length:Int)<=8))) (fun _=>rt _ _ .no) fun _=>?_;refine jg h ?_;refine Bq g.le h fun p=>?_;refine me ?_;exact rt _ _ ⟨_,fun _=>trivial,rfl⟩
def Q3(K:Kn):Prop:=∀{ts:ZZ},K [.f (.tup ts)] fun x=>x=(.f (.bl (!decide ((8:Int)<(ts.length:Nat)))),[])
theorem wm{w:W}(g:GL w.gl):Q3 (wF Ym w):=fun {ts}=>by
 refine Zy rfl fun D rt _=>?_;refine xq g.mf ?_;exact rt _ _ rfl
theorem Mj{body:T->P->(Option T->P->Prop)->Prop}{xs:ZZ}{p:P}{Q:ZZ->P->Prop}(R:T->Prop)(St:P->Prop)(h0:St p)
  (st:∀x∈xs,∀p K,St p->(∀(b:Bool) p',(b=true->R x)->St p'->K (some (.bl b)) p')->body x p K) (q:∀(bs:List Bool) p,(bs.all id=true->∀x∈xs,R x)->St p->Q (bs.map .bl) p):Z6 body xs [] p Q:=by
 refine Bx (fun rest acc p=>∃bs:List Bool,acc=bs.map .bl/\(bs.all id=true->∀x∈xs,x∈rest\/R x)/\(∀x∈rest,x∈xs)/\St p) ⟨[],rfl,fun _ x m=>.inl m,fun x m=>m,h0⟩ (fun x r acc p K hi hk _=>?_) fun acc p hi=>?_
 .obtain⟨bs,rfl,hr,hx,hs⟩:=hi;refine st x (hx x Yn) p K hs fun b p' hb Tg=>hk _ _ ⟨bs++[b],by rw[Q9];rfl,fun ha y my=>?_,fun y m=>hx y (Vk _ m),Tg⟩;rw[List.all_append,Vp]at ha;rcases hr ha.1 y my with h | h
  .rcases Vv.mp h with rfl | h
   .exact .inr (hb (by simpa using ha.2))
   .exact .inl h
  .exact .inr h
 .obtain⟨bs,rfl,hr,_,hs⟩:=hi;exact q bs p (fun ha x m=>(hr ha x m).elim (fun z=>absurd z Tz) id) hs
theorem Qi:∀bs:List Bool,allB (bs.map .bl)=some bs
 | []=>rfl
 | b::bs=>by show (allB (bs.map .bl)).map (b::·)=_;rw[Qi bs];rfl
theorem qj{bs:List Bool}{Q:Sl->Prop}(q:Q (.f (.bl (bs.all id)))):on ((allB (bs.map .bl)).map fun bs=>Sl.f (.bl (bs.all id))) Q:=Zm (by rw[Qi];rfl) q
noncomputable def ltI:T->Bool
 | .tup [.int a,.int b]=>decide (a<b)
 | _=>false
theorem Pz:∀(a:Int) (zs:ZT),((((a::zs).map T.int).zip (zs.map .int)).map fun p=>T.tup [p.1,p.2]).all ltI=true->Ris (a::zs)
 | a,[],_=>List.pairwise_singleton _ _
 | a,b::zs,h=>by
  have h:(decide (a<b) && ((((b::zs).map T.int).zip (zs.map .int)).map fun p=>T.tup [p.1,p.2]).all ltI)=true:=h;rw[Vp]at h;have r:=Pz b zs h.2;have ab:a<b:=R6 h.1;refine ZA.mpr ⟨fun c m=>?_,r⟩;rcases Vv.mp m with rfl | m
  .exact ab
  .exact Int.lt_trans ab ((ZA.mp r).1 c m)
theorem cut1(t:T)(ts:ZZ):Yp (t::ts) (some 1) none=ts:=by
 rw[Nn (by omega) (by rw[Jk];omega)];rfl
theorem Ax(zs:ZT)(h:(Du (zs.map .int) (Yp (zs.map .int) (some 1) none)).all ltI=true):Ris zs:=by
 cases zs with
 | nil=>exact List.Pairwise.nil
 | cons a zs =>
  rw[S9,cut1]at h;exact Pz a zs h
def o4(K:Kn):Prop:=∀{zs:ZT},K [.f (.lst (zs.map .int))] (Tl (Ris zs))/\K [.f (.tup (zs.map .int))] (Tl (Ris zs))
theorem P0{w:W}{zs:ZT}{Q:ZZ->P->Prop}(q:∀s0 s1,Q ((Du (zs.map .int) (Yp (zs.map .int) (some 1) none)).map fun t=>.bl (ltI t)) [s0,s1]) :
  Z6 (fun t p K=>on (asg (.tup (Zj (.v 0) (.v 1))) t p) fun s1=>if isNil .nil=true then wE w.nx (.pr (.cm .lt) (Zj (.v 0) (.v 1))) s1 fun r s2=>Mu r fun y=>K (some y) s2
   else wE w.nx .nil s1 fun r s2=>Fj r fun b=>if b=true then wE w.nx (.pr (.cm .lt) (Zj (.v 0) (.v 1))) s2 fun r s3=>Mu r fun y=>K (some y) s3 else K none s2) (Du (zs.map .int) (Yp (zs.map .int) (some 1) none)) [] [.no,.no] Q:=by
 refine Zi (fun t=>.bl (ltI t)) (fun p=>∃s0 s1,p=[s0,s1]) ⟨_,_,rfl⟩ (fun t mt p K hp hk=>?_) fun p hp=>?_
 .obtain⟨s0,s1,rfl⟩:=hp;obtain⟨⟨x,y⟩,mz,rfl⟩:=Gf.mp mt;obtain⟨m1,m2⟩:=List.of_mem_zip mz;obtain⟨a,_,rfl⟩:=Gf.mp m1;obtain⟨b,_,rfl⟩:=Gf.mp (Nc m2);exact hk _ ⟨_,_,rfl⟩
 .obtain⟨s0,s1,rfl⟩:=hp;exact q s0 s1
theorem Pe{w:W}:o4 (wF Nb w):=fun {zs}=>by
 constructor
 .refine Zy rfl fun D rt _=>?_;refine P0 fun s0 s1=>?_;refine me ?_;exact rt _ _ ⟨_,fun z=>Ax zs z,rfl⟩
 .refine Zy rfl fun D rt _=>?_;refine P0 fun s0 s1=>?_;refine me ?_;exact rt _ _ ⟨_,fun z=>Ax zs z,rfl⟩
def PStk(K:Kn):Prop:=∀{zs ns:ZT},K [.f (.tup (zs.map .int)),.f (.lst (ns.map .int))] (Tl (zs.length<=8/\∀z∈zs,ql z))
theorem X0{w:W}(hS:Q3 (cl w.C "is_short_tuple"))(hN:m7 (cl w.C "is_number"))(hR:o4 (cl w.C "rises")):PStk (wF Ue w):=fun {zs ns}=>by
 refine Zy rfl fun D rt _=>?_;refine Zg hS fun x ex=>?_;subst ex;refine Zz (b:=!!decide ((8:Int)<((zs.map T.int).length:Nat))) (fun _=>rt _ _ .no) fun z=>?_;refine Mj (fun t=>∀i,t=.int i->ql i) (fun p=>∃s0,p=[s0]) ⟨_,rfl⟩ (fun t mt p K hp hk=>?_) fun bs p hb hp=>?_
 .obtain⟨s0,rfl⟩:=hp;obtain⟨i,_,rfl⟩:=Gf.mp mt;refine Yc hN fun b hb=>?_;exact hk b _ (fun h j e=>by cases e;have:=hb h;exact⟨by omega,by omega⟩) ⟨_,rfl⟩
 obtain⟨s0,rfl⟩:=hp;refine qj ?_;refine Zz (b:=!bs.all id) (fun _=>rt _ _ .no) fun z2=>?_;refine Yc hR.2 fun b1 _=>?_;refine Zz (b:=b1) (fun _=>?_) fun _=>rt _ _ .no;refine Zi (fun t=>.bl ((K5 t (.lst (ns.map .int))).getD false)) (fun p=>∃s0,p=[s0,.f (.lst (ns.map .int))]) ⟨_,rfl⟩ (fun t mt p K hp hk=>?_) fun p hp=>?_
 .obtain⟨s0,rfl⟩:=hp;obtain⟨i,_,rfl⟩:=Gf.mp mt;refine Zm (a:=Sl.f (.bl (ns.any fun z=>decide (z=i)))) (by show (K5 (.int i) (.lst (ns.map .int))).map _=_;rw[Fs];rfl) ?_;have:=hk [.f (.int i),.f (.lst (ns.map .int))] ⟨_,rfl⟩;rw[Fs]at this;exact this
 obtain⟨s0,rfl⟩:=hp;refine H6 ?_;refine rt _ _ ⟨_,fun _=>⟨?_,fun z m=>?_⟩,rfl⟩
 .have z':(zs.length:Int)<=8:=by simpa using z
  omega
 .exact hb (Oz z2) (.int z) (List.mem_map_of_mem m) z rfl
def Mq(K:Kn)(R:T->Prop):Prop:=∀{t:T},R t->K [.f t] (Tl True)
theorem Sy{w:W}:Mq (wF V8 w) fun t=>∃ds,t=.tup ds:=fun {t} h=>by
 obtain⟨ds,rfl⟩:=h;refine Zy rfl fun D rt _=>?_;exact rt _ _ ⟨_,fun _=>trivial,rfl⟩
theorem om{w:W}(hN:m7 (cl w.C "is_number"))(hM:B9 (cl w.C "is_name")):Mq (wF Nt w) fun t=>∃n x o,Sm x/\o.length<=sizeLine/\t=.tup [.int n,.str x,.str o]:=fun {t} h=>by
 obtain⟨n,x,o,hx,ho,rfl⟩:=h;refine Zy rfl fun D rt _=>?_;refine Yc hN fun b _=>?_;refine Zz (b:=b) (fun _=>?_) fun _=>rt _ _ .no;refine Yc (hM hx.z) fun b _=>?_;refine Zz (b:=b) (fun _=>?_) fun _=>rt _ _ .no;refine Yc (hM ho) fun b _=>?_;exact rt _ _ ⟨b,fun _=>trivial,rfl⟩
theorem xv{w:W}(hA:Mq (cl w.C "is_arm") fun t=>∃n x o,Sm x/\o.length<=sizeLine/\t=.tup [.int n,.str x,.str o])(hD:Mq (cl w.C "is_default") fun t=>∃ds,t=.tup ds):Mq (wF Gx w) fun t=>∃n x o ds,Sm x/\o.length<=sizeLine/\t=.tup [.int n,.str x,.str o,.tup ds]:=fun {t} h=>by
 obtain⟨n,x,o,ds,hx,ho,rfl⟩:=h;refine Zy rfl fun D rt _=>?_;refine Yc (hA ⟨n,x,o,hx,ho,rfl⟩) fun b _=>?_;refine Zz (b:=b) (fun _=>?_) fun _=>rt _ _ .no;refine Yc (hD ⟨ds,rfl⟩) fun b _=>?_;exact rt _ _ ⟨b,fun _=>trivial,rfl⟩
noncomputable def nmS:T->Str
 | .tup (_::.str x::_)=>x
 | _ => ""
theorem lsetP{ss:ZG}{Q:Sl->Prop}(h:ss.length<64)(q:Q (.f (.int (SRT.qb ss).length))):on (W5 .lset [.lst (ss.map .str)]) Q:=Zm (by show (Mi (ss.map .str)).bind _=_;rw[PV.strs_map];exact if_pos h) q
theorem C5{w:W}(hS:Q3 (cl w.C "is_short_tuple"))(hR:o4 (cl w.C "rises"))(hK:PStk (cl w.C "is_struck")){ns:ZG}{k:Bool}{ps:ZZ}{zs:ZT}{f:Str}(hp:Mr ns k ps)(hf:∀p,Gg ns k p->cN (w.C f [.f p]) (Tl True)):wF Yh w [.f (.tup ps),.f (.tup (zs.map .int)),.f (.fn f)] (Tl (Mem ps zs)):=by
 refine Zy rfl fun D rt _=>?_;refine Zg hS fun x ex=>?_;subst ex;refine Zz (b:=!!decide ((8:Int)<(ps.length:Nat))) (fun _=>rt _ _ .no) fun z=>?_;have z':(ps.length:Int)<=8:=by simpa using z
 refine Mj (fun _=>True) (fun p=>∃s0,p=[s0,.f (.fn f)]) ⟨_,rfl⟩ (fun t mt p K hs hk=>?_) fun bs p hb hs=>?_
 .obtain⟨s0,rfl⟩:=hs;refine Yc (hf t (hp.p t mt)) fun b _=>?_;exact hk b _ (fun _=>trivial) ⟨_,rfl⟩
 obtain⟨s0,rfl⟩:=hs;refine qj ?_;refine Zz (b:=!bs.all id) (fun _=>rt _ _ .no) fun _=>?_;refine Zi (fun t=>.int (Z1 t)) (fun p=>∃s0,p=[s0]) ⟨_,rfl⟩ (fun t mt p K hs hk=>?_) fun p hs=>?_
 .obtain⟨s0,rfl⟩:=hs;cases hp.p t mt with | mk hn hx ho hd =>
  cases hd<;>exact hk _ ⟨_,rfl⟩
 obtain⟨s1,rfl⟩:=hs;rw[show (ps.map fun t=>T.int (Z1 t))=(ps.map Z1).map .int by rw[List.map_map];rfl];refine Zi (fun t=>.str (nmS t)) (fun p=>∃s0,p=[s0]) ⟨_,rfl⟩ (fun t mt p K hs hk=>?_) fun p hs=>?_
 .obtain⟨s0,rfl⟩:=hs;cases hp.p t mt with | mk hn hx ho hd =>
  cases hd<;>exact hk _ ⟨_,rfl⟩
 obtain⟨s2,rfl⟩:=hs;rw[show (ps.map fun t=>T.str (nmS t))=(ps.map nmS).map .str by rw[List.map_map];rfl];refine Yc hR.1 fun b1 h1=>?_;refine Zz (b:=b1) (fun z1=>?_) fun _=>rt _ _ .no;refine lsetP (by rw[Zu];omega) ?_;refine Zz (b:=decide (((SRT.qb (ps.map nmS)).length:Int)=(((ps.map nmS).map T.str).length:Nat))) (fun _=>?_) fun _=>rt _ _ .no;refine Yc hK fun b2 h2=>?_;exact rt _ _ ⟨b2,fun z2=>⟨by omega,(h1 z1).imp fun h=>Int.ne_of_lt h,(h2 z2).1,(h2 z2).2⟩,rfl⟩
def PBnd(K:Kn):Prop:=∀{a b:Int},K [.f (.int a),.f (.int b)] (Tl (ql a/\ql b/\a<=b))
theorem x9{w:W}(hI:PItW (cl w.C "is_item_whole")):PBnd (wF V9 w):=fun {a b}=>by
 refine Zy rfl fun D rt _=>?_;refine Yc hI fun b1 h1=>?_;refine Zz (b:=b1) (fun z1=>?_) fun _=>rt _ _ .no;refine Yc hI fun b2 h2=>?_;refine Zz (b:=b2) (fun z2=>?_) fun _=>rt _ _ .no;exact rt _ _ ⟨!decide (b<a),fun z=>⟨h1 z1,h2 z2,by simpa using z⟩,rfl⟩
def o8(K:Kn)(k:Bool)(f:Str):Prop:=∀{ns:ZG} {ps:ZZ} {zs:ZT},(∀x∈ns,Sm x)->Mr ns k ps->K [.f (.tup ps),.f (.tup (zs.map .int)),.f (.fn f)] (Tl (Mem ps zs))
def m6(K:Kn):Prop:=∀{ns:ZG} {t:T},(∀x∈ns,Sm x)->Raw ns t->K [.f t] (Tl (N6 t))
theorem wt{w:W}(g:GL w.gl)(hB:PBnd (cl w.C "are_bounds"))(hW:N0 (cl w.C "is_whole"))(hM:B9 (cl w.C "is_name"))(hF:o8 (cl w.C "are_members") true "is_field")(hA:o8 (cl w.C "are_members") false "is_arm"):m6 (wF Gz w):=fun {ns t} hs h=>by
 refine Zy rfl fun D rt _=>?_;cases h with
 | whole =>
  refine Yc hB fun b hb=>?_;exact rt _ _ ⟨b,fun z=>.whole (hb z).1 (hb z).2.1 (hb z).2.2,rfl⟩
 | truth=>exact rt _ _ ⟨true,fun _=>.truth,rfl⟩
 | text =>
  refine xq g.lt ?_;refine Yc hW fun b hb=>?_;exact rt _ _ ⟨b,fun z=>.text (hb z).1 (hb z).2,rfl⟩
 | row ho =>
  refine Yc (hM (hs _ ho).z) fun b _=>?_;refine Zz (b:=b) (fun _=>?_) fun _=>rt _ _ .no;refine xq g.mp ?_;refine Yc hW fun b hb=>?_;exact rt _ _ ⟨b,fun z=>.row (hb z).1 (hb z).2,rfl⟩
 | map ho =>
  refine Yc (hM (hs _ ho).z) fun b _=>?_;refine Zz (b:=b) (fun _=>?_) fun _=>rt _ _ .no;refine xq g.mp ?_;refine Yc hW fun b hb=>?_;exact rt _ _ ⟨b,fun z=>.map (hb z).1 (hb z).2,rfl⟩
 | record hp _ =>
  refine xq g.fi ?_;refine Yc (hF hs hp) fun b hb=>?_;exact rt _ _ ⟨b,fun z=>.record (hb z),rfl⟩
 | choice hp _ =>
  refine xq g.ar ?_;refine Yc (hA hs hp) fun b hb=>?_;refine Zz (b:=b) (fun z=>?_) fun _=>rt _ _ .no;exact rt _ _ ⟨true,fun _=>.choice (hb z),rfl⟩
inductive Be:T->T->Prop
 | whole{a b i:Int}(h1:a<=i)(h2:i<=b):Be (.tup [.str "whole",.int a,.int b]) (.int i)
 | truth {b:Bool}:Be (.tup [.str "truth"]) (.bl b)
 | text {n:Int} {x:Str} (h:(x.length:Int)<=n):Be (.tup [.str "text",.int n]) (.str x)
 | row {o:Str} {n:Int}:Be (.tup [.str "row",.str o,.int n]) (.tup [])
 | map {o:Str} {n:Int}:Be (.tup [.str "map",.str o,.int n]) (.tup [])
def PSng(K:Kn):Prop:=∀{ns:ZG} {s v:T},Raw ns s->Dx v->K [.f s,.f v] (Tl (Be s v))
theorem X3{w:W}(hW:H9 (cl w.C "is_whole"))(hT:m5 (cl w.C "is_text")):PSng (wF Yv w):=fun {ns s v} h hv=>by
 refine Zy rfl fun D rt _=>?_;cases h with
 | whole =>
  refine Yc (hW hv) fun b hb=>?_;exact rt _ _ ⟨b,fun z=>by obtain⟨i,rfl,l,u⟩:=hb z;exact .whole l u,rfl⟩
 | truth =>
  cases hv with
  | bl=>exact rt _ _ ⟨true,fun _=>.truth,rfl⟩
  | _=>exact rt _ _ .no
 | text =>
  refine Yc (hT hv) fun b hb=>?_;exact rt _ _ ⟨b,fun z=>by obtain⟨x,rfl,l⟩:=hb z;exact .text l,rfl⟩
 | _=>exact rt _ _ .no
noncomputable def Y6(ps:ZZ)(n:Int):Option T:=ps.find? fun p=>decide (Z1 p=n)
theorem Nj{p:T}{ps:ZZ}{n:Int}(e:Z1 p=n):Y6 (p::ps) n=some p:=List.find?_cons_of_pos (p:=fun p=>decide (Z1 p=n)) (Ma e)
theorem Nw{p:T}{ps:ZZ}{n:Int}(e:Z1 p≠n):Y6 (p::ps) n=Y6 ps n:=List.find?_cons_of_neg (p:=fun p=>decide (Z1 p=n)) fun z=>e (R6 z)
def m8(K:Kn):Prop:=∀{ns:ZG} {k:Bool} {ps r:ZZ} {s:Str} {n:Int},(∀p∈ps,Gg ns k p)->K [.f (.tup (.str s::.tup ps::r)),.f (.int n)] fun x=>x=(.f ((Y6 ps n).getD .non),[])
theorem zk{w:W}:m8 (wF Uh w):=fun {ns k ps r s n} h=>by
 refine Zy rfl fun D rt _=>?_;refine Bg ?_;refine Cy (fun rest p=>∃s2,p=[.f (.tup (.str s::.tup ps::r)),.f (.int n),s2]/\(∀x∈rest,x∈ps)/\Y6 ps n=Y6 rest n) ⟨_,rfl,fun x m=>m,rfl⟩ (fun x rest p D' hi nx rt'=>?_) fun p hi=>?_
 .obtain⟨s2,rfl,hr,hf⟩:=hi;have hx:=h x (hr x Yn);cases hx with | @mk m y o ds hn hy ho hd =>
  refine Ud ?_;refine Zz (b:=decide (m=n)) (fun e=>?_) fun e=>?_
  .refine rt' _ _ (rt _ _ ?_);rw[hf,Nj (show Z1 (T.tup (.int m::.str y::.str o::ds))=n from R6 e)];rfl
  .refine nx _ ⟨_,rfl,fun y m=>hr y (Vk _ m), ?_⟩;rw[hf,Nw (show Z1 (T.tup (.int m::.str y::.str o::ds))≠n from of_decide_eq_false e)]
 .obtain⟨s2,rfl,_,hf⟩:=hi;exact rt _ _ (by rw[hf];rfl)
def m9(K:Kn):Prop:=∀{root x:Str} {XY:ZX} {t:T},Zv XY (.inr x)=some t->K [.f (.tup [.str root,.dct XY]),.f (.str x)] fun y=>y=(.f t,[])
theorem u7{w:W}:m9 (wF Uj w):=fun {root x XY t} e=>by
 refine Zy rfl fun D rt _=>?_;refine rt _ _ ?_;show ((.f ((Zv XY (.inr x)).getD .non),[]):Sl×ZZ)=(.f t,[]);rw[e];rfl
noncomputable def T2:T->Str
 | .tup (_::_::.str o::_)=>o
 | _ => ""
def POfs(K:Kn):Prop:=∀{ns:ZG} {t:T},Raw ns t->K [.f t] fun x=>∃os:ZG,(∀o∈os,o∈ns)/\x=(.o (.lst (os.map .str)),[])
theorem W8{w:W}{ns:ZG}{k:Bool}{ps:ZZ}(hp:Mr ns k ps){Q:ZZ->P->Prop}(q:∀s0,Q ((ps.map T2).map .str) [s0]) :
  Z6 (fun x s K=>on (asg (.v 0) x s) fun s1=>if isNil .nil=true then wE w.nx (Zw (.v 0) (ki 2)) s1 fun r s2=>Mu r fun y=>K (some y) s2
   else wE w.nx .nil s1 fun r s2=>Fj r fun b=>if b=true then wE w.nx (Zw (.v 0) (ki 2)) s2 fun r s3=>Mu r fun y=>K (some y) s3 else K none s2) ps [] [.no] Q:=by
 refine Zi (fun t=>.str (T2 t)) (fun p=>∃s0,p=[s0]) ⟨_,rfl⟩ (fun t mt p K hs hk=>?_) fun p hs=>?_
 .obtain⟨s0,rfl⟩:=hs;cases hp.p t mt with | mk hn hx ho hd =>
  cases hd<;>exact hk _ ⟨_,rfl⟩
 obtain⟨s1,rfl⟩:=hs;rw[show (ps.map fun t=>T.str (T2 t))=(ps.map T2).map .str by rw[List.map_map];rfl];exact q s1
theorem v8{ns:ZG}{k:Bool}{ps:ZZ}(hp:Mr ns k ps):∀o∈ps.map T2,o∈ns:=fun o m=>by
 obtain⟨p,mp,rfl⟩:=Gf.mp m;cases hp.p p mp with | mk hn hx ho hd=>exact ho
theorem ofs_ok{w:W}:POfs (wF Nd w):=fun {ns t} h=>by
 refine Zy rfl fun D rt _=>?_;cases h with
 | @row o n ho=>exact rt _ _ ⟨[o],(fun x m=>by rw[V1.mp m];exact ho),rfl⟩
 | @map o n ho=>exact rt _ _ ⟨[o],(fun x m=>by rw[V1.mp m];exact ho),rfl⟩
 | record hp _ =>
  refine W8 hp fun s0=>?_;exact rt _ _ ⟨_,v8 hp,rfl⟩
 | choice hp _ =>
  refine W8 hp fun s0=>?_;exact rt _ _ ⟨_,v8 hp,rfl⟩
 | _=>exact rt _ _ ⟨[],(fun x m=>absurd m Tz),rfl⟩
noncomputable abbrev Gs(ps:ZZ)(zs:ZT):T:=.tup [.str "record",.tup ps,.tup (zs.map .int)]
noncomputable abbrev Tc(ps:ZZ)(zs:ZT)(b:Bool):T:=.tup [.str "choice",.tup ps,.tup (zs.map .int),.bl b]
structure Ta(ns:ZG)(XY:ZX):Prop where
 k:XY.map (·.1)=ns.map Sum.inr
 r:∀p∈XY,Raw ns p.2
 sm:∀x∈ns,Sm x
theorem Z5{XY:ZX}{k:Key}{t:T}(h:Zv XY k=some t):(k,t)∈XY:=by
 obtain⟨p,e,rfl⟩:=Y3.mp (show (XY.find? fun p=>decide (p.1=k)).map (·.2)=some t from h);have:=R6 (List.find?_some (p:=fun p:Key×T=>decide (p.1=k)) e);have m:=List.mem_of_find?_eq_some e;rw[<-this];exact m
theorem Ta.get{ns:ZG}{XY:ZX}(h:Ta ns XY){o:Str}(ho:o∈ns):∃s,Zv XY (.inr o)=some s/\Raw ns s:=by
 have m:(Sum.inr o:Key)∈XY.map (·.1):=by rw[h.k];exact List.mem_map_of_mem ho
 cases e:Zv XY (.inr o) with
 | some s=>exact⟨s,rfl,h.r _ (Z5 e)⟩
 | none =>
  exfalso
  obtain⟨p,mp,ep⟩:=Gf.mp m;have e:(XY.find? fun p=>decide (p.1=Sum.inr o)).map (·.2)=none:=e;rw[Option.map_eq_none_iff,XJ]at e;exact e p mp (Ma ep)
theorem Ta.key{ns:ZG}{XY:ZX}(h:Ta ns XY){p:Key×T}(m:p∈XY):∃x,x∈ns/\p.1=.inr x:=by
 have:p.1∈XY.map (·.1):=List.mem_map_of_mem m;rw[h.k]at this;obtain⟨x,mx,e⟩:=Gf.mp this;exact⟨x,mx,e.symm⟩
def DF(XY:ZX)(ps:ZZ):Prop:=∀n x o v,T.tup [.int n,.str x,.str o,.tup [v]]∈ps->∃s,Zv XY (.inr o)=some s/\Be s v
def PFd(K:Kn):Prop:=∀{ns:ZG} {XY:ZX} {n:Int} {x o:Str} {ds:ZZ} {s:T},Zv XY (.inr o)=some s->Raw ns s->Dfl ds->K [.f (.tup [.int n,.str x,.str o,.tup ds]),.f (.dct XY)] (Tl (∀v,ds=[v]->Be s v))
theorem gh{w:W}(hS:PSng (cl w.C "is_single_value")):PFd (wF Vw w):=fun {ns XY n x o ds s} e hs hd=>by
 refine Zy rfl fun D rt _=>?_;refine Ka e ?_;cases hd with
 | no=>exact rt _ _ ⟨true,(fun _ v z=>nomatch z),rfl⟩
 | @is v hv =>
  cases hs with
  | row ho =>
   cases hv with
   | nil=>exact rt _ _ ⟨true,(fun _ v z=>by cases z;exact .row),rfl⟩
   | _=>exact rt _ _ .no
  | map ho =>
   cases hv with
   | nil=>exact rt _ _ ⟨true,(fun _ v z=>by cases z;exact .map),rfl⟩
   | _=>exact rt _ _ .no
  | whole=>refine Yc (hS (ns:=ns) .whole hv) fun b hb=>?_;exact rt _ _ ⟨b,(fun z v e=>by cases e;exact hb z),rfl⟩
  | truth=>refine Yc (hS (ns:=ns) .truth hv) fun b hb=>?_;exact rt _ _ ⟨b,(fun z v e=>by cases e;exact hb z),rfl⟩
  | text=>refine Yc (hS (ns:=ns) .text hv) fun b hb=>?_;exact rt _ _ ⟨b,(fun z v e=>by cases e;exact hb z),rfl⟩
  | record hp hz=>refine Yc (hS (.record hp hz) hv) fun b hb=>?_;exact rt _ _ ⟨b,(fun z v e=>by cases e;exact hb z),rfl⟩
  | choice hp hz=>refine Yc (hS (.choice hp hz) hv) fun b hb=>?_;exact rt _ _ ⟨b,(fun z v e=>by cases e;exact hb z),rfl⟩
def PFi(K:Kn):Prop:=∀{ns:ZG} {XY:ZX} {s:T},Ta ns XY->Raw ns s->K [.f s,.f (.dct XY)] (Tl (∀ps zs,s=Gs ps zs->DF XY ps))
theorem gr{w:W}(hO:POfs (cl w.C "ofs_of"))(hD:PFd (cl w.C "fits_default")):PFi (wF Dh w):=fun {ns XY s} hk hs=>by
 refine Zy rfl fun D rt _=>?_;refine Zg (hO hs) fun y ⟨os,ho,ey⟩=>?_;subst ey;refine Mj (fun _=>True) (fun p=>∃s0,p=[s0,.f (.dct XY)]) ⟨_,rfl⟩ (fun t mt p K hp hk=>?_) fun bs p _ hp=>?_
 .obtain⟨s0,rfl⟩:=hp;obtain⟨o,_,rfl⟩:=Gf.mp mt;exact hk _ _ (fun _=>trivial) ⟨_,rfl⟩
 obtain⟨s0,rfl⟩:=hp;refine qj ?_;refine Zz (b:=!bs.all id) (fun _=>rt _ _ .no) fun _=>?_;cases hs with
 | @record ps zs hp hz =>
  refine Mj (fun t=>∀n x o v,t=.tup [.int n,.str x,.str o,.tup [v]]->∃s,Zv XY (.inr o)=some s/\Be s v) (fun p=>∃s0,p=[s0,.f (.dct XY)]) ⟨_,rfl⟩ (fun t mt p K hq Ew=>?_) fun bs p hb hq=>?_
  .obtain⟨s0,rfl⟩:=hq;cases hp.p t mt with | @mk n x o ds hn hx ho hd =>
   cases hd with | @fld ds hd =>
   obtain⟨s,e,hs⟩:=hk.get ho;refine Yc (hD e hs hd) fun b hb=>?_;exact Ew b _ (fun z n x o v e'=>by cases e';exact⟨s,e,hb z v rfl⟩) ⟨_,rfl⟩
  obtain⟨s0,rfl⟩:=hq;refine qj ?_;refine rt _ _ ⟨_,fun z ra dv e=>?_,rfl⟩;have e':T.tup ps=.tup ra:=by injection e with e;injection e with _ e;injection e with e _
  cases e';exact fun n x o v m=>hb z _ m n x o v rfl
 | _=>exact rt _ _ ⟨true,(fun _ ps zs z=>by cases z),rfl⟩
def PFms(K:Kn):Prop:=∀{ns:ZG} {XY:ZX},Ta ns XY->K [.f (.dct XY)] (Tl (∀p∈XY,N6 p.2))
theorem gj{w:W}(g:GL w.gl)(hM:B9 (cl w.C "is_name"))(hS:m6 (cl w.C "is_shape")):PFms (wF U1 w):=fun {ns XY} hk=>by
 refine Zy rfl fun D rt _=>?_;refine xq g.mm ?_;refine c2P ?_;refine Zz (b:=!(decide ((1:Int)<=(XY.length:Nat)) && decide (((XY.length:Nat):Int)<=8))) (fun _=>rt _ _ .no) fun _=>?_;refine Mj (fun t=>∀k s,t=.tup [k,s]->N6 s) (fun p=>∃s0 s1,p=[s0,s1]) ⟨_,_,rfl⟩ (fun t mt p K hq Ew=>?_) fun bs p hb hq=>?_
 .obtain⟨s0,s1,rfl⟩:=hq;obtain⟨⟨k,s⟩,mp,rfl⟩:=Gf.mp mt;obtain⟨x,mx,ex⟩:=hk.key mp;cases(show k=.inr x from ex);refine Yc (hM (hk.sm x mx).z) fun b _=>?_;refine Zz (b:=b) (fun _=>?_) fun _=>Ew false _ (fun z=>nomatch z) ⟨_,_,rfl⟩;refine Yc (hS hk.sm (hk.r _ mp)) fun b hb=>?_;exact Ew b _ (fun z k s e=>by cases e;exact hb z) ⟨_,_,rfl⟩
 obtain⟨s0,s1,rfl⟩:=hq;refine qj ?_;exact rt _ _ ⟨_,fun z p mp=>hb z _ (List.mem_map_of_mem mp) _ _ rfl,rfl⟩
def PMk(K:Kn):Prop:=∀{ns:ZG} {XY:ZX} {root:Str},Ta ns XY->root∈ns->K [.f (.tup [.str root,.dct XY])] (Tl ((∀p∈XY,N6 p.2)/\∀p∈XY,∀ps zs,p.2=Gs ps zs->DF XY ps))
theorem zp{w:W}(hF:PFms (cl w.C "are_forms"))(hM:B9 (cl w.C "is_name"))(hI:PFi (cl w.C "fits_in")):PMk (wF Dr w):=fun {ns XY root} hk hr=>by
 refine Zy rfl fun D rt _=>?_;refine Yc (hF hk) fun b1 h1=>?_;refine Zz (b:=!b1) (fun _=>rt _ _ .no) fun z1=>?_;refine Yc (hM (hk.sm _ hr).z) fun b2 _=>?_;refine Zz (b:=!b2) (fun _=>rt _ _ .no) fun _=>?_;refine Zz (b:=!(Zv XY (.inr root)).isSome) (fun _=>rt _ _ .no) fun _=>?_;refine Mj (fun s=>∀ps zs,s=Gs ps zs->DF XY ps) (fun p=>∃s0,p=[s0,.f (.dct XY)]) ⟨_,rfl⟩ (fun t mt p K hq Ew=>?_) fun bs p hb hq=>?_
 .obtain⟨s0,rfl⟩:=hq;obtain⟨q,mq,rfl⟩:=Gf.mp mt;refine Yc (hI hk (hk.r _ mq)) fun b hb=>?_;exact Ew b _ hb ⟨_,rfl⟩
 obtain⟨s0,rfl⟩:=hq;refine qj ?_;exact rt _ _ ⟨_,fun z=>⟨h1 (Oz z1),fun p mp=>hb z _ (List.mem_map_of_mem mp)⟩,rfl⟩
structure Sh(d w:Nat)(t:T):Prop where
 o:okT 20 t
 w:dy t<=w
 d:dpT t<=d
theorem Sh.mono{d w d' w':Nat}{t:T}(h:Sh d w t)(hd:d<=d')(hw:w<=w'):Sh d' w' t:=⟨h.o,Jy h.w hw,Jy h.d hd⟩
theorem A0{d w:Nat}:∀{ts:ZZ},(∀t∈ts,Sh d w t)->v5 20 ts/\Et ts<=ts.length * (w+1)/\xb ts<=d
 | [],_=>⟨trivial,Wz _,Wz _⟩
 | t::r,h=>by
  have a:=h t Yn;obtain⟨b,c,e⟩:=A0 (ts:=r) fun x m=>h x (Vk _ m);refine⟨⟨a.o,b⟩, ?_,Nat.max_le.mpr ⟨a.d,e⟩⟩;show dy t+1+Et r<=(r.length+1) * (w+1);have:=a.w;rw[Nat.add_mul];omega
theorem Sh.tup{d w n:Nat}{ts:ZZ}(l:ts.length<=n)(l':n<=20)(h:∀t∈ts,Sh d w t):Sh (d+1) (n * (w+1)) (.tup ts):=by
 obtain⟨a,b,c⟩:=A0 h;exact⟨⟨Jy l l',a⟩,Jy b (Nat.mul_le_mul_right _ l),Nat.add_le_add_right c 1⟩
theorem wi{d w:Nat}:∀{XY:ZX},(∀p∈XY,(∃x,Sm x/\p.1=.inr x)/\Sh d w p.2)->r8 20 XY/\Xt XY<=XY.length * (w+10)/\fu XY<=d
 | [],_=>⟨trivial,Wz _,Wz _⟩
 | (k,t)::r,h=>by
  obtain⟨⟨x,hx,e⟩,a⟩:=h (k,t) Yn;cases(show k=.inr x from e);obtain⟨b,c,e⟩:=wi (XY:=r) fun x m=>h x (Vk _ m);refine⟨⟨hx.2,a.o,b⟩, ?_,Nat.max_le.mpr ⟨a.d,e⟩⟩;show x.length+dy t+2+Xt r<=(r.length+1) * (w+10);have:=(show dy t<=w from a.w);have:=hx.1;rw[Nat.add_mul];omega
theorem L7{i:Int}(h:ql i):Sh 1 70 (.int i):=⟨(show i.natAbs<=10 ^ 19 by have:=h.1;have:=h.2;omega),Gc _,Wz _⟩
theorem Bj{x:Str}(h:Sm x):Sh 1 70 (.str x):=⟨h.2,Jy h.1 (by omega),Wz _⟩
theorem P8{n:Int}(h:n∈Wa):ql n:=by
 have:∀n∈Wa, -1000000000000000000<=n/\n<=1000000000000000000:=by decide
 exact this n h
theorem sh_dx{t:T}(h:Dx t):Sh 1 70 t:=by
 cases h with
 | int h=>exact L7 h
 | bl=>exact⟨trivial,Wz _,Wz _⟩
 | str h=>exact Bj h
 | nil=>exact⟨⟨Wz _,trivial⟩,Wz _,Gc _⟩
theorem sh1{a:T}{d w:Nat}(ha:Sh d w a):Sh (d+1) (4 * (w+1)) (.tup [a]):=Sh.tup (by simp) (by omega) (by simp[ha])
theorem sh2{a b:T}{d w:Nat}(ha:Sh d w a)(hb:Sh d w b):Sh (d+1) (4 * (w+1)) (.tup [a,b]):=Sh.tup (by simp) (by omega) (by simp[ha,hb])
theorem sh3{a b c:T}{d w:Nat}(ha:Sh d w a)(hb:Sh d w b)(hc:Sh d w c):Sh (d+1) (4 * (w+1)) (.tup [a,b,c]):=Sh.tup (by simp) (by omega) (by simp[ha,hb,hc])
theorem sh4{a b c e:T}{d w:Nat}(ha:Sh d w a)(hb:Sh d w b)(hc:Sh d w c)(he:Sh d w e):Sh (d+1) (4 * (w+1)) (.tup [a,b,c,e]):=Sh.tup (by simp) (by omega) (by simp[ha,hb,hc,he])
theorem sh_prt{ns:ZG}{k:Bool}{t:T}(hs:∀x∈ns,Sm x)(h:Gg ns k t):Sh 3 288 t:=by
 cases h with | @mk n x o ds hn hx ho hd =>
 have a:=(L7 (P8 hn)).mono (d':=2) (w':=71) (by omega) (by omega);have b:=(Bj hx).mono (d':=2) (w':=71) (by omega) (by omega);have c:=(Bj (hs o ho)).mono (d':=2) (w':=71) (by omega) (by omega);cases hd with
 | arm=>exact sh3 a b c
 | @fld ds hd =>
  have d:Sh 2 71 (.tup ds):=by
   refine Sh.tup (n:=1) (w:=70) (d:=1) ?_ (by omega) fun t m=>?_
   .cases hd<;>simp
   .cases hd with
    | no=>nomatch m
    | is h=>cases V1.mp m;exact sh_dx h
  exact sh4 a b c d
theorem sm_w:∀x∈(["whole","truth","text","row","map","record","choice"]:ZG),Sm x:=fun x m=>by
 have h1:∀x∈(["whole","truth","text","row","map","record","choice"]:ZG),x.length<=8:=by decide
 have h2:∀x∈(["whole","truth","text","row","map","record","choice"]:ZG),∀c∈x.cps.toList,c<16 ^ 8:=by decide
 exact⟨h1 x m,h2 x m⟩
theorem Mv{x:Str}(h:x∈(["whole","truth","text","row","map","record","choice"]:ZG)):Sh 4 2312 (.str x):=(Bj (sm_w x h)).mono (by omega) (by omega)
theorem wa{i:Int}(h:ql i):Sh 4 2312 (.int i):=(L7 h).mono (by omega) (by omega)
theorem L6{ns:ZG}{k:Bool}{ps:ZZ}{zs:ZT}(hs:∀x∈ns,Sm x)(hp:Mr ns k ps)(h:Mem ps zs):Sh 4 2312 (.tup ps)/\Sh 4 2312 (.tup (zs.map .int)) :=
 ⟨Sh.tup (n:=8) h.l (by omega) fun t m=>sh_prt hs (hp.p t m),(Sh.tup (n:=8) (by rw[Zu];exact h.sl) (by omega) fun t m=>by
  obtain⟨z,mz,rfl⟩:=Gf.mp m;exact L7 (h.sb z mz)).mono (by omega) (by omega)⟩
theorem wc{ns:ZG}{s:T}(hs:∀x∈ns,Sm x)(h:Raw ns s)(h':N6 s):Sh 5 9252 s:=by
 have hb:∀b,Sh 4 2312 (.bl b):=fun b=>⟨trivial,Wz _,Wz _⟩;have ho:∀o∈ns,Sh 4 2312 (.str o):=fun o m=>(Bj (hs o m)).mono (by omega) (by omega);cases h' with
 | whole ha hb _=>exact sh3 (Mv (by decide)) (wa ha) (wa hb)
 | truth=>exact sh1 (Mv (by decide))
 | text h0 h1=>exact sh2 (Mv (by decide)) (wa ⟨by omega,by omega⟩)
 | row h0 h1=>cases h with | row m=>exact sh3 (Mv (by decide)) (ho _ m) (wa ⟨by omega,by omega⟩)
 | map h0 h1=>cases h with | map m=>exact sh3 (Mv (by decide)) (ho _ m) (wa ⟨by omega,by omega⟩)
 | @record ps zs hm =>
  obtain⟨s,e⟩:∃s,s=T.tup [.str "record",.tup ps,.tup (zs.map .int)]:=⟨_,rfl⟩;rw[<-e]at h;cases h with
  | record hp _=>injection e with e;injection e with _ e;injection e with e1 _;injection e1 with e1;subst e1;exact sh3 (Mv (by decide)) (L6 hs hp hm).1 (L6 hs hp hm).2
  | _=>cases e
 | @choice ps zs b hm =>
  obtain⟨s,e⟩:∃s,s=T.tup [.str "choice",.tup ps,.tup (zs.map .int),.bl b]:=⟨_,rfl⟩;rw[<-e]at h;cases h with
  | choice hp _=>injection e with e;injection e with _ e;injection e with e1 _;injection e1 with e1;subst e1;exact sh4 (Mv (by decide)) (L6 hs hp hm).1 (L6 hs hp hm).2 (hb _)
  | _=>cases e
noncomputable def T1:T->Bool
 | .tup [_,.tup _,_]=>false
 | .tup [_,.tup _,_,_]=>false
 | _=>true
structure Mk(ns:ZG)(root:Str)(XY:ZX):Prop where
 raw:Ta ns XY
 root:root∈ns
 ok:∀p∈XY,N6 p.2
 fit:∀p∈XY,∀ps zs,p.2=Gs ps zs->DF XY ps
 pl:∃x,x∈ns/\∃s,Zv XY (.inr x)=some s/\T1 s=true
 l:ns.length<=7
noncomputable abbrev mkT(root:Str)(XY:ZX):T:=.tup [.str root,.dct XY]
theorem Mk.sh{ns:ZG}{root:Str}{XY:ZX}(h:Mk ns root XY):Sh 7 129670 (mkT root XY):=by
 have l:XY.length=ns.length:=by
  have:=congrArg List.length h.raw.k;rw[Zu,Zu]at this;exact this
 obtain⟨a,b,c⟩:=wi (d:=5) (w:=9252) (XY:=XY) fun p m=>⟨let ⟨x,mx,e⟩:=h.raw.key m;⟨x,h.raw.sm x mx,e⟩,wc h.raw.sm (h.raw.r p m) (h.ok p m)⟩;have d:Sh 6 64834 (.dct XY):=⟨a,Jy b (by have:=h.l;rw[l];omega),Nat.add_le_add_right c 1⟩
 exact Sh.tup (n:=2) (d:=6) (w:=64834) (Gc _) (by omega) fun t m=>by
  rcases Vv.mp m with rfl | m
  .exact(Bj (h.raw.sm _ h.root)).mono (by omega) (by omega)
  .cases V1.mp m;exact d
theorem Oi{w:W}{ns:ZG}{k:Bool}{ps:ZZ}(hp:∀p∈ps,Gg ns k p){Q:ZZ->P->Prop}(q:∀s0,Q ((ps.map Z1).map .int) [s0]) :
  Z6 (fun x s K=>on (asg (.v 0) x s) fun s1=>if isNil .nil=true then wE w.nx (Zw (.v 0) (ki 0)) s1 fun r s2=>Mu r fun y=>K (some y) s2
   else wE w.nx .nil s1 fun r s2=>Fj r fun b=>if b=true then wE w.nx (Zw (.v 0) (ki 0)) s2 fun r s3=>Mu r fun y=>K (some y) s3 else K none s2) ps [] [.no] Q:=by
 refine Zi (fun t=>.int (Z1 t)) (fun p=>∃s0,p=[s0]) ⟨_,rfl⟩ (fun t mt p K hs hk=>?_) fun p hs=>?_
 .obtain⟨s0,rfl⟩:=hs;cases hp t mt with | mk hn hx ho hd =>
  refine Ud ?_;exact hk _ ⟨_,rfl⟩
 obtain⟨s1,rfl⟩:=hs;rw[show (ps.map fun t=>T.int (Z1 t))=(ps.map Z1).map .int by rw[List.map_map];rfl];exact q s1
def Wrd(t:T):Prop:=t=.non\/∃x,t=.str x
def PAlk(K:Kn):Prop:=∀{t:T},Wrd t->K [.f t,.f t] fun x=>x=(.f (.bl true),[])
theorem m3{w:W}:PAlk (wF Uo w):=fun {t} h=>by
 refine Zy rfl fun D rt _=>?_;rcases h with rfl | ⟨x,rfl⟩
 .exact rt _ _ rfl
 .refine rt _ _ ?_;show ((.f (.bl (decide (x=x))),[]):Sl×ZZ)=_;rw[Ma rfl]
theorem B3{zs:ZT}{r:Int}{Q:Sl->Prop}(h0:0<=r)(h1:r<(zs.length:Nat))(q:∀z,z∈zs->Q (.f (.int z))):on ((T5 (.lst (zs.map .int)) (.int r)).map Sl.f) Q:=ixP h0 (by rw[Zu];exact h1) fun x _ mx=>by
 obtain⟨z,mz,rfl⟩:=Gf.mp mx;exact q z mz
theorem Ul{ss:ZG}{r:Int}{Q:Sl->Prop}(h0:0<=r)(h1:r<(ss.length:Nat))(q:∀s,s∈ss->Q (.f (.str s))):on ((T5 (.lst (ss.map .str)) (.int r)).map Sl.f) Q:=ixP h0 (by rw[Zu];exact h1) fun x _ mx=>by
 obtain⟨z,mz,rfl⟩:=Gf.mp mx;exact q z mz
structure di(ns:ZG):Prop where
 l:ns.length<=9
 l0:0<ns.length
def tx(zs:ZT)(R:T->Prop)(x:Sl×ZZ):Prop:=∃t i k,R t/\x=(.f t,[Zf zs i k])
theorem Jp{C:Cs}{f:Str}{as:List Sl}{zs:ZT}{R:T->Prop}{Q:Sl×ZZ->Prop}(h:cN (C f as) (tx zs R)){X:Lc->Prop}(q:∀t i k,R t->Q (.f t,[Zf zs i k])):cC (C f as) Q X:=Zg h fun x ⟨t,i,k,ht,e⟩=>by rw[e];exact q t i k ht
structure qy(ns:ZG)(s:T):Prop where
 raw:Raw ns s
 ok:N6 s
 pl:T1 s=true
noncomputable def S8:ZG:=["whole","truth","text","row","map"]
def PPl(K:Kn):Prop:=∀{zs:ZT} {i k:Int} {s:Str} {ns ms:ZG},s∈S8->di ms->(∀x∈ms,x∈ns)->K [.o (Zf zs i k),.f (.str s),.f (.lst (ms.map .str))] (tx zs (qy ns))
theorem vr{w:W}(hd:Vf w.C):PPl (wF Ua w):=fun {zs i k s ns ms} hs hm hn=>by
 have l0:=hm.l0;have l1:=hm.l;refine Zy rfl fun D rt _=>?_;rcases Vv.mp hs with rfl | hs
 .refine Zl hd (by omega) (by omega) fun r i' k' h0 h1=>?_;refine B3 (zs:=[0,0, -1,5, -1000000000000000000,999999999999999999]) h0 h1 fun a ma=>?_;have ha:=(show ∀n∈([0,0, -1,5, -1000000000000000000,999999999999999999]:ZT), -1000000000000000000<=n/\n<=1000000000000000000 by decide) a ma;refine Zl hd (by omega) (by omega) fun r i' k' h0 h1=>?_;refine B3 (zs:=[0,1,9,1000000000000000000]) h0 h1 fun n mn=>?_;have hn:=(show ∀n∈([0,1,9,1000000000000000000]:ZT),0<=n by decide) n mn;refine rt _ _ ⟨_,_,_,⟨.whole, ?_,rfl⟩,rfl⟩;show N6 (.tup [.str "whole",.int a,.int (if a+n<1000000000000000000 then a+n else 1000000000000000000)]);refine .whole ha ?_ ?_
  .split<;>exact⟨by omega,by omega⟩
  .split<;>omega
 rcases Vv.mp hs with rfl | hs
 .exact rt _ _ ⟨_,_,_,⟨.truth,.truth,rfl⟩,rfl⟩
 rcases Vv.mp hs with rfl | hs
 .refine Zl hd (by omega) (by omega) fun r i' k' h0 h1=>?_;refine B3 (zs:=[0,1,2,200]) h0 h1 fun n mn=>?_;have:=(show ∀n∈([0,1,2,200]:ZT),0<=n/\n<=200 by decide) n mn;exact rt _ _ ⟨_,_,_,⟨.text,.text this.1 this.2,rfl⟩,rfl⟩
 rcases Vv.mp hs with rfl | hs
 .refine Zl hd (by rw[Zu];omega) (by rw[Zu];omega) fun r i' k' h0 h1=>?_;rw[Zu]at h1;refine Ul h0 h1 fun o mo=>?_;refine Zl hd (by omega) (by omega) fun r i' k' h0 h1=>?_;refine B3 (zs:=[0,1,2,20]) h0 h1 fun n mn=>?_;have:=(show ∀n∈([0,1,2,20]:ZT),0<=n/\n<=20 by decide) n mn;exact rt _ _ ⟨_,_,_,⟨.row (hn o mo),.row this.1 this.2,rfl⟩,rfl⟩
 rcases Vv.mp hs with rfl | hs
 .refine Zl hd (by rw[Zu];omega) (by rw[Zu];omega) fun r i' k' h0 h1=>?_;rw[Zu]at h1;refine Ul h0 h1 fun o mo=>?_;refine Zl hd (by omega) (by omega) fun r i' k' h0 h1=>?_;refine B3 (zs:=[0,1,2,20]) h0 h1 fun n mn=>?_;have:=(show ∀n∈([0,1,2,20]:ZT),0<=n/\n<=20 by decide) n mn;exact rt _ _ ⟨_,_,_,⟨.map (hn o mo),.map this.1 this.2,rfl⟩,rfl⟩
 nomatch hs
def PDf(K:Kn):Prop:=∀{zs:ZT} {i k:Int} {s:T} {ns:ZG},qy ns s->K [.o (Zf zs i k),.f s] (tx zs fun v=>Dx v/\Be s v)
theorem rep_a{r:Int}(h0:0<=r)(h1:r<3):Sm (repS "a" r.toNat)/\((repS "a" r.toNat).length:Int)=r:=by
 have:∀n<3,((repS "a" n).length<=8/\(∀c∈(repS "a" n).cps.toList,c<16 ^ 8))/\(repS "a" n).length=n:=by decide
 have:=this r.toNat (by omega);exact⟨⟨this.1.1,this.1.2⟩,by rw[this.2];omega⟩
theorem Hm{w:W}(hd:Vf w.C):PDf (wF Vc w):=fun {zs i k s ns} hs=>by
 refine Zy rfl fun D rt _=>?_;have raw:=hs.raw;cases hs.ok with
 | @whole a b ha hb le =>
  have key:∃m:Int,(if b - a+1<3 then b - a+1 else 3)=m/\0<m/\m<=3/\m<=b - a+1:=⟨_,rfl,by split<;>omega,by split<;>omega,by split<;>omega⟩;obtain⟨m,em,m0,m1,m2⟩:=key;refine Zl (m:=if b - a+1<3 then b - a+1 else 3) hd (by rw[em];exact m0) (by rw[em];omega) fun r i' k' h0 h1=>?_;rw[em]at h1;have:=ha.1;have:=hb.2;exact rt _ _ ⟨_,_,_,⟨.int ⟨by omega,by omega⟩,.whole (by omega) (by omega)⟩,rfl⟩
 | truth =>
  refine Zl hd (by omega) (by omega) fun r i' k' h0 h1=>?_;exact rt _ _ ⟨_,_,_,⟨.bl,.truth⟩,rfl⟩
 | @text n a b =>
  have key:∃m:Int,(if n+1<3 then n+1 else 3)=m/\0<m/\m<=3/\m<=n+1:=⟨_,rfl,by split<;>omega,by split<;>omega,by split<;>omega⟩;obtain⟨m,em,m0,m1,m2⟩:=key;refine Zl (m:=if n+1<3 then n+1 else 3) hd (by rw[em];exact m0) (by rw[em];omega) fun r i' k' h0 h1=>?_;rw[em]at h1;obtain⟨z1,z2⟩:=rep_a h0 (by omega);refine P6 (a:=Sl.f (.str (repS "a" r.toNat))) ⟨h0,by omega,by decide⟩ ?_;exact rt _ _ ⟨_,_,_,⟨.str z1,.text (by omega)⟩,rfl⟩
 | row _ _=>exact rt _ _ ⟨_,_,_,⟨.nil,.row⟩,rfl⟩
 | map _ _=>exact rt _ _ ⟨_,_,_,⟨.nil,.map⟩,rfl⟩
 | record _=>nomatch hs.pl
 | choice _=>nomatch hs.pl
def DF1(pk:ZX)(p:T):Prop:=∀n x o v,p=.tup [.int n,.str x,.str o,.tup [v]]->∃s,Zv pk (.inr o)=some s/\Be s v
structure Xf(ns:ZG)(pk:ZX):Prop where
 k:∃ks:ZG,pk.map (·.1)=ks.map Sum.inr/\∀x∈ks,x∈ns
 l0:0<pk.length
 l:pk.length<=7
 p:∀q∈pk,qy ns q.2
structure PrtN(ns:ZG)(b:Bool)(pk:ZX)(n:Int)(p:T):Prop where
 prt:Gg ns b p
 hd:Z1 p=n
 df:DF1 pk p
theorem Il{n:Int}:∀{zs:ZT},n∈zs->∃j,Ou n zs=some j/\j<zs.length
 | z::zs,m=>by
  unfold Ou;by_cases e:z=n
  .exact⟨0,if_pos e,Nat.zero_lt_succ _⟩
  .obtain⟨j,ej,lj⟩:=Il (zs:=zs) ((Vv.mp m).resolve_left fun h=>e h.symm);exact⟨j+1,by rw[if_neg e,ej];rfl,Nat.succ_lt_succ lj⟩
theorem idxP{n:Int}{zs:ZT}{Q:Sl->Prop}(m:n∈zs)(q:∀j:Nat,j<zs.length->Q (.f (.int (j:Nat)))):on (W5 .idx [.lst (zs.map .int),.int n]) Q:=by
 obtain⟨j,e,l⟩:=Il m;exact Zm (a:=Sl.f (.int (j:Nat))) (by show (G6 (zs.map .int)).bind _=_;rw[PV.ints_map];show (Ou n zs).map _=_;rw[e];rfl) (q j l)
theorem keys_str{pk:ZX}{ks:ZG}(h:pk.map (·.1)=ks.map Sum.inr):(pk.map fun p=>Jd p.1)=ks.map .str:=by
 rw[show (pk.map fun p=>Jd p.1)=(pk.map (·.1)).map Jd by rw[List.map_map];rfl,h,List.map_map];rfl
theorem Me{pk:ZX}{ks:ZG}{Q:Sl->Prop}(h:pk.map (·.1)=ks.map Sum.inr)(l:ks.length<64)(q:Q (.o (.lst ((SRT.Z7 ks).map .str)))):on (W5 .sorted [.dct pk]) Q:=Zm (a:=Sl.o (.lst ((SRT.Z7 ks).map .str))) (by show (Cr _).map _=_;rw[keys_str h,srt_strs ks l];rfl) q
def Kd2(s:Str)(b:Bool):Prop:=(s = "record" /\ b=true)\/(s = "choice" /\ b=false)
noncomputable def CLD:ZG:=["a","ab","abc","form","x","xx","must","none","rowa"]
theorem Hn:∀x∈CLD,Sm x:=fun x m=>by
 have h:∀x∈CLD,x.length<=8/\∀c∈x.cps.toList,c<16 ^ 8:=by decide
 exact⟨(h x m).1,(h x m).2⟩
def N4(K:Kn):Prop:=∀{zs:ZT} {i k n:Int} {s:Str} {b:Bool} {ns ms:ZG} {pk:ZX},Kd2 s b->n∈Wa->Xf ns pk->di ms->(∀x∈ms,x∈ns)->K [.o (Zf zs i k),.f (.str s),.f (.int n),.f (.dct pk),.f (.lst (ms.map .str))] (tx zs (PrtN ns b pk n))
theorem r0{w:W}(hd:Vf w.C)(hD:PDf (cl w.C "_law_default")):N4 (wF Ja w):=fun {zs i k n s b ns ms pk} hs hn hp hm hx=>by
 refine Zy rfl fun D rt _=>?_;have l0:=hm.l0;have l1:=hm.l;have p0:=hp.l0;have p1:=hp.l;refine idxP (zs:=Wa) hn fun j lj=>?_;refine Ul (ss:=CLD) (by omega) (show ((j:Nat):Int)<_ from Int.ofNat_lt.mpr lj) fun c mc=>?_;refine Zl hd (by rw[Zu];omega) (by rw[Zu];omega) fun r i' k' h0 h1=>?_;rw[Zu]at h1;refine Ul h0 h1 fun o mo=>?_;rcases hs with ⟨rfl,rfl⟩ | ⟨rfl,rfl⟩
 .have fin:∀o∈ns,∀i2 k2,wS w (Yk [.o (Zf zs i k),.f (.str "record"),.f (.int n),.f (.dct pk),.f (.lst (ms.map .str))]) (Zs 5 Rh) [.o (Zf zs i2 k2),.f (.str "record"),.f (.int n),.f (.dct pk),.f (.lst (ms.map .str)),.f (.str c),.f (.str o)] D:=fun o mo i2 k2=>by
   have no:∀i k,D.rt (.f (.tup [.int n,.str c,.str o,.tup []])) [.o (Zf zs i k),.f (.str "record"),.f (.int n),.f (.dct pk),.f (.lst (ms.map .str)),.f (.str c),.f (.str o)]:=fun i k =>
    rt _ _ ⟨_,_,_,⟨.mk hn (Hn c mc) mo (.fld .no),rfl,fun n x o v e=>by cases e⟩,rfl⟩
   refine Zz (b:=(Zv pk (.inr o)).isSome) (fun z=>?_) fun _=>no _ _;obtain⟨s,e⟩:=Option.isSome_iff_exists.mp z;refine Zl hd (by omega) (by omega) fun r i' k' h0 h1=>?_;refine Zz (b:=decide ((0:Int)<r)) (fun _=>?_) fun _=>no _ _;refine Ka e ?_;refine Jp (hD (hp.p _ (Z5 e))) fun v i k hv=>?_;exact rt _ _ ⟨_,_,_,⟨.mk hn (Hn c mc) mo (.fld (.is hv.1)),rfl,fun n x o v e'=>by cases e';exact⟨s,e,hv.2⟩⟩,rfl⟩
  refine Zz (b:=decide ((1:Int)<n)) (fun _=>?_) fun _=>fin o (hx o mo) _ _;obtain⟨ks,ek,hk⟩:=hp.k;have lk:pk.length=ks.length:=by have:=congrArg List.length ek;rw[Zu,Zu]at this;exact this
  refine Me ek (by omega) ?_;refine Zl hd (by omega) (by omega) fun r i' k' h0 h1=>?_;refine Ul h0 (by rw[(SRT.Z4 ks).length_eq];omega) fun o mo=>?_;exact fin o (hk o ((SRT.Z4 ks).mem_iff.mp mo)) _ _
 .exact rt _ _ ⟨_,_,_,⟨.mk hn (Hn c mc) (hx o mo) .arm,rfl,fun n x o v e=>by cases e⟩,rfl⟩
section
variable{j:Type}{f:j->T}{xs:List j}
theorem Qd(lo hi:ZC):∃ys:List j,Yp (xs.map f) lo hi=ys.map f/\(∀y∈ys,y∈xs)/\ys.length<=xs.length/\ys.Sublist xs:=by
 refine⟨(xs.drop (HT.Y7 (xs.map f).length 0 lo)).take (HT.Y7 (xs.map f).length (xs.map f).length hi - HT.Y7 (xs.map f).length 0 lo), ?_,fun y m=>List.mem_of_mem_drop (List.mem_of_mem_take m), ?_,(List.take_sublist _ _).trans (List.drop_sublist _ _)⟩
 .unfold Yp;rw[List.map_take,List.map_drop]
 .rw[dz,List.length_drop];omega
theorem cut_fr{a:Int}(h0:0<=a)(h1:a<=(xs.length:Nat)):Yp (xs.map f) (some a) none=(xs.drop a.toNat).map f:=by rw[Nn h0 (by rw[Zu];exact h1),List.map_drop]
theorem Ht{a:Int}(h0:0<=a)(h1:a<=(xs.length:Nat)):Yp (xs.map f) none (some a)=(xs.take a.toNat).map f:=by rw[cut_to h0 (by rw[Zu];exact h1),List.map_take]
theorem rotP{a:Int}{Q:Sl->Prop}(h0:0<=a)(h1:a<=(xs.length:Nat))(l:xs.length<=100)(q:∀ys:List j,ys.Perm xs->Q (.o (.lst (ys.map f)))):on (dn .add (.lst (Yp (xs.map f) (some a) none)) (.lst (Yp (xs.map f) none (some a)))) Q:=by
 rw[cut_fr h0 h1,Ht h0 h1];have:=sizeLine_eq;refine Ld (by rw[Zu,Zu,List.length_drop,dz];omega) ?_;rw[<-Q9];exact q _ (List.perm_append_comm.trans (by rw[List.take_append_drop]))
end
noncomputable def N8:ZT:=[1,2,3,9,10,99,100,999]
theorem eg:∀z∈N8,z∈Wa:=by decide
structure PdS(ns:ZG)(pk:ZX)(s:T):Prop where
 raw:Raw ns s
 ok:N6 s
 df:∀ps zs,s=Gs ps zs->DF pk ps
def PPd(K:Kn):Prop:=∀{zs:ZT} {i k:Int} {s:Str} {b:Bool} {ns ms:ZG} {pk:ZX},Kd2 s b->Xf ns pk->di ms->(∀x∈ms,x∈ns)->K [.o (Zf zs i k),.f (.str s),.f (.dct pk),.f (.lst (ms.map .str))] (tx zs (PdS ns pk))
theorem zj{w:W}(hd:Vf w.C)(hP:N4 (cl w.C "_law_part")):PPd (wF V7 w):=fun {zs i k s b ns ms pk} hs hp hm hx=>by
 refine Zy rfl fun D rt _=>?_
 have key2:∀us:ZT,(∀z∈us,z∈N8)->us.Nodup->us.length<=8->∀s5 m i2 k2,wS w (Yk [.o (Zf zs i k),.f (.str s),.f (.dct pk),.f (.lst (ms.map .str))]) (Zs 4 Gw) [.o (Zf zs i2 k2),.f (.str s),.f (.dct pk),.f (.lst (ms.map .str)),.o (.lst (us.map .int)),s5,.f (.int m),.no,.no] D:=fun us hu nd lu s5 m i2 k2=>by
  obtain⟨as,ea,ha,la,sa⟩:=Qd (f:=T.int) (xs:=us) none (some m);obtain⟨bs,eb,hb,lb,_⟩:=Qd (f:=T.int) (xs:=us) (some m) none;refine Ai (us:=(SRT.Mw as).map .int) (by rw[ea];exact srt_ints as (by omega)) ?_;refine Bx (fun rest acc p=>∃(s0:Sl) (i k:Int) (zr:ZT),p=[s0,.o (Zf zs i k),.f (.str s),.f (.dct pk),.f (.lst (ms.map .str))]/\rest=zr.map T.int/\acc.map Z1++zr=SRT.Mw as/\∀p∈acc,∃n,PrtN ns b pk n p) ⟨_,_,_,SRT.Mw as,rfl,rfl,rfl,fun p m=>nomatch m⟩ (fun x r acc p K hi hk _=>?_) fun acc p hi=>?_
  .obtain⟨s0,i,k,zr,rfl,er,hl,hc⟩:=hi;cases zr with
   | nil=>cases er
   | cons z zr =>
   cases er;have mz:z∈us:=ha z ((SRT.Yf as).mem_iff.mp (by rw[<-hl];exact de _ Yn));refine Jp (hP hs (eg z (hu z mz)) hp hm hx) fun t i k ht=>?_;refine hk _ _ ⟨_,_,_,zr,rfl,rfl,by rw[<-hl,Q9,List.map_singleton,ht.hd,ZI];rfl,fun p m=>?_⟩;rcases Cj.mp m with m | m
   .exact hc p m
   .cases V1.mp m;exact⟨z,ht⟩
  obtain⟨s0,i,k,zr,rfl,er,hl,hc⟩:=hi;cases zr with
  | cons z zr=>cases er
  | nil =>
  rw[ZE]at hl;have pm:=SRT.Yf as;have la':acc.length<=8:=by have:=congrArg List.length hl;rw[Zu,pm.length_eq]at this;omega
  have sp:(acc.map Z1).Nodup:=by rw[hl];exact pm.nodup_iff.mpr (nd.sublist sa)
  refine Ai (us:=(SRT.Mw bs).map .int) (by rw[eb];exact srt_ints bs (by omega)) ?_;have pp:Mr ns b acc:=⟨by omega,fun p m=>let ⟨_,h⟩:=hc p m;h.prt⟩;have lz:(SRT.Mw bs).length<=8:=by rw[(SRT.Yf bs).length_eq];omega
  have mm:Mem acc (SRT.Mw bs):=⟨by omega,sp,lz,fun z m=>P8 (eg z (hu z (hb z ((SRT.Yf bs).mem_iff.mp m))))⟩;have df:DF pk acc:=fun n x o v m=>let ⟨_,h⟩:=hc _ m;h.df n x o v rfl;rcases hs with ⟨rfl,rfl⟩ | ⟨rfl,rfl⟩
  .refine rt _ _ ⟨_,_,_,⟨.record pp (by omega),.record mm,fun ps zs e=>?_⟩,rfl⟩
   injection e with e;injection e with _ e;injection e with e _;injection e with e;subst e;exact df
  .refine Zl hd (by omega) (by omega) fun r i' k' h0 h1=>?_;exact rt _ _ ⟨_,_,_,⟨.choice pp (by omega),.choice mm,fun ps zs e=>by cases e⟩,rfl⟩
 have key:∀us:ZT,(∀z∈us,z∈N8)->us.Nodup->us.length<=8->∀s5 i2 k2,wS w (Yk [.o (Zf zs i k),.f (.str s),.f (.dct pk),.f (.lst (ms.map .str))]) (Zs 3 Gw) [.o (Zf zs i2 k2),.f (.str s),.f (.dct pk),.f (.lst (ms.map .str)),.o (.lst (us.map .int)),s5,.no,.no,.no] D:=fun us hu nd lu s5 i2 k2=>by
  refine Zl hd (by omega) (by omega) fun r i' k' h0 h1=>?_;refine B3 (zs:=[0,0,1,2]) h0 h1 fun n mn=>?_;exact key2 us hu nd lu _ _ _ _
 refine Zl hd (by omega) (by omega) fun r i' k' h0 h1=>?_;refine rotP (xs:=N8) (f:=T.int) h0 (Int.le_of_lt h1) (by decide) fun ys py=>?_;have ly:ys.length=8:=py.length_eq;refine Zl hd (by omega) (by omega) fun r2 i2 k2 g0 g1=>?_;have:=key (ys.take r2.toNat) (fun z m=>py.mem_iff.mp (List.mem_of_mem_take m)) ((py.nodup_iff.mpr (by decide)).sublist (List.take_sublist _ _)) (by rw[dz];omega) (.f (.int r)) i2 k2;rw[<-Ht g0 (by omega)]at this;exact this
theorem Jx(XY:ZX)(k k':Key)(v:T):Zv (Zo XY k v) k'=if k=k' then some v else Zv XY k':=by
 unfold Zo
 split
 .rename_i h
  induction XY with
  | nil=>simp at h
  | cons p r ih =>
   rw[List.any_cons,Bool.or_eq_true]at h;unfold Zv at ih ⊢;rw[S9,List.find?_cons];by_cases e:p.1=k
   .rw[if_pos e];by_cases e':k=k'
    .rw[Ma (show (p.1,v).1=k' from e.trans e'),if_pos e'];rfl
    .rw[Cw (show ¬ (p.1,v).1=k' from fun z=>e' (e.symm.trans z)),if_neg e',List.find?_cons,Cw (show ¬ p.1=k' from fun z=>e' (e.symm.trans z))];by_cases hr:(r.any fun p=>decide (p.1=k))=true
     .have:=ih hr;rw[if_neg e']at this;exact this
     .have em:(r.map fun p=>if p.1=k then (p.1,v) else p)=r:=by
       conv=>rhs;rw[<-List.map_id r]
       refine List.map_congr_left fun q mq=>?_;rw[if_neg]
       .rfl
       .intro z;exact hr (ZO.mpr ⟨q,mq,Ma z⟩)
      rw[em]
   .rw[if_neg e];by_cases e':p.1=k'
    .rw[Ma e',List.find?_cons,Ma e',if_neg (fun z=>e (e'.trans z.symm))]
    .rw[Cw e',List.find?_cons,Cw e'];exact ih (h.resolve_left (by simp[e]))
 .rename_i h
  unfold Zv;rw[List.find?_append];by_cases e':k=k'
  .subst e';rw[if_pos rfl];have:XY.find? (fun p=>decide (p.1=k))=none:=XJ.mpr fun p mp z=>h (ZO.mpr ⟨p,mp,z⟩);rw[this];simp
  .rw[if_neg e'];have:[(k,v)].find? (fun p=>decide (p.1=k'))=none:=by simp[e']
   rw[this];simp
theorem M3{XY:ZX}{k:Key}{v:T}{q:Key×T}(m:q∈Zo XY k v):q∈XY\/q=(k,v):=by
 unfold Zo at m
 split at m
 .obtain⟨p,mp,e⟩:=Gf.mp m
  split at e
  .rename_i h;exact .inr (by rw[<-e,h])
  .exact .inl (e ▸ mp)
 .rcases Cj.mp m with m | m
  .exact .inl m
  .exact .inr (V1.mp m)
theorem Gp{XY:ZX}{ks:ZG}{x:Str}{v:T}(h:XY.map (·.1)=ks.map Sum.inr):(x∈ks/\(Zo XY (.inr x) v).map (·.1)=ks.map Sum.inr)\/(x ∉ ks/\(Zo XY (.inr x) v).map (·.1)=(ks++[x]).map Sum.inr):=by
 have e:(XY.any fun p=>decide (p.1=(.inr x:Key)))=true↔x∈ks:=by
  rw[ZO];constructor
  .rintro⟨p,mp,ep⟩;have:p.1∈XY.map (·.1):=List.mem_map_of_mem mp;rw[R6 ep,h]at this;obtain⟨y,my,ey⟩:=Gf.mp this;cases ey;exact my
  .intro m;have:(Sum.inr x:Key)∈XY.map (·.1):=by rw[h];exact List.mem_map_of_mem m
   obtain⟨p,mp,ep⟩:=Gf.mp this;exact⟨p,mp,Ma ep⟩
 unfold Zo;by_cases c:(XY.any fun p=>decide (p.1=(.inr x:Key)))=true
 .refine .inl ⟨e.mp c, ?_⟩;rw[if_pos c,List.map_map, <-h];refine List.map_congr_left fun q _=>?_;show (if q.1=(.inr x:Key) then (q.1,v) else q).1=q.1
  split<;>rfl
 .refine .inr ⟨fun m=>c (e.mpr m), ?_⟩;rw[if_neg c,Q9,Q9,h];rfl
theorem get_none{XY:ZX}{ks:ZG}{x:Str}(h:XY.map (·.1)=ks.map Sum.inr)(n:x ∉ ks):Zv XY (.inr x)=none:=by
 cases e:Zv XY (.inr x) with
 | none=>rfl
 | some s =>
  have:(Sum.inr x:Key)∈XY.map (·.1):=List.mem_map_of_mem (Z5 e);rw[h]at this;obtain⟨y,my,ey⟩:=Gf.mp this;cases ey;exact absurd my n
theorem Ys{XY:ZX}{ks:ZG}(h:XY.map (·.1)=ks.map Sum.inr):XY.length=ks.length:=by have:=congrArg List.length h;rw[Zu,Zu]at this;exact this
theorem E4{XY:ZX}{x:Str}{v:T}{Q:T->Prop}(l:XY.length<=100)(q:Q (.dct (Zo XY (.inr x) v))):on (putAt (.dct XY) (.str x) v) Q:=by
 have:=sizeLine_eq;exact Zm (a:=T.dct (Zo XY (.inr x) v)) (if_pos (by omega)) q
def PPs(K:Kn):Prop:=∀{ns:ZG} {root:Str} {XY:ZX},Mk ns root XY->K [.f (.dct XY)] fun x=>∃pk,x=(.o (.dct pk),[])/\Xf ns pk/\(∀x s,Zv pk (.inr x)=some s->Zv XY (.inr x)=some s)/\∀x s,Zv XY (.inr x)=some s->(Zv pk (.inr x)).isSome=T1 s
theorem zq{w:W}:PPs (wF V6 w):=fun {ns root XY} h=>by
 refine Zy rfl fun D rt _=>?_;have lk:=Ys h.raw.k;have l6:=h.l
 refine Cy (fun rest p=>∃(s2:Sl) (pk:ZX) (ks rs:ZG),p=[.f (.dct XY),.o (.dct pk),s2]/\rest=rs.map T.str/\(∀x∈rs,x∈ns)/\pk.map (·.1)=ks.map Sum.inr/\(∀x∈ks,x∈ns)/\ks.length+rs.length<=7/\(∀q∈pk,qy ns q.2)/\(∀x s,Zv pk (.inr x)=some s->Zv XY (.inr x)=some s/\T1 s=true)/\∀x s,Zv XY (.inr x)=some s->T1 s=true->x∈rs\/Zv pk (.inr x)=some s)
  ⟨_,[],[],ns,rfl,keys_str h.raw.k,fun x m=>m,rfl,(fun x m=>nomatch m),by rw[List.length_nil];omega,(fun q m=>nomatch m),(fun x s e=>nomatch e),fun x s e _=>.inl ?_⟩ (fun x rest p D' hi nx _=>?_) fun p hi=>?_
 .have:(Sum.inr x:Key)∈XY.map (·.1):=List.mem_map_of_mem (Z5 e);rw[h.raw.k]at this;obtain⟨y,my,ey⟩:=Gf.mp this;cases ey;exact my
 .obtain⟨s2,pk,ks,rs,rfl,er,hr,hk,hn,hl,hp,hg,hc⟩:=hi;cases rs with
  | nil=>cases er
  | cons y rs =>
   cases er;rw[Jk]at hl;obtain⟨s,e,raw⟩:=h.raw.get (hr y Yn);have ok:=h.ok _ (Z5 e);refine Ka e ?_
   have no:T1 s=false->D'.nx [.f (.dct XY),.o (.dct pk),.f (.str y)]:=fun z=>nx _ ⟨_,pk,ks,rs,rfl,rfl,fun x m=>hr x (Vk _ m),hk,hn,by omega,hp,hg,fun x t ex zx=>by
    rcases hc x t ex zx with m | m
    .rcases Vv.mp m with rfl | m
     .rw[e]at ex;cases ex;rw[z]at zx;cases zx
     .exact .inl m
    .exact .inr m⟩
   have yes:T1 s=true->on (putAt (.dct pk) (.str y) s) fun x'=>D'.nx [.f (.dct XY),.o x',.f (.str y)]:=fun z=>by
    refine E4 (by rw[Ys hk];omega) ?_;have pt:=Gp (x:=y) (v:=s) hk
    have rst:∀U5:ZG,(Zo pk (.inr y) s).map (·.1)=U5.map Sum.inr->(∀x∈U5,x∈ns)->U5.length<=ks.length+1->D'.nx [.f (.dct XY),.o (.dct (Zo pk (.inr y) s)),.f (.str y)]:=fun U5 Ew hn' hl'=>by
     refine nx _ ⟨_,Zo pk (.inr y) s,U5,rs,rfl,rfl,fun x m=>hr x (Vk _ m),Ew,hn',by omega,fun q m=>?_,fun x t ex=>?_,fun x t ex zx=>?_⟩
     .rcases M3 m with m | rfl
      .exact hp q m
      .exact⟨raw,ok,z⟩
     .rw[Jx]at ex
      split at ex
      .rename_i c;cases c;cases ex;exact⟨e,z⟩
      .exact hg x t ex
     .rw[Jx]
      split
      .rename_i c;cases c;rw[e]at ex;exact .inr ex
      .rename_i c
       rcases hc x t ex zx with m | m
       .rcases Vv.mp m with rfl | m
        .exact absurd rfl c
        .exact .inl m
       .exact .inr m
    rcases pt with ⟨_,e1⟩ | ⟨_,e1⟩
    .exact rst ks e1 hn (by omega)
    .refine rst _ e1 (fun x m=>?_) (by rw[Gn];exact Gc _);rcases Cj.mp m with m | m
     .exact hn x m
     .cases V1.mp m;exact hr y Yn
   cases raw with
   | record _ _=>exact no rfl
   | choice _ _=>exact no rfl
   | _=>refine Ka e ?_;exact yes rfl
 .obtain⟨s2,pk,ks,rs,rfl,er,hr,hk,hn,hl,hp,hg,hc⟩:=hi;cases rs with
  | cons y rs=>cases er
  | nil =>
   obtain⟨y,my,t,et,zt⟩:=h.pl;have got:=(hc y t et zt).resolve_left fun m=>nomatch m;have p0:0<pk.length:=List.length_pos_of_mem (Z5 got);refine rt _ _ ⟨pk,rfl,⟨⟨ks,hk,hn⟩,p0,by rw[Ys hk];omega,hp⟩,fun x s e=>(hg x s e).1,fun x s e=>?_⟩;cases z:T1 s with
   | true=>rw[(hc x s e z).resolve_left fun m=>nomatch m];rfl
   | false =>
    cases e':Zv pk (.inr x) with
    | none=>rfl
    | some u=>have:=hg x u e';rw[e]at this;cases this.1;rw[z]at this;cases this.2
theorem Gg.mono{ns ns':ZG}{b:Bool}{t:T}(s:∀x∈ns,x∈ns')(h:Gg ns b t):Gg ns' b t:=by cases h with | mk a b c d=>exact .mk a b (s _ c) d
theorem Mr.mono{ns ns':ZG}{b:Bool}{t:ZZ}(s:∀x∈ns,x∈ns')(h:Mr ns b t):Mr ns' b t:=⟨h.l,fun p m=>(h.p p m).mono s⟩
theorem Raw.mono{ns ns':ZG}{t:T}(s:∀x∈ns,x∈ns')(h:Raw ns t):Raw ns' t:=by
 cases h with
 | whole=>exact .whole
 | truth=>exact .truth
 | text=>exact .text
 | row h=>exact .row (s _ h)
 | map h=>exact .map (s _ h)
 | record h z=>exact .record (h.mono s) z
 | choice h z=>exact .choice (h.mono s) z
theorem rl{ns:ZG}{t:T}(h:Raw ns t):Wl t=false:=by cases h<;>rfl
theorem qy.pd{ns:ZG}{pk:ZX}{s:T}(h:qy ns s):PdS ns pk s:=⟨h.raw,h.ok,fun ps zs e=>by have:=h.pl;rw[e]at this;cases this⟩
noncomputable def WRD:ZG:=["a","ab","b","make","form","row","rows","text","must","none","abcdefgh","x","xx","arm"]
theorem wrd_sm:∀x∈WRD,Sm x:=fun x m=>by
 have h:∀x∈WRD,x.length<=8/\∀c∈x.cps.toList,c<16 ^ 8:=by decide
 exact⟨(h x m).1,(h x m).2⟩
noncomputable def SOR:ZG:=["record","choice","whole","record","choice","truth","text","row","map"]
theorem sor_or:∀s∈SOR,s = "record" \/ s = "choice" \/ s∈S8:=by decide
structure M1(ms rs ks:ZG)(lf:List (Str×Str))(XY:ZX):Prop where
 sub:∀x∈rs,x∈ms
 nd:rs.Nodup
 dk:∀x∈rs,x ∉ ks
 dl:∀x∈rs,x ∉ lf.map (·.1)
 k:XY.map (·.1)=ks.map Sum.inr
 kn:∀x∈ks,x∈ms
 lk:∀q∈lf,q.1∈ms/\q.1 ∉ ks/\(q.2 = "record" \/ q.2 = "choice")
 p:∀q∈XY,qy ms q.2
 n:ks.length+lf.length+rs.length<=6
 c:∀x∈ms,x∈rs\/x∈ks\/x∈lf.map (·.1)
 k0:0<ks.length
structure M2(ms:ZG)(pk:ZX)(lf:List (Str×Str))(ks:ZG)(XY:ZX):Prop where
 k:XY.map (·.1)=ks.map Sum.inr
 kn:∀x∈ks,x∈ms
 lk:∀q∈lf,q.1∈ms/\Zv pk (.inr q.1)=none/\(q.2 = "record" \/ q.2 = "choice")
 p:∀q∈XY,PdS ms pk q.2
 n:ks.length+lf.length<=6
 c:∀x∈ms,x∈ks\/x∈lf.map (·.1)
 g:∀x s,Zv pk (.inr x)=some s->Zv XY (.inr x)=some s
theorem M1.left{ms rs ks:ZG}{x s:Str}{lf:List (Str×Str)}{XY:ZX}(h:M1 ms (x::rs) ks lf XY)(hs:s = "record" \/ s = "choice"):M1 ms rs ks (lf++[(x,s)]) XY:=by
 have nd:=List.nodup_cons.mp h.nd;refine⟨fun y m=>h.sub y (Vk _ m),nd.2,fun y m=>h.dk y (Vk _ m),fun y m z=>?_,h.k,h.kn,fun q m=>?_,h.p,by have:=h.n;rw[Gn];rw[Jk]at this;show _+(_+1)+_<=_;omega,fun y m=>?_,h.k0⟩
 .rw[Q9]at z;rcases Cj.mp z with z | z
  .exact h.dl y (Vk _ m) z
  .cases V1.mp z;exact nd.1 m
 .rcases Cj.mp m with m | m
  .exact h.lk q m
  .cases V1.mp m;exact⟨h.sub x Yn,h.dk x Yn,hs⟩
 .rw[Q9];rcases h.c y m with m | m | m
  .rcases Vv.mp m with rfl | m
   .exact .inr (.inr (de _ (V1.mpr rfl)))
   .exact .inl m
  .exact .inr (.inl m)
  .exact .inr (.inr (List.mem_append_left _ m))
theorem M1.put{ms rs ks:ZG}{x:Str}{s:T}{lf:List (Str×Str)}{XY:ZX}(h:M1 ms (x::rs) ks lf XY)(hs:qy ms s):M1 ms rs (ks++[x]) lf (Zo XY (.inr x) s):=by
 have nd:=List.nodup_cons.mp h.nd;have e:=((Gp (x:=x) (v:=s) h.k).resolve_left fun z=>h.dk x Yn z.1).2;refine⟨fun y m=>h.sub y (Vk _ m),nd.2,fun y m z=>?_,fun y m=>h.dl y (Vk _ m),e,fun y m=>?_,fun q m=>⟨(h.lk q m).1,fun z=>?_,(h.lk q m).2.2⟩,fun q m=>?_,by have:=h.n;rw[Gn];rw[Jk]at this;show _+1+_+_<=_;omega,fun y m=>?_,by rw[Gn];exact N0l h.k0 (Nat.le_add_right _ _)⟩
 .rcases Cj.mp z with z | z
  .exact h.dk y (Vk _ m) z
  .cases V1.mp z;exact nd.1 m
 .rcases Cj.mp m with m | m
  .exact h.kn y m
  .cases V1.mp m;exact h.sub x Yn
 .rcases Cj.mp z with z | z
  .exact(h.lk q m).2.1 z
  .exact h.dl x Yn (by rw[<-V1.mp z];exact List.mem_map_of_mem m)
 .rcases M3 m with m | rfl
  .exact h.p q m
  .exact hs
 .rcases h.c y m with m | m | m
  .rcases Vv.mp m with rfl | m
   .exact .inr (.inl (de _ (V1.mpr rfl)))
   .exact .inl m
  .exact .inr (.inl (List.mem_append_left _ m))
  .exact .inr (.inr m)
theorem M1.fin{ms ks:ZG}{lf:List (Str×Str)}{XY:ZX}(h:M1 ms [] ks lf XY):Xf ms XY/\M2 ms XY lf ks XY:=by
 have l:=Ys h.k;have k0:=h.k0;have n:=h.n;refine⟨⟨⟨ks,h.k,h.kn⟩,by omega,by omega,h.p⟩,⟨h.k,h.kn,fun q m=>⟨(h.lk q m).1,get_none h.k (h.lk q m).2.1,(h.lk q m).2.2⟩,fun q m=>(h.p q m).pd,by rw[List.length_nil]at n;omega,fun x m=>(h.c x m).resolve_left (fun z=>nomatch z),fun x s e=>e⟩⟩
theorem M2.put{ms ks:ZG}{pk:ZX}{q:Str×Str}{s:T}{lf:List (Str×Str)}{XY:ZX}(h:M2 ms pk (q::lf) ks XY)(hs:PdS ms pk s):∃U5,M2 ms pk lf U5 (Zo XY (.inr q.1) s):=by
 have n:=h.n;rw[Jk]at n;have hq:=h.lk q Yn
 have rst:∀U5:ZG,(Zo XY (.inr q.1) s).map (·.1)=U5.map Sum.inr->(∀x∈U5,x∈ms)->U5.length<=ks.length+1->(∀x,x∈ks\/x=q.1->x∈U5)->M2 ms pk lf U5 (Zo XY (.inr q.1) s):=fun U5 e1 e2 e3 e4=>by
  refine⟨e1,e2,fun r m=>h.lk r (Vk _ m),fun r m=>?_,by omega,fun x m=>?_,fun x t e=>?_⟩
  .rcases M3 m with m | rfl
   .exact h.p r m
   .exact hs
  .rcases h.c x m with m | m
   .exact .inl (e4 x (.inl m))
   .rcases Vv.mp m with m | m
    .exact .inl (e4 x (.inr m))
    .exact .inr m
  .rw[Jx,if_neg fun z=>by cases z;rw[hq.2.1]at e;cases e];exact h.g x t e
 rcases Gp (x:=q.1) (v:=s) h.k with ⟨m,e⟩ | ⟨_,e⟩
 .exact⟨ks,rst ks e h.kn (by omega) fun x z=>z.elim id fun z=>z ▸ m⟩
 .refine⟨_,rst _ e (fun x m=>?_) (by rw[Gn];exact Gc _) fun x z=>?_⟩
  .rcases Cj.mp m with m | m
   .exact h.kn x m
   .cases V1.mp m;exact hq.1
  .rcases z with z | z
   .exact List.mem_append_left _ z
   .exact de _ (V1.mpr z)
theorem DF.mono{pk XY:ZX}{ps:ZZ}(h:DF pk ps)(g:∀x s,Zv pk (.inr x)=some s->Zv XY (.inr x)=some s):DF XY ps:=fun n x o v m=>let ⟨s,e,f⟩:=h n x o v m;⟨s,g o s e,f⟩
theorem M2.made{ms ks:ZG}{pk:ZX}{XY:ZX}{root:Str}(h:M2 ms pk [] ks XY)(hp:Xf ms pk)(hm:∀x∈ms,Sm x)(hr:root∈ms):Mk ks root XY:=by
 have cov:∀x∈ms,x∈ks:=fun x m=>(h.c x m).resolve_right fun z=>nomatch z;refine⟨⟨h.k,fun p m=>(h.p p m).raw.mono cov,fun x m=>hm x (h.kn x m)⟩,cov _ hr,fun p m=>(h.p p m).ok,fun p m ps zs e=>((h.p p m).df ps zs e).mono h.g, ?_,by have:=h.n;rw[List.length_nil]at this;omega⟩;obtain⟨ps,ep,hps⟩:=hp.k;have l0:=hp.l0;cases pk with
 | nil=>cases l0
 | cons q pk =>
  cases ps with
  | nil=>cases ep
  | cons x ps =>
   have e:q.1=.inr x:=(List.cons.inj ep).1
   have g:Zv (q::pk) (.inr x)=some q.2:=by
    show ((q::pk).find? fun p=>decide (p.1=(.inr x:Key))).map (·.2)=_;rw[List.find?_cons_of_pos (p:=fun p:Key×T=>decide (p.1=(.inr x:Key))) (Ma e)];rfl
   exact⟨x,cov x (hps x Yn),q.2,h.g x q.2 g,(hp.p q Yn).pl⟩
theorem dct1P{x:Str}{v:T}{Q:Sl->Prop}(h:Wl v=false)(q:Q (.o (.dct [(.inr x,v)]))):on (W5 .dct1 [.str x,v]) Q:=Zm (a:=Sl.o (.dct [(.inr x,v)])) (by show (if Wl v=true then none else _)=_;rw[if_neg (by rw[h];exact fun z=>nomatch z)];rfl) q
theorem ixL0{a:T}{l:ZZ}{Q:Sl->Prop}(q:Q (.f a)):on ((T5 (.lst (a::l)) (.int 0)).map Sl.f) Q:=ixLP (by unfold R9 ug;rw[if_pos (by omega),if_pos (by rw[Jk];omega)];rfl) q
noncomputable abbrev pT(q:Str×Str):T:=.tup [.str q.1,.str q.2]
def Ek(t:T):Prop:=∃ns root XY,t=mkT root XY/\Mk ns root XY
def Mkd6(t:T):Prop:=∃ns root XY,t=mkT root XY/\Mk ns root XY/\ns.length<=6
theorem Mkd6.mk{t:T}(h:Mkd6 t):Ek t:=let ⟨ns,r,XY,e,m,_⟩:=h;⟨ns,r,XY,e,m⟩
def Xb(K:Kn):Prop:=∀{zs:ZT} {i k:Int},K [.o (Zf zs i k)] (tx zs Mkd6)
theorem pf{w:W}(hd:Vf w.C)(hP:PPl (cl w.C "_law_plain"))(hR:PPd (cl w.C "_law_parted")):Xb (wF Je w):=fun {zs i k}=>by
 refine Zy rfl fun D rt _=>?_
 have key:∀ms:ZG,ms.Nodup->(∀x∈ms,x∈WRD)->2<=ms.length->ms.length<=6->∀s1 s2 i2 k2,wS w (Yk [.o (Zf zs i k)]) (Zs 3 Rp) [.o (Zf zs i2 k2),s1,s2,.o (.lst (ms.map .str)),.no,.no,.no,.no,.no,.no] D:=fun ms nd sub l2 l6 s1 s2 i2 k2=>by
  cases ms with
  | nil=>cases l2
  | cons m0 rs =>
  generalize em:m0::rs=ms at nd sub l2 l6;have hm:di ms:=⟨by omega,by omega⟩;have e0:ms.map T.str=.str m0::rs.map .str:=by rw[<-em];rfl
  have hsm:∀x∈ms,Sm x:=fun x m=>wrd_sm x (sub x m);have at0:∀{Q:Sl->Prop},Q (.f (.str m0))->on ((T5 (.lst (ms.map .str)) (.int 0)).map Sl.f) Q:=fun q=>by rw[e0];exact ixL0 q
  refine at0 ?_;refine Zl hd (by omega) (by omega) fun r i' k' h0 h1=>?_;refine Ul (ss:=["whole","truth","text","row"]) h0 h1 fun s ms'=>?_;have hs:s∈S8:=(show ∀s∈(["whole","truth","text","row"]:ZG),s∈S8 by decide) s ms';refine Jp (hP hs hm fun x m=>m) fun t i3 k3 ht=>?_;refine dct1P (rl ht.raw) ?_;have ec:Yp (ms.map T.str) (some 1) none=rs.map .str:=by rw[e0];exact cut1 _ _
  refine Cy (fun rest p=>∃(i k:Int) (s7 s8:Sl) (XY:ZX) (ks rr:ZG) (lf:List (Str×Str)),p=[.o (Zf zs i k),s1,s2,.f (.lst (ms.map .str)),.o (.lst (SOR.map .str)),.o (.dct XY),.o (.lst (lf.map pT)),s7,s8,.no]/\rest=rr.map T.str/\M1 ms rr ks lf XY)
   ⟨_,_,_,_,[(.inr m0,t)],[m0],rs,[],rfl,ec, ?_⟩ (fun x rest p D' hi nx _=>?_) fun p hi=>?_
  .have sp:=List.nodup_cons.mp (show (m0::rs).Nodup by rw[em];exact nd);refine⟨fun x m=>by rw[<-em];exact Vk _ m,sp.2,fun x m z=>?_,(fun x m z=>nomatch z),rfl,fun x m=>?_,(fun q m=>nomatch m),fun q m=>?_, ?_,fun x m=>?_,Nat.zero_lt_succ _⟩
   .cases V1.mp z;exact sp.1 m
   .cases V1.mp m;rw[<-em];exact Yn
   .cases V1.mp m;exact ht
   .rw[<-em,Jk]at l6;show 1+0+rs.length<=6;omega
   .rw[<-em]at m;rcases Vv.mp m with rfl | m
    .exact .inr (.inl (V1.mpr rfl))
    .exact .inl m
  .obtain⟨i,k,s7,s8,XY,ks,rr,lf,rfl,er,hM⟩:=hi;cases rr with
   | nil=>cases er
   | cons y rr =>
   cases er;refine Zl hd (by omega) (by omega) fun r i' k' h0 h1=>?_;refine Ul (ss:=SOR) h0 h1 fun s ms'=>?_;have n:=hM.n
   have app:(s = "record" \/ s = "choice")->on (mtT .append (.lst (lf.map pT)) [.tup [.str y,.str s]]) fun r=>D'.nx [.o (Zf zs i' k'),s1,s2,.f (.lst (ms.map .str)),.o (.lst (SOR.map .str)),.o (.dct XY),.o r.1,.f (.str y),.f (.str s),.no]:=fun hs=>by
    have:=sizeLine_eq;refine oh (by rw[Zu];omega) ?_;refine nx _ ⟨i',k',.f (.str y),.f (.str s),XY,ks,rr,lf++[(y,s)], ?_,rfl,hM.left hs⟩;rw[Q9];rfl
   refine Zz (b:=decide (s = "record")) (fun z=>app (.inl (R6 z))) fun z1=>?_;refine Zz (b:=decide (s = "choice")) (fun z=>app (.inr (R6 z))) fun z2=>?_;have hs:s∈S8:=((sor_or s ms').resolve_left (of_decide_eq_false z1)).resolve_left (of_decide_eq_false z2);refine Jp (hP hs hm fun x m=>m) fun t i3 k3 ht=>?_;refine E4 (by rw[Ys hM.k];omega) ?_;exact nx _ ⟨_,_,_,_,_,_,rr,lf,rfl,rfl,hM.put ht⟩
  obtain⟨i,k,s7,s8,pk,ks,rr,lf,rfl,er,hM⟩:=hi;cases rr with
  | cons y rr=>cases er
  | nil =>
  obtain⟨hp,h2⟩:=hM.fin
  refine Cy (fun rest p=>∃(i k:Int) (s6 s7 s8 s9:Sl) (XY:ZX) (ks:ZG) (lf:List (Str×Str)),p=[.o (Zf zs i k),s1,s2,.f (.lst (ms.map .str)),.o (.lst (SOR.map .str)),.o (.dct XY),s6,s7,s8,s9]/\OF s9 (.dct pk)/\rest=lf.map pT/\M2 ms pk lf ks XY)
   ⟨_,_,_,_,_,_,pk,ks,lf,rfl,.inl rfl,rfl,h2⟩ (fun x rest p D' hi nx _=>?_) fun p hi=>?_
  .obtain⟨i,k,s6,s7,s8,s9,XY,ks,lf,rfl,o9,er,h2⟩:=hi;cases lf with
   | nil=>cases er
   | cons q lf =>
   cases er;have n:=h2.n;have hq:=(h2.lk q Yn).2.2;have hk:∃b,Kd2 q.2 b:=hq.elim (fun e=>⟨true,.inl ⟨e,rfl⟩⟩) fun e=>⟨false,.inr ⟨e,rfl⟩⟩;obtain⟨b,hb⟩:=hk;refine P2 o9 rfl ?_;refine Jp (hR hb hp hm fun x m=>m) fun t i3 k3 ht=>?_;refine E4 (by rw[Ys h2.k];omega) ?_;obtain⟨U5,h3⟩:=h2.put ht;exact nx _ ⟨_,_,_,_,_,_,_,U5,lf,rfl,.inr rfl,rfl,h3⟩
  obtain⟨i,k,s6,s7,s8,s9,XY,ks,lf,rfl,o9,er,h2⟩:=hi;cases lf with
  | cons q lf=>cases er
  | nil =>
  refine Zl hd (by rw[Zu];omega) (by rw[Zu];omega) fun r i' k' h0 h1=>?_;rw[Zu]at h1;refine Ul h0 h1 fun root mr=>?_;exact rt _ _ ⟨_,_,_,⟨ks,root,XY,rfl,h2.made hp hsm mr,by have:=h2.n;omega⟩,rfl⟩
 refine Zl hd (by omega) (by omega) fun r i' k' h0 h1=>?_;refine rotP (xs:=WRD) (f:=T.str) h0 (Int.le_of_lt h1) (by decide) fun ys py=>?_;have ly:ys.length=14:=py.length_eq;refine Zl hd (by omega) (by omega) fun r2 i2 k2 g0 g1=>?_;have:=key (ys.take (2+r2).toNat) ((py.nodup_iff.mpr (by decide)).sublist (List.take_sublist _ _)) (fun z m=>py.mem_iff.mp (List.mem_of_mem_take m)) (by rw[dz];omega) (by rw[dz];omega) (.o (.lst (WRD.map .str))) (.f (.int r)) i2 k2;rw[<-Ht (by omega) (by omega)]at this;exact this
theorem Vr{a b:T}{r q:ZZ}{e:Bool}(h:eqE a b=some e)(h1:e=true->(G4 r q).isSome=true)(h2:e=false->(ltE a b).isSome=true):(G4 (a::r) (b::q)).isSome=true:=by
 unfold G4;rw[h];show (if e=true then G4 r q else ltE a b).isSome=true;cases e with
 | true=>rw[if_pos rfl];exact h1 rfl
 | false=>rw[if_neg fun z=>nomatch z];exact h2 rfl
theorem pa{ds es:ZZ}(hd:Dfl ds)(he:Dfl es)(h:∀v u,ds=[v]->es=[u]->∃s,Be s v/\Be s u):(G4 [.tup ds] [.tup es]).isSome=true:=by
 cases hd with
 | no=>cases he with
  | no=>exact Vr (e:=true) rfl (fun _=>rfl) fun z=>nomatch z
  | is _=>exact Vr (e:=false) rfl (fun z=>nomatch z) fun _=>rfl
 | is _=>cases he with
  | no=>exact Vr (e:=false) rfl (fun z=>nomatch z) fun _=>rfl
  | is _ =>
   obtain⟨s,f1,f2⟩:=h _ _ rfl rfl;cases f1 with
   | @whole a b i _ _=>cases f2 with | @whole _ _ j _ _=>exact Vr (e:=(decide (i=j) && true)) rfl (fun _=>rfl) fun _=>rfl
   | @truth a=>cases f2 with | @truth b=>cases a<;>cases b<;>rfl
   | @text n x _=>cases f2 with | @text _ y _=>exact Vr (e:=(decide (x=y) && true)) rfl (fun _=>rfl) fun _=>rfl
   | row=>cases f2 with | row=>rfl
   | map=>cases f2 with | map=>rfl
def itm:T->ZZ
 | .tup ts=>ts
 | _=>[]
theorem ph{ns:ZG}{b:Bool}{XY:ZX}{p q:T}(hp:Gg ns b p)(hq:Gg ns b q)(dp:DF1 XY p)(dq:DF1 XY q):(G4 (itm p) (itm q)).isSome=true:=by
 cases hp with | @mk n x o ds hn hx ho hd =>
 cases hq with | @mk m y u es hm hy hu he =>
 refine Vr (e:=decide (n=m)) rfl (fun _=>?_) fun _=>rfl;refine Vr (e:=decide (x=y)) rfl (fun _=>?_) fun _=>rfl;refine Vr (e:=decide (o=u)) rfl (fun z=>?_) fun _=>rfl;cases R6 z;cases hd with
 | arm=>cases he with | arm=>rfl
 | @fld ds hd=>cases he with | @fld es he =>
  refine pa hd he fun v v' e e'=>?_;subst e;subst e';obtain⟨s,e1,f1⟩:=dp n x o v rfl;obtain⟨s',e2,f2⟩:=dq m y o v' rfl;rw[e1]at e2;cases e2;exact⟨s,f1,f2⟩
theorem Pj{ns:ZG}{b:Bool}:∀{ps:ZZ},(∀p∈ps,Gg ns b p)->Ck ps=some (ps.map itm)
 | [],_=>rfl
 | p::ps,h=>by
  have ih:=Pj (ps:=ps) fun q m=>h q (Vk _ m);cases h p Yn with | mk _ _ _ _ =>
  show (Ck ps).map _=_;rw[ih];rfl
theorem ck{ns:ZG}{b:Bool}{XY:ZX}{ps:ZZ}(hp:∀p∈ps,Gg ns b p)(hd:∀p∈ps,DF1 XY p)(l:ps.length<64):∃us,Pl ps=some us/\us.length=ps.length/\∀u∈us,u∈ps:=by
 unfold Pl;rw[Pj hp];show ∃us,(if ps.length<2 then some ps else _)=some us/\_;by_cases c:ps.length<2
 .exact⟨ps,if_pos c,rfl,fun u m=>m⟩
 .rw[if_neg c,if_pos ⟨l,fun a ma b' mb=>by
   obtain⟨p,mp,rfl⟩:=Gf.mp ma;obtain⟨q,mq,rfl⟩:=Gf.mp mb;exact ph (hp p mp) (hp q mq) (hd p mp) (hd q mq)⟩]
  have pm:=SRT.X2 (n:=ps.length) (by omega) fun i j=>(G4 ((ps.map itm).getD i []) ((ps.map itm).getD j [])).getD false;refine⟨_,rfl,by rw[Zu,pm.length_eq,XZ],fun u m=>?_⟩;obtain⟨i,mi,rfl⟩:=Gf.mp m;have li:=List.mem_range.mp (pm.mem_iff.mp mi);rw[List.getD_eq_getElem?_getD,Wi li];exact G0e li
theorem srtPP{ns:ZG}{b:Bool}{XY:ZX}{ps:ZZ}{Q:Sl->Prop}(hp:∀p∈ps,Gg ns b p)(hd:∀p∈ps,DF1 XY p)(l:ps.length<64)(q:∀us,us.length=ps.length->(∀u∈us,u∈ps)->Q (.o (.lst us))):on (W5 .srtP [.tup ps]) Q:=by
 obtain⟨us,e,l',m⟩:=ck hp hd l;exact Zm (a:=Sl.o (.lst us)) (by show (Pl ps).map _=_;rw[e];rfl) (q us l' m)
def PNr(K:Kn):Prop:=∀{zs:ZT} {i k:Int} {s:T} {ns:ZG},qy ns s->K [.o (Zf zs i k),.f s] (tx zs fun t=>Raw ns t/\T1 t=true)
theorem sr{w:W}(hd:Vf w.C):PNr (wF Ji w):=fun {zs i k s ns} hs=>by
 refine Zy rfl fun D rt _=>?_;refine Zl hd (by omega) (by omega) fun r i' k' h0 h1=>?_;have pl:=hs.pl;cases hs.raw with
 | truth=>exact rt _ _ ⟨_,_,_,⟨.whole,rfl⟩,rfl⟩
 | whole =>
  refine Zl hd (by omega) (by omega) fun r i' k' h0 h1=>?_;exact rt _ _ ⟨_,_,_,⟨.whole,rfl⟩,rfl⟩
 | text=>exact rt _ _ ⟨_,_,_,⟨.text,rfl⟩,rfl⟩
 | row ho=>exact rt _ _ ⟨_,_,_,⟨.row ho,rfl⟩,rfl⟩
 | map ho=>exact rt _ _ ⟨_,_,_,⟨.map ho,rfl⟩,rfl⟩
 | record _ _=>cases pl
 | choice _ _=>cases pl
theorem ix_to6(n:Nat):(Builtin.Str.strSliceIndices none (some 6) 1 n).length<=6:=by
 unfold Builtin.Str.strSliceIndices sliceRange;simp only[show (1:Int)>0 by decide,if_true,Zu,XZ]<;>(split<;>(try split)<;>(try split)<;>(try simp only[Int.ediv_one])<;>omega)
theorem wg{x:Str}(h:Sm x):(Txt.slice x none (some 6)).length<=6/\∀c∈(Txt.slice x none (some 6)).cps.toList,c∈x.cps.toList:=by
 have h6:=ix_to6 x.length;unfold Txt.slice
 split
 .rename_i c
  simp only[Vp,beq_iff_eq]at c;exact⟨by omega,fun c m=>m⟩
 .refine⟨?_,fun c m=>?_⟩
  .show (List.filterMap _ (Builtin.Str.strSliceIndices none (some 6) 1 x.length)).toArray.size<=_;rw[Jv];exact Jy (List.length_filterMap_le _ _) h6
  .have m:c∈List.filterMap _ (Builtin.Str.strSliceIndices none (some 6) 1 x.length):=m;obtain⟨i,_,e⟩:=List.mem_filterMap.mp m;obtain⟨l,rfl⟩:=Array.getElem?_eq_some_iff.mp e;exact Array.mem_toList_iff.mpr (Array.getElem_mem l)
theorem sm_q{x:Str}(h:Sm x):Sm ((Str.ofString "q")++Txt.slice x none (some 6)):=by
 obtain⟨a,b⟩:=wg h;have e:((Str.ofString "q")++Txt.slice x none (some 6)).cps.toList=(Str.ofString "q").cps.toList++(Txt.slice x none (some 6)).cps.toList:=Array.toList_append;refine⟨?_,fun c m=>?_⟩
 .show (((Str.ofString "q")++Txt.slice x none (some 6)).cps).size<=8;rw[<-Ln,e,Gn];show 1+(Txt.slice x none (some 6)).cps.toList.length<=8;rw[Ln];exact Jy (Nat.add_le_add_left a 1) (by omega)
 .rw[e]at m;rcases Cj.mp m with m | m
  .exact(show ∀c∈(Str.ofString "q").cps.toList,c<16 ^ 8 by decide) c m
  .exact h.2 c (b c m)
theorem noC_pl{ns:ZG}{s:T}(h:qy ns s):sy s=true:=by
 have pl:=h.pl;cases h.raw with
 | record _ _=>cases pl
 | choice _ _=>cases pl
 | _=>rfl
theorem tmpP{ns:ZG}{pk:ZX}{Q:Sl->Prop}(h:Xf ns pk)(q:Q (.o (.dct pk))):on (t7 (.o (.dct pk))) Q:=Zm (a:=Sl.o (.dct pk)) (if_pos (tj.mpr fun p m=>noC_pl (h.p p m))) q
theorem pl_tag{ns:ZG}{s:T}(h:qy ns s):∃t l,s=.tup (.str t::l)/\t∈S8:=by
 have pl:=h.pl;cases h.raw with
 | record _ _=>cases pl
 | choice _ _=>cases pl
 | whole=>exact⟨_,_,rfl,by decide⟩
 | truth=>exact⟨_,_,rfl,by decide⟩
 | text=>exact⟨_,_,rfl,by decide⟩
 | row _=>exact⟨_,_,rfl,by decide⟩
 | map _=>exact⟨_,_,rfl,by decide⟩
def Rst(b:Bool)(rs:ZZ):Prop:=(b=true/\rs=[])\/(b=false/\∃c,rs=[.bl c])
noncomputable abbrev shT(t:Str)(ps:ZZ)(zs:ZT)(rs:ZZ):T:=.tup (.str t::.tup ps::.tup (zs.map .int)::rs)
structure Ez(ns:ZG)(XY:ZX)(t:Str)(b:Bool)(ps:ZZ)(zs:ZT)(rs:ZZ):Prop where
 kd:Kd2 t b
 p:Mr ns b ps
 m:Mem ps zs
 r:Rst b rs
 df:∀p∈ps,DF1 XY p
theorem k8{ns:ZG}{root:Str}{XY:ZX}(h:Mk ns root XY){x:Str}{s:T}(e:Zv XY (.inr x)=some s)(np:T1 s=false):∃t b ps zs rs,s=shT t ps zs rs/\Ez ns XY t b ps zs rs:=by
 have m:=Z5 e;have raw:=h.raw.r _ m;have ok:=h.ok _ m;have fit:=h.fit _ m;cases(show Raw ns s from raw) with
 | @record ps zs hp hz =>
  refine⟨_,true,ps,zs,[],rfl,.inl ⟨rfl,rfl⟩,hp, ?_,.inl ⟨rfl,rfl⟩,fun p mp n x o v e=>fit ps zs rfl n x o v (e ▸ mp)⟩;obtain⟨s,e⟩:∃s,s=T.tup [.str "record",.tup ps,.tup (zs.map .int)]:=⟨_,rfl⟩;have ok:N6 s:=e ▸ ok;cases ok with
  | @record qs us hm =>
   injection e with e;injection e with _ e;injection e with e1 e2;injection e1 with e1
   injection e2 with e2 _;injection e2 with e2
   have:us=zs:=List.map_inj_right (fun a b h=>by cases h;rfl) |>.mp e2;subst e1;subst this;exact hm
  | _=>cases e
 | @choice ps zs c hp hz =>
  refine⟨_,false,ps,zs,[.bl c],rfl,.inr ⟨rfl,rfl⟩,hp, ?_,.inr ⟨rfl,c,rfl⟩,fun p mp n x o v e=>by cases hp.p p mp with | mk _ _ _ hd=>cases hd;cases e⟩;obtain⟨s,e⟩:∃s,s=T.tup [.str "choice",.tup ps,.tup (zs.map .int),.bl c]:=⟨_,rfl⟩;have ok:N6 s:=e ▸ ok;cases ok with
  | @choice qs us _ hm =>
   injection e with e;injection e with _ e;injection e with e1 e2;injection e1 with e1
   injection e2 with e2 _;injection e2 with e2
   have:us=zs:=List.map_inj_right (fun a b h=>by cases h;rfl) |>.mp e2;subst e1;subst this;exact hm
  | _=>cases e
 | _=>cases np
theorem Ez.raw{ns:ZG}{b:Bool}{t:Str}{ps rs:ZZ}{zs:ZT}(hk:Kd2 t b)(hp:Mr ns b ps)(hz:zs.length<=20)(hr:Rst b rs):Raw ns (shT t ps zs rs):=by
 rcases hk with ⟨rfl,rfl⟩ | ⟨rfl,rfl⟩
 .rcases hr with ⟨_,rfl⟩ | ⟨z,_⟩
  .exact .record hp hz
  .cases z
 .rcases hr with ⟨z,_⟩ | ⟨_,c,rfl⟩
  .cases z
  .exact .choice hp hz
theorem vw(n:Nat)(gs:ZT):(List.replicate n (gs.map T.int)).flatten=((List.replicate n gs).flatten).map .int/\((List.replicate n gs).flatten).length=n * gs.length:=⟨by rw[List.map_flatten,List.map_replicate],by simp⟩
theorem Mk.put{ns:ZG}{root r' x:Str}{XY:ZX}{s s':T}(h:Mk ns root XY)(mx:x∈ns)(e:Zv XY (.inr x)=some s)(raw:Raw ns s')(hp:T1 s'=true\/T1 s=false)(mr:r'∈ns):Ta ns (Zo XY (.inr x) s')/\((∀p∈Zo XY (.inr x) s',N6 p.2)->(∀p∈Zo XY (.inr x) s',∀ps zs,p.2=Gs ps zs->DF (Zo XY (.inr x) s') ps)->Mk ns r' (Zo XY (.inr x) s')):=by
 have rk:Ta ns (Zo XY (.inr x) s'):=⟨((Gp (x:=x) (v:=s') h.raw.k).resolve_right fun z=>z.1 mx).2,fun p m=>by
  rcases M3 m with m | rfl
  .exact h.raw.r p m
  .exact raw,h.raw.sm⟩
 refine⟨rk,fun ok fit=>⟨rk,mr,ok,fit, ?_,h.l⟩⟩;rcases hp with z | z
 .exact⟨x,mx,s',by rw[Jx,if_pos rfl],z⟩
 .obtain⟨y,my,t,et,zt⟩:=h.pl;refine⟨y,my,t, ?_,zt⟩;rw[Jx,if_neg fun c=>by cases c;rw[e]at et;cases et;rw[z]at zt;cases zt];exact et
noncomputable def cE:S:=fm (Zs 6 Yt)
section
variable{w:W}{Wx:ZT}{i0 k0:Int}{ns:ZG}{root x:Str}{XY pk:ZX}{s:T}{D:En}{pt:Nat->Bool}
theorem tn_fin(hd:Vf w.C)(hM:PMk (cl w.C "is_make"))(h:Mk ns root XY)(mx:x∈ns)(e:Zv XY (.inr x)=some s)(p14:pt 14=false)(rt:∀t i k (s1:Sl) (q:P),Ek t->D.rt (.f t) (.o (Zf Wx i k)::s1::q))
  {s':T} (raw:Raw ns s') (hp:T1 s'=true\/T1 s=false) {s2 s6 s7 s8 s9 rz vz X7 w9 X6:Sl} {i k:Int}:wS w pt (Zs 7 Yt) [.o (Zf Wx i k),.f (mkT root XY),s2,.f (.str x),.f s,.o (.dct (Zo XY (.inr x) s')),s6,s7,s8,s9,rz,vz,X7,w9,X6] D:=by
 show if pt 14=true then False else _
 rw[if_neg (by rw[p14];exact fun z=>nomatch z)];refine Zl hd (by omega) (by omega) fun r i' k' h0 h1=>?_;refine Ul (ss:=[root,x]) (by split<;>omega) (by show _<(2:Int);split<;>omega) fun y my=>?_
 have mr:y∈ns:=by
  rcases Vv.mp my with rfl | my
  .exact h.root
  .cases V1.mp my;exact mx
 obtain⟨rk,mk⟩:=h.put mx e raw hp mr;refine Yc (hM rk mr) fun b hb=>?_;refine Zz (b:=b) (fun z=>?_) fun _=>?_
 .exact rt _ _ _ _ _ ⟨ns,y,_,rfl,mk (hb z).1 (hb z).2⟩
 .exact rt _ _ _ _ _ ⟨ns,root,_,rfl,h⟩
theorem tn_put(fin:∀{s':T},Raw ns s'->∀{s2 s6 s7 s8 s9 rz vz X7 w9 X6:Sl} {i k:Int},D.nx [.o (Zf Wx i k),.f (mkT root XY),s2,.f (.str x),.f s,.o (.dct (Zo XY (.inr x) s')),s6,s7,s8,s9,rz,vz,X7,w9,X6])(h:Mk ns root XY)
  {t:Str} {b:Bool} {ps ra rs rs':ZZ} {zs dv:ZT} (es:s=shT t ps zs rs) (kd:Kd2 t b) (hp:Mr ns b ra) (hz:dv.length<=20) (hr:Rst b rs') {s2 s6 s7 vz X7 w9 X6:Sl} {i k:Int}:wS w pt (Zs 4 cE) [.o (Zf Wx i k),.f (mkT root XY),s2,.f (.str x),.f s,.o (.dct XY),s6,s7,.f (.tup ra),.f (.tup (dv.map .int)),.f (.tup rs'),vz,X7,w9,X6] D:=by
 have l:=h.l;have:=sizeLine_eq;subst es;refine Ud ?_;refine R4 (by rcases hr with ⟨_,rfl⟩ | ⟨_,c,rfl⟩<;>(show 3+_<=_;simp;omega)) ?_;refine E4 (by rw[Ys h.raw.k];omega) ?_;exact fin (Ez.raw kd hp hz hr)
end
def cW:S:=fm (Zs 3 cE)
noncomputable def cX:S:=Pf (fm (fm (fm cW)))
section
variable{w:W}{Wx:ZT}{i0 k0:Int}{ns ms:ZG}{root x t:Str}{XY pk:ZX}{D:En}{b:Bool}{ps rs:ZZ}{zs:ZT}
def PutN(Wx:ZT)(ns:ZG)(b:Bool)(root x t:Str)(XY:ZX)(ps rs:ZZ)(zs:ZT)(Q:P->Prop):Prop:=∀{ra rs':ZZ} {dv:ZT},Mr ns b ra->dv.length<=20->Rst b rs'->∀{s2 s6 s7 vz X7 w9 X6:Sl} {i k:Int},Q [.o (Zf Wx i k),.f (mkT root XY),s2,.f (.str x),.f (shT t ps zs rs),.o (.dct XY),s6,s7,.f (.tup ra),.f (.tup (dv.map .int)),.f (.tup rs'),vz,X7,w9,X6]
theorem Li(put:PutN Wx ns b root x t XY ps rs zs D.nx)(g:Ez ns XY t b ps zs rs){p':T}(hp:Gg ns b p'){a:Int}{s2 s6 s7 X7 X6:Sl}{i k:Int}:wS w (Yk [.o (Zf Wx i0 k0),.f (mkT root XY)]) (Zs 2 cX) [.o (Zf Wx i k),.f (mkT root XY),s2,.f (.str x),.f (shT t ps zs rs),.o (.dct XY),s6,s7,.f (.tup ps),.f (.tup (zs.map .int)),.f (.tup rs),.f (.int a),X7,.f p',X6] D:=by
 have:=sizeLine_eq;have l:=g.m.l;have l1:=Um (ts:=ps) (lo:=none) (hi:=some a);have l2:=Um (ts:=ps) (lo:=some (a+1)) (hi:=none);refine R4 (by show _+1<=_;omega) ?_;refine R4 (by rw[Gn];show _+1+_<=_;omega) ?_;refine put ⟨?_,fun q m=>?_⟩ (by have:=g.m.sl;omega) g.r
 .rw[Gn,Gn];show _+1+_<=_;omega
 .rcases Cj.mp m with m | m
  .rcases Cj.mp m with m | m
   .exact g.p.p q (Nc m)
   .cases V1.mp m;exact hp
  .exact g.p.p q (Nc m)
theorem j8(hP:N4 (cl w.C "_law_part"))(put:PutN Wx ns b root x t XY ps rs zs D.nx)(g:Ez ns XY t b ps zs rs)(hk:Xf ns pk)(gk:∀x s,Zv pk (.inr x)=some s->Zv XY (.inr x)=some s)(hm:di ms)(hx:∀x∈ms,x∈ns){wy a:Int}(w0:0<=wy)(w1:wy<8)(a0:0<=a){s2 s6:Sl}(o2:OF s2 (.lst (ms.map .str)))(o6:OF s6 (.dct pk)){i k:Int}:wS w (Yk [.o (Zf Wx i0 k0),.f (mkT root XY)]) cW [.o (Zf Wx i k),.f (mkT root XY),s2,.f (.str x),.f (shT t ps zs rs),.o (.dct XY),s6,.f (.int wy),.f (.tup ps),.f (.tup (zs.map .int)),.f (.tup rs),.f (.int a),.no,.no,.no] D:=by
 have sz:=sizeLine_eq;have l:=g.m.l;have lz:=g.m.sl;refine Zz (b:=decide (wy=1)) (fun _=>?_) fun _=>?_
 .obtain⟨dv,ez,_,lz',_⟩:=Qd (f:=T.int) (xs:=zs) (some 1) none;have:=@put ps rs dv g.p (by omega) g.r s2 s6 (.f (.int wy)) (.f (.int a)) .no .no .no i k;rw[<-ez]at this;exact this
 refine Zz (b:=decide (wy<4)) (fun z=>?_) fun _=>?_
 .have z:=R6 z;have l0:=Um (ts:=ps) (lo:=some a) (hi:=some (a+1));have l1:=Um (ts:=ps) (lo:=none) (hi:=some a);have l2:=Um (ts:=ps) (lo:=some (a+1)) (hi:=none);refine Oi (ps:=Yp ps (some a) (some (a+1))) (fun p m=>g.p.p p (Nc m)) fun s0=>?_;refine R4 (by omega) ?_;obtain⟨r1,r2⟩:=vw (wy - 2).toNat ((Yp ps (some a) (some (a+1))).map Z1);rw[Zu]at r2;have n1:(wy - 2).toNat<=1:=by omega
  have n2:(wy - 2).toNat * (Yp ps (some a) (some (a+1))).length<=8:=by
   have:=Nat.mul_le_mul n1 (Jy l0 l);omega
  refine P6 (a:=Sl.o (.lst (List.replicate (wy - 2).toNat (((Yp ps (some a) (some (a+1))).map Z1).map T.int)).flatten)) ⟨by omega,by omega, ?_⟩ ?_
  .rw[Zu,Zu,Nat.mul_comm];omega
  refine Ld (by rw[r1,Zu,Zu,r2];omega) ?_;have ll:(zs++(List.replicate (wy - 2).toNat ((Yp ps (some a) (some (a+1))).map Z1)).flatten).length<=16:=by rw[Gn,r2];omega
  refine Ai (us:=(SRT.Mw (zs++(List.replicate (wy - 2).toNat ((Yp ps (some a) (some (a+1))).map Z1)).flatten)).map .int) (by rw[r1, <-Q9];exact srt_ints _ (by omega)) ?_;refine put ⟨by rw[Gn];omega,fun q m=>?_⟩ (by rw[(SRT.Yf _).length_eq];omega) g.r;rcases Cj.mp m with m | m<;>exact g.p.p q (Nc m)
 refine Zz (b:=decide (wy=4)) (fun _=>?_) fun _=>?_
 .refine Ud ?_;refine P2 o6 rfl ?_;refine P2 o2 rfl ?_;refine Jp (hP g.kd (show (500:Int)∈Wa by decide) hk hm hx) fun p i k hp=>?_;refine R4 (by show _+1<=_;omega) ?_;refine srtPP (XY:=XY) (ns:=ns) (b:=b) (fun q m=>?_) (fun q m=>?_) (by rw[Gn];show _+1<_;omega) fun us lu mu=>?_
  .rcases Cj.mp m with m | m
   .exact g.p.p q m
   .cases V1.mp m;exact hp.prt
  .rcases Cj.mp m with m | m
   .exact g.df q m
   .cases V1.mp m;exact fun n x o v e=>let ⟨s,e1,f⟩:=hp.df n x o v e;⟨s,gk o s e1,f⟩
  rw[Gn]at lu;refine put ⟨by rw[lu];show _+1<=_;omega,fun q m=>?_⟩ (by omega) g.r;rcases Cj.mp (mu q m) with m | m
  .exact g.p.p q m
  .cases V1.mp m;exact hp.prt
 refine Zz (b:=decide (a<(ps.length:Nat))) (fun z=>?_) fun _=>?_
 .obtain⟨p,ep,_,mp⟩:=H0 (xs:=ps) a0 (R6 z);have hp:=g.p.p p mp;cases hp with | @mk n y o ds hn hy ho hd =>
  refine Ud ?_;refine uk ep ?_;refine Ud ?_;refine P2 o6 rfl ?_;refine P2 o2 rfl ?_;refine Jp (hP g.kd hn hk hm hx) fun p i k hp=>?_;refine Zz (b:=decide (wy=7)) (fun _=>?_) fun _=>Li put g hp.prt;refine uk ep ?_;refine Ud ?_;refine uk ep ?_;refine Bg ?_;refine P6 hy.z ?_;have hq:=sm_q hy;have h6:=(wg hy).1;refine addSP (by show 1+_<=_;omega) ?_;refine uk ep ?_;cases hd with
  | arm=>exact Li put g (.mk hn hq ho .arm)
  | fld hd=>exact Li put g (.mk hn hq ho (.fld hd))
 .exact put g.p (by omega) g.r
end
end K62
set_option maxHeartbeats 2000000
namespace K62
open PySem PySem.Spec PyProof.Rows L2 PV
section
variable{w:W}{Wx:ZT}{i0 k0:Int}{ns ms:ZG}{root x t:Str}{XY pk:ZX}{D:En}{b:Bool}{ps rs:ZZ}{zs:ZT}
theorem tn_grp(hd:Vf w.C)(hP:N4 (cl w.C "_law_part"))(h:Mk ns root XY)(fin:∀{s':T},Raw ns s'->∀{s2 s6 s7 s8 s9 rz vz X7 w9 X6:Sl} {i k:Int},D.nx [.o (Zf Wx i k),.f (mkT root XY),s2,.f (.str x),.f (shT t ps zs rs),.o (.dct (Zo XY (.inr x) s')),s6,s7,s8,s9,rz,vz,X7,w9,X6])(g:Ez ns XY t b ps zs rs)(hk:Xf ns pk)(gk:∀x s,Zv pk (.inr x)=some s->Zv XY (.inr x)=some s)(hm:di ms)(hx:∀x∈ms,x∈ns){wy:Int}(w0:0<=wy)(w1:wy<8){s2 s6:Sl}(o2:OF s2 (.lst (ms.map .str)))(o6:OF s6 (.dct pk)){i k:Int} :
  wS w (Yk [.o (Zf Wx i0 k0),.f (mkT root XY)]) (Zs 2 cE) [.o (Zf Wx i k),.f (mkT root XY),s2,.f (.str x),.f (shT t ps zs rs),.o (.dct XY),s6,.f (.int wy),.f (.tup ps),.f (.tup (zs.map .int)),.f (.tup rs),.no,.no,.no,.no] D:=by
 have l:=g.m.l;have lz:=g.m.sl;have put:PutN Wx ns b root x t XY ps rs zs fun q=>wS w (Yk [.o (Zf Wx i0 k0),.f (mkT root XY)]) (Zs 4 cE) q D:=fun hp hz hr=>tn_put fin h rfl g.kd hp hz hr;refine Zl hd (by omega) (by omega) fun a i k a0 a1=>?_;refine Zz (b:=decide (wy=0)) (fun _=>?_) fun _=>j8 hP put g hk gk hm hx w0 w1 a0 o2 o6;have tw:=@j8 w Wx i0 k0 ns ms root x t XY pk ⟨fun q=>wS w (Yk [.o (Zf Wx i0 k0),.f (mkT root XY)]) (Zs 4 cE) q D,D.rt,D.bk,D.ct⟩ b ps rs zs hP put g hk gk hm hx wy a w0 w1 a0 s2 s6 o2 o6 i k;rcases g.r with ⟨rb,rfl⟩ | ⟨rb,c,rfl⟩
 .exact tw
 .exact put g.p (by omega) (.inr ⟨rb,!c,rfl⟩)
end
def PTn(K:Kn):Prop:=∀{zs:ZT} {i k:Int} {t:T},Ek t->K [.o (Zf zs i k),.f t] (tx zs Ek)
theorem tn_pl{w:W}{zs:ZT}{i k i2 k2:Int}{ns:ZG}{root x:Str}{XY:ZX}{s:T}{D:En}{s6:Sl}{wy:Int}(hP:PPl (cl w.C "_law_plain"))(hN:PNr (cl w.C "_law_near"))(h:Mk ns root XY)(hm:di (SRT.Z7 ns))(hx:∀x∈SRT.Z7 ns,x∈ns)(hs:qy ns s)(fin:∀{s':T},Raw ns s'->T1 s'=true->∀{s2:Sl} {i' k':Int},D.nx [.o (Zf zs i' k'),.f (mkT root XY),s2,.f (.str x),.f s,.o (.dct (Zo XY (.inr x) s')),s6,.f (.int wy),.no,.no,.no,.no,.no,.no,.no]):wS w (Yk [.o (Zf zs i k),.f (mkT root XY)]) (Pf (Zs 6 Yt)) [.o (Zf zs i2 k2),.f (mkT root XY),.o (.lst ((SRT.Z7 ns).map .str)),.f (.str x),.f s,.o (.dct XY),s6,.f (.int wy),.no,.no,.no,.no,.no,.no,.no] D:=by
 have l6:=h.l;refine Zz (b:=decide ((1:Int)<wy)) (fun _=>?_) fun _=>?_
 .refine Jp (hN hs) fun t i k ht=>?_;refine E4 (by rw[Ys h.raw.k];omega) ?_;exact fin ht.1 ht.2
 .obtain⟨t,l,rfl,mt⟩:=pl_tag hs;refine Ud ?_;refine Jp (hP mt hm hx) fun t i k ht=>?_;refine E4 (by rw[Ys h.raw.k];omega) ?_;exact fin ht.raw ht.pl
theorem Xn{w:W}(hd:Vf w.C)(hP:PPl (cl w.C "_law_plain"))(hQ:N4 (cl w.C "_law_part"))(hS:PPs (cl w.C "_law_plains"))(hN:PNr (cl w.C "_law_near"))(hM:PMk (cl w.C "is_make")):PTn (wF V5 w):=fun {zs i k t} ht=>by
 obtain⟨ns,root,XY,rfl,h⟩:=ht;refine Zy rfl fun D rt _=>?_;have l6:=h.l;have l0:0<ns.length:=List.length_pos_of_mem h.root;have pm:=SRT.Z4 ns;have ls:=pm.length_eq;have hm:di (SRT.Z7 ns):=⟨by omega,by omega⟩;have hx:∀x∈SRT.Z7 ns,x∈ns:=fun x m=>pm.mem_iff.mp m;refine Me h.raw.k (by omega) ?_;refine Zl hd (by rw[Zu];omega) (by rw[Zu];omega) fun r i1 k1 h0 h1=>?_;rw[Zu]at h1;refine Ul h0 h1 fun x mx=>?_;have mx:=hx x mx;obtain⟨s,e,raw⟩:=h.raw.get mx;refine Ka e ?_;refine Zg (hS h) fun y ⟨pk,ey,hk,gk,hi⟩=>?_;subst ey;refine tmpP hk ?_;refine Zl hd (by omega) (by omega) fun wy i2 k2 w0 w1=>?_;have fin:∀{s':T},Raw ns s'->(T1 s'=true\/T1 s=false)->∀{s2 s6 s7 s8 s9 rz vz X7 w9 X6:Sl} {i' k':Int},wS w (Yk [.o (Zf zs i k),.f (mkT root XY)]) (Zs 7 Yt) [.o (Zf zs i' k'),.f (mkT root XY),s2,.f (.str x),.f s,.o (.dct (Zo XY (.inr x) s')),s6,s7,s8,s9,rz,vz,X7,w9,X6] D:=fun raw hp=>tn_fin hd hM h mx e rfl (fun t i k s1 q ht=>rt _ _ ⟨t,i,k,ht,rfl⟩) raw hp;refine Zz (b:=(Zv pk (.inr x)).isSome) (fun z=>?_) fun z=>?_
 .rw[hi x s e]at z;have hs:qy ns s:=⟨raw,h.ok _ (Z5 e),z⟩;exact tn_pl hP hN h hm hx hs fun raw hp=>fin raw (.inl hp)
 .rw[hi x s e]at z;obtain⟨t,b,ps,us,rs,rfl,g⟩:=k8 h e z;have tg:=@tn_grp w zs i k ns (SRT.Z7 ns) root x t XY pk ⟨fun q=>wS w (Yk [.o (Zf zs i k),.f (mkT root XY)]) (Zs 7 Yt) q D,D.rt,D.bk,D.ct⟩ b ps rs us hd hQ h (fun raw=>fin raw (.inr z)) g hk gk hm hx wy w0 w1 (.o (.lst ((SRT.Z7 ns).map .str))) (.o (.dct pk)) (.inl rfl) (.inl rfl) i2 k2;rcases g.r with ⟨rb,rfl⟩ | ⟨rb,c,rfl⟩
  .exact tg
  .exact tg
def PNx(K:Kn):Prop:=∀{zs:ZT} {i k:Int} {t:T},Ek t->K [.o (Zf zs i k),.f t,.f (.int 3)] (tx zs Ek)
theorem sk{w:W}(hd:Vf w.C)(hT:PTn (cl w.C "_law_turned")):PNx (wF Jo w):=fun {zs i k t} ht=>by
 refine Zy rfl fun D rt _=>?_;refine Zl hd (by omega) (by omega) fun r i' k' h0 h1=>?_;refine rngP (by omega) (by omega) ?_;refine Cy (fun rest p=>∃i k t s3,p=[.o (Zf zs i k),.f t,.f (.int 3),s3]/\Ek t) ⟨_,_,_,_,rfl,ht⟩ (fun x rest p D' hi nx _=>?_) fun p hi=>?_
 .obtain⟨i,k,t,s3,rfl,ht⟩:=hi;refine Jp (hT ht) fun t i k ht=>?_;exact nx _ ⟨_,_,_,_,rfl,ht⟩
 .obtain⟨i,k,t,s3,rfl,ht⟩:=hi;exact rt _ _ ⟨t,_,_,ht,rfl⟩
end K62
set_option maxHeartbeats 1000000
namespace K62
open PySem PySem.Spec PyProof.Rows L2 PV
noncomputable def Ut(qs:ZZ)(n:Int):Bool:=qs.any fun q=>decide (Z1 q=n)
def Jr(us:ZT)(n:Int):Bool:=us.any fun z=>decide (z=n)
noncomputable def Vl(qs:ZZ)(us:ZT)(n:Int):Str:=if Ut qs n=true then "there" else if Jr us n=true then "struck" else "none"
noncomputable def Di(qs:ZZ)(p:T):Bool:=match Y6 qs (Z1 p) with
 | some q=>!decide (T2 q=T2 p)
 | none=>false
noncomputable def B8(ps qs:ZZ)(zs us:ZT)(c:Bool):T :=
 if (ps.any fun p=>decide (Vl qs us (Z1 p) = "none"))=true then .str "lost"
 else if (zs.any fun z=>!Jr us z)=true then .str "back"
 else if (ps.any (Di qs))=true then .str "turned"
 else if c=true then .str "shut" else .non
theorem Nv(n:Int):∀qs:ZZ,(Y6 qs n).isSome=Ut qs n
 | []=>rfl
 | q::qs=>by
  unfold Ut;rw[List.any_cons];by_cases h:Z1 q=n
  .rw[Nj h,Ma h];rfl
  .rw[Nw h,Cw h,Nv n qs];rfl
theorem C6{ns:ZG}{k:Bool}{qs:ZZ}{n:Int}(h:∀q∈qs,Gg ns k q):Jq .isnt ((Y6 qs n).getD .non) .non=some (Ut qs n):=by
 rw[<-Nv];cases e:Y6 qs n with
 | none=>rfl
 | some q=>cases h q (List.mem_of_find?_eq_some e) with | mk _ _ _ _=>rfl
theorem inZ{us:ZT}{n:Int}{Q:Sl->Prop}(q:Q (.f (.bl (Jr us n)))):on ((Jq .isin (.int n) (.tup (us.map .int))).map fun r=>Sl.f (.bl r)) Q:=Zm (by show (K5 (.int n) (.tup (us.map .int))).map _=_;rw[Oh];rfl) q
def PLf(K:Kn):Prop:=∀{ns:ZG} {t:Str} {b:Bool} {qs rs:ZZ} {us:ZT} {n:Int},Kd2 t b->Rst b rs->(∀q∈qs,Gg ns b q)->K [.f (shT t qs us rs),.f (.int n)] fun x=>x=(.f (.str (Vl qs us n)),[])
theorem pn{w:W}(hM:m8 (cl w.C "member_of")):PLf (wF Dn w):=fun {ns t b qs rs us n} kd hr hq=>by
 have e:∀z:Ut qs n=false,Vl qs us n=(if Jr us n=true then ("struck" : Str) else ("none" : Str)):=fun z=>by unfold Vl;rw[z];rfl
 have e1:∀z:Ut qs n=true,Vl qs us n = "there" := fun z=>if_pos z
 have go:∀{t:Str} {rs:ZZ} (D:En),(∀r p,on (fin [.f (shT t qs us rs),.f (.int n)] r p) (fun x=>x=(.f (.str (Vl qs us n)),[]))->D.rt r p)->(∀{Q:Sl->Prop},Q (.f (.tup (us.map .int)))->on ((T5 (shT t qs us rs) (.int 2)).map Sl.f) Q)->wS w (Yk [.f (shT t qs us rs),.f (.int n)]) (Zs 1 Lg) [.f (shT t qs us rs),.f (.int n)] D:=fun {t rs} D rt ix=>by
  refine Zg (hM hq) fun y ey=>?_;subst ey;refine Zm (a:=Sl.f (.bl (Ut qs n))) (by show (Jq _ _ _).map _=_;rw[C6 hq];rfl) ?_;refine Zz (b:=Ut qs n) (fun z=>rt _ _ (by rw[e1 z];rfl)) fun z=>?_;refine ix ?_;refine inZ ?_;refine Zz (b:=Jr us n) (fun y=>rt _ _ (by rw[e z,y];rfl)) fun y=>rt _ _ (by rw[e z,y];rfl)
 rcases kd with ⟨rfl,rfl⟩ | ⟨rfl,rfl⟩
 .rcases hr with ⟨_,rfl⟩ | ⟨z,_⟩
  .refine Zy rfl fun D rt _=>?_;exact go D rt fun q=>q
  .cases z
 .rcases hr with ⟨z,_⟩ | ⟨_,c,rfl⟩
  .cases z
  .refine Zy rfl fun D rt _=>?_;exact go D rt fun q=>q
def PTr(K:Kn):Prop:=∀{ns ns':ZG} {b b':Bool} {p:T} {qs:ZZ},Gg ns b p->(∀q∈qs,Gg ns' b' q)->K [.f p,.f ((Y6 qs (Z1 p)).getD .non)] fun x=>x=(.f (.bl (Di qs p)),[])
theorem Om{w:W}:PTr (wF Ui w):=fun {ns ns' b b' p qs} hp hq=>by
 cases e:Y6 qs (Z1 p) with
 | none =>
  refine Zy rfl fun D rt _=>?_;cases hp with | mk _ _ _ _ =>
  exact rt _ _ (by unfold Di;rw[e];rfl)
 | some q =>
  have et:Di qs p=!decide (T2 q=T2 p):=by unfold Di;rw[e]
  rw[et];cases hq q (List.mem_of_find?_eq_some e) with | mk _ _ _ hd' =>
  cases hp with | mk _ _ _ hd =>
  cases hd<;>cases hd'<;>(refine Zy rfl fun D rt _=>?_;exact rt _ _ rfl)
end K62
set_option maxHeartbeats 1000000
namespace K62
open PySem PySem.Spec PyProof.Rows L2 PV
noncomputable def zI(ts:ZZ):ZT:=ts.map fun t=>match t with
 | .int i=>i
 | _=>0
theorem Va(zs:ZT):zI (zs.map .int)=zs:=by
 unfold zI;rw[List.map_map];exact(List.map_congr_left fun _ _=>rfl).trans (List.map_id zs)
noncomputable def tag:T->Str
 | .tup (.str t::_)=>t
 | _ => ""
noncomputable def qc(s s':T):T:=if tag s'=tag s then (match s,s' with
 | .tup [_,.tup ps,.tup zs],.tup [_,.tup qs,.tup us]=>B8 ps qs (zI zs) (zI us) false
 | .tup [_,.tup ps,.tup zs,.bl b],.tup [_,.tup qs,.tup us,.bl b']=>B8 ps qs (zI zs) (zI us) (b && !b')
 | _,_=>.non) else .str "form"
def PBw(K:Kn):Prop:=∀{ns ns':ZG} {s s':T},Raw ns s->(s'=.non\/Raw ns' s')->K [.f s,.f s'] fun x=>x=(.f (qc s s'),[])
theorem Kq{us:ZT}{n:Int}{Q:Sl->Prop}(q:Q (.f (.bl (!Jr us n)))):on ((Jq .notin (.int n) (.tup (us.map .int))).map fun r=>Sl.f (.bl r)) Q:=sx q
theorem b8{w:W}(hM:m8 (cl w.C "member_of"))(hL:PLf (cl w.C "life_in"))(hT:PTr (cl w.C "is_turned")):PBw (wF Ye w):=fun {ns ns' s s'} h h'=>by
 refine Zy rfl fun D rt _=>?_;rcases h' with rfl | h'
 .cases h<;>exact rt _ _ rfl
 cases h with
 | @record ps zs hp hz =>
  cases h' with
  | @record qs us hq hu =>
   have ev:qc (Gs ps zs) (Gs qs us)=B8 ps qs zs us false:=by
    show B8 ps qs (zI _) (zI _) false=_;rw[Va,Va]
   refine Zi (fun p=>.bl (decide (Vl qs us (Z1 p) = "none"))) (fun p=>∃s0,p=[s0,.f (Gs qs us)]) ⟨_,rfl⟩ (fun t mt p K hs hk=>?_) fun p hs=>?_
   .obtain⟨s0,rfl⟩:=hs;cases hp.p t mt with | mk hn hx ho hd =>
    refine Ud ?_;refine Zg (hL (.inl ⟨rfl,rfl⟩) (.inl ⟨rfl,rfl⟩) hq.p) fun y ey=>?_;subst ey;exact hk _ ⟨_,rfl⟩
   obtain⟨s0,rfl⟩:=hs;refine H6 ?_;refine Zz (b:=ps.any fun p=>decide (Vl qs us (Z1 p) = "none")) (fun z=>rt _ _ (by rw[ev];unfold B8;rw[if_pos z];rfl)) fun z1=>?_;refine Zi (fun t=>.bl (!Jr us (match t with | .int i=>i | _=>0))) (fun p=>∃s0,p=[s0,.f (Gs qs us)]) ⟨_,rfl⟩ (fun t mt p K hs hk=>?_) fun p hs=>?_
   .obtain⟨s0,rfl⟩:=hs;obtain⟨z,_,rfl⟩:=Gf.mp mt;refine Kq ?_;exact hk _ ⟨_,rfl⟩
   obtain⟨s0,rfl⟩:=hs;refine H6 ?_;rw[List.any_map];refine Zz (b:=zs.any fun z=>!Jr us z) (fun z=>rt _ _ (by rw[ev];unfold B8;rw[z1,z];rfl)) fun z2=>?_;refine Zi (fun p=>.bl (Di qs p)) (fun p=>∃s0,p=[s0,.f (Gs qs us)]) ⟨_,rfl⟩ (fun t mt p K hs hk=>?_) fun p hs=>?_
   .obtain⟨s0,rfl⟩:=hs;have ht:=hp.p t mt;have Ew:=hk [.f t,.f (Gs qs us)] ⟨_,rfl⟩;cases ht with | mk hn hx ho hd =>
    refine Ud ?_;refine Zg (hM hq.p) fun y ey=>?_;subst ey;refine Zg (hT (hp.p _ mt) hq.p) fun y ey=>?_;subst ey;exact Ew
   obtain⟨s0,rfl⟩:=hs;refine H6 ?_;refine Zz (b:=ps.any (Di qs)) (fun z=>rt _ _ (by rw[ev];unfold B8;rw[z1,z2,z];rfl)) fun z3=>rt _ _ (by rw[ev];unfold B8;rw[z1,z2,z3];rfl)
  | _=>exact rt _ _ rfl
 | @choice ps zs b hp hz =>
  cases h' with
  | @choice qs us c hq hu =>
   have ev:qc (Tc ps zs b) (Tc qs us c)=B8 ps qs zs us (b && !c):=by
    show B8 ps qs (zI _) (zI _) (b && !c)=_;rw[Va,Va]
   refine Zi (fun p=>.bl (decide (Vl qs us (Z1 p) = "none"))) (fun p=>∃s0,p=[s0,.f (Tc qs us c)]) ⟨_,rfl⟩ (fun t mt p K hs hk=>?_) fun p hs=>?_
   .obtain⟨s0,rfl⟩:=hs;cases hp.p t mt with | mk hn hx ho hd =>
    refine Ud ?_;refine Zg (hL (.inr ⟨rfl,rfl⟩) (.inr ⟨rfl,c,rfl⟩) hq.p) fun y ey=>?_;subst ey;exact hk _ ⟨_,rfl⟩
   obtain⟨s0,rfl⟩:=hs;refine H6 ?_;refine Zz (b:=ps.any fun p=>decide (Vl qs us (Z1 p) = "none")) (fun z=>rt _ _ (by rw[ev];unfold B8;rw[if_pos z];rfl)) fun z1=>?_;refine Zi (fun t=>.bl (!Jr us (match t with | .int i=>i | _=>0))) (fun p=>∃s0,p=[s0,.f (Tc qs us c)]) ⟨_,rfl⟩ (fun t mt p K hs hk=>?_) fun p hs=>?_
   .obtain⟨s0,rfl⟩:=hs;obtain⟨z,_,rfl⟩:=Gf.mp mt;refine Kq ?_;exact hk _ ⟨_,rfl⟩
   obtain⟨s0,rfl⟩:=hs;refine H6 ?_;rw[List.any_map];refine Zz (b:=zs.any fun z=>!Jr us z) (fun z=>rt _ _ (by rw[ev];unfold B8;rw[z1,z];rfl)) fun z2=>?_;refine Zi (fun p=>.bl (Di qs p)) (fun p=>∃s0,p=[s0,.f (Tc qs us c)]) ⟨_,rfl⟩ (fun t mt p K hs hk=>?_) fun p hs=>?_
   .obtain⟨s0,rfl⟩:=hs;have ht:=hp.p t mt;have Ew:=hk [.f t,.f (Tc qs us c)] ⟨_,rfl⟩;cases ht with | mk hn hx ho hd =>
    refine Ud ?_;refine Zg (hM hq.p) fun y ey=>?_;subst ey;refine Zg (hT (hp.p _ mt) hq.p) fun y ey=>?_;subst ey;exact Ew
   obtain⟨s0,rfl⟩:=hs;refine H6 ?_;refine Zz (b:=ps.any (Di qs)) (fun z=>rt _ _ (by rw[ev];unfold B8;rw[z1,z2,z];rfl)) fun z3=>?_;have ev':qc (Tc ps zs b) (Tc qs us c)=if (b && !c)=true then .str "shut" else .non:=by rw[ev];unfold B8;rw[z1,z2,z3];rfl
   rw[ev']at rt;cases b<;>cases c<;>exact rt _ _ rfl
  | _=>exact rt _ _ rfl
 | _=>cases h'<;>exact rt _ _ rfl
end K62
set_option maxHeartbeats 1000000
namespace K62
open PySem PySem.Spec PyProof.Rows L2 PV
def iz(K:Kn):Prop:=∀{root x:Str} {XY:ZX},K [.f (mkT root XY),.f (.str x)] fun y=>y=(.f ((Zv XY (.inr x)).getD .non),[])
theorem gv{w:W}:iz (wF Uj w):=fun {root x XY}=>by
 refine Zy rfl fun D rt _=>?_;exact rt _ _ rfl
def It:T->Bool
 | .non=>true
 | _=>false
def Tf:ZZ->T
 | []=>.non
 | t::r=>if It t=true then Tf r else t
noncomputable def fw(XY Zp:ZX)(x:Str):T:=qc ((Zv XY (.inr x)).getD .non) ((Zv Zp (.inr x)).getD .non)
theorem Xv(ps qs:ZZ)(zs us:ZT)(c:Bool):Wrd (B8 ps qs zs us c):=by
 unfold B8
 split
 .exact .inr ⟨_,rfl⟩
 split
 .exact .inr ⟨_,rfl⟩
 split
 .exact .inr ⟨_,rfl⟩
 split
 .exact .inr ⟨_,rfl⟩
 .exact .inl rfl
theorem Qs(s s':T):Wrd (qc s s'):=by
 unfold qc
 split
 .split
  .exact Xv _ _ _ _ _
  .exact Xv _ _ _ _ _
  .exact .inl rfl
 .exact .inr ⟨_,rfl⟩
noncomputable def flw(ns:ZG)(r r':Str)(XY Zp:ZX):T:=if r=r' then Tf ((SRT.Z7 ns).map (fw XY Zp)) else .str "root"
def PCf(K:Kn):Prop:=∀{ns ns':ZG} {r r':Str} {XY Zp:ZX},Mk ns r XY->Mk ns' r' Zp->K [.f (mkT r XY),.f (mkT r' Zp)] fun x=>x=(.f (flw ns r r' XY Zp),[])
theorem xj{w:W}(hF:iz (cl w.C "form_of"))(hB:PBw (cl w.C "break_between")):PCf (wF Yi w):=fun {ns ns' r r' XY Zp} h h'=>by
 refine Zy rfl fun D rt _=>?_;have l6:=h.l;have pm:=SRT.Z4 ns;refine Zz (b:=!decide (r=r')) (fun z=>rt _ _ (by unfold flw;rw[if_neg (of_decide_eq_false (yj z))];rfl)) fun z=>?_;have er:flw ns r r' XY Zp=Tf ((SRT.Z7 ns).map (fw XY Zp)):=if_pos (R6 (Oz z));rw[er]at rt;refine Me h.raw.k (by omega) ?_;refine Cy (fun rest p=>∃(s2 s3:Sl) (ss:ZG),p=[.f (mkT r XY),.f (mkT r' Zp),s2,s3]/\rest=ss.map T.str/\(∀x∈ss,x∈ns)/\Tf ((SRT.Z7 ns).map (fw XY Zp))=Tf (ss.map (fw XY Zp))) ⟨_,_,SRT.Z7 ns,rfl,rfl,fun x m=>pm.mem_iff.mp m,rfl⟩ (fun x rest p D' hi nx rt'=>?_) fun p hi=>?_
 .obtain⟨s2,s3,ss,rfl,e,hs,hf⟩:=hi;cases ss with
  | nil=>cases e
  | cons y ss =>
  cases e;refine Zg hF fun u eu=>?_;subst eu;refine Zg hF fun u eu=>?_;subst eu;obtain⟨s,es,raw⟩:=h.raw.get (hs y Yn)
  have Wk:(Zv Zp (.inr y)).getD .non=.non\/Raw ns' ((Zv Zp (.inr y)).getD .non):=by
   cases e:Zv Zp (.inr y) with
   | none=>exact .inl rfl
   | some s'=>exact .inr (h'.raw.r _ (Z5 e))
  refine Zg (hB (ns:=ns) (ns':=ns') (by rw[es];exact raw) Wk) fun u eu=>?_;subst eu;have hf:Tf ((SRT.Z7 ns).map (fw XY Zp))=if It (fw XY Zp y)=true then Tf (ss.map (fw XY Zp)) else fw XY Zp y:=hf
  have wd:Wrd (fw XY Zp y):=Qs _ _;show wS w _ _ [.f (mkT r XY),.f (mkT r' Zp),.f (.str y),.f (fw XY Zp y)] _;generalize fw XY Zp y=t at hf wd;rcases wd with rfl | ⟨x,rfl⟩
  .exact nx _ ⟨_,_,ss,rfl,rfl,fun x m=>hs x (Vk _ m),hf⟩
  .exact rt' _ _ (rt _ _ (by rw[hf];rfl))
 .obtain⟨s2,s3,ss,rfl,e,hs,hf⟩:=hi;cases ss with
  | nil=>exact rt _ _ (by rw[hf];rfl)
  | cons y ss=>cases e
end K62
set_option maxHeartbeats 1000000
namespace K62
open PySem PySem.Spec PyProof.Rows L2 PV
def PIf(K:Kn):Prop:=∀{root x:Str} {XY:ZX},x.length<=sizeLine->K [.f (mkT root XY),.f (.str x)] (Tl ((Zv XY (.inr x)).isSome=true))
theorem zu{w:W}(hM:B9 (cl w.C "is_name")):PIf (wF Uq w):=fun {root x XY} hx=>by
 refine Zy rfl fun D rt _=>?_;refine Yc (hM hx) fun b _=>?_;refine Zz (b:=b) (fun _=>?_) fun _=>rt _ _ .no;exact rt _ _ ⟨_,fun z=>z,rfl⟩
theorem wCompT{body:T->P->(Option T->P->Prop)->Prop}{xs:ZZ}{p:P}{Q:ZZ->P->Prop}(St:P->Prop)(h0:St p)
  (st:∀x∈xs,∀p K,St p->(∀(b:Bool) p',St p'->K (some (.bl b)) p')->body x p K) (q:∀(bs:List Bool) p,St p->Q (bs.map .bl) p):Z6 body xs [] p Q :=
 Mj (fun _=>True) St h0 (fun x m p K hs hk=>st x m p K hs fun b p' Tg=>hk b p' (fun _=>trivial) Tg) fun bs p _ hs=>q bs p hs
theorem anyQ{bs:List Bool}{Q:Sl->Prop}(q:Q (.f (.bl (bs.any id)))):on ((allB (bs.map .bl)).map fun bs=>Sl.f (.bl (bs.any id))) Q:=Zm (by rw[Qi];rfl) q
def PBs(K:Kn):Prop:=∀{ns:ZG} {t x:Str} {b:Bool} {ps r:ZZ} {n:Int},(∀p∈ps,Gg ns b p)->K [.f (.tup (.str t::.tup ps::r)),.f (.int n),.f (.str x)] (Tl True)
theorem qz{w:W}:PBs (wF Yd w):=fun {ns t x b ps r n} hp=>by
 refine Zy rfl fun D rt _=>?_;refine Bg ?_;refine wCompT (fun p=>∃s0,p=[s0,.f (.str x),.f (.int n)]) ⟨_,rfl⟩ (fun u mu p K hs hk=>?_) fun bs p hs=>?_
 .obtain⟨s0,rfl⟩:=hs;cases hp u mu with | @mk m y o ds _ _ _ hd =>
  refine Bg ?_;refine Zz (b:=decide (y=x)) (fun _=>?_) fun _=>hk false _ ⟨_,rfl⟩;refine Ud ?_;exact hk _ _ ⟨_,rfl⟩
 obtain⟨s0,rfl⟩:=hs;refine anyQ ?_;exact rt _ _ ⟨_,fun _=>trivial,rfl⟩
def PNw(K:Kn):Prop:=∀{ns ns':ZG} {s s':T},Raw ns s->Raw ns' s'->T1 s=true->tag s ≠ "truth" -> K [.f s,.f s'] (Tl True)
theorem Oj{w:W}:PNw (wF Vn w):=fun {ns ns' s s'} h h' hp ht=>by
 refine Zy rfl fun D rt _=>?_;cases h with
 | record _ _=>cases hp
 | choice _ _=>cases hp
 | truth=>exact absurd rfl ht
 | @whole a b=>cases h' with
  | @whole c d=>exact Zz (b:=decide (a<c)) (fun _=>rt _ _ ⟨_,fun _=>trivial,rfl⟩) fun _=>rt _ _ ⟨_,fun _=>trivial,rfl⟩
  | _=>exact rt _ _ ⟨_,fun _=>trivial,rfl⟩
 | text=>cases h'<;>exact rt _ _ ⟨_,fun _=>trivial,rfl⟩
 | @row o n _=>cases h' with
  | @row u m _=>exact Zz (b:=!decide (u=o)) (fun _=>rt _ _ ⟨_,fun _=>trivial,rfl⟩) fun _=>rt _ _ ⟨_,fun _=>trivial,rfl⟩
  | _=>exact rt _ _ ⟨_,fun _=>trivial,rfl⟩
 | @map o n _=>cases h' with
  | @map u m _=>exact Zz (b:=!decide (u=o)) (fun _=>rt _ _ ⟨_,fun _=>trivial,rfl⟩) fun _=>rt _ _ ⟨_,fun _=>trivial,rfl⟩
  | _=>exact rt _ _ ⟨_,fun _=>trivial,rfl⟩
end K62
set_option maxHeartbeats 1000000
namespace K62
open PySem PySem.Spec PyProof.Rows L2 PV
noncomputable def B7(ps:ZZ):ZX:=ps.map fun p=>(.inl (Z1 p),.str (T2 p))
theorem rh{k:Key}{v:T}:∀{acc:ZX},(∀p∈acc,p.1≠k)->Zo acc k v=acc++[(k,v)]:=fun {acc} h=>by
 unfold Zo;rw[if_neg];rw[ZO];rintro⟨p,m,e⟩;exact h p m (R6 e)
theorem O1:∀{xs acc:ZX},((acc++xs).map (·.1)).Nodup->xs.foldl (fun acc kv=>Zo acc kv.1 kv.2) acc=acc++xs
 | [],acc,_=>by rw[ZE];rfl
 | (k,v)::xs,acc,h=>by
  have e:acc++(k,v)::xs=(acc++[(k,v)])++xs:=by simp
  rw[e]at h ⊢;rw[List.foldl_cons];rw[rh fun p m z=>?_]
  .exact O1 h
  .rw[Q9,Q9,List.nodup_append]at h;have:=(List.nodup_append.mp h.1).2.2 p.1 (List.mem_map_of_mem m) k (by simp);exact this z
theorem W7:∀ps:ZZ,Gi (ps.map fun p=>.tup [.int (Z1 p),.str (T2 p)])=some (B7 ps)
 | []=>rfl
 | p::ps=>by
  show (Gi (ps.map fun p=>.tup [.int (Z1 p),.str (T2 p)])).map ((.inl (Z1 p),.str (T2 p))::·)=_;rw[W7 ps];rfl
theorem dOf_nd{ps:ZZ}(h:(ps.map Z1).Nodup):((B7 ps).map (·.1)).Nodup:=by
 have e:(B7 ps).map (·.1)=(ps.map Z1).map Sum.inl:=by unfold B7;rw[List.map_map,List.map_map];rfl
 rw[e];exact List.pairwise_map.mpr (h.imp fun hne z=>hne (Sum.inl.inj z))
theorem dctP{ps:ZZ}{Q:Sl->Prop}(h:(ps.map Z1).Nodup)(q:Q (.o (.dct (B7 ps)))):on (ve [.lst (ps.map fun p=>.tup [.int (Z1 p),.str (T2 p)])]) Q:=by
 refine Zm ?_ q;show (Gi _).map _=_;rw[W7];show some (Sl.o (.dct ((B7 ps).foldl _ [])))=_;exact congrArg (fun k=>some (Sl.o (T.dct k))) ((O1 (xs:=B7 ps) (acc:=[]) (dOf_nd h)).trans (List.nil_append _))
theorem F6(n:Int):∀ps:ZZ,Zv (B7 ps) (.inl n)=(Y6 ps n).map fun q=>.str (T2 q)
 | []=>rfl
 | p::ps=>by
  by_cases h:Z1 p=n
  .rw[Nj h];unfold Zv B7;rw[S9,List.find?_cons_of_pos (by simpa using h)];rfl
  .rw[Nw h, <-F6 n ps];unfold Zv B7;rw[S9,List.find?_cons_of_neg (by simpa using h)]
theorem Lw{p:T}:∀{ps:ZZ},(ps.map Z1).Nodup->p∈ps->Y6 ps (Z1 p)=some p
 | [],_,m=>absurd m Tz
 | q::ps,h,m=>by
  rw[S9,List.nodup_cons]at h;rcases Vv.mp m with rfl | m
  .exact Nj rfl
  .rw[Nw fun e=>h.1 (by rw[e];exact List.mem_map_of_mem m)];exact Lw h.2 m
noncomputable def pick{j:Type}(c:j->Bool)(f:j->T)(a:j):Option T:=if c a=true then some (f a) else none
theorem Uy{j:Type}{c:j->Bool}{f:j->T}:∀xs:List j,decide ((0:Int)<((xs.filterMap (pick c f)).length:Nat))=xs.any c
 | []=>rfl
 | x::xs=>by
  rw[List.any_cons];cases h:c x with
  | true =>
   rw[List.filterMap_cons_some (b:=f x) (by unfold pick;rw[h];rfl)];exact Ma (by rw[Jk];omega)
  | false=>rw[List.filterMap_cons_none (by unfold pick;rw[h];rfl),Uy xs];rfl
theorem Bz{body:T->P->(Option T->P->Prop)->Prop}{j:Type}{f:j->T}{xs:List j}{p:P}{Q:ZZ->P->Prop}(c:j->Bool)(St:P->Prop)(h0:St p)(st:∀a∈xs,∀p K,St p->(∀p',St p'->K (pick c f a) p')->body (f a) p K)(q:∀p,St p->Q (xs.filterMap (pick c f)) p):Z6 body (xs.map f) [] p Q:=by
 refine Bx (fun rest acc p=>∃ys zs,xs=ys++zs/\rest=zs.map f/\acc=ys.filterMap (pick c f)/\St p) ⟨[],xs,rfl,rfl,rfl,h0⟩ (fun x r acc p K hi hk hn=>?_) fun acc p hi=>?_
 .obtain⟨ys,zs,e1,e2,rfl,hs⟩:=hi;cases zs with
  | nil=>cases e2
  | cons a zs =>
   cases e2;refine st a (by rw[e1];simp) p K hs fun p' Tg=>?_;have e3:xs=(ys++[a])++zs:=by rw[e1];simp
   have e4:(ys++[a]).filterMap (pick c f)=ys.filterMap (pick c f)++[a].filterMap (pick c f):=List.filterMap_append;cases h:c a with
   | true =>
    have e5:pick c f a=some (f a):=by unfold pick;rw[h];rfl
    rw[e5];exact hk _ _ ⟨ys++[a],zs,e3,rfl,by rw[e4,List.filterMap_cons_some (b:=f a) e5];rfl,Tg⟩
   | false =>
    have e5:pick c f a=none:=by unfold pick;rw[h];rfl
    rw[e5];exact hn _ ⟨ys++[a],zs,e3,rfl,by rw[e4,List.filterMap_cons_none e5];simp,Tg⟩
 .obtain⟨ys,zs,e1,e2,rfl,hs⟩:=hi;cases zs with
  | nil=>rw[ZE]at e1;subst e1;exact q p hs
  | cons _ _=>cases e2
theorem Pk{w:W}{ns:ZG}{k:Bool}{ps:ZZ}(hp:∀p∈ps,Gg ns k p){Q:ZZ->P->Prop}(q:∀s0,Q (ps.map fun p=>.tup [.int (Z1 p),.str (T2 p)]) [s0]) :
  Z6 (fun x s K=>on (asg (.v 0) x s) fun s1=>if isNil .nil=true then wE w.nx (.tup (Zj (Zw (.v 0) (ki 0)) (Zw (.v 0) (ki 2)))) s1 fun r s2=>Mu r fun y=>K (some y) s2
   else wE w.nx .nil s1 fun r s2=>Fj r fun b=>if b=true then wE w.nx (.tup (Zj (Zw (.v 0) (ki 0)) (Zw (.v 0) (ki 2)))) s2 fun r s3=>Mu r fun y=>K (some y) s3 else K none s2) ps [] [.no] Q:=by
 refine Zi (fun p=>.tup [.int (Z1 p),.str (T2 p)]) (fun p=>∃s0,p=[s0]) ⟨_,rfl⟩ (fun t mt p K hs hk=>?_) fun p hs=>?_
 .obtain⟨s0,rfl⟩:=hs;cases hp t mt with | mk hn hx ho hd =>
  cases hd<;>exact hk _ ⟨_,rfl⟩
 .obtain⟨s0,rfl⟩:=hs;exact q s0
theorem zf(qs:ZZ)(us:ZT)(n:Int):decide (Vl qs us n = "none")=!(Ut qs n || Jr us n):=by
 unfold Vl;cases Ut qs n<;>cases Jr us n<;>decide +kernel
def PFw(K:Kn):Prop:=∀{ns ns':ZG} {s s':T},Raw ns s->N6 s->(s'=.non\/(Raw ns' s'/\N6 s'))->K [.f s,.f s'] fun x=>x=(.f (qc s s'),[])
theorem y0(ps:ZZ):(B7 ps).map (fun p=>Jd p.1)=(ps.map Z1).map .int:=by unfold B7;rw[List.map_map,List.map_map];rfl
theorem any_hd(qs:ZZ)(us:ZT)(n:Int):(qs.map Z1++us).any (fun z=>decide (z=n))=(Ut qs n || Jr us n):=by rw[List.any_append,List.any_map];rfl
end K62
set_option maxHeartbeats 1000000
namespace K62
open PySem PySem.Spec PyProof.Rows L2 PV
theorem jm{body:T->P->(Option T->P->Prop)->Prop}{xs ys:ZZ}{p:P}{Q:ZZ->P->Prop}(e:xs=ys)(h:Z6 body ys [] p Q):Z6 body xs [] p Q:=by rw[e];exact h
theorem E9{j:Type}{c:j->Bool}{f:j->T}{a:j}(h:c a=false):pick c f a=none:=if_neg (by rw[h];exact fun z=>nomatch z)
theorem e9(ps:ZZ):(B7 ps).map (fun p=>Jd p.1)=ps.map fun p=>.int (Z1 p):=by unfold B7;rw[List.map_map];rfl
theorem yx{qs:ZZ}{us:ZT}{n:Int}{Q:Sl->Prop}(q:Q (.f (.bl (decide (Vl qs us n = "none"))))):on ((Jq .notin (.int n) (.lst ((B7 qs).map (fun p=>Jd p.1)++us.map .int))).map fun r=>Sl.f (.bl r)) Q:=by
 rw[y0, <-Q9];refine notinP ?_;rw[any_hd, <-zf];exact q
theorem ne_tr{p:T}{qs:ZZ}{Q:Sl->Prop}(q:Q (.f (.bl (Di qs p)))):on ((Jq .ne ((Zv (B7 qs) (.inl (Z1 p))).getD (.str (T2 p))) (.str (T2 p))).map fun r=>Sl.f (.bl r)) Q:=by
 refine Zm (a:=Sl.f (.bl (Di qs p))) ?_ q;rw[F6];unfold Di;cases Y6 qs (Z1 p) with
 | none =>
  show some (Sl.f (.bl (!decide (T2 p=T2 p))))=_;rw[Ma rfl];rfl
 | some r=>rfl
section
variable{w:W}{D:En}{ns ns':ZG}{t:Str}{b b':Bool}{ps qs rs rs':ZZ}{zs us:ZT}{c:Bool}
theorem Zzn(hp:∀p∈ps,Gg ns b p)(hq:∀q∈qs,Gg ns' b' q)(m:Mem ps zs)(m':Mem qs us)(i2:∀{Q:Sl->Prop},Q (.f (.tup (zs.map .int)))->on ((T5 (shT t ps zs rs) (.int 2)).map Sl.f) Q)(i2':∀{Q:Sl->Prop},Q (.f (.tup (us.map .int)))->on ((T5 (shT t qs us rs') (.int 2)).map Sl.f) Q)
  (rt:∀r p,on (fin [.f (shT t ps zs rs),.f (shT t qs us rs')] r p) (fun x=>x=(.f (B8 ps qs zs us c),[]))->D.rt r p) (fi:∀s2 s3,B8 ps qs zs us c=(if c=true then .str "shut" else .non)->wS w (Yk [.f (shT t ps zs rs),.f (shT t qs us rs')]) (Zs 7 V0) [.f (shT t ps zs rs),.f (shT t qs us rs'),s2,s3] D):wS w (Yk [.f (shT t ps zs rs),.f (shT t qs us rs')]) (Zs 2 V0) [.f (shT t ps zs rs),.f (shT t qs us rs'),.no,.no] D:=by
 have:=sizeLine_eq;have l1:=m.l;have l2:=m'.l;have l3:=m'.sl;refine Bg ?_;refine Pk hp fun s0=>?_;refine dctP m.d ?_;refine Bg ?_;refine Pk hq fun s0=>?_;refine dctP m'.d ?_;refine jm (e9 ps) ?_;refine Bz (f:=fun p=>.int (Z1 p)) (xs:=ps) (fun p=>decide (Vl qs us (Z1 p) = "none")) (fun p=>∃s0,p=[s0,.o (.dct (B7 qs)),.f (shT t qs us rs')]) ⟨_,rfl⟩ (fun a ma p K hs hk=>?_) fun p hs=>?_
 .obtain⟨s0,rfl⟩:=hs;refine i2' ?_;refine Ld (by rw[Zu,Zu];unfold B7;rw[Zu];omega) ?_;refine yx ?_;have hk:=hk [.f (.int (Z1 a)),.o (.dct (B7 qs)),.f (shT t qs us rs')] ⟨_,rfl⟩;refine Zz (b:=decide (Vl qs us (Z1 a) = "none")) (fun z=>?_) fun z=>?_
  .rw[show pick (fun p=>decide (Vl qs us (Z1 p) = "none")) (fun p=>T.int (Z1 p)) a=some (.int (Z1 a)) from if_pos z]at hk;exact hk
  .rw[show pick (fun p=>decide (Vl qs us (Z1 p) = "none")) (fun p=>T.int (Z1 p)) a=none from E9 z]at hk;exact hk
 obtain⟨s0,rfl⟩:=hs;refine Zz (b:=decide ((0:Int)<_)) (fun z=>?_) fun z1=>?_
 .rw[Uy]at z;exact rt _ _ (by unfold B8;rw[if_pos z];rfl)
 rw[Uy]at z1;refine i2 ?_;refine Bz (f:=T.int) (xs:=zs) (fun z=>!Jr us z) (fun p=>∃s0,p=[s0,.f (shT t qs us rs')]) ⟨_,rfl⟩ (fun a ma p K hs hk=>?_) fun p hs=>?_
 .obtain⟨s0,rfl⟩:=hs;refine i2' ?_;refine Kq ?_;have hk:=hk [.f (.int a),.f (shT t qs us rs')] ⟨_,rfl⟩;refine Zz (b:=!Jr us a) (fun z=>?_) fun z=>?_
  .rw[show pick (fun z=>!Jr us z) T.int a=some (.int a) from if_pos z]at hk;exact hk
  .rw[show pick (fun z=>!Jr us z) T.int a=none from E9 z]at hk;exact hk
 obtain⟨s0,rfl⟩:=hs;refine Zz (b:=decide ((0:Int)<_)) (fun z=>?_) fun z2=>?_
 .rw[Uy]at z;exact rt _ _ (by unfold B8;rw[z1,z];rfl)
 rw[Uy]at z2;refine jm (e9 ps) ?_;refine Bz (f:=fun p=>.int (Z1 p)) (xs:=ps) (Di qs) (fun p=>∃s0,p=[s0,.f (.dct (B7 ps)),.o (.dct (B7 qs))]) ⟨_,rfl⟩ (fun a ma p K hs hk=>?_) fun p hs=>?_
 .obtain⟨s0,rfl⟩:=hs;have e:Zv (B7 ps) (.inl (Z1 a))=some (.str (T2 a)):=by rw[F6,Lw m.d ma];rfl
  refine Zm (a:=Sl.f (.str (T2 a))) (by show (Zv (B7 ps) (.inl (Z1 a))).map _=_;rw[e];rfl) ?_;refine Zm (a:=Sl.f (.str (T2 a))) (by show (Zv (B7 ps) (.inl (Z1 a))).map _=_;rw[e];rfl) ?_;refine ne_tr ?_;have hk:=hk [.f (.int (Z1 a)),.f (.dct (B7 ps)),.o (.dct (B7 qs))] ⟨_,rfl⟩;refine Zz (b:=Di qs a) (fun z=>?_) fun z=>?_
  .rw[show pick (Di qs) (fun p=>T.int (Z1 p)) a=some (.int (Z1 a)) from if_pos z]at hk;exact hk
  .rw[show pick (Di qs) (fun p=>T.int (Z1 p)) a=none from E9 z]at hk;exact hk
 obtain⟨s0,rfl⟩:=hs;refine Zz (b:=decide ((0:Int)<_)) (fun z=>?_) fun z3=>?_
 .rw[Uy]at z;exact rt _ _ (by unfold B8;rw[z1,z2,z];rfl)
 rw[Uy]at z3;exact fi _ _ (by unfold B8;rw[z1,z2,z3];rfl)
end
theorem N6.mem{ps:ZZ}{zs:ZT}(h:N6 (Gs ps zs)):Mem ps zs:=by
 obtain⟨s,e⟩:∃s,s=Gs ps zs:=⟨_,rfl⟩;rw[<-e]at h;cases h with
 | @record qs us hm =>
  injection e with e;injection e with _ e;injection e with e1 e;injection e1 with e1;injection e with e2 _;injection e2 with e2
  have:us=zs:=by
   have:=congrArg zI e2;rw[Va,Va]at this;exact this
  subst e1 this;exact hm
 | _=>cases e
theorem N6.memC{ps:ZZ}{zs:ZT}{b:Bool}(h:N6 (Tc ps zs b)):Mem ps zs:=by
 obtain⟨s,e⟩:∃s,s=Tc ps zs b:=⟨_,rfl⟩;rw[<-e]at h;cases h with
 | @choice qs us c hm =>
  injection e with e;injection e with _ e;injection e with e1 e;injection e1 with e1;injection e with e2 _;injection e2 with e2
  have:us=zs:=by
   have:=congrArg zI e2;rw[Va,Va]at this;exact this
  subst e1 this;exact hm
 | _=>cases e
theorem gq{w:W}:PFw (wF Yu w):=fun {ns ns' s s'} h ok h'=>by
 refine Zy rfl fun D rt _=>?_;rcases h' with rfl | ⟨h',ok'⟩
 .cases h<;>exact rt _ _ rfl
 cases h with
 | @record ps zs hp hz =>
  cases h' with
  | @record qs us hq hu =>
   have ev:qc (Gs ps zs) (Gs qs us)=B8 ps qs zs us false:=by
    show B8 ps qs (zI _) (zI _) false=_;rw[Va,Va]
   rw[ev]at rt;exact Zzn (t:="record") (rs:=[]) (rs':=[]) (c:=false) hp.p hq.p ok.mem ok'.mem (fun q=>q) (fun q=>q) rt fun s2 s3 e=>rt _ _ (by rw[e];rfl)
  | _=>exact rt _ _ rfl
 | @choice ps zs b hp hz =>
  cases h' with
  | @choice qs us c hq hu =>
   have ev:qc (Tc ps zs b) (Tc qs us c)=B8 ps qs zs us (b && !c):=by
    show B8 ps qs (zI _) (zI _) (b && !c)=_;rw[Va,Va]
   rw[ev]at rt;refine Zzn (t:="choice") (rs:=[.bl b]) (rs':=[.bl c]) (c:=b && !c) hp.p hq.p ok.memC ok'.memC (fun q=>q) (fun q=>q) rt fun s2 s3 e=>?_;rw[e]at rt;cases b<;>cases c<;>exact rt _ _ rfl
  | _=>exact rt _ _ rfl
 | _=>cases h'<;>exact rt _ _ rfl
end K62
set_option maxHeartbeats 1000000
namespace K62
open PySem PySem.Spec PyProof.Rows L2 PV
def tl(t:T):Option T:=if It t=true then none else some t
theorem Ii:∀xs:ZZ,(∀t∈xs,Wrd t)->Tf xs=((xs.filterMap tl).head?).getD .non
 | [],_=>rfl
 | t::r,h=>by
  rcases h t Yn with rfl | ⟨x,rfl⟩
  .exact Ii r fun u m=>h u (Vk _ m)
  .rfl
noncomputable def fwT(XY Zp:ZX):T->T
 | .str x=>fw XY Zp x
 | _=>.non
theorem gt0{t:T}{r:ZZ}:decide ((0:Int)<((t::r).length:Nat))=true:=Ma (by rw[Jk];omega)
theorem Kl{w:W}(hW:PFw (cl w.C "_law_form_word")):PCf (wF Yw w):=fun {ns ns' r r' XY Zp} h h'=>by
 refine Zy rfl fun D rt _=>?_;have l6:=h.l;have pm:=SRT.Z4 ns;refine Zz (b:=!decide (r=r')) (fun z=>rt _ _ (by unfold flw;rw[if_neg (of_decide_eq_false (yj z))];rfl)) fun z=>?_;have er:flw ns r r' XY Zp=Tf ((SRT.Z7 ns).map (fw XY Zp)):=if_pos (R6 (Oz z));rw[er]at rt;refine Me h.raw.k (by omega) ?_;refine Zi (fwT XY Zp) (fun p=>∃s0,p=[s0,.f (mkT r XY),.f (mkT r' Zp)]) ⟨_,rfl⟩ (fun t mt p K hs hk=>?_) fun p hs=>?_
 .obtain⟨s0,rfl⟩:=hs;obtain⟨y,my,rfl⟩:=Gf.mp mt;obtain⟨s,es,raw⟩:=h.raw.get (pm.mem_iff.mp my);have ok:N6 s:=h.ok _ (Z5 es)
  have Wk:(Zv Zp (.inr y)).getD .non=.non\/(Raw ns' ((Zv Zp (.inr y)).getD .non)/\N6 ((Zv Zp (.inr y)).getD .non)):=by
   cases e:Zv Zp (.inr y) with
   | none=>exact .inl rfl
   | some s'=>exact .inr ⟨h'.raw.r _ (Z5 e),h'.ok _ (Z5 e)⟩
  have hk:=hk [.f (.str y),.f (mkT r XY),.f (mkT r' Zp)] ⟨_,rfl⟩
  have ef:fwT XY Zp (.str y)=qc s ((Zv Zp (.inr y)).getD .non):=by
   show qc ((Zv XY (.inr y)).getD .non) _=_;rw[es];rfl
  rw[ef]at hk;refine Ka es ?_;refine Zg (hW (ns:=ns) (ns':=ns') raw ok Wk) fun u eu=>?_;subst eu;exact hk
 obtain⟨s0,rfl⟩:=hs
 have wd:∀t∈((SRT.Z7 ns).map .str).map (fwT XY Zp),Wrd t:=fun t m=>by
  obtain⟨u,mu,rfl⟩:=Gf.mp m;obtain⟨y,_,rfl⟩:=Gf.mp mu;exact Qs _ _
 have ex:Tf ((SRT.Z7 ns).map (fw XY Zp))=Tf (((SRT.Z7 ns).map .str).map (fwT XY Zp)):=by rw[List.map_map];rfl
 rw[ex,Ii _ wd]at rt;refine jb tl (fun p=>∃s0,p=[s0]) ⟨_,rfl⟩ (fun t mt p K hs hk=>?_) fun p hs=>?_
 .obtain⟨s0,rfl⟩:=hs;have hk:=hk [.f t] ⟨_,rfl⟩;rcases wd t mt with rfl | ⟨x,rfl⟩
  .exact hk
  .exact hk
 obtain⟨s0,rfl⟩:=hs;generalize (((SRT.Z7 ns).map T.str).map (fwT XY Zp)).filterMap tl=ys at rt;cases ys with
 | nil=>exact rt _ _ rfl
 | cons a ys =>
  refine Zz (b:=decide ((0:Int)<((a::ys).length:Nat))) (fun _=>?_) fun z=>?_
  .refine ixP (Int.le_refl 0) (R6 gt0) fun x ex _=>?_;cases ex;exact rt _ _ rfl
  .rw[gt0]at z;cases z
def o5(K:Kn):Prop:=∀{t t':T},Ek t->Ek t'->K [.f t,.f t'] fun x=>x=(.f (.bl true),[])
theorem u9(ns:ZG)(r r':Str)(XY Zp:ZX):Wrd (flw ns r r' XY Zp):=by
 unfold flw
 split
 .generalize SRT.Z7 ns=xs
  induction xs with
  | nil=>exact .inl rfl
  | cons x xs ih =>
   show Wrd (if It (fw XY Zp x)=true then Tf (xs.map (fw XY Zp)) else fw XY Zp x)
   split
   .exact ih
   .exact Qs _ _
 .exact .inr ⟨_,rfl⟩
theorem vq{w:W}(hA:PAlk (cl w.C "_law_alike"))(hL:PCf (cl w.C "_law_follow_word"))(hF:PCf (cl w.C "cannot_follow")):o5 (wF Uu w):=fun {t t'} ht z6=>by
 obtain⟨ns,r,XY,rfl,h⟩:=ht;obtain⟨ns',r',Zp,rfl,h'⟩:=z6;refine Zy rfl fun D rt _=>?_
 have a3:Sh 8 259342 (.tup [mkT r XY,mkT r' Zp]):=Sh.tup (n:=2) (d:=7) (w:=129670) (Gc _) (by omega) fun t m=>by
  rcases Vv.mp m with rfl | m
  .exact h.sh
  cases V1.mp m;exact h'.sh
 obtain⟨z,ez⟩:=rpT_ok a3.o (Jy a3.w (by omega)) (Jy a3.d (by omega));refine Zm (a:=Sl.f (.str z)) (by show (rpT _).map _=_;rw[ez];rfl) ?_;refine Zg (hL h h') fun y ey=>?_;subst ey;refine Zg (hF h h') fun y ey=>?_;subst ey;refine Zg (hA (u9 _ _ _ _ _)) fun y ey=>?_;subst ey;refine Zm (a:=Sl.f (.str z)) (by show (rpT _).map _=_;rw[ez];rfl) ?_;refine rt _ _ ?_;show ((.f (.bl (decide (z=z))),[]):Sl×ZZ)=_;rw[Ma rfl]
end K62
set_option maxHeartbeats 1000000
namespace K62
open PySem PySem.Spec PyProof.Rows L2 PV
noncomputable def iq:ZG:=["new","newer","a"]
noncomputable def OWN:ZG:=["own","owner","a"]
inductive Dd(ns:ZG)(XY:ZX):T->Prop
 | form{x:Str}{s:T}(hx:x∈iq)(hs:Raw (ns++[x]) s):Dd ns XY (.tup [.str "form",.str x,s])
 | widen {x:Str} {s s':T} (mx:x∈ns) (e:Zv XY (.inr x)=some s) (raw:Raw ns s) (hp:T1 s=true) (Wk:Raw ns s') (hp':T1 s'=true):Dd ns XY (.tup [.str "widen",.str x,s'])
 | strike {x t:Str} {b:Bool} {ps rs:ZZ} {zs:ZT} {n:Int} (mx:x∈ns) (e:Zv XY (.inr x)=some (shT t ps zs rs)) (g:Ez ns XY t b ps zs rs):Dd ns XY (.tup [.str "strike",.str x,.int n])
 | rename {x t m:Str} {b:Bool} {ps rs:ZZ} {zs:ZT} {n:Int} (mx:x∈ns) (e:Zv XY (.inr x)=some (shT t ps zs rs)) (g:Ez ns XY t b ps zs rs) (hm:m∈OWN):Dd ns XY (.tup [.str "rename",.str x,.int n,.str m])
 | opn {x t:Str} {b:Bool} {ps rs:ZZ} {zs:ZT} (mx:x∈ns) (e:Zv XY (.inr x)=some (shT t ps zs rs)) (g:Ez ns XY t b ps zs rs):Dd ns XY (.tup [.str "open",.str x])
 | add {x:Str} {p:T} {ps:ZZ} {zs:ZT} (mx:x∈ns) (e:Zv XY (.inr x)=some (shT "record" ps zs [])) (g:Ez ns XY "record" true ps zs []) (hp:Gg ns true p):Dd ns XY (.tup [.str "add",.str x,p])
 | arm {x:Str} {p:T} {ps:ZZ} {zs:ZT} {c:Bool} (mx:x∈ns) (e:Zv XY (.inr x)=some (shT "choice" ps zs [.bl c])) (g:Ez ns XY "choice" false ps zs [.bl c]) (hp:Gg ns false p):Dd ns XY (.tup [.str "arm",.str x,p])
def PId(K:Kn):Prop:=∀{ns:ZG} {XY:ZX} {d:T},Dd ns XY d->K [.f d] fun x=>x=(.f (.bl true),[])
theorem za{w:W}:PId (wF Ds w):=fun {ns XY d} h=>by
 cases h with
 | form=>refine Zy rfl fun D rt _=>?_;exact rt _ _ rfl
 | widen=>refine Zy rfl fun D rt _=>?_;exact rt _ _ rfl
 | strike=>refine Zy rfl fun D rt _=>?_;exact rt _ _ rfl
 | rename=>refine Zy rfl fun D rt _=>?_;exact rt _ _ rfl
 | opn=>refine Zy rfl fun D rt _=>?_;exact rt _ _ rfl
 | add=>refine Zy rfl fun D rt _=>?_;exact rt _ _ rfl
 | arm=>refine Zy rfl fun D rt _=>?_;exact rt _ _ rfl
def o7(K:Kn):Prop:=∀{x:Str},x∈iq->K [.f (.str x)] fun y=>y=(.f (.bl true),[])
theorem Kw:∀x∈iq,Sm x:=fun x m=>by
 have h:∀x∈iq,x.length<=8/\∀c∈x.cps.toList,c<16 ^ 8:=by decide
 exact⟨(h x m).1,(h x m).2⟩
theorem v3:∀x∈OWN,Sm x:=fun x m=>by
 have h:∀x∈OWN,x.length<=8/\∀c∈x.cps.toList,c<16 ^ 8:=by decide
 exact⟨(h x m).1,(h x m).2⟩
theorem Kv{w:W}(g:GL w.gl):o7 (wF Ux w):=fun {x} m=>by
 have h1:∀x∈iq,(decide (1<=(x.length:Int)) && decide ((x.length:Int)<=8))=true/\((x.cps.toList.map fun c=>T.str ⟨#[c]⟩).all fun t=>(K5 t (.str LET)).getD false)=true:=by decide +kernel
 have h2:=h1 x m;have hz:=(Kw x m).z;refine Zy rfl fun D rt _=>?_;refine lenP hz ?_;refine xq g.ln ?_;refine c2P ?_;refine Zz (b:=!(decide (1<=(x.length:Int)) && decide ((x.length:Int)<=8))) (fun z=>?_) fun _=>?_
 .rw[h2.1]at z;cases z
 refine jg hz ?_;refine Bq g.le hz fun p=>?_;refine me ?_;exact rt _ _ (by rw[h2.2];rfl)
def PIfN(K:Kn):Prop:=∀{root x:Str} {XY:ZX},x∈iq->K [.f (mkT root XY),.f (.str x)] fun y=>y=(.f (.bl (Zv XY (.inr x)).isSome),[])
theorem K1{w:W}(hM:o7 (cl w.C "is_name")):PIfN (wF Uq w):=fun {root x XY} hx=>by
 refine Zy rfl fun D rt _=>?_;refine Zg (hM hx) fun y ey=>?_;subst ey;exact rt _ _ rfl
def Flt(P:Prop)(x:Sl×ZZ):Prop:=(∃z,x=(.f (.str z),[]))\/(x=(.f .non,[])/\P)
theorem Flt.s{P:Prop}{z:Str}:Flt P (.f (.str z),[]):=.inl ⟨z,rfl⟩
theorem Flt.n{P:Prop}(h:P):Flt P (.f .non,[]):=.inr ⟨rfl,h⟩
def PFf(K:Kn):Prop:=∀{ns:ZG} {root x:Str} {XY:ZX} {s:T},(∀y∈ns,Sm y)->x∈iq->Raw ns s->K [.f (mkT root XY),.f (.tup [.str "form",.str x,s])] (Flt (Zv XY (.inr x)=none))
theorem Qb{w:W}(hM:o7 (cl w.C "is_name"))(hI:PIfN (cl w.C "is_form"))(hS:m6 (cl w.C "is_shape")):PFf (wF Yo w):=fun {ns root x XY s} sm hx hs=>by
 refine Zy rfl fun D rt _=>?_;refine Zg (hM hx) fun y ey=>?_;subst ey;refine Zg (hI hx) fun y ey=>?_;subst ey;refine Zz (b:=(Zv XY (.inr x)).isSome) (fun _=>rt _ _ .s) fun z=>?_;refine Yc (hS sm hs) fun b _=>?_;refine Zz (b:=b) (fun _=>rt _ _ (.n ?_)) fun _=>rt _ _ .s;cases e:Zv XY (.inr x) with
 | none=>rfl
 | some t=>rw[e]at z;cases z
def sj(d:T):Prop:=∀x s,d≠.tup [.str "form",.str x,s]
abbrev ArmT(t:T):Prop:=∃n x o,Sm x/\o.length<=sizeLine/\t=.tup [.int n,.str x,.str o]
abbrev FldT(t:T):Prop:=∃n x o ds,Sm x/\o.length<=sizeLine/\t=.tup [.int n,.str x,.str o,.tup ds]
theorem ri{ns:ZG}{p:T}(sm:∀y∈ns,Sm y)(h:Gg ns false p):ArmT p:=by
 cases h with | mk hn hx ho hd=>cases hd;exact⟨_,_,_,hx,(sm _ ho).z,rfl⟩
theorem ro{ns:ZG}{p:T}(sm:∀y∈ns,Sm y)(h:Gg ns true p):FldT p:=by
 cases h with | mk hn hx ho hd=>cases hd;exact⟨_,_,_,_,hx,(sm _ ho).z,rfl⟩
def PTh(K:Kn):Prop:=∀{ns:ZG} {XY:ZX} {d:T},(∀y∈ns,Sm y)->Dd ns XY d->sj d->K [.f d] (Tl True)
theorem wz{w:W}(hF:Mq (cl w.C "is_field") FldT)(hN:m7 (cl w.C "is_number"))(hM:B9 (cl w.C "is_name"))(hS:m6 (cl w.C "is_shape"))(hA:Mq (cl w.C "is_arm") ArmT):PTh (wF Vj w):=fun {ns XY d} sm h nf=>by
 cases h with
 | form=>exact absurd rfl (nf _ _)
 | widen mx e raw hp Wk hp' =>
  refine Zy rfl fun D rt _=>?_;refine Yc (hS sm Wk) fun b _=>?_;exact rt _ _ ⟨b,fun _=>trivial,rfl⟩
 | strike =>
  refine Zy rfl fun D rt _=>?_;refine Yc hN fun b _=>?_;exact rt _ _ ⟨b,fun _=>trivial,rfl⟩
 | rename mx e g hm =>
  refine Zy rfl fun D rt _=>?_;refine Yc hN fun b _=>?_;refine Zz (b:=b) (fun _=>?_) fun _=>rt _ _ .no;refine Yc (hM (v3 _ hm).z) fun b _=>?_;exact rt _ _ ⟨b,fun _=>trivial,rfl⟩
 | opn =>
  refine Zy rfl fun D rt _=>?_;exact rt _ _ ⟨true,fun _=>trivial,rfl⟩
 | add mx e g hp =>
  refine Zy rfl fun D rt _=>?_;refine Yc (hF (ro sm hp)) fun b _=>?_;exact rt _ _ ⟨b,fun _=>trivial,rfl⟩
 | arm mx e g hp =>
  refine Zy rfl fun D rt _=>?_;refine Yc (hA (ri sm hp)) fun b _=>?_;exact rt _ _ ⟨b,fun _=>trivial,rfl⟩
def PMl(K:Kn):Prop:=∀{ns:ZG} {p:T},Gg ns true p->K [.f p] (Tl True)
theorem p6{w:W}:PMl (wF Yj w):=fun {ns p} h=>by
 cases h with | mk hn hx ho hd =>
 cases hd with | fld hd =>
 refine Zy rfl fun D rt _=>?_;exact rt _ _ ⟨_,fun _=>trivial,rfl⟩
end K62
set_option maxHeartbeats 1000000
namespace K62
open PySem PySem.Spec PyProof.Rows L2 PV
def okD(XY:ZX):T->Prop
 | .tup [.str w,.str x,p]=>(w = "form" -> Zv XY (.inr x)=none)/\((w = "add" \/ w = "arm")->∀t ps zs rs,Zv XY (.inr x)=some (shT t ps zs rs)->Y6 ps (Z1 p)=none)
 | .tup [_,.str x]=>∀t ps zs rs,Zv XY (.inr x)=some (shT t ps zs rs)->t ≠ "record"
 | _=>True
theorem ok3{XY:ZX}{w x:Str}{p:T}(h1:w ≠ "form" := by decide)(h2:¬ (w = "add" \/ w = "arm"):=by decide):okD XY (.tup [.str w,.str x,p]):=⟨fun z=>absurd z h1,fun z=>absurd z h2⟩
def PFm(K:Kn):Prop:=∀{ns:ZG} {XY:ZX} {d s:T} {x:Str} {r:ZZ} {w:Str},Dd ns XY d->d=.tup (.str w::.str x::r)->Zv XY (.inr x)=some s->w∈(["strike","rename","add","arm"]:ZG)->K [.f s,.f d] (Flt (okD XY d))
theorem y4{ns:ZG}{k:Bool}{qs:ZZ}{n:Int}{Q:Sl->Prop}(h:∀q∈qs,Gg ns k q)(q:Q (.f (.bl (!Ut qs n)))):on ((Jq .is ((Y6 qs n).getD .non) .non).map fun r=>Sl.f (.bl r)) Q:=by
 refine Zm (a:=Sl.f (.bl (!Ut qs n))) ?_ q;rw[<-Nv];cases e:Y6 qs n with
 | none=>rfl
 | some q=>cases h q (List.mem_of_find?_eq_some e) with | mk _ _ _ _=>rfl
theorem has_none{qs:ZZ}{n:Int}(h:Ut qs n=false):Y6 qs n=none:=by
 rw[<-Nv]at h;cases e:Y6 qs n with
 | none=>rfl
 | some q=>rw[e]at h;cases h
theorem Kg{w:W}(hM:m8 (cl w.C "member_of"))(hB:PBs (cl w.C "is_name_beside"))(hL:PMl (cl w.C "may_be_left_out")):PFm (wF Yy w):=fun {ns XY d s x r wd} h ed es mw=>by
 cases h with
 | form=>cases ed;exact absurd mw (by decide)
 | widen=>cases ed;exact absurd mw (by decide)
 | opn=>cases ed;exact absurd mw (by decide)
 | strike mx e g =>
  cases ed;rw[e]at es;cases es;refine Zy rfl fun D rt _=>?_;refine Zg (hM g.p.p) fun y ey=>?_;subst ey;refine y4 g.p.p ?_;refine Zz (b:=!Ut _ _) (fun _=>rt _ _ .s) fun _=>?_;exact rt _ _ (.n ok3)
 | rename mx e g hm =>
  cases ed;rw[e]at es;cases es;refine Zy rfl fun D rt _=>?_;refine Zg (hM g.p.p) fun y ey=>?_;subst ey;refine y4 g.p.p ?_;refine Zz (b:=!Ut _ _) (fun _=>rt _ _ .s) fun _=>?_;refine Yc (hB g.p.p) fun b _=>?_;refine Zz (b:=b) (fun _=>rt _ _ .s) fun _=>?_;exact rt _ _ (.n trivial)
 | @add x p ps zs mx e g hp =>
  cases ed;rw[e]at es;cases es;have ok:Ut ps (Z1 p)=false->okD XY (.tup [.str "add",.str x,p]):=fun z=>⟨fun z=>absurd z (by decide),fun _ t ra dv rs' e'=>by rw[e]at e';injection e' with e';injection e' with e';injection e' with _ e';injection e' with e1 _;injection e1 with e1;subst e1;exact has_none z⟩;have hl:=@hL ns p hp;cases hp with | @mk n y o ds hn hy ho hd =>
  refine Zy rfl fun D rt _=>?_;refine Ud ?_;refine Zg (hM g.p.p) fun y ey=>?_;subst ey;refine Zm (a:=Sl.f (.bl (Ut ps n))) (by show (Jq _ _ _).map _=_;rw[C6 g.p.p];rfl) ?_;refine Zz (b:=Ut ps n) (fun _=>rt _ _ .s) fun z=>?_;refine inZ ?_;refine Zz (b:=Jr zs n) (fun _=>rt _ _ .s) fun _=>?_;refine Bg ?_;refine Yc (hB (b:=true) (r:=[.tup (zs.map .int)]) g.p.p) fun b _=>?_;refine Zz (b:=b) (fun _=>rt _ _ .s) fun _=>?_;refine Yc hl fun b _=>?_;refine Zz (b:=!b) (fun _=>rt _ _ .s) fun _=>?_;exact rt _ _ (.n (ok z))
 | @arm x p ps zs c mx e g hp =>
  cases ed;rw[e]at es;cases es;have ok:Ut ps (Z1 p)=false->okD XY (.tup [.str "arm",.str x,p]):=fun z=>⟨fun z=>absurd z (by decide),fun _ t ra dv rs' e'=>by rw[e]at e';injection e' with e';injection e' with e';injection e' with _ e';injection e' with e1 _;injection e1 with e1;subst e1;exact has_none z⟩;cases hp with | @mk n y o ds hn hy ho hd =>
  refine Zy rfl fun D rt _=>?_;refine Ud ?_;refine Zg (hM g.p.p) fun y ey=>?_;subst ey;refine Zm (a:=Sl.f (.bl (Ut ps n))) (by show (Jq _ _ _).map _=_;rw[C6 g.p.p];rfl) ?_;refine Zz (b:=Ut ps n) (fun _=>rt _ _ .s) fun z=>?_;refine inZ ?_;refine Zz (b:=Jr zs n) (fun _=>rt _ _ .s) fun _=>?_;refine Bg ?_;refine Yc (hB (b:=false) (r:=[.tup (zs.map .int),.bl c]) g.p.p) fun b _=>?_;refine Zz (b:=b) (fun _=>rt _ _ .s) fun _=>?_;exact rt _ _ (.n (ok z))
def PFt(K:Kn):Prop:=∀{ns:ZG} {root:Str} {XY:ZX} {d:T},(∀y∈ns,Sm y)->Dd ns XY d->K [.f (mkT root XY),.f d] (Flt (okD XY d))
theorem Ku{ns:ZG}{XY:ZX}{t:Str}{b:Bool}{ps rs:ZZ}{zs:ZT}(g:Ez ns XY t b ps zs rs):t = "record" \/ t = "choice" := g.kd.imp (·.1) (·.1)
theorem gu{w:W}(hD:PId (cl w.C "is_deed"))(hFf:PFf (cl w.C "fault_of_form"))(hI:PIf (cl w.C "is_form"))(hFo:m9 (cl w.C "form_of"))(hT:PTh (cl w.C "is_thing_for"))(hN:PNw (cl w.C "is_narrower"))(hM:PFm (cl w.C "fault_of_member")):PFt (wF Gq w):=fun {ns root XY d} sm h=>by
 have h0:=h;cases h with
 | @form x s hx hs =>
  refine Zy rfl fun D rt _=>?_;refine Zg (hD h0) fun y ey=>?_;subst ey;refine Zg (hFf (ns:=ns++[x]) (fun y m=>by rcases Cj.mp m with m | m;exact sm y m;cases V1.mp m;exact Kw _ hx) hx hs) fun y hy=>?_;rcases hy with ⟨z,rfl⟩ | ⟨rfl,hn⟩
  .exact rt _ _ .s
  .exact rt _ _ (.n ⟨fun _=>hn,fun z=>absurd z (by decide)⟩)
 | @widen x s s' mx e raw hp Wk hp' =>
  refine Zy rfl fun D rt _=>?_;refine Zg (hD h0) fun y ey=>?_;subst ey;refine Yc (hI (sm _ mx).z) fun b _=>?_;refine Zz (b:=!b) (fun _=>rt _ _ .s) fun _=>?_;refine Zg (hFo e) fun y ey=>?_;subst ey;have qm:=hT sm h0 fun _ _ z=>by cases z
  have hN':=@hN ns ns s s' raw Wk hp;cases raw with
  | record _ _=>cases hp
  | choice _ _=>cases hp
  | truth=>exact rt _ _ .s
  | whole =>
   refine Yc qm fun b _=>?_;refine Zz (b:=!b) (fun _=>rt _ _ .s) fun _=>?_;refine Yc (hN' (show ("whole" : Str) ≠ "truth" by decide)) fun b _=>?_;refine Zz (b:=b) (fun _=>rt _ _ .s) fun _=>?_;exact rt _ _ (.n ok3)
  | text =>
   refine Yc qm fun b _=>?_;refine Zz (b:=!b) (fun _=>rt _ _ .s) fun _=>?_;refine Yc (hN' (show ("text" : Str) ≠ "truth" by decide)) fun b _=>?_;refine Zz (b:=b) (fun _=>rt _ _ .s) fun _=>?_;exact rt _ _ (.n ok3)
  | row =>
   refine Yc qm fun b _=>?_;refine Zz (b:=!b) (fun _=>rt _ _ .s) fun _=>?_;refine Yc (hN' (show ("row" : Str) ≠ "truth" by decide)) fun b _=>?_;refine Zz (b:=b) (fun _=>rt _ _ .s) fun _=>?_;exact rt _ _ (.n ok3)
  | map =>
   refine Yc qm fun b _=>?_;refine Zz (b:=!b) (fun _=>rt _ _ .s) fun _=>?_;refine Yc (hN' (show ("map" : Str) ≠ "truth" by decide)) fun b _=>?_;refine Zz (b:=b) (fun _=>rt _ _ .s) fun _=>?_;exact rt _ _ (.n ok3)
 | strike mx e g =>
  refine Zy rfl fun D rt _=>?_;refine Zg (hD h0) fun y ey=>?_;subst ey;refine Yc (hI (sm _ mx).z) fun b _=>?_;refine Zz (b:=!b) (fun _=>rt _ _ .s) fun _=>?_;refine Zg (hFo e) fun y ey=>?_;subst ey;have qm:=hT sm h0 fun _ _ z=>by cases z
  have hM':=hM h0 rfl e (by decide);rcases Ku g with rfl | rfl
  all_goals
   refine Ud ?_;refine Yc qm fun b _=>?_;refine Zz (b:=!b) (fun _=>rt _ _ .s) fun _=>?_;refine Zg hM' fun y hy=>?_;rcases hy with ⟨z,rfl⟩ | ⟨rfl,hn⟩
   .exact rt _ _ .s
   .exact rt _ _ (.n hn)
 | rename mx e g hm =>
  refine Zy rfl fun D rt _=>?_;refine Zg (hD h0) fun y ey=>?_;subst ey;refine Yc (hI (sm _ mx).z) fun b _=>?_;refine Zz (b:=!b) (fun _=>rt _ _ .s) fun _=>?_;refine Zg (hFo e) fun y ey=>?_;subst ey;have qm:=hT sm h0 fun _ _ z=>by cases z
  have hM':=hM h0 rfl e (by decide);rcases Ku g with rfl | rfl
  all_goals
   refine Ud ?_;refine Yc qm fun b _=>?_;refine Zz (b:=!b) (fun _=>rt _ _ .s) fun _=>?_;refine Zg hM' fun y hy=>?_;rcases hy with ⟨z,rfl⟩ | ⟨rfl,hn⟩
   .exact rt _ _ .s
   .exact rt _ _ (.n hn)
 | opn mx e g =>
  refine Zy rfl fun D rt _=>?_;refine Zg (hD h0) fun y ey=>?_;subst ey;refine Yc (hI (sm _ mx).z) fun b _=>?_;refine Zz (b:=!b) (fun _=>rt _ _ .s) fun _=>?_;refine Zg (hFo e) fun y ey=>?_;subst ey;have qm:=hT sm h0 fun _ _ z=>by cases z
  rcases Ku g with rfl | rfl
  .refine Ud ?_;exact rt _ _ .s
  .refine Ud ?_;refine Yc qm fun b _=>?_;refine Zz (b:=!b) (fun _=>rt _ _ .s) fun _=>?_;exact rt _ _ (.n fun t ps zs rs e'=>by rw[e]at e';injection e' with e';injection e' with e';injection e' with e' _;injection e' with e';subst e';decide)
 | add mx e g hp =>
  refine Zy rfl fun D rt _=>?_;refine Zg (hD h0) fun y ey=>?_;subst ey;refine Yc (hI (sm _ mx).z) fun b _=>?_;refine Zz (b:=!b) (fun _=>rt _ _ .s) fun _=>?_;refine Zg (hFo e) fun y ey=>?_;subst ey;refine Yc (hT sm h0 fun _ _ z=>by cases z) fun b _=>?_;refine Zz (b:=!b) (fun _=>rt _ _ .s) fun _=>?_;refine Zg (hM h0 rfl e (by decide)) fun y hy=>?_;rcases hy with ⟨z,rfl⟩ | ⟨rfl,hn⟩
  .exact rt _ _ .s
  .exact rt _ _ (.n hn)
 | arm mx e g hp =>
  refine Zy rfl fun D rt _=>?_;refine Zg (hD h0) fun y ey=>?_;subst ey;refine Yc (hI (sm _ mx).z) fun b _=>?_;refine Zz (b:=!b) (fun _=>rt _ _ .s) fun _=>?_;refine Zg (hFo e) fun y ey=>?_;subst ey;refine Yc (hT sm h0 fun _ _ z=>by cases z) fun b _=>?_;refine Zz (b:=!b) (fun _=>rt _ _ .s) fun _=>?_;refine Zg (hM h0 rfl e (by decide)) fun y hy=>?_;rcases hy with ⟨z,rfl⟩ | ⟨rfl,hn⟩
  .exact rt _ _ .s
  .exact rt _ _ (.n hn)
end K62
set_option maxHeartbeats 1000000
namespace K62
open PySem PySem.Spec PyProof.Rows L2 PV
theorem Lx{ns:ZG}{b:Bool}:∀{ms:ZZ},(∀p∈ms,Gg ns b p)->G8 ms=some (ms.map Z1)
 | [],_=>rfl
 | p::ms,h=>by
  cases h p Yn with | mk hn hx ho hd =>
  show (G8 ms).map _=_;rw[Lx fun q m=>h q (Vk _ m)];rfl
theorem srtFP{ns:ZG}{b:Bool}{ms:ZZ}{Q:Sl->Prop}(hp:∀p∈ms,Gg ns b p)(nd:(ms.map Z1).Nodup)(l:ms.length<64)(q:∀us:ZZ,us.Perm ms->Q (.o (.lst us))):on (W5 .srtF [.lst ms]) Q:=by
 refine Zm (a:=Sl.o (.lst ((SRT.Eu ((ms.map Z1).zip ms)).map (·.2)))) ?_ (q _ ?_)
 .show (G8 ms).bind _=_;rw[Lx hp];exact if_pos ⟨nd,l⟩
 .have:=(SRT.Dk ((ms.map Z1).zip ms)).map (·.2);rw[List.map_snd_zip (by rw[Zu];exact Gc _)]at this;exact this
def PRn(K:Kn):Prop:=∀{ns:ZG} {b:Bool} {p:T} {n:Int} {m:Str},Gg ns b p->Sm m->K [.f p,.f (.int n),.f (.str m)] fun x=>∃q,x=(.f q,[])/\Gg ns b q/\Z1 q=Z1 p
theorem E1{w:W}:PRn (wF Dc w):=fun {ns b p n m} h hm=>by
 have:=sizeLine_eq;have h0:=h;cases h with | @mk k x o ds hn hx ho hd =>
 refine Zy rfl fun D rt _=>?_;refine Ud ?_;refine Zz (b:=decide (k=n)) (fun z=>?_) fun _=>rt _ _ ⟨_,rfl,h0,rfl⟩;obtain rfl:=R6 z;have l:ds.length<=1:=by cases hd<;>simp
 have ec:Yp (.int k::.str x::.str o::ds) (some 2) none=.str o::ds:=by rw[Nn (by omega) (by rw[Jk,Jk,Jk];omega)];rfl
 refine R4 (by rw[ec];show 2+(ds.length+1)<=_;omega) ?_;rw[ec];exact rt _ _ ⟨_,rfl,.mk hn hm ho hd,rfl⟩
def PSb(K:Kn):Prop:=∀{ns:ZG} {XY:ZX} {d s:T} {x wd:Str} {r:ZZ},Dd ns XY d->okD XY d->d=.tup (.str wd::.str x::r)->(wd ≠ "form" -> Zv XY (.inr x)=some s) ->
 K [.f s,.f d] fun y=>∃s',y=(.f s',[])/\((wd = "form" /\ Raw (ns++[x]) s')\/(wd ≠ "form" /\ x∈ns/\Raw ns s'/\(T1 s'=true\/T1 s=false)))
theorem C1{ns:ZG}{XY:ZX}{t:Str}{b:Bool}{ps rs:ZZ}{zs:ZT}(g:Ez ns XY t b ps zs rs):T1 (shT t ps zs rs)=false:=by
 rcases g.r with ⟨_,rfl⟩ | ⟨_,c,rfl⟩<;>rfl
section
variable{w:W}{ns:ZG}{XY:ZX}{t:Str}{b:Bool}{ps ms rs:ZZ}{zs us:ZT}{d:T}{D:En}
theorem L8(g:Ez ns XY t b ps zs rs)(hp:∀p∈ms,Gg ns b p)(nd:(ms.map Z1).Nodup)(l:ms.length<=9)(lu:us.length<=9)(rt:∀s' p0 p1 p,Raw ns s'->D.rt (.f s') (.f p0::.f p1::p)){s2:Sl}:wS w (Yk [.f (shT t ps zs rs),.f d]) (Zs 6 Dj) [.f (shT t ps zs rs),.f d,s2,.o (.lst ms),.o (.lst (us.map .int))] D:=by
 have:=sizeLine_eq;have lr:rs.length<=1:=by rcases g.r with ⟨_,rfl⟩ | ⟨_,c,rfl⟩<;>simp
 refine Ud ?_;refine srtFP hp nd (by omega) fun vs pv=>?_;refine Ai (us:=(SRT.Mw us).map .int) (srt_ints us (by omega)) ?_;have ec:Yp (.str t::.tup ps::.tup (zs.map .int)::rs) (some 3) none=rs:=by rw[Nn (by omega) (by rw[Jk,Jk,Jk];omega)];rfl
 refine R4 (by rw[ec];show 3+_<=_;omega) ?_;rw[ec];refine rt _ _ _ _ (Ez.raw g.kd ⟨?_,fun p m=>hp p (pv.mem_iff.mp m)⟩ (by rw[(SRT.Yf us).length_eq];omega) g.r);rw[pv.length_eq];omega
end
theorem fil_nd{n:Int}{ps:ZZ}(h:(ps.map Z1).Nodup):((ps.filterMap fun p=>if Z1 p=n then none else some p).map Z1).Nodup:=by
 have e:ps.filterMap (fun p=>if Z1 p=n then none else some p)=ps.filter fun p=>!decide (Z1 p=n):=by
  induction ps with
  | nil=>rfl
  | cons p ps ih =>
   rw[S9,List.nodup_cons]at h;by_cases z:Z1 p=n
   .rw[List.filterMap_cons_none (by rw[if_pos z]),List.filter_cons_of_neg (by simpa using z),ih h.2]
   .rw[List.filterMap_cons_some (by rw[if_neg z]),List.filter_cons_of_pos (by simpa using z),ih h.2]
 rw[e];exact h.sublist (List.filter_sublist.map _)
theorem qx{w:W}(hR:PRn (cl w.C "renamed")):PSb (wF Vq w):=fun {ns XY d s x wd r} h ok ed es=>by
 have sz:=sizeLine_eq;cases h with
 | form hx hs =>
  cases ed;refine Zy rfl fun D rt _=>?_;exact rt _ _ ⟨_,rfl,.inl ⟨rfl,hs⟩⟩
 | widen mx e raw hp Wk hp' =>
  cases ed;refine Zy rfl fun D rt _=>?_;exact rt _ _ ⟨_,rfl,.inr ⟨by decide,mx,Wk,.inl hp'⟩⟩
 | @opn x t b ps rs zs mx e g =>
  cases ed;have e1:=es (by decide);rw[e]at e1;cases e1;have nt:=ok _ _ _ _ e;have np:=C1 g;rcases g.kd with ⟨rfl,_⟩ | ⟨rfl,rfl⟩
  .exact absurd rfl nt
  rcases g.r with ⟨z,_⟩ | ⟨_,c,rfl⟩
  .cases z
  refine Zy rfl fun D rt _=>?_;exact rt _ _ ⟨_,rfl,.inr ⟨by decide,mx,Ez.raw (.inr ⟨rfl,rfl⟩) g.p (by have:=g.m.sl;omega) (.inr ⟨rfl,true,rfl⟩),.inr np⟩⟩
 | @strike x t b ps rs zs n mx e g =>
  cases ed;have e1:=es (by decide);rw[e]at e1;cases e1;have np:=C1 g;have l:=g.m.l;have lz:=g.m.sl;refine Zy rfl fun D rt _=>?_;refine Bg ?_;have i2:∀{Q:Sl->Prop},Q (.f (.tup (zs.map .int)))->on ((T5 (shT t ps zs rs) (.int 2)).map Sl.f) Q:=fun q=>by rcases g.r with ⟨_,rfl⟩ | ⟨_,c,rfl⟩<;>exact q
  refine i2 ?_;refine jb (fun p=>if Z1 p=n then none else some p) (fun p=>∃s0,p=[s0,.f (.tup [.str "strike",.str x,.int n])]) ⟨_,rfl⟩ (fun u mu p K hs hk=>?_) fun p hs=>?_
  .obtain⟨s0,rfl⟩:=hs;cases g.p.p u mu with | @mk k y o ds hn hy ho hd =>
   have hk:=hk [.f (.tup (.int k::.str y::.str o::ds)),.f (.tup [.str "strike",.str x,.int n])] ⟨_,rfl⟩;refine Ud ?_;refine Zz (b:=!decide (k=n)) (fun z=>?_) fun z=>?_
   .have z':k≠n:=of_decide_eq_false (yj z);rw[show (if Z1 (.tup (.int k::.str y::.str o::ds))=n then none else some (T.tup (.int k::.str y::.str o::ds)))=some (.tup (.int k::.str y::.str o::ds)) from if_neg z']at hk;exact hk
   .have z':k=n:=R6 (Oz z);rw[show (if Z1 (.tup (.int k::.str y::.str o::ds))=n then none else some (T.tup (.int k::.str y::.str o::ds)))=none from if_pos z']at hk;exact hk
  obtain⟨s0,rfl⟩:=hs;refine oh (by rw[Zu];omega) ?_;have e2:zs.map T.int++[.int n]=(zs++[n]).map .int:=by rw[Q9];rfl
  rw[e2];refine L8 g (fun p m=>?_) (fil_nd g.m.d) ?_ (by rw[Gn];show _+1<=_;omega) fun s' p0 p1 p raw=>rt _ _ ⟨_,rfl,.inr ⟨by decide,mx,raw,.inr np⟩⟩
  .obtain⟨a,ma,ea⟩:=List.mem_filterMap.mp m
   split at ea
   .cases ea
   .cases ea;exact g.p.p _ ma
  .exact Jy (List.length_filterMap_le _ _) (by omega)
 | @rename x t m b ps rs zs n mx e g hm =>
  cases ed;have e1:=es (by decide);rw[e]at e1;cases e1;have np:=C1 g;have l:=g.m.l;have lz:=g.m.sl;refine Zy rfl fun D rt _=>?_;refine Bg ?_;have i2:∀{Q:Sl->Prop},Q (.f (.tup (zs.map .int)))->on ((T5 (shT t ps zs rs) (.int 2)).map Sl.f) Q:=fun q=>by rcases g.r with ⟨_,rfl⟩ | ⟨_,c,rfl⟩<;>exact q
  refine i2 ?_;refine Bx (fun rest acc p=>∃s0,p=[s0,.f (.tup [.str "rename",.str x,.int n,.str m])]/\(∀u∈rest,Gg ns b u)/\(∀u∈acc,Gg ns b u)/\acc.map Z1++rest.map Z1=ps.map Z1) ⟨_,rfl,g.p.p,(fun u m=>nomatch m),rfl⟩ (fun u r acc p K hi hk _=>?_) fun acc p hi=>?_
  .obtain⟨s0,rfl,hr,ha,hh⟩:=hi;refine Zg (hR (hr u Yn) (v3 m hm)) fun y ⟨q,ey,hq,eh⟩=>?_;subst ey;refine hk _ _ ⟨_,rfl,fun v mv=>hr v (Vk _ mv),fun v mv=>?_,by rw[<-hh,Q9,S9,ZI];show _++([Z1 q]++_)=_;rw[eh];rfl⟩;rcases Cj.mp mv with mv | mv
   .exact ha v mv
   .cases V1.mp mv;exact hq
  obtain⟨s0,rfl,_,ha,hh⟩:=hi;rw[List.map_nil,ZE]at hh;have la:acc.length=ps.length:=by have:=congrArg List.length hh;rw[Zu,Zu]at this;exact this
  exact L8 g ha (by rw[hh];exact g.m.d) (by omega) (by omega) fun s' p0 p1 p raw=>rt _ _ ⟨_,rfl,.inr ⟨by decide,mx,raw,.inr np⟩⟩
 | @add x p ps zs mx e g hp =>
  cases ed;have e1:=es (by decide);rw[e]at e1;cases e1;have np:=C1 g;have l:=g.m.l;have lz:=g.m.sl;have nf:=ok.2 (.inl rfl) _ _ _ _ e;refine Zy rfl fun D rt _=>?_;refine oh (by omega) ?_;refine L8 (ms:=ps++[p]) (us:=zs) g (fun q m=>?_) ?_ (by rw[Gn];show _+1<=_;omega) (by omega) fun s' p0 p1 p raw=>rt _ _ ⟨_,rfl,.inr ⟨by decide,mx,raw,.inr np⟩⟩
  .rcases Cj.mp m with m | m
   .exact g.p.p q m
   .cases V1.mp m;exact hp
  .rw[Q9,List.nodup_append];refine⟨g.m.d,by simp,fun a ma c mc ec=>?_⟩;cases V1.mp mc;subst ec;obtain⟨q,mq,eq⟩:=Gf.mp ma;have:=XJ.mp nf q mq;exact this (Ma eq)
 | @arm x p ps zs c mx e g hp =>
  cases ed;have e1:=es (by decide);rw[e]at e1;cases e1;have np:=C1 g;have l:=g.m.l;have lz:=g.m.sl;have nf:=ok.2 (.inr rfl) _ _ _ _ e;refine Zy rfl fun D rt _=>?_;refine oh (by omega) ?_;refine L8 (ms:=ps++[p]) (us:=zs) g (fun q m=>?_) ?_ (by rw[Gn];show _+1<=_;omega) (by omega) fun s' p0 p1 p raw=>rt _ _ ⟨_,rfl,.inr ⟨by decide,mx,raw,.inr np⟩⟩
  .rcases Cj.mp m with m | m
   .exact g.p.p q m
   .cases V1.mp m;exact hp
  .rw[Q9,List.nodup_append];refine⟨g.m.d,by simp,fun a ma c mc ec=>?_⟩;cases V1.mp mc;subst ec;obtain⟨q,mq,eq⟩:=Gf.mp ma;have:=XJ.mp nf q mq;exact this (Ma eq)
end K62
set_option maxHeartbeats 1000000
namespace K62
open PySem PySem.Spec PyProof.Rows L2 PV
theorem Xf.mono{ns ns':ZG}{pk:ZX}(h:Xf ns pk)(hs:∀x∈ns,x∈ns'):Xf ns' pk :=
 ⟨let ⟨ks,e,m⟩:=h.k;⟨ks,e,fun x mx=>hs x (m x mx)⟩,h.l0,h.l,fun q m=>let p:=h.p q m;⟨p.raw.mono hs,p.ok,p.pl⟩⟩
def PDd(K:Kn):Prop:=∀{zs:ZT} {i k:Int} {ns:ZG} {root:Str} {XY:ZX},Mk ns root XY->K [.o (Zf zs i k),.f (mkT root XY)] (tx zs (Dd ns XY))
noncomputable def N7:ZT:=[1,2,9,10,99,999,500]
theorem n7_in:∀z∈N7,z∈Wa:=by decide
noncomputable def S7:ZG:=["whole","truth","text","row","map","record","choice"]
theorem s7_or:∀s∈S7,s = "record" \/ s = "choice" \/ s∈S8:=by decide
theorem E2(s:Str):((["record","choice"]:ZG).any fun z=>decide (z=s))=true↔s = "record" \/ s = "choice" := by
 simp only[List.any_cons,List.any_nil,Bool.or_false,Bool.or_eq_true,decide_eq_true_eq];constructor
 .rintro(e | e)
  .exact .inl e.symm
  .exact .inr e.symm
 .rintro(e | e)
  .exact .inl e.symm
  .exact .inr e.symm
section
variable{w:W}{zs:ZT}{i0 k0 i2 k2 n wy:Int}{ns:ZG}{root x:Str}{XY pk:ZX}{s:T}{D:En}
theorem aa(hd:Vf w.C)(hP:PPl (cl w.C "_law_plain"))(hR:PPd (cl w.C "_law_parted"))(h:Mk ns root XY)(hk:Xf ns pk)(rt:∀t i k (s1:Sl) (q:P),Dd ns XY t->D.rt (.f t) (.o (Zf zs i k)::s1::q)) :
  wS w (Yk [.o (Zf zs i0 k0),.f (mkT root XY)]) (Pf (Zs 6 Vt)) [.o (Zf zs i2 k2),.f (mkT root XY),.o (.lst ((SRT.Z7 ns).map .str)),.f (.str x),.f s,.o (.dct pk),.f (.int n),.f (.int wy),.no,.no,.no,.no] D:=by
 have sz:=sizeLine_eq;have l6:=h.l;have pm:=SRT.Z4 ns;have ls:=pm.length_eq;have hx:∀x∈SRT.Z7 ns,x∈ns:=fun x m=>pm.mem_iff.mp m;refine Zl hd (by omega) (by omega) fun r i2 k2 h0 h1=>?_;refine Ul (ss:=S7) h0 h1 fun t mt=>?_;refine Zl hd (by omega) (by omega) fun r i2 k2 h0 h1=>?_;refine Ul (ss:=iq) h0 h1 fun c mc=>?_;have hin:∀y∈ns,y∈ns++[c]:=fun y m=>List.mem_append_left _ m;have Ew:=hk.mono hin;have e2:(SRT.Z7 ns).map T.str++[.str c,.str c]=(SRT.Z7 ns++[c,c]).map .str:=by rw[Q9];rfl
 have hm:di (SRT.Z7 ns++[c,c]):=⟨by rw[Gn];show _+2<=_;omega,by rw[Gn];show 0<_+2;omega⟩
 have hx':∀y∈SRT.Z7 ns++[c,c],y∈ns++[c]:=fun y m=>by
  rcases Cj.mp m with m | m
  .exact List.mem_append_left _ (hx y m)
  .exact de _ (by rcases Vv.mp m with rfl | m;exact V1.mpr rfl;exact m)
 have more:∀i2 k2,wS w (Yk [.o (Zf zs i0 k0),.f (mkT root XY)]) (Zs 2 (Pf (Zs 6 Vt))) [.o (Zf zs i2 k2),.f (mkT root XY),.o (.lst ((SRT.Z7 ns).map .str)),.f (.str x),.f s,.o (.dct pk),.f (.int n),.f (.int wy),.f (.str t),.f (.str c),.no,.no] D:=fun i2 k2=>by
  refine Zz (b:=decide (("record" : Str)=t) || (decide (("choice" : Str)=t) || false)) (fun z=>?_) fun z=>?_
  .have ht:=(E2 t).mp z;obtain⟨b,hb⟩:∃b,Kd2 t b:=ht.elim (fun e=>⟨true,.inl ⟨e,rfl⟩⟩) fun e=>⟨false,.inr ⟨e,rfl⟩⟩;refine Ld (by rw[Zu];show _+2<=_;omega) ?_;rw[e2];refine Jp (hR hb Ew hm hx') fun s' i k hs=>?_;exact rt _ _ _ _ _ (.form mc hs.raw)
  .have ht:t∈S8:=((s7_or t mt).resolve_left fun y=>by rw[show (decide (("record" : Str)=t) || (decide (("choice" : Str)=t) || false))=true from(E2 t).mpr (.inl y)]at z;cases z).resolve_left fun y=>by rw[show (decide (("record" : Str)=t) || (decide (("choice" : Str)=t) || false))=true from(E2 t).mpr (.inr y)]at z;cases z
   refine Ld (by rw[Zu];show _+2<=_;omega) ?_;rw[e2];refine Jp (hP ht hm hx') fun s' i k hs=>?_;exact rt _ _ _ _ _ (.form mc hs.raw)
 exact more _ _
theorem dd_grp(hd:Vf w.C)(hQ:N4 (cl w.C "_law_part"))(h:Mk ns root XY)(hk:Xf ns pk)(mx:x∈ns){t:Str}{b:Bool}{ps rs:ZZ}{us:ZT}(e:Zv XY (.inr x)=some (shT t ps us rs))(g:Ez ns XY t b ps us rs)(mn:n∈Wa)(rt:∀t i k (s1:Sl) (q:P),Dd ns XY t->D.rt (.f t) (.o (Zf zs i k)::s1::q)) :
  wS w (Yk [.o (Zf zs i0 k0),.f (mkT root XY)]) (Zs 8 Vt) [.o (Zf zs i2 k2),.f (mkT root XY),.o (.lst ((SRT.Z7 ns).map .str)),.f (.str x),.f (shT t ps us rs),.o (.dct pk),.f (.int n),.f (.int wy),.no,.no,.no,.no] D:=by
 have sz:=sizeLine_eq;have l6:=h.l;have l0:0<ns.length:=List.length_pos_of_mem h.root;have pm:=SRT.Z4 ns;have ls:=pm.length_eq;have hx:∀x∈SRT.Z7 ns,x∈ns:=fun x m=>pm.mem_iff.mp m;have lp:=g.m.l;have hm:di (SRT.Z7 ns):=⟨by omega,by omega⟩;refine Bg ?_;refine Oi g.p.p fun s0=>?_;have e2:(ps.map Z1).map T.int++[.int n]=(ps.map Z1++[n]).map .int:=by rw[Q9];rfl
 refine Ld (by rw[Zu,Zu];show _+1<=_;omega) ?_;rw[e2];have lh:(ps.map Z1++[n]).length=ps.length+1:=by rw[Gn,Zu];rfl
 refine Zl hd (by rw[Zu,lh];omega) (by rw[Zu,lh];omega) fun r i2 k2 h0 h1=>?_;rw[Zu]at h1;refine B3 h0 h1 fun m _=>?_;refine Zz (b:=decide (wy<4)) (fun _=>rt _ _ _ _ _ (.strike mx e g)) fun _=>?_;refine Zz (b:=decide (wy=4)) (fun _=>?_) fun _=>?_
 .refine Zl hd (by omega) (by omega) fun r i2 k2 h0 h1=>?_;refine Ul (ss:=OWN) h0 h1 fun o mo=>?_;exact rt _ _ _ _ _ (.rename mx e g mo)
 refine Zz (b:=decide (wy=5)) (fun _=>rt _ _ _ _ _ (.opn mx e g)) fun _=>?_;rcases g.kd with ⟨rfl,rfl⟩ | ⟨rfl,rfl⟩
 .rcases g.r with ⟨_,rfl⟩ | ⟨z,_⟩
  .refine Jp (hQ (.inl ⟨rfl,rfl⟩) mn hk hm hx) fun p i k hp=>?_;exact rt _ _ _ _ _ (.add mx e g hp.prt)
  .cases z
 .rcases g.r with ⟨z,_⟩ | ⟨_,c,rfl⟩
  .cases z
  .refine Jp (hQ (.inr ⟨rfl,rfl⟩) mn hk hm hx) fun p i k hp=>?_;exact rt _ _ _ _ _ (.arm mx e g hp.prt)
theorem au(hd:Vf w.C)(hN:PNr (cl w.C "_law_near"))(hQ:N4 (cl w.C "_law_part"))(h:Mk ns root XY)(hk:Xf ns pk)(hi:∀x s,Zv XY (.inr x)=some s->(Zv pk (.inr x)).isSome=T1 s)(mx:x∈ns)(e:Zv XY (.inr x)=some s)(raw:Raw ns s)(mn:n∈Wa)(rt:∀t i k (s1:Sl) (q:P),Dd ns XY t->D.rt (.f t) (.o (Zf zs i k)::s1::q)) :
  wS w (Yk [.o (Zf zs i0 k0),.f (mkT root XY)]) (Zs 7 Vt) [.o (Zf zs i2 k2),.f (mkT root XY),.o (.lst ((SRT.Z7 ns).map .str)),.f (.str x),.f s,.o (.dct pk),.f (.int n),.f (.int wy),.no,.no,.no,.no] D:=by
 refine Zz (b:=(Zv pk (.inr x)).isSome) (fun z=>?_) fun z=>?_
 .rw[hi x s e]at z;refine Jp (hN (ns:=ns) ⟨raw,h.ok _ (Z5 e),z⟩) fun s' i k hs=>?_;exact rt _ _ _ _ _ (.widen mx e raw z hs.1 hs.2)
 rw[hi x s e]at z;obtain⟨t,b,ps,us,rs,rfl,g⟩:=k8 h e z;exact dd_grp hd hQ h hk mx e g mn rt
end
theorem ah{w:W}(hd:Vf w.C)(hS:PPs (cl w.C "_law_plains"))(hP:PPl (cl w.C "_law_plain"))(hR:PPd (cl w.C "_law_parted"))(hN:PNr (cl w.C "_law_near"))(hQ:N4 (cl w.C "_law_part")):PDd (wF J8 w):=fun {zs i k ns root XY} h=>by
 refine Zy rfl fun D rt _=>?_;have l6:=h.l;have l0:0<ns.length:=List.length_pos_of_mem h.root;have pm:=SRT.Z4 ns;have ls:=pm.length_eq;refine Me h.raw.k (by omega) ?_;refine Zl hd (by rw[Zu];omega) (by rw[Zu];omega) fun r i1 k1 h0 h1=>?_;rw[Zu]at h1;refine Ul h0 h1 fun x mx=>?_;have mx:=pm.mem_iff.mp mx;obtain⟨s,e,raw⟩:=h.raw.get mx;refine Ka e ?_;refine Zg (hS h) fun y ⟨pk,ey,hk,gk,hi⟩=>?_;subst ey;refine tmpP hk ?_;refine Zl hd (by omega) (by omega) fun r i2 k2 h0 h1=>?_;refine B3 (zs:=N7) h0 h1 fun n mn=>?_;have mn:=n7_in n mn;refine Zl hd (by omega) (by omega) fun wy i2 k2 w0 w1=>?_;have rt':∀t i' k' (s1:Sl) (q:P),Dd ns XY t->D.rt (.f t) (.o (Zf zs i' k')::s1::q):=fun t i k s1 q ht=>rt _ _ ⟨t,i,k,ht,rfl⟩;refine Zz (b:=decide (wy=0)) (fun _=>?_) fun _=>?_
 .exact aa (D:=⟨fun q=>wS w (Yk [.o (Zf zs i k),.f (mkT root XY)]) (Zs 7 Vt) q D,D.rt,D.bk,D.ct⟩) hd hP hR h hk rt'
 .exact au hd hN hQ h hk hi mx e raw mn rt'
end K62
set_option maxHeartbeats 1000000
namespace K62
open PySem PySem.Spec PyProof.Rows L2 PV
def Wm(x:Sl×ZZ):Prop:=(∃z,x=(.f (.str z),[]))\/∃t,Ek t/\x=(.f t,[])
theorem dd_at{ns:ZG}{XY:ZX}{d:T}(h:Dd ns XY d):∃wd x r,d=.tup (.str wd::.str x::r)/\(wd ≠ "form" -> Zv XY (.inr x)=some ((Zv XY (.inr x)).getD .non)):=by
 cases h with
 | form=>exact⟨_,_,_,rfl,fun z=>absurd rfl z⟩
 | widen _ e=>exact⟨_,_,_,rfl,fun _=>by rw[e];rfl⟩
 | strike _ e=>exact⟨_,_,_,rfl,fun _=>by rw[e];rfl⟩
 | rename _ e=>exact⟨_,_,_,rfl,fun _=>by rw[e];rfl⟩
 | opn _ e=>exact⟨_,_,_,rfl,fun _=>by rw[e];rfl⟩
 | add _ e=>exact⟨_,_,_,rfl,fun _=>by rw[e];rfl⟩
 | arm _ e=>exact⟨_,_,_,rfl,fun _=>by rw[e];rfl⟩
theorem dd_new{ns:ZG}{XY:ZX}{d:T}{x:Str}{r:ZZ}(h:Dd ns XY d)(ok:okD XY d)(e:d=.tup (.str "form" :: .str x::r)):x∈iq/\Zv XY (.inr x)=none:=by
 cases h with
 | form hx=>cases e;exact⟨hx,ok.1 rfl⟩
 | _=>injection e with e;injection e with e _;injection e with e;exact absurd e (by decide)
def Zz1(C:Cs):Prop:=∀{ns:ZG} {root:Str} {XY:ZX} {d:T},Mk ns root XY->ns.length<=6->Dd ns XY d->cNX (C "done" [.f (mkT root XY),.f d]) (fun x=>∃t,Ek t/\x=(.f t,[])) fun e=>∃z,e=(("BadDeed" : Str),T.str z)
theorem af{w:W}(hx:∀z p,w.xe (("BadDeed" : Str),T.str z) p)(hF:PFt (cl w.C "fault_of"))(hFo:iz (cl w.C "form_of"))(hB:PSb (cl w.C "shape_behind"))(hM:PMk (cl w.C "is_make")){ns:ZG}{root:Str}{XY:ZX}{d:T}(h:Mk ns root XY)(l:ns.length<=6)(hd:Dd ns XY d):wF Qm w [.f (mkT root XY),.f d] fun x=>∃t,Ek t/\x=(.f t,[]):=by
 have hF:=hF (root:=root) h.raw.sm hd;obtain⟨wd,x,r,rfl,es⟩:=dd_at hd;have lk:=Ys h.raw.k;refine Zy rfl fun D rt _=>?_;refine Zg hF fun y hy=>?_;rcases hy with ⟨z,rfl⟩ | ⟨rfl,ok⟩
 .exact hx z _
 refine Bg ?_;refine Zg hFo fun y ey=>?_;subst ey;refine Zg (hB hd ok rfl es) fun y ⟨s',ey,hs⟩=>?_;subst ey;refine Bg ?_;refine E4 (by omega) ?_
 have key:∃ns',Ta ns' (Zo XY (.inr x) s')/\root∈ns'/\((∀p∈Zo XY (.inr x) s',N6 p.2)->(∀p∈Zo XY (.inr x) s',∀ps zs,p.2=Gs ps zs->DF (Zo XY (.inr x) s') ps)->Mk ns' root (Zo XY (.inr x) s')):=by
  rcases hs with ⟨rfl,raw⟩ | ⟨hw,mx,raw,hp⟩
  .obtain⟨nx,gn⟩:=dd_new hd ok rfl
   have hx:x ∉ ns:=fun m=>by
    obtain⟨s,e,_⟩:=h.raw.get m;rw[gn]at e;cases e
   have rk:Ta (ns++[x]) (Zo XY (.inr x) s'):=⟨((Gp (x:=x) (v:=s') h.raw.k).resolve_left fun z=>hx z.1).2,fun p m=>by
    rcases M3 m with m | rfl
    .exact(h.raw.r p m).mono fun y my=>List.mem_append_left _ my
    .exact raw,fun y m=>by
    rcases Cj.mp m with m | m
    .exact h.raw.sm y m
    .cases V1.mp m;exact Kw _ nx⟩
   refine⟨_,rk,List.mem_append_left _ h.root,fun ok fit=>⟨rk,List.mem_append_left _ h.root,ok,fit, ?_,by rw[Gn];show _+1<=_;omega⟩⟩;obtain⟨y,my,t,et,zt⟩:=h.pl;refine⟨y,List.mem_append_left _ my,t, ?_,zt⟩;rw[Jx,if_neg fun c=>by cases c;exact hx my];exact et
  .obtain⟨rk,mk⟩:=h.put mx (es hw) raw hp h.root;exact⟨ns,rk,h.root,mk⟩
 obtain⟨ns',rk,mr,mk⟩:=key;refine Yc (hM rk mr) fun b hb=>?_;cases b with
 | true=>exact rt _ _ ⟨_,⟨ns',root,_,rfl,mk (hb rfl).1 (hb rfl).2⟩,rfl⟩
 | false=>exact hx "make" _
theorem j7{w:W}(hD:Zz1 w.C){ns:ZG}{root:Str}{XY:ZX}{d:T}(h:Mk ns root XY)(l:ns.length<=6)(hd:Dd ns XY d):wF Up w [.f (mkT root XY),.f d] Wm:=by
 refine Zy rfl fun D rt _=>?_;refine callX (hD h l hd) (fun y ⟨t,ht,ey⟩=>?_) fun e ⟨z,ez⟩=>?_
 .subst ey;exact rt _ _ (.inr ⟨t,ht,rfl⟩)
 .subst ez;exact rt _ _ (.inl ⟨z,rfl⟩)
end K62
set_option maxHeartbeats 1000000
namespace K62
open PySem PySem.Spec PyProof.Rows L2 PV
def PTr2(K:Kn):Prop:=∀{ns:ZG} {root:Str} {XY:ZX} {d:T},Mk ns root XY->ns.length<=6->Dd ns XY d->K [.f (mkT root XY),.f d] Wm
section
variable{w:W}{zs:ZT}{D:En}
theorem Km(hM:Xb (cl w.C "_law_make"))(hd:Vf w.C)(hN:PNx (cl w.C "_law_next"))(hR:o5 (cl w.C "_law_right")){t t' x:T}{wy:Int}{i k:Int}{s6:Sl}(ht:Ek t)(z6:Ek t')(nx:∀i k s2 s3 s4 s5 s6,D.nx [.f (.lst (zs.map .int)),.o (Zf zs i k),s2,s3,s4,s5,s6]) :
  wS w (Yk [.f (.lst (zs.map .int))]) (Zs 4 (lpB (Zs 1 bu))) [.f (.lst (zs.map .int)),.o (Zf zs i k),.f x,.f t,.f t',.f (.int wy),s6] D:=by
 have more:∀t',Ek t'->∀i k,wS w (Yk [.f (.lst (zs.map .int))]) (Zs 5 (lpB (Zs 1 bu))) [.f (.lst (zs.map .int)),.o (Zf zs i k),.f x,.f t,.f t',.f (.int wy),s6] D:=fun t' z6 i k=>by
  refine Jp (hN z6) fun t' i k z6=>?_;refine Zg (hR ht z6) fun y ey=>?_;subst ey;refine Zg (hR z6 ht) fun y ey=>?_;subst ey;refine Zg (hR ht ht) fun y ey=>?_;subst ey;exact nx _ _ _ _ _ _ _
 refine Zz (b:=decide (wy=4)) (fun _=>?_) fun _=>more t' z6 _ _;refine Zl hd (by omega) (by omega) fun r i k h0 h1=>?_;refine Zz (b:=decide (r=0)) (fun _=>?_) fun _=>more t' z6 _ _;refine Jp hM fun t' i k z6=>?_;exact more t' z6.mk _ _
theorem law_ok(hT:∀zs:ZT,cN (w.C "_law_tape" [.f (.lst (zs.map .int))]) fun x=>x=(.o (Zf zs 0 0),[]))(hd:Vf w.C)(hM:Xb (cl w.C "_law_make"))(hD:PDd (cl w.C "_law_deed"))(hW:PTr2 (cl w.C "_law_tried"))(hN:PNx (cl w.C "_law_next"))(hR:o5 (cl w.C "_law_right"))(zs:ZT):wF Sk w [.f (.lst (zs.map .int))] fun x=>x=(.f (.bl true),[]):=by
 refine Zy rfl fun D rt _=>?_;refine Zg (hT zs) fun y ey=>?_;subst ey;refine Cy (fun rest p=>∃i k s2 s3 s4 s5 s6,p=[.f (.lst (zs.map .int)),.o (Zf zs i k),s2,s3,s4,s5,s6]) ⟨_,_,_,_,_,_,_,rfl⟩ (fun x rest p D' hi nx _=>?_) fun p hi=>?_
 .obtain⟨i,k,s2,s3,s4,s5,s6,rfl⟩:=hi;have nx':∀i k s2 s3 s4 s5 s6,D'.nx [.f (.lst (zs.map .int)),.o (Zf zs i k),s2,s3,s4,s5,s6]:=fun i k s2 s3 s4 s5 s6=>nx _ ⟨_,_,_,_,_,_,_,rfl⟩;refine Jp hM fun t i k ht=>?_;obtain⟨ns,r,XY,rfl,h,l⟩:=ht;have hm:Ek (mkT r XY):=⟨ns,r,XY,rfl,h⟩;refine Zl hd (by omega) (by omega) fun wy i k w0 w1=>?_;refine Zz (b:=decide (wy<3)) (fun _=>?_) fun _=>Km hM hd hN hR hm hm nx';refine Jp (hD h) fun d i k hd'=>?_;refine Zg (hW h l hd') fun y hy=>?_;rcases hy with ⟨z,rfl⟩ | ⟨t,ht,rfl⟩
  .exact Km (D:=D') hM hd hN hR hm hm nx'
  .have ht0:=ht;obtain⟨ns',r',Zp,rfl,h'⟩:=ht;exact Km (D:=D') hM hd hN hR hm ht0 nx'
 .obtain⟨i,k,s2,s3,s4,s5,s6,rfl⟩:=hi;exact rt _ _ rfl
end
noncomputable def tabA:List (Str×Df):=[("is_whole",Vd),("is_item_whole",Ya),("is_number",U0),("is_text",Dl),("is_name",Ux),("rises",Nb),("is_shape",Gz),("are_bounds",V9),("are_members",Yh),("is_struck",Ue),("is_short_tuple",Ym),("is_field",Gx),("is_default",V8),("is_arm",Nt),("is_single_value",Yv),("member_of",Uh),("may_be_left_out",Yj),("is_make",Dr),("form_of",Uj),("is_form",Uq),("are_forms",U1),("fits_in",Dh),("ofs_of",Nd),("fits_default",Vw)]
noncomputable def tabB:List (Str×Df):=[("cannot_follow",Yi),("break_between",Ye),("is_turned",Ui),("life_in",Dn),("fault_of",Gq),("is_deed",Ds),("fault_of_form",Yo),("is_thing_for",Vj),("fault_of_member",Yy),("is_name_beside",Yd),("is_narrower",Vn),("shape_behind",Vq),("renamed",Dc),("_law_tape",Ju),("_law_draw",J0),("_law_plain",Ua),("_law_default",Vc),("_law_part",Ja),("_law_parted",V7),("_law_plains",V6),("_law_make",Je),("_law_alike",Uo),("_law_near",Ji),("_law_turned",V5),("_law_next",Jo),("_law_deed",J8),("_law_form_word",Yu),("_law_follow_word",Yw),("_law_right",Uu),("law",Sk),("done",Qm),("_law_tried",Up)]
def tabL:List (Str×Df):=tabA++tabB
noncomputable def tab(f:Str):Option Df:=(tabL.find? fun p=>decide (p.1=f)).map (·.2)
noncomputable def gl(x:Str):Option T:=if x = "LETTERS" then some (.str LET) else if x = "SIGNS" then some (.str SIG) else if x = "GREATEST_WHOLE" then some (.int 1000000000000000000) else if x = "GREATEST_NUMBER" then some (.int 999) else if x = "LONGEST_TEXT" then some (.int 200) else if x = "LONGEST_NAME" then some (.int 8) else if x = "MOST_PARTS" then some (.int 20) else if x = "MOST_FIELDS" then some (.int 8) else if x = "MOST_FORMS" then some (.int 8) else if x = "is_field" then some (.fn x) else if x = "is_arm" then some (.fn x) else none
abbrev C(n:Nat):Cs:=Cn tab gl n
structure Lv(n:Nat)(D:Cs):Prop where
 e:D=C n
theorem Y8{n:Nat}{D:Cs}{f:Str}{d:Df}{as:List Sl}{Q:Sl×ZZ->Prop}(lv:Lv (n+1) D)(h:∀D xe,Lv n D->wF d ⟨D,gl,xe⟩ as Q)(e:tab f=some d:=by kernel_rfl):cN (D f as) Q:=by
 obtain rfl:=lv.e;exact callW e fun xe=>h _ xe ⟨rfl⟩
theorem cnX{n:Nat}{D:Cs}{f:Str}{d:Df}{as:List Sl}{Q:Sl×ZZ->Prop}{Z:Lc->Prop}(lv:Lv (n+1) D)(h:∀D (X:Lc->Prop),(∀e,Z e->X e)->Lv n D->wF d ⟨D,gl,fun e _=>X e⟩ as Q)(e:tab f=some d:=by kernel_rfl):cNX (D f as) Q Z:=by
 obtain rfl:=lv.e;exact callWX e fun X hz=>h _ X hz ⟨rfl⟩
theorem gG:GL gl:=⟨by kernel_rfl,by kernel_rfl,by kernel_rfl,by kernel_rfl,by kernel_rfl,by kernel_rfl,by kernel_rfl,by kernel_rfl,by kernel_rfl,by kernel_rfl,by kernel_rfl⟩
theorem U4(n:Nat){D:Cs}(lv:Lv (n+1) D):Vf D:=fun a b=>Y8 (d:=J0) lv fun D xe lv=>ak a b
theorem p_wI(n:Nat){D:Cs}(lv:Lv (n+1) D):N0 (cl D "is_whole"):=Y8 (d:=Vd) lv fun D xe lv=>Xc (w:=⟨D,gl,xe⟩)
theorem p_wh(n:Nat){D:Cs}(lv:Lv (n+1) D):H9 (cl D "is_whole"):=fun h=>Y8 (d:=Vd) lv fun D xe lv=>jy (w:=⟨D,gl,xe⟩)  h
theorem p_iw(n:Nat){D:Cs}(lv:Lv (n+2) D):PItW (cl D "is_item_whole"):=Y8 (d:=Ya) lv fun D xe lv=>Ft (w:=⟨D,gl,xe⟩) gG (p_wI n lv)
theorem p_nu(n:Nat){D:Cs}(lv:Lv (n+2) D):m7 (cl D "is_number"):=Y8 (d:=U0) lv fun D xe lv=>zy (w:=⟨D,gl,xe⟩) gG (p_wI n lv)
theorem p_tx(n:Nat){D:Cs}(lv:Lv (n+1) D):m5 (cl D "is_text"):=fun h=>Y8 (d:=Dl) lv fun D xe lv=>t8 (w:=⟨D,gl,xe⟩) gG h
theorem zw(n:Nat){D:Cs}(lv:Lv (n+1) D):B9 (cl D "is_name"):=fun h=>Y8 (d:=Ux) lv fun D xe lv=>su (w:=⟨D,gl,xe⟩) gG h
theorem p_sh(n:Nat){D:Cs}(lv:Lv (n+1) D):Q3 (cl D "is_short_tuple"):=Y8 (d:=Ym) lv fun D xe lv=>wm (w:=⟨D,gl,xe⟩) gG
theorem p_ri(n:Nat){D:Cs}(lv:Lv (n+1) D):o4 (cl D "rises"):=⟨Y8 (d:=Nb) lv fun D xe lv=>(Pe (w:=⟨D,gl,xe⟩)).1,Y8 (d:=Nb) lv fun D xe lv=>(Pe (w:=⟨D,gl,xe⟩)).2⟩
theorem p_st(n:Nat){D:Cs}(lv:Lv (n+3) D):PStk (cl D "is_struck"):=Y8 (d:=Ue) lv fun D xe lv=>X0 (w:=⟨D,gl,xe⟩) (p_sh (n+1) lv) (p_nu n lv) (p_ri (n+1) lv)
theorem p_df(n:Nat){D:Cs}(lv:Lv (n+1) D):Mq (cl D "is_default") fun t=>∃ds,t=.tup ds:=fun h=>Y8 (d:=V8) lv fun D xe lv=>Sy (w:=⟨D,gl,xe⟩)  h
theorem p_ar(n:Nat){D:Cs}(lv:Lv (n+3) D):Mq (cl D "is_arm") fun t=>∃n x o,Sm x/\o.length<=sizeLine/\t=.tup [.int n,.str x,.str o]:=fun h=>Y8 (d:=Nt) lv fun D xe lv=>om (w:=⟨D,gl,xe⟩) (p_nu n lv) (zw (n+1) lv) h
theorem p_fi(n:Nat){D:Cs}(lv:Lv (n+4) D):Mq (cl D "is_field") fun t=>∃n x o ds,Sm x/\o.length<=sizeLine/\t=.tup [.int n,.str x,.str o,.tup ds]:=fun h=>Y8 (d:=Gx) lv fun D xe lv=>xv (w:=⟨D,gl,xe⟩) (p_ar n lv) (p_df (n+2) lv) h
theorem p_mF(n:Nat){D:Cs}(lv:Lv (n+5) D):o8 (cl D "are_members") true "is_field" := fun {ns ps zs} hs hp=>Y8 (d:=Yh) lv fun D xe lv=>C5 (w:=⟨D,gl,xe⟩) (p_sh (n+3) lv) (p_ri (n+3) lv) (p_st (n+1) lv) hp fun p h=>by
 cases h with | mk hn hx ho hd=>cases hd;exact p_fi n lv ⟨_,_,_,_,hx,(hs _ ho).z,rfl⟩
theorem p_mA(n:Nat){D:Cs}(lv:Lv (n+5) D):o8 (cl D "are_members") false "is_arm" := fun {ns ps zs} hs hp=>Y8 (d:=Yh) lv fun D xe lv=>C5 (w:=⟨D,gl,xe⟩) (p_sh (n+3) lv) (p_ri (n+3) lv) (p_st (n+1) lv) hp fun p h=>by
 cases h with | mk hn hx ho hd=>cases hd;exact p_ar (n+1) lv ⟨_,_,_,hx,(hs _ ho).z,rfl⟩
theorem p_bd(n:Nat){D:Cs}(lv:Lv (n+3) D):PBnd (cl D "are_bounds"):=Y8 (d:=V9) lv fun D xe lv=>x9 (w:=⟨D,gl,xe⟩) (p_iw n lv)
theorem p_sp(n:Nat){D:Cs}(lv:Lv (n+6) D):m6 (cl D "is_shape"):=fun a b=>Y8 (d:=Gz) lv fun D xe lv=>wt (w:=⟨D,gl,xe⟩) gG (p_bd (n+2) lv) (p_wI (n+4) lv) (zw (n+4) lv) (p_mF n lv) (p_mA n lv) a b
theorem p_sg(n:Nat){D:Cs}(lv:Lv (n+2) D):PSng (cl D "is_single_value"):=fun a b=>Y8 (d:=Yv) lv fun D xe lv=>X3 (w:=⟨D,gl,xe⟩) (p_wh n lv) (p_tx n lv) a b
theorem p_me(n:Nat){D:Cs}(lv:Lv (n+1) D):m8 (cl D "member_of"):=fun a=>Y8 (d:=Uh) lv fun D xe lv=>zk (w:=⟨D,gl,xe⟩)  a
theorem p_fo(n:Nat){D:Cs}(lv:Lv (n+1) D):m9 (cl D "form_of"):=fun a=>Y8 (d:=Uj) lv fun D xe lv=>u7 (w:=⟨D,gl,xe⟩)  a
theorem p_of(n:Nat){D:Cs}(lv:Lv (n+1) D):POfs (cl D "ofs_of"):=fun a=>Y8 (d:=Nd) lv fun D xe lv=>ofs_ok (w:=⟨D,gl,xe⟩)  a
theorem p_fd(n:Nat){D:Cs}(lv:Lv (n+3) D):PFd (cl D "fits_default"):=fun a b c=>Y8 (d:=Vw) lv fun D xe lv=>gh (w:=⟨D,gl,xe⟩) (p_sg n lv) a b c
theorem p_fn(n:Nat){D:Cs}(lv:Lv (n+4) D):PFi (cl D "fits_in"):=fun a b=>Y8 (d:=Dh) lv fun D xe lv=>gr (w:=⟨D,gl,xe⟩) (p_of (n+2) lv) (p_fd n lv) a b
theorem p_fs(n:Nat){D:Cs}(lv:Lv (n+7) D):PFms (cl D "are_forms"):=fun a=>Y8 (d:=U1) lv fun D xe lv=>gj (w:=⟨D,gl,xe⟩) gG (zw (n+5) lv) (p_sp n lv) a
theorem p_mk(n:Nat){D:Cs}(lv:Lv (n+8) D):PMk (cl D "is_make"):=fun a b=>Y8 (d:=Dr) lv fun D xe lv=>zp (w:=⟨D,gl,xe⟩) (p_fs n lv) (zw (n+6) lv) (p_fn (n+3) lv) a b
theorem p_pl(n:Nat){D:Cs}(lv:Lv (n+2) D):PPl (cl D "_law_plain"):=fun a b c=>Y8 (d:=Ua) lv fun D xe lv=>vr (w:=⟨D,gl,xe⟩) (U4 n lv) a b c
theorem p_de(n:Nat){D:Cs}(lv:Lv (n+2) D):PDf (cl D "_law_default"):=fun a=>Y8 (d:=Vc) lv fun D xe lv=>Hm (w:=⟨D,gl,xe⟩) (U4 n lv) a
theorem p_pa(n:Nat){D:Cs}(lv:Lv (n+3) D):N4 (cl D "_law_part"):=fun a b c d e=>Y8 (d:=Ja) lv fun D xe lv=>r0 (w:=⟨D,gl,xe⟩) (U4 (n+1) lv) (p_de n lv) a b c d e
theorem p_pd(n:Nat){D:Cs}(lv:Lv (n+4) D):PPd (cl D "_law_parted"):=fun a b c d=>Y8 (d:=V7) lv fun D xe lv=>zj (w:=⟨D,gl,xe⟩) (U4 (n+2) lv) (p_pa n lv) a b c d
theorem p_ps(n:Nat){D:Cs}(lv:Lv (n+1) D):PPs (cl D "_law_plains"):=fun a=>Y8 (d:=V6) lv fun D xe lv=>zq (w:=⟨D,gl,xe⟩)  a
theorem p_ma(n:Nat){D:Cs}(lv:Lv (n+5) D):Xb (cl D "_law_make"):=Y8 (d:=Je) lv fun D xe lv=>pf (w:=⟨D,gl,xe⟩) (U4 (n+3) lv) (p_pl (n+2) lv) (p_pd n lv)
theorem p_ne(n:Nat){D:Cs}(lv:Lv (n+2) D):PNr (cl D "_law_near"):=fun a=>Y8 (d:=Ji) lv fun D xe lv=>sr (w:=⟨D,gl,xe⟩) (U4 n lv) a
theorem p_tu(n:Nat){D:Cs}(lv:Lv (n+9) D):PTn (cl D "_law_turned"):=fun a=>Y8 (d:=V5) lv fun D xe lv=>Xn (w:=⟨D,gl,xe⟩) (U4 (n+7) lv) (p_pl (n+6) lv) (p_pa (n+5) lv) (p_ps (n+7) lv) (p_ne (n+6) lv) (p_mk n lv) a
theorem p_nx(n:Nat){D:Cs}(lv:Lv (n+10) D):PNx (cl D "_law_next"):=fun a=>Y8 (d:=Jo) lv fun D xe lv=>sk (w:=⟨D,gl,xe⟩) (U4 (n+8) lv) (p_tu n lv) a
theorem p_al(n:Nat){D:Cs}(lv:Lv (n+1) D):PAlk (cl D "_law_alike"):=fun a=>Y8 (d:=Uo) lv fun D xe lv=>m3 (w:=⟨D,gl,xe⟩) a
theorem p_lf(n:Nat){D:Cs}(lv:Lv (n+2) D):PLf (cl D "life_in"):=fun a b c=>Y8 (d:=Dn) lv fun D xe lv=>pn (w:=⟨D,gl,xe⟩) (p_me n lv) a b c
theorem p_tr(n:Nat){D:Cs}(lv:Lv (n+1) D):PTr (cl D "is_turned"):=fun a b=>Y8 (d:=Ui) lv fun D xe lv=>Om (w:=⟨D,gl,xe⟩) a b
theorem p_bw(n:Nat){D:Cs}(lv:Lv (n+3) D):PBw (cl D "break_between"):=fun a b=>Y8 (d:=Ye) lv fun D xe lv=>b8 (w:=⟨D,gl,xe⟩) (p_me (n+1) lv) (p_lf n lv) (p_tr (n+1) lv) a b
theorem p_f2(n:Nat){D:Cs}(lv:Lv (n+1) D):iz (cl D "form_of"):=Y8 (d:=Uj) lv fun D xe lv=>gv (w:=⟨D,gl,xe⟩)
theorem p_cf(n:Nat){D:Cs}(lv:Lv (n+4) D):PCf (cl D "cannot_follow"):=fun a b=>Y8 (d:=Yi) lv fun D xe lv=>xj (w:=⟨D,gl,xe⟩) (p_f2 (n+2) lv) (p_bw n lv) a b
theorem p_fw(n:Nat){D:Cs}(lv:Lv (n+1) D):PFw (cl D "_law_form_word"):=fun a b c=>Y8 (d:=Yu) lv fun D xe lv=>gq (w:=⟨D,gl,xe⟩) a b c
theorem p_lw(n:Nat){D:Cs}(lv:Lv (n+2) D):PCf (cl D "_law_follow_word"):=fun a b=>Y8 (d:=Yw) lv fun D xe lv=>Kl (w:=⟨D,gl,xe⟩) (p_fw n lv) a b
theorem p_rt(n:Nat){D:Cs}(lv:Lv (n+5) D):o5 (cl D "_law_right"):=fun a b=>Y8 (d:=Uu) lv fun D xe lv=>vq (w:=⟨D,gl,xe⟩) (p_al (n+3) lv) (p_lw (n+2) lv) (p_cf n lv) a b
theorem p_id(n:Nat){D:Cs}(lv:Lv (n+1) D):PId (cl D "is_deed"):=fun a=>Y8 (d:=Ds) lv fun D xe lv=>za (w:=⟨D,gl,xe⟩) a
theorem p_nw(n:Nat){D:Cs}(lv:Lv (n+1) D):o7 (cl D "is_name"):=fun a=>Y8 (d:=Ux) lv fun D xe lv=>Kv (w:=⟨D,gl,xe⟩) gG a
theorem p_in(n:Nat){D:Cs}(lv:Lv (n+2) D):PIfN (cl D "is_form"):=fun a=>Y8 (d:=Uq) lv fun D xe lv=>K1 (w:=⟨D,gl,xe⟩) (p_nw n lv) a
theorem p_if(n:Nat){D:Cs}(lv:Lv (n+2) D):PIf (cl D "is_form"):=fun a=>Y8 (d:=Uq) lv fun D xe lv=>zu (w:=⟨D,gl,xe⟩) (zw n lv) a
theorem p_ff(n:Nat){D:Cs}(lv:Lv (n+7) D):PFf (cl D "fault_of_form"):=fun a b c=>Y8 (d:=Yo) lv fun D xe lv=>Qb (w:=⟨D,gl,xe⟩) (p_nw (n+5) lv) (p_in (n+4) lv) (p_sp n lv) a b c
theorem p_ml(n:Nat){D:Cs}(lv:Lv (n+1) D):PMl (cl D "may_be_left_out"):=fun a=>Y8 (d:=Yj) lv fun D xe lv=>p6 (w:=⟨D,gl,xe⟩) a
theorem p_th(n:Nat){D:Cs}(lv:Lv (n+7) D):PTh (cl D "is_thing_for"):=fun a b c=>Y8 (d:=Vj) lv fun D xe lv=>wz (w:=⟨D,gl,xe⟩) (p_fi (n+2) lv) (p_nu (n+4) lv) (zw (n+5) lv) (p_sp n lv) (p_ar (n+3) lv) a b c
theorem p_bs(n:Nat){D:Cs}(lv:Lv (n+1) D):PBs (cl D "is_name_beside"):=fun a=>Y8 (d:=Yd) lv fun D xe lv=>qz (w:=⟨D,gl,xe⟩) a
theorem p_na(n:Nat){D:Cs}(lv:Lv (n+1) D):PNw (cl D "is_narrower"):=fun a b c d=>Y8 (d:=Vn) lv fun D xe lv=>Oj (w:=⟨D,gl,xe⟩) a b c d
theorem p_fm(n:Nat){D:Cs}(lv:Lv (n+2) D):PFm (cl D "fault_of_member"):=fun a b c d=>Y8 (d:=Yy) lv fun D xe lv=>Kg (w:=⟨D,gl,xe⟩) (p_me n lv) (p_bs n lv) (p_ml n lv) a b c d
theorem p_ft(n:Nat){D:Cs}(lv:Lv (n+8) D):PFt (cl D "fault_of"):=fun a b=>Y8 (d:=Gq) lv fun D xe lv=>gu (w:=⟨D,gl,xe⟩) (p_id (n+6) lv) (p_ff n lv) (p_if (n+5) lv) (p_fo (n+6) lv) (p_th n lv) (p_na (n+6) lv) (p_fm (n+5) lv) a b
theorem p_rn(n:Nat){D:Cs}(lv:Lv (n+1) D):PRn (cl D "renamed"):=fun a b=>Y8 (d:=Dc) lv fun D xe lv=>E1 (w:=⟨D,gl,xe⟩) a b
theorem p_sb(n:Nat){D:Cs}(lv:Lv (n+2) D):PSb (cl D "shape_behind"):=fun a b c d=>Y8 (d:=Vq) lv fun D xe lv=>qx (w:=⟨D,gl,xe⟩) (p_rn n lv) a b c d
theorem p_dn(n:Nat){D:Cs}(lv:Lv (n+9) D):Zz1 D:=fun a b c=>cnX (d:=Qm) lv fun D X hz lv=>af (w:=⟨D,gl,fun e _=>X e⟩) (fun z p=>hz _ ⟨z,rfl⟩) (p_ft n lv) (p_f2 (n+7) lv) (p_sb (n+6) lv) (p_mk n lv) a b c
theorem p_ti(n:Nat){D:Cs}(lv:Lv (n+10) D):PTr2 (cl D "_law_tried"):=fun a b c=>Y8 (d:=Up) lv fun D xe lv=>j7 (w:=⟨D,gl,xe⟩) (p_dn n lv) a b c
theorem p_dd(n:Nat){D:Cs}(lv:Lv (n+5) D):PDd (cl D "_law_deed"):=fun a=>Y8 (d:=J8) lv fun D xe lv=>ah (w:=⟨D,gl,xe⟩) (U4 (n+3) lv) (p_ps (n+3) lv) (p_pl (n+2) lv) (p_pd n lv) (p_ne (n+2) lv) (p_pa (n+1) lv) a
theorem yi(zs:ZT):Cn tab gl 13 "law" [.f (.lst (zs.map .int))] (fun x=>x=(.f (.bl true),[])) fun _=>False :=
 (Y8 (d:=Sk) (n:=12) (D:=C 13) ⟨rfl⟩ fun D xe lv=>law_ok (w:=⟨D,gl,xe⟩) (fun zs=>Y8 (d:=Ju) lv fun D xe lv=>t9 zs) (U4 11 lv) (p_ma 7 lv) (p_dd 7 lv) (p_ti 2 lv) (p_nx 2 lv) (p_rt 7 lv) zs:cN (C 13 "law" [.f (.lst (zs.map .int))]) fun x=>x=(.f (.bl true),[])) _ _ fun _ h=>h
theorem Sx:FC "is_whole" (top 7) Vd:=fun X G A=>A.fc (N:=["thing","low","high"]) X G (by decide +kernel) fun _ _ _ _ _ _ us hl=>by obtain⟨_,_,_,rfl⟩:=us3 hl;rfl
theorem Bt:FC "is_item_whole" (top 8) Ya:=fun X G A=>A.fc (N:=["thing"]) X G (by decide +kernel) fun _ _ _ _ _ _ us hl=>by obtain⟨_,rfl⟩:=Mh hl;rfl
theorem Qg:FC "is_number" (top 9) U0:=fun X G A=>A.fc (N:=["thing"]) X G (by decide +kernel) fun _ _ _ _ _ _ us hl=>by obtain⟨_,rfl⟩:=Mh hl;rfl
theorem Hq:FC "is_text" (top 10) Dl:=fun X G A=>A.fc (N:=["thing","most"]) X G (by decide +kernel) fun _ _ _ _ _ _ us hl=>by obtain⟨_,_,rfl⟩:=U7 hl;rfl
theorem Hj:FC "is_name" (top 11) Ux:=fun X G A=>A.fc (N:=["thing"]) X G (by decide +kernel) fun _ _ _ _ _ _ us hl=>by obtain⟨_,rfl⟩:=Mh hl;rfl
theorem gp:FC "rises" (top 12) Nb:=fun X G A=>A.fc (N:=["things"]) X G (by decide +kernel) fun _ _ _ _ _ _ us hl=>by obtain⟨_,rfl⟩:=Mh hl;rfl
theorem Sq:FC "is_shape" (top 16) Gz:=fun X G A=>A.fc (N:=["thing","sort"]) X G (by decide +kernel) fun _ _ _ _ _ _ us hl=>by obtain⟨_,rfl⟩:=Mh hl;rfl
theorem Wc:FC "are_bounds" (top 17) V9:=fun X G A=>A.fc (N:=["low","high"]) X G (by decide +kernel) fun _ _ _ _ _ _ us hl=>by obtain⟨_,_,rfl⟩:=U7 hl;rfl
theorem Rf:FC "are_members" (top 18) Yh:=fun X G A=>A.fc (N:=["members","struck","is_member","numbers","names"]) X G (by decide +kernel) fun _ _ _ _ _ _ us hl=>by obtain⟨_,_,_,rfl⟩:=us3 hl;rfl
theorem Qk:FC "is_struck" (top 19) Ue:=fun X G A=>A.fc (N:=["thing","taken"]) X G (by decide +kernel) fun _ _ _ _ _ _ us hl=>by obtain⟨_,_,rfl⟩:=U7 hl;rfl
theorem Ny:FC "is_short_tuple" (top 20) Ym:=fun X G A=>A.fc (N:=["thing"]) X G (by decide +kernel) fun _ _ _ _ _ _ us hl=>by obtain⟨_,rfl⟩:=Mh hl;rfl
theorem Sj:FC "is_field" (top 21) Gx:=fun X G A=>A.fc (N:=["thing"]) X G (by decide +kernel) fun _ _ _ _ _ _ us hl=>by obtain⟨_,rfl⟩:=Mh hl;rfl
theorem Wt:FC "is_default" (top 22) V8:=fun X G A=>A.fc (N:=["thing"]) X G (by decide +kernel) fun _ _ _ _ _ _ us hl=>by obtain⟨_,rfl⟩:=Mh hl;rfl
theorem xk:FC "is_arm" (top 23) Nt:=fun X G A=>A.fc (N:=["thing"]) X G (by decide +kernel) fun _ _ _ _ _ _ us hl=>by obtain⟨_,rfl⟩:=Mh hl;rfl
theorem Mc:FC "is_single_value" (top 24) Yv:=fun X G A=>A.fc (N:=["shape","thing"]) X G (by decide +kernel) fun _ _ _ _ _ _ us hl=>by obtain⟨_,_,rfl⟩:=U7 hl;rfl
theorem Qx:FC "member_of" (top 25) Uh:=fun X G A=>A.fc (N:=["shape","number","member"]) X G (by decide +kernel) fun _ _ _ _ _ _ us hl=>by obtain⟨_,_,rfl⟩:=U7 hl;rfl
theorem Mb:FC "may_be_left_out" (top 26) Yj:=fun X G A=>A.fc (N:=["field"]) X G (by decide +kernel) fun _ _ _ _ _ _ us hl=>by obtain⟨_,rfl⟩:=Mh hl;rfl
theorem Hw:FC "is_make" (top 29) Dr:=fun X G A=>A.fc (N:=["thing","root","forms"]) X G (by decide +kernel) fun _ _ _ _ _ _ us hl=>by obtain⟨_,rfl⟩:=Mh hl;rfl
theorem Hk:FC "form_of" (top 30) Uj:=fun X G A=>A.fc (N:=["make","name"]) X G (by decide +kernel) fun _ _ _ _ _ _ us hl=>by obtain⟨_,_,rfl⟩:=U7 hl;rfl
theorem Hv:FC "is_form" (top 31) Uq:=fun X G A=>A.fc (N:=["make","thing"]) X G (by decide +kernel) fun _ _ _ _ _ _ us hl=>by obtain⟨_,_,rfl⟩:=U7 hl;rfl
theorem Qf:FC "are_forms" (top 32) U1:=fun X G A=>A.fc (N:=["thing"]) X G (by decide +kernel) fun _ _ _ _ _ _ us hl=>by obtain⟨_,rfl⟩:=Mh hl;rfl
theorem Hg:FC "fits_in" (top 33) Dh:=fun X G A=>A.fc (N:=["shape","forms"]) X G (by decide +kernel) fun _ _ _ _ _ _ us hl=>by obtain⟨_,_,rfl⟩:=U7 hl;rfl
theorem xy:FC "ofs_of" (top 34) Nd:=fun X G A=>A.fc (N:=["shape"]) X G (by decide +kernel) fun _ _ _ _ _ _ us hl=>by obtain⟨_,rfl⟩:=Mh hl;rfl
theorem Tt:FC "fits_default" (top 35) Vw:=fun X G A=>A.fc (N:=["field","forms","default","shape"]) X G (by decide +kernel) fun _ _ _ _ _ _ us hl=>by obtain⟨_,_,rfl⟩:=U7 hl;rfl
theorem Bn:FC "cannot_follow" (top 37) Yi:=fun X G A=>A.fc (N:=["make","other","name","word"]) X G (by decide +kernel) fun _ _ _ _ _ _ us hl=>by obtain⟨_,_,rfl⟩:=U7 hl;rfl
theorem Bl:FC "break_between" (top 38) Ye:=fun X G A=>A.fc (N:=["shape","later"]) X G (by decide +kernel) fun _ _ _ _ _ _ us hl=>by obtain⟨_,_,rfl⟩:=U7 hl;rfl
theorem Qy:FC "is_turned" (top 39) Ui:=fun X G A=>A.fc (N:=["member","later_member"]) X G (by decide +kernel) fun _ _ _ _ _ _ us hl=>by obtain⟨_,_,rfl⟩:=U7 hl;rfl
theorem Hx:FC "life_in" (top 40) Dn:=fun X G A=>A.fc (N:=["shape","number"]) X G (by decide +kernel) fun _ _ _ _ _ _ us hl=>by obtain⟨_,_,rfl⟩:=U7 hl;rfl
theorem az:FC "done" (top 47) Qm:=fun X G A=>A.fc (N:=["make","deed","word","forms","told"]) X G (by decide +kernel) fun _ _ _ _ _ _ us hl=>by obtain⟨_,_,rfl⟩:=U7 hl;rfl
theorem Sw:FC "fault_of" (top 48) Gq:=fun X G A=>A.fc (N:=["make","deed","shape"]) X G (by decide +kernel) fun _ _ _ _ _ _ us hl=>by obtain⟨_,_,rfl⟩:=U7 hl;rfl
theorem Hy:FC "is_deed" (top 49) Ds:=fun X G A=>A.fc (N:=["thing"]) X G (by decide +kernel) fun _ _ _ _ _ _ us hl=>by obtain⟨_,rfl⟩:=Mh hl;rfl
theorem Bc:FC "fault_of_form" (top 50) Yo:=fun X G A=>A.fc (N:=["make","deed"]) X G (by decide +kernel) fun _ _ _ _ _ _ us hl=>by obtain⟨_,_,rfl⟩:=U7 hl;rfl
theorem Td:FC "is_thing_for" (top 51) Vj:=fun X G A=>A.fc (N:=["deed","word"]) X G (by decide +kernel) fun _ _ _ _ _ _ us hl=>by obtain⟨_,rfl⟩:=Mh hl;rfl
theorem Mn:FC "fault_of_member" (top 52) Yy:=fun X G A=>A.fc (N:=["shape","deed","word","number"]) X G (by decide +kernel) fun _ _ _ _ _ _ us hl=>by obtain⟨_,_,rfl⟩:=U7 hl;rfl
theorem Nk:FC "is_name_beside" (top 53) Yd:=fun X G A=>A.fc (N:=["shape","number","name"]) X G (by decide +kernel) fun _ _ _ _ _ _ us hl=>by obtain⟨_,_,_,rfl⟩:=us3 hl;rfl
theorem Rg:FC "is_narrower" (top 54) Vn:=fun X G A=>A.fc (N:=["shape","other_shape","sort"]) X G (by decide +kernel) fun _ _ _ _ _ _ us hl=>by obtain⟨_,_,rfl⟩:=U7 hl;rfl
theorem Tb:FC "shape_behind" (top 55) Vq:=fun X G A=>A.fc (N:=["shape","deed","word","members","struck"]) X G (by decide +kernel) fun _ _ _ _ _ _ us hl=>by obtain⟨_,_,rfl⟩:=U7 hl;rfl
theorem Hz:FC "renamed" (top 57) Dc:=fun X G A=>A.fc (N:=["member","number","name"]) X G (by decide +kernel) fun _ _ _ _ _ _ us hl=>by obtain⟨_,_,_,rfl⟩:=us3 hl;rfl
theorem O4:FC "_law_tape" (top 59) Ju:=fun X G A=>A.fc (N:=["_law_script"]) X G (by decide +kernel) fun _ _ _ _ _ _ us hl=>by obtain⟨_,rfl⟩:=Mh hl;rfl
theorem O9:FC "_law_draw" (top 60) J0:=fun X G A=>A.fc (N:=["_law_tape_here","_law_many","_law_spot","_law_cell","_law_mixed","_law_found"]) X G (by decide +kernel) fun _ _ _ _ _ _ us hl=>by obtain⟨_,_,rfl⟩:=U7 hl;rfl
theorem Qw:FC "_law_plain" (top 61) Ua:=fun X G A=>A.fc (N:=["_law_tape_here","_law_sort","_law_names","_law_low"]) X G (by decide +kernel) fun _ _ _ _ _ _ us hl=>by obtain⟨_,_,_,rfl⟩:=us3 hl;rfl
theorem Rk:FC "_law_default" (top 62) Vc:=fun X G A=>A.fc (N:=["_law_tape_here","_law_shape"]) X G (by decide +kernel) fun _ _ _ _ _ _ us hl=>by obtain⟨_,_,rfl⟩:=U7 hl;rfl
theorem O5:FC "_law_part" (top 63) Ja:=fun X G A=>A.fc (N:=["_law_tape_here","_law_sort","_law_number","_law_plain_here","_law_names","_law_called","_law_of"]) X G (by decide +kernel) fun _ _ _ _ _ _ us hl=>by obtain⟨_,_,_,_,_,rfl⟩:=us5 hl;rfl
theorem Wd:FC "_law_parted" (top 64) V7:=fun X G A=>A.fc (N:=["_law_tape_here","_law_sort","_law_plain_here","_law_names","_law_some","_law_at","_law_many","_law_parts","_law_shape"]) X G (by decide +kernel) fun _ _ _ _ _ _ us hl=>by obtain⟨_,_,_,_,rfl⟩:=us4 hl;rfl
theorem Wb:FC "_law_plains" (top 65) V6:=fun X G A=>A.fc (N:=["_law_forms","_law_plain_here","_law_name"]) X G (by decide +kernel) fun _ _ _ _ _ _ us hl=>by obtain⟨_,rfl⟩:=Mh hl;rfl
theorem O8:FC "_law_make" (top 66) Je:=fun X G A=>A.fc (N:=["_law_tape_here","_law_words","_law_at","_law_names","_law_sorts","_law_forms","_law_left","_law_name","_law_sort","_law_plain_here"]) X G (by decide +kernel) fun _ _ _ _ _ _ us hl=>by obtain⟨_,rfl⟩:=Mh hl;rfl
theorem Qv:FC "_law_alike" (top 67) Uo:=fun X G A=>A.fc (N:=["_law_due","_law_found"]) X G (by decide +kernel) fun _ _ _ _ _ _ us hl=>by obtain⟨_,_,rfl⟩:=U7 hl;rfl
theorem O7:FC "_law_near" (top 68) Ji:=fun X G A=>A.fc (N:=["_law_tape_here","_law_shape","_law_one"]) X G (by decide +kernel) fun _ _ _ _ _ _ us hl=>by obtain⟨_,_,rfl⟩:=U7 hl;rfl
theorem Wf:FC "_law_turned" (top 69) V5:=fun X G A=>A.fc (N:=["_law_tape_here","_law_make_here","_law_names","_law_name","_law_shape","_law_forms","_law_plain_here","_law_way","_law_parts","_law_struck","_law_rest","_law_at","_law_gone","_law_part_here","_law_made"]) X G (by decide +kernel) fun _ _ _ _ _ _ us hl=>by obtain⟨_,_,rfl⟩:=U7 hl;rfl
theorem O6:FC "_law_next" (top 70) Jo:=fun X G A=>A.fc (N:=["_law_tape_here","_law_make_here","_law_most","_law_k"]) X G (by decide +kernel) fun _ _ _ _ _ _ us hl=>by obtain⟨_,_,_,rfl⟩:=us3 hl;rfl
theorem Sz:FC "_law_deed" (top 71) J8:=fun X G A=>A.fc (N:=["_law_tape_here","_law_make_here","_law_names","_law_name","_law_shape","_law_plain_here","_law_number","_law_way","_law_sort","_law_called","_law_numbers","_law_there"]) X G (by decide +kernel) fun _ _ _ _ _ _ us hl=>by obtain⟨_,_,rfl⟩:=U7 hl;rfl
theorem Qq:FC "_law_tried" (top 72) Up:=fun X G A=>A.fc (N:=["_law_make_here","_law_deed_here","_law_told","e"]) X G (by decide +kernel) fun _ _ _ _ _ _ us hl=>by obtain⟨_,_,rfl⟩:=U7 hl;rfl
theorem Bd:FC "_law_form_word" (top 73) Yu:=fun X G A=>A.fc (N:=["_law_shape","_law_there","_law_mine","_law_theirs"]) X G (by decide +kernel) fun _ _ _ _ _ _ us hl=>by obtain⟨_,_,rfl⟩:=U7 hl;rfl
theorem Mm:FC "_law_follow_word" (top 74) Yw:=fun X G A=>A.fc (N:=["_law_make_here","_law_other","_law_words"]) X G (by decide +kernel) fun _ _ _ _ _ _ us hl=>by obtain⟨_,_,rfl⟩:=U7 hl;rfl
theorem Qj:FC "_law_right" (top 75) Uu:=fun X G A=>A.fc (N:=["_law_make_here","_law_other","_law_ahead"]) X G (by decide +kernel) fun _ _ _ _ _ _ us hl=>by obtain⟨_,_,rfl⟩:=U7 hl;rfl
theorem fc_law:FC "law" (top 76) Sk:=fun X G A=>A.fc (N:=["_law_script","_law_tape_here","_law_k","_law_make_here","_law_other","_law_way","_law_told"]) X G (by decide +kernel) fun _ _ _ _ _ _ us hl=>by obtain⟨_,rfl⟩:=Mh hl;rfl
set_option maxHeartbeats 0 in
theorem all_mk{P:Program}{w:World}{K:W.Frag}{h:Heap}{mg:ZJ}{f1 f2 f3 f4 f5 f6 f7 f8 f9 f10 f11 f12 f13 f14 f15 f16 f17 f18 f19 f20 f21 f22 f23 f24 f25 f26 f27 f28 f29 f30 f31 f32 f33 f34 f35 f36 f37 f38 f39 f40 f41 f42 f43 f44 f45 f46 f47 f48 f49 f50 f51 f52 f53 f54 f55 f56 f57:Addr}{d1 d2 d3 d4 d5 d6 d7 d8 d9 d10 d11 d12 d13 d14 d15 d16 d17 d18 d19 d20 d21 d22 d23 d24 d25 d26 d27 d28 d29 d30 d31 d32 d33 d34 d35 d36 d37 d38 d39 d40 d41 d42 d43 d44 d45 d46 d47 d48 d49 d50 d51 d52 d53 d54 d55 d56 d57:FuncData}{tk0 tk1 tk2 tk3 tk4 tk5 tk6 tk7 tk8:Tok}{mMakeError:Addr}{xBadDeed iBadDeed:Addr}{aSIZES:Addr}{esSIZES:Array DictEntry}{nSIZES:Nat}{aSORTS_FOR:Addr}{esSORTS_FOR:Array DictEntry}{nSORTS_FOR:Nat}(X:K.In h)(G:h.Ns mainGlobals mg)
  (h1:FA K "is_whole" (top 7) f1 d1)
  (h2:FA K "is_item_whole" (top 8) f2 d2)
  (h3:FA K "is_number" (top 9) f3 d3)
  (h4:FA K "is_text" (top 10) f4 d4)
  (h5:FA K "is_name" (top 11) f5 d5)
  (h6:FA K "rises" (top 12) f6 d6)
  (h7:FA K "is_shape" (top 16) f7 d7)
  (h8:FA K "are_bounds" (top 17) f8 d8)
  (h9:FA K "are_members" (top 18) f9 d9)
  (qd:FA K "is_struck" (top 19) f10 d10)
  (h11:FA K "is_short_tuple" (top 20) f11 d11)
  (uu:FA K "is_field" (top 21) f12 d12)
  (h13:FA K "is_default" (top 22) f13 d13)
  (h14:FA K "is_arm" (top 23) f14 d14)
  (h15:FA K "is_single_value" (top 24) f15 d15)
  (h16:FA K "member_of" (top 25) f16 d16)
  (h17:FA K "may_be_left_out" (top 26) f17 d17)
  (h18:FA K "is_make" (top 29) f18 d18)
  (h19:FA K "form_of" (top 30) f19 d19)
  (h20:FA K "is_form" (top 31) f20 d20)
  (h21:FA K "are_forms" (top 32) f21 d21)
  (h22:FA K "fits_in" (top 33) f22 d22)
  (h23:FA K "ofs_of" (top 34) f23 d23)
  (h24:FA K "fits_default" (top 35) f24 d24)
  (h25:FA K "cannot_follow" (top 37) f25 d25)
  (h26:FA K "break_between" (top 38) f26 d26)
  (h27:FA K "is_turned" (top 39) f27 d27)
  (h28:FA K "life_in" (top 40) f28 d28)
  (h29:FA K "done" (top 47) f29 d29)
  (h30:FA K "fault_of" (top 48) f30 d30)
  (h31:FA K "is_deed" (top 49) f31 d31)
  (h32:FA K "fault_of_form" (top 50) f32 d32)
  (h33:FA K "is_thing_for" (top 51) f33 d33)
  (h34:FA K "fault_of_member" (top 52) f34 d34)
  (h35:FA K "is_name_beside" (top 53) f35 d35)
  (h36:FA K "is_narrower" (top 54) f36 d36)
  (h37:FA K "shape_behind" (top 55) f37 d37)
  (h38:FA K "number_of" (top 56) f38 d38)
  (h39:FA K "renamed" (top 57) f39 d39)
  (h40:FA K "_law_tape" (top 59) f40 d40)
  (h41:FA K "_law_draw" (top 60) f41 d41)
  (h42:FA K "_law_plain" (top 61) f42 d42)
  (h43:FA K "_law_default" (top 62) f43 d43)
  (h44:FA K "_law_part" (top 63) f44 d44)
  (h45:FA K "_law_parted" (top 64) f45 d45)
  (h46:FA K "_law_plains" (top 65) f46 d46)
  (h47:FA K "_law_make" (top 66) f47 d47)
  (h48:FA K "_law_alike" (top 67) f48 d48)
  (h49:FA K "_law_near" (top 68) f49 d49)
  (h50:FA K "_law_turned" (top 69) f50 d50)
  (h51:FA K "_law_next" (top 70) f51 d51)
  (h52:FA K "_law_deed" (top 71) f52 d52)
  (h53:FA K "_law_tried" (top 72) f53 d53)
  (h54:FA K "_law_form_word" (top 73) f54 d54)
  (h55:FA K "_law_follow_word" (top 74) f55 d55)
  (h56:FA K "_law_right" (top 75) f56 d56)
  (h57:FA K "law" (top 76) f57 d57)
  (MMakeError:W.nsIn K mainGlobals "MakeError" = some (some (.ref mMakeError)))
  (XBadDeed:W.nsIn K mainGlobals "BadDeed" = some (some (.ref xBadDeed)))
  (IBadDeed:W.findIn K (.ref xBadDeed) "__init__" = some (some (.ref iBadDeed)))
  (JBadDeed:qg K "__init__" "BadDeed.__init__" (inClass (top 43) 0) iBadDeed)
  (FBadDeed:W.isFn K (.ref iBadDeed)=true)
  (OBadDeed:xOk K xBadDeed [.ref xBadDeed,.ref mMakeError] "word" = true)
  (eSIZES:W.nsIn K mainGlobals "SIZES" = some (some (.ref aSIZES)))
  (lSIZES:K.lookup aSIZES=some ⟨.type "dict",none,.dict esSIZES nSIZES, #[]⟩)
  (kSIZES:W.KeysLit w.params esSIZES.toList)
  (oSIZES:(aSIZES == sysModules)=false)
  (tSIZES:xg K ((Cg "SIZES").getD []) esSIZES.toList=true)
  (eSORTS_FOR:W.nsIn K mainGlobals "SORTS_FOR" = some (some (.ref aSORTS_FOR)))
  (lSORTS_FOR:K.lookup aSORTS_FOR=some ⟨.type "dict",none,.dict esSORTS_FOR nSORTS_FOR, #[]⟩)
  (kSORTS_FOR:W.KeysLit w.params esSORTS_FOR.toList)
  (oSORTS_FOR:(aSORTS_FOR == sysModules)=false)
  (tSORTS_FOR:xg K ((Cg "SORTS_FOR").getD []) esSORTS_FOR.toList=true)
  (N9:W.nsIn K mainGlobals "LETTERS" = some (some (.str "abcdefghijklmnopqrstuvwxyz" tk0)))
  (Ls : W.nsIn K mainGlobals "SIGNS" = some (some (.str " !\"#$&'()*+,-./0123456789:;<=>?@ABCDEFGHIJKLMNOPQRSTUVWXYZ[\\]^_`abcdefghijklmnopqrstuvwxyz{|}~" tk1)))
  (Vb:W.nsIn K mainGlobals "GREATEST_WHOLE" = some (some (.int 1000000000000000000 tk2)))
  (Y9:W.nsIn K mainGlobals "GREATEST_NUMBER" = some (some (.int 999 tk3)))
  (Uw:W.nsIn K mainGlobals "LONGEST_TEXT" = some (some (.int 200 tk4)))
  (Uv:W.nsIn K mainGlobals "LONGEST_NAME" = some (some (.int 8 tk5)))
  (Jf:W.nsIn K mainGlobals "MOST_PARTS" = some (some (.int 20 tk6)))
  (U3:W.nsIn K mainGlobals "MOST_FIELDS" = some (some (.int 8 tk7)))
  (Jb:W.nsIn K mainGlobals "MOST_FORMS" = some (some (.int 8 tk8)))
  (jz:W.nsIn K mainGlobals "len" = some none)
  (jw:W.nsIn K mainGlobals "all" = some none)
  (jq:W.nsIn K mainGlobals "any" = some none)
  (Ef:W.nsIn K mainGlobals "list" = some none)
  (Ll:W.nsIn K mainGlobals "tuple" = some none)
  (qe:W.nsIn K mainGlobals "min" = some none)
  (q8:W.nsIn K mainGlobals "max" = some none)
  (jx:W.nsIn K mainGlobals "int" = some none)
  (jv:W.nsIn K mainGlobals "abs" = some none)
  (Eb:W.nsIn K mainGlobals "dict" = some none)
  (Jg:W.nsIn K mainGlobals "isinstance" = some none)
  (Cv:W.nsIn K mainGlobals "sorted" = some none)
  (qi:W.nsIn K mainGlobals "set" = some none)
  (Lr:W.nsIn K mainGlobals "range" = some none)
  (qu:W.nsIn K mainGlobals "zip" = some none)
  (Gr:W.nsIn K mainGlobals "enumerate" = some none)
  (qa:W.nsIn K mainGlobals "sum" = some none)
  (Eg:W.nsIn K mainGlobals "repr" = some none)
  (qo:W.nsIn K mainGlobals "str" = some none)
  (Em:W.nsIn K mainGlobals "bool" = some none)
  : BN ⟨P,w,mg,K,h⟩/\(∀f d,tab f=some d->V2 ⟨P,w,mg,K,h⟩ f d)/\qk ⟨P,w,mg,K,h⟩ gl:=by
 have fA:∀p∈tabA,V2 ⟨P,w,mg,K,h⟩ p.1 p.2:=by
  unfold tabA;refine Zd.mpr ⟨Sx (g:=⟨P,w,mg,K,h⟩) X G h1,Zd.mpr ⟨Bt (g:=⟨P,w,mg,K,h⟩) X G h2,Zd.mpr ⟨Qg (g:=⟨P,w,mg,K,h⟩) X G h3,Zd.mpr ⟨Hq (g:=⟨P,w,mg,K,h⟩) X G h4,Zd.mpr ⟨Hj (g:=⟨P,w,mg,K,h⟩) X G h5,Zd.mpr ⟨gp (g:=⟨P,w,mg,K,h⟩) X G h6,Zd.mpr ⟨Sq (g:=⟨P,w,mg,K,h⟩) X G h7,Zd.mpr ⟨Wc (g:=⟨P,w,mg,K,h⟩) X G h8,Zd.mpr ⟨Rf (g:=⟨P,w,mg,K,h⟩) X G h9,Zd.mpr ⟨Qk (g:=⟨P,w,mg,K,h⟩) X G qd,Zd.mpr ⟨Ny (g:=⟨P,w,mg,K,h⟩) X G h11,Zd.mpr ⟨Sj (g:=⟨P,w,mg,K,h⟩) X G uu,Zd.mpr ⟨Wt (g:=⟨P,w,mg,K,h⟩) X G h13,Zd.mpr ⟨xk (g:=⟨P,w,mg,K,h⟩) X G h14,Zd.mpr ⟨Mc (g:=⟨P,w,mg,K,h⟩) X G h15,Zd.mpr ⟨Qx (g:=⟨P,w,mg,K,h⟩) X G h16,Zd.mpr ⟨Mb (g:=⟨P,w,mg,K,h⟩) X G h17,Zd.mpr ⟨Hw (g:=⟨P,w,mg,K,h⟩) X G h18,Zd.mpr ⟨Hk (g:=⟨P,w,mg,K,h⟩) X G h19,Zd.mpr ⟨Hv (g:=⟨P,w,mg,K,h⟩) X G h20,Zd.mpr ⟨Qf (g:=⟨P,w,mg,K,h⟩) X G h21,Zd.mpr ⟨Hg (g:=⟨P,w,mg,K,h⟩) X G h22,Zd.mpr ⟨xy (g:=⟨P,w,mg,K,h⟩) X G h23,Zd.mpr ⟨Tt (g:=⟨P,w,mg,K,h⟩) X G h24,fun _ m=>absurd m Tz⟩⟩⟩⟩⟩⟩⟩⟩⟩⟩⟩⟩⟩⟩⟩⟩⟩⟩⟩⟩⟩⟩⟩⟩
 have fB:∀p∈tabB,V2 ⟨P,w,mg,K,h⟩ p.1 p.2:=by
  unfold tabB;refine Zd.mpr ⟨Bn (g:=⟨P,w,mg,K,h⟩) X G h25,Zd.mpr ⟨Bl (g:=⟨P,w,mg,K,h⟩) X G h26,Zd.mpr ⟨Qy (g:=⟨P,w,mg,K,h⟩) X G h27,Zd.mpr ⟨Hx (g:=⟨P,w,mg,K,h⟩) X G h28,Zd.mpr ⟨Sw (g:=⟨P,w,mg,K,h⟩) X G h30,Zd.mpr ⟨Hy (g:=⟨P,w,mg,K,h⟩) X G h31,Zd.mpr ⟨Bc (g:=⟨P,w,mg,K,h⟩) X G h32,Zd.mpr ⟨Td (g:=⟨P,w,mg,K,h⟩) X G h33,Zd.mpr ⟨Mn (g:=⟨P,w,mg,K,h⟩) X G h34,Zd.mpr ⟨Nk (g:=⟨P,w,mg,K,h⟩) X G h35,Zd.mpr ⟨Rg (g:=⟨P,w,mg,K,h⟩) X G h36,Zd.mpr ⟨Tb (g:=⟨P,w,mg,K,h⟩) X G h37,Zd.mpr ⟨Hz (g:=⟨P,w,mg,K,h⟩) X G h39,Zd.mpr ⟨O4 (g:=⟨P,w,mg,K,h⟩) X G h40,Zd.mpr ⟨O9 (g:=⟨P,w,mg,K,h⟩) X G h41,Zd.mpr ⟨Qw (g:=⟨P,w,mg,K,h⟩) X G h42,Zd.mpr ⟨Rk (g:=⟨P,w,mg,K,h⟩) X G h43,Zd.mpr ⟨O5 (g:=⟨P,w,mg,K,h⟩) X G h44,Zd.mpr ⟨Wd (g:=⟨P,w,mg,K,h⟩) X G h45,Zd.mpr ⟨Wb (g:=⟨P,w,mg,K,h⟩) X G h46,Zd.mpr ⟨O8 (g:=⟨P,w,mg,K,h⟩) X G h47,Zd.mpr ⟨Qv (g:=⟨P,w,mg,K,h⟩) X G h48,Zd.mpr ⟨O7 (g:=⟨P,w,mg,K,h⟩) X G h49,Zd.mpr ⟨Wf (g:=⟨P,w,mg,K,h⟩) X G h50,Zd.mpr ⟨O6 (g:=⟨P,w,mg,K,h⟩) X G h51,Zd.mpr ⟨Sz (g:=⟨P,w,mg,K,h⟩) X G h52,Zd.mpr ⟨Bd (g:=⟨P,w,mg,K,h⟩) X G h54,Zd.mpr ⟨Mm (g:=⟨P,w,mg,K,h⟩) X G h55,Zd.mpr ⟨Qj (g:=⟨P,w,mg,K,h⟩) X G h56,Zd.mpr ⟨fc_law (g:=⟨P,w,mg,K,h⟩) X G h57,Zd.mpr ⟨az (g:=⟨P,w,mg,K,h⟩) X G h29,Zd.mpr ⟨Qq (g:=⟨P,w,mg,K,h⟩) X G h53,fun _ m=>absurd m Tz⟩⟩⟩⟩⟩⟩⟩⟩⟩⟩⟩⟩⟩⟩⟩⟩⟩⟩⟩⟩⟩⟩⟩⟩⟩⟩⟩⟩⟩⟩⟩⟩
 have ft:∀p∈tabL,V2 ⟨P,w,mg,K,h⟩ p.1 p.2:=fun p m=>(Cj.mp m).elim (fA p) (fB p)
 have bl:∀x∈Dw,mg x=none:=by
  unfold Dw;refine Zd.mpr ⟨W.mg_none_of X G jz,Zd.mpr ⟨W.mg_none_of X G jw,Zd.mpr ⟨W.mg_none_of X G jq,Zd.mpr ⟨W.mg_none_of X G Ef,Zd.mpr ⟨W.mg_none_of X G Ll,Zd.mpr ⟨W.mg_none_of X G qe,Zd.mpr ⟨W.mg_none_of X G q8,Zd.mpr ⟨W.mg_none_of X G jx,Zd.mpr ⟨W.mg_none_of X G jv,Zd.mpr ⟨W.mg_none_of X G Eb,Zd.mpr ⟨W.mg_none_of X G Jg,Zd.mpr ⟨W.mg_none_of X G Cv,Zd.mpr ⟨W.mg_none_of X G qi,Zd.mpr ⟨W.mg_none_of X G Lr,Zd.mpr ⟨W.mg_none_of X G qu,Zd.mpr ⟨W.mg_none_of X G Gr,Zd.mpr ⟨W.mg_none_of X G qa,Zd.mpr ⟨W.mg_none_of X G Eg,Zd.mpr ⟨W.mg_none_of X G qo,Zd.mpr ⟨W.mg_none_of X G Em,fun _ m=>absurd m Tz⟩⟩⟩⟩⟩⟩⟩⟩⟩⟩⟩⟩⟩⟩⟩⟩⟩⟩⟩⟩
 have bd:∀x∈Dz,∃a,mg x=some (.ref a)/\W.keepIn K (.ref a)=true:=by
  unfold Dz;refine Zd.mpr ⟨h1.at (g:=⟨P,w,mg,K,h⟩) X G,Zd.mpr ⟨h2.at (g:=⟨P,w,mg,K,h⟩) X G,Zd.mpr ⟨h3.at (g:=⟨P,w,mg,K,h⟩) X G,Zd.mpr ⟨h4.at (g:=⟨P,w,mg,K,h⟩) X G,Zd.mpr ⟨h5.at (g:=⟨P,w,mg,K,h⟩) X G,Zd.mpr ⟨h6.at (g:=⟨P,w,mg,K,h⟩) X G,Zd.mpr ⟨h7.at (g:=⟨P,w,mg,K,h⟩) X G,Zd.mpr ⟨h8.at (g:=⟨P,w,mg,K,h⟩) X G,Zd.mpr ⟨h9.at (g:=⟨P,w,mg,K,h⟩) X G,Zd.mpr ⟨qd.at (g:=⟨P,w,mg,K,h⟩) X G,Zd.mpr ⟨h11.at (g:=⟨P,w,mg,K,h⟩) X G,Zd.mpr ⟨uu.at (g:=⟨P,w,mg,K,h⟩) X G,Zd.mpr ⟨h13.at (g:=⟨P,w,mg,K,h⟩) X G,Zd.mpr ⟨h14.at (g:=⟨P,w,mg,K,h⟩) X G,Zd.mpr ⟨h15.at (g:=⟨P,w,mg,K,h⟩) X G,Zd.mpr ⟨h16.at (g:=⟨P,w,mg,K,h⟩) X G,Zd.mpr ⟨h17.at (g:=⟨P,w,mg,K,h⟩) X G,Zd.mpr ⟨h18.at (g:=⟨P,w,mg,K,h⟩) X G,Zd.mpr ⟨h19.at (g:=⟨P,w,mg,K,h⟩) X G,Zd.mpr ⟨h20.at (g:=⟨P,w,mg,K,h⟩) X G,Zd.mpr ⟨h21.at (g:=⟨P,w,mg,K,h⟩) X G,Zd.mpr ⟨h22.at (g:=⟨P,w,mg,K,h⟩) X G,Zd.mpr ⟨h23.at (g:=⟨P,w,mg,K,h⟩) X G,Zd.mpr ⟨h24.at (g:=⟨P,w,mg,K,h⟩) X G,Zd.mpr ⟨h25.at (g:=⟨P,w,mg,K,h⟩) X G,Zd.mpr ⟨h26.at (g:=⟨P,w,mg,K,h⟩) X G,Zd.mpr ⟨h27.at (g:=⟨P,w,mg,K,h⟩) X G,Zd.mpr ⟨h28.at (g:=⟨P,w,mg,K,h⟩) X G,Zd.mpr ⟨h30.at (g:=⟨P,w,mg,K,h⟩) X G,Zd.mpr ⟨h31.at (g:=⟨P,w,mg,K,h⟩) X G,Zd.mpr ⟨h32.at (g:=⟨P,w,mg,K,h⟩) X G,Zd.mpr ⟨h33.at (g:=⟨P,w,mg,K,h⟩) X G,Zd.mpr ⟨h34.at (g:=⟨P,w,mg,K,h⟩) X G,Zd.mpr ⟨h35.at (g:=⟨P,w,mg,K,h⟩) X G,Zd.mpr ⟨h36.at (g:=⟨P,w,mg,K,h⟩) X G,Zd.mpr ⟨h37.at (g:=⟨P,w,mg,K,h⟩) X G,Zd.mpr ⟨h39.at (g:=⟨P,w,mg,K,h⟩) X G,Zd.mpr ⟨h40.at (g:=⟨P,w,mg,K,h⟩) X G,Zd.mpr ⟨h41.at (g:=⟨P,w,mg,K,h⟩) X G,Zd.mpr ⟨h42.at (g:=⟨P,w,mg,K,h⟩) X G,Zd.mpr ⟨h43.at (g:=⟨P,w,mg,K,h⟩) X G,Zd.mpr ⟨h44.at (g:=⟨P,w,mg,K,h⟩) X G,Zd.mpr ⟨h45.at (g:=⟨P,w,mg,K,h⟩) X G,Zd.mpr ⟨h46.at (g:=⟨P,w,mg,K,h⟩) X G,Zd.mpr ⟨h47.at (g:=⟨P,w,mg,K,h⟩) X G,Zd.mpr ⟨h48.at (g:=⟨P,w,mg,K,h⟩) X G,Zd.mpr ⟨h49.at (g:=⟨P,w,mg,K,h⟩) X G,Zd.mpr ⟨h50.at (g:=⟨P,w,mg,K,h⟩) X G,Zd.mpr ⟨h51.at (g:=⟨P,w,mg,K,h⟩) X G,Zd.mpr ⟨h52.at (g:=⟨P,w,mg,K,h⟩) X G,Zd.mpr ⟨h54.at (g:=⟨P,w,mg,K,h⟩) X G,Zd.mpr ⟨h55.at (g:=⟨P,w,mg,K,h⟩) X G,Zd.mpr ⟨h56.at (g:=⟨P,w,mg,K,h⟩) X G,Zd.mpr ⟨h29.at (g:=⟨P,w,mg,K,h⟩) X G,Zd.mpr ⟨h53.at (g:=⟨P,w,mg,K,h⟩) X G,Zd.mpr ⟨h38.at (g:=⟨P,w,mg,K,h⟩) X G,fun _ m=>absurd m Tz⟩⟩⟩⟩⟩⟩⟩⟩⟩⟩⟩⟩⟩⟩⟩⟩⟩⟩⟩⟩⟩⟩⟩⟩⟩⟩⟩⟩⟩⟩⟩⟩⟩⟩⟩⟩⟩⟩⟩⟩⟩⟩⟩⟩⟩⟩⟩⟩⟩⟩⟩⟩⟩⟩⟩⟩
 have bt:∀x XY,Cg x=some XY->TopF ⟨P,w,mg,K,h⟩ x XY:=fun x XY e=>by
  have e0:=e;unfold Cg at e0
  split at e0
  .rename_i z;subst z;cases e0;exact As (g:=⟨P,w,mg,K,h⟩) X G eSIZES lSIZES kSIZES oSIZES tSIZES (by decide +kernel) (by decide)
  split at e0
  .rename_i z;subst z;cases e0;exact As (g:=⟨P,w,mg,K,h⟩) X G eSORTS_FOR lSORTS_FOR kSORTS_FOR oSORTS_FOR tSORTS_FOR (by decide +kernel) (by decide)
  cases e0
 have bk:Dz.contains C9=true->ij ⟨P,w,mg,K,h⟩:=fun _=>uv (g:=⟨P,w,mg,K,h⟩) (i:=0) X G h38 rfl rfl rfl
 have bx:∀d∈D3,∃C fi,XF ⟨P,w,mg,K,h⟩ d C fi:=by
  unfold D3;refine Zd.mpr ⟨⟨xBadDeed,iBadDeed,xf_of (g:=⟨P,w,mg,K,h⟩) (d:=⟨"BadDeed","word",["BadDeed","MakeError","ValueError"]⟩) (W.mg_of X G XBadDeed) OBadDeed IBadDeed FBadDeed (JBadDeed.i (y:="word") ⟨rfl,rfl,rfl,by decide +kernel,rfl,by decide +kernel,by decide +kernel⟩ rfl rfl (by decide) ⟨_,_,_,_,rfl⟩ fun _ _ _ _ _ _ us hl=>by obtain⟨_,_,rfl⟩:=U7 hl;rfl)⟩,fun _ m=>absurd m Tz⟩
 have bh:∀c∈xl,∃D,mg c=some (.ref D)/\Wu K D/\∀d∈D3,∀C,mg d.c=some (.ref C)->W.mroIn K C (.ref D)=some (Pt d.c c):=by
  unfold xl
  refine Zd.mpr ⟨⟨xBadDeed,W.mg_of X G XBadDeed,(Ed (as:=[mMakeError]) OBadDeed).xc,by
   unfold D3;refine Zd.mpr ⟨fun C q=>by
   have q:=(W.mg_of X G XBadDeed).symm.trans q;cases q;exact(yt (g:=⟨P,w,mg,K,h⟩) (d:=⟨"BadDeed","word",[]⟩) OBadDeed).trans (by decide +kernel),fun _ m=>absurd m Tz⟩⟩,fun _ m=>absurd m Tz⟩
 refine⟨⟨bl,bd,bt,bk,bx,bh⟩,tab_of ft,fun x t e=>?_⟩;unfold gl at e
 split at e
 .rename_i z;subst z;cases e;exact⟨_,W.mg_of X G N9,.str⟩
 split at e
 .rename_i z;subst z;cases e;exact⟨_,W.mg_of X G Ls,.str⟩
 split at e
 .rename_i z;subst z;cases e;exact⟨_,W.mg_of X G Vb,.int⟩
 split at e
 .rename_i z;subst z;cases e;exact⟨_,W.mg_of X G Y9,.int⟩
 split at e
 .rename_i z;subst z;cases e;exact⟨_,W.mg_of X G Uw,.int⟩
 split at e
 .rename_i z;subst z;cases e;exact⟨_,W.mg_of X G Uv,.int⟩
 split at e
 .rename_i z;subst z;cases e;exact⟨_,W.mg_of X G Jf,.int⟩
 split at e
 .rename_i z;subst z;cases e;exact⟨_,W.mg_of X G U3,.int⟩
 split at e
 .rename_i z;subst z;cases e;exact⟨_,W.mg_of X G Jb,.int⟩
 split at e
 .rename_i z;subst z;cases e;exact⟨.ref f12,W.mg_of X G uu.a,.fn (W.mg_of X G uu.a) uu.F.kp⟩
 split at e
 .rename_i z;subst z;cases e;exact⟨.ref f14,W.mg_of X G h14.a,.fn (W.mg_of X G h14.a) h14.F.kp⟩
 cases e
end K62
open PySem PySem.W PyProof.Rows
set_option maxRecDepth 100000 in
set_option maxHeartbeats 0 in
theorem K62.ws:PySem.Challenge.rw_makes_k62_who_can_follow.wellSaid=true:=by
 delta OpenLaw.wellSaid
 iterate 18 refine look_both ?_ ?_
 case _ =>
  delta OpenRow.wellSaid
  refine look_both (look_both ?_ ?_) ?_
  case _ =>
   delta OpenRow.partSaid
   iterate 13 refine look_both ?_ ?_
   case _ =>
    delta looksOpen
    iterate 5 refine look_both ?_ ?_
    all_goals decide +kernel
   all_goals decide +kernel
  all_goals decide +kernel
 all_goals decide +kernel
set_option maxRecDepth 100000 in
set_option maxHeartbeats 0 in
theorem PySem.Challenge.cw_makes_k62_who_can_follow_holds : PySem.Challenge.rw_makes_k62_who_can_follow.Holds := by
 w_on
 refine holds_law K62.ws fun said=>?_
 refine holds_open (q:=K62.viewK) (loose:=K62.Yz) (XP:=XL K62.viewK []) (YP:=Hook.says (W.kHook K62.heapK K62.asK K62.Qo)) (N:=5086)
  K62.leftK (Hook.of (W.kHook K62.heapK K62.asK K62.Qo)) (Hook.keeps (W.kHook K62.heapK K62.asK K62.Qo)) (fun s e=>xl_of s (Xd.mp e).1)
  XL.keeps (by rfl) (by rfl) (by rfl) (fun s e=>recFacts_of (Xd.mp e).2) (by rfl) (by assumption)
  (by decide +kernel) ⟨rfl,rfl,rfl,rfl,rfl,by decide +kernel⟩ ?hw ?hc
 case hw=>w_witness2
 k_fill
 refine PV.walkE (l:=PySem.Challenge.rw_makes_k62_who_can_follow) (n:=12) (df:=K62.Sk) (tab:=K62.tab) (gl:=K62.gl) rfl rfl ⟨rfl,by decide,by decide,rfl⟩ rfl (fun w h Y=>W.kIn_of Y) (by kernel_rfl) ?F fun zs _=>K62.yi zs
 case F =>
  intro w mg h KX G;refine' K62.all_mk KX G ?h1 ?h2 ?h3 ?h4 ?h5 ?h6 ?h7 ?h8 ?h9 ?qd ?h11 ?uu ?h13 ?h14 ?h15 ?h16 ?h17 ?h18 ?h19 ?h20 ?h21 ?h22 ?h23 ?h24 ?h25 ?h26 ?h27 ?h28 ?h29 ?h30 ?h31 ?h32 ?h33 ?h34 ?h35 ?h36 ?h37 ?h38 ?h39 ?h40 ?h41 ?h42 ?h43 ?h44 ?h45 ?h46 ?h47 ?h48 ?h49 ?h50 ?h51 ?h52 ?h53 ?h54 ?h55 ?h56 ?h57 ?MMakeError ?XBadDeed ?IBadDeed ?JBadDeed ?FBadDeed ?OBadDeed ?eSIZES ?lSIZES ?kSIZES ?oSIZES ?tSIZES ?eSORTS_FOR ?lSORTS_FOR ?kSORTS_FOR ?oSORTS_FOR ?tSORTS_FOR ?N9 ?Ls ?Vb ?Y9 ?Uw ?Uv ?Jf ?U3 ?Jb ?jz ?jw ?jq ?Ef ?Ll ?qe ?q8 ?jx ?jv ?Eb ?Jg ?Cv ?qi ?Lr ?qu ?Gr ?qa ?Eg ?qo ?Em
  case h1|h2|h3|h4|h5|h6|h7|h8|h9|qd|h11|uu|h13|h14|h15|h16|h17|h18|h19|h20|h21|h22|h23|h24|h25|h26|h27|h28|h29|h30|h31|h32|h33|h34|h35|h36|h37|h38|h39|h40|h41|h42|h43|h44|h45|h46|h47|h48|h49|h50|h51|h52|h53|h54|h55|h56|h57=>exact⟨by k_is,PV.Zc.mk' (by k_is) (by k_is) (by k_is)⟩
  case MMakeError|XBadDeed|IBadDeed=>k_is
  case JBadDeed=>exact PV.qg.mk' (by k_is) (by k_is)
  case FBadDeed=>k_is
  case OBadDeed=>kernel_rfl
  case eSIZES|lSIZES=>k_is
  case kSIZES=>k_keys
  case oSIZES|tSIZES=>kernel_rfl
  case eSORTS_FOR|lSORTS_FOR=>k_is
  case kSORTS_FOR=>k_keys
  case oSORTS_FOR|tSORTS_FOR=>kernel_rfl
  case N9|Ls|Vb|Y9|Uw|Uv|Jf|U3|Jb|jz|jw|jq|Ef|Ll|qe|q8|jx|jv|Eb|Jg|Cv|qi|Lr|qu|Gr|qa|Eg|qo|Em=>k_is
