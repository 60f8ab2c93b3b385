import PyProof.Rows.All
import Wide.All
import OpenK.AllK
import Wide.FinOn
import PySem.Challenge.RW_makes_k63_rows_of_makes
set_option genSizeOf false
set_option genInjectivity false
set_option bootstrap.genMatcherCode false
noncomputable section
set_option maxHeartbeats 2000000
set_option Elab.async false
set_option linter.all false
set_option maxRecDepth 100000
local macro_rules | `(tactic| trivial) => `(tactic| first | exact .inl rfl | exact .inr rfl | rfl | decide | (intro _; rfl) | exact Or.inl rfl | exact Or.inr rfl | assumption | exact ⟨rfl, rfl, rfl, by decide +kernel, rfl, by decide +kernel, by decide +kernel⟩ | fail)
def XJ:=@List.find?_eq_none
def XQ:=@Int.toNat_natCast
def XX:=@List.length_set
def XZ:=@List.length_range
def ZE:=@List.append_nil
def ZI:=@List.append_assoc
def ZO:=@List.any_eq_true
def ZA:=@List.pairwise_cons
def ZU:=@List.length_singleton
def ZP:=@Option.bind_eq_some_iff
section
open PySem
abbrev ZQ:=Value->Shared->Prop
abbrev ZJ:=Str->Option Value
abbrev ZW:=List (Str×NameKind)
abbrev ZV:=List (Option Nat)
abbrev ZY:=Array (Option Value)
abbrev ZK:=List Value
abbrev ZG:=List Str
abbrev ZF:=Option Value
abbrev ZM:=List Expr
abbrev ZD:=Array Value
abbrev ZT:=List Int
abbrev ZC:=Option Int
abbrev ZN:=Array Nat
abbrev ZL:=Option Nat
abbrev ZR:=Option Addr
abbrev ZS:=List Addr
abbrev ZH:=Unit->Shared->Prop
end
section
open PySem PyProof.Rows
def Za:=@List.length_map
def Td:=@List.not_mem_nil
def Jv:=@List.size_toArray
def V8:=@List.mem_singleton
def P9:=@List.map_append
def Ml:=@decide_eq_true
def D5:=@Nat.le_refl
def Zq:=@wpAny_bind
def Zt:=@wpAny_pure
def Gd:=@List.mem_map
def G0m:=@List.getElem?_map
def n6:=@List.getElem?_eq_some_iff
def Cd:=@List.mem_append
def Y8:=@Option.map_eq_some_iff
def Gc:=@List.length_append
def M7:=@Option.some.inj
def Yd:=@List.mem_cons_self
def Vq:=@List.mem_cons_of_mem
def G0e:=@List.getElem_mem
def Zd:=@List.forall_mem_cons
def B0f:=@Bool.false_eq_true
def We:=@List.getElem?_eq_getElem
def B0n:=@beq_eq_false_iff_ne
def N0l:=@Nat.lt_of_lt_of_le
def Jl:=@List.length_cons
def P8:=@List.map_cons
def Ya:=@Heap.get?_push_of_some
def Vt:=@List.mem_cons
def B0s:=@beq_self_eq_true
def T1:=@of_decide_eq_true
def Vi:=@Bool.and_eq_true
def Gs:=@Nat.le_trans
def Ox:=@Bool.false_ne_true
def Gh:=@Heap.get?_push_size
def Jr:=@Heap.lt_size
def nu:=@List.length_take
def N0o:=@Nat.lt_of_le_of_lt
def Cb:=@Nat.zero_le
def Lh:=@Array.length_toList
def C8:=@Nat.ne_of_lt
def n7:=@List.all_eq_true
def zh:=@Bool.and_eq_true_iff
def C9:=@decide_eq_false
def ry:=@List.mem_append_right
def T0g:=@List.take_length
def A0g:=@Array.getElem?_eq_getElem
end
namespace L2
open PySem PySem.Spec PyProof.Rows
noncomputable def inClass(s:Stmt)(j:Nat):Stmt:=match s with
 | .ClassDef _ _ _ body _ _ _ _ _ _ _=>body.getD j (.Pass ⟨0,0,0,0⟩)
 | _=>.Pass ⟨0,0,0,0⟩
noncomputable def Vy(s:Stmt):Arguments:=match s with
 | .FunctionDef _ a _ _ _ _ _ _ _ _=>a
 | _=>{ posonlyargs:=[],args:=[],vararg:=none,kwonlyargs:=[],kw_defaults:=[],kwarg:=none,defaults:=[] }
def Z2(s:Stmt):List Stmt:=match s with
 | .FunctionDef _ _ b _ _ _ _ _ _ _=>b
 | _=>[]
noncomputable def Zx(s:Stmt):Scope:=match s with
 | .FunctionDef _ _ _ _ _ _ sc _ _ _=>sc
 | _=>{ kind:=.function,names:=[],isGenerator:=false,isCoroutine:=false }
end L2
namespace K63
open PySem PySem.Spec PyProof.Rows
noncomputable def top(i:Nat):Stmt:=PySem.Challenge.pw_makes_k63_rows_of_makes.main.body.getD i (.Pass ⟨0,0,0,0⟩)
end K63
namespace L2
open PySem PySem.W PySem.Calls PyProof.Rows
section
variable{tb:String->Option Builtin}{p:Program}{w:World}{m:Nat}{a:ZF}
def ue(tb:String->Option Builtin)(p:Program)(w:World)(m:Nat)(a:ZF):Nat->SharedT->Thread->Option SharedT
 | 0,_,_=>none
 | k+1,s,t=>bif through t then some s else bif stepOk m a t then (match stepT (denote tb) p w s t with | some (s',t')=>ue tb p w m a k s' t' | none=>none) else none
theorem Xw:∀{k:Nat} {s s':SharedT} {t:Thread},ue tb p w m a k s t=some s'->topRun tb p w m a k s.abs t=some s'.abs
 | 0,_,_,_,h=>by cases h
 | k+1,s,s',t,h=>by
  unfold ue at h;unfold topRun;cases ht:through t with
  | true=>rw[ht]at h;cases h;rfl
  | false =>
   rw[ht]at h;cases hk:stepOk m a t with
   | false=>rw[hk]at h;cases h
   | true =>
    rw[hk]at h;cases hs:stepT (denote tb) p w s t with
    | none=>rw[hs]at h;cases h
    | some r =>
     obtain⟨s₂,t₂⟩:=r;rw[hs]at h;rw[stepT_spec hs];exact Xw h
end
noncomputable def mkT:List Obj->Nat->BT->BT
 | [],_,t=>t
 | o::l,i,t=>mkT l (i+1) (t.ins i o)
noncomputable abbrev E3(w:World)(os:OsState):Shared:=⟨boot_heap w.params,Array.mk [],boot_drawn,boot_toks,os⟩
noncomputable abbrev Zqn(w:World)(os:OsState):SharedT:=⟨mkT (boot_heap w.params).objs.toList 0 .nil,(boot_heap w.params).objs.size,(boot_heap w.params).life,Array.mk [],boot_drawn,boot_toks,os⟩
theorem boot_abs(w:World)(os:OsState):(Zqn w os).abs=E3 w os:=by kernel_rfl
noncomputable abbrev Wi(p:Program)(N:Nat)(w:World)(os:OsState):Option SharedT:=ue treeTable p w (boot_heap w.params).objs.size ((boot_heap w.params).nsMap mainGlobals "__annotations__") N (Zqn w os) (topStub p)
noncomputable abbrev cw(p:Program)(w:World)(s:Shared):Bool:=staticsOk (importedModules p.main.body) (boot_heap w.params) s.heap && namesBound p s.heap && gensDone s && laidKept (boot_heap w.params) s.heap
theorem ns_ok(w:World):((boot_heap w.params).isNs mainGlobals && (Array.mk []:Array GenState).size == 0)=true:=by kernel_rfl
theorem Dh{j:Type _}{o:Option SharedT}{f:Shared->j}{r:j}(h:(o.map fun s=>f s.abs)=some r):∃s,o=some s/\f s.abs=r:=by
 obtain⟨s,e,q⟩:=Y8.mp h;exact⟨s,e,q⟩
theorem top_of{j l:Type}{p:Program}{N:Nat}{w:World}{os:OsState}{f:Shared->j}{g:Shared->l}{x:j}{y:l}(h1:((Wi p N w os).map fun s=>cw p w s.abs)=some true)
  (h2:((Wi p N w os).map fun s=>f s.abs)=some x) (h3:((Wi p N w os).map fun s=>g s.abs)=some y) :
  (topFrom treeTable p w N (E3 w os)).map (fun s=>(f s,g s))=some (x,y):=by
 obtain⟨s,e,c⟩:=Dh h1;obtain⟨s2,e2,c2⟩:=Dh h2;obtain⟨s3,e3,c3⟩:=Dh h3;rw[e]at e2 e3;cases e2;cases e3;have r:=Xw e;rw[boot_abs]at r;unfold topFrom;rw[show ((E3 w os).heap.isNs mainGlobals && (E3 w os).gens.size == 0)=true from ns_ok w];show Option.map _ (Option.bind (topRun treeTable p w (boot_heap w.params).objs.size ((boot_heap w.params).nsMap mainGlobals "__annotations__") N (E3 w os) (topStub p)) _)=_;rw[r];show Option.map _ (match cw p w s.abs with | true=>some s.abs | false=>none)=_;rw[c];show some (f s.abs,g s.abs)=_;rw[c2,c3]
end L2
namespace K63
open PySem PySem.Spec PyProof.Rows L2
noncomputable def viewK:Program:={ PySem.Challenge.pw_makes_k63_rows_of_makes with main:={ PySem.Challenge.pw_makes_k63_rows_of_makes.main with body:=[top 1,top 2,top 3,top 4,top 5,top 6,top 7,top 8,top 9,top 10,top 11,top 12,top 14,top 15,top 16,top 17,top 18,top 19,top 20,top 21,top 22,top 23,top 24,top 25,top 26,top 28,top 29,top 30,top 31,top 32,top 33,top 34,top 35,top 37,top 38,top 39,top 40,top 41,top 42,top 44,top 45,top 47,top 48,top 49,top 50,top 51,top 52,top 53,top 54,top 55,top 56,top 57,top 58,top 59,top 61,top 62,top 63,top 64,top 65,top 66,top 67,top 68,top 69,top 70,top 71,top 72,top 73,top 74,top 75,top 76,top 77,top 78,top 79,top 80,top 81] } }
noncomputable def Yq:ZG:=["SIZES","SORTS_FOR"]
abbrev en(P:Params)(x:Str)(t:Tok)(v:Value):DictEntry:=⟨PyData.keyHash P x,.str x t,v⟩
noncomputable abbrev fo(cls:Value)(nm q:Str)(s:Stmt)(kw doc pm:Value)(an:ZR)(cd ct:Value)(sl:ZY):Obj:=⟨cls,none,.func (W.fnOf nm q (L2.Vy s) (L2.Z2 s) (L2.Zx s) .none kw doc pm an cd ct),sl⟩
noncomputable abbrev fn(nm q:Str)(s:Stmt)(md:Str)(t:Nat)(c:Addr):Obj:=fo (.type "function") nm q s .none .none (.str md t) .none (.ref c) .none #[]
noncomputable abbrev cd(x:Str)(a:Nat)(q:Str)(b c:Nat)(l k:Int)(r1 r2 r3 r4 r5:Addr)(e f:Int)(g:Nat):Obj:=⟨.type "code",.none,.fields #[.str x a,.str q b,.str "/claim/cut.py" c,.int l 0,.int k 0,.int 0 0,.int 0 0,.int 3 0,.ref r1,.bool Bool.true,.int 181 0,.ref r2,.none,.ref r3,.ref r4,.ref r5,.int e 0,.int f 0,.str "/claim/cut.py" g], #[]⟩
noncomputable abbrev Jc(x:Str)(a:Nat)(l k:Int)(r e:Nat):Obj:=cd x a x (a+1) (a+2) l k r (r+1) (r+2) (r+3) (r+4) e l (e+1)
noncomputable abbrev Lf(x:Str)(a:Nat)(l k:Int)(r e:Nat):Obj:=⟨.type "code",.none,.fields #[.str x a,.str x (a+1),.str "/claim/cut.py" (a+2),.int l 0,.int k 0,.int 0 0,.int 0 0,.int 3 0,.ref r,.bool Bool.true,.int 181 0,.ref (r+1),.none,.none,.none,.ref (r+2),.int e 0,.int l 0,.str "/claim/cut.py" (e+1)], #[]⟩
noncomputable abbrev fnA(x:Str)(i:Nat)(c:Addr):Obj:=fn x x (top i) "makes.items" 187 c
abbrev tx(x:Str)(i:Nat)(c:Addr):Obj:=fn x x (top i) "makes.shapes" 242 c
abbrev fnC(x:Str)(i:Nat)(c:Addr):Obj:=fn x x (top i) "makes.forms" 328 c
abbrev fnD(x:Str)(i:Nat)(c:Addr):Obj:=fn x x (top i) "makes.history" 382 c
abbrev de(x:Str)(i:Nat)(c:Addr):Obj:=fn x x (top i) "makes.deeds" 476 c
abbrev W9(x:Str)(i:Nat)(c:Addr):Obj:=fn x x (top i) "law_makes_k63_rows_of_makes" 614 c
noncomputable def heapK:Params->W.Frag:=fun P =>
 (nat_lit 3, ⟨.type "dict", .none, .dict #[en P "__name__" 165 (.str "law_makes_k63_rows_of_makes" 614), en P "__doc__" 166 (.none), en P "__package__" 167 (.none), en P "__loader__" 168 (.builtin "__main__.__loader__#opaque"), en P "__spec__" 169 (.none), en P "__annotations__" 170 (.ref 6), en P "__builtins__" 171 (.ref 4), en P "__file__" 173 (.str "/claim/cut.py" 172), en P "__cached__" 174 (.none), en P "LETTERS" 190 (.str "abcdefghijklmnopqrstuvwxyz" 189), en P "SIGNS" 192 (.str " !\"#$&'()*+,-./0123456789:;<=>?@ABCDEFGHIJKLMNOPQRSTUVWXYZ[\\]^_`abcdefghijklmnopqrstuvwxyz{|}~" 191), en P "GREATEST_WHOLE" 194 (.int 1000000000000000000 193), en P "GREATEST_NUMBER" 196 (.int 999 195), en P "LONGEST_TEXT" 198 (.int 200 197), en P "LONGEST_NAME" 200 (.int 8 199), en P "is_whole" 209 (.ref 21), en P "is_item_whole" 216 (.ref 28), en P "is_number" 223 (.ref 35), en P "is_text" 229 (.ref 40), en P "is_name" 235 (.ref 45), en P "rises" 241 (.ref 50), en P "MOST_PARTS" 245 (.int 20 244), en P "MOST_FIELDS" 247 (.int 8 246), en P "is_shape" 255 (.ref 57), en P "are_bounds" 263 (.ref 64), en P "are_members" 269 (.ref 69), en P "is_struck" 275 (.ref 74), en P "is_short_tuple" 282 (.ref 81), en P "is_field" 289 (.ref 88), en P "is_default" 296 (.ref 95), en P "is_arm" 303 (.ref 102), en P "is_single_value" 311 (.ref 109), en P "member_of" 320 (.ref 116), en P "may_be_left_out" 327 (.ref 123), en P "MOST_FORMS" 331 (.int 8 330), en P "is_make" 337 (.ref 128), en P "form_of" 345 (.ref 135), en P "is_form" 353 (.ref 142), en P "are_forms" 359 (.ref 147), en P "fits_in" 365 (.ref 152), en P "ofs_of" 371 (.ref 157), en P "fits_default" 381 (.ref 164), en P "cannot_follow" 393 (.ref 171), en P "first_wrong" 402 (.ref 178), en P "number_lives" 408 (.ref 183), en P "break_between" 414 (.ref 188), en P "is_turned" 422 (.ref 195), en P "life_in" 430 (.ref 202), en P "MakeError" 450 (.ref 212), en P "BadDeed" 475 (.ref 232), en P "SIZES" 499 (.ref 235), en P "SORTS_FOR" 523 (.ref 236), en P "done" 534 (.ref 249), en P "fault_of" 543 (.ref 256), en P "is_deed" 550 (.ref 263), en P "fault_of_form" 558 (.ref 270), en P "is_thing_for" 566 (.ref 277), en P "fault_of_member" 576 (.ref 284), en P "is_name_beside" 582 (.ref 289), en P "is_narrower" 591 (.ref 296), en P "shape_behind" 597 (.ref 301), en P "number_of" 604 (.ref 308), en P "renamed" 613 (.ref 315), en P "_law_tape" 622 (.ref 322), en P "_law_draw" 634 (.ref 329), en P "_law_plain" 644 (.ref 336), en P "_law_default" 652 (.ref 343), en P "_law_part" 665 (.ref 350), en P "_law_parted" 671 (.ref 355), en P "_law_plains" 680 (.ref 362), en P "_law_make" 696 (.ref 369), en P "_law_alike" 702 (.ref 374), en P "_law_near" 711 (.ref 381), en P "_law_turned" 717 (.ref 386), en P "_law_next" 727 (.ref 393), en P "_law_deed" 733 (.ref 398), en P "_law_tried" 743 (.ref 405), en P "_law_form_word" 749 (.ref 410), en P "_law_follow_word" 755 (.ref 415), en P "_law_life" 761 (.ref 420), en P "_law_drawn" 772 (.ref 427), en P "_law_first" 781 (.ref 434), en P "_law_lives_right" 787 (.ref 439), en P "law" 798 (.ref 446)] 84, #[]⟩) ::
 (nat_lit 20,Jc "is_whole" 201 8 3 15 207) ::
 (nat_lit 21,fnA "is_whole" 7 20) ::
 (nat_lit 27,Jc "is_item_whole" 210 10 1 22 214) ::
 (nat_lit 28,fnA "is_item_whole" 8 27) ::
 (nat_lit 34,Jc "is_number" 217 12 1 29 221) ::
 (nat_lit 35,fnA "is_number" 9 34) ::
 (nat_lit 39,Lf "is_text" 224 14 2 36 227) ::
 (nat_lit 40,fnA "is_text" 10 39) ::
 (nat_lit 44,Lf "is_name" 230 16 1 41 233) ::
 (nat_lit 45,fnA "is_name" 11 44) ::
 (nat_lit 49,Lf "rises" 236 20 1 46 239) ::
 (nat_lit 50,fnA "rises" 12 49) ::
 (nat_lit 56,Jc "is_shape" 248 25 1 51 253) ::
 (nat_lit 57,tx "is_shape" 16 56) ::
 (nat_lit 63,Jc "are_bounds" 256 42 2 58 261) ::
 (nat_lit 64,tx "are_bounds" 17 63) ::
 (nat_lit 68,Lf "are_members" 264 44 3 65 267) ::
 (nat_lit 69,tx "are_members" 18 68) ::
 (nat_lit 73,Lf "is_struck" 270 50 2 70 273) ::
 (nat_lit 74,tx "is_struck" 19 73) ::
 (nat_lit 80,Jc "is_short_tuple" 276 54 1 75 280) ::
 (nat_lit 81,tx "is_short_tuple" 20 80) ::
 (nat_lit 87,Jc "is_field" 283 56 1 82 287) ::
 (nat_lit 88,tx "is_field" 21 87) ::
 (nat_lit 94,Jc "is_default" 290 58 1 89 294) ::
 (nat_lit 95,tx "is_default" 22 94) ::
 (nat_lit 101,Jc "is_arm" 297 60 1 96 301) ::
 (nat_lit 102,tx "is_arm" 23 101) ::
 (nat_lit 108,Jc "is_single_value" 304 64 2 103 309) ::
 (nat_lit 109,tx "is_single_value" 24 108) ::
 (nat_lit 115,Jc "member_of" 312 70 2 110 318) ::
 (nat_lit 116,tx "member_of" 25 115) ::
 (nat_lit 122,Jc "may_be_left_out" 321 75 1 117 325) ::
 (nat_lit 123,tx "may_be_left_out" 26 122) ::
 (nat_lit 127,Lf "is_make" 332 79 1 124 335) ::
 (nat_lit 128,fnC "is_make" 29 127) ::
 (nat_lit 134,Jc "form_of" 338 87 2 129 343) ::
 (nat_lit 135,fnC "form_of" 30 134) ::
 (nat_lit 141,Jc "is_form" 346 89 2 136 351) ::
 (nat_lit 142,fnC "is_form" 31 141) ::
 (nat_lit 146,Lf "are_forms" 354 91 1 143 357) ::
 (nat_lit 147,fnC "are_forms" 32 146) ::
 (nat_lit 151,Lf "fits_in" 360 95 2 148 363) ::
 (nat_lit 152,fnC "fits_in" 33 151) ::
 (nat_lit 156,Lf "ofs_of" 366 99 1 153 369) ::
 (nat_lit 157,fnC "ofs_of" 34 156) ::
 (nat_lit 163,Jc "fits_default" 372 105 2 158 379) ::
 (nat_lit 164,fnC "fits_default" 35 163) ::
 (nat_lit 170,Jc "cannot_follow" 384 114 2 165 391) ::
 (nat_lit 171,fnD "cannot_follow" 37 170) ::
 (nat_lit 177,Jc "first_wrong" 394 122 1 172 400) ::
 (nat_lit 178,fnD "first_wrong" 38 177) ::
 (nat_lit 182,Lf "number_lives" 403 128 3 179 406) ::
 (nat_lit 183,fnD "number_lives" 39 182) ::
 (nat_lit 187,Lf "break_between" 409 130 2 184 412) ::
 (nat_lit 188,fnD "break_between" 40 187) ::
 (nat_lit 194,Jc "is_turned" 415 142 2 189 420) ::
 (nat_lit 195,fnD "is_turned" 41 194) ::
 (nat_lit 201,Jc "life_in" 423 144 2 196 428) ::
 (nat_lit 202,fnD "life_in" 42 201) ::
 (nat_lit 211,⟨.type "dict",.none,.dict #[en P "__module__" 440 (.str "makes.errors" 431),en P "__firstlineno__" 444 (.int 151 443),en P "__static_attributes__" 445 (.ref 210),en P "__weakref__" 447 (.ref 213),en P "__doc__" 448 (.none)] 3, #[]⟩) ::
 (nat_lit 212,⟨.type "type",.none,.cls { name:="MakeError",bases:=[.type "ValueError"],mro:=[.ref 212,.type "ValueError",.type "Exception",.type "BaseException",.type "object"],ns:=211,qualname:="MakeError",subclasses:=[.ref 232] }, #[.some (.ref 203),.none,.some (.str "MakeError" 433),.some (.str "MakeError" 441),.some (.builtin "ValueError.__new__"),.some (.bool Bool.true)]⟩) ::
 (nat_lit 228,cd "__init__" 463 "BadDeed.__init__" 464 465 155 2 223 224 225 226 227 468 155 469) ::
 (nat_lit 229,fn "__init__" "BadDeed.__init__" (inClass (top 45) 0) "makes.errors" 431 228) ::
 (nat_lit 231,⟨.type "dict",.none,.dict #[en P "__module__" 458 (.str "makes.errors" 431),en P "__firstlineno__" 462 (.int 153 461),en P "__init__" 470 (.ref 229),en P "__static_attributes__" 472 (.ref 230),en P "__doc__" 473 (.none)] 2, #[]⟩) ::
 (nat_lit 232,⟨.type "type",.none,.cls { name:="BadDeed",bases:=[.ref 212],mro:=[.ref 232,.ref 212,.type "ValueError",.type "Exception",.type "BaseException",.type "object"],ns:=231,qualname:="BadDeed" }, #[.some (.ref 216),.none,.some (.str "BadDeed" 451),.some (.str "BadDeed" 459),.some (.builtin "ValueError.__new__"),.some (.bool Bool.true)]⟩) ::
 (nat_lit 235,⟨.type "dict",.none,.dict #[en P "add" 478 (.int 3 479),en P "strike" 480 (.int 3 481),en P "rename" 482 (.int 4 483),en P "widen" 484 (.int 3 485),en P "arm" 486 (.int 3 487),en P "open" 488 (.int 2 489),en P "form" 490 (.int 3 491)] 7, #[]⟩) ::
 (nat_lit 236,⟨.type "dict",.none,.dict #[en P "add" 500 (.ref 237),en P "strike" 502 (.ref 238),en P "rename" 505 (.ref 239),en P "widen" 508 (.ref 240),en P "arm" 513 (.ref 241),en P "open" 515 (.ref 242)] 6, #[]⟩) ::
 (nat_lit 237,⟨.type "tuple",.none,.seq #[.str "record" 501], #[]⟩) ::
 (nat_lit 238,⟨.type "tuple",.none,.seq #[.str "record" 503,.str "choice" 504], #[]⟩) ::
 (nat_lit 239,⟨.type "tuple",.none,.seq #[.str "record" 506,.str "choice" 507], #[]⟩) ::
 (nat_lit 240,⟨.type "tuple",.none,.seq #[.str "whole" 509,.str "text" 510,.str "row" 511,.str "map" 512], #[]⟩) ::
 (nat_lit 241,⟨.type "tuple",.none,.seq #[.str "choice" 514], #[]⟩) ::
 (nat_lit 242,⟨.type "tuple",.none,.seq #[.str "choice" 516], #[]⟩) ::
 (nat_lit 248,Jc "done" 524 160 2 243 532) ::
 (nat_lit 249,de "done" 49 248) ::
 (nat_lit 255,Jc "fault_of" 535 170 2 250 541) ::
 (nat_lit 256,de "fault_of" 50 255) ::
 (nat_lit 262,Jc "is_deed" 544 185 1 257 548) ::
 (nat_lit 263,de "is_deed" 51 262) ::
 (nat_lit 269,Jc "fault_of_form" 551 189 2 264 556) ::
 (nat_lit 270,de "fault_of_form" 52 269) ::
 (nat_lit 276,Jc "is_thing_for" 559 193 1 271 564) ::
 (nat_lit 277,de "is_thing_for" 53 276) ::
 (nat_lit 283,Jc "fault_of_member" 567 204 2 278 574) ::
 (nat_lit 284,de "fault_of_member" 54 283) ::
 (nat_lit 288,Lf "is_name_beside" 577 216 3 285 580) ::
 (nat_lit 289,de "is_name_beside" 55 288) ::
 (nat_lit 295,Jc "is_narrower" 583 218 2 290 589) ::
 (nat_lit 296,de "is_narrower" 56 295) ::
 (nat_lit 300,Lf "shape_behind" 592 227 2 297 595) ::
 (nat_lit 301,de "shape_behind" 57 300) ::
 (nat_lit 307,Jc "number_of" 598 243 1 302 602) ::
 (nat_lit 308,de "number_of" 58 307) ::
 (nat_lit 314,Jc "renamed" 605 245 3 309 611) ::
 (nat_lit 315,de "renamed" 59 314) ::
 (nat_lit 321,Jc "_law_tape" 616 248 1 316 620) ::
 (nat_lit 322,W9 "_law_tape" 61 321) ::
 (nat_lit 328,Jc "_law_draw" 623 250 2 323 632) ::
 (nat_lit 329,W9 "_law_draw" 62 328) ::
 (nat_lit 335,Jc "_law_plain" 635 264 3 330 642) ::
 (nat_lit 336,W9 "_law_plain" 63 335) ::
 (nat_lit 342,Jc "_law_default" 645 273 2 337 650) ::
 (nat_lit 343,W9 "_law_default" 64 342) ::
 (nat_lit 349,Jc "_law_part" 653 281 5 344 663) ::
 (nat_lit 350,W9 "_law_part" 65 349) ::
 (nat_lit 354,Lf "_law_parted" 666 292 4 351 669) ::
 (nat_lit 355,W9 "_law_parted" 66 354) ::
 (nat_lit 361,Jc "_law_plains" 672 300 1 356 678) ::
 (nat_lit 362,W9 "_law_plains" 67 361) ::
 (nat_lit 368,Jc "_law_make" 681 306 1 363 694) ::
 (nat_lit 369,W9 "_law_make" 68 368) ::
 (nat_lit 373,Lf "_law_alike" 697 323 2 370 700) ::
 (nat_lit 374,W9 "_law_alike" 69 373) ::
 (nat_lit 380,Jc "_law_near" 703 339 2 375 709) ::
 (nat_lit 381,W9 "_law_near" 70 380) ::
 (nat_lit 385,Lf "_law_turned" 712 346 2 382 715) ::
 (nat_lit 386,W9 "_law_turned" 71 385) ::
 (nat_lit 392,Jc "_law_next" 718 377 3 387 725) ::
 (nat_lit 393,W9 "_law_next" 72 392) ::
 (nat_lit 397,Lf "_law_deed" 728 381 2 394 731) ::
 (nat_lit 398,W9 "_law_deed" 73 397) ::
 (nat_lit 404,Jc "_law_tried" 734 405 2 399 741) ::
 (nat_lit 405,W9 "_law_tried" 74 404) ::
 (nat_lit 409,Lf "_law_form_word" 744 412 2 406 747) ::
 (nat_lit 410,W9 "_law_form_word" 75 409) ::
 (nat_lit 414,Lf "_law_follow_word" 750 426 2 411 753) ::
 (nat_lit 415,W9 "_law_follow_word" 76 414) ::
 (nat_lit 419,Lf "_law_life" 756 432 3 416 759) ::
 (nat_lit 420,W9 "_law_life" 77 419) ::
 (nat_lit 426,Jc "_law_drawn" 762 439 1 421 770) ::
 (nat_lit 427,W9 "_law_drawn" 78 426) ::
 (nat_lit 433,Jc "_law_first" 773 452 1 428 779) ::
 (nat_lit 434,W9 "_law_first" 79 433) ::
 (nat_lit 438,Lf "_law_lives_right" 782 458 2 435 785) ::
 (nat_lit 439,W9 "_law_lives_right" 80 438) ::
 (nat_lit 445,Jc "law" 788 473 1 440 796) ::
 (nat_lit 446,W9 "law" 81 445) ::
 []
noncomputable def asK:ZS:=[3,20,21,27,28,34,35,39,40,44,45,49,50,56,57,63,64,68,69,73,74,80,81,87,88,94,95,101,102,108,109,115,116,122,123,127,128,134,135,141,142,146,147,151,152,156,157,163,164,170,171,177,178,182,183,187,188,194,195,201,202,211,212,228,229,231,232,235,236,237,238,239,240,241,242,248,249,255,256,262,263,269,270,276,277,283,284,288,289,295,296,300,301,307,308,314,315,321,322,328,329,335,336,342,343,349,350,354,355,361,362,368,369,373,374,380,381,385,386,392,393,397,398,404,405,409,410,414,415,419,420,426,427,433,434,438,439,445,446]
theorem P0(P:Params):asK=(heapK P).map (·.1):=by kernel_rfl
noncomputable abbrev Mb:W.Hook:=W.kHook heapK asK P0
noncomputable abbrev xtK(s:Shared):Bool:=W.xlAt viewK [] s && W.recOk (W.RowW.records PySem.Challenge.rw_makes_k63_rows_of_makes.row.toRowW) s
abbrev A9(w:World):Prop:=(W.openEnds treeTable PySem.Challenge.pw_makes_k63_rows_of_makes w 5366).map (fun s=>(W.openSeen viewK Yq (importedModules PySem.Challenge.pw_makes_k63_rows_of_makes.main.body) xtK true s,Mb.obs s))=some (W.openGood viewK Yq,Mb.val w)
abbrev Uz(s:Shared):=W.openSeen viewK Yq (importedModules PySem.Challenge.pw_makes_k63_rows_of_makes.main.body) xtK true s
abbrev wK(w:World)(b:Bool):World:=w.withFollow "special-get-raises" b
theorem chkF(w:World)(os:OsState):((L2.Wi PySem.Challenge.pw_makes_k63_rows_of_makes 5366 (wK w false) os).map fun s=>L2.cw PySem.Challenge.pw_makes_k63_rows_of_makes (wK w false) s.abs)=some true:=by kernel_rfl
theorem chkR(w:World)(os:OsState):((L2.Wi PySem.Challenge.pw_makes_k63_rows_of_makes 5366 (wK w true) os).map fun s=>L2.cw PySem.Challenge.pw_makes_k63_rows_of_makes (wK w true) s.abs)=some true:=by kernel_rfl
theorem seenF1(w:World)(os:OsState):((L2.Wi PySem.Challenge.pw_makes_k63_rows_of_makes 5366 (wK w false) os).map fun s=>(Uz s.abs).1)=some (W.openGood viewK Yq).1:=by kernel_rfl
theorem seenF2(w:World)(os:OsState):((L2.Wi PySem.Challenge.pw_makes_k63_rows_of_makes 5366 (wK w false) os).map fun s=>(Uz s.abs).2.1)=some (W.openGood viewK Yq).2.1:=by kernel_rfl
theorem seenF3(w:World)(os:OsState):((L2.Wi PySem.Challenge.pw_makes_k63_rows_of_makes 5366 (wK w false) os).map fun s=>(Uz s.abs).2.2)=some (W.openGood viewK Yq).2.2:=by kernel_rfl
theorem seenT1(w:World)(os:OsState):((L2.Wi PySem.Challenge.pw_makes_k63_rows_of_makes 5366 (wK w true) os).map fun s=>(Uz s.abs).1)=some (W.openGood viewK Yq).1:=by kernel_rfl
theorem seenT2(w:World)(os:OsState):((L2.Wi PySem.Challenge.pw_makes_k63_rows_of_makes 5366 (wK w true) os).map fun s=>(Uz s.abs).2.1)=some (W.openGood viewK Yq).2.1:=by kernel_rfl
theorem seenT3(w:World)(os:OsState):((L2.Wi PySem.Challenge.pw_makes_k63_rows_of_makes 5366 (wK w true) os).map fun s=>(Uz s.abs).2.2)=some (W.openGood viewK Yq).2.2:=by kernel_rfl
theorem Xj{w:World}{os:OsState}(h1:((L2.Wi PySem.Challenge.pw_makes_k63_rows_of_makes 5366 w os).map fun s=>(Uz s.abs).1)=some (W.openGood viewK Yq).1)(h2:((L2.Wi PySem.Challenge.pw_makes_k63_rows_of_makes 5366 w os).map fun s=>(Uz s.abs).2.1)=some (W.openGood viewK Yq).2.1)
  (h3:((L2.Wi PySem.Challenge.pw_makes_k63_rows_of_makes 5366 w os).map fun s=>(Uz s.abs).2.2)=some (W.openGood viewK Yq).2.2):((L2.Wi PySem.Challenge.pw_makes_k63_rows_of_makes 5366 w os).map fun s=>Uz s.abs)=some (W.openGood viewK Yq):=by
 obtain⟨s,e,c1⟩:=L2.Dh (f:=fun s=>(Uz s).1) h1;obtain⟨s2,e2,c2⟩:=L2.Dh (f:=fun s=>(Uz s).2.1) h2;obtain⟨s3,e3,c3⟩:=L2.Dh (f:=fun s=>(Uz s).2.2) h3;rw[e]at e2 e3;cases e2;cases e3;rw[e];exact congrArg some (Prod.ext c1 (Prod.ext c2 c3))
theorem seenF(w:World)(os:OsState):((L2.Wi PySem.Challenge.pw_makes_k63_rows_of_makes 5366 (wK w false) os).map fun s=>Uz s.abs)=some (W.openGood viewK Yq):=Xj (seenF1 w os) (seenF2 w os) (seenF3 w os)
theorem seenT(w:World)(os:OsState):((L2.Wi PySem.Challenge.pw_makes_k63_rows_of_makes 5366 (wK w true) os).map fun s=>Uz s.abs)=some (W.openGood viewK Yq):=Xj (seenT1 w os) (seenT2 w os) (seenT3 w os)
theorem obsF(w:World)(os:OsState):((L2.Wi PySem.Challenge.pw_makes_k63_rows_of_makes 5366 (wK w false) os).map fun s=>Mb.obs s.abs)=some (Mb.val (wK w false)):=by kernel_rfl
theorem obsT(w:World)(os:OsState):((L2.Wi PySem.Challenge.pw_makes_k63_rows_of_makes 5366 (wK w true) os).map fun s=>Mb.obs s.abs)=some (Mb.val (wK w true)):=by kernel_rfl
theorem Xa(w:World)(h1:∀os,((L2.Wi PySem.Challenge.pw_makes_k63_rows_of_makes 5366 w os).map fun s=>L2.cw PySem.Challenge.pw_makes_k63_rows_of_makes w s.abs)=some true)(h2:∀os,((L2.Wi PySem.Challenge.pw_makes_k63_rows_of_makes 5366 w os).map fun s=>Uz s.abs)=some (W.openGood viewK Yq))(h3:∀os,((L2.Wi PySem.Challenge.pw_makes_k63_rows_of_makes 5366 w os).map fun s=>Mb.obs s.abs)=some (Mb.val w)):A9 w:=by
 obtain⟨⟨hp,g,d,k,os⟩,hs,hv⟩:=Y8.mp (W.boot_open (p:=PySem.Challenge.pw_makes_k63_rows_of_makes) (N:=5366) rfl (by decide) (fun s=>rfl) w);simp only[Prod.mk.injEq]at hv;obtain⟨rfl,rfl,rfl,rfl⟩:=hv;show Option.map _ (Option.bind (W.fencedOpening treeTable PySem.Challenge.pw_makes_k63_rows_of_makes w 5366) (W.topFrom treeTable PySem.Challenge.pw_makes_k63_rows_of_makes w 5366))=_;rw[hs];exact L2.top_of (h1 os) (h2 os) (h3 os)
theorem leftF(w:World):A9 (w.withFollow "special-get-raises" false):=Xa _ (chkF w) (seenF w) (obsF w)
theorem leftT(w:World):A9 (w.withFollow "special-get-raises" true):=Xa _ (chkR w) (seenT w) (obsT w)
theorem leftK:W.LeftO PySem.Challenge.pw_makes_k63_rows_of_makes viewK Yq xtK Mb.obs Mb.val 5366:=W.byRow2 "special-get-raises" leftF leftT
end K63
namespace PySem.Heap
end PySem.Heap
namespace EnuT
open PySem
section
variable{prog:Program}{w:World}{A:Around}{E:ZQ}{s:Shared}
theorem nextT{it t:Addr}{i:Nat}{its:ZD}{x:Value}{Q:ZQ}(hi:s.heap.IsTupleIter it t i)(ht:s.heap.IsTuple t its)(hx:its[i]?=some x)
  (q:∀h',h'.IsTupleIter it t (i+1)->Heap.SameBut it s.heap h'->Q x { s with heap:=h' }):wpAny (model prog w) A (Builtin.SmallTypes.nextOf (.ref it)) Q E s:=by
 obtain⟨u,hu,hc,hd⟩:=id hi;obtain⟨p,hp,_,n,dp⟩:=ht;unfold Builtin.SmallTypes.nextOf;refine Zq (wpAny_callSpecial?_slot (name:=Str.ofString "__next__") hi.typeIs F.slot_tuple_iterator_next (wpAny_call_entry F.slot_tuple_iterator_next hi.typeIs F.entry_tuple_iterator_next ?_ (F.args_tuple_iterator_next_1 _)));show wpAny _ _ (field (.ref it) 0 >>= _) _ _ s;refine Zq (wpAny_field hu hd (x:=.ref t) rfl ?_);show wpAny _ _ (if (Value.ref t == Value.none)=true then _ else _) _ _ s;rw[if_neg (show ¬ ((Value.ref t == Value.none)=true) from Ox)];show wpAny _ _ (field (.ref it) 1 >>= _) _ _ s;refine Zq (wpAny_field hu hd (x:=.int i 0) rfl ?_);show wpAny _ _ (seqItems? (.ref t) >>= _) _ _ s;refine Zq (wpAny_seqItems hp dp ?_);simp only[XQ,hx];refine Zq (wpAny_setField hu hd (by simp) (Zt ⟨x,rfl,Zt (q _ ?_ (Heap.SameBut.update ..))⟩));exact⟨_,Heap.get?_update_self _ hu (Obj.isFreed_of_fields (Obj.data_mapFields hd _)),(Obj.cls_mapFields ..).trans hc,by rw[Obj.data_mapFields hd];simp[rawInt]⟩
theorem endT{it t:Addr}{i:Nat}{its:ZD}{Q:ZQ}(hh:A.handled=none)(hi:s.heap.IsTupleIter it t i)(ht:s.heap.IsTuple t its)(hx:its[i]?=none)
  (q:∀h' e,Heap.ExtBut it s.heap h'->(∃o,h'.get? e=some o/\o.cls=.type "StopIteration")->E (.ref e) { s with heap:=h' }):wpAny (model prog w) A (Builtin.SmallTypes.nextOf (.ref it)) Q E s:=by
 obtain⟨u,hu,hc,hd⟩:=id hi;obtain⟨p,hp,_,n,dp⟩:=ht;unfold Builtin.SmallTypes.nextOf;refine Zq (wpAny_callSpecial?_slot (name:=Str.ofString "__next__") hi.typeIs F.slot_tuple_iterator_next (wpAny_call_entry F.slot_tuple_iterator_next hi.typeIs F.entry_tuple_iterator_next ?_ (F.args_tuple_iterator_next_1 _)));show wpAny _ _ (field (.ref it) 0 >>= _) _ _ s;refine Zq (wpAny_field hu hd (x:=.ref t) rfl ?_);show wpAny _ _ (if (Value.ref t == Value.none)=true then _ else _) _ _ s;rw[if_neg (show ¬ ((Value.ref t == Value.none)=true) from Ox)];show wpAny _ _ (field (.ref it) 1 >>= _) _ _ s;refine Zq (wpAny_field hu hd (x:=.int i 0) rfl ?_);show wpAny _ _ (seqItems? (.ref t) >>= _) _ _ s;refine Zq (wpAny_seqItems hp dp ?_);simp only[XQ,hx];refine Zq (wpAny_rule (Zq (wpAny_setField hu hd (by simp) ?_)));show wpAny _ _ (newExc (.type "StopIteration") [] >>= _) _ _ _;refine Zq ?_;simp only[newExc,newTuple];refine Zq (wpAny_newObj_type ?_ (by size_fits));refine Zq (m:=firstArgMember _ _) (wpAny_of_eq (a:=Value.none) (by first | rfl | (simp only[firstArgMember];rfl)) ?_);refine wpAny_newObj_type ?_ (by size_fits);simp only[raiseNew];refine Zq (wpAny_handled ?_)
 first | rw[show A.in1.handled=none from hh] | rw[hh]
 refine Zq (Zt (wpAny_throw ?_));exact q _ _ (((Heap.SameBut.update ..).extBut.push _).push _) ⟨_,Gh _ rfl,rfl⟩
end
section
variable{prog:Program}{w:World}{A:Around}{E:ZQ}{s:Shared}
end
end EnuT
namespace ZipT
open PySem
theorem Uh{h h':Heap}{b i t:Addr}{k:Nat}(st:h.IsTupleIter i t k)(e:Heap.ExtBut b h h')(n:i≠b):h'.IsTupleIter i t k:=let ⟨o,ho,r⟩:=st;⟨o,e _ _ n ho,r⟩
theorem tupK{h h':Heap}{b t:Addr}{xs:ZD}(st:h.IsTuple t xs)(e:Heap.ExtBut b h h')(n:t≠b):h'.IsTuple t xs:=let ⟨o,ho,r⟩:=st;⟨o,e _ _ n ho,r⟩
section
variable{prog:Program}{w:World}{A:Around}{E:ZQ}{s:Shared}{z TI TO i1 i2 t1 t2:Addr}{k:Nat}{xs ys:ZD}{x y a b:Value}
theorem itemT{Q:ZQ}(D:ZipApart z TI TO i1 i2 t1 t2)(hz:IsZip s.heap z TI TO .none)(hI:IsPair s.heap TI (.ref i1) (.ref i2))(hO:IsPair s.heap TO a b)(j1:s.heap.IsTupleIter i1 t1 k)(j2:s.heap.IsTupleIter i2 t2 k)(p1:s.heap.IsTuple t1 xs)(p2:s.heap.IsTuple t2 ys)(hx:xs[k]?=some x)(hy:ys[k]?=some y)
  (q:∀h',IsZip h' z TI TO (rawInt s.heap.objs.size)->IsPair h' TO x y->h'.IsTupleIter i1 t1 (k+1)->h'.IsTupleIter i2 t2 (k+1)->IsPair h' s.heap.objs.size x y->h'.objs.size=s.heap.objs.size+1->(∀c o,c≠z->c≠TO->c≠i1->c≠i2->s.heap.get? c=some o->h'.get? c=some o)->Q (.ref s.heap.objs.size) { s with heap:=h' }) :
  wpAny (model prog w) A (Builtin.«zip.__next__» ⟨[.ref z],[]⟩) (fun fin s'=>∃v,fin=.done (.ret v)/\Q v s') E s:=by
 show wpAny _ _ (field (.ref z) 2 >>= _) _ _ _;refine Zq (wpAny_field hz rfl (x:=.bool false) rfl ?_);show wpAny _ _ (field (.ref z) 3 >>= _) _ _ _;refine Zq (wpAny_field hz rfl (x:=.ref TI) rfl (Zq (wpAny_seqItems hI rfl ?_)));show wpAny _ _ (Builtin.SmallTypes.ownedTupleIsFree (.ref z) >>= _) _ _ _;refine Zq ?_;unfold Builtin.SmallTypes.ownedTupleIsFree;refine Zq (wpAny_field hz rfl (x:=.none) rfl (Zt ?_));simp only[if_true];refine Zq (wpAny_rule (Zq (wpAny_field hz rfl (x:=.ref TO) rfl ?_)));refine Zq (wpAny_setField_rec hz (by simp) fun g1 X2 e1=>?_);replace X2:IsZip g1 z TI TO .ellipsis:=X2;refine Zq ?_;simp only[List.zipIdx_cons,List.zipIdx_nil,List.forIn_cons,List.forIn_nil];refine Zq (Zq (wpAny_onRaise ?_));show wpAny _ _ (Builtin.SmallTypes.nextOf (.ref i1) >>= _) _ _ _;refine Zq (EnuT.nextT (Uh j1 e1.extBut D.i1z) (tupK p1 e1.extBut D.l1z) hx fun g2 j12 e2=>Zt ?_);have hO2:IsPair g2 TO a b:=e2.extBut _ _ D.TOi1 (e1.extBut _ _ D.TOz hO);refine Zq (wpAny_seqItems hO2 rfl (Zq (wpAny_updateSeq_pair hO2 fun g3 hO3 e3=>?_)));replace hO3:IsPair g3 TO x b:=hO3;refine Zq (wpAny_letGo (Zt (Zq (Zq (wpAny_onRaise ?_)))));show wpAny _ _ (Builtin.SmallTypes.nextOf (.ref i2) >>= _) _ _ _;refine Zq (EnuT.nextT (Uh (Uh (Uh j2 e1.extBut D.i2z) e2.extBut D.i12.symm) e3.extBut D.TOi2.symm) (tupK (tupK (tupK p2 e1.extBut D.l2z) e2.extBut D.l2i1) e3.extBut D.l2TO) hy fun g4 j24 e4=>Zt ?_);have hO4:IsPair g4 TO x b:=e4.extBut _ _ D.TOi2 hO3;refine Zq (wpAny_seqItems hO4 rfl (Zq (wpAny_updateSeq_pair hO4 fun g5 hO5 e5=>?_)));replace hO5:IsPair g5 TO x y:=hO5;refine Zq (wpAny_letGo (Zt (Zt (Zq (wpAny_seqItems hO5 rfl (Zq (wpAny_newTuple ?_)))))));have sz:g5.objs.size=s.heap.objs.size:=by rw[e5.1,e4.1,e3.1,e2.1,e1.1]
 have hz5:IsZip g5 z TI TO .ellipsis:=e5.extBut _ _ D.TOz.symm (e4.extBut _ _ D.i2z.symm (e3.extBut _ _ D.TOz.symm (e2.extBut _ _ D.i1z.symm X2)));have kp:∀c o,c≠z->c≠TO->c≠i1->c≠i2->s.heap.get? c=some o->g5.get? c=some o:=fun c o c1 c2 c3 c4 e=>e5.extBut _ _ c2 (e4.extBut _ _ c4 (e3.extBut _ _ c2 (e2.extBut _ _ c3 (e1.extBut _ _ c1 e))));have j15:g5.IsTupleIter i1 t1 (k+1):=Uh (Uh (Uh j12 e3.extBut D.TOi1.symm) e4.extBut D.i12) e5.extBut D.TOi1.symm;have j25:g5.IsTupleIter i2 t2 (k+1):=Uh j24 e5.extBut D.TOi2.symm;have zl:z<g5.objs.size:=Jr hz5;show wpAny _ _ (Builtin.SmallTypes.ownedTupleHandOut (.ref z) (.ref g5.objs.size) >>= _) _ _ _;refine Zq ?_;unfold Builtin.SmallTypes.ownedTupleHandOut;have hz6:IsZip (g5.push { cls:=.type "tuple",data:=.seq #[x,y] }) z TI TO .ellipsis:=Ya _ hz5;refine Zq (wpAny_setField_rec hz6 (by simp) fun g7 hz7 e7=>?_);replace hz7:IsZip g7 z TI TO (rawInt g5.objs.size):=hz7;refine wpAny_setField_rec hz7 (by simp) fun g8 hz8 e8=>?_;replace hz8:IsZip g8 z TI TO (rawInt g5.objs.size):=hz8;have up:∀c o,c≠z->g5.get? c=some o->g8.get? c=some o:=fun c o c1 e=>e8.extBut _ _ c1 (e7.extBut _ _ c1 (Ya _ e));have hT8:IsPair g8 g5.objs.size x y:=e8.extBut _ _ (Nat.ne_of_gt zl) (e7.extBut _ _ (Nat.ne_of_gt zl) (Gh _ rfl));have sz8:g8.objs.size=g5.objs.size+1:=by rw[e8.1,e7.1,Heap.size_push]
 rw[sz]at hz8 hT8 sz8;refine Zt ⟨_,rfl, ?_⟩;show Q (.ref g5.objs.size) _;rw[sz];exact q g8 hz8 (up _ _ D.TOz hO5) (let ⟨o,ho,r⟩:=j15;⟨o,up _ _ D.i1z ho,r⟩) (let ⟨o,ho,r⟩:=j25;⟨o,up _ _ D.i2z ho,r⟩) hT8 sz8 fun c o c1 c2 c3 c4 e=>up c o c1 (kp c o c1 c2 c3 c4 e)
theorem endT{Q:Fin->Shared->Prop}(hh:A.handled=none)(D:ZipApart z TI TO i1 i2 t1 t2)(hz:IsZip s.heap z TI TO .none)(hI:IsPair s.heap TI (.ref i1) (.ref i2))(hO:IsPair s.heap TO a b)(j1:s.heap.IsTupleIter i1 t1 k)(j2:s.heap.IsTupleIter i2 t2 k)(p1:s.heap.IsTuple t1 xs)(p2:s.heap.IsTuple t2 ys)(m8:xs[k]?=none\/ys[k]?=none)
  (q:∀h' e,(∀c o,c≠z->c≠TO->c≠i1->c≠i2->s.heap.get? c=some o->h'.get? c=some o)->(∃o,h'.get? e=some o/\o.cls=.type "StopIteration")->E (.ref e) { s with heap:=h' }) :
  wpAny (model prog w) A (Builtin.«zip.__next__» ⟨[.ref z],[]⟩) Q E s:=by
 show wpAny _ _ (field (.ref z) 2 >>= _) _ _ _;refine Zq (wpAny_field hz rfl (x:=.bool false) rfl ?_);show wpAny _ _ (field (.ref z) 3 >>= _) _ _ _;refine Zq (wpAny_field hz rfl (x:=.ref TI) rfl (Zq (wpAny_seqItems hI rfl ?_)));show wpAny _ _ (Builtin.SmallTypes.ownedTupleIsFree (.ref z) >>= _) _ _ _;refine Zq ?_;unfold Builtin.SmallTypes.ownedTupleIsFree;refine Zq (wpAny_field hz rfl (x:=.none) rfl (Zt ?_));simp only[if_true];refine Zq (wpAny_rule (Zq (wpAny_field hz rfl (x:=.ref TO) rfl ?_)));refine Zq (wpAny_setField_rec hz (by simp) fun g1 X2 e1=>?_);replace X2:IsZip g1 z TI TO .ellipsis:=X2;refine Zq ?_;simp only[List.zipIdx_cons,List.zipIdx_nil,List.forIn_cons,List.forIn_nil];refine Zq (Zq (wpAny_onRaise ?_));show wpAny _ _ (Builtin.SmallTypes.nextOf (.ref i1) >>= _) _ _ _;cases hx:xs[k]? with
 | none =>
  refine Zq (EnuT.endT hh (Uh j1 e1.extBut D.i1z) (tupK p1 e1.extBut D.l1z) hx fun g2 e e2 he=>?_);obtain⟨oe,hoe,hce⟩:=he;have hz2:IsZip g2 z TI TO .ellipsis:=e2 _ _ D.i1z.symm X2;have ez:e≠z:=fun v=>by subst v;rw[hz2]at hoe;cases hoe;simp at hce
  exact wpAny_setField_rec hz2 (by simp) fun g3 _ e3=>q g3 e (fun c o c1 _ c3 _ v=>e3.extBut _ _ c1 (e2 _ _ c3 (e1.extBut _ _ c1 v))) ⟨oe,e3.extBut _ _ ez hoe,hce⟩
 | some x =>
  have hy:ys[k]?=none:=by rcases m8 with h | h;rw[hx]at h;cases h;exact h
  refine Zq (EnuT.nextT (Uh j1 e1.extBut D.i1z) (tupK p1 e1.extBut D.l1z) hx fun g2 j12 e2=>Zt ?_);have hO2:IsPair g2 TO a b:=e2.extBut _ _ D.TOi1 (e1.extBut _ _ D.TOz hO);refine Zq (wpAny_seqItems hO2 rfl (Zq (wpAny_updateSeq_pair hO2 fun g3 hO3 e3=>?_)));refine Zq (wpAny_letGo (Zt (Zq (Zq (wpAny_onRaise ?_)))));show wpAny _ _ (Builtin.SmallTypes.nextOf (.ref i2) >>= _) _ _ _;refine Zq (EnuT.endT hh (Uh (Uh (Uh j2 e1.extBut D.i2z) e2.extBut D.i12.symm) e3.extBut D.TOi2.symm) (tupK (tupK (tupK p2 e1.extBut D.l2z) e2.extBut D.l2i1) e3.extBut D.l2TO) hy fun g4 e e4 he=>?_);obtain⟨oe,hoe,hce⟩:=he;have hz4:IsZip g4 z TI TO .ellipsis:=e4 _ _ D.i2z.symm (e3.extBut _ _ D.TOz.symm (e2.extBut _ _ D.i1z.symm X2));have ez:e≠z:=fun v=>by subst v;rw[hz4]at hoe;cases hoe;simp at hce
  exact wpAny_setField_rec hz4 (by simp) fun g5 _ e5=>q g5 e (fun c o c1 c2 c3 c4 v=>e5.extBut _ _ c1 (e4 _ _ c4 (e3.extBut _ _ c2 (e2.extBut _ _ c3 (e1.extBut _ _ c1 v))))) ⟨oe,e5.extBut _ _ ez hoe,hce⟩
theorem gr{Q:ZF->Shared->Prop}(D:ZipApart z TI TO i1 i2 t1 t2)(hz:IsZip s.heap z TI TO .none)(hI:IsPair s.heap TI (.ref i1) (.ref i2))(hO:IsPair s.heap TO a b)(j1:s.heap.IsTupleIter i1 t1 k)(j2:s.heap.IsTupleIter i2 t2 k)(p1:s.heap.IsTuple t1 xs)(p2:s.heap.IsTuple t2 ys)(hx:xs[k]?=some x)(hy:ys[k]?=some y)
  (q:∀h',IsZip h' z TI TO (rawInt s.heap.objs.size)->IsPair h' TO x y->h'.IsTupleIter i1 t1 (k+1)->h'.IsTupleIter i2 t2 (k+1)->IsPair h' s.heap.objs.size x y->h'.objs.size=s.heap.objs.size+1->(∀c o,c≠z->c≠TO->c≠i1->c≠i2->s.heap.get? c=some o->h'.get? c=some o)->Q (some (.ref s.heap.objs.size)) { s with heap:=h' }) :
  wpAny (model prog w) A (pyNext (.ref z)) Q E s:=by
 have T:s.TypeIs (.ref z) "zip" := ⟨_,hz,rfl⟩;unfold pyNext;exact Zq (wpAny_attempt (wpAny_callSpecial?_slot (name:=Str.ofString "__next__") T F.slot_zip_next (wpAny_call_entry F.slot_zip_next T F.entry_zip_next (itemT D hz hI hO j1 j2 p1 p2 hx hy fun h' a1 a2 a3 a4 a5 a6 a7=>Zt (q h' a1 a2 a3 a4 a5 a6 a7)) (F.args_zip_next_1 _))))
theorem om{Q:ZF->Shared->Prop}(hh:A.handled=none)(D:ZipApart z TI TO i1 i2 t1 t2)(hz:IsZip s.heap z TI TO .none)(hI:IsPair s.heap TI (.ref i1) (.ref i2))(hO:IsPair s.heap TO a b)(j1:s.heap.IsTupleIter i1 t1 k)(j2:s.heap.IsTupleIter i2 t2 k)(p1:s.heap.IsTuple t1 xs)(p2:s.heap.IsTuple t2 ys)(m8:xs[k]?=none\/ys[k]?=none)
  (q:∀h',(∀c o,c≠z->c≠TO->c≠i1->c≠i2->s.heap.get? c=some o->h'.get? c=some o)->Q none { s with heap:=h' }):wpAny (model prog w) A (pyNext (.ref z)) Q E s:=by
 have T:s.TypeIs (.ref z) "zip" := ⟨_,hz,rfl⟩;unfold pyNext;refine Zq (wpAny_attempt (wpAny_callSpecial?_slot (name:=Str.ofString "__next__") T F.slot_zip_next (wpAny_call_entry F.slot_zip_next T F.entry_zip_next (endT hh D hz hI hO j1 j2 p1 p2 m8 fun h' e hk he=>?_) (F.args_zip_next_1 _))));obtain⟨o,ho,hc⟩:=he;exact Zq (wpAny_isInstance (T:="StopIteration") (b:=true) ⟨o,ho,hc⟩ isSubtype_stop (Zt (q _ hk)))
end
noncomputable abbrev H1(h:Heap)(l1:Addr):Heap:=h.push { cls:=.type "tuple_iterator",data:=.fields #[.ref l1,.int 0 0] }
noncomputable abbrev H2(h:Heap)(l1 l2:Addr):Heap:=(H1 h l1).push { cls:=.type "tuple_iterator",data:=.fields #[.ref l2,.int 0 0] }
noncomputable abbrev H3(h:Heap)(l1 l2:Addr):Heap:=(H2 h l1 l2).push { cls:=.type "tuple",data:=.seq #[.ref h.objs.size,.ref (H1 h l1).objs.size] }
noncomputable abbrev H4(h:Heap)(l1 l2:Addr):Heap:=(H3 h l1 l2).push { cls:=.type "tuple",data:=.seq #[.none,.none] }
noncomputable abbrev H5(h:Heap)(l1 l2:Addr):Heap:=(H4 h l1 l2).push { cls:=.type "zip",data:=.fields #[.none,.bool false,.bool false,.ref (H2 h l1 l2).objs.size,.ref (H3 h l1 l2).objs.size] }
theorem meets(l1 l2:Addr)(xs ys:ZD) :
  Meets (Builtin.«zip.__new__» ⟨[.type "zip",.ref l1,.ref l2],[]⟩) (fun _ R s=>s.heap.IsTuple l1 xs/\s.heap.IsTuple l2 ys /\
   R (.ok (.ret (.ref (H4 s.heap l1 l2).objs.size))) { s with heap:=H5 s.heap l1 l2 }) :=
 .of_wp fun prog w A R s h=>by
  obtain⟨hp,g,d,tk,os⟩:=s;obtain⟨hl1,hl2,h⟩:=h;have m5:=sub_zip;have hL1:Heap.IsTuple (Shared.heap ⟨hp,g,d,tk,os⟩) l1 xs:=hl1;have hL2:Heap.IsTuple (Shared.heap ⟨hp.push { cls:=.type "tuple_iterator",data:=.fields #[.ref l1,.int 0 0] },g,d,tk,os⟩) l2 ys:=let ⟨o,ho,r⟩:=hl2;⟨o,Ya _ ho,r⟩
  wp_walk using wpAny_pyIter_tuple hL1,wpAny_pyIter_tuple hL2
  exact⟨_,rfl,h⟩
theorem call2{prog:Program}{w:World}{A:Around}{E:ZQ}{s:Shared}{l1 l2:Addr}{xs ys:ZD}{Q:ZQ}(hl1:s.heap.IsTuple l1 xs)(hl2:s.heap.IsTuple l2 ys)
  (h:∀h',IsZip h' (s.heap.objs.size+4) (s.heap.objs.size+2) (s.heap.objs.size+3) .none->IsPair h' (s.heap.objs.size+2) (.ref s.heap.objs.size) (.ref (s.heap.objs.size+1)) ->
   IsPair h' (s.heap.objs.size+3) .none .none->h'.IsTupleIter s.heap.objs.size l1 0->h'.IsTupleIter (s.heap.objs.size+1) l2 0->h'.objs.size=s.heap.objs.size+5 ->
   (∀c o,s.heap.get? c=some o->h'.get? c=some o)->Q (.ref (s.heap.objs.size+4)) { s with heap:=h' }) :
  wpAny (model prog w) A (call (.type "zip") [.ref l1,.ref l2]) Q E s:=by
 refine callType_new F.called_zip (by decide) (F.typeCall_zip_2 _ _) (F.newCall_zip_2 _ _) (fun obj=>F.args_object_init_3 obj _ _) F.entry_zip_new (meets l1 l2 xs ys) ⟨hl1,hl2, ?_⟩;have z1:(H1 s.heap l1).objs.size=s.heap.objs.size+1:=Heap.size_push ..;have z2:(H2 s.heap l1 l2).objs.size=s.heap.objs.size+2:=by rw[Heap.size_push,z1]
 have z3:(H3 s.heap l1 l2).objs.size=s.heap.objs.size+3:=by rw[Heap.size_push,z2]
 have z4:(H4 s.heap l1 l2).objs.size=s.heap.objs.size+4:=by rw[Heap.size_push,z3]
 have z5:(H5 s.heap l1 l2).objs.size=s.heap.objs.size+5:=by rw[Heap.size_push,z4]
 have g5:(H5 s.heap l1 l2).get? (H4 s.heap l1 l2).objs.size=some _:=Gh _ rfl;have g4:(H5 s.heap l1 l2).get? (H3 s.heap l1 l2).objs.size=some _:=Ya _ (Gh _ rfl);have g3:(H5 s.heap l1 l2).get? (H2 s.heap l1 l2).objs.size=some _:=Ya _ (Ya _ (Gh _ rfl));have g2:(H5 s.heap l1 l2).get? (H1 s.heap l1).objs.size=some _:=Ya _ (Ya _ (Ya _ (Gh _ rfl)));have g1:(H5 s.heap l1 l2).get? s.heap.objs.size=some _:=Ya _ (Ya _ (Ya _ (Ya _ (Gh _ rfl))));show _/\_;rw[z2,z3,z4]at g5;rw[z1,z2]at g3;rw[z3]at g4;rw[z1]at g2;rw[z4]
 exact⟨⟨_,g5,rfl⟩,h _ g5 g3 g4 ⟨_,g1,rfl,rfl⟩ ⟨_,g2,rfl,rfl⟩ z5 fun c o x =>
  Ya _ (Ya _ (Ya _ (Ya _ (Ya _ x))))⟩
end ZipT
namespace EX
open PySem
structure zc(l:List Env)(e T:Addr)(oe:Obj)(h h':Heap):Prop where
 keep:∀b o,b≠e->b ∉ l.filterMap (·.frame)->h.get? b=some o->h'.get? b=some o
 slot:∀b o,b≠e->h.get? b=some o->∃sl,h'.get? b=some { o with slots:=sl }
 exc:h'.get? e=some (oe.mapFields (·.setIfInBounds 1 (.ref T)))
 new:h.objs.size<=T
 tb:∃oT ts,h'.get? T=some oT/\oT.data=.fields ts/\3<ts.size
section
variable{M:Model}{A:Around}{E:ZQ}{s:Shared}{env:Env}{outer:List Env}{base:Heap}{L e T:Addr}{oe:Obj}{vs:ZD}{Q:ZH}
theorem Fj(hl:s.heap.FunFrames base (env::outer))(he:s.heap.get? e=some oe)(hd:oe.data=.fields vs):e ∉ (env::outer).filterMap (·.frame):=fun hm=>by
 obtain⟨_,o,ho,hn⟩:=hl.mem hm;rw[he]at ho;cases ho;exact hn vs hd
theorem gy(Du:A.frames=some (env::outer))(hl:s.heap.FunFrames base (env::outer))(hf:env.frame=some L)
  (he:s.heap.get? e=some oe) (hd:oe.data=.fields vs) (h1:vs[1]?=some .none)
  (h:∀h' T,zc (env::outer) e T oe s.heap h'->Q () { s with heap:=h' }):wpAny M A (noteFrame (.ref e) env) Q E s:=by
 have hz:1<vs.size:=(Array.getElem?_eq_some_iff.mp h1).1;have hne:=Fj hl he hd;unfold noteFrame;simp only[hf];refine Zq (wpAny_field he hd h1 ?_);rw[if_neg (by decide)];refine Zq (wpAny_frameOf_fun Du hl hf fun h₁ sl=>Zq (wpAny_entryPlaceOf fun pl hpl=>?_));unfold EntryCells.newEntry newFields;refine Zq (wpAny_newObj_type ?_ (hpl.sizeOk5 _ _ _ _ _));have e1:h₁.get? e=some oe:=(sl.2.1 e hne).trans he;have z1:h₁.objs.size=s.heap.objs.size:=sl.1;refine wpAny_setField (Ya _ e1) hd hz (h _ h₁.objs.size ⟨fun b o hb hn q=>?_,fun b o hb q=>?_, ?_,Nat.le_of_eq z1.symm, ?_⟩)
 .exact(Heap.get?_update_other _ _ (Ne.symm hb)).trans (Ya _ ((sl.2.1 b hn).trans q))
 .obtain⟨x,q'⟩:=sl.2.2 b o q;exact⟨x,(Heap.get?_update_other _ _ (Ne.symm hb)).trans (Ya _ q')⟩
 .exact Heap.get?_update_self _ (Ya _ e1) (Obj.isFreed_of_fields (Obj.data_mapFields hd _))
 .refine⟨_,_,(Heap.get?_update_other _ _ (C8 (Jr e1))).trans (Gh h₁ rfl),rfl, ?_⟩;simp only[Jv,Gc,Jl,List.length_nil];omega
theorem R8{oT:Obj}{ts:ZD}(he:s.heap.get? e=some oe)(hd:oe.data=.fields vs)(h1:vs[1]?=some (.ref T))(hT:s.heap.get? T=some oT)(qc:oT.data=.fields ts)(hz:3<ts.size)
  (h:∀h',(∀b,b≠T->h'.get? b=s.heap.get? b)->(∃oT ts,h'.get? T=some oT/\oT.data=.fields ts/\3<ts.size)->Q () { s with heap:=h' }):wpAny M A (setFlight (.ref e) none) Q E s:=by
 refine wpAny_setFlight_none he hd h1 hT qc hz (h _ (fun b hb=>Heap.get?_update_other _ _ (Ne.symm hb)) ⟨_,_,Heap.get?_update_self _ hT (Obj.isFreed_of_fields (Obj.data_mapFields qc _)),Obj.data_mapFields qc _, ?_⟩);rw[Array.size_setIfInBounds];exact hz
end
abbrev Lk{j:Type}(M:Model)(h:Heap)(t:Sem j)(r:j):Prop :=
 ∀(A:Around) (Q:j->Shared->Prop) (E:ZQ) (s:Shared),(∀b o,h.get? b=some o->s.heap.get? b=some o)->Q r s->wpAny M A t Q E s
section
variable{M:Model}{A:Around}{E:ZQ}{s:Shared}{env:Env}
theorem oz{h:Heap}{e:Addr}{oe:Obj}{vs:ZD}(he:h.get? e=some oe)(hd:oe.data=.fields vs):Lk M h (isType (.ref e)) false:=by
 intro A Q E s k q;show wpAny M A (do return match (<-loadHead e).data with | .cls _=>true | _=>false) Q E s;refine Zq (wpAny_loadPart (k _ _ he) ?_);rw[hd];exact Zt q
theorem Dn{h:Heap}{e:Addr}{oe:Obj}{c:Value}(he:h.get? e=some oe)(hc:oe.cls=c):Lk M h (typeOf (.ref e)) c:=by
 intro A Q E s k q;show wpAny M A (do return (<-loadPart e (some headPart)).cls) Q E s;refine Zq (wpAny_loadPart (k _ _ he) ?_);rw[hc];exact Zt q
theorem y3{x:Sem Value}{Q:Flow->Shared->Prop}(hh:A.handled=none)
  (h:wpAny M A x (fun v s₁=>∃e C oe vs,v=.ref e/\s₁.heap.get? e=some oe/\oe.cls=.ref C/\oe.data=.fields vs/\vs[1]?=some .none /\
   Lk M s₁.heap (isSubtype (.ref C) (.type "BaseException")) true/\Lk M s₁.heap (typeOf (.ref C)) (.type "type")/\E (.ref e) s₁) E s) :
  wpAny M A (raiseStmt env (some x) none) Q E s:=by
 unfold raiseStmt;refine Zq (wpAny_mono h (fun v s₁ h₁=>?_) fun _ _ y=>y);obtain⟨e,C,oe,vs,rfl,he,hc,hd,h1,hs,ht,hE⟩:=h₁;have n1:=oz (M:=M) he hd;have n2:=Dn (M:=M) he hc;refine Zq (Zt (Zq (wpAny_holding ?_)));unfold excFromValue isExcClass isInstance;refine Zq (Zq (n1 _ _ _ _ (fun _ _ z=>z) ?_));rw[if_neg Ox];refine Zt ?_;rw[if_neg Ox];refine Zq (Zq (n2 _ _ _ _ (fun _ _ z=>z) (hs _ _ _ _ (fun _ _ z=>z) ?_)));rw[if_pos rfl];refine Zt ?_;refine Zq (n1 _ _ _ _ (fun _ _ z=>z) ?_);rw[if_neg Ox];unfold raisedInstance;refine Zq (Zq (n2 _ _ _ _ (fun _ _ z=>z) (Zq (ht _ _ _ _ (fun _ _ z=>z) ?_))));rw[if_pos (by decide)];refine Zt (Zq ?_);unfold setFlight;refine Zq (wpAny_field he hd h1 ?_);rw[if_neg (by decide)];exact Zt (wpAny_raiseNew_none hh hE)
end
section
variable{M:Model}{A:Around}{E:ZQ}{s:Shared}{env:Env}
theorem is_cls{h:Heap}{c:Addr}{oc:Obj}{cd:ClassData}(he:h.get? c=some oc)(hd:oc.data=.cls cd):Lk M h (isType (.ref c)) true:=by
 intro A Q E s k q;show wpAny M A (do return match (<-loadHead c).data with | .cls _=>true | _=>false) Q E s;refine Zq (wpAny_loadPart (k _ _ he) ?_);rw[hd];exact Zt q
theorem Hf{e C D:Addr}{b:Bool}{Q:Bool->Shared->Prop}(h1:Lk M s.heap (typeOf (.ref D)) (.type "type"))(h2:Lk M s.heap (isType (.ref D)) true)(h3:Lk M s.heap (isSubtype (.ref D) (.type "BaseException")) true)
  (h4:Lk M s.heap (typeOf (.ref e)) (.ref C)) (h5:Lk M s.heap (isSubtype (.ref C) (.ref D)) b) (h:Q b s):wpAny M A (excMatches (.ref e) (.ref D)) Q E s:=by
 have nt:isSubtype (.type "type") (.type "tuple")=pure false:=by rw[isSubtype_type];kernel_rfl
 unfold excMatches isInstance;refine Zq (Zq (h1 _ _ _ _ (fun _ _ z=>z) ?_));rw[nt];refine Zt ?_;rw[if_neg Ox];refine Zq (Zt ?_);simp only[List.forIn_cons,List.forIn_nil];unfold isExcClass;refine Zq (Zq (Zq (Zq (h2 _ _ _ _ (fun _ _ z=>z) ?_))));rw[if_pos rfl];refine h3 _ _ _ _ (fun _ _ z=>z) ?_;simp only[Bool.not_true,B0f,if_false];refine Zt (Zt (Zq (h4 _ _ _ _ (fun _ _ z=>z) ?_)));refine Zq (Zq (Zq (h5 _ _ _ _ (fun _ _ z=>z) ?_)));cases b with
 | true =>
  simp only[if_true];exact Zt (Zt (Zt h))
 | false =>
  simp only[B0f,if_false];exact Zt (Zt (Zt h))
end
section
variable{prog:Program}{w:World}{A:Around}{E:ZQ}{s:Shared}{env:Env}
theorem ql{e C D:Addr}{t:Expr}{n:Str}{b₀:Stmt}{suite:List Stmt}{pos:Pos}{rest:List ExceptHandler}{Q:Flow->Shared->Prop}
  (h:wpAny (model prog w) (A.mark (some (.ref e))) (eval t env) (fun c s₁=>c=.ref D/\Lk (model prog w) s₁.heap (typeOf (.ref D)) (.type "type")/\Lk (model prog w) s₁.heap (isType (.ref D)) true /\
   Lk (model prog w) s₁.heap (isSubtype (.ref D) (.type "BaseException")) true/\Lk (model prog w) s₁.heap (typeOf (.ref e)) (.ref C)/\Lk (model prog w) s₁.heap (isSubtype (.ref C) (.ref D)) true /\
   wpAny (model prog w) (A.mark (some (.ref e))) (setFlight (.ref e) none) (fun _ s₂ =>
     wpAny (model prog w) (A.mark (some (.ref e))) (storeName env n (.ref e)) (fun _ s₃ =>
      wpAny (model prog w) (A.mark (some (.ref e))) (execs (b₀::suite) env)
       (fun f s₄=>wpAny (model prog w) A (do bindName env n .none;unbindBehindTheSuite env n pos) (fun _ s₅=>Q f s₅) E s₄)
       (fun _ _=>False) s₃) (fun _ _=>False) s₂) (fun _ _=>False) s₁) (fun _ _=>False) s) :
  wpAny (model prog w) A (handleBy (.ref e) env (.ExceptHandler (some t) (some n) (b₀::suite) pos::rest)) Q E s:=by
 refine wpAny_handleBy_cons (codeAny_handlers_test (wpAny_mono h (fun c s₁ h₁=>?_) fun _ _ x=>x.elim)) (by intro q;cases q);obtain⟨rfl,x1,x2,x3,x4,x5,hk⟩:=h₁;refine Hf x1 x2 x3 x4 x5 ?_;refine codeAny_handlers_suite_as (wpAny_mono hk (fun _ s₂ h₂=>wpAny_mono h₂ (fun _ s₃ h₃=>wpAny_mono h₃ (fun f s₄ h₄=>h₄) fun _ _ z=>z.elim) fun _ _ z=>z.elim) fun _ _ z=>z.elim)
end
end EX
namespace DicP2
open PySem PySem.Spec PyProof.Rows
noncomputable def Zqr(t:Value):Obj:={ cls:=.type "AttributeError",data:=.fields #[t,.none,.none,.none,.bool false,.none,unsetMember,unsetMember] }
theorem nst:((Manifest.find? "AttributeError").elim false fun t=>t.mro.contains "StopIteration" || t.mro.contains "SystemExit")=false:=by decide +kernel
theorem newAE{prog:Program}{w:World}{A:Around}{E:ZQ}{s:Shared}{v:Value}{Q:ZQ}
  (hq:∀h' e t,(∀b u,s.heap.get? b=some u->h'.get? b=some u)->h'.get? e=some (Zqr t)->s.heap.get? e=none->Q (.ref e) { s with heap:=h' }):wpAny (model prog w) A (newExc (.type "AttributeError") [v]) Q E s:=by
 obtain⟨h,g,d,t,os⟩:=s;simp only[newExc,newTuple]
 wp_walk
 have e:(#[Value.ref h.objs.size,Value.none,Value.none,Value.none,Value.bool false,if ((Manifest.find? "AttributeError").elim false fun t=>t.mro.contains "StopIteration" || t.mro.contains "SystemExit")=true then [v].headD Value.none else Value.none]++ownMembersOf (Value.type "AttributeError") [v])=#[.ref h.objs.size,.none,.none,.none,.bool false,.none,unsetMember,unsetMember]:=by
  rw[nst];rfl
 rw[e];refine hq _ _ (.ref h.objs.size) (fun b u q=>Ya _ (Ya _ q)) (Gh _ rfl) ?_;cases z:h.get? (h.push { cls:=Value.type "tuple",data:=Data.seq #[v] }).objs.size with
 | none=>rfl
 | some o =>
  have:=Jr z;rw[Heap.size_push]at this;exact absurd this (Nat.not_lt.mpr (Nat.le_succ _))
theorem note{prog:Program}{w:World}{A:Around}{E:ZQ}{s:Shared}{e:Addr}{t o nm:Value}{Q:ZH}(he:s.heap.get? e=some (Zqr t))
  (hq:∀h' d,Heap.SameBut e s.heap h'->h'.get? e=some { cls:=.type "AttributeError",data:=d }->Q () { s with heap:=h' }):wpAny (model prog w) A (noteAttr (.ref e) o nm) Q E s:=by
 unfold noteAttr;simp only[];unfold lacksNameAndObj;simp only[];refine Zq (Zq (wpAny_isInstance (T:="AttributeError") (b:=true) ⟨_,he,rfl⟩ (by rw[isSubtype_type];kernel_rfl) ?_));simp only[Bool.not_true,B0f,if_false];refine Zq (wpAny_load he ?_);show wpAny _ _ (pure true) _ _ _;refine Zt ?_;simp only[if_true];refine Zq (wpAny_rule (Zq (wpAny_typeOf (T:="AttributeError") ⟨_,he,rfl⟩ ?_)));refine wpAny_layMembers he rfl ?_;refine hq _ _ ⟨Heap.size_update _ _ _,fun b hb=>Heap.get?_update_other _ _ (Ne.symm hb)⟩ (Heap.get?_update_self _ he rfl)
theorem tl1:typeLookup (.type "tuple") (Str.ofString "__getattribute__")=pure (some (.builtin "tuple.__getattribute__")):=by rw[typeLookup_type,builtinLookup_eq_fast];kernel_rfl
theorem tl2:typeLookup (.type "tuple") (Str.ofString "keys")=pure none:=by rw[typeLookup_type,builtinLookup_eq_fast];kernel_rfl
theorem tl3:typeLookup (.type "tuple") (Str.ofString "__getattr__")=pure none:=by rw[typeLookup_type,builtinLookup_eq_fast];kernel_rfl
theorem slot_ga:Slot "tuple" (Str.ofString "__getattribute__") "tuple.__getattribute__" := Slot.of (owner:="tuple") (n:="__getattribute__") tl1 (by decide +kernel) (by decide +kernel) (by decide +kernel) (.inl (by decide +kernel)) (by rw[isSubtype_type];kernel_rfl)
theorem hb0:hookBefore (.type "tuple")=pure none:=rfl
theorem Ri:entryFor table "dict.update.loop" = some Builtin.«dict.update.loop»:=entryFor_of_tree (by kernel_rfl)
theorem Je:plainId "dict.update.loop" = true:=by decide +kernel
section
variable{prog:Program}{w:World}{K:Type}[DecidableEq K]{knd:PySem.KeyKind prog w K}
def Prs(knd:PySem.KeyKind prog w K)(h:Heap)(its:ZD)(rs:List (K×Value)):Prop :=
 its.size=rs.length/\∀(j:Nat) (k:K) (v:Value),rs[j]?=some (k,v)->∃p u,its[j]?=some (.ref p)/\IsTup h p #[u,v]/\knd.is k u=true
noncomputable def stK(rs:List (K×Value))(i:Nat):List (K×Value):=(rs.take i).foldl (fun acc kv=>stored acc kv.1 kv.2) []
theorem Kr(XY:List (K×Value))(k:K)(v:Value):(stored XY k v).length<=XY.length+1:=by
 unfold stored
 split
 .rw[Za];omega
 .rw[Gc];simp
theorem Ou{rs:List (K×Value)}{i:Nat}{k:K}{v:Value}(h:rs[i]?=some (k,v)):stK rs (i+1)=stored (stK rs i) k v:=by
 unfold stK;rw[List.take_succ,h];simp
theorem F8(rs:List (K×Value)):∀i,(stK rs i).length<=i
 | 0=>by simp[stK]
 | i+1=>by
  cases h:rs[i]? with
  | none =>
   have:=F8 rs i;unfold stK at this ⊢;rw[List.take_succ,h];simp only[Option.toList_none,ZE];omega
  | some p =>
   obtain⟨k,v⟩:=p;rw[Ou h];have:=F8 rs i;have:=Kr (stK rs i) k v;omega
variable{A:Around}{R:Result->Shared->Prop}{E:ZQ}{s:Shared}{d it t:Addr}{its:ZD}{rs:List (K×Value)}
end
end DicP2
namespace DicL
open PySem PySem.Spec PyProof.Rows
open DicP2
theorem tl1:typeLookup (.type "list") (Str.ofString "__getattribute__")=pure (some (.builtin "list.__getattribute__")):=by rw[typeLookup_type,builtinLookup_eq_fast];kernel_rfl
theorem tl2:typeLookup (.type "list") (Str.ofString "keys")=pure none:=by rw[typeLookup_type,builtinLookup_eq_fast];kernel_rfl
theorem tl3:typeLookup (.type "list") (Str.ofString "__getattr__")=pure none:=by rw[typeLookup_type,builtinLookup_eq_fast];kernel_rfl
theorem slot_ga:Slot "list" (Str.ofString "__getattribute__") "list.__getattribute__" := Slot.of (owner:="list") (n:="__getattribute__") tl1 (by decide +kernel) (by decide +kernel) (by decide +kernel) (.inl (by decide +kernel)) (by rw[isSubtype_type];kernel_rfl)
theorem t4:entryFor table "list.__getattribute__" = some Builtin.«object.__getattribute__»:=entryFor_alias (id':="object.__getattribute__") (by kernel_rfl) rfl (by decide +kernel) (by kernel_rfl)
theorem Zxz(a b:Value):argsOk "list.__getattribute__" ⟨[a,b],[]⟩:=by unfold argsOk;kernel_rfl
theorem Zzf{prog:Program}{w:World}{A:Around}{E:ZQ}{s:Shared}{u:Nat}{a:Addr}{its:ZD}{n:Nat}{sl:ZY}{Q:PySem.Fin->Shared->Prop}(hh:A.handled=none)(ho:s.heap.get? a=some ⟨.type "list",none,.seq its n,sl⟩)
  (hq:∀e h' t',(∃o,h'.get? e=some o/\o.cls=.type "AttributeError")->(∀b u,s.heap.get? b=some u->h'.get? b=some u)->E (.ref e) { s with heap:=h',toks:=t' }):wpAny (model prog w) A (Builtin.«object.__getattribute__» ⟨[.ref a,.str (Str.ofString "keys") u],[]⟩) Q E s:=by
 obtain⟨h,g,d,t,os⟩:=s;have ho:h.get? a=some ⟨.type "list",none,.seq its n,sl⟩:=ho;unfold Builtin.«object.__getattribute__»
 wp_walk
 show wpAny _ _ (typeLookup (.type "list") _) _ _ _;rw[tl2]
 wp_walk
 have hl:(Str.ofString (toString "'" ++ toString ((Manifest.find? "list").elim "list" fun x=>x.tpName)++toString "' object has no attribute '")++Str.ofString "keys" ++ Str.ofString "'").length<=sizeLine:=by decide +kernel
 generalize (Str.ofString (toString "'" ++ toString ((Manifest.find? "list").elim "list" fun x=>x.tpName)++toString "' object has no attribute '")++Str.ofString "keys" ++ Str.ofString "'")=msg at hl ⊢;unfold raiseAttrError;refine Zq (wpAny_mkStr ?_ hl);refine Zq (newAE fun h1 e t1 k1 e1 n1=>?_);refine Zq (wpAny_mkText ?_);refine Zq (note e1 fun h2 d2 sb e2=>?_);refine wpAny_raiseNew_none hh (hq e h2 _ ⟨_,e2,rfl⟩ fun b u q=>?_);refine(sb.2 b fun z=>?_).trans (k1 b u q);rw[z]at q;rw[show h.get? e=none from n1]at q;cases q
theorem hb0:hookBefore (.type "list")=pure none:=rfl
theorem x9{prog:Program}{w:World}{A:Around}{E:ZQ}{s:Shared}{a:Addr}{its:ZD}{n:Nat}{sl:ZY}{Q:ZF->Shared->Prop}(hh:A.handled=none)(ho:s.heap.get? a=some ⟨.type "list",none,.seq its n,sl⟩)
  (hq:∀h' t',(∀b u,s.heap.get? b=some u->h'.get? b=some u)->Q none { s with heap:=h',toks:=t' }):wpAny (model prog w) A (getAttr? (.ref a) (Str.ofString "keys")) Q E s:=by
 obtain⟨h,g,d,t,os⟩:=s;have ho:h.get? a=some ⟨.type "list",none,.seq its n,sl⟩:=ho;unfold getAttr?;refine Zq (wpAny_mkText ?_);unfold getAttrBy?;refine Zq (wpAny_attempt ?_);unfold getAttrBy;refine wpAny_holding ?_;have ht:Shared.TypeIs ⟨h,g,d,t+1,os⟩ (.ref a) "list" := ⟨_,ho,rfl⟩;refine Zq (wpAny_typeOf ht ?_);rw[tl1];refine Zq (Zt ?_);simp only[];refine wpAny_ite_split (fun z=>absurd z (by decide)) fun _=>?_;unfold getAttrByItsOwn;rw[hb0];refine Zq (Zt ?_);refine Zq (wpAny_attempt (wpAny_holding ?_));show wpAny _ _ (boundAndCalled (.builtin "list.__getattribute__") (.ref a) _) _ _ _;unfold boundAndCalled;rw[slot_ga.toG.bind];refine Zq (Zt ?_);show wpAny _ _ (call (.builtin "list.__getattribute__") [.ref a,.str (Str.ofString "keys") t]) _ _ _;refine wpAny_call_entry slot_ga ht t4 ?_ (Zxz _ _);refine Zzf (s:=⟨h,g,d,t+1,os⟩) hh ho fun e h' t' he kp=>?_;obtain⟨o,e1,e2⟩:=he;have ae:∀t'',Shared.TypeIs ⟨h',g,d,t'',os⟩ (.ref e) "AttributeError" := fun _=>⟨o,e1,e2⟩;show wpAny _ _ (getattributeRaised _ _ _ _ _ _ _) _ _ _;unfold getattributeRaised;refine Zq (wpAny_isInstance (T:="AttributeError") (b:=true) (ae _) (by rw[isSubtype_type];kernel_rfl) ?_);simp only[if_true];rw[show hookBehind (Value.type "list") none=typeLookup (.type "list") (Str.ofString "__getattr__") from rfl,tl3];refine Zq (Zt ?_);unfold hookOrError;simp only[];unfold attributeErrorLeaves;simp only[Bool.not_false,if_true];refine Zq (wpAny_throw ?_);refine Zq (wpAny_isInstance (T:="AttributeError") (b:=true) (ae _) (by rw[isSubtype_type];kernel_rfl) ?_);simp only[if_true];exact Zt (hq h' t' kp)
end DicL
namespace DicL
open PySem PySem.Spec PyProof.Rows DicP2
section
variable{prog:Program}{w:World}{K:Type}[DecidableEq K]{knd:PySem.KeyKind prog w K}
variable{A:Around}{R:Result->Shared->Prop}{E:ZQ}{s:Shared}{d it t:Addr}{its:ZD}{rs:List (K×Value)}
theorem loop(hh:A.handled=none)(hdi:d≠it)(htd:t≠d)(hti:t≠it)(hz:rs.length<=sizeLine){h₁:Heap}(ht:h₁.IsList t its)(hp:Prs knd h₁ its rs)(hpd:∀(p:Addr),.ref p∈its.toList->p≠d/\p≠it)
  (fin:∀h' tk,(∀b o,b≠d->b≠it->h₁.get? b=some o->h'.get? b=some o)->h'.DictOf knd d (stK rs rs.length)->R (.ok (.ret .none)) { s with heap:=h',toks:=tk }) :
  ∀(k i:Nat) (h:Heap) (tk:Nat),rs.length - i=k->i<=rs.length->(∀b o,b≠d->b≠it->h₁.get? b=some o->h.get? b=some o)->h.IsListIter it t i->h.DictOf knd d (stK rs i) ->
   codeAny (model prog w) A (.builtin "dict.update.loop" ⟨[.ref d,.ref it,rawInt i,.none],[]⟩) R { s with heap:=h,toks:=tk }:=by
 intro k
 induction k with
 | zero =>
  intro i h tk hk hi kp st dd;have ei:i=rs.length:=by omega
  subst ei;refine codeAny_builtin Ri ?_;rw[Around.under_plainId Je _]
  change wpAny _ A.in1 (pyNext (.ref it) >>= _) _ _ _
  refine Zq (wpAny_pyNext_list_end (s:={ s with heap:=h,toks:=tk }) (A:=A.in1) hh st (ht.at fun o e=>kp _ o htd hti e) (Array.getElem?_eq_none (by rw[hp.1];exact D5 _)) fun h' ext=>?_)
  change wpAny _ A.in1 (Builtin.Dict.addKeywords d [] >>= _) _ _ _
  refine Zq (m:=Builtin.Dict.addKeywords d []) ?_;unfold Builtin.Dict.addKeywords;simp only[List.forIn_nil];refine Zq (Zt (Zt (Zt ?_)));refine fin h' tk (fun b o n1 n2 e=>ext b o n2 (kp b o n1 n2 e)) ?_;obtain⟨o,es,ep,e1,r⟩:=dd;exact⟨o,es,ep,ext d o hdi e1,r⟩
 | succ k ih =>
  intro i h tk hk hi kp st dd;have Si:i<rs.length:=by omega
  obtain⟨⟨kk,vv⟩,hkv⟩:∃p,rs[i]?=some p:=⟨rs[i],We Si⟩;obtain⟨p,u,ep,tp,ku⟩:=hp.2 i kk vv hkv;have np:=hpd p (by rw[<-Array.mem_def];exact Array.mem_of_getElem? ep);refine codeAny_builtin Ri ?_;rw[Around.under_plainId Je _]
  change wpAny _ A.in1 (pyNext (.ref it) >>= _) _ _ _
  refine Zq (wpAny_pyNext_list_item (s:={ s with heap:=h,toks:=tk }) (A:=A.in1) st (ht.at fun o e=>kp _ o htd hti e) ep fun h' W2 sb=>?_);have tp':IsTup h' p #[u,vv]:=let ⟨o,e1,e2⟩:=tp;⟨o,sb.extBut _ _ np.2 (kp _ _ np.1 np.2 e1),e2⟩;have dd':h'.DictOf knd d (stK rs i):=let ⟨o,es,ep,e1,r⟩:=dd;⟨o,es,ep,sb.extBut _ _ hdi e1,r⟩;simp only[];refine Zq (wpAny_holding (Zq (wpAny_tryCatch ?_)));unfold Builtin.Dict.pairItems;refine Zq (wpAny_typeOf (T:="tuple") tp'.typeIs ?_);simp only[show (Value.type "tuple" == Value.type "list" || Value.type "tuple" == Value.type "tuple")=true from by decide,if_true];obtain⟨o,e1,e2,n,e3⟩:=id tp';refine Zq (m:=seqItems? (.ref p)) ?_;unfold seqItems?;simp only[];refine Zq (wpAny_load e1 ?_);rw[e3];refine Zt (Zt ?_);show wpAny _ _ (holding [u,vv] (dictSet d u vv)) _ _ _;refine wpAny_holding ?_;refine wpAny_dictSet_pairs (hsz:=Gs (F8 rs i) (Gs hi hz)) ku dd' fun h2 dd2 sb2=>?_;refine Zt ⟨plainId_quiet Je _, ?_⟩;refine ih (i+1) h2 _ (by omega) Si (fun b o n1 n2 e=>sb2.extBut _ _ n1 (sb.extBut _ _ n2 (kp b o n1 n2 e))) (W2.extBut sb2.extBut hdi.symm) ?_;rw[Ou hkv];exact dd2
theorem Ah{Q:ZQ}(hh:A.handled=none){n:Nat}{sl:ZY}(ho:s.heap.get? t=some ⟨.type "list",none,.seq its n,sl⟩)(hp:Prs knd s.heap its rs)(hz:rs.length<=sizeLine)
  (hl:∀(p:Addr),.ref p∈its.toList->p<s.heap.objs.size)
  (fin:∀h' tk,(∀b o,s.heap.get? b=some o->h'.get? b=some o)->h'.DictOf knd s.heap.objs.size (stK rs rs.length)->Q (.ref s.heap.objs.size) { s with heap:=h',toks:=tk }) :
  wpAny (model prog w) A (call (.type "dict") [.ref t]) Q E s:=by
 have lt:∀{c o},s.heap.get? c=some o->c≠s.heap.objs.size:=fun e=>C8 (Jr e);have pu:∀{c o},s.heap.get? c=some o->(s.heap.push { cls:=.type "dict",data:=.dict #[] }).get? c=some o:=fun e=>Ya _ e
 refine callType_codes (Q₁:=fun obj s₁=>obj=.ref s.heap.objs.size/\s₁={ s with heap:=s.heap.push { cls:=.type "dict",data:=.dict #[] } }) F.kt_called_dict (F.kt_typeCall_dict_1 _) F.entry_dict_init
  (kt_code_dict_new _ ⟨rfl,rfl⟩) fun obj s₁ q=>?_
 obtain⟨rfl,rfl⟩:=q;have C6:(s.heap.push { cls:=.type "dict",data:=.dict #[] }).get? s.heap.objs.size=some { cls:=.type "dict",data:=.dict #[] }:=Gh _ rfl;refine⟨⟨_,C6,rfl⟩,F.args_dict_init_2 _ _, ?_⟩;have ty:Shared.TypeIs { s with heap:=s.heap.push { cls:=.type "dict",data:=.dict #[] } } (.ref s.heap.objs.size) "dict" := ⟨_,C6,rfl⟩;unfold Builtin.«dict.__init__»;unfold Builtin.Dict.selfAndRest;refine Zq (Zq (wpAny_notOrdered_dict ty ?_));refine Zq (m:=Builtin.Dict.addrOf (.ref s.heap.objs.size)) (Zt (Zt ?_));show wpAny _ _ (Builtin.Dict.updateFrom "dict.__init__" s.heap.objs.size (.ref t) [] .none) _ _ _;unfold Builtin.Dict.updateFrom;refine Zq (wpAny_typeOf (T:="list") ⟨_,pu ho,rfl⟩ ?_);simp only[show (Value.type "list" != Value.type "dict")=true from by decide,if_true];refine Zq (x9 (s:={ s with heap:=s.heap.push { cls:=.type "dict",data:=.dict #[] } }) (A:=A.in1.in1) hh (pu ho) fun h2 t2 k2=>?_);simp only[Option.isNone_none,if_true];refine Zq (wpAny_rule ?_);have tu:Heap.IsList h2 t its:=⟨_,k2 _ _ (pu ho),rfl,n,rfl⟩;refine Zq (wpAny_pyIter_list (s:={ s with heap:=h2,toks:=t2 }) tu ?_);have lt2:∀{c o},h2.get? c=some o->c≠h2.objs.size:=fun e=>C8 (Jr e);have at2:=k2 _ _ C6;have sz2:s.heap.objs.size<h2.objs.size:=Jr at2;refine Zt ⟨plainId_quiet Je _, ?_⟩;have kp3:∀b o,h2.get? b=some o->(h2.push { cls:=.type "list_iterator",data:=.fields #[.ref t,.int 0 0] }).get? b=some o:=fun b o e=>Ya _ e;refine loop (knd:=knd) (s:=s) (A:=A.in1) (d:=s.heap.objs.size) (it:=h2.objs.size) (t:=t) hh (C8 sz2) (lt ho) (lt2 (k2 _ _ (pu ho))) hz (h₁:=h2.push { cls:=.type "list_iterator",data:=.fields #[.ref t,.int 0 0] }) (tu.at fun o e=>kp3 _ o e) ⟨hp.1,fun j k v e=>?_⟩ (fun p hm=>⟨C8 (hl p hm),C8 (Nat.lt_trans (hl p hm) sz2)⟩) (fun h' tk kp dd=>?_) _ 0 _ t2 rfl (Cb _) (fun b o _ _ e=>e) ⟨_,Gh _ rfl,rfl,rfl⟩ ?_
 .obtain⟨p,u,e1,tp,ku⟩:=hp.2 j k v e;exact⟨p,u,e1,let ⟨o,a1,a2⟩:=tp;⟨o,kp3 _ _ (k2 _ _ (pu a1)),a2⟩,ku⟩
 .refine⟨rfl,fin h' tk (fun b o e=>kp b o (lt e) (lt2 (k2 _ _ (pu e))) (kp3 _ _ (k2 _ _ (pu e)))) dd⟩
 .exact⟨_, #[],_,kp3 _ _ at2,⟨rfl,rfl,rfl⟩,rfl,fun e he=>by simp at he,.nil,List.nodup_nil⟩
end
end DicL
namespace SetM
open PySem
def Ris(xs:ZN):Prop:=∀a b (h:a<b) (hb:b<xs.size),xs[a]'(Nat.lt_trans h hb)<xs[b]
theorem getD_in{xs:ZN}{i d:Nat}(h:i<xs.size):xs.getD i d=xs[i]:=by simp[Array.getD,h]
theorem Q0{xs:ZN}{j:Nat}(hr:Ris xs):∀(fuel lo hi:Nat),hi - lo<=fuel->lo<=hi->hi<=xs.size->(∀i (h:i<xs.size),i<lo->xs[i]<j)->(∀i (h:i<xs.size),hi<=i->j<=xs[i]) ->
  (∀i (h:i<xs.size),i<SetTable.below.go xs j fuel lo hi->xs[i]<j)/\(∀i (h:i<xs.size),SetTable.below.go xs j fuel lo hi<=i->j<=xs[i])/\SetTable.below.go xs j fuel lo hi<=xs.size
 | 0,lo,hi,hf,hl,hs,h1,h2=>by
  have e:lo=hi:=by omega
  subst e;simp only[SetTable.below.go];exact⟨h1,h2,hs⟩
 | fuel+1,lo,hi,hf,hl,hs,h1,h2=>by
  simp only[SetTable.below.go];by_cases h:lo<hi
  .rw[if_pos h];have hm:(lo+hi) / 2<xs.size:=by omega
   rw[getD_in hm];by_cases hc:xs[(lo+hi) / 2]<j
   .rw[if_pos hc];refine Q0 hr fuel _ _ (by omega) (by omega) hs (fun i H0 Si=>?_) h2;rcases Nat.lt_or_ge i ((lo+hi) / 2) with z | z
    .exact Nat.lt_trans (hr i _ z hm) hc
    .have e:i=(lo+hi) / 2:=by omega
     subst e;exact hc
   .rw[if_neg hc];refine Q0 hr fuel _ _ (by omega) (by omega) (by omega) h1 (fun i H0 hle=>?_);rcases Nat.lt_or_ge ((lo+hi) / 2) i with z | z
    .have:=hr _ i z H0;omega
    .have e:i=(lo+hi) / 2:=by omega
     subst e;omega
  .rw[if_neg h];have e:lo=hi:=by omega
   subst e;exact⟨h1,h2,hs⟩
theorem Wn{xs:ZN}{j:Nat}(hr:Ris xs):(∀i (h:i<xs.size),i<SetTable.below xs j->xs[i]<j)/\(∀i (h:i<xs.size),SetTable.below xs j<=i->j<=xs[i])/\SetTable.below xs j<=xs.size :=
 Q0 hr xs.size 0 xs.size (by omega) (by omega) (D5 _) (fun i _ h=>by omega) (fun i h h'=>by omega)
theorem xn(n:Nat):Ris (Array.range n):=fun a b h hb=>by simp;omega
theorem Hi{xs:ZN}{p j:Nat}(hp:p<=xs.size):∀i,(SetTable.insertAt xs p j)[i]?=if i<p then xs[i]? else if i=p then some j else xs[i - 1]?:=by
 intro i;unfold SetTable.insertAt;have rz:((xs.extract 0 p).push j).size=p+1:=by simp;omega
 rw[Array.getElem?_append,rz];by_cases h1:i<p+1
 .rw[if_pos h1,Array.getElem?_push];have hs2:(xs.extract 0 p).size=p:=by simp;omega
  rw[hs2];by_cases h2:i=p
  .rw[if_pos h2,if_neg (by omega),if_pos h2]
  .rw[if_neg h2,if_pos (by omega)];rw[Array.getElem?_extract];simp;omega
 .rw[if_neg h1,if_neg (by omega),if_neg (by omega)];rw[Array.getElem?_extract];have e:p+(i - (p+1))=i - 1:=by omega
  rw[e];simp;intro h;omega
theorem V0{l:Type}{xs:Array l}{p:Nat}{j:l}(hp:p<=xs.size):(SetTable.insertAt xs p j).size=xs.size+1:=by
 unfold SetTable.insertAt;simp;omega
theorem u7{xs:ZN}{j:Nat}(hr:Ris xs)(hn:xs[SetTable.below xs j]?≠some j):Ris (SetTable.insertAt xs (SetTable.below xs j) j):=by
 obtain⟨h1,h2,h3⟩:=Wn (j:=j) hr;generalize hk:SetTable.below xs j=k at h1 h2 h3 hn;have g:=Hi (xs:=xs) (j:=j) h3;intro a b hab hb;rw[V0 h3]at hb;have ga:=g a;have gb:=g b;have ha':a<(SetTable.insertAt xs k j).size:=by rw[V0 h3];omega
 have hb':b<(SetTable.insertAt xs k j).size:=by rw[V0 h3];omega
 rw[A0g ha']at ga;rw[A0g hb']at gb
 have strict:∀i (h:i<xs.size),k<=i->j<xs[i]:=fun i h Kj=>by
  have hle:=h2 i h Kj;rcases Nat.lt_or_ge k i with z | z
  .have hkz:k<xs.size:=by omega
   have:=hr k i z h;have:=h2 k hkz (D5 _);omega
  .have e:i=k:=by omega
   subst e;rw[A0g h]at hn;have:xs[i]≠j:=fun q=>hn (by rw[q]);omega
 by_cases a1:a<k
 .rw[if_pos a1,A0g (by omega)]at ga;have ga':=M7 ga;by_cases b1:b<k
  .rw[if_pos b1,A0g (by omega)]at gb;have gb':=M7 gb;rw[ga',gb'];exact hr a b hab (by omega)
  .rw[if_neg b1]at gb;by_cases b2:b=k
   .rw[if_pos b2]at gb;have gb':=M7 gb;rw[ga',gb'];exact h1 a (by omega) a1
   .rw[if_neg b2,A0g (by omega)]at gb;have gb':=M7 gb;rw[ga',gb'];exact hr a (b - 1) (by omega) (by omega)
 .rw[if_neg a1]at ga;rw[if_neg (by omega),if_neg (by omega),A0g (by omega)]at gb;have gb':=M7 gb;by_cases a2:a=k
  .rw[if_pos a2]at ga;have ga':=M7 ga;rw[ga',gb'];exact strict (b - 1) (by omega) (by omega)
  .rw[if_neg a2,A0g (by omega)]at ga;have ga':=M7 ga;rw[ga',gb'];exact hr (a - 1) (b - 1) (by omega) (by omega)
structure Wu(t:SetTable)(n:Nat):Prop where
 size:t.place.size=n
 dum:t.dummies=#[]
 ris:Ris t.place
 room:n<=t.mask
theorem Wu.fits{t:SetTable}{n:Nat}(h:Wu t n):t.fits n=true:=by
 unfold SetTable.fits SetTable.fill;rw[h.dum,h.size];simp;exact h.room
theorem xx(f m:Nat)(led:Bool):Wu (SetTable.fresh f m led) 0:=⟨rfl,rfl,fun a b _ hb=>by simp[SetTable.fresh]at hb,Cb _⟩
theorem Uo(t:SetTable)(n:Nat):Wu (t.standIn n) n:=⟨by simp[SetTable.standIn],rfl,xn n,by simp[SetTable.standIn];omega⟩
theorem X3(j:Nat):SetTable.has #[] j=false:=by simp[SetTable.has]
theorem W1{t:SetTable}{n:Nat}(hs:t.place.size=n)(hd:t.dummies=#[])(hr:Ris t.place):Wu (t.orStandIn n) n:=by
 unfold SetTable.orStandIn
 split
 .rename_i h
  refine⟨hs,hd,hr, ?_⟩;unfold SetTable.fits SetTable.fill at h;rw[hd,hs]at h;simpa using h
 .exact Uo t n
theorem Ts{t:SetTable}(hd:t.dummies=#[]){f:Nat->Int}{h:Int}{j:Nat}{dm:ZL}:∀(fuel:Nat) (p:SetTable.Probe),p.dummy=none->SetTable.probe.go t f h fuel p=some (.empty j dm)->dm=none/\t.place[SetTable.below t.place j]?≠some j
 | 0,p,_,e=>by simp[SetTable.probe.go]at e
 | fuel+1,p,hp,e=>by
  have adv:(t.advance p).dummy=none:=by
   unfold SetTable.advance
   split
   .exact hp
   .exact hp
  simp only[SetTable.probe.go]at e;cases hs:t.slot p.j with
  | empty =>
   rw[hs]at e;simp only[Option.some.injEq,SetTable.Met.empty.injEq]at e;obtain⟨e1,e2⟩:=e;subst e1;refine⟨by rw[<-e2,hp],fun q=>?_⟩;unfold SetTable.slot at hs;simp[q]at hs
  | dummy =>
   exfalso
   unfold SetTable.slot at hs;simp only[hd,X3]at hs
   split at hs<;>simp at hs
  | live i =>
   rw[hs]at e;simp only at e
   split at e
   .simp at e
   .exact Ts hd fuel _ adv e
theorem Kl{t:SetTable}{es:Array (Int×Value)}(h:Wu t es.size)(k:Int)(x:Value):Wu (layNew t es k x).2.1 (layNew t es k x).1.size:=by
 unfold layNew;cases hf:t.freeSlot k with
 | none =>
  simp only;have:(es.push (k,x)).size=es.size+1:=by simp
  rw[this];exact Uo t _
 | some sw =>
  obtain⟨slot,wd⟩:=sw;simp only;unfold SetTable.freeSlot at hf
  have hn:t.place[SetTable.below t.place slot]?≠some slot:=by
   cases hp:t.probe (fun _=>k+1) k (t.probeStart k) with
   | none=>rw[hp]at hf;simp at hf
   | some m =>
    rw[hp]at hf;cases m with
    | candidate a b c=>simp at hf
    | empty j dm =>
     obtain⟨e1,e2⟩:=Ts h.dum _ (t.probeStart k) rfl hp;subst e1;simp at hf;rw[<-hf.1];exact e2
  obtain⟨_,_,hb⟩:=Wn (j:=slot) h.ris;have hb':SetTable.below t.place slot<=es.size:=by rw[<-h.size];exact hb
  have e1:(t.put slot).2=SetTable.below t.place slot:=rfl;refine W1 ?_ ?_ ?_
  .rw[e1,V0 hb'];show (SetTable.insertAt t.place (SetTable.below t.place slot) slot).size=es.size+1;rw[V0 hb,h.size]
  .show (if SetTable.has t.dummies slot then _ else t.dummies)=#[];rw[h.dum,X3]
   rfl
  .exact u7 h.ris hn
theorem Hl{t:SetTable}{es:Array (Int×Value)}(k:Int)(x:Value):(layNew t es k x).2.1.led=t.led:=by
 unfold layNew
 split
 .simp only[SetTable.orStandIn]
  split<;>rfl
 .rfl
theorem K2(n:Nat)(g:Nat->ZL):((List.range n).filterMap fun j=>(g j).map (j, ·)).Pairwise fun a b=>a.1<b.1:=by
 rw[List.pairwise_filterMap];refine List.Pairwise.imp ?_ List.pairwise_lt_range;intro a b hab c hc d hd;cases ha:g a with
 | none=>rw[ha]at hc;simp at hc
 | some u =>
  cases hb:g b with
  | none=>rw[hb]at hd;simp at hd
  | some v =>
   rw[ha]at hc;rw[hb]at hd;simp at hc hd;rw[<-hc, <-hd];exact hab
theorem Fe{t:SetTable}{es:Array (Int×Value)}(wanted:Nat):Wu (relayAll t es wanted).2.1 (relayAll t es wanted).1.size:=by
 unfold relayAll;cases hr:t.relaid (es.map (·.1)) wanted with
 | none=>exact Uo t _
 | some to =>
  obtain⟨t',order⟩:=to;simp only
  split
  .rename_i hc
   unfold SetTable.relaid SetTable.laid at hr;cases hl:SetTable.layClean (SetTable.sizeAbove wanted - 1) (es.map (·.1)) with
   | none=>rw[hl]at hr;simp at hr
   | some owner =>
    rw[hl]at hr;simp at hr;obtain⟨h1,h2⟩:=hr;have W8:=(zh.mp hc).2;have hd:t'.dummies=#[]:=by rw[<-h1]
    refine⟨?_,hd, ?_, ?_⟩
    .unfold SetTable.fits at W8;simp at W8;exact W8.1
    .rw[<-h1];intro a b hab hb;have hp:=K2 (SetTable.sizeAbove wanted - 1+1) (fun j=>owner[j]?.getD none);have hp2:(((List.range (SetTable.sizeAbove wanted - 1+1)).filterMap fun j=>(owner[j]?.getD none).map (j, ·)).map fun p=>p.1).Pairwise (· < ·):=List.pairwise_map.mpr hp;simp only[List.getElem_toArray];exact List.pairwise_iff_getElem.mp hp2 a b _ _ hab
    .unfold SetTable.fits SetTable.fill at W8;rw[hd]at W8;simp at W8;exact(W8.1 ▸ W8.2:_)
  .exact Uo t _
theorem Qg{t:SetTable}{es:Array (Int×Value)}(wanted:Nat):(relayAll t es wanted).2.1.led=t.led:=by
 unfold relayAll;cases hr:t.relaid (es.map (·.1)) wanted with
 | none=>rfl
 | some to =>
  obtain⟨t',order⟩:=to;simp only
  split
  .unfold SetTable.relaid SetTable.laid at hr;cases hl:SetTable.layClean (SetTable.sizeAbove wanted - 1) (es.map (·.1)) with
   | none=>rw[hl]at hr;simp at hr
   | some owner =>
    rw[hl]at hr;simp at hr;rw[<-hr.1]
  .rfl
theorem G6{j V:Type}{F:j->V->Prop}{l l':List V}(p:l'.Perm l):∀{ks:List j},Paired F ks l->∃Jx,Paired F Jx l'/\Jx.Perm ks:=by
 induction p with
 | nil=>intro ks h;cases h;exact⟨[],.nil,.nil⟩
 | cons x p ih =>
  intro ks h;cases h with
  | cons r t =>
   obtain⟨Jx,h1,h2⟩:=ih t;exact⟨_::Jx,.cons r h1,h2.cons _⟩
 | swap x y l =>
  intro ks h;cases h with
  | cons r t =>
   cases t with
   | cons r' t'=>exact⟨_::_::_,.cons r' (.cons r t'),.swap _ _ _⟩
 | trans p1 p2 ih1 ih2 =>
  intro ks h;obtain⟨k1,h1,h2⟩:=ih2 h;obtain⟨k2,h3,h4⟩:=ih1 h1;exact⟨k2,h3,h4.trans h2⟩
theorem Mu{j V:Type}{F:j->V->Prop}:∀{ks:List j} {l:List V},Paired F ks l->∀k∈ks,∃e∈l,F k e
 | _,_,.nil,k,h=>by cases h
 | _,_,.cons r t,k,h=>by
  rcases Vt.mp h with z | z
  .subst z;exact⟨_,Yd,r⟩
  .obtain⟨e,h1,h2⟩:=Mu t k z;exact⟨e,Vq _ h1,h2⟩
theorem G7{j V:Type}{F:j->V->Prop}:∀{ks:List j} {l:List V},Paired F ks l->∀e∈l,∃k∈ks,F k e
 | _,_,.nil,k,h=>by cases h
 | _,_,.cons r t,k,h=>by
  rcases Vt.mp h with z | z
  .subst z;exact⟨_,Yd,r⟩
  .obtain⟨e,h1,h2⟩:=G7 t k z;exact⟨e,Vq _ h1,h2⟩
section
variable{prog:Program}{w:World}{K:Type}[DecidableEq K](knd:KeyKind prog w K)
structure Zxj(o:Obj)(ks:List K):Prop where
 ex:o.ExactSet
 dat:∃es ep t,o.data=.set es ep t/\ElemsOf knd es.toList/\Paired (fun k (e:Int×Value)=>knd.is k e.2=true) ks es.toList/\es.size<scanBound/\Wu t es.size/\t.led=!(w.params.followText "set-order")
 nd:ks.Nodup
def Tb(h:Heap)(a:Addr)(ks:List K):Prop:=∃o,h.get? a=some o/\Zxj knd o ks
variable{knd}{A:Around}{E:ZQ}{s:Shared}{a:Addr}
theorem Zxj.len{o:Obj}{ks:List K}(h:Zxj knd o ks):ks.length<scanBound:=by
 obtain⟨es,ep,t,_,_,p,b,_⟩:=h.dat;rw[p.length,Lh];exact b
theorem Rv{o:Obj}{es Bc:Array (Int×Value)}{ep:Nat}{t t':SetTable}{Jx:List K}{h:Heap}(ho:h.get? a=some o)(hex:o.ExactSet)(hd:o.data=.set es ep t)(el:ElemsOf knd Bc.toList)
  (pr:Paired (fun k (e:Int×Value)=>knd.is k e.2=true) Jx Bc.toList) (hb:Bc.size<scanBound) (ti:Wu t' Bc.size) (hl:t'.led=!(w.params.followText "set-order")) (nd:Jx.Nodup) :
  (h.update a (Obj.putSet Bc t')).get? a=some { o with data:=.set Bc (ep+1) t' }/\Zxj knd { o with data:=.set Bc (ep+1) t' } Jx:=by
 have mem:∀k',(decide (k'∈Jx))=true↔∃e∈Bc.toList,knd.is k' e.2=true:=fun k'=>by
  rw[decide_eq_true_eq];constructor
  .exact fun hk=>Mu pr k' hk
  .rintro⟨e,he,hq⟩;obtain⟨k2,h1,h2⟩:=G7 pr e he;rw[knd.inj e.2 k' k2 hq h2];exact h1
 obtain⟨e1,o2,es2,ep2,t2,e2,ex2,d2,_⟩:=SetOf_store (knd:=knd) ho hex hd el mem hb ti.fits;rw[e1]at e2;cases e2;exact⟨e1,⟨ex2,⟨Bc,ep+1,t',rfl,el,pr,hb,ti,hl⟩,nd⟩⟩
theorem ux{ks:List K}{k:K}{x:Value}{Q:Bool->Shared->Prop}(hkey:knd.is k x=true)(hsc:x.scannable=true)(hS:Tb knd s.heap a ks)(hroom:ks.length+1<scanBound)
  (h:∀h' Jx,Heap.SameBut a s.heap h'->Tb knd h' a Jx->Jx.Perm (if k∈ks then ks else ks++[k])->Q (!decide (k∈ks)) { s with heap:=h' }) :
  wpAny (model prog w) A (setAddHashed a x (knd.hash k)) Q E s:=by
 obtain⟨o,ho,S⟩:=hS;obtain⟨es,ep,t,hd,hel,pr,hb,ti,hled⟩:=S.dat;have hlen:ks.length=es.size:=by rw[pr.length,Lh]
 unfold setAddHashed setAddHashedIn;refine wpAny_holding (Zq (wpAny_setState_of ho hd ti.fits ?_));dsimp only;rw[byScan_of hsc hb hel];simp only[↓reduceIte];unfold setAddByScan;refine Zq (Zq (wpAny_rule (Zq (wpAny_setScan_of hkey ho hd ti.fits hel ?_))));cases hr:List.findIdx? (fun e=>knd.is k e.2) es.toList with
 | some j =>
  dsimp only;obtain⟨hj,hpj,_⟩:=List.findIdx?_eq_some_iff_getElem.mp hr
  have hk:k∈ks:=by
   obtain⟨k2,h1,h2⟩:=G7 pr _ (G0e hj);rw[knd.inj _ k k2 hpj h2];exact h1
  have q:=h s.heap ks (Heap.SameBut.refl a s.heap) ⟨o,ho,S⟩ (by rw[if_pos hk]);rw[Ml hk]at q;exact Zt (Zt q)
 | none =>
  dsimp only
  have hk:k ∉ ks:=fun hm=>by
   obtain⟨e,he,hq⟩:=Mu pr k hm;have z:=List.findIdx?_eq_none_iff.mp hr e he;rw[hq]at z;cases z
  have gw:∀(b:Bool) {s₁:Shared} {Q':ZH},Q' () s₁->wpAny (model prog w) A (match b with | true=>rule "set.scan.the-table-gave-way" | false=>pure ()) Q' E s₁ :=
   fun b s₁ Q' hq=>by cases b<;>first | exact Zt hq | exact wpAny_rule hq
  have perm0:=layNew_perm t es (knd.hash k) x;have Oc:=Kl (t:=t) ti (knd.hash k) x;have bj:=Hl (t:=t) (es:=es) (knd.hash k) x;generalize hL:layNew t es (knd.hash k) x=L at perm0 Oc bj ⊢;obtain⟨Wj,t1,wasDummy,gave⟩:=L;dsimp only at perm0 Oc bj ⊢;rw[Array.toList_push]at perm0;have el1:ElemsOf knd Wj.toList:=(hel.push hkey hsc).perm perm0;have pr0:Paired (fun k (e:Int×Value)=>knd.is k e.2=true) (ks++[k]) (es.toList++[(knd.hash k,x)]):=Paired.snoc pr hkey;obtain⟨ks1,T4,pk1⟩:=G6 perm0 pr0
  have nd1:ks1.Nodup:=pk1.nodup_iff.mpr (List.nodup_append.mpr ⟨S.nd,List.nodup_cons.mpr ⟨by simp,List.nodup_nil⟩,fun u hu v hv=>by
   rw[V8.mp hv];exact fun z=>hk (z ▸ hu)⟩)
  have sz1:Wj.size=es.size+1:=by
   have:=perm0.length_eq;rw[Gc,Lh,Lh]at this;simpa using this
  have hb1:Wj.size<scanBound:=by omega
  refine Zq (gw _ ?_)
  have tailOk:∀t2:SetTable,Wu t2 Wj.size->t2.led=t.led->wpAny (model prog w) A (do
    storeSet a Wj t2
    if (!wasDummy && t2.tooFull)=true then do
      (match (relayAll t2 Wj (SetTable.grown Wj.size)).2.2 with | true=>rule "set.scan.the-table-gave-way" | false=>pure ())
      storeSet a (relayAll t2 Wj (SetTable.grown Wj.size)).1 (relayAll t2 Wj (SetTable.grown Wj.size)).2.1
      pure (some true)
     else pure (some true)) (fun b s'=>b=some true/\∃h' Jx,s'={ s with heap:=h' }/\Heap.SameBut a s.heap h'/\Tb knd h' a Jx/\Jx.Perm (ks++[k])) E s:=by
   intro t2 ti2 hl2;refine Zq (wpAny_storeSet_of ho hd ?_ (fits_of_scanBound hb1));obtain⟨g1,S1⟩:=Rv (knd:=knd) ho S.ex hd el1 T4 hb1 ti2 (hl2.trans hled) nd1;have sb1:=Heap.SameBut.update s.heap a (Obj.putSet Wj t2)
   split
   .have hp:=relayAll_perm t2 Wj (SetTable.grown Wj.size);have ti3:=Fe (t:=t2) (es:=Wj) (SetTable.grown Wj.size);have led3:=Qg (t:=t2) (es:=Wj) (SetTable.grown Wj.size);generalize relayAll t2 Wj (SetTable.grown Wj.size)=Rl at hp ti3 led3 ⊢;obtain⟨es2,t3,gave2⟩:=Rl;dsimp only at hp ti3 led3 ⊢;obtain⟨ks2,pr2,pk2⟩:=G6 hp T4
    have sz2:es2.size=Wj.size:=by
     have:=hp.length_eq
     rwa [Lh,Lh]at this
    have hb2:es2.size<scanBound:=by omega
    refine Zq (gw _ ?_);refine Zq (wpAny_storeSet_of g1 rfl ?_ (fits_of_scanBound hb2));obtain⟨g2,S2⟩:=Rv (knd:=knd) g1 S1.ex rfl (el1.perm hp) pr2 hb2 ti3 (led3.trans (hl2.trans hled)) (pk2.nodup_iff.mpr nd1);exact Zt ⟨rfl,_,ks2,rfl,sb1.trans (Heap.SameBut.update _ a _),⟨_,g2,S2⟩,pk2.trans pk1⟩
   .exact Zt ⟨rfl,_,ks1,rfl,sb1,⟨_,g1,S1⟩,pk1⟩
  have fin:∀b s',(b=some true/\∃h' Jx,s'={ s with heap:=h' }/\Heap.SameBut a s.heap h'/\Tb knd h' a Jx/\Jx.Perm (ks++[k])) ->
    wpAny (model prog w) A (match b with | some added=>pure added | none=>setAddHashedIn a x (knd.hash k) 99999) Q E s':=by
   rintro b s' ⟨rfl,h',Jx,rfl,sb,g,pk⟩;have q:=h h' Jx sb g (by rw[if_neg hk];exact pk);rw[C9 hk]at q;exact Zt q
  split
  .refine Zq ?_;rw[hashByValue_scannable 8 hsc];refine Zt ?_;refine wpAny_mono (tailOk _ ?_ ?_) fin fun _ _ z=>z
   .split
    .exact Oc
    .exact⟨Oc.size,Oc.dum,Oc.ris,Oc.room⟩
   .split
    .exact bj
    .exact bj
  .refine Zq (Zt ?_);simp only[↓reduceIte];exact wpAny_mono (tailOk _ Oc bj) fin fun _ _ z=>z
end
end SetM
namespace SetM
open PySem PyProof.Rows
section
variable{prog:Program}{w:World}{K:Type}[DecidableEq K]{knd:KeyKind prog w K}
theorem Tb.at'{h h':Heap}{a:Addr}{ks:List K}(x:Tb knd h a ks)(e:∀o,h.get? a=some o->h'.get? a=some o):Tb knd h' a ks:=let ⟨o,ho,S⟩:=x;⟨o,e o ho,S⟩
structure P2(val:Nat->K)(i:Nat)(ks:List K):Prop where
 mem:∀x,x∈ks↔∃j,j<i/\val j=x
 len:ks.length<=i
theorem P2.zero(val:Nat->K):P2 val 0 []:=⟨fun x=>⟨fun z=>absurd z Td,fun⟨j,z,_⟩=>absurd z (Nat.not_lt_zero _)⟩,D5 _⟩
theorem P2.next{val:Nat->K}{i:Nat}{ks Jx:List K}(u:P2 val i ks)(pk:Jx.Perm (if val i∈ks then ks else ks++[val i])):P2 val (i+1) Jx:=by
 refine⟨fun x=>?_, ?_⟩
 .rw[pk.mem_iff];constructor
  .intro hx
   have hx':x∈ks\/x=val i:=by
    split at hx
    .exact .inl hx
    .rcases Cd.mp hx with hx | hx
     .exact .inl hx
     .exact .inr (V8.mp hx)
   rcases hx' with hx' | hx'
   .obtain⟨j,h1,h2⟩:=(u.mem x).mp hx';exact⟨j,by omega,h2⟩
   .exact⟨i,by omega,hx'.symm⟩
  .rintro⟨j,h1,h2⟩;by_cases hx:x∈ks
   .split
    .exact hx
    .exact List.mem_append_left _ hx
   .have e:j=i:=by
     rcases Nat.lt_or_ge j i with z | z
     .exact absurd ((u.mem x).mpr ⟨j,z,h2⟩) hx
     .omega
    subst e;rw[h2,if_neg hx];exact ry _ (List.mem_singleton_self _)
 .rw[pk.length_eq];have:=u.len
  split
  .omega
  .simp only[Gc,ZU];omega
variable{A:Around}{R:Result->Shared->Prop}{I:Addr}{fp wr:ZS}{G:Array GenState->Array GenState->Prop}{n:Nat}{P:Nat->Value->Prop}{St:Nat->Shared->Prop}
theorem Fv(W:WalksS prog w A.in1 I fp wr G n P St){a:Addr}(na:a ∉ fp){val:Nat->K}(hval:∀i v,P i v->knd.is (val i) v=true/\v.scannable=true)(hb:n+1<scanBound)(i:Nat)(s:Shared)(ks:List K)
  (hi:i<=n) (st:St i s) (hS:Tb knd s.heap a ks) (u:P2 val i ks) (fin:∀s' Jx,Moved (a::wr) G s s'->Tb knd s'.heap a Jx->P2 val n Jx->R (.ok (.ret .none)) s') :
  codeAny (model prog w) A (.builtin "set.update.loop" ⟨[.ref a,.ref I],[]⟩) R s:=by
 have naw:a ∉ wr:=fun z=>na (W.sub _ z);have more:∀b∈wr,b∈a::wr:=fun b z=>Vq _ z;refine codeAny_builtin PyProof.Rows.F.entry_set_update_loop ?_;rw[Around.under_plainId PyProof.Rows.F.plain_set_update_loop];refine Zq (m:=pyNext (.ref I)) ?_;by_cases Si:i<n
 .refine W.item i s _ _ Si st fun v s1 hP st1 mv=>?_;obtain⟨hv,hsc⟩:=hval i v hP;have hS1:Tb knd s1.heap a ks:=hS.at' fun o e=>mv.heap a o naw e;refine Zq (m:=holding [v] (setAdd a v)) (wpAny_holding ?_);unfold setAdd;refine wpAny_holding (Zq (knd.pyHash (k:=val i) hv ?_));have:=u.len;refine ux (knd:=knd) (s:={ s1 with toks:=s1.toks+1 }) hv hsc hS1 (by omega) fun h2 ks2 sb hS2 pk=>Zt ⟨plainId_quiet PyProof.Rows.F.plain_set_update_loop _, ?_⟩;refine Fv W na hval hb (i+1) { s1 with heap:=h2,toks:=s1.toks+1 } ks2 Si (W.frame _ s1 _ _ st1 (Nat.le_succ _) fun b hb' o e=>?_) hS2 (u.next pk) fun s3 ks3 mv3 hS3 u3=>?_
  .rw[sb.2 b fun z=>na (z ▸ hb')];exact e
  .refine fin s3 ks3 (Moved.trans W.gtrans ((mv.mono more).then_heap (Nat.le_succ _) fun b o hb' e=>?_) mv3) hS3 u3;rw[sb.2 b fun z=>hb' (z ▸ Yd)];exact e
 .have e:i=n:=by omega
  subst e;exact W.done s _ _ st fun s1 mv=>Zt (fin s1 ks (mv.mono more) (hS.at' fun o e=>mv.heap a o naw e) u)
termination_by n - i
end
section
variable{prog:Program}{w:World}{A:Around}{E:ZQ}{s:Shared}
theorem Ap{T newId initId:String}{args:ZK}{Q:ZQ}(ft:TypeCalled T newId initId)(hct:checkTypeCall T ⟨args,[]⟩=pure ())
  (h:codeAny (model prog w) A.in1 (.call (.builtin newId) ⟨.type T::args,[]⟩) (wants (fun obj s1=>s1.TypeIs obj T/\codeAny (model prog w) A.in1 (.call (.builtin initId) ⟨obj::args,[]⟩) (wants (fun r s2=>r=.none/\Q obj s2) E) s1) E) s) :
  wpAny (model prog w) A (call (.type T) args) Q E s:=by
 have q1:=ft.notType;have q2:=ft.canCreate;have q3:=ft.made;have q4:=ft.sub;obtain⟨c,tl,q5⟩:=ft.mro
 apply wpAny_call
 apply codeAny_of_tree
 change wpAny (model prog w) _ (callAny (Value.type T) ⟨args,[]⟩) _ _ s
 refine Zt (And.intro (Code.quiet_builtin _ (by decide +kernel)) (codeAny_builtin PySem.F.entry_type_call ?_));rw[Around.under_plain (weight_type_call_type T args []) (units_type_call_type T args [])]
 repeat (any_goals (first | assumption | wp_step))
 refine codeAny_mono h fun r s1 hr=>?_;rcases r with e | fl
 .exact hr
 .cases fl with
  | ret obj =>
   obtain⟨hT,hI⟩:=hr;have q6:=ft.init.lookup;have q7:=ft.init.bind obj
   repeat (any_goals (first | assumption | wp_step))
   refine codeAny_mono hI fun r2 s2 hr2=>?_;rcases r2 with e2 | fl2
   .exact hr2
   .cases fl2 with
    | ret r3 =>
     obtain⟨rfl,q⟩:=hr2
     repeat (any_goals (first | assumption | wp_step))
    | _=>exact hr2.elim
  | _=>exact hr.elim
noncomputable abbrev Mp(b:Bool):Obj:={ cls:=.type "set",dict:=none,data:=.set #[] 0 (.fresh 0 0 b) }
theorem ot(x:Value){Q1:ZQ}(h:Q1 (.ref s.heap.objs.size) { s with heap:=s.heap.push (Mp (!(w.params.followText "set-order"))) }) :
  codeAny (model prog w) A (.call (.builtin "set.__new__") ⟨[.type "set",x],[]⟩) (wants Q1 E) s:=by
 have q:=sub_set_self;refine codeAny_call_builtin PySem.F.plain_set_new PySem.F.entry_set_new (wpAny_of_eq (PySem.F.newCall_set_1 x) ?_);unfold Builtin.«set.__new__» Builtin.Frozenset.newClass;obtain⟨hp,gs,dr,tk,so⟩:=s;dsimp only
 wp_walk
 refine wpAny_askSetting (Zt ?_);dsimp only;simp only[newObj];exact Zq (wpAny_alloc (Zt (Zt h)))
variable{K:Type}[DecidableEq K]{knd:KeyKind prog w K}
set_option maxHeartbeats 4000000 in
theorem ck{l:Addr}{xs:ZD}{val:Nat->K}{Q:ZQ}(hh:A.handled=none)(hl:s.heap.IsList l xs)(hx:∀i v,xs[i]?=some v->knd.is (val i) v=true/\v.scannable=true)(hb:xs.size+1<scanBound)
  (fin:∀(h1:Heap) (tk:Nat) (ks:List K),Tb knd h1 s.heap.objs.size ks->P2 val xs.size ks->(∀b o,s.heap.get? b=some o->h1.get? b=some o)->Q (.ref s.heap.objs.size) { s with heap:=h1,toks:=tk }) :
  wpAny (model prog w) A (call (.type "set") [.ref l]) Q E s:=by
 refine Ap PySem.F.called_set (PySem.F.typeCall_set_1 (.ref l)) (ot (.ref l) ?_);generalize hb0:(!(w.params.followText "set-order"))=b0;have Bg:(s.heap.push (Mp b0)).get? s.heap.objs.size=some (Mp b0):=Gh _ rfl;have ty0:Shared.TypeIs { s with heap:=s.heap.push (Mp b0) } (.ref s.heap.objs.size) "set" := ⟨_,Bg,rfl⟩;refine⟨ty0,codeAny_call_builtin PySem.F.called_set.init.plain PySem.F.entry_set_init (check_set_init_1 ty0 ?_)⟩;obtain⟨⟨c0,d0,dt0,sl0⟩,e0,hc0,n0,hd0⟩:=hl;simp only at hc0 hd0;subst hc0 hd0;have e1:(s.heap.push (Mp b0)).get? l=some ⟨.type "list",d0,.seq xs n0,sl0⟩:=Ya _ e0;have li:(s.heap.push (Mp b0)).IsList l xs:=⟨_,e1,rfl,n0,rfl⟩;have u1:=PySem.F.sub_list_set;have u2:=PySem.F.sub_list_frozenset;have u3:(Value.type "list" == Value.type "dict")=false:=by decide
 unfold Builtin.«set.__init__» noKeywords Builtin.Frozenset.updateFrom;generalize hit:pyIter=it
 wp_walk
 subst hit;have lt0:l<s.heap.objs.size:=Jr e0;have sz:(s.heap.push (Mp b0)).objs.size=s.heap.objs.size+1:=Heap.size_push _ _;refine wpAny_pyIter_list li (Zq (wpAny_runValue ?_))
 refine Fv (knd:=knd) (val:=val) ((Walks.list (by simp[hh]) _ l (by rw[sz];exact C8 (Nat.lt_succ_of_lt lt0)) xs).toS) (fun z=>(Vt.mp z).elim (fun z=>absurd z (C8 (by rw[sz];exact Nat.lt_succ_self _))) fun z=>absurd (V8.mp z) (Nat.ne_of_gt lt0)) hx hb 0 _ [] (Cb _) ⟨⟨_,Gh _ rfl,rfl,rfl⟩,li.push _⟩
  ⟨_,Ya _ Bg,⟨⟨rfl,rfl,rfl⟩,⟨#[],0,_,rfl,fun e he=>by simp at he,.nil,by unfold scanBound;decide,xx _ _ _,hb0.symm⟩,List.nodup_nil⟩⟩ (P2.zero val) ?_
 rintro⟨h2,g2,d2,tk2,o2⟩ ks mv S2 u;have x1:g2=s.gens:=mv.gens;have x2:d2=s.drawn:=mv.drawn;have x3:o2=s.os:=mv.os;subst x1 x2 x3;refine Zt (Zt ⟨rfl,fin h2 tk2 ks S2 u fun b o e=>mv.heap b o ?_ (Ya _ (Ya _ e))⟩);have lb:=Jr e;intro z;rcases Vt.mp z with z | z
 .exact absurd z (C8 lb)
 .have z:=V8.mp z;rw[sz]at z;exact absurd z (C8 (Nat.lt_succ_of_lt lb))
end
section
variable{prog:Program}{w:World}{A:Around}{E:ZQ}{s:Shared}{a:Addr}{o:Obj}{es:Array (Int×Value)}{ep:Nat}{t:SetTable}
end
section
variable{w:World}{a:Addr}{es:Array (Int×Value)}{ep:Nat}{t:SetTable}{h:Heap}{i:Nat}{first:Value}{vs:ZK}
end
section
variable{prog:Program}{w:World}{A:Around}{E:ZQ}{s:Shared}{a I:Addr}{o:Obj}{es:Array (Int×Value)}{ep:Nat}{t:SetTable}{i:Nat}{first:Value}{vs:ZK}
end
section
variable{prog:Program}{w:World}{A:Around}{E:ZQ}{s:Shared}{a I:Addr}{o:Obj}{es:Array (Int×Value)}{ep:Nat}{t:SetTable}{vs:ZK}
end
section
variable{prog:Program}{w:World}{K:Type}[DecidableEq K]{knd:PySem.KeyKind prog w K}{A:Around}{E:ZQ}{s:Shared}{a:Addr}
theorem V4{h:Heap}{l b:Addr}{vs:ZK}{out:ZD}{ob:Obj}(hb:b≠l)(e:h.get? b=some ob):(sortedHeap h l vs out).get? b=some ob:=by
 rw[sortedHeap_old hb (Jr e)];exact e
end
end SetM
namespace L2
open PySem PySem.Spec PyProof.Rows
abbrev Key:=Sum Int Str
noncomputable def R1:Key->Value->Bool
 | .inl k,v=>Value.isInt k v
 | .inr x,v=>Value.isStrOf x v
noncomputable def keyH(w:World):Key->Int
 | .inl k=>hashInt k
 | .inr x=>hashStr w x
theorem Zu:∀{k:Key} {v:Value},R1 k v=true->(∃i t,k=Sum.inl i/\v=Value.int i t)\/(∃x t,k=Sum.inr x/\v=Value.str x t)
 | .inl i,v,h=>by
  obtain⟨t,e⟩:=Value.isInt_shape (k:=i) (v:=v) h;exact .inl ⟨i,t,rfl,e⟩
 | .inr x,v,h=>by
  obtain⟨t,e⟩:=Value.isStrOf_shape (x:=x) (v:=v) h;exact .inr ⟨x,t,rfl,e⟩
theorem qx(i:Int)(t:Tok):R1 (.inl i) (.int i t)=true:=by simp[R1,Value.isInt]
theorem qz(x:Str)(t:Tok):R1 (.inr x) (.str x t)=true:=by simp[R1,Value.isStrOf]
theorem key_ll(a b:Int):decide ((Sum.inl a:Key)=Sum.inl b)=(a == b):=by
 by_cases e:a=b
 .subst e;simp
 .have h:¬ (Sum.inl a:Key)=Sum.inl b:=fun q=>e (Sum.inl.inj q);rw[C9 h];exact(B0n.mpr e).symm
theorem key_rr(a b:Str):decide ((Sum.inr a:Key)=Sum.inr b)=decide (a=b):=by
 by_cases e:a=b
 .subst e;simp
 .have h:¬ (Sum.inr a:Key)=Sum.inr b:=fun q=>e (Sum.inr.inj q);rw[C9 h,C9 e]
theorem key_lr(a:Int)(b:Str):decide ((Sum.inl a:Key)=Sum.inr b)=false:=C9 (fun q=>nomatch q)
theorem key_rl(a:Str)(b:Int):decide ((Sum.inr a:Key)=Sum.inl b)=false:=C9 (fun q=>nomatch q)
noncomputable def Zf(prog:Program)(w:World):PySem.KeyKind prog w Key where
 is:=R1
 hash:=keyH w
 inj:=fun v a b ha hb=>by
  rcases Zu ha with ⟨i,t,rfl,rfl⟩ | ⟨x,t,rfl,rfl⟩
  .rcases Zu hb with ⟨j,u,rfl,e⟩ | ⟨y,u,rfl,e⟩
   .injection e with e1 _;rw[e1]
   .exact nomatch e
  .rcases Zu hb with ⟨j,u,rfl,e⟩ | ⟨y,u,rfl,e⟩
   .exact nomatch e
   .injection e with e1 _;rw[e1]
 byValue:=fun k v h=>by
  rcases Zu h with ⟨i,t,rfl,rfl⟩ | ⟨x,t,rfl,rfl⟩<;>rfl
 pyHash:=fun hv h=>by
  rcases Zu hv with ⟨i,t,rfl,rfl⟩ | ⟨x,t,rfl,rfl⟩
  .exact wpAny_pyHash_int h
  .exact wpAny_pyHash_str h
 eqBool:=fun hu hv h=>by
  rcases Zu hu with ⟨i,t,rfl,rfl⟩ | ⟨x,t,rfl,rfl⟩
  .rcases Zu hv with ⟨j,u,rfl,rfl⟩ | ⟨y,u,rfl,rfl⟩
   .rw[key_ll]at h;exact wpAny_eqBool_int h
   .rw[key_lr]at h;exact SeqAt.EqAt.int_str i t y u _ _ _ _ h
  .rcases Zu hv with ⟨j,u,rfl,rfl⟩ | ⟨y,u,rfl,rfl⟩
   .rw[key_rl]at h;exact SeqAt.EqAt.str_int x t j u _ _ _ _ h
   .rw[key_rr]at h;exact wpAny_eqBool_str h
 «strs»:=fun k x t v h=>by
  rcases Zu h with ⟨i,u,rfl,e⟩ | ⟨y,u,rfl,e⟩
  .exact nomatch e
  .injection e with e1 _
   subst e1;cases v<;>rfl
theorem Sy(prog:Program)(w:World)(i:Int)(t:Tok):(Zf prog w).is (.inl i) (.int i t)=true:=qx i t
theorem Dz(prog:Program)(w:World)(x:Str)(t:Tok):(Zf prog w).is (.inr x) (.str x t)=true:=qz x t
end L2
namespace HT
open PySem PyProof.Rows
section
variable{prog:Program}{w:World}{A:Around}{E:ZQ}{s:Shared}
noncomputable def Vx(n d:Nat):ZC->Nat
 | none=>d
 | some v=>if v<0 then (v+(n:Int)).toNat else min v.toNat n
theorem ua(n d k:Nat):Vx n d (some (k:Int))=min k n:=by
 show (if (k:Int)<0 then ((k:Int)+(n:Int)).toNat else min (k:Int).toNat n)=min k n;rw[if_neg (by omega),XQ]
theorem sIx_le(n d:Nat)(hd:d<=n)(o:ZC):Vx n d o<=n:=by
 cases o with
 | none=>exact hd
 | some v =>
  show (if v<0 then (v+(n:Int)).toNat else min v.toNat n)<=n;by_cases hv:v<0
  .rw[if_pos hv];omega
  .rw[if_neg hv];exact Nat.min_le_right _ _
theorem zy(v:Int)(n d:Nat):(if v<0 then max (v+(n:Int)) 0 else min v (n:Int))=((Vx n d (some v):Nat):Int):=by
 show (if v<0 then max (v+(n:Int)) 0 else min v (n:Int))=(((if v<0 then (v+(n:Int)).toNat else min v.toNat n):Nat):Int);by_cases hv:v<0
 .simp only[if_pos hv];omega
 .simp only[if_neg hv];omega
theorem A5(lo hi:ZC)(n:Nat):Builtin.Slice.sliceAdjust lo hi 1 (n:Int)=(((Vx n 0 lo:Nat):Int),((Vx n n hi:Nat):Int)):=by
 have h1:¬ ((1:Int)<0):=by omega
 unfold Builtin.Slice.sliceAdjust;simp only[h1,if_false];refine Prod.ext ?_ ?_
 .cases lo with
  | none=>rfl
  | some v=>exact zy v n 0
 .cases hi with
  | none=>rfl
  | some v=>exact zy v n n
theorem K7(i j:Nat):Builtin.Slice.slicePlaces (i:Int) (j:Int) 1=j - i:=by
 unfold Builtin.Slice.slicePlaces;have h1:(1:Int)>0:=by omega
 simp only[h1,if_true,Int.ediv_one]
 split<;>omega
theorem Rf{v:Value}{o:ZC}{Q:ZC->Shared->Prop}(p:IsPart v o)(h:Q o s):wpAny (model prog w) A (Builtin.Slice.slicePartIndex v) Q E s:=by
 cases p with
 | none=>exact slicePart_none h
 | int i t=>exact slicePart_int h
theorem Jg{sl:Addr}{vl vu:Value}{lo hi:ZC}{n:Nat}{Q:Int×Int×Nat->Shared->Prop}(hs:s.heap.IsSliceOf sl vl vu .none)(pl:IsPart vl lo)(pu:IsPart vu hi)
  (h:Q (((Vx n 0 lo:Nat):Int),1,Vx n n hi - Vx n 0 lo) s):wpAny (model prog w) A (Builtin.Slice.sliceApplied (.ref sl) (pure (n:Int))) Q E s:=by
 obtain⟨os,qd,hcs,rx⟩:=id hs;unfold Builtin.Slice.sliceApplied Builtin.Slice.sliceFields;refine Zq (Zq (wpAny_field qd rx (x:=vl) rfl (Zq (wpAny_field qd rx (x:=vu) rfl (Zq (wpAny_field qd rx (x:=.none) rfl (Zt ?_)))))));refine Zq (slicePart_none ?_);show wpAny _ _ (if ((1:Int) == 0)=true then _ else _) _ _ s;rw[if_neg (by decide)];refine Zq (Rf pl (Zq (Rf pu (Zq (Zt ?_)))));show wpAny _ _ (match Builtin.Slice.sliceAdjust lo hi 1 (n:Int) with | (lo,hi)=>pure (lo,(1:Int),Builtin.Slice.slicePlaces lo hi 1)) _ _ s;rw[A5 lo hi n];show wpAny _ _ (pure (((Vx n 0 lo:Nat):Int),(1:Int),Builtin.Slice.slicePlaces ((Vx n 0 lo:Nat):Int) ((Vx n n hi:Nat):Int) 1)) _ _ s;rw[K7];exact Zt h
theorem kj(xs:ZD)(i k:Nat):((List.range k).filterMap fun(m:Nat)=>xs[((i:Int)+(m:Int) * 1).toNat]?).toArray=((xs.toList.drop i).take k).toArray:=by
 have e:(fun(m:Nat)=>xs[((i:Int)+(m:Int) * 1).toNat]?)=fun m=>xs[i+m]?:=by
  funext m
  have:((i:Int)+(m:Int) * 1).toNat=i+m:=by omega
  rw[this]
 rw[e];have:=pick_run xs i k;rw[List.filterMap_map]at this;have e2:((fun x=>xs[x]?) ∘ fun x=>i+x)=fun m=>xs[i+m]?:=rfl;rw[e2]at this;rw[this]
theorem Nc{t sl:Addr}{items:ZD}{vl vu:Value}{lo hi:ZC}{Q:ZQ}(ht:IsTup s.heap t items)(hs:s.heap.IsSliceOf sl vl vu .none)(pl:IsPart vl lo)(pu:IsPart vu hi)
  (hw:¬ (Vx items.size 0 lo=0/\Vx items.size items.size hi=items.size))
  (h:Q (.ref s.heap.objs.size) { s with heap:=s.heap.push { cls:=.type "tuple",data:=.seq ((items.toList.drop (Vx items.size 0 lo)).take (Vx items.size items.size hi - Vx items.size 0 lo)).toArray } })
  (hsz:items.size<=sizeLine):wpAny (model prog w) A (getItem (.ref t) (.ref sl)) Q E s:=by
 have Nf:sizeOk (.seq ((items.toList.drop (Vx items.size 0 lo)).take (Vx items.size items.size hi - Vx items.size 0 lo)).toArray):=by
  show ((items.toList.drop (Vx items.size 0 lo)).take (Vx items.size items.size hi - Vx items.size 0 lo)).toArray.size<=sizeLine;rw[Jv,nu,List.length_drop,Lh];omega
 have hj:Vx items.size items.size hi<=items.size:=sIx_le _ _ (D5 _) hi;obtain⟨os,qd,hcs,rx⟩:=id hs;have hTs:s.TypeIs (.ref sl) "slice" := ⟨os,qd,hcs⟩;unfold getItem
 try with_reducible refine wpAny_holding ?_
 first | refine Zq (Zt ?_) | skip
 refine Zq (wpAny_sequenceKey ht.typeIs (by decide) ?_)
 refine Zq (wpAny_callSpecial?_slot (name:=Str.ofString "__getitem__") ht.typeIs slot_tuple_getitem
  (wpAny_call_entry slot_tuple_getitem ht.typeIs entry_tuple_getitem ?_ (args_tuple_getitem _ _)))
 show wpAny _ _ (Builtin.Tuple.tupleItemsOf (.ref t) >>= _) _ _ s;refine Zq (tupleItemsOf_ ht ?_);refine Zq (wpAny_typeOf hTs ?_);rw[if_pos (by decide)];refine Zq (Jg hs pl pu ?_)
 have hno:¬ ((((Vx items.size 0 lo:Nat):Int) == 0 && (1:Int) == 1 && (Vx items.size items.size hi - Vx items.size 0 lo) == items.size)=true):=by
  intro q;rw[Vi,Vi]at q;have q1:((Vx items.size 0 lo:Nat):Int)=0:=eq_of_beq q.1.1;have q2:Vx items.size items.size hi - Vx items.size 0 lo=items.size:=eq_of_beq q.2;exact hw ⟨by omega,by omega⟩
 show wpAny _ _ (if (((Vx items.size 0 lo:Nat):Int) == 0 && (1:Int) == 1 && (Vx items.size items.size hi - Vx items.size 0 lo) == items.size)=true then _ else _) _ _ s;rw[if_neg hno,kj]
 first
  | exact Zq (m:=Builtin.Tuple.tupleExact _) (wpAny_newObj_type (Zt ⟨_,rfl,Zt h⟩) Nf)
  | exact Zq (m:=Builtin.Tuple.tupleExact _) (wpAny_newObj_type (Zq (Zt (Zt ⟨_,rfl,Zt h⟩))) Nf)
  | exact Zq (Zq (m:=Builtin.Tuple.tupleExact _) (wpAny_newObj_type (Zt (Zt ⟨_,rfl,Zt h⟩)) Nf))
  | exact Zq (Zq (m:=Builtin.Tuple.tupleExact _) (wpAny_newObj_type (Zt ⟨_,rfl,Zt h⟩) Nf))
theorem Zze{t b:Addr}{vs ws:ZK}{Q:ZQ}(ht:IsTup s.heap t vs.toArray)(hb:IsTup s.heap b ws.toArray)(hv:vs≠[])
  (h1:ws=[]->Q (.ref t) s) (h2:ws≠[]->Q (.ref s.heap.objs.size) { s with heap:=s.heap.push { cls:=.type "tuple",data:=.seq (vs++ws).toArray } })
  (hsz:vs.length+ws.length<=sizeLine):wpAny (model prog w) A (binaryOp .Add (.ref t) (.ref b)) Q E s:=by
 obtain⟨⟨cls,dd,data,sl⟩,ho,hc,n,hd⟩:=id ht;obtain⟨⟨cls2,dd2,data2,sl2⟩,ho2,hc2,n2,hd2⟩:=id hb;simp only at hc hd hc2 hd2;subst hc hd hc2 hd2;have e:vs.toArray++ws.toArray=(vs++ws).toArray:=by simp
 by_cases hw:ws=[]
 .exact concat_meets ⟨_,ho,rfl⟩ ⟨_,ho2,rfl⟩ noFill_tuple_add seq_tuple_add PySem.F.slot_tuple_add PySem.F.entry_tuple_add (PySem.F.args_tuple_add_2 _ _)
   (tuple_addW1 t b vs.toArray ws.toArray n n2 dd dd2 sl sl2 (by simpa using hv) (by simp[hw])) ⟨ho,ho2,h1 hw⟩
 .refine concat_meets ⟨_,ho,rfl⟩ ⟨_,ho2,rfl⟩ noFill_tuple_add seq_tuple_add PySem.F.slot_tuple_add PySem.F.entry_tuple_add (PySem.F.args_tuple_add_2 _ _)
   (tuple_addW2 t b vs.toArray ws.toArray n n2 dd dd2 sl sl2 (by simpa using hv) (by simpa using hw) (by rw[Jv,Jv];exact hsz)) ⟨ho,ho2, ?_⟩
  rw[e];exact h2 hw
end
end HT
namespace L2
open PySem PySem.Spec PyProof.Rows
structure U9(N P:ZG)(sc:Scope):Prop where
 kind:sc.kind=.function
 co:sc.isCoroutine=false
 gen:sc.isGenerator=false
 nd:N.Nodup
 pre:N.take P.length=P
 par:∀x∈P,sc.names.lookup x=some .local\/sc.names.lookup x=some .cell
 nofree:∀y∈sc.names,y.2≠.free
noncomputable def b7(n:Nat)(i:Int):ZL:=if 0<=i then (if i<n then some i.toNat else none) else if -(n:Int)<=i then some (i+n).toNat else none
noncomputable def Tw{l:Type}(xs:List l)(i:Int):Option l:=(b7 xs.length i).bind fun j=>xs[j]?
theorem Xo{n:Nat}{i:Int}{j:Nat}(h:b7 n i=some j):seqIndex? i n=some j/\j<n/\-(n:Int)<=i/\i<n:=by
 unfold b7 at h;by_cases h0:0<=i
 .rw[if_pos h0]at h;by_cases h1:i<n
  .rw[if_pos h1]at h;have e:i.toNat=j:=M7 h;exact⟨by rw[seqIndex_of h0 h1,e],by omega,by omega,h1⟩
  .rw[if_neg h1]at h;cases h
 .rw[if_neg h0]at h;by_cases h1:-(n:Int)<=i
  .rw[if_pos h1]at h;have e:(i+n).toNat=j:=M7 h;exact⟨by rw[seqIndex_neg (by omega) h1,e],by omega,h1,by omega⟩
  .rw[if_neg h1]at h;cases h
theorem Po{l:Type}{xs:List l}{i:Int}{v:l}(h:Tw xs i=some v):∃j,seqIndex? i xs.length=some j/\xs[j]?=some v/\j<xs.length/\-(xs.length:Int)<=i/\i<xs.length:=by
 unfold Tw at h;cases e:b7 xs.length i with
 | none=>rw[e]at h;cases h
 | some j =>
  rw[e]at h;obtain⟨h1,h2,h3,h4⟩:=Xo e;exact⟨j,h1,h,h2,h3,h4⟩
theorem cu{j:Type}(xs:List j)(v:j):Tw (xs++[v]) (-1)=some v:=by
 have hl:(xs++[v]).length=xs.length+1:=by simp
 have e:b7 (xs++[v]).length (-1)=some xs.length:=by
  unfold b7;rw[hl,if_neg (by decide),if_pos (by omega)]
  congr 1
  omega
 unfold Tw;rw[e];show (xs++[v])[xs.length]?=some v;simp
theorem Ro(its:ZK)(n j:Nat)(u:Value):Obj.mapSeq (·.setIfInBounds j u) { cls:=.type "list",data:=.seq its.toArray n }={ cls:=.type "list",data:=.seq (its.set j u).toArray n }:=by
 simp[Obj.mapSeq]
theorem Qx(lo hi:ZC)(n:Nat):(sliceBounds lo hi none n).1=((HT.Vx n 0 lo:Nat):Int)/\(sliceBounds lo hi none n).2.1=((HT.Vx n n hi:Nat):Int)/\(sliceBounds lo hi none n).2.2=1:=by
 refine⟨?_, ?_,rfl⟩
 .cases lo with
  | none=>simp[sliceBounds,HT.Vx]
  | some i =>
   simp only[sliceBounds,HT.Vx,Option.getD_none,show (1:Int)>0 by decide,if_true];by_cases h:i<0
   .simp only[h,if_true]<;>omega
   .simp only[h,if_false]<;>omega
 .cases hi with
  | none=>simp[sliceBounds,HT.Vx]
  | some i =>
   simp only[sliceBounds,HT.Vx,Option.getD_none,show (1:Int)>0 by decide,if_true];by_cases h:i<0
   .simp only[h,if_true]<;>omega
   .simp only[h,if_false]<;>omega
theorem W4(its:ZK)(lo hi:ZC):slicePick its.toArray lo hi none=((its.drop (HT.Vx its.length 0 lo)).take (HT.Vx its.length its.length hi - HT.Vx its.length 0 lo)).toArray:=by
 obtain⟨h1,h2,h3⟩:=Qx lo hi its.toArray.size;unfold slicePick;rw[h1,h2,h3];simp only[sliceRange_one,pick_run,Jv]<;>rfl
theorem Fk{kindOf:Str->Option NameKind}{x:Str}:∀{binds:List (Str×Value)} {m:ZJ},(∀v,(x,v) ∉ binds)->bindL kindOf binds m x=m x
 | [],_,_=>rfl
 | (n,v)::r,m,h=>by
  unfold bindL;rw[Fk fun w hw=>h w (Vq _ hw)]
  split
  .have:x≠n:=by rintro rfl;exact h v Yd
   simp[this]
  .rfl
theorem Fg{kindOf:Str->Option NameKind}{x:Str}:∀{binds:List (Str×Value)} {m:ZJ},(∀v,(x,v) ∉ binds)->bindC kindOf binds m x=m x
 | [],_,_=>rfl
 | (n,v)::r,m,h=>by
  unfold bindC;rw[Fg fun w hw=>h w (Vq _ hw)]
  split
  .rfl
  .have:x≠n:=by rintro rfl;exact h v Yd
   simp[this]
theorem Jn{kindOf:Str->Option NameKind}{x:Str}{v:Value}:∀{P:ZG} {vs:ZK} {i:Nat} {m:ZJ},P.Nodup->P[i]?=some x->vs[i]?=some v->kindOf x=some .local ->
  bindL kindOf (P.zip vs) m x=some v
 | [],_,_,_,_,h,_,_=>by simp at h
 | _::_,[],_,_,_,_,h,_=>by simp at h
 | p::P,w::vs,0,m,nd,h1,h2,hk=>by
  simp at h1 h2;subst h1;subst h2;show bindL kindOf ((p,w)::P.zip vs) m p=_;unfold bindL;rw[Fk fun v hv=>(List.nodup_cons.mp nd).1 (List.of_mem_zip hv).1,if_pos hk];simp
 | p::P,w::vs,i+1,m,nd,h1,h2,hk=>by
  show bindL kindOf ((p,w)::P.zip vs) m x=_;unfold bindL;exact Jn (i:=i) (List.nodup_cons.mp nd).2 (by simpa using h1) (by simpa using h2) hk
theorem Tj{kindOf:Str->Option NameKind}{x:Str}{v:Value}:∀{P:ZG} {vs:ZK} {i:Nat} {m:ZJ},P.Nodup->P[i]?=some x->vs[i]?=some v->kindOf x≠some .local ->
  bindC kindOf (P.zip vs) m x=some v
 | [],_,_,_,_,h,_,_=>by simp at h
 | _::_,[],_,_,_,_,h,_=>by simp at h
 | p::P,w::vs,0,m,nd,h1,h2,hk=>by
  simp at h1 h2;subst h1;subst h2;show bindC kindOf ((p,w)::P.zip vs) m p=_;unfold bindC;rw[Fg fun v hv=>(List.nodup_cons.mp nd).1 (List.of_mem_zip hv).1,if_neg hk];simp
 | p::P,w::vs,i+1,m,nd,h1,h2,hk=>by
  show bindC kindOf ((p,w)::P.zip vs) m x=_;unfold bindC;exact Tj (i:=i) (List.nodup_cons.mp nd).2 (by simpa using h1) (by simpa using h2) hk
theorem Bx{sc:Scope}{n:Nat}{x:Str}(h:sc.names.lookup x=some .cell):∃c,(cellsFrom n sc.names []).lookup x=some c:=by
 have q:=W.cellsFrom_some sc.names n [] (.inl h);exact Option.isSome_iff_exists.mp q
theorem Yo{j:Type}{t:Sem j}{Q Q':j->Shared->Prop}{M:Model}{A:Around}{E:ZQ}{s:Shared}(h:wpAny M A t Q E s)(hQ:∀a s,Q a s->Q' a s):wpAny M A t Q' E s:=wpAny_mono h hQ fun _ _ x=>x
theorem Hd:(sizeLine:Nat)<2 ^ 63:=by rw[sizeLine_eq];decide
theorem foldl_rep(its:ZK):∀(k:Nat) (acc:ZK),
  List.foldl (fun x1 x2=>x1++x2) acc.toArray (List.replicate k its.toArray)=(acc++(List.replicate k its).flatten).toArray
 | 0,acc=>by simp
 | k+1,acc=>by
  have e:acc.toArray++its.toArray=(acc++its).toArray:=by simp
  have e2:(acc++its)++(List.replicate k its).flatten=acc++(List.replicate (k+1) its).flatten:=by
   rw[List.replicate_succ,List.flatten_cons,ZI]
  rw[<-e2, <-foldl_rep its k (acc++its), <-e,List.replicate_succ,List.foldl_cons]
theorem gf{n:Nat}(h:n<=sizeLine):Builtin.List.listTooLong n=false:=by
 unfold Builtin.List.listTooLong;exact C9 (by omega)
theorem len_rep{j:Type}(xs:List j)(k:Nat):(List.replicate k xs).flatten.length=k * xs.length:=by
 induction k with
 | zero=>simp
 | succ k ih=>rw[List.replicate_succ,List.flatten_cons,Gc,ih,Nat.succ_mul,Nat.add_comm]
def P7(K:W.Frag)(C:Addr)(f:Str):Prop:=W.findIn K (.ref C) f=some none
theorem Zz2{prog:Program}{w:World}{env:Env}{e:Expr}{f:Str}{pos:Pos}{s:Shared}{Q:ZQ}(hb:attributeBase e f env (eval e env)=eval e env)
  (h:wpAny (model prog w) A (eval e env) (fun o s₁=>wpAny (model prog w) A (getAttr o f true) Q E s₁) E s):wpAny (model prog w) A (eval (.Attribute e f pos) env) Q E s :=
 Attribute_any_ h (by rw[arm_eval_Attribute,hb])
def Binds(K:W.Frag)(fd:FuncData)(ps:ZG)(ds:ZK):Prop :=
 ∀(s:Shared) (us:ZK),K.In s.heap->(us++ds).length=ps.length->BindsTo s fd ⟨us,[]⟩ (ps.zip (us++ds))
theorem Binds.all{K:W.Frag}{fd:FuncData}{ps:ZG}(h:∀us:ZK,us.length=ps.length->bindArgs fd ⟨us,[]⟩=pure (ps.zip us)):Binds K fd ps []:=fun s us _ hl=>by
 rw[ZE]at hl ⊢;exact .of_eq (h us hl)
noncomputable def repS(i:Str)(n:Nat):Str:=⟨(List.replicate n i.cps).foldl (·++·) #[]⟩
theorem yi(a:ZN):∀(n:Nat) (acc:ZN),((List.replicate n a).foldl (·++·) acc).toList=acc.toList++(List.replicate n a.toList).flatten
 | 0,acc=>by simp
 | n+1,acc=>by
  rw[List.replicate_succ,List.foldl_cons,yi a n (acc++a),List.replicate_succ,List.flatten_cons,Array.toList_append,ZI]
theorem Rm(i:Str)(n:Nat):(repS i n).cps.toList=(List.replicate n i.cps.toList).flatten:=by
 show ((List.replicate n i.cps).foldl (·++·) #[]).toList=_;rw[yi]
 rfl
theorem ye(i:Str)(n:Nat):(repS i n).length=n * i.length:=by
 show (repS i n).cps.size=n * i.cps.size;rw[<-Lh,Rm,len_rep,Lh]
end L2
namespace SRT
open PySem PySem.Spec PyProof.Rows L2
noncomputable def insI(x:Int):ZT->ZT
 | []=>[x]
 | y::r=>if x<=y then x::y::r else y::insI x r
def Ms:ZT->ZT
 | []=>[]
 | x::r=>insI x (Ms r)
theorem insI_perm(x:Int):∀r:ZT,(insI x r).Perm (x::r)
 | []=>.refl _
 | y::r=>by
  unfold insI
  split
  .exact .refl _
  .exact((insI_perm x r).cons y).trans (.swap x y r)
theorem Yc:∀r:ZT,(Ms r).Perm r
 | []=>.refl _
 | x::r=>(insI_perm x _).trans ((Yc r).cons x)
theorem Sp(x:Int):∀r:ZT,r.Pairwise (·<=·)->(insI x r).Pairwise (·<=·)
 | [],_=>List.pairwise_singleton _ _
 | y::r,h=>by
  rw[ZA]at h;unfold insI
  split
  .rename_i hx
   rw[ZA,ZA];exact⟨fun z m=>by rcases Vt.mp m with rfl | m;exact hx;exact Int.le_trans hx (h.1 z m),h.1,h.2⟩
  .rename_i hx
   rw[ZA];refine⟨fun z m=>?_,Sp x r h.2⟩;rcases Vt.mp ((insI_perm x r).mem_iff.mp m) with rfl | m
   .omega
   .exact h.1 z m
theorem Oi:∀r:ZT,(Ms r).Pairwise (·<=·)
 | []=>List.Pairwise.nil
 | x::r=>Sp x _ (Oi r)
theorem pg{a b:ZT}(h:a.Perm b)(s:a.Pairwise (·<=·)):a=Ms b :=
 List.Perm.eq_of_pairwise (fun _ _ _ _ h1 h2=>Int.le_antisymm h1 h2) s (Oi b) (h.trans (Yc b).symm)
noncomputable def Kx(a b:Str):Bool:=!decide (b.cps.toList<a.cps.toList)
noncomputable def qb(x:Str):ZG->ZG
 | []=>[x]
 | y::r=>if Kx x y=true then x::y::r else y::qb x r
def Z8:ZG->ZG
 | []=>[]
 | x::r=>qb x (Z8 r)
theorem B2(x:Str):∀r:ZG,(qb x r).Perm (x::r)
 | []=>.refl _
 | y::r=>by
  unfold qb
  split
  .exact .refl _
  .exact((B2 x r).cons y).trans (.swap x y r)
theorem Z3:∀r:ZG,(Z8 r).Perm r
 | []=>.refl _
 | x::r=>(B2 x _).trans ((Z3 r).cons x)
theorem Qh{a b:Str}:Kx a b=true↔¬ b.cps.toList<a.cps.toList:=by unfold Kx;simp
theorem L8{a b c:Str}(h1:Kx a b=true)(h2:Kx b c=true):Kx a c=true:=by
 rw[Qh]at *;exact List.not_lt.mpr (List.le_trans (List.not_lt.mp h1) (List.not_lt.mp h2))
theorem x8{a b:Str}(h:¬ Kx a b=true):Kx b a=true:=by
 rw[Qh]at *;exact fun z=>List.lt_asymm (Decidable.not_not.mp h) z
theorem bf{a b:Str}(h1:Kx a b=true)(h2:Kx b a=true):a=b:=by
 rw[Qh]at *;have e:a.cps.toList=b.cps.toList:=List.le_antisymm (List.not_lt.mp h1) (List.not_lt.mp h2);cases a;cases b
 congr
 exact Array.toList_inj.mp e
theorem Ss(x:Str):∀r:ZG,r.Pairwise (fun a b=>Kx a b=true)->(qb x r).Pairwise (fun a b=>Kx a b=true)
 | [],_=>List.pairwise_singleton _ _
 | y::r,h=>by
  rw[ZA]at h;unfold qb
  split
  .rename_i hx
   rw[ZA,ZA];exact⟨fun z m=>by rcases Vt.mp m with rfl | m;exact hx;exact L8 hx (h.1 z m),h.1,h.2⟩
  .rename_i hx
   rw[ZA];refine⟨fun z m=>?_,Ss x r h.2⟩;rcases Vt.mp ((B2 x r).mem_iff.mp m) with rfl | m
   .exact x8 hx
   .exact h.1 z m
theorem Oo:∀r:ZG,(Z8 r).Pairwise (fun a b=>Kx a b=true)
 | []=>List.Pairwise.nil
 | x::r=>Ss x _ (Oo r)
theorem Nx:∀(l:ZG) (p:Str),risingS p l=true->(p::l).Pairwise (fun a b=>Kx a b=true)
 | [],p,_=>List.pairwise_singleton _ _
 | q::l,p,h=>by
  unfold risingS at h;rw[Vi]at h;have r:=Nx l q h.2
  have h1:Kx p q=true:=by
   have:=h.1;rw[ltCps_eq]at this;exact this
  rw[ZA];refine⟨fun z m=>?_,r⟩;rcases Vt.mp m with rfl | m
  .exact h1
  .exact L8 h1 ((ZA.mp r).1 z m)
theorem Qz:∀l:ZG,sortedS l=true->l.Pairwise (fun a b=>Kx a b=true)
 | [],_=>List.Pairwise.nil
 | p::l,h=>Nx l p h
theorem pj{a b:ZG}(h:a.Perm b)(s:sortedS a=true):a=Z8 b :=
 List.Perm.eq_of_pairwise (fun _ _ _ _ h1 h2=>bf h1 h2) (Qz a s) (Oo b) (h.trans (Z3 b).symm)
noncomputable def j0{j:Type}[DecidableEq j]:List j->List j
 | []=>[]
 | x::r=>if x∈r then j0 r else x::j0 r
theorem Ce{j:Type}[DecidableEq j]{x:j}:∀{l:List j},x∈j0 l↔x∈l
 | []=>Iff.rfl
 | y::r=>by
  unfold j0
  split
  .rename_i hy
   rw[Ce,Vt];exact⟨.inr,fun h=>h.elim (fun e=>e ▸ hy) id⟩
  .rw[Vt,Vt,Ce]
theorem Hz{j:Type}[DecidableEq j]:∀{l:List j},(j0 l).Nodup
 | []=>List.Pairwise.nil
 | y::r=>by
  unfold j0
  split
  .exact Hz
  .rename_i hy
   exact List.nodup_cons.mpr ⟨fun m=>hy (Ce.mp m),Hz⟩
theorem gq{j:Type}[DecidableEq j]{us l:List j}(nd:us.Nodup)(h:∀x,x∈us↔x∈l):us.Perm (j0 l) :=
 (List.perm_ext_iff_of_nodup nd Hz).mpr fun x=>(h x).trans Ce.symm
section
variable{j:Type}
noncomputable def qm(x:Int×j):List (Int×j)->List (Int×j)
 | []=>[x]
 | y::r=>if x.1<=y.1 then x::y::r else y::qm x r
def Ks:List (Int×j)->List (Int×j)
 | []=>[]
 | x::r=>qm x (Ks r)
theorem B3(x:Int×j):∀r:List (Int×j),(qm x r).Perm (x::r)
 | []=>.refl _
 | y::r=>by
  unfold qm
  split
  .exact .refl _
  .exact((B3 x r).cons y).trans (.swap x y r)
theorem Dr:∀r:List (Int×j),(Ks r).Perm r
 | []=>.refl _
 | x::r=>(B3 x _).trans ((Dr r).cons x)
theorem Su(x:Int×j):∀r:List (Int×j),r.Pairwise (fun a b=>a.1<=b.1)->(qm x r).Pairwise (fun a b=>a.1<=b.1)
 | [],_=>List.pairwise_singleton _ _
 | y::r,h=>by
  rw[ZA]at h;unfold qm
  split
  .rename_i hx
   rw[ZA,ZA];exact⟨fun z m=>by rcases Vt.mp m with rfl | m;exact hx;exact Int.le_trans hx (h.1 z m),h.1,h.2⟩
  .rename_i hx
   rw[ZA];refine⟨fun z m=>?_,Su x r h.2⟩;rcases Vt.mp ((B3 x r).mem_iff.mp m) with rfl | m
   .omega
   .exact h.1 z m
theorem Oe:∀r:List (Int×j),(Ks r).Pairwise (fun a b=>a.1<=b.1)
 | []=>List.Pairwise.nil
 | x::r=>Su x _ (Oe r)
theorem Rj{a b:Int×j}:∀{l:List (Int×j)},l.Pairwise (fun a b=>a.1<b.1)->a∈l->b∈l->a.1=b.1->a=b
 | [],_,h,_,_=>absurd h Td
 | x::l,p,h,h',e=>by
  rw[ZA]at p;rcases Vt.mp h with e1 | m1
  .rcases Vt.mp h' with e2 | m2
   .rw[e1,e2]
   .have:=p.1 b m2;rw[<-e1]at this;omega
  .rcases Vt.mp h' with e2 | m2
   .have:=p.1 a m1;rw[<-e2]at this;omega
   .exact Rj p.2 m1 m2 e
theorem pf{a b:List (Int×j)}(h:a.Perm b)(s:a.Pairwise (fun a b=>a.1<b.1)):a=Ks b :=
 List.Perm.eq_of_pairwise (fun x y mx my h1 h2=>Rj s mx (h.symm.mem_iff.mp ((Dr b).mem_iff.mp my)) (Int.le_antisymm h1 h2)) (s.imp fun h=>Int.le_of_lt h) (Oe b) (h.trans (Dr b).symm)
end
end SRT
namespace SRT
open PySem PySem.Spec PyProof.Rows PySem.W
noncomputable def runK{l:Type}(b:Nat->Nat->Bool):KasT l->l
 | .ret a=>a
 | .ask i j k=>runK b (k (b i j))
def AllK{l:Type}(n:Nat)(P:l->Prop):KasT l->Prop
 | .ret a=>P a
 | .ask i j k=>i<n/\j<n/\∀c,AllK n P (k c)
theorem AllK.bind{j l:Type}{n:Nat}{P:j->Prop}{R:l->Prop}{f:j->KasT l}:∀{t:KasT j},AllK n P t->(∀a,P a->AllK n R (f a))->AllK n R (t.bind f)
 | .ret a,h,g=>g a h
 | .ask _ _ k,h,g=>⟨h.1,h.2.1,fun c=>AllK.bind (h.2.2 c) g⟩
theorem Xv{l:Type}{n:Nat}{P:l->Prop}{b:Nat->Nat->Bool}{s:Shared}{cmp:Nat->Nat->(Bool->Shared->Prop)->Shared->Prop}(hc:∀i j,i<n->j<n->∀C:Bool->Shared->Prop,C (b i j) s->cmp i j C s){Q:l->Shared->Prop} :
  ∀{t:KasT l},AllK n P t->(P (runK b t)->Q (runK b t) s)->t.kasWp cmp Q s
 | .ret _,h,q=>q h
 | .ask i j _,h,q=>hc i j h.1 h.2.1 _ (Xv hc (h.2.2 (b i j)) q)
theorem O1{l:Type}{n:Nat}{P:l->Prop}{b:Nat->Nat->Bool}:∀{t:KasT l},AllK n P t->P (runK b t)
 | .ret _,h=>h
 | .ask i j k,h=>O1 (t:=k (b i j)) (h.2.2 (b i j))
def Pm(n:Nat)(p:ZN):Prop:=p.toList.Perm (List.range n)
theorem Pm.perm{n:Nat}{p q:ZN}(h:Pm n p)(e:q.Perm p):Pm n q:=(Array.perm_iff_toList_perm.mp e).trans h
theorem Pm.at{n:Nat}(n0:0<n){p:ZN}(h:Pm n p)(k:Nat):p.getD k 0<n:=by
 unfold Array.getD
 split
 .rename_i hk
  exact List.mem_range.mp (h.mem_iff.mp (Array.mem_def.mp (Array.getElem_mem hk)))
 .exact n0
section
variable{n:Nat}(n0:0<n)
include n0
theorem Pe{p:ZN}(h:Pm n p):∀f m,AllK n (fun _=>True) (kas_asc p f m)
 | 0,_=>trivial
 | f+1,m=>⟨h.at n0 _,h.at n0 _,fun c=>by cases c;exact Pe h f _;exact trivial⟩
theorem Ni:∀f (p:ZN) m q,Pm n p->AllK n (fun r=>Pm n r.1) (kas_desc f p m q)
 | 0,_,_,_,h=>h
 | f+1,p,m,q,h=>⟨h.at n0 _,h.at n0 _,fun c=>by
  cases c with
  | true =>
   show AllK n _ (if q>0 then _ else _)
   split
   .exact Ni f _ _ _ (h.perm (mirror_perm _ _ _ _))
   .exact Ni f _ _ _ h
  | false=>exact⟨h.at n0 _,h.at n0 _,fun c=>by cases c;exact Ni f _ _ _ h;exact h⟩⟩
theorem Lu{p:ZN}(h:Pm n p)(m:Nat):AllK n (fun r=>Pm n r.2) (kas_tail3 m n p) :=
 (Pe n0 (h.perm (mirror_perm _ _ _ _)) _ _).bind fun _ _=>h.perm (mirror_perm _ _ _ _)
theorem N0{p:ZN}(h:Pm n p)(m:Nat):AllK n (fun r=>Pm n r.2) (kas_descPart m n p) :=
 (Ni n0 _ p _ _ h).bind fun r hr=>by
  show AllK n _ (if r.2.2>0 then _ else _)
  split
  .exact Lu n0 (hr.perm (mirror_perm _ _ _ _)) _
  .exact Lu n0 hr _
theorem jx{p:ZN}(h:Pm n p):AllK n (fun r=>Pm n r.2) (kas_count n p) :=
 (Pe n0 h _ _).bind fun m _=>by
  show AllK n _ (if (m == n)=true then _ else _)
  split
  .exact h
  .split
   .exact⟨h.at n0 _,h.at n0 _,fun c=>by cases c;exact N0 n0 (h.perm (mirror_perm _ _ _ _)) _;exact h⟩
   .exact N0 n0 h _
theorem L3{p:ZN}(h:Pm n p)(k:Nat):∀f l r,AllK n (fun _=>True) (kas_place p k f l r)
 | 0,_,_=>trivial
 | f+1,l,r=>by
  unfold kas_place
  split
  .exact trivial
  .exact⟨h.at n0 _,h.at n0 _,fun c=>by cases c<;>exact L3 h k f _ _⟩
theorem zg:∀f (p:ZN) k,Pm n p->AllK n (Pm n) (kas_bin f p k)
 | 0,_,_,h=>h
 | f+1,p,k,h=>(L3 n0 h _ _ _ _).bind fun l _=>zg f _ _ (h.perm (bubble_perm _ _ _))
theorem O0:AllK n (Pm n) (kas_sort n) :=
 (jx n0 (show Pm n (List.toArray (List.range n)) by unfold Pm;rw[List.toList_toArray])).bind fun r hr=>by
  show AllK n _ (if r.1<n then _ else _)
  split
  .exact zg n0 _ _ _ hr
  .exact hr
end
end SRT
namespace SRT
open PySem PySem.Spec PyProof.Rows L2 PySem.W
def srtN(n:Nat)(b:Nat->Nat->Bool):List Nat:=(runK b (kas_sort n)).toList
theorem xv{n:Nat}(n0:0<n)(b:Nat->Nat->Bool):(srtN n b).Perm (List.range n):=O1 (O0 n0)
end SRT
namespace L2
open PySem PySem.Spec PyProof.Rows
abbrev oj:ZQ:=fun _ _=>False
def Io(ifs:ZM)(env:Env):Sem Bool :=
 forIn ifs true fun c r=>if r=true then (isTrue c env (eval c env) >>= fun b=>pure (ForInStep.yield b)) else pure (ForInStep.yield r)
section
variable(prog:Program)(w:World)(A:Around)(tg elt:Expr)(ifs:ZM)(env:Env)(it acc:Value)
def TurnEnd(nxt:Shared->Prop)(ok:Bool)(s:Shared):Prop :=
 if ok=true then wpAny (model prog w) A (eval elt env) (fun y s1=>wpAny (model prog w) A (call (.builtin "list.append") [acc,y]) (fun _ s2=>nxt s2) oj s1) oj s else nxt s
def A6(nxt:Shared->Prop)(v:Value)(s:Shared):Prop :=
 wpAny (model prog w) A (letOwnedTupleGo tg it v) (fun _ s1=>wpAny (model prog w) A (assign tg env v) (fun _ s2=>wpAny (model prog w) A (Io ifs env) (TurnEnd prog w A elt env acc nxt) oj s2) oj s1) oj s
end
theorem Pd{prog:Program}{w:World}{A:Around}{R:Result->Shared->Prop}{s:Shared}{elt tg iter:Expr}{ifs:ZM}{scope:Scope}{pos:Pos}{it acc:Value}{env:Env}(W:Nat->Shared->Prop)
  (turn:∀m s1,W m s1->wpAny (model prog w) A (pyNext it) (fun r s2=>r.elim (R (.ok .next) s2) fun v=>A6 prog w A tg elt ifs env it acc (fun s3=>∃m',m'<m/\W m' s3) v s2) oj s1)
  (m:Nat) (start:W m s):codeAny (model prog w) A (.compLoop (.ListComp elt [⟨tg,iter,ifs,0⟩] scope pos) 0 it acc env) R s:=by
 refine codeAny_loop rfl W (fun k s1 hw=>?_) m start;refine wpAny_noted (env:=env) (m:=compTurn (.ListComp elt [⟨tg,iter,ifs,0⟩] scope pos) 0 it acc env) ?_;rw[compTurn_list];refine Zq (wpAny_standAt (Zq (wpAny_mono (turn k s1 hw) (fun r s2 q=>?_) fun _ _ z=>z.elim)));cases r with
 | none=>exact Zt q
 | some v =>
  have q:A6 prog w A tg elt ifs env it acc (fun s3=>∃m',m'<k/\W m' s3) v s2:=q;refine Zq (wpAny_mono q (fun _ s3 q3=>Zq (wpAny_mono q3 (fun _ s4 q4=>Zq (wpAny_mono q4 (fun ok s5 q5=>?_) fun _ _ z=>z.elim)) fun _ _ z=>z.elim)) fun _ _ z=>z.elim);cases ok with
  | false=>exact Zt ⟨rfl,q5⟩
  | true=>exact Zq (Zq (wpAny_mono q5 (fun y s6 q6=>Zq (wpAny_mono q6 (fun _ s7 q7=>Zt (Zt ⟨rfl,q7⟩)) fun _ _ z=>z.elim)) fun _ _ z=>z.elim))
noncomputable def Yj(env:Env):ZW->List (Str×Addr)->List (Str×Addr)
 | [],cs=>cs
 | (n,k)::r,cs=>Yj env r (if k == .free then (n,(env.cells.lookup n).getD 0)::cs else cs)
theorem Tp{scope:Scope}{env:Env}{x:Str}{k:NameKind}(h:(relabel scope env).names.lookup x=some k):∃k0,(x,k0)∈scope.names/\(k=k0\/(k0=.free/\k=.cell)):=by
 have hm:=PySem.mem_of_lookup h;obtain⟨⟨n,k0⟩,h1,h2⟩:=Gd.mp (show (x,k)∈scope.names.map _ from hm);dsimp only at h2
 split at h2
 .rename_i hc
  cases h2;simp only[Vi,beq_iff_eq]at hc;exact⟨k0,h1,.inr ⟨hc.1.1,rfl⟩⟩
 .cases h2;exact⟨k,h1,.inl rfl⟩
noncomputable def W5(outer scope:Scope):Bool :=
 decide (scope.kind=.function) && scope.names.all fun y=>decide (y.2≠.cell) && (decide (y.2≠.local) || decide (scope.names.lookup y.1=some .local)) &&
  (decide (y.2≠.free) || decide (outer.names.lookup y.1=some .cell) || decide (outer.names.lookup y.1=some .free))
noncomputable def J8(NX:ZG)(names:ZW):ZG->ZV->Bool
 | [],[]=>true
 | _::N,none::fr=>J8 NX names N fr
 | x::N,some j::fr=>decide (NX[j]?=some x) && decide (names.lookup x=some .free) && J8 NX names N fr
 | _,_=>false
theorem R6{NX:ZG}{names:ZW}:∀{N:ZG} {fr:ZV},J8 NX names N fr=true->fr.length=N.length
 | [],[],_=>rfl
 | [],_::_,h=>by simp[J8]at h
 | _::_,[],h=>by simp[J8]at h
 | x::N,none::fr,h=>by
  simp only[J8]at h;simp only[Jl,R6 h]
 | x::N,some j::fr,h=>by
  simp only[J8,Vi]at h;simp only[Jl,R6 h.2]
theorem R7{NX:ZG}{names:ZW}:∀{N:ZG} {fr:ZV} {i j:Nat},J8 NX names N fr=true->fr[i]?=some (some j)->∃x,N[i]?=some x/\NX[j]?=some x/\names.lookup x=some .free
 | [],[],_,_,_,e=>by simp at e
 | [],_::_,_,_,h,_=>by simp[J8]at h
 | _::_,[],_,_,h,_=>by simp[J8]at h
 | x::N,none::fr,0,_,_,e=>by simp at e
 | x::N,none::fr,i+1,j,h,e=>by
  simp only[J8]at h;obtain⟨y,h1,h2⟩:=R7 (i:=i) h (by simpa using e);exact⟨y,by simpa using h1,h2⟩
 | x::N,some k::fr,0,j,h,e=>by
  simp only[J8,Vi,decide_eq_true_eq]at h;simp at e;subst e;exact⟨x,rfl,h.1.1,h.1.2⟩
 | x::N,some k::fr,i+1,j,h,e=>by
  simp only[J8,Vi]at h;obtain⟨y,h1,h2⟩:=R7 (i:=i) h.2 (by simpa using e);exact⟨y,by simpa using h1,h2⟩
theorem V6{f:Str->NameKind->NameKind}(x:Str):∀names:ZW,(names.map fun p=>(p.1,f p.1 p.2)).lookup x=(names.lookup x).map (f x)
 | []=>rfl
 | (n,k)::r=>by
  have ih:=V6 (f:=f) x r;cases e:x == n with
  | false =>
   simp only[P8,List.lookup_cons,e];exact ih
  | true =>
   have e':x=n:=by simpa using e
   simp only[P8,List.lookup_cons,e,Option.map_some];rw[e']
theorem Mv(scope:Scope)(env:Env):(relabel scope env).names=scope.names.map fun p=>(p.1,if (p.2 == NameKind.free && env.scope.kind == .function && env.kindOf p.1 == some .cell)=true then NameKind.cell else p.2):=by
 show scope.names.map _=_;refine List.map_congr_left fun p _=>?_;obtain⟨n,k⟩:=p;dsimp only
 split<;>rfl
theorem Mz{scope:Scope}{env:Env}{x:Str}(h:scope.names.lookup x=some .free):(relabel scope env).names.lookup x=some .cell\/(relabel scope env).names.lookup x=some .free:=by
 rw[Mv,V6 (f:=fun n k=>if (k == NameKind.free && env.scope.kind == .function && env.kindOf n == some .cell)=true then NameKind.cell else k),h];dsimp only[Option.map_some]
 split
 .exact .inl rfl
 .exact .inr rfl
theorem Wk{env:Env}:∀{names:ZW} {cs:List (Str×Addr)},(∀y∈names,y.2=.free->∃c,env.cells.lookup y.1=some c)->(∀p∈cs,env.cells.lookup p.1=some p.2)->∀p∈Yj env names cs,env.cells.lookup p.1=some p.2
 | [],cs,_,hc,p,hp=>hc p hp
 | (n,k)::r,cs,hn,hc,p,hp=>by
  simp only[Yj]at hp;refine Wk (fun y hy=>hn y (Vq _ hy)) (fun q hq=>?_) p hp
  split at hq
  .rename_i hk
   rcases Vt.mp hq with e | hq
   .obtain⟨c,Qe⟩:=hn (n,k) Yd (by simpa using hk);subst e;dsimp only at Qe ⊢;rw[Qe]
    rfl
   .exact hc q hq
  .exact hc q hq
theorem Wy{env:Env}:∀{names:ZW} {cs:List (Str×Addr)} {p:Str×Addr},p∈cs->p∈Yj env names cs
 | [],_,_,h=>h
 | (n,k)::r,cs,p,h=>by
  simp only[Yj];refine Wy ?_
  split
  .exact Vq _ h
  .exact h
theorem Wg{env:Env}:∀{names:ZW} {cs:List (Str×Addr)} {x:Str},(x,NameKind.free)∈names->∃c,(x,c)∈Yj env names cs
 | (n,k)::r,cs,x,h=>by
  rcases Vt.mp h with e | h
  .cases e;exact⟨_,by simp only[Yj,B0s,if_true];exact Wy Yd⟩
  .simp only[Yj];exact Wg h
theorem Mf{j:Type}:∀{l:List (Str×j)} {x:Str} {b:j},(x,b)∈l->∃c,l.lookup x=some c
 | (n,c)::r,x,b,h=>by
  cases hx:x == n with
  | true=>exact⟨c,by simp only[List.lookup_cons,hx]⟩
  | false =>
   rcases Vt.mp h with e | h
   .cases e;simp at hx
   .obtain⟨d,hd⟩:=Mf h;exact⟨d,by simp only[List.lookup_cons,hx];exact hd⟩
theorem Lg{scope:Scope}{env:Env}(h:∀y∈scope.names,y.2=.free->∃c,env.cells.lookup y.1=some c):closureFor scope env=pure (Yj env scope.names []):=by
 have go:∀(names:ZW) (cs:List (Str×Addr)),(∀y∈names,y.2=.free->∃c,env.cells.lookup y.1=some c) ->
   (forIn names cs fun x cs=>(do
    if x.2 == NameKind.free then pure (ForInStep.yield ((x.1, <-cellOf env x.1)::cs)) else pure (ForInStep.yield cs):Sem (ForInStep (List (Str×Addr)))))=pure (Yj env names cs):=by
  intro names
  induction names with
  | nil=>intro cs _;rfl
  | cons y r ih =>
   intro cs hn;obtain⟨n,k⟩:=y;have hr:∀y∈r,y.2=.free->∃c,env.cells.lookup y.1=some c:=fun y hy=>hn y (Vq _ hy);rw[List.forIn_cons];by_cases hk:k=.free
   .subst hk;obtain⟨c,hc⟩:=hn (n,.free) Yd rfl
    have ec:cellOf env n=pure c:=by
     unfold cellOf;dsimp only at hc;rw[hc]
    simp only[B0s,if_true,ec,pure_bind,Yj];rw[ih _ hr];dsimp only at hc;rw[hc]
    rfl
   .have hb:(k == NameKind.free)=false:=by simpa using hk
    simp only[hb,B0f,if_false,pure_bind,Yj];exact ih _ hr
 have:=go scope.names [] h;unfold closureFor;simp only[bind_pure_comp]at this ⊢
 first
  | exact this
  | (simpa using this)
noncomputable def frees(fr:ZV)(j:List (ZF)):List (ZF):=fr.map fun o=>o.bind fun i=>(j[i]?).bind id
noncomputable def B1(h:Heap)(L:Addr):Heap:={ h with objs:=h.objs.extract 0 L }
theorem Xh{h:Heap}{L b:Nat}:(B1 h L).objs[b]?=if b<L then h.objs[b]? else none:=by
 show (h.objs.extract 0 L)[b]?=_;rw[Array.getElem?_extract];simp only[Nat.zero_add,Nat.sub_zero];by_cases hb:b<L
 .rw[if_pos hb];by_cases hc:b<h.objs.size
  .rw[if_pos (by omega)]
  .rw[if_neg (by omega),Array.getElem?_eq_none (by omega)]
 .rw[if_neg hb,if_neg (by omega)]
theorem Sk{h:Heap}{L b:Addr}{o:Obj}(e:h.get? b=some o)(hb:b<L):(B1 h L).get? b=some o:=by
 unfold Heap.get? at e ⊢;rw[Xh,if_pos hb];exact e
theorem Ql{h:Heap}{L b:Addr}{o:Obj}(e:(B1 h L).get? b=some o):h.get? b=some o/\b<L:=by
 unfold Heap.get? at e;rw[Xh]at e;by_cases hb:b<L
 .rw[if_pos hb]at e;exact⟨e,hb⟩
 .rw[if_neg hb]at e;cases e
noncomputable def Mg(h:Heap)(L:Addr):List (Addr×Obj):=(List.range h.objs.size).filterMap fun b=>if b<=L then none else (h.get? b).map fun o=>(b,o)
theorem B0{h:Heap}{L b:Addr}{o:Obj}:(b,o)∈Mg h L↔L<b/\h.get? b=some o:=by
 unfold Mg;rw[List.mem_filterMap];constructor
 .rintro⟨x,hx,e⟩;by_cases z:x<=L
  .rw[if_pos z]at e;cases e
  .rw[if_neg z]at e;obtain⟨o',e1,e2⟩:=Y8.mp e;cases e2;exact⟨Nat.lt_of_not_le z,e1⟩
 .rintro⟨hb,e⟩;refine⟨b,List.mem_range.mpr (Jr e), ?_⟩;rw[if_neg (Nat.not_le.mpr hb),e];rfl
theorem Ny{h h':Heap}{L:Addr}{m:ZJ}{own:List (Addr×Obj)}(f:Fr (B1 h L) L h' m)(n:News (B1 h L) L h' own)(hs:∀p∈Mg h L,p∈own):∀b o,b≠L->h.get? b=some o->h'.get? b=some o:=fun b o nb e=>by
 rcases Nat.lt_trichotomy b L with z | z | z
 .exact f.keep b o (Sk e z)
 .exact absurd z nb
 .exact(n (b,o) (hs _ (B0.mpr ⟨z,e⟩))).1
theorem R5{h:Heap}{L:Addr}{m:ZJ}(hn:h.Ns L m):Fr (B1 h L) L h m/\News (B1 h L) L h (Mg h L):=by
 have lsz:(B1 h L).objs.size<=L:=by
  show (h.objs.extract 0 L).size<=_;rw[Array.size_extract];omega
 refine⟨⟨hn,fun b o e=>(Ql e).1,lsz⟩,fun⟨b,o⟩ hp=>?_⟩;obtain⟨h1,h2⟩:=B0.mp hp;refine⟨h2,Nat.ne_of_gt h1, ?_⟩;cases z:(B1 h L).get? b with
 | none=>rfl
 | some o'=>exact absurd (Ql z).2 (Nat.lt_asymm h1)
theorem Zxe{h h':Heap}{L D:Addr}{o:Obj}(n':News (B1 h L) L h' ((D,o)::Mg h L))(hD:∀q∈Mg h L,q.1<D):h.get? D=none:=by
 obtain⟨_,nDL,lD⟩:=n' (D,o) Yd;cases eo:h.get? D with
 | none=>rfl
 | some o =>
  exfalso
  rcases Nat.lt_trichotomy D L with y | y | y
  .rw[Sk eo y]at lD;cases lD
  .exact nDL y
  .exact absurd (hD (D,o) (B0.mpr ⟨y,eo⟩)) (Nat.lt_irrefl _)
theorem all_range(bs:List Bool):((List.range bs.length).all fun i=>(bs[i]?).getD true)=bs.all id:=by
 rw[Bool.eq_iff_iff,n7,n7];constructor
 .intro h b hb;obtain⟨i,hi⟩:=List.mem_iff_getElem?.mp hb;have:=h i (List.mem_range.mpr (n6.mp hi).1);rw[hi]at this;simpa using this
 .intro h i hi;have H0:=List.mem_range.mp hi;rw[We H0];simpa using h _ (G0e H0)
theorem any_range(bs:List Bool):((List.range bs.length).any fun i=>(bs[i]?).getD true)=bs.any id:=by
 rw[Bool.eq_iff_iff,ZO,ZO];constructor
 .rintro⟨i,hi,h⟩;have H0:=List.mem_range.mp hi;rw[We H0]at h;exact⟨bs[i],G0e H0,by simpa using h⟩
 .rintro⟨b,hb,h⟩;obtain⟨i,hi⟩:=List.mem_iff_getElem?.mp hb;exact⟨i,List.mem_range.mpr (n6.mp hi).1,by rw[hi];simpa using h⟩
end L2
namespace SRT
open PySem PySem.Spec PyProof.Rows L2 PySem.W
section
variable{prog:Program}{w:World}{A:Around}{E:ZQ}{s:Shared}
theorem Eh{l:Addr}{o:Obj}{vs:ZK}{n:Nat}{T:String}{Q:ZK->Shared->Prop}(ho:s.heap.get? l=some o)(hc:o.cls=.type T)(hT:T = "list" \/ T = "tuple")(hd:o.data=.seq vs.toArray n)
  (h:Q vs { s with heap:=(s.heap.push (seqObj "list" #[] 0)).update s.heap.objs.size (Obj.mapSeq (·++vs.toArray)) }) (hsz:vs.length<=sizeLine) :
  wpAny (model prog w) A (collect (.ref l)) Q E s:=by
 unfold collect;refine Zq (wpAny_runValue (codeAny_builtin entry_proto_collect' ?_));show wpAny _ _ (do again (.builtin "list.__iadd__" ⟨[<-newList [],.ref l],[]⟩)) _ _ s;refine Zq (wpAny_newList (Zt ⟨Code.quiet_builtin _ (by decide +kernel),codeAny_builtin entry_list_iadd' ?_⟩));show wpAny _ _ (Builtin.List.listExtendWith (.ref s.heap.objs.size) (.ref l) (.ref s.heap.objs.size)) _ _ { s with heap:=s.heap.push (seqObj "list" #[] 0) };unfold Builtin.List.listExtendWith;have ho':(s.heap.push (seqObj "list" #[] 0)).get? l=some o:=Ya _ ho;refine Zq (wpAny_typeOf (T:=T) ⟨o,ho',hc⟩ ?_)
 have ht:(Value.type T == Value.type "list" || Value.type T == Value.type "tuple")=true:=by
  rcases hT with rfl | rfl<;>rfl
 rw[if_pos (by rw[Bool.or_assoc,ht];simp)];refine Zq (listItems_at ho' hd ?_);refine Zq (listItems_at (xs:=#[]) (n:=0) (Gh _ rfl) rfl ?_);rw[if_neg (by simp)];refine Zq (listUpdate_at (xs:=#[]) (n:=0) (Gh _ rfl) rfl ?_ (Cb _) (by show (#[]++vs.toArray).size<=sizeLine+1;simp only[Array.size_append,Jv,List.length_nil];omega));refine Zt ?_
 show wpAny (model prog w) A (do
   let o <-load s.heap.objs.size
   match o.data with
   | .seq xs _=>pure xs.toList
   | _=>unsupported "internal:collect") Q E { s with heap:=(s.heap.push (seqObj "list" #[] 0)).update s.heap.objs.size (Obj.mapSeq (·++vs.toArray)) }
 refine Zq (wpAny_load (get?_update_seq (Gh _ rfl) _) ?_);show wpAny _ _ (pure ((#[]:ZD)++vs.toArray).toList) Q E _;rw[show ((#[]:ZD)++vs.toArray).toList=vs by simp];exact Zt h
theorem Tn{l:Addr}{o:Obj}{vs:ZK}{n:Nat}{T:String}{Q:ZQ}(ho:s.heap.get? l=some o)(hc:o.cls=.type T)(hT:T = "list" \/ T = "tuple")(hd:o.data=.seq vs.toArray n)(hsz:vs.length<=sizeLine)
  (h:∀(h1:Heap) (D:Addr),(∀b ob,s.heap.get? b=some ob->h1.get? b=some ob)->s.heap.objs.size<=D->h1.get? D=some (seqObj "list" vs.toArray 0) ->
   wpAny (model prog w) A.in1 (call (.builtin "list.sort") [.ref D]) (fun _ s'=>Q (.ref D) s') E { s with heap:=h1 }) :
  wpAny (model prog w) A (call (.builtin "sorted") [.ref l]) Q E s:=by
 refine Calls.call_function_entry kind_sorted plain_sorted entry_sorted (args_sorted1 _) ?_;unfold Builtin.«sorted»;refine Zq (m:=checkCount "sorted" 1 1 _) (Zt ?_);refine Zq (Eh ho hc hT hd ?_ hsz);refine Zq (wpAny_newList ?_ hsz)
 have rz:((s.heap.push (seqObj "list" #[] 0)).update s.heap.objs.size (Obj.mapSeq (·++vs.toArray))).objs.size=s.heap.objs.size+1:=by
  rw[Heap.size_update,size_push']
 have k1:∀b ob,s.heap.get? b=some ob->((s.heap.push (seqObj "list" #[] 0)).update s.heap.objs.size (Obj.mapSeq (·++vs.toArray))).get? b=some ob:=fun b ob e=>by
  rw[Heap.get?_update_ne _ _ _ _ (C8 (Jr e))];exact Ya _ e
 have hg:=h ((((s.heap.push (seqObj "list" #[] 0)).update s.heap.objs.size (Obj.mapSeq (·++vs.toArray)))).push (seqObj "list" vs.toArray 0)) _ (fun b ob e=>Ya _ (k1 b ob e)) (by rw[rz];exact Nat.le_succ _) (Gh _ rfl);refine Zq (wpAny_holding (wpAny_mono hg (fun _ s' x=>?_) fun _ _ e=>e));exact Zt ⟨_,rfl,x⟩
def Srt(prog:Program)(w:World)(Ok:Heap->Prop)(vs:ZK)(R:ZK->Prop):Prop:=∀(A:Around) (E:ZQ) (s:Shared) (D:Addr) (Q:Shared->Prop),Ok s.heap->s.heap.get? D=some (seqObj "list" vs.toArray 0) ->
 (∀(h1:Heap) (out:ZD) (n:Nat),(∀b ob,b≠D->s.heap.get? b=some ob->h1.get? b=some ob)->h1.get? D=some (seqObj "list" out n)->R out.toList->Q { s with heap:=h1 }) ->
 wpAny (model prog w) A (call (.builtin "list.sort") [.ref D]) (fun _ s'=>Q s') E s
theorem srt_ints{Ok:Heap->Prop}{vs:ZK}{zs:ZT}(hI:IntsAre vs zs)(h64:vs.length<64):Srt prog w Ok vs fun o=>IntsAre o (Ms zs):=by
 intro A E s D Q _ C6 h;refine wpAny_call_entry slot_list_sort ⟨_,C6,rfl⟩ entry_list_sort ?_ (args_list_sort _);refine list_sort_tree C6 hI h64 fun out ns q1 q2 q3=>⟨_,rfl, ?_⟩;obtain⟨n,e⟩:=sortedHeap_at (h:=s.heap) (a:=D) (vs:=vs) (n:=0) (out:=out) C6;exact h _ out n (fun b ob nb e0=>SetM.V4 nb e0) e (by rw[<-pg q2 q3];exact q1)
theorem srt_strs{Ok:Heap->Prop}{vs:ZK}{ss:ZG}(hI:StrsAre vs ss)(h64:vs.length<64):Srt prog w Ok vs fun o=>StrsAre o (Z8 ss):=by
 intro A E s D Q _ C6 h;refine wpAny_call_entry slot_list_sort ⟨_,C6,rfl⟩ entry_list_sort ?_ (args_list_sort _);refine list_sort_treeK strKind_oneLt C6 hI.keysOf (fun v1 v2 rest e=>keyKind_strs (by rw[<-e];exact hI)) h64 fun st hp hs=>⟨_,rfl, ?_⟩;obtain⟨ns,q1,q2,q3⟩:=sorted_out_str hI hp hs;obtain⟨n,e⟩:=sortedHeap_at (h:=s.heap) (a:=D) (vs:=vs) (n:=0) (out:=(arrOf st).map (·.2)) C6;exact h _ _ n (fun b ob nb e0=>SetM.V4 nb e0) e (by rw[<-pj q2 q3];exact q1)
theorem xw{Ok:Heap->Prop}{vs:ZK}(hz:vs.length<2):Srt prog w Ok vs fun o=>o=vs:=by
 intro A E s D Q _ C6 h;refine wpAny_call_entry slot_list_sort ⟨_,C6,rfl⟩ entry_list_sort ?_ (args_list_sort _);have ha:D<s.heap.objs.size:=Jr C6;have sl:=sizeLine_eq;rw[list_sort_plain];refine Zq (listItems_at C6 rfl (Zq (listUpdate_at C6 rfl ?_ (by rw[Jv];omega) (Cb _))));obtain⟨e1,ho1⟩:∃e1,(s.heap.update D (Obj.mapSeq fun _=>#[])).get? D=some (seqObj "list" #[] e1):=⟨_,get?_update_seq C6 (fun _=>#[])⟩;refine Zq (seqEpoch_at ho1 rfl (Zq (wpAny_newTuple (Zq (wpAny_newList (wpAny_holding ?_) (Cb _))) (by show vs.length<=_;omega))))
 have ho6:(((s.heap.update D (Obj.mapSeq fun _=>#[])).push (seqObj "tuple" vs.toArray 0)).push (seqObj "list" #[] 0)).get? D=some (seqObj "list" #[] e1) :=
  Ya _ (Ya _ ho1)
 show wpAny _ _ _ _ _ { s with heap:=((s.heap.update D (Obj.mapSeq fun _=>#[])).push (seqObj "tuple" vs.toArray 0)).push (seqObj "list" #[] 0) };dsimp only;have h2:vs.toArray.size<2:=by rw[Jv];exact hz
 rw[if_pos h2,if_pos h2];refine Zq (Zt ?_);rw[StateT.run_pure];refine Zq (Zt ?_);dsimp only;refine Zq (seqEpoch_at ho6 rfl (Zq (listUpdate_at ho6 rfl ?_ (Cb _) (by rw[Array.size_map];show (pairsOf vs).size<=_;rw[pairsOf_size];omega))));simp only[bne_self_eq_false,B0f,if_false];refine Zt ⟨_,rfl, ?_⟩;obtain⟨n,e⟩:=sortedHeap_at (h:=s.heap) (a:=D) (vs:=vs) (n:=0) (out:=(pairsOf vs).map fun x:Keyed=>x.2) C6;refine h (sortedHeap s.heap D vs ((pairsOf vs).map fun x:Keyed=>x.2)) ((pairsOf vs).map fun x:Keyed=>x.2) n (fun b ob nb e0=>SetM.V4 nb e0) e ?_;rw[Array.toList_map];unfold pairsOf;rw[Array.toList_zip];exact List.map_snd_zip (D5 _)
theorem Ih{h:Heap}:∀{vs:ZK},(∀v∈vs,∃a o xs n i t,v=.ref a/\h.get? a=some o/\o.cls=.type "tuple" /\ o.data=.seq xs n/\xs[0]?=some (.int i t))->∃fs,KatTups h vs fs/\fs.length=vs.length/\∀v∈fs,∃i t,v=.int i t
 | [],_=>⟨[],trivial,rfl,fun _ m=>absurd m Td⟩
 | v::vs,g=>by
  obtain⟨fs,k1,k2,k3⟩:=Ih (vs:=vs) fun v m=>g v (Vq _ m);obtain⟨a,o,xs,n,i,t,rfl,h1,h2,h3,h4⟩:=g v Yd
  exact⟨.int i t::fs,⟨⟨a,o,xs,n,rfl,h1,h2,h3,h4⟩,k1⟩,by simp[k2],fun v m=>by
   rcases Vt.mp m with rfl | m
   .exact⟨_,_,rfl⟩
   .exact k3 v m⟩
end
end SRT
namespace EX
open PySem
section
variable{prog:Program}{w:World}{A:Around}{E:ZQ}{h:Heap}{g:Array GenState}{d:Drawn}{t:Nat}{os:OsState}
variable{nm q:Str}{C N:Addr}{bs bm bmB:ZK}{qt:Bool}{sn:ZG}{sub:ZK}{ab:Bool}{col:Option Bool}{dd:ZR}{k0 k1 k2 k3 k5:ZF}{B newId initId:String}
noncomputable abbrev tupO(rest:ZK):Obj:={ cls:=.type "tuple",data:=.seq rest.toArray }
noncomputable abbrev Zzs(C t:Addr):Obj:={ cls:=.ref C,data:=.fields #[.ref t,.none,.none,.none,.bool false,.none] }
noncomputable abbrev made(h:Heap)(C:Addr)(rest:ZK):Heap:=(h.push (tupO rest)).push (Zzs C h.objs.size)
theorem Dp{rest:ZK}:∀b o,h.get? b=some o->(made h C rest).get? b=some o:=fun _ _ e=>Ya _ (Ya _ e)
theorem Xs{rest:ZK}:(made h C rest).get? (h.objs.size+1)=some (Zzs C h.objs.size):=by
 have:=Gh (h.push (tupO rest)) (o:=Zzs C h.objs.size) rfl
 rwa [Heap.size_push]at this
theorem Zzl(F:ExcBaseFacts B newId initId bmB)(T:OwnTail h bmB bm){rest:ZK}{fI:Addr}{Q:Fin->Shared->Prop}
  (hC:h.get? C=some (excClassObj nm q C N bs bm qt sn sub ab col dd k0 k1 k2 k3 k5 newId)) (hI:Lk (model prog w) h (typeLookup (.ref C) "__init__") (some (.ref fI)))
  (hf:Lk (model prog w) h (typeOf (.ref fI)) (.type "function")) (m6:rest.length<=sizeLine)
  (hq:wpAny (model prog w) A (call (.ref fI) (.ref (h.objs.size+1)::rest)) (fun r s'=>r=.none/\Q (.done (.ret (.ref (h.objs.size+1)))) s') E ⟨made h C rest,g,d,t,os⟩) :
  wpAny (model prog w) A (Builtin.«type.__call__» ⟨.ref C::rest,[]⟩) Q E ⟨h,g,d,t,os⟩:=by
 have c1:=Dp (C:=C) (rest:=rest) _ _ hC;have cC:(Value.ref C::bm).contains (.ref C)=true:=by simp
 repeat (first | with_reducible refine wpAny_madeBy_exc hC ?_ | with_reducible refine wpAny_loadPart_at hC ?_ | wp_step)
 refine codeAny_call_builtin_code (Code.quiet_builtin _ F.quiet) (wpAny_check_new_subT F T hC (codeAny_exc_new_subT F T hC ?_ m6));show wpAny _ _ _ _ _ _;unfold isInstance;have e1:=Xs (h:=h) (C:=C) (rest:=rest)
 repeat (first | (with_reducible refine wpAny_isSubtype_exc c1 ?_;rw[cC]) | with_reducible refine wpAny_loadPart_at e1 ?_ | wp_step)
 show wpAny _ _ (typeLookup (.ref C) _) _ _ _;refine hI _ _ _ _ Dp (wpAny_holding (Zq ?_));unfold bindSpecial;refine Zq (hf _ _ _ _ Dp ?_);rw[if_pos (by decide)];refine Zt (Zq (wpAny_mono hq (fun r s' ⟨hr,hQ⟩=>?_) fun _ _ y=>y));subst hr
 wp_walk
 exact hQ
end
section
variable{prog:Program}{w:World}{A:Around}{E:ZQ}{h:Heap}{g:Array GenState}{d:Drawn}{t:Nat}{os:OsState}
variable{nm q:Str}{C N:Addr}{bs bm bmB:ZK}{qt:Bool}{sn:ZG}{sub:ZK}{ab:Bool}{col:Option Bool}{dd:ZR}{k0 k1 k2 k3 k5:ZF}{B newId initId:String}
theorem tc(F:ExcBaseFacts B newId initId bmB)(T:OwnTail h bmB bm){rest:ZK}{fI:Addr}{Q:ZQ}
  (hC:h.get? C=some (excClassObj nm q C N bs bm qt sn sub ab col dd k0 k1 k2 k3 k5 newId)) (hI:Lk (model prog w) h (typeLookup (.ref C) "__init__") (some (.ref fI)))
  (hf:Lk (model prog w) h (typeOf (.ref fI)) (.type "function")) (m6:rest.length<=sizeLine)
  (hq:wpAny (model prog w) (A.under (.builtin "type.__call__" ⟨.ref C::rest,[]⟩)) (call (.ref fI) (.ref (h.objs.size+1)::rest)) (fun r s'=>r=.none/\Q (.ref (h.objs.size+1)) s') E ⟨made h C rest,g,d,t,os⟩) :
  wpAny (model prog w) A (call (.ref C) rest) Q E ⟨h,g,d,t,os⟩:=by
 have f2:=tc_bind (.ref C);have f1:=tc_lookup;have ty:(⟨h,g,d,t,os⟩:Shared).TypeIs (.ref C) "type" := ⟨_,hC,rfl⟩;refine wpAny_call (codeAny_of_tree ?_);show wpAny _ _ (callAny (.ref C) _) _ _ _
 repeat (any_goals (first | with_reducible refine wpAny_loadPart_at hC ?_ | assumption | wp_step))
 refine⟨rfl,codeAny_call_builtin_at (Code.quiet_builtin _ (by decide +kernel)) entry_typeCall (wpAny_check_type_call_sub hC (Zzl F T hC hI hf m6 hq))⟩
end
end EX
namespace EX
open PySem Builtin Builtin.ObjectAttr
structure nq(M:Model)(h:Heap)(x C:Addr)(name:Str):Prop where
 sa:Lk M h (typeLookup (.ref C) "__setattr__") (some (.builtin "object.__setattr__"))
 no:Lk M h (typeLookup (.ref C) name) none
 rf:Lk M h (refuseIfOverridden (.ref x) "__setattr__") ()
 ob:Lk M h (isSubtype (.ref C) (.type "object")) true
 cd:∃cd,Lk M h (classData C) cd/\cd.hasDict=true
structure P4:Prop where
 slot:Slot "object" "__setattr__" "object.__setattr__"
 entry:entryFor table "object.__setattr__" = some Builtin.«object.__setattr__»
 kind:builtinKind "object.__setattr__" = some .slot
 split:splitId "object.__setattr__" = some ("object","__setattr__")
 args:∀a b c:Value,argsOk "object.__setattr__" ⟨[a,b,c],[]⟩
section
variable{prog:Program}{w:World}{A:Around}{E:ZQ}{s:Shared}{x C:Addr}{o:Obj}{name:Str}{v:Value}
theorem Rg{M:Model}{i owner n:String}{self:Value}{rest:ZK}{Q:ZH}(hk:builtinKind i=some .slot)(hs:splitId i=some (owner,n))
  (hi:Lk M s.heap (isInstance self (.type owner)) true) (ha:argsOk i ⟨self::rest,[]⟩) (z:Q () s):wpAny M A (checkBuiltinCall i ⟨self::rest,[]⟩) Q E s:=by
 simp only[checkBuiltinCall,hk,hs];refine Zq (hi _ _ _ _ (fun _ _ y=>y) ?_);rw[if_neg (by decide)];cases g:Manifest.signature? i with
 | none=>exact Zt z
 | some sig =>
  have e:Bind.checkArgs i sig ⟨self::rest,[]⟩=pure ():=by unfold argsOk at ha;rw[g]at ha;exact ha
  exact(show wpAny M A (Bind.checkArgs i sig ⟨self::rest,[]⟩) Q E s by rw[e];exact Zt z)
theorem Xi{M:Model}{h:Heap}{b:Value}{r:Bool}(hx:h.get? x=some o)(hc:o.cls=.ref C)(hb:Lk M h (isSubtype (.ref C) b) r):Lk M h (isInstance (.ref x) b) r:=by
 intro A Q E s k q;unfold isInstance;exact Zq (Dn hx hc _ _ _ _ k (hb _ _ _ _ k q))
theorem osa_as(self v:Value)(name:Str)(tk:Tok):Builtin.«object.__setattr__» ⟨[self,.str name tk,v],[]⟩=(refuseIfOverridden self "__setattr__" >>= fun _=>typeOf self >>= fun c=>typeLookup c name >>= fun a =>
  storeTaker? a >>= fun y=>match y with | some y=>setByDescriptor y self v | none=>storeInOwnDict self c (.str name tk) name v a.isSome):=by kernel_rfl
theorem yk(SF:P4){Q:ZH}(S:nq (model prog w) s.heap x C name)(hx:s.heap.get? x=some o)(hc:o.cls=.ref C)
  (h:∀(A:Around) (R:Fin->Shared->Prop) (E':ZQ) (b:Bool) (tk:Tok),(∀s',Q () s'->R (.done (.ret .none)) s') ->
   wpAny (model prog w) A (storeInOwnDict (.ref x) (.ref C) (.str name tk) name v b) R E' { s with toks:=s.toks+1 }) :
  wpAny (model prog w) A (setAttr (.ref x) name v) Q E s:=by
 have ty:=Dn (M:=model prog w) hx hc;have same:∀b o,s.heap.get? b=some o->({ s with toks:=s.toks+1 }:Shared).heap.get? b=some o:=fun _ _ e=>e;unfold setAttr callSpecial? specialOf;refine Zq (wpAny_mkText (Zq (Zq (Zq (ty _ _ _ _ same (S.sa _ _ _ _ same (wpAny_holding ?_)))))));rw[SF.slot.bind];refine Zq (Zt (Zq (wpAny_call ?_)));refine codeAny_call_builtin SF.slot.plain SF.entry ?_;have ag:=SF.args (.ref x) (.str name s.toks) v;have ii:=Xi (M:=model prog w) hx hc S.ob;refine @Rg _ _ { s with toks:=s.toks+1 } (model prog w) "object.__setattr__" "object" "__setattr__" (.ref x) [.str name s.toks,v] _ SF.kind SF.split ii ag ?_;rw[show ([Value.ref x]++[Value.str name s.toks,v])=[.ref x,.str name s.toks,v] from rfl,osa_as];refine Zq (S.rf _ _ _ _ same (Zq (ty _ _ _ _ same (Zq (S.no _ _ _ _ same (Zq (Zt ?_)))))));exact h _ _ _ _ _ fun s' z=>Zt (Zt z)
noncomputable abbrev newD:Obj:={ cls:=.type "dict",data:=.dict #[] }
theorem xk(SF:P4){Q:ZH}{vs:ZD}(S:nq (model prog w) s.heap x C name)(hx:s.heap.get? x=some o)(hc:o.cls=.ref C)(hd:o.dict=none)(hv:o.data=.fields vs)
  (h:∀h' tk,(∀b u,b≠x->s.heap.get? b=some u->h'.get? b=some u)->h'.get? x=some { o with dict:=some s.heap.objs.size }->h'.Ns1 s.heap.objs.size (fun y=>if y=name then some v else none) ->
   Q () { s with heap:=h',toks:=tk }):wpAny (model prog w) A (setAttr (.ref x) name v) Q E s:=by
 refine yk SF S hx hc fun A R E' b tk hR=>?_;obtain⟨cd,R4,hh⟩:=S.cd;have same:∀b o,s.heap.get? b=some o->({ s with toks:=s.toks+1 }:Shared).heap.get? b=some o:=fun _ _ e=>e;obtain⟨oc,od,dt,sl⟩:=o;obtain rfl:oc=.ref C:=hc;obtain rfl:od=none:=hd;obtain rfl:dt=.fields vs:=hv;have nx:s.heap.objs.size≠x:=Nat.ne_of_gt (Jr hx);unfold storeInOwnDict ownDictForStores instanceDict;refine Zq (Zt (Zq (Zq (wpAny_loadPart (same _ _ hx) (Zq (R4 _ _ _ _ same ?_))))));rw[hh];refine Zq (wpAny_alloc (Zq (wpAny_update (Ya _ hx) (Zt ?_))));have e1:=Ya newD hx;have e2:((s.heap.push newD).update x fun o=>{ o with dict:=some s.heap.objs.size }).get? x=some ⟨.ref C,some s.heap.objs.size,.fields vs,sl⟩:=Heap.get?_update_self _ e1 rfl;have e3:((s.heap.push newD).update x fun o=>{ o with dict:=some s.heap.objs.size }).get? s.heap.objs.size=some newD:=(Heap.get?_update_other _ _ (Ne.symm nx)).trans (Gh _ rfl);have ns:((s.heap.push newD).update x fun o=>{ o with dict:=some s.heap.objs.size }).Ns s.heap.objs.size (fun _=>none):=⟨newD, #[],_,e3,rfl,(fun e he=>absurd he (by simp)),fun _=>rfl⟩;show wpAny _ _ (storeInDict s.heap.objs.size (.str name tk) name v) _ _ _;unfold storeInDict newKeyGuard;refine Zq (Zt (Zq (wpAny_nsSet1 (Heap.Ns1.of_empty ns) fun h' hn' hs=>?_)));obtain⟨oD,esD,epD,hoD,hdD,hcD⟩:=hn'.count (Within.cons name v Within.nil);refine Zq (wpAny_lookBehind hoD ?_ (Zt (hR _ (h h' _ (fun b u hb q=>?_) ((hs.2 x (Ne.symm nx)).trans e2) hn'))))
 .rw[hdD];exact pastItsLine_dict (Gs hcD (by rw[sizeLine_eq,Jl,List.length_nil];omega))
 .exact(hs.2 b (C8 (Jr q))).trans ((Heap.get?_update_other _ _ (Ne.symm hb)).trans (Ya _ q))
end
structure Zqi(M:Model)(h:Heap)(C:Addr)(name:Str):Prop where
 ga:Lk M h (typeLookup (.ref C) "__getattribute__") (some (.builtin "BaseException.__getattribute__"))
 hk:Lk M h (typeLookup (.ref C) "__getattr__") none
 no:Lk M h (typeLookup (.ref C) name) none
 ob:Lk M h (isSubtype (.ref C) (.type "BaseException")) true
 cd:∃cd,Lk M h (classData C) cd/\cd.hasDict=true
theorem oga_as(self:Value)(name:Str)(tk:Tok):∃miss:Value->Sem Fin,Builtin.«object.__getattribute__» ⟨[self,.str name tk],[]⟩=(typeOf self >>= fun tp=>find self tp name >>= fun f =>
  match f with | .value v=>ret v | .bind g a=>bindTo g a self tp | .missing=>miss tp):=⟨_,rfl⟩
section
variable{prog:Program}{w:World}{A:Around}{E:ZQ}{s:Shared}{x C dx:Addr}{o:Obj}{name:Str}{v:Value}{mA:ZJ}{vs:ZD}
theorem X5:Slot "ValueError" "__getattribute__" "BaseException.__getattribute__" := PySem.F.excAttr_ValueError.ga
theorem get_at{expr:Bool}{Q:ZQ}(G:Zqi (model prog w) s.heap C name)(hx:s.heap.get? x=some o)(hc:o.cls=.ref C)(hd:o.dict=some dx)(hv:o.data=.fields vs)(hn:s.heap.Ns dx mA)
  (hm:mA name=some v) (ho:∀i,v≠.builtin i) (h:Q v { s with toks:=s.toks+1 }):wpAny (model prog w) A (getAttr (.ref x) name expr) Q E s:=by
 obtain⟨cd,R4,hh⟩:=G.cd;obtain⟨oc,od,dt,sl⟩:=o;obtain rfl:oc=.ref C:=hc;obtain rfl:od=some dx:=hd;obtain rfl:dt=.fields vs:=hv;have ty:=Dn (M:=model prog w) hx rfl;have same:∀b o,s.heap.get? b=some o->({ s with toks:=s.toks+1 }:Shared).heap.get? b=some o:=fun _ _ e=>e
 have hand:handedOut v=pure v:=by
  cases v<;>first | rfl | exact absurd rfl (ho _)
 unfold getAttr getAttrBy;refine Zq (wpAny_mkText (wpAny_holding (Zq (ty _ _ _ _ same (Zq (G.ga _ _ _ _ same ?_))))))
 have e0:(onTheHeap (Value.ref C) && Value.builtin "BaseException.__getattribute__" == Value.builtin "object.__getattribute__")=false:=by
  rw[show (Value.builtin "BaseException.__getattribute__" == Value.builtin "object.__getattribute__")=false by decide +kernel,Bool.and_false]
 show wpAny _ _ (if (onTheHeap (Value.ref C) && Value.builtin "BaseException.__getattribute__" == Value.builtin "object.__getattribute__")=true then _ else _) _ _ _;rw[e0,if_neg Ox];unfold getAttrByItsOwn hookBefore;refine Zq (G.hk _ _ _ _ same (Zq (wpAny_attempt (wpAny_holding ?_))));unfold callGetattribute boundAndCalled;have e1:(expr && onTheHeap (Value.builtin "BaseException.__getattribute__"))=false:=by cases expr<;>rfl
 rw[e1,if_neg Ox,X5.bind];refine Zq (Zt (wpAny_call ?_));refine codeAny_call_builtin X5.plain PySem.F.entry_bexc_ga ?_;have ag:=PySem.F.args_bexc_ga (.ref x) (.str name s.toks);have ii:=Xi (M:=model prog w) hx rfl G.ob;refine @Rg _ _ { s with toks:=s.toks+1 } (model prog w) "BaseException.__getattribute__" "BaseException" "__getattribute__" (.ref x) [.str name s.toks] _ (by decide +kernel) (by decide +kernel) ii ag ?_;obtain⟨miss,em⟩:=oga_as (.ref x) name s.toks;rw[show ([Value.ref x]++[Value.str name s.toks])=[.ref x,.str name s.toks] from rfl,em];refine Zq (ty _ _ _ _ same (Zq ?_));unfold find;refine Zq (G.no _ _ _ _ same (Zq (Zt (Zq (Zt ?_)))));unfold ownThenClass inOwnDict ownDict instanceDict;refine Zq (Zq (Zq (wpAny_loadPart (same _ _ hx) (Zq (wpAny_loadPart (same _ _ hx) (Zq (R4 _ _ _ _ same ?_)))))));rw[hh];refine Zt (a:=some dx) ?_;refine wpAny_nsGet (s:={ s with toks:=s.toks+1 }) hn ?_;rw[hm];refine Zq (wpAny_rule (Zt (Zt ?_)));show wpAny _ _ (handedOut v) _ _ _;rw[hand];exact Zt h
end
end EX
namespace PV
open PySem
structure je where
 c:Str
 fld:Str
 sup:ZG
open PySem.Spec PyProof.Rows L2
inductive T where
 | non | bl(b:Bool) | int(i:Int) | str(x:Str) | tup(ts:List T) | lst(ts:List T) | dct(XY:List (Key×T)) | fn(x:Str) | exn(c:Str)(t:T)
abbrev ZZ:=List T
abbrev ZX:=List (Key×T)
inductive Sl where | no | f(t:T) | o(t:T)
abbrev P:=List Sl
set_option genInjectivity true in
inductive A where | t(t:T) | s(i:Nat)
inductive Op where | add | sub | mul | fdiv | mod | pow
inductive Cm where | eq | ne | lt | le | gt | ge | isin | notin | is | isnt
inductive Kd where | int | bool | str | tuple | list | dict
inductive Pr where
 | op(o:Op) | cm(c:Cm) | c2(c d:Cm) | neg | ix | sl(lo hi:Bool) | rev
 | len | all | any | list | tuple | sorted | sset | lset | min | max | int | repr | dict | sum | abs | str | isi (n:Kd) | get1 | get2 | join (x:Str) | lvals | tup1 | dnew | idx | dct1 | srtP | srtF | tin (x:Str) | tix (x:Str) | fld (x:Str) | isx (xs:ZG)
inductive Mt where | append | extend | pop | popAt | insert
inductive Ik where | rng | zip | vls | its
inductive E where
 | v(i:Nat) | mv(i:Nat) | io(i:Nat) | k(t:T) | g(x:Str)
 | nil | cons (a r:E)
 | tup (es:E) | lst (es:E) | pr (p:Pr) (es:E)
 | and (a b:E) | or (a b:E) | not (a:E) | ite (c a b:E)
 | call (f:Str) (es:E) | cal (i:Nat) (es:E) | mt (m:Mt) (i:Nat) (es:E)
 | comp (tg it c el:E) (fr:ZV) (ns:ZG) | itr (k:Ik) (es:E) | tmp (a:E)
inductive S where
 | nil | seq(a r:S) | ret(a:E) | ex(a:E) | set(i:Nat)(a:E) | unp(tg a:E) | put(i:Nat)(k a:E)
 | ite (c:E) (a b:S) | loop (tg it:E) (b:S) | wh (c:E) (b:S) | pass | brk | cont | rais (c:Str) (a:E) | tri (b:S) (c:Str) (i:ZL) (h:S)
noncomputable def Mq:List je:=[⟨"BadDeed","word",["BadDeed","MakeError","ValueError"]⟩]
noncomputable def qa(c:Str):Str:=match Mq.find? fun x=>decide (x.c=c) with
 | some x=>x.fld
 | none => ""
noncomputable def Ol(c d:Str):Bool:=match Mq.find? fun x=>decide (x.c=c) with
 | some x=>x.sup.any fun y=>decide (y=d)
 | none=>false
noncomputable def Rq(x:Str):Option (ZX) :=
 if x = "SIZES" then some [(.inr "add",.int 3),(.inr "strike",.int 3),(.inr "rename",.int 4),(.inr "widen",.int 3),(.inr "arm",.int 3),(.inr "open",.int 2),(.inr "form",.int 3)]
 else if x = "SORTS_FOR" then some [(.inr "add",.tup [.str "record"]),(.inr "strike",.tup [.str "record",.str "choice"]),(.inr "rename",.tup [.str "record",.str "choice"]),(.inr "widen",.tup [.str "whole",.str "text",.str "row",.str "map"]),(.inr "arm",.tup [.str "choice"]),(.inr "open",.tup [.str "choice"])]
 else none
noncomputable def Dg:ZG:="is_whole" :: "is_item_whole" :: "is_number" :: "is_text" :: "is_name" :: "rises" :: "is_shape" :: "are_bounds" :: "are_members" :: "is_struck" :: "is_short_tuple" :: "is_field" :: "is_default" :: "is_arm" :: "is_single_value" :: "member_of" :: "may_be_left_out" :: "is_make" :: "form_of" :: "is_form" :: "are_forms" :: "fits_in" :: "ofs_of" :: "fits_default" :: "cannot_follow" :: "break_between" :: "is_turned" :: "life_in" :: "fault_of" :: "is_deed" :: "fault_of_form" :: "is_thing_for" :: "fault_of_member" :: "is_name_beside" :: "is_narrower" :: "shape_behind" :: "renamed" :: "_law_tape" :: "_law_draw" :: "_law_plain" :: "_law_default" :: "_law_part" :: "_law_parted" :: "_law_plains" :: "_law_make" :: "_law_alike" :: "_law_near" :: "_law_turned" :: "_law_next" :: "_law_deed" :: "_law_form_word" :: "_law_follow_word" :: "first_wrong" :: "number_lives" :: "_law_life" :: "_law_drawn" :: "_law_first" :: "_law_lives_right" :: "done" :: "_law_tried" :: "number_of" :: []
def jq:ZG:=["BadDeed"]
abbrev R0:Str:="number_of"
noncomputable def Ye(ts:ZZ)(lo hi:ZC):ZZ:=(ts.drop (HT.Vx ts.length 0 lo)).take (HT.Vx ts.length ts.length hi - HT.Vx ts.length 0 lo)
noncomputable def Zv(XY:ZX)(k:Key):Option T:=(XY.find? fun p=>decide (p.1=k)).map (·.2)
noncomputable def Zo(XY:ZX)(k:Key)(v:T):ZX :=
 if (XY.any fun p=>decide (p.1=k))=true then XY.map fun p=>if p.1=k then (p.1,v) else p else XY++[(k,v)]
noncomputable def Ma:T->Option Key
 | .int i=>some (.inl i)
 | .str x=>some (.inr x)
 | _=>none
def Ja:Key->T
 | .inl i=>.int i
 | .inr x=>.str x
noncomputable def allB:ZZ->Option (List Bool)
 | []=>some []
 | .bl b::r=>(allB r).map (b::·)
 | _::_=>none
def Nl:T->Bool
 | .non=>true
 | .bl _=>true
 | .int _=>true
 | .str _=>true
 | _=>false
noncomputable def j5:T->T->Option Bool
 | .non,b=>some (match b with
  | .non=>true
  | _=>false)
 | .bl a,b=>some (match b with
  | .bl c=>a == c
  | .int c=>(if a then 1 else 0) == c
  | _=>false)
 | .int a,b=>some (match b with
  | .bl c=>a == (if c then 1 else 0)
  | .int c=>a == c
  | _=>false)
 | .str a,b=>some (match b with
  | .str c=>a == c
  | _=>false)
 | .tup _,_=>some false
 | _,_=>none
noncomputable def eqT:T->T->Option Bool
 | .str a,.str b=>some (decide (a=b))
 | .int a,.int b=>some (decide (a=b))
 | a,b=>if Nl b=true then j5 a b else none
def Om:T->Option (ZZ)
 | .tup ts=>some ts
 | _=>none
noncomputable def eq1(a b:T):Option Bool:=match Om b with
 | none=>eqT a b
 | some bs=>if bs.isEmpty=true then (match Om a with
  | some as=>some as.isEmpty
  | none=>if Nl a=true then some false else none) else none
noncomputable def th:ZZ->ZZ->Option Bool
 | [],[]=>some true
 | [],_::_=>some false
 | _::_,[]=>some false
 | a::r,b::q=>(eq1 a b).bind fun x=>(th r q).map (x && ·)
noncomputable def eqE(a b:T):Option Bool:=match Om b with
 | none=>eqT a b
 | some bs=>(Om a).bind fun as=>th as bs
noncomputable def iq:T->T->Option Bool
 | .int a,.int b=>some (decide (a<b))
 | .str a,.str b=>some (decide (a.cps.toList<b.cps.toList))
 | .bl a,.bl b=>some (!a && b)
 | _,_=>none
noncomputable def ltTs:ZZ->ZZ->Option Bool
 | [],bs=>some (!bs.isEmpty)
 | a::r,bs=>match bs with
  | []=>some false
  | b::q=>if r.isEmpty=true/\q.isEmpty=true then iq a b else none
def ltE(a b:T):Option Bool:=match Om b with
 | none=>iq a b
 | some bs=>(Om a).bind fun as=>ltTs as bs
noncomputable def Dq:ZZ->ZZ->Option Bool
 | [],bs=>some (!bs.isEmpty)
 | _::_,[]=>some false
 | a::r,b::q=>(eqE a b).bind fun e=>if e=true then Dq r q else ltE a b
noncomputable def Rx:ZZ->Option (List (ZZ))
 | []=>some []
 | .tup (.int i::r)::ts=>(Rx ts).map ((.int i::r)::·)
 | _::_=>none
noncomputable def Oa(ts:ZZ):Option (ZZ):=(Rx ts).bind fun us=>if ts.length<2 then some ts else
 if ts.length<64/\∀a∈us,∀b∈us,(Dq a b).isSome=true then some ((SRT.srtN ts.length fun i j=>(Dq (us.getD i []) (us.getD j [])).getD false).map fun i=>ts.getD i .non) else none
noncomputable def So(n:Int):ZT->ZL
 | []=>none
 | z::r=>if z=n then some 0 else (So n r).map (·+1)
noncomputable def ltT:T->T->Option Bool
 | .int a,.int b=>some (decide (a<b))
 | _,_=>none
def geT:T->T->Option Bool
 | .int a,.int b=>some (decide (b<=a))
 | _,_=>none
noncomputable def Ff(a:T):ZZ->Option Bool
 | []=>some false
 | t::r=>(eqT t a).bind fun b=>(Ff a r).map (b || ·)
noncomputable def Dw:ZZ->Option (ZT)
 | []=>some []
 | .int i::r=>(Dw r).map (i::·)
 | _::_=>none
noncomputable def Nz:ZZ->Option (ZG)
 | []=>some []
 | .str i::r=>(Nz r).map (i::·)
 | _::_=>none
def Xy:Key->PyData
 | .inl i=>.int i
 | .inr x=>.str x
mutual
noncomputable def toPy:T->Option PyData
 | .non=>some .none
 | .bl b=>some (.bool b)
 | .int i=>some (.int i)
 | .str x=>some (.str x)
 | .tup ts=>(Ua ts).map .tuple
 | .lst ts=>(Ua ts).map .list
 | .dct XY=>(Mw XY).map .dict
 | .fn _=>none
 | .exn _ _=>none
noncomputable def Ua:ZZ->Option (List PyData)
 | []=>some []
 | t::r=>(toPy t).bind fun d=>(Ua r).map (d::·)
noncomputable def Mw:ZX->Option (List (PyData×PyData))
 | []=>some []
 | (k,t)::r=>(toPy t).bind fun d=>(Mw r).map ((Xy k,d)::·)
end
noncomputable def rpT(t:T):Option Str:=(toPy t).bind fun d=>if d.showable=true/\d.shown.length<=sizeLine/\d.depth<=100 then some d.shown else none
def inF(a:T)(ts:ZZ):Option Bool:=if Nl a=true then Ff a ts else none
noncomputable def m4:T->Str->Option Bool
 | .str x,y=>some (!(Builtin.Str.occurrences y x 0 y.length 1).isEmpty)
 | _,_=>none
noncomputable def Kq(a:T):T->Option Bool
 | .lst ts=>inF a ts
 | .tup ts=>inF a ts
 | .dct XY=>(Ma a).map fun k=>(Zv XY k).isSome
 | .str y=>m4 a y
 | _=>none
noncomputable def isT:T->T->Option Bool
 | .non,.non=>some true
 | .bl a,.bl b=>some (a == b)
 | _,.non=>some false
 | _,_=>none
noncomputable def eqC:T->T->Option Bool
 | .tup ts,.tup []=>some ts.isEmpty
 | a,b=>eqT a b
noncomputable def eqG:T->T->Option Bool
 | .tup ts,.tup (b::q)=>th ts (b::q)
 | a,b=>eqC a b
noncomputable def Jw:Cm->T->T->Option Bool
 | .eq,a,b=>eqG a b
 | .ne,a,b=>(eqG a b).map not
 | .lt,a,b=>ltT a b
 | .gt,a,b=>ltT b a
 | .le,a,b=>(ltT b a).map not
 | .ge,a,b=>geT a b
 | .isin,a,b=>Kq a b
 | .notin,a,b=>(Kq a b).map not
 | .is,a,b=>isT a b
 | .isnt,a,b=>(isT a b).map not
noncomputable def me(f:Int->Int->Option Sl)(t t':T):Option Sl:=match t with
 | .int a=>(match t' with
  | .int b=>f a b
  | _=>none)
 | _=>none
noncomputable def addT(t t':T):Option Sl:=match t with
 | .int a=>(match t' with
  | .int b=>some (.f (.int (a+b)))
  | _=>none)
 | .str a=>(match t' with
  | .str b=>if a.length+b.length<=sizeLine then some (.f (.str (a++b))) else none
  | _=>none)
 | .lst a=>(match t' with
  | .lst b=>if a.length+b.length<=sizeLine then some (.o (.lst (a++b))) else none
  | _=>none)
 | .tup a=>(match t' with
  | .tup b=>if a.length+b.length<=sizeLine then some (.f (.tup (a++b))) else none
  | _=>none)
 | .bl a=>(match t' with
  | .int b=>some (.f (.int ((if a=true then 1 else 0)+b)))
  | _=>none)
 | _=>none
noncomputable def mulT(t t':T):Option Sl:=match t with
 | .int a=>(match t' with
  | .int b=>if (-(2 ^ 64)<a/\a<2 ^ 64)\/(-(2 ^ 64)<b/\b<2 ^ 64) then some (.f (.int (a * b))) else none
  | _=>none)
 | .str a=>(match t' with
  | .int n=>if 0<=n/\n<=1000/\a.length<=1000 then some (.f (.str (repS a n.toNat))) else none
  | _=>none)
 | .lst a=>(match t' with
  | .int n=>if -(2 ^ 63)<=n/\n<2 ^ 63/\a.length * n.toNat<=sizeLine then some (.o (.lst (List.replicate n.toNat a).flatten)) else none
  | _=>none)
 | _=>none
noncomputable def lq(o:Op)(t t':T):Option Sl:=match o with
 | .add=>addT t t'
 | .sub=>me (fun a b=>some (.f (.int (a - b)))) t t'
 | .mul=>mulT t t'
 | .fdiv=>me (fun a b=>if 0<b/\b<1073741824 then some (.f (.int (a / b))) else none) t t'
 | .mod=>me (fun a b=>if 0<b then some (.f (.int (a % b))) else none) t t'
 | .pow=>me (fun a b=>if 0<=b/\b<=1000000/\a.natAbs<2 ^ 64 then some (.f (.int (a ^ b.toNat))) else none) t t'
noncomputable def Bt:T->T->Option T
 | .tup ts,.int i=>Tw ts i
 | .lst ts,.int i=>Tw ts i
 | .str z,.int i=>if z.length<=sizeLine then (Tw z.cps.toList i).map fun c=>.str ⟨#[c]⟩ else none
 | .dct XY,k=>(Ma k).bind (Zv XY)
 | _,_=>none
noncomputable def slT:T->ZC->ZC->Option Sl
 | .tup ts,lo,hi=>some (.f (.tup (Ye ts lo hi)))
 | .lst ts,lo,hi=>some (.o (.lst (Ye ts lo hi)))
 | .str z,lo,hi=>if z.length<=sizeLine then some (.f (.str (Txt.slice z lo hi))) else none
 | _,_,_=>none
noncomputable def bq:T->ZL
 | .tup ts=>some ts.length
 | .lst ts=>some ts.length
 | .dct ts=>some ts.length
 | .str z=>if z.length<=sizeLine then some z.length else none
 | _=>none
noncomputable def isiT:Kd->T->Option Bool
 | .int,.int _=>some true
 | .int,.bl _=>some true
 | .bool,.bl _=>some true
 | .str,.str _=>some true
 | .tuple,.tup _=>some true
 | .list,.lst _=>some true
 | .dict,.dct _=>some true
 | _,.fn _=>none
 | _,.exn _ _=>none
 | _,_=>some false
def Sr:T->ZC
 | .int i=>some i
 | _=>none
def C5:T->Bool
 | .lst _=>true
 | .dct _=>true
 | _=>false
noncomputable def G5:ZZ->Option (ZX)
 | []=>some []
 | .tup [a,b]::r=>(Ma a).bind fun k=>(G5 r).map ((k,b)::·)
 | _::_=>none
noncomputable def Ry(ts:ZZ):Option (ZZ) :=
 if ts.length<64 then match Dw ts with
  | some zs=>some ((SRT.Ms zs).map .int)
  | none=>(Nz ts).map fun ss=>(SRT.Z8 ss).map .str
 else none
noncomputable def Dy:ZZ->Option (ZT)
 | []=>some []
 | .tup (.int i::_)::r=>(Dy r).map (i::·)
 | _::_=>none
mutual
def oy:T->Bool
 | .tup ts=>gc ts
 | .lst _=>false
 | .dct _=>false
 | .fn _=>false
 | .exn _ _=>false
 | _=>true
def gc:ZZ->Bool
 | []=>true
 | t::r=>oy t && gc r
end
def pOp(o:Op):ZZ->Option Sl
 | [a,b]=>lq o a b
 | _=>none
noncomputable def pCm(c:Cm):ZZ->Option Sl
 | [a,b]=>(Jw c a b).map fun r=>.f (.bl r)
 | _=>none
noncomputable def pC2(c:Cm)(d:Cm):ZZ->Option Sl
 | [a,b,e]=>(Jw c a b).bind fun r=>if r=true then (Jw d b e).map fun r=>.f (.bl r) else some (.f (.bl false))
 | _=>none
noncomputable def pNeg:ZZ->Option Sl
 | [.int i]=>some (.f (.int (-i)))
 | _=>none
noncomputable def pIx:ZZ->Option Sl
 | [a,b]=>(Bt a b).map .f
 | _=>none
noncomputable def pSl10:ZZ->Option Sl
 | [a,l]=>(Sr l).bind fun i=>slT a (some i) none
 | _=>none
def pSl01:ZZ->Option Sl
 | [a,h]=>(Sr h).bind fun j=>slT a none (some j)
 | _=>none
noncomputable def pSl11:ZZ->Option Sl
 | [a,l,h]=>(Sr l).bind fun i=>(Sr h).bind fun j=>slT a (some i) (some j)
 | _=>none
noncomputable def pLen:ZZ->Option Sl
 | [a]=>(bq a).map fun n=>.f (.int n)
 | _=>none
noncomputable def pAll:ZZ->Option Sl
 | [.lst ts]=>(allB ts).map fun bs=>.f (.bl (bs.all id))
 | _=>none
def pAny:ZZ->Option Sl
 | [.lst ts]=>(allB ts).map fun bs=>.f (.bl (bs.any id))
 | _=>none
noncomputable def Zxo:ZZ->Option Sl
 | [.tup ts]=>some (.o (.lst ts))
 | [.dct XY]=>some (.o (.lst (XY.map fun p=>Ja p.1)))
 | _=>none
noncomputable def Xm:ZZ->Option Sl
 | [.lst ts]=>(Ry ts).map fun us=>.o (.lst us)
 | [.dct XY]=>(Ry (XY.map fun p=>Ja p.1)).map fun us=>.o (.lst us)
 | _=>none
noncomputable def kg:ZZ->Option Sl
 | [.lst ts]=>some (.f (.tup ts))
 | _=>none
noncomputable def pMin:ZZ->Option Sl
 | [.int a,.int b]=>some (.f (.int (if b<a then b else a)))
 | _=>none
noncomputable def pMax:ZZ->Option Sl
 | [.int a,.int b]=>some (.f (.int (if b>a then b else a)))
 | _=>none
noncomputable def pInt:ZZ->Option Sl
 | [.bl b]=>some (.f (.int (if b then 1 else 0)))
 | _=>none
noncomputable def pIsi(n:Kd):ZZ->Option Sl
 | [a]=>(isiT n a).map fun r=>.f (.bl r)
 | _=>none
noncomputable def kh:ZZ->Option Sl
 | [.dct XY]=>some (.o (.dct XY))
 | [.lst ts]=>(G5 ts).map fun XY=>.o (.dct (XY.foldl (fun acc kv=>Zo acc kv.1 kv.2) []))
 | _=>none
noncomputable def Zxa:ZZ->Option Sl
 | [a]=>(rpT a).map fun z=>.f (.str z)
 | _=>none
def pDnew:ZZ->Option Sl
 | []=>some (.o (.dct []))
 | _=>none
noncomputable def pGet1:ZZ->Option Sl
 | [.dct XY,k]=>(Ma k).map fun k=>.f ((Zv XY k).getD .non)
 | _=>none
noncomputable def pGet2:ZZ->Option Sl
 | [.dct XY,k,x]=>if C5 x=true then none else (Ma k).map fun k=>.f ((Zv XY k).getD x)
 | _=>none
noncomputable def pIdx:ZZ->Option Sl
 | [.lst ts,.int n]=>(Dw ts).bind fun zs=>(So n zs).map fun j:Nat=>Sl.f (.int (j:Nat))
 | _=>none
noncomputable def kc:ZZ->Option Sl
 | [.lst ts]=>(Nz ts).bind fun ss=>if ss.length<64 then some (.f (.int (SRT.j0 ss).length)) else none
 | _=>none
noncomputable def pDct1:ZZ->Option Sl
 | [k,v]=>if C5 v=true then none else (Ma k).map fun k=>.o (.dct [(k,v)])
 | _=>none
noncomputable def Zxu:ZZ->Option Sl
 | [.tup ts]=>(Oa ts).map fun us=>.o (.lst us)
 | _=>none
noncomputable def km:ZZ->Option Sl
 | [.lst ts]=>(Dy ts).bind fun hs=>if hs.Nodup/\ts.length<64 then some (.o (.lst ((SRT.Ks (hs.zip ts)).map (·.2)))) else none
 | _=>none
def z9(x:Str)(z:Str):Option T:=(Rq x).bind fun XY=>Zv XY (.inr z)
noncomputable def ao(x:Str):ZZ->Option Sl
 | [.str z]=>(z9 x z).map fun _=>.f (.bl true)
 | _=>none
noncomputable def aa(x:Str):ZZ->Option Sl
 | [.str z]=>(z9 x z).map .f
 | _=>none
noncomputable def pFld(x:Str):ZZ->Option Sl
 | [.exn c t]=>if qa c=x then some (.f t) else none
 | _=>none
noncomputable def pIsx(xs:ZG):ZZ->Option Sl
 | [.exn c _]=>some (.f (.bl (xs.any (Ol c))))
 | _=>none
def pTup1:ZZ->Option Sl
 | [t]=>if C5 t=true then none else some (.f (.tup [t]))
 | _=>none
noncomputable def pRev:ZZ->Option Sl
 | [.tup ts]=>some (.f (.tup ts.reverse))
 | [.lst ts]=>some (.o (.lst ts.reverse))
 | _=>none
noncomputable def L1:Pr->ZZ->Option Sl
 | .op o=>pOp o
 | .cm c=>pCm c
 | .c2 c d=>pC2 c d
 | .neg=>pNeg
 | .ix=>pIx
 | .sl true false=>pSl10
 | .sl false true=>pSl01
 | .sl true true=>pSl11
 | .len=>pLen
 | .all=>pAll
 | .any=>pAny
 | .list=>Zxo
 | .sorted=>Xm
 | .tuple=>kg
 | .min=>pMin
 | .max=>pMax
 | .int=>pInt
 | .isi n=>pIsi n
 | .dict=>kh
 | .repr=>Zxa
 | .dnew=>pDnew
 | .get1=>pGet1
 | .idx=>pIdx
 | .lset=>kc
 | .dct1=>pDct1
 | .srtP=>Zxu
 | .srtF=>km
 | .tin x=>ao x
 | .tix x=>aa x
 | .get2=>pGet2
 | .fld x=>pFld x
 | .tup1=>pTup1
 | .rev=>pRev
 | .isx xs=>pIsx xs
 | _=>fun _=>none
noncomputable def sj:Sl->Option Sl
 | .f t=>if oy t=true then some (.f t) else none
 | .o t=>(match t with
  | .dct XY=>if XY.all (fun p=>oy p.2)=true then some (.o (.dct XY)) else none
  | _=>none)
 | .no=>none
noncomputable def look(p:P)(a:A):Option T :=
 match a with
 | .t t=>some t
 | .s i=>match p[i]? with
  | some (.f t)=>some t
  | some (.o t)=>some t
  | _=>none
noncomputable def looks(p:P):List A->Option (ZZ)
 | []=>some []
 | a::r=>(look p a).bind fun t=>(looks p r).map (t::·)
def frs:Sl->Sl
 | .o t=>.f t
 | s=>s
noncomputable def frz(p:P):P:=p.map frs
noncomputable def args(p:P):List A->Option (List Sl)
 | []=>some []
 | .t t::r=>(args p r).map (.f t::·)
 | .s i::r=>match p[i]? with
  | some (.o t)=>(args (p.set i .no) r).map (.o t::·)
  | _=>none
def mkO:T->Sl
 | .fn _=>.no
 | t=>.o t
theorem mkO_f{t u:T}:mkO t≠.f u:=by cases t<;>exact fun z=>nomatch z
noncomputable def outs(p:P):List A->ZZ->Option P
 | [],[]=>some p
 | .t _::r,ts=>outs p r ts
 | .s i::r,t::ts=>outs (p.set i (mkO t)) r ts
 | _,_=>none
noncomputable def Sg(p:P):List A->P
 | []=>p
 | .t _::r=>Sg p r
 | .s i::r=>Sg (p.set i .no) r
noncomputable def fre(fr:ZV)(p:P):P:=fr.map fun o=>match o with
 | some j=>(p[j]?).getD .no
 | none=>.no
noncomputable def back:ZV->P->P->P
 | some j::fr,s::q,p=>back fr q (p.set j s)
 | none::fr,_::q,p=>back fr q p
 | _,_,p=>p
mutual
noncomputable def asg:E->T->P->Option P
 | .v i,t,p=>some (p.set i (.f t))
 | .tup es,.tup ts,p=>E5 es ts p
 | _,_,_=>none
noncomputable def E5:E->ZZ->P->Option P
 | .nil,[],p=>some p
 | .cons a r,t::ts,p=>(asg a t p).bind fun q=>E5 r ts q
 | _,_,_=>none
end
def thaw:Sl->Option T
 | .f t=>some t
 | .o t=>some t
 | .no=>none
noncomputable def Ow:T->Option (ZZ)
 | .tup ts=>some ts
 | .lst ts=>some ts
 | .dct XY=>some (XY.map fun p=>Ja p.1)
 | .str z=>if z.length<=sizeLine then some (z.cps.toList.map fun c=>.str ⟨#[c]⟩) else none
 | _=>none
noncomputable def mtT:Mt->T->ZZ->Option (T×T)
 | .append,.lst ts,[x]=>if ts.length<sizeLine then some (.lst (ts++[x]),.non) else none
 | _,_,_=>none
abbrev Fb:=Str×T
abbrev Cs:=Str->List Sl->(Sl×ZZ->Prop)->(Fb->Prop)->Prop
structure W where
 C:Cs
 gl:Str->Option T
 xe:Fb->P->Prop
noncomputable def read(p:P)(i:Nat):Option (T×P):=match p[i]? with
 | some (.f t)=>some (t,p)
 | some (.o t)=>some (t,p.set i (.f t))
 | _=>none
noncomputable def done(p:P)(i:Nat):Bool:=match p[i]? with
 | some (.f _)=>true
 | some (.o _)=>true
 | _=>false
noncomputable def ownL(p:P)(i:Nat):Bool:=match p[i]? with
 | some (.o (.lst _))=>true
 | _=>false
noncomputable def u6:T->Option (ZZ)
 | .int n=>if -1000000<=n/\n<=1000000 then some ((List.range n.toNat).map fun k=>.int (k:Nat)) else none
 | _=>none
noncomputable def yr(a b:Int):Option (ZZ):=if -1000000<=a/\a<=1000000/\-1000000<=b/\b<=1000000 then some ((List.range (b - a).toNat).map fun k=>.int (a+(k:Nat))) else none
noncomputable def D6(a b:ZZ):ZZ:=(a.zip b).map fun p=>.tup [p.1,p.2]
noncomputable def itT:Ik->ZZ->Option (ZZ)
 | .rng,[t]=>u6 t
 | .rng,[.int a,.int b]=>yr a b
 | .zip,[.lst a,.lst b]=>some (D6 a b)
 | .zip,[.tup a,.tup b]=>some (D6 a b)
 | .vls,[.dct XY]=>some (XY.map (·.2))
 | .its,[.dct XY]=>some (XY.map fun p=>.tup [Ja p.1,p.2])
 | _,_=>none
def isNil:E->Bool
 | .nil=>true
 | _=>false
noncomputable def Ju(pt:Nat->Bool):E->Bool
 | .v i=>!pt i
 | .tup es=>Ju pt es
 | .nil=>true
 | .cons a r=>Ju pt a && Ju pt r
 | _=>false
noncomputable def putAt:T->T->T->Option T
 | .lst ts,.int i,t=>(b7 ts.length i).map fun j=>.lst (ts.set j t)
 | .dct XY,k,t=>(Ma k).bind fun k=>if XY.length<sizeLine then some (.dct (Zo XY k t)) else none
 | _,_,_=>none
def on{j:Type}(o:Option j)(Q:j->Prop):Prop:=match o with
 | some a=>Q a
 | none=>False
theorem Zm{j:Type}{o:Option j}{a:j}{Q:j->Prop}(e:o=some a)(h:Q a):on o Q:=by rw[e];exact h
theorem Zi{j:Type}{o:Option j}{Q:j->Prop}(h:on o Q):∃a,o=some a/\Q a:=by
 cases o with
 | none=>exact h.elim
 | some a=>exact⟨a,rfl,h⟩
noncomputable def L5(r:Sl)(Q:Bool->Prop):Prop:=match r with
 | .f (.bl b)=>Q b
 | _=>False
def My(r:Sl)(Q:T->Prop):Prop:=match r with
 | .f t=>Q t
 | .o t=>Q t
 | .no=>False
def Z7(body:T->P->(Option T->P->Prop)->Prop):ZZ->ZZ->P->(ZZ->P->Prop)->Prop
 | [],acc,p,Q=>Q acc p
 | x::r,acc,p,Q=>body x p fun o p'=>match o with
  | some y=>Z7 body r (acc++[y]) p' Q
  | none=>Z7 body r acc p' Q
def wH(m:Bool)(a:E)(p:P)(k:(Sl->P->Prop)->Prop)(K:A->P->Prop):Prop:=match a with
 | .io i=>if done p i=true then K (.s i) p else False
 | .v i=>if m=true then (if done p i=true then K (.s i) p else False) else on (read p i) fun q=>K (.t q.1) q.2
 | _=>k fun s p1=>My s fun t=>K (.t t) p1
def cC(c:(Sl×ZZ->Prop)->(Fb->Prop)->Prop)(R:Sl×ZZ->Prop)(X:Fb->Prop):Prop:=c R X
def wC(w:W)(f:Str)(as:List A)(p:P)(Q:Sl->P->Prop):Prop:=on (args p as) fun sl=>cC (w.C f sl) (fun r=>on (outs p as r.2) fun p2=>Q r.1 p2) fun e=>w.xe e (Sg p as)
def W.nx(w:W):W:=⟨w.C,w.gl,fun _ _=>False⟩
mutual
noncomputable def wE:W->E->P->(Sl->P->Prop)->Prop
 | w,.v i,p,Q=>on (read p i) fun q=>Q (.f q.1) q.2
 | w,.mv i,p,Q=>match p[i]? with
  | some (.o t)=>Q (.o t) (p.set i .no)
  | some (.f t)=>Q (.f t) p
  | _=>False
 | w,.k t,p,Q=>Q (.f t) p
 | w,.g x,p,Q=>on (w.gl x) fun t=>Q (.f t) p
 | w,.tup es,p,Q=>wR w false es p fun as p1=>on (looks p1 as) fun ts=>if ts.length<=sizeLine then Q (.f (.tup ts)) p1 else False
 | w,.lst es,p,Q=>wR w false es p fun as p1=>on (looks p1 as) fun ts=>if ts.length<=sizeLine then Q (.o (.lst ts)) p1 else False
 | w,.pr r es,p,Q=>wR w true es p fun as p1=>on (looks p1 as) fun ts=>on (L1 r ts) fun s=>Q s p1
 | w,.and a b,p,Q=>wE w a p fun r p1=>L5 r fun c=>if c=true then wE w b p1 Q else Q (.f (.bl false)) p1
 | w,.or a b,p,Q=>wE w a p fun r p1=>L5 r fun c=>if c=true then Q (.f (.bl true)) p1 else wE w b p1 Q
 | w,.not a,p,Q=>wE w a p fun r p1=>L5 r fun c=>Q (.f (.bl (!c))) p1
 | w,.ite c a b,p,Q=>wE w c p fun r p1=>L5 r fun c=>if c=true then wE w a p1 Q else wE w b p1 Q
 | w,.call f es,p,Q=>wR w false es p fun as p1=>wC w f as p1 Q
 | w,.cal i es,p,Q=>match p[i]? with
  | some (.f (.fn f))=>wR w false es p fun as p1=>wC w f as p1 Q
  | _=>False
 | w,.mt m i es,p,Q=>if ownL p i=true then wR w false es p fun as p1=>on (looks p1 as) fun ts=>match p1[i]? with
   | some (.o t)=>on (mtT m t ts) fun r=>Q (.f r.2) (p1.set i (.o r.1))
   | _=>False
  else False
 | w,.comp tg it c el fr _,p,Q=>wE w it p fun r p1=>My r fun t=>on (Ow t) fun xs=>Z7 (fun x s K=>on (asg tg x s) fun s1=>if isNil c=true then wE w.nx el s1 fun r s2=>My r fun y=>K (some y) s2
   else wE w.nx c s1 fun r s2=>L5 r fun b=>if b=true then wE w.nx el s2 fun r s3=>My r fun y=>K (some y) s3 else K none s2) xs [] (fre fr p1) fun ys s=>Q (.o (.lst ys)) (back fr s p1)
 | w,.itr k es,p,Q=>wR w false es p fun as p1=>on (looks p1 as) fun ts=>on (itT k ts) fun xs=>Q (.f (.lst xs)) p1
 | w,.tmp a,p,Q=>wE w a (frz p) fun r _=>on (sj r) fun r=>Q r p
 | _,_,_,_=>False
noncomputable def wR:W->Bool->E->P->(List A->P->Prop)->Prop
 | _,_,.nil,p,Q=>Q [] p
 | w,m,.cons a r,p,Q=>wH m a p (wE w a p) fun a1 p1=>wR w m r p1 fun as p2=>Q (a1::as) p2
 | _,_,_,_,_=>False
end
structure En where
 nx:P->Prop
 rt:Sl->P->Prop
 bk:P->Prop:=fun _=>False
 ct:P->Prop:=fun _=>False
def Fl(body:T->P->En->Prop):ZZ->P->En->Prop
 | [],p,D=>D.nx p
 | x::r,p,D=>body x p ⟨fun q=>Fl body r q D,D.rt,D.nx,fun q=>Fl body r q D⟩
def wWh(test:P->(Bool->P->Prop)->Prop)(body:P->En->Prop):Nat->P->En->Prop
 | 0,_,_=>False
 | n+1,p,D=>test p fun b p1=>if b=true then body p1 ⟨fun q=>wWh test body n q D,D.rt,D.nx,fun q=>wWh test body n q D⟩ else D.nx p1
def bindX(i:ZL)(t:T)(q:P):P:=match i with
 | some i=>q.set i (.f t)
 | none=>q
def unX(i:ZL)(q:P):P:=match i with
 | some i=>q.set i .no
 | none=>q
def En.un(D:En)(i:ZL):En:=⟨fun q=>D.nx (unX i q),fun r q=>D.rt r (unX i q),fun q=>D.bk (unX i q),fun q=>D.ct (unX i q)⟩
def ptX(pt:Nat->Bool)(i:ZL):Bool:=match i with
 | some i=>pt i
 | none=>false
def wS:W->(Nat->Bool)->S->P->En->Prop
 | w,pt,.nil,p,D=>D.nx p
 | w,pt,.seq a r,p,D=>wS w pt a p ⟨fun q=>wS w pt r q D,D.rt,D.bk,D.ct⟩
 | w,pt,.ret a,p,D=>wE w a p D.rt
 | w,pt,.ex a,p,D=>wE w a p fun _ q=>D.nx q
 | w,pt,.set i a,p,D=>if pt i=true then False else wE w a p fun r q=>D.nx (q.set i r)
 | w,pt,.unp tg a,p,D=>if Ju pt tg=true then wE w a p fun r q=>My r fun t=>on (asg tg t q) D.nx else False
 | w,pt,.put i k a,p,D=>wE w a p fun r p1=>My r fun t=>if done p1 i=true then wE w k p1 fun r p2=>My r fun k=>match p2[i]? with
   | some (.o x)=>on (putAt x k t) fun x'=>D.nx (p2.set i (.o x'))
   | _=>False
  else False
 | w,pt,.ite c a b,p,D=>wE w c p fun r q=>L5 r fun b'=>if b'=true then wS w pt a q D else wS w pt b q D
 | w,pt,.loop tg it b,p,D=>if Ju pt tg=true then wE w it p fun r q=>My r fun t=>on (Ow t) fun xs=>Fl (fun x s D=>on (asg tg x s) fun s1=>wS w pt b s1 D) xs q D else False
 | w,pt,.wh c b,p,D=>wWh (fun s K=>wE w c s fun r q=>L5 r fun b=>K b q) (fun s D=>wS w pt b s D) 1000000 p D
 | w,pt,.pass,p,D=>D.nx p
 | w,pt,.brk,p,D=>D.bk p
 | w,pt,.cont,p,D=>D.ct p
 | w,_,.rais c a,p,_=>wE w a p fun r q=>My r fun t=>w.xe (c,t) q
 | w,pt,.tri b c i h,p,D=>if ptX pt i=true then False else wS ⟨w.C,w.gl,fun e q=>if Ol e.1 c=true then wS w pt h (bindX i (.exn e.1 e.2) q) (D.un i) else False⟩ pt b p D
def Yb(as:List Sl)(i:Nat):Bool:=match as[i]? with
 | some (.o _)=>true
 | _=>false
def leftT:Sl->T
 | .o t=>t
 | _=>.fn ""
noncomputable def G8:List Sl->P->Option (ZZ)
 | [],_=>some []
 | .o _::r,x::q=>(G8 r q).map (leftT x::·)
 | .f _::r,_::q=>G8 r q
 | .no::r,_::q=>G8 r q
 | _,_=>none
noncomputable def fin(as:List Sl)(r:Sl)(p:P):Option (Sl×ZZ):=(G8 as p).map fun ts=>(r,ts)
structure Df where
 n:Nat
 ar:Nat
 code:S
def W6(d:Df)(w:W)(as:List Sl)(R:Sl×ZZ->Prop):Prop:=if as.length=d.ar then wS w (Yb as) d.code (as++List.replicate (d.n - d.ar) .no) ⟨fun p=>on (fin as (.f .non) p) R,fun r p=>on (fin as r p) R,fun _=>False,fun _=>False⟩ else False
def Cn(tab:Str->Option Df)(gl:Str->Option T):Nat->Cs
 | 0=>fun _ _ _ _=>False
 | n+1=>fun f as R X=>on (tab f) fun d=>W6 d ⟨Cn tab gl n,gl,fun e _=>X e⟩ as R
end PV
namespace PV
open PySem PySem.Spec PyProof.Rows L2
example (w:W) (pt:Nat->Bool) (a r:S) (p:P) (D:En):wS w pt (.seq a r) p D=wS w pt a p ⟨fun q=>wS w pt r q D,D.rt,D.bk,D.ct⟩:=rfl
abbrev OM:=Addr->Option Obj
structure Md where
 prog:Program
 w:World
 mg:ZJ
 K:W.Frag
 base:Heap
structure Cg(o:Obj)(us:ZK):Prop where
 c:o.cls=.type "tuple"
 d:o.dict=none
 s:∃n,o.data=.seq us.toArray n
 z:us.length<=sizeLine
def Lr(o:Obj)(us:ZK):Prop:=us.length<=sizeLine/\∃n,o={ cls:=.type "list",data:=.seq us.toArray n }
structure Ls(g:Md)(a:Addr)(o:Obj)(vs:List (Key×Value)):Prop where
 ex:o.ExactDict
 es:∃es ep,o.data=.dict es ep/\KeysOf (Zf g.prog g.w) es/\Pairs (Zf g.prog g.w) es.toList vs
 nd:(vs.map (·.1)).Nodup
 z:vs.length<=sizeLine
 ns:(a == sysModules)=false
structure Kz(g:Md)(F:OM)(o:Obj)(c:Str)(u:Value):Prop where
 cl:∃C,o.cls=.ref C/\g.mg c=some (.ref C)
 fs:∃vs,o.data=.fields vs/\vs.size=6
 dc:∃d od m,o.dict=some d/\F d=some od/\(∀h:Heap,h.get? d=some od->h.Ns d m)/\m (qa c)=some u
inductive Top(g:Md)(F:OM):OM->T->Value->Prop
 | non{D:OM}:Top g F D .non .none
 | bl {D:OM} {b:Bool}:Top g F D (.bl b) (.bool b)
 | int {D:OM} {i:Int} {t:Tok}:Top g F D (.int i) (.int i t)
 | str {D:OM} {x:Str} {t:Tok}:Top g F D (.str x) (.str x t)
 | fn {D:OM} {x:Str} {a:Addr} (h:g.mg x=some (.ref a)) (k:W.keepIn g.K (.ref a)=true):Top g F D (.fn x) (.ref a)
 | tup {D:OM} {ts:ZZ} {a:Addr} {o:Obj} {us:ZK} (h:D a=some o) (k:Cg o us) (l:us.length=ts.length) (e:∀i (h:i<ts.length),Top g F F ts[i] (us.getD i .none)):Top g F D (.tup ts) (.ref a)
 | lst {D:OM} {ts:ZZ} {a:Addr} {o:Obj} {us:ZK} (h:D a=some o) (k:Lr o us) (l:us.length=ts.length) (e:∀i (h:i<ts.length),Top g F F ts[i] (us.getD i .none)):Top g F D (.lst ts) (.ref a)
 | dct {D:OM} {XY:ZX} {a:Addr} {o:Obj} {vs:List (Key×Value)} (h:D a=some o) (k:Ls g a o vs) (l:vs.map (·.1)=XY.map (·.1)) (e:∀i (h:i<XY.length),Top g F F (XY[i]).2 ((vs.map (·.2)).getD i .none)):Top g F D (.dct XY) (.ref a)
 | exn {D:OM} {c:Str} {t:T} {a:Addr} {o:Obj} {u:Value} (h:D a=some o) (k:Kz g F o c u) (e:Top g F F t u):Top g F D (.exn c t) (.ref a)
abbrev IsT(g:Md)(F:OM):T->Value->Prop:=Top g F F
abbrev Zs(g:Md)(F:OM):ZZ->ZK->Prop:=Paired (IsT g F)
abbrev Yz(g:Md)(F:OM):ZX->List (Key×Value)->Prop:=Paired fun p q=>p.1=q.1/\IsT g F p.2 q.2
def Le(F F':OM):Prop:=∀a o,F a=some o->F' a=some o
theorem Le.refl(F:OM):Le F F:=fun _ _ h=>h
theorem Le.trans{F F1 F2:OM}(a:Le F F1)(b:Le F1 F2):Le F F2:=fun c u h=>b c u (a c u h)
theorem L0{j l:Type}{R:j->l->Prop}(d:l):∀{as:List j} {bs:List l},Paired R as bs->∀i (h:i<as.length),R as[i] (bs.getD i d)
 | _,_,.nil,i,h=>absurd h (Nat.not_lt_zero _)
 | _,_,.cons r t,0,_=>r
 | _,_,.cons r t,i+1,h=>L0 d t i (Nat.lt_of_succ_lt_succ h)
theorem Xg{j V:Type}{R:j->V->Prop}(d:V):∀{as:List j} {bs:List V},bs.length=as.length->(∀i (h:i<as.length),R as[i] (bs.getD i d))->Paired R as bs
 | [],[],_,_=>.nil
 | a::as,b::bs,l,h=>.cons (h 0 (Nat.zero_lt_succ _)) (Xg d (Nat.succ.inj l) fun i hi=>h (i+1) (Nat.succ_lt_succ hi))
theorem Qf{j l γ δ:Type}{R:j->l->Prop}{S:γ->δ->Prop}{f:j->γ}{k:l->δ}(h:∀a b,R a b->S (f a) (k b)):∀{as:List j} {bs:List l},Paired R as bs->Paired S (as.map f) (bs.map k)
 | _,_,.nil=>.nil
 | _,_,.cons r t=>.cons (h _ _ r) (Qf h t)
theorem K6{j l:Type}{R S:j->l->Prop}(h:∀a b,R a b->S a b):∀{as:List j} {bs:List l},Paired R as bs->Paired S as bs
 | _,_,.nil=>.nil
 | _,_,.cons r t=>.cons (h _ _ r) (K6 h t)
section
variable{j l:Type}{R:j->l->Prop}{as as':List j}{bs bs':List l}
theorem Ji:∀{as:List j} {bs:List l},Paired R as bs->Paired R as' bs'->Paired R (as++as') (bs++bs')
 | _,_,.nil,h=>h
 | _,_,.cons r t,h=>.cons r (Ji t h)
theorem Y6:∀{as:List j} {bs:List l} {i:Nat} {a:j},Paired R as bs->as[i]?=some a->∃b,bs[i]?=some b/\R a b
 | _,_,_,_,.nil,e=>by simp at e
 | _,_,0,_,.cons r t,e=>⟨_,rfl,by cases e;exact r⟩
 | _,_,i+1,_,.cons r t,e=>Y6 (i:=i) t e
theorem Xk:∀{as:List j} {bs:List l} (n:Nat),Paired R as bs->Paired R (as.take n) (bs.take n)
 | _,_,0,_=>.nil
 | _,_,_+1,.nil=>.nil
 | _,_,n+1,.cons r t=>.cons r (Xk n t)
theorem Xb:∀{as:List j} {bs:List l} (n:Nat),Paired R as bs->Paired R (as.drop n) (bs.drop n)
 | _,_,0,h=>h
 | _,_,_+1,.nil=>.nil
 | _,_,n+1,.cons r t=>Xb n t
theorem y8{a:j}{b:l}(h:R a b):∀{as:List j} {bs:List l} (n:Nat),Paired R as bs->Paired R (as.set n a) (bs.set n b)
 | _,_,_,.nil=>.nil
 | _,_,0,.cons r t=>.cons h t
 | _,_,n+1,.cons r t=>.cons r (y8 h n t)
theorem T4{a:j}(h:Paired R [a] bs):∃b,bs=[b]/\R a b:=by cases h with | cons r t=>cases t;exact⟨_,rfl,r⟩
theorem pr2{a a':j}(h:Paired R [a,a'] bs):∃b b',bs=[b,b']/\R a b/\R a' b':=by cases h with | cons r t=>obtain⟨b,rfl,q⟩:=T4 t;exact⟨_,b,rfl,r,q⟩
end
section
variable{g:Md}{F F' D D':OM}{a:Addr}{o:Obj}{v:Value}
theorem Top.mkT{ts:ZZ}{us:ZK}(h:D a=some o)(k:Cg o us)(r:Zs g F ts us):Top g F D (.tup ts) (.ref a):=.tup h k r.length.symm (L0 _ r)
theorem Top.mkL{ts:ZZ}{us:ZK}(h:D a=some o)(k:Lr o us)(r:Zs g F ts us):Top g F D (.lst ts) (.ref a):=.lst h k r.length.symm (L0 _ r)
theorem Top.unT{ts:ZZ}(h:Top g F D (.tup ts) v):∃a o us,v=.ref a/\D a=some o/\Cg o us/\Zs g F ts us:=by
 cases h with | tup h k l e=>exact⟨_,_,_,rfl,h,k,Xg _ l e⟩
theorem Top.unL{ts:ZZ}(h:Top g F D (.lst ts) v):∃a o us,v=.ref a/\D a=some o/\Lr o us/\Zs g F ts us:=by
 cases h with | lst h k l e=>exact⟨_,_,_,rfl,h,k,Xg _ l e⟩
theorem areK{XY:ZX}{vs:List (Key×Value)}:Yz g F XY vs↔vs.map (·.1)=XY.map (·.1)/\Zs g F (XY.map (·.2)) (vs.map (·.2)):=by
 constructor
 .intro h;refine⟨?_,Qf (fun a b h=>h.2) h⟩
  induction h with
  | nil=>rfl
  | cons r t ih=>rw[P8,P8,ih,r.1]
 .rintro⟨h1,h2⟩
  induction XY generalizing vs with
  | nil=>cases vs with
   | nil=>exact .nil
   | cons _ _=>cases h1
  | cons p r ih=>cases vs with
   | nil=>cases h1
   | cons q s =>
    cases h2 with | cons h2 h3 =>
    obtain⟨e1,e2⟩:=List.cons.inj h1;exact .cons ⟨e1.symm,h2⟩ (ih e2 h3)
theorem Top.mkD{XY:ZX}{vs:List (Key×Value)}(h:D a=some o)(k:Ls g a o vs)(r:Yz g F XY vs):Top g F D (.dct XY) (.ref a):=by
 obtain⟨h1,h2⟩:=areK.mp r;refine .dct h k h1 fun i hi=>?_;have:=L0 .none h2 i (by rw[Za];exact hi);rw[List.getElem_map]at this;exact this
theorem Top.unD{XY:ZX}(h:Top g F D (.dct XY) v):∃a o vs,v=.ref a/\D a=some o/\Ls g a o vs/\Yz g F XY vs:=by
 cases h with | dct h k l e =>
 refine⟨_,_,_,rfl,h,k,areK.mpr ⟨l,Xg .none (by have:=congrArg List.length l;simpa using this) fun i hi=>?_⟩⟩;rw[List.getElem_map];exact e i (by rw[Za]at hi;exact hi)
theorem Kz.up{c:Str}{u:Value}(l:Le F F')(h:Kz g F o c u):Kz g F' o c u :=
 let ⟨d,od,m,h1,h2,r⟩:=h.dc
 ⟨h.cl,h.fs,d,od,m,h1,l _ _ h2,r⟩
theorem Top.up'(l:Le F F'){t:T}(h:Top g F D t v):(Le D D'->Top g F' D' t v)/\(D=F->IsT g F' t v):=by
 suffices q:∀D',Le D D'->Top g F' D' t v from⟨q D',fun e=>q F' (e ▸ l)⟩
 induction h with
 | non=>exact fun _ _=>.non
 | bl=>exact fun _ _=>.bl
 | int=>exact fun _ _=>.int
 | str=>exact fun _ _=>.str
 | fn h k=>exact fun _ _=>.fn h k
 | tup h k z _ ih=>exact fun D' d=>.tup (d _ _ h) k z fun i hi=>ih i hi F' l
 | lst h k z _ ih=>exact fun D' d=>.lst (d _ _ h) k z fun i hi=>ih i hi F' l
 | dct h k z _ ih=>exact fun D' d=>.dct (d _ _ h) k z fun i hi=>ih i hi F' l
 | exn h k _ ih=>exact fun D' d=>.exn (d _ _ h) (k.up l) (ih F' l)
theorem Top.up{t:T}(h:Top g F D t v)(l:Le F F')(d:Le D D'):Top g F' D' t v:=(h.up' (D':=D') l).1 d
theorem IsT.up{t:T}(h:IsT g F t v)(l:Le F F'):IsT g F' t v:=Top.up h l l
theorem Zs.up{ts:ZZ}{us:ZK}(h:Zs g F ts us)(l:Le F F'):Zs g F' ts us:=K6 (fun _ _ h=>IsT.up h l) h
theorem Yz.up{ts:ZX}{us:List (Key×Value)}(h:Yz g F ts us)(l:Le F F'):Yz g F' ts us:=K6 (fun _ _ h=>⟨h.1,IsT.up h.2 l⟩) h
theorem Top.at{t:T}(h:Top g F D t v)(hc:C5 t=true):∃a o,v=.ref a/\D a=some o:=by
 cases h with
 | lst h _ _ _=>exact⟨_,_,rfl,h⟩
 | dct h _ _ _=>exact⟨_,_,rfl,h⟩
 | _=>cases hc
theorem Top.to{t:T}{a:Addr}(h:Top g F D t (.ref a))(hc:C5 t=true)(e:∀o,D a=some o->D' a=some o):Top g F D' t (.ref a):=by
 cases h with
 | lst h k l r=>exact .lst (e _ h) k l r
 | dct h k l r=>exact .dct (e _ h) k l r
 | _=>cases hc
end
end PV
namespace L2
open PySem
noncomputable def ir(x:Str)(p0:Pos):Arguments:={ posonlyargs:=[],args:=[{ arg:=x,annotation:=none,pos:=p0:PySem.Arg }],vararg:=none,kwonlyargs:=[],kw_defaults:=[],kwarg:=none,defaults:=[]:PySem.Arguments }
noncomputable def ip(x:Str)(p1 p2 p3:Pos):Expr:=.Subscript (.Name x p1) (.Constant (.int 0) 0 p2) p3
noncomputable def ic(x:Str):Scope:={ kind:=.function,names:=[(x,.local)],isGenerator:=false,isCoroutine:=false,more:=[]:PySem.Scope }
end L2
namespace PV
open PySem L2
def Zxf(g:Md):Prop:=∃(f:Addr) (name qual:Str) (kV doc pm cdv ct oc:Value) (an od:ZR) (osl:ZY) (p0 p1 p2 p3 p4:Pos),g.K.lookup f=some ⟨oc,od,.func (W.fnOf name qual (ir "member" p0) [.Return (some (ip "member" p1 p2 p3)) p4] (ic "member") .none kV doc pm an cdv ct),osl⟩/\W.codeIn g.K cdv qual=true/\g.mg R0=some (.ref f)
end PV
namespace PV
open PySem PySem.Spec PyProof.Rows L2
structure Cx extends Md where
 A:Around
 N:ZG
 env:Env
 outer:List Env
 stack:List Env
 own:Bool
 calm:Bool
 os:OsState
 G:OM
 F0:OM
 σ0:List (ZF)
 pt:Nat->Bool
 xe:ZQ
noncomputable def H7(l:List Env):ZS:=l.filterMap (·.frame)
def Cx.mn(X:Cx)(a:Addr):Prop:=a=X.env.locals\/(X.own=true/\∃x,X.env.cells.lookup x=some a)
def Cx.kp(X:Cx)(a:Addr):Prop:=X.G a≠none\/X.mn a
def Kp(fs:ZS)(h:Heap)(a:Addr)(o:Obj):Prop:=∃sl,h.get? a=some { o with slots:=sl }/\(a ∉ fs->sl=o.slots)
def Look(env:Env)(h:Heap)(m:ZJ)(x:Str)(u:Value):Prop :=
 (env.kindOf x=some .local/\m x=some u)\/((env.kindOf x=some .cell\/env.kindOf x=some .free)/\∃c,env.cells.lookup x=some c/\h.IsCell c (some u))
structure Mod(g:Md):Prop where
 kin:g.K.In g.base
 glob:g.base.Ns mainGlobals g.mg
 blt:∃mb,g.base.Ns builtinsNs mb/\∀x:Str,x ≠ "__name__" -> mb x=bootBuiltins x
 nolimit:g.base.NoLimit
structure Cx.Ok(X:Cx):Prop where
 mod:Mod X.toMd
 kind:X.env.scope.kind=.function
 gl:X.env.globals=mainGlobals
 bl:X.env.builtins=builtinsNs
 ab:X.base.objs.size<=X.env.locals
 inj:∀x y c,X.env.cells.lookup x=some c->X.env.cells.lookup y=some c->x=y
 has:∀x,(X.env.kindOf x=some .cell\/X.env.kindOf x=some .free)->∃c,X.env.cells.lookup x=some c
 hd:X.calm=true->X.A.handled=none
 frames:X.A.frames=some X.stack
 stk:X.stack=X.outer\/(X.stack=X.env::X.outer/\X.env.frame=some X.env.locals)
 b:∀a o,X.base.get? a=some o->X.F0 a=some o
 fg:∀b∈H7 X.outer,X.G b≠none
 gm:∀a,X.mn a->X.G a=none
 cg:∀x c,X.env.cells.lookup x=some c->X.own=true\/X.G c≠none
abbrev Vs:=List (ZF)
structure C7(X:Cx)(F:OM)(h:Heap)(a:Addr)(t:T):Prop where
 c:C5 t=true
 f:F a=none
 k:¬ X.kp a
 t:Top X.toMd F h.get? t (.ref a)
structure Rel(X:Cx)(F:OM)(p:P)(l:Vs)(h:Heap):Prop where
 fz:∀(i:Nat) (t:T),p[i]?=some (Sl.f t)->∃v,l[i]?=some (some v)/\IsT X.toMd F t v
 ow:∀(i:Nat) (t:T),p[i]?=some (Sl.o t)->∃a,l[i]?=some (some (.ref a))/\C7 X F h a t
 ap:∀(i j:Nat) (t u:T) (a:Addr),p[i]?=some (Sl.o t)->p[j]?=some (Sl.o u)->l[i]?=some (some (.ref a))->l[j]?=some (some (.ref a))->i=j
 ln:p.length=l.length
structure Inv(X:Cx)(F:OM)(p:P)(j:Vs)(s:Shared):Prop where
 ok:X.Ok
 os:s.os=X.os
 bare:AllBare s.gens
 le:Le X.F0 F
 f:∀a o,F a=some o->s.heap.get? a=some o/\¬ X.kp a
 g:∀a o,X.G a=some o->Kp (H7 X.outer) s.heap a o
 fr:s.heap.FunFrames X.base X.outer
 ns:∃m,s.heap.Ns X.env.locals m/\∀(i:Nat) (x:Str) (u:Value),X.N[i]?=some x->j[i]?=some (some u)->Look X.env s.heap m x u
 cell:∀x c,X.env.cells.lookup x=some c->∃v,s.heap.IsCell c v
 len:j.length=X.N.length
 r:Rel X F p j s.heap
 pr:∀i,X.pt i=true->j[i]?=X.σ0[i]?
def Res(X:Cx)(F:OM)(p:P)(j:Vs)(h:Heap)(r:Sl)(v:Value):Prop:=match r with
 | .f t=>IsT X.toMd F t v
 | .o t=>∃a,v=.ref a/\C7 X F h a t/\∀(i:Nat) (u:T),p[i]?=some (Sl.o u)->j[i]?≠some (some (.ref a))
 | .no=>False
theorem Uy{h h' base:Heap}:∀{l:List Env},(∀b∈H7 l,∀o,h.get? b=some o->∃sl,h'.get? b=some { o with slots:=sl })->h.FunFrames base l->h'.FunFrames base l
 | [],_,_=>trivial
 | env::r,k,hl=>by
  obtain⟨hk,⟨L,o,hf,hn,ho,hd⟩,hr⟩:=hl;have e:H7 (env::r)=L::H7 r:=by unfold H7;rw[List.filterMap_cons,hf]
  rw[e]at k;obtain⟨sl,e'⟩:=k L Yd o ho;exact⟨hk,⟨L,_,hf,hn,e',hd⟩,Uy (fun b hb=>k b (Vq _ hb)) hr⟩
section
variable{X:Cx}{F F':OM}{p p':P}{V σ':Vs}{s s':Shared}{h h':Heap}
theorem C7.at{a:Addr}{t:T}(o:C7 X F h a t):∃x,h.get? a=some x:=by
 obtain⟨_,x,e,q⟩:=o.t.at o.c;cases e;exact⟨x,q⟩
theorem C7.to{a:Addr}{t:T}(o:C7 X F h a t)(l:Le F F')(n:F' a=none)(k:∀x,h.get? a=some x->h'.get? a=some x):C7 X F' h' a t :=
 ⟨o.c,n,o.k,(o.t.to (D':=h'.get?) o.c k).up l fun _ _ e=>e⟩
theorem Rel.to(r:Rel X F p V h)(l:Le F F')(n:∀(i:Nat) (t:T) (a:Addr),p[i]?=some (Sl.o t)->V[i]?=some (some (.ref a))->F' a=none/\∀x,h.get? a=some x->h'.get? a=some x):Rel X F' p V h' :=
 ⟨fun i t e=>let ⟨v,h1,h2⟩:=r.fz i t e;⟨v,h1,h2.up l⟩,fun i t e=>let ⟨a,h1,h2⟩:=r.ow i t e;let ⟨n1,n2⟩:=n i t a e h1;⟨a,h1,h2.to l n1 n2⟩,r.ap,r.ln⟩
theorem Inv.stackSub(I:Inv X F p V s){b:Addr}(hb:b∈H7 X.stack):b=X.env.locals\/b∈H7 X.outer:=by
 rcases I.ok.stk with e | ⟨e,hf⟩
 .rw[e]at hb;exact .inr hb
 .rw[e]at hb;unfold H7 at hb;rw[List.filterMap_cons,hf]at hb;exact Vt.mp hb
theorem Inv.bk(I:Inv X F p V s):∀a o,X.base.get? a=some o->s.heap.get? a=some o:=fun a o e=>(I.f a o (I.le a o (I.ok.b a o e))).1
theorem Inv.kIn(I:Inv X F p V s):X.K.In s.heap:=I.ok.mod.kin.keeps I.bk
theorem Inv.lt(I:Inv X F p V s):X.env.locals<s.heap.objs.size:=let ⟨_,hn,_⟩:=I.ns;hn.lt
theorem Inv.kpAt(I:Inv X F p V s){a:Addr}(k:X.kp a):∃o,s.heap.get? a=some o:=by
 rcases k with k | rfl | ⟨_,x,e⟩
 .cases q:X.G a with
  | none=>exact absurd q k
  | some o=>obtain⟨sl,e,_⟩:=I.g a o q;exact⟨_,e⟩
 .obtain⟨m,⟨o,_,_,e,_⟩,_⟩:=I.ns;exact⟨o,e⟩
 .obtain⟨v,o,e,_⟩:=I.cell x a e;exact⟨o,e⟩
theorem Inv.cellKp(I:Inv X F p V s){x:Str}{c:Addr}(e:X.env.cells.lookup x=some c):X.kp c:=(I.ok.cg x c e).elim (fun h=>.inr (.inr ⟨h,x,e⟩)) .inl
theorem Inv.stack(I:Inv X F p V s):s.heap.FunFrames X.base X.stack:=by
 rcases I.ok.stk with e | ⟨e,hf⟩
 .rw[e];exact I.fr
 .rw[e];obtain⟨m,hn,_⟩:=I.ns;exact .cons (by rw[I.ok.kind];decide) hf hn (Heap.get?_none_of_le I.ok.ab) I.fr
theorem Ng{c:Addr}{v:ZF}{fs:ZS}(k:∀o,h.get? c=some o->Kp fs h' c o)(z:h.IsCell c v):h'.IsCell c v:=by
 obtain⟨o,e,d⟩:=z;obtain⟨sl,e',_⟩:=k o e;exact⟨_,e',d⟩
theorem Inv.cne(I:Inv X F p V s){y:Str}{c:Addr}(e:X.env.cells.lookup y=some c):c≠X.env.locals:=fun z=>by
 obtain⟨v,o,ho,hd⟩:=I.cell y c e;obtain⟨m,⟨o',es,ep,ho',hd',_⟩,_⟩:=I.ns;rw[z,ho']at ho;cases ho;rw[hd']at hd;cases hd
theorem Inv.step(I:Inv X F p V s)(os:s'.os=s.os)(ba:AllBare s'.gens)(l:Le F F')(f:∀a o,F' a=some o->s'.heap.get? a=some o/\¬ X.kp a)(k:∀a o,X.kp a->a≠X.env.locals->s.heap.get? a=some o->Kp (H7 X.stack) s'.heap a o)(n:∀m,s.heap.Ns X.env.locals m->s'.heap.Ns X.env.locals m)(r:Rel X F' p' V s'.heap):Inv X F' p' V s':=by
 have gL:∀{a:Addr},X.G a≠none->a≠X.env.locals:=fun h z=>h (I.ok.gm _ (.inl z));refine⟨I.ok,os.trans I.os,ba,I.le.trans l,f,fun a o e=>?_,Uy (fun b hb o e=>?_) I.fr, ?_,fun x c e=>?_,I.len,r,I.pr⟩
 .obtain⟨sl,e1,n1⟩:=I.g a o e;have kp:X.G a≠none:=by rw[e];exact fun z=>nomatch z
  obtain⟨sl',e2,n2⟩:=k a _ (.inl kp) (gL kp) e1;exact⟨sl',e2,fun na=>(n2 fun z=>(I.stackSub z).elim (gL kp) na).trans (n1 na)⟩
 .obtain⟨sl,e2,_⟩:=k b o (.inl (I.ok.fg b hb)) (gL (I.ok.fg b hb)) e;exact⟨sl,e2⟩
 .obtain⟨m,hn,hl⟩:=I.ns;refine⟨m,n m hn,fun i x u e1 e3=>?_⟩;rcases hl i x u e1 e3 with z | ⟨z,c,e,w⟩
  .exact .inl z
  .exact .inr ⟨z,c,e,Ng (fun o=>k c o (I.cellKp e) (I.cne e)) w⟩
 .obtain⟨v,z⟩:=I.cell x c e;exact⟨v,Ng (fun o=>k c o (I.cellKp e) (I.cne e)) z⟩
theorem Kp.same{fs:ZS}{a:Addr}{o:Obj}(e:h.get? a=some o):Kp fs h a o:=⟨o.slots,e,fun _=>rfl⟩
theorem C7.ne{a:Addr}{t:T}(o:C7 X F h a t):a≠X.env.locals:=fun z=>o.k (.inr (.inl z))
theorem Inv.more{t:Nat}(I:Inv X F p V s)(k:∀b o,b≠X.env.locals->s.heap.get? b=some o->h'.get? b=some o)(m:∀m,s.heap.Ns X.env.locals m->h'.Ns X.env.locals m)(l:Le F F')(n:∀a o,F' a=some o->F a=some o\/(s.heap.get? a=none/\h'.get? a=some o)):Inv X F' p V { s with heap:=h',toks:=t } :=
 I.step rfl I.bare l (fun a o e=>(n a o e).elim (fun e=>let ⟨h1,h2⟩:=I.f a o e;⟨k _ _ (fun z=>h2 (.inr (.inl z))) h1,h2⟩) fun⟨h1,h2⟩=>⟨h2,fun z=>let ⟨_,e⟩:=I.kpAt z;by rw[h1]at e;cases e⟩)
  (fun a o _ ne e=>.same (k a o ne e)) m (I.r.to l fun i t a e1 e2=>by
   obtain⟨b,h1,h2⟩:=I.r.ow i t e1;rw[e2]at h1;cases h1;refine⟨?_,fun x=>k a x h2.ne⟩;cases q:F' a with
   | none=>rfl
   | some o =>
    obtain⟨x,hx⟩:=h2.at;rcases n a o q with z | ⟨z,_⟩
    .rw[h2.f]at z;cases z
    .rw[z]at hx;cases hx)
theorem Inv.kept{t:Nat}(I:Inv X F p V s)(k:∀b o,s.heap.get? b=some o->h'.get? b=some o):Inv X F p V { s with heap:=h',toks:=t }:=I.more (fun b o _=>k b o) (fun _ hn=>hn.keeps k) (Le.refl F) fun _ _ e=>.inl e
theorem Inv.tok(I:Inv X F p V s)(t:Nat):Inv X F p V { s with toks:=t }:=I.kept (h':=s.heap) fun _ _ e=>e
theorem Inv.slots(I:Inv X F p V s)(r:Rel X F p' V s.heap):Inv X F p' V s:=⟨I.ok,I.os,I.bare,I.le,I.f,I.g,I.fr,I.ns,I.cell,I.len,r,I.pr⟩
theorem Yw{i j:Nat}{r u:Sl}(h:(p.set i r)[j]?=some u):(j=i/\u=r)\/(j≠i/\p[j]?=some u):=by
 by_cases e:i=j
 .subst e;rw[List.getElem?_set_self']at h;cases q:p[i]? with
  | none=>rw[q]at h;cases h
  | some x=>rw[q]at h;exact .inl ⟨rfl,(M7 h).symm⟩
 .rw[List.getElem?_set_ne e]at h;exact .inr ⟨fun z=>e z.symm,h⟩
theorem Rel.say(r:Rel X F p V h){i:Nat}{q:Sl}{v:Value}(hq:q=.no\/(V[i]?=some (some v)/\Res X F (p.set i .no) V h q v)):Rel X F (p.set i q) V h:=by
 have own:∀{j:Nat} {t:T},(p.set i q)[j]?=some (Sl.o t)->∃a,V[j]?=some (some (.ref a))/\C7 X F h a t/\((j=i/\∀(k:Nat) (u:T),(p.set i .no)[k]?=some (Sl.o u)->V[k]?≠some (some (.ref a)))\/(j≠i/\p[j]?=some (Sl.o t))):=fun {j t} e=>by
  rcases Yw e with ⟨z,y⟩ | ⟨n,e⟩
  .subst z y;rcases hq with z | ⟨e1,a,rfl,o,n⟩
   .cases z
   .exact⟨a,e1,o,.inl ⟨rfl,n⟩⟩
  .obtain⟨a,h1,h2⟩:=r.ow j t e;exact⟨a,h1,h2,.inr ⟨n,e⟩⟩
 have no:∀{k:Nat} {u:T},k≠i->p[k]?=some (Sl.o u)->(p.set i .no)[k]?=some (Sl.o u):=fun {k u} n e=>by rw[List.getElem?_set_ne (Ne.symm n)];exact e
 refine⟨fun j t e=>?_,fun j t e=>let ⟨a,h1,h2,_⟩:=own e;⟨a,h1,h2⟩,fun j k t u a e1 e2 h1 h2=>?_,by rw[XX];exact r.ln⟩
 .rcases Yw e with ⟨z,y⟩ | ⟨_,e⟩
  .subst z y;rcases hq with z | ⟨e1,e2⟩
   .cases z
   .exact⟨v,e1,e2⟩
  .exact r.fz j t e
 .obtain⟨b,g1,_,g2⟩:=own e1;obtain⟨c,k1,_,k2⟩:=own e2;rw[h1]at g1;cases g1;rw[h2]at k1;cases k1;rcases g2 with ⟨z,n⟩ | ⟨z,q1⟩<;>rcases k2 with ⟨y,m⟩ | ⟨y,q2⟩
  .exact z.trans y.symm
  .exact absurd h2 (n k u (no y q2))
  .exact absurd h1 (m j t (no z q1))
  .exact r.ap j k t u a q1 q2 h1 h2
theorem Inv.drop(I:Inv X F p V s)(i:Nat):Inv X F (p.set i .no) V s:=I.slots (I.r.say (v:=.none) (.inl rfl))
end
noncomputable def OM.put(F:OM)(a:Addr)(o:Obj):OM:=fun b=>if b=a then some o else F b
section
variable{F:OM}{a b:Addr}{o:Obj}
theorem G4:F.put a o a=some o:=if_pos rfl
theorem G2(n:b≠a):F.put a o b=F b:=if_neg n
theorem Le.put(h:F a=none):Le F (F.put a o):=fun b x e=>by rw[G2 fun z=>by rw[z,h]at e;cases e];exact e
variable{X:Cx}{p:P}{V:Vs}{s:Shared}{t:T}
theorem Inv.freeze(I:Inv X F p V s)(w:C7 X F s.heap a t)(n:∀(i:Nat) (u:T),p[i]?=some (Sl.o u)->V[i]?≠some (some (.ref a))):∃F',Le F F'/\Inv X F' p V s/\IsT X.toMd F' t (.ref a):=by
 obtain⟨o,e⟩:=w.at;have l:Le F (F.put a o):=.put w.f;refine⟨F.put a o,l,I.step rfl I.bare l (fun b x q=>?_) (fun _ _ _ _ e=>.same e) (fun _ hn=>hn) (I.r.to l fun i u b h1 h2=>⟨?_,fun _ e=>e⟩),(w.t.to (D':=F.put a o) w.c fun x q=>by rw[G4];rw[e]at q;exact q).up l fun _ _ e=>e⟩
 .by_cases z:b=a
  .subst z;rw[G4]at q;cases q;exact⟨e,w.k⟩
  .rw[G2 z]at q;exact I.f b x q
 .obtain⟨c,g1,g2⟩:=I.r.ow i u h1;rw[h2]at g1;cases g1;rw[G2 fun z=>n i u h1 (by rw[<-z];exact h2)];exact g2.f
theorem Inv.thaw{r:Sl}{v:Value}(I:Inv X F p V s)(e:PV.thaw r=some t)(h:Res X F p V s.heap r v):∃F',Le F F'/\Inv X F' p V s/\IsT X.toMd F' t v:=by
 cases r with
 | no=>cases e
 | f u=>cases e;exact⟨F,.refl F,I,h⟩
 | o u=>cases e;obtain⟨a,rfl,w,n⟩:=h;exact I.freeze w n
theorem Inv.readAt{i:Nat}{p':P}(I:Inv X F p V s)(e:PV.read p i=some (t,p')):∃F' v,Le F F'/\Inv X F' p' V s/\V[i]?=some (some v)/\IsT X.toMd F' t v:=by
 unfold PV.read at e
 split at e
 .rename_i q
  cases e;obtain⟨v,h1,h2⟩:=I.r.fz i _ q;exact⟨F,v,.refl F,I,h1,h2⟩
 .rename_i q
  cases e;obtain⟨a,h1,h2⟩:=I.r.ow i _ q
  obtain⟨F',l,I',h⟩:=(I.drop i).freeze h2 fun j u e1 e2=>by
   rcases Yw e1 with ⟨_,z⟩ | ⟨n,e1⟩
   .cases z
   .exact n (I.r.ap j i u t a e1 q e2 h1)
  have r:=I'.r.say (i:=i) (q:=.f t) (.inr ⟨h1,h⟩);rw[List.set_set]at r;exact⟨F',_,l,I'.slots r,h1,h⟩
 .cases e
end
abbrev WP(X:Cx){j:Type}(t:Sem j)(Q:j->Shared->Prop)(s:Shared):Prop:=wpAny (model X.prog X.w) X.A t Q X.xe s
def EP(X:Cx)(F:OM)(j:Vs)(Q:Sl->P->Prop)(v:Value)(s':Shared):Prop:=∃F' p' r,Le F F'/\Inv X F' p' j s'/\Res X F' p' j s'.heap r v/\Q r p'
def TP(X:Cx)(F:OM)(j:Vs)(Q:Bool->P->Prop)(b:Bool)(s':Shared):Prop:=∃F' p',Le F F'/\Inv X F' p' j s'/\Q b p'
section
variable{X:Cx}{F:OM}{p:P}{l:Vs}{s:Shared}
theorem var_ok{i:Nat}{x:Str}{v:Value}{pos:Pos}{R:ZQ}(I:Inv X F p l s)(hN:X.N[i]?=some x)(hv:l[i]?=some (some v))(hd:(x == ("__debug__" : Str))=false)(hc:(x == ("__classdict__" : Str))=false)(h:R v s):WP X (eval (.Name x pos) X.env) R s:=by
 obtain⟨m,hn,hl⟩:=I.ns;rcases hl i x v hN hv with ⟨hk,hm⟩ | ⟨hk,c,Qe,S3⟩
 .exact wpAny_Name (wpAny_loadName_local I.ok.kind hk hn hm h) hd
 .rcases hk with hk | hk
  .exact wpAny_Name (wpAny_loadName_cell I.ok.kind hk Qe S3 h) hd
  .exact wpAny_Name (wpAny_loadName_free I.ok.kind hk Qe S3 h hc) hd
def Gl(X:Cx)(x:Str):Prop:=X.env.kindOf x=some .globalImplicit
theorem J0{x:Str}{u:Value}{pos:Pos}{R:ZQ}(I:Inv X F p l s)(hg:Gl X x)(hm:X.mg x=some u)(hd:(x == ("__debug__" : Str))=false)(h:R u s):WP X (eval (.Name x pos) X.env) R s :=
 Calls.Name_function_global I.ok.kind hg (Calls.loadGlobal_global (by rw[I.ok.gl];exact I.ok.mod.glob.keeps I.bk) hm h) hd
theorem Dj{x:Str}{u:Value}{pos:Pos}{R:ZQ}(I:Inv X F p l s)(hg:Gl X x)(hm:X.mg x=none)(hv:bootBuiltins x=some u)(hd:(x == ("__debug__" : Str))=false)(hn:x ≠ "__name__")(h:R u s):WP X (eval (.Name x pos) X.env) R s:=by
 obtain⟨mb,h1,h2⟩:=I.ok.mod.blt;exact Calls.Name_function_global I.ok.kind hg (Calls.loadGlobal_builtin (by rw[I.ok.gl];exact I.ok.mod.glob.keeps I.bk) hm (by rw[I.ok.bl];exact h1.keeps I.bk) ((h2 x hn).trans hv) h) hd
theorem Nv{N:ZG}(hN:N.Nodup){i j:Nat}{x:Str}(a:N[i]?=some x)(b:N[j]?=some x):i=j:=by
 obtain⟨h1,e1⟩:=n6.mp a;obtain⟨h2,e2⟩:=n6.mp b;exact(List.getElem_inj hN).mp (e1.trans e2.symm)
theorem La{M:Model}{A:Around}{E:ZQ}{i:Nat}{x:Str}{r:Sl}{u:Value}{Q:ZH}(I:Inv X F p l s)(hN:X.N.Nodup)(hi:X.N[i]?=some x)(hx:X.env.kindOf x=some .local\/(X.own=true/\X.env.kindOf x=some .cell))(hp:X.pt i=false)
  (hr:Res X F p l s.heap r u) (h:∀s' a,X.mn a->Heap.SameBut a s.heap s'.heap->Inv X F (p.set i r) (l.set i (some u)) s'->Q () s'):wpAny M A (storeName X.env x u) Q E s:=by
 obtain⟨m,hn,hl⟩:=id I.ns;have hcls:(X.env.scope.kind == .class || (X.env.scope.kind == .module && X.env.locals != X.env.globals))=false:=by rw[I.ok.kind];rfl
 have hiσ:i<l.length:=by rw[I.len];exact(n6.mp hi).1
 have get:∀{j:Nat} {v:ZF},(l.set i (some u))[j]?=some v->(j=i/\v=some u)\/(j≠i/\l[j]?=some v):=fun {j v} e=>by
  by_cases q:i=j
  .subst q;rw[List.getElem?_set_self hiσ]at e;cases e;exact .inl ⟨rfl,rfl⟩
  .rw[List.getElem?_set_ne q]at e;exact .inr ⟨fun z=>q z.symm,e⟩
 have go:∀{a:Addr} {h':Heap} {t:Nat},X.mn a->Heap.SameBut a s.heap h'->(∃m,h'.Ns X.env.locals m/\∀(j:Nat) (y:Str) (v:Value),X.N[j]?=some y->(l.set i (some u))[j]?=some (some v)->Look X.env h' m y v)->(∀y c,X.env.cells.lookup y=some c->∃v,h'.IsCell c v) ->
   Inv X F (p.set i r) (l.set i (some u)) { s with heap:=h',toks:=t }:=fun {a h' t} ma hs ns' cell'=>by
  have ne:∀{b:Addr},¬ X.kp b->b≠a:=fun n z=>n (z ▸ .inr ma);have ka:X.G a=none:=I.ok.gm a ma
  have rel:Rel X F p l h':=I.r.to (.refl F) fun j t b e1 e2=>by
   obtain⟨c,g1,g2⟩:=I.r.ow j t e1;rw[e2]at g1;cases g1;exact⟨g2.f,fun x e=>(hs.2 b (ne g2.k)).trans e⟩
  have res:Res X F p l h' r u:=by
   cases r with
   | no=>exact hr
   | f t=>exact hr
   | o t =>
    obtain⟨b,rfl,w,n⟩:=hr;exact⟨b,rfl,w.to (.refl F) w.f fun x e=>(hs.2 b (ne w.k)).trans e,n⟩
  refine⟨I.ok,I.os,I.bare,I.le,fun b o e=>?_,fun b o e=>?_,Uy (fun b hb o e=>?_) I.fr,ns',cell',by rw[XX];exact I.len, ?_,fun j hj=>?_⟩
  .obtain⟨h1,h2⟩:=I.f b o e;exact⟨(hs.2 b (ne h2)).trans h1,h2⟩
  .obtain⟨sl,e1,n1⟩:=I.g b o e;exact⟨sl,(hs.2 b fun z=>by rw[z,ka]at e;cases e).trans e1,n1⟩
  .exact⟨o.slots,(hs.2 b fun z=>I.ok.fg b hb (z ▸ ka)).trans e⟩
  .
   have own:∀{j:Nat} {t:T},(p.set i r)[j]?=some (Sl.o t)->∃b,(l.set i (some u))[j]?=some (some (.ref b))/\C7 X F h' b t/\((j=i/\∀(k:Nat) (t':T),p[k]?=some (Sl.o t')->l[k]?≠some (some (.ref b)))\/(j≠i/\p[j]?=some (Sl.o t)/\l[j]?=some (some (.ref b)))):=fun {j t} e=>by
    rcases Yw e with ⟨z,y⟩ | ⟨n,e⟩
    .subst z y;obtain⟨b,rfl,w,n⟩:=res;exact⟨b,List.getElem?_set_self hiσ,w,.inl ⟨rfl,n⟩⟩
    .obtain⟨b,h1,h2⟩:=rel.ow j t e;exact⟨b,by rw[List.getElem?_set_ne (Ne.symm n)];exact h1,h2,.inr ⟨n,e,h1⟩⟩
   refine⟨fun j t e=>?_,fun j t e=>let ⟨b,h1,h2,_⟩:=own e;⟨b,h1,h2⟩,fun j k t t' b e1 e2 h1 h2=>?_,by rw[XX,XX];exact rel.ln⟩
   .rcases Yw e with ⟨z,y⟩ | ⟨n,e⟩
    .subst z y;exact⟨u,List.getElem?_set_self hiσ,res⟩
    .obtain⟨v,g1,g2⟩:=rel.fz j t e;exact⟨v,by rw[List.getElem?_set_ne (Ne.symm n)];exact g1,g2⟩
   .obtain⟨c,g1,_,g2⟩:=own e1;obtain⟨d,k1,_,k2⟩:=own e2;rw[h1]at g1;cases g1;rw[h2]at k1;cases k1;rcases g2 with ⟨z,n⟩ | ⟨z,q1,q2⟩<;>rcases k2 with ⟨y,m⟩ | ⟨y,q3,q4⟩
    .exact z.trans y.symm
    .exact absurd q4 (n k t' q3)
    .exact absurd q2 (m j t q1)
    .exact rel.ap j k t t' b q1 q3 q2 q4
  .rw[List.getElem?_set_ne fun z=>by rw[z,hj]at hp;cases hp];exact I.pr j hj
 rcases hx with hk | ⟨ow,hk⟩
 .refine wpAny_storeName_local hk hn (fun h' hn' hs=>h _ _ (.inl rfl) hs (go (.inl rfl) hs ⟨_,hn',fun j y v e1 e2=>?_⟩ fun y c e=>?_)) hcls
  .rcases get e2 with ⟨z,w⟩ | ⟨n,e2⟩
   .subst z;cases w;rw[hi]at e1;cases e1;exact .inl ⟨hk,by simp⟩
   .rcases hl j y v e1 e2 with ⟨k,e⟩ | ⟨k,c,e,z⟩
    .have:y≠x:=fun e=>n (Nv hN e1 (e ▸ hi));exact .inl ⟨k,by simp[this,e]⟩
    .exact .inr ⟨k,c,e,z.sameBut hs (I.cne e)⟩
  .obtain⟨w,z⟩:=I.cell y c e;exact⟨w,z.sameBut hs (I.cne e)⟩
 .obtain⟨c,hc⟩:=I.ok.has x (.inl hk);obtain⟨w,z⟩:=I.cell x c hc;refine wpAny_storeName_cell I.ok.kind hk hc z (fun h' Qe hs=>h { s with heap:=h' } c (.inr ⟨ow,x,hc⟩) hs (go (t:=s.toks) (.inr ⟨ow,x,hc⟩) hs ⟨m,hn.sameBut hs (Ne.symm (I.cne hc)),fun j y v e1 e2=>?_⟩ fun y c' e=>?_))
  .rcases get e2 with ⟨z,w⟩ | ⟨n,e2⟩
   .subst z;cases w;rw[hi]at e1;cases e1;exact .inr ⟨.inl hk,c,hc,Qe⟩
   .rcases hl j y v e1 e2 with q | ⟨k,c',e,z'⟩
    .exact .inl q
    .refine .inr ⟨k,c',e,z'.sameBut hs ?_⟩;rintro rfl;exact n (Nv hN e1 (I.ok.inj _ _ _ e hc ▸ hi))
  .by_cases hcc:c'=c
   .subst hcc;exact⟨_,Qe⟩
   .obtain⟨w2,z2⟩:=I.cell y c' e;exact⟨w2,z2.sameBut hs hcc⟩
theorem Rw{M:Model}{A:Around}{E:ZQ}{i:Nat}{x:Str}{r:Sl}{u:Value}{Q:ZH}(I:Inv X F p l s)(hN:X.N.Nodup)(hi:X.N[i]?=some x)(hx:X.env.kindOf x=some .local\/(X.own=true/\X.env.kindOf x=some .cell))(hp:X.pt i=false)
  (hr:Res X F p l s.heap r u) (h:∀s',Inv X F (p.set i r) (l.set i (some u)) s'->Q () s'):wpAny M A (storeName X.env x u) Q E s:=La I hN hi hx hp hr fun s' _ _ _=>h s'
end
structure Got(g:Md)(F:OM)(L:Addr)(h h':Heap)(r:Sl)(v:Value):Prop where
 k:∀b o,b≠L->h.get? b=some o->h'.get? b=some o
 n:∀m,h.Ns L m->h'.Ns L m
 r:match r with
  | .f t=>∃F',Le F F'/\(∀a o,F' a=some o->F a=some o\/(h.get? a=none/\h'.get? a=some o))/\IsT g F' t v
  | .o t=>∃a,v=.ref a/\C5 t=true/\h.get? a=none/\Top g F h'.get? t (.ref a)
  | .no=>False
section
variable{g:Md}{F:OM}{L:Addr}{h h':Heap}{t:T}{v:Value}{ts:ZZ}{us:ZK}
theorem Got.kept(k:∀b o,h.get? b=some o->h'.get? b=some o)(q:IsT g F t v):Got g F L h h' (.f t) v:=⟨fun b o _=>k b o,fun _ hn=>hn.keeps k,F,.refl F,fun _ _ e=>.inl e,q⟩
theorem Got.sc(q:IsT g F t v):Got g F L h h (.f t) v:=.kept (fun _ _ e=>e) q
theorem Got.own{a:Addr}(k:∀b o,b≠L->h.get? b=some o->h'.get? b=some o)(n:∀m,h.Ns L m->h'.Ns L m)(c:C5 t=true)(h1:h.get? a=none)(q:Top g F h'.get? t (.ref a)):Got g F L h h' (.o t) (.ref a):=⟨k,n,a,rfl,c,h1,q⟩
theorem Got.lst(r:Zs g F ts us)(z:us.length<=sizeLine):Got g F L h (h.push { cls:=.type "list",data:=.seq us.toArray }) (.o (.lst ts)) (.ref h.objs.size) :=
 ⟨fun _ _ _ e=>Ya _ e,fun _ hn=>hn.push _,_,rfl,rfl,Heap.get?_none_of_le (D5 _),.mkL (Gh h rfl) ⟨z,0,rfl⟩ r⟩
theorem Got.tupN{a:Addr}{o:Obj}(fF:∀a o,F a=some o->h.get? a=some o)(k:∀b o,h.get? b=some o->h'.get? b=some o)(h1:h.get? a=none)(h2:h'.get? a=some o)(q:Cg o us)(r:Zs g F ts us):Got g F L h h' (.f (.tup ts)) (.ref a) :=
 have n:F a=none:=by
  cases q:F a with
  | none=>rfl
  | some o=>rw[fF _ o q]at h1;cases h1
 ⟨fun b o _=>k b o,fun _ hn=>hn.keeps k,F.put a o,.put n,fun b x e=>by
  by_cases z:b=a
  .subst z;rw[G4]at e;cases e;exact .inr ⟨h1,h2⟩
  .rw[G2 z]at e;exact .inl e,.mkT G4 q (r.up (.put n))⟩
theorem Got.tup(fF:∀a o,F a=some o->h.get? a=some o)(r:Zs g F ts us)(z:us.length<=sizeLine):Got g F L h (h.push { cls:=.type "tuple",data:=.seq us.toArray }) (.f (.tup ts)) (.ref h.objs.size) :=
 .tupN fF (fun _ _ e=>Ya _ e) (Heap.get?_none_of_le (D5 _)) (Gh h rfl) ⟨rfl,rfl,⟨_,rfl⟩,z⟩ r
end
section
variable{X:Cx}{F:OM}{p:P}{V:Vs}{s:Shared}{h':Heap}{r:Sl}{v:Value}{Q:Sl->P->Prop}{tk:Nat}
theorem Inv.got(I:Inv X F p V s)(G:Got X.toMd F X.env.locals s.heap h' r v):∃F',Le F F'/\Inv X F' p V { s with heap:=h',toks:=tk }/\Res X F' p V h' r v:=by
 obtain⟨k,m,q⟩:=G;cases r with
 | no=>exact q.elim
 | f t =>
  obtain⟨F',l,n,i⟩:=q;exact⟨F',l,I.more k m l n,i⟩
 | o t =>
  obtain⟨a,rfl,c,n,i⟩:=q;refine⟨F,.refl F,I.more k m (.refl F) fun _ _ e=>.inl e,a,rfl,⟨c, ?_,fun z=>?_,i⟩,fun j u e e2=>?_⟩
  .cases q:F a with
   | none=>rfl
   | some o=>rw[(I.f a o q).1]at n;cases n
  .obtain⟨o,e⟩:=I.kpAt z;rw[e]at n;cases n
  .obtain⟨b,h1,h2⟩:=I.r.ow j u e;rw[e2]at h1;cases h1;obtain⟨x,hx⟩:=h2.at;rw[hx]at n;cases n
theorem Inv.ep(I:Inv X F p V s)(G:Got X.toMd F X.env.locals s.heap h' r v)(q:Q r p):EP X F V Q v { s with heap:=h',toks:=tk }:=let ⟨F',l,I',i⟩:=I.got G;⟨F',p,r,l,I',i,q⟩
theorem EP.le{F0:OM}{s':Shared}(l:Le F0 F)(h:EP X F V Q v s'):EP X F0 V Q v s':=let ⟨F',p',r,l',h⟩:=h;⟨F',p',r,l.trans l',h⟩
theorem TP.le{F0:OM}{s':Shared}{b:Bool}{Q:Bool->P->Prop}(l:Le F0 F)(h:TP X F V Q b s'):TP X F0 V Q b s':=let ⟨F',p',l',h⟩:=h;⟨F',p',l.trans l',h⟩
end
def SE(w:W)(e:E)(X:Cx)(x:Expr):Prop:=∀(F:OM) (p:P) (j:Vs) (s:Shared) (Q:Sl->P->Prop),Inv X F p j s->wE w e p Q->WP X (eval x X.env) (EP X F j Q) s
def ST(w:W)(e:E)(X:Cx)(x:Expr)(wh:Sem Value):Prop:=∀(F:OM) (p:P) (j:Vs) (s:Shared) (Q:Bool->P->Prop),Inv X F p j s->wE w e p (fun r q=>L5 r fun b=>Q b q)->WP X (isTrue x X.env wh) (TP X F j Q) s
def Ar(X:Cx)(F:OM)(j:Vs)(a:A)(v:Value):Prop:=match a with
 | .t t=>IsT X.toMd F t v
 | .s i=>j[i]?=some (some v)
theorem Ar.up{X:Cx}{F F':OM}{j:Vs}{a:A}{v:Value}(l:Le F F')(h:Ar X F j a v):Ar X F' j a v:=by
 cases a with
 | t t=>exact IsT.up h l
 | s i=>exact h
def i9:E->Bool
 | .io _=>true
 | _=>false
def Vd:E->Bool
 | .cons a r=>!i9 a && Vd r
 | _=>true
def SH(w:W)(m:Bool)(a:E)(X:Cx)(x:Expr):Prop:=∀(F:OM) (p:P) (j:Vs) (s:Shared) (K:A->P->Prop),Inv X F p j s->wH m a p (wE w a p) K ->
 WP X (eval x X.env) (fun v s'=>∃F' p' b,Le F F'/\Inv X F' p' j s'/\Ar X F' j b v/\((m || i9 a)=false->∃t,b=.t t)/\K b p') s
def noStar:Expr->Bool
 | .Starred _ _=>false
 | _=>true
theorem Z4{e:Expr}{es:ZM}{env:Env}(h:noStar e=true):starEach (e::es) env=(false,eval e env)::starEach es env:=by
 cases e<;>first | rfl | cases h
inductive Hs(X:Cx)(w:W)(m:Bool):E->ZM->Prop
 | nil:Hs X w m .nil []
 | cons {a r:E} {x:Expr} {xs:ZM} (h:SH w m a X x) (s:noStar x=true) (t:Hs X w m r xs):Hs X w m (.cons a r) (x::xs)
def Ba(X:Cx):ZM->(ZK->Shared->Prop)->Shared->Prop
 | [],K,s=>K [] s
 | x::r,K,s=>WP X (eval x X.env) (fun v s1=>Ba X r (fun us=>K (v::us)) s1) s
section
variable{X:Cx}{w:W}{F:OM}{p:P}{V:Vs}{s:Shared}
def Vp(g:Md)(F:OM)(h:Heap)(t:T)(v:Value):Prop:=Top g F (bif C5 t then h.get? else F) t v
theorem Vp.of{g:Md}{F:OM}{h:Heap}{t:T}{v:Value}(fF:∀a o,F a=some o->h.get? a=some o)(i:IsT g F t v):Vp g F h t v:=by
 unfold Vp;cases C5 t with
 | true=>exact Top.up i (.refl F) fF
 | false=>exact i
theorem Inv.fh(I:Inv X F p V s):∀a o,F a=some o->s.heap.get? a=some o:=fun a o e=>(I.f a o e).1
theorem Inv.look{a:A}{t:T}{v:Value}(I:Inv X F p V s)(e:PV.look p a=some t)(h:Ar X F V a v):Vp X.toMd F s.heap t v:=by
 cases a with
 | t u=>cases e;exact .of I.fh h
 | s i =>
  unfold PV.look at e;dsimp only at e
  split at e
  .rename_i q
   cases e;obtain⟨v',h1,h2⟩:=I.r.fz i _ q;rw[show V[i]?=_ from h]at h1;cases h1;exact .of I.fh h2
  .rename_i q
   cases e;obtain⟨a,h1,h2⟩:=I.r.ow i _ q;rw[show V[i]?=_ from h]at h1;cases h1;unfold Vp;rw[h2.c];exact h2.t
  .cases e
theorem Inv.looks(I:Inv X F p V s):∀{as:List A} {us:ZK} {ts:ZZ},Paired (Ar X F V) as us->looks p as=some ts->Paired (Vp X.toMd F s.heap) ts us
 | _,_,_,.nil,e=>by cases e;exact .nil
 | _,_,_,.cons r t,e=>by
  obtain⟨u,e1,e⟩:=ZP.mp e;obtain⟨us,e2,rfl⟩:=Y8.mp e;exact .cons (I.look e1 r) (I.looks t e2)
theorem Bb:∀{as:List A} {us:ZK} {ts:ZZ},(∀a∈as,∃t,a=A.t t)->Paired (Ar X F V) as us->looks p as=some ts->Zs X.toMd F ts us
 | _,_,_,_,.nil,e=>by cases e;exact .nil
 | _,_,_,n,.cons r t,e=>by
  obtain⟨u,e1,e⟩:=ZP.mp e;obtain⟨us,e2,rfl⟩:=Y8.mp e;obtain⟨u',rfl⟩:=n _ Yd;cases e1;exact .cons r (Bb (fun a m=>n a (Vq _ m)) t e2)
theorem evs{m:Bool}:∀{es:E} {xs:ZM} {F:OM} {p:P} {s:Shared} {Q:List A->P->Prop} {K:ZK->Shared->Prop},Hs X w m es xs->Inv X F p V s->wR w m es p Q ->
  (∀F' p' as us s',Le F F'->Inv X F' p' V s'->Paired (Ar X F' V) as us->(m=false->Vd es=true->∀a∈as,∃t,a=A.t t)->Q as p'->K us s')->Ba X xs K s
 | _,_,F,p,s,Q,K,.nil,I,h,k=>k F p [] [] s (.refl F) I .nil (fun _ _ a m=>absurd m Td) (by cases m<;>exact h)
 | .cons a r,_,F,p,s,Q,K,.cons h1 _ t,I,h,k=>by
  have h:wH m a p (wE w a p) fun a1 p1=>wR w m r p1 fun as p2=>Q (a1::as) p2:=by cases m<;>exact h
  refine Yo (h1 F p V s _ I h) fun v s1 ⟨F1,p1,b,l1,I1,r1,n1,q1⟩=>?_;refine evs t I1 q1 fun F2 p2 as us s2 l2 I2 r2 n2 q2=>k F2 p2 (b::as) (v::us) s2 (l1.trans l2) I2 (.cons (r1.up l2) r2) (fun em en c mc=>?_) q2;have en:(!i9 a && Vd r)=true:=en;rw[Vi]at en;rcases Vt.mp mc with rfl | mc
  .exact n1 (by rw[em];simpa using en.1)
  .exact n2 em en.2 c mc
theorem Hs.star{m:Bool}:∀{es:E} {xs:ZM},Hs X w m es xs->∀x∈xs,noStar x=true
 | _,_,.nil,x,h=>absurd h Td
 | _,_,.cons h s t,x,hx=>by
  rcases Vt.mp hx with rfl | hx
  .exact s
  .exact t.star x hx
theorem Yx{pos:Pos}:∀{xs:ZM} {K:ZK->Shared->Prop} {s:Shared},(∀x∈xs,noStar x=true)->Ba X xs K s->WP X (spliced (backTo pos (starEach xs X.env))) K s
 | [],_,_,_,h=>Calls.spliced_nil h
 | x::xs,K,s,n,h=>by
  rw[Z4 (n x Yd)];show WP X (spliced ((false,eval x X.env)::backTo pos (starEach xs X.env))) _ s;exact Calls.spliced_cons (Yo h fun v s1 h1=>Yx (fun y m=>n y (Vq _ m)) h1)
theorem Yt:∀(es:ZM) (env:Env) (pos:Pos),(∀e∈es,noStar e=true)->(backTo pos (starEach es env)).any (·.1)=false
 | [],env,pos,h=>rfl
 | e::es,env,pos,h=>by
  rw[Z4 (h e Yd)];have:=Yt es env pos fun e m=>h e (Vq _ m);show (false || (backTo pos (starEach es env)).any (·.1))=false;rw[this];rfl
structure Nm(X:Cx)(i:Nat)(y:Str):Prop where
 n:X.N[i]?=some y
 d:(y == ("__debug__" : Str))=false
 c:(y == ("__classdict__" : Str))=false
theorem Th{i:Nat}{y:Str}{pos:Pos}{v:Value}{R:ZQ}(n:Nm X i y)(I:Inv X F p V s)(e:V[i]?=some (some v))(h:R v s):WP X (eval (.Name y pos) X.env) R s:=var_ok I n.n e n.d n.c h
theorem Inv.val{i:Nat}(I:Inv X F p V s)(h:done p i=true):∃v,V[i]?=some (some v):=by
 unfold done at h
 split at h
 .rename_i e;obtain⟨v,h,_⟩:=I.r.fz i _ e;exact⟨v,h⟩
 .rename_i e;obtain⟨a,h,_⟩:=I.r.ow i _ e;exact⟨_,h⟩
 .cases h
theorem yq{i:Nat}{y:Str}{pos:Pos}{m:Bool}(n:Nm X i y):SH w true (.v i) X (.Name y pos)/\SH w m (.io i) X (.Name y pos):=by
 refine⟨fun F p V s K I h=>?_,fun F p V s K I h=>?_⟩
 .have h:if true=true then (if done p i=true then K (.s i) p else False) else on (read p i) fun q=>K (.t q.1) q.2:=h
  rw[if_pos rfl]at h
  split at h
  .rename_i d
   obtain⟨v,e⟩:=I.val d;exact Th n I e ⟨F,p,.s i,.refl F,I,e,(fun z=>nomatch z),h⟩
  .exact h.elim
 .have h:if done p i=true then K (.s i) p else False:=h
  split at h
  .rename_i d
   obtain⟨v,e⟩:=I.val d;exact Th n I e ⟨F,p,.s i,.refl F,I,e,(fun z=>by rw[show i9 (.io i)=true from rfl,Bool.or_true]at z;cases z),h⟩
  .exact h.elim
theorem EP.t{v:Value}{s':Shared}{K:T->P->Prop}(h:EP X F V (fun r q=>My r fun t=>K t q) v s'):∃F' p' t,Le F F'/\Inv X F' p' V s'/\IsT X.toMd F' t v/\K t p':=by
 obtain⟨F1,p1,r,l1,I1,rs,q⟩:=h;cases r with
 | no=>exact q.elim
 | f t=>exact⟨F1,p1,t,l1,I1,rs,q⟩
 | o t=>obtain⟨F2,l2,I2,i⟩:=I1.thaw rfl rs;exact⟨F2,p1,t,l1.trans l2,I2,i,q⟩
theorem yw{a:E}{x:Expr}{m:Bool}(h:SE w a X x)(e:∀p K,wH m a p (wE w a p) K->wE w a p fun r q=>My r fun t=>K (.t t) q):SH w m a X x:=fun F p V s K I hw =>
 Yo (h F p V s _ I (e p K hw)) fun v s1 q=>let ⟨F1,p1,t,l,I1,i,k⟩:=q.t;⟨F1,p1,.t t,l,I1,i,fun _=>⟨t,rfl⟩,k⟩
theorem sh_v{i:Nat}{x:Expr}(h:SE w (.v i) X x):SH w false (.v i) X x:=yw h fun p K hw=>by
 have hw:on (read p i) fun q=>K (.t q.1) q.2:=hw;obtain⟨q,e,hw⟩:=Zi hw;exact Zm e hw
theorem sh_of{a:E}{x:Expr}{m:Bool}(h1:∀i,a≠.io i)(h2:∀i,a≠.v i)(h:SE w a X x):SH w m a X x:=yw h fun p K hw=>by
 cases a<;>first | exact hw | exact absurd rfl (h1 _) | exact absurd rfl (h2 _)
theorem se_v{i:Nat}{y:Str}{pos:Pos}(n:Nm X i y):SE w (.v i) X (.Name y pos):=fun F p V s Q I h=>by
 obtain⟨⟨t,p'⟩,e,h⟩:=Zi (show on (read p i) fun q=>Q (.f q.1) q.2 from h);obtain⟨F',v,l,I',e1,i1⟩:=I.readAt e;exact Th n I e1 ⟨F',p',.f t,l,I',i1,h⟩
theorem se_mv{i:Nat}{y:Str}{pos:Pos}(n:Nm X i y):SE w (.mv i) X (.Name y pos):=fun F p V s Q I h=>by
 unfold wE at h
 split at h
 .rename_i t e
  obtain⟨a,h1,h2⟩:=I.r.ow i t e;refine Th n I h1 ⟨F,_,.o t,.refl F,I.drop i,⟨a,rfl,h2,fun j u e1 e2=>?_⟩,h⟩;rcases Yw e1 with ⟨_,z⟩ | ⟨ne,e1⟩
  .cases z
  .exact ne (I.r.ap j i u t a e1 e e2 h1)
 .rename_i t e
  obtain⟨v,h1,h2⟩:=I.r.fz i t e;exact Th n I h1 ⟨F,p,.f t,.refl F,I,h2,h⟩
 .exact h.elim
theorem se_k{t:T}{k:Const}{j:Nat}{pos:Pos}(h:(t=.non/\k=.none)\/(∃b,t=.bl b/\k=.bool b)\/(∃i,t=.int i/\k=.int i)\/∃x,t=.str x/\k=.str x):SE w (.k t) X (.Constant k j pos):=fun F p V s Q I q=>by
 have q:Q (.f t) p:=q;rcases h with ⟨rfl,rfl⟩ | ⟨b,rfl,rfl⟩ | ⟨i,rfl,rfl⟩ | ⟨x,rfl,rfl⟩
 .exact Constant_none ⟨F,p,.f _,.refl F,I,Top.non,q⟩
 .exact Constant_bool ⟨F,p,.f _,.refl F,I,Top.bl,q⟩
 .exact wpAny_Constant_int ⟨F,p,.f _,.refl F,I.tok _,Top.int,q⟩
 .exact Calls.Constant_str ⟨F,p,.f _,.refl F,I.tok _,Top.str,q⟩
variable{a b c:E}{x y z:Expr}{r:ZM}{pos:Pos}
theorem onB_is{q:Sl}{Q:Bool->Prop}(h:L5 q Q):∃b,q=.f (.bl b)/\Q b:=by
 unfold L5 at h
 split at h
 .exact⟨_,rfl,h⟩
 .exact h.elim
theorem EP.bo{v:Value}{s':Shared}{K:Bool->P->Prop}(h:EP X F V (fun r q=>L5 r fun t=>K t q) v s'):∃F' p' b,Le F F'/\Inv X F' p' V s'/\v=.bool b/\K b p':=by
 obtain⟨F1,p1,r,l1,I1,rs,q⟩:=h;obtain⟨b,rfl,q⟩:=onB_is q;cases(show IsT X.toMd F1 (.bl b) v from rs);exact⟨F1,p1,b,l1,I1,rfl,q⟩
theorem se_and(ha:SE w a X x)(hb:SE w b X (.BoolOp .And (y::r) pos)):SE w (.and a b) X (.BoolOp .And (x::y::r) pos):=fun F p V s Q I h=>by
 refine BoolOp_and (Yo (ha F p V s _ I h) fun v s1 q=>?_);obtain⟨F1,p1,c,l,I1,rfl,k⟩:=q.bo;refine wpAny_truthy_bool ?_;cases c with
 | true=>exact Yo (hb F1 p1 V s1 Q I1 k) fun v s2 q=>q.le l
 | false=>exact⟨F1,p1,.f _,l,I1,Top.bl,k⟩
theorem se_or(ha:SE w a X x)(hb:SE w b X (.BoolOp .Or (y::r) pos)):SE w (.or a b) X (.BoolOp .Or (x::y::r) pos):=fun F p V s Q I h=>by
 refine BoolOp_or (Yo (ha F p V s _ I h) fun v s1 q=>?_);obtain⟨F1,p1,c,l,I1,rfl,k⟩:=q.bo;refine wpAny_truthy_bool ?_;cases c with
 | false=>exact Yo (hb F1 p1 V s1 Q I1 k) fun v s2 q=>q.le l
 | true=>exact⟨F1,p1,.f _,l,I1,Top.bl,k⟩
theorem yb{op:BoolOp}(h:SE w a X x):SE w a X (.BoolOp op [x] pos):=fun F p V s Q I hw=>BoolOp_one (h F p V s Q I hw)
theorem se_not(ha:SE w a X x):SE w (.not a) X (.UnaryOp .Not x pos):=fun F p V s Q I h=>by
 refine UnaryOp_ (Yo (ha F p V s _ I h) fun v s1 q=>?_);obtain⟨F1,p1,c,l,I1,rfl,k⟩:=q.bo;exact not_of (wpAny_truthy_bool ⟨F1,p1,.f _,l,I1,Top.bl,k⟩)
theorem se_ite(hc:ST w c X z (eval z X.env))(ha:SE w a X x)(hb:SE w b X y):SE w (.ite c a b) X (.IfExp z x y pos):=fun F p V s Q I h=>by
 refine wpAny_IfExp (Yo (hc F p V s _ I h) fun d s1 ⟨F1,p1,l,I1,k⟩=>?_);cases d with
 | true=>exact Yo (ha F1 p1 V s1 Q I1 k) fun v s2 q=>q.le l
 | false=>exact Yo (hb F1 p1 V s1 Q I1 k) fun v s2 q=>q.le l
theorem vi(h:SE w a X x)(he:∀whole,isTrue x X.env whole=(do let v <-whole;standAt x.pos;holding [v] (truthy v))):ST w a X x (eval x X.env):=fun F p V s Q I hw=>by
 refine isTrue_plain (Yo (h F p V s _ I hw) fun v s1 q=>?_) (he _);obtain⟨F1,p1,c,l,I1,rfl,k⟩:=q.bo;exact wpAny_truthy_bool ⟨F1,p1,l,I1,k⟩
theorem sg{wh wh':Sem Value}(ha:ST w a X x wh)(e:wh=eval x X.env):ST w a X (.BoolOp .And [x] pos) wh':=fun F p V s Q I h=>by
 subst e;refine isTrue_and (Yo (ha F p V s Q I h) fun c s1 e=>?_);cases c with
 | true=>exact isTrue_and_nil e
 | false=>exact e
theorem st_or1{wh wh':Sem Value}(ha:ST w a X x wh)(e:wh=eval x X.env):ST w a X (.BoolOp .Or [x] pos) wh':=fun F p V s Q I h=>by
 subst e;refine isTrue_or (Yo (ha F p V s Q I h) fun c s1 e=>?_);cases c with
 | false=>exact isTrue_or_nil e
 | true=>exact e
theorem st_and{wh:Sem Value}(ha:ST w a X x (eval x X.env))(hb:∀wh,ST w b X (.BoolOp .And (y::r) pos) wh):ST w (.and a b) X (.BoolOp .And (x::y::r) pos) wh:=fun F p V s Q I h=>by
 refine isTrue_and (Yo (ha F p V s _ I h) fun c s1 ⟨F1,p1,l,I1,k⟩=>?_);cases c with
 | true=>exact Yo (hb wh F1 p1 V s1 Q I1 k) fun v s2 q=>q.le l
 | false=>exact⟨F1,p1,l,I1,k⟩
theorem st_or{wh:Sem Value}(ha:ST w a X x (eval x X.env))(hb:∀wh,ST w b X (.BoolOp .Or (y::r) pos) wh):ST w (.or a b) X (.BoolOp .Or (x::y::r) pos) wh:=fun F p V s Q I h=>by
 refine isTrue_or (Yo (ha F p V s _ I h) fun c s1 ⟨F1,p1,l,I1,k⟩=>?_);cases c with
 | true=>exact⟨F1,p1,l,I1,k⟩
 | false=>exact Yo (hb wh F1 p1 V s1 Q I1 k) fun v s2 q=>q.le l
theorem st_not{wh:Sem Value}(ha:ST w a X x (eval x X.env)):ST w (.not a) X (.UnaryOp .Not x pos) wh:=fun F p V s Q I h=>isTrue_not (Yo (ha F p V s (fun c q=>Q (!c) q) I h) fun c s1 e=>e)
variable{es:E}{xs:ZM}
theorem se_tup{j:Nat}(hs:Hs X w false es xs)(n:Vd es=true):SE w (.tup es) X (.Tuple xs j pos):=fun F p V s Q I h=>by
 refine wpAny_Tuple_spliced (Yx hs.star (evs hs I h fun F1 p1 as us s1 l I1 ar nt q=>?_));obtain⟨ts,e,q⟩:=Zi q;have r:=Bb (nt rfl n) ar e
 split at q
 .rename_i z
  have z:us.length<=sizeLine:=by rw[<-r.length];exact z
  exact⟨z,(I1.ep (tk:=s1.toks) (.tup I1.fh r z) q).le l⟩
 .exact q.elim
theorem se_lst(hs:Hs X w false es xs)(n:Vd es=true):SE w (.lst es) X (.List xs pos):=fun F p V s Q I h=>by
 refine wpAny_List_spliced (Yx hs.star (evs hs I h fun F1 p1 as us s1 l I1 ar nt q=>?_));obtain⟨ts,e,q⟩:=Zi q;have r:=Bb (nt rfl n) ar e
 split at q
 .rename_i z
  have z:us.length<=sizeLine:=by rw[<-r.length];exact z
  exact⟨z,(I1.ep (tk:=s1.toks) (.lst r z) q).le l⟩
 .exact q.elim
theorem Li{q:Pr}{Q:Sl->P->Prop}{K:ZK->Shared->Prop}(hs:Hs X w true es xs)(I:Inv X F p V s)(h:wE w (.pr q es) p Q)(k:∀F' p' ts us s' r,Le F F'->Inv X F' p' V s'->Paired (Vp X.toMd F' s'.heap) ts us->L1 q ts=some r->Q r p'->K us s'):Ba X xs K s :=
 evs hs I h fun F1 p1 as us s1 l I1 ar _ q=>by
  obtain⟨ts,e,q⟩:=Zi q;obtain⟨r,e2,q⟩:=Zi q;exact k F1 p1 ts us s1 r l I1 (I1.looks ar e) e2 q
end
noncomputable def opOf:Op->Operator
 | .add=>.Add
 | .sub=>.Sub
 | .mul=>.Mult
 | .fdiv=>.FloorDiv
 | .mod=>.Mod
 | .pow=>.Pow
noncomputable def Wv:Cm->CmpOp
 | .eq=>.Eq
 | .ne=>.NotEq
 | .lt=>.Lt
 | .le=>.LtE
 | .gt=>.Gt
 | .ge=>.GtE
 | .isin=>.In
 | .notin=>.NotIn
 | .is=>.Is
 | .isnt=>.IsNot
section
variable{g:Md}{F:OM}{D:OM}{A:Around}{R:ZQ}{E:ZQ}{s:Shared}{h:Heap}{t t':T}{u v:Value}{r:Sl}{a L:Addr}{o:Obj}{us:ZK}
theorem Cg.is{us:ZK}(k:Cg o us)(e:h.get? a=some o):IsTup h a us.toArray:=⟨o,e,k.c,k.s⟩
theorem Lr.at{us:ZK}(k:Lr o us)(e:h.get? a=some o):∃n,h.get? a=some { cls:=.type "list",data:=.seq us.toArray n }:=let ⟨_,n,q⟩:=k;⟨n,q ▸ e⟩
theorem Lr.is{us:ZK}(k:Lr o us)(e:h.get? a=some o):h.IsList a us.toArray:=by
 obtain⟨n,q⟩:=k.at e;exact⟨_,q,rfl,⟨n,rfl⟩⟩
theorem Ls.is{vs:List (Key×Value)}(k:Ls g a o vs)(e:h.get? a=some o):h.DictOf (Zf g.prog g.w) a vs:=let ⟨es,ep,d,c,q⟩:=k.es;⟨o,es,ep,e,k.ex,d,c,q,k.nd⟩
abbrev Ok(g:Md)(F:OM)(L:Addr)(s:Shared)(r:Sl)(R:ZQ):Prop:=∀h' v t,Got g F L s.heap h' r v->R v { s with heap:=h',toks:=t }
theorem V3(fF:∀a o,F a=some o->s.heap.get? a=some o){ts:ZZ}(h:IsT g F (.tup ts) v):∃a us,v=.ref a/\us.length<=sizeLine/\IsTup s.heap a us.toArray/\Zs g F ts us :=
 let ⟨a,o,us,e,h1,k,r⟩:=h.unT
 ⟨a,us,e,k.z,k.is (fF a o h1),r⟩
theorem Jd{ts:ZZ}(h:Vp g F s.heap (.lst ts) v):∃a us n,v=.ref a/\us.length<=sizeLine/\s.heap.get? a=some { cls:=.type "list",data:=.seq us.toArray n }/\Zs g F ts us :=
 let ⟨a,o,us,e,h1,k,r⟩:=Top.unL h
 let ⟨n,q⟩:=k.at h1
 ⟨a,us,n,e,k.1,q,r⟩
theorem Tz{XY:ZX}(h:Vp g F s.heap (.dct XY) v):∃a vs,v=.ref a/\vs.length<=sizeLine/\(a == sysModules)=false/\s.heap.DictOf (Zf g.prog g.w) a vs/\Yz g F XY vs :=
 let ⟨a,o,vs,e,h1,k,r⟩:=Top.unD h
 ⟨a,vs,e,k.z,k.ns,k.is h1,r⟩
theorem Xf{j l:Type}{R:j->l->Prop}{as:List j}{bs:List l}(h:Paired R as bs):∀n:Nat,Paired R (List.replicate n as).flatten (List.replicate n bs).flatten
 | 0=>.nil
 | n+1=>by
  rw[List.replicate_succ,List.replicate_succ,List.flatten_cons,List.flatten_cons];exact Ji h (Xf h n)
theorem fx{i:Str}{n:Int}{w w':Tok}(n0:0<=n)(n1:n<=1000)(i1:i.length<=1000)(q:∀t k,R (.str (repS i n.toNat) t) { s with toks:=k }):wpAny (model g.prog g.w) A (binaryOp .Mult (.str i w) (.int n w')) R E s:=by
 have hm:i.length * n.toNat<=1000000:=Gs (Nat.mul_le_mul i1 (show n.toNat<=1000 by omega)) (by decide);by_cases c1:n<1
 .have:n=0:=by omega
  subst this;exact PySem.P.mul_str_none (by decide) (by decide) (q _ _)
 by_cases c2:(n == 1 || i.length == 0)=true
 .have e:repS i n.toNat=i:=by
   rw[Bool.or_eq_true,beq_iff_eq,beq_iff_eq]at c2
   have:(repS i n.toNat).cps.toList=i.cps.toList:=by
    rw[Rm];rcases c2 with rfl | c2
    .simp
    .have:i.cps.toList=[]:=List.eq_nil_of_length_eq_zero (by have:i.cps.size=0:=c2;simpa using this);rw[this];simp
   cases i;cases hr:repS _ n.toNat;rw[hr]at this;simp at this;simp[this]
  rw[e]at q;refine PySem.P.mul_str ?_ (fun _ z=>?_) (fun _ z=>?_) ?_
  .rw[Bool.or_eq_false_iff];exact⟨C9 (by omega),C9 (by omega)⟩
  .rw[c2]at z;cases z
  .rw[c2]at z;cases z
  .rw[if_neg c1,if_pos c2];exact q _ s.toks
 .have c2':=c2;rw[Bool.or_eq_true,beq_iff_eq,beq_iff_eq]at c2';refine PySem.P.mul_str ?_ (fun _ _=>?_) (fun _ _=>?_) ?_
  .rw[Bool.or_eq_false_iff];exact⟨C9 (by omega),C9 (by omega)⟩
  .intro z;have h2:=(Int.le_ediv_iff_mul_le (show (0:Int)<n by omega)).mpr (show (1000:Int) * n<=2 ^ 63 - 1 by omega);omega
  .exact C9 (Nat.not_lt_of_le (Gs hm (by decide)))
  .rw[if_neg c1,if_neg c2];exact⟨by show (repS i n.toNat).length<=_;rw[ye,Nat.mul_comm];exact Gs hm (by decide),q _ _⟩
theorem oi{l:Addr}{k:Int}{w:Tok}{n:Nat}(e:s.heap.get? l=some { cls:=.type "list",data:=.seq us.toArray n })(h1:-(2 ^ 63)<=k)(h2:k<2 ^ 63)(hz:us.length * k.toNat<=sizeLine)
  (q:R (.ref s.heap.objs.size) { s with heap:=s.heap.push { cls:=.type "list",data:=.seq (List.replicate k.toNat us).flatten.toArray } }):wpAny (model g.prog g.w) A (binaryOp .Mult (.ref l) (.int k w)) R E s:=by
 have hlen:us.toArray.size * k.toNat<=sizeLine:=by rw[Jv];exact hz
 have hcap:¬ us.toArray.size * k.toNat>(2 ^ 63 - 1) / 8:=by
  have:(sizeLine:Nat)<=(2 ^ 63 - 1) / 8:=by decide
  omega
 have W8:¬ (!Builtin.List.listFitsIndex k)=true:=by
  rw[fitsIndex_both h1 h2];exact Ox
 have hlong:¬ Builtin.List.listTooLong (us.toArray.size * k.toNat)=true:=by
  rw[gf hlen];exact Ox
 have hnew:List.foldl (fun x1 x2=>x1++x2) #[] (List.replicate (if us.toArray.isEmpty=true then 0 else k.toNat) us.toArray)=(List.replicate k.toNat us).flatten.toArray:=by
  have f0:∀m:Nat,List.foldl (fun x1 x2=>x1++x2) #[] (List.replicate m us.toArray)=(List.replicate m us).flatten.toArray:=fun m=>by
   have:=foldl_rep us m [];rw[List.nil_append]at this;exact this
  rw[f0];cases us with
  | nil=>simp
  | cons a r'=>rw[if_neg (by simp)]
 refine wpAny_binaryOp_repeat_ref (T:="list") (U:="int") (by decide) ⟨_,e,rfl⟩ (fun s'=>typeIs_int s' k w) noFill_list_mul F.fills_int_mul F.slot_int_rmul repeat_list F.slot_int_index.lookup
  (call_meets F.slot_int_rmul (typeIs_int s k w) F.entry_int_rmul (F.args_int_rmul_2 _ _) (int___rmul___int_list k w l us.toArray n)
   ⟨e,rfl,⟨_,e,rfl⟩,call_meets F.slot_list_mul ⟨_,e,rfl⟩ F.entry_list_mul (F.args_list_mul_2 _ _) (AutoListH.list___mul___list_int_3 l us.toArray n k w W8 hcap hlong) ⟨e, ?_⟩⟩)
 rw[hnew];exact q
theorem C2{f:Int->Int->Option Sl}(h:me f t t'=some r):∃a b,t=.int a/\t'=.int b/\f a b=some r:=by
 cases t<;>first | cases h | skip
 cases t'<;>first | cases h | skip
 exact⟨_,_,rfl,rfl,h⟩
theorem op_run(o:Op)(fF:∀a o,F a=some o->s.heap.get? a=some o)(s1:Vp g F s.heap t u)(s2:Vp g F s.heap t' v)(e:lq o t t'=some r)(k:Ok g F L s r R):wpAny (model g.prog g.w) A (binaryOp (opOf o) u v) R E s:=by
 have fi:∀{i tk},r=.f (.int i)->R (.int i s.toks) { s with toks:=tk }:=fun {i tk} q=>k s.heap _ tk (by rw[q];exact .sc .int);cases o with
 | add =>
  have e:addT t t'=some r:=e;cases t with
  | int a=>cases t'<;>cases e;cases s1;cases s2;exact add_int (fi rfl)
  | bl a=>cases t'<;>cases e;cases s1;cases s2;exact IntBool.add_bool_int (fi rfl)
  | str a =>
   cases t'<;>first | cases e | skip
   cases s1;cases s2;obtain⟨hz,e⟩:=Option.ite_none_right_eq_some.mp e;cases e;exact add_str (fun t tk=>k s.heap _ tk (.sc .str)) hz
  | lst a =>
   cases t'<;>first | cases e | skip
   obtain⟨hz,e⟩:=Option.ite_none_right_eq_some.mp e;cases e;obtain⟨p,us,n,rfl,z1,h1,r1⟩:=Jd s1;obtain⟨q,ws,m,rfl,z2,h2,r2⟩:=Jd s2;have l1:=r1.length;have l2:=r2.length;refine PySem.P.add_list h1 h2 ?_ (by rw[Jv,Jv];omega);rw[show us.toArray++ws.toArray=(us++ws).toArray by simp];exact k _ _ s.toks (.lst (Ji r1 r2) (by rw[Gc];omega))
  | tup a =>
   cases t'<;>first | cases e | skip
   obtain⟨hz,e⟩:=Option.ite_none_right_eq_some.mp e;cases e;obtain⟨p,us,rfl,z1,h1,r1⟩:=V3 fF s1;obtain⟨q,ws,rfl,z2,h2,r2⟩:=V3 fF s2;have l1:=r1.length;have l2:=r2.length;by_cases eu:us=[]
   .subst eu;cases r1;obtain⟨⟨c1,d1,t1,Qy⟩,o1,k1,n1,m1⟩:=id h1;obtain⟨⟨c2,d2,t2,Ki⟩,o2,k2,n2,m2⟩:=id h2;simp only at k1 m1 k2 m2;subst k1 m1 k2 m2;exact concat_meets ⟨_,o1,rfl⟩ ⟨_,o2,rfl⟩ noFill_tuple_add seq_tuple_add PySem.F.slot_tuple_add PySem.F.entry_tuple_add (PySem.F.args_tuple_add_2 _ _) (tuple_addW0 p q _ _ n1 n2 d1 d2 Qy Ki rfl) ⟨o1,o2,k s.heap _ s.toks (.sc s2)⟩
   .refine HT.Zze h1 h2 eu (fun ew=>?_) (fun ew=>k _ _ s.toks (.tup fF (Ji r1 r2) (by rw[Gc];omega))) (by omega);subst ew;cases r2;rw[ZE]at k;exact k s.heap _ s.toks (.sc s1)
  | _=>cases e
 | sub=>obtain⟨a,b,rfl,rfl,e⟩:=C2 e;cases e;cases s1;cases s2;exact sub_int (fi rfl)
 | mul =>
  have e:mulT t t'=some r:=e;cases t with
  | int a =>
   cases t'<;>first | cases e | skip
   cases s1;cases s2;obtain⟨hz,e⟩:=Option.ite_none_right_eq_some.mp e;cases e;exact mul_int (fi rfl) (hz.elim (fun⟨a,b⟩=>.of_left (intBits_le_64 a b)) fun⟨a,b⟩=>.of_right (intBits_le_64 a b))
  | str a =>
   cases t'<;>first | cases e | skip
   cases s1;cases s2;obtain⟨hz,e⟩:=Option.ite_none_right_eq_some.mp e;cases e;exact fx hz.1 hz.2.1 hz.2.2 fun t tk=>k s.heap _ tk (.sc .str)
  | lst a =>
   cases t'<;>first | cases e | skip
   cases s2;obtain⟨hz,e⟩:=Option.ite_none_right_eq_some.mp e;cases e;obtain⟨p,us,n,rfl,z1,h1,r1⟩:=Jd s1;refine oi h1 hz.1 hz.2.1 (by rw[<-r1.length];exact hz.2.2) (k _ _ s.toks (.lst (Xf r1 _) (by rw[len_rep, <-r1.length,Nat.mul_comm];exact hz.2.2)))
  | _=>cases e
 | fdiv =>
  obtain⟨a,b,rfl,rfl,e⟩:=C2 e;cases s1;cases s2;obtain⟨hz,e⟩:=Option.ite_none_right_eq_some.mp e;cases e;exact floordiv_int (by omega) (by rw[Int.fdiv_eq_ediv_of_nonneg a (by omega)];exact fi rfl) (.inl (PyProof.noPylong_small (by omega)))
 | mod =>
  obtain⟨a,b,rfl,rfl,e⟩:=C2 e;cases s1;cases s2;obtain⟨hz,e⟩:=Option.ite_none_right_eq_some.mp e;cases e;exact mod_int' (by omega) (by rw[Int.fmod_eq_emod_of_nonneg a (by omega)];exact fi rfl)
 | pow =>
  obtain⟨a,b,rfl,rfl,e⟩:=C2 e;cases s1;cases s2;obtain⟨hz,e⟩:=Option.ite_none_right_eq_some.mp e;cases e;exact pow_int_small hz.1 hz.2.1 hz.2.2 (fi rfl)
end
section
variable{g:Md}{F:OM}{A:Around}{R:ZQ}{E:ZQ}{s:Shared}{t t':T}{u v:Value}{r:Sl}{a:Addr}{us:ZK}
theorem Ag{b:Bool}(hu:A.units<cLine)(fF:∀a o,F a=some o->s.heap.get? a=some o)(s1:IsT g F t u)(s2:IsT g F t' v)(fb:Nl t'=true)(h:j5 t t'=some b) :
  SeqAt.EqAt A s u v b/\SeqAt.RcAt A s u v b/\SeqAt.RcNeAt A s u v (!b)/\(u=v->b=true):=by
 cases t with
 | tup ts =>
  obtain⟨p,us,rfl,_,tp,_⟩:=V3 fF s1;cases t' with
  | non=>cases s2;cases h;exact⟨.tuple_none tp hu,.tuple_none tp hu,.tuple_none tp hu,fun z=>nomatch z⟩
  | bl c=>cases s2;cases h;exact⟨.tuple_bool _ tp hu,.tuple_bool _ tp hu,.tuple_bool _ tp hu,fun z=>nomatch z⟩
  | int c=>cases s2;cases h;exact⟨.tuple_int _ _ tp hu,.tuple_int _ _ tp hu,.tuple_int _ _ tp hu,fun z=>nomatch z⟩
  | str c=>cases s2;cases h;exact⟨.tuple_str _ _ tp hu,.tuple_str _ _ tp hu,.tuple_str _ _ tp hu,fun z=>nomatch z⟩
  | _=>cases fb
 | non =>
  cases s1;cases t' with
  | non=>cases s2;cases h;exact⟨.same _,.none_none,.none_none,fun _=>rfl⟩
  | bl c=>cases s2;cases h;exact⟨.none_bool _,.none_bool _,.none_bool _,fun z=>nomatch z⟩
  | int c=>cases s2;cases h;exact⟨.none_int _ _,.none_int _ _,.none_int _ _,fun z=>nomatch z⟩
  | str c=>cases s2;cases h;exact⟨.none_str _ _,.none_str _ _,.none_str _ _,fun z=>nomatch z⟩
  | _=>cases fb
 | bl a =>
  cases s1;cases t' with
  | non=>cases s2;cases h;exact⟨.bool_none _,.bool_none _,.bool_none _,fun z=>nomatch z⟩
  | bl c=>cases s2;cases h;exact⟨.bool_bool _ _,.bool_bool _ _,.bool_bool _ _,fun z=>by cases z;exact B0s _⟩
  | int c=>cases s2;cases h;exact⟨.bool_int _ _ _,.bool_int _ _ _,.bool_int _ _ _,fun z=>nomatch z⟩
  | str c=>cases s2;cases h;exact⟨.bool_str _ _ _,.bool_str _ _ _,.bool_str _ _ _,fun z=>nomatch z⟩
  | _=>cases fb
 | int a =>
  cases s1;cases t' with
  | non=>cases s2;cases h;exact⟨.int_none _ _,.int_none _ _,.int_none _ _,fun z=>nomatch z⟩
  | bl c=>cases s2;cases h;exact⟨.int_bool _ _ _,.int_bool _ _ _,.int_bool _ _ _,fun z=>nomatch z⟩
  | int c=>cases s2;cases h;exact⟨.int_int _ _ _ _,.int_int _ _ _ _,.int_int _ _ _ _,fun z=>by cases z;exact B0s _⟩
  | str c=>cases s2;cases h;exact⟨.int_str _ _ _ _,.int_str _ _ _ _,.int_str _ _ _ _,fun z=>nomatch z⟩
  | _=>cases fb
 | str a =>
  cases s1;cases t' with
  | non=>cases s2;cases h;exact⟨.str_none _ _,.str_none _ _,.str_none _ _,fun z=>nomatch z⟩
  | bl c=>cases s2;cases h;exact⟨.str_bool _ _ _,.str_bool _ _ _,.str_bool _ _ _,fun z=>nomatch z⟩
  | int c=>cases s2;cases h;exact⟨.str_int _ _ _ _,.str_int _ _ _ _,.str_int _ _ _ _,fun z=>nomatch z⟩
  | str c=>cases s2;cases h;exact⟨.str_str _ _ _ _,.str_str _ _ _ _,.str_str _ _ _ _,fun z=>by cases z;exact B0s _⟩
  | _=>cases fb
 | _=>cases h
theorem Et{b:Bool}(h:eqT t t'=some b):Nl t'=true/\j5 t t'=some b:=by
 unfold eqT at h
 split at h
 .cases h;exact⟨rfl,congrArg some (Bool.beq_eq_decide_eq _ _)⟩
 .cases h;exact⟨rfl,congrArg some (Bool.beq_eq_decide_eq _ _)⟩
 .split at h
  .exact⟨‹_›,h⟩
  .cases h
theorem eqF_c{b:Bool}(h:j5 t t'=some b):C5 t=false:=by cases t<;>first | rfl | cases h
theorem Bo(c:C5 t=false)(h:Vp g F s.heap t u):IsT g F t u:=by unfold Vp at h;rw[c]at h;exact h
theorem H8(h:Nl t=true):C5 t=false:=by cases t<;>first | rfl | cases h
theorem Dl{as:ZZ}(h:Om t=some as):t=.tup as:=by cases t<;>cases h;rfl
theorem Of{h:Heap}{p:Addr}{a b:ZK}(x:IsTup h p a.toArray)(y:IsTup h p b.toArray):a=b:=by
 obtain⟨o,e,_,n,d⟩:=x;obtain⟨o',e',_,n',d'⟩:=y;rw[e]at e';cases e';rw[d]at d';cases d';rfl
theorem Og{p q:Addr}(hu:A.units<cLine)(tp:IsTup s.heap p us.toArray)(tq:IsTup s.heap q #[]):SeqAt.RcAt A s (.ref p) (.ref q) us.isEmpty/\SeqAt.RcNeAt A s (.ref p) (.ref q) (!us.isEmpty):=by
 have ev:((List.range (min us.toArray.size (#[]:ZD).size)).all (fun _=>true) && us.toArray.size == (#[]:ZD).size)=us.isEmpty:=by cases us<;>simp
 rw[<-ev];exact⟨.tuples (e:=fun _=>true) tp tq hu fun j _ h2=>absurd h2 (by simp),.tuples (e:=fun _=>true) tp tq hu fun j _ h2=>absurd h2 (by simp)⟩
theorem te{b:Bool}(hu:A.units<cLine)(fF:∀a o,F a=some o->s.heap.get? a=some o)(s1:IsT g F t u)(s2:IsT g F t' v)(h:eq1 t t'=some b):SeqAt.EqAt A s u v b/\(u=v->b=true):=by
 unfold eq1 at h
 split at h
 .obtain⟨h1,h2⟩:=Et h;obtain⟨q1,_,_,q2⟩:=Ag hu fF s1 s2 h1 h2;exact⟨q1,q2⟩
 .rename_i bs hb
  cases Dl hb
  split at h
  .rename_i he
   obtain rfl:=List.isEmpty_iff.mp he;obtain⟨q,ws,rfl,_,tq,rw'⟩:=V3 fF s2;cases rw'
   split at h
   .rename_i as ha
    cases Dl ha;cases h;obtain⟨p,vs,rfl,_,tp,rv⟩:=V3 fF s1;have l:as.isEmpty=vs.isEmpty:=by cases rv<;>rfl
    rw[l];by_cases z:p=q
    .subst z;rw[Of tp tq];exact⟨.same _,fun _=>rfl⟩
    .exact⟨.of_refs z (Og hu tp tq).1,fun e=>by cases e;exact absurd rfl z⟩
   .split at h
    .rename_i hf
     cases h;cases t with
     | non=>cases s1;exact⟨.none_tuple tq hu,fun z=>nomatch z⟩
     | bl _=>cases s1;exact⟨.bool_tuple _ tq hu,fun z=>nomatch z⟩
     | int _=>cases s1;exact⟨.int_tuple _ _ tq hu,fun z=>nomatch z⟩
     | str _=>cases s1;exact⟨.str_tuple _ _ tq hu,fun z=>nomatch z⟩
     | _=>cases hf
    .cases h
  .cases h
theorem u5(e:Nat->Bool)(n m:Nat):((List.range (min (n+1) (m+1))).all e && n+1 == m+1)=(e 0 && ((List.range (min n m)).all (fun j=>e (j+1)) && n == m)):=by
 rw[show min (n+1) (m+1)=min n m+1 by omega,List.range_succ_eq_map,List.all_cons,List.all_map,Bool.and_assoc,show (n+1 == m+1)=(n == m) by rw[Bool.eq_iff_iff];simp]
 rfl
theorem X8(hu:A.units<cLine)(fF:∀a o,F a=some o->s.heap.get? a=some o):∀{as bs:ZZ} {us zs:ZK} {b:Bool},th as bs=some b->Zs g F as us->Zs g F bs zs ->
  ∃e:Nat->Bool,(∀(j:Nat) (h1:j<us.length) (h2:j<zs.length),SeqAt.EqAt A s us[j] zs[j] (e j))/\((List.range (min us.length zs.length)).all e && us.length == zs.length)=b/\(us=zs->b=true)
 | _,_,_,_,b,h,.nil,.nil=>by cases h;exact⟨fun _=>true,fun j h1=>absurd h1 (Nat.not_lt_zero j),rfl,fun _=>rfl⟩
 | _,_,_,_,b,h,.nil,.cons _ _=>by cases h;exact⟨fun _=>true,fun j h1=>absurd h1 (Nat.not_lt_zero j),rfl,fun z=>nomatch z⟩
 | _,_,_,_,b,h,.cons _ _,.nil=>by cases h;exact⟨fun _=>true,fun j _ h2=>absurd h2 (Nat.not_lt_zero j),rfl,fun z=>nomatch z⟩
 | _,_,u::us,z::zs,b,h,.cons r1 t1,.cons r2 t2=>by
  obtain⟨x,e1,h⟩:=ZP.mp h;obtain⟨b',e2,rfl⟩:=Y8.mp h;obtain⟨e,g1,g2,g3⟩:=X8 hu fF e2 t1 t2;obtain⟨k1,k2⟩:=te hu fF r1 r2 e1;refine⟨fun j=>match j with | 0=>x | j+1=>e j,fun j h1 h2=>?_, ?_,fun ev=>?_⟩
  .cases j with
   | zero=>exact k1
   | succ j=>exact g1 j (Nat.lt_of_succ_lt_succ h1) (Nat.lt_of_succ_lt_succ h2)
  .show ((List.range (min (us.length+1) (zs.length+1))).all _ && us.length+1 == zs.length+1)=_;rw[u5, <-g2]
  .cases ev;rw[k2 rfl,g3 rfl];rfl
theorem rcTs{b:Bool}{as bs:ZZ}(hu:A.in1.units<cLine)(fF:∀a o,F a=some o->s.heap.get? a=some o)(s1:IsT g F (.tup as) u)(s2:IsT g F (.tup bs) v)(h:th as bs=some b):SeqAt.RcAt A s u v b/\SeqAt.RcNeAt A s u v (!b)/\(u=v->b=true):=by
 obtain⟨p,us,rfl,_,tp,r1⟩:=V3 fF s1;obtain⟨q,zs,rfl,_,tq,r2⟩:=V3 fF s2;obtain⟨e,g1,g2,g3⟩:=X8 (A:=A.in1) hu fF h r1 r2;have h1:=SeqAt.RcAt.tuples (A:=A) (e:=e) tp tq (Nat.lt_of_succ_lt hu) fun j h1 h2=>g1 j (by simpa using h1) (by simpa using h2);have h2:=SeqAt.RcNeAt.tuples (A:=A) (e:=e) tp tq (Nat.lt_of_succ_lt hu) fun j h1 h2=>g1 j (by simpa using h1) (by simpa using h2);rw[Jv,Jv,g2]at h1 h2;exact⟨h1,h2,fun z=>by cases z;exact g3 (Of tp tq)⟩
theorem eqE_at{b:Bool}(hu:A.in1.units<cLine)(fF:∀a o,F a=some o->s.heap.get? a=some o)(s1:IsT g F t u)(s2:IsT g F t' v)(h:eqE t t'=some b):SeqAt.EqAt A s u v b:=by
 unfold eqE at h
 split at h
 .rename_i hb
  exact(te (Nat.lt_of_succ_lt hu) fF s1 s2 (by unfold eq1;rw[hb];exact h)).1
 .rename_i bs hb
  cases Dl hb;obtain⟨as,ha,h⟩:=ZP.mp h;cases Dl ha;obtain⟨k1,_,k2⟩:=rcTs hu fF s1 s2 h;obtain⟨p,us,rfl,_⟩:=V3 fF s1;obtain⟨q,zs,rfl,_⟩:=V3 fF s2;by_cases z:p=q
  .subst z;rw[k2 rfl];exact .same _
  .exact .of_refs z k1
theorem ta{b:Bool}(hu:A.in1.units<cLine)(fF:∀a o,F a=some o->s.heap.get? a=some o)(s1:Vp g F s.heap t u)(s2:Vp g F s.heap t' v)(h:eqG t t'=some b):SeqAt.RcAt A s u v b/\SeqAt.RcNeAt A s u v (!b):=by
 unfold eqG at h
 split at h
 .let ⟨h1,h2,_⟩:=rcTs hu fF s1 s2 h;exact⟨h1,h2⟩
 .unfold eqC at h
  split at h
  .rename_i ts _
   cases h;obtain⟨p,us,rfl,_,tp,r1⟩:=V3 fF s1;obtain⟨q,ws,rfl,_,tq,r2⟩:=V3 fF s2;cases r2;have l:ts.isEmpty=us.isEmpty:=by cases r1<;>rfl
   rw[l];exact Og (Nat.lt_of_succ_lt hu) tp tq
  .obtain⟨h1,h2⟩:=Et h
   let ⟨_,q1,q2,_⟩:=Ag (Nat.lt_of_succ_lt hu) fF (Bo (eqF_c h2) s1) (Bo (H8 h1) s2) h1 h2
   exact⟨q1,q2⟩
theorem m3{A:Around}(hu:A.units<cLine)(fF:∀a o,F a=some o->s.heap.get? a=some o)(f:Nl t=true)(s1:IsT g F t v):∀{ts:ZZ} {us:ZK} {b:Bool},Zs g F ts us->Ff t ts=some b ->
  ∃e:Value->Bool,(∀u∈us,SeqAt.EqAt A s u v (e u))/\us.any e=b:=by
 let ev:Value->Bool:=fun u=>match u with
  | .none=>(j5 .non t).getD false
  | .bool c=>(j5 (.bl c) t).getD false
  | .int i _=>(j5 (.int i) t).getD false
  | .str x _=>(j5 (.str x) t).getD false
  | _=>false
 suffices q:∀{ts:ZZ} {us:ZK} {b:Bool},Zs g F ts us->Ff t ts=some b->(∀u∈us,SeqAt.EqAt A s u v (ev u))/\us.any ev=b from fun {_ _ _} r h=>⟨ev,q r h⟩
 intro ts us b r h
 induction r generalizing b with
 | nil=>cases h;exact⟨fun u m=>absurd m Td,rfl⟩
 | cons r1 r2 ih =>
  rename_i t1 u1 ts us
  obtain⟨c,e1,h⟩:=ZP.mp h;obtain⟨b',e2,rfl⟩:=Y8.mp h;obtain⟨g1,g2⟩:=ih e2;obtain⟨_,e3⟩:=Et e1
  have key:SeqAt.EqAt A s u1 v (ev u1)/\ev u1=c:=by
   have k:=(Ag hu fF r1 s1 f e3).1
   have ec:ev u1=c:=by
    cases t1 with
    | tup _=>obtain⟨p,_,_,rfl,_⟩:=Top.unT r1;cases e3;rfl
    | non=>cases r1;show (j5 .non t).getD false=c;rw[e3];rfl
    | bl _=>cases r1;show (j5 (.bl _) t).getD false=c;rw[e3];rfl
    | int _=>cases r1;show (j5 (.int _) t).getD false=c;rw[e3];rfl
    | str _=>cases r1;show (j5 (.str _) t).getD false=c;rw[e3];rfl
    | _=>cases e3
   exact⟨by rw[ec];exact k,ec⟩
  refine⟨fun u m=>?_,by rw[List.any_cons,key.2,g2]⟩;rcases Vt.mp m with rfl | m
  .exact key.1
  .exact g1 u m
theorem Nd{XY:ZX}{vs:List (Key×Value)}(k:Key)(h:Yz g F XY vs):(∀t,Zv XY k=some t->∃v,valueAt vs k=some v/\IsT g F t v)/\(Zv XY k=none->valueAt vs k=none):=by
 induction h with
 | nil=>exact⟨(fun t e=>by cases e),fun _=>rfl⟩
 | cons r t ih =>
  rename_i p q ps qs
  unfold Zv valueAt at *;rw[List.find?_cons,List.find?_cons, <-r.1];by_cases z:p.1=k
  .rw[Ml z];exact⟨fun t e=>by cases e;exact⟨_,rfl,r.2⟩,fun e=>nomatch e⟩
  .rw[C9 z];exact ih
theorem Zzk{XY:ZX}{vs:List (Key×Value)}{k:Key}(h:Yz g F XY vs):(valueAt vs k).isSome=(Zv XY k).isSome:=by
 obtain⟨h1,h2⟩:=Nd k h;cases e:Zv XY k with
 | none=>rw[h2 e];rfl
 | some t=>obtain⟨v,q,_⟩:=h1 t e;rw[q];rfl
theorem key_is{k:Key}(e:Ma t=some k)(h:Vp g F s.heap t v):(Zf g.prog g.w).is k v=true:=by
 cases t with
 | int i=>cases e;cases h;exact Sy _ _ i _
 | str i=>cases e;cases h;exact Dz _ _ i _
 | _=>cases e
theorem He{b:Bool}(un:A.units+150<cLine)(fF:∀a o,F a=some o->s.heap.get? a=some o)(s1:Vp g F s.heap t u)(s2:Vp g F s.heap t' v)(e:Kq t t'=some b) :
  ((∀k,R (.bool b) { s with toks:=k })->wpAny (model g.prog g.w) A (compareOp .In u v) R E s)/\((∀k,R (.bool (!b)) { s with toks:=k })->wpAny (model g.prog g.w) A (compareOp .NotIn u v) R E s):=by
 have h1:A.in1.units<cLine:=by show A.units+1<cLine;omega
 cases t' with
 | lst ts =>
  obtain⟨f,e⟩:=Option.ite_none_right_eq_some.mp (show inF t ts=some b from e);obtain⟨a,us,n,rfl,_,hl,r⟩:=Jd s2;obtain⟨e,g1,g2⟩:=m3 h1 fF f (Bo (H8 f) s1) r e;have l:s.heap.IsList a us.toArray:=⟨_,hl,rfl,⟨n,rfl⟩⟩;exact⟨fun q=>SeqAt.in_listAt e l (fun y m=>g1 y (by simpa using m)) (by rw[List.any_toArray,g2];exact q s.toks),fun q=>SeqAt.notIn_listAt e l (fun y m=>g1 y (by simpa using m)) (by rw[List.any_toArray,g2];exact q s.toks)⟩
 | tup ts =>
  obtain⟨f,e⟩:=Option.ite_none_right_eq_some.mp (show inF t ts=some b from e);obtain⟨a,us,rfl,_,l,r⟩:=V3 fF s2;obtain⟨e,g1,g2⟩:=m3 h1 fF f (Bo (H8 f) s1) r e;exact⟨fun q=>SeqAt.in_tupleAt e l (fun y m=>g1 y (by simpa using m)) (by rw[List.any_toArray,g2];exact q s.toks),fun q=>SeqAt.notIn_tupleAt e l (fun y m=>g1 y (by simpa using m)) (by rw[List.any_toArray,g2];exact q s.toks)⟩
 | dct XY =>
  obtain⟨k,e1,rfl⟩:=Y8.mp (show (Ma t).map _=some b from e);obtain⟨a,vs,rfl,_,hd,dd,r⟩:=Tz s2;rw[<-Zzk r];exact⟨fun q=>wpAny_in_of (key_is e1 s1) hd dd.mapOf (q _),fun q=>wpAny_notIn_of (key_is e1 s1) hd dd.mapOf (q _)⟩
 | str y =>
  have e:m4 t y=some b:=e;unfold m4 at e
  split at e
  .cases e;cases s1;cases s2;exact⟨fun q=>in_str (q s.toks),fun q=>notIn_str (q s.toks)⟩
  .cases e
 | _=>cases e
theorem le_not(i j:Int):decide (i<=j)=!decide (j<i):=by rw[<-decide_not];exact decide_eq_decide.mpr Int.not_lt.symm
theorem Hm{b:Bool}(h:ltT t t'=some b):∃i j,t=.int i/\t'=.int j/\b=decide (i<j):=by
 unfold ltT at h
 split at h
 .cases h;exact⟨_,_,rfl,rfl,rfl⟩
 .cases h
theorem b8{b:Bool}(s1:Vp g F s.heap t u)(s2:Vp g F s.heap t' v)(e:isT t t'=some b) :
  (R (.bool b) s->wpAny (model g.prog g.w) A (compareOp .Is u v) R E s)/\(R (.bool (!b)) s->wpAny (model g.prog g.w) A (compareOp .IsNot u v) R E s):=by
 unfold isT at e
 split at e
 .cases e;cases s1;cases s2;exact⟨fun q=>is_none_gen q,fun q=>isnot_none_gen q⟩
 .cases e;cases s1;cases s2;exact⟨fun q=>is_bool q,fun q=>isnot_bool q⟩
 .rename_i n1
  cases e;cases s2
  have:(u == Value.none)=false:=by
   cases t with
   | non=>exact(n1 rfl).elim
   | _=>cases s1;rfl
  exact⟨fun q=>is_none_gen (by rw[this];exact q),fun q=>isnot_none_gen (by rw[this];exact q)⟩
 .cases e
theorem Al{b:Bool}(c:Cm)(un:A.units+150<cLine)(fF:∀a o,F a=some o->s.heap.get? a=some o)(s1:Vp g F s.heap t u)(s2:Vp g F s.heap t' v)(e:Jw c t t'=some b)(q:∀k,R (.bool b) { s with toks:=k }) :
  wpAny (model g.prog g.w) A (compareOp (Wv c) u v) R E s:=by
 have hu:A.in1.units<cLine:=by show A.units+1<cLine;omega
 cases c with
 | eq=>exact(ta hu fF s1 s2 e).1 _ _ _ _ (q s.toks)
 | ne =>
  obtain⟨r,e1,rfl⟩:=Y8.mp (show (eqG t t').map not=some b from e);exact(ta hu fF s1 s2 e1).2 _ _ _ _ (q s.toks)
 | lt=>obtain⟨i,j,rfl,rfl,rfl⟩:=Hm e;cases s1;cases s2;exact lt_int (q s.toks)
 | gt=>obtain⟨i,j,rfl,rfl,rfl⟩:=Hm e;cases s1;cases s2;exact gt_int (q s.toks)
 | le =>
  obtain⟨r,e1,rfl⟩:=Y8.mp (show (ltT t' t).map not=some b from e);obtain⟨i,j,rfl,rfl,rfl⟩:=Hm e1;cases s1;cases s2;exact le_int (by rw[le_not];exact q s.toks)
 | ge =>
  have e:geT t t'=some b:=e;unfold geT at e
  split at e
  .cases e;cases s1;cases s2;exact ge_int (q s.toks)
  .cases e
 | isin=>exact(He un fF s1 s2 e).1 q
 | notin =>
  obtain⟨r,e1,rfl⟩:=Y8.mp (show (Kq t t').map not=some b from e);exact(He un fF s1 s2 e1).2 q
 | is=>exact(b8 s1 s2 e).1 (q s.toks)
 | isnt =>
  obtain⟨r,e1,rfl⟩:=Y8.mp (show (isT t t').map not=some b from e);exact(b8 s1 s2 e1).2 (q s.toks)
end
section
variable{g:Md}{F:OM}{A:Around}{R:ZQ}{E:ZQ}{s:Shared}{h:Heap}{t:T}{u v:Value}{r:Sl}{a L:Addr}{ts ws:ZZ}{us:ZK}
theorem Tf:∀{ts:ZZ} {us:ZK} {bs:List Bool},Zs g F ts us->allB ts=some bs->us=bs.map Value.bool
 | _,_,_,.nil,e=>by cases e;rfl
 | t::_,_,_,.cons r q,e=>by
  cases t with
  | bl b =>
   obtain⟨bs',e1,rfl⟩:=Y8.mp (show (allB _).map (b::·)=_ from e);cases r;rw[Tf q e1];rfl
  | _=>cases e
theorem Tg:∀{ts:ZZ} {us:ZK} {zs:ZT},Zs g F ts us->Dw ts=some zs->ts=zs.map .int/\IntsAre us zs
 | _,_,_,.nil,e=>by cases e;exact⟨rfl,.nil⟩
 | t::_,_,_,.cons r q,e=>by
  cases t with
  | int b =>
   obtain⟨bs',e1,rfl⟩:=Y8.mp (show (Dw _).map (b::·)=_ from e);obtain⟨h1,h2⟩:=Tg q e1;cases r;exact⟨by rw[h1];rfl,.cons _ _ h2⟩
  | _=>cases e
theorem Tv:∀{ts:ZZ} {us:ZK} {zs:ZG},Zs g F ts us->Nz ts=some zs->ts=zs.map .str/\StrsAre us zs
 | _,_,_,.nil,e=>by cases e;exact⟨rfl,.nil⟩
 | t::_,_,_,.cons r q,e=>by
  cases t with
  | str b =>
   obtain⟨bs',e1,rfl⟩:=Y8.mp (show (Nz _).map (b::·)=_ from e);obtain⟨h1,h2⟩:=Tv q e1;cases r;exact⟨by rw[h1];rfl,.cons _ _ h2⟩
  | _=>cases e
theorem Qt:∀{us:ZK} {zs:ZT},IntsAre us zs->Zs g F (zs.map .int) us
 | _,_,.nil=>.nil
 | _,_,.cons _ _ h=>.cons .int (Qt h)
theorem Qd:∀{us:ZK} {zs:ZG},StrsAre us zs->Zs g F (zs.map .str) us
 | _,_,.nil=>.nil
 | _,_,.cons _ _ h=>.cons .str (Qd h)
theorem Qp{k:Key}(h:(Zf g.prog g.w).is k v=true):IsT g F (Ja k) v:=by
 rcases Zu h with ⟨i,t,rfl,rfl⟩ | ⟨x,t,rfl,rfl⟩
 .exact .int
 .exact .str
theorem Sd{XY:ZX}{vs:List (Key×Value)}(rk:Yz g F XY vs)(hl:us.length=vs.length)(hk:∀(j:Nat) (v:Value),us[j]?=some v->∃k x,vs[j]?=some (k,x)/\(Zf g.prog g.w).is k v=true):Zs g F (XY.map fun p=>Ja p.1) us:=by
 induction rk generalizing us with
 | nil=>obtain rfl:=List.eq_nil_of_length_eq_zero hl;exact .nil
 | cons r t ih =>
  cases us with
  | nil=>cases hl
  | cons u us =>
   obtain⟨k,x,e,q⟩:=hk 0 u rfl;cases e;refine .cons ?_ (ih (Nat.succ.inj hl) fun j v e=>hk (j+1) v e);show IsT g F (Ja _) u;rw[r.1];exact Qp q
theorem Xz(r:Zs g F ts us)(e:Ry ts=some ws):SRT.Srt g.prog g.w (fun _=>True) us fun out=>Zs g F ws out/\out.length=us.length:=by
 obtain⟨h64,e⟩:=Option.ite_none_right_eq_some.mp e;have l:=r.length
 split at e
 .rename_i zs ez
  cases e;obtain⟨h1,h2⟩:=Tg r ez;intro A E s D Q o e q;refine SRT.srt_ints (Ok:=fun _=>True) h2 (by omega) A E s D Q o e fun h1' out n k e1 r1=>q h1' out n k e1 ⟨Qt r1, ?_⟩;rw[<-(Qt (g:=g) (F:=F) r1).length,Za,(SRT.Yc _).length_eq, <-l,h1,Za]
 .obtain⟨zs,ez,rfl⟩:=Y8.mp e;obtain⟨h1,h2⟩:=Tv r ez;intro A E s D Q o e q;refine SRT.srt_strs (Ok:=fun _=>True) h2 (by omega) A E s D Q o e fun h1' out n k e1 r1=>q h1' out n k e1 ⟨Qd r1, ?_⟩;rw[<-(Qd (g:=g) (F:=F) r1).length,Za,(SRT.Z3 _).length_eq, <-l,h1,Za]
theorem Qn{D:Addr}{out:ZD}{n:Nat}(e:h.get? D=some (seqObj "list" out n))(r:Zs g F ts out.toList)(z:out.size<=sizeLine):Top g F h.get? (.lst ts) (.ref D) :=
 .mkL (us:=out.toList) e ⟨by rw[Lh];exact z,n,by rw[Array.toArray_toList]⟩ r
theorem Rk{o:Obj}{n:Nat}{T:String}(ho:s.heap.get? a=some o)(hc:o.cls=.type T)(hT:T = "list" \/ T = "tuple")(hd:o.data=.seq us.toArray n)(z:us.length<=sizeLine)
  (st:SRT.Srt g.prog g.w (fun _=>True) us fun out=>Zs g F ws out/\out.length=us.length) (k:Ok g F L s (.o (.lst ws)) R):wpAny (model g.prog g.w) A (call (.builtin "sorted") [.ref a]) R E s:=by
 refine SRT.Tn ho hc hT hd z fun h1 D k1 sz C6=>?_;refine st _ _ { s with heap:=h1 } D _ trivial C6 fun h2 out n k2 at2 r2=>?_;have kp:∀b o,s.heap.get? b=some o->h2.get? b=some o:=fun b o e=>k2 b o (C8 (N0l (Jr e) sz)) (k1 b o e);exact k h2 _ s.toks (.own (fun b o _=>kp b o) (fun _ hn=>hn.keeps kp) rfl (Heap.get?_none_of_le sz) (Qn at2 r2.1 (by have:=r2.2;rw[Lh]at this;omega)))
theorem Kh{vs:List (Key×Value)}(hh:A.handled=none)(hn:∃m,s.heap.Ns L m)(nm:(a == sysModules)=false)(dd:s.heap.DictOf (Zf g.prog g.w) a vs)(z:vs.length<=sizeLine){XY:List (Key×PV.T)}(rk:Yz g F XY vs)(e:Ry (XY.map fun p=>Ja p.1)=some ws)(k:Ok g F L s (.o (.lst ws)) R) :
  wpAny (model g.prog g.w) A (call (.builtin "sorted") [.ref a]) R E s:=by
 obtain⟨m,hn⟩:=hn;obtain⟨fr,nw⟩:=R5 hn;obtain⟨ep,da⟩:=dd.dictAt;refine W.kdu_sorted (W.kdl_dict (knd:=Zf g.prog g.w) (ep:=ep) nm) hh fr nw da z fun D h' tk us f' n' hD vl hv'=>?_;have r:=Sd (us:=us) rk vl hv';have ka:=Ny f' n' fun p hp=>Vq _ hp;have nD:=Zxe n' hD;obtain⟨eD,nDL,_⟩:=n' _ Yd;refine Xz r e _ _ { s with heap:=h',toks:=tk } D _ trivial eD fun h2 out n k2 at2 r2=>?_;have neD:∀{b:Addr} {o:Obj},s.heap.get? b=some o->b≠D:=fun {b o} e z=>by rw[z,nD]at e;cases e
 refine k h2 _ tk (.own (fun b o nb eb=>k2 b o (neD eb) (ka b o nb eb)) (fun m' hm=>?_) rfl nD (Qn at2 r2.1 ?_))
 .obtain⟨o,es,ep,e1,d,q1,q2⟩:=f'.ns;obtain⟨o',Bc,ep',e1',d',q1',q2'⟩:=hm;exact⟨o,es,ep,k2 _ o (fun z=>nDL z.symm) e1,d,q1,fun x=>(q2 x).trans (Heap.Ns.agree hn ⟨o',Bc,ep',e1',d',q1',q2'⟩ x)⟩
 .have:=r2.2;rw[Lh]at this;omega
theorem Zxq{bs:List Bool}{n:Nat}(hh:A.handled=none)(ho:s.heap.get? a=some { cls:=.type "list",data:=.seq (bs.map Value.bool).toArray n })(k:Ok g F L s (.f (.bl (bs.all id))) R):wpAny (model g.prog g.w) A (call (.builtin "all") [.ref a]) R E s:=by
 have hl:s.heap.IsList a (bs.map Value.bool).toArray:=⟨_,ho,rfl,⟨n,rfl⟩⟩;have hlen:(bs.map Value.bool).toArray.size=bs.length:=by simp
 refine call_all_walk (wpAny_pyIter_list hl ?_)
 refine⟨s.heap.objs.size,[s.heap.objs.size,a],[s.heap.objs.size],(bs.map Value.bool).toArray.size,_,_,fun i=>(bs[i]?).getD true,rfl,Walks.list (A:=A.in1) hh _ a (C8 (Jr ho)) (bs.map Value.bool).toArray,
  ⟨⟨_,Gh _ rfl,rfl,rfl⟩,hl.push _⟩,fun i v s' Q' E' hP hQ=>?_,fun h' tk hk=>?_⟩
 .have e0:(bs.map Value.bool)[i]?=some v:=by simpa using hP
  rw[G0m]at e0;obtain⟨b,e1,rfl⟩:=Y8.mp e0;dsimp only at hQ;rw[e1]at hQ;exact wpAny_truthy_bool hQ
 .rw[hlen,L2.all_range];exact k h' _ tk (.kept (fun b x e=>hk b x (fun hm=>by rw[V8.mp hm]at e;exact Nat.lt_irrefl _ (Jr e)) (Ya _ e)) .bl)
theorem Zxx{bs:List Bool}{n:Nat}(hh:A.handled=none)(ho:s.heap.get? a=some { cls:=.type "list",data:=.seq (bs.map Value.bool).toArray n })(k:Ok g F L s (.f (.bl (bs.any id))) R):wpAny (model g.prog g.w) A (call (.builtin "any") [.ref a]) R E s:=by
 have hl:s.heap.IsList a (bs.map Value.bool).toArray:=⟨_,ho,rfl,⟨n,rfl⟩⟩;have hlen:(bs.map Value.bool).toArray.size=bs.length:=by simp
 refine call_any_walk (wpAny_pyIter_list hl ?_)
 refine⟨s.heap.objs.size,[s.heap.objs.size,a],[s.heap.objs.size],(bs.map Value.bool).toArray.size,_,_,fun i=>(bs[i]?).getD true,rfl,Walks.list (A:=A.in1) hh _ a (C8 (Jr ho)) (bs.map Value.bool).toArray,
  ⟨⟨_,Gh _ rfl,rfl,rfl⟩,hl.push _⟩,fun i v s' Q' E' hP hQ=>?_,fun h' tk hk=>?_⟩
 .have e0:(bs.map Value.bool)[i]?=some v:=by simpa using hP
  rw[G0m]at e0;obtain⟨b,e1,rfl⟩:=Y8.mp e0;dsimp only at hQ;rw[e1]at hQ;exact wpAny_truthy_bool hQ
 .rw[hlen,L2.any_range];exact k h' _ tk (.kept (fun b x e=>hk b x (fun hm=>by rw[V8.mp hm]at e;exact Nat.lt_irrefl _ (Jr e)) (Ya _ e)) .bl)
theorem iv{n:Nat}(s1:Vp g F s.heap t u)(fF:∀a o,F a=some o->s.heap.get? a=some o)(e:bq t=some n)(k:Ok g F L s (.f (.int n)) R):wpAny (model g.prog g.w) A (call (.builtin "len") [u]) R E s:=by
 have hn:=Hd;have z:=sizeLine_eq;have fi:∀tk t',R (.int (n:Int) t') { s with toks:=tk }:=fun tk t'=>k s.heap _ tk (.sc .int);cases t with
 | tup ts =>
  cases e;obtain⟨a,us,rfl,z1,h1,r⟩:=V3 fF s1;exact len_tuple h1 (by simp only[Jv];omega) (by simp only[Jv];rw[<-r.length];exact fi _ _)
 | lst ts =>
  cases e;obtain⟨a,us,n,rfl,z1,h1,r⟩:=Jd s1;exact Calls.call_len_list ⟨_,h1,rfl,⟨n,rfl⟩⟩ (by simp only[Jv];omega) (by simp only[Jv];rw[<-r.length];exact fi _ _)
 | dct XY =>
  cases e;obtain⟨a,vs,rfl,z1,nm,dd,r⟩:=Tz s1;exact call_len_dict nm dd (by omega) (by rw[<-r.length];exact fi _ _)
 | str x =>
  obtain⟨hz,e⟩:=Option.ite_none_right_eq_some.mp (show (if x.length<=sizeLine then some x.length else none)=some n from e);cases e;cases s1;exact len_str (by omega) (fi _ _)
 | _=>cases e
theorem fm{o:Obj}{n:Nat}{T:String}(ho:s.heap.get? a=some o)(hc:o.cls=.type T)(hT:T = "list" \/ T = "tuple")(hd:o.data=.seq us.toArray n)(z:us.length<=sizeLine)(r:Zs g F ts us)(k:Ok g F L s (.o (.lst ts)) R):wpAny (model g.prog g.w) A (call (.type "list") [.ref a]) R E s :=
 call_list_seq a hT ho hc hd (fun h' c' kp e=>k h' _ s.toks (.own (fun b o _=>kp b o) (fun _ hn=>hn.keeps kp) rfl (Heap.get?_none_of_le (D5 _)) (.mkL e ⟨z,c',rfl⟩ r))) (by rw[Jv];exact z)
theorem fu{vs:List (Key×Value)}(hh:A.handled=none)(nm:(a == sysModules)=false)(dd:s.heap.DictOf (Zf g.prog g.w) a vs)(z:vs.length<=sizeLine){XY:List (Key×PV.T)}(rk:Yz g F XY vs)(k:Ok g F L s (.o (.lst (XY.map fun p=>Ja p.1))) R):wpAny (model g.prog g.w) A (call (.type "list") [.ref a]) R E s:=by
 obtain⟨ep,da⟩:=dd.dictAt;refine W.kdl_call (W.kdl_dict (knd:=Zf g.prog g.w) (ep:=ep) nm) hh da z fun h' tk acc c k1 C6 hacc=>?_;have r:=Sd (us:=acc.toList) rk (by rw[Lh];exact hacc.1) fun j v e=>hacc.2 j v (by rw[<-Array.getElem?_toList];exact e);exact k h' _ tk (.own (fun b o _=>k1 b o) (fun _ hn=>hn.keeps k1) rfl (Heap.get?_none_of_le (D5 _)) (Qn (n:=c) C6 r (by rw[hacc.1];exact z)))
theorem z7{n:Nat}(fF:∀a o,F a=some o->s.heap.get? a=some o)(ho:s.heap.get? a=some { cls:=.type "list",data:=.seq us.toArray n })(z:us.length<=sizeLine)(r:Zs g F ts us)(k:Ok g F L s (.f (.tup ts)) R):wpAny (model g.prog g.w) A (call (.type "tuple") [.ref a]) R E s:=by
 refine call_tuple_list ⟨_,ho,rfl,⟨n,rfl⟩⟩ (fun h' kp=>?_) (by rw[Jv];exact z);refine k _ _ s.toks (.tupN (us:=us) fF (fun b o e=>Ya _ (kp b o e)) ?_ (Gh _ rfl) ⟨rfl,rfl,⟨_,rfl⟩,z⟩ r);cases e:s.heap.get? h'.objs.size with
 | none=>rfl
 | some o=>exact absurd (Jr (kp _ _ e)) (Nat.lt_irrefl _)
theorem o7{i j:Int}{t t':Tok}(hh:A.handled=none)(k:Ok g F L s (.f (.int (if j<i then j else i))) R):wpAny (model g.prog g.w) A (call (.builtin "min") [.int i t,.int j t']) R E s:=by
 refine min_two_ints hh fun h' tk kp=>k h' _ tk (.kept kp ?_);by_cases hj:j<i
 .rw[if_pos hj,if_pos hj];exact .int
 .rw[if_neg hj,if_neg hj];exact .int
theorem o8{i j:Int}{t t':Tok}(hh:A.handled=none)(k:Ok g F L s (.f (.int (if j>i then j else i))) R):wpAny (model g.prog g.w) A (call (.builtin "max") [.int i t,.int j t']) R E s:=by
 refine max_two_ints hh fun h' tk kp=>k h' _ tk (.kept kp ?_);by_cases hj:j>i
 .rw[if_pos hj,if_pos hj];exact .int
 .rw[if_neg hj,if_neg hj];exact .int
end
end PV
namespace HT
open PySem PyProof.Rows
section
variable{prog:Program}{w:World}{A:Around}{E:ZQ}{s:Shared}
theorem Mx{t sl:Addr}{items:ZD}{vl vu:Value}{lo hi:ZC}{Q:ZQ}(ht:IsTup s.heap t items)(hs:s.heap.IsSliceOf sl vl vu .none)(pl:IsPart vl lo)(pu:IsPart vu hi)
  (hw:Vx items.size 0 lo=0/\Vx items.size items.size hi=items.size) (h:Q (.ref t) s):wpAny (model prog w) A (getItem (.ref t) (.ref sl)) Q E s:=by
 obtain⟨os,qd,hcs,rx⟩:=id hs;have hTs:s.TypeIs (.ref sl) "slice" := ⟨os,qd,hcs⟩;unfold getItem
 try with_reducible refine wpAny_holding ?_
 first | refine Zq (Zt ?_) | skip
 refine Zq (wpAny_sequenceKey ht.typeIs (by decide) ?_)
 refine Zq (wpAny_callSpecial?_slot (name:=Str.ofString "__getitem__") ht.typeIs slot_tuple_getitem
  (wpAny_call_entry slot_tuple_getitem ht.typeIs entry_tuple_getitem ?_ (args_tuple_getitem _ _)))
 show wpAny _ _ (Builtin.Tuple.tupleItemsOf (.ref t) >>= _) _ _ s;refine Zq (tupleItemsOf_ ht ?_);refine Zq (wpAny_typeOf hTs ?_);rw[if_pos (by decide)];refine Zq (Jg hs pl pu ?_)
 have hyes:(((Vx items.size 0 lo:Nat):Int) == 0 && (1:Int) == 1 && (Vx items.size items.size hi - Vx items.size 0 lo) == items.size)=true:=by
  rw[hw.1,hw.2];simp
 show wpAny _ _ (if (((Vx items.size 0 lo:Nat):Int) == 0 && (1:Int) == 1 && (Vx items.size items.size hi - Vx items.size 0 lo) == items.size)=true then _ else _) _ _ s;rw[if_pos hyes];refine Zq (m:=Builtin.Tuple.tupleIsExact (.ref t)) (Zq (wpAny_typeOf ht.typeIs (Zt ?_)));rw[if_pos (by decide)];exact Zq (wpAny_rule (Zt ⟨_,rfl,Zt h⟩))
end
end HT
namespace PV
open PySem PySem.Spec PyProof.Rows L2
noncomputable def lg:Kd->String
 | .int => "int"
 | .bool => "bool"
 | .str => "str"
 | .tuple => "tuple"
 | .list => "list"
 | .dict => "dict"
section
variable{g:Md}{F:OM}{A:Around}{R:ZQ}{E:ZQ}{s:Shared}{t t':T}{u v:Value}{r:Sl}{a L:Addr}{ts ws:ZZ}{us:ZK}
abbrev FH(F:OM)(h:Heap):Prop:=∀a o,F a=some o->h.get? a=some o
theorem i6{n:Kd}{b:Bool}(kin:g.K.In s.heap)(fF:FH F s.heap)(s1:Vp g F s.heap t v)(e:isiT n t=some b)(k:Ok g F L s (.f (.bl b)) R):wpAny (model g.prog g.w) A (call (.builtin "isinstance") [v,.type (lg n)]) R E s:=by
 have fin:∀tk,R (.bool b) { s with toks:=tk }:=fun tk=>k s.heap _ tk (.sc .bl);cases t with
 | non=>cases s1;exact W.kia_one W.kitx_none kin True.intro (by cases n<;>cases e<;>rfl) (fun z=>nomatch z) fin
 | bl x=>cases s1;exact W.kia_one W.kitx_bool kin True.intro (by cases n<;>cases e<;>rfl) (fun z=>nomatch z) fin
 | int x=>cases s1;exact W.kia_one W.kitx_int kin True.intro (by cases n<;>cases e<;>rfl) (fun z=>nomatch z) fin
 | str x=>cases s1;exact W.kia_one W.kitx_str kin True.intro (by cases n<;>cases e<;>rfl) (fun z=>nomatch z) fin
 | tup ts =>
  obtain⟨a,us,rfl,_,⟨o,h1,h2,_⟩,_⟩:=V3 fF s1;exact W.kia_one W.kitx_tuple kin ⟨o,h1,h2⟩ (by cases n<;>cases e<;>rfl) (fun z=>nomatch z) fin
 | lst ts =>
  obtain⟨a,us,m,rfl,_,h1,_⟩:=Jd s1;exact W.kia_one W.kitx_list kin ⟨_,h1,rfl⟩ (by cases n<;>cases e<;>rfl) (fun z=>nomatch z) fin
 | dct ts =>
  obtain⟨a,us,rfl,_,_,⟨o,es,ep,h1,h2,_⟩,_⟩:=Tz s1;exact W.kia_one W.kitx_dict kin ⟨o,h1,h2.1⟩ (by cases n<;>cases e<;>rfl) (fun z=>nomatch z) fin
 | fn _=>cases n<;>cases e
 | exn _ _=>cases n<;>cases e
theorem bu{z:T}{value slice:Expr}(fF:FH F s.heap)(s1:Vp g F s.heap t v)(s2:Vp g F s.heap t' u)(e:Bt t t'=some z)(k:Ok g F L s (.f z) R)(hs:subscripted slice false v u=operate [v,u] (getItem v u)):wpAny (model g.prog g.w) A (subscriptTail value slice v u) R E s:=by
 have ln:=Hd;cases t with
 | tup ts =>
  cases t'<;>first | (cases e;done) | skip
  rename_i i
  cases s2;obtain⟨p,us,rfl,hz,pl,r⟩:=V3 fF s1;obtain⟨j,h1,h2,h3,h4,h5⟩:=Po (show Tw ts i=some z from e);obtain⟨w,ew,rw'⟩:=Y6 r h2;have hl:=r.length
  exact subscriptTail_builtinR (x:=w) pl.typeIs slot_tuple_getitem.lookup
   (getItem_tuple (j:=j) (Q:=fun r s'=>r=w/\R r s') pl (by omega) (by omega) (by rw[Jv, <-hl];exact h1) (by simpa using ew) ⟨rfl,k s.heap _ s.toks (.sc rw')⟩) hs
 | lst ts =>
  cases t'<;>first | (cases e;done) | skip
  rename_i i
  cases s2;obtain⟨p,us,m,rfl,hz,ho,r⟩:=Jd s1;have pl:s.heap.IsList p us.toArray:=⟨_,ho,rfl,⟨m,rfl⟩⟩;obtain⟨j,h1,h2,h3,h4,h5⟩:=Po (show Tw ts i=some z from e);obtain⟨w,ew,rw'⟩:=Y6 r h2;have hl:=r.length;have fin:R w s:=k s.heap _ s.toks (.sc rw');by_cases h0:0<=i
  .have hj:i.toNat=j:=by
    rw[seqIndex_of h0 h5]at h1;exact M7 h1
   exact item_listR pl h0 (by omega) (by rw[hj];simpa using ew) fin hs
  .have hj:(i+(us.toArray.size:Int)).toNat=j:=by
    rw[seqIndex_neg (by omega) h4]at h1;rw[Jv, <-hl];exact M7 h1
   exact subscriptTail_builtinR (x:=w) pl.typeIs slot_list_getitem.lookup
    (wpAny_getItem_list_neg (Q:=fun r s'=>r=w/\R r s') pl (by omega) (by rw[Jv]<;>omega) (by omega) (by rw[hj];simpa using ew) ⟨rfl,fin⟩) hs
 | str x =>
  cases t'<;>first | (cases e;done) | skip
  rename_i i
  obtain⟨hz,e⟩:=Option.ite_none_right_eq_some.mp (show (if x.length<=sizeLine then (Tw x.cps.toList i).map fun c=>T.str ⟨#[c]⟩ else none)=some z from e);obtain⟨c,he,rfl⟩:=Y8.mp e;cases s1;cases s2;obtain⟨j,h1,h2,h3,h4,h5⟩:=Po he;have hl:x.cps.toList.length=x.length:=by simp[Str.length]
  rw[hl]at h1 h4 h5
  exact tail_any (typeIs_str s x _) slot_str_getitem.lookup (getItem_str (c:=c) (by
   have e1:decide (i < -(2 ^ 63:Int))=false:=C9 (by omega);have e2:decide (i ≥ 2 ^ 63)=false:=C9 (by omega);rw[e1,e2,Bool.or_false]) (by rw[h1];simpa using h2) (k s.heap _ _ (.sc .str))) hs
 | dct XY =>
  obtain⟨key,e1,e2⟩:=ZP.mp (show (Ma t').bind (Zv XY)=some z from e);obtain⟨p,vs,rfl,hz,ns,dd,r⟩:=Tz s1;obtain⟨w,ew,rw'⟩:=(Nd key r).1 z e2;exact tail_any dd.typeIs PySem.F.slot_dict_getitem.lookup (wpAny_getItem_of (key_is e1 s2) dd.mapOf ew (k s.heap _ _ (.sc rw'))) hs
 | _=>cases e
theorem Zs.cut(h:Zs g F ts us)(lo hi:ZC):Zs g F (Ye ts lo hi) ((us.drop (HT.Vx us.length 0 lo)).take (HT.Vx us.length us.length hi - HT.Vx us.length 0 lo)):=by
 unfold Ye;rw[h.length];exact Xk _ (Xb _ h)
theorem sl_run{lo hi:ZC}{vl vu:Value}{sl:Addr}(fF:FH F s.heap)(s1:Vp g F s.heap t v)(hs:s.heap.IsSliceOf sl vl vu .none)(pl:IsPart vl lo)(pu:IsPart vu hi)(e:slT t lo hi=some r)(k:Ok g F L s r R) :
  ∃T id,typeLookup (.type T) "__getitem__" = pure (some (.builtin id))/\s.TypeIs v T/\wpAny (model g.prog g.w) A (getItem v (.ref sl)) R E s:=by
 cases t with
 | tup ts =>
  cases e;obtain⟨p,us,rfl,hz,tp,r⟩:=V3 fF s1;refine⟨"tuple",_,slot_tuple_getitem.lookup,tp.typeIs, ?_⟩;have rc:=r.cut lo hi;by_cases hw:HT.Vx us.length 0 lo=0/\HT.Vx us.length us.length hi=us.length
  .refine HT.Mx tp hs pl pu (by rw[Jv];exact hw) (k s.heap _ s.toks (.sc ?_));rw[hw.1,hw.2,List.drop_zero,Nat.sub_zero,T0g]at rc;have:=s1.unT
   have e2:Ye ts lo hi=ts:=by
    unfold Ye;rw[r.length,hw.1,hw.2,List.drop_zero,Nat.sub_zero, <-r.length,T0g]
   rw[e2];exact s1
  .refine HT.Nc tp hs pl pu (by rw[Jv];exact hw) ?_ (by rw[Jv];exact hz);rw[show us.toArray.size=us.length by simp,show us.toArray.toList=us by simp];exact k _ _ s.toks (.tup fF rc (by rw[nu,List.length_drop];omega))
 | lst ts =>
  cases e;obtain⟨p,us,m,rfl,hz,ho,r⟩:=Jd s1;have hl:s.heap.IsList p us.toArray:=⟨_,ho,rfl,⟨m,rfl⟩⟩;refine⟨"list",_,slot_list_getitem.lookup,hl.typeIs, ?_⟩;refine wpAny_getItem_list_slice hl hs pl pu .none (by simp) ?_ (by rw[Jv];exact hz);rw[W4];exact k _ _ s.toks (.lst (r.cut lo hi) (by rw[nu,List.length_drop];omega))
 | str z =>
  obtain⟨hz,e⟩:=Option.ite_none_right_eq_some.mp (show (if z.length<=sizeLine then some (.f (.str (Txt.slice z lo hi))) else none)=some r from e);cases e;cases s1;have q':∀(t':Tok) (tk:Nat),R (.str (Txt.slice z lo hi) t') { s with toks:=tk }:=fun t' tk=>k s.heap _ tk (.sc .str);refine⟨"str",_,PySem.F.slot_str_getitem.lookup,typeIs_str _ _ _, ?_⟩;cases pl with
  | none=>cases pu with
   | none=>exact wpAny_getItem_str_slice (l:=none) (u:=none) (st:=none) hs rfl (post_val_or_str ⟨Gs (Txt.slice_le z _ _) hz,fun t' k=>q' t' k⟩)
   | int j uj=>exact wpAny_getItem_str_slice (l:=none) (u:=some (j,uj)) (st:=none) hs rfl (post_val_or_str ⟨Gs (Txt.slice_le z _ _) hz,fun t' k=>q' t' k⟩)
  | int i ui=>cases pu with
   | none=>exact wpAny_getItem_str_slice (l:=some (i,ui)) (u:=none) (st:=none) hs rfl (post_val_or_str ⟨Gs (Txt.slice_le z _ _) hz,fun t' k=>q' t' k⟩)
   | int j uj=>exact wpAny_getItem_str_slice (l:=some (i,ui)) (u:=some (j,uj)) (st:=none) hs rfl (post_val_or_str ⟨Gs (Txt.slice_le z _ _) hz,fun t' k=>q' t' k⟩)
 | _=>cases e
theorem Hx{h:Heap}(hb:sysModules<h.objs.size):(h.objs.size == sysModules)=false:=B0n.mpr (Ne.symm (C8 hb))
theorem Got.dctN{h h':Heap}{a:Addr}{vs:List (Key×Value)}{XY:ZX}(kp:∀b o,h.get? b=some o->h'.get? b=some o)(n:h.get? a=none)(dd:h'.DictOf (Zf g.prog g.w) a vs)(z:vs.length<=sizeLine)(ns:(a == sysModules)=false)(r:Yz g F XY vs):Got g F L h h' (.o (.dct XY)) (.ref a):=by
 obtain⟨o,es,ep,e,ex,d,c,pr,nd⟩:=dd;exact .own (fun b o _=>kp b o) (fun _ hn=>hn.keeps kp) rfl n (.mkD e ⟨ex,⟨es,ep,d,c,pr⟩,nd,z,ns⟩ r)
theorem Yz.put'{k:Key}{XY:ZX}{vs:List (Key×Value)}(it:IsT g F t v)(r:Yz g F XY vs):Yz g F (Zo XY k t) (stored vs k v):=by
 have hi:(XY.any fun p=>decide (p.1=k))=vs.any fun p=>decide (p.1=k):=by
  induction r with
  | nil=>rfl
  | cons q _ ih=>rw[List.any_cons,List.any_cons,ih,q.1]
 unfold Zo stored;rw[hi]
 split
 .refine Qf (fun x y q=>?_) r;rw[q.1];by_cases e:y.1=k
  .rw[if_pos e,if_pos e];exact⟨rfl,it⟩
  .rw[if_neg e,if_neg e];exact q
 .exact Ji r (.cons ⟨rfl,it⟩ .nil)
theorem jz(hb:sysModules<s.heap.objs.size){XY:ZX}(s1:Vp g F s.heap (.dct XY) v)(k:Ok g F L s (.o (.dct XY)) R):wpAny (model g.prog g.w) A (call (.type "dict") [v]) R E s:=by
 obtain⟨a,vs,rfl,z,ns,dd,r⟩:=Tz s1;refine kt_call_dict ns dd z fun h' dd' hs=>?_;exact k h' _ s.toks (.dctN (fun b q hq=>(hs.2 b (C8 (Jr hq))).trans (Ya _ hq)) (Heap.get?_none_of_le (D5 _)) dd' z (Hx hb) r)
theorem Yz.fold:∀{XY acc:ZX} {rs vs:List (Key×Value)},Yz g F XY rs->Yz g F acc vs->Yz g F (XY.foldl (fun acc kv=>Zo acc kv.1 kv.2) acc) (rs.foldl (fun acc kv=>stored acc kv.1 kv.2) vs)
 | _,_,_,_,.nil,r=>r
 | p::XY,acc,q::rs,vs,.cons h t,r=>by
  rw[List.foldl_cons,List.foldl_cons,h.1];exact Yz.fold t (r.put' h.2)
theorem y4(XY:ZX)(k:Key)(t:T):(Zo XY k t).length<=XY.length+1:=by
 unfold Zo
 split
 .rw[Za];omega
 .rw[Gc];simp
theorem S6:∀(XY acc:ZX),(XY.foldl (fun acc kv=>Zo acc kv.1 kv.2) acc).length<=acc.length+XY.length
 | [],acc=>by simp
 | p::XY,acc=>by
  have h1:=S6 XY (Zo acc p.1 p.2);have h2:=y4 acc p.1 p.2;rw[List.foldl_cons,Jl];omega
theorem y7(fF:FH F s.heap):∀{ts:ZZ} {us:ZK} {XY:ZX},Zs g F ts us->G5 ts=some XY->∃rs,Yz g F XY rs/\us.length=rs.length/\∀(j:Nat) (k:Key) (v:Value),rs[j]?=some (k,v)->∃p u,us[j]?=some (.ref p)/\IsTup s.heap p #[u,v]/\(Zf g.prog g.w).is k u=true
 | _,_,_,.nil,e=>by cases e;exact⟨[],.nil,rfl,fun j k v h=>by simp at h⟩
 | t::ts,u::us,XY,.cons h r,e=>by
  unfold G5 at e
  split at e
  .rename_i z;cases z
  .rename_i a b q z
   cases z;obtain⟨key,e1,e⟩:=ZP.mp e;obtain⟨Zp,e2,rfl⟩:=Y8.mp e;obtain⟨p,vs,rfl,_,tp,r2⟩:=V3 fF h;obtain⟨u1,u2,rfl,i1,i2⟩:=pr2 r2;obtain⟨rs,g1,g2,g3⟩:=y7 fF r e2;refine⟨(key,u2)::rs,.cons ⟨rfl,i2⟩ g1,by rw[Jl,Jl,g2],fun j k v e=>?_⟩;cases j with
   | zero=>cases e;exact⟨p,u1,rfl,tp,key_is e1 (.of fF i1)⟩
   | succ j=>exact g3 j k v e
  .cases e
theorem Am(hh:A.handled=none)(hb:sysModules<s.heap.objs.size)(fF:FH F s.heap){XY:ZX}(s1:Vp g F s.heap (.lst ts) v)(e:G5 ts=some XY)(k:Ok g F L s (.o (.dct (XY.foldl (fun acc kv=>Zo acc kv.1 kv.2) []))) R):wpAny (model g.prog g.w) A (call (.type "dict") [v]) R E s:=by
 obtain⟨a,us,m,rfl,z,ho,r⟩:=Jd s1;obtain⟨rs,g1,g2,g3⟩:=y7 fF r e;refine DicL.Ah (knd:=Zf g.prog g.w) (rs:=rs) hh ho ⟨by rw[Jv];exact g2,fun j k v e=>by obtain⟨p,u,q1,q⟩:=g3 j k v e;exact⟨p,u,by simpa using q1,q⟩⟩ (by omega) (fun p hm=>?_) fun h' tk kp dd=>?_
 .obtain⟨j,hj⟩:=List.mem_iff_getElem?.mp hm;have hj:us[j]?=some (.ref p):=by simpa using hj
  have hjl:j<rs.length:=by rw[<-g2];exact(n6.mp hj).1
  obtain⟨p',u,a1,tp,_⟩:=g3 j _ _ (We hjl);rw[hj]at a1;cases a1;exact tp.lt
 .have rr:=Yz.fold g1 (show Yz g F [] [] from .nil);refine k h' _ tk (.dctN kp (Heap.get?_none_of_le (D5 _)) dd ?_ (Hx hb) ?_)
  .unfold DicP2.stK;rw[T0g, <-rr.length];have:=S6 XY [];have:=g1.length;simp only[List.length_nil,Nat.zero_add]at *;omega
  .unfold DicP2.stK;rw[T0g];exact rr
theorem dw{XY:ZX}{key:Key}(s1:Vp g F s.heap (.dct XY) v)(s2:Vp g F s.heap t u)(e:Ma t=some key)(k:Ok g F L s (.f ((Zv XY key).getD .non)) R):wpAny (model g.prog g.w) A (call (.builtin "dict.get") [v,u]) R E s:=by
 obtain⟨a,vs,rfl,z,ns,dd,r⟩:=Tz s1;refine call_meetsIn PySem.F.slot_dict_get dd.typeIs PySem.F.entry_dict_get (PySem.F.args_dict_get_2 _ _) (meets_dict_get (Zf g.prog g.w) a (key_is e s2) ns) ⟨_,dd.mapOf,k s.heap _ _ (.sc ?_)⟩;obtain⟨h1,h2⟩:=Nd key r;cases q:Zv XY key with
 | none=>rw[h2 q];exact .non
 | some x=>obtain⟨w,e1,e2⟩:=h1 x q;rw[e1];exact e2
theorem dj{XY:ZX}{key:Key}{x:T}{w:Value}(s1:Vp g F s.heap (.dct XY) v)(s2:Vp g F s.heap t u)(s3:Vp g F s.heap x w)(c:C5 x=false)(e:Ma t=some key)(k:Ok g F L s (.f ((Zv XY key).getD x)) R):wpAny (model g.prog g.w) A (call (.builtin "dict.get") [v,u,w]) R E s:=by
 obtain⟨a,vs,rfl,z,ns,dd,r⟩:=Tz s1;refine call_meetsIn PySem.F.slot_dict_get dd.typeIs PySem.F.entry_dict_get (PySem.F.args_dict_get_3 _ _ _) (meets_dict_get_default (Zf g.prog g.w) a (key_is e s2) ns w) ⟨_,dd.mapOf,k s.heap _ _ (.sc ?_)⟩;obtain⟨h1,h2⟩:=Nd key r;cases q:Zv XY key with
 | none =>
  rw[h2 q];unfold Vp at s3;rw[c]at s3;exact s3
 | some x=>obtain⟨w,e1,e2⟩:=h1 x q;rw[e1];exact e2
end
end PV
namespace TLT
open PySem PySem.Calls PyProof.Rows SeqAt
def Lt1(s:Shared)(c e:Bool)(l:List (Value×Value)):Prop:=(l=[]/\c=e)\/∃x y,l=[(x,y)]/\(∀A,EqAt A s x y false)/\∀(prog:Program) (w:World) (A:Around) (Q E:ZQ),Q (.bool c) s->wpAny (model prog w) A (richCompare .Lt x y) Q E s
theorem vc(l b:Addr)(items items2:ZD)(n n2:Nat)(dd dd2:ZR)(sl sl2:ZY)(c:Bool) :
  Meets (Builtin.«tuple.__lt__» ⟨[.ref l,.ref b],[]⟩)
   (fun A R s=>s.heap.get? l=some { cls:=.type "tuple",dict:=dd,data:=.seq items n,slots:=sl }/\s.heap.get? b=some { cls:=.type "tuple",dict:=dd2,data:=.seq items2 n2,slots:=sl2 } /\
    Lt1 s c (decide (items.size<items2.size)) (items.toList.zip items2.toList)/\R (.ok (.ret (.bool c))) s) :=
 .of_wp fun prog w A R s h=>by
  obtain⟨hp,g,d,tk,os⟩:=s;obtain⟨hl,hb,lx,h⟩:=h;have f2:=AutoSeq1.sub_tuple_tuple
  wp_walk using wpAny_loadPart' hl,wpAny_loadPart' hb,wpAny_forIn_list _ (fun rest b s'=>b.1=none/\s'=⟨hp,g,d,tk,os⟩/\Lt1 ⟨hp,g,d,tk,os⟩ c (decide (items.size<items2.size)) rest) _
  case turn =>
   rintro⟨y,x⟩ rest b s' ⟨hb',rfl,lx⟩;rcases lx with ⟨z,_⟩ | ⟨y',x',e,q1,q2⟩
   .cases z
   .cases e;refine Zq (q1 _ prog w _ _ ?_)
    wp_walk using q2
    exact⟨_,rfl,h⟩
  case fin =>
   rintro⟨b1,b2⟩ s' ⟨z,rfl,lx⟩;rcases lx with ⟨_,e⟩ | ⟨y',x',e,_⟩
   .cases z;subst e
    wp_walk
    exact⟨_,rfl,h⟩
   .cases e
  case h=>exact⟨rfl,rfl,lx⟩
theorem xi{prog:Program}{w:World}{A:Around}{E:ZQ}{s:Shared}{l b:Addr}{items items2:ZD}{c:Bool}{Q:ZQ}(hl:s.heap.IsTuple l items)(hb:s.heap.IsTuple b items2)(hu:A.units<cLine)(lx:Lt1 s c (decide (items.size<items2.size)) (items.toList.zip items2.toList))(h:Q (.bool c) s):wpAny (model prog w) A (richCompare .Lt (.ref l) (.ref b)) Q E s:=by
 obtain⟨o,ho,hc,n,hd⟩:=hl;obtain⟨o2,ho2,hc2,n2,hd2⟩:=hb;cases o with | mk cls dd data sl =>
 cases o2 with | mk cls2 dd2 data2 sl2 =>
 cases hc;cases hd;cases hc2;cases hd2;have fin:Value.bool c≠Value.notImplemented/\Q (.bool c) s:=⟨fun z=>(nomatch z),h⟩;exact richCompare_meets_room (op:=.Lt) ⟨_,ho,rfl⟩ ⟨_,ho2,rfl⟩ F.slot_tuple_lt F.entry_tuple_lt (F.args_tuple_lt_2 _ _) (vc l b items items2 n n2 dd dd2 sl sl2 c) ⟨ho,ho2,lx,fin⟩ hu
end TLT
namespace L2
open PySem PySem.Spec PyProof.Rows
theorem cz{P:Program}{w:World}{A:Around}{E:ZQ}{s:Shared}{f t:Addr}{name qual:Str}{kV doc pm cdv ct oc:Value}{an od:ZR}{osl:ZY}{p0 p1 p2 p3 p4:Pos}{its:ZK}{k:Int}{tk:Tok}{Q:ZQ}
  (hd:A.depth<recursionLimit) (hf:s.heap.get? f=some ⟨oc,od,.func (W.fnOf name qual (ir "member" p0) [.Return (some (ip "member" p1 p2 p3)) p4] (ic "member") .none kV doc pm an cdv ct),osl⟩) (hc:s.heap.CodeRec cdv qual) (lim:s.heap.NoLimit)
  (ht:IsTup s.heap t (.int k tk::its).toArray) (hz:its.length+1<=sizeLine)
  (h:∀(h':Heap) (tk':Nat) (t':Tok),(∀b o,s.heap.get? b=some o->h'.get? b=some o)->Q (.int k t') { s with heap:=h',toks:=tk' }) :
  wpAny (model P w) A (call (.ref f) [.ref t]) Q E s:=by
 refine wpAny_call ?_;have hb:bindArgs (W.fnOf name qual (ir "member" p0) [.Return (some (ip "member" p1 p2 p3)) p4] (ic "member") .none kV doc pm an cdv ct) ⟨[.ref t],[]⟩=pure [(Str.ofString "member",Value.ref t)]:=by rfl
 refine codeAny_call_function hd hf rfl rfl rfl rfl hc ?_;rw[hb];refine Zt ?_;refine wpAny_newFunctionEnv_cells rfl (fun x hx=>.inl ?_) fun env he s1 x=>?_
 .have e:x=(Str.ofString "member",Value.ref t):=by simpa using hx
  subst e
  rfl
 subst he;refine⟨lim.keeps x.toInCall.keep,codeAny_func ?_⟩;obtain⟨h1,tk1,rfl⟩:=x.toInCall.same;have kp:=x.toInCall.keep;refine wpAny_execs_cons (wpAny_Return_some ?_);refine Subscript_ (wpAny_Name (wpAny_loadName_local rfl rfl x.toInCall.ns rfl ?_) (by decide));refine wpAny_Constant_int ?_;have ht1:IsTup h1 t (.int k tk::its).toArray:=let ⟨o,e1,e2,e3⟩:=ht;⟨o,kp _ _ e1,e2,e3⟩
 refine subscriptTail_builtinR (x:=.int k tk) (show Shared.TypeIs _ (.ref t) "tuple" from let ⟨o,e1,e2,_⟩:=ht1;⟨o,e1,e2⟩) slot_tuple_getitem.lookup
  (getItem_tuple (j:=0) (Q:=fun r s'=>r=.int k tk/\_) ht1 (by decide) (by decide) ?_ (by simp) ⟨rfl, ?_⟩) rfl
 .rw[Jv];exact seqIndex_of (by decide) (by rw[Jl];omega)
 .exact h h1 _ tk kp
end L2
namespace PV
open PySem PySem.Spec PyProof.Rows L2 PySem.W
section
variable{g:Md}{F:OM}{A:Around}{R:ZQ}{E:ZQ}{s:Shared}{a b t t':T}{u v:Value}{r:Bool}{L:Addr}{ts ws:ZZ}{us zs:ZK}
theorem fy(i1:IsT g F a u)(i2:IsT g F b v)(h:iq a b=some r)(prog:Program)(w:World)(A:Around)(Q E:ZQ)(q:Q (.bool r) s):wpAny (model prog w) A (richCompare .Lt u v) Q E s:=by
 unfold iq at h
 split at h
 .cases i1;cases i2;cases h;exact lt_int q
 .cases i1;cases i2;cases h;exact lt_str q
 .rename_i c d
  cases i1;cases i2;cases h;refine lt_bool ?_;have e:decide (b2i c<b2i d)=(!c && d):=by cases c<;>cases d<;>decide
  rw[e];exact q
 .cases h
theorem fj(h:iq a b=some r):Nl a=true/\Nl b=true/\Om b=none:=by
 unfold iq at h
 split at h<;>first | exact⟨rfl,rfl,rfl⟩ | cases h
theorem lt1_ne(i1:IsT g F a u)(i2:IsT g F b v)(h:iq a b=some r)(e:eqT a b=some false):∀A,SeqAt.EqAt A s u v false:=by
 intro A;obtain⟨_,e⟩:=Et e;unfold iq at h
 split at h
 .cases i1;cases i2;rw[<-M7 e];exact SeqAt.EqAt.int_int _ _ _ _
 .cases i1;cases i2;rw[<-M7 e];exact SeqAt.EqAt.str_str _ _ _ _
 .cases i1;cases i2;rw[<-M7 e];exact SeqAt.EqAt.bool_bool _ _
 .cases h
theorem X9{j l:Type}{a:List j}{b:List l}(h:a.length=b.length):a.isEmpty=b.isEmpty:=by
 cases a<;>cases b<;>first | rfl | cases h
theorem ltE_at{Q E:ZQ}(fF:FH F s.heap)(hu:A.units<cLine)(i1:IsT g F a u)(i2:IsT g F b v)(ne:eqE a b=some false)(h:ltE a b=some r)(q:Q (.bool r) s):wpAny (model g.prog g.w) A (richCompare .Lt u v) Q E s:=by
 unfold ltE at h
 split at h
 .exact fy i1 i2 h g.prog g.w A Q E q
 .rename_i bs hb
  obtain⟨as,ha,hl⟩:=ZP.mp h
  clear h
  cases Dl hb;cases Dl ha;obtain⟨p,us,rfl,_,tp,av⟩:=V3 fF i1;obtain⟨p',zs,rfl,_,tq,aw⟩:=V3 fF i2;refine TLT.xi tp tq hu ?_ q;show TLT.Lt1 s r _ (us.zip zs);rw[Jv,Jv];cases as with
  | nil =>
   cases hl;cases av;refine .inl ⟨rfl, ?_⟩;rw[X9 aw.length];cases zs<;>rfl
  | cons a r' =>
   cases bs with
   | nil =>
    cases hl;cases aw;exact .inl ⟨List.zip_nil_right,by simp⟩
   | cons b q' =>
    replace hl:(if r'.isEmpty=true/\q'.isEmpty=true then iq a b else none)=some r:=hl
    split at hl
    .rename_i he
     obtain rfl:r'=[]:=List.isEmpty_iff.mp he.1;obtain rfl:q'=[]:=List.isEmpty_iff.mp he.2;obtain⟨x1,rfl,j1⟩:=T4 av;obtain⟨y1,rfl,j2⟩:=T4 aw;obtain⟨f1,f2,f3⟩:=fj hl;obtain⟨e,e1,n2⟩:=ZP.mp (show (eq1 a b).bind (fun x=>(some true).map (x && ·))=some false from ne);have n3:some (e && true)=some false:=n2;rw[Bool.and_true]at n3;cases n3
     have e1:eqT a b=some false:=by
      unfold eq1 at e1;rw[f3]at e1;exact e1
     obtain⟨_,e2⟩:=Et e1;exact .inr ⟨_,_,rfl,lt1_ne j1 j2 hl e1,fun prog w A Q E q=>fy j1 j2 hl prog w A Q E q⟩
    .cases hl
theorem Sf{Q:Bool->Shared->Prop}(fF:FH F s.heap)(hu:A.in1.units<cLine):∀{as bs:ZZ} {us zs:ZK} {c fin:Bool} {i:Nat},Dq as bs=some c->Zs g F as us->Zs g F bs zs->fin=decide (us.length<zs.length)->Q c s->KatLex g.prog g.w A true fin Q (us.zip zs) (i+1) s
 | [],bs,us,zs,c,fin,i,h,a1,a2,ef,q=>by
  cases a1;cases h;subst ef;show Q _ s;rw[X9 a2.length]at q;cases zs<;>exact q
 | a::r,[],us,zs,c,fin,i,h,a1,a2,ef,q=>by
  cases a2;cases a1;cases h;subst ef;rw[List.zip_nil_right];show Q _ s;simpa using q
 | a::r,b::t,us,zs,c,fin,i,h,a1,a2,ef,q=>by
  cases a1 with | cons i1 a1 =>
  cases a2 with | cons i2 a2 =>
  obtain⟨e,e1,h⟩:=ZP.mp (show (eqE a b).bind _=some c from h);rw[List.zip_cons_cons];refine kat_cons (eqE_at hu fF i1 i2 e1 g.prog g.w _ _ ?_);cases e with
  | true =>
   refine kat_yes (Sf fF hu h a1 a2 ?_ q);rw[ef,Jl,Jl];exact decide_eq_decide.mpr Nat.succ_lt_succ_iff
  | false =>
   refine kat_no (kat_one _ _ ?_);exact ltE_at fF (Nat.lt_of_succ_lt hu) i1 i2 e1 h q
theorem Ca(fF:FH F s.heap):∀{ts:ZZ} {vs:ZK} {us:List (ZZ)},Zs g F ts vs->Rx ts=some us->∀i,i<vs.length->∃p ws k r,vs.getD i .none=.ref p/\IsTup s.heap p ws.toArray/\Zs g F (us.getD i []) ws/\us.getD i []=.int k::r/\us.getD i []∈us/\F p≠none
 | _,_,us,.nil,e,i,hi=>absurd hi (Nat.not_lt_zero _)
 | t::ts,v::vs,us,.cons q r,e,i,hi=>by
  unfold Rx at e
  split at e
  .rename_i z;cases z
  .rename_i z
   cases z;obtain⟨us',e1,rfl⟩:=Y8.mp e;cases i with
   | zero =>
    obtain⟨p,o,ws,rfl,ho,k,ar⟩:=q.unT;exact⟨p,ws,_,_,rfl,k.is (fF _ _ ho),ar,rfl,Yd,by rw[ho];exact fun z=>nomatch z⟩
   | succ i =>
    obtain⟨p,ws,k,r',h1,h2,h3,h4,h5,h6⟩:=Ca fF r e1 i (by simpa using hi);exact⟨p,ws,k,r',by simpa using h1,h2,by simpa using h3,by simpa using h4,by simpa using Vq _ h5,h6⟩
  .cases e
theorem Zz4{s':Shared}{vs:ZK}{us:List (ZZ)}(un:A.units+150<cLine)(fF:FH F s'.heap)(ar:Zs g F ts vs)(e:Rx ts=some us)(all:∀a∈us,∀b∈us,(Dq a b).isSome=true){i j:Nat}(hi:i<vs.length)(hj:j<vs.length){C:Bool->Shared->Prop}{E':ZQ}(hC:C ((Dq (us.getD i []) (us.getD j [])).getD false) s') :
  wpAny (model g.prog g.w) A.in1.in1 (keyLt' (tuples' true) (vs.getD i .none) (vs.getD j .none)) C E' s':=by
 obtain⟨p,ws,k,r,h1,⟨o,g1,g2,n,g3⟩,h3,h4,h5,_⟩:=Ca fF ar e i hi;obtain⟨p',ws',k',r',h1',⟨o',g1',g2',n',g3'⟩,h3',h4',h5',_⟩:=Ca fF ar e j hj;rw[h1,h1'];obtain⟨c,ec⟩:=Option.isSome_iff_exists.mp (all _ h5 _ h5');rw[ec]at hC;have hC:C c s':=hC;rw[h4]at ec h3;rw[h4']at ec h3';cases h3 with | cons i1 a1 =>
 cases h3' with | cons i2 a2 =>
 cases i1;cases i2
 rename_i t1 _ t2
 refine kat_lt g1 g3 g1' g3' ?_;refine kat_cons (SeqAt.EqAt.int_int k _ k' _ g.prog g.w _ _ ?_);have ec:(if decide (k=k')=true then Dq r r' else ltE (.int k) (.int k'))=some c:=ec;by_cases z:k=k'
 .rw[Ml z,if_pos rfl]at ec;rw[show (k == k')=true from beq_iff_eq.mpr z];refine kat_yes (Sf fF (by show A.units+1+1+1<cLine;omega) ec a1 a2 ?_ hC);simp
 .rw[C9 z,if_neg (by decide)]at ec;rw[show (k == k')=false from B0n.mpr z];refine kat_no ?_;cases(show some (decide (k<k'))=some c from ec);exact oneLt_int hC
theorem Zxi{h h':Heap}{L:Addr}{m m':ZJ}(hn:h.Ns L m)(hm:h.Ns L m')(n:h'.Ns L m):h'.Ns L m':=by
 obtain⟨o,es,ep,e1,d,q1,q2⟩:=n;exact⟨o,es,ep,e1,d,q1,fun x=>(q2 x).trans (Heap.Ns.agree hn hm x)⟩
theorem pick{vs:ZK}(r:Zs g F ts vs):∀(p:List Nat),(∀i∈p,i<vs.length)->Zs g F (p.map fun i=>ts.getD i .non) (p.map fun i=>vs.getD i .none)
 | [],_=>.nil
 | i::p,h=>by
  refine .cons ?_ (pick r p fun j m=>h j (Vq _ m));have hi:i<ts.length:=by rw[r.length];exact h i Yd
  have:=L0 .none r i hi;show IsT g F (ts.getD i .non) (vs.getD i .none);rw[List.getD_eq_getElem?_getD,We hi];exact this
theorem v3(un:A.units+150<cLine)(hn:∃m,s.heap.Ns L m)(fF:FH F s.heap)(nL:F L=none)(s1:Vp g F s.heap (.tup ts) v)(e:Oa ts=some ws)(k:Ok g F L s (.o (.lst ws)) R):wpAny (model g.prog g.w) A (call (.builtin "sorted") [v]) R E s:=by
 obtain⟨us,eu,e⟩:=ZP.mp e;obtain⟨a,vs,rfl,z,⟨o,e0,hc,n,hd⟩,r⟩:=V3 fF s1;have vl:=r.length
 split at e
 .cases e;exact Rk (T:="tuple") e0 hc (.inr rfl) hd z (fun A E s D Q o e q=>SRT.xw (Ok:=fun _=>True) (by omega) A E s D Q o e fun h1 out n k e1 r1=>q h1 out n k e1 (by rw[r1];exact⟨r,rfl⟩)) k
 split at e
 rotate_left
 .cases e
 rename_i hz
 cases e;obtain⟨m,hn⟩:=hn;obtain⟨fr,nw⟩:=R5 hn;refine SRT.Tn e0 hc (.inr rfl) hd z fun h1 D k1 sz C6=>?_;have nDs:s.heap.get? D=none:=Heap.get?_none_of_le sz;have nDL:D≠L:=Nat.ne_of_gt (N0l hn.lt sz)
 have N1:News (B1 s.heap L) L h1 ((D,listOf vs.toArray 0)::Mg s.heap L):=fun p hp=>by
  rcases Vt.mp hp with rfl | hp
  .refine⟨C6,nDL, ?_⟩;cases eo:(B1 s.heap L).get? D with
   | none=>rfl
   | some o=>have:=(Ql eo).1;rw[nDs]at this;cases this
  .exact(nw.grown k1) p hp
 have lt:∀q∈Mg s.heap L,q.1≠D:=fun q hq z=>by have:=(nw q hq).1;rw[z,nDs]at this;cases this
 refine kat_lsort (vs:=vs) (s:={ s with heap:=h1 }) (fr.kept k1) N1 (.head lt) (by simp) (by omega) (by omega) fun e1 h' F' N'=>?_;have N2:News (B1 s.heap L) L h' (Mg s.heap L):=fun p hp=>N' p (Vq _ hp);have kp:∀b o,b≠L->s.heap.get? b=some o->h'.get? b=some o:=Ny F' N2 fun p hp=>hp;have fF':FH F h':=fun a o e=>kp a o (fun z=>by rw[z,nL]at e;cases e) (fF a o e)
 obtain⟨fs,t1,t2,t3⟩:=SRT.Ih (h:=h') (vs:=vs) fun v mv=>by
  obtain⟨i,hi,rfl⟩:=List.getElem_of_mem mv;obtain⟨p,ws,k,r',h1,⟨o,g1,g2,n,g3⟩,h3,h4,_⟩:=Ca (s:={ s with heap:=h' }) fF' r eu i hi;rw[List.getD_eq_getElem?_getD,We hi]at h1;rw[h4]at h3;cases h3 with | cons i1 a1 =>
  cases i1;exact⟨p,o,_,n,k,_,h1,g1,g2,g3,by simp;rfl⟩
 refine kat_kind (s:={ s with heap:=h' }) (T:=.type "int") t1 (by omega) (fun v m=>?_) rfl ?_
 .obtain⟨i,t,rfl⟩:=t3 v m;exact Looks.of_pure rfl
 rw[show (Value.type "int" != Value.type "tuple")=true by decide];refine SRT.Xv (n:=vs.length) (b:=fun i j=>(Dq (us.getD i []) (us.getD j [])).getD false) (s:={ s with heap:=h' }) (fun i j hi hj C hC=>Zz4 un fF' r eu hz.2 hi hj hC) (SRT.O0 (by omega)) fun pm=>?_;refine KasFin.intro F' N' (g:=fun o=>(D,o)::Mg s.heap L) (.head lt) fun h2 c F2 N3=>?_;have ka:=Ny F2 N3 fun p hp=>Vq _ hp;obtain⟨eD,_,_⟩:=N3 _ Yd;have pl':∀i∈(SRT.runK (fun i j=>(Dq (us.getD i []) (us.getD j [])).getD false) (kas_sort vs.length)).toList,i<vs.length:=fun i mi=>List.mem_range.mp (pm.mem_iff.mp mi);have rp:=pick r _ pl';have sl:=sizeLine_eq
 have ln:((SRT.runK (fun i j=>(Dq (us.getD i []) (us.getD j [])).getD false) (kas_sort vs.length)).toList.map fun i=>vs.getD i .none).length<=sizeLine:=by
  rw[Za,pm.length_eq,XZ];omega
 refine k h2 _ s.toks (.own (fun b o nb eb=>ka b o nb eb) (fun m' hm=>Zxi hn hm F2.ns) rfl nDs ?_);rw[vl];exact .mkL (us:=_) (o:={ cls:=.type "list",data:=.seq _ c }) (by simpa using eD) ⟨ln,c,rfl⟩ rp
theorem j8:∀{kz:ZT} {xs:ZZ} {vs:ZK},Zs g F xs vs->Paired (fun(p:Int×T) (q:Int×Value)=>p.1=q.1/\IsT g F p.2 q.2) (kz.zip xs) (kz.zip vs)
 | [],_,_,_=>.nil
 | _::_,[],_,.nil=>.nil
 | k::kz,_,_,.cons r t=>.cons ⟨rfl,r⟩ (j8 t)
theorem K4:∀{qs:List (Int×T)} {ps:List (Int×Value)},Paired (fun(p:Int×T) (q:Int×Value)=>p.1=q.1/\IsT g F p.2 q.2) qs ps->Zs g F (qs.map (·.2)) (ps.map (·.2))/\qs.map (·.1)=ps.map (·.1)
 | _,_,.nil=>⟨.nil,rfl⟩
 | _,_,.cons r t=>⟨.cons r.2 (K4 t).1,by rw[P8,P8,r.1,(K4 t).2]⟩
theorem Se(fF:FH F s.heap):∀{ts:ZZ} {vs:ZK} {hs:ZT},Zs g F ts vs->Dy ts=some hs->hs.length=vs.length/\∀(i:Nat) (k:Int) (v:Value),hs[i]?=some k->vs[i]?=some v->∃p r tk,v=.ref p/\IsTup s.heap p (.int k tk::r).toArray/\r.length+1<=sizeLine/\F p≠none
 | _,_,hs,.nil,e=>by cases e;exact⟨rfl,fun i k v h=>by simp at h⟩
 | t::ts,v::vs,hs,.cons q r,e=>by
  unfold Dy at e
  split at e
  .rename_i z;cases z
  .rename_i z
   cases z;obtain⟨T6,e1,rfl⟩:=Y8.mp e;obtain⟨h1,h2⟩:=Se fF r e1;refine⟨by rw[Jl,Jl,h1],fun i k w hk hw=>?_⟩;cases i with
   | zero =>
    cases hk;cases hw;obtain⟨p,o,ws,rfl,ho,k,ar⟩:=q.unT;cases ar with | cons i1 a1 =>
    cases i1;exact⟨p,_,_,rfl,k.is (fF _ _ ho),k.z,by rw[ho];exact fun z=>nomatch z⟩
   | succ i=>exact h2 i k w hk hw
  .cases e
theorem v5(kf:Zxf g)(hd:A.depth<recursionLimit)(hn:∃m,s.heap.Ns L m)(kin:g.K.In g.base)(lim:g.base.NoLimit)(hB:∀b o,g.base.get? b=some o->F b=some o)(fF:FH F s.heap)(nL:F L=none){hs:ZT}(s1:Vp g F s.heap (.lst ts) v)(e:Dy ts=some hs)(nd:hs.Nodup)(h64:ts.length<64)(k:Ok g F L s (.o (.lst ((SRT.Ks (hs.zip ts)).map (·.2)))) R) :
  ∃f,g.mg R0=some (.ref f)/\wpAny (model g.prog g.w) A (call (.builtin "sorted") [v] [(Str.ofString "key",.ref f)]) R E s:=by
 obtain⟨f,name,qual,kV,doc,pm,cdv,ct,oc,an,od,osl,p0,p1,p2,p3,p4,lk,R4,hm⟩:=kf;refine⟨f,hm, ?_⟩;obtain⟨l,vs,n,rfl,z,ho,r⟩:=Jd s1;have pl:s.heap.IsList l vs.toArray:=⟨_,ho,rfl,⟨n,rfl⟩⟩;obtain⟨m,hn⟩:=hn;obtain⟨fr,nw⟩:=R5 hn;have vl:=r.length;obtain⟨hl,hk⟩:=Se fF r e;refine ksk_sorted (b:=false) (vs:=vs) (kz:=hs) (f:=.ref f) fr nw pl hl (by omega) (ksk_s1 _ _) (fun _=>ksk_l1 _ _) (fun a=>ksk_t1 f a) (fun i v kk hv hkk h' tk own f' n'=>?_) fun D h' tk out c f' n' hD ko=>?_
 .have ka:=Ny f' n' fun q hq=>List.mem_append_left _ hq;obtain⟨t,ys,tt,rfl,⟨o,e1,e2,e3⟩,tz,nF⟩:=hk i kk v hkk hv;have nt:∀{b:Addr},F b≠none->b≠L:=fun h z=>h (z ▸ nL);have tp':IsTup h' t _:=⟨o,ka _ _ (nt nF) e1,e2,e3⟩;have lb:∀b o,g.base.get? b=some o->h'.get? b=some o:=fun b o e=>ka b o (nt (by rw[hB b o e];exact fun z=>nomatch z)) (fF b o (hB b o e));have kx:=kin.keeps lb;refine cz (s:={ heap:=h',gens:=s.gens,drawn:=s.drawn,toks:=tk,os:=s.os }) hd (kx _ _ lk) (W.codeRec_of kx R4) (lim.keeps lb) tp' tz fun h2 tk2 t2 kp=>?_;exact KskEnd.intro ⟨f'.ns.keeps kp,fun b o e=>kp _ _ (f'.keep b o e),f'.above⟩ (fun q hq=>let ⟨a1,a2,a3⟩:=n' q hq;⟨kp _ _ a1,a2,a3⟩) (fun q hq=>hq)
 .have ka:=Ny f' n' fun q hq=>Vq _ hq;obtain⟨eD,nDL,lD⟩:=n' (D,seqObj "list" out c) Yd;have nD:=Zxe n' hD;obtain⟨ps1,pm2,eo,pw⟩:=ko;obtain⟨qs,pq,qp⟩:=SetM.G6 pm2 (j8 (kz:=hs) r);obtain⟨rq,eq⟩:=K4 pq
  have pw1:(qs.map (·.1)).Pairwise (·<=·):=by
   rw[eq];exact List.pairwise_map.mpr (pw.imp fun q=>by simpa using q)
  have nd1:(qs.map (·.1)).Nodup:=by
   have:(qs.map (·.1)).Perm ((hs.zip ts).map (·.1)):=qp.map _;rw[List.map_fst_zip (by omega)]at this;exact this.nodup_iff.mpr nd
  have lt:qs.Pairwise (fun a b=>a.1<b.1):=by
   have:=List.pairwise_map.mp (List.Pairwise.and pw1 nd1);exact this.imp fun⟨a,b⟩=>by omega
  have es:=SRT.pf qp lt;refine k h' _ tk (.own (fun b o nb eb=>ka b o nb eb) (fun m' hm=>Zxi hn hm f'.ns) rfl nD ?_);rw[<-es];refine Qn (n:=c) eD (by rw[eo];exact rq) ?_;rw[<-Lh,eo,Za, <-pq.length,qp.length_eq,List.length_zip];omega
theorem X1:∀{zs:ZT} {n:Int} {j:Nat},So n zs=some j->zs[j]?=some n/\∀m,m<j->zs[m]?≠some n
 | [],_,_,e=>by cases e
 | z::r,n,j,e=>by
  unfold So at e
  split at e
  .rename_i h;cases e;subst h;exact⟨rfl,fun m h=>absurd h (Nat.not_lt_zero m)⟩
  .rename_i h
   obtain⟨i,e1,rfl⟩:=Y8.mp e;obtain⟨h1,h2⟩:=X1 e1;refine⟨h1,fun m hm=>?_⟩;cases m with
   | zero=>exact fun q=>h (M7 q)
   | succ m=>exact h2 m (Nat.lt_of_succ_lt_succ hm)
theorem Zzx{n:Int}{zs:ZT}{j:Nat}(s1:Vp g F s.heap (.lst ts) v)(s2:Vp g F s.heap (.int n) u)(e:Dw ts=some zs)(e2:So n zs=some j)(k:Ok g F L s (.f (.int j)) R):wpAny (model g.prog g.w) A (call (.builtin "list.index") [v,u]) R E s:=by
 obtain⟨a,us,m,rfl,z,ho,r⟩:=Jd s1;cases s2
 rename_i tz
 obtain⟨rfl,ia⟩:=Tg r e;obtain⟨hj,hno⟩:=X1 e2;have il:us.length=zs.length:=by rw[<-r.length,Za]
 have hjl:=(n6.mp hj).1;have hsm:(j:Int)<2 ^ 63 - 1:=by have:=sizeLine_eq;omega
 have at':∀(i:Nat) (h:i<us.length),∃t,us[i]=.int (zs[i]'(by omega)) t:=fun i h=>by
  have:=L0 .none r i (by rw[Za];omega);rw[List.getElem_map,List.getD_eq_getElem?_getD,We h]at this;have this:IsT g F (.int zs[i]) us[i]:=this;generalize us[i]=y at this ⊢;cases this;exact⟨_,rfl⟩
 let ev:Value->Bool:=fun y=>match y with
  | .int i _=>i == n
  | _=>false
 refine call_meets PySem.F.slot_list_index ⟨_,ho,rfl⟩ PySem.F.entry_list_index (PySem.F.args_list_index_2 _ _) (SeqAt.list_indexAt a us.toArray m none #[] (.int n tz) ev j (by simp;omega) hsm ?_ fun i hm h2=>?_) ⟨ho,fun y hy=>?_,k s.heap _ _ (.sc .int)⟩
 .simp only[List.getElem_toArray];obtain⟨t,et⟩:=at' j (by omega);rw[et];show (zs[j] == n)=true;rw[We hjl]at hj;exact beq_iff_eq.mpr (M7 hj)
 .simp only[List.getElem_toArray];have hi:i<us.length:=by simpa using hm
  obtain⟨t,et⟩:=at' i hi;rw[et];show (zs[i]'(by omega) == n)=false;refine B0n.mpr fun q=>hno i h2 ?_;rw[We (show i<zs.length by omega),q]
 .obtain⟨i,hi,rfl⟩:=List.getElem_of_mem (show y∈us by simpa using hy);obtain⟨t,et⟩:=at' i hi;rw[et];exact SeqAt.EqAt.int_int _ _ _ _
end
end PV
namespace EX
open PySem
def QV(h:Heap)(vs:ZD):Prop:=vs[1]?=some .none\/∃T oT ts,vs[1]?=some (.ref T)/\h.get? T=some oT/\oT.data=.fields ts/\ts[3]?=some .none
section
variable{M:Model}{A:Around}{E:ZQ}{s:Shared}{env:Env}{outer:List Env}{base:Heap}{L e T:Addr}{oe:Obj}{vs:ZD}{Q:ZH}
theorem Sq(Du:A.frames=some (env::outer))(hl:s.heap.FunFrames base (env::outer))(hf:env.frame=some L)
  (he:s.heap.get? e=some oe) (hd:oe.data=.fields vs) (hq:QV s.heap vs)
  (h:∀h' T,zc (env::outer) e T oe s.heap h'->Q () { s with heap:=h' }):wpAny M A (noteFrame (.ref e) env) Q E s:=by
 rcases hq with h1 | ⟨T0,oT,ts,h1,hT,qc,h3⟩
 .exact gy Du hl hf he hd h1 h
 have hz:1<vs.size:=(Array.getElem?_eq_some_iff.mp h1).1;have hne:=Fj hl he hd;unfold noteFrame;simp only[hf];refine Zq (wpAny_field he hd h1 ?_);rw[if_pos (show (Value.ref T0 != Value.none)=true from by simp)];refine Zq (wpAny_field hT qc h3 ?_);rw[if_neg (show ¬ ((Value.none == rawInt L)=true) from by simp[rawInt])];refine Zq (wpAny_setField hT qc (Array.getElem?_eq_some_iff.mp h3).1 ?_);rw[Heap.update_setField_same _ _ _ _ _ _ hT qc h3];refine Zq (wpAny_frameOf_fun Du hl hf fun h₁ sl=>Zq (wpAny_entryPlaceOf fun pl hpl=>?_));unfold EntryCells.newEntry newFields;refine Zq (wpAny_newObj_type ?_ (hpl.sizeOk5 _ _ _ _ _));have e1:h₁.get? e=some oe:=(sl.2.1 e hne).trans he;have z1:h₁.objs.size=s.heap.objs.size:=sl.1;refine wpAny_setField (Ya _ e1) hd hz (h _ h₁.objs.size ⟨fun b o hb hn q=>?_,fun b o hb q=>?_, ?_,Nat.le_of_eq z1.symm, ?_⟩)
 .exact(Heap.get?_update_other _ _ (Ne.symm hb)).trans (Ya _ ((sl.2.1 b hn).trans q))
 .obtain⟨x,q'⟩:=sl.2.2 b o q;exact⟨x,(Heap.get?_update_other _ _ (Ne.symm hb)).trans (Ya _ q')⟩
 .exact Heap.get?_update_self _ (Ya _ e1) (Obj.isFreed_of_fields (Obj.data_mapFields hd _))
 .refine⟨_,_,(Heap.get?_update_other _ _ (C8 (Jr e1))).trans (Gh h₁ rfl),rfl, ?_⟩;simp only[Jv,Gc,Jl,List.length_nil];omega
theorem bg(Du:A.frames=some (env::outer))(hl:s.heap.FunFrames base (env::outer))(hf:env.frame=some L)
  (he:s.heap.get? e=some oe) (hd:oe.data=.fields vs) (hq:QV s.heap vs)
  (h:∀h1 h2 T,zc (env::outer) e T oe s.heap h1->(∀b,b≠T->h2.get? b=h1.get? b)->QV h2 (vs.setIfInBounds 1 (.ref T))->Q () { s with heap:=h2 }):wpAny M A (leaving env (.ref e)) Q E s:=by
 have hz:1<vs.size:=by
  rcases hq with h1 | ⟨_,_,_,h1,_⟩
  .exact(Array.getElem?_eq_some_iff.mp h1).1
  .exact(Array.getElem?_eq_some_iff.mp h1).1
 unfold leaving;refine Zq (Sq Du hl hf he hd hq fun g1 T N=>?_);obtain⟨oT,ts,hT,qc,hz3⟩:=N.tb;have v1:(vs.setIfInBounds 1 (.ref T))[1]?=some (.ref T):=by simp[hz]
 refine wpAny_setFlight_none (s:={ s with heap:=g1 }) N.exc (Obj.data_mapFields hd _) v1 hT qc hz3 (h g1 _ T N (fun b hb=>Heap.get?_update_other _ _ (Ne.symm hb)) (.inr ⟨T,_,_,v1,Heap.get?_update_self _ hT (Obj.isFreed_of_fields (Obj.data_mapFields qc _)),Obj.data_mapFields qc _, ?_⟩));simp[hz3]
end
end EX
namespace PV
open PySem PySem.Spec PyProof.Rows L2
open Classical in
noncomputable def GG(F:OM)(p:P)(j:Vs)(L:Nat->Prop)(h:Heap):OM:=fun a=>if F a≠none\/∃i t,L i/\p[i]?=some (Sl.o t)/\j[i]?=some (some (.ref a)) then none else h.get? a
section
variable{X Y:Cx}{F F':OM}{p p2 q:P}{V τ:Vs}{s s':Shared}{L:Nat->Prop}{h:Heap}{a:Addr}
theorem Nb{o:Obj}(n:F a=none)(l:∀i t,L i->p[i]?=some (Sl.o t)->V[i]?≠some (some (.ref a)))(e:h.get? a=some o):GG F p V L h a=some o:=by
 unfold GG;rw[if_neg (fun z=>z.elim (fun z=>z n) fun⟨i,t,h1,h2,h3⟩=>l i t h1 h2 h3)];exact e
theorem S4(n:F a≠none):GG F p V L h a=none:=if_pos (.inl n)
theorem X4{i:Nat}{t:T}(l:L i)(e:p[i]?=some (Sl.o t))(e2:V[i]?=some (some (.ref a))):GG F p V L h a=none:=if_pos (.inr ⟨i,t,l,e,e2⟩)
theorem Q3(n:h.get? a=none):GG F p V L h a=none:=by
 unfold GG
 split
 .rfl
 .exact n
theorem Nw{b:Addr}{m:ZJ}{h':Heap}(k:∀o,h.get? b=some o->∃sl,h'.get? b=some { o with slots:=sl })(hn:h.Ns b m):h'.Ns b m:=by
 obtain⟨o,es,ep,e1,d,q⟩:=hn;obtain⟨sl,e'⟩:=k o e1;exact⟨_,es,ep,e',d,q⟩
theorem Inv.stackKp(I:Inv X F p V s){b:Addr}(hb:b∈H7 X.stack):X.kp b:=(I.stackSub hb).elim (fun z=>.inr (.inl z)) fun z=>.inl (I.ok.fg b z)
theorem Inv.kpF(I:Inv X F p V s)(k:X.kp a):F a=none:=by
 cases e:F a with
 | none=>rfl
 | some o=>exact absurd k (I.f a o e).2
structure Sub(X:Cx)(F:OM)(p:P)(V:Vs)(s:Shared)(L:Nat->Prop)(Y:Cx):Prop where
 md:Y.toMd=X.toMd
 G:Y.G=GG F p V L s.heap
 out:Y.outer=X.stack
 F0:Y.F0=F
 os:Y.os=s.os
theorem Sub.kp(S:Sub X F p V s L Y)(I:Inv X F p V s)(k:X.kp a):Y.kp a:=by
 obtain⟨o,e⟩:=I.kpAt k;refine .inl ?_;rw[S.G,Nb (I.kpF k) (fun i t _ e1 e2=>?_) e]
 .exact fun z=>nomatch z
 .obtain⟨b,h1,h2⟩:=I.r.ow i t e1;rw[e2]at h1;cases h1;exact h2.k k
theorem Sub.own(S:Sub X F p V s L Y)(I:Inv X F p V s){i:Nat}{t:T}(e:p[i]?=some (Sl.o t))(e2:V[i]?=some (some (.ref a)))(n:¬ L i):∃o,s.heap.get? a=some o/\Y.G a=some o:=by
 obtain⟨b,h1,h2⟩:=I.r.ow i t e;rw[e2]at h1;cases h1;obtain⟨o,eo⟩:=h2.at;refine⟨o,eo, ?_⟩;rw[S.G];exact Nb h2.f (fun j u l e3 e4=>n (I.r.ap j i u t a e3 e e4 e2 ▸ l)) eo
theorem C7.ofY(S:Sub X F p V s L Y)(I:Inv X F p V s){t:T}(o:C7 Y F' h a t):C7 X F' h a t:=⟨o.c,o.f,fun z=>o.k (S.kp I z),S.md ▸ o.t⟩
theorem Inv.exit(I:Inv X F p V s)(S:Sub X F p V s L Y)(J:Inv Y F' q τ s'){ι:Nat->ZL}(hf:∀(i:Nat) (t:T),p2[i]?=some (Sl.f t)->p[i]?=some (Sl.f t)\/∃k:Nat,q[k]?=some (Sl.f t)/\τ[k]?=V[i]?)
  (ho:∀(i:Nat) (t:T),p2[i]?=some (Sl.o t)->(p[i]?=some (Sl.o t)/\¬ L i)\/∃k:Nat,q[k]?=some (Sl.o t)/\τ[k]?=V[i]?/\ι k=some i) (ln:p2.length=p.length) :
  Le F F'/\Inv X F' p2 V s'/\∀r v,Res Y F' q τ s'.heap r v->Res X F' p2 V s'.heap r v:=by
 have l:Le F F':=S.F0 ▸ J.le
 have yf:∀{b:Addr} {o:Obj},Y.G b=some o->F' b=none:=fun {b o} e=>by
  cases z:F' b with
  | none=>rfl
  | some x=>exact absurd (.inl (by rw[e];exact fun z=>nomatch z)) (J.f b x z).2
 have kp:∀b o,X.kp b->s.heap.get? b=some o->Kp (H7 X.stack) s'.heap b o:=fun b o k e=>by
  rw[<-S.out];refine J.g b o ?_;rw[S.G];refine Nb (I.kpF k) (fun i t _ e1 e2=>?_) e;obtain⟨b',h1,h2⟩:=I.r.ow i t e1;rw[e2]at h1;cases h1;exact h2.k k
 have rel:Rel X F' p2 V s'.heap:=by
  refine⟨fun i t e=>?_,fun i t e=>?_,fun i j t u a e1 e2 h1 h2=>?_,ln.trans I.r.ln⟩
  .rcases hf i t e with e | ⟨k,e1,e2⟩
   .obtain⟨v,h1,h2⟩:=I.r.fz i t e;exact⟨v,h1,h2.up l⟩
   .obtain⟨v,h1,h2⟩:=J.r.fz k t e1;exact⟨v,e2.symm.trans h1,S.md ▸ h2⟩
  .obtain⟨pt,nl⟩ | ⟨k,ek,es,_⟩:=ho i t e
   .obtain⟨a,h1,w⟩:=I.r.ow i t pt;obtain⟨o,e1,e2⟩:=S.own I pt h1 nl;refine⟨a,h1,w.to l (yf e2) fun x ex=>?_⟩;obtain⟨sl,e3,n⟩:=J.g a o e2;rw[e1]at ex;cases ex;rw[S.out]at n;rw[e3,n fun z=>w.k (I.stackKp z)]
   .obtain⟨a,h1,w⟩:=J.r.ow k t ek;exact⟨a,es.symm.trans h1,w.ofY S I⟩
  .have no:∀{i k:Nat} {t u:T},p[i]?=some (Sl.o t)->¬ L i->V[i]?=some (some (.ref a))->q[k]?=some (Sl.o u)->τ[k]?=some (some (.ref a))->False:=fun {i k t u} g1 g2 g3 g4 g5=>by
    obtain⟨o,_,e2⟩:=S.own I g1 g3 g2;obtain⟨b,z,w⟩:=J.r.ow k u g4;rw[g5]at z;cases z;exact w.k (.inl (by rw[e2];exact fun z=>nomatch z))
   obtain⟨pt,nl⟩ | ⟨k,ek,es,ei⟩:=ho i t e1<;>obtain⟨pt',nl'⟩ | ⟨k',ek',Bc,ei'⟩:=ho j u e2
   .exact I.r.ap i j t u a pt pt' h1 h2
   .exact(no pt nl h1 ek' (Bc.trans h2)).elim
   .exact(no pt' nl' h2 ek (es.trans h1)).elim
   .have:=J.r.ap k k' t u a ek ek' (es.trans h1) (Bc.trans h2);subst this;rw[ei]at ei';exact M7 ei'
 refine⟨l,I.step (J.os.trans S.os) J.bare l (fun a o e=>⟨(J.f a o e).1,fun z=>(J.f a o e).2 (S.kp I z)⟩) (fun a o k _ e=>kp a o k e) (fun m hn=>Nw (fun o e=>let ⟨sl,e',_⟩:=kp _ o (.inr (.inl rfl)) e;⟨sl,e'⟩) hn) rel,fun r v rs=>?_⟩;cases r with
 | no=>exact rs
 | f t=>exact(show IsT X.toMd F' t v from S.md ▸ (show IsT Y.toMd F' t v from rs))
 | o t =>
  obtain⟨a,rfl,w,n⟩:=rs;refine⟨a,rfl,w.ofY S I,fun i u e z=>?_⟩;obtain⟨pt,nl⟩ | ⟨k,ek,es,_⟩:=ho i u e
  .obtain⟨o,e1,e2⟩:=S.own I pt z nl;exact w.k (.inl (by rw[e2];exact fun z=>nomatch z))
  .exact n k u ek (es.trans z)
structure Exa(X:Cx)(F:OM)(h:Heap)(e:Addr)(c:Str)(t:T):Prop where
 f:F e=none
 k:¬ X.kp e
 ex:∃o u vs,h.get? e=some o/\Kz X.toMd F o c u/\IsT X.toMd F t u/\o.data=.fields vs/\EX.QV h vs
theorem Exa.ofY{e:Addr}{c:Str}{t:T}(S:Sub X F p V s L Y)(I:Inv X F p V s)(x:Exa Y F' h e c t):Exa X F' h e c t:=⟨x.f,fun z=>x.k (S.kp I z),S.md ▸ x.ex⟩
theorem Kz.tb{g:Md}{o:Obj}{c:Str}{u v:Value}(h:Kz g F o c u):Kz g F (o.mapFields (·.setIfInBounds 1 v)) c u:=by
 obtain⟨vs,e,z⟩:=h.fs;obtain⟨cl,od,d,sl⟩:=o;dsimp only at e;subst e;exact⟨h.cl,⟨_,rfl,by rw[Array.size_setIfInBounds];exact z⟩,h.dc⟩
theorem C7.neX{e:Addr}{t:T}{o:Obj}{vs:ZD}(w:C7 X F h a t)(ho:h.get? e=some o)(hd:o.data=.fields vs):a≠e:=by
 rintro rfl;have hc:=w.c;have ht:=w.t;cases t with
 | lst ts =>
  obtain⟨b,x,us,e1,e2,k,_⟩:=ht.unL;cases e1;obtain⟨_,n,rfl⟩:=k;rw[ho]at e2;cases e2;cases hd
 | dct ts =>
  obtain⟨b,x,us,e1,e2,k,_⟩:=ht.unD;cases e1;obtain⟨es,ep,d,_⟩:=k.es;rw[ho]at e2;cases e2;rw[d]at hd;cases hd
 | _=>cases hc
theorem Inv.noted{e T':Addr}{oe:Obj}{vs:ZD}{h1 h2:Heap}(I:Inv X F p V s)(fe:F e=none)(ke:¬ X.kp e)(he:s.heap.get? e=some oe)(hd:oe.data=.fields vs)(N:EX.zc X.stack e T' oe s.heap h1)(k2:∀b,b≠T'->h2.get? b=h1.get? b):Inv X F p V { s with heap:=h2 }:=by
 have nT:∀{b:Addr} {o:Obj},s.heap.get? b=some o->b≠T':=fun {b o} q z=>Nat.lt_irrefl _ (N0l (Jr (z ▸ q)) N.new);have kk:∀{b:Addr} {o:Obj},b≠e->b ∉ H7 X.stack->s.heap.get? b=some o->h2.get? b=some o:=fun {b o} n1 n2 q=>(k2 b (nT q)).trans (N.keep b o n1 n2 q);have sl:∀{b:Addr} {o:Obj},b≠e->s.heap.get? b=some o->∃x,h2.get? b=some { o with slots:=x }:=fun {b o} n1 q=>let ⟨x,q'⟩:=N.slot b o n1 q;⟨x,(k2 b (nT q)).trans q'⟩;refine I.step rfl I.bare (.refl F) (fun a o q=>?_) (fun a o k _ q=>?_) (fun m hn=>Nw (fun o q=>sl (fun z=>ke (z ▸ .inr (.inl rfl))) q) hn) (I.r.to (.refl F) fun i t a e1 e2=>?_)
 .obtain⟨q1,q2⟩:=I.f a o q;exact⟨kk (fun z=>by rw[z,fe]at q;cases q) (fun z=>q2 (I.stackKp z)) q1,q2⟩
 .have ne:a≠e:=fun z=>ke (z ▸ k);by_cases hb:a∈H7 X.stack
  .obtain⟨x,q'⟩:=sl ne q;exact⟨x,q',fun z=>absurd hb z⟩
  .exact .same (kk ne hb q)
 .obtain⟨b,g1,w⟩:=I.r.ow i t e1;rw[e2]at g1;cases g1;exact⟨w.f,fun x=>kk (w.neX he hd) fun z=>w.k (I.stackKp z)⟩
end
structure P5(k:Nat)(A:Around):Prop where
 hd:A.handled=none
 dp:A.depth+3 * k+5<recursionLimit
 un:A.units+16 * k+200<cLine
 gd:A.guards=some []
theorem P5.deeper{k:Nat}{A:Around}(r:P5 (k+1) A)(env:Env):P5 k (A.deeper env) :=
 ⟨r.hd,by have:=r.dp;show A.depth+1+3 * k+5<_;omega,by have:=r.un;show A.units+3+16 * k+200<_;omega,r.gd⟩
theorem args_get:∀{as:List A} {p:P} {sl:List Sl},args p as=some sl->sl.length=as.length/\(∀(i:Nat) (s:Sl),sl[i]?=some s->(∃t,as[i]?=some (.t t)/\s=.f t)\/∃j t,as[i]?=some (.s j)/\s=.o t/\p[j]?=some (.o t)) /\
  (∀(i:Nat) (j:Nat),as[i]?=some (.s j)->∃t,sl[i]?=some (.o t)/\p[j]?=some (.o t))/\∀(i k j:Nat),as[i]?=some (.s j)->as[k]?=some (.s j)->i=k
 | [],p,sl,e=>by cases e;exact⟨rfl,fun i s h=>by simp at h,fun i j h=>by simp at h,fun i k j h=>by simp at h⟩
 | .t t::r,p,sl,e=>by
  obtain⟨q,e1,rfl⟩:=Y8.mp (show (args p r).map (.f t::·)=some sl from e);obtain⟨h1,h2,h3,h4⟩:=args_get e1;refine⟨by rw[Jl,Jl,h1],fun i s h=>?_,fun i j h=>?_,fun i k j a b=>?_⟩
  .cases i with
   | zero=>cases(M7 h);exact .inl ⟨t,rfl,rfl⟩
   | succ i=>exact h2 i s h
  .cases i with
   | zero=>cases h
   | succ i=>exact h3 i j h
  .cases i with
   | zero=>cases a
   | succ i=>cases k with
    | zero=>cases b
    | succ k=>exact congrArg _ (h4 i k j a b)
 | .s l::r,p,sl,e=>by
  unfold args at e
  split at e
  .rename_i t et
   obtain⟨q,e1,rfl⟩:=Y8.mp e;obtain⟨h1,h2,h3,h4⟩:=args_get e1
   have up:∀{j:Nat} {u:T},(p.set l .no)[j]?=some (Sl.o u)->j≠l/\p[j]?=some (Sl.o u):=fun {j u} h=>by
    rcases Yw h with ⟨_,z⟩ | h
    .cases z
    .exact h
   refine⟨by rw[Jl,Jl,h1],fun i s h=>?_,fun i j h=>?_,fun i k j a b=>?_⟩
   .cases i with
    | zero=>cases(M7 h);exact .inr ⟨l,t,rfl,rfl,et⟩
    | succ i=>exact(h2 i s h).imp id fun⟨j,u,g1,g2,g3⟩=>⟨j,u,g1,g2,(up g3).2⟩
   .cases i with
    | zero=>cases h;exact⟨t,rfl,et⟩
    | succ i=>obtain⟨u,g1,g2⟩:=h3 i j h;exact⟨u,g1,(up g2).2⟩
   .cases i with
    | zero=>cases a;cases k with
     | zero=>rfl
     | succ k=>obtain⟨u,_,g2⟩:=h3 k l b;exact absurd rfl (up g2).1
    | succ i=>cases k with
     | zero=>cases b;obtain⟨u,_,g2⟩:=h3 i l a;exact absurd rfl (up g2).1
     | succ k=>exact congrArg _ (h4 i k j a b)
  .cases e
theorem Qb:∀{as:List A} {sl:List Sl} {p0 p q:P} {ts:ZZ},args p0 as=some sl->G8 sl q=some ts ->
  ∃p2,outs p as ts=some p2/\p2.length=p.length/\∀(i:Nat) (s:Sl),p2[i]?=some s->(p[i]?=some s/\∀k:Nat,as[k]?≠some (.s i))\/∃(k:Nat) (x:Sl),as[k]?=some (.s i)/\q[k]?=some x/\s=mkO (leftT x)
 | [],sl,p0,p,q,ts,e,eo=>by
  cases e;have:ts=[]:=by cases q<;>(cases eo;rfl)
  subst this;exact⟨p,rfl,rfl,fun i s h=>.inl ⟨h,fun k z=>by simp at z⟩⟩
 | .t t::r,sl,p0,p,q,ts,e,eo=>by
  obtain⟨sl',e1,rfl⟩:=Y8.mp (show (args p0 r).map (.f t::·)=some sl from e);cases q with
  | nil=>cases eo
  | cons x q =>
  obtain⟨p2,h1,h2,h3⟩:=Qb (p:=p) e1 (show G8 sl' q=some ts from eo);refine⟨p2,h1,h2,fun i s h=>?_⟩;rcases h3 i s h with ⟨a,b⟩ | ⟨k,y,a,b,c⟩
  .refine .inl ⟨a,fun k z=>?_⟩;cases k with
   | zero=>cases z
   | succ k=>exact b k z
  .exact .inr ⟨k+1,y,a,b,c⟩
 | .s l::r,sl,p0,p,q,ts,e,eo=>by
  unfold args at e
  split at e
  .rename_i t et
   obtain⟨sl',e1,rfl⟩:=Y8.mp e;cases q with
   | nil=>cases eo
   | cons x q =>
   obtain⟨ts',e2,rfl⟩:=Y8.mp (show (G8 sl' q).map (leftT x::·)=some ts from eo);obtain⟨p2,h1,h2,h3⟩:=Qb (p:=p.set l (mkO (leftT x))) e1 e2;refine⟨p2,h1,h2.trans (XX ..),fun i s h=>?_⟩;rcases h3 i s h with ⟨a,b⟩ | ⟨k,y,a,b,c⟩
   .rcases Yw a with ⟨z1,z2⟩ | ⟨n,a⟩
    .exact .inr ⟨0,x,by rw[z1];rfl,rfl,z2⟩
    .refine .inl ⟨a,fun k z=>?_⟩;cases k with
     | zero=>cases z;exact n rfl
     | succ k=>exact b k z
   .exact .inr ⟨k+1,y,a,b,c⟩
  .cases e
theorem mkO_o{x:Sl}{t:T}(h:mkO (leftT x)=.o t):x=.o t:=by
 cases x with
 | o u=>cases u<;>cases h<;>rfl
 | f u=>cases h
 | no=>cases h
theorem Qr:∀{as:List A} {p:P},(Sg p as).length=p.length/\∀(i:Nat) (s:Sl),(Sg p as)[i]?=some s->(p[i]?=some s/\∀k:Nat,as[k]?≠some (.s i))\/s=.no
 | [],p=>⟨rfl,fun i s h=>.inl ⟨h,fun k z=>by simp at z⟩⟩
 | .t t::r,p=>by
  obtain⟨h1,h2⟩:=Qr (as:=r) (p:=p);refine⟨h1,fun i s h=>(h2 i s h).imp (fun⟨a,b⟩=>⟨a,fun k z=>?_⟩) id⟩;cases k with
  | zero=>cases z
  | succ k=>exact b k z
 | .s l::r,p=>by
  obtain⟨h1,h2⟩:=Qr (as:=r) (p:=p.set l .no);refine⟨h1.trans (XX ..),fun i s h=>?_⟩;rcases h2 i s h with ⟨a,b⟩ | z
  .rcases Yw a with ⟨_,z⟩ | ⟨n,a⟩
   .exact .inr z
   .refine .inl ⟨a,fun k z=>?_⟩;cases k with
    | zero=>cases z;exact n rfl
    | succ k=>exact b k z
  .exact .inr z
def CE(X:Cx)(F:OM)(p:P)(j:Vs)(as:List A)(R:Sl×ZZ->Prop)(v:Value)(s':Shared):Prop:=∃F' p2 r ts,Le F F'/\outs p as ts=some p2/\Inv X F' p2 j s'/\Res X F' p2 j s'.heap r v/\R (r,ts)
def CX(X:Cx)(F:OM)(p:P)(j:Vs)(as:List A)(R:Fb->Prop)(v:Value)(s':Shared):Prop:=∃F' e c t,v=.ref e/\Le F F'/\Inv X F' (Sg p as) j s'/\Exa X F' s'.heap e c t/\R (c,t)
def FnP(g:Md)(C:Cs)(k:Nat)(f:Str):Prop:=∀(a:Addr),g.mg f=some (.ref a)->∀(X:Cx) (F:OM) (p:P) (j:Vs) (s:Shared) (as:List A) (us:ZK) (sl:List Sl) (R:Sl×ZZ->Prop) (Xe:Fb->Prop),X.toMd=g->P5 k X.A->Inv X F p j s->Paired (Ar X F j) as us->args p as=some sl->C f sl R Xe ->
 wpAny (model X.prog X.w) X.A (call (.ref a) us) (CE X F p j as R) (CX X F p j as Xe) s
noncomputable def start(N:ZG)(us:ZK):Vs:=us.map some++List.replicate (N.length - us.length) none
abbrev Hc(as:List A)(i:Nat):Prop:=∃k:Nat,as[k]?=some (.s i)
noncomputable def Ly(X:Cx)(F:OM)(p:P)(j:Vs)(s:Shared)(as:List A)(sl:List Sl)(us:ZK)(N:ZG)(qual:Str)(scope:Scope)(f:Addr)(cd:Value)(xe:ZQ):Cx where
 toMd:=X.toMd
 A:=X.A.deeper (envOfC qual scope s.heap.objs.size f cd)
 N:=N
 env:=envOfC qual scope s.heap.objs.size f cd
 outer:=X.stack
 stack:=envOfC qual scope s.heap.objs.size f cd::X.stack
 own:=true
 calm:=true
 os:=s.os
 G:=GG F p j (Hc as) s.heap
 F0:=F
 σ0:=start N us
 pt:=Yb sl
 xe:=xe
section
variable{X:Cx}{F:OM}{p:P}{V:Vs}{s s1:Shared}{as:List A}{sl:List Sl}{us:ZK}{N ps:ZG}{qual:Str}{scope:Scope}{f:Addr}{cd:Value}{xe:ZQ}
theorem sub_cx:Sub X F p V s (Hc as) (Ly X F p V s as sl us N qual scope f cd xe):=⟨rfl,rfl,rfl,rfl,rfl⟩
theorem Vl{i:Nat}(h:i<us.length):(start N us)[i]?=some (us[i]?):=by
 unfold start;rw[List.getElem?_append_left (by rw[Za];exact h),G0m,We h]
 rfl
theorem qg(I:Inv X F p V s)(S:U9 N ps scope)(hd:X.A.handled=none)(ar:Paired (Ar X F V) as us)(ea:args p as=some sl)(hl:us.length=ps.length)
  (x:InCallC s s.heap.objs.size (bindL (envOfC qual scope s.heap.objs.size f cd).kindOf (ps.zip us) fun _=>none) (cellsFrom (s.heap.objs.size+1) scope.names []) (bindC (envOfC qual scope s.heap.objs.size f cd).kindOf (ps.zip us) fun _=>none) s1) :
  Inv (Ly X F p V s as sl us N qual scope f cd xe) F (sl++List.replicate (N.length - sl.length) .no) (start N us) s1:=by
 have hpl:ps.length<=N.length:=by have:=congrArg List.length S.pre;rw[nu]at this;omega
 obtain⟨h1,tk,rfl,hk⟩:=x.done;obtain⟨a1,a2,a3,a4⟩:=args_get ea;have al:=ar.length;have new:∀{b:Addr},s.heap.objs.size<=b->s.heap.get? b=none:=fun h=>Heap.get?_none_of_le h
 have mn:∀{b:Addr},(Ly X F p V s as sl us N qual scope f cd xe).mn b->s.heap.get? b=none:=fun {b} h=>by
  rcases h with rfl | ⟨_,y,e⟩
  .exact new (D5 _)
  .exact new (Nat.le_of_lt (x.above y b (PySem.mem_of_lookup e)))
 have nokp:∀{b:Addr} {o:Obj},s.heap.get? b=some o->GG F p V (Hc as) s.heap b=none->¬ (Ly X F p V s as sl us N qual scope f cd xe).kp b:=fun {b o} e g h=>by
  rcases h with h | h
  .exact h g
  .rw[mn h]at e;cases e
 have sz:∀{i:Nat} {q:Sl},(sl++List.replicate (N.length - sl.length) Sl.no)[i]?=some q->q≠.no->sl[i]?=some q/\i<us.length:=fun {i q} h n=>by
  rw[List.getElem?_append]at h
  split at h
  .rename_i hi;exact⟨h,by omega⟩
  .rw[List.getElem?_replicate]at h
   split at h
   .cases h;exact absurd rfl n
   .cases h
 have own:∀{i:Nat} {t:T},sl[i]?=some (Sl.o t)->∃j a,as[i]?=some (.s j)/\p[j]?=some (Sl.o t)/\us[i]?=some (.ref a)/\V[j]?=some (some (.ref a))/\C7 X F s.heap a t:=fun {i t} h=>by
  rcases a2 i _ h with ⟨u,_,z⟩ | ⟨j,u,h2,z,h3⟩
  .cases z
  .cases z;obtain⟨v,hv,r⟩:=Y6 ar h2;obtain⟨a,g1,w⟩:=I.r.ow j t h3;rw[show V[j]?=some (some v) from r]at g1;cases g1;exact⟨j,a,h2,h3,hv,r,w⟩
 refine⟨⟨I.ok.mod,S.kind,rfl,rfl, ?_,fun y z c e1 e2=>name_of_addr x.apart (PySem.mem_of_lookup e1) (PySem.mem_of_lookup e2),fun y hy=>?_,fun _=>hd,Around.frames_deeper I.ok.frames,.inr ⟨rfl,rfl⟩,fun a o e=>I.le a o (I.ok.b a o e),fun b hb=>?_,fun a ma=>Q3 (mn ma),fun y c _=>.inl rfl⟩,
  rfl,I.bare,.refl F,fun a o e=>?_,fun a o e=>.same (hk a o ?_),Uy (fun b _ o e=>⟨o.slots,hk b o e⟩) I.stack,⟨_,x.toInCall.ns,fun i y v e1 e2=>?_⟩,fun y c e=>⟨_,x.cell y c e⟩, ?_, ?_,fun _ _=>rfl⟩
 .exact Nat.le_of_lt (N0o I.ok.ab I.lt)
 .have hy:scope.names.lookup y=some .cell\/scope.names.lookup y=some .free:=hy;rcases hy with hy | hy
  .exact Bx hy
  .exact absurd rfl (S.nofree _ (PySem.mem_of_lookup hy))
 .have k:=I.stackKp hb;obtain⟨o,e⟩:=I.kpAt k;rw[show (Ly X F p V s as sl us N qual scope f cd xe).G b=some o from Nb (I.kpF k) (fun i t _ q1 q2=>?_) e]
  .exact fun z=>nomatch z
  .obtain⟨c,g1,w⟩:=I.r.ow i t q1;rw[q2]at g1;cases g1;exact w.k k
 .obtain⟨h1,_⟩:=I.f a o e;exact⟨hk a o h1,nokp h1 (S4 (by rw[e];exact fun z=>nomatch z))⟩
 .have e:GG F p V (Hc as) s.heap a=some o:=e;unfold GG at e
  split at e
  .cases e
  .exact e
 .have hi:i<us.length:=by
   refine Nat.lt_of_not_le fun z=>?_;unfold start at e2;rw[List.getElem?_append_right (by simpa using z),List.getElem?_replicate]at e2
   split at e2<;>cases e2
  rw[Vl hi]at e2;have hu:=M7 e2
  have hp:ps[i]?=some y:=by
   rw[<-S.pre,List.getElem?_take_of_lt (by omega)];exact e1
  have ndP:ps.Nodup:=by rw[<-S.pre];exact S.nd.sublist (List.take_sublist _ _)
  rcases S.par y (List.mem_of_getElem? hp) with k | k
  .exact .inl ⟨k,Jn ndP hp hu k⟩
  .obtain⟨c,e⟩:=Bx (n:=s.heap.objs.size+1) k;refine .inr ⟨.inl k,c,e, ?_⟩;have q:=x.cell y c e;rw[Tj ndP hp hu (by show scope.names.lookup y≠_;rw[k];decide)]at q;exact q
 .unfold start;show _=N.length;rw[Gc,Za,List.length_replicate];omega
 .refine⟨fun i t e=>?_,fun i t e=>?_,fun i j t u a e1 e2 g1 g2=>?_, ?_⟩
  .obtain⟨e,hi⟩:=sz e fun z=>nomatch z;rcases a2 i _ e with ⟨u,h2,z⟩ | ⟨j,u,h2,z,_⟩
   .cases z;obtain⟨v,hv,r⟩:=Y6 ar h2;exact⟨v,by rw[Vl hi,hv],r⟩
   .cases z
  .obtain⟨e,hi⟩:=sz e fun z=>nomatch z;obtain⟨j,a,h2,h3,h4,h5,w⟩:=own e;obtain⟨o,eo⟩:=w.at;exact⟨a,by rw[Vl hi,h4],w.c,w.f,nokp eo (X4 ⟨i,h2⟩ h3 h5),(w.t.to (D':=h1.get?) w.c (hk a))⟩
  .obtain⟨e1,i1⟩:=sz e1 fun z=>nomatch z;obtain⟨e2,i2⟩:=sz e2 fun z=>nomatch z;obtain⟨k,b,h2,h3,h4,h5,_⟩:=own e1;obtain⟨l,c,h2',h3',h4',h5',_⟩:=own e2;rw[Vl i1,h4]at g1;cases g1;rw[Vl i2,h4']at g2;cases g2;have z:=I.r.ap k l t u a h3 h3' h5 h5';subst z;exact a4 i j k h2 h2'
  .unfold start;simp only[Gc,Za,List.length_replicate];omega
end
end PV
namespace L2
open PySem PySem.Spec PyProof.Rows
noncomputable def Gn:ZK:=[.type "ValueError",.type "Exception",.type "BaseException",.type "object"]
noncomputable def Rr:ZK->Bool
 | .ref _::r=>Rr r
 | l=>l == Gn
theorem Lo(self:Value):∀{l:ZK},Rr l=true->refuseLoop self "__setattr__" l=pure ()
 | [],e=>by cases e
 | v::r,e=>by
  cases v with
  | ref c=>rw[refuseLoop_ref];exact Lo self (l:=r) e
  | type n=>rw[show (Value.type n::r)=Gn from beq_iff_eq.mp e];exact PySem.F.store_ValueError.passes self
  | _=>cases(show _=Gn from beq_iff_eq.mp e)
structure Ln(K:W.Frag)(C:Addr):Prop where
 sa:W.findIn K (.ref C) "__setattr__" = some (some (.builtin "object.__setattr__"))
 ga:W.findIn K (.ref C) "__getattribute__" = some (some (.builtin "BaseException.__getattribute__"))
 hk:W.findIn K (.ref C) "__getattr__" = some none
 ca:W.findIn K (.ref C) "__class__" = some (some (.builtin "object.__class__"))
 be:W.mroIn K C (.type "BaseException")=some true
 ob:W.mroIn K C (.type "object")=some true
 hd:W.hasDictIn K C=true
 ty:W.typeIn K (.ref C)=some (.type "type")
 rf:((W.clsIn K C).any fun cd=>Rr cd.mro)=true
 gs:W.specialIn K (.builtin "object.__class__") "__get__" = some (some (.builtin "getset_descriptor.__get__"))
 tk:W.takesIn K (.builtin "object.__class__")=some true
theorem yd:EX.P4:=⟨PySem.F.store_object.slot,PySem.F.store_object.entry,PySem.F.store_object.kind,PySem.F.store_object.split,PySem.F.store_object.args⟩
section
variable{K:W.Frag}{C x:Addr}{M:Model}{h:Heap}{f:Str}{o:Obj}
theorem Ln.setOk(c:Ln K C)(X:K.In h)(n:P7 K C f)(hx:h.get? x=some o)(hc:o.cls=.ref C):EX.nq M h x C f:=by
 refine⟨W.looks_findIn X c.sa,W.looks_findIn X n, ?_,W.looks_mroIn X c.ob, ?_⟩
 .obtain⟨cd,Qe,e⟩:=W.any_some c.rf;have hm:W.Looks M h (mroOf (.ref C)) cd.mro:=(W.looks_clsIn X Qe).andThen .now;intro A Q E s k q;rw[refuse_eq];refine Zq (EX.Dn hx hc _ _ _ _ k (Zq (hm _ _ _ _ k ?_)));rw[Lo _ e];exact Zt q
 .obtain⟨cd,Qe,e⟩:=W.any_some c.hd;exact⟨cd,W.looks_clsIn X Qe,e⟩
theorem Ln.getOk(c:Ln K C)(X:K.In h)(n:P7 K C f):EX.Zqi M h C f:=by
 obtain⟨cd,Qe,e⟩:=W.any_some c.hd;exact⟨W.looks_findIn X c.ga,W.looks_findIn X c.hk,W.looks_findIn X n,W.looks_mroIn X c.be,cd,W.looks_clsIn X Qe,e⟩
end
noncomputable def xIn(K:W.Frag)(C:Addr):Bool :=
 match K.lookup C with
 | some ⟨.type "type",_,.cls cd,⟨[_,_,_,_,some (.builtin n),_]⟩⟩=>match cd.mro with
  | .ref C'::bm=>C' == C && n == "ValueError.__new__" && !cd.hasDel && W.tailIn K Gn bm
  | _=>false
 | _=>false
theorem x_cls{K:W.Frag}{h:Heap}{C:Addr}(X:K.In h)(q:xIn K C=true):∃nm qn N bs bm qt sn sub ab col dd k0 k1 k2 k3 k5,
  h.get? C=some (excClassObj nm qn C N bs bm qt sn sub ab col dd k0 k1 k2 k3 k5 "ValueError.__new__")/\OwnTail h Gn bm:=by
 unfold xIn at q
 split at q
 .rename_i dd cd k0 k1 k2 k3 n k5 ho
  split at q
  .rename_i C' bm hm
   simp only[Vi,beq_iff_eq,Bool.not_eq_true']at q;obtain⟨⟨⟨rfl,rfl⟩,hdel⟩,ht⟩:=q;obtain⟨nm,bs,mro,ns,qn,hd,sn,sub,ab,col,del⟩:=cd;dsimp only at hm hdel;subst hm;subst hdel;exact⟨nm,qn,ns,bs,bm,hd,sn,sub,ab,col,dd,k0,k1,k2,k3,k5,X _ _ ho,W.tail_of_in X ht⟩
  .cases q
 .cases q
theorem Hp{K:W.Frag}{M:Model}{h:Heap}{C:Addr}(k:K.In h)(e:(W.clsIn K C).isSome=true):EX.Lk M h (isType (.ref C)) true:=by
 unfold W.clsIn at e
 split at e
 .rename_i ho;exact EX.is_cls (k _ _ ho) rfl
 .cases e
theorem Ln.here{K:W.Frag}{C:Addr}(c:Ln K C):(W.clsIn K C).isSome=true:=by
 obtain⟨cd,e,_⟩:=W.any_some c.hd;rw[e];rfl
end L2
namespace PV
open PySem PySem.Spec PyProof.Rows L2
structure n5(K:W.Frag)(fi:Addr)(fld:Str):Prop where
 ex:∃(name qual y:Str) (st:Stmt) (oc:Value) (od:ZR) (kV doc pm:Value) (an:ZR) (cdv ct:Value) (osl:ZY) (p1 p2 p3 p4:Pos),
  K.lookup fi=some ⟨oc,od,.func (W.fnOf name qual (Vy st) (Z2 st) (Zx st) .none kV doc pm an cdv ct),osl⟩/\W.codeIn K cdv qual=true/\U9 ["self",y] ["self",y] (Zx st) /\
  (Zx st).names.lookup ("self" : Str)=some NameKind.local/\(Zx st).names.lookup y=some NameKind.local/\(y == ("__debug__" : Str))=false/\Z2 st=[.Assign [.Attribute (.Name "self" p1) fld p2] (.Name y p3) p4] /\
  ∀us:ZK,us.length=2->bindArgs (W.fnOf name qual (Vy st) (Z2 st) (Zx st) .none kV doc pm an cdv ct) ⟨us,[]⟩=pure ([("self" : Str),y].zip us)
structure XF(g:Md)(d:je)(C:Addr)(fi:Addr):Prop where
 m:g.mg d.c=some (.ref C)
 c:Ln g.K C
 no:P7 g.K C d.fld
 made:xIn g.K C=true
 init:W.findIn g.K (.ref C) "__init__" = some (some (.ref fi))
 fn:W.isFn g.K (.ref fi)=true
 kp:W.keepIn g.K (.ref C)=true
 i:n5 g.K fi d.fld
theorem Hb{A:Around}{C:Addr}{us:ZK}:(A.under (.builtin "type.__call__" ⟨.ref C::us,[]⟩)).depth=A.depth+1:=by
 first | rfl | simp[Around.under,Code.weight,Code.isCreation,Code.isGuard,Code.isCaller,Code.frames,Code.isFrame,guardIds]
section
variable{X:Cx}{F:OM}{p:P}{j:Vs}{s:Shared}{d:je}{C fi:Addr}{t:T}{u:Value}
theorem o4(xf:XF X.toMd d C fi)(hf:qa d.c=d.fld)(I:Inv X F p j s)(hd:X.A.depth+5<recursionLimit)(it:IsT X.toMd F t u){Q:ZQ}
  (k:∀F' s' e o vs,Le F F'->Inv X F' p j s'->Exa X F' s'.heap e d.c t->s'.heap.get? e=some o->o.cls=.ref C->o.data=.fields vs->vs[1]?=some .none->Q (.ref e) s'):WP X (call (.ref C) [u]) Q s:=by
 obtain⟨nm,qn,N,bs,bm,qt,sn,sub,ab,col,dd,k0,k1,k2,k3,k5,hC,T⟩:=x_cls I.kIn xf.made;obtain⟨name,qual,y,st,oc,od,kV,doc,pm,an,cdv,ct,osl,p1,p2,p3,p4,lk,R4,S,l1,l2,ly,hb,ba⟩:=xf.i.ex;obtain⟨hh,gg,dr,tk,os⟩:=s;have kin:X.K.In hh:=I.kIn;have lim:hh.NoLimit:=I.ok.mod.nolimit.keeps I.bk;have mk:∀b o,hh.get? b=some o->(EX.made hh C [u]).get? b=some o:=EX.Dp;refine EX.tc PySem.F.excBase_ValueError T hC (W.looks_findIn kin xf.init) (W.looks_typeIn kin (beq_iff_eq.mp xf.fn)) (show 1<=sizeLine by decide) ?_;have d1:=Hb (A:=X.A) (C:=C) (us:=[u]);have kin1:X.K.In (EX.made hh C [u]):=kin.keeps mk;refine wpAny_call (codeAny_mono (R:=fun r s'=>match r with | .ok (.ret v)=>v=.none/\Q (.ref (hh.objs.size+1)) s' | .ok _=>False | .error e=>X.xe e s') ?_ fun r s' hq=>hq);refine codeAny_call_function (by omega) (kin1 _ _ lk) rfl S.co S.gen rfl (W.codeRec_of kin1 R4) (BindsTo.of_eq (ba [.ref (hh.objs.size+1),u] rfl) _ _ _ _ ?_)
 refine wpAny_newFunctionEnv_cells S.kind (fun⟨n,v⟩ hy=>by
  simp only[List.zip_cons_cons,List.zip_nil_right,Vt,Td,or_false,Prod.mk.injEq]at hy;rcases hy with ⟨rfl,rfl⟩ | ⟨rfl,rfl⟩
  .exact .inl l1
  .exact .inl l2) fun env he s1 x1=>?_
 subst he;refine⟨(lim.keeps mk).keeps x1.toInCall.keep,codeAny_func ?_⟩;have hn:=x1.toInCall.ns;obtain⟨h1,tk1,rfl,hk⟩:=x1.done;have e1:h1.get? (hh.objs.size+1)=some (EX.Zzs C hh.objs.size):=hk _ _ EX.Xs;have nd:=S.nd;show wpAny _ _ (execs (Z2 st) _) _ _ _;rw[hb];have S0:=xf.c.setOk (M:=model X.prog X.w) (h:=h1) (kin1.keeps hk) xf.no e1 rfl;have m1:bindL (envOfC qual (Zx st) (EX.made hh C [u]).objs.size fi cdv).kindOf ([("self" : Str),y].zip [.ref (hh.objs.size+1),u]) (fun _=>none) ("self" : Str)=some (.ref (hh.objs.size+1)):=Jn (i:=0) S.nd rfl rfl l1;have m2:bindL (envOfC qual (Zx st) (EX.made hh C [u]).objs.size fi cdv).kindOf ([("self" : Str),y].zip [.ref (hh.objs.size+1),u]) (fun _=>none) y=some u:=Jn (i:=1) S.nd rfl rfl l2;refine wpAny_execs_cons (plainObj_wpAny_Assign_Attribute (wpAny_Name (wpAny_loadName_local S.kind l2 hn m2 (wpAny_Name (wpAny_loadName_local S.kind l1 hn m1 ?_) rfl)) ly) rfl);refine EX.xk yd S0 e1 rfl rfl rfl fun h' tk' kp e2 ns=>wpAny_execs_nil ?_;refine⟨rfl, ?_⟩;have K0:∀b o,hh.get? b=some o->h'.get? b=some o:=fun b o e=>kp b o (fun z=>by rw[z,Heap.get?_none_of_le (Nat.le_succ _)]at e;cases e) (hk _ _ (mk _ _ e))
 have ou:hh.get? h1.objs.size=none:=by
  cases z:hh.get? h1.objs.size with
  | none=>rfl
  | some o=>exact absurd (Jr (hk _ _ (mk _ _ z))) (Nat.lt_irrefl _)
 have ne':hh.get? (hh.objs.size+1)=none:=Heap.get?_none_of_le (Nat.le_succ _)
 have fe:∀{b:Addr},hh.get? b=none->F b=none:=fun {b} z=>by
  cases q:F b with
  | none=>rfl
  | some o=>rw[show hh.get? b=some o from I.fh _ _ q]at z;cases z
 obtain⟨oD,es,ep,eD,dD,sD,uD,fD⟩:=ns;have l:Le F (F.put h1.objs.size oD):=.put (fe ou);have ne:hh.objs.size+1≠h1.objs.size:=fun z=>Nat.lt_irrefl _ (z ▸ Jr e1);refine k (F.put h1.objs.size oD) _ (hh.objs.size+1) _ #[.ref hh.objs.size,.none,.none,.none,.bool false,.none] l (I.more (h':=h') (t:=tk') (fun b o _=>K0 b o) (fun m hn=>hn.keeps K0) l fun a o e=>?_) ⟨?_,fun z=>?_,_,u,_,e2,⟨⟨C,rfl,xf.m⟩,⟨_,rfl,rfl⟩,h1.objs.size,oD,_,rfl,G4,fun h e=>⟨oD,es,ep,e,dD,sD,fD⟩,by rw[hf];exact if_pos rfl⟩,it.up l,rfl,.inl rfl⟩ e2 rfl rfl rfl
 .by_cases z:a=h1.objs.size
  .subst z;rw[G4]at e;cases e;exact .inr ⟨ou,eD⟩
  .rw[G2 z]at e;exact .inl e
 .rw[G2 ne];exact fe ne'
 .obtain⟨o,e⟩:=I.kpAt z;rw[show hh.get? _=_ from ne']at e;cases e
end
def Fo(X:Cx)(F:OM)(p:P)(j:Vs)(h:Heap)(D:En):Flow->Prop
 | .next=>D.nx p
 | .brk=>D.bk p
 | .cont=>D.ct p
 | .ret v=>∃r,Res X F p j h r v/\D.rt r p
def SP(X:Cx)(F:OM)(D:En)(fl:Flow)(s':Shared):Prop:=∃F' p' σ',Le F F'/\Inv X F' p' σ' s'/\Fo X F' p' σ' s'.heap D fl
def SB(w:W)(b:S)(X:Cx)(xs:List Stmt):Prop:=∀(F:OM) (p:P) (j:Vs) (s:Shared) (D:En),Inv X F p j s->wS w X.pt b p D->WP X (execs xs X.env) (SP X F D) s
def SS(w:W)(b:S)(X:Cx)(st:Stmt):Prop:=∀(F:OM) (p:P) (j:Vs) (s:Shared) (D:En),Inv X F p j s->wS w X.pt b p D->WP X (exec st X.env) (SP X F D) s
theorem SP.le{X:Cx}{F0 F:OM}{D:En}{fl:Flow}{s':Shared}(l:Le F0 F)(h:SP X F D fl s'):SP X F0 D fl s':=let ⟨F',p',σ',l',h⟩:=h;⟨F',p',σ',l.trans l',h⟩
def jh(X:Cx)(w:W):Prop:=∀(F:OM) (p:P) (j:Vs) (s:Shared) (e:Addr) (c:Str) (t:T),Inv X F p j s->Exa X F s.heap e c t->w.xe (c,t) p->X.xe (.ref e) s
noncomputable def Dc:ZG:=["len","all","any","list","tuple","min","max","int","abs","dict","isinstance","sorted","set","range","zip","enumerate","sum","repr","str","bool"]
def TopF(g:Md)(x:Str)(XY:ZX):Prop:=∃a vs,g.mg x=some (.ref a)/\g.base.DictOf (Zf g.prog g.w) a vs/\(a == sysModules)=false/\vs.length<=sizeLine/\Yz g g.base.get? XY vs
structure BN(g:Md):Prop where
 b:∀x∈Dc,g.mg x=none
 d:∀x∈Dg,∃a,g.mg x=some (.ref a)/\W.keepIn g.K (.ref a)=true
 t:∀x XY,Rq x=some XY->TopF g x XY
 k:Dg.contains R0=true->Zxf g
 x:∀d∈Mq,∃C fi,XF g d C fi
 h:∀c∈jq,∃D,g.mg c=some (.ref D)/\Ln g.K D/\∀d∈Mq,∀C,g.mg d.c=some (.ref C)->W.mroIn g.K C (.ref D)=some (Ol d.c c)
structure Ct(X:Cx)(w:W)(k:Nat)(N:ZG)(sc:ZW):Prop where
 nN:X.N=N
 nd:N.Nodup
 nm:∀x c,sc.lookup x=some c->X.env.scope.names.lookup x=some c\/(c=.free/\X.env.scope.names.lookup x=some .cell)
 room:X.calm=true->P5 k X.A
 un:X.A.units+150<cLine
 gd:X.A.guards=some []
 bn:BN X.toMd
 fn:∀f as R Xe,w.C f as R Xe->FnP X.toMd w.C k f
 gl:∀x t,w.gl x=some t->∃v,X.mg x=some v/\IsT X.toMd X.base.get? t v
 xe:jh X w
 cl:∀x,sc.lookup x=some .cell->X.own=true
 calm:X.calm=true
section
variable{X:Cx}{F:OM}{p:P}{j:Vs}{s s1:Shared}{as:List A}{sl:List Sl}{us:ZK}{N ps:ZG}{qual:Str}{scope:Scope}{f:Addr}{cd:Value}{xe:ZQ}{R:Sl×ZZ->Prop}{Xe:Fb->Prop}
theorem bw{Y:Cx}{F':OM}{q:P}{τ:Vs}{s':Shared}{e:Addr}{c:Str}{t:T}{M:Model}{Q:ZH}{E:ZQ}(J:Inv Y F' q τ s')(x:Exa Y F' s'.heap e c t)(Dv:Y.stack=Y.env::Y.outer)(Du:Y.env.frame=some Y.env.locals)
  (k:∀h',Inv Y F' q τ { s' with heap:=h' }->Exa Y F' h' e c t->Q () { s' with heap:=h' }):wpAny M Y.A (leaving Y.env (.ref e)) Q E s':=by
 obtain⟨o,u,vs,he,hx,ht,hd,qv⟩:=x.ex;have fr:Y.A.frames=some (Y.env::Y.outer):=by rw[J.ok.frames,Dv]
 have hl:s'.heap.FunFrames Y.base (Y.env::Y.outer):=by rw[<-Dv];exact J.stack
 refine EX.bg fr hl Du he hd qv fun g1 g2 T' N k2 qv2=>?_;have nT:e≠T':=fun z=>Nat.lt_irrefl _ (N0l (Jr (z ▸ he)) N.new);refine k g2 (J.noted (T':=T') x.f x.k he hd (by rw[Dv];exact N) k2) ⟨x.f,x.k,_,u,_,(k2 e nT).trans N.exc,hx.tb,ht,Obj.data_mapFields hd _,qv2⟩
theorem jv{Y:Cx}(I:Inv X F p j s)(S:Sub X F p j s (Hc as) Y)(ea:args p as=some sl)(ar:Paired (Ar X F j) as us)(hpt:Y.pt=Yb sl)(hσ:Y.σ0=start N us){F':OM}{q:P}{τ:Vs}{s':Shared}(J:Inv Y F' q τ s'){ts:ZZ}(eo:G8 sl q=some ts) :
  ∃p2,outs p as ts=some p2/\Le F F'/\Inv X F' p2 j s'/\∀r v,Res Y F' q τ s'.heap r v->Res X F' p2 j s'.heap r v:=by
 obtain⟨a1,a2,a3,a4⟩:=args_get ea;obtain⟨p2,o1,o2,o3⟩:=Qb (p:=p) ea eo;refine⟨p2,o1,I.exit (ι:=fun k=>match as[k]? with | some (.s i)=>some i | _=>none) S J (fun i t e=>?_) (fun i t e=>?_) o2⟩
 .rcases o3 i _ e with ⟨h,_⟩ | ⟨k,x,_,_,z⟩
  .exact .inl h
  .exact absurd z.symm mkO_f
 .rcases o3 i _ e with ⟨h,n⟩ | ⟨k,x,h1,h2,z⟩
  .exact .inl ⟨h,fun⟨k,hk⟩=>n k hk⟩
  .obtain⟨u,g1,g2⟩:=a3 k i h1;obtain⟨v,hv,r⟩:=Y6 ar h1;refine .inr ⟨k,by rw[h2,mkO_o z.symm], ?_,by rw[h1]⟩;rw[J.pr k (by rw[hpt];unfold Yb;rw[g1]),hσ,Vl (n6.mp hv).1,hv];exact r.symm
theorem jw{Y:Cx}(I:Inv X F p j s)(S:Sub X F p j s (Hc as) Y){F':OM}{q:P}{τ:Vs}{s':Shared}(J:Inv Y F' q τ s'):Le F F'/\Inv X F' (Sg p as) j s':=by
 obtain⟨o2,o3⟩:=Qr (as:=as) (p:=p);have:=I.exit (p2:=Sg p as) (ι:=fun _=>none) S J (fun i t e=>(o3 i _ e).elim (fun h=>.inl h.1) fun z=>nomatch z) (fun i t e=>(o3 i _ e).elim (fun h=>.inl ⟨h.1,fun⟨k,hk⟩=>h.2 k hk⟩) fun z=>nomatch z) o2;exact⟨this.1,this.2.1⟩
end
structure Zc(K:W.Frag)(x:Str)(st:Stmt)(f:Addr)(fd:FuncData):Prop where
 ex:∃(oc:Value) (od:ZR) (kV doc pm:Value) (an:ZR) (cdv ct:Value) (osl:ZY),fd=W.fnOf x x (Vy st) (Z2 st) (Zx st) .none kV doc pm an cdv ct/\K.lookup f=some ⟨oc,od,.func fd,osl⟩/\W.codeIn K cdv x=true
 kp:W.keepIn K (.ref f)=true
theorem fn_of{g:Md}{x:Str}{st:Stmt}{f:Addr}{fd:FuncData}{N ps:ZG}{k:Nat}{d:Df}{C C':Cs}{gl:Str->Option T}(Fn:Zc g.K x st f fd)(hm:g.mg x=some (.ref f))(S:U9 N ps (Zx st))(hn:N.length=d.n)(ha:ps.length=d.ar)(hb:Binds g.K fd ps [])
  (hC:∀as R Xe,C' x as R Xe->W6 d ⟨C,gl,fun e _=>Xe e⟩ as R)
  (body:∀(Y:Cx) (w:W),Y.toMd=g->Y.env.scope=Zx st->Y.N=N->Y.own=true->Y.calm=true->Y.stack=Y.env::Y.outer->Y.env.frame=some Y.env.locals->P5 k Y.A->w.C=C->w.gl=gl->jh Y w->PassesOwn (model Y.prog Y.w) Y.A Y.env Y.xe->SB w d.code Y (Z2 st)):FnP g C' (k+1) x:=by
 intro f' hm' X F p j s as us sl R Xe hX hr I ar ea hc;subst hX;have e0:f=f':=by rw[hm]at hm';cases hm';rfl
 subst e0;have hc:=hC sl R Xe hc;unfold W6 at hc;obtain⟨oc,od,kV,doc,pm,an,cdv,ct,osl,rfl,lk,R4⟩:=Fn.ex;obtain⟨a1,a2,a3,a4⟩:=args_get ea;have al:=ar.length
 split at hc
 rotate_left
 .exact hc.elim
 rename_i hal
 have hl:us.length=ps.length:=by omega
 have KX:X.K.In s.heap:=I.kIn;have lim:s.heap.NoLimit:=I.ok.mod.nolimit.keeps I.bk
 have hkind:∀y∈ps.zip us,(Zx st).names.lookup y.1=some .local\/((Zx st).names.lookup y.1=some .cell/\((cellsFrom (s.heap.objs.size+1) (Zx st).names []).lookup y.1).isSome=true):=fun⟨n,v⟩ hy=>by
  rcases S.par n (List.of_mem_zip hy).1 with q | q
  .exact .inl q
  .exact .inr ⟨q,PySem.W.cellsFrom_some _ _ _ (.inl q)⟩
 have bb:=hb s us KX (by rw[ZE];exact hl);rw[ZE]at bb;refine wpAny_call (codeAny_mono (R:=fun r s'=>match r with | .ok (.ret v)=>CE X F p j as R v s' | .ok _=>False | .error e=>CX X F p j as Xe e s') ?_ fun r s' hq=>hq);refine codeAny_call_function (by have:=hr.dp;omega) (KX _ _ lk) rfl S.co S.gen rfl (PySem.W.codeRec_of KX R4) (bb _ _ _ _ ?_);refine wpAny_newFunctionEnv_cells S.kind hkind fun env he s1 x1=>?_;subst he;refine⟨lim.keeps x1.toInCall.keep,codeAny_func ?_⟩
 let xe:ZQ:=fun e s'=>wpAny (model X.prog X.w) (X.A.deeper (envOfC x (Zx st) s.heap.objs.size f cdv)) (leaving (envOfC x (Zx st) s.heap.objs.size f cdv) e) (fun _ s''=>CX X F p j as Xe e s'') (fun e' s''=>CX X F p j as Xe e' s'') s'
 have I1:Inv (Ly X F p j s as sl us N x (Zx st) f cdv xe) F _ (start N us) s1:=qg I S hr.hd ar ea hl x1;have sub:Sub X F p j s (Hc as) (Ly X F p j s as sl us N x (Zx st) f cdv xe):=sub_cx
 have hx:jh (Ly X F p j s as sl us N x (Zx st) f cdv xe) ⟨C,gl,fun e _=>Xe e⟩:=fun F' q τ s' e c t J ex hw=>bw J ex rfl rfl fun h' J' ex'=>by
  obtain⟨l,J2⟩:=jw I sub J';exact⟨F',e,c,t,rfl,l,J2,ex'.ofY sub I,hw⟩
 have hN:N.length - sl.length=d.n - d.ar:=by omega
 rw[hN]at I1;refine wpAny_mono (body (Ly X F p j s as sl us N x (Zx st) f cdv xe) ⟨C,gl,fun e _=>Xe e⟩ rfl rfl rfl rfl rfl rfl rfl (hr.deeper _) rfl rfl hx PassesOwn.leaving F _ _ s1 _ I1 hc) (fun fl s' ⟨F',q,τ,l,J,fo⟩=>?_) fun e s' hs=>hs
 have fin:∀{r:Sl} {v:Value},Res (Ly X F p j s as sl us N x (Zx st) f cdv xe) F' q τ s'.heap r v->on (fin sl r q) R->CE X F p j as R v s':=fun {r v} rs h=>by
  obtain⟨z,e,h⟩:=Zi h;obtain⟨ts,e2,rfl⟩:=Y8.mp e;obtain⟨p2,o1,l2,J2,rr⟩:=jv I sub ea ar rfl rfl J e2;exact⟨F',p2,r,ts,l2,o1,J2,rr r v rs,h⟩
 cases fl with
 | ret u=>obtain⟨r,rs,h⟩:=fo;exact fin rs h
 | next=>exact fin (r:=.f .non) (v:=Value.none) Top.non fo
 | brk=>exact fo.elim
 | cont=>exact fo.elim
section
variable{X:Cx}{w:W}{k:Nat}{N:ZG}{sc:ZW}{es:E}{xs:ZM}{f:Str}{pos q:Pos}{F:OM}{p:P}{j:Vs}{s:Shared}
theorem yl(c:Ct X w k N sc)(hc:X.calm=true){as:List A}{us:ZK}{Q:Sl->P->Prop}{a:Addr}(hm:X.mg f=some (.ref a))(I:Inv X F p j s)(ar:Paired (Ar X F j) as us)(h:wC w f as p Q):WP X (call (.ref a) us) (EP X F j Q) s:=by
 obtain⟨sl,ea,h⟩:=Zi h;refine wpAny_mono (c.fn _ _ _ _ h a hm X F p j s as us sl _ _ rfl (c.room hc) I ar ea h) (fun v s' ⟨F',p2,r,ts,l,e,J,rs,q⟩=>?_) fun v s' ⟨F',e,c',t,ev,l,J,x,q⟩=>?_
 .obtain⟨p3,e3,q⟩:=Zi q;have e3:outs p as ts=some p3:=e3;rw[e]at e3;cases e3;exact⟨F',p2,r,l,J,rs,q⟩
 .subst ev;exact c.xe F' _ j s' e c' t J x q
theorem Ct.gi(c:Ct X w k N sc){x:Str}(h:sc.lookup x=some .globalImplicit):Gl X x:=by
 rcases c.nm x _ h with e | ⟨z,_⟩
 .exact e
 .cases z
theorem ur{x:Expr}(c:Ct X w k N sc)(hc:X.calm=true)(hg:sc.lookup f=some .globalImplicit)(hd:(f == ("__debug__" : Str))=false)(hf:f∈Dg)(hs:Hs X w false es (x::xs)):SE w (.call f es) X (.Call (.Name f q) (x::xs) [] pos):=fun F p j s Q I h=>by
 obtain⟨a,hm,kp⟩:=c.bn.d f hf;refine wpAny_Call_Name_kw (J0 I (c.gi hg) hm hd ?_);have st:=hs.star;refine PySem.W.callWith_K (h₀:=X.base) I.ok.mod.kin kp (Yx st (evs hs I h fun F1 p1 as us s1 l I1 ar _ q=>⟨I1.kIn, ?_⟩)) (Z4 (st _ Yd)) (Yt xs X.env pos fun e m=>st e (Vq _ m));exact Yo (yl c hc hm I1 ar q) fun v s2 q=>q.le l
theorem se_cal{i:Nat}{y:Str}{x:Expr}(c:Ct X w k N sc)(hc:X.calm=true)(n:Nm X i y)(hs:Hs X w false es (x::xs)):SE w (.cal i es) X (.Call (.Name y q) (x::xs) [] pos):=fun F p j s Q I h=>by
 unfold wE at h
 split at h
 .rename_i f e
  obtain⟨v,h1,h2⟩:=I.r.fz i _ e;cases h2 with | fn hm kp =>
  refine wpAny_Call_Name_kw (Th n I h1 ?_);have st:=hs.star;refine PySem.W.callWith_K (h₀:=X.base) I.ok.mod.kin kp (Yx st (evs hs I h fun F1 p1 as us s1 l I1 ar _ q=>⟨I1.kIn, ?_⟩)) (Z4 (st _ Yd)) (Yt xs X.env pos fun e m=>st e (Vq _ m));exact Yo (yl c hc hm I1 ar q) fun v s2 q=>q.le l
 .exact h.elim
end
section
variable{X:Cx}{F:OM}{p:P}{V:Vs}{s:Shared}{h':Heap}{i tk:Nat}{t t':T}{a:Addr}
theorem Inv.mut(I:Inv X F p V s)(e:p[i]?=some (Sl.o t))(e2:V[i]?=some (some (.ref a)))(hs:∀b o,b≠a->s.heap.get? b=some o->h'.get? b=some o)(c:C5 t'=true)(q:Top X.toMd F h'.get? t' (.ref a)):Inv X F (p.set i (.o t')) V { s with heap:=h',toks:=tk }:=by
 obtain⟨a',h1,w⟩:=I.r.ow i t e;rw[e2]at h1;cases h1
 have own:∀{j:Nat} {u:T},(p.set i (Sl.o t'))[j]?=some (Sl.o u)->(j=i/\u=t')\/(j≠i/\p[j]?=some (Sl.o u)):=fun {j u} q=>by
  rcases Yw q with ⟨z,y⟩ | z
  .cases y;exact .inl ⟨z,rfl⟩
  .exact .inr z
 refine I.step rfl I.bare (.refl F) (fun b o q=>?_) (fun b o k _ q=>.same (hs b o (fun z=>w.k (z ▸ k)) q)) (fun m hn=>Nw (fun o q=>⟨o.slots,hs _ o (Ne.symm w.ne) q⟩) hn) ⟨fun j u q=>?_,fun j u q=>?_,fun j l u u' b q1 q2 g1 g2=>?_,by rw[XX];exact I.r.ln⟩
 .obtain⟨q1,q2⟩:=I.f b o q;exact⟨hs b o (fun z=>by rw[z,w.f]at q;cases q) q1,q2⟩
 .rcases Yw q with ⟨_,z⟩ | ⟨_,q⟩
  .cases z
  .exact I.r.fz j u q
 .rcases own q with ⟨rfl,rfl⟩ | ⟨n,q⟩
  .exact⟨a,e2,c,w.f,w.k,by assumption⟩
  .obtain⟨b,g1,w2⟩:=I.r.ow j u q;exact⟨b,g1,w2.to (.refl F) w2.f fun x=>hs b x fun z=>n (I.r.ap j i u t b q e g1 (z ▸ e2))⟩
 .have old:∀{j:Nat} {u:T},(p.set i (Sl.o t'))[j]?=some (Sl.o u)->∃u',p[j]?=some (Sl.o u'):=fun {j u} q=>by
   rcases own q with ⟨rfl,_⟩ | ⟨_,q⟩
   .exact⟨t,e⟩
   .exact⟨u,q⟩
  obtain⟨u1,q1⟩:=old q1;obtain⟨u2,q2⟩:=old q2;exact I.r.ap j l u1 u2 b q1 q2 g1 g2
end
section
variable{g:Md}{F:OM}{XY:ZX}{vs:List (Key×Value)}{k:Key}{t:T}{v:Value}{a:Addr}{h:Heap}
theorem Ls.of(dd:h.DictOf (Zf g.prog g.w) a vs)(z:vs.length<=sizeLine)(ns:(a == sysModules)=false):∃o,h.get? a=some o/\Ls g a o vs:=let ⟨o,es,ep,e,ex,d,c,pr,nd⟩:=dd;⟨o,e,ex,⟨es,ep,d,c,pr⟩,nd,z,ns⟩
theorem Yz.put(it:IsT g F t v)(r:Yz g F XY vs):Yz g F (Zo XY k t) (stored vs k v):=by
 have hi:(XY.any fun p=>decide (p.1=k))=vs.any fun p=>decide (p.1=k):=by
  induction r with
  | nil=>rfl
  | cons q _ ih=>rw[List.any_cons,List.any_cons,ih,q.1]
 unfold Zo stored;rw[hi]
 split
 .refine Qf (fun x y q=>?_) r;rw[q.1];by_cases e:y.1=k
  .rw[if_pos e,if_pos e];exact⟨rfl,it⟩
  .rw[if_neg e,if_neg e];exact q
 .exact Ji r (.cons ⟨rfl,it⟩ .nil)
end
noncomputable def locs(sc:ZW)(x:Str):Bool:=match sc.lookup x with
 | some .local=>true
 | some .cell=>true
 | _=>false
theorem zq{e:Expr}{es:ZM}{env:Env}(h:noStar e=true):assignEach (e::es) env=(false,assign e env)::assignEach es env:=by
 cases e<;>first | rfl | cases h
theorem Ww:∀{es:ZM} {env:Env},(∀x∈es,noStar x=true)->(assignEach es env).length=es.length/\(assignEach es env).findIdx? (·.1)=none
 | [],env,_=>⟨rfl,rfl⟩
 | e::es,env,h=>by
  rw[zq (h e Yd)];obtain⟨h1,h2⟩:=Ww (env:=env) fun x m=>h x (Vq _ m);exact⟨by rw[Jl,Jl,h1],by rw[List.findIdx?_cons,h2];rfl⟩
inductive Shp where
 | name(y:Str) | bin(a:Expr)(op:Operator)(b:Expr) | cmp(a:Expr)(ops:List CmpOp)(bs:ZM) | un(op:UnaryOp)(a:Expr) | sub(a b:Expr) | dct(ks:List (Option Expr))(vs:ZM)
 | callN (f:Str) (xs:ZM) | callA (o:Expr) (m:Str) (ap:Pos) (xs:ZM) (cp:Pos) | tup (xs:ZM) | lst (xs:ZM) | boo (o:BoolOp) (xs:ZM) (p:Pos) | ife (c a b:Expr) | lc (e:Expr) (g:List Comprehension) (s:Scope) | slc (l h s:Option Expr) | att (o:Expr) (m:Str) | non
noncomputable def shpC:Expr->ZM->List Keyword->Pos->Shp
 | .Name f _,xs,[],_=>.callN f xs
 | .Attribute o m ap,xs,[],cp=>.callA o m ap xs cp
 | _,_,_,_=>.non
noncomputable def T2:Expr->Shp
 | .Name y _=>.name y
 | .BinOp a op b _=>.bin a op b
 | .Compare a ops bs _=>.cmp a ops bs
 | .UnaryOp op a _=>.un op a
 | .Subscript a b _=>.sub a b
 | .Dict ks vs _=>.dct ks vs
 | .Call f xs ks cp=>shpC f xs ks cp
 | .Tuple xs _ _=>.tup xs
 | .List xs _=>.lst xs
 | .BoolOp o xs p=>.boo o xs p
 | .IfExp c a b _=>.ife c a b
 | .ListComp e g s _=>.lc e g s
 | .Slice l h s _=>.slc l h s
 | .Attribute o m _=>.att o m
 | _=>.non
def ShpI:Shp->Expr->Prop
 | .name y,x=>∃p,x=.Name y p
 | .bin a op b,x=>∃p,x=.BinOp a op b p
 | .cmp a ops bs,x=>∃p,x=.Compare a ops bs p
 | .un op a,x=>∃p,x=.UnaryOp op a p
 | .sub a b,x=>∃p,x=.Subscript a b p
 | .dct ks vs,x=>∃p,x=.Dict ks vs p
 | .callN f xs,x=>∃q p,x=.Call (.Name f q) xs [] p
 | .callA o m ap xs cp,x=>x=.Call (.Attribute o m ap) xs [] cp
 | .tup xs,x=>∃j p,x=.Tuple xs j p
 | .lst xs,x=>∃p,x=.List xs p
 | .boo o xs p,x=>x=.BoolOp o xs p
 | .ife c a b,x=>∃p,x=.IfExp c a b p
 | .lc e g s,x=>∃p,x=.ListComp e g s p
 | .slc l h s,x=>∃p,x=.Slice l h s p
 | .att o m,x=>∃p,x=.Attribute o m p
 | .non,_=>True
theorem pe(x:Expr):ShpI (T2 x) x:=by
 cases x
 case Call f xs ks cp =>
  cases f
  case Name=>cases ks with
   | nil=>exact⟨_,_,rfl⟩
   | cons _ _=>trivial
  case Attribute=>cases ks with
   | nil=>rfl
   | cons _ _=>trivial
  all_goals exact True.intro
 case BoolOp=>rfl
 case Tuple=>exact⟨_,_,rfl⟩
 all_goals first | exact⟨_,rfl⟩ | exact True.intro
theorem Ze{x:Expr}{s:Shp}(e:T2 x=s):ShpI s x:=e ▸ pe x
noncomputable def Jy(x:Expr):Option Str:=match T2 x with
 | .name y=>some y
 | _=>none
theorem Vv{x:Expr}{y:Str}(h:Jy x=some y):∃p,x=.Name y p:=by
 unfold Jy at h
 split at h
 .rename_i e
  cases h;exact Ze e
 .cases h
noncomputable def Ti(x:Expr):Option (ZM):=match T2 x with
 | .tup xs=>some xs
 | _=>none
theorem Bf{x:Expr}{y:ZM}(h:Ti x=some y):∃j pos,x=.Tuple y j pos:=by
 unfold Ti at h
 split at h
 .rename_i e;cases h;exact Ze e
 .cases h
mutual
noncomputable def Jo(N:ZG)(sc:ZW):E->Expr->Bool
 | .v i,x=>match Jy x with
  | some y=>N[i]? == some y && locs sc y
  | none=>false
 | .tup es,x=>match Ti x with
  | some xs=>Rd N sc es xs
  | none=>false
 | _,_=>false
noncomputable def Rd(N:ZG)(sc:ZW):E->ZM->Bool
 | .nil,[]=>true
 | .cons a r,x::xs=>noStar x && Jo N sc a x && Rd N sc r xs
 | _,_=>false
end
section
variable{X:Cx}{w:W}{k:Nat}{N:ZG}{sc:ZW}
theorem Ct.loc(c:Ct X w k N sc){x:Str}(h:locs sc x=true):X.env.kindOf x=some .local\/(X.own=true/\X.env.kindOf x=some .cell):=by
 unfold locs at h
 split at h
 .rename_i e
  rcases c.nm x _ e with e | ⟨z,_⟩
  .exact .inl e
  .cases z
 .rename_i e
  rcases c.nm x _ e with e' | ⟨z,_⟩
  .exact .inr ⟨c.cl x e,e'⟩
  .cases z
 .cases h
theorem m9{es:E}:∀{xs:ZM} {ts:ZZ} {p p':P},Rd N sc es xs=true->E5 es ts p=some p'->ts.length=xs.length/\∀x∈xs,noStar x=true:=by
 induction es with
 | nil =>
  intro xs ts p p' h e;cases xs with
  | cons x xs=>cases(show false=true from h)
  | nil =>
  cases ts with
  | nil=>exact⟨rfl,fun x m=>absurd m Td⟩
  | cons t ts=>cases e
 | cons a r _ ih =>
  intro xs ts p p' h e;cases xs with
  | nil=>cases(show false=true from h)
  | cons x xs =>
  have h:(noStar x && Jo N sc a x && Rd N sc r xs)=true:=h;simp only[Vi]at h;cases ts with
  | nil=>cases e
  | cons t ts =>
  obtain⟨q,_,e2⟩:=ZP.mp (show (asg a t p).bind (fun q=>E5 r ts q)=some p' from e);obtain⟨h1,h2⟩:=ih h.2 e2;refine⟨by rw[Jl,Jl,h1],fun y m=>?_⟩;rcases Vt.mp m with rfl | m
  .exact h.1.1
  .exact h2 y m
 | _=>intro xs ts p p' h;cases xs<;>cases(show false=true from h)
theorem Kc(c:Ct X w k N sc)(hc:X.calm=true):∀tg:E,
  (∀(x:Expr) (F:OM) (p p':P) (l:Vs) (s:Shared) (t:T) (u:Value) (Q:ZH),Jo N sc tg x=true->Inv X F p l s->IsT X.toMd F t u->Ju X.pt tg=true->asg tg t p=some p'->(∀σ' s',Inv X F p' σ' s'->Q () s')->WP X (assign x X.env u) Q s) /\
  ∀(xs:ZM) (F:OM) (p p':P) (l:Vs) (s:Shared) (ts:ZZ) (us:ZK) (Q:ZH),Rd N sc tg xs=true->Inv X F p l s->Zs X.toMd F ts us->Ju X.pt tg=true->E5 tg ts p=some p'->(∀σ' s',Inv X F p' σ' s'->Q () s') ->
   WP X (assignInOrder ((assignEach xs X.env).map (·.2)) us) Q s:=by
 intro tg
 induction tg with
 | v i =>
  refine⟨fun x F p p' l s t u Q h I it ho e k=>?_,fun xs F p p' l s ts us Q h=>by cases xs<;>cases(show false=true from h)⟩;cases e;unfold Jo at h
  split at h
  .rename_i y ey
   obtain⟨pos,rfl⟩:=Vv ey;rw[Vi,beq_iff_eq]at h;exact wpAny_assign_Name (Rw I (by rw[c.nN];exact c.nd) (by rw[c.nN];exact h.1) (c.loc h.2) (by simpa [Ju] using ho) (r:=.f t) it fun s' I'=>k _ s' I')
  .cases h
 | tup es ih =>
  refine⟨fun x F p p' l s t u Q h I it ho e k=>?_,fun xs F p p' l s ts us Q h=>by cases xs<;>cases(show false=true from h)⟩;unfold Jo at h
  split at h
  .rename_i xs ex
   obtain⟨j,pos,rfl⟩:=Bf ex;cases t<;>first | cases e | skip
   rename_i ts
   obtain⟨a,us,rfl,z,tp,r⟩:=V3 I.fh it;obtain⟨hl,Dv⟩:=m9 h (show E5 es ts p=some p' from e);obtain⟨a1,a2⟩:=Ww (env:=X.env) Dv;refine assign_Tuple_tuple (I.ok.hd hc) tp (by rw[Jv,a1, <-hl,r.length]) a2 fun h' hx=>?_;have I1:Inv X F p l { s with heap:=h' }:=I.more (t:=s.toks) (fun b o _ e=>hx b o (C8 (Jr e)) e) (fun m hn=>hn.keeps fun b o e=>hx b o (C8 (Jr e)) e) (.refl F) fun _ _ e=>.inl e;exact ih.2 xs F p p' l _ ts us Q h I1 r ho e k
  .cases h
 | nil =>
  refine⟨fun x F p p' l s t u Q h=>absurd (show false=true from h) Ox,fun xs F p p' l s ts us Q h I r ho e k=>?_⟩;cases xs with
  | cons x xs=>cases(show false=true from h)
  | nil =>
  cases ts with
  | nil=>cases e;cases r;exact assignInOrder_nil (k l s I)
  | cons t ts=>cases e
 | cons a r' ih1 ih2 =>
  refine⟨fun x F p p' l s t u Q h=>absurd (show false=true from h) Ox,fun xs F p p' l s ts us Q h I r ho e k=>?_⟩;cases xs with
  | nil=>cases(show false=true from h)
  | cons x xs =>
  have h:(noStar x && Jo N sc a x && Rd N sc r' xs)=true:=h;simp only[Vi]at h;cases ts with
  | nil=>cases e
  | cons t ts =>
  cases r with | cons r1 r2 =>
  obtain⟨q,e1,e2⟩:=ZP.mp (show (asg a t p).bind (fun q=>E5 r' ts q)=some p' from e);have ho:(Ju X.pt a && Ju X.pt r')=true:=ho;rw[Vi]at ho;rw[zq h.1.1];exact assignInOrder_cons (ih1.1 x F p q l s t _ _ h.1.2 I r1 ho.1 e1 fun σ1 s1 I1=>ih2.2 xs F q p' σ1 s1 ts _ Q h.2 I1 r2 ho.2 e2 k)
 | _=>exact⟨fun x F p p' l s t u Q h=>absurd (show false=true from h) Ox,fun xs F p p' l s ts us Q h=>by cases xs<;>cases(show false=true from h)⟩
end
section
variable{X:Cx}{w:W}{k:Nat}{N:ZG}{sc:ZW}{a b c:E}{x y z:Expr}{pos:Pos}
theorem Inv.quiet{F:OM}{p:P}{j:Vs}{s:Shared}(I:Inv X F p j s):interactive X.env=false:=by simp[interactive,I.ok.kind]
theorem Ko:SB w .nil X []:=fun F p j s D I h=>wpAny_execs_nil ⟨F,p,j,.refl F,I,h⟩
theorem Ka{a r:S}{st:Stmt}{rest:List Stmt}(ha:SS w a X st)(hr:SB w r X rest):SB w (.seq a r) X (st::rest):=fun F p j s D I h=>by
 refine wpAny_execs_cons (Yo (ha F p j s _ I h) fun f s1 ⟨F1,p1,σ1,l,I1,q⟩=>?_);cases f with
 | next=>exact Yo (hr F1 p1 σ1 s1 D I1 q) fun _ _ q=>q.le l
 | ret v=>exact⟨F1,p1,σ1,l,I1,q⟩
 | brk=>exact⟨F1,p1,σ1,l,I1,q⟩
 | cont=>exact⟨F1,p1,σ1,l,I1,q⟩
theorem ss_ret(h:SE w a X x):SS w (.ret a) X (.Return (some x) pos):=fun F p j s D I hw=>wpAny_Return_some (Yo (h F p j s _ I hw) fun v s1 ⟨F1,p1,r,l,I1,rs,q⟩=>⟨F1,p1,j,l,I1,r,rs,q⟩)
theorem sr:SS w (.ret (.k .non)) X (.Return none pos):=fun F p j s D I hw=>wpAny_Return_none ⟨F,p,j,.refl F,I,.f .non,Top.non,hw⟩
theorem ss_ex(h:SE w a X x)(hs:swapsWith x none pos.line X.env=pure false):SS w (.ex a) X (.Expr x pos):=fun F p j s D I hw=>wpAny_Expr_any (Yo (h F p j s _ I hw) fun v s1 ⟨F1,p1,r,l,I1,rs,q⟩=>⟨F1,p1,j,l,I1,q⟩) I.quiet hs
theorem su:SS w .pass X (.Pass pos):=fun F p j s D I hw=>wpAny_Pass ⟨F,p,j,.refl F,I,hw⟩
theorem ss_brk:SS w .brk X (.Break pos):=fun F p j s D I hw=>wpAny_Break ⟨F,p,j,.refl F,I,hw⟩
theorem pz:SS w .cont X (.Continue pos):=fun F p j s D I hw=>wpAny_Continue ⟨F,p,j,.refl F,I,hw⟩
theorem ss_ite{b1 b2:S}{ys zs:List Stmt}(hc:ST w c X z (eval z X.env))(h1:SB w b1 X ys)(h2:SB w b2 X zs):SS w (.ite c b1 b2) X (.If z ys zs pos):=fun F p j s D I hw=>by
 refine wpAny_If (Yo (hc F p j s _ I hw) fun d s1 ⟨F1,p1,l,I1,q⟩=>?_);cases d with
 | true=>exact Yo (h1 F1 p1 j s1 D I1 q) fun _ _ q=>q.le l
 | false=>exact Yo (h2 F1 p1 j s1 D I1 q) fun _ _ q=>q.le l
theorem I8(hN:X.N.Nodup){i:Nat}{y:Str}{pos':Pos}(hi:X.N[i]?=some y)(hl:X.env.kindOf y=some .local\/(X.own=true/\X.env.kindOf y=some .cell))(h:SE w a X x)(hs:swapsWith x (some (.Name y pos')) pos.line X.env=pure false):SS w (.set i a) X (.Assign [.Name y pos'] x pos):=fun F p j s D I hw=>by
 have hw:if X.pt i=true then False else wE w a p fun r q=>D.nx (q.set i r):=hw
 split at hw
 .exact hw.elim
 .rename_i hp
  refine wpAny_Assign_Name (Yo (h F p j s _ I hw) fun v s1 ⟨F1,p1,r,l,I1,rs,q⟩=>?_) hs;exact Rw I1 hN hi hl (by simpa using hp) rs fun s' I'=>⟨F1,_,_,l,I',q⟩
theorem ve(cc:Ct X w k N sc){i:Nat}{y:Str}{pos':Pos}(hi:N[i]?=some y)(hl:locs sc y=true)(h:SE w a X x)(hs:swapsWith x (some (.Name y pos')) pos.line X.env=pure false):SS w (.set i a) X (.Assign [.Name y pos'] x pos):=I8 (by rw[cc.nN];exact cc.nd) (by rw[cc.nN];exact hi) (cc.loc hl) h hs
def notName:Expr->Bool
 | .Name _ _=>false
 | _=>true
theorem Ii{x t:Expr}{ln:Nat}{env:Env}(h:notName t=true):swapsWith x (some t) ln env=pure false:=by
 cases x<;>first | rfl | (cases t<;>first | rfl | cases h)
def isTup:Expr->Bool
 | .Tuple _ _ _=>true
 | _=>false
theorem ss_unp(cc:Ct X w k N sc)(hc:X.calm=true){tg a:E}{ts:ZM}{j:Nat}{pt:Pos}(hg:Jo N sc tg (.Tuple ts j pt)=true)(h:SE w a X x)(hx:isTup x=false):SS w (.unp tg a) X (.Assign [.Tuple ts j pt] x pos):=fun F p V s D I hw=>by
 have hw:if Ju X.pt tg=true then wE w a p fun r q=>My r fun t=>on (asg tg t q) D.nx else False:=hw
 split at hw
 .rename_i ho
  refine wpAny_Assign_stores (Yo (h F p V s _ I hw) fun v s1 q=>?_) (show swapsWith x (some (.Tuple ts j pt)) pos.line X.env=pure false from Ii rfl) (by unfold swappedStores;cases x<;>first | rfl | cases hx);obtain⟨F1,p1,t,l,I1,it,q⟩:=q.t;obtain⟨p2,e,q⟩:=Zi q;show WP X (assign (.Tuple ts j pt) X.env v) _ s1;exact(Kc cc hc tg).1 _ F1 p1 p2 V s1 t v _ hg I1 it ho e fun σ' s' I'=>⟨F1,p2,σ',l,I',q⟩
 .exact hw.elim
theorem ss_put{i:Nat}{kk:E}{kx:Expr}{y:Str}{pos' O6:Pos}(n:Nm X i y)(h:SE w a X x)(hk:SE w kk X kx):SS w (.put i kk a) X (.Assign [.Subscript (.Name y pos') kx O6] x pos):=fun F p l s D I hw=>by
 refine wpAny_Assign_Subscript (Yo (h F p l s _ I hw) fun v s1 q=>?_) (Ii rfl);obtain⟨F1,p1,t,l1,I1,it,q⟩:=q.t
 split at q
 .rename_i hd
  obtain⟨vo,eo⟩:=I1.val hd;refine Th n I1 eo (Yo (hk F1 p1 l s1 _ I1 q) fun vk s2 q=>?_);obtain⟨F2,p2,kt,l2,I2,ik,q⟩:=q.t
  split at q
  .rename_i u eu
   obtain⟨u',e3,q⟩:=Zi q;obtain⟨b,eb,ow⟩:=I2.r.ow i u eu;rw[eo]at eb;cases eb;have it:=it.up l2;have fin:∀{h':Heap} {tk:Nat},(∀b' o,b'≠b->s2.heap.get? b'=some o->h'.get? b'=some o)->C5 u'=true->Top X.toMd F2 h'.get? u' (.ref b)->SP X F D .next { s2 with heap:=h',toks:=tk }:=fun hs c q'=>⟨F2,_,l,l1.trans l2,I2.mut eu eo hs c q',q⟩;unfold putAt at e3
   split at e3
   .rename_i k'
    obtain⟨j,e4,rfl⟩:=Y8.mp e3;cases ik;obtain⟨_,o,us,e5,e6,ko,r⟩:=ow.t.unL;cases e5;obtain⟨m,eo'⟩:=ko.at e6;have lr:=r.length;have ln:=Hd;have z:=ko.1;rw[lr]at e4;obtain⟨g1,g2,g3,g4⟩:=Xo e4
    have go:∀jj:Nat,jj=j->SP X F D .next { s2 with heap:=s2.heap.update b (Obj.mapSeq (·.setIfInBounds jj v)) }:=fun jj ej=>by
     subst ej;refine fin (tk:=s2.toks) (fun b' o' ne e=>(Heap.get?_update_other _ _ (Ne.symm ne)).trans e) rfl ?_;refine .mkL (us:=us.set jj v) (o:={ cls:=.type "list",data:=.seq (us.set jj v).toArray m }) ?_ ⟨by rw[XX];exact z,m,rfl⟩ (y8 it jj r);rw[Heap.get?_update_self (Obj.mapSeq (·.setIfInBounds jj v)) eo' (by rw[Ro us m jj v]<;>rfl),Ro us m jj v]
    by_cases h0:0<=k'
    .have hk:k'.toNat=j:=by
      rw[seqIndex_of h0 g4]at g1;exact M7 g1
     exact PySem.W.ki_setAt eo' h0 (by omega) (by rw[Jv];exact g4) (go _ hk)
    .have hk:(k'+(us.toArray.size:Int)).toNat=j:=by
      rw[seqIndex_neg (by omega) g3]at g1;rw[Jv];exact M7 g1
     exact PySem.W.ki_setBack eo' (by omega) (by rw[Jv];exact g3) (by omega) (go _ hk)
   .obtain⟨key,e4,e5⟩:=ZP.mp e3;obtain⟨hz,e5⟩:=Option.ite_none_right_eq_some.mp e5;cases e5;obtain⟨_,o,vs,e5,e6,ko,r⟩:=ow.t.unD;cases e5;have lr:=r.length;refine wpAny_setItem_pairs (hsz:=ko.z) (key_is (F:=F2) (s:=s2) e4 (.of I2.fh ik)) (ko.is e6) fun h' dd' hs=>?_;refine fin (fun b' o' ne e=>(hs.2 b' ne).trans e) rfl ?_;have hl:=stored_length_le vs key v;obtain⟨o',e7,ko'⟩:=Ls.of dd' (by omega) ko.ns;exact .mkD e7 ko' (r.put it)
   .cases e3
  .exact q.elim
 .exact q.elim
theorem ss_wh(po:PassesOwn (model X.prog X.w) X.A X.env X.xe){bd:S}{ys:List Stmt}(hc:ST w c X z (eval z X.env))(hb:SB w bd X ys):SS w (.wh c bd) X (.While z ys [] pos):=fun F p j s D I hw=>by
 refine wpAny_While (codeAny_whileLoop (fun n s'=>∃F' p' σ',Le F F'/\Inv X F' p' σ' s'/\wWh (fun s K=>wE w c s fun r q=>L5 r fun b=>K b q) (fun s D=>wS w X.pt bd s D) n p' D) ?_ 1000000 ⟨F,p,j,.refl F,I,hw⟩);rintro n s1 ⟨F1,p1,σ1,l1,I1,w1⟩;cases n with
 | zero=>exact w1.elim
 | succ n =>
 refine wpAny_passesOwn po (Yo (hc F1 p1 σ1 s1 _ I1 w1) fun d s2 ⟨F2,p2,l2,I2,q⟩=>?_);cases d with
 | true =>
  rw[if_pos rfl]at q ⊢;refine wpAny_passesOwn po (Yo (hb F2 p2 σ1 s2 _ I2 q) fun f s3 ⟨F3,p3,σ3,l3,I3,q⟩=>?_);have ll:=l1.trans (l2.trans l3);cases f with
  | next=>exact⟨n,Nat.lt_succ_self n,F3,p3,σ3,ll,I3,q⟩
  | cont=>exact⟨n,Nat.lt_succ_self n,F3,p3,σ3,ll,I3,q⟩
  | brk=>exact⟨F3,p3,σ3,ll,I3,q⟩
  | ret v=>exact⟨F3,p3,σ3,ll,I3,q⟩
 | false =>
  rw[if_neg Ox]at q ⊢;exact wpAny_execs_nil ⟨F2,p2,σ1,l1.trans l2,I2,q⟩
end
def Yl(g:Md)(F:OM)(h:Heap)(tg:Expr)(x:T)(u:Value):Prop:=IsT g F x u\/(isTup tg=true/\∃a us ts,u=.ref a/\x=.tup ts/\IsTup h a us.toArray/\Zs g F ts us)
structure Turn(g:Md)(F:OM)(tg:Expr)(xs:ZZ)(fp:ZS)(it:Addr)(tn:Nat->Heap->Prop):Prop where
 mem:it∈fp
 obj:∀i h,tn i h->∀b∈fp,∃o,h.get? b=some o
 keep:∀i h h',tn i h->(∀b∈fp,∀o,h.get? b=some o->h'.get? b=some o)->tn i h'
 item:∀(A:Around) (i:Nat) (s:Shared) (E:ZQ) (Q:ZQ),A.handled=none->tn i s.heap->(∀a o,F a=some o->s.heap.get? a=some o)->(hi:i<xs.length) ->
  (∀h' tk u,(∀b o,b ∉ fp->s.heap.get? b=some o->h'.get? b=some o)->tn (i+1) h'->Yl g F h' tg xs[i] u->Q u { s with heap:=h',toks:=tk }) ->
  wpAny (model g.prog g.w) A (pyNext (.ref it)) (fun r s1=>∃u,r=some u/\wpAny (model g.prog g.w) A (letOwnedTupleGo tg (.ref it) u) (fun _ s2=>Q u s2) E s1) E s
 done:∀(A:Around) (i:Nat) (s:Shared) (E:ZQ) (Q:ZF->Shared->Prop),A.handled=none->tn i s.heap->(∀a o,F a=some o->s.heap.get? a=some o)->xs.length<=i ->
  (∀h' tk,(∀b o,b ∉ fp->s.heap.get? b=some o->h'.get? b=some o)->Q none { s with heap:=h',toks:=tk })->wpAny (model g.prog g.w) A (pyNext (.ref it)) Q E s
 self:∀(A:Around) (i:Nat) (s:Shared) (Q:ZQ) (E:ZQ),tn i s.heap->Q (.ref it) s->wpAny (model g.prog g.w) A (pyIter (.ref it)) Q E s
def IE(X:Cx)(F:OM)(j:Vs)(tg:Expr)(Q:ZZ->P->Prop)(itv:Value)(s2:Shared):Prop:=∃F' p' xs it fp tn h0,itv=.ref it/\Le F F'/\Inv X F' p' j { s2 with heap:=h0 }/\Turn X.toMd F' tg xs fp it tn/\tn 0 s2.heap/\(∀b∈fp,h0.get? b=none)/\(∀b o,h0.get? b=some o->s2.heap.get? b=some o)/\xs.length<=sizeLine/\Q xs p'
def wI(w:W)(e:E)(p:P)(Q:ZZ->P->Prop):Prop:=wE w e p fun r q=>My r fun t=>on (Ow t) fun xs=>Q xs q
def SI(w:W)(e:E)(X:Cx)(tg x:Expr):Prop:=∀(F:OM) (p:P) (j:Vs) (s:Shared) (Q:ZZ->P->Prop),Inv X F p j s->wI w e p Q->WP X (eval x X.env) (fun v s1=>WP X (pyIter v) (IE X F j tg Q) s1) s
theorem Fq{M:Model}{A:Around}{E:ZQ}{s:Shared}{tg:Expr}{it:Addr}{u:Value}{o:Obj}{n:String}{vs:ZD}{Q:ZH}(ho:s.heap.get? it=some o)(hc:o.cls=.type n)(hd:o.data=.fields vs)
    (hn:["enumerate","zip","dict_itemiterator","dict_reverseitemiterator","odict_iterator","itertools.zip_longest","itertools.pairwise"].contains n=false) (hQ:Q () s):wpAny M A (letOwnedTupleGo tg (.ref it) u) Q E s:=by
  unfold letOwnedTupleGo
  cases tg<;>first
    | exact Zt hQ
    | (cases u<;>first
        | exact Zt hQ
        | (refine Zq (wpAny_load ho ?_)
           rw[hc,hd];show wpAny M A (if (["enumerate","zip","dict_itemiterator","dict_reverseitemiterator","odict_iterator","itertools.zip_longest","itertools.pairwise"].contains n && vs[0]? == some (rawInt _))=true then _ else _) Q E s;rw[if_neg (by intro h;rw[hn,Bool.false_and]at h;cases h)];exact Zt hQ))
section
variable{g:Md}{F:OM}{tg:Expr}{a it:Addr}{o:Obj}{us:ZK}{ts:ZZ}{vs:List (Key×Value)}{XY:ZX}
theorem z0(ho:F a=some o)(k:Lr o us)(r:Zs g F ts us):Turn g F tg ts [it] it (fun i h=>h.IsListIter it a i) where
 mem:=by simp
 obj:=fun i h st b hb=>by
  obtain rfl:b=it:=by simpa using hb
  obtain⟨o,e,_⟩:=st;exact⟨o,e⟩
 keep:=fun i h h' st k=>st.at fun o e=>k it (by simp) o e
 item:=fun A i s E Q hh st fF hi k'=>by
  obtain⟨u,hu,ru⟩:=Y6 r (We hi);refine wpAny_pyNext_list_item st (k.is (fF _ _ ho)) (x:=u) (by simpa using hu) fun h' W2 sb=>?_;obtain⟨o',e,c,d⟩:=id W2;exact⟨u,rfl,Fq (s:={ s with heap:=h' }) e c d (by decide) (k' h' s.toks u (fun b o m q=>(sb.2 b (by simpa using m)).trans q) W2 (.inl ru))⟩
 done:=fun A i s E Q hh st fF hi k'=>by
  have hl:=r.length;exact wpAny_pyNext_list_end hh st (k.is (fF _ _ ho)) (by simp;omega) fun h' eb=>k' h' s.toks fun b o m q=>eb b o (by simpa using m) q
 self:=fun _ _ _ _ _ st h=>wpAny_pyIter_listiter st h
theorem vd(ho:F a=some o)(k:Cg o us)(r:Zs g F ts us):Turn g F tg ts [it] it (fun i h=>h.IsTupleIter it a i) where
 mem:=by simp
 obj:=fun i h st b hb=>by
  obtain rfl:b=it:=by simpa using hb
  obtain⟨o,e,_⟩:=st;exact⟨o,e⟩
 keep:=fun i h h' st k=>st.at fun o e=>k it (by simp) o e
 item:=fun A i s E Q hh st fF hi k'=>by
  obtain⟨u,hu,ru⟩:=Y6 r (We hi);refine wpAny_pyNext_tuple_item st (show s.heap.IsTuple a us.toArray from k.is (fF _ _ ho)) (x:=u) (by simpa using hu) fun h' W2 sb=>?_;obtain⟨o',e,c,d⟩:=id W2;exact⟨u,rfl,Fq (s:={ s with heap:=h' }) e c d (by decide) (k' h' s.toks u (fun b o m q=>(sb.2 b (by simpa using m)).trans q) W2 (.inl ru))⟩
 done:=fun A i s E Q hh st fF hi k'=>by
  have hl:=r.length;exact wpAny_pyNext_tuple_end hh st (show s.heap.IsTuple a us.toArray from k.is (fF _ _ ho)) (by simp;omega) fun h' eb=>k' h' s.toks fun b o m q=>eb b o (by simpa using m) q
 self:=fun _ _ _ _ _ st h=>wpAny_pyIter_tupleiter st h
theorem Lp(a:Int)(n:Nat):Turn g F tg ((List.range n).map fun k=>.int (a+(k:Nat))) [it] it (fun i h=>IsRangeIter h it (a+(i:Nat) * 1) ((n:Int) - (i:Nat)) 1) where
 mem:=by simp
 obj:=fun i h st b hb=>by
  obtain rfl:b=it:=by simpa using hb
  exact⟨_,st⟩
 keep:=fun i h h' st k=>k it (by simp) _ st
 item:=fun A i s E Q hh st fF hi k'=>by
  rw[Za,XZ]at hi;have W:=Walks.range (prog:=g.prog) (w:=g.w) hh it a 1 n;refine W.item i s _ _ hi st fun v h' tk hv W2 kk=>?_;obtain⟨t,rfl⟩:=hv;refine⟨_,rfl,Fq (s:={ s with heap:=h',toks:=tk }) (n:="range_iterator") W2 rfl rfl (by decide) (k' h' tk _ kk W2 (.inl ?_))⟩;rw[List.getElem_map,List.getElem_range,Int.mul_one];exact .int
 done:=fun A i s E Q hh st fF hi k'=>by
  rw[Za,XZ]at hi;exact wpAny_pyNext_range_end hh st (by omega) fun h' eb=>k' h' s.toks fun b o m q=>eb b o (by simpa using m) q
 self:=fun _ _ _ _ _ st h=>wpAny_pyIter_rangeiter st h
theorem vt(n:Nat):Turn g F tg ((List.range n).map fun k=>.int (k:Nat)) [it] it (fun i h=>IsRangeIter h it (0+(i:Nat) * 1) ((n:Int) - (i:Nat)) 1):=by
 have:=Lp (g:=g) (F:=F) (tg:=tg) (it:=it) 0 n;simp only[Int.zero_add]at this ⊢;exact this
theorem Ov(x:Str)(N:String)(t:Tok)(hT:["enumerate","zip","dict_itemiterator","dict_reverseitemiterator","odict_iterator","itertools.zip_longest","itertools.pairwise"].contains N=false)
  (W:∀A:Around,A.handled=none->Walks g.prog g.w A it [it] [it] x.cps.size (SignAt x) (fun i h=>h.IsStrIter it N x t i)) (hs:∀(A:Around) (i:Nat) (s:Shared) (Q:ZQ) (E:ZQ),s.heap.IsStrIter it N x t i->Q (.ref it) s->wpAny (model g.prog g.w) A (pyIter (.ref it)) Q E s)
  (hd:∀(A:Around) (i:Nat) (s:Shared) (Q:ZF->Shared->Prop) (E:ZQ),A.handled=none->x.cps.size<=i->s.heap.IsStrIter it N x t i->(∀h' tk,(∀b o,b≠it->s.heap.get? b=some o->h'.get? b=some o)->Q none { s with heap:=h',toks:=tk })->wpAny (model g.prog g.w) A (pyNext (.ref it)) Q E s) :
  Turn g F tg (x.cps.toList.map fun c=>.str ⟨#[c]⟩) [it] it (fun i h=>h.IsStrIter it N x t i) where
 mem:=by simp
 obj:=fun i h st b hb=>by
  obtain rfl:b=it:=by simpa using hb
  obtain⟨o,e,_⟩:=st;exact⟨o,e⟩
 keep:=fun i h h' st k=>let ⟨o,ho,r⟩:=st;⟨o,k it (by simp) o ho,r⟩
 item:=fun A i s E Q hh st fF hi k'=>by
  rw[Za,Lh]at hi;refine(W A hh).item i s _ _ hi st fun v h' tk hv W2 kk=>?_;obtain⟨c,u,Qe,rfl⟩:=hv;obtain⟨o,e,c1,d⟩:=id W2;refine⟨_,rfl,Fq (s:={ s with heap:=h',toks:=tk }) e c1 d hT (k' h' tk _ kk W2 (.inl ?_))⟩;rw[List.getElem_map,Array.getElem_toList,show x.cps[i]=c from M7 ((A0g hi).symm.trans Qe)];exact .str
 done:=fun A i s E Q hh st fF hi k'=>by
  rw[Za,Lh]at hi;exact hd A i s _ _ hh hi st fun h' tk eb=>k' h' tk fun b o m q=>eb b o (by simpa using m) q
 self:=fun A i s Q E st h=>hs A i s Q E st h
variable{ep:Nat}
end
section
variable{g:Md}{F:OM}{tg:Expr}{a it:Addr}{o:Obj}{us:ZK}{ts:ZZ}{vs:List (Key×Value)}{XY:ZX}{ep:Nat}
abbrev DAt(g:Md)(F:OM)(a:Addr)(vs:List (Key×Value))(ep:Nat):Prop:=∀h:Heap,(∀b o,F b=some o->h.get? b=some o)->h.DictAt (Zf g.prog g.w) a vs ep
theorem Ac(ho:F a=some o)(k:Ls g a o vs):∃ep,DAt g F a vs ep:=by
 obtain⟨es,ep,d,c,pr⟩:=k.es;exact⟨ep,fun h e=>⟨o,es,e _ _ ho,k.ex,d,c,pr,k.nd⟩⟩
theorem z6(m:DAt g F a vs ep)(r:Yz g F XY vs):Turn g F tg (XY.map fun p=>Ja p.1) [it] it (fun i h=>h.IsKeyIter it a i vs.length ep) where
 mem:=by simp
 obj:=fun i h st b hb=>by
  obtain rfl:b=it:=by simpa using hb
  obtain⟨o,e,_⟩:=st;exact⟨o,e⟩
 keep:=fun i h h' st k=>by
  obtain⟨o,e,c,d⟩:=st;exact⟨o,k it (by simp) o e,c,d⟩
 item:=fun A i s E Q hh st fF hi k'=>by
  rw[Za]at hi;obtain⟨⟨k,v⟩,hv,rv⟩:=Y6 r (We hi);refine wpAny_pyNext_dict_item st (m _ fF) hv fun key h' hk W2 sb=>?_;obtain⟨oo,e,c,dd⟩:=id W2;refine⟨key,rfl,Fq (s:={ s with heap:=h' }) e c dd (by decide) (k' h' s.toks key (fun b o m q=>(sb.2 b (by simpa using m)).trans q) W2 (.inl ?_))⟩;rw[List.getElem_map,rv.1];exact Qp hk
 done:=fun A i s E Q hh st fF hi k'=>by
  rw[Za,r.length]at hi;exact wpAny_pyNext_dict_end hh st (m _ fF) (List.getElem?_eq_none hi) fun h' eb=>k' h' s.toks fun b o m q=>eb b o (by simpa using m) q
 self:=fun _ _ _ _ _ st h=>wpAny_pyIter_keyiter st h
theorem ze(m:DAt g F a vs ep)(r:Yz g F XY vs):Turn g F tg (XY.map (·.2)) [it] it (fun i h=>h.IsValIter it a i vs.length ep) where
 mem:=by simp
 obj:=fun i h st b hb=>by
  obtain rfl:b=it:=by simpa using hb
  obtain⟨o,e,_⟩:=st;exact⟨o,e⟩
 keep:=fun i h h' st k=>by
  obtain⟨o,e,c,d⟩:=st;exact⟨o,k it (by simp) o e,c,d⟩
 item:=fun A i s E Q hh st fF hi k'=>by
  rw[Za]at hi;obtain⟨⟨k,v⟩,hv,rv⟩:=Y6 r (We hi);refine wpAny_pyNext_values_item st (m _ fF) hv fun h' W2 sb=>?_;obtain⟨oo,e,c,dd⟩:=id W2;refine⟨v,rfl,Fq (s:={ s with heap:=h' }) e c dd (by decide) (k' h' s.toks v (fun b o m q=>(sb.2 b (by simpa using m)).trans q) W2 (.inl ?_))⟩;rw[List.getElem_map];exact rv.2
 done:=fun A i s E Q hh st fF hi k'=>by
  rw[Za,r.length]at hi;exact wpAny_pyNext_values_end hh st (m _ fF) (List.getElem?_eq_none hi) fun h' eb=>k' h' s.toks fun b o m q=>eb b o (by simpa using m) q
 self:=fun _ _ _ _ _ st h=>wpAny_pyIter_valiter st h
theorem T3{P:Program}{w:World}{A:Around}{E:ZQ}{s:Shared}{it d:Addr}{i n ep:Nat}{ok ov:Value}{Q:ZQ}(hit:IsItemIter s.heap it d i n ep ok ov)(h:Q (.ref it) s):wpAny (model P w) A (pyIter (.ref it)) Q E s:=by
 have hT:s.TypeIs (.ref it) "dict_itemiterator" := ⟨_,hit,rfl⟩;refine wpAny_pyIter_slot hT F.slot_dict_itemiterator_iter (wpAny_call_entry F.slot_dict_itemiterator_iter hT (show entryFor table "dict_itemiterator.__iter__" = some Builtin.«dict_keyiterator.__iter__» from entryFor_alias (id':="dict_keyiterator.__iter__") (by kernel_rfl) rfl (by decide +kernel) (by kernel_rfl)) ?_ (F.args_dict_itemiterator_iter_1 _));show wpAny _ _ (ret (.ref it)) _ _ s;exact Zt ⟨_,rfl,"dict_itemiterator",_,hT,F.slot_dict_itemiterator_next.lookup,h⟩
theorem Kt{Bc:ZM}{k':Nat}{pos:Pos}(m:DAt g F a vs ep)(r:Yz g F XY vs):Turn g F (.Tuple Bc k' pos) (XY.map fun p=>.tup [Ja p.1,p.2]) [it] it (fun i h=>∃ok ov,IsItemIter h it a i vs.length ep ok ov) where
 mem:=by simp
 obj:=fun i h st b hb=>by
  obtain rfl:b=it:=by simpa using hb
  obtain⟨ok,ov,e⟩:=st;exact⟨_,e⟩
 keep:=fun i h h' st k=>by
  obtain⟨ok,ov,e⟩:=st;exact⟨ok,ov,k it (by simp) _ e⟩
 item:=fun A i s E Q hh st fF hi k'=>by
  rw[Za]at hi;obtain⟨⟨k,v⟩,hv,rv⟩:=Y6 r (We hi);obtain⟨ok,ov,st⟩:=st;refine wpAny_pyNext_items_item st (m _ fF) hv fun key h' hk W2 ht hz kp=>?_;refine⟨_,rfl,wpAny_letOwnedTupleGo_items (s:={ s with heap:=h' }) W2 fun h'' st'' hs=>?_⟩;have ne:s.heap.objs.size≠it:=Nat.ne_of_gt (Jr st);refine k' h'' s.toks _ (fun c o m q=>hs.extBut _ _ (by simpa using m) (kp c o (by simpa using m) q)) ⟨key,v,st''⟩ (.inr ⟨rfl,_,[key,v],[Ja XY[i].1,XY[i].2],rfl,by rw[List.getElem_map],⟨_,hs.extBut _ _ ne ht,rfl,⟨_,rfl⟩⟩,.cons ?_ (.cons rv.2 .nil)⟩);rw[rv.1];exact Qp hk
 done:=fun A i s E Q hh st fF hi k'=>by
  rw[Za,r.length]at hi;obtain⟨ok,ov,st⟩:=st;exact wpAny_pyNext_items_end hh st (m _ fF) (List.getElem?_eq_none hi) fun h' eb=>k' h' s.toks fun b o m q=>eb b o (by simpa using m) q
 self:=fun _ _ _ _ _ st h=>let ⟨_,_,e⟩:=st;T3 e h
variable{es:ZM}{k:Nat}{pos:Pos}{z TI TO i1 i2 l1 l2:Addr}{o1 o2:Obj}{D7 Jk:ZK}{z8 vn:ZZ}
theorem j9{i:Nat}(hi:i<(D6 z8 vn).length):∃x y,z8[i]?=some x/\vn[i]?=some y/\(D6 z8 vn)[i]=.tup [x,y]:=by
 have e:(D6 z8 vn)[i]?=some (D6 z8 vn)[i]:=We hi;unfold D6 at e;rw[G0m]at e;obtain⟨⟨x,y⟩,e1,e2⟩:=Y8.mp e;obtain⟨h1,h2⟩:=List.getElem?_zip_eq_some.mp e1;exact⟨x,y,h1,h2,e2.symm⟩
theorem Cr:(D6 z8 vn).length=min z8.length vn.length:=by unfold D6;rw[Za,List.length_zip]
theorem vm(D:ZipApart z TI TO i1 i2 l1 l2)(h1:F l1=some o1)(k1:Lr o1 D7)(r1:Zs g F z8 D7)(h2:F l2=some o2)(k2:Lr o2 Jk)(r2:Zs g F vn Jk) :
  Turn g F (.Tuple es k pos) (D6 z8 vn) [z,TI,TO,i1,i2] z (fun i h=>IsZip h z TI TO .none/\IsPair h TI (.ref i1) (.ref i2)/\(∃a b,IsPair h TO a b)/\h.IsListIter i1 l1 i/\h.IsListIter i2 l2 i) where
 mem:=by simp
 obj:=fun i h st b hb=>by
  obtain⟨hz,H6,⟨a,c,qr⟩,⟨o1,e1,_,d1⟩,⟨o2,e2,_,d2⟩⟩:=st;simp only[Vt,Td,or_false]at hb;rcases hb with rfl | rfl | rfl | rfl | rfl<;>exact⟨_,by assumption⟩
 keep:=fun i h h' st hk=>by
  obtain⟨hz,H6,⟨a,b,qr⟩,h1,h2⟩:=st;exact⟨hk z (by simp) _ hz,hk TI (by simp) _ H6,⟨a,b,hk TO (by simp) _ qr⟩,h1.at fun o e=>hk i1 (by simp) o e,h2.at fun o e=>hk i2 (by simp) o e⟩
 item:=fun A i s E Q hh st fF hi k'=>by
  obtain⟨x,y,g1,g2,et⟩:=j9 hi;obtain⟨hz,H6,⟨a,b,qr⟩,j1,j2⟩:=st;obtain⟨u1,e1,q1⟩:=Y6 r1 g1;obtain⟨u2,e2,q2⟩:=Y6 r2 g2;refine wpAny_pyNext_zip_item D hz H6 qr j1 j2 (k1.is (fF _ _ h1)) (k2.is (fF _ _ h2)) (x:=u1) (y:=u2) (by simpa using e1) (by simpa using e2) fun h' a1 a2 a3 a4 a5 a6 hk=>?_;refine⟨_,rfl,wpAny_letOwnedTupleGo_zip (s:={ s with heap:=h' }) a1 fun h'' Wo T6=>?_⟩;have nz:s.heap.objs.size≠z:=Nat.ne_of_gt (Jr hz);refine k' h'' s.toks _ (fun c u m e=>?_) ⟨Wo,T6.extBut _ _ D.TIz (hk _ _ D.TIz D.TITO D.TIi1 D.TIi2 H6),⟨_,_,T6.extBut _ _ D.TOz a2⟩,a3.extBut T6.extBut D.i1z,a4.extBut T6.extBut D.i2z⟩ (.inr ⟨rfl,_,[u1,u2],[x,y],rfl,et,⟨_,T6.extBut _ _ nz a5,rfl,⟨_,rfl⟩⟩,.cons q1 (.cons q2 .nil)⟩);simp only[Vt,Td,or_false,not_or]at m;exact T6.extBut _ _ m.1 (hk c u m.1 m.2.2.1 m.2.2.2.1 m.2.2.2.2 e)
 done:=fun A i s E Q hh st fF hi k'=>by
  rw[Cr]at hi;obtain⟨hz,H6,⟨a,b,qr⟩,j1,j2⟩:=st;have hl1:=r1.length;have hl2:=r2.length;refine wpAny_pyNext_zip_end hh D hz H6 qr j1 j2 (k1.is (fF _ _ h1)) (k2.is (fF _ _ h2)) ?_ fun h' hk=>k' h' s.toks fun c u m e=>?_
  .by_cases z:z8.length<=i
   .exact .inl (by simp;omega)
   .exact .inr (by simp;omega)
  .simp only[Vt,Td,or_false,not_or]at m;exact hk c u m.1 m.2.2.1 m.2.2.2.1 m.2.2.2.2 e
 self:=fun A i s Q E st h=>wpAny_pyIter_zip st.1 h
theorem zi(D:ZipApart z TI TO i1 i2 l1 l2)(h1:F l1=some o1)(k1:Cg o1 D7)(r1:Zs g F z8 D7)(h2:F l2=some o2)(k2:Cg o2 Jk)(r2:Zs g F vn Jk) :
  Turn g F (.Tuple es k pos) (D6 z8 vn) [z,TI,TO,i1,i2] z (fun i h=>IsZip h z TI TO .none/\IsPair h TI (.ref i1) (.ref i2)/\(∃a b,IsPair h TO a b)/\h.IsTupleIter i1 l1 i/\h.IsTupleIter i2 l2 i) where
 mem:=by simp
 obj:=fun i h st b hb=>by
  obtain⟨hz,H6,⟨a,c,qr⟩,⟨o1,e1,_,d1⟩,⟨o2,e2,_,d2⟩⟩:=st;simp only[Vt,Td,or_false]at hb;rcases hb with rfl | rfl | rfl | rfl | rfl<;>exact⟨_,by assumption⟩
 keep:=fun i h h' st hk=>by
  obtain⟨hz,H6,⟨a,b,qr⟩,h1,h2⟩:=st;exact⟨hk z (by simp) _ hz,hk TI (by simp) _ H6,⟨a,b,hk TO (by simp) _ qr⟩,(let ⟨o,ho,r⟩:=h1;⟨o,hk i1 (by simp) o ho,r⟩),(let ⟨o,ho,r⟩:=h2;⟨o,hk i2 (by simp) o ho,r⟩)⟩
 item:=fun A i s E Q hh st fF hi k'=>by
  obtain⟨x,y,g1,g2,et⟩:=j9 hi;obtain⟨hz,H6,⟨a,b,qr⟩,j1,j2⟩:=st;obtain⟨u1,e1,q1⟩:=Y6 r1 g1;obtain⟨u2,e2,q2⟩:=Y6 r2 g2;refine ZipT.gr D hz H6 qr j1 j2 (show s.heap.IsTuple l1 D7.toArray from k1.is (fF _ _ h1)) (show s.heap.IsTuple l2 Jk.toArray from k2.is (fF _ _ h2)) (x:=u1) (y:=u2) (by simpa using e1) (by simpa using e2) fun h' a1 a2 a3 a4 a5 a6 hk=>?_;refine⟨_,rfl,wpAny_letOwnedTupleGo_zip (s:={ s with heap:=h' }) a1 fun h'' Wo T6=>?_⟩;have nz:s.heap.objs.size≠z:=Nat.ne_of_gt (Jr hz);refine k' h'' s.toks _ (fun c u m e=>?_) ⟨Wo,T6.extBut _ _ D.TIz (hk _ _ D.TIz D.TITO D.TIi1 D.TIi2 H6),⟨_,_,T6.extBut _ _ D.TOz a2⟩,ZipT.Uh a3 T6.extBut D.i1z,ZipT.Uh a4 T6.extBut D.i2z⟩ (.inr ⟨rfl,_,[u1,u2],[x,y],rfl,et,⟨_,T6.extBut _ _ nz a5,rfl,⟨_,rfl⟩⟩,.cons q1 (.cons q2 .nil)⟩);simp only[Vt,Td,or_false,not_or]at m;exact T6.extBut _ _ m.1 (hk c u m.1 m.2.2.1 m.2.2.2.1 m.2.2.2.2 e)
 done:=fun A i s E Q hh st fF hi k'=>by
  rw[Cr]at hi;obtain⟨hz,H6,⟨a,b,qr⟩,j1,j2⟩:=st;have hl1:=r1.length;have hl2:=r2.length;refine ZipT.om hh D hz H6 qr j1 j2 (show s.heap.IsTuple l1 D7.toArray from k1.is (fF _ _ h1)) (show s.heap.IsTuple l2 Jk.toArray from k2.is (fF _ _ h2)) ?_ fun h' hk=>k' h' s.toks fun c u m e=>?_
  .by_cases z:z8.length<=i
   .exact .inl (by simp;omega)
   .exact .inr (by simp;omega)
  .simp only[Vt,Td,or_false,not_or]at m;exact hk c u m.1 m.2.2.1 m.2.2.2.1 m.2.2.2.2 e
 self:=fun A i s Q E st h=>wpAny_pyIter_zip st.1 h
end
section
variable{X:Cx}{F:OM}{p:P}{j:Vs}{s:Shared}{tg:Expr}{t:T}{v:Value}{xs:ZZ}{Q:ZZ->P->Prop}{w:W}{k:Nat}{N:ZG}{sc:ZW}
theorem ie1{h':Heap}{tk:Nat}{it:Addr}{tn:Nat->Heap->Prop}(I:Inv X F p j s)(T':Turn X.toMd F tg xs [it] it tn)(t0:tn 0 h')(n:s.heap.get? it=none)(kp:∀b o,s.heap.get? b=some o->h'.get? b=some o)(z:xs.length<=sizeLine)(q:Q xs p):IE X F j tg Q (.ref it) { s with heap:=h',toks:=tk } :=
 ⟨F,p,xs,it,[it],tn,s.heap,rfl,.refl F,I.tok tk,T',t0,fun b hb=>(V8.mp hb) ▸ n,kp,z,q⟩
theorem IE.le{F0:OM}{itv:Value}{s2:Shared}(l:Le F0 F)(h:IE X F j tg Q itv s2):IE X F0 j tg Q itv s2:=let ⟨F',p',xs,it,fp,tn,h0,e,l',h⟩:=h;⟨F',p',xs,it,fp,tn,h0,e,l.trans l',h⟩
theorem wo(I:Inv X F p j s)(i:IsT X.toMd F t v)(e:Ow t=some xs)(q:Q xs p):WP X (pyIter v) (IE X F j tg Q) s:=by
 have new:s.heap.get? s.heap.objs.size=none:=Heap.get?_none_of_le (D5 _);have kp:∀(o':Obj) b o,s.heap.get? b=some o->(s.heap.push o').get? b=some o:=fun o' b o e=>Ya _ e;cases t with
 | tup ts =>
  cases e;obtain⟨a,o,us,rfl,ho,k,r⟩:=i.unT;exact wpAny_pyIter_tuple (show s.heap.IsTuple a us.toArray from k.is (I.fh _ _ ho)) (ie1 (tk:=s.toks) I (vd ho k r) ⟨_,Gh _ rfl,rfl,rfl⟩ new (kp _) (by rw[r.length];exact k.z) q)
 | lst ts =>
  cases e;obtain⟨a,o,us,rfl,ho,k,r⟩:=i.unL;exact wpAny_pyIter_list (k.is (I.fh _ _ ho)) (ie1 (tk:=s.toks) I (z0 ho k r) ⟨_,Gh _ rfl,rfl,rfl⟩ new (kp _) (by rw[r.length];exact k.1) q)
 | dct XY =>
  cases e;obtain⟨a,o,vs,rfl,ho,k,r⟩:=i.unD;obtain⟨ep,m⟩:=Ac ho k;exact wpAny_pyIter_dict k.ns (m _ I.fh) (ie1 (tk:=s.toks) I (z6 m r) ⟨_,Gh _ rfl,rfl,rfl⟩ new (kp _) (by rw[Za,r.length];exact k.z) q)
 | str x =>
  obtain⟨hz,e⟩:=Option.ite_none_right_eq_some.mp (show (if x.length<=sizeLine then some (x.cps.toList.map fun c=>T.str ⟨#[c]⟩) else none)=some xs from e);cases e;cases i
  rename_i t
  cases ha:x.cps.all (·<128)
  .exact wpAny_pyIter_wide ha (ie1 (tk:=s.toks) I (Ov x "str_iterator" t (by decide) (fun A hA=>Walks.strWide hA _ x t) (fun A i s Q E st h=>wpAny_pyIter_striter_wide st h)
    (fun A i s Q E hA hi st h=>wpAny_pyNext_wide_end hA st (by simp[hi]) fun h' he=>h h' s.toks fun b o hb e=>he b o hb e)) ⟨_,Gh _ rfl,rfl,rfl⟩ new (kp _) (by rw[Za];exact hz) q)
  .exact wpAny_pyIter_ascii ha (ie1 (tk:=s.toks) I (Ov x "str_ascii_iterator" t (by decide) (fun A hA=>Walks.strAscii hA _ x t) (fun A i s Q E st h=>wpAny_pyIter_striter_ascii st h)
    (fun A i s Q E hA hi st h=>wpAny_pyNext_ascii_end hA st (by simp[hi]) fun h' he=>h h' s.toks fun b o hb e=>he b o hb e)) ⟨_,Gh _ rfl,rfl,rfl⟩ new (kp _) (by rw[Za];exact hz) q)
 | _=>cases e
theorem si_of{e:E}{x:Expr}(h:SE w e X x):SI w e X tg x:=fun F p j s Q I hw=>Yo (h F p j s _ I hw) fun v s1 q=>by
 obtain⟨F1,p1,t,l,I1,i,q⟩:=q.t;obtain⟨xs,e,q⟩:=Zi q;exact wpAny_mono (wo I1 i e q) (fun _ _ q=>q.le l) fun _ _ z=>z
theorem R2{q:Ik}{es:E}{ys:ZM}{K:ZK->Shared->Prop}(hs:Hs X w false es ys)(n:Vd es=true)(I:Inv X F p j s)(h:wI w (.itr q es) p Q)
  (kk:∀F1 p1 ts us s1 xs,Le F F1->Inv X F1 p1 j s1->Zs X.toMd F1 ts us->itT q ts=some xs->Q xs p1->K us s1):Ba X ys K s:=by
 refine evs hs I h fun F1 p1 as us s1 l I1 ar nt h=>?_;obtain⟨ts,e1,h⟩:=Zi h;obtain⟨xs,e2,h⟩:=Zi h;exact kk F1 p1 ts us s1 xs l I1 (Bb (nt rfl n) ar e1) e2 h
theorem Qa{q:Ik}{ts:ZZ}(h:itT q ts=some xs):(q=.rng/\((∃t,ts=[t]/\u6 t=some xs)\/∃a b,ts=[.int a,.int b]/\yr a b=some xs))\/(q=.zip/\∃a b,ts=[.lst a,.lst b]/\xs=D6 a b)\/(q=.zip/\∃a b,ts=[.tup a,.tup b]/\xs=D6 a b) \/
  (q=.vls/\∃XY,ts=[.dct XY]/\xs=XY.map (·.2))\/(q=.its/\∃XY,ts=[.dct XY]/\xs=XY.map fun p=>.tup [Ja p.1,p.2]):=by
 unfold itT at h
 split at h
 .exact .inl ⟨rfl,.inl ⟨_,rfl,h⟩⟩
 .exact .inl ⟨rfl,.inr ⟨_,_,rfl,h⟩⟩
 .cases h;exact .inr (.inl ⟨rfl,_,_,rfl,rfl⟩)
 .cases h;exact .inr (.inr (.inl ⟨rfl,_,_,rfl,rfl⟩))
 .cases h;exact .inr (.inr (.inr (.inl ⟨rfl,_,rfl,rfl⟩)))
 .cases h;exact .inr (.inr (.inr (.inr ⟨rfl,_,rfl,rfl⟩)))
 .cases h
theorem u4{F F1:OM}{p1:P}{j:Vs}{s1:Shared}{ts xs:ZZ}{us:ZK}{Q:ZZ->P->Prop}(l:Le F F1)(I1:Inv X F1 p1 j s1)(ar:Zs X.toMd F1 ts us)(e:itT .rng ts=some xs)(q:Q xs p1):WP X (call (.type "range") us) (fun v s=>WP X (pyIter v) (IE X F j tg Q) s) s1:=by
 rcases Qa e with ⟨_,⟨t,rfl,e⟩ | ⟨a,b,rfl,e⟩⟩ | ⟨z,_⟩ | ⟨z,_⟩ | ⟨z,_⟩ | ⟨z,_⟩
 .obtain⟨u,rfl,r⟩:=T4 ar;cases t with
  | int nn =>
   obtain⟨hz,e⟩:=Option.ite_none_right_eq_some.mp e;cases e;cases r;refine call_range_1 (wpAny_pyIter_range (IsRange.new ..) (small_one (by decide) (by decide) (by omega) (by omega)) ?_);refine IE.le l (ie1 (it:=_) (tn:=fun i h=>IsRangeIter h _ (0+(i:Nat) * 1) ((nn.toNat:Int) - (i:Nat)) 1) (s:=s1) I1 (vt nn.toNat) ?_ ?_ (fun b o e=>Ya _ (Ya _ e)) (by rw[Za,XZ,sizeLine_eq];omega) q)
   .have e2:((nn.toNat:Nat):Int) - ((0:Nat):Int)=Builtin.Range.rangeSize 0 nn 1:=by rw[rangeSize_one];split<;>omega
    show IsRangeIter _ _ (0+((0:Nat):Int) * 1) (((nn.toNat:Nat):Int) - ((0:Nat):Int)) 1;rw[e2,show (0:Int)+((0:Nat):Int) * 1=0 by simp];exact Gh _ rfl
   .refine Heap.get?_none_of_le ?_;rw[Heap.size_push];omega
  | _=>cases e
 .obtain⟨u,v,rfl,r1,r2⟩:=pr2 ar;cases r1;cases r2;obtain⟨hz,e⟩:=Option.ite_none_right_eq_some.mp e;cases e;refine call_range_2 (wpAny_pyIter_range (IsRange.new ..) (small_one (by omega) (by omega) (by omega) (by omega)) ?_);refine IE.le l (ie1 (it:=_) (tn:=fun i h=>IsRangeIter h _ (a+(i:Nat) * 1) (((b - a).toNat:Int) - (i:Nat)) 1) (s:=s1) I1 (Lp a (b - a).toNat) ?_ ?_ (fun b o e=>Ya _ (Ya _ e)) (by rw[Za,XZ,sizeLine_eq];omega) q)
  .have e2:(((b - a).toNat:Nat):Int) - ((0:Nat):Int)=Builtin.Range.rangeSize a b 1:=by rw[rangeSize_one];split<;>omega
   show IsRangeIter _ _ (a+((0:Nat):Int) * 1) ((((b - a).toNat:Nat):Int) - ((0:Nat):Int)) 1;rw[e2,show (a:Int)+((0:Nat):Int) * 1=a by simp];exact Gh _ rfl
  .refine Heap.get?_none_of_le ?_;rw[Heap.size_push];omega
 all_goals cases z
theorem si_rng{x:Expr}{r:ZM}{es:E}{pos q:Pos}(c:Ct X w k N sc)(hg:sc.lookup ("range" : Str)=some .globalImplicit)(hs:Hs X w false es (x::r))(n:Vd es=true):SI w (.itr .rng es) X tg (.Call (.Name "range" q) (x::r) [] pos):=fun F p j s Q I h=>by
 have st:=hs.star;exact wpAny_Call_Name_kw (Dj I (c.gi hg) (c.bn.b _ (by decide +kernel)) boot_range (by decide) (by decide) (callWith_type1 (Yx st (R2 hs n I h fun F1 p1 ts us s1 xs l I1 ar e q=>u4 l I1 ar e q)) (Z4 (st _ Yd)) (Yt r X.env pos fun e m=>st e (Vq _ m))))
theorem si_zip{a b:Expr}{Bc:ZM}{k':Nat}{pos':Pos}{es:E}{pos q:Pos}(c:Ct X w k N sc)(hg:sc.lookup ("zip" : Str)=some .globalImplicit)(hs:Hs X w false es [a,b])(n:Vd es=true):SI w (.itr .zip es) X (.Tuple Bc k' pos') (.Call (.Name "zip" q) [a,b] [] pos):=fun F p j s Q I h=>by
 have st:=hs.star;refine wpAny_Call_Name_kw (Dj I (c.gi hg) (c.bn.b _ (by decide +kernel)) (by decide +kernel:bootBuiltins "zip" = some (.type "zip")) (by decide) (by decide) (callWith_type1 (Yx st (R2 hs n I h fun F1 p1 ts us s1 xs l I1 ar e q=>?_)) (Z4 (st _ Yd)) (Yt [b] X.env pos fun e m=>st e (Vq _ m))))
 have fin:∀{l1 l2:Addr} {h2:Heap} {tn:Nat->Heap->Prop},(∃o,s1.heap.get? l1=some o)->(∃o,s1.heap.get? l2=some o)->(ZipApart (s1.heap.objs.size+4) (s1.heap.objs.size+2) (s1.heap.objs.size+3) s1.heap.objs.size (s1.heap.objs.size+1) l1 l2->Turn X.toMd F1 (.Tuple Bc k' pos') xs [s1.heap.objs.size+4,s1.heap.objs.size+2,s1.heap.objs.size+3,s1.heap.objs.size,s1.heap.objs.size+1] (s1.heap.objs.size+4) tn)->tn 0 h2 ->
   (∀b o,s1.heap.get? b=some o->h2.get? b=some o)->xs.length<=sizeLine->IE X F j (.Tuple Bc k' pos') Q (.ref (s1.heap.objs.size+4)) { s1 with heap:=h2 }:=fun n1 n2 T' t0 kp zz=>by
  obtain⟨_,n1⟩:=n1;obtain⟨_,n2⟩:=n2;refine⟨F1,p1,xs,_,_,_,s1.heap,rfl,l,I1,T' (zipApart_new (Jr n1) (Jr n2)),t0,fun c hc=>Heap.get?_none_of_le ?_,kp,zz,q⟩;simp only[Vt,Td,or_false]at hc;rcases hc with rfl | rfl | rfl | rfl | rfl<;>first | exact D5 _ | exact Nat.le_add_right _ _
 rcases Qa e with ⟨z,_⟩ | ⟨_,a,b,rfl,rfl⟩ | ⟨_,a,b,rfl,rfl⟩ | ⟨z,_⟩ | ⟨z,_⟩
 .cases z
 .obtain⟨u1,u2,rfl,r1,r2⟩:=pr2 ar;obtain⟨l1,o1,D7,rfl,h1,k1,q1⟩:=r1.unL;obtain⟨l2,o2,Jk,rfl,h2,k2,q2⟩:=r2.unL;have g1:=I1.fh _ _ h1;have g2:=I1.fh _ _ h2;refine call_zip_2 (k1.is g1) (k2.is g2) fun hh b1 b2 b3 b4 b5 b6 k3=>wpAny_pyIter_zip (s:={ s1 with heap:=hh }) b1 (fin ⟨_,g1⟩ ⟨_,g2⟩ (fun D=>vm D h1 k1 q1 h2 k2 q2) ⟨b1,b2,⟨_,_,b3⟩,b4,b5⟩ k3 (by rw[Cr,q1.length];exact Gs (Nat.min_le_left _ _) k1.1))
 .obtain⟨u1,u2,rfl,r1,r2⟩:=pr2 ar;obtain⟨l1,o1,D7,rfl,h1,k1,q1⟩:=r1.unT;obtain⟨l2,o2,Jk,rfl,h2,k2,q2⟩:=r2.unT;have g1:=I1.fh _ _ h1;have g2:=I1.fh _ _ h2;refine ZipT.call2 (show s1.heap.IsTuple l1 D7.toArray from k1.is g1) (show s1.heap.IsTuple l2 Jk.toArray from k2.is g2) fun hh b1 b2 b3 b4 b5 b6 k3=>wpAny_pyIter_zip (s:={ s1 with heap:=hh }) b1 (fin ⟨_,g1⟩ ⟨_,g2⟩ (fun D=>zi D h1 k1 q1 h2 k2 q2) ⟨b1,b2,⟨_,_,b3⟩,b4,b5⟩ k3 (by rw[Cr,q1.length];exact Gs (Nat.min_le_left _ _) k1.z))
 .cases z
 .cases z
def Yn:Expr->Bool
 | .Call _ _ _ _=>false
 | _=>true
theorem D4{o:Expr}(h:Yn o=true)(m:Str)(env:Env)(wh:Sem Value):attributeBase o m env wh=wh:=by
 cases o<;>first | rfl | cases h
theorem Xq{ox:Expr}{es:E}{ap cp:Pos}{q:Ik}(m:Str)(hq:(q=.vls/\m = "values")\/(q=.its/\m = "items" /\ isTup tg=true))(hs:Hs X w false es [ox])(n:Vd es=true)(hc:Yn ox=true)(hline:(ap.endLine == cp.line)=true):SI w (.itr q es) X tg (.Call (.Attribute ox m ap) [] [] cp):=fun F p j s Q I h=>by
 have z:Ba X [ox] (fun us s1=>∃v,us=[v]/\MethodOn X.prog X.w X.A m cp v [] (fun v s=>WP X (pyIter v) (IE X F j tg Q) s) X.xe s1) s:=by
  refine R2 hs n I h fun F1 p1 ts us s1 xs l I1 ar e qq=>?_
  .rcases hq with ⟨rfl,rfl⟩ | ⟨rfl,rfl,ht⟩
   .rcases Qa e with ⟨z,_⟩ | ⟨z,_⟩ | ⟨z,_⟩ | ⟨_,XY,rfl,rfl⟩ | ⟨z,_⟩
    rotate_right
    .cases z
    rotate_right
    .obtain⟨v,rfl,r⟩:=T4 ar;obtain⟨d,o,vs,rfl,ho,k,r⟩:=r.unD;obtain⟨ep,m⟩:=Ac ho k;have hd:=I1.fh _ _ ho;refine⟨_,rfl,"dict","dict.values",PySem.F.plainAttrs_dict,PySem.F.slot_dict_values,PySem.F.type_dict_values,(k.is hd).typeIs,fun a e=>by cases e;exact⟨o,hd,k.ex.2.1⟩,Calls.callWith_builtin rfl (PySem.evalArgs_none ?_)⟩;refine call_meetsIn PySem.F.slot_dict_values (k.is hd).typeIs PySem.F.entry_dict_values (PySem.F.args_dict_values_1 _) (meets_dict_values (Zf X.prog X.w) d k.ns) ⟨⟨vs,k.is hd⟩, ?_⟩;refine wpAny_pyIter_values (s:={ s1 with heap:=s1.heap.push { cls:=.type "dict_values",data:=.fields #[.ref d] } }) ⟨_,Gh _ rfl,rfl,rfl⟩ ((m _ I1.fh).push _) ?_;exact IE.le l (ie1 (s:=s1) (tk:=s1.toks) I1 (ze m r) ⟨_,Gh _ rfl,rfl,rfl⟩ (Heap.get?_none_of_le (by rw[Heap.size_push];omega)) (fun b o e=>Ya _ (Ya _ e)) (by rw[Za,r.length];exact k.z) qq)
    all_goals cases z
   .rcases Qa e with ⟨z,_⟩ | ⟨z,_⟩ | ⟨z,_⟩ | ⟨z,_⟩ | ⟨_,XY,rfl,rfl⟩
    rotate_right
    .cases tg<;>first | (cases ht;done) | skip
     obtain⟨v,rfl,r⟩:=T4 ar;obtain⟨d,o,vs,rfl,ho,k,r⟩:=r.unD;obtain⟨ep,m⟩:=Ac ho k;have hd:=I1.fh _ _ ho;refine⟨_,rfl,"dict","dict.items",PySem.F.plainAttrs_dict,PySem.F.slot_dict_items,PySem.F.type_dict_items,(k.is hd).typeIs,fun a e=>by cases e;exact⟨o,hd,k.ex.2.1⟩,Calls.callWith_builtin rfl (PySem.evalArgs_none ?_)⟩;refine call_meetsIn PySem.F.slot_dict_items (k.is hd).typeIs PySem.F.entry_dict_items (PySem.F.args_dict_items_1 _) (meets_dict_items (Zf X.prog X.w) d k.ns) ⟨⟨vs,k.is hd⟩, ?_⟩;refine wpAny_pyIter_items (s:={ s1 with heap:=s1.heap.push { cls:=.type "dict_items",data:=.fields #[.ref d] } }) ⟨_,Gh _ rfl,rfl,rfl⟩ ((m _ I1.fh).push _) ?_;exact IE.le l (ie1 (s:=s1) (tk:=s1.toks) I1 (Kt m r) ⟨.none,.none,Gh _ rfl⟩ (Heap.get?_none_of_le (by rw[Heap.size_push];omega)) (fun b o e=>Ya _ (Ya _ e)) (by rw[Za,r.length];exact k.z) qq)
    all_goals cases z
 exact wpAny_Call_method0_late (D4 hc _ _ _) hline (wpAny_mono z (fun v s1 q=>by
  obtain⟨v',e,q⟩:=q;cases e;exact q) fun _ _ z=>z)
end
noncomputable def Cx.pin(X:Cx)(fp:ZS)(h:Heap):Cx:={ X with G:=fun a=>if a∈fp then h.get? a else X.G a }
structure Fp(X:Cx)(F:OM)(p:P)(j:Vs)(b:Addr):Prop where
 n:F b=none
 k:¬ X.kp b
 o:∀(i:Nat) (t:T),p[i]?=some (Sl.o t)->j[i]?≠some (some (.ref b))
section
variable{X:Cx}{F F':OM}{p p':P}{l σ':Vs}{s s':Shared}{h h':Heap}{fp:ZS}{b:Addr}{tk:Nat}
theorem Inv.isFp(I:Inv X F p l s)(n:s.heap.get? b=none):Fp X F p l b:=by
 refine⟨?_,fun z=>?_,fun i t e e2=>?_⟩
 .cases e:F b with
  | none=>rfl
  | some o=>rw[I.fh _ _ e]at n;cases n
 .obtain⟨o,e⟩:=I.kpAt z;rw[n]at e;cases e
 .obtain⟨a,e1,w⟩:=I.r.ow i t e;rw[e2]at e1;cases e1;obtain⟨x,hx⟩:=w.at;rw[n]at hx;cases hx
theorem Inv.turned(I:Inv X F p l s)(hf:∀b∈fp,Fp X F p l b)(kk:∀b o,b ∉ fp->s.heap.get? b=some o->h'.get? b=some o):Inv X F p l { s with heap:=h',toks:=tk }:=by
 have nf:∀{a:Addr},X.kp a->a ∉ fp:=fun k m=>(hf _ m).k k;refine I.step rfl I.bare (.refl F) (fun a o e=>?_) (fun a o k _ e=>.same (kk a o (nf k) e)) (fun m hn=>Nw (fun o e=>⟨o.slots,kk _ o (nf (.inr (.inl rfl))) e⟩) hn) (I.r.to (.refl F) fun i t a e1 e2=>?_)
 .obtain⟨h1,h2⟩:=I.f a o e;exact⟨kk a o (fun m=>by rw[(hf a m).n]at e;cases e) h1,h2⟩
 .obtain⟨c,g1,w⟩:=I.r.ow i t e1;rw[e2]at g1;cases g1;exact⟨w.f,fun x=>kk a x fun m=>(hf a m).o i t e1 e2⟩
theorem K8(ho:∀b∈fp,∃o,h.get? b=some o){a:Addr}(k:X.kp a):(X.pin fp h).kp a:=by
 rcases k with k | k
 .refine .inl ?_;show (if a∈fp then h.get? a else X.G a)≠none
  split
  .rename_i m
   obtain⟨o,e⟩:=ho a m;rw[e];exact fun z=>nomatch z
  .exact k
 .exact .inr k
theorem br{a:Addr}(k:(X.pin fp h).kp a):a∈fp\/X.kp a:=by
 rcases k with k | k
 .by_cases m:a∈fp
  .exact .inl m
  .refine .inr (.inl ?_);have k:(if a∈fp then h.get? a else X.G a)≠none:=k;rw[if_neg m]at k;exact k
 .exact .inr (.inr k)
theorem Cx.Ok.pin(ok:X.Ok)(hf:∀b∈fp,¬ X.kp b):(X.pin fp h).Ok:=by
 have ne:∀{a:Addr},X.kp a->(X.pin fp h).G a=X.G a:=fun {a} k=>if_neg fun m=>hf a m k;exact⟨ok.mod,ok.kind,ok.gl,ok.bl,ok.ab,ok.inj,ok.has,ok.hd,ok.frames,ok.stk,ok.b,fun b hb=>by rw[ne (.inl (ok.fg b hb))];exact ok.fg b hb,fun a ma=>(ne (.inr ma)).trans (ok.gm a ma),fun y c e=>(ok.cg y c e).imp id fun z=>by rw[ne (.inl z)];exact z⟩
theorem Inv.pin(I:Inv X F p l s)(hf:∀b∈fp,Fp X F p l b)(ho:∀b∈fp,∃o,s.heap.get? b=some o):Inv (X.pin fp s.heap) F p l s:=by
 have ow:∀{a:Addr} {t:T},C7 X F s.heap a t->a ∉ fp->C7 (X.pin fp s.heap) F s.heap a t:=fun w m=>⟨w.c,w.f,fun z=>(br z).elim m w.k,w.t⟩;refine⟨I.ok.pin fun b m=>(hf b m).k,I.os,I.bare,I.le,fun a o e=>?_,fun a o e=>?_,I.fr,I.ns,I.cell,I.len,⟨I.r.fz,fun i t e=>?_,I.r.ap,I.r.ln⟩,I.pr⟩
 .obtain⟨h1,h2⟩:=I.f a o e;exact⟨h1,fun z=>(br z).elim (fun m=>by rw[(hf a m).n]at e;cases e) h2⟩
 .have e:(if a∈fp then s.heap.get? a else X.G a)=some o:=e
  split at e
  .exact .same e
  .exact I.g a o e
 .obtain⟨a,h1,w⟩:=I.r.ow i t e;exact⟨a,h1,ow w fun m=>(hf a m).o i t e h1⟩
theorem C7.unpin(ho:∀b∈fp,∃o,h.get? b=some o){a:Addr}{t:T}(w:C7 (X.pin fp h) F h' a t):C7 X F h' a t:=⟨w.c,w.f,fun z=>w.k (K8 ho z),w.t⟩
theorem Inv.unpin(ok:X.Ok)(hf:∀b∈fp,¬ X.kp b)(ho:∀b∈fp,∃o,h.get? b=some o)(J:Inv (X.pin fp h) F' p' σ' s'):Inv X F' p' σ' s'/\(∀b∈fp,Fp X F' p' σ' b)/\∀b∈fp,∀o,h.get? b=some o->s'.heap.get? b=some o:=by
 have pk:∀{b:Addr},b∈fp->(X.pin fp h).kp b:=fun {b} m=>.inl (by
  show (if b∈fp then h.get? b else X.G b)≠none;rw[if_pos m];obtain⟨o,e⟩:=ho b m;rw[e];exact fun z=>nomatch z)
 refine⟨⟨ok,J.os,J.bare,J.le,fun a o e=>⟨(J.f a o e).1,fun z=>(J.f a o e).2 (K8 ho z)⟩,fun a o e=>J.g a o ?_,J.fr,J.ns,J.cell,J.len,⟨J.r.fz,fun i t e=>let ⟨a,h1,w⟩:=J.r.ow i t e;⟨a,h1,w.unpin ho⟩,J.r.ap,J.r.ln⟩,J.pr⟩,fun b m=>⟨?_,hf b m,fun i t e e2=>?_⟩,fun b m o e=>?_⟩
 .exact(if_neg fun m=>hf a m (.inl (by rw[e];exact fun z=>nomatch z))).trans e
 .cases e:F' b with
  | none=>rfl
  | some o=>exact absurd (pk m) (J.f b o e).2
 .obtain⟨a,h1,w⟩:=J.r.ow i t e;rw[e2]at h1;cases h1;exact w.k (pk m)
 .obtain⟨sl,e1,n⟩:=J.g b o (show (if b∈fp then h.get? b else X.G b)=some o by rw[if_pos m];exact e);rw[e1,n fun z=>hf b m (.inl (ok.fg b z))]
theorem Res.unpin{r:Sl}{v:Value}(ho:∀b∈fp,∃o,h.get? b=some o)(rs:Res (X.pin fp h) F p l h' r v):Res X F p l h' r v:=by
 cases r with
 | no=>exact rs
 | f t=>exact rs
 | o t=>obtain⟨a,e,w,n⟩:=rs;exact⟨a,e,w.unpin ho,n⟩
variable{w:W}{k:Nat}{N:ZG}{sc:ZW}
theorem Ct.pin(c:Ct X w k N sc)(ok:X.Ok)(hf:∀b∈fp,¬ X.kp b)(ho:∀b∈fp,∃o,h.get? b=some o):Ct (X.pin fp h) w k N sc :=
 ⟨c.nN,c.nd,c.nm,c.room,c.un,c.gd,c.bn,c.fn,c.gl,fun F p l s e cc t J x hw=>c.xe F p l s e cc t (J.unpin ok hf ho).1 ⟨x.f,fun z=>x.k (K8 ho z),x.ex⟩ hw,c.cl,c.calm⟩
theorem Ot(c:Ct X w k N sc)(hc:X.calm=true){tg:E}{t:Expr}(hg:Jo N sc tg t=true){x:T}{u:Value}{Q:ZH}(I:Inv X F p l s)(y:Yl X.toMd F s.heap t x u)(ho:Ju X.pt tg=true)(e:asg tg x p=some p')(q:∀σ' s',Inv X F p' σ' s'->Q () s'):WP X (assign t X.env u) Q s:=by
 rcases y with i | ⟨ht,a,us,ts,rfl,rfl,tp,r⟩
 .exact(Kc c hc tg).1 t F p p' l s x u Q hg I i ho e q
 .cases tg with
  | tup es =>
   have hg:(match Ti t with | some xs=>Rd N sc es xs | none=>false)=true:=hg
   split at hg
   .rename_i xs ex
    obtain⟨j,pos,rfl⟩:=Bf ex;obtain⟨hl,Dv⟩:=m9 hg (show E5 es ts p=some p' from e);obtain⟨a1,a2⟩:=Ww (env:=X.env) Dv;refine assign_Tuple_tuple (I.ok.hd hc) tp (by rw[Jv,a1, <-hl,r.length]) a2 fun h' hx=>?_;have I1:Inv X F p l { s with heap:=h' }:=I.more (t:=s.toks) (fun b o _ e=>hx b o (C8 (Jr e)) e) (fun m hn=>hn.keeps fun b o e=>hx b o (C8 (Jr e)) e) (.refl F) fun _ _ e=>.inl e;exact(Kc c hc es).2 xs F p p' l _ ts us Q hg I1 r ho e q
   .cases hg
  | v i =>
   have hg:(match Jy t with | some y=>N[i]? == some y && locs sc y | none=>false)=true:=hg
   split at hg
   .rename_i ey
    obtain⟨pos,rfl⟩:=Vv ey;cases ht
   .cases hg
  | _=>cases(show false=true from hg)
theorem ss_for(po:PassesOwn (model X.prog X.w) X.A X.env X.xe)(c:Ct X w k N sc)(hc:X.calm=true){tg it:E}{bd:S}{t iter:Expr}{body:List Stmt}{pos:Pos}(hi:SI w it X t iter)(hg:Jo N sc tg t=true)(hb:∀fp h,Ct (X.pin fp h) w k N sc->SB w bd (X.pin fp h) body)(hs:∀v,foldedSetIterable iter X.env v=pure v):SS w (.loop tg it bd) X (.For t iter body [] pos):=fun F p l s D I hw=>by
 have hw:if Ju X.pt tg=true then wI w it p fun xs q=>Fl (fun x s D=>on (asg tg x s) fun s1=>wS w X.pt bd s1 D) xs q D else False:=hw
 split at hw
 rotate_left
 .exact hw.elim
 rename_i htg
 refine wpAny_For (Yo (hi F p l s _ I hw) fun v s1 h1=>Yo h1 fun itv s2 h2=>?_) hs;obtain⟨F0,p0,xs,itA,fp,tn,h0,rfl,l0,I0,Tr,t0,new,kp0,zz,q0⟩:=h2;have I2:Inv X F0 p0 l s2:=I0.kept (s:={ s2 with heap:=h0 }) (t:=s2.toks) kp0;have f0:∀b∈fp,Fp X F0 p0 l b:=fun b m=>I0.isFp (new b m);refine codeAny_forLoop_any (fun n s'=>∃i F1 p1 σ1,n=xs.length - i/\i<=xs.length/\Le F0 F1/\Inv X F1 p1 σ1 s'/\tn i s'.heap/\(∀b∈fp,Fp X F1 p1 σ1 b)/\Fl (fun x s D=>on (asg tg x s) fun s1=>wS w X.pt bd s1 D) (xs.drop i) p1 D) ?_ xs.length ⟨0,F0,p0,l,rfl,Cb _,.refl F0,I2,t0,f0,q0⟩;rintro n s3 ⟨i,F1,p1,σ1,rfl,H0,l1,I1,t1,f1,q1⟩;have fF:∀a o,F0 a=some o->s3.heap.get? a=some o:=fun a o e=>I1.fh a o (l1 a o e);by_cases Si:i<xs.length
 .rw[List.drop_eq_getElem_cons Si]at q1;have q1:on (asg tg xs[i] p1) fun s1=>wS w X.pt bd s1 ⟨fun q=>Fl (fun x s D=>on (asg tg x s) fun s1=>wS w X.pt bd s1 D) (xs.drop (i+1)) q D,D.rt,D.nx,fun q=>Fl (fun x s D=>on (asg tg x s) fun s1=>wS w X.pt bd s1 D) (xs.drop (i+1)) q D⟩:=q1;obtain⟨p2,ea,q1⟩:=Zi q1;refine wpAny_passesOwn po (Tr.item X.A i s3 X.xe (fun u s5=>∃h' tk,s5={ s3 with heap:=h',toks:=tk }/\(∀b o,b ∉ fp->s3.heap.get? b=some o->h'.get? b=some o)/\tn (i+1) h'/\Yl X.toMd F0 h' t xs[i] u) (I1.ok.hd hc) t1 fF Si (fun h' tk u k' t' y=>⟨h',tk,rfl,k',t',y⟩) |> fun z=>wpAny_mono z (fun r s4 ⟨u,hr,h4⟩=>?_) fun _ _ z=>z);subst hr;refine wpAny_passesOwn po (Yo h4 fun _ s5 ⟨h',tk,e5,k5,t5,y5⟩=>?_);subst e5;have I5:Inv X F1 p1 σ1 { s3 with heap:=h',toks:=tk }:=I1.turned f1 k5;have ho:=Tr.obj _ _ t5;have nk:∀b∈fp,¬ X.kp b:=fun b m=>(f1 b m).k;have I6:=I5.pin f1 ho;have cp:Ct (X.pin fp h') w k N sc:=c.pin I1.ok nk ho;have y6:Yl (X.pin fp h').toMd F1 h' t xs[i] u:=y5.imp (fun i=>i.up l1) fun⟨a,b,c,d,e,g,hh,r⟩=>⟨a,b,c,d,e,g,hh,r.up l1⟩;refine wpAny_passesOwn po (Yo (Ot (X:=X.pin fp h') cp hc hg I6 y6 htg ea (Q:=fun _ s6=>∃σ6,Inv (X.pin fp h') F1 p2 σ6 s6) fun σ' s' J=>⟨σ',J⟩) fun _ s6 ⟨σ6,J6⟩=>?_);refine wpAny_passesOwn po (Yo (hb fp h' cp F1 p2 σ6 s6 _ J6 q1) fun f s7 ⟨F7,p7,σ7,l7,J7,q7⟩=>?_);obtain⟨I7,f7,k7⟩:=J7.unpin I1.ok nk ho;have l70:=l0.trans (l1.trans l7);cases f with
  | next=>exact⟨_,by omega,i+1,F7,p7,σ7,rfl,Si,l1.trans l7,I7,Tr.keep _ _ _ t5 k7,f7,q7⟩
  | cont=>exact⟨_,by omega,i+1,F7,p7,σ7,rfl,Si,l1.trans l7,I7,Tr.keep _ _ _ t5 k7,f7,q7⟩
  | brk=>exact⟨F7,p7,σ7,l70,I7,q7⟩
  | ret v=>obtain⟨r,rs,q7⟩:=q7;exact⟨F7,p7,σ7,l70,I7,r,rs.unpin ho,q7⟩
 .have ei:i=xs.length:=by omega
  subst ei;rw[List.drop_length]at q1;refine wpAny_passesOwn po (Tr.done X.A xs.length s3 X.xe _ (I1.ok.hd hc) t1 fF (D5 _) fun h' tk k'=>?_);exact wpAny_execs_nil ⟨F1,p1,σ1,l0.trans l1,I1.turned f1 k',q1⟩
end
theorem Pu:∀{fr:ZV} {q p:P},fr.length=q.length->(back fr q p).length=p.length/\∀(i:Nat) (s:Sl),(back fr q p)[i]?=some s->(p[i]?=some s/\∀k:Nat,fr[k]?≠some (some i))\/∃k:Nat,fr[k]?=some (some i)/\q[k]?=some s
 | [],q,p,_=>⟨rfl,fun i s h=>.inl ⟨h,fun k z=>by simp at z⟩⟩
 | none::fr,[],p,h=>by cases h
 | some j::fr,[],p,h=>by cases h
 | none::fr,x::q,p,h=>by
  obtain⟨h1,h2⟩:=Pu (fr:=fr) (q:=q) (p:=p) (Nat.succ.inj h);refine⟨h1,fun i s e=>?_⟩;rcases h2 i s e with ⟨a,b⟩ | ⟨k,a,b⟩
  .refine .inl ⟨a,fun k z=>?_⟩;cases k with
   | zero=>cases z
   | succ k=>exact b k z
  .exact .inr ⟨k+1,a,b⟩
 | some j::fr,x::q,p,h=>by
  obtain⟨h1,h2⟩:=Pu (fr:=fr) (q:=q) (p:=p.set j x) (Nat.succ.inj h);refine⟨h1.trans (XX ..),fun i s e=>?_⟩;rcases h2 i s e with ⟨a,b⟩ | ⟨k,a,b⟩
  .rcases Yw a with ⟨z1,z2⟩ | ⟨n,a⟩
   .exact .inr ⟨0,by rw[z1];rfl,by rw[z2];rfl⟩
   .refine .inl ⟨a,fun k z=>?_⟩;cases k with
    | zero=>cases z;exact n rfl
    | succ k=>exact b k z
  .exact .inr ⟨k+1,a,b⟩
abbrev Sb(fr:ZV)(j:Nat):Prop:=∃k:Nat,fr[k]?=some (some j)
noncomputable def Kw(X:Cx)(F:OM)(p:P)(j:Vs)(s:Shared)(scope:Scope)(ns:ZG)(fr:ZV)(L:Addr):Cx :=
 { X with N:=ns,env:=compEnvC scope (Yj X.env scope.names []) L X.env,outer:=X.stack,stack:=X.stack,own:=false,os:=s.os,G:=GG F p j (Sb fr) s.heap,F0:=F,σ0:=frees fr j,pt:=fun i=>(fr[i]?).join.isSome,xe:=oj }
structure Oz(X:Cx)(scope:Scope)(N:ZG)(fr:ZV):Prop where
 clos:closureFor scope X.env=pure (Yj X.env scope.names [])
 kind:scope.kind=.function
 nocell:∀y∈scope.names,y.2≠.cell
 names:∀y∈scope.names,y.2=.local->scope.names.lookup y.1=some .local
 cells:∀x c,(Yj X.env scope.names []).lookup x=some c->X.env.cells.lookup x=some c
 has:∀x,((relabel scope X.env).names.lookup x=some .cell\/(relabel scope X.env).names.lookup x=some .free)->∃c,(Yj X.env scope.names []).lookup x=some c
 len:fr.length=N.length
 fr:∀(i j:Nat),fr[i]?=some (some j)->∃x,N[i]?=some x/\X.N[j]?=some x/\¬ X.env.kindOf x=some .local/\((relabel scope X.env).names.lookup x=some .cell\/(relabel scope X.env).names.lookup x=some .free)
theorem zw{X:Cx}{NX:ZG}{outer scope:Scope}{N:ZG}{fr:ZV}(nx:X.N=NX)(sc:X.env.scope.names=outer.names)(h1:W5 outer scope=true)(ok2:J8 NX scope.names N fr=true)(ok:X.Ok):Oz X scope N fr:=by
 unfold W5 at h1;simp only[Vi,decide_eq_true_eq,n7,Bool.or_eq_true]at h1;obtain⟨hk,hn⟩:=h1
 have kof:∀x,X.env.kindOf x=outer.names.lookup x:=fun x=>by
  show X.env.scope.names.lookup x=_;rw[sc]
 have Zqq:∀y∈scope.names,y.2=.free->X.env.kindOf y.1=some .cell\/X.env.kindOf y.1=some .free:=fun y hy e=>by
  rcases(hn y hy).2 with (z | z) | z
  .exact absurd e z
  .exact .inl ((kof _).trans z)
  .exact .inr ((kof _).trans z)
 have S3:∀y∈scope.names,y.2=.free->∃c,X.env.cells.lookup y.1=some c:=fun y hy e=>ok.has y.1 (Zqq y hy e);refine⟨Lg S3,hk,fun y hy=>(hn y hy).1.1,fun y hy e=>?_,fun x c e=>?_,fun x h=>?_,R6 ok2,fun i j e=>?_⟩
 .rcases(hn y hy).1.2 with z | z
  .exact absurd e z
  .exact z
 .exact Wk S3 (fun p hp=>by cases hp) (x,c) (PySem.mem_of_lookup e)
 .have hm:(x,NameKind.free)∈scope.names:=by
   rcases h with h | h
   .obtain⟨k0,h1,h2⟩:=Tp h;rcases h2 with h2 | ⟨h2,_⟩
    .exact absurd h2.symm (hn _ h1).1.1
    .subst h2;exact h1
   .obtain⟨k0,h1,h2⟩:=Tp h;rcases h2 with h2 | ⟨_,h2⟩
    .subst h2;exact h1
    .cases h2
  obtain⟨c,hc⟩:=Wg (env:=X.env) (cs:=[]) hm;exact Mf hc
 .obtain⟨x,q1,q2,q3⟩:=R7 ok2 e;have hm:=PySem.mem_of_lookup q3;have hf:=Zqq (x,.free) hm rfl;refine⟨x,q1,by rw[nx];exact q2, ?_,Mz q3⟩;intro z;dsimp only at hf;rw[z]at hf;rcases hf with hf | hf<;>cases hf
section
variable{X:Cx}{scope:Scope}{N:ZG}{fr:ZV}{F F':OM}{p q:P}{V τ:Vs}{s s':Shared}{L:Addr}
theorem sub_B:Sub X F p V s (Sb fr) (Kw X F p V s scope N fr L):=⟨rfl,rfl,rfl,rfl,rfl⟩
theorem B4{i:Nat}{v:Value}(h:(frees fr V)[i]?=some (some v)):∃j,fr[i]?=some (some j)/\V[j]?=some (some v):=by
 unfold frees at h;rw[G0m]at h;cases e:fr[i]? with
 | none=>rw[e]at h;cases h
 | some o =>
  rw[e]at h;cases o with
  | none=>cases h
  | some j =>
   refine⟨j,rfl, ?_⟩;have h':(V[j]?).bind id=some v:=M7 h;cases e2:V[j]? with
   | none=>rw[e2]at h';cases h'
   | some o2=>rw[e2]at h';exact congrArg some h'
theorem Dk{i j:Nat}{v:Value}(e:fr[i]?=some (some j))(h:V[j]?=some (some v)):(frees fr V)[i]?=some (some v):=by
 unfold frees;rw[G0m,e];show some ((V[j]?).bind id)=_;rw[h];rfl
theorem Nn{i:Nat}{x:Sl}(h:(fre fr p)[i]?=some x)(n:x≠.no):∃j,fr[i]?=some (some j)/\p[j]?=some x:=by
 unfold fre at h;rw[G0m]at h;cases e:fr[i]? with
 | none=>rw[e]at h;cases h
 | some o =>
  rw[e]at h;cases o with
  | none=>cases h;exact absurd rfl n
  | some j =>
   refine⟨j,rfl, ?_⟩;have h':(p[j]?).getD .no=x:=M7 h;cases e2:p[j]? with
   | none=>rw[e2]at h';exact absurd h'.symm n
   | some o2=>rw[e2]at h';exact congrArg some h'
theorem mh(C:Oz X scope N fr)(I:Inv X F p V s)(hN:N.Nodup)(hXN:X.N.Nodup)(new:s.heap.get? L=none)(hL:X.base.objs.size<=L){h1:Heap}{tk:Nat}(hns:h1.Ns L fun _=>none)(hk:∀b o,s.heap.get? b=some o->h1.get? b=some o) :
  Inv (Kw X F p V s scope N fr L) F (fre fr p) (frees fr V) { s with heap:=h1,toks:=tk }:=by
 have gk:∀{b:Addr},X.kp b->GG F p V (Sb fr) s.heap b≠none:=fun {b} k=>by
  obtain⟨o,e⟩:=I.kpAt k;rw[Nb (I.kpF k) (fun i t _ q1 q2=>?_) e]
  .exact fun z=>nomatch z
  .obtain⟨c,g1,w⟩:=I.r.ow i t q1;rw[q2]at g1;cases g1;exact w.k k
 have mn:∀{b:Addr},(Kw X F p V s scope N fr L).mn b->b=L:=fun {b} h=>by
  rcases h with h | ⟨z,_⟩
  .exact h
  .cases z
 have nokp:∀{b:Addr} {o:Obj},s.heap.get? b=some o->GG F p V (Sb fr) s.heap b=none->¬ (Kw X F p V s scope N fr L).kp b:=fun {b o} e g h=>by
  rcases h with h | h
  .exact h g
  .rw[mn h,new]at e;cases e
 have cell:∀x c,(Yj X.env scope.names []).lookup x=some c->∃v,h1.IsCell c v:=fun x c e=>by
  obtain⟨v,o,e1,d⟩:=I.cell x c (C.cells x c e);exact⟨v,o,hk c o e1,d⟩
 refine⟨⟨I.ok.mod,C.kind,I.ok.gl,I.ok.bl,hL,fun x y c e1 e2=>I.ok.inj x y c (C.cells x c e1) (C.cells y c e2),fun x h=>C.has x h,I.ok.hd,I.ok.frames,.inl rfl,fun a o e=>I.le a o (I.ok.b a o e),fun b hb=>gk (I.stackKp hb),fun a ma=>by rw[mn ma];exact Q3 new,fun x c e=>.inr (gk (I.cellKp (C.cells x c e)))⟩,
  rfl,I.bare,.refl F,fun a o e=>?_,fun a o e=>.same (hk a o ?_),Uy (fun b _ o e=>⟨o.slots,hk b o e⟩) I.stack,⟨_,hns,fun i x v e1 e2=>?_⟩,cell, ?_, ?_,fun _ _=>rfl⟩
 .obtain⟨g1,_⟩:=I.f a o e;exact⟨hk a o g1,nokp g1 (S4 (by rw[e];exact fun z=>nomatch z))⟩
 .have e:GG F p V (Sb fr) s.heap a=some o:=e;unfold GG at e
  split at e
  .cases e
  .exact e
 .obtain⟨j,q1,q2⟩:=B4 e2;obtain⟨x',n1,n2,nl,k⟩:=C.fr i j q1;obtain rfl:x=x':=M7 (e1.symm.trans n1);obtain⟨m,hm,hl⟩:=I.ns;rcases hl j x v n2 q2 with ⟨l1,_⟩ | ⟨_,c,l2,o,l3,l4⟩
  .exact absurd l1 nl
  .obtain⟨c',Qe⟩:=C.has x k;have ec:=C.cells x c' Qe;rw[l2]at ec;cases ec;exact .inr ⟨k,c,Qe,o,hk c o l3,l4⟩
 .show (frees fr V).length=N.length;unfold frees;rw[Za,C.len]
 .refine⟨fun i t e=>?_,fun i t e=>?_,fun i j t u a e1 e2 g1 g2=>?_,by unfold fre frees;rw[Za,Za]⟩
  .obtain⟨j,q1,q2⟩:=Nn e fun z=>nomatch z;obtain⟨v,h1,h2⟩:=I.r.fz j t q2;exact⟨v,Dk q1 h1,h2⟩
  .obtain⟨j,q1,q2⟩:=Nn e fun z=>nomatch z;obtain⟨a,g1,w⟩:=I.r.ow j t q2;obtain⟨o,eo⟩:=w.at;exact⟨a,Dk q1 g1,w.c,w.f,nokp eo (X4 ⟨i,q1⟩ q2 g1),w.t.to (D':=h1.get?) w.c (hk a)⟩
  .obtain⟨k,q1,q2⟩:=Nn e1 fun z=>nomatch z;obtain⟨l,q3,q4⟩:=Nn e2 fun z=>nomatch z;obtain⟨b,h1,_⟩:=I.r.ow k t q2;obtain⟨c,h2,_⟩:=I.r.ow l u q4;rw[Dk q1 h1]at g1;cases g1;rw[Dk q3 h2]at g2;cases g2;have:=I.r.ap k l t u a q2 q4 h1 h2;subst this;obtain⟨x,n1,n2,_⟩:=C.fr i k q1;obtain⟨y,n3,n4,_⟩:=C.fr j k q3;rw[n2]at n4;cases n4;exact Nv hN n1 n3
theorem Ho(C:Oz X scope N fr)(I:Inv X F p V s)(new:s.heap.get? L=none)(J:Inv (Kw X F p V s scope N fr L) F' q τ s'):Le F F'/\Inv X F' (back fr q p) V s'/\(∀r v,Res (Kw X F p V s scope N fr L) F' q τ s'.heap r v->Res X F' (back fr q p) V s'.heap r v)/\Fp X F' (back fr q p) V L:=by
 have hl:fr.length=q.length:=by rw[J.r.ln,J.len,C.len];rfl
 obtain⟨b1,b2⟩:=Pu (p:=p) hl
 have val:∀{i k:Nat} {v:Value},fr[k]?=some (some i)->τ[k]?=some (some v)->τ[k]?=V[i]?:=fun {i k v} e1 e2=>by
  have:τ[k]?=(frees fr V)[k]?:=J.pr k (show (fr[k]?).join.isSome=true by rw[e1];rfl);rw[this]at e2;obtain⟨j,g1,g2⟩:=B4 e2;rw[e1]at g1;cases g1;rw[this,Dk e1 g2,g2]
 have kL:(Kw X F p V s scope N fr L).kp L:=.inr (.inl rfl);have ex:=I.exit (p2:=back fr q p) (ι:=fun k=>(fr[k]?).join) sub_B J (fun i t e=>?_) (fun i t e=>?_) b1;refine⟨ex.1,ex.2.1,ex.2.2,⟨J.kpF kL,fun z=>?_,fun i t e e2=>?_⟩⟩
 .obtain⟨o,eo⟩:=I.kpAt z;rw[new]at eo;cases eo
 .rcases b2 i _ e with ⟨h,_⟩ | ⟨k,h1,h2⟩
  .obtain⟨a,g1,w⟩:=I.r.ow i t h;rw[e2]at g1;cases g1;obtain⟨x,hx⟩:=w.at;rw[new]at hx;cases hx
  .obtain⟨a,g1,w⟩:=J.r.ow k t h2;rw[val h1 g1,e2]at g1;cases g1;exact w.k kL
 .rcases b2 i _ e with ⟨h,_⟩ | ⟨k,h1,h2⟩
  .exact .inl h
  .obtain⟨v,g1,_⟩:=J.r.fz k t h2;exact .inr ⟨k,h2,val h1 g1⟩
 .rcases b2 i _ e with ⟨h,n⟩ | ⟨k,h1,h2⟩
  .exact .inl ⟨h,fun⟨k,hk⟩=>n k hk⟩
  .obtain⟨a,g1,_⟩:=J.r.ow k t h2;exact .inr ⟨k,h2,val h1 g1,by rw[h1];rfl⟩
end
theorem Wr{prog:Program}{w:World}{A:Around}{E:ZQ}{s:Shared}{a:Addr}{us:ZK}{n:Nat}{u:Value}{Q:ZQ}(e:s.heap.get? a=some { cls:=.type "list",data:=.seq us.toArray n })(hz:us.length<sizeLine)
  (k:∀h' m,(∀b,b≠a->h'.get? b=s.heap.get? b)->h'.get? a=some { cls:=.type "list",data:=.seq (us++[u]).toArray m }->Q .none { s with heap:=h' }):wpAny (model prog w) A (call (.builtin "list.append") [.ref a,u]) Q E s:=by
 refine call_meets PySem.F.slot_list_append ⟨_,e,rfl⟩ PySem.F.entry_list_append (PySem.F.args_list_append_2 _ _) (PySem.list_append a us.toArray n u (by rw[Jv];omega)) ⟨e, ?_⟩
 have em:Obj.mapSeq (fun x=>x.push u) { cls:=.type "list",data:=.seq us.toArray n }={ cls:=.type "list",data:=.seq (us++[u]).toArray (n+1) }:=by
  simp[Obj.mapSeq]
 exact k _ _ (fun b nb=>Heap.get?_update_other _ _ (Ne.symm nb)) ((Heap.get?_update_self _ e (by rfl)).trans (congrArg some em))
def Bk(w:W)(tg c el:E):T->P->(Option T->P->Prop)->Prop:=fun x s K=>on (asg tg x s) fun s1=>if isNil c=true then wE w.nx el s1 fun r s2=>My r fun y=>K (some y) s2
 else wE w.nx c s1 fun r s2=>L5 r fun b=>if b=true then wE w.nx el s2 fun r s3=>My r fun y=>K (some y) s3 else K none s2
def HT(w:W)(c:E)(Y:Cx)(ifs:ZM):Prop:=∀(F:OM) (p:P) (j:Vs) (s:Shared) (Q:Bool->P->Prop),Inv Y F p j s->(if isNil c=true then Q true p else wE w c p fun r q=>L5 r fun b=>Q b q)->WP Y (Io ifs Y.env) (TP Y F j Q) s
theorem ht_nil{w:W}{c:E}{Y:Cx}(h:isNil c=true):HT w c Y []:=fun F p j s Q I q=>by
 rw[if_pos h]at q;exact wpAny_tests_nil ⟨F,p,.refl F,I,q⟩
theorem ht_one{w:W}{c:E}{Y:Cx}{z:Expr}(h:isNil c=false)(hc:ST w c Y z (eval z Y.env)):HT w c Y [z]:=fun F p j s Q I q=>by
 rw[if_neg (by rw[h];exact Ox)]at q;exact wpAny_tests_one (hc F p j s Q I q)
section
variable{X:Cx}{w:W}{k:Nat}{N:ZG}{sc:Scope}{scope:Scope}{ns:ZG}{fr:ZV}
theorem Ct.comp(c:Ct X w k N sc.names)(h1:W5 sc scope=true)(nd:ns.Nodup){F:OM}{p:P}{j:Vs}{s:Shared}{L:Addr}:Ct (Kw X F p j s scope ns fr L) w.nx k ns scope.names:=by
 refine⟨rfl,nd,fun x kd e=>?_,c.room,c.un,c.gd,c.bn,c.fn,c.gl,fun _ _ _ _ _ _ _ _ _ z=>z.elim,fun x e=>?_,c.calm⟩
 .have e2:(relabel scope X.env).names.lookup x=some (if (kd == NameKind.free && X.env.scope.kind == .function && X.env.kindOf x == some .cell)=true then NameKind.cell else kd):=by
   rw[Mv,V6 (f:=fun n k=>if (k == NameKind.free && X.env.scope.kind == .function && X.env.kindOf n == some .cell)=true then NameKind.cell else k),e]
   rfl
  show (relabel scope X.env).names.lookup x=some kd\/(kd=NameKind.free/\(relabel scope X.env).names.lookup x=some NameKind.cell);rw[e2]
  split
  .rename_i h
   simp only[Vi,beq_iff_eq]at h;exact .inr ⟨h.1.1,rfl⟩
  .exact .inl rfl
 .unfold W5 at h1;simp only[Vi,decide_eq_true_eq,n7,Bool.or_eq_true]at h1;exact absurd rfl (h1.2 (x,.cell) (PySem.mem_of_lookup e)).1.1
theorem Es(c:Ct X w k N sc.names)(hc:X.calm=true)(C:Oz X scope ns fr)(h1:W5 sc scope=true)(nd:ns.Nodup){tg cd el:E}{t elt iter:Expr}{ifs:ZM}{pos:Pos}(hg:Jo ns scope.names tg t=true)(htg:Ju (fun i=>(fr[i]?).join.isSome) tg=true)
  (ht:∀Y,Ct Y w.nx k ns scope.names->HT w.nx cd Y ifs) (he:∀Y,Ct Y w.nx k ns scope.names->SE w.nx el Y elt) {F:OM} {l:Vs} {s2:Shared} {itv:Value} {Q:Sl->P->Prop} {RR:Value->Addr->Result->Shared->Prop} {E:ZQ}
  (h2:IE X F l t (fun xs q=>Z7 (Bk w tg cd el) xs [] (fre fr q) fun ys s=>Q (.o (.lst ys)) (back fr s q)) itv s2)
  (m8:∀(D L:Addr) (fl:Flow) (s':Shared) (F':OM) (p':P) (ys:ZZ) (m:ZJ),Le F F'->Inv X F' p' l s'->Res X F' p' l s'.heap (.o (.lst ys)) (.ref D)->Fp X F' p' l L->D≠L->s'.heap.Ns L m->Q (.o (.lst ys)) p'->RR (.ref D) L (.ok fl) s') :
  wpAny (model X.prog X.w) X.A (newList []) (fun acc s₃=>wpAny (model X.prog X.w) X.A (newFunctionEnv scope X.env.globals (Yj X.env scope.names []) [] X.env.qual none .none (some X.env)) (fun cenv s₄ =>
   codeAny (model X.prog X.w) X.A (.compStart (.ListComp elt [⟨t,iter,ifs,0⟩] scope pos) 0 itv acc { cenv with scope:=relabel scope X.env }) (RR acc cenv.locals) s₄) E s₃) E s2:=by
 obtain⟨F0,p0,xs,itA,fp,tn,h0,rfl,l0,I0,Tr,t0,new,kp0,zz,q0⟩:=h2;have obj0:=Tr.obj 0 _ t0;refine wpAny_newObj_type (wpAny_newFunctionEnv C.nocell (by intro y hy;simp at hy) (fun hh hns hsb=>?_) C.kind);dsimp only at hns hsb ⊢;have eD:(s2.heap.push { cls:=.type "list",data:=.seq ([]:ZK).toArray }).get? s2.heap.objs.size=some { cls:=.type "list",data:=.seq ([]:ZK).toArray }:=Gh _ rfl;have nLD:s2.heap.objs.size≠(s2.heap.push { cls:=.type "list",data:=.seq ([]:ZK).toArray }).objs.size:=by rw[Heap.size_push];omega
 have hk1:∀b o,(s2.heap.push { cls:=.type "list",data:=.seq ([]:ZK).toArray }).get? b=some o->hh.get? b=some o:=fun b o e=>hsb.extBut b o (C8 (Jr e)) (Ya _ e);have hk2:∀b o,s2.heap.get? b=some o->hh.get? b=some o:=fun b o e=>hk1 b o (Ya _ e);have szL:s2.heap.objs.size<(s2.heap.push { cls:=.type "list",data:=.seq ([]:ZK).toArray }).objs.size:=by rw[Heap.size_push];omega
 have eD1:=hk1 _ _ eD;generalize hD:s2.heap.objs.size=D at *;generalize hL:(s2.heap.push { cls:=.type "list",data:=.seq ([]:ZK).toArray }).objs.size=L at *
 have new0:∀{b:Addr},D<=b->h0.get? b=none:=fun {b} h=>by
  cases e:h0.get? b with
  | none=>rfl
  | some o=>exact absurd (Jr (kp0 b o e)) (by rw[hD];exact Nat.not_lt_of_le h)
 have I2:Inv X F0 p0 l s2:=I0.kept (s:={ s2 with heap:=h0 }) (t:=s2.toks) kp0
 have hbL:X.base.objs.size<=L:=by
  have a1:=I2.ok.ab;have a2:=I2.lt;rw[hD]at a2;exact Nat.le_of_lt (N0o a1 (Nat.lt_trans a2 szL))
 have J1:=mh (h1:=hh) (tk:=s2.toks+([]:List (Str×Value)).length) C I0 nd (by rw[c.nN];exact c.nd) (new0 (Nat.le_of_lt szL)) hbL hns (fun b o e=>hk2 b o (kp0 b o e))
 have nD:D ∉ fp:=fun m=>by
  obtain⟨o,e⟩:=obj0 D m;exact absurd (Jr e) (by rw[hD];exact Nat.lt_irrefl _)
 have fpY:∀b∈D::fp,Fp (Kw X F0 p0 l { s2 with heap:=h0 } scope ns fr L) F0 (fre fr p0) (frees fr l) b:=fun b m=>by
  have nb:h0.get? b=none/\b≠L:=by
   rcases Vt.mp m with rfl | m
   .exact⟨new0 (D5 _),nLD⟩
   .obtain⟨o,e⟩:=obj0 b m;exact⟨new b m,fun z=>absurd (Jr e) (by rw[hD,z];exact Nat.not_lt_of_le (Nat.le_of_lt szL))⟩
  have f0:=I0.isFp nb.1;refine⟨f0.n,fun z=>?_,fun i u e e2=>?_⟩
  .rcases z with z | z | ⟨z,_⟩
   .exact z (Q3 nb.1)
   .exact nb.2 z
   .cases z
  .obtain⟨j,g1,g2⟩:=Nn e fun z=>nomatch z;obtain⟨j',g3,g4⟩:=B4 e2;rw[g1]at g3;cases g3;exact f0.o j u g2 g4
 have cY:Ct (Kw X F0 p0 l { s2 with heap:=h0 } scope ns fr L) w.nx k ns scope.names:=c.comp h1 nd;have okY:=J1.ok
 have loop:codeAny (model X.prog X.w) X.A (.compLoop (.ListComp elt [⟨t,iter,ifs,0⟩] scope pos) 0 (.ref itA) (.ref D) (Kw X F0 p0 l { s2 with heap:=h0 } scope ns fr L).env) (RR (.ref D) L) { s2 with heap:=hh,toks:=s2.toks+([]:List (Str×Value)).length }:=by
  refine Pd (fun n s'=>∃i F1 q1 τ1 us ys m,n=xs.length - i/\i<=xs.length/\Le F0 F1/\Inv (Kw X F0 p0 l { s2 with heap:=h0 } scope ns fr L) F1 q1 τ1 s'/\tn i s'.heap/\(∀b∈D::fp,Fp (Kw X F0 p0 l { s2 with heap:=h0 } scope ns fr L) F1 q1 τ1 b) /\
   s'.heap.get? D=some { cls:=.type "list",data:=.seq us.toArray m }/\Zs X.toMd F1 ys us/\us.length<=i/\Z7 (Bk w tg cd el) (xs.drop i) ys q1 fun ys s=>Q (.o (.lst ys)) (back fr s p0)) ?_ xs.length ⟨0,F0,_,_,[],[],0,rfl,Cb _,.refl F0,J1,Tr.keep _ _ _ t0 (fun b _ o e=>hk2 b o e),fpY,eD1,.nil,D5 _,q0⟩
  rintro n s3 ⟨i,F1,q1,τ1,us,ys,m,rfl,H0,l1,J3,t3,f3,e3,r3,z3,w3⟩;have fF:∀a o,F0 a=some o->s3.heap.get? a=some o:=fun a o e=>J3.fh a o (l1 a o e);by_cases Si:i<xs.length
  .rw[List.drop_eq_getElem_cons Si]at w3
   have w3:Bk w tg cd el xs[i] q1 fun o p'=>match o with
    | some y=>Z7 (Bk w tg cd el) (xs.drop (i+1)) (ys++[y]) p' fun ys s=>Q (.o (.lst ys)) (back fr s p0)
    | none=>Z7 (Bk w tg cd el) (xs.drop (i+1)) ys p' fun ys s=>Q (.o (.lst ys)) (back fr s p0):=w3
   obtain⟨p2,ea,w3⟩:=Zi w3;refine wpAny_mono (Tr.item X.A i s3 oj (fun u s5=>∃h' tk,s5={ s3 with heap:=h',toks:=tk }/\(∀b o,b ∉ fp->s3.heap.get? b=some o->h'.get? b=some o)/\tn (i+1) h'/\Yl X.toMd F0 h' t xs[i] u) (J3.ok.hd hc) t3 fF Si (fun h' tk u k' t' y=>⟨h',tk,rfl,k',t',y⟩)) (fun r s4 ⟨u,hr,h4⟩=>?_) fun _ _ z=>z;subst hr;show A6 _ _ _ _ _ _ _ _ _ _ _ _;refine wpAny_mono h4 (fun _ s5 ⟨h',tk,e5,k5,t5,y5⟩=>?_) fun _ _ z=>z;subst e5;have kD:=k5 D _ nD e3;have I5:=J3.turned (fp:=D::fp) (h':=h') (tk:=tk) f3 (fun b o n e=>k5 b o (fun z=>n (Vq _ z)) e)
   have ho:∀b∈D::fp,∃o,h'.get? b=some o:=fun b mb=>by
    rcases Vt.mp mb with rfl | mb
    .exact⟨_,kD⟩
    .exact Tr.obj _ _ t5 b mb
   have nk:∀b∈D::fp,¬ (Kw X F0 p0 l { s2 with heap:=h0 } scope ns fr L).kp b:=fun b mb=>(f3 b mb).k;have I6:=I5.pin f3 ho;have cp:=cY.pin (fp:=D::fp) (h:=h') okY nk ho;have y6:Yl X.toMd F1 h' t xs[i] u:=y5.imp (fun i=>i.up l1) fun⟨a,b,c,d,e,g,hh,r⟩=>⟨a,b,c,d,e,g,hh,r.up l1⟩;refine wpAny_mono (Ot (X:=(Kw X F0 p0 l { s2 with heap:=h0 } scope ns fr L).pin (D::fp) h') cp hc hg I6 y6 htg ea (Q:=fun _ s6=>∃σ6,Inv ((Kw X F0 p0 l { s2 with heap:=h0 } scope ns fr L).pin (D::fp) h') F1 p2 σ6 s6) fun σ' s' J=>⟨σ',J⟩) (fun _ s6 ⟨σ6,J6⟩=>?_) fun _ _ z=>z;refine wpAny_mono (ht _ cp F1 p2 σ6 s6 (fun b q=>if b=true then wE w.nx el q fun r s3=>My r fun y=>Z7 (Bk w tg cd el) (xs.drop (i+1)) (ys++[y]) s3 fun ys s=>Q (.o (.lst ys)) (back fr s p0) else Z7 (Bk w tg cd el) (xs.drop (i+1)) ys q fun ys s=>Q (.o (.lst ys)) (back fr s p0)) J6 ?_) (fun ok s9 ⟨F9,p9,l9,J9,q9⟩=>?_) fun _ _ z=>z
   .split at w3
    .rename_i hn
     rw[if_pos hn,if_pos rfl];exact w3
    .rename_i hn
     rw[if_neg hn];exact w3
   unfold L2.TurnEnd;cases ok with
   | false =>
    rw[if_neg Ox]at q9 ⊢;obtain⟨I9,f9,k9⟩:=J9.unpin okY nk ho;exact⟨_,by omega,i+1,F9,p9,σ6,us,ys,m,rfl,Si,l1.trans l9,I9,Tr.keep _ _ _ t5 (fun b mb o e=>k9 b (Vq _ mb) o e),f9,k9 D Yd _ kD,r3.up l9,by omega,q9⟩
   | true =>
    rw[if_pos rfl]at q9 ⊢;refine wpAny_mono (he _ cp F9 p9 σ6 s9 _ J9 q9) (fun yv uo q10=>?_) fun _ _ z=>z;obtain⟨F10,p10,y,l10,J10,iy,q10⟩:=q10.t;obtain⟨I10,f10,k10⟩:=J10.unpin okY nk ho;have e10:=k10 D Yd _ kD;refine Wr e10 (by omega) fun g11 m' kk e11=>?_;have I11:=I10.turned (fp:=D::fp) (h':=g11) (tk:=uo.toks) f10 (fun b o n e=>(kk b fun z=>n (z ▸ Yd)).trans e);refine⟨_,by omega,i+1,F10,p10,σ6,us++[yv],ys++[y],m',rfl,Si,l1.trans (l9.trans l10),I11,Tr.keep _ _ _ t5 (fun b mb o e=>(kk b fun z=>nD (z ▸ mb)).trans (k10 b (Vq _ mb) o e)),f10,e11,Ji (r3.up (l9.trans l10)) (.cons iy .nil), ?_,q10⟩;rw[Gc,ZU];omega
  .have ei:i=xs.length:=by omega
   subst ei;rw[List.drop_length]at w3;refine Tr.done X.A xs.length s3 oj _ (J3.ok.hd hc) t3 fF (D5 _) fun h' tk k'=>?_;have J4:=J3.turned (fp:=D::fp) (h':=h') (tk:=tk) f3 (fun b o n e=>k' b o (fun z=>n (Vq _ z)) e);obtain⟨l4,I4,rs4,fL⟩:=Ho C I0 (new0 (Nat.le_of_lt szL)) J4;obtain⟨mm,hmm,_⟩:=J4.ns;have fD:=f3 D Yd;have eD':=k' D _ nD e3;exact m8 D L .next _ F1 _ ys mm (l0.trans l1) I4 (rs4 (.o (.lst ys)) (.ref D) ⟨D,rfl,⟨rfl,fD.n,fD.k,.mkL (us:=us) eD' ⟨by omega,m,rfl⟩ r3⟩,fD.o⟩) fL nLD hmm w3
 exact codeAny_compStart_list loop (Tr.self _ 0 _ _ _ (Tr.keep _ _ _ t0 fun b _ o e=>hk2 b o e) loop)
end
section
variable{X:Cx}{w:W}{k:Nat}{N:ZG}{sc:Scope}{scope:Scope}{ns:ZG}{fr:ZV}
theorem Res.turned{F:OM}{p:P}{j:Vs}{h h':Heap}{r:Sl}{v:Value}{b:Addr}(rs:Res X F p j h r v)(n:∀a,v=.ref a->a≠b)(k:∀a,a≠b->h'.get? a=h.get? a):Res X F p j h' r v:=by
 cases r with
 | no=>exact rs
 | f t=>exact rs
 | o t=>obtain⟨a,rfl,w,m⟩:=rs;exact⟨a,rfl,w.to (.refl F) w.f fun x e=>(k a (n a rfl)).trans e,m⟩
theorem uc(c:Ct X w k N sc.names)(ct:X.env.scope.names=sc.names)(hc:X.calm=true)(h1:W5 sc scope=true)(ok2:J8 N scope.names ns fr=true)(nd:ns.Nodup){tg it cd el:E}{t elt iter:Expr}{ifs:ZM}{pos:Pos}(hi:SI w it X t iter)(hg:Jo ns scope.names tg t=true)(htg:Ju (fun i=>(fr[i]?).join.isSome) tg=true)
  (ht:∀Y,Ct Y w.nx k ns scope.names->HT w.nx cd Y ifs) (he:∀Y,Ct Y w.nx k ns scope.names->SE w.nx el Y elt) (hs:∀x,foldedSetIterable iter X.env x=pure x):SE w (.comp tg it cd el fr ns) X (.ListComp elt [⟨t,iter,ifs,0⟩] scope pos):=fun F p j s Q I hw=>by
 have C:=zw c.nN ct h1 ok2 I.ok;rw[eval_ListComp];refine wpAny_comprehension_free (use:=none) rfl hs C.clos C.kind C.names (Yo (hi F p j s (fun xs q=>Z7 (Bk w tg cd el) xs [] (fre fr q) fun ys s=>Q (.o (.lst ys)) (back fr s q)) I hw) fun v s1 g1=>Yo g1 fun itv s2 h2=>?_);refine Es (RR:=fun acc Cc=>compPost (model X.prog X.w) X.A X.xe none (EP X F j Q) acc Cc) c hc C h1 nd hg htg ht he h2 ?_;intro D L fl s' F' p' ys m l I' rs fL ne hns q;refine⟨m,hns,fun h' sb=>?_⟩;exact⟨F',p',_,l,I'.turned (fp:=[L]) (tk:=s'.toks) (fun b hb=>(V8.mp hb) ▸ fL) (fun b o n e=>(sb.2 b (by simpa using n)).trans e),rs.turned (fun a e=>by cases e;exact ne) sb.2,q⟩
theorem sf(c:Ct X w k N sc.names)(ct:X.env.scope.names=sc.names)(hc:X.calm=true)(h1:W5 sc scope=true)(ok2:J8 N scope.names ns fr=true)(nd:ns.Nodup){tg it cd el:E}{t elt iter:Expr}{ifs:ZM}{pos pos' O6:Pos}{i:Nat}{y:Str}(hiN:N[i]?=some y)(hl:locs sc.names y=true)(hi:SI w it X t iter)(hg:Jo ns scope.names tg t=true)(htg:Ju (fun i=>(fr[i]?).join.isSome) tg=true)
  (ht:∀Y,Ct Y w.nx k ns scope.names->HT w.nx cd Y ifs) (he:∀Y,Ct Y w.nx k ns scope.names->SE w.nx el Y elt) (hs:∀x,foldedSetIterable iter X.env x=pure x) (hsw:swapsWith (.ListComp elt [⟨t,iter,ifs,0⟩] scope pos) (some (.Name y pos')) O6.line X.env=pure true) :
  SS w (.set i (.comp tg it cd el fr ns)) X (.Assign [.Name y pos'] (.ListComp elt [⟨t,iter,ifs,0⟩] scope pos) O6):=fun F p V s Dd I hw=>by
 have hw:if X.pt i=true then False else wE w (.comp tg it cd el fr ns) p fun r q=>Dd.nx (q.set i r):=hw
 split at hw
 .exact hw.elim
 rename_i hp
 have C:=zw c.nN ct h1 ok2 I.ok;rw[exec_Assign_Name_used _ _ _ _ hsw];refine Zq (wpAny_standAt (Zq ?_));show wpAny _ X.A (do let _ <-comprehension (.ListComp elt [⟨t,iter,ifs,0⟩] scope pos) scope X.env _ (newList []) false (eval iter X.env) (some (assign (.Name y pos') X.env))) _ _ s
 refine Zq (wpAny_mono (wpAny_comprehension_free (use:=some (assign (.Name y pos') X.env)) (Q:=fun _ s'=>SP X F Dd .next s') rfl hs C.clos C.kind C.names
  (Yo (hi F p V s (fun xs q=>Z7 (Bk w tg cd el) xs [] (fre fr q) fun ys s=>Dd.nx ((back fr s q).set i (.o (.lst ys)))) I hw) fun v s1 g1=>Yo g1 fun itv s2 h2=>?_)) (fun _ s' hq=>Zt (Zt hq)) fun _ _ e=>e)
 refine Es (Q:=fun r q=>Dd.nx (q.set i r)) (RR:=fun acc Cc=>compPost (model X.prog X.w) X.A X.xe (some (assign (.Name y pos') X.env)) (fun _ s'=>SP X F Dd .next s') acc Cc) c hc C h1 nd hg htg ht he h2 ?_;intro D L fl s' F' p' ys m l I' rs fL ne hns q;show wpAny _ X.A (assign (.Name y pos') X.env (.ref D)) _ _ _;refine wpAny_assign_Name (La I' (by rw[c.nN];exact c.nd) (by rw[c.nN];exact hiN) (c.loc hl) (by simpa using hp) rs fun s3 a ma sb I3=>?_);have na:L≠a:=fun z=>fL.k (.inr (z ▸ ma));refine⟨m,hns.sameBut sb na,fun h' sb'=>?_⟩;refine⟨F',_,_,l,I3.turned (fp:=[L]) (tk:=s3.toks) (fun b hb=>?_) (fun b o n e=>(sb'.2 b (by simpa using n)).trans e),q⟩;obtain rfl:b=L:=V8.mp hb;refine⟨fL.n,fL.k,fun j u e e2=>?_⟩;have hiσ:i<V.length:=by rw[I.len,c.nN];exact(n6.mp hiN).1
 rcases Yw e with ⟨rfl,_⟩ | ⟨n,e⟩
 .rw[List.getElem?_set_self hiσ]at e2;cases e2;exact ne rfl
 .rw[List.getElem?_set_ne (Ne.symm n)]at e2;exact fL.o j u e e2
end
section
variable{g:Md}{F:OM}{s:Shared}
def Shw(g:Md)(s:Shared)(u:Value)(d:PyData):Prop:=∃as bs,Reads s.heap u d as/\ReadAtMost s.heap d.depth bs/\ReprK g.prog g.w bs s.heap d.depth u d.shown
def Mj(g:Md)(s:Shared)(us:ZK)(ds:List PyData):Prop:=∃as bs,ReadsAll s.heap us ds as/\ReadAtMost s.heap (PyData.depthAll ds) bs/\ReprAllK g.prog g.w bs s.heap (PyData.depthAll ds) us (PyData.shownAll ds)
theorem Mj.cons{u:Value}{d:PyData}{us:ZK}{ds:List PyData}(h:Shw g s u d)(h':Mj g s us ds):Mj g s (u::us) (d::ds):=by
 obtain⟨a1,b1,r1,m1,k1⟩:=h;obtain⟨a2,b2,r2,m2,k2⟩:=h';refine⟨_,b1++b2,.cons r1 r2, ?_, ?_⟩
 .simp only[PyData.depthAll];exact(m1.mono (Nat.le_max_left _ _)).append (m2.mono (Nat.le_max_right _ _))
 .simp only[PyData.depthAll,PyData.shownAll];exact .cons ((k1.more fun b hb=>List.mem_append_left _ hb).level_le (Nat.le_max_left _ _)) (k2.more_le (fun b hb=>ry _ hb) (Nat.le_max_right _ _))
theorem Mj.nil:Mj g s [] []:=⟨_,[],.nil,(fun _ h=>nomatch h),by simp only[PyData.shownAll];exact .nil⟩
theorem Jf{u:Value}{d:PyData}(r:Reads s.heap u d [])(hs:d.showable=true)(hz:d.shown.length<=sizeLine):Shw g s u d:=by
 obtain⟨bs,m,k⟩:=ReprK.of_reads (prog:=g.prog) (w:=g.w) r hs (fun _ h=>nomatch h) hz;exact⟨[],bs,r,m,k⟩
theorem pb{a:Addr}{its:ZK}{ds:List PyData}(h:IsTup s.heap a its.toArray)(c:Mj g s its ds):Shw g s (.ref a) (.tuple ds):=by
 obtain⟨as,bs,r1,m1,k1⟩:=c;obtain⟨o,h1,h2,n,h3⟩:=h;have r:Reads s.heap (.ref a) (.tuple ds) _:=.tuple h1 h2 h3 (by simpa using r1);have m7:a ∉ bs:=not_mem_of_deeper r (by simp only[PyData.depth];omega) m1;refine⟨_,a::bs,r,ReadAtMost.cons r (by simp only[PyData.depth];omega) m1, ?_⟩;simp only[PyData.depth,PyData.shown];exact ReprK.tuple h1 h2 h3 m7 (by simpa using k1)
theorem pn{a:Addr}{its:ZK}{ds:List PyData}(h:s.heap.IsList a its.toArray)(c:Mj g s its ds):Shw g s (.ref a) (.list ds):=by
 obtain⟨as,bs,r1,m1,k1⟩:=c;obtain⟨o,h1,h2,n,h3⟩:=h;have r:Reads s.heap (.ref a) (.list ds) _:=.list h1 h2 h3 (by simpa using r1);have m7:a ∉ bs:=not_mem_of_deeper r (by simp only[PyData.depth];omega) m1;refine⟨_,a::bs,r,ReadAtMost.cons r (by simp only[PyData.depth];omega) m1, ?_⟩;simp only[PyData.depth,PyData.shown];cases its with
 | nil =>
  cases r1;simp only[PyData.shownAll,listText_nil];exact ReprK.listEmpty h1 h2 h3
 | cons x l=>exact ReprK.list h1 h2 h3 m7 (by simpa using k1.length_eq) (fun i y e=>k1.item i y (by simpa using e))
def ShwE(g:Md)(s:Shared)(es:List DictEntry)(dk:List (PyData×PyData)):Prop:=Mj g s (es.map (·.key)) (dk.map (·.1))/\Mj g s (es.map (·.val)) (dk.map (·.2))
theorem pa{a:Addr}{o:Obj}{es:Array DictEntry}{n:Nat}{dk:List (PyData×PyData)}(h1:s.heap.get? a=some o)(h2:o.cls=.type "dict")(h3:o.data=.dict es n)(hy:(a == sysModules)=false)(c:ShwE g s es.toList dk):Shw g s (.ref a) (.dict dk):=by
 obtain⟨⟨a1,b1,r1,m1,k1⟩,a2,b2,r2,m2,k2⟩:=c;have r:Reads s.heap (.ref a) (.dict dk) _:=.dict h1 h2 h3 r1 r2;have hb:ReadAtMost s.heap (PyData.depthKv dk) (b1++b2):=(m1.mono (PyData.depthAll_keys_le dk)).append (m2.mono (PyData.depthAll_vals_le dk));have m7:a ∉ b1++b2:=not_mem_of_deeper r (by simp only[PyData.depth];omega) hb;refine⟨_,a::(b1++b2),r,ReadAtMost.cons r (by simp only[PyData.depth];omega) hb, ?_⟩;simp only[PyData.depth,PyData.shown,PyData.shownKv_eq]
 exact ReprK.dict h1 h2 h3 hy m7 (ReprEntriesK.of_two es.toList _ _
  (k1.more_le (fun b hb=>List.mem_append_left _ hb) (PyData.depthAll_keys_le dk)) (k2.more_le (fun b hb=>ry _ hb) (PyData.depthAll_vals_le dk)))
theorem ph{k:Key}{u:Value}(h:(Zf g.prog g.w).is k u=true)(hs:(Xy k).showable=true)(hz:(Xy k).shown.length<=sizeLine):Shw g s u (Xy k):=by
 rcases Zu (show R1 k u=true from h) with ⟨j,t,rfl,rfl⟩ | ⟨y,t,rfl,rfl⟩
 .exact Jf (.int _ _) hs hz
 .exact Jf (.str _ _) hs hz
end
section
variable{g:Md}{F:OM}{s:Shared}
mutual
theorem Zxc(fF:∀a o,F a=some o->s.heap.get? a=some o):∀(t:T) (u:Value) (d:PyData),IsT g F t u->toPy t=some d->d.showable=true->d.shown.length<=sizeLine->Shw g s u d
 | .non,u,d,h,e,hs,hz=>by cases e;cases h;exact Jf .none hs hz
 | .bl b,u,d,h,e,hs,hz=>by cases e;cases h;exact Jf (.bool b) hs hz
 | .int b,u,d,h,e,hs,hz=>by cases e;cases h;exact Jf (.int b _) hs hz
 | .str b,u,d,h,e,hs,hz=>by cases e;cases h;exact Jf (.str b _) hs hz
 | .tup ts,u,d,h,e,hs,hz=>by
  obtain⟨ds,e1,rfl⟩:=Y8.mp (show (Ua ts).map .tuple=some d by unfold toPy at e;exact e);obtain⟨a,us,rfl,_,tp,r⟩:=V3 fF h;have Wo:(tupleText (PyData.shownAll ds)).length<=sizeLine:=by simpa only [PyData.shown] using hz
  exact pb tp (Rb fF ts us ds r e1 (by simpa [PyData.showable] using hs) fun t m=>Gs (tupleText_mem_le m) Wo)
 | .lst ts,u,d,h,e,hs,hz=>by
  obtain⟨ds,e1,rfl⟩:=Y8.mp (show (Ua ts).map .list=some d by unfold toPy at e;exact e);obtain⟨a,us,n,rfl,_,hl,r⟩:=Jd (.of fF h);have Wo:(listText (PyData.shownAll ds)).length<=sizeLine:=by simpa only [PyData.shown] using hz
  exact pn ⟨_,hl,rfl,⟨n,rfl⟩⟩ (Rb fF ts us ds r e1 (by simpa [PyData.showable] using hs) fun t m=>Gs (listText_mem_le m) Wo)
 | .dct XY,u,d,h,e,hs,hz=>by
  obtain⟨dk,e1,rfl⟩:=Y8.mp (show (Mw XY).map .dict=some d by unfold toPy at e;exact e);obtain⟨a,vs,rfl,_,hy,⟨o,es,ep,h1,h2,h3,_,pr,_⟩,r⟩:=Tz (.of fF h);have Wo:(dictText (PyData.shownKv dk)).length<=sizeLine:=by simpa only [PyData.shown] using hz
  obtain⟨rz,hs2⟩:=PyData.showableKv_split dk (by simpa [PyData.showable] using hs);exact pa h1 h2.1 h3 hy (v8 fF XY vs es.toList dk r pr e1 rz hs2 (fun t ht=>let ⟨p,hp,hl⟩:=PyData.shownKv_key_le dk t ht;Gs hl (Gs (dictText_mem_le hp) Wo)) (fun t ht=>let ⟨p,hp,hl⟩:=PyData.shownKv_val_le dk t ht;Gs hl (Gs (dictText_mem_le hp) Wo)))
 | .fn _,u,d,h,e,hs,hz=>by unfold toPy at e;cases e
 | .exn _ _,u,d,h,e,hs,hz=>by unfold toPy at e;cases e
theorem Rb(fF:∀a o,F a=some o->s.heap.get? a=some o):∀(ts:ZZ) (us:ZK) (ds:List PyData),Zs g F ts us->Ua ts=some ds->PyData.showableAll ds=true->(∀t∈PyData.shownAll ds,t.length<=sizeLine)->Mj g s us ds
 | [],us,ds,r,e,hs,hz=>by
  unfold Ua at e;cases e;cases r;exact Mj.nil
 | t::ts,us,ds,r,e,hs,hz=>by
  unfold Ua at e;obtain⟨d,e1,e⟩:=ZP.mp e;obtain⟨ds',e2,rfl⟩:=Y8.mp e;cases r with | cons r1 r2 =>
  have T6:d.showable=true/\PyData.showableAll ds'=true:=by simpa [PyData.showableAll] using hs
  exact Mj.cons (Zxc fF t _ d r1 e1 T6.1 (hz _ (by simp only[PyData.shownAll];exact Yd ..))) (Rb fF ts _ ds' r2 e2 T6.2 fun t m=>hz t (by simp only[PyData.shownAll];exact Vq _ m))
theorem v8(fF:∀a o,F a=some o->s.heap.get? a=some o):∀(XY:ZX) (vs:List (Key×Value)) (es:List DictEntry) (dk:List (PyData×PyData)),Yz g F XY vs->Pairs (Zf g.prog g.w) es vs->Mw XY=some dk ->
  PyData.showableAll (dk.map (·.1))=true->PyData.showableAll (dk.map (·.2))=true->(∀t∈PyData.shownAll (dk.map (·.1)),t.length<=sizeLine)->(∀t∈PyData.shownAll (dk.map (·.2)),t.length<=sizeLine)->ShwE g s es dk
 | [],vs,es,dk,r,p,e,_,_,_,_=>by
  unfold Mw at e;cases e;cases r;cases p;exact⟨Mj.nil,Mj.nil⟩
 | (k,t)::XY,vs,es,dk,r,p,e,rz,hs2,X2,hz2=>by
  unfold Mw at e;obtain⟨d,e1,e⟩:=ZP.mp e;obtain⟨dk',e2,rfl⟩:=Y8.mp e;cases r with | cons r1 r2 =>
  obtain⟨ek,r1⟩:=r1;cases p with | cons p1 p2 p3 =>
  have ek:k=_:=ek;rw[<-ek]at p1;rw[P8]at rz hs2 X2 hz2;have hs1':(Xy k).showable=true/\PyData.showableAll (dk'.map (·.1))=true:=by simpa [PyData.showableAll] using rz
  have hs2':d.showable=true/\PyData.showableAll (dk'.map (·.2))=true:=by simpa [PyData.showableAll] using hs2
  obtain⟨c1,c2⟩:=v8 fF XY _ _ dk' r2 p3 e2 hs1'.2 hs2'.2 (fun t m=>X2 t (by simp only[PyData.shownAll];exact Vq _ m)) (fun t m=>hz2 t (by simp only[PyData.shownAll];exact Vq _ m));refine⟨Mj.cons (ph p1 hs1'.1 (X2 _ (by simp only[PyData.shownAll];exact Yd ..))) c1,Mj.cons ?_ c2⟩;show Shw g s (DictEntry.val _) d;rw[p2];exact Zxc fF t _ d r1 e1 hs2'.1 (hz2 _ (by simp only[PyData.shownAll];exact Yd ..))
end
variable{A:Around}{R:ZQ}{E:ZQ}{L:Addr}{u:Value}{t:T}
theorem ya{z:Str}(un:A.units+150<cLine)(gd:A.guards=some [])(fF:∀a o,F a=some o->s.heap.get? a=some o)(s1:Vp g F s.heap t u)(e:rpT t=some z)(k:Ok g F L s (.f (.str z)) R):wpAny (model g.prog g.w) A (call (.builtin "repr") [u]) R E s:=by
 unfold rpT at e;obtain⟨d,e1,e⟩:=ZP.mp e
 split at e
 .rename_i hh
  cases e;obtain⟨hs,hz,hd⟩:=hh;have fin:∀tk t',R (.str d.shown t') { s with toks:=tk }:=fun tk t'=>k s.heap _ tk (.sc .str);have S8:∀h' u tk,(∀b o,s.heap.get? b=some o->h'.get? b=some o)->∃x t,Value.str d.shown u=.str x t/\R (.str d.shown u) { s with heap:=h',toks:=tk }:=fun h' u tk kp=>⟨_,u,rfl,k h' _ tk (.kept kp .str)⟩;cases t with
  | non=>cases e1;cases s1;exact P.repr_of_none (fin _ _)
  | bl b=>cases e1;cases s1;simp only[PyData.shown]at fin;exact P.repr_of_bool (fin _ _)
  | int i =>
   cases e1;cases s1;simp only[PyData.shown]at fin;exact P.repr_of_int (by simpa [PyData.showable] using hs) (fin _ _)
  | str i =>
   cases e1;cases s1;simp only[PyData.shown]at fin hz;exact P.repr_of_str (fin _ _) hz
  | tup ts =>
   obtain⟨ds,e2,rfl⟩:=Y8.mp (show (Ua ts).map .tuple=some d by unfold toPy at e1;exact e1);obtain⟨a,us,rfl,_,tp,r⟩:=V3 fF s1;have Wo:(tupleText (PyData.shownAll ds)).length<=sizeLine:=by simpa only [PyData.shown] using hz
   obtain⟨as,bs,r1,m1,k1⟩:=Rb fF ts us ds r e2 (by simpa [PyData.showable] using hs) fun t m=>Gs (tupleText_mem_le m) Wo;obtain⟨o,h1,h2,n,h3⟩:=tp;have r:Reads s.heap (.ref a) (.tuple ds) _:=.tuple h1 h2 h3 (by simpa using r1);have m7:a ∉ bs:=not_mem_of_deeper r (by simp only[PyData.depth];omega) m1;simp only[PyData.depth]at hd;simp only[PyData.shown]at S8;exact call_repr_slot (by omega) ⟨o,h1,h2⟩ PySem.F.slot_tuple_repr (call_tuple_reprK h1 h2 h3 m7 (by simpa using k1) (g:=[]) gd (fun b _=>Clear.nil b) (by show A.units+1+_<_;omega) (fun _ _ e=>e) (fun h' u tk k=>S8 h' u tk k) Wo)
  | lst ts =>
   obtain⟨ds,e2,rfl⟩:=Y8.mp (show (Ua ts).map .list=some d by unfold toPy at e1;exact e1);obtain⟨a,us,n,rfl,_,h1,r⟩:=Jd s1;have Wo:(listText (PyData.shownAll ds)).length<=sizeLine:=by simpa only [PyData.shown] using hz
   obtain⟨as,bs,r1,m1,k1⟩:=Rb fF ts us ds r e2 (by simpa [PyData.showable] using hs) fun t m=>Gs (listText_mem_le m) Wo;have r:Reads s.heap (.ref a) (.list ds) _:=.list h1 rfl rfl (by simpa using r1);have m7:a ∉ bs:=not_mem_of_deeper r (by simp only[PyData.depth];omega) m1;simp only[PyData.depth]at hd;simp only[PyData.shown]at S8;refine call_repr_slot (by omega) ⟨_,h1,rfl⟩ PySem.F.slot_list_repr.toG ?_;cases us with
   | nil =>
    cases r1;simp only[PyData.shownAll,listText_nil]at S8;exact call_list_repr_empty ⟨_,h1,rfl⟩ h1 rfl (S8 s.heap _ _ fun _ _ e=>e)
   | cons y l=>exact call_list_reprK h1 rfl rfl m7 (by simpa using k1.length_eq) (fun i y e=>k1.item i y (by simpa using e)) (g:=[]) gd (fun b _=>Clear.nil b) (by show A.units+1+_<_;omega) (fun _ _ e=>e) (fun h' u tk k=>S8 h' u tk k) Wo
  | dct XY =>
   obtain⟨dk,e2,rfl⟩:=Y8.mp (show (Mw XY).map .dict=some d by unfold toPy at e1;exact e1);obtain⟨a,vs,rfl,_,hy,⟨o,es,ep,h1,h2,h3,_,pr,_⟩,r⟩:=Tz s1;have Wo:(dictText (PyData.shownKv dk)).length<=sizeLine:=by simpa only [PyData.shown] using hz
   obtain⟨rz,hs2⟩:=PyData.showableKv_split dk (by simpa [PyData.showable] using hs);obtain⟨⟨a1,b1,r1,m1,k1⟩,a2,b2,r2,m2,k2⟩:=v8 fF XY vs es.toList dk r pr e2 rz hs2 (fun t ht=>let ⟨p,hp,hl⟩:=PyData.shownKv_key_le dk t ht;Gs hl (Gs (dictText_mem_le hp) Wo)) (fun t ht=>let ⟨p,hp,hl⟩:=PyData.shownKv_val_le dk t ht;Gs hl (Gs (dictText_mem_le hp) Wo));have r:Reads s.heap (.ref a) (.dict dk) _:=.dict h1 h2.1 h3 r1 r2;have hb:ReadAtMost s.heap (PyData.depthKv dk) (b1++b2):=(m1.mono (PyData.depthAll_keys_le dk)).append (m2.mono (PyData.depthAll_vals_le dk));have m7:a ∉ b1++b2:=not_mem_of_deeper r (by simp only[PyData.depth];omega) hb;simp only[PyData.depth]at hd;simp only[PyData.shown,PyData.shownKv_eq]at S8
   exact call_repr_slot (by omega) ⟨o,h1,h2.1⟩ PySem.F.slot_dict_repr (call_dict_reprK h1 h2.1 h3 hy m7 (ReprEntriesK.of_two es.toList _ _
    (k1.more_le (fun b hb=>List.mem_append_left _ hb) (PyData.depthAll_keys_le dk)) (k2.more_le (fun b hb=>ry _ hb) (PyData.depthAll_vals_le dk))) (g:=[]) gd (fun b _=>Clear.nil b) (by show A.units+1+_<_;omega) (fun _ _ e=>e) (fun h' u tk k=>S8 h' u tk k) (by rw[<-PyData.shownKv_eq];exact Wo))
  | fn _=>unfold toPy at e1;cases e1
  | exn _ _=>unfold toPy at e1;cases e1
 .cases e
end
noncomputable def btV:Pr->Option (Str×Value)
 | .len=>some ("len",.builtin "len")
 | .all=>some ("all",.builtin "all")
 | .any=>some ("any",.builtin "any")
 | .list=>some ("list",.type "list")
 | .tuple=>some ("tuple",.type "tuple")
 | .min=>some ("min",.builtin "min")
 | .max=>some ("max",.builtin "max")
 | .int=>some ("int",.type "int")
 | .dict=>some ("dict",.type "dict")
 | .sorted=>some ("sorted",.builtin "sorted")
 | .srtP=>some ("sorted",.builtin "sorted")
 | .repr=>some ("repr",.builtin "repr")
 | _=>none
noncomputable def vis(sc:ZW)(x:Str):Bool:=match sc.lookup x with
 | some .local=>true
 | some .cell=>true
 | some .free=>true
 | _=>false
noncomputable def Gi(sc:ZW)(x:Str):Bool:=sc.lookup x == some .globalImplicit && !(x == ("__debug__" : Str))
noncomputable def Gp(N:ZG)(sc:ZW)(i:Nat)(x:Str):Bool:=N[i]? == some x && vis sc x && !(x == ("__debug__" : Str)) && !(x == ("__classdict__" : Str))
def Ur:Expr->Bool
 | .Slice _ _ _ _=>false
 | _=>true
def i7(x:Str):Expr->Bool
 | .Name y _=>decide (y=x)
 | _=>false
theorem Qo{x:Str}{e:Expr}(h:i7 x e=true):∃p,e=.Name x p:=by
 cases e
 case Name y p=>cases T1 (show decide (y=x)=true from h);exact⟨p,rfl⟩
 all_goals cases h
noncomputable def vOp(o:Op)(x:Expr):Option (ZM):=match T2 x with
 | .bin a op b=>if op=opOf o then some [a,b] else none
 | _=>none
theorem vOp_ex{o:Op}{x:Expr}{xs:ZM}(h:vOp o x=some xs):∃a op b p,x=.BinOp a op b p/\(if op=opOf o then some [a,b] else none)=some xs:=by
 unfold vOp at h
 split at h
 .rename_i e
  obtain⟨p,rfl⟩:=Ze e;exact⟨_,_,_,p,rfl,h⟩
 .cases h
noncomputable def vb(x:Expr):Option (Expr×List CmpOp×ZM):=match T2 x with
 | .cmp a ops bs=>some (a,ops,bs)
 | _=>none
theorem Fh{x a:Expr}{ops:List CmpOp}{bs:ZM}(h:vb x=some (a,ops,bs)):∃p,x=.Compare a ops bs p:=by
 unfold vb at h
 split at h
 .rename_i e
  cases h;exact Ze e
 .cases h
noncomputable def vCm(c:Cm)(x:Expr):Option (ZM):=match vb x with
 | some (a,[op],[b])=>if op=Wv c/\behindInMarks op b=false then some [a,b] else none
 | _=>none
theorem vCm_ex{c:Cm}{x:Expr}{xs:ZM}(h:vCm c x=some xs):∃a op b p,x=.Compare a [op] [b] p/\(if op=Wv c/\behindInMarks op b=false then some [a,b] else none)=some xs:=by
 unfold vCm at h
 split at h
 .rename_i e
  obtain⟨p,rfl⟩:=Fh e;exact⟨_,_,_,p,rfl,h⟩
 .cases h
noncomputable def vC2(c:Cm)(d:Cm)(x:Expr):Option (ZM):=match vb x with
 | some (a,[op,op'],[b,e])=>if op=Wv c/\op'=Wv d/\lastMarks [op,op'] [b,e]=false then some [a,b,e] else none
 | _=>none
theorem vC2_ex{c d:Cm}{x:Expr}{xs:ZM}(h:vC2 c d x=some xs):∃a op op' b e p,x=.Compare a [op,op'] [b,e] p/\(if op=Wv c/\op'=Wv d/\lastMarks [op,op'] [b,e]=false then some [a,b,e] else none)=some xs:=by
 unfold vC2 at h
 split at h
 .rename_i e
  obtain⟨p,rfl⟩:=Fh e;exact⟨_,_,_,_,_,p,rfl,h⟩
 .cases h
noncomputable def ri(x:Expr):Option (ZM):=match T2 x with
 | .un op a=>if op=.USub then some [a] else none
 | _=>none
theorem ro{x:Expr}{xs:ZM}(h:ri x=some xs):∃a p,x=.UnaryOp .USub a p/\some [a]=some xs:=by
 unfold ri at h
 split at h
 .rename_i e
  obtain⟨p,rfl⟩:=Ze e
  split at h
  .rename_i z;subst z;exact⟨_,p,rfl,h⟩
  .cases h
 .cases h
noncomputable def w8(x:Expr):Option (Expr×Expr):=match T2 x with
 | .sub a b=>some (a,b)
 | _=>none
theorem Fs{x a b:Expr}(h:w8 x=some (a,b)):∃p,x=.Subscript a b p:=by
 unfold w8 at h
 split at h
 .rename_i e
  cases h;exact Ze e
 .cases h
noncomputable def vIx(x:Expr):Option (ZM):=match w8 x with
 | some (a,b)=>if Ur b=true then some [a,b] else none
 | none=>none
theorem vIx_ex{x:Expr}{xs:ZM}(h:vIx x=some xs):∃a b p,x=.Subscript a b p/\(if Ur b=true then some [a,b] else none)=some xs:=by
 unfold vIx at h
 split at h
 .rename_i e
  obtain⟨p,rfl⟩:=Fs e;exact⟨_,_,p,rfl,h⟩
 .cases h
noncomputable def za(x:Expr):Option (Expr×Option Expr×Option Expr×Option Expr):=match w8 x with
 | some (a,b)=>(match T2 b with
  | .slc l h s=>some (a,l,h,s)
  | _=>none)
 | none=>none
theorem Cp{x a:Expr}{l hh s:Option Expr}(h:za x=some (a,l,hh,s)):∃q p,x=.Subscript a (.Slice l hh s q) p:=by
 unfold za at h
 split at h
 .rename_i e
  obtain⟨p,rfl⟩:=Fs e
  split at h
  .rename_i e'
   cases h;obtain⟨q,rfl⟩:=Ze e';exact⟨q,p,rfl⟩
  .cases h
 .cases h
noncomputable def Iy(x:Expr):Option (ZM):=match za x with
 | some (a,some l,none,none)=>some [a,l]
 | _=>none
theorem vx{x:Expr}{xs:ZM}(h:Iy x=some xs):∃a l q p,x=.Subscript a (.Slice (some l) none none q) p/\some [a,l]=some xs:=by
 unfold Iy at h
 split at h
 .rename_i e
  obtain⟨q,p,rfl⟩:=Cp e;exact⟨_,_,q,p,rfl,h⟩
 .cases h
noncomputable def Ig(x:Expr):Option (ZM):=match za x with
 | some (a,none,some l,none)=>some [a,l]
 | _=>none
theorem vq{x:Expr}{xs:ZM}(h:Ig x=some xs):∃a l q p,x=.Subscript a (.Slice none (some l) none q) p/\some [a,l]=some xs:=by
 unfold Ig at h
 split at h
 .rename_i e
  obtain⟨q,p,rfl⟩:=Cp e;exact⟨_,_,q,p,rfl,h⟩
 .cases h
noncomputable def Iv(x:Expr):Option (ZM):=match za x with
 | some (a,some l,some u,none)=>some [a,l,u]
 | _=>none
theorem vz{x:Expr}{xs:ZM}(h:Iv x=some xs):∃a l u q p,x=.Subscript a (.Slice (some l) (some u) none q) p/\some [a,l,u]=some xs:=by
 unfold Iv at h
 split at h
 .rename_i e
  obtain⟨q,p,rfl⟩:=Cp e;exact⟨_,_,_,q,p,rfl,h⟩
 .cases h
noncomputable def Il(x:Expr):Option (ZM):=match T2 x with
 | .dct [] []=>some []
 | _=>none
theorem vg{x:Expr}{xs:ZM}(h:Il x=some xs):∃p,x=.Dict [] [] p/\some ([]:ZM)=some xs:=by
 unfold Il at h
 split at h
 .rename_i e
  obtain⟨p,rfl⟩:=Ze e;exact⟨p,rfl,h⟩
 .cases h
noncomputable def is1:Expr->Bool
 | .Constant (.int i) _ _=>decide (i=1)
 | _=>false
theorem is1_ex{x:Expr}(h:is1 x=true):∃k p,x=.Constant (.int 1) k p:=by
 cases x<;>first | (cases h;done) | skip
 rename_i c k p
 cases c<;>first | (cases h;done) | skip
 cases T1 h;exact⟨_,_,rfl⟩
noncomputable def Km(x:Expr):Option (Str×ZM):=match T2 x with
 | .callN f xs=>some (f,xs)
 | _=>none
theorem M9{x:Expr}{f:Str}{xs:ZM}(h:Km x=some (f,xs)):∃q p,x=.Call (.Name f q) xs [] p:=by
 unfold Km at h
 split at h
 .rename_i e
  cases h;exact Ze e
 .cases h
noncomputable def r7(sc:ZW)(n:Kd)(x:Expr):Option (ZM):=match Km x with
 | some (f,[a,k])=>(match Jy k with
  | some k=>if f = "isinstance" /\ Gi sc f=true/\k=lg n/\Gi sc k=true then some [a] else none
  | none=>none)
 | _=>none
theorem r6{sc:ZW}{n:Kd}{x:Expr}{xs:ZM}(h:r7 sc n x=some xs):∃f q a k q' p,x=.Call (.Name f q) [a,.Name k q'] [] p/\(if f = "isinstance" /\ Gi sc f=true/\k=lg n/\Gi sc k=true then some [a] else none)=some xs:=by
 unfold r7 at h
 split at h
 .rename_i e
  obtain⟨q,p,rfl⟩:=M9 e
  split at h
  .rename_i e'
   obtain⟨q',rfl⟩:=Vv e';exact⟨_,q,_,_,q',p,rfl,h⟩
  .cases h
 .cases h
noncomputable def It(x:Expr):Option (ZM):=match T2 x with
 | .callA o m ap [a] cp=>if m = "get" /\ Yn o=true/\(ap.endLine == cp.line)=true then some [o,a] else none
 | _=>none
theorem vy{x:Expr}{xs:ZM}(h:It x=some xs):∃o m ap a cp,x=.Call (.Attribute o m ap) [a] [] cp/\(if m = "get" /\ Yn o=true/\(ap.endLine == cp.line)=true then some [o,a] else none)=some xs:=by
 unfold It at h
 split at h
 .rename_i e;exact⟨_,_,_,_,_,Ze e,h⟩
 .cases h
noncomputable def Im(x:Expr):Option (ZM):=match T2 x with
 | .callA o m ap [a,b] cp=>if m = "get" /\ Yn o=true/\(ap.endLine == cp.line)=true then some [o,a,b] else none
 | _=>none
theorem vw{x:Expr}{xs:ZM}(h:Im x=some xs):∃o m ap a b cp,x=.Call (.Attribute o m ap) [a,b] [] cp/\(if m = "get" /\ Yn o=true/\(ap.endLine == cp.line)=true then some [o,a,b] else none)=some xs:=by
 unfold Im at h
 split at h
 .rename_i e;exact⟨_,_,_,_,_,_,Ze e,h⟩
 .cases h
noncomputable def r9(x:Expr):Option (ZM):=match T2 x with
 | .callA o m ap [a] cp=>if m = "index" /\ Yn o=true/\(ap.endLine == cp.line)=true then some [o,a] else none
 | _=>none
theorem r8{x:Expr}{xs:ZM}(h:r9 x=some xs):∃o m ap a cp,x=.Call (.Attribute o m ap) [a] [] cp/\(if m = "index" /\ Yn o=true/\(ap.endLine == cp.line)=true then some [o,a] else none)=some xs:=by
 unfold r9 at h
 split at h
 .rename_i e;exact⟨_,_,_,_,_,Ze e,h⟩
 .cases h
noncomputable def Ib(sc:ZW)(x:Expr):Option (ZM):=match Km x with
 | some (f,[y])=>(match Km y with
  | some (g,[a])=>if f = "len" /\ Gi sc f=true/\g = "set" /\ Gi sc g=true then some [a] else none
  | _=>none)
 | _=>none
theorem vj{sc:ZW}{x:Expr}{xs:ZM}(h:Ib sc x=some xs):∃f q g q' a p' p,x=.Call (.Name f q) [.Call (.Name g q') [a] [] p'] [] p/\(if f = "len" /\ Gi sc f=true/\g = "set" /\ Gi sc g=true then some [a] else none)=some xs:=by
 unfold Ib at h
 split at h
 .rename_i e
  obtain⟨q,p,rfl⟩:=M9 e
  split at h
  .rename_i e'
   obtain⟨q',p',rfl⟩:=M9 e';exact⟨_,q,_,q',_,p',p,rfl,h⟩
  .cases h
 .cases h
noncomputable def Ir(x:Expr):Option (ZM):=match T2 x with
 | .dct [some k] [v]=>some [k,v]
 | _=>none
theorem vf{x:Expr}{xs:ZM}(h:Ir x=some xs):∃k v p,x=.Dict [some k] [v] p/\some [k,v]=some xs:=by
 unfold Ir at h
 split at h
 .rename_i e
  obtain⟨p,rfl⟩:=Ze e;exact⟨_,_,p,rfl,h⟩
 .cases h
noncomputable def kwNm(k:Keyword):Bool:=decide (k.arg=some "key") && i7 R0 k.value
noncomputable def Iw(sc:ZW):Expr->Option (ZM)
 | .Call (.Name f _) [a] [kw] _=>if f = "sorted" /\ Gi sc f=true/\(Gi sc R0 && Dg.contains R0)=true/\kwNm kw=true then some [a] else none
 | _=>none
theorem w9{sc:ZW}{x:Expr}{xs:ZM}(h:Iw sc x=some xs):∃p a q kp pos,x=.Call (.Name "sorted" p) [a] [{ arg:=some "key",value:=.Name R0 q,pos:=kp:Keyword }] pos/\Gi sc "sorted" = true/\(Gi sc R0 && Dg.contains R0)=true/\xs=[a]:=by
 unfold Iw at h
 split at h
 .rename_i kw _
  split at h
  .rename_i ho
   cases h;obtain⟨h1,h2,h3,h4⟩:=ho;subst h1;obtain⟨ka,kv,kp⟩:=kw;obtain⟨h5,h6⟩:=zh.mp h4;have h5:ka=some "key" := T1 h5;obtain⟨q,h6⟩:=Qo h6;have h6:kv=_:=h6;subst h5 h6;exact⟨_,_,q,kp,_,rfl,h2,h3,rfl⟩
  .cases h
 .cases h
noncomputable def w7(sc:ZW)(g:Str)(x:Expr):Option (ZM):=match vb x with
 | some (a,[op],[b])=>if op=.In/\behindInMarks op b=false/\i7 g b=true/\Gi sc g=true then some [a] else none
 | _=>none
theorem Ij{sc:ZW}{g:Str}{x:Expr}{xs:ZM}(h:w7 sc g x=some xs):∃a q p,x=.Compare a [.In] [.Name g q] p/\behindInMarks .In (.Name g q)=false/\Gi sc g=true/\xs=[a]:=by
 unfold w7 at h
 split at h
 .rename_i e
  obtain⟨p,rfl⟩:=Fh e
  split at h
  .rename_i ho
   cases h;obtain⟨h1,h2,h3,h4⟩:=ho;obtain⟨q,rfl⟩:=Qo h3;subst h1;exact⟨_,q,p,rfl,h2,h4,rfl⟩
  .cases h
 .cases h
noncomputable def rl(sc:ZW)(g:Str)(x:Expr):Option (ZM):=match w8 x with
 | some (a,b)=>if i7 g a=true/\Gi sc g=true/\Ur b=true then some [b] else none
 | none=>none
theorem rd{sc:ZW}{g:Str}{x:Expr}{xs:ZM}(h:rl sc g x=some xs):∃q b p,x=.Subscript (.Name g q) b p/\Gi sc g=true/\Ur b=true/\xs=[b]:=by
 unfold rl at h
 split at h
 .rename_i e
  obtain⟨p,rfl⟩:=Fs e
  split at h
  .rename_i ho
   cases h;obtain⟨h1,h2,h3⟩:=ho;obtain⟨q,rfl⟩:=Qo h1;exact⟨q,_,p,rfl,h2,h3,rfl⟩
  .cases h
 .cases h
noncomputable def vBt(sc:ZW)(q:Pr)(x:Expr):Option (ZM):=match Km x with
 | some (f,a::r)=>(match btV q with
  | some (n,_)=>if f=n/\Gi sc f=true then some (a::r) else none
  | none=>none)
 | _=>none
theorem vBt_ex{sc:ZW}{q:Pr}{x:Expr}{xs:ZM}(h:vBt sc q x=some xs):∃f p0 a r p,x=.Call (.Name f p0) (a::r) [] p/\(match btV q with
  | some (n,_)=>if f=n/\Gi sc f=true then some (a::r) else none
  | none=>none)=some xs:=by
 unfold vBt at h
 split at h
 .rename_i e
  obtain⟨p0,p,rfl⟩:=M9 e;exact⟨_,p0,_,_,p,rfl,h⟩
 .cases h
noncomputable def sx(f:Str)(x:Expr):Option (ZM):=match T2 x with
 | .att o m=>if m=f/\Yn o=true then some [o] else none
 | _=>none
theorem Ic{f:Str}{x:Expr}{xs:ZM}(h:sx f x=some xs):∃o p,x=.Attribute o f p/\Yn o=true/\xs=[o]:=by
 unfold sx at h
 split at h
 .rename_i e
  obtain⟨p,rfl⟩:=Ze e
  split at h
  .rename_i z;obtain⟨rfl,z⟩:=z;cases h;exact⟨_,p,rfl,z,rfl⟩
  .cases h
 .cases h
def vIsx(sc:ZW)(ns:ZG)(x:Expr):Option (ZM):=none
noncomputable def Iq(x:Expr):Option (ZM):=match Ti x with
 | some [a]=>some [a]
 | _=>none
theorem w6{x:Expr}{xs:ZM}(h:Iq x=some xs):∃a j p,x=.Tuple [a] j p/\xs=[a]:=by
 unfold Iq at h
 split at h
 .rename_i a e
  obtain⟨j,p,rfl⟩:=Bf e;cases h;exact⟨a,j,p,rfl,rfl⟩
 .cases h
noncomputable def isM1:Expr->Bool
 | .UnaryOp .USub a _=>is1 a
 | _=>false
theorem i8{x:Expr}(h:isM1 x=true):∃k p q,x=.UnaryOp .USub (.Constant (.int 1) k p) q:=by
 unfold isM1 at h
 split at h
 .obtain⟨k,p,rfl⟩:=is1_ex h;exact⟨k,p,_,rfl⟩
 .cases h
noncomputable def ra(x:Expr):Option (ZM):=match za x with
 | some (a,none,none,some s)=>if isM1 s=true then some [a] else none
 | _=>none
theorem rh{x:Expr}{xs:ZM}(h:ra x=some xs):∃a k p1 p2 p3 p4,x=.Subscript a (.Slice none none (some (.UnaryOp .USub (.Constant (.int 1) k p1) p2)) p3) p4/\xs=[a]:=by
 unfold ra at h
 split at h
 .rename_i a s e
  obtain⟨q,p,rfl⟩:=Cp e
  split at h
  .rename_i z
   obtain⟨k,p1,p2,rfl⟩:=i8 z;cases h;exact⟨a,k,p1,p2,q,p,rfl,rfl⟩
  .cases h
 .cases h
noncomputable def view(sc:ZW):Pr->Expr->Option (ZM)
 | .op o=>vOp o
 | .cm c=>vCm c
 | .c2 c d=>vC2 c d
 | .neg=>ri
 | .ix=>vIx
 | .sl true false=>Iy
 | .sl false true=>Ig
 | .sl true true=>Iv
 | .dnew=>Il
 | .isi n=>r7 sc n
 | .get1=>It
 | .get2=>Im
 | .idx=>r9
 | .lset=>Ib sc
 | .dct1=>Ir
 | .srtF=>Iw sc
 | .tin g=>w7 sc g
 | .tix g=>rl sc g
 | .fld x=>sx x
 | .tup1=>Iq
 | .rev=>ra
 | .isx xs=>vIsx sc xs
 | q=>vBt sc q
section
variable{g:Md}{F:OM}{A:Around}{R:ZQ}{E:ZQ}{s:Shared}{t:T}{u v:Value}{r:Sl}{a L:Addr}{ts ws:ZZ}{us:ZK}
theorem sk{zs:ZG}:∀{us:ZK},StrsAre us zs->∀(i:Nat) (v:Value),us[i]?=some v->∃t,v=.str (zs.getD i "") t:=fun h=>by
 induction h with
 | nil=>exact fun i v e=>by simp at e
 | cons y t r ih =>
  intro i v e;cases i with
  | zero=>cases e;exact⟨t,rfl⟩
  | succ i=>exact ih i v e
theorem uz{zs:ZG}(hh:A.handled=none)(s1:Vp g F s.heap (.lst ts) v)(e:Nz ts=some zs)(h64:zs.length<64)
  (k:∀h' tk a (es:List Key),(∀b o,s.heap.get? b=some o->h'.get? b=some o)->SetM.Tb (Zf g.prog g.w) h' a es->es.length=(SRT.j0 zs).length->R (.ref a) { s with heap:=h',toks:=tk }):wpAny (model g.prog g.w) A (call (.type "set") [v]) R E s:=by
 obtain⟨p,us,m,rfl,z,ho,r⟩:=Jd s1;obtain⟨rfl,sa⟩:=Tv r e;have ul:us.length=zs.length:=by rw[<-r.length,Za]
 refine SetM.ck (knd:=Zf g.prog g.w) (val:=fun i=>.inr (zs.getD i "")) hh ⟨_,ho,rfl,⟨m,rfl⟩⟩ (fun i v e=>?_) (by rw[Jv];unfold scanBound;omega) fun h1 tk es S u k1=>?_
 .obtain⟨t,rfl⟩:=sk sa i v (by simpa using e);exact⟨Dz _ _ _ t,rfl⟩
 .obtain⟨o,ho',SO⟩:=id S;refine k h1 tk _ es k1 S ?_
  have mem:∀x,x∈es↔x∈zs.map (Sum.inr:Str->Key):=fun x=>by
   rw[u.mem x,Jv,ul];constructor
   .rintro⟨j,h1,h2⟩;rw[<-h2];refine Gd.mpr ⟨zs.getD j "", ?_,rfl⟩;rw[List.getD_eq_getElem?_getD,We h1];exact G0e h1
   .intro hx;obtain⟨y,hy,rfl⟩:=Gd.mp hx;obtain⟨j,h1,h2⟩:=List.mem_iff_getElem.mp hy;exact⟨j,h1,by rw[List.getD_eq_getElem?_getD,We h1, <-h2];rfl⟩
  obtain⟨Bc,rfl⟩:∃Bc:ZG,es=Bc.map Sum.inr:=by
   have:∀x∈es,x∈zs.map (Sum.inr:Str->Key):=fun x m=>(mem x).mp m
   clear mem SO S ho' u
   induction es with
   | nil=>exact⟨[],rfl⟩
   | cons x r ih =>
    obtain⟨r',rfl⟩:=ih fun y m=>this y (Vq _ m);obtain⟨i,_,rfl⟩:=Gd.mp (this x Yd);exact⟨i::r',rfl⟩
  have ou:Bc.Nodup:=(List.pairwise_map.mp SO.nd).imp fun h z=>h (by rw[z])
  have mem':∀x,x∈Bc↔x∈zs:=fun x=>by
   have:=mem (.inr x);rw[Gd,Gd]at this;exact⟨fun m=>let ⟨y,h,e⟩:=this.mp ⟨x,m,rfl⟩;by cases e;exact h,fun m=>let ⟨y,h,e⟩:=this.mpr ⟨x,m,rfl⟩;by cases e;exact h⟩
  rw[Za,(SRT.gq ou mem').length_eq]
theorem Hn{es:List Key}{n:Nat}(S:SetM.Tb (Zf g.prog g.w) s.heap a es)(e:es.length=n)(k:∀t tk,R (.int n t) { s with toks:=tk }):wpAny (model g.prog g.w) A (call (.builtin "len") [.ref a]) R E s:=by
 obtain⟨o,ho,S⟩:=id S;obtain⟨ds,ep,t,hd,el,pr,hb,ti,hl⟩:=S.dat;have e1:ds.size=es.length:=by rw[pr.length,Lh]
 have Si:es.length<2 ^ 63:=Nat.lt_trans S.len (by decide +kernel);refine call_len_set ho S.ex hd ti.fits (by omega) ?_;rw[e1,e];exact k _ _
structure Rn(g:Md)(F:OM)(L:Addr)(A:Around)(s:Shared):Prop where
 hh:A.handled=none
 un:A.units+150<cLine
 gd:A.guards=some []
 fF:FH F s.heap
 hn:∃m,s.heap.Ns L m
 nL:F L=none
 big:sysModules<s.heap.objs.size
theorem bt_run{q:Pr}{nm:Str}{fv:Value}(hb:btV q=some (nm,fv))(n:Rn g F L A s)(se:Paired (Vp g F s.heap) ts us)(e:L1 q ts=some r)(k:Ok g F L s r R):wpAny (model g.prog g.w) A (call fv us) R E s:=by
 unfold L1 at e
 split at e<;>first | (cases e;done) | (cases hb;done) | cases hb
 .unfold pLen at e
  split at e
  rotate_left
  .cases e
  obtain⟨m,e1,rfl⟩:=Y8.mp e;obtain⟨u,rfl,s1⟩:=T4 se;obtain⟨m',e2,e3⟩:=ZP.mp (show (bq _).bind (fun n=>some ((n:Nat):Int))=some m from e1);cases e3;exact iv s1 n.fF e2 k
 .unfold pAll at e
  split at e
  rotate_left
  .cases e
  obtain⟨bs,e1,rfl⟩:=Y8.mp e;obtain⟨u,rfl,s1⟩:=T4 se;obtain⟨a,us,m,rfl,z,ho,r⟩:=Jd s1;rw[Tf r e1]at ho;exact Zxq n.hh ho k
 .unfold pAny at e
  split at e
  rotate_left
  .cases e
  obtain⟨bs,e1,rfl⟩:=Y8.mp e;obtain⟨u,rfl,s1⟩:=T4 se;obtain⟨a,us,m,rfl,z,ho,r⟩:=Jd s1;rw[Tf r e1]at ho;exact Zxx n.hh ho k
 .unfold Zxo at e
  split at e
  .cases e;obtain⟨u,rfl,s1⟩:=T4 se;obtain⟨a,us,rfl,z,⟨o,h1,h2,m,h3⟩,r⟩:=V3 n.fF s1;exact fm (T:="tuple") h1 h2 (.inr rfl) h3 z r k
  .cases e;obtain⟨u,rfl,s1⟩:=T4 se;obtain⟨a,vs,rfl,z,ns,dd,r⟩:=Tz s1;exact fu n.hh ns dd z r k
  .cases e
 .unfold Xm at e
  split at e
  .obtain⟨ws,e1,rfl⟩:=Y8.mp e;obtain⟨u,rfl,s1⟩:=T4 se;obtain⟨a,us,m,rfl,z,ho,r⟩:=Jd s1;exact Rk (T:="list") ho rfl (.inl rfl) rfl z (Xz r e1) k
  .obtain⟨ws,e1,rfl⟩:=Y8.mp e;obtain⟨u,rfl,s1⟩:=T4 se;obtain⟨a,vs,rfl,z,ns,dd,r⟩:=Tz s1;exact Kh n.hh n.hn ns dd z r e1 k
  .cases e
 .unfold kg at e
  split at e
  rotate_left
  .cases e
  cases e;obtain⟨u,rfl,s1⟩:=T4 se;obtain⟨a,us,m,rfl,z,ho,r⟩:=Jd s1;exact z7 n.fF ho z r k
 .unfold pMin at e
  split at e
  rotate_left
  .cases e
  cases e;obtain⟨u,v,rfl,s1,s2⟩:=pr2 se;cases s1;cases s2;exact o7 n.hh k
 .unfold pMax at e
  split at e
  rotate_left
  .cases e
  cases e;obtain⟨u,v,rfl,s1,s2⟩:=pr2 se;cases s1;cases s2;exact o8 n.hh k
 .unfold pInt at e
  split at e
  rotate_left
  .cases e
  cases e;obtain⟨u,rfl,s1⟩:=T4 se;cases s1;exact call_int_bool (k s.heap _ _ (.sc .int))
 .unfold kh at e
  split at e
  .cases e;obtain⟨u,rfl,s1⟩:=T4 se;exact jz n.big s1 k
  .obtain⟨XY,e1,rfl⟩:=Y8.mp e;obtain⟨u,rfl,s1⟩:=T4 se;exact Am n.hh n.big n.fF s1 e1 k
  .cases e
 .unfold Zxa at e
  split at e
  rotate_left
  .cases e
  obtain⟨z,e1,rfl⟩:=Y8.mp e;obtain⟨u,rfl,s1⟩:=T4 se;exact ya n.un n.gd n.fF s1 e1 k
 .unfold Zxu at e
  split at e
  rotate_left
  .cases e
  obtain⟨ws,e1,rfl⟩:=Y8.mp e;obtain⟨u,rfl,s1⟩:=T4 se;exact v3 n.un n.hn n.fF n.nL s1 e1 k
end
section
variable{X:Cx}{w:W}{k:Nat}{N:ZG}{sc:ZW}{F:OM}{p:P}{j:Vs}{s:Shared}
theorem Inv.rn(I:Inv X F p j s)(c:Ct X w k N sc)(hc:X.calm=true):Rn X.toMd F X.env.locals X.A s:=by
 refine⟨I.ok.hd hc,c.un,c.gd,I.fh,let ⟨m,hn,_⟩:=I.ns;⟨m,hn⟩,I.kpF (.inr (.inl rfl)), ?_⟩;obtain⟨o,es,ep,e,_⟩:=I.ok.mod.glob;exact N0o (by decide) (Jr (I.bk _ _ e))
theorem Inv.ok'{r:Sl}{Q:Sl->P->Prop}{F0:OM}(I:Inv X F p j s)(l:Le F0 F)(q:Q r p):Ok X.toMd F X.env.locals s r (EP X F0 j Q):=fun h' v t G=>(I.ep (tk:=t) G q).le l
variable{q:Pr}{es:E}{x y z:Expr}{Q:Sl->P->Prop}
theorem go1(hs:Hs X w true es [x])(I:Inv X F p j s)(h:wE w (.pr q es) p Q){f:ZQ}(kk:∀F' p' t u s' r,Le F F'->Inv X F' p' j s'->Vp X.toMd F' s'.heap t u->L1 q [t]=some r->Q r p'->f u s'):WP X (eval x X.env) f s :=
 show Ba X [x] (fun us s'=>match us with | [u]=>f u s' | _=>True) s from Li hs I h fun F' p' ts us s' r l I' se e q=>by
  match ts,us,se with
  | [t],[u],.cons s1 .nil=>exact kk F' p' t u s' r l I' s1 e q
  | [],_,.nil=>trivial
  | _::_::_,_,.cons _ (.cons _ _)=>split<;>first | trivial | (rename_i z;cases z)
theorem go2(hs:Hs X w true es [x,y])(I:Inv X F p j s)(h:wE w (.pr q es) p Q){f:Value->Value->Shared->Prop}(kk:∀F' p' t t' u v s' r,Le F F'->Inv X F' p' j s'->Vp X.toMd F' s'.heap t u->Vp X.toMd F' s'.heap t' v->L1 q [t,t']=some r->Q r p'->f u v s'):WP X (eval x X.env) (fun u s1=>WP X (eval y X.env) (fun v s2=>f u v s2) s1) s :=
 show Ba X [x,y] (fun us s'=>match us with | [u,v]=>f u v s' | _=>True) s from Li hs I h fun F' p' ts us s' r l I' se e q=>by
  match ts,us,se with
  | [t,t'],[u,v],.cons s1 (.cons s2 .nil)=>exact kk F' p' t t' u v s' r l I' s1 s2 e q
  | [],_,.nil=>trivial
  | [_],_,.cons _ .nil=>trivial
  | _::_::_::_,_,.cons _ (.cons _ (.cons _ _))=>trivial
theorem go3(hs:Hs X w true es [x,y,z])(I:Inv X F p j s)(h:wE w (.pr q es) p Q){f:Value->Value->Value->Shared->Prop}(kk:∀F' p' t t' t2 u v u2 s' r,Le F F'->Inv X F' p' j s'->Vp X.toMd F' s'.heap t u->Vp X.toMd F' s'.heap t' v->Vp X.toMd F' s'.heap t2 u2->L1 q [t,t',t2]=some r->Q r p'->f u v u2 s'):WP X (eval x X.env) (fun u s1=>WP X (eval y X.env) (fun v s2=>WP X (eval z X.env) (fun u2 s3=>f u v u2 s3) s2) s1) s :=
 show Ba X [x,y,z] (fun us s'=>match us with | [u,v,u2]=>f u v u2 s' | _=>True) s from Li hs I h fun F' p' ts us s' r l I' se e q=>by
  match ts,us,se with
  | [t,t',t2],[u,v,u2],.cons s1 (.cons s2 (.cons s3 .nil))=>exact kk F' p' t t' t2 u v u2 s' r l I' s1 s2 s3 e q
  | [],_,.nil=>trivial
  | [_],_,.cons _ .nil=>trivial
  | [_,_],_,.cons _ (.cons _ .nil)=>trivial
  | _::_::_::_::_,_,.cons _ (.cons _ (.cons _ (.cons _ _)))=>trivial
end
def isVI:E->Bool
 | .v _=>true
 | .io _=>true
 | _=>false
mutual
noncomputable def cy:E->Bool
 | .k _=>true
 | .g _=>true
 | .pr _ es=>Dm es
 | _=>false
noncomputable def Dm:E->Bool
 | .nil=>true
 | .cons a r=>(isVI a || cy a) && Dm r
 | _=>false
end
section
variable{w:W}
mutual
theorem cv:∀(a:E) {p:P} {Q:Sl->P->Prop},cy a=true->wE w a p Q->∃r,Q r p/\∀Q':Sl->P->Prop,Q' r p->wE w a p Q'
 | .k t,p,Q,_,h=>⟨.f t,h,fun _ q=>q⟩
 | .g x,p,Q,_,h=>by
  obtain⟨t,e,h⟩:=Zi (show on (w.gl x) fun t=>Q (.f t) p from h);exact⟨.f t,h,fun Q' q=>(show on (w.gl x) fun t=>Q' (.f t) p from Zm e q)⟩
 | .pr r es,p,Q,c,h=>by
  obtain⟨as,h,k⟩:=Pt es (show Dm es=true from c) (show wR w true es p fun as p1=>on (looks p1 as) fun ts=>on (L1 r ts) fun s=>Q s p1 from h);obtain⟨ts,e1,h⟩:=Zi h;obtain⟨s,e2,h⟩:=Zi h;exact⟨s,h,fun Q' q=>(show wR w true es p fun as p1=>on (looks p1 as) fun ts=>on (L1 r ts) fun s=>Q' s p1 from k _ (Zm e1 (Zm e2 q)))⟩
 | .v _,_,_,c,_=>by cases c
 | .mv _,_,_,c,_=>by cases c
 | .io _,_,_,c,_=>by cases c
 | .nil,_,_,c,_=>by cases c
 | .cons _ _,_,_,c,_=>by cases c
 | .tup _,_,_,c,_=>by cases c
 | .lst _,_,_,c,_=>by cases c
 | .and _ _,_,_,c,_=>by cases c
 | .or _ _,_,_,c,_=>by cases c
 | .not _,_,_,c,_=>by cases c
 | .ite _ _ _,_,_,c,_=>by cases c
 | .call _ _,_,_,c,_=>by cases c
 | .cal _ _,_,_,c,_=>by cases c
 | .mt _ _ _,_,_,c,_=>by cases c
 | .comp _ _ _ _ _ _,_,_,c,_=>by cases c
 | .itr _ _,_,_,c,_=>by cases c
 | .tmp _,_,_,c,_=>by cases c
theorem Pt:∀(es:E) {p:P} {K:List A->P->Prop},Dm es=true->wR w true es p K->∃as,K as p/\∀K':List A->P->Prop,K' as p->wR w true es p K'
 | .nil,p,K,_,h=>⟨[],h,fun _ q=>q⟩
 | .cons a r,p,K,c,h=>by
  have h:wH true a p (wE w a p) fun a1 p1=>wR w true r p1 fun as p2=>K (a1::as) p2:=h;obtain⟨c1,c2⟩:=zh.mp (show ((isVI a || cy a) && Dm r)=true from c)
  have slot:∀(i:Nat) {K0:A->P->Prop},(if done p i=true then K0 (.s i) p else False)->done p i=true/\K0 (.s i) p:=fun i {K0} h=>by
   split at h
   .exact⟨by assumption,h⟩
   .exact h.elim
  have toK:∀{s:Sl},(My s fun t=>wR w true r p fun as p2=>K (.t t::as) p2)->(∀Q':Sl->P->Prop,Q' s p->wE w a p Q')->∃t,(wR w true r p fun as p2=>K (.t t::as) p2)/\∀K':A->P->Prop,K' (.t t) p->wE w a p fun s p1=>My s fun t=>K' (.t t) p1:=fun {s} h k=>by
   cases s with
   | no=>exact h.elim
   | f t=>exact⟨t,h,fun K' q=>k _ q⟩
   | o t=>exact⟨t,h,fun K' q=>k _ q⟩
  have key:∃a1,(wR w true r p fun as p2=>K (a1::as) p2)/\∀K':A->P->Prop,K' a1 p->wH true a p (wE w a p) K':=by
   cases a with
   | v i=>obtain⟨d,h⟩:=slot i (K0:=fun a1 p1=>wR w true r p1 fun as p2=>K (a1::as) p2) h;exact⟨.s i,h,fun K' q=>(show if done p i=true then K' (.s i) p else False by rw[if_pos d];exact q)⟩
   | io i=>obtain⟨d,h⟩:=slot i (K0:=fun a1 p1=>wR w true r p1 fun as p2=>K (a1::as) p2) h;exact⟨.s i,h,fun K' q=>(show if done p i=true then K' (.s i) p else False by rw[if_pos d];exact q)⟩
   | k t=>exact⟨.t t,h,fun K' q=>q⟩
   | g x =>
    obtain⟨s,h,k⟩:=cv (.g x) (Q:=fun s p1=>My s fun t=>wR w true r p1 fun as p2=>K (.t t::as) p2) rfl h;obtain⟨t,h,k⟩:=toK h k;exact⟨.t t,h,k⟩
   | pr q es =>
    obtain⟨s,h,k⟩:=cv (.pr q es) (Q:=fun s p1=>My s fun t=>wR w true r p1 fun as p2=>K (.t t::as) p2) c1 h;obtain⟨t,h,k⟩:=toK h k;exact⟨.t t,h,k⟩
   | _=>cases c1
  obtain⟨a1,h,k1⟩:=key;obtain⟨as,h,k2⟩:=Pt r c2 h;exact⟨a1::as,h,fun K' q=>(show wH true a p (wE w a p) fun a1 p1=>wR w true r p1 fun as p2=>K' (a1::as) p2 from k1 _ (k2 _ q))⟩
 | .k _,_,_,c,_=>by cases c
 | .g _,_,_,c,_=>by cases c
 | .pr _ _,_,_,c,_=>by cases c
 | .v _,_,_,c,_=>by cases c
 | .mv _,_,_,c,_=>by cases c
 | .io _,_,_,c,_=>by cases c
 | .tup _,_,_,c,_=>by cases c
 | .lst _,_,_,c,_=>by cases c
 | .and _ _,_,_,c,_=>by cases c
 | .or _ _,_,_,c,_=>by cases c
 | .not _,_,_,c,_=>by cases c
 | .ite _ _ _,_,_,c,_=>by cases c
 | .call _ _,_,_,c,_=>by cases c
 | .cal _ _,_,_,c,_=>by cases c
 | .mt _ _ _,_,_,c,_=>by cases c
 | .comp _ _ _ _ _ _,_,_,c,_=>by cases c
 | .itr _ _,_,_,c,_=>by cases c
 | .tmp _,_,_,c,_=>by cases c
end
end
noncomputable def quiet:Pr->E->Bool
 | .c2 _ _,.cons _ (.cons _ r)=>Dm r
 | .get1,.cons _ r=>Dm r
 | .idx,.cons _ r=>Dm r
 | .get2,.cons _ r=>Dm r
 | .c2 _ _,_=>false
 | .get1,_=>false
 | .idx,_=>false
 | .get2,_=>false
 | _,_=>true
theorem Q6{es:ZM}{env:Env}{cpos:Pos}(h:∀e∈es,noStar e=true)(hl:es.length<30):((backTo cpos (starEach es env)).all (fun x=>!x.1) && (backToKw cpos (keywordEach [] env)).all (fun x=>x.1.isSome)
  && decide (es.length+([]:List Keyword).length+(if ([]:List Keyword).isEmpty then 0 else 1)<30))=true:=by
 have h1:(backTo cpos (starEach es env)).all (fun x=>!x.1)=true:=by
  rw[List.all_eq_not_any_not];have:=Yt es env cpos h;simp only[Bool.not_not];rw[this];rfl
 rw[h1];show (true && true && decide (es.length+0+0<30))=true;rw[Ml (by omega)];rfl
section
variable{X:Cx}{w:W}{k:Nat}{N:ZG}{sc:ZW}{F:OM}{p:P}{j:Vs}{s:Shared}
theorem Q2{q:Pr}{a r:E}{x:Expr}{xs:ZM}{Q:Sl->P->Prop}{f:ZQ}(hs:Hs X w true (.cons a r) (x::xs))(hq:Dm r=true)(I:Inv X F p j s)(h:wE w (.pr q (.cons a r)) p Q)
  (kk:∀F1 p1 b v s1 as ts rr,Le F F1->Inv X F1 p1 j s1->Ar X F1 j b v->looks p1 (b::as)=some ts->L1 q ts=some rr->Q rr p1->(∀K':List A->P->Prop,K' as p1->wR w true r p1 K')->f v s1):WP X (eval x X.env) f s:=by
 cases hs with | cons ha _ t =>
 have h:wH true a p (wE w a p) fun a1 p1=>wR w true r p1 fun as p2=>on (looks p2 (a1::as)) fun ts=>on (L1 q ts) fun s=>Q s p2:=h;refine Yo (ha F p j s _ I h) fun v s1 ⟨F1,p1,b,l1,I1,r1,_,h⟩=>?_;obtain⟨as,h,kr⟩:=Pt r hq h;obtain⟨ts,e1,h⟩:=Zi h;obtain⟨rr,e2,h⟩:=Zi h;exact kk F1 p1 b v s1 as ts rr l1 I1 r1 e1 e2 h kr
theorem C4{r:E}{xs:ZM}{p1:P}{as:List A}(t:Hs X w true r xs)(I:Inv X F p1 j s)(kr:∀K':List A->P->Prop,K' as p1->wR w true r p1 K'){K:ZK->Shared->Prop}(kk:∀F' us s',Le F F'->Inv X F' p1 j s'->Paired (Ar X F' j) as us->K us s'):Ba X xs K s :=
 evs t I (kr (fun as' q=>as'=as/\q=p1) ⟨rfl,rfl⟩) fun F' p' as' us s' l I' ar _ ⟨e1,e2⟩=>by subst e1 e2;exact kk F' us s' l I' ar
theorem Us{a:A}{as:List A}{ts:ZZ}(h:looks p (a::as)=some ts):∃t r,look p a=some t/\looks p as=some r/\ts=t::r:=by
 obtain⟨t,e1,h⟩:=ZP.mp (show (look p a).bind _=some ts from h);obtain⟨r,e2,rfl⟩:=Y8.mp h;exact⟨t,r,e1,e2,rfl⟩
theorem Ct.gl'(c:Ct X w k N sc){x:Str}(h:Gi sc x=true):Gl X x/\(x == ("__debug__" : Str))=false:=by
 unfold Gi at h;rw[Vi,beq_iff_eq]at h;exact⟨c.gi h.1,by simpa using h.2⟩
theorem Ct.nm'(c:Ct X w k N sc){i:Nat}{x:Str}(h:Gp N sc i x=true):Nm X i x:=by
 unfold Gp at h;simp only[Vi,beq_iff_eq]at h;exact⟨by rw[c.nN];exact h.1.1.1,by simpa using h.1.2,by simpa using h.2⟩
theorem Fu(c:Ct X w k N sc){x:Str}{XY:ZX}(e:Rq x=some XY)(I:Inv X F p j s):∃a,X.mg x=some (.ref a)/\Vp X.toMd F s.heap (.dct XY) (.ref a):=by
 obtain⟨a,vs,hm,dd,ns,z,r⟩:=c.bn.t x XY e;have l:Le X.base.get? F:=fun a o h=>I.le a o (I.ok.b a o h);obtain⟨o,ho,k⟩:=Ls.of dd z ns;exact⟨a,hm,.of I.fh (.mkD (l a o ho) k (Yz.up r l))⟩
theorem Ip{x z:Str}{t:T}(h:z9 x z=some t):∃XY,Rq x=some XY/\Zv XY (.inr z)=some t:=ZP.mp h
variable{es:E}
theorem Zz1{q:Pr}{nm:Str}{fv:Value}(h:btV q=some (nm,fv)):nm∈Dc/\bootBuiltins nm=some fv/\nm ≠ "__name__" /\ ((∃id,fv=.builtin id)\/∃T,fv=.type T):=by
 unfold btV at h
 split at h<;>first | (cases h;done) | (cases h;exact⟨by decide +kernel,by decide +kernel,by decide +kernel,by first | exact .inl ⟨_,rfl⟩ | exact .inr ⟨_,rfl⟩⟩)
theorem Zxs(c:Ct X w k N sc)(hc:X.calm=true){q:Pr}{x:Expr}{xs:ZM}(hv:vBt sc q x=some xs)(hs:Hs X w true es xs):SE w (.pr q es) X x:=fun F p j s Q I h=>by
 obtain⟨f,p0,a,r,pos,rfl,hv2⟩:=vBt_ex hv
 clear hv
 split at hv2
 rotate_left
 .cases hv2
 rename_i nm fv hb
 split at hv2
 rotate_left
 .cases hv2
 rename_i ho
 cases hv2;obtain⟨rfl,g1⟩:=ho;obtain⟨gg,gd⟩:=c.gl' g1;obtain⟨b1,b2,b3,b4⟩:=Zz1 hb;have st:=hs.star;have main:WP X (spliced (backTo pos (starEach (a::r) X.env))) (fun us s1=>WP X (call fv us) (EP X F j Q) s1) s:=Yx st (Li hs I h fun F1 p1 ts us s1 rr l I1 se e q=>bt_run hb (I1.rn c hc) se e (I1.ok' l q));refine wpAny_Call_Name_kw (Dj I gg (c.bn.b _ b1) b2 gd b3 ?_);rcases b4 with ⟨id,rfl⟩ | ⟨T,rfl⟩
 .exact callWith_builtin1 main (Z4 (st _ Yd)) (Yt r X.env pos fun e m=>st e (Vq _ m))
 .exact callWith_type1 main (Z4 (st _ Yd)) (Yt r X.env pos fun e m=>st e (Vq _ m))
end
section
variable{X:Cx}{w:W}{k:Nat}{N:ZG}{sc:ZW}{es:E}
theorem se_op{o:Op}{x:Expr}{xs:ZM}(hv:vOp o x=some xs)(hs:Hs X w true es xs):SE w (.pr (.op o) es) X x:=fun F p j s Q I h=>by
 replace hv:=vOp_ex hv
 obtain⟨a,op,b,p0,rfl,hv⟩:=hv
 split at hv
 .rename_i ho
  subst ho;cases hv;exact wpAny_BinOp (go2 hs I h fun F1 p1 t t' u v s1 r l I1 Qy Ki e q=>op_run o I1.fh Qy Ki e (I1.ok' l q))
 .cases hv
theorem Zqt(c:Ct X w k N sc){cm:Cm}{a b:Expr}{f:ZQ}(hs:Hs X w true es [a,b]){F:OM}{p:P}{j:Vs}{s:Shared}{Q:Sl->P->Prop}(I:Inv X F p j s)(h:wE w (.pr (.cm cm) es) p Q)(kk:∀F1 p1 bb s1,Le F F1->Inv X F1 p1 j s1->Q (.f (.bl bb)) p1->f (.bool bb) s1) :
  WP X (eval a X.env) (fun v s1=>WP X (eval b X.env) (fun u s2=>WP X (compareOp (Wv cm) v u) f s2) s1) s :=
 go2 hs I h fun F1 p1 t t' u v s1 r l I1 Qy Ki e q=>by
  obtain⟨bb,e1,rfl⟩:=Y8.mp (show (Jw cm t t').map _=some r from e);exact Al cm c.un I1.fh Qy Ki e1 fun tk=>kk F1 p1 bb _ l (I1.tok tk) q
theorem Zxl(c:Ct X w k N sc){cm:Cm}{x:Expr}{xs:ZM}(hv:vCm cm x=some xs)(hs:Hs X w true es xs):SE w (.pr (.cm cm) es) X x/\∀wh,ST w (.pr (.cm cm) es) X x wh:=by
 replace hv:=vCm_ex hv
 obtain⟨a,op,b,p0,rfl,hv⟩:=hv
 split at hv
 .rename_i ho
  obtain⟨rfl,hm⟩:=ho;cases hv
  exact⟨fun F p j s Q I h=>wpAny_Compare1 (Zqt c hs I h fun F1 p1 bb s1 l I1 q=>⟨F1,p1,.f (.bl bb),l,I1,Top.bl,q⟩) hm,
   fun wh F p j s Q I h=>wpAny_isTrue_Compare1 (Zqt c hs I h fun F1 p1 bb s1 l I1 q=>wpAny_truthy_bool ⟨F1,p1,l,I1,q⟩) hm⟩
 .cases hv
theorem Zqc(c:Ct X w k N sc){cm cj:Cm}{a b d:Expr}{fin:Bool->Shared->Prop}(hs:Hs X w true es [a,b,d])(hq:quiet (.c2 cm cj) es=true){F:OM}{p:P}{j:Vs}{s:Shared}{Q:Sl->P->Prop}(I:Inv X F p j s)(h:wE w (.pr (.c2 cm cj) es) p Q)
  (kk:∀F1 p1 bb s1,Le F F1->Inv X F1 p1 j s1->Q (.f (.bl bb)) p1->fin bb s1) :
  WP X (eval a X.env) (fun v s1=>WP X (eval b X.env) (fun u s2=>WP X (compareOp (Wv cm) v u) (fun e s3=>∃bb,e=.bool bb/\if bb=true then WP X (eval d X.env) (fun z s4=>WP X (compareOp (Wv cj) u z) (fun e s5=>∃bb,e=.bool bb/\fin bb s5) s4) s3 else fin false s3) s2) s1) s:=by
 cases hs with | @cons ea er x xs ha sa t=>cases t with | @cons eb r x xs hb sb t =>
 have hq:Dm r=true:=hq;have h:wH true ea p (wE w ea p) fun a1 p1=>wH true eb p1 (wE w eb p1) fun a2 p2=>wR w true r p2 fun as p3=>on (looks p3 (a1::a2::as)) fun ts=>on (L1 (.c2 cm cj) ts) fun s=>Q s p3:=h;refine Yo (ha F p j s _ I h) fun v s1 ⟨F1,p1,a1,l1,I1,r1,_,h⟩=>Yo (hb F1 p1 j s1 _ I1 h) fun u s2 ⟨F2,p2,a2,l2,I2,r2,_,h⟩=>?_;obtain⟨as,h,kr⟩:=Pt r hq h;obtain⟨ts,e1,h⟩:=Zi h;obtain⟨rr,e2,h⟩:=Zi h;obtain⟨t1,q1,g1,g2,rfl⟩:=Us e1;obtain⟨t2,q2,g3,g4,rfl⟩:=Us g2;have r1:=r1.up l2
 match q2,g4,e2 with
 | [],g4,e2=>cases e2
 | _::_::_,g4,e2=>cases e2
 | [t3],g4,e2 =>
 obtain⟨b1,e3,e2⟩:=ZP.mp (show (Jw cm t1 t2).bind _=some rr from e2);refine Al cm c.un I2.fh (I2.look g1 r1) (I2.look g3 r2) e3 fun tk=>⟨b1,rfl, ?_⟩;have I3:=I2.tok tk;cases b1 with
 | false =>
  cases e2;rw[if_neg Ox];exact kk F2 p2 false _ (l1.trans l2) I3 h
 | true =>
  obtain⟨b2,e4,rfl⟩:=Y8.mp e2;rw[if_pos rfl];refine C4 (K:=fun us s4=>match us with | [z]=>WP X (compareOp (Wv cj) u z) (fun e s5=>∃bb,e=.bool bb/\fin bb s5) s4 | _=>True) t I3 kr fun F4 us s4 l4 I4 ar=>?_
  match us,I4.looks ar g4 with
  | [z],.cons s3 .nil=>exact Al cj c.un I4.fh (I4.look g3 (r2.up l4)) s3 e4 fun tk=>⟨b2,rfl,kk F4 p2 b2 _ (l1.trans (l2.trans l4)) (I4.tok tk) h⟩
theorem Zxr(c:Ct X w k N sc){cm cj:Cm}{x:Expr}{xs:ZM}(hv:vC2 cm cj x=some xs)(hq:quiet (.c2 cm cj) es=true)(hs:Hs X w true es xs):SE w (.pr (.c2 cm cj) es) X x/\∀wh,ST w (.pr (.c2 cm cj) es) X x wh:=by
 replace hv:=vC2_ex hv
 obtain⟨a,op,op',b,d,p0,rfl,hv⟩:=hv
 split at hv
 rotate_left
 .cases hv
 rename_i ho
 obtain⟨rfl,rfl,hm⟩:=ho;cases hv
 refine⟨fun F p j s Q I h=>Compare_chain (Yo (Zqc (fin:=fun bb s'=>EP X F j Q (.bool bb) s') c hs hq I h fun F1 p1 bb s1 l I1 q=>⟨F1,p1,.f (.bl bb),l,I1,Top.bl,q⟩) fun v s1 g=>chain_link (Yo g fun u s2 g=>Yo g fun e s3 ⟨bb,ee,g⟩=>?_)) hm,
  fun wh F p j s Q I h=>isTrue_chain (Yo (Zqc (fin:=fun bb s'=>TP X F j Q bb s') c hs hq I h fun F1 p1 bb s1 l I1 q=>⟨F1,p1,l,I1,q⟩) fun v s1 g=>test_link (Yo g fun u s2 g=>Yo g fun e s3 ⟨bb,ee,g⟩=>?_)) hm⟩
 .subst ee;refine wpAny_truthy_bool ?_;cases bb with
  | false=>rw[if_neg Ox]at g;exact ite_ff g
  | true=>rw[if_pos rfl]at g;exact ite_tt (chain_last (Yo g fun z s4 g=>Yo g fun e s5 ⟨bb,ee,g⟩=>by subst ee;exact g))
 .subst ee;refine wpAny_truthy_bool ?_;cases bb with
  | false=>rw[if_neg Ox]at g;exact ite_ff g
  | true=>rw[if_pos rfl]at g;exact ite_tt (test_last (Yo g fun z s4 g=>Yo g fun e s5 ⟨bb,ee,g⟩=>by subst ee;exact wpAny_truthy_bool g))
theorem O7{b:Expr}(h:Ur b=true):∀o i,subscripted b false o i=operate [o,i] (getItem o i):=fun o i=>by cases b<;>first | rfl | cases h
theorem se_neg{x:Expr}{xs:ZM}(hv:ri x=some xs)(hs:Hs X w true es xs):SE w (.pr .neg es) X x:=fun F p j s Q I h=>by
 replace hv:=ro hv
 obtain⟨a,p0,rfl,hv⟩:=hv;cases hv;refine UnaryOp_ (go1 hs I h fun F1 p1 t u s1 r l I1 se e q=>?_);cases t<;>first | (cases e;done) | skip
 cases e;cases se;exact neg_int ((I1.ep (tk:=_) (.sc .int) q).le l)
theorem se_ix{x:Expr}{xs:ZM}(hv:vIx x=some xs)(hs:Hs X w true es xs):SE w (.pr .ix es) X x:=fun F p j s Q I h=>by
 replace hv:=vIx_ex hv
 obtain⟨a,b,p0,rfl,hv⟩:=hv
 split at hv
 .rename_i ho
  cases hv;refine Subscript_ (go2 hs I h fun F1 p1 t t' u v s1 r l I1 Qy Ki e q=>?_);obtain⟨z,e1,rfl⟩:=Y8.mp (show (Bt t t').map Sl.f=some r from e);exact bu I1.fh Qy Ki e1 (I1.ok' l q) (O7 ho _ _)
 .cases hv
theorem Ku{F F1:OM}{p1:P}{j:Vs}{s1:Shared}{Q:Sl->P->Prop}{t:T}{v vl vu:Value}{lo hi:ZC}{r:Sl}{e:Expr}{lo' H0:Option Expr}{p2:Pos}(l:Le F F1)(I:Inv X F1 p1 j s1)(se:Vp X.toMd F1 s1.heap t v)(pl:IsPart vl lo)(pu:IsPart vu hi)(e1:slT t lo hi=some r)(q:Q r p1) :
  WP X (subscriptTail e (.Slice lo' H0 none p2) v (.ref s1.heap.objs.size)) (EP X F j Q) { s1 with heap:=s1.heap.push { cls:=.type "slice",data:=.fields #[vl,vu,.none] } }:=by
 have I4:Inv X F1 p1 j { s1 with heap:=s1.heap.push { cls:=.type "slice",data:=.fields #[vl,vu,.none] } }:=I.kept (t:=s1.toks) fun b ob q=>Ya _ q
 have se4:Vp X.toMd F1 (s1.heap.push { cls:=.type "slice",data:=.fields #[vl,vu,.none] }) t v:=by
  unfold Vp at *;cases hc:C5 t with
  | true =>
   rw[hc]at se;obtain⟨a,o,rfl,_⟩:=se.at hc;exact se.to (D':=(s1.heap.push _).get?) hc fun o e=>Ya _ e
  | false=>rw[hc]at se;exact se
 obtain⟨T,id,hT,ht,hg⟩:=sl_run (A:=X.A) (E:=X.xe) I4.fh se4 (Heap.IsSliceOf.new ..) pl pu e1 (I4.ok' l q);exact tail_any (ops:=[.ref s1.heap.objs.size,v]) ht hT hg (by with_unfolding_all rfl)
theorem uy{x:Expr}{xs:ZM}(hv:Iy x=some xs)(hs:Hs X w true es xs):SE w (.pr (.sl true false) es) X x:=fun F p j s Q I h=>by
 replace hv:=vx hv
 obtain⟨a,l0,q0,p0,rfl,hv⟩:=hv;cases hv;refine Subscript_ (Yo (go2 (f:=fun v u s1=>WP X (subscriptTail a (.Slice (some l0) none none q0) v (.ref s1.heap.objs.size)) (EP X F j Q) { s1 with heap:=s1.heap.push { cls:=.type "slice",data:=.fields #[u,.none,.none] } }) hs I h fun F1 p1 t t' u v s1 r l I1 Qy Ki e q=>?_) fun v s1 g=>wpAny_Slice ?_)
 .obtain⟨i,e1,e2⟩:=ZP.mp (show (Sr t').bind (fun i=>slT t (some i) none)=some r from e);cases t'<;>first | (cases e1;done) | skip
  cases e1;cases Ki;exact Ku l I1 Qy (.int _ _) .none e2 q
 .rw[evalPart_some];refine Yo g fun u s2 g=>?_;rw[evalPart_none];exact Zt (Zt g)
theorem uk{x:Expr}{xs:ZM}(hv:Ig x=some xs)(hs:Hs X w true es xs):SE w (.pr (.sl false true) es) X x:=fun F p j s Q I h=>by
 replace hv:=vq hv
 obtain⟨a,l0,q0,p0,rfl,hv⟩:=hv;cases hv;refine Subscript_ (Yo (go2 (f:=fun v u s1=>WP X (subscriptTail a (.Slice none (some l0) none q0) v (.ref s1.heap.objs.size)) (EP X F j Q) { s1 with heap:=s1.heap.push { cls:=.type "slice",data:=.fields #[.none,u,.none] } }) hs I h fun F1 p1 t t' u v s1 r l I1 Qy Ki e q=>?_) fun v s1 g=>wpAny_Slice ?_)
 .obtain⟨i,e1,e2⟩:=ZP.mp (show (Sr t').bind (fun i=>slT t none (some i))=some r from e);cases t'<;>first | (cases e1;done) | skip
  cases e1;cases Ki;exact Ku l I1 Qy .none (.int _ _) e2 q
 .rw[evalPart_none];refine Zt ?_;rw[evalPart_some];exact Yo g fun u s2 g=>Zt g
theorem uv{x:Expr}{xs:ZM}(hv:Iv x=some xs)(hs:Hs X w true es xs):SE w (.pr (.sl true true) es) X x:=fun F p V s Q I h=>by
 replace hv:=vz hv
 obtain⟨a,l0,u0,q0,p0,rfl,hv⟩:=hv;cases hv;refine Subscript_ (Yo (go3 (f:=fun v u u2 s1=>WP X (subscriptTail a (.Slice (some l0) (some u0) none q0) v (.ref s1.heap.objs.size)) (EP X F V Q) { s1 with heap:=s1.heap.push { cls:=.type "slice",data:=.fields #[u,u2,.none] } }) hs I h fun F1 p1 t t' t2 u v u2 s1 r l I1 Qy Ki s3' e q=>?_) fun v s1 g=>wpAny_Slice ?_)
 .obtain⟨i,e1,e2⟩:=ZP.mp (show (Sr t').bind (fun i=>(Sr t2).bind fun j=>slT t (some i) (some j))=some r from e);obtain⟨j,e3,e4⟩:=ZP.mp e2;cases t'<;>first | (cases e1;done) | skip
  cases t2<;>first | (cases e3;done) | skip
  cases e1;cases e3;cases Ki;cases s3';exact Ku l I1 Qy (.int _ _) (.int _ _) e4 q
 .rw[evalPart_some];refine Yo g fun u s2 g=>?_;rw[evalPart_some];refine Yo g fun u2 s3 g=>?_;rw[evalPart_none];exact Zt g
end
section
variable{X:Cx}{w:W}{k:Nat}{N:ZG}{sc:ZW}{es:E}
theorem se_isi(c:Ct X w k N sc){n:Kd}{x:Expr}{xs:ZM}(hv:r7 sc n x=some xs)(hs:Hs X w true es xs):SE w (.pr (.isi n) es) X x:=fun F p j s Q I h=>by
 replace hv:=r6 hv
 obtain⟨f,q0,a,kn,q1,p0,rfl,hv⟩:=hv
 split at hv
 rotate_left
 .cases hv
 rename_i ho
 cases hv;obtain⟨rfl,g1,rfl,g2⟩:=ho;obtain⟨gg1,gd1⟩:=c.gl' g1;obtain⟨gg2,gd2⟩:=c.gl' g2;have st:=hs.star
 have st2:∀e∈[a,Expr.Name (Str.ofString (lg n)) q1],noStar e=true:=fun e m=>by
  rcases Vt.mp m with rfl | m
  .exact st _ Yd
  .cases V8.mp m;rfl
 have kb:(Str.ofString (lg n))∈Dc/\bootBuiltins (Str.ofString (lg n))=some (.type (lg n))/\Str.ofString (lg n) ≠ "__name__" := by cases n<;>decide +kernel
 have main:Ba X [a,Expr.Name (Str.ofString (lg n)) q1] (fun us s1=>WP X (call (.builtin "isinstance") us) (EP X F j Q) s1) s :=
  go1 (f:=fun v s1=>WP X (eval (.Name (Str.ofString (lg n)) q1) X.env) (fun u s2=>WP X (call (.builtin "isinstance") [v,u]) (EP X F j Q) s2) s1) hs I h fun F1 p1 t u s1 r l I1 se e q=>by
   obtain⟨b,e1,rfl⟩:=Y8.mp (show (isiT n t).map _=some r from e);exact Dj I1 gg2 (c.bn.b _ kb.1) kb.2.1 gd2 kb.2.2 (i6 I1.kIn I1.fh se e1 (I1.ok' l q))
 refine wpAny_Call_Name_kw (Dj I gg1 (c.bn.b _ (by decide +kernel)) (by decide +kernel:bootBuiltins "isinstance" = some (.builtin "isinstance")) gd1 (by decide) ?_);exact callWith_builtin1 (Yx st2 main) (Z4 (st _ Yd)) rfl
theorem ub{x:Expr}{xs:ZM}(hv:It x=some xs)(hq:quiet .get1 es=true)(hs:Hs X w true es xs):SE w (.pr .get1 es) X x:=fun F p j s Q I h=>by
 replace hv:=vy hv
 obtain⟨o,m,ap,a,cp,rfl,hv⟩:=hv
 split at hv
 rotate_left
 .cases hv
 rename_i ho
 cases hv;obtain⟨rfl,hn,hl⟩:=ho;cases hs with | @cons ea er _ _ ha sa t =>
 have st:=t.star;refine wpAny_Call_method_late (D4 hn _ _ _) (Q6 st (by first | (show 1<30;decide) | (show 2<30;decide))) hl rfl (Q2 (.cons ha sa t) hq I h fun F1 p1 b v s1 as ts rr l1 I1 r1 e1 e2 q kr=>?_);obtain⟨t1,q1,g1,g2,rfl⟩:=Us e1;cases t1<;>first | (rcases q1 with _ | ⟨_,_ | ⟨_,_⟩⟩<;>cases e2;done) | skip
 rename_i XY
 obtain⟨a0,vs,rfl,z,ns,dd,r⟩:=Tz (I1.look g1 r1);have dd0:=dd;obtain⟨ob,_,_,h1,h2,_⟩:=dd0;refine⟨"dict","dict.get",PySem.F.plainAttrs_dict,PySem.F.slot_dict_get,PySem.F.type_dict_get,dd.typeIs,fun a e=>by cases e;exact⟨ob,h1,h2.2.1⟩, ?_⟩
 have main:WP X (spliced (backTo cp (starEach (_::_) X.env))) (fun us s2=>WP X (call (.builtin "dict.get") (.ref a0::us)) (EP X F j Q) s2) s1:=Yx st (C4 t I1 kr fun F2 us s2 l2 I2 ar=>by
  match q1,us,I2.looks ar g2,e2 with
  | [kt],[u],.cons s3 .nil,e2 =>
   obtain⟨key,e3,rfl⟩:=Y8.mp (show (Ma kt).map _=some rr from e2);exact dw (I2.look g1 (r1.up l2)) s3 e3 (I2.ok' (l1.trans l2) q))
 rw[Z4 (st _ Yd)]at main ⊢;exact Calls.callWith_builtin rfl (Calls.evalArgs_plain main)
theorem uf{x:Expr}{xs:ZM}(hv:Im x=some xs)(hq:quiet .get2 es=true)(hs:Hs X w true es xs):SE w (.pr .get2 es) X x:=fun F p j s Q I h=>by
 replace hv:=vw hv
 obtain⟨o,m,ap,a,b0,cp,rfl,hv⟩:=hv
 split at hv
 rotate_left
 .cases hv
 rename_i ho
 cases hv;obtain⟨rfl,hn,hl⟩:=ho;cases hs with | @cons ea er _ _ ha sa t =>
 have st:=t.star;refine wpAny_Call_method_late (D4 hn _ _ _) (Q6 st (by first | (show 1<30;decide) | (show 2<30;decide))) hl rfl (Q2 (.cons ha sa t) hq I h fun F1 p1 b v s1 as ts rr l1 I1 r1 e1 e2 q kr=>?_);obtain⟨t1,q1,g1,g2,rfl⟩:=Us e1;cases t1<;>first | (rcases q1 with _ | ⟨_,_ | ⟨_,_ | ⟨_,_⟩⟩⟩<;>cases e2;done) | skip
 rename_i XY
 obtain⟨a0,vs,rfl,z,ns,dd,r⟩:=Tz (I1.look g1 r1);have dd0:=dd;obtain⟨ob,_,_,h1,h2,_⟩:=dd0;refine⟨"dict","dict.get",PySem.F.plainAttrs_dict,PySem.F.slot_dict_get,PySem.F.type_dict_get,dd.typeIs,fun a e=>by cases e;exact⟨ob,h1,h2.2.1⟩, ?_⟩
 have main:WP X (spliced (backTo cp (starEach (_::_) X.env))) (fun us s2=>WP X (call (.builtin "dict.get") (.ref a0::us)) (EP X F j Q) s2) s1:=Yx st (C4 t I1 kr fun F2 us s2 l2 I2 ar=>by
  match q1,us,I2.looks ar g2,e2 with
  | [kt,xt],[u,v],.cons s3 (.cons s4 .nil),e2 =>
   have e2:(if C5 xt=true then none else (Ma kt).map fun k=>Sl.f ((Zv XY k).getD xt))=some rr:=e2
   split at e2
   .cases e2
   .rename_i hct
    obtain⟨key,e3,rfl⟩:=Y8.mp e2;exact dj (I2.look g1 (r1.up l2)) s3 s4 (by simpa using hct) e3 (I2.ok' (l1.trans l2) q))
 rw[Z4 (st _ Yd)]at main ⊢;exact Calls.callWith_builtin (Yt [b0] X.env cp fun e m=>st e (Vq _ m)) (Calls.evalArgs_plain main)
theorem se_idx{x:Expr}{xs:ZM}(hv:r9 x=some xs)(hq:quiet .idx es=true)(hs:Hs X w true es xs):SE w (.pr .idx es) X x:=fun F p l s Q I h=>by
 replace hv:=r8 hv
 obtain⟨o,m,ap,a,cp,rfl,hv⟩:=hv
 split at hv
 rotate_left
 .cases hv
 rename_i ho
 cases hv;obtain⟨rfl,hn,hl⟩:=ho;cases hs with | @cons ea er _ _ ha sa t =>
 have st:=t.star;refine wpAny_Call_method_late (D4 hn _ _ _) (Q6 st (by first | (show 1<30;decide) | (show 2<30;decide))) hl rfl (Q2 (.cons ha sa t) hq I h fun F1 p1 b v s1 as ts rr l1 I1 r1 e1 e2 q kr=>?_);obtain⟨t1,q1,g1,g2,rfl⟩:=Us e1;cases t1<;>first | (rcases q1 with _ | ⟨_,_ | ⟨_,_⟩⟩<;>cases e2;done) | skip
 rename_i ts
 obtain⟨a0,us,mm,rfl,z,ho,r⟩:=Jd (I1.look g1 r1);refine⟨"list","list.index",PySem.F.plainAttrs_list,PySem.F.slot_list_index,PySem.F.type_list_index,⟨_,ho,rfl⟩,fun a e=>by cases e;exact⟨_,ho,rfl⟩, ?_⟩
 have main:WP X (spliced (backTo cp (starEach (_::_) X.env))) (fun us s2=>WP X (call (.builtin "list.index") (.ref a0::us)) (EP X F l Q) s2) s1:=Yx st (C4 t I1 kr fun F2 us s2 l2 I2 ar=>by
  match q1,us,I2.looks ar g2,e2 with
  | h1::_::_,_,_,e2=>cases h1<;>exact absurd (show (none:Option Sl)=some rr from e2) (fun z=>nomatch z)
  | [kt],[u],.cons s3 .nil,e2 =>
   cases kt<;>first | (cases e2;done) | skip
   rename_i n
   obtain⟨zs,e3,e4⟩:=ZP.mp (show (Dw ts).bind _=some rr from e2);obtain⟨j,e5,rfl⟩:=Y8.mp e4;exact Zzx (I2.look g1 (r1.up l2)) s3 e3 e5 (I2.ok' (l1.trans l2) q))
 rw[Z4 (st _ Yd)]at main ⊢;exact Calls.callWith_builtin rfl (Calls.evalArgs_plain main)
theorem ug(c:Ct X w k N sc)(hc:X.calm=true){x:Expr}{xs:ZM}(hv:Ib sc x=some xs)(hs:Hs X w true es xs):SE w (.pr .lset es) X x:=fun F p j s Q I h=>by
 replace hv:=vj hv
 obtain⟨f,qq,g,qq',a,pp',pp,rfl,hv⟩:=hv
 split at hv
 rotate_left
 .cases hv
 rename_i ho
 cases hv;obtain⟨rfl,g1,rfl,g2⟩:=ho;obtain⟨gg1,gd1⟩:=c.gl' g1;obtain⟨gg2,gd2⟩:=c.gl' g2;have st:=hs.star;refine wpAny_Call_Name_kw (Dj I gg1 (c.bn.b _ (by decide +kernel)) (by decide +kernel:bootBuiltins "len" = some (.builtin "len")) gd1 (by decide) (callWith_builtin1 (Yx (fun e m=>by cases V8.mp m;rfl) ?_) rfl rfl));show WP X (eval (.Call (.Name "set" qq') [a] [] pp') X.env) (fun v s1=>WP X (call (.builtin "len") [v]) (EP X F j Q) s1) s;refine wpAny_Call_Name_kw (Dj I gg2 (c.bn.b _ (by decide +kernel)) (by decide +kernel:bootBuiltins "set" = some (.type "set")) gd2 (by decide) (callWith_type1 (Yx st (Li hs I h fun F1 p1 ts us s1 rr l I1 se e q=>?_)) (Z4 (st _ Yd)) rfl));have e:kc ts=some rr:=e;unfold kc at e
 split at e
 rotate_left
 .cases e
 obtain⟨ss,e1,e2⟩:=ZP.mp e
 split at e2
 rotate_left
 .cases e2
 rename_i hz
 cases e2;obtain⟨u,rfl,Qy⟩:=T4 se;refine uz (I1.ok.hd hc) Qy e1 hz fun h' tk a es kp S el=>?_;refine Hn (s:={ s1 with heap:=h',toks:=tk }) S el fun t tk'=>?_;exact⟨F1,p1,.f (.int (SRT.j0 ss).length),l,(I1.kept (t:=tk') kp),Top.int,q⟩
theorem uw(c:Ct X w k N sc)(hc:X.calm=true){x:Expr}{xs:ZM}(hv:Iw sc x=some xs)(hs:Hs X w true es xs):SE w (.pr .srtF es) X x:=fun F p j s Q I h=>by
 obtain⟨p0,a,q0,kp,pos,rfl,g1,g2,rfl⟩:=w9 hv;rw[Vi]at g2;obtain⟨gg1,gd1⟩:=c.gl' g1;obtain⟨gg2,gd2⟩:=c.gl' g2.1;have st:=hs.star;have kf:=c.bn.k g2.2;refine wpAny_Call_Name_kw (Dj I gg1 (c.bn.b _ (by decide +kernel)) (by decide +kernel:bootBuiltins "sorted" = some (.builtin "sorted")) gd1 (by decide) (callWith_kw (Yx st (Li hs I h fun F1 p1 ts us s1 rr l I1 se e q=>?_)) (by rw[Z4 (st _ Yd)];rfl) (by rw[Z4 (st _ Yd)];rfl)));have e:km ts=some rr:=e;unfold km at e
 split at e
 rotate_left
 .cases e
 obtain⟨T6,e1,e2⟩:=ZP.mp e
 split at e2
 rotate_left
 .cases e2
 rename_i hz
 cases e2;obtain⟨u,rfl,Qy⟩:=T4 se;have rn:=I1.rn c hc;obtain⟨f,hm,run⟩:=v5 (R:=EP X F j Q) (E:=X.xe) kf (by have:=(c.room hc).dp;show X.A.depth<_;omega) rn.hn I1.ok.mod.kin I1.ok.mod.nolimit (fun b o e=>I1.le b o (I1.ok.b b o e)) rn.fF rn.nL Qy e1 hz.1 hz.2 (I1.ok' l q);exact wpAny_evalAll_cons (Zq (J0 I1 gg2 hm gd2 (Zq (wpAny_standAt (Zt (wpAny_evalAll_nil run))))))
theorem Iu{g:Str}{ts:ZZ}{r:Sl}(h:ao g ts=some r\/aa g ts=some r):∃z t XY,ts=[.str z]/\z9 g z=some t/\Rq g=some XY/\Zv XY (.inr z)=some t:=by
 rcases h with h | h
 .unfold ao at h
  split at h
  .obtain⟨t,e,_⟩:=Y8.mp h;obtain⟨XY,e1,e2⟩:=Ip e;exact⟨_,t,XY,rfl,e,e1,e2⟩
  .cases h
 .unfold aa at h
  split at h
  .obtain⟨t,e,_⟩:=Y8.mp h;obtain⟨XY,e1,e2⟩:=Ip e;exact⟨_,t,XY,rfl,e,e1,e2⟩
  .cases h
theorem vp(c:Ct X w k N sc){g:Str}{a:Expr}{q0:Pos}(g1:Gi sc g=true){f:ZQ}(hs:Hs X w true es [a]){F:OM}{p:P}{j:Vs}{s:Shared}{Q:Sl->P->Prop}(I:Inv X F p j s)(h:wE w (.pr (.tin g) es) p Q)(kk:∀F1 p1 s1,Le F F1->Inv X F1 p1 j s1->Q (.f (.bl true)) p1->f (.bool true) s1) :
  WP X (eval a X.env) (fun v s1=>WP X (eval (.Name g q0) X.env) (fun u s2=>WP X (compareOp .In v u) f s2) s1) s :=
 go1 hs I h fun F1 p1 t u s1 r l I1 se e q=>by
  obtain⟨gg1,gd1⟩:=c.gl' g1;obtain⟨z,t',XY,ez,e1,e2,e3⟩:=Iu (.inl (show ao g [t]=some r from e));cases ez
  have er:r=.f (.bl true):=by
   have e:(z9 g z).map (fun _=>Sl.f (.bl true))=some r:=e;rw[e1]at e;exact(M7 e).symm
  subst er;obtain⟨m,hm,sd⟩:=Fu c e2 I1;exact J0 I1 gg1 hm gd1 ((He c.un I1.fh se sd (show Kq (.str z) (.dct XY)=some true by show some (Zv XY (.inr z)).isSome=_;rw[e3];rfl)).1 fun tk=>kk F1 p1 _ l (I1.tok tk) q)
theorem se_tin(c:Ct X w k N sc){g:Str}{x:Expr}{xs:ZM}(hv:w7 sc g x=some xs)(hs:Hs X w true es xs):SE w (.pr (.tin g) es) X x:=fun F p j s Q I h=>by
 obtain⟨a,q0,p0,rfl,hm,g1,rfl⟩:=Ij hv;exact wpAny_Compare1 (vp c g1 hs I h fun F1 p1 s1 l I1 q=>⟨F1,p1,.f (.bl true),l,I1,Top.bl,q⟩) hm
theorem st_tin(c:Ct X w k N sc){g:Str}{x:Expr}{xs:ZM}{wh:Sem Value}(hv:w7 sc g x=some xs)(hs:Hs X w true es xs):ST w (.pr (.tin g) es) X x wh:=fun F p j s Q I h=>by
 obtain⟨a,q0,p0,rfl,hm,g1,rfl⟩:=Ij hv;exact wpAny_isTrue_Compare1 (vp c g1 hs I h fun F1 p1 s1 l I1 q=>wpAny_truthy_bool ⟨F1,p1,l,I1,q⟩) hm
theorem se_tix(c:Ct X w k N sc){g:Str}{x:Expr}{xs:ZM}(hv:rl sc g x=some xs)(hs:Hs X w true es xs)(hne:(Rq g).isSome=true):SE w (.pr (.tix g) es) X x:=fun F p j s Q I h=>by
 obtain⟨q0,b,p0,rfl,g1,hn,rfl⟩:=rd hv;obtain⟨gg1,gd1⟩:=c.gl' g1;obtain⟨XY,e2⟩:=Option.isSome_iff_exists.mp hne;obtain⟨m,hm,_⟩:=Fu c e2 I;refine Subscript_ (J0 I gg1 hm gd1 (go1 hs I h fun F1 p1 t u s1 r l I1 se e q=>?_));obtain⟨z,t',Zp,ez,e1,e2',e3⟩:=Iu (.inr (show aa g [t]=some r from e));cases ez;rw[e2]at e2';cases e2'
 have er:r=.f t':=by
  have e:(z9 g z).map Sl.f=some r:=e;rw[e1]at e;exact(M7 e).symm
 subst er;obtain⟨m',hm',sd⟩:=Fu c e2 I1;rw[hm]at hm';cases hm';exact bu I1.fh sd se (show Bt (.dct XY) (.str z)=some t' from e3) (I1.ok' l q) (O7 hn _ _)
theorem um(c:Ct X w k N sc)(hc:X.calm=true){x:Expr}{xs:ZM}(hv:Il x=some xs)(hs:Hs X w true es xs):SE w (.pr .dnew es) X x:=fun F p j s Q I h=>by
 replace hv:=vg hv
 obtain⟨p0,rfl,hv⟩:=hv;cases hv;cases hs;have h:Q (.o (.dct [])) p:=h;exact wpAny_Dict_empty (I.ep (tk:=s.toks) (.dctN (vs:=[]) (fun _ _ e=>Ya _ e) (Heap.get?_none_of_le (D5 _)) (Heap.DictOf.new s.heap) (Cb _) (Hx (I.rn c hc).big) .nil) h)
theorem ud(c:Ct X w k N sc)(hc:X.calm=true){x:Expr}{xs:ZM}(hv:Ir x=some xs)(hsA:∀fp h,Ct (X.pin fp h) w k N sc->Hs (X.pin fp h) w true es xs):SE w (.pr .dct1 es) X x:=fun F p j s Q I h=>by
 replace hv:=vf hv
 obtain⟨k0,v0,pp,rfl,hv⟩:=hv;cases hv;have nD:s.heap.get? s.heap.objs.size=none:=Heap.get?_none_of_le (D5 _);have big:=(I.rn c hc).big;have dd:(s.heap.push { cls:=.type "dict",data:=.dict #[] }).DictOf (Zf X.prog X.w) s.heap.objs.size []:=Heap.DictOf.new s.heap;have I1:Inv X F p j { s with heap:=s.heap.push { cls:=.type "dict",data:=.dict #[] } }:=I.kept (t:=s.toks) fun _ _ e=>Ya _ e;generalize hD:s.heap.objs.size=D at *;have f1:∀b∈[D],Fp X F p j b:=fun b m=>by cases V8.mp m;exact I.isFp nD
 have eD:(s.heap.push { cls:=.type "dict",data:=.dict #[] }).get? D=some { cls:=.type "dict",data:=.dict #[] }:=by rw[<-hD];exact Gh _ rfl
 have ho:∀b∈[D],∃o,(s.heap.push { cls:=.type "dict",data:=.dict #[] }).get? b=some o:=fun b m=>by cases V8.mp m;exact⟨_,eD⟩
 have nk:∀b∈[D],¬ X.kp b:=fun b m=>(f1 b m).k;have I2:=I1.pin f1 ho;have cp:=c.pin I.ok nk ho;refine wpAny_Dict_walk (knd:=Zf X.prog X.w) rfl rfl (fun z=>nomatch z) (by show 1<=15;decide) (pairTrees_cons_walk ?_);refine go2 (X:=X.pin [D] (s.heap.push { cls:=.type "dict",data:=.dict #[] })) (hsA _ _ cp) I2 h fun F1 p1 t t' u v s1 r l J1 Qy Ki e q=>pairTrees_nil_walk ?_;obtain⟨I3,f3,k3⟩:=J1.unpin I.ok nk ho;have e:(if C5 t'=true then none else (Ma t).map fun k=>Sl.o (.dct [(k,t')]))=some r:=e
 split at e
 .cases e
 rename_i hct
 obtain⟨key,e1,rfl⟩:=Y8.mp e;have e3:=k3 D (V8.mpr rfl) _ eD;refine⟨[(key,v)],⟨key_is e1 Qy,rfl,trivial⟩,by rw[hD];exact⟨_,_,_,e3,⟨rfl,rfl,rfl⟩,rfl,fun e he=>absurd he (by simp),.nil,List.nodup_nil⟩,fun h' dd' hs=>?_⟩;rw[hD]at dd' hs ⊢;obtain⟨o,Bc,ep,g1,g2,g3,g4,g5,g6⟩:=dd';have it:IsT X.toMd F1 t' v:=Bo (by simpa using hct) Ki;have fD:=f3 D (V8.mpr rfl);have I4:=I3.turned (fp:=[D]) (h':=h') (tk:=s1.toks+1) f3 (fun b o n e=>(hs.2 b (by simpa using n)).trans e);exact⟨F1,p1,.o (.dct [(key,t')]),l,I4,⟨D,rfl,⟨rfl,fD.n,fD.k,.mkD g1 ⟨g2,⟨Bc,ep,g3,g4,g5⟩,g6,by show 1<=sizeLine;decide,B0n.mpr (Ne.symm (C8 big))⟩ (.cons ⟨rfl,it⟩ .nil)⟩,fD.o⟩,q⟩
end
end PV
namespace HT
open PySem PySem.Spec PyProof.Rows
section
variable{prog:Program}{w:World}{A:Around}{E:ZQ}{s:Shared}
theorem Bh{sl:Addr}{n:Nat}{u:Tok}{Q:Int×Int×Nat->Shared->Prop}(hs:s.heap.IsSliceOf sl .none .none (.int (-1) u))
  (h:Q ((n:Int) - 1, -1,n) s):wpAny (model prog w) A (Builtin.Slice.sliceApplied (.ref sl) (pure (n:Int))) Q E s:=by
 obtain⟨os,qd,hcs,rx⟩:=id hs;unfold Builtin.Slice.sliceApplied Builtin.Slice.sliceFields;refine Zq (Zq (wpAny_field qd rx (x:=.none) rfl (Zq (wpAny_field qd rx (x:=.none) rfl (Zq (wpAny_field qd rx (x:=.int (-1) u) rfl (Zt ?_)))))));refine Zq (slicePart_int ?_);show wpAny _ _ (if ((-1:Int) == 0)=true then _ else _) _ _ s;rw[if_neg (by decide)];refine Zq (slicePart_none (Zq (slicePart_none (Zq (Zt ?_)))))
 have e:Builtin.Slice.slicePlaces ((n:Int) - 1) (-1) (-1)=n:=by
  unfold Builtin.Slice.slicePlaces;rw[if_neg (by decide)];by_cases hn:n=0
  .subst hn;decide
  .rw[if_pos (by omega)];have q:((n:Int) - 1 - -1 - 1) / - -1=(n:Int) - 1:=by rw[show (- -1:Int)=1 from rfl,Int.ediv_one];omega
   rw[q];omega
 show wpAny _ _ (pure ((n:Int) - 1,(-1:Int),Builtin.Slice.slicePlaces ((n:Int) - 1) (-1) (-1))) _ _ s;rw[e];exact Zt h
theorem O8(xs:ZD):((List.range xs.size).filterMap fun(m:Nat)=>xs[(((xs.size:Int) - 1)+(m:Int) * (-1)).toNat]?)=xs.toList.reverse:=by
 apply List.ext_getElem?
 intro i
 have e:(List.range xs.size).filterMap (fun(m:Nat)=>xs[(((xs.size:Int) - 1)+(m:Int) * (-1)).toNat]?)=(List.range xs.size).map (fun m=>xs.toList.getD (xs.size - 1 - m) .none):=by
  have go:∀l:List Nat,(∀m∈l,m<xs.size)->l.filterMap (fun(m:Nat)=>xs[(((xs.size:Int) - 1)+(m:Int) * (-1)).toNat]?)=l.map (fun m=>xs.toList.getD (xs.size - 1 - m) .none):=by
   intro l
   induction l with
   | nil=>intro _;rfl
   | cons m l ih =>
    intro h;have hm':=h m Yd;have q:(((xs.size:Int) - 1)+(m:Int) * (-1)).toNat=xs.size - 1 - m:=by omega
    have hl:xs.size - 1 - m<xs.size:=by omega
    have q2:xs[(((xs.size:Int) - 1)+(m:Int) * (-1)).toNat]?=some (xs.toList.getD (xs.size - 1 - m) .none):=by rw[q];simp[hl]
    rw[List.filterMap_cons,q2,P8,ih fun k hk=>h k (Vq _ hk)]
  exact go _ fun m hm=>List.mem_range.mp hm
 rw[e];by_cases hi:i<xs.size
 .rw[G0m,List.getElem?_range hi,List.getElem?_reverse (by simpa using hi)];have hl:xs.size - 1 - i<xs.size:=by omega
  simp[hl]
 .rw[List.getElem?_eq_none (by simp;omega),List.getElem?_eq_none (by simp;omega)]
theorem Nt{t sl:Addr}{items:ZD}{u:Tok}{Q:ZQ}(ht:IsTup s.heap t items)(hs:s.heap.IsSliceOf sl .none .none (.int (-1) u))(hsz:items.size<=sizeLine)
  (h:Q (.ref s.heap.objs.size) { s with heap:=s.heap.push { cls:=.type "tuple",data:=.seq items.toList.reverse.toArray } }):wpAny (model prog w) A (getItem (.ref t) (.ref sl)) Q E s:=by
 obtain⟨os,qd,hcs,rx⟩:=id hs;have hTs:s.TypeIs (.ref sl) "slice" := ⟨os,qd,hcs⟩
 have Nf:sizeOk (.seq items.toList.reverse.toArray):=by
  show items.toList.reverse.toArray.size<=sizeLine;rw[Jv,List.length_reverse,Lh];exact hsz
 unfold getItem
 try with_reducible refine wpAny_holding ?_
 first | refine Zq (Zt ?_) | skip
 refine Zq (wpAny_sequenceKey ht.typeIs (by decide) ?_)
 refine Zq (wpAny_callSpecial?_slot (name:=Str.ofString "__getitem__") ht.typeIs slot_tuple_getitem
  (wpAny_call_entry slot_tuple_getitem ht.typeIs entry_tuple_getitem ?_ (args_tuple_getitem _ _)))
 show wpAny _ _ (Builtin.Tuple.tupleItemsOf (.ref t) >>= _) _ _ s;refine Zq (tupleItemsOf_ ht ?_);refine Zq (wpAny_typeOf hTs ?_);rw[if_pos (by decide)];refine Zq (Bh hs ?_);have hno:¬ ((((items.size:Int) - 1) == 0 && (-1:Int) == 1 && items.size == items.size)=true):=by simp
 show wpAny _ _ (if (((items.size:Int) - 1) == 0 && (-1:Int) == 1 && items.size == items.size)=true then _ else _) _ _ s;rw[if_neg hno,O8]
 first
  | exact Zq (m:=Builtin.Tuple.tupleExact _) (wpAny_newObj_type (Zt ⟨_,rfl,Zt h⟩) Nf)
  | exact Zq (m:=Builtin.Tuple.tupleExact _) (wpAny_newObj_type (Zq (Zt (Zt ⟨_,rfl,Zt h⟩))) Nf)
  | exact Zq (Zq (m:=Builtin.Tuple.tupleExact _) (wpAny_newObj_type (Zt (Zt ⟨_,rfl,Zt h⟩)) Nf))
  | exact Zq (Zq (m:=Builtin.Tuple.tupleExact _) (wpAny_newObj_type (Zt ⟨_,rfl,Zt h⟩) Nf))
end
theorem W3(us:ZK):slicePick us.toArray none none (some (-1))=us.reverse.toArray:=by
 have p:=O8 us.toArray
 have b:sliceBounds none none (some (-1)) us.toArray.size=((us.toArray.size:Int) - 1, -1, -1):=by
  simp[sliceBounds]
 unfold slicePick;rw[b]
 congr 1
 have r:sliceRange ((us.toArray.size:Int) - 1) (-1) (-1)=(List.range us.toArray.size).map fun(m:Nat)=>(((us.toArray.size:Int) - 1)+(m:Int) * (-1)).toNat:=by
  unfold sliceRange;rw[if_neg (by decide)];by_cases h:us.toArray.size=0
  .rw[h];decide
  .rw[if_pos (by omega)];have e:(((us.toArray.size:Int) - 1 - -1 - -1 - 1) / - -1).toNat=us.toArray.size:=by rw[show (- -1:Int)=1 from rfl,Int.ediv_one];omega
   show (List.range (((us.toArray.size:Int) - 1 - -1 - -1 - 1) / - -1).toNat).map _=_;rw[e];refine List.map_congr_left fun m _=>?_
   congr 1;omega
 show (sliceRange ((us.toArray.size:Int) - 1) (-1) (-1)).filterMap _=_;rw[r,List.filterMap_map];exact p
end HT
namespace PV
open PySem PySem.Spec PyProof.Rows L2
theorem K5{j l:Type}{R:j->l->Prop}:∀{as:List j} {bs:List l},Paired R as bs->Paired R as.reverse bs.reverse
 | _,_,.nil=>.nil
 | _,_,.cons r t=>by rw[List.reverse_cons,List.reverse_cons];exact Ji (K5 t) (.cons r .nil)
section
variable{X:Cx}{w:W}{es:E}
theorem uq{x:Expr}{xs:ZM}(hv:Iq x=some xs)(hs:Hs X w true es xs):SE w (.pr .tup1 es) X x:=fun F p V s Q I h=>by
 obtain⟨a,j,pos,rfl,rfl⟩:=w6 hv;refine wpAny_Tuple_spliced (Yx hs.star ?_);refine(show Ba X [a] _ s from go1 hs I h fun F1 p1 t u s1 r l I1 se e q=>?_);have e:(if C5 t=true then none else some (Sl.f (.tup [t])))=some r:=e
 split at e
 .cases e
 rename_i hc
 cases e;exact⟨by show 1<=sizeLine;decide,(I1.ep (tk:=s1.toks) (.tup I1.fh (.cons (Bo (by simpa using hc) se) .nil) (by show 1<=sizeLine;decide)) q).le l⟩
theorem u9{F F1:OM}{p1:P}{V:Vs}{s1:Shared}{Q:Sl->P->Prop}{t:T}{v:Value}{r:Sl}{a:Expr}{j tk:Nat}{t0:Tok}{q1 q2 q3:Pos}(l:Le F F1)(I:Inv X F1 p1 V s1)(se:Vp X.toMd F1 s1.heap t v)(e:pRev [t]=some r)(q:Q r p1) :
  WP X (subscriptTail a (.Slice none none (some (.UnaryOp .USub (.Constant (.int 1) j q1) q2)) q3) v (.ref s1.heap.objs.size)) (EP X F V Q) { s1 with heap:=s1.heap.push { cls:=.type "slice",data:=.fields #[.none,.none,.int (-1) t0] },toks:=tk }:=by
 have I4:Inv X F1 p1 V { s1 with heap:=s1.heap.push { cls:=.type "slice",data:=.fields #[.none,.none,.int (-1) t0] },toks:=tk }:=I.kept (t:=tk) fun b ob q=>Ya _ q
 have se4:Vp X.toMd F1 (s1.heap.push { cls:=.type "slice",data:=.fields #[.none,.none,.int (-1) t0] }) t v:=by
  unfold Vp at *;cases hc:C5 t with
  | true =>
   rw[hc]at se;obtain⟨a,o,rfl,_⟩:=se.at hc;exact se.to (D':=(s1.heap.push _).get?) hc fun o e=>Ya _ e
  | false=>rw[hc]at se;exact se
 cases t<;>first | (cases e;done) | skip
 .rename_i ts
  cases e;obtain⟨p,us,rfl,hz,tp,ar⟩:=V3 I4.fh se4;refine tail_any (ops:=[.ref p,.ref s1.heap.objs.size]) tp.typeIs slot_tuple_getitem.lookup (HT.Nt tp (Heap.IsSliceOf.new ..) (by rw[Jv];exact hz) ?_) (by with_unfolding_all rfl);exact I4.ok' l q _ _ _ (.tup I4.fh (K5 ar) (by rw[List.length_reverse];exact hz))
 .rename_i ts
  cases e;obtain⟨p,us,m,rfl,hz,ho,ar⟩:=Jd (s:={ s1 with heap:=s1.heap.push { cls:=.type "slice",data:=.fields #[.none,.none,.int (-1) t0] },toks:=tk }) se4;have hl:Heap.IsList (s1.heap.push { cls:=.type "slice",data:=.fields #[.none,.none,.int (-1) t0] }) p us.toArray:=⟨_,ho,rfl,⟨m,rfl⟩⟩;refine tail_any (ops:=[.ref p,.ref s1.heap.objs.size]) hl.typeIs slot_list_getitem.lookup (wpAny_getItem_list_slice hl (Heap.IsSliceOf.new ..) .none .none (.int (-1) t0) (by decide) ?_ (by rw[Jv];exact hz)) (by with_unfolding_all rfl);rw[HT.W3];exact I4.ok' l q _ _ _ (.lst (K5 ar) (by rw[List.length_reverse];exact hz))
theorem se_rev{x:Expr}{xs:ZM}(hv:ra x=some xs)(hs:Hs X w true es xs):SE w (.pr .rev es) X x:=fun F p V s Q I h=>by
 obtain⟨a,j,p1,p2,p3,p4,rfl,rfl⟩:=rh hv;refine Subscript_ (go1 hs I h fun F1 q1 t v s1 r l I1 se e q=>wpAny_Slice ?_);rw[evalPart_none];refine Zt (Zt ?_);rw[evalPart_some];exact UnaryOp_ (wpAny_Constant_int (neg_int (u9 l (I1.tok _) se e q)))
end
section
variable{X:Cx}{w:W}{k:Nat}{N:ZG}{sc:ZW}{es:E}{a:E}{x:Expr}
theorem se_mt{i:Nat}{y:Str}{p0 ap cp:Pos}(n:Nm X i y)(hs:Hs X w false es [x])(ni:Vd es=true)(hl:(ap.endLine == cp.line)=true):SE w (.mt .append i es) X (.Call (.Attribute (.Name y p0) "append" ap) [x] [] cp):=fun F p j s Q I h=>by
 have h:if ownL p i=true then wR w false es p fun as p1=>on (looks p1 as) fun ts=>match p1[i]? with
   | some (.o t)=>on (mtT .append t ts) fun r=>Q (.f r.2) (p1.set i (.o r.1))
   | _=>False
  else False:=h
 split at h
 rotate_left
 .exact h.elim
 rename_i ho
 obtain⟨b,hb,us0,m0,ho0⟩:∃b:Addr,j[i]?=some (some (.ref b))/\∃us m,s.heap.get? b=some { cls:=.type "list",data:=.seq us m }:=by
  unfold ownL at ho
  split at ho
  .rename_i l q
   obtain⟨b,h1,w1⟩:=I.r.ow i _ q;obtain⟨_,o,us,e,e2,⟨_,m,rfl⟩,_⟩:=w1.t.unL;cases e;exact⟨b,h1,_,m,e2⟩
  .cases ho
 have st:=hs.star;refine wpAny_Call_method_late (D4 rfl _ _ _) (Q6 st (by show 1<30;decide)) hl rfl (Th n I hb ⟨"list","list.append",PySem.F.plainAttrs_list,PySem.F.slot_list_append,PySem.F.type_list_append,⟨_,ho0,rfl⟩,fun a e=>by cases e;exact⟨_,ho0,rfl⟩, ?_⟩)
 have main:WP X (spliced (backTo cp (starEach [x] X.env))) (fun us s2=>WP X (call (.builtin "list.append") (.ref b::us)) (EP X F j Q) s2) s:=Yx st (evs hs I h fun F1 p1 as us s1 l I1 ar nt q=>by
  obtain⟨ts,e,q⟩:=Zi q
  split at q
  rotate_left
  .exact q.elim
  rename_i t et
  obtain⟨r,e2,q⟩:=Zi q;have at':=Bb (nt rfl ni) ar e;unfold mtT at e2
  split at e2
  rotate_left
  .cases e2
  rename_i l' x'
  split at e2
  rotate_left
  .cases e2
  rename_i hz
  cases e2;obtain⟨u,rfl,it⟩:=T4 at';obtain⟨b',h1,w1⟩:=I1.r.ow i _ et;rw[hb]at h1;cases h1;obtain⟨_,o,vs,e3,e4,⟨z,m,rfl⟩,r⟩:=w1.t.unL;cases e3;refine Wr e4 (by rw[<-r.length];exact hz) fun h' m' kp e5=>?_;exact⟨F1,_,.f .non,l,I1.mut (tk:=s1.toks) et hb (fun b o ne e=>(kp b ne).trans e) rfl (.mkL e5 ⟨by rw[Gc, <-r.length];exact hz,m',rfl⟩ (Ji r (.cons it .nil))),Top.non,q⟩)
 rw[Z4 (st _ Yd)]at main ⊢;exact Calls.callWith_builtin rfl (Calls.evalArgs_plain main)
theorem Sj:∀{ts:ZZ} {i:Nat} (h:i<ts.length),gc ts=true->oy ts[i]=true
 | t::r,0,_,e=>(zh.mp (show (oy t && gc r)=true from e)).1
 | t::r,i+1,h,e=>Sj (Nat.lt_of_succ_lt_succ h) (zh.mp (show (oy t && gc r)=true from e)).2
theorem Top.pure{g:Md}{F F' D:OM}{t:T}{v:Value}(hk:∀a o us,F a=some o->Cg o us->F' a=some o)(h:Top g F D t v)(hD:D=F)(n:oy t=true):IsT g F' t v:=by
 induction h with
 | non=>exact .non
 | bl=>exact .bl
 | int=>exact .int
 | str=>exact .str
 | tup h k l e ih=>subst hD;exact .tup (hk _ _ _ h k) k l fun i hi=>ih i hi rfl (Sj hi n)
 | _=>cases n
theorem Yz.pure{g:Md}{F F':OM}{XY:ZX}{vs:List (Key×Value)}(hk:∀a o us,F a=some o->Cg o us->F' a=some o)(n:∀z∈XY,oy z.2=true)(r:Yz g F XY vs):Yz g F' XY vs:=by
 induction r with
 | nil=>exact .nil
 | cons h1 _ ih=>exact .cons ⟨h1.1,Top.pure hk h1.2 rfl (n _ Yd)⟩ (ih fun z m=>n z (Vq _ m))
open Classical in
noncomputable def xu(F:OM)(p:P)(j:Vs)(h:Heap):OM:=fun a=>if ∃(i:Nat) (t:T),p[i]?=some (Sl.o t)/\j[i]?=some (some (.ref a)) then h.get? a else F a
open Classical in
noncomputable def Tu(F:OM)(p:P)(j:Vs):OM:=fun a=>if ∃(i:Nat) (t:T),p[i]?=some (Sl.o t)/\j[i]?=some (some (.ref a)) then none else F a
theorem Q5{p:P}{i:Nat}{s:Sl}(h:(frz p)[i]?=some s):∃s',p[i]?=some s'/\s=frs s':=by
 unfold frz at h;rw[G0m]at h;obtain⟨s',e,rfl⟩:=Y8.mp h;exact⟨s',e,rfl⟩
theorem yg(h:SE w a X x):SE w (.tmp a) X x:=fun F p l s Q I hw=>by
 have hw:wE w a (frz p) fun r _=>on (sj r) fun r=>Q r p:=hw
 have own:∀{i:Nat} {t:T} {b:Addr},p[i]?=some (Sl.o t)->l[i]?=some (some (.ref b))->C7 X F s.heap b t:=fun {i t b} e e2=>by
  obtain⟨c,h1,w1⟩:=I.r.ow i t e;rw[e2]at h1;cases h1;exact w1
 have fo:∀{i:Nat} {t:T} {b:Addr},p[i]?=some (Sl.o t)->l[i]?=some (some (.ref b))->xu F p l s.heap b=s.heap.get? b:=fun e e2=>if_pos ⟨_,_,e,e2⟩
 have l1:Le F (xu F p l s.heap):=fun b o e=>by
  unfold xu
  split
  .exact I.fh b o e
  .exact e
 have I1:Inv X (xu F p l s.heap) (frz p) l s:=by
  refine I.step rfl I.bare l1 (fun b o e=>?_) (fun _ _ _ _ e=>.same e) (fun _ hn=>hn) ⟨fun i t e=>?_,fun i t e=>?_,fun i j t u b e _ _ _=>?_,by unfold frz;rw[Za];exact I.r.ln⟩
  .unfold xu at e
   split at e
   .rename_i z
    obtain⟨i,t,z1,z2⟩:=z;exact⟨e,(own z1 z2).k⟩
   .exact I.f b o e
  .obtain⟨s',e1,e2⟩:=Q5 e;cases s' with
   | no=>cases e2
   | f u =>
    cases e2;obtain⟨v,h1,h2⟩:=I.r.fz i _ e1;exact⟨v,h1,h2.up l1⟩
   | o u =>
    cases e2;obtain⟨b,h1,w1⟩:=I.r.ow i _ e1;exact⟨_,h1,(w1.t.to (D':=xu F p l s.heap) w1.c fun o q=>(fo e1 h1).trans q).up l1 fun _ _ e=>e⟩
  .obtain⟨s',e1,e2⟩:=Q5 e;cases s'<;>cases e2
  .obtain⟨s',e1,e2⟩:=Q5 e;cases s'<;>cases e2
 refine Yo (h _ _ l s _ I1 hw) fun v s2 ⟨F2,p2,r,l2,I2,rs,q⟩=>?_;obtain⟨r',e,q⟩:=Zi q;have keep:∀{i:Nat} {t:T} {b:Addr} {o:Obj},p[i]?=some (Sl.o t)->l[i]?=some (some (.ref b))->s.heap.get? b=some o->F2 b=some o:=fun e1 e2 e3=>l2 _ _ ((fo e1 e2).trans e3)
 have l3:Le F (Tu F2 p l):=fun b o e=>by
  unfold Tu
  split
  .rename_i z
   obtain⟨i,t,z1,z2⟩:=z;rw[(own z1 z2).f]at e;cases e
  .exact l2 _ _ (l1 _ _ e)
 have I3:Inv X (Tu F2 p l) p l s2:=by
  refine⟨I2.ok,I2.os,I2.bare,I.le.trans l3,fun b o e=>?_,I2.g,I2.fr,I2.ns,I2.cell,I2.len,⟨fun i t e=>?_,fun i t e=>?_,I.r.ap,I.r.ln⟩,I2.pr⟩
  .unfold Tu at e
   split at e
   .cases e
   .exact I2.f b o e
  .obtain⟨v,h1,h2⟩:=I.r.fz i t e;exact⟨v,h1,h2.up l3⟩
  .obtain⟨b,h1,w1⟩:=I.r.ow i t e;exact⟨b,h1,w1.to l3 (if_pos ⟨i,t,e,h1⟩) fun o q=>I2.fh b o (keep e h1 q)⟩
 have hk:∀b o us,F2 b=some o->Cg o us->Tu F2 p l b=some o:=fun b o us e k=>by
  unfold Tu
  split
  .rename_i z
   obtain⟨i,t,z1,z2⟩:=z;have w1:=own z1 z2;obtain⟨o',e1⟩:=w1.at;have e2:=keep z1 z2 e1;rw[e]at e2;cases e2;have hc:=w1.c;have ht:=w1.t;cases t with
   | lst ts =>
    obtain⟨_,o',us',q1,q2,⟨_,m,rfl⟩,_⟩:=ht.unL;cases q1;rw[e1]at q2;cases q2;exact absurd k.c (by simp)
   | dct ts =>
    obtain⟨_,o',us',q1,q2,k',_⟩:=ht.unD;cases q1;rw[e1]at q2;cases q2;obtain⟨Bc,ep,d,_⟩:=k'.es;obtain⟨m,d'⟩:=k.s;rw[d]at d';cases d'
   | _=>cases hc
  .exact e
 unfold sj at e
 split at e
 .split at e
  .rename_i t n
   cases e;exact⟨_,p,.f t,l3,I3,Top.pure hk rs rfl n,q⟩
  .cases e
 .split at e
  .rename_i t XY
   split at e
   .rename_i n
    cases e;obtain⟨b,rfl,w1,nn⟩:=rs;obtain⟨_,o,vs,q1,q2,k',r⟩:=w1.t.unD;cases q1
    have f3:Tu F2 p l b=none:=by
     unfold Tu
     split
     .rfl
     .exact w1.f
    refine⟨_,p,.o (.dct XY),l3,I3,⟨b,rfl,⟨rfl,f3,w1.k,.mkD q2 k' ?_⟩,fun i u e1 e2=>?_⟩,q⟩
    .exact Yz.pure hk (n7.mp n) r
    .obtain⟨o',e3⟩:=(own e1 e2).at;have:=keep e1 e2 e3;rw[w1.f]at this;cases this
   .cases e
  .cases e
 .cases e
theorem Top.nb{g:Md}{F D:OM}{t:T}{v:Value}(h:Top g F D t v):∀i,v≠.builtin i:=fun i z=>by
 subst z;cases h
theorem ym(bn:BN X.toMd){f:Str}{o:Expr}{pos:Pos}(hn:Yn o=true)(hs:Hs X w true es [o])(ne:f ≠ ""):SE w (.pr (.fld f) es) X (.Attribute o f pos):=fun F p j s Q I h =>
 Zz2 (D4 hn _ _ _) (go1 hs I h fun F1 p1 t u s1 r l I1 se e0 q=>by
  have e:pFld f [t]=some r:=e0
  clear e0
  unfold pFld at e
  split at e
  rotate_left
  .cases e
  rename_i c t' et
  cases et
  split at e
  rotate_left
  .cases e
  rename_i hc
  cases e;have se:Top X.toMd F1 F1 (.exn c t') u:=se;cases se with | exn h1 h2 h3 =>
  obtain⟨C,hcl,hm⟩:=h2.cl;obtain⟨vs,hd,_⟩:=h2.fs;obtain⟨d,od,m,e1,e2,e3,e4⟩:=h2.dc
  obtain⟨D,C',fi,xf,ec,ef⟩:∃D C' fi,XF X.toMd D C' fi/\D.c=c/\D.fld=f:=by
   cases z:Mq.find? fun x=>decide (x.c=c) with
   | none =>
    exfalso
    unfold qa at hc;rw[z]at hc;exact ne hc.symm
   | some D =>
    obtain⟨C',fi,xf⟩:=bn.x D (List.mem_of_find?_eq_some z);have:=List.find?_some z;unfold qa at hc;rw[z]at hc;exact⟨D,C',fi,xf,T1 this,hc⟩
  subst ef;have xm:=xf.m;rw[ec,hm]at xm;cases xm;exact EX.get_at (xf.c.getOk I1.kIn xf.no) (I1.fh _ _ h1) hcl e1 hd (e3 _ (I1.fh _ _ e2)) (by rw[<-hc];exact e4) h3.nb ⟨F1,p1,.f t',l,I1.tok _,h3,q⟩)
end
section
variable{X:Cx}{w:W}{k:Nat}{N:ZG}{sc:ZW}{F F':OM}{p:P}{l:Vs}{s s':Shared}
theorem fld_of:∀d∈Mq,qa d.c=d.fld:=by decide
theorem Zzr{c:Str}(h:(Mq.any fun d=>decide (d.c=c))=true):∃d∈Mq,d.c=c:=let ⟨d,m,e⟩:=ZO.mp h;⟨d,m,T1 e⟩
theorem sp(cc:Ct X w k N sc)(hc:X.calm=true){c:Str}{a:E}{x:Expr}{q pos pos':Pos}(hg:Gi sc c=true)(hx:(Mq.any fun d=>decide (d.c=c))=true)(h:SE w a X x)(hs:noStar x=true):SS w (.rais c a) X (.Raise (some (.Call (.Name c q) [x] [] pos)) none pos'):=fun F p l s D I hw=>by
 obtain⟨d,md,rfl⟩:=Zzr hx;obtain⟨C,fi,xf⟩:=cc.bn.x d md;obtain⟨gg,gd⟩:=cc.gl' hg;rw[arm_exec_Raise];refine Zq (wpAny_standAt (EX.y3 (I.ok.hd hc) (Zq (wpAny_Call_Name_kw (J0 I gg xf.m gd ?_)))));have st:∀y∈[x],noStar y=true:=fun y m=>by cases V8.mp m;exact hs
 refine PySem.W.callWith_K (h₀:=X.base) I.ok.mod.kin xf.kp (Yx st ?_) (Z4 hs) rfl;refine(show Ba X [x] _ s from Yo (h F p l s _ I hw) fun v s1 z=>?_);obtain⟨F1,p1,t,l1,I1,it,z⟩:=EP.t (K:=fun t q=>w.xe (d.c,t) q) z;refine⟨I1.kIn,o4 xf (fld_of d md) I1 (by have:=(cc.room hc).dp;omega) it fun F2 s2 e o vs l2 I2 x2 he hcl hd hv=>Zq (wpAny_standAt (Zt ?_))⟩;exact⟨e,C,o,vs,rfl,he,hcl,hd,hv,PySem.W.looks_mroIn I2.kIn xf.c.be,PySem.W.looks_typeIn I2.kIn xf.c.ty,cc.xe F2 p1 l s2 e d.c t I2 x2 z⟩
noncomputable def Cx.tr(X:Cx)(F:OM)(E:ZQ):Cx:={ X with F0:=F,xe:=E }
noncomputable def Cx.ec(X:Cx)(e:Addr):Cx:={ X with A:=X.A.mark (some (.ref e)),calm:=false,xe:=fun _ _=>False }
theorem Inv.toTr{E:ZQ}(I:Inv X F p l s):Inv (X.tr F E) F p l s :=
 ⟨⟨I.ok.mod,I.ok.kind,I.ok.gl,I.ok.bl,I.ok.ab,I.ok.inj,I.ok.has,I.ok.hd,I.ok.frames,I.ok.stk,fun a o e=>I.le a o (I.ok.b a o e),I.ok.fg,I.ok.gm,I.ok.cg⟩,I.os,I.bare,.refl F,I.f,I.g,I.fr,I.ns,I.cell,I.len,⟨I.r.fz,fun i t e=>let ⟨a,h,w⟩:=I.r.ow i t e;⟨a,h,w.c,w.f,w.k,w.t⟩,I.r.ap,I.r.ln⟩,I.pr⟩
theorem Inv.ofTr{E:ZQ}(ok:X.Ok)(l0:Le X.F0 F)(J:Inv (X.tr F E) F' p l s):Inv X F' p l s :=
 ⟨ok,J.os,J.bare,l0.trans J.le,J.f,J.g,J.fr,J.ns,J.cell,J.len,⟨J.r.fz,fun i t e=>let ⟨a,h,w⟩:=J.r.ow i t e;⟨a,h,w.c,w.f,w.k,w.t⟩,J.r.ap,J.r.ln⟩,J.pr⟩
theorem Inv.toEc{e:Addr}(I:Inv X F p l s):Inv (X.ec e) F p l s :=
 ⟨⟨I.ok.mod,I.ok.kind,I.ok.gl,I.ok.bl,I.ok.ab,I.ok.inj,I.ok.has,(fun z=>nomatch z),I.ok.frames,I.ok.stk,I.ok.b,I.ok.fg,I.ok.gm,I.ok.cg⟩,I.os,I.bare,I.le,I.f,I.g,I.fr,I.ns,I.cell,I.len,⟨I.r.fz,fun i t e=>let ⟨a,h,w⟩:=I.r.ow i t e;⟨a,h,w.c,w.f,w.k,w.t⟩,I.r.ap,I.r.ln⟩,I.pr⟩
theorem Inv.ofEc{e:Addr}(ok:X.Ok)(I:Inv (X.ec e) F p l s):Inv X F p l s :=
 ⟨ok,I.os,I.bare,I.le,I.f,I.g,I.fr,I.ns,I.cell,I.len,⟨I.r.fz,fun i t e=>let ⟨a,h,w⟩:=I.r.ow i t e;⟨a,h,w.c,w.f,w.k,w.t⟩,I.r.ap,I.r.ln⟩,I.pr⟩
theorem Ct.tr{E:ZQ}{w':W}(c:Ct X w k N sc)(e1:w'.C=w.C)(e2:w'.gl=w.gl)(hx:jh (X.tr F E) w'):Ct (X.tr F E) w' k N sc :=
 ⟨c.nN,c.nd,c.nm,c.room,c.un,c.gd,c.bn,by rw[e1];exact c.fn,by rw[e2];exact c.gl,hx,c.cl,c.calm⟩
theorem Zzv{M:Model}{A:Around}{E:ZQ}{i:Nat}{n:Str}{pos:Pos}{Q:ZH}(I:Inv X F p l s)(hN:X.N.Nodup)(hi:X.N[i]?=some n)(hk:X.env.kindOf n=some .local)(hp:X.pt i=false)
  (h:∀s' σ',Inv X F (p.set i .no) σ' s'->(∀r v,Res X F p l s.heap r v->Res X F (p.set i .no) σ' s'.heap r v)->Q () s'):wpAny M A (do bindName X.env n .none;unbindBehindTheSuite X.env n pos) Q E s:=by
 obtain⟨m,hn,hl⟩:=id I.ns;have hcls:(X.env.scope.kind == .class || (X.env.scope.kind == .module && X.env.locals != X.env.globals))=false:=by rw[I.ok.kind];rfl
 have hiσ:i<l.length:=by rw[I.len];exact(n6.mp hi).1
 refine wpAny_nameGoes_keeps hk hn hcls fun h' v hn' hs=>?_;have ne:∀{b:Addr},¬ X.kp b->b≠X.env.locals:=fun n z=>n (z ▸ .inr (.inl rfl));have ka:X.G X.env.locals=none:=I.ok.gm _ (.inl rfl)
 have get:∀{j:Nat} {v:ZF},(l.set i none)[j]?=some v->(j=i/\v=none)\/(j≠i/\l[j]?=some v):=fun {j v} e=>by
  by_cases q:i=j
  .subst q;rw[List.getElem?_set_self hiσ]at e;cases e;exact .inl ⟨rfl,rfl⟩
  .rw[List.getElem?_set_ne q]at e;exact .inr ⟨fun z=>q z.symm,e⟩
 have old:∀{j:Nat} {u:Sl},(p.set i .no)[j]?=some u->u≠.no->p[j]?=some u/\(l.set i none)[j]?=l[j]?:=fun {j u} e n=>by
  rcases Yw e with ⟨_,z⟩ | ⟨n,e⟩
  .exact absurd z n
  .exact⟨e,List.getElem?_set_ne (Ne.symm n)⟩
 refine h _ (l.set i none) ⟨I.ok,I.os,I.bare,I.le,fun b o e=>?_,fun b o e=>?_,Uy (fun b hb o e=>⟨o.slots,(hs.2 b fun z=>I.ok.fg b hb (z ▸ ka)).trans e⟩) I.fr,⟨_,hn',fun j y v' e1 e2=>?_⟩,fun y c e=>?_,by rw[XX];exact I.len,⟨fun j t e=>?_,fun j t e=>?_,fun j k t u a e1 e2 h1 h2=>?_,by rw[XX,XX];exact I.r.ln⟩,fun j hj=>?_⟩ fun r v rs=>?_
 .obtain⟨h1,h2⟩:=I.f b o e;exact⟨(hs.2 b (ne h2)).trans h1,h2⟩
 .obtain⟨sl,e1,n1⟩:=I.g b o e;exact⟨sl,(hs.2 b fun z=>by rw[z,ka]at e;cases e).trans e1,n1⟩
 .rcases get e2 with ⟨_,z⟩ | ⟨nj,e2⟩
  .cases z
  .rcases hl j y v' e1 e2 with ⟨k,e⟩ | ⟨k,c,e,z⟩
   .have:y≠n:=fun e=>nj (Nv hN e1 (e ▸ hi));exact .inl ⟨k,by simp[this,e]⟩
   .exact .inr ⟨k,c,e,z.sameBut hs (I.cne e)⟩
 .obtain⟨v',z⟩:=I.cell y c e;exact⟨v',z.sameBut hs (I.cne e)⟩
 .obtain⟨e,es⟩:=old e fun z=>nomatch z;rw[es];exact I.r.fz j t e
 .obtain⟨e,es⟩:=old e fun z=>nomatch z;rw[es];obtain⟨a,h1,w1⟩:=I.r.ow j t e;exact⟨a,h1,w1.to (.refl F) w1.f fun x q=>(hs.2 a (ne w1.k)).trans q⟩
 .obtain⟨e1,Wj⟩:=old e1 fun z=>nomatch z;obtain⟨e2,es2⟩:=old e2 fun z=>nomatch z;rw[Wj]at h1;rw[es2]at h2;exact I.r.ap j k t u a e1 e2 h1 h2
 .rw[List.getElem?_set_ne fun z=>by rw[z,hj]at hp;cases hp];exact I.pr j hj
 .cases r with
  | no=>exact rs
  | f t=>exact rs
  | o t =>
   obtain⟨a,rfl,w1,n1⟩:=rs;refine⟨a,rfl,w1.to (.refl F) w1.f fun x q=>(hs.2 a (ne w1.k)).trans q,fun j u e=>?_⟩;obtain⟨e,es⟩:=old e fun z=>nomatch z;rw[es];exact n1 j u e
theorem Res.tr{E:ZQ}{h:Heap}{r:Sl}{v:Value}(rs:Res (X.tr F E) F' p l h r v):Res X F' p l h r v:=by
 cases r with
 | no=>exact rs
 | f t=>exact rs
 | o t=>obtain⟨a,e,w1,n⟩:=rs;exact⟨a,e,⟨w1.c,w1.f,w1.k,w1.t⟩,n⟩
theorem Res.ec{e:Addr}{h:Heap}{r:Sl}{v:Value}(rs:Res (X.ec e) F' p l h r v):Res X F' p l h r v:=by
 cases r with
 | no=>exact rs
 | f t=>exact rs
 | o t=>obtain⟨a,e,w1,n⟩:=rs;exact⟨a,e,⟨w1.c,w1.f,w1.k,w1.t⟩,n⟩
theorem ss_tri(cc:Ct X w k N sc)(hc:X.calm=true)(Dv:X.stack=X.env::X.outer)(Du:X.env.frame=some X.env.locals){c n:Str}{i:Nat}{b hS:S}{b₀:Stmt}{body suite:List Stmt}{q hp pos:Pos}
  (hg:Gi sc c=true) (hcat:jq.contains c=true) (hi:N[i]?=some n) (hl:sc.lookup n=some .local)
  (hb:∀(F:OM) (E:ZQ) (w':W),Ct (X.tr F E) w' k N sc->SB w' b (X.tr F E) body) (hh:∀e,SB w hS (X.ec e) (b₀::suite)) :
  SS w (.tri b c (some i) hS) X (.Try body [.ExceptHandler (some (.Name c q)) (some n) (b₀::suite) hp] [] [] pos):=fun F p l s D I hw=>by
 have hw:if X.pt i=true then False else wS ⟨w.C,w.gl,fun e q=>if Ol e.1 c=true then wS w X.pt hS (q.set i (.f (.exn e.1 e.2))) (D.un (some i)) else False⟩ X.pt b p D:=hw
 split at hw
 .exact hw.elim
 rename_i hpi
 have hpi:X.pt i=false:=by simpa using hpi
 obtain⟨D0,hm,dc,dm⟩:=cc.bn.h c (by simpa using hcat);obtain⟨gg,gd⟩:=cc.gl' hg
 have hk:X.env.kindOf n=some .local:=by
  rcases cc.nm n _ hl with z | ⟨z,_⟩
  .exact z
  .cases z
 have H0:X.N[i]?=some n:=by rw[cc.nN];exact hi
 have hN:X.N.Nodup:=by rw[cc.nN];exact cc.nd
 generalize hW:(⟨w.C,w.gl,fun e q=>if Ol e.1 c=true then wS w X.pt hS (q.set i (.f (.exn e.1 e.2))) (D.un (some i)) else False⟩:W)=w' at hw;have hx:jh (X.tr F fun v s'=>∃F' p' σ' e c' t,v=.ref e/\Le F F'/\Inv X F' p' σ' s'/\Exa X F' s'.heap e c' t/\w'.xe (c',t) p') w':=fun F' p' σ' s' e c' t J x z=>⟨F',p',σ',e,c',t,rfl,J.le,J.ofTr I.ok I.le,⟨x.f,x.k,x.ex⟩,z⟩;refine wpAny_Try_except (wpAny_mono (hb F _ w' (cc.tr (by rw[<-hW]) (by rw[<-hW]) hx) F p l s D I.toTr hw) (fun f s1 ⟨F1,p1,σ1,l1,J,fo⟩=>?_) fun v s1 ⟨F1,p1,σ1,e,c',t,ev,l1,I1,x1,z⟩=>?_)
 .have I1:=J.ofTr I.ok I.le;cases f with
  | next=>exact wpAny_execs_nil ⟨F1,p1,σ1,l1,I1,fo⟩
  | ret u=>obtain⟨r,rs,fo⟩:=fo;exact⟨F1,p1,σ1,l1,I1,r,rs.tr,fo⟩
  | brk=>exact⟨F1,p1,σ1,l1,I1,fo⟩
  | cont=>exact⟨F1,p1,σ1,l1,I1,fo⟩
 .subst ev hW;have z:if Ol c' c=true then wS w X.pt hS (p1.set i (.f (.exn c' t))) (D.un (some i)) else False:=z
  split at z
  rotate_left
  .exact z.elim
  rename_i m5
  obtain⟨o,u,vs,he,hx2,it,hd,qv⟩:=x1.ex;have fr:X.A.frames=some (X.env::X.outer):=by rw[I1.ok.frames,Dv]
  have hl':s1.heap.FunFrames X.base (X.env::X.outer):=by rw[<-Dv];exact I1.stack
  refine EX.Sq fr hl' Du he hd qv fun g1 T' N'=>?_
  have X2:1<vs.size:=by
   obtain⟨vs',e1,e2⟩:=hx2.fs;rw[hd]at e1;cases e1;omega
  have v1:(vs.setIfInBounds 1 (.ref T'))[1]?=some (.ref T'):=by simp[X2]
  obtain⟨oT,ts,hT,qc,hz3⟩:=N'.tb;have hx3:=hx2.tb (v:=.ref T');refine EX.R8 (s:={ s1 with heap:=g1 }) N'.exc (Obj.data_mapFields hd _) v1 hT qc hz3 fun g2 k2 tb2=>?_;have I2:Inv X F1 p1 σ1 { s1 with heap:=g2 }:=I1.noted (T':=T') x1.f x1.k he hd (by rw[Dv];exact N') k2;have nT:e≠T':=fun z=>Nat.lt_irrefl _ (N0l (Jr (z ▸ he)) N'.new);have e2:=(k2 e nT).trans N'.exc;obtain⟨C,hcl,hmC⟩:=hx3.cl
  obtain⟨d,md,dc'⟩:∃d∈Mq,d.c=c':=by
   unfold Ol at m5
   split at m5
   .rename_i q
    exact⟨_,List.mem_of_find?_eq_some q,T1 (List.find?_some (p:=fun x:je=>decide (x.c=c')) q)⟩
   .cases m5
  have hm1:=dm d md C (by rw[dc'];exact hmC);rw[dc',m5]at hm1;refine EX.ql (D:=D0) (C:=C) (J0 (X:=X.ec e) I2.toEc gg hm gd ⟨rfl,PySem.W.looks_typeIn I2.kIn dc.ty,Hp I2.kIn dc.here,PySem.W.looks_mroIn I2.kIn dc.be,EX.Dn e2 hcl,PySem.W.looks_mroIn I2.kIn hm1, ?_⟩);obtain⟨oT',ts',j3,hdT',Wo⟩:=tb2;refine EX.R8 (s:={ s1 with heap:=g2 }) e2 (Obj.data_mapFields hd _) v1 j3 hdT' Wo fun g3 k3 _=>?_;have I3:Inv X F1 p1 σ1 { s1 with heap:=g3 }:=I2.turned (fp:=[T']) (h':=g3) (tk:=s1.toks) (fun b m=>by cases V8.mp m;exact I1.isFp (Heap.get?_none_of_le N'.new)) (fun b o m q=>(k3 b (by simpa using m)).trans q);have e3:=(k3 e nT).trans e2;have l3:Le F1 (F1.put e (o.mapFields (·.setIfInBounds 1 (.ref T')))):=.put x1.f
  have I4:Inv X (F1.put e (o.mapFields (·.setIfInBounds 1 (.ref T')))) p1 σ1 { s1 with heap:=g3 }:=by
   refine I3.step rfl I3.bare l3 (fun b x q=>?_) (fun _ _ _ _ e=>.same e) (fun _ hn=>hn) (I3.r.to l3 fun j t' b h1 h2=>⟨?_,fun _ e=>e⟩)
   .by_cases z:b=e
    .subst z;rw[G4]at q;cases q;exact⟨e3,x1.k⟩
    .rw[G2 z]at q;exact I3.f b x q
   .obtain⟨b',q1,w1⟩:=I3.r.ow j t' h1;rw[h2]at q1;cases q1;rw[G2 (w1.neX e3 (Obj.data_mapFields hd _))];exact w1.f
  refine Rw (X:=X.ec e) I4.toEc hN H0 (.inl hk) hpi (r:=.f (.exn c' t)) (Top.exn G4 (hx3.up l3) (it.up l3)) fun s4 I5=>?_;refine wpAny_mono (hh e _ _ _ s4 (D.un (some i)) I5 z) (fun f s5 ⟨F5,p5,σ5,l5,J5,fo⟩=>?_) fun _ _ z=>z;refine Zzv (J5.ofEc I.ok) hN H0 hk hpi fun s6 σ6 I6 rr=>?_;have ll:=l1.trans (l3.trans l5);cases f with
  | next=>exact⟨F5,_,σ6,ll,I6,fo⟩
  | ret u=>obtain⟨r,rs,fo⟩:=fo;exact⟨F5,_,σ6,ll,I6,r,rr r u rs.ec,fo⟩
  | brk=>exact⟨F5,_,σ6,ll,I6,fo⟩
  | cont=>exact⟨F5,_,σ6,ll,I6,fo⟩
end
noncomputable def E7(x:Expr):Option (ZM):=match T2 x with
 | .lst xs=>some xs
 | _=>none
noncomputable def Mc(op:BoolOp)(z:Expr):Option (Expr×Expr×ZM×Pos):=match T2 z with
 | .boo o (x::y::r) pos=>if o=op then some (x,y,r,pos) else none
 | _=>none
noncomputable def Wl(z:Expr):Option Expr:=match T2 z with
 | .un o x=>if o=.Not then some x else none
 | _=>none
noncomputable def Zz8(z:Expr):Option (Expr×Expr×Expr):=match T2 z with
 | .ife c a b=>some (c,a,b)
 | _=>none
def Mm:Expr->Option (Str×ZM):=Km
noncomputable def zf(z:Expr):Option (Str×Str×ZM):=match T2 z with
 | .callA o m ap xs cp=>(match Jy o with
  | some y=>if (ap.endLine == cp.line)=true then some (y,m,xs) else none
  | none=>none)
 | _=>none
noncomputable def zb(z:Expr):Option (Expr×Expr×Expr×ZM×Scope):=match T2 z with
 | .lc elt [⟨t,iter,ifs,0⟩] scope=>some (elt,t,iter,ifs,scope)
 | _=>none
noncomputable def Zz6(x:Expr):Option (Str×Expr):=match T2 x with
 | .callA o m ap xs cp=>if xs.isEmpty=true/\Yn o=true/\(ap.endLine == cp.line)=true then some (m,o) else none
 | _=>none
noncomputable def plainT:Expr->Bool
 | .UnaryOp .Not _ _=>false
 | .BoolOp _ _ _=>false
 | .IfExp _ _ _ _=>false
 | .Compare _ _ _ _=>false
 | _=>true
def Bi:Expr->Bool
 | .Set _ _ _=>false
 | _=>true
def isApp:Mt->Bool
 | .append=>true
 | _=>false
def ml:E->Bool
 | .and _ _=>true
 | _=>false
def Zx5:E->Bool
 | .or _ _=>true
 | _=>false
noncomputable def Tc:E->Expr->Bool
 | .and a b,x=>match Mc .And x with
  | some (x0,y,r,pos)=>Tc a x0 && (if r.isEmpty then Tc b y else Tc b (.BoolOp .And (y::r) pos) && ml b)
  | none=>false
 | .or a b,x=>match Mc .Or x with
  | some (x0,y,r,pos)=>Tc a x0 && (if r.isEmpty then Tc b y else Tc b (.BoolOp .Or (y::r) pos) && Zx5 b)
  | none=>false
 | .not a,x=>match Wl x with
  | some y=>Tc a y
  | none=>false
 | .pr (.cm _) _,_=>true
 | .pr (.c2 _ _) _,_=>true
 | _,x=>plainT x
noncomputable def gz:Pr->Bool
 | .tix g=>(Rq g).isSome
 | .fld f=>!decide (f = "")
 | _=>true
noncomputable def ikN:Ik->Str
 | .rng => "range"
 | .zip => "zip"
 | .vls => "values"
 | .its => "items"
noncomputable def ikLk:Ik->Nat->Bool
 | .rng,1=>true
 | .rng,2=>true
 | .zip,2=>true
 | _,_=>false
def ikV:Ik->Bool
 | .vls=>true
 | .its=>true
 | _=>false
def e9:Ik->Expr->Bool
 | .rng,_=>true
 | .vls,_=>true
 | _,t=>isTup t
noncomputable def conK:T->Const->Bool
 | .int i,.int j=>i == j
 | .str i,.str j=>i == j
 | .bl i,.bool j=>i == j
 | .non,.none=>true
 | _,_=>false
def cnst:Expr->Option Const
 | .Constant c _ _=>some c
 | _=>none
noncomputable def y0(t:T)(x:Expr):Bool:=match cnst x with
 | some c=>conK t c
 | none=>false
mutual
noncomputable def rep:Bool->ZG->Scope->E->Expr->Bool
 | _,N,sc,.v i,x=>match Jy x with
  | some y=>Gp N sc.names i y
  | none=>false
 | _,N,sc,.mv i,x=>match Jy x with
  | some y=>Gp N sc.names i y
  | none=>false
 | _,_,_,.k t,x=>y0 t x
 | _,_,sc,.g g,x=>match Jy x with
  | some y=>g == y && Gi sc.names y
  | none=>false
 | tp,N,sc,.tup es,x=>match Ti x with
  | some xs=>Vd es && V5 tp N sc es xs
  | none=>false
 | tp,N,sc,.lst es,x=>match E7 x with
  | some xs=>Vd es && V5 tp N sc es xs
  | none=>false
 | tp,N,sc,.pr q es,x=>match view sc.names q x with
  | some xs=>Vd es && quiet q es && gz q && V5 tp N sc es xs
  | none=>false
 | tp,N,sc,.and a b,x=>match Mc .And x with
  | some (x0,y,r,pos)=>rep tp N sc a x0 && (if r.isEmpty then rep tp N sc b y else rep tp N sc b (.BoolOp .And (y::r) pos))
  | none=>false
 | tp,N,sc,.or a b,x=>match Mc .Or x with
  | some (x0,y,r,pos)=>rep tp N sc a x0 && (if r.isEmpty then rep tp N sc b y else rep tp N sc b (.BoolOp .Or (y::r) pos))
  | none=>false
 | tp,N,sc,.not a,x=>match Wl x with
  | some y=>rep tp N sc a y
  | none=>false
 | tp,N,sc,.ite c a b,x=>match Zz8 x with
  | some (z,x0,y)=>rep tp N sc c z && Tc c z && rep tp N sc a x0 && rep tp N sc b y
  | none=>false
 | tp,N,sc,.call f es,x=>match Mm x with
  | some (g,xs)=>f == g && Dg.contains f && Gi sc.names g && !xs.isEmpty && V5 tp N sc es xs
  | none=>false
 | tp,N,sc,.cal i es,x=>match Mm x with
  | some (g,xs)=>Gp N sc.names i g && !xs.isEmpty && Vd es && V5 tp N sc es xs
  | none=>false
 | tp,N,sc,.mt m i es,x=>match zf x with
  | some (y,n,xs)=>n == "append" && isApp m && Gp N sc.names i y && Vd es && V5 tp N sc es xs && decide (xs.length=1)
  | none=>false
 | tp,N,sc,.comp tg it c el fr ns,x=>match zb x with
  | some (elt,t,iter,ifs,scope)=>tp && O4 tp N sc t it iter && W5 sc scope && J8 N scope.names ns fr && decide ns.Nodup && Ju (fun i=>(fr[i]?).join.isSome) tg && Bi iter && Jo ns scope.names tg t
   && (if isNil c then ifs.isEmpty else (match ifs with
    | [z]=>rep false ns scope c z && Tc c z
    | _=>false)) && rep false ns scope el elt
  | none=>false
 | tp,N,sc,.tmp a,x=>rep tp N sc a x
 | _,_,_,_,_=>false
noncomputable def O4:Bool->ZG->Scope->Expr->E->Expr->Bool
 | tp,N,sc,t,.itr q es,x=>match Mm x with
  | some (f,xs)=>f == ikN q && !ikV q && Gi sc.names f && e9 q t && ikLk q xs.length && Vd es && V5 tp N sc es xs
  | none=>(match Zz6 x with
   | some y=>y.1 == ikN q && ikV q && e9 q t && Vd es && V5 tp N sc es [y.2]
   | none=>false)
 | tp,N,sc,_,.v i,x=>match Jy x with
  | some y=>Gp N sc.names i y
  | none=>false
 | tp,N,sc,_,.pr q es,x=>match view sc.names q x with
  | some xs=>Vd es && quiet q es && gz q && V5 tp N sc es xs
  | none=>false
 | tp,N,sc,_,.call f es,x=>match Mm x with
  | some (g,xs)=>f == g && Dg.contains f && Gi sc.names g && !xs.isEmpty && V5 tp N sc es xs
  | none=>false
 | tp,N,sc,_,.lst es,x=>match E7 x with
  | some xs=>Vd es && V5 tp N sc es xs
  | none=>false
 | tp,N,sc,_,.tup es,x=>match Ti x with
  | some xs=>Vd es && V5 tp N sc es xs
  | none=>false
 | _,_,_,_,_,_=>false
noncomputable def V5:Bool->ZG->Scope->E->ZM->Bool
 | _,_,_,.nil,[]=>true
 | tp,N,sc,.cons a r,x::xs=>noStar x && (match a with
  | .io i=>(match Jy x with
   | some y=>Gp N sc.names i y
   | none=>false)
  | _=>rep tp N sc a x) && V5 tp N sc r xs
 | _,_,_,_,_=>false
end
theorem Rc{x:Expr}{env:Env}(h:plainT x=true):∀whole,isTrue x env whole=(do let v <-whole;standAt x.pos;holding [v] (truthy v)):=by
 intro wh;cases x<;>first | rfl | cases h | (rename_i op _ _;cases op<;>first | rfl | cases h)
theorem G9{x:Expr}{env:Env}(h:Bi x=true):∀v,foldedSetIterable x env v=pure v:=by
 intro v;cases x<;>first | rfl | cases h
theorem c6{x:Expr}{y:ZM}(h:E7 x=some y):∃pos,x=.List y pos:=by
 unfold E7 at h
 split at h
 .rename_i e;cases h;exact Ze e
 .cases h
theorem c8{op:BoolOp}{x x0 y:Expr}{r:ZM}{pos:Pos}(h:Mc op x=some (x0,y,r,pos)):x=.BoolOp op (x0::y::r) pos:=by
 unfold Mc at h
 split at h
 .rename_i e'
  split at h
  .rename_i e;cases h;rw[<-e];exact Ze e'
  .cases h
 .cases h
theorem E6{x y:Expr}(h:Wl x=some y):∃pos,x=.UnaryOp .Not y pos:=by
 unfold Wl at h
 split at h
 .rename_i e'
  split at h
  .rename_i e;cases h;rw[<-e];exact Ze e'
  .cases h
 .cases h
theorem Zz7{x a b c:Expr}(h:Zz8 x=some (c,a,b)):∃pos,x=.IfExp c a b pos:=by
 unfold Zz8 at h
 split at h
 .rename_i e;cases h;exact Ze e
 .cases h
theorem c5{x:Expr}{y m:Str}{xs:ZM}(h:zf x=some (y,m,xs)):∃p ap cp,x=.Call (.Attribute (.Name y p) m ap) xs [] cp/\(ap.endLine == cp.line)=true:=by
 unfold zf at h
 split at h
 .rename_i e
  split at h
  .rename_i e'
   obtain⟨p,rfl⟩:=Vv e'
   split at h
   .rename_i z;cases h;exact⟨p,_,_,Ze e,z⟩
   .cases h
  .cases h
 .cases h
theorem Zz5{x:Expr}{y:Str×Expr}(h:Zz6 x=some y):∃ap cp,x=.Call (.Attribute y.2 y.1 ap) [] [] cp/\Yn y.2=true/\(ap.endLine == cp.line)=true:=by
 unfold Zz6 at h
 split at h
 .rename_i e
  split at h
  .rename_i z
   cases h;obtain⟨z1,z2,z3⟩:=z;have:=Ze e;cases List.isEmpty_iff.mp z1;exact⟨_,_,this,z2,z3⟩
  .cases h
 .cases h
theorem c7{x elt t iter:Expr}{ifs:ZM}{scope:Scope}(h:zb x=some (elt,t,iter,ifs,scope)):∃pos,x=.ListComp elt [⟨t,iter,ifs,0⟩] scope pos:=by
 unfold zb at h
 split at h
 .rename_i e;cases h;exact Ze e
 .cases h
def Zql:E->Bool
 | .and _ _=>true
 | .or _ _=>true
 | _=>false
def NE(e:E):Prop:=∀(w:W) (X:Cx) (k:Nat) (N:ZG) (sc:Scope) (tp:Bool) (x:Expr),Ct X w k N sc.names->(tp=true->X.env.scope.names=sc.names)->rep tp N sc e x=true->SE w e X x
def NT(e:E):Prop:=∀(w:W) (X:Cx) (k:Nat) (N:ZG) (sc:Scope) (tp:Bool) (x:Expr) (wh:Sem Value),Ct X w k N sc.names->(tp=true->X.env.scope.names=sc.names)->rep tp N sc e x=true->Tc e x=true->(Zql e=true\/wh=eval x X.env)->ST w e X x wh
def NR(e:E):Prop:=∀(w:W) (X:Cx) (k:Nat) (N:ZG) (sc:Scope) (tp m:Bool) (xs:ZM),Ct X w k N sc.names->(tp=true->X.env.scope.names=sc.names)->V5 tp N sc e xs=true->Hs X w m e xs
def NI(e:E):Prop:=∀(w:W) (X:Cx) (k:Nat) (N:ZG) (sc:Scope) (tp:Bool) (t x:Expr),Ct X w k N sc.names->(tp=true->X.env.scope.names=sc.names)->O4 tp N sc t e x=true->SI w e X t x
theorem Z9{e:E}(h:NE e)(ht:∀x,Tc e x=plainT x)(ha:Zql e=false):NT e:=fun w X k N sc tp x wh c ct hr ht' hw=>by
 rcases hw with z | rfl
 .rw[ha]at z;cases z
 .exact vi (h w X k N sc tp x c ct hr) (Rc (by rw[<-ht x];exact ht'))
theorem Xl{e:E}(h:∀tp N sc x,rep tp N sc e x=false):NE e:=fun w X k N sc tp x c ct hr=>by rw[h]at hr;cases hr
theorem Xc{e:E}(h:∀tp N sc x,rep tp N sc e x=false):NT e:=fun w X k N sc tp x wh c ct hr=>by rw[h]at hr;cases hr
theorem Vc{e:E}(h:∀tp N sc xs,V5 tp N sc e xs=false):NR e:=fun w X k N sc tp m xs c ct hr=>by rw[h]at hr;cases hr
theorem Ue{e:E}(h:∀tp N sc t x,O4 tp N sc t e x=false):NI e:=fun w X k N sc tp t x c ct hr=>by rw[h]at hr;cases hr
theorem Sw{e:E}(h:NE e)(r:∀tp N sc t x,O4 tp N sc t e x=rep tp N sc e x):NI e:=fun w X k N sc tp t x c ct hr=>si_of (h w X k N sc tp x c ct (by rw[<-r tp N sc t x];exact hr))
theorem ne_v(i:Nat):NE (.v i):=fun w X k N sc tp x c ct hr=>by
 replace hr:(match Jy x with | some y=>Gp N sc.names i y | none=>false)=true:=hr
 split at hr
 .rename_i e;obtain⟨p,rfl⟩:=Vv e;exact se_v (c.nm' hr)
 .cases hr
theorem Zx0(i:Nat):NE (.mv i):=fun w X k N sc tp x c ct hr=>by
 replace hr:(match Jy x with | some y=>Gp N sc.names i y | none=>false)=true:=hr
 split at hr
 .rename_i e;obtain⟨p,rfl⟩:=Vv e;exact se_mv (c.nm' hr)
 .cases hr
theorem zj{t:T}{k:Const}(h:conK t k=true):(t=.non/\k=.none)\/(∃b,t=.bl b/\k=.bool b)\/(∃i,t=.int i/\k=.int i)\/∃x,t=.str x/\k=.str x:=by
 unfold conK at h
 split at h
 .cases eq_of_beq h;exact .inr (.inr (.inl ⟨_,rfl,rfl⟩))
 .cases eq_of_beq h;exact .inr (.inr (.inr ⟨_,rfl,rfl⟩))
 .cases eq_of_beq h;exact .inr (.inl ⟨_,rfl,rfl⟩)
 .exact .inl ⟨rfl,rfl⟩
 .cases h
theorem ne_k(t:T):NE (.k t):=fun w X k N sc tp x c ct hr=>by
 replace hr:y0 t x=true:=hr
 unfold y0 at hr
 split at hr
 .rename_i cc e
  cases x<;>first | cases e | skip
  exact se_k (zj hr)
 .cases hr
theorem ne_g(g:Str):NE (.g g):=fun w X k N sc tp x c ct hr=>by
 replace hr:(match Jy x with | some y=>g == y && Gi sc.names y | none=>false)=true:=hr
 split at hr
 .rename_i e
  obtain⟨p0,rfl⟩:=Vv e;rw[Vi,beq_iff_eq]at hr;obtain⟨rfl,h⟩:=hr;obtain⟨g1,g2⟩:=c.gl' h;intro F p j s Q I h;obtain⟨t,e,h⟩:=Zi (show on (w.gl g) fun t=>Q (.f t) p from h);obtain⟨v,hm,it⟩:=c.gl g t e;exact J0 I g1 hm g2 ⟨F,p,.f t,.refl F,I,it.up fun a o e=>I.le a o (I.ok.b a o e),h⟩
 .cases hr
theorem Hy{es:E}(ih:NR es):NE (.tup es):=fun w X k N sc tp x c ct hr=>by
 replace hr:(match Ti x with | some xs=>Vd es && V5 tp N sc es xs | none=>false)=true:=hr
 split at hr
 .rename_i e
  obtain⟨j,p,rfl⟩:=Bf e;rw[Vi]at hr;exact se_tup (ih w X k N sc tp false _ c ct hr.2) hr.1
 .cases hr
theorem Hk{es:E}(ih:NR es):NE (.lst es):=fun w X k N sc tp x c ct hr=>by
 replace hr:(match E7 x with | some xs=>Vd es && V5 tp N sc es xs | none=>false)=true:=hr
 split at hr
 .rename_i e
  obtain⟨p,rfl⟩:=c6 e;rw[Vi]at hr;exact se_lst (ih w X k N sc tp false _ c ct hr.2) hr.1
 .cases hr
theorem y9{tp:Bool}{N:ZG}{sc:Scope}{q:Pr}{es:E}{x:Expr}(hr:rep tp N sc (.pr q es) x=true):∃xs,view sc.names q x=some xs/\Vd es=true/\quiet q es=true/\gz q=true/\V5 tp N sc es xs=true:=by
 replace hr:(match view sc.names q x with | some xs=>Vd es && quiet q es && gz q && V5 tp N sc es xs | none=>false)=true:=hr
 split at hr
 .rename_i xs e
  simp only[Vi]at hr;exact⟨xs,e,hr.1.1.1,hr.1.1.2,hr.1.2,hr.2⟩
 .cases hr
theorem gh{q:Pr}{es:E}(ih:NR es):NE (.pr q es):=fun w X k N sc tp x c ct hr=>by
 obtain⟨xs,hv,h1,h2,h3,h4⟩:=y9 hr;have hs:=ih w X k N sc tp true _ c ct h4;have hc:=c.calm;cases q with
 | op o=>exact se_op hv hs
 | cm m=>exact(Zxl c hv hs).1
 | c2 m m'=>exact(Zxr c hv h2 hs).1
 | neg=>exact se_neg hv hs
 | ix=>exact se_ix hv hs
 | sl lo hi=>cases lo<;>cases hi<;>first | exact uy hv hs | exact uk hv hs | exact uv hv hs | exact Zxs c hc hv hs
 | dnew=>exact um c hc hv hs
 | isi n=>exact se_isi c hv hs
 | get1=>exact ub hv h2 hs
 | get2=>exact uf hv h2 hs
 | idx=>exact se_idx hv h2 hs
 | lset=>exact ug c hc hv hs
 | dct1=>exact ud c hc hv fun fp h cc=>ih w _ k N sc tp true _ cc ct h4
 | srtF=>exact uw c hc hv hs
 | tin g=>exact se_tin c hv hs
 | tix g=>exact se_tix c hv hs h3
 | fld f =>
  obtain⟨o,p,rfl,hn,rfl⟩:=Ic hv;exact ym c.bn hn hs (by simpa [gz] using h3)
 | isx ns=>cases hv
 | tup1=>exact uq hv hs
 | rev=>exact se_rev hv hs
 | _=>exact Zxs c hc hv hs
theorem nt_pr{q:Pr}{es:E}(ih:NR es):NT (.pr q es):=fun w X k N sc tp x wh c ct hr ht hw=>by
 obtain⟨xs,hv,h1,h2,h3,h4⟩:=y9 hr;have hs:=ih w X k N sc tp true _ c ct h4
 have pl:plainT x=true->ST w (.pr q es) X x wh:=fun z=>by
  rcases hw with y | rfl
  .cases y
  .exact vi (gh ih w X k N sc tp x c ct hr) (Rc z)
 cases q with
 | cm m=>exact(Zxl c hv hs).2 wh
 | c2 m m'=>exact(Zxr c hv h2 hs).2 wh
 | tin g=>exact st_tin c hv hs
 | _=>exact pl ht
theorem Pp{op:BoolOp}{tp:Bool}{N:ZG}{sc:Scope}{a b:E}{x:Expr}(hr:(match Mc op x with
  | some (x0,y,r,pos)=>rep tp N sc a x0 && (if r.isEmpty then rep tp N sc b y else rep tp N sc b (.BoolOp op (y::r) pos))
  | none=>false)=true):∃x0 y r pos,x=.BoolOp op (x0::y::r) pos/\Mc op x=some (x0,y,r,pos)/\rep tp N sc a x0=true/\((r=[]/\rep tp N sc b y=true)\/(r.isEmpty=false/\rep tp N sc b (.BoolOp op (y::r) pos)=true)):=by
 split at hr
 .rename_i x0 y r pos e
  rw[Vi]at hr;refine⟨x0,y,r,pos,c8 e,e,hr.1, ?_⟩;cases r with
  | nil=>exact .inl ⟨rfl,hr.2⟩
  | cons z r=>exact .inr ⟨rfl,hr.2⟩
 .cases hr
theorem ne_and{a b:E}(ha:NE a)(hb:NE b):NE (.and a b):=fun w X k N sc tp x c ct hr=>by
 obtain⟨x0,y,r,pos,rfl,_,h1,h2⟩:=Pp hr;refine se_and (ha w X k N sc tp _ c ct h1) ?_;rcases h2 with ⟨rfl,h2⟩ | ⟨_,h2⟩
 .exact yb (hb w X k N sc tp _ c ct h2)
 .exact hb w X k N sc tp _ c ct h2
theorem ne_or{a b:E}(ha:NE a)(hb:NE b):NE (.or a b):=fun w X k N sc tp x c ct hr=>by
 obtain⟨x0,y,r,pos,rfl,_,h1,h2⟩:=Pp hr;refine se_or (ha w X k N sc tp _ c ct h1) ?_;rcases h2 with ⟨rfl,h2⟩ | ⟨_,h2⟩
 .exact yb (hb w X k N sc tp _ c ct h2)
 .exact hb w X k N sc tp _ c ct h2
theorem nt_and{a b:E}(ha:NT a)(hb:NT b):NT (.and a b):=fun w X k N sc tp x wh c ct hr ht _=>by
 obtain⟨x0,y,r,pos,rfl,e,h1,h2⟩:=Pp hr
 replace ht:(match Mc .And (Expr.BoolOp .And (x0::y::r) pos) with
  | some (x0,y,r,pos)=>Tc a x0 && (if r.isEmpty then Tc b y else Tc b (.BoolOp .And (y::r) pos) && ml b)
  | none=>false)=true:=ht
 rw[e]at ht;obtain⟨t1,t2⟩:=zh.mp ht;refine st_and (ha w X k N sc tp _ _ c ct h1 t1 (.inr rfl)) fun wh'=>?_;rcases h2 with ⟨rfl,h2⟩ | ⟨re,h2⟩
 .exact sg (hb w X k N sc tp _ _ c ct h2 t2 (.inr rfl)) rfl
 .rw[re]at t2;obtain⟨t2,t3⟩:=zh.mp t2;exact hb w X k N sc tp _ _ c ct h2 t2 (.inl (by cases b<;>first | rfl | cases t3))
theorem nt_or{a b:E}(ha:NT a)(hb:NT b):NT (.or a b):=fun w X k N sc tp x wh c ct hr ht _=>by
 obtain⟨x0,y,r,pos,rfl,e,h1,h2⟩:=Pp hr
 replace ht:(match Mc .Or (Expr.BoolOp .Or (x0::y::r) pos) with
  | some (x0,y,r,pos)=>Tc a x0 && (if r.isEmpty then Tc b y else Tc b (.BoolOp .Or (y::r) pos) && Zx5 b)
  | none=>false)=true:=ht
 rw[e]at ht;obtain⟨t1,t2⟩:=zh.mp ht;refine st_or (ha w X k N sc tp _ _ c ct h1 t1 (.inr rfl)) fun wh'=>?_;rcases h2 with ⟨rfl,h2⟩ | ⟨re,h2⟩
 .exact st_or1 (hb w X k N sc tp _ _ c ct h2 t2 (.inr rfl)) rfl
 .rw[re]at t2;obtain⟨t2,t3⟩:=zh.mp t2;exact hb w X k N sc tp _ _ c ct h2 t2 (.inl (by cases b<;>first | rfl | cases t3))
theorem ne_not{a:E}(ha:NE a):NE (.not a):=fun w X k N sc tp x c ct hr=>by
 replace hr:(match Wl x with | some y=>rep tp N sc a y | none=>false)=true:=hr
 split at hr
 .rename_i y e
  obtain⟨p,rfl⟩:=E6 e;exact se_not (ha w X k N sc tp _ c ct hr)
 .cases hr
theorem nt_not{a:E}(ha:NT a):NT (.not a):=fun w X k N sc tp x wh c ct hr ht _=>by
 replace hr:(match Wl x with | some y=>rep tp N sc a y | none=>false)=true:=hr
 replace ht:(match Wl x with | some y=>Tc a y | none=>false)=true:=ht
 split at hr
 .rename_i y e
  rw[e]at ht;obtain⟨p,rfl⟩:=E6 e;exact st_not (ha w X k N sc tp _ _ c ct hr ht (.inr rfl))
 .cases hr
theorem gp{d a b:E}(hd:NT d)(ha:NE a)(hb:NE b):NE (.ite d a b):=fun w X k N sc tp x c ct hr=>by
 replace hr:(match Zz8 x with | some (z,x0,y)=>rep tp N sc d z && Tc d z && rep tp N sc a x0 && rep tp N sc b y | none=>false)=true:=hr
 split at hr
 .rename_i z x0 y e
  obtain⟨p,rfl⟩:=Zz7 e;simp only[Vi]at hr;exact se_ite (hd w X k N sc tp _ _ c ct hr.1.1.1 hr.1.1.2 (.inr rfl)) (ha w X k N sc tp _ c ct hr.1.2) (hb w X k N sc tp _ c ct hr.2)
 .cases hr
theorem Cu{x:Expr}{f:Str}{xs:ZM}(h:Mm x=some (f,xs)):∃p pos,x=.Call (.Name f p) xs [] pos:=M9 h
theorem Qc{f:Str}{es:E}(ih:NR es):NE (.call f es):=fun w X k N sc tp x c ct hr=>by
 replace hr:(match Mm x with | some (g,xs)=>f == g && Dg.contains f && Gi sc.names g && !xs.isEmpty && V5 tp N sc es xs | none=>false)=true:=hr
 split at hr
 .rename_i g xs e
  obtain⟨p,pos,rfl⟩:=Cu e;simp only[Vi,beq_iff_eq]at hr;obtain⟨⟨⟨⟨rfl,h2⟩,h3⟩,h4⟩,h5⟩:=hr;unfold Gi at h3;rw[Vi,beq_iff_eq]at h3;cases xs with
  | nil=>cases h4
  | cons y ys=>exact ur c c.calm h3.1 (by simpa using h3.2) (by simpa using h2) (ih w X k N sc tp false _ c ct h5)
 .cases hr
theorem gu{i:Nat}{es:E}(ih:NR es):NE (.cal i es):=fun w X k N sc tp x c ct hr=>by
 replace hr:(match Mm x with | some (g,xs)=>Gp N sc.names i g && !xs.isEmpty && Vd es && V5 tp N sc es xs | none=>false)=true:=hr
 split at hr
 .rename_i g xs e
  obtain⟨p,pos,rfl⟩:=Cu e;simp only[Vi]at hr;obtain⟨⟨⟨h1,h2⟩,h3⟩,h4⟩:=hr;cases xs with
  | nil=>cases h2
  | cons y ys=>exact se_cal c c.calm (c.nm' h1) (ih w X k N sc tp false _ c ct h4)
 .cases hr
theorem Zx1{m:Mt}{i:Nat}{es:E}(ih:NR es):NE (.mt m i es):=fun w X k N sc tp x c ct hr F p j s Q I hw=>by
 replace hr:(match zf x with | some (y,n,xs)=>n == "append" && isApp m && Gp N sc.names i y && Vd es && V5 tp N sc es xs && decide (xs.length=1) | none=>false)=true:=hr
 split at hr
 .rename_i y n xs e
  obtain⟨p0,ap,cp,rfl,hl⟩:=c5 e;simp only[Vi,beq_iff_eq,decide_eq_true_eq]at hr;obtain⟨⟨⟨⟨⟨rfl,h1⟩,h2⟩,h3⟩,h4⟩,h5⟩:=hr
  match xs,h5 with
  | [x0],_ =>
  cases m with
  | append=>exact se_mt (c.nm' h2) (ih w X k N sc tp false _ c ct h4) h3 hl F p j s Q I hw
  | _=>cases h1
 .cases hr
theorem zv{tg it cd el:E}{fr:ZV}{ns:ZG}{tp:Bool}{N:ZG}{sc:Scope}{x:Expr}(hr:rep tp N sc (.comp tg it cd el fr ns) x=true):∃elt t iter ifs scope pos,x=.ListComp elt [⟨t,iter,ifs,0⟩] scope pos/\tp=true/\O4 tp N sc t it iter=true/\W5 sc scope=true/\J8 N scope.names ns fr=true/\ns.Nodup/\Ju (fun i=>(fr[i]?).join.isSome) tg=true/\Bi iter=true/\Jo ns scope.names tg t=true /\
  ((isNil cd=true/\ifs=[])\/(isNil cd=false/\∃z,ifs=[z]/\rep false ns scope cd z=true/\Tc cd z=true))/\rep false ns scope el elt=true:=by
 replace hr:(match zb x with
  | some (elt,t,iter,ifs,scope)=>tp && O4 tp N sc t it iter && W5 sc scope && J8 N scope.names ns fr && decide ns.Nodup && Ju (fun i=>(fr[i]?).join.isSome) tg && Bi iter && Jo ns scope.names tg t
   && (if isNil cd then ifs.isEmpty else (match ifs with
    | [z]=>rep false ns scope cd z && Tc cd z
    | _=>false)) && rep false ns scope el elt
  | none=>false)=true:=hr
 split at hr
 .rename_i elt t iter ifs scope e
  obtain⟨pos,rfl⟩:=c7 e;simp only[Vi,decide_eq_true_eq]at hr;obtain⟨⟨⟨⟨⟨⟨⟨⟨⟨h1,h2⟩,h3⟩,h4⟩,h5⟩,h6⟩,h7⟩,h8⟩,h9⟩,j4⟩:=hr;refine⟨elt,t,iter,ifs,scope,pos,rfl,h1,h2,h3,h4,h5,h6,h7,h8, ?_,j4⟩;cases hn:isNil cd with
  | true =>
   rw[hn]at h9;exact .inl ⟨rfl,List.isEmpty_iff.mp h9⟩
  | false =>
   rw[hn]at h9
   match ifs,h9 with
   | [z],h9=>exact .inr ⟨rfl,z,rfl,zh.mp h9⟩
 .cases hr
theorem cq{cd:E}{ifs:ZM}{ns:ZG}{scope:Scope}{w:W}{k:Nat}(R4:NT cd)(h:(isNil cd=true/\ifs=[])\/(isNil cd=false/\∃z,ifs=[z]/\rep false ns scope cd z=true/\Tc cd z=true)):∀Y,Ct Y w k ns scope.names->HT w cd Y ifs:=fun Y c=>by
 rcases h with ⟨h,rfl⟩ | ⟨h,z,rfl,h1,h2⟩
 .exact ht_nil h
 .exact ht_one h (R4 w Y k ns scope false z _ c (fun z=>nomatch z) h1 h2 (.inr rfl))
theorem Xr{tg it cd el:E}{fr:ZV}{ns:ZG}(hit:NI it)(R4:NT cd)(hel:NE el):NE (.comp tg it cd el fr ns):=fun w X k N sc tp x c ct hr=>by
 obtain⟨elt,t,iter,ifs,scope,pos,rfl,h1,h2,h3,h4,h5,h6,h7,h8,h9,j4⟩:=zv hr;exact uc c (ct h1) c.calm h3 h4 h5 (hit w X k N sc tp t iter c ct h2) h8 h6 (cq R4 h9) (fun Y cc=>hel w.nx Y k ns scope false elt cc (fun z=>nomatch z) j4) (G9 h7)
theorem ni_itr{q:Ik}{es:E}(ih:NR es):NI (.itr q es):=fun w X k N sc tp t x c ct hr=>by
 replace hr:(match Mm x with
  | some (f,xs)=>f == ikN q && !ikV q && Gi sc.names f && e9 q t && ikLk q xs.length && Vd es && V5 tp N sc es xs
  | none=>(match Zz6 x with
   | some y=>y.1 == ikN q && ikV q && e9 q t && Vd es && V5 tp N sc es [y.2]
   | none=>false))=true:=hr
 split at hr
 .rename_i f xs e
  obtain⟨p,pos,rfl⟩:=Cu e;simp only[Vi,beq_iff_eq,decide_eq_true_eq,Bool.not_eq_true']at hr;obtain⟨⟨⟨⟨⟨⟨rfl,h0⟩,h2⟩,h3⟩,h4⟩,h5⟩,h6⟩:=hr;unfold Gi at h2;rw[Vi,beq_iff_eq]at h2;have hs:=ih w X k N sc tp false _ c ct h6;cases q with
  | rng=>cases xs with
   | nil=>cases h4
   | cons a r=>exact si_rng c h2.1 hs h5
  | zip=>match xs,h4 with
   | [a,b],_ =>
    cases t<;>first | exact si_zip c h2.1 hs h5 | cases h3
  | vls=>cases h0
  | its=>cases h0
 .split at hr
  .rename_i y e
   obtain⟨ap,cp,rfl,hc,hl⟩:=Zz5 e;simp only[Vi,beq_iff_eq]at hr;obtain⟨⟨⟨⟨h1,h0⟩,h3⟩,h5⟩,h6⟩:=hr;have hs:=ih w X k N sc tp false _ c ct h6;cases q with
   | vls=>exact Xq _ (.inl ⟨rfl,h1⟩) hs h5 hc hl
   | its=>exact Xq _ (.inr ⟨rfl,h1,h3⟩) hs h5 hc hl
   | rng=>cases h0
   | zip=>cases h0
  .cases hr
theorem a8{a r:E}(ha:NE a)(hr':NR r):NR (.cons a r):=fun w X k N sc tp m xs c ct hr=>by
 cases xs with
 | nil=>cases(show false=true from hr)
 | cons x xs =>
  replace hr:(noStar x && (match (generalizing:=false) a with
  | .io i=>(match Jy x with
   | some y=>Gp N sc.names i y
   | none=>false)
  | _=>rep tp N sc a x) && V5 tp N sc r xs)=true:=hr
  simp only[Vi]at hr;obtain⟨⟨h1,h2⟩,h3⟩:=hr;refine .cons ?_ h1 (hr' w X k N sc tp m xs c ct h3);cases a with
  | io i =>
   have h2:(match Jy x with | some y=>Gp N sc.names i y | none=>false)=true:=h2
   split at h2
   .rename_i e;obtain⟨p,rfl⟩:=Vv e;exact(yq (m:=m) (c.nm' h2)).2
   .cases h2
  | v i =>
   have h2':(match Jy x with | some y=>Gp N sc.names i y | none=>false)=true:=h2;cases m with
   | false=>exact sh_v (ha w X k N sc tp x c ct h2)
   | true =>
    split at h2'
    .rename_i e;obtain⟨p,rfl⟩:=Vv e;exact(yq (m:=true) (c.nm' h2')).1
    .cases h2'
  | _=>exact sh_of (fun _ z=>nomatch z) (fun _ z=>nomatch z) (ha w X k N sc tp x c ct h2)
theorem nr_nil:NR .nil:=fun w X k N sc tp m xs c ct hr=>by
 cases xs with
 | nil=>exact .nil
 | cons _ _=>cases(show false=true from hr)
theorem Jm:∀e:E,NE e/\NT e/\NR e/\NI e:=by
 intro e
 induction e with
 | v i=>exact⟨ne_v i,Z9 (ne_v i) (fun _=>rfl) rfl,Vc fun tp N sc xs=>rfl,Sw (ne_v i) fun tp N sc t x=>rfl⟩
 | mv i=>exact⟨Zx0 i,Z9 (Zx0 i) (fun _=>rfl) rfl,Vc fun tp N sc xs=>rfl,Ue fun tp N sc t x=>rfl⟩
 | io i=>exact⟨Xl fun tp N sc x=>rfl,Xc fun tp N sc x=>rfl,Vc fun tp N sc xs=>rfl,Ue fun tp N sc t x=>rfl⟩
 | k t=>exact⟨ne_k t,Z9 (ne_k t) (fun _=>rfl) rfl,Vc fun tp N sc xs=>rfl,Ue fun tp N sc t x=>rfl⟩
 | g x=>exact⟨ne_g x,Z9 (ne_g x) (fun _=>rfl) rfl,Vc fun tp N sc xs=>rfl,Ue fun tp N sc t x=>rfl⟩
 | nil=>exact⟨Xl fun tp N sc x=>rfl,Xc fun tp N sc x=>rfl,nr_nil,Ue fun tp N sc t x=>rfl⟩
 | cons a r ha hr=>exact⟨Xl fun tp N sc x=>rfl,Xc fun tp N sc x=>rfl,a8 ha.1 hr.2.2.1,Ue fun tp N sc t x=>rfl⟩
 | tup es ih=>exact⟨Hy ih.2.2.1,Z9 (Hy ih.2.2.1) (fun _=>rfl) rfl,Vc fun tp N sc xs=>rfl,Sw (Hy ih.2.2.1) fun tp N sc t x=>rfl⟩
 | lst es ih=>exact⟨Hk ih.2.2.1,Z9 (Hk ih.2.2.1) (fun _=>rfl) rfl,Vc fun tp N sc xs=>rfl,Sw (Hk ih.2.2.1) fun tp N sc t x=>rfl⟩
 | pr q es ih=>exact⟨gh ih.2.2.1,nt_pr ih.2.2.1,Vc fun tp N sc xs=>rfl,Sw (gh ih.2.2.1) fun tp N sc t x=>rfl⟩
 | and a b ha hb=>exact⟨ne_and ha.1 hb.1,nt_and ha.2.1 hb.2.1,Vc fun tp N sc xs=>rfl,Ue fun tp N sc t x=>rfl⟩
 | or a b ha hb=>exact⟨ne_or ha.1 hb.1,nt_or ha.2.1 hb.2.1,Vc fun tp N sc xs=>rfl,Ue fun tp N sc t x=>rfl⟩
 | not a ha=>exact⟨ne_not ha.1,nt_not ha.2.1,Vc fun tp N sc xs=>rfl,Ue fun tp N sc t x=>rfl⟩
 | ite d a b hd ha hb=>exact⟨gp hd.2.1 ha.1 hb.1,Z9 (gp hd.2.1 ha.1 hb.1) (fun _=>rfl) rfl,Vc fun tp N sc xs=>rfl,Ue fun tp N sc t x=>rfl⟩
 | call f es ih=>exact⟨Qc ih.2.2.1,Z9 (Qc ih.2.2.1) (fun _=>rfl) rfl,Vc fun tp N sc xs=>rfl,Sw (Qc ih.2.2.1) fun tp N sc t x=>rfl⟩
 | cal i es ih=>exact⟨gu ih.2.2.1,Z9 (gu ih.2.2.1) (fun _=>rfl) rfl,Vc fun tp N sc xs=>rfl,Ue fun tp N sc t x=>rfl⟩
 | mt m i es ih=>exact⟨Zx1 ih.2.2.1,Z9 (Zx1 ih.2.2.1) (fun _=>rfl) rfl,Vc fun tp N sc xs=>rfl,Ue fun tp N sc t x=>rfl⟩
 | comp tg it cd el fr ns htg hit R4 hel=>exact⟨Xr hit.2.2.2 R4.2.1 hel.1,Z9 (Xr hit.2.2.2 R4.2.1 hel.1) (fun _=>rfl) rfl,Vc fun tp N sc xs=>rfl,Ue fun tp N sc t x=>rfl⟩
 | itr q es ih=>exact⟨Xl fun tp N sc x=>rfl,Xc fun tp N sc x=>rfl,Vc fun tp N sc xs=>rfl,ni_itr ih.2.2.1⟩
 | tmp a ha=>exact⟨fun w X k N sc tp x c ct hr=>yg (ha.1 w X k N sc tp x c ct hr),Z9 (fun w X k N sc tp x c ct hr=>yg (ha.1 w X k N sc tp x c ct hr)) (fun _=>rfl) rfl,Vc fun tp N sc xs=>rfl,Ue fun tp N sc t x=>rfl⟩
def Qi:E->Bool
 | .comp _ _ _ _ _ _=>true
 | _=>false
noncomputable def Ui:Expr->Bool
 | .ListComp _ _ _ _=>false
 | .SetComp _ _ _ _=>false
 | .DictComp _ _ _ _ _=>false
 | _=>true
theorem F6{x:Expr}{t:Option Expr}{ln:Nat}{env:Env}(h:Ui x=true):swapsWith x t ln env=pure false:=by
 cases x<;>first | rfl | cases h
inductive ShS where
 | ret(x:Option Expr) | ex(x:Expr) | asg(t x:Expr) | ite(z:Expr)(a b:List Stmt) | loop(t it:Expr)(b:List Stmt) | wh(z:Expr)(b:List Stmt) | pass | brk | cont | rais(e:Expr) | tri(b:List Stmt)(c:Expr)(n:Str)(b₀:Stmt)(h:List Stmt) | non
noncomputable def shA:ZM->Expr->ShS
 | [],_=>.non
 | t::r,x=>match r with
  | []=>.asg t x
  | _::_=>.non
def shL(t it:Expr)(b:List Stmt):List Stmt->ShS
 | []=>.loop t it b
 | _::_=>.non
def shW(z:Expr)(b:List Stmt):List Stmt->ShS
 | []=>.wh z b
 | _::_=>.non
def shR:Option Expr->Option Expr->ShS
 | some e,none=>.rais e
 | _,_=>.non
noncomputable def shT(b:List Stmt):List ExceptHandler->List Stmt->List Stmt->ShS
 | [.ExceptHandler (some c) (some n) (b₀::h) _],[],[]=>.tri b c n b₀ h
 | _,_,_=>.non
noncomputable def M8:Stmt->ShS
 | .Return x _=>.ret x
 | .Expr x _=>.ex x
 | .Assign ts x _=>shA ts x
 | .If z a b _=>.ite z a b
 | .For t it b e _=>shL t it b e
 | .While z b e _=>shW z b e
 | .Pass _=>.pass
 | .Break _=>.brk
 | .Continue _=>.cont
 | .Raise e c _=>shR e c
 | .Try b hs o f _=>shT b hs o f
 | _=>.non
def ShSI:ShS->Stmt->Prop
 | .ret x,s=>∃p,s=.Return x p
 | .ex x,s=>∃p,s=.Expr x p
 | .asg t x,s=>∃p,s=.Assign [t] x p
 | .ite z a b,s=>∃p,s=.If z a b p
 | .loop t it b,s=>∃p,s=.For t it b [] p
 | .wh z b,s=>∃p,s=.While z b [] p
 | .pass,s=>∃p,s=.Pass p
 | .brk,s=>∃p,s=.Break p
 | .cont,s=>∃p,s=.Continue p
 | .rais e,s=>∃p,s=.Raise (some e) none p
 | .tri b c n b₀ h,s=>∃q p,s=.Try b [.ExceptHandler (some c) (some n) (b₀::h) q] [] [] p
 | .non,_=>True
theorem p6(s:Stmt):ShSI (M8 s) s:=by
 cases s
 case Assign ts x p=>cases ts with
  | nil=>trivial
  | cons t r=>cases r with
   | nil=>exact⟨_,rfl⟩
   | cons _ _=>trivial
 case For t it b e p=>cases e with
  | nil=>exact⟨_,rfl⟩
  | cons _ _=>trivial
 case While z b e p=>cases e with
  | nil=>exact⟨_,rfl⟩
  | cons _ _=>trivial
 case Raise e c p =>
  cases e<;>cases c<;>first | exact⟨_,rfl⟩ | trivial
 case Try b hs o f p =>
  show ShSI (shT b hs o f) _;unfold shT
  split
  .exact⟨_,_,rfl⟩
  .trivial
 all_goals first | exact⟨_,rfl⟩ | exact True.intro
theorem Y5{s:Stmt}{h:ShS}(e:M8 s=h):ShSI h s:=e ▸ p6 s
def Hu:E->Bool
 | .k t=>match t with
  | .non=>true
  | _=>false
 | _=>false
theorem qj{a:E}(h:Hu a=true):a=.k .non:=by
 cases a with
 | k t=>cases t with
  | non=>rfl
  | _=>cases h
 | _=>cases h
noncomputable def Hj(t:Expr):Option Str:=match T2 t with
 | .name y=>some y
 | _=>none
theorem C0{t:Expr}{y:Str}(h:Hj t=some y):∃p,t=.Name y p:=by
 unfold Hj at h
 split at h
 .rename_i e
  cases h;exact Ze e
 .cases h
noncomputable def uu(t:Expr):Option (Str×Expr):=match T2 t with
 | .sub o k=>(Hj o).map (·,k)
 | _=>none
theorem uh{t k:Expr}{y:Str}(h:uu t=some (y,k)):∃q p,t=.Subscript (.Name y q) k p:=by
 unfold uu at h
 split at h
 .rename_i e
  obtain⟨p,rfl⟩:=Ze e;obtain⟨z,e1,e2⟩:=Y8.mp h;cases e2;obtain⟨q,rfl⟩:=C0 e1;exact⟨q,p,rfl⟩
 .cases h
noncomputable def az(N:ZG)(sc:Scope):S->List Stmt->Bool
 | .seq (.set j a) .nil,[st]=>(match M8 st with
  | .asg t x=>(match Hj t with
   | some y=>N[j]? == some y && locs sc.names y && rep true N sc a x && Ui x
   | none=>false)
  | _=>false)
 | _,_=>false
noncomputable def repE(N:ZG)(sc:Scope):E->Expr->Bool
 | .k t,x=>y0 t x
 | .pr (.fld f) (.cons (.v i) .nil),x=>(match sx f x with
  | some [o]=>(match Jy o with
   | some y=>Gp N sc.names i y && !decide (f = "")
   | none=>false)
  | _=>false)
 | _,_=>false
noncomputable def ax(N:ZG)(sc:Scope):S->List Stmt->Bool
 | .seq (.set j a) .nil,[st]=>(match M8 st with
  | .asg t x=>(match Hj t with
   | some y=>N[j]? == some y && locs sc.names y && repE N sc a x && Ui x
   | none=>false)
  | _=>false)
 | _,_=>false
mutual
noncomputable def repS(N:ZG)(sc:Scope):S->Stmt->Bool
 | .ret a,st=>match M8 st with
  | .ret x=>(match x with
   | some x=>rep true N sc a x
   | none=>Hu a)
  | _=>false
 | .ex a,st=>match M8 st with
  | .ex x=>rep true N sc a x && Ui x
  | _=>false
 | .set i a,st=>match M8 st with
  | .asg t x=>(match Hj t with
   | some y=>N[i]? == some y && locs sc.names y && rep true N sc a x && (Ui x || Qi a)
   | none=>false)
  | _=>false
 | .unp tg a,st=>match M8 st with
  | .asg t x=>Jo N sc.names tg t && isTup t && rep true N sc a x && !isTup x
  | _=>false
 | .put i k a,st=>match M8 st with
  | .asg t x=>(match uu t with
   | some q=>Gp N sc.names i q.1 && rep true N sc a x && rep true N sc k q.2 && Ur q.2
   | none=>false)
  | _=>false
 | .ite c a b,st=>match M8 st with
  | .ite z x y=>rep true N sc c z && Tc c z && D9 N sc a x && D9 N sc b y
  | _=>false
 | .loop tg it b,st=>match M8 st with
  | .loop t iter body=>O4 true N sc t it iter && Jo N sc.names tg t && D9 N sc b body && Bi iter
  | _=>false
 | .wh c b,st=>match M8 st with
  | .wh z body=>rep true N sc c z && Tc c z && D9 N sc b body
  | _=>false
 | .pass,st=>match M8 st with
  | .pass=>true
  | _=>false
 | .brk,st=>match M8 st with
  | .brk=>true
  | _=>false
 | .cont,st=>match M8 st with
  | .cont=>true
  | _=>false
 | .rais c a,st=>match M8 st with
  | .rais e=>(match Mm e with
   | some (g,[x])=>c == g && Gi sc.names c && (Mq.any fun d=>decide (d.c=c)) && rep true N sc a x && noStar x
   | _=>false)
  | _=>false
 | .tri b c i h,st=>match M8 st with
  | .tri body t n b₀ suite=>(match Jy t with
   | some g=>(match i with
    | some i=>c == g && Gi sc.names c && jq.contains c && N[i]? == some n && sc.names.lookup n == some .local && az N sc b body && ax N sc h (b₀::suite)
    | none=>false)
   | none=>false)
  | _=>false
 | _,_=>false
noncomputable def D9(N:ZG)(sc:Scope):S->List Stmt->Bool
 | .nil,[]=>true
 | .seq a r,st::rest=>repS N sc a st && D9 N sc r rest
 | _,_=>false
end
theorem xq{elt:Expr}{gs:List Comprehension}{scope:Scope}{pos p:Pos}{t:Str}{ln:Nat}{env:Env}:swapsWith (.ListComp elt gs scope pos) (some (.Name t p)) ln env=pure (env.blockKind == .function && env.kindOf t == some .local && p.line == pos.line && !(scope.names.any fun(n,k)=>n == t && (k == .local || k == .cell))):=rfl
def NS(s:S):Prop:=∀(w:W) (X:Cx) (k:Nat) (N:ZG) (sc:Scope),Ct X w k N sc.names->X.env.scope.names=sc.names->PassesOwn (model X.prog X.w) X.A X.env X.xe->X.stack=X.env::X.outer->X.env.frame=some X.env.locals->(∀st,repS N sc s st=true->SS w s X st)/\∀sts,D9 N sc s sts=true->SB w s X sts
theorem Be{s:S}{w:W}{X:Cx}{N:ZG}{sc:Scope}(h:∀sts,D9 N sc s sts=false):∀sts,D9 N sc s sts=true->SB w s X sts:=fun sts z=>by rw[h]at z;cases z
theorem no_S{s:S}{w:W}{X:Cx}{N:ZG}{sc:Scope}(h:∀st,repS N sc s st=false):∀st,repS N sc s st=true->SS w s X st:=fun st z=>by rw[h]at z;cases z
section
variable{X:Cx}{w:W}{k:Nat}{N:ZG}{sc:Scope}
theorem Zxn(c:Ct X w k N sc.names)(ct:X.env.scope.names=sc.names){i:Nat}{a:E}{x:Expr}{y:Str}{pos pos':Pos}(h1:N[i]?=some y)(h2:locs sc.names y=true)(h3:rep true N sc a x=true)(h4:(Ui x || Qi a)=true):SS w (.set i a) X (.Assign [.Name y pos'] x pos):=by
 have hse:=(Jm a).1 w X k N sc true x c (fun _=>ct) h3;rw[Bool.or_eq_true]at h4;rcases h4 with h4 | h4
 .exact ve c h1 h2 hse (F6 h4)
 .cases a<;>first | cases h4 | skip
  rename_i tg it cd el fr ns
  obtain⟨elt,t,iter,ifs,scope,O6,rfl,g1,g2,g3,g4,g5,g6,g7,g8,g9,g10⟩:=zv h3
  have hsw:swapsWith (.ListComp elt [⟨t,iter,ifs,0⟩] scope O6) (some (.Name y pos')) pos.line X.env=pure false\/swapsWith (.ListComp elt [⟨t,iter,ifs,0⟩] scope O6) (some (.Name y pos')) pos.line X.env=pure true:=by
   rw[xq];cases(X.env.blockKind == .function && X.env.kindOf y == some .local && pos'.line == O6.line && !(scope.names.any fun(n,k)=>n == y && (k == .local || k == .cell)))<;>first | exact .inl rfl | exact .inr rfl
  rcases hsw with hsw | hsw
  .exact ve c h1 h2 hse hsw
  .exact sf c ct c.calm g3 g4 g5 h1 h2 ((Jm it).2.2.2 w X k N sc true t iter c (fun _=>ct) g2) g8 g6 (cq (Jm cd).2.1 g9) (fun Y cc=>(Jm el).1 w.nx Y k ns scope false elt cc (fun z=>nomatch z) g10) (G9 g7) hsw
theorem tri_n(c:Ct X w k N sc.names){e:Addr}{h:S}{b₀:Stmt}{suite:List Stmt}(hr:ax N sc h (b₀::suite)=true):SB w h (X.ec e) (b₀::suite):=by
 unfold ax at hr
 split at hr
 rotate_left
 .cases hr
 rename_i j a st eq
 cases eq
 split at hr
 rotate_left
 .cases hr
 rename_i t x es
 obtain⟨p0,rfl⟩:=Y5 es
 split at hr
 rotate_left
 .cases hr
 rename_i y ey
 obtain⟨p1,rfl⟩:=C0 ey;simp only[Vi,beq_iff_eq]at hr;obtain⟨⟨⟨h1,h2⟩,h3⟩,h4⟩:=hr;refine Ka (I8 (X:=X.ec e) (by show X.N.Nodup;rw[c.nN];exact c.nd) (by show X.N[j]?=_;rw[c.nN];exact h1) (c.loc h2) ?_ (F6 h4)) Ko;unfold repE at h3
 split at h3
 .unfold y0 at h3
  split at h3
  .rename_i cc e
   cases x<;>first | cases e | skip
   exact se_k (zj h3)
  .cases h3
 .split at h3
  rotate_left
  .cases h3
  rename_i o ev
  split at h3
  rotate_left
  .cases h3
  rename_i z ez
  obtain⟨o',p2,rfl,hn,eo⟩:=Ic ev;cases eo;obtain⟨p3,rfl⟩:=Vv ez;rw[Vi]at h3;have n:=c.nm' h3.1;exact ym (X:=X.ec e) c.bn hn (.cons (yq (X:=X.ec e) (m:=true) ⟨n.n,n.d,n.c⟩).1 rfl .nil) (by simpa using h3.2)
 .cases h3
theorem try_n{F:OM}{E:ZQ}{w':W}(ct:X.env.scope.names=sc.names){b:S}{body:List Stmt}(hr:az N sc b body=true)(c:Ct (X.tr F E) w' k N sc.names):SB w' b (X.tr F E) body:=by
 unfold az at hr
 split at hr
 rotate_left
 .cases hr
 split at hr
 rotate_left
 .cases hr
 rename_i t x es
 obtain⟨p0,rfl⟩:=Y5 es
 split at hr
 rotate_left
 .cases hr
 rename_i y ey
 obtain⟨p1,rfl⟩:=C0 ey;simp only[Vi,beq_iff_eq]at hr;obtain⟨⟨⟨h1,h2⟩,h3⟩,h4⟩:=hr;exact Ka (Zxn c ct h1 h2 h3 (by rw[h4];rfl)) Ko
end
theorem gj:∀s:S,NS s:=by
 intro s
 induction s with
 | nil =>
  intro w X k N sc c ct po Dv Du;refine⟨no_S fun st=>rfl,fun sts h=>?_⟩;cases sts with
  | nil=>exact Ko
  | cons _ _=>cases(show false=true from h)
 | seq a r ha hr =>
  intro w X k N sc c ct po Dv Du;refine⟨no_S fun st=>rfl,fun sts h=>?_⟩;cases sts with
  | nil=>cases(show false=true from h)
  | cons st rest =>
   obtain⟨h1,h2⟩:=zh.mp (show (repS N sc a st && D9 N sc r rest)=true from h);exact Ka ((ha w X k N sc c ct po Dv Du).1 st h1) ((hr w X k N sc c ct po Dv Du).2 rest h2)
 | ret a =>
  intro w X k N sc c ct po Dv Du;refine⟨fun st h=>?_,Be fun sts=>rfl⟩
  replace h:(match M8 st with | .ret x=>(match x with | some x=>rep true N sc a x | none=>Hu a) | _=>false)=true:=h
  split at h
  .rename_i e
   obtain⟨p,rfl⟩:=Y5 e
   split at h
   .exact ss_ret ((Jm a).1 w X k N sc true _ c (fun _=>ct) h)
   .rw[qj h];exact sr
  .cases h
 | ex a =>
  intro w X k N sc c ct po Dv Du;refine⟨fun st h=>?_,Be fun sts=>rfl⟩
  replace h:(match M8 st with | .ex x=>rep true N sc a x && Ui x | _=>false)=true:=h
  split at h
  .rename_i e
   obtain⟨p,rfl⟩:=Y5 e;rw[Vi]at h;exact ss_ex ((Jm a).1 w X k N sc true _ c (fun _=>ct) h.1) (F6 h.2)
  .cases h
 | set i a =>
  intro w X k N sc c ct po Dv Du;refine⟨fun st h=>?_,Be fun sts=>rfl⟩
  replace h:(match M8 st with | .asg t x=>(match Hj t with | some y=>N[i]? == some y && locs sc.names y && rep true N sc a x && (Ui x || Qi a) | none=>false) | _=>false)=true:=h
  split at h
  .rename_i e
   obtain⟨p,rfl⟩:=Y5 e
   split at h
   .rename_i e
    obtain⟨p,rfl⟩:=C0 e;simp only[Vi,beq_iff_eq]at h;obtain⟨⟨⟨h1,h2⟩,h3⟩,h4⟩:=h;exact Zxn c ct h1 h2 h3 h4
   .cases h
  .cases h
 | unp tg a =>
  intro w X k N sc c ct po Dv Du;refine⟨fun st h=>?_,Be fun sts=>rfl⟩
  replace h:(match M8 st with | .asg t x=>Jo N sc.names tg t && isTup t && rep true N sc a x && !isTup x | _=>false)=true:=h
  split at h
  .rename_i t x e
   obtain⟨p,rfl⟩:=Y5 e;simp only[Vi]at h;obtain⟨⟨⟨h1,h2⟩,h3⟩,h4⟩:=h;cases t<;>first | cases h2 | skip
   exact ss_unp c c.calm h1 ((Jm a).1 w X k N sc true _ c (fun _=>ct) h3) (by simpa using h4)
  .cases h
 | put i kk a =>
  intro w X k N sc c ct po Dv Du;refine⟨fun st h=>?_,Be fun sts=>rfl⟩
  replace h:(match M8 st with | .asg t x=>(match uu t with | some q=>Gp N sc.names i q.1 && rep true N sc a x && rep true N sc kk q.2 && Ur q.2 | none=>false) | _=>false)=true:=h
  split at h
  .rename_i e
   obtain⟨p,rfl⟩:=Y5 e
   split at h
   .rename_i e
    obtain⟨q,p,rfl⟩:=uh e;simp only[Vi]at h;obtain⟨⟨⟨h1,h2⟩,h3⟩,h4⟩:=h;exact ss_put (c.nm' h1) ((Jm a).1 w X k N sc true _ c (fun _=>ct) h2) ((Jm kk).1 w X k N sc true _ c (fun _=>ct) h3)
   .cases h
  .cases h
 | ite cd a b ha hb =>
  intro w X k N sc c ct po Dv Du;refine⟨fun st h=>?_,Be fun sts=>rfl⟩
  replace h:(match M8 st with | .ite z x y=>rep true N sc cd z && Tc cd z && D9 N sc a x && D9 N sc b y | _=>false)=true:=h
  split at h
  .rename_i e
   obtain⟨p,rfl⟩:=Y5 e;simp only[Vi]at h;obtain⟨⟨⟨h1,h2⟩,h3⟩,h4⟩:=h;exact ss_ite ((Jm cd).2.1 w X k N sc true _ _ c (fun _=>ct) h1 h2 (.inr rfl)) ((ha w X k N sc c ct po Dv Du).2 _ h3) ((hb w X k N sc c ct po Dv Du).2 _ h4)
  .cases h
 | loop tg it b hb =>
  intro w X k N sc c ct po Dv Du;refine⟨fun st h=>?_,Be fun sts=>rfl⟩
  replace h:(match M8 st with | .loop t iter body=>O4 true N sc t it iter && Jo N sc.names tg t && D9 N sc b body && Bi iter | _=>false)=true:=h
  split at h
  .rename_i e
   obtain⟨p,rfl⟩:=Y5 e;simp only[Vi]at h;obtain⟨⟨⟨h1,h2⟩,h3⟩,h4⟩:=h;exact ss_for po c c.calm ((Jm it).2.2.2 w X k N sc true _ _ c (fun _=>ct) h1) h2 (fun fp hh cc=>(hb w _ k N sc cc ct po Dv Du).2 _ h3) (G9 h4)
  .cases h
 | wh cd b hb =>
  intro w X k N sc c ct po Dv Du;refine⟨fun st h=>?_,Be fun sts=>rfl⟩
  replace h:(match M8 st with | .wh z body=>rep true N sc cd z && Tc cd z && D9 N sc b body | _=>false)=true:=h
  split at h
  .rename_i e
   obtain⟨p,rfl⟩:=Y5 e;simp only[Vi]at h;obtain⟨⟨h1,h2⟩,h3⟩:=h;exact ss_wh po ((Jm cd).2.1 w X k N sc true _ _ c (fun _=>ct) h1 h2 (.inr rfl)) ((hb w X k N sc c ct po Dv Du).2 _ h3)
  .cases h
 | pass =>
  intro w X k N sc c ct po Dv Du;refine⟨fun st h=>?_,Be fun sts=>rfl⟩
  replace h:(match M8 st with | .pass=>true | _=>false)=true:=h
  split at h
  .rename_i e;obtain⟨p,rfl⟩:=Y5 e;exact su
  .cases h
 | brk =>
  intro w X k N sc c ct po Dv Du;refine⟨fun st h=>?_,Be fun sts=>rfl⟩
  replace h:(match M8 st with | .brk=>true | _=>false)=true:=h
  split at h
  .rename_i e;obtain⟨p,rfl⟩:=Y5 e;exact ss_brk
  .cases h
 | cont =>
  intro w X k N sc c ct po Dv Du;refine⟨fun st h=>?_,Be fun sts=>rfl⟩
  replace h:(match M8 st with | .cont=>true | _=>false)=true:=h
  split at h
  .rename_i e;obtain⟨p,rfl⟩:=Y5 e;exact pz
  .cases h
 | rais cl a =>
  intro w X k N sc c ct po Dv Du;refine⟨fun st h=>?_,Be fun sts=>rfl⟩
  replace h:(match M8 st with | .rais e=>(match Mm e with | some (g,[x])=>cl == g && Gi sc.names cl && (Mq.any fun d=>decide (d.c=cl)) && rep true N sc a x && noStar x | _=>false) | _=>false)=true:=h
  split at h
  .rename_i e
   obtain⟨p,rfl⟩:=Y5 e
   split at h
   .rename_i e
    obtain⟨q,p,rfl⟩:=Cu e;simp only[Vi,beq_iff_eq]at h;obtain⟨⟨⟨⟨rfl,h2⟩,h3⟩,h4⟩,h5⟩:=h;exact sp c c.calm h2 h3 ((Jm a).1 w X k N sc true _ c (fun _=>ct) h4) h5
   .cases h
  .cases h
 | tri b cl i h0 =>
  intro w X k N sc c ct po Dv Du;refine⟨fun st h=>?_,Be fun sts=>rfl⟩
  replace h:(match M8 st with | .tri body t n b₀ suite=>(match Jy t with | some g=>(match (generalizing:=false) i with | some i=>cl == g && Gi sc.names cl && jq.contains cl && N[i]? == some n && sc.names.lookup n == some .local && az N sc b body && ax N sc h0 (b₀::suite) | none=>false) | none=>false) | _=>false)=true:=h
  split at h
  .rename_i e
   obtain⟨q,p,rfl⟩:=Y5 e
   split at h
   .rename_i e
    obtain⟨q2,rfl⟩:=Vv e
    split at h
    .simp only[Vi,beq_iff_eq]at h;obtain⟨⟨⟨⟨⟨⟨rfl,h2⟩,h3⟩,h4⟩,h5⟩,h6⟩,h7⟩:=h;exact ss_tri c c.calm Dv Du h2 h3 h4 h5 (fun F E w' cc=>try_n ct h6 cc) fun e=>tri_n c h7
    .cases h
   .cases h
  .cases h
end PV
namespace Att
open PySem PySem.W PySem.Calls PyProof.Rows
theorem T5{P:Params}{h:Heap}:∀(ns:ZT) (vs:ZK),WellAll P h vs (ns.map WData.int)->IntsAre vs ns:=by
 intro ns
 induction ns with
 | nil =>
  intro vs w;rw[List.map_nil]at w;cases w;exact .nil
 | cons n ns ih =>
  intro vs w;rw[P8]at w;cases w with
  | cons a b =>
   cases a;exact .cons _ _ (ih _ b)
theorem xg{l:OpenLaw}{n:Nat}(hn:l.most=some n){P:Params}{h:Heap}{args:List WData}{vals:ZK}
  (Zzq:l.row.toRowW.claim.pre args=true) (hwl:WellAll P h vals args) :
  ∃a vs ns,vals=[Value.ref a]/\args=[WData.list (ns.map WData.int)]/\h.get? a=some { cls:=.type "list",data:=.seq vs.toArray }/\IntsAre vs ns/\ns.length<=n:=by
 have hsh:WShape.hasAll [] args [.list .int]=true:=(pre_splitW Zzq).1;have hc:l.pre.holds [] { args:=args }=true:=(pre_splitW Zzq).2;obtain⟨d,r,rfl,h1,h2⟩:=hasAllW_cons hsh;obtain rfl:=hasAllW_nil h2;obtain⟨xs,rfl,h3⟩:=hasW_list h1;obtain⟨ns,rfl⟩:=items_int h3
 have hlen:ns.length<=n:=by
  unfold OpenLaw.pre at hc
  have h4:(WTm.not (.lt (.lit (.int (n:Int))) (.len (.arg 0)))).holds [] { args:=[.list (ns.map .int)] }=true:=by
   have h4:=(holds_andW hc).1;rw[hn]at h4;exact h4
  have h5:=condW_of h4 (w_not (w_lt w_lit (w_len_list (w_arg rfl))));rw[Za]at h5;refine Nat.le_of_not_lt fun q=>?_;have q':(n:Int)<((ns.length:Nat):Int):=by omega
  first
   | (rw[Ml q']at h5;exact absurd h5 (by decide))
   | (simp at h5;omega)
 cases hwl with
 | cons w1 w2 =>
  cases w2;cases w1 with
  | list ho hall=>exact⟨_,_,ns,rfl,rfl,ho,T5 ns _ hall,hlen⟩
theorem xl(l:OpenLaw)(args:List WData):l.row.toRowW.claim.post args (.bool true) args=true :=
 postW_of (r:=l.row.toRowW) (X:=(true == true))
  (show WShape.has [] (.bool true) .bool=true by first | rfl | decide | simp[WShape.has,WShape.arms,WShape.armsAll])
  (show (WTm.eq .res (.lit (.bool true))).value [] { args:=args,res:=some (.bool true),after:=args }=some (.bool (true == true)) from w_eq_bool (w_res rfl) w_lit) rfl
theorem E4{l:OpenLaw}{n:Nat}{q:Program}{loose:ZG}{XP:(ZJ)->Heap->Prop}{YP:World->Heap->Prop}{d:DefRec}
  (hn:l.most=some n) (hdf:d.params.defaults=[])
  (call:∀(w:World) (s₀ s₁:Shared) (mg mb:ZJ) (fa:Addr) (o:Obj) (pm cd doc:Value) (a:Addr) (vs:ZK) (ns:ZT),
   Ground q loose [] XP w s₀ mg mb s₁.heap->YP w s₁.heap ->
   s₁.heap.get? fa=some o->o.data=.func (docDef d.name d.params d.body d.scope pm cd doc)->s₁.heap.CodeRec cd d.name->mg d.name=some (.ref fa) ->
   s₁.heap.get? a=some { cls:=.type "list",data:=.seq vs.toArray }->IntsAre vs ns->ns.length<=n->s₁.gens=#[] ->
   codeAny (model l.prog w) callerA (.call (.ref fa) ⟨[.ref a],[]⟩) (fun r s'=>r=.ok (.ret (.bool true))/\OldK s₁.heap s'.heap/\s'.os=s₁.os/\AllBare s'.gens) s₁) :
  WalkO q loose XP YP l.row.toRowW d [] (fun f vs=>PySem.call f vs):=by
 intro w s₀ s₁ mg mb G Y fa o pm cd doc dV kV ho hd R4 hD hmg hg args vals as Zzq hlay hrd hwl hlo;obtain rfl:dV=.none:=Dflts.none hD hdf;obtain rfl:kV=.none:=Dflts.noKw hD;obtain⟨a,vs,ns,rfl,rfl,hobj,hints,hlen⟩:=xg hn Zzq hwl;refine enter_call (codeAny_mono (call w s₀ s₁ mg mb fa o pm cd doc a vs ns G Y ho (fd_plain hd) R4 hmg hobj hints hlen hg) fun r s' hq=>?_);obtain⟨rfl,h2,h3,h4⟩:=hq;exact⟨.inl ⟨.bool true,.bool true,[],rfl,fun _=>rfl,.bool true,xl l _,fun _=>⟨List.Pairwise.nil,fun _ hm=>(nomatch hm)⟩⟩,h2,h3,h4⟩
end Att
namespace L2
open PySem PySem.Spec PyProof.Rows
end L2
namespace PV
open PySem PySem.Spec PyProof.Rows L2
theorem Zc.mk'{K:W.Frag}{x:Str}{st:Stmt}{f:Addr}{oc:Value}{od an:ZR}{osl:ZY}{kV doc pm cdv ct:Value}(l:K.lookup f=some ⟨oc,od,.func (W.fnOf x x (Vy st) (Z2 st) (Zx st) .none kV doc pm an cdv ct),osl⟩)
  (c:W.codeIn K cdv x=true) (k:W.keepIn K (.ref f)=true):Zc K x st f (W.fnOf x x (Vy st) (Z2 st) (Zx st) .none kV doc pm an cdv ct):=⟨⟨oc,od,kV,doc,pm,an,cdv,ct,osl,rfl,l,c⟩,k⟩
structure V9(g:Md)(f:Str)(d:Df):Prop where
 ex:∃st a fd N ps,Zc g.K f st a fd/\g.mg f=some (.ref a)/\U9 N ps (Zx st)/\N.length=d.n/\ps.length=d.ar/\D9 N (Zx st) d.code (Z2 st)=true/\Binds g.K fd ps []
def jo(g:Md)(gl:Str->Option T):Prop:=∀x t,gl x=some t->∃v,g.mg x=some v/\IsT g g.base.get? t v
section
variable{g:Md}{tab:Str->Option Df}{gl:Str->Option T}
theorem Zqd{Y:Cx}{w:W}{k:Nat}{N ps:ZG}{sc:Scope}{C:Cs}(eY:Y.toMd=g)(es:Y.env.scope=sc)(eN:Y.N=N)(eo:Y.own=true)(ec:Y.calm=true)(hr:P5 k Y.A)(e1:w.C=C)(e2:w.gl=gl)(hx:jh Y w)(S:U9 N ps sc)(bn:BN g)(fn:∀f as R Xe,C f as R Xe->FnP g C k f)(hg:jo g gl):Ct Y w k N sc.names:=by
 subst eY e1 e2;exact⟨eN,S.nd,fun y kd e=>.inl (by rw[es];exact e),fun _=>hr,(by have:=hr.un;omega),hr.gd,bn,fn,hg,hx,fun _ _=>eo,ec⟩
theorem di{x:Str}{d:Df}{k:Nat}{C C':Cs}(F:V9 g x d)(bn:BN g)(fn:∀f as R Xe,C f as R Xe->FnP g C k f)(hg:jo g gl)(hC:∀as R Xe,C' x as R Xe->W6 d ⟨C,gl,fun e _=>Xe e⟩ as R):FnP g C' (k+1) x:=by
 obtain⟨st,a,fd,N,ps,Fn,hm,S,hn,ha,hrep,hb⟩:=F.ex;exact fn_of Fn hm S hn ha hb hC fun Y w eY es eN eo ec Dv Du hr e1 e2 hx po=>(gj d.code w Y k N (Zx st) (Zqd eY es eN eo ec hr e1 e2 hx S bn fn hg) (by rw[es]) po Dv Du).2 _ hrep
theorem knot(bn:BN g)(ft:∀f d,tab f=some d->V9 g f d)(hg:jo g gl):∀n f as R Xe,Cn tab gl n f as R Xe->FnP g (Cn tab gl n) n f
 | 0,f,as,R,Xe,h=>h.elim
 | n+1,f,as,R,Xe,h=>by
  obtain⟨d,e,_⟩:=Zi (show on (tab f) (fun d=>W6 d ⟨Cn tab gl n,gl,fun e _=>Xe e⟩ as R) from h)
  exact di (ft f d e) bn (knot bn ft hg n) hg fun as R Xe h=>by
   obtain⟨d',e',h⟩:=Zi (show on (tab f) (fun d=>W6 d ⟨Cn tab gl n,gl,fun e _=>Xe e⟩ as R) from h);rw[e]at e';cases e';exact h
noncomputable def Er(g:Md)(A:Around)(s:Shared)(u:Value)(N:ZG)(x:Str)(sc:Scope)(f:Addr)(cd:Value):Cx where
 toMd:=g
 A:=A.deeper (envOfC x sc s.heap.objs.size f cd)
 N:=N
 env:=envOfC x sc s.heap.objs.size f cd
 outer:=[]
 stack:=[envOfC x sc s.heap.objs.size f cd]
 own:=true
 calm:=true
 os:=s.os
 G:=fun _=>none
 F0:=s.heap.get?
 σ0:=start N [u]
 pt:=fun _=>false
 xe:=fun _ _=>False
theorem eg{A:Around}{s s1:Shared}{u:Value}{t:T}{N:ZG}{x y:Str}{sc:Scope}{f:Addr}{cd:Value}(mod:Mod g)(hb:g.base=s.heap)(bare:AllBare s.gens)(hd:A.handled=none)(hf:A.frames=some [])(S:U9 N [y] sc)(it:IsT g s.heap.get? t u)
  (x1:InCallC s s.heap.objs.size (bindL (envOfC x sc s.heap.objs.size f cd).kindOf ([y].zip [u]) fun _=>none) (cellsFrom (s.heap.objs.size+1) sc.names []) (bindC (envOfC x sc s.heap.objs.size f cd).kindOf ([y].zip [u]) fun _=>none) s1) :
  Inv (Er g A s u N x sc f cd) s.heap.get? (.f t::List.replicate (N.length - 1) .no) (start N [u]) s1:=by
 have hpl:1<=N.length:=by have:=congrArg List.length S.pre;rw[nu]at this;simp at this;omega
 obtain⟨h1,tk,rfl,hk⟩:=x1.done;have new:∀{b:Addr},s.heap.objs.size<=b->s.heap.get? b=none:=fun h=>Heap.get?_none_of_le h
 have nokp:∀{b:Addr} {o:Obj},s.heap.get? b=some o->¬ (Er g A s u N x sc f cd).kp b:=fun {b o} e h=>by
  rcases h with h | rfl | ⟨_,y,h⟩
  .exact h rfl
  .exact absurd ((new (D5 _)).symm.trans (show s.heap.get? s.heap.objs.size=some o from e)) fun z=>nomatch z
  .rw[new (Nat.le_of_lt (x1.above y b (PySem.mem_of_lookup h)))]at e;cases e
 have no:∀{i:Nat} {q:Sl},(Sl.f t::List.replicate (N.length - 1) Sl.no)[i]?=some q->q≠.no->i=0/\q=.f t:=fun {i q} h n=>by
  cases i with
  | zero=>exact⟨rfl,(M7 h).symm⟩
  | succ i =>
   rw[List.getElem?_cons_succ,List.getElem?_replicate]at h
   split at h
   .cases h;exact absurd rfl n
   .cases h
 refine⟨⟨mod,S.kind,rfl,rfl,by show g.base.objs.size<=_;rw[hb];exact D5 _,fun y z c e1 e2=>name_of_addr x1.apart (PySem.mem_of_lookup e1) (PySem.mem_of_lookup e2),fun y hy=>?_,fun _=>hd,Around.frames_deeper hf,.inr ⟨rfl,rfl⟩,fun a o e=>(by show s.heap.get? a=some o;rw[<-hb];exact e),fun b hb=>absurd hb (by simp[H7,Er]),fun a ma=>rfl,fun y c _=>.inl rfl⟩,
  rfl,bare,.refl _,fun a o e=>⟨hk a o e,nokp e⟩,(fun a o e=>nomatch e),trivial,⟨_,x1.toInCall.ns,fun i z v e1 e2=>?_⟩,fun y c e=>⟨_,x1.cell y c e⟩, ?_,⟨fun i t' e=>?_,fun i t' e=>?_,fun i j t' u' a e1 _ _ _=>?_, ?_⟩,fun _ h=>nomatch h⟩
 .have hy:sc.names.lookup y=some .cell\/sc.names.lookup y=some .free:=hy;rcases hy with hy | hy
  .exact Bx hy
  .exact absurd rfl (S.nofree _ (PySem.mem_of_lookup hy))
 .have hi:i < [u].length:=by
   refine Nat.lt_of_not_le fun z=>?_;have e2:(start N [u])[i]?=some (some v):=e2;unfold start at e2;rw[List.getElem?_append_right (by simpa using z),List.getElem?_replicate]at e2
   split at e2<;>cases e2
  have e2:(start N [u])[i]?=some (some v):=e2;rw[Vl hi]at e2;have hu:=M7 e2
  have hp:([y]:ZG)[i]?=some z:=by
   rw[<-S.pre,List.getElem?_take_of_lt (by exact hi)];exact e1
  have ndP:([y]:ZG).Nodup:=by simp
  rcases S.par z (List.mem_of_getElem? hp) with k | k
  .exact .inl ⟨k,Jn ndP hp hu k⟩
  .obtain⟨c,e⟩:=Bx (n:=s.heap.objs.size+1) k;refine .inr ⟨.inl k,c,e, ?_⟩;have q:=x1.cell z c e;rw[Tj ndP hp hu (by show sc.names.lookup z≠_;rw[k];decide)]at q;exact q
 .unfold start;show _=N.length;rw[Gc,Za,List.length_replicate];simp;omega
 .obtain⟨rfl,z⟩:=no e fun z=>nomatch z;cases z;exact⟨u,rfl,it⟩
 .obtain⟨_,z⟩:=no e fun z=>nomatch z;cases z
 .obtain⟨_,z⟩:=no e1 fun z=>nomatch z;cases z
 .unfold start;rw[Jl,Gc,Za,List.length_replicate,List.length_replicate];simp;omega
theorem ib{n:Nat}{x:Str}{d:Df}{A:Around}{s:Shared}{fa:Addr}{t:T}{u:Value}(bn:BN g)(ft:∀f d,tab f=some d->V9 g f d)(hg:jo g gl)(mod:Mod g)(hb:g.base=s.heap)(bare:AllBare s.gens)(hr:P5 (n+1) A)(hf:A.frames=some [])(hm:g.mg x=some (.ref fa))(it:IsT g s.heap.get? t u)(e:tab x=some d)
  (law:Cn tab gl (n+1) x [.f t] (fun r=>r=(.f (.bl true),[])) fun _=>False) :
  codeAny (model g.prog g.w) A (.call (.ref fa) ⟨[u],[]⟩) (fun r s'=>r=.ok (.ret (.bool true))/\(∀b o,s.heap.get? b=some o->s'.heap.get? b=some o)/\s'.os=s.os/\AllBare s'.gens) s:=by
 obtain⟨d',e',law⟩:=Zi (show on (tab x) (fun d=>W6 d ⟨Cn tab gl n,gl,fun e _=>False⟩ [.f t] fun r=>r=(.f (.bl true),[])) from law);rw[e]at e';cases e';obtain⟨st,a,fd,N,ps,Fn,hm',S,hn,ha,hrep,hbi⟩:=(ft x d e).ex;rw[hm]at hm';cases hm';unfold W6 at law
 split at law
 rotate_left
 .exact law.elim
 rename_i har
 have har:1=d.ar:=har
 obtain⟨y,rfl⟩:∃y,ps=[y]:=by
  match ps,ha with
  | [y],_=>exact⟨y,rfl⟩
  | [],h=>rw[<-har]at h;cases h
  | _::_::_,h=>rw[<-har]at h;simp at h
 obtain⟨oc,od,kV,doc,pm,an,cdv,ct,osl,rfl,lk,R4⟩:=Fn.ex;have KX:g.K.In s.heap:=by rw[<-hb];exact mod.kin
 have lim:s.heap.NoLimit:=by rw[<-hb];exact mod.nolimit
 have bb:=hbi s [u] KX rfl;rw[ZE]at bb;refine codeAny_call_function (by have:=hr.dp;omega) (KX _ _ lk) rfl S.co S.gen rfl (W.codeRec_of KX R4) (bb _ _ _ _ ?_);refine wpAny_newFunctionEnv_cells S.kind (fun⟨n,v⟩ hy=>?_) fun env he s1 x1=>?_
 .rcases S.par n (List.of_mem_zip hy).1 with q | q
  .exact .inl q
  .exact .inr ⟨q,W.cellsFrom_some _ _ _ (.inl q)⟩
 subst he;refine⟨lim.keeps x1.toInCall.keep,codeAny_func ?_⟩;have I1:=eg (x:=x) (f:=fa) (cd:=cdv) mod hb bare hr.hd hf S it x1;have c:Ct (Er g A s u N x (Zx st) fa cdv) ⟨Cn tab gl n,gl,fun e _=>False⟩ n N (Zx st).names:=Zqd rfl rfl rfl rfl rfl (hr.deeper _) rfl rfl (fun _ _ _ _ _ _ _ _ _ z=>z.elim) S bn (knot bn ft hg n) hg;have hN:d.n - d.ar=N.length - 1:=by omega
 rw[hN]at law
 have pt:Yb [Sl.f t]=fun _=>false:=by
  funext i
  unfold Yb
  match i with
  | 0=>rfl
  | i+1=>rfl
 rw[pt]at law;refine wpAny_mono ((gj d.code _ _ n N (Zx st) c rfl PassesOwn.never rfl rfl).2 _ hrep s.heap.get? _ _ s1 _ I1 law) (fun fl s' ⟨F',q,τ,l,J,fo⟩=>?_) fun _ _ z=>z.elim
 have fin:∀{r:Sl} {v:Value},Res (Er g A s u N x (Zx st) fa cdv) F' q τ s'.heap r v->on (fin [.f t] r q) (fun r=>r=(.f (.bl true),[]))->v=.bool true/\(∀b o,s.heap.get? b=some o->s'.heap.get? b=some o)/\s'.os=s.os/\AllBare s'.gens:=fun {r v} rs h=>by
  obtain⟨z,e,h⟩:=Zi h;obtain⟨ts,e2,rfl⟩:=Y8.mp e;cases h;have rs:Top g F' F' (.bl true) v:=rs;cases rs;exact⟨rfl,fun b o e=>(J.f b o (l b o e)).1,J.os,J.bare⟩
 cases fl with
 | ret v =>
  obtain⟨r,rs,h⟩:=fo;obtain⟨rfl,h⟩:=fin rs h;exact⟨rfl,h⟩
 | next =>
  obtain⟨z,_⟩:=fin (r:=.f .non) (v:=Value.none) Top.non fo;cases z
 | brk=>exact fo.elim
 | cont=>exact fo.elim
end
theorem ints_T{g:Md}{F:OM}{vs:ZK}{ns:ZT}(h:IntsAre vs ns):Zs g F (ns.map .int) vs:=by
 induction h with
 | nil=>exact .nil
 | cons z t r ih=>exact .cons .int ih
theorem walkE{l:W.OpenLaw}{q:Program}{loose:ZG}{XP:(ZJ)->Heap->Prop}{YP:World->Heap->Prop}{d:DefRec}{K:Params->W.Frag}{n:Nat}{df:Df}{tab:Str->Option Df}{gl:Str->Option T}(hn:l.most=some 63)(hdf:d.params.defaults=[])(hr:P5 (n+1) callerA)(hf:callerA.frames=some [])
  (hY:∀(w:World) (h:Heap),YP w h->(K w.params).In h) (e:tab d.name=some df)
  (F:∀(w:World) (mg:ZJ) (h:Heap),(K w.params).In h->h.Ns mainGlobals mg->BN ⟨l.prog,w,mg,K w.params,h⟩/\(∀f d,tab f=some d->V9 ⟨l.prog,w,mg,K w.params,h⟩ f d)/\jo ⟨l.prog,w,mg,K w.params,h⟩ gl)
  (law:∀zs:ZT,zs.length<=63->Cn tab gl (n+1) d.name [.f (.lst (zs.map .int))] (fun r=>r=(.f (.bl true),[])) fun _=>False) :
  W.WalkO q loose XP YP l.row.toRowW d [] (fun f vs=>PySem.call f vs):=by
 refine Att.E4 hn hdf fun w s₀ s₁ mg mb fa o pm cd doc a vs ns G Y ho hd R4 hmg hobj hints hlen hg=>?_;have KX:=hY w _ Y;obtain⟨bn,ft,gk⟩:=F w mg _ KX G.T.g;have lv:=hints.length;refine codeAny_mono (ib (g:=⟨l.prog,w,mg,K w.params,s₁.heap⟩) (t:=.lst (ns.map .int)) bn ft gk ⟨KX,G.T.g,⟨mb,G.T.b,G.T.builtins⟩,G.T.nolimit⟩ rfl (.of_eq hg) hr hf hmg (.mkL hobj ⟨by rw[lv];exact Gs hlen (by decide),0,rfl⟩ (ints_T hints)) e (law ns hlen)) fun r s' ⟨h1,h2,h3,h4⟩=>⟨h1,.of_keep h2,h3,h4⟩
end PV
namespace L2
open PySem PySem.Spec PyProof.Rows
noncomputable def xOk(K:W.Frag)(C:Addr)(pre:ZK)(x:Str):Bool :=
 W.findIn K (.ref C) "__setattr__" == some (some (.builtin "object.__setattr__")) && (W.findIn K (.ref C) "__getattribute__" == some (some (.builtin "BaseException.__getattribute__")) &&
 (W.findIn K (.ref C) "__getattr__" == some none && (W.findIn K (.ref C) "__class__" == some (some (.builtin "object.__class__")) && (W.hasDictIn K C && (W.typeIn K (.ref C) == some (.type "type") &&
 (((W.clsIn K C).any fun cd=>cd.mro == pre++Gn) && (W.specialIn K (.builtin "object.__class__") "__get__" == some (some (.builtin "getset_descriptor.__get__")) &&
 (W.takesIn K (.builtin "object.__class__") == some true && (W.findIn K (.ref C) x == some none && (xIn K C && W.keepIn K (.ref C)))))))))))
theorem Xd:∀(as:ZS),Rr (as.map Value.ref++Gn)=true
 | []=>by decide +kernel
 | a::as=>Xd as
structure XOk(K:W.Frag)(C:Addr)(as:ZS)(x:Str):Prop where
 xc:Ln K C
 mro:∀b,W.mroIn K C b=some ((as.map Value.ref++Gn).contains b)
 here:(W.clsIn K C).isSome=true
 no:P7 K C x
 made:xIn K C=true
 kp:W.keepIn K (.ref C)=true
theorem Kf{K:W.Frag}{C:Addr}{a:Addr}{as:ZS}{x:Str}(h:xOk K C ((a::as).map Value.ref) x=true):XOk K C (a::as) x:=by
 unfold xOk at h;simp only[Vi,beq_iff_eq]at h;obtain⟨h1,h2,h3,h4,h5,h6,h7,h8,h9,j4,h11,h12⟩:=h;obtain⟨cd,hc,hm⟩:=W.any_some h7;have hm:cd.mro=(a::as).map Value.ref++Gn:=beq_iff_eq.mp hm
 have mro:∀b,W.mroIn K C b=some (((a::as).map Value.ref++Gn).contains b):=fun b=>by
  unfold W.mroIn;rw[hc,Option.bind_some,hm]
  rfl
 have inVE:∀b,Gn.contains b=true->(((a::as).map Value.ref++Gn).contains b)=true:=fun b hb=>by
  rw[List.contains_iff_mem]at hb ⊢;exact ry _ hb
 refine⟨⟨h1,h2,h3,h4, ?_, ?_,h5,h6, ?_,h8,h9⟩,mro,by rw[hc];rfl,j4,h11,h12⟩
 .rw[mro,inVE _ (by decide +kernel)]
 .rw[mro,inVE _ (by decide +kernel)]
 .rw[hc];show Rr cd.mro=true;rw[hm];exact Xd _
end L2
namespace PV
open PySem PySem.Spec PyProof.Rows L2
structure FA(K:W.Frag)(x:Str)(st:Stmt)(f:Addr)(fd:FuncData):Prop where
 a:W.nsIn K mainGlobals x=some (some (.ref f))
 F:Zc K x st f fd
noncomputable def chk(N:ZG)(d:Df)(st:Stmt):Bool :=
 (match (Zx st).kind with | .function=>true | _=>false) && (!(Zx st).isCoroutine && (!(Zx st).isGenerator && (decide N.Nodup && (decide (N.take (N.take d.ar).length=N.take d.ar) && (((N.take d.ar).all fun x=>decide ((Zx st).names.lookup x=some .local) || decide ((Zx st).names.lookup x=some .cell)) && (((Zx st).names.all fun y=>!decide (y.2=.free)) && (decide (N.length=d.n) && (decide ((N.take d.ar).length=d.ar) && (decide ((N.take d.ar).length<=N.length) && D9 N (Zx st) d.code (Z2 st))))))))))
theorem chk_of{N:ZG}{d:Df}{st:Stmt}(h:chk N d st=true):U9 N (N.take d.ar) (Zx st)/\N.length=d.n/\(N.take d.ar).length=d.ar/\(N.take d.ar).length<=N.length/\D9 N (Zx st) d.code (Z2 st)=true:=by
 unfold chk at h;simp only[Vi,decide_eq_true_eq]at h;obtain⟨h1,h2,h3,h4,h5,h6,h7,h8,h9,j4,h11⟩:=h;refine⟨⟨?_,by simpa using h2,by simpa using h3,h4,h5,fun x m=>?_,fun y m=>?_⟩,h8,h9,j4,h11⟩
 .split at h1
  .assumption
  .cases h1
 .have:=n7.mp h6 x m;simpa using this
 .have:=n7.mp h7 y m;simpa using this
theorem FA.fc{g:Md}{h:Heap}{x:Str}{st:Stmt}{f:Addr}{fd:FuncData}{d:Df}{N:ZG}(A:FA g.K x st f fd)(X:g.K.In h)(G:h.Ns mainGlobals g.mg)(hc:chk N d st=true)
  (hb:∀(kV doc pm:Value) (an:ZR) (cdv ct:Value) (us:ZK),us.length=(N.take d.ar).length->bindArgs (W.fnOf x x (Vy st) (Z2 st) (Zx st) .none kV doc pm an cdv ct) ⟨us,[]⟩=pure ((N.take d.ar).zip us)):V9 g x d :=
 let ⟨S,hn,ha,_,hr⟩:=chk_of hc
 ⟨⟨st,f,fd,N,N.take d.ar,A.F,W.mg_of X G A.a,S,hn,ha,hr,let ⟨_,_,kV,doc,pm,an,cdv,ct,_,e,_⟩:=A.F.ex;by subst e;exact .all (hb kV doc pm an cdv ct)⟩⟩
theorem FA.at{g:Md}{h:Heap}{x:Str}{st:Stmt}{f:Addr}{fd:FuncData}(A:FA g.K x st f fd)(X:g.K.In h)(G:h.Ns mainGlobals g.mg):∃a,g.mg x=some (.ref a)/\W.keepIn g.K (.ref a)=true:=⟨f,W.mg_of X G A.a,A.F.kp⟩
def FC(x:Str)(st:Stmt)(d:Df):Prop:=∀{g:Md} {h:Heap} {f:Addr} {fd:FuncData},g.K.In h->h.Ns mainGlobals g.mg->FA g.K x st f fd->V9 g x d
theorem tab_of{g:Md}{L:List (Str×Df)}(h:∀p∈L,V9 g p.1 p.2)(f:Str)(d:Df)(e:((L.find? fun p=>decide (p.1=f)).map (·.2))=some d):V9 g f d:=by
 obtain⟨p,hp,rfl⟩:=Y8.mp e;have t:=List.find?_some hp;have this:p.1=f:=T1 t;have q:=h p (List.mem_of_find?_eq_some hp);rw[this]at q;exact q
theorem usS{n:Nat}{us:ZK}(h:us.length=n+1):∃a r,us=a::r/\r.length=n:=by
 cases us with
 | nil=>cases h
 | cons a r=>exact⟨a,r,rfl,Nat.succ.inj h⟩
theorem us0{us:ZK}(h:us.length=0):us=[]:=List.eq_nil_of_length_eq_zero h
theorem D7{us:ZK}(h:us.length=1):∃a,us=[a]:=by
 obtain⟨a,r,rfl,g⟩:=usS h;cases us0 g;exact⟨a,rfl⟩
theorem Jk{us:ZK}(h:us.length=2):∃a b,us=[a,b]:=by
 obtain⟨a,r,rfl,g⟩:=usS h;obtain⟨b,rfl⟩:=D7 g;exact⟨a,b,rfl⟩
theorem sq{us:ZK}(h:us.length=3):∃a b c,us=[a,b,c]:=by
 obtain⟨a,r,rfl,g⟩:=usS h;obtain⟨b,c,rfl⟩:=Jk g;exact⟨a,b,c,rfl⟩
theorem us4{us:ZK}(h:us.length=4):∃a b c d,us=[a,b,c,d]:=by
 obtain⟨a,r,rfl,g⟩:=usS h;obtain⟨b,c,d,rfl⟩:=sq g;exact⟨a,b,c,d,rfl⟩
theorem us5{us:ZK}(h:us.length=5):∃a b c d e,us=[a,b,c,d,e]:=by
 obtain⟨a,r,rfl,g⟩:=usS h;obtain⟨b,c,d,e,rfl⟩:=us4 g;exact⟨a,b,c,d,e,rfl⟩
noncomputable def Ie:ZZ->ZK->Bool
 | [],[]=>true
 | .str x::ts,.str y _::vs=>x == y && Ie ts vs
 | _,_=>false
noncomputable def tupB(K:W.Frag)(q:Addr)(ts:ZZ):Bool:=match K.lookup q with
 | some ⟨.type c,none,.seq its _,_⟩=>c == "tuple" && (Ie ts its.toList && decide (its.size<=10))
 | _=>false
noncomputable def rm(K:W.Frag):T->Value->Bool
 | .int i,.int j _=>i == j
 | .tup ts,.ref q=>tupB K q ts
 | _,_=>false
noncomputable def q8(K:W.Frag):ZX->List DictEntry->Bool
 | [],[]=>true
 | (.inr x,t)::r,e::es=>e.key.isStr x && rm K t e.val && q8 K r es
 | _,_=>false
section
variable{g:Md}
theorem Oh{F:OM}:∀{ts:ZZ} {vs:ZK},Ie ts vs=true->Zs g F ts vs
 | [],[],_=>.nil
 | [],_::_,e=>by cases e
 | .str x::ts,[],e=>by cases e
 | .str x::ts,v::vs,e=>by
  cases v with
  | str y t =>
   obtain⟨e1,e2⟩:=zh.mp (show (x == y && Ie ts vs)=true from e);cases eq_of_beq e1;exact .cons .str (Oh e2)
  | _=>cases e
 | .int _::_,vs,e=>by cases vs<;>cases e
 | .bl _::_,vs,e=>by cases vs<;>cases e
 | .non::_,vs,e=>by cases vs<;>cases e
 | .tup _::_,vs,e=>by cases vs<;>cases e
 | .lst _::_,vs,e=>by cases vs<;>cases e
 | .dct _::_,vs,e=>by cases vs<;>cases e
 | .fn _::_,vs,e=>by cases vs<;>cases e
 | .exn _ _::_,vs,e=>by cases vs<;>cases e
theorem val_of{F:OM}(X:∀a o,g.K.lookup a=some o->F a=some o){t:T}{v:Value}(e:rm g.K t v=true):IsT g F t v:=by
 unfold rm at e
 split at e
 .cases eq_of_beq e;exact .int
 .unfold tupB at e
  split at e
  .rename_i c its n sl lk
   simp only[Vi,beq_iff_eq,decide_eq_true_eq]at e;obtain⟨rfl,e1,e2⟩:=e;refine .mkT (X _ _ lk) ⟨rfl,rfl,⟨n,rfl⟩, ?_⟩ (Oh e1);rw[Lh];exact Gs e2 (by decide)
  .cases e
 .cases e
theorem t6{F:OM}(X:∀a o,g.K.lookup a=some o->F a=some o):∀{XY:ZX} {es:List DictEntry},q8 g.K XY es=true->W.KeysLit g.w.params es->∃vs:List (Key×Value),Pairs (Zf g.prog g.w) es vs/\Yz g F XY vs/\vs.map (·.1)=XY.map (·.1)/\∀e∈es,∃k,(Zf g.prog g.w).is k e.key=true/\e.hash=(Zf g.prog g.w).hash k
 | [],[],_,_=>⟨[],.nil,.nil,rfl,fun e m=>absurd m Td⟩
 | [],_::_,e,_=>by cases e
 | (.inl _,_)::_,[],e,_=>by cases e
 | (.inr _,_)::_,[],e,_=>by cases e
 | (.inl _,_)::_,_::_,e,_=>by cases e
 | (.inr x,t)::r,e::es,h,⟨⟨y,tk,hy,hh⟩,kl⟩=>by
  have h:(e.key.isStr x && rm g.K t e.val && q8 g.K r es)=true:=h;simp only[Vi]at h;obtain⟨⟨h1,h2⟩,h3⟩:=h;obtain⟨vs,p,a,ks,q⟩:=t6 X h3 kl;rw[hy]at h1
  have exy:y=x:=by
   have:(Value.str y tk).isStr x=true:=h1;simpa [Value.isStr] using this
  subst exy;have is1:(Zf g.prog g.w).is (.inr y) e.key=true:=by rw[hy];exact Dz _ _ _ _
  refine⟨(.inr y,e.val)::vs,.cons is1 rfl p,.cons ⟨rfl,val_of X h2⟩ a,by rw[P8,P8,ks],fun e' m=>?_⟩;rcases Vt.mp m with rfl | m
  .exact⟨_,is1,hh⟩
  .exact q e' m
theorem Ia{a:Addr}{x:Str}{es:Array DictEntry}{n:Nat}{XY:ZX}(X:g.K.In g.base)(G:g.base.Ns mainGlobals g.mg)(hx:W.nsIn g.K mainGlobals x=some (some (.ref a)))(l:g.K.lookup a=some ⟨.type "dict",none,.dict es n, #[]⟩)(k:W.KeysLit g.w.params es.toList)(na:(a == sysModules)=false)(e:q8 g.K XY es.toList=true)(nd:(XY.map (·.1)).Nodup)(z:XY.length<=100):TopF g x XY:=by
 obtain⟨vs,p,ar,ks,q⟩:=t6 (F:=g.base.get?) (fun b o h=>X b o h) e k;refine⟨a,vs,W.mg_of X G hx,⟨_,es,n,X _ _ l,⟨rfl,rfl,rfl⟩,rfl,fun e m=>q e (by simpa using m),p,by rw[ks];exact nd⟩,na, ?_,ar⟩;rw[<-ar.length];exact Gs z (by decide)
structure ji(K:W.Frag)(x qual:Str)(st:Stmt)(f:Addr):Prop where
 ex:∃(oc:Value) (od:ZR) (kV doc pm:Value) (an:ZR) (cdv ct:Value) (osl:ZY),K.lookup f=some ⟨oc,od,.func (W.fnOf x qual (Vy st) (Z2 st) (Zx st) .none kV doc pm an cdv ct),osl⟩/\W.codeIn K cdv qual=true
theorem ji.mk'{K:W.Frag}{x qual:Str}{st:Stmt}{f:Addr}{oc:Value}{od an:ZR}{osl:ZY}{kV doc pm cdv ct:Value}(l:K.lookup f=some ⟨oc,od,.func (W.fnOf x qual (Vy st) (Z2 st) (Zx st) .none kV doc pm an cdv ct),osl⟩)(c:W.codeIn K cdv qual=true):ji K x qual st f:=⟨⟨oc,od,kV,doc,pm,an,cdv,ct,osl,l,c⟩⟩
theorem ji.i{K:W.Frag}{fi:Addr}{fld name qual y:Str}{st:Stmt}(F:ji K name qual st fi)(S:U9 [("self" : Str),y] [("self" : Str),y] (Zx st))(l1:(Zx st).names.lookup ("self" : Str)=some NameKind.local)(l2:(Zx st).names.lookup y=some NameKind.local)(ly:(y == ("__debug__" : Str))=false)(hb:∃p1 p2 p3 p4,Z2 st=[.Assign [.Attribute (.Name "self" p1) fld p2] (.Name y p3) p4])
  (ba:∀(kV doc pm:Value) (an:ZR) (cdv ct:Value) (us:ZK),us.length=2->bindArgs (W.fnOf name qual (Vy st) (Z2 st) (Zx st) .none kV doc pm an cdv ct) ⟨us,[]⟩=pure ([("self" : Str),y].zip us)):n5 K fi fld :=
 let ⟨p1,p2,p3,p4,hb⟩:=hb
 let ⟨oc,od,kV,doc,pm,an,cdv,ct,osl,l,c⟩:=F.ex
 ⟨⟨name,qual,y,st,oc,od,kV,doc,pm,an,cdv,ct,osl,p1,p2,p3,p4,l,c,S,l1,l2,ly,hb,ba kV doc pm an cdv ct⟩⟩
theorem xf_of{d:je}{C M fi:Addr}(hm:g.mg d.c=some (.ref C))(x:xOk g.K C [.ref C,.ref M] d.fld=true)(i:W.findIn g.K (.ref C) "__init__" = some (some (.ref fi)))(fn:W.isFn g.K (.ref fi)=true)(I:n5 g.K fi d.fld):XF g d C fi :=
 have ox:=Kf (as:=[M]) x
 ⟨hm,ox.xc,ox.no,ox.made,i,fn,ox.kp,I⟩
theorem fq{d:je}{C M:Addr}(x:xOk g.K C [.ref C,.ref M] d.fld=true):W.mroIn g.K C (.ref C)=some true:=by
 rw[(Kf (as:=[M]) x).mro];exact congrArg some (by simp)
theorem ie{f:Addr}{fd:FuncData}{i:Nat}{st:Stmt}(X:g.K.In g.base)(G:g.base.Ns mainGlobals g.mg)(A:FA g.K R0 st f fd){p0 p1 p2 p3 p4:Pos}(e1:Vy st=ir "member" p0)(e2:Z2 st=[.Return (some (ip "member" p1 p2 p3)) p4])(e3:Zx st=ic "member"):Zxf g:=by
 obtain⟨oc,od,kV,doc,pm,an,cdv,ct,osl,rfl,lk,R4⟩:=A.F.ex;rw[e1,e2,e3]at lk;exact⟨f,_,_,kV,doc,pm,cdv,ct,oc,an,od,osl,_,_,_,_,_,lk,R4,W.mg_of X G A.a⟩
end
end PV
namespace PV
open PySem
abbrev Zb(a:E):E:=.cons a .nil
abbrev Zj(a b:E):E:=.cons a (.cons b .nil)
abbrev Jb(a b c:E):E:=.cons a (.cons b (.cons c .nil))
abbrev n9(a b c d:E):E:=.cons a (.cons b (.cons c (.cons d .nil)))
abbrev ki(i:Int):E:=.k (.int i)
abbrev ks(x:Str):E:=.k (.str x)
abbrev Zw(a b:E):E:=.pr .ix (.cons a (.cons b .nil))
noncomputable abbrev Z5(a b:E):E:=.pr (.cm .eq) (.cons a (.cons b .nil))
abbrev Gu(a b:E):E:=.pr (.op .add) (.cons a (.cons b .nil))
abbrev Jj(a:E):E:=.pr .len (.cons a .nil)
abbrev Zn(a:S):S:=.seq a .nil
end PV
namespace PV
open PySem PySem.Spec PyProof.Rows L2
theorem Xt{j:Type}{o:Option j}{Q Q':j->Prop}(h:on o Q)(q:∀x,Q x->Q' x):on o Q':=by
 obtain⟨a,e,h⟩:=Zi h;rw[e];exact q a h
theorem Kb{body:T->P->(Option T->P->Prop)->Prop}(I:ZZ->ZZ->P->Prop)(st:∀x r acc p K,I (x::r) acc p->(∀y p',I r (acc++[y]) p'->K (some y) p')->(∀p',I r acc p'->K none p')->body x p K) :
  ∀(xs acc:ZZ) (p:P) (Q:ZZ->P->Prop),I xs acc p->(∀acc p,I [] acc p->Q acc p)->Z7 body xs acc p Q
 | [],acc,p,Q,h,q=>q acc p h
 | x::r,acc,p,Q,h,q=>st x r acc p _ h (fun y p' h'=>Kb I st r (acc++[y]) p' Q h' q) fun p' h'=>Kb I st r acc p' Q h' q
theorem we{body:T->P->En->Prop}(I:ZZ->P->Prop)(B:P->Prop)(R:Sl->P->Prop)
  (st:∀x r p (D:En),I (x::r) p->(∀q,I r q->D.nx q)->(∀q,I r q->D.ct q)->(∀q,B q->D.bk q)->(∀s q,R s q->D.rt s q)->body x p D) :
  ∀(xs:ZZ) (p:P) (D:En),I xs p->(∀q,I [] q->D.nx q)->(∀q,B q->D.nx q)->(∀s q,R s q->D.rt s q)->Fl body xs p D
 | [],p,D,h,q,_,_=>q p h
 | x::r,p,D,h,q,b,t=>st x r p _ h (fun p' h'=>we I B R st r p' D h' q b t) (fun p' h'=>we I B R st r p' D h' q b t) b t
theorem Bs{body:T->P->(Option T->P->Prop)->Prop}{xs:ZZ}{p:P}{Q:ZZ->P->Prop}(I:ZZ->ZZ->P->Prop)(h:I xs [] p)(st:∀x r acc p K,I (x::r) acc p->(∀y p',I r (acc++[y]) p'->K (some y) p')->(∀p',I r acc p'->K none p')->body x p K)(q:∀acc p,I [] acc p->Q acc p):Z7 body xs [] p Q :=
 Kb I st xs [] p Q h q
def cN(c:(Sl×ZZ->Prop)->(Fb->Prop)->Prop)(Q:Sl×ZZ->Prop):Prop:=∀(R:Sl×ZZ->Prop) (X:Fb->Prop),(∀x,Q x->R x)->c R X
def cNX(c:(Sl×ZZ->Prop)->(Fb->Prop)->Prop)(Q:Sl×ZZ->Prop)(Z:Fb->Prop):Prop:=∀(R:Sl×ZZ->Prop) (X:Fb->Prop),(∀x,Q x->R x)->(∀e,Z e->X e)->c R X
def wF(d:Df)(w:W)(as:List Sl)(Q:Sl×ZZ->Prop):Prop:=∀R:Sl×ZZ->Prop,(∀x,Q x->R x)->W6 d w as R
section
variable{c:(Sl×ZZ->Prop)->(Fb->Prop)->Prop}{Q R:Sl×ZZ->Prop}{X Z:Fb->Prop}
theorem Zk(h:cN c Q)(q:∀x,Q x->R x):cC c R X:=h R X q
theorem callX(h:cNX c Q Z)(q:∀x,Q x->R x)(z:∀e,Z e->X e):cC c R X:=h R X q z
theorem callW{tab:Str->Option Df}{gl:Str->Option T}{n:Nat}{f:Str}{as:List Sl}{d:Df}(e:tab f=some d)(h:∀xe,wF d ⟨Cn tab gl n,gl,xe⟩ as Q):cN (Cn tab gl (n+1) f as) Q:=fun R X q=>Zm e (h _ R q)
theorem callWX{tab:Str->Option Df}{gl:Str->Option T}{n:Nat}{f:Str}{as:List Sl}{d:Df}(e:tab f=some d)(h:∀X:Fb->Prop,(∀e,Z e->X e)->wF d ⟨Cn tab gl n,gl,fun e _=>X e⟩ as Q):cNX (Cn tab gl (n+1) f as) Q Z:=fun R X q z=>Zm e (h X z R q)
end
theorem M5(a:Int):∀zs:ZT,Ff (.int a) (zs.map .int)=some (zs.any fun z=>decide (z=a))
 | []=>rfl
 | z::zs=>by
  show (Ff (.int a) (zs.map .int)).map (decide (z=a) || ·)=_;rw[M5 a zs];rfl
theorem C3(a:Int)(zs:ZT):Kq (.int a) (.lst (zs.map .int))=some (zs.any fun z=>decide (z=a)):=M5 a zs
theorem Sa(a:Int)(zs:ZT):Kq (.int a) (.tup (zs.map .int))=some (zs.any fun z=>decide (z=a)):=M5 a zs
theorem strs_map:∀ss:ZG,Nz (ss.map .str)=some ss
 | []=>rfl
 | s::ss=>by show (Nz (ss.map .str)).map (s::·)=_;rw[strs_map ss];rfl
theorem ints_map:∀ss:ZT,Dw (ss.map .int)=some ss
 | []=>rfl
 | s::ss=>by show (Dw (ss.map .int)).map (s::·)=_;rw[ints_map ss];rfl
theorem qf(s:Str)(ss:ZG):Dw ((s::ss).map .str)=none:=rfl
theorem srt_ints(zs:ZT)(h:zs.length<64):Ry (zs.map .int)=some ((SRT.Ms zs).map .int):=by
 unfold Ry;rw[if_pos (by rw[Za];exact h),ints_map]
theorem srt_strs(ss:ZG)(h:ss.length<64):Ry (ss.map .str)=some ((SRT.Z8 ss).map .str):=by
 unfold Ry;rw[if_pos (by rw[Za];exact h)];cases ss with
 | nil=>rfl
 | cons s ss=>rw[qf,strs_map];rfl
theorem Pa{j:Type}{xs:List j}{i:Int}(h0:0<=i)(h1:i<xs.length):∃x,Tw xs i=some x/\xs[i.toNat]?=some x/\x∈xs:=by
 have hj:i.toNat<xs.length:=by omega
 refine⟨xs[i.toNat], ?_,We hj,G0e hj⟩;unfold Tw b7;rw[if_pos h0,if_pos h1];exact We hj
theorem ixP{ts:ZZ}{r:Int}{Q:Sl->Prop}(h0:0<=r)(h1:r<ts.length)(q:∀x,ts[r.toNat]?=some x->x∈ts->Q (.f x)):on ((Bt (.lst ts) (.int r)).map Sl.f) Q:=by
 obtain⟨x,hx,e,mx⟩:=Pa h0 h1;exact Zm (a:=Sl.f x) (by show (Tw _ _).map _=_;rw[hx];rfl) (q x e mx)
theorem ixTP{ts:ZZ}{r:Int}{Q:Sl->Prop}(h0:0<=r)(h1:r<ts.length)(q:∀x,ts[r.toNat]?=some x->x∈ts->Q (.f x)):on ((Bt (.tup ts) (.int r)).map Sl.f) Q:=by
 obtain⟨x,hx,e,mx⟩:=Pa h0 h1;exact Zm (a:=Sl.f x) (by show (Tw _ _).map _=_;rw[hx];rfl) (q x e mx)
theorem yt{n:Nat}{d:Nat}{i:Int}(h0:0<=i)(h1:i<=n):HT.Vx n d (some i)=i.toNat:=by
 obtain⟨k,rfl⟩:=Int.eq_ofNat_of_zero_le h0;rw[HT.ua,XQ];omega
theorem cut_to{ts:ZZ}{i:Int}(h0:0<=i)(h1:i<=ts.length):Ye ts none (some i)=ts.take i.toNat:=by
 unfold Ye;rw[yt h0 h1];show (ts.drop 0).take (i.toNat - 0)=_;simp
theorem Bz{ts:ZZ}{i:Int}(h0:0<=i)(h1:i<=ts.length):Ye ts (some i) none=ts.drop i.toNat:=by
 unfold Ye;rw[yt h0 h1];show (ts.drop i.toNat).take (ts.length - i.toNat)=_;rw[List.take_of_length_le (by rw[List.length_drop];omega)]
theorem i4{a:T}{l:ZZ}:(Bt (.tup (a::l)) (.int 0)).map Sl.f=some (.f a):=by
 show (Tw _ _).map _=_;unfold Tw b7;rw[if_pos (by omega),if_pos (by rw[Jl];omega)]
 rfl
theorem ix_snd{a b:T}{l:ZZ}:(Bt (.tup (a::b::l)) (.int 1)).map Sl.f=some (.f b):=by
 show (Tw _ _).map _=_;unfold Tw b7;rw[if_pos (by omega),if_pos (by rw[Jl,Jl];omega)]
 rfl
theorem ixE{ts:ZZ}{r:Int}{x:T}(e:Tw ts r=some x):(Bt (.lst ts) (.int r)).map Sl.f=some (.f x):=by show (Tw ts r).map _=_;rw[e];rfl
theorem ixTE{ts:ZZ}{r:Int}{x:T}(e:Tw ts r=some x):(Bt (.tup ts) (.int r)).map Sl.f=some (.f x):=by show (Tw ts r).map _=_;rw[e];rfl
theorem ixDE{XY:ZX}{k:Str}{x:T}(e:Zv XY (.inr k)=some x):(Bt (.dct XY) (.str k)).map Sl.f=some (.f x):=by show (Zv XY (.inr k)).map _=_;rw[e];rfl
theorem notinP{a:Int}{zs:ZT}{Q:Sl->Prop}(q:Q (.f (.bl (!(zs.any fun z=>decide (z=a)))))):on ((Jw .notin (.int a) (.lst (zs.map .int))).map fun r=>Sl.f (.bl r)) Q:=Zm (by show ((Kq _ _).map not).map _=_;rw[C3];rfl) q
theorem a9{a:Int}{zs:ZT}{Q:Sl->Prop}(q:Q (.f (.bl (!(zs.any fun z=>decide (z=a)))))):on ((Jw .notin (.int a) (.tup (zs.map .int))).map fun r=>Sl.f (.bl r)) Q:=Zm (by show ((Kq _ _).map not).map _=_;rw[Sa];rfl) q
theorem Uu{a:T}{l:ZZ}{Q:Sl->Prop}(q:Q (.f a)):on ((Bt (.tup (a::l)) (.int 0)).map Sl.f) Q:=Zm i4 q
theorem Nk{a b:T}{l:ZZ}{Q:Sl->Prop}(q:Q (.f b)):on ((Bt (.tup (a::b::l)) (.int 1)).map Sl.f) Q:=Zm ix_snd q
theorem ixLP{ts:ZZ}{r:Int}{x:T}{Q:Sl->Prop}(e:Tw ts r=some x)(q:Q (.f x)):on ((Bt (.lst ts) (.int r)).map Sl.f) Q:=Zm (ixE e) q
theorem i5{ts:ZZ}{r:Int}{x:T}{Q:Sl->Prop}(e:Tw ts r=some x)(q:Q (.f x)):on ((Bt (.tup ts) (.int r)).map Sl.f) Q:=Zm (ixTE e) q
theorem Hh{XY:ZX}{k:Str}{x:T}{Q:Sl->Prop}(e:Zv XY (.inr k)=some x)(q:Q (.f x)):on ((Bt (.dct XY) (.str k)).map Sl.f) Q:=Zm (ixDE e) q
theorem Zy{d:Df}{w:W}{as:List Sl}{Q:Sl×ZZ->Prop}(ha:as.length=d.ar)(h:∀D:En,(∀r p,on (fin as r p) Q->D.rt r p)->(∀p,on (fin as (.f .non) p) Q->D.nx p)->wS w (Yb as) d.code (as++List.replicate (d.n - d.ar) .no) D):wF d w as Q:=fun R k=>by
 unfold W6;rw[if_pos ha];exact h _ (fun _ _ z=>Xt z k) fun _ z=>Xt z k
theorem Xx{ts us:ZZ}{Q:Sl->Prop}(e:Ry ts=some us)(q:Q (.o (.lst us))):on ((Ry ts).map fun us=>Sl.o (.lst us)) Q:=Zm (by rw[e];rfl) q
theorem rngP{m:Int}{Q:ZZ->Prop}(h0:-1000000<=m)(h1:m<=1000000)(q:Q ((List.range m.toNat).map fun k=>T.int (k:Nat))):on (u6 (.int m)) Q:=by
 refine Zm (a:=(List.range m.toNat).map fun k=>T.int (k:Nat)) ?_ q;show (if -1000000<=m/\m<=1000000 then some ((List.range m.toNat).map fun k=>T.int (k:Nat)) else none)=_;rw[if_pos ⟨h0,h1⟩]
theorem ifS{c:Prop}[Decidable c]{j:Type}{a:j}{o:Option j}{Q:j->Prop}(h:c)(q:Q a):on (if c then some a else o) Q:=by rw[if_pos h];exact q
theorem Wp{a b:ZZ}{Q:Sl->Prop}(h:a.length+b.length<=sizeLine)(q:Q (.o (.lst (a++b)))):on (lq .add (.lst a) (.lst b)) Q:=ifS h q
theorem Wh{a b:ZZ}{Q:Sl->Prop}(h:a.length+b.length<=sizeLine)(q:Q (.f (.tup (a++b)))):on (lq .add (.tup a) (.tup b)) Q:=ifS h q
theorem addSP{a b:Str}{Q:Sl->Prop}(h:a.length+b.length<=sizeLine)(q:Q (.f (.str (a++b)))):on (lq .add (.str a) (.str b)) Q:=ifS h q
theorem y2{p:P}{i:Nat}{t:T}(h:p[i]?=some (.o t)\/p[i]?=some (.f t)):read p i=some (t,p.set i (.f t)):=by
 rcases h with h | h
 .unfold read;rw[h]
 .have e:p.set i (.f t)=p:=by
   refine List.ext_getElem? fun j=>?_;by_cases z:i=j
   .subst z;rw[List.getElem?_set_self (n6.mp h).1,h]
   .rw[List.getElem?_set_ne z]
  unfold read;rw[h,e]
def OF(s:Sl)(t:T):Prop:=s=.o t\/s=.f t
theorem O5{p:P}{i:Nat}{s:Sl}{t:T}{Q:T×P->Prop}(h:OF s t)(e:p[i]?=some s)(q:Q (t,p.set i (.f t))):on (read p i) Q:=by
 refine Zm (y2 ?_) q;rcases h with rfl | rfl
 .exact .inl e
 .exact .inr e
theorem Zh{body:T->P->(Option T->P->Prop)->Prop}{xs:ZZ}{p:P}{Q:ZZ->P->Prop}(g:T->T)(St:P->Prop)(h0:St p)(st:∀x∈xs,∀p K,St p->(∀p',St p'->K (some (g x)) p')->body x p K)(q:∀p,St p->Q (xs.map g) p):Z7 body xs [] p Q:=by
 refine Bs (fun r acc p=>St p/\(∀x∈r,x∈xs)/\acc++r.map g=xs.map g) ⟨h0,fun _ m=>m,rfl⟩ (fun x r acc p K hi ky _=>?_) fun acc p hi=>?_
 .obtain⟨h1,h2,h3⟩:=hi;exact st x (h2 x Yd) p K h1 fun p' h'=>ky _ p' ⟨h',fun y m=>h2 y (Vq _ m),by rw[ZI];exact h3⟩
 .obtain⟨h1,_,h3⟩:=hi;rw[List.map_nil,ZE]at h3;rw[h3];exact q p h1
theorem w4{body:T->P->(Option T->P->Prop)->Prop}{xs:ZZ}{p:P}{Q:ZZ->P->Prop}(g:T->Option T)(St:P->Prop)(h0:St p)(st:∀x∈xs,∀p K,St p->(∀p',St p'->K (g x) p')->body x p K)(q:∀p,St p->Q (xs.filterMap g) p):Z7 body xs [] p Q:=by
 refine Bs (fun r acc p=>St p/\(∀x∈r,x∈xs)/\acc++r.filterMap g=xs.filterMap g) ⟨h0,fun _ m=>m,rfl⟩ (fun x r acc p K hi ky kn=>?_) fun acc p hi=>?_
 .obtain⟨h1,h2,h3⟩:=hi;refine st x (h2 x Yd) p K h1 fun p' h'=>?_;cases e:g x with
  | some y=>exact ky y p' ⟨h',fun y m=>h2 y (Vq _ m),by rw[ZI];rw[List.filterMap_cons_some e]at h3;exact h3⟩
  | none=>exact kn p' ⟨h',fun y m=>h2 y (Vq _ m),by rw[List.filterMap_cons_none e]at h3;exact h3⟩
 .obtain⟨h1,_,h3⟩:=hi;rw[List.filterMap_nil,ZE]at h3;rw[h3];exact q p h1
theorem Ws(f:T->Bool):∀xs:ZZ,allB (xs.map fun x=>.bl (f x))=some (xs.map f)
 | []=>rfl
 | x::xs=>by show (allB (xs.map fun x=>.bl (f x))).map (f x::·)=_;rw[Ws f xs];rfl
theorem A4{f:T->Bool}{xs:ZZ}{Q:Sl->Prop}(q:Q (.f (.bl (xs.all f)))):on ((allB (xs.map fun x=>.bl (f x))).map fun bs=>Sl.f (.bl (bs.all id))) Q:=Zm (by rw[Ws];show some (Sl.f (.bl ((xs.map f).all id)))=_;rw[List.all_map];rfl) q
theorem A3{f:T->Bool}{xs:ZZ}{Q:Sl->Prop}(q:Q (.f (.bl (xs.any f)))):on ((allB (xs.map fun x=>.bl (f x))).map fun bs=>Sl.f (.bl (bs.any id))) Q:=Zm (by rw[Ws];show some (Sl.f (.bl ((xs.map f).any id)))=_;rw[List.any_map];rfl) q
def okK:Key->Prop
 | .inl i=>i.natAbs<=10 ^ 19
 | .inr x=>∀c∈x.cps.toList,c<16 ^ 8
def wtK:Key->Nat
 | .inl _=>70
 | .inr x=>x.length
mutual
def okT(n:Nat):T->Prop
 | .int i=>i.natAbs<=10 ^ 19
 | .str x=>∀c∈x.cps.toList,c<16 ^ 8
 | .tup ts=>ts.length<=n/\k8 n ts
 | .lst ts=>ts.length<=n/\k8 n ts
 | .dct XY=>ai n XY
 | .fn _=>False
 | .exn _ _=>False
 | .non=>True
 | .bl _=>True
def k8(n:Nat):ZZ->Prop
 | []=>True
 | t::r=>okT n t/\k8 n r
def ai(n:Nat):ZX->Prop
 | []=>True
 | (k,t)::r=>okK k/\okT n t/\ai n r
end
mutual
noncomputable def Fc:T->Nat
 | .int _=>70
 | .str x=>x.length
 | .tup ts=>Oj ts
 | .lst ts=>Oj ts
 | .dct XY=>zp XY
 | .fn _=>0
 | .exn _ _=>0
 | .non=>0
 | .bl _=>0
noncomputable def Oj:ZZ->Nat
 | []=>0
 | t::r=>Fc t+1+Oj r
noncomputable def zp:ZX->Nat
 | []=>0
 | (k,t)::r=>wtK k+Fc t+2+zp r
end
mutual
noncomputable def dpT:T->Nat
 | .tup ts=>Ab ts+1
 | .lst ts=>Ab ts+1
 | .dct XY=>t9 XY+1
 | _=>0
noncomputable def Ab:ZZ->Nat
 | []=>0
 | t::r=>max (dpT t) (Ab r)
noncomputable def t9:ZX->Nat
 | []=>0
 | (_,t)::r=>max (dpT t) (t9 r)
end
theorem C1{i:Int}(h:i.natAbs<=10 ^ 19):(if i == 0 then 0 else i.natAbs.log2+1)<=70/\i.natAbs.log2<1920:=by
 have:i.natAbs.log2<64:=by
  by_cases z:i.natAbs=0
  .rw[z];decide
  .exact(Nat.log2_lt z).mpr (N0o h (by decide))
 exact⟨by split<;>omega,by omega⟩
theorem lenS(s:String):(Str.ofString s).length=s.toList.length:=by
 rw[Str.ofString_eq_toList];simp[Str.length]
theorem Fz{i:Int}(h:i.natAbs<=10 ^ 19):(PyData.shown (.int i)).length<=30:=by
 show (Str.ofString (toString i)).length<=30;have hb:i.natAbs<10 ^ 20:=N0o h (by decide);rw[lenS];have hd:(Nat.toDigits 10 i.natAbs).length<=20:=(Nat.length_toDigits_le_iff (by decide) (by decide)).mpr hb;cases i with
 | ofNat n =>
  show (Nat.repr n).toList.length<=30;rw[Nat.toList_repr];exact Gs hd (by decide)
 | negSucc n =>
  show ("-" ++ Nat.repr (n+1)).toList.length<=30;rw[String.toList_append,Gc,Nat.toList_repr];have hd:(Nat.toDigits 10 (n+1)).length<=20:=hd;show 1+_<=30;omega
structure Shn(n:Nat)(t:T)(x:PyData):Prop where
 e:toPy t=some x
 s:x.showable=true
 l:x.leavesShort 30=true
 w:x.weight<=Fc t
 d:x.depth=dpT t
theorem iu{k:Key}(h:okK k):(Xy k).showable=true/\(Xy k).leavesShort 30=true/\(Xy k).weight<=wtK k/\(Xy k).depth=0:=by
 cases k with
 | inl i=>exact⟨Ml (C1 h).2,Ml (Fz h),(C1 h).1,rfl⟩
 | inr x=>exact⟨rfl,n7.mpr fun c m=>Ml (h c m),D5 _,rfl⟩
mutual
theorem Qm(n:Nat):∀t:T,okT n t->∃x,Shn n t x
 | .int i,h=>⟨.int i,rfl,Ml (C1 h).2,Ml (Fz h),(C1 h).1,rfl⟩
 | .str x,h=>⟨.str x,rfl,rfl,n7.mpr fun c m=>Ml (h c m),D5 _,rfl⟩
 | .non,_=>⟨.none,rfl,rfl,rfl,D5 _,rfl⟩
 | .bl b,_=>⟨.bool b,rfl,rfl,rfl,D5 _,rfl⟩
 | .fn _,h=>h.elim
 | .exn _ _,h=>h.elim
 | .tup ts,h=>by
  obtain⟨xs,a,b,c,d,e⟩:=Rh n ts h.2;exact⟨.tuple xs,by show (Ua ts).map _=_;rw[a];rfl,b,c,d,by show PyData.depthAll xs+1=_;rw[e];rfl⟩
 | .lst ts,h=>by
  obtain⟨xs,a,b,c,d,e⟩:=Rh n ts h.2;exact⟨.list xs,by show (Ua ts).map _=_;rw[a];rfl,b,c,d,by show PyData.depthAll xs+1=_;rw[e];rfl⟩
 | .dct XY,h=>by
  obtain⟨xs,a,b,c,d,e⟩:=Sz n XY h;exact⟨.dict xs,by show (Mw XY).map _=_;rw[a];rfl,b,c,d,by show PyData.depthKv xs+1=_;rw[e];rfl⟩
theorem Rh(n:Nat):∀ts:ZZ,k8 n ts->∃xs,Ua ts=some xs/\PyData.showableAll xs=true/\PyData.leavesShortAll 30 xs=true/\PyData.weightAll xs<=Oj ts/\PyData.depthAll xs=Ab ts
 | [],_=>⟨[],rfl,rfl,rfl,D5 _,rfl⟩
 | t::ts,h=>by
  obtain⟨x,a1,b1,c1,d1,e1⟩:=Qm n t h.1;obtain⟨xs,a,b,c,d,e⟩:=Rh n ts h.2;refine⟨x::xs,by show (toPy t).bind _=_;rw[a1];show (Ua ts).map _=_;rw[a];rfl,by show (x.showable && _)=true;rw[b1,b];rfl,by show (x.leavesShort 30 && _)=true;rw[c1,c];rfl, ?_, ?_⟩
  .show x.weight+1+PyData.weightAll xs<=Fc t+1+Oj ts;omega
  .show max x.depth (PyData.depthAll xs)=max (dpT t) (Ab ts);rw[e1,e]
theorem Sz(n:Nat):∀ts:ZX,ai n ts->∃xs,Mw ts=some xs/\PyData.showableKv xs=true/\PyData.leavesShortKv 30 xs=true/\PyData.weightKv xs<=zp ts/\PyData.depthKv xs=t9 ts
 | [],_=>⟨[],rfl,rfl,rfl,D5 _,rfl⟩
 | (k,t)::ts,h=>by
  obtain⟨x,a1,b1,c1,d1,e1⟩:=Qm n t h.2.1;obtain⟨xs,a,b,c,d,e⟩:=Sz n ts h.2.2;obtain⟨k1,k2,k3,k4⟩:=iu h.1;refine⟨(Xy k,x)::xs,by show (toPy t).bind _=_;rw[a1];show (Mw ts).map _=_;rw[a];rfl,by show ((Xy k).showable && x.showable && _)=true;rw[k1,b1,b];rfl,by show ((Xy k).leavesShort 30 && x.leavesShort 30 && _)=true;rw[k2,c1,c];rfl, ?_, ?_⟩
  .show (Xy k).weight+x.weight+2+PyData.weightKv xs<=wtK k+Fc t+2+zp ts;omega
  .show max (max (Xy k).depth x.depth) (PyData.depthKv xs)=max (dpT t) (t9 ts);rw[e1,e,k4,Nat.zero_max]
end
theorem rpT_ok{n:Nat}{t:T}(h:okT n t)(hw:Fc t<=400000)(hd:dpT t<=100):∃z,rpT t=some z:=by
 obtain⟨x,e,s,l,w,d⟩:=Qm n t h;have:=PyData.shown_le 30 (by decide) x l;refine⟨x.shown, ?_⟩;unfold rpT;rw[e];show (if _ then _ else _)=_;rw[if_pos ⟨s,by rw[sizeLine_eq];omega,by rw[d];exact hd⟩]
theorem N9{a:ZZ}{lo hi:ZC}{t:T}(m:t∈Ye a lo hi):t∈a:=List.mem_of_mem_drop (List.mem_of_mem_take m)
theorem Up{ts:ZZ}{lo hi:ZC}:(Ye ts lo hi).length<=ts.length:=by
 unfold Ye;rw[nu,List.length_drop];omega
end PV
namespace PV
open PySem PySem.Spec PyProof.Rows L2 SRT
theorem le_int{a b:Int}:(!decide (b<a))=decide (a<=b):=by
 by_cases h:a<=b
 .rw[Ml h,C9 (by omega)];rfl
 .rw[C9 h,Ml (by omega)];rfl
theorem cx(a b:Int):Jw .le (.int a) (.int b)=some (decide (a<=b)):=by
 show some (!decide (b<a))=_;rw[le_int]
theorem c2P{a b c:Int}{Q:Sl->Prop}(q:Q (.f (.bl (decide (a<=b) && decide (b<=c))))):on (L1 (.c2 .le .le) [.int a,.int b,.int c]) Q:=by
 refine Zm ?_ q;show ((Jw .le (.int a) (.int b)).bind fun r=>if r=true then (Jw .le (.int b) (.int c)).map fun r=>Sl.f (.bl r) else some (Sl.f (.bl false)))=_;rw[cx,cx];show (if decide (a<=b)=true then some (Sl.f (.bl (decide (b<=c)))) else _)=_;by_cases h:a<=b
 .rw[Ml h];rfl
 .rw[C9 h];rfl
theorem lenP{x:Str}{Q:Sl->Prop}(h:x.length<=sizeLine)(q:Q (.f (.int x.length))):on (L1 .len [.str x]) Q:=by
 have e:bq (.str x)=some x.length:=if_pos h;refine Zm ?_ q;show ((bq (.str x)).bind fun a=>some (a:Int)).map (fun n=>Sl.f (.int n))=_;rw[e]
 rfl
theorem wi{x:Str}{Q:ZZ->Prop}(h:x.length<=sizeLine)(q:Q (x.cps.toList.map fun c=>.str ⟨#[c]⟩)):on (Ow (.str x)) Q:=Zm (by show (if x.length<=sizeLine then some _ else none)=_;rw[if_pos h]) q
theorem qh{gl:Str->Option T}{x:Str}{t:T}{Q:T->Prop}(e:gl x=some t)(q:Q t):on (gl x) Q:=Zm e q
theorem Xn{b:Bool}(h:(!b)=true):b=false:=by
 cases b with
 | true=>cases h
 | false=>rfl
theorem Rp{b:Bool}(h:(!b)=false):b=true:=by
 cases b with
 | true=>rfl
 | false=>cases h
end PV
namespace K63
open PySem PySem.Spec PyProof.Rows L2 PV
def Ai:S:=(Zn (.ret (.and (.pr (.isi .int) (Zb (.v 0))) (.and (.not (.pr (.isi .bool) (Zb (.v 0)))) (.pr (.c2 .le .le) (Jb (.v 1) (.v 0) (.v 2)))))))
def Vr:Df:=⟨3,3,Ai⟩
def Cw:S:=(Zn (.ret (.call "is_whole" (Jb (.v 0) (.pr .neg (Zb (.g "GREATEST_WHOLE"))) (.g "GREATEST_WHOLE")))))
def Y1:Df:=⟨1,1,Cw⟩
def E1:S:=(Zn (.ret (.call "is_whole" (Jb (.v 0) (ki 1) (.g "GREATEST_NUMBER")))))
def U7:Df:=⟨1,1,E1⟩
noncomputable def jk:S:=(Zn (.ret (.and (.pr (.isi .str) (Zb (.v 0))) (.and (.pr (.cm .le) (Zj (Jj (.v 0)) (.v 1))) (.pr .all (Zb (.comp (.v 0) (.v 0) .nil (.pr (.cm .isin) (Zj (.v 0) (.g "SIGNS"))) [none] ["sign"])))))))
def De:Df:=⟨2,2,jk⟩
noncomputable def jg:S:=(.seq (.ite (.or (.not (.pr (.isi .str) (Zb (.v 0)))) (.not (.pr (.c2 .le .le) (Jb (ki 1) (Jj (.v 0)) (.g "LONGEST_NAME")))))
    (Zn (.ret (.k (.bl false))))
    .nil)
   (.seq (.ret (.pr .all (Zb (.comp (.v 0) (.v 0) .nil (.pr (.cm .isin) (Zj (.v 0) (.g "LETTERS"))) [none] ["sign"]))))
   .nil))
def Ug:Df:=⟨1,1,jg⟩
noncomputable def Zz0:S:=(Zn (.ret (.pr .all (Zb (.comp (.tup (Zj (.v 0) (.v 1))) (.itr .zip (Zj (.v 0) (.pr (.sl true false) (Zj (.v 0) (ki 1))))) .nil (.pr (.cm .lt) (Zj (.v 0) (.v 1))) [none,none] ["one","other"])))))
def N4:Df:=⟨1,1,Zz0⟩
noncomputable def Ae:S:=(.seq (.ite (.or (.not (.pr (.isi .tuple) (Zb (.v 0)))) (Z5 (Jj (.v 0)) (ki 0)))
    (Zn (.ret (.k (.bl false))))
    .nil)
   (.seq (.set 1 (Zw (.v 0) (ki 0)))
   (.seq (.ite (Z5 (.v 1) (ks "whole"))
    (Zn (.ret (.and (Z5 (Jj (.v 0)) (ki 3)) (.call "are_bounds" (Zj (Zw (.v 0) (ki 1)) (Zw (.v 0) (ki 2)))))))
    .nil)
   (.seq (.ite (Z5 (.v 1) (ks "truth"))
    (Zn (.ret (Z5 (Jj (.v 0)) (ki 1))))
    .nil)
   (.seq (.ite (Z5 (.v 1) (ks "text"))
    (Zn (.ret (.and (Z5 (Jj (.v 0)) (ki 2)) (.call "is_whole" (Jb (Zw (.v 0) (ki 1)) (ki 0) (.g "LONGEST_TEXT"))))))
    .nil)
   (.seq (.ite (.or (Z5 (.v 1) (ks "row")) (Z5 (.v 1) (ks "map")))
    (Zn (.ret (.and (Z5 (Jj (.v 0)) (ki 3)) (.and (.call "is_name" (Zb (Zw (.v 0) (ki 1)))) (.call "is_whole" (Jb (Zw (.v 0) (ki 2)) (ki 0) (.g "MOST_PARTS")))))))
    .nil)
   (.seq (.ite (Z5 (.v 1) (ks "record"))
    (Zn (.ret (.and (Z5 (Jj (.v 0)) (ki 3)) (.call "are_members" (Jb (Zw (.v 0) (ki 1)) (Zw (.v 0) (ki 2)) (.g "is_field"))))))
    .nil)
   (.seq (.ite (Z5 (.v 1) (ks "choice"))
    (Zn (.ret (.and (Z5 (Jj (.v 0)) (ki 4)) (.and (.call "are_members" (Jb (Zw (.v 0) (ki 1)) (Zw (.v 0) (ki 2)) (.g "is_arm"))) (.pr (.isi .bool) (Zb (Zw (.v 0) (ki 3))))))))
    .nil)
   (.seq (.ret (.k (.bl false)))
   .nil)))))))))
def Gg:Df:=⟨2,1,Ae⟩
def Pl:S:=(Zn (.ret (.and (.call "is_item_whole" (Zb (.v 0))) (.and (.call "is_item_whole" (Zb (.v 1))) (.pr (.cm .le) (Zj (.v 0) (.v 1)))))))
def Uv:Df:=⟨2,2,Pl⟩
noncomputable def Lc:S:=(.seq (.ite (.or (.not (.call "is_short_tuple" (Zb (.v 0)))) (.not (.pr .all (Zb (.comp (.v 0) (.v 0) .nil (.cal 1 (Zb (.v 0))) [none,some 2] ["member","is_member"])))))
    (Zn (.ret (.k (.bl false))))
    .nil)
   (.seq (.set 3 (.comp (.v 0) (.v 0) .nil (Zw (.v 0) (ki 0)) [none] ["member"]))
   (.seq (.set 4 (.comp (.v 0) (.v 0) .nil (Zw (.v 0) (ki 1)) [none] ["member"]))
   (.seq (.ret (.and (.call "rises" (Zb (.v 3))) (.and (Z5 (.pr .lset (Zb (.v 4))) (Jj (.v 4))) (.call "is_struck" (Zj (.v 1) (.v 3))))))
   .nil))))
def Yi:Df:=⟨5,3,Lc⟩
noncomputable def E0:S:=(.seq (.ite (.or (.not (.call "is_short_tuple" (Zb (.v 0)))) (.not (.pr .all (Zb (.comp (.v 0) (.v 0) .nil (.call "is_number" (Zb (.v 0))) [none] ["number"])))))
    (Zn (.ret (.k (.bl false))))
    .nil)
   (.seq (.ret (.and (.call "rises" (Zb (.v 0))) (.not (.pr .any (Zb (.comp (.v 0) (.v 0) .nil (.pr (.cm .isin) (Zj (.v 0) (.v 1))) [none,some 1] ["number","taken"]))))))
   .nil))
def U6:Df:=⟨2,2,E0⟩
def Tx:S:=(Zn (.ret (.and (.pr (.isi .tuple) (Zb (.v 0))) (.pr (.cm .le) (Zj (Jj (.v 0)) (.g "MOST_FIELDS"))))))
def Yr:Df:=⟨1,1,Tx⟩
noncomputable def A0:S:=(Zn (.ret (.and (.pr (.isi .tuple) (Zb (.v 0))) (.and (Z5 (Jj (.v 0)) (ki 4)) (.and (.call "is_arm" (Zb (.pr (.sl false true) (Zj (.v 0) (ki 3))))) (.call "is_default" (Zb (Zw (.v 0) (ki 3)))))))))
def Gf:Df:=⟨1,1,A0⟩
def Pn:S:=(Zn (.ret (.and (.pr (.isi .tuple) (Zb (.v 0))) (.pr (.cm .le) (Zj (Jj (.v 0)) (ki 1))))))
def Uw:Df:=⟨1,1,Pn⟩
noncomputable def cb:S:=(.seq (.ite (.or (.not (.pr (.isi .tuple) (Zb (.v 0)))) (.pr (.cm .ne) (Zj (Jj (.v 0)) (ki 3))))
    (Zn (.ret (.k (.bl false))))
    .nil)
   (.seq (.ret (.and (.call "is_number" (Zb (Zw (.v 0) (ki 0)))) (.and (.call "is_name" (Zb (Zw (.v 0) (ki 1)))) (.call "is_name" (Zb (Zw (.v 0) (ki 2)))))))
   .nil))
def N6:Df:=⟨1,1,cb⟩
noncomputable def Bv:S:=(.seq (.ite (Z5 (Zw (.v 0) (ki 0)) (ks "whole"))
    (Zn (.ret (.call "is_whole" (Jb (.v 1) (Zw (.v 0) (ki 1)) (Zw (.v 0) (ki 2))))))
    .nil)
   (.seq (.ite (Z5 (Zw (.v 0) (ki 0)) (ks "truth"))
    (Zn (.ret (.pr (.isi .bool) (Zb (.v 1)))))
    .nil)
   (.seq (.ret (.and (Z5 (Zw (.v 0) (ki 0)) (ks "text")) (.call "is_text" (Zj (.v 1) (Zw (.v 0) (ki 1))))))
   .nil)))
def Yg:Df:=⟨2,2,Bv⟩
noncomputable def Ep:S:=(.seq (.loop (.v 2) (Zw (.v 0) (ki 1))
    (Zn (.ite (Z5 (Zw (.v 2) (ki 0)) (.v 1))
    (Zn (.ret (.mv 2)))
    .nil)))
   (.seq (.ret (.k .non))
   .nil))
def U0:Df:=⟨3,2,Ep⟩
def Bq:S:=(Zn (.ret (.pr (.cm .ne) (Zj (Zw (.v 0) (ki 3)) (.tup .nil)))))
def Yv:Df:=⟨1,1,Bq⟩
noncomputable def jf:S:=(.seq (.ite (.or (.not (.pr (.isi .tuple) (Zb (.v 0)))) (.pr (.cm .ne) (Zj (Jj (.v 0)) (ki 2))))
    (Zn (.ret (.k (.bl false))))
    .nil)
   (.seq (.set 1 (Zw (.v 0) (ki 0)))
   (.seq (.set 2 (Zw (.v 0) (ki 1)))
   (.seq (.ite (.or (.not (.call "are_forms" (Zb (.v 2)))) (.or (.not (.call "is_name" (Zb (.v 1)))) (.pr (.cm .notin) (Zj (.v 1) (.v 2)))))
    (Zn (.ret (.k (.bl false))))
    .nil)
   (.seq (.ret (.pr .all (Zb (.comp (.v 0) (.itr .vls (Zb (.v 2))) .nil (.call "fits_in" (Zj (.v 0) (.v 1))) [none,some 2] ["shape","forms"]))))
   .nil)))))
def D1:Df:=⟨3,1,jf⟩
def jd:S:=(Zn (.ret (.pr .get1 (Zj (Zw (.v 0) (ki 1)) (.v 1)))))
def Um:Df:=⟨2,2,jd⟩
def jb:S:=(Zn (.ret (.and (.call "is_name" (Zb (.v 1))) (.pr (.cm .isin) (Zj (.v 1) (Zw (.v 0) (ki 1)))))))
def Ub:Df:=⟨2,2,jb⟩
noncomputable def E2:S:=(.seq (.ite (.or (.not (.pr (.isi .dict) (Zb (.v 0)))) (.not (.pr (.c2 .le .le) (Jb (ki 1) (Jj (.v 0)) (.g "MOST_FORMS")))))
    (Zn (.ret (.k (.bl false))))
    .nil)
   (.seq (.ret (.pr .all (Zb (.comp (.tup (Zj (.v 0) (.v 1))) (.itr .its (Zb (.v 0))) .nil (.and (.call "is_name" (Zb (.v 0))) (.call "is_shape" (Zb (.v 1)))) [none,none] ["name","shape"]))))
   .nil))
def U8:Df:=⟨1,1,E2⟩
noncomputable def jt:S:=(.seq (.ite (.not (.pr .all (Zb (.comp (.v 0) (.call "ofs_of" (Zb (.v 0))) .nil (.pr (.cm .isin) (Zj (.v 0) (.v 1))) [none,some 1] ["of","forms"]))))
    (Zn (.ret (.k (.bl false))))
    .nil)
   (.seq (.ret (.or (.pr (.cm .ne) (Zj (Zw (.v 0) (ki 0)) (ks "record"))) (.pr .all (Zb (.comp (.v 0) (Zw (.v 0) (ki 1)) .nil (.call "fits_default" (Zj (.v 0) (.v 1))) [none,some 1] ["field","forms"])))))
   .nil))
def D3:Df:=⟨2,2,jt⟩
noncomputable def cf:S:=(.seq (.ite (.or (Z5 (Zw (.v 0) (ki 0)) (ks "row")) (Z5 (Zw (.v 0) (ki 0)) (ks "map")))
    (Zn (.ret (.lst (Zb (Zw (.v 0) (ki 1))))))
    .nil)
   (.seq (.ite (.or (Z5 (Zw (.v 0) (ki 0)) (ks "record")) (Z5 (Zw (.v 0) (ki 0)) (ks "choice")))
    (Zn (.ret (.comp (.v 0) (Zw (.v 0) (ki 1)) .nil (Zw (.v 0) (ki 2)) [none] ["member"])))
    .nil)
   (.seq (.ret (.lst .nil))
   .nil)))
def N5:Df:=⟨1,1,cf⟩
noncomputable def Wc:S:=(.seq (.set 2 (Zw (.v 0) (ki 3)))
   (.seq (.set 3 (Zw (.v 1) (Zw (.v 0) (ki 2))))
   (.seq (.ite (Z5 (.v 2) (.tup .nil))
    (Zn (.ret (.k (.bl true))))
    .nil)
   (.seq (.ite (.or (Z5 (Zw (.v 3) (ki 0)) (ks "row")) (Z5 (Zw (.v 3) (ki 0)) (ks "map")))
    (Zn (.ret (Z5 (.v 2) (.tup (Zb (.tup .nil))))))
    .nil)
   (.seq (.ret (.call "is_single_value" (Zj (.v 3) (Zw (.v 2) (ki 0)))))
   .nil)))))
def Vb:Df:=⟨4,2,Wc⟩
noncomputable def Cy:S:=(.seq (.ite (.pr (.cm .ne) (Zj (Zw (.v 0) (ki 0)) (Zw (.v 1) (ki 0))))
    (Zn (.ret (ks "root")))
    .nil)
   (.seq (.loop (.v 2) (.pr .sorted (Zb (Zw (.v 0) (ki 1))))
    (.seq (.set 3 (.call "break_between" (Zj (.call "form_of" (Zj (.v 0) (.v 2))) (.call "form_of" (Zj (.v 1) (.v 2))))))
   (.seq (.ite (.pr (.cm .isnt) (Zj (.v 3) (.k .non)))
    (Zn (.ret (.mv 3)))
    .nil)
   .nil)))
   (.seq (.ret (.k .non))
   .nil)))
def Y3:Df:=⟨4,2,Cy⟩
noncomputable def Ld:S:=(.seq (.loop (.v 1) (.itr .rng (Zj (ki 1) (Jj (.v 0))))
    (.seq (.set 2 (.call "cannot_follow" (Zj (Zw (.v 0) (.pr (.op .sub) (Zj (.v 1) (ki 1)))) (Zw (.v 0) (.v 1)))))
   (.seq (.ite (.pr (.cm .isnt) (Zj (.v 2) (.k .non)))
    (Zn (.ret (.tup (Zj (.v 1) (.v 2)))))
    .nil)
   .nil)))
   (.seq (.ret (.k .non))
   .nil))
def Vo:Df:=⟨3,1,Ld⟩
noncomputable def Wf:S:=(Zn (.ret (.comp (.v 0) (.v 0) .nil (.call "life_in" (Zj (.call "form_of" (Zj (.v 0) (.v 2))) (.v 1))) [none,some 2,some 1] ["make","number","form"])))
def Vg:Df:=⟨3,3,Wf⟩
noncomputable def Ck:S:=(.seq (.ite (.or (.pr (.cm .is) (Zj (.v 1) (.k .non))) (.pr (.cm .ne) (Zj (Zw (.v 1) (ki 0)) (Zw (.v 0) (ki 0)))))
    (Zn (.ret (ks "form")))
    .nil)
   (.seq (.ite (.and (.pr (.cm .ne) (Zj (Zw (.v 0) (ki 0)) (ks "record"))) (.pr (.cm .ne) (Zj (Zw (.v 0) (ki 0)) (ks "choice"))))
    (Zn (.ret (.k .non)))
    .nil)
   (.seq (.ite (.pr .any (Zb (.comp (.v 0) (Zw (.v 0) (ki 1)) .nil (Z5 (.call "life_in" (Zj (.v 1) (Zw (.v 0) (ki 0)))) (ks "none")) [none,some 1] ["member","later"])))
    (Zn (.ret (ks "lost")))
    .nil)
   (.seq (.ite (.pr .any (Zb (.comp (.v 0) (Zw (.v 0) (ki 2)) .nil (.pr (.cm .notin) (Zj (.v 0) (Zw (.v 1) (ki 2)))) [none,some 1] ["number","later"])))
    (Zn (.ret (ks "back")))
    .nil)
   (.seq (.ite (.pr .any (Zb (.comp (.v 0) (Zw (.v 0) (ki 1)) .nil (.call "is_turned" (Zj (.v 0) (.call "member_of" (Zj (.v 1) (Zw (.v 0) (ki 0)))))) [none,some 1] ["member","later"])))
    (Zn (.ret (ks "turned")))
    .nil)
   (.seq (.ret (.ite (.and (Z5 (Zw (.v 0) (ki 0)) (ks "choice")) (.and (Zw (.v 0) (ki 3)) (.not (Zw (.v 1) (ki 3))))) (ks "shut") (.k .non)))
   .nil))))))
def Y4:Df:=⟨2,2,Ck⟩
def Ee:S:=(Zn (.ret (.and (.pr (.cm .isnt) (Zj (.v 1) (.k .non))) (.pr (.cm .ne) (Zj (Zw (.v 1) (ki 2)) (Zw (.v 0) (ki 2)))))))
def U5:Df:=⟨2,2,Ee⟩
noncomputable def Fy:S:=(.seq (.ite (.or (.pr (.cm .is) (Zj (.v 0) (.k .non))) (.pr (.cm .notin) (Zj (Zw (.v 0) (ki 0)) (.tup (Zj (ks "record") (ks "choice"))))))
    (Zn (.ret (ks "none")))
    .nil)
   (.seq (.ite (.pr (.cm .isnt) (Zj (.call "member_of" (Zj (.v 0) (.v 1))) (.k .non)))
    (Zn (.ret (ks "there")))
    .nil)
   (.seq (.ret (.ite (.pr (.cm .isin) (Zj (.v 1) (Zw (.v 0) (ki 2)))) (ks "struck") (ks "none")))
   .nil)))
def Uk:Df:=⟨2,2,Fy⟩
noncomputable def A1:S:=(.seq (.ite (.not (.call "is_deed" (Zb (.v 1))))
    (Zn (.ret (ks "deed")))
    .nil)
   (.seq (.ite (Z5 (Zw (.v 1) (ki 0)) (ks "form"))
    (Zn (.ret (.call "fault_of_form" (Zj (.v 0) (.v 1)))))
    .nil)
   (.seq (.ite (.not (.call "is_form" (Zj (.v 0) (Zw (.v 1) (ki 1)))))
    (Zn (.ret (ks "form")))
    .nil)
   (.seq (.set 2 (.call "form_of" (Zj (.v 0) (Zw (.v 1) (ki 1)))))
   (.seq (.ite (.pr (.cm .notin) (Zj (Zw (.v 2) (ki 0)) (.pr (.tix "SORTS_FOR") (Zb (Zw (.v 1) (ki 0))))))
    (Zn (.ret (ks "sort")))
    .nil)
   (.seq (.ite (.not (.call "is_thing_for" (Zb (.v 1))))
    (Zn (.ret (ks "thing")))
    .nil)
   (.seq (.ite (Z5 (Zw (.v 1) (ki 0)) (ks "widen"))
    (Zn (.ret (.ite (.call "is_narrower" (Zj (.v 2) (Zw (.v 1) (ki 2)))) (ks "narrow") (.k .non))))
    .nil)
   (.seq (.ret (.ite (Z5 (Zw (.v 1) (ki 0)) (ks "open")) (.k .non) (.call "fault_of_member" (Zj (.v 2) (.v 1)))))
   .nil))))))))
def Gb:Df:=⟨3,2,A1⟩
noncomputable def jm:S:=(.seq (.ite (.or (.not (.pr (.isi .tuple) (Zb (.v 0)))) (.or (Z5 (Jj (.v 0)) (ki 0)) (.not (.pr (.isi .str) (Zb (Zw (.v 0) (ki 0)))))))
    (Zn (.ret (.k (.bl false))))
    .nil)
   (.seq (.ret (.and (.pr (.tin "SIZES") (Zb (Zw (.v 0) (ki 0)))) (Z5 (Jj (.v 0)) (.pr (.tix "SIZES") (Zb (Zw (.v 0) (ki 0)))))))
   .nil))
def D2:Df:=⟨1,1,jm⟩
noncomputable def Cv:S:=(.seq (.ite (.or (.not (.call "is_name" (Zb (Zw (.v 1) (ki 1))))) (.call "is_form" (Zj (.v 0) (Zw (.v 1) (ki 1)))))
    (Zn (.ret (ks "form")))
    .nil)
   (.seq (.ret (.ite (.call "is_shape" (Zb (Zw (.v 1) (ki 2)))) (.k .non) (ks "thing")))
   .nil))
def Y2:Df:=⟨2,2,Cv⟩
noncomputable def Wt:S:=(.seq (.set 1 (Zw (.v 0) (ki 0)))
   (.seq (.ite (Z5 (.v 1) (ks "add"))
    (Zn (.ret (.call "is_field" (Zb (Zw (.v 0) (ki 2))))))
    .nil)
   (.seq (.ite (Z5 (.v 1) (ks "strike"))
    (Zn (.ret (.call "is_number" (Zb (Zw (.v 0) (ki 2))))))
    .nil)
   (.seq (.ite (Z5 (.v 1) (ks "rename"))
    (Zn (.ret (.and (.call "is_number" (Zb (Zw (.v 0) (ki 2)))) (.call "is_name" (Zb (Zw (.v 0) (ki 3)))))))
    .nil)
   (.seq (.ite (Z5 (.v 1) (ks "widen"))
    (Zn (.ret (.call "is_shape" (Zb (Zw (.v 0) (ki 2))))))
    .nil)
   (.seq (.ret (.or (Z5 (.v 1) (ks "open")) (.call "is_arm" (Zb (Zw (.v 0) (ki 2))))))
   .nil))))))
def Vf:Df:=⟨2,1,Wt⟩
noncomputable def By:S:=(.seq (.set 2 (Zw (.v 1) (ki 0)))
   (.seq (.ite (.or (Z5 (.v 2) (ks "strike")) (Z5 (.v 2) (ks "rename")))
    (.seq (.ite (.pr (.cm .is) (Zj (.call "member_of" (Zj (.v 0) (Zw (.v 1) (ki 2)))) (.k .non)))
    (Zn (.ret (ks "number")))
    .nil)
   (.seq (.ret (.ite (.and (Z5 (.v 2) (ks "rename")) (.call "is_name_beside" (Jb (.v 0) (Zw (.v 1) (ki 2)) (Zw (.v 1) (ki 3))))) (ks "name") (.k .non)))
   .nil))
    .nil)
   (.seq (.set 3 (Zw (Zw (.v 1) (ki 2)) (ki 0)))
   (.seq (.ite (.or (.pr (.cm .isnt) (Zj (.call "member_of" (Zj (.v 0) (.v 3))) (.k .non))) (.pr (.cm .isin) (Zj (.v 3) (Zw (.v 0) (ki 2)))))
    (Zn (.ret (ks "number")))
    .nil)
   (.seq (.ite (.call "is_name_beside" (Jb (.v 0) (.v 3) (Zw (Zw (.v 1) (ki 2)) (ki 1))))
    (Zn (.ret (ks "name")))
    .nil)
   (.seq (.ret (.ite (.and (Z5 (.v 2) (ks "add")) (.not (.call "may_be_left_out" (Zb (Zw (.v 1) (ki 2)))))) (ks "must") (.k .non)))
   .nil))))))
def Yf:Df:=⟨4,2,By⟩
noncomputable def Tq:S:=(Zn (.ret (.pr .any (Zb (.comp (.v 0) (Zw (.v 0) (ki 1)) .nil (.and (Z5 (Zw (.v 0) (ki 1)) (.v 1)) (.pr (.cm .ne) (Zj (Zw (.v 0) (ki 0)) (.v 2)))) [none,some 2,some 1] ["member","name","number"])))))
def Ys:Df:=⟨3,3,Tq⟩
noncomputable def Lm:S:=(.seq (.set 2 (Zw (.v 0) (ki 0)))
   (.seq (.ite (.pr (.cm .ne) (Zj (Zw (.v 1) (ki 0)) (.v 2)))
    (Zn (.ret (.k (.bl true))))
    .nil)
   (.seq (.ite (Z5 (.v 2) (ks "whole"))
    (Zn (.ret (.or (.pr (.cm .gt) (Zj (Zw (.v 1) (ki 1)) (Zw (.v 0) (ki 1)))) (.pr (.cm .lt) (Zj (Zw (.v 1) (ki 2)) (Zw (.v 0) (ki 2)))))))
    .nil)
   (.seq (.ite (Z5 (.v 2) (ks "text"))
    (Zn (.ret (.pr (.cm .lt) (Zj (Zw (.v 1) (ki 1)) (Zw (.v 0) (ki 1))))))
    .nil)
   (.seq (.ret (.or (.pr (.cm .ne) (Zj (Zw (.v 1) (ki 1)) (Zw (.v 0) (ki 1)))) (.pr (.cm .lt) (Zj (Zw (.v 1) (ki 2)) (Zw (.v 0) (ki 2))))))
   .nil)))))
def Va:Df:=⟨3,2,Lm⟩
noncomputable def Dt:S:=(.seq (.set 2 (Zw (.v 1) (ki 0)))
   (.seq (.ite (.or (Z5 (.v 2) (ks "widen")) (Z5 (.v 2) (ks "form")))
    (Zn (.ret (Zw (.v 1) (ki 2))))
    .nil)
   (.seq (.ite (Z5 (.v 2) (ks "open"))
    (Zn (.ret (Gu (.pr (.sl false true) (Zj (.v 0) (ki 3))) (.tup (Zb (.k (.bl true)))))))
    .nil)
   (.seq (.set 3 (.pr .list (Zb (Zw (.v 0) (ki 1)))))
   (.seq (.set 4 (.pr .list (Zb (Zw (.v 0) (ki 2)))))
   (.seq (.ite (Z5 (.v 2) (ks "strike"))
    (.seq (.set 3 (.comp (.v 0) (.v 3) (.pr (.cm .ne) (Zj (Zw (.v 0) (ki 0)) (Zw (.v 1) (ki 2)))) (.v 0) [none,some 1] ["member","deed"]))
   (.seq (.ex (.mt .append 4 (Zb (Zw (.v 1) (ki 2)))))
   .nil))
    (Zn (.ite (Z5 (.v 2) (ks "rename"))
    (Zn (.set 3 (.comp (.v 0) (.v 3) .nil (.call "renamed" (Jb (.v 0) (Zw (.v 1) (ki 2)) (Zw (.v 1) (ki 3)))) [none,some 1] ["member","deed"])))
    (Zn (.ex (.mt .append 3 (Zb (Zw (.v 1) (ki 2)))))))))
   (.seq (.ret (Gu (.tup (Jb (Zw (.v 0) (ki 0)) (.pr .tuple (Zb (.pr .srtF (Zb (.v 3))))) (.pr .tuple (Zb (.pr .sorted (Zb (.v 4))))))) (.pr (.sl true false) (Zj (.v 0) (ki 3)))))
   .nil)))))))
def Vk:Df:=⟨5,2,Dt⟩
noncomputable def jy:S:=(Zn (.ret (.ite (Z5 (Zw (.v 0) (ki 0)) (.v 1)) (Gu (.tup (Zj (.v 1) (.v 2))) (.pr (.sl true false) (Zj (.v 0) (ki 2)))) (.v 0))))
def Di:Df:=⟨3,3,jy⟩
def Au:S:=(Zn (.ret (.lst (Jb (.v 0) (ki 0) (ki 0)))))
def Gz:Df:=⟨1,1,Au⟩
noncomputable def Y7:S:=(.seq (.ite (Z5 (Zw (.v 0) (ki 2)) (ki 0))
    (.seq (.set 2 (Zw (.v 0) (ki 1)))
   (.seq (.put 0 (ki 1) (Gu (.v 2) (ki 1)))
   (.seq (.set 3 (.v 2))
   (.seq (.ite (.pr (.cm .gt) (Zj (Jj (Zw (.v 0) (ki 0))) (ki 0)))
    (Zn (.set 3 (Zw (Zw (.v 0) (ki 0)) (.pr (.op .mod) (Zj (.v 2) (Jj (Zw (.v 0) (ki 0))))))))
    .nil)
   (.seq (.ite (.or (.pr (.cm .lt) (Zj (.v 3) (.pr (.op .pow) (Zj (ki 10) (ki 18))))) (.pr (.cm .ge) (Zj (.v 2) (Jj (Zw (.v 0) (ki 0))))))
    (.seq (.set 4 (.pr (.op .mod) (Zj (.pr (.op .mul) (Zj (Gu (.pr (.op .mod) (Zj (.v 3) (ki 1000003))) (ki 1)) (Gu (ki 48271) (.pr (.op .mul) (Zj (ki 2) (.pr (.op .mod) (Zj (.v 2) (ki 997)))))))) (ki 2147483647))))
   (.seq (.ret (.pr (.op .mod) (Zj (.pr (.op .fdiv) (Zj (.pr (.op .mod) (Zj (.pr (.op .mul) (Zj (Gu (.v 4) (.pr (.op .mul) (Zj (ki 104729) (.v 2)))) (ki 69621))) (ki 2147483629))) (ki 7))) (.v 1))))
   .nil))
    .nil)
   (.seq (.put 0 (ki 2) (.v 3))
   .nil))))))
    .nil)
   (.seq (.set 5 (.pr (.op .mod) (Zj (Zw (.v 0) (ki 2)) (.v 1))))
   (.seq (.put 0 (ki 2) (.pr (.op .fdiv) (Zj (Zw (.v 0) (ki 2)) (.v 1))))
   (.seq (.ret (.mv 5))
   .nil))))
def Gy:Df:=⟨6,2,Y7⟩
noncomputable def Ea:S:=(.seq (.ite (Z5 (.v 1) (ks "whole"))
    (.seq (.set 3 (Zw (.lst (.cons (ki 0) (.cons (ki 0) (.cons (.pr .neg (Zb (ki 1))) (.cons (ki 5) (.cons (.pr .neg (Zb (.pr (.op .pow) (Zj (ki 10) (ki 18))))) (.cons (.pr (.op .sub) (Zj (.pr (.op .pow) (Zj (ki 10) (ki 18))) (ki 1))) .nil))))))) (.call "_law_draw" (Zj (.io 0) (ki 6)))))
   (.seq (.ret (.tup (Jb (ks "whole") (.v 3) (.pr .min (Zj (.pr (.op .pow) (Zj (ki 10) (ki 18))) (Gu (.v 3) (Zw (.lst (n9 (ki 0) (ki 1) (ki 9) (.pr (.op .pow) (Zj (ki 10) (ki 18))))) (.call "_law_draw" (Zj (.io 0) (ki 4))))))))))
   .nil))
    .nil)
   (.seq (.ite (Z5 (.v 1) (ks "truth"))
    (Zn (.ret (.tup (Zb (ks "truth")))))
    .nil)
   (.seq (.ite (Z5 (.v 1) (ks "text"))
    (Zn (.ret (.tup (Zj (ks "text") (Zw (.lst (n9 (ki 0) (ki 1) (ki 2) (ki 200))) (.call "_law_draw" (Zj (.io 0) (ki 4))))))))
    .nil)
   (.seq (.ret (.tup (Jb (.v 1) (Zw (.v 2) (.call "_law_draw" (Zj (.io 0) (Jj (.v 2))))) (Zw (.lst (n9 (ki 0) (ki 1) (ki 2) (ki 20))) (.call "_law_draw" (Zj (.io 0) (ki 4)))))))
   .nil))))
def U2:Df:=⟨4,3,Ea⟩
noncomputable def Lb:S:=(.seq (.ite (Z5 (Zw (.v 1) (ki 0)) (ks "whole"))
    (Zn (.ret (Gu (Zw (.v 1) (ki 1)) (.call "_law_draw" (Zj (.io 0) (.pr .min (Zj (ki 3) (Gu (.pr (.op .sub) (Zj (Zw (.v 1) (ki 2)) (Zw (.v 1) (ki 1)))) (ki 1)))))))))
    .nil)
   (.seq (.ite (Z5 (Zw (.v 1) (ki 0)) (ks "truth"))
    (Zn (.ret (Z5 (.call "_law_draw" (Zj (.io 0) (ki 2))) (ki 1))))
    .nil)
   (.seq (.ite (Z5 (Zw (.v 1) (ki 0)) (ks "text"))
    (Zn (.ret (.pr (.op .mul) (Zj (ks "a") (.call "_law_draw" (Zj (.io 0) (.pr .min (Zj (ki 3) (Gu (Zw (.v 1) (ki 1)) (ki 1))))))))))
    .nil)
   (.seq (.ret (.tup .nil))
   .nil))))
def Vu:Df:=⟨2,2,Lb⟩
noncomputable def Wb:S:=(.seq (.set 5 (.lst (.cons (ks "a") (.cons (ks "ab") (.cons (ks "abc") (.cons (ks "form") (.cons (ks "x") (.cons (ks "xx") (.cons (ks "must") (.cons (ks "none") (.cons (ks "rowa") .nil)))))))))))
   (.seq (.set 5 (Zw (.v 5) (.pr .idx (Zj (.lst (.cons (ki 1) (.cons (ki 2) (.cons (ki 3) (.cons (ki 9) (.cons (ki 10) (.cons (ki 99) (.cons (ki 100) (.cons (ki 999) (.cons (ki 500) .nil)))))))))) (.v 2)))))
   (.seq (.set 6 (Zw (.v 4) (.call "_law_draw" (Zj (.io 0) (Jj (.v 4))))))
   (.seq (.ite (Z5 (.v 1) (ks "choice"))
    (Zn (.ret (.tup (Jb (.v 2) (.v 5) (.v 6)))))
    .nil)
   (.seq (.ite (.pr (.cm .gt) (Zj (.v 2) (ki 1)))
    (Zn (.set 6 (Zw (.pr .sorted (Zb (.v 3))) (.call "_law_draw" (Zj (.io 0) (Jj (.v 3)))))))
    .nil)
   (.seq (.ite (.and (.pr (.cm .isin) (Zj (.v 6) (.v 3))) (.pr (.cm .gt) (Zj (.call "_law_draw" (Zj (.io 0) (ki 4))) (ki 0))))
    (Zn (.ret (.tup (n9 (.v 2) (.v 5) (.v 6) (.tup (Zb (.call "_law_default" (Zj (.io 0) (Zw (.v 3) (.v 6))))))))))
    .nil)
   (.seq (.ret (.tup (n9 (.v 2) (.v 5) (.v 6) (.tup .nil))))
   .nil)))))))
def Gx:Df:=⟨7,5,Wb⟩
noncomputable def Gm:S:=(.seq (.set 4 (.lst (.cons (ki 1) (.cons (ki 2) (.cons (ki 3) (.cons (ki 9) (.cons (ki 10) (.cons (ki 99) (.cons (ki 100) (.cons (ki 999) .nil))))))))))
   (.seq (.set 5 (.call "_law_draw" (Zj (.io 0) (ki 8))))
   (.seq (.set 4 (.pr (.sl false true) (Zj (Gu (.pr (.sl true false) (Zj (.v 4) (.v 5))) (.pr (.sl false true) (Zj (.v 4) (.v 5)))) (.call "_law_draw" (Zj (.io 0) (ki 8))))))
   (.seq (.set 6 (.pr .max (Zj (ki 0) (.pr (.op .sub) (Zj (Jj (.v 4)) (Zw (.lst (n9 (ki 0) (ki 0) (ki 1) (ki 2))) (.call "_law_draw" (Zj (.io 0) (ki 4)))))))))
   (.seq (.set 7 (.comp (.v 0) (.pr .sorted (Zb (.pr (.sl false true) (Zj (.v 4) (.v 6))))) .nil (.call "_law_part" (.cons (.io 1) (.cons (.v 2) (.cons (.v 0) (.cons (.v 3) (.cons (.v 4) .nil)))))) [none,some 0,some 1,some 2,some 3] ["_law_number","_law_tape_here","_law_sort","_law_plain_here","_law_names"]))
   (.seq (.set 8 (.tup (Jb (.v 1) (.pr .tuple (Zb (.v 7))) (.pr .tuple (Zb (.pr .sorted (Zb (.pr (.sl true false) (Zj (.v 4) (.v 6))))))))))
   (.seq (.ret (.ite (Z5 (.v 1) (ks "record")) (.v 8) (Gu (.v 8) (.tup (Zb (Z5 (.call "_law_draw" (Zj (.io 0) (ki 2))) (ki 0)))))))
   .nil)))))))
def Uj:Df:=⟨9,4,Gm⟩
noncomputable def Pc:S:=(.seq (.set 1 (.pr .dnew .nil))
   (.seq (.loop (.v 2) (.v 0)
    (Zn (.ite (.pr (.cm .notin) (Zj (Zw (Zw (.v 0) (.v 2)) (ki 0)) (.lst (Zj (ks "record") (ks "choice")))))
    (Zn (.put 1 (.v 2) (Zw (.v 0) (.v 2))))
    .nil)))
   (.seq (.ret (.mv 1))
   .nil)))
def Uq:Df:=⟨3,1,Pc⟩
noncomputable def Wd:S:=(.seq (.set 1 (.lst (.cons (ks "a") (.cons (ks "ab") (.cons (ks "b") (.cons (ks "make") (.cons (ks "form") (.cons (ks "row") (.cons (ks "rows") (.cons (ks "text") (.cons (ks "must") (.cons (ks "none") (.cons (ks "abcdefgh") (.cons (ks "x") (.cons (ks "xx") (.cons (ks "arm") .nil))))))))))))))))
   (.seq (.set 2 (.call "_law_draw" (Zj (.io 0) (ki 14))))
   (.seq (.set 3 (.pr (.sl false true) (Zj (Gu (.pr (.sl true false) (Zj (.v 1) (.v 2))) (.pr (.sl false true) (Zj (.v 1) (.v 2)))) (Gu (ki 2) (.call "_law_draw" (Zj (.io 0) (ki 5)))))))
   (.seq (.set 4 (.lst (.cons (ks "record") (.cons (ks "choice") (.cons (ks "whole") (.cons (ks "record") (.cons (ks "choice") (.cons (ks "truth") (.cons (ks "text") (.cons (ks "row") (.cons (ks "map") .nil)))))))))))
   (.seq (.set 5 (.pr .dct1 (Zj (Zw (.v 3) (ki 0)) (.call "_law_plain" (Jb (.io 0) (Zw (.lst (n9 (ks "whole") (ks "truth") (ks "text") (ks "row"))) (.call "_law_draw" (Zj (.io 0) (ki 4)))) (.v 3))))))
   (.seq (.set 6 (.lst .nil))
   (.seq (.loop (.v 7) (.pr (.sl true false) (Zj (.v 3) (ki 1)))
    (.seq (.set 8 (Zw (.v 4) (.call "_law_draw" (Zj (.io 0) (ki 9)))))
   (.seq (.ite (.or (Z5 (.v 8) (ks "record")) (Z5 (.v 8) (ks "choice")))
    (Zn (.ex (.mt .append 6 (Zb (.tup (Zj (.v 7) (.v 8)))))))
    (Zn (.put 5 (.v 7) (.call "_law_plain" (Jb (.io 0) (.v 8) (.v 3))))))
   .nil)))
   (.seq (.set 9 (.pr .dict (Zb (.v 5))))
   (.seq (.loop (.tup (Zj (.v 7) (.v 8))) (.v 6)
    (Zn (.put 5 (.v 7) (.call "_law_parted" (n9 (.io 0) (.v 8) (.v 9) (.v 3))))))
   (.seq (.ret (.tup (Zj (Zw (.v 3) (.call "_law_draw" (Zj (.io 0) (Jj (.v 3))))) (.v 5))))
   .nil))))))))))
def Gw:Df:=⟨10,1,Wd⟩
noncomputable def Ei:S:=(.seq (.ite (.or (.pr (.isi .tuple) (Zb (.v 0))) (.pr (.isi .list) (Zb (.v 0))))
    (.seq (.ite (.pr (.cm .ne) (Zj (.pr (.isi .tuple) (Zb (.v 0))) (.pr (.isi .tuple) (Zb (.v 1)))))
    (Zn (.ret (.k (.bl false))))
    .nil)
   (.seq (.ite (.pr (.cm .ne) (Zj (.pr (.isi .list) (Zb (.v 0))) (.pr (.isi .list) (Zb (.v 1)))))
    (Zn (.ret (.k (.bl false))))
    .nil)
   (.seq (.ite (.pr (.cm .ne) (Zj (Jj (.v 0)) (Jj (.v 1))))
    (Zn (.ret (.k (.bl false))))
    .nil)
   (.seq (.ret (.pr .all (Zb (.comp (.v 0) (.itr .rng (Zb (Jj (.v 0)))) .nil (.call "_law_alike" (Zj (Zw (.v 1) (.v 0)) (Zw (.v 2) (.v 0)))) [none,some 0,some 1] ["_law_k","_law_due","_law_found"]))))
   .nil))))
    .nil)
   (.seq (.ite (.pr (.cm .is) (Zj (.v 0) (.k .non)))
    (Zn (.ret (.pr (.cm .is) (Zj (.v 1) (.k .non)))))
    .nil)
   (.seq (.ite (.pr (.isi .str) (Zb (.v 0)))
    (Zn (.ret (.and (.pr (.isi .str) (Zb (.v 1))) (Z5 (.v 1) (.v 0)))))
    .nil)
   (.seq (.ite (.pr (.isi .bool) (Zb (.v 0)))
    (Zn (.ret (.and (.pr (.isi .bool) (Zb (.v 1))) (Z5 (.v 1) (.v 0)))))
    .nil)
   (.seq (.ret (.and (.pr (.isi .int) (Zb (.v 1))) (.and (.not (.pr (.isi .bool) (Zb (.v 1)))) (Z5 (.v 1) (.v 0)))))
   .nil)))))
def Vz:Df:=⟨2,2,Ei⟩
noncomputable def Ao:S:=(.seq (.set 2 (.pr (.op .sub) (Zj (.call "_law_draw" (Zj (.io 0) (ki 4))) (ki 1))))
   (.seq (.ite (Z5 (Zw (.v 1) (ki 0)) (ks "truth"))
    (Zn (.ret (.tup (Jb (ks "whole") (ki 0) (Gu (ki 1) (.v 2))))))
    .nil)
   (.seq (.ite (Z5 (Zw (.v 1) (ki 0)) (ks "whole"))
    (Zn (.ret (.tup (Jb (ks "whole") (.pr (.op .sub) (Zj (Zw (.v 1) (ki 1)) (.v 2))) (.pr (.op .sub) (Zj (Gu (Zw (.v 1) (ki 2)) (.call "_law_draw" (Zj (.io 0) (ki 4)))) (ki 1)))))))
    .nil)
   (.seq (.ret (Gu (.pr (.sl false true) (Zj (.v 1) (.pr .neg (Zb (ki 1))))) (.tup (Zb (Gu (Zw (.v 1) (.pr .neg (Zb (ki 1)))) (.v 2))))))
   .nil))))
def Gj:Df:=⟨3,2,Ao⟩
noncomputable def Yh:S:=(.seq (.set 2 (.pr .sorted (Zb (Zw (.v 1) (ki 1)))))
   (.seq (.set 3 (Zw (.v 2) (.call "_law_draw" (Zj (.io 0) (Jj (.v 2))))))
   (.seq (.set 4 (Zw (Zw (.v 1) (ki 1)) (.v 3)))
   (.seq (.set 5 (.pr .dict (Zb (Zw (.v 1) (ki 1)))))
   (.seq (.set 6 (.tmp (.call "_law_plains" (Zb (.v 5)))))
   (.seq (.set 7 (.call "_law_draw" (Zj (.io 0) (ki 8))))
   (.seq (.ite (.pr (.cm .isin) (Zj (.v 3) (.v 6)))
    (Zn (.put 5 (.v 3) (.ite (.pr (.cm .gt) (Zj (.v 7) (ki 1))) (.call "_law_near" (Zj (.io 0) (.v 4))) (.call "_law_plain" (Jb (.io 0) (Zw (.v 4) (ki 0)) (.v 2))))))
    (.seq (.unp (.tup (Zj (.v 8) (.v 9))) (.pr (.sl true true) (Jb (.v 4) (ki 1) (ki 3))))
   (.seq (.set 10 (.pr (.sl true false) (Zj (.v 4) (ki 3))))
   (.seq (.set 11 (.call "_law_draw" (Zj (.io 0) (Gu (Jj (.v 8)) (ki 1)))))
   (.seq (.ite (.and (Z5 (.v 7) (ki 0)) (.pr (.cm .gt) (Zj (Jj (.v 10)) (ki 0))))
    (Zn (.set 10 (.tup (Zb (.not (Zw (.v 10) (ki 0)))))))
    (Zn (.ite (Z5 (.v 7) (ki 1))
    (Zn (.set 9 (.pr (.sl true false) (Zj (.v 9) (ki 1)))))
    (Zn (.ite (.pr (.cm .lt) (Zj (.v 7) (ki 4)))
    (.seq (.set 12 (.comp (.v 0) (.pr (.sl true true) (Jb (.v 8) (.v 11) (Gu (.v 11) (ki 1)))) .nil (Zw (.v 0) (ki 0)) [none] ["_law_part_here"]))
   (.seq (.set 8 (Gu (.pr (.sl false true) (Zj (.v 8) (.v 11))) (.pr (.sl true false) (Zj (.v 8) (Gu (.v 11) (ki 1))))))
   (.seq (.set 9 (.pr .tuple (Zb (.pr .sorted (Zb (Gu (.pr .list (Zb (.v 9))) (.pr (.op .mul) (Zj (.v 12) (.pr (.op .sub) (Zj (.v 7) (ki 2)))))))))))
   .nil)))
    (Zn (.ite (Z5 (.v 7) (ki 4))
    (Zn (.set 8 (.pr .tuple (Zb (.pr .srtP (Zb (Gu (.v 8) (.tup (Zb (.call "_law_part" (.cons (.io 0) (.cons (Zw (.v 4) (ki 0)) (.cons (ki 500) (.cons (.v 6) (.cons (.v 2) .nil)))))))))))))))
    (Zn (.ite (.pr (.cm .lt) (Zj (.v 11) (Jj (.v 8))))
    (.seq (.set 13 (.call "_law_part" (.cons (.io 0) (.cons (Zw (.v 4) (ki 0)) (.cons (Zw (Zw (.v 8) (.v 11)) (ki 0)) (.cons (.v 6) (.cons (.v 2) .nil)))))))
   (.seq (.ite (Z5 (.v 7) (ki 7))
    (Zn (.set 13 (Gu (.tup (Zj (Zw (Zw (.v 8) (.v 11)) (ki 0)) (Gu (ks "q") (.pr (.sl false true) (Zj (Zw (Zw (.v 8) (.v 11)) (ki 1)) (ki 6)))))) (.pr (.sl true false) (Zj (Zw (.v 8) (.v 11)) (ki 2))))))
    .nil)
   (.seq (.set 8 (Gu (Gu (.pr (.sl false true) (Zj (.v 8) (.v 11))) (.tup (Zb (.v 13)))) (.pr (.sl true false) (Zj (.v 8) (Gu (.v 11) (ki 1))))))
   .nil)))
    .nil)))))))))
   (.seq (.put 5 (.v 3) (Gu (.tup (Jb (Zw (.v 4) (ki 0)) (.v 8) (.v 9))) (.v 10)))
   .nil))))))
   (.seq (.set 14 (.tup (Zj (Zw (.lst (Zj (Zw (.v 1) (ki 0)) (.v 3))) (.pr .int (Zb (Z5 (.call "_law_draw" (Zj (.io 0) (ki 16))) (ki 0))))) (.v 5))))
   (.seq (.ret (.ite (.call "is_make" (Zb (.v 14))) (.v 14) (.v 1)))
   .nil)))))))))
def Ux:Df:=⟨15,2,Yh⟩
noncomputable def Aa:S:=(.seq (.loop (.v 3) (.itr .rng (Zb (.call "_law_draw" (Zj (.io 0) (Gu (.v 2) (ki 1))))))
    (Zn (.set 1 (.call "_law_turned" (Zj (.io 0) (.v 1))))))
   (.seq (.ret (.mv 1))
   .nil))
def Gq:Df:=⟨4,3,Aa⟩
noncomputable def Vh:S:=(.seq (.set 2 (.pr .sorted (Zb (Zw (.v 1) (ki 1)))))
   (.seq (.set 3 (Zw (.v 2) (.call "_law_draw" (Zj (.io 0) (Jj (.v 2))))))
   (.seq (.set 4 (Zw (Zw (.v 1) (ki 1)) (.v 3)))
   (.seq (.set 5 (.tmp (.call "_law_plains" (Zb (Zw (.v 1) (ki 1))))))
   (.seq (.set 6 (Zw (.lst (.cons (ki 1) (.cons (ki 2) (.cons (ki 9) (.cons (ki 10) (.cons (ki 99) (.cons (ki 999) (.cons (ki 500) .nil)))))))) (.call "_law_draw" (Zj (.io 0) (ki 7)))))
   (.seq (.set 7 (.call "_law_draw" (Zj (.io 0) (ki 9))))
   (.seq (.ite (Z5 (.v 7) (ki 0))
    (.seq (.set 8 (Zw (.lst (.cons (ks "whole") (.cons (ks "truth") (.cons (ks "text") (.cons (ks "row") (.cons (ks "map") (.cons (ks "record") (.cons (ks "choice") .nil)))))))) (.call "_law_draw" (Zj (.io 0) (ki 7)))))
   (.seq (.set 9 (Zw (.lst (Jb (ks "new") (ks "newer") (ks "a"))) (.call "_law_draw" (Zj (.io 0) (ki 3)))))
   (.seq (.ite (.pr (.cm .isin) (Zj (.v 8) (.lst (Zj (ks "record") (ks "choice")))))
    (Zn (.ret (.tup (Jb (ks "form") (.v 9) (.call "_law_parted" (n9 (.io 0) (.v 8) (.v 5) (Gu (.v 2) (.lst (Zj (.v 9) (.v 9))))))))))
    .nil)
   (.seq (.ret (.tup (Jb (ks "form") (.v 9) (.call "_law_plain" (Jb (.io 0) (.v 8) (Gu (.v 2) (.lst (Zj (.v 9) (.v 9)))))))))
   .nil))))
    .nil)
   (.seq (.ite (.pr (.cm .isin) (Zj (.v 3) (.v 5)))
    (Zn (.ret (.tup (Jb (ks "widen") (.v 3) (.call "_law_near" (Zj (.io 0) (.v 4)))))))
    .nil)
   (.seq (.set 10 (Gu (.comp (.v 0) (Zw (.v 4) (ki 1)) .nil (Zw (.v 0) (ki 0)) [none] ["_law_part_here"]) (.lst (Zb (.v 6)))))
   (.seq (.set 11 (Zw (.v 10) (.call "_law_draw" (Zj (.io 0) (Jj (.v 10))))))
   (.seq (.ite (.pr (.cm .lt) (Zj (.v 7) (ki 4)))
    (Zn (.ret (.tup (Jb (ks "strike") (.v 3) (.v 11)))))
    .nil)
   (.seq (.ite (Z5 (.v 7) (ki 4))
    (Zn (.ret (.tup (n9 (ks "rename") (.v 3) (.v 11) (Zw (.lst (Jb (ks "own") (ks "owner") (ks "a"))) (.call "_law_draw" (Zj (.io 0) (ki 3))))))))
    .nil)
   (.seq (.ite (Z5 (.v 7) (ki 5))
    (Zn (.ret (.tup (Zj (ks "open") (.v 3)))))
    .nil)
   (.seq (.ret (.tup (Jb (Zw (.lst (Zj (ks "add") (ks "arm"))) (.pr .int (Zb (Z5 (Zw (.v 4) (ki 0)) (ks "choice"))))) (.v 3) (.call "_law_part" (.cons (.io 0) (.cons (Zw (.v 4) (ki 0)) (.cons (.v 6) (.cons (.v 5) (.cons (.v 2) .nil)))))))))
   .nil))))))))))))))
def Gk:Df:=⟨12,2,Vh⟩
noncomputable def V7:S:=(.seq (.ite (.or (.pr (.cm .is) (Zj (.v 1) (.k .non))) (.pr (.cm .ne) (Zj (Zw (.v 1) (ki 0)) (Zw (.v 0) (ki 0)))))
    (Zn (.ret (ks "form")))
    .nil)
   (.seq (.ite (.pr (.cm .notin) (Zj (Zw (.v 0) (ki 0)) (.lst (Zj (ks "record") (ks "choice")))))
    (Zn (.ret (.k .non)))
    .nil)
   (.seq (.set 2 (.pr .dict (Zb (.comp (.v 0) (Zw (.v 0) (ki 1)) .nil (.tup (Zj (Zw (.v 0) (ki 0)) (Zw (.v 0) (ki 2)))) [none] ["_law_part_here"]))))
   (.seq (.set 3 (.pr .dict (Zb (.comp (.v 0) (Zw (.v 1) (ki 1)) .nil (.tup (Zj (Zw (.v 0) (ki 0)) (Zw (.v 0) (ki 2)))) [none] ["_law_part_here"]))))
   (.seq (.ite (.pr (.cm .gt) (Zj (Jj (.comp (.v 0) (.v 2) (.pr (.cm .notin) (Zj (.v 0) (Gu (.pr .list (Zb (.v 1))) (.pr .list (Zb (Zw (.v 2) (ki 2))))))) (.v 0) [none,some 3,some 1] ["_law_number","_law_theirs","_law_there"])) (ki 0)))
    (Zn (.ret (ks "lost")))
    .nil)
   (.seq (.ite (.pr (.cm .gt) (Zj (Jj (.comp (.v 0) (Zw (.v 0) (ki 2)) (.pr (.cm .notin) (Zj (.v 0) (Zw (.v 1) (ki 2)))) (.v 0) [none,some 1] ["_law_number","_law_there"])) (ki 0)))
    (Zn (.ret (ks "back")))
    .nil)
   (.seq (.ite (.pr (.cm .gt) (Zj (Jj (.comp (.v 0) (.v 2) (.pr (.cm .ne) (Zj (.pr .get2 (Jb (.v 2) (.v 0) (Zw (.v 1) (.v 0)))) (Zw (.v 1) (.v 0)))) (.v 0) [none,some 2,some 3] ["_law_number","_law_mine","_law_theirs"])) (ki 0)))
    (Zn (.ret (ks "turned")))
    .nil)
   (.seq (.ret (.ite (.and (Z5 (Zw (.v 0) (ki 0)) (ks "choice")) (.and (Zw (.v 0) (ki 3)) (.not (Zw (.v 1) (ki 3))))) (ks "shut") (.k .non)))
   .nil))))))))
def Y0:Df:=⟨4,2,V7⟩
noncomputable def Bw:S:=(.seq (.ite (.pr (.cm .ne) (Zj (Zw (.v 0) (ki 0)) (Zw (.v 1) (ki 0))))
    (Zn (.ret (ks "root")))
    .nil)
   (.seq (.set 2 (.comp (.v 0) (.pr .sorted (Zb (Zw (.v 0) (ki 1)))) .nil (.call "_law_form_word" (Zj (Zw (Zw (.v 1) (ki 1)) (.v 0)) (.pr .get1 (Zj (Zw (.v 2) (ki 1)) (.v 0))))) [none,some 0,some 1] ["_law_name","_law_make_here","_law_other"]))
   (.seq (.set 2 (.comp (.v 0) (.v 2) (.pr (.cm .isnt) (Zj (.v 0) (.k .non))) (.v 0) [none] ["_law_word"]))
   (.seq (.ret (.ite (.pr (.cm .gt) (Zj (Jj (.v 2)) (ki 0))) (Zw (.v 2) (ki 0)) (.k .non)))
   .nil))))
def Yk:Df:=⟨3,2,Bw⟩
noncomputable def M4:S:=(.seq (.set 3 (.pr .get2 (Jb (Zw (.v 0) (ki 1)) (.v 1) (.pr .tup1 (Zb (ks "truth"))))))
   (.seq (.ite (.pr (.cm .notin) (Zj (Zw (.v 3) (ki 0)) (.lst (Zj (ks "record") (ks "choice")))))
    (Zn (.ret (ks "none")))
    .nil)
   (.seq (.ite (.pr (.cm .isin) (Zj (.v 2) (.comp (.v 0) (Zw (.v 3) (ki 1)) .nil (Zw (.v 0) (ki 0)) [none] ["_law_part_here"])))
    (Zn (.ret (ks "there")))
    .nil)
   (.seq (.ret (.ite (.pr (.cm .isin) (Zj (.v 2) (Zw (.v 3) (ki 2)))) (ks "struck") (ks "none")))
   .nil))))
def Gv:Df:=⟨4,3,M4⟩
noncomputable def V2:S:=(.seq (.set 1 (.lst .nil))
   (.seq (.loop (.v 2) (.itr .rng (Zb (.call "_law_draw" (Zj (.io 0) (ki 7)))))
    (.seq (.set 3 (.ite (Z5 (.v 2) (ki 0)) (.call "_law_make" (Zb (.io 0))) (Zw (.v 1) (.pr .neg (Zb (ki 1))))))
   (.seq (.set 4 (.call "_law_tried" (Zj (.v 3) (.call "_law_deed" (Zj (.io 0) (.v 3))))))
   (.seq (.ite (.and (.not (.pr (.isi .str) (Zb (.v 4)))) (.pr (.cm .gt) (Zj (.call "_law_draw" (Zj (.io 0) (ki 4))) (ki 0))))
    (Zn (.set 3 (.v 4)))
    .nil)
   (.seq (.ite (Z5 (.call "_law_draw" (Zj (.io 0) (ki 5))) (ki 0))
    (Zn (.set 3 (.call "_law_next" (Jb (.io 0) (.v 3) (ki 2)))))
    .nil)
   (.seq (.ite (.and (.pr (.cm .gt) (Zj (.v 2) (ki 0))) (Z5 (.call "_law_draw" (Zj (.io 0) (ki 9))) (ki 0)))
    (Zn (.set 3 (Zw (.v 1) (.call "_law_draw" (Zj (.io 0) (.v 2))))))
    .nil)
   (.seq (.ex (.mt .append 1 (Zb (.v 3))))
   .nil)))))))
   (.seq (.ret (.mv 1))
   .nil)))
def U4:Df:=⟨5,1,V2⟩
def Eo:S:=(.seq (.loop (.v 1) (.itr .rng (Zj (ki 1) (Jj (.v 0))))
    (.seq (.set 2 (.call "_law_follow_word" (Zj (Zw (.v 0) (.pr (.op .sub) (Zj (.v 1) (ki 1)))) (Zw (.v 0) (.v 1)))))
   (.seq (.ite (.pr (.cm .isnt) (Zj (.v 2) (.k .non)))
    (Zn (.ret (.tup (Zj (.v 1) (.v 2)))))
    .nil)
   .nil)))
   (.seq (.ret (.k .non))
   .nil))
def U3:Df:=⟨3,1,Eo⟩
noncomputable def Bj:S:=(.seq (.set 2 (.lst (Zb (ks "zzz"))))
   (.seq (.loop (.v 3) (.v 1)
    (Zn (.set 2 (Gu (.v 2) (.pr .sorted (Zb (Zw (.v 3) (ki 1))))))))
   (.seq (.loop (.v 4) (.itr .rng (Zb (ki 8)))
    (.seq (.set 5 (Zw (.v 2) (.call "_law_draw" (Zj (.io 0) (Jj (.v 2))))))
   (.seq (.set 6 (Zw (.lst (.cons (ki 1) (.cons (ki 2) (.cons (ki 3) (.cons (ki 9) (.cons (ki 10) (.cons (ki 99) (.cons (ki 100) (.cons (ki 999) (.cons (ki 500) (.cons (ki 998) .nil))))))))))) (.call "_law_draw" (Zj (.io 0) (ki 10)))))
   (.seq (.set 7 (.comp (.v 0) (.v 1) .nil (.call "_law_life" (Jb (.v 0) (.v 1) (.v 2))) [none,some 5,some 6] ["_law_make_here","_law_name","_law_number"]))
   (.seq (.set 8 (.call "number_lives" (Jb (.v 1) (.v 5) (.v 6))))
   (.seq (.ite (.not (.tmp (.call "_law_alike" (Zj (.v 7) (.v 8)))))
    (Zn (.ret (.k (.bl false))))
    .nil)
   (.seq (.ex (.mt .append 8 (Zb (ks "x"))))
   (.seq (.ite (.not (.call "_law_alike" (Zj (.v 7) (.call "number_lives" (Jb (.v 1) (.v 5) (.v 6))))))
    (Zn (.ret (.k (.bl false))))
    .nil)
   .nil))))))))
   (.seq (.ret (.k (.bl true)))
   .nil))))
def Yy:Df:=⟨9,2,Bj⟩
noncomputable def c_law:S:=(.seq (.set 1 (.call "_law_tape" (Zb (.v 0))))
   (.seq (.loop (.v 2) (.itr .rng (Zb (ki 6)))
    (.seq (.set 3 (.call "_law_drawn" (Zb (.io 1))))
   (.seq (.set 4 (.pr .repr (Zb (.v 3))))
   (.seq (.ite (.or (.not (.call "_law_alike" (Zj (.call "_law_first" (Zb (.v 3))) (.call "first_wrong" (Zb (.v 3)))))) (.not (.call "_law_lives_right" (Zj (.io 1) (.v 3)))))
    (Zn (.ret (.k (.bl false))))
    .nil)
   (.seq (.ite (.or (.not (.call "_law_alike" (Zj (.call "_law_first" (Zb (.pr .rev (Zb (.v 3))))) (.call "first_wrong" (Zb (.pr .rev (Zb (.v 3)))))))) (.pr (.cm .ne) (Zj (.pr .repr (Zb (.v 3))) (.v 4))))
    (Zn (.ret (.k (.bl false))))
    .nil)
   .nil)))))
   (.seq (.ret (.k (.bl true)))
   .nil)))
def El:Df:=⟨5,1,c_law⟩
noncomputable def c_done:S:=(.seq (.set 2 (.call "fault_of" (Zj (.v 0) (.v 1))))
   (.seq (.ite (.pr (.cm .isnt) (Zj (.v 2) (.k .non)))
    (Zn (.rais "BadDeed" (.v 2)))
    .nil)
   (.seq (.set 3 (.pr .dict (Zb (Zw (.v 0) (ki 1)))))
   (.seq (.put 3 (Zw (.v 1) (ki 1)) (.call "shape_behind" (Zj (.call "form_of" (Zj (.v 0) (Zw (.v 1) (ki 1)))) (.v 1))))
   (.seq (.set 4 (.tup (Zj (Zw (.v 0) (ki 0)) (.v 3))))
   (.seq (.ite (.not (.call "is_make" (Zb (.v 4))))
    (Zn (.rais "BadDeed" (ks "make")))
    .nil)
   (.seq (.ret (.mv 4))
   .nil)))))))
def Pf:Df:=⟨5,2,c_done⟩
noncomputable def Eu:S:=(.seq (.set 2 (.k .non))
   (.seq (.tri (Zn (.set 2 (.call "done" (Zj (.v 0) (.v 1))))) "BadDeed" (some 3) (Zn (.set 2 (.pr (.fld "word") (Zb (.v 3))))))
   (.seq (.ret (.v 2))
   .nil)))
def U1:Df:=⟨4,2,Eu⟩
theorem O9{c:Prop}[Decidable c]{j:Type}{a:j}{o:Option j}{Q:j->Prop}(h:c)(q:Q a):on (if c then some a else o) Q:=by rw[if_pos h];exact q
theorem Zz{b:Bool}{A B:Prop}(h:b=true->A)(h':b=false->B):if b=true then A else B:=by
 cases b with
 | true=>exact h rfl
 | false=>exact h' rfl
theorem mulP{a b:Int}{Q:Sl->Prop}(h:0<=a/\a<2 ^ 64)(q:Q (.f (.int (a * b)))):on (lq .mul (.int a) (.int b)) Q:=O9 (.inl ⟨by omega,h.2⟩) q
theorem mulR{a b:Int}{Q:Sl->Prop}(h:0<=b/\b<2 ^ 64)(q:Q (.f (.int (a * b)))):on (lq .mul (.int a) (.int b)) Q:=O9 (.inr ⟨by omega,h.2⟩) q
theorem modP{a b:Int}{Q:Sl->Prop}(h:0<b)(q:Q (.f (.int (a % b)))):on (lq .mod (.int a) (.int b)) Q:=O9 h q
theorem divP{a b:Int}{Q:Sl->Prop}(h:0<b/\b<1073741824)(q:Q (.f (.int (a / b)))):on (lq .fdiv (.int a) (.int b)) Q:=O9 h q
theorem jr{ts:ZZ}{x:T}{Q:T×T->Prop}(h:ts.length<sizeLine)(q:Q (.lst (ts++[x]),.non)):on (mtT .append (.lst ts) [x]) Q:=O9 h q
theorem G0{body:T->P->En->Prop}{xs:ZZ}{p:P}{D:En}(I:ZZ->P->Prop)(h:I xs p)(st:∀x r p (D':En),I (x::r) p->(∀q,I r q->D'.nx q)->(∀s q,D.rt s q->D'.rt s q)->body x p D')(q:∀q,I [] q->D.nx q):Fl body xs p D :=
 we I (fun _=>False) D.rt (fun x r p D' h n _ _ r'=>st x r p D' h n r') xs p D h q (fun _ z=>z.elim) fun _ _ z=>z
noncomputable def Zr:Nat->S->S
 | 0,s=>s
 | n+1,.seq _ r=>Zr n r
 | _,s=>s
def Od:S->S
 | .seq (.ite _ a _) _=>a
 | s=>s
def t7:S->S
 | .seq (.ite _ _ a) _=>a
 | s=>s
def lpB:S->S
 | .seq (.loop _ _ b) _=>b
 | s=>s
noncomputable def Zg(zs:ZT)(i k:Int):T:=.lst [.lst (zs.map .int),.int i,.int k]
def Vm(C:Cs):Prop:=∀{zs:ZT} {i k m:Int},0<m->m<1000000->cN (C "_law_draw" [.o (Zg zs i k),.f (.int m)]) fun x=>∃r i' k',0<=r/\r<m/\x=(.f (.int r),[Zg zs i' k'])
theorem Zl{C:Cs}(h:Vm C){zs:ZT}{i k m:Int}{Q:Sl×ZZ->Prop}{X:Fb->Prop}(m0:0<m)(m1:m<1000000)(q:∀r i' k',0<=r->r<m->Q (.f (.int r),[Zg zs i' k'])):cC (C "_law_draw" [.o (Zg zs i k),.f (.int m)]) Q X :=
 Zk (h m0 m1) fun x ⟨r,i',k',h1,h2,e⟩=>by rw[e];exact q r i' k' h1 h2
theorem sy{w:W}(zs:ZT):wF Gz w [.f (.lst (zs.map .int))] fun x=>x=(.o (Zg zs 0 0),[]):=by
 refine Zy rfl fun D rt _=>?_;exact rt _ _ rfl
theorem Zzp{w:W}{zs:ZT}{i k m:Int}(m0:0<m)(m1:m<1000000):wF Gy w [.o (Zg zs i k),.f (.int m)] fun x=>∃r i' k',0<=r/\r<m/\x=(.f (.int r),[Zg zs i' k']):=by
 refine Zy rfl fun D rt _=>?_
 have fin:∀(i' k':Int) (s2 s3 s4:Sl),wS w (Yb [.o (Zg zs i k),.f (.int m)]) (Zr 1 Y7) [.o (Zg zs i' k'),.f (.int m),s2,s3,s4,.no] D:=fun i' k' s2 s3 s4=>by
  refine modP m0 ?_;refine divP ⟨m0,by omega⟩ ?_;exact rt _ _ ⟨k' % m,i',k' / m,Int.emod_nonneg _ (by omega),Int.emod_lt_of_pos _ m0,rfl⟩
 refine Zz (b:=decide (k=0)) (fun _=>?_) fun _=>fin i k _ _ _
 have fin2:∀c:Int,wS w (Yb [.o (Zg zs i k),.f (.int m)]) (Zr 4 (Od Y7)) [.o (Zg zs (i+1) k),.f (.int m),.f (.int i),.f (.int c),.no,.no] ⟨fun q=>wS w (Yb [.o (Zg zs i k),.f (.int m)]) (Zr 1 Y7) q D,D.rt,D.bk,D.ct⟩:=fun c=>by
  have out:wS w (Yb [.o (Zg zs i k),.f (.int m)]) (Od (Zr 4 (Od Y7))) [.o (Zg zs (i+1) k),.f (.int m),.f (.int i),.f (.int c),.no,.no] ⟨fun q=>wS w (Yb [.o (Zg zs i k),.f (.int m)]) (Zr 5 (Od Y7)) q ⟨fun q=>wS w (Yb [.o (Zg zs i k),.f (.int m)]) (Zr 1 Y7) q D,D.rt,D.bk,D.ct⟩,D.rt,D.bk,D.ct⟩:=by
   have a0:=Int.emod_nonneg c (show (1000003:Int)≠0 by omega);have a1:=Int.emod_lt_of_pos c (show (0:Int)<1000003 by omega);refine mulP (a:=c % 1000003+1) ⟨by omega,by omega⟩ ?_;refine mulR ⟨by omega,by omega⟩ ?_;refine modP m0 ?_;exact rt _ _ ⟨_,_,_,Int.emod_nonneg _ (by omega),Int.emod_lt_of_pos _ m0,rfl⟩
  refine Zz (b:=decide (c<(10:Int) ^ 18)) (fun _=>out) fun _=>?_;refine Zz (b:=decide ((((zs.map T.int).length:Nat):Int)<=i)) (fun _=>out) fun _=>?_;exact fin _ _ _ _ _
 refine Zz (b:=decide ((0:Int)<((zs.map T.int).length:Nat))) (fun g=>?_) fun _=>fin2 i;have g:=T1 g;refine modP g ?_;obtain⟨x,hx,_,mx⟩:=Pa (xs:=zs.map T.int) (Int.emod_nonneg i (show (((zs.map T.int).length:Nat):Int)≠0 by omega)) (Int.emod_lt_of_pos i g);obtain⟨z,_,rfl⟩:=Gd.mp mx;refine ixLP hx ?_;exact fin2 z
abbrev Kn:=List Sl->(Sl×ZZ->Prop)->Prop
abbrev cl(C:Cs)(f:Str):Kn:=fun as Q=>cN (C f as) Q
def Tl(P:Prop)(x:Sl×ZZ):Prop:=∃b:Bool,(b=true->P)/\x=(.f (.bl b),[])
theorem Yp{C:Cs}{f:Str}{as:List Sl}{P:Prop}{Q:Sl×ZZ->Prop}(h:cN (C f as) (Tl P)){X:Fb->Prop}(q:∀b:Bool,(b=true->P)->Q (.f (.bl b),[])):cC (C f as) Q X:=Zk h fun x ⟨b,hb,e⟩=>by rw[e];exact q b hb
theorem Tl.no{P:Prop}:Tl P (.f (.bl false),[]):=⟨false,(fun z=>nomatch z),rfl⟩
def LET:Str:="abcdefghijklmnopqrstuvwxyz"
def SIG : Str := " !\"#$&'()*+,-./0123456789:;<=>?@ABCDEFGHIJKLMNOPQRSTUVWXYZ[\\]^_`abcdefghijklmnopqrstuvwxyz{|}~"
structure GL(g:Str->Option T):Prop where
 gw:g "GREATEST_WHOLE" = some (.int 1000000000000000000)
 gn:g "GREATEST_NUMBER" = some (.int 999)
 lt:g "LONGEST_TEXT" = some (.int 200)
 ln:g "LONGEST_NAME" = some (.int 8)
 mp:g "MOST_PARTS" = some (.int 20)
 mf:g "MOST_FIELDS" = some (.int 8)
 mm:g "MOST_FORMS" = some (.int 8)
 le:g "LETTERS" = some (.str LET)
 si:g "SIGNS" = some (.str SIG)
 fi:g "is_field" = some (.fn "is_field")
 ar:g "is_arm" = some (.fn "is_arm")
noncomputable def Ll:ZT:=[1,2,3,9,10,99,100,999,500]
def j7(i:Int):Prop:=-1000000000000000000<=i/\i<=1000000000000000000
def Sm(x:Str):Prop:=x.length<=8/\okK (.inr x)
theorem Sm.z{x:Str}(h:Sm x):x.length<=sizeLine:=by have:=sizeLine_eq;have:=h.1;omega
inductive Dx:T->Prop
 | int{i:Int}(h:j7 i):Dx (.int i)
 | bl {b:Bool}:Dx (.bl b)
 | str {x:Str} (h:Sm x):Dx (.str x)
 | nil:Dx (.tup [])
inductive Dfl:ZZ->Prop
 | no:Dfl []
 | is {x:T} (h:Dx x):Dfl [x]
inductive Dfs:Bool->ZZ->Prop
 | arm:Dfs false []
 | fld {ds:ZZ} (h:Dfl ds):Dfs true [.tup ds]
inductive Gr(ns:ZG)(k:Bool):T->Prop
 | mk{n:Int}{x o:Str}{ds:ZZ}(hn:n∈Ll)(hx:Sm x)(ho:o∈ns)(hd:Dfs k ds):Gr ns k (.tup (.int n::.str x::.str o::ds))
noncomputable def Z0:T->Int
 | .tup (.int i::_)=>i
 | _=>0
structure M6(ns:ZG)(k:Bool)(ps:ZZ):Prop where
 l:ps.length<=20
 p:∀p∈ps,Gr ns k p
inductive Raw(ns:ZG):T->Prop
 | whole{a b:Int}:Raw ns (.tup [.str "whole",.int a,.int b])
 | truth:Raw ns (.tup [.str "truth"])
 | text {n:Int}:Raw ns (.tup [.str "text",.int n])
 | row {o:Str} {n:Int} (ho:o∈ns):Raw ns (.tup [.str "row",.str o,.int n])
 | map {o:Str} {n:Int} (ho:o∈ns):Raw ns (.tup [.str "map",.str o,.int n])
 | record {ps:ZZ} {zs:ZT} (hp:M6 ns true ps) (hs:zs.length<=20):Raw ns (.tup [.str "record",.tup ps,.tup (zs.map .int)])
 | choice {ps:ZZ} {zs:ZT} {b:Bool} (hp:M6 ns false ps) (hs:zs.length<=20):Raw ns (.tup [.str "choice",.tup ps,.tup (zs.map .int),.bl b])
def Ris(zs:ZT):Prop:=zs.Pairwise (· < ·)
structure Mem(ps:ZZ)(zs:ZT):Prop where
 l:ps.length<=8
 d:(ps.map Z0).Nodup
 sl:zs.length<=8
 sb:∀z∈zs,j7 z
inductive Bn:T->Prop
 | whole{a b:Int}(ha:j7 a)(hb:j7 b)(le:a<=b):Bn (.tup [.str "whole",.int a,.int b])
 | truth:Bn (.tup [.str "truth"])
 | text {n:Int} (h0:0<=n) (h1:n<=200):Bn (.tup [.str "text",.int n])
 | row {o:Str} {n:Int} (h0:0<=n) (h1:n<=20):Bn (.tup [.str "row",.str o,.int n])
 | map {o:Str} {n:Int} (h0:0<=n) (h1:n<=20):Bn (.tup [.str "map",.str o,.int n])
 | record {ps:ZZ} {zs:ZT} (h:Mem ps zs):Bn (.tup [.str "record",.tup ps,.tup (zs.map .int)])
 | choice {ps:ZZ} {zs:ZT} {b:Bool} (h:Mem ps zs):Bn (.tup [.str "choice",.tup ps,.tup (zs.map .int),.bl b])
def A7(K:Kn):Prop:=∀{t:T} {lo hi:Int},Dx t->K [.f t,.f (.int lo),.f (.int hi)] (Tl (∃i,t=.int i/\lo<=i/\i<=hi))
def Bm(K:Kn):Prop:=∀{i lo hi:Int},K [.f (.int i),.f (.int lo),.f (.int hi)] (Tl (lo<=i/\i<=hi))
theorem zu{w:W}:Bm (wF Vr w):=fun {i lo hi}=>by
 refine Zy rfl fun D rt _=>?_;refine c2P ?_;exact rt _ _ ⟨_,(fun z=>by simpa using z),rfl⟩
theorem wa{w:W}:A7 (wF Vr w):=fun {t lo hi} h=>by
 cases h with
 | int h =>
  refine Zy rfl fun D rt _=>?_;refine c2P ?_;exact rt _ _ ⟨_,(fun z=>⟨_,rfl,by simpa using z⟩),rfl⟩
 | bl=>refine Zy rfl fun D rt _=>?_;exact rt _ _ .no
 | str h=>refine Zy rfl fun D rt _=>?_;exact rt _ _ .no
 | nil=>refine Zy rfl fun D rt _=>?_;exact rt _ _ .no
def PItW(K:Kn):Prop:=∀{i:Int},K [.f (.int i)] (Tl (j7 i))
theorem Qu{w:W}(g:GL w.gl)(hW:Bm (cl w.C "is_whole")):PItW (wF Y1 w):=fun {i}=>by
 refine Zy rfl fun D rt _=>?_;refine qh g.gw ?_;refine qh g.gw ?_;refine Yp hW fun b hb=>?_;exact rt _ _ ⟨b,hb,rfl⟩
def ng(K:Kn):Prop:=∀{i:Int},K [.f (.int i)] (Tl (1<=i/\i<=999))
theorem xa{w:W}(g:GL w.gl)(hW:Bm (cl w.C "is_whole")):ng (wF U7 w):=fun {i}=>by
 refine Zy rfl fun D rt _=>?_;refine qh g.gn ?_;refine Yp hW fun b hb=>?_;exact rt _ _ ⟨b,hb,rfl⟩
theorem Bp{w:W}{x:Str}{g:Str}{s:Str}(hg:w.gl g=some (.str s))(hz:x.length<=sizeLine){Q:ZZ->P->Prop}(q:∀s0,Q ((x.cps.toList.map fun c=>T.str ⟨#[c]⟩).map fun t=>.bl ((Kq t (.str s)).getD false)) [s0]) :
  Z7 (fun t p K=>on (asg (.v 0) t p) fun s1=>if isNil .nil=true then wE w.nx (.pr (.cm .isin) (Zj (.v 0) (.g g))) s1 fun r s2=>My r fun y=>K (some y) s2
   else wE w.nx .nil s1 fun r s2=>L5 r fun b=>if b=true then wE w.nx (.pr (.cm .isin) (Zj (.v 0) (.g g))) s2 fun r s3=>My r fun y=>K (some y) s3 else K none s2) (x.cps.toList.map fun c=>T.str ⟨#[c]⟩) [] [.no] Q:=by
 refine Zh (fun t=>.bl ((Kq t (.str s)).getD false)) (fun p=>∃s0,p=[s0]) ⟨_,rfl⟩ (fun t mt p K hp hk=>?_) fun p hp=>by obtain⟨s0,rfl⟩:=hp;exact q s0
 obtain⟨s0,rfl⟩:=hp;obtain⟨c,_,rfl⟩:=Gd.mp mt;refine qh hg ?_;exact hk _ ⟨_,rfl⟩
def nv(K:Kn):Prop:=∀{t:T} {n:Int},Dx t->K [.f t,.f (.int n)] (Tl (∃x,t=.str x/\(x.length:Int)<=n))
theorem sv{w:W}(g:GL w.gl):nv (wF De w):=fun {t n} h=>by
 cases h with
 | int h=>refine Zy rfl fun D rt _=>?_;exact rt _ _ .no
 | bl=>refine Zy rfl fun D rt _=>?_;exact rt _ _ .no
 | nil=>refine Zy rfl fun D rt _=>?_;exact rt _ _ .no
 | @str x h =>
  refine Zy rfl fun D rt _=>?_;refine lenP h.z ?_;refine Zz (b:=!decide (n<(x.length:Int))) (fun z=>?_) fun z=>rt _ _ .no;refine wi h.z ?_;refine Bp g.si h.z fun p=>?_;refine A4 ?_;exact rt _ _ ⟨_,fun _=>⟨x,rfl,by simpa using z⟩,rfl⟩
def Te(K:Kn):Prop:=∀{x:Str},x.length<=sizeLine->K [.f (.str x)] (Tl True)
theorem oa{w:W}(g:GL w.gl):Te (wF Ug w):=fun {x} h=>by
 refine Zy rfl fun D rt _=>?_;refine lenP h ?_;refine qh g.ln ?_;refine c2P ?_;refine Zz (b:=!(decide (1<=(x.length:Int)) && decide ((x.length:Int)<=8))) (fun _=>rt _ _ .no) fun _=>?_;refine wi h ?_;refine Bp g.le h fun p=>?_;refine A4 ?_;exact rt _ _ ⟨_,fun _=>trivial,rfl⟩
def P6(K:Kn):Prop:=∀{ts:ZZ},K [.f (.tup ts)] fun x=>x=(.f (.bl (!decide ((8:Int)<(ts.length:Nat)))),[])
theorem v9{w:W}(g:GL w.gl):P6 (wF Yr w):=fun {ts}=>by
 refine Zy rfl fun D rt _=>?_;refine qh g.mf ?_;exact rt _ _ rfl
theorem Mr{body:T->P->(Option T->P->Prop)->Prop}{xs:ZZ}{p:P}{Q:ZZ->P->Prop}(R:T->Prop)(St:P->Prop)(h0:St p)
  (st:∀x∈xs,∀p K,St p->(∀(b:Bool) p',(b=true->R x)->St p'->K (some (.bl b)) p')->body x p K) (q:∀(bs:List Bool) p,(bs.all id=true->∀x∈xs,R x)->St p->Q (bs.map .bl) p):Z7 body xs [] p Q:=by
 refine Bs (fun rest acc p=>∃bs:List Bool,acc=bs.map .bl/\(bs.all id=true->∀x∈xs,x∈rest\/R x)/\(∀x∈rest,x∈xs)/\St p) ⟨[],rfl,fun _ x m=>.inl m,fun x m=>m,h0⟩ (fun x r acc p K hi hk _=>?_) fun acc p hi=>?_
 .obtain⟨bs,rfl,hr,hx,hs⟩:=hi;refine st x (hx x Yd) p K hs fun b p' hb T6=>hk _ _ ⟨bs++[b],by rw[P9];rfl,fun ha y my=>?_,fun y m=>hx y (Vq _ m),T6⟩;rw[List.all_append,Vi]at ha;rcases hr ha.1 y my with h | h
  .rcases Vt.mp h with rfl | h
   .exact .inr (hb (by simpa using ha.2))
   .exact .inl h
  .exact .inr h
 .obtain⟨bs,rfl,hr,_,hs⟩:=hi;exact q bs p (fun ha x m=>(hr ha x m).elim (fun z=>absurd z Td) id) hs
theorem P1:∀bs:List Bool,allB (bs.map .bl)=some bs
 | []=>rfl
 | b::bs=>by show (allB (bs.map .bl)).map (b::·)=_;rw[P1 bs];rfl
theorem js{bs:List Bool}{Q:Sl->Prop}(q:Q (.f (.bl (bs.all id)))):on ((allB (bs.map .bl)).map fun bs=>Sl.f (.bl (bs.all id))) Q:=Zm (by rw[P1];rfl) q
noncomputable def ltI:T->Bool
 | .tup [.int a,.int b]=>decide (a<b)
 | _=>false
theorem Oq:∀(a:Int) (zs:ZT),((((a::zs).map T.int).zip (zs.map .int)).map fun p=>T.tup [p.1,p.2]).all ltI=true->Ris (a::zs)
 | a,[],_=>List.pairwise_singleton _ _
 | a,b::zs,h=>by
  have h:(decide (a<b) && ((((b::zs).map T.int).zip (zs.map .int)).map fun p=>T.tup [p.1,p.2]).all ltI)=true:=h;rw[Vi]at h;have r:=Oq b zs h.2;have ab:a<b:=T1 h.1;refine ZA.mpr ⟨fun c m=>?_,r⟩;rcases Vt.mp m with rfl | m
  .exact ab
  .exact Int.lt_trans ab ((ZA.mp r).1 c m)
theorem cut1(t:T)(ts:ZZ):Ye (t::ts) (some 1) none=ts:=by
 rw[Bz (by omega) (by rw[Jl];omega)];rfl
theorem Iz(zs:ZT)(h:(D6 (zs.map .int) (Ye (zs.map .int) (some 1) none)).all ltI=true):Ris zs:=by
 cases zs with
 | nil=>exact List.Pairwise.nil
 | cons a zs =>
  rw[P8,cut1]at h;exact Oq a zs h
def Zxw(K:Kn):Prop:=∀{zs:ZT},K [.f (.lst (zs.map .int))] (Tl (Ris zs))/\K [.f (.tup (zs.map .int))] (Tl (Ris zs))
theorem O3{w:W}{zs:ZT}{Q:ZZ->P->Prop}(q:∀s0 s1,Q ((D6 (zs.map .int) (Ye (zs.map .int) (some 1) none)).map fun t=>.bl (ltI t)) [s0,s1]) :
  Z7 (fun t p K=>on (asg (.tup (Zj (.v 0) (.v 1))) t p) fun s1=>if isNil .nil=true then wE w.nx (.pr (.cm .lt) (Zj (.v 0) (.v 1))) s1 fun r s2=>My r fun y=>K (some y) s2
   else wE w.nx .nil s1 fun r s2=>L5 r fun b=>if b=true then wE w.nx (.pr (.cm .lt) (Zj (.v 0) (.v 1))) s2 fun r s3=>My r fun y=>K (some y) s3 else K none s2) (D6 (zs.map .int) (Ye (zs.map .int) (some 1) none)) [] [.no,.no] Q:=by
 refine Zh (fun t=>.bl (ltI t)) (fun p=>∃s0 s1,p=[s0,s1]) ⟨_,_,rfl⟩ (fun t mt p K hp hk=>?_) fun p hp=>?_
 .obtain⟨s0,s1,rfl⟩:=hp;obtain⟨⟨x,y⟩,mz,rfl⟩:=Gd.mp mt;obtain⟨m1,m2⟩:=List.of_mem_zip mz;obtain⟨a,_,rfl⟩:=Gd.mp m1;obtain⟨b,_,rfl⟩:=Gd.mp (N9 m2);exact hk _ ⟨_,_,rfl⟩
 .obtain⟨s0,s1,rfl⟩:=hp;exact q s0 s1
theorem O2{w:W}:Zxw (wF N4 w):=fun {zs}=>by
 constructor
 .refine Zy rfl fun D rt _=>?_;refine O3 fun s0 s1=>?_;refine A4 ?_;exact rt _ _ ⟨_,fun z=>Iz zs z,rfl⟩
 .refine Zy rfl fun D rt _=>?_;refine O3 fun s0 s1=>?_;refine A4 ?_;exact rt _ _ ⟨_,fun z=>Iz zs z,rfl⟩
def PStk(K:Kn):Prop:=∀{zs ns:ZT},K [.f (.tup (zs.map .int)),.f (.lst (ns.map .int))] (Tl (zs.length<=8/\∀z∈zs,j7 z))
theorem xj{w:W}(hS:P6 (cl w.C "is_short_tuple"))(hN:ng (cl w.C "is_number"))(hR:Zxw (cl w.C "rises")):PStk (wF U6 w):=fun {zs ns}=>by
 refine Zy rfl fun D rt _=>?_;refine Zk hS fun x ex=>?_;subst ex;refine Zz (b:=!!decide ((8:Int)<((zs.map T.int).length:Nat))) (fun _=>rt _ _ .no) fun z=>?_;refine Mr (fun t=>∀i,t=.int i->j7 i) (fun p=>∃s0,p=[s0]) ⟨_,rfl⟩ (fun t mt p K hp hk=>?_) fun bs p hb hp=>?_
 .obtain⟨s0,rfl⟩:=hp;obtain⟨i,_,rfl⟩:=Gd.mp mt;refine Yp hN fun b hb=>?_;exact hk b _ (fun h j e=>by cases e;have:=hb h;exact⟨by omega,by omega⟩) ⟨_,rfl⟩
 obtain⟨s0,rfl⟩:=hp;refine js ?_;refine Zz (b:=!bs.all id) (fun _=>rt _ _ .no) fun z2=>?_;refine Yp hR.2 fun b1 _=>?_;refine Zz (b:=b1) (fun _=>?_) fun _=>rt _ _ .no;refine Zh (fun t=>.bl ((Kq t (.lst (ns.map .int))).getD false)) (fun p=>∃s0,p=[s0,.f (.lst (ns.map .int))]) ⟨_,rfl⟩ (fun t mt p K hp hk=>?_) fun p hp=>?_
 .obtain⟨s0,rfl⟩:=hp;obtain⟨i,_,rfl⟩:=Gd.mp mt;refine Zm (a:=Sl.f (.bl (ns.any fun z=>decide (z=i)))) (by show (Kq (.int i) (.lst (ns.map .int))).map _=_;rw[C3];rfl) ?_;have:=hk [.f (.int i),.f (.lst (ns.map .int))] ⟨_,rfl⟩;rw[C3]at this;exact this
 obtain⟨s0,rfl⟩:=hp;refine A3 ?_;refine rt _ _ ⟨_,fun _=>⟨?_,fun z m=>?_⟩,rfl⟩
 .have z':(zs.length:Int)<=8:=by simpa using z
  omega
 .exact hb (Rp z2) (.int z) (List.mem_map_of_mem m) z rfl
def Mn(K:Kn)(R:T->Prop):Prop:=∀{t:T},R t->K [.f t] (Tl True)
theorem Ec{w:W}:Mn (wF Uw w) fun t=>∃ds,t=.tup ds:=fun {t} h=>by
 obtain⟨ds,rfl⟩:=h;refine Zy rfl fun D rt _=>?_;exact rt _ _ ⟨_,fun _=>trivial,rfl⟩
theorem Zz9{w:W}(hN:ng (cl w.C "is_number"))(hM:Te (cl w.C "is_name")):Mn (wF N6 w) fun t=>∃n x o,Sm x/\o.length<=sizeLine/\t=.tup [.int n,.str x,.str o]:=fun {t} h=>by
 obtain⟨n,x,o,hx,ho,rfl⟩:=h;refine Zy rfl fun D rt _=>?_;refine Yp hN fun b _=>?_;refine Zz (b:=b) (fun _=>?_) fun _=>rt _ _ .no;refine Yp (hM hx.z) fun b _=>?_;refine Zz (b:=b) (fun _=>?_) fun _=>rt _ _ .no;refine Yp (hM ho) fun b _=>?_;exact rt _ _ ⟨b,fun _=>trivial,rfl⟩
theorem qo{w:W}(hA:Mn (cl w.C "is_arm") fun t=>∃n x o,Sm x/\o.length<=sizeLine/\t=.tup [.int n,.str x,.str o])(hD:Mn (cl w.C "is_default") fun t=>∃ds,t=.tup ds):Mn (wF Gf w) fun t=>∃n x o ds,Sm x/\o.length<=sizeLine/\t=.tup [.int n,.str x,.str o,.tup ds]:=fun {t} h=>by
 obtain⟨n,x,o,ds,hx,ho,rfl⟩:=h;refine Zy rfl fun D rt _=>?_;refine Yp (hA ⟨n,x,o,hx,ho,rfl⟩) fun b _=>?_;refine Zz (b:=b) (fun _=>?_) fun _=>rt _ _ .no;refine Yp (hD ⟨ds,rfl⟩) fun b _=>?_;exact rt _ _ ⟨b,fun _=>trivial,rfl⟩
noncomputable def nmS:T->Str
 | .tup (_::.str x::_)=>x
 | _ => ""
theorem lsetP{ss:ZG}{Q:Sl->Prop}(h:ss.length<64)(q:Q (.f (.int (SRT.j0 ss).length))):on (L1 .lset [.lst (ss.map .str)]) Q:=Zm (by show (Nz (ss.map .str)).bind _=_;rw[PV.strs_map];exact if_pos h) q
theorem Ru{w:W}(hS:P6 (cl w.C "is_short_tuple"))(hR:Zxw (cl w.C "rises"))(hK:PStk (cl w.C "is_struck")){ns:ZG}{k:Bool}{ps:ZZ}{zs:ZT}{f:Str}(hp:M6 ns k ps)(hf:∀p,Gr ns k p->cN (w.C f [.f p]) (Tl True)):wF Yi w [.f (.tup ps),.f (.tup (zs.map .int)),.f (.fn f)] (Tl (Mem ps zs)):=by
 refine Zy rfl fun D rt _=>?_;refine Zk hS fun x ex=>?_;subst ex;refine Zz (b:=!!decide ((8:Int)<(ps.length:Nat))) (fun _=>rt _ _ .no) fun z=>?_;have z':(ps.length:Int)<=8:=by simpa using z
 refine Mr (fun _=>True) (fun p=>∃s0,p=[s0,.f (.fn f)]) ⟨_,rfl⟩ (fun t mt p K hs hk=>?_) fun bs p hb hs=>?_
 .obtain⟨s0,rfl⟩:=hs;refine Yp (hf t (hp.p t mt)) fun b _=>?_;exact hk b _ (fun _=>trivial) ⟨_,rfl⟩
 obtain⟨s0,rfl⟩:=hs;refine js ?_;refine Zz (b:=!bs.all id) (fun _=>rt _ _ .no) fun _=>?_;refine Zh (fun t=>.int (Z0 t)) (fun p=>∃s0,p=[s0]) ⟨_,rfl⟩ (fun t mt p K hs hk=>?_) fun p hs=>?_
 .obtain⟨s0,rfl⟩:=hs;cases hp.p t mt with | mk hn hx ho hd =>
  cases hd<;>exact hk _ ⟨_,rfl⟩
 obtain⟨s1,rfl⟩:=hs;rw[show (ps.map fun t=>T.int (Z0 t))=(ps.map Z0).map .int by rw[List.map_map];rfl];refine Zh (fun t=>.str (nmS t)) (fun p=>∃s0,p=[s0]) ⟨_,rfl⟩ (fun t mt p K hs hk=>?_) fun p hs=>?_
 .obtain⟨s0,rfl⟩:=hs;cases hp.p t mt with | mk hn hx ho hd =>
  cases hd<;>exact hk _ ⟨_,rfl⟩
 obtain⟨s2,rfl⟩:=hs;rw[show (ps.map fun t=>T.str (nmS t))=(ps.map nmS).map .str by rw[List.map_map];rfl];refine Yp hR.1 fun b1 h1=>?_;refine Zz (b:=b1) (fun z1=>?_) fun _=>rt _ _ .no;refine lsetP (by rw[Za];omega) ?_;refine Zz (b:=decide (((SRT.j0 (ps.map nmS)).length:Int)=(((ps.map nmS).map T.str).length:Nat))) (fun _=>?_) fun _=>rt _ _ .no;refine Yp hK fun b2 h2=>?_;exact rt _ _ ⟨b2,fun z2=>⟨by omega,(h1 z1).imp fun h=>Int.ne_of_lt h,(h2 z2).1,(h2 z2).2⟩,rfl⟩
def PBnd(K:Kn):Prop:=∀{a b:Int},K [.f (.int a),.f (.int b)] (Tl (j7 a/\j7 b/\a<=b))
theorem jc{w:W}(hI:PItW (cl w.C "is_item_whole")):PBnd (wF Uv w):=fun {a b}=>by
 refine Zy rfl fun D rt _=>?_;refine Yp hI fun b1 h1=>?_;refine Zz (b:=b1) (fun z1=>?_) fun _=>rt _ _ .no;refine Yp hI fun b2 h2=>?_;refine Zz (b:=b2) (fun z2=>?_) fun _=>rt _ _ .no;exact rt _ _ ⟨!decide (b<a),fun z=>⟨h1 z1,h2 z2,by simpa using z⟩,rfl⟩
def Zxy(K:Kn)(k:Bool)(f:Str):Prop:=∀{ns:ZG} {ps:ZZ} {zs:ZT},(∀x∈ns,Sm x)->M6 ns k ps->K [.f (.tup ps),.f (.tup (zs.map .int)),.f (.fn f)] (Tl (Mem ps zs))
def ny(K:Kn):Prop:=∀{ns:ZG} {t:T},(∀x∈ns,Sm x)->Raw ns t->K [.f t] (Tl (Bn t))
theorem yz{w:W}(g:GL w.gl)(hB:PBnd (cl w.C "are_bounds"))(hW:Bm (cl w.C "is_whole"))(hM:Te (cl w.C "is_name"))(hF:Zxy (cl w.C "are_members") true "is_field")(hA:Zxy (cl w.C "are_members") false "is_arm"):ny (wF Gg w):=fun {ns t} hs h=>by
 refine Zy rfl fun D rt _=>?_;cases h with
 | whole =>
  refine Yp hB fun b hb=>?_;exact rt _ _ ⟨b,fun z=>.whole (hb z).1 (hb z).2.1 (hb z).2.2,rfl⟩
 | truth=>exact rt _ _ ⟨true,fun _=>.truth,rfl⟩
 | text =>
  refine qh g.lt ?_;refine Yp hW fun b hb=>?_;exact rt _ _ ⟨b,fun z=>.text (hb z).1 (hb z).2,rfl⟩
 | row ho =>
  refine Yp (hM (hs _ ho).z) fun b _=>?_;refine Zz (b:=b) (fun _=>?_) fun _=>rt _ _ .no;refine qh g.mp ?_;refine Yp hW fun b hb=>?_;exact rt _ _ ⟨b,fun z=>.row (hb z).1 (hb z).2,rfl⟩
 | map ho =>
  refine Yp (hM (hs _ ho).z) fun b _=>?_;refine Zz (b:=b) (fun _=>?_) fun _=>rt _ _ .no;refine qh g.mp ?_;refine Yp hW fun b hb=>?_;exact rt _ _ ⟨b,fun z=>.map (hb z).1 (hb z).2,rfl⟩
 | record hp _ =>
  refine qh g.fi ?_;refine Yp (hF hs hp) fun b hb=>?_;exact rt _ _ ⟨b,fun z=>.record (hb z),rfl⟩
 | choice hp _ =>
  refine qh g.ar ?_;refine Yp (hA hs hp) fun b hb=>?_;refine Zz (b:=b) (fun z=>?_) fun _=>rt _ _ .no;exact rt _ _ ⟨true,fun _=>.choice (hb z),rfl⟩
inductive Tt:T->T->Prop
 | whole{a b i:Int}(h1:a<=i)(h2:i<=b):Tt (.tup [.str "whole",.int a,.int b]) (.int i)
 | truth {b:Bool}:Tt (.tup [.str "truth"]) (.bl b)
 | text {n:Int} {x:Str} (h:(x.length:Int)<=n):Tt (.tup [.str "text",.int n]) (.str x)
 | row {o:Str} {n:Int}:Tt (.tup [.str "row",.str o,.int n]) (.tup [])
 | map {o:Str} {n:Int}:Tt (.tup [.str "map",.str o,.int n]) (.tup [])
def PSng(K:Kn):Prop:=∀{ns:ZG} {s v:T},Raw ns s->Dx v->K [.f s,.f v] (Tl (Tt s v))
theorem xy{w:W}(hW:A7 (cl w.C "is_whole"))(hT:nv (cl w.C "is_text")):PSng (wF Yg w):=fun {ns s v} h hv=>by
 refine Zy rfl fun D rt _=>?_;cases h with
 | whole =>
  refine Yp (hW hv) fun b hb=>?_;exact rt _ _ ⟨b,fun z=>by obtain⟨i,rfl,l,u⟩:=hb z;exact .whole l u,rfl⟩
 | truth =>
  cases hv with
  | bl=>exact rt _ _ ⟨true,fun _=>.truth,rfl⟩
  | _=>exact rt _ _ .no
 | text =>
  refine Yp (hT hv) fun b hb=>?_;exact rt _ _ ⟨b,fun z=>by obtain⟨x,rfl,l⟩:=hb z;exact .text l,rfl⟩
 | _=>exact rt _ _ .no
noncomputable def Y9(ps:ZZ)(n:Int):Option T:=ps.find? fun p=>decide (Z0 p=n)
theorem Nr{p:T}{ps:ZZ}{n:Int}(e:Z0 p=n):Y9 (p::ps) n=some p:=List.find?_cons_of_pos (p:=fun p=>decide (Z0 p=n)) (Ml e)
theorem Nh{p:T}{ps:ZZ}{n:Int}(e:Z0 p≠n):Y9 (p::ps) n=Y9 ps n:=List.find?_cons_of_neg (p:=fun p=>decide (Z0 p=n)) fun z=>e (T1 z)
def ja(K:Kn):Prop:=∀{ns:ZG} {k:Bool} {ps r:ZZ} {s:Str} {n:Int},(∀p∈ps,Gr ns k p)->K [.f (.tup (.str s::.tup ps::r)),.f (.int n)] fun x=>x=(.f ((Y9 ps n).getD .non),[])
theorem xo{w:W}:ja (wF U0 w):=fun {ns k ps r s n} h=>by
 refine Zy rfl fun D rt _=>?_;refine Nk ?_;refine G0 (fun rest p=>∃s2,p=[.f (.tup (.str s::.tup ps::r)),.f (.int n),s2]/\(∀x∈rest,x∈ps)/\Y9 ps n=Y9 rest n) ⟨_,rfl,fun x m=>m,rfl⟩ (fun x rest p D' hi nx rt'=>?_) fun p hi=>?_
 .obtain⟨s2,rfl,hr,hf⟩:=hi;have hx:=h x (hr x Yd);cases hx with | @mk m y o ds hn hy ho hd =>
  refine Uu ?_;refine Zz (b:=decide (m=n)) (fun e=>?_) fun e=>?_
  .refine rt' _ _ (rt _ _ ?_);rw[hf,Nr (show Z0 (T.tup (.int m::.str y::.str o::ds))=n from T1 e)];rfl
  .refine nx _ ⟨_,rfl,fun y m=>hr y (Vq _ m), ?_⟩;rw[hf,Nh (show Z0 (T.tup (.int m::.str y::.str o::ds))≠n from of_decide_eq_false e)]
 .obtain⟨s2,rfl,_,hf⟩:=hi;exact rt _ _ (by rw[hf];rfl)
def nr(K:Kn):Prop:=∀{root x:Str} {XY:ZX} {t:T},Zv XY (.inr x)=some t->K [.f (.tup [.str root,.dct XY]),.f (.str x)] fun y=>y=(.f t,[])
theorem Zzd{w:W}:nr (wF Um w):=fun {root x XY t} e=>by
 refine Zy rfl fun D rt _=>?_;refine rt _ _ ?_;show ((.f ((Zv XY (.inr x)).getD .non),[]):Sl×ZZ)=(.f t,[]);rw[e];rfl
noncomputable def Ci:T->Str
 | .tup (_::_::.str o::_)=>o
 | _ => ""
def POfs(K:Kn):Prop:=∀{ns:ZG} {t:T},Raw ns t->K [.f t] fun x=>∃os:ZG,(∀o∈os,o∈ns)/\x=(.o (.lst (os.map .str)),[])
theorem L6{w:W}{ns:ZG}{k:Bool}{ps:ZZ}(hp:M6 ns k ps){Q:ZZ->P->Prop}(q:∀s0,Q ((ps.map Ci).map .str) [s0]) :
  Z7 (fun x s K=>on (asg (.v 0) x s) fun s1=>if isNil .nil=true then wE w.nx (Zw (.v 0) (ki 2)) s1 fun r s2=>My r fun y=>K (some y) s2
   else wE w.nx .nil s1 fun r s2=>L5 r fun b=>if b=true then wE w.nx (Zw (.v 0) (ki 2)) s2 fun r s3=>My r fun y=>K (some y) s3 else K none s2) ps [] [.no] Q:=by
 refine Zh (fun t=>.str (Ci t)) (fun p=>∃s0,p=[s0]) ⟨_,rfl⟩ (fun t mt p K hs hk=>?_) fun p hs=>?_
 .obtain⟨s0,rfl⟩:=hs;cases hp.p t mt with | mk hn hx ho hd =>
  cases hd<;>exact hk _ ⟨_,rfl⟩
 obtain⟨s1,rfl⟩:=hs;rw[show (ps.map fun t=>T.str (Ci t))=(ps.map Ci).map .str by rw[List.map_map];rfl];exact q s1
theorem gx{ns:ZG}{k:Bool}{ps:ZZ}(hp:M6 ns k ps):∀o∈ps.map Ci,o∈ns:=fun o m=>by
 obtain⟨p,mp,rfl⟩:=Gd.mp m;cases hp.p p mp with | mk hn hx ho hd=>exact ho
theorem ofs_ok{w:W}:POfs (wF N5 w):=fun {ns t} h=>by
 refine Zy rfl fun D rt _=>?_;cases h with
 | @row o n ho=>exact rt _ _ ⟨[o],(fun x m=>by rw[V8.mp m];exact ho),rfl⟩
 | @map o n ho=>exact rt _ _ ⟨[o],(fun x m=>by rw[V8.mp m];exact ho),rfl⟩
 | record hp _ =>
  refine L6 hp fun s0=>?_;exact rt _ _ ⟨_,gx hp,rfl⟩
 | choice hp _ =>
  refine L6 hp fun s0=>?_;exact rt _ _ ⟨_,gx hp,rfl⟩
 | _=>exact rt _ _ ⟨[],(fun x m=>absurd m Td),rfl⟩
noncomputable abbrev G1(ps:ZZ)(zs:ZT):T:=.tup [.str "record",.tup ps,.tup (zs.map .int)]
noncomputable abbrev Cj(ps:ZZ)(zs:ZT)(b:Bool):T:=.tup [.str "choice",.tup ps,.tup (zs.map .int),.bl b]
structure Cf(ns:ZG)(XY:ZX):Prop where
 k:XY.map (·.1)=ns.map Sum.inr
 r:∀p∈XY,Raw ns p.2
 sm:∀x∈ns,Sm x
theorem Z1{XY:ZX}{k:Key}{t:T}(h:Zv XY k=some t):(k,t)∈XY:=by
 obtain⟨p,e,rfl⟩:=Y8.mp (show (XY.find? fun p=>decide (p.1=k)).map (·.2)=some t from h);have:=T1 (List.find?_some (p:=fun p:Key×T=>decide (p.1=k)) e);have m:=List.mem_of_find?_eq_some e;rw[<-this];exact m
theorem Cf.get{ns:ZG}{XY:ZX}(h:Cf ns XY){o:Str}(ho:o∈ns):∃s,Zv XY (.inr o)=some s/\Raw ns s:=by
 have m:(Sum.inr o:Key)∈XY.map (·.1):=by rw[h.k];exact List.mem_map_of_mem ho
 cases e:Zv XY (.inr o) with
 | some s=>exact⟨s,rfl,h.r _ (Z1 e)⟩
 | none =>
  exfalso
  obtain⟨p,mp,ep⟩:=Gd.mp m;have e:(XY.find? fun p=>decide (p.1=Sum.inr o)).map (·.2)=none:=e;rw[Option.map_eq_none_iff,XJ]at e;exact e p mp (Ml ep)
theorem Cf.key{ns:ZG}{XY:ZX}(h:Cf ns XY){p:Key×T}(m:p∈XY):∃x,x∈ns/\p.1=.inr x:=by
 have:p.1∈XY.map (·.1):=List.mem_map_of_mem m;rw[h.k]at this;obtain⟨x,mx,e⟩:=Gd.mp this;exact⟨x,mx,e.symm⟩
def DF(XY:ZX)(ps:ZZ):Prop:=∀n x o v,T.tup [.int n,.str x,.str o,.tup [v]]∈ps->∃s,Zv XY (.inr o)=some s/\Tt s v
def PFd(K:Kn):Prop:=∀{ns:ZG} {XY:ZX} {n:Int} {x o:Str} {ds:ZZ} {s:T},Zv XY (.inr o)=some s->Raw ns s->Dfl ds->K [.f (.tup [.int n,.str x,.str o,.tup ds]),.f (.dct XY)] (Tl (∀v,ds=[v]->Tt s v))
theorem tv{w:W}(hS:PSng (cl w.C "is_single_value")):PFd (wF Vb w):=fun {ns XY n x o ds s} e hs hd=>by
 refine Zy rfl fun D rt _=>?_;refine Hh e ?_;cases hd with
 | no=>exact rt _ _ ⟨true,(fun _ v z=>nomatch z),rfl⟩
 | @is v hv =>
  cases hs with
  | row ho =>
   cases hv with
   | nil=>exact rt _ _ ⟨true,(fun _ v z=>by cases z;exact .row),rfl⟩
   | _=>exact rt _ _ .no
  | map ho =>
   cases hv with
   | nil=>exact rt _ _ ⟨true,(fun _ v z=>by cases z;exact .map),rfl⟩
   | _=>exact rt _ _ .no
  | whole=>refine Yp (hS (ns:=ns) .whole hv) fun b hb=>?_;exact rt _ _ ⟨b,(fun z v e=>by cases e;exact hb z),rfl⟩
  | truth=>refine Yp (hS (ns:=ns) .truth hv) fun b hb=>?_;exact rt _ _ ⟨b,(fun z v e=>by cases e;exact hb z),rfl⟩
  | text=>refine Yp (hS (ns:=ns) .text hv) fun b hb=>?_;exact rt _ _ ⟨b,(fun z v e=>by cases e;exact hb z),rfl⟩
  | record hp hz=>refine Yp (hS (.record hp hz) hv) fun b hb=>?_;exact rt _ _ ⟨b,(fun z v e=>by cases e;exact hb z),rfl⟩
  | choice hp hz=>refine Yp (hS (.choice hp hz) hv) fun b hb=>?_;exact rt _ _ ⟨b,(fun z v e=>by cases e;exact hb z),rfl⟩
def PFi(K:Kn):Prop:=∀{ns:ZG} {XY:ZX} {s:T},Cf ns XY->Raw ns s->K [.f s,.f (.dct XY)] (Tl (∀ps zs,s=G1 ps zs->DF XY ps))
theorem tj{w:W}(hO:POfs (cl w.C "ofs_of"))(hD:PFd (cl w.C "fits_default")):PFi (wF D3 w):=fun {ns XY s} hk hs=>by
 refine Zy rfl fun D rt _=>?_;refine Zk (hO hs) fun y ⟨os,ho,ey⟩=>?_;subst ey;refine Mr (fun _=>True) (fun p=>∃s0,p=[s0,.f (.dct XY)]) ⟨_,rfl⟩ (fun t mt p K hp hk=>?_) fun bs p _ hp=>?_
 .obtain⟨s0,rfl⟩:=hp;obtain⟨o,_,rfl⟩:=Gd.mp mt;exact hk _ _ (fun _=>trivial) ⟨_,rfl⟩
 obtain⟨s0,rfl⟩:=hp;refine js ?_;refine Zz (b:=!bs.all id) (fun _=>rt _ _ .no) fun _=>?_;cases hs with
 | @record ps zs hp hz =>
  refine Mr (fun t=>∀n x o v,t=.tup [.int n,.str x,.str o,.tup [v]]->∃s,Zv XY (.inr o)=some s/\Tt s v) (fun p=>∃s0,p=[s0,.f (.dct XY)]) ⟨_,rfl⟩ (fun t mt p K hq Kj=>?_) fun bs p hb hq=>?_
  .obtain⟨s0,rfl⟩:=hq;cases hp.p t mt with | @mk n x o ds hn hx ho hd =>
   cases hd with | @fld ds hd =>
   obtain⟨s,e,hs⟩:=hk.get ho;refine Yp (hD e hs hd) fun b hb=>?_;exact Kj b _ (fun z n x o v e'=>by cases e';exact⟨s,e,hb z v rfl⟩) ⟨_,rfl⟩
  obtain⟨s0,rfl⟩:=hq;refine js ?_;refine rt _ _ ⟨_,fun z ay n8 e=>?_,rfl⟩;have e':T.tup ps=.tup ay:=by injection e with e;injection e with _ e;injection e with e _
  cases e';exact fun n x o v m=>hb z _ m n x o v rfl
 | _=>exact rt _ _ ⟨true,(fun _ ps zs z=>by cases z),rfl⟩
def PFms(K:Kn):Prop:=∀{ns:ZG} {XY:ZX},Cf ns XY->K [.f (.dct XY)] (Tl (XY.length<=8/\∀p∈XY,Bn p.2))
theorem dh{w:W}(g:GL w.gl)(hM:Te (cl w.C "is_name"))(hS:ny (cl w.C "is_shape")):PFms (wF U8 w):=fun {ns XY} hk=>by
 refine Zy rfl fun D rt _=>?_;refine qh g.mm ?_;refine c2P ?_;refine Zz (b:=!(decide ((1:Int)<=(XY.length:Nat)) && decide (((XY.length:Nat):Int)<=8))) (fun _=>rt _ _ .no) fun zl=>?_
 have l8:XY.length<=8:=by
  have h:=Rp zl;rw[Vi]at h;have:=T1 h.2;omega
 refine Mr (fun t=>∀k s,t=.tup [k,s]->Bn s) (fun p=>∃s0 s1,p=[s0,s1]) ⟨_,_,rfl⟩ (fun t mt p K hq Kj=>?_) fun bs p hb hq=>?_
 .obtain⟨s0,s1,rfl⟩:=hq;obtain⟨⟨k,s⟩,mp,rfl⟩:=Gd.mp mt;obtain⟨x,mx,ex⟩:=hk.key mp;cases(show k=.inr x from ex);refine Yp (hM (hk.sm x mx).z) fun b _=>?_;refine Zz (b:=b) (fun _=>?_) fun _=>Kj false _ (fun z=>nomatch z) ⟨_,_,rfl⟩;refine Yp (hS hk.sm (hk.r _ mp)) fun b hb=>?_;exact Kj b _ (fun z k s e=>by cases e;exact hb z) ⟨_,_,rfl⟩
 obtain⟨s0,s1,rfl⟩:=hq;refine js ?_;exact rt _ _ ⟨_,fun z=>⟨l8,fun p mp=>hb z _ (List.mem_map_of_mem mp) _ _ rfl⟩,rfl⟩
def PMk(K:Kn):Prop:=∀{ns:ZG} {XY:ZX} {root:Str},Cf ns XY->root∈ns->K [.f (.tup [.str root,.dct XY])] (Tl (XY.length<=8/\(∀p∈XY,Bn p.2)/\∀p∈XY,∀ps zs,p.2=G1 ps zs->DF XY ps))
theorem qw{w:W}(hF:PFms (cl w.C "are_forms"))(hM:Te (cl w.C "is_name"))(hI:PFi (cl w.C "fits_in")):PMk (wF D1 w):=fun {ns XY root} hk hr=>by
 refine Zy rfl fun D rt _=>?_;refine Yp (hF hk) fun b1 h1=>?_;refine Zz (b:=!b1) (fun _=>rt _ _ .no) fun z1=>?_;refine Yp (hM (hk.sm _ hr).z) fun b2 _=>?_;refine Zz (b:=!b2) (fun _=>rt _ _ .no) fun _=>?_;refine Zz (b:=!(Zv XY (.inr root)).isSome) (fun _=>rt _ _ .no) fun _=>?_;refine Mr (fun s=>∀ps zs,s=G1 ps zs->DF XY ps) (fun p=>∃s0,p=[s0,.f (.dct XY)]) ⟨_,rfl⟩ (fun t mt p K hq Kj=>?_) fun bs p hb hq=>?_
 .obtain⟨s0,rfl⟩:=hq;obtain⟨q,mq,rfl⟩:=Gd.mp mt;refine Yp (hI hk (hk.r _ mq)) fun b hb=>?_;exact Kj b _ hb ⟨_,rfl⟩
 obtain⟨s0,rfl⟩:=hq;refine js ?_;exact rt _ _ ⟨_,fun z=>⟨(h1 (Rp z1)).1,(h1 (Rp z1)).2,fun p mp=>hb z _ (List.mem_map_of_mem mp)⟩,rfl⟩
structure Sh(d w:Nat)(t:T):Prop where
 o:okT 20 t
 w:Fc t<=w
 d:dpT t<=d
theorem Sh.mono{d w d' w':Nat}{t:T}(h:Sh d w t)(hd:d<=d')(hw:w<=w'):Sh d' w' t:=⟨h.o,Gs h.w hw,Gs h.d hd⟩
theorem Qj{d w:Nat}:∀{ts:ZZ},(∀t∈ts,Sh d w t)->k8 20 ts/\Oj ts<=ts.length * (w+1)/\Ab ts<=d
 | [],_=>⟨trivial,Cb _,Cb _⟩
 | t::r,h=>by
  have a:=h t Yd;obtain⟨b,c,e⟩:=Qj (ts:=r) fun x m=>h x (Vq _ m);refine⟨⟨a.o,b⟩, ?_,Nat.max_le.mpr ⟨a.d,e⟩⟩;show Fc t+1+Oj r<=(r.length+1) * (w+1);have:=a.w;rw[Nat.add_mul];omega
theorem Sh.tup{d w n:Nat}{ts:ZZ}(l:ts.length<=n)(l':n<=20)(h:∀t∈ts,Sh d w t):Sh (d+1) (n * (w+1)) (.tup ts):=by
 obtain⟨a,b,c⟩:=Qj h;exact⟨⟨Gs l l',a⟩,Gs b (Nat.mul_le_mul_right _ l),Nat.add_le_add_right c 1⟩
theorem yy{d w:Nat}:∀{XY:ZX},(∀p∈XY,(∃x,Sm x/\p.1=.inr x)/\Sh d w p.2)->ai 20 XY/\zp XY<=XY.length * (w+10)/\t9 XY<=d
 | [],_=>⟨trivial,Cb _,Cb _⟩
 | (k,t)::r,h=>by
  obtain⟨⟨x,hx,e⟩,a⟩:=h (k,t) Yd;cases(show k=.inr x from e);obtain⟨b,c,e⟩:=yy (XY:=r) fun x m=>h x (Vq _ m);refine⟨⟨hx.2,a.o,b⟩, ?_,Nat.max_le.mpr ⟨a.d,e⟩⟩;show x.length+Fc t+2+zp r<=(r.length+1) * (w+10);have:=(show Fc t<=w from a.w);have:=hx.1;rw[Nat.add_mul];omega
theorem Qw{i:Int}(h:j7 i):Sh 1 70 (.int i):=⟨(show i.natAbs<=10 ^ 19 by have:=h.1;have:=h.2;omega),D5 _,Cb _⟩
theorem Bu{x:Str}(h:Sm x):Sh 1 70 (.str x):=⟨h.2,Gs h.1 (by omega),Cb _⟩
theorem Sx{n:Int}(h:n∈Ll):j7 n:=by
 have:∀n∈Ll, -1000000000000000000<=n/\n<=1000000000000000000:=by decide
 exact this n h
theorem sh_dx{t:T}(h:Dx t):Sh 1 70 t:=by
 cases h with
 | int h=>exact Qw h
 | bl=>exact⟨trivial,Cb _,Cb _⟩
 | str h=>exact Bu h
 | nil=>exact⟨⟨Cb _,trivial⟩,Cb _,D5 _⟩
theorem sh1{a:T}{d w:Nat}(ha:Sh d w a):Sh (d+1) (4 * (w+1)) (.tup [a]):=Sh.tup (by simp) (by omega) (by simp[ha])
theorem sh3{a b c:T}{d w:Nat}(ha:Sh d w a)(hb:Sh d w b)(hc:Sh d w c):Sh (d+1) (4 * (w+1)) (.tup [a,b,c]):=Sh.tup (by simp) (by omega) (by simp[ha,hb,hc])
theorem sh4{a b c e:T}{d w:Nat}(ha:Sh d w a)(hb:Sh d w b)(hc:Sh d w c)(he:Sh d w e):Sh (d+1) (4 * (w+1)) (.tup [a,b,c,e]):=Sh.tup (by simp) (by omega) (by simp[ha,hb,hc,he])
theorem sh_prt{ns:ZG}{k:Bool}{t:T}(hs:∀x∈ns,Sm x)(h:Gr ns k t):Sh 3 288 t:=by
 cases h with | @mk n x o ds hn hx ho hd =>
 have a:=(Qw (Sx hn)).mono (d':=2) (w':=71) (by omega) (by omega);have b:=(Bu hx).mono (d':=2) (w':=71) (by omega) (by omega);have c:=(Bu (hs o ho)).mono (d':=2) (w':=71) (by omega) (by omega);cases hd with
 | arm=>exact sh3 a b c
 | @fld ds hd =>
  have d:Sh 2 71 (.tup ds):=by
   refine Sh.tup (n:=1) (w:=70) (d:=1) ?_ (by omega) fun t m=>?_
   .cases hd<;>simp
   .cases hd with
    | no=>nomatch m
    | is h=>cases V8.mp m;exact sh_dx h
  exact sh4 a b c d
theorem sm_w:∀x∈(["whole","truth","text","row","map","record","choice"]:ZG),Sm x:=fun x m=>by
 have h1:∀x∈(["whole","truth","text","row","map","record","choice"]:ZG),x.length<=8:=by decide
 have h2:∀x∈(["whole","truth","text","row","map","record","choice"]:ZG),∀c∈x.cps.toList,c<16 ^ 8:=by decide
 exact⟨h1 x m,h2 x m⟩
theorem Mh{x:Str}(h:x∈(["whole","truth","text","row","map","record","choice"]:ZG)):Sh 4 70 (.str x):=(Bu (sm_w x h)).mono (by omega) (by omega)
theorem yj{i:Int}(h:j7 i):Sh 4 70 (.int i):=(Qw h).mono (by omega) (by omega)
theorem Qq{ns:ZG}{k:Bool}{ps:ZZ}{zs:ZT}(hs:∀x∈ns,Sm x)(hp:M6 ns k ps)(h:Mem ps zs):Sh 4 2312 (.tup ps)/\Sh 4 568 (.tup (zs.map .int)) :=
 ⟨Sh.tup (n:=8) h.l (by omega) fun t m=>sh_prt hs (hp.p t m),(Sh.tup (n:=8) (by rw[Za];exact h.sl) (by omega) fun t m=>by
  obtain⟨z,mz,rfl⟩:=Gd.mp m;exact Qw (h.sb z mz)).mono (by omega) (by omega)⟩
theorem p8{a b c:T}{d x y z:Nat}(ha:Sh d x a)(hb:Sh d y b)(hc:Sh d z c):Sh (d+1) (x+y+z+3) (.tup [a,b,c]) :=
 ⟨⟨by show 3<=20;omega,ha.o,hb.o,hc.o,trivial⟩,by show Fc a+1+(Fc b+1+(Fc c+1+0))<=_;have:=ha.w;have:=hb.w;have:=hc.w;omega,Nat.add_le_add_right (Nat.max_le.mpr ⟨ha.d,Nat.max_le.mpr ⟨hb.d,Nat.max_le.mpr ⟨hc.d,Cb _⟩⟩⟩) 1⟩
theorem sh2w{a b:T}{d x y:Nat}(ha:Sh d x a)(hb:Sh d y b):Sh (d+1) (x+y+2) (.tup [a,b]) :=
 ⟨⟨by show 2<=20;omega,ha.o,hb.o,trivial⟩,by show Fc a+1+(Fc b+1+0)<=_;have:=ha.w;have:=hb.w;omega,Nat.add_le_add_right (Nat.max_le.mpr ⟨ha.d,Nat.max_le.mpr ⟨hb.d,Cb _⟩⟩) 1⟩
theorem sh4w{a b c e:T}{d x y z u:Nat}(ha:Sh d x a)(hb:Sh d y b)(hc:Sh d z c)(he:Sh d u e):Sh (d+1) (x+y+z+u+4) (.tup [a,b,c,e]) :=
 ⟨⟨by show 4<=20;omega,ha.o,hb.o,hc.o,he.o,trivial⟩,by show Fc a+1+(Fc b+1+(Fc c+1+(Fc e+1+0)))<=_;have:=ha.w;have:=hb.w;have:=hc.w;have:=he.w;omega,Nat.add_le_add_right (Nat.max_le.mpr ⟨ha.d,Nat.max_le.mpr ⟨hb.d,Nat.max_le.mpr ⟨hc.d,Nat.max_le.mpr ⟨he.d,Cb _⟩⟩⟩⟩) 1⟩
theorem yx{ns:ZG}{s:T}(hs:∀x∈ns,Sm x)(h:Raw ns s)(h':Bn s):Sh 5 2954 s:=by
 have hb:∀b,Sh 4 0 (.bl b):=fun b=>⟨trivial,Cb _,Cb _⟩;have ho:∀o∈ns,Sh 4 70 (.str o):=fun o m=>(Bu (hs o m)).mono (by omega) (by omega);cases h' with
 | whole ha hb _=>exact(p8 (Mh (by decide)) (yj ha) (yj hb)).mono (by omega) (by omega)
 | truth=>exact(sh1 (Mh (by decide))).mono (by omega) (by omega)
 | text h0 h1=>exact(sh2w (Mh (by decide)) (yj ⟨by omega,by omega⟩)).mono (by omega) (by omega)
 | row h0 h1=>cases h with | row m=>exact(p8 (Mh (by decide)) (ho _ m) (yj ⟨by omega,by omega⟩)).mono (by omega) (by omega)
 | map h0 h1=>cases h with | map m=>exact(p8 (Mh (by decide)) (ho _ m) (yj ⟨by omega,by omega⟩)).mono (by omega) (by omega)
 | @record ps zs hm =>
  obtain⟨s,e⟩:∃s,s=T.tup [.str "record",.tup ps,.tup (zs.map .int)]:=⟨_,rfl⟩;rw[<-e]at h;cases h with
  | record hp _=>injection e with e;injection e with _ e;injection e with e1 _;injection e1 with e1;subst e1;exact(p8 (Mh (by decide)) (Qq hs hp hm).1 (Qq hs hp hm).2).mono (by omega) (by omega)
  | _=>cases e
 | @choice ps zs b hm =>
  obtain⟨s,e⟩:∃s,s=T.tup [.str "choice",.tup ps,.tup (zs.map .int),.bl b]:=⟨_,rfl⟩;rw[<-e]at h;cases h with
  | choice hp _=>injection e with e;injection e with _ e;injection e with e1 _;injection e1 with e1;subst e1;exact(sh4w (Mh (by decide)) (Qq hs hp hm).1 (Qq hs hp hm).2 (hb _)).mono (by omega) (by omega)
  | _=>cases e
noncomputable def Co:T->Bool
 | .tup [_,.tup _,_]=>false
 | .tup [_,.tup _,_,_]=>false
 | _=>true
structure Mk(ns:ZG)(root:Str)(XY:ZX):Prop where
 raw:Cf ns XY
 root:root∈ns
 ok:∀p∈XY,Bn p.2
 fit:∀p∈XY,∀ps zs,p.2=G1 ps zs->DF XY ps
 pl:∃x,x∈ns/\∃s,Zv XY (.inr x)=some s/\Co s=true
 l:ns.length<=8
noncomputable abbrev mkT(root:Str)(XY:ZX):T:=.tup [.str root,.dct XY]
theorem Mk.sh{ns:ZG}{root:Str}{XY:ZX}(h:Mk ns root XY):Sh 7 23784 (mkT root XY):=by
 have l:XY.length=ns.length:=by
  have:=congrArg List.length h.raw.k;rw[Za,Za]at this;exact this
 obtain⟨a,b,c⟩:=yy (d:=5) (w:=2954) (XY:=XY) fun p m=>⟨let ⟨x,mx,e⟩:=h.raw.key m;⟨x,h.raw.sm x mx,e⟩,yx h.raw.sm (h.raw.r p m) (h.ok p m)⟩;have d:Sh 6 23712 (.dct XY):=⟨a,Gs b (by have:=h.l;rw[l];omega),Nat.add_le_add_right c 1⟩;exact(sh2w (Bu (h.raw.sm _ h.root) |>.mono (d':=6) (w':=70) (by omega) (by omega)) d).mono (by omega) (by omega)
theorem R3{w:W}{ns:ZG}{k:Bool}{ps:ZZ}(hp:∀p∈ps,Gr ns k p){Q:ZZ->P->Prop}(q:∀s0,Q ((ps.map Z0).map .int) [s0]) :
  Z7 (fun x s K=>on (asg (.v 0) x s) fun s1=>if isNil .nil=true then wE w.nx (Zw (.v 0) (ki 0)) s1 fun r s2=>My r fun y=>K (some y) s2
   else wE w.nx .nil s1 fun r s2=>L5 r fun b=>if b=true then wE w.nx (Zw (.v 0) (ki 0)) s2 fun r s3=>My r fun y=>K (some y) s3 else K none s2) ps [] [.no] Q:=by
 refine Zh (fun t=>.int (Z0 t)) (fun p=>∃s0,p=[s0]) ⟨_,rfl⟩ (fun t mt p K hs hk=>?_) fun p hs=>?_
 .obtain⟨s0,rfl⟩:=hs;cases hp t mt with | mk hn hx ho hd =>
  refine Uu ?_;exact hk _ ⟨_,rfl⟩
 obtain⟨s1,rfl⟩:=hs;rw[show (ps.map fun t=>T.int (Z0 t))=(ps.map Z0).map .int by rw[List.map_map];rfl];exact q s1
def Wrd(t:T):Prop:=t=.non\/∃x,t=.str x
theorem Nj{zs:ZT}{r:Int}{Q:Sl->Prop}(h0:0<=r)(h1:r<(zs.length:Nat))(q:∀z,z∈zs->Q (.f (.int z))):on ((Bt (.lst (zs.map .int)) (.int r)).map Sl.f) Q:=ixP h0 (by rw[Za];exact h1) fun x _ mx=>by
 obtain⟨z,mz,rfl⟩:=Gd.mp mx;exact q z mz
theorem Un{ss:ZG}{r:Int}{Q:Sl->Prop}(h0:0<=r)(h1:r<(ss.length:Nat))(q:∀s,s∈ss->Q (.f (.str s))):on ((Bt (.lst (ss.map .str)) (.int r)).map Sl.f) Q:=ixP h0 (by rw[Za];exact h1) fun x _ mx=>by
 obtain⟨z,mz,rfl⟩:=Gd.mp mx;exact q z mz
structure rj(ns:ZG):Prop where
 l:ns.length<=10
 l0:0<ns.length
def rg(zs:ZT)(R:T->Prop)(x:Sl×ZZ):Prop:=∃t i k,R t/\x=(.f t,[Zg zs i k])
theorem Ga{C:Cs}{f:Str}{as:List Sl}{zs:ZT}{R:T->Prop}{Q:Sl×ZZ->Prop}(h:cN (C f as) (rg zs R)){X:Fb->Prop}(q:∀t i k,R t->Q (.f t,[Zg zs i k])):cC (C f as) Q X:=Zk h fun x ⟨t,i,k,ht,e⟩=>by rw[e];exact q t i k ht
structure ju(ns:ZG)(s:T):Prop where
 raw:Raw ns s
 ok:Bn s
 pl:Co s=true
noncomputable def E8:ZG:=["whole","truth","text","row","map"]
def PPl(K:Kn):Prop:=∀{zs:ZT} {i k:Int} {s:Str} {ns ms:ZG},s∈E8->rj ms->(∀x∈ms,x∈ns)->K [.o (Zg zs i k),.f (.str s),.f (.lst (ms.map .str))] (rg zs (ju ns))
theorem kq{w:W}(hd:Vm w.C):PPl (wF U2 w):=fun {zs i k s ns ms} hs hm hn=>by
 have l0:=hm.l0;have l1:=hm.l;refine Zy rfl fun D rt _=>?_;rcases Vt.mp hs with rfl | hs
 .refine Zl hd (by omega) (by omega) fun r i' k' h0 h1=>?_;refine Nj (zs:=[0,0, -1,5, -1000000000000000000,999999999999999999]) h0 h1 fun a ma=>?_;have ha:=(show ∀n∈([0,0, -1,5, -1000000000000000000,999999999999999999]:ZT), -1000000000000000000<=n/\n<=1000000000000000000 by decide) a ma;refine Zl hd (by omega) (by omega) fun r i' k' h0 h1=>?_;refine Nj (zs:=[0,1,9,1000000000000000000]) h0 h1 fun n mn=>?_;have hn:=(show ∀n∈([0,1,9,1000000000000000000]:ZT),0<=n by decide) n mn;refine rt _ _ ⟨_,_,_,⟨.whole, ?_,rfl⟩,rfl⟩;show Bn (.tup [.str "whole",.int a,.int (if a+n<1000000000000000000 then a+n else 1000000000000000000)]);refine .whole ha ?_ ?_
  .split<;>exact⟨by omega,by omega⟩
  .split<;>omega
 rcases Vt.mp hs with rfl | hs
 .exact rt _ _ ⟨_,_,_,⟨.truth,.truth,rfl⟩,rfl⟩
 rcases Vt.mp hs with rfl | hs
 .refine Zl hd (by omega) (by omega) fun r i' k' h0 h1=>?_;refine Nj (zs:=[0,1,2,200]) h0 h1 fun n mn=>?_;have:=(show ∀n∈([0,1,2,200]:ZT),0<=n/\n<=200 by decide) n mn;exact rt _ _ ⟨_,_,_,⟨.text,.text this.1 this.2,rfl⟩,rfl⟩
 rcases Vt.mp hs with rfl | hs
 .refine Zl hd (by rw[Za];omega) (by rw[Za];omega) fun r i' k' h0 h1=>?_;rw[Za]at h1;refine Un h0 h1 fun o mo=>?_;refine Zl hd (by omega) (by omega) fun r i' k' h0 h1=>?_;refine Nj (zs:=[0,1,2,20]) h0 h1 fun n mn=>?_;have:=(show ∀n∈([0,1,2,20]:ZT),0<=n/\n<=20 by decide) n mn;exact rt _ _ ⟨_,_,_,⟨.row (hn o mo),.row this.1 this.2,rfl⟩,rfl⟩
 rcases Vt.mp hs with rfl | hs
 .refine Zl hd (by rw[Za];omega) (by rw[Za];omega) fun r i' k' h0 h1=>?_;rw[Za]at h1;refine Un h0 h1 fun o mo=>?_;refine Zl hd (by omega) (by omega) fun r i' k' h0 h1=>?_;refine Nj (zs:=[0,1,2,20]) h0 h1 fun n mn=>?_;have:=(show ∀n∈([0,1,2,20]:ZT),0<=n/\n<=20 by decide) n mn;exact rt _ _ ⟨_,_,_,⟨.map (hn o mo),.map this.1 this.2,rfl⟩,rfl⟩
 nomatch hs
def PDf(K:Kn):Prop:=∀{zs:ZT} {i k:Int} {s:T} {ns:ZG},ju ns s->K [.o (Zg zs i k),.f s] (rg zs fun v=>Dx v/\Tt s v)
theorem rep_a{r:Int}(h0:0<=r)(h1:r<3):Sm (repS "a" r.toNat)/\((repS "a" r.toNat).length:Int)=r:=by
 have:∀n<3,((repS "a" n).length<=8/\(∀c∈(repS "a" n).cps.toList,c<16 ^ 8))/\(repS "a" n).length=n:=by decide
 have:=this r.toNat (by omega);exact⟨⟨this.1.1,this.1.2⟩,by rw[this.2];omega⟩
theorem Ad{w:W}(hd:Vm w.C):PDf (wF Vu w):=fun {zs i k s ns} hs=>by
 refine Zy rfl fun D rt _=>?_;have raw:=hs.raw;cases hs.ok with
 | @whole a b ha hb le =>
  have key:∃m:Int,(if b - a+1<3 then b - a+1 else 3)=m/\0<m/\m<=3/\m<=b - a+1:=⟨_,rfl,by split<;>omega,by split<;>omega,by split<;>omega⟩;obtain⟨m,em,m0,m1,m2⟩:=key;refine Zl (m:=if b - a+1<3 then b - a+1 else 3) hd (by rw[em];exact m0) (by rw[em];omega) fun r i' k' h0 h1=>?_;rw[em]at h1;have:=ha.1;have:=hb.2;exact rt _ _ ⟨_,_,_,⟨.int ⟨by omega,by omega⟩,.whole (by omega) (by omega)⟩,rfl⟩
 | truth =>
  refine Zl hd (by omega) (by omega) fun r i' k' h0 h1=>?_;exact rt _ _ ⟨_,_,_,⟨.bl,.truth⟩,rfl⟩
 | @text n a b =>
  have key:∃m:Int,(if n+1<3 then n+1 else 3)=m/\0<m/\m<=3/\m<=n+1:=⟨_,rfl,by split<;>omega,by split<;>omega,by split<;>omega⟩;obtain⟨m,em,m0,m1,m2⟩:=key;refine Zl (m:=if n+1<3 then n+1 else 3) hd (by rw[em];exact m0) (by rw[em];omega) fun r i' k' h0 h1=>?_;rw[em]at h1;obtain⟨z1,z2⟩:=rep_a h0 (by omega);refine O9 (a:=Sl.f (.str (repS "a" r.toNat))) ⟨h0,by omega,by decide⟩ ?_;exact rt _ _ ⟨_,_,_,⟨.str z1,.text (by omega)⟩,rfl⟩
 | row _ _=>exact rt _ _ ⟨_,_,_,⟨.nil,.row⟩,rfl⟩
 | map _ _=>exact rt _ _ ⟨_,_,_,⟨.nil,.map⟩,rfl⟩
 | record _=>nomatch hs.pl
 | choice _=>nomatch hs.pl
def DF1(pk:ZX)(p:T):Prop:=∀n x o v,p=.tup [.int n,.str x,.str o,.tup [v]]->∃s,Zv pk (.inr o)=some s/\Tt s v
structure zd(ns:ZG)(pk:ZX):Prop where
 k:∃ks:ZG,pk.map (·.1)=ks.map Sum.inr/\∀x∈ks,x∈ns
 l0:0<pk.length
 l:pk.length<=8
 p:∀q∈pk,ju ns q.2
structure PrtN(ns:ZG)(b:Bool)(pk:ZX)(n:Int)(p:T):Prop where
 prt:Gr ns b p
 hd:Z0 p=n
 df:DF1 pk p
theorem X0{n:Int}:∀{zs:ZT},n∈zs->∃j,So n zs=some j/\j<zs.length
 | z::zs,m=>by
  unfold So;by_cases e:z=n
  .exact⟨0,if_pos e,Nat.zero_lt_succ _⟩
  .obtain⟨j,ej,lj⟩:=X0 (zs:=zs) ((Vt.mp m).resolve_left fun h=>e h.symm);exact⟨j+1,by rw[if_neg e,ej];rfl,Nat.succ_lt_succ lj⟩
theorem idxP{n:Int}{zs:ZT}{Q:Sl->Prop}(m:n∈zs)(q:∀j:Nat,j<zs.length->Q (.f (.int (j:Nat)))):on (L1 .idx [.lst (zs.map .int),.int n]) Q:=by
 obtain⟨j,e,l⟩:=X0 m;exact Zm (a:=Sl.f (.int (j:Nat))) (by show (Dw (zs.map .int)).bind _=_;rw[PV.ints_map];show (So n zs).map _=_;rw[e];rfl) (q j l)
theorem keys_str{pk:ZX}{ks:ZG}(h:pk.map (·.1)=ks.map Sum.inr):(pk.map fun p=>Ja p.1)=ks.map .str:=by
 rw[show (pk.map fun p=>Ja p.1)=(pk.map (·.1)).map Ja by rw[List.map_map];rfl,h,List.map_map];rfl
theorem Ds{pk:ZX}{ks:ZG}{Q:Sl->Prop}(h:pk.map (·.1)=ks.map Sum.inr)(l:ks.length<64)(q:Q (.o (.lst ((SRT.Z8 ks).map .str)))):on (L1 .sorted [.dct pk]) Q:=Zm (a:=Sl.o (.lst ((SRT.Z8 ks).map .str))) (by show (Ry _).map _=_;rw[keys_str h,srt_strs ks l];rfl) q
def Kd2(s:Str)(b:Bool):Prop:=(s = "record" /\ b=true)\/(s = "choice" /\ b=false)
noncomputable def CLD:ZG:=["a","ab","abc","form","x","xx","must","none","rowa"]
theorem As:∀x∈CLD,Sm x:=fun x m=>by
 have h:∀x∈CLD,x.length<=8/\∀c∈x.cps.toList,c<16 ^ 8:=by decide
 exact⟨(h x m).1,(h x m).2⟩
def Bd(K:Kn):Prop:=∀{zs:ZT} {i k n:Int} {s:Str} {b:Bool} {ns ms:ZG} {pk:ZX},Kd2 s b->n∈Ll->zd ns pk->rj ms->(∀x∈ms,x∈ns)->K [.o (Zg zs i k),.f (.str s),.f (.int n),.f (.dct pk),.f (.lst (ms.map .str))] (rg zs (PrtN ns b pk n))
theorem ah{w:W}(hd:Vm w.C)(hD:PDf (cl w.C "_law_default")):Bd (wF Gx w):=fun {zs i k n s b ns ms pk} hs hn hp hm hx=>by
 refine Zy rfl fun D rt _=>?_;have l0:=hm.l0;have l1:=hm.l;have p0:=hp.l0;have p1:=hp.l;refine idxP (zs:=Ll) hn fun j lj=>?_;refine Un (ss:=CLD) (by omega) (show ((j:Nat):Int)<_ from Int.ofNat_lt.mpr lj) fun c mc=>?_;refine Zl hd (by rw[Za];omega) (by rw[Za];omega) fun r i' k' h0 h1=>?_;rw[Za]at h1;refine Un h0 h1 fun o mo=>?_;rcases hs with ⟨rfl,rfl⟩ | ⟨rfl,rfl⟩
 .have fin:∀o∈ns,∀i2 k2,wS w (Yb [.o (Zg zs i k),.f (.str "record"),.f (.int n),.f (.dct pk),.f (.lst (ms.map .str))]) (Zr 5 Wb) [.o (Zg zs i2 k2),.f (.str "record"),.f (.int n),.f (.dct pk),.f (.lst (ms.map .str)),.f (.str c),.f (.str o)] D:=fun o mo i2 k2=>by
   have no:∀i k,D.rt (.f (.tup [.int n,.str c,.str o,.tup []])) [.o (Zg zs i k),.f (.str "record"),.f (.int n),.f (.dct pk),.f (.lst (ms.map .str)),.f (.str c),.f (.str o)]:=fun i k =>
    rt _ _ ⟨_,_,_,⟨.mk hn (As c mc) mo (.fld .no),rfl,fun n x o v e=>by cases e⟩,rfl⟩
   refine Zz (b:=(Zv pk (.inr o)).isSome) (fun z=>?_) fun _=>no _ _;obtain⟨s,e⟩:=Option.isSome_iff_exists.mp z;refine Zl hd (by omega) (by omega) fun r i' k' h0 h1=>?_;refine Zz (b:=decide ((0:Int)<r)) (fun _=>?_) fun _=>no _ _;refine Hh e ?_;refine Ga (hD (hp.p _ (Z1 e))) fun v i k hv=>?_;exact rt _ _ ⟨_,_,_,⟨.mk hn (As c mc) mo (.fld (.is hv.1)),rfl,fun n x o v e'=>by cases e';exact⟨s,e,hv.2⟩⟩,rfl⟩
  refine Zz (b:=decide ((1:Int)<n)) (fun _=>?_) fun _=>fin o (hx o mo) _ _;obtain⟨ks,ek,hk⟩:=hp.k;have lk:pk.length=ks.length:=by have:=congrArg List.length ek;rw[Za,Za]at this;exact this
  refine Ds ek (by omega) ?_;refine Zl hd (by omega) (by omega) fun r i' k' h0 h1=>?_;refine Un h0 (by rw[(SRT.Z3 ks).length_eq];omega) fun o mo=>?_;exact fin o (hk o ((SRT.Z3 ks).mem_iff.mp mo)) _ _
 .exact rt _ _ ⟨_,_,_,⟨.mk hn (As c mc) (hx o mo) .arm,rfl,fun n x o v e=>by cases e⟩,rfl⟩
section
variable{j:Type}{f:j->T}{xs:List j}
theorem Pb(lo hi:ZC):∃ys:List j,Ye (xs.map f) lo hi=ys.map f/\(∀y∈ys,y∈xs)/\ys.length<=xs.length/\ys.Sublist xs:=by
 refine⟨(xs.drop (HT.Vx (xs.map f).length 0 lo)).take (HT.Vx (xs.map f).length (xs.map f).length hi - HT.Vx (xs.map f).length 0 lo), ?_,fun y m=>List.mem_of_mem_drop (List.mem_of_mem_take m), ?_,(List.take_sublist _ _).trans (List.drop_sublist _ _)⟩
 .unfold Ye;rw[List.map_take,List.map_drop]
 .rw[nu,List.length_drop];omega
theorem cut_fr{a:Int}(h0:0<=a)(h1:a<=(xs.length:Nat)):Ye (xs.map f) (some a) none=(xs.drop a.toNat).map f:=by rw[Bz h0 (by rw[Za];exact h1),List.map_drop]
theorem An{a:Int}(h0:0<=a)(h1:a<=(xs.length:Nat)):Ye (xs.map f) none (some a)=(xs.take a.toNat).map f:=by rw[cut_to h0 (by rw[Za];exact h1),List.map_take]
theorem rotP{a:Int}{Q:Sl->Prop}(h0:0<=a)(h1:a<=(xs.length:Nat))(l:xs.length<=100)(q:∀ys:List j,ys.Perm xs->Q (.o (.lst (ys.map f)))):on (lq .add (.lst (Ye (xs.map f) (some a) none)) (.lst (Ye (xs.map f) none (some a)))) Q:=by
 rw[cut_fr h0 h1,An h0 h1];have:=sizeLine_eq;refine Wp (by rw[Za,Za,List.length_drop,nu];omega) ?_;rw[<-P9];exact q _ (List.perm_append_comm.trans (by rw[List.take_append_drop]))
end
noncomputable def N8:ZT:=[1,2,3,9,10,99,100,999]
theorem Zx2:∀z∈N8,z∈Ll:=by decide
structure PdS(ns:ZG)(pk:ZX)(s:T):Prop where
 raw:Raw ns s
 ok:Bn s
 df:∀ps zs,s=G1 ps zs->DF pk ps
def PPd(K:Kn):Prop:=∀{zs:ZT} {i k:Int} {s:Str} {b:Bool} {ns ms:ZG} {pk:ZX},Kd2 s b->zd ns pk->rj ms->(∀x∈ms,x∈ns)->K [.o (Zg zs i k),.f (.str s),.f (.dct pk),.f (.lst (ms.map .str))] (rg zs (PdS ns pk))
theorem xh{w:W}(hd:Vm w.C)(hP:Bd (cl w.C "_law_part")):PPd (wF Uj w):=fun {zs i k s b ns ms pk} hs hp hm hx=>by
 refine Zy rfl fun D rt _=>?_
 have key2:∀us:ZT,(∀z∈us,z∈N8)->us.Nodup->us.length<=8->∀s5 m i2 k2,wS w (Yb [.o (Zg zs i k),.f (.str s),.f (.dct pk),.f (.lst (ms.map .str))]) (Zr 4 Gm) [.o (Zg zs i2 k2),.f (.str s),.f (.dct pk),.f (.lst (ms.map .str)),.o (.lst (us.map .int)),s5,.f (.int m),.no,.no] D:=fun us hu nd lu s5 m i2 k2=>by
  obtain⟨as,ea,ha,la,sa⟩:=Pb (f:=T.int) (xs:=us) none (some m);obtain⟨bs,eb,hb,lb,_⟩:=Pb (f:=T.int) (xs:=us) (some m) none;refine Xx (us:=(SRT.Ms as).map .int) (by rw[ea];exact srt_ints as (by omega)) ?_;refine Bs (fun rest acc p=>∃(s0:Sl) (i k:Int) (zr:ZT),p=[s0,.o (Zg zs i k),.f (.str s),.f (.dct pk),.f (.lst (ms.map .str))]/\rest=zr.map T.int/\acc.map Z0++zr=SRT.Ms as/\∀p∈acc,∃n,PrtN ns b pk n p) ⟨_,_,_,SRT.Ms as,rfl,rfl,rfl,fun p m=>nomatch m⟩ (fun x r acc p K hi hk _=>?_) fun acc p hi=>?_
  .obtain⟨s0,i,k,zr,rfl,er,hl,hc⟩:=hi;cases zr with
   | nil=>cases er
   | cons z zr =>
   cases er;have mz:z∈us:=ha z ((SRT.Yc as).mem_iff.mp (by rw[<-hl];exact ry _ Yd));refine Ga (hP hs (Zx2 z (hu z mz)) hp hm hx) fun t i k ht=>?_;refine hk _ _ ⟨_,_,_,zr,rfl,rfl,by rw[<-hl,P9,List.map_singleton,ht.hd,ZI];rfl,fun p m=>?_⟩;rcases Cd.mp m with m | m
   .exact hc p m
   .cases V8.mp m;exact⟨z,ht⟩
  obtain⟨s0,i,k,zr,rfl,er,hl,hc⟩:=hi;cases zr with
  | cons z zr=>cases er
  | nil =>
  rw[ZE]at hl;have pm:=SRT.Yc as;have la':acc.length<=8:=by have:=congrArg List.length hl;rw[Za,pm.length_eq]at this;omega
  have ou:(acc.map Z0).Nodup:=by rw[hl];exact pm.nodup_iff.mpr (nd.sublist sa)
  refine Xx (us:=(SRT.Ms bs).map .int) (by rw[eb];exact srt_ints bs (by omega)) ?_;have pp:M6 ns b acc:=⟨by omega,fun p m=>let ⟨_,h⟩:=hc p m;h.prt⟩;have lz:(SRT.Ms bs).length<=8:=by rw[(SRT.Yc bs).length_eq];omega
  have mm:Mem acc (SRT.Ms bs):=⟨by omega,ou,lz,fun z m=>Sx (Zx2 z (hu z (hb z ((SRT.Yc bs).mem_iff.mp m))))⟩;have df:DF pk acc:=fun n x o v m=>let ⟨_,h⟩:=hc _ m;h.df n x o v rfl;rcases hs with ⟨rfl,rfl⟩ | ⟨rfl,rfl⟩
  .refine rt _ _ ⟨_,_,_,⟨.record pp (by omega),.record mm,fun ps zs e=>?_⟩,rfl⟩
   injection e with e;injection e with _ e;injection e with e _;injection e with e;subst e;exact df
  .refine Zl hd (by omega) (by omega) fun r i' k' h0 h1=>?_;exact rt _ _ ⟨_,_,_,⟨.choice pp (by omega),.choice mm,fun ps zs e=>by cases e⟩,rfl⟩
 have key:∀us:ZT,(∀z∈us,z∈N8)->us.Nodup->us.length<=8->∀s5 i2 k2,wS w (Yb [.o (Zg zs i k),.f (.str s),.f (.dct pk),.f (.lst (ms.map .str))]) (Zr 3 Gm) [.o (Zg zs i2 k2),.f (.str s),.f (.dct pk),.f (.lst (ms.map .str)),.o (.lst (us.map .int)),s5,.no,.no,.no] D:=fun us hu nd lu s5 i2 k2=>by
  refine Zl hd (by omega) (by omega) fun r i' k' h0 h1=>?_;refine Nj (zs:=[0,0,1,2]) h0 h1 fun n mn=>?_;exact key2 us hu nd lu _ _ _ _
 refine Zl hd (by omega) (by omega) fun r i' k' h0 h1=>?_;refine rotP (xs:=N8) (f:=T.int) h0 (Int.le_of_lt h1) (by decide) fun ys py=>?_;have ly:ys.length=8:=py.length_eq;refine Zl hd (by omega) (by omega) fun r2 i2 k2 g0 g1=>?_;have:=key (ys.take r2.toNat) (fun z m=>py.mem_iff.mp (List.mem_of_mem_take m)) ((py.nodup_iff.mpr (by decide)).sublist (List.take_sublist _ _)) (by rw[nu];omega) (.f (.int r)) i2 k2;rw[<-An g0 (by omega)]at this;exact this
theorem Jt(XY:ZX)(k k':Key)(v:T):Zv (Zo XY k v) k'=if k=k' then some v else Zv XY k':=by
 unfold Zo
 split
 .rename_i h
  induction XY with
  | nil=>simp at h
  | cons p r ih =>
   rw[List.any_cons,Bool.or_eq_true]at h;unfold Zv at ih ⊢;rw[P8,List.find?_cons];by_cases e:p.1=k
   .rw[if_pos e];by_cases e':k=k'
    .rw[Ml (show (p.1,v).1=k' from e.trans e'),if_pos e'];rfl
    .rw[C9 (show ¬ (p.1,v).1=k' from fun z=>e' (e.symm.trans z)),if_neg e',List.find?_cons,C9 (show ¬ p.1=k' from fun z=>e' (e.symm.trans z))];by_cases hr:(r.any fun p=>decide (p.1=k))=true
     .have:=ih hr;rw[if_neg e']at this;exact this
     .have em:(r.map fun p=>if p.1=k then (p.1,v) else p)=r:=by
       conv=>rhs;rw[<-List.map_id r]
       refine List.map_congr_left fun q mq=>?_;rw[if_neg]
       .rfl
       .intro z;exact hr (ZO.mpr ⟨q,mq,Ml z⟩)
      rw[em]
   .rw[if_neg e];by_cases e':p.1=k'
    .rw[Ml e',List.find?_cons,Ml e',if_neg (fun z=>e (e'.trans z.symm))]
    .rw[C9 e',List.find?_cons,C9 e'];exact ih (h.resolve_left (by simp[e]))
 .rename_i h
  unfold Zv;rw[List.find?_append];by_cases e':k=k'
  .subst e';rw[if_pos rfl];have:XY.find? (fun p=>decide (p.1=k))=none:=XJ.mpr fun p mp z=>h (ZO.mpr ⟨p,mp,z⟩);rw[this];simp
  .rw[if_neg e'];have:[(k,v)].find? (fun p=>decide (p.1=k'))=none:=by simp[e']
   rw[this];simp
theorem Nq{XY:ZX}{k:Key}{v:T}{q:Key×T}(m:q∈Zo XY k v):q∈XY\/q=(k,v):=by
 unfold Zo at m
 split at m
 .obtain⟨p,mp,e⟩:=Gd.mp m
  split at e
  .rename_i h;exact .inr (by rw[<-e,h])
  .exact .inl (e ▸ mp)
 .rcases Cd.mp m with m | m
  .exact .inl m
  .exact .inr (V8.mp m)
theorem G3{XY:ZX}{ks:ZG}{x:Str}{v:T}(h:XY.map (·.1)=ks.map Sum.inr):(x∈ks/\(Zo XY (.inr x) v).map (·.1)=ks.map Sum.inr)\/(x ∉ ks/\(Zo XY (.inr x) v).map (·.1)=(ks++[x]).map Sum.inr):=by
 have e:(XY.any fun p=>decide (p.1=(.inr x:Key)))=true↔x∈ks:=by
  rw[ZO];constructor
  .rintro⟨p,mp,ep⟩;have:p.1∈XY.map (·.1):=List.mem_map_of_mem mp;rw[T1 ep,h]at this;obtain⟨y,my,ey⟩:=Gd.mp this;cases ey;exact my
  .intro m;have:(Sum.inr x:Key)∈XY.map (·.1):=by rw[h];exact List.mem_map_of_mem m
   obtain⟨p,mp,ep⟩:=Gd.mp this;exact⟨p,mp,Ml ep⟩
 unfold Zo;by_cases c:(XY.any fun p=>decide (p.1=(.inr x:Key)))=true
 .refine .inl ⟨e.mp c, ?_⟩;rw[if_pos c,List.map_map, <-h];refine List.map_congr_left fun q _=>?_;show (if q.1=(.inr x:Key) then (q.1,v) else q).1=q.1
  split<;>rfl
 .refine .inr ⟨fun m=>c (e.mpr m), ?_⟩;rw[if_neg c,P9,P9,h];rfl
theorem get_none{XY:ZX}{ks:ZG}{x:Str}(h:XY.map (·.1)=ks.map Sum.inr)(n:x ∉ ks):Zv XY (.inr x)=none:=by
 cases e:Zv XY (.inr x) with
 | none=>rfl
 | some s =>
  have:(Sum.inr x:Key)∈XY.map (·.1):=List.mem_map_of_mem (Z1 e);rw[h]at this;obtain⟨y,my,ey⟩:=Gd.mp this;cases ey;exact absurd my n
theorem Ym{XY:ZX}{ks:ZG}(h:XY.map (·.1)=ks.map Sum.inr):XY.length=ks.length:=by have:=congrArg List.length h;rw[Za,Za]at this;exact this
theorem K3{XY:ZX}{x:Str}{v:T}{Q:T->Prop}(l:XY.length<=100)(q:Q (.dct (Zo XY (.inr x) v))):on (putAt (.dct XY) (.str x) v) Q:=by
 have:=sizeLine_eq;exact Zm (a:=T.dct (Zo XY (.inr x) v)) (if_pos (by omega)) q
def PPs(K:Kn):Prop:=∀{ns:ZG} {root:Str} {XY:ZX},Mk ns root XY->K [.f (.dct XY)] fun x=>∃pk,x=(.o (.dct pk),[])/\zd ns pk/\(∀x s,Zv pk (.inr x)=some s->Zv XY (.inr x)=some s)/\∀x s,Zv XY (.inr x)=some s->(Zv pk (.inr x)).isSome=Co s
theorem xr{w:W}:PPs (wF Uq w):=fun {ns root XY} h=>by
 refine Zy rfl fun D rt _=>?_;have lk:=Ym h.raw.k;have l6:=h.l
 refine G0 (fun rest p=>∃(s2:Sl) (pk:ZX) (ks rs:ZG),p=[.f (.dct XY),.o (.dct pk),s2]/\rest=rs.map T.str/\(∀x∈rs,x∈ns)/\pk.map (·.1)=ks.map Sum.inr/\(∀x∈ks,x∈ns)/\ks.length+rs.length<=8/\(∀q∈pk,ju ns q.2)/\(∀x s,Zv pk (.inr x)=some s->Zv XY (.inr x)=some s/\Co s=true)/\∀x s,Zv XY (.inr x)=some s->Co s=true->x∈rs\/Zv pk (.inr x)=some s)
  ⟨_,[],[],ns,rfl,keys_str h.raw.k,fun x m=>m,rfl,(fun x m=>nomatch m),by rw[List.length_nil];omega,(fun q m=>nomatch m),(fun x s e=>nomatch e),fun x s e _=>.inl ?_⟩ (fun x rest p D' hi nx _=>?_) fun p hi=>?_
 .have:(Sum.inr x:Key)∈XY.map (·.1):=List.mem_map_of_mem (Z1 e);rw[h.raw.k]at this;obtain⟨y,my,ey⟩:=Gd.mp this;cases ey;exact my
 .obtain⟨s2,pk,ks,rs,rfl,er,hr,hk,hn,hl,hp,hg,hc⟩:=hi;cases rs with
  | nil=>cases er
  | cons y rs =>
   cases er;rw[Jl]at hl;obtain⟨s,e,raw⟩:=h.raw.get (hr y Yd);have ok:=h.ok _ (Z1 e);refine Hh e ?_
   have no:Co s=false->D'.nx [.f (.dct XY),.o (.dct pk),.f (.str y)]:=fun z=>nx _ ⟨_,pk,ks,rs,rfl,rfl,fun x m=>hr x (Vq _ m),hk,hn,by omega,hp,hg,fun x t ex zx=>by
    rcases hc x t ex zx with m | m
    .rcases Vt.mp m with rfl | m
     .rw[e]at ex;cases ex;rw[z]at zx;cases zx
     .exact .inl m
    .exact .inr m⟩
   have yes:Co s=true->on (putAt (.dct pk) (.str y) s) fun x'=>D'.nx [.f (.dct XY),.o x',.f (.str y)]:=fun z=>by
    refine K3 (by rw[Ym hk];omega) ?_;have pt:=G3 (x:=y) (v:=s) hk
    have rst:∀Jx:ZG,(Zo pk (.inr y) s).map (·.1)=Jx.map Sum.inr->(∀x∈Jx,x∈ns)->Jx.length<=ks.length+1->D'.nx [.f (.dct XY),.o (.dct (Zo pk (.inr y) s)),.f (.str y)]:=fun Jx Kj hn' hl'=>by
     refine nx _ ⟨_,Zo pk (.inr y) s,Jx,rs,rfl,rfl,fun x m=>hr x (Vq _ m),Kj,hn',by omega,fun q m=>?_,fun x t ex=>?_,fun x t ex zx=>?_⟩
     .rcases Nq m with m | rfl
      .exact hp q m
      .exact⟨raw,ok,z⟩
     .rw[Jt]at ex
      split at ex
      .rename_i c;cases c;cases ex;exact⟨e,z⟩
      .exact hg x t ex
     .rw[Jt]
      split
      .rename_i c;cases c;rw[e]at ex;exact .inr ex
      .rename_i c
       rcases hc x t ex zx with m | m
       .rcases Vt.mp m with rfl | m
        .exact absurd rfl c
        .exact .inl m
       .exact .inr m
    rcases pt with ⟨_,e1⟩ | ⟨_,e1⟩
    .exact rst ks e1 hn (by omega)
    .refine rst _ e1 (fun x m=>?_) (by rw[Gc];exact D5 _);rcases Cd.mp m with m | m
     .exact hn x m
     .cases V8.mp m;exact hr y Yd
   cases raw with
   | record _ _=>exact no rfl
   | choice _ _=>exact no rfl
   | _=>refine Hh e ?_;exact yes rfl
 .obtain⟨s2,pk,ks,rs,rfl,er,hr,hk,hn,hl,hp,hg,hc⟩:=hi;cases rs with
  | cons y rs=>cases er
  | nil =>
   obtain⟨y,my,t,et,zt⟩:=h.pl;have got:=(hc y t et zt).resolve_left fun m=>nomatch m;have p0:0<pk.length:=List.length_pos_of_mem (Z1 got);refine rt _ _ ⟨pk,rfl,⟨⟨ks,hk,hn⟩,p0,by rw[Ym hk];omega,hp⟩,fun x s e=>(hg x s e).1,fun x s e=>?_⟩;cases z:Co s with
   | true=>rw[(hc x s e z).resolve_left fun m=>nomatch m];rfl
   | false =>
    cases e':Zv pk (.inr x) with
    | none=>rfl
    | some u=>have:=hg x u e';rw[e]at this;cases this.1;rw[z]at this;cases this.2
theorem Gr.mono{ns ns':ZG}{b:Bool}{t:T}(s:∀x∈ns,x∈ns')(h:Gr ns b t):Gr ns' b t:=by cases h with | mk a b c d=>exact .mk a b (s _ c) d
theorem M6.mono{ns ns':ZG}{b:Bool}{t:ZZ}(s:∀x∈ns,x∈ns')(h:M6 ns b t):M6 ns' b t:=⟨h.l,fun p m=>(h.p p m).mono s⟩
theorem Raw.mono{ns ns':ZG}{t:T}(s:∀x∈ns,x∈ns')(h:Raw ns t):Raw ns' t:=by
 cases h with
 | whole=>exact .whole
 | truth=>exact .truth
 | text=>exact .text
 | row h=>exact .row (s _ h)
 | map h=>exact .map (s _ h)
 | record h z=>exact .record (h.mono s) z
 | choice h z=>exact .choice (h.mono s) z
theorem aq{ns:ZG}{t:T}(h:Raw ns t):C5 t=false:=by cases h<;>rfl
theorem ju.pd{ns:ZG}{pk:ZX}{s:T}(h:ju ns s):PdS ns pk s:=⟨h.raw,h.ok,fun ps zs e=>by have:=h.pl;rw[e]at this;cases this⟩
noncomputable def WRD:ZG:=["a","ab","b","make","form","row","rows","text","must","none","abcdefgh","x","xx","arm"]
theorem wrd_sm:∀x∈WRD,Sm x:=fun x m=>by
 have h:∀x∈WRD,x.length<=8/\∀c∈x.cps.toList,c<16 ^ 8:=by decide
 exact⟨(h x m).1,(h x m).2⟩
noncomputable def SOR:ZG:=["record","choice","whole","record","choice","truth","text","row","map"]
theorem sor_or:∀s∈SOR,s = "record" \/ s = "choice" \/ s∈E8:=by decide
structure M1(ms rs ks:ZG)(lf:List (Str×Str))(XY:ZX):Prop where
 sub:∀x∈rs,x∈ms
 nd:rs.Nodup
 dk:∀x∈rs,x ∉ ks
 dl:∀x∈rs,x ∉ lf.map (·.1)
 k:XY.map (·.1)=ks.map Sum.inr
 kn:∀x∈ks,x∈ms
 lk:∀q∈lf,q.1∈ms/\q.1 ∉ ks/\(q.2 = "record" \/ q.2 = "choice")
 p:∀q∈XY,ju ms q.2
 n:ks.length+lf.length+rs.length<=6
 c:∀x∈ms,x∈rs\/x∈ks\/x∈lf.map (·.1)
 k0:0<ks.length
structure M2(ms:ZG)(pk:ZX)(lf:List (Str×Str))(ks:ZG)(XY:ZX):Prop where
 k:XY.map (·.1)=ks.map Sum.inr
 kn:∀x∈ks,x∈ms
 lk:∀q∈lf,q.1∈ms/\Zv pk (.inr q.1)=none/\(q.2 = "record" \/ q.2 = "choice")
 p:∀q∈XY,PdS ms pk q.2
 n:ks.length+lf.length<=6
 c:∀x∈ms,x∈ks\/x∈lf.map (·.1)
 g:∀x s,Zv pk (.inr x)=some s->Zv XY (.inr x)=some s
theorem M1.left{ms rs ks:ZG}{x s:Str}{lf:List (Str×Str)}{XY:ZX}(h:M1 ms (x::rs) ks lf XY)(hs:s = "record" \/ s = "choice"):M1 ms rs ks (lf++[(x,s)]) XY:=by
 have nd:=List.nodup_cons.mp h.nd;refine⟨fun y m=>h.sub y (Vq _ m),nd.2,fun y m=>h.dk y (Vq _ m),fun y m z=>?_,h.k,h.kn,fun q m=>?_,h.p,by have:=h.n;rw[Gc];rw[Jl]at this;show _+(_+1)+_<=_;omega,fun y m=>?_,h.k0⟩
 .rw[P9]at z;rcases Cd.mp z with z | z
  .exact h.dl y (Vq _ m) z
  .cases V8.mp z;exact nd.1 m
 .rcases Cd.mp m with m | m
  .exact h.lk q m
  .cases V8.mp m;exact⟨h.sub x Yd,h.dk x Yd,hs⟩
 .rw[P9];rcases h.c y m with m | m | m
  .rcases Vt.mp m with rfl | m
   .exact .inr (.inr (ry _ (V8.mpr rfl)))
   .exact .inl m
  .exact .inr (.inl m)
  .exact .inr (.inr (List.mem_append_left _ m))
theorem M1.put{ms rs ks:ZG}{x:Str}{s:T}{lf:List (Str×Str)}{XY:ZX}(h:M1 ms (x::rs) ks lf XY)(hs:ju ms s):M1 ms rs (ks++[x]) lf (Zo XY (.inr x) s):=by
 have nd:=List.nodup_cons.mp h.nd;have e:=((G3 (x:=x) (v:=s) h.k).resolve_left fun z=>h.dk x Yd z.1).2;refine⟨fun y m=>h.sub y (Vq _ m),nd.2,fun y m z=>?_,fun y m=>h.dl y (Vq _ m),e,fun y m=>?_,fun q m=>⟨(h.lk q m).1,fun z=>?_,(h.lk q m).2.2⟩,fun q m=>?_,by have:=h.n;rw[Gc];rw[Jl]at this;show _+1+_+_<=_;omega,fun y m=>?_,by rw[Gc];exact N0l h.k0 (Nat.le_add_right _ _)⟩
 .rcases Cd.mp z with z | z
  .exact h.dk y (Vq _ m) z
  .cases V8.mp z;exact nd.1 m
 .rcases Cd.mp m with m | m
  .exact h.kn y m
  .cases V8.mp m;exact h.sub x Yd
 .rcases Cd.mp z with z | z
  .exact(h.lk q m).2.1 z
  .exact h.dl x Yd (by rw[<-V8.mp z];exact List.mem_map_of_mem m)
 .rcases Nq m with m | rfl
  .exact h.p q m
  .exact hs
 .rcases h.c y m with m | m | m
  .rcases Vt.mp m with rfl | m
   .exact .inr (.inl (ry _ (V8.mpr rfl)))
   .exact .inl m
  .exact .inr (.inl (List.mem_append_left _ m))
  .exact .inr (.inr m)
theorem M1.fin{ms ks:ZG}{lf:List (Str×Str)}{XY:ZX}(h:M1 ms [] ks lf XY):zd ms XY/\M2 ms XY lf ks XY:=by
 have l:=Ym h.k;have k0:=h.k0;have n:=h.n;refine⟨⟨⟨ks,h.k,h.kn⟩,by omega,by omega,h.p⟩,⟨h.k,h.kn,fun q m=>⟨(h.lk q m).1,get_none h.k (h.lk q m).2.1,(h.lk q m).2.2⟩,fun q m=>(h.p q m).pd,by rw[List.length_nil]at n;omega,fun x m=>(h.c x m).resolve_left (fun z=>nomatch z),fun x s e=>e⟩⟩
theorem M2.put{ms ks:ZG}{pk:ZX}{q:Str×Str}{s:T}{lf:List (Str×Str)}{XY:ZX}(h:M2 ms pk (q::lf) ks XY)(hs:PdS ms pk s):∃Jx,M2 ms pk lf Jx (Zo XY (.inr q.1) s):=by
 have n:=h.n;rw[Jl]at n;have hq:=h.lk q Yd
 have rst:∀Jx:ZG,(Zo XY (.inr q.1) s).map (·.1)=Jx.map Sum.inr->(∀x∈Jx,x∈ms)->Jx.length<=ks.length+1->(∀x,x∈ks\/x=q.1->x∈Jx)->M2 ms pk lf Jx (Zo XY (.inr q.1) s):=fun Jx e1 e2 e3 e4=>by
  refine⟨e1,e2,fun r m=>h.lk r (Vq _ m),fun r m=>?_,by omega,fun x m=>?_,fun x t e=>?_⟩
  .rcases Nq m with m | rfl
   .exact h.p r m
   .exact hs
  .rcases h.c x m with m | m
   .exact .inl (e4 x (.inl m))
   .rcases Vt.mp m with m | m
    .exact .inl (e4 x (.inr m))
    .exact .inr m
  .rw[Jt,if_neg fun z=>by cases z;rw[hq.2.1]at e;cases e];exact h.g x t e
 rcases G3 (x:=q.1) (v:=s) h.k with ⟨m,e⟩ | ⟨_,e⟩
 .exact⟨ks,rst ks e h.kn (by omega) fun x z=>z.elim id fun z=>z ▸ m⟩
 .refine⟨_,rst _ e (fun x m=>?_) (by rw[Gc];exact D5 _) fun x z=>?_⟩
  .rcases Cd.mp m with m | m
   .exact h.kn x m
   .cases V8.mp m;exact hq.1
  .rcases z with z | z
   .exact List.mem_append_left _ z
   .exact ry _ (V8.mpr z)
theorem DF.mono{pk XY:ZX}{ps:ZZ}(h:DF pk ps)(g:∀x s,Zv pk (.inr x)=some s->Zv XY (.inr x)=some s):DF XY ps:=fun n x o v m=>let ⟨s,e,f⟩:=h n x o v m;⟨s,g o s e,f⟩
theorem M2.made{ms ks:ZG}{pk:ZX}{XY:ZX}{root:Str}(h:M2 ms pk [] ks XY)(hp:zd ms pk)(hm:∀x∈ms,Sm x)(hr:root∈ms):Mk ks root XY:=by
 have cov:∀x∈ms,x∈ks:=fun x m=>(h.c x m).resolve_right fun z=>nomatch z;refine⟨⟨h.k,fun p m=>(h.p p m).raw.mono cov,fun x m=>hm x (h.kn x m)⟩,cov _ hr,fun p m=>(h.p p m).ok,fun p m ps zs e=>((h.p p m).df ps zs e).mono h.g, ?_,by have:=h.n;rw[List.length_nil]at this;omega⟩;obtain⟨ps,ep,hps⟩:=hp.k;have l0:=hp.l0;cases pk with
 | nil=>cases l0
 | cons q pk =>
  cases ps with
  | nil=>cases ep
  | cons x ps =>
   have e:q.1=.inr x:=(List.cons.inj ep).1
   have g:Zv (q::pk) (.inr x)=some q.2:=by
    show ((q::pk).find? fun p=>decide (p.1=(.inr x:Key))).map (·.2)=_;rw[List.find?_cons_of_pos (p:=fun p:Key×T=>decide (p.1=(.inr x:Key))) (Ml e)];rfl
   exact⟨x,cov x (hps x Yd),q.2,h.g x q.2 g,(hp.p q Yd).pl⟩
theorem dct1P{x:Str}{v:T}{Q:Sl->Prop}(h:C5 v=false)(q:Q (.o (.dct [(.inr x,v)]))):on (L1 .dct1 [.str x,v]) Q:=Zm (a:=Sl.o (.dct [(.inr x,v)])) (by show (if C5 v=true then none else _)=_;rw[if_neg (by rw[h];exact fun z=>nomatch z)];rfl) q
theorem ixL0{a:T}{l:ZZ}{Q:Sl->Prop}(q:Q (.f a)):on ((Bt (.lst (a::l)) (.int 0)).map Sl.f) Q:=ixLP (by unfold Tw b7;rw[if_pos (by omega),if_pos (by rw[Jl];omega)];rfl) q
noncomputable abbrev pT(q:Str×Str):T:=.tup [.str q.1,.str q.2]
def Wa(t:T):Prop:=∃ns root XY,t=mkT root XY/\Mk ns root XY
def Mkd6(t:T):Prop:=∃ns root XY,t=mkT root XY/\Mk ns root XY/\ns.length<=6
theorem Mkd6.mk{t:T}(h:Mkd6 t):Wa t:=let ⟨ns,r,XY,e,m,_⟩:=h;⟨ns,r,XY,e,m⟩
def nc(K:Kn):Prop:=∀{zs:ZT} {i k:Int},K [.o (Zg zs i k)] (rg zs Mkd6)
theorem iz{w:W}(hd:Vm w.C)(hP:PPl (cl w.C "_law_plain"))(hR:PPd (cl w.C "_law_parted")):nc (wF Gw w):=fun {zs i k}=>by
 refine Zy rfl fun D rt _=>?_
 have key:∀ms:ZG,ms.Nodup->(∀x∈ms,x∈WRD)->2<=ms.length->ms.length<=6->∀s1 s2 i2 k2,wS w (Yb [.o (Zg zs i k)]) (Zr 3 Wd) [.o (Zg zs i2 k2),s1,s2,.o (.lst (ms.map .str)),.no,.no,.no,.no,.no,.no] D:=fun ms nd sub l2 l6 s1 s2 i2 k2=>by
  cases ms with
  | nil=>cases l2
  | cons m0 rs =>
  generalize em:m0::rs=ms at nd sub l2 l6;have hm:rj ms:=⟨by omega,by omega⟩;have e0:ms.map T.str=.str m0::rs.map .str:=by rw[<-em];rfl
  have hsm:∀x∈ms,Sm x:=fun x m=>wrd_sm x (sub x m);have Bg:∀{Q:Sl->Prop},Q (.f (.str m0))->on ((Bt (.lst (ms.map .str)) (.int 0)).map Sl.f) Q:=fun q=>by rw[e0];exact ixL0 q
  refine Bg ?_;refine Zl hd (by omega) (by omega) fun r i' k' h0 h1=>?_;refine Un (ss:=["whole","truth","text","row"]) h0 h1 fun s ms'=>?_;have hs:s∈E8:=(show ∀s∈(["whole","truth","text","row"]:ZG),s∈E8 by decide) s ms';refine Ga (hP hs hm fun x m=>m) fun t i3 k3 ht=>?_;refine dct1P (aq ht.raw) ?_;have ec:Ye (ms.map T.str) (some 1) none=rs.map .str:=by rw[e0];exact cut1 _ _
  refine G0 (fun rest p=>∃(i k:Int) (s7 s8:Sl) (XY:ZX) (ks rr:ZG) (lf:List (Str×Str)),p=[.o (Zg zs i k),s1,s2,.f (.lst (ms.map .str)),.o (.lst (SOR.map .str)),.o (.dct XY),.o (.lst (lf.map pT)),s7,s8,.no]/\rest=rr.map T.str/\M1 ms rr ks lf XY)
   ⟨_,_,_,_,[(.inr m0,t)],[m0],rs,[],rfl,ec, ?_⟩ (fun x rest p D' hi nx _=>?_) fun p hi=>?_
  .have ou:=List.nodup_cons.mp (show (m0::rs).Nodup by rw[em];exact nd);refine⟨fun x m=>by rw[<-em];exact Vq _ m,ou.2,fun x m z=>?_,(fun x m z=>nomatch z),rfl,fun x m=>?_,(fun q m=>nomatch m),fun q m=>?_, ?_,fun x m=>?_,Nat.zero_lt_succ _⟩
   .cases V8.mp z;exact ou.1 m
   .cases V8.mp m;rw[<-em];exact Yd
   .cases V8.mp m;exact ht
   .rw[<-em,Jl]at l6;show 1+0+rs.length<=6;omega
   .rw[<-em]at m;rcases Vt.mp m with rfl | m
    .exact .inr (.inl (V8.mpr rfl))
    .exact .inl m
  .obtain⟨i,k,s7,s8,XY,ks,rr,lf,rfl,er,hM⟩:=hi;cases rr with
   | nil=>cases er
   | cons y rr =>
   cases er;refine Zl hd (by omega) (by omega) fun r i' k' h0 h1=>?_;refine Un (ss:=SOR) h0 h1 fun s ms'=>?_;have n:=hM.n
   have app:(s = "record" \/ s = "choice")->on (mtT .append (.lst (lf.map pT)) [.tup [.str y,.str s]]) fun r=>D'.nx [.o (Zg zs i' k'),s1,s2,.f (.lst (ms.map .str)),.o (.lst (SOR.map .str)),.o (.dct XY),.o r.1,.f (.str y),.f (.str s),.no]:=fun hs=>by
    have:=sizeLine_eq;refine jr (by rw[Za];omega) ?_;refine nx _ ⟨i',k',.f (.str y),.f (.str s),XY,ks,rr,lf++[(y,s)], ?_,rfl,hM.left hs⟩;rw[P9];rfl
   refine Zz (b:=decide (s = "record")) (fun z=>app (.inl (T1 z))) fun z1=>?_;refine Zz (b:=decide (s = "choice")) (fun z=>app (.inr (T1 z))) fun z2=>?_;have hs:s∈E8:=((sor_or s ms').resolve_left (of_decide_eq_false z1)).resolve_left (of_decide_eq_false z2);refine Ga (hP hs hm fun x m=>m) fun t i3 k3 ht=>?_;refine K3 (by rw[Ym hM.k];omega) ?_;exact nx _ ⟨_,_,_,_,_,_,rr,lf,rfl,rfl,hM.put ht⟩
  obtain⟨i,k,s7,s8,pk,ks,rr,lf,rfl,er,hM⟩:=hi;cases rr with
  | cons y rr=>cases er
  | nil =>
  obtain⟨hp,h2⟩:=hM.fin
  refine G0 (fun rest p=>∃(i k:Int) (s6 s7 s8 s9:Sl) (XY:ZX) (ks:ZG) (lf:List (Str×Str)),p=[.o (Zg zs i k),s1,s2,.f (.lst (ms.map .str)),.o (.lst (SOR.map .str)),.o (.dct XY),s6,s7,s8,s9]/\OF s9 (.dct pk)/\rest=lf.map pT/\M2 ms pk lf ks XY)
   ⟨_,_,_,_,_,_,pk,ks,lf,rfl,.inl rfl,rfl,h2⟩ (fun x rest p D' hi nx _=>?_) fun p hi=>?_
  .obtain⟨i,k,s6,s7,s8,s9,XY,ks,lf,rfl,o9,er,h2⟩:=hi;cases lf with
   | nil=>cases er
   | cons q lf =>
   cases er;have n:=h2.n;have hq:=(h2.lk q Yd).2.2;have hk:∃b,Kd2 q.2 b:=hq.elim (fun e=>⟨true,.inl ⟨e,rfl⟩⟩) fun e=>⟨false,.inr ⟨e,rfl⟩⟩;obtain⟨b,hb⟩:=hk;refine O5 o9 rfl ?_;refine Ga (hR hb hp hm fun x m=>m) fun t i3 k3 ht=>?_;refine K3 (by rw[Ym h2.k];omega) ?_;obtain⟨Jx,h3⟩:=h2.put ht;exact nx _ ⟨_,_,_,_,_,_,_,Jx,lf,rfl,.inr rfl,rfl,h3⟩
  obtain⟨i,k,s6,s7,s8,s9,XY,ks,lf,rfl,o9,er,h2⟩:=hi;cases lf with
  | cons q lf=>cases er
  | nil =>
  refine Zl hd (by rw[Za];omega) (by rw[Za];omega) fun r i' k' h0 h1=>?_;rw[Za]at h1;refine Un h0 h1 fun root mr=>?_;exact rt _ _ ⟨_,_,_,⟨ks,root,XY,rfl,h2.made hp hsm mr,by have:=h2.n;omega⟩,rfl⟩
 refine Zl hd (by omega) (by omega) fun r i' k' h0 h1=>?_;refine rotP (xs:=WRD) (f:=T.str) h0 (Int.le_of_lt h1) (by decide) fun ys py=>?_;have ly:ys.length=14:=py.length_eq;refine Zl hd (by omega) (by omega) fun r2 i2 k2 g0 g1=>?_;have:=key (ys.take (2+r2).toNat) ((py.nodup_iff.mpr (by decide)).sublist (List.take_sublist _ _)) (fun z m=>py.mem_iff.mp (List.mem_of_mem_take m)) (by rw[nu];omega) (by rw[nu];omega) (.o (.lst (WRD.map .str))) (.f (.int r)) i2 k2;rw[<-An (by omega) (by omega)]at this;exact this
theorem Ve{a b:T}{r q:ZZ}{e:Bool}(h:eqE a b=some e)(h1:e=true->(Dq r q).isSome=true)(h2:e=false->(ltE a b).isSome=true):(Dq (a::r) (b::q)).isSome=true:=by
 unfold Dq;rw[h];show (if e=true then Dq r q else ltE a b).isSome=true;cases e with
 | true=>rw[if_pos rfl];exact h1 rfl
 | false=>rw[if_neg fun z=>nomatch z];exact h2 rfl
theorem iw{ds es:ZZ}(hd:Dfl ds)(he:Dfl es)(h:∀v u,ds=[v]->es=[u]->∃s,Tt s v/\Tt s u):(Dq [.tup ds] [.tup es]).isSome=true:=by
 cases hd with
 | no=>cases he with
  | no=>exact Ve (e:=true) rfl (fun _=>rfl) fun z=>nomatch z
  | is _=>exact Ve (e:=false) rfl (fun z=>nomatch z) fun _=>rfl
 | is _=>cases he with
  | no=>exact Ve (e:=false) rfl (fun z=>nomatch z) fun _=>rfl
  | is _ =>
   obtain⟨s,f1,f2⟩:=h _ _ rfl rfl;cases f1 with
   | @whole a b i _ _=>cases f2 with | @whole _ _ j _ _=>exact Ve (e:=(decide (i=j) && true)) rfl (fun _=>rfl) fun _=>rfl
   | @truth a=>cases f2 with | @truth b=>cases a<;>cases b<;>rfl
   | @text n x _=>cases f2 with | @text _ y _=>exact Ve (e:=(decide (x=y) && true)) rfl (fun _=>rfl) fun _=>rfl
   | row=>cases f2 with | row=>rfl
   | map=>cases f2 with | map=>rfl
def itm:T->ZZ
 | .tup ts=>ts
 | _=>[]
theorem ij{ns:ZG}{b:Bool}{XY:ZX}{p q:T}(hp:Gr ns b p)(hq:Gr ns b q)(dp:DF1 XY p)(dq:DF1 XY q):(Dq (itm p) (itm q)).isSome=true:=by
 cases hp with | @mk n x o ds hn hx ho hd =>
 cases hq with | @mk m y u es hm hy hu he =>
 refine Ve (e:=decide (n=m)) rfl (fun _=>?_) fun _=>rfl;refine Ve (e:=decide (x=y)) rfl (fun _=>?_) fun _=>rfl;refine Ve (e:=decide (o=u)) rfl (fun z=>?_) fun _=>rfl;cases T1 z;cases hd with
 | arm=>cases he with | arm=>rfl
 | @fld ds hd=>cases he with | @fld es he =>
  refine iw hd he fun v v' e e'=>?_;subst e;subst e';obtain⟨s,e1,f1⟩:=dp n x o v rfl;obtain⟨s',e2,f2⟩:=dq m y o v' rfl;rw[e1]at e2;cases e2;exact⟨s,f1,f2⟩
theorem Oy{ns:ZG}{b:Bool}:∀{ps:ZZ},(∀p∈ps,Gr ns b p)->Rx ps=some (ps.map itm)
 | [],_=>rfl
 | p::ps,h=>by
  have ih:=Oy (ps:=ps) fun q m=>h q (Vq _ m);cases h p Yd with | mk _ _ _ _ =>
  show (Rx ps).map _=_;rw[ih];rfl
theorem px{ns:ZG}{b:Bool}{XY:ZX}{ps:ZZ}(hp:∀p∈ps,Gr ns b p)(hd:∀p∈ps,DF1 XY p)(l:ps.length<64):∃us,Oa ps=some us/\us.length=ps.length/\∀u∈us,u∈ps:=by
 unfold Oa;rw[Oy hp];show ∃us,(if ps.length<2 then some ps else _)=some us/\_;by_cases c:ps.length<2
 .exact⟨ps,if_pos c,rfl,fun u m=>m⟩
 .rw[if_neg c,if_pos ⟨l,fun a ma b' mb=>by
   obtain⟨p,mp,rfl⟩:=Gd.mp ma;obtain⟨q,mq,rfl⟩:=Gd.mp mb;exact ij (hp p mp) (hp q mq) (hd p mp) (hd q mq)⟩]
  have pm:=SRT.xv (n:=ps.length) (by omega) fun i j=>(Dq ((ps.map itm).getD i []) ((ps.map itm).getD j [])).getD false;refine⟨_,rfl,by rw[Za,pm.length_eq,XZ],fun u m=>?_⟩;obtain⟨i,mi,rfl⟩:=Gd.mp m;have li:=List.mem_range.mp (pm.mem_iff.mp mi);rw[List.getD_eq_getElem?_getD,We li];exact G0e li
theorem srtPP{ns:ZG}{b:Bool}{XY:ZX}{ps:ZZ}{Q:Sl->Prop}(hp:∀p∈ps,Gr ns b p)(hd:∀p∈ps,DF1 XY p)(l:ps.length<64)(q:∀us,us.length=ps.length->(∀u∈us,u∈ps)->Q (.o (.lst us))):on (L1 .srtP [.tup ps]) Q:=by
 obtain⟨us,e,l',m⟩:=px hp hd l;exact Zm (a:=Sl.o (.lst us)) (by show (Oa ps).map _=_;rw[e];rfl) (q us l' m)
def PNr(K:Kn):Prop:=∀{zs:ZT} {i k:Int} {s:T} {ns:ZG},ju ns s->K [.o (Zg zs i k),.f s] (rg zs fun t=>Raw ns t/\Co t=true)
theorem oh{w:W}(hd:Vm w.C):PNr (wF Gj w):=fun {zs i k s ns} hs=>by
 refine Zy rfl fun D rt _=>?_;refine Zl hd (by omega) (by omega) fun r i' k' h0 h1=>?_;have pl:=hs.pl;cases hs.raw with
 | truth=>exact rt _ _ ⟨_,_,_,⟨.whole,rfl⟩,rfl⟩
 | whole =>
  refine Zl hd (by omega) (by omega) fun r i' k' h0 h1=>?_;exact rt _ _ ⟨_,_,_,⟨.whole,rfl⟩,rfl⟩
 | text=>exact rt _ _ ⟨_,_,_,⟨.text,rfl⟩,rfl⟩
 | row ho=>exact rt _ _ ⟨_,_,_,⟨.row ho,rfl⟩,rfl⟩
 | map ho=>exact rt _ _ ⟨_,_,_,⟨.map ho,rfl⟩,rfl⟩
 | record _ _=>cases pl
 | choice _ _=>cases pl
theorem ix_to6(n:Nat):(Builtin.Str.strSliceIndices none (some 6) 1 n).length<=6:=by
 unfold Builtin.Str.strSliceIndices sliceRange;simp only[show (1:Int)>0 by decide,if_true,Za,XZ]<;>(split<;>(try split)<;>(try split)<;>(try simp only[Int.ediv_one])<;>omega)
theorem v7{x:Str}(h:Sm x):(Txt.slice x none (some 6)).length<=6/\∀c∈(Txt.slice x none (some 6)).cps.toList,c∈x.cps.toList:=by
 have h6:=ix_to6 x.length;unfold Txt.slice
 split
 .rename_i c
  simp only[Vi,beq_iff_eq]at c;exact⟨by omega,fun c m=>m⟩
 .refine⟨?_,fun c m=>?_⟩
  .show (List.filterMap _ (Builtin.Str.strSliceIndices none (some 6) 1 x.length)).toArray.size<=_;rw[Jv];exact Gs (List.length_filterMap_le _ _) h6
  .have m:c∈List.filterMap _ (Builtin.Str.strSliceIndices none (some 6) 1 x.length):=m;obtain⟨i,_,e⟩:=List.mem_filterMap.mp m;obtain⟨l,rfl⟩:=Array.getElem?_eq_some_iff.mp e;exact Array.mem_toList_iff.mpr (Array.getElem_mem l)
theorem sm_q{x:Str}(h:Sm x):Sm ((Str.ofString "q")++Txt.slice x none (some 6)):=by
 obtain⟨a,b⟩:=v7 h;have e:((Str.ofString "q")++Txt.slice x none (some 6)).cps.toList=(Str.ofString "q").cps.toList++(Txt.slice x none (some 6)).cps.toList:=Array.toList_append;refine⟨?_,fun c m=>?_⟩
 .show (((Str.ofString "q")++Txt.slice x none (some 6)).cps).size<=8;rw[<-Lh,e,Gc];show 1+(Txt.slice x none (some 6)).cps.toList.length<=8;rw[Lh];exact Gs (Nat.add_le_add_left a 1) (by omega)
 .rw[e]at m;rcases Cd.mp m with m | m
  .exact(show ∀c∈(Str.ofString "q").cps.toList,c<16 ^ 8 by decide) c m
  .exact h.2 c (b c m)
theorem noC_pl{ns:ZG}{s:T}(h:ju ns s):oy s=true:=by
 have pl:=h.pl;cases h.raw with
 | record _ _=>cases pl
 | choice _ _=>cases pl
 | _=>rfl
theorem tmpP{ns:ZG}{pk:ZX}{Q:Sl->Prop}(h:zd ns pk)(q:Q (.o (.dct pk))):on (sj (.o (.dct pk))) Q:=Zm (a:=Sl.o (.dct pk)) (if_pos (n7.mpr fun p m=>noC_pl (h.p p m))) q
theorem pl_tag{ns:ZG}{s:T}(h:ju ns s):∃t l,s=.tup (.str t::l)/\t∈E8:=by
 have pl:=h.pl;cases h.raw with
 | record _ _=>cases pl
 | choice _ _=>cases pl
 | whole=>exact⟨_,_,rfl,by decide⟩
 | truth=>exact⟨_,_,rfl,by decide⟩
 | text=>exact⟨_,_,rfl,by decide⟩
 | row _=>exact⟨_,_,rfl,by decide⟩
 | map _=>exact⟨_,_,rfl,by decide⟩
def Rst(b:Bool)(rs:ZZ):Prop:=(b=true/\rs=[])\/(b=false/\∃c,rs=[.bl c])
noncomputable abbrev shT(t:Str)(ps:ZZ)(zs:ZT)(rs:ZZ):T:=.tup (.str t::.tup ps::.tup (zs.map .int)::rs)
structure E9(ns:ZG)(XY:ZX)(t:Str)(b:Bool)(ps:ZZ)(zs:ZT)(rs:ZZ):Prop where
 kd:Kd2 t b
 p:M6 ns b ps
 m:Mem ps zs
 r:Rst b rs
 df:∀p∈ps,DF1 XY p
theorem dz{ns:ZG}{root:Str}{XY:ZX}(h:Mk ns root XY){x:Str}{s:T}(e:Zv XY (.inr x)=some s)(np:Co s=false):∃t b ps zs rs,s=shT t ps zs rs/\E9 ns XY t b ps zs rs:=by
 have m:=Z1 e;have raw:=h.raw.r _ m;have ok:=h.ok _ m;have fit:=h.fit _ m;cases(show Raw ns s from raw) with
 | @record ps zs hp hz =>
  refine⟨_,true,ps,zs,[],rfl,.inl ⟨rfl,rfl⟩,hp, ?_,.inl ⟨rfl,rfl⟩,fun p mp n x o v e=>fit ps zs rfl n x o v (e ▸ mp)⟩;obtain⟨s,e⟩:∃s,s=T.tup [.str "record",.tup ps,.tup (zs.map .int)]:=⟨_,rfl⟩;have ok:Bn s:=e ▸ ok;cases ok with
  | @record qs us hm =>
   injection e with e;injection e with _ e;injection e with e1 e2;injection e1 with e1
   injection e2 with e2 _;injection e2 with e2
   have:us=zs:=List.map_inj_right (fun a b h=>by cases h;rfl) |>.mp e2;subst e1;subst this;exact hm
  | _=>cases e
 | @choice ps zs c hp hz =>
  refine⟨_,false,ps,zs,[.bl c],rfl,.inr ⟨rfl,rfl⟩,hp, ?_,.inr ⟨rfl,c,rfl⟩,fun p mp n x o v e=>by cases hp.p p mp with | mk _ _ _ hd=>cases hd;cases e⟩;obtain⟨s,e⟩:∃s,s=T.tup [.str "choice",.tup ps,.tup (zs.map .int),.bl c]:=⟨_,rfl⟩;have ok:Bn s:=e ▸ ok;cases ok with
  | @choice qs us _ hm =>
   injection e with e;injection e with _ e;injection e with e1 e2;injection e1 with e1
   injection e2 with e2 _;injection e2 with e2
   have:us=zs:=List.map_inj_right (fun a b h=>by cases h;rfl) |>.mp e2;subst e1;subst this;exact hm
  | _=>cases e
 | _=>cases np
theorem E9.raw{ns:ZG}{b:Bool}{t:Str}{ps rs:ZZ}{zs:ZT}(hk:Kd2 t b)(hp:M6 ns b ps)(hz:zs.length<=20)(hr:Rst b rs):Raw ns (shT t ps zs rs):=by
 rcases hk with ⟨rfl,rfl⟩ | ⟨rfl,rfl⟩
 .rcases hr with ⟨_,rfl⟩ | ⟨z,_⟩
  .exact .record hp hz
  .cases z
 .rcases hr with ⟨z,_⟩ | ⟨_,c,rfl⟩
  .cases z
  .exact .choice hp hz
theorem yo(n:Nat)(gs:ZT):(List.replicate n (gs.map T.int)).flatten=((List.replicate n gs).flatten).map .int/\((List.replicate n gs).flatten).length=n * gs.length:=⟨by rw[List.map_flatten,List.map_replicate],by simp⟩
theorem Mk.put{ns:ZG}{root r' x:Str}{XY:ZX}{s s':T}(h:Mk ns root XY)(mx:x∈ns)(e:Zv XY (.inr x)=some s)(raw:Raw ns s')(hp:Co s'=true\/Co s=false)(mr:r'∈ns):Cf ns (Zo XY (.inr x) s')/\((∀p∈Zo XY (.inr x) s',Bn p.2)->(∀p∈Zo XY (.inr x) s',∀ps zs,p.2=G1 ps zs->DF (Zo XY (.inr x) s') ps)->Mk ns r' (Zo XY (.inr x) s')):=by
 have rk:Cf ns (Zo XY (.inr x) s'):=⟨((G3 (x:=x) (v:=s') h.raw.k).resolve_right fun z=>z.1 mx).2,fun p m=>by
  rcases Nq m with m | rfl
  .exact h.raw.r p m
  .exact raw,h.raw.sm⟩
 refine⟨rk,fun ok fit=>⟨rk,mr,ok,fit, ?_,h.l⟩⟩;rcases hp with z | z
 .exact⟨x,mx,s',by rw[Jt,if_pos rfl],z⟩
 .obtain⟨y,my,t,et,zt⟩:=h.pl;refine⟨y,my,t, ?_,zt⟩;rw[Jt,if_neg fun c=>by cases c;rw[e]at et;cases et;rw[z]at zt;cases zt];exact et
noncomputable def cE:S:=t7 (Zr 6 Yh)
section
variable{w:W}{W0:ZT}{i0 k0:Int}{ns:ZG}{root x:Str}{XY pk:ZX}{s:T}{D:En}{pt:Nat->Bool}
theorem tn_fin(hd:Vm w.C)(hM:PMk (cl w.C "is_make"))(h:Mk ns root XY)(mx:x∈ns)(e:Zv XY (.inr x)=some s)(p14:pt 14=false)(rt:∀t i k (s1:Sl) (q:P),Wa t->D.rt (.f t) (.o (Zg W0 i k)::s1::q))
  {s':T} (raw:Raw ns s') (hp:Co s'=true\/Co s=false) {s2 s6 s7 s8 s9 uo yn xd yc xb:Sl} {i k:Int}:wS w pt (Zr 7 Yh) [.o (Zg W0 i k),.f (mkT root XY),s2,.f (.str x),.f s,.o (.dct (Zo XY (.inr x) s')),s6,s7,s8,s9,uo,yn,xd,yc,xb] D:=by
 show if pt 14=true then False else _
 rw[if_neg (by rw[p14];exact fun z=>nomatch z)];refine Zl hd (by omega) (by omega) fun r i' k' h0 h1=>?_;refine Un (ss:=[root,x]) (by split<;>omega) (by show _<(2:Int);split<;>omega) fun y my=>?_
 have mr:y∈ns:=by
  rcases Vt.mp my with rfl | my
  .exact h.root
  .cases V8.mp my;exact mx
 obtain⟨rk,mk⟩:=h.put mx e raw hp mr;refine Yp (hM rk mr) fun b hb=>?_;refine Zz (b:=b) (fun z=>?_) fun _=>?_
 .exact rt _ _ _ _ _ ⟨ns,y,_,rfl,mk (hb z).2.1 (hb z).2.2⟩
 .exact rt _ _ _ _ _ ⟨ns,root,_,rfl,h⟩
theorem tn_put(fin:∀{s':T},Raw ns s'->∀{s2 s6 s7 s8 s9 uo yn xd yc xb:Sl} {i k:Int},D.nx [.o (Zg W0 i k),.f (mkT root XY),s2,.f (.str x),.f s,.o (.dct (Zo XY (.inr x) s')),s6,s7,s8,s9,uo,yn,xd,yc,xb])(h:Mk ns root XY)
  {t:Str} {b:Bool} {ps ay rs rs':ZZ} {zs n8:ZT} (es:s=shT t ps zs rs) (kd:Kd2 t b) (hp:M6 ns b ay) (hz:n8.length<=20) (hr:Rst b rs') {s2 s6 s7 yn xd yc xb:Sl} {i k:Int}:wS w pt (Zr 4 cE) [.o (Zg W0 i k),.f (mkT root XY),s2,.f (.str x),.f s,.o (.dct XY),s6,s7,.f (.tup ay),.f (.tup (n8.map .int)),.f (.tup rs'),yn,xd,yc,xb] D:=by
 have l:=h.l;have:=sizeLine_eq;subst es;refine Uu ?_;refine Wh (by rcases hr with ⟨_,rfl⟩ | ⟨_,c,rfl⟩<;>(show 3+_<=_;simp;omega)) ?_;refine K3 (by rw[Ym h.raw.k];omega) ?_;exact fin (E9.raw kd hp hz hr)
end
def cW:S:=t7 (Zr 3 cE)
noncomputable def cX:S:=Od (t7 (t7 (t7 cW)))
section
variable{w:W}{W0:ZT}{i0 k0:Int}{ns ms:ZG}{root x t:Str}{XY pk:ZX}{D:En}{b:Bool}{ps rs:ZZ}{zs:ZT}
def PutN(W0:ZT)(ns:ZG)(b:Bool)(root x t:Str)(XY:ZX)(ps rs:ZZ)(zs:ZT)(Q:P->Prop):Prop:=∀{ay rs':ZZ} {n8:ZT},M6 ns b ay->n8.length<=20->Rst b rs'->∀{s2 s6 s7 yn xd yc xb:Sl} {i k:Int},Q [.o (Zg W0 i k),.f (mkT root XY),s2,.f (.str x),.f (shT t ps zs rs),.o (.dct XY),s6,s7,.f (.tup ay),.f (.tup (n8.map .int)),.f (.tup rs'),yn,xd,yc,xb]
theorem Fi(put:PutN W0 ns b root x t XY ps rs zs D.nx)(g:E9 ns XY t b ps zs rs){p':T}(hp:Gr ns b p'){a:Int}{s2 s6 s7 xd xb:Sl}{i k:Int}:wS w (Yb [.o (Zg W0 i0 k0),.f (mkT root XY)]) (Zr 2 cX) [.o (Zg W0 i k),.f (mkT root XY),s2,.f (.str x),.f (shT t ps zs rs),.o (.dct XY),s6,s7,.f (.tup ps),.f (.tup (zs.map .int)),.f (.tup rs),.f (.int a),xd,.f p',xb] D:=by
 have:=sizeLine_eq;have l:=g.m.l;have l1:=Up (ts:=ps) (lo:=none) (hi:=some a);have l2:=Up (ts:=ps) (lo:=some (a+1)) (hi:=none);refine Wh (by show _+1<=_;omega) ?_;refine Wh (by rw[Gc];show _+1+_<=_;omega) ?_;refine put ⟨?_,fun q m=>?_⟩ (by have:=g.m.sl;omega) g.r
 .rw[Gc,Gc];show _+1+_<=_;omega
 .rcases Cd.mp m with m | m
  .rcases Cd.mp m with m | m
   .exact g.p.p q (N9 m)
   .cases V8.mp m;exact hp
  .exact g.p.p q (N9 m)
theorem vh(hP:Bd (cl w.C "_law_part"))(put:PutN W0 ns b root x t XY ps rs zs D.nx)(g:E9 ns XY t b ps zs rs)(hk:zd ns pk)(gk:∀x s,Zv pk (.inr x)=some s->Zv XY (.inr x)=some s)(hm:rj ms)(hx:∀x∈ms,x∈ns){wy a:Int}(w0:0<=wy)(w1:wy<8)(a0:0<=a){s2 s6:Sl}(o2:OF s2 (.lst (ms.map .str)))(o6:OF s6 (.dct pk)){i k:Int}:wS w (Yb [.o (Zg W0 i0 k0),.f (mkT root XY)]) cW [.o (Zg W0 i k),.f (mkT root XY),s2,.f (.str x),.f (shT t ps zs rs),.o (.dct XY),s6,.f (.int wy),.f (.tup ps),.f (.tup (zs.map .int)),.f (.tup rs),.f (.int a),.no,.no,.no] D:=by
 have sz:=sizeLine_eq;have l:=g.m.l;have lz:=g.m.sl;refine Zz (b:=decide (wy=1)) (fun _=>?_) fun _=>?_
 .obtain⟨n8,ez,_,lz',_⟩:=Pb (f:=T.int) (xs:=zs) (some 1) none;have:=@put ps rs n8 g.p (by omega) g.r s2 s6 (.f (.int wy)) (.f (.int a)) .no .no .no i k;rw[<-ez]at this;exact this
 refine Zz (b:=decide (wy<4)) (fun z=>?_) fun _=>?_
 .have z:=T1 z;have l0:=Up (ts:=ps) (lo:=some a) (hi:=some (a+1));have l1:=Up (ts:=ps) (lo:=none) (hi:=some a);have l2:=Up (ts:=ps) (lo:=some (a+1)) (hi:=none);refine R3 (ps:=Ye ps (some a) (some (a+1))) (fun p m=>g.p.p p (N9 m)) fun s0=>?_;refine Wh (by omega) ?_;obtain⟨r1,r2⟩:=yo (wy - 2).toNat ((Ye ps (some a) (some (a+1))).map Z0);rw[Za]at r2;have n1:(wy - 2).toNat<=1:=by omega
  have n2:(wy - 2).toNat * (Ye ps (some a) (some (a+1))).length<=8:=by
   have:=Nat.mul_le_mul n1 (Gs l0 l);omega
  refine O9 (a:=Sl.o (.lst (List.replicate (wy - 2).toNat (((Ye ps (some a) (some (a+1))).map Z0).map T.int)).flatten)) ⟨by omega,by omega, ?_⟩ ?_
  .rw[Za,Za,Nat.mul_comm];omega
  refine Wp (by rw[r1,Za,Za,r2];omega) ?_;have ll:(zs++(List.replicate (wy - 2).toNat ((Ye ps (some a) (some (a+1))).map Z0)).flatten).length<=16:=by rw[Gc,r2];omega
  refine Xx (us:=(SRT.Ms (zs++(List.replicate (wy - 2).toNat ((Ye ps (some a) (some (a+1))).map Z0)).flatten)).map .int) (by rw[r1, <-P9];exact srt_ints _ (by omega)) ?_;refine put ⟨by rw[Gc];omega,fun q m=>?_⟩ (by rw[(SRT.Yc _).length_eq];omega) g.r;rcases Cd.mp m with m | m<;>exact g.p.p q (N9 m)
 refine Zz (b:=decide (wy=4)) (fun _=>?_) fun _=>?_
 .refine Uu ?_;refine O5 o6 rfl ?_;refine O5 o2 rfl ?_;refine Ga (hP g.kd (show (500:Int)∈Ll by decide) hk hm hx) fun p i k hp=>?_;refine Wh (by show _+1<=_;omega) ?_;refine srtPP (XY:=XY) (ns:=ns) (b:=b) (fun q m=>?_) (fun q m=>?_) (by rw[Gc];show _+1<_;omega) fun us lu mu=>?_
  .rcases Cd.mp m with m | m
   .exact g.p.p q m
   .cases V8.mp m;exact hp.prt
  .rcases Cd.mp m with m | m
   .exact g.df q m
   .cases V8.mp m;exact fun n x o v e=>let ⟨s,e1,f⟩:=hp.df n x o v e;⟨s,gk o s e1,f⟩
  rw[Gc]at lu;refine put ⟨by rw[lu];show _+1<=_;omega,fun q m=>?_⟩ (by omega) g.r;rcases Cd.mp (mu q m) with m | m
  .exact g.p.p q m
  .cases V8.mp m;exact hp.prt
 refine Zz (b:=decide (a<(ps.length:Nat))) (fun z=>?_) fun _=>?_
 .obtain⟨p,ep,_,mp⟩:=Pa (xs:=ps) a0 (T1 z);have hp:=g.p.p p mp;cases hp with | @mk n y o ds hn hy ho hd =>
  refine Uu ?_;refine i5 ep ?_;refine Uu ?_;refine O5 o6 rfl ?_;refine O5 o2 rfl ?_;refine Ga (hP g.kd hn hk hm hx) fun p i k hp=>?_;refine Zz (b:=decide (wy=7)) (fun _=>?_) fun _=>Fi put g hp.prt;refine i5 ep ?_;refine Uu ?_;refine i5 ep ?_;refine Nk ?_;refine O9 hy.z ?_;have hq:=sm_q hy;have h6:=(v7 hy).1;refine addSP (by show 1+_<=_;omega) ?_;refine i5 ep ?_;cases hd with
  | arm=>exact Fi put g (.mk hn hq ho .arm)
  | fld hd=>exact Fi put g (.mk hn hq ho (.fld hd))
 .exact put g.p (by omega) g.r
end
end K63
set_option maxHeartbeats 2000000
namespace K63
open PySem PySem.Spec PyProof.Rows L2 PV
section
variable{w:W}{W0:ZT}{i0 k0:Int}{ns ms:ZG}{root x t:Str}{XY pk:ZX}{D:En}{b:Bool}{ps rs:ZZ}{zs:ZT}
theorem tn_grp(hd:Vm w.C)(hP:Bd (cl w.C "_law_part"))(h:Mk ns root XY)(fin:∀{s':T},Raw ns s'->∀{s2 s6 s7 s8 s9 uo yn xd yc xb:Sl} {i k:Int},D.nx [.o (Zg W0 i k),.f (mkT root XY),s2,.f (.str x),.f (shT t ps zs rs),.o (.dct (Zo XY (.inr x) s')),s6,s7,s8,s9,uo,yn,xd,yc,xb])(g:E9 ns XY t b ps zs rs)(hk:zd ns pk)(gk:∀x s,Zv pk (.inr x)=some s->Zv XY (.inr x)=some s)(hm:rj ms)(hx:∀x∈ms,x∈ns){wy:Int}(w0:0<=wy)(w1:wy<8){s2 s6:Sl}(o2:OF s2 (.lst (ms.map .str)))(o6:OF s6 (.dct pk)){i k:Int} :
  wS w (Yb [.o (Zg W0 i0 k0),.f (mkT root XY)]) (Zr 2 cE) [.o (Zg W0 i k),.f (mkT root XY),s2,.f (.str x),.f (shT t ps zs rs),.o (.dct XY),s6,.f (.int wy),.f (.tup ps),.f (.tup (zs.map .int)),.f (.tup rs),.no,.no,.no,.no] D:=by
 have l:=g.m.l;have lz:=g.m.sl;have put:PutN W0 ns b root x t XY ps rs zs fun q=>wS w (Yb [.o (Zg W0 i0 k0),.f (mkT root XY)]) (Zr 4 cE) q D:=fun hp hz hr=>tn_put fin h rfl g.kd hp hz hr;refine Zl hd (by omega) (by omega) fun a i k a0 a1=>?_;refine Zz (b:=decide (wy=0)) (fun _=>?_) fun _=>vh hP put g hk gk hm hx w0 w1 a0 o2 o6;have tw:=@vh w W0 i0 k0 ns ms root x t XY pk ⟨fun q=>wS w (Yb [.o (Zg W0 i0 k0),.f (mkT root XY)]) (Zr 4 cE) q D,D.rt,D.bk,D.ct⟩ b ps rs zs hP put g hk gk hm hx wy a w0 w1 a0 s2 s6 o2 o6 i k;rcases g.r with ⟨rb,rfl⟩ | ⟨rb,c,rfl⟩
 .exact tw
 .exact put g.p (by omega) (.inr ⟨rb,!c,rfl⟩)
end
def PTn(K:Kn):Prop:=∀{zs:ZT} {i k:Int} {t:T},Wa t->K [.o (Zg zs i k),.f t] (rg zs Wa)
theorem tn_pl{w:W}{zs:ZT}{i k i2 k2:Int}{ns:ZG}{root x:Str}{XY:ZX}{s:T}{D:En}{s6:Sl}{wy:Int}(hP:PPl (cl w.C "_law_plain"))(hN:PNr (cl w.C "_law_near"))(h:Mk ns root XY)(hm:rj (SRT.Z8 ns))(hx:∀x∈SRT.Z8 ns,x∈ns)(hs:ju ns s)(fin:∀{s':T},Raw ns s'->Co s'=true->∀{s2:Sl} {i' k':Int},D.nx [.o (Zg zs i' k'),.f (mkT root XY),s2,.f (.str x),.f s,.o (.dct (Zo XY (.inr x) s')),s6,.f (.int wy),.no,.no,.no,.no,.no,.no,.no]):wS w (Yb [.o (Zg zs i k),.f (mkT root XY)]) (Od (Zr 6 Yh)) [.o (Zg zs i2 k2),.f (mkT root XY),.o (.lst ((SRT.Z8 ns).map .str)),.f (.str x),.f s,.o (.dct XY),s6,.f (.int wy),.no,.no,.no,.no,.no,.no,.no] D:=by
 have l6:=h.l;refine Zz (b:=decide ((1:Int)<wy)) (fun _=>?_) fun _=>?_
 .refine Ga (hN hs) fun t i k ht=>?_;refine K3 (by rw[Ym h.raw.k];omega) ?_;exact fin ht.1 ht.2
 .obtain⟨t,l,rfl,mt⟩:=pl_tag hs;refine Uu ?_;refine Ga (hP mt hm hx) fun t i k ht=>?_;refine K3 (by rw[Ym h.raw.k];omega) ?_;exact fin ht.raw ht.pl
theorem zo{w:W}(hd:Vm w.C)(hP:PPl (cl w.C "_law_plain"))(hQ:Bd (cl w.C "_law_part"))(hS:PPs (cl w.C "_law_plains"))(hN:PNr (cl w.C "_law_near"))(hM:PMk (cl w.C "is_make")):PTn (wF Ux w):=fun {zs i k t} ht=>by
 obtain⟨ns,root,XY,rfl,h⟩:=ht;refine Zy rfl fun D rt _=>?_;have l6:=h.l;have l0:0<ns.length:=List.length_pos_of_mem h.root;have pm:=SRT.Z3 ns;have ls:=pm.length_eq;have hm:rj (SRT.Z8 ns):=⟨by omega,by omega⟩;have hx:∀x∈SRT.Z8 ns,x∈ns:=fun x m=>pm.mem_iff.mp m;refine Ds h.raw.k (by omega) ?_;refine Zl hd (by rw[Za];omega) (by rw[Za];omega) fun r i1 k1 h0 h1=>?_;rw[Za]at h1;refine Un h0 h1 fun x mx=>?_;have mx:=hx x mx;obtain⟨s,e,raw⟩:=h.raw.get mx;refine Hh e ?_;refine Zk (hS h) fun y ⟨pk,ey,hk,gk,hi⟩=>?_;subst ey;refine tmpP hk ?_;refine Zl hd (by omega) (by omega) fun wy i2 k2 w0 w1=>?_;have fin:∀{s':T},Raw ns s'->(Co s'=true\/Co s=false)->∀{s2 s6 s7 s8 s9 uo yn xd yc xb:Sl} {i' k':Int},wS w (Yb [.o (Zg zs i k),.f (mkT root XY)]) (Zr 7 Yh) [.o (Zg zs i' k'),.f (mkT root XY),s2,.f (.str x),.f s,.o (.dct (Zo XY (.inr x) s')),s6,s7,s8,s9,uo,yn,xd,yc,xb] D:=fun raw hp=>tn_fin hd hM h mx e rfl (fun t i k s1 q ht=>rt _ _ ⟨t,i,k,ht,rfl⟩) raw hp;refine Zz (b:=(Zv pk (.inr x)).isSome) (fun z=>?_) fun z=>?_
 .rw[hi x s e]at z;have hs:ju ns s:=⟨raw,h.ok _ (Z1 e),z⟩;exact tn_pl hP hN h hm hx hs fun raw hp=>fin raw (.inl hp)
 .rw[hi x s e]at z;obtain⟨t,b,ps,us,rs,rfl,g⟩:=dz h e z;have tg:=@tn_grp w zs i k ns (SRT.Z8 ns) root x t XY pk ⟨fun q=>wS w (Yb [.o (Zg zs i k),.f (mkT root XY)]) (Zr 7 Yh) q D,D.rt,D.bk,D.ct⟩ b ps rs us hd hQ h (fun raw=>fin raw (.inr z)) g hk gk hm hx wy w0 w1 (.o (.lst ((SRT.Z8 ns).map .str))) (.o (.dct pk)) (.inl rfl) (.inl rfl) i2 k2;rcases g.r with ⟨rb,rfl⟩ | ⟨rb,c,rfl⟩
  .exact tg
  .exact tg
def PNx(K:Kn):Prop:=∀{zs:ZT} {i k:Int} {t:T},Wa t->K [.o (Zg zs i k),.f t,.f (.int 2)] (rg zs Wa)
theorem og{w:W}(hd:Vm w.C)(hT:PTn (cl w.C "_law_turned")):PNx (wF Gq w):=fun {zs i k t} ht=>by
 refine Zy rfl fun D rt _=>?_;refine Zl hd (by omega) (by omega) fun r i' k' h0 h1=>?_;refine rngP (by omega) (by omega) ?_;refine G0 (fun rest p=>∃i k t s3,p=[.o (Zg zs i k),.f t,.f (.int 2),s3]/\Wa t) ⟨_,_,_,_,rfl,ht⟩ (fun x rest p D' hi nx _=>?_) fun p hi=>?_
 .obtain⟨i,k,t,s3,rfl,ht⟩:=hi;refine Ga (hT ht) fun t i k ht=>?_;exact nx _ ⟨_,_,_,_,rfl,ht⟩
 .obtain⟨i,k,t,s3,rfl,ht⟩:=hi;exact rt _ _ ⟨t,_,_,ht,rfl⟩
end K63
set_option maxHeartbeats 1000000
namespace K63
open PySem PySem.Spec PyProof.Rows L2 PV
noncomputable def V1(qs:ZZ)(n:Int):Bool:=qs.any fun q=>decide (Z0 q=n)
def Jq(us:ZT)(n:Int):Bool:=us.any fun z=>decide (z=n)
noncomputable def Z6(qs:ZZ)(us:ZT)(n:Int):Str:=if V1 qs n=true then "there" else if Jq us n=true then "struck" else "none"
noncomputable def D8(qs:ZZ)(p:T):Bool:=match Y9 qs (Z0 p) with
 | some q=>!decide (Ci q=Ci p)
 | none=>false
noncomputable def To(ps qs:ZZ)(zs us:ZT)(c:Bool):T :=
 if (ps.any fun p=>decide (Z6 qs us (Z0 p) = "none"))=true then .str "lost"
 else if (zs.any fun z=>!Jq us z)=true then .str "back"
 else if (ps.any (D8 qs))=true then .str "turned"
 else if c=true then .str "shut" else .non
theorem Np(n:Int):∀qs:ZZ,(Y9 qs n).isSome=V1 qs n
 | []=>rfl
 | q::qs=>by
  unfold V1;rw[List.any_cons];by_cases h:Z0 q=n
  .rw[Nr h,Ml h];rfl
  .rw[Nh h,C9 h,Np n qs];rfl
theorem Ra{ns:ZG}{k:Bool}{qs:ZZ}{n:Int}(h:∀q∈qs,Gr ns k q):Jw .isnt ((Y9 qs n).getD .non) .non=some (V1 qs n):=by
 rw[<-Np];cases e:Y9 qs n with
 | none=>rfl
 | some q=>cases h q (List.mem_of_find?_eq_some e) with | mk _ _ _ _=>rfl
theorem inZ{us:ZT}{n:Int}{Q:Sl->Prop}(q:Q (.f (.bl (Jq us n)))):on ((Jw .isin (.int n) (.tup (us.map .int))).map fun r=>Sl.f (.bl r)) Q:=Zm (by show (Kq (.int n) (.tup (us.map .int))).map _=_;rw[Sa];rfl) q
def PLf(K:Kn):Prop:=∀{ns:ZG} {t:Str} {b:Bool} {qs rs:ZZ} {us:ZT} {n:Int},Kd2 t b->Rst b rs->(∀q∈qs,Gr ns b q)->K [.f (shT t qs us rs),.f (.int n)] fun x=>x=(.f (.str (Z6 qs us n)),[])
theorem Qs{w:W}(hM:ja (cl w.C "member_of")):PLf (wF Uk w):=fun {ns t b qs rs us n} kd hr hq=>by
 have e:∀z:V1 qs n=false,Z6 qs us n=(if Jq us n=true then ("struck" : Str) else ("none" : Str)):=fun z=>by unfold Z6;rw[z];rfl
 have e1:∀z:V1 qs n=true,Z6 qs us n = "there" := fun z=>if_pos z
 have go:∀{t:Str} {rs:ZZ} (D:En),(∀r p,on (fin [.f (shT t qs us rs),.f (.int n)] r p) (fun x=>x=(.f (.str (Z6 qs us n)),[]))->D.rt r p)->(∀{Q:Sl->Prop},Q (.f (.tup (us.map .int)))->on ((Bt (shT t qs us rs) (.int 2)).map Sl.f) Q)->wS w (Yb [.f (shT t qs us rs),.f (.int n)]) (Zr 1 Fy) [.f (shT t qs us rs),.f (.int n)] D:=fun {t rs} D rt ix=>by
  refine Zk (hM hq) fun y ey=>?_;subst ey;refine Zm (a:=Sl.f (.bl (V1 qs n))) (by show (Jw _ _ _).map _=_;rw[Ra hq];rfl) ?_;refine Zz (b:=V1 qs n) (fun z=>rt _ _ (by rw[e1 z];rfl)) fun z=>?_;refine ix ?_;refine inZ ?_;refine Zz (b:=Jq us n) (fun y=>rt _ _ (by rw[e z,y];rfl)) fun y=>rt _ _ (by rw[e z,y];rfl)
 rcases kd with ⟨rfl,rfl⟩ | ⟨rfl,rfl⟩
 .rcases hr with ⟨_,rfl⟩ | ⟨z,_⟩
  .refine Zy rfl fun D rt _=>?_;exact go D rt fun q=>q
  .cases z
 .rcases hr with ⟨z,_⟩ | ⟨_,c,rfl⟩
  .cases z
  .refine Zy rfl fun D rt _=>?_;exact go D rt fun q=>q
def PTr(K:Kn):Prop:=∀{ns ns':ZG} {b b':Bool} {p:T} {qs:ZZ},Gr ns b p->(∀q∈qs,Gr ns' b' q)->K [.f p,.f ((Y9 qs (Z0 p)).getD .non)] fun x=>x=(.f (.bl (D8 qs p)),[])
theorem Sn{w:W}:PTr (wF U5 w):=fun {ns ns' b b' p qs} hp hq=>by
 cases e:Y9 qs (Z0 p) with
 | none =>
  refine Zy rfl fun D rt _=>?_;cases hp with | mk _ _ _ _ =>
  exact rt _ _ (by unfold D8;rw[e];rfl)
 | some q =>
  have et:D8 qs p=!decide (Ci q=Ci p):=by unfold D8;rw[e]
  rw[et];cases hq q (List.mem_of_find?_eq_some e) with | mk _ _ _ hd' =>
  cases hp with | mk _ _ _ hd =>
  cases hd<;>cases hd'<;>(refine Zy rfl fun D rt _=>?_;exact rt _ _ rfl)
end K63
set_option maxHeartbeats 1000000
namespace K63
open PySem PySem.Spec PyProof.Rows L2 PV
noncomputable def zI(ts:ZZ):ZT:=ts.map fun t=>match t with
 | .int i=>i
 | _=>0
theorem Vj(zs:ZT):zI (zs.map .int)=zs:=by
 unfold zI;rw[List.map_map];exact(List.map_congr_left fun _ _=>rfl).trans (List.map_id zs)
noncomputable def tag:T->Str
 | .tup (.str t::_)=>t
 | _ => ""
noncomputable def j6(s s':T):T:=if tag s'=tag s then (match s,s' with
 | .tup [_,.tup ps,.tup zs],.tup [_,.tup qs,.tup us]=>To ps qs (zI zs) (zI us) false
 | .tup [_,.tup ps,.tup zs,.bl b],.tup [_,.tup qs,.tup us,.bl b']=>To ps qs (zI zs) (zI us) (b && !b')
 | _,_=>.non) else .str "form"
def PBw(K:Kn):Prop:=∀{ns ns':ZG} {s s':T},Raw ns s->(s'=.non\/Raw ns' s')->K [.f s,.f s'] fun x=>x=(.f (j6 s s'),[])
theorem Hq{us:ZT}{n:Int}{Q:Sl->Prop}(q:Q (.f (.bl (!Jq us n)))):on ((Jw .notin (.int n) (.tup (us.map .int))).map fun r=>Sl.f (.bl r)) Q:=a9 q
theorem cn{w:W}(hM:ja (cl w.C "member_of"))(hL:PLf (cl w.C "life_in"))(hT:PTr (cl w.C "is_turned")):PBw (wF Y4 w):=fun {ns ns' s s'} h h'=>by
 refine Zy rfl fun D rt _=>?_;rcases h' with rfl | h'
 .cases h<;>exact rt _ _ rfl
 cases h with
 | @record ps zs hp hz =>
  cases h' with
  | @record qs us hq hu =>
   have ev:j6 (G1 ps zs) (G1 qs us)=To ps qs zs us false:=by
    show To ps qs (zI _) (zI _) false=_;rw[Vj,Vj]
   refine Zh (fun p=>.bl (decide (Z6 qs us (Z0 p) = "none"))) (fun p=>∃s0,p=[s0,.f (G1 qs us)]) ⟨_,rfl⟩ (fun t mt p K hs hk=>?_) fun p hs=>?_
   .obtain⟨s0,rfl⟩:=hs;cases hp.p t mt with | mk hn hx ho hd =>
    refine Uu ?_;refine Zk (hL (.inl ⟨rfl,rfl⟩) (.inl ⟨rfl,rfl⟩) hq.p) fun y ey=>?_;subst ey;exact hk _ ⟨_,rfl⟩
   obtain⟨s0,rfl⟩:=hs;refine A3 ?_;refine Zz (b:=ps.any fun p=>decide (Z6 qs us (Z0 p) = "none")) (fun z=>rt _ _ (by rw[ev];unfold To;rw[if_pos z];rfl)) fun z1=>?_;refine Zh (fun t=>.bl (!Jq us (match t with | .int i=>i | _=>0))) (fun p=>∃s0,p=[s0,.f (G1 qs us)]) ⟨_,rfl⟩ (fun t mt p K hs hk=>?_) fun p hs=>?_
   .obtain⟨s0,rfl⟩:=hs;obtain⟨z,_,rfl⟩:=Gd.mp mt;refine Hq ?_;exact hk _ ⟨_,rfl⟩
   obtain⟨s0,rfl⟩:=hs;refine A3 ?_;rw[List.any_map];refine Zz (b:=zs.any fun z=>!Jq us z) (fun z=>rt _ _ (by rw[ev];unfold To;rw[z1,z];rfl)) fun z2=>?_;refine Zh (fun p=>.bl (D8 qs p)) (fun p=>∃s0,p=[s0,.f (G1 qs us)]) ⟨_,rfl⟩ (fun t mt p K hs hk=>?_) fun p hs=>?_
   .obtain⟨s0,rfl⟩:=hs;have ht:=hp.p t mt;have Kj:=hk [.f t,.f (G1 qs us)] ⟨_,rfl⟩;cases ht with | mk hn hx ho hd =>
    refine Uu ?_;refine Zk (hM hq.p) fun y ey=>?_;subst ey;refine Zk (hT (hp.p _ mt) hq.p) fun y ey=>?_;subst ey;exact Kj
   obtain⟨s0,rfl⟩:=hs;refine A3 ?_;refine Zz (b:=ps.any (D8 qs)) (fun z=>rt _ _ (by rw[ev];unfold To;rw[z1,z2,z];rfl)) fun z3=>rt _ _ (by rw[ev];unfold To;rw[z1,z2,z3];rfl)
  | _=>exact rt _ _ rfl
 | @choice ps zs b hp hz =>
  cases h' with
  | @choice qs us c hq hu =>
   have ev:j6 (Cj ps zs b) (Cj qs us c)=To ps qs zs us (b && !c):=by
    show To ps qs (zI _) (zI _) (b && !c)=_;rw[Vj,Vj]
   refine Zh (fun p=>.bl (decide (Z6 qs us (Z0 p) = "none"))) (fun p=>∃s0,p=[s0,.f (Cj qs us c)]) ⟨_,rfl⟩ (fun t mt p K hs hk=>?_) fun p hs=>?_
   .obtain⟨s0,rfl⟩:=hs;cases hp.p t mt with | mk hn hx ho hd =>
    refine Uu ?_;refine Zk (hL (.inr ⟨rfl,rfl⟩) (.inr ⟨rfl,c,rfl⟩) hq.p) fun y ey=>?_;subst ey;exact hk _ ⟨_,rfl⟩
   obtain⟨s0,rfl⟩:=hs;refine A3 ?_;refine Zz (b:=ps.any fun p=>decide (Z6 qs us (Z0 p) = "none")) (fun z=>rt _ _ (by rw[ev];unfold To;rw[if_pos z];rfl)) fun z1=>?_;refine Zh (fun t=>.bl (!Jq us (match t with | .int i=>i | _=>0))) (fun p=>∃s0,p=[s0,.f (Cj qs us c)]) ⟨_,rfl⟩ (fun t mt p K hs hk=>?_) fun p hs=>?_
   .obtain⟨s0,rfl⟩:=hs;obtain⟨z,_,rfl⟩:=Gd.mp mt;refine Hq ?_;exact hk _ ⟨_,rfl⟩
   obtain⟨s0,rfl⟩:=hs;refine A3 ?_;rw[List.any_map];refine Zz (b:=zs.any fun z=>!Jq us z) (fun z=>rt _ _ (by rw[ev];unfold To;rw[z1,z];rfl)) fun z2=>?_;refine Zh (fun p=>.bl (D8 qs p)) (fun p=>∃s0,p=[s0,.f (Cj qs us c)]) ⟨_,rfl⟩ (fun t mt p K hs hk=>?_) fun p hs=>?_
   .obtain⟨s0,rfl⟩:=hs;have ht:=hp.p t mt;have Kj:=hk [.f t,.f (Cj qs us c)] ⟨_,rfl⟩;cases ht with | mk hn hx ho hd =>
    refine Uu ?_;refine Zk (hM hq.p) fun y ey=>?_;subst ey;refine Zk (hT (hp.p _ mt) hq.p) fun y ey=>?_;subst ey;exact Kj
   obtain⟨s0,rfl⟩:=hs;refine A3 ?_;refine Zz (b:=ps.any (D8 qs)) (fun z=>rt _ _ (by rw[ev];unfold To;rw[z1,z2,z];rfl)) fun z3=>?_;have ev':j6 (Cj ps zs b) (Cj qs us c)=if (b && !c)=true then .str "shut" else .non:=by rw[ev];unfold To;rw[z1,z2,z3];rfl
   rw[ev']at rt;cases b<;>cases c<;>exact rt _ _ rfl
  | _=>exact rt _ _ rfl
 | _=>cases h'<;>exact rt _ _ rfl
end K63
set_option maxHeartbeats 1000000
namespace K63
open PySem PySem.Spec PyProof.Rows L2 PV
def nh(K:Kn):Prop:=∀{root x:Str} {XY:ZX},K [.f (mkT root XY),.f (.str x)] fun y=>y=(.f ((Zv XY (.inr x)).getD .non),[])
theorem du{w:W}:nh (wF Um w):=fun {root x XY}=>by
 refine Zy rfl fun D rt _=>?_;exact rt _ _ rfl
def L9:T->Bool
 | .non=>true
 | _=>false
def T7:ZZ->T
 | []=>.non
 | t::r=>if L9 t=true then T7 r else t
noncomputable def fw(XY Zp:ZX)(x:Str):T:=j6 ((Zv XY (.inr x)).getD .non) ((Zv Zp (.inr x)).getD .non)
theorem zk(ps qs:ZZ)(zs us:ZT)(c:Bool):Wrd (To ps qs zs us c):=by
 unfold To
 split
 .exact .inr ⟨_,rfl⟩
 split
 .exact .inr ⟨_,rfl⟩
 split
 .exact .inr ⟨_,rfl⟩
 split
 .exact .inr ⟨_,rfl⟩
 .exact .inl rfl
theorem Ph(s s':T):Wrd (j6 s s'):=by
 unfold j6
 split
 .split
  .exact zk _ _ _ _ _
  .exact zk _ _ _ _ _
  .exact .inl rfl
 .exact .inr ⟨_,rfl⟩
noncomputable def flw(ns:ZG)(r r':Str)(XY Zp:ZX):T:=if r=r' then T7 ((SRT.Z8 ns).map (fw XY Zp)) else .str "root"
def PCf(K:Kn):Prop:=∀{ns ns':ZG} {r r':Str} {XY Zp:ZX},Mk ns r XY->Mk ns' r' Zp->K [.f (mkT r XY),.f (mkT r' Zp)] fun x=>x=(.f (flw ns r r' XY Zp),[])
theorem qu{w:W}(hF:nh (cl w.C "form_of"))(hB:PBw (cl w.C "break_between")):PCf (wF Y3 w):=fun {ns ns' r r' XY Zp} h h'=>by
 refine Zy rfl fun D rt _=>?_;have l6:=h.l;have pm:=SRT.Z3 ns;refine Zz (b:=!decide (r=r')) (fun z=>rt _ _ (by unfold flw;rw[if_neg (of_decide_eq_false (Xn z))];rfl)) fun z=>?_;have er:flw ns r r' XY Zp=T7 ((SRT.Z8 ns).map (fw XY Zp)):=if_pos (T1 (Rp z));rw[er]at rt;refine Ds h.raw.k (by omega) ?_;refine G0 (fun rest p=>∃(s2 s3:Sl) (ss:ZG),p=[.f (mkT r XY),.f (mkT r' Zp),s2,s3]/\rest=ss.map T.str/\(∀x∈ss,x∈ns)/\T7 ((SRT.Z8 ns).map (fw XY Zp))=T7 (ss.map (fw XY Zp))) ⟨_,_,SRT.Z8 ns,rfl,rfl,fun x m=>pm.mem_iff.mp m,rfl⟩ (fun x rest p D' hi nx rt'=>?_) fun p hi=>?_
 .obtain⟨s2,s3,ss,rfl,e,hs,hf⟩:=hi;cases ss with
  | nil=>cases e
  | cons y ss =>
  cases e;refine Zk hF fun u eu=>?_;subst eu;refine Zk hF fun u eu=>?_;subst eu;obtain⟨s,es,raw⟩:=h.raw.get (hs y Yd)
  have W7:(Zv Zp (.inr y)).getD .non=.non\/Raw ns' ((Zv Zp (.inr y)).getD .non):=by
   cases e:Zv Zp (.inr y) with
   | none=>exact .inl rfl
   | some s'=>exact .inr (h'.raw.r _ (Z1 e))
  refine Zk (hB (ns:=ns) (ns':=ns') (by rw[es];exact raw) W7) fun u eu=>?_;subst eu;have hf:T7 ((SRT.Z8 ns).map (fw XY Zp))=if L9 (fw XY Zp y)=true then T7 (ss.map (fw XY Zp)) else fw XY Zp y:=hf
  have wd:Wrd (fw XY Zp y):=Ph _ _;show wS w _ _ [.f (mkT r XY),.f (mkT r' Zp),.f (.str y),.f (fw XY Zp y)] _;generalize fw XY Zp y=t at hf wd;rcases wd with rfl | ⟨x,rfl⟩
  .exact nx _ ⟨_,_,ss,rfl,rfl,fun x m=>hs x (Vq _ m),hf⟩
  .exact rt' _ _ (rt _ _ (by rw[hf];rfl))
 .obtain⟨s2,s3,ss,rfl,e,hs,hf⟩:=hi;cases ss with
  | nil=>exact rt _ _ (by rw[hf];rfl)
  | cons y ss=>cases e
end K63
set_option maxHeartbeats 1000000
namespace K63
open PySem PySem.Spec PyProof.Rows L2 PV
def PIf(K:Kn):Prop:=∀{root x:Str} {XY:ZX},x.length<=sizeLine->K [.f (mkT root XY),.f (.str x)] (Tl ((Zv XY (.inr x)).isSome=true))
theorem qy{w:W}(hM:Te (cl w.C "is_name")):PIf (wF Ub w):=fun {root x XY} hx=>by
 refine Zy rfl fun D rt _=>?_;refine Yp (hM hx) fun b _=>?_;refine Zz (b:=b) (fun _=>?_) fun _=>rt _ _ .no;exact rt _ _ ⟨_,fun z=>z,rfl⟩
theorem wCompT{body:T->P->(Option T->P->Prop)->Prop}{xs:ZZ}{p:P}{Q:ZZ->P->Prop}(St:P->Prop)(h0:St p)
  (st:∀x∈xs,∀p K,St p->(∀(b:Bool) p',St p'->K (some (.bl b)) p')->body x p K) (q:∀(bs:List Bool) p,St p->Q (bs.map .bl) p):Z7 body xs [] p Q :=
 Mr (fun _=>True) St h0 (fun x m p K hs hk=>st x m p K hs fun b p' T6=>hk b p' (fun _=>trivial) T6) fun bs p _ hs=>q bs p hs
theorem anyQ{bs:List Bool}{Q:Sl->Prop}(q:Q (.f (.bl (bs.any id)))):on ((allB (bs.map .bl)).map fun bs=>Sl.f (.bl (bs.any id))) Q:=Zm (by rw[P1];rfl) q
def PBs(K:Kn):Prop:=∀{ns:ZG} {t x:Str} {b:Bool} {ps r:ZZ} {n:Int},(∀p∈ps,Gr ns b p)->K [.f (.tup (.str t::.tup ps::r)),.f (.int n),.f (.str x)] (Tl True)
theorem jn{w:W}:PBs (wF Ys w):=fun {ns t x b ps r n} hp=>by
 refine Zy rfl fun D rt _=>?_;refine Nk ?_;refine wCompT (fun p=>∃s0,p=[s0,.f (.str x),.f (.int n)]) ⟨_,rfl⟩ (fun u mu p K hs hk=>?_) fun bs p hs=>?_
 .obtain⟨s0,rfl⟩:=hs;cases hp u mu with | @mk m y o ds _ _ _ hd =>
  refine Nk ?_;refine Zz (b:=decide (y=x)) (fun _=>?_) fun _=>hk false _ ⟨_,rfl⟩;refine Uu ?_;exact hk _ _ ⟨_,rfl⟩
 obtain⟨s0,rfl⟩:=hs;refine anyQ ?_;exact rt _ _ ⟨_,fun _=>trivial,rfl⟩
def PNw(K:Kn):Prop:=∀{ns ns':ZG} {s s':T},Raw ns s->Raw ns' s'->Co s=true->tag s ≠ "truth" -> K [.f s,.f s'] (Tl True)
theorem Sv{w:W}:PNw (wF Va w):=fun {ns ns' s s'} h h' hp ht=>by
 refine Zy rfl fun D rt _=>?_;cases h with
 | record _ _=>cases hp
 | choice _ _=>cases hp
 | truth=>exact absurd rfl ht
 | @whole a b=>cases h' with
  | @whole c d=>exact Zz (b:=decide (a<c)) (fun _=>rt _ _ ⟨_,fun _=>trivial,rfl⟩) fun _=>rt _ _ ⟨_,fun _=>trivial,rfl⟩
  | _=>exact rt _ _ ⟨_,fun _=>trivial,rfl⟩
 | text=>cases h'<;>exact rt _ _ ⟨_,fun _=>trivial,rfl⟩
 | @row o n _=>cases h' with
  | @row u m _=>exact Zz (b:=!decide (u=o)) (fun _=>rt _ _ ⟨_,fun _=>trivial,rfl⟩) fun _=>rt _ _ ⟨_,fun _=>trivial,rfl⟩
  | _=>exact rt _ _ ⟨_,fun _=>trivial,rfl⟩
 | @map o n _=>cases h' with
  | @map u m _=>exact Zz (b:=!decide (u=o)) (fun _=>rt _ _ ⟨_,fun _=>trivial,rfl⟩) fun _=>rt _ _ ⟨_,fun _=>trivial,rfl⟩
  | _=>exact rt _ _ ⟨_,fun _=>trivial,rfl⟩
end K63
set_option maxHeartbeats 1000000
namespace K63
open PySem PySem.Spec PyProof.Rows L2 PV
noncomputable def Ta(ps:ZZ):ZX:=ps.map fun p=>(.inl (Z0 p),.str (Ci p))
theorem aj{k:Key}{v:T}:∀{acc:ZX},(∀p∈acc,p.1≠k)->Zo acc k v=acc++[(k,v)]:=fun {acc} h=>by
 unfold Zo;rw[if_neg];rw[ZO];rintro⟨p,m,e⟩;exact h p m (T1 e)
theorem S5:∀{xs acc:ZX},((acc++xs).map (·.1)).Nodup->xs.foldl (fun acc kv=>Zo acc kv.1 kv.2) acc=acc++xs
 | [],acc,_=>by rw[ZE];rfl
 | (k,v)::xs,acc,h=>by
  have e:acc++(k,v)::xs=(acc++[(k,v)])++xs:=by simp
  rw[e]at h ⊢;rw[List.foldl_cons];rw[aj fun p m z=>?_]
  .exact S5 h
  .rw[P9,P9,List.nodup_append]at h;have:=(List.nodup_append.mp h.1).2.2 p.1 (List.mem_map_of_mem m) k (by simp);exact this z
theorem L4:∀ps:ZZ,G5 (ps.map fun p=>.tup [.int (Z0 p),.str (Ci p)])=some (Ta ps)
 | []=>rfl
 | p::ps=>by
  show (G5 (ps.map fun p=>.tup [.int (Z0 p),.str (Ci p)])).map ((.inl (Z0 p),.str (Ci p))::·)=_;rw[L4 ps];rfl
theorem dOf_nd{ps:ZZ}(h:(ps.map Z0).Nodup):((Ta ps).map (·.1)).Nodup:=by
 have e:(Ta ps).map (·.1)=(ps.map Z0).map Sum.inl:=by unfold Ta;rw[List.map_map,List.map_map];rfl
 rw[e];exact List.pairwise_map.mpr (h.imp fun hne z=>hne (Sum.inl.inj z))
theorem dctP{ps:ZZ}{Q:Sl->Prop}(h:(ps.map Z0).Nodup)(q:Q (.o (.dct (Ta ps)))):on (kh [.lst (ps.map fun p=>.tup [.int (Z0 p),.str (Ci p)])]) Q:=by
 refine Zm ?_ q;show (G5 _).map _=_;rw[L4];show some (Sl.o (.dct ((Ta ps).foldl _ [])))=_;exact congrArg (fun k=>some (Sl.o (T.dct k))) ((S5 (xs:=Ta ps) (acc:=[]) (dOf_nd h)).trans (List.nil_append _))
theorem Q4(n:Int):∀ps:ZZ,Zv (Ta ps) (.inl n)=(Y9 ps n).map fun q=>.str (Ci q)
 | []=>rfl
 | p::ps=>by
  by_cases h:Z0 p=n
  .rw[Nr h];unfold Zv Ta;rw[P8,List.find?_cons_of_pos (by simpa using h)];rfl
  .rw[Nh h, <-Q4 n ps];unfold Zv Ta;rw[P8,List.find?_cons_of_neg (by simpa using h)]
theorem Fw{p:T}:∀{ps:ZZ},(ps.map Z0).Nodup->p∈ps->Y9 ps (Z0 p)=some p
 | [],_,m=>absurd m Td
 | q::ps,h,m=>by
  rw[P8,List.nodup_cons]at h;rcases Vt.mp m with rfl | m
  .exact Nr rfl
  .rw[Nh fun e=>h.1 (by rw[e];exact List.mem_map_of_mem m)];exact Fw h.2 m
noncomputable def pick{j:Type}(c:j->Bool)(f:j->T)(a:j):Option T:=if c a=true then some (f a) else none
theorem Uc{j:Type}{c:j->Bool}{f:j->T}:∀xs:List j,decide ((0:Int)<((xs.filterMap (pick c f)).length:Nat))=xs.any c
 | []=>rfl
 | x::xs=>by
  rw[List.any_cons];cases h:c x with
  | true =>
   rw[List.filterMap_cons_some (b:=f x) (by unfold pick;rw[h];rfl)];exact Ml (by rw[Jl];omega)
  | false=>rw[List.filterMap_cons_none (by unfold pick;rw[h];rfl),Uc xs];rfl
theorem Br{body:T->P->(Option T->P->Prop)->Prop}{j:Type}{f:j->T}{xs:List j}{p:P}{Q:ZZ->P->Prop}(c:j->Bool)(St:P->Prop)(h0:St p)(st:∀a∈xs,∀p K,St p->(∀p',St p'->K (pick c f a) p')->body (f a) p K)(q:∀p,St p->Q (xs.filterMap (pick c f)) p):Z7 body (xs.map f) [] p Q:=by
 refine Bs (fun rest acc p=>∃ys zs,xs=ys++zs/\rest=zs.map f/\acc=ys.filterMap (pick c f)/\St p) ⟨[],xs,rfl,rfl,rfl,h0⟩ (fun x r acc p K hi hk hn=>?_) fun acc p hi=>?_
 .obtain⟨ys,zs,e1,e2,rfl,hs⟩:=hi;cases zs with
  | nil=>cases e2
  | cons a zs =>
   cases e2;refine st a (by rw[e1];simp) p K hs fun p' T6=>?_;have e3:xs=(ys++[a])++zs:=by rw[e1];simp
   have e4:(ys++[a]).filterMap (pick c f)=ys.filterMap (pick c f)++[a].filterMap (pick c f):=List.filterMap_append;cases h:c a with
   | true =>
    have e5:pick c f a=some (f a):=by unfold pick;rw[h];rfl
    rw[e5];exact hk _ _ ⟨ys++[a],zs,e3,rfl,by rw[e4,List.filterMap_cons_some (b:=f a) e5];rfl,T6⟩
   | false =>
    have e5:pick c f a=none:=by unfold pick;rw[h];rfl
    rw[e5];exact hn _ ⟨ys++[a],zs,e3,rfl,by rw[e4,List.filterMap_cons_none e5];simp,T6⟩
 .obtain⟨ys,zs,e1,e2,rfl,hs⟩:=hi;cases zs with
  | nil=>rw[ZE]at e1;subst e1;exact q p hs
  | cons _ _=>cases e2
theorem Ob{w:W}{ns:ZG}{k:Bool}{ps:ZZ}(hp:∀p∈ps,Gr ns k p){Q:ZZ->P->Prop}(q:∀s0,Q (ps.map fun p=>.tup [.int (Z0 p),.str (Ci p)]) [s0]) :
  Z7 (fun x s K=>on (asg (.v 0) x s) fun s1=>if isNil .nil=true then wE w.nx (.tup (Zj (Zw (.v 0) (ki 0)) (Zw (.v 0) (ki 2)))) s1 fun r s2=>My r fun y=>K (some y) s2
   else wE w.nx .nil s1 fun r s2=>L5 r fun b=>if b=true then wE w.nx (.tup (Zj (Zw (.v 0) (ki 0)) (Zw (.v 0) (ki 2)))) s2 fun r s3=>My r fun y=>K (some y) s3 else K none s2) ps [] [.no] Q:=by
 refine Zh (fun p=>.tup [.int (Z0 p),.str (Ci p)]) (fun p=>∃s0,p=[s0]) ⟨_,rfl⟩ (fun t mt p K hs hk=>?_) fun p hs=>?_
 .obtain⟨s0,rfl⟩:=hs;cases hp t mt with | mk hn hx ho hd =>
  cases hd<;>exact hk _ ⟨_,rfl⟩
 .obtain⟨s0,rfl⟩:=hs;exact q s0
theorem x6(qs:ZZ)(us:ZT)(n:Int):decide (Z6 qs us n = "none")=!(V1 qs n || Jq us n):=by
 unfold Z6;cases V1 qs n<;>cases Jq us n<;>decide +kernel
def PFw(K:Kn):Prop:=∀{ns ns':ZG} {s s':T},Raw ns s->Bn s->(s'=.non\/(Raw ns' s'/\Bn s'))->K [.f s,.f s'] fun x=>x=(.f (j6 s s'),[])
theorem bp(ps:ZZ):(Ta ps).map (fun p=>Ja p.1)=(ps.map Z0).map .int:=by unfold Ta;rw[List.map_map,List.map_map];rfl
theorem any_hd(qs:ZZ)(us:ZT)(n:Int):(qs.map Z0++us).any (fun z=>decide (z=n))=(V1 qs n || Jq us n):=by rw[List.any_append,List.any_map];rfl
end K63
set_option maxHeartbeats 1000000
namespace K63
open PySem PySem.Spec PyProof.Rows L2 PV
theorem w5{body:T->P->(Option T->P->Prop)->Prop}{xs ys:ZZ}{p:P}{Q:ZZ->P->Prop}(e:xs=ys)(h:Z7 body ys [] p Q):Z7 body xs [] p Q:=by rw[e];exact h
theorem K9{j:Type}{c:j->Bool}{f:j->T}{a:j}(h:c a=false):pick c f a=none:=if_neg (by rw[h];exact fun z=>nomatch z)
theorem Zx4(ps:ZZ):(Ta ps).map (fun p=>Ja p.1)=ps.map fun p=>.int (Z0 p):=by unfold Ta;rw[List.map_map];rfl
theorem gv{qs:ZZ}{us:ZT}{n:Int}{Q:Sl->Prop}(q:Q (.f (.bl (decide (Z6 qs us n = "none"))))):on ((Jw .notin (.int n) (.lst ((Ta qs).map (fun p=>Ja p.1)++us.map .int))).map fun r=>Sl.f (.bl r)) Q:=by
 rw[bp, <-P9];refine notinP ?_;rw[any_hd, <-x6];exact q
theorem ne_tr{p:T}{qs:ZZ}{Q:Sl->Prop}(q:Q (.f (.bl (D8 qs p)))):on ((Jw .ne ((Zv (Ta qs) (.inl (Z0 p))).getD (.str (Ci p))) (.str (Ci p))).map fun r=>Sl.f (.bl r)) Q:=by
 refine Zm (a:=Sl.f (.bl (D8 qs p))) ?_ q;rw[Q4];unfold D8;cases Y9 qs (Z0 p) with
 | none =>
  show some (Sl.f (.bl (!decide (Ci p=Ci p))))=_;rw[Ml rfl];rfl
 | some r=>rfl
section
variable{w:W}{D:En}{ns ns':ZG}{t:Str}{b b':Bool}{ps qs rs rs':ZZ}{zs us:ZT}{c:Bool}
theorem Zqg(hp:∀p∈ps,Gr ns b p)(hq:∀q∈qs,Gr ns' b' q)(m:Mem ps zs)(m':Mem qs us)(i2:∀{Q:Sl->Prop},Q (.f (.tup (zs.map .int)))->on ((Bt (shT t ps zs rs) (.int 2)).map Sl.f) Q)(i2':∀{Q:Sl->Prop},Q (.f (.tup (us.map .int)))->on ((Bt (shT t qs us rs') (.int 2)).map Sl.f) Q)
  (rt:∀r p,on (fin [.f (shT t ps zs rs),.f (shT t qs us rs')] r p) (fun x=>x=(.f (To ps qs zs us c),[]))->D.rt r p) (fi:∀s2 s3,To ps qs zs us c=(if c=true then .str "shut" else .non)->wS w (Yb [.f (shT t ps zs rs),.f (shT t qs us rs')]) (Zr 7 V7) [.f (shT t ps zs rs),.f (shT t qs us rs'),s2,s3] D):wS w (Yb [.f (shT t ps zs rs),.f (shT t qs us rs')]) (Zr 2 V7) [.f (shT t ps zs rs),.f (shT t qs us rs'),.no,.no] D:=by
 have:=sizeLine_eq;have l1:=m.l;have l2:=m'.l;have l3:=m'.sl;refine Nk ?_;refine Ob hp fun s0=>?_;refine dctP m.d ?_;refine Nk ?_;refine Ob hq fun s0=>?_;refine dctP m'.d ?_;refine w5 (Zx4 ps) ?_;refine Br (f:=fun p=>.int (Z0 p)) (xs:=ps) (fun p=>decide (Z6 qs us (Z0 p) = "none")) (fun p=>∃s0,p=[s0,.o (.dct (Ta qs)),.f (shT t qs us rs')]) ⟨_,rfl⟩ (fun a ma p K hs hk=>?_) fun p hs=>?_
 .obtain⟨s0,rfl⟩:=hs;refine i2' ?_;refine Wp (by rw[Za,Za];unfold Ta;rw[Za];omega) ?_;refine gv ?_;have hk:=hk [.f (.int (Z0 a)),.o (.dct (Ta qs)),.f (shT t qs us rs')] ⟨_,rfl⟩;refine Zz (b:=decide (Z6 qs us (Z0 a) = "none")) (fun z=>?_) fun z=>?_
  .rw[show pick (fun p=>decide (Z6 qs us (Z0 p) = "none")) (fun p=>T.int (Z0 p)) a=some (.int (Z0 a)) from if_pos z]at hk;exact hk
  .rw[show pick (fun p=>decide (Z6 qs us (Z0 p) = "none")) (fun p=>T.int (Z0 p)) a=none from K9 z]at hk;exact hk
 obtain⟨s0,rfl⟩:=hs;refine Zz (b:=decide ((0:Int)<_)) (fun z=>?_) fun z1=>?_
 .rw[Uc]at z;exact rt _ _ (by unfold To;rw[if_pos z];rfl)
 rw[Uc]at z1;refine i2 ?_;refine Br (f:=T.int) (xs:=zs) (fun z=>!Jq us z) (fun p=>∃s0,p=[s0,.f (shT t qs us rs')]) ⟨_,rfl⟩ (fun a ma p K hs hk=>?_) fun p hs=>?_
 .obtain⟨s0,rfl⟩:=hs;refine i2' ?_;refine Hq ?_;have hk:=hk [.f (.int a),.f (shT t qs us rs')] ⟨_,rfl⟩;refine Zz (b:=!Jq us a) (fun z=>?_) fun z=>?_
  .rw[show pick (fun z=>!Jq us z) T.int a=some (.int a) from if_pos z]at hk;exact hk
  .rw[show pick (fun z=>!Jq us z) T.int a=none from K9 z]at hk;exact hk
 obtain⟨s0,rfl⟩:=hs;refine Zz (b:=decide ((0:Int)<_)) (fun z=>?_) fun z2=>?_
 .rw[Uc]at z;exact rt _ _ (by unfold To;rw[z1,z];rfl)
 rw[Uc]at z2;refine w5 (Zx4 ps) ?_;refine Br (f:=fun p=>.int (Z0 p)) (xs:=ps) (D8 qs) (fun p=>∃s0,p=[s0,.f (.dct (Ta ps)),.o (.dct (Ta qs))]) ⟨_,rfl⟩ (fun a ma p K hs hk=>?_) fun p hs=>?_
 .obtain⟨s0,rfl⟩:=hs;have e:Zv (Ta ps) (.inl (Z0 a))=some (.str (Ci a)):=by rw[Q4,Fw m.d ma];rfl
  refine Zm (a:=Sl.f (.str (Ci a))) (by show (Zv (Ta ps) (.inl (Z0 a))).map _=_;rw[e];rfl) ?_;refine Zm (a:=Sl.f (.str (Ci a))) (by show (Zv (Ta ps) (.inl (Z0 a))).map _=_;rw[e];rfl) ?_;refine ne_tr ?_;have hk:=hk [.f (.int (Z0 a)),.f (.dct (Ta ps)),.o (.dct (Ta qs))] ⟨_,rfl⟩;refine Zz (b:=D8 qs a) (fun z=>?_) fun z=>?_
  .rw[show pick (D8 qs) (fun p=>T.int (Z0 p)) a=some (.int (Z0 a)) from if_pos z]at hk;exact hk
  .rw[show pick (D8 qs) (fun p=>T.int (Z0 p)) a=none from K9 z]at hk;exact hk
 obtain⟨s0,rfl⟩:=hs;refine Zz (b:=decide ((0:Int)<_)) (fun z=>?_) fun z3=>?_
 .rw[Uc]at z;exact rt _ _ (by unfold To;rw[z1,z2,z];rfl)
 rw[Uc]at z3;exact fi _ _ (by unfold To;rw[z1,z2,z3];rfl)
end
theorem Bn.mem{ps:ZZ}{zs:ZT}(h:Bn (G1 ps zs)):Mem ps zs:=by
 obtain⟨s,e⟩:∃s,s=G1 ps zs:=⟨_,rfl⟩;rw[<-e]at h;cases h with
 | @record qs us hm =>
  injection e with e;injection e with _ e;injection e with e1 e;injection e1 with e1;injection e with e2 _;injection e2 with e2
  have:us=zs:=by
   have:=congrArg zI e2;rw[Vj,Vj]at this;exact this
  subst e1 this;exact hm
 | _=>cases e
theorem Bn.memC{ps:ZZ}{zs:ZT}{b:Bool}(h:Bn (Cj ps zs b)):Mem ps zs:=by
 obtain⟨s,e⟩:∃s,s=Cj ps zs b:=⟨_,rfl⟩;rw[<-e]at h;cases h with
 | @choice qs us c hm =>
  injection e with e;injection e with _ e;injection e with e1 e;injection e1 with e1;injection e with e2 _;injection e2 with e2
  have:us=zs:=by
   have:=congrArg zI e2;rw[Vj,Vj]at this;exact this
  subst e1 this;exact hm
 | _=>cases e
theorem dv{w:W}:PFw (wF Y0 w):=fun {ns ns' s s'} h ok h'=>by
 refine Zy rfl fun D rt _=>?_;rcases h' with rfl | ⟨h',ok'⟩
 .cases h<;>exact rt _ _ rfl
 cases h with
 | @record ps zs hp hz =>
  cases h' with
  | @record qs us hq hu =>
   have ev:j6 (G1 ps zs) (G1 qs us)=To ps qs zs us false:=by
    show To ps qs (zI _) (zI _) false=_;rw[Vj,Vj]
   rw[ev]at rt;exact Zqg (t:="record") (rs:=[]) (rs':=[]) (c:=false) hp.p hq.p ok.mem ok'.mem (fun q=>q) (fun q=>q) rt fun s2 s3 e=>rt _ _ (by rw[e];rfl)
  | _=>exact rt _ _ rfl
 | @choice ps zs b hp hz =>
  cases h' with
  | @choice qs us c hq hu =>
   have ev:j6 (Cj ps zs b) (Cj qs us c)=To ps qs zs us (b && !c):=by
    show To ps qs (zI _) (zI _) (b && !c)=_;rw[Vj,Vj]
   rw[ev]at rt;refine Zqg (t:="choice") (rs:=[.bl b]) (rs':=[.bl c]) (c:=b && !c) hp.p hq.p ok.memC ok'.memC (fun q=>q) (fun q=>q) rt fun s2 s3 e=>?_;rw[e]at rt;cases b<;>cases c<;>exact rt _ _ rfl
  | _=>exact rt _ _ rfl
 | _=>cases h'<;>exact rt _ _ rfl
end K63
set_option maxHeartbeats 1000000
namespace K63
open PySem PySem.Spec PyProof.Rows L2 PV
def tl(t:T):Option T:=if L9 t=true then none else some t
theorem X6:∀xs:ZZ,(∀t∈xs,Wrd t)->T7 xs=((xs.filterMap tl).head?).getD .non
 | [],_=>rfl
 | t::r,h=>by
  rcases h t Yd with rfl | ⟨x,rfl⟩
  .exact X6 r fun u m=>h u (Vq _ m)
  .rfl
noncomputable def fwT(XY Zp:ZX):T->T
 | .str x=>fw XY Zp x
 | _=>.non
theorem gt0{t:T}{r:ZZ}:decide ((0:Int)<((t::r).length:Nat))=true:=Ml (by rw[Jl];omega)
theorem Ht{w:W}(hW:PFw (cl w.C "_law_form_word")):PCf (wF Yk w):=fun {ns ns' r r' XY Zp} h h'=>by
 refine Zy rfl fun D rt _=>?_;have l6:=h.l;have pm:=SRT.Z3 ns;refine Zz (b:=!decide (r=r')) (fun z=>rt _ _ (by unfold flw;rw[if_neg (of_decide_eq_false (Xn z))];rfl)) fun z=>?_;have er:flw ns r r' XY Zp=T7 ((SRT.Z8 ns).map (fw XY Zp)):=if_pos (T1 (Rp z));rw[er]at rt;refine Ds h.raw.k (by omega) ?_;refine Zh (fwT XY Zp) (fun p=>∃s0,p=[s0,.f (mkT r XY),.f (mkT r' Zp)]) ⟨_,rfl⟩ (fun t mt p K hs hk=>?_) fun p hs=>?_
 .obtain⟨s0,rfl⟩:=hs;obtain⟨y,my,rfl⟩:=Gd.mp mt;obtain⟨s,es,raw⟩:=h.raw.get (pm.mem_iff.mp my);have ok:Bn s:=h.ok _ (Z1 es)
  have W7:(Zv Zp (.inr y)).getD .non=.non\/(Raw ns' ((Zv Zp (.inr y)).getD .non)/\Bn ((Zv Zp (.inr y)).getD .non)):=by
   cases e:Zv Zp (.inr y) with
   | none=>exact .inl rfl
   | some s'=>exact .inr ⟨h'.raw.r _ (Z1 e),h'.ok _ (Z1 e)⟩
  have hk:=hk [.f (.str y),.f (mkT r XY),.f (mkT r' Zp)] ⟨_,rfl⟩
  have ef:fwT XY Zp (.str y)=j6 s ((Zv Zp (.inr y)).getD .non):=by
   show j6 ((Zv XY (.inr y)).getD .non) _=_;rw[es];rfl
  rw[ef]at hk;refine Hh es ?_;refine Zk (hW (ns:=ns) (ns':=ns') raw ok W7) fun u eu=>?_;subst eu;exact hk
 obtain⟨s0,rfl⟩:=hs
 have wd:∀t∈((SRT.Z8 ns).map .str).map (fwT XY Zp),Wrd t:=fun t m=>by
  obtain⟨u,mu,rfl⟩:=Gd.mp m;obtain⟨y,_,rfl⟩:=Gd.mp mu;exact Ph _ _
 have ex:T7 ((SRT.Z8 ns).map (fw XY Zp))=T7 (((SRT.Z8 ns).map .str).map (fwT XY Zp)):=by rw[List.map_map];rfl
 rw[ex,X6 _ wd]at rt;refine w4 tl (fun p=>∃s0,p=[s0]) ⟨_,rfl⟩ (fun t mt p K hs hk=>?_) fun p hs=>?_
 .obtain⟨s0,rfl⟩:=hs;have hk:=hk [.f t] ⟨_,rfl⟩;rcases wd t mt with rfl | ⟨x,rfl⟩
  .exact hk
  .exact hk
 obtain⟨s0,rfl⟩:=hs;generalize (((SRT.Z8 ns).map T.str).map (fwT XY Zp)).filterMap tl=ys at rt;cases ys with
 | nil=>exact rt _ _ rfl
 | cons a ys =>
  refine Zz (b:=decide ((0:Int)<((a::ys).length:Nat))) (fun _=>?_) fun z=>?_
  .refine ixP (Int.le_refl 0) (T1 gt0) fun x ex _=>?_;cases ex;exact rt _ _ rfl
  .rw[gt0]at z;cases z
theorem Zzt(ns:ZG)(r r':Str)(XY Zp:ZX):Wrd (flw ns r r' XY Zp):=by
 unfold flw
 split
 .generalize SRT.Z8 ns=xs
  induction xs with
  | nil=>exact .inl rfl
  | cons x xs ih =>
   show Wrd (if L9 (fw XY Zp x)=true then T7 (xs.map (fw XY Zp)) else fw XY Zp x)
   split
   .exact ih
   .exact Ph _ _
 .exact .inr ⟨_,rfl⟩
end K63
set_option maxHeartbeats 1000000
namespace K63
open PySem PySem.Spec PyProof.Rows L2 PV
noncomputable def NEW:ZG:=["new","newer","a"]
noncomputable def OWN:ZG:=["own","owner","a"]
inductive Dd(ns:ZG)(XY:ZX):T->Prop
 | form{x:Str}{s:T}(hx:x∈NEW)(hs:Raw (ns++[x]) s):Dd ns XY (.tup [.str "form",.str x,s])
 | widen {x:Str} {s s':T} (mx:x∈ns) (e:Zv XY (.inr x)=some s) (raw:Raw ns s) (hp:Co s=true) (W7:Raw ns s') (hp':Co s'=true):Dd ns XY (.tup [.str "widen",.str x,s'])
 | strike {x t:Str} {b:Bool} {ps rs:ZZ} {zs:ZT} {n:Int} (mx:x∈ns) (e:Zv XY (.inr x)=some (shT t ps zs rs)) (g:E9 ns XY t b ps zs rs):Dd ns XY (.tup [.str "strike",.str x,.int n])
 | rename {x t m:Str} {b:Bool} {ps rs:ZZ} {zs:ZT} {n:Int} (mx:x∈ns) (e:Zv XY (.inr x)=some (shT t ps zs rs)) (g:E9 ns XY t b ps zs rs) (hm:m∈OWN):Dd ns XY (.tup [.str "rename",.str x,.int n,.str m])
 | opn {x t:Str} {b:Bool} {ps rs:ZZ} {zs:ZT} (mx:x∈ns) (e:Zv XY (.inr x)=some (shT t ps zs rs)) (g:E9 ns XY t b ps zs rs):Dd ns XY (.tup [.str "open",.str x])
 | add {x:Str} {p:T} {ps:ZZ} {zs:ZT} (mx:x∈ns) (e:Zv XY (.inr x)=some (shT "record" ps zs [])) (g:E9 ns XY "record" true ps zs []) (hp:Gr ns true p):Dd ns XY (.tup [.str "add",.str x,p])
 | arm {x:Str} {p:T} {ps:ZZ} {zs:ZT} {c:Bool} (mx:x∈ns) (e:Zv XY (.inr x)=some (shT "choice" ps zs [.bl c])) (g:E9 ns XY "choice" false ps zs [.bl c]) (hp:Gr ns false p):Dd ns XY (.tup [.str "arm",.str x,p])
def PId(K:Kn):Prop:=∀{ns:ZG} {XY:ZX} {d:T},Dd ns XY d->K [.f d] fun x=>x=(.f (.bl true),[])
theorem qk{w:W}:PId (wF D2 w):=fun {ns XY d} h=>by
 cases h with
 | form=>refine Zy rfl fun D rt _=>?_;exact rt _ _ rfl
 | widen=>refine Zy rfl fun D rt _=>?_;exact rt _ _ rfl
 | strike=>refine Zy rfl fun D rt _=>?_;exact rt _ _ rfl
 | rename=>refine Zy rfl fun D rt _=>?_;exact rt _ _ rfl
 | opn=>refine Zy rfl fun D rt _=>?_;exact rt _ _ rfl
 | add=>refine Zy rfl fun D rt _=>?_;exact rt _ _ rfl
 | arm=>refine Zy rfl fun D rt _=>?_;exact rt _ _ rfl
def Zxv(K:Kn):Prop:=∀{x:Str},x∈NEW->K [.f (.str x)] fun y=>y=(.f (.bl true),[])
theorem Hw:∀x∈NEW,Sm x:=fun x m=>by
 have h:∀x∈NEW,x.length<=8/\∀c∈x.cps.toList,c<16 ^ 8:=by decide
 exact⟨(h x m).1,(h x m).2⟩
theorem k6:∀x∈OWN,Sm x:=fun x m=>by
 have h:∀x∈OWN,x.length<=8/\∀c∈x.cps.toList,c<16 ^ 8:=by decide
 exact⟨(h x m).1,(h x m).2⟩
theorem Hv{w:W}(g:GL w.gl):Zxv (wF Ug w):=fun {x} m=>by
 have h1:∀x∈NEW,(decide (1<=(x.length:Int)) && decide ((x.length:Int)<=8))=true/\((x.cps.toList.map fun c=>T.str ⟨#[c]⟩).all fun t=>(Kq t (.str LET)).getD false)=true:=by decide +kernel
 have h2:=h1 x m;have hz:=(Hw x m).z;refine Zy rfl fun D rt _=>?_;refine lenP hz ?_;refine qh g.ln ?_;refine c2P ?_;refine Zz (b:=!(decide (1<=(x.length:Int)) && decide ((x.length:Int)<=8))) (fun z=>?_) fun _=>?_
 .rw[h2.1]at z;cases z
 refine wi hz ?_;refine Bp g.le hz fun p=>?_;refine A4 ?_;exact rt _ _ (by rw[h2.2];rfl)
def PIfN(K:Kn):Prop:=∀{root x:Str} {XY:ZX},x∈NEW->K [.f (mkT root XY),.f (.str x)] fun y=>y=(.f (.bl (Zv XY (.inr x)).isSome),[])
theorem Ha{w:W}(hM:Zxv (cl w.C "is_name")):PIfN (wF Ub w):=fun {root x XY} hx=>by
 refine Zy rfl fun D rt _=>?_;refine Zk (hM hx) fun y ey=>?_;subst ey;exact rt _ _ rfl
def Flt(P:Prop)(x:Sl×ZZ):Prop:=(∃z,x=(.f (.str z),[]))\/(x=(.f .non,[])/\P)
theorem Flt.s{P:Prop}{z:Str}:Flt P (.f (.str z),[]):=.inl ⟨z,rfl⟩
theorem Flt.n{P:Prop}(h:P):Flt P (.f .non,[]):=.inr ⟨rfl,h⟩
def PFf(K:Kn):Prop:=∀{ns:ZG} {root x:Str} {XY:ZX} {s:T},(∀y∈ns,Sm y)->x∈NEW->Raw ns s->K [.f (mkT root XY),.f (.tup [.str "form",.str x,s])] (Flt (Zv XY (.inr x)=none))
theorem Pg{w:W}(hM:Zxv (cl w.C "is_name"))(hI:PIfN (cl w.C "is_form"))(hS:ny (cl w.C "is_shape")):PFf (wF Y2 w):=fun {ns root x XY s} sm hx hs=>by
 refine Zy rfl fun D rt _=>?_;refine Zk (hM hx) fun y ey=>?_;subst ey;refine Zk (hI hx) fun y ey=>?_;subst ey;refine Zz (b:=(Zv XY (.inr x)).isSome) (fun _=>rt _ _ .s) fun z=>?_;refine Yp (hS sm hs) fun b _=>?_;refine Zz (b:=b) (fun _=>rt _ _ (.n ?_)) fun _=>rt _ _ .s;cases e:Zv XY (.inr x) with
 | none=>rfl
 | some t=>rw[e]at z;cases z
def oq(d:T):Prop:=∀x s,d≠.tup [.str "form",.str x,s]
abbrev ArmT(t:T):Prop:=∃n x o,Sm x/\o.length<=sizeLine/\t=.tup [.int n,.str x,.str o]
abbrev FldT(t:T):Prop:=∃n x o ds,Sm x/\o.length<=sizeLine/\t=.tup [.int n,.str x,.str o,.tup ds]
theorem af{ns:ZG}{p:T}(sm:∀y∈ns,Sm y)(h:Gr ns false p):ArmT p:=by
 cases h with | mk hn hx ho hd=>cases hd;exact⟨_,_,_,hx,(sm _ ho).z,rfl⟩
theorem ak{ns:ZG}{p:T}(sm:∀y∈ns,Sm y)(h:Gr ns true p):FldT p:=by
 cases h with | mk hn hx ho hd=>cases hd;exact⟨_,_,_,_,hx,(sm _ ho).z,rfl⟩
def PTh(K:Kn):Prop:=∀{ns:ZG} {XY:ZX} {d:T},(∀y∈ns,Sm y)->Dd ns XY d->oq d->K [.f d] (Tl True)
theorem va{w:W}(hF:Mn (cl w.C "is_field") FldT)(hN:ng (cl w.C "is_number"))(hM:Te (cl w.C "is_name"))(hS:ny (cl w.C "is_shape"))(hA:Mn (cl w.C "is_arm") ArmT):PTh (wF Vf w):=fun {ns XY d} sm h nf=>by
 cases h with
 | form=>exact absurd rfl (nf _ _)
 | widen mx e raw hp W7 hp' =>
  refine Zy rfl fun D rt _=>?_;refine Yp (hS sm W7) fun b _=>?_;exact rt _ _ ⟨b,fun _=>trivial,rfl⟩
 | strike =>
  refine Zy rfl fun D rt _=>?_;refine Yp hN fun b _=>?_;exact rt _ _ ⟨b,fun _=>trivial,rfl⟩
 | rename mx e g hm =>
  refine Zy rfl fun D rt _=>?_;refine Yp hN fun b _=>?_;refine Zz (b:=b) (fun _=>?_) fun _=>rt _ _ .no;refine Yp (hM (k6 _ hm).z) fun b _=>?_;exact rt _ _ ⟨b,fun _=>trivial,rfl⟩
 | opn =>
  refine Zy rfl fun D rt _=>?_;exact rt _ _ ⟨true,fun _=>trivial,rfl⟩
 | add mx e g hp =>
  refine Zy rfl fun D rt _=>?_;refine Yp (hF (ak sm hp)) fun b _=>?_;exact rt _ _ ⟨b,fun _=>trivial,rfl⟩
 | arm mx e g hp =>
  refine Zy rfl fun D rt _=>?_;refine Yp (hA (af sm hp)) fun b _=>?_;exact rt _ _ ⟨b,fun _=>trivial,rfl⟩
def PMl(K:Kn):Prop:=∀{ns:ZG} {p:T},Gr ns true p->K [.f p] (Tl True)
theorem ig{w:W}:PMl (wF Yv w):=fun {ns p} h=>by
 cases h with | mk hn hx ho hd =>
 cases hd with | fld hd =>
 refine Zy rfl fun D rt _=>?_;exact rt _ _ ⟨_,fun _=>trivial,rfl⟩
end K63
set_option maxHeartbeats 1000000
namespace K63
open PySem PySem.Spec PyProof.Rows L2 PV
def okD(XY:ZX):T->Prop
 | .tup [.str w,.str x,p]=>(w = "form" -> Zv XY (.inr x)=none)/\((w = "add" \/ w = "arm")->∀t ps zs rs,Zv XY (.inr x)=some (shT t ps zs rs)->Y9 ps (Z0 p)=none)
 | .tup [_,.str x]=>∀t ps zs rs,Zv XY (.inr x)=some (shT t ps zs rs)->t ≠ "record"
 | _=>True
theorem ok3{XY:ZX}{w x:Str}{p:T}(h1:w ≠ "form" := by decide)(h2:¬ (w = "add" \/ w = "arm"):=by decide):okD XY (.tup [.str w,.str x,p]):=⟨fun z=>absurd z h1,fun z=>absurd z h2⟩
def PFm(K:Kn):Prop:=∀{ns:ZG} {XY:ZX} {d s:T} {x:Str} {r:ZZ} {w:Str},Dd ns XY d->d=.tup (.str w::.str x::r)->Zv XY (.inr x)=some s->w∈(["strike","rename","add","arm"]:ZG)->K [.f s,.f d] (Flt (okD XY d))
theorem b9{ns:ZG}{k:Bool}{qs:ZZ}{n:Int}{Q:Sl->Prop}(h:∀q∈qs,Gr ns k q)(q:Q (.f (.bl (!V1 qs n)))):on ((Jw .is ((Y9 qs n).getD .non) .non).map fun r=>Sl.f (.bl r)) Q:=by
 refine Zm (a:=Sl.f (.bl (!V1 qs n))) ?_ q;rw[<-Np];cases e:Y9 qs n with
 | none=>rfl
 | some q=>cases h q (List.mem_of_find?_eq_some e) with | mk _ _ _ _=>rfl
theorem has_none{qs:ZZ}{n:Int}(h:V1 qs n=false):Y9 qs n=none:=by
 rw[<-Np]at h;cases e:Y9 qs n with
 | none=>rfl
 | some q=>rw[e]at h;cases h
theorem Hg{w:W}(hM:ja (cl w.C "member_of"))(hB:PBs (cl w.C "is_name_beside"))(hL:PMl (cl w.C "may_be_left_out")):PFm (wF Yf w):=fun {ns XY d s x r wd} h ed es mw=>by
 cases h with
 | form=>cases ed;exact absurd mw (by decide)
 | widen=>cases ed;exact absurd mw (by decide)
 | opn=>cases ed;exact absurd mw (by decide)
 | strike mx e g =>
  cases ed;rw[e]at es;cases es;refine Zy rfl fun D rt _=>?_;refine Zk (hM g.p.p) fun y ey=>?_;subst ey;refine b9 g.p.p ?_;refine Zz (b:=!V1 _ _) (fun _=>rt _ _ .s) fun _=>?_;exact rt _ _ (.n ok3)
 | rename mx e g hm =>
  cases ed;rw[e]at es;cases es;refine Zy rfl fun D rt _=>?_;refine Zk (hM g.p.p) fun y ey=>?_;subst ey;refine b9 g.p.p ?_;refine Zz (b:=!V1 _ _) (fun _=>rt _ _ .s) fun _=>?_;refine Yp (hB g.p.p) fun b _=>?_;refine Zz (b:=b) (fun _=>rt _ _ .s) fun _=>?_;exact rt _ _ (.n trivial)
 | @add x p ps zs mx e g hp =>
  cases ed;rw[e]at es;cases es;have ok:V1 ps (Z0 p)=false->okD XY (.tup [.str "add",.str x,p]):=fun z=>⟨fun z=>absurd z (by decide),fun _ t ay n8 rs' e'=>by rw[e]at e';injection e' with e';injection e' with e';injection e' with _ e';injection e' with e1 _;injection e1 with e1;subst e1;exact has_none z⟩;have hl:=@hL ns p hp;cases hp with | @mk n y o ds hn hy ho hd =>
  refine Zy rfl fun D rt _=>?_;refine Uu ?_;refine Zk (hM g.p.p) fun y ey=>?_;subst ey;refine Zm (a:=Sl.f (.bl (V1 ps n))) (by show (Jw _ _ _).map _=_;rw[Ra g.p.p];rfl) ?_;refine Zz (b:=V1 ps n) (fun _=>rt _ _ .s) fun z=>?_;refine inZ ?_;refine Zz (b:=Jq zs n) (fun _=>rt _ _ .s) fun _=>?_;refine Nk ?_;refine Yp (hB (b:=true) (r:=[.tup (zs.map .int)]) g.p.p) fun b _=>?_;refine Zz (b:=b) (fun _=>rt _ _ .s) fun _=>?_;refine Yp hl fun b _=>?_;refine Zz (b:=!b) (fun _=>rt _ _ .s) fun _=>?_;exact rt _ _ (.n (ok z))
 | @arm x p ps zs c mx e g hp =>
  cases ed;rw[e]at es;cases es;have ok:V1 ps (Z0 p)=false->okD XY (.tup [.str "arm",.str x,p]):=fun z=>⟨fun z=>absurd z (by decide),fun _ t ay n8 rs' e'=>by rw[e]at e';injection e' with e';injection e' with e';injection e' with _ e';injection e' with e1 _;injection e1 with e1;subst e1;exact has_none z⟩;cases hp with | @mk n y o ds hn hy ho hd =>
  refine Zy rfl fun D rt _=>?_;refine Uu ?_;refine Zk (hM g.p.p) fun y ey=>?_;subst ey;refine Zm (a:=Sl.f (.bl (V1 ps n))) (by show (Jw _ _ _).map _=_;rw[Ra g.p.p];rfl) ?_;refine Zz (b:=V1 ps n) (fun _=>rt _ _ .s) fun z=>?_;refine inZ ?_;refine Zz (b:=Jq zs n) (fun _=>rt _ _ .s) fun _=>?_;refine Nk ?_;refine Yp (hB (b:=false) (r:=[.tup (zs.map .int),.bl c]) g.p.p) fun b _=>?_;refine Zz (b:=b) (fun _=>rt _ _ .s) fun _=>?_;exact rt _ _ (.n (ok z))
def PFt(K:Kn):Prop:=∀{ns:ZG} {root:Str} {XY:ZX} {d:T},(∀y∈ns,Sm y)->Dd ns XY d->K [.f (mkT root XY),.f d] (Flt (okD XY d))
theorem Hr{ns:ZG}{XY:ZX}{t:Str}{b:Bool}{ps rs:ZZ}{zs:ZT}(g:E9 ns XY t b ps zs rs):t = "record" \/ t = "choice" := g.kd.imp (·.1) (·.1)
theorem td{w:W}(hD:PId (cl w.C "is_deed"))(hFf:PFf (cl w.C "fault_of_form"))(hI:PIf (cl w.C "is_form"))(hFo:nr (cl w.C "form_of"))(hT:PTh (cl w.C "is_thing_for"))(hN:PNw (cl w.C "is_narrower"))(hM:PFm (cl w.C "fault_of_member")):PFt (wF Gb w):=fun {ns root XY d} sm h=>by
 have h0:=h;cases h with
 | @form x s hx hs =>
  refine Zy rfl fun D rt _=>?_;refine Zk (hD h0) fun y ey=>?_;subst ey;refine Zk (hFf (ns:=ns++[x]) (fun y m=>by rcases Cd.mp m with m | m;exact sm y m;cases V8.mp m;exact Hw _ hx) hx hs) fun y hy=>?_;rcases hy with ⟨z,rfl⟩ | ⟨rfl,hn⟩
  .exact rt _ _ .s
  .exact rt _ _ (.n ⟨fun _=>hn,fun z=>absurd z (by decide)⟩)
 | @widen x s s' mx e raw hp W7 hp' =>
  refine Zy rfl fun D rt _=>?_;refine Zk (hD h0) fun y ey=>?_;subst ey;refine Yp (hI (sm _ mx).z) fun b _=>?_;refine Zz (b:=!b) (fun _=>rt _ _ .s) fun _=>?_;refine Zk (hFo e) fun y ey=>?_;subst ey;have j3:=hT sm h0 fun _ _ z=>by cases z
  have hN':=@hN ns ns s s' raw W7 hp;cases raw with
  | record _ _=>cases hp
  | choice _ _=>cases hp
  | truth=>exact rt _ _ .s
  | whole =>
   refine Yp j3 fun b _=>?_;refine Zz (b:=!b) (fun _=>rt _ _ .s) fun _=>?_;refine Yp (hN' (show ("whole" : Str) ≠ "truth" by decide)) fun b _=>?_;refine Zz (b:=b) (fun _=>rt _ _ .s) fun _=>?_;exact rt _ _ (.n ok3)
  | text =>
   refine Yp j3 fun b _=>?_;refine Zz (b:=!b) (fun _=>rt _ _ .s) fun _=>?_;refine Yp (hN' (show ("text" : Str) ≠ "truth" by decide)) fun b _=>?_;refine Zz (b:=b) (fun _=>rt _ _ .s) fun _=>?_;exact rt _ _ (.n ok3)
  | row =>
   refine Yp j3 fun b _=>?_;refine Zz (b:=!b) (fun _=>rt _ _ .s) fun _=>?_;refine Yp (hN' (show ("row" : Str) ≠ "truth" by decide)) fun b _=>?_;refine Zz (b:=b) (fun _=>rt _ _ .s) fun _=>?_;exact rt _ _ (.n ok3)
  | map =>
   refine Yp j3 fun b _=>?_;refine Zz (b:=!b) (fun _=>rt _ _ .s) fun _=>?_;refine Yp (hN' (show ("map" : Str) ≠ "truth" by decide)) fun b _=>?_;refine Zz (b:=b) (fun _=>rt _ _ .s) fun _=>?_;exact rt _ _ (.n ok3)
 | strike mx e g =>
  refine Zy rfl fun D rt _=>?_;refine Zk (hD h0) fun y ey=>?_;subst ey;refine Yp (hI (sm _ mx).z) fun b _=>?_;refine Zz (b:=!b) (fun _=>rt _ _ .s) fun _=>?_;refine Zk (hFo e) fun y ey=>?_;subst ey;have j3:=hT sm h0 fun _ _ z=>by cases z
  have hM':=hM h0 rfl e (by decide);rcases Hr g with rfl | rfl
  all_goals
   refine Uu ?_;refine Yp j3 fun b _=>?_;refine Zz (b:=!b) (fun _=>rt _ _ .s) fun _=>?_;refine Zk hM' fun y hy=>?_;rcases hy with ⟨z,rfl⟩ | ⟨rfl,hn⟩
   .exact rt _ _ .s
   .exact rt _ _ (.n hn)
 | rename mx e g hm =>
  refine Zy rfl fun D rt _=>?_;refine Zk (hD h0) fun y ey=>?_;subst ey;refine Yp (hI (sm _ mx).z) fun b _=>?_;refine Zz (b:=!b) (fun _=>rt _ _ .s) fun _=>?_;refine Zk (hFo e) fun y ey=>?_;subst ey;have j3:=hT sm h0 fun _ _ z=>by cases z
  have hM':=hM h0 rfl e (by decide);rcases Hr g with rfl | rfl
  all_goals
   refine Uu ?_;refine Yp j3 fun b _=>?_;refine Zz (b:=!b) (fun _=>rt _ _ .s) fun _=>?_;refine Zk hM' fun y hy=>?_;rcases hy with ⟨z,rfl⟩ | ⟨rfl,hn⟩
   .exact rt _ _ .s
   .exact rt _ _ (.n hn)
 | opn mx e g =>
  refine Zy rfl fun D rt _=>?_;refine Zk (hD h0) fun y ey=>?_;subst ey;refine Yp (hI (sm _ mx).z) fun b _=>?_;refine Zz (b:=!b) (fun _=>rt _ _ .s) fun _=>?_;refine Zk (hFo e) fun y ey=>?_;subst ey;have j3:=hT sm h0 fun _ _ z=>by cases z
  rcases Hr g with rfl | rfl
  .refine Uu ?_;exact rt _ _ .s
  .refine Uu ?_;refine Yp j3 fun b _=>?_;refine Zz (b:=!b) (fun _=>rt _ _ .s) fun _=>?_;exact rt _ _ (.n fun t ps zs rs e'=>by rw[e]at e';injection e' with e';injection e' with e';injection e' with e' _;injection e' with e';subst e';decide)
 | add mx e g hp =>
  refine Zy rfl fun D rt _=>?_;refine Zk (hD h0) fun y ey=>?_;subst ey;refine Yp (hI (sm _ mx).z) fun b _=>?_;refine Zz (b:=!b) (fun _=>rt _ _ .s) fun _=>?_;refine Zk (hFo e) fun y ey=>?_;subst ey;refine Yp (hT sm h0 fun _ _ z=>by cases z) fun b _=>?_;refine Zz (b:=!b) (fun _=>rt _ _ .s) fun _=>?_;refine Zk (hM h0 rfl e (by decide)) fun y hy=>?_;rcases hy with ⟨z,rfl⟩ | ⟨rfl,hn⟩
  .exact rt _ _ .s
  .exact rt _ _ (.n hn)
 | arm mx e g hp =>
  refine Zy rfl fun D rt _=>?_;refine Zk (hD h0) fun y ey=>?_;subst ey;refine Yp (hI (sm _ mx).z) fun b _=>?_;refine Zz (b:=!b) (fun _=>rt _ _ .s) fun _=>?_;refine Zk (hFo e) fun y ey=>?_;subst ey;refine Yp (hT sm h0 fun _ _ z=>by cases z) fun b _=>?_;refine Zz (b:=!b) (fun _=>rt _ _ .s) fun _=>?_;refine Zk (hM h0 rfl e (by decide)) fun y hy=>?_;rcases hy with ⟨z,rfl⟩ | ⟨rfl,hn⟩
  .exact rt _ _ .s
  .exact rt _ _ (.n hn)
end K63
set_option maxHeartbeats 1000000
namespace K63
open PySem PySem.Spec PyProof.Rows L2 PV
theorem Fx{ns:ZG}{b:Bool}:∀{ms:ZZ},(∀p∈ms,Gr ns b p)->Dy ms=some (ms.map Z0)
 | [],_=>rfl
 | p::ms,h=>by
  cases h p Yd with | mk hn hx ho hd =>
  show (Dy ms).map _=_;rw[Fx fun q m=>h q (Vq _ m)];rfl
theorem srtFP{ns:ZG}{b:Bool}{ms:ZZ}{Q:Sl->Prop}(hp:∀p∈ms,Gr ns b p)(nd:(ms.map Z0).Nodup)(l:ms.length<64)(q:∀us:ZZ,us.Perm ms->Q (.o (.lst us))):on (L1 .srtF [.lst ms]) Q:=by
 refine Zm (a:=Sl.o (.lst ((SRT.Ks ((ms.map Z0).zip ms)).map (·.2)))) ?_ (q _ ?_)
 .show (Dy ms).bind _=_;rw[Fx hp];exact if_pos ⟨nd,l⟩
 .have:=(SRT.Dr ((ms.map Z0).zip ms)).map (·.2);rw[List.map_snd_zip (by rw[Za];exact D5 _)]at this;exact this
def PRn(K:Kn):Prop:=∀{ns:ZG} {b:Bool} {p:T} {n:Int} {m:Str},Gr ns b p->Sm m->K [.f p,.f (.int n),.f (.str m)] fun x=>∃q,x=(.f q,[])/\Gr ns b q/\Z0 q=Z0 p
theorem Ke{w:W}:PRn (wF Di w):=fun {ns b p n m} h hm=>by
 have:=sizeLine_eq;have h0:=h;cases h with | @mk k x o ds hn hx ho hd =>
 refine Zy rfl fun D rt _=>?_;refine Uu ?_;refine Zz (b:=decide (k=n)) (fun z=>?_) fun _=>rt _ _ ⟨_,rfl,h0,rfl⟩;obtain rfl:=T1 z;have l:ds.length<=1:=by cases hd<;>simp
 have ec:Ye (.int k::.str x::.str o::ds) (some 2) none=.str o::ds:=by rw[Bz (by omega) (by rw[Jl,Jl,Jl];omega)];rfl
 refine Wh (by rw[ec];show 2+(ds.length+1)<=_;omega) ?_;rw[ec];exact rt _ _ ⟨_,rfl,.mk hn hm ho hd,rfl⟩
def PSb(K:Kn):Prop:=∀{ns:ZG} {XY:ZX} {d s:T} {x wd:Str} {r:ZZ},Dd ns XY d->okD XY d->d=.tup (.str wd::.str x::r)->(wd ≠ "form" -> Zv XY (.inr x)=some s) ->
 K [.f s,.f d] fun y=>∃s',y=(.f s',[])/\((wd = "form" /\ Raw (ns++[x]) s')\/(wd ≠ "form" /\ x∈ns/\Raw ns s'/\(Co s'=true\/Co s=false)))
theorem Rt{ns:ZG}{XY:ZX}{t:Str}{b:Bool}{ps rs:ZZ}{zs:ZT}(g:E9 ns XY t b ps zs rs):Co (shT t ps zs rs)=false:=by
 rcases g.r with ⟨_,rfl⟩ | ⟨_,c,rfl⟩<;>rfl
section
variable{w:W}{ns:ZG}{XY:ZX}{t:Str}{b:Bool}{ps ms rs:ZZ}{zs us:ZT}{d:T}{D:En}
theorem Qv(g:E9 ns XY t b ps zs rs)(hp:∀p∈ms,Gr ns b p)(nd:(ms.map Z0).Nodup)(l:ms.length<=9)(lu:us.length<=9)(rt:∀s' p0 p1 p,Raw ns s'->D.rt (.f s') (.f p0::.f p1::p)){s2:Sl}:wS w (Yb [.f (shT t ps zs rs),.f d]) (Zr 6 Dt) [.f (shT t ps zs rs),.f d,s2,.o (.lst ms),.o (.lst (us.map .int))] D:=by
 have:=sizeLine_eq;have lr:rs.length<=1:=by rcases g.r with ⟨_,rfl⟩ | ⟨_,c,rfl⟩<;>simp
 refine Uu ?_;refine srtFP hp nd (by omega) fun vs pv=>?_;refine Xx (us:=(SRT.Ms us).map .int) (srt_ints us (by omega)) ?_;have ec:Ye (.str t::.tup ps::.tup (zs.map .int)::rs) (some 3) none=rs:=by rw[Bz (by omega) (by rw[Jl,Jl,Jl];omega)];rfl
 refine Wh (by rw[ec];show 3+_<=_;omega) ?_;rw[ec];refine rt _ _ _ _ (E9.raw g.kd ⟨?_,fun p m=>hp p (pv.mem_iff.mp m)⟩ (by rw[(SRT.Yc us).length_eq];omega) g.r);rw[pv.length_eq];omega
end
theorem fil_nd{n:Int}{ps:ZZ}(h:(ps.map Z0).Nodup):((ps.filterMap fun p=>if Z0 p=n then none else some p).map Z0).Nodup:=by
 have e:ps.filterMap (fun p=>if Z0 p=n then none else some p)=ps.filter fun p=>!decide (Z0 p=n):=by
  induction ps with
  | nil=>rfl
  | cons p ps ih =>
   rw[P8,List.nodup_cons]at h;by_cases z:Z0 p=n
   .rw[List.filterMap_cons_none (by rw[if_pos z]),List.filter_cons_of_neg (by simpa using z),ih h.2]
   .rw[List.filterMap_cons_some (by rw[if_neg z]),List.filter_cons_of_pos (by simpa using z),ih h.2]
 rw[e];exact h.sublist (List.filter_sublist.map _)
theorem jl{w:W}(hR:PRn (cl w.C "renamed")):PSb (wF Vk w):=fun {ns XY d s x wd r} h ok ed es=>by
 have sz:=sizeLine_eq;cases h with
 | form hx hs =>
  cases ed;refine Zy rfl fun D rt _=>?_;exact rt _ _ ⟨_,rfl,.inl ⟨rfl,hs⟩⟩
 | widen mx e raw hp W7 hp' =>
  cases ed;refine Zy rfl fun D rt _=>?_;exact rt _ _ ⟨_,rfl,.inr ⟨by decide,mx,W7,.inl hp'⟩⟩
 | @opn x t b ps rs zs mx e g =>
  cases ed;have e1:=es (by decide);rw[e]at e1;cases e1;have nt:=ok _ _ _ _ e;have np:=Rt g;rcases g.kd with ⟨rfl,_⟩ | ⟨rfl,rfl⟩
  .exact absurd rfl nt
  rcases g.r with ⟨z,_⟩ | ⟨_,c,rfl⟩
  .cases z
  refine Zy rfl fun D rt _=>?_;exact rt _ _ ⟨_,rfl,.inr ⟨by decide,mx,E9.raw (.inr ⟨rfl,rfl⟩) g.p (by have:=g.m.sl;omega) (.inr ⟨rfl,true,rfl⟩),.inr np⟩⟩
 | @strike x t b ps rs zs n mx e g =>
  cases ed;have e1:=es (by decide);rw[e]at e1;cases e1;have np:=Rt g;have l:=g.m.l;have lz:=g.m.sl;refine Zy rfl fun D rt _=>?_;refine Nk ?_;have i2:∀{Q:Sl->Prop},Q (.f (.tup (zs.map .int)))->on ((Bt (shT t ps zs rs) (.int 2)).map Sl.f) Q:=fun q=>by rcases g.r with ⟨_,rfl⟩ | ⟨_,c,rfl⟩<;>exact q
  refine i2 ?_;refine w4 (fun p=>if Z0 p=n then none else some p) (fun p=>∃s0,p=[s0,.f (.tup [.str "strike",.str x,.int n])]) ⟨_,rfl⟩ (fun u mu p K hs hk=>?_) fun p hs=>?_
  .obtain⟨s0,rfl⟩:=hs;cases g.p.p u mu with | @mk k y o ds hn hy ho hd =>
   have hk:=hk [.f (.tup (.int k::.str y::.str o::ds)),.f (.tup [.str "strike",.str x,.int n])] ⟨_,rfl⟩;refine Uu ?_;refine Zz (b:=!decide (k=n)) (fun z=>?_) fun z=>?_
   .have z':k≠n:=of_decide_eq_false (Xn z);rw[show (if Z0 (.tup (.int k::.str y::.str o::ds))=n then none else some (T.tup (.int k::.str y::.str o::ds)))=some (.tup (.int k::.str y::.str o::ds)) from if_neg z']at hk;exact hk
   .have z':k=n:=T1 (Rp z);rw[show (if Z0 (.tup (.int k::.str y::.str o::ds))=n then none else some (T.tup (.int k::.str y::.str o::ds)))=none from if_pos z']at hk;exact hk
  obtain⟨s0,rfl⟩:=hs;refine jr (by rw[Za];omega) ?_;have e2:zs.map T.int++[.int n]=(zs++[n]).map .int:=by rw[P9];rfl
  rw[e2];refine Qv g (fun p m=>?_) (fil_nd g.m.d) ?_ (by rw[Gc];show _+1<=_;omega) fun s' p0 p1 p raw=>rt _ _ ⟨_,rfl,.inr ⟨by decide,mx,raw,.inr np⟩⟩
  .obtain⟨a,ma,ea⟩:=List.mem_filterMap.mp m
   split at ea
   .cases ea
   .cases ea;exact g.p.p _ ma
  .exact Gs (List.length_filterMap_le _ _) (by omega)
 | @rename x t m b ps rs zs n mx e g hm =>
  cases ed;have e1:=es (by decide);rw[e]at e1;cases e1;have np:=Rt g;have l:=g.m.l;have lz:=g.m.sl;refine Zy rfl fun D rt _=>?_;refine Nk ?_;have i2:∀{Q:Sl->Prop},Q (.f (.tup (zs.map .int)))->on ((Bt (shT t ps zs rs) (.int 2)).map Sl.f) Q:=fun q=>by rcases g.r with ⟨_,rfl⟩ | ⟨_,c,rfl⟩<;>exact q
  refine i2 ?_;refine Bs (fun rest acc p=>∃s0,p=[s0,.f (.tup [.str "rename",.str x,.int n,.str m])]/\(∀u∈rest,Gr ns b u)/\(∀u∈acc,Gr ns b u)/\acc.map Z0++rest.map Z0=ps.map Z0) ⟨_,rfl,g.p.p,(fun u m=>nomatch m),rfl⟩ (fun u r acc p K hi hk _=>?_) fun acc p hi=>?_
  .obtain⟨s0,rfl,hr,ha,hh⟩:=hi;refine Zk (hR (hr u Yd) (k6 m hm)) fun y ⟨q,ey,hq,eh⟩=>?_;subst ey;refine hk _ _ ⟨_,rfl,fun v mv=>hr v (Vq _ mv),fun v mv=>?_,by rw[<-hh,P9,P8,ZI];show _++([Z0 q]++_)=_;rw[eh];rfl⟩;rcases Cd.mp mv with mv | mv
   .exact ha v mv
   .cases V8.mp mv;exact hq
  obtain⟨s0,rfl,_,ha,hh⟩:=hi;rw[List.map_nil,ZE]at hh;have la:acc.length=ps.length:=by have:=congrArg List.length hh;rw[Za,Za]at this;exact this
  exact Qv g ha (by rw[hh];exact g.m.d) (by omega) (by omega) fun s' p0 p1 p raw=>rt _ _ ⟨_,rfl,.inr ⟨by decide,mx,raw,.inr np⟩⟩
 | @add x p ps zs mx e g hp =>
  cases ed;have e1:=es (by decide);rw[e]at e1;cases e1;have np:=Rt g;have l:=g.m.l;have lz:=g.m.sl;have nf:=ok.2 (.inl rfl) _ _ _ _ e;refine Zy rfl fun D rt _=>?_;refine jr (by omega) ?_;refine Qv (ms:=ps++[p]) (us:=zs) g (fun q m=>?_) ?_ (by rw[Gc];show _+1<=_;omega) (by omega) fun s' p0 p1 p raw=>rt _ _ ⟨_,rfl,.inr ⟨by decide,mx,raw,.inr np⟩⟩
  .rcases Cd.mp m with m | m
   .exact g.p.p q m
   .cases V8.mp m;exact hp
  .rw[P9,List.nodup_append];refine⟨g.m.d,by simp,fun a ma c mc ec=>?_⟩;cases V8.mp mc;subst ec;obtain⟨q,mq,eq⟩:=Gd.mp ma;have:=XJ.mp nf q mq;exact this (Ml eq)
 | @arm x p ps zs c mx e g hp =>
  cases ed;have e1:=es (by decide);rw[e]at e1;cases e1;have np:=Rt g;have l:=g.m.l;have lz:=g.m.sl;have nf:=ok.2 (.inr rfl) _ _ _ _ e;refine Zy rfl fun D rt _=>?_;refine jr (by omega) ?_;refine Qv (ms:=ps++[p]) (us:=zs) g (fun q m=>?_) ?_ (by rw[Gc];show _+1<=_;omega) (by omega) fun s' p0 p1 p raw=>rt _ _ ⟨_,rfl,.inr ⟨by decide,mx,raw,.inr np⟩⟩
  .rcases Cd.mp m with m | m
   .exact g.p.p q m
   .cases V8.mp m;exact hp
  .rw[P9,List.nodup_append];refine⟨g.m.d,by simp,fun a ma c mc ec=>?_⟩;cases V8.mp mc;subst ec;obtain⟨q,mq,eq⟩:=Gd.mp ma;have:=XJ.mp nf q mq;exact this (Ml eq)
end K63
set_option maxHeartbeats 1000000
namespace K63
open PySem PySem.Spec PyProof.Rows L2 PV
theorem zd.mono{ns ns':ZG}{pk:ZX}(h:zd ns pk)(hs:∀x∈ns,x∈ns'):zd ns' pk :=
 ⟨let ⟨ks,e,m⟩:=h.k;⟨ks,e,fun x mx=>hs x (m x mx)⟩,h.l0,h.l,fun q m=>let p:=h.p q m;⟨p.raw.mono hs,p.ok,p.pl⟩⟩
def PDd(K:Kn):Prop:=∀{zs:ZT} {i k:Int} {ns:ZG} {root:Str} {XY:ZX},Mk ns root XY->K [.o (Zg zs i k),.f (mkT root XY)] (rg zs (Dd ns XY))
noncomputable def N7:ZT:=[1,2,9,10,99,999,500]
theorem n7_in:∀z∈N7,z∈Ll:=by decide
noncomputable def S7:ZG:=["whole","truth","text","row","map","record","choice"]
theorem s7_or:∀s∈S7,s = "record" \/ s = "choice" \/ s∈E8:=by decide
theorem K1(s:Str):((["record","choice"]:ZG).any fun z=>decide (z=s))=true↔s = "record" \/ s = "choice" := by
 simp only[List.any_cons,List.any_nil,Bool.or_false,Bool.or_eq_true,decide_eq_true_eq];constructor
 .rintro(e | e)
  .exact .inl e.symm
  .exact .inr e.symm
 .rintro(e | e)
  .exact .inl e.symm
  .exact .inr e.symm
section
variable{w:W}{zs:ZT}{i0 k0 i2 k2 n wy:Int}{ns:ZG}{root x:Str}{XY pk:ZX}{s:T}{D:En}
theorem Zzi(hd:Vm w.C)(hP:PPl (cl w.C "_law_plain"))(hR:PPd (cl w.C "_law_parted"))(h:Mk ns root XY)(hk:zd ns pk)(rt:∀t i k (s1:Sl) (q:P),Dd ns XY t->D.rt (.f t) (.o (Zg zs i k)::s1::q)) :
  wS w (Yb [.o (Zg zs i0 k0),.f (mkT root XY)]) (Od (Zr 6 Vh)) [.o (Zg zs i2 k2),.f (mkT root XY),.o (.lst ((SRT.Z8 ns).map .str)),.f (.str x),.f s,.o (.dct pk),.f (.int n),.f (.int wy),.no,.no,.no,.no] D:=by
 have sz:=sizeLine_eq;have l6:=h.l;have pm:=SRT.Z3 ns;have ls:=pm.length_eq;have hx:∀x∈SRT.Z8 ns,x∈ns:=fun x m=>pm.mem_iff.mp m;refine Zl hd (by omega) (by omega) fun r i2 k2 h0 h1=>?_;refine Un (ss:=S7) h0 h1 fun t mt=>?_;refine Zl hd (by omega) (by omega) fun r i2 k2 h0 h1=>?_;refine Un (ss:=NEW) h0 h1 fun c mc=>?_;have hin:∀y∈ns,y∈ns++[c]:=fun y m=>List.mem_append_left _ m;have Kj:=hk.mono hin;have e2:(SRT.Z8 ns).map T.str++[.str c,.str c]=(SRT.Z8 ns++[c,c]).map .str:=by rw[P9];rfl
 have hm:rj (SRT.Z8 ns++[c,c]):=⟨by rw[Gc];show _+2<=_;omega,by rw[Gc];show 0<_+2;omega⟩
 have hx':∀y∈SRT.Z8 ns++[c,c],y∈ns++[c]:=fun y m=>by
  rcases Cd.mp m with m | m
  .exact List.mem_append_left _ (hx y m)
  .exact ry _ (by rcases Vt.mp m with rfl | m;exact V8.mpr rfl;exact m)
 have more:∀i2 k2,wS w (Yb [.o (Zg zs i0 k0),.f (mkT root XY)]) (Zr 2 (Od (Zr 6 Vh))) [.o (Zg zs i2 k2),.f (mkT root XY),.o (.lst ((SRT.Z8 ns).map .str)),.f (.str x),.f s,.o (.dct pk),.f (.int n),.f (.int wy),.f (.str t),.f (.str c),.no,.no] D:=fun i2 k2=>by
  refine Zz (b:=decide (("record" : Str)=t) || (decide (("choice" : Str)=t) || false)) (fun z=>?_) fun z=>?_
  .have ht:=(K1 t).mp z;obtain⟨b,hb⟩:∃b,Kd2 t b:=ht.elim (fun e=>⟨true,.inl ⟨e,rfl⟩⟩) fun e=>⟨false,.inr ⟨e,rfl⟩⟩;refine Wp (by rw[Za];show _+2<=_;omega) ?_;rw[e2];refine Ga (hR hb Kj hm hx') fun s' i k hs=>?_;exact rt _ _ _ _ _ (.form mc hs.raw)
  .have ht:t∈E8:=((s7_or t mt).resolve_left fun y=>by rw[show (decide (("record" : Str)=t) || (decide (("choice" : Str)=t) || false))=true from(K1 t).mpr (.inl y)]at z;cases z).resolve_left fun y=>by rw[show (decide (("record" : Str)=t) || (decide (("choice" : Str)=t) || false))=true from(K1 t).mpr (.inr y)]at z;cases z
   refine Wp (by rw[Za];show _+2<=_;omega) ?_;rw[e2];refine Ga (hP ht hm hx') fun s' i k hs=>?_;exact rt _ _ _ _ _ (.form mc hs.raw)
 exact more _ _
theorem dd_grp(hd:Vm w.C)(hQ:Bd (cl w.C "_law_part"))(h:Mk ns root XY)(hk:zd ns pk)(mx:x∈ns){t:Str}{b:Bool}{ps rs:ZZ}{us:ZT}(e:Zv XY (.inr x)=some (shT t ps us rs))(g:E9 ns XY t b ps us rs)(mn:n∈Ll)(rt:∀t i k (s1:Sl) (q:P),Dd ns XY t->D.rt (.f t) (.o (Zg zs i k)::s1::q)) :
  wS w (Yb [.o (Zg zs i0 k0),.f (mkT root XY)]) (Zr 8 Vh) [.o (Zg zs i2 k2),.f (mkT root XY),.o (.lst ((SRT.Z8 ns).map .str)),.f (.str x),.f (shT t ps us rs),.o (.dct pk),.f (.int n),.f (.int wy),.no,.no,.no,.no] D:=by
 have sz:=sizeLine_eq;have l6:=h.l;have l0:0<ns.length:=List.length_pos_of_mem h.root;have pm:=SRT.Z3 ns;have ls:=pm.length_eq;have hx:∀x∈SRT.Z8 ns,x∈ns:=fun x m=>pm.mem_iff.mp m;have lp:=g.m.l;have hm:rj (SRT.Z8 ns):=⟨by omega,by omega⟩;refine Nk ?_;refine R3 g.p.p fun s0=>?_;have e2:(ps.map Z0).map T.int++[.int n]=(ps.map Z0++[n]).map .int:=by rw[P9];rfl
 refine Wp (by rw[Za,Za];show _+1<=_;omega) ?_;rw[e2];have lh:(ps.map Z0++[n]).length=ps.length+1:=by rw[Gc,Za];rfl
 refine Zl hd (by rw[Za,lh];omega) (by rw[Za,lh];omega) fun r i2 k2 h0 h1=>?_;rw[Za]at h1;refine Nj h0 h1 fun m _=>?_;refine Zz (b:=decide (wy<4)) (fun _=>rt _ _ _ _ _ (.strike mx e g)) fun _=>?_;refine Zz (b:=decide (wy=4)) (fun _=>?_) fun _=>?_
 .refine Zl hd (by omega) (by omega) fun r i2 k2 h0 h1=>?_;refine Un (ss:=OWN) h0 h1 fun o mo=>?_;exact rt _ _ _ _ _ (.rename mx e g mo)
 refine Zz (b:=decide (wy=5)) (fun _=>rt _ _ _ _ _ (.opn mx e g)) fun _=>?_;rcases g.kd with ⟨rfl,rfl⟩ | ⟨rfl,rfl⟩
 .rcases g.r with ⟨_,rfl⟩ | ⟨z,_⟩
  .refine Ga (hQ (.inl ⟨rfl,rfl⟩) mn hk hm hx) fun p i k hp=>?_;exact rt _ _ _ _ _ (.add mx e g hp.prt)
  .cases z
 .rcases g.r with ⟨z,_⟩ | ⟨_,c,rfl⟩
  .cases z
  .refine Ga (hQ (.inr ⟨rfl,rfl⟩) mn hk hm hx) fun p i k hp=>?_;exact rt _ _ _ _ _ (.arm mx e g hp.prt)
theorem Zzo(hd:Vm w.C)(hN:PNr (cl w.C "_law_near"))(hQ:Bd (cl w.C "_law_part"))(h:Mk ns root XY)(hk:zd ns pk)(hi:∀x s,Zv XY (.inr x)=some s->(Zv pk (.inr x)).isSome=Co s)(mx:x∈ns)(e:Zv XY (.inr x)=some s)(raw:Raw ns s)(mn:n∈Ll)(rt:∀t i k (s1:Sl) (q:P),Dd ns XY t->D.rt (.f t) (.o (Zg zs i k)::s1::q)) :
  wS w (Yb [.o (Zg zs i0 k0),.f (mkT root XY)]) (Zr 7 Vh) [.o (Zg zs i2 k2),.f (mkT root XY),.o (.lst ((SRT.Z8 ns).map .str)),.f (.str x),.f s,.o (.dct pk),.f (.int n),.f (.int wy),.no,.no,.no,.no] D:=by
 refine Zz (b:=(Zv pk (.inr x)).isSome) (fun z=>?_) fun z=>?_
 .rw[hi x s e]at z;refine Ga (hN (ns:=ns) ⟨raw,h.ok _ (Z1 e),z⟩) fun s' i k hs=>?_;exact rt _ _ _ _ _ (.widen mx e raw z hs.1 hs.2)
 rw[hi x s e]at z;obtain⟨t,b,ps,us,rs,rfl,g⟩:=dz h e z;exact dd_grp hd hQ h hk mx e g mn rt
end
theorem Zza{w:W}(hd:Vm w.C)(hS:PPs (cl w.C "_law_plains"))(hP:PPl (cl w.C "_law_plain"))(hR:PPd (cl w.C "_law_parted"))(hN:PNr (cl w.C "_law_near"))(hQ:Bd (cl w.C "_law_part")):PDd (wF Gk w):=fun {zs i k ns root XY} h=>by
 refine Zy rfl fun D rt _=>?_;have l6:=h.l;have l0:0<ns.length:=List.length_pos_of_mem h.root;have pm:=SRT.Z3 ns;have ls:=pm.length_eq;refine Ds h.raw.k (by omega) ?_;refine Zl hd (by rw[Za];omega) (by rw[Za];omega) fun r i1 k1 h0 h1=>?_;rw[Za]at h1;refine Un h0 h1 fun x mx=>?_;have mx:=pm.mem_iff.mp mx;obtain⟨s,e,raw⟩:=h.raw.get mx;refine Hh e ?_;refine Zk (hS h) fun y ⟨pk,ey,hk,gk,hi⟩=>?_;subst ey;refine tmpP hk ?_;refine Zl hd (by omega) (by omega) fun r i2 k2 h0 h1=>?_;refine Nj (zs:=N7) h0 h1 fun n mn=>?_;have mn:=n7_in n mn;refine Zl hd (by omega) (by omega) fun wy i2 k2 w0 w1=>?_;have rt':∀t i' k' (s1:Sl) (q:P),Dd ns XY t->D.rt (.f t) (.o (Zg zs i' k')::s1::q):=fun t i k s1 q ht=>rt _ _ ⟨t,i,k,ht,rfl⟩;refine Zz (b:=decide (wy=0)) (fun _=>?_) fun _=>?_
 .exact Zzi (D:=⟨fun q=>wS w (Yb [.o (Zg zs i k),.f (mkT root XY)]) (Zr 7 Vh) q D,D.rt,D.bk,D.ct⟩) hd hP hR h hk rt'
 .exact Zzo hd hN hQ h hk hi mx e raw mn rt'
end K63
set_option maxHeartbeats 1000000
namespace K63
open PySem PySem.Spec PyProof.Rows L2 PV
def Wm(x:Sl×ZZ):Prop:=(∃z,x=(.f (.str z),[]))\/∃t,Wa t/\x=(.f t,[])
theorem dd_at{ns:ZG}{XY:ZX}{d:T}(h:Dd ns XY d):∃wd x r,d=.tup (.str wd::.str x::r)/\(wd ≠ "form" -> Zv XY (.inr x)=some ((Zv XY (.inr x)).getD .non)):=by
 cases h with
 | form=>exact⟨_,_,_,rfl,fun z=>absurd rfl z⟩
 | widen _ e=>exact⟨_,_,_,rfl,fun _=>by rw[e];rfl⟩
 | strike _ e=>exact⟨_,_,_,rfl,fun _=>by rw[e];rfl⟩
 | rename _ e=>exact⟨_,_,_,rfl,fun _=>by rw[e];rfl⟩
 | opn _ e=>exact⟨_,_,_,rfl,fun _=>by rw[e];rfl⟩
 | add _ e=>exact⟨_,_,_,rfl,fun _=>by rw[e];rfl⟩
 | arm _ e=>exact⟨_,_,_,rfl,fun _=>by rw[e];rfl⟩
theorem dd_new{ns:ZG}{XY:ZX}{d:T}{x:Str}{r:ZZ}(h:Dd ns XY d)(ok:okD XY d)(e:d=.tup (.str "form" :: .str x::r)):x∈NEW/\Zv XY (.inr x)=none:=by
 cases h with
 | form hx=>cases e;exact⟨hx,ok.1 rfl⟩
 | _=>injection e with e;injection e with e _;injection e with e;exact absurd e (by decide)
def Zqu(C:Cs):Prop:=∀{ns:ZG} {root:Str} {XY:ZX} {d:T},Mk ns root XY->Dd ns XY d->cNX (C "done" [.f (mkT root XY),.f d]) (fun x=>∃t,Wa t/\x=(.f t,[])) fun e=>∃z,e=(("BadDeed" : Str),T.str z)
theorem Zzu{w:W}(hx:∀z p,w.xe (("BadDeed" : Str),T.str z) p)(hF:PFt (cl w.C "fault_of"))(hFo:nh (cl w.C "form_of"))(hB:PSb (cl w.C "shape_behind"))(hM:PMk (cl w.C "is_make")){ns:ZG}{root:Str}{XY:ZX}{d:T}(h:Mk ns root XY)(hd:Dd ns XY d):wF Pf w [.f (mkT root XY),.f d] fun x=>∃t,Wa t/\x=(.f t,[]):=by
 have hF:=hF (root:=root) h.raw.sm hd;obtain⟨wd,x,r,rfl,es⟩:=dd_at hd;have lk:=Ym h.raw.k;have l8:=h.l;refine Zy rfl fun D rt _=>?_;refine Zk hF fun y hy=>?_;rcases hy with ⟨z,rfl⟩ | ⟨rfl,ok⟩
 .exact hx z _
 refine Nk ?_;refine Zk hFo fun y ey=>?_;subst ey;refine Zk (hB hd ok rfl es) fun y ⟨s',ey,hs⟩=>?_;subst ey;refine Nk ?_;refine K3 (by omega) ?_
 have key:∃ns',Cf ns' (Zo XY (.inr x) s')/\root∈ns'/\((∀p∈Zo XY (.inr x) s',Bn p.2)->(∀p∈Zo XY (.inr x) s',∀ps zs,p.2=G1 ps zs->DF (Zo XY (.inr x) s') ps)->(Zo XY (.inr x) s').length<=8->Mk ns' root (Zo XY (.inr x) s')):=by
  rcases hs with ⟨rfl,raw⟩ | ⟨hw,mx,raw,hp⟩
  .obtain⟨nx,gn⟩:=dd_new hd ok rfl
   have hx:x ∉ ns:=fun m=>by
    obtain⟨s,e,_⟩:=h.raw.get m;rw[gn]at e;cases e
   have rk:Cf (ns++[x]) (Zo XY (.inr x) s'):=⟨((G3 (x:=x) (v:=s') h.raw.k).resolve_left fun z=>hx z.1).2,fun p m=>by
    rcases Nq m with m | rfl
    .exact(h.raw.r p m).mono fun y my=>List.mem_append_left _ my
    .exact raw,fun y m=>by
    rcases Cd.mp m with m | m
    .exact h.raw.sm y m
    .cases V8.mp m;exact Hw _ nx⟩
   refine⟨_,rk,List.mem_append_left _ h.root,fun ok fit l8=>⟨rk,List.mem_append_left _ h.root,ok,fit, ?_,by have:=Ym rk.k;omega⟩⟩;obtain⟨y,my,t,et,zt⟩:=h.pl;refine⟨y,List.mem_append_left _ my,t, ?_,zt⟩;rw[Jt,if_neg fun c=>by cases c;exact hx my];exact et
  .obtain⟨rk,mk⟩:=h.put mx (es hw) raw hp h.root;exact⟨ns,rk,h.root,fun a b _=>mk a b⟩
 obtain⟨ns',rk,mr,mk⟩:=key;refine Yp (hM rk mr) fun b hb=>?_;cases b with
 | true=>exact rt _ _ ⟨_,⟨ns',root,_,rfl,mk (hb rfl).2.1 (hb rfl).2.2 (hb rfl).1⟩,rfl⟩
 | false=>exact hx "make" _
theorem vr{w:W}(hD:Zqu w.C){ns:ZG}{root:Str}{XY:ZX}{d:T}(h:Mk ns root XY)(hd:Dd ns XY d):wF U1 w [.f (mkT root XY),.f d] Wm:=by
 refine Zy rfl fun D rt _=>?_;refine callX (hD h hd) (fun y ⟨t,ht,ey⟩=>?_) fun e ⟨z,ez⟩=>?_
 .subst ey;exact rt _ _ (.inr ⟨t,ht,rfl⟩)
 .subst ez;exact rt _ _ (.inl ⟨z,rfl⟩)
end K63
set_option maxHeartbeats 1000000
namespace K63
open PySem PySem.Spec PyProof.Rows L2 PV
def PTr2(K:Kn):Prop:=∀{ns:ZG} {root:Str} {XY:ZX} {d:T},Mk ns root XY->Dd ns XY d->K [.f (mkT root XY),.f d] Wm
end K63
set_option maxHeartbeats 1000000
namespace K63
open PySem PySem.Spec PyProof.Rows L2 PV
noncomputable def yu(a:Int):Nat->ZZ
 | 0=>[]
 | n+1=>.int a::yu (a+1) n
theorem Qk(a:Int):∀n:Nat,((List.range n).map fun k=>T.int (a+(k:Nat)))=yu a n
 | 0=>rfl
 | n+1=>by
  rw[List.range_succ_eq_map,P8,List.map_map];show _=T.int a::yu (a+1) n;rw[<-Qk (a+1) n];refine congr (congrArg List.cons (congrArg T.int (Int.add_zero a))) (List.map_congr_left fun k _=>congrArg T.int ?_);show a+((k+1:Nat):Int)=a+1+(k:Nat);omega
theorem yh{m:Int}{Q:ZZ->Prop}(h0:-1000000<=m)(h1:m<=1000000)(q:Q (yu 0 m.toNat)):on (u6 (.int m)) Q:=by
 refine rngP h0 h1 ?_;rw[<-Qk]at q;simpa using q
theorem rng2P{a b:Int}{Q:ZZ->Prop}(h0:-1000000<=a)(h1:a<=1000000)(h2:-1000000<=b)(h3:b<=1000000)(q:Q (yu a (b - a).toNat)):on (yr a b) Q:=by
 rw[<-Qk]at q;exact Zm (if_pos ⟨h0,h1,h2,h3⟩) q
theorem rg_mem{a:Int}{t:T}:∀{n:Nat},t∈yu a n->∃j:Nat,j<n/\t=.int (a+j):=fun {n} m=>by
 rw[<-Qk]at m;obtain⟨j,mj,rfl⟩:=Gd.mp m;exact⟨j,List.mem_range.mp mj,rfl⟩
def keyS:Key->Option Str
 | .inr x=>some x
 | .inl _=>none
noncomputable def ksOf(XY:ZX):ZG:=(XY.map (·.1)).filterMap keyS
theorem ks_of{ns:ZG}{XY:ZX}(h:XY.map (·.1)=ns.map Sum.inr):ksOf XY=ns:=by
 unfold ksOf;rw[h,List.filterMap_map];exact List.filterMap_some
noncomputable def flM:T->T->T
 | .tup [.str r,.dct XY],.tup [.str r',.dct Zp]=>flw (ksOf XY) r r' XY Zp
 | _,_=>.non
theorem X7(t t':T):Wrd (flM t t'):=by
 unfold flM
 split
 .exact Zzt _ _ _ _ _
 .exact .inl rfl
def Zxk(K:Kn):Prop:=∀{t t':T},Wa t->Wa t'->K [.f t,.f t'] fun x=>x=(.f (flM t t'),[])
theorem cf2{K:Kn}(h:PCf K):Zxk K:=fun {t t'} a b=>by
 obtain⟨ns,r,XY,rfl,ma⟩:=a;obtain⟨ns',r',Zp,rfl,mb⟩:=b;have:=h ma mb;rw[<-ks_of ma.raw.k]at this;exact this
structure Row(ts:ZZ):Prop where
 l:ts.length<=6
 m:∀t∈ts,Wa t
def Bg(ts:ZZ)(j:Nat):T:=(ts[j]?).getD .non
noncomputable def dn(ts:ZZ):Nat->Nat->T
 | _,0=>.non
 | j,n+1=>if L9 (flM (Bg ts j) (Bg ts (j+1)))=true then dn ts (j+1) n else .tup [.int ((j:Nat)+1),flM (Bg ts j) (Bg ts (j+1))]
def Zzb(ts:ZZ):T:=dn ts 0 (ts.length - 1)
theorem at_P{ts:ZZ}{j:Nat}{i:Int}(e:i=j)(h:j<ts.length){Q:Sl->Prop}(q:Q (.f (Bg ts j))):on ((Bt (.lst ts) (.int i)).map Sl.f) Q:=by
 subst e;refine ixP (Int.natCast_nonneg j) (Int.ofNat_lt.mpr h) fun x e _=>?_;rw[show ((j:Nat):Int).toNat=j from rfl]at e;rw[show Bg ts j=x by unfold Bg;rw[e];rfl]at q;exact q
theorem A2{ts:ZZ}{j:Nat}(h:j<ts.length):Bg ts j∈ts:=by
 unfold Bg;rw[We h];exact G0e h
noncomputable def cFst(f:Str):S:=(.seq (.loop (.v 1) (.itr .rng (Zj (ki 1) (Jj (.v 0))))
    (.seq (.set 2 (.call f (Zj (Zw (.v 0) (.pr (.op .sub) (Zj (.v 1) (ki 1)))) (Zw (.v 0) (.v 1)))))
   (.seq (.ite (.pr (.cm .isnt) (Zj (.v 2) (.k .non)))
    (Zn (.ret (.tup (Zj (.v 1) (.v 2)))))
    .nil)
   .nil)))
   (.seq (.ret (.k .non))
   .nil))
def A8(K:Kn):Prop:=∀{ts:ZZ},Row ts->K [.f (.lst ts)] fun x=>x=(.f (Zzb ts),[])
theorem dy{w:W}{f:Str}(hC:Zxk (cl w.C f)):A8 (wF ⟨3,1,cFst f⟩ w):=fun {ts} h=>by
 refine Zy rfl fun D rt _=>?_;have l:=h.l;refine rng2P (by omega) (by omega) (by omega) (by omega) ?_;rw[show ((ts.length:Nat) - (1:Int)).toNat=ts.length - 1 by omega];refine G0 (fun rest p=>∃(s1 s2:Sl) (j n:Nat),p=[.f (.lst ts),s1,s2]/\rest=yu ((j:Nat)+1) n/\j+n=ts.length - 1/\Zzb ts=dn ts j n) ⟨_,_,0,_,rfl,rfl,Nat.zero_add _,rfl⟩ (fun x rest p D' hi nx rt'=>?_) fun p hi=>?_
 .obtain⟨s1,s2,j,n,rfl,e,el,ef⟩:=hi;cases n with
  | zero=>cases e
  | succ n =>
  cases e;refine at_P (j:=j) (by omega) (by omega) ?_;refine at_P (j:=j+1) (by omega) (by omega) ?_;refine Zk (hC (h.m _ (A2 (by omega))) (h.m _ (A2 (by omega)))) fun y ey=>?_;subst ey;have ef:Zzb ts=if L9 (flM (Bg ts j) (Bg ts (j+1)))=true then dn ts (j+1) n else .tup [.int ((j:Nat)+1),flM (Bg ts j) (Bg ts (j+1))]:=ef
  have wd:=X7 (Bg ts j) (Bg ts (j+1));show wS w _ _ [.f (.lst ts),.f (.int ((j:Nat)+1)),.f (flM (Bg ts j) (Bg ts (j+1)))] _;generalize flM (Bg ts j) (Bg ts (j+1))=t at ef wd;rcases wd with rfl | ⟨x,rfl⟩
  .exact nx _ ⟨_,_,j+1,n,rfl,rfl,by omega,ef⟩
  .exact rt' _ _ (rt _ _ (by rw[ef];rfl))
 .obtain⟨s1,s2,j,n,rfl,e,el,ef⟩:=hi;cases n with
  | zero=>exact rt _ _ (by rw[ef];rfl)
  | succ n=>cases e
theorem tf{w:W}(hC:Zxk (cl w.C "cannot_follow")):A8 (wF Vo w):=dy hC
theorem x7{w:W}(hC:Zxk (cl w.C "_law_follow_word")):A8 (wF U3 w):=dy hC
noncomputable def L7(s:T)(n:Int):Str:=match s with
 | .tup [_,.tup qs,.tup us]=>Z6 qs (zI us) n
 | .tup [_,.tup qs,.tup us,.bl _]=>Z6 qs (zI us) n
 | _ => "none"
noncomputable def lfM(x:Str)(n:Int):T->Str
 | .tup [_,.dct XY]=>L7 ((Zv XY (.inr x)).getD .non) n
 | _ => "none"
theorem Xp(t:T)(qs:ZZ)(us:ZT)(n:Int):L7 (.tup [t,.tup qs,.tup (us.map .int)]) n=Z6 qs us n:=congrArg (fun z=>Z6 qs z n) (Vj us)
theorem Xu(t:T)(qs:ZZ)(us:ZT)(b:Bool)(n:Int):L7 (.tup [t,.tup qs,.tup (us.map .int),.bl b]) n=Z6 qs us n:=congrArg (fun z=>Z6 qs z n) (Vj us)
def PLf2(K:Kn):Prop:=∀{s:T} {n:Int},(s=.non\/∃ns,Raw ns s)->K [.f s,.f (.int n)] fun x=>x=(.f (.str (L7 s n)),[])
theorem bz{w:W}(hM:ja (cl w.C "member_of")):PLf2 (wF Uk w):=fun {s n} h=>by
 rcases h with rfl | ⟨ns,h⟩
 .refine Zy rfl fun D rt _=>?_;exact rt _ _ rfl
 cases h with
 | @record ps zs hp hz =>
  rw[Xp];exact Qs hM (.inl ⟨rfl,rfl⟩) (.inl ⟨rfl,rfl⟩) hp.p
 | @choice ps zs c hp hz =>
  rw[Xu];exact Qs hM (.inr ⟨rfl,rfl⟩) (.inr ⟨rfl,c,rfl⟩) hp.p
 | _ =>
  refine Zy rfl fun D rt _=>?_;exact rt _ _ rfl
def PNl(K:Kn):Prop:=∀{ts:ZZ} {x:Str} {n:Int},Row ts->K [.f (.lst ts),.f (.str x),.f (.int n)] fun y=>y=(.o (.lst (ts.map fun t=>.str (lfM x n t))),[])
theorem o5{ns:ZG}{r x:Str}{XY:ZX}(h:Mk ns r XY):(Zv XY (.inr x)).getD .non=.non\/∃ns,Raw ns ((Zv XY (.inr x)).getD .non):=by
 cases e:Zv XY (.inr x) with
 | none=>exact .inl rfl
 | some s=>exact .inr ⟨ns,h.raw.r _ (Z1 e)⟩
theorem ff{w:W}(hF:nh (cl w.C "form_of"))(hL:PLf2 (cl w.C "life_in")):PNl (wF Vg w):=fun {ts x n} h=>by
 refine Zy rfl fun D rt _=>?_;refine Zh (fun t=>.str (lfM x n t)) (fun p=>∃s0,p=[s0,.f (.int n),.f (.str x)]) ⟨_,rfl⟩ (fun t mt p K hs hk=>?_) fun p hs=>?_
 .obtain⟨s0,rfl⟩:=hs;have hk:=hk [.f t,.f (.int n),.f (.str x)] ⟨_,rfl⟩;obtain⟨ns,r,XY,rfl,m⟩:=h.m t mt;refine Zk hF fun y ey=>?_;subst ey;refine Zk (hL (o5 m)) fun y ey=>?_;subst ey;exact hk
 obtain⟨s0,rfl⟩:=hs;exact rt _ _ rfl
def PLl(K:Kn):Prop:=∀{t:T} {x:Str} {n:Int},Wa t->K [.f t,.f (.str x),.f (.int n)] fun y=>y=(.f (.str (lfM x n t)),[])
theorem inH{ps:ZZ}{n:Int}{Q:Sl->Prop}(q:Q (.f (.bl (V1 ps n)))):on ((Jw .isin (.int n) (.lst ((ps.map Z0).map .int))).map fun r=>Sl.f (.bl r)) Q:=Zm (by show (Kq (.int n) (.lst ((ps.map Z0).map .int))).map _=_;rw[C3,List.any_map];rfl) q
theorem Zx3{w:W}{D:En}{t:Str}{ns:ZG}{b:Bool}{ps rs:ZZ}{us:ZT}{n:Int}{s0 s1:Sl}{pt:Nat->Bool}(hp:∀p∈ps,Gr ns b p)(i2:∀{Q:Sl->Prop},Q (.f (.tup (us.map .int)))->on ((Bt (shT t ps us rs) (.int 2)).map Sl.f) Q)
  (rt:D.rt (.f (.str (Z6 ps us n))) [s0,s1,.f (.int n),.f (shT t ps us rs)]):wS w pt (Zr 2 M4) [s0,s1,.f (.int n),.f (shT t ps us rs)] D:=by
 have e:∀z:V1 ps n=false,Z6 ps us n=(if Jq us n=true then ("struck" : Str) else ("none" : Str)):=fun z=>by unfold Z6;rw[z];rfl
 have e1:∀z:V1 ps n=true,Z6 ps us n = "there" := fun z=>if_pos z;refine Nk ?_;refine R3 hp fun s=>?_;refine inH ?_;refine Zz (b:=V1 ps n) (fun z=>by rw[e1 z]at rt;exact rt) fun z=>?_;refine i2 ?_;refine inZ ?_;rw[e z]at rt;refine Zz (b:=Jq us n) (fun y=>by rw[y]at rt;exact rt) fun y=>by rw[y]at rt;exact rt
theorem fk{w:W}:PLl (wF Gv w):=fun {t x n} ht=>by
 obtain⟨ns,r,XY,rfl,m⟩:=ht;refine Zy rfl fun D rt _=>?_
 have key:∀s,(s=.tup [.str "truth"]\/Raw ns s)->lfM x n (mkT r XY)=L7 s n->wS w (Yb [.f (mkT r XY),.f (.str x),.f (.int n)]) (Zr 1 M4) [.f (mkT r XY),.f (.str x),.f (.int n),.f s] D:=fun s hs e=>by
  rw[e]at rt;rcases hs with rfl | hs
  .exact rt _ _ rfl
  cases hs with
  | @record ps zs hp hz =>
   rw[Xp]at rt;exact Zx3 (t:="record") (rs:=[]) hp.p (fun q=>q) (rt _ _ rfl)
  | @choice ps zs c hp hz =>
   rw[Xu]at rt;exact Zx3 (t:="choice") (rs:=[.bl c]) hp.p (fun q=>q) (rt _ _ rfl)
  | _=>exact rt _ _ rfl
 refine key ((Zv XY (.inr x)).getD (.tup [.str "truth"])) ?_ ?_
 .cases e:Zv XY (.inr x) with
  | none=>exact .inl rfl
  | some s=>exact .inr (m.raw.r _ (Z1 e))
 .show L7 ((Zv XY (.inr x)).getD .non) n=_;cases Zv XY (.inr x)<;>rfl
end K63
set_option maxHeartbeats 1000000
namespace K63
open PySem PySem.Spec PyProof.Rows L2 PV
def Al0(t:T):Prop:=t=.non\/(∃x,t=.str x)\/∃i,t=.int i
def Al1(t:T):Prop:=Al0 t\/∃ts:ZZ,(t=.tup ts\/t=.lst ts)/\(∀u∈ts,Al0 u)/\ts.length<=6
def PAl(P:T->Prop)(K:Kn):Prop:=∀{t:T},P t->K [.f t,.f t] fun x=>x=(.f (.bl true),[])
theorem c9{w:W}:PAl Al0 (wF Vz w):=fun {t} h=>by
 refine Zy rfl fun D rt _=>?_;rcases h with rfl | ⟨x,rfl⟩ | ⟨i,rfl⟩
 .exact rt _ _ rfl
 .refine rt _ _ ?_;show ((.f (.bl (decide (x=x))),[]):Sl×ZZ)=_;rw[Ml rfl]
 .refine rt _ _ ?_;show ((.f (.bl (decide (i=i))),[]):Sl×ZZ)=_;rw[Ml rfl]
theorem zm{w:W}{ts:ZZ}{t:T}(hA:PAl Al0 (cl w.C "_law_alike"))(hi:∀{j:Nat} {Q:Sl->Prop},j<ts.length->Q (.f (Bg ts j))->on ((Bt t (.int (0+(j:Int)))).map Sl.f) Q)(hu:∀u∈ts,Al0 u){Q:ZZ->P->Prop}(q:∀s0,Q ((yu 0 ts.length).map fun _=>.bl true) [s0,.f t,.f t]) :
  Z7 (fun x s K=>on (asg (.v 0) x s) fun s1=>if isNil .nil=true then wE w.nx (.call "_law_alike" (Zj (Zw (.v 1) (.v 0)) (Zw (.v 2) (.v 0)))) s1 fun r s2=>My r fun y=>K (some y) s2
   else wE w.nx .nil s1 fun r s2=>L5 r fun b=>if b=true then wE w.nx (.call "_law_alike" (Zj (Zw (.v 1) (.v 0)) (Zw (.v 2) (.v 0)))) s2 fun r s3=>My r fun y=>K (some y) s3 else K none s2) (yu 0 ts.length) [] [.no,.f t,.f t] Q:=by
 refine Zh (fun _=>.bl true) (fun p=>∃s0,p=[s0,.f t,.f t]) ⟨_,rfl⟩ (fun u mu p K hs hk=>?_) fun p hs=>by obtain⟨s0,rfl⟩:=hs;exact q s0
 obtain⟨s0,rfl⟩:=hs;obtain⟨j,hj,rfl⟩:=rg_mem mu;refine hi hj ?_;refine hi hj ?_;refine Zk (hA (hu _ (A2 hj))) fun y ey=>?_;subst ey;exact hk _ ⟨_,rfl⟩
theorem al1_ok{w:W}(hA:PAl Al0 (cl w.C "_law_alike")):PAl Al1 (wF Vz w):=fun {t} h=>by
 rcases h with h | ⟨ts,e,hu,l⟩
 .exact c9 h
 have ln:∀{A B:Prop},B->(if (!decide (((ts.length:Nat):Int)=(ts.length:Nat)))=true then A else B):=fun b=>by
  rw[Ml rfl];exact b
 have al:((yu 0 ts.length).all fun _=>true)=true:=n7.mpr fun _ _=>rfl;refine Zy rfl fun D rt _=>?_;rcases e with rfl | rfl
 .refine ln ?_;refine yh (by omega) (by omega) ?_;refine zm hA (fun {j Q} hj q=>?_) hu fun s0=>?_
  .refine ixTP (by omega) (by omega) fun x e _=>?_;rw[show (0+(j:Int)).toNat=j by omega]at e;rw[show Bg ts j=x by unfold Bg;rw[e];rfl]at q;exact q
  refine A4 (f:=fun _=>true) ?_;exact rt _ _ (by rw[al];rfl)
 .refine ln ?_;refine yh (by omega) (by omega) ?_;refine zm hA (fun {j Q} hj q=>at_P (Int.zero_add _) hj q) hu fun s0=>?_;refine A4 (f:=fun _=>true) ?_;exact rt _ _ (by rw[al];rfl)
theorem dg(ts:ZZ):Al1 (Zzb ts):=by
 have go:∀n j,Al1 (dn ts j n):=fun n=>by
  induction n with
  | zero=>exact fun j=>.inl (.inl rfl)
  | succ n ih =>
   intro j;show Al1 (if _ then _ else _)
   split
   .exact ih _
   .refine .inr ⟨_,.inl rfl,fun u m=>?_,by simp⟩;rcases Vt.mp m with rfl | m
    .exact .inr (.inr ⟨_,rfl⟩)
    cases V8.mp m;rcases X7 (Bg ts j) (Bg ts (j+1)) with e | ⟨x,e⟩
    .exact .inl e
    .exact .inr (.inl ⟨x,e⟩)
 exact go _ _
theorem Zz3{ts:ZZ}(h:ts.length≠0):∃t,Tw ts (-1)=some t/\t∈ts:=by
 have hn:ts≠[]:=fun e=>h (by rw[e];rfl);refine⟨ts.getLast hn, ?_,List.getLast_mem hn⟩;have:=cu ts.dropLast (ts.getLast hn)
 rwa [List.dropLast_concat_getLast hn]at this
def PDrw(K:Kn):Prop:=∀{zs:ZT} {i k:Int},K [.o (Zg zs i k)] fun x=>∃ts i' k',Row ts/\x=(.o (.lst ts),[Zg zs i' k'])
section
variable{w:W}{zs:ZT}{D:En}{ts:ZZ}{pt:Nat->Bool}
theorem Af(hd:Vm w.C)(hN:PNx (cl w.C "_law_next"))(h:∀t∈ts,Wa t)(l:ts.length<6){t:T}(ht:Wa t)(p3:pt 3=false){i k:Int}{s4:Sl}(nx:∀t i k s4,Wa t->D.nx [.o (Zg zs i k),.o (.lst (ts++[t])),.f (.int ts.length),.f t,s4]) :
  wS w pt (Zr 3 (lpB (Zr 1 V2))) [.o (Zg zs i k),.o (.lst ts),.f (.int ts.length),.f t,s4] D:=by
 have sz:=sizeLine_eq
 have fin:∀t,Wa t->∀i k s4,wS w pt (Zr 5 (lpB (Zr 1 V2))) [.o (Zg zs i k),.o (.lst ts),.f (.int ts.length),.f t,s4] D:=fun t ht i k s4=>by
  refine jr (by omega) ?_;exact nx _ _ _ _ ht
 have nxt:∀t,Wa t->∀i k s4,wS w pt (Zr 4 (lpB (Zr 1 V2))) [.o (Zg zs i k),.o (.lst ts),.f (.int ts.length),.f t,s4] D:=fun t ht i k s4=>by
  refine Zz (b:=decide ((0:Int)<(ts.length:Nat))) (fun z=>?_) fun _=>fin t ht _ _ _;have z:=T1 z;refine Zl hd (by omega) (by omega) fun r i k h0 h1=>?_;refine Zz (b:=decide (r=0)) (fun _=>?_) fun _=>fin t ht _ _ _;show if pt 3=true then False else _
  rw[if_neg (by rw[p3];exact fun z=>nomatch z)];refine Zl hd z (by omega) fun r i k h0 h1=>?_;refine ixP h0 h1 fun x _ mx=>?_;exact fin x (h x mx) _ _ _
 refine Zl hd (by omega) (by omega) fun r i k h0 h1=>?_;refine Zz (b:=decide (r=0)) (fun _=>?_) fun _=>nxt t ht _ _ _;show if pt 3=true then False else _
 rw[if_neg (by rw[p3];exact fun z=>nomatch z)];refine Ga (hN ht) fun t i k ht=>?_;exact nxt t ht _ _ _
end
theorem t8{w:W}(hd:Vm w.C)(hM:nc (cl w.C "_law_make"))(hD:PDd (cl w.C "_law_deed"))(hW:PTr2 (cl w.C "_law_tried"))(hN:PNx (cl w.C "_law_next")):PDrw (wF U4 w):=fun {zs i k}=>by
 refine Zy rfl fun D rt _=>?_;refine Zl hd (by omega) (by omega) fun r i k r0 r1=>?_;refine yh (by omega) (by omega) ?_;refine G0 (fun rest p=>∃i k s2 s3 s4 ts n,p=[.o (Zg zs i k),.o (.lst ts),s2,s3,s4]/\rest=yu ts.length n/\ts.length+n<=6/\∀t∈ts,Wa t) ⟨_,_,_,_,_,[],_,rfl,rfl,by show 0+r.toNat<=6;omega,fun _ m=>absurd m Td⟩ (fun x rest p D' hi nx _=>?_) fun p hi=>?_
 .obtain⟨i,k,s2,s3,s4,ts,n,rfl,e,l,h⟩:=hi;cases n with
  | zero=>cases e
  | succ n =>
  cases e
  have nx':∀t i k s4,Wa t->D'.nx [.o (Zg zs i k),.o (.lst (ts++[t])),.f (.int ts.length),.f t,s4]:=fun t i k s4 ht=>nx _ ⟨_,_,_,_,_,ts++[t],n,rfl,by rw[Gc];rfl,by rw[Gc];show _+1+_<=_;omega,fun u m=>by
   rcases Cd.mp m with m | m
   .exact h u m
   .cases V8.mp m;exact ht⟩
  have key:∀t,Wa t->∀i k s4,wS w (Yb [.o (Zg zs i k)]) (Zr 1 (lpB (Zr 1 V2))) [.o (Zg zs i k),.o (.lst ts),.f (.int ts.length),.f t,s4] D':=fun t ht i k s4=>by
   have ht0:=ht;obtain⟨ns,r,XY,rfl,m⟩:=ht;refine Ga (hD m) fun d i k hd'=>?_;refine Zk (hW m hd') fun y hy=>?_;rcases hy with ⟨z,rfl⟩ | ⟨t,ht,rfl⟩
   .exact Af (D:=D') hd hN h (by omega) ht0 rfl nx'
   .have ht1:=ht;obtain⟨ns',r',Zp,rfl,m'⟩:=ht;refine Zl hd (by omega) (by omega) fun r i k h0 h1=>?_;refine Zz (b:=decide ((0:Int)<r)) (fun _=>?_) fun _=>?_
    .exact Af (D:=D') hd hN h (by omega) ht1 rfl nx'
    .exact Af (D:=D') hd hN h (by omega) ht0 rfl nx'
  refine Zz (b:=decide (((ts.length:Nat):Int)=0)) (fun _=>?_) fun z=>?_
  .refine Ga hM fun t i k ht=>?_;exact key t ht.mk _ _ _
  .have z:=of_decide_eq_false z;obtain⟨t,e,mt⟩:∃t,Tw ts (-1)=some t/\t∈ts:=Zz3 (by omega);refine ixLP e ?_;exact key t (h t mt) _ _ _
 .obtain⟨i,k,s2,s3,s4,ts,n,rfl,e,l,h⟩:=hi;exact rt _ _ ⟨ts,i,k,⟨by omega,h⟩,rfl⟩
end K63
set_option maxHeartbeats 1000000
namespace K63
open PySem PySem.Spec PyProof.Rows L2 PV
def PLr(K:Kn):Prop:=∀{zs:ZT} {i k:Int} {ts:ZZ},Row ts->K [.o (Zg zs i k),.f (.lst ts)] fun x=>∃i' k',x=(.f (.bl true),[Zg zs i' k'])
noncomputable def N10:ZT:=[1,2,3,9,10,99,100,999,500,998]
theorem yp{w:W}(hd:Vm w.C)(hL:PLl (cl w.C "_law_life"))(hN:PNl (cl w.C "number_lives"))(hA:PAl Al1 (cl w.C "_law_alike")):PLr (wF Yy w):=fun {zs i k ts} h=>by
 refine Zy rfl fun D rt _=>?_;have sz:=sizeLine_eq;have l:=h.l;refine G0 (fun rest p=>∃(s3:Sl) (ss:ZG),p=[.o (Zg zs i k),.f (.lst ts),.o (.lst (ss.map .str)),s3,.no,.no,.no,.no,.no]/\(∀t∈rest,Wa t)/\0<ss.length/\ss.length+8 * rest.length<=49) ⟨_,["zzz"],rfl,h.m,by decide,by show 1+_<=_;omega⟩ (fun x rest p D' hi nx _=>?_) fun p hi=>?_
 .obtain⟨s3,ss,rfl,hm,l0,l1⟩:=hi;obtain⟨ns,r,XY,rfl,m⟩:=hm x Yd;have l8:=m.l;have ls:=(SRT.Z3 ns).length_eq;rw[Jl]at l1;refine Ds m.raw.k (by omega) ?_;refine Wp (by rw[Za,Za,ls];omega) ?_;refine nx _ ⟨_,ss++SRT.Z8 ns,by rw[P9];rfl,fun t m=>hm t (Vq _ m),by rw[Gc];omega,by rw[Gc,ls];omega⟩
 obtain⟨s3,ss,rfl,_,l0,l1⟩:=hi;refine G0 (fun rest p=>∃i k s3 s4 s5 s6 s7 s8,p=[.o (Zg zs i k),.f (.lst ts),.o (.lst (ss.map .str)),s3,s4,s5,s6,s7,s8]) ⟨_,_,_,_,_,_,_,_,rfl⟩ (fun u rest p D' hi nx _=>?_) fun p hi=>?_
 .obtain⟨i,k,s3,s4,s5,s6,s7,s8,rfl⟩:=hi;refine Zl hd (by rw[Za];omega) (by rw[Za];omega) fun r i k h0 h1=>?_;rw[Za]at h1;refine Un h0 h1 fun x _=>?_;refine Zl hd (by omega) (by omega) fun r i k h0 h1=>?_;refine Nj (zs:=N10) h0 h1 fun n _=>?_;refine Zh (fun t=>.str (lfM x n t)) (fun p=>∃s0,p=[s0,.f (.str x),.f (.int n)]) ⟨_,rfl⟩ (fun t mt p K hs hk=>?_) fun p hs=>?_
  .obtain⟨s0,rfl⟩:=hs;refine Zk (hL (h.m t mt)) fun y ey=>?_;subst ey;exact hk _ ⟨_,rfl⟩
  obtain⟨s0,rfl⟩:=hs
  have al:Al1 (.lst (ts.map fun t=>.str (lfM x n t))):=.inr ⟨_,.inr rfl,fun u m=>by
   obtain⟨t,_,rfl⟩:=Gd.mp m;exact .inr (.inl ⟨_,rfl⟩),by rw[Za];exact l⟩
  refine Zk (hN h) fun y ey=>?_;subst ey;refine Zk (hA al) fun y ey=>?_;subst ey;refine jr (by rw[Za];omega) ?_;refine Zk (hN h) fun y ey=>?_;subst ey;refine Zk (hA al) fun y ey=>?_;subst ey;exact nx _ ⟨_,_,_,_,_,_,_,_,rfl⟩
 .obtain⟨i,k,s3,s4,s5,s6,s7,s8,rfl⟩:=hi;exact rt _ _ ⟨_,_,rfl⟩
theorem law_ok{w:W}(hT:∀zs:ZT,cN (w.C "_law_tape" [.f (.lst (zs.map .int))]) fun x=>x=(.o (Zg zs 0 0),[]))(hD:PDrw (cl w.C "_law_drawn"))(h1:A8 (cl w.C "_law_first"))(h2:A8 (cl w.C "first_wrong"))(hA:PAl Al1 (cl w.C "_law_alike"))(hL:PLr (cl w.C "_law_lives_right"))(zs:ZT):wF El w [.f (.lst (zs.map .int))] fun x=>x=(.f (.bl true),[]):=by
 refine Zy rfl fun D rt _=>?_;refine Zk (hT zs) fun y ey=>?_;subst ey;refine G0 (fun rest p=>∃i k s2 s3 s4,p=[.f (.lst (zs.map .int)),.o (Zg zs i k),s2,s3,s4]) ⟨_,_,_,_,_,rfl⟩ (fun x rest p D' hi nx _=>?_) fun p hi=>?_
 .obtain⟨i,k,s2,s3,s4,rfl⟩:=hi;refine Zk hD fun y ⟨ts,i,k,h,ey⟩=>?_;subst ey;have l:=h.l;have hr:Row ts.reverse:=⟨by rw[List.length_reverse];exact l,fun t m=>h.m t (List.mem_reverse.mp m)⟩
  obtain⟨a,b,c⟩:=Qj (d:=7) (w:=23784) (ts:=ts) fun t m=>by
   obtain⟨ns,r,XY,rfl,mm⟩:=h.m t m;exact mm.sh
  obtain⟨z,ez⟩:=rpT_ok (n:=20) (t:=.lst ts) ⟨by omega,a⟩ (show Oj ts<=_ by omega) (show Ab ts+1<=_ by omega);refine Zm (a:=Sl.f (.str z)) (by show (rpT _).map _=_;rw[ez];rfl) ?_;refine Zk (h1 h) fun y ey=>?_;subst ey;refine Zk (h2 h) fun y ey=>?_;subst ey;refine Zk (hA (dg ts)) fun y ey=>?_;subst ey;refine Zk (hL h) fun y ⟨i,k,ey⟩=>?_;subst ey;refine Zk (h1 hr) fun y ey=>?_;subst ey;refine Zk (h2 hr) fun y ey=>?_;subst ey;refine Zk (hA (dg _)) fun y ey=>?_;subst ey;refine Zm (a:=Sl.f (.str z)) (by show (rpT _).map _=_;rw[ez];rfl) ?_;refine Zz (b:=!decide (z=z)) (fun e=>absurd (Ml rfl) (by rw[Xn e];exact fun z=>nomatch z)) fun _=>?_;exact nx _ ⟨_,_,_,_,_,rfl⟩
 .obtain⟨i,k,s2,s3,s4,rfl⟩:=hi;exact rt _ _ rfl
noncomputable def tabA:List (Str×Df):=[("is_whole",Vr),("is_item_whole",Y1),("is_number",U7),("is_text",De),("is_name",Ug),("rises",N4),("is_shape",Gg),("are_bounds",Uv),("are_members",Yi),("is_struck",U6),("is_short_tuple",Yr),("is_field",Gf),("is_default",Uw),("is_arm",N6),("is_single_value",Yg),("member_of",U0),("may_be_left_out",Yv),("is_make",D1),("form_of",Um),("is_form",Ub),("are_forms",U8),("fits_in",D3),("ofs_of",N5),("fits_default",Vb)]
noncomputable def tabB:List (Str×Df):=("cannot_follow",Y3)::("break_between",Y4)::("is_turned",U5)::("life_in",Uk)::("fault_of",Gb)::("is_deed",D2)::("fault_of_form",Y2)::("is_thing_for",Vf)::("fault_of_member",Yf)::("is_name_beside",Ys)::("is_narrower",Va)::("shape_behind",Vk)::("renamed",Di)::("_law_tape",Gz)::("_law_draw",Gy)::("_law_plain",U2)::("_law_default",Vu)::("_law_part",Gx)::("_law_parted",Uj)::("_law_plains",Uq)::("_law_make",Gw)::("_law_alike",Vz)::("_law_near",Gj)::("_law_turned",Ux)::("_law_next",Gq)::("_law_deed",Gk)::("_law_form_word",Y0)::("_law_follow_word",Yk)::("first_wrong",Vo)::("number_lives",Vg)::("_law_life",Gv)::("_law_drawn",U4)::("_law_first",U3)::("_law_lives_right",Yy)::("law",El)::("done",Pf)::("_law_tried",U1)::[]
def tabL:List (Str×Df):=tabA++tabB
noncomputable def tab(f:Str):Option Df:=(tabL.find? fun p=>decide (p.1=f)).map (·.2)
noncomputable def gl(x:Str):Option T:=if x = "LETTERS" then some (.str LET) else if x = "SIGNS" then some (.str SIG) else if x = "GREATEST_WHOLE" then some (.int 1000000000000000000) else if x = "GREATEST_NUMBER" then some (.int 999) else if x = "LONGEST_TEXT" then some (.int 200) else if x = "LONGEST_NAME" then some (.int 8) else if x = "MOST_PARTS" then some (.int 20) else if x = "MOST_FIELDS" then some (.int 8) else if x = "MOST_FORMS" then some (.int 8) else if x = "is_field" then some (.fn x) else if x = "is_arm" then some (.fn x) else none
abbrev C(n:Nat):Cs:=Cn tab gl n
structure Lv(n:Nat)(D:Cs):Prop where
 e:D=C n
theorem Yu{n:Nat}{D:Cs}{f:Str}{d:Df}{as:List Sl}{Q:Sl×ZZ->Prop}(lv:Lv (n+1) D)(h:∀D xe,Lv n D->wF d ⟨D,gl,xe⟩ as Q)(e:tab f=some d:=by kernel_rfl):cN (D f as) Q:=by
 obtain rfl:=lv.e;exact callW e fun xe=>h _ xe ⟨rfl⟩
theorem cnX{n:Nat}{D:Cs}{f:Str}{d:Df}{as:List Sl}{Q:Sl×ZZ->Prop}{Z:Fb->Prop}(lv:Lv (n+1) D)(h:∀D (X:Fb->Prop),(∀e,Z e->X e)->Lv n D->wF d ⟨D,gl,fun e _=>X e⟩ as Q)(e:tab f=some d:=by kernel_rfl):cNX (D f as) Q Z:=by
 obtain rfl:=lv.e;exact callWX e fun X hz=>h _ X hz ⟨rfl⟩
theorem gG:GL gl:=⟨by kernel_rfl,by kernel_rfl,by kernel_rfl,by kernel_rfl,by kernel_rfl,by kernel_rfl,by kernel_rfl,by kernel_rfl,by kernel_rfl,by kernel_rfl,by kernel_rfl⟩
theorem Ul(n:Nat){D:Cs}(lv:Lv (n+1) D):Vm D:=fun a b=>Yu (d:=Gy) lv fun D xe lv=>Zzp a b
theorem p_wI(n:Nat){D:Cs}(lv:Lv (n+1) D):Bm (cl D "is_whole"):=Yu (d:=Vr) lv fun D xe lv=>zu (w:=⟨D,gl,xe⟩)
theorem p_wh(n:Nat){D:Cs}(lv:Lv (n+1) D):A7 (cl D "is_whole"):=fun h=>Yu (d:=Vr) lv fun D xe lv=>wa (w:=⟨D,gl,xe⟩)  h
theorem p_iw(n:Nat){D:Cs}(lv:Lv (n+2) D):PItW (cl D "is_item_whole"):=Yu (d:=Y1) lv fun D xe lv=>Qu (w:=⟨D,gl,xe⟩) gG (p_wI n lv)
theorem p_nu(n:Nat){D:Cs}(lv:Lv (n+2) D):ng (cl D "is_number"):=Yu (d:=U7) lv fun D xe lv=>xa (w:=⟨D,gl,xe⟩) gG (p_wI n lv)
theorem p_tx(n:Nat){D:Cs}(lv:Lv (n+1) D):nv (cl D "is_text"):=fun h=>Yu (d:=De) lv fun D xe lv=>sv (w:=⟨D,gl,xe⟩) gG h
theorem xp(n:Nat){D:Cs}(lv:Lv (n+1) D):Te (cl D "is_name"):=fun h=>Yu (d:=Ug) lv fun D xe lv=>oa (w:=⟨D,gl,xe⟩) gG h
theorem p_sh(n:Nat){D:Cs}(lv:Lv (n+1) D):P6 (cl D "is_short_tuple"):=Yu (d:=Yr) lv fun D xe lv=>v9 (w:=⟨D,gl,xe⟩) gG
theorem p_ri(n:Nat){D:Cs}(lv:Lv (n+1) D):Zxw (cl D "rises"):=⟨Yu (d:=N4) lv fun D xe lv=>(O2 (w:=⟨D,gl,xe⟩)).1,Yu (d:=N4) lv fun D xe lv=>(O2 (w:=⟨D,gl,xe⟩)).2⟩
theorem p_st(n:Nat){D:Cs}(lv:Lv (n+3) D):PStk (cl D "is_struck"):=Yu (d:=U6) lv fun D xe lv=>xj (w:=⟨D,gl,xe⟩) (p_sh (n+1) lv) (p_nu n lv) (p_ri (n+1) lv)
theorem p_df(n:Nat){D:Cs}(lv:Lv (n+1) D):Mn (cl D "is_default") fun t=>∃ds,t=.tup ds:=fun h=>Yu (d:=Uw) lv fun D xe lv=>Ec (w:=⟨D,gl,xe⟩)  h
theorem p_ar(n:Nat){D:Cs}(lv:Lv (n+3) D):Mn (cl D "is_arm") fun t=>∃n x o,Sm x/\o.length<=sizeLine/\t=.tup [.int n,.str x,.str o]:=fun h=>Yu (d:=N6) lv fun D xe lv=>Zz9 (w:=⟨D,gl,xe⟩) (p_nu n lv) (xp (n+1) lv) h
theorem p_fi(n:Nat){D:Cs}(lv:Lv (n+4) D):Mn (cl D "is_field") fun t=>∃n x o ds,Sm x/\o.length<=sizeLine/\t=.tup [.int n,.str x,.str o,.tup ds]:=fun h=>Yu (d:=Gf) lv fun D xe lv=>qo (w:=⟨D,gl,xe⟩) (p_ar n lv) (p_df (n+2) lv) h
theorem p_mF(n:Nat){D:Cs}(lv:Lv (n+5) D):Zxy (cl D "are_members") true "is_field" := fun {ns ps zs} hs hp=>Yu (d:=Yi) lv fun D xe lv=>Ru (w:=⟨D,gl,xe⟩) (p_sh (n+3) lv) (p_ri (n+3) lv) (p_st (n+1) lv) hp fun p h=>by
 cases h with | mk hn hx ho hd=>cases hd;exact p_fi n lv ⟨_,_,_,_,hx,(hs _ ho).z,rfl⟩
theorem p_mA(n:Nat){D:Cs}(lv:Lv (n+5) D):Zxy (cl D "are_members") false "is_arm" := fun {ns ps zs} hs hp=>Yu (d:=Yi) lv fun D xe lv=>Ru (w:=⟨D,gl,xe⟩) (p_sh (n+3) lv) (p_ri (n+3) lv) (p_st (n+1) lv) hp fun p h=>by
 cases h with | mk hn hx ho hd=>cases hd;exact p_ar (n+1) lv ⟨_,_,_,hx,(hs _ ho).z,rfl⟩
theorem p_bd(n:Nat){D:Cs}(lv:Lv (n+3) D):PBnd (cl D "are_bounds"):=Yu (d:=Uv) lv fun D xe lv=>jc (w:=⟨D,gl,xe⟩) (p_iw n lv)
theorem p_sp(n:Nat){D:Cs}(lv:Lv (n+6) D):ny (cl D "is_shape"):=fun a b=>Yu (d:=Gg) lv fun D xe lv=>yz (w:=⟨D,gl,xe⟩) gG (p_bd (n+2) lv) (p_wI (n+4) lv) (xp (n+4) lv) (p_mF n lv) (p_mA n lv) a b
theorem p_sg(n:Nat){D:Cs}(lv:Lv (n+2) D):PSng (cl D "is_single_value"):=fun a b=>Yu (d:=Yg) lv fun D xe lv=>xy (w:=⟨D,gl,xe⟩) (p_wh n lv) (p_tx n lv) a b
theorem au(n:Nat){D:Cs}(lv:Lv (n+1) D):ja (cl D "member_of"):=fun a=>Yu (d:=U0) lv fun D xe lv=>xo (w:=⟨D,gl,xe⟩)  a
theorem p_fo(n:Nat){D:Cs}(lv:Lv (n+1) D):nr (cl D "form_of"):=fun a=>Yu (d:=Um) lv fun D xe lv=>Zzd (w:=⟨D,gl,xe⟩)  a
theorem p_of(n:Nat){D:Cs}(lv:Lv (n+1) D):POfs (cl D "ofs_of"):=fun a=>Yu (d:=N5) lv fun D xe lv=>ofs_ok (w:=⟨D,gl,xe⟩)  a
theorem p_fd(n:Nat){D:Cs}(lv:Lv (n+3) D):PFd (cl D "fits_default"):=fun a b c=>Yu (d:=Vb) lv fun D xe lv=>tv (w:=⟨D,gl,xe⟩) (p_sg n lv) a b c
theorem p_fn(n:Nat){D:Cs}(lv:Lv (n+4) D):PFi (cl D "fits_in"):=fun a b=>Yu (d:=D3) lv fun D xe lv=>tj (w:=⟨D,gl,xe⟩) (p_of (n+2) lv) (p_fd n lv) a b
theorem p_fs(n:Nat){D:Cs}(lv:Lv (n+7) D):PFms (cl D "are_forms"):=fun a=>Yu (d:=U8) lv fun D xe lv=>dh (w:=⟨D,gl,xe⟩) gG (xp (n+5) lv) (p_sp n lv) a
theorem p_mk(n:Nat){D:Cs}(lv:Lv (n+8) D):PMk (cl D "is_make"):=fun a b=>Yu (d:=D1) lv fun D xe lv=>qw (w:=⟨D,gl,xe⟩) (p_fs n lv) (xp (n+6) lv) (p_fn (n+3) lv) a b
theorem p_pl(n:Nat){D:Cs}(lv:Lv (n+2) D):PPl (cl D "_law_plain"):=fun a b c=>Yu (d:=U2) lv fun D xe lv=>kq (w:=⟨D,gl,xe⟩) (Ul n lv) a b c
theorem p_de(n:Nat){D:Cs}(lv:Lv (n+2) D):PDf (cl D "_law_default"):=fun a=>Yu (d:=Vu) lv fun D xe lv=>Ad (w:=⟨D,gl,xe⟩) (Ul n lv) a
theorem p_pa(n:Nat){D:Cs}(lv:Lv (n+3) D):Bd (cl D "_law_part"):=fun a b c d e=>Yu (d:=Gx) lv fun D xe lv=>ah (w:=⟨D,gl,xe⟩) (Ul (n+1) lv) (p_de n lv) a b c d e
theorem p_pd(n:Nat){D:Cs}(lv:Lv (n+4) D):PPd (cl D "_law_parted"):=fun a b c d=>Yu (d:=Uj) lv fun D xe lv=>xh (w:=⟨D,gl,xe⟩) (Ul (n+2) lv) (p_pa n lv) a b c d
theorem p_ps(n:Nat){D:Cs}(lv:Lv (n+1) D):PPs (cl D "_law_plains"):=fun a=>Yu (d:=Uq) lv fun D xe lv=>xr (w:=⟨D,gl,xe⟩)  a
theorem p_ma(n:Nat){D:Cs}(lv:Lv (n+5) D):nc (cl D "_law_make"):=Yu (d:=Gw) lv fun D xe lv=>iz (w:=⟨D,gl,xe⟩) (Ul (n+3) lv) (p_pl (n+2) lv) (p_pd n lv)
theorem p_ne(n:Nat){D:Cs}(lv:Lv (n+2) D):PNr (cl D "_law_near"):=fun a=>Yu (d:=Gj) lv fun D xe lv=>oh (w:=⟨D,gl,xe⟩) (Ul n lv) a
theorem p_tu(n:Nat){D:Cs}(lv:Lv (n+9) D):PTn (cl D "_law_turned"):=fun a=>Yu (d:=Ux) lv fun D xe lv=>zo (w:=⟨D,gl,xe⟩) (Ul (n+7) lv) (p_pl (n+6) lv) (p_pa (n+5) lv) (p_ps (n+7) lv) (p_ne (n+6) lv) (p_mk n lv) a
theorem p_nx(n:Nat){D:Cs}(lv:Lv (n+10) D):PNx (cl D "_law_next"):=fun a=>Yu (d:=Gq) lv fun D xe lv=>og (w:=⟨D,gl,xe⟩) (Ul (n+8) lv) (p_tu n lv) a
theorem p_lf(n:Nat){D:Cs}(lv:Lv (n+2) D):PLf (cl D "life_in"):=fun a b c=>Yu (d:=Uk) lv fun D xe lv=>Qs (w:=⟨D,gl,xe⟩) (au n lv) a b c
theorem p_tr(n:Nat){D:Cs}(lv:Lv (n+1) D):PTr (cl D "is_turned"):=fun a b=>Yu (d:=U5) lv fun D xe lv=>Sn (w:=⟨D,gl,xe⟩) a b
theorem p_bw(n:Nat){D:Cs}(lv:Lv (n+3) D):PBw (cl D "break_between"):=fun a b=>Yu (d:=Y4) lv fun D xe lv=>cn (w:=⟨D,gl,xe⟩) (au (n+1) lv) (p_lf n lv) (p_tr (n+1) lv) a b
theorem p_f2(n:Nat){D:Cs}(lv:Lv (n+1) D):nh (cl D "form_of"):=Yu (d:=Um) lv fun D xe lv=>du (w:=⟨D,gl,xe⟩)
theorem p_cf(n:Nat){D:Cs}(lv:Lv (n+4) D):PCf (cl D "cannot_follow"):=fun a b=>Yu (d:=Y3) lv fun D xe lv=>qu (w:=⟨D,gl,xe⟩) (p_f2 (n+2) lv) (p_bw n lv) a b
theorem p_fw(n:Nat){D:Cs}(lv:Lv (n+1) D):PFw (cl D "_law_form_word"):=fun a b c=>Yu (d:=Y0) lv fun D xe lv=>dv (w:=⟨D,gl,xe⟩) a b c
theorem p_lw(n:Nat){D:Cs}(lv:Lv (n+2) D):PCf (cl D "_law_follow_word"):=fun a b=>Yu (d:=Yk) lv fun D xe lv=>Ht (w:=⟨D,gl,xe⟩) (p_fw n lv) a b
theorem p_id(n:Nat){D:Cs}(lv:Lv (n+1) D):PId (cl D "is_deed"):=fun a=>Yu (d:=D2) lv fun D xe lv=>qk (w:=⟨D,gl,xe⟩) a
theorem p_nw(n:Nat){D:Cs}(lv:Lv (n+1) D):Zxv (cl D "is_name"):=fun a=>Yu (d:=Ug) lv fun D xe lv=>Hv (w:=⟨D,gl,xe⟩) gG a
theorem p_in(n:Nat){D:Cs}(lv:Lv (n+2) D):PIfN (cl D "is_form"):=fun a=>Yu (d:=Ub) lv fun D xe lv=>Ha (w:=⟨D,gl,xe⟩) (p_nw n lv) a
theorem p_if(n:Nat){D:Cs}(lv:Lv (n+2) D):PIf (cl D "is_form"):=fun a=>Yu (d:=Ub) lv fun D xe lv=>qy (w:=⟨D,gl,xe⟩) (xp n lv) a
theorem p_ff(n:Nat){D:Cs}(lv:Lv (n+7) D):PFf (cl D "fault_of_form"):=fun a b c=>Yu (d:=Y2) lv fun D xe lv=>Pg (w:=⟨D,gl,xe⟩) (p_nw (n+5) lv) (p_in (n+4) lv) (p_sp n lv) a b c
theorem p_ml(n:Nat){D:Cs}(lv:Lv (n+1) D):PMl (cl D "may_be_left_out"):=fun a=>Yu (d:=Yv) lv fun D xe lv=>ig (w:=⟨D,gl,xe⟩) a
theorem p_th(n:Nat){D:Cs}(lv:Lv (n+7) D):PTh (cl D "is_thing_for"):=fun a b c=>Yu (d:=Vf) lv fun D xe lv=>va (w:=⟨D,gl,xe⟩) (p_fi (n+2) lv) (p_nu (n+4) lv) (xp (n+5) lv) (p_sp n lv) (p_ar (n+3) lv) a b c
theorem p_bs(n:Nat){D:Cs}(lv:Lv (n+1) D):PBs (cl D "is_name_beside"):=fun a=>Yu (d:=Ys) lv fun D xe lv=>jn (w:=⟨D,gl,xe⟩) a
theorem p_na(n:Nat){D:Cs}(lv:Lv (n+1) D):PNw (cl D "is_narrower"):=fun a b c d=>Yu (d:=Va) lv fun D xe lv=>Sv (w:=⟨D,gl,xe⟩) a b c d
theorem p_fm(n:Nat){D:Cs}(lv:Lv (n+2) D):PFm (cl D "fault_of_member"):=fun a b c d=>Yu (d:=Yf) lv fun D xe lv=>Hg (w:=⟨D,gl,xe⟩) (au n lv) (p_bs n lv) (p_ml n lv) a b c d
theorem p_ft(n:Nat){D:Cs}(lv:Lv (n+8) D):PFt (cl D "fault_of"):=fun a b=>Yu (d:=Gb) lv fun D xe lv=>td (w:=⟨D,gl,xe⟩) (p_id (n+6) lv) (p_ff n lv) (p_if (n+5) lv) (p_fo (n+6) lv) (p_th n lv) (p_na (n+6) lv) (p_fm (n+5) lv) a b
theorem p_rn(n:Nat){D:Cs}(lv:Lv (n+1) D):PRn (cl D "renamed"):=fun a b=>Yu (d:=Di) lv fun D xe lv=>Ke (w:=⟨D,gl,xe⟩) a b
theorem p_sb(n:Nat){D:Cs}(lv:Lv (n+2) D):PSb (cl D "shape_behind"):=fun a b c d=>Yu (d:=Vk) lv fun D xe lv=>jl (w:=⟨D,gl,xe⟩) (p_rn n lv) a b c d
theorem p_dn(n:Nat){D:Cs}(lv:Lv (n+9) D):Zqu D:=fun a b=>cnX (d:=Pf) lv fun D X hz lv=>Zzu (w:=⟨D,gl,fun e _=>X e⟩) (fun z p=>hz _ ⟨z,rfl⟩) (p_ft n lv) (p_f2 (n+7) lv) (p_sb (n+6) lv) (p_mk n lv) a b
theorem p_ti(n:Nat){D:Cs}(lv:Lv (n+10) D):PTr2 (cl D "_law_tried"):=fun a b=>Yu (d:=U1) lv fun D xe lv=>vr (w:=⟨D,gl,xe⟩) (p_dn n lv) a b
theorem p_dd(n:Nat){D:Cs}(lv:Lv (n+5) D):PDd (cl D "_law_deed"):=fun a=>Yu (d:=Gk) lv fun D xe lv=>Zza (w:=⟨D,gl,xe⟩) (Ul (n+3) lv) (p_ps (n+3) lv) (p_pl (n+2) lv) (p_pd n lv) (p_ne (n+2) lv) (p_pa (n+1) lv) a
theorem p_a0(n:Nat){D:Cs}(lv:Lv (n+1) D):PAl Al0 (cl D "_law_alike"):=fun a=>Yu (d:=Vz) lv fun D xe lv=>c9 (w:=⟨D,gl,xe⟩) a
theorem p_a1(n:Nat){D:Cs}(lv:Lv (n+2) D):PAl Al1 (cl D "_law_alike"):=fun a=>Yu (d:=Vz) lv fun D xe lv=>al1_ok (w:=⟨D,gl,xe⟩) (p_a0 n lv) a
theorem p_f1(n:Nat){D:Cs}(lv:Lv (n+5) D):A8 (cl D "first_wrong"):=fun a=>Yu (d:=Vo) lv fun D xe lv=>tf (w:=⟨D,gl,xe⟩) (cf2 (p_cf n lv)) a
theorem p_g1(n:Nat){D:Cs}(lv:Lv (n+3) D):A8 (cl D "_law_first"):=fun a=>Yu (d:=U3) lv fun D xe lv=>x7 (w:=⟨D,gl,xe⟩) (cf2 (p_lw n lv)) a
theorem p_l2(n:Nat){D:Cs}(lv:Lv (n+2) D):PLf2 (cl D "life_in"):=fun a=>Yu (d:=Uk) lv fun D xe lv=>bz (w:=⟨D,gl,xe⟩) (au n lv) a
theorem p_nl(n:Nat){D:Cs}(lv:Lv (n+3) D):PNl (cl D "number_lives"):=fun a=>Yu (d:=Vg) lv fun D xe lv=>ff (w:=⟨D,gl,xe⟩) (p_f2 (n+1) lv) (p_l2 n lv) a
theorem p_ll(n:Nat){D:Cs}(lv:Lv (n+1) D):PLl (cl D "_law_life"):=fun a=>Yu (d:=Gv) lv fun D xe lv=>fk (w:=⟨D,gl,xe⟩) a
theorem p_dr(n:Nat){D:Cs}(lv:Lv (n+11) D):PDrw (cl D "_law_drawn"):=Yu (d:=U4) lv fun D xe lv=>t8 (w:=⟨D,gl,xe⟩) (Ul (n+9) lv) (p_ma (n+5) lv) (p_dd (n+5) lv) (p_ti n lv) (p_nx n lv)
theorem p_lr(n:Nat){D:Cs}(lv:Lv (n+4) D):PLr (cl D "_law_lives_right"):=fun a=>Yu (d:=Yy) lv fun D xe lv=>yp (w:=⟨D,gl,xe⟩) (Ul (n+2) lv) (p_ll (n+2) lv) (p_nl n lv) (p_a1 (n+1) lv) a
theorem bc(zs:ZT):Cn tab gl 13 "law" [.f (.lst (zs.map .int))] (fun x=>x=(.f (.bl true),[])) fun _=>False :=
 (Yu (d:=El) (n:=12) (D:=C 13) ⟨rfl⟩ fun D xe lv=>law_ok (w:=⟨D,gl,xe⟩) (fun zs=>Yu (d:=Gz) lv fun D xe lv=>sy zs) (p_dr 1 lv) (p_g1 9 lv) (p_f1 7 lv) (p_a1 10 lv) (p_lr 8 lv) zs:cN (C 13 "law" [.f (.lst (zs.map .int))]) fun x=>x=(.f (.bl true),[])) _ _ fun _ h=>h
theorem Ef:FC "is_whole" (top 7) Vr:=fun X G A=>A.fc (N:=["thing","low","high"]) X G (by decide +kernel) fun _ _ _ _ _ _ us hl=>by obtain⟨_,_,_,rfl⟩:=sq hl;rfl
theorem B6:FC "is_item_whole" (top 8) Y1:=fun X G A=>A.fc (N:=["thing"]) X G (by decide +kernel) fun _ _ _ _ _ _ us hl=>by obtain⟨_,rfl⟩:=D7 hl;rfl
theorem Py:FC "is_number" (top 9) U7:=fun X G A=>A.fc (N:=["thing"]) X G (by decide +kernel) fun _ _ _ _ _ _ us hl=>by obtain⟨_,rfl⟩:=D7 hl;rfl
theorem Ax:FC "is_text" (top 10) De:=fun X G A=>A.fc (N:=["thing","most"]) X G (by decide +kernel) fun _ _ _ _ _ _ us hl=>by obtain⟨_,_,rfl⟩:=Jk hl;rfl
theorem Aq:FC "is_name" (top 11) Ug:=fun X G A=>A.fc (N:=["thing"]) X G (by decide +kernel) fun _ _ _ _ _ _ us hl=>by obtain⟨_,rfl⟩:=D7 hl;rfl
theorem tm:FC "rises" (top 12) N4:=fun X G A=>A.fc (N:=["things"]) X G (by decide +kernel) fun _ _ _ _ _ _ us hl=>by obtain⟨_,rfl⟩:=D7 hl;rfl
theorem Eb:FC "is_shape" (top 16) Gg:=fun X G A=>A.fc (N:=["thing","sort"]) X G (by decide +kernel) fun _ _ _ _ _ _ us hl=>by obtain⟨_,rfl⟩:=D7 hl;rfl
theorem Lw:FC "are_bounds" (top 17) Uv:=fun X G A=>A.fc (N:=["low","high"]) X G (by decide +kernel) fun _ _ _ _ _ _ us hl=>by obtain⟨_,_,rfl⟩:=Jk hl;rfl
theorem Wq:FC "are_members" (top 18) Yi:=fun X G A=>A.fc (N:=["members","struck","is_member","numbers","names"]) X G (by decide +kernel) fun _ _ _ _ _ _ us hl=>by obtain⟨_,_,_,rfl⟩:=sq hl;rfl
theorem Pw:FC "is_struck" (top 19) U6:=fun X G A=>A.fc (N:=["thing","taken"]) X G (by decide +kernel) fun _ _ _ _ _ _ us hl=>by obtain⟨_,_,rfl⟩:=Jk hl;rfl
theorem Nu:FC "is_short_tuple" (top 20) Yr:=fun X G A=>A.fc (N:=["thing"]) X G (by decide +kernel) fun _ _ _ _ _ _ us hl=>by obtain⟨_,rfl⟩:=D7 hl;rfl
theorem Em:FC "is_field" (top 21) Gf:=fun X G A=>A.fc (N:=["thing"]) X G (by decide +kernel) fun _ _ _ _ _ _ us hl=>by obtain⟨_,rfl⟩:=D7 hl;rfl
theorem Lj:FC "is_default" (top 22) Uw:=fun X G A=>A.fc (N:=["thing"]) X G (by decide +kernel) fun _ _ _ _ _ _ us hl=>by obtain⟨_,rfl⟩:=D7 hl;rfl
theorem qe:FC "is_arm" (top 23) N6:=fun X G A=>A.fc (N:=["thing"]) X G (by decide +kernel) fun _ _ _ _ _ _ us hl=>by obtain⟨_,rfl⟩:=D7 hl;rfl
theorem M0:FC "is_single_value" (top 24) Yg:=fun X G A=>A.fc (N:=["shape","thing"]) X G (by decide +kernel) fun _ _ _ _ _ _ us hl=>by obtain⟨_,_,rfl⟩:=Jk hl;rfl
theorem Q7:FC "member_of" (top 25) U0:=fun X G A=>A.fc (N:=["shape","number","member"]) X G (by decide +kernel) fun _ _ _ _ _ _ us hl=>by obtain⟨_,_,rfl⟩:=Jk hl;rfl
theorem Mo:FC "may_be_left_out" (top 26) Yv:=fun X G A=>A.fc (N:=["field"]) X G (by decide +kernel) fun _ _ _ _ _ _ us hl=>by obtain⟨_,rfl⟩:=D7 hl;rfl
theorem Aj:FC "is_make" (top 29) D1:=fun X G A=>A.fc (N:=["thing","root","forms"]) X G (by decide +kernel) fun _ _ _ _ _ _ us hl=>by obtain⟨_,rfl⟩:=D7 hl;rfl
theorem Ay:FC "form_of" (top 30) Um:=fun X G A=>A.fc (N:=["make","name"]) X G (by decide +kernel) fun _ _ _ _ _ _ us hl=>by obtain⟨_,_,rfl⟩:=Jk hl;rfl
theorem Aw:FC "is_form" (top 31) Ub:=fun X G A=>A.fc (N:=["make","thing"]) X G (by decide +kernel) fun _ _ _ _ _ _ us hl=>by obtain⟨_,_,rfl⟩:=Jk hl;rfl
theorem Pk:FC "are_forms" (top 32) U8:=fun X G A=>A.fc (N:=["thing"]) X G (by decide +kernel) fun _ _ _ _ _ _ us hl=>by obtain⟨_,rfl⟩:=D7 hl;rfl
theorem Ak:FC "fits_in" (top 33) D3:=fun X G A=>A.fc (N:=["shape","forms"]) X G (by decide +kernel) fun _ _ _ _ _ _ us hl=>by obtain⟨_,_,rfl⟩:=Jk hl;rfl
theorem qi:FC "ofs_of" (top 34) N5:=fun X G A=>A.fc (N:=["shape"]) X G (by decide +kernel) fun _ _ _ _ _ _ us hl=>by obtain⟨_,rfl⟩:=D7 hl;rfl
theorem Cq:FC "fits_default" (top 35) Vb:=fun X G A=>A.fc (N:=["field","forms","default","shape"]) X G (by decide +kernel) fun _ _ _ _ _ _ us hl=>by obtain⟨_,_,rfl⟩:=Jk hl;rfl
theorem B8:FC "cannot_follow" (top 37) Y3:=fun X G A=>A.fc (N:=["make","other","name","word"]) X G (by decide +kernel) fun _ _ _ _ _ _ us hl=>by obtain⟨_,_,rfl⟩:=Jk hl;rfl
theorem Wx:FC "first_wrong" (top 38) Vo:=fun X G A=>A.fc (N:=["makes","place","word"]) X G (by decide +kernel) fun _ _ _ _ _ _ us hl=>by obtain⟨_,rfl⟩:=D7 hl;rfl
theorem T9:FC "number_lives" (top 39) Vg:=fun X G A=>A.fc (N:=["makes","form","number"]) X G (by decide +kernel) fun _ _ _ _ _ _ us hl=>by obtain⟨_,_,_,rfl⟩:=sq hl;rfl
theorem B9:FC "break_between" (top 40) Y4:=fun X G A=>A.fc (N:=["shape","later"]) X G (by decide +kernel) fun _ _ _ _ _ _ us hl=>by obtain⟨_,_,rfl⟩:=Jk hl;rfl
theorem Pj:FC "is_turned" (top 41) U5:=fun X G A=>A.fc (N:=["member","later_member"]) X G (by decide +kernel) fun _ _ _ _ _ _ us hl=>by obtain⟨_,_,rfl⟩:=Jk hl;rfl
theorem Az:FC "life_in" (top 42) Uk:=fun X G A=>A.fc (N:=["shape","number"]) X G (by decide +kernel) fun _ _ _ _ _ _ us hl=>by obtain⟨_,_,rfl⟩:=Jk hl;rfl
theorem Zzn:FC "done" (top 49) Pf:=fun X G A=>A.fc (N:=["make","deed","word","forms","told"]) X G (by decide +kernel) fun _ _ _ _ _ _ us hl=>by obtain⟨_,_,rfl⟩:=Jk hl;rfl
theorem Ed:FC "fault_of" (top 50) Gb:=fun X G A=>A.fc (N:=["make","deed","shape"]) X G (by decide +kernel) fun _ _ _ _ _ _ us hl=>by obtain⟨_,_,rfl⟩:=Jk hl;rfl
theorem Av:FC "is_deed" (top 51) D2:=fun X G A=>A.fc (N:=["thing"]) X G (by decide +kernel) fun _ _ _ _ _ _ us hl=>by obtain⟨_,rfl⟩:=D7 hl;rfl
theorem B7:FC "fault_of_form" (top 52) Y2:=fun X G A=>A.fc (N:=["make","deed"]) X G (by decide +kernel) fun _ _ _ _ _ _ us hl=>by obtain⟨_,_,rfl⟩:=Jk hl;rfl
theorem Cz:FC "is_thing_for" (top 53) Vf:=fun X G A=>A.fc (N:=["deed","word"]) X G (by decide +kernel) fun _ _ _ _ _ _ us hl=>by obtain⟨_,rfl⟩:=D7 hl;rfl
theorem M3:FC "fault_of_member" (top 54) Yf:=fun X G A=>A.fc (N:=["shape","deed","word","number"]) X G (by decide +kernel) fun _ _ _ _ _ _ us hl=>by obtain⟨_,_,rfl⟩:=Jk hl;rfl
theorem Na:FC "is_name_beside" (top 55) Ys:=fun X G A=>A.fc (N:=["shape","number","name"]) X G (by decide +kernel) fun _ _ _ _ _ _ us hl=>by obtain⟨_,_,_,rfl⟩:=sq hl;rfl
theorem Wz:FC "is_narrower" (top 56) Va:=fun X G A=>A.fc (N:=["shape","other_shape","sort"]) X G (by decide +kernel) fun _ _ _ _ _ _ us hl=>by obtain⟨_,_,rfl⟩:=Jk hl;rfl
theorem T8:FC "shape_behind" (top 57) Vk:=fun X G A=>A.fc (N:=["shape","deed","word","members","struck"]) X G (by decide +kernel) fun _ _ _ _ _ _ us hl=>by obtain⟨_,_,rfl⟩:=Jk hl;rfl
theorem H9:FC "renamed" (top 59) Di:=fun X G A=>A.fc (N:=["member","number","name"]) X G (by decide +kernel) fun _ _ _ _ _ _ us hl=>by obtain⟨_,_,_,rfl⟩:=sq hl;rfl
theorem S9:FC "_law_tape" (top 61) Gz:=fun X G A=>A.fc (N:=["_law_script"]) X G (by decide +kernel) fun _ _ _ _ _ _ us hl=>by obtain⟨_,rfl⟩:=D7 hl;rfl
theorem Ek:FC "_law_draw" (top 62) Gy:=fun X G A=>A.fc (N:=["_law_tape_here","_law_many","_law_spot","_law_cell","_law_mixed","_law_found"]) X G (by decide +kernel) fun _ _ _ _ _ _ us hl=>by obtain⟨_,_,rfl⟩:=Jk hl;rfl
theorem Q9:FC "_law_plain" (top 63) U2:=fun X G A=>A.fc (N:=["_law_tape_here","_law_sort","_law_names","_law_low"]) X G (by decide +kernel) fun _ _ _ _ _ _ us hl=>by obtain⟨_,_,_,rfl⟩:=sq hl;rfl
theorem R9:FC "_law_default" (top 64) Vu:=fun X G A=>A.fc (N:=["_law_tape_here","_law_shape"]) X G (by decide +kernel) fun _ _ _ _ _ _ us hl=>by obtain⟨_,_,rfl⟩:=Jk hl;rfl
theorem Ez:FC "_law_part" (top 65) Gx:=fun X G A=>A.fc (N:=["_law_tape_here","_law_sort","_law_number","_law_plain_here","_law_names","_law_called","_law_of"]) X G (by decide +kernel) fun _ _ _ _ _ _ us hl=>by obtain⟨_,_,_,_,_,rfl⟩:=us5 hl;rfl
theorem Lq:FC "_law_parted" (top 66) Uj:=fun X G A=>A.fc (N:=["_law_tape_here","_law_sort","_law_plain_here","_law_names","_law_some","_law_at","_law_many","_law_parts","_law_shape"]) X G (by decide +kernel) fun _ _ _ _ _ _ us hl=>by obtain⟨_,_,_,_,rfl⟩:=us4 hl;rfl
theorem Lx:FC "_law_plains" (top 67) Uq:=fun X G A=>A.fc (N:=["_law_forms","_law_plain_here","_law_name"]) X G (by decide +kernel) fun _ _ _ _ _ _ us hl=>by obtain⟨_,rfl⟩:=D7 hl;rfl
theorem Ew:FC "_law_make" (top 68) Gw:=fun X G A=>A.fc (N:=["_law_tape_here","_law_words","_law_at","_law_names","_law_sorts","_law_forms","_law_left","_law_name","_law_sort","_law_plain_here"]) X G (by decide +kernel) fun _ _ _ _ _ _ us hl=>by obtain⟨_,rfl⟩:=D7 hl;rfl
theorem Pq:FC "_law_alike" (top 69) Vz:=fun X G A=>A.fc (N:=["_law_due","_law_found"]) X G (by decide +kernel) fun _ _ _ _ _ _ us hl=>by obtain⟨_,_,rfl⟩:=Jk hl;rfl
theorem Ej:FC "_law_near" (top 70) Gj:=fun X G A=>A.fc (N:=["_law_tape_here","_law_shape","_law_one"]) X G (by decide +kernel) fun _ _ _ _ _ _ us hl=>by obtain⟨_,_,rfl⟩:=Jk hl;rfl
theorem Lz:FC "_law_turned" (top 71) Ux:=fun X G A=>A.fc (N:=["_law_tape_here","_law_make_here","_law_names","_law_name","_law_shape","_law_forms","_law_plain_here","_law_way","_law_parts","_law_struck","_law_rest","_law_at","_law_gone","_law_part_here","_law_made"]) X G (by decide +kernel) fun _ _ _ _ _ _ us hl=>by obtain⟨_,_,rfl⟩:=Jk hl;rfl
theorem Ex:FC "_law_next" (top 72) Gq:=fun X G A=>A.fc (N:=["_law_tape_here","_law_make_here","_law_most","_law_k"]) X G (by decide +kernel) fun _ _ _ _ _ _ us hl=>by obtain⟨_,_,_,rfl⟩:=sq hl;rfl
theorem Eg:FC "_law_deed" (top 73) Gk:=fun X G A=>A.fc (N:=["_law_tape_here","_law_make_here","_law_names","_law_name","_law_shape","_law_plain_here","_law_number","_law_way","_law_sort","_law_called","_law_numbers","_law_there"]) X G (by decide +kernel) fun _ _ _ _ _ _ us hl=>by obtain⟨_,_,rfl⟩:=Jk hl;rfl
theorem Q8:FC "_law_tried" (top 74) U1:=fun X G A=>A.fc (N:=["_law_make_here","_law_deed_here","_law_told","e"]) X G (by decide +kernel) fun _ _ _ _ _ _ us hl=>by obtain⟨_,_,rfl⟩:=Jk hl;rfl
theorem B5:FC "_law_form_word" (top 75) Y0:=fun X G A=>A.fc (N:=["_law_shape","_law_there","_law_mine","_law_theirs"]) X G (by decide +kernel) fun _ _ _ _ _ _ us hl=>by obtain⟨_,_,rfl⟩:=Jk hl;rfl
theorem Me:FC "_law_follow_word" (top 76) Yk:=fun X G A=>A.fc (N:=["_law_make_here","_law_other","_law_words"]) X G (by decide +kernel) fun _ _ _ _ _ _ us hl=>by obtain⟨_,_,rfl⟩:=Jk hl;rfl
theorem Ey:FC "_law_life" (top 77) Gv:=fun X G A=>A.fc (N:=["_law_make_here","_law_form","_law_number","_law_shape"]) X G (by decide +kernel) fun _ _ _ _ _ _ us hl=>by obtain⟨_,_,_,rfl⟩:=sq hl;rfl
theorem Px:FC "_law_drawn" (top 78) U4:=fun X G A=>A.fc (N:=["_law_tape_here","_law_row","_law_k","_law_make_here","_law_told"]) X G (by decide +kernel) fun _ _ _ _ _ _ us hl=>by obtain⟨_,rfl⟩:=D7 hl;rfl
theorem Pz:FC "_law_first" (top 79) U3:=fun X G A=>A.fc (N:=["_law_row","_law_k","_law_word"]) X G (by decide +kernel) fun _ _ _ _ _ _ us hl=>by obtain⟨_,rfl⟩:=D7 hl;rfl
theorem Mi:FC "_law_lives_right" (top 80) Yy:=fun X G A=>A.fc (N:=["_law_tape_here","_law_row","_law_names","_law_make_here","_law_k","_law_name","_law_number","_law_due","_law_found"]) X G (by decide +kernel) fun _ _ _ _ _ _ us hl=>by obtain⟨_,_,rfl⟩:=Jk hl;rfl
theorem fc_law:FC "law" (top 81) El:=fun X G A=>A.fc (N:=["_law_script","_law_tape_here","_law_k","_law_row","_law_ahead"]) X G (by decide +kernel) fun _ _ _ _ _ _ us hl=>by obtain⟨_,rfl⟩:=D7 hl;rfl
set_option maxHeartbeats 0 in
theorem all_mk{P:Program}{w:World}{K:W.Frag}{h:Heap}{mg:ZJ}{f1 f2 f3 f4 f5 f6 f7 f8 f9 f10 f11 f12 f13 f14 f15 f16 f17 f18 f19 f20 f21 f22 f23 f24 f25 f26 f27 f28 f29 f30 f31 f32 f33 f34 f35 f36 f37 f38 f39 f40 f41 f42 f43 f44 f45 f46 f47 f48 f49 f50 f51 f52 f53 f54 f55 f56 f57 f58 f59 f60 f61 f62:Addr}{d1 d2 d3 d4 d5 d6 d7 d8 d9 d10 d11 d12 d13 d14 d15 d16 d17 d18 d19 d20 d21 d22 d23 d24 d25 d26 d27 d28 d29 d30 d31 d32 d33 d34 d35 d36 d37 d38 d39 d40 d41 d42 d43 d44 d45 d46 d47 d48 d49 d50 d51 d52 d53 d54 d55 d56 d57 d58 d59 d60 d61 d62:FuncData}{tk0 tk1 tk2 tk3 tk4 tk5 tk6 tk7 tk8:Tok}{mMakeError:Addr}{xBadDeed iBadDeed:Addr}{aSIZES:Addr}{esSIZES:Array DictEntry}{nSIZES:Nat}{aSORTS_FOR:Addr}{esSORTS_FOR:Array DictEntry}{nSORTS_FOR:Nat}(X:K.In h)(G:h.Ns mainGlobals mg)
  (h1:FA K "is_whole" (top 7) f1 d1)
  (h2:FA K "is_item_whole" (top 8) f2 d2)
  (h3:FA K "is_number" (top 9) f3 d3)
  (h4:FA K "is_text" (top 10) f4 d4)
  (h5:FA K "is_name" (top 11) f5 d5)
  (h6:FA K "rises" (top 12) f6 d6)
  (h7:FA K "is_shape" (top 16) f7 d7)
  (h8:FA K "are_bounds" (top 17) f8 d8)
  (h9:FA K "are_members" (top 18) f9 d9)
  (j4:FA K "is_struck" (top 19) f10 d10)
  (h11:FA K "is_short_tuple" (top 20) f11 d11)
  (h12:FA K "is_field" (top 21) f12 d12)
  (h13:FA K "is_default" (top 22) f13 d13)
  (h14:FA K "is_arm" (top 23) f14 d14)
  (h15:FA K "is_single_value" (top 24) f15 d15)
  (h16:FA K "member_of" (top 25) f16 d16)
  (h17:FA K "may_be_left_out" (top 26) f17 d17)
  (h18:FA K "is_make" (top 29) f18 d18)
  (h19:FA K "form_of" (top 30) f19 d19)
  (h20:FA K "is_form" (top 31) f20 d20)
  (h21:FA K "are_forms" (top 32) f21 d21)
  (h22:FA K "fits_in" (top 33) f22 d22)
  (h23:FA K "ofs_of" (top 34) f23 d23)
  (h24:FA K "fits_default" (top 35) f24 d24)
  (h25:FA K "cannot_follow" (top 37) f25 d25)
  (h26:FA K "first_wrong" (top 38) f26 d26)
  (h27:FA K "number_lives" (top 39) f27 d27)
  (h28:FA K "break_between" (top 40) f28 d28)
  (h29:FA K "is_turned" (top 41) f29 d29)
  (h30:FA K "life_in" (top 42) f30 d30)
  (h31:FA K "done" (top 49) f31 d31)
  (h32:FA K "fault_of" (top 50) f32 d32)
  (h33:FA K "is_deed" (top 51) f33 d33)
  (h34:FA K "fault_of_form" (top 52) f34 d34)
  (h35:FA K "is_thing_for" (top 53) f35 d35)
  (h36:FA K "fault_of_member" (top 54) f36 d36)
  (h37:FA K "is_name_beside" (top 55) f37 d37)
  (h38:FA K "is_narrower" (top 56) f38 d38)
  (h39:FA K "shape_behind" (top 57) f39 d39)
  (h40:FA K "number_of" (top 58) f40 d40)
  (h41:FA K "renamed" (top 59) f41 d41)
  (h42:FA K "_law_tape" (top 61) f42 d42)
  (h43:FA K "_law_draw" (top 62) f43 d43)
  (h44:FA K "_law_plain" (top 63) f44 d44)
  (h45:FA K "_law_default" (top 64) f45 d45)
  (h46:FA K "_law_part" (top 65) f46 d46)
  (h47:FA K "_law_parted" (top 66) f47 d47)
  (h48:FA K "_law_plains" (top 67) f48 d48)
  (h49:FA K "_law_make" (top 68) f49 d49)
  (h50:FA K "_law_alike" (top 69) f50 d50)
  (h51:FA K "_law_near" (top 70) f51 d51)
  (h52:FA K "_law_turned" (top 71) f52 d52)
  (h53:FA K "_law_next" (top 72) f53 d53)
  (h54:FA K "_law_deed" (top 73) f54 d54)
  (h55:FA K "_law_tried" (top 74) f55 d55)
  (h56:FA K "_law_form_word" (top 75) f56 d56)
  (h57:FA K "_law_follow_word" (top 76) f57 d57)
  (h58:FA K "_law_life" (top 77) f58 d58)
  (h59:FA K "_law_drawn" (top 78) f59 d59)
  (h60:FA K "_law_first" (top 79) f60 d60)
  (h61:FA K "_law_lives_right" (top 80) f61 d61)
  (h62:FA K "law" (top 81) f62 d62)
  (MMakeError:W.nsIn K mainGlobals "MakeError" = some (some (.ref mMakeError)))
  (XBadDeed:W.nsIn K mainGlobals "BadDeed" = some (some (.ref xBadDeed)))
  (IBadDeed:W.findIn K (.ref xBadDeed) "__init__" = some (some (.ref iBadDeed)))
  (JBadDeed:ji K "__init__" "BadDeed.__init__" (inClass (top 45) 0) iBadDeed)
  (FBadDeed:W.isFn K (.ref iBadDeed)=true)
  (OBadDeed:xOk K xBadDeed [.ref xBadDeed,.ref mMakeError] "word" = true)
  (eSIZES:W.nsIn K mainGlobals "SIZES" = some (some (.ref aSIZES)))
  (lSIZES:K.lookup aSIZES=some ⟨.type "dict",none,.dict esSIZES nSIZES, #[]⟩)
  (kSIZES:W.KeysLit w.params esSIZES.toList)
  (oSIZES:(aSIZES == sysModules)=false)
  (tSIZES:q8 K ((Rq "SIZES").getD []) esSIZES.toList=true)
  (eSORTS_FOR:W.nsIn K mainGlobals "SORTS_FOR" = some (some (.ref aSORTS_FOR)))
  (lSORTS_FOR:K.lookup aSORTS_FOR=some ⟨.type "dict",none,.dict esSORTS_FOR nSORTS_FOR, #[]⟩)
  (kSORTS_FOR:W.KeysLit w.params esSORTS_FOR.toList)
  (oSORTS_FOR:(aSORTS_FOR == sysModules)=false)
  (tSORTS_FOR:q8 K ((Rq "SORTS_FOR").getD []) esSORTS_FOR.toList=true)
  (Bl:W.nsIn K mainGlobals "LETTERS" = some (some (.str "abcdefghijklmnopqrstuvwxyz" tk0)))
  (Ft : W.nsIn K mainGlobals "SIGNS" = some (some (.str " !\"#$&'()*+,-./0123456789:;<=>?@ABCDEFGHIJKLMNOPQRSTUVWXYZ[\\]^_`abcdefghijklmnopqrstuvwxyz{|}~" tk1)))
  (Vn:W.nsIn K mainGlobals "GREATEST_WHOLE" = some (some (.int 1000000000000000000 tk2)))
  (Vw:W.nsIn K mainGlobals "GREATEST_NUMBER" = some (some (.int 999 tk3)))
  (Ud:W.nsIn K mainGlobals "LONGEST_TEXT" = some (some (.int 200 tk4)))
  (Ut:W.nsIn K mainGlobals "LONGEST_NAME" = some (some (.int 8 tk5)))
  (Jh:W.nsIn K mainGlobals "MOST_PARTS" = some (some (.int 20 tk6)))
  (Jz:W.nsIn K mainGlobals "MOST_FIELDS" = some (some (.int 8 tk7)))
  (Jp:W.nsIn K mainGlobals "MOST_FORMS" = some (some (.int 8 tk8)))
  (wb:W.nsIn K mainGlobals "len" = some none)
  (wc:W.nsIn K mainGlobals "all" = some none)
  (wt:W.nsIn K mainGlobals "any" = some none)
  (Ky:W.nsIn K mainGlobals "list" = some none)
  (Fm:W.nsIn K mainGlobals "tuple" = some none)
  (wk:W.nsIn K mainGlobals "min" = some none)
  (wg:W.nsIn K mainGlobals "max" = some none)
  (wm:W.nsIn K mainGlobals "int" = some none)
  (wu:W.nsIn K mainGlobals "abs" = some none)
  (Kk:W.nsIn K mainGlobals "dict" = some none)
  (Js:W.nsIn K mainGlobals "isinstance" = some none)
  (Rz:W.nsIn K mainGlobals "sorted" = some none)
  (wj:W.nsIn K mainGlobals "set" = some none)
  (Fd:W.nsIn K mainGlobals "range" = some none)
  (wz:W.nsIn K mainGlobals "zip" = some none)
  (Ge:W.nsIn K mainGlobals "enumerate" = some none)
  (wx:W.nsIn K mainGlobals "sum" = some none)
  (Kv:W.nsIn K mainGlobals "repr" = some none)
  (wq:W.nsIn K mainGlobals "str" = some none)
  (Kg:W.nsIn K mainGlobals "bool" = some none)
  : BN ⟨P,w,mg,K,h⟩/\(∀f d,tab f=some d->V9 ⟨P,w,mg,K,h⟩ f d)/\jo ⟨P,w,mg,K,h⟩ gl:=by
 have fA:∀p∈tabA,V9 ⟨P,w,mg,K,h⟩ p.1 p.2:=by
  unfold tabA;refine Zd.mpr ⟨Ef (g:=⟨P,w,mg,K,h⟩) X G h1,Zd.mpr ⟨B6 (g:=⟨P,w,mg,K,h⟩) X G h2,Zd.mpr ⟨Py (g:=⟨P,w,mg,K,h⟩) X G h3,Zd.mpr ⟨Ax (g:=⟨P,w,mg,K,h⟩) X G h4,Zd.mpr ⟨Aq (g:=⟨P,w,mg,K,h⟩) X G h5,Zd.mpr ⟨tm (g:=⟨P,w,mg,K,h⟩) X G h6,Zd.mpr ⟨Eb (g:=⟨P,w,mg,K,h⟩) X G h7,Zd.mpr ⟨Lw (g:=⟨P,w,mg,K,h⟩) X G h8,Zd.mpr ⟨Wq (g:=⟨P,w,mg,K,h⟩) X G h9,Zd.mpr ⟨Pw (g:=⟨P,w,mg,K,h⟩) X G j4,Zd.mpr ⟨Nu (g:=⟨P,w,mg,K,h⟩) X G h11,Zd.mpr ⟨Em (g:=⟨P,w,mg,K,h⟩) X G h12,Zd.mpr ⟨Lj (g:=⟨P,w,mg,K,h⟩) X G h13,Zd.mpr ⟨qe (g:=⟨P,w,mg,K,h⟩) X G h14,Zd.mpr ⟨M0 (g:=⟨P,w,mg,K,h⟩) X G h15,Zd.mpr ⟨Q7 (g:=⟨P,w,mg,K,h⟩) X G h16,Zd.mpr ⟨Mo (g:=⟨P,w,mg,K,h⟩) X G h17,Zd.mpr ⟨Aj (g:=⟨P,w,mg,K,h⟩) X G h18,Zd.mpr ⟨Ay (g:=⟨P,w,mg,K,h⟩) X G h19,Zd.mpr ⟨Aw (g:=⟨P,w,mg,K,h⟩) X G h20,Zd.mpr ⟨Pk (g:=⟨P,w,mg,K,h⟩) X G h21,Zd.mpr ⟨Ak (g:=⟨P,w,mg,K,h⟩) X G h22,Zd.mpr ⟨qi (g:=⟨P,w,mg,K,h⟩) X G h23,Zd.mpr ⟨Cq (g:=⟨P,w,mg,K,h⟩) X G h24,fun _ m=>absurd m Td⟩⟩⟩⟩⟩⟩⟩⟩⟩⟩⟩⟩⟩⟩⟩⟩⟩⟩⟩⟩⟩⟩⟩⟩
 have fB:∀p∈tabB,V9 ⟨P,w,mg,K,h⟩ p.1 p.2:=by
  unfold tabB;refine Zd.mpr ⟨B8 (g:=⟨P,w,mg,K,h⟩) X G h25,Zd.mpr ⟨B9 (g:=⟨P,w,mg,K,h⟩) X G h28,Zd.mpr ⟨Pj (g:=⟨P,w,mg,K,h⟩) X G h29,Zd.mpr ⟨Az (g:=⟨P,w,mg,K,h⟩) X G h30,Zd.mpr ⟨Ed (g:=⟨P,w,mg,K,h⟩) X G h32,Zd.mpr ⟨Av (g:=⟨P,w,mg,K,h⟩) X G h33,Zd.mpr ⟨B7 (g:=⟨P,w,mg,K,h⟩) X G h34,Zd.mpr ⟨Cz (g:=⟨P,w,mg,K,h⟩) X G h35,Zd.mpr ⟨M3 (g:=⟨P,w,mg,K,h⟩) X G h36,Zd.mpr ⟨Na (g:=⟨P,w,mg,K,h⟩) X G h37,Zd.mpr ⟨Wz (g:=⟨P,w,mg,K,h⟩) X G h38,Zd.mpr ⟨T8 (g:=⟨P,w,mg,K,h⟩) X G h39,Zd.mpr ⟨H9 (g:=⟨P,w,mg,K,h⟩) X G h41,Zd.mpr ⟨S9 (g:=⟨P,w,mg,K,h⟩) X G h42,Zd.mpr ⟨Ek (g:=⟨P,w,mg,K,h⟩) X G h43,Zd.mpr ⟨Q9 (g:=⟨P,w,mg,K,h⟩) X G h44,Zd.mpr ⟨R9 (g:=⟨P,w,mg,K,h⟩) X G h45,Zd.mpr ⟨Ez (g:=⟨P,w,mg,K,h⟩) X G h46,Zd.mpr ⟨Lq (g:=⟨P,w,mg,K,h⟩) X G h47,Zd.mpr ⟨Lx (g:=⟨P,w,mg,K,h⟩) X G h48,Zd.mpr ⟨Ew (g:=⟨P,w,mg,K,h⟩) X G h49,Zd.mpr ⟨Pq (g:=⟨P,w,mg,K,h⟩) X G h50,Zd.mpr ⟨Ej (g:=⟨P,w,mg,K,h⟩) X G h51,Zd.mpr ⟨Lz (g:=⟨P,w,mg,K,h⟩) X G h52,Zd.mpr ⟨Ex (g:=⟨P,w,mg,K,h⟩) X G h53,Zd.mpr ⟨Eg (g:=⟨P,w,mg,K,h⟩) X G h54,Zd.mpr ⟨B5 (g:=⟨P,w,mg,K,h⟩) X G h56,Zd.mpr ⟨Me (g:=⟨P,w,mg,K,h⟩) X G h57,Zd.mpr ⟨Wx (g:=⟨P,w,mg,K,h⟩) X G h26,Zd.mpr ⟨T9 (g:=⟨P,w,mg,K,h⟩) X G h27,Zd.mpr ⟨Ey (g:=⟨P,w,mg,K,h⟩) X G h58,Zd.mpr ⟨Px (g:=⟨P,w,mg,K,h⟩) X G h59,Zd.mpr ⟨Pz (g:=⟨P,w,mg,K,h⟩) X G h60,Zd.mpr ⟨Mi (g:=⟨P,w,mg,K,h⟩) X G h61,Zd.mpr ⟨fc_law (g:=⟨P,w,mg,K,h⟩) X G h62,Zd.mpr ⟨Zzn (g:=⟨P,w,mg,K,h⟩) X G h31,Zd.mpr ⟨Q8 (g:=⟨P,w,mg,K,h⟩) X G h55,fun _ m=>absurd m Td⟩⟩⟩⟩⟩⟩⟩⟩⟩⟩⟩⟩⟩⟩⟩⟩⟩⟩⟩⟩⟩⟩⟩⟩⟩⟩⟩⟩⟩⟩⟩⟩⟩⟩⟩⟩⟩
 have ft:∀p∈tabL,V9 ⟨P,w,mg,K,h⟩ p.1 p.2:=fun p m=>(Cd.mp m).elim (fA p) (fB p)
 have bl:∀x∈Dc,mg x=none:=by
  unfold Dc;refine Zd.mpr ⟨W.mg_none_of X G wb,Zd.mpr ⟨W.mg_none_of X G wc,Zd.mpr ⟨W.mg_none_of X G wt,Zd.mpr ⟨W.mg_none_of X G Ky,Zd.mpr ⟨W.mg_none_of X G Fm,Zd.mpr ⟨W.mg_none_of X G wk,Zd.mpr ⟨W.mg_none_of X G wg,Zd.mpr ⟨W.mg_none_of X G wm,Zd.mpr ⟨W.mg_none_of X G wu,Zd.mpr ⟨W.mg_none_of X G Kk,Zd.mpr ⟨W.mg_none_of X G Js,Zd.mpr ⟨W.mg_none_of X G Rz,Zd.mpr ⟨W.mg_none_of X G wj,Zd.mpr ⟨W.mg_none_of X G Fd,Zd.mpr ⟨W.mg_none_of X G wz,Zd.mpr ⟨W.mg_none_of X G Ge,Zd.mpr ⟨W.mg_none_of X G wx,Zd.mpr ⟨W.mg_none_of X G Kv,Zd.mpr ⟨W.mg_none_of X G wq,Zd.mpr ⟨W.mg_none_of X G Kg,fun _ m=>absurd m Td⟩⟩⟩⟩⟩⟩⟩⟩⟩⟩⟩⟩⟩⟩⟩⟩⟩⟩⟩⟩
 have bd:∀x∈Dg,∃a,mg x=some (.ref a)/\W.keepIn K (.ref a)=true:=by
  unfold Dg;refine Zd.mpr ⟨h1.at (g:=⟨P,w,mg,K,h⟩) X G,Zd.mpr ⟨h2.at (g:=⟨P,w,mg,K,h⟩) X G,Zd.mpr ⟨h3.at (g:=⟨P,w,mg,K,h⟩) X G,Zd.mpr ⟨h4.at (g:=⟨P,w,mg,K,h⟩) X G,Zd.mpr ⟨h5.at (g:=⟨P,w,mg,K,h⟩) X G,Zd.mpr ⟨h6.at (g:=⟨P,w,mg,K,h⟩) X G,Zd.mpr ⟨h7.at (g:=⟨P,w,mg,K,h⟩) X G,Zd.mpr ⟨h8.at (g:=⟨P,w,mg,K,h⟩) X G,Zd.mpr ⟨h9.at (g:=⟨P,w,mg,K,h⟩) X G,Zd.mpr ⟨j4.at (g:=⟨P,w,mg,K,h⟩) X G,Zd.mpr ⟨h11.at (g:=⟨P,w,mg,K,h⟩) X G,Zd.mpr ⟨h12.at (g:=⟨P,w,mg,K,h⟩) X G,Zd.mpr ⟨h13.at (g:=⟨P,w,mg,K,h⟩) X G,Zd.mpr ⟨h14.at (g:=⟨P,w,mg,K,h⟩) X G,Zd.mpr ⟨h15.at (g:=⟨P,w,mg,K,h⟩) X G,Zd.mpr ⟨h16.at (g:=⟨P,w,mg,K,h⟩) X G,Zd.mpr ⟨h17.at (g:=⟨P,w,mg,K,h⟩) X G,Zd.mpr ⟨h18.at (g:=⟨P,w,mg,K,h⟩) X G,Zd.mpr ⟨h19.at (g:=⟨P,w,mg,K,h⟩) X G,Zd.mpr ⟨h20.at (g:=⟨P,w,mg,K,h⟩) X G,Zd.mpr ⟨h21.at (g:=⟨P,w,mg,K,h⟩) X G,Zd.mpr ⟨h22.at (g:=⟨P,w,mg,K,h⟩) X G,Zd.mpr ⟨h23.at (g:=⟨P,w,mg,K,h⟩) X G,Zd.mpr ⟨h24.at (g:=⟨P,w,mg,K,h⟩) X G,Zd.mpr ⟨h25.at (g:=⟨P,w,mg,K,h⟩) X G,Zd.mpr ⟨h28.at (g:=⟨P,w,mg,K,h⟩) X G,Zd.mpr ⟨h29.at (g:=⟨P,w,mg,K,h⟩) X G,Zd.mpr ⟨h30.at (g:=⟨P,w,mg,K,h⟩) X G,Zd.mpr ⟨h32.at (g:=⟨P,w,mg,K,h⟩) X G,Zd.mpr ⟨h33.at (g:=⟨P,w,mg,K,h⟩) X G,Zd.mpr ⟨h34.at (g:=⟨P,w,mg,K,h⟩) X G,Zd.mpr ⟨h35.at (g:=⟨P,w,mg,K,h⟩) X G,Zd.mpr ⟨h36.at (g:=⟨P,w,mg,K,h⟩) X G,Zd.mpr ⟨h37.at (g:=⟨P,w,mg,K,h⟩) X G,Zd.mpr ⟨h38.at (g:=⟨P,w,mg,K,h⟩) X G,Zd.mpr ⟨h39.at (g:=⟨P,w,mg,K,h⟩) X G,Zd.mpr ⟨h41.at (g:=⟨P,w,mg,K,h⟩) X G,Zd.mpr ⟨h42.at (g:=⟨P,w,mg,K,h⟩) X G,Zd.mpr ⟨h43.at (g:=⟨P,w,mg,K,h⟩) X G,Zd.mpr ⟨h44.at (g:=⟨P,w,mg,K,h⟩) X G,Zd.mpr ⟨h45.at (g:=⟨P,w,mg,K,h⟩) X G,Zd.mpr ⟨h46.at (g:=⟨P,w,mg,K,h⟩) X G,Zd.mpr ⟨h47.at (g:=⟨P,w,mg,K,h⟩) X G,Zd.mpr ⟨h48.at (g:=⟨P,w,mg,K,h⟩) X G,Zd.mpr ⟨h49.at (g:=⟨P,w,mg,K,h⟩) X G,Zd.mpr ⟨h50.at (g:=⟨P,w,mg,K,h⟩) X G,Zd.mpr ⟨h51.at (g:=⟨P,w,mg,K,h⟩) X G,Zd.mpr ⟨h52.at (g:=⟨P,w,mg,K,h⟩) X G,Zd.mpr ⟨h53.at (g:=⟨P,w,mg,K,h⟩) X G,Zd.mpr ⟨h54.at (g:=⟨P,w,mg,K,h⟩) X G,Zd.mpr ⟨h56.at (g:=⟨P,w,mg,K,h⟩) X G,Zd.mpr ⟨h57.at (g:=⟨P,w,mg,K,h⟩) X G,Zd.mpr ⟨h26.at (g:=⟨P,w,mg,K,h⟩) X G,Zd.mpr ⟨h27.at (g:=⟨P,w,mg,K,h⟩) X G,Zd.mpr ⟨h58.at (g:=⟨P,w,mg,K,h⟩) X G,Zd.mpr ⟨h59.at (g:=⟨P,w,mg,K,h⟩) X G,Zd.mpr ⟨h60.at (g:=⟨P,w,mg,K,h⟩) X G,Zd.mpr ⟨h61.at (g:=⟨P,w,mg,K,h⟩) X G,Zd.mpr ⟨h31.at (g:=⟨P,w,mg,K,h⟩) X G,Zd.mpr ⟨h55.at (g:=⟨P,w,mg,K,h⟩) X G,Zd.mpr ⟨h40.at (g:=⟨P,w,mg,K,h⟩) X G,fun _ m=>absurd m Td⟩⟩⟩⟩⟩⟩⟩⟩⟩⟩⟩⟩⟩⟩⟩⟩⟩⟩⟩⟩⟩⟩⟩⟩⟩⟩⟩⟩⟩⟩⟩⟩⟩⟩⟩⟩⟩⟩⟩⟩⟩⟩⟩⟩⟩⟩⟩⟩⟩⟩⟩⟩⟩⟩⟩⟩⟩⟩⟩⟩⟩
 have bt:∀x XY,Rq x=some XY->TopF ⟨P,w,mg,K,h⟩ x XY:=fun x XY e=>by
  have e0:=e;unfold Rq at e0
  split at e0
  .rename_i z;subst z;cases e0;exact Ia (g:=⟨P,w,mg,K,h⟩) X G eSIZES lSIZES kSIZES oSIZES tSIZES (by decide +kernel) (by decide)
  split at e0
  .rename_i z;subst z;cases e0;exact Ia (g:=⟨P,w,mg,K,h⟩) X G eSORTS_FOR lSORTS_FOR kSORTS_FOR oSORTS_FOR tSORTS_FOR (by decide +kernel) (by decide)
  cases e0
 have bk:Dg.contains R0=true->Zxf ⟨P,w,mg,K,h⟩:=fun _=>ie (g:=⟨P,w,mg,K,h⟩) (i:=0) X G h40 rfl rfl rfl
 have bx:∀d∈Mq,∃C fi,XF ⟨P,w,mg,K,h⟩ d C fi:=by
  unfold Mq;refine Zd.mpr ⟨⟨xBadDeed,iBadDeed,xf_of (g:=⟨P,w,mg,K,h⟩) (d:=⟨"BadDeed","word",["BadDeed","MakeError","ValueError"]⟩) (W.mg_of X G XBadDeed) OBadDeed IBadDeed FBadDeed (JBadDeed.i (y:="word") ⟨rfl,rfl,rfl,by decide +kernel,rfl,by decide +kernel,by decide +kernel⟩ rfl rfl (by decide) ⟨_,_,_,_,rfl⟩ fun _ _ _ _ _ _ us hl=>by obtain⟨_,_,rfl⟩:=Jk hl;rfl)⟩,fun _ m=>absurd m Td⟩
 have bh:∀c∈jq,∃D,mg c=some (.ref D)/\Ln K D/\∀d∈Mq,∀C,mg d.c=some (.ref C)->W.mroIn K C (.ref D)=some (Ol d.c c):=by
  unfold jq
  refine Zd.mpr ⟨⟨xBadDeed,W.mg_of X G XBadDeed,(Kf (as:=[mMakeError]) OBadDeed).xc,by
   unfold Mq;refine Zd.mpr ⟨fun C q=>by
   have q:=(W.mg_of X G XBadDeed).symm.trans q;cases q;exact(fq (g:=⟨P,w,mg,K,h⟩) (d:=⟨"BadDeed","word",[]⟩) OBadDeed).trans (by decide +kernel),fun _ m=>absurd m Td⟩⟩,fun _ m=>absurd m Td⟩
 refine⟨⟨bl,bd,bt,bk,bx,bh⟩,tab_of ft,fun x t e=>?_⟩;unfold gl at e
 split at e
 .rename_i z;subst z;cases e;exact⟨_,W.mg_of X G Bl,.str⟩
 split at e
 .rename_i z;subst z;cases e;exact⟨_,W.mg_of X G Ft,.str⟩
 split at e
 .rename_i z;subst z;cases e;exact⟨_,W.mg_of X G Vn,.int⟩
 split at e
 .rename_i z;subst z;cases e;exact⟨_,W.mg_of X G Vw,.int⟩
 split at e
 .rename_i z;subst z;cases e;exact⟨_,W.mg_of X G Ud,.int⟩
 split at e
 .rename_i z;subst z;cases e;exact⟨_,W.mg_of X G Ut,.int⟩
 split at e
 .rename_i z;subst z;cases e;exact⟨_,W.mg_of X G Jh,.int⟩
 split at e
 .rename_i z;subst z;cases e;exact⟨_,W.mg_of X G Jz,.int⟩
 split at e
 .rename_i z;subst z;cases e;exact⟨_,W.mg_of X G Jp,.int⟩
 split at e
 .rename_i z;subst z;cases e;exact⟨.ref f12,W.mg_of X G h12.a,.fn (W.mg_of X G h12.a) h12.F.kp⟩
 split at e
 .rename_i z;subst z;cases e;exact⟨.ref f14,W.mg_of X G h14.a,.fn (W.mg_of X G h14.a) h14.F.kp⟩
 cases e
end K63
open PySem PySem.W PyProof.Rows
set_option maxRecDepth 100000 in
set_option maxHeartbeats 0 in
theorem K63.ws:PySem.Challenge.rw_makes_k63_rows_of_makes.wellSaid=true:=by
 delta OpenLaw.wellSaid
 iterate 18 refine look_both ?_ ?_
 case _ =>
  delta OpenRow.wellSaid
  refine look_both (look_both ?_ ?_) ?_
  case _ =>
   delta OpenRow.partSaid
   iterate 13 refine look_both ?_ ?_
   case _ =>
    delta looksOpen
    iterate 5 refine look_both ?_ ?_
    all_goals decide +kernel
   all_goals decide +kernel
  all_goals decide +kernel
 all_goals decide +kernel
set_option maxRecDepth 100000 in
set_option maxHeartbeats 0 in
theorem PySem.Challenge.cw_makes_k63_rows_of_makes_holds : PySem.Challenge.rw_makes_k63_rows_of_makes.Holds := by
 w_on
 refine holds_law K63.ws fun said=>?_
 refine holds_open (q:=K63.viewK) (loose:=K63.Yq) (XP:=XL K63.viewK []) (YP:=Hook.says (W.kHook K63.heapK K63.asK K63.P0)) (N:=5366)
  K63.leftK (Hook.of (W.kHook K63.heapK K63.asK K63.P0)) (Hook.keeps (W.kHook K63.heapK K63.asK K63.P0)) (fun s e=>xl_of s (zh.mp e).1)
  XL.keeps (by rfl) (by rfl) (by rfl) (fun s e=>recFacts_of (zh.mp e).2) (by rfl) (by assumption)
  (by decide +kernel) ⟨rfl,rfl,rfl,rfl,rfl,by decide +kernel⟩ ?hw ?hc
 case hw=>w_witness2
 k_fill
 refine PV.walkE (l:=PySem.Challenge.rw_makes_k63_rows_of_makes) (n:=12) (df:=K63.El) (tab:=K63.tab) (gl:=K63.gl) rfl rfl ⟨rfl,by decide,by decide,rfl⟩ rfl (fun w h Y=>W.kIn_of Y) (by kernel_rfl) ?F fun zs _=>K63.bc zs
 case F =>
  intro w mg h KX G;refine' K63.all_mk KX G ?h1 ?h2 ?h3 ?h4 ?h5 ?h6 ?h7 ?h8 ?h9 ?j4 ?h11 ?h12 ?h13 ?h14 ?h15 ?h16 ?h17 ?h18 ?h19 ?h20 ?h21 ?h22 ?h23 ?h24 ?h25 ?h26 ?h27 ?h28 ?h29 ?h30 ?h31 ?h32 ?h33 ?h34 ?h35 ?h36 ?h37 ?h38 ?h39 ?h40 ?h41 ?h42 ?h43 ?h44 ?h45 ?h46 ?h47 ?h48 ?h49 ?h50 ?h51 ?h52 ?h53 ?h54 ?h55 ?h56 ?h57 ?h58 ?h59 ?h60 ?h61 ?h62 ?MMakeError ?XBadDeed ?IBadDeed ?JBadDeed ?FBadDeed ?OBadDeed ?eSIZES ?lSIZES ?kSIZES ?oSIZES ?tSIZES ?eSORTS_FOR ?lSORTS_FOR ?kSORTS_FOR ?oSORTS_FOR ?tSORTS_FOR ?Bl ?Ft ?Vn ?Vw ?Ud ?Ut ?Jh ?Jz ?Jp ?wb ?wc ?wt ?Ky ?Fm ?wk ?wg ?wm ?wu ?Kk ?Js ?Rz ?wj ?Fd ?wz ?Ge ?wx ?Kv ?wq ?Kg
  case h1|h2|h3|h4|h5|h6|h7|h8|h9|j4|h11|h12|h13|h14|h15|h16|h17|h18|h19|h20|h21|h22|h23|h24|h25|h26|h27|h28|h29|h30|h31|h32|h33|h34|h35|h36|h37|h38|h39|h40|h41|h42|h43|h44|h45|h46|h47|h48|h49|h50|h51|h52|h53|h54|h55|h56|h57|h58|h59|h60|h61|h62=>exact⟨by k_is,PV.Zc.mk' (by k_is) (by k_is) (by k_is)⟩
  case MMakeError|XBadDeed|IBadDeed=>k_is
  case JBadDeed=>exact PV.ji.mk' (by k_is) (by k_is)
  case FBadDeed=>k_is
  case OBadDeed=>kernel_rfl
  case eSIZES|lSIZES=>k_is
  case kSIZES=>k_keys
  case oSIZES|tSIZES=>kernel_rfl
  case eSORTS_FOR|lSORTS_FOR=>k_is
  case kSORTS_FOR=>k_keys
  case oSORTS_FOR|tSORTS_FOR=>kernel_rfl
  case Bl|Ft|Vn|Vw|Ud|Ut|Jh|Jz|Jp|wb|wc|wt|Ky|Fm|wk|wg|wm|wu|Kk|Js|Rz|wj|Fd|wz|Ge|wx|Kv|wq|Kg=>k_is
