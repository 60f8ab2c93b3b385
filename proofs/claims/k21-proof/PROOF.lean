import PyProof.Rows.All
import Wide.All
import OpenK.AllK
import Wide.FinOn
import PySem.Challenge.RW_makes_k21_makes_as_lines
set_option genSizeOf false
set_option genInjectivity false
set_option bootstrap.genMatcherCode false
noncomputable section
set_option maxHeartbeats 2000000
set_option Elab.async false
set_option linter.all false
set_option maxRecDepth 100000
local macro_rules | `(tactic| trivial) => `(tactic| first | exact .inl rfl | exact .inr rfl | rfl | decide | (intro _; rfl) | exact Or.inl rfl | exact Or.inr rfl | assumption | exact ⟨rfl, rfl, rfl, by decide +kernel, rfl, by decide +kernel, by decide +kernel⟩ | fail)
def XJ:=@Int.toNat_natCast
def XQ:=@List.length_set
def XX:=@List.length_range
def XZ:=@List.append_nil
def ZE:=@List.append_assoc
def ZI:=@List.pairwise_cons
def ZO:=@Option.bind_eq_some_iff
section
open PySem
abbrev ZW:=Value->Shared->Prop
abbrev ZV:=Str->Option Value
abbrev ZY:=List (Addr×Obj)
abbrev ZK:=List (Str×NameKind)
abbrev ZG:=List (Option Nat)
abbrev ZF:=Array (Option Value)
abbrev ZM:=List Value
abbrev ZD:=List Str
abbrev ZT:=Option Value
abbrev ZC:=List Expr
abbrev ZN:=Array Value
abbrev ZL:=List Int
abbrev ZR:=Option Int
abbrev ZS:=Array Nat
abbrev ZH:=Option Nat
abbrev ZP:=Option Addr
abbrev ZU:=List Addr
abbrev ZA:=Unit->Shared->Prop
end
section
open PySem PyProof.Rows
def Zn:=@List.length_map
def Vy:=@List.not_mem_nil
def Jz:=@List.size_toArray
def Pz:=@List.mem_singleton
def Q2:=@List.map_append
def Ub:=@decide_eq_true
def Z5:=@Nat.le_refl
def Za:=@wpAny_bind
def V1:=@wpAny_pure
def Ra:=@List.mem_map
def Bo:=@List.getElem?_map
def Nd:=@List.getElem?_eq_some_iff
def x8:=@List.mem_append
def Yk:=@Option.map_eq_some_iff
def Yl:=@List.length_append
def D8:=@Option.some.inj
def Ye:=@List.mem_cons_self
def Vi:=@List.mem_cons_of_mem
def G0l:=@List.getElem?_append_left
def G0e:=@List.getElem_mem
def M0g:=@List.mem_of_getElem?
def Vn:=@List.forall_mem_cons
def Dx:=@List.getElem?_eq_getElem
def B0n:=@beq_eq_false_iff_ne
def Ru:=@Nat.lt_of_lt_of_le
def Yo:=@List.length_cons
def Vm:=@List.map_cons
def Vs:=@Heap.get?_push_of_some
def Y6:=@List.mem_cons
def B0s:=@beq_self_eq_true
def Q0:=@of_decide_eq_true
def Y8:=@Bool.and_eq_true
def Ut:=@Nat.le_trans
def Nt:=@Bool.false_ne_true
def Bv:=@Heap.get?_push_size
def Vh:=@Heap.lt_size
def L0t:=@List.length_take
def Bw:=@Nat.zero_le
def qg:=@Array.length_toList
def Ba:=@Nat.ne_of_lt
def x9:=@List.all_eq_true
def B0z:=@Bool.and_eq_true_iff
def Dj:=@decide_eq_false
def Ta:=@List.mem_append_right
def A0g:=@Array.getElem?_eq_getElem
end
namespace L2
open PySem PySem.Spec PyProof.Rows
noncomputable def inClass(s:Stmt)(j:Nat):Stmt:=match s with
 | .ClassDef _ _ _ body _ _ _ _ _ _ _=>body.getD j (.Pass ⟨0,0,0,0⟩)
 | _=>.Pass ⟨0,0,0,0⟩
noncomputable def Uu(s:Stmt):Arguments:=match s with
 | .FunctionDef _ a _ _ _ _ _ _ _ _=>a
 | _=>{ posonlyargs:=[],args:=[],vararg:=none,kwonlyargs:=[],kw_defaults:=[],kwarg:=none,defaults:=[] }
def Ym(s:Stmt):List Stmt:=match s with
 | .FunctionDef _ _ b _ _ _ _ _ _ _=>b
 | _=>[]
noncomputable def Zw(s:Stmt):Scope:=match s with
 | .FunctionDef _ _ _ _ _ _ sc _ _ _=>sc
 | _=>{ kind:=.function,names:=[],isGenerator:=false,isCoroutine:=false }
end L2
namespace K21
open PySem PySem.Spec PyProof.Rows
noncomputable def top(i:Nat):Stmt:=PySem.Challenge.pw_makes_k21_makes_as_lines.main.body.getD i (.Pass ⟨0,0,0,0⟩)
end K21
namespace L2
open PySem PySem.W PySem.Calls PyProof.Rows
section
variable{tb:String->Option Builtin}{p:Program}{w:World}{m:Nat}{a:ZT}
def uv(tb:String->Option Builtin)(p:Program)(w:World)(m:Nat)(a:ZT):Nat->SharedT->Thread->Option SharedT
 | 0,_,_=>none
 | k+1,s,t=>bif through t then some s else bif stepOk m a t then (match stepT (denote tb) p w s t with | some (s',t')=>uv tb p w m a k s' t' | none=>none) else none
theorem Av:∀{k:Nat} {s s':SharedT} {t:Thread},uv tb p w m a k s t=some s'->topRun tb p w m a k s.abs t=some s'.abs
 | 0,_,_,_,h=>by cases h
 | k+1,s,s',t,h=>by
  unfold uv at h;unfold topRun;cases ht:through t with
  | true=>rw[ht]at h;cases h;rfl
  | false =>
   rw[ht]at h;cases hk:stepOk m a t with
   | false=>rw[hk]at h;cases h
   | true =>
    rw[hk]at h;cases hs:stepT (denote tb) p w s t with
    | none=>rw[hs]at h;cases h
    | some r =>
     obtain⟨s₂,t₂⟩:=r;rw[hs]at h;rw[stepT_spec hs];exact Av h
end
def mkT:List Obj->Nat->BT->BT
 | [],_,t=>t
 | o::l,i,t=>mkT l (i+1) (t.ins i o)
noncomputable abbrev Sd(w:World)(os:OsState):Shared:=⟨boot_heap w.params,Array.mk [],boot_drawn,boot_toks,os⟩
noncomputable abbrev Zqw(w:World)(os:OsState):SharedT:=⟨mkT (boot_heap w.params).objs.toList 0 .nil,(boot_heap w.params).objs.size,(boot_heap w.params).life,Array.mk [],boot_drawn,boot_toks,os⟩
theorem boot_abs(w:World)(os:OsState):(Zqw w os).abs=Sd w os:=by kernel_rfl
noncomputable abbrev Rr(p:Program)(N:Nat)(w:World)(os:OsState):Option SharedT:=uv treeTable p w (boot_heap w.params).objs.size ((boot_heap w.params).nsMap mainGlobals "__annotations__") N (Zqw w os) (topStub p)
noncomputable abbrev dr(p:Program)(w:World)(s:Shared):Bool:=staticsOk (importedModules p.main.body) (boot_heap w.params) s.heap && namesBound p s.heap && gensDone s && laidKept (boot_heap w.params) s.heap
theorem ns_ok(w:World):((boot_heap w.params).isNs mainGlobals && (Array.mk []:Array GenState).size == 0)=true:=by kernel_rfl
theorem Dy{Z:Type _}{o:Option SharedT}{f:Shared->Z}{r:Z}(h:(o.map fun s=>f s.abs)=some r):∃s,o=some s/\f s.abs=r:=by
 obtain⟨s,e,q⟩:=Yk.mp h;exact⟨s,e,q⟩
theorem top_of{Z U:Type}{p:Program}{N:Nat}{w:World}{os:OsState}{f:Shared->Z}{g:Shared->U}{x:Z}{y:U}(h1:((Rr p N w os).map fun s=>dr p w s.abs)=some true)
  (h2:((Rr p N w os).map fun s=>f s.abs)=some x) (h3:((Rr p N w os).map fun s=>g s.abs)=some y) :
  (topFrom treeTable p w N (Sd w os)).map (fun s=>(f s,g s))=some (x,y):=by
 obtain⟨s,e,c⟩:=Dy h1;obtain⟨s2,e2,c2⟩:=Dy h2;obtain⟨s3,e3,c3⟩:=Dy h3;rw[e]at e2 e3;cases e2;cases e3;have r:=Av e;rw[boot_abs]at r;unfold topFrom;rw[show ((Sd w os).heap.isNs mainGlobals && (Sd w os).gens.size == 0)=true from ns_ok w];show Option.map _ (Option.bind (topRun treeTable p w (boot_heap w.params).objs.size ((boot_heap w.params).nsMap mainGlobals "__annotations__") N (Sd w os) (topStub p)) _)=_;rw[r];show Option.map _ (match dr p w s.abs with | true=>some s.abs | false=>none)=_;rw[c];show some (f s.abs,g s.abs)=_;rw[c2,c3]
end L2
namespace K21
open PySem PySem.Spec PyProof.Rows L2
noncomputable def viewK:Program:={ PySem.Challenge.pw_makes_k21_makes_as_lines with main:={ PySem.Challenge.pw_makes_k21_makes_as_lines.main with body:=[top 1,top 2,top 4,top 5,top 6,top 7,top 8,top 9,top 10,top 11,top 12,top 14,top 15,top 16,top 17,top 18,top 19,top 20,top 21,top 22,top 23,top 24,top 25,top 26,top 27,top 28,top 29,top 30,top 31,top 32,top 33,top 35,top 36,top 37,top 38,top 39,top 40,top 41,top 42,top 43,top 44,top 45,top 46,top 47,top 48] } }
def Yf:ZD:=[]
abbrev en(P:Params)(x:Str)(t:Tok)(v:Value):DictEntry:=⟨PyData.keyHash P x,.str x t,v⟩
noncomputable abbrev fo(cls:Value)(nm q:Str)(s:Stmt)(kw doc pm:Value)(an:ZP)(cd ct:Value)(sl:ZF):Obj:=⟨cls,none,.func (W.fnOf nm q (L2.Uu s) (L2.Ym s) (L2.Zw s) .none kw doc pm an cd ct),sl⟩
noncomputable abbrev fn(nm q:Str)(s:Stmt)(md:Str)(t:Nat)(c:Addr):Obj:=fo (.type "function") nm q s .none .none (.str md t) .none (.ref c) .none #[]
noncomputable abbrev cd(x:Str)(a:Nat)(q:Str)(b c:Nat)(l k:Int)(r1 r2 r3 r4 r5:Addr)(e f:Int)(g:Nat):Obj:=⟨.type "code",.none,.fields #[.str x a,.str q b,.str "/claim/cut.py" c,.int l 0,.int k 0,.int 0 0,.int 0 0,.int 3 0,.ref r1,.bool Bool.true,.int 181 0,.ref r2,.none,.ref r3,.ref r4,.ref r5,.int e 0,.int f 0,.str "/claim/cut.py" g], #[]⟩
noncomputable abbrev Qm(x:Str)(a:Nat)(l k:Int)(r e:Nat):Obj:=cd x a x (a+1) (a+2) l k r (r+1) (r+2) (r+3) (r+4) e l (e+1)
noncomputable abbrev K0(x:Str)(a:Nat)(l k:Int)(r e:Nat):Obj:=⟨.type "code",.none,.fields #[.str x a,.str x (a+1),.str "/claim/cut.py" (a+2),.int l 0,.int k 0,.int 0 0,.int 0 0,.int 3 0,.ref r,.bool Bool.true,.int 181 0,.ref (r+1),.none,.none,.none,.ref (r+2),.int e 0,.int l 0,.str "/claim/cut.py" (e+1)], #[]⟩
abbrev fnA(x:Str)(i:Nat)(c:Addr):Obj:=fn x x (top i) "makes.items" 232 c
noncomputable abbrev Q8(x:Str)(i:Nat)(c:Addr):Obj:=fn x x (top i) "makes.maketexts" 260 c
abbrev Ib(x:Str)(i:Nat)(c:Addr):Obj:=fn x x (top i) "law_makes_k21_makes_as_lines" 402 c
noncomputable def heapK:Params->W.Frag:=fun P =>
 (nat_lit 3, ⟨.type "dict", .none, .dict #[en P "__name__" 165 (.str "law_makes_k21_makes_as_lines" 402), en P "__doc__" 166 (.none), en P "__package__" 167 (.none), en P "__loader__" 168 (.builtin "__main__.__loader__#opaque"), en P "__spec__" 169 (.none), en P "__annotations__" 170 (.ref 6), en P "__builtins__" 171 (.ref 4), en P "__file__" 173 (.str "/claim/cut.py" 172), en P "__cached__" 174 (.none), en P "MakeError" 206 (.ref 24), en P "BadText" 231 (.ref 44), en P "LETTERS" 235 (.str "abcdefghijklmnopqrstuvwxyz" 234), en P "SIGNS" 237 (.str " !\"#$&'()*+,-./0123456789:;<=>?@ABCDEFGHIJKLMNOPQRSTUVWXYZ[\\]^_`abcdefghijklmnopqrstuvwxyz{|}~" 236), en P "GREATEST_WHOLE" 239 (.int 1000000000000000000 238), en P "GREATEST_NUMBER" 241 (.int 999 240), en P "LONGEST_TEXT" 243 (.int 200 242), en P "LONGEST_NAME" 245 (.int 8 244), en P "is_text" 251 (.ref 51), en P "is_name" 257 (.ref 56), en P "MOST_PARTS" 259 (.int 20 258), en P "FIGURES" 263 (.str "0123456789" 262), en P "MOST_FIGURES" 265 (.int 19 264), en P "shown_make" 275 (.ref 63), en P "shown_form" 281 (.ref 68), en P "shown_field" 287 (.ref 73), en P "shown_arm" 293 (.ref 78), en P "shown_struck" 299 (.ref 83), en P "shown_default" 307 (.ref 90), en P "read_make" 317 (.ref 97), en P "line_at" 325 (.ref 104), en P "read_form" 331 (.ref 109), en P "struck_place" 340 (.ref 116), en P "single_shape" 348 (.ref 123), en P "field_in" 358 (.ref 130), en P "default_in" 366 (.ref 137), en P "arm_in" 375 (.ref 144), en P "struck_in" 381 (.ref 149), en P "number_in" 388 (.ref 156), en P "item_whole_in" 395 (.ref 163), en P "whole_in" 401 (.ref 168), en P "_law_feed" 410 (.ref 175), en P "_law_draw" 422 (.ref 182), en P "_law_names" 428 (.ref 187), en P "_law_numbers" 434 (.ref 192), en P "_law_plain_shape" 445 (.ref 199), en P "_law_plain_value" 453 (.ref 206), en P "_law_struck" 459 (.ref 211), en P "_law_parts" 474 (.ref 218), en P "_law_make" 480 (.ref 223), en P "_law_default_words" 487 (.ref 230), en P "_law_lines" 493 (.ref 235), en P "_law_part_lines" 499 (.ref 240), en P "_law_alike" 507 (.ref 247), en P "law" 523 (.ref 254)] 54, #[]⟩) ::
 (nat_lit 50,K0 "is_text" 246 15 2 47 249) ::
 (nat_lit 51,fnA "is_text" 10 50) ::
 (nat_lit 55,K0 "is_name" 252 17 1 52 255) ::
 (nat_lit 56,fnA "is_name" 11 55) ::
 (nat_lit 62,Qm "shown_make" 266 25 1 57 273) ::
 (nat_lit 63,Q8 "shown_make" 16 62) ::
 (nat_lit 67,K0 "shown_form" 276 31 2 64 279) ::
 (nat_lit 68,Q8 "shown_form" 17 67) ::
 (nat_lit 72,K0 "shown_field" 282 38 1 69 285) ::
 (nat_lit 73,Q8 "shown_field" 18 72) ::
 (nat_lit 77,K0 "shown_arm" 288 40 1 74 291) ::
 (nat_lit 78,Q8 "shown_arm" 19 77) ::
 (nat_lit 82,K0 "shown_struck" 294 42 1 79 297) ::
 (nat_lit 83,Q8 "shown_struck" 20 82) ::
 (nat_lit 89,Qm "shown_default" 300 44 1 84 305) ::
 (nat_lit 90,Q8 "shown_default" 21 89) ::
 (nat_lit 96,Qm "read_make" 308 53 1 91 315) ::
 (nat_lit 97,Q8 "read_make" 22 96) ::
 (nat_lit 103,Qm "line_at" 318 62 2 98 323) ::
 (nat_lit 104,Q8 "line_at" 23 103) ::
 (nat_lit 108,K0 "read_form" 326 66 3 105 329) ::
 (nat_lit 109,Q8 "read_form" 24 108) ::
 (nat_lit 115,Qm "struck_place" 332 86 3 110 338) ::
 (nat_lit 116,Q8 "struck_place" 25 115) ::
 (nat_lit 122,Qm "single_shape" 341 92 1 117 346) ::
 (nat_lit 123,Q8 "single_shape" 26 122) ::
 (nat_lit 129,Qm "field_in" 349 103 1 124 356) ::
 (nat_lit 130,Q8 "field_in" 27 129) ::
 (nat_lit 136,Qm "default_in" 359 112 1 131 364) ::
 (nat_lit 137,Q8 "default_in" 28 136) ::
 (nat_lit 143,Qm "arm_in" 367 125 1 138 373) ::
 (nat_lit 144,Q8 "arm_in" 29 143) ::
 (nat_lit 148,K0 "struck_in" 376 133 1 145 379) ::
 (nat_lit 149,Q8 "struck_in" 30 148) ::
 (nat_lit 155,Qm "number_in" 382 139 1 150 386) ::
 (nat_lit 156,Q8 "number_in" 31 155) ::
 (nat_lit 162,Qm "item_whole_in" 389 141 1 157 393) ::
 (nat_lit 163,Q8 "item_whole_in" 32 162) ::
 (nat_lit 167,K0 "whole_in" 396 143 3 164 399) ::
 (nat_lit 168,Q8 "whole_in" 33 167) ::
 (nat_lit 174,Qm "_law_feed" 404 150 1 169 408) ::
 (nat_lit 175,Ib "_law_feed" 35 174) ::
 (nat_lit 181,Qm "_law_draw" 411 152 2 176 420) ::
 (nat_lit 182,Ib "_law_draw" 36 181) ::
 (nat_lit 186,K0 "_law_names" 423 166 2 183 426) ::
 (nat_lit 187,Ib "_law_names" 37 186) ::
 (nat_lit 191,K0 "_law_numbers" 429 171 2 188 432) ::
 (nat_lit 192,Ib "_law_numbers" 38 191) ::
 (nat_lit 198,Qm "_law_plain_shape" 435 174 2 193 443) ::
 (nat_lit 199,Ib "_law_plain_shape" 39 198) ::
 (nat_lit 205,Qm "_law_plain_value" 446 185 2 200 451) ::
 (nat_lit 206,Ib "_law_plain_value" 40 205) ::
 (nat_lit 210,K0 "_law_struck" 454 193 2 207 457) ::
 (nat_lit 211,Ib "_law_struck" 41 210) ::
 (nat_lit 217,Qm "_law_parts" 460 195 3 212 472) ::
 (nat_lit 218,Ib "_law_parts" 42 217) ::
 (nat_lit 222,K0 "_law_make" 475 205 1 219 478) ::
 (nat_lit 223,Ib "_law_make" 43 222) ::
 (nat_lit 229,Qm "_law_default_words" 481 222 1 224 485) ::
 (nat_lit 230,Ib "_law_default_words" 44 229) ::
 (nat_lit 234,K0 "_law_lines" 488 230 1 231 491) ::
 (nat_lit 235,Ib "_law_lines" 45 234) ::
 (nat_lit 239,K0 "_law_part_lines" 494 240 2 236 497) ::
 (nat_lit 240,Ib "_law_part_lines" 46 239) ::
 (nat_lit 246,Qm "_law_alike" 500 250 2 241 505) ::
 (nat_lit 247,Ib "_law_alike" 47 246) ::
 (nat_lit 253,Qm "law" 508 254 1 248 521) ::
 (nat_lit 254,Ib "law" 48 253) ::
 []
noncomputable def asK:ZU:=[3,50,51,55,56,62,63,67,68,72,73,77,78,82,83,89,90,96,97,103,104,108,109,115,116,122,123,129,130,136,137,143,144,148,149,155,156,162,163,167,168,174,175,181,182,186,187,191,192,198,199,205,206,210,211,217,218,222,223,229,230,234,235,239,240,246,247,253,254]
theorem Qu(P:Params):asK=(heapK P).map (·.1):=by kernel_rfl
noncomputable abbrev D5:W.Hook:=W.kHook heapK asK Qu
noncomputable abbrev xtK(s:Shared):Bool:=W.xlAt viewK [] s && W.recOk (W.RowW.records PySem.Challenge.rw_makes_k21_makes_as_lines.row.toRowW) s
abbrev Hy(w:World):Prop:=(W.openEnds treeTable PySem.Challenge.pw_makes_k21_makes_as_lines w 3194).map (fun s=>(W.openSeen viewK Yf (importedModules PySem.Challenge.pw_makes_k21_makes_as_lines.main.body) xtK true s,D5.obs s))=some (W.openGood viewK Yf,D5.val w)
abbrev Ve(s:Shared):=W.openSeen viewK Yf (importedModules PySem.Challenge.pw_makes_k21_makes_as_lines.main.body) xtK true s
abbrev wK(w:World)(b:Bool):World:=w.withFollow "special-get-raises" b
theorem chkF(w:World)(os:OsState):((L2.Rr PySem.Challenge.pw_makes_k21_makes_as_lines 3194 (wK w false) os).map fun s=>L2.dr PySem.Challenge.pw_makes_k21_makes_as_lines (wK w false) s.abs)=some true:=by kernel_rfl
theorem chkR(w:World)(os:OsState):((L2.Rr PySem.Challenge.pw_makes_k21_makes_as_lines 3194 (wK w true) os).map fun s=>L2.dr PySem.Challenge.pw_makes_k21_makes_as_lines (wK w true) s.abs)=some true:=by kernel_rfl
theorem seenF1(w:World)(os:OsState):((L2.Rr PySem.Challenge.pw_makes_k21_makes_as_lines 3194 (wK w false) os).map fun s=>(Ve s.abs).1)=some (W.openGood viewK Yf).1:=by kernel_rfl
theorem seenF2(w:World)(os:OsState):((L2.Rr PySem.Challenge.pw_makes_k21_makes_as_lines 3194 (wK w false) os).map fun s=>(Ve s.abs).2.1)=some (W.openGood viewK Yf).2.1:=by kernel_rfl
theorem seenF3(w:World)(os:OsState):((L2.Rr PySem.Challenge.pw_makes_k21_makes_as_lines 3194 (wK w false) os).map fun s=>(Ve s.abs).2.2)=some (W.openGood viewK Yf).2.2:=by kernel_rfl
theorem seenT1(w:World)(os:OsState):((L2.Rr PySem.Challenge.pw_makes_k21_makes_as_lines 3194 (wK w true) os).map fun s=>(Ve s.abs).1)=some (W.openGood viewK Yf).1:=by kernel_rfl
theorem seenT2(w:World)(os:OsState):((L2.Rr PySem.Challenge.pw_makes_k21_makes_as_lines 3194 (wK w true) os).map fun s=>(Ve s.abs).2.1)=some (W.openGood viewK Yf).2.1:=by kernel_rfl
theorem seenT3(w:World)(os:OsState):((L2.Rr PySem.Challenge.pw_makes_k21_makes_as_lines 3194 (wK w true) os).map fun s=>(Ve s.abs).2.2)=some (W.openGood viewK Yf).2.2:=by kernel_rfl
theorem Ax{w:World}{os:OsState}(h1:((L2.Rr PySem.Challenge.pw_makes_k21_makes_as_lines 3194 w os).map fun s=>(Ve s.abs).1)=some (W.openGood viewK Yf).1)(h2:((L2.Rr PySem.Challenge.pw_makes_k21_makes_as_lines 3194 w os).map fun s=>(Ve s.abs).2.1)=some (W.openGood viewK Yf).2.1)
  (h3:((L2.Rr PySem.Challenge.pw_makes_k21_makes_as_lines 3194 w os).map fun s=>(Ve s.abs).2.2)=some (W.openGood viewK Yf).2.2):((L2.Rr PySem.Challenge.pw_makes_k21_makes_as_lines 3194 w os).map fun s=>Ve s.abs)=some (W.openGood viewK Yf):=by
 obtain⟨s,e,c1⟩:=L2.Dy (f:=fun s=>(Ve s).1) h1;obtain⟨s2,e2,c2⟩:=L2.Dy (f:=fun s=>(Ve s).2.1) h2;obtain⟨s3,e3,c3⟩:=L2.Dy (f:=fun s=>(Ve s).2.2) h3;rw[e]at e2 e3;cases e2;cases e3;rw[e];exact congrArg some (Prod.ext c1 (Prod.ext c2 c3))
theorem seenF(w:World)(os:OsState):((L2.Rr PySem.Challenge.pw_makes_k21_makes_as_lines 3194 (wK w false) os).map fun s=>Ve s.abs)=some (W.openGood viewK Yf):=Ax (seenF1 w os) (seenF2 w os) (seenF3 w os)
theorem seenT(w:World)(os:OsState):((L2.Rr PySem.Challenge.pw_makes_k21_makes_as_lines 3194 (wK w true) os).map fun s=>Ve s.abs)=some (W.openGood viewK Yf):=Ax (seenT1 w os) (seenT2 w os) (seenT3 w os)
theorem obsF(w:World)(os:OsState):((L2.Rr PySem.Challenge.pw_makes_k21_makes_as_lines 3194 (wK w false) os).map fun s=>D5.obs s.abs)=some (D5.val (wK w false)):=by kernel_rfl
theorem obsT(w:World)(os:OsState):((L2.Rr PySem.Challenge.pw_makes_k21_makes_as_lines 3194 (wK w true) os).map fun s=>D5.obs s.abs)=some (D5.val (wK w true)):=by kernel_rfl
theorem A1(w:World)(h1:∀os,((L2.Rr PySem.Challenge.pw_makes_k21_makes_as_lines 3194 w os).map fun s=>L2.dr PySem.Challenge.pw_makes_k21_makes_as_lines w s.abs)=some true)(h2:∀os,((L2.Rr PySem.Challenge.pw_makes_k21_makes_as_lines 3194 w os).map fun s=>Ve s.abs)=some (W.openGood viewK Yf))(h3:∀os,((L2.Rr PySem.Challenge.pw_makes_k21_makes_as_lines 3194 w os).map fun s=>D5.obs s.abs)=some (D5.val w)):Hy w:=by
 obtain⟨⟨hp,g,d,k,os⟩,hs,hv⟩:=Yk.mp (W.boot_open (p:=PySem.Challenge.pw_makes_k21_makes_as_lines) (N:=3194) rfl (by decide) (fun s=>rfl) w);simp only[Prod.mk.injEq]at hv;obtain⟨rfl,rfl,rfl,rfl⟩:=hv;show Option.map _ (Option.bind (W.fencedOpening treeTable PySem.Challenge.pw_makes_k21_makes_as_lines w 3194) (W.topFrom treeTable PySem.Challenge.pw_makes_k21_makes_as_lines w 3194))=_;rw[hs];exact L2.top_of (h1 os) (h2 os) (h3 os)
theorem leftF(w:World):Hy (w.withFollow "special-get-raises" false):=A1 _ (chkF w) (seenF w) (obsF w)
theorem leftT(w:World):Hy (w.withFollow "special-get-raises" true):=A1 _ (chkR w) (seenT w) (obsT w)
theorem leftK:W.LeftO PySem.Challenge.pw_makes_k21_makes_as_lines viewK Yf xtK D5.obs D5.val 3194:=W.byRow2 "special-get-raises" leftF leftT
end K21
namespace L2
open PySem PySem.Spec PyProof.Rows
abbrev Key:=Sum Int Str
noncomputable def Mo:Key->Value->Bool
 | .inl k,v=>Value.isInt k v
 | .inr x,v=>Value.isStrOf x v
def keyH(w:World):Key->Int
 | .inl k=>hashInt k
 | .inr x=>hashStr w x
theorem Zi:∀{k:Key} {v:Value},Mo k v=true->(∃i t,k=Sum.inl i/\v=Value.int i t)\/(∃x t,k=Sum.inr x/\v=Value.str x t)
 | .inl i,v,h=>by
  obtain⟨t,e⟩:=Value.isInt_shape (k:=i) (v:=v) h;exact .inl ⟨i,t,rfl,e⟩
 | .inr x,v,h=>by
  obtain⟨t,e⟩:=Value.isStrOf_shape (x:=x) (v:=v) h;exact .inr ⟨x,t,rfl,e⟩
theorem z6(i:Int)(t:Tok):Mo (.inl i) (.int i t)=true:=by simp[Mo,Value.isInt]
theorem ze(x:Str)(t:Tok):Mo (.inr x) (.str x t)=true:=by simp[Mo,Value.isStrOf]
theorem key_ll(a b:Int):decide ((Sum.inl a:Key)=Sum.inl b)=(a == b):=by
 by_cases e:a=b
 .subst e;simp
 .have h:¬ (Sum.inl a:Key)=Sum.inl b:=fun q=>e (Sum.inl.inj q);rw[Dj h];exact(B0n.mpr e).symm
theorem key_rr(a b:Str):decide ((Sum.inr a:Key)=Sum.inr b)=decide (a=b):=by
 by_cases e:a=b
 .subst e;simp
 .have h:¬ (Sum.inr a:Key)=Sum.inr b:=fun q=>e (Sum.inr.inj q);rw[Dj h,Dj e]
theorem key_lr(a:Int)(b:Str):decide ((Sum.inl a:Key)=Sum.inr b)=false:=Dj (fun q=>nomatch q)
theorem key_rl(a:Str)(b:Int):decide ((Sum.inr a:Key)=Sum.inl b)=false:=Dj (fun q=>nomatch q)
noncomputable def Zh(prog:Program)(w:World):PySem.KeyKind prog w Key where
 is:=Mo
 hash:=keyH w
 inj:=fun v a b ha hb=>by
  rcases Zi ha with ⟨i,t,rfl,rfl⟩ | ⟨x,t,rfl,rfl⟩
  .rcases Zi hb with ⟨j,u,rfl,e⟩ | ⟨y,u,rfl,e⟩
   .injection e with e1 _;rw[e1]
   .exact nomatch e
  .rcases Zi hb with ⟨j,u,rfl,e⟩ | ⟨y,u,rfl,e⟩
   .exact nomatch e
   .injection e with e1 _;rw[e1]
 byValue:=fun k v h=>by
  rcases Zi h with ⟨i,t,rfl,rfl⟩ | ⟨x,t,rfl,rfl⟩<;>rfl
 pyHash:=fun hv h=>by
  rcases Zi hv with ⟨i,t,rfl,rfl⟩ | ⟨x,t,rfl,rfl⟩
  .exact wpAny_pyHash_int h
  .exact wpAny_pyHash_str h
 eqBool:=fun hu hv h=>by
  rcases Zi hu with ⟨i,t,rfl,rfl⟩ | ⟨x,t,rfl,rfl⟩
  .rcases Zi hv with ⟨j,u,rfl,rfl⟩ | ⟨y,u,rfl,rfl⟩
   .rw[key_ll]at h;exact wpAny_eqBool_int h
   .rw[key_lr]at h;exact SeqAt.EqAt.int_str i t y u _ _ _ _ h
  .rcases Zi hv with ⟨j,u,rfl,rfl⟩ | ⟨y,u,rfl,rfl⟩
   .rw[key_rl]at h;exact SeqAt.EqAt.str_int x t j u _ _ _ _ h
   .rw[key_rr]at h;exact wpAny_eqBool_str h
 «strs»:=fun k x t v h=>by
  rcases Zi h with ⟨i,u,rfl,e⟩ | ⟨y,u,rfl,e⟩
  .exact nomatch e
  .injection e with e1 _
   subst e1;cases v<;>rfl
theorem Ow(prog:Program)(w:World)(i:Int)(t:Tok):(Zh prog w).is (.inl i) (.int i t)=true:=z6 i t
theorem Oj(prog:Program)(w:World)(x:Str)(t:Tok):(Zh prog w).is (.inr x) (.str x t)=true:=ze x t
inductive V where
 | non | bl(b:Bool) | int(i:Int) | str(x:Str) | byt(b:Array UInt8) | flt(b:UInt64) | ref(a:Addr) | ty(n:String)
 deriving DecidableEq
abbrev ZQ:=List V
abbrev ZJ:=List (Option V)
def RelV:V->Value->Prop
 | .non,u=>u=Value.none
 | .bl b,u=>u=Value.bool b
 | .int i,u=>∃t,u=Value.int i t
 | .str x,u=>∃t,u=Value.str x t
 | .byt b,u=>∃t,u=Value.bytes b t
 | .flt b,u=>∃t,u=Value.float b t
 | .ref a,u=>u=Value.ref a
 | .ty n,u=>u=Value.type n
abbrev Zk:ZQ->ZM->Prop:=Paired RelV
theorem Zk.length{xs:ZQ}{us:ZM}(r:Zk xs us):xs.length=us.length:=Paired.length r
theorem Zk.get:∀{xs:ZQ} {us:ZM} {i:Nat} {x:V},Zk xs us->xs[i]?=some x->∃u,us[i]?=some u/\RelV x u
 | _,_,_,_,.nil,e=>by simp at e
 | _,_,0,_,.cons r _,e=>by simp at e;subst e;exact⟨_,rfl,r⟩
 | _,_,i+1,x,.cons _ t,e=>by
  obtain⟨u,h1,h2⟩:=Zk.get (i:=i) (x:=x) t (by simpa using e);exact⟨u,by simpa using h1,h2⟩
theorem Zk.set{x:V}{u:Value}(r:RelV x u):∀{xs:ZQ} {us:ZM} (i:Nat),Zk xs us->Zk (xs.set i x) (us.set i u)
 | _,_,_,.nil=>.nil
 | _,_,0,.cons _ t=>.cons r t
 | _,_,i+1,.cons q t=>.cons q (Zk.set r i t)
theorem Zk.append:∀{xs ys:ZQ} {us ws:ZM},Zk xs us->Zk ys ws->Zk (xs++ys) (us++ws)
 | _,_,_,_,.nil,s=>s
 | _,_,_,_,.cons r t,s=>.cons r (Zk.append t s)
theorem Zk.take:∀{xs:ZQ} {us:ZM} (n:Nat),Zk xs us->Zk (xs.take n) (us.take n)
 | _,_,0,_=>.nil
 | _,_,_+1,.nil=>.nil
 | _,_,n+1,.cons r t=>.cons r (Zk.take n t)
theorem Zk.drop:∀{xs:ZQ} {us:ZM} (n:Nat),Zk xs us->Zk (xs.drop n) (us.drop n)
 | _,_,0,r=>r
 | _,_,_+1,.nil=>.nil
 | _,_,n+1,.cons _ t=>Zk.drop n t
def Bj:Option V->ZT->Prop
 | some v,some u=>RelV v u
 | none,none=>True
 | _,_=>False
def KV{Z:Type}:List (Z×V)->List (Z×Value)->Prop:=Paired fun(p:Z×V) (q:Z×Value)=>p.1=q.1/\RelV p.2 q.2
def kV:Key->V
 | .inl i=>.int i
 | .inr x=>.str x
inductive HO where
 | lst(xs:ZQ)
 | tup (xs:ZQ)
 | dK (XG:List (Key×V)) | dT (XG:List (List Key×V))
 | set (S:Int->Bool) (n:Nat)
 | ins (C dx:Addr) (fs:List (Str×V))
 | own (x:Addr)
 | xd (fs:List (Str×V))
 | met (f x:Addr)
 | rng (lo hi:Int)
 | frz (o:Obj) (u:HO)
 | tbl (ps:ZN)
 | ext (φ:Heap->Prop)
abbrev Hp:=Addr->Option HO
def upd(H:Hp)(a:Addr)(o:HO):Hp:=fun b=>if b=a then some o else H b
theorem Zq{H:Hp}{a:Addr}{o:HO}:upd H a o a=some o:=by unfold upd;rw[if_pos rfl]
theorem Zz{H:Hp}{a b:Addr}{o:HO}(h:b≠a):upd H a o b=H b:=by unfold upd;rw[if_neg h]
theorem l0{H:Hp}{a:Addr}{o u:HO}:upd (upd H a o) a u=upd H a u:=by
 funext b;unfold upd;split<;>rfl
theorem ne_of{H:Hp}{a b:Addr}{o u:HO}(h:H a=some o)(h':H b=some u)(d:o≠u):a≠b:=by
 intro e;subst e;rw[h]at h';exact d (D8 h')
theorem Z2{H:Hp}{a b:Addr}{o:HO}(h:H a=some o)(h':H b=none):a≠b:=by
 intro e;subst e;rw[h]at h';cases h'
section
variable(P:Program)(w:World)
def Wb(h:Heap)(a:Addr)(its:ZN):Prop:=∃o,h.get? a=some o/\o.cls=.type "tuple" /\ (∃n,o.data=.seq its n)/\o.dict=none
theorem Wb.tup{h:Heap}{a:Addr}{its:ZN}(x:Wb h a its):IsTup h a its:=let ⟨o,e,c,d,_⟩:=x;⟨o,e,c,d⟩
theorem Wb.lt{h:Heap}{a:Addr}{its:ZN}(x:Wb h a its):a<h.objs.size:=x.tup.lt
theorem Wb.new(h:Heap)(its:ZN):Wb (h.push { cls:=.type "tuple",data:=.seq its }) h.objs.size its:=⟨_,Bv _ rfl,rfl,⟨_,rfl⟩,rfl⟩
def Ze(H:Hp)(h:Heap)(a:Addr):HO->Prop
 | .lst xs=>xs.length<=sizeLine/\∃(its:ZM) (n:Nat),Zk xs its/\h.get? a=some { cls:=.type "list",data:=.seq its.toArray n }
 | .tup xs=>xs.length<=sizeLine/\∃its:ZM,Zk xs its/\Wb h a its.toArray
 | .dK XG=>XG.length<=sizeLine/\(a == sysModules)=false/\∃vs,KV XG vs/\h.DictOf (Zh P w) a vs
 | .dT XG=>XG.length<=sizeLine/\(a == sysModules)=false/\∃xs:List (List Key×Addr×Value),
   Paired (fun(p:List Key×V) (q:List Key×Addr×Value)=>p.1=q.1/\H q.2.1=some (.tup (p.1.map kV))/\RelV p.2 q.2.2) XG xs /\
   ∃o es ep,h.get? a=some o/\o.ExactDict/\o.data=.dict es ep/\es.toList=xs.map (entryOfKey (tupleKind (Zh P w)))/\(xs.map (·.1)).Nodup
 | .set S n=>h.SetOf (intKind P w) a S n
 | .ins C dx fs=>H dx=some (.own a)/\fs.length<=1000/\dx≠a/\h.get? a=some (W.instObj C dx) /\
   ∃mA,h.Ns1 dx mA/\(∀f,Bj (fs.lookup f) (mA f))/\PySem.Within mA (fs.map (·.1))
 | .own _=>∃o,h.get? a=some o
 | .xd fs=>∃mA,h.Ns1 a mA/\∀f,Bj (fs.lookup f) (mA f)
 | .rng lo hi=>∃t u v,h.get? a=some { cls:=.type "range",data:=.fields #[.int lo t,.int hi u,.int 1 v] }
 | .frz o u=>h.get? a=some o/\Ze H h a u
 | .tbl ps=>h.get? a=some { cls:=.none,data:=.fields ps }
 | .met f x=>h.get? a=some (W.methodObj (.ref f) (.ref x))
 | .ext φ=>φ h/\(∃o,h.get? a=some o)/\∀h1 h2:Heap,φ h1->(∀o,h1.get? a=some o->h2.get? a=some o)->φ h2
def Mm(H:Hp)(h:Heap):Prop:=∀a o,H a=some o->Ze P w H h a o
end
section
variable{P:Program}{w:World}{H H':Hp}{h h':Heap}{a:Addr}{o:HO}
theorem Ze.lt(x:Ze P w H h a o):a<h.objs.size:=by
 cases o with
 | lst xs=>obtain⟨_,_,_,_,e⟩:=x;exact Vh e
 | tup xs=>obtain⟨_,_,_,p⟩:=x;exact p.lt
 | dK XG=>obtain⟨_,_,_,_,o,_,_,e,_⟩:=x;exact Vh e
 | dT XG=>obtain⟨_,_,_,_,o,_,_,e,_⟩:=x;exact Vh e
 | set S n=>obtain⟨o,_,_,_,e,_⟩:=x;exact Vh e
 | ins C dx fs=>obtain⟨_,_,_,e,_⟩:=x;exact Vh e
 | own y=>obtain⟨_,e⟩:=x;exact Vh e
 | xd fs=>obtain⟨_,⟨_,_,_,e,_⟩,_⟩:=x;exact Vh e
 | rng lo hi=>obtain⟨_,_,_,e⟩:=x;exact Vh e
 | frz ob u=>obtain⟨e,_⟩:=x;exact Vh e
 | tbl ps=>exact Vh (show h.get? a=some _ from x)
 | met f y=>exact Vh (show h.get? a=some _ from x)
 | ext φ=>obtain⟨_,⟨_,e⟩,_⟩:=x;exact Vh e
theorem Paired.mapP{Z U:Type}{F G:Z->U->Prop}:∀{l₁:List Z} {l₂:List U},Paired F l₁ l₂->(∀a b,F a b->G a b)->Paired G l₁ l₂
 | _,_,.nil,_=>.nil
 | _,_,.cons r t,f=>.cons (f _ _ r) (Paired.mapP t f)
theorem Ze.stay(x:Ze P w H h a o)(k:∀b u,(b=a\/H b=some (.own a))->h.get? b=some u->h'.get? b=some u)
  (ho:∀b,H b=some (.own a)->H' b=some (.own a)) (ht:∀b xs,H b=some (.tup xs)->H' b=some (.tup xs)):Ze P w H' h' a o:=by
 induction o with
 | lst xs=>obtain⟨z,its,n,r,e⟩:=x;exact⟨z,its,n,r,k _ _ (.inl rfl) e⟩
 | tup xs=>obtain⟨z,its,r,ob,e,c⟩:=x;exact⟨z,its,r,ob,k _ _ (.inl rfl) e,c⟩
 | dK XG=>obtain⟨z,y,vs,r,ob,es,ep,e,c⟩:=x;exact⟨z,y,vs,r,ob,es,ep,k _ _ (.inl rfl) e,c⟩
 | dT XG =>
  obtain⟨z,y,xs,r,ob,es,ep,e,c⟩:=x;exact⟨z,y,xs,Paired.mapP r fun p q z=>⟨z.1,ht _ _ z.2.1,z.2.2⟩,ob,es,ep,k _ _ (.inl rfl) e,c⟩
 | set S n=>obtain⟨ob,es,ep,t,e,c⟩:=x;exact⟨ob,es,ep,t,k _ _ (.inl rfl) e,c⟩
 | ins C dx fs =>
  obtain⟨d,z,ne,e,mA,⟨od,es,ep,e2,c⟩,r⟩:=x;exact⟨ho _ d,z,ne,k _ _ (.inl rfl) e,mA,⟨od,es,ep,k _ _ (.inr d) e2,c⟩,r⟩
 | own y=>obtain⟨ob,e⟩:=x;exact⟨ob,k _ _ (.inl rfl) e⟩
 | xd fs=>obtain⟨mA,⟨od,es,ep,e,c⟩,r⟩:=x;exact⟨mA,⟨od,es,ep,k _ _ (.inl rfl) e,c⟩,r⟩
 | rng lo hi=>obtain⟨t,u,v,e⟩:=x;exact⟨t,u,v,k _ _ (.inl rfl) e⟩
 | frz ob u ih=>obtain⟨e,q⟩:=x;exact⟨k _ _ (.inl rfl) e,ih q⟩
 | tbl ps =>
  have e:h.get? a=some { cls:=.none,data:=.fields ps }:=x;show h'.get? a=some { cls:=.none,data:=.fields ps };exact k a _ (.inl rfl) e
 | met f y =>
  have e:h.get? a=some (W.methodObj (.ref f) (.ref y)):=x;show h'.get? a=some (W.methodObj (.ref f) (.ref y));exact k a _ (.inl rfl) e
 | ext φ=>obtain⟨p,⟨o,e⟩,st⟩:=x;exact⟨st _ _ p fun o q=>k _ _ (.inl rfl) q,⟨o,k _ _ (.inl rfl) e⟩,st⟩
theorem Mm.lt(x:Mm P w H h)(e:H a=some o):a<h.objs.size:=(x a o e).lt
theorem Mm.fresh(x:Mm P w H h)(e:h.objs.size<=a):H a=none:=by
 cases q:H a with
 | none=>rfl
 | some u=>exact absurd (Ru (x.lt q) e) (Nat.lt_irrefl _)
theorem Mm.kept(x:Mm P w H h)(k:∀b u,h.get? b=some u->h'.get? b=some u):Mm P w H h':=fun a o e =>
 (x a o e).stay (fun b u _ q=>k b u q) (fun _ q=>q) fun _ _ q=>q
theorem Mm.laid(x:Mm P w H h)(k:∀b u,h.get? b=some u->h'.get? b=some u)(hp:h.objs.size<=a)(new:Ze P w (upd H a o) h' a o):Mm P w (upd H a o) h':=fun b u e=>by
 have hn:=x.fresh hp;by_cases hb:b=a
 .subst hb;rw[Zq]at e;cases e;exact new
 .rw[Zz hb]at e;exact(x b u e).stay (fun c v _ q=>k c v q) (fun c q=>by rw[Zz (Z2 q hn)];exact q) fun c xs q=>by rw[Zz (Z2 q hn)];exact q
end
def Rd(H:Hp)(a:Addr)(u:HO):Prop:=H a=some u\/∃o,H a=some (.frz o u)
theorem Rd.of{H:Hp}{a:Addr}{u:HO}(h:H a=some u):Rd H a u:=.inl h
theorem Rd.ok{P:Program}{w:World}{H:Hp}{h:Heap}{a:Addr}{u:HO}(r:Rd H a u)(x:Mm P w H h):Ze P w H h a u:=by
 rcases r with r | ⟨o,r⟩
 .exact x a u r
 .obtain⟨_,q⟩:=x a _ r;exact q
def Mut:Option HO->Prop
 | some (.lst _)=>True
 | some (.dK _)=>True
 | some (.dT _)=>True
 | some (.set _ _)=>True
 | some (.ins _ _ _)=>True
 | some (.ext _)=>True
 | _=>False
section
variable{P:Program}{w:World}{H:Hp}{h h':Heap}{x e:Addr}{o':HO}
theorem Mm.write(ok:Mm P w H h)(mu:Mut (H x))(he:e=x\/H e=some (.own x))(k:∀b u,b≠e->h.get? b=some u->h'.get? b=some u)(heo:∃u,h'.get? e=some u)
  (new:Ze P w (upd H x o') h' x o'):Mm P w (upd H x o') h':=fun b u q=>by
 have nown:∀c y,H c=some (.own y)->c≠x:=fun c y r z=>by subst z;rw[r]at mu;exact mu
 have ntup:∀c xs,H c=some (.tup xs)->c≠x:=fun c xs r z=>by subst z;rw[r]at mu;exact mu
 by_cases hb:b=x
 .subst hb;rw[Zq]at q;cases q;exact new
 .rw[Zz hb]at q;by_cases hbe:b=e
  .have q':H b=some (.own x):=by
    rcases he with z | z
    .exact absurd (hbe.trans z) hb
    .rw[hbe];exact z
   rw[q]at q';cases q';obtain⟨v,hv⟩:=heo;exact⟨v,by rw[hbe];exact hv⟩
  .refine(ok b u q).stay (fun c v hc r=>k c v ?_ r) (fun c r=>by rw[Zz (nown c b r)];exact r) fun c xs r=>by rw[Zz (ntup c xs r)];exact r
   rcases hc with rfl | hc
   .exact hbe
   .rintro rfl;rcases he with z | z
    .exact nown c b hc z
    .rw[hc]at z;cases z;exact hb rfl
end
structure Un(fs ex:ZU)(H H':Hp)(h h':Heap):Prop where
 keep:∀b o,h.get? b=some o->H b=none->b ∉ fs->b ∉ ex->h'.get? b=some o
 slot:∀b o,h.get? b=some o->H b=none->b∈fs->b ∉ ex->∃sl,h'.get? b=some { o with slots:=sl }
 free:∀b o,h.get? b=some o->H b=none->b ∉ ex->H' b=none
 there:∀b o,h.get? b=some o->b ∉ ex->∃o',h'.get? b=some o'
 tups:∀b xs,H b=some (.tup xs)->H' b=some (.tup xs)
 frzs:∀b o u,H b=some (.frz o u)->H' b=some (.frz o u)
 tbls:∀b ps,H b=some (.tbl ps)->∃more,H' b=some (.tbl (ps++more))
section
variable{fs fs' ex ex':ZU}{H H1 H2:Hp}{h h1 h2 h':Heap}{a x e:Addr}{o:HO}
theorem Un.any(u:Un fs ex H H1 h h1){b:Addr}{ob:Obj}(q:h.get? b=some ob)(n:H b=none)(hx:b ∉ ex):∃sl,h1.get? b=some { ob with slots:=sl }:=by
 by_cases hb:b∈fs
 .exact u.slot b ob q n hb hx
 .exact⟨ob.slots,u.keep b ob q n hb hx⟩
theorem Un.trans(a:Un fs ex H H1 h h1)(b:Un fs ex H1 H2 h1 h2):Un fs ex H H2 h h2 where
 keep:=fun c ob q n hc hx=>b.keep c ob (a.keep c ob q n hc hx) (a.free c ob q n hx) hc hx
 slot:=fun c ob q n hc hx=>by
  obtain⟨sl,e1⟩:=a.slot c ob q n hc hx;obtain⟨sl',e2⟩:=b.slot c _ e1 (a.free c ob q n hx) hc hx;exact⟨sl',e2⟩
 free:=fun c ob q n hx=>by
  obtain⟨o',e1⟩:=a.there c ob q hx;exact b.free c o' e1 (a.free c ob q n hx) hx
 there:=fun c ob q hx=>by
  obtain⟨o',e1⟩:=a.there c ob q hx;exact b.there c o' e1 hx
 tups:=fun c xs q=>b.tups c xs (a.tups c xs q)
 frzs:=fun c ob xs q=>b.frzs c ob xs (a.frzs c ob xs q)
 tbls:=fun c ps q=>by
  obtain⟨m1,e1⟩:=a.tbls c ps q;obtain⟨m2,e2⟩:=b.tbls c _ e1;exact⟨m1++m2,by rw[e2,Array.append_assoc]⟩
theorem Un.kept(k:∀b u,h.get? b=some u->h'.get? b=some u):Un fs ex H H h h' :=
 ⟨fun b ob q _ _ _=>k b ob q,fun b ob q _ _ _=>⟨ob.slots,k b ob q⟩,fun _ _ _ n _=>n,fun b ob q _=>⟨ob,k b ob q⟩,fun _ _ q=>q,fun _ _ _ q=>q,fun _ ps q=>⟨#[],by rw[q];simp⟩⟩
theorem Un.refl:Un fs ex H H h h:=Un.kept fun _ _ q=>q
theorem Un.laid(k:∀b u,h.get? b=some u->h'.get? b=some u)(hp:h.objs.size<=a)(hn:H a=none):Un fs ex H (upd H a o) h h' where
 keep:=fun b u q _ _ _=>k b u q
 slot:=fun b u q _ _ _=>⟨u.slots,k b u q⟩
 free:=fun b u q n _=>by rw[Zz (Ba (Ru (Vh q) hp))];exact n
 there:=fun b u q _=>⟨u,k b u q⟩
 tups:=fun b xs q=>by rw[Zz (Z2 q hn)];exact q
 frzs:=fun b u xs q=>by rw[Zz (Z2 q hn)];exact q
 tbls:=fun b ps q=>⟨#[],by rw[Zz (Z2 q hn),q];simp⟩
theorem Un.write(mu:Mut (H x))(he:e=x\/H e=some (.own x))(k:∀b u,b≠e->h.get? b=some u->h'.get? b=some u)(heo:∃u,h'.get? e=some u):Un fs ex H (upd H x o) h h':=by
 have hx:∀b,H b=none->b≠x:=fun b n z=>by subst z;rw[n]at mu;exact mu
 have hb:∀b,H b=none->b≠e:=fun b n z=>by
  subst z;rcases he with r | r
  .exact hx b n r
  .rw[n]at r;cases r
 have hm:∀b u,H b=some u->¬ Mut (some u)->b≠x:=fun b u q nm z=>by subst z;rw[q]at mu;exact nm mu
 refine⟨fun b u q n _ _=>k b u (hb b n) q,fun b u q n _ _=>⟨u.slots,k b u (hb b n) q⟩,fun b u q n _=>by rw[Zz (hx b n)];exact n,fun b u q _=>?_,
  fun b xs q=>by rw[Zz (hm b _ q fun z=>z)];exact q,fun b u xs q=>by rw[Zz (hm b _ q fun z=>z)];exact q,fun b ps q=>⟨#[],by rw[Zz (hm b _ q fun z=>z),q];simp⟩⟩
 by_cases hbe:b=e
 .subst hbe;exact heo
 .exact⟨u,k b u hbe q⟩
theorem Un.mono(u:Un fs ex H H1 h h1)(hs:∀b∈fs,b∈fs')(hx:∀b∈ex,b∈ex'):Un fs' ex' H H1 h h1 :=
 ⟨fun b ob q n hb he=>u.keep b ob q n (fun z=>hb (hs b z)) fun z=>he (hx b z),fun _ _ q n _ he=>u.any q n fun z=>he (hx _ z),fun b ob q n he=>u.free b ob q n fun z=>he (hx b z),fun b ob q he=>u.there b ob q fun z=>he (hx b z),u.tups,u.frzs,u.tbls⟩
end
noncomputable def trk(h:Heap)(H:Hp):ZU:=(List.range h.objs.size).filter fun a=>(H a).isSome
def Fc(h:Heap)(H:Hp):Heap:=W.hideAll h (trk h H)
theorem xw(h:Heap)(H:Hp):(Fc h H).objs.size=h.objs.size:=W.hideAll_size _ _
theorem bu{h:Heap}{H:Hp}{b:Addr}{o:Obj}(e:h.get? b=some o)(n:H b=none):(Fc h H).get? b=some o :=
 W.hideAll_get _ e fun hm=>by
  have q:(H b).isSome=true:=(List.mem_filter.mp hm).2;rw[n]at q;simp at q
theorem oa{h:Heap}{H:Hp}{b:Addr}{o:Obj}(e:(Fc h H).get? b=some o):h.get? b=some o/\H b=none:=by
 have e':h.get? b=some o:=W.of_hideAll (trk h H) e;refine⟨e', ?_⟩;cases q:H b with
 | none=>rfl
 | some x =>
  have hm:b∈trk h H:=List.mem_filter.mpr ⟨List.mem_range.mpr (Vh e'),by simp[q]⟩;have z:(Fc h H).get? b=none:=W.hideAll_none (trk h H) hm;rw[z]at e;cases e
structure Mod(K:W.Frag)(mg:ZV)(base:Heap):Prop where
 kin:K.In base
 glob:base.Ns mainGlobals mg
 blt:∃mb,base.Ns builtinsNs mb/\∀x:Str,x ≠ "__name__" -> mb x=bootBuiltins x
 nolimit:base.NoLimit
structure Cx where
 prog:Program
 w:World
 K:W.Frag
 mg:ZV
 base:Heap
 A:Around
 N:ZD
 s₀:Shared
 H₀:Hp
 env:Env
 outer:List Env
 stack:List Env
 ex:ZU
 fn:Str->Bool
 calm:Bool
 pn:ZY
 xe:ZW
noncomputable def frs(l:List Env):ZU:=l.filterMap (·.frame)
abbrev Cx.fs(X:Cx):ZU:=frs X.outer
def Vis(sc:Scope)(x:Str):Prop:=sc.names.lookup x=some .local\/sc.names.lookup x=some .cell\/sc.names.lookup x=some .free
def Loc(sc:Scope)(x:Str):Prop:=sc.names.lookup x=some .local\/sc.names.lookup x=some .cell
def Look(env:Env)(h:Heap)(m:ZV)(x:Str)(u:Value):Prop :=
 (env.kindOf x=some .local/\m x=some u)\/((env.kindOf x=some .cell\/env.kindOf x=some .free)/\∃c,env.cells.lookup x=some c/\h.IsCell c (some u))
structure Cx.Ok(X:Cx):Prop where
 mod:Mod X.K X.mg X.base
 kind:X.env.scope.kind=.function
 glob:X.env.globals=mainGlobals
 blt:X.env.builtins=builtinsNs
 above:X.s₀.heap.objs.size<=X.env.locals
 inj:∀x y c,X.env.cells.lookup x=some c->X.env.cells.lookup y=some c->x=y
 has:∀x,(X.env.kindOf x=some .cell\/X.env.kindOf x=some .free)->∃c,X.env.cells.lookup x=some c
 cab:∀x c,X.fn x=true->X.env.cells.lookup x=some c->X.s₀.heap.objs.size<=c
 hd:X.calm=true->X.A.handled=none
 frames:X.A.frames=some X.stack
 stk:X.stack=X.outer\/(X.stack=X.env::X.outer/\X.env.frame=some X.env.locals)
 exf:∀b∈X.ex,b≠X.env.locals/\∀x c,X.env.cells.lookup x=some c->c≠b
 bs:∀b o,X.base.get? b=some o->X.s₀.heap.get? b=some o/\X.H₀ b=none
 bsz:X.base.objs.size<=X.s₀.heap.objs.size
 noex:∀b o,X.base.get? b=some o->b ∉ X.ex
 exfs:∀b∈X.ex,b ∉ X.fs
 funs:X.s₀.heap.FunFrames X.base X.outer
 frf:∀b∈X.fs,X.H₀ b=none
structure Inv(X:Cx)(XY:ZY)(Z:ZJ)(H:Hp)(s:Shared):Prop where
 ok:X.Ok
 os:s.os=X.s₀.os
 bare:AllBare s.gens
 base:Un X.fs X.ex X.H₀ H X.s₀.heap s.heap
 loc:∃m,s.heap.Ns X.env.locals m/\∀(i:Nat) (x:Str) (v:V),X.N[i]?=some x->Z[i]?=some (some v)->Vis X.env.scope x->∃u,RelV v u/\Look X.env s.heap m x u
 cell:∀x c,X.env.cells.lookup x=some c->∃v,s.heap.IsCell c v
 free:H X.env.locals=none
 freeC:∀x c,X.env.cells.lookup x=some c->H c=none
 pin:∀p∈X.pn++XY,s.heap.get? p.1=some p.2/\H p.1=none/\p.1≠X.env.locals/\p.1 ∉ X.fs/\∀v,p.2.data≠.cell v
 hok:Mm X.prog X.w H s.heap
 len:Z.length=X.N.length
section
variable{X:Cx}{XY:ZY}{Z:ZJ}{H H':Hp}{s:Shared}{h':Heap}
theorem Cx.Ok.nofr(ok:X.Ok){b:Addr}{o:Obj}(e:X.base.get? b=some o):b ∉ X.fs:=fun hb=>by
 have:=(ok.funs.mem hb).1;rw[e]at this;cases this
theorem Inv.bs(I:Inv X XY Z H s):∀b o,X.base.get? b=some o->s.heap.get? b=some o/\H b=none:=fun b o e =>
 ⟨I.base.keep b o (I.ok.bs b o e).1 (I.ok.bs b o e).2 (I.ok.nofr e) (I.ok.noex b o e),I.base.free b o (I.ok.bs b o e).1 (I.ok.bs b o e).2 (I.ok.noex b o e)⟩
theorem Inv.bk(I:Inv X XY Z H s):∀b o,X.base.get? b=some o->s.heap.get? b=some o:=fun b o e=>(I.bs b o e).1
theorem Inv.mod(I:Inv X XY Z H s):Mod X.K X.mg X.base:=I.ok.mod
theorem Inv.kIn(I:Inv X XY Z H s):X.K.In s.heap:=I.ok.mod.kin.keeps I.bk
theorem Inv.fr(I:Inv X XY Z H s):∃m,Fr X.base X.env.locals s.heap m :=
 let ⟨m,hn,_⟩:=I.loc
 ⟨m,hn,I.bk,Ut I.ok.bsz I.ok.above⟩
theorem Inv.lt(I:Inv X XY Z H s):X.env.locals<s.heap.objs.size:=let ⟨_,hn,_⟩:=I.loc;hn.lt
theorem Inv.sz(I:Inv X XY Z H s):X.s₀.heap.objs.size<=s.heap.objs.size:=Ut I.ok.above (Nat.le_of_lt I.lt)
theorem Inv.nofs(I:Inv X XY Z H s){a:Addr}(h:s.heap.objs.size<=a):a ∉ X.fs:=fun hb=>by
 obtain⟨_,o,ho,_⟩:=I.ok.funs.mem hb;exact absurd (Ru (Vh ho) (Ut I.sz h)) (Nat.lt_irrefl _)
theorem Inv.cne(I:Inv X XY Z H s):∀x c,X.env.cells.lookup x=some c->c≠X.env.locals:=fun x c e z=>by
 obtain⟨v,o,ho,hd⟩:=I.cell x c e;obtain⟨m,⟨o',es,ep,Q7,hd',_⟩,_⟩:=I.loc;rw[z,Q7]at ho;cases ho;rw[hd']at hd;cases hd
theorem Inv.funs(I:Inv X XY Z H s):s.heap.FunFrames X.base X.outer:=by
 have all:∀(l:List Env),(∀b∈frs l,b∈X.fs)->X.s₀.heap.FunFrames X.base l->s.heap.FunFrames X.base l:=by
  intro l
  induction l with
  | nil=>intro _ _;trivial
  | cons env r ih =>
   intro hs hl;obtain⟨hk,⟨L,o,hf,hn,ho,hd⟩,hr⟩:=hl;have hL:L∈X.fs:=hs L (by unfold frs;rw[List.filterMap_cons,hf];exact Ye);obtain⟨sl,e⟩:=I.base.slot L o ho (I.ok.frf L hL) hL fun z=>I.ok.exfs L z hL;exact⟨hk,⟨L,_,hf,hn,e,hd⟩,ih (fun b hb=>hs b (by unfold frs;rw[List.filterMap_cons,hf];exact Vi _ hb)) hr⟩
 exact all X.outer (fun _ hb=>hb) I.ok.funs
theorem Inv.stack(I:Inv X XY Z H s):s.heap.FunFrames X.base X.stack:=by
 rcases I.ok.stk with e | ⟨e,hf⟩
 .rw[e];exact I.funs
 .rw[e];obtain⟨m,hn,_⟩:=I.loc;refine .cons (by rw[I.ok.kind];decide) hf hn ?_ I.funs;exact Heap.get?_none_of_le (Ut I.ok.bsz I.ok.above)
theorem Inv.stkSub(I:Inv X XY Z H s):∀b∈frs X.stack,b∈X.env.locals::X.fs:=fun b hb=>by
 rcases I.ok.stk with e | ⟨e,hf⟩
 .rw[e]at hb;exact Vi _ hb
 .rw[e]at hb;unfold frs at hb;rw[List.filterMap_cons,hf]at hb;exact hb
theorem Inv.stkFree(I:Inv X XY Z H s):∀b∈frs X.stack,H b=none:=fun b hb=>by
 rcases Y6.mp (I.stkSub b hb) with e | hb
 .rw[e];exact I.free
 .obtain⟨_,o,ho,_⟩:=I.ok.funs.mem hb;exact I.base.free b o ho (I.ok.frf b hb) fun z=>I.ok.exfs b z hb
theorem Inv.step{g':Array GenState}{t':Nat}{d':Drawn}{ch:ZU}(I:Inv X XY Z H s)
  (ng:∀b∈ch,(b∈X.ex\/X.s₀.heap.objs.size<=b)/\b≠X.env.locals/\(∀x c,X.env.cells.lookup x=some c->c≠b)/\∀p∈X.pn++XY,p.1≠b)
  (keep:∀b o,b≠X.env.locals->b ∉ X.fs->b ∉ ch->s.heap.get? b=some o->H b=none->h'.get? b=some o)
  (slot:∀b o,b≠X.env.locals->b∈X.fs->b ∉ ch->s.heap.get? b=some o->H b=none->∃sl,h'.get? b=some { o with slots:=sl }) (free:∀b o,b ∉ ch->s.heap.get? b=some o->H b=none->H' b=none)
  (there:∀b o,b ∉ ch->s.heap.get? b=some o->∃o',h'.get? b=some o')
  (tups:∀b xs,H b=some (.tup xs)->H' b=some (.tup xs)) (frzs:∀b o u,H b=some (.frz o u)->H' b=some (.frz o u)) (tbls:∀b ps,H b=some (.tbl ps)->∃more,H' b=some (.tbl (ps++more)))
  (ns:∀m,s.heap.Ns X.env.locals m->h'.Ns X.env.locals m) (hok:Mm X.prog X.w H' h') (hg:AllBare g') :
  Inv X XY Z H' { s with heap:=h',gens:=g',drawn:=d',toks:=t' }:=by
 have neL:∀b o,X.s₀.heap.get? b=some o->b≠X.env.locals:=fun b o e=>Ba (Ru (Vh e) I.ok.above)
 have neC:∀b o,X.s₀.heap.get? b=some o->b ∉ X.ex->b ∉ ch:=fun b o e hx hb=>by
  rcases(ng b hb).1 with z | z
  .exact hx z
  .exact absurd (Ru (Vh e) z) (Nat.lt_irrefl _)
 have cellK:∀x c,X.env.cells.lookup x=some c->∀v,s.heap.IsCell c v->h'.IsCell c v:=fun x c e v ⟨o,ho,hd⟩=>by
  have nch:c ∉ ch:=fun z=>(ng c z).2.2.1 x c e rfl;by_cases hc:c∈X.fs
  .obtain⟨sl,q⟩:=slot c o (I.cne x c e) hc nch ho (I.freeC x c e);exact⟨_,q,hd⟩
  .exact⟨o,keep c o (I.cne x c e) hc nch ho (I.freeC x c e),hd⟩
 refine⟨I.ok,I.os,hg,⟨fun b o e n hb hx=>?_,fun b o e n hb hx=>?_,fun b o e n hx=>?_,fun b o e hx=>?_,fun b xs e=>tups b xs (I.base.tups b xs e),fun b o xs e=>frzs b o xs (I.base.frzs b o xs e),fun b ps e=>?_⟩, ?_,fun x c e=>?_, ?_,fun x c e=>?_,fun p hp=>?_,hok,I.len⟩
 .exact keep b o (neL b o e) hb (neC b o e hx) (I.base.keep b o e n hb hx) (I.base.free b o e n hx)
 .obtain⟨sl,e1⟩:=I.base.slot b o e n hb hx;obtain⟨sl',e2⟩:=slot b _ (neL b o e) hb (neC b o e hx) e1 (I.base.free b o e n hx);exact⟨sl',e2⟩
 .obtain⟨o',e1⟩:=I.base.there b o e hx;exact free b o' (neC b o e hx) e1 (I.base.free b o e n hx)
 .obtain⟨o',e1⟩:=I.base.there b o e hx;exact there b o' (neC b o e hx) e1
 .obtain⟨m1,e1⟩:=I.base.tbls b ps e;obtain⟨m2,e2⟩:=tbls b _ e1;exact⟨m1++m2,by rw[e2,Array.append_assoc]⟩
 .obtain⟨m,hn,hl⟩:=I.loc;refine⟨m,ns m hn,fun i x v e1 e2 e3=>?_⟩;obtain⟨u,r,l⟩:=hl i x v e1 e2 e3;refine⟨u,r, ?_⟩;rcases l with l | ⟨k,c,e,z⟩
  .exact .inl l
  .exact .inr ⟨k,c,e,cellK x c e _ z⟩
 .obtain⟨v,z⟩:=I.cell x c e;exact⟨v,cellK x c e v z⟩
 .obtain⟨m,⟨o,_,_,ho,_⟩,_⟩:=I.loc;exact free _ o (fun z=>(ng _ z).2.1 rfl) ho I.free
 .obtain⟨v,o,ho,hd⟩:=I.cell x c e;exact free c o (fun z=>(ng c z).2.2.1 x c e rfl) ho (I.freeC x c e)
 .obtain⟨e,n,ne,nf,d⟩:=I.pin p hp;have nch:p.1 ∉ ch:=fun z=>(ng p.1 z).2.2.2 p hp rfl;exact⟨keep p.1 p.2 ne nf nch e n,free p.1 p.2 nch e n,ne,nf,d⟩
theorem Inv.un{t':Nat}(I:Inv X XY Z H s)(u:Un X.fs [] H H' s.heap h')(hok:Mm X.prog X.w H' h'):Inv X XY Z H' { s with heap:=h',toks:=t' }:=by
 obtain⟨m,⟨o,es,ep,ho,r⟩,_⟩:=id I.loc;obtain⟨sl,hL⟩:=u.any ho I.free (by simp)
 exact I.step (g':=s.gens) (d':=s.drawn) (ch:=[]) (fun _ z=>nomatch z) (fun b o _ hb _ e n=>u.keep b o e n hb (by simp)) (fun b o _ hb _ e n=>u.slot b o e n hb (by simp)) (fun b o _ e n=>u.free b o e n (by simp)) (fun b o _ e=>u.there b o e (by simp)) u.tups u.frzs u.tbls (fun m' hm=>by
  obtain⟨o',es',ep',Q7,r'⟩:=hm;rw[ho]at Q7;cases Q7;exact⟨_,es',ep',hL,r'⟩) hok I.bare
theorem Inv.call{g':Array GenState}{t':Nat}{d':Drawn}{ch:ZU}(I:Inv X XY Z H s)(u:Un (frs X.stack) ch H H' s.heap h')(hok:Mm X.prog X.w H' h')(hg:AllBare g')
  (ng:∀b∈ch,(b∈X.ex\/X.s₀.heap.objs.size<=b)/\b≠X.env.locals/\(∀x c,X.env.cells.lookup x=some c->c≠b)/\∀p∈X.pn++XY,p.1≠b) :
  Inv X XY Z H' { s with heap:=h',gens:=g',drawn:=d',toks:=t' }:=by
 obtain⟨m,⟨o,es,ep,ho,r⟩,_⟩:=id I.loc;obtain⟨sl,hL⟩:=u.any ho I.free fun z=>(ng _ z).2.1 rfl
 exact I.step (ch:=ch) ng (fun b o hL hb hc e n=>u.keep b o e n (fun z=>(Y6.mp (I.stkSub b z)).elim hL hb) hc) (fun b o _ _ hc e n=>u.any e n hc) (fun b o hc e n=>u.free b o e n hc) (fun b o hc e=>u.there b o e hc) u.tups u.frzs u.tbls (fun m' hm=>by
  obtain⟨o',es',ep',Q7,r'⟩:=hm;rw[ho]at Q7;cases Q7;exact⟨_,es',ep',hL,r'⟩) hok hg
theorem Inv.turned{t':Nat}{it:Addr}(I:Inv X XY Z H s)(k:∀b o,b≠it->s.heap.get? b=some o->h'.get? b=some o)(hn:H it=none)(hL:it≠X.env.locals)
  (h1:it∈X.ex\/X.s₀.heap.objs.size<=it) (h2:∀x c,X.env.cells.lookup x=some c->c≠it) (h3:∀p∈X.pn++XY,p.1≠it):Inv X XY Z H { s with heap:=h',toks:=t' }:=by
 have nit:∀b u,H b=some u->b≠it:=fun b u e z=>by rw[z,hn]at e;cases e
 refine I.step (g':=s.gens) (d':=s.drawn) (ch:=[it]) (fun b hb=>?_) (fun b o _ _ hc e _=>k b o (fun z=>hc (by simp[z])) e) (fun b o _ _ hc e _=>⟨o.slots,k b o (fun z=>hc (by simp[z])) e⟩) (fun _ _ _ _ n=>n)
  (fun b o hc e=>⟨o,k b o (fun z=>hc (by simp[z])) e⟩) (fun _ _ e=>e) (fun _ _ _ e=>e) (fun b ps e=>⟨#[],by rw[e];simp⟩) (fun m hm=>?_) (fun b u e=>?_) I.bare
 .have e:b=it:=by simpa using hb
  subst e;exact⟨h1,hL,h2,h3⟩
 .obtain⟨o,es,ep,ho,r⟩:=hm;exact⟨o,es,ep,k _ o (Ne.symm hL) ho,r⟩
 .refine(I.hok b u e).stay (fun c v hc q=>k c v ?_ q) (fun _ q=>q) fun _ _ q=>q;rcases hc with z | z
  .rw[z];exact nit b u e
  .exact nit c _ z
theorem Inv.tok(I:Inv X XY Z H s)(t:Nat):Inv X XY Z H { s with toks:=t }:=I.un (h':=s.heap) (t':=t) Un.refl I.hok
theorem Inv.kept{t':Nat}(I:Inv X XY Z H s)(k:∀b u,s.heap.get? b=some u->h'.get? b=some u):Inv X XY Z H { s with heap:=h',toks:=t' }:=I.un (Un.kept k) (I.hok.kept k)
theorem Inv.laid{a:Addr}{o:HO}{t':Nat}(I:Inv X XY Z H s)(k:∀b u,s.heap.get? b=some u->h'.get? b=some u)(hp:s.heap.objs.size<=a)(new:Ze X.prog X.w (upd H a o) h' a o) :
  Inv X XY Z (upd H a o) { s with heap:=h',toks:=t' }:=I.un (Un.laid k hp (I.hok.fresh hp)) (I.hok.laid k hp new)
theorem Inv.write{x e:Addr}{o:HO}{t':Nat}(I:Inv X XY Z H s)(mu:Mut (H x))(he:e=x\/H e=some (.own x))(k:∀b u,b≠e->s.heap.get? b=some u->h'.get? b=some u)(heo:∃u,h'.get? e=some u)
  (new:Ze X.prog X.w (upd H x o) h' x o):Inv X XY Z (upd H x o) { s with heap:=h',toks:=t' }:=I.un (Un.write mu he k heo) (I.hok.write mu he k heo new)
theorem Inv.pins_of{pins':ZY}(I:Inv X XY Z H s)(h:∀p∈pins',s.heap.get? p.1=some p.2/\H p.1=none/\p.1≠X.env.locals/\p.1 ∉ X.fs/\∀v,p.2.data≠.cell v):Inv X pins' Z H s :=
 ⟨I.ok,I.os,I.bare,I.base,I.loc,I.cell,I.free,I.freeC,fun p hp=>(x8.mp hp).elim (fun z=>I.pin p (List.mem_append_left _ z)) (h p),I.hok,I.len⟩
theorem Oq{N:ZD}(hN:N.Nodup){i j:Nat}{x:Str}(a:N[i]?=some x)(b:N[j]?=some x):i=j:=by
 obtain⟨h1,e1⟩:=Nd.mp a;obtain⟨h2,e2⟩:=Nd.mp b;exact(List.getElem_inj hN).mp (e1.trans e2.symm)
theorem Wn{M:Model}{A:Around}{E:ZW}{i:Nat}{x:Str}{v:V}{u:Value}{Q:ZA}(I:Inv X XY Z H s)(hN:X.N.Nodup)(hi:X.N[i]?=some x)(hx:Loc X.env.scope x)(r:RelV v u)
  (h:∀s',Inv X XY (Z.set i (some v)) H s'->(∃a,Heap.SameBut a s.heap s'.heap/\(a=X.env.locals\/X.env.cells.lookup x=some a))->Q () s') (hf:X.fn x=true\/X.env.scope.names.lookup x=some .local:=by first | exact .inl rfl | exact .inr rfl | assumption):wpAny M A (storeName X.env x u) Q E s:=by
 obtain⟨m,hn,hl⟩:=id I.loc;have hcls:(X.env.scope.kind == .class || (X.env.scope.kind == .module && X.env.locals != X.env.globals))=false:=by rw[I.ok.kind];rfl
 have hiσ:i<Z.length:=by rw[I.len];exact(Nd.mp hi).1
 have cne:=I.cne
 have tracked:∀{a:Addr} {h':Heap},(∃o,s.heap.get? a=some o/\H a=none)->Heap.SameBut a s.heap h'->Mm X.prog X.w H h':=fun {a h'} ha hs b ob e=>by
  obtain⟨_,_,Oc⟩:=ha;refine(I.hok b ob e).stay (fun c w' hc q=>(hs.2 c ?_).trans q) (fun _ q=>q) fun _ _ q=>q;rintro rfl;rcases hc with rfl | hc
  .rw[Oc]at e;cases e
  .rw[Oc]at hc;cases hc
 rcases hx with hk | hk
 .refine wpAny_storeName_local hk hn (fun h' bc hs=>?_) hcls;obtain⟨oL,_,_,hoL,_⟩:=id hn;refine h _ ⟨I.ok,I.os,I.bare,⟨fun b o e n hb hx=>?_,fun b o e n hb hx=>?_,I.base.free,fun b o e hx=>?_,I.base.tups,I.base.frzs,I.base.tbls⟩,⟨_,bc,fun j y v' e1 e2 e3=>?_⟩,fun y c e=>?_,I.free,I.freeC,fun p hp=>?_,tracked ⟨oL,hoL,I.free⟩ hs,by simpa using I.len⟩ ⟨_,hs,.inl rfl⟩
  .exact(hs.2 b (Ba (Ru (Vh e) I.ok.above))).trans (I.base.keep b o e n hb hx)
  .obtain⟨sl,e1⟩:=I.base.slot b o e n hb hx;exact⟨sl,(hs.2 b (Ba (Ru (Vh e) I.ok.above))).trans e1⟩
  .obtain⟨o',e1⟩:=I.base.there b o e hx;exact⟨o',(hs.2 b (Ba (Ru (Vh e) I.ok.above))).trans e1⟩
  .by_cases hj:j=i
   .subst hj;rw[hi]at e1;cases e1;rw[List.getElem?_set_self hiσ]at e2;cases e2;exact⟨u,r,.inl ⟨hk,by simp⟩⟩
   .rw[List.getElem?_set_ne (Ne.symm hj)]at e2;obtain⟨u',r',q⟩:=hl j y v' e1 e2 e3;refine⟨u',r', ?_⟩;rcases q with ⟨k,e⟩ | ⟨k,c,e,z⟩
    .refine .inl ⟨k, ?_⟩;have:y≠x:=fun e=>hj (Oq hN e1 (e ▸ hi));simp[this,e]
    .exact .inr ⟨k,c,e,z.sameBut hs (cne y c e)⟩
  .obtain⟨w',z⟩:=I.cell y c e;exact⟨w',z.sameBut hs (cne y c e)⟩
  .obtain⟨e,n,ne,nf,d⟩:=I.pin p hp;exact⟨(hs.2 p.1 ne).trans e,n,ne,nf,d⟩
 .have hfn:X.fn x=true:=by
   rcases hf with z | z
   .exact z
   .rw[z]at hk;cases hk
  obtain⟨c,hc⟩:=I.ok.has x (.inl hk);obtain⟨w',z⟩:=I.cell x c hc;refine wpAny_storeName_cell I.ok.kind hk hc z (fun h' nr hs=>?_);obtain⟨oc,hoc,hocd⟩:=id z;refine h { s with heap:=h' } ⟨I.ok,I.os,I.bare,⟨fun b o e n hb hx=>?_,fun b o e n hb hx=>?_,I.base.free,fun b o e hx=>?_,I.base.tups,I.base.frzs,I.base.tbls⟩,⟨m,hn.sameBut hs (Ne.symm (cne x c hc)),fun j y v' e1 e2 e3=>?_⟩,fun y c' e=>?_,I.free,I.freeC,fun p hp=>?_,tracked ⟨oc,hoc,I.freeC x c hc⟩ hs,by simpa using I.len⟩ ⟨c,hs,.inr hc⟩
  .exact(hs.2 b (Ba (Ru (Vh e) (I.ok.cab x c hfn hc)))).trans (I.base.keep b o e n hb hx)
  .obtain⟨sl,e1⟩:=I.base.slot b o e n hb hx;exact⟨sl,(hs.2 b (Ba (Ru (Vh e) (I.ok.cab x c hfn hc)))).trans e1⟩
  .obtain⟨o',e1⟩:=I.base.there b o e hx;exact⟨o',(hs.2 b (Ba (Ru (Vh e) (I.ok.cab x c hfn hc)))).trans e1⟩
  .by_cases hj:j=i
   .subst hj;rw[hi]at e1;cases e1;rw[List.getElem?_set_self hiσ]at e2;cases e2;exact⟨u,r,.inr ⟨.inl hk,c,hc,nr⟩⟩
   .rw[List.getElem?_set_ne (Ne.symm hj)]at e2;obtain⟨u',r',q⟩:=hl j y v' e1 e2 e3;refine⟨u',r', ?_⟩;rcases q with q | ⟨k,c',e,z'⟩
    .exact .inl q
    .refine .inr ⟨k,c',e,z'.sameBut hs ?_⟩;rintro rfl;exact hj (Oq hN e1 (I.ok.inj _ _ _ e hc ▸ hi))
  .by_cases hcc:c'=c
   .subst hcc;exact⟨_,nr⟩
   .obtain⟨w2,z2⟩:=I.cell y c' e;exact⟨w2,z2.sameBut hs hcc⟩
  .obtain⟨e,n,ne,nf,d⟩:=I.pin p hp;refine⟨(hs.2 p.1 ?_).trans e,n,ne,nf,d⟩;intro q;rw[q,hoc]at e;have q':oc=p.2:=D8 e;exact d w' (by rw[<-q'];exact hocd)
theorem Pp{M:Model}{A:Around}{E:ZW}{i:Nat}{x:Str}{v:V}{u:Value}{Q:ZA}(I:Inv X XY Z H s)(hN:X.N.Nodup)(hi:X.N[i]?=some x)(hx:Loc X.env.scope x)(r:RelV v u)
  (h:∀s',Inv X XY (Z.set i (some v)) H s'->Q () s') (hf:X.fn x=true\/X.env.scope.names.lookup x=some .local:=by first | exact .inl rfl | exact .inr rfl | assumption):wpAny M A (storeName X.env x u) Q E s :=
 Wn I hN hi hx r (fun s' I' _=>h s' I') hf
theorem Inv.call'{s':Shared}{ch:ZU}(I:Inv X XY Z H s)(ho:s'.os=s.os)(u:Un (frs X.stack) ch H H' s.heap s'.heap)(hok:Mm X.prog X.w H' s'.heap)(hg:AllBare s'.gens)
  (ng:∀b∈ch,(b∈X.ex\/X.s₀.heap.objs.size<=b)/\b≠X.env.locals/\(∀x c,X.env.cells.lookup x=some c->c≠b)/\∀p∈X.pn++XY,p.1≠b):Inv X XY Z H' s':=by
 obtain⟨h',g',d',t',o'⟩:=s';have e:o'=s.os:=ho;subst e;exact I.call (g':=g') (t':=t') (d':=d') u hok hg ng
end
abbrev XK:=Value->ZP->Hp->Prop
abbrev St:=ZJ
abbrev VK:=V->Hp->Prop
abbrev TE:=St->Hp->VK->Prop
abbrev TT:=St->Hp->(Bool->Hp->Prop)->Prop
abbrev TA:=St->Hp->(ZQ->Hp->Prop)->Prop
structure Ends where
 nx:St->Hp->Prop
 rt:VK
 bk:St->Hp->Prop:=fun _ _=>False
 ct:St->Hp->Prop:=fun _ _=>False
abbrev TS:=Ends->St->Hp->Prop
def EP(X:Cx)(XY:ZY)(Z:St)(Q:VK)(u:Value)(s':Shared):Prop:=∃v H',Inv X XY Z H' s'/\RelV v u/\Q v H'
def TP(X:Cx)(XY:ZY)(Z:St)(Q:Bool->Hp->Prop)(b:Bool)(s':Shared):Prop:=∃H',Inv X XY Z H' s'/\Q b H'
def AP(X:Cx)(XY:ZY)(Z:St)(Q:ZQ->Hp->Prop)(us:ZM)(s':Shared):Prop:=∃vs H',Inv X XY Z H' s'/\Zk vs us/\Q vs H'
def SP(X:Cx)(XY:ZY)(D:Ends)(f:Flow)(s':Shared):Prop :=
 match f with
 | .next=>∃σ' H',Inv X XY σ' H' s'/\D.nx σ' H'
 | .brk=>∃σ' H',Inv X XY σ' H' s'/\D.bk σ' H'
 | .cont=>∃σ' H',Inv X XY σ' H' s'/\D.ct σ' H'
 | .ret u=>∃v σ' H',Inv X XY σ' H' s'/\RelV v u/\D.rt v H'
def PE(X:Cx)(e:Expr)(t:TE):Prop :=
 ∀(XY:ZY) (s:Shared) (Z:St) (H:Hp) (Q:VK),Inv X XY Z H s->t Z H Q->wpAny (model X.prog X.w) X.A (eval e X.env) (EP X XY Z Q) X.xe s
def PT(X:Cx)(e:Expr)(t:TT):Prop :=
 ∀(XY:ZY) (s:Shared) (Z:St) (H:Hp) (Q:Bool->Hp->Prop),Inv X XY Z H s->t Z H Q->wpAny (model X.prog X.w) X.A (isTrue e X.env (eval e X.env)) (TP X XY Z Q) X.xe s
def PW(X:Cx)(e:Expr)(t:TT):Prop :=
 ∀(whole:Sem Value) (XY:ZY) (s:Shared) (Z:St) (H:Hp) (Q:Bool->Hp->Prop),Inv X XY Z H s->t Z H Q->wpAny (model X.prog X.w) X.A (isTrue e X.env whole) (TP X XY Z Q) X.xe s
theorem PW.pt{X:Cx}{e:Expr}{t:TT}(h:PW X e t):PT X e t:=h _
def PA(X:Cx)(es:ZC)(t:TA):Prop :=
 ∀(pos:Pos) (XY:ZY) (s:Shared) (Z:St) (H:Hp) (Q:ZQ->Hp->Prop),Inv X XY Z H s->t Z H Q->wpAny (model X.prog X.w) X.A (spliced (backTo pos (starEach es X.env))) (AP X XY Z Q) X.xe s
def PS(X:Cx)(st:Stmt)(t:TS):Prop :=
 ∀(XY:ZY) (s:Shared) (Z:St) (H:Hp) (D:Ends),Inv X XY Z H s->t D Z H->wpAny (model X.prog X.w) X.A (exec st X.env) (SP X XY D) X.xe s
def Tu(X:Cx)(st:List Stmt)(t:TS):Prop :=
 ∀(XY:ZY) (s:Shared) (Z:St) (H:Hp) (D:Ends),Inv X XY Z H s->t D Z H->wpAny (model X.prog X.w) X.A (execs st X.env) (SP X XY D) X.xe s
theorem Yz{Z:Type}{t:Sem Z}{Q Q':Z->Shared->Prop}{M:Model}{A:Around}{E:ZW}{s:Shared}(h:wpAny M A t Q E s)(hQ:∀a s,Q a s->Q' a s):wpAny M A t Q' E s:=wpAny_mono h hQ fun _ _ x=>x
section
variable{X:Cx}
inductive wq(i:Nat)(Z:St)(H:Hp)(Q:VK):Prop
 | mk(v)(Vg:Z[i]?=some (some v))(Vb:Q v H):wq i Z H Q
def tVar(i:Nat):TE:=fun Z H Q=>wq i Z H Q
def tC(v:V):TE:=fun _ H Q=>Q v H
theorem pe_var{i:Nat}{x:Str}{pos:Pos}(hN:X.N[i]?=some x)(hv:Vis X.env.scope x)(hd:(x == ("__debug__" : Str))=false:=by decide)(Ou:(x == ("__classdict__" : Str))=false:=by decide):PE X (.Name x pos) (tVar i):=by
 intro XY s Z H Q I h;obtain⟨v,e,h⟩:=h;obtain⟨m,hn,hl⟩:=I.loc;obtain⟨u,r,l⟩:=hl i x v hN e hv;have fin:EP X XY Z Q u s:=⟨v,H,I,r,h⟩;rcases l with ⟨hk,hm⟩ | ⟨hk,c,hc,Oh⟩
 .exact wpAny_Name (wpAny_loadName_local I.ok.kind hk hn hm fin) hd
 .rcases hk with hk | hk
  .exact wpAny_Name (wpAny_loadName_cell I.ok.kind hk hc Oh fin) hd
  .exact wpAny_Name (wpAny_loadName_free I.ok.kind hk hc Oh fin Ou) hd
theorem pe_int{i j pos}:PE X (.Constant (.int i) j pos) (tC (.int i)):=fun _ _ _ H _ I h=>wpAny_Constant_int ⟨.int i,H,I.tok _,⟨_,rfl⟩,h⟩
theorem pe_bl{b j pos}:PE X (.Constant (.bool b) j pos) (tC (.bl b)):=fun _ _ _ H _ I h=>Constant_bool ⟨.bl b,H,I,rfl,h⟩
theorem pe_non{j pos}:PE X (.Constant .none j pos) (tC .non):=fun _ _ _ H _ I h=>Constant_none ⟨.non,H,I,rfl,h⟩
theorem L8{x j pos}:PE X (.Constant (.str x) j pos) (tC (.str x)):=fun _ _ _ H _ I h=>Calls.Constant_str ⟨.str x,H,I.tok _,⟨_,rfl⟩,h⟩
def Gl(X:Cx)(x:Str):Prop:=X.env.kindOf x=some .globalImplicit
theorem A2{E:ZW}{XY:ZY}{s:Shared}{Z:St}{H:Hp}{x:Str}{u:Value}{pos:Pos}{Q:ZW}(I:Inv X XY Z H s)(hg:Gl X x)(hm:X.mg x=some u)(h:Q u s)
  (hd:(x == ("__debug__" : Str))=false:=by decide):wpAny (model X.prog X.w) X.A (eval (.Name x pos) X.env) Q E s :=
 Calls.Name_function_global I.ok.kind hg (Calls.loadGlobal_global (by rw[I.ok.glob];exact I.mod.glob.keeps I.bk) hm h) hd
theorem U8{E:ZW}{XY:ZY}{s:Shared}{Z:St}{H:Hp}{x:Str}{u:Value}{pos:Pos}{Q:ZW}(I:Inv X XY Z H s)(hg:Gl X x)(hm:X.mg x=none)(hv:bootBuiltins x=some u)(h:Q u s)
  (hn:x ≠ "__name__" := by decide) (hd:(x == ("__debug__" : Str))=false:=by decide):wpAny (model X.prog X.w) X.A (eval (.Name x pos) X.env) Q E s:=by
 obtain⟨mb,h1,h2⟩:=I.mod.blt;exact Calls.Name_function_global I.ok.kind hg (Calls.loadGlobal_builtin (by rw[I.ok.glob];exact I.mod.glob.keeps I.bk) hm (by rw[I.ok.blt];exact h1.keeps I.bk) ((h2 x hn).trans hv) h) hd
theorem af{x:Str}{v:V}{u:Value}{pos:Pos}(hg:Gl X x)(hm:X.mg x=some u)(r:RelV v u)(hd:(x == ("__debug__" : Str))=false:=by decide):PE X (.Name x pos) (tC v) :=
 fun _ _ _ H _ I h=>A2 I hg hm ⟨v,H,I,r,h⟩ hd
theorem ao{x:Str}{v:V}{u:Value}{pos:Pos}(hg:Gl X x)(hm:X.mg x=none)(hv:bootBuiltins x=some u)(r:RelV v u)(hn:x ≠ "__name__" := by decide)(hd:(x == ("__debug__" : Str))=false:=by decide):PE X (.Name x pos) (tC v) :=
 fun _ _ _ H _ I h=>U8 I hg hm hv ⟨v,H,I,r,h⟩ hn hd
variable{a b:Expr}{ta tb:TE}{pos:Pos}
inductive tB_I(Q:(Bool->Hp->Prop))(x:V)(H1:Hp):Prop
 | mk(c)(Vg:x=.bl c)(Vb:Q c H1):tB_I Q x H1
def tB(t:TE):TT:=fun Z H Q=>t Z H fun x H1=>tB_I Q x H1
theorem pt_val{e:Expr}{t:TE}(h:PE X e t)(he:∀whole,isTrue e X.env whole=(do let v <-whole;standAt e.pos;holding [v] (truthy v)):=by intro _;rfl):PT X e (tB t):=by
 intro XY s Z H Q I hw;refine isTrue_plain (Yz (h XY s Z H _ I hw) fun v s1 ⟨x,H1,I1,r1,q1⟩=>?_) (he _);obtain⟨d,rfl,q⟩:=q1;cases r1;exact wpAny_truthy_bool ⟨H1,I1,q⟩
variable{tA tB':TT}{rest:ZC}
def tAnd(t u:TT):TT:=fun Z H Q=>t Z H fun c H1=>if c=true then u Z H1 Q else Q false H1
def tOr(t u:TT):TT:=fun Z H Q=>t Z H fun c H1=>if c=true then Q true H1 else u Z H1 Q
def tNot(t:TT):TT:=fun Z H Q=>t Z H fun c H1=>Q (!c) H1
theorem pw_and1(ha:PT X a tA):PW X (.BoolOp .And [a] pos) tA:=by
 intro wh XY s Z H Q I h;refine isTrue_and (Yz (ha XY s Z H Q I h) fun c s1 e=>?_);cases c with
 | true=>exact isTrue_and_nil e
 | false=>exact e
theorem pw_or1(ha:PT X a tA):PW X (.BoolOp .Or [a] pos) tA:=by
 intro wh XY s Z H Q I h;refine isTrue_or (Yz (ha XY s Z H Q I h) fun c s1 e=>?_);cases c with
 | false=>exact isTrue_or_nil e
 | true=>exact e
theorem pw_and(ha:PT X a tA)(hb:PW X (.BoolOp .And (b::rest) pos) tB'):PW X (.BoolOp .And (a::b::rest) pos) (tAnd tA tB'):=by
 intro wh XY s Z H Q I h;refine isTrue_and (Yz (ha XY s Z H _ I h) fun c s1 ⟨H1,I1,q1⟩=>?_);cases c with
 | true=>exact hb wh XY s1 Z H1 Q I1 q1
 | false=>exact⟨H1,I1,q1⟩
theorem pw_or(ha:PT X a tA)(hb:PW X (.BoolOp .Or (b::rest) pos) tB'):PW X (.BoolOp .Or (a::b::rest) pos) (tOr tA tB'):=by
 intro wh XY s Z H Q I h;refine isTrue_or (Yz (ha XY s Z H _ I h) fun c s1 ⟨H1,I1,q1⟩=>?_);cases c with
 | true=>exact⟨H1,I1,q1⟩
 | false=>exact hb wh XY s1 Z H1 Q I1 q1
theorem pt_not(ha:PT X a tA):PT X (.UnaryOp .Not a pos) (tNot tA):=by
 intro XY s Z H Q I h;exact isTrue_not (ha XY s Z H (fun c H1=>Q (!c) H1) I h)
inductive Ha(tb:TE)(Z:St)(Q:VK)(x:V)(H1:Hp):Prop
 | mk(c)(Vg:x=.bl c)(Vb:if c=true then tb Z H1 Q else Q (.bl false) H1):Ha tb Z Q x H1
def tAndV(ta tb:TE):TE:=fun Z H Q=>ta Z H fun x H1=>Ha tb Z Q x H1
inductive wk(tb:TE)(Z:St)(Q:VK)(x:V)(H1:Hp):Prop
 | mk(c)(Vg:x=.bl c)(Vb:if c=true then Q (.bl true) H1 else tb Z H1 Q):wk tb Z Q x H1
def tOrV(ta tb:TE):TE:=fun Z H Q=>ta Z H fun x H1=>wk tb Z Q x H1
inductive Hu(Q:VK)(x:V)(H1:Hp):Prop
 | mk(c)(Vg:x=.bl c)(Vb:Q (.bl (!c)) H1):Hu Q x H1
def tNotV(ta:TE):TE:=fun Z H Q=>ta Z H fun x H1=>Hu Q x H1
theorem kj{op}{t:TE}(h:PE X a t):PE X (.BoolOp op [a] pos) t:=fun XY s Z H Q I hw=>BoolOp_one (h XY s Z H Q I hw)
theorem pe_and(ha:PE X a ta)(hb:PE X (.BoolOp .And (b::rest) pos) tb):PE X (.BoolOp .And (a::b::rest) pos) (tAndV ta tb):=by
 intro XY s Z H Q I h;refine BoolOp_and (Yz (ha XY s Z H _ I h) fun v s1 ⟨x,H1,I1,r1,q1⟩=>?_);obtain⟨c,rfl,q1⟩:=q1;cases r1;refine wpAny_truthy_bool ?_;cases c with
 | true=>exact hb XY s1 Z H1 Q I1 q1
 | false=>exact⟨.bl false,H1,I1,rfl,q1⟩
theorem pe_or(ha:PE X a ta)(hb:PE X (.BoolOp .Or (b::rest) pos) tb):PE X (.BoolOp .Or (a::b::rest) pos) (tOrV ta tb):=by
 intro XY s Z H Q I h;refine BoolOp_or (Yz (ha XY s Z H _ I h) fun v s1 ⟨x,H1,I1,r1,q1⟩=>?_);obtain⟨c,rfl,q1⟩:=q1;cases r1;refine wpAny_truthy_bool ?_;cases c with
 | false=>exact hb XY s1 Z H1 Q I1 q1
 | true=>exact⟨.bl true,H1,I1,rfl,q1⟩
theorem pe_not(ha:PE X a ta):PE X (.UnaryOp .Not a pos) (tNotV ta):=by
 intro XY s Z H Q I h;refine UnaryOp_ (Yz (ha XY s Z H _ I h) fun v s1 ⟨x,H1,I1,r1,q1⟩=>?_);obtain⟨c,rfl,q1⟩:=q1;cases r1;exact not_of (wpAny_truthy_bool ⟨.bl (!c),H1,I1,rfl,q1⟩)
def tIf(t:TT)(ta tb:TE):TE:=fun Z H Q=>t Z H fun c H1=>if c=true then ta Z H1 Q else tb Z H1 Q
theorem kg{c:Expr}(hc:PT X c tA)(ha:PE X a ta)(hb:PE X b tb):PE X (.IfExp c a b pos) (tIf tA ta tb):=by
 intro XY s Z H Q I h;refine wpAny_IfExp (Yz (hc XY s Z H _ I h) fun d s1 ⟨H1,I1,q1⟩=>?_);cases d with
 | true=>exact ha XY s1 Z H1 Q I1 q1
 | false=>exact hb XY s1 Z H1 Q I1 q1
end
def Ud(K:W.Frag)(H:Hp)(a:Addr)(xs:ZQ):Prop :=
 Rd H a (.lst xs) \/
  ∃(o:Obj) (its:ZN) (n:Nat),K.lookup a=some o/\o.cls=.type "list" /\ o.dict=none/\o.data=.seq its n/\its.size<=sizeLine/\Zk xs its.toList
def Vc(K:W.Frag)(H:Hp)(a:Addr)(xs:ZQ):Prop :=
 Rd H a (.tup xs) \/
  ∃(o:Obj) (its:ZN) (n:Nat),K.lookup a=some o/\o.cls=.type "tuple" /\ o.dict=none/\o.data=.seq its n/\its.size<=sizeLine/\Zk xs its.toList
noncomputable def absV:Value->Option V
 | .none=>some .non
 | .bool b=>some (.bl b)
 | .int i _=>some (.int i)
 | .str x _=>some (.str x)
 | .bytes b _=>some (.byt b)
 | .float b _=>some (.flt b)
 | .ref a=>some (.ref a)
 | .type n=>some (.ty n)
 | _=>none
theorem RelV.abs{x:V}{u:Value}(r:RelV x u):absV u=some x:=by
 cases x with
 | non=>cases r;rfl
 | bl _=>cases r;rfl
 | int _=>obtain⟨t,rfl⟩:=r;rfl
 | str _=>obtain⟨t,rfl⟩:=r;rfl
 | byt _=>obtain⟨t,rfl⟩:=r;rfl
 | flt _=>obtain⟨t,rfl⟩:=r;rfl
 | ref _=>cases r;rfl
 | ty _=>cases r;rfl
theorem RelV.inj{x y:V}{u:Value}(r:RelV x u)(q:RelV y u):x=y:=D8 (r.abs.symm.trans q.abs)
theorem Zk.inj:∀{xs ys:ZQ} {us:ZM},Zk xs us->Zk ys us->xs=ys
 | _,_,_,.nil,.nil=>rfl
 | _,_,_,.cons r t,.cons r' t'=>by rw[r.inj r',Zk.inj t t']
section
variable{X:Cx}{XY:ZY}{Z:St}{H:Hp}{s:Shared}{a:Addr}{xs ys:ZQ}
theorem Ud.of{K:W.Frag}(h:H a=some (.lst xs)):Ud K H a xs:=.inl (.inl h)
theorem Vc.of{K:W.Frag}(h:H a=some (.tup xs)):Vc K H a xs:=.inl (.inl h)
theorem Inv.list(I:Inv X XY Z H s)(h:Ud X.K H a xs):∃its:ZM,Zk xs its/\PlainL s.heap a its.toArray/\xs.length<=sizeLine:=by
 rcases h with h | ⟨o,its,n,hk,hc,hd,hs,hz,r⟩
 .obtain⟨z,its,n,r,e⟩:=h.ok I.hok;exact⟨its,r,⟨_,n,e,rfl,rfl,rfl⟩,z⟩
 .refine⟨its.toList,r,⟨o,n,I.kIn a o hk,hc,hd,by simpa using hs⟩, ?_⟩;have e:=r.length;simp only[qg]at e;omega
theorem Inv.tuple(I:Inv X XY Z H s)(h:Vc X.K H a xs):∃its:ZM,Zk xs its/\IsTup s.heap a its.toArray/\xs.length<=sizeLine:=by
 rcases h with h | ⟨o,its,n,hk,hc,hd,hs,hz,r⟩
 .obtain⟨z,its,r,p⟩:=h.ok I.hok;exact⟨its,r,p.tup,z⟩
 .refine⟨its.toList,r,⟨o,I.kIn a o hk,hc,n,by simpa using hs⟩, ?_⟩;have e:=r.length;simp only[qg]at e;omega
theorem Inv.list_inj(I:Inv X XY Z H s)(h:Ud X.K H a xs)(h':Ud X.K H a ys):xs=ys:=by
 obtain⟨its,r,⟨o,n,e,_,_,d⟩,_⟩:=I.list h;obtain⟨its',r',⟨o',n',e',_,_,d'⟩,_⟩:=I.list h';rw[e]at e';cases e';rw[d]at d'
 injection d' with d1 _
 have:its=its':=by simpa using congrArg Array.toList d1
 subst this;exact r.inj r'
theorem Inv.tuple_inj(I:Inv X XY Z H s)(h:Vc X.K H a xs)(h':Vc X.K H a ys):xs=ys:=by
 obtain⟨its,r,⟨o,e,_,n,d⟩,_⟩:=I.tuple h;obtain⟨its',r',⟨o',e',_,n',d'⟩,_⟩:=I.tuple h';rw[e]at e';cases e';rw[d]at d'
 injection d' with d1 _
 have:its=its':=by simpa using congrArg Array.toList d1
 subst this;exact r.inj r'
end
noncomputable abbrev Cx.wish(X:Cx)(E:ZW):Cx:={ X with xe:=E }
noncomputable abbrev Cx.nox(X:Cx):Cx:=X.wish fun _ _=>False
theorem Cx.Ok.wish{X:Cx}(ok:X.Ok)(E:ZW):(X.wish E).Ok :=
 ⟨ok.mod,ok.kind,ok.glob,ok.blt,ok.above,ok.inj,ok.has,ok.cab,ok.hd,ok.frames,ok.stk,ok.exf,ok.bs,ok.bsz,ok.noex,ok.exfs,ok.funs,ok.frf⟩
theorem Cx.Ok.unwish{X:Cx}{E:ZW}(ok:(X.wish E).Ok):X.Ok :=
 ⟨ok.mod,ok.kind,ok.glob,ok.blt,ok.above,ok.inj,ok.has,ok.cab,ok.hd,ok.frames,ok.stk,ok.exf,ok.bs,ok.bsz,ok.noex,ok.exfs,ok.funs,ok.frf⟩
section
variable{X:Cx}{XY:ZY}{Z:St}{H:Hp}{s:Shared}{E:ZW}
theorem Inv.wish(I:Inv X XY Z H s)(E:ZW):Inv (X.wish E) XY Z H s:=⟨I.ok.wish E,I.os,I.bare,I.base,I.loc,I.cell,I.free,I.freeC,I.pin,I.hok,I.len⟩
theorem Inv.unwish(I:Inv (X.wish E) XY Z H s):Inv X XY Z H s:=⟨I.ok.unwish,I.os,I.bare,I.base,I.loc,I.cell,I.free,I.freeC,I.pin,I.hok,I.len⟩
theorem SP.unwish{D:Ends}{f:Flow}{s':Shared}(h:SP (X.wish E) XY D f s'):SP X XY D f s':=by
 cases f with
 | next=>obtain⟨σ',H',I,q⟩:=h;exact⟨σ',H',I.unwish,q⟩
 | brk=>obtain⟨σ',H',I,q⟩:=h;exact⟨σ',H',I.unwish,q⟩
 | cont=>obtain⟨σ',H',I,q⟩:=h;exact⟨σ',H',I.unwish,q⟩
 | ret u=>obtain⟨v,σ',H',I,r,q⟩:=h;exact⟨v,σ',H',I.unwish,r,q⟩
theorem Tu.nox{st:List Stmt}{t:TS}(h:Tu X.nox st t):Tu X st t:=fun XY s Z H D I hw =>
 wpAny_mono (h XY s Z H D (I.wish _) hw) (fun _ _ q=>q.unwish) fun _ _ z=>False.elim z
end
section
variable{X:Cx}{st:Stmt}{rest:List Stmt}{t u:TS}{e:Expr}{te:TE}{pos:Pos}
def Zxf:TS:=fun D Z H=>D.nx Z H
def tSeq(t u:TS):TS:=fun D Z H=>t { D with nx:=u D } Z H
theorem ua:Tu X [] Zxf:=fun _ _ Z H _ I h=>wpAny_execs_nil ⟨Z,H,I,h⟩
theorem Cj(h1:PS X st t)(h2:Tu X rest u):Tu X (st::rest) (tSeq t u):=by
 intro XY s Z H D I h;refine wpAny_execs_cons (Yz (h1 XY s Z H { D with nx:=u D } I h) fun f s1 q=>?_);cases f with
 | next =>
  obtain⟨σ',H',I',q⟩:=q;exact h2 XY s1 σ' H' D I' q
 | ret v=>exact q
 | brk=>exact q
 | cont=>exact q
def tBreak:TS:=fun D Z H=>D.bk Z H
def tCont:TS:=fun D Z H=>D.ct Z H
theorem ue:PS X (.Pass pos) Zxf:=fun _ _ Z H _ I h=>wpAny_Pass ⟨Z,H,I,h⟩
theorem yp:PS X (.Break pos) tBreak:=fun _ _ Z H _ I h=>wpAny_Break ⟨Z,H,I,h⟩
theorem P5:PS X (.Continue pos) tCont:=fun _ _ Z H _ I h=>wpAny_Continue ⟨Z,H,I,h⟩
theorem Inv.quiet{XY:ZY}{Z:St}{H:Hp}{s:Shared}(I:Inv X XY Z H s):interactive X.env=false:=by simp[interactive,I.ok.kind]
def tDrop(te:TE):TS:=fun D Z H=>te Z H fun _ H1=>D.nx Z H1
theorem As(he:PE X e te)(hs:swapsWith e none pos.line X.env=pure false:=by rfl):PS X (.Expr e pos) (tDrop te):=by
 intro XY s Z H D I h;exact wpAny_Expr_any (Yz (he XY s Z H _ I h) fun v s1 ⟨x,H1,I1,r1,q1⟩=>⟨Z,H1,I1,q1⟩) I.quiet hs
def tRet(te:TE):TS:=fun D Z H=>te Z H D.rt
theorem ps_ret(he:PE X e te):PS X (.Return (some e) pos) (tRet te):=by
 intro XY s Z H D I h;exact wpAny_Return_some (Yz (he XY s Z H _ I h) fun v s1 ⟨x,H1,I1,r1,q1⟩=>⟨x,Z,H1,I1,r1,q1⟩)
def tRetN:TS:=fun D _ H=>D.rt .non H
theorem uo:PS X (.Return none pos) tRetN:=fun _ _ Z H _ I h=>wpAny_Return_none ⟨.non,Z,H,I,rfl,h⟩
def tIfS(c:TT)(t u:TS):TS:=fun D Z H=>c Z H fun b H1=>if b=true then t D Z H1 else u D Z H1
theorem ps_if{c:Expr}{a b:List Stmt}{tc:TT}(hc:PT X c tc)(ha:Tu X a t)(hb:Tu X b u):PS X (.If c a b pos) (tIfS tc t u):=by
 intro XY s Z H D I h;refine wpAny_If (Yz (hc XY s Z H _ I h) fun d s1 ⟨H1,I1,q1⟩=>?_);cases d with
 | true=>exact ha XY s1 Z H1 D I1 q1
 | false=>exact hb XY s1 Z H1 D I1 q1
end
abbrev TG:=V->St->Hp->(St->Hp->Prop)->Prop
abbrev nu:=ZQ->St->Hp->(St->Hp->Prop)->Prop
def PG(X:Cx)(target:Expr)(t:TG):Prop :=
 ∀(XY:ZY) (s:Shared) (Z:St) (H:Hp) (v:V) (u:Value) (Q:St->Hp->Prop),Inv X XY Z H s->RelV v u->t v Z H Q ->
  wpAny (model X.prog X.w) X.A (assign target X.env u) (fun _ s'=>∃σ' H',Inv X XY σ' H' s'/\Q σ' H') X.xe s
def PGs(X:Cx)(ts:ZC)(t:nu):Prop :=
 ∀(XY:ZY) (s:Shared) (Z:St) (H:Hp) (vs:ZQ) (us:ZM) (Q:St->Hp->Prop),Inv X XY Z H s->Zk vs us->t vs Z H Q ->
  wpAny (model X.prog X.w) X.A (assignInOrder ((assignEach ts X.env).map (·.2)) us) (fun _ s'=>∃σ' H',Inv X XY σ' H' s'/\Q σ' H') X.xe s
abbrev TSet:=V->V->V->Hp->(Hp->Prop)->Prop
def PSet(X:Cx)(t:TSet):Prop :=
 ∀(XY:ZY) (s:Shared) (Z:St) (H:Hp) (o i v:V) (ov iv u:Value) (Q:Hp->Prop),Inv X XY Z H s->RelV o ov->RelV i iv->RelV v u->t o i v H Q ->
  wpAny (model X.prog X.w) X.A (setItem ov iv u) (fun _ s'=>∃H',Inv X XY Z H' s'/\Q H') X.xe s
section
variable{X:Cx}{pos:Pos}
def b9(i:Nat):TG:=fun v Z H Q=>Q (Z.set i (some v)) H
theorem ak{i:Nat}{x:Str}(hN:X.N.Nodup)(hi:X.N[i]?=some x)(hx:Loc X.env.scope x)(hf:X.fn x=true\/X.env.scope.names.lookup x=some .local:=by first | exact .inl rfl | exact .inr rfl | assumption):PG X (.Name x pos) (b9 i):=by
 intro XY s Z H v u Q I r h;exact wpAny_assign_Name (Pp I hN hi hx r (fun s' I'=>⟨_,H,I',h⟩) hf)
def gNil:nu:=fun vs Z H Q=>vs=[]/\Q Z H
inductive Iy(t:TG)(u:nu)(vs:ZQ)(Z:St)(H:Hp)(Q:(St->Hp->Prop)):Prop
 | mk(v r)(Vg:vs=v::r)(Vb:t v Z H fun σ' H'=>u r σ' H' Q):Iy t u vs Z H Q
def gCons(t:TG)(u:nu):nu:=fun vs Z H Q=>Iy t u vs Z H Q
theorem ay:PGs X [] gNil:=by
 intro XY s Z H vs us Q I r h;obtain⟨e,h⟩:=h;subst e;cases r;exact assignInOrder_nil ⟨Z,H,I,h⟩
theorem y9{e:Expr}{es:ZC}{t:TG}{u:nu}(h1:PG X e t)(h2:PGs X es u)
  (hs:(assignEach (e::es) X.env).map (·.2)=assign e X.env::(assignEach es X.env).map (·.2):=by rfl):PGs X (e::es) (gCons t u):=by
 intro XY s Z H vs us Q I r h;obtain⟨v,vr,e1,h⟩:=h;subst e1;cases r with
 | cons r rr =>
  rw[hs];refine assignInOrder_cons (Yz (h1 XY s Z H _ _ _ I r h) fun _ s1 ⟨σ1,H1,I1,q1⟩=>?_);exact h2 XY s1 σ1 H1 _ _ Q I1 rr q1
inductive b7(K:W.Frag)(n:Nat)(t:nu)(v:V)(Z:St)(H:Hp)(Q:(St->Hp->Prop)):Prop
 | mk(a xs)(Vg:v=.ref a)(Vb:Vc K H a xs)(Jg:xs.length=n)(S8:t xs Z H Q):b7 K n t v Z H Q
def gTup(K:W.Frag)(n:Nat)(t:nu):TG:=fun v Z H Q=>b7 K n t v Z H Q
theorem pg_tup{es:ZC}{k:Nat}{t:nu}{n:Nat}(hc:X.calm=true)(h:PGs X es t)
  (hn:(assignEach es X.env).length=n:=by rfl) (Tf:(assignEach es X.env).findIdx? (·.1)=none:=by rfl):PG X (.Tuple es k pos) (gTup X.K n t):=by
 intro XY s Z H v u Q I r hw;obtain⟨a,xs,e1,hq,hl,hw⟩:=hw;subst e1;cases r;obtain⟨its,rv,ht,hz⟩:=I.tuple hq;refine assign_Tuple_tuple (I.ok.hd hc) ht (by simp[hn, <-hl,rv.length]) Tf fun h' hx=>?_;have I1:Inv X XY Z H { s with heap:=h' }:=I.kept (t':=s.toks) fun b o e=>hx b o (Ba (Vh e)) e;exact h XY _ Z H xs _ Q I1 (by simpa using rv) hw
def gSub(to ti:TE)(t:TSet):TG:=fun v Z H Q=>to Z H fun o H1=>ti Z H1 fun i H2=>t o i v H2 fun H3=>Q Z H3
theorem pg_sub{o i:Expr}{to ti:TE}{t:TSet}(ho:PE X o to)(hi:PE X i ti)(hs:PSet X t)
  (ha:∀v,assign (.Subscript o i pos) X.env v=(do
   let ov <-holding [v] (eval o X.env)
   let iv <-holding [v,ov] (eval i X.env)
   standAt pos
   holding [v,ov,iv] (setItem ov iv v)
   release [v,ov,iv] []):=by intro _;rfl):PG X (.Subscript o i pos) (gSub to ti t):=by
 intro XY s Z H v u Q I r h;rw[ha];refine Za (wpAny_holding (Yz (ho XY s Z H _ I h) fun ov s1 ⟨x,H1,I1,r1,q1⟩=>?_));refine Za (wpAny_holding (Yz (hi XY s1 Z H1 _ I1 q1) fun iv s2 ⟨y,H2,I2,r2,q2⟩=>?_));refine Za (wpAny_standAt (Za (wpAny_holding (Yz (hs XY s2 Z H2 x y v ov iv u _ I2 r1 r2 r q2) fun _ s3 ⟨H3,I3,q3⟩=>?_))));exact wpAny_release ⟨Z,H3,I3,q3⟩
def tAsg(te:TE)(g:TG):TS:=fun D Z H=>te Z H fun x H1=>g x Z H1 D.nx
theorem yu{tg e:Expr}{te:TE}{g:TG}(he:PE X e te)(hg:PG X tg g)(hs:swapsWithSole [tg] e pos.line X.env=pure false:=by rfl)(hw:swappedStores [tg] e X.env=pure none:=by rfl)
  (h1:(assignEach [tg] X.env).map (·.2)=[assign tg X.env]:=by rfl):PS X (.Assign [tg] e pos) (tAsg te g):=by
 intro XY s Z H D I h;refine wpAny_Assign_stores (Yz (he XY s Z H _ I h) fun v s1 ⟨x,H1,I1,r1,q1⟩=>?_) hs hw;rw[h1];exact Yz (hg XY s1 Z H1 x v _ I1 r1 q1) fun _ s2 q=>q
theorem yh{i:Nat}{x:Str}{e:Expr}{te:TE}{pos':Pos}(hN:X.N.Nodup)(hi:X.N[i]?=some x)(hx:Loc X.env.scope x)(he:PE X e te)(hs:swapsWith e (some (.Name x pos')) pos.line X.env=pure false:=by rfl)(hf:X.fn x=true\/X.env.scope.names.lookup x=some .local:=by first | exact .inl rfl | exact .inr rfl | assumption) :
  PS X (.Assign [.Name x pos'] e pos) (tAsg te (b9 i)):=by
 intro XY s Z H D I h;refine wpAny_Assign_Name (Yz (he XY s Z H _ I h) fun v s1 ⟨y,H1,I1,r1,q1⟩=>?_) hs;exact Pp I1 hN hi hx r1 (fun s2 I2=>⟨_,H1,I2,q1⟩) hf
end
section
variable{X:Cx}{pos:Pos}
def tWhile(c:TT)(tb:TS):TS:=fun D Z H=>∃W:Nat->St->Hp->Prop,(∃m,W m Z H)/\∀m Z H,W m Z H ->
 c Z H fun b H1=>if b=true then ∃N:St->Hp->Prop,(∀σ' H',N σ' H'->∃m',m'<m/\W m' σ' H')/\tb { D with nx:=N,ct:=N,bk:=D.nx } Z H1 else D.nx Z H1
theorem yc{c:Expr}{body:List Stmt}{tc:TT}{tb:TS}(hp:PassesOwn (model X.prog X.w) X.A X.env X.xe)(hc:PT X c tc)(hb:Tu X body tb):PS X (.While c body [] pos) (tWhile tc tb):=by
 intro XY s Z H D I h;obtain⟨W,⟨m0,w0⟩,turn⟩:=h;refine wpAny_While (codeAny_whileLoop (fun n s'=>∃σ' H',Inv X XY σ' H' s'/\W n σ' H') ?_ m0 ⟨Z,H,I,w0⟩);rintro n s1 ⟨σ1,H1,I1,w1⟩;refine wpAny_passesOwn hp (Yz (hc XY s1 σ1 H1 _ I1 (turn n σ1 H1 w1)) fun b s2 ⟨H2,I2,q2⟩=>?_);cases b with
 | true =>
  obtain⟨N,hN,q2⟩:=q2;rw[if_pos rfl];refine wpAny_passesOwn hp (Yz (hb XY s2 σ1 H2 _ I2 q2) fun f s3 q3=>?_);cases f with
  | next =>
   obtain⟨σ3,H3,I3,n3⟩:=q3;obtain⟨m',hm,w3⟩:=hN σ3 H3 n3;exact⟨m',hm,σ3,H3,I3,w3⟩
  | cont =>
   obtain⟨σ3,H3,I3,n3⟩:=q3;obtain⟨m',hm,w3⟩:=hN σ3 H3 n3;exact⟨m',hm,σ3,H3,I3,w3⟩
  | brk=>exact q3
  | ret v=>exact q3
 | false =>
  rw[if_neg Nt];exact wpAny_execs_nil ⟨σ1,H2,I2,q2⟩
end
structure It where
 go:Nat->Hp->Prop
 yld:Nat->Hp->V->Hp->Prop
 stop:Nat->Hp->Prop
def Nm(X:Cx)(XY:ZY)(H:Hp)(b:Addr):Prop :=
 H b=none/\b≠X.env.locals/\b ∉ X.fs/\(b∈X.ex\/X.s₀.heap.objs.size<=b)/\(∀x c,X.env.cells.lookup x=some c->c≠b)/\∀p∈X.pn++XY,p.1≠b
theorem Inv.fpOk{X:Cx}{XY:ZY}{Z:St}{H H':Hp}{s:Shared}{b:Addr}(I:Inv X XY Z H s)(hb:s.heap.objs.size<=b)(hn:H' b=none):Nm X XY H' b:=by
 refine⟨hn,Nat.ne_of_gt (Ru I.lt hb),I.nofs hb,.inr (Ut I.sz hb),fun x c e z=>?_,fun p hp z=>?_⟩
 .obtain⟨v,q⟩:=I.cell x c e;exact absurd (Ru q.lt (by rw[z];exact hb)) (Nat.lt_irrefl _)
 .exact absurd (Ru (Vh (I.pin p hp).1) (by rw[z];exact hb)) (Nat.lt_irrefl _)
structure Turn(P:Program)(w:World)(K:W.Frag)(tg:Expr)(J:It)(fp:ZU)(it:Addr)(tn:Nat->Heap->Prop):Prop where
 mem:it∈fp
 obj:∀i h,tn i h->∀b∈fp,∃o,h.get? b=some o/\∀v,o.data≠.cell v
 keep:∀i h h',tn i h->(∀b∈fp,∀o,h.get? b=some o->h'.get? b=some o)->tn i h'
 item:∀(X:Cx),X.prog=P->X.w=w->X.K=K->X.calm=true->∀(i:Nat) (XY:ZY) (s:Shared) (Z:St) (H:Hp) (E:ZW),Inv X XY Z H s->(∀b∈fp,Nm X XY H b)->tn i s.heap->J.go i H ->
  wpAny (model P w) X.A (pyNext (.ref it)) (fun r s1=>∃u,r=some u /\
   wpAny (model P w) X.A (letOwnedTupleGo tg (.ref it) u) (fun _ s2=>∃x H',Inv X XY Z H' s2/\RelV x u/\J.yld i H x H'/\tn (i+1) s2.heap/\∀b∈fp,H' b=none) E s1) E s
 done:∀(X:Cx),X.prog=P->X.w=w->X.K=K->X.calm=true->∀(i:Nat) (XY:ZY) (s:Shared) (Z:St) (H:Hp) (E:ZW),Inv X XY Z H s->(∀b∈fp,Nm X XY H b)->tn i s.heap->J.stop i H ->
  wpAny (model P w) X.A (pyNext (.ref it)) (fun r s1=>r=none/\Inv X XY Z H s1) E s
 self:∀(A:Around) (i:Nat) (s:Shared) (Q:ZW) (E:ZW),tn i s.heap->Q (.ref it) s->wpAny (model P w) A (pyIter (.ref it)) Q E s
abbrev TI:=St->Hp->(It->Hp->Prop)->Prop
def PIE(X:Cx)(XY:ZY)(Z:St)(tg:Expr)(R:It->Hp->Prop)(itv:Value)(s2:Shared):Prop :=
 ∃(it:Addr) (fp:ZU) (tn:Nat->Heap->Prop) (J:It) (H':Hp),itv=.ref it/\Inv X XY Z H' s2/\Turn X.prog X.w X.K tg J fp it tn/\tn 0 s2.heap/\(∀b∈fp,Nm X XY H' b)/\R J H'
def PI(X:Cx)(tg iter:Expr)(wi:TI):Prop :=
 ∀(XY:ZY) (s:Shared) (Z:St) (H:Hp) (R:It->Hp->Prop),Inv X XY Z H s->wi Z H R ->
  wpAny (model X.prog X.w) X.A (eval iter X.env) (fun v s1=>wpAny (model X.prog X.w) X.A (pyIter v) (PIE X XY Z tg R) X.xe s1) X.xe s
theorem W6{M:Model}{A:Around}{E:ZW}{s:Shared}{tg:Expr}{it:Addr}{u:Value}{o:Obj}{n:String}{vs:ZN}{Q:ZA}(ho:s.heap.get? it=some o)(hc:o.cls=.type n)(hd:o.data=.fields vs)
    (hn:["enumerate","zip","dict_itemiterator","dict_reverseitemiterator","odict_iterator","itertools.zip_longest","itertools.pairwise"].contains n=false) (hQ:Q () s):wpAny M A (letOwnedTupleGo tg (.ref it) u) Q E s:=by
  unfold letOwnedTupleGo
  cases tg<;>first
    | exact V1 hQ
    | (cases u<;>first
        | exact V1 hQ
        | (refine Za (wpAny_load ho ?_)
           rw[hc,hd];show wpAny M A (if (["enumerate","zip","dict_itemiterator","dict_reverseitemiterator","odict_iterator","itertools.zip_longest","itertools.pairwise"].contains n && vs[0]? == some (rawInt _))=true then _ else _) Q E s;rw[if_neg (by intro h;rw[hn,Bool.false_and]at h;cases h)];exact V1 hQ))
def Itl(K:W.Frag)(a:Addr):It :=
 ⟨fun i H=>∃xs x,Ud K H a xs/\xs[i]?=some x,fun i H x H'=>H'=H/\∀xs,Ud K H a xs->xs[i]?=some x,fun i H=>∃xs,Ud K H a xs/\xs.length<=i⟩
def Itt(K:W.Frag)(a:Addr):It :=
 ⟨fun i H=>∃xs x,Vc K H a xs/\xs[i]?=some x,fun i H x H'=>H'=H/\∀xs,Vc K H a xs->xs[i]?=some x,fun i H=>∃xs,Vc K H a xs/\xs.length<=i⟩
def Itr(lo:Int)(n:Nat):It:=⟨fun i _=>i<n,fun i H x H'=>H'=H/\x=.int (lo+i),fun i _=>n<=i⟩
theorem Xn{P:Program}{w:World}{K:W.Frag}{tg:Expr}(a it:Addr):Turn P w K tg (Itl K a) [it] it (fun i h=>h.IsListIter it a i) where
 mem:=by simp
 obj:=fun i h st b hb=>by
  have e:b=it:=by simpa using hb
  subst e;obtain⟨o,e,c,d⟩:=st;exact⟨o,e,fun v z=>by rw[d]at z;cases z⟩
 keep:=fun i h h' st k=>st.at fun o e=>k it (by simp) o e
 item:=by
  intro X hP hw hK hc i XY s Z H E I hf st hg;subst hP hw hK;obtain⟨xs,x,hq,hx⟩:=hg;obtain⟨its,rv,p,hz⟩:=I.list hq;obtain⟨u,hu,ru⟩:=rv.get hx;obtain⟨f0,f1,f2,f3,f4,f5⟩:=hf it (by simp);refine wpAny_pyNext_list_item st p.isList (x:=u) (by simpa using hu) fun h' T4 sb=>?_;have I1:Inv X XY Z H { s with heap:=h' }:=I.turned (t':=s.toks) (fun b o hb e=>(sb.2 b hb).trans e) f0 f1 f3 f4 f5;obtain⟨o,e,c,d⟩:=id T4;exact⟨u,rfl,W6 (s:={ s with heap:=h' }) e c d (by decide) ⟨x,H,I1,ru,⟨rfl,fun ys hy=>by rw[I.list_inj hy hq];exact hx⟩,T4,fun b hb=>(hf b hb).1⟩⟩
 done:=by
  intro X hP hw hK hc i XY s Z H E I hf st hg;subst hP hw hK;obtain⟨xs,hq,hx⟩:=hg;obtain⟨its,rv,p,hz⟩:=I.list hq;obtain⟨f0,f1,f2,f3,f4,f5⟩:=hf it (by simp);have hl:=rv.length;exact wpAny_pyNext_list_end (I.ok.hd hc) st p.isList (by simp;omega) fun h' eb=>⟨rfl,I.turned (t':=s.toks) (fun b o hb e=>eb b o hb e) f0 f1 f3 f4 f5⟩
 self:=fun _ _ _ _ _ st h=>wpAny_pyIter_listiter st h
theorem Et{P:Program}{w:World}{K:W.Frag}{tg:Expr}(a it:Addr):Turn P w K tg (Itt K a) [it] it (fun i h=>h.IsTupleIter it a i) where
 mem:=by simp
 obj:=fun i h st b hb=>by
  have e:b=it:=by simpa using hb
  subst e;obtain⟨o,e,c,d⟩:=st;exact⟨o,e,fun v z=>by rw[d]at z;cases z⟩
 keep:=fun i h h' st k=>st.at fun o e=>k it (by simp) o e
 item:=by
  intro X hP hw hK hc i XY s Z H E I hf st hg;subst hP hw hK;obtain⟨xs,x,hq,hx⟩:=hg;obtain⟨its,rv,p,hz⟩:=I.tuple hq;obtain⟨u,hu,ru⟩:=rv.get hx;obtain⟨f0,f1,f2,f3,f4,f5⟩:=hf it (by simp);refine wpAny_pyNext_tuple_item st (show s.heap.IsTuple a its.toArray from p) (x:=u) (by simpa using hu) fun h' T4 sb=>?_;have I1:Inv X XY Z H { s with heap:=h' }:=I.turned (t':=s.toks) (fun b o hb e=>(sb.2 b hb).trans e) f0 f1 f3 f4 f5;obtain⟨o,e,c,d⟩:=id T4;exact⟨u,rfl,W6 (s:={ s with heap:=h' }) e c d (by decide) ⟨x,H,I1,ru,⟨rfl,fun ys hy=>by rw[I.tuple_inj hy hq];exact hx⟩,T4,fun b hb=>(hf b hb).1⟩⟩
 done:=by
  intro X hP hw hK hc i XY s Z H E I hf st hg;subst hP hw hK;obtain⟨xs,hq,hx⟩:=hg;obtain⟨its,rv,p,hz⟩:=I.tuple hq;obtain⟨f0,f1,f2,f3,f4,f5⟩:=hf it (by simp);have hl:=rv.length;exact wpAny_pyNext_tuple_end (I.ok.hd hc) st (show s.heap.IsTuple a its.toArray from p) (by simp;omega) fun h' eb=>⟨rfl,I.turned (t':=s.toks) (fun b o hb e=>eb b o hb e) f0 f1 f3 f4 f5⟩
 self:=fun _ _ _ _ _ st h=>wpAny_pyIter_tupleiter st h
theorem Ec{P:Program}{w:World}{K:PySem.W.Frag}{tg:Expr}(it:Addr)(lo:Int)(n:Nat):Turn P w K tg (Itr lo n) [it] it (fun i h=>IsRangeIter h it (lo+(i:Nat) * 1) ((n:Int) - (i:Nat)) 1) where
 mem:=by simp
 obj:=fun i h st b hb=>by
  have e:b=it:=by simpa using hb
  subst e
  exact⟨_,st,fun v z=>by
   have z':Data.fields _=Data.cell v:=z;cases z'⟩
 keep:=fun i h h' st k=>k it (by simp) _ st
 item:=by
  intro X hP hw hK hc i XY s Z H E I hf st hg;subst hP hw hK;obtain⟨f0,f1,f2,f3,f4,f5⟩:=hf it (by simp);have W:=Walks.range (prog:=X.prog) (w:=X.w) (I.ok.hd hc) it lo 1 n;refine W.item i s _ _ hg st fun v h' tk hv T4 kk=>?_;obtain⟨t,rfl⟩:=hv;have I1:Inv X XY Z H { s with heap:=h',toks:=tk }:=I.turned (fun b o hb e=>kk b o (by simpa using hb) e) f0 f1 f3 f4 f5;refine⟨_,rfl,W6 (s:={ s with heap:=h',toks:=tk }) (n:="range_iterator") T4 rfl rfl (by decide) ⟨.int (lo+i),H,I1,⟨t, ?_⟩,⟨rfl,rfl⟩,T4,fun b hb=>(hf b hb).1⟩⟩;rw[Int.mul_one]
 done:=by
  intro X hP hw hK hc i XY s Z H E I hf st hg;subst hP hw hK;obtain⟨f0,f1,f2,f3,f4,f5⟩:=hf it (by simp);exact wpAny_pyNext_range_end (I.ok.hd hc) st (by have:n<=i:=hg;omega) fun h' eb=>⟨rfl,I.turned (t':=s.toks) (fun b o hb e=>eb b o hb e) f0 f1 f3 f4 f5⟩
 self:=fun _ _ _ _ _ st h=>wpAny_pyIter_rangeiter st h
section
variable{X:Cx}{tg:Expr}
inductive Iz(K:W.Frag)(R:(It->Hp->Prop))(x:V)(H1:Hp):Prop
 | mk(a)(Vg:x=.ref a)(Vb:(∃xs,Ud K H1 a xs))(Jg:R (Itl K a) H1):Iz K R x H1
def iList(K:W.Frag)(tl:TE):TI:=fun Z H R=>tl Z H fun x H1=>Iz K R x H1
inductive bg(K:W.Frag)(R:(It->Hp->Prop))(x:V)(H1:Hp):Prop
 | mk(a)(Vg:x=.ref a)(Vb:(∃xs,Vc K H1 a xs))(Jg:R (Itt K a) H1):bg K R x H1
def iTup(K:W.Frag)(tl:TE):TI:=fun Z H R=>tl Z H fun x H1=>bg K R x H1
theorem aq{l:Expr}{tl:TE}(hl:PE X l tl):PI X tg l (iList X.K tl):=by
 intro XY s Z H R I h;refine Yz (hl XY s Z H _ I h) fun v s1 ⟨x,H1,I1,r1,q1⟩=>?_;obtain⟨a,e,⟨xs,hq⟩,q⟩:=q1;subst e;cases r1;obtain⟨its,rv,p,hz⟩:=I1.list hq;refine wpAny_pyIter_list p.isList ?_;refine⟨s1.heap.objs.size,[s1.heap.objs.size],_,_,H1,rfl,I1.kept (t':=s1.toks) fun b o e=>Vs _ e,Xn a _,⟨_,Bv _ rfl,rfl,rfl⟩,fun b hb=>?_,q⟩;have e:b=s1.heap.objs.size:=by simpa using hb
 subst e;exact I1.fpOk (Z5 _) (I1.hok.fresh (Z5 _))
theorem pi_tup{l:Expr}{tl:TE}(hl:PE X l tl):PI X tg l (iTup X.K tl):=by
 intro XY s Z H R I h;refine Yz (hl XY s Z H _ I h) fun v s1 ⟨x,H1,I1,r1,q1⟩=>?_;obtain⟨a,e,⟨xs,hq⟩,q⟩:=q1;subst e;cases r1;obtain⟨its,rv,p,hz⟩:=I1.tuple hq;refine wpAny_pyIter_tuple (show s1.heap.IsTuple a its.toArray from p) ?_;refine⟨s1.heap.objs.size,[s1.heap.objs.size],_,_,H1,rfl,I1.kept (t':=s1.toks) fun b o e=>Vs _ e,Et a _,⟨_,Bv _ rfl,rfl,rfl⟩,fun b hb=>?_,q⟩;have e:b=s1.heap.objs.size:=by simpa using hb
 subst e;exact I1.fpOk (Z5 _) (I1.hok.fresh (Z5 _))
theorem yj{XY:ZY}{Z:St}{H:Hp}{s:Shared}{R:It->Hp->Prop}{E:ZW}{lo hi:Int}{t u v:Tok}{tk:Nat}(I:Inv X XY Z H s)(h1:-(2 ^ 62)<=lo)(h2:lo<2 ^ 62)(h3:-(2 ^ 62)<=hi)(h4:hi<2 ^ 62)
  (q:R (Itr lo (hi - lo).toNat) H):wpAny (model X.prog X.w) X.A (pyIter (.ref s.heap.objs.size)) (PIE X XY Z tg R) E { s with heap:=s.heap.push { cls:=.type "range",data:=.fields #[.int lo t,.int hi u,.int 1 v] },toks:=tk }:=by
 refine wpAny_pyIter_range (IsRange.new ..) (small_one h1 h2 h3 h4) ?_;have I1:Inv X XY Z H { s with heap:=s.heap.push { cls:=.type "range",data:=.fields #[.int lo t,.int hi u,.int 1 v] },toks:=tk }:=I.kept fun b o e=>Vs _ e
 refine⟨(s.heap.push { cls:=.type "range",data:=.fields #[.int lo t,.int hi u,.int 1 v] }).objs.size,[(s.heap.push { cls:=.type "range",data:=.fields #[.int lo t,.int hi u,.int 1 v] }).objs.size],_,_,H,rfl,
  I1.kept (t':=tk) fun b o e=>Vs _ e,Ec _ lo (hi - lo).toNat, ?_,fun b hb=>?_,q⟩
 .have e1:lo+((0:Nat):Int) * 1=lo:=by simp
  have e2:(((hi - lo).toNat:Nat):Int) - ((0:Nat):Int)=Builtin.Range.rangeSize lo hi 1:=by rw[rangeSize_one];split<;>omega
  show IsRangeIter _ _ (lo+((0:Nat):Int) * 1) ((((hi - lo).toNat:Nat):Int) - ((0:Nat):Int)) 1;rw[e1,e2];exact Bv _ rfl
 .have e:b=(s.heap.push { cls:=.type "range",data:=.fields #[.int lo t,.int hi u,.int 1 v] }).objs.size:=by simpa using hb
  subst e;exact I1.fpOk (Z5 _) (I1.hok.fresh (Z5 _))
inductive A9(R:(It->Hp->Prop))(vs:ZQ)(H1:Hp):Prop
 | mk(j:Int)(Vg:vs=[.int j])(Vb:-(2 ^ 62)<=j)(Jg:j<2 ^ 62)(S8:R (Itr 0 j.toNat) H1):A9 R vs H1
def iRng1(ta:TA):TI:=fun Z H R=>ta Z H fun vs H1=>A9 R vs H1
theorem zy{a:Expr}{ta:TA}{p pos:Pos}(hg:Gl X "range")(hm:X.mg "range" = none)(ha:PA X [a] ta)(hs:starEach [a] X.env=[(false,eval a X.env)]:=by rfl):PI X tg (.Call (.Name "range" p) [a] [] pos) (iRng1 ta):=by
 intro XY s Z H R I h;refine Call_ (U8 I hg hm boot_range (callWith_type1 (Yz (ha pos XY s Z H _ I h) fun us s1 ⟨vs,H1,I1,r1,q1⟩=>?_) hs rfl));obtain⟨j,e,q1,q2,q⟩:=q1;subst e;cases r1 with
 | cons r rr =>
  cases rr;obtain⟨t,rfl⟩:=r;exact call_range_1 (yj I1 (by omega) (by omega) q1 q2 (by simpa using q))
def tFor(wi:TI)(g:TG)(tb:TS):TS:=fun D Z H=>wi Z H fun J H1=>∃W:Nat->Nat->St->Hp->Prop,(∃m,W 0 m Z H1)/\∀i m Z H,W i m Z H ->
 (J.stop i H/\D.nx Z H)\/(J.go i H/\∃N:St->Hp->Prop,(∀σ' H',N σ' H'->∃m',m'<m/\W (i+1) m' σ' H')/\∀x H',J.yld i H x H'->g x Z H' fun σ2 H2=>tb { D with nx:=N,ct:=N,bk:=D.nx } σ2 H2)
def Cv(fp:ZU)(h:Heap):ZY:=fp.filterMap fun b=>(h.get? b).map fun o=>(b,o)
theorem Ji{fp:ZU}{h:Heap}{b:Addr}{o:Obj}(hb:b∈fp)(e:h.get? b=some o):(b,o)∈Cv fp h:=List.mem_filterMap.mpr ⟨b,hb,by rw[e];rfl⟩
theorem zd{fp:ZU}{h:Heap}{p:Addr×Obj}(hp:p∈Cv fp h):p.1∈fp/\h.get? p.1=some p.2:=by
 obtain⟨b,hb,e⟩:=List.mem_filterMap.mp hp;cases q:h.get? b with
 | none=>rw[q]at e;cases e
 | some o =>
  rw[q]at e;have e':(b,o)=p:=D8 e;subst e';exact⟨hb,q⟩
theorem Inv.pinned{XY:ZY}{Z:St}{H:Hp}{s:Shared}{fp:ZU}(I:Inv X XY Z H s)(hf:∀b∈fp,Nm X XY H b)(ho:∀b∈fp,∃o,s.heap.get? b=some o/\∀v,o.data≠.cell v):Inv X (XY++Cv fp s.heap) Z H s :=
 I.pins_of fun p hp=>(x8.mp hp).elim (fun z=>I.pin p (Ta _ z)) fun z=>by
  obtain⟨hb,e⟩:=zd z;obtain⟨f0,f1,f2,_⟩:=hf p.1 hb;obtain⟨o,e',d⟩:=ho p.1 hb;rw[e]at e';cases e';exact⟨e,f0,f1,f2,d⟩
theorem Inv.unpinned{XY pl:ZY}{Z:St}{H:Hp}{s:Shared}(I:Inv X (XY++pl) Z H s):Inv X XY Z H s:=I.pins_of fun p hp=>I.pin p (Ta _ (List.mem_append_left _ hp))
theorem ps_for{iter:Expr}{body:List Stmt}{wi:TI}{g:TG}{tb:TS}{pos:Pos}(hp:PassesOwn (model X.prog X.w) X.A X.env X.xe)(hc:X.calm=true)(hi:PI X tg iter wi)(hg:PG X tg g)(hb:Tu X body tb)
  (hs:∀x,foldedSetIterable iter X.env x=pure x:=by intro _;rfl):PS X (.For tg iter body [] pos) (tFor wi g tb):=by
 intro XY s Z H D I h;refine wpAny_For (Yz (hi XY s Z H _ I h) fun v s1 h1=>Yz h1 fun itv s2 h2=>?_) hs;obtain⟨it,fp,tn,J,H2,e,I2,T,st2,f2,W,⟨m0,w0⟩,turn⟩:=h2;subst e;have stat:∀{H':Hp},(∀b∈fp,H' b=none)->∀b∈fp,Nm X XY H' b:=fun hn b hb=>⟨hn b hb,(f2 b hb).2⟩;refine codeAny_forLoop_any (fun n s'=>∃i σ' H',Inv X XY σ' H' s'/\tn i s'.heap/\(∀b∈fp,H' b=none)/\W i n σ' H') ?_ m0 ⟨0,Z,H2,I2,st2,fun b hb=>(f2 b hb).1,w0⟩;rintro n s3 ⟨i,σ3,H3,I3,st3,fr3,w3⟩;rcases turn i n σ3 H3 w3 with ⟨stop,qn⟩ | ⟨go,N,hN,step⟩
 .refine wpAny_passesOwn hp (Yz (T.done X rfl rfl rfl hc i XY s3 σ3 H3 X.xe I3 (stat fr3) st3 stop) fun r s4 ⟨hr,I4⟩=>?_);subst hr;exact wpAny_execs_nil ⟨σ3,H3,I4,qn⟩
 .refine wpAny_passesOwn hp (Yz (T.item X rfl rfl rfl hc i XY s3 σ3 H3 X.xe I3 (stat fr3) st3 go) fun r s4 ⟨u,hr,h4⟩=>?_);subst hr;refine wpAny_passesOwn hp (Yz h4 fun _ s5 ⟨x,H5,I5,r5,y5,st5,fr5⟩=>?_);have I5':=I5.pinned (stat fr5) (T.obj _ _ st5);refine wpAny_passesOwn hp (Yz (hg _ s5 σ3 H5 x u _ I5' r5 (step x H5 y5)) fun _ s6 ⟨σ6,H6,I6,q6⟩=>?_);refine wpAny_passesOwn hp (Yz (hb _ s6 σ6 H6 _ I6 q6) fun f s7 q7=>?_)
  have again:∀{σ7:St} {H7:Hp},Inv X (XY++Cv fp s5.heap) σ7 H7 s7->N σ7 H7->∃m,m<n/\∃i σ' H',Inv X XY σ' H' s7/\tn i s7.heap/\(∀b∈fp,H' b=none)/\W i m σ' H':=fun {σ7 H7} I7 n7=>by
   obtain⟨m',hm,w7⟩:=hN σ7 H7 n7;refine⟨m',hm,i+1,σ7,H7,I7.unpinned,T.keep _ _ _ st5 fun b hb o e=>(I7.pin (b,o) (Ta _ (Ta _ (Ji hb e)))).1,fun b hb=>?_,w7⟩;obtain⟨o,e,d⟩:=T.obj _ _ st5 b hb;exact(I7.pin (b,o) (Ta _ (Ta _ (Ji hb e)))).2.1
  cases f with
  | next=>obtain⟨σ7,H7,I7,n7⟩:=q7;exact again I7 n7
  | cont=>obtain⟨σ7,H7,I7,n7⟩:=q7;exact again I7 n7
  | brk=>obtain⟨σ7,H7,I7,q7⟩:=q7;exact⟨σ7,H7,I7.unpinned,q7⟩
  | ret v=>obtain⟨x7,σ7,H7,I7,r7,q7⟩:=q7;exact⟨x7,σ7,H7,I7.unpinned,r7,q7⟩
end
abbrev R2:=V->V->Hp->VK->Prop
def Dz(X:Cx)(f:Value->Value->Sem Value)(r:R2):Prop :=
 ∀(XY:ZY) (s:Shared) (Z:St) (H:Hp) (x y:V) (v u:Value) (Q:VK),Inv X XY Z H s->RelV x v->RelV y u->r x y H Q ->
  wpAny (model X.prog X.w) X.A (f v u) (EP X XY Z Q) X.xe s
def UnR(X:Cx)(f:Value->Sem Value)(r:V->Hp->VK->Prop):Prop :=
 ∀(XY:ZY) (s:Shared) (Z:St) (H:Hp) (x:V) (v:Value) (Q:VK),Inv X XY Z H s->RelV x v->r x H Q ->
  wpAny (model X.prog X.w) X.A (f v) (EP X XY Z Q) X.xe s
def Y7(X:Cx)(f:Value)(r:ZQ->Hp->VK->Prop):Prop :=
 ∀(XY:ZY) (s:Shared) (Z:St) (H:Hp) (xs:ZQ) (us:ZM) (Q:VK),Inv X XY Z H s->Zk xs us->r xs H Q ->
  wpAny (model X.prog X.w) X.A (call f us) (EP X XY Z Q) X.xe s
def tOp(r:R2)(ta tb:TE):TE:=fun Z H Q=>ta Z H fun x H1=>tb Z H1 fun y H2=>r x y H2 Q
def tUn(r:V->Hp->VK->Prop)(ta:TE):TE:=fun Z H Q=>ta Z H fun x H1=>r x H1 Q
inductive rI_I(C:Int->Int->Prop)(g:Int->Int->V)(x:V)(y:V)(H:Hp)(Q:VK):Prop
 | mk(i j)(Vg:x=.int i)(Vb:y=.int j)(Jg:C i j)(S8:Q (g i j) H):rI_I C g x y H Q
def rI(C:Int->Int->Prop)(g:Int->Int->V):R2:=fun x y H Q=>rI_I C g x y H Q
inductive Zxs(g:Int->Int->V)(x:V)(y:V)(H:Hp)(Q:VK):Prop
 | mk(i j)(Vg:x=.int i)(Vb:y=.int j)(Jg:Q (g i j) H):Zxs g x y H Q
def rI0(g:Int->Int->V):R2:=fun x y H Q=>Zxs g x y H Q
inductive rU_I(g:Int->V)(x:V)(H:Hp)(Q:VK):Prop
 | mk(i)(Vg:x=.int i)(Vb:Q (g i) H):rU_I g x H Q
def rU(g:Int->V):V->Hp->VK->Prop:=fun x H Q=>rU_I g x H Q
section
variable{X:Cx}{a b c:Expr}{ta tb tc:TE}{pos:Pos}
theorem binT(ha:PE X a ta)(hb:PE X b tb){XY:ZY}{s:Shared}{Z:St}{H:Hp}{R:V->V->Hp->Prop}(I:Inv X XY Z H s)
  (h:ta Z H fun x H1=>tb Z H1 fun y H2=>R x y H2) {Q:ZW} {f:Value->Value->Sem Value}
  (hf:∀v u s2 x y H2,Inv X XY Z H2 s2->RelV x v->RelV y u->R x y H2->wpAny (model X.prog X.w) X.A (f v u) Q X.xe s2) :
  wpAny (model X.prog X.w) X.A (eval a X.env) (fun v s₁=>wpAny (model X.prog X.w) X.A (eval b X.env) (fun u s₂=>wpAny (model X.prog X.w) X.A (f v u) Q X.xe s₂) X.xe s₁) X.xe s:=by
 refine Yz (ha XY s Z H _ I h) fun v s1 ⟨x,H1,I1,r1,q1⟩=>?_;refine Yz (hb XY s1 Z H1 _ I1 q1) fun u s2 ⟨y,H2,I2,r2,q2⟩=>?_;exact hf v u s2 x y H2 I2 r1 r2 q2
theorem pe_op{op:Operator}{r:R2}(ho:Dz X (binaryOp op) r)(ha:PE X a ta)(hb:PE X b tb):PE X (.BinOp a op b pos) (tOp r ta tb):=by
 intro XY s Z H Q I h;exact wpAny_BinOp (binT ha hb I h fun v u s2 x y H2 I2 rx ry q=>ho XY s2 Z H2 x y v u Q I2 rx ry q)
theorem pe_un{op:UnaryOp}{r:V->Hp->VK->Prop}(ho:UnR X (unaryOp op) r)(ha:PE X a ta):PE X (.UnaryOp op a pos) (tUn r ta):=by
 intro XY s Z H Q I h;exact UnaryOp_ (Yz (ha XY s Z H _ I h) fun v s1 ⟨x,H1,I1,r1,q1⟩=>ho XY s1 Z H1 x v Q I1 r1 q1)
theorem opI{f:Value->Value->Sem Value}{C:Int->Int->Prop}{g:Int->Int->Int}
  (rule:∀(i j:Int) (t u:Tok) (s:Shared) (Q:ZW) (E:ZW),C i j->Q (.int (g i j) s.toks) { s with toks:=s.toks+1 }->wpAny (model X.prog X.w) X.A (f (.int i t) (.int j u)) Q E s) :
  Dz X f (rI C fun i j=>.int (g i j)):=by
 intro XY s Z H x y v u Q I rx ry h;obtain⟨i,j,rfl,rfl,hc,q⟩:=h;obtain⟨t,rfl⟩:=rx;obtain⟨t',rfl⟩:=ry;exact rule i j t t' s _ _ hc ⟨.int (g i j),H,I.tok _,⟨_,rfl⟩,q⟩
theorem opI0{f:Value->Value->Sem Value}{g:Int->Int->Int}
  (rule:∀(i j:Int) (t u:Tok) (s:Shared) (Q:ZW) (E:ZW),Q (.int (g i j) s.toks) { s with toks:=s.toks+1 }->wpAny (model X.prog X.w) X.A (f (.int i t) (.int j u)) Q E s) :
  Dz X f (rI0 fun i j=>.int (g i j)):=by
 intro XY s Z H x y v u Q I rx ry h;obtain⟨i,j,rfl,rfl,q⟩:=h;obtain⟨t,rfl⟩:=rx;obtain⟨t',rfl⟩:=ry;exact rule i j t t' s _ _ ⟨.int (g i j),H,I.tok _,⟨_,rfl⟩,q⟩
theorem ot{f:Value->Value->Sem Value}{g:Int->Int->Bool}
  (rule:∀(i j:Int) (t u:Tok) (s:Shared) (Q:ZW) (E:ZW),Q (.bool (g i j)) s->wpAny (model X.prog X.w) X.A (f (.int i t) (.int j u)) Q E s) :
  Dz X f (rI0 fun i j=>.bl (g i j)):=by
 intro XY s Z H x y v u Q I rx ry h;obtain⟨i,j,rfl,rfl,q⟩:=h;obtain⟨t,rfl⟩:=rx;obtain⟨t',rfl⟩:=ry;exact rule i j t t' s _ _ ⟨.bl (g i j),H,I,rfl,q⟩
def CDiv(i j:Int):Prop:=0<j/\j<1073741824
def CPow(i j:Int):Prop:=0<=j/\j<=1000000/\i.natAbs<2 ^ 64
def CMul(i j:Int):Prop:=(-(2 ^ 64)<i/\i<2 ^ 64)\/(-(2 ^ 64)<j/\j<2 ^ 64)
theorem CMul.ok{i j:Int}(h:CMul i j):IntMulOk i j:=by
 rcases h with ⟨h1,h2⟩ | ⟨h1,h2⟩
 .exact .of_left (intBits_le_64 h1 h2)
 .exact .of_right (intBits_le_64 h1 h2)
theorem op_add:Dz X (binaryOp .Add) (rI0 fun i j=>.int (i+j)):=opI0 fun _ _ _ _ _ _ _ q=>add_int q
theorem op_sub:Dz X (binaryOp .Sub) (rI0 fun i j=>.int (i - j)):=opI0 fun _ _ _ _ _ _ _ q=>sub_int q
theorem op_mul:Dz X (binaryOp .Mult) (rI CMul fun i j=>.int (i * j)):=opI fun _ _ _ _ _ _ _ hc q=>mul_int q hc.ok
theorem oz:Dz X (binaryOp .FloorDiv) (rI CDiv fun i j=>.int (i / j)):=opI fun i j _ _ _ _ _ hc q=>by
 have h1:(0:Int)<j:=hc.1;have h2:j<1073741824:=hc.2;exact floordiv_int (by omega) (by rw[Int.fdiv_eq_ediv_of_nonneg i (by omega)];exact q) (.inl (PyProof.noPylong_small (by omega)))
theorem op_mod:Dz X (binaryOp .Mod) (rI (fun _ j=>0<j) fun i j=>.int (i % j)):=opI fun i j _ _ _ _ _ hc q=>by
 have h1:(0:Int)<j:=hc;exact mod_int' (by omega) (by rw[Int.fmod_eq_emod_of_nonneg i (by omega)];exact q)
theorem op_pow:Dz X (binaryOp .Pow) (rI CPow fun i j=>.int (i ^ j.toNat)):=opI fun _ _ _ _ _ _ _ hc q=>pow_int_small hc.1 hc.2.1 hc.2.2 q
theorem unI{f:Value->Sem Value}{g:Int->Int}
  (rule:∀(i:Int) (t:Tok) (s:Shared) (Q:ZW) (E:ZW),Q (.int (g i) s.toks) { s with toks:=s.toks+1 }->wpAny (model X.prog X.w) X.A (f (.int i t)) Q E s) :
  UnR X f (rU fun i=>.int (g i)):=by
 intro XY s Z H x v Q I rx h;obtain⟨i,rfl,q⟩:=h;obtain⟨t,rfl⟩:=rx;exact rule i t s _ _ ⟨.int (g i),H,I.tok _,⟨_,rfl⟩,q⟩
theorem un_neg:UnR X (unaryOp .USub) (rU fun i=>.int (-i)):=unI fun _ _ _ _ _ q=>neg_int q
end
noncomputable def scal:V->V->Bool
 | .non,.non=>true | .non,.int _=>true | .int _,.non=>true | .non,.bl _=>true | .bl _,.non=>true | .non,.str _=>true | .str _,.non=>true
 | .int _,.int _=>true | .bl _,.bl _=>true | .str _,.str _=>true | .byt _,.byt _=>true
 | .int _,.str _=>true | .str _,.int _=>true | .bl _,.str _=>true | .str _,.bl _=>true
 | _,_=>false
section
variable{X:Cx}{a b c:Expr}{ta tb tc:TE}{pos:Pos}
theorem Fu{XY:ZY}{Z:St}{H:Hp}{s:Shared}{Q:VK}{k k':Bool}(I:Inv X XY Z H s)(q:Q (.bl k) H)(e:k=k'):EP X XY Z Q (.bool k') s:=by
 subst e;exact⟨.bl k,H,I,rfl,q⟩
theorem op_lt:Dz X (compareOp .Lt) (rI0 fun i j=>.bl (decide (i<j))):=ot fun _ _ _ _ _ _ _ q=>lt_int q
theorem op_le:Dz X (compareOp .LtE) (rI0 fun i j=>.bl (decide (i<=j))):=ot fun _ _ _ _ _ _ _ q=>le_int q
theorem op_gt:Dz X (compareOp .Gt) (rI0 fun i j=>.bl (decide (j<i))):=ot fun _ _ _ _ _ _ _ q=>gt_int q
theorem op_ge:Dz X (compareOp .GtE) (rI0 fun i j=>.bl (decide (j<=i))):=ot fun _ _ _ _ _ _ _ q=>ge_int q
inductive Bf(x:V)(y:V)(H:Hp)(Q:VK):Prop
 | mk(i j)(Vg:x=.str i)(Vb:y=.str j)(Jg:Q (.bl (!(Builtin.Str.occurrences j i 0 j.length 1).isEmpty)) H):Bf x y H Q
theorem zb:Dz X (compareOp .In) (fun x y H Q=>Bf x y H Q):=by
 intro XY s Z H x y v u Q I rx ry h;obtain⟨i,j,rfl,rfl,q⟩:=h;obtain⟨t,rfl⟩:=rx;obtain⟨t',rfl⟩:=ry;exact in_str (Fu I q rfl)
theorem gj:Dz X (compareOp .Is) (fun x y H Q=>y=.non/\Q (.bl (decide (x=.non))) H):=by
 intro XY s Z H x y v u Q I rx ry h;obtain⟨rfl,q⟩:=h;cases ry;refine is_none_gen (Fu I q ?_)
 cases x<;>first
  | (cases rx;rfl)
  | (obtain⟨t,rfl⟩:=rx;rfl)
theorem Aa:Dz X (compareOp .IsNot) (fun x y H Q=>y=.non/\Q (.bl (!decide (x=.non))) H):=by
 intro XY s Z H x y v u Q I rx ry h;obtain⟨rfl,q⟩:=h;cases ry;refine isnot_none_gen (Fu I q ?_)
 cases x<;>first
  | (cases rx;rfl)
  | (obtain⟨t,rfl⟩:=rx;rfl)
inductive Ga(x:V)(y:V)(H:Hp)(Q:VK):Prop
 | mk(i j)(Vg:x=.str i)(Vb:y=.str j)(Jg:Q (.bl (!(!(Builtin.Str.occurrences j i 0 j.length 1).isEmpty))) H):Ga x y H Q
theorem L9:Dz X (compareOp .NotIn) (fun x y H Q=>Ga x y H Q):=by
 intro XY s Z H x y v u Q I rx ry h;obtain⟨i,j,rfl,rfl,q⟩:=h;obtain⟨t,rfl⟩:=rx;obtain⟨t',rfl⟩:=ry;exact notIn_str (Fu I q rfl)
theorem Dz.or{f:Value->Value->Sem Value}{r r':R2}(h:Dz X f r)(h':Dz X f r'):Dz X f (fun x y H Q=>r x y H Q\/r' x y H Q):=by
 intro XY s Z H x y v u Q I rx ry q;rcases q with q | q
 .exact h XY s Z H x y v u Q I rx ry q
 .exact h' XY s Z H x y v u Q I rx ry q
theorem au{op:CmpOp}{r:R2}(ho:Dz X (compareOp op) r)(ha:PE X a ta)(hb:PE X b tb)(hm:behindInMarks op b=false):PE X (.Compare a [op] [b] pos) (tOp r ta tb):=by
 intro XY s Z H Q I h;exact wpAny_Compare1 (binT ha hb I h fun v u s2 x y H2 I2 rx ry q=>ho XY s2 Z H2 x y v u Q I2 rx ry q) hm
inductive Ll(Q:(Bool->Hp->Prop))(x:V)(H':Hp):Prop
 | mk(k)(Vg:x=.bl k)(Vb:Q k H'):Ll Q x H'
def Zxk(t:TE):TT:=fun Z H Q=>t Z H fun x H'=>Ll Q x H'
theorem uh{op:CmpOp}{r:R2}(ho:Dz X (compareOp op) r)(ha:PE X a ta)(hb:PE X b tb)(hm:behindInMarks op b=false):PT X (.Compare a [op] [b] pos) (Zxk (tOp r ta tb)):=by
 intro XY s Z H Q I h
 refine wpAny_isTrue_Compare1 (Yz (ha XY s Z H _ I h) fun v s1 ⟨x,H1,I1,r1,q1⟩=>Yz (hb XY s1 Z H1 _ I1 q1) fun u s2 ⟨y,H2,I2,r2,q2⟩ =>
  Yz (ho XY s2 Z H2 x y v u _ I2 r1 r2 q2) fun c s3 ⟨z,H3,I3,r3,k,e,q3⟩=>?_) hm
 subst e;cases r3;exact wpAny_truthy_bool ⟨H3,I3,q3⟩
inductive Pd(r':R2)(tc:TE)(Z:St)(Q:VK)(y:V)(z:V)(H3:Hp):Prop
 | mk(k)(Vg:z=.bl k)(Vb:(if k=true then tc Z H3 fun w' H4=>r' y w' H4 Q else Q (.bl false) H3)):Pd r' tc Z Q y z H3
def Es(r r':R2)(ta tb tc:TE):TE:=fun Z H Q=>ta Z H fun x H1=>tb Z H1 fun y H2=>r x y H2 fun z H3=>Pd r' tc Z Q y z H3
theorem kn{op S6:CmpOp}{r r':R2}(ho:Dz X (compareOp op) r)(Q7:Dz X (compareOp S6) r')(ha:PE X a ta)(hb:PE X b tb)(hc:PE X c tc)
  (hm:lastMarks [op,S6] [b,c]=false:=by with_unfolding_all rfl):PE X (.Compare a [op,S6] [b,c] pos) (Es r r' ta tb tc):=by
 intro XY s Z H Q I h
 refine Compare_chain (Yz (ha XY s Z H _ I h) fun v s1 ⟨x,H1,I1,r1,q1⟩=>chain_link (Yz (hb XY s1 Z H1 _ I1 q1) fun u s2 ⟨y,H2,I2,r2,q2⟩ =>
  Yz (ho XY s2 Z H2 x y v u _ I2 r1 r2 q2) fun d s3 ⟨z,H3,I3,r3,k,e,q3⟩=>?_)) hm
 subst e;cases r3;refine wpAny_truthy_bool ?_;cases k with
 | false=>exact ite_ff ⟨.bl false,H3,I3,rfl,q3⟩
 | true=>exact ite_tt (chain_last (Yz (hc XY s3 Z H3 _ I3 q3) fun w' s4 ⟨z',H4,I4,r4,q4⟩=>Q7 XY s4 Z H4 y z' u w' Q I4 r2 r4 q4))
theorem yt{op S6:CmpOp}{r r':R2}(ho:Dz X (compareOp op) r)(Q7:Dz X (compareOp S6) r')(ha:PE X a ta)(hb:PE X b tb)(hc:PE X c tc)
  (hm:lastMarks [op,S6] [b,c]=false:=by with_unfolding_all rfl):PT X (.Compare a [op,S6] [b,c] pos) (Zxk (Es r r' ta tb tc)):=by
 intro XY s Z H Q I h
 refine isTrue_chain (Yz (ha XY s Z H _ I h) fun v s1 ⟨x,H1,I1,r1,q1⟩=>test_link (Yz (hb XY s1 Z H1 _ I1 q1) fun u s2 ⟨y,H2,I2,r2,q2⟩ =>
  Yz (ho XY s2 Z H2 x y v u _ I2 r1 r2 q2) fun d s3 ⟨z,H3,I3,r3,k,e,q3⟩=>?_)) hm
 subst e;cases r3;refine wpAny_truthy_bool ?_;cases k with
 | false =>
  obtain⟨k',e',q'⟩:=q3;cases e';exact ite_ff ⟨H3,I3,q'⟩
 | true =>
  refine ite_tt (test_last (Yz (hc XY s3 Z H3 _ I3 q3) fun w' s4 ⟨z',H4,I4,r4,q4⟩=>Yz (Q7 XY s4 Z H4 y z' u w' _ I4 r2 r4 q4) fun d' s5 ⟨z2,H5,I5,r5,k2,e2,q5⟩=>?_));subst e2;cases r5;exact wpAny_truthy_bool ⟨H5,I5,q5⟩
theorem N4:(sizeLine:Nat)<2 ^ 63:=by rw[sizeLine_eq];decide
inductive Mu(x:V)(y:V)(H:Hp)(Q:VK):Prop
 | mk(i j)(Vg:x=.str i)(Vb:y=.str j)(Jg:i.length+j.length<=sizeLine)(S8:Q (.str (i++j)) H):Mu x y H Q
theorem Kj:Dz X (binaryOp .Add) (fun x y H Q=>Mu x y H Q):=by
 intro XY s Z H x y v u Q I rx ry h;obtain⟨i,j,rfl,rfl,hz,q⟩:=h;obtain⟨t,rfl⟩:=rx;obtain⟨t',rfl⟩:=ry;exact add_str (fun t' tk=>⟨.str (i++j),H,I.tok _,⟨_,rfl⟩,q⟩) hz
theorem vals1{x:V}{us:ZM}(r:Zk [x] us):∃u,us=[u]/\RelV x u:=by
 cases r with
 | cons r1 r2=>cases r2;exact⟨_,rfl,r1⟩
theorem vals2{x y:V}{us:ZM}(r:Zk [x,y] us):∃u w',us=[u,w']/\RelV x u/\RelV y w':=by
 cases r with
 | cons r1 r2 =>
  cases r2 with
  | cons r3 r4=>cases r4;exact⟨_,_,rfl,r1,r3⟩
inductive Bn(xs:ZQ)(H:Hp)(Q:VK):Prop
 | mk(i j)(Vg:xs=[.int i,.int j])(Vb:Q (.int (if j<i then j else i)) H):Bn xs H Q
theorem xh(hc:X.calm=true):Y7 X (.builtin "min") (fun xs H Q=>Bn xs H Q):=by
 intro XY s Z H xs us Q I r h;obtain⟨i,j,rfl,q⟩:=h;obtain⟨u,w',rfl,⟨t,rfl⟩,⟨t',rfl⟩⟩:=vals2 r;refine min_two_ints (I.ok.hd hc) fun h' tk k=>⟨_,H,I.kept k, ?_,q⟩;by_cases hj:j<i
 .rw[if_pos hj,if_pos hj];exact⟨_,rfl⟩
 .rw[if_neg hj,if_neg hj];exact⟨_,rfl⟩
theorem xu:Y7 X (.type "int") (fun xs H Q=>(∃i,xs=[.int i]/\Q (.int i) H)\/∃k,xs=[.bl k]/\Q (.int (if k then 1 else 0)) H):=by
 intro XY s Z H xs us Q I r h;rcases h with ⟨i,rfl,q⟩ | ⟨k,rfl,q⟩
 .obtain⟨u,rfl,t,rfl⟩:=vals1 r;exact call_int_int ⟨.int i,H,I,⟨_,rfl⟩,q⟩
 .obtain⟨u,rfl,r1⟩:=vals1 r;cases r1;exact call_int_bool ⟨.int (if k then 1 else 0),H,I.tok _,⟨_,rfl⟩,q⟩
inductive G5(xs:ZQ)(H:Hp)(Q:VK):Prop
 | mk(i)(Vg:xs=[.int i])(Vb:i.natAbs.log2<1920)(Jg:Q (.str (toString i)) H):G5 xs H Q
theorem Qd:Y7 X (.type "str") (fun xs H Q=>G5 xs H Q):=by
 intro XY s Z H xs us Q I r h;obtain⟨i,rfl,hz,q⟩:=h;obtain⟨u,rfl,t,rfl⟩:=vals1 r;exact PySem.P.str_of_int hz ⟨.str _,H,I.tok _,⟨_,rfl⟩,q⟩
def LenV(K:W.Frag)(x:V)(H:Hp)(n:Nat):Prop :=
 match x with
 | .str y=>y.length<=sizeLine/\n=y.length
 | .byt y=>y.size<=sizeLine/\n=y.size
 | .ref p=>(∃xs,Ud K H p xs/\n=xs.length)\/∃xs,Vc K H p xs/\n=xs.length
 | _=>False
inductive C9(K:W.Frag)(xs:ZQ)(H:Hp)(Q:VK):Prop
 | mk(x n)(Vg:xs=[x])(Vb:LenV K x H n)(Jg:Q (.int n) H):C9 K xs H Q
theorem di:Y7 X (.builtin "len") (fun xs H Q=>C9 X.K xs H Q):=by
 intro XY s Z H xs us Q I r h;obtain⟨x,n,rfl,e,q⟩:=h;obtain⟨u,rfl,rx⟩:=vals1 r;have hl:=N4;have hs:sizeLine=16777216:=sizeLine_eq;cases x with
 | str y =>
  obtain⟨t,rfl⟩:=rx;obtain⟨hy,e'⟩:y.length<=sizeLine/\n=y.length:=e;subst e';exact len_str (by omega) ⟨.int _,H,I.tok _,⟨_,rfl⟩,q⟩
 | byt y =>
  obtain⟨t,rfl⟩:=rx;obtain⟨hy,e'⟩:y.size<=sizeLine/\n=y.size:=e;subst e';exact W.len_bytes (by omega) ⟨.int _,H,I.tok _,⟨_,rfl⟩,q⟩
 | ref p =>
  cases rx;have e':(∃xs,Ud X.K H p xs/\n=xs.length)\/∃xs,Vc X.K H p xs/\n=xs.length:=e;rcases e' with ⟨xs,hx,e'⟩ | ⟨xs,hx,e'⟩
  .subst e';obtain⟨its,r',pl,hz⟩:=I.list hx;have hlen:=r'.length;exact Calls.call_len_list pl.isList (by simp only[Jz];omega) ⟨.int xs.length,H,I.tok _,⟨_,by simp only[Jz];rw[hlen]⟩,q⟩
  .subst e';obtain⟨its,r',pl,hz⟩:=I.tuple hx;have hlen:=r'.length;exact len_tuple pl (by simp only[Jz];omega) ⟨.int xs.length,H,I.tok _,⟨_,by simp only[Jz];rw[hlen]⟩,q⟩
 | _=>exact(show False from e).elim
end
structure ObjM(h:Heap)(x dx C:Addr)(mA:ZV):Prop where
 obj:h.get? x=some (W.instObj C dx)
 ns:h.Ns1 dx mA
 ne:dx≠x
theorem zu{h:Heap}{dx:Addr}{mA:ZV}(n:h.Ns1 dx mA):∃od,h.get? dx=some od/\∀name,W.lookIn name od=some (mA name):=by
 obtain⟨o,es,ep,ho,hd,hk,_,hm⟩:=n;refine⟨o,ho,fun name=>?_⟩;have e:=hm name;unfold nsFind findBy at e;rw[<-Array.find?_toList]at e;unfold W.lookIn;rw[hd];dsimp only
 split
 .rename_i y q
  rw[q]at e;exact congrArg some e
 .rename_i q
  rw[q]at e
  have a:es.toList.any (·.refKey)=false:=by
   rw[List.any_eq_false];intro y hy;obtain⟨z,t,hkey⟩:=hk y (Array.mem_toList_iff.mp hy);simp[DictEntry.refKey,hkey]
  have a':¬ es.toList.any (·.refKey)=true:=by rw[a];exact Nt
  rw[if_neg a'];exact congrArg some e
theorem ObjM.look{h:Heap}{x dx C:Addr}{mA:ZV}(I:ObjM h x dx C mA):∃od,W.InstAt h x (W.instObj C dx) C (some od)/\∀name,W.lookIn name od=some (mA name) :=
 let ⟨od,ho,hl⟩:=zu I.ns
 ⟨od,⟨I.obj,rfl,rfl,ho⟩,hl⟩
section
variable{prog:Program}{w:World}{A:Around}{E:ZW}{s:Shared}{K:W.Frag}{x dx C f:Addr}{mA:ZV}{name:Str}{v:Value}
end
theorem Bj.some_of{v:V}{o:ZT}(r:Bj (some v) o):∃u,o=some u/\RelV v u:=by
 cases o with
 | none=>exact(show False from r).elim
 | some u=>exact⟨u,rfl,r⟩
section
variable{P:Program}{w:World}{H H':Hp}{h h':Heap}{a C dx:Addr}{fs fs':List (Str×V)}
theorem i6(hok:Mm P w H h)(e:H a=some (.ins C dx fs)):∃mA,ObjM h a dx C mA/\(∀f,Bj (fs.lookup f) (mA f))/\PySem.Within mA (fs.map (·.1))/\fs.length<=1000/\H dx=some (.own a):=by
 obtain⟨d,z,ne,ob,mA,n,r,q⟩:=(show Ze P w H h a (.ins C dx fs) from hok a _ e);exact⟨mA,⟨ob,n,ne⟩,r,q,z,d⟩
end
structure Cls(K:W.Frag)(C:Addr):Prop where
 pg:W.plainGet K C Str.empty=true
 hd:W.hasDictIn K C=true
 po:W.plainOver K C=true
 sa:W.findIn K (.ref C) "__setattr__" = some (some (.builtin "object.__setattr__"))
theorem Cls.get{K:W.Frag}{C:Addr}(c:Cls K C)(f:Str):W.plainGet K C f=true:=c.pg
section
variable{X:Cx}{XY:ZY}{Z:St}{H:Hp}{s:Shared}{a C dx:Addr}{fs:List (Str×V)}{f:Str}{v:V}{A:Around}{E:ZW}
end
section
variable{X:Cx}{o e value:Expr}{f:Str}{pos pos' tpos:Pos}{ta tv:TE}
end
section
variable{X:Cx}{XY:ZY}{Z:St}{H:Hp}{s:Shared}{A:Around}{E:ZW}{Q:ZW}{c:Value}{b:Bool}
inductive B6(K:W.Frag)(H:Hp):V->Value->Prop where
 | non:B6 K H .non (.type "NoneType")
 | bl (x:Bool):B6 K H (.bl x) (.type "bool")
 | int (i:Int):B6 K H (.int i) (.type "int")
 | str (x:Str):B6 K H (.str x) (.type "str")
 | flt (x:UInt64):B6 K H (.flt x) (.type "float")
 | lst {a:Addr} {xs:ZQ} (e:H a=some (.lst xs)):B6 K H (.ref a) (.type "list")
 | frz {a:Addr} {o:Obj} {xs:ZQ} (e:H a=some (.frz o (.lst xs))):B6 K H (.ref a) (.type "list")
 | tup {a:Addr} {xs:ZQ} (e:H a=some (.tup xs)):B6 K H (.ref a) (.type "tuple")
 | dK {a:Addr} {XG:List (Key×V)} (e:H a=some (.dK XG)):B6 K H (.ref a) (.type "dict")
 | dT {a:Addr} {XG:List (List Key×V)} (e:H a=some (.dT XG)):B6 K H (.ref a) (.type "dict")
 | ins {a C dx:Addr} {fs:List (Str×V)} (e:H a=some (.ins C dx fs)) (cl:Cls K C) (ha:W.findIn K (.ref C) "__class__" = some (some (.builtin "object.__class__")))
   (hn:W.specialIn K (.builtin "object.__class__") "__get__" = some (some (.builtin "getset_descriptor.__get__"))) (htk:W.takesIn K (.builtin "object.__class__")=some true)
   (hm:W.mroIn K C (.type "object")=some true):B6 K H (.ref a) (.ref C)
theorem V9{x:V}{u t:Value}(I:Inv X XY Z H s)(rx:RelV x u)(ty:B6 X.K H x t)(e:W.kitOne X.K t c=some b)(h:∀tk,Q (.bool b) { s with toks:=tk }) :
  wpAny (model X.prog X.w) A (call (.builtin "isinstance") [u,c]) Q E s:=by
 cases ty with
 | non=>cases(show u=Value.none from rx);exact W.kia_one W.kitx_none I.kIn True.intro e (fun z=>nomatch z) h
 | bl y=>cases(show u=Value.bool y from rx);exact W.kia_one W.kitx_bool I.kIn True.intro e (fun z=>nomatch z) h
 | int i=>obtain⟨t,q⟩:=(show ∃t,u=Value.int i t from rx);cases q;exact W.kia_one W.kitx_int I.kIn True.intro e (fun z=>nomatch z) h
 | str y=>obtain⟨t,q⟩:=(show ∃t,u=Value.str y t from rx);cases q;exact W.kia_one W.kitx_str I.kIn True.intro e (fun z=>nomatch z) h
 | flt y=>obtain⟨t,q⟩:=(show ∃t,u=Value.float y t from rx);cases q;exact W.kia_one W.kitx_float I.kIn True.intro e (fun z=>nomatch z) h
 | @lst a xs ea =>
  cases(show u=Value.ref a from rx);obtain⟨_,_,n,_,h1⟩:=(show Ze X.prog X.w H s.heap a (.lst xs) from I.hok a _ ea);exact W.kia_one W.kitx_list I.kIn ⟨_,h1,rfl⟩ e (fun z=>nomatch z) h
 | @frz a ob xs ea =>
  cases(show u=Value.ref a from rx);obtain⟨_,_,_,n,_,h1⟩:=(show Ze X.prog X.w H s.heap a (.frz ob (.lst xs)) from I.hok a _ ea);exact W.kia_one W.kitx_list I.kIn ⟨_,h1,rfl⟩ e (fun z=>nomatch z) h
 | @tup a xs ea =>
  cases(show u=Value.ref a from rx);obtain⟨_,_,_,p⟩:=(show Ze X.prog X.w H s.heap a (.tup xs) from I.hok a _ ea);obtain⟨o,h1,h2,_⟩:=p;exact W.kia_one W.kitx_tuple I.kIn ⟨o,h1,h2⟩ e (fun z=>nomatch z) h
 | @dK a XG ea =>
  cases(show u=Value.ref a from rx);obtain⟨_,_,vs,_,p⟩:=(show Ze X.prog X.w H s.heap a (.dK XG) from I.hok a _ ea);obtain⟨o,es,ep,h1,h2,_⟩:=p;exact W.kia_one W.kitx_dict I.kIn ⟨o,h1,h2.1⟩ e (fun z=>nomatch z) h
 | @dT a XG ea =>
  cases(show u=Value.ref a from rx);obtain⟨_,_,xs,_,o,es,ep,h1,h2,_⟩:=(show Ze X.prog X.w H s.heap a (.dT XG) from I.hok a _ ea);exact W.kia_one W.kitx_dict I.kIn ⟨o,h1,h2.1⟩ e (fun z=>nomatch z) h
 | @ins a C dx fs ea cl ha hn htk hm =>
  cases(show u=Value.ref a from rx);obtain⟨mA,O,_⟩:=i6 I.hok ea;obtain⟨od,J,_⟩:=O.look;exact W.kia_one (W.kitx_own (cl.get _) cl.hd ha hn htk hm) I.kIn J e (fun z=>nomatch z) h
end
structure Vo(k:Nat)(A:Around):Prop where
 hd:A.handled=none
 dp:A.depth+3 * k+5<recursionLimit
 un:A.units+16 * k+200<cLine
 gd:A.guards=some []
theorem Vo.mono{j k:Nat}{A:Around}(r:Vo k A)(h:j<=k):Vo j A:=⟨r.hd,by have:=r.dp;omega,by have:=r.un;omega,r.gd⟩
theorem Vo.deeper{k:Nat}{A:Around}(r:Vo (k+1) A)(env:Env):Vo k (A.deeper env) :=
 ⟨r.hd,by have:=r.dp;show A.depth+1+3 * k+5<_;omega,by have:=r.un;show A.units+3+16 * k+200<_;omega,r.gd⟩
theorem Vo.in1{k:Nat}{A:Around}(r:Vo (k+1) A):Vo k A.in1 :=
 ⟨r.hd,by have:=r.dp;show A.depth+3 * k+5<_;omega,by have:=r.un;show A.units+1+16 * k+200<_;omega,r.gd⟩
theorem Vo.depth{k:Nat}{A:Around}(r:Vo k A):A.depth<recursionLimit:=by have:=r.dp;omega
theorem Vo.units{k:Nat}{A:Around}(r:Vo k A):A.units+64<cLine:=by have:=r.un;omega
def tNil:TA:=fun _ H Q=>Q [] H
def tCons(ta:TE)(tr:TA):TA:=fun Z H Q=>ta Z H fun x H1=>tr Z H1 fun xs H2=>Q (x::xs) H2
section
variable{X:Cx}{e:Expr}{es:ZC}{te:TE}{t:TA}{pos:Pos}
theorem Mq:PA X [] tNil:=fun _ _ _ _ H Q I h=>Calls.spliced_nil ⟨[],H,I,.nil,h⟩
theorem V3(ha:PE X e te)(hr:PA X es t)(hs:starEach (e::es) X.env=(false,eval e X.env)::starEach es X.env:=by rfl):PA X (e::es) (tCons te t):=by
 intro pos XY s Z H Q I h;rw[hs];show wpAny _ _ (spliced ((false,eval e X.env)::backTo pos (starEach es X.env))) _ _ s;refine Calls.spliced_cons (Yz (ha XY s Z H _ I h) fun u s1 ⟨x,H1,I1,r1,q1⟩=>?_);exact Yz (hr pos XY s1 Z H1 _ I1 q1) fun us s2 ⟨xs,H2,I2,r2,q2⟩=>⟨x::xs,H2,I2,.cons r1 r2,q2⟩
inductive wj(Q:VK)(xs:ZQ)(H1:Hp):Prop
 | mk  (Vg:xs.length<=sizeLine)(Vb:∀p,H1 p=none->Q (.ref p) (upd H1 p (.tup xs))):wj Q xs H1
def tTup(t:TA):TE:=fun Z H Q=>t Z H fun xs H1=>wj Q xs H1
inductive wg(Q:VK)(xs:ZQ)(H1:Hp):Prop
 | mk  (Vg:xs.length<=sizeLine)(Vb:∀p,H1 p=none->Q (.ref p) (upd H1 p (.lst xs))):wg Q xs H1
def tLst(t:TA):TE:=fun Z H Q=>t Z H fun xs H1=>wg Q xs H1
theorem kz{x1}(h:PA X es t):PE X (.Tuple es x1 pos) (tTup t):=by
 intro XY s Z H Q I hq;refine wpAny_Tuple_spliced (Yz (h pos XY s Z H _ I hq) fun us s1 ⟨xs,H1,I1,r,z,q⟩=>⟨by rw[<-r.length];exact z, ?_⟩);have hf:H1 s1.heap.objs.size=none:=I1.hok.fresh (Z5 _);refine⟨.ref s1.heap.objs.size,upd H1 s1.heap.objs.size (.tup xs),I1.laid (t':=s1.toks) (fun b u e=>Vs _ e) (Z5 _) ?_,rfl,q _ hf⟩;exact⟨z,us,r,⟨_,Bv _ rfl,rfl,⟨_,rfl⟩,rfl⟩⟩
theorem pe_lst(h:PA X es t):PE X (.List es pos) (tLst t):=by
 intro XY s Z H Q I hq;refine wpAny_List_spliced (Yz (h pos XY s Z H _ I hq) fun us s1 ⟨xs,H1,I1,r,z,q⟩=>⟨by rw[<-r.length];exact z, ?_⟩);have hf:H1 s1.heap.objs.size=none:=I1.hok.fresh (Z5 _);refine⟨.ref s1.heap.objs.size,upd H1 s1.heap.objs.size (.lst xs),I1.laid (t':=s1.toks) (fun b u e=>Vs _ e) (Z5 _) ?_,rfl,q _ hf⟩;exact⟨z,us,0,r,Bv _ rfl⟩
end
abbrev Sp:=ZQ->Hp->VK->XK->Prop
abbrev Hb:=List Env->Hp->Shared->XK->Value->Shared->Prop
structure Hk(P:Program)(w:World)(K:W.Frag)(mg:ZV)(base:Heap)(A:Around)(outer:List Env)(s:Shared)(H:Hp):Prop where
 frames:A.frames=some outer
 mod:Mod K mg base
 bs:∀b o,base.get? b=some o->s.heap.get? b=some o/\H b=none
 bsz:base.objs.size<=s.heap.objs.size
 funs:s.heap.FunFrames base outer
 frf:∀b∈frs outer,H b=none
 hok:Mm P w H s.heap
 bare:AllBare s.gens
def CE(outer:List Env)(P:Program)(w:World)(H:Hp)(s:Shared)(Q:VK)(u:Value)(s':Shared):Prop :=
 ∃v H',s'.os=s.os/\AllBare s'.gens/\Un (frs outer) [] H H' s.heap s'.heap/\Mm P w H' s'.heap/\RelV v u/\Q v H'
def CR(CX:Hb)(outer:List Env)(P:Program)(w:World)(H:Hp)(s:Shared)(Q:VK)(E:XK)(r:Result)(s':Shared):Prop :=
 match r with
 | .ok (.ret u)=>CE outer P w H s Q u s'
 | .ok _=>False
 | .error e=>CX outer H s E e s'
structure U9(P:Program)(w:World)(K:W.Frag)(mg:ZV)(base:Heap)(CX:Hb)(k:Nat)(f:Addr)(fd:FuncData)(ps:ZD)(sp:Sp):Prop where
 len:∀vs H Q E,sp vs H Q E->vs.length=ps.length
 run:∀(A:Around) (outer:List Env) (s:Shared) (H:Hp) (args:Args) (us:ZM) (vs:ZQ) (Q:VK) (E:XK),Vo k A->Hk P w K mg base A outer s H->BindsTo s fd args (ps.zip us)->Zk vs us->sp vs H Q E ->
  codeAny (model P w) A (.call (.ref f) args) (CR CX outer P w H s Q E) s
theorem U9.mono{P:Program}{w:World}{K:W.Frag}{mg:ZV}{base:Heap}{CX:Hb}{j k:Nat}{f:Addr}{fd:FuncData}{ps:ZD}{sp:Sp}(F:U9 P w K mg base CX j f fd ps sp)(h:j<=k) :
  U9 P w K mg base CX k f fd ps sp:=⟨F.len,fun A outer s H args us vs Q E hr=>F.run A outer s H args us vs Q E (hr.mono h)⟩
theorem U9.imp{P:Program}{w:World}{K:W.Frag}{mg:ZV}{base:Heap}{CX:Hb}{k:Nat}{f:Addr}{fd:FuncData}{ps:ZD}{sp sp':Sp}(F:U9 P w K mg base CX k f fd ps sp)
  (h:∀vs H Q E,sp' vs H Q E->sp vs H Q E):U9 P w K mg base CX k f fd ps sp' :=
 ⟨fun vs H Q E q=>F.len vs H Q E (h _ _ _ _ q),fun A outer s H args us vs Q E hr he hb hv hs=>F.run A outer s H args us vs Q E hr he hb hv (h _ _ _ _ hs)⟩
theorem Hk.in1{P:Program}{w:World}{K:W.Frag}{mg:ZV}{base:Heap}{A:Around}{outer:List Env}{s:Shared}{H:Hp}(e:Hk P w K mg base A outer s H) :
  Hk P w K mg base A.in1 outer s H:=⟨e.frames,e.mod,e.bs,e.bsz,e.funs,e.frf,e.hok,e.bare⟩
section
variable{X:Cx}{XY:ZY}{Z:St}{H:Hp}{s s':Shared}
theorem Inv.env0(I:Inv X XY Z H s):Hk X.prog X.w X.K X.mg X.base X.A X.stack s H :=
 ⟨I.ok.frames,I.ok.mod,I.bs,Ut I.ok.bsz I.sz,I.stack,I.stkFree,I.hok,I.bare⟩
theorem Inv.after{Q:VK}{u:Value}(I:Inv X XY Z H s)(h:CE X.stack X.prog X.w H s Q u s'):EP X XY Z Q u s':=by
 obtain⟨v,H',os,bare,un,hok,r,q⟩:=h;obtain⟨hh,g,d,t,os'⟩:=s';obtain rfl:os'=s.os:=os;exact⟨v,H',I.call (h':=hh) (g':=g) (d':=d) (t':=t) (ch:=[]) un hok bare (fun b z=>absurd z (by simp)),r,q⟩
end
def Zxb(sp:Sp)(dvs:ZQ)(E:XK)(t:TA):TE:=fun Z H Q=>t Z H fun vs H1=>sp (vs++dvs) H1 Q E
def Binds(K:W.Frag)(fd:FuncData)(ps:ZD)(ds:ZM):Prop :=
 ∀(s:Shared) (us:ZM),K.In s.heap->(us++ds).length=ps.length->BindsTo s fd ⟨us,[]⟩ (ps.zip (us++ds))
theorem Binds.all{K:W.Frag}{fd:FuncData}{ps:ZD}(h:∀us:ZM,us.length=ps.length->bindArgs fd ⟨us,[]⟩=pure (ps.zip us)):Binds K fd ps []:=fun s us _ hl=>by
 rw[XZ]at hl ⊢;exact .of_eq (h us hl)
def Hx(CX:Hb)(X:Cx)(E:XK):Prop:=∀(XY:ZY) (Z:St) (H:Hp) (s:Shared) (e:Value) (s':Shared),Inv X XY Z H s->CX X.stack H s E e s'->X.xe e s'
section
variable{X:Cx}{CX:Hb}{k:Nat}{f C:Addr}{fd:FuncData}{ps:ZD}{sp:Sp}{dvs:ZQ}{ds:ZM}{E:XK}{x m:Str}{p pos apos:Pos}{e o:Expr}{es:ZC}{ta:TE}{t:TA}
theorem vh{XY:ZY}{Z:St}{H:Hp}{s:Shared}{Q:VK}{us:ZM}{vs:ZQ}(F:U9 X.prog X.w X.K X.mg X.base CX k f fd ps sp)(hr:Vo k X.A)(hb:Binds X.K fd ps ds)(hd:Zk dvs ds)(hx:Hx CX X E)
  (I:Inv X XY Z H s) (r:Zk vs us) (h:sp (vs++dvs) H Q E):wpAny (model X.prog X.w) X.A (call (.ref f) us) (EP X XY Z Q) X.xe s:=by
 have r2:Zk (vs++dvs) (us++ds):=r.append hd;have hl:(us++ds).length=ps.length:=by rw[<-r2.length];exact F.len _ _ _ _ h
 refine wpAny_call (codeAny_mono (F.run X.A X.stack s H ⟨us,[]⟩ (us++ds) (vs++dvs) Q E hr I.env0 (hb s us I.kIn hl) r2 h) fun r s' hq=>?_);cases r with
 | error e=>exact hx XY Z H s e s' I hq
 | ok fl =>
  cases fl with
  | ret u=>exact I.after hq
  | next=>exact False.elim hq
  | brk=>exact False.elim hq
  | cont=>exact False.elim hq
theorem aa(F:U9 X.prog X.w X.K X.mg X.base CX k f fd ps sp)(hr:Vo k X.A)(hg:Gl X x)(hm:X.mg x=some (.ref f))(hk:W.keepIn X.K (.ref f)=true)(hb:Binds X.K fd ps ds)(hd:Zk dvs ds)(hx:Hx CX X E)
  (ha:PA X (e::es) t) (hdb:(x == ("__debug__" : Str))=false:=by decide) (he:starEach (e::es) X.env=(false,eval e X.env)::starEach es X.env:=by rfl) (W5:(backTo pos (starEach es X.env)).any (·.1)=false:=by rfl) :
  PE X (.Call (.Name x p) (e::es) [] pos) (Zxb sp dvs E t):=by
 intro XY s Z H Q I h;refine wpAny_Call_Name_kw (A2 I hg hm ?_ hdb);refine W.callWith_K (h₀:=X.base) I.ok.mod.kin hk (Yz (ha pos XY s Z H _ I h) fun us s1 ⟨vs,H1,I1,r,q⟩=>⟨I1.kIn, ?_⟩) he W5;exact vh F hr hb hd hx I1 r q
end
section
variable{X:Cx}{CX:Hb}{k:Nat}{f C:Addr}{fd:FuncData}{ps ks:ZD}{sp:Sp}{E:XK}{x m:Str}{p pos apos kpos:Pos}{e o:Expr}{es:ZC}{kws:List Keyword}{te ta:TE}{t tk:TA}{nm:Option Str}
variable{g:ZM->ZM->ZM}{gV:ZQ->ZQ->ZQ}
end
structure Gg(N P:ZD)(sc:Scope):Prop where
 kind:sc.kind=.function
 co:sc.isCoroutine=false
 gen:sc.isGenerator=false
 nd:N.Nodup
 pre:N.take P.length=P
 par:∀x∈P,sc.names.lookup x=some .local\/sc.names.lookup x=some .cell
 nofree:∀y∈sc.names,y.2≠.free
theorem W8{kindOf:Str->Option NameKind}{x:Str}:∀{binds:List (Str×Value)} {m:ZV},(∀v,(x,v) ∉ binds)->bindL kindOf binds m x=m x
 | [],_,_=>rfl
 | (n,v)::r,m,h=>by
  unfold bindL;rw[W8 fun w hw=>h w (Vi _ hw)]
  split
  .have:x≠n:=by rintro rfl;exact h v Ye
   simp[this]
  .rfl
theorem Lz{kindOf:Str->Option NameKind}{x:Str}:∀{binds:List (Str×Value)} {m:ZV},(∀v,(x,v) ∉ binds)->bindC kindOf binds m x=m x
 | [],_,_=>rfl
 | (n,v)::r,m,h=>by
  unfold bindC;rw[Lz fun w hw=>h w (Vi _ hw)]
  split
  .rfl
  .have:x≠n:=by rintro rfl;exact h v Ye
   simp[this]
theorem W9{kindOf:Str->Option NameKind}{x:Str}{v:Value}:∀{P:ZD} {vs:ZM} {i:Nat} {m:ZV},P.Nodup->P[i]?=some x->vs[i]?=some v->kindOf x=some .local ->
  bindL kindOf (P.zip vs) m x=some v
 | [],_,_,_,_,h,_,_=>by simp at h
 | _::_,[],_,_,_,_,h,_=>by simp at h
 | p::P,w::vs,0,m,nd,h1,h2,hk=>by
  simp at h1 h2;subst h1;subst h2;show bindL kindOf ((p,w)::P.zip vs) m p=_;unfold bindL;rw[W8 fun v hv=>(List.nodup_cons.mp nd).1 (List.of_mem_zip hv).1,if_pos hk];simp
 | p::P,w::vs,i+1,m,nd,h1,h2,hk=>by
  show bindL kindOf ((p,w)::P.zip vs) m x=_;unfold bindL;exact W9 (i:=i) (List.nodup_cons.mp nd).2 (by simpa using h1) (by simpa using h2) hk
theorem Lx{kindOf:Str->Option NameKind}{x:Str}{v:Value}:∀{P:ZD} {vs:ZM} {i:Nat} {m:ZV},P.Nodup->P[i]?=some x->vs[i]?=some v->kindOf x≠some .local ->
  bindC kindOf (P.zip vs) m x=some v
 | [],_,_,_,_,h,_,_=>by simp at h
 | _::_,[],_,_,_,_,h,_=>by simp at h
 | p::P,w::vs,0,m,nd,h1,h2,hk=>by
  simp at h1 h2;subst h1;subst h2;show bindC kindOf ((p,w)::P.zip vs) m p=_;unfold bindC;rw[Lz fun v hv=>(List.nodup_cons.mp nd).1 (List.of_mem_zip hv).1,if_neg hk];simp
 | p::P,w::vs,i+1,m,nd,h1,h2,hk=>by
  show bindC kindOf ((p,w)::P.zip vs) m x=_;unfold bindC;exact Lx (i:=i) (List.nodup_cons.mp nd).2 (by simpa using h1) (by simpa using h2) hk
noncomputable def start(N:ZD)(vs:ZQ):St:=vs.map some++List.replicate (N.length - vs.length) none
noncomputable def O9(CX:Hb)(P:Program)(w:World)(K:W.Frag)(mg:ZV)(base:Heap)(N:ZD)(qual:Str)(scope:Scope)(f:Addr)(cd:Value)(A:Around)(outer:List Env)(s:Shared)(H:Hp)(E:XK):Cx where
 prog:=P
 w:=w
 K:=K
 mg:=mg
 base:=base
 A:=A.deeper (envOfC qual scope s.heap.objs.size f cd)
 N:=N
 s₀:=s
 H₀:=H
 env:=envOfC qual scope s.heap.objs.size f cd
 outer:=outer
 stack:=envOfC qual scope s.heap.objs.size f cd::outer
 ex:=[]
 calm:=true
 fn:=fun _=>true
 pn:=[]
 xe:=fun e s'=>wpAny (model P w) (A.deeper (envOfC qual scope s.heap.objs.size f cd)) (leaving (envOfC qual scope s.heap.objs.size f cd) e) (fun _ s''=>CX outer H s E e s'') (fun e' s''=>CX outer H s E e' s'') s'
theorem Sq{sc:Scope}{n:Nat}{x:Str}(h:sc.names.lookup x=some .cell):∃c,(cellsFrom n sc.names []).lookup x=some c:=by
 have q:=W.cellsFrom_some sc.names n [] (.inl h);exact Option.isSome_iff_exists.mp q
theorem z9{CX:Hb}{P:Program}{w:World}{K:W.Frag}{mg:ZV}{base:Heap}{N ps:ZD}{qual:Str}{scope:Scope}{f:Addr}{cd:Value}{A:Around}{outer:List Env}{s s1:Shared}{H:Hp}{E:XK}{us:ZM}{vs:ZQ}
  (S:Gg N ps scope) (hd:A.handled=none) (e0:Hk P w K mg base A outer s H) (hl:vs.length=ps.length) (r:Zk vs us)
  (x:InCallC s s.heap.objs.size (bindL (envOfC qual scope s.heap.objs.size f cd).kindOf (ps.zip us) fun _=>none) (cellsFrom (s.heap.objs.size+1) scope.names []) (bindC (envOfC qual scope s.heap.objs.size f cd).kindOf (ps.zip us) fun _=>none) s1) :
  Inv (O9 CX P w K mg base N qual scope f cd A outer s H E) [] (start N vs) H s1:=by
 have W5:ps.length<=N.length:=by have:=congrArg List.length S.pre;rw[L0t]at this;omega
 obtain⟨h1,tk,rfl,hk⟩:=x.done;have noA:∀b:Addr,b ∉ (O9 CX P w K mg base N qual scope f cd A outer s H E).ex:=fun b z=>absurd (show b∈([]:ZU) from z) (by simp)
 refine⟨⟨e0.mod,S.kind,rfl,rfl,Z5 _,fun y z c h1 h2=>?_,fun y hy=>?_,fun y c _ h=>?_,fun _=>hd,Around.frames_deeper e0.frames,.inr ⟨rfl,rfl⟩,fun b z=>absurd z (noA b),e0.bs,e0.bsz,fun b _ _=>noA b,fun b z=>absurd z (noA b),e0.funs,e0.frf⟩,
  rfl,e0.bare,Un.kept hk,⟨_,x.toInCall.ns,fun i y v h1 h2 h3=>?_⟩,fun y c h=>⟨_,x.cell y c h⟩,e0.hok.fresh (Z5 _),fun y c h=>?_,fun p hp=>absurd (show p∈([]:ZY) from hp) (by simp),e0.hok.kept hk, ?_⟩
 .exact name_of_addr x.apart (PySem.mem_of_lookup h1) (PySem.mem_of_lookup h2)
 .have hy:scope.names.lookup y=some .cell\/scope.names.lookup y=some .free:=hy;rcases hy with hy | hy
  .exact Sq hy
  .exact absurd rfl (S.nofree _ (PySem.mem_of_lookup hy))
 .exact Nat.le_of_lt (x.above y c (PySem.mem_of_lookup h))
 .have hi:i<vs.length:=by
   unfold start at h2;by_cases hi:i<vs.length
   .exact hi
   .rw[List.getElem?_append_right (by simpa using hi)]at h2;rw[List.getElem?_replicate]at h2
    split at h2<;>cases h2
  have ha:vs[i]?=some v:=by
   unfold start at h2;rw[G0l (by simpa using hi),Bo]at h2;cases e:vs[i]? with
   | none=>rw[e]at h2;cases h2
   | some a=>rw[e]at h2;cases h2;rfl
  obtain⟨u,hu,rv⟩:=r.get ha
  have hp:ps[i]?=some y:=by
   rw[<-S.pre,List.getElem?_take_of_lt (by omega)];exact h1
  have ndP:ps.Nodup:=by rw[<-S.pre];exact S.nd.sublist (List.take_sublist _ _)
  refine⟨u,rv, ?_⟩;rcases S.par y (M0g hp) with k | k
  .exact .inl ⟨k,W9 ndP hp hu k⟩
  .obtain⟨c,e⟩:=Sq (n:=s.heap.objs.size+1) k;refine .inr ⟨.inl k,c,e, ?_⟩;have q:=x.cell y c e;rw[Lx ndP hp hu (by show scope.names.lookup y≠_;rw[k];decide)]at q;exact q
 .exact e0.hok.fresh (Nat.le_of_lt (x.above y c (PySem.mem_of_lookup h)))
 .unfold start;show _=N.length;rw[Yl,Zn,List.length_replicate];omega
theorem Zqz{CX:Hb}{P:Program}{w:World}{K:W.Frag}{mg:ZV}{base:Heap}{k:Nat}{f:Addr}{name qual:Str}{params:Arguments}{body:List Stmt}{scope:Scope}{dV kV doc pm cdv ct oc:Value}{an od:ZP}
  {osl:ZF} {N ps:ZD} {sp:Sp} (lk:K.lookup f=some ⟨oc,od,.func (W.fnOf name qual params body scope dV kV doc pm an cdv ct),osl⟩) (Ou:W.codeIn K cdv qual=true) (S:Gg N ps scope)
  (len:∀vs H Q E,sp vs H Q E->vs.length=ps.length)
  (Oa:∀(A:Around) (outer:List Env) (s:Shared) (H:Hp) (vs:ZQ) (Q:VK) (E:XK),Vo k (A.deeper (envOfC qual scope s.heap.objs.size f cdv))->sp vs H Q E ->
   ∃t,Tu (O9 CX P w K mg base N qual scope f cdv A outer s H E) body t/\t { nx:=fun _ H'=>Q .non H',rt:=Q } (start N vs) H) :
  U9 P w K mg base CX (k+1) f (W.fnOf name qual params body scope dV kV doc pm an cdv ct) ps sp:=by
 refine⟨len,fun A outer s H args us vs Q E hr e0 hb r ny=>?_⟩;have hl:=len _ _ _ _ ny;have KX:K.In s.heap:=e0.mod.kin.keeps fun b o e=>(e0.bs b o e).1;have lim:s.heap.NoLimit:=e0.mod.nolimit.keeps fun b o e=>(e0.bs b o e).1
 have hkind:∀y∈ps.zip us,scope.names.lookup y.1=some .local\/(scope.names.lookup y.1=some .cell/\((cellsFrom (s.heap.objs.size+1) scope.names []).lookup y.1).isSome=true):=fun⟨n,v⟩ hy=>by
  rcases S.par n (List.of_mem_zip hy).1 with q | q
  .exact .inl q
  .exact .inr ⟨q,W.cellsFrom_some _ _ _ (.inl q)⟩
 refine codeAny_call_function hr.depth (KX _ _ lk) rfl S.co S.gen rfl (W.codeRec_of KX Ou) (hb _ _ _ _ ?_);refine wpAny_newFunctionEnv_cells S.kind hkind fun env he s1 x=>?_;subst he;refine⟨lim.keeps x.toInCall.keep,codeAny_func ?_⟩;obtain⟨t,ht,hq⟩:=Oa A outer s H vs Q E (hr.deeper _) ny;have I:Inv (O9 CX P w K mg base N qual scope f cdv A outer s H E) [] (start N vs) H s1:=z9 S hr.hd e0 hl r x;refine wpAny_mono (ht [] s1 (start N vs) H _ I hq) (fun fl s' hs=>?_) fun e s' hs=>hs
 have fin:∀{σ':St} {H':Hp} {v:V} {u:Value},Inv (O9 CX P w K mg base N qual scope f cdv A outer s H E) [] σ' H' s'->RelV v u->Q v H'->CE outer P w H s Q u s' :=
  fun {σ' H' v u} J rv q=>⟨v,H',J.os,J.bare,J.base,J.hok,rv,q⟩
 cases fl with
 | ret u =>
  obtain⟨v,σ',H',J,rv,q⟩:=hs;exact fin J rv q
 | next =>
  obtain⟨σ',H',J,q⟩:=hs;exact fin (v:=V.non) (u:=Value.none) J rfl q
 | brk =>
  obtain⟨_,_,_,q⟩:=hs;exact False.elim q
 | cont =>
  obtain⟨_,_,_,q⟩:=hs;exact False.elim q
section
variable{X:Cx}{x:Str}{p pos:Pos}{e:Expr}{es:ZC}{t:TA}{id T:String}{r:ZQ->Hp->VK->Prop}
def tCB(r:ZQ->Hp->VK->Prop)(t:TA):TE:=fun Z H Q=>t Z H fun vs H1=>r vs H1 Q
theorem P6(hc:Y7 X (.builtin id) r)(hg:Gl X x)(hm:X.mg x=none)(hv:bootBuiltins x=some (.builtin id))(ha:PA X (e::es) t)(hn:x ≠ "__name__" := by decide)(hdb:(x == ("__debug__" : Str))=false:=by decide)
  (he:starEach (e::es) X.env=(false,eval e X.env)::starEach es X.env:=by rfl) (W5:(backTo pos (starEach es X.env)).any (·.1)=false:=by rfl):PE X (.Call (.Name x p) (e::es) [] pos) (tCB r t):=by
 intro XY s Z H Q I h;refine wpAny_Call_Name_kw (U8 I hg hm hv ?_ hn hdb);exact callWith_builtin1 (Yz (ha pos XY s Z H _ I h) fun us s1 ⟨vs,H1,I1,r1,q1⟩=>hc XY s1 Z H1 vs us Q I1 r1 q1) he W5
theorem zg(hc:Y7 X (.type T) r)(hg:Gl X x)(hm:X.mg x=none)(hv:bootBuiltins x=some (.type T))(ha:PA X (e::es) t)(hn:x ≠ "__name__" := by decide)(hdb:(x == ("__debug__" : Str))=false:=by decide)
  (he:starEach (e::es) X.env=(false,eval e X.env)::starEach es X.env:=by rfl) (W5:(backTo pos (starEach es X.env)).any (·.1)=false:=by rfl):PE X (.Call (.Name x p) (e::es) [] pos) (tCB r t):=by
 intro XY s Z H Q I h;refine wpAny_Call_Name_kw (U8 I hg hm hv ?_ hn hdb);exact callWith_type1 (Yz (ha pos XY s Z H _ I h) fun us s1 ⟨vs,H1,I1,r1,q1⟩=>hc XY s1 Z H1 vs us Q I1 r1 q1) he W5
end
end L2
namespace HT
open PySem PyProof.Rows
section
open PySem.SeqAt
open PySem.AutoSeq1 (wpAny_loadPart')
open PySem.MeetsSeq PySem.MeetsSeq2 PySem.MeetsSeq3
end
section
variable{prog:Program}{w:World}{A:Around}{E:ZW}{s:Shared}
theorem Zz3{t b:Addr}{vs ws:ZM}{Q:ZW}(ht:IsTup s.heap t vs.toArray)(hb:IsTup s.heap b ws.toArray)(hv:vs≠[])
  (h1:ws=[]->Q (.ref t) s) (h2:ws≠[]->Q (.ref s.heap.objs.size) { s with heap:=s.heap.push { cls:=.type "tuple",data:=.seq (vs++ws).toArray } })
  (hsz:vs.length+ws.length<=sizeLine):wpAny (model prog w) A (binaryOp .Add (.ref t) (.ref b)) Q E s:=by
 obtain⟨⟨cls,dd,data,sl⟩,ho,hc,n,hd⟩:=id ht;obtain⟨⟨cls2,dd2,data2,sl2⟩,ho2,hc2,n2,hd2⟩:=id hb;simp only at hc hd hc2 hd2;subst hc hd hc2 hd2;have e:vs.toArray++ws.toArray=(vs++ws).toArray:=by simp
 by_cases hw:ws=[]
 .exact concat_meets ⟨_,ho,rfl⟩ ⟨_,ho2,rfl⟩ noFill_tuple_add seq_tuple_add PySem.F.slot_tuple_add PySem.F.entry_tuple_add (PySem.F.args_tuple_add_2 _ _)
   (tuple_addW1 t b vs.toArray ws.toArray n n2 dd dd2 sl sl2 (by simpa using hv) (by simp[hw])) ⟨ho,ho2,h1 hw⟩
 .refine concat_meets ⟨_,ho,rfl⟩ ⟨_,ho2,rfl⟩ noFill_tuple_add seq_tuple_add PySem.F.slot_tuple_add PySem.F.entry_tuple_add (PySem.F.args_tuple_add_2 _ _)
   (tuple_addW2 t b vs.toArray ws.toArray n n2 dd dd2 sl sl2 (by simpa using hv) (by simpa using hw) (by rw[Jz,Jz];exact hsz)) ⟨ho,ho2, ?_⟩
  rw[e];exact h2 hw
noncomputable def Yg(n d:Nat):ZR->Nat
 | none=>d
 | some v=>if v<0 then (v+(n:Int)).toNat else min v.toNat n
theorem L1(n d k:Nat):Yg n d (some (k:Int))=min k n:=by
 show (if (k:Int)<0 then ((k:Int)+(n:Int)).toNat else min (k:Int).toNat n)=min k n;rw[if_neg (by omega),XJ]
theorem sIx_le(n d:Nat)(hd:d<=n)(o:ZR):Yg n d o<=n:=by
 cases o with
 | none=>exact hd
 | some v =>
  show (if v<0 then (v+(n:Int)).toNat else min v.toNat n)<=n;by_cases hv:v<0
  .rw[if_pos hv];omega
  .rw[if_neg hv];exact Nat.min_le_right _ _
theorem I0(v:Int)(n d:Nat):(if v<0 then max (v+(n:Int)) 0 else min v (n:Int))=((Yg n d (some v):Nat):Int):=by
 show (if v<0 then max (v+(n:Int)) 0 else min v (n:Int))=(((if v<0 then (v+(n:Int)).toNat else min v.toNat n):Nat):Int);by_cases hv:v<0
 .simp only[if_pos hv];omega
 .simp only[if_neg hv];omega
theorem K9(lo hi:ZR)(n:Nat):Builtin.Slice.sliceAdjust lo hi 1 (n:Int)=(((Yg n 0 lo:Nat):Int),((Yg n n hi:Nat):Int)):=by
 have h1:¬ ((1:Int)<0):=by omega
 unfold Builtin.Slice.sliceAdjust;simp only[h1,if_false];refine Prod.ext ?_ ?_
 .cases lo with
  | none=>rfl
  | some v=>exact I0 v n 0
 .cases hi with
  | none=>rfl
  | some v=>exact I0 v n n
theorem Kx(i j:Nat):Builtin.Slice.slicePlaces (i:Int) (j:Int) 1=j - i:=by
 unfold Builtin.Slice.slicePlaces;have h1:(1:Int)>0:=by omega
 simp only[h1,if_true,Int.ediv_one]
 split<;>omega
theorem T6{v:Value}{o:ZR}{Q:ZR->Shared->Prop}(p:IsPart v o)(h:Q o s):wpAny (model prog w) A (Builtin.Slice.slicePartIndex v) Q E s:=by
 cases p with
 | none=>exact slicePart_none h
 | int i t=>exact slicePart_int h
theorem Jx{sl:Addr}{vl vu:Value}{lo hi:ZR}{n:Nat}{Q:Int×Int×Nat->Shared->Prop}(hs:s.heap.IsSliceOf sl vl vu .none)(pl:IsPart vl lo)(pu:IsPart vu hi)
  (h:Q (((Yg n 0 lo:Nat):Int),1,Yg n n hi - Yg n 0 lo) s):wpAny (model prog w) A (Builtin.Slice.sliceApplied (.ref sl) (pure (n:Int))) Q E s:=by
 obtain⟨os,hos,hcs,hds⟩:=id hs;unfold Builtin.Slice.sliceApplied Builtin.Slice.sliceFields;refine Za (Za (wpAny_field hos hds (x:=vl) rfl (Za (wpAny_field hos hds (x:=vu) rfl (Za (wpAny_field hos hds (x:=.none) rfl (V1 ?_)))))));refine Za (slicePart_none ?_);show wpAny _ _ (if ((1:Int) == 0)=true then _ else _) _ _ s;rw[if_neg (by decide)];refine Za (T6 pl (Za (T6 pu (Za (V1 ?_)))));show wpAny _ _ (match Builtin.Slice.sliceAdjust lo hi 1 (n:Int) with | (lo,hi)=>pure (lo,(1:Int),Builtin.Slice.slicePlaces lo hi 1)) _ _ s;rw[K9 lo hi n];show wpAny _ _ (pure (((Yg n 0 lo:Nat):Int),(1:Int),Builtin.Slice.slicePlaces ((Yg n 0 lo:Nat):Int) ((Yg n n hi:Nat):Int) 1)) _ _ s;rw[Kx];exact V1 h
theorem y4(xs:ZN)(i k:Nat):((List.range k).filterMap fun(m:Nat)=>xs[((i:Int)+(m:Int) * 1).toNat]?).toArray=((xs.toList.drop i).take k).toArray:=by
 have e:(fun(m:Nat)=>xs[((i:Int)+(m:Int) * 1).toNat]?)=fun m=>xs[i+m]?:=by
  funext m
  have:((i:Int)+(m:Int) * 1).toNat=i+m:=by omega
  rw[this]
 rw[e];have:=pick_run xs i k;rw[List.filterMap_map]at this;have e2:((fun x=>xs[x]?) ∘ fun x=>i+x)=fun m=>xs[i+m]?:=rfl;rw[e2]at this;rw[this]
theorem M0{t sl:Addr}{items:ZN}{vl vu:Value}{lo hi:ZR}{Q:ZW}(ht:IsTup s.heap t items)(hs:s.heap.IsSliceOf sl vl vu .none)(pl:IsPart vl lo)(pu:IsPart vu hi)
  (hw:¬ (Yg items.size 0 lo=0/\Yg items.size items.size hi=items.size))
  (h:Q (.ref s.heap.objs.size) { s with heap:=s.heap.push { cls:=.type "tuple",data:=.seq ((items.toList.drop (Yg items.size 0 lo)).take (Yg items.size items.size hi - Yg items.size 0 lo)).toArray } })
  (hsz:items.size<=sizeLine):wpAny (model prog w) A (getItem (.ref t) (.ref sl)) Q E s:=by
 have Ij:sizeOk (.seq ((items.toList.drop (Yg items.size 0 lo)).take (Yg items.size items.size hi - Yg items.size 0 lo)).toArray):=by
  show ((items.toList.drop (Yg items.size 0 lo)).take (Yg items.size items.size hi - Yg items.size 0 lo)).toArray.size<=sizeLine;rw[Jz,L0t,List.length_drop,qg];omega
 have hj:Yg items.size items.size hi<=items.size:=sIx_le _ _ (Z5 _) hi;obtain⟨os,hos,hcs,hds⟩:=id hs;have hTs:s.TypeIs (.ref sl) "slice" := ⟨os,hos,hcs⟩;unfold getItem
 try with_reducible refine wpAny_holding ?_
 first | refine Za (V1 ?_) | skip
 refine Za (wpAny_sequenceKey ht.typeIs (by decide) ?_)
 refine Za (wpAny_callSpecial?_slot (name:=Str.ofString "__getitem__") ht.typeIs slot_tuple_getitem
  (wpAny_call_entry slot_tuple_getitem ht.typeIs entry_tuple_getitem ?_ (args_tuple_getitem _ _)))
 show wpAny _ _ (Builtin.Tuple.tupleItemsOf (.ref t) >>= _) _ _ s;refine Za (tupleItemsOf_ ht ?_);refine Za (wpAny_typeOf hTs ?_);rw[if_pos (by decide)];refine Za (Jx hs pl pu ?_)
 have hno:¬ ((((Yg items.size 0 lo:Nat):Int) == 0 && (1:Int) == 1 && (Yg items.size items.size hi - Yg items.size 0 lo) == items.size)=true):=by
  intro q;rw[Y8,Y8]at q;have q1:((Yg items.size 0 lo:Nat):Int)=0:=eq_of_beq q.1.1;have q2:Yg items.size items.size hi - Yg items.size 0 lo=items.size:=eq_of_beq q.2;exact hw ⟨by omega,by omega⟩
 show wpAny _ _ (if (((Yg items.size 0 lo:Nat):Int) == 0 && (1:Int) == 1 && (Yg items.size items.size hi - Yg items.size 0 lo) == items.size)=true then _ else _) _ _ s;rw[if_neg hno,y4]
 first
  | exact Za (m:=Builtin.Tuple.tupleExact _) (wpAny_newObj_type (V1 ⟨_,rfl,V1 h⟩) Ij)
  | exact Za (m:=Builtin.Tuple.tupleExact _) (wpAny_newObj_type (Za (V1 (V1 ⟨_,rfl,V1 h⟩))) Ij)
  | exact Za (Za (m:=Builtin.Tuple.tupleExact _) (wpAny_newObj_type (V1 (V1 ⟨_,rfl,V1 h⟩)) Ij))
  | exact Za (Za (m:=Builtin.Tuple.tupleExact _) (wpAny_newObj_type (V1 ⟨_,rfl,V1 h⟩) Ij))
end
end HT
namespace L2
open PySem PySem.Spec PyProof.Rows
abbrev TO:=St->Hp->(ZR->Hp->Prop)->Prop
def PO(X:Cx)(e:Option Expr)(t:TO):Prop :=
 ∀(XY:ZY) (s:Shared) (Z:St) (H:Hp) (Q:ZR->Hp->Prop),Inv X XY Z H s->t Z H Q ->
  wpAny (model X.prog X.w) X.A (evalPart e X.env) (fun u s'=>∃o H',Inv X XY Z H' s'/\IsPart u o/\Q o H') X.xe s
def rq:TO:=fun _ H Q=>Q none H
inductive Hh(Q:(ZR->Hp->Prop))(x:V)(H1:Hp):Prop
 | mk(i)(Vg:x=.int i)(Vb:Q (some i) H1):Hh Q x H1
def tPart(t:TE):TO:=fun Z H Q=>t Z H fun x H1=>Hh Q x H1
section
variable{X:Cx}{e:Expr}{te:TE}{lo hi:Option Expr}{tl th:TO}{pos p2:Pos}
theorem Ah:PO X none rq:=by
 intro XY s Z H Q I h;rw[evalPart_none];exact V1 ⟨none,H,I,.none,h⟩
theorem Tx(h:PE X e te):PO X (some e) (tPart te):=by
 intro XY s Z H Q I hw;rw[evalPart_some];refine Yz (h XY s Z H _ I hw) fun u s1 ⟨x,H1,I1,r1,q1⟩=>?_;obtain⟨i,rfl,q⟩:=q1;obtain⟨t,rfl⟩:=r1;exact⟨some i,H1,I1,.int i t,q⟩
def SlR(X:Cx)(r:V->ZR->ZR->Hp->VK->Prop):Prop :=
 ∀(XY:ZY) (s:Shared) (Z:St) (H:Hp) (x:V) (v vl vu:Value) (lo hi:ZR) (sl:Addr) (Q:VK),Inv X XY Z H s->RelV x v->s.heap.IsSliceOf sl vl vu .none->IsPart vl lo->IsPart vu hi->r x lo hi H Q ->
  ∃T id,typeLookup (.type T) "__getitem__" = pure (some (.builtin id))/\s.TypeIs v T/\wpAny (model X.prog X.w) X.A (getItem v (.ref sl)) (EP X XY Z Q) X.xe s
theorem SlR.or{r r':V->ZR->ZR->Hp->VK->Prop}(h:SlR X r)(h':SlR X r'):SlR X (fun x lo hi H Q=>r x lo hi H Q\/r' x lo hi H Q):=by
 intro XY s Z H x v vl vu lo hi sl Q I rx hs pl pu q;rcases q with q | q
 .exact h XY s Z H x v vl vu lo hi sl Q I rx hs pl pu q
 .exact h' XY s Z H x v vl vu lo hi sl Q I rx hs pl pu q
def tSl(r:V->ZR->ZR->Hp->VK->Prop)(te:TE)(tl th:TO):TE:=fun Z H Q=>te Z H fun x H1=>tl Z H1 fun l H2=>th Z H2 fun u H3=>r x l u H3 Q
theorem Ck{r:V->ZR->ZR->Hp->VK->Prop}(hr:SlR X r)(he:PE X e te)(hl:PO X lo tl)(hu:PO X hi th):PE X (.Subscript e (.Slice lo hi none p2) pos) (tSl r te tl th):=by
 intro XY s Z H Q I h;refine Subscript_ (Yz (he XY s Z H _ I h) fun v s1 ⟨x,H1,I1,r1,q1⟩=>?_);refine wpAny_Slice (Yz (hl XY s1 Z H1 _ I1 q1) fun vl s2 ⟨l,H2,I2,pl,q2⟩=>Yz (hu XY s2 Z H2 _ I2 q2) fun vu s3 ⟨u,H3,I3,pu,q3⟩=>?_);rw[evalPart_none];refine V1 ?_;have I4:Inv X XY Z H3 { s3 with heap:=s3.heap.push { cls:=.type "slice",data:=.fields #[vl,vu,.none] } }:=I3.kept (t':=s3.toks) fun b ob q=>Vs _ q;obtain⟨T,id,hT,ht,hg⟩:=hr XY { s3 with heap:=s3.heap.push { cls:=.type "slice",data:=.fields #[vl,vu,.none] } } Z H3 x v vl vu l u s3.heap.objs.size Q I4 r1 (Heap.IsSliceOf.new ..) pl pu q3;show wpAny (model X.prog X.w) X.A (subscriptTail e (.Slice lo hi none p2) v (.ref s3.heap.objs.size)) (EP X XY Z Q) X.xe { s3 with heap:=s3.heap.push { cls:=.type "slice",data:=.fields #[vl,vu,.none] } };exact tail_any (ops:=[.ref s3.heap.objs.size,v]) ht hT hg (by with_unfolding_all rfl)
noncomputable def C4(xs:ZQ)(lo hi:ZR):ZQ:=(xs.drop (HT.Yg xs.length 0 lo)).take (HT.Yg xs.length xs.length hi - HT.Yg xs.length 0 lo)
theorem U4(xs:ZQ)(lo hi:ZR):(C4 xs lo hi).length<=xs.length:=by
 unfold C4;rw[L0t,List.length_drop];omega
inductive yw(K:W.Frag)(x:V)(lo:ZR)(hi:ZR)(H:Hp)(Q:VK):Prop
 | mk(a xs)(Vg:x=.ref a)(Vb:Vc K H a xs)(Jg:¬ (HT.Yg xs.length 0 lo=0/\HT.Yg xs.length xs.length hi=xs.length))(S8:∀p,H p=none->Q (.ref p) (upd H p (.tup (C4 xs lo hi)))):yw K x lo hi H Q
def rSlT(K:W.Frag):V->ZR->ZR->Hp->VK->Prop:=fun x lo hi H Q=>yw K x lo hi H Q
theorem sl_tup:SlR X (rSlT X.K):=by
 intro XY s Z H x v vl vu lo hi sl Q I rx hs pl pu h;obtain⟨a,xs,rfl,hx,hw,q⟩:=h;cases rx;obtain⟨its,r,ht,hz⟩:=I.tuple hx;have hlen:its.toArray.size=xs.length:=by rw[Jz];exact r.length.symm
 refine⟨"tuple",_,slot_tuple_getitem.lookup,ht.typeIs, ?_⟩;refine HT.M0 ht hs pl pu (by rw[hlen];exact hw) ?_ (by rw[hlen];exact hz);rw[hlen];refine⟨.ref s.heap.objs.size,_,I.laid (t':=s.toks) (o:=.tup (C4 xs lo hi)) (fun b ob q=>Vs _ q) (Z5 _) ?_,rfl,q _ (I.hok.fresh (Z5 _))⟩;exact⟨Ut (U4 xs lo hi) hz,_,(r.drop (HT.Yg xs.length 0 lo)).take (HT.Yg xs.length xs.length hi - HT.Yg xs.length 0 lo),Wb.new _ _⟩
inductive Am(K:W.Frag)(x:V)(y:V)(H:Hp)(Q:VK):Prop
 | mk(a b xs ys)(Vg:x=.ref a)(Vb:y=.ref b)(Jg:Vc K H a xs)(S8:Vc K H b ys)(h4_:xs≠[])(h5_:xs.length+ys.length<=sizeLine)(h6_:(ys=[]->Q (.ref a) H))(h7_:(ys≠[]->∀p,H p=none->Q (.ref p) (upd H p (.tup (xs++ys))))):Am K x y H Q
def rCatT(K:W.Frag):R2:=fun x y H Q=>Am K x y H Q
theorem Zk.nil_iff{xs:ZQ}{us:ZM}(r:Zk xs us):us=[]↔xs=[]:=by
 cases r with
 | nil=>simp
 | cons _ _=>simp
theorem oq:Dz X (binaryOp .Add) (rCatT X.K):=by
 intro XY s Z H x y v u Q I rx ry h;obtain⟨a,b,xs,ys,rfl,rfl,ha,hb,hx,hz,q1,q2⟩:=h;cases rx;cases ry;obtain⟨its,r1,p1,_⟩:=I.tuple ha;obtain⟨Of,r2,p2,_⟩:=I.tuple hb;refine HT.Zz3 p1 p2 (fun z=>hx (r1.nil_iff.mp z)) (fun z=>⟨.ref a,H,I,rfl,q1 (r2.nil_iff.mp z)⟩) (fun z=>?_) (by rw[<-r1.length, <-r2.length];exact hz);refine⟨.ref s.heap.objs.size,_,I.laid (t':=s.toks) (o:=.tup (xs++ys)) (fun b ob q=>Vs _ q) (Z5 _) ?_,rfl,q2 (fun w=>z (r2.nil_iff.mpr w)) _ (I.hok.fresh (Z5 _))⟩;exact⟨by rw[Yl];exact hz,_,r1.append r2,Wb.new _ _⟩
end
noncomputable def fj(n:Nat)(i:Int):ZH:=if 0<=i then (if i<n then some i.toNat else none) else if -(n:Int)<=i then some (i+n).toNat else none
noncomputable def Ts{Z:Type}(xs:List Z)(i:Int):Option Z:=(fj xs.length i).bind fun j=>xs[j]?
theorem A5{n:Nat}{i:Int}{j:Nat}(h:fj n i=some j):seqIndex? i n=some j/\j<n/\-(n:Int)<=i/\i<n:=by
 unfold fj at h;by_cases h0:0<=i
 .rw[if_pos h0]at h;by_cases h1:i<n
  .rw[if_pos h1]at h;have e:i.toNat=j:=D8 h;exact⟨by rw[seqIndex_of h0 h1,e],by omega,by omega,h1⟩
  .rw[if_neg h1]at h;cases h
 .rw[if_neg h0]at h;by_cases h1:-(n:Int)<=i
  .rw[if_pos h1]at h;have e:(i+n).toNat=j:=D8 h;exact⟨by rw[seqIndex_neg (by omega) h1,e],by omega,h1,by omega⟩
  .rw[if_neg h1]at h;cases h
theorem Qp{Z:Type}{xs:List Z}{i:Int}{v:Z}(h:Ts xs i=some v):∃j,seqIndex? i xs.length=some j/\xs[j]?=some v/\j<xs.length/\-(xs.length:Int)<=i/\i<xs.length:=by
 unfold Ts at h;cases e:fj xs.length i with
 | none=>rw[e]at h;cases h
 | some j =>
  rw[e]at h;obtain⟨h1,h2,h3,h4⟩:=A5 e;exact⟨j,h1,h,h2,h3,h4⟩
def Xq(b:Expr):Prop:=∀o i,subscripted b false o i=operate [o,i] (getItem o i)
def IxR(X:Cx)(r:R2):Prop :=
 ∀(value slice:Expr) (XY:ZY) (s:Shared) (Z:St) (H:Hp) (x y:V) (v u:Value) (Q:VK),Inv X XY Z H s->RelV x v->RelV y u->r x y H Q ->
  subscripted slice false v u=operate [v,u] (getItem v u)->wpAny (model X.prog X.w) X.A (subscriptTail value slice v u) (EP X XY Z Q) X.xe s
def MtR(X:Cx)(id:String)(r:V->ZQ->Hp->VK->Prop):Prop :=
 ∀(XY:ZY) (s:Shared) (Z:St) (H:Hp) (x:V) (xs:ZQ) (v:Value) (us:ZM) (Q:VK),Inv X XY Z H s->RelV x v->Zk xs us->r x xs H Q ->
  wpAny (model X.prog X.w) X.A (call (.builtin id) (v::us)) (EP X XY Z Q) X.xe s
section
variable{X:Cx}{a b:Expr}{ta tb:TE}{pos:Pos}
theorem IxR.or{r r':R2}(h:IxR X r)(h':IxR X r'):IxR X (fun x y H Q=>r x y H Q\/r' x y H Q):=by
 intro value slice XY s Z H x y v u Q I rx ry q hs;rcases q with q | q
 .exact h value slice XY s Z H x y v u Q I rx ry q hs
 .exact h' value slice XY s Z H x y v u Q I rx ry q hs
theorem MtR.or{id:String}{r r':V->ZQ->Hp->VK->Prop}(h:MtR X id r)(h':MtR X id r'):MtR X id (fun x xs H Q=>r x xs H Q\/r' x xs H Q):=by
 intro XY s Z H x xs v us Q I rx rs q;rcases q with q | q
 .exact h XY s Z H x xs v us Q I rx rs q
 .exact h' XY s Z H x xs v us Q I rx rs q
theorem pe_ix{r:R2}(hr:IxR X r)(ha:PE X a ta)(hb:PE X b tb)(hs:Xq b):PE X (.Subscript a b pos) (tOp r ta tb):=by
 intro XY s Z H Q I h;exact Subscript_ (binT ha hb I h fun v u s2 x y H2 I2 rx ry q=>hr a b XY s2 Z H2 x y v u Q I2 rx ry q (hs _ _))
inductive yb(K:W.Frag)(x:V)(y:V)(H:Hp)(Q:VK):Prop
 | mk(p xs i v)(Vg:x=.ref p)(Vb:y=.int i)(Jg:Ud K H p xs)(S8:Ts xs i=some v)(h4_:Q v H):yb K x y H Q
def rIxL(K:W.Frag):R2:=fun x y H Q=>yb K x y H Q
inductive yg(K:W.Frag)(x:V)(y:V)(H:Hp)(Q:VK):Prop
 | mk(p xs i v)(Vg:x=.ref p)(Vb:y=.int i)(Jg:Vc K H p xs)(S8:Ts xs i=some v)(h4_:Q v H):yg K x y H Q
def rIxT(K:W.Frag):R2:=fun x y H Q=>yg K x y H Q
inductive yf(x:V)(y:V)(H:Hp)(Q:VK):Prop
 | mk(z i c)(Vg:x=.str z)(Vb:y=.int i)(Jg:z.length<=sizeLine)(S8:Ts z.cps.toList i=some c)(h4_:Q (.str ⟨#[c]⟩) H):yf x y H Q
def rIxS:R2:=fun x y H Q=>yf x y H Q
theorem il:IxR X (rIxL X.K):=by
 intro value slice XY s Z H x y v u Q I rx ry h hs;obtain⟨p,xs,i,z,rfl,rfl,hq,he,q⟩:=h;cases rx;obtain⟨t,rfl⟩:=ry;obtain⟨its,r,pl,hz⟩:=I.list hq;obtain⟨j,h1,h2,h3,h4,h5⟩:=Qp he;obtain⟨w,ew,X3⟩:=r.get h2;have hl:=r.length;have hn:=N4;have fin:EP X XY Z Q w s:=⟨z,H,I,X3,q⟩;by_cases h0:0<=i
 .have hj:i.toNat=j:=by
   rw[seqIndex_of h0 h5]at h1;exact D8 h1
  exact item_listR pl.isList h0 (by omega) (by rw[hj];simpa using ew) fin hs
 .have hj:(i+(its.toArray.size:Int)).toNat=j:=by
   rw[seqIndex_neg (by omega) h4]at h1;rw[Jz, <-hl];exact D8 h1
  exact subscriptTail_builtinR (x:=w) pl.isList.typeIs slot_list_getitem.lookup
   (wpAny_getItem_list_neg (Q:=fun r s'=>r=w/\EP X XY Z Q r s') pl.isList (by omega) (by rw[Jz]<;>omega) (by omega) (by rw[hj];simpa using ew) ⟨rfl,fin⟩) hs
theorem ix_tup:IxR X (rIxT X.K):=by
 intro value slice XY s Z H x y v u Q I rx ry h hs;obtain⟨p,xs,i,z,rfl,rfl,hq,he,q⟩:=h;cases rx;obtain⟨t,rfl⟩:=ry;obtain⟨its,r,pl,hz⟩:=I.tuple hq;obtain⟨j,h1,h2,h3,h4,h5⟩:=Qp he;obtain⟨w,ew,X3⟩:=r.get h2;have hl:=r.length;have hn:=N4;have fin:EP X XY Z Q w s:=⟨z,H,I,X3,q⟩
 exact subscriptTail_builtinR (x:=w) pl.typeIs slot_tuple_getitem.lookup
  (getItem_tuple (j:=j) (Q:=fun r s'=>r=w/\EP X XY Z Q r s') pl (by omega) (by omega) (by rw[Jz, <-hl];exact h1) (by simpa using ew) ⟨rfl,fin⟩) hs
theorem ix_str:IxR X rIxS:=by
 intro value slice XY s Z H x y v u Q I rx ry h hs;obtain⟨z,i,c,rfl,rfl,hz,he,q⟩:=h;obtain⟨t,rfl⟩:=rx;obtain⟨t',rfl⟩:=ry;obtain⟨j,h1,h2,h3,h4,h5⟩:=Qp he;have hl:z.cps.toList.length=z.length:=by simp[Str.length]
 rw[hl]at h1 h4 h5;have hn:=N4
 exact tail_any (typeIs_str s z t) slot_str_getitem.lookup (getItem_str (c:=c) (by
  have e1:decide (i < -(2 ^ 63:Int))=false:=Dj (by omega);have e2:decide (i ≥ 2 ^ 63)=false:=Dj (by omega);rw[e1,e2,Bool.or_false]) (by rw[h1];simpa using h2) ⟨.str ⟨#[c]⟩,H,I.tok _,⟨_,rfl⟩,q⟩) hs
theorem Kk(its:ZM)(n j:Nat)(u:Value):Obj.mapSeq (·.setIfInBounds j u) { cls:=.type "list",data:=.seq its.toArray n }={ cls:=.type "list",data:=.seq (its.set j u).toArray n }:=by
 simp[Obj.mapSeq]
theorem Inv.lst{XY:ZY}{Z:St}{H:Hp}{s:Shared}{p:Addr}{xs:ZQ}(I:Inv X XY Z H s)(h:H p=some (.lst xs)) :
  ∃(its:ZM) (n:Nat),Zk xs its/\s.heap.get? p=some { cls:=.type "list",data:=.seq its.toArray n }/\xs.length<=sizeLine:=by
 obtain⟨z,its,n,r,e⟩:=I.hok p _ h;exact⟨its,n,r,e,z⟩
theorem Inv.lstUpd{XY:ZY}{Z:St}{H:Hp}{s:Shared}{p:Addr}{xs ys:ZQ}{its its':ZM}{n n':Nat}{f:Obj->Obj}(I:Inv X XY Z H s)(h:H p=some (.lst xs))
  (ho:s.heap.get? p=some { cls:=.type "list",data:=.seq its.toArray n }) (hf:f { cls:=.type "list",data:=.seq its.toArray n }={ cls:=.type "list",data:=.seq its'.toArray n' }) (r:Zk ys its') (hz:ys.length<=sizeLine) (t:Nat) :
  Inv X XY Z (upd H p (.lst ys)) { s with heap:=s.heap.update p f,toks:=t }:=by
 have e:(s.heap.update p f).get? p=some { cls:=.type "list",data:=.seq its'.toArray n' }:=by
  rw[Heap.get?_update_self f ho (by rw[hf]<;>rfl),hf]
 refine I.write (x:=p) (e:=p) (by rw[h];trivial) (.inl rfl) (fun b u hb q=>(Heap.get?_update_other _ _ (Ne.symm hb)).trans q) ⟨_,e⟩ ?_;exact⟨hz,its',n',r,e⟩
inductive Af(o:V)(i:V)(v:V)(H:Hp)(Q:(Hp->Prop)):Prop
 | mk(p xs k j)(Vg:o=.ref p)(Vb:i=.int k)(Jg:H p=some (.lst xs))(S8:fj xs.length k=some j)(h4_:Q (upd H p (.lst (xs.set j v)))):Af o i v H Q
def rSetL:V->V->V->Hp->(Hp->Prop)->Prop:=fun o i v H Q=>Af o i v H Q
theorem set_list:PSet X rSetL:=by
 intro XY s Z H o i v ov iv u Q I ro ri rv h;obtain⟨p,xs,k,j,rfl,rfl,hp,hj,q⟩:=h;cases ro;obtain⟨t,rfl⟩:=ri;obtain⟨its,n,r,ho,hz⟩:=I.lst hp;obtain⟨h1,h2,h3,h4⟩:=A5 hj;have hl:=r.length;have hn:=N4
 have I':Inv X XY Z (upd H p (.lst (xs.set j v))) { s with heap:=s.heap.update p (Obj.mapSeq (·.setIfInBounds j u)) } :=
  I.lstUpd hp ho (Kk its n j u) (r.set rv j) (by rw[XQ];exact hz) s.toks
 by_cases h0:0<=k
 .have hk:k.toNat=j:=by
   rw[seqIndex_of h0 h4]at h1;exact D8 h1
  exact W.ki_setAt ho h0 (by omega) (by rw[Jz, <-hl];exact h4) (by rw[hk];exact⟨_,I',q⟩)
 .have hk:(k+(its.toArray.size:Int)).toNat=j:=by
   rw[seqIndex_neg (by omega) h3]at h1;rw[Jz, <-hl];exact D8 h1
  exact W.ki_setBack ho (by omega) (by rw[Jz, <-hl];exact h3) (by omega) (by rw[hk];exact⟨_,I',q⟩)
theorem La(lo hi:ZR)(n:Nat):(sliceBounds lo hi none n).1=((HT.Yg n 0 lo:Nat):Int)/\(sliceBounds lo hi none n).2.1=((HT.Yg n n hi:Nat):Int)/\(sliceBounds lo hi none n).2.2=1:=by
 refine⟨?_, ?_,rfl⟩
 .cases lo with
  | none=>simp[sliceBounds,HT.Yg]
  | some i =>
   simp only[sliceBounds,HT.Yg,Option.getD_none,show (1:Int)>0 by decide,if_true];by_cases h:i<0
   .simp only[h,if_true]<;>omega
   .simp only[h,if_false]<;>omega
 .cases hi with
  | none=>simp[sliceBounds,HT.Yg]
  | some i =>
   simp only[sliceBounds,HT.Yg,Option.getD_none,show (1:Int)>0 by decide,if_true];by_cases h:i<0
   .simp only[h,if_true]<;>omega
   .simp only[h,if_false]<;>omega
theorem R0(its:ZM)(lo hi:ZR):slicePick its.toArray lo hi none=((its.drop (HT.Yg its.length 0 lo)).take (HT.Yg its.length its.length hi - HT.Yg its.length 0 lo)).toArray:=by
 obtain⟨h1,h2,h3⟩:=La lo hi its.toArray.size;unfold slicePick;rw[h1,h2,h3];simp only[sliceRange_one,pick_run,Jz]<;>rfl
inductive yy(K:W.Frag)(x:V)(lo:ZR)(hi:ZR)(H:Hp)(Q:VK):Prop
 | mk(a xs)(Vg:x=.ref a)(Vb:Ud K H a xs)(Jg:∀p,H p=none->Q (.ref p) (upd H p (.lst (C4 xs lo hi)))):yy K x lo hi H Q
def rSlL(K:W.Frag):V->ZR->ZR->Hp->VK->Prop:=fun x lo hi H Q=>yy K x lo hi H Q
theorem ph:SlR X (rSlL X.K):=by
 intro XY s Z H x v vl vu lo hi sl Q I rx hs pl pu h;obtain⟨a,xs,rfl,hx,q⟩:=h;cases rx;obtain⟨its,r,ht,hz⟩:=I.list hx;have hlen:=r.length;refine⟨"list",_,slot_list_getitem.lookup,ht.isList.typeIs, ?_⟩;refine wpAny_getItem_list_slice ht.isList hs pl pu .none (by simp) ?_ (by rw[Jz]<;>omega);rw[R0, <-hlen];refine⟨.ref s.heap.objs.size,_,I.laid (t':=s.toks) (o:=.lst (C4 xs lo hi)) (fun b ob q=>Vs _ q) (Z5 _) ?_,rfl,q _ (I.hok.fresh (Z5 _))⟩;exact⟨Ut (U4 xs lo hi) hz,_,0,(r.drop (HT.Yg xs.length 0 lo)).take (HT.Yg xs.length xs.length hi - HT.Yg xs.length 0 lo),Bv _ rfl⟩
def Bt:V->Bool
 | .non=>true
 | .bl _=>true
 | .int _=>true
 | .str _=>true
 | _=>false
noncomputable def nh:V->V->Bool
 | .non,.non=>true
 | .bl a,.bl b=>a == b
 | .bl a,.int b=>(if a then 1 else 0) == b
 | .int a,.bl b=>a == (if b then 1 else 0)
 | .int a,.int b=>a == b
 | .str a,.str b=>a == b
 | _,_=>false
theorem eqAt_V{A:Around}{s:Shared}{y x:V}{u v:Value}(ry:RelV y u)(rx:RelV x v)(fy:Bt y=true)(fx:Bt x=true):SeqAt.EqAt A s u v (nh y x):=by
 cases y with
 | non =>
  cases ry;cases x with
  | non=>cases rx;exact SeqAt.EqAt.same _
  | bl b=>cases rx;exact SeqAt.EqAt.none_bool b
  | int b=>obtain⟨t,rfl⟩:=rx;exact SeqAt.EqAt.none_int b t
  | str b=>obtain⟨t,rfl⟩:=rx;exact SeqAt.EqAt.none_str b t
  | _=>exact absurd (show false=true from fx) Nt
 | bl a =>
  cases ry;cases x with
  | non=>cases rx;exact SeqAt.EqAt.bool_none a
  | bl b=>cases rx;exact SeqAt.EqAt.bool_bool a b
  | int b=>obtain⟨t,rfl⟩:=rx;exact SeqAt.EqAt.bool_int a b t
  | str b=>obtain⟨t,rfl⟩:=rx;exact SeqAt.EqAt.bool_str a b t
  | _=>exact absurd (show false=true from fx) Nt
 | int a =>
  obtain⟨t',rfl⟩:=ry;cases x with
  | non=>cases rx;exact SeqAt.EqAt.int_none a t'
  | bl b=>cases rx;exact SeqAt.EqAt.int_bool a t' b
  | int b=>obtain⟨t,rfl⟩:=rx;exact SeqAt.EqAt.int_int a t' b t
  | str b=>obtain⟨t,rfl⟩:=rx;exact SeqAt.EqAt.int_str a t' b t
  | _=>exact absurd (show false=true from fx) Nt
 | str a =>
  obtain⟨t',rfl⟩:=ry;cases x with
  | non=>cases rx;exact SeqAt.EqAt.str_none a t'
  | bl b=>cases rx;exact SeqAt.EqAt.str_bool a t' b
  | int b=>obtain⟨t,rfl⟩:=rx;exact SeqAt.EqAt.str_int a t' b t
  | str b=>obtain⟨t,rfl⟩:=rx;exact SeqAt.EqAt.str_str a t' b t
  | _=>exact absurd (show false=true from fx) Nt
 | _=>exact absurd (show false=true from fy) Nt
noncomputable def eqU(x:V)(u:Value):Bool:=match u with
 | .none=>nh .non x
 | .bool b=>nh (.bl b) x
 | .int i _=>nh (.int i) x
 | .str z _=>nh (.str z) x
 | _=>false
theorem eqU_of{x y:V}{u:Value}(r:RelV y u)(f:Bt y=true):eqU x u=nh y x:=by
 cases y with
 | non=>cases r;rfl
 | bl b=>cases r;rfl
 | int i=>obtain⟨t,rfl⟩:=r;rfl
 | str z=>obtain⟨t,rfl⟩:=r;rfl
 | _=>exact absurd (show false=true from f) Nt
inductive G7(K:W.Frag)(xs:ZQ)(H:Hp)(Q:VK):Prop
 | mk(p ys)(Vg:xs=[.ref p])(Vb:(Ud K H p ys\/Vc K H p ys))(Jg:Q (.int ys.length) H):G7 K xs H Q
theorem Nq:Y7 X (.builtin "len") (fun xs H Q=>G7 X.K xs H Q):=by
 intro XY s Z H xs us Q I r h;obtain⟨p,ys,rfl,hq,q⟩:=h;obtain⟨u,rfl,rx⟩:=vals1 r;cases rx;have hn:=N4;rcases hq with hq | hq
 .obtain⟨its,r',pl,hz⟩:=I.list hq;have hlen:=r'.length;exact Calls.call_len_list pl.isList (by simp only[Jz]<;>omega) ⟨.int ys.length,H,I.tok _,⟨s.toks+1,by rw[Jz,hlen]⟩,q⟩
 .obtain⟨its,r',pl,hz⟩:=I.tuple hq;have hlen:=r'.length;exact len_tuple pl (by simp only[Jz]<;>omega) ⟨.int ys.length,H,I.tok _,⟨s.toks+1,by rw[Jz,hlen]⟩,q⟩
theorem Y7.or{f:Value}{r r':ZQ->Hp->VK->Prop}(h:Y7 X f r)(h':Y7 X f r'):Y7 X f (fun xs H Q=>r xs H Q\/r' xs H Q):=by
 intro XY s Z H xs us Q I rs q;rcases q with q | q
 .exact h XY s Z H xs us Q I rs q
 .exact h' XY s Z H xs us Q I rs q
inductive G6(K:W.Frag)(xs:ZQ)(H:Hp)(Q:VK):Prop
 | mk(p ys)(Vg:xs=[.ref p])(Vb:(Ud K H p ys\/Vc K H p ys))(Jg:∀l,H l=none->Q (.ref l) (upd H l (.lst ys))):G6 K xs H Q
theorem Qc:Y7 X (.type "list") (fun xs H Q=>G6 X.K xs H Q):=by
 intro XY s Z H xs us Q I r h;obtain⟨p,ys,rfl,hq,q⟩:=h;obtain⟨u,rfl,rx⟩:=vals1 r;cases rx
 have fin:∀(its:ZM),Zk ys its->ys.length<=sizeLine->∀(h':Heap) (c':Nat),(∀b o',s.heap.get? b=some o'->h'.get? b=some o') ->
   h'.get? s.heap.objs.size=some { cls:=.type "list",dict:=none,data:=.seq its.toArray c',slots:=#[] }->EP X XY Z Q (.ref s.heap.objs.size) { s with heap:=h' }:=fun its r' hz h' c' kp e =>
  ⟨.ref s.heap.objs.size,_,I.laid (t':=s.toks) kp (Z5 _) (show Ze X.prog X.w _ h' _ (.lst ys) from⟨hz,its,c',r',e⟩),rfl,q _ (I.hok.fresh (Z5 _))⟩
 rcases hq with hq | hq
 .obtain⟨its,r',pl,hz⟩:=I.list hq;have hlen:=r'.length;obtain⟨o,ho,hc,n,hd⟩:=pl.isList;exact call_list_seq p (.inl rfl) ho hc hd (fun h' c' kp e=>fin its r' hz h' c' kp e) (by simp only[Jz]<;>omega)
 .obtain⟨its,r',pl,hz⟩:=I.tuple hq;have hlen:=r'.length;obtain⟨o,ho,hc,n,hd⟩:=pl;exact call_list_seq p (.inr rfl) ho hc hd (fun h' c' kp e=>fin its r' hz h' c' kp e) (by simp only[Jz]<;>omega)
inductive Gm(K:W.Frag)(xs:ZQ)(H:Hp)(Q:VK):Prop
 | mk(p ys)(Vg:xs=[.ref p])(Vb:((Ud K H p ys/\∀l,H l=none->Q (.ref l) (upd H l (.tup ys)))\/(Vc K H p ys/\Q (.ref p) H))):Gm K xs H Q
theorem Wy:Y7 X (.type "tuple") (fun xs H Q=>Gm X.K xs H Q):=by
 intro XY s Z H xs us Q I r h;obtain⟨p,ys,rfl,h⟩:=h;obtain⟨u,rfl,rx⟩:=vals1 r;cases rx;rcases h with ⟨hq,q⟩ | ⟨hq,q⟩
 .obtain⟨its,r',pl,hz⟩:=I.list hq;have hlen:=r'.length;refine call_tuple_list pl.isList (fun h' kp=>?_) (by simp only[Jz]<;>omega);have I1:Inv X XY Z H { s with heap:=h' }:=I.kept (t':=s.toks) kp
  have I2:Inv X XY Z (upd H h'.objs.size (.tup ys)) { s with heap:=h'.push { cls:=.type "tuple",data:=.seq its.toArray } } :=
   I1.laid (t':=s.toks) (fun b o e=>Vs _ e) (Z5 _) (show Ze X.prog X.w _ _ _ (.tup ys) from⟨hz,its,r',Wb.new _ _⟩)
  exact⟨.ref h'.objs.size,_,I2,rfl,q _ (I1.hok.fresh (Z5 _))⟩
 .obtain⟨its,r',pl,hz⟩:=I.tuple hq;exact call_tuple_same pl ⟨.ref p,H,I,rfl,q⟩
def tyV(K:W.Frag)(T:String)(x:V)(H:Hp):Prop:=match x with
 | .str _=>T = "str"
 | .int _=>T = "int"
 | .ref p=>(T = "list" /\ ∃xs,Ud K H p xs)\/(T = "tuple" /\ ∃o,K.lookup p=some o/\o.cls=.type "tuple" /\ o.dict=none) \/
   (T = "dict" /\ ((∃XG,H p=some (.dK XG))\/∃XG,H p=some (.dT XG)))\/(T = "set" /\ ∃S n,H p=some (.set S n))
 | _=>False
theorem j7{XY:ZY}{Z:St}{H:Hp}{s:Shared}{T:String}{x:V}{v:Value}(I:Inv X XY Z H s)(r:RelV x v)(ty:tyV X.K T x H) :
  s.TypeIs v T/\∀a,v=.ref a->∃ob,s.heap.get? a=some ob/\ob.dict=none:=by
 cases x with
 | str z =>
  obtain⟨t,rfl⟩:=r;cases(show T = "str" from ty);exact⟨typeIs_str s z t,fun _ e=>nomatch e⟩
 | int i =>
  obtain⟨t,rfl⟩:=r;cases(show T = "int" from ty);exact⟨typeIs_int s i t,fun _ e=>nomatch e⟩
 | ref p =>
  cases r;rcases ty with ⟨rfl,xs,hq⟩ | ⟨rfl,o,hk,hc,hd⟩ | ⟨rfl,hk⟩ | ⟨rfl,S,n,hk⟩
  .obtain⟨its,_,pl,_⟩:=I.list hq;refine⟨pl.isList.typeIs,fun a e=>?_⟩;cases e;obtain⟨o,n,e,c,hd,_⟩:=pl;exact⟨o,e,hd⟩
  .refine⟨⟨o,I.kIn p o hk,hc⟩,fun a e=>?_⟩;cases e;exact⟨o,I.kIn _ o hk,hd⟩
  .have z:∃o,s.heap.get? p=some o/\o.ExactDict:=by
    rcases hk with ⟨XG,hk⟩ | ⟨XG,hk⟩
    .obtain⟨_,_,_,_,o,_,_,e,ex,_⟩:=I.hok p _ hk;exact⟨o,e,ex⟩
    .obtain⟨_,_,_,_,o,_,_,e,ex,_⟩:=I.hok p _ hk;exact⟨o,e,ex⟩
   obtain⟨o,e,ex⟩:=z;refine⟨⟨o,e,ex.1⟩,fun a e2=>?_⟩;cases e2;exact⟨o,e,ex.2.1⟩
  .obtain⟨o,_,_,_,e,ex,_⟩:=I.hok p _ hk;refine⟨⟨o,e,ex.1⟩,fun a e2=>?_⟩;cases e2;exact⟨o,e,ex.2.1⟩
 | _=>exact False.elim ty
def tBM0(K:W.Frag)(T:String)(r:V->ZQ->Hp->VK->Prop)(to:TE):TE:=fun Z H Q=>to Z H fun x H1=>tyV K T x H1/\r x [] H1 Q
def tBM(K:W.Frag)(T:String)(r:V->ZQ->Hp->VK->Prop)(to:TE)(t:TA):TE:=fun Z H Q=>to Z H fun x H1=>tyV K T x H1/\t Z H1 fun xs H2=>r x xs H2 Q
variable{o e:Expr}{es:ZC}{to:TE}{t:TA}{name:Str}{apos cpos:Pos}{T id:String}{r:V->ZQ->Hp->VK->Prop}
theorem pe_bm0(pa:PlainAttrs T)(slot:Slot T name id)(hty:typeOf (.builtin id)=pure (.type "method_descriptor"))(hm:MtR X id r)(ho:PE X o to)
  (G2:attributeBase o name X.env (eval o X.env)=eval o X.env:=by rfl) (Jk:(apos.endLine == cpos.line)=true:=by rfl):PE X (.Call (.Attribute o name apos) [] [] cpos) (tBM0 X.K T r to):=by
 intro XY s Z H Q I h;refine wpAny_Call_method0_late G2 Jk (Yz (ho XY s Z H _ I h) fun v s1 ⟨x,H1,I1,r1,ty,q1⟩=>?_);obtain⟨h1,h2⟩:=j7 I1 r1 ty;exact⟨T,id,pa,slot,hty,h1,h2,Calls.callWith_builtin rfl (PySem.evalArgs_none (hm XY s1 Z H1 x [] v [] Q I1 r1 .nil q1))⟩
theorem Bg(pa:PlainAttrs T)(slot:Slot T name id)(hty:typeOf (.builtin id)=pure (.type "method_descriptor"))(hm:MtR X id r)(ho:PE X o to)(ha:PA X (e::es) t)
  (G2:attributeBase o name X.env (eval o X.env)=eval o X.env:=by rfl)
  (hfew:((backTo cpos (starEach (e::es) X.env)).all (fun x=>!x.1) && (backToKw cpos (keywordEach [] X.env)).all (fun x=>x.1.isSome)
   && decide ((e::es).length+([]:List Keyword).length+(if ([]:List Keyword).isEmpty then 0 else 1)<30))=true:=by rfl)
  (Jk:(apos.endLine == cpos.line)=true:=by rfl) (hs:starEach (e::es) X.env=(false,eval e X.env)::starEach es X.env:=by rfl) (hplain:(backTo cpos (starEach es X.env)).any (·.1)=false:=by rfl) :
  PE X (.Call (.Attribute o name apos) (e::es) [] cpos) (tBM X.K T r to t):=by
 intro XY s Z H Q I h;refine wpAny_Call_method_late G2 hfew Jk rfl (Yz (ho XY s Z H _ I h) fun v s1 ⟨x,H1,I1,r1,ty,q1⟩=>?_);obtain⟨h1,h2⟩:=j7 I1 r1 ty;refine⟨T,id,pa,slot,hty,h1,h2, ?_⟩;have hA:=ha cpos XY s1 Z H1 _ I1 q1;rw[hs]at hA ⊢;refine Calls.callWith_builtin (by show (false || (backTo cpos (starEach es X.env)).any (·.1))=false;rw[hplain]<;>rfl) (Calls.evalArgs_plain ?_);exact Yz hA fun us s2 ⟨vs,H2,I2,r2,q2⟩=>hm XY s2 Z H2 x vs v us Q I2 r1 r2 q2
end
def MtM(X:Cx)(id:String)(r:V->ZQ->Hp->VK->Prop):Prop :=
 ∀(XY:ZY) (s:Shared) (Z:St) (H:Hp) (x:V) (xs:ZQ) (v:Value) (us:ZM) (Q:VK),Inv X XY Z H s->RelV x v->Zk xs us->r x xs H Q ->
  wpAny (model X.prog X.w) X.A (call (.builtin id) (v::us)) (EP X XY Z Q) X.xe s
theorem Zk.one:∀{x:V} {us:ZM},Zk [x] us->∃u,us=[u]/\RelV x u
 | _,_,.cons r .nil=>⟨_,rfl,r⟩
theorem Zk.two:∀{x y:V} {us:ZM},Zk [x,y] us->∃u v,us=[u,v]/\RelV x u/\RelV y v
 | _,_,_,.cons r (.cons q .nil)=>⟨_,_,rfl,r,q⟩
theorem Zk.rep{xs:ZQ}{us:ZM}(h:Zk xs us):∀k:Nat,Zk (List.replicate k xs).flatten (List.replicate k us).flatten
 | 0=>.nil
 | k+1=>by
  rw[List.replicate_succ,List.replicate_succ,List.flatten_cons,List.flatten_cons];exact Zk.append h (Zk.rep h k)
theorem foldl_rep(its:ZM):∀(k:Nat) (acc:ZM),
  List.foldl (fun x1 x2=>x1++x2) acc.toArray (List.replicate k its.toArray)=(acc++(List.replicate k its).flatten).toArray
 | 0,acc=>by simp
 | k+1,acc=>by
  have e:acc.toArray++its.toArray=(acc++its).toArray:=by simp
  have e2:(acc++its)++(List.replicate k its).flatten=acc++(List.replicate (k+1) its).flatten:=by
   rw[List.replicate_succ,List.flatten_cons,ZE]
  rw[<-e2, <-foldl_rep its k (acc++its), <-e,List.replicate_succ,List.foldl_cons]
section
variable{X:Cx}{XY:ZY}{Z:St}{H:Hp}{s:Shared}{l b:Addr}{xs ys zs:ZQ}
theorem Inv.lset{its its':ZM}{n:Nat}{f:ZN->ZN}{t':Nat}(I:Inv X XY Z H s)(hH:H l=some (.lst xs))
  (e:s.heap.get? l=some { cls:=.type "list",data:=.seq its.toArray n }) (hf:f its.toArray=its'.toArray) (hv:Zk ys its') (hz:ys.length<=sizeLine) :
  Inv X XY Z (upd H l (.lst ys)) { s with heap:=s.heap.update l (Obj.mapSeq f),toks:=t' }:=by
 have q:=PySem.IsL.update e f;rw[hf]at q;refine I.write (x:=l) (e:=l) (by rw[hH];exact trivial) (.inl rfl) (fun b' u hb hu=>(Heap.get?_update_other s.heap (Obj.mapSeq f) (Ne.symm hb)).trans hu) ⟨_,q⟩ ?_;exact⟨hz,its',_,hv,q⟩
theorem Inv.lnew{its:ZM}{t':Nat}(I:Inv X XY Z H s)(hv:Zk ys its)(hz:ys.length<=sizeLine) :
  Inv X XY Z (upd H s.heap.objs.size (.lst ys)) { s with heap:=s.heap.push { cls:=.type "list",data:=.seq its.toArray },toks:=t' } :=
 I.laid (fun _ _ q=>Vs _ q) (Z5 _) ⟨hz,its,0,hv,Bv _ rfl⟩
theorem Inv.fresh(I:Inv X XY Z H s):H s.heap.objs.size=none:=I.hok.fresh (Z5 _)
theorem Inv.lstM(I:Inv X XY Z H s)(hH:H l=some (.lst xs)):xs.length<=sizeLine/\∃(its:ZM) (n:Nat),Zk xs its/\xs.length=its.length/\s.heap.get? l=some { cls:=.type "list",data:=.seq its.toArray n }:=by
 obtain⟨z,its,n,r,e⟩:=I.hok l _ hH;exact⟨z,its,n,r,r.length,e⟩
theorem Ox{n:Nat}(h:n<=sizeLine):Builtin.List.listTooLong n=false:=by
 unfold Builtin.List.listTooLong;exact Dj (by omega)
end
section
variable{X:Cx}
inductive Wp(x:V)(vs:ZQ)(H:Hp)(Q:VK):Prop
 | mk(l xs y)(Vg:x=.ref l)(Vb:vs=[y])(Jg:H l=some (.lst xs))(S8:xs.length<sizeLine)(h4_:Q .non (upd H l (.lst (xs++[y])))):Wp x vs H Q
def ud:V->ZQ->Hp->VK->Prop:=fun x vs H Q=>Wp x vs H Q
theorem Wi:MtM X "list.append" ud:=by
 intro XY s Z H x vs v us Q I rx rv h;obtain⟨l,xs,y,rfl,rfl,hH,hz,q⟩:=h;cases rx;obtain⟨u,rfl,ru⟩:=rv.one;obtain⟨z,its,n,r,hl,e⟩:=I.lstM hH;refine call_meets F.slot_list_append ⟨_,e,rfl⟩ F.entry_list_append (F.args_list_append_2 _ _) (PySem.list_append l its.toArray n u (by rw[Jz];omega)) ⟨e, ?_⟩;refine⟨.non,_,I.lset (its':=its++[u]) hH e (by simp) (r.append (.cons ru .nil)) ?_,rfl,q⟩;rw[Yl,List.length_singleton];omega
theorem len_rep{Z:Type}(xs:List Z)(k:Nat):(List.replicate k xs).flatten.length=k * xs.length:=by
 induction k with
 | zero=>simp
 | succ k ih=>rw[List.replicate_succ,List.flatten_cons,Yl,ih,Nat.succ_mul,Nat.add_comm]
end
section
variable{prog:Program}{w:World}{A:Around}{E:ZW}{s:Shared}
end
section
variable{X:Cx}
end
end L2
namespace Att
open PySem PySem.W PySem.Calls PyProof.Rows
theorem B0{P:Params}{h:Heap}:∀(ns:ZL) (vs:ZM),WellAll P h vs (ns.map WData.int)->IntsAre vs ns:=by
 intro ns
 induction ns with
 | nil =>
  intro vs w;rw[List.map_nil]at w;cases w;exact .nil
 | cons n ns ih =>
  intro vs w;rw[Vm]at w;cases w with
  | cons a b =>
   cases a;exact .cons _ _ (ih _ b)
theorem X2{l:OpenLaw}{n:Nat}(hn:l.most=some n){P:Params}{h:Heap}{args:List WData}{vals:ZM}
  (i9:l.row.toRowW.claim.pre args=true) (hwl:WellAll P h vals args) :
  ∃a vs ns,vals=[Value.ref a]/\args=[WData.list (ns.map WData.int)]/\h.get? a=some { cls:=.type "list",data:=.seq vs.toArray }/\IntsAre vs ns/\ns.length<=n:=by
 have hsh:WShape.hasAll [] args [.list .int]=true:=(pre_splitW i9).1;have hc:l.pre.holds [] { args:=args }=true:=(pre_splitW i9).2;obtain⟨d,r,rfl,h1,h2⟩:=hasAllW_cons hsh;obtain rfl:=hasAllW_nil h2;obtain⟨xs,rfl,h3⟩:=hasW_list h1;obtain⟨ns,rfl⟩:=items_int h3
 have hlen:ns.length<=n:=by
  unfold OpenLaw.pre at hc
  have h4:(WTm.not (.lt (.lit (.int (n:Int))) (.len (.arg 0)))).holds [] { args:=[.list (ns.map .int)] }=true:=by
   have h4:=(holds_andW hc).1;rw[hn]at h4;exact h4
  have h5:=condW_of h4 (w_not (w_lt w_lit (w_len_list (w_arg rfl))));rw[Zn]at h5;refine Nat.le_of_not_lt fun q=>?_;have q':(n:Int)<((ns.length:Nat):Int):=by omega
  first
   | (rw[Ub q']at h5;exact absurd h5 (by decide))
   | (simp at h5;omega)
 cases hwl with
 | cons w1 w2 =>
  cases w2;cases w1 with
  | list ho hall=>exact⟨_,_,ns,rfl,rfl,ho,B0 ns _ hall,hlen⟩
theorem zv(l:OpenLaw)(args:List WData):l.row.toRowW.claim.post args (.bool true) args=true :=
 postW_of (r:=l.row.toRowW) (X:=(true == true))
  (show WShape.has [] (.bool true) .bool=true by first | rfl | decide | simp[WShape.has,WShape.arms,WShape.armsAll])
  (show (WTm.eq .res (.lit (.bool true))).value [] { args:=args,res:=some (.bool true),after:=args }=some (.bool (true == true)) from w_eq_bool (w_res rfl) w_lit) rfl
theorem Sn{l:OpenLaw}{n:Nat}{q:Program}{loose:ZD}{XP:(ZV)->Heap->Prop}{YP:World->Heap->Prop}{d:DefRec}
  (hn:l.most=some n) (hdf:d.params.defaults=[])
  (call:∀(w:World) (s₀ s₁:Shared) (mg mb:ZV) (fa:Addr) (o:Obj) (pm cd doc:Value) (a:Addr) (vs:ZM) (ns:ZL),
   Ground q loose [] XP w s₀ mg mb s₁.heap->YP w s₁.heap ->
   s₁.heap.get? fa=some o->o.data=.func (docDef d.name d.params d.body d.scope pm cd doc)->s₁.heap.CodeRec cd d.name->mg d.name=some (.ref fa) ->
   s₁.heap.get? a=some { cls:=.type "list",data:=.seq vs.toArray }->IntsAre vs ns->ns.length<=n->s₁.gens=#[] ->
   codeAny (model l.prog w) callerA (.call (.ref fa) ⟨[.ref a],[]⟩) (fun r s'=>r=.ok (.ret (.bool true))/\OldK s₁.heap s'.heap/\s'.os=s₁.os/\AllBare s'.gens) s₁) :
  WalkO q loose XP YP l.row.toRowW d [] (fun f vs=>PySem.call f vs):=by
 intro w s₀ s₁ mg mb G Y fa o pm cd doc dV kV ho hd Ou hD hmg hg args vals as i9 hlay hrd hwl hlo;obtain rfl:dV=.none:=Dflts.none hD hdf;obtain rfl:kV=.none:=Dflts.noKw hD;obtain⟨a,vs,ns,rfl,rfl,hobj,hints,hlen⟩:=X2 hn i9 hwl;refine enter_call (codeAny_mono (call w s₀ s₁ mg mb fa o pm cd doc a vs ns G Y ho (fd_plain hd) Ou hmg hobj hints hlen hg) fun r s' hq=>?_);obtain⟨rfl,h2,h3,h4⟩:=hq;exact⟨.inl ⟨.bool true,.bool true,[],rfl,fun _=>rfl,.bool true,zv l _,fun _=>⟨List.Pairwise.nil,fun _ hm=>(nomatch hm)⟩⟩,h2,h3,h4⟩
section
variable{prog:Program}{w:World}{A:Around}{E:ZW}{s:Shared}{K:Frag}
end
end Att
namespace L2
open PySem PySem.Spec PyProof.Rows
theorem Nr:∀{vs:ZM} {ns:ZL},IntsAre vs ns->Zk (ns.map V.int) vs
 | _,_,.nil=>.nil
 | _,_,.cons n t h=>.cons ⟨t,rfl⟩ (Nr h)
def Only(H:Hp):Prop:=∀b,H b=none\/∃o xs,H b=some (.frz o (.lst xs))
theorem gi{P:Program}{w:World}{K:W.Frag}{mg mb:ZV}{CX:Hb}{k:Nat}{fa a:Addr}{fd:FuncData}{x:Str}{sp:Sp}{s₁:Shared}{vs:ZM}{ns:ZL}
  (KX:K.In s₁.heap) (nk:s₁.heap.Ns mainGlobals mg) (hb:s₁.heap.Ns builtinsNs mb) (hbb:∀x:Str,x ≠ "__name__" -> mb x=bootBuiltins x) (hlim:s₁.heap.NoLimit) (hg:s₁.gens=#[])
  (ha:s₁.heap.get? a=some { cls:=.type "list",data:=.seq vs.toArray }) (hi:IntsAre vs ns) (hl:ns.length<=sizeLine) (hr:Vo k callerA)
  (F:∀base:Heap,K.In base->base.Ns mainGlobals mg->U9 P w K mg base CX k fa fd [x] sp) (hbind:∀(s:Shared) (u:Value),BindsTo s fd ⟨[u],[]⟩ [(x,u)])
  (ny:∀H:Hp,Only H->Ud K H a (ns.map V.int)->sp [.ref a] H (fun v _=>v=.bl true) fun _ _ _=>False)
  (hCX:∀H e s',CX [] H s₁ (fun _ _ _=>False) e s'->False) :
  codeAny (model P w) callerA (.call (.ref fa) ⟨[.ref a],[]⟩) (fun r s'=>r=.ok (.ret (.bool true))/\OldK s₁.heap s'.heap/\s'.os=s₁.os/\AllBare s'.gens) s₁:=by
 have rv:=Nr hi;have lenV:=hi.length
 have core:∀H:Hp,Only H->Ud K H a (ns.map V.int)->Mm P w H s₁.heap->(∀b,H b≠none->b=a)->(H a≠none->K.lookup a=none) ->
   codeAny (model P w) callerA (.call (.ref fa) ⟨[.ref a],[]⟩) (fun r s'=>r=.ok (.ret (.bool true))/\OldK s₁.heap s'.heap/\s'.os=s₁.os/\AllBare s'.gens) s₁:=by
  intro H hO hS hok hA hK;have Tr:∀{b:Addr} {o:Obj},s₁.heap.get? b=some o->H b=none->(Fc s₁.heap H).get? b=some o:=fun e n=>bu e n
  have noA:∀{b:Addr} {o:Obj} {es:Array DictEntry} {ep:Nat},s₁.heap.get? b=some o->o.data=.dict es ep->H b=none:=fun {b o es ep} e d=>by
   cases q:H b with
   | none=>rfl
   | some u =>
    have e':b=a:=hA b (by rw[q];simp);subst e';rw[ha]at e;cases e;have d':Data.seq vs.toArray _=Data.dict es ep:=d;cases d'
  have nsK:∀{b:Addr} {m:ZV},s₁.heap.Ns b m->(Fc s₁.heap H).Ns b m:=fun {b m} ⟨o,es,ep,e,d,r⟩=>⟨o,es,ep,Tr e (noA e d),d,r⟩
  have hKb:K.In (Fc s₁.heap H):=fun b o e=>Tr (KX b o e) (by
   cases q:H b with
   | none=>rfl
   | some u =>
    have e':b=a:=hA b (by rw[q];simp);subst e';rw[hK (by rw[q];simp)]at e;cases e)
  have hM:Mod K mg (Fc s₁.heap H):=⟨hKb,nsK nk,⟨mb,nsK hb,hbb⟩,let ⟨mc,h1,h2⟩:=hlim;⟨mc,nsK h1,h2⟩⟩;have e0:Hk P w K mg (Fc s₁.heap H) callerA [] s₁ H:=⟨rfl,hM,fun b o e=>oa e,Nat.le_of_eq (xw _ _),trivial,fun b hb=>absurd (show b∈([]:ZU) from hb) (by simp),hok,.of_eq hg⟩;refine codeAny_mono ((F _ hKb (nsK nk)).run callerA [] s₁ H ⟨[.ref a],[]⟩ [.ref a] [.ref a] _ _ hr e0 (hbind s₁ (.ref a)) (.cons rfl .nil) (ny H hO hS)) fun r s' h=>?_;cases r with
  | error e=>exact(hCX H e s' h).elim
  | ok fl =>
   cases fl with
   | next=>exact False.elim h
   | brk=>exact False.elim h
   | cont=>exact False.elim h
   | ret u =>
    obtain⟨v,H',os,bare,un,hok',r',q⟩:=h;have q':v=.bl true:=q;subst q';obtain rfl:u=Value.bool true:=r';refine⟨rfl,OldK.of_keep fun b o e=>?_,os,bare⟩;cases q:H b with
    | none=>exact un.keep b o e q (by intro z;exact absurd (show b∈([]:ZU) from z) (by simp)) (by simp)
    | some u =>
     rcases hO b with z | ⟨ob,xs,z⟩
     .rw[q]at z;cases z
     .have z2:=un.frzs b ob _ z;obtain⟨e1,_⟩:=hok b _ z;obtain⟨e2,_⟩:=hok' b _ z2;rw[e]at e1;cases e1;exact e2
 cases hk:K.lookup a with
 | some o =>
  have e:=KX a o hk;rw[ha]at e;cases e;refine core (fun _=>none) (fun _=>.inl rfl) (.inr ⟨_,vs.toArray,_,hk,rfl,rfl,rfl,by rw[Jz,lenV];exact hl,by simpa using rv⟩) (fun b u z=>by have z':(none:Option HO)=some u:=z;cases z') (fun b z=>absurd rfl z) fun z=>absurd rfl z
 | none =>
  refine core (fun b=>if b=a then some (.frz { cls:=.type "list",data:=.seq vs.toArray } (.lst (ns.map V.int))) else none) (fun b=>?_) (.inl (.inr ⟨{ cls:=.type "list",data:=.seq vs.toArray },if_pos rfl⟩)) (fun b u z=>?_) (fun b z=>?_) fun _=>hk
  .by_cases hb:b=a
   .exact .inr ⟨_,_,if_pos hb⟩
   .exact .inl (if_neg hb)
  .by_cases hb:b=a
   .have z':=(if_pos hb).symm.trans z;cases z';subst hb;exact⟨ha,by rw[Zn];exact hl,vs,_,rv,ha⟩
   .have z':=(if_neg hb).symm.trans z;cases z'
  .by_cases hb:b=a
   .exact hb
   .exact absurd (if_neg hb) z
theorem n6{l:W.OpenLaw}{n k:Nat}{q:Program}{loose:ZD}{XP:(ZV)->Heap->Prop}{YP:World->Heap->Prop}{d:DefRec}{K:Params->W.Frag}{CX:World->Hb}{sp:World->Sp}{x:Str}
  (hn:l.most=some n) (hn2:n<=sizeLine) (hdf:d.params.defaults=[]) (hr:Vo k callerA)
  (hY:∀(w:World) (h:Heap),YP w h->(K w.params).In h)
  (F:∀(w:World) (mg:ZV) (fa:Addr) (h:Heap),(K w.params).In h->h.Ns mainGlobals mg->mg d.name=some (.ref fa) ->
   ∃fd:FuncData,(∀(s:Shared) (u:Value),BindsTo s fd ⟨[u],[]⟩ [(x,u)]) /\
    ∀base:Heap,(K w.params).In base->base.Ns mainGlobals mg->U9 l.prog w (K w.params) mg base (CX w) k fa fd [x] (sp w))
  (ny:∀(w:World) (H:Hp) (a:Addr) (ns:ZL),ns.length<=n->Only H->Ud (K w.params) H a (ns.map V.int)->sp w [.ref a] H (fun v _=>v=.bl true) fun _ _ _=>False)
  (hCX:∀(w:World) (H:Hp) (s:Shared) (e:Value) (s':Shared),CX w [] H s (fun _ _ _=>False) e s'->False) :
  W.WalkO q loose XP YP l.row.toRowW d [] (fun f vs=>PySem.call f vs):=by
 refine Att.Sn hn hdf fun w s₀ s₁ mg mb fa o pm cd doc a vs ns G Y ho hd Ou hmg hobj hints hlen hg=>?_;have KX:=hY w _ Y;obtain⟨fd,hb,hF⟩:=F w mg fa _ KX G.T.g hmg;exact gi KX G.T.g G.T.b G.T.builtins G.T.nolimit hg hobj hints (Ut hlen hn2) hr hF hb (fun H hO hS=>ny w H a ns hlen hO hS) fun H e s'=>hCX w H s₁ e s'
abbrev qk:Hb:=fun _ _ _ _ _ _=>False
abbrev E0:XK:=fun _ _ _=>False
theorem Zxu{X:Cx}:Hx qk X E0:=fun _ _ _ _ _ _ _ h=>h.elim
structure Fun(K:W.Frag)(x qual:Str)(st:Stmt)(f:Addr)(fd:FuncData):Prop where
 ex:∃(oc:Value) (od:ZP) (kV doc pm:Value) (an:ZP) (cdv ct:Value) (osl:ZF),
  fd=W.fnOf x qual (Uu st) (Ym st) (Zw st) .none kV doc pm an cdv ct/\K.lookup f=some ⟨oc,od,.func fd,osl⟩/\W.codeIn K cdv qual=true
 kp:W.keepIn K (.ref f)=true
section
variable{P:Program}{w:World}{K:W.Frag}{mg:ZV}{base:Heap}
theorem Fun.ok{x qual:Str}{st:Stmt}{f:Addr}{fd:FuncData}{N ps:ZD}{k:Nat}{sp:Sp}(F:Fun K x qual st f fd)(S:Gg N ps (Zw st))(len:∀vs H Q E,sp vs H Q E->vs.length=ps.length)
  (Oa:∀(cdv:Value) (A:Around) (outer:List Env) (s:Shared) (H:Hp) (vs:ZQ) (Q:VK) (E:XK),Vo k (A.deeper (envOfC qual (Zw st) s.heap.objs.size f cdv))->sp vs H Q E ->
   ∃t,Tu (O9 qk P w K mg base N qual (Zw st) f cdv A outer s H E).nox (Ym st) t/\t { nx:=fun _ H'=>Q .non H',rt:=Q } (start N vs) H):U9 P w K mg base qk (k+1) f fd ps sp:=by
 obtain⟨oc,od,kV,doc,pm,an,cdv,ct,osl,rfl,lk,Ou⟩:=F.ex;refine Zqz lk Ou S len fun A outer s H vs Q E hr ny=>?_;obtain⟨t,h,q⟩:=Oa cdv A outer s H vs Q E hr ny;exact⟨t,h.nox,q⟩
theorem Fun.binds{x qual:Str}{st:Stmt}{f:Addr}{fd:FuncData}{ps:ZD}(F:Fun K x qual st f fd)
  (h:∀(kV doc pm:Value) (an:ZP) (cdv ct:Value) (us:ZM),us.length=ps.length->bindArgs (W.fnOf x qual (Uu st) (Ym st) (Zw st) .none kV doc pm an cdv ct) ⟨us,[]⟩=pure (ps.zip us)):Binds K fd ps []:=by
 obtain⟨oc,od,kV,doc,pm,an,cdv,ct,osl,rfl,lk,Ou⟩:=F.ex;exact .all (h kV doc pm an cdv ct)
theorem Zb{x qual:Str}{st:Stmt}{f:Addr}{oc:Value}{od an:ZP}{osl:ZF}{kV doc pm cdv ct:Value}(l:K.lookup f=some ⟨oc,od,.func (W.fnOf x qual (Uu st) (Ym st) (Zw st) .none kV doc pm an cdv ct),osl⟩)
  (c:W.codeIn K cdv qual=true) (k:W.keepIn K (.ref f)=true):Fun K x qual st f (W.fnOf x qual (Uu st) (Ym st) (Zw st) .none kV doc pm an cdv ct):=⟨⟨oc,od,kV,doc,pm,an,cdv,ct,osl,rfl,l,c⟩,k⟩
end
section
variable{X:Cx}
end
theorem iteF{A B:Prop}(h:B):if false=true then A else B:=by
 rw[if_neg Nt];exact h
theorem iu{A B:Prop}(h:A):if true=true then A else B:=by
 rw[if_pos rfl];exact h
def Zp(H H':Hp):Prop:=∀b o,H b=some o->H' b=some o
theorem Zp.refl(H:Hp):Zp H H:=fun _ _ h=>h
theorem Zp.trans{H H1 H2:Hp}(a:Zp H H1)(b:Zp H1 H2):Zp H H2:=fun c o h=>b c o (a c o h)
theorem Zp.free{H H':Hp}(e:Zp H H'){l:Addr}(h:H' l=Option.none):H l=Option.none:=by
 cases q:H l with
 | none=>rfl
 | some o =>
  rw[e l o q]at h;cases h
theorem Zp.seq{K:W.Frag}{H H':Hp}{a:Addr}{xs:ZQ}(e:Zp H H')(h:Ud K H a xs):Ud K H' a xs:=by
 rcases h with (h | ⟨o,h⟩) | h
 .exact .inl (.inl (e _ _ h))
 .exact .inl (.inr ⟨o,e _ _ h⟩)
 .exact .inr h
section
variable{X:Cx}{XY:ZY}{Z:St}{H:Hp}{s:Shared}
end
theorem rcEq_V{A:Around}{s:Shared}{y x:V}{u v:Value}(ry:RelV y u)(rx:RelV x v)(fy:Bt y=true)(fx:Bt x=true):SeqAt.RcAt A s u v ((nh y x)):=by
 cases y with
 | non =>
  cases ry;cases x with
  | non=>cases rx;exact SeqAt.RcAt.none_none
  | bl b=>cases rx;exact SeqAt.RcAt.none_bool b
  | int b=>obtain⟨t,rfl⟩:=rx;exact SeqAt.RcAt.none_int b t
  | str b=>obtain⟨t,rfl⟩:=rx;exact SeqAt.RcAt.none_str b t
  | _=>exact absurd (show false=true from fx) Nt
 | bl a =>
  cases ry;cases x with
  | non=>cases rx;exact SeqAt.RcAt.bool_none a
  | bl b=>cases rx;exact SeqAt.RcAt.bool_bool a b
  | int b=>obtain⟨t,rfl⟩:=rx;exact SeqAt.RcAt.bool_int a b t
  | str b=>obtain⟨t,rfl⟩:=rx;exact SeqAt.RcAt.bool_str a b t
  | _=>exact absurd (show false=true from fx) Nt
 | int a =>
  obtain⟨t',rfl⟩:=ry;cases x with
  | non=>cases rx;exact SeqAt.RcAt.int_none a t'
  | bl b=>cases rx;exact SeqAt.RcAt.int_bool a t' b
  | int b=>obtain⟨t,rfl⟩:=rx;exact SeqAt.RcAt.int_int a t' b t
  | str b=>obtain⟨t,rfl⟩:=rx;exact SeqAt.RcAt.int_str a t' b t
  | _=>exact absurd (show false=true from fx) Nt
 | str a =>
  obtain⟨t',rfl⟩:=ry;cases x with
  | non=>cases rx;exact SeqAt.RcAt.str_none a t'
  | bl b=>cases rx;exact SeqAt.RcAt.str_bool a t' b
  | int b=>obtain⟨t,rfl⟩:=rx;exact SeqAt.RcAt.str_int a t' b t
  | str b=>obtain⟨t,rfl⟩:=rx;exact SeqAt.RcAt.str_str a t' b t
  | _=>exact absurd (show false=true from fx) Nt
 | _=>exact absurd (show false=true from fy) Nt
theorem rcNe_V{A:Around}{s:Shared}{y x:V}{u v:Value}(ry:RelV y u)(rx:RelV x v)(fy:Bt y=true)(fx:Bt x=true):SeqAt.RcNeAt A s u v (!(nh y x)):=by
 cases y with
 | non =>
  cases ry;cases x with
  | non=>cases rx;exact SeqAt.RcNeAt.none_none
  | bl b=>cases rx;exact SeqAt.RcNeAt.none_bool b
  | int b=>obtain⟨t,rfl⟩:=rx;exact SeqAt.RcNeAt.none_int b t
  | str b=>obtain⟨t,rfl⟩:=rx;exact SeqAt.RcNeAt.none_str b t
  | _=>exact absurd (show false=true from fx) Nt
 | bl a =>
  cases ry;cases x with
  | non=>cases rx;exact SeqAt.RcNeAt.bool_none a
  | bl b=>cases rx;exact SeqAt.RcNeAt.bool_bool a b
  | int b=>obtain⟨t,rfl⟩:=rx;exact SeqAt.RcNeAt.bool_int a b t
  | str b=>obtain⟨t,rfl⟩:=rx;exact SeqAt.RcNeAt.bool_str a b t
  | _=>exact absurd (show false=true from fx) Nt
 | int a =>
  obtain⟨t',rfl⟩:=ry;cases x with
  | non=>cases rx;exact SeqAt.RcNeAt.int_none a t'
  | bl b=>cases rx;exact SeqAt.RcNeAt.int_bool a t' b
  | int b=>obtain⟨t,rfl⟩:=rx;exact SeqAt.RcNeAt.int_int a t' b t
  | str b=>obtain⟨t,rfl⟩:=rx;exact SeqAt.RcNeAt.int_str a t' b t
  | _=>exact absurd (show false=true from fx) Nt
 | str a =>
  obtain⟨t',rfl⟩:=ry;cases x with
  | non=>cases rx;exact SeqAt.RcNeAt.str_none a t'
  | bl b=>cases rx;exact SeqAt.RcNeAt.str_bool a t' b
  | int b=>obtain⟨t,rfl⟩:=rx;exact SeqAt.RcNeAt.str_int a t' b t
  | str b=>obtain⟨t,rfl⟩:=rx;exact SeqAt.RcNeAt.str_str a t' b t
  | _=>exact absurd (show false=true from fx) Nt
 | _=>exact absurd (show false=true from fy) Nt
section
variable{X:Cx}
end
abbrev c9:ZW:=fun _ _=>False
def Hr(ifs:ZC)(env:Env):Sem Bool :=
 forIn ifs true fun c r=>if r=true then (isTrue c env (eval c env) >>= fun b=>pure (ForInStep.yield b)) else pure (ForInStep.yield r)
section
variable(prog:Program)(w:World)(A:Around)(tg elt:Expr)(ifs:ZC)(env:Env)(it acc:Value)
def TurnEnd(nxt:Shared->Prop)(ok:Bool)(s:Shared):Prop :=
 if ok=true then wpAny (model prog w) A (eval elt env) (fun y s1=>wpAny (model prog w) A (call (.builtin "list.append") [acc,y]) (fun _ s2=>nxt s2) c9 s1) c9 s else nxt s
def cz(nxt:Shared->Prop)(v:Value)(s:Shared):Prop :=
 wpAny (model prog w) A (letOwnedTupleGo tg it v) (fun _ s1=>wpAny (model prog w) A (assign tg env v) (fun _ s2=>wpAny (model prog w) A (Hr ifs env) (TurnEnd prog w A elt env acc nxt) c9 s2) c9 s1) c9 s
end
theorem Qb{prog:Program}{w:World}{A:Around}{R:Result->Shared->Prop}{s:Shared}{elt tg iter:Expr}{ifs:ZC}{scope:Scope}{pos:Pos}{it acc:Value}{env:Env}(W:Nat->Shared->Prop)
  (turn:∀m s1,W m s1->wpAny (model prog w) A (pyNext it) (fun r s2=>r.elim (R (.ok .next) s2) fun v=>cz prog w A tg elt ifs env it acc (fun s3=>∃m',m'<m/\W m' s3) v s2) c9 s1)
  (m:Nat) (start:W m s):codeAny (model prog w) A (.compLoop (.ListComp elt [⟨tg,iter,ifs,0⟩] scope pos) 0 it acc env) R s:=by
 refine codeAny_loop rfl W (fun k s1 hw=>?_) m start;refine wpAny_noted (env:=env) (m:=compTurn (.ListComp elt [⟨tg,iter,ifs,0⟩] scope pos) 0 it acc env) ?_;rw[compTurn_list];refine Za (wpAny_standAt (Za (wpAny_mono (turn k s1 hw) (fun r s2 q=>?_) fun _ _ z=>z.elim)));cases r with
 | none=>exact V1 q
 | some v =>
  have q:cz prog w A tg elt ifs env it acc (fun s3=>∃m',m'<k/\W m' s3) v s2:=q;refine Za (wpAny_mono q (fun _ s3 q3=>Za (wpAny_mono q3 (fun _ s4 q4=>Za (wpAny_mono q4 (fun ok s5 q5=>?_) fun _ _ z=>z.elim)) fun _ _ z=>z.elim)) fun _ _ z=>z.elim);cases ok with
  | false=>exact V1 ⟨rfl,q5⟩
  | true=>exact Za (Za (wpAny_mono q5 (fun y s6 q6=>Za (wpAny_mono q6 (fun _ s7 q7=>V1 (V1 ⟨rfl,q7⟩)) fun _ _ z=>z.elim)) fun _ _ z=>z.elim))
noncomputable def Yb(env:Env):ZK->List (Str×Addr)->List (Str×Addr)
 | [],cs=>cs
 | (n,k)::r,cs=>Yb env r (if k == .free then (n,(env.cells.lookup n).getD 0)::cs else cs)
noncomputable def Z3(X:Cx)(scope:Scope)(N:ZD)(fp:ZU)(s:Shared)(H:Hp):Cx :=
 { X with N:=N,s₀:=s,H₀:=H,env:=compEnvC scope (Yb X.env scope.names []) s.heap.objs.size X.env,outer:=X.stack,stack:=X.stack,ex:=fp,fn:=fun _=>false,pn:=[],xe:=c9 }
structure Hf(X:Cx)(scope:Scope)(N:ZD)(fr:ZG):Prop where
 clos:closureFor scope X.env=pure (Yb X.env scope.names [])
 kind:scope.kind=.function
 nocell:∀y∈scope.names,y.2≠.cell
 names:∀y∈scope.names,y.2=.local->scope.names.lookup y.1=some .local
 cells:∀x c,(Yb X.env scope.names []).lookup x=some c->X.env.cells.lookup x=some c
 has:∀x,((relabel scope X.env).names.lookup x=some .cell\/(relabel scope X.env).names.lookup x=some .free)->∃c,(Yb X.env scope.names []).lookup x=some c
 len:fr.length=N.length
 fr:∀(i j:Nat),fr[i]?=some (some j)->∃x,N[i]?=some x/\X.N[j]?=some x/\Vis X.env.scope x/\¬ X.env.kindOf x=some .local/\((relabel scope X.env).names.lookup x=some .cell\/(relabel scope X.env).names.lookup x=some .free)
noncomputable def frees(fr:ZG)(Z:St):St:=fr.map fun o=>o.bind fun i=>(Z[i]?).bind id
theorem J0(fr:ZG)(Z:St):(frees fr Z).length=fr.length:=Zn _
theorem xg{fr:ZG}{Z:St}{i:Nat}{v:V}(h:(frees fr Z)[i]?=some (some v)):∃j,fr[i]?=some (some j)/\Z[j]?=some (some v):=by
 unfold frees at h;rw[Bo]at h;cases e:fr[i]? with
 | none=>rw[e]at h;cases h
 | some o =>
  rw[e]at h;cases o with
  | none=>cases h
  | some j =>
   refine⟨j,rfl, ?_⟩;have h':(Z[j]?).bind id=some v:=D8 h;cases e2:Z[j]? with
   | none=>rw[e2]at h';cases h'
   | some o2=>rw[e2]at h';exact congrArg some h'
theorem Bb{scope:Scope}{env:Env}{x:Str}{k:NameKind}(h:(relabel scope env).names.lookup x=some k):∃k0,(x,k0)∈scope.names/\(k=k0\/(k0=.free/\k=.cell)):=by
 have hm:=PySem.mem_of_lookup h;obtain⟨⟨n,k0⟩,h1,h2⟩:=Ra.mp (show (x,k)∈scope.names.map _ from hm);dsimp only at h2
 split at h2
 .rename_i hc
  cases h2;simp only[Y8,beq_iff_eq]at hc;exact⟨k0,h1,.inr ⟨hc.1.1,rfl⟩⟩
 .cases h2;exact⟨k,h1,.inl rfl⟩
noncomputable def E2(outer scope:Scope):Bool :=
 decide (scope.kind=.function) && scope.names.all fun y=>decide (y.2≠.cell) && (decide (y.2≠.local) || decide (scope.names.lookup y.1=some .local)) &&
  (decide (y.2≠.free) || decide (outer.names.lookup y.1=some .cell) || decide (outer.names.lookup y.1=some .free))
noncomputable def J2(NX:ZD)(names:ZK):ZD->ZG->Bool
 | [],[]=>true
 | _::N,none::fr=>J2 NX names N fr
 | x::N,some j::fr=>decide (NX[j]?=some x) && decide (names.lookup x=some .free) && J2 NX names N fr
 | _,_=>false
theorem M6{NX:ZD}{names:ZK}:∀{N:ZD} {fr:ZG},J2 NX names N fr=true->fr.length=N.length
 | [],[],_=>rfl
 | [],_::_,h=>by simp[J2]at h
 | _::_,[],h=>by simp[J2]at h
 | x::N,none::fr,h=>by
  simp only[J2]at h;simp only[Yo,M6 h]
 | x::N,some j::fr,h=>by
  simp only[J2,Y8]at h;simp only[Yo,M6 h.2]
theorem Jb{NX:ZD}{names:ZK}:∀{N:ZD} {fr:ZG} {i j:Nat},J2 NX names N fr=true->fr[i]?=some (some j)->∃x,N[i]?=some x/\NX[j]?=some x/\names.lookup x=some .free
 | [],[],_,_,_,e=>by simp at e
 | [],_::_,_,_,h,_=>by simp[J2]at h
 | _::_,[],_,_,h,_=>by simp[J2]at h
 | x::N,none::fr,0,_,_,e=>by simp at e
 | x::N,none::fr,i+1,j,h,e=>by
  simp only[J2]at h;obtain⟨y,h1,h2⟩:=Jb (i:=i) h (by simpa using e);exact⟨y,by simpa using h1,h2⟩
 | x::N,some k::fr,0,j,h,e=>by
  simp only[J2,Y8,decide_eq_true_eq]at h;simp at e;subst e;exact⟨x,rfl,h.1.1,h.1.2⟩
 | x::N,some k::fr,i+1,j,h,e=>by
  simp only[J2,Y8]at h;obtain⟨y,h1,h2⟩:=Jb (i:=i) h.2 (by simpa using e);exact⟨y,by simpa using h1,h2⟩
theorem Vu{f:Str->NameKind->NameKind}(x:Str):∀names:ZK,(names.map fun p=>(p.1,f p.1 p.2)).lookup x=(names.lookup x).map (f x)
 | []=>rfl
 | (n,k)::r=>by
  have ih:=Vu (f:=f) x r;cases e:x == n with
  | false =>
   simp only[Vm,List.lookup_cons,e];exact ih
  | true =>
   have e':x=n:=by simpa using e
   simp only[Vm,List.lookup_cons,e,Option.map_some];rw[e']
theorem D3(scope:Scope)(env:Env):(relabel scope env).names=scope.names.map fun p=>(p.1,if (p.2 == NameKind.free && env.scope.kind == .function && env.kindOf p.1 == some .cell)=true then NameKind.cell else p.2):=by
 show scope.names.map _=_;refine List.map_congr_left fun p _=>?_;obtain⟨n,k⟩:=p;dsimp only
 split<;>rfl
theorem Dp{scope:Scope}{env:Env}{x:Str}(h:scope.names.lookup x=some .free):(relabel scope env).names.lookup x=some .cell\/(relabel scope env).names.lookup x=some .free:=by
 rw[D3,Vu (f:=fun n k=>if (k == NameKind.free && env.scope.kind == .function && env.kindOf n == some .cell)=true then NameKind.cell else k),h];dsimp only[Option.map_some]
 split
 .exact .inl rfl
 .exact .inr rfl
theorem C6{env:Env}:∀{names:ZK} {cs:List (Str×Addr)},(∀y∈names,y.2=.free->∃c,env.cells.lookup y.1=some c)->(∀p∈cs,env.cells.lookup p.1=some p.2)->∀p∈Yb env names cs,env.cells.lookup p.1=some p.2
 | [],cs,_,hc,p,hp=>hc p hp
 | (n,k)::r,cs,hn,hc,p,hp=>by
  simp only[Yb]at hp;refine C6 (fun y hy=>hn y (Vi _ hy)) (fun q hq=>?_) p hp
  split at hq
  .rename_i hk
   rcases Y6.mp hq with e | hq
   .obtain⟨c,nr⟩:=hn (n,k) Ye (by simpa using hk);subst e;dsimp only at nr ⊢;rw[nr]
    rfl
   .exact hc q hq
  .exact hc q hq
theorem C5{env:Env}:∀{names:ZK} {cs:List (Str×Addr)} {p:Str×Addr},p∈cs->p∈Yb env names cs
 | [],_,_,h=>h
 | (n,k)::r,cs,p,h=>by
  simp only[Yb];refine C5 ?_
  split
  .exact Vi _ h
  .exact h
theorem C7{env:Env}:∀{names:ZK} {cs:List (Str×Addr)} {x:Str},(x,NameKind.free)∈names->∃c,(x,c)∈Yb env names cs
 | (n,k)::r,cs,x,h=>by
  rcases Y6.mp h with e | h
  .cases e;exact⟨_,by simp only[Yb,B0s,if_true];exact C5 Ye⟩
  .simp only[Yb];exact C7 h
theorem D4{Z:Type}:∀{l:List (Str×Z)} {x:Str} {b:Z},(x,b)∈l->∃c,l.lookup x=some c
 | (n,c)::r,x,b,h=>by
  cases hx:x == n with
  | true=>exact⟨c,by simp only[List.lookup_cons,hx]⟩
  | false =>
   rcases Y6.mp h with e | h
   .cases e;simp at hx
   .obtain⟨d,hd⟩:=D4 h;exact⟨d,by simp only[List.lookup_cons,hx];exact hd⟩
theorem Wv{scope:Scope}{env:Env}(h:∀y∈scope.names,y.2=.free->∃c,env.cells.lookup y.1=some c):closureFor scope env=pure (Yb env scope.names []):=by
 have go:∀(names:ZK) (cs:List (Str×Addr)),(∀y∈names,y.2=.free->∃c,env.cells.lookup y.1=some c) ->
   (forIn names cs fun x cs=>(do
    if x.2 == NameKind.free then pure (ForInStep.yield ((x.1, <-cellOf env x.1)::cs)) else pure (ForInStep.yield cs):Sem (ForInStep (List (Str×Addr)))))=pure (Yb env names cs):=by
  intro names
  induction names with
  | nil=>intro cs _;rfl
  | cons y r ih =>
   intro cs hn;obtain⟨n,k⟩:=y;have hr:∀y∈r,y.2=.free->∃c,env.cells.lookup y.1=some c:=fun y hy=>hn y (Vi _ hy);rw[List.forIn_cons];by_cases hk:k=.free
   .subst hk;obtain⟨c,hc⟩:=hn (n,.free) Ye rfl
    have ec:cellOf env n=pure c:=by
     unfold cellOf;dsimp only at hc;rw[hc]
    simp only[B0s,if_true,ec,pure_bind,Yb];rw[ih _ hr];dsimp only at hc;rw[hc]
    rfl
   .have hb:(k == NameKind.free)=false:=by simpa using hk
    simp only[hb,Bool.false_eq_true,if_false,pure_bind,Yb];exact ih _ hr
 have:=go scope.names [] h;unfold closureFor;simp only[bind_pure_comp]at this ⊢
 first
  | exact this
  | (simpa using this)
structure Q3(X:Cx)(NX:ZD)(outer scope:Scope)(N:ZD)(fr:ZG):Prop where
 nx:X.N=NX
 sc:X.env.scope.names=outer.names
 ok1:E2 outer scope=true
 ok2:J2 NX scope.names N fr=true
theorem Q3.ok{X:Cx}{NX:ZD}{outer scope:Scope}{N:ZD}{fr:ZG}(C:Q3 X NX outer scope N fr)(ok:X.Ok):Hf X scope N fr:=by
 have h1:=C.ok1;unfold E2 at h1;simp only[Y8,decide_eq_true_eq,x9,Bool.or_eq_true]at h1;obtain⟨hk,hn⟩:=h1
 have kof:∀x,X.env.kindOf x=outer.names.lookup x:=fun x=>by
  show X.env.scope.names.lookup x=_;rw[C.sc]
 have Oc:∀y∈scope.names,y.2=.free->X.env.kindOf y.1=some .cell\/X.env.kindOf y.1=some .free:=fun y hy e=>by
  rcases(hn y hy).2 with (z | z) | z
  .exact absurd e z
  .exact .inl ((kof _).trans z)
  .exact .inr ((kof _).trans z)
 have Oh:∀y∈scope.names,y.2=.free->∃c,X.env.cells.lookup y.1=some c:=fun y hy e=>ok.has y.1 (Oc y hy e);refine⟨Wv Oh,hk,fun y hy=>(hn y hy).1.1,fun y hy e=>?_,fun x c e=>?_,fun x h=>?_,M6 C.ok2,fun i j e=>?_⟩
 .rcases(hn y hy).1.2 with z | z
  .exact absurd e z
  .exact z
 .exact C6 Oh (fun p hp=>by cases hp) (x,c) (PySem.mem_of_lookup e)
 .have hm:(x,NameKind.free)∈scope.names:=by
   rcases h with h | h
   .obtain⟨k0,h1,h2⟩:=Bb h;rcases h2 with h2 | ⟨h2,_⟩
    .exact absurd h2.symm (hn _ h1).1.1
    .subst h2;exact h1
   .obtain⟨k0,h1,h2⟩:=Bb h;rcases h2 with h2 | ⟨_,h2⟩
    .subst h2;exact h1
    .cases h2
  obtain⟨c,hc⟩:=C7 (env:=X.env) (cs:=[]) hm;exact D4 hc
 .obtain⟨x,q1,q2,q3⟩:=Jb C.ok2 e;have hm:=PySem.mem_of_lookup q3;have hf:=Oc (x,.free) hm rfl;refine⟨x,q1,by rw[C.nx];exact q2, ?_, ?_,Dp q3⟩
  .exact .inr hf
  .intro z;dsimp only at hf;rw[z]at hf;rcases hf with hf | hf<;>cases hf
section
variable{X:Cx}{scope:Scope}{N:ZD}{fr:ZG}{XY:ZY}{Z:St}{H:Hp}{s:Shared}{fp:ZU}
theorem fk(C:Hf X scope N fr)(I:Inv X XY Z H s)(hf:∀b∈fp,Nm X XY H b)(hob:∀b∈fp,∃o,s.heap.get? b=some o){h1:Heap}{tk:Nat}
  (nk:h1.Ns s.heap.objs.size fun _=>none) (hk:∀b o,s.heap.get? b=some o->h1.get? b=some o) :
  Inv (Z3 X scope N fp s H) [] (frees fr Z) H { s with heap:=h1,toks:=tk }:=by
 have lt:∀b∈fp,b<s.heap.objs.size:=fun b hb=>let ⟨_,e⟩:=hob b hb;Vh e;have cellK:∀x c,(Yb X.env scope.names []).lookup x=some c->∃v,s.heap.IsCell c v:=fun x c e=>I.cell x c (C.cells x c e);have ck:∀c v,s.heap.IsCell c v->h1.IsCell c v:=fun c v ⟨o,e,d⟩=>⟨o,hk c o e,d⟩
 refine⟨⟨I.ok.mod,C.kind,I.ok.glob,I.ok.blt,Z5 _,fun x y c e1 e2=>I.ok.inj x y c (C.cells x c e1) (C.cells y c e2),fun x h=>C.has x h,fun x c h _=>absurd h Nt,I.ok.hd,I.ok.frames,.inl rfl,
   fun b hb=>⟨Ba (lt b hb),fun x c e=>(hf b hb).2.2.2.2.1 x c (C.cells x c e)⟩,I.bs,Ut I.ok.bsz I.sz,fun b o e hb=>?_,fun b hb hb'=>?_,I.stack,I.stkFree⟩,
  rfl,I.bare,Un.kept hk,⟨_,nk,fun i x v e1 e2 e3=>?_⟩,fun x c e=>?_,I.hok.fresh (Z5 _),fun x c e=>I.freeC x c (C.cells x c e),fun p hp=>absurd (show p∈([]:ZY) from hp) (by simp),I.hok.kept hk, ?_⟩
 .rcases(hf b hb).2.2.2.1 with z | z
  .exact I.ok.noex b o e z
  .exact absurd (Ru (Vh (I.ok.bs b o e).1) z) (Nat.lt_irrefl _)
 .rcases Y6.mp (I.stkSub b hb') with z | z
  .exact(hf b hb).2.1 z
  .exact(hf b hb).2.2.1 z
 .obtain⟨j,q1,q2⟩:=xg e2;obtain⟨x',n1,n2,vis,nl,k⟩:=C.fr i j q1;have ex:x=x':=D8 (e1.symm.trans n1);subst ex;obtain⟨m,hm,hl⟩:=I.loc;obtain⟨u,r,l⟩:=hl j x v n2 q2 vis;refine⟨u,r, ?_⟩;rcases l with ⟨l1,_⟩ | ⟨_,c,l2,l3⟩
  .exact absurd l1 nl
  .obtain⟨c',nr⟩:=C.has x k;have ec:=C.cells x c' nr;rw[l2]at ec;have ec':c=c':=D8 ec;subst ec';exact .inr ⟨k,c,nr,ck c _ l3⟩
 .obtain⟨v,z⟩:=cellK x c e;exact⟨v,ck c v z⟩
 .show (frees fr Z).length=N.length;rw[J0,C.len]
theorem Kn(I:Inv X XY Z H s)(hf:∀b∈fp,Nm X XY H b){σ':St}{H':Hp}{s':Shared}(J:Inv (Z3 X scope N fp s H) [] σ' H' s'):Inv X XY Z H' s' :=
 I.call' (ch:=fp) J.os J.base J.hok J.bare fun b hb=>⟨(hf b hb).2.2.2.1,(hf b hb).2.1,(hf b hb).2.2.2.2.1,(hf b hb).2.2.2.2.2⟩
end
def PTs(X:Cx)(ifs:ZC)(t:TT):Prop :=
 ∀(XY:ZY) (s:Shared) (Z:St) (H:Hp) (Q:Bool->Hp->Prop),Inv X XY Z H s->t Z H Q ->
  wpAny (model X.prog X.w) X.A (Hr ifs X.env) (TP X XY Z Q) X.xe s
def Ho:TT:=fun _ H Q=>Q true H
theorem Al{X:Cx}:PTs X [] Ho:=fun _ _ _ H _ I h=>wpAny_tests_nil ⟨H,I,h⟩
theorem An{X:Cx}{c:Expr}{t:TT}(h:PT X c t):PTs X [c] t:=fun XY s Z H Q I hw=>wpAny_tests_one (h XY s Z H Q I hw)
def Zqi(J:It)(g:TG)(tt:TT)(te:TE)(D:Addr)(W:Nat->Nat->ZQ->St->Hp->Prop)(fin:Hp->Prop):Prop :=
 ∀i m ys Z H,W i m ys Z H->H D=some (.lst ys)/\((J.stop i H/\fin H)\/(J.go i H/\∃N:ZQ->St->Hp->Prop,(∀ys' σ' H',N ys' σ' H'->∃m',m'<m/\W (i+1) m' ys' σ' H') /\
  ∀x H',J.yld i H x H'->g x Z H' fun σ2 H2=>tt σ2 H2 fun ok H3 =>
   if ok=true then te σ2 H3 fun y H4=>H4 D=some (.lst ys)/\ys.length<sizeLine/\N (ys++[y]) σ2 (upd H4 D (.lst (ys++[y]))) else N ys σ2 H3))
abbrev DG:=ZU->Shared->Hp->TG
abbrev DT:=ZU->Shared->Hp->TT
abbrev DE:=ZU->Shared->Hp->TE
def wb(wi:TI)(fr:ZG)(g:DG)(tt:DT)(te:DE):TE:=fun Z H Q=>wi Z H fun J H1=>∀D fp sx,H1 D=none ->
 ∃W:Nat->Nat->ZQ->St->Hp->Prop,(∃m,W 0 m [] (frees fr Z) (upd H1 D (.lst [])))/\Zqi J (g fp sx (upd H1 D (.lst []))) (tt fp sx (upd H1 D (.lst []))) (te fp sx (upd H1 D (.lst []))) D W (fun H=>Q (.ref D) H)
section
variable{X:Cx}{scope:Scope}{N:ZD}{fr:ZG}{tg elt iter:Expr}{ifs:ZC}{pos:Pos}{wi:TI}{g:DG}{tt:DT}{te:DE}
theorem Sz{XY:ZY}{Z:St}{s2:Shared}{it:Addr}{fp:ZU}{tn:Nat->Heap->Prop}{J:It}{H2:Hp}{RR:Value->Addr->Result->Shared->Prop}{E:ZW}
  (hc:X.calm=true) (C:Hf X scope N fr)
  (hg:∀fp s H,PG (Z3 X scope N fp s H) tg (g fp s H)) (ht:∀fp s H,PTs (Z3 X scope N fp s H) ifs (tt fp s H)) (he:∀fp s H,PE (Z3 X scope N fp s H) elt (te fp s H))
  (I2:Inv X XY Z H2 s2) (T:Turn X.prog X.w X.K tg J fp it tn) (st2:tn 0 s2.heap) (f2:∀b∈fp,Nm X XY H2 b) {fin:Addr->Hp->Prop}
  (hW:∀D fp sx,H2 D=none->∃W:Nat->Nat->ZQ->St->Hp->Prop,(∃m,W 0 m [] (frees fr Z) (upd H2 D (.lst [])))/\Zqi J (g fp sx (upd H2 D (.lst []))) (tt fp sx (upd H2 D (.lst []))) (te fp sx (upd H2 D (.lst []))) D W (fin D))
  (ba:∀D Cc s' σ' H' m,Inv X XY Z H' s'->H' Cc=none->Cc≠X.env.locals->Cc ∉ X.fs->X.s₀.heap.objs.size<=Cc->(∀x c,X.env.cells.lookup x=some c->c≠Cc)->(∀p∈X.pn++XY,p.1≠Cc)->s'.heap.Ns Cc m->fin D H' ->
   RR (.ref D) Cc (.ok σ') s') :
  wpAny (model X.prog X.w) X.A (newList []) (fun acc s₃=>wpAny (model X.prog X.w) X.A (newFunctionEnv scope X.env.globals (Yb X.env scope.names []) [] X.env.qual none .none (some X.env)) (fun cenv s₄ =>
   codeAny (model X.prog X.w) X.A (.compStart (.ListComp elt [⟨tg,iter,ifs,0⟩] scope pos) 0 (.ref it) acc { cenv with scope:=relabel scope X.env }) (RR acc cenv.locals) s₄) E s₃) E s2:=by
 refine wpAny_newObj_type (wpAny_newFunctionEnv C.nocell (by intro y hy;simp at hy) (fun h₁ hns₁ hsb₁=>?_) C.kind);dsimp only at hns₁ hsb₁ ⊢
 have I3:Inv X XY Z (upd H2 s2.heap.objs.size (.lst [])) { s2 with heap:=s2.heap.push { cls:=.type "list",dict:=none,data:=.seq ([]:ZM).toArray } } :=
  I2.laid (t':=s2.toks) (fun b o e=>Vs _ e) (Z5 _) ⟨Bw _,[],0,.nil,Bv _ rfl⟩
 have hD:H2 s2.heap.objs.size=none:=I2.hok.fresh (Z5 _);obtain⟨W,⟨m0,w0⟩,turn⟩:=hW _ fp { s2 with heap:=s2.heap.push { cls:=.type "list",dict:=none,data:=.seq ([]:ZM).toArray } } hD;generalize hDD:s2.heap.objs.size=D at *;generalize hS3:({ s2 with heap:=s2.heap.push { cls:=.type "list",dict:=none,data:=.seq ([]:ZM).toArray } }:Shared)=S3 at *;have hS3h:s2.heap.push { cls:=.type "list",dict:=none,data:=.seq ([]:ZM).toArray }=S3.heap:=by rw[<-hS3]
 rw[hS3h]at hns₁ hsb₁ ⊢;have obj2:=T.obj 0 _ st2
 have nD:∀b∈fp,b≠D:=fun b hb z=>by
  obtain⟨o,e,_⟩:=obj2 b hb;have q:=Vh e;rw[hDD,z]at q;exact absurd q (Nat.lt_irrefl _)
 have f3:∀b∈fp,Nm X XY (upd H2 D (.lst [])) b:=fun b hb=>⟨by rw[Zz (nD b hb)];exact(f2 b hb).1,(f2 b hb).2⟩
 have ob3:∀b∈fp,∃o,S3.heap.get? b=some o:=fun b hb=>by
  obtain⟨o,e,_⟩:=obj2 b hb;exact⟨o,by rw[<-hS3h];exact Vs _ e⟩
 have st3:tn 0 S3.heap:=T.keep _ _ _ st2 fun b hb o e=>by rw[<-hS3h];exact Vs _ e
 have hk1:∀b o,S3.heap.get? b=some o->h₁.get? b=some o:=fun b o e=>hsb₁.extBut b o (Ba (Vh e)) (Vs _ e);have J1:Inv (Z3 X scope N fp S3 (upd H2 D (.lst []))) [] (frees fr Z) (upd H2 D (.lst [])) { S3 with heap:=h₁,toks:=s2.toks+([]:List (Str×Value)).length }:=fk C I3 f3 ob3 hns₁ hk1;have st4:tn 0 h₁:=T.keep _ _ _ st3 fun b hb o e=>hk1 b o e;have es:({ s2 with heap:=h₁,toks:=s2.toks+([]:List (Str×Value)).length }:Shared)={ S3 with heap:=h₁,toks:=s2.toks+([]:List (Str×Value)).length }:=by rw[<-hS3]
 have FpC:∀{H':Hp},(∀b∈fp,H' b=none)->∀b∈fp,Nm (Z3 X scope N fp S3 (upd H2 D (.lst []))) [] H' b:=fun hn b hb =>
  ⟨hn b hb,(J1.ok.exf b hb).1,J1.ok.exfs b hb,.inl hb,(J1.ok.exf b hb).2,fun p hp=>absurd (show p∈([]:ZY) from hp) (by simp)⟩
 have loop:codeAny (model X.prog X.w) X.A (.compLoop (.ListComp elt [⟨tg,iter,ifs,0⟩] scope pos) 0 (.ref it) (.ref D) (Z3 X scope N fp S3 (upd H2 D (.lst []))).env) (RR (.ref D) S3.heap.objs.size)
   { S3 with heap:=h₁,toks:=s2.toks+([]:List (Str×Value)).length }:=by
  refine Qb (fun n s'=>∃i ys σ' H',Inv (Z3 X scope N fp S3 (upd H2 D (.lst []))) [] σ' H' s'/\tn i s'.heap/\(∀b∈fp,H' b=none)/\W i n ys σ' H') ?_ m0 ⟨0,[],_,_,J1,st4,fun b hb=>(f3 b hb).1,w0⟩;rintro n s5 ⟨i,ys,σ5,H5,J5,st5,fr5,w5⟩;obtain⟨hDl,alt⟩:=turn i n ys σ5 H5 w5;rcases alt with ⟨stop,fi⟩ | ⟨go,NN,hNN,step⟩
  .refine Yz (T.done (Z3 X scope N fp S3 (upd H2 D (.lst []))) rfl rfl rfl hc i [] s5 σ5 H5 c9 J5 (FpC fr5) st5 stop) fun r s6 ⟨hr,J6⟩=>?_;subst hr;show RR (.ref D) S3.heap.objs.size (.ok .next) s6;have I6:=Kn I3 f3 J6;obtain⟨mm,hmm,_⟩:=J6.loc;refine ba D _ s6 _ H5 mm I6 J6.free ?_ ?_ ?_ ?_ ?_ hmm fi
   .exact Nat.ne_of_gt I3.lt
   .exact I3.nofs (Z5 _)
   .exact I3.sz
   .intro x c e z;obtain⟨v,q⟩:=I3.cell x c e;exact absurd q.lt (by rw[z];exact Nat.lt_irrefl _)
   .intro p hp z;exact absurd (Vh (I3.pin p hp).1) (by rw[z];exact Nat.lt_irrefl _)
  .refine Yz (T.item (Z3 X scope N fp S3 (upd H2 D (.lst []))) rfl rfl rfl hc i [] s5 σ5 H5 c9 J5 (FpC fr5) st5 go) fun r s6 ⟨u,hr,h6⟩=>?_;subst hr;refine Yz (Q:=_) h6 fun _ s7 ⟨x,H7,J7,r7,y7,st7,fr7⟩=>?_;have J7':=J7.pinned (FpC fr7) (T.obj _ _ st7)
   have back:∀{σ9:St} {H9:Hp} {s9:Shared},Inv (Z3 X scope N fp S3 (upd H2 D (.lst []))) ([]++Cv fp s7.heap) σ9 H9 s9->tn (i+1) s9.heap/\∀b∈fp,H9 b=none:=fun {σ9 H9 s9} J9 =>
    ⟨T.keep _ _ _ st7 fun b hb o e=>(J9.pin (b,o) (Ta _ (Ta _ (Ji hb e)))).1,fun b hb=>by
     obtain⟨o,e,d⟩:=T.obj _ _ st7 b hb;exact(J9.pin (b,o) (Ta _ (Ta _ (Ji hb e)))).2.1⟩
   refine Yz (hg fp S3 _ _ s7 σ5 H7 x u _ J7' r7 (step x H7 y7)) fun _ s8 ⟨σ8,H8,J8,q8⟩=>?_;refine Yz (ht fp S3 _ _ s8 σ8 H8 _ J8 q8) fun ok s9 ⟨H9,J9,q9⟩=>?_;cases ok with
   | false =>
    rw[if_neg Nt]at q9;unfold TurnEnd;rw[if_neg Nt];obtain⟨m',hm,w9⟩:=hNN _ _ _ q9;exact⟨m',hm,i+1,ys,σ8,H9,J9.unpinned,(back J9).1,(back J9).2,w9⟩
   | true =>
    rw[if_pos rfl]at q9;unfold TurnEnd;rw[if_pos rfl];refine Yz (he fp S3 _ _ s9 σ8 H9 _ J9 q9) fun yv s10 ⟨y,H10,J10,r10,hD10,hz,n10⟩=>?_;obtain⟨m',hm,w10⟩:=hNN _ _ _ n10;refine Yz (Wi (X:=Z3 X scope N fp S3 (upd H2 D (.lst []))) _ s10 σ8 H10 (.ref D) [y] (.ref D) [yv] (fun _ H'=>H'=upd H10 D (.lst (ys++[y]))) J10 rfl (.cons r10 .nil) ⟨D,ys,y,rfl,rfl,hD10,hz,rfl⟩) fun _ s11 ⟨v11,H11,J11,_,e11⟩=>?_;subst e11;exact⟨m',hm,i+1,ys++[y],σ8,_,J11.unpinned,(back J11).1,(back J11).2,w10⟩
 rw[es];exact codeAny_compStart_list loop (T.self _ 0 _ _ _ st4 loop)
theorem ah{NX:ZD}{outer:Scope}(hc:X.calm=true)(hi:PI X tg iter wi)(C:Q3 X NX outer scope N fr)
  (hg:∀fp s H,PG (Z3 X scope N fp s H) tg (g fp s H)) (ht:∀fp s H,PTs (Z3 X scope N fp s H) ifs (tt fp s H)) (he:∀fp s H,PE (Z3 X scope N fp s H) elt (te fp s H))
  (hs:∀x,foldedSetIterable iter X.env x=pure x:=by intro _;rfl):PE X (.ListComp elt [⟨tg,iter,ifs,0⟩] scope pos) (wb wi fr g tt te):=by
 intro XY s Z H Q I h;have C:=C.ok I.ok;rw[eval_ListComp];refine wpAny_comprehension_free (use:=none) rfl hs C.clos C.kind C.names (Yz (hi XY s Z H _ I h) fun v s1 h1=>Yz h1 fun itv s2 h2=>?_);obtain⟨it,fp,tn,J,H2,e,I2,T,st2,f2,hW⟩:=h2;subst e;refine Sz (RR:=fun acc Cc=>compPost (model X.prog X.w) X.A X.xe none (EP X XY Z Q) acc Cc) hc C hg ht he I2 T st2 f2 hW ?_;intro D Cc s' fl H' m I' f0 f1 f2' f3 f4 f5 nk fi;refine⟨m,nk,fun h' sb=>?_⟩;exact⟨.ref D,H',I'.turned (t':=s'.toks) (fun b o hb e=>(sb.2 b hb).trans e) f0 f1 (.inr f3) f4 f5,rfl,fi⟩
theorem Kz{NX:ZD}{outer:Scope}{i:Nat}{x:Str}{pos' Y9:Pos}(hN:X.N.Nodup)(hix:X.N[i]?=some x)(hx:Loc X.env.scope x)(hc:X.calm=true)(hi:PI X tg iter wi)(C:Q3 X NX outer scope N fr)
  (hg:∀fp s H,PG (Z3 X scope N fp s H) tg (g fp s H)) (ht:∀fp s H,PTs (Z3 X scope N fp s H) ifs (tt fp s H)) (he:∀fp s H,PE (Z3 X scope N fp s H) elt (te fp s H))
  (hsw:swapsWith (.ListComp elt [⟨tg,iter,ifs,0⟩] scope pos) (some (.Name x pos')) Y9.line X.env=pure true:=by rfl)
  (hs:∀x,foldedSetIterable iter X.env x=pure x:=by intro _;rfl) (hf:X.fn x=true\/X.env.scope.names.lookup x=some .local:=by first | exact .inl rfl | exact .inr rfl | assumption) :
  PS X (.Assign [.Name x pos'] (.ListComp elt [⟨tg,iter,ifs,0⟩] scope pos) Y9) (tAsg (wb wi fr g tt te) (b9 i)):=by
 intro XY s Z H Dd I h;have C:=C.ok I.ok;rw[exec_Assign_Name_used _ _ _ _ hsw];refine Za (wpAny_standAt (Za ?_));show wpAny _ X.A (do let _ <-comprehension (.ListComp elt [⟨tg,iter,ifs,0⟩] scope pos) scope X.env _ (newList []) false (eval iter X.env) (some (assign (.Name x pos') X.env))) _ _ s
 refine Za (wpAny_mono (wpAny_comprehension_free (use:=some (assign (.Name x pos') X.env)) (Q:=fun _ s'=>SP X XY Dd .next s') rfl hs C.clos C.kind C.names
  (Yz (hi XY s Z H _ I h) fun v s1 h1=>Yz h1 fun itv s2 h2=>?_)) (fun _ s' hq=>V1 (V1 hq)) fun _ _ e=>e)
 obtain⟨it,fp,tn,J,H2,e,I2,T,st2,f2,hW⟩:=h2;subst e;refine Sz (RR:=fun acc Cc=>compPost (model X.prog X.w) X.A X.xe (some (assign (.Name x pos') X.env)) (fun _ s'=>SP X XY Dd .next s') acc Cc) hc C hg ht he I2 T st2 f2 hW ?_;intro D Cc s' fl H' m I' f0 f1 f2' f3 f4 f5 nk fi;show wpAny _ X.A (assign (.Name x pos') X.env (.ref D)) _ _ _;refine wpAny_assign_Name (Wn (v:=.ref D) I' hN hix hx rfl (fun s3 I3 ⟨a,sb,ha⟩=>?_) hf)
 have na:Cc≠a:=by
  rcases ha with z | z
  .rw[z];exact f1
  .exact fun q=>f4 x a z q.symm
 refine⟨m,nk.sameBut sb na,fun h' sb'=>?_⟩;exact⟨_,H',I3.turned (t':=s3.toks) (fun b o hb e=>(sb'.2 b hb).trans e) f0 f1 (.inr f3) f4 f5,fi⟩
end
end L2
namespace SetM
open PySem
section
variable{prog:Program}{w:World}{K:Type}[DecidableEq K](knd:KeyKind prog w K)
variable{knd}{A:Around}{E:ZW}{s:Shared}{a:Addr}
end
end SetM
namespace SetM
open PySem PyProof.Rows
section
variable{prog:Program}{w:World}{K:Type}[DecidableEq K]{knd:KeyKind prog w K}
variable{A:Around}{R:Result->Shared->Prop}{I:Addr}{fp wr:ZU}{G:Array GenState->Array GenState->Prop}{n:Nat}{P:Nat->Value->Prop}{St:Nat->Shared->Prop}
end
section
variable{prog:Program}{w:World}{A:Around}{E:ZW}{s:Shared}
variable{K:Type}[DecidableEq K]{knd:KeyKind prog w K}
end
section
variable{prog:Program}{w:World}{A:Around}{E:ZW}{s:Shared}{a:Addr}{o:Obj}{es:Array (Int×Value)}{ep:Nat}{t:SetTable}
end
section
variable{w:World}{a:Addr}{es:Array (Int×Value)}{ep:Nat}{t:SetTable}{h:Heap}{i:Nat}{first:Value}{vs:ZM}
end
section
variable{prog:Program}{w:World}{A:Around}{E:ZW}{s:Shared}{a I:Addr}{o:Obj}{es:Array (Int×Value)}{ep:Nat}{t:SetTable}{i:Nat}{first:Value}{vs:ZM}
end
section
variable{prog:Program}{w:World}{A:Around}{E:ZW}{s:Shared}{a I:Addr}{o:Obj}{es:Array (Int×Value)}{ep:Nat}{t:SetTable}{vs:ZM}
end
section
variable{prog:Program}{w:World}{K:Type}[DecidableEq K]{knd:PySem.KeyKind prog w K}{A:Around}{E:ZW}{s:Shared}{a:Addr}
theorem Vp{h:Heap}{l b:Addr}{vs:ZM}{out:ZN}{ob:Obj}(hb:b≠l)(e:h.get? b=some ob):(sortedHeap h l vs out).get? b=some ob:=by
 rw[sortedHeap_old hb (Vh e)];exact e
end
end SetM
namespace L2
open PySem PySem.Spec PyProof.Rows
theorem Inv.put{X:Cx}{XY:ZY}{Z:St}{H:Hp}{s:Shared}{h':Heap}{a:Addr}{o:HO}{t':Nat}{d':Drawn}(I:Inv X XY Z H s)(k:∀b u,s.heap.get? b=some u->h'.get? b=some u)(hp:s.heap.objs.size<=a)(new:Ze X.prog X.w (upd H a o) h' a o) :
  Inv X XY Z (upd H a o) { s with heap:=h',toks:=t',drawn:=d' } :=
 I.call (g':=s.gens) (t':=t') (d':=d') (ch:=[]) (Un.laid k hp (I.hok.fresh hp)) (I.hok.laid k hp new) I.bare fun b z=>absurd z Vy
section
variable{X:Cx}
theorem Wm:∀{vs:ZM} {ss:ZD},StrsAre vs ss->Zk (ss.map V.str) vs
 | _,_,.nil=>.nil
 | _,_,.cons y t r=>.cons ⟨t,rfl⟩ (Wm r)
end
end L2
namespace ZipL
open PySem PySem.Calls PyProof.Rows PyProof.V PySem.Spec
section
variable{prog:Program}{w:World}{A:Around}{E:ZW}{s:Shared}{z TI TO T i1 i2 l1 l2:Addr}{f:Bool}{oT:Obj}{k1 k2:Nat}{xs ys:ZN}{x y:Value}
end
section
variable{prog:Program}{w:World}{A:Around}{R:Result->Shared->Prop}{E:ZW}{s:Shared}{z TI TO i1 i2 l1 l2 S:Addr}{xs ys:ZN}
end
end ZipL
namespace L2
open PySem PySem.Spec PyProof.Rows
section
variable{X:Cx}{XY:ZY}{Z:St}{H H':Hp}{s:Shared}{h':Heap}
theorem Inv.lays{t':Nat}(I:Inv X XY Z H s)(k:∀b u,s.heap.get? b=some u->h'.get? b=some u)(old:∀b,b<s.heap.objs.size->H' b=H b)
  (new:∀b o,s.heap.objs.size<=b->H' b=some o->Ze X.prog X.w H' h' b o):Inv X XY Z H' { s with heap:=h',toks:=t' }:=by
 have up:∀b o,H b=some o->H' b=some o:=fun b o e=>by rw[old b (I.hok.lt e)];exact e
 refine I.un ⟨fun b o e _ _ _=>k b o e,fun b o e _ _ _=>⟨o.slots,k b o e⟩,fun b o e n _=>by rw[old b (Vh e)];exact n,fun b o e _=>⟨o,k b o e⟩,fun b xs e=>up b _ e,fun b o u e=>up b _ e,fun b ps e=>⟨#[],by rw[up b _ e];simp⟩⟩ fun b o e=>?_;by_cases hb:b<s.heap.objs.size
 .rw[old b hb]at e;exact(I.hok b o e).stay (fun c u _ q=>k c u q) (fun c q=>up c _ q) fun c xs q=>up c _ q
 .exact new b o (Nat.le_of_not_lt hb) e
end
section
variable{X:Cx}{x y:Str}{p p2 pos Y9:Pos}{a b:Expr}{t:TA}
theorem Eh{ss:ZD}:∀{us:ZM},Zk (ss.map V.str) us->StrsAre us ss:=by
 induction ss with
 | nil=>intro us r;cases r;exact .nil
 | cons x xs ih =>
  intro us r;cases r with
  | cons e t =>
   obtain⟨tk,rfl⟩:=e;exact .cons x tk (ih t)
inductive Ab(K:W.Frag)(x:V)(vs:ZQ)(H:Hp)(Q:VK):Prop
 | mk(sep:Str)(p:Addr)(ss:ZD)(Vg:x=.str sep)(Vb:vs=[.ref p])(Jg:Ud K H p (ss.map V.str))(S8:(ss.map (·.length)).sum+ss.length * sep.length<=16777216)(h4_:Q (.str (Txt.join sep ss)) H):Ab K x vs H Q
def rJoin(K:W.Frag):V->ZQ->Hp->VK->Prop:=fun x vs H Q=>Ab K x vs H Q
theorem o7:MtM X "str.join" (rJoin X.K):=by
 intro XY s Z H x vs v us Q I rx rv h;obtain⟨sep,p,ss,rfl,rfl,hq,hz,q⟩:=h;obtain⟨t,rfl⟩:=rx;obtain⟨u,rfl,ru⟩:=rv.one;cases ru;obtain⟨its,r,pl,_⟩:=I.list hq;exact join_list pl.isList (Eh r) hz fun t' k=>⟨.str _,H,I.tok _,⟨t',rfl⟩,q⟩
end
def Fn(P:Program)(w:World)(K:W.Frag)(mg:ZV)(base:Heap)(k:Nat)(x:Str)(ps:ZD)(sp:Sp):Prop :=
 ∃f fd,U9 P w K mg base qk k f fd ps sp/\Binds K fd ps []/\W.keepIn K (.ref f)=true/\mg x=some (.ref f)
section
variable{X:Cx}{k:Nat}{x:Str}{ps:ZD}{sp:Sp}{p pos:Pos}{e:Expr}{es:ZC}{t:TA}
theorem ku(G:Fn X.prog X.w X.K X.mg X.base k x ps sp)(hr:Vo k X.A)(hg:Gl X x)(ha:PA X (e::es) t)(hdb:(x == ("__debug__" : Str))=false:=by decide)
  (he:starEach (e::es) X.env=(false,eval e X.env)::starEach es X.env:=by rfl) (W5:(backTo pos (starEach es X.env)).any (·.1)=false:=by rfl) :
  PE X (.Call (.Name x p) (e::es) [] pos) (Zxb sp [] E0 t):=by
 obtain⟨f,fd,F,b,kp,m⟩:=G;exact aa F hr hg m kp b .nil Zxu ha hdb he W5
theorem U9.any{P:Program}{w:World}{K:W.Frag}{mg:ZV}{base:Heap}{CX:Hb}{k:Nat}{f:Addr}{fd:FuncData}{ps:ZD}{ι:Type}{C:ι->Prop}{sp:ι->Sp}(h:∀i,C i->U9 P w K mg base CX k f fd ps (sp i)) :
  U9 P w K mg base CX k f fd ps (fun vs H Q E=>∃i,C i/\sp i vs H Q E) :=
 ⟨fun vs H Q E ⟨i,c,q⟩=>(h i c).len vs H Q E q,fun A outer s H args us vs Q E hr he hb hv ⟨i,c,q⟩=>(h i c).run A outer s H args us vs Q E hr he hb hv q⟩
end
def Up(K:W.Frag)(H H':Hp):Prop:=∀a xs,Vc K H a xs->Vc K H' a xs
theorem Up.refl{K:W.Frag}(H:Hp):Up K H H:=fun _ _ h=>h
theorem Up.trans{K:W.Frag}{H H1 H2:Hp}(a:Up K H H1)(b:Up K H1 H2):Up K H H2:=fun c xs h=>b c xs (a c xs h)
theorem Zp.up{K:W.Frag}{H H':Hp}(e:Zp H H'):Up K H H':=fun a xs h=>by
 rcases h with (h | ⟨o,h⟩) | h
 .exact .inl (.inl (e _ _ h))
 .exact .inl (.inr ⟨o,e _ _ h⟩)
 .exact .inr h
theorem Zp.put{H H1:Hp}{p:Addr}{o:HO}(e:Zp H H1)(h:H p=none):Zp H (upd H1 p o):=fun b u q=>by
 rw[Zz (Z2 q h)];exact e b u q
theorem Em{K:W.Frag}{H:Hp}{p:Addr}{o:HO}{ys:ZQ}(h:H p=some (.lst ys)):Up K H (upd H p o):=fun c xs q=>by
 have ne:∀u,H c=some u->(∀ys,u≠.lst ys)->c≠p:=fun u e n z=>by
  rw[z,h]at e;cases e;exact n _ rfl
 rcases q with (q | ⟨u,q⟩) | q
 .exact .inl (.inl (by rw[Zz (ne _ q fun _ z=>nomatch z)];exact q))
 .exact .inl (.inr ⟨u,by rw[Zz (ne _ q fun _ z=>nomatch z)];exact q⟩)
 .exact .inr q
section
variable{X:Cx}
theorem ko{T:String}{x:Str}{pos:Pos}(hg:Gl X x)(hm:X.mg x=none)(hv:bootBuiltins x=some (.type T))(hn:x ≠ "__name__" := by decide)(hd:(x == ("__debug__" : Str))=false:=by decide) :
  PE X (.Name x pos) (tC (.ty T)):=ao hg hm hv rfl hn hd
end
end L2
namespace DctE
open PySem PySem.SeqAt PySem.MeetsSeq
open PySem.AutoSeq1 (wpAny_loadPart')
end DctE
namespace L2
open PySem PySem.Spec PyProof.Rows
section
variable{X:Cx}{XY:ZY}{Z:St}{H H':Hp}{s:Shared}{h':Heap}
theorem Inv.turnLay{t':Nat}{fp:ZU}{a:Addr}{o:HO}(I:Inv X XY Z H s)(k:∀b u,b ∉ fp->s.heap.get? b=some u->h'.get? b=some u)(hf:∀b∈fp,Nm X XY H b)(hp:s.heap.objs.size<=a)(new:Ze X.prog X.w (upd H a o) h' a o) :
  Inv X XY Z (upd H a o) { s with heap:=h',toks:=t' }:=by
 have hn:=I.hok.fresh hp
 have nf:∀b u,H b=some u->b ∉ fp:=fun b u e m=>by
  have z:=(hf b m).1;rw[e]at z;cases z
 have na:∀b u,s.heap.get? b=some u->b≠a:=fun b u e=>Ba (Ru (Vh e) hp)
 refine I.call (g':=s.gens) (d':=s.drawn) (ch:=fp) ⟨fun b u e _ _ hx=>k b u hx e,fun b u e _ _ hx=>⟨u.slots,k b u hx e⟩,fun b u e n _=>by rw[Zz (na b u e)];exact n,fun b u e hx=>⟨u,k b u hx e⟩,
  fun b xs e=>by rw[Zz (Z2 e hn)];exact e,fun b ob u e=>by rw[Zz (Z2 e hn)];exact e,fun b ps e=>⟨#[],by rw[Zz (Z2 e hn)];simp[e]⟩⟩ (fun b u e=>?_) I.bare
  fun b hb=>⟨(hf b hb).2.2.2.1,(hf b hb).2.1,(hf b hb).2.2.2.2.1,(hf b hb).2.2.2.2.2⟩
 by_cases hb:b=a
 .subst hb;rw[Zq]at e;cases e;exact new
 .rw[Zz hb]at e;refine(I.hok b u e).stay (fun c v hc q=>k c v ?_ q) (fun c q=>by rw[Zz (Z2 q hn)];exact q) fun c xs q=>by rw[Zz (Z2 q hn)];exact q
  rcases hc with z | z
  .rw[z];exact nf b u e
  .exact nf c _ z
theorem Inv.turnL{t':Nat}{fp:ZU}(I:Inv X XY Z H s)(k:∀b u,b ∉ fp->s.heap.get? b=some u->h'.get? b=some u)(hf:∀b∈fp,Nm X XY H b) :
  Inv X XY Z H { s with heap:=h',toks:=t' }:=by
 have nf:∀b u,H b=some u->b ∉ fp:=fun b u e m=>by
  have z:=(hf b m).1;rw[e]at z;cases z
 refine I.call (g':=s.gens) (d':=s.drawn) (ch:=fp) ⟨fun b u e _ _ hx=>k b u hx e,fun b u e _ _ hx=>⟨u.slots,k b u hx e⟩,fun b u e n _=>n,fun b u e hx=>⟨u,k b u hx e⟩,
  fun b xs e=>e,fun b ob u e=>e,fun b ps e=>⟨#[],by simp[e]⟩⟩ (fun b u e=>?_) I.bare
  fun b hb=>⟨(hf b hb).2.2.2.1,(hf b hb).2.1,(hf b hb).2.2.2.2.1,(hf b hb).2.2.2.2.2⟩
 refine(I.hok b u e).stay (fun c v hc q=>k c v ?_ q) (fun c q=>q) fun c xs q=>q;rcases hc with z | z
 .rw[z];exact nf b u e
 .exact nf c _ z
end
section
variable{X:Cx}{pos:Pos}
theorem all_range(bs:List Bool):((List.range bs.length).all fun i=>(bs[i]?).getD true)=bs.all id:=by
 rw[Bool.eq_iff_iff,x9,x9];constructor
 .intro h b hb;obtain⟨i,hi⟩:=List.mem_iff_getElem?.mp hb;have:=h i (List.mem_range.mpr (Nd.mp hi).1);rw[hi]at this;simpa using this
 .intro h i hi;have hi':=List.mem_range.mp hi;rw[Dx hi'];simpa using h _ (G0e hi')
inductive Bl(K:W.Frag)(xs:ZQ)(H:Hp)(Q:VK):Prop
 | mk(p:Addr)(bs:List Bool)(Vg:xs=[.ref p])(Vb:Ud K H p (bs.map V.bl))(Jg:Q (.bl (bs.all id)) H):Bl K xs H Q
theorem xa(hc:X.calm=true):Y7 X (.builtin "all") (fun xs H Q=>Bl X.K xs H Q):=by
 intro XY s Z H xs us Q I r h;obtain⟨p,bs,rfl,hq,q⟩:=h;obtain⟨u,rfl,rx⟩:=vals1 r;cases rx;obtain⟨its,rv,pl,hz⟩:=I.list hq;have hl:=pl.isList;have Kr:p<s.heap.objs.size:=by obtain⟨_,e,_⟩:=hl;exact Vh e
 have hlen:its.toArray.size=bs.length:=by rw[Jz, <-rv.length,Zn]
 refine call_all_walk (wpAny_pyIter_list hl ?_)
 refine⟨s.heap.objs.size,[s.heap.objs.size,p],[s.heap.objs.size],its.toArray.size,_,_,fun i=>(bs[i]?).getD true,rfl,Walks.list (A:=X.A.in1) (I.ok.hd hc) _ p (Ba Kr) its.toArray,
  ⟨⟨_,Bv _ rfl,rfl,rfl⟩,hl.push _⟩,fun i v s' Q' E' hP hQ=>?_,fun h' tk hk=>?_⟩
 .have e0:its[i]?=some v:=by simpa using hP
  have hi:i<bs.length:=by
   have:=(Nd.mp e0).1;rw[Jz]at hlen;omega
  obtain⟨v',e1,e2⟩:=rv.get (i:=i) (x:=V.bl bs[i]) (by rw[Bo,Dx hi];rfl);rw[e0]at e1;cases e1;cases e2;dsimp only at hQ;rw[Dx hi]at hQ;exact wpAny_truthy_bool hQ
 .rw[hlen,all_range];refine⟨.bl _,H,I.kept fun b x e=>hk b x (fun hm=>?_) (Vs _ e),rfl,q⟩;rw[Pz.mp hm]at e;exact Nat.lt_irrefl _ (Vh e)
noncomputable def repS(i:Str)(n:Nat):Str:=⟨(List.replicate n i.cps).foldl (·++·) #[]⟩
theorem v5(a:ZS):∀(n:Nat) (acc:ZS),((List.replicate n a).foldl (·++·) acc).toList=acc.toList++(List.replicate n a.toList).flatten
 | 0,acc=>by simp
 | n+1,acc=>by
  rw[List.replicate_succ,List.foldl_cons,v5 a n (acc++a),List.replicate_succ,List.flatten_cons,Array.toList_append,ZE]
theorem T9(i:Str)(n:Nat):(repS i n).cps.toList=(List.replicate n i.cps.toList).flatten:=by
 show ((List.replicate n i.cps).foldl (·++·) #[]).toList=_;rw[v5]
 rfl
theorem v9(i:Str)(n:Nat):(repS i n).length=n * i.length:=by
 show (repS i n).cps.size=n * i.cps.size;rw[<-qg,T9,len_rep,qg]
inductive Wa(x:V)(y:V)(H:Hp)(Q:VK):Prop
 | mk(i:Str)(n:Int)(Vg:x=.str i)(Vb:y=.int n)(Jg:2<=n)(S8:n<=1000)(h4_:i.length≠0)(h5_:i.length<=1000)(h6_:Q (.str (repS i n.toNat)) H):Wa x y H Q
theorem a8:Dz X (binaryOp .Mult) (fun x y H Q=>Wa x y H Q):=by
 intro XY s Z H x y v u Q I rx ry h;obtain⟨i,n,rfl,rfl,n2,n1,i0,i1,q⟩:=h;obtain⟨t,rfl⟩:=rx;obtain⟨t',rfl⟩:=ry;have c1:¬ n<1:=by omega
 have c2:(n == 1 || i.length == 0)=false:=by
  rw[Bool.or_eq_false_iff];exact⟨B0n.mpr (by omega),B0n.mpr i0⟩
 have hm:i.length * n.toNat<=1000000:=Ut (Nat.mul_le_mul i1 (show n.toNat<=1000 by omega)) (by decide);refine PySem.P.mul_str ?_ (fun _ _=>?_) (fun _ _=>?_) ?_
 .rw[Bool.or_eq_false_iff];exact⟨Dj (by omega),Dj (by omega)⟩
 .intro z;have hn0:(0:Int)<n:=by omega
  have h1:(1000:Int) * n<=2 ^ 63 - 1:=by omega
  have h2:=(Int.le_ediv_iff_mul_le hn0).mpr h1;omega
 .show decide (i.length * n.toNat>sizeLine)=false;exact Dj (Nat.not_lt_of_le (Ut hm (by decide)))
 .rw[if_neg c1,if_neg (by rw[c2];decide)];have hl:(repS i n.toNat).length<=sizeLine:=by rw[v9,Nat.mul_comm];exact Ut hm (by decide)
  exact⟨hl,⟨.str _,H,I.tok _,⟨_,rfl⟩,q⟩⟩
end
def Its(x:Str):It:=⟨fun i _=>i<x.cps.size,fun i H v H'=>H'=H/\∃c,x.cps[i]?=some c/\v=.str ⟨#[c]⟩,fun i _=>x.cps.size<=i⟩
theorem Pg{P:Program}{w:World}{K:PySem.W.Frag}{tg:Expr}(x:Str)(it:Addr)(T:String)(t:Tok)(hT:["enumerate","zip","dict_itemiterator","dict_reverseitemiterator","odict_iterator","itertools.zip_longest","itertools.pairwise"].contains T=false)
  (W:∀A:Around,A.handled=none->Walks P w A it [it] [it] x.cps.size (SignAt x) (fun i h=>h.IsStrIter it T x t i)) (hs:∀(A:Around) (i:Nat) (s:Shared) (Q:ZW) (E:ZW),s.heap.IsStrIter it T x t i->Q (.ref it) s->wpAny (model P w) A (pyIter (.ref it)) Q E s)
  (hd:∀(A:Around) (i:Nat) (s:Shared) (Q:ZT->Shared->Prop) (E:ZW),A.handled=none->x.cps.size<=i->s.heap.IsStrIter it T x t i->(∀h' tk,(∀b o,b≠it->s.heap.get? b=some o->h'.get? b=some o)->Q none { s with heap:=h',toks:=tk })->wpAny (model P w) A (pyNext (.ref it)) Q E s) :
  Turn P w K tg (Its x) [it] it (fun i h=>h.IsStrIter it T x t i) where
 mem:=by simp
 obj:=fun i h st b hb=>by
  have e:b=it:=by simpa using hb
  subst e;obtain⟨o,e,c,d⟩:=st;exact⟨o,e,fun v z=>by rw[d]at z;cases z⟩
 keep:=fun i h h' st k=>let ⟨o,ho,r⟩:=st;⟨o,k it (by simp) o ho,r⟩
 item:=by
  intro X hP hw hK hc i XY s Z H E I hf st hg;subst hP hw hK;obtain⟨f0,f1,f2,f3,f4,f5⟩:=hf it (by simp);refine(W X.A (I.ok.hd hc)).item i s _ _ hg st fun v h' tk hv T4 kk=>?_;obtain⟨c,u,nr,rfl⟩:=hv;have I1:Inv X XY Z H { s with heap:=h',toks:=tk }:=I.turned (fun b o hb e=>kk b o (by simpa using hb) e) f0 f1 f3 f4 f5;obtain⟨o,e,c1,d⟩:=id T4;exact⟨_,rfl,W6 (s:={ s with heap:=h',toks:=tk }) e c1 d hT ⟨.str ⟨#[c]⟩,H,I1,⟨u,rfl⟩,⟨rfl,c,nr,rfl⟩,T4,fun b hb=>(hf b hb).1⟩⟩
 done:=by
  intro X hP hw hK hc i XY s Z H E I hf st hg;subst hP hw hK;obtain⟨f0,f1,f2,f3,f4,f5⟩:=hf it (by simp);exact hd X.A i s _ _ (I.ok.hd hc) hg st fun h' tk eb=>⟨rfl,I.turned (fun b o hb e=>eb b o hb e) f0 f1 f3 f4 f5⟩
 self:=fun A i s Q E st h=>hs A i s Q E st h
inductive bf(R:(It->Hp->Prop))(v:V)(H1:Hp):Prop
 | mk(x)(Vg:v=.str x)(Vb:R (Its x) H1):bf R v H1
def iStr(te:TE):TI:=fun Z H R=>te Z H fun v H1=>bf R v H1
section
variable{X:Cx}{tg l:Expr}{tl:TE}
theorem pi_str(hl:PE X l tl):PI X tg l (iStr tl):=by
 intro XY s Z H R I h;refine Yz (hl XY s Z H _ I h) fun v s1 ⟨v',H1,I1,r1,q1⟩=>?_;obtain⟨x,rfl,q⟩:=q1;obtain⟨t,rfl⟩:=r1
 have fin:∀b∈[s1.heap.objs.size],Nm X XY H1 b:=fun b hb=>by
  have e:b=s1.heap.objs.size:=by simpa using hb
  subst e;exact I1.fpOk (Z5 _) (I1.hok.fresh (Z5 _))
 cases ha:x.cps.all (·<128)
 .refine wpAny_pyIter_wide ha ?_
  exact⟨s1.heap.objs.size,[s1.heap.objs.size],_,_,H1,rfl,I1.kept (t':=s1.toks) fun b o e=>Vs _ e,Pg x _ "str_iterator" t (by decide) (fun A hA=>Walks.strWide hA _ x t) (fun A i s Q E st h=>wpAny_pyIter_striter_wide st h)
   (fun A i s Q E hA hi st h=>wpAny_pyNext_wide_end hA st (by simp[hi]) fun h' he=>h h' s.toks fun b o hb e=>he b o hb e),⟨_,Bv _ rfl,rfl,rfl⟩,fin,q⟩
 .refine wpAny_pyIter_ascii ha ?_
  exact⟨s1.heap.objs.size,[s1.heap.objs.size],_,_,H1,rfl,I1.kept (t':=s1.toks) fun b o e=>Vs _ e,Pg x _ "str_ascii_iterator" t (by decide) (fun A hA=>Walks.strAscii hA _ x t) (fun A i s Q E st h=>wpAny_pyIter_striter_ascii st h)
   (fun A i s Q E hA hi st h=>wpAny_pyNext_ascii_end hA st (by simp[hi]) fun h' he=>h h' s.toks fun b o hb e=>he b o hb e),⟨_,Bv _ rfl,rfl,rfl⟩,fin,q⟩
end
def Itz(K:W.Frag)(l1 l2:Addr):It :=
  ⟨fun i H=>∃xs ys x y,Ud K H l1 xs/\Ud K H l2 ys/\xs[i]?=some x/\ys[i]?=some y,
   fun i H v H'=>∃p x y,v=.ref p/\H p=none/\H'=upd H p (.tup [x,y])/\(∀xs,Ud K H l1 xs->xs[i]?=some x)/\∀ys,Ud K H l2 ys->ys[i]?=some y,
   fun i H=>∃xs ys,Ud K H l1 xs/\Ud K H l2 ys/\(xs.length<=i\/ys.length<=i)⟩
theorem j8{P:Program}{w:World}{K:W.Frag}{es:ZC}{k:Nat}{pos:Pos}(z TI TO i1 i2 l1 l2:Addr)(D:ZipApart z TI TO i1 i2 l1 l2) :
  Turn P w K (.Tuple es k pos) (Itz K l1 l2) [z,TI,TO,i1,i2] z (fun i h=>IsZip h z TI TO .none/\IsPair h TI (.ref i1) (.ref i2)/\(∃a b,IsPair h TO a b)/\h.IsListIter i1 l1 i/\h.IsListIter i2 l2 i) where
 mem:=by simp
 obj:=fun i h st b hb=>by
  obtain⟨hz,Fs,⟨a,c,Oo⟩,⟨o1,e1,_,d1⟩,⟨o2,e2,_,d2⟩⟩:=st;simp only[Y6,Vy,or_false]at hb;rcases hb with rfl | rfl | rfl | rfl | rfl
  .exact⟨_,hz,fun v q=>nomatch q⟩
  .exact⟨_,Fs,fun v q=>nomatch q⟩
  .exact⟨_,Oo,fun v q=>nomatch q⟩
  .exact⟨_,e1,fun v q=>by rw[d1]at q;cases q⟩
  .exact⟨_,e2,fun v q=>by rw[d2]at q;cases q⟩
 keep:=fun i h h' st hk=>by
  obtain⟨hz,Fs,⟨a,b,Oo⟩,h1,h2⟩:=st;exact⟨hk z (by simp) _ hz,hk TI (by simp) _ Fs,⟨a,b,hk TO (by simp) _ Oo⟩,h1.at fun o e=>hk i1 (by simp) o e,h2.at fun o e=>hk i2 (by simp) o e⟩
 item:=by
  intro X hP hw hK hc i XY s Z H E I hf st hg;subst hP hw hK;obtain⟨xs,ys,x,y,q1,q2,g1,g2⟩:=hg;obtain⟨hz,Fs,⟨a,b,Oo⟩,h1,h2⟩:=st;obtain⟨nj,v1,R5,z1⟩:=I.list q1;obtain⟨i4,v2,R4,z2⟩:=I.list q2;obtain⟨u1,e1,r1⟩:=v1.get g1;obtain⟨u2,e2,r2⟩:=v2.get g2;refine wpAny_pyNext_zip_item D hz Fs Oo h1 h2 R5.isList R4.isList (x:=u1) (y:=u2) (by simpa using e1) (by simpa using e2) fun h' a1 a2 a3 a4 a5 a6 hk=>?_;refine⟨_,rfl,wpAny_letOwnedTupleGo_zip (s:={ s with heap:=h' }) a1 fun bo Rl Q6=>?_⟩;have lt:∀{c o},s.heap.get? c=some o->s.heap.objs.size≠c:=fun e=>Nat.ne_of_gt (Vh e);have nz:s.heap.objs.size≠z:=lt hz
  have kk:∀c u,c ∉ [z,TI,TO,i1,i2]->s.heap.get? c=some u->bo.get? c=some u:=fun c u m e=>by
   simp only[Y6,Vy,or_false,not_or]at m;exact Q6.extBut _ _ m.1 (hk c u m.1 m.2.2.1 m.2.2.2.1 m.2.2.2.2 e)
  have fresh:=I.hok.fresh (Z5 s.heap.objs.size);have J:Inv X XY Z (upd H s.heap.objs.size (.tup [x,y])) { s with heap:=bo,toks:=s.toks }:=I.turnLay kk hf (Z5 _) ⟨by show 2<=sizeLine;decide,[u1,u2],.cons r1 (.cons r2 .nil),⟨_,Q6.extBut _ _ nz a5,rfl,⟨_,rfl⟩,rfl⟩⟩;refine⟨.ref s.heap.objs.size,_,J,rfl,⟨_,x,y,rfl,fresh,rfl,fun ws hw=>by rw[I.list_inj hw q1];exact g1,fun ws hw=>by rw[I.list_inj hw q2];exact g2⟩,⟨Rl,Q6.extBut _ _ D.TIz (hk _ _ D.TIz D.TITO D.TIi1 D.TIi2 Fs),⟨_,_,Q6.extBut _ _ D.TOz a2⟩,a3.extBut Q6.extBut D.i1z,a4.extBut Q6.extBut D.i2z⟩,fun c hc=>?_⟩
  have nc:c≠s.heap.objs.size:=fun q=>by
   subst q;simp only[Y6,Vy,or_false]at hc;rcases hc with q | q | q | q | q
   .exact lt hz q
   .exact lt Fs q
   .exact lt Oo q
   .obtain⟨_,e,_⟩:=h1;exact lt e q
   .obtain⟨_,e,_⟩:=h2;exact lt e q
  rw[Zz nc];exact(hf c hc).1
 done:=by
  intro X hP hw hK hc i XY s Z H E I hf st hg;subst hP hw hK;obtain⟨xs,ys,q1,q2,g⟩:=hg;obtain⟨hz,Fs,⟨a,b,Oo⟩,h1,h2⟩:=st;obtain⟨nj,v1,R5,z1⟩:=I.list q1;obtain⟨i4,v2,R4,z2⟩:=I.list q2;have hl1:=v1.length;have bp:=v2.length;refine wpAny_pyNext_zip_end (I.ok.hd hc) D hz Fs Oo h1 h2 R5.isList R4.isList (by rcases g with g | g;exact .inl (by simp;omega);exact .inr (by simp;omega)) fun h' hk=>⟨rfl,I.turnL (t':=s.toks) (fp:=[z,TI,TO,i1,i2]) (fun c u m e=>?_) hf⟩;simp only[Y6,Vy,or_false,not_or]at m;exact hk c u m.1 m.2.2.1 m.2.2.2.1 m.2.2.2.2 e
 self:=fun A i s Q E st h=>wpAny_pyIter_zip st.1 h
inductive bw(K:W.Frag)(R:(It->Hp->Prop))(vs:ZQ)(H1:Hp):Prop
 | mk(p q)(Vg:vs=[.ref p,.ref q])(Vb:(∃xs,Ud K H1 p xs))(Jg:(∃ys,Ud K H1 q ys))(S8:R (Itz K p q) H1):bw K R vs H1
def iZip(K:W.Frag)(t:TA):TI:=fun Z H R=>t Z H fun vs H1=>bw K R vs H1
section
variable{X:Cx}{es:ZC}{k:Nat}{p2 pos Y9:Pos}{a b:Expr}{t:TA}
theorem pi_zip(ee:Gl X "zip")(eg:X.mg "zip" = none)(ha:PA X [a,b] t)
  (he2:starEach [a,b] X.env=(false,eval a X.env)::starEach [b] X.env:=by rfl) (W5:(backTo Y9 (starEach [b] X.env)).any (·.1)=false:=by rfl) :
  PI X (.Tuple es k pos) (.Call (.Name "zip" p2) [a,b] [] Y9) (iZip X.K t):=by
 intro XY s Z H R I h;refine wpAny_Call_Name_kw (U8 I ee eg (by decide +kernel:bootBuiltins "zip" = some (.type "zip")) ?_ (by decide) (by decide));refine callWith_type1 (Yz (ha Y9 XY s Z H _ I h) fun us s1 ⟨vs,H1,I1,r1,q1⟩=>?_) he2 W5;obtain⟨l1,l2,rfl,⟨xs,hx⟩,⟨ys,hy⟩,q⟩:=q1;obtain⟨u1,u2,rfl,e1,e2⟩:=vals2 r1;cases e1;cases e2;obtain⟨nj,v1,R5,z1⟩:=I1.list hx;obtain⟨i4,v2,R4,z2⟩:=I1.list hy;have n1:l1<s1.heap.objs.size:=by obtain⟨_,e,_⟩:=R5.isList;exact Vh e
 have n2:l2<s1.heap.objs.size:=by obtain⟨_,e,_⟩:=R4.isList;exact Vh e
 refine call_zip_2 R5.isList R4.isList fun h2 b1 b2 b3 b4 b5 b6 k2=>?_;refine wpAny_pyIter_zip (s:={ s1 with heap:=h2 }) b1 ?_;have J:Inv X XY Z H1 { s1 with heap:=h2,toks:=s1.toks }:=I1.kept k2;refine⟨_,[s1.heap.objs.size+4,s1.heap.objs.size+2,s1.heap.objs.size+3,s1.heap.objs.size,s1.heap.objs.size+1],_,_,H1,rfl,J,j8 _ _ _ _ _ l1 l2 (zipApart_new n1 n2),⟨b1,b2,⟨_,_,b3⟩,b4,b5⟩,fun c hc=>?_,q⟩
 have ge:s1.heap.objs.size<=c:=by
  simp only[Y6,Vy,or_false]at hc;rcases hc with q | q | q | q | q<;>rw[q]<;>first | exact Z5 _ | exact Nat.le_add_right _ _
 exact I1.fpOk ge (I1.hok.fresh ge)
end
section
variable{X:Cx}
inductive Cf(K:W.Frag)(x:V)(y:V)(H:Hp)(Q:VK):Prop
 | mk(l b zs)(Vg:x=.ref l)(Vb:y=.ref b)(Jg:Vc K H l [])(S8:Vc K H b zs)(h4_:Q (.ref b) H):Cf K x y H Q
theorem gv:Dz X (binaryOp .Add) (fun x y H Q=>Cf X.K x y H Q):=by
 intro XY s Z H x y v u Q I rx ry h;obtain⟨l,b,zs,rfl,rfl,hl,hb,q⟩:=h;cases rx;cases ry;obtain⟨i1,r1,p1,z1⟩:=I.tuple hl;obtain⟨i2,r2,p2,z2⟩:=I.tuple hb;have e1:i1=[]:=by cases r1;rfl
 subst e1;obtain⟨⟨c1,d1,t1,s1⟩,o1,k1,n1,m1⟩:=id p1;obtain⟨⟨c2,d2,t2,s2⟩,o2,k2,n2,m2⟩:=id p2;simp only at k1 m1 k2 m2;subst k1 m1 k2 m2;exact concat_meets ⟨_,o1,rfl⟩ ⟨_,o2,rfl⟩ noFill_tuple_add seq_tuple_add PySem.F.slot_tuple_add PySem.F.entry_tuple_add (PySem.F.args_tuple_add_2 _ _) (tuple_addW0 l b _ _ n1 n2 d1 d2 s1 s2 rfl) ⟨o1,o2,⟨.ref b,H,I,rfl,q⟩⟩
end
end L2
namespace HT
open PySem PySem.Spec PyProof.Rows
section
variable{prog:Program}{w:World}{A:Around}{E:ZW}{s:Shared}
theorem Du{t sl:Addr}{items:ZN}{vl vu:Value}{lo hi:ZR}{Q:ZW}(ht:IsTup s.heap t items)(hs:s.heap.IsSliceOf sl vl vu .none)(pl:IsPart vl lo)(pu:IsPart vu hi)
  (hw:Yg items.size 0 lo=0/\Yg items.size items.size hi=items.size) (h:Q (.ref t) s):wpAny (model prog w) A (getItem (.ref t) (.ref sl)) Q E s:=by
 obtain⟨os,hos,hcs,hds⟩:=id hs;have hTs:s.TypeIs (.ref sl) "slice" := ⟨os,hos,hcs⟩;unfold getItem
 try with_reducible refine wpAny_holding ?_
 first | refine Za (V1 ?_) | skip
 refine Za (wpAny_sequenceKey ht.typeIs (by decide) ?_)
 refine Za (wpAny_callSpecial?_slot (name:=Str.ofString "__getitem__") ht.typeIs slot_tuple_getitem
  (wpAny_call_entry slot_tuple_getitem ht.typeIs entry_tuple_getitem ?_ (args_tuple_getitem _ _)))
 show wpAny _ _ (Builtin.Tuple.tupleItemsOf (.ref t) >>= _) _ _ s;refine Za (tupleItemsOf_ ht ?_);refine Za (wpAny_typeOf hTs ?_);rw[if_pos (by decide)];refine Za (Jx hs pl pu ?_)
 have hyes:(((Yg items.size 0 lo:Nat):Int) == 0 && (1:Int) == 1 && (Yg items.size items.size hi - Yg items.size 0 lo) == items.size)=true:=by
  rw[hw.1,hw.2];simp
 show wpAny _ _ (if (((Yg items.size 0 lo:Nat):Int) == 0 && (1:Int) == 1 && (Yg items.size items.size hi - Yg items.size 0 lo) == items.size)=true then _ else _) _ _ s;rw[if_pos hyes];refine Za (m:=Builtin.Tuple.tupleIsExact (.ref t)) (Za (wpAny_typeOf ht.typeIs (V1 ?_)));rw[if_pos (by decide)];exact Za (wpAny_rule (V1 ⟨_,rfl,V1 h⟩))
end
end HT
namespace L2
open PySem PySem.Spec PyProof.Rows
section
variable{X:Cx}{e:Expr}{te:TE}{lo hi:Option Expr}{tl th:TO}{pos p2 p3 p4:Pos}{j1:Nat}
theorem Zp.lay{H:Hp}{p:Addr}{o:HO}(h:H p=none):Zp H (upd H p o):=fun b u q=>by rw[Zz (Z2 q h)];exact q
inductive yk(K:W.Frag)(x:V)(lo:ZR)(hi:ZR)(H:Hp)(Q:VK):Prop
 | mk(a xs)(Vg:x=.ref a)(Vb:Vc K H a xs)(Jg:∀p H',Zp H H'->Vc K H' p (C4 xs lo hi)->Q (.ref p) H'):yk K x lo hi H Q
def rSlG(K:W.Frag):V->ZR->ZR->Hp->VK->Prop:=fun x lo hi H Q=>yk K x lo hi H Q
theorem pb:SlR X (rSlG X.K):=by
 intro XY s Z H x v vl vu lo hi sl Q I rx hs pl pu h;obtain⟨a,xs,rfl,hx,q⟩:=h;by_cases hw:HT.Yg xs.length 0 lo=0/\HT.Yg xs.length xs.length hi=xs.length
 .cases rx;obtain⟨its,r,ht,hz⟩:=I.tuple hx;have hlen:its.toArray.size=xs.length:=by rw[Jz];exact r.length.symm
  refine⟨"tuple",_,slot_tuple_getitem.lookup,ht.typeIs, ?_⟩;refine HT.Du ht hs pl pu (by rw[hlen];exact hw) ⟨.ref a,H,I,rfl,q a H (Zp.refl H) ?_⟩
  have e:C4 xs lo hi=xs:=by
   unfold C4;rw[hw.1,hw.2,List.drop_zero,Nat.sub_zero,List.take_length]
  rw[e];exact hx
 .exact sl_tup XY s Z H _ v vl vu lo hi sl Q I rx hs pl pu ⟨a,xs,rfl,hx,hw,fun p hp=>q p _ (Zp.lay hp) (Vc.of Zq)⟩
inductive Ad(K:W.Frag)(x:V)(y:V)(H:Hp)(Q:VK):Prop
 | mk(a b xs ys)(Vg:x=.ref a)(Vb:y=.ref b)(Jg:Vc K H a xs)(S8:Vc K H b ys)(h4_:xs.length+ys.length<=sizeLine)(h5_:∀p H',Zp H H'->Vc K H' p (xs++ys)->Q (.ref p) H'):Ad K x y H Q
def rCatG(K:W.Frag):R2:=fun x y H Q=>Ad K x y H Q
theorem og:Dz X (binaryOp .Add) (rCatG X.K):=by
 intro XY s Z H x y v u Q I rx ry h;obtain⟨a,b,xs,ys,rfl,rfl,ha,hb,hz,q⟩:=h;cases xs with
 | nil=>exact gv XY s Z H _ _ v u Q I rx ry ⟨a,b,ys,rfl,rfl,ha,hb,q b H (Zp.refl H) hb⟩
 | cons x xs =>
  refine oq XY s Z H _ _ v u Q I rx ry ⟨a,b,x::xs,ys,rfl,rfl,ha,hb,(fun z=>nomatch z),hz,fun e=>?_,fun _ p hp=>q p _ (Zp.lay hp) (Vc.of Zq)⟩;subst e;exact q a H (Zp.refl H) (by rw[XZ];exact ha)
end
structure FnV(X:Cx)(f:Addr)(ps:ZD)(sp:Sp):Prop where
 ok:∃k fd,U9 X.prog X.w X.K X.mg X.base qk k f fd ps sp/\Binds X.K fd ps []/\Vo k X.A
 kp:W.keepIn X.K (.ref f)=true
section
variable{X:Cx}{x:Str}{p pos:Pos}{e:Expr}{es:ZC}{tn:TE}{t:TA}{Y:Cx->Addr->ZD->Sp->Prop}
inductive Pc(X:Cx)(t:TA)(Z:St)(Q:VK)(v:V)(H1:Hp):Prop
 | mk(f ps sp)(Vg:v=.ref f)(Vb:FnV X f ps sp)(Jg:t Z H1 fun vs H2=>sp vs H2 Q E0):Pc X t Z Q v H1
def tCallV(X:Cx)(tn:TE)(t:TA):TE:=fun Z H Q=>tn Z H fun v H1=>Pc X t Z Q v H1
theorem kh(hn:PE X (.Name x p) tn)(ha:PA X (e::es) t)
  (he:starEach (e::es) X.env=(false,eval e X.env)::starEach es X.env:=by rfl) (W5:(backTo pos (starEach es X.env)).any (·.1)=false:=by rfl) :
  PE X (.Call (.Name x p) (e::es) [] pos) (tCallV X tn t):=by
 intro XY s Z H Q I h;refine wpAny_Call_Name_kw (Yz (hn XY s Z H _ I h) fun v s1 ⟨v',H1,I1,r1,f,ps,sp,e1,⟨⟨k,fd,F,b,hr⟩,kp⟩,q1⟩=>?_);subst e1;cases r1;refine W.callWith_K (h₀:=X.base) I1.ok.mod.kin kp (Yz (ha pos XY s1 Z H1 _ I1 q1) fun us s2 ⟨vs,H2,I2,r2,q2⟩=>⟨I2.kIn, ?_⟩) he W5;exact vh (sp:=sp) (E:=E0) F hr b .nil Zxu I2 r2 (by rw[XZ];exact q2)
end
section
variable{K:W.Frag}{H H1 H':Hp}
end
section
variable{X:Cx}
theorem ia{XY:ZY}{Z:St}{H:Hp}{s:Shared}{a:Addr}{xs:ZQ}{c:Value}{b:Bool}{Q:ZW}{E:ZW}(I:Inv X XY Z H s)(q:Vc X.K H a xs)(e:W.kitOne X.K (.type "tuple") c=some b)(h:∀tk,Q (.bool b) { s with toks:=tk }) :
  wpAny (model X.prog X.w) X.A (call (.builtin "isinstance") [.ref a,c]) Q E s:=by
 obtain⟨its,_,⟨o,h1,h2,_⟩,_⟩:=I.tuple q;exact W.kia_one W.kitx_tuple I.kIn ⟨o,h1,h2⟩ e (fun z=>nomatch z) h
end
section
variable{K:W.Frag}{H:Hp}{a D:Addr}{xs:ZQ}{ts:List Th}{te:TE}{tt:TT}{fin:Hp->Prop}{τ:St}{o:Option V}
end
end L2
namespace K01
open PySem PySem.Spec PyProof.Rows L2
end K01
namespace L2
open PySem PySem.Spec PyProof.Rows
section
variable{X:Cx}
end
end L2
namespace RevA
open PySem
section
variable{prog:Program}{w:World}{A:Around}{E:ZW}{s:Shared}{r t:Addr}{its:ZN}{i:Int}
end
end RevA
namespace RevA
open PySem PyProof.Rows
section
variable{prog:Program}{w:World}{A:Around}{E:ZW}{s:Shared}{r t:Addr}{its:ZN}
end
section
variable{prog:Program}{w:World}{A:Around}{E:ZW}{s:Shared}{r t:Addr}{its:ZN}
end
section
variable{prog:Program}{w:World}{A:Around}{E:ZW}{s:Shared}{R:Result->Shared->Prop}{I S:Addr}{fp wr:ZU}{n:Nat}{P:Nat->Value->Prop}{St:Nat->Heap->Prop}{T:String}
end
section
variable{prog:Program}{w:World}{A:Around}{E:ZW}{s:Shared}{I:Addr}{fp wr:ZU}{n:Nat}{P:Nat->Value->Prop}{St:Nat->Heap->Prop}{T:String}
end
section
variable{prog:Program}{w:World}{A:Around}{E:ZW}{s:Shared}{r t:Addr}{its:ZN}
end
section
variable{prog:Program}{w:World}{A:Around}{E:ZW}{s:Shared}{I:Addr}{fp wr:ZU}{n:Nat}{P:Nat->Value->Prop}{St:Nat->Heap->Prop}{T:String}
end
section
variable{prog:Program}{w:World}{A:Around}{E:ZW}{s:Shared}
end
end RevA
namespace IdxT
open PySem PySem.SeqAt PySem.MeetsSeq
open PySem.AutoSeq1 (wpAny_loadPart')
end IdxT
namespace L2
open PySem PySem.Spec PyProof.Rows
section
variable{X:Cx}{p p2 pos Y9:Pos}{a:Expr}{t:TA}
end
section
variable{X:Cx}{e:Expr}{t1 t2:TE}
theorem PE.or(h1:PE X e t1)(h2:PE X e t2):PE X e (fun Z H Q=>t1 Z H Q\/t2 Z H Q):=by
 intro XY s Z H Q I h;rcases h with h | h
 .exact h1 XY s Z H Q I h
 .exact h2 XY s Z H Q I h
end
section
variable{X:Cx}{p p2 pos Y9:Pos}{a:Expr}{t:TA}
end
section
variable{X:Cx}
end
section
variable{X:Cx}{k:Nat}{C:Addr}{m x:Str}{ps:ZD}{sp:Sp}{o e:Expr}{es:ZC}{ta:TE}{t:TA}{p pos apos:Pos}
end
end L2
namespace EnuT
open PySem
section
variable{prog:Program}{w:World}{A:Around}{E:ZW}{s:Shared}
theorem nextT{it t:Addr}{i:Nat}{its:ZN}{x:Value}{Q:ZW}(hi:s.heap.IsTupleIter it t i)(ht:s.heap.IsTuple t its)(hx:its[i]?=some x)
  (q:∀h',h'.IsTupleIter it t (i+1)->Heap.SameBut it s.heap h'->Q x { s with heap:=h' }):wpAny (model prog w) A (Builtin.SmallTypes.nextOf (.ref it)) Q E s:=by
 obtain⟨u,hu,hc,hd⟩:=id hi;obtain⟨p,hp,_,n,dp⟩:=ht;unfold Builtin.SmallTypes.nextOf;refine Za (wpAny_callSpecial?_slot (name:=Str.ofString "__next__") hi.typeIs F.slot_tuple_iterator_next (wpAny_call_entry F.slot_tuple_iterator_next hi.typeIs F.entry_tuple_iterator_next ?_ (F.args_tuple_iterator_next_1 _)));show wpAny _ _ (field (.ref it) 0 >>= _) _ _ s;refine Za (wpAny_field hu hd (x:=.ref t) rfl ?_);show wpAny _ _ (if (Value.ref t == Value.none)=true then _ else _) _ _ s;rw[if_neg (show ¬ ((Value.ref t == Value.none)=true) from Nt)];show wpAny _ _ (field (.ref it) 1 >>= _) _ _ s;refine Za (wpAny_field hu hd (x:=.int i 0) rfl ?_);show wpAny _ _ (seqItems? (.ref t) >>= _) _ _ s;refine Za (wpAny_seqItems hp dp ?_);simp only[XJ,hx];refine Za (wpAny_setField hu hd (by simp) (V1 ⟨x,rfl,V1 (q _ ?_ (Heap.SameBut.update ..))⟩));exact⟨_,Heap.get?_update_self _ hu (Obj.isFreed_of_fields (Obj.data_mapFields hd _)),(Obj.cls_mapFields ..).trans hc,by rw[Obj.data_mapFields hd];simp[rawInt]⟩
theorem endT{it t:Addr}{i:Nat}{its:ZN}{Q:ZW}(hh:A.handled=none)(hi:s.heap.IsTupleIter it t i)(ht:s.heap.IsTuple t its)(hx:its[i]?=none)
  (q:∀h' e,Heap.ExtBut it s.heap h'->(∃o,h'.get? e=some o/\o.cls=.type "StopIteration")->E (.ref e) { s with heap:=h' }):wpAny (model prog w) A (Builtin.SmallTypes.nextOf (.ref it)) Q E s:=by
 obtain⟨u,hu,hc,hd⟩:=id hi;obtain⟨p,hp,_,n,dp⟩:=ht;unfold Builtin.SmallTypes.nextOf;refine Za (wpAny_callSpecial?_slot (name:=Str.ofString "__next__") hi.typeIs F.slot_tuple_iterator_next (wpAny_call_entry F.slot_tuple_iterator_next hi.typeIs F.entry_tuple_iterator_next ?_ (F.args_tuple_iterator_next_1 _)));show wpAny _ _ (field (.ref it) 0 >>= _) _ _ s;refine Za (wpAny_field hu hd (x:=.ref t) rfl ?_);show wpAny _ _ (if (Value.ref t == Value.none)=true then _ else _) _ _ s;rw[if_neg (show ¬ ((Value.ref t == Value.none)=true) from Nt)];show wpAny _ _ (field (.ref it) 1 >>= _) _ _ s;refine Za (wpAny_field hu hd (x:=.int i 0) rfl ?_);show wpAny _ _ (seqItems? (.ref t) >>= _) _ _ s;refine Za (wpAny_seqItems hp dp ?_);simp only[XJ,hx];refine Za (wpAny_rule (Za (wpAny_setField hu hd (by simp) ?_)));show wpAny _ _ (newExc (.type "StopIteration") [] >>= _) _ _ _;refine Za ?_;simp only[newExc,newTuple];refine Za (wpAny_newObj_type ?_ (by size_fits));refine Za (m:=firstArgMember _ _) (wpAny_of_eq (a:=Value.none) (by first | rfl | (simp only[firstArgMember];rfl)) ?_);refine wpAny_newObj_type ?_ (by size_fits);simp only[raiseNew];refine Za (wpAny_handled ?_)
 first | rw[show A.in1.handled=none from hh] | rw[hh]
 refine Za (V1 (wpAny_throw ?_));exact q _ _ (((Heap.SameBut.update ..).extBut.push _).push _) ⟨_,Bv _ rfl,rfl⟩
end
theorem m9{prog:Program}{w:World}{A:Around}(hh:A.handled=none)(it t:Addr)(hne:t≠it)(its:ZN) :
  Draws prog w A it [it,t] its.size (fun i v=>its[i]?=some v) (fun i h=>h.IsTupleIter it t i/\h.IsTuple t its) where
 live:=fun _ _ st=>let ⟨o,ho,_⟩:=st.1;⟨o,ho⟩
 frame:=fun _ _ _ st hk=>⟨let ⟨o,ho,r⟩:=st.1;⟨o,hk it (by simp) o ho,r⟩,let ⟨o,ho,r⟩:=st.2;⟨o,hk t (by simp) o ho,r⟩⟩
 item:=fun i s Q E hi st hQ=>nextT st.1 st.2 (x:=its[i]) (by simp[hi]) fun h' a b=>hQ _ h' s.toks (by simp[hi]) ⟨a,st.2.extBut b.extBut hne⟩ b
 done:=fun s Q E st hE=>endT hh st.1 st.2 (by simp) hE
theorem meetsT(t:Addr)(its:ZN)(n:Nat)(dct:ZP)(sl:ZF) :
  Meets (Builtin.«enumerate.__new__» ⟨[.type "enumerate",.ref t],[]⟩) (fun _ R s=>s.heap.get? t=some { cls:=.type "tuple",dict:=dct,data:=.seq its n,slots:=sl } /\
   R (.ok (.ret (.ref (s.heap.push { cls:=.type "tuple_iterator",data:=.fields #[.ref t,.int 0 0] }).objs.size)))
    { s with heap:=(s.heap.push { cls:=.type "tuple_iterator",data:=.fields #[.ref t,.int 0 0] }).push { cls:=.type "enumerate",data:=.fields #[.none,.bool false,.ref s.heap.objs.size,rawInt 0,.none,.none] } }) :=
 .of_wp fun prog w A R s h=>by
  obtain⟨hp,g,d,tk,os⟩:=s;obtain⟨ht,h⟩:=h;have hs:=sub_enumerate;have hT:Heap.IsTuple (Shared.heap ⟨hp,g,d,tk,os⟩) t its:=⟨_,ht,rfl,n,rfl⟩
  wp_walk using AutoSeq1.wpAny_loadPart' ht
  refine wpAny_stack_any fun st=>V1 ?_
  split
  .rename_i c _ _ _ _ _
   cases(c == Value.type "enumerate")<;>(wp_walk using AutoSeq1.wpAny_loadPart' ht,wpAny_pyIter_tuple hT;exact⟨_,rfl,h⟩)
  .wp_walk using AutoSeq1.wpAny_loadPart' ht,wpAny_pyIter_tuple hT
   exact⟨_,rfl,h⟩
section
variable{prog:Program}{w:World}{A:Around}{E:ZW}{s:Shared}
theorem callT{t:Addr}{its:ZN}{Q:ZW}(hT:s.heap.IsTuple t its)
  (q:∀h',IsEnum h' (s.heap.objs.size+1) s.heap.objs.size 0 .none->h'.IsTupleIter s.heap.objs.size t 0->(∀b o,s.heap.get? b=some o->h'.get? b=some o)->Q (.ref (s.heap.objs.size+1)) { s with heap:=h' }) :
  wpAny (model prog w) A (call (.type "enumerate") [.ref t]) Q E s:=by
 obtain⟨⟨c,dct,dt,sl⟩,hl,hc,n,hd⟩:=hT;obtain rfl:c=.type "tuple" := hc;obtain rfl:dt=.seq its n:=hd;refine callType_new F.called_enumerate (by decide) (F.typeCall_enumerate_1 _) (F.newCall_enumerate_1 _) (fun obj=>F.args_object_init_2 obj _) F.entry_enumerate_new (meetsT t its n dct sl) ⟨hl, ?_⟩;have hz:(s.heap.push { cls:=.type "tuple_iterator",data:=.fields #[.ref t,.int 0 0] }).objs.size=s.heap.objs.size+1:=Heap.size_push ..;show _/\_;rw[hz]
 have he:IsEnum ((s.heap.push { cls:=.type "tuple_iterator",data:=.fields #[.ref t,.int 0 0] }).push { cls:=.type "enumerate",data:=.fields #[.none,.bool false,.ref s.heap.objs.size,rawInt 0,.none,.none] }) (s.heap.objs.size+1) s.heap.objs.size 0 .none:=by
  have z:=Bv (s.heap.push { cls:=.type "tuple_iterator",data:=.fields #[.ref t,.int 0 0] }) (o:={ cls:=.type "enumerate",data:=.fields #[.none,.bool false,.ref s.heap.objs.size,rawInt 0,.none,.none] }) rfl;rw[hz]at z;exact z
 exact⟨⟨_,he,rfl⟩,q _ he ⟨_,Vs _ (Bv _ rfl),rfl,rfl⟩ fun b o x=>Vs _ (Vs _ x)⟩
end
end EnuT
namespace L2
open PySem PySem.Spec PyProof.Rows
def Itn(K:W.Frag)(a:Addr)(xs:ZQ):It :=
  ⟨fun i H=>i<xs.length/\Vc K H a xs,
   fun i H v H'=>∃p x,v=.ref p/\H p=none/\H'=upd H p (.tup [.int i,x])/\xs[i]?=some x,
   fun i H=>xs.length<=i/\Vc K H a xs⟩
theorem Xl{P:Program}{w:World}{K:W.Frag}{es:ZC}{k:Nat}{pos:Pos}(e it a:Addr)(xs:ZQ)(hei:e≠it)(hae:a≠e)(hai:a≠it) :
  Turn P w K (.Tuple es k pos) (Itn K a xs) [e,it] e (fun i h=>i<=xs.length/\(∃old,IsEnum h e it ((i:Nat):Int) old)/\h.IsTupleIter it a i) where
 mem:=by simp
 obj:=fun i h st b hb=>by
  obtain⟨_,⟨old,he⟩,⟨o,eo,_,d⟩⟩:=st;simp only[Y6,Vy,or_false]at hb;rcases hb with rfl | rfl
  .exact⟨_,he,fun v q=>nomatch q⟩
  .exact⟨_,eo,fun v q=>by rw[d]at q;cases q⟩
 keep:=fun i h h' st hk=>by
  obtain⟨hi,⟨old,he⟩,ht⟩:=st;exact⟨hi,⟨old,hk e (by simp) _ he⟩,ht.at fun o eo=>hk it (by simp) o eo⟩
 item:=by
  intro X hP hw hK hc i XY s Z H E I hf st hg;subst hP hw hK;obtain⟨Kr,hq⟩:=hg;obtain⟨hi,⟨old,he⟩,ht⟩:=st;obtain⟨its,rv,p,_⟩:=I.tuple hq;have hx:xs[i]?=some xs[i]:=Dx Kr;obtain⟨u,hu,ru⟩:=rv.get hx;have hsz:its.toArray.size=xs.length:=by rw[Jz];exact rv.length.symm
  refine wpAny_pyNext_enum_itemD (EnuT.m9 (A:=X.A.in1) (I.ok.hd hc) it a hai its.toArray) he ⟨ht,p⟩ (by omega) hei (by simp only[Y6,Vy,or_false,not_or];exact⟨hei,fun q=>hae q.symm⟩) fun y h' tk py ho T4 ht' Rl hk=>?_
  have ey:y=u:=by
   have z:its.toArray[i]?=some u:=by simpa using hu
   exact D8 (py.symm.trans z)
  subst ey;refine⟨_,rfl,wpAny_letOwnedTupleGo_enum (s:={ s with heap:=h',toks:=tk+1 }) ho fun bo he'' Kl=>?_⟩;have lt:∀{c o},s.heap.get? c=some o->s.heap.objs.size≠c:=fun q=>Nat.ne_of_gt (Vh q);have ne:s.heap.objs.size≠e:=lt he
  have kk:∀c o,c ∉ [e,it]->s.heap.get? c=some o->bo.get? c=some o:=fun c o m q=>by
   simp only[Y6,Vy,or_false,not_or]at m;exact Kl.extBut _ _ m.1 (hk c o m.1 m.2 q)
  have J:Inv X XY Z (upd H s.heap.objs.size (.tup [.int i,xs[i]])) { s with heap:=bo,toks:=tk+1 }:=I.turnLay kk hf (Z5 _) ⟨by show 2<=sizeLine;decide,[.int i tk,y],.cons ⟨tk,rfl⟩ (.cons ru .nil),⟨_,Kl.extBut _ _ ne ht',rfl,⟨_,rfl⟩,rfl⟩⟩;refine⟨.ref s.heap.objs.size,_,J,rfl,⟨_,_,rfl,I.hok.fresh (Z5 _),rfl,hx⟩,⟨by omega,⟨_,by have:=he'';simpa using this⟩,T4.1.extBut Kl.extBut (fun q=>hei q.symm)⟩,fun c hc=>?_⟩
  have nc:c≠s.heap.objs.size:=fun q=>by
   subst q;simp only[Y6,Vy,or_false]at hc;rcases hc with q | q
   .exact lt he q
   .obtain⟨_,eo,_⟩:=ht;exact lt eo q
  rw[Zz nc];exact(hf c hc).1
 done:=by
  intro X hP hw hK hc i XY s Z H E I hf st hg;subst hP hw hK;obtain⟨hge,hq⟩:=hg;obtain⟨hi,⟨old,he⟩,ht⟩:=st;obtain⟨its,rv,p,_⟩:=I.tuple hq;have hsz:its.toArray.size=xs.length:=by rw[Jz];exact rv.length.symm
  have ei:i=its.toArray.size:=by omega
  rw[ei]at ht;refine wpAny_pyNext_enum_endD (EnuT.m9 (A:=X.A.in1) (I.ok.hd hc) it a hai its.toArray) he ⟨ht,p⟩ fun h' eb=>⟨rfl,I.turnL (t':=s.toks) (fp:=[e,it]) (fun c u m q=>?_) hf⟩;simp only[Y6,Vy,or_false,not_or]at m;exact eb c u m.2 q
 self:=fun A i s Q E st h=>by
  obtain⟨_,⟨old,he⟩,_⟩:=st;exact wpAny_pyIter_enum he h
inductive Iq(K:W.Frag)(R:(It->Hp->Prop))(vs:ZQ)(H1:Hp):Prop
 | mk(p xs)(Vg:vs=[.ref p])(Vb:Vc K H1 p xs)(Jg:R (Itn K p xs) H1):Iq K R vs H1
def iEnum(K:W.Frag)(t:TA):TI:=fun Z H R=>t Z H fun vs H1=>Iq K R vs H1
section
variable{X:Cx}{es:ZC}{k:Nat}{p2 pos Y9:Pos}{a:Expr}{t:TA}
theorem aj(ee:Gl X "enumerate")(eg:X.mg "enumerate" = none)(ha:PA X [a] t)
  (he2:starEach [a] X.env=(false,eval a X.env)::starEach [] X.env:=by rfl) (W5:(backTo Y9 (starEach [] X.env)).any (·.1)=false:=by rfl) :
  PI X (.Tuple es k pos) (.Call (.Name "enumerate" p2) [a] [] Y9) (iEnum X.K t):=by
 intro XY s Z H R I h;refine wpAny_Call_Name_kw (U8 I ee eg (by decide +kernel:bootBuiltins "enumerate" = some (.type "enumerate")) ?_ (by decide) (by decide));refine callWith_type1 (Yz (ha Y9 XY s Z H _ I h) fun us s1 ⟨vs,H1,I1,r1,q1⟩=>?_) he2 W5;obtain⟨l,xs,rfl,hx,q⟩:=q1;obtain⟨u1,rfl,e1⟩:=vals1 r1;cases e1;obtain⟨its,rv,pl,z⟩:=I1.tuple hx;have nl:l<s1.heap.objs.size:=by obtain⟨_,e,_⟩:=id pl;exact Vh e
 refine EnuT.callT (show s1.heap.IsTuple l its.toArray from pl) fun h2 b1 b2 k2=>?_;refine wpAny_pyIter_enum (s:={ s1 with heap:=h2 }) b1 ?_;have J:Inv X XY Z H1 { s1 with heap:=h2,toks:=s1.toks }:=I1.kept k2;refine⟨_,[s1.heap.objs.size+1,s1.heap.objs.size],_,_,H1,rfl,J,Xl _ _ l xs (Nat.succ_ne_self _) (Ba (Nat.lt_succ_of_lt nl)) (Ba nl),⟨Bw _,⟨_,b1⟩,b2⟩,fun c hc=>?_,q⟩
 have ge:s1.heap.objs.size<=c:=by
  simp only[Y6,Vy,or_false]at hc;rcases hc with q | q<;>rw[q]<;>first | exact Z5 _ | exact Nat.le_add_right _ _
 exact I1.fpOk ge (I1.hok.fresh ge)
end
section
variable{X:Cx}
end
section
variable{X:Cx}{p p2 pos Y9:Pos}{a b:Expr}{t:TA}
end
end L2
namespace EX
open PySem
section
variable{M:Model}{A:Around}{E:ZW}{s:Shared}{env:Env}{outer:List Env}{base:Heap}{L e T:Addr}{oe:Obj}{vs:ZN}{Q:ZA}
end
section
variable{M:Model}{A:Around}{E:ZW}{s:Shared}{env:Env}
end
section
variable{M:Model}{A:Around}{E:ZW}{s:Shared}{env:Env}
end
section
variable{prog:Program}{w:World}{A:Around}{E:ZW}{s:Shared}{env:Env}
end
section
variable{prog:Program}{w:World}{A:Around}{E:ZW}{h:Heap}{g:Array GenState}{d:Drawn}{t:Nat}{os:OsState}
variable{nm q:Str}{C N:Addr}{bs bm bmB:ZM}{hdct:Bool}{sn:ZD}{sub:ZM}{ab:Bool}{col:Option Bool}{dd:ZP}{k0 k1 k2 k3 k5:ZT}{B newId initId:String}
end
section
variable{prog:Program}{w:World}{A:Around}{E:ZW}{h:Heap}{g:Array GenState}{d:Drawn}{t:Nat}{os:OsState}
variable{nm q:Str}{C N:Addr}{bs bm bmB:ZM}{hdct:Bool}{sn:ZD}{sub:ZM}{ab:Bool}{col:Option Bool}{dd:ZP}{k0 k1 k2 k3 k5:ZT}{B newId initId:String}
end
end EX
namespace EX
open PySem Builtin Builtin.ObjectAttr
section
variable{prog:Program}{w:World}{A:Around}{E:ZW}{s:Shared}{x C:Addr}{o:Obj}{name:Str}{v:Value}
end
section
variable{prog:Program}{w:World}{A:Around}{E:ZW}{s:Shared}{x C dx:Addr}{o:Obj}{name:Str}{v:Value}{mA:ZV}{vs:ZN}
end
end EX
namespace EX
open PySem
section
variable{prog:Program}{w:World}{A:Around}{E:ZW}{h:Heap}{g:Array GenState}{d:Drawn}{t:Nat}{os:OsState}
variable{nm q:Str}{C N:Addr}{bs bm bmB:ZM}{hdct:Bool}{sn:ZD}{sub:ZM}{ab:Bool}{col:Option Bool}{dd:ZP}{k0 k1 k2 k3 k5:ZT}{B newId initId:String}
end
end EX
namespace EX
open PySem PySem.W Builtin Builtin.ObjectAttr
section
variable{prog:Program}{w:World}{A:Around}{E:ZW}{s:Shared}{x C:Addr}{o:Obj}{od:Option Obj}{K:Frag}
end
end EX
namespace L2
open PySem PySem.Spec PyProof.Rows
section
variable{P:Program}{w:World}{H:Hp}{h:Heap}{a C:Addr}{od:ZP}{new:Bool}{fs:List (Str×V)}
end
section
variable{K:W.Frag}{C x:Addr}{M:Model}{h:Heap}{f:Str}{o:Obj}
end
section
variable{X:Cx}{XY:ZY}{Z:St}{H:Hp}{s:Shared}{h':Heap}{t':Nat}
end
section
variable{X:Cx}{o e value:Expr}{f:Str}{pos pos':Pos}{ta tv:TE}
end
section
variable{X:Cx}{CX:Hb}{k:Nat}{f C:Addr}{fd:FuncData}{ps:ZD}{sp:Sp}{E:XK}{x m:Str}{p pos:Pos}{e:Expr}{es:ZC}{t:TA}
end
section
variable{X:Cx}{XY pn:ZY}{Z:St}{H:Hp}{s:Shared}{e:Addr}{W:St->Hp->Addr->Addr->ZP->Prop}
end
section
variable{X:Cx}{XY:ZY}{Z:St}{H:Hp}{s:Shared}
end
section
variable{X:Cx}{W:St->Hp->Addr->Addr->ZP->Prop}
end
section
variable{X:Cx}
end
section
variable{X:Cx}
end
end L2
namespace EX
open PySem
section
variable{M:Model}{A:Around}{E:ZW}{s:Shared}{env:Env}{outer:List Env}{base:Heap}{L e T:Addr}{oe:Obj}{vs:ZN}{Q:ZA}
end
end EX
namespace L2
open PySem PySem.Spec PyProof.Rows
section
variable{X:Cx}{XY:ZY}{Z:St}{H:Hp}{s s':Shared}
end
section
variable{P:Program}{w:World}{K:W.Frag}{mg:ZV}{base:Heap}
end
section
variable{X:Cx}{W:XWT}{k:Nat}{x:Str}{ps:ZD}{sp:Sp}{p pos:Pos}{e:Expr}{es:ZC}{t:TA}{te:TE}
end
section
variable{X:Cx}{XY pn:ZY}{Z:St}{H:Hp}{s:Shared}{e:Addr}{W:XWT}
end
section
variable{X:Cx}
end
section
variable{X:Cx}
end
section
variable{X:Cx}{XY:ZY}{Z:St}{H:Hp}{s:Shared}
end
section
variable{X:Cx}{W:XWT}{k:Nat}{f C:Addr}{fd:FuncData}{m:Str}{ps:ZD}{sp:Sp}{o e:Expr}{es:ZC}{ta:TE}{t:TA}{p pos apos:Pos}
end
section
variable{X:Cx}
inductive Jd(K:W.Frag)(xs:ZQ)(H:Hp)(Q:VK):Prop
 | mk(p ys)(Vg:xs=[.ref p])(Vb:(Ud K H p ys\/Vc K H p ys))(Jg:∀t H',Zp H H'->Vc K H' t ys->Q (.ref t) H'):Jd K xs H Q
theorem C8:Y7 X (.type "tuple") (fun xs H Q=>Jd X.K xs H Q):=by
 intro XY s Z H xs us Q I rs h;obtain⟨p,ys,e,h,q⟩:=h;refine Wy XY s Z H xs us Q I rs ⟨p,ys,e, ?_⟩;rcases h with h | h
 .exact .inl ⟨h,fun l hl=>q l _ (Zp.lay hl) (Vc.of Zq)⟩
 .exact .inr ⟨h,q p H (Zp.refl H) h⟩
end
section
variable{X:Cx}{e:Expr}{te t1 t2:TE}{p2 p3 p4 pos:Pos}{j1:Nat}
end
section
variable{Z:Type}[DecidableEq Z]
noncomputable def Dh(XG:List (Z×V))(k:Z):Option V:=(XG.find? fun kv=>decide (kv.1=k)).map (·.2)
noncomputable def putK(XG:List (Z×V))(k:Z)(v:V):List (Z×V) :=
 if (XG.any fun kv=>decide (kv.1=k))=true then XG.map (fun kv=>if kv.1=k then (kv.1,v) else kv) else XG++[(k,v)]
noncomputable def Zqx(XG:List (Z×V))(k:Z):List (Z×V):=XG.filter fun kv=>decide (kv.1≠k)
theorem Ml{p:Z×V}{r:List (Z×V)}{k:Z}(e:p.1=k):Dh (p::r) k=some p.2:=by simp[Dh,List.find?_cons,e]
theorem Mr{p:Z×V}{r:List (Z×V)}{k:Z}(e:¬ p.1=k):Dh (p::r) k=Dh r k:=by simp[Dh,List.find?_cons,e]
theorem Pk(k:Z):∀XG:List (Z×V),(XG.any fun kv=>decide (kv.1=k))=(Dh XG k).isSome
 | []=>rfl
 | p::r=>by
  rw[List.any_cons];by_cases e:p.1=k
  .simp only[Ml e,Ub e,Bool.true_or,Option.isSome_some]
  .rw[Mr e,Dj e,Bool.false_or];exact Pk k r
theorem G1(XG:List (Z×V))(k:Z)(v:V):(putK XG k v).length<=XG.length+1:=by
 unfold putK
 split
 .rw[Zn];omega
 .rw[Yl,Yo,List.length_nil];omega
theorem Bj.isSome_eq{o:Option V}{u:ZT}(r:Bj o u):o.isSome=u.isSome:=by
 cases o with
 | none=>cases u with
  | none=>rfl
  | some _=>exact(show False from r).elim
 | some _=>cases u with
  | none=>exact(show False from r).elim
  | some _=>rfl
theorem Bj.getD{o:Option V}{u:ZT}{d:V}{d':Value}(r:Bj o u)(rd:RelV d d'):RelV (o.getD d) (u.getD d'):=by
 cases o with
 | none=>cases u with
  | none=>exact rd
  | some _=>exact(show False from r).elim
 | some _=>cases u with
  | none=>exact(show False from r).elim
  | some _=>exact r
theorem KV.val{XG:List (Z×V)}{vs:List (Z×Value)}(r:KV XG vs)(k:Z):Bj (Dh XG k) (valueAt vs k):=by
 unfold KV at r
 induction r with
 | nil=>exact True.intro
 | @cons p q ps qs h t ih =>
  obtain⟨h1,h2⟩:=h;by_cases e:p.1=k
  .have e':q.1=k:=h1.symm.trans e;have b:valueAt (q::qs) k=some q.2:=by simp[valueAt,List.find?_cons,e']
   rw[Ml e,b];exact h2
  .have e':¬ q.1=k:=fun z=>e (h1.trans z);have b:valueAt (q::qs) k=valueAt qs k:=by simp[valueAt,List.find?_cons,e']
   rw[Mr e,b];exact ih
theorem KV.any{XG:List (Z×V)}{vs:List (Z×Value)}(r:KV XG vs)(k:Z):(XG.any fun kv=>decide (kv.1=k))=vs.any fun kv=>decide (kv.1=k):=by
 unfold KV at r
 induction r with
 | nil=>rfl
 | cons h t ih=>rw[List.any_cons,List.any_cons,ih,h.1]
theorem KV.repl{XG:List (Z×V)}{vs:List (Z×Value)}(r:KV XG vs)(k:Z){y:V}{u:Value}(ry:RelV y u) :
  KV (XG.map fun kv=>if kv.1=k then (kv.1,y) else kv) (vs.map fun kv=>if kv.1=k then (kv.1,u) else kv):=by
 unfold KV at r ⊢
 induction r with
 | nil=>exact .nil
 | @cons p q ps qs h t ih =>
  rw[Vm,Vm];refine .cons ?_ ih;obtain⟨h1,h2⟩:=h;by_cases e:p.1=k
  .rw[if_pos e,if_pos (h1.symm.trans e)];exact⟨h1,ry⟩
  .rw[if_neg e,if_neg (fun z=>e (h1.trans z))];exact⟨h1,h2⟩
theorem KV.put{XG:List (Z×V)}{vs:List (Z×Value)}(r:KV XG vs)(k:Z){y:V}{u:Value}(ry:RelV y u):KV (putK XG k y) (stored vs k u):=by
 unfold putK stored;rw[r.any k];by_cases e:(vs.any fun kv=>decide (kv.1=k))=true
 .rw[if_pos e,if_pos e];exact r.repl k ry
 .rw[if_neg e,if_neg e];exact Paired.snoc r ⟨rfl,ry⟩
theorem KV.drop{XG:List (Z×V)}{vs:List (Z×Value)}(r:KV XG vs)(k:Z):KV (Zqx XG k) (without vs k):=by
 unfold KV at r ⊢;unfold Zqx without
 induction r with
 | nil=>exact .nil
 | @cons p q ps qs h t ih =>
  obtain⟨h1,h2⟩:=h;rw[List.filter_cons,List.filter_cons];by_cases e:p.1=k
  .have a:¬ decide (p.1≠k)=true:=by simp[e]
   have b:¬ decide (q.1≠k)=true:=by simp[h1.symm.trans e]
   rw[if_neg a,if_neg b];exact ih
  .have e':¬ q.1=k:=fun z=>e (h1.trans z);have a:decide (p.1≠k)=true:=by simp[e]
   have b:decide (q.1≠k)=true:=by simp[e']
   rw[if_pos a,if_pos b];exact .cons ⟨h1,h2⟩ ih
theorem KV.keys{XG:List (Z×V)}{vs:List (Z×Value)}(r:KV XG vs):XG.map (·.1)=vs.map (·.1):=by
 unfold KV at r
 induction r with
 | nil=>rfl
 | cons h t ih=>rw[Vm,Vm,ih,h.1]
theorem KV.length{XG:List (Z×V)}{vs:List (Z×Value)}(r:KV XG vs):XG.length=vs.length:=Paired.length r
end
theorem W1{P:Program}{w:World}{k:Key}{u:Value}(r:RelV (kV k) u):(Zh P w).is k u=true:=by
 cases k with
 | inl i=>obtain⟨t,e⟩:=(show ∃t,u=Value.int i t from r);subst e;exact Ow P w i t
 | inr x=>obtain⟨t,e⟩:=(show ∃t,u=Value.str x t from r);subst e;exact Oj P w x t
theorem W2{P:Program}{w:World}:∀{ks:List Key} {us:ZM},Zk (ks.map kV) us->ItemsAre (Zh P w) ks us
 | [],_,r=>by rw[List.map_nil]at r;cases r;exact .nil
 | k::ks,_,r=>by
  rw[Vm]at r;cases r with
  | cons h t=>exact .cons (W1 h) (W2 t)
abbrev KT(H:Hp):List (List Key×V)->List (List Key×Addr×Value)->Prop:=Paired fun p q=>p.1=q.1/\H q.2.1=some (.tup (p.1.map kV))/\RelV p.2 q.2.2
theorem KT.val{H:Hp}{XG:List (List Key×V)}{xs:List (List Key×Addr×Value)}(r:KT H XG xs)(k:List Key):Bj (Dh XG k) ((atKey xs k).map (·.2)):=by
 induction r with
 | nil=>exact True.intro
 | @cons p q ps qs h t ih =>
  obtain⟨h1,_,h2⟩:=h;by_cases e:p.1=k
  .have e':q.1=k:=h1.symm.trans e;have b:atKey (q::qs) k=some q.2:=by simp[atKey,List.find?_cons,e']
   rw[Ml e,b];exact h2
  .have e':¬ q.1=k:=fun z=>e (h1.trans z);have b:atKey (q::qs) k=atKey qs k:=by simp[atKey,List.find?_cons,e']
   rw[Mr e,b];exact ih
theorem KT.repl{H:Hp}{XG:List (List Key×V)}{xs:List (List Key×Addr×Value)}(r:KT H XG xs)(k:List Key){y:V}{u:Value}(ry:RelV y u) :
  KT H (XG.map fun kv=>if kv.1=k then (kv.1,y) else kv) (xs.map (putAt k u)):=by
 induction r with
 | nil=>exact .nil
 | @cons p q ps qs h t ih =>
  rw[Vm,Vm];refine .cons ?_ ih;obtain⟨h1,h2,h3⟩:=h;unfold putAt;by_cases e:p.1=k
  .rw[if_pos e,if_pos (h1.symm.trans e)];exact⟨h1,h2,ry⟩
  .rw[if_neg e,if_neg (fun z=>e (h1.trans z))];exact⟨h1,h2,h3⟩
theorem KT.put{H:Hp}{XG:List (List Key×V)}{xs:List (List Key×Addr×Value)}(r:KT H XG xs)(k:List Key){b:Addr}{y:V}{u:Value}(hb:H b=some (.tup (k.map kV)))(ry:RelV y u) :
  KT H (putK XG k y) (storedH xs k b u):=by
 have e:(XG.any fun kv=>decide (kv.1=k))=(atKey xs k).isSome:=by
  rw[Pk,(r.val k).isSome_eq,Option.isSome_map]
 unfold putK storedH;rw[e];by_cases q:(atKey xs k).isSome=true
 .rw[if_pos q,if_pos q];exact r.repl k ry
 .rw[if_neg q,if_neg q];exact Paired.snoc r ⟨rfl,hb,ry⟩
theorem KT.keeps{H H':Hp}{XG:List (List Key×V)}{xs:List (List Key×Addr×Value)}(r:KT H XG xs)(ht:∀b ys,H b=some (.tup ys)->H' b=some (.tup ys)):KT H' XG xs :=
 Paired.mapP r fun _ _ z=>⟨z.1,ht _ _ z.2.1,z.2.2⟩
section
variable{P:Program}{w:World}{H:Hp}{h:Heap}{a:Addr}
theorem rd_of{u:HO}(ok:Mm P w H h)(e:Rd H a u):Ze P w H h a u:=e.ok ok
theorem Gb{XG:List (Key×V)}(ok:Mm P w H h)(e:Rd H a (.dK XG)):XG.length<=sizeLine/\(a == sysModules)=false/\∃vs,KV XG vs/\h.DictOf (Zh P w) a vs :=
 show Ze P w H h a (.dK XG) from rd_of ok e
theorem Zqq{XG:List (Key×V)}(ok:Mm P w H h)(e:H a=some (.dK XG)):XG.length<=sizeLine/\(a == sysModules)=false/\∃vs,KV XG vs/\h.DictOf (Zh P w) a vs:=Gb ok (.inl e)
theorem N5{ks:List Key}(ok:Mm P w H h)(e:H a=some (.tup (ks.map kV))):(tupleKind (Zh P w)).is h ks a:=by
 obtain⟨_,its,r,o,h1,h2,⟨n,h3⟩,_⟩:=(show Ze P w H h a (.tup (ks.map kV)) from ok a _ e);exact⟨o,its.toArray,n,h1,h2,h3,by simpa using W2 r⟩
theorem C2{XG:List (List Key×V)}(ok:Mm P w H h)(e:Rd H a (.dT XG)):XG.length<=sizeLine/\(a == sysModules)=false /\
  ∃xs,KT H XG xs/\h.DictOfH (tupleKind (Zh P w)) a xs:=by
 obtain⟨z,y,xs,r,o,es,ep,h1,h2,h3,h4,h5⟩:=(show Ze P w H h a (.dT XG) from rd_of ok e);refine⟨z,y,xs,r,o,es,ep,h1,h2,h3,h4,fun x hx=>?_,h5⟩
 have all:∀{l:List (List Key×V)} {m:List (List Key×Addr×Value)},KT H l m->∀x∈m,(tupleKind (Zh P w)).is h x.1 x.2.1:=by
  intro l m q
  induction q with
  | nil=>intro x hx;exact nomatch hx
  | @cons p q ps qs hq t ih =>
   intro x hx;rcases Y6.mp hx with e | hx
   .subst e;exact N5 ok (by rw[<-hq.1];exact hq.2.1)
   .exact ih x hx
 exact all r x hx
theorem dt_of{XG:List (List Key×V)}(ok:Mm P w H h)(e:H a=some (.dT XG)):XG.length<=sizeLine/\(a == sysModules)=false /\
  ∃xs,KT H XG xs/\h.DictOfH (tupleKind (Zh P w)) a xs:=C2 ok (.inl e)
end
def B7(H:Hp)(a:Addr)(y:V)(r:Option V):Prop :=
 (∃XG k,Rd H a (.dK XG)/\y=kV k/\r=Dh XG k)\/∃XG k b,Rd H a (.dT XG)/\y=.ref b/\H b=some (.tup (k.map kV))/\r=Dh XG k
def Hg(H:Hp)(a:Addr)(y v:V)(H':Hp):Prop :=
 (∃XG k,H a=some (.dK XG)/\y=kV k/\XG.length<sizeLine/\H'=upd H a (.dK (putK XG k v))) \/
 ∃XG k b,H a=some (.dT XG)/\y=.ref b/\H b=some (.tup (k.map kV))/\XG.length<sizeLine/\H'=upd H a (.dT (putK XG k v))
theorem B7.k{H:Hp}{a:Addr}{XG:List (Key×V)}{k:Key}(e:H a=some (.dK XG)):B7 H a (kV k) (Dh XG k):=.inl ⟨XG,k,.inl e,rfl,rfl⟩
theorem B7.t{H:Hp}{a b:Addr}{XG:List (List Key×V)}{k:List Key}(e:H a=some (.dT XG))(eb:H b=some (.tup (k.map kV))):B7 H a (.ref b) (Dh XG k):=.inr ⟨XG,k,b,.inl e,rfl,eb,rfl⟩
theorem Hg.k{H:Hp}{a:Addr}{XG:List (Key×V)}{k:Key}{v:V}(e:H a=some (.dK XG))(hl:XG.length<sizeLine):Hg H a (kV k) v (upd H a (.dK (putK XG k v))):=.inl ⟨XG,k,e,rfl,hl,rfl⟩
theorem Hg.t{H:Hp}{a b:Addr}{XG:List (List Key×V)}{k:List Key}{v:V}(e:H a=some (.dT XG))(eb:H b=some (.tup (k.map kV)))(hl:XG.length<sizeLine) :
  Hg H a (.ref b) v (upd H a (.dT (putK XG k v))):=.inr ⟨XG,k,b,e,rfl,eb,hl,rfl⟩
section
variable{X:Cx}{XY:ZY}{Z:St}{H:Hp}{s:Shared}{a:Addr}{y v:V}{u r:Value}{o:Option V}{A:Around}{E:ZW}
theorem Inv.big(I:Inv X XY Z H s):sysModules<s.heap.objs.size:=by
 have h:mainGlobals<s.heap.objs.size:=(I.mod.glob.keeps I.bk).lt;exact Nat.lt_trans (by decide) h
theorem xn{Q:ZW}(hu:A.units+1<cLine)(I:Inv X XY Z H s)(g:B7 H a y (some v))(ry:RelV y u)(h:∀w' s',Inv X XY Z H s'->RelV v w'->Q w' s') :
  wpAny (model X.prog X.w) A (getItem (.ref a) u) Q E s:=by
 rcases g with ⟨XG,k,e,ey,l⟩ | ⟨XG,k,b,e,ey,eb,l⟩
 .subst ey;obtain⟨z,hd,vs,rel,dd⟩:=Gb I.hok e;obtain⟨w',hw,X3⟩:=Bj.some_of (v:=v) (o:=valueAt vs k) (by rw[l];exact rel.val k);exact wpAny_getItem_of (W1 ry) dd.mapOf hw (h w' _ (I.tok _) X3)
 .subst ey;cases(show u=Value.ref b from ry);obtain⟨z,hd,xs,rel,dd⟩:=C2 I.hok e;obtain⟨w',hw,X3⟩:=Bj.some_of (v:=v) (o:=(atKey xs k).map (·.2)) (by rw[l];exact rel.val k);obtain⟨p,hp,hp2⟩:=Yk.mp hw;refine wpAny_getItem_heap (tupleKind_room_in1 hu) (N5 I.hok eb) dd hp ?_;rw[hp2];exact h w' _ (I.tok _) X3
theorem d_in{Q:ZW}(hu:A.units+1<cLine)(I:Inv X XY Z H s)(g:B7 H a y o)(ry:RelV y u)(h:∀s',Inv X XY Z H s'->Q (.bool o.isSome) s') :
  wpAny (model X.prog X.w) A (compareOp .In u (.ref a)) Q E s:=by
 rcases g with ⟨XG,k,e,ey,l⟩ | ⟨XG,k,b,e,ey,eb,l⟩
 .subst ey;obtain⟨z,hd,vs,rel,dd⟩:=Gb I.hok e;refine wpAny_in_of (W1 ry) hd dd.mapOf ?_;rw[<-(rel.val k).isSome_eq, <-l];exact h _ (I.tok _)
 .subst ey;cases(show u=Value.ref b from ry);obtain⟨z,hd,xs,rel,dd⟩:=C2 I.hok e;refine wpAny_in_heap (tupleKind_room_in1 hu) (N5 I.hok eb) hd dd ?_;have q:=(rel.val k).isSome_eq;rw[Option.isSome_map]at q;rw[<-q, <-l];exact h _ (I.tok _)
theorem Zze{Q:ZW}(hu:A.units+1<cLine)(I:Inv X XY Z H s)(g:B7 H a y o)(ry:RelV y u)(h:∀s',Inv X XY Z H s'->Q (.bool (!o.isSome)) s') :
  wpAny (model X.prog X.w) A (compareOp .NotIn u (.ref a)) Q E s:=by
 rcases g with ⟨XG,k,e,ey,l⟩ | ⟨XG,k,b,e,ey,eb,l⟩
 .subst ey;obtain⟨z,hd,vs,rel,dd⟩:=Gb I.hok e;refine wpAny_notIn_of (W1 ry) hd dd.mapOf ?_;rw[<-(rel.val k).isSome_eq, <-l];exact h _ (I.tok _)
 .subst ey;cases(show u=Value.ref b from ry);obtain⟨z,hd,xs,rel,dd⟩:=C2 I.hok e;refine wpAny_notIn_heap (tupleKind_room_in1 hu) (N5 I.hok eb) hd dd ?_;have q:=(rel.val k).isSome_eq;rw[Option.isSome_map]at q;rw[<-q, <-l];exact h _ (I.tok _)
theorem Qg{h':Heap}{t':Nat}{ob:HO}(I:Inv X XY Z H s)(mu:Mut (H a))(hs:Heap.SameBut a s.heap h')(he:∃q,h'.get? a=some q)(new:Ze X.prog X.w (upd H a ob) h' a ob) :
  Inv X XY Z (upd H a ob) { s with heap:=h',toks:=t' } :=
 I.write (x:=a) (e:=a) mu (.inl rfl) (fun b q hb z=>(hs.2 b hb).trans z) he new
theorem Ki{P:Program}{w:World}{H':Hp}{h':Heap}{XG:List (Key×V)}{vs:List (Key×Value)}(z:XG.length<=sizeLine)(hd:(a == sysModules)=false)(rel:KV XG vs)(dd:h'.DictOf (Zh P w) a vs) :
  Ze P w H' h' a (.dK XG):=⟨z,hd,vs,rel,dd⟩
theorem xt{H':Hp}{Q:ZA}(hu:A.units+1<cLine)(I:Inv X XY Z H s)(g:Hg H a y v H')(ry:RelV y u)(rv:RelV v r)(h:∀s',Inv X XY Z H' s'->Q () s') :
  wpAny (model X.prog X.w) A (setItem (.ref a) u r) Q E s:=by
 rcases g with ⟨XG,k,e,ey,l,eH⟩ | ⟨XG,k,b,e,ey,eb,l,eH⟩
 .subst ey eH;obtain⟨z,hd,vs,rel,dd⟩:=Zqq I.hok e;have hz:vs.length<=sizeLine:=by rw[<-rel.length];exact z
  have hl:(putK XG k v).length<=sizeLine:=by have:=G1 XG k v;omega
  refine wpAny_setItem_pairs (hsz:=hz) (W1 ry) dd fun h' dd' hs=>h _ ?_;have he:∃q,h'.get? a=some q:=let ⟨q,_,_,hq,_⟩:=dd';⟨q,hq⟩;exact Qg I (by rw[e];exact True.intro) hs he (Ki hl hd (rel.put k rv) dd')
 .subst ey eH;cases(show u=Value.ref b from ry);obtain⟨z,hd,xs,rel,dd⟩:=dt_of I.hok e;have hz:xs.length<=sizeLine:=by rw[<-Paired.length rel];exact z
  have hl:(putK XG k v).length<=sizeLine:=by have:=G1 XG k v;omega
  refine wpAny_setItem_heap (hsz:=hz) (tupleKind_room_in1 hu) (N5 I.hok eb) dd fun h' dd' hs=>h _ ?_;obtain⟨q,es,ep,hq,h2,h3,h4,_,h5⟩:=dd';refine Qg I (by rw[e];exact True.intro) hs ⟨q,hq⟩ ⟨hl,hd,_,(rel.put k eb rv).keeps fun c ys ec=>?_,q,es,ep,hq,h2,h3,h4,h5⟩;rw[Zz (ne_of ec e (fun z=>nomatch z))];exact ec
end
section
variable{X:Cx}{XY:ZY}{Z:St}{H:Hp}{s:Shared}{a:Addr}{XG:List (Key×V)}{k:Key}{u:Value}{A:Around}{E:ZW}
theorem Zz0{Q:ZW}(I:Inv X XY Z H s)(e:H a=some (.dK XG))(h:∀s',Inv X XY Z (upd H a (.dK [])) s'->Q .none s'):wpAny (model X.prog X.w) A (call (.builtin "dict.clear") [.ref a]) Q E s:=by
 obtain⟨z,hd,vs,rel,dd⟩:=Zqq I.hok e;refine call_meetsIn PySem.F.slot_dict_clear dd.typeIs PySem.F.entry_dict_clear (PySem.F.args_dict_clear_1 _) (meets_dict_clear (Zh X.prog X.w) a) ⟨vs,dd,by rw[<-rel.length];exact z,fun h' dd' hs=>h _ ?_⟩;have he:∃q,h'.get? a=some q:=let ⟨q,_,_,hq,_⟩:=dd';⟨q,hq⟩;exact Qg (t':=s.toks) I (by rw[e];exact True.intro) hs he (Ki (Bw _) hd .nil dd')
theorem d_len{Q:ZW}(I:Inv X XY Z H s)(e:Rd H a (.dK XG))(h:∀t s',Inv X XY Z H s'->Q (.int XG.length t) s'):wpAny (model X.prog X.w) A (call (.builtin "len") [.ref a]) Q E s:=by
 obtain⟨z,hd,vs,rel,dd⟩:=Gb I.hok e;refine call_len_dict hd dd (by rw[<-rel.length];rw[sizeLine_eq]at z;omega) ?_;rw[<-rel.length];exact h _ _ (I.tok _)
end
theorem O8{X:Cx}{XY:ZY}{Z:St}{H:Hp}{s:Shared}{a:Addr}{y:V}{o:Option V}(I:Inv X XY Z H s)(g:B7 H a y o):s.TypeIs (.ref a) "dict" := by
 rcases g with ⟨XG,k,e,_,_⟩ | ⟨XG,k,b,e,_,_,_⟩
 .obtain⟨_,_,vs,_,dd⟩:=Gb I.hok e;exact dd.typeIs
 .obtain⟨_,_,xs,_,dd⟩:=C2 I.hok e;exact dd.typeIs
inductive Aw(D:Ends)(Z:St)(v:V)(x:V)(y:V)(H3:Hp):Prop
 | mk(a H4)(Vg:x=.ref a)(Vb:Hg H3 a y v H4)(Jg:D.nx Z H4):Aw D Z v x y H3
def sDPut(td ty tv:TE):TS:=fun D Z H=>tv Z H fun v H1=>td Z H1 fun x H2=>ty Z H2 fun y H3=>Aw D Z v x y H3
section
variable{X:Cx}{o i e value:Expr}{pos pos' tpos:Pos}{td ty tv:TE}
theorem u9(hu:X.A.units+1<cLine)(ho:PE X o td)(hi:PE X i ty)(hv:PE X value tv)(hs:swapsWith value (some (.Subscript o i pos')) pos.line X.env=pure false) :
  PS X (.Assign [.Subscript o i pos'] value pos) (sDPut td ty tv):=by
 intro XY s Z H D I h;refine wpAny_Assign_Subscript (Yz (hv XY s Z H _ I h) fun r s1 ⟨v,H1,I1,rv,q1⟩=>Yz (ho XY s1 Z H1 _ I1 q1) fun u s2 ⟨x,H2,I2,rx,q2⟩=>Yz (hi XY s2 Z H2 _ I2 q2) fun iv s3 ⟨y,H3,I3,ry,a,H4,ex,g,q3⟩=>?_) hs;subst ex;obtain rfl:u=Value.ref a:=rx;exact xt hu I3 g ry rv fun s4 I4=>⟨Z,H4,I4,q3⟩
end
theorem dz{P:Program}{w:World}{H:Hp}(h:Heap)(hb:sysModules<h.objs.size):Ze P w H (h.push { cls:=.type "dict",data:=.dict #[] }) h.objs.size (.dK []) :=
 ⟨Bw _,B0n.mpr (Ne.symm (Ba hb)),[],.nil,Heap.DictOf.new h⟩
def tDNewK:TE:=fun _ H Q=>∀p,H p=none->Q (.ref p) (upd H p (.dK []))
section
variable{X:Cx}{pos:Pos}
theorem kb:PE X (.Dict [] [] pos) tDNewK:=fun XY s Z H Q I h =>
 wpAny_Dict_empty ⟨.ref s.heap.objs.size,_,I.laid (a:=s.heap.objs.size) (o:=.dK []) (t':=s.toks) (fun _ _ q=>Vs _ q) (Z5 _) (dz s.heap I.big),rfl,h _ (I.hok.fresh (Z5 _))⟩
end
structure M2(X:Cx)(o:Expr)(m:Str)(apos:Pos)(e f:Expr)(cpos:Pos):Prop where
 base:attributeBase o m X.env (eval o X.env)=eval o X.env
 few:((backTo cpos (starEach [e,f] X.env)).all (fun x=>!x.1) && (backToKw cpos (keywordEach [] X.env)).all (fun x=>x.1.isSome)
  && decide (([e,f]:ZC).length+([]:List Keyword).length+(if ([]:List Keyword).isEmpty then 0 else 1)<30))=true
 line:(apos.endLine == cpos.line)=true
 trees:backTo cpos (starEach [e,f] X.env)=[(false,eval e X.env),(false,eval f X.env)]
def Zqu(H:Hp)(a:Addr):Prop:=(∃XG,Rd H a (.dK XG))\/∃XG,Rd H a (.dT XG)
theorem Co{X:Cx}{XY:ZY}{Z:St}{H:Hp}{s:Shared}{a:Addr}(I:Inv X XY Z H s)(d:Zqu H a) :
  s.TypeIs (.ref a) "dict" /\ (∀b,Value.ref a=.ref b->∃ob,s.heap.get? b=some ob/\ob.dict=none)/\(a == sysModules)=false:=by
 rcases d with ⟨XG,e⟩ | ⟨XG,e⟩
 .obtain⟨_,hd,vs,_,dd⟩:=Gb I.hok e;refine⟨dd.typeIs,fun b q=>?_,hd⟩;cases q;obtain⟨ob,_,_,h1,h2,_⟩:=dd;exact⟨ob,h1,h2.2.1⟩
 .obtain⟨_,hd,xs,_,dd⟩:=C2 I.hok e;refine⟨dd.typeIs,fun b q=>?_,hd⟩;cases q;obtain⟨ob,_,_,h1,h2,_⟩:=dd;exact⟨ob,h1,h2.2.1⟩
section
variable{X:Cx}{XY:ZY}{Z:St}{H:Hp}{s:Shared}{a:Addr}{y d:V}{u r:Value}{o:Option V}{A:Around}{E:ZW}
theorem d_get2{Q:ZW}(hu:A.units+1<cLine)(I:Inv X XY Z H s)(g:B7 H a y o)(ry:RelV y u)(rd:RelV d r)(h:∀w' s',Inv X XY Z H s'->RelV (o.getD d) w'->Q w' s') :
  wpAny (model X.prog X.w) A (call (.builtin "dict.get") [.ref a,u,r]) Q E s:=by
 rcases g with ⟨XG,k,e,ey,l⟩ | ⟨XG,k,b,e,ey,eb,l⟩
 .subst ey;obtain⟨z,hd,vs,rel,dd⟩:=Gb I.hok e;refine call_meetsIn PySem.F.slot_dict_get dd.typeIs PySem.F.entry_dict_get (PySem.F.args_dict_get_3 _ _ _) (meets_dict_get_default (Zh X.prog X.w) a (W1 ry) hd r) ⟨_,dd.mapOf,h _ _ (I.tok _) ?_⟩;rw[l];exact(rel.val k).getD rd
 .subst ey;cases(show u=Value.ref b from ry);obtain⟨z,hd,xs,rel,dd⟩:=C2 I.hok e;refine call_meetsIn PySem.F.slot_dict_get dd.typeIs PySem.F.entry_dict_get (PySem.F.args_dict_get_3 _ _ _) (meetsH_dict_get_default (tupleKind (Zh X.prog X.w)) a b hd r) ⟨tupleKind_room_in1 hu,k,xs,N5 I.hok eb,dd,h _ _ (I.tok _) ?_⟩;rw[l];exact(rel.val k).getD rd
end
inductive Pb(ty:TE)(tx:TE)(Z:St)(Q:VK)(x:V)(H1:Hp):Prop
 | mk(a)(Vg:x=.ref a)(Vb:Zqu H1 a)(Jg:ty Z H1 fun y H2=>tx Z H2 fun z H3=>∃o,B7 H3 a y o/\Q (o.getD z) H3):Pb ty tx Z Q x H1
def tDGet2(td ty tx:TE):TE:=fun Z H Q=>td Z H fun x H1=>Pb ty tx Z Q x H1
section
variable{X:Cx}{o e f:Expr}{apos cpos:Pos}{td ty tx:TE}
theorem kc(hu:X.A.units+1<cLine)(ho:PE X o td)(he:PE X e ty)(hf:PE X f tx)(m:M2 X o "get" apos e f cpos):PE X (.Call (.Attribute o "get" apos) [e,f] [] cpos) (tDGet2 td ty tx):=by
 intro XY s Z H Q I h;refine wpAny_Call_method m.base m.few m.line PySem.F.plainAttrs_dict PySem.F.slot_dict_get PySem.F.type_dict_get (Yz (ho XY s Z H _ I h) fun u s1 ⟨x,H1,I1,rx,a,ex,d,q1⟩=>?_);subst ex;obtain rfl:u=Value.ref a:=rx;obtain⟨t1,t2,_⟩:=Co I1 d;refine⟨t1,t2, ?_⟩;rw[m.trees]
 refine Calls.callWith_builtin rfl (Calls.evalArgs_plain (Calls.spliced_cons (Yz (he XY s1 Z H1 _ I1 q1) fun iv s2 ⟨y,H2,I2,ry,q2⟩ =>
  Calls.spliced_cons (Yz (hf XY s2 Z H2 _ I2 q2) fun fv s3 ⟨z,H3,I3,rz,ov,g,q3⟩=>Calls.spliced_nil ?_))))
 exact d_get2 hu I3 g ry rz fun w' s4 I4 X3=>⟨_,H3,I4,X3,q3⟩
end
section
variable{X:Cx}{XY:ZY}{Z:St}{H:Hp}{s:Shared}{a:Addr}{XG:List (Key×V)}{A:Around}{E:ZW}
theorem dj{Q:ZW}(I:Inv X XY Z H s)(e:Rd H a (.dK XG))(h:∀p s',H p=none->Inv X XY Z (upd H p (.dK XG)) s'->Q (.ref p) s'):wpAny (model X.prog X.w) A (call (.type "dict") [.ref a]) Q E s:=by
 obtain⟨z,hd,vs,rel,dd⟩:=Gb I.hok e;refine kt_call_dict hd dd (by rw[<-rel.length];exact z) fun h' dd' hs=>?_;refine h _ _ (I.hok.fresh (Z5 _)) (I.laid (a:=s.heap.objs.size) (o:=.dK XG) (t':=s.toks) (fun b q hq=>?_) (Z5 _) (Ki z (B0n.mpr (Ne.symm (Ba I.big))) rel dd'));exact(hs.2 b (Ba (Vh hq))).trans (Vs _ hq)
end
section
variable{X:Cx}{XY:ZY}{Z:St}{H:Hp}{s:Shared}{a:Addr}{y:V}{u:Value}{A:Around}{E:ZW}
end
section
variable{X:Cx}
end
section
variable{Z:Type}[DecidableEq Z]
end
section
variable{X:Cx}{XY:ZY}{Z:St}{H:Hp}{s:Shared}
theorem Inv.freeze{d:Addr}{XG:List (Key×V)}(I:Inv X XY Z H s)(e:H d=some (.dK XG)):∃o,s.heap.get? d=some o/\Inv X XY Z (upd H d (.frz o (.dK XG))) s:=by
 obtain⟨z,y,vs,r,o,es,ep,ho,c⟩:=(show Ze X.prog X.w H s.heap d (.dK XG) from I.hok d _ e)
 have ne:∀{b:Addr} {u:HO},H b=some u->(∀k,u≠.dK k)->b≠d:=fun h n z=>by
  rw[z,e]at h;cases h;exact n _ rfl
 refine⟨o,ho, ?_⟩;refine I.step (g':=s.gens) (d':=s.drawn) (t':=s.toks) (h':=s.heap) (ch:=[]) (fun _ z=>nomatch z) (fun _ _ _ _ _ h _=>h) (fun _ o _ _ _ h _=>⟨o.slots,h⟩) (fun b _ _ _ n=>?_) (fun _ o _ h=>⟨o,h⟩) (fun b xs h=>?_) (fun b o u h=>?_) (fun b ps h=>⟨#[], ?_⟩) (fun _ h=>h) (fun b u h=>?_) I.bare
 .rw[Zz (fun z=>by rw[z,e]at n;cases n)];exact n
 .rw[Zz (ne h fun _ z=>nomatch z)];exact h
 .rw[Zz (ne h fun _ z=>nomatch z)];exact h
 .rw[Zz (ne h fun _ z=>nomatch z),h];simp
 .by_cases q:b=d
  .subst q;rw[Zq]at h;cases h;exact⟨ho,z,y,vs,r,o,es,ep,ho,c⟩
  .rw[Zz q]at h;refine(I.hok b u h).stay (fun c v hc q=>q) (fun c q=>?_) fun c xs q=>?_
   .rw[Zz (ne q fun _ z=>nomatch z)];exact q
   .rw[Zz (ne q fun _ z=>nomatch z)];exact q
noncomputable def Itd(d:Addr)(o:Obj)(XG:List (Key×V)):It :=
 ⟨fun i H=>i<XG.length/\H d=some (.frz o (.dK XG)),fun i H v H'=>H'=H/\∃k x,XG[i]?=some (k,x)/\v=kV k,fun i H=>XG.length<=i/\H d=some (.frz o (.dK XG))⟩
theorem at_of{d:Addr}{o:Obj}{XG:List (Key×V)}(I:Inv X XY Z H s)(e:H d=some (.frz o (.dK XG))):∃vs es ep,(d == sysModules)=false/\KV XG vs/\o.data=.dict es ep/\s.heap.DictAt (Zh X.prog X.w) d vs ep:=by
 obtain⟨ho,z,y,vs,r,o',es,ep,Q7,c⟩:=(show Ze X.prog X.w H s.heap d (.frz o (.dK XG)) from I.hok d _ e);rw[ho]at Q7;cases Q7;exact⟨vs,es,ep,y,r,c.2.1,o,es,ho,c⟩
theorem KV.at{Z:Type}:∀{XG:List (Z×V)} {vs:List (Z×Value)} {i:Nat} {k:Z} {x:V},KV XG vs->XG[i]?=some (k,x)->∃v,vs[i]?=some (k,v)
 | [],_,i,k,x,_,e=>by simp at e
 | a::XG,_,0,k,x,.cons h t,e=>by
  rename_i b bs
  simp at e;subst e;exact⟨b.2,by rw[show k=b.1 from h.1];rfl⟩
 | a::XG,_,i+1,k,x,.cons h t,e=>by
  obtain⟨v,e'⟩:=KV.at (i:=i) t (by simpa using e);exact⟨v,by simpa using e'⟩
theorem fq{P:Program}{w:World}{k:Key}{u:Value}(h:(Zh P w).is k u=true):RelV (kV k) u:=by
 rcases Zi (show Mo k u=true from h) with ⟨j,t,rfl,rfl⟩ | ⟨x,t,rfl,rfl⟩
 .exact⟨t,rfl⟩
 .exact⟨t,rfl⟩
theorem Xr{P:Program}{w:World}{K:W.Frag}{tg:Expr}(d it:Addr)(o:Obj)(XG:List (Key×V))(es:Array DictEntry)(ep:Nat)(ho:o.data=.dict es ep) :
  Turn P w K tg (Itd d o XG) [it] it (fun i h=>h.IsKeyIter it d i XG.length ep) where
 mem:=by simp
 obj:=fun i h st b hb=>by
  have e:b=it:=by simpa using hb
  subst e;obtain⟨o,e,c,d⟩:=st;exact⟨o,e,fun v z=>by rw[d]at z;cases z⟩
 keep:=fun i h h' st k=>by
  obtain⟨o,e,c,d⟩:=st;exact⟨o,k it (by simp) o e,c,d⟩
 item:=by
  intro X hP hw hK hc i XY s Z H E I hf st hg;subst hP hw hK;obtain⟨hi,hd⟩:=hg;obtain⟨vs,es',ep',y,r,e',m⟩:=at_of I hd;rw[ho]at e';cases e';obtain⟨f0,f1,f2,f3,f4,f5⟩:=hf it (by simp);obtain⟨v,hv⟩:=KV.at (i:=i) (k:=XG[i].1) (x:=XG[i].2) r (Dx hi);have ln:=r.length;refine wpAny_pyNext_dict_item (by rw[<-ln];exact st) m hv fun key h' hk T4 sb=>?_;have I1:Inv X XY Z H { s with heap:=h' }:=I.turned (t':=s.toks) (fun b o hb e=>(sb.2 b hb).trans e) f0 f1 f3 f4 f5;obtain⟨oo,e,c,dd⟩:=id T4;exact⟨key,rfl,W6 (s:={ s with heap:=h' }) e c dd (by decide) ⟨kV XG[i].1,H,I1,fq hk,⟨rfl,_,_,Dx hi,rfl⟩,by rw[ln];exact T4,fun b hb=>(hf b hb).1⟩⟩
 done:=by
  intro X hP hw hK hc i XY s Z H E I hf st hg;subst hP hw hK;obtain⟨hi,hd⟩:=hg;obtain⟨vs,es',ep',y,r,e',m⟩:=at_of I hd;rw[ho]at e';cases e';obtain⟨f0,f1,f2,f3,f4,f5⟩:=hf it (by simp);have ln:=r.length;exact wpAny_pyNext_dict_end (I.ok.hd hc) (by rw[<-ln];exact st) m (List.getElem?_eq_none (by omega)) fun h' eb=>⟨rfl,I.turned (t':=s.toks) (fun b o hb e=>eb b o hb e) f0 f1 f3 f4 f5⟩
 self:=fun _ _ _ _ _ st h=>wpAny_pyIter_keyiter st h
inductive D7(xs:ZQ)(H:Hp)(Q:VK):Prop
 | mk(a:Addr)(XG:List (Key×V))(Vg:xs=[.ref a])(Vb:Rd H a (.dK XG))(Jg:∀p,H p=none->Q (.ref p) (upd H p (.dK XG))):D7 xs H Q
theorem Sj:Y7 X (.type "dict") (fun xs H Q=>D7 xs H Q):=by
 intro XY s Z H xs us Q I r h;obtain⟨a,XG,rfl,e,q⟩:=h;obtain⟨u,rfl,rx⟩:=vals1 r;cases rx;exact dj I e fun p s' hp I'=>⟨.ref p,_,I',rfl,q p hp⟩
end
noncomputable def cellOf(H:Hp)(l:Addr):Option V:=match H l with
 | some (.lst (x::_))=>some x
 | _=>none
end L2
namespace ZipT
open PySem
theorem Uk{h h':Heap}{b i t:Addr}{k:Nat}(st:h.IsTupleIter i t k)(e:Heap.ExtBut b h h')(n:i≠b):h'.IsTupleIter i t k:=let ⟨o,ho,r⟩:=st;⟨o,e _ _ n ho,r⟩
theorem tupK{h h':Heap}{b t:Addr}{xs:ZN}(st:h.IsTuple t xs)(e:Heap.ExtBut b h h')(n:t≠b):h'.IsTuple t xs:=let ⟨o,ho,r⟩:=st;⟨o,e _ _ n ho,r⟩
section
variable{prog:Program}{w:World}{A:Around}{E:ZW}{s:Shared}{z TI TO i1 i2 t1 t2:Addr}{k:Nat}{xs ys:ZN}{x y a b:Value}
theorem itemT{Q:ZW}(D:ZipApart z TI TO i1 i2 t1 t2)(hz:IsZip s.heap z TI TO .none)(hI:IsPair s.heap TI (.ref i1) (.ref i2))(hO:IsPair s.heap TO a b)(j1:s.heap.IsTupleIter i1 t1 k)(j2:s.heap.IsTupleIter i2 t2 k)(p1:s.heap.IsTuple t1 xs)(p2:s.heap.IsTuple t2 ys)(hx:xs[k]?=some x)(hy:ys[k]?=some y)
  (q:∀h',IsZip h' z TI TO (rawInt s.heap.objs.size)->IsPair h' TO x y->h'.IsTupleIter i1 t1 (k+1)->h'.IsTupleIter i2 t2 (k+1)->IsPair h' s.heap.objs.size x y->h'.objs.size=s.heap.objs.size+1->(∀c o,c≠z->c≠TO->c≠i1->c≠i2->s.heap.get? c=some o->h'.get? c=some o)->Q (.ref s.heap.objs.size) { s with heap:=h' }) :
  wpAny (model prog w) A (Builtin.«zip.__next__» ⟨[.ref z],[]⟩) (fun fin s'=>∃v,fin=.done (.ret v)/\Q v s') E s:=by
 show wpAny _ _ (field (.ref z) 2 >>= _) _ _ _;refine Za (wpAny_field hz rfl (x:=.bool false) rfl ?_);show wpAny _ _ (field (.ref z) 3 >>= _) _ _ _;refine Za (wpAny_field hz rfl (x:=.ref TI) rfl (Za (wpAny_seqItems hI rfl ?_)));show wpAny _ _ (Builtin.SmallTypes.ownedTupleIsFree (.ref z) >>= _) _ _ _;refine Za ?_;unfold Builtin.SmallTypes.ownedTupleIsFree;refine Za (wpAny_field hz rfl (x:=.none) rfl (V1 ?_));simp only[if_true];refine Za (wpAny_rule (Za (wpAny_field hz rfl (x:=.ref TO) rfl ?_)));refine Za (wpAny_setField_rec hz (by simp) fun g1 qv e1=>?_);replace qv:IsZip g1 z TI TO .ellipsis:=qv;refine Za ?_;simp only[List.zipIdx_cons,List.zipIdx_nil,List.forIn_cons,List.forIn_nil];refine Za (Za (wpAny_onRaise ?_));show wpAny _ _ (Builtin.SmallTypes.nextOf (.ref i1) >>= _) _ _ _;refine Za (EnuT.nextT (Uk j1 e1.extBut D.i1z) (tupK p1 e1.extBut D.l1z) hx fun g2 j12 e2=>V1 ?_);have hO2:IsPair g2 TO a b:=e2.extBut _ _ D.TOi1 (e1.extBut _ _ D.TOz hO);refine Za (wpAny_seqItems hO2 rfl (Za (wpAny_updateSeq_pair hO2 fun g3 hO3 e3=>?_)));replace hO3:IsPair g3 TO x b:=hO3;refine Za (wpAny_letGo (V1 (Za (Za (wpAny_onRaise ?_)))));show wpAny _ _ (Builtin.SmallTypes.nextOf (.ref i2) >>= _) _ _ _;refine Za (EnuT.nextT (Uk (Uk (Uk j2 e1.extBut D.i2z) e2.extBut D.i12.symm) e3.extBut D.TOi2.symm) (tupK (tupK (tupK p2 e1.extBut D.l2z) e2.extBut D.l2i1) e3.extBut D.l2TO) hy fun g4 j24 e4=>V1 ?_);have hO4:IsPair g4 TO x b:=e4.extBut _ _ D.TOi2 hO3;refine Za (wpAny_seqItems hO4 rfl (Za (wpAny_updateSeq_pair hO4 fun g5 hO5 e5=>?_)));replace hO5:IsPair g5 TO x y:=hO5;refine Za (wpAny_letGo (V1 (V1 (Za (wpAny_seqItems hO5 rfl (Za (wpAny_newTuple ?_)))))));have sz:g5.objs.size=s.heap.objs.size:=by rw[e5.1,e4.1,e3.1,e2.1,e1.1]
 have hz5:IsZip g5 z TI TO .ellipsis:=e5.extBut _ _ D.TOz.symm (e4.extBut _ _ D.i2z.symm (e3.extBut _ _ D.TOz.symm (e2.extBut _ _ D.i1z.symm qv)));have kp:∀c o,c≠z->c≠TO->c≠i1->c≠i2->s.heap.get? c=some o->g5.get? c=some o:=fun c o c1 c2 c3 c4 e=>e5.extBut _ _ c2 (e4.extBut _ _ c4 (e3.extBut _ _ c2 (e2.extBut _ _ c3 (e1.extBut _ _ c1 e))));have j15:g5.IsTupleIter i1 t1 (k+1):=Uk (Uk (Uk j12 e3.extBut D.TOi1.symm) e4.extBut D.i12) e5.extBut D.TOi1.symm;have j25:g5.IsTupleIter i2 t2 (k+1):=Uk j24 e5.extBut D.TOi2.symm;have zl:z<g5.objs.size:=Vh hz5;show wpAny _ _ (Builtin.SmallTypes.ownedTupleHandOut (.ref z) (.ref g5.objs.size) >>= _) _ _ _;refine Za ?_;unfold Builtin.SmallTypes.ownedTupleHandOut;have hz6:IsZip (g5.push { cls:=.type "tuple",data:=.seq #[x,y] }) z TI TO .ellipsis:=Vs _ hz5;refine Za (wpAny_setField_rec hz6 (by simp) fun g7 hz7 e7=>?_);replace hz7:IsZip g7 z TI TO (rawInt g5.objs.size):=hz7;refine wpAny_setField_rec hz7 (by simp) fun g8 hz8 e8=>?_;replace hz8:IsZip g8 z TI TO (rawInt g5.objs.size):=hz8;have up:∀c o,c≠z->g5.get? c=some o->g8.get? c=some o:=fun c o c1 e=>e8.extBut _ _ c1 (e7.extBut _ _ c1 (Vs _ e));have hT8:IsPair g8 g5.objs.size x y:=e8.extBut _ _ (Nat.ne_of_gt zl) (e7.extBut _ _ (Nat.ne_of_gt zl) (Bv _ rfl));have sz8:g8.objs.size=g5.objs.size+1:=by rw[e8.1,e7.1,Heap.size_push]
 rw[sz]at hz8 hT8 sz8;refine V1 ⟨_,rfl, ?_⟩;show Q (.ref g5.objs.size) _;rw[sz];exact q g8 hz8 (up _ _ D.TOz hO5) (let ⟨o,ho,r⟩:=j15;⟨o,up _ _ D.i1z ho,r⟩) (let ⟨o,ho,r⟩:=j25;⟨o,up _ _ D.i2z ho,r⟩) hT8 sz8 fun c o c1 c2 c3 c4 e=>up c o c1 (kp c o c1 c2 c3 c4 e)
theorem endT{Q:Fin->Shared->Prop}(hh:A.handled=none)(D:ZipApart z TI TO i1 i2 t1 t2)(hz:IsZip s.heap z TI TO .none)(hI:IsPair s.heap TI (.ref i1) (.ref i2))(hO:IsPair s.heap TO a b)(j1:s.heap.IsTupleIter i1 t1 k)(j2:s.heap.IsTupleIter i2 t2 k)(p1:s.heap.IsTuple t1 xs)(p2:s.heap.IsTuple t2 ys)(ba:xs[k]?=none\/ys[k]?=none)
  (q:∀h' e,(∀c o,c≠z->c≠TO->c≠i1->c≠i2->s.heap.get? c=some o->h'.get? c=some o)->(∃o,h'.get? e=some o/\o.cls=.type "StopIteration")->E (.ref e) { s with heap:=h' }) :
  wpAny (model prog w) A (Builtin.«zip.__next__» ⟨[.ref z],[]⟩) Q E s:=by
 show wpAny _ _ (field (.ref z) 2 >>= _) _ _ _;refine Za (wpAny_field hz rfl (x:=.bool false) rfl ?_);show wpAny _ _ (field (.ref z) 3 >>= _) _ _ _;refine Za (wpAny_field hz rfl (x:=.ref TI) rfl (Za (wpAny_seqItems hI rfl ?_)));show wpAny _ _ (Builtin.SmallTypes.ownedTupleIsFree (.ref z) >>= _) _ _ _;refine Za ?_;unfold Builtin.SmallTypes.ownedTupleIsFree;refine Za (wpAny_field hz rfl (x:=.none) rfl (V1 ?_));simp only[if_true];refine Za (wpAny_rule (Za (wpAny_field hz rfl (x:=.ref TO) rfl ?_)));refine Za (wpAny_setField_rec hz (by simp) fun g1 qv e1=>?_);replace qv:IsZip g1 z TI TO .ellipsis:=qv;refine Za ?_;simp only[List.zipIdx_cons,List.zipIdx_nil,List.forIn_cons,List.forIn_nil];refine Za (Za (wpAny_onRaise ?_));show wpAny _ _ (Builtin.SmallTypes.nextOf (.ref i1) >>= _) _ _ _;cases hx:xs[k]? with
 | none =>
  refine Za (EnuT.endT hh (Uk j1 e1.extBut D.i1z) (tupK p1 e1.extBut D.l1z) hx fun g2 e e2 he=>?_);obtain⟨oe,hoe,hce⟩:=he;have hz2:IsZip g2 z TI TO .ellipsis:=e2 _ _ D.i1z.symm qv;have ez:e≠z:=fun v=>by subst v;rw[hz2]at hoe;cases hoe;simp at hce
  exact wpAny_setField_rec hz2 (by simp) fun g3 _ e3=>q g3 e (fun c o c1 _ c3 _ v=>e3.extBut _ _ c1 (e2 _ _ c3 (e1.extBut _ _ c1 v))) ⟨oe,e3.extBut _ _ ez hoe,hce⟩
 | some x =>
  have hy:ys[k]?=none:=by rcases ba with h | h;rw[hx]at h;cases h;exact h
  refine Za (EnuT.nextT (Uk j1 e1.extBut D.i1z) (tupK p1 e1.extBut D.l1z) hx fun g2 j12 e2=>V1 ?_);have hO2:IsPair g2 TO a b:=e2.extBut _ _ D.TOi1 (e1.extBut _ _ D.TOz hO);refine Za (wpAny_seqItems hO2 rfl (Za (wpAny_updateSeq_pair hO2 fun g3 hO3 e3=>?_)));refine Za (wpAny_letGo (V1 (Za (Za (wpAny_onRaise ?_)))));show wpAny _ _ (Builtin.SmallTypes.nextOf (.ref i2) >>= _) _ _ _;refine Za (EnuT.endT hh (Uk (Uk (Uk j2 e1.extBut D.i2z) e2.extBut D.i12.symm) e3.extBut D.TOi2.symm) (tupK (tupK (tupK p2 e1.extBut D.l2z) e2.extBut D.l2i1) e3.extBut D.l2TO) hy fun g4 e e4 he=>?_);obtain⟨oe,hoe,hce⟩:=he;have hz4:IsZip g4 z TI TO .ellipsis:=e4 _ _ D.i2z.symm (e3.extBut _ _ D.TOz.symm (e2.extBut _ _ D.i1z.symm qv));have ez:e≠z:=fun v=>by subst v;rw[hz4]at hoe;cases hoe;simp at hce
  exact wpAny_setField_rec hz4 (by simp) fun g5 _ e5=>q g5 e (fun c o c1 c2 c3 c4 v=>e5.extBut _ _ c1 (e4 _ _ c4 (e3.extBut _ _ c2 (e2.extBut _ _ c3 (e1.extBut _ _ c1 v))))) ⟨oe,e5.extBut _ _ ez hoe,hce⟩
theorem gc{Q:ZT->Shared->Prop}(D:ZipApart z TI TO i1 i2 t1 t2)(hz:IsZip s.heap z TI TO .none)(hI:IsPair s.heap TI (.ref i1) (.ref i2))(hO:IsPair s.heap TO a b)(j1:s.heap.IsTupleIter i1 t1 k)(j2:s.heap.IsTupleIter i2 t2 k)(p1:s.heap.IsTuple t1 xs)(p2:s.heap.IsTuple t2 ys)(hx:xs[k]?=some x)(hy:ys[k]?=some y)
  (q:∀h',IsZip h' z TI TO (rawInt s.heap.objs.size)->IsPair h' TO x y->h'.IsTupleIter i1 t1 (k+1)->h'.IsTupleIter i2 t2 (k+1)->IsPair h' s.heap.objs.size x y->h'.objs.size=s.heap.objs.size+1->(∀c o,c≠z->c≠TO->c≠i1->c≠i2->s.heap.get? c=some o->h'.get? c=some o)->Q (some (.ref s.heap.objs.size)) { s with heap:=h' }) :
  wpAny (model prog w) A (pyNext (.ref z)) Q E s:=by
 have T:s.TypeIs (.ref z) "zip" := ⟨_,hz,rfl⟩;unfold pyNext;exact Za (wpAny_attempt (wpAny_callSpecial?_slot (name:=Str.ofString "__next__") T F.slot_zip_next (wpAny_call_entry F.slot_zip_next T F.entry_zip_next (itemT D hz hI hO j1 j2 p1 p2 hx hy fun h' a1 a2 a3 a4 a5 a6 a7=>V1 (q h' a1 a2 a3 a4 a5 a6 a7)) (F.args_zip_next_1 _))))
theorem o6{Q:ZT->Shared->Prop}(hh:A.handled=none)(D:ZipApart z TI TO i1 i2 t1 t2)(hz:IsZip s.heap z TI TO .none)(hI:IsPair s.heap TI (.ref i1) (.ref i2))(hO:IsPair s.heap TO a b)(j1:s.heap.IsTupleIter i1 t1 k)(j2:s.heap.IsTupleIter i2 t2 k)(p1:s.heap.IsTuple t1 xs)(p2:s.heap.IsTuple t2 ys)(ba:xs[k]?=none\/ys[k]?=none)
  (q:∀h',(∀c o,c≠z->c≠TO->c≠i1->c≠i2->s.heap.get? c=some o->h'.get? c=some o)->Q none { s with heap:=h' }):wpAny (model prog w) A (pyNext (.ref z)) Q E s:=by
 have T:s.TypeIs (.ref z) "zip" := ⟨_,hz,rfl⟩;unfold pyNext;refine Za (wpAny_attempt (wpAny_callSpecial?_slot (name:=Str.ofString "__next__") T F.slot_zip_next (wpAny_call_entry F.slot_zip_next T F.entry_zip_next (endT hh D hz hI hO j1 j2 p1 p2 ba fun h' e hk he=>?_) (F.args_zip_next_1 _))));obtain⟨o,ho,hc⟩:=he;exact Za (wpAny_isInstance (T:="StopIteration") (b:=true) ⟨o,ho,hc⟩ isSubtype_stop (V1 (q _ hk)))
end
noncomputable abbrev H1(h:Heap)(l1:Addr):Heap:=h.push { cls:=.type "tuple_iterator",data:=.fields #[.ref l1,.int 0 0] }
noncomputable abbrev H2(h:Heap)(l1 l2:Addr):Heap:=(H1 h l1).push { cls:=.type "tuple_iterator",data:=.fields #[.ref l2,.int 0 0] }
noncomputable abbrev H3(h:Heap)(l1 l2:Addr):Heap:=(H2 h l1 l2).push { cls:=.type "tuple",data:=.seq #[.ref h.objs.size,.ref (H1 h l1).objs.size] }
noncomputable abbrev H4(h:Heap)(l1 l2:Addr):Heap:=(H3 h l1 l2).push { cls:=.type "tuple",data:=.seq #[.none,.none] }
noncomputable abbrev H5(h:Heap)(l1 l2:Addr):Heap:=(H4 h l1 l2).push { cls:=.type "zip",data:=.fields #[.none,.bool false,.bool false,.ref (H2 h l1 l2).objs.size,.ref (H3 h l1 l2).objs.size] }
theorem meets(l1 l2:Addr)(xs ys:ZN) :
  Meets (Builtin.«zip.__new__» ⟨[.type "zip",.ref l1,.ref l2],[]⟩) (fun _ R s=>s.heap.IsTuple l1 xs/\s.heap.IsTuple l2 ys /\
   R (.ok (.ret (.ref (H4 s.heap l1 l2).objs.size))) { s with heap:=H5 s.heap l1 l2 }) :=
 .of_wp fun prog w A R s h=>by
  obtain⟨hp,g,d,tk,os⟩:=s;obtain⟨hl1,bp,h⟩:=h;have hsub:=sub_zip;have hL1:Heap.IsTuple (Shared.heap ⟨hp,g,d,tk,os⟩) l1 xs:=hl1;have hL2:Heap.IsTuple (Shared.heap ⟨hp.push { cls:=.type "tuple_iterator",data:=.fields #[.ref l1,.int 0 0] },g,d,tk,os⟩) l2 ys:=let ⟨o,ho,r⟩:=bp;⟨o,Vs _ ho,r⟩
  wp_walk using wpAny_pyIter_tuple hL1,wpAny_pyIter_tuple hL2
  exact⟨_,rfl,h⟩
theorem call2{prog:Program}{w:World}{A:Around}{E:ZW}{s:Shared}{l1 l2:Addr}{xs ys:ZN}{Q:ZW}(hl1:s.heap.IsTuple l1 xs)(bp:s.heap.IsTuple l2 ys)
  (h:∀h',IsZip h' (s.heap.objs.size+4) (s.heap.objs.size+2) (s.heap.objs.size+3) .none->IsPair h' (s.heap.objs.size+2) (.ref s.heap.objs.size) (.ref (s.heap.objs.size+1)) ->
   IsPair h' (s.heap.objs.size+3) .none .none->h'.IsTupleIter s.heap.objs.size l1 0->h'.IsTupleIter (s.heap.objs.size+1) l2 0->h'.objs.size=s.heap.objs.size+5 ->
   (∀c o,s.heap.get? c=some o->h'.get? c=some o)->Q (.ref (s.heap.objs.size+4)) { s with heap:=h' }) :
  wpAny (model prog w) A (call (.type "zip") [.ref l1,.ref l2]) Q E s:=by
 refine callType_new F.called_zip (by decide) (F.typeCall_zip_2 _ _) (F.newCall_zip_2 _ _) (fun obj=>F.args_object_init_3 obj _ _) F.entry_zip_new (meets l1 l2 xs ys) ⟨hl1,bp, ?_⟩;have z1:(H1 s.heap l1).objs.size=s.heap.objs.size+1:=Heap.size_push ..;have z2:(H2 s.heap l1 l2).objs.size=s.heap.objs.size+2:=by rw[Heap.size_push,z1]
 have z3:(H3 s.heap l1 l2).objs.size=s.heap.objs.size+3:=by rw[Heap.size_push,z2]
 have z4:(H4 s.heap l1 l2).objs.size=s.heap.objs.size+4:=by rw[Heap.size_push,z3]
 have z5:(H5 s.heap l1 l2).objs.size=s.heap.objs.size+5:=by rw[Heap.size_push,z4]
 have g5:(H5 s.heap l1 l2).get? (H4 s.heap l1 l2).objs.size=some _:=Bv _ rfl;have g4:(H5 s.heap l1 l2).get? (H3 s.heap l1 l2).objs.size=some _:=Vs _ (Bv _ rfl);have g3:(H5 s.heap l1 l2).get? (H2 s.heap l1 l2).objs.size=some _:=Vs _ (Vs _ (Bv _ rfl));have g2:(H5 s.heap l1 l2).get? (H1 s.heap l1).objs.size=some _:=Vs _ (Vs _ (Vs _ (Bv _ rfl)));have g1:(H5 s.heap l1 l2).get? s.heap.objs.size=some _:=Vs _ (Vs _ (Vs _ (Vs _ (Bv _ rfl))));show _/\_;rw[z2,z3,z4]at g5;rw[z1,z2]at g3;rw[z3]at g4;rw[z1]at g2;rw[z4]
 exact⟨⟨_,g5,rfl⟩,h _ g5 g3 g4 ⟨_,g1,rfl,rfl⟩ ⟨_,g2,rfl,rfl⟩ z5 fun c o x =>
  Vs _ (Vs _ (Vs _ (Vs _ (Vs _ x))))⟩
end ZipT
namespace L2
open PySem PySem.Spec PyProof.Rows
def Itzt(K:W.Frag)(l1 l2:Addr):It :=
  ⟨fun i H=>∃xs ys x y,Vc K H l1 xs/\Vc K H l2 ys/\xs[i]?=some x/\ys[i]?=some y,
   fun i H v H'=>∃p x y,v=.ref p/\H p=none/\H'=upd H p (.tup [x,y])/\(∀xs,Vc K H l1 xs->xs[i]?=some x)/\∀ys,Vc K H l2 ys->ys[i]?=some y,
   fun i H=>∃xs ys,Vc K H l1 xs/\Vc K H l2 ys/\(xs.length<=i\/ys.length<=i)⟩
theorem Xt{P:Program}{w:World}{K:W.Frag}{es:ZC}{k:Nat}{pos:Pos}(z TI TO i1 i2 l1 l2:Addr)(D:ZipApart z TI TO i1 i2 l1 l2) :
  Turn P w K (.Tuple es k pos) (Itzt K l1 l2) [z,TI,TO,i1,i2] z (fun i h=>IsZip h z TI TO .none/\IsPair h TI (.ref i1) (.ref i2)/\(∃a b,IsPair h TO a b)/\h.IsTupleIter i1 l1 i/\h.IsTupleIter i2 l2 i) where
 mem:=by simp
 obj:=fun i h st b hb=>by
  obtain⟨hz,Fs,⟨a,c,Oo⟩,⟨o1,e1,_,d1⟩,⟨o2,e2,_,d2⟩⟩:=st;simp only[Y6,Vy,or_false]at hb;rcases hb with rfl | rfl | rfl | rfl | rfl
  .exact⟨_,hz,fun v q=>nomatch q⟩
  .exact⟨_,Fs,fun v q=>nomatch q⟩
  .exact⟨_,Oo,fun v q=>nomatch q⟩
  .exact⟨_,e1,fun v q=>by rw[d1]at q;cases q⟩
  .exact⟨_,e2,fun v q=>by rw[d2]at q;cases q⟩
 keep:=fun i h h' st hk=>by
  obtain⟨hz,Fs,⟨a,b,Oo⟩,h1,h2⟩:=st;exact⟨hk z (by simp) _ hz,hk TI (by simp) _ Fs,⟨a,b,hk TO (by simp) _ Oo⟩,(let ⟨o,ho,r⟩:=h1;⟨o,hk i1 (by simp) o ho,r⟩),(let ⟨o,ho,r⟩:=h2;⟨o,hk i2 (by simp) o ho,r⟩)⟩
 item:=by
  intro X hP hw hK hc i XY s Z H E I hf st hg;subst hP hw hK;obtain⟨xs,ys,x,y,q1,q2,g1,g2⟩:=hg;obtain⟨hz,Fs,⟨a,b,Oo⟩,h1,h2⟩:=st;obtain⟨nj,v1,R5,z1⟩:=I.tuple q1;obtain⟨i4,v2,R4,z2⟩:=I.tuple q2;obtain⟨u1,e1,r1⟩:=v1.get g1;obtain⟨u2,e2,r2⟩:=v2.get g2;refine ZipT.gc D hz Fs Oo h1 h2 (show s.heap.IsTuple l1 nj.toArray from R5) (show s.heap.IsTuple l2 i4.toArray from R4) (x:=u1) (y:=u2) (by simpa using e1) (by simpa using e2) fun h' a1 a2 a3 a4 a5 a6 hk=>?_;refine⟨_,rfl,wpAny_letOwnedTupleGo_zip (s:={ s with heap:=h' }) a1 fun bo Rl Q6=>?_⟩;have lt:∀{c o},s.heap.get? c=some o->s.heap.objs.size≠c:=fun e=>Nat.ne_of_gt (Vh e);have nz:s.heap.objs.size≠z:=lt hz
  have kk:∀c u,c ∉ [z,TI,TO,i1,i2]->s.heap.get? c=some u->bo.get? c=some u:=fun c u m e=>by
   simp only[Y6,Vy,or_false,not_or]at m;exact Q6.extBut _ _ m.1 (hk c u m.1 m.2.2.1 m.2.2.2.1 m.2.2.2.2 e)
  have fresh:=I.hok.fresh (Z5 s.heap.objs.size);have J:Inv X XY Z (upd H s.heap.objs.size (.tup [x,y])) { s with heap:=bo,toks:=s.toks }:=I.turnLay kk hf (Z5 _) ⟨by show 2<=sizeLine;decide,[u1,u2],.cons r1 (.cons r2 .nil),⟨_,Q6.extBut _ _ nz a5,rfl,⟨_,rfl⟩,rfl⟩⟩;refine⟨.ref s.heap.objs.size,_,J,rfl,⟨_,x,y,rfl,fresh,rfl,fun ws hw=>by rw[I.tuple_inj hw q1];exact g1,fun ws hw=>by rw[I.tuple_inj hw q2];exact g2⟩,⟨Rl,Q6.extBut _ _ D.TIz (hk _ _ D.TIz D.TITO D.TIi1 D.TIi2 Fs),⟨_,_,Q6.extBut _ _ D.TOz a2⟩,ZipT.Uk a3 Q6.extBut D.i1z,ZipT.Uk a4 Q6.extBut D.i2z⟩,fun c hc=>?_⟩
  have nc:c≠s.heap.objs.size:=fun q=>by
   subst q;simp only[Y6,Vy,or_false]at hc;rcases hc with q | q | q | q | q
   .exact lt hz q
   .exact lt Fs q
   .exact lt Oo q
   .obtain⟨_,e,_⟩:=h1;exact lt e q
   .obtain⟨_,e,_⟩:=h2;exact lt e q
  rw[Zz nc];exact(hf c hc).1
 done:=by
  intro X hP hw hK hc i XY s Z H E I hf st hg;subst hP hw hK;obtain⟨xs,ys,q1,q2,g⟩:=hg;obtain⟨hz,Fs,⟨a,b,Oo⟩,h1,h2⟩:=st;obtain⟨nj,v1,R5,z1⟩:=I.tuple q1;obtain⟨i4,v2,R4,z2⟩:=I.tuple q2;have hl1:=v1.length;have bp:=v2.length;refine ZipT.o6 (I.ok.hd hc) D hz Fs Oo h1 h2 (show s.heap.IsTuple l1 nj.toArray from R5) (show s.heap.IsTuple l2 i4.toArray from R4) (by rcases g with g | g;exact .inl (by simp;omega);exact .inr (by simp;omega)) fun h' hk=>⟨rfl,I.turnL (t':=s.toks) (fp:=[z,TI,TO,i1,i2]) (fun c u m e=>?_) hf⟩;simp only[Y6,Vy,or_false,not_or]at m;exact hk c u m.1 m.2.2.1 m.2.2.2.1 m.2.2.2.2 e
 self:=fun A i s Q E st h=>wpAny_pyIter_zip st.1 h
inductive A8(K:W.Frag)(R:(It->Hp->Prop))(vs:ZQ)(H1:Hp):Prop
 | mk(p q)(Vg:vs=[.ref p,.ref q])(Vb:(∃xs,Vc K H1 p xs))(Jg:(∃ys,Vc K H1 q ys))(S8:R (Itzt K p q) H1):A8 K R vs H1
def iZipT(K:W.Frag)(t:TA):TI:=fun Z H R=>t Z H fun vs H1=>A8 K R vs H1
section
variable{X:Cx}{es:ZC}{k:Nat}{p2 pos Y9:Pos}{a b:Expr}{t:TA}
theorem az(ee:Gl X "zip")(eg:X.mg "zip" = none)(ha:PA X [a,b] t)
  (he2:starEach [a,b] X.env=(false,eval a X.env)::starEach [b] X.env:=by rfl) (W5:(backTo Y9 (starEach [b] X.env)).any (·.1)=false:=by rfl) :
  PI X (.Tuple es k pos) (.Call (.Name "zip" p2) [a,b] [] Y9) (iZipT X.K t):=by
 intro XY s Z H R I h;refine wpAny_Call_Name_kw (U8 I ee eg (by decide +kernel:bootBuiltins "zip" = some (.type "zip")) ?_ (by decide) (by decide));refine callWith_type1 (Yz (ha Y9 XY s Z H _ I h) fun us s1 ⟨vs,H1,I1,r1,q1⟩=>?_) he2 W5;obtain⟨l1,l2,rfl,⟨xs,hx⟩,⟨ys,hy⟩,q⟩:=q1;obtain⟨u1,u2,rfl,e1,e2⟩:=vals2 r1;cases e1;cases e2;obtain⟨nj,v1,R5,z1⟩:=I1.tuple hx;obtain⟨i4,v2,R4,z2⟩:=I1.tuple hy;have n1:l1<s1.heap.objs.size:=by obtain⟨_,e,_⟩:=(show s1.heap.IsTuple l1 nj.toArray from R5);exact Vh e
 have n2:l2<s1.heap.objs.size:=by obtain⟨_,e,_⟩:=(show s1.heap.IsTuple l2 i4.toArray from R4);exact Vh e
 refine ZipT.call2 (show s1.heap.IsTuple l1 nj.toArray from R5) (show s1.heap.IsTuple l2 i4.toArray from R4) fun h2 b1 b2 b3 b4 b5 b6 k2=>?_;refine wpAny_pyIter_zip (s:={ s1 with heap:=h2 }) b1 ?_;have J:Inv X XY Z H1 { s1 with heap:=h2,toks:=s1.toks }:=I1.kept k2;refine⟨_,[s1.heap.objs.size+4,s1.heap.objs.size+2,s1.heap.objs.size+3,s1.heap.objs.size,s1.heap.objs.size+1],_,_,H1,rfl,J,Xt _ _ _ _ _ l1 l2 (zipApart_new n1 n2),⟨b1,b2,⟨_,_,b3⟩,b4,b5⟩,fun c hc=>?_,q⟩
 have ge:s1.heap.objs.size<=c:=by
  simp only[Y6,Vy,or_false]at hc;rcases hc with q | q | q | q | q<;>rw[q]<;>first | exact Z5 _ | exact Nat.le_add_right _ _
 exact I1.fpOk ge (I1.hok.fresh ge)
end
section
variable{X:Cx}
end
def ItnL(K:W.Frag)(a:Addr)(xs:ZQ):It :=
  ⟨fun i H=>i<xs.length/\Ud K H a xs,
   fun i H v H'=>∃p x,v=.ref p/\H p=none/\H'=upd H p (.tup [.int i,x])/\xs[i]?=some x,
   fun i H=>xs.length<=i/\Ud K H a xs⟩
theorem El{P:Program}{w:World}{K:W.Frag}{es:ZC}{k:Nat}{pos:Pos}(e it a:Addr)(xs:ZQ)(hei:e≠it)(hae:a≠e)(hai:a≠it) :
  Turn P w K (.Tuple es k pos) (ItnL K a xs) [e,it] e (fun i h=>i<=xs.length/\(∃old,IsEnum h e it ((i:Nat):Int) old)/\h.IsListIter it a i) where
 mem:=by simp
 obj:=fun i h st b hb=>by
  obtain⟨_,⟨old,he⟩,⟨o,eo,_,d⟩⟩:=st;simp only[Y6,Vy,or_false]at hb;rcases hb with rfl | rfl
  .exact⟨_,he,fun v q=>nomatch q⟩
  .exact⟨_,eo,fun v q=>by rw[d]at q;cases q⟩
 keep:=fun i h h' st hk=>by
  obtain⟨hi,⟨old,he⟩,ht⟩:=st;exact⟨hi,⟨old,hk e (by simp) _ he⟩,ht.at fun o eo=>hk it (by simp) o eo⟩
 item:=by
  intro X hP hw hK hc i XY s Z H E I hf st hg;subst hP hw hK;obtain⟨Kr,hq⟩:=hg;obtain⟨hi,⟨old,he⟩,ht⟩:=st;obtain⟨its,rv,p,_⟩:=I.list hq;have hx:xs[i]?=some xs[i]:=Dx Kr;obtain⟨u,hu,ru⟩:=rv.get hx;have hsz:its.toArray.size=xs.length:=by rw[Jz];exact rv.length.symm
  refine wpAny_pyNext_enum_itemD (Draws.list (A:=X.A.in1) (I.ok.hd hc) it a hai its.toArray) he ⟨ht,p.isList⟩ (by omega) hei (by simp only[Y6,Vy,or_false,not_or];exact⟨hei,fun q=>hae q.symm⟩) fun y h' tk py ho T4 ht' Rl hk=>?_
  have ey:y=u:=by
   have z:its.toArray[i]?=some u:=by simpa using hu
   exact D8 (py.symm.trans z)
  subst ey;refine⟨_,rfl,wpAny_letOwnedTupleGo_enum (s:={ s with heap:=h',toks:=tk+1 }) ho fun bo he'' Kl=>?_⟩;have lt:∀{c o},s.heap.get? c=some o->s.heap.objs.size≠c:=fun q=>Nat.ne_of_gt (Vh q);have ne:s.heap.objs.size≠e:=lt he
  have kk:∀c o,c ∉ [e,it]->s.heap.get? c=some o->bo.get? c=some o:=fun c o m q=>by
   simp only[Y6,Vy,or_false,not_or]at m;exact Kl.extBut _ _ m.1 (hk c o m.1 m.2 q)
  have J:Inv X XY Z (upd H s.heap.objs.size (.tup [.int i,xs[i]])) { s with heap:=bo,toks:=tk+1 }:=I.turnLay kk hf (Z5 _) ⟨by show 2<=sizeLine;decide,[.int i tk,y],.cons ⟨tk,rfl⟩ (.cons ru .nil),⟨_,Kl.extBut _ _ ne ht',rfl,⟨_,rfl⟩,rfl⟩⟩;refine⟨.ref s.heap.objs.size,_,J,rfl,⟨_,_,rfl,I.hok.fresh (Z5 _),rfl,hx⟩,⟨by omega,⟨_,by have:=he'';simpa using this⟩,T4.1.extBut Kl.extBut (fun q=>hei q.symm)⟩,fun c hc=>?_⟩
  have nc:c≠s.heap.objs.size:=fun q=>by
   subst q;simp only[Y6,Vy,or_false]at hc;rcases hc with q | q
   .exact lt he q
   .obtain⟨_,eo,_⟩:=ht;exact lt eo q
  rw[Zz nc];exact(hf c hc).1
 done:=by
  intro X hP hw hK hc i XY s Z H E I hf st hg;subst hP hw hK;obtain⟨hge,hq⟩:=hg;obtain⟨hi,⟨old,he⟩,ht⟩:=st;obtain⟨its,rv,p,_⟩:=I.list hq;have hsz:its.toArray.size=xs.length:=by rw[Jz];exact rv.length.symm
  have ei:i=its.toArray.size:=by omega
  rw[ei]at ht;refine wpAny_pyNext_enum_endD (Draws.list (A:=X.A.in1) (I.ok.hd hc) it a hai its.toArray) he ⟨ht,p.isList⟩ fun h' eb=>⟨rfl,I.turnL (t':=s.toks) (fp:=[e,it]) (fun c u m q=>?_) hf⟩;simp only[Y6,Vy,or_false,not_or]at m;exact eb c u m.2 q
 self:=fun A i s Q E st h=>by
  obtain⟨_,⟨old,he⟩,_⟩:=st;exact wpAny_pyIter_enum he h
inductive Ot(K:W.Frag)(R:(It->Hp->Prop))(vs:ZQ)(H1:Hp):Prop
 | mk(p xs)(Vg:vs=[.ref p])(Vb:Ud K H1 p xs)(Jg:R (ItnL K p xs) H1):Ot K R vs H1
def iEnumL(K:W.Frag)(t:TA):TI:=fun Z H R=>t Z H fun vs H1=>Ot K R vs H1
section
variable{X:Cx}{es:ZC}{k:Nat}{p2 pos Y9:Pos}{a:Expr}{t:TA}
theorem y6(ee:Gl X "enumerate")(eg:X.mg "enumerate" = none)(ha:PA X [a] t)
  (he2:starEach [a] X.env=(false,eval a X.env)::starEach [] X.env:=by rfl) (W5:(backTo Y9 (starEach [] X.env)).any (·.1)=false:=by rfl) :
  PI X (.Tuple es k pos) (.Call (.Name "enumerate" p2) [a] [] Y9) (iEnumL X.K t):=by
 intro XY s Z H R I h;refine wpAny_Call_Name_kw (U8 I ee eg (by decide +kernel:bootBuiltins "enumerate" = some (.type "enumerate")) ?_ (by decide) (by decide));refine callWith_type1 (Yz (ha Y9 XY s Z H _ I h) fun us s1 ⟨vs,H1,I1,r1,q1⟩=>?_) he2 W5;obtain⟨l,xs,rfl,hx,q⟩:=q1;obtain⟨u1,rfl,e1⟩:=vals1 r1;cases e1;obtain⟨its,rv,pl,z⟩:=I1.list hx;have nl:l<s1.heap.objs.size:=by obtain⟨_,e,_⟩:=pl.isList;exact Vh e
 refine call_enumerate_list pl.isList fun h2 b1 b2 _ k2=>?_;refine wpAny_pyIter_enum (s:={ s1 with heap:=h2 }) b1 ?_;have J:Inv X XY Z H1 { s1 with heap:=h2,toks:=s1.toks }:=I1.kept k2;refine⟨_,[s1.heap.objs.size+1,s1.heap.objs.size],_,_,H1,rfl,J,El _ _ l xs (Nat.succ_ne_self _) (Ba (Nat.lt_succ_of_lt nl)) (Ba nl),⟨Bw _,⟨_,b1⟩,b2⟩,fun c hc=>?_,q⟩
 have ge:s1.heap.objs.size<=c:=by
  simp only[Y6,Vy,or_false]at hc;rcases hc with q | q<;>rw[q]<;>first | exact Z5 _ | exact Nat.le_add_right _ _
 exact I1.fpOk ge (I1.hok.fresh ge)
end
section
variable{X:Cx}{XY:ZY}{Z:St}{H:Hp}{s:Shared}
end
section
variable{X:Cx}
end
def Rb(c:Addr)(q:Str):HO:=.ext fun h=>h.CodeRec (.ref c) q
def cx(H:Hp)(lp:Pos)(q:Str)(ps:ZN):Prop:=TriplesOk ps.toList/\(codeAmong lp ps.toList=none\/∃c',codeAmong lp ps.toList=some (.ref c')/\H c'=some (Rb c' q))
structure LamAt(X:Cx)(P:Addr):Prop where
 c:∃c,X.env.code=.ref c/\∀h,X.K.In h->W.CodeHd h c P
 bi:∀h,X.K.In h->h.BuiltinsAt X.mg P
 ne:mainGlobals≠P
section
variable{X:Cx}{XY:ZY}{Z:St}{H:Hp}{s:Shared}
theorem Fq{h h':Heap}{L:Addr}{m:ZV}(n:h.Ns L m)(k:∀o,h.get? L=some o->h'.get? L=some o):h'.Ns L m :=
 let ⟨o,es,ep,e,r⟩:=n
 ⟨o,es,ep,k o e,r⟩
theorem Rb.ok{P:Program}{w:World}{H':Hp}{h:Heap}{c:Addr}{q:Str}(k:h.CodeRec (.ref c) q):Ze P w H' h c (Rb c q):=by
 refine⟨k, ?_,fun h1 h2 k1 e=>?_⟩
 .obtain⟨c1,o,vs,t,e,ho,_⟩:=k;cases e;exact⟨o,ho⟩
 .obtain⟨c1,o,vs,t,ec,ho,r⟩:=k1;cases ec;exact⟨c,o,vs,t,rfl,e o ho,r⟩
theorem Rb.code{P:Program}{w:World}{H':Hp}{h:Heap}{c:Addr}{q:Str}(x:Mm P w H' h)(e:H' c=some (Rb c q)):h.CodeRec (.ref c) q:=(x c _ e).1
end
noncomputable def N3(h:Heap)(L:Addr):Heap:={ h with objs:=h.objs.extract 0 L }
theorem A0{h:Heap}{L b:Nat}:(N3 h L).objs[b]?=if b<L then h.objs[b]? else none:=by
 show (h.objs.extract 0 L)[b]?=_;rw[Array.getElem?_extract];simp only[Nat.zero_add,Nat.sub_zero];by_cases hb:b<L
 .rw[if_pos hb];by_cases hc:b<h.objs.size
  .rw[if_pos (by omega)]
  .rw[if_neg (by omega),Array.getElem?_eq_none (by omega)]
 .rw[if_neg hb,if_neg (by omega)]
theorem Cr{h:Heap}{L b:Addr}{o:Obj}(e:h.get? b=some o)(hb:b<L):(N3 h L).get? b=some o:=by
 unfold Heap.get? at e ⊢;rw[A0,if_pos hb];exact e
theorem Ae{h:Heap}{L b:Addr}{o:Obj}(e:(N3 h L).get? b=some o):h.get? b=some o/\b<L:=by
 unfold Heap.get? at e;rw[A0]at e;by_cases hb:b<L
 .rw[if_pos hb]at e;exact⟨e,hb⟩
 .rw[if_neg hb]at e;cases e
noncomputable def Ge(h:Heap)(L:Addr):ZY:=(List.range h.objs.size).filterMap fun b=>if b<=L then none else (h.get? b).map fun o=>(b,o)
theorem Jv{h:Heap}{L b:Addr}{o:Obj}:(b,o)∈Ge h L↔L<b/\h.get? b=some o:=by
 unfold Ge;rw[List.mem_filterMap];constructor
 .rintro⟨x,hx,e⟩;by_cases z:x<=L
  .rw[if_pos z]at e;cases e
  .rw[if_neg z]at e;obtain⟨o',e1,e2⟩:=Yk.mp e;cases e2;exact⟨Nat.lt_of_not_le z,e1⟩
 .rintro⟨hb,e⟩;refine⟨b,List.mem_range.mpr (Vh e), ?_⟩;rw[if_neg (Nat.not_le.mpr hb),e];rfl
theorem Ze.has{P:Program}{w:World}{H:Hp}{h:Heap}{a:Addr}{o:HO}(x:Ze P w H h a o):∃u,h.get? a=some u:=by
 cases o with
 | lst xs=>obtain⟨_,_,_,_,e⟩:=x;exact⟨_,e⟩
 | tup xs=>obtain⟨_,_,_,o,e,_⟩:=x;exact⟨_,e⟩
 | dK XG=>obtain⟨_,_,_,_,o,_,_,e,_⟩:=x;exact⟨_,e⟩
 | dT XG=>obtain⟨_,_,_,_,o,_,_,e,_⟩:=x;exact⟨_,e⟩
 | set S n=>obtain⟨o,_,_,_,e,_⟩:=x;exact⟨_,e⟩
 | ins C dx fs=>obtain⟨_,_,_,e,_⟩:=x;exact⟨_,e⟩
 | own y=>exact x
 | xd fs=>obtain⟨_,⟨_,_,_,e,_⟩,_⟩:=x;exact⟨_,e⟩
 | rng lo hi=>obtain⟨_,_,_,e⟩:=x;exact⟨_,e⟩
 | frz ob u=>obtain⟨e,_⟩:=x;exact⟨_,e⟩
 | tbl ps=>exact⟨_,(show h.get? a=some _ from x)⟩
 | met f y=>exact⟨_,(show h.get? a=some _ from x)⟩
 | ext φ=>obtain⟨_,e,_⟩:=x;exact e
theorem ib{h h':Heap}{L:Addr}{m:ZV}{own:ZY}(f:Fr (N3 h L) L h' m)(n:News (N3 h L) L h' own)(hs:∀p∈Ge h L,p∈own):∀b o,b≠L->h.get? b=some o->h'.get? b=some o:=fun b o nb e=>by
 rcases Nat.lt_trichotomy b L with z | z | z
 .exact f.keep b o (Cr e z)
 .exact absurd z nb
 .exact(n (b,o) (hs _ (Jv.mpr ⟨z,e⟩))).1
section
variable{X:Cx}{e:Expr}{te:TA}{p pos lp kp p0 p1 p2 p3:Pos}
end
end L2
namespace PySem.Heap
end PySem.Heap
namespace L2
open PySem PySem.Spec PyProof.Rows
section
variable{X:Cx}{x y:Str}{p p2 pos Y9:Pos}{a b:Expr}{t:TA}
end
end L2
namespace DicP2
open PySem PySem.Spec PyProof.Rows
section
variable{prog:Program}{w:World}{K:Type}[DecidableEq K]{knd:PySem.KeyKind prog w K}
variable{A:Around}{R:Result->Shared->Prop}{E:ZW}{s:Shared}{d it t:Addr}{its:ZN}{rs:List (K×Value)}
end
end DicP2
namespace L2
open PySem PySem.Spec PyProof.Rows
section
variable{X:Cx}{XY:ZY}{Z:St}{H:Hp}{s:Shared}
theorem Inv.lay2{h':Heap}{D:Addr}{u:HO}{t':Nat}(I:Inv X XY Z H s){m:ZV}(hn:s.heap.Ns X.env.locals m)(bc:h'.Ns X.env.locals m)(ka:∀b o,b≠X.env.locals->s.heap.get? b=some o->h'.get? b=some o)(nD:s.heap.get? D=none)
  (new:Ze X.prog X.w (upd H D u) h' D u):Inv X XY Z (upd H D u) { s with heap:=h',toks:=t' }/\H D=none:=by
 have fD:H D=none:=by
  cases eo:H D with
  | none=>rfl
  | some u =>
   obtain⟨o,e⟩:=(I.hok D u eo).has;rw[e]at nD;cases nD
 refine⟨?_,fD⟩;have ne:∀{b:Addr} {o:Obj},s.heap.get? b=some o->b≠D:=fun {b o} e z=>by rw[z,nD]at e;cases e
 have neH:∀{b:Addr} {u:HO},H b=some u->b≠D:=fun {b u} e z=>by rw[z,fD]at e;cases e
 refine I.step (h':=h') (g':=s.gens) (d':=s.drawn) (t':=t') (ch:=[]) (H':=upd H D u) (fun _ z=>nomatch z)
  (fun b o nl _ _ e _=>ka b o nl e) (fun b o nl _ _ e _=>⟨o.slots,ka b o nl e⟩) (fun b o _ e n=>by rw[Zz (ne e)];exact n) (fun b o _ e=>?_) (fun b xs e=>by rw[Zz (neH e)];exact e) (fun b o u e=>by rw[Zz (neH e)];exact e) (fun b qs e=>⟨#[],by rw[Zz (neH e),e];simp⟩) (fun m' hm=>?_) (fun b v e=>?_) I.bare
 .by_cases z:b=X.env.locals
  .obtain⟨o2,_,_,e2,_⟩:=bc;exact⟨o2,by rw[z];exact e2⟩
  .exact⟨o,ka b o z e⟩
 .have em:m'=m:=by
   obtain⟨o2,es,ep,e2,d2,_,r2⟩:=hm;obtain⟨o3,es3,ep3,e3,d3,_,r3⟩:=hn;rw[e2]at e3;cases e3;rw[d2]at d3;cases d3;exact funext fun x=>(r2 x).symm.trans (r3 x)
  rw[em];exact bc
 .by_cases z:b=D
  .subst z;rw[Zq]at e;cases e;exact new
  .rw[Zz z]at e;refine(I.hok b v e).stay (fun d v hd q=>ka d v ?_ q) (fun d q=>by rw[Zz (neH q)];exact q) fun d xs q=>by rw[Zz (neH q)];exact q
   rcases hd with rfl | hd
   .exact fun zz=>by rw[zz,I.free]at e;cases e
   .exact fun zz=>by rw[zz,I.free]at hd;cases hd
theorem Inv.frame(I:Inv X XY Z H s):∃m,s.heap.Ns X.env.locals m/\Fr (N3 s.heap X.env.locals) X.env.locals s.heap m/\News (N3 s.heap X.env.locals) X.env.locals s.heap (Ge s.heap X.env.locals):=by
 obtain⟨m,hn,_⟩:=id I.loc
 have lsz:(N3 s.heap X.env.locals).objs.size<=X.env.locals:=by
  show (s.heap.objs.extract 0 X.env.locals).size<=_;rw[Array.size_extract];omega
 refine⟨m,hn,⟨hn,fun b o e=>(Ae e).1,lsz⟩,fun p hp=>?_⟩;obtain⟨b,o⟩:=p;obtain⟨h1,h2⟩:=Jv.mp hp;refine⟨h2,Nat.ne_of_gt h1, ?_⟩;cases z:(N3 s.heap X.env.locals).get? b with
 | none=>rfl
 | some o'=>exact absurd (Ae z).2 (Nat.lt_asymm h1)
theorem Inv.newAt{h':Heap}{D:Addr}{o:Obj}{m:ZV}(n':News (N3 s.heap X.env.locals) X.env.locals h' ((D,o)::Ge s.heap X.env.locals))(hD:∀q∈Ge s.heap X.env.locals,q.1<D):s.heap.get? D=none:=by
 obtain⟨_,nDL,lD⟩:=n' (D,o) Ye;cases eo:s.heap.get? D with
 | none=>rfl
 | some o =>
  exfalso
  rcases Nat.lt_trichotomy D X.env.locals with y | y | y
  .rw[Cr eo y]at lD;cases lD
  .exact nDL y
  .exact absurd (hD (D,o) (Jv.mpr ⟨y,eo⟩)) (Nat.lt_irrefl _)
end
section
variable{X:Cx}
end
section
variable{X:Cx}{XY:ZY}{Z:St}{H:Hp}{s:Shared}
end
end L2
namespace DctT
open PySem PySem.SeqAt PySem.MeetsSeq
open PySem.AutoSeq1 (wpAny_loadPart')
end DctT
namespace L2
open PySem PySem.Spec PyProof.Rows
section
variable{X:Cx}
end
section
variable{X:Cx}
end
end L2
namespace EX
open PySem
section
variable{M:Model}{A:Around}{E:ZW}{s:Shared}{env:Env}{outer:List Env}{base:Heap}{L e T:Addr}{oe oT:Obj}{vs ts:ZN}{x:Value}{Q:ZA}
end
end EX
namespace L2
open PySem PySem.Spec PyProof.Rows
section
variable(prog:Program)(w:World)(A:Around)(tg elt:Expr)(ifs:ZC)(env:Env)(it acc:Value)(E:ZW)
end
section
variable{X:Cx}{scope:Scope}{N:ZD}{fr:ZG}{tg elt iter:Expr}{ifs:ZC}{pos:Pos}{wi:TI}{g:DG}{tt:DT}{te:DE}
end
section
variable{X:Cx}{XY:ZY}{Z:St}{H:Hp}{s s':Shared}
end
section
variable{X:Cx}{scope:Scope}{N:ZD}{fr:ZG}{tg elt iter:Expr}{ifs:ZC}{pos:Pos}{wi:TI}{g:St->DG}{tt:St->DT}{te:St->DE}{W:XWT}
end
section
variable{X:Cx}
end
section
variable{X:Cx}
end
section
variable{X:Cx}
end
end L2
namespace SRT
open PySem PySem.Spec PyProof.Rows L2
noncomputable def insI(x:Int):ZL->ZL
 | []=>[x]
 | y::r=>if x<=y then x::y::r else y::insI x r
def Ep:ZL->ZL
 | []=>[]
 | x::r=>insI x (Ep r)
theorem insI_perm(x:Int):∀r:ZL,(insI x r).Perm (x::r)
 | []=>.refl _
 | y::r=>by
  unfold insI
  split
  .exact .refl _
  .exact((insI_perm x r).cons y).trans (.swap x y r)
theorem Dw:∀r:ZL,(Ep r).Perm r
 | []=>.refl _
 | x::r=>(insI_perm x _).trans ((Dw r).cons x)
theorem Od(x:Int):∀r:ZL,r.Pairwise (·<=·)->(insI x r).Pairwise (·<=·)
 | [],_=>List.pairwise_singleton _ _
 | y::r,h=>by
  rw[ZI]at h;unfold insI
  split
  .rename_i hx
   rw[ZI,ZI];exact⟨fun z m=>by rcases Y6.mp m with rfl | m;exact hx;exact Int.le_trans hx (h.1 z m),h.1,h.2⟩
  .rename_i hx
   rw[ZI];refine⟨fun z m=>?_,Od x r h.2⟩;rcases Y6.mp ((insI_perm x r).mem_iff.mp m) with rfl | m
   .omega
   .exact h.1 z m
theorem Pa:∀r:ZL,(Ep r).Pairwise (·<=·)
 | []=>List.Pairwise.nil
 | x::r=>Od x _ (Pa r)
theorem rm{a b:ZL}(h:a.Perm b)(s:a.Pairwise (·<=·)):a=Ep b :=
 List.Perm.eq_of_pairwise (fun _ _ _ _ h1 h2=>Int.le_antisymm h1 h2) s (Pa b) (h.trans (Dw b).symm)
noncomputable def Q5(a b:Str):Bool:=!decide (b.cps.toList<a.cps.toList)
noncomputable def xq(x:Str):ZD->ZD
 | []=>[x]
 | y::r=>if Q5 x y=true then x::y::r else y::xq x r
def Mz:ZD->ZD
 | []=>[]
 | x::r=>xq x (Mz r)
theorem N6(x:Str):∀r:ZD,(xq x r).Perm (x::r)
 | []=>.refl _
 | y::r=>by
  unfold xq
  split
  .exact .refl _
  .exact((N6 x r).cons y).trans (.swap x y r)
theorem Z7:∀r:ZD,(Mz r).Perm r
 | []=>.refl _
 | x::r=>(N6 x _).trans ((Z7 r).cons x)
theorem Dk{a b:Str}:Q5 a b=true↔¬ b.cps.toList<a.cps.toList:=by unfold Q5;simp
theorem We{a b c:Str}(h1:Q5 a b=true)(h2:Q5 b c=true):Q5 a c=true:=by
 rw[Dk]at *;exact List.not_lt.mpr (List.le_trans (List.not_lt.mp h1) (List.not_lt.mp h2))
theorem zi{a b:Str}(h:¬ Q5 a b=true):Q5 b a=true:=by
 rw[Dk]at *;exact fun z=>List.lt_asymm (Decidable.not_not.mp h) z
theorem Ma{a b:Str}(h1:Q5 a b=true)(h2:Q5 b a=true):a=b:=by
 rw[Dk]at *;have e:a.cps.toList=b.cps.toList:=List.le_antisymm (List.not_lt.mp h1) (List.not_lt.mp h2);cases a;cases b
 congr
 exact Array.toList_inj.mp e
theorem Om(x:Str):∀r:ZD,r.Pairwise (fun a b=>Q5 a b=true)->(xq x r).Pairwise (fun a b=>Q5 a b=true)
 | [],_=>List.pairwise_singleton _ _
 | y::r,h=>by
  rw[ZI]at h;unfold xq
  split
  .rename_i hx
   rw[ZI,ZI];exact⟨fun z m=>by rcases Y6.mp m with rfl | m;exact hx;exact We hx (h.1 z m),h.1,h.2⟩
  .rename_i hx
   rw[ZI];refine⟨fun z m=>?_,Om x r h.2⟩;rcases Y6.mp ((N6 x r).mem_iff.mp m) with rfl | m
   .exact zi hx
   .exact h.1 z m
theorem Gu:∀r:ZD,(Mz r).Pairwise (fun a b=>Q5 a b=true)
 | []=>List.Pairwise.nil
 | x::r=>Om x _ (Gu r)
theorem Ms:∀(l:ZD) (p:Str),risingS p l=true->(p::l).Pairwise (fun a b=>Q5 a b=true)
 | [],p,_=>List.pairwise_singleton _ _
 | q::l,p,h=>by
  unfold risingS at h;rw[Y8]at h;have r:=Ms l q h.2
  have h1:Q5 p q=true:=by
   have:=h.1;rw[ltCps_eq]at this;exact this
  rw[ZI];refine⟨fun z m=>?_,r⟩;rcases Y6.mp m with rfl | m
  .exact h1
  .exact We h1 ((ZI.mp r).1 z m)
theorem Lu:∀l:ZD,sortedS l=true->l.Pairwise (fun a b=>Q5 a b=true)
 | [],_=>List.Pairwise.nil
 | p::l,h=>Ms l p h
theorem rb{a b:ZD}(h:a.Perm b)(s:sortedS a=true):a=Mz b :=
 List.Perm.eq_of_pairwise (fun _ _ _ _ h1 h2=>Ma h1 h2) (Lu a s) (Gu b) (h.trans (Z7 b).symm)
section
variable{prog:Program}{w:World}{A:Around}{E:ZW}{s:Shared}
def Srt(prog:Program)(w:World)(Ok:Heap->Prop)(vs:ZM)(R:ZM->Prop):Prop:=∀(A:Around) (E:ZW) (s:Shared) (D:Addr) (Q:Shared->Prop),Ok s.heap->s.heap.get? D=some (seqObj "list" vs.toArray 0) ->
 (∀(h1:Heap) (out:ZN) (n:Nat),(∀b ob,b≠D->s.heap.get? b=some ob->h1.get? b=some ob)->h1.get? D=some (seqObj "list" out n)->R out.toList->Q { s with heap:=h1 }) ->
 wpAny (model prog w) A (call (.builtin "list.sort") [.ref D]) (fun _ s'=>Q s') E s
theorem wt{Ok:Heap->Prop}{vs:ZM}{zs:ZL}(hI:IntsAre vs zs)(h64:vs.length<64):Srt prog w Ok vs fun o=>IntsAre o (Ep zs):=by
 intro A E s D Q _ Wf h;refine wpAny_call_entry slot_list_sort ⟨_,Wf,rfl⟩ entry_list_sort ?_ (args_list_sort _);refine list_sort_tree Wf hI h64 fun out ns q1 q2 q3=>⟨_,rfl, ?_⟩;obtain⟨n,e⟩:=sortedHeap_at (h:=s.heap) (a:=D) (vs:=vs) (n:=0) (out:=out) Wf;exact h _ out n (fun b ob nb e0=>SetM.Vp nb e0) e (by rw[<-rm q2 q3];exact q1)
theorem srt_strs{Ok:Heap->Prop}{vs:ZM}{ss:ZD}(hI:StrsAre vs ss)(h64:vs.length<64):Srt prog w Ok vs fun o=>StrsAre o (Mz ss):=by
 intro A E s D Q _ Wf h;refine wpAny_call_entry slot_list_sort ⟨_,Wf,rfl⟩ entry_list_sort ?_ (args_list_sort _);refine list_sort_treeK strKind_oneLt Wf hI.keysOf (fun v1 v2 rest e=>keyKind_strs (by rw[<-e];exact hI)) h64 fun st hp hs=>⟨_,rfl, ?_⟩;obtain⟨ns,q1,q2,q3⟩:=sorted_out_str hI hp hs;obtain⟨n,e⟩:=sortedHeap_at (h:=s.heap) (a:=D) (vs:=vs) (n:=0) (out:=(arrOf st).map (·.2)) Wf;exact h _ _ n (fun b ob nb e0=>SetM.Vp nb e0) e (by rw[<-rb q2 q3];exact q1)
end
theorem W3:∀{zs:ZL} {vs:ZM},Zk (zs.map V.int) vs->IntsAre vs zs
 | [],_,h=>by cases h;exact .nil
 | z::zs,_,h=>by
  cases h with | cons a b =>
  obtain⟨t,rfl⟩:=(show ∃t,_=Value.int z t from a);exact .cons _ _ (W3 b)
theorem strs_vals:∀{zs:ZD} {vs:ZM},Zk (zs.map V.str) vs->StrsAre vs zs
 | [],_,h=>by cases h;exact .nil
 | z::zs,_,h=>by
  cases h with | cons a b =>
  obtain⟨t,rfl⟩:=(show ∃t,_=Value.str z t from a);exact .cons _ _ (strs_vals b)
theorem Nl{P:Program}{w:World}:∀{XG:List (Key×Value)} {vs:ZM},vs.length=XG.length->(∀(j:Nat) (v:Value),vs[j]?=some v->∃k x,XG[j]?=some (k,x)/\(Zh P w).is k v=true)->Zk (XG.map fun p=>kV p.1) vs
 | [],vs,l,_=>by
  cases vs with
  | nil=>exact .nil
  | cons _ _=>simp at l
 | (k,x)::r,vs,l,h=>by
  cases vs with
  | nil=>simp at l
  | cons v vs =>
   obtain⟨k',x',ek,iv⟩:=h 0 v rfl;cases(show some (k,x)=some (k',x') from ek);refine .cons ?_ (Nl (by simpa using l) fun j v hv=>h (j+1) v hv);rcases Zi (show Mo k v=true from iv) with ⟨j,t,rfl,rfl⟩ | ⟨y,t,rfl,rfl⟩
   .exact⟨t,rfl⟩
   .exact⟨t,rfl⟩
section
variable{X:Cx}
def Zxx(X:Cx)(H:Hp)(zs ys:ZQ):Prop:=ys.length=zs.length/\∀XY Z s,Inv X XY Z H s->∀vs,Zk zs vs->∃Ok:Heap->Prop,(∀h1:Heap,(∀b o,b≠X.env.locals->s.heap.get? b=some o->h1.get? b=some o)->Ok h1)/\Srt X.prog X.w Ok vs fun o=>Zk ys o
theorem Xe{H:Hp}{zs:ZL}(h:zs.length<64):Zxx X H (zs.map V.int) ((Ep zs).map V.int):=by
 refine⟨by rw[Zn,Zn,(Dw zs).length_eq],fun XY Z s I vs r=>⟨fun _=>True,fun _ _=>trivial, ?_⟩⟩;have:=wt (prog:=X.prog) (w:=X.w) (Ok:=fun _=>True) (W3 r) (by rw[<-r.length,Zn];exact h);intro A E s D Q o e q;exact this A E s D Q o e fun h1 out n k e1 r1=>q h1 out n k e1 (Nr r1)
theorem Xi{H:Hp}{zs:ZD}(h:zs.length<64):Zxx X H (zs.map V.str) ((Mz zs).map V.str):=by
 refine⟨by rw[Zn,Zn,(Z7 zs).length_eq],fun XY Z s I vs r=>⟨fun _=>True,fun _ _=>trivial, ?_⟩⟩;have:=srt_strs (prog:=X.prog) (w:=X.w) (Ok:=fun _=>True) (strs_vals r) (by rw[<-r.length,Zn];exact h);intro A E s D Q o e q;exact this A E s D Q o e fun h1 out n k e1 r1=>q h1 out n k e1 (Wm r1)
theorem Qt(hc:X.calm=true):Y7 X (.builtin "sorted") (fun xs H Q=>∃(a:Addr) (XG:List (Key×V)) (ys:ZQ),xs=[.ref a]/\Rd H a (.dK XG)/\Zxx X H (XG.map fun p=>kV p.1) ys/\∀l:Addr,H l=none->Q (.ref l) (upd H l (.lst ys))):=by
 intro XY s Z H xs us Q I r h;obtain⟨a,XG,ys,rfl,hq,⟨lv,hv⟩,q⟩:=h;obtain⟨u,rfl,rx⟩:=vals1 r;cases rx;obtain⟨z,hd,ws,rel,dd⟩:=Gb I.hok hq;obtain⟨ep,da⟩:=dd.dictAt;obtain⟨m,hn,fr,nw⟩:=I.frame;refine W.kdu_sorted (W.kdl_dict (knd:=Zh X.prog X.w) (ep:=ep) hd) (I.ok.hd hc) fr nw da (by rw[<-rel.length];exact z) fun D h' tk vs f' n' hD vl hv'=>?_
 have rv:Zk (XG.map fun p=>kV p.1) vs:=by
  have:=Nl vl hv';have e:=congrArg (List.map kV) rel.keys;rw[List.map_map,List.map_map]at e;have e:(XG.map fun p=>kV p.1)=ws.map fun p=>kV p.1:=e;rw[e];exact this
 obtain⟨Ok,ok,st⟩:=hv XY Z s I vs rv;have ka:=ib f' n' fun p hp=>Vi _ hp;have nD:=Inv.newAt (X:=X) (m:=m) n' hD;obtain⟨eD,nDL,_⟩:=n' _ Ye;have Wf:h'.get? D=some (seqObj "list" vs.toArray 0):=eD;refine st _ _ { s with heap:=h',toks:=tk } D _ (ok h' fun b o nb e=>ka b o nb e) Wf fun h2 out n k2 at2 r2=>?_;have neD:∀{b:Addr} {o:Obj},s.heap.get? b=some o->b≠D:=fun {b o} e z=>by rw[z,nD]at e;cases e
 obtain⟨J,fD⟩:=I.lay2 (h':=h2) (D:=D) (u:=.lst ys) (t':=tk) hn (Fq f'.ns fun o e=>k2 _ o (fun z=>nDL z.symm) e) (fun b o nb eb=>k2 b o (neD eb) (ka b o nb eb)) nD ⟨by rw[lv,Zn];exact z,out.toList,n,r2,by simpa using at2⟩;exact⟨.ref D,_,J,rfl,q D fD⟩
theorem K1(hc:X.calm=true):Y7 X (.type "list") (fun xs H Q=>∃(a:Addr) (XG:List (Key×V)),xs=[.ref a]/\Rd H a (.dK XG)/\∀l:Addr,H l=none->Q (.ref l) (upd H l (.lst (XG.map fun p=>kV p.1)))):=by
 intro XY s Z H xs us Q I r h;obtain⟨a,XG,rfl,hq,q⟩:=h;obtain⟨u,rfl,rx⟩:=vals1 r;cases rx;obtain⟨z,hd,ws,rel,dd⟩:=Gb I.hok hq;obtain⟨ep,da⟩:=dd.dictAt;refine W.kdl_call (W.kdl_dict (knd:=Zh X.prog X.w) (ep:=ep) hd) (I.ok.hd hc) da (by rw[<-rel.length];exact z) fun h' tk acc c k1 Wf hacc=>?_
 have rv:Zk (XG.map fun p=>kV p.1) acc.toList:=by
  have:=Nl (P:=X.prog) (w:=X.w) (XG:=ws) (vs:=acc.toList) (by rw[qg];exact hacc.1) fun j v e=>hacc.2 j v (by rw[<-Array.getElem?_toList];exact e);have e:=congrArg (List.map kV) rel.keys;rw[List.map_map,List.map_map]at e;have e:(XG.map fun p=>kV p.1)=ws.map fun p=>kV p.1:=e;rw[e];exact this
 exact⟨.ref s.heap.objs.size,_,I.put (o:=.lst (XG.map fun p=>kV p.1)) (d':=s.drawn) k1 (Z5 _) ⟨by rw[Zn];exact z,acc.toList,c,rv,by simpa using Wf⟩,rfl,q _ (I.hok.fresh (Z5 _))⟩
end
end SRT
namespace DicL
open PySem PySem.Spec PyProof.Rows
open DicP2
end DicL
namespace DicL
open PySem PySem.Spec PyProof.Rows DicP2
section
variable{prog:Program}{w:World}{K:Type}[DecidableEq K]{knd:PySem.KeyKind prog w K}
variable{A:Around}{R:Result->Shared->Prop}{E:ZW}{s:Shared}{d it t:Addr}{its:ZN}{rs:List (K×Value)}
end
end DicL
namespace SetM
open PySem PySem.Spec PyProof.Rows
section
variable{prog:Program}{w:World}{A:Around}{E:ZW}{s:Shared}
variable{K:Type}[DecidableEq K]{knd:KeyKind prog w K}
end
end SetM
namespace L2
open PySem PySem.Spec PyProof.Rows
section
variable{X:Cx}
end
end L2
namespace PySem.SeqAt
open PySem PySem.Spec PyProof.Rows PySem.Calls
section
variable{A:Around}{s:Shared}
end
end PySem.SeqAt
namespace L2
open PySem PySem.Spec PyProof.Rows
section
variable{X:Cx}{p p2 pos ap:Pos}{o:Expr}{to:TE}
end
end L2
namespace TNM
open PySem PySem.Calls PyProof.Rows SeqAt
section
variable{prog:Program}{w:World}{A:Around}{E:ZW}{s:Shared}{Q:ZW}
theorem add_bi{b:Bool}{a:Int}{t:Tok}(h:Q (.int ((if b=true then (1:Int) else 0)+a) s.toks) { s with toks:=s.toks+1 }):wpAny (model prog w) A (binaryOp .Add (.bool b) (.int a t)) Q E s :=
 binaryOp_left_gives (op:=.Add) (T:="bool") (U:="int") (by decide) rfl (fun s'=>typeIs_int s' a t) F.fills_bool_add F.fills_int_add F.sub_int_bool F.slot_bool_add F.slot_int_radd F.entry_int_add (F.args_int_add_2 _ _) (m:=.int ((if b=true then (1:Int) else 0)+a)) (by cases b<;>exact .of_eq rfl) trivial h
end
end TNM
namespace TNM
open PySem PySem.Spec PyProof.Rows L2
section
variable{X:Cx}
inductive S4(x:V)(y:V)(H:Hp)(Q:VK):Prop
 | mk(b i)(h0:x=.bl b)(h1:y=.int i)(h2:Q (.int ((if b=true then 1 else 0)+i)) H):S4 x y H Q
theorem zm:Dz X (binaryOp .Add) (fun x y H Q=>S4 x y H Q):=by
 intro XY s Z H x y v u Q I rx ry h;obtain⟨b,i,rfl,rfl,q⟩:=h;cases rx;obtain⟨t,rfl⟩:=ry;exact add_bi ⟨.int _,H,I.tok _,⟨_,rfl⟩,q⟩
end
end TNM
namespace HT
open PySem PySem.Spec PyProof.Rows
section
variable{prog:Program}{w:World}{A:Around}{E:ZW}{s:Shared}
end
end HT
namespace L2
open PySem PySem.Spec PyProof.Rows
section
variable{X:Cx}{e:Expr}{te:TE}{pos p2 p3:Pos}{j1:Nat}
end
theorem KV.at2{Z:Type}:∀{XG:List (Z×V)} {vs:List (Z×Value)} {i:Nat} {p:Z×V},KV XG vs->XG[i]?=some p->∃v,vs[i]?=some (p.1,v)/\RelV p.2 v
 | [],_,i,p,_,e=>by simp at e
 | a::XG,_,0,p,.cons h t,e=>by
  rename_i b bs
  simp at e;subst e;exact⟨b.2,by rw[h.1];rfl,h.2⟩
 | a::XG,_,i+1,p,.cons h t,e=>by
  obtain⟨v,e',r⟩:=KV.at2 (i:=i) t (by simpa using e);exact⟨v,by simpa using e',r⟩
section
variable{X:Cx}{XY:ZY}{Z:St}{H2:Hp}{s1:Shared}{tg ox:Expr}{cp ap:Pos}{R:It->Hp->Prop}
end
end L2
namespace SRT
open PySem PySem.Spec PyProof.Rows PySem.W
section
variable{n:Nat}{z:Nat->Int}{s:Shared}{cmp:Nat->Nat->(Bool->Shared->Prop)->Shared->Prop}
def Pm(n:Nat)(p:ZS):Prop:=p.toList.Perm (List.range n)
noncomputable def ky(z:Nat->Int)(p:ZS)(k:Nat):Int:=z (p[k]?.getD 0)
def Hz(z:Nat->Int)(p:ZS)(k:Nat):Prop:=∀i j,i<j->j<k->ky z p i<ky z p j
def Dn(z:Nat->Int)(p:ZS)(k:Nat):Prop:=∀i j,i<j->j<k->ky z p j<ky z p i
theorem getD_eq(p:ZS)(k:Nat):p.getD k 0=p[k]?.getD 0:=by
 unfold Array.getD
 split
 .rename_i h;rw[A0g h];rfl
 .rename_i h;rw[Array.getElem?_eq_none (by omega)];rfl
theorem Pm.size{p:ZS}(h:Pm n p):p.size=n:=by rw[<-qg,h.length_eq,XX]
theorem Pm.lt{p:ZS}(h:Pm n p){k:Nat}(hk:k<n):p[k]?.getD 0<n:=by
 have hs:k<p.size:=by rw[h.size];exact hk
 rw[A0g hs];exact List.mem_range.mp (h.mem_iff.mp (Array.mem_def.mp (Array.getElem_mem hs)))
theorem Pm.inj{p:ZS}(h:Pm n p){k l:Nat}(hk:k<n)(hl:l<n)(e:p[k]?.getD 0=p[l]?.getD 0):k=l:=by
 have hs:k<p.size:=by rw[h.size];exact hk
 have ht:l<p.size:=by rw[h.size];exact hl
 rw[A0g hs,A0g ht]at e;have nd:p.toList.Nodup:=h.nodup_iff.mpr List.nodup_range;have e:p[k]=p[l]:=e;rw[<-Array.getElem_toList (h:=hs), <-Array.getElem_toList (h:=ht)]at e;rcases Nat.lt_trichotomy k l with q | q | q
 .exact absurd e (List.pairwise_iff_getElem.mp nd k l _ _ q)
 .exact q
 .exact absurd e.symm (List.pairwise_iff_getElem.mp nd l k _ _ q)
theorem Pm.perm{p q:ZS}(h:Pm n p)(e:q.Perm p):Pm n q:=(Array.perm_iff_toList_perm.mp e).trans h
variable(hz:∀i j,i<n->j<n->z i=z j->i=j)(hc:∀i j,i<n->j<n->i≠j->∀C:Bool->Shared->Prop,C (decide (z i<z j)) s->cmp i j C s)
include hz in
theorem Pm.ne{p:ZS}(h:Pm n p){k l:Nat}(hk:k<n)(hl:l<n)(e:ky z p k=ky z p l):k=l:=h.inj hk hl (hz _ _ (h.lt hk) (h.lt hl) e)
include hc in
theorem Ry{Z:Type}{p:ZS}(h:Pm n p){i j:Nat}(hi:i<n)(hj:j<n)(xj:i≠j){k:Bool->KasT Z}{Q:Z->Shared->Prop}(g:(k (decide (ky z p i<ky z p j))).kasWp cmp Q s):(KasT.ask (p.getD i 0) (p.getD j 0) k).kasWp cmp Q s:=by
 rw[getD_eq,getD_eq];exact hc _ _ (h.lt hi) (h.lt hj) (fun e=>xj (h.inj hi hj e)) _ g
theorem Hz.succ{p:ZS}{m:Nat}(h:Hz z p m)(h1:1<=m)(e:ky z p (m - 1)<ky z p m):Hz z p (m+1):=fun i j xj hj=>by
 rcases Nat.lt_or_ge j m with hjm | hjm
 .exact h i j xj hjm
 .obtain rfl:j=m:=by omega
  rcases Nat.lt_or_ge i (j - 1) with hi | hi
  .exact Int.lt_trans (h i (j - 1) hi (by omega)) e
  .obtain rfl:i=j - 1:=by omega
   exact e
theorem Dn.succ{p:ZS}{m:Nat}(h:Dn z p m)(h1:1<=m)(e:ky z p m<ky z p (m - 1)):Dn z p (m+1):=fun i j xj hj=>by
 rcases Nat.lt_or_ge j m with hjm | hjm
 .exact h i j xj hjm
 .obtain rfl:j=m:=by omega
  rcases Nat.lt_or_ge i (j - 1) with hi | hi
  .exact Int.lt_trans e (h i (j - 1) hi (by omega))
  .obtain rfl:i=j - 1:=by omega
   exact e
include hz hc in
theorem K7{p:ZS}(h:Pm n p){Q:Nat->Shared->Prop}:∀(f m:Nat),1<=m->m+f=n->Hz z p m->(∀m',m<=m'->m'<=n->Hz z p m'->(m'=n\/(m'<n/\ky z p m'<ky z p (m' - 1)))->Q m' s)->(kas_asc p f m).kasWp cmp Q s
 | 0,m,h1,hm,hu,g=>g m (Z5 _) (by omega) hu (.inl (by omega))
 | f+1,m,h1,hm,hu,g=>by
  unfold kas_asc;refine Ry hc h (by omega) (by omega) (by omega) ?_;by_cases hl:ky z p m<ky z p (m - 1)
  .rw[Ub hl,if_pos rfl];exact g m (Z5 _) (by omega) hu (.inr ⟨by omega,hl⟩)
  .rw[Dj hl,if_neg (by simp)];have ne:ky z p (m - 1)≠ky z p m:=fun e=>by have:=h.ne hz (by omega) (by omega) e;omega
   exact K7 h f (m+1) (by omega) (by omega) (hu.succ h1 (by omega)) fun m' a b c d=>g m' (by omega) b c d
include hz hc in
theorem Ia{p:ZS}(h:Pm n p){Q:ZS×Nat×Nat->Shared->Prop}:∀(f m:Nat),1<=m->m+f=n->Dn z p m->(∀m',m<=m'->m'<=n->Dn z p m'->Q (p,m',0) s)->(kas_desc f p m 0).kasWp cmp Q s
 | 0,m,h1,hm,hu,g=>g m (Z5 _) (by omega) hu
 | f+1,m,h1,hm,hu,g=>by
  unfold kas_desc;refine Ry hc h (by omega) (by omega) (by omega) ?_;by_cases hl:ky z p m<ky z p (m - 1)
  .rw[Ub hl,if_pos rfl,if_neg (by omega)];exact Ia h f (m+1) (by omega) (by omega) (hu.succ h1 hl) fun m' a b c=>g m' (by omega) b c
  .rw[Dj hl,if_neg (by simp)];have ne:ky z p (m - 1)≠ky z p m:=fun e=>by have:=h.ne hz (by omega) (by omega) e;omega
   refine Ry hc h (by omega) (by omega) (by omega) ?_;rw[Ub (show ky z p (m - 1)<ky z p m by omega),if_pos rfl];exact g m (Z5 _) (by omega) hu
theorem rev_up{p:ZS}{m:Nat}(hm:m<=p.size)(h:Dn z p m):Hz z (kas_rev p 0 m) m:=fun i j xj hj=>by
 unfold ky kas_rev;rw[getElem?_mirror_all hm,getElem?_mirror_all hm,if_pos (by omega),if_pos (by omega)];exact h _ _ (by omega) (by omega)
include hz hc in
theorem wz{p:ZS}(h:Pm n p){m:Nat}(h1:1<=m)(hm:m<=n)(hd:Dn z p m){Q:Nat×ZS->Shared->Prop}(g:∀m' p',1<=m'->m'<=n->Pm n p'->Hz z p' m'->Q (m',p') s):(kas_tail3 m n p).kasWp cmp Q s:=by
 unfold kas_tail3;rw[KasT.kasWp_bind];have h':Pm n (kas_rev p 0 m):=h.perm (mirror_perm _ _ _ _);exact K7 hz hc h' (n - m) m h1 (by omega) (rev_up (by rw[h.size];exact hm) hd) fun m' a b c _=>g m' _ (by omega) b h' c
include hz hc in
theorem dy{p:ZS}(h:Pm n p)(h2:2<=n){Q:Nat×ZS->Shared->Prop}(g:∀m' p',1<=m'->m'<=n->Pm n p'->Hz z p' m'->Q (m',p') s):(kas_count n p).kasWp cmp Q s:=by
 unfold kas_count;rw[KasT.kasWp_bind];refine K7 hz hc h (n - 1) 1 (Z5 _) (by omega) (fun i j _ _=>by omega) fun m a b c d=>?_;by_cases hm:m=n
 .subst hm;rw[if_pos (by simp)];exact g m p a b h c
 .rw[if_neg (by simpa using hm)];by_cases hm1:m>1
  .rw[if_pos hm1];refine Ry hc h (by omega) (by omega) (by omega) ?_;rw[Ub (c 0 (m - 1) (by omega) (by omega)),if_pos rfl];exact g m p a b h c
  .rw[if_neg hm1];obtain rfl:m=1:=by omega
   rcases d with d | ⟨_,d⟩
   .omega
   unfold kas_descPart;rw[KasT.kasWp_bind];refine Ia hz hc h (n - (1+1)) (1+1) (by omega) (by omega) (fun i j xj hj=>?_) fun m' a' b' c'=>?_
   .obtain rfl:j=1:=by omega
    obtain rfl:i=0:=by omega
    exact d
   .rw[if_neg (by show ¬ (0>0);omega)];exact wz hz hc h (by omega) b' c' g
include hz hc in
theorem place_ok{p:ZS}(h:Pm n p){k:Nat}(hk:k<n){Q:Nat->Shared->Prop}(g:∀l,l<=k->(∀i,i<l->ky z p i<ky z p k)->(∀i,l<=i->i<k->ky z p k<ky z p i)->Q l s)(hs:Hz z p k):∀(f l r:Nat),l<=r->r<=k->r - l<=f->(∀i,i<l->ky z p i<ky z p k)->(∀i,r<=i->i<k->ky z p k<ky z p i)->(kas_place p k f l r).kasWp cmp Q s
 | 0,l,r,h1,h2,h3,h4,h5=>by
  obtain rfl:l=r:=by omega
  exact g l h2 h4 h5
 | f+1,l,r,h1,h2,h3,h4,h5=>by
  unfold kas_place;by_cases hlr:l ≥ r
  .rw[if_pos hlr];obtain rfl:l=r:=by omega
   exact g l h2 h4 h5
  .rw[if_neg hlr];refine Ry hc h hk (by omega) (by omega) ?_;by_cases hl:ky z p k<ky z p ((l+r) / 2)
   .rw[Ub hl,if_pos rfl];refine place_ok h hk g hs f l ((l+r) / 2) (by omega) (by omega) (by omega) h4 fun i a b=>?_;rcases Nat.lt_or_ge ((l+r) / 2) i with c | c
    .exact Int.lt_trans hl (hs _ _ c b)
    .obtain rfl:i=(l+r) / 2:=by omega
     exact hl
   .rw[Dj hl,if_neg (by simp)];have ne:ky z p k≠ky z p ((l+r) / 2):=fun e=>by have:=h.ne hz (by omega) (by omega) e;omega
    refine place_ok h hk g hs f ((l+r) / 2+1) r (by omega) h2 (by omega) (fun i a=>?_) h5;rcases Nat.lt_or_ge i ((l+r) / 2) with c | c
    .exact Int.lt_trans (hs _ _ c (by omega)) (by omega)
    .obtain rfl:i=(l+r) / 2:=by omega
     omega
theorem x5{p:ZS}{k l:Nat}(hk:k<p.size)(hl:l<=k)(h:Hz z p k)(h1:∀i,i<l->ky z p i<ky z p k)(h2:∀i,l<=i->i<k->ky z p k<ky z p i):Hz z (bubble p k (k - l)) (k+1):=fun i j xj hj=>by
 have e:∀x,x<=k->ky z (bubble p k (k - l)) x=if x=l then ky z p k else if l<x then ky z p (x - 1) else ky z p x:=fun x hx=>by
  unfold ky;rw[getElem?_bubble hk (k - l) (by omega),show k - (k - l)=l by omega];by_cases a:x=l
  .rw[if_pos a,if_pos a]
  .rw[if_neg a,if_neg a];by_cases b:l<x
   .rw[if_pos ⟨b,hx⟩,if_pos b]
   .rw[if_neg (fun q=>b q.1),if_neg b]
 rw[e i (by omega),e j (by omega)];by_cases a:i=l
 .rw[if_pos a,if_neg (by omega),if_pos (by omega)];exact h2 _ (by omega) (by omega)
 .rw[if_neg a];by_cases b:l<i
  .rw[if_pos b,if_neg (by omega),if_pos (by omega)];exact h _ _ (by omega) (by omega)
  .rw[if_neg b];by_cases c:j=l
   .rw[if_pos c];exact h1 i (by omega)
   .rw[if_neg c];by_cases d:l<j
    .rw[if_pos d];rcases Nat.lt_or_ge i (j - 1) with q | q
     .exact h _ _ q (by omega)
     .omega
    .rw[if_neg d];exact h _ _ xj (by omega)
include hz hc in
theorem tz{Q:ZS->Shared->Prop}(g:∀p',Pm n p'->Hz z p' n->Q p' s):∀(f:Nat) (p:ZS) (k:Nat),Pm n p->k+f=n->Hz z p k->(kas_bin f p k).kasWp cmp Q s
 | 0,p,k,h,hk,hu=>g p h (by rw[<-(by omega:k=n)];exact hu)
 | f+1,p,k,h,hk,hu=>by
  unfold kas_bin;rw[KasT.kasWp_bind];refine place_ok hz hc h (by omega) (fun l a b c=>?_) hu k 0 k (Bw _) (Z5 _) (by omega) (fun i q=>absurd q (by omega)) (fun i q r=>absurd q (by omega));exact tz g f _ (k+1) (h.perm (bubble_perm _ _ _)) (by omega) (x5 (by rw[h.size];omega) a hu b c)
include hz hc in
theorem rh(h2:2<=n){Q:ZS->Shared->Prop}(g:∀p',Pm n p'->Hz z p' n->Q p' s):(kas_sort n).kasWp cmp Q s:=by
 unfold kas_sort;rw[KasT.kasWp_bind];have h0:Pm n (List.toArray (List.range n)):=by unfold Pm;rw[List.toList_toArray]
 refine dy hz hc h0 h2 fun m p a b h c=>?_;show (if m<n then kas_bin (n - max m 1) p (max m 1) else KasT.ret p).kasWp cmp Q s;rw[show max m 1=m by omega]
 split
 .exact tz hz hc g _ p m h (by omega) c
 .exact g p h (by rw[<-(by omega:m=n)];exact c)
end
end SRT
namespace SRT
open PySem PySem.Spec PyProof.Rows L2 PySem.W
def eS:Str:=⟨#[]⟩
noncomputable def rk(ss:ZD)(x:Str):Int:=((ss.countP fun y=>decide (y.cps.toList<x.cps.toList):Nat):Int)
theorem dm{p q:Str->Bool}{x:Str}(h:∀z,p z=true->q z=true)(qx:q x=true)(px:p x=false):∀{ss:ZD},x∈ss->ss.countP p<ss.countP q
 | y::ss,m=>by
  have le:ss.countP p<=ss.countP q:=List.countP_mono_left fun z _=>h z;rcases Y6.mp m with rfl | m
  .rw[List.countP_cons,List.countP_cons,px,qx];simp;omega
  .have:=dm h qx px m;rw[List.countP_cons,List.countP_cons];by_cases e:p y=true
   .rw[e,h y e];simp;omega
   .rw[if_neg e];split<;>omega
theorem tri{x y:Str}(ne:x≠y):x.cps.toList<y.cps.toList\/y.cps.toList<x.cps.toList:=by
 by_cases h:x.cps.toList<y.cps.toList
 .exact .inl h
 .by_cases g:y.cps.toList<x.cps.toList
  .exact .inr g
  .exact absurd (Ma (Dk.mpr g) (Dk.mpr h)) ne
theorem P0{ss:ZD}{x y:Str}(hx:x∈ss)(h:x.cps.toList<y.cps.toList):rk ss x<rk ss y :=
 Int.ofNat_lt.mpr (dm (p:=fun z=>decide (z.cps.toList<x.cps.toList)) (q:=fun z=>decide (z.cps.toList<y.cps.toList)) (fun z hz=>Ub (List.lt_trans (Q0 hz) h)) (Ub h) (Dj (List.lt_irrefl _)) hx)
theorem rk_dec{ss:ZD}{x y:Str}(hx:x∈ss)(hy:y∈ss)(ne:x≠y):decide (x.cps.toList<y.cps.toList)=decide (rk ss x<rk ss y):=by
 rcases tri ne with h | h
 .rw[Ub h,Ub (P0 hx h)]
 .rw[Dj (List.lt_asymm h),Dj (by have:=P0 hy h;omega)]
def Hd(h:Heap)(v:Value)(i:Str):Prop:=∃a o xs n t,v=.ref a/\h.get? a=some o/\o.cls=.type "tuple" /\ o.data=.seq xs n/\xs[0]?=some (.str i t)
def Hds(h:Heap)(vs:ZM)(zs:ZD):Prop:=vs.length=zs.length/\∀i,i<vs.length->Hd h (vs.getD i .none) (zs.getD i eS)
theorem Hds.tups{h:Heap}:∀{vs:ZM} {zs:ZD},Hds h vs zs->∃fs,KatTups h vs fs/\fs.length=vs.length/\∀v∈fs,∃i t,v=.str i t
 | [],zs,g=>⟨[],trivial,rfl,fun _ m=>absurd m Vy⟩
 | v::vs,[],g=>absurd g.1 (by simp)
 | v::vs,z::zs,g=>by
  obtain⟨fs,k1,k2,k3⟩:=Hds.tups (vs:=vs) (zs:=zs) ⟨by simpa using g.1,fun i hi=>by simpa using g.2 (i+1) (by simpa using hi)⟩;obtain⟨a,o,xs,n,t,e,h1,h2,h3,h4⟩:=g.2 0 (by simp);have e:v=.ref a:=e;subst e
  exact⟨.str z t::fs,⟨⟨a,o,xs,n,rfl,h1,h2,h3,h4⟩,k1⟩,by simp[k2],fun v m=>by
   rcases Y6.mp m with rfl | m
   .exact⟨_,_,rfl⟩
   .exact k3 v m⟩
section
variable{prog:Program}{w:World}{A:Around}{E:ZW}{s:Shared}
theorem gp{x y:Value}{i j:Str}{Q:Bool->Shared->Prop}(hx:Hd s.heap x i)(hy:Hd s.heap y j)(ne:i≠j)(h:Q (decide (i.cps.toList<j.cps.toList)) s):wpAny (model prog w) A (keyLt' (tuples' true) x y) Q E s:=by
 obtain⟨a,o,xs,n,t,rfl,h1,_,h3,h4⟩:=hx;obtain⟨b,o',ys,m,u,rfl,g1,_,g3,g4⟩:=hy
 obtain⟨x0,xr,ex⟩:∃x0 xr,xs.toList=x0::xr:=by
  cases e:xs.toList with
  | nil=>rw[<-Array.getElem?_toList,e]at h4;simp at h4
  | cons p q=>exact⟨p,q,rfl⟩
 obtain⟨y0,yr,ey⟩:∃y0 yr,ys.toList=y0::yr:=by
  cases e:ys.toList with
  | nil=>rw[<-Array.getElem?_toList,e]at g4;simp at g4
  | cons p q=>exact⟨p,q,rfl⟩
 have e0:x0=.str i t:=by rw[<-Array.getElem?_toList,ex]at h4;exact D8 h4
 have f0:y0=.str j u:=by rw[<-Array.getElem?_toList,ey]at g4;exact D8 g4
 subst e0 f0;refine kat_lt h1 h3 g1 g3 ?_;rw[ex,ey,List.zip_cons_cons];refine kat_cons (SeqAt.EqAt.str_str i t j u prog w _ _ ?_);have hb:(i == j)=false:=B0n.mpr ne;rw[hb];refine kat_no ?_;exact oneLt_str h
theorem Xu{i:Str}{t:Tok}{M:Model}{h:Heap}:Looks M h (typeOf (.str i t)) (.type "str"):=Looks.of_pure rfl
def zR(zs:ZD)(i:Nat):Int:=rk zs (zs.getD i eS)
def Ord(zs:ZD)(p:ZS):Prop:=Pm zs.length p/\Hz (zR zs) p zs.length
theorem oi{h:Heap}{L:Addr}{m m':ZV}(hm:h.Ns L m')(hn:h.Ns L m):m'=m:=by
 obtain⟨o2,es,ep,e2,d2,_,r2⟩:=hm;obtain⟨o3,es3,ep3,e3,d3,_,r3⟩:=hn;rw[e2]at e3;cases e3;rw[d2]at d3;cases d3;exact funext fun x=>(r2 x).symm.trans (r3 x)
theorem X0{X:Cx}{XY:ZY}{Z:L2.St}{H:Hp}{s:Shared}{A:Around}{E:ZW}{Q:ZW}{D:Addr}{n:Nat}{vs:ZM}{zs:ZD}(I:Inv X XY Z H s)(hD:s.heap.get? D=some (seqObj "list" vs.toArray n))(lD:X.env.locals<D)
  (hh:∀h',(∀b o,b≠D->b≠X.env.locals->s.heap.get? b=some o->h'.get? b=some o)->Hds h' vs zs) (nd:zs.Nodup) (h2:2<=vs.length) (h64:vs.length<64)
  (fin:∀h' p c,Ord zs p->(∀m,s.heap.Ns X.env.locals m->h'.Ns X.env.locals m)->(∀b o,b≠D->b≠X.env.locals->s.heap.get? b=some o->h'.get? b=some o)->h'.get? D=some (listOf (List.toArray (p.toList.map fun i=>vs.getD i Value.none)) c)->Q .none { s with heap:=h' }) :
  wpAny (model X.prog X.w) A (call (.builtin "list.sort") [.ref D]) Q E s:=by
 obtain⟨m,hn,fr,nw⟩:=I.frame
 have ks:∀{h' own},Fr (N3 s.heap X.env.locals) X.env.locals h' m->News (N3 s.heap X.env.locals) X.env.locals h' own->(∀p∈Ge s.heap X.env.locals,p.1≠D->p∈own)->∀b o,b≠D->b≠X.env.locals->s.heap.get? b=some o->h'.get? b=some o:=fun {h' own} f' n' sub b o nb nl e=>by
  rcases Nat.lt_trichotomy b X.env.locals with z | z | z
  .exact f'.keep b o (Cr e z)
  .exact absurd z nl
  .exact(n' (b,o) (sub _ (Jv.mpr ⟨z,e⟩) nb)).1
 have sub:∀(o:Obj) (p:Addr×Obj),p∈Ge s.heap X.env.locals->p.1≠D->p∈(D,o)::(Ge s.heap X.env.locals).filter fun p=>decide (p.1≠D):=fun o p hp hn=>Vi _ (List.mem_filter.mpr ⟨hp,Ub hn⟩);have low:(N3 s.heap X.env.locals).get? D=none:=(nw _ (Jv.mpr ⟨lD,hD⟩)).2.2;refine wpAny_call_entry slot_list_sort ⟨_,hD,rfl⟩ entry_list_sort (kat_list_sort (news:=(Ge s.heap X.env.locals).filter fun p=>decide (p.1≠D)) fr (fun p hp=>nw p (List.mem_filter.mp hp).1) hD (Nat.ne_of_gt lD) low (fun p hp=>Q0 (List.mem_filter.mp hp).2) h2 h64 fun e1 h' F' N'=>?_) (args_list_sort _);have hd:=hh h' (ks F' N' (sub _));obtain⟨fs,k1,k2,k3⟩:=hd.tups;refine kat_kind (s:={ s with heap:=h' }) (T:=.type "str") k1 (by omega) (fun v m=>?_) rfl ?_
 .obtain⟨i,t,rfl⟩:=k3 v m;exact Xu
 .have e:(Value.type "str" != Value.type "tuple")=true:=by decide
  rw[e];have el:vs.length=zs.length:=hd.1;rw[el]
  have nds:∀i j,i<zs.length->j<zs.length->zs.getD i eS=zs.getD j eS->i=j:=fun i j hi hj e=>by
   simp only[List.getD_eq_getElem?_getD,Dx hi,Dx hj,Option.getD_some]at e;rcases Nat.lt_trichotomy i j with q | q | q
   .exact absurd e (List.pairwise_iff_getElem.mp nd i j _ _ q)
   .exact q
   .exact absurd e.symm (List.pairwise_iff_getElem.mp nd j i _ _ q)
  have mm:∀i,i<zs.length->zs.getD i eS∈zs:=fun i hi=>by
   rw[List.getD_eq_getElem?_getD,Dx hi];exact G0e hi
  refine rh (z:=zR zs) (fun i j hi hj e=>?_) (fun i j hi hj xj C hC=>?_) (by omega) fun p pm up=>?_
  .refine nds i j hi hj (Decidable.byContradiction fun ne=>?_);have e:rk zs (zs.getD i eS)=rk zs (zs.getD j eS):=e;rcases tri ne with q | q
   .have:=P0 (mm i hi) q;omega
   .have:=P0 (mm j hj) q;omega
  .unfold kas_ask;have ne:zs.getD i eS≠zs.getD j eS:=fun e=>xj (nds i j hi hj e);refine gp (s:={ s with heap:=h' }) (hd.2 i (by omega)) (hd.2 j (by omega)) ne ?_;rw[rk_dec (mm i hi) (mm j hj) ne];exact hC
  .refine KasFin.intro F' N' (g:=fun o=>(D,o)::(Ge s.heap X.env.locals).filter fun p=>decide (p.1≠D)) ?_ fun h2 c F2 N2=>⟨_,rfl,fin h2 p c ⟨pm,up⟩ (fun m' hm=>?_) (ks F2 N2 (sub _)) (N2 _ Ye).1⟩
   .exact .head fun p hp=>Q0 (List.mem_filter.mp hp).2
   .rw[oi hm hn];exact F2.ns
theorem Xo{Ok:Heap->Prop}{vs:ZM}(hz:vs.length<2):Srt prog w Ok vs fun o=>o=vs:=by
 intro A E s D Q _ Wf h;refine wpAny_call_entry slot_list_sort ⟨_,Wf,rfl⟩ entry_list_sort ?_ (args_list_sort _);have ha:D<s.heap.objs.size:=Vh Wf;have sl:=sizeLine_eq;rw[list_sort_plain];refine Za (listItems_at Wf rfl (Za (listUpdate_at Wf rfl ?_ (by rw[Jz];omega) (Bw _))));obtain⟨e1,ho1⟩:∃e1,(s.heap.update D (Obj.mapSeq fun _=>#[])).get? D=some (seqObj "list" #[] e1):=⟨_,get?_update_seq Wf (fun _=>#[])⟩;refine Za (seqEpoch_at ho1 rfl (Za (wpAny_newTuple (Za (wpAny_newList (wpAny_holding ?_) (Bw _))) (by show vs.length<=_;omega))))
 have ho6:(((s.heap.update D (Obj.mapSeq fun _=>#[])).push (seqObj "tuple" vs.toArray 0)).push (seqObj "list" #[] 0)).get? D=some (seqObj "list" #[] e1) :=
  Vs _ (Vs _ ho1)
 show wpAny _ _ _ _ _ { s with heap:=((s.heap.update D (Obj.mapSeq fun _=>#[])).push (seqObj "tuple" vs.toArray 0)).push (seqObj "list" #[] 0) };dsimp only;have h2:vs.toArray.size<2:=by rw[Jz];exact hz
 rw[if_pos h2,if_pos h2];refine Za (V1 ?_);rw[StateT.run_pure];refine Za (V1 ?_);dsimp only;refine Za (seqEpoch_at ho6 rfl (Za (listUpdate_at ho6 rfl ?_ (Bw _) (by rw[Array.size_map];show (pairsOf vs).size<=_;rw[pairsOf_size];omega))));simp only[bne_self_eq_false,Bool.false_eq_true,if_false];refine V1 ⟨_,rfl, ?_⟩;obtain⟨n,e⟩:=sortedHeap_at (h:=s.heap) (a:=D) (vs:=vs) (n:=0) (out:=(pairsOf vs).map fun x:Keyed=>x.2) Wf;refine h (sortedHeap s.heap D vs ((pairsOf vs).map fun x:Keyed=>x.2)) ((pairsOf vs).map fun x:Keyed=>x.2) n (fun b ob nb e0=>SetM.Vp nb e0) e ?_;rw[Array.toList_map];unfold pairsOf;rw[Array.toList_zip];exact List.map_snd_zip (Z5 _)
end
section
variable{X:Cx}
theorem gx{ss:ZD}{p:ZS}(nd:ss.Nodup)(o:Ord ss p):p.toList.map (fun i=>ss.getD i eS)=Mz ss:=by
 have mm:∀i,i<ss.length->ss.getD i eS∈ss:=fun i hi=>by
  rw[List.getD_eq_getElem?_getD,Dx hi];exact G0e hi
 refine List.Perm.eq_of_pairwise (le:=fun a b=>Q5 a b=true) (fun _ _ _ _ h1 h2=>Ma h1 h2) ?_ (Gu ss) (.trans ?_ (Z7 ss).symm)
 .rw[List.pairwise_map,List.pairwise_iff_getElem];intro i j hi hj xj;have hsz:=o.1.size;rw[qg]at hi hj;have up:=o.2 i j xj (by omega);unfold ky at up;rw[A0g hi,A0g hj]at up;have lj:=o.1.lt (k:=j) (by omega);rw[A0g hj]at lj;simp only[Option.getD_some]at up lj;rw[Array.getElem_toList,Array.getElem_toList];refine Dk.mpr fun q=>?_;have up:rk ss (ss.getD p[i] eS)<rk ss (ss.getD p[j] eS):=up;have:=P0 (mm _ lj) q;omega
 .have:=o.1.map fun i=>ss.getD i eS;refine this.trans (.of_eq ?_)
  apply List.ext_getElem?
  intro i;rw[Bo];by_cases h:i<ss.length
  .rw[List.getElem?_range h,Dx h];simp[h]
  .rw[List.getElem?_eq_none (by simpa using h),List.getElem?_eq_none (by omega)]
   rfl
end
end SRT
namespace L2
open PySem PySem.Spec PyProof PyProof.Rows PySem.W SRT
section
variable{X:Cx}{XY:ZY}{Z:L2.St}{H:Hp}{s:Shared}
theorem Inv.layM{h':Heap}{H':Hp}{t':Nat}(I:Inv X XY Z H s)(bc:∀m,s.heap.Ns X.env.locals m->h'.Ns X.env.locals m)(ka:∀b o,b≠X.env.locals->s.heap.get? b=some o->h'.get? b=some o)(old:∀b o,s.heap.get? b=some o->H' b=H b)
  (new:∀b u,s.heap.get? b=none->H' b=some u->Ze X.prog X.w H' h' b u):Inv X XY Z H' { s with heap:=h',toks:=t' }:=by
 have same:∀{b:Addr} {u:HO},H b=some u->H' b=some u:=fun {b u} e=>by
  obtain⟨o,q⟩:=(I.hok b u e).has;rw[old b o q];exact e
 refine I.step (h':=h') (g':=s.gens) (d':=s.drawn) (t':=t') (ch:=[]) (H':=H') (fun _ z=>nomatch z)
  (fun b o nl _ _ e _=>ka b o nl e) (fun b o nl _ _ e _=>⟨o.slots,ka b o nl e⟩) (fun b o _ e n=>by rw[old b o e];exact n) (fun b o _ e=>?_) (fun b xs e=>same e) (fun b o u e=>same e) (fun b qs e=>⟨#[],by rw[same e];simp⟩) (fun m' hm=>bc m' hm) (fun b v e=>?_) I.bare
 .by_cases z:b=X.env.locals
  .obtain⟨m,hn,_⟩:=id I.loc;obtain⟨o2,_,_,e2,_⟩:=bc m hn;exact⟨o2,by rw[z];exact e2⟩
  .exact⟨o,ka b o z e⟩
 .cases q:s.heap.get? b with
  | none=>exact new b v q e
  | some o =>
   rw[old b o q]at e;refine(I.hok b v e).stay (fun d v hd q=>ka d v ?_ q) (fun d q=>same q) fun d xs q=>same q;rcases hd with rfl | hd
   .exact fun zz=>by rw[zz,I.free]at e;cases e
   .exact fun zz=>by rw[zz,I.free]at hd;cases hd
noncomputable def lays(H:Hp):ZU->List (Key×V)->Hp
 | a::as,p::ps=>upd (lays H as ps) a (.tup [kV p.1,p.2])
 | _,_=>H
theorem Tj{b:Addr}:∀{as:ZU} {XG:List (Key×V)},b ∉ as->lays H as XG b=H b
 | [],_,_=>rfl
 | a::as,[],_=>rfl
 | a::as,p::ps,h=>by
  unfold lays;rw[Zz fun z=>h (by rw[z];exact Ye)];exact Tj fun m=>h (Vi _ m)
theorem A3{a:Addr}{u:HO}:∀{as:ZU} {XG:List (Key×V)},lays H as XG a=some u->H a=none->∃(j:Nat) (p:Key×V),as[j]?=some a/\XG[j]?=some p/\u=.tup [kV p.1,p.2]
 | [],_,h,n=>by rw[show lays H [] _ a=H a from rfl,n]at h;cases h
 | b::as,[],h,n=>by rw[show lays H (b::as) [] a=H a from rfl,n]at h;cases h
 | b::as,p::ps,h,n=>by
  unfold lays at h;by_cases z:a=b
  .subst z;rw[Zq]at h;cases h;exact⟨0,p,rfl,rfl,rfl⟩
  .rw[Zz z]at h;obtain⟨j,q,e1,e2,e3⟩:=A3 h n;exact⟨j+1,q,by simpa using e1,by simpa using e2,e3⟩
inductive wy(tl:TE)(Z:L2.St)(H:Hp)(Q:VK):Prop
 | mk(Vg:tl Z H fun x H1=>∃(d:Addr) (XG:List (Key×V)) (ss:ZD),x=.ref d/\Rd H1 d (.dK XG)/\XG.map (·.1)=ss.map Sum.inr/\ss.Nodup/\ss.length<64 /\
   ∀(D:Addr) (as:ZU) (p:List Nat),as.length=XG.length->as.Nodup->D ∉ as->H1 D=none->(∀a∈as,H1 a=none)->(∀i∈p,i<ss.length)->p.length=ss.length->p.map (fun i=>ss.getD i eS)=Mz ss ->
    Q (.ref D) (upd (lays H1 as XG) D (.lst (p.map fun i=>.ref (as.getD i 0))))):wy tl Z H Q
def tSit(tl:TE):TE:=fun Z H Q=>wy tl Z H Q
theorem wo{A:Around}{E:ZW}{Q:Shared->Prop}{D:Addr}{vs:ZM}{zs:ZD}(I:Inv X XY Z H s)(hD:s.heap.get? D=some (seqObj "list" vs.toArray 0))(lD:X.env.locals<D)
  (hh:∀h',(∀b o,b≠D->b≠X.env.locals->s.heap.get? b=some o->h'.get? b=some o)->Hds h' vs zs) (nd:zs.Nodup) (h64:vs.length<64)
  (fin:∀(h':Heap) (p:List Nat) (c:Nat),p.map (fun i=>zs.getD i eS)=Mz zs->p.Perm (List.range zs.length)->(∀m,s.heap.Ns X.env.locals m->h'.Ns X.env.locals m)->(∀b o,b≠D->b≠X.env.locals->s.heap.get? b=some o->h'.get? b=some o)->h'.get? D=some (listOf (List.toArray (p.map fun i=>vs.getD i Value.none)) c)->Q { s with heap:=h' }) :
  wpAny (model X.prog X.w) A (call (.builtin "list.sort") [.ref D]) (fun _ s'=>Q s') E s:=by
 have el:vs.length=zs.length:=(hh s.heap fun _ _ _ _ e=>e).1;by_cases h2:2<=vs.length
 .exact X0 I hD lD hh nd h2 h64 fun h' p c op hn ka e=>fin h' p.toList c (gx nd op) op.1 hn ka e
 .refine Xo (Ok:=fun _=>True) (by omega) A E s D Q trivial hD fun h' out n kp e r=>?_;have r:out.toList=vs:=r;refine fin h' (List.range zs.length) n ?_ (.refl _) (fun m hm=>Fq hm fun o e=>kp _ o (Ba lD) e) (fun b o nb _ e=>kp b o nb e) ?_
  .match zs,el with
   | [],_=>rfl
   | [z],_=>rfl
   | a::b::r,el=>exact absurd el (by simp only[Yo];omega)
  .rw[e, <-el]
   have:out=((List.range vs.length).map (fun i=>vs.getD i Value.none)).toArray:=by
    apply Array.ext'
    rw[r,List.toList_toArray]
    match vs,h2 with
    | [],_=>rfl
    | [z],_=>rfl
    | a::b::r,h2=>exact absurd h2 (by simp)
   rw[<-this]
theorem Py{as:ZU}:∀(p:List Nat),(∀i∈p,i<as.length)->Zk (p.map fun i=>V.ref (as.getD i 0)) (p.map fun i=>(as.map Value.ref).getD i .none)
 | [],_=>.nil
 | i::p,h=>.cons (by
   show RelV (V.ref (as.getD i 0)) ((as.map Value.ref).getD i .none);have hi:=h i Ye;rw[List.getD_eq_getElem?_getD (l:=as.map Value.ref),Bo,List.getD_eq_getElem?_getD,Dx hi];rfl) (Py p fun j m=>h j (Vi _ m))
theorem ag{ox:Expr}{p0 ap cp pos:Pos}{tl:TE}(hc:X.calm=true)(hg:Gl X "sorted")(hm:X.mg "sorted" = none)(hl:PE X ox tl)(hb:attributeBase ox "items" X.env (eval ox X.env)=eval ox X.env)(Jk:(ap.endLine == cp.line)=true) :
  PE X (.Call (.Name "sorted" p0) [.Call (.Attribute ox "items" ap) [] [] cp] [] pos) (tSit tl):=by
 intro XY s Z H Q I ⟨h⟩;refine wpAny_Call_Name_kw (U8 I hg hm (by decide +kernel:bootBuiltins "sorted" = some (.builtin "sorted")) ?_ (by decide) (by decide));refine callWith_builtin1 ?_ rfl rfl
 change wpAny _ _ (spliced ((false,eval (.Call (.Attribute ox "items" ap) [] [] cp) X.env)::[])) _ _ s
 refine Calls.spliced_cons ?_;refine wpAny_Call_method0_late hb Jk (Yz (hl XY s Z H _ I h) fun v s1 ⟨x,H1,I1,r1,q1⟩=>?_);obtain⟨d,XG,ss,rfl,hd,hk,nd,h64,q⟩:=q1;cases r1;obtain⟨z,nk,ws,rel,dd⟩:=Gb I1.hok hd;obtain⟨ep,da⟩:=dd.dictAt;obtain⟨t1,t2,_⟩:=Co I1 (.inl ⟨XG,hd⟩);have wl:ws.length=XG.length:=rel.length.symm;have sl:ss.length=XG.length:=by rw[<-Zn (f:=(Sum.inr:Str->Key)), <-hk,Zn]
 refine⟨"dict","dict.items",PySem.F.plainAttrs_dict,PySem.F.slot_dict_items,PySem.F.type_dict_items,t1,t2,Calls.callWith_builtin rfl (PySem.evalArgs_none ?_)⟩;refine call_meetsIn PySem.F.slot_dict_items dd.typeIs PySem.F.entry_dict_items (PySem.F.args_dict_items_1 _) (meets_dict_items (Zh X.prog X.w) d nk) ⟨⟨ws,dd⟩, ?_⟩;refine Calls.spliced_nil ?_;refine Calls.call_function_entry kind_sorted plain_sorted entry_sorted (args_sorted1 _) ?_;unfold Builtin.«sorted»;refine Za (m:=checkCount "sorted" 1 1 _) (V1 ?_);have line:=sizeLine_eq;refine Za (@kdx_collect X.prog X.w _ _ (Zh X.prog X.w) X.A.in1 _ _ _ _ ws ep _ (I1.ok.hd hc) ⟨_,Bv _ rfl,rfl,rfl⟩ (da.push _) (by omega) fun h2 tk as hk2 bp hG=>?_);refine Za (wpAny_newList ?_ (by rw[Zn];omega));have k1:∀b o,s1.heap.get? b=some o->h2.get? b=some o:=fun b o e=>hk2 b o (Vs _ e);have up:s1.heap.objs.size<h2.objs.size:=Vh (hk2 _ _ (Bv _ rfl));have I3:Inv X XY Z H1 { s1 with heap:=h2.push { cls:=.type "list",data:=.seq (as.map Value.ref).toArray },toks:=tk }:=I1.kept fun b o e=>Vs _ (k1 b o e);have asl:as.length=XG.length:=by rw[bp,wl]
 have ta:∀j,j<XG.length->∃(x:Str) (t:Tok) (v:Value) (y:V),XG[j]?=some (.inr x,y)/\ss.getD j eS=x/\RelV y v/\h2.get? (as.getD j 0)=some { cls:=.type "tuple",data:=.seq #[.str x t,v] }:=fun j hj=>by
  obtain⟨key,k,x,e1,e2,e3⟩:=hG.pairs j as[j] (Dx (by omega));obtain⟨v,e4,rv⟩:=KV.at2 rel (Dx hj);rw[e4]at e1;cases e1;have e5:(XG.map (·.1))[j]?=some XG[j].1:=by rw[Bo,Dx hj];rfl
  have sj:j<ss.length:=by omega
  rw[hk,Bo,Dx sj]at e5;have e6:(Sum.inr ss[j]:Key)=XG[j].1:=D8 e5;rw[<-e6]at e2;obtain⟨t,rfl⟩:=(show ∃t,key=Value.str _ t from fq e2);refine⟨ss[j],t,x,XG[j].2, ?_, ?_,rv, ?_⟩
  .rw[Dx hj,e6]
  .rw[List.getD_eq_getElem?_getD,Dx sj];rfl
  .rw[List.getD_eq_getElem?_getD,Dx (by omega)];exact e3
 have lt:=I1.lt;have asb:∀a∈as,s1.heap.objs.size<a/\a<h2.objs.size:=fun a m=>⟨by exact Nat.lt_of_succ_lt (by have:=hG.above a m;rw[Heap.size_push]at this;exact this),hG.there m⟩
 have vg:∀j,j<XG.length->(as.map Value.ref).getD j .none=.ref (as.getD j 0):=fun j hj=>by
  rw[List.getD_eq_getElem?_getD,Bo,Dx (by omega),List.getD_eq_getElem?_getD,Dx (by omega)];rfl
 have am:∀j,j<XG.length->as.getD j 0∈as:=fun j hj=>by
  rw[List.getD_eq_getElem?_getD,Dx (by omega)];exact G0e _
 refine Za (wpAny_holding (wpAny_mono (wo (A:=X.A.in1) (zs:=ss) I3 (D:=h2.objs.size) (vs:=as.map Value.ref) (Bv _ rfl) (Nat.lt_trans lt up) (fun h' ka=>⟨by rw[Zn];omega,fun j hj=>?_⟩) nd (by rw[Zn];omega) (Q:=fun s'=>EP X XY Z Q (.ref h2.objs.size) s') fun h' p c hp pm hn ka eD=>?_) (fun _ s' h=>V1 ⟨_,rfl,h⟩) fun _ _ e=>e))
 .rw[Zn]at hj;obtain⟨x,t,v,y,e1,e2,_,e4⟩:=ta j (by omega);have b1:=asb _ (am j (by omega));rw[vg j (by omega),e2];exact⟨_,_,_,_,t,rfl,ka _ _ (Ba b1.2) (Nat.ne_of_gt (Nat.lt_trans lt b1.1)) (Vs _ e4),rfl,rfl,rfl⟩
 .have pl:∀i∈p,i<ss.length:=fun i m=>List.mem_range.mp (pm.mem_iff.mp m);have kk:∀b o,b≠X.env.locals->s1.heap.get? b=some o->h'.get? b=some o:=fun b o nl e=>ka b o (Ba (Nat.lt_trans (Vh e) up)) nl (Vs _ (k1 b o e))
  have fr:∀{b},s1.heap.get? b=none->H1 b=none:=fun {b} n=>by
   cases e:H1 b with
   | none=>rfl
   | some u=>obtain⟨o,e'⟩:=(I1.hok b u e).has;rw[n]at e';cases e'
  have non:∀{b},s1.heap.objs.size<=b->H1 b=none:=fun {b} l=>I1.hok.fresh l;refine⟨.ref h2.objs.size,upd (lays H1 as XG) h2.objs.size (.lst (p.map fun i=>.ref (as.getD i 0))),I1.layM (fun m hm=>hn m (Fq hm fun o e=>Vs _ (k1 _ o e))) kk (fun b o e=>?_) (fun b u n e=>?_),rfl,q _ as p asl (hG.rise.imp fun h=>Ba h) (fun m=>Nat.lt_irrefl _ (asb _ m).2) (non (by omega)) (fun a m=>non (Nat.le_of_lt (asb a m).1)) pl (by rw[pm.length_eq,XX]) hp⟩
  .have l:=Vh e;rw[Zz (Ba (Nat.lt_trans l up)),Tj fun m=>Nat.lt_asymm l (asb b m).1]
  .by_cases z:b=h2.objs.size
   .subst z;rw[Zq]at e;cases e;exact⟨by rw[Zn,pm.length_eq,XX];omega,_,c,Py (as:=as) p fun i m=>by have:=pl i m;omega,by simpa using eD⟩
   .rw[Zz z]at e;obtain⟨j,pr,e1,e2,rfl⟩:=A3 e (fr n);have hj:=(Nd.mp e2).1;obtain⟨x,t,v,y,g1,g2,g3,g4⟩:=ta j hj;rw[g1]at e2;cases e2;have ea:as.getD j 0=b:=by rw[List.getD_eq_getElem?_getD,e1];rfl
    rw[ea]at g4;have bb:=asb b (by rw[<-ea];exact am j hj);exact⟨by show 2<=sizeLine;omega,[.str x t,v],.cons ⟨t,rfl⟩ (.cons g3 .nil),⟨_,ka _ _ (Ba bb.2) (Nat.ne_of_gt (Nat.lt_trans lt bb.1)) (Vs _ g4),rfl,⟨_,rfl⟩,rfl⟩⟩
end
end L2
namespace L2
open PySem PySem.Spec PyProof PyProof.Rows PySem.Builtin PySem.Builtin.Str
section
variable{X:Cx}
theorem strs_vals:∀(l:List (Str×Tok)),Zk ((l.map (·.1)).map V.str) (strValues l)
 | []=>.nil
 | (x,t)::r=>.cons ⟨t,rfl⟩ (strs_vals r)
theorem Jy{XY:ZY}{Z:St}{H:Hp}{s:Shared}{t':Nat}{l:List (Str×Tok)}{ss:ZD}(I:Inv X XY Z H s)(e:l.map (·.1)=ss)(hz:ss.length<=sizeLine){Q:VK}
  (q:∀a,H a=none->Q (.ref a) (upd H a (.lst (ss.map V.str)))):EP X XY Z Q (.ref s.heap.objs.size) { s with heap:=s.heap.push { cls:=.type "list",data:=.seq (strValues l).toArray },toks:=t' }:=by
 subst e;exact⟨.ref s.heap.objs.size,_,I.lnew (strs_vals l) (by rw[Zn];exact hz),rfl,q _ I.fresh⟩
def ub(z:Str)(x:V)(vs:ZQ)(H:Hp)(Q:VK):Prop:=∃y,x=.str y/\vs=[.str z]/\y.length+2<=sizeLine/\∀a,H a=none->Q (.ref a) (upd H a (.lst ((Txt.split y z).map V.str)))
theorem zh{z:Str}(hz:(z.length == 0)=false):MtM X "str.split" (ub z):=by
 intro XY s Z H x vs v us Q I rx rv h;obtain⟨y,rfl,rfl,hs,q⟩:=h;obtain⟨t,rfl⟩:=rx;obtain⟨u,rfl,ru⟩:=rv.one;obtain⟨t',rfl⟩:=ru
 have hn:(partsBetween y (occurrences y z 0 y.length (y.length+1)) z.length).length<=sizeLine:=by
  have e1:=StrLaws.occ_length_le_len y z 0 y.length (y.length+1);rw[length_partsBetween];omega
 have one:(1:Nat)<=sizeLine:=by have:=sizeLine_eq;omega
 cases h1:(decide (y.length<z.length) || decide (strKind y<strKind z))
 .cases hf:(occurrences y z 0 y.length (y.length+1)).isEmpty
  .refine call_meets F.slot_str_split (typeIs_str _ _ _) F.entry_str_split (F.args_str_split_2 _ _) (meets_str_split_sep y z t t' h1 hz hf (by omega) hn) ?_;have e:Txt.split y z=partsBetween y (occurrences y z 0 y.length (y.length+1)) z.length:=(if_neg (ne_true_of_eq_false h1)).trans (if_neg (ne_true_of_eq_false hf));show EP X XY Z Q _ { s with toks:=_,heap:=s.heap.push { cls:=.type "list",data:=.seq (strsFrom s.toks (partsBetween y (occurrences y z 0 y.length (y.length+1)) z.length)).toArray } };rw[strsFrom_eq];exact Jy (l:=numbered s.toks _) I (numbered_texts _ _) hn fun a ha=>by rw[<-e];exact q a ha
  .have e:Txt.split y z=[y]:=(if_neg (ne_true_of_eq_false h1)).trans (if_pos hf);exact call_meets F.slot_str_split (typeIs_str _ _ _) F.entry_str_split (F.args_str_split_2 _ _) (meets_str_split_not_found y z t t' h1 hz hf) (Jy (l:=[(y,t)]) I e.symm (by rw[e];exact one) q)
 .have e:Txt.split y z=[y]:=if_pos h1;exact call_meets F.slot_str_split (typeIs_str _ _ _) F.entry_str_split (F.args_str_split_2 _ _) (meets_str_split_cannot_occur y z t t' h1) (Jy (l:=[(y,t)]) I e.symm (by rw[e];exact one) q)
def uf(z:Str)(x:V)(vs:ZQ)(H:Hp)(Q:VK):Prop:=∃y k,x=.str y/\vs=[.str z,.int k]/\0<=k/\k<2 ^ 62/\y.length+2<=sizeLine/\∀a,H a=none->Q (.ref a) (upd H a (.lst ((Txt.splitMax y z k).map V.str)))
theorem zr{z:Str}(hz:(z.length == 0)=false):MtM X "str.split" (uf z):=by
 intro XY s Z H x vs v us Q I rx rv h;obtain⟨y,k,rfl,rfl,k0,k1,hs,q⟩:=h;obtain⟨t,rfl⟩:=rx;cases rv with | cons ru rv=>cases rv with | cons X3 rv=>cases rv with | nil =>
 obtain⟨t',rfl⟩:=ru;obtain⟨t2,rfl⟩:=X3
 have hk:(decide (k < -(2 ^ 63:Int)) || decide (k ≥ 2 ^ 63))=false:=by
  rw[Dj (by omega),Dj (by omega)];rfl
 have hn:(partsBetween y (occurrences y z 0 y.length (limitOf y k)) z.length).length<=sizeLine:=by
  have e1:=StrLaws.occ_length_le_len y z 0 y.length (limitOf y k);rw[length_partsBetween];omega
 have one:(1:Nat)<=sizeLine:=by have:=sizeLine_eq;omega
 cases h1:(decide (y.length<z.length) || decide (strKind y<strKind z))
 .cases hf:(occurrences y z 0 y.length (limitOf y k)).isEmpty
  .refine call_meets F.slot_str_split (typeIs_str _ _ _) F.entry_str_split (F.args_str_split_3 _ _ _) (meets_str_split_sep_max y z k t t' t2 hk h1 hz hf (by omega) hn) ?_;have e:Txt.splitMax y z k=partsBetween y (occurrences y z 0 y.length (limitOf y k)) z.length:=(if_neg (ne_true_of_eq_false h1)).trans (if_neg (ne_true_of_eq_false hf));show EP X XY Z Q _ { s with toks:=_,heap:=s.heap.push { cls:=.type "list",data:=.seq (strsFrom s.toks (partsBetween y (occurrences y z 0 y.length (limitOf y k)) z.length)).toArray } };rw[strsFrom_eq];exact Jy (l:=numbered s.toks _) I (numbered_texts _ _) hn fun a ha=>by rw[<-e];exact q a ha
  .have e:Txt.splitMax y z k=[y]:=(if_neg (ne_true_of_eq_false h1)).trans (if_pos hf);exact call_meets F.slot_str_split (typeIs_str _ _ _) F.entry_str_split (F.args_str_split_3 _ _ _) (meets_str_split_max_not_found y z k t t' t2 hk h1 hz hf) (Jy (l:=[(y,t)]) I e.symm (by rw[e];exact one) q)
 .have e:Txt.splitMax y z k=[y]:=if_pos h1;exact call_meets F.slot_str_split (typeIs_str _ _ _) F.entry_str_split (F.args_str_split_3 _ _ _) (meets_str_split_max_cannot_occur y z k t t' t2 hk h1) (Jy (l:=[(y,t)]) I e.symm (by rw[e];exact one) q)
def ug(x:V)(vs:ZQ)(H:Hp)(Q:VK):Prop:=∃y z,x=.str y/\vs=[.str z]/\Q (.bl (Txt.startswith y z)) H
theorem zc:MtM X "str.startswith" ug:=by
 intro XY s Z H x vs v us Q I rx rv h;obtain⟨y,z,rfl,rfl,q⟩:=h;obtain⟨t,rfl⟩:=rx;obtain⟨u,rfl,ru⟩:=rv.one;obtain⟨t',rfl⟩:=ru;exact SC.startswith ⟨.bl _,H,I,rfl,q⟩
end
theorem Eu{y z:Str}(h:y.length+2<=sizeLine):(Txt.split y z).length<=sizeLine:=by
 unfold Txt.split
 split
 .show 1<=sizeLine;omega
 .split
  .show 1<=sizeLine;omega
  .have e1:=StrLaws.occ_length_le_len y z 0 y.length (y.length+1);rw[length_partsBetween];omega
theorem Ea{y z:Str}{k:Int}(h:y.length+2<=sizeLine):(Txt.splitMax y z k).length<=sizeLine:=by
 unfold Txt.splitMax
 split
 .show 1<=sizeLine;omega
 .split
  .show 1<=sizeLine;omega
  .have e1:=StrLaws.occ_length_le_len y z 0 y.length (limitOf y k);rw[length_partsBetween];omega
end L2
namespace L2
open PySem PySem.Spec PyProof PyProof.Rows PySem.W
def Iwl(K:W.Frag)(a:Addr)(xs:ZQ):It :=
 ⟨fun i H=>i<xs.length/\Ud K H a xs,fun i H x H'=>H'=H/\xs.reverse[i]?=some x,fun i _=>xs.length=i⟩
theorem Xc{P:Program}{w:World}{K:W.Frag}{tg:Expr}(a it:Addr)(xs:ZQ):Turn P w K tg (Iwl K a xs) [it] it (fun i h=>h.IsRevIter it a ((xs.length:Int) - 1 - i)) where
 mem:=by simp
 obj:=fun i h st b hb=>by
  have e:b=it:=by simpa using hb
  subst e;obtain⟨o,e,c,d⟩:=st;exact⟨o,e,fun v z=>by rw[d]at z;cases z⟩
 keep:=fun i h h' st k=>by
  obtain⟨o,e,c,d⟩:=st;exact⟨o,k it (by simp) o e,c,d⟩
 item:=by
  intro X hP hw hK hc i XY s Z H E I hf st hg;subst hP hw hK;obtain⟨hi,hq⟩:=hg;obtain⟨its,rv,p,hz⟩:=I.list hq;have hl:=rv.length;have hx:xs[xs.length - 1 - i]?=some (xs[xs.length - 1 - i]'(by omega)):=Dx (by omega);obtain⟨u,hu,ru⟩:=rv.get hx;obtain⟨f0,f1,f2,f3,f4,f5⟩:=hf it (by simp)
  have st:s.heap.IsRevIter it a ((xs.length - 1 - i:Nat):Int):=by
   rw[show ((xs.length - 1 - i:Nat):Int)=(xs.length:Int) - 1 - i by omega];exact st
  refine wpAny_pyNext_rev_item st p.isList (x:=u) (by simpa using hu) fun h' T4 sb=>?_;have I1:Inv X XY Z H { s with heap:=h' }:=I.turned (t':=s.toks) (fun b o hb e=>(sb.2 b hb).trans e) f0 f1 f3 f4 f5
  have T4:h'.IsRevIter it a ((xs.length:Int) - 1 - ((i+1:Nat):Int)):=by
   rw[show (xs.length:Int) - 1 - ((i+1:Nat):Int)=((xs.length - 1 - i:Nat):Int) - 1 by omega];exact T4
  obtain⟨o,e,c,d⟩:=id T4;exact⟨u,rfl,W6 (s:={ s with heap:=h' }) e c d (by decide) ⟨_,H,I1,ru,⟨rfl,by rw[List.getElem?_reverse (by omega)];exact hx⟩,T4,fun b hb=>(hf b hb).1⟩⟩
 done:=by
  intro X hP hw hK hc i XY s Z H E I hf st hg;subst hP hw hK;have hg:xs.length=i:=hg;obtain⟨f0,f1,f2,f3,f4,f5⟩:=hf it (by simp);exact wpAny_pyNext_rev_end (I.ok.hd hc) (by rw[show (-1:Int)=(xs.length:Int) - 1 - i by omega];exact st) fun h' eb=>⟨rfl,I.turned (t':=s.toks) (fun b o hb e=>eb b o hb e) f0 f1 f3 f4 f5⟩
 self:=fun _ _ _ _ _ st h=>wpAny_pyIter_revIter st h
section
variable{X:Cx}{tg a:Expr}{t:TA}{p2 Y9:Pos}
def iRevL(K:W.Frag)(t:TA):TI:=fun Z H R=>t Z H fun vs H1=>∃l xs,vs=[.ref l]/\Ud K H1 l xs/\R (Iwl K l xs) H1
theorem ax(ee:Gl X "reversed")(eg:X.mg "reversed" = none)(ha:PA X [a] t)
  (he2:starEach [a] X.env=(false,eval a X.env)::starEach [] X.env:=by rfl) (W5:(backTo Y9 (starEach [] X.env)).any (·.1)=false:=by rfl) :
  PI X tg (.Call (.Name "reversed" p2) [a] [] Y9) (iRevL X.K t):=by
 intro XY s Z H R I h;refine wpAny_Call_Name_kw (U8 I ee eg (by decide +kernel:bootBuiltins "reversed" = some (.type "reversed")) ?_ (by decide) (by decide));refine callWith_type1 (Yz (ha Y9 XY s Z H _ I h) fun us s1 ⟨vs,H1,I1,r1,q1⟩=>?_) he2 W5;obtain⟨l,xs,rfl,hx,q⟩:=q1;obtain⟨u1,rfl,e1⟩:=vals1 r1;cases e1;obtain⟨its,rv,pl,z⟩:=I1.list hx;have hl:=rv.length;refine call_reversed_list pl.isList ?_;refine wpAny_pyIter_revIter (s:={ s1 with heap:=s1.heap.push (revObj l ((its.toArray.size:Int) - 1)) }) ⟨_,Bv _ rfl,rfl,rfl⟩ ?_;refine⟨s1.heap.objs.size,[s1.heap.objs.size],_,_,H1,rfl,I1.kept (t':=s1.toks) fun b o e=>Vs _ e,Xc l _ xs,⟨_,Bv _ rfl,rfl,by rw[Jz, <-hl];simp[revObj]⟩,fun b hb=>?_,q⟩;have e:b=s1.heap.objs.size:=by simpa using hb
 subst e;exact I1.fpOk (Z5 _) (I1.hok.fresh (Z5 _))
end
end L2
namespace L2
open PySem PySem.Spec PyProof.Rows
def tClr(to:TE):TE:=fun Z H Q=>to Z H fun x H1=>∃(d:Addr) (ks:List (Key×V)),x=.ref d/\H1 d=some (.dK ks)/\Q .non (upd H1 d (.dK []))
section
variable{X:Cx}{ap pos:Pos}{o:Expr}{to:TE}
theorem zk(ho:PE X o to)(G2:attributeBase o "clear" X.env (eval o X.env)=eval o X.env)(Jk:(ap.endLine == pos.line)=true):PE X (.Call (.Attribute o "clear" ap) [] [] pos) (tClr to):=by
 intro XY s Z H Q I h;refine wpAny_Call_method0_late G2 Jk (Yz (ho XY s Z H _ I h) fun v s1 ⟨x,H1,I1,r1,q1⟩=>?_);obtain⟨d,ks,rfl,hd,q⟩:=q1;cases r1;obtain⟨t1,t2,_⟩:=Co I1 (.inl ⟨ks,.inl hd⟩);exact⟨"dict","dict.clear",PySem.F.plainAttrs_dict,PySem.F.slot_dict_clear,PySem.F.type_dict_clear,t1,t2,Calls.callWith_builtin rfl (PySem.evalArgs_none (Zz0 I1 hd fun s' I2=>⟨.non,_,I2,rfl,q⟩))⟩
end
end L2
namespace SPL
open PySem PySem.StrLaws PySem.Builtin PySem.Builtin.Str PyProof PyProof.Rows
noncomputable def J(c:Nat):List (List Nat)->List Nat->List Nat
 | [],r=>r
 | w::ws,r=>w++c::J c ws r
theorem Qf{c:Nat}:∀{a b r s:List Nat},a++c::r=b++c::s->c ∉ a->c ∉ b->a=b/\r=s
 | [],[],r,s,e,_,_=>⟨rfl,(List.cons.inj e).2⟩
 | [],x::b,r,s,e,_,h=>absurd (by rw[(List.cons.inj e).1];exact Ye) h
 | x::a,[],r,s,e,h,_=>absurd (by rw[<-(List.cons.inj e).1];exact Ye) h
 | x::a,y::b,r,s,e,h,h'=>by
  obtain⟨e1,e2⟩:=List.cons.inj e;obtain⟨g1,g2⟩:=Qf e2 (fun m=>h (Vi _ m)) fun m=>h' (Vi _ m);exact⟨by rw[e1,g1],g2⟩
theorem Zqh{c:Nat}{w:List Nat}{ws:List (List Nat)}{r:List Nat}:c∈J c (w::ws) r:=Ta _ Ye
theorem Zqp{c:Nat}:∀{n:Nat} {ws ps:List (List Nat)} {r l:List Nat},J c ws r=J c ps l->(∀w∈ws,c ∉ w)->(∀p∈ps,c ∉ p)->ws.length<=n->ps.length<=n->(ws.length=n\/c ∉ r)->(ps.length=n\/c ∉ l)->ws=ps/\r=l
 | _,[],[],r,l,e,_,_,_,_,_,_=>⟨rfl,e⟩
 | n,[],p::ps,r,l,e,_,_,_,h2,h3,_=>by
  rcases h3 with h3 | h3
  .have h3:0=n:=h3;have:ps.length+1<=n:=h2;omega
  .exact absurd (by rw[show r=J c (p::ps) l from e];exact Zqh) h3
 | n,w::ws,[],r,l,e,_,_,h1,_,_,h4=>by
  rcases h4 with h4 | h4
  .have h4:0=n:=h4;have:ws.length+1<=n:=h1;omega
  .exact absurd (by rw[<-show J c (w::ws) r=l from e];exact Zqh) h4
 | 0,w::ws,p::ps,r,l,e,_,_,h1,_,_,_=>absurd h1 (by simp)
 | n+1,w::ws,p::ps,r,l,e,f,g,h1,h2,h3,h4=>by
  obtain⟨e1,e2⟩:=Qf e (f w Ye) (g p Ye);obtain⟨e3,e4⟩:=Zqp (n:=n) e2 (fun x m=>f x (Vi _ m)) (fun x m=>g x (Vi _ m)) (Nat.le_of_succ_le_succ h1) (Nat.le_of_succ_le_succ h2) (h3.imp Nat.succ.inj id) (h4.imp Nat.succ.inj id);exact⟨by rw[e1,e3],e4⟩
theorem Fg(s sub:Str)(hi limit lo:Nat)(hw:1<=sub.length):∀(m cur:Nat) (st:ZS×Nat),ChainG s sub hi lo st.fst.toList st.snd->(st.fst.size=limit\/∀k,st.snd<=k->k<cur->¬ At s sub hi k)->st.fst.size<=limit ->
  ChainG s sub hi lo (forIn (List.range' cur m) st (occBody s sub hi limit)).run.fst.toList (forIn (List.range' cur m) st (occBody s sub hi limit)).run.snd /\
  ((forIn (List.range' cur m) st (occBody s sub hi limit)).run.fst.size=limit\/∀k,(forIn (List.range' cur m) st (occBody s sub hi limit)).run.snd<=k->k<cur+m->¬ At s sub hi k)/\(forIn (List.range' cur m) st (occBody s sub hi limit)).run.fst.size<=limit
 | 0,cur,st,h,hn,hl=>⟨h,hn,hl⟩
 | m+1,cur,st,h,hn,hl=>by
  rw[List.range'_succ,List.forIn_cons];unfold occBody;have e:cur+(m+1)=(cur+1)+m:=by omega
  rw[e]
  split
  .rename_i hc
   have bc:∀k,st.snd<=k->k<cur->¬ At s sub hi k:=hn.resolve_left (by have:=hc.1.1.1;omega);refine Fg s sub hi limit lo hw m (cur+1) _ ?_ (.inr ?_) ?_
   .show ChainG s sub hi lo (st.fst.push cur).toList (cur+sub.length);rw[Array.toList_push];exact chainG_snoc h hc.1.1.2 ⟨hc.1.2,hc.2⟩ bc
   .intro k h1 h2;have h1':cur+sub.length<=k:=h1;omega
   .show (st.fst.push cur).size<=limit;rw[Array.size_push];exact hc.1.1.1
  .rename_i hc
   refine Fg s sub hi limit lo hw m (cur+1) _ h ?_ hl;by_cases hs:st.fst.size=limit
   .exact .inl hs
   .have bc:=hn.resolve_left hs;refine .inr fun k h1 h2 hA=>?_;by_cases hk:k<cur
    .exact bc k h1 hk hA
    .have ek:k=cur:=by omega
     subst ek;exact hc ⟨⟨⟨by omega,h1⟩,hA.1⟩,hA.2⟩
theorem Ao(x y:Str)(limit:Nat)(hw:1<=y.length):∃f,ChainG x y x.length 0 (occurrences x y 0 x.length limit) f/\((occurrences x y 0 x.length limit).length=limit\/∀k,f<=k->¬ At x y x.length k)/\(occurrences x y 0 x.length limit).length<=limit:=by
 rw[occ_eq];have key:=Fg x y x.length limit 0 hw (x.length+1 - 0) 0 ((#[]:ZS),0) rfl (.inr fun k _ h=>by omega) (Bw _);refine⟨_,key.1, ?_,by rw[qg];exact key.2.2⟩;rcases key.2.1 with h | h
 .exact .inl (by rw[qg];exact h)
 .exact .inr fun k hk hA=>h k hk (by have:=hA.1;omega) hA
def cp(x:Str):List Nat:=x.cps.toList
theorem Ap(x:Str)(c:Nat):∀(cuts:List Nat) (a f:Nat),ChainG x ⟨#[c]⟩ x.length a cuts f->∃ps:ZD,partsFrom x (⟨#[c]⟩:Str).length a cuts=ps++[strSub x f x.length]/\ps.length=cuts.length/\(∀p∈ps,c ∉ cp p)/\cp (strSub x a x.length)=J c (ps.map cp) (cp (strSub x f x.length))
 | [],a,f,h=>by
  have e:f=a:=h;subst e;exact⟨[],rfl,rfl,fun _ m=>absurd m Vy,rfl⟩
 | d::r,a,f,h=>by
  obtain⟨ps,e1,e2,e3,e4⟩:=Ap x c r _ f h.2.2.2;refine⟨strSub x a d::ps,by unfold partsFrom;rw[e1];rfl,by simp[e2],fun p m=>?_, ?_⟩
  .rcases Y6.mp m with rfl | m
   .exact part_free x c a d (by have:=h.2.1.1;omega) h.2.2.1
   .exact e3 p m
  .have:=sub_cat x ⟨#[c]⟩ h.1 h.2.1;rw[<-this];show (strSub x a d++⟨#[c]⟩++strSub x (d+(⟨#[c]⟩:Str).length) x.length).cps.toList=cp (strSub x a d)++c::J c (ps.map cp) (cp (strSub x f x.length));rw[<-e4];simp only[Str.cps_append,Array.toList_append,cp];simp
theorem gk{x:Str}{c:Nat}(h:(decide (x.length<(⟨#[c]⟩:Str).length) || decide (strKind x<strKind ⟨#[c]⟩))=true):c ∉ cp x:=by
 intro hm;obtain⟨j,hj⟩:=List.getElem?_of_mem hm;have hA:=(subAt_one x c j).mpr hj;rw[Bool.or_eq_true,decide_eq_true_eq,decide_eq_true_eq]at h;rcases h with h | h
 .have:=hA.1;omega
 .exact absurd hm (kind_free x c h)
theorem Kf(x:Str)(c n:Nat)(hn:0<n)(z:ZD)(hz:z=if (decide (x.length<(⟨#[c]⟩:Str).length) || decide (strKind x<strKind ⟨#[c]⟩))=true then [x] else if (occurrences x ⟨#[c]⟩ 0 x.length n).isEmpty=true then [x] else partsBetween x (occurrences x ⟨#[c]⟩ 0 x.length n) (⟨#[c]⟩:Str).length) :
  ∃(ps:ZD) (l:Str),z=ps++[l]/\(∀p∈ps,c ∉ cp p)/\cp x=J c (ps.map cp) (cp l)/\ps.length<=n/\(ps.length=n\/c ∉ cp l):=by
 obtain⟨f,hG,ho,hl⟩:=Ao x ⟨#[c]⟩ n (Z5 1);obtain⟨ps,e1,e2,e3,e4⟩:=Ap x c _ 0 f hG;have key:ps.length=n\/c ∉ cp (strSub x f x.length):=ho.imp (fun h=>by rw[e2,h]) fun h=>part_free x c f x.length (Z5 _) fun k h1 _=>h k h1
 split at hz
 .rename_i h
  exact⟨[],x,hz,fun _ m=>absurd m Vy,rfl,Bw _,.inr (gk h)⟩
 .have hz:z=ps++[strSub x f x.length]:=by
   split at hz
   .rename_i he
    have e0:=List.isEmpty_iff.mp he;rw[e0]at e1 hG;have ef:f=0:=hG;subst ef
    have:ps=[]:=by
     have:=congrArg List.length e1;rw[Yl]at this;exact List.eq_nil_of_length_eq_zero (by simp[partsFrom]at this;simpa using this)
    rw[this,hz,sub_whole];rfl
   .rw[hz,partsBetween_eq,e1]
  rw[sub_whole]at e4;exact⟨ps,_,hz,e3,e4,by rw[e2];exact hl,key⟩
theorem Va{x y:Str}(h:cp x=cp y):x=y:=by
 cases x;cases y
 congr
 exact Array.toList_inj.mp h
theorem Ii:∀{a b:ZD},a.map cp=b.map cp->a=b
 | [],[],_=>rfl
 | [],_::_,h=>by cases h
 | _::_,[],h=>by cases h
 | x::a,y::b,h=>by
  obtain⟨h1,h2⟩:=List.cons.inj h;rw[Va h1,Ii h2]
theorem of_J{x:Str}{c n:Nat}{z ws:ZD}{r:Str}(h:∃(ps:ZD) (l:Str),z=ps++[l]/\(∀p∈ps,c ∉ cp p)/\cp x=J c (ps.map cp) (cp l)/\ps.length<=n/\(ps.length=n\/c ∉ cp l))(e:cp x=J c (ws.map cp) (cp r))(fw:∀w∈ws,c ∉ cp w)(hl:ws.length<=n)(hr:ws.length=n\/c ∉ cp r):z=ws++[r]:=by
 obtain⟨ps,l,rfl,f,e',h1,h2⟩:=h;have fm:∀{us:ZD},(∀p∈us,c ∉ cp p)->∀w∈us.map cp,c ∉ w:=fun hf w m=>let ⟨p,m,e⟩:=Ra.mp m;by rw[<-e];exact hf p m
 obtain⟨g1,g2⟩:=Zqp (n:=n) (e'.symm.trans e) (fm f) (fm fw) (by simpa using h1) (by simpa using hl) (by simpa using h2) (by simpa using hr);rw[Ii g1,Va g2]
theorem wu{x:Str}{c:Nat}{ws:ZD}{r:Str}(e:cp x=J c (ws.map cp) (cp r))(fw:∀w∈ws,c ∉ cp w)(hr:c ∉ cp r):Txt.split x ⟨#[c]⟩=ws++[r]:=by
 have hl:ws.length<=x.length+1:=by
  have:∀(us:List (List Nat)) (q:List Nat),us.length<=(J c us q).length:=fun us q=>by
   induction us with
   | nil=>exact Bw _
   | cons u us ih=>unfold J;rw[Yl,Yo,Yo];omega
  have h2:=this (ws.map cp) (cp r);rw[<-e,Zn]at h2;have:(cp x).length=x.length:=by simp[cp,Str.length]
  omega
 exact of_J (Kf x c (x.length+1) (Nat.succ_pos _) _ rfl) e fw hl (.inr hr)
theorem By{x:Str}{c n:Nat}{ws:ZD}{r:Str}(hn:0<n)(e:cp x=J c (ws.map cp) (cp r))(fw:∀w∈ws,c ∉ cp w)(hl:ws.length<=n)(hr:ws.length=n\/c ∉ cp r):Txt.splitMax x ⟨#[c]⟩ (n:Nat)=ws++[r]:=by
 refine of_J (Kf x c n hn _ ?_) e fw hl hr;unfold Txt.splitMax;rw[show limitOf x (n:Nat)=n by unfold limitOf;rw[if_neg (by omega)];rfl]
theorem Zv(x:Str):(cp x).length=x.length:=by simp[cp,Str.length]
theorem Zu(x y:Str):cp (x++y)=cp x++cp y:=by simp[cp,Str.cps_append]
def jn(ws:ZD):Str:=Txt.join " " ws
theorem Iw(g:ZS):∀(ws:ZD) (a:ZS),(ws.foldl (fun acc p=>acc++g++p.cps) a).toList=a.toList++ws.flatMap fun w=>g.toList++cp w
 | [],a=>by simp
 | w::ws,a=>by
  rw[List.foldl_cons,Iw g ws];simp[cp]
theorem Yi(w:Str)(ws:ZD):cp (jn (w::ws))=cp w++ws.flatMap fun w=>32::cp w:=Iw #[32] ws w.cps
theorem cp_J:∀(ws:ZD) (r:Str),cp (jn (ws++[r]))=J 32 (ws.map cp) (cp r)
 | [],r=>by rw[List.nil_append,Yi];simp[J]
 | w::ws,r=>by
  rw[List.cons_append,Yi];cases ws with
  | nil=>simp[J]
  | cons v ws =>
   have:=cp_J (v::ws) r;rw[List.cons_append,Yi]at this;rw[Vm];show _=cp w++32::J 32 ((v::ws).map cp) (cp r);rw[<-this];simp
def Gk(x:Str):Prop:=32 ∉ cp x
theorem Vq{ws:ZD}(h:∀w∈ws,Gk w)(hn:ws≠[]):Txt.split (jn ws) " " = ws:=by
 obtain⟨r,us,e⟩:∃r us,ws=us++[r]:=⟨ws.getLast hn,ws.dropLast,(List.dropLast_concat_getLast hn).symm⟩;subst e;exact wu (cp_J us r) (fun w m=>h w (List.mem_append_left _ m)) (h r (Ta _ Ye))
theorem Mv:∀ws:ZD,(jn ws).length<=(ws.map fun w=>w.length+1).sum
 | []=>Bw _
 | w::ws=>by
  rw[<-Zv,Yi,Yl,Zv,Vm,List.sum_cons]
  have:∀us:ZD,(us.flatMap fun w=>32::cp w).length=(us.map fun w=>w.length+1).sum:=fun us=>by
   induction us with
   | nil=>rfl
   | cons u us ih=>rw[List.flatMap_cons,Yl,ih,Vm,List.sum_cons,Yo,Zv]
  rw[this];omega
theorem wa{x w:Str}{r:List Nat}(e:cp x=cp w++32::r)(h:Gk w):∃q,Txt.split x " " = w::q/\∀p∈w::q,p.length<=x.length:=by
 obtain⟨ps,l,e1,f,e2,h1,h2⟩:=Kf x 32 (x.length+1) (Nat.succ_pos _) _ rfl;have e1:Txt.split x " " = ps++[l]:=e1
 have ln:∀(us:List (List Nat)) (q:List Nat),(∀u∈us,u.length<=(J 32 us q).length)/\q.length<=(J 32 us q).length:=fun us q=>by
  induction us with
  | nil=>exact⟨fun _ m=>absurd m Vy,Z5 _⟩
  | cons u us ih =>
   have e:(J 32 (u::us) q).length=u.length+1+(J 32 us q).length:=by show (u++32::J 32 us q).length=_;rw[Yl,Yo];omega
   refine⟨fun v m=>?_,by have:=ih.2;omega⟩;rcases Y6.mp m with rfl | m
   .omega
   .have:=ih.1 v m;omega
 have l1:=ln (ps.map cp) (cp l);rw[<-e2,Zv,Zv]at l1;rw[e1];cases ps with
 | nil =>
  rcases h2 with h2 | h2
  .have h2:0=x.length+1:=h2;omega
  .have e3:cp x=cp l:=e2;rw[<-e3,e]at h2;exact absurd (Ta _ Ye) h2
 | cons p ps =>
  have e3:cp x=cp p++32::J 32 (ps.map cp) (cp l):=e2;have:=(Qf (e3.symm.trans e) (f p Ye) h).1;have:=Va this;subst this;refine⟨ps++[l],rfl,fun q m=>?_⟩;rcases x8.mp (show q∈(p::ps)++[l] from m) with m | m
  .have:=l1.1 _ (List.mem_map_of_mem m);rw[Zv]at this;exact this
  .rw[Pz.mp m];exact l1.2
theorem in_one(x:Str)(c:Nat):(!(occurrences x ⟨#[c]⟩ 0 x.length 1).isEmpty)=decide (c∈cp x):=by
 obtain⟨f,hG,ho,_⟩:=Ao x ⟨#[c]⟩ 1 (Z5 1);cases e:occurrences x ⟨#[c]⟩ 0 x.length 1 with
 | nil =>
  rw[e]at hG ho;have ef:f=0:=hG;subst ef;rcases ho with ho | ho
  .cases ho
  .refine(Dj fun m=>?_).symm;obtain⟨j,hj⟩:=List.getElem?_of_mem m;exact ho j (Bw _) ((subAt_one x c j).mpr hj)
 | cons d r =>
  rw[e]at hG;have hA:=(subAt_one x c d).mp hG.2.1;exact(Ub (M0g hA)).symm
def sI(i:Int):Str:=toString i
theorem dv(s:String):cp (s:Str)=s.toList.map Char.toNat:=by
 show ((Str.ofString s).cps).toList=_;rw[Str.ofString_eq_toList]
def dg(n:Nat):List Nat:=(Nat.toDigits 10 n).map Char.toNat
theorem E5(n:Nat):cp (sI (n:Nat))=dg n:=by
 show cp ((Nat.repr n:String):Str)=_;rw[dv,Nat.toList_repr];rfl
theorem E4(n:Nat):cp (sI (Int.negSucc n))=45::dg (n+1):=by
 show cp (("-" ++ Nat.repr (n+1):String):Str)=_;rw[dv,String.toList_append,Nat.toList_repr];rfl
theorem Mb(n:Nat):NumText.AllDigits (dg n):=fun c m=>by
 obtain⟨d,md,rfl⟩:=Ra.mp m;have:=Nat.isDigit_of_mem_toDigits (by decide) (Z5 10) md;rw[Char.isDigit_iff_toNat]at this;exact this
theorem Iu(n:Nat):dg n≠[]:=fun h=>by
 have:=Nat.length_toDigits_pos (b:=10) (n:=n);rw[<-Zn (f:=Char.toNat),show (Nat.toDigits 10 n).map Char.toNat=[] from h]at this;exact absurd this (Nat.lt_irrefl 0)
theorem dq(n:Nat):NumText.digitsVal (dg n)=n:=by
 have e:∀(l:List Char) (a:Nat),(l.map Char.toNat).foldl (fun acc c=>acc * 10+(c - 48)) a=l.foldl (fun sofar c=>10 * sofar+(c.toNat - '0'.toNat)) a:=fun l=>by
  induction l with
  | nil=>exact fun _=>rfl
  | cons c l ih=>intro a;rw[Vm,List.foldl_cons,List.foldl_cons,ih];congr 1;show a * 10+_=10 * a+_;rw[Nat.mul_comm];rfl
 exact(e _ 0).trans Nat.ofDigitChars_ten_toDigits
theorem Qk{n k:Nat}(hk:0<k)(h:n<10 ^ k):(dg n).length<=k:=by
 unfold dg;rw[Zn];exact(Nat.length_toDigits_le_iff (by decide) hk).mpr h
theorem Dv(i:Int):Gk (sI i):=fun m=>by
 cases i with
 | ofNat n =>
  rw[show sI (Int.ofNat n)=sI (n:Nat) from rfl,E5]at m;have:=Mb n 32 m;omega
 | negSucc n =>
  rw[E4]at m;rcases Y6.mp m with m | m
  .cases m
  .have:=Mb _ 32 m;omega
theorem vn{i:Int}(h:i.natAbs<10 ^ 19):(sI i).length<=20:=by
 rw[<-Zv];cases i with
 | ofNat n =>
  rw[show sI (Int.ofNat n)=sI (n:Nat) from rfl,E5];have:=Qk (n:=n) (k:=19) (by decide) h;omega
 | negSucc n =>
  rw[E4,Yo];have:=Qk (n:=n+1) (k:=19) (by decide) h;omega
theorem T3(x:Str):Txt.startswith x "-" = true↔∃cs,cp x=45::cs:=by
 have e:Txt.startswith x "-" = true↔(cp x)[0]?=some 45:=by
  rw[show (cp x)[0]?=some 45↔_ from(subAt_one x 45 0).symm];unfold Txt.startswith;rw[Y8,decide_eq_true_eq];exact Iff.rfl
 rw[e];cases cp x with
 | nil=>exact⟨fun h=>(nomatch h),fun⟨_,h⟩=>(nomatch h)⟩
 | cons c cs=>exact⟨fun h=>⟨cs,by cases h;rfl⟩,fun⟨_,h⟩=>by cases h;rfl⟩
theorem Lo(x:Str):cp (Txt.slice x (some 1) none)=(cp x).drop 1:=by
 have e:Builtin.Str.strSliceIndices (some 1) none 1 x.length=List.range' 1 (x.length - 1):=by
  unfold Builtin.Str.strSliceIndices sliceRange;simp only[show (1:Int)>0 by decide,if_true,show ¬ ((1:Int)<0) by decide,if_false];rw[List.range'_eq_map_range];by_cases h:x.length=0
  .rw[h];rfl
  .rw[show max (0:Int) (min 1 (x.length:Nat))=1 by omega,Int.ediv_one];by_cases h1:(1:Int)<(x.length:Nat)
   .rw[if_pos h1,show ((x.length:Int) - 1+1 - 1).toNat=x.length - 1 by omega];exact List.map_congr_left fun k _=>by omega
   .rw[if_neg h1,show x.length - 1=0 by omega];rfl
 unfold Txt.slice;rw[e]
 split
 .rename_i h
  simp only[List.length_range',Y8,beq_iff_eq]at h;have:(cp x).length=0:=by rw[Zv];omega
  rw[List.eq_nil_of_length_eq_zero this];rfl
 .show (List.filterMap (fun i=>x.cps[i]?) (List.range' 1 (x.length - 1))).toArray.toList=_;rw[List.toList_toArray]
  have g:∀(l:List Nat) (n k:Nat),k+n=l.length->List.filterMap (fun i=>l[i]?) (List.range' k n)=l.drop k:=fun l n=>by
   induction n with
   | zero=>intro k h;rw[List.drop_eq_nil_of_le (by omega)];rfl
   | succ n ih =>
    intro k h;have hk:k<l.length:=by omega
    rw[List.range'_succ,List.filterMap_cons,Dx hk,ih (k+1) (by omega),List.drop_eq_getElem_cons hk]
  by_cases h:x.length=0
  .rw[h];have:(cp x).length=0:=by rw[Zv];omega
   rw[List.eq_nil_of_length_eq_zero this];rfl
  .have:=g (cp x) (x.length - 1) 1 (by rw[Zv];omega);rw[<-this]
   congr 1
   funext i
   show x.cps[i]?=x.cps.toList[i]?;rw[Array.getElem?_toList]
noncomputable def Ez(x:Str):Str:=if Txt.startswith x "-" = true then Txt.slice x (some 1) none else x
theorem Zzy(x:Str):(Ez x).length<=x.length:=by
 unfold Ez
 split
 .rw[<-Zv,Lo,List.length_drop,Zv];omega
 .exact Z5 _
def FIG:Str:="0123456789"
theorem bx(c:Nat):c∈cp FIG↔48<=c/\c<=57:=by
 have e:cp FIG=[48,49,50,51,52,53,54,55,56,57]:=by decide +kernel
 rw[e];simp only[Y6,Vy,or_false];omega
def okW(x:Str):Prop:=(1<=(Ez x).length/\(Ez x).length<=19)/\NumText.AllDigits (cp (Ez x))
theorem jk:∀(cs:List Nat) (a:Nat),NumText.AllDigits cs->cs.foldl (fun acc c=>acc * 10+(c - 48)) a<(a+1) * 10 ^ cs.length
 | [],a,_=>by show a<(a+1) * 1;omega
 | c::cs,a,h=>by
  have h1:=h c Ye;have h2:=jk cs (a * 10+(c - 48)) fun d m=>h d (Vi _ m);rw[List.foldl_cons,Yo,Nat.pow_succ];refine Ru h2 ?_;rw[Nat.mul_comm (10 ^ cs.length) 10, <-Nat.mul_assoc];exact Nat.mul_le_mul_right _ (by omega)
theorem Wd{cs:List Nat}(h:NumText.AllDigits cs)(hl:cs.length<=19):NumText.digitsVal cs<10 ^ 19:=by
 have h1:=jk cs 0 h;rw[Nat.zero_add,Nat.one_mul]at h1;exact Ru h1 (Nat.pow_le_pow_right (by decide) hl)
theorem ou{x:Str}(h:okW x)(hl:x.length<=640):∃n:Int,PySem.intText? x=some n/\n.natAbs<10 ^ 19:=by
 obtain⟨⟨h1,h3⟩,h2⟩:=h;unfold Ez at h1 h2 h3;by_cases e:Txt.startswith x "-" = true
 .rw[if_pos e]at h1 h2 h3;obtain⟨cs,ec⟩:=(T3 x).mp e;rw[Lo,ec]at h2;rw[<-Zv,Lo,ec]at h1 h3;refine⟨_,intText_neg (cs:=cs) ec h2 (by intro z;rw[z]at h1;exact absurd h1 (by decide)) (by omega), ?_⟩;have:NumText.digitsVal cs<10 ^ 19:=Wd h2 h3;omega
 .rw[if_neg e]at h1 h2 h3;refine⟨_,intText_digits h2 (by intro z;rw[<-Zv]at h1;rw[show cp x=[] from z]at h1;exact absurd h1 (by decide)) (by omega), ?_⟩;rw[<-Zv]at h3;have:=Wd h2 h3;exact this
theorem Fi{i:Int}(h:i.natAbs<10 ^ 19):okW (sI i)/\PySem.intText? (sI i)=some i:=by
 have hl:(sI i).length<=20:=vn h;cases i with
 | ofNat n =>
  have e:=E5 n
  have ns:¬ Txt.startswith (sI (n:Nat)) "-" = true:=fun z=>by
   obtain⟨cs,ec⟩:=(T3 _).mp z;rw[e]at ec;have:=Mb n 45 (by rw[ec];exact Ye);omega
  have f:Ez (sI (n:Nat))=sI (n:Nat):=if_neg ns;refine⟨⟨?_, ?_⟩, ?_⟩
  .show 1<=(Ez (sI (n:Nat))).length/\_;have el:(sI (n:Nat)).length=(dg n).length:=by rw[<-Zv,e]
   rw[show Ez (sI (Int.ofNat n))=_ from f,f,el];exact⟨List.length_pos_iff.mpr (Iu n),Qk (by decide) h⟩
  .rw[show Ez (sI (Int.ofNat n))=_ from f,e];exact Mb n
  .have:=intText_digits (x:=sI (n:Nat)) (by rw[show (sI (n:Nat)).cps.toList=_ from e];exact Mb n) (by rw[show (sI (n:Nat)).cps.toList=_ from e];exact Iu n) (by rw[show sI (n:Nat)=sI (Int.ofNat n) from rfl];omega);rw[show (sI (n:Nat)).cps.toList=_ from e,dq]at this;exact this
 | negSucc n =>
  have e:=E4 n;have f:Ez (sI (Int.negSucc n))=Txt.slice (sI (Int.negSucc n)) (some 1) none:=if_pos ((T3 _).mpr ⟨_,e⟩);have e2:cp (Ez (sI (Int.negSucc n)))=dg (n+1):=by rw[f,Lo,e];rfl
  refine⟨⟨?_, ?_⟩, ?_⟩
  .rw[<-Zv,e2];exact⟨List.length_pos_iff.mpr (Iu _),Qk (by decide) h⟩
  .rw[e2];exact Mb _
  .have:=intText_neg (x:=sI (Int.negSucc n)) (cs:=dg (n+1)) e (Mb _) (Iu _) (by omega);rw[dq]at this;exact this
end SPL
namespace PV
open PySem
structure TP where
 P:Addr
 lp:Pos
 q:Str
def wx:Option TP:=none
def Ca:ZK:=[]
end PV
namespace PV
open PySem PySem.Spec PyProof.Rows L2
def Tb(T:TP)(H:Hp):Prop:=∃ps,H T.P=some (.tbl ps)/\cx H T.lp T.q ps
def Pln(o:HO):Prop:=(∀ps,o≠.tbl ps)/\∀φ,o≠.ext φ
theorem yi{vs:ZQ}:Pln (.lst vs):=⟨fun _ z=>(nomatch z),fun _ z=>(nomatch z)⟩
theorem Zxp{vs:List (Key×V)}:Pln (.dK vs):=⟨fun _ z=>(nomatch z),fun _ z=>(nomatch z)⟩
theorem pln_f{o:Obj}{u:HO}:Pln (.frz o u):=⟨fun _ z=>(nomatch z),fun _ z=>(nomatch z)⟩
section
variable{T:TP}{F G H H':Hp}{a:Addr}{o o':HO}
theorem Tb.ne(t:Tb T H)(e:H a=some o)(n:Pln o):a≠T.P:=fun z=>by
 obtain⟨ps,h,_⟩:=t;rw[z,h]at e;cases e;exact n.1 _ rfl
theorem Tb.no(t:Tb T H)(e:H a=none):a≠T.P:=fun z=>by
 obtain⟨ps,h,_⟩:=t;rw[z,h]at e;cases e
theorem tab_keep{lp:Pos}{q:Str}{ps:ZN}(t:cx H lp q ps)(h:∀a φ,H a=some (.ext φ)->H' a=some (.ext φ)):cx H' lp q ps:=⟨t.1,t.2.imp id fun⟨c,e,hc⟩=>⟨c,e,h c _ hc⟩⟩
theorem Tb.same(t:Tb T H)(s:Zp H H'):Tb T H':=let ⟨ps,e,k⟩:=t;⟨ps,s _ _ e,tab_keep k fun a o h=>s _ _ h⟩
theorem Tb.upd(t:Tb T H)(e:H a=some o)(n:Pln o):Tb T (upd H a o'):=by
 have ne:=t.ne e n;obtain⟨ps,h,k⟩:=t;refine⟨ps,by rw[Zz ne.symm];exact h,tab_keep k fun b φ q=>?_⟩;rw[Zz fun z=>by rw[z,e]at q;cases q;exact n.2 _ rfl];exact q
structure TBT(T:TP)(F G H:Hp):Prop where
 f:F T.P=none
 g:G T.P=none
 h:Tb T H
end
def TB(F G H:Hp):Prop:=∀T,wx=some T->TBT T F G H
theorem TB.same{F G H H':Hp}(t:TB F G H)(s:Zp H H'):TB F G H':=fun T e=>let ⟨f,g,h⟩:=t T e;⟨f,g,h.same s⟩
end PV
namespace L2
open PySem PySem.Spec PyProof.Rows
section
variable{X:Cx}{e:Expr}{te:TA}{p pos lp kp p0 p1 p2 p3:Pos}
end
end L2
namespace PV
open PySem PySem.Spec PyProof.Rows L2
inductive T where
 | non | bl(b:Bool) | int(i:Int) | str(x:Str) | tup(ts:List T) | lst(ts:List T) | dct(XG:List (Key×T)) | fn(x:Str)
abbrev ZZ:=List T
abbrev ZX:=List (Key×T)
inductive Sl where | no | f(t:T) | o(t:T)
abbrev P:=List Sl
set_option genInjectivity true in
inductive A where | t(t:T) | s(i:Nat)
inductive Op where | add | sub | mul | fdiv | mod | pow
inductive Cm where | eq | ne | lt | le | gt | ge | isin | notin | is | isnt
inductive Kd where | int | bool | str | tuple | list | dict
inductive Pr where
 | op(o:Op) | cm(c:Cm) | c2(c d:Cm) | neg | ix | sl(lo hi:Bool) | rev
 | len | all | any | list | tuple | sorted | sset | lset | min | max | int | repr | dict | sum | abs | str | isi (n:Kd) | get1 | get2 | join (x:Str) | lvals | tup1 | dnew | fst (row:List (Option Str)) | spl1 (z:Str) | spl2 (z:Str) | sts | sits
inductive Mt where | append | extend | pop | popAt | insert
inductive Ik where | rng | zip | enm | rvl
inductive E where
 | v(i:Nat) | mv(i:Nat) | io(i:Nat) | k(t:T) | g(x:Str)
 | nil | cons (a r:E)
 | tup (es:E) | lst (es:E) | pr (p:Pr) (es:E)
 | and (a b:E) | or (a b:E) | not (a:E) | ite (c a b:E)
 | call (f:Str) (es:E) | cal (i:Nat) (es:E) | mt (m:Mt) (i:Nat) (es:E)
 | comp (tg it c el:E) (fr:ZG) (ns:ZD) | itr (k:Ik) (es:E) | tmp (a:E)
inductive S where
 | nil | seq(a r:S) | ret(a:E) | ex(a:E) | set(i:Nat)(a:E) | unp(tg a:E) | put(i:Nat)(k a:E)
 | ite (c:E) (a b:S) | loop (tg it:E) (b:S) | wh (c:E) (b:S) | pass | brk | cont | rais | clr (i:Nat) (f:Str) (j:Nat) (r:S)
inductive Fl where | nx | rt(r:Sl) | bk | ct
noncomputable def G4(ts:ZZ)(lo hi:ZR):ZZ:=(ts.drop (HT.Yg ts.length 0 lo)).take (HT.Yg ts.length ts.length hi - HT.Yg ts.length 0 lo)
noncomputable def Y2(XG:ZX)(k:Key):Option T:=(XG.find? fun p=>decide (p.1=k)).map (·.2)
noncomputable def P4(XG:ZX)(k:Key)(v:T):ZX :=
 if (XG.any fun p=>decide (p.1=k))=true then XG.map fun p=>if p.1=k then (p.1,v) else p else XG++[(k,v)]
noncomputable def keyT:T->Option Key
 | .int i=>some (.inl i)
 | .str x=>some (.inr x)
 | _=>none
noncomputable def Lr:Key->T
 | .inl i=>.int i
 | .inr x=>.str x
noncomputable def allB:ZZ->Option (List Bool)
 | []=>some []
 | .bl b::r=>(allB r).map (b::·)
 | _::_=>none
def Bc:T->Bool
 | .non=>true
 | .bl _=>true
 | .int _=>true
 | .str _=>true
 | _=>false
noncomputable def shV:T->V
 | .bl b=>.bl b
 | .int i=>.int i
 | .str x=>.str x
 | _=>.non
noncomputable def eqT:T->T->Option Bool
 | .str a,.str b=>some (decide (a=b))
 | .int a,.int b=>some (decide (a=b))
 | a,b=>if Bc a=true/\Bc b=true then some (nh (shV a) (shV b)) else none
noncomputable def Ka:ZZ->ZZ->Option Bool
 | [],[]=>some true
 | [],_::_=>some false
 | _::_,[]=>some false
 | a::r,b::q=>(eqT a b).bind fun x=>(Ka r q).map (x && ·)
noncomputable def iz:T->T->Option Bool
 | .int a,.int b=>some (decide (a<b))
 | _,_=>none
def geT:T->T->Option Bool
 | .int a,.int b=>some (decide (b<=a))
 | _,_=>none
noncomputable def Bu(a:T):ZZ->Option Bool
 | []=>some false
 | t::r=>(eqT t a).bind fun b=>(Bu a r).map (b || ·)
noncomputable def Ob:ZZ->Option (ZL)
 | []=>some []
 | .int i::r=>(Ob r).map (i::·)
 | _::_=>none
noncomputable def Uw:ZZ->Option (ZD)
 | []=>some []
 | .str i::r=>(Uw r).map (i::·)
 | _::_=>none
def Ac:Key->PyData
 | .inl i=>.int i
 | .inr x=>.str x
mutual
noncomputable def toPy:T->Option PyData
 | .non=>some .none
 | .bl b=>some (.bool b)
 | .int i=>some (.int i)
 | .str x=>some (.str x)
 | .tup ts=>(Ul ts).map .tuple
 | .lst ts=>(Ul ts).map .list
 | .dct XG=>(D1 XG).map .dict
 | .fn _=>none
noncomputable def Ul:ZZ->Option (List PyData)
 | []=>some []
 | t::r=>(toPy t).bind fun d=>(Ul r).map (d::·)
noncomputable def D1:ZX->Option (List (PyData×PyData))
 | []=>some []
 | (k,t)::r=>(toPy t).bind fun d=>(D1 r).map ((Ac k,d)::·)
end
noncomputable def rpT(t:T):Option Str:=(toPy t).bind fun d=>if d.showable=true/\d.shown.length<=sizeLine/\d.depth<=100 then some d.shown else none
def inF(a:T)(ts:ZZ):Option Bool:=if Bc a=true then Bu a ts else none
noncomputable def Zx7:T->Str->Option Bool
 | .str x,y=>some (!(Builtin.Str.occurrences y x 0 y.length 1).isEmpty)
 | _,_=>none
noncomputable def inT(a:T):T->Option Bool
 | .lst ts=>inF a ts
 | .tup ts=>inF a ts
 | .dct XG=>(keyT a).map fun k=>(Y2 XG k).isSome
 | .str y=>Zx7 a y
 | _=>none
noncomputable def isT:T->T->Option Bool
 | .non,.non=>some true
 | _,.non=>some false
 | _,_=>none
noncomputable def eqC:T->T->Option Bool
 | .tup ts,.tup us=>Ka ts us
 | .lst ts,.lst us=>Ka ts us
 | a,.tup _=>if Bc a=true then some false else none
 | a,b=>eqT a b
noncomputable def Ww:Cm->T->T->Option Bool
 | .eq,a,b=>eqC a b
 | .ne,a,b=>(eqC a b).map not
 | .lt,a,b=>iz a b
 | .gt,a,b=>iz b a
 | .le,a,b=>(iz b a).map not
 | .ge,a,b=>geT a b
 | .isin,a,b=>inT a b
 | .notin,a,b=>(inT a b).map not
 | .is,a,b=>isT a b
 | .isnt,a,b=>(isT a b).map not
noncomputable def fe(f:Int->Int->Option Sl)(t t':T):Option Sl:=match t with
 | .int a=>(match t' with
  | .int b=>f a b
  | _=>none)
 | _=>none
noncomputable def addT(t t':T):Option Sl:=match t with
 | .int a=>(match t' with
  | .int b=>some (.f (.int (a+b)))
  | _=>none)
 | .str a=>(match t' with
  | .str b=>if a.length+b.length<=sizeLine then some (.f (.str (a++b))) else none
  | _=>none)
 | .lst a=>(match t' with
  | .lst b=>if a.length+b.length<=sizeLine then some (.o (.lst (a++b))) else none
  | _=>none)
 | .tup a=>(match t' with
  | .tup b=>if a.length+b.length<=sizeLine then some (.f (.tup (a++b))) else none
  | _=>none)
 | .bl a=>(match t' with
  | .int b=>some (.f (.int ((if a=true then 1 else 0)+b)))
  | _=>none)
 | _=>none
noncomputable def mulT(t t':T):Option Sl:=match t with
 | .int a=>(match t' with
  | .int b=>if (-(2 ^ 64)<a/\a<2 ^ 64)\/(-(2 ^ 64)<b/\b<2 ^ 64) then some (.f (.int (a * b))) else none
  | _=>none)
 | .str a=>(match t' with
  | .int n=>if 0<=n/\n<=1000/\a.length<=1000 then some (.f (.str (repS a n.toNat))) else none
  | _=>none)
 | .lst a=>(match t' with
  | .int n=>if -(2 ^ 63)<=n/\n<2 ^ 63/\a.length * n.toNat<=sizeLine then some (.o (.lst (List.replicate n.toNat a).flatten)) else none
  | _=>none)
 | _=>none
noncomputable def opT(o:Op)(t t':T):Option Sl:=match o with
 | .add=>addT t t'
 | .sub=>fe (fun a b=>some (.f (.int (a - b)))) t t'
 | .mul=>mulT t t'
 | .fdiv=>fe (fun a b=>if 0<b/\b<1073741824 then some (.f (.int (a / b))) else none) t t'
 | .mod=>fe (fun a b=>if 0<b then some (.f (.int (a % b))) else none) t t'
 | .pow=>fe (fun a b=>if 0<=b/\b<=1000000/\a.natAbs<2 ^ 64 then some (.f (.int (a ^ b.toNat))) else none) t t'
noncomputable def A4:T->T->Option T
 | .tup ts,.int i=>Ts ts i
 | .lst ts,.int i=>Ts ts i
 | .str z,.int i=>if z.length<=sizeLine then (Ts z.cps.toList i).map fun c=>.str ⟨#[c]⟩ else none
 | .dct XG,k=>(keyT k).bind (Y2 XG)
 | _,_=>none
noncomputable def slT:T->ZR->ZR->Option Sl
 | .tup ts,lo,hi=>some (.f (.tup (G4 ts lo hi)))
 | .lst ts,lo,hi=>some (.o (.lst (G4 ts lo hi)))
 | .str z,lo,hi=>if z.length<=sizeLine then some (.f (.str (Txt.slice z lo hi))) else none
 | _,_,_=>none
noncomputable def ij:T->ZH
 | .tup ts=>some ts.length
 | .lst ts=>some ts.length
 | .dct ts=>some ts.length
 | .str z=>if z.length<=sizeLine then some z.length else none
 | _=>none
noncomputable def isiT:Kd->T->Option Bool
 | .int,.int _=>some true
 | .int,.bl _=>some true
 | .bool,.bl _=>some true
 | .str,.str _=>some true
 | .tuple,.tup _=>some true
 | .list,.lst _=>some true
 | .dict,.dct _=>some true
 | _,.fn _=>none
 | _,_=>some false
def i5:T->ZR
 | .int i=>some i
 | _=>none
def ctn:T->Bool
 | .lst _=>true
 | .dct _=>true
 | _=>false
noncomputable def Pu(ts:ZZ):Option (ZZ) :=
 if ts.length<64 then match Ob ts with
  | some zs=>some ((SRT.Ep zs).map .int)
  | none=>(Uw ts).map fun ss=>(SRT.Mz ss).map .str
 else none
noncomputable def scal:T->Bool
 | .tup _=>false
 | .lst _=>false
 | .dct _=>false
 | _=>true
def pOp(o:Op):ZZ->Option Sl
 | [a,b]=>opT o a b
 | _=>none
noncomputable def pCm(c:Cm):ZZ->Option Sl
 | [a,b]=>(Ww c a b).map fun r=>.f (.bl r)
 | _=>none
noncomputable def pC2(c:Cm)(d:Cm):ZZ->Option Sl
 | [a,b,e]=>(Ww c a b).bind fun r=>if r=true then (Ww d b e).map fun r=>.f (.bl r) else some (.f (.bl false))
 | _=>none
noncomputable def pNeg:ZZ->Option Sl
 | [.int i]=>some (.f (.int (-i)))
 | _=>none
noncomputable def pIx:ZZ->Option Sl
 | [a,b]=>(A4 a b).map .f
 | _=>none
noncomputable def pSl10:ZZ->Option Sl
 | [a,l]=>(i5 l).bind fun i=>slT a (some i) none
 | _=>none
def pSl01:ZZ->Option Sl
 | [a,h]=>(i5 h).bind fun j=>slT a none (some j)
 | _=>none
noncomputable def pSl11:ZZ->Option Sl
 | [a,l,h]=>(i5 l).bind fun i=>(i5 h).bind fun j=>slT a (some i) (some j)
 | _=>none
noncomputable def pLen:ZZ->Option Sl
 | [a]=>(ij a).map fun n=>.f (.int n)
 | _=>none
noncomputable def pAll:ZZ->Option Sl
 | [.lst ts]=>(allB ts).map fun bs=>.f (.bl (bs.all id))
 | _=>none
noncomputable def Zxe:ZZ->Option Sl
 | [.lst ts]=>some (.o (.lst ts))
 | [.dct XG]=>some (.o (.lst (XG.map fun p=>Lr p.1)))
 | _=>none
noncomputable def Au:ZZ->Option Sl
 | [.dct XG]=>(Pu (XG.map fun p=>Lr p.1)).map fun us=>.o (.lst us)
 | _=>none
noncomputable def k8:ZZ->Option Sl
 | [.lst ts]=>some (.f (.tup ts))
 | _=>none
noncomputable def pMin:ZZ->Option Sl
 | [.int a,.int b]=>some (.f (.int (if b<a then b else a)))
 | _=>none
noncomputable def pInt:ZZ->Option Sl
 | [.bl b]=>some (.f (.int (if b then 1 else 0)))
 | [.str z]=>if z.length<=640 then (PySem.intText? z).map fun n=>.f (.int n) else none
 | _=>none
noncomputable def pIsi(n:Kd):ZZ->Option Sl
 | [a]=>(isiT n a).map fun r=>.f (.bl r)
 | _=>none
def Zx1:ZZ->Option Sl
 | [.dct XG]=>some (.o (.dct XG))
 | _=>none
def Zxi:ZZ->Option Sl
 | [a]=>(rpT a).map fun z=>.f (.str z)
 | _=>none
noncomputable def pStr:ZZ->Option Sl
 | [.int i]=>if i.natAbs.log2<1920 then some (.f (.str (toString i))) else none
 | [.str x]=>some (.f (.str x))
 | _=>none
noncomputable def pDnew:ZZ->Option Sl
 | []=>some (.o (.dct []))
 | _=>none
noncomputable def pGet2:ZZ->Option Sl
 | [.dct XG,k,x]=>if ctn x=true then none else (keyT k).map fun k=>.f ((Y2 XG k).getD x)
 | _=>none
noncomputable def Zx0(x:Str):ZZ->Option Sl
 | [.lst ts]=>(Uw ts).bind fun ss=>if (ss.map (·.length)).sum+ss.length * x.length<=16777216 then some (.f (.str (Txt.join x ss))) else none
 | _=>none
def pTup1:ZZ->Option Sl
 | [t]=>if scal t=true then some (.f (.tup [t])) else none
 | _=>none
noncomputable def Zzv:T->Option Str
 | .str x=>if x.length<=sizeLine then some x else none
 | .int i=>if i.natAbs.log2<1920 then some (toString i) else none
 | _=>none
noncomputable def Gd:Str->List (Option Str)->ZZ->Option Str
 | out,[],[]=>some out
 | out,some z::r,ts=>if (out++z).length<=sizeLine then Gd (out++z) r ts else none
 | out,none::r,t::ts=>(Zzv t).bind fun z=>if (out++z).length<=sizeLine then Gd (out++z) r ts else none
 | _,_,_=>none
noncomputable def pFst(row:List (Option Str))(ts:ZZ):Option Sl:=(Gd Str.empty row ts).map fun z=>.f (.str z)
noncomputable def Zxo(z:Str):ZZ->Option Sl
 | [.str y]=>if y.length+2<=sizeLine then some (.o (.lst ((Txt.split y z).map .str))) else none
 | _=>none
noncomputable def Zxa(z:Str):ZZ->Option Sl
 | [.str y,.int k]=>if 0<=k/\k<2 ^ 62/\y.length+2<=sizeLine then some (.o (.lst ((Txt.splitMax y z k).map .str))) else none
 | _=>none
noncomputable def pSts:ZZ->Option Sl
 | [.str y,.str z]=>some (.f (.bl (Txt.startswith y z)))
 | _=>none
noncomputable def Ro:ZX->Option (ZD)
 | []=>some []
 | (.inr x,_)::r=>(Ro r).map (x::·)
 | _::_=>none
noncomputable def k9:ZZ->Option Sl
 | [.dct XG]=>(Ro XG).bind fun ss=>if ss.Nodup/\ss.length<64 then some (.o (.lst ((SRT.Mz ss).map fun x=>.tup [.str x,(Y2 XG (.inr x)).getD .non]))) else none
 | _=>none
noncomputable def yo:Pr->ZZ->Option Sl
 | .op o=>pOp o
 | .cm c=>pCm c
 | .c2 c d=>pC2 c d
 | .neg=>pNeg
 | .ix=>pIx
 | .sl true false=>pSl10
 | .sl false true=>pSl01
 | .sl true true=>pSl11
 | .len=>pLen
 | .all=>pAll
 | .list=>Zxe
 | .sorted=>Au
 | .tuple=>k8
 | .min=>pMin
 | .int=>pInt
 | .isi n=>pIsi n
 | .dict=>Zx1
 | .repr=>Zxi
 | .str=>pStr
 | .dnew=>pDnew
 | .get2=>pGet2
 | .join x=>Zx0 x
 | .tup1=>pTup1
 | .fst row=>pFst row
 | .spl1 z=>Zxo z
 | .spl2 z=>Zxa z
 | .sts=>pSts
 | .sits=>k9
 | _=>fun _=>none
noncomputable def look(p:P)(a:A):Option T :=
 match a with
 | .t t=>some t
 | .s i=>match p[i]? with
  | some (.f t)=>some t
  | some (.o t)=>some t
  | _=>none
noncomputable def looks(p:P):List A->Option (ZZ)
 | []=>some []
 | a::r=>(look p a).bind fun t=>(looks p r).map (t::·)
noncomputable def frs:Sl->Sl
 | .o t=>.f t
 | s=>s
noncomputable def frz(p:P):P:=p.map frs
noncomputable def args(p:P):List A->Option (List Sl)
 | []=>some []
 | .t t::r=>(args p r).map (.f t::·)
 | .s i::r=>match p[i]? with
  | some (.o t)=>(args (p.set i .no) r).map (.o t::·)
  | _=>none
def mkO:T->Sl
 | .fn _=>.no
 | t=>.o t
theorem mkO_f{t u:T}:mkO t≠.f u:=by cases t<;>exact fun z=>nomatch z
noncomputable def outs(p:P):List A->ZZ->Option P
 | [],[]=>some p
 | .t _::r,ts=>outs p r ts
 | .s i::r,t::ts=>outs (p.set i (mkO t)) r ts
 | _,_=>none
noncomputable def Rm:List Sl->ZZ->List Sl
 | .o _::r,t::ts=>mkO t::Rm r ts
 | s::r,ts=>s::Rm r ts
 | [],_=>[]
noncomputable def qy(fr:ZG)(p:P):P:=fr.map fun o=>match o with
 | some j=>(p[j]?).getD .no
 | none=>.no
noncomputable def back:ZG->P->P->P
 | some j::fr,s::q,p=>back fr q (p.set j s)
 | none::fr,_::q,p=>back fr q p
 | _,_,p=>p
mutual
noncomputable def asg:E->T->P->Option P
 | .v i,t,p=>some (p.set i (.f t))
 | .tup es,.tup ts,p=>K6 es ts p
 | _,_,_=>none
noncomputable def K6:E->ZZ->P->Option P
 | .nil,[],p=>some p
 | .cons a r,t::ts,p=>(asg a t p).bind fun q=>K6 r ts q
 | _,_,_=>none
end
def thaw:Sl->Option T
 | .f t=>some t
 | .o t=>some t
 | .no=>none
noncomputable def Mc:T->Option (ZZ)
 | .tup ts=>some ts
 | .lst ts=>some ts
 | .dct XG=>some (XG.map fun p=>Lr p.1)
 | .str z=>if z.length<=sizeLine then some (z.cps.toList.map fun c=>.str ⟨#[c]⟩) else none
 | _=>none
noncomputable def D6(body:T->P->Option (Option T×P)):ZZ->ZZ->P->Option (ZZ×P)
 | [],acc,p=>some (acc,p)
 | x::r,acc,p=>(body x p).bind fun q=>match q.1 with
  | some y=>D6 body r (acc++[y]) q.2
  | none=>D6 body r acc q.2
noncomputable def nq:Mt->T->ZZ->Option (T×T)
 | .append,.lst ts,[x]=>if ts.length<sizeLine then some (.lst (ts++[x]),.non) else none
 | .extend,.lst ts,[.lst us]=>if ts.length+us.length<=sizeLine then some (.lst (ts++us),.non) else none
 | _,_,_=>none
abbrev Cs:=Str->List Sl->Option (Sl×ZZ)
structure W where
 C:Cs
 gl:Str->Option T
noncomputable def read(p:P)(i:Nat):Option (T×P):=match p[i]? with
 | some (.f t)=>some (t,p)
 | some (.o t)=>some (t,p.set i (.f t))
 | _=>none
noncomputable def done(p:P)(i:Nat):Bool:=match p[i]? with
 | some (.f _)=>true
 | some (.o _)=>true
 | _=>false
noncomputable def zf(p:P)(i:Nat):Bool:=match p[i]? with
 | some (.o (.lst _))=>true
 | _=>false
noncomputable def rngT:T->Option (ZZ)
 | .int n=>if -1000000<=n/\n<=1000000 then some ((List.range n.toNat).map fun k=>.int (k:Nat)) else none
 | _=>none
noncomputable def Pq(a b:ZZ):ZZ:=(a.zip b).map fun p=>.tup [p.1,p.2]
noncomputable def C1:Nat->ZZ->ZZ
 | _,[]=>[]
 | k,t::r=>.tup [.int (k:Nat),t]::C1 (k+1) r
noncomputable def itT:Ik->ZZ->Option (ZZ)
 | .rng,[t]=>rngT t
 | .zip,[.lst a,.lst b]=>some (Pq a b)
 | .zip,[.tup a,.tup b]=>some (Pq a b)
 | .enm,[.lst a]=>some (C1 0 a)
 | .enm,[.tup a]=>some (C1 0 a)
 | .rvl,[.lst a]=>some a.reverse
 | _,_=>none
section
variable(w:W)
def isNil:E->Bool
 | .nil=>true
 | _=>false
noncomputable def Gn(o:Option (Sl×P)):Option (Bool×P):=o.bind fun q=>match q.1 with
 | .f (.bl b)=>some (b,q.2)
 | _=>none
noncomputable def toT(o:Option (Sl×P)):Option (T×P):=o.bind fun q=>(thaw q.1).map fun t=>(t,q.2)
noncomputable def toF(o:Option (Sl×P)):Option (T×P):=o.bind fun q=>match q.1 with
 | .f t=>some (t,q.2)
 | _=>none
noncomputable def c7(o:Option (Sl×P)):Option (ZZ×P):=(toT o).bind fun q=>(Mc q.1).map fun ts=>(ts,q.2)
noncomputable def Ol(m:Bool)(a:E)(p:P)(x:Option (T×P)):Option (A×P):=match a with
 | .io i=>if done p i=true then some (.s i,p) else none
 | .v i=>if m=true then (if done p i=true then some (.s i,p) else none) else (read p i).map fun q=>(.t q.1,q.2)
 | _=>x.map fun q=>(.t q.1,q.2)
mutual
noncomputable def ev:E->P->Option (Sl×P)
 | .v i,p=>(read p i).map fun q=>(.f q.1,q.2)
 | .mv i,p=>match p[i]? with
  | some (.o t)=>some (.o t,p.set i .no)
  | some (.f t)=>some (.f t,p)
  | _=>none
 | .k t,p=>some (.f t,p)
 | .g x,p=>(w.gl x).map fun t=>(.f t,p)
 | .tup es,p=>(Jl false es p).bind fun q=>(looks q.2 q.1).bind fun ts=>if ts.length<=sizeLine then some (.f (.tup ts),q.2) else none
 | .lst es,p=>(Jl false es p).bind fun q=>(looks q.2 q.1).bind fun ts=>if ts.length<=sizeLine then some (.o (.lst ts),q.2) else none
 | .pr r es,p=>(Jl true es p).bind fun q=>(looks q.2 q.1).bind fun ts=>(yo r ts).map fun s=>(s,q.2)
 | .and a b,p=>(Gn (ev a p)).bind fun q=>if q.1=true then ev b q.2 else some (.f (.bl false),q.2)
 | .or a b,p=>(Gn (ev a p)).bind fun q=>if q.1=true then some (.f (.bl true),q.2) else ev b q.2
 | .not a,p=>(Gn (ev a p)).map fun q=>(.f (.bl (!q.1)),q.2)
 | .ite c a b,p=>(Gn (ev c p)).bind fun q=>if q.1=true then ev a q.2 else ev b q.2
 | .call f es,p=>(Jl false es p).bind fun q=>(args q.2 q.1).bind fun as=>(w.C f as).bind fun r=>(outs q.2 q.1 r.2).map fun p'=>(r.1,p')
 | .cal i es,p=>match p[i]? with
  | some (.f (.fn f))=>(Jl false es p).bind fun q=>(args q.2 q.1).bind fun as=>(w.C f as).bind fun r=>(outs q.2 q.1 r.2).map fun p'=>(r.1,p')
  | _=>none
 | .mt m i es,p=>if zf p i=true then (Jl false es p).bind fun q=>(looks q.2 q.1).bind fun ts=>match q.2[i]? with
   | some (.o t)=>(nq m t ts).map fun r=>(.f r.2,q.2.set i (.o r.1))
   | _=>none
  else none
 | .comp tg it c el fr _,p=>(c7 (ev it p)).bind fun q=>(D6 (fun x s=>(asg tg x s).bind fun s1=>(if isNil c=true then some (true,s1) else Gn (ev c s1)).bind fun b=>if b.1=true then (toT (ev el b.2)).map fun r=>(some r.1,r.2) else some (none,b.2)) q.1 [] (qy fr q.2)).map fun r=>(.o (.lst r.1),back fr r.2 q.2)
 | .itr k es,p=>(Jl false es p).bind fun q=>(looks q.2 q.1).bind fun ts=>(itT k ts).map fun xs=>(.f (.lst xs),q.2)
 | .tmp a,p=>(toF (ev a (frz p))).bind fun q=>if scal q.1=true then some (.f q.1,p) else none
 | _,_=>none
noncomputable def Jl:Bool->E->P->Option (List A×P)
 | _,.nil,p=>some ([],p)
 | m,.cons a r,p=>(Ol m a p (toT (ev a p))).bind fun q=>(Jl m r q.2).map fun s=>(q.1::s.1,s.2)
 | _,_,_=>none
end
end
theorem ev_vQ{w:W}{p:P}:∀i,ev w (.v i) p=((read p i).map fun q=>(.f q.1,q.2)):=fun _=>rfl
theorem ev_mvQ{w:W}{p:P}:∀i,ev w (.mv i) p=(match p[i]? with
  | some (.o t)=>some (.o t,p.set i .no)
  | some (.f t)=>some (.f t,p)
  | _=>none):=fun _=>rfl
theorem ev_gQ{w:W}{p:P}:∀x,ev w (.g x) p=((w.gl x).map fun t=>(.f t,p)):=fun _=>rfl
theorem Zzc{w:W}{p:P}:∀es,ev w (.tup es) p=((Jl w false es p).bind fun q=>(looks q.2 q.1).bind fun ts=>if ts.length<=sizeLine then some (.f (.tup ts),q.2) else none):=fun _=>rfl
theorem Zzl{w:W}{p:P}:∀es,ev w (.lst es) p=((Jl w false es p).bind fun q=>(looks q.2 q.1).bind fun ts=>if ts.length<=sizeLine then some (.o (.lst ts),q.2) else none):=fun _=>rfl
theorem ev_prQ{w:W}{p:P}:∀r es,ev w (.pr r es) p=((Jl w true es p).bind fun q=>(looks q.2 q.1).bind fun ts=>(yo r ts).map fun s=>(s,q.2)):=fun _ _=>rfl
theorem Ir{w:W}{p:P}:∀a b,ev w (.and a b) p=((Gn (ev w a p)).bind fun q=>if q.1=true then ev w b q.2 else some (.f (.bl false),q.2)):=fun _ _=>rfl
theorem me{w:W}{p:P}:∀a b,ev w (.or a b) p=((Gn (ev w a p)).bind fun q=>if q.1=true then some (.f (.bl true),q.2) else ev w b q.2):=fun _ _=>rfl
theorem Il{w:W}{p:P}:∀a,ev w (.not a) p=((Gn (ev w a p)).map fun q=>(.f (.bl (!q.1)),q.2)):=fun _=>rfl
theorem Zzs{w:W}{p:P}:∀c a b,ev w (.ite c a b) p=((Gn (ev w c p)).bind fun q=>if q.1=true then ev w a q.2 else ev w b q.2):=fun _ _ _=>rfl
theorem m4{w:W}{p:P}:∀f es,ev w (.call f es) p=((Jl w false es p).bind fun q=>(args q.2 q.1).bind fun as=>(w.C f as).bind fun r=>(outs q.2 q.1 r.2).map fun p'=>(r.1,p')):=fun _ _=>rfl
theorem Zzh{w:W}{p:P}:∀i es,ev w (.cal i es) p=(match p[i]? with
  | some (.f (.fn f))=>(Jl w false es p).bind fun q=>(args q.2 q.1).bind fun as=>(w.C f as).bind fun r=>(outs q.2 q.1 r.2).map fun p'=>(r.1,p')
  | _=>none):=fun _ _=>rfl
theorem ev_mtQ{w:W}{p:P}:∀m i es,ev w (.mt m i es) p=(if zf p i=true then (Jl w false es p).bind fun q=>(looks q.2 q.1).bind fun ts=>match q.2[i]? with
   | some (.o t)=>(nq m t ts).map fun r=>(.f r.2,q.2.set i (.o r.1))
   | _=>none
  else none):=fun _ _ _=>rfl
theorem m3{w:W}{p:P}:∀tg it c el fr zz,ev w (.comp tg it c el fr zz) p=((c7 (ev w it p)).bind fun q=>(D6 (fun x s=>(asg tg x s).bind fun s1=>(if isNil c=true then some (true,s1) else Gn (ev w c s1)).bind fun b=>if b.1=true then (toT (ev w el b.2)).map fun r=>(some r.1,r.2) else some (none,b.2)) q.1 [] (qy fr q.2)).map fun r=>(.o (.lst r.1),back fr r.2 q.2)):=fun _ _ _ _ _ _=>rfl
theorem Zzr{w:W}{p:P}:∀k es,ev w (.itr k es) p=((Jl w false es p).bind fun q=>(looks q.2 q.1).bind fun ts=>(itT k ts).map fun xs=>(.f (.lst xs),q.2)):=fun _ _=>rfl
theorem Zzn{w:W}{p:P}:∀a,ev w (.tmp a) p=((toF (ev w a (frz p))).bind fun q=>if scal q.1=true then some (.f q.1,p) else none):=fun _=>rfl
noncomputable def Bd(body:T->P->Option (Fl×P)):ZZ->P->Option (Fl×P)
 | [],p=>some (.nx,p)
 | x::r,p=>(body x p).bind fun q=>match q.1 with
  | .nx=>Bd body r q.2
  | .ct=>Bd body r q.2
  | .bk=>some (.nx,q.2)
  | .rt t=>some (.rt t,q.2)
noncomputable def Bm(test:P->Option (Bool×P))(body:P->Option (Fl×P)):Nat->P->Option (Fl×P)
 | 0,_=>none
 | n+1,p=>(test p).bind fun b=>if b.1=true then (body b.2).bind fun q=>match q.1 with
   | .nx=>Bm test body n q.2
   | .ct=>Bm test body n q.2
   | .bk=>some (.nx,q.2)
   | .rt t=>some (.rt t,q.2)
  else some (.nx,b.2)
noncomputable def Uj(pt:Nat->Bool):E->Bool
 | .v i=>!pt i
 | .tup es=>Uj pt es
 | .nil=>true
 | .cons a r=>Uj pt a && Uj pt r
 | _=>false
noncomputable def putAt:T->T->T->Option T
 | .lst ts,.int i,t=>(fj ts.length i).map fun j=>.lst (ts.set j t)
 | .dct XG,k,t=>(keyT k).bind fun k=>if XG.length<sizeLine then some (.dct (P4 XG k t)) else none
 | _,_,_=>none
noncomputable def Ov(p:P)(j:Nat):Option (ZZ):=match p[j]? with
 | some (.f (.lst ts))=>some ts
 | some (.o (.lst ts))=>some ts
 | _=>none
noncomputable def Kc:Sl×ZZ->Bool
 | (.f (.tup [.str _,.dct _]),[])=>true
 | _=>false
section
variable(w:W)(pt:Nat->Bool)
noncomputable def ex:S->P->Option (Fl×P)
 | .nil,p=>some (.nx,p)
 | .seq a r,p=>(ex a p).bind fun q=>match q.1 with
  | .nx=>ex r q.2
  | .rt t=>some (.rt t,q.2)
  | .bk=>some (.bk,q.2)
  | .ct=>some (.ct,q.2)
 | .ret a,p=>(ev w a p).map fun q=>(.rt q.1,q.2)
 | .ex a,p=>(ev w a p).map fun q=>(.nx,q.2)
 | .set i a,p=>if pt i=true then none else (ev w a p).map fun q=>(.nx,q.2.set i q.1)
 | .unp tg a,p=>if Uj pt tg=true then (toT (ev w a p)).bind fun q=>(asg tg q.1 q.2).map fun p'=>(.nx,p') else none
 | .put i k a,p=>(toT (ev w a p)).bind fun q=>if done q.2 i=true then (toT (ev w k q.2)).bind fun r=>match r.2[i]? with
   | some (.o t)=>(putAt t r.1 q.1).map fun t'=>(.nx,r.2.set i (.o t'))
   | _=>none
  else none
 | .ite c a b,p=>(Gn (ev w c p)).bind fun q=>if q.1=true then ex a q.2 else ex b q.2
 | .loop tg it b,p=>if Uj pt tg=true then (c7 (ev w it p)).bind fun q=>Bd (fun x s=>(asg tg x s).bind fun s1=>ex b s1) q.1 q.2 else none
 | .wh c b,p=>Bm (fun s=>Gn (ev w c s)) (fun s=>ex b s) 1000000 p
 | .pass,p=>some (.nx,p)
 | .brk,p=>some (.bk,p)
 | .cont,p=>some (.ct,p)
 | .rais,_=>none
 | .clr i f j r,p=>if pt i=true then none else (Ov p j).bind fun ts=>(Uw ts).bind fun _=>(w.C f [.f (.lst ts)]).bind fun x=>if Kc x=true then ex r (p.set i .no) else none
end
theorem Zzb{w:W}{pt:Nat->Bool}{p:P}:∀a r,ex w pt (.seq a r) p=((ex w pt a p).bind fun q=>match q.1 with
  | .nx=>ex w pt r q.2
  | .rt t=>some (.rt t,q.2)
  | .bk=>some (.bk,q.2)
  | .ct=>some (.ct,q.2)):=fun _ _=>rfl
theorem Zzm{w:W}{pt:Nat->Bool}{p:P}:∀a,ex w pt (.ret a) p=((ev w a p).map fun q=>(.rt q.1,q.2)):=fun _=>rfl
theorem ex_exQ{w:W}{pt:Nat->Bool}{p:P}:∀a,ex w pt (.ex a) p=((ev w a p).map fun q=>(.nx,q.2)):=fun _=>rfl
theorem Zzf{w:W}{pt:Nat->Bool}{p:P}:∀i a,ex w pt (.set i a) p=(if pt i=true then none else (ev w a p).map fun q=>(.nx,q.2.set i q.1)):=fun _ _=>rfl
theorem Zzg{w:W}{pt:Nat->Bool}{p:P}:∀tg a,ex w pt (.unp tg a) p=(if Uj pt tg=true then (toT (ev w a p)).bind fun q=>(asg tg q.1 q.2).map fun p'=>(.nx,p') else none):=fun _ _=>rfl
theorem Zzd{w:W}{pt:Nat->Bool}{p:P}:∀i k a,ex w pt (.put i k a) p=((toT (ev w a p)).bind fun q=>if done q.2 i=true then (toT (ev w k q.2)).bind fun r=>match r.2[i]? with
   | some (.o t)=>(putAt t r.1 q.1).map fun t'=>(.nx,r.2.set i (.o t'))
   | _=>none
  else none):=fun _ _ _=>rfl
theorem Zzt{w:W}{pt:Nat->Bool}{p:P}:∀c a b,ex w pt (.ite c a b) p=((Gn (ev w c p)).bind fun q=>if q.1=true then ex w pt a q.2 else ex w pt b q.2):=fun _ _ _=>rfl
theorem mh{w:W}{pt:Nat->Bool}{p:P}:∀tg it b,ex w pt (.loop tg it b) p=(if Uj pt tg=true then (c7 (ev w it p)).bind fun q=>Bd (fun x s=>(asg tg x s).bind fun s1=>ex w pt b s1) q.1 q.2 else none):=fun _ _ _=>rfl
theorem ex_whQ{w:W}{pt:Nat->Bool}{p:P}:∀c b,ex w pt (.wh c b) p=(Bm (fun s=>Gn (ev w c s)) (fun s=>ex w pt b s) 1000000 p):=fun _ _=>rfl
def on{Z:Type}(o:Option Z)(Q:Z->Prop):Prop:=match o with
 | some a=>Q a
 | none=>False
theorem Ya{Z:Type}{o:Option Z}{a:Z}{Q:Z->Prop}(e:o=some a)(h:Q a):on o Q:=by rw[e];exact h
theorem Yq{Z:Type}{o:Option Z}{Q:Z->Prop}(h:on o Q):∃a,o=some a/\Q a:=by
 cases o with
 | none=>exact h.elim
 | some a=>exact⟨a,rfl,h⟩
noncomputable def gb(r:Sl)(Q:Bool->Prop):Prop:=match r with
 | .f (.bl b)=>Q b
 | _=>False
def Kw(r:Sl)(Q:T->Prop):Prop:=match r with
 | .f t=>Q t
 | .o t=>Q t
 | .no=>False
def onF(r:Sl)(Q:T->Prop):Prop:=match r with
 | .f t=>Q t
 | _=>False
theorem onF_ex{r:Sl}{p:P}{Q:T->Prop}{o:Option (Sl×P)}(e:o=some (r,p))(h:onF r Q):∃t,toF o=some (t,p)/\Q t:=by
 subst e;cases r with
 | f t=>exact⟨t,rfl,h⟩
 | _=>exact h.elim
theorem Mw{r:Sl}{p:P}{Q:Bool->Prop}{o:Option (Sl×P)}(e:o=some (r,p))(h:gb r Q):∃b,Gn o=some (b,p)/\Q b:=by
 subst e;unfold gb at h
 split at h
 .exact⟨_,rfl,h⟩
 .exact h.elim
theorem Mj{r:Sl}{p:P}{Q:T->Prop}{o:Option (Sl×P)}(e:o=some (r,p))(h:Kw r Q):∃t,toT o=some (t,p)/\Q t:=by
 subst e;cases r with
 | no=>exact h.elim
 | f t=>exact⟨t,rfl,h⟩
 | o t=>exact⟨t,rfl,h⟩
theorem gf{r:Sl}{p:P}{Q:ZZ->Prop}{o:Option (Sl×P)}(e:o=some (r,p))(h:Kw r fun t=>on (Mc t) Q):∃ts,c7 o=some (ts,p)/\Q ts:=by
 obtain⟨t,e1,h1⟩:=Mj e h;obtain⟨ts,e2,h2⟩:=Yq h1;exact⟨ts,by unfold c7;rw[e1];show (Mc t).map _=_;rw[e2];rfl,h2⟩
def Uc(body:T->P->(Option T->P->Prop)->Prop):ZZ->ZZ->P->(ZZ->P->Prop)->Prop
 | [],acc,p,Q=>Q acc p
 | x::r,acc,p,Q=>body x p fun o p'=>match o with
  | some y=>Uc body r (acc++[y]) p' Q
  | none=>Uc body r acc p' Q
section
variable(w:W)
mutual
noncomputable def wE:E->P->(Sl->P->Prop)->Prop
 | .v i,p,Q=>on (read p i) fun q=>Q (.f q.1) q.2
 | .mv i,p,Q=>match p[i]? with
  | some (.o t)=>Q (.o t) (p.set i .no)
  | some (.f t)=>Q (.f t) p
  | _=>False
 | .k t,p,Q=>Q (.f t) p
 | .g x,p,Q=>on (w.gl x) fun t=>Q (.f t) p
 | .tup es,p,Q=>wR false es p fun as p1=>on (looks p1 as) fun ts=>if ts.length<=sizeLine then Q (.f (.tup ts)) p1 else False
 | .lst es,p,Q=>wR false es p fun as p1=>on (looks p1 as) fun ts=>if ts.length<=sizeLine then Q (.o (.lst ts)) p1 else False
 | .pr r es,p,Q=>wR true es p fun as p1=>on (looks p1 as) fun ts=>on (yo r ts) fun s=>Q s p1
 | .and a b,p,Q=>wE a p fun r p1=>gb r fun c=>if c=true then wE b p1 Q else Q (.f (.bl false)) p1
 | .or a b,p,Q=>wE a p fun r p1=>gb r fun c=>if c=true then Q (.f (.bl true)) p1 else wE b p1 Q
 | .not a,p,Q=>wE a p fun r p1=>gb r fun c=>Q (.f (.bl (!c))) p1
 | .ite c a b,p,Q=>wE c p fun r p1=>gb r fun c=>if c=true then wE a p1 Q else wE b p1 Q
 | .call f es,p,Q=>wR false es p fun as p1=>on (args p1 as) fun sl=>on (w.C f sl) fun r=>on (outs p1 as r.2) fun p2=>Q r.1 p2
 | .cal i es,p,Q=>match p[i]? with
  | some (.f (.fn f))=>wR false es p fun as p1=>on (args p1 as) fun sl=>on (w.C f sl) fun r=>on (outs p1 as r.2) fun p2=>Q r.1 p2
  | _=>False
 | .mt m i es,p,Q=>if zf p i=true then wR false es p fun as p1=>on (looks p1 as) fun ts=>match p1[i]? with
   | some (.o t)=>on (nq m t ts) fun r=>Q (.f r.2) (p1.set i (.o r.1))
   | _=>False
  else False
 | .comp tg it c el fr _,p,Q=>wE it p fun r p1=>Kw r fun t=>on (Mc t) fun xs=>Uc (fun x s K=>on (asg tg x s) fun s1=>if isNil c=true then wE el s1 fun r s2=>Kw r fun y=>K (some y) s2
   else wE c s1 fun r s2=>gb r fun b=>if b=true then wE el s2 fun r s3=>Kw r fun y=>K (some y) s3 else K none s2) xs [] (qy fr p1) fun ys s=>Q (.o (.lst ys)) (back fr s p1)
 | .itr k es,p,Q=>wR false es p fun as p1=>on (looks p1 as) fun ts=>on (itT k ts) fun xs=>Q (.f (.lst xs)) p1
 | .tmp a,p,Q=>wE a (frz p) fun r _=>onF r fun t=>if scal t=true then Q (.f t) p else False
 | _,_,_=>False
noncomputable def wR:Bool->E->P->(List A->P->Prop)->Prop
 | _,.nil,p,Q=>Q [] p
 | m,.cons a r,p,Q=>match a with
  | .io i=>if done p i=true then wR m r p fun as p1=>Q (.s i::as) p1 else False
  | .v i=>if m=true then (if done p i=true then wR m r p fun as p1=>Q (.s i::as) p1 else False) else on (read p i) fun q=>wR m r q.2 fun as p1=>Q (.t q.1::as) p1
  | _=>wE a p fun s p1=>Kw s fun t=>wR m r p1 fun as p2=>Q (.t t::as) p2
 | _,_,_,_=>False
end
theorem wE_mvQ{w:W}{p:P}{Q:Sl->P->Prop}:∀i,wE w (.mv i) p Q=(match p[i]? with
  | some (.o t)=>Q (.o t) (p.set i .no)
  | some (.f t)=>Q (.f t) p
  | _=>False):=fun _=>rfl
theorem n8{w:W}{p:P}{Q:Sl->P->Prop}:∀i es,wE w (.cal i es) p Q=(match p[i]? with
  | some (.f (.fn f))=>wR w false es p fun as p1=>on (args p1 as) fun sl=>on (w.C f sl) fun r=>on (outs p1 as r.2) fun p2=>Q r.1 p2
  | _=>False):=fun _ _=>rfl
theorem wE_mtQ{w:W}{p:P}{Q:Sl->P->Prop}:∀m i es,wE w (.mt m i es) p Q=(if zf p i=true then wR w false es p fun as p1=>on (looks p1 as) fun ts=>match p1[i]? with
   | some (.o t)=>on (nq m t ts) fun r=>Q (.f r.2) (p1.set i (.o r.1))
   | _=>False
  else False):=fun _ _ _=>rfl
theorem jy{w:W}{p:P}{Q:Sl->P->Prop}:∀tg it c el fr zz,wE w (.comp tg it c el fr zz) p Q=(wE w it p fun r p1=>Kw r fun t=>on (Mc t) fun xs=>Uc (fun x s K=>on (asg tg x s) fun s1=>if isNil c=true then wE w el s1 fun r s2=>Kw r fun y=>K (some y) s2
   else wE w c s1 fun r s2=>gb r fun b=>if b=true then wE w el s2 fun r s3=>Kw r fun y=>K (some y) s3 else K none s2) xs [] (qy fr p1) fun ys s=>Q (.o (.lst ys)) (back fr s p1)):=fun _ _ _ _ _ _=>rfl
theorem jq{w:W}{p:P}{Q:List A->P->Prop}:∀m a r,wR w m (.cons a r) p Q=(match a with
  | .io i=>if done p i=true then wR w m r p fun as p1=>Q (.s i::as) p1 else False
  | .v i=>if m=true then (if done p i=true then wR w m r p fun as p1=>Q (.s i::as) p1 else False) else on (read p i) fun q=>wR w m r q.2 fun as p1=>Q (.t q.1::as) p1
  | _=>wE w a p fun s p1=>Kw s fun t=>wR w m r p1 fun as p2=>Q (.t t::as) p2):=fun _ _ _=>rfl
structure En where
 nx:P->Prop
 rt:Sl->P->Prop
 bk:P->Prop:=fun _=>False
 ct:P->Prop:=fun _=>False
def Ef(body:T->P->En->Prop):ZZ->P->En->Prop
 | [],p,D=>D.nx p
 | x::r,p,D=>body x p ⟨fun q=>Ef body r q D,D.rt,D.nx,fun q=>Ef body r q D⟩
def wWh(test:P->(Bool->P->Prop)->Prop)(body:P->En->Prop):Nat->P->En->Prop
 | 0,_,_=>False
 | n+1,p,D=>test p fun b p1=>if b=true then body p1 ⟨fun q=>wWh test body n q D,D.rt,D.nx,fun q=>wWh test body n q D⟩ else D.nx p1
variable(pt:Nat->Bool)
def wS:S->P->En->Prop
 | .nil,p,D=>D.nx p
 | .seq a r,p,D=>wS a p ⟨fun q=>wS r q D,D.rt,D.bk,D.ct⟩
 | .ret a,p,D=>wE w a p D.rt
 | .ex a,p,D=>wE w a p fun _ q=>D.nx q
 | .set i a,p,D=>if pt i=true then False else wE w a p fun r q=>D.nx (q.set i r)
 | .unp tg a,p,D=>if Uj pt tg=true then wE w a p fun r q=>Kw r fun t=>on (asg tg t q) D.nx else False
 | .put i k a,p,D=>wE w a p fun r p1=>Kw r fun t=>if done p1 i=true then wE w k p1 fun r p2=>Kw r fun k=>match p2[i]? with
   | some (.o x)=>on (putAt x k t) fun x'=>D.nx (p2.set i (.o x'))
   | _=>False
  else False
 | .ite c a b,p,D=>wE w c p fun r q=>gb r fun b'=>if b'=true then wS a q D else wS b q D
 | .loop tg it b,p,D=>if Uj pt tg=true then wE w it p fun r q=>Kw r fun t=>on (Mc t) fun xs=>Ef (fun x s D=>on (asg tg x s) fun s1=>wS b s1 D) xs q D else False
 | .wh c b,p,D=>wWh (fun s K=>wE w c s fun r q=>gb r fun b=>K b q) (fun s D=>wS b s D) 1000000 p D
 | .pass,p,D=>D.nx p
 | .brk,p,D=>D.bk p
 | .cont,p,D=>D.ct p
 | .rais,_,_=>False
 | .clr i f j r,p,D=>if pt i=true then False else on (Ov p j) fun ts=>on (Uw ts) fun _=>on (w.C f [.f (.lst ts)]) fun x=>if Kc x=true then wS r (p.set i .no) D else False
end
theorem Ti{body:T->P->(Option T->P->Prop)->Prop}{b':T->P->Option (Option T×P)}(hb:∀x p K,body x p K->∃o p',b' x p=some (o,p')/\K o p'):∀(xs acc:ZZ) (p:P) (Q:ZZ->P->Prop),Uc body xs acc p Q->∃ys p',D6 b' xs acc p=some (ys,p')/\Q ys p'
 | [],acc,p,Q,h=>⟨acc,p,rfl,h⟩
 | x::r,acc,p,Q,h=>by
  obtain⟨o,p',e,h'⟩:=hb x p _ h;unfold D6;rw[e];cases o with
  | some y=>exact Ti hb r _ p' Q h'
  | none=>exact Ti hb r _ p' Q h'
section
variable(w:W)
theorem wER_ev(e:E):(∀(p:P) (Q:Sl->P->Prop),wE w e p Q->∃r p',ev w e p=some (r,p')/\Q r p')/\∀(m:Bool) (p:P) (Q:List A->P->Prop),wR w m e p Q->∃as p',Jl w m e p=some (as,p')/\Q as p':=by
 induction e with
 | v i  =>
  refine⟨fun p Q h=>?_,fun _ _ _ h=>False.elim h⟩;obtain⟨q,e,h⟩:=Yq h;exact⟨_,_,by show (read p i).map _=_;rw[e];rfl,h⟩
 | mv i  =>
  refine⟨fun p Q h=>?_,fun _ _ _ h=>False.elim h⟩
  replace h:=Eq.mp (wE_mvQ _) h
  split at h
  .rename_i t e
   exact⟨_,_,by show (match p[i]? with | some (.o t)=>some (Sl.o t,p.set i .no) | some (.f t)=>some (Sl.f t,p) | _=>none)=_;rw[e],h⟩
  .rename_i t e
   exact⟨_,_,by show (match p[i]? with | some (.o t)=>some (Sl.o t,p.set i .no) | some (.f t)=>some (Sl.f t,p) | _=>none)=_;rw[e],h⟩
  .exact h.elim
 | io i  =>
  refine⟨fun _ _ h=>False.elim h,fun _ _ _ h=>False.elim h⟩
 | k t  =>
  refine⟨fun p Q h=>⟨_,_,rfl,h⟩,fun _ _ _ h=>False.elim h⟩
 | g x  =>
  refine⟨fun p Q h=>?_,fun _ _ _ h=>False.elim h⟩;obtain⟨q,e,h⟩:=Yq h;exact⟨_,_,by show (w.gl x).map _=_;rw[e];rfl,h⟩
 | tup es xv =>
  refine⟨fun p Q h=>?_,fun _ _ _ h=>False.elim h⟩;obtain⟨as,p1,e1,h⟩:=xv.2 false p _ h;obtain⟨ts,e2,h⟩:=Yq h
  split at h
  .rename_i hl
   exact⟨_,_,by show (Jl w false es p).bind _=_;rw[e1];show (looks p1 as).bind _=_;rw[e2];exact if_pos hl,h⟩
  .exact h.elim
 | lst es xv =>
  refine⟨fun p Q h=>?_,fun _ _ _ h=>False.elim h⟩;obtain⟨as,p1,e1,h⟩:=xv.2 false p _ h;obtain⟨ts,e2,h⟩:=Yq h
  split at h
  .rename_i hl
   exact⟨_,_,by show (Jl w false es p).bind _=_;rw[e1];show (looks p1 as).bind _=_;rw[e2];exact if_pos hl,h⟩
  .exact h.elim
 | pr r es xv =>
  refine⟨fun p Q h=>?_,fun _ _ _ h=>False.elim h⟩;obtain⟨as,p1,e1,h⟩:=xv.2 true p _ h;obtain⟨ts,e2,h⟩:=Yq h;obtain⟨s,e3,h⟩:=Yq h;exact⟨_,_,by show (Jl w true es p).bind _=_;rw[e1];show (looks p1 as).bind _=_;rw[e2];show (yo r ts).map _=_;rw[e3];rfl,h⟩
 | and a b ha hb =>
  refine⟨fun p Q h=>?_,fun _ _ _ h=>False.elim h⟩;obtain⟨r,p1,e1,h⟩:=ha.1 p _ h;obtain⟨c,e2,h⟩:=Mw e1 h;cases c with
  | true =>
   obtain⟨r,p2,e3,h⟩:=hb.1 p1 Q h;exact⟨_,_,by show (Gn (ev w a p)).bind _=_;rw[e2];exact e3,h⟩
  | false=>exact⟨_,_,by show (Gn (ev w a p)).bind _=_;rw[e2];rfl,h⟩
 | or a b ha hb =>
  refine⟨fun p Q h=>?_,fun _ _ _ h=>False.elim h⟩;obtain⟨r,p1,e1,h⟩:=ha.1 p _ h;obtain⟨c,e2,h⟩:=Mw e1 h;cases c with
  | false =>
   obtain⟨r,p2,e3,h⟩:=hb.1 p1 Q h;exact⟨_,_,by show (Gn (ev w a p)).bind _=_;rw[e2];exact e3,h⟩
  | true=>exact⟨_,_,by show (Gn (ev w a p)).bind _=_;rw[e2];rfl,h⟩
 | not a ha =>
  refine⟨fun p Q h=>?_,fun _ _ _ h=>False.elim h⟩;obtain⟨r,p1,e1,h⟩:=ha.1 p _ h;obtain⟨c,e2,h⟩:=Mw e1 h;exact⟨_,_,by show (Gn (ev w a p)).map _=_;rw[e2];rfl,h⟩
 | ite c a b hc ha hb =>
  refine⟨fun p Q h=>?_,fun _ _ _ h=>False.elim h⟩;obtain⟨r,p1,e1,h⟩:=hc.1 p _ h;obtain⟨c',e2,h⟩:=Mw e1 h;cases c' with
  | true =>
   obtain⟨r,p2,e3,h⟩:=ha.1 p1 Q h;exact⟨_,_,by show (Gn (ev w c p)).bind _=_;rw[e2];exact e3,h⟩
  | false =>
   obtain⟨r,p2,e3,h⟩:=hb.1 p1 Q h;exact⟨_,_,by show (Gn (ev w c p)).bind _=_;rw[e2];exact e3,h⟩
 | call f es xv =>
  refine⟨fun p Q h=>?_,fun _ _ _ h=>False.elim h⟩;obtain⟨as,p1,e1,h⟩:=xv.2 false p _ h;obtain⟨sl,e2,h⟩:=Yq h;obtain⟨r,e3,h⟩:=Yq h;obtain⟨p2,e4,h⟩:=Yq h;exact⟨_,_,by show (Jl w false es p).bind _=_;rw[e1];show (args p1 as).bind _=_;rw[e2];show (w.C f sl).bind _=_;rw[e3];show (outs p1 as r.2).map _=_;rw[e4];rfl,h⟩
 | cal i es xv =>
  refine⟨fun p Q h=>?_,fun _ _ _ h=>False.elim h⟩
  replace h:=Eq.mp (n8 _ _) h
  split at h
  .rename_i f ef
   obtain⟨as,p1,e1,h⟩:=xv.2 false p _ h;obtain⟨sl,e2,h⟩:=Yq h;obtain⟨r,e3,h⟩:=Yq h;obtain⟨p2,e4,h⟩:=Yq h;exact⟨_,_,by show (match p[i]? with | some (.f (.fn f))=>(Jl w false es p).bind fun q=>(args q.2 q.1).bind fun as=>(w.C f as).bind fun r=>(outs q.2 q.1 r.2).map fun p'=>(r.1,p') | _=>none)=_;rw[ef];show (Jl w false es p).bind _=_;rw[e1];show (args p1 as).bind _=_;rw[e2];show (w.C f sl).bind _=_;rw[e3];show (outs p1 as r.2).map _=_;rw[e4];rfl,h⟩
  .exact h.elim
 | mt m i es xv =>
  refine⟨fun p Q h=>?_,fun _ _ _ h=>False.elim h⟩
  replace h:=Eq.mp (wE_mtQ _ _ _) h
  split at h
  .rename_i hd
   obtain⟨as,p1,e1,h⟩:=xv.2 false p _ h;obtain⟨ts,e2,h⟩:=Yq h
   split at h
   .rename_i t et
    obtain⟨r,e3,h⟩:=Yq h;exact⟨_,_,by show (if zf p i=true then _ else _)=_;rw[if_pos hd,e1];show (looks p1 as).bind _=_;rw[e2];show (match p1[i]? with | some (.o t)=>_ | _=>_)=_;rw[et];show (nq m t ts).map _=_;rw[e3];rfl,h⟩
   .exact h.elim
  .exact h.elim
 | comp tg it c el fr z5 htg hit hc hel =>
  refine⟨fun p Q h=>?_,fun _ _ _ h=>False.elim h⟩
  replace h:=Eq.mp (jy _ _ _ _ _ _) h
  obtain⟨r,p1,e1,h⟩:=hit.1 p _ h;obtain⟨xs,e2,h⟩:=gf e1 h
  obtain⟨ys,s,e3,h⟩:=Ti (b':=fun x s=>(asg tg x s).bind fun s1=>(if isNil c=true then some (true,s1) else Gn (ev w c s1)).bind fun b=>if b.1=true then (toT (ev w el b.2)).map fun r=>(some r.1,r.2) else some (none,b.2)) (fun x s K hk=>by
    obtain⟨s1,e3,hk⟩:=Yq hk;rw[e3];show ∃o p',(if isNil c=true then some (true,s1) else Gn (ev w c s1)).bind _=_/\_;cases hz:isNil c with
    | true =>
     rw[hz]at hk;obtain⟨r,s2,e4,hk⟩:=hel.1 s1 _ hk;obtain⟨t,e5,hk⟩:=Mj e4 hk;exact⟨_,_,by show (toT (ev w el s1)).map _=_;rw[e5];rfl,hk⟩
    | false =>
     rw[hz]at hk;obtain⟨r,s2,e4,hk⟩:=hc.1 s1 _ hk;obtain⟨b,e5,hk⟩:=Mw e4 hk;show ∃o p',(Gn (ev w c s1)).bind _=_/\_;rw[e5];cases b with
     | true =>
      obtain⟨r,s3,e7,hk⟩:=hel.1 s2 _ hk;obtain⟨t,e8,hk⟩:=Mj e7 hk;exact⟨_,_,by show (toT (ev w el s2)).map _=_;rw[e8];rfl,hk⟩
     | false=>exact⟨_,_,rfl,hk⟩) xs [] _ _ h
  exact⟨_,_,by show (c7 (ev w it p)).bind _=_;rw[e2];show Option.map _ (D6 _ xs [] (qy fr p1))=_;rw[e3];rfl,h⟩
 | itr k es xv =>
  refine⟨fun p Q h=>?_,fun _ _ _ h=>False.elim h⟩;obtain⟨as,p1,e1,h⟩:=xv.2 false p _ h;obtain⟨ts,e2,h⟩:=Yq h;obtain⟨s,e3,h⟩:=Yq h;exact⟨_,_,by show (Jl w false es p).bind _=_;rw[e1];show (looks p1 as).bind _=_;rw[e2];show (itT k ts).map _=_;rw[e3];rfl,h⟩
 | tmp a ha =>
  refine⟨fun p Q h=>?_,fun _ _ _ h=>False.elim h⟩;obtain⟨r,p1,e1,h⟩:=ha.1 (frz p) _ h;obtain⟨t,e2,h⟩:=onF_ex e1 h
  split at h
  .rename_i hs
   exact⟨_,_,by show (toF (ev w a (frz p))).bind _=_;rw[e2];exact if_pos hs,h⟩
  .exact h.elim
 | nil   =>
  refine⟨fun _ _ h=>False.elim h,fun m p Q h=>⟨[],p,by cases m<;>rfl,by cases m<;>exact h⟩⟩
 | cons a r ha hr =>
  refine⟨fun _ _ h=>False.elim h,fun m p Q h=>?_⟩
  have fin:∀(q:A×P) {p1:P} {as:List A},Ol m a p (toT (ev w a p))=some q->Jl w m r q.2=some (as,p1)->Jl w m (.cons a r) p=some (q.1::as,p1):=fun q p1 as e1 e2=>by
   show (Ol m a p (toT (ev w a p))).bind _=_;rw[e1];show (Jl w m r q.2).map _=_;rw[e2]
   rfl
  replace h:=Eq.mp (jq _ _ _) h
  split at h
  .rename_i i
   split at h
   .rename_i hd
    obtain⟨as,p1,e,h⟩:=hr.2 m p _ h;exact⟨_,_,fin (.s i,p) (by simp[Ol,hd]) e,h⟩
   .exact h.elim
  .rename_i i
   split at h
   .rename_i hm
    split at h
    .rename_i hd
     obtain⟨as,p1,e,h⟩:=hr.2 m p _ h;exact⟨_,_,fin (.s i,p) (by simp[Ol,hm,hd]) e,h⟩
    .exact h.elim
   .rename_i hm
    obtain⟨q,e1,h⟩:=Yq h;obtain⟨as,p1,e,h⟩:=hr.2 m q.2 _ h;exact⟨_,_,fin (.t q.1,q.2) (by simp[Ol,hm,e1]) e,h⟩
  .rename_i n1 n2
   obtain⟨s,p1,e1,h⟩:=ha.1 p _ h;obtain⟨t,e2,h⟩:=Mj e1 h;obtain⟨as,p2,e,h⟩:=hr.2 m p1 _ h;refine⟨_,_,fin (.t t,p1) ?_ e,h⟩;unfold Ol
   split
   .exact absurd rfl (n1 _)
   .exact absurd rfl (n2 _)
   .rw[e2];rfl
theorem Gs(e:E)(p:P)(Q:Sl->P->Prop):wE w e p Q->∃r p',ev w e p=some (r,p')/\Q r p':=(wER_ev w e).1 p Q
end
def En.fl(D:En)(f:Fl)(p:P):Prop:=match f with
 | .nx=>D.nx p
 | .rt r=>D.rt r p
 | .bk=>D.bk p
 | .ct=>D.ct p
theorem Lm{body:T->P->En->Prop}{b':T->P->Option (Fl×P)}(hb:∀x p D,body x p D->∃f p',b' x p=some (f,p')/\D.fl f p'):∀(xs:ZZ) (p:P) (D:En),Ef body xs p D->∃f p',Bd b' xs p=some (f,p')/\D.fl f p'
 | [],p,D,h=>⟨.nx,p,rfl,h⟩
 | x::r,p,D,h=>by
  obtain⟨f,p',e,h'⟩:=hb x p _ h;unfold Bd;rw[e];cases f with
  | nx=>exact Lm hb r p' D h'
  | ct=>exact Lm hb r p' D h'
  | bk=>exact⟨.nx,p',rfl,h'⟩
  | rt t=>exact⟨.rt t,p',rfl,h'⟩
theorem Eg{test:P->(Bool->P->Prop)->Prop}{t':P->Option (Bool×P)}{body:P->En->Prop}{b':P->Option (Fl×P)}(ht:∀p K,test p K->∃b p',t' p=some (b,p')/\K b p')(hb:∀p D,body p D->∃f p',b' p=some (f,p')/\D.fl f p') :
  ∀(n:Nat) (p:P) (D:En),wWh test body n p D->∃f p',Bm t' b' n p=some (f,p')/\D.fl f p'
 | 0,p,D,h=>h.elim
 | n+1,p,D,h=>by
  obtain⟨b,p1,e,h⟩:=ht p _ h;unfold Bm;rw[e];cases b with
  | false=>exact⟨.nx,p1,rfl,h⟩
  | true =>
   obtain⟨f,p2,e2,h⟩:=hb p1 _ h;show ∃f p',(b' p1).bind _=_/\_;rw[e2];cases f with
   | nx=>exact Eg ht hb n p2 D h
   | ct=>exact Eg ht hb n p2 D h
   | bk=>exact⟨.nx,p2,rfl,h⟩
   | rt t=>exact⟨.rt t,p2,rfl,h⟩
theorem wS_ex(w:W)(pt:Nat->Bool)(s:S):∀(p:P) (D:En),wS w pt s p D->∃f p',ex w pt s p=some (f,p')/\D.fl f p':=by
 induction s with
 | nil=>exact fun p D h=>⟨.nx,p,rfl,h⟩
 | seq a r ha hr =>
  intro p D h;obtain⟨f,p1,e,h⟩:=ha p _ h;show ∃f p',(ex w pt a p).bind _=_/\_;rw[e];cases f with
  | nx=>exact hr p1 D h
  | rt t=>exact⟨_,_,rfl,h⟩
  | bk=>exact⟨_,_,rfl,h⟩
  | ct=>exact⟨_,_,rfl,h⟩
 | ret a =>
  intro p D h;obtain⟨r,p1,e,h⟩:=Gs w a p _ h;exact⟨.rt r,p1,by show (ev w a p).map _=_;rw[e];rfl,h⟩
 | ex a =>
  intro p D h;obtain⟨r,p1,e,h⟩:=Gs w a p _ h;exact⟨.nx,p1,by show (ev w a p).map _=_;rw[e];rfl,h⟩
 | set i a =>
  intro p D h;by_cases hp:pt i=true
  .have h:(if pt i=true then False else _):=h;rw[if_pos hp]at h;exact h.elim
  .obtain⟨r,p1,e,h⟩:=Gs w a p _ (if_neg hp ▸ (show (if pt i=true then False else _) from h));exact⟨.nx,_,by show (if pt i=true then none else _)=_;rw[if_neg hp,e];rfl,h⟩
 | unp tg a =>
  intro p D h;by_cases hp:Uj pt tg=true
  .obtain⟨r,p1,e,h⟩:=Gs w a p _ (if_pos hp ▸ (show (if Uj pt tg=true then _ else False) from h));obtain⟨t,e2,h⟩:=Mj e h;obtain⟨p2,e3,h⟩:=Yq h;exact⟨.nx,_,by show (if Uj pt tg=true then _ else none)=_;rw[if_pos hp,e2];show (asg tg t p1).map _=_;rw[e3];rfl,h⟩
  .have h:(if Uj pt tg=true then _ else False):=h;rw[if_neg hp]at h;exact h.elim
 | put i k a =>
  intro p D h;obtain⟨r,p1,e,h⟩:=Gs w a p _ h;obtain⟨t,e2,h⟩:=Mj e h
  split at h
  .rename_i hd
   obtain⟨r,p2,e3,h⟩:=Gs w k p1 _ h;obtain⟨kt,e4,h⟩:=Mj e3 h
   split at h
   .rename_i x exq
    obtain⟨x',e5,h⟩:=Yq h;exact⟨.nx,_,by show (toT (ev w a p)).bind _=_;rw[e2];show (if done p1 i=true then (toT (ev w k p1)).bind _ else _)=_;rw[if_pos hd,e4];show (match p2[i]? with | some (.o t)=>_ | _=>_)=_;rw[exq];show (putAt x kt t).map _=_;rw[e5];rfl,h⟩
   .exact h.elim
  .exact h.elim
 | ite c a b ha hb =>
  intro p D h;obtain⟨r,p1,e,h⟩:=Gs w c p _ h;obtain⟨b',e2,h⟩:=Mw e h;show ∃f p',(Gn (ev w c p)).bind _=_/\_;rw[e2];cases b' with
  | true=>exact ha p1 D h
  | false=>exact hb p1 D h
 | loop tg it b hb =>
  intro p D h;by_cases hp:Uj pt tg=true
  .obtain⟨r,p1,e,h⟩:=Gs w it p _ (if_pos hp ▸ (show (if Uj pt tg=true then _ else False) from h));obtain⟨xs,e2,h⟩:=gf e h;show ∃f p',(if Uj pt tg=true then _ else none)=_/\_;rw[if_pos hp,e2]
   exact Lm (fun x p D h=>by
    obtain⟨s1,e3,h⟩:=Yq h;rw[e3];exact hb s1 D h) xs p1 D h
  .have h:(if Uj pt tg=true then _ else False):=h;rw[if_neg hp]at h;exact h.elim
 | wh c b hb =>
  intro p D h
  exact Eg (fun p K h=>by
   obtain⟨r,p1,e,h⟩:=Gs w c p _ h;obtain⟨b',e2,h⟩:=Mw e h;exact⟨b',p1,e2,h⟩) (fun p D h=>hb p D h) _ p D h
 | pass=>exact fun p D h=>⟨.nx,p,rfl,h⟩
 | brk=>exact fun p D h=>⟨.bk,p,rfl,h⟩
 | cont=>exact fun p D h=>⟨.ct,p,rfl,h⟩
 | rais=>exact fun p D h=>h.elim
 | clr i f j r hr =>
  intro p D h;by_cases hp:pt i=true
  .have h:(if pt i=true then False else _):=h;rw[if_pos hp]at h;exact h.elim
  .have h:(if pt i=true then False else _):=h;rw[if_neg hp]at h;obtain⟨ts,e1,h⟩:=Yq h;obtain⟨ss,e2,h⟩:=Yq h;obtain⟨x,e3,h⟩:=Yq h;by_cases hc:Kc x=true
   .rw[if_pos hc]at h;obtain⟨fl,p',e,h⟩:=hr _ D h;exact⟨fl,p',by show (if pt i=true then none else _)=_;rw[if_neg hp,e1];show (Uw ts).bind _=_;rw[e2];show (w.C f _).bind _=_;rw[e3];show (if Kc x=true then _ else none)=_;rw[if_pos hc];exact e,h⟩
   .rw[if_neg hc]at h;exact h.elim
mutual
def IsT(K:W.Frag)(mg:ZV)(H F:Hp):T->V->Prop
 | .non,v=>v=.non
 | .bl b,v=>v=.bl b
 | .int i,v=>v=.int i
 | .str x,v=>v=.str x
 | .tup ts,v=>∃a vs,v=.ref a/\Vc K H a vs/\vs.length<=sizeLine/\Zx K mg H F ts vs
 | .lst ts,v=>∃a vs,v=.ref a/\Rd F a (.lst vs)/\vs.length<=sizeLine/\Zx K mg H F ts vs
 | .dct XG,v=>∃a ks,v=.ref a/\Rd F a (.dK ks)/\ks.length<=sizeLine/\Z0 K mg H F XG ks
 | .fn x,v=>∃a,v=.ref a/\mg x=some (.ref a)
def Zx(K:W.Frag)(mg:ZV)(H F:Hp):ZZ->ZQ->Prop
 | [],vs=>vs=[]
 | t::ts,vs=>∃v r,vs=v::r/\IsT K mg H F t v/\Zx K mg H F ts r
def IsK(K:W.Frag)(mg:ZV)(H F:Hp):Key×T->Key×V->Prop
 | (k,t),q=>q.1=k/\IsT K mg H F t q.2
def Z0(K:W.Frag)(mg:ZV)(H F:Hp):ZX->List (Key×V)->Prop
 | [],ks=>ks=[]
 | p::ps,ks=>∃q r,ks=q::r/\IsK K mg H F p q/\Z0 K mg H F ps r
end
def Le(F F':Hp):Prop:=∀a o,F a=some o->F' a=some o
theorem Le.refl(F:Hp):Le F F:=fun _ _ h=>h
theorem Le.trans{F F1 F2:Hp}(a:Le F F1)(b:Le F1 F2):Le F F2:=fun c u h=>b c u (a c u h)
structure ni(F F':Hp):Prop where
 l:∀a vs,Rd F a (.lst vs)->Rd F' a (.lst vs)
 d:∀a ks,Rd F a (.dK ks)->Rd F' a (.dK ks)
theorem Le.r{F F':Hp}(l:Le F F'):ni F F':=⟨fun a u h=>h.elim (fun h=>.inl (l a _ h)) fun⟨o,h⟩=>.inr ⟨o,l a _ h⟩,fun a u h=>h.elim (fun h=>.inl (l a _ h)) fun⟨o,h⟩=>.inr ⟨o,l a _ h⟩⟩
section
variable{K:W.Frag}{mg:ZV}{H H' F F':Hp}
mutual
theorem IsT.upR(u:Up K H H')(l:ni F F'):∀(t:T) (v:V),IsT K mg H F t v->IsT K mg H' F' t v
 | .non,_,h=>h
 | .bl _,_,h=>h
 | .int _,_,h=>h
 | .str _,_,h=>h
 | .tup ts,v,h=>by
  obtain⟨a,vs,e,q,z,r⟩:=h;exact⟨a,vs,e,u a vs q,z,Zx.upR u l ts vs r⟩
 | .lst ts,v,h=>by
  obtain⟨a,vs,e,q,z,r⟩:=h;exact⟨a,vs,e,l.l a _ q,z,Zx.upR u l ts vs r⟩
 | .dct XG,v,h=>by
  obtain⟨a,ks,e,q,z,r⟩:=h;exact⟨a,ks,e,l.d a _ q,z,Z0.upR u l XG ks r⟩
 | .fn x,_,h=>h
theorem Zx.upR(u:Up K H H')(l:ni F F'):∀(ts:ZZ) (vs:ZQ),Zx K mg H F ts vs->Zx K mg H' F' ts vs
 | [],_,h=>h
 | t::ts,vs,h=>by
  obtain⟨v,r,e,q,w⟩:=h;exact⟨v,r,e,IsT.upR u l t v q,Zx.upR u l ts r w⟩
theorem IsK.upR(u:Up K H H')(l:ni F F'):∀(p:Key×T) (q:Key×V),IsK K mg H F p q->IsK K mg H' F' p q
 | (k,t),q,h=>⟨h.1,IsT.upR u l t q.2 h.2⟩
theorem Z0.upR(u:Up K H H')(l:ni F F'):∀(ps:ZX) (ks:List (Key×V)),Z0 K mg H F ps ks->Z0 K mg H' F' ps ks
 | [],_,h=>h
 | p::ps,ks,h=>by
  obtain⟨q,r,e,i,w⟩:=h;exact⟨q,r,e,IsK.upR u l p q i,Z0.upR u l ps r w⟩
end
theorem IsT.up(u:Up K H H')(l:Le F F')(t:T)(v:V)(h:IsT K mg H F t v):IsT K mg H' F' t v:=IsT.upR u l.r t v h
theorem Zx.up(u:Up K H H')(l:Le F F')(t:ZZ)(v:ZQ)(h:Zx K mg H F t v):Zx K mg H' F' t v:=Zx.upR u l.r t v h
theorem Z0.up(u:Up K H H')(l:Le F F')(t:ZX)(v:List (Key×V))(h:Z0 K mg H F t v):Z0 K mg H' F' t v:=Z0.upR u l.r t v h
theorem Zx.length:∀{ts:ZZ} {vs:ZQ},Zx K mg H F ts vs->ts.length=vs.length
 | [],vs,h=>by
  cases(show vs=[] from h);rfl
 | t::ts,vs,h=>by
  obtain⟨v,r,rfl,_,w⟩:=h;simp only[Yo,Zx.length w]
theorem Z0.length:∀{ts:ZX} {vs:List (Key×V)},Z0 K mg H F ts vs->ts.length=vs.length
 | [],vs,h=>by
  cases(show vs=[] from h);rfl
 | t::ts,vs,h=>by
  obtain⟨v,r,rfl,_,w⟩:=h;simp only[Yo,Z0.length w]
theorem Zx.get:∀{ts:ZZ} {vs:ZQ} {i:Nat} {t:T},Zx K mg H F ts vs->ts[i]?=some t->∃v,vs[i]?=some v/\IsT K mg H F t v
 | [],vs,i,t,_,e=>by simp at e
 | t::ts,vs,0,t',h,e=>by
  obtain⟨v,r,rfl,q,_⟩:=h;simp at e;subst e;exact⟨v,rfl,q⟩
 | t::ts,vs,i+1,t',h,e=>by
  obtain⟨v,r,rfl,_,w⟩:=h;obtain⟨v',e1,q⟩:=Zx.get (i:=i) w (by simpa using e);exact⟨v',by simpa using e1,q⟩
theorem Zx.append:∀{ts us:ZZ} {vs ws:ZQ},Zx K mg H F ts vs->Zx K mg H F us ws->Zx K mg H F (ts++us) (vs++ws)
 | [],us,vs,ws,h,h'=>by
  cases(show vs=[] from h);exact h'
 | t::ts,us,vs,ws,h,h'=>by
  obtain⟨v,r,rfl,q,w⟩:=h;exact⟨v,r++ws,rfl,q,Zx.append w h'⟩
theorem Zx.one{t:T}{v:V}(h:IsT K mg H F t v):Zx K mg H F [t] [v]:=⟨v,[],rfl,h,rfl⟩
theorem Zx.drop:∀{ts:ZZ} {vs:ZQ} (n:Nat),Zx K mg H F ts vs->Zx K mg H F (ts.drop n) (vs.drop n)
 | ts,vs,0,h=>h
 | [],vs,n+1,h=>by
  cases(show vs=[] from h);rfl
 | t::ts,vs,n+1,h=>by
  obtain⟨v,r,rfl,_,w⟩:=h;exact Zx.drop n w
theorem Zx.take:∀{ts:ZZ} {vs:ZQ} (n:Nat),Zx K mg H F ts vs->Zx K mg H F (ts.take n) (vs.take n)
 | ts,vs,0,_=>rfl
 | [],vs,n+1,h=>by
  cases(show vs=[] from h);rfl
 | t::ts,vs,n+1,h=>by
  obtain⟨v,r,rfl,q,w⟩:=h;exact⟨v,r.take n,rfl,q,Zx.take n w⟩
theorem Zx.set:∀{ts:ZZ} {vs:ZQ} (n:Nat) {t:T} {v:V},Zx K mg H F ts vs->IsT K mg H F t v->Zx K mg H F (ts.set n t) (vs.set n v)
 | [],vs,n,t,v,h,_=>by
  cases(show vs=[] from h);rfl
 | t::ts,vs,0,t',v',h,i=>by
  obtain⟨v,r,rfl,q,w⟩:=h;exact⟨v',r,rfl,i,w⟩
 | t::ts,vs,n+1,t',v',h,i=>by
  obtain⟨v,r,rfl,q,w⟩:=h;exact⟨v,r.set n v',rfl,q,Zx.set n w i⟩
end
def Rp(K:W.Frag)(mg:ZV)(H F:Hp)(a:Addr):T->Prop
 | .lst ts=>∃vs,H a=some (.lst vs)/\vs.length<=sizeLine/\Zx K mg H F ts vs
 | .dct XG=>∃ks,H a=some (.dK ks)/\ks.length<=sizeLine/\Z0 K mg H F XG ks
 | _=>False
theorem Rp.up{K:W.Frag}{mg:ZV}{H H' F F':Hp}{a:Addr}{t:T}(u:Up K H H')(l:Le F F')(e:H' a=H a)(h:Rp K mg H F a t):Rp K mg H' F' a t:=by
 cases t with
 | lst ts =>
  obtain⟨vs,q,z,r⟩:=h;exact⟨vs,e.trans q,z,Zx.up u l ts vs r⟩
 | dct ts =>
  obtain⟨vs,q,z,r⟩:=h;exact⟨vs,e.trans q,z,Z0.up u l ts vs r⟩
 | _=>exact h.elim
structure Base(F G H:Hp):Prop where
 f:∀a o,F a=some o->H a=some o
 g:∀a o,G a=some o->H a=some o
 d:∀a,F a≠none->G a=none
 t:TB F G H
structure Rel(K:W.Frag)(mg:ZV)(F G:Hp)(p:P)(Z:L2.St)(H:Hp):Prop where
 b:Base F G H
 fz:∀(i:Nat) (t:T),p[i]?=some (Sl.f t)->∃v,Z[i]?=some (some v)/\IsT K mg H F t v
 ow:∀(i:Nat) (t:T),p[i]?=some (Sl.o t)->∃a,Z[i]?=some (some (V.ref a))/\F a=none/\G a=none/\Rp K mg H F a t
 ap:∀(i j:Nat) (t u:T) (a:Addr),p[i]?=some (Sl.o t)->p[j]?=some (Sl.o u)->Z[i]?=some (some (V.ref a))->Z[j]?=some (some (V.ref a))->i=j
 ln:p.length=Z.length
def Res(K:W.Frag)(mg:ZV)(F G:Hp)(p:P)(Z:L2.St)(H:Hp)(r:Sl)(v:V):Prop:=match r with
 | .f t=>IsT K mg H F t v
 | .o t=>∃a,v=.ref a/\F a=none/\G a=none/\Rp K mg H F a t/\∀(i:Nat) (u:T),p[i]?=some (Sl.o u)->Z[i]?≠some (some (V.ref a))
 | .no=>False
section
variable{K:W.Frag}{mg:ZV}{H H' F F' G:Hp}{p:P}{Z:L2.St}
theorem Rd.none{F:Hp}{a:Addr}{u:HO}(h:F a=none):¬ Rd F a u:=fun r=>by
 rcases r with r | ⟨o,r⟩<;>rw[h]at r<;>cases r
theorem Le.lay{a:Addr}{o:HO}(h:F a=none):Le F (upd F a o):=Zp.lay h
theorem Base.rd(b:Base F G H){a:Addr}{u:HO}(r:Rd F a u):Rd H a u:=by
 rcases r with r | ⟨o,r⟩
 .exact .inl (b.f a _ r)
 .exact .inr ⟨o,b.f a _ r⟩
theorem Base.same(b:Base F G H)(s:Zp H H'):Base F G H':=⟨fun a o e=>s a o (b.f a o e),fun a o e=>s a o (b.g a o e),b.d,b.t.same s⟩
theorem Rp.some{a:Addr}{t:T}(h:Rp K mg H F a t):∃o,H a=some o:=by
 cases t with
 | lst ts=>obtain⟨vs,q,_⟩:=h;exact⟨_,q⟩
 | dct ts=>obtain⟨vs,q,_⟩:=h;exact⟨_,q⟩
 | _=>exact h.elim
theorem Rp.pln{a:Addr}{t:T}{o:HO}(h:Rp K mg H F a t)(e:H a=Option.some o):Pln o:=by
 cases t with
 | lst ts=>obtain⟨vs,q,_⟩:=h;rw[q]at e;cases e;exact yi
 | dct ts=>obtain⟨vs,q,_⟩:=h;rw[q]at e;cases e;exact Zxp
 | _=>exact h.elim
theorem Rp.ne{a:Addr}{t:T}{T:TP}(h:Rp K mg H F a t)(tb:Tb T H):a≠T.P:=let ⟨_,e⟩:=h.some;tb.ne e (h.pln e)
theorem Rp.same{a:Addr}{t:T}(h:Rp K mg H F a t)(s:Zp H H')(l:Le F F'):Rp K mg H' F' a t:=by
 obtain⟨o,e⟩:=h.some;exact h.up s.up l ((s a o e).trans e.symm)
theorem Rel.same(r:Rel K mg F G p Z H)(s:Zp H H'):Rel K mg F G p Z H' :=
 ⟨r.b.same s,fun i t e=>let ⟨v,h1,h2⟩:=r.fz i t e;⟨v,h1,IsT.up s.up (Le.refl F) t v h2⟩,fun i t e=>let ⟨a,h1,h2,h3,h4⟩:=r.ow i t e;⟨a,h1,h2,h3,h4.same s (Le.refl F)⟩,r.ap,r.ln⟩
theorem Cg{a:Addr}{t:T}{o:HO}(h:Rp K mg H F a t)(e:H a=some o)(l:Le F F')(q:F' a=some o):IsT K mg H F' t (.ref a):=by
 cases t with
 | lst ts =>
  obtain⟨vs,q1,z,r⟩:=h;rw[q1]at e;cases e;exact⟨a,vs,rfl,.inl q,z,Zx.up (Up.refl H) l ts vs r⟩
 | dct ts =>
  obtain⟨vs,q1,z,r⟩:=h;rw[q1]at e;cases e;exact⟨a,vs,rfl,.inl q,z,Z0.up (Up.refl H) l ts vs r⟩
 | _=>exact h.elim
theorem Rel.freeze(r:Rel K mg F G p Z H){a:Addr}{t:T}(fa:F a=none)(ga:G a=none)(h:Rp K mg H F a t)(ha:∀(i:Nat) (u:T),p[i]?=some (Sl.o u)->Z[i]?≠some (some (V.ref a))):∃F',Le F F'/\Rel K mg F' G p Z H/\IsT K mg H F' t (.ref a):=by
 obtain⟨o,e⟩:=h.some;have l:Le F (upd F a o):=Le.lay fa;refine⟨upd F a o,l,⟨⟨fun b u q=>?_,r.b.g,fun b q=>?_,fun T e=>let ⟨f1,g1,t1⟩:=r.b.t T e;⟨by rw[Zz (h.ne t1).symm];exact f1,g1,t1⟩⟩,fun i t e=>let ⟨v,h1,h2⟩:=r.fz i t e;⟨v,h1,IsT.up (Up.refl H) l t v h2⟩,fun i u q=>?_,r.ap,r.ln⟩,Cg h e l Zq⟩
 .by_cases z:b=a
  .subst z;rw[Zq]at q;cases q;exact e
  .rw[Zz z]at q;exact r.b.f b u q
 .by_cases z:b=a
  .subst z;exact ga
  .rw[Zz z]at q;exact r.b.d b q
 .obtain⟨b,h1,h2,h3,h4⟩:=r.ow i u q;have n:b≠a:=fun z=>by subst z;exact ha i u q h1
  exact⟨b,h1,by rw[Zz n];exact h2,h3,h4.same (Zp.refl H) l⟩
theorem Zr{p:P}{i j:Nat}{s u:Sl}(h:(p.set i s)[j]?=some u):(j=i/\u=s)\/(j≠i/\p[j]?=some u):=by
 by_cases e:i=j
 .subst e;rw[List.getElem?_set_self']at h;cases q:p[i]? with
  | none=>rw[q]at h;cases h
  | some x=>rw[q]at h;exact .inl ⟨rfl,(D8 h).symm⟩
 .rw[List.getElem?_set_ne e]at h;exact .inr ⟨fun z=>e z.symm,h⟩
theorem Rel.drop(r:Rel K mg F G p Z H)(i:Nat):Rel K mg F G (p.set i .no) Z H :=
 ⟨r.b,fun j t e=>by
  rcases Zr e with ⟨_,z⟩ | ⟨_,e⟩
  .cases z
  .exact r.fz j t e,fun j t e=>by
  rcases Zr e with ⟨_,z⟩ | ⟨_,e⟩
  .cases z
  .exact r.ow j t e,fun j k t u a e1 e2=>by
  rcases Zr e1 with ⟨_,z⟩ | ⟨_,e1⟩
  .cases z
  rcases Zr e2 with ⟨_,z⟩ | ⟨_,e2⟩
  .cases z
  exact r.ap j k t u a e1 e2,by rw[XQ];exact r.ln⟩
theorem Rel.know(r:Rel K mg F G p Z H){i:Nat}{t:T}{v:V}(hv:Z[i]?=some (some v))(h:IsT K mg H F t v):Rel K mg F G (p.set i (.f t)) Z H :=
 ⟨r.b,fun j u e=>by
  rcases Zr e with ⟨z,y⟩ | ⟨_,e⟩
  .cases y;subst z;exact⟨v,hv,h⟩
  .exact r.fz j u e,fun j t e=>by
  rcases Zr e with ⟨_,z⟩ | ⟨_,e⟩
  .cases z
  .exact r.ow j t e,fun j k t u a e1 e2=>by
  rcases Zr e1 with ⟨_,z⟩ | ⟨_,e1⟩
  .cases z
  rcases Zr e2 with ⟨_,z⟩ | ⟨_,e2⟩
  .cases z
  exact r.ap j k t u a e1 e2,by rw[XQ];exact r.ln⟩
theorem Rel.freezeAt(r:Rel K mg F G p Z H){i:Nat}{t:T}(e:p[i]?=some (Sl.o t)):∃F' v,Le F F'/\Rel K mg F' G (p.set i (.f t)) Z H/\Z[i]?=some (some v)/\IsT K mg H F' t v:=by
 obtain⟨a,h1,h2,h3,h4⟩:=r.ow i t e
 obtain⟨F',l,r',h⟩:=(r.drop i).freeze h2 h3 h4 fun j u q z=>by
  rcases Zr q with ⟨_,y⟩ | ⟨n,q⟩
  .cases y
  .exact n (r.ap j i u t a q e z h1)
 have r2:=r'.know (i:=i) h1 h;rw[List.set_set]at r2;exact⟨F',_,l,r2,h1,h⟩
theorem Rel.thaw(r:Rel K mg F G p Z H){s:Sl}{t:T}{v:V}(e:PV.thaw s=some t)(h:Res K mg F G p Z H s v):∃F',Le F F'/\Rel K mg F' G p Z H/\IsT K mg H F' t v:=by
 cases s with
 | no=>cases e
 | f u=>cases e;exact⟨F,Le.refl F,r,h⟩
 | o u =>
  cases e;obtain⟨a,rfl,h1,h2,h3,h4⟩:=h;exact r.freeze h1 h2 h3 h4
theorem Rel.newL(r:Rel K mg F G p Z H){l:Addr}{ts:ZZ}{vs:ZQ}(hl:H l=none)(z:vs.length<=sizeLine)(h:Zx K mg H F ts vs):Rel K mg F G p Z (upd H l (.lst vs))/\Res K mg F G p Z (upd H l (.lst vs)) (.o (.lst ts)) (.ref l):=by
 have s:Zp H (upd H l (.lst vs)):=Zp.lay hl;refine⟨r.same s,l,rfl, ?_, ?_,⟨vs,Zq,z,Zx.up s.up (Le.refl F) ts vs h⟩,fun i u e q=>?_⟩
 .cases q:F l with
  | none=>rfl
  | some o=>rw[r.b.f l o q]at hl;cases hl
 .cases q:G l with
  | none=>rfl
  | some o=>rw[r.b.g l o q]at hl;cases hl
 .obtain⟨b,h1,_,_,h4⟩:=r.ow i u e;rw[h1]at q;cases q;obtain⟨o,h5⟩:=h4.some;rw[h5]at hl;cases hl
theorem Rel.newD(r:Rel K mg F G p Z H){l:Addr}{ts:ZX}{vs:List (Key×V)}(hl:H l=none)(z:vs.length<=sizeLine)(h:Z0 K mg H F ts vs):Rel K mg F G p Z (upd H l (.dK vs))/\Res K mg F G p Z (upd H l (.dK vs)) (.o (.dct ts)) (.ref l):=by
 have s:Zp H (upd H l (.dK vs)):=Zp.lay hl;refine⟨r.same s,l,rfl, ?_, ?_,⟨vs,Zq,z,Z0.up s.up (Le.refl F) ts vs h⟩,fun i u e q=>?_⟩
 .cases q:F l with
  | none=>rfl
  | some o=>rw[r.b.f l o q]at hl;cases hl
 .cases q:G l with
  | none=>rfl
  | some o=>rw[r.b.g l o q]at hl;cases hl
 .obtain⟨b,h1,_,_,h4⟩:=r.ow i u e;rw[h1]at q;cases q;obtain⟨o,h5⟩:=h4.some;rw[h5]at hl;cases hl
end
def Ar(K:W.Frag)(mg:ZV)(F:Hp)(Z:L2.St)(H:Hp):A->V->Prop
 | .t t,v=>IsT K mg H F t v
 | .s i,v=>Z[i]?=some (some v)
abbrev Ars(K:W.Frag)(mg:ZV)(F:Hp)(Z:L2.St)(H:Hp):List A->ZQ->Prop:=Paired (Ar K mg F Z H)
def Tp(K:W.Frag)(mg:ZV)(H F:Hp):T->V->Prop
 | .lst ts,v=>∃a vs,v=.ref a/\Rd H a (.lst vs)/\vs.length<=sizeLine/\Zx K mg H F ts vs
 | .dct XG,v=>∃a ks,v=.ref a/\Rd H a (.dK ks)/\ks.length<=sizeLine/\Z0 K mg H F XG ks
 | t,v=>IsT K mg H F t v
section
variable{K:W.Frag}{mg:ZV}{H H' F F' G:Hp}{p:P}{Z:L2.St}
theorem Ar.up(u:Up K H H')(l:Le F F'){a:A}{v:V}(h:Ar K mg F Z H a v):Ar K mg F' Z H' a v:=by
 cases a with
 | t t=>exact IsT.up u l t v h
 | s i=>exact h
theorem Ars.up(u:Up K H H')(l:Le F F'):∀{as:List A} {vs:ZQ},Ars K mg F Z H as vs->Ars K mg F' Z H' as vs
 | _,_,.nil=>.nil
 | _,_,.cons r t=>.cons (Ar.up u l r) (Ars.up u l t)
theorem Ei(b:Base F G H){t:T}{v:V}(h:IsT K mg H F t v):Tp K mg H F t v:=by
 cases t with
 | lst ts=>obtain⟨a,vs,e,q,z,r⟩:=h;exact⟨a,vs,e,b.rd q,z,r⟩
 | dct ts=>obtain⟨a,vs,e,q,z,r⟩:=h;exact⟨a,vs,e,b.rd q,z,r⟩
 | _=>exact h
theorem uz{a:Addr}{t:T}(h:Rp K mg H F a t):Tp K mg H F t (.ref a):=by
 cases t with
 | lst ts=>obtain⟨vs,q,z,r⟩:=h;exact⟨a,vs,rfl,.inl q,z,r⟩
 | dct ts=>obtain⟨vs,q,z,r⟩:=h;exact⟨a,vs,rfl,.inl q,z,r⟩
 | _=>exact h.elim
theorem Rel.look(r:Rel K mg F G p Z H){a:A}{v:V}{t:T}(e:PV.look p a=some t)(h:Ar K mg F Z H a v):Tp K mg H F t v:=by
 cases a with
 | t u=>cases e;exact Ei r.b h
 | s i =>
  unfold PV.look at e;dsimp only at e
  split at e
  .rename_i u q
   cases e;obtain⟨v',h1,h2⟩:=r.fz i _ q;have:v'=v:=D8 (D8 (h1.symm.trans h));subst this;exact Ei r.b h2
  .rename_i u q
   cases e;obtain⟨a,h1,_,_,h2⟩:=r.ow i _ q;have:V.ref a=v:=D8 (D8 (h1.symm.trans h));subst this;exact uz h2
  .cases e
theorem Rel.looks(r:Rel K mg F G p Z H):∀{as:List A} {vs:ZQ} {ts:ZZ},PV.looks p as=some ts->Ars K mg F Z H as vs->Paired (Tp K mg H F) ts vs
 | [],_,ts,e,.nil=>by cases e;exact .nil
 | a::as,_,ts,e,.cons h t=>by
  unfold PV.looks at e;cases e1:PV.look p a with
  | none=>rw[e1]at e;cases e
  | some u =>
   rw[e1]at e;have e:(PV.looks p as).map (u::·)=some ts:=e;cases e2:PV.looks p as with
   | none=>rw[e2]at e;cases e
   | some us =>
    rw[e2]at e;cases e;exact .cons (r.look e1 h) (r.looks e2 t)
end
section
theorem G9:∀{as:List A} {p:P} {sl:List Sl},args p as=some sl->sl.length=as.length
 | [],p,sl,e=>by cases e;rfl
 | .t t::r,p,sl,e=>by
  unfold args at e;cases q:args p r with
  | none=>rw[q]at e;cases e
  | some x=>rw[q]at e;cases e;simp[G9 q]
 | .s i::r,p,sl,e=>by
  unfold args at e
  split at e
  .cases q:args (p.set i .no) r with
   | none=>rw[q]at e;cases e
   | some x=>rw[q]at e;cases e;simp[G9 q]
  .cases e
theorem K8:∀{as:List A} {p:P} {sl:List Sl} {j:Nat} {t:T},args p as=some sl->as[j]?=some (.t t)->sl[j]?=some (.f t)
 | [],p,sl,j,t,e,h=>by simp at h
 | .t u::r,p,sl,j,t,e,h=>by
  unfold args at e;cases q:args p r with
  | none=>rw[q]at e;cases e
  | some x =>
   rw[q]at e;cases e;cases j with
   | zero=>simp at h;subst h;rfl
   | succ j=>simpa using K8 (j:=j) q (by simpa using h)
 | .s i::r,p,sl,j,t,e,h=>by
  unfold args at e
  split at e
  .cases q:args (p.set i .no) r with
   | none=>rw[q]at e;cases e
   | some x =>
    rw[q]at e;cases e;cases j with
    | zero=>simp at h
    | succ j=>simpa using K8 (j:=j) q (by simpa using h)
  .cases e
theorem G8:∀{as:List A} {p:P} {sl:List Sl} {j i:Nat},args p as=some sl->as[j]?=some (.s i)->∃t,p[i]?=some (Sl.o t)/\sl[j]?=some (.o t)
 | [],p,sl,j,t,e,h=>by simp at h
 | .t u::r,p,sl,j,i,e,h=>by
  unfold args at e;cases q:args p r with
  | none=>rw[q]at e;cases e
  | some x =>
   rw[q]at e;cases e;cases j with
   | zero=>simp at h
   | succ j=>simpa using G8 (j:=j) q (by simpa using h)
 | .s k::r,p,sl,j,i,e,h=>by
  unfold args at e
  split at e
  .rename_i u hu
   cases q:args (p.set k .no) r with
   | none=>rw[q]at e;cases e
   | some x =>
    rw[q]at e;cases e;cases j with
    | zero=>simp at h;subst h;exact⟨u,hu,rfl⟩
    | succ j =>
     obtain⟨t,h1,h2⟩:=G8 (j:=j) q (by simpa using h);rcases Zr h1 with ⟨_,z⟩ | ⟨_,h1⟩
     .cases z
     .exact⟨t,h1,by simpa using h2⟩
  .cases e
theorem Jn:∀{as:List A} {p:P} {sl:List Sl} {j k i:Nat},args p as=some sl->as[j]?=some (.s i)->as[k]?=some (.s i)->j=k
 | [],p,sl,j,k,i,e,h,_=>by simp at h
 | .t u::r,p,sl,j,k,i,e,h,h'=>by
  unfold args at e;cases q:args p r with
  | none=>rw[q]at e;cases e
  | some x =>
   cases j with
   | zero=>simp at h
   | succ j =>
    cases k with
    | zero=>simp at h'
    | succ k=>rw[Jn (j:=j) (k:=k) q (by simpa using h) (by simpa using h')]
 | .s l::r,p,sl,j,k,i,e,h,h'=>by
  unfold args at e
  split at e
  .cases q:args (p.set l .no) r with
   | none=>rw[q]at e;cases e
   | some x =>
    have no:∀{m:Nat},r[m]?=some (A.s i)->l≠i:=fun {m} hm z=>by
     subst z;obtain⟨t,h1,_⟩:=G8 (j:=m) q hm;rcases Zr h1 with ⟨_,z⟩ | ⟨z,_⟩
     .cases z
     .exact z rfl
    cases j with
    | zero =>
     cases k with
     | zero=>rfl
     | succ k =>
      simp at h;exact absurd h (no (m:=k) (by simpa using h'))
    | succ j =>
     cases k with
     | zero =>
      simp at h';exact absurd h' (no (m:=j) (by simpa using h))
     | succ k=>rw[Jn (j:=j) (k:=k) q (by simpa using h) (by simpa using h')]
  .cases e
theorem Tq:∀{as:List A} {p p0 p2:P} {sl:List Sl} {ts:ZZ},args p0 as=some sl->outs p as ts=some p2 ->
  p2.length=p.length/\(∀i:Nat,A.s i ∉ as->p2[i]?=p[i]?)/\(∀j i:Nat,as[j]?=some (A.s i)->i<p.length->(∀k:Nat,as[k]?=some (A.s i)->k=j)->∃t,p2[i]?=some (mkO t)/\(Rm sl ts)[j]?=some (mkO t))/\∀(j:Nat) (t:T),as[j]?=some (A.t t)->(Rm sl ts)[j]?=some (Sl.f t)
 | [],p,p0,p2,sl,ts,e,h=>by
  cases e;cases ts with
  | nil=>cases h;exact⟨rfl,fun _ _=>rfl,fun j i h=>by simp at h,fun j t h=>by simp at h⟩
  | cons t ts=>cases h
 | .t u::r,p,p0,p2,sl,ts,e,h=>by
  unfold args at e;cases q:args p0 r with
  | none=>rw[q]at e;cases e
  | some x =>
   rw[q]at e;cases e;have h:outs p r ts=some p2:=by cases ts<;>exact h
   obtain⟨h1,h2,h3,h4⟩:=Tq q h;have eu:Rm (.f u::x) ts=.f u::Rm x ts:=by cases ts<;>rfl
   refine⟨h1,fun i m=>h2 i fun z=>m (Vi _ z),fun j i hj hi hu=>?_,fun j t hj=>?_⟩
   .cases j with
    | zero=>simp at hj
    | succ j =>
     obtain⟨t,a1,a2⟩:=h3 j i (by simpa using hj) hi fun k hk=>by have:=hu (k+1) (by simpa using hk);omega
     exact⟨t,a1,by rw[eu];simpa using a2⟩
   .rw[eu];cases j with
    | zero=>simp at hj;subst hj;rfl
    | succ j=>simpa using h4 j t (by simpa using hj)
 | .s l::r,p,p0,p2,sl,ts,e,h=>by
  unfold args at e
  split at e
  .rename_i u hu0
   cases q:args (p0.set l .no) r with
   | none=>rw[q]at e;cases e
   | some x =>
    rw[q]at e;cases e;cases ts with
    | nil=>cases h
    | cons t ts =>
     have h:outs (p.set l (mkO t)) r ts=some p2:=h;obtain⟨h1,h2,h3,h4⟩:=Tq q h;rw[XQ]at h1;refine⟨h1,fun i m=>?_,fun j i hj hi hu=>?_,fun j v hj=>?_⟩
     .rw[h2 i fun z=>m (Vi _ z),List.getElem?_set_ne fun z=>m (by rw[z];exact Ye)]
     .cases j with
      | zero =>
       simp at hj;subst hj
       have no:A.s l ∉ r:=fun z=>by
        obtain⟨k,hk⟩:=List.getElem?_of_mem z;have:=hu (k+1) (by simpa using hk);omega
       exact⟨t,by rw[h2 l no,List.getElem?_set_self hi],rfl⟩
      | succ j =>
       obtain⟨v,a1,a2⟩:=h3 j i (by simpa using hj) (by rw[XQ];exact hi) fun k hk=>by have:=hu (k+1) (by simpa using hk);omega
       exact⟨v,a1,a2⟩
     .cases j with
      | zero=>simp at hj
      | succ j=>exact h4 j v (by simpa using hj)
  .cases e
end
def spC(K:W.Frag)(mg:ZV)(n:Nat)(c:List Sl->Option (Sl×ZZ)):Sp:=fun vs H Q _=>vs.length=n/\∃F G as r,c as=some r/\Rel K mg F G as (vs.map some) H /\
 ∀F' H' v,Le F F'->Up K H H'->Rel K mg F' G (Rm as r.2) (vs.map some) H'->Res K mg F' G (Rm as r.2) (vs.map some) H' r.1 v->Q v H'
section
variable{K:W.Frag}{mg:ZV}{H F G:Hp}{p:P}{Z:L2.St}
theorem Ja{Z U:Type}{R:Z->U->Prop}:∀{xs:List Z} {ys:List U} {i:Nat} {x:Z},Paired R xs ys->xs[i]?=some x->∃y,ys[i]?=some y/\R x y
 | _,_,_,_,.nil,e=>by simp at e
 | _,_,0,_,.cons r _,e=>by simp at e;subst e;exact⟨_,rfl,r⟩
 | _,_,i+1,x,.cons _ t,e=>by
  obtain⟨u,h1,h2⟩:=Ja (i:=i) (x:=x) t (by simpa using e);exact⟨u,by simpa using h1,h2⟩
open Classical in
theorem Rel.call(r:Rel K mg F G p Z H){as:List A}{vs:ZQ}{sl:List Sl}(ha:Ars K mg F Z H as vs)(es:args p as=some sl){c:List Sl->Option (Sl×ZZ)}{rr:Sl×ZZ}(ec:c sl=some rr){p2:P}(eo:outs p as rr.2=some p2){n:Nat}(hn:vs.length=n){Q:VK}{E:XK}
  (q:∀F' H' v,Le F F'->Up K H H'->Rel K mg F' G p2 Z H'->Res K mg F' G p2 Z H' rr.1 v->Q v H'):spC K mg n c vs H Q E:=by
 have al:=G9 es;have vl:as.length=vs.length:=Paired.length ha
 let G':Hp:=fun a=>if ∃(i:Nat) (t:T),p[i]?=some (Sl.o t)/\Z[i]?=some (some (V.ref a))/\A.s i ∉ as then H a else G a
 have gIn:∀{a:Addr} {i:Nat} {t:T},p[i]?=some (Sl.o t)->Z[i]?=some (some (V.ref a))->A.s i ∉ as->G' a=H a:=fun {a i t} h1 h2 h3=>if_pos ⟨i,t,h1,h2,h3⟩;have M4:∀{a:Addr},(¬ ∃(i:Nat) (t:T),p[i]?=some (Sl.o t)/\Z[i]?=some (some (V.ref a))/\A.s i ∉ as)->G' a=G a:=fun {a} h=>if_neg h
 have gOf:∀{a:Addr} {o:HO},G a=some o->G' a=some o:=fun {a o} h=>by
  refine(M4 fun⟨i,t,h1,h2,_⟩=>?_).trans h;obtain⟨b,h3,_,h4,_⟩:=r.ow i t h1;rw[h2]at h3;cases h3;rw[h]at h4;cases h4
 have gNo:∀{a:Addr},G' a=none->G a=none:=fun {a} h=>by
  cases e:G a with
  | none=>rfl
  | some o=>rw[gOf e]at h;cases h
 have arg:∀{j:Nat} {s:Sl},sl[j]?=some s->∃v,vs[j]?=some v/\((∃t,s=.f t/\as[j]?=some (.t t)/\IsT K mg H F t v)\/∃(i:Nat) (t:T),s=.o t/\as[j]?=some (.s i)/\p[i]?=some (Sl.o t)/\Z[i]?=some (some v)):=fun {j s} hs=>by
  have hj:j<as.length:=by rw[<-al];exact(Nd.mp hs).1
  obtain⟨a,hae⟩:∃a,as[j]?=some a:=⟨_,Dx hj⟩;obtain⟨v,hv,hr⟩:=Ja ha hae;refine⟨v,hv, ?_⟩;cases a with
  | t t =>
   have:=K8 es hae;rw[hs]at this;cases this;exact .inl ⟨t,rfl,hae,hr⟩
  | s i =>
   obtain⟨t,h1,h2⟩:=G8 es hae;rw[hs]at h2;cases h2;exact .inr ⟨i,t,rfl,hae,h1,hr⟩
 have vsome:∀{j:Nat} {v:V},vs[j]?=some v->(vs.map some)[j]?=some (some v):=fun {j v} h=>by rw[Bo,h];rfl
 have r0:Rel K mg F G' sl (vs.map some) H:=by
  refine⟨⟨r.b.f,fun a o e=>?_,fun a e=>?_,fun T e=>let ⟨f1,g1,t1⟩:=r.b.t T e;⟨f1,(M4 fun⟨i,t,h1,h2,_⟩=>by
   obtain⟨b,h3,_,_,h4⟩:=r.ow i t h1;rw[h2]at h3;cases h3;exact h4.ne t1 rfl).trans g1,t1⟩⟩,fun j t e=>?_,fun j t e=>?_,fun j k t u a e1 e2 h1 h2=>?_,by rw[Zn,al,vl]⟩
  .by_cases h:∃(i:Nat) (t:T),p[i]?=some (Sl.o t)/\Z[i]?=some (some (V.ref a))/\A.s i ∉ as
   .obtain⟨i,t,h1,h2,h3⟩:=h;rw[gIn h1 h2 h3]at e;exact e
   .rw[M4 h]at e;exact r.b.g a o e
  .refine(M4 fun⟨i,t,h1,h2,_⟩=>?_).trans (r.b.d a e);obtain⟨b,h3,h4,_⟩:=r.ow i t h1;rw[h2]at h3;cases h3;exact e h4
  .obtain⟨v,hv,⟨t',et,_,it⟩ | ⟨i,t',et,_⟩⟩:=arg e
   .cases et;exact⟨v,vsome hv,it⟩
   .cases et
  .obtain⟨v,hv,⟨t',et,_,it⟩ | ⟨i,t',et,hj,hp,hσ⟩⟩:=arg e
   .cases et
   .cases et;obtain⟨a,h1,h2,h3,h4⟩:=r.ow i t hp;rw[hσ]at h1;cases h1;refine⟨a,vsome hv,h2, ?_,h4⟩;refine(M4 fun⟨k,u,q1,q2,q3⟩=>?_).trans h3;have:=r.ap k i u t a q1 hp q2 hσ;subst this;exact q3 (M0g hj)
  .obtain⟨v,hv,⟨t',et,_,it⟩ | ⟨i,t',et,hj,hp,hσ⟩⟩:=arg e1
   .cases et
   obtain⟨v',hv',⟨t',et',_,it⟩ | ⟨i',t'',et',hj',ej,hσ'⟩⟩:=arg e2
   .cases et'
   rw[vsome hv]at h1;cases h1;rw[vsome hv']at h2;cases h2;have:=r.ap i i' t' t'' a hp ej hσ hσ';subst this;exact Jn es hj hj'
 refine⟨hn,F,G',sl,rr,ec,r0,fun F' H' v l u r' rs=>q F' H' v l u ?_ ?_⟩
 .obtain⟨o1,o2,o3,o4⟩:=Tq es eo
  have kept:∀{i:Nat} {t:T} {a:Addr},p[i]?=some (Sl.o t)->Z[i]?=some (some (V.ref a))->A.s i ∉ as->F' a=none/\Rp K mg H' F' a t:=fun {i t a} h1 h2 h3=>by
   obtain⟨b,h4,h5,h6,h7⟩:=r.ow i t h1;rw[h2]at h4;cases h4;obtain⟨o,ho⟩:=h7.some;have g1:G' a=some o:=(gIn h1 h2 h3).trans ho;refine⟨?_,h7.up u l ((r'.b.g a o g1).trans ho.symm)⟩;cases e:F' a with
   | none=>rfl
   | some x =>
    have:=r'.b.d a (by rw[e];exact fun z=>nomatch z);rw[g1]at this;cases this
  have lent:∀{i:Nat} {t:T},p2[i]?=some (Sl.o t)->A.s i∈as->∃(a:Addr) (j:Nat),Z[i]?=some (some (V.ref a))/\as[j]?=some (A.s i)/\(Rm sl rr.2)[j]?=some (Sl.o t)/\(vs.map some)[j]?=some (some (V.ref a))/\G a=none:=fun {i t} h1 h2=>by
   obtain⟨j,hj⟩:=List.getElem?_of_mem h2;obtain⟨x,hx,_⟩:=G8 es hj;obtain⟨y,hy1,hy2⟩:=o3 j i hj (Nd.mp hx).1 fun k hk=>Jn es hk hj;rw[h1]at hy1;rw[<-D8 hy1]at hy2;obtain⟨v,hv,hσ⟩:=Ja ha hj;obtain⟨a,q1,q2,q3,q4⟩:=r.ow i x hx;rw[show Z[i]?=some (some v) from hσ]at q1;cases q1;exact⟨a,j,hσ,hj,hy2,vsome hv,q3⟩
  refine⟨⟨r'.b.f,fun a o e=>r'.b.g a o (gOf e),fun a e=>gNo (r'.b.d a e),fun T e=>⟨(r'.b.t T e).f,(r.b.t T e).g,(r'.b.t T e).h⟩⟩,fun i t e=>?_,fun i t e=>?_,fun i j t t' a e1 e2 h1 h2=>?_,by rw[o1];exact r.ln⟩
  .by_cases m:A.s i∈as
   .obtain⟨j,hj⟩:=List.getElem?_of_mem m;obtain⟨x,hx,_⟩:=G8 es hj;obtain⟨y,hy1,hy2⟩:=o3 j i hj (Nd.mp hx).1 fun k hk=>Jn es hk hj;rw[e]at hy1;exact absurd (D8 hy1).symm mkO_f
   .rw[o2 i m]at e;obtain⟨v,h1,h2⟩:=r.fz i t e;exact⟨v,h1,IsT.up u l t v h2⟩
  .by_cases m:A.s i∈as
   .obtain⟨a,j,h1,h2,h3,h4,h5⟩:=lent e m;obtain⟨b,q1,q2,q3,q4⟩:=r'.ow j t h3;rw[h4]at q1;cases q1;exact⟨a,h1,q2,h5,q4⟩
   .rw[o2 i m]at e;obtain⟨a,h1,h2,h3,h4⟩:=r.ow i t e;obtain⟨k1,k2⟩:=kept e h1 m;exact⟨a,h1,k1,h3,k2⟩
  .have own:∀{i:Nat} {t:T},p2[i]?=some (Sl.o t)->∃t',p[i]?=some (Sl.o t'):=fun {i t} h=>by
    by_cases m:A.s i∈as
    .obtain⟨j,hj⟩:=List.getElem?_of_mem m;obtain⟨x,hx,_⟩:=G8 es hj;exact⟨x,hx⟩
    .rw[o2 i m]at h;exact⟨t,h⟩
   obtain⟨x,hx⟩:=own e1;obtain⟨y,hy⟩:=own e2;exact r.ap i j x y a hx hy h1 h2
 .cases hr:rr.1 with
  | no=>rw[hr]at rs;exact rs
  | f t=>rw[hr]at rs;exact rs
  | o t =>
   rw[hr]at rs;obtain⟨a,rfl,h1,h2,h3,h4⟩:=rs;obtain⟨o1,o2,o3,o4⟩:=Tq es eo;refine⟨a,rfl,h1,gNo h2,h3,fun i t e hσ=>?_⟩;by_cases m:A.s i∈as
   .obtain⟨j,hj⟩:=List.getElem?_of_mem m;obtain⟨x,hx,_⟩:=G8 es hj;obtain⟨y,hy1,hy2⟩:=o3 j i hj (Nd.mp hx).1 fun k hk=>Jn es hk hj;obtain⟨v,hv,hs⟩:=Ja ha hj;rw[show Z[i]?=some (some v) from hs]at hσ;cases hσ;rw[e]at hy1;rw[<-D8 hy1]at hy2;exact h4 j t hy2 (vsome hv)
   .rw[o2 i m]at e;obtain⟨b,q1,q2,q3,q4⟩:=r.ow i t e;rw[hσ]at q1;cases q1;obtain⟨o,ho⟩:=q4.some;rw[gIn e hσ m,ho]at h2;cases h2
end
theorem PE.imp{X:Cx}{e:Expr}{t t':TE}(h:PE X e t)(f:∀Z H Q,t' Z H Q->t Z H Q):PE X e t':=fun XY s Z H Q I q=>h XY s Z H Q I (f Z H Q q)
inductive LE_I(K:PySem.W.Frag)(mg:ZV)(w:W)(e:E)(Z:L2.St)(H:Hp)(Q:VK):Prop
 | mk(F G p r p')(Vg:Rel K mg F G p Z H)(Vb:ev w e p=some (r,p'))(Jg:∀F' H' v,Le F F'->Up K H H'->Rel K mg F' G p' Z H'->Res K mg F' G p' Z H' r v->Q v H'):LE_I K mg w e Z H Q
def LE(K:PySem.W.Frag)(mg:ZV)(w:W)(e:E):TE:=fun Z H Q=>LE_I K mg w e Z H Q
inductive LA_I(K:PySem.W.Frag)(mg:ZV)(w:W)(m:Bool)(e:E)(Z:L2.St)(H:Hp)(Q:(ZQ->Hp->Prop)):Prop
 | mk(F G p as p')(Vg:Rel K mg F G p Z H)(Vb:Jl w m e p=some (as,p'))(Jg:∀F' H' vs,Le F F'->Up K H H'->Rel K mg F' G p' Z H'->Ars K mg F' Z H' as vs->Q vs H'):LA_I K mg w m e Z H Q
def LA(K:PySem.W.Frag)(mg:ZV)(w:W)(m:Bool)(e:E):TA:=fun Z H Q=>LA_I K mg w m e Z H Q
inductive LH_I(K:PySem.W.Frag)(mg:ZV)(w:W)(m:Bool)(e:E)(Z:L2.St)(H:Hp)(Q:VK):Prop
 | mk(F G p a p')(Vg:Rel K mg F G p Z H)(Vb:Ol m e p (toT (ev w e p))=some (a,p'))(Jg:∀F' H' v,Le F F'->Up K H H'->Rel K mg F' G p' Z H'->Ar K mg F' Z H' a v->Q v H'):LH_I K mg w m e Z H Q
def LH(K:PySem.W.Frag)(mg:ZV)(w:W)(m:Bool)(e:E):TE:=fun Z H Q=>LH_I K mg w m e Z H Q
inductive LB_I(K:PySem.W.Frag)(mg:ZV)(w:W)(e:E)(Z:L2.St)(H:Hp)(Q:(Bool->Hp->Prop)):Prop
 | mk(F G p b p')(Vg:Rel K mg F G p Z H)(Vb:Gn (ev w e p)=some (b,p'))(Jg:∀F' H',Le F F'->Up K H H'->Rel K mg F' G p' Z H'->Q b H'):LB_I K mg w e Z H Q
def LB(K:PySem.W.Frag)(mg:ZV)(w:W)(e:E):TT:=fun Z H Q=>LB_I K mg w e Z H Q
def noStar:Expr->Bool
 | .Starred _ _=>false
 | _=>true
theorem Z1{e:Expr}{es:ZC}{env:Env}(h:noStar e=true):starEach (e::es) env=(false,eval e env)::starEach es env:=by
 cases e<;>first | rfl | cases h
theorem Ys:∀(es:ZC) (env:Env) (pos:Pos),(∀e∈es,noStar e=true)->(backTo pos (starEach es env)).any (·.1)=false
 | [],env,pos,h=>rfl
 | e::es,env,pos,h=>by
  rw[Z1 (h e Ye)];have:=Ys es env pos fun e m=>h e (Vi _ m);show (false || (backTo pos (starEach es env)).any (·.1))=false;rw[this];rfl
inductive Hs(X:Cx)(w:W)(m:Bool):E->ZC->Prop
 | nil:Hs X w m .nil []
 | cons {a r:E} {x:Expr} {xs:ZC} (h:PE X x (LH X.K X.mg w m a)) (s:noStar x=true) (t:Hs X w m r xs):Hs X w m (.cons a r) (x::xs)
section
variable{X:Cx}{w:W}{m:Bool}
theorem Hs.star:∀{es:E} {xs:ZC},Hs X w m es xs->∀x∈xs,noStar x=true
 | _,_,.nil,x,h=>absurd h Vy
 | _,_,.cons h s t,x,hx=>by
  rcases Y6.mp hx with rfl | hx
  .exact s
  .exact t.star x hx
theorem Zf{a r:E}{p:P}{as:List A}{p':P}(e:Jl w m (.cons a r) p=some (as,p')):∃a' p1 as',Ol m a p (toT (ev w a p))=some (a',p1)/\Jl w m r p1=some (as',p')/\as=a'::as':=by
 unfold Jl at e;cases e1:Ol m a p (toT (ev w a p)) with
 | none=>rw[e1]at e;cases e
 | some q =>
  rw[e1]at e;have e:(Jl w m r q.2).map (fun s=>(q.1::s.1,s.2))=some (as,p'):=e;cases e2:Jl w m r q.2 with
  | none=>rw[e2]at e;cases e
  | some s=>rw[e2]at e;cases e;exact⟨q.1,q.2,s.1,rfl,e2,rfl⟩
theorem Hs.pa:∀{es:E} {xs:ZC},Hs X w m es xs->PA X xs (LA X.K X.mg w m es)
 | _,_,.nil=>fun pos XY s Z H Q I h=>by
  obtain⟨F,G,p,as,p',rel,e,k⟩:=h;have e:some (([]:List A),p)=some (as,p'):=by cases m<;>exact e
  cases e;exact Mq pos XY s Z H Q I (k F H [] (Le.refl F) (Up.refl H) rel .nil)
 | .cons a r,_,.cons h s t=>fun pos XY s' Z H Q I hq=>by
  obtain⟨F,G,p,as,p',rel,e,k⟩:=hq;obtain⟨a',p1,as',e1,e2,rfl⟩:=Zf e;refine V3 h t.pa (Z1 s) pos XY s' Z H Q I ⟨F,G,p,a',p1,rel,e1,fun F1 H1 v l1 u1 r1 Vk=>⟨F1,G,p1,as',p',r1,e2,fun F2 H2 vs l2 u2 r2 Bx=>?_⟩⟩;exact k F2 H2 _ (l1.trans l2) (u1.trans u2) r2 (.cons (Ar.up u2 l2 Vk) Bx)
theorem Yp{p:P}{as:List A}{p':P}(e:Jl w m .nil p=some (as,p')):as=[]/\p'=p:=by
 have e:some (([]:List A),p)=some (as,p'):=by cases m<;>exact e
 cases e;exact⟨rfl,rfl⟩
theorem Zy{p:P}{a:A}{as:List A}{ts:ZZ}(e:looks p (a::as)=some ts):∃t r,look p a=some t/\looks p as=some r/\ts=t::r:=by
 unfold looks at e;cases e1:look p a with
 | none=>rw[e1]at e;cases e
 | some t =>
  rw[e1]at e;have e:(looks p as).map (t::·)=some ts:=e;cases e2:looks p as with
  | none=>rw[e2]at e;cases e
  | some r=>rw[e2]at e;cases e;exact⟨t,r,rfl,rfl,rfl⟩
variable{F G:Hp}{p:P}{Z:L2.St}{H:Hp}
theorem Wh{a:E}{as:List A}{ts:ZZ}{p':P}(e:Jl w m (.cons a .nil) p=some (as,p'))(el:looks p' as=some ts)(rel:Rel X.K X.mg F G p Z H){R:V->Hp->Prop}
  (k:∀F' H' x t,ts=[t]->Le F F'->Up X.K H H'->Rel X.K X.mg F' G p' Z H'->Tp X.K X.mg H' F' t x->R x H'):LH X.K X.mg w m a Z H R:=by
 obtain⟨a',p1,as',e1,e2,rfl⟩:=Zf e;obtain⟨rfl,rfl⟩:=Yp e2;obtain⟨t,r,l1,l2,rfl⟩:=Zy el;cases l2;exact⟨F,G,p,a',_,rel,e1,fun F1 H1 x Rn u1 r1 Vk=>k F1 H1 x t rfl Rn u1 r1 (r1.look l1 Vk)⟩
theorem Ws{a b:E}{as:List A}{ts:ZZ}{p':P}(e:Jl w m (.cons a (.cons b .nil)) p=some (as,p'))(el:looks p' as=some ts)(rel:Rel X.K X.mg F G p Z H){R:V->V->Hp->Prop}
  (k:∀F' H' x y t u,ts=[t,u]->Le F F'->Up X.K H H'->Rel X.K X.mg F' G p' Z H'->Tp X.K X.mg H' F' t x->Tp X.K X.mg H' F' u y->R x y H'):LH X.K X.mg w m a Z H fun x H1=>LH X.K X.mg w m b Z H1 fun y H2=>R x y H2:=by
 obtain⟨a',p1,as',e1,e2,rfl⟩:=Zf e;obtain⟨b',p2,as'',e3,e4,rfl⟩:=Zf e2;obtain⟨rfl,rfl⟩:=Yp e4;obtain⟨t,r,l1,l2,rfl⟩:=Zy el;obtain⟨u,r,l3,l4,rfl⟩:=Zy l2;cases l4;exact⟨F,G,p,a',p1,rel,e1,fun F1 H1 x Rn u1 r1 Vk=>⟨F1,G,p1,b',_,r1,e3,fun F2 H2 y W0 u2 r2 Bx=>k F2 H2 x y t u rfl (Rn.trans W0) (u1.trans u2) r2 (r2.look l1 (Ar.up u2 W0 Vk)) (r2.look l3 Bx)⟩⟩
theorem readN{es:E}{as:List A}{ts:ZZ}{p':P}(e:Jl w m es p=some (as,p'))(el:looks p' as=some ts)(rel:Rel X.K X.mg F G p Z H){R:ZQ->Hp->Prop}
  (k:∀F' H' vs,Le F F'->Up X.K H H'->Rel X.K X.mg F' G p' Z H'->Paired (Tp X.K X.mg H' F') ts vs->R vs H'):LA X.K X.mg w m es Z H R :=
 ⟨F,G,p,as,p',rel,e,fun F' H' vs l u r ar=>k F' H' vs l u r (r.looks el ar)⟩
end
theorem Ng{K:W.Frag}{mg:ZV}{F H:Hp}{Z:L2.St}{p:P}:∀{as:List A} {vs:ZQ} {ts:ZZ},(∀a∈as,∃t,a=.t t)->looks p as=some ts->Ars K mg F Z H as vs->Zx K mg H F ts vs
 | [],_,ts,_,e,.nil=>by cases e;rfl
 | a::as,_,ts,ha,e,.cons h t=>by
  obtain⟨u,r,l1,l2,rfl⟩:=Zy e;obtain⟨u',rfl⟩:=ha a Ye;cases l1;exact⟨_,_,rfl,h,Ng (fun a m=>ha a (Vi _ m)) l2 t⟩
def opOf:Op->Operator
 | .add=>.Add
 | .sub=>.Sub
 | .mul=>.Mult
 | .fdiv=>.FloorDiv
 | .mod=>.Mod
 | .pow=>.Pow
noncomputable def Di:Cm->CmpOp
 | .eq=>.Eq
 | .ne=>.NotEq
 | .lt=>.Lt
 | .le=>.LtE
 | .gt=>.Gt
 | .ge=>.GtE
 | .isin=>.In
 | .notin=>.NotIn
 | .is=>.Is
 | .isnt=>.IsNot
section
variable{K:W.Frag}{mg:ZV}{H F G:Hp}
theorem M7{t:T}{v:V}(h:IsT K mg H F t v)(e:Bc t=true):Bt v=true/\shV t=v:=by
 cases t<;>first
  | (cases(show v=_ from h);exact⟨rfl,rfl⟩)
  | cases e
theorem Ft{t:T}{v:V}(h:Tp K mg H F t v)(e:Bc t=true):IsT K mg H F t v:=by
 cases t<;>first | exact h | cases e
theorem Qv{a b:T}{r:Bool}(h:eqT a b=some r):Bc a=true/\Bc b=true/\r=nh (shV a) (shV b):=by
 unfold eqT at h
 split at h
 .cases h;exact⟨rfl,rfl,(Bool.beq_eq_decide_eq _ _).symm⟩
 .cases h;exact⟨rfl,rfl,(Bool.beq_eq_decide_eq _ _).symm⟩
 .split at h
  .rename_i f;cases h;exact⟨f.1,f.2,rfl⟩
  .cases h
theorem m5{A:Around}{s:Shared}{a b:T}{r:Bool}{x y:V}{v u:Value}(h:eqT a b=some r)(i1:IsT K mg H F a x)(i2:IsT K mg H F b y)(rx:RelV x v)(ry:RelV y u):SeqAt.EqAt A s v u r/\SeqAt.RcAt A s v u r/\SeqAt.RcNeAt A s v u (!r):=by
 obtain⟨fa,fb,rfl⟩:=Qv h;obtain⟨f1,e1⟩:=M7 i1 fa;obtain⟨f2,e2⟩:=M7 i2 fb;rw[e1,e2];exact⟨eqAt_V rx ry f1 f2,rcEq_V rx ry f1 f2,rcNe_V rx ry f1 f2⟩
theorem Qy{A:Around}{s:Shared}:∀{as bs:ZZ} {vs ws:ZQ} {us zs:ZM} {r:Bool},Ka as bs=some r->Zx K mg H F as vs->Zx K mg H F bs ws->Zk vs us->Zk ws zs ->
  ∃e:Nat->Bool,(∀(j:Nat) (h1:j<us.length) (h2:j<zs.length),SeqAt.EqAt A s us[j] zs[j] (e j))/\((List.range (min us.length zs.length)).all e && us.length == zs.length)=r
 | [],[],vs,ws,us,zs,r,h,a1,a2,r1,r2=>by
  cases(show vs=[] from a1);cases(show ws=[] from a2);cases r1;cases r2;cases h;exact⟨fun _=>true,fun j h1=>absurd h1 (Nat.not_lt_zero j),rfl⟩
 | [],c::cs,vs,ws,us,zs,r,h,a1,a2,r1,r2=>by
  cases(show vs=[] from a1);obtain⟨y,w,rfl,_⟩:=a2;cases r1;cases r2;cases h;exact⟨fun _=>true,fun j h1=>absurd h1 (Nat.not_lt_zero j),rfl⟩
 | c::cs,[],vs,ws,us,zs,r,h,a1,a2,r1,r2=>by
  cases(show ws=[] from a2);obtain⟨y,w,rfl,_⟩:=a1;cases r1;cases r2;cases h;exact⟨fun _=>true,fun j _ h2=>absurd h2 (Nat.not_lt_zero j),rfl⟩
 | c::cs,d::ds,vs,ws,us,zs,r,h,a1,a2,r1,r2=>by
  obtain⟨x1,vr,rfl,i1,a1⟩:=a1;obtain⟨y1,wr,rfl,i2,a2⟩:=a2;cases r1 with | @cons _ u _ us q1 r1 =>
  cases r2 with | @cons _ z _ zs q2 r2 =>
  obtain⟨x,e1,h⟩:=ZO.mp (show (eqT c d).bind _=some r from h);obtain⟨b',e2,rfl⟩:=Yk.mp h;obtain⟨e,g1,g2⟩:=Qy e2 a1 a2 r1 r2;refine⟨fun j=>match j with | 0=>x | j+1=>e j,fun j h1 h2=>?_, ?_⟩
  .cases j with
   | zero=>exact(m5 e1 i1 i2 q1 q2).1
   | succ j=>exact g1 j (Nat.lt_of_succ_lt_succ h1) (Nat.lt_of_succ_lt_succ h2)
  .show ((List.range (min (us.length+1) (zs.length+1))).all _ && us.length+1 == zs.length+1)=_;rw[show min (us.length+1) (zs.length+1)=min us.length zs.length+1 by omega,List.range_succ_eq_map,List.all_cons,List.all_map,Bool.and_assoc,show (us.length+1 == zs.length+1)=(us.length == zs.length) by rw[Bool.eq_iff_iff];simp, <-g2]
   rfl
theorem Z0.val(k:Key):∀{XG:ZX} {ks:List (Key×V)},Z0 K mg H F XG ks->(∀t,Y2 XG k=some t->∃v,Dh ks k=some v/\IsT K mg H F t v)/\(Y2 XG k=none->Dh ks k=none)
 | [],ks,h=>by cases(show ks=[] from h);exact⟨(fun t e=>by cases e),fun _=>rfl⟩
 | (k',t)::XG,ks,h=>by
  obtain⟨⟨k2,v⟩,r,rfl,⟨e,h1⟩,h2⟩:=h;obtain rfl:k2=k':=e;obtain⟨i1,i2⟩:=Z0.val k h2;unfold Y2;rw[List.find?_cons];by_cases q:k2=k
  .rw[Ub q,Ml (show (k2,v).1=k from q)];exact⟨fun t' e=>by cases e;exact⟨v,rfl,h1⟩,fun e=>nomatch e⟩
  .rw[Dj q,Mr (show ¬ (k2,v).1=k from q)];exact⟨i1,i2⟩
theorem Tw{t:T}{k:Key}{v:V}(e:keyT t=some k)(h:Tp K mg H F t v):v=kV k:=by
 cases t with
 | int i=>cases e;exact h
 | str i=>cases e;exact h
 | _=>cases e
theorem Zx.ints:∀{ts:ZZ} {vs:ZQ} {zs:ZL},Zx K mg H F ts vs->Ob ts=some zs->vs=zs.map V.int
 | [],vs,zs,h,e=>by cases e;exact h
 | t::ts,vs,zs,h,e=>by
  obtain⟨v,r,rfl,q,w⟩:=h;cases t with
  | int i =>
   obtain⟨zs',e1,rfl⟩:=Yk.mp (show (Ob ts).map (i::·)=some zs from e);rw[Zx.ints w e1];cases(show v=.int i from q)
   rfl
  | _=>cases e
theorem Zx.strs:∀{ts:ZZ} {vs:ZQ} {zs:ZD},Zx K mg H F ts vs->Uw ts=some zs->vs=zs.map V.str
 | [],vs,zs,h,e=>by cases e;exact h
 | t::ts,vs,zs,h,e=>by
  obtain⟨v,r,rfl,q,w⟩:=h;cases t with
  | str i =>
   obtain⟨zs',e1,rfl⟩:=Yk.mp (show (Uw ts).map (i::·)=some zs from e);rw[Zx.strs w e1];cases(show v=.str i from q)
   rfl
  | _=>cases e
end
theorem le_not(i j:Int):decide (i<=j)=!decide (j<i):=by rw[<-decide_not];exact decide_eq_decide.mpr Int.not_lt.symm
section
variable{X:Cx}{XY:ZY}{Z:L2.St}{H F G:Hp}{s:Shared}{Q:VK}{x y:V}{v u:Value}{t t':T}
theorem bz{A:Around}(rx:RelV x v)(s1:IsT X.K X.mg H F t x):∀{ts:ZZ} {vs:ZQ} {us:ZM} {r:Bool},Zx X.K X.mg H F ts vs->Zk vs us->Bu t ts=some r->(∀u∈us,SeqAt.EqAt A s u v (eqU x u))/\us.any (eqU x)=r
 | [],vs,us,r,h,q,e=>by cases(show vs=[] from h);cases q;cases e;exact⟨fun u m=>absurd m Vy,rfl⟩
 | t1::ts,vs,us,r,h,q,e=>by
  obtain⟨y,w,rfl,h1,h2⟩:=h;cases q with | @cons _ u1 _ _ q1 q2 =>
  obtain⟨b,e1,e⟩:=ZO.mp (show (eqT t1 t).bind _=some r from e);obtain⟨r',e2,rfl⟩:=Yk.mp e;obtain⟨g1,g2⟩:=bz rx s1 h2 q2 e2
  have eb:eqU x u1=b:=by
   obtain⟨fa,fb,rfl⟩:=Qv e1;obtain⟨f1,e3⟩:=M7 h1 fa;rw[eqU_of q1 f1,e3,(M7 s1 fb).2]
  refine⟨fun u m=>?_,by rw[List.any_cons,eb,g2]⟩;rcases Y6.mp m with rfl | m
  .rw[eb];exact(m5 e1 h1 s1 q1 rx).1
  .exact g1 u m
theorem bj{ts:ZZ}{vs:ZQ}{p:Addr}{b:Bool}(I:Inv X XY Z H s)(rx:RelV x v)(s1:Tp X.K X.mg H F t x)(ar:Zx X.K X.mg H F ts vs)(hq:Ud X.K H p vs\/Vc X.K H p vs)(e:inF t ts=some b) :
  (Q (.bl b) H->wpAny (model X.prog X.w) X.A (compareOp .In v (.ref p)) (EP X XY Z Q) X.xe s)/\(Q (.bl (!b)) H->wpAny (model X.prog X.w) X.A (compareOp .NotIn v (.ref p)) (EP X XY Z Q) X.xe s):=by
 have go:∀{us:ZM},Zk vs us->(∀u∈us,SeqAt.EqAt X.A.in1 s u v (eqU x u))/\us.any (eqU x)=b:=fun {us} r=>by
  unfold inF at e
  split at e
  .rename_i hf;exact bz rx (Ft s1 hf) ar r e
  .cases e
 rcases hq with hq | hq
 .obtain⟨its,r,pl,_⟩:=I.list hq;obtain⟨g1,rfl⟩:=go r;exact⟨fun q=>SeqAt.in_listAt _ pl.isList (fun y m=>g1 y (by simpa using m)) ⟨.bl _,H,I,rfl,by rw[List.any_toArray];exact q⟩,fun q=>SeqAt.notIn_listAt _ pl.isList (fun y m=>g1 y (by simpa using m)) ⟨.bl _,H,I,rfl,by rw[List.any_toArray];exact q⟩⟩
 .obtain⟨its,r,pl,_⟩:=I.tuple hq;obtain⟨g1,rfl⟩:=go r;exact⟨fun q=>SeqAt.in_tupleAt _ pl (fun y m=>g1 y (by simpa using m)) ⟨.bl _,H,I,rfl,by rw[List.any_toArray];exact q⟩,fun q=>SeqAt.notIn_tupleAt _ pl (fun y m=>g1 y (by simpa using m)) ⟨.bl _,H,I,rfl,by rw[List.any_toArray];exact q⟩⟩
theorem rcC{r:Bool}(I:Inv X XY Z H s)(hu:X.A.units<cLine)(rx:RelV x v)(ry:RelV y u)(s1:Tp X.K X.mg H F t x)(s2:Tp X.K X.mg H F t' y)(h:eqC t t'=some r):SeqAt.RcAt X.A s v u r/\SeqAt.RcNeAt X.A s v u (!r):=by
 unfold eqC at h
 split at h
 .obtain⟨p,vs,rfl,Y3,_,av⟩:=s1;obtain⟨q,ws,rfl,sq2,_,aw⟩:=s2;cases rx;cases ry;obtain⟨its,rv,tp,_⟩:=I.tuple Y3;obtain⟨zs,rz,tq,_⟩:=I.tuple sq2;obtain⟨e,g1,g2⟩:=Qy (A:=X.A.in1) (s:=s) h av aw rv rz;rw[<-g2];exact⟨SeqAt.RcAt.tuples (A:=X.A) (e:=e) (show s.heap.IsTuple p its.toArray from tp) (show s.heap.IsTuple q zs.toArray from tq) hu (fun j h1 h2=>g1 j (by simpa using h1) (by simpa using h2)),SeqAt.RcNeAt.tuples (A:=X.A) (e:=e) (show s.heap.IsTuple p its.toArray from tp) (show s.heap.IsTuple q zs.toArray from tq) hu (fun j h1 h2=>g1 j (by simpa using h1) (by simpa using h2))⟩
 .obtain⟨p,vs,rfl,Y3,_,av⟩:=s1;obtain⟨q,ws,rfl,sq2,_,aw⟩:=s2;cases rx;cases ry;obtain⟨its,rv,tp,_⟩:=I.list (.inl Y3);obtain⟨zs,rz,tq,_⟩:=I.list (.inl sq2);obtain⟨e,g1,g2⟩:=Qy (A:=X.A.in1) (s:=s) h av aw rv rz;by_cases el:its.length=zs.length
  .rw[el,Nat.min_self,B0s,Bool.and_true]at g2;rw[<-g2, <-el];exact⟨SeqAt.RcAt.lists (A:=X.A) (e:=e) tp.isList tq.isList (by simpa using el) hu (fun j h1 h2=>g1 j (by simpa using h1) (by simpa using h2)),SeqAt.RcNeAt.lists (A:=X.A) (e:=e) tp.isList tq.isList (by simpa using el) hu (fun j h1 h2=>g1 j (by simpa using h1) (by simpa using h2))⟩
  .rw[B0n.mpr el,Bool.and_false]at g2;subst g2;exact⟨SeqAt.RcAt.lists_lengths tp.isList tq.isList (by simpa using el) hu,SeqAt.RcNeAt.lists_lengths tp.isList tq.isList (by simpa using el) hu⟩
 .split at h
  .rename_i fa
   cases h;obtain⟨q,ws,rfl,sq2,_,aw⟩:=s2;cases ry;obtain⟨zs,rz,tq,_⟩:=I.tuple sq2;obtain⟨fx,_⟩:=M7 (Ft s1 fa) fa;cases x with
   | non=>cases rx;exact⟨.none_tuple tq hu,.none_tuple tq hu⟩
   | bl b=>cases rx;exact⟨.bool_tuple b tq hu,.bool_tuple b tq hu⟩
   | int b=>obtain⟨t,rfl⟩:=rx;exact⟨.int_tuple b t tq hu,.int_tuple b t tq hu⟩
   | str b=>obtain⟨t,rfl⟩:=rx;exact⟨.str_tuple b t tq hu,.str_tuple b t tq hu⟩
   | _=>cases fx
  .cases h
 .obtain⟨fa,fb,_⟩:=Qv h;exact(m5 h (Ft s1 fa) (Ft s2 fb) rx ry).2
theorem N9{b:Bool}(c:Cm)(I:Inv X XY Z H s)(fh:∀a o,F a=some o->H a=some o)(un:X.A.units+150<cLine)(rx:RelV x v)(ry:RelV y u)(s1:Tp X.K X.mg H F t x)(s2:Tp X.K X.mg H F t' y)(e:Ww c t t'=some b)(q:Q (.bl b) H) :
  wpAny (model X.prog X.w) X.A (compareOp (Di c) v u) (EP X XY Z Q) X.xe s:=by
 have pIn:∀{b:Bool},inT t t'=some b->(Q (.bl b) H->wpAny (model X.prog X.w) X.A (compareOp .In v u) (EP X XY Z Q) X.xe s)/\(Q (.bl (!b)) H->wpAny (model X.prog X.w) X.A (compareOp .NotIn v u) (EP X XY Z Q) X.xe s):=fun {b} e=>by
  unfold inT at e
  split at e
  .obtain⟨a,vs,rfl,q1,z,ar⟩:=s2;cases ry;exact bj I rx s1 ar (.inl (.inl q1)) e
  .obtain⟨a,vs,rfl,q1,z,ar⟩:=s2;cases ry;exact bj I rx s1 ar (.inr q1) e
  .rename_i XG _
   obtain⟨a,ks,rfl,q1,z,ar⟩:=s2;obtain⟨k,e1,rfl⟩:=Yk.mp e;cases Tw e1 s1;cases ry;have hu:X.A.units+1<cLine:=by omega
   have g:B7 H a (kV k) (Dh ks k):=.inl ⟨ks,k,q1,rfl,rfl⟩;obtain⟨i1,i2⟩:=Z0.val k ar
   have es:(Dh ks k).isSome=(Y2 XG k).isSome:=by
    cases e2:Y2 XG k with
    | none=>rw[i2 e2];rfl
    | some t=>obtain⟨v,h1,_⟩:=i1 t e2;rw[h1];rfl
   exact⟨fun q=>d_in hu I g rx fun s' I'=>⟨.bl _,H,I',rfl,by rw[es];exact q⟩,fun q=>Zze hu I g rx fun s' I'=>⟨.bl _,H,I',rfl,by rw[es];exact q⟩⟩
  .unfold Zx7 at e
   split at e
   .cases e;cases(show x=_ from s1);cases(show y=_ from s2);exact⟨fun q=>zb XY s Z H _ _ v u Q I rx ry ⟨_,_,rfl,rfl,q⟩,fun q=>L9 XY s Z H _ _ v u Q I rx ry ⟨_,_,rfl,rfl,q⟩⟩
   .cases e
  .cases e
 have pIs:∀{b:Bool},isT t t'=some b->(Q (.bl b) H->wpAny (model X.prog X.w) X.A (compareOp .Is v u) (EP X XY Z Q) X.xe s)/\(Q (.bl (!b)) H->wpAny (model X.prog X.w) X.A (compareOp .IsNot v u) (EP X XY Z Q) X.xe s):=fun {b} e=>by
  unfold isT at e
  split at e
  .cases e;cases(show x=_ from s1);cases(show y=_ from s2);exact⟨fun q=>gj XY s Z H _ _ v u Q I rx ry ⟨rfl,q⟩,fun q=>Aa XY s Z H _ _ v u Q I rx ry ⟨rfl,q⟩⟩
  .rename_i n1 n2
   cases e;cases(show y=_ from s2)
   have ne:x≠.non:=fun z=>by
    subst z;cases t with
    | non=>first | exact n1 rfl | exact n2 rfl
    | tup _=>obtain⟨_,_,z,_⟩:=s1;cases z
    | lst _=>obtain⟨_,_,z,_⟩:=s1;cases z
    | dct _=>obtain⟨_,_,z,_⟩:=s1;cases z
    | fn _=>obtain⟨_,z,_⟩:=s1;cases z
    | _=>cases(show V.non=_ from s1)
   exact⟨fun q=>gj XY s Z H _ _ v u Q I rx ry ⟨rfl,by rw[Dj ne];exact q⟩,fun q=>Aa XY s Z H _ _ v u Q I rx ry ⟨rfl,by rw[Dj ne];exact q⟩⟩
  .cases e
 cases c with
 | eq=>exact(rcC I (by omega) rx ry s1 s2 e).1 X.prog X.w X.xe _ ⟨.bl _,H,I,rfl,q⟩
 | ne =>
  have e:(eqC t t').map not=some b:=e;obtain⟨r,e1,rfl⟩:=Yk.mp e;exact(rcC I (by omega) rx ry s1 s2 e1).2 X.prog X.w X.xe _ ⟨.bl _,H,I,rfl,q⟩
 | lt =>
  have e:iz t t'=some b:=e;unfold iz at e
  split at e
  .cases e;cases(show x=_ from s1);cases(show y=_ from s2);exact op_lt XY s Z H _ _ v u Q I rx ry ⟨_,_,rfl,rfl,q⟩
  .cases e
 | gt =>
  have e:iz t' t=some b:=e;unfold iz at e
  split at e
  .cases e;cases(show x=_ from s1);cases(show y=_ from s2);exact op_gt XY s Z H _ _ v u Q I rx ry ⟨_,_,rfl,rfl,q⟩
  .cases e
 | le =>
  have e:(iz t' t).map not=some b:=e;obtain⟨b',e2,rfl⟩:=Yk.mp e
  clear e
  unfold iz at e2
  split at e2
  .cases e2;cases(show x=_ from s1);cases(show y=_ from s2);refine op_le XY s Z H _ _ v u Q I rx ry ⟨_,_,rfl,rfl, ?_⟩;exact(le_not _ _).symm ▸ q
  .cases e2
 | ge =>
  have e:geT t t'=some b:=e;unfold geT at e
  split at e
  .cases e;cases(show x=_ from s1);cases(show y=_ from s2);exact op_ge XY s Z H _ _ v u Q I rx ry ⟨_,_,rfl,rfl,q⟩
  .cases e
 | isin=>exact(pIn e).1 q
 | notin =>
  have e:(inT t t').map not=some b:=e;obtain⟨b',e2,rfl⟩:=Yk.mp e;exact(pIn e2).2 q
 | is=>exact(pIs e).1 q
 | isnt =>
  have e:(isT t t').map not=some b:=e;obtain⟨b',e2,rfl⟩:=Yk.mp e;exact(pIs e2).2 q
end
section
variable{X:Cx}{XY:ZY}{Z:L2.St}{H F₀ G:Hp}{s:Shared}{Q:VK}{x y:V}{v u:Value}{t t':T}{p:P}
theorem iq{l:Addr}{xs:ZQ}(I:Inv X XY Z H s)(r:Rd H l (.lst xs)):xs.length<=sizeLine/\∃(its:ZM) (n:Nat),Zk xs its/\xs.length=its.length/\s.heap.get? l=some { cls:=.type "list",data:=.seq its.toArray n }:=by
 obtain⟨z,its,n,r,e⟩:=r.ok I.hok;exact⟨z,its,n,r,r.length,e⟩
theorem oj{l b:Addr}{xs zs:ZQ}(I:Inv X XY Z H s)(hH:Rd H l (.lst xs))(hB:Rd H b (.lst zs))(hz:xs.length+zs.length<=sizeLine)(q:∀p,H p=none->Q (.ref p) (upd H p (.lst (xs++zs)))) :
  wpAny (model X.prog X.w) X.A (binaryOp .Add (.ref l) (.ref b)) (EP X XY Z Q) X.xe s:=by
 obtain⟨z,its,n,r,hl,e⟩:=iq I hH;obtain⟨z2,Of,n2,r2,bp,e2⟩:=iq I hB;refine PySem.P.add_list e e2 ?_ (by rw[Jz,Jz];omega);have ea:its.toArray++Of.toArray=(its++Of).toArray:=by simp
 rw[ea];exact⟨.ref _,_,I.lnew (t':=s.toks) (r.append r2) (by rw[Yl];omega),rfl,q _ I.fresh⟩
theorem a9{l:Addr}{xs:ZQ}{k:Int}{w:Tok}(I:Inv X XY Z H s)(hH:Rd H l (.lst xs))(h1:-(2 ^ 63)<=k)(h2:k<2 ^ 63)(hz:xs.length * k.toNat<=sizeLine)(q:∀p,H p=none->Q (.ref p) (upd H p (.lst (List.replicate k.toNat xs).flatten))) :
  wpAny (model X.prog X.w) X.A (binaryOp .Mult (.ref l) (.int k w)) (EP X XY Z Q) X.xe s:=by
 obtain⟨z,its,n,r,hl,e⟩:=iq I hH;have hlen:its.toArray.size * k.toNat<=sizeLine:=by rw[Jz, <-hl];exact hz
 have hcap:¬ its.toArray.size * k.toNat>(2 ^ 63 - 1) / 8:=by
  have:(sizeLine:Nat)<=(2 ^ 63 - 1) / 8:=by decide
  omega
 have hfit:¬ (!Builtin.List.listFitsIndex k)=true:=by
  rw[fitsIndex_both h1 h2];exact Nt
 have bh:¬ Builtin.List.listTooLong (its.toArray.size * k.toNat)=true:=by
  rw[Ox hlen];exact Nt
 have hnew:List.foldl (fun x1 x2=>x1++x2) #[] (List.replicate (if its.toArray.isEmpty=true then 0 else k.toNat) its.toArray)=(List.replicate k.toNat its).flatten.toArray:=by
  have f0:∀m:Nat,List.foldl (fun x1 x2=>x1++x2) #[] (List.replicate m its.toArray)=(List.replicate m its).flatten.toArray:=fun m=>by
   have:=foldl_rep its m [];rw[List.nil_append]at this;exact this
  rw[f0];cases its with
  | nil=>simp
  | cons a r'=>rw[if_neg (by simp)]
 refine wpAny_binaryOp_repeat_ref (T:="list") (U:="int") (by decide) ⟨_,e,rfl⟩ (fun s'=>typeIs_int s' k w) noFill_list_mul F.fills_int_mul F.slot_int_rmul repeat_list F.slot_int_index.lookup
  (call_meets F.slot_int_rmul (typeIs_int s k w) F.entry_int_rmul (F.args_int_rmul_2 _ _) (int___rmul___int_list k w l its.toArray n)
   ⟨e,rfl,⟨_,e,rfl⟩,call_meets F.slot_list_mul ⟨_,e,rfl⟩ F.entry_list_mul (F.args_list_mul_2 _ _) (AutoListH.list___mul___list_int_3 l its.toArray n k w hfit hcap bh) ⟨e, ?_⟩⟩)
 rw[hnew];exact⟨.ref _,_,I.lnew (t':=s.toks) (r.rep k.toNat) (by rw[len_rep,Nat.mul_comm];exact hz),rfl,q _ I.fresh⟩
theorem gq{i:Str}{n:Int}{w w':Tok}(I:Inv X XY Z H s)(n0:0<=n)(n1:n<=1000)(i1:i.length<=1000)(q:Q (.str (repS i n.toNat)) H):wpAny (model X.prog X.w) X.A (binaryOp .Mult (.str i w) (.int n w')) (EP X XY Z Q) X.xe s:=by
 by_cases c1:n<1
 .have:n=0:=by omega
  subst this;refine PySem.P.mul_str_none (by decide) (by decide) ⟨.str Str.empty,H,I.tok _,⟨_,rfl⟩, ?_⟩;exact q
 by_cases c2:(n == 1 || i.length == 0)=true
 .have e:repS i n.toNat=i:=by
   rw[Bool.or_eq_true,beq_iff_eq,beq_iff_eq]at c2
   have:(repS i n.toNat).cps.toList=i.cps.toList:=by
    rw[T9];rcases c2 with rfl | c2
    .simp
    .have:i.cps.toList=[]:=by
      have:i.cps.size=0:=c2;exact List.eq_nil_of_length_eq_zero (by simpa using this)
     rw[this];simp
   cases i;cases hr:repS _ n.toNat;rw[hr]at this;simp at this;simp[this]
  rw[e]at q;refine PySem.P.mul_str ?_ (fun _ z=>?_) (fun _ z=>?_) ?_
  .rw[Bool.or_eq_false_iff];exact⟨Dj (by omega),Dj (by omega)⟩
  .rw[c2]at z;cases z
  .rw[c2]at z;cases z
  .rw[if_neg c1,if_pos c2];exact⟨.str i,H,I,⟨_,rfl⟩,q⟩
 .rw[Bool.or_eq_true,beq_iff_eq,beq_iff_eq]at c2;exact a8 XY s Z H (.str i) (.int n) _ _ Q I ⟨w,rfl⟩ ⟨w',rfl⟩ ⟨i,n,rfl,rfl,by omega,n1,fun z=>c2 (.inr z),i1,q⟩
theorem Zx.flat{K:W.Frag}{mg:ZV}{ts:ZZ}{vs:ZQ}(h:Zx K mg H F ts vs):∀n:Nat,Zx K mg H F (List.replicate n ts).flatten (List.replicate n vs).flatten
 | 0=>rfl
 | n+1=>by
  rw[List.replicate_succ,List.replicate_succ,List.flatten_cons,List.flatten_cons];exact h.append (Zx.flat h n)
def Fin(X:Cx)(F G:Hp)(p:P)(Z:L2.St)(H:Hp)(r:Sl)(Q:VK):Prop:=∀F' H' v,Le F F'->Up X.K H H'->Rel X.K X.mg F' G p Z H'->Res X.K X.mg F' G p Z H' r v->Q v H'
theorem Fin.f{r:T}(k:Fin X F G p Z H (.f r) Q)(rel:Rel X.K X.mg F G p Z H){H':Hp}{v:V}(s:Zp H H')(h:IsT X.K X.mg H' F r v):Q v H':=k F H' v (Le.refl F) s.up (rel.same s) h
theorem Fin.h{r:T}(k:Fin X F G p Z H (.f r) Q)(rel:Rel X.K X.mg F G p Z H){v:V}(h:IsT X.K X.mg H F r v):Q v H:=k.f rel (Zp.refl H) h
theorem Fin.l{ts:ZZ}(k:Fin X F G p Z H (.o (.lst ts)) Q)(rel:Rel X.K X.mg F G p Z H){l:Addr}{vs:ZQ}(hl:H l=none)(z:vs.length<=sizeLine)(h:Zx X.K X.mg H F ts vs):Q (.ref l) (upd H l (.lst vs)) :=
 let ⟨a,b⟩:=rel.newL hl z h
 k F _ _ (Le.refl F) (Zp.lay hl).up a b
theorem Me{f:Int->Int->Option Sl}{t t':T}{r:Sl}(e:fe f t t'=some r):∃a b,t=.int a/\t'=.int b/\f a b=some r:=by
 cases t with
 | int a=>cases t' with
  | int b=>exact⟨a,b,rfl,rfl,e⟩
  | _=>cases e
 | _=>cases e
theorem Je{c:Prop}[Decidable c]{x r:Sl}(e:(if c then some x else none)=some r):c/\x=r:=by
 by_cases h:c
 .rw[if_pos h]at e;exact⟨h,D8 e⟩
 .rw[if_neg h]at e;cases e
theorem op_run{r:Sl}{σ':L2.St}(o:Op)(I:Inv X XY σ' H s)(rel:Rel X.K X.mg F G p Z H)(rx:RelV x v)(ry:RelV y u)(s1:Tp X.K X.mg H F t x)(s2:Tp X.K X.mg H F t' y)(e:opT o t t'=some r)(q:Fin X F G p Z H r Q) :
  wpAny (model X.prog X.w) X.A (binaryOp (opOf o) v u) (EP X XY σ' Q) X.xe s:=by
 cases o with
 | add=>cases t with
  | int a=>cases t' with
   | int b =>
    cases e;cases(show x=_ from s1);cases(show y=_ from s2);exact op_add XY s σ' H _ _ v u Q I rx ry ⟨_,_,rfl,rfl,q.h rel rfl⟩
   | _=>cases e
  | str a=>cases t' with
   | str b =>
    obtain⟨hz,rfl⟩:=Je e;cases(show x=_ from s1);cases(show y=_ from s2);exact Kj XY s σ' H _ _ v u Q I rx ry ⟨_,_,rfl,rfl,hz,q.h rel rfl⟩
   | _=>cases e
  | lst a=>cases t' with
   | lst b =>
    obtain⟨hz,rfl⟩:=Je e;obtain⟨a,vs,rfl,h1,z1,Vk⟩:=s1;obtain⟨b,us,rfl,h2,z2,Bx⟩:=s2;cases rx;cases ry;have l1:=Vk.length;have l2:=Bx.length;exact oj I h1 h2 (by omega) fun l hl=>q.l rel hl (by rw[Yl];omega) (Vk.append Bx)
   | _=>cases e
  | tup a=>cases t' with
   | tup b =>
    obtain⟨hz,rfl⟩:=Je e;obtain⟨a,vs,rfl,h1,z1,Vk⟩:=s1;obtain⟨b,us,rfl,h2,z2,Bx⟩:=s2;have l1:=Vk.length;have l2:=Bx.length;exact og XY s σ' H _ _ v u Q I rx ry ⟨a,b,vs,us,rfl,rfl,h1,h2,by omega,fun l H' sm hq=>q.f rel sm ⟨l,_,rfl,hq,by rw[Yl];omega,(Zx.up sm.up (Le.refl F) _ _ Vk).append (Zx.up sm.up (Le.refl F) _ _ Bx)⟩⟩
   | _=>cases e
  | bl a=>cases t' with
   | int b =>
    cases e;cases(show x=_ from s1);cases(show y=_ from s2);exact TNM.zm XY s σ' H _ _ v u Q I rx ry ⟨_,_,rfl,rfl,q.h rel rfl⟩
   | _=>cases e
  | _=>cases e
 | sub =>
  obtain⟨a,b,rfl,rfl,e⟩:=Me e;cases e;cases(show x=_ from s1);cases(show y=_ from s2);exact op_sub XY s σ' H _ _ v u Q I rx ry ⟨_,_,rfl,rfl,q.h rel rfl⟩
 | mul=>cases t with
  | int a=>cases t' with
   | int b =>
    obtain⟨hz,rfl⟩:=Je e;cases(show x=_ from s1);cases(show y=_ from s2);exact op_mul XY s σ' H _ _ v u Q I rx ry ⟨_,_,rfl,rfl,hz,q.h rel rfl⟩
   | _=>cases e
  | str a=>cases t' with
   | int b =>
    obtain⟨hz,rfl⟩:=Je e;cases(show x=_ from s1);cases(show y=_ from s2);obtain⟨_,rfl⟩:=rx;obtain⟨_,rfl⟩:=ry;exact gq I hz.1 hz.2.1 hz.2.2 (q.h rel rfl)
   | _=>cases e
  | lst a=>cases t' with
   | int b =>
    obtain⟨hz,rfl⟩:=Je e;cases(show y=_ from s2);obtain⟨a,vs,rfl,h1,z1,Vk⟩:=s1;cases rx;obtain⟨_,rfl⟩:=ry;have l1:=Vk.length;exact a9 I h1 hz.1 hz.2.1 (by rw[<-l1];exact hz.2.2) fun l hl=>q.l rel hl (by rw[len_rep, <-l1,Nat.mul_comm];exact hz.2.2) (Vk.flat _)
   | _=>cases e
  | _=>cases e
 | fdiv =>
  obtain⟨a,b,rfl,rfl,e⟩:=Me e;obtain⟨hz,rfl⟩:=Je e;cases(show x=_ from s1);cases(show y=_ from s2);exact oz XY s σ' H _ _ v u Q I rx ry ⟨_,_,rfl,rfl,hz,q.h rel rfl⟩
 | mod =>
  obtain⟨a,b,rfl,rfl,e⟩:=Me e;obtain⟨hz,rfl⟩:=Je e;cases(show x=_ from s1);cases(show y=_ from s2);exact op_mod XY s σ' H _ _ v u Q I rx ry ⟨_,_,rfl,rfl,hz,q.h rel rfl⟩
 | pow =>
  obtain⟨a,b,rfl,rfl,e⟩:=Me e;obtain⟨hz,rfl⟩:=Je e;cases(show x=_ from s1);cases(show y=_ from s2);exact op_pow XY s σ' H _ _ v u Q I rx ry ⟨_,_,rfl,rfl,hz,q.h rel rfl⟩
end
section
variable{K:W.Frag}{mg:ZV}{H F G:Hp}
theorem Z0.map{k:Key}{t:T}{v:V}(h:IsT K mg H F t v):∀{XG:ZX} {ks:List (Key×V)},Z0 K mg H F XG ks->Z0 K mg H F (XG.map fun p=>if p.1=k then (p.1,t) else p) (ks.map fun p=>if p.1=k then (p.1,v) else p)
 | [],ks,a=>by cases(show ks=[] from a);rfl
 | (k',t')::XG,ks,a=>by
  obtain⟨⟨k2,v'⟩,r,rfl,⟨e,h1⟩,h2⟩:=a;obtain rfl:k2=k':=e;rw[Vm,Vm];refine⟨_,_,rfl, ?_,Z0.map h h2⟩;by_cases q:k2=k
  .rw[if_pos (show (k2,t').1=k from q),if_pos (show (k2,v').1=k from q)];exact⟨rfl,h⟩
  .rw[if_neg (show ¬ (k2,t').1=k from q),if_neg (show ¬ (k2,v').1=k from q)];exact⟨rfl,h1⟩
theorem Z0.any{k:Key}:∀{XG:ZX} {ks:List (Key×V)},Z0 K mg H F XG ks->(XG.any fun p=>decide (p.1=k))=ks.any fun p=>decide (p.1=k)
 | [],ks,a=>by cases(show ks=[] from a);rfl
 | (k',t')::XG,ks,a=>by
  obtain⟨⟨k2,v'⟩,r,rfl,⟨e,h1⟩,h2⟩:=a;obtain rfl:k2=k':=e;rw[List.any_cons,List.any_cons,Z0.any h2]
theorem Z0.snoc{k:Key}{t:T}{v:V}(h:IsT K mg H F t v):∀{XG:ZX} {ks:List (Key×V)},Z0 K mg H F XG ks->Z0 K mg H F (XG++[(k,t)]) (ks++[(k,v)])
 | [],ks,a=>by cases(show ks=[] from a);exact⟨_,_,rfl,⟨rfl,h⟩,rfl⟩
 | p::XG,ks,a=>by
  obtain⟨q,r,rfl,h1,h2⟩:=a;exact⟨q,_,rfl,h1,Z0.snoc h h2⟩
theorem Z0.put{k:Key}{t:T}{v:V}(h:IsT K mg H F t v){XG:ZX}{ks:List (Key×V)}(a:Z0 K mg H F XG ks):Z0 K mg H F (P4 XG k t) (putK ks k v):=by
 unfold P4 putK;rw[<-Z0.any a]
 split
 .exact Z0.map h a
 .exact Z0.snoc h a
theorem Z0.keys:∀{XG:ZX} {ks:List (Key×V)},Z0 K mg H F XG ks->XG.map (·.1)=ks.map (·.1)
 | [],ks,h=>by cases(show ks=[] from h);rfl
 | (k,t)::XG,ks,h=>by
  obtain⟨q,r,rfl,⟨e,_⟩,h2⟩:=h;rw[Vm,Vm,Z0.keys h2,e]
theorem A6(k:Key):IsT K mg H F (Lr k) (kV k):=by cases k<;>rfl
theorem Z0.keyT{XG:ZX}{ks:List (Key×V)}(h:Z0 K mg H F XG ks):Zx K mg H F (XG.map fun p=>Lr p.1) (ks.map fun p=>kV p.1):=by
 have go:∀l:List Key,Zx K mg H F (l.map Lr) (l.map kV):=fun l=>by
  induction l with
  | nil=>rfl
  | cons k r ih=>exact⟨_,_,rfl,A6 k,ih⟩
 have e:=h.keys;have:=go (XG.map (·.1));rw[List.map_map,List.map_map]at this
 have e2:(ks.map fun p=>kV p.1)=(XG.map fun p=>kV p.1):=by
  have:=congrArg (List.map kV) e;rw[List.map_map,List.map_map]at this;exact this.symm
 rw[e2];exact this
theorem S0:∀(zs:ZL),Zx K mg H F (zs.map T.int) (zs.map V.int)
 | []=>rfl
 | _::zs=>⟨_,_,rfl,rfl,S0 zs⟩
theorem Se:∀(zs:ZD),Zx K mg H F (zs.map T.str) (zs.map V.str)
 | []=>rfl
 | _::zs=>⟨_,_,rfl,rfl,Se zs⟩
theorem srt_is{X:Cx}{F₁ H₁:Hp}{ts us:ZZ}{vs:ZQ}(h:Zx X.K X.mg H₁ F₁ ts vs)(e:Pu ts=some us):∃ws,SRT.Zxx X H₁ vs ws/\Zx X.K X.mg H₁ F₁ us ws/\ws.length<64:=by
 unfold Pu at e
 split at e
 .rename_i hz
  split at e
  .rename_i zs e1
   cases e;have e2:=h.ints e1;have hl:zs.length<64:=by rw[h.length,e2,Zn]at hz;exact hz
   subst e2;exact⟨_,SRT.Xe hl,S0 _,by rw[Zn,(SRT.Dw zs).length_eq];exact hl⟩
  .obtain⟨zs,e1,rfl⟩:=Yk.mp e;have e2:=h.strs e1;have hl:zs.length<64:=by rw[h.length,e2,Zn]at hz;exact hz
   subst e2;exact⟨_,SRT.Xi hl,Se _,by rw[Zn,(SRT.Z7 zs).length_eq];exact hl⟩
 .cases e
end
section
variable{X:Cx}{XY:ZY}{Z:L2.St}{H F:Hp}{s:Shared}
def Shw(X:Cx)(s:Shared)(u:Value)(d:PyData):Prop:=∃as bs,Reads s.heap u d as/\ReadAtMost s.heap d.depth bs/\ReprK X.prog X.w bs s.heap d.depth u d.shown
def D0(X:Cx)(s:Shared)(us:ZM)(ds:List PyData):Prop:=∃as bs,ReadsAll s.heap us ds as/\ReadAtMost s.heap (PyData.depthAll ds) bs/\ReprAllK X.prog X.w bs s.heap (PyData.depthAll ds) us (PyData.shownAll ds)
theorem D0.cons{u:Value}{d:PyData}{us:ZM}{ds:List PyData}(h:Shw X s u d)(h':D0 X s us ds):D0 X s (u::us) (d::ds):=by
 obtain⟨a1,b1,r1,m1,k1⟩:=h;obtain⟨a2,b2,r2,m2,k2⟩:=h';refine⟨_,b1++b2,.cons r1 r2, ?_, ?_⟩
 .simp only[PyData.depthAll];exact(m1.mono (Nat.le_max_left _ _)).append (m2.mono (Nat.le_max_right _ _))
 .simp only[PyData.depthAll,PyData.shownAll];exact .cons ((k1.more fun b hb=>List.mem_append_left _ hb).level_le (Nat.le_max_left _ _)) (k2.more_le (fun b hb=>Ta _ hb) (Nat.le_max_right _ _))
theorem D0.nil:D0 X s [] []:=⟨_,[],.nil,(fun _ h=>nomatch h),by simp only[PyData.shownAll];exact .nil⟩
theorem Jq{u:Value}{d:PyData}(r:Reads s.heap u d [])(hs:d.showable=true)(hz:d.shown.length<=sizeLine):Shw X s u d:=by
 obtain⟨bs,m,k⟩:=ReprK.of_reads (prog:=X.prog) (w:=X.w) r hs (fun _ h=>nomatch h) hz;exact⟨[],bs,r,m,k⟩
theorem pe{a:Addr}{its:ZM}{ds:List PyData}(h:IsTup s.heap a its.toArray)(c:D0 X s its ds):Shw X s (.ref a) (.tuple ds):=by
 obtain⟨as,bs,r1,m1,k1⟩:=c;obtain⟨o,h1,h2,n,h3⟩:=h;have r:Reads s.heap (.ref a) (.tuple ds) _:=.tuple h1 h2 h3 (by simpa using r1);have bt:a ∉ bs:=not_mem_of_deeper r (by simp only[PyData.depth];omega) m1;refine⟨_,a::bs,r,ReadAtMost.cons r (by simp only[PyData.depth];omega) m1, ?_⟩;simp only[PyData.depth,PyData.shown];exact ReprK.tuple h1 h2 h3 bt (by simpa using k1)
theorem p5{a:Addr}{its:ZM}{ds:List PyData}(h:s.heap.IsList a its.toArray)(c:D0 X s its ds):Shw X s (.ref a) (.list ds):=by
 obtain⟨as,bs,r1,m1,k1⟩:=c;obtain⟨o,h1,h2,n,h3⟩:=h;have r:Reads s.heap (.ref a) (.list ds) _:=.list h1 h2 h3 (by simpa using r1);have bt:a ∉ bs:=not_mem_of_deeper r (by simp only[PyData.depth];omega) m1;refine⟨_,a::bs,r,ReadAtMost.cons r (by simp only[PyData.depth];omega) m1, ?_⟩;simp only[PyData.depth,PyData.shown];cases its with
 | nil =>
  cases r1;simp only[PyData.shownAll,listText_nil];exact ReprK.listEmpty h1 h2 h3
 | cons x l=>exact ReprK.list h1 h2 h3 bt (by simpa using k1.length_eq) (fun i y e=>k1.item i y (by simpa using e))
def ShwE(X:Cx)(s:Shared)(es:List DictEntry)(dk:List (PyData×PyData)):Prop:=D0 X s (es.map (·.key)) (dk.map (·.1))/\D0 X s (es.map (·.val)) (dk.map (·.2))
theorem p7{a:Addr}{o:Obj}{es:Array DictEntry}{n:Nat}{dk:List (PyData×PyData)}(h1:s.heap.get? a=some o)(h2:o.cls=.type "dict")(h3:o.data=.dict es n)(hy:(a == sysModules)=false)(c:ShwE X s es.toList dk):Shw X s (.ref a) (.dict dk):=by
 obtain⟨⟨a1,b1,r1,m1,k1⟩,a2,b2,r2,m2,k2⟩:=c;have r:Reads s.heap (.ref a) (.dict dk) _:=.dict h1 h2 h3 r1 r2;have hb:ReadAtMost s.heap (PyData.depthKv dk) (b1++b2):=(m1.mono (PyData.depthAll_keys_le dk)).append (m2.mono (PyData.depthAll_vals_le dk));have bt:a ∉ b1++b2:=not_mem_of_deeper r (by simp only[PyData.depth];omega) hb;refine⟨_,a::(b1++b2),r,ReadAtMost.cons r (by simp only[PyData.depth];omega) hb, ?_⟩;simp only[PyData.depth,PyData.shown,PyData.shownKv_eq]
 exact ReprK.dict h1 h2 h3 hy bt (ReprEntriesK.of_two es.toList _ _
  (k1.more_le (fun b hb=>List.mem_append_left _ hb) (PyData.depthAll_keys_le dk)) (k2.more_le (fun b hb=>Ta _ hb) (PyData.depthAll_vals_le dk)))
theorem p6{k:Key}{u:Value}(h:(Zh X.prog X.w).is k u=true)(hs:(Ac k).showable=true)(hz:(Ac k).shown.length<=sizeLine):Shw X s u (Ac k):=by
 rcases Zi (show Mo k u=true from h) with ⟨j,t,rfl,rfl⟩ | ⟨y,t,rfl,rfl⟩
 .exact Jq (.int _ _) hs hz
 .exact Jq (.str _ _) hs hz
end
section
variable{X:Cx}{XY:ZY}{Z:L2.St}{H F:Hp}{s:Shared}
mutual
theorem Zxc(I:Inv X XY Z H s)(fh:∀a o,F a=some o->H a=some o):∀(t:T) (v:V) (u:Value) (d:PyData),IsT X.K X.mg H F t v->RelV v u->toPy t=some d->d.showable=true->d.shown.length<=sizeLine->Shw X s u d
 | .non,v,u,d,h,r,e,hs,hz=>by cases e;cases(show v=_ from h);cases r;exact Jq .none hs hz
 | .bl b,v,u,d,h,r,e,hs,hz=>by cases e;cases(show v=_ from h);cases r;exact Jq (.bool b) hs hz
 | .int b,v,u,d,h,r,e,hs,hz=>by cases e;cases(show v=_ from h);obtain⟨t,rfl⟩:=r;exact Jq (.int b t) hs hz
 | .str b,v,u,d,h,r,e,hs,hz=>by cases e;cases(show v=_ from h);obtain⟨t,rfl⟩:=r;exact Jq (.str b t) hs hz
 | .tup ts,v,u,d,h,r,e,hs,hz=>by
  obtain⟨ds,e1,rfl⟩:=Yk.mp (show (Ul ts).map .tuple=some d by unfold toPy at e;exact e);obtain⟨a,vs,rfl,q,_,ar⟩:=h;cases r;obtain⟨its,rv,tp,_⟩:=I.tuple q;have Rl:(tupleText (PyData.shownAll ds)).length<=sizeLine:=by simpa only [PyData.shown] using hz
  exact pe tp (T7 I fh ts vs its ds ar rv e1 (by simpa [PyData.showable] using hs) fun t m=>Ut (tupleText_mem_le m) Rl)
 | .lst ts,v,u,d,h,r,e,hs,hz=>by
  obtain⟨ds,e1,rfl⟩:=Yk.mp (show (Ul ts).map .list=some d by unfold toPy at e;exact e);obtain⟨a,vs,rfl,q,_,ar⟩:=h;cases r;have q':Rd H a (.lst vs):=q.elim (fun q=>.inl (fh _ _ q)) fun⟨o,q⟩=>.inr ⟨o,fh _ _ q⟩;obtain⟨its,rv,pl,_⟩:=I.list (.inl q');have Rl:(listText (PyData.shownAll ds)).length<=sizeLine:=by simpa only [PyData.shown] using hz
  exact p5 pl.isList (T7 I fh ts vs its ds ar rv e1 (by simpa [PyData.showable] using hs) fun t m=>Ut (listText_mem_le m) Rl)
 | .dct XG,v,u,d,h,r,e,hs,hz=>by
  obtain⟨dk,e1,rfl⟩:=Yk.mp (show (D1 XG).map .dict=some d by unfold toPy at e;exact e);obtain⟨a,ks,rfl,q,_,ar⟩:=h;cases r;have q':Rd H a (.dK ks):=q.elim (fun q=>.inl (fh _ _ q)) fun⟨o,q⟩=>.inr ⟨o,fh _ _ q⟩;obtain⟨_,hy,ws,kv,o,es,ep,h1,h2,h3,_,pr,_⟩:=q'.ok I.hok;have Rl:(dictText (PyData.shownKv dk)).length<=sizeLine:=by simpa only [PyData.shown] using hz
  obtain⟨hs1,hs2⟩:=PyData.showableKv_split dk (by simpa [PyData.showable] using hs);exact p7 h1 h2.1 h3 hy (vy I fh XG ks ws es.toList dk ar kv pr e1 hs1 hs2 (fun t ht=>let ⟨p,hp,hl⟩:=PyData.shownKv_key_le dk t ht;Ut hl (Ut (dictText_mem_le hp) Rl)) (fun t ht=>let ⟨p,hp,hl⟩:=PyData.shownKv_val_le dk t ht;Ut hl (Ut (dictText_mem_le hp) Rl)))
 | .fn _,v,u,d,h,r,e,hs,hz=>by unfold toPy at e;cases e
theorem T7(I:Inv X XY Z H s)(fh:∀a o,F a=some o->H a=some o):∀(ts:ZZ) (vs:ZQ) (us:ZM) (ds:List PyData),Zx X.K X.mg H F ts vs->Zk vs us->Ul ts=some ds->PyData.showableAll ds=true->(∀t∈PyData.shownAll ds,t.length<=sizeLine)->D0 X s us ds
 | [],vs,us,ds,h,r,e,hs,hz=>by
  unfold Ul at e;cases e;cases(show vs=[] from h);cases r;exact D0.nil
 | t::ts,vs,us,ds,h,r,e,hs,hz=>by
  unfold Ul at e;obtain⟨d,e1,e⟩:=ZO.mp e;obtain⟨ds',e2,rfl⟩:=Yk.mp e;obtain⟨v,vr,rfl,i1,i2⟩:=h;cases r with | cons r1 r2 =>
  have Q6:d.showable=true/\PyData.showableAll ds'=true:=by simpa [PyData.showableAll] using hs
  exact D0.cons (Zxc I fh t v _ d i1 r1 e1 Q6.1 (hz _ (by simp only[PyData.shownAll];exact Ye ..))) (T7 I fh ts vr _ ds' i2 r2 e2 Q6.2 fun t m=>hz t (by simp only[PyData.shownAll];exact Vi _ m))
theorem vy(I:Inv X XY Z H s)(fh:∀a o,F a=some o->H a=some o):∀(XG:ZX) (ks:List (Key×V)) (ws:List (Key×Value)) (es:List DictEntry) (dk:List (PyData×PyData)),Z0 X.K X.mg H F XG ks->KV ks ws->Pairs (Zh X.prog X.w) es ws->D1 XG=some dk ->
  PyData.showableAll (dk.map (·.1))=true->PyData.showableAll (dk.map (·.2))=true->(∀t∈PyData.shownAll (dk.map (·.1)),t.length<=sizeLine)->(∀t∈PyData.shownAll (dk.map (·.2)),t.length<=sizeLine)->ShwE X s es dk
 | [],ks,ws,es,dk,h,r,p,e,_,_,_,_=>by
  unfold D1 at e;cases e;cases(show ks=[] from h);cases r;cases p;exact⟨D0.nil,D0.nil⟩
 | (k,t)::XG,ks,ws,es,dk,h,r,p,e,hs1,hs2,qv,hz2=>by
  unfold D1 at e;obtain⟨d,e1,e⟩:=ZO.mp e;obtain⟨dk',e2,rfl⟩:=Yk.mp e;obtain⟨⟨k2,v⟩,kr,rfl,⟨ek,i1⟩,i2⟩:=h;obtain rfl:k2=k:=ek;cases r with | cons r1 r2 =>
  obtain⟨ek,r1⟩:=r1;cases p with | cons p1 p2 p3 =>
  have ek:k2=_:=ek;rw[<-ek]at p1;rw[Vm]at hs1 hs2 qv hz2;have hs1':(Ac k2).showable=true/\PyData.showableAll (dk'.map (·.1))=true:=by simpa [PyData.showableAll] using hs1
  have hs2':d.showable=true/\PyData.showableAll (dk'.map (·.2))=true:=by simpa [PyData.showableAll] using hs2
  obtain⟨c1,c2⟩:=vy I fh XG kr _ _ dk' i2 r2 p3 e2 hs1'.2 hs2'.2 (fun t m=>qv t (by simp only[PyData.shownAll];exact Vi _ m)) (fun t m=>hz2 t (by simp only[PyData.shownAll];exact Vi _ m));refine⟨D0.cons (p6 p1 hs1'.1 (qv _ (by simp only[PyData.shownAll];exact Ye ..))) c1,D0.cons ?_ c2⟩;show Shw X s _ d;simp only[p2];exact Zxc I fh t v _ d i1 r1 e1 hs2'.1 (hz2 _ (by simp only[PyData.shownAll];exact Ye ..))
end
end
section
variable{X:Cx}{XY:ZY}{Z:L2.St}{H F:Hp}{s:Shared}{Q:VK}{x:V}{u:Value}{t:T}
theorem vp{z:Str}(I:Inv X XY Z H s)(fh:∀a o,F a=some o->H a=some o)(un:X.A.units+150<cLine)(gd:X.A.guards=some [])(rx:RelV x u)(s1:Tp X.K X.mg H F t x)(e:rpT t=some z)(q:Q (.str z) H) :
  wpAny (model X.prog X.w) X.A (call (.builtin "repr") [u]) (EP X XY Z Q) X.xe s:=by
 unfold rpT at e;obtain⟨d,e1,e⟩:=ZO.mp e
 split at e
 .rename_i hh
  cases e;obtain⟨hs,hz,hd⟩:=hh;have fin:∀tk:Nat,EP X XY Z Q (.str d.shown s.toks) { s with toks:=tk }:=fun tk=>⟨.str _,H,I.tok _,⟨_,rfl⟩,q⟩;have O0:∀h' u tk,(∀b o,s.heap.get? b=some o->h'.get? b=some o)->∃x t,Value.str d.shown u=.str x t/\EP X XY Z Q (.str d.shown u) { s with heap:=h',toks:=tk }:=fun h' u tk k=>⟨_,u,rfl,.str _,H,I.kept k,⟨u,rfl⟩,q⟩;cases t with
  | non=>cases e1;cases(show x=_ from s1);cases rx;exact P.repr_of_none (fin _)
  | bl b=>cases e1;cases(show x=_ from s1);cases rx;simp only[PyData.shown]at fin;exact P.repr_of_bool (fin _)
  | int i =>
   cases e1;cases(show x=_ from s1);obtain⟨w,rfl⟩:=rx;simp only[PyData.shown]at fin;exact P.repr_of_int (by simpa [PyData.showable] using hs) (fin _)
  | str i =>
   cases e1;cases(show x=_ from s1);obtain⟨w,rfl⟩:=rx;simp only[PyData.shown]at fin hz;exact P.repr_of_str (fin _) hz
  | tup ts =>
   obtain⟨ds,e2,rfl⟩:=Yk.mp (show (Ul ts).map .tuple=some d by unfold toPy at e1;exact e1);obtain⟨a,vs,rfl,q1,_,ar⟩:=s1;cases rx;obtain⟨its,rv,tp,_⟩:=I.tuple q1;have Rl:(tupleText (PyData.shownAll ds)).length<=sizeLine:=by simpa only [PyData.shown] using hz
   have c:=T7 I fh ts vs its ds ar rv e2 (by simpa [PyData.showable] using hs) fun t m=>Ut (tupleText_mem_le m) Rl;obtain⟨as,bs,r1,m1,k1⟩:=c;obtain⟨o,h1,h2,n,h3⟩:=tp;have r:Reads s.heap (.ref a) (.tuple ds) _:=.tuple h1 h2 h3 (by simpa using r1);have bt:a ∉ bs:=not_mem_of_deeper r (by simp only[PyData.depth];omega) m1;simp only[PyData.depth]at hd;simp only[PyData.shown]at O0;exact call_repr_slot (by omega) ⟨o,h1,h2⟩ PySem.F.slot_tuple_repr (call_tuple_reprK h1 h2 h3 bt (by simpa using k1) (g:=[]) gd (fun b _=>Clear.nil b) (by show X.A.units+1+_<_;omega) (fun _ _ e=>e) (fun h' u tk k=>O0 h' u tk k) Rl)
  | lst ts =>
   obtain⟨ds,e2,rfl⟩:=Yk.mp (show (Ul ts).map .list=some d by unfold toPy at e1;exact e1);obtain⟨a,vs,rfl,q1,_,ar⟩:=s1;cases rx;obtain⟨its,rv,pl,_⟩:=I.list (.inl q1);have Rl:(listText (PyData.shownAll ds)).length<=sizeLine:=by simpa only [PyData.shown] using hz
   have c:=T7 I fh ts vs its ds ar rv e2 (by simpa [PyData.showable] using hs) fun t m=>Ut (listText_mem_le m) Rl;obtain⟨as,bs,r1,m1,k1⟩:=c;obtain⟨o,h1,h2,n,h3⟩:=pl.isList;have r:Reads s.heap (.ref a) (.list ds) _:=.list h1 h2 h3 (by simpa using r1);have bt:a ∉ bs:=not_mem_of_deeper r (by simp only[PyData.depth];omega) m1;simp only[PyData.depth]at hd;simp only[PyData.shown]at O0;refine call_repr_slot (by omega) ⟨o,h1,h2⟩ PySem.F.slot_list_repr.toG ?_;cases its with
   | nil =>
    cases r1;simp only[PyData.shownAll,listText_nil]at O0;exact call_list_repr_empty ⟨o,h1,h2⟩ h1 h3 (O0 s.heap _ _ fun _ _ e=>e)
   | cons y l=>exact call_list_reprK h1 h2 h3 bt (by simpa using k1.length_eq) (fun i y e=>k1.item i y (by simpa using e)) (g:=[]) gd (fun b _=>Clear.nil b) (by show X.A.units+1+_<_;omega) (fun _ _ e=>e) (fun h' u tk k=>O0 h' u tk k) Rl
  | dct XG =>
   obtain⟨dk,e2,rfl⟩:=Yk.mp (show (D1 XG).map .dict=some d by unfold toPy at e1;exact e1);obtain⟨a,ks,rfl,q1,_,ar⟩:=s1;cases rx;obtain⟨_,hy,ws,kv,o,es,ep,h1,h2,h3,_,pr,_⟩:=q1.ok I.hok;have Rl:(dictText (PyData.shownKv dk)).length<=sizeLine:=by simpa only [PyData.shown] using hz
   obtain⟨hs1,hs2⟩:=PyData.showableKv_split dk (by simpa [PyData.showable] using hs);have c:=vy I fh XG ks ws es.toList dk ar kv pr e2 hs1 hs2 (fun t ht=>let ⟨p,hp,hl⟩:=PyData.shownKv_key_le dk t ht;Ut hl (Ut (dictText_mem_le hp) Rl)) (fun t ht=>let ⟨p,hp,hl⟩:=PyData.shownKv_val_le dk t ht;Ut hl (Ut (dictText_mem_le hp) Rl));obtain⟨⟨a1,b1,r1,m1,k1⟩,a2,b2,r2,m2,k2⟩:=c;have r:Reads s.heap (.ref a) (.dict dk) _:=.dict h1 h2.1 h3 r1 r2;have hb:ReadAtMost s.heap (PyData.depthKv dk) (b1++b2):=(m1.mono (PyData.depthAll_keys_le dk)).append (m2.mono (PyData.depthAll_vals_le dk));have bt:a ∉ b1++b2:=not_mem_of_deeper r (by simp only[PyData.depth];omega) hb;simp only[PyData.depth]at hd;simp only[PyData.shown,PyData.shownKv_eq]at O0
   exact call_repr_slot (by omega) ⟨o,h1,h2.1⟩ PySem.F.slot_dict_repr (call_dict_reprK h1 h2.1 h3 hy bt (ReprEntriesK.of_two es.toList _ _
    (k1.more_le (fun b hb=>List.mem_append_left _ hb) (PyData.depthAll_keys_le dk)) (k2.more_le (fun b hb=>Ta _ hb) (PyData.depthAll_vals_le dk))) (g:=[]) gd (fun b _=>Clear.nil b) (by show X.A.units+1+_<_;omega) (fun _ _ e=>e) (fun h' u tk k=>O0 h' u tk k) (by rw[<-PyData.shownKv_eq];exact Rl))
  | fn _=>unfold toPy at e1;cases e1
 .cases e
end
section
variable{X:Cx}
inductive fu(xs:ZQ)(H:Hp)(Q:VK):Prop
 | mk(x:Str)(n:Int)(h0:xs=[.str x])(h1:PySem.intText? x=some n)(h2:x.length<=640)(h3:Q (.int n) H):fu xs H Q
theorem xp:Y7 X (.type "int") fu:=by
 intro XY s Z H xs us Q I r h;obtain⟨x,n,rfl,hn,hl,q⟩:=h;obtain⟨u,rfl,t,rfl⟩:=vals1 r;exact W.KIN.call_text hn hl ⟨.int n,H,I.tok _,⟨_,rfl⟩,q⟩
end
theorem Zz6{Z:Type}{xs:List Z}{i:Int}{x:Z}(h:Ts xs i=some x):∃j,fj xs.length i=some j/\xs[j]?=some x:=by
 unfold Ts at h;cases e:fj xs.length i with
 | none=>rw[e]at h;cases h
 | some j=>rw[e]at h;exact⟨j,rfl,h⟩
theorem Zx.at{K:W.Frag}{mg:ZV}{H F:Hp}{ts:ZZ}{vs:ZQ}{i:Int}{t:T}(h:Zx K mg H F ts vs)(e:Ts ts i=some t):∃v,Ts vs i=some v/\IsT K mg H F t v:=by
 obtain⟨j,e1,e2⟩:=Zz6 e;obtain⟨v,e3,h2⟩:=h.get e2;exact⟨v,by unfold Ts;rw[<-h.length,e1];exact e3,h2⟩
theorem Zx.cut{K:W.Frag}{mg:ZV}{H F:Hp}{ts:ZZ}{vs:ZQ}(h:Zx K mg H F ts vs)(lo hi:ZR):Zx K mg H F (G4 ts lo hi) (C4 vs lo hi):=by
 unfold G4 C4;rw[h.length];exact(h.drop _).take _
theorem Zx.rev{K:W.Frag}{mg:ZV}{H F:Hp}:∀{ts:ZZ} {vs:ZQ},Zx K mg H F ts vs->Zx K mg H F ts.reverse vs.reverse
 | [],vs,h=>by cases(show vs=[] from h);rfl
 | t::ts,vs,h=>by
  obtain⟨v,r,rfl,q,w⟩:=h;rw[List.reverse_cons,List.reverse_cons];exact(Zx.rev w).append (Zx.one q)
theorem Zx.bools{K:W.Frag}{mg:ZV}{H F:Hp}:∀{ts:ZZ} {vs:ZQ} {bs:List Bool},Zx K mg H F ts vs->allB ts=some bs->vs=bs.map V.bl
 | [],vs,bs,h,e=>by cases e;exact h
 | t::ts,vs,bs,h,e=>by
  obtain⟨v,r,rfl,q,w⟩:=h;cases t with
  | bl b =>
   obtain⟨bs',e1,rfl⟩:=Yk.mp (show (allB ts).map (b::·)=some bs from e);rw[Zx.bools w e1];cases(show v=.bl b from q)
   rfl
  | _=>cases e
section
variable{X:Cx}{XY:ZY}{Z σ':L2.St}{H F₁ G:Hp}{s:Shared}{Q:VK}{x y:V}{v u:Value}{t t':T}{p:P}{r:Sl}
theorem ix_run{z:T}{value slice:Expr}(I:Inv X XY σ' H s)(un:X.A.units+150<cLine)(rx:RelV x v)(ry:RelV y u)(s1:Tp X.K X.mg H F₁ t x)(s2:Tp X.K X.mg H F₁ t' y)(e:A4 t t'=some z)(q:∀w,IsT X.K X.mg H F₁ z w->Q w H)
  (hs:subscripted slice false v u=operate [v,u] (getItem v u)):wpAny (model X.prog X.w) X.A (subscriptTail value slice v u) (EP X XY σ' Q) X.xe s:=by
 unfold A4 at e
 split at e
 .cases(show y=_ from s2);obtain⟨a,vs,rfl,h1,z1,ar⟩:=s1;obtain⟨w,e1,e2⟩:=ar.at e;exact ix_tup value slice XY s σ' H _ _ v u Q I rx ry ⟨a,vs,_,w,rfl,rfl,h1,e1,q w e2⟩ hs
 .cases(show y=_ from s2);obtain⟨a,vs,rfl,h1,z1,ar⟩:=s1;obtain⟨w,e1,e2⟩:=ar.at e;exact il value slice XY s σ' H _ _ v u Q I rx ry ⟨a,vs,_,w,rfl,rfl,.inl h1,e1,q w e2⟩ hs
 .split at e
  .rename_i hz
   cases(show x=_ from s1);cases(show y=_ from s2);obtain⟨c,e1,rfl⟩:=Yk.mp e;exact ix_str value slice XY s σ' H _ _ v u Q I rx ry ⟨_,_,c,rfl,rfl,hz,e1,q _ rfl⟩ hs
  .cases e
 .obtain⟨a,ks,rfl,h1,z1,ar⟩:=s1;obtain⟨k,e1,e2⟩:=ZO.mp e;cases Tw e1 s2;obtain⟨w,h2,h3⟩:=(Z0.val k ar).1 z e2;cases rx;have g:B7 H a (kV k) (some w):=.inl ⟨ks,k,h1,rfl,h2.symm⟩;exact tail_any (O8 I g) slot_dict_getitem.lookup (xn (by omega) I g ry fun w' s' I' X3=>⟨w,H,I',X3,q w h3⟩) hs
 .cases e
theorem pd{lo hi:ZR}{vl vu:Value}{sl:Addr}{z:Str}{tk:Tok}(I:Inv X XY σ' H s)(hs:s.heap.IsSliceOf sl vl vu .none)(pl:IsPart vl lo)(pu:IsPart vu hi)(hz:z.length<=sizeLine)(q:Q (.str (Txt.slice z lo hi)) H) :
  ∃T id,typeLookup (.type T) "__getitem__" = pure (some (.builtin id))/\s.TypeIs (.str z tk) T/\wpAny (model X.prog X.w) X.A (getItem (.str z tk) (.ref sl)) (EP X XY σ' Q) X.xe s:=by
 have q':∀(t':Tok) (k:Nat),EP X XY σ' Q (.str (Txt.slice z lo hi) t') { s with toks:=k }:=fun t' k=>⟨.str _,H,I.tok _,⟨t',rfl⟩,q⟩;refine⟨"str",_,PySem.F.slot_str_getitem.lookup,typeIs_str _ _ _, ?_⟩;cases pl with
 | none=>cases pu with
  | none=>exact wpAny_getItem_str_slice (l:=none) (u:=none) (st:=none) hs rfl (post_val_or_str ⟨Ut (Txt.slice_le z _ _) hz,fun t' k=>q' t' k⟩)
  | int j uj=>exact wpAny_getItem_str_slice (l:=none) (u:=some (j,uj)) (st:=none) hs rfl (post_val_or_str ⟨Ut (Txt.slice_le z _ _) hz,fun t' k=>q' t' k⟩)
 | int i ui=>cases pu with
  | none=>exact wpAny_getItem_str_slice (l:=some (i,ui)) (u:=none) (st:=none) hs rfl (post_val_or_str ⟨Ut (Txt.slice_le z _ _) hz,fun t' k=>q' t' k⟩)
  | int j uj=>exact wpAny_getItem_str_slice (l:=some (i,ui)) (u:=some (j,uj)) (st:=none) hs rfl (post_val_or_str ⟨Ut (Txt.slice_le z _ _) hz,fun t' k=>q' t' k⟩)
theorem Eo{lo hi:ZR}{vl vu:Value}{sl:Addr}(I:Inv X XY σ' H s)(rel:Rel X.K X.mg F₁ G p Z H)(rx:RelV x v)(s1:Tp X.K X.mg H F₁ t x)(hs:s.heap.IsSliceOf sl vl vu .none)(pl:IsPart vl lo)(pu:IsPart vu hi)(e:slT t lo hi=some r)(q:Fin X F₁ G p Z H r Q) :
  ∃T id,typeLookup (.type T) "__getitem__" = pure (some (.builtin id))/\s.TypeIs v T/\wpAny (model X.prog X.w) X.A (getItem v (.ref sl)) (EP X XY σ' Q) X.xe s:=by
 unfold slT at e
 split at e
 .cases e;obtain⟨a,vs,rfl,h1,z1,ar⟩:=s1;exact pb XY s σ' H _ v vl vu lo hi sl Q I rx hs pl pu ⟨a,vs,rfl,h1,fun l H' sm hq=>q.f rel sm ⟨l,_,rfl,hq,Ut (U4 _ _ _) z1,Zx.up sm.up (Le.refl _) _ _ (ar.cut lo hi)⟩⟩
 .cases e;obtain⟨a,vs,rfl,h1,z1,ar⟩:=s1;exact ph XY s σ' H _ v vl vu lo hi sl Q I rx hs pl pu ⟨a,vs,rfl,.inl h1,fun l hl=>q.l rel hl (Ut (U4 _ _ _) z1) (ar.cut lo hi)⟩
 .split at e
  .rename_i hz
   cases e;cases(show x=_ from s1);obtain⟨_,rfl⟩:=rx;exact pd I hs pl pu hz (q.h rel rfl)
  .cases e
 .cases e
noncomputable def btV:Pr->Option (Str×Value)
 | .len=>some ("len",.builtin "len")
 | .all=>some ("all",.builtin "all")
 | .any=>some ("any",.builtin "any")
 | .list=>some ("list",.type "list")
 | .tuple=>some ("tuple",.type "tuple")
 | .min=>some ("min",.builtin "min")
 | .max=>some ("max",.builtin "max")
 | .int=>some ("int",.type "int")
 | .abs=>some ("abs",.builtin "abs")
 | .dict=>some ("dict",.type "dict")
 | .sorted=>some ("sorted",.builtin "sorted")
 | .repr=>some ("repr",.builtin "repr")
 | .str=>some ("str",.type "str")
 | .sum=>some ("sum",.builtin "sum")
 | _=>none
theorem Yh{Z U:Type}{R:Z->U->Prop}{a:Z}{bs:List U}(h:Paired R [a] bs):∃b,bs=[b]/\R a b:=by
 cases h with
 | cons h t=>cases t;exact⟨_,rfl,h⟩
theorem ai{Z U:Type}{R:Z->U->Prop}{a a':Z}{bs:List U}(h:Paired R [a,a'] bs):∃b b',bs=[b,b']/\R a b/\R a' b':=by
 cases h with
 | cons h t=>obtain⟨b,rfl,h2⟩:=Yh t;exact⟨_,_,rfl,h,h2⟩
theorem bt_run{bq:Pr}{nm:Str}{fv:Value}{ts:ZZ}{xs:ZQ}{us:ZM}(hb:btV bq=some (nm,fv))(hc:X.calm=true)(un:X.A.units+150<cLine)(gd:X.A.guards=some [])(I:Inv X XY σ' H s)(rel:Rel X.K X.mg F₁ G p Z H)(rs:Zk xs us)(se:Paired (Tp X.K X.mg H F₁) ts xs)(e:yo bq ts=some r)(q:Fin X F₁ G p Z H r Q) :
  wpAny (model X.prog X.w) X.A (call fv us) (EP X XY σ' Q) X.xe s:=by
 unfold yo at e
 split at e<;>first | cases hb | skip
 .unfold pLen at e
  split at e
  rotate_left
  .cases e
  obtain⟨n,e1,rfl⟩:=Yk.mp e;obtain⟨x,rfl,s1⟩:=Yh se;unfold ij at e1
  split at e1
  .cases e1;obtain⟨a,vs,rfl,h1,z1,ar⟩:=s1;exact Nq XY s σ' H _ us Q I rs ⟨a,vs,rfl,.inr h1,q.h rel (by rw[ar.length];rfl)⟩
  .cases e1;obtain⟨a,vs,rfl,h1,z1,ar⟩:=s1;exact Nq XY s σ' H _ us Q I rs ⟨a,vs,rfl,.inl (.inl h1),q.h rel (by rw[ar.length];rfl)⟩
  .cases e1;obtain⟨a,vs,rfl,h1,z1,ar⟩:=s1;obtain⟨u,rfl,rx⟩:=vals1 rs;cases rx;exact d_len I h1 fun t s' I'=>⟨.int vs.length,H,I',⟨t,rfl⟩,q.h rel (by rw[ar.length];rfl)⟩
  .split at e1
   .rename_i hz
    cases e1;cases(show x=_ from s1);exact di XY s σ' H _ us Q I rs ⟨_,_,rfl,⟨hz,rfl⟩,q.h rel rfl⟩
   .cases e1
  .cases e1
 .unfold pAll at e
  split at e
  rotate_left
  .cases e
  obtain⟨bs,e1,rfl⟩:=Yk.mp e;obtain⟨x,rfl,a,vs,rfl,h1,z1,ar⟩:=Yh se;exact xa hc XY s σ' H _ us Q I rs ⟨a,bs,rfl,.inl (by rw[<-ar.bools e1];exact h1),q.h rel rfl⟩
 .unfold Zxe at e
  split at e
  .cases e;obtain⟨x,rfl,a,vs,rfl,h1,z1,ar⟩:=Yh se;exact Qc XY s σ' H _ us Q I rs ⟨a,vs,rfl,.inl (.inl h1),fun l hl=>q.l rel hl z1 ar⟩
  .cases e;obtain⟨x,rfl,a,ks,rfl,h1,z1,ar⟩:=Yh se;exact SRT.K1 hc XY s σ' H _ us Q I rs ⟨a,ks,rfl,h1,fun l hl=>q.l rel hl (by rw[Zn];exact z1) ar.keyT⟩
  .cases e
 .unfold Au at e
  split at e
  rotate_left
  .cases e
  obtain⟨ws,e1,rfl⟩:=Yk.mp e;obtain⟨x,rfl,a,ks,rfl,h1,z1,ar⟩:=Yh se;obtain⟨ys,k1,k2,k3⟩:=srt_is ar.keyT e1;exact SRT.Qt hc XY s σ' H _ us Q I rs ⟨a,ks,ys,rfl,h1,k1,fun l hl=>q.l rel hl (by have:=sizeLine_eq;omega) k2⟩
 .unfold k8 at e
  split at e
  rotate_left
  .cases e
  cases e;obtain⟨x,rfl,a,vs,rfl,h1,z1,ar⟩:=Yh se;exact C8 XY s σ' H _ us Q I rs ⟨a,vs,rfl,.inl (.inl h1),fun l H' sm hq=>q.f rel sm ⟨l,vs,rfl,hq,z1,Zx.up sm.up (Le.refl _) _ _ ar⟩⟩
 .unfold pMin at e
  split at e
  rotate_left
  .cases e
  cases e;obtain⟨x,y,rfl,s1,s2⟩:=ai se;cases(show x=_ from s1);cases(show y=_ from s2);exact xh hc XY s σ' H _ us Q I rs ⟨_,_,rfl,q.h rel rfl⟩
 .unfold pInt at e
  split at e
  .cases e;obtain⟨x,rfl,s1⟩:=Yh se;cases(show x=_ from s1);exact xu XY s σ' H _ us Q I rs (.inr ⟨_,rfl,q.h rel rfl⟩)
  .split at e
   .rename_i hz
    obtain⟨n,e1,rfl⟩:=Yk.mp e;obtain⟨x,rfl,s1⟩:=Yh se;cases(show x=_ from s1);exact xp XY s σ' H _ us Q I rs ⟨_,n,rfl,e1,hz,q.h rel rfl⟩
   .cases e
  .cases e
 .unfold Zx1 at e
  split at e
  rotate_left
  .cases e
  cases e;obtain⟨x,rfl,a,ks,rfl,h1,z1,ar⟩:=Yh se;exact Sj XY s σ' H _ us Q I rs ⟨a,ks,rfl,h1,fun l hl=>let ⟨r1,r2⟩:=rel.newD hl z1 ar;q _ _ _ (Le.refl _) (Zp.lay hl).up r1 r2⟩
 .unfold Zxi at e
  split at e
  rotate_left
  .cases e
  obtain⟨z,e1,rfl⟩:=Yk.mp e;obtain⟨x,rfl,s1⟩:=Yh se;obtain⟨u,rfl,rx⟩:=vals1 rs;exact vp I rel.b.f un gd rx s1 e1 (q.h rel rfl)
 .unfold pStr at e
  split at e
  .split at e
   .rename_i hz
    cases e;obtain⟨x,rfl,s1⟩:=Yh se;cases(show x=_ from s1);exact Qd XY s σ' H _ us Q I rs ⟨_,rfl,hz,q.h rel rfl⟩
   .cases e
  .cases e;obtain⟨x,rfl,s1⟩:=Yh se;cases(show x=_ from s1);obtain⟨u,rfl,t,rfl⟩:=vals1 rs;exact PySem.P.str_of_str ⟨.str _,H,I,⟨t,rfl⟩,q.h rel rfl⟩
  .cases e
 .cases e
end
noncomputable def kdS:Kd->String
 | .int => "int"
 | .bool => "bool"
 | .str => "str"
 | .tuple => "tuple"
 | .list => "list"
 | .dict => "dict"
section
variable{X:Cx}{XY:ZY}{Z σ':L2.St}{H F₁ G:Hp}{s:Shared}{Q:VK}{x y:V}{v u:Value}{t t':T}{p:P}{r:Sl}
theorem ie{n:Kd}{b:Bool}(I:Inv X XY σ' H s)(rx:RelV x v)(s1:Tp X.K X.mg H F₁ t x)(e:isiT n t=some b)(q:Q (.bl b) H):wpAny (model X.prog X.w) X.A (call (.builtin "isinstance") [v,.type (kdS n)]) (EP X XY σ' Q) X.xe s:=by
 have fin:∀tk,EP X XY σ' Q (.bool b) { s with toks:=tk }:=fun tk=>⟨.bl _,H,I.tok _,rfl,q⟩;cases t with
 | non=>cases(show x=_ from s1);exact V9 I rx .non (by cases n<;>cases e<;>rfl) fin
 | bl k=>cases(show x=_ from s1);exact V9 I rx (.bl k) (by cases n<;>cases e<;>rfl) fin
 | int k=>cases(show x=_ from s1);exact V9 I rx (.int k) (by cases n<;>cases e<;>rfl) fin
 | str k=>cases(show x=_ from s1);exact V9 I rx (.str k) (by cases n<;>cases e<;>rfl) fin
 | tup ts =>
  obtain⟨a,vs,rfl,hq,_⟩:=s1;cases rx;exact ia I hq (by cases n<;>cases e<;>rfl) fin
 | lst ts =>
  obtain⟨a,vs,rfl,hq | ⟨o,hq⟩,_⟩:=s1
  .exact V9 I rx (.lst hq) (by cases n<;>cases e<;>rfl) fin
  .exact V9 I rx (.frz hq) (by cases n<;>cases e<;>rfl) fin
 | dct ts =>
  obtain⟨a,ks,rfl,hq,_⟩:=s1;cases rx;obtain⟨_,_,vs,_,o,es,ep,h1,h2,_⟩:=hq.ok I.hok;exact W.kia_one W.kitx_dict I.kIn ⟨o,h1,h2.1⟩ (by cases n<;>cases e<;>rfl) (fun z=>nomatch z) fin
 | fn _=>cases n<;>cases e
def rO(X:Cx)(f:Value->Value->Sem Value):R2:=fun x y H Q=>∀XY s Z v u,Inv X XY Z H s->RelV x v->RelV y u->wpAny (model X.prog X.w) X.A (f v u) (EP X XY Z Q) X.xe s
theorem opr{f:Value->Value->Sem Value}:Dz X f (rO X f):=fun XY s Z _ _ _ v u _ I rx ry h=>h XY s Z v u I rx ry
def rC(X:Cx)(f:Value):ZQ->Hp->VK->Prop:=fun xs H Q=>∀XY s Z us,Inv X XY Z H s->Zk xs us->wpAny (model X.prog X.w) X.A (call f us) (EP X XY Z Q) X.xe s
theorem du{f:Value}:Y7 X f (rC X f):=fun XY s Z _ _ us _ I rs h=>h XY s Z us I rs
def rX(X:Cx):R2:=fun x y H Q=>∀value slice XY s Z v u,Inv X XY Z H s->RelV x v->RelV y u->subscripted slice false v u=operate [v,u] (getItem v u)->wpAny (model X.prog X.w) X.A (subscriptTail value slice v u) (EP X XY Z Q) X.xe s
theorem ixr:IxR X (rX X):=fun value slice XY s Z _ _ _ v u _ I rx ry h hs=>h value slice XY s Z v u I rx ry hs
def rL(X:Cx):V->ZR->ZR->Hp->VK->Prop:=fun x lo hi H Q=>∀XY s Z v vl vu sl,Inv X XY Z H s->RelV x v->s.heap.IsSliceOf sl vl vu .none->IsPart vl lo->IsPart vu hi ->
 ∃T id,typeLookup (.type T) "__getitem__" = pure (some (.builtin id))/\s.TypeIs v T/\wpAny (model X.prog X.w) X.A (getItem v (.ref sl)) (EP X XY Z Q) X.xe s
theorem slr:SlR X (rL X):=fun XY s Z _ _ v vl vu _ _ sl _ I rx hs pl pu h=>h XY s Z v vl vu sl I rx hs pl pu
end
noncomputable def vis(sc:ZK)(x:Str):Bool:=match sc.lookup x with
 | some .local=>true
 | some .cell=>true
 | some .free=>true
 | _=>false
noncomputable def W7(sc:ZK)(x:Str):Bool:=sc.lookup x == some .globalImplicit && !(x == ("__debug__" : Str))
noncomputable def Jj(N:ZD)(sc:ZK)(i:Nat)(x:Str):Bool:=N[i]? == some x && vis sc x && !(x == ("__debug__" : Str)) && !(x == ("__classdict__" : Str))
def Uy:Expr->Bool
 | .Slice _ _ _ _=>false
 | _=>true
def U6:Expr->Bool
 | .Call _ [] _ _=>false
 | _=>true
def Fj:Expr->Bool
 | .Call _ _ _ _=>false
 | _=>true
inductive Shp where
 | name(y:Str) | bin(a:Expr)(op:Operator)(b:Expr) | cmp(a:Expr)(ops:List CmpOp)(bs:ZC) | un(op:UnaryOp)(a:Expr) | sub(a b:Expr) | dct(ks:List (Option Expr))(vs:ZC)
 | callN (f:Str) (xs:ZC) | callA (o:Expr) (m:Str) (ap:Pos) (xs:ZC) (cp:Pos) | tup (xs:ZC) | lst (xs:ZC) | boo (o:BoolOp) (xs:ZC) (p:Pos) | ife (c a b:Expr) | lc (e:Expr) (g:List Comprehension) (s:Scope) | slc (l h s:Option Expr) | non
noncomputable def shpC:Expr->ZC->List Keyword->Pos->Shp
 | .Name f _,xs,[],_=>.callN f xs
 | .Attribute o m ap,xs,[],cp=>.callA o m ap xs cp
 | _,_,_,_=>.non
noncomputable def Bi:Expr->Shp
 | .Name y _=>.name y
 | .BinOp a op b _=>.bin a op b
 | .Compare a ops bs _=>.cmp a ops bs
 | .UnaryOp op a _=>.un op a
 | .Subscript a b _=>.sub a b
 | .Dict ks vs _=>.dct ks vs
 | .Call f xs ks cp=>shpC f xs ks cp
 | .Tuple xs _ _=>.tup xs
 | .List xs _=>.lst xs
 | .BoolOp o xs p=>.boo o xs p
 | .IfExp c a b _=>.ife c a b
 | .ListComp e g s _=>.lc e g s
 | .Slice l h s _=>.slc l h s
 | _=>.non
def ShpI:Shp->Expr->Prop
 | .name y,x=>∃p,x=.Name y p
 | .bin a op b,x=>∃p,x=.BinOp a op b p
 | .cmp a ops bs,x=>∃p,x=.Compare a ops bs p
 | .un op a,x=>∃p,x=.UnaryOp op a p
 | .sub a b,x=>∃p,x=.Subscript a b p
 | .dct ks vs,x=>∃p,x=.Dict ks vs p
 | .callN f xs,x=>∃q p,x=.Call (.Name f q) xs [] p
 | .callA o m ap xs cp,x=>x=.Call (.Attribute o m ap) xs [] cp
 | .tup xs,x=>∃j p,x=.Tuple xs j p
 | .lst xs,x=>∃p,x=.List xs p
 | .boo o xs p,x=>x=.BoolOp o xs p
 | .ife c a b,x=>∃p,x=.IfExp c a b p
 | .lc e g s,x=>∃p,x=.ListComp e g s p
 | .slc l h s,x=>∃p,x=.Slice l h s p
 | .non,_=>True
theorem p8(x:Expr):ShpI (Bi x) x:=by
 cases x
 case Call f xs ks cp =>
  cases f
  case Name=>cases ks with
   | nil=>exact⟨_,_,rfl⟩
   | cons _ _=>trivial
  case Attribute=>cases ks with
   | nil=>rfl
   | cons _ _=>trivial
  all_goals exact True.intro
 case BoolOp=>rfl
 case Tuple=>exact⟨_,_,rfl⟩
 all_goals first | exact⟨_,rfl⟩ | exact True.intro
theorem Z8{x:Expr}{s:Shp}(e:Bi x=s):ShpI s x:=e ▸ p8 x
noncomputable def vOp(o:Op)(x:Expr):Option (ZC):=match Bi x with
 | .bin a op b=>if op=opOf o then some [a,b] else none
 | _=>none
theorem vOp_ex{o:Op}{x:Expr}{xs:ZC}(h:vOp o x=some xs):∃a op b p,x=.BinOp a op b p/\(if op=opOf o then some [a,b] else none)=some xs:=by
 unfold vOp at h
 split at h
 .rename_i e
  obtain⟨p,rfl⟩:=Z8 e;exact⟨_,_,_,p,rfl,h⟩
 .cases h
noncomputable def la(x:Expr):Option (Expr×List CmpOp×ZC):=match Bi x with
 | .cmp a ops bs=>some (a,ops,bs)
 | _=>none
theorem Hc{x a:Expr}{ops:List CmpOp}{bs:ZC}(h:la x=some (a,ops,bs)):∃p,x=.Compare a ops bs p:=by
 unfold la at h
 split at h
 .rename_i e
  cases h;exact Z8 e
 .cases h
noncomputable def vCm(c:Cm)(x:Expr):Option (ZC):=match la x with
 | some (a,[op],[b])=>if op=Di c/\behindInMarks op b=false then some [a,b] else none
 | _=>none
theorem j5{c:Cm}{x:Expr}{xs:ZC}(h:vCm c x=some xs):∃a op b p,x=.Compare a [op] [b] p/\(if op=Di c/\behindInMarks op b=false then some [a,b] else none)=some xs:=by
 unfold vCm at h
 split at h
 .rename_i e
  obtain⟨p,rfl⟩:=Hc e;exact⟨_,_,_,p,rfl,h⟩
 .cases h
noncomputable def vC2(c:Cm)(d:Cm)(x:Expr):Option (ZC):=match la x with
 | some (a,[op,S6],[b,e])=>if op=Di c/\S6=Di d/\lastMarks [op,S6] [b,e]=false then some [a,b,e] else none
 | _=>none
theorem j6{c d:Cm}{x:Expr}{xs:ZC}(h:vC2 c d x=some xs):∃a op S6 b e p,x=.Compare a [op,S6] [b,e] p/\(if op=Di c/\S6=Di d/\lastMarks [op,S6] [b,e]=false then some [a,b,e] else none)=some xs:=by
 unfold vC2 at h
 split at h
 .rename_i e
  obtain⟨p,rfl⟩:=Hc e;exact⟨_,_,_,_,_,p,rfl,h⟩
 .cases h
noncomputable def vNeg(x:Expr):Option (ZC):=match Bi x with
 | .un op a=>if op=.USub then some [a] else none
 | _=>none
theorem lb{x:Expr}{xs:ZC}(h:vNeg x=some xs):∃a p,x=.UnaryOp .USub a p/\some [a]=some xs:=by
 unfold vNeg at h
 split at h
 .rename_i e
  obtain⟨p,rfl⟩:=Z8 e
  split at h
  .rename_i z;subst z;exact⟨_,p,rfl,h⟩
  .cases h
 .cases h
noncomputable def lx(x:Expr):Option (Expr×Expr):=match Bi x with
 | .sub a b=>some (a,b)
 | _=>none
theorem Hm{x a b:Expr}(h:lx x=some (a,b)):∃p,x=.Subscript a b p:=by
 unfold lx at h
 split at h
 .rename_i e
  cases h;exact Z8 e
 .cases h
noncomputable def vIx(x:Expr):Option (ZC):=match lx x with
 | some (a,b)=>if Uy b=true then some [a,b] else none
 | none=>none
theorem vIx_ex{x:Expr}{xs:ZC}(h:vIx x=some xs):∃a b p,x=.Subscript a b p/\(if Uy b=true then some [a,b] else none)=some xs:=by
 unfold vIx at h
 split at h
 .rename_i e
  obtain⟨p,rfl⟩:=Hm e;exact⟨_,_,p,rfl,h⟩
 .cases h
noncomputable def j4(x:Expr):Option (Expr×Option Expr×Option Expr×Option Expr):=match lx x with
 | some (a,b)=>(match Bi b with
  | .slc l h s=>some (a,l,h,s)
  | _=>none)
 | none=>none
theorem Ln{x a:Expr}{l hh s:Option Expr}(h:j4 x=some (a,l,hh,s)):∃q p,x=.Subscript a (.Slice l hh s q) p:=by
 unfold j4 at h
 split at h
 .rename_i e
  obtain⟨p,rfl⟩:=Hm e
  split at h
  .rename_i e'
   cases h;obtain⟨q,rfl⟩:=Z8 e';exact⟨q,p,rfl⟩
  .cases h
 .cases h
noncomputable def jt(x:Expr):Option (ZC):=match j4 x with
 | some (a,some l,none,none)=>some [a,l]
 | _=>none
theorem jd{x:Expr}{xs:ZC}(h:jt x=some xs):∃a l q p,x=.Subscript a (.Slice (some l) none none q) p/\some [a,l]=some xs:=by
 unfold jt at h
 split at h
 .rename_i e
  obtain⟨q,p,rfl⟩:=Ln e;exact⟨_,_,q,p,rfl,h⟩
 .cases h
noncomputable def jr(x:Expr):Option (ZC):=match j4 x with
 | some (a,none,some l,none)=>some [a,l]
 | _=>none
theorem jc{x:Expr}{xs:ZC}(h:jr x=some xs):∃a l q p,x=.Subscript a (.Slice none (some l) none q) p/\some [a,l]=some xs:=by
 unfold jr at h
 split at h
 .rename_i e
  obtain⟨q,p,rfl⟩:=Ln e;exact⟨_,_,q,p,rfl,h⟩
 .cases h
noncomputable def jm(x:Expr):Option (ZC):=match j4 x with
 | some (a,some l,some u,none)=>some [a,l,u]
 | _=>none
theorem jb{x:Expr}{xs:ZC}(h:jm x=some xs):∃a l u q p,x=.Subscript a (.Slice (some l) (some u) none q) p/\some [a,l,u]=some xs:=by
 unfold jm at h
 split at h
 .rename_i e
  obtain⟨q,p,rfl⟩:=Ln e;exact⟨_,_,_,q,p,rfl,h⟩
 .cases h
noncomputable def j3(x:Expr):Option (ZC):=match Bi x with
 | .dct [] []=>some []
 | _=>none
theorem j0{x:Expr}{xs:ZC}(h:j3 x=some xs):∃p,x=.Dict [] [] p/\some ([]:ZC)=some xs:=by
 unfold j3 at h
 split at h
 .rename_i e
  obtain⟨p,rfl⟩:=Z8 e;exact⟨p,rfl,h⟩
 .cases h
noncomputable def nj:Expr->Bool
 | .Constant (.int i) _ _=>decide (i=1)
 | _=>false
noncomputable def Xd(x:Expr):Option (Str×ZC):=match Bi x with
 | .callN f xs=>some (f,xs)
 | _=>none
theorem B8{x:Expr}{f:Str}{xs:ZC}(h:Xd x=some (f,xs)):∃q p,x=.Call (.Name f q) xs [] p:=by
 unfold Xd at h
 split at h
 .rename_i e
  cases h;exact Z8 e
 .cases h
noncomputable def ju(x:Expr):Option Str:=match Bi x with
 | .name y=>some y
 | _=>none
theorem Lc{x:Expr}{y:Str}(h:ju x=some y):∃p,x=.Name y p:=by
 unfold ju at h
 split at h
 .rename_i e
  cases h;exact Z8 e
 .cases h
noncomputable def vIsi(sc:ZK)(n:Kd)(x:Expr):Option (ZC):=match Xd x with
 | some (f,[a,k])=>(match ju k with
  | some k=>if f = "isinstance" /\ W7 sc f=true/\k=kdS n/\W7 sc k=true then some [a] else none
  | none=>none)
 | _=>none
theorem lh{sc:ZK}{n:Kd}{x:Expr}{xs:ZC}(h:vIsi sc n x=some xs):∃f q a k q' p,x=.Call (.Name f q) [a,.Name k q'] [] p/\(if f = "isinstance" /\ W7 sc f=true/\k=kdS n/\W7 sc k=true then some [a] else none)=some xs:=by
 unfold vIsi at h
 split at h
 .rename_i e
  obtain⟨q,p,rfl⟩:=B8 e
  split at h
  .rename_i e'
   obtain⟨q',rfl⟩:=Lc e';exact⟨_,q,_,_,q',p,rfl,h⟩
  .cases h
 .cases h
def xl:Expr->Option Str
 | .Constant k _ _=>(match k with
  | .str y=>some y
  | _=>none)
 | _=>none
theorem Tn{x:Expr}{y:Str}(h:xl x=some y):∃a b,x=.Constant (.str y) a b:=by
 cases x
 case Constant k a b=>cases k<;>first | (cases h;exact⟨a,b,rfl⟩) | cases h
 all_goals cases h
noncomputable def je(x:Expr):Option (ZC):=match Bi x with
 | .callA o m ap [a,b] cp=>if m = "get" /\ Fj o=true/\(ap.endLine == cp.line)=true then some [o,a,b] else none
 | _=>none
theorem ji{x:Expr}{xs:ZC}(h:je x=some xs):∃o m ap a b cp,x=.Call (.Attribute o m ap) [a,b] [] cp/\(if m = "get" /\ Fj o=true/\(ap.endLine == cp.line)=true then some [o,a,b] else none)=some xs:=by
 unfold je at h
 split at h
 .rename_i e;exact⟨_,_,_,_,_,_,Z8 e,h⟩
 .cases h
noncomputable def jo(x:Str)(z:Expr):Option (ZC):=match Bi z with
 | .callA o m ap [a] cp=>(match xl o with
  | some y=>if m = "join" /\ y=x/\(ap.endLine == cp.line)=true then some [a] else none
  | none=>none)
 | _=>none
theorem ja{x:Str}{z:Expr}{xs:ZC}(h:jo x z=some xs):∃y k1 k2 m ap a cp,z=.Call (.Attribute (.Constant (.str y) k1 k2) m ap) [a] [] cp/\(if m = "join" /\ y=x/\(ap.endLine == cp.line)=true then some [a] else none)=some xs:=by
 unfold jo at h
 split at h
 .rename_i e
  split at h
  .rename_i e'
   obtain⟨k1,k2,rfl⟩:=Tn e';exact⟨_,k1,k2,_,_,_,_,Z8 e,h⟩
  .cases h
 .cases h
noncomputable def jf(x:Expr):Option (ZC):=match Bi x with
 | .tup [a]=>some [a]
 | _=>none
theorem jg{x:Expr}{xs:ZC}(h:jf x=some xs):∃a j p,x=.Tuple [a] j p/\some [a]=some xs:=by
 unfold jf at h
 split at h
 .rename_i e
  obtain⟨j,p,e⟩:=Z8 e;exact⟨_,j,p,e,h⟩
 .cases h
noncomputable def fmtV:Expr->Option Expr
 | .FormattedValue v c sp _=>if c=-1/\sp.isNone=true then some v else none
 | _=>none
theorem Zzw{x v:Expr}(h:fmtV x=some v):∃p,x=.FormattedValue v (-1) none p:=by
 cases x
 case FormattedValue u c sp p =>
  have h:(if c=-1/\sp.isNone=true then some u else none)=some v:=h
  split at h
  .rename_i hc
   cases h;obtain⟨rfl,hs⟩:=hc;cases sp with
   | none=>exact⟨p,rfl⟩
   | some _=>cases hs
  .cases h
 all_goals cases h
def jsV:Expr->Option (ZC)
 | .JoinedStr xs _=>some xs
 | _=>none
theorem jsV_ex{x:Expr}{xs:ZC}(h:jsV x=some xs):∃p,x=.JoinedStr xs p:=by
 cases x
 case JoinedStr ys p=>cases h;exact⟨p,rfl⟩
 all_goals cases h
noncomputable def xk:List (Option Str)->ZC->Option (ZC)
 | [],[]=>some []
 | some z::r,e::es=>if xl e=some z then xk r es else none
 | none::r,e::es=>(fmtV e).bind fun v=>(xk r es).map (v::·)
 | _,_=>none
noncomputable def vFst(row:List (Option Str))(x:Expr):Option (ZC):=match jsV x with
 | some (a::b::r)=>xk row (a::b::r)
 | _=>none
theorem lu{row:List (Option Str)}{x:Expr}{xs:ZC}(h:vFst row x=some xs):∃a b r p,x=.JoinedStr (a::b::r) p/\xk row (a::b::r)=some xs:=by
 unfold vFst at h
 split at h
 .rename_i e
  obtain⟨p,rfl⟩:=jsV_ex e;exact⟨_,_,_,p,rfl,h⟩
 .cases h
noncomputable def lg(two:Nat)(z:Str)(x:Expr):Option (ZC):=match Bi x with
 | .callA o m ap (a::bs) cp=>if m = "split" /\ U6 o=true/\(ap.endLine == cp.line)=true/\xl a=some z/\(z.length == 0)=false/\bs.length=two then some (o::bs) else none
 | _=>none
theorem Ht{two:Nat}{z:Str}{x:Expr}{xs:ZC}(h:lg two z x=some xs):∃o m ap a bs cp,x=.Call (.Attribute o m ap) (a::bs) [] cp/\(if m = "split" /\ U6 o=true/\(ap.endLine == cp.line)=true/\xl a=some z/\(z.length == 0)=false/\bs.length=two then some (o::bs) else none)=some xs:=by
 unfold lg at h
 split at h
 .rename_i e;exact⟨_,_,_,_,_,_,Z8 e,h⟩
 .cases h
noncomputable def vSts(x:Expr):Option (ZC):=match Bi x with
 | .callA o m ap [a] cp=>if m = "startswith" /\ U6 o=true/\(ap.endLine == cp.line)=true then some [o,a] else none
 | _=>none
theorem lq{x:Expr}{xs:ZC}(h:vSts x=some xs):∃o m ap a cp,x=.Call (.Attribute o m ap) [a] [] cp/\(if m = "startswith" /\ U6 o=true/\(ap.endLine == cp.line)=true then some [o,a] else none)=some xs:=by
 unfold vSts at h
 split at h
 .rename_i e;exact⟨_,_,_,_,_,Z8 e,h⟩
 .cases h
noncomputable def jh(sc:ZK)(x:Expr):Option (ZC):=match Xd x with
 | some (f,[y])=>(match Bi y with
  | .callA o m ap [] cp=>if f = "sorted" /\ W7 sc f=true/\m = "items" /\ U6 o=true/\(ap.endLine == cp.line)=true then some [o] else none
  | _=>none)
 | _=>none
theorem js{sc:ZK}{x:Expr}{xs:ZC}(h:jh sc x=some xs):∃f p0 o m ap cp p,x=.Call (.Name f p0) [.Call (.Attribute o m ap) [] [] cp] [] p/\(if f = "sorted" /\ W7 sc f=true/\m = "items" /\ U6 o=true/\(ap.endLine == cp.line)=true then some [o] else none)=some xs:=by
 unfold jh at h
 split at h
 .rename_i e
  obtain⟨q,p,rfl⟩:=B8 e
  split at h
  .rename_i e'
   exact⟨_,q,_,_,_,_,p,by rw[Z8 e'],h⟩
  .cases h
 .cases h
noncomputable def vBt(sc:ZK)(q:Pr)(x:Expr):Option (ZC):=match Xd x with
 | some (f,a::r)=>(match btV q with
  | some (n,_)=>if f=n/\W7 sc f=true then some (a::r) else none
  | none=>none)
 | _=>none
theorem vBt_ex{sc:ZK}{q:Pr}{x:Expr}{xs:ZC}(h:vBt sc q x=some xs):∃f p0 a r p,x=.Call (.Name f p0) (a::r) [] p/\(match btV q with
  | some (n,_)=>if f=n/\W7 sc f=true then some (a::r) else none
  | none=>none)=some xs:=by
 unfold vBt at h
 split at h
 .rename_i e
  obtain⟨p0,p,rfl⟩:=B8 e;exact⟨_,p0,_,_,p,rfl,h⟩
 .cases h
noncomputable def view(sc:ZK):Pr->Expr->Option (ZC)
 | .op o=>vOp o
 | .cm c=>vCm c
 | .c2 c d=>vC2 c d
 | .neg=>vNeg
 | .ix=>vIx
 | .sl true false=>jt
 | .sl false true=>jr
 | .sl true true=>jm
 | .dnew=>j3
 | .isi n=>vIsi sc n
 | .get2=>je
 | .join x=>jo x
 | .tup1=>jf
 | .fst row=>vFst row
 | .spl1 z=>lg 0 z
 | .spl2 z=>lg 1 z
 | .sts=>vSts
 | .sits=>jh sc
 | q=>vBt sc q
noncomputable def Jt:ZD:=["len","all","any","list","tuple","min","max","int","abs","dict","isinstance","sorted","set","range","zip","enumerate","sum","repr","str","bool","reversed"]
structure Ctx(X:Cx)(w:W)(k:Nat)(N:ZD)(sc:ZK):Prop where
 nN:X.N=N
 nd:N.Nodup
 nm:∀x c,sc.lookup x=some c->X.env.scope.names.lookup x=some c\/(c=.free/\X.env.scope.names.lookup x=some .cell)
 calm:X.calm=true
 room:Vo k X.A
 bn:∀x∈Jt,X.mg x=none
 fn:∀f as r,w.C f as=some r->∃ps,as.length=ps.length/\Fn X.prog X.w X.K X.mg X.base k f ps (spC X.K X.mg ps.length (w.C f))
 gl:∀x t,w.gl x=some t->∃v u,X.mg x=some u/\RelV v u/\∀H F,IsT X.K X.mg H F t v
 xe:X.xe=c9
 cl:∀x,sc.lookup x=some .cell->X.fn x=true
 lam:sc=Ca->∀T,wx=some T->LamAt X T.P/\X.env.qual++Str.ofString "<lambda>" = T.q
section
variable{X:Cx}{w:W}{k:Nat}{N:ZD}{sc:ZK}
theorem Ctx.un(c:Ctx X w k N sc):X.A.units+150<cLine:=by have:=c.room.un;omega
theorem Ctx.gl'(c:Ctx X w k N sc){x:Str}(h:W7 sc x=true):Gl X x/\(x == ("__debug__" : Str))=false:=by
 unfold W7 at h;rw[Y8,beq_iff_eq]at h;rcases c.nm x _ h.1 with e | ⟨z,_⟩
 .exact⟨e,by simpa using h.2⟩
 .cases z
theorem Ctx.vis(c:Ctx X w k N sc){x:Str}(h:PV.vis sc x=true):Vis X.env.scope x:=by
 unfold PV.vis at h
 split at h
 .rename_i e
  rcases c.nm x _ e with e | ⟨z,_⟩
  .exact .inl e
  .cases z
 .rename_i e
  rcases c.nm x _ e with e | ⟨z,_⟩
  .exact .inr (.inl e)
  .cases z
 .rename_i e
  rcases c.nm x _ e with e | ⟨_,e⟩
  .exact .inr (.inr e)
  .exact .inr (.inl e)
 .cases h
theorem Ctx.var(c:Ctx X w k N sc){i:Nat}{x:Str}{pos:Pos}(h:Jj N sc i x=true):PE X (.Name x pos) (tVar i):=by
 unfold Jj at h;simp only[Y8,beq_iff_eq]at h;obtain⟨⟨⟨h1,h2⟩,h3⟩,h4⟩:=h;exact pe_var (by rw[c.nN];exact h1) (c.vis h2) (by simpa using h3) (by simpa using h4)
theorem Ic{q:Pr}{es:E}{p p':P}{r:Sl}(e:ev w (.pr q es) p=some (r,p')):∃as ts,Jl w true es p=some (as,p')/\looks p' as=some ts/\yo q ts=some r:=by
 replace e:=(ev_prQ _ _).symm.trans e
 obtain⟨a,e1,e⟩:=ZO.mp e;obtain⟨ts,e2,e⟩:=ZO.mp e;obtain⟨s,e3,e⟩:=Yk.mp e;cases e;exact⟨a.1,ts,e1,e2,e3⟩
mutual
def I8:E->Bool
 | .k _=>true
 | .g _=>true
 | .v _=>true
 | .pr _ es=>Jm es
 | _=>false
def Jm:E->Bool
 | .nil=>true
 | .cons a r=>I8 a && Jm r
 | _=>false
end
mutual
theorem dh:∀(a:E) {p p':P} {a':A},I8 a=true->Ol true a p (toT (ev w a p))=some (a',p')->p'=p
 | .v i,p,p',a',_,e=>by
  unfold Ol at e;dsimp only at e;rw[if_pos rfl]at e
  split at e
  .cases e;rfl
  .cases e
 | .k t,p,p',a',_,e=>by cases e;rfl
 | .g x,p,p',a',_,e=>by
  have e:(toT ((w.gl x).map fun t=>(Sl.f t,p))).map (fun q=>(A.t q.1,q.2))=some (a',p'):=e;cases q:w.gl x with
  | none=>rw[q]at e;cases e
  | some t=>rw[q]at e;cases e;rfl
 | .pr q es,p,p',a',h,e=>by
  have e:(toT (ev w (.pr q es) p)).map (fun q=>(A.t q.1,q.2))=some (a',p'):=e;obtain⟨z,e1,e2⟩:=Yk.mp e;cases e2;unfold toT at e1;obtain⟨y,e3,e4⟩:=ZO.mp e1;obtain⟨t,e5,e6⟩:=Yk.mp e4;cases e6;obtain⟨as,ts,e7,_,_⟩:=Ic (r:=y.1) (p':=y.2) e3;exact Gw es h e7
 | .mv _,_,_,_,h,_=>by cases h
 | .io _,_,_,_,h,_=>by cases h
 | .nil,_,_,_,h,_=>by cases h
 | .cons _ _,_,_,_,h,_=>by cases h
 | .tup _,_,_,_,h,_=>by cases h
 | .lst _,_,_,_,h,_=>by cases h
 | .and _ _,_,_,_,h,_=>by cases h
 | .or _ _,_,_,_,h,_=>by cases h
 | .not _,_,_,_,h,_=>by cases h
 | .ite _ _ _,_,_,_,h,_=>by cases h
 | .call _ _,_,_,_,h,_=>by cases h
 | .cal _ _,_,_,_,h,_=>by cases h
 | .mt _ _ _,_,_,_,h,_=>by cases h
 | .comp _ _ _ _ _ _,_,_,_,h,_=>by cases h
 | .itr _ _,_,_,_,h,_=>by cases h
 | .tmp _,_,_,_,h,_=>by cases h
theorem Gw:∀(es:E) {p p':P} {as:List A},Jm es=true->Jl w true es p=some (as,p')->p'=p
 | .nil,p,p',as,_,e=>(Yp e).2
 | .cons a r,p,p',as,h,e=>by
  obtain⟨a',p1,as',e1,e2,rfl⟩:=Zf e;have h:(I8 a && Jm r)=true:=h;rw[Y8]at h;exact(Gw r h.2 e2).trans (dh a h.1 e1)
 | .v _,_,_,_,h,_=>by cases h
 | .k _,_,_,_,h,_=>by cases h
 | .g _,_,_,_,h,_=>by cases h
 | .pr _ _,_,_,_,h,_=>by cases h
 | .mv _,_,_,_,h,_=>by cases h
 | .io _,_,_,_,h,_=>by cases h
 | .tup _,_,_,_,h,_=>by cases h
 | .lst _,_,_,_,h,_=>by cases h
 | .and _ _,_,_,_,h,_=>by cases h
 | .or _ _,_,_,_,h,_=>by cases h
 | .not _,_,_,_,h,_=>by cases h
 | .ite _ _ _,_,_,_,h,_=>by cases h
 | .call _ _,_,_,_,h,_=>by cases h
 | .cal _ _,_,_,_,h,_=>by cases h
 | .mt _ _ _,_,_,_,h,_=>by cases h
 | .comp _ _ _ _ _ _,_,_,_,h,_=>by cases h
 | .itr _ _,_,_,_,h,_=>by cases h
 | .tmp _,_,_,_,h,_=>by cases h
end
noncomputable def quiet:Pr->E->Bool
 | .c2 _ _,.cons _ (.cons _ r)=>Jm r
 | .sl true true,.cons _ (.cons _ r)=>Jm r
 | .get1,.cons _ r=>Jm r
 | .get2,.cons _ r=>Jm r
 | .spl2 _,.cons _ r=>Jm r
 | .sts,.cons _ r=>Jm r
 | .fst _,es=>Jm es
 | .c2 _ _,_=>false
 | .sl true true,_=>false
 | .get1,_=>false
 | .get2,_=>false
 | .spl2 _,_=>false
 | .sts,_=>false
 | _,_=>true
theorem y3{b:Expr}(h:Uy b=true):Xq b:=fun o i=>by cases b<;>first | rfl | cases h
theorem Tr{o:Expr}(h:Fj o=true)(m:Str)(env:Env)(wh:Sem Value):attributeBase o m env wh=wh:=by
 cases o<;>first | rfl | cases h
theorem T2{o:Expr}(h:U6 o=true)(m:Str)(env:Env)(wh:Sem Value):attributeBase o m env wh=wh:=by
 unfold attributeBase
 split
 .cases h
 .rfl
theorem Z0.valT{K:W.Frag}{mg:ZV}{H F:Hp}:∀{XG:ZX} {ks:List (Key×V)},Z0 K mg H F XG ks->Zx K mg H F (XG.map (·.2)) (ks.map (·.2))
 | [],ks,h=>by cases(show ks=[] from h);rfl
 | p::r,ks,h=>by
  obtain⟨q,rs,rfl,i,w⟩:=h;obtain⟨k,t⟩:=p;exact⟨_,_,rfl,i.2,Z0.valT w⟩
theorem Zz5(n:Kd):bootBuiltins (kdS n:Str)=some (.type (kdS n)):=by cases n<;>decide +kernel
theorem ic(n:Kd):(kdS n:Str) ≠ "__name__" := by cases n<;>decide +kernel
theorem Zz4{q:Pr}{n:Str}{fv:Value}(h:btV q=some (n,fv)):bootBuiltins n=some fv/\n ≠ "__name__" /\ n∈Jt/\((∃i,fv=.builtin i)\/∃t,fv=.type t):=by
 cases q<;>cases h
 all_goals exact⟨by decide +kernel,by decide +kernel,by decide +kernel,by first | exact .inl ⟨_,rfl⟩ | exact .inr ⟨_,rfl⟩⟩
theorem Ci{es:ZC}{env:Env}{cpos:Pos}(h:∀e∈es,noStar e=true)(hl:es.length<30):((backTo cpos (starEach es env)).all (fun x=>!x.1) && (backToKw cpos (keywordEach [] env)).all (fun x=>x.1.isSome)
  && decide (es.length+([]:List Keyword).length+(if ([]:List Keyword).isEmpty then 0 else 1)<30))=true:=by
 have h1:(backTo cpos (starEach es env)).all (fun x=>!x.1)=true:=by
  rw[List.all_eq_not_any_not];have:=Ys es env cpos h;simp only[Bool.not_not];rw[this];rfl
 rw[h1];show (true && true && decide (es.length+0+0<30))=true;rw[Ub (by omega)]
 rfl
theorem Bz{K:W.Frag}{mg:ZV}{H F:Hp}:∀ss:ZD,Zx K mg H F (ss.map .str) (ss.map V.str)
 | []=>rfl
 | _::ss=>⟨_,_,rfl,rfl,Bz ss⟩
theorem Tc{G:Hp}{p:P}:∀(row:List (Option Str)) (parts:ZC) {xs:ZC} {es:E} {out:Str} {ts:ZZ} {as:List A} {z:Str},xk row parts=some xs->Hs X w true es xs->Jm es=true->Jl w true es p=some (as,p)->looks p as=some ts->Gd out row ts=some z->out.length<=sizeLine ->
  ∀{XY:ZY} {s:Shared} {Z:L2.St} {H F:Hp} {Q:VK},Inv X XY Z H s->Rel X.K X.mg F G p Z H->(∀F' H',Le F F'->Up X.K H H'->Rel X.K X.mg F' G p Z H'->Q (.str z) H')->wpAny (model X.prog X.w) X.A (joinParts out (evalEach parts X.env)) (EP X XY Z Q) X.xe s
 | [],[],xs,es,out,ts,as,z,hv,hs,hc,e,el,ez,ol,XY,s,Z,H,F,Q,I,rel,k=>by
  cases hv;cases hs;obtain⟨rfl,_⟩:=Yp e;cases el;cases ez;exact joinParts_nil ⟨.str _,H,I.tok _,⟨_,rfl⟩,k F H (Le.refl F) (Up.refl H) rel⟩ ol
 | some y::row,x::parts,xs,es,out,ts,as,z,hv,hs,hc,e,el,ez,ol,XY,s,Z,H,F,Q,I,rel,k=>by
  replace hv:(if xl x=some y then xk row parts else none)=some xs:=hv
  split at hv
  .rename_i hx
   obtain⟨a,b,rfl⟩:=Tn hx;have ez:(if (out++y).length<=sizeLine then Gd (out++y) row ts else none)=some z:=ez
   split at ez
   .rename_i hz
    refine joinParts_cons (Calls.Constant_str ⟨hz, ?_⟩);exact Tc row parts hv hs hc e el ez hz (I.tok _) rel k
   .cases ez
  .cases hv
 | none::row,x::parts,xs,es,out,ts,as,z,hv,hs,hc,e,el,ez,ol,XY,s,Z,H,F,Q,I,rel,k=>by
  obtain⟨x',hx,i8⟩:=ZO.mp (show (fmtV x).bind _=some xs from hv);obtain⟨xs',hv2,rfl⟩:=Yk.mp i8;obtain⟨pp,rfl⟩:=Zzw hx;cases hs with | @cons a r _ _ ha sa hs =>
  obtain⟨a',p1,as',g1,g2,rfl⟩:=Zf e;have hc:(I8 a && Jm r)=true:=hc;rw[Y8]at hc;have ep:=dh a hc.1 g1;subst ep;obtain⟨t,Xs,l1,l2,rfl⟩:=Zy el;obtain⟨y,ey,ez1⟩:=ZO.mp (show (Zzv t).bind _=some z from ez)
  split at ez1
  .rename_i hz
   refine joinParts_cons (FormattedValue_plain (Yz (ha XY s Z H (fun v H1=>∃F1,Le F F1/\Up X.K H H1/\Rel X.K X.mg F1 G p1 Z H1/\Tp X.K X.mg H1 F1 t v) I ⟨F,G,p1,a',p1,rel,g1,fun F1 H1 v Rn u1 r1 Vk=>⟨F1,Rn,u1,r1,r1.look l1 Vk⟩⟩) fun u s1 he=>?_));obtain⟨v,H1,I1,rv,F1,Rn,u1,r1,se⟩:=he;cases t with
   | int i =>
    have ey:(if i.natAbs.log2<1920 then some (toString i:Str) else none)=some y:=ey
    split at ey
    .rename_i hi
     cases ey;cases(show v=.int i from se);obtain⟨tk,rfl⟩:=rv;exact formatField_int_small hi ⟨hz,Tc row parts hv2 hs hc.2 g2 l2 ez1 hz (I1.tok _) r1 fun F' H' le' u'=>k F' H' (Rn.trans le') (u1.trans u')⟩
    .cases ey
   | str i =>
    have ey:(if i.length<=sizeLine then some i else none)=some y:=ey
    split at ey
    .rename_i hi
     cases ey;cases(show v=.str _ from se);obtain⟨tk,rfl⟩:=rv;exact formatField_str (fun t' tk'=>⟨hz,Tc row parts hv2 hs hc.2 g2 l2 ez1 hz (I1.tok _) r1 fun F' H' le' u'=>k F' H' (Rn.trans le') (u1.trans u')⟩) hi
    .cases ey
   | _=>cases ey
  .cases ez1
 | [],_::_,_,_,_,_,_,_,hv,_,_,_,_,_,_,_,_,_,_,_,_,_,_,_=>by cases hv
 | some _::_,[],_,_,_,_,_,_,hv,_,_,_,_,_,_,_,_,_,_,_,_,_,_,_=>by cases hv
 | none::_,[],_,_,_,_,_,_,hv,_,_,_,_,_,_,_,_,_,_,_,_,_,_,_=>by cases hv
theorem rj{XG:ZX}{ss:ZD}(h:Ro XG=some ss):XG.map (·.1)=ss.map Sum.inr:=by
 induction XG generalizing ss with
 | nil=>cases h;rfl
 | cons p r ih =>
  obtain⟨k,t⟩:=p;cases k with
  | inl _=>cases h
  | inr x =>
   obtain⟨us,e,rfl⟩:=Yk.mp (show (Ro r).map (x::·)=some ss from h);rw[Vm,Vm,ih e]
theorem Ph:∀{XG:ZX} {ss:ZD},Ro XG=some ss->ss.Nodup->∀i,i<ss.length->∃t,(XG.map (·.2))[i]?=some t/\Y2 XG (.inr (ss.getD i SRT.eS))=some t
 | [],ss,h,nd,i,hi=>by cases h;exact absurd hi (Nat.not_lt_zero i)
 | (.inl _,t)::r,ss,h,nd,i,hi=>by cases h
 | (.inr x,t)::r,ss,h,nd,i,hi=>by
  obtain⟨us,e,rfl⟩:=Yk.mp (show (Ro r).map (x::·)=some ss from h);cases i with
  | zero=>exact⟨t,rfl,by unfold Y2;rw[List.find?_cons_of_pos (by exact Ub rfl)];rfl⟩
  | succ i =>
   have hi:i<us.length:=Nat.lt_of_succ_lt_succ hi;obtain⟨u,e1,e2⟩:=Ph e (List.nodup_cons.mp nd).2 i hi;refine⟨u,by simpa using e1, ?_⟩;rw[<-e2];unfold Y2;rw[List.find?_cons_of_neg]
   .rfl
   .intro z;have z:(Sum.inr x:Key)=.inr (us.getD i SRT.eS):=Q0 z;refine(List.nodup_cons.mp nd).1 ?_;rw[Sum.inr.inj z,List.getD_eq_getElem?_getD,Dx hi];exact G0e hi
theorem Oy{H:Hp}:∀{as:ZU} {ks:List (Key×V)} {i:Nat} {p:Key×V},as.Nodup->as.length=ks.length->ks[i]?=some p->lays H as ks (as.getD i 0)=some (.tup [kV p.1,p.2])
 | [],[],i,p,_,_,e=>by simp at e
 | a::as,q::ks,0,p,_,_,e=>by
  have e:q=p:=by simpa using e
  subst e;show upd (lays H as ks) a _ a=_;rw[Zq]
 | a::as,q::ks,i+1,p,nd,l,e=>by
  have e:ks[i]?=some p:=by simpa using e
  have l:as.length=ks.length:=by simpa using l
  have hi:=(Nd.mp e).1;show upd (lays H as ks) a _ (as.getD i 0)=_;rw[Zz fun z=>(List.nodup_cons.mp nd).1 (by rw[<-z,List.getD_eq_getElem?_getD,Dx (by omega)];exact G0e _)];exact Oy (List.nodup_cons.mp nd).2 l e
theorem S1{K:W.Frag}{mg:ZV}{H F:Hp}{f:Nat->T}{g:Nat->V}:∀p:List Nat,(∀i∈p,IsT K mg H F (f i) (g i))->Zx K mg H F (p.map f) (p.map g)
 | [],_=>rfl
 | i::p,h=>⟨_,_,rfl,h i Ye,S1 p fun j m=>h j (Vi _ m)⟩
theorem ya(c:Ctx X w k N sc){q:Pr}{es:E}{x:Expr}{xs:ZC}(hv:view sc q x=some xs)(hs:Hs X w true es xs)(h3:quiet q es=true):PE X x (LE X.K X.mg w (.pr q es)):=by
 intro XY s Z H Q I h;obtain⟨F,G,p,r,p',rel,e,kq⟩:=h;obtain⟨as,ts,e1,e2,e3⟩:=Ic e;have un:=c.un;have kf:∀{F2 H2:Hp},Le F F2->Up X.K H H2->Fin X F2 G p' Z H2 r Q:=fun l u F3 H3 v l3 u3=>kq F3 H3 v (l.trans l3) (u.trans u3);unfold view at hv
 split at hv
 .replace hv:=vOp_ex hv
  obtain⟨a,op,b,pp,rfl,hv⟩:=hv
  split at hv
  .rename_i ho
   cases hv;subst ho;cases hs with | cons ha _ t=>cases t with | cons hb _ t=>cases t with | nil =>
   refine pe_op opr ha hb XY s Z H Q I (Ws e1 e2 rel fun F2 H2 x y t1 t2 et l u Zl s1 s2=>?_);subst et;exact fun XY s σ' v u' I rx ry=>op_run _ I Zl rx ry s1 s2 e3 (kf l u)
  .cases hv
 .replace hv:=j5 hv
  obtain⟨a,op,b,pp,rfl,hv⟩:=hv
  split at hv
  .rename_i ho
   cases hv;obtain⟨ho,hm⟩:=ho;subst ho;cases hs with | cons ha _ t=>cases t with | cons hb _ t=>cases t with | nil =>
   refine au opr ha hb hm XY s Z H Q I (Ws e1 e2 rel fun F2 H2 x y t1 t2 et l u Zl s1 s2=>?_);subst et;obtain⟨b,e4,rfl⟩:=Yk.mp e3;exact fun XY s σ' v u' I rx ry=>N9 _ I Zl.b.f un rx ry s1 s2 e4 ((kf l u).h Zl rfl)
  .cases hv
 .replace hv:=j6 hv
  obtain⟨a,op,S6,b,e0,pp,rfl,hv⟩:=hv
  split at hv
  .rename_i ho
   cases hv;obtain⟨ho,Q7,hm⟩:=ho;subst ho Q7;cases hs with | cons ha _ t=>cases t with | cons hb _ t=>cases t with | cons hc _ t=>cases t with | nil =>
   obtain⟨a',p1,as1,q1,q2,rfl⟩:=Zf e1;obtain⟨b',p2,as2,q3,q4,rfl⟩:=Zf q2;obtain⟨c',p3,as3,q5,q6,rfl⟩:=Zf q4;obtain⟨rfl,rfl⟩:=Yp q6;obtain⟨t1,r1,l1,l2,rfl⟩:=Zy e2;obtain⟨t2,r2,l3,l4,rfl⟩:=Zy l2;obtain⟨t3,r3,l5,l6,rfl⟩:=Zy l4;cases l6;have ep:=Gw _ h3 q4;subst ep;obtain⟨b1,c1,e3⟩:=ZO.mp e3;refine kn opr opr ha hb hc hm XY s Z H Q I ⟨F,G,p,a',p1,rel,q1,fun F1 H1 x Rn u1 Ay Vk=>⟨F1,G,p1,b',_,Ay,q3,fun F2 H2 y W0 u2 Rc Bx=>?_⟩⟩;have s1:=Rc.look l1 (Ar.up u2 W0 Vk);have s2:=Rc.look l3 Bx;refine fun XY s σ' v u' I rx ry=>N9 _ I Rc.b.f un rx ry s1 s2 c1 ⟨b1,rfl, ?_⟩;cases b1 with
   | false=>cases e3;exact(kf (Rn.trans W0) (u1.trans u2)).h Rc rfl
   | true =>
    obtain⟨b2,c2,rfl⟩:=Yk.mp e3;refine⟨F2,G,_,c',_,Rc,q5,fun F3 H3 z qw u3 Q4 ar3=>?_⟩;exact fun XY s σ' v u' I rx ry=>N9 _ I Q4.b.f un rx ry (Q4.look l3 (Ar.up u3 qw Bx)) (Q4.look l5 ar3) c2 ((kf ((Rn.trans W0).trans qw) ((u1.trans u2).trans u3)).h Q4 rfl)
  .cases hv
 .replace hv:=lb hv
  obtain⟨a,pp,rfl,hv⟩:=hv;cases hv;cases hs with | cons ha _ t=>cases t with | nil =>
  refine pe_un un_neg ha XY s Z H Q I (Wh e1 e2 rel fun F2 H2 x t1 et l u Zl s1=>?_);subst et;cases t1<;>cases e3
  cases(show x=_ from s1);exact⟨_,rfl,(kf l u).h Zl rfl⟩
 .replace hv:=vIx_ex hv
  obtain⟨a,b,pp,rfl,hv⟩:=hv
  split at hv
  .rename_i hn
   cases hv;cases hs with | cons ha _ t=>cases t with | cons hb _ t=>cases t with | nil =>
   refine pe_ix ixr ha hb (y3 hn) XY s Z H Q I (Ws e1 e2 rel fun F2 H2 x y t1 t2 et l u Zl s1 s2=>?_);subst et;obtain⟨z,e4,rfl⟩:=Yk.mp e3;exact fun value slice XY s σ' v u' I rx ry hs=>ix_run I un rx ry s1 s2 e4 (fun v h=>(kf l u).h Zl h) hs
  .cases hv
 .replace hv:=jd hv
  obtain⟨a,l,qq,pp,rfl,hv⟩:=hv;cases hv;cases hs with | cons ha _ t=>cases t with | cons hb _ t=>cases t with | nil =>
  refine Ck slr ha (Tx hb) Ah XY s Z H Q I (Ws e1 e2 rel fun F2 H2 x y t1 t2 et l u Zl s1 s2=>?_);subst et;obtain⟨i,e4,e5⟩:=ZO.mp e3;cases t2<;>cases e4
  cases(show y=_ from s2);exact⟨_,rfl,fun XY s σ' v vl vu sl I rx hs pl pu=>Eo I Zl rx s1 hs pl pu e5 (kf l u)⟩
 .replace hv:=jc hv
  obtain⟨a,l,qq,pp,rfl,hv⟩:=hv;cases hv;cases hs with | cons ha _ t=>cases t with | cons hb _ t=>cases t with | nil =>
  refine Ck slr ha Ah (Tx hb) XY s Z H Q I (Ws e1 e2 rel fun F2 H2 x y t1 t2 et l u Zl s1 s2=>?_);subst et;obtain⟨i,e4,e5⟩:=ZO.mp e3;cases t2<;>cases e4
  cases(show y=_ from s2);exact⟨_,rfl,fun XY s σ' v vl vu sl I rx hs pl pu=>Eo I Zl rx s1 hs pl pu e5 (kf l u)⟩
 .replace hv:=jb hv
  obtain⟨a,l,u0,qq,pp,rfl,hv⟩:=hv;cases hv;cases hs with | cons ha _ t=>cases t with | cons hb _ t=>cases t with | cons hc _ t=>cases t with | nil =>
  obtain⟨a',p1,as1,q1,q2,rfl⟩:=Zf e1;obtain⟨b',p2,as2,q3,q4,rfl⟩:=Zf q2;obtain⟨c',p3,as3,q5,q6,rfl⟩:=Zf q4;obtain⟨rfl,rfl⟩:=Yp q6;obtain⟨t1,r1,l1,l2,rfl⟩:=Zy e2;obtain⟨t2,r2,l3,l4,rfl⟩:=Zy l2;obtain⟨t3,r3,l5,l6,rfl⟩:=Zy l4;cases l6;obtain⟨i,e4,e5⟩:=ZO.mp e3;obtain⟨j,e6,e7⟩:=ZO.mp e5;obtain rfl:t2=.int i:=by cases t2<;>cases e4;rfl
  obtain rfl:t3=.int j:=by cases t3<;>cases e6;rfl
  refine Ck slr ha (Tx hb) (Tx hc) XY s Z H Q I ⟨F,G,p,a',p1,rel,q1,fun F1 H1 x Rn u1 Ay Vk=>⟨F1,G,p1,b',p2,Ay,q3,fun F2 H2 y W0 u2 Rc Bx=>?_⟩⟩;have ep:=Gw _ h3 q4;subst ep;refine⟨i,Rc.look l3 Bx,F2,G,_,c',_,Rc,q5,fun F3 H3 z qw u3 Q4 ar3=>⟨j,Q4.look l5 ar3, ?_⟩⟩;exact fun XY s σ' v vl vu sl I rx hs pl pu=>Eo I Q4 rx (Q4.look l1 (Ar.up (u2.trans u3) (W0.trans qw) Vk)) hs pl pu e7 (kf (Rn.trans (W0.trans qw)) (u1.trans (u2.trans u3)))
 .replace hv:=j0 hv
  obtain⟨pp,rfl,hv⟩:=hv;cases hv;cases hs;obtain⟨rfl,rfl⟩:=Yp e1;cases e2;cases e3;exact kb XY s Z H Q I fun l hl=>let ⟨r1,r2⟩:=rel.newD (ts:=[]) (vs:=[]) hl (Bw _) rfl;kq F _ _ (Le.refl _) (Zp.lay hl).up r1 r2
 .rename_i n
  replace hv:=lh hv
  obtain⟨f,qq,a,k',q1,pp,rfl,hv⟩:=hv
  split at hv
  .rename_i ho
   cases hv;obtain⟨hf,g1,hk,g2⟩:=ho;subst hf hk;cases hs with | cons ha sa t=>cases t with | nil =>
   obtain⟨gg1,gd1⟩:=c.gl' g1;obtain⟨gg2,gd2⟩:=c.gl' g2;refine P6 du gg1 (c.bn _ (by decide +kernel)) (show bootBuiltins "isinstance" = some (.builtin "isinstance") by decide +kernel) (V3 ha (V3 (ko gg2 (c.bn _ (by cases n<;>decide +kernel)) (Zz5 n) (ic n) gd2) Mq rfl) (Z1 sa)) (by decide +kernel) gd1 (Z1 sa) rfl XY s Z H Q I (Wh e1 e2 rel fun F2 H2 x t1 et l u Zl s1=>?_);subst et;obtain⟨b,e4,rfl⟩:=Yk.mp e3;intro XY s σ' us I rs;obtain⟨v1,v2,rfl,r1,r2⟩:=vals2 rs;cases r2;exact ie I r1 s1 e4 ((kf l u).h Zl rfl)
  .cases hv
 .replace hv:=ji hv
  obtain⟨o,m,ap,a,b,cp,rfl,hv⟩:=hv
  split at hv
  .rename_i ho
   cases hv;obtain⟨hm,hn,hl⟩:=ho;subst hm;cases hs with | cons ha sa t=>cases t with | cons hb sb t=>cases t with | cons hc sc' t=>cases t with | nil =>
   obtain⟨a',p1,as1,q1,q2,rfl⟩:=Zf e1;have ep:=Gw _ h3 q2;subst ep;obtain⟨b',p2,as2,q3,q4,rfl⟩:=Zf q2;obtain⟨c',p3,as3,q5,q6,rfl⟩:=Zf q4;obtain⟨rfl,ep⟩:=Yp q6;subst ep;obtain⟨t1,r1,l1,l2,rfl⟩:=Zy e2;obtain⟨t2,r2,l3,l4,rfl⟩:=Zy l2;obtain⟨t3,r3,l5,l6,rfl⟩:=Zy l4;cases l6;cases t1<;>first | cases e3 | skip
   rename_i XG
   have e3:(if ctn t3=true then none else (keyT t2).map fun k=>Sl.f ((Y2 XG k).getD t3))=some r:=e3
   split at e3
   .cases e3
   rename_i hct
   obtain⟨kk,e4,rfl⟩:=Yk.mp e3;refine kc (by omega) ha hb hc ⟨Tr hn _ _ _,Ci (fun e m=>by rcases Y6.mp m with rfl | m;exact sb;cases Pz.mp m;exact sc') (Ru (Nat.lt_succ_self 2) (by decide)),hl,by rw[Z1 sb,Z1 sc'];rfl⟩ XY s Z H Q I ⟨F,G,p,a',_,rel,q1,fun F1 H1 x Rn u1 Ay Vk=>?_⟩;obtain⟨a,ks,rfl,h1,z1,ar⟩:=Ay.look l1 Vk;refine⟨a,rfl,.inl ⟨ks,h1⟩,F1,G,_,b',_,Ay,q3,fun F2 H2 y W0 u2 Rc Bx=>⟨F2,G,_,c',_,Rc,q5,fun F3 H3 z qw u3 Q4 ar3=>?_⟩⟩;obtain⟨a2,ks2,ea,h2,z2,ar'⟩:=Q4.look l1 (Ar.up (u2.trans u3) (W0.trans qw) Vk);cases ea;cases Tw e4 (Q4.look l3 (Ar.up u3 qw Bx));obtain⟨i1,i2⟩:=Z0.val kk ar';refine⟨_,.inl ⟨ks2,kk,h2,rfl,rfl⟩, ?_⟩;refine(kf (Rn.trans (W0.trans qw)) (u1.trans (u2.trans u3))).h Q4 ?_;cases e5:Y2 _ kk with
   | none =>
    rw[i2 e5];have s3:=Q4.look l5 ar3;cases t3 with
    | lst _=>exact absurd rfl hct
    | dct _=>exact absurd rfl hct
    | _=>exact s3
   | some t=>obtain⟨v,h3,h4⟩:=i1 t e5;rw[h3];exact h4
  .cases hv
 .replace hv:=ja hv
  obtain⟨y,k1,k2,m,ap,a,cp,rfl,hv⟩:=hv
  split at hv
  .rename_i ho
   cases hv;obtain⟨hm,hy,hl⟩:=ho;subst hm hy;cases hs with | cons ha sa t=>cases t with | nil =>
   refine Bg PySem.F.plainAttrs_str PySem.F.slot_str_join PySem.F.type_str_join (fun XY s Z H x xs v us Q I rx rs h=>o7 XY s Z H x xs v us Q I rx rs h) L8 (V3 ha Mq (Z1 sa)) rfl (Ci (fun e m=>by cases Pz.mp m;exact sa) (Ru (Nat.lt_succ_self 1) (by decide))) hl (Z1 sa) rfl XY s Z H Q I ⟨?_,Wh e1 e2 rel fun F2 H2 x t1 et l u Zl s1=>?_⟩
   .rfl
   subst et;cases t1<;>first | cases e3 | skip
   obtain⟨ss,e4,e5⟩:=ZO.mp e3
   split at e5
   .rename_i hz
    cases e5;obtain⟨a,vs,rfl,h1,z1,ar⟩:=s1;exact⟨_,a,ss,rfl,rfl,.inl (by rw[<-ar.strs e4];exact h1),hz,(kf l u).h Zl rfl⟩
   .cases e5
  .cases hv
 .replace hv:=jg hv
  obtain⟨a,jj,pp,rfl,hv⟩:=hv;cases hv;cases hs with | cons ha sa t=>cases t with | nil =>
  refine kz (V3 ha Mq (Z1 sa)) XY s Z H Q I (Wh e1 e2 rel fun F2 H2 x t1 et l u Zl s1=>?_);subst et;have e3:(if scal t1=true then some (Sl.f (.tup [t1])) else none)=some r:=e3
  split at e3
  .rename_i hz
   cases e3;have it:IsT X.K X.mg H2 F2 t1 x:=by cases t1<;>first | exact s1 | cases hz
   have one:(1:Nat)<=sizeLine:=by have:=sizeLine_eq;omega
   exact⟨one,fun q hq=>(kf l u).f Zl (Zp.lay hq) ⟨q,[x],rfl,Vc.of Zq,one,Zx.up (Zp.lay hq).up (Le.refl _) _ _ (Zx.one it)⟩⟩
  .cases e3
 .replace hv:=lu hv
  obtain⟨a,b,r',pp,rfl,hv⟩:=hv;have ep:=Gw _ h3 e1;subst ep;obtain⟨z,e4,rfl⟩:=Yk.mp (show (Gd Str.empty _ ts).map _=some r from e3);exact JoinedStr_many (Tc _ _ hv hs h3 e1 e2 e4 (Bw _) I rel fun F2 H2 l u Zl=>(kf l u).h Zl rfl)
 .replace hv:=Ht hv
  obtain⟨o,m,ap,a,bs,cp,rfl,hv⟩:=hv
  split at hv
  .rename_i ho
   cases hv;obtain⟨hm,hn,hl,hc,hz,hb⟩:=ho;subst hm;obtain⟨k1,k2,rfl⟩:=Tn hc;obtain rfl:bs=[]:=List.eq_nil_of_length_eq_zero hb;cases hs with | cons ha sa t=>cases t with | nil =>
   refine Bg PySem.F.plainAttrs_str PySem.F.slot_str_split PySem.F.type_str_split (fun XY s Z H x xs v us Q I rx rs h=>zh hz XY s Z H x xs v us Q I rx rs h) ha (V3 L8 Mq rfl) (T2 hn _ _ _) rfl hl rfl rfl XY s Z H Q I (Wh e1 e2 rel fun F2 H2 x t1 et l u Zl s1=>?_);subst et;cases t1<;>first | cases e3 | skip
   rename_i y
   have e3:(if y.length+2<=sizeLine then some (Sl.o (.lst ((Txt.split y _).map .str))) else none)=some r:=e3
   split at e3
   .rename_i hy
    cases e3;cases(show x=.str y from s1);exact⟨rfl,y,rfl,rfl,hy,fun a ha=>(kf l u).l Zl ha (by rw[Zn];exact Eu hy) (Bz _)⟩
   .cases e3
  .cases hv
 .replace hv:=Ht hv
  obtain⟨o,m,ap,a,bs,cp,rfl,hv⟩:=hv
  split at hv
  .rename_i ho
   cases hv;obtain⟨hm,hn,hl,hc,hz,hb⟩:=ho;subst hm;obtain⟨k1,k2,rfl⟩:=Tn hc;obtain⟨b1,rfl⟩:∃b,bs=[b]:=List.length_eq_one_iff.mp hb;cases hs with | cons ha sa t=>cases t with | cons hb' sb t=>cases t with | nil =>
   obtain⟨a',p1,as1,q1,q2,rfl⟩:=Zf e1;have ep:=Gw _ h3 q2;subst ep;obtain⟨b',p2,as2,q3,q4,rfl⟩:=Zf q2;obtain⟨rfl,rfl⟩:=Yp q4;obtain⟨t1,r1,l1,l2,rfl⟩:=Zy e2;obtain⟨t2,r2,l3,l4,rfl⟩:=Zy l2;cases l4;cases t1<;>first | cases e3 | skip
   rename_i y
   cases t2<;>first | cases e3 | skip
   rename_i n
   have e3:(if 0<=n/\n<2 ^ 62/\y.length+2<=sizeLine then some (Sl.o (.lst ((Txt.splitMax y _ n).map .str))) else none)=some r:=e3
   split at e3
   .rename_i hy
    cases e3;refine Bg PySem.F.plainAttrs_str PySem.F.slot_str_split PySem.F.type_str_split (fun XY s Z H x xs v us Q I rx rs h=>zr hz XY s Z H x xs v us Q I rx rs h) ha (V3 L8 (V3 hb' Mq (Z1 sb)) rfl) (T2 hn _ _ _) (Ci (fun e m=>by rcases Y6.mp m with rfl | m;rfl;cases Pz.mp m;exact sb) (Ru (Nat.lt_succ_self 2) (by decide))) hl rfl (Ys _ _ _ fun e m=>by cases Pz.mp m;exact sb) XY s Z H Q I ⟨F,G,p,a',_,rel,q1,fun F1 H1 x Rn u1 Ay Vk=>?_⟩;cases(show x=.str y from Ay.look l1 Vk);refine⟨rfl,F1,G,_,b',_,Ay,q3,fun F2 H2 v2 W0 u2 Rc Bx=>?_⟩;cases(show v2=.int n from Rc.look l3 Bx);exact⟨y,n,rfl,rfl,hy.1,hy.2.1,hy.2.2,fun a ha=>(kf (Rn.trans W0) (u1.trans u2)).l Rc ha (by rw[Zn];exact Ea hy.2.2) (Bz _)⟩
   .cases e3
  .cases hv
 .replace hv:=lq hv
  obtain⟨o,m,ap,a,cp,rfl,hv⟩:=hv
  split at hv
  .rename_i ho
   cases hv;obtain⟨hm,hn,hl⟩:=ho;subst hm;cases hs with | cons ha sa t=>cases t with | cons hb sb t=>cases t with | nil =>
   obtain⟨a',p1,as1,q1,q2,rfl⟩:=Zf e1;have ep:=Gw _ h3 q2;subst ep;obtain⟨b',p2,as2,q3,q4,rfl⟩:=Zf q2;obtain⟨rfl,rfl⟩:=Yp q4;obtain⟨t1,r1,l1,l2,rfl⟩:=Zy e2;obtain⟨t2,r2,l3,l4,rfl⟩:=Zy l2;cases l4;cases t1<;>first | cases e3 | skip
   rename_i y
   obtain⟨z,rfl⟩:∃z,t2=.str z:=by cases t2<;>first | exact⟨_,rfl⟩ | cases e3
   cases e3;refine Bg PySem.F.plainAttrs_str PySem.F.slot_str_startswith PySem.F.type_str_startswith (fun XY s Z H x xs v us Q I rx rs h=>zc XY s Z H x xs v us Q I rx rs h) ha (V3 hb Mq (Z1 sb)) (T2 hn _ _ _) (Ci (fun e m=>by cases Pz.mp m;exact sb) (Ru (Nat.lt_succ_self 1) (by decide))) hl (Z1 sb) rfl XY s Z H Q I ⟨F,G,p,a',_,rel,q1,fun F1 H1 x Rn u1 Ay Vk=>?_⟩;cases(show x=.str y from Ay.look l1 Vk);refine⟨rfl,F1,G,_,b',_,Ay,q3,fun F2 H2 v2 W0 u2 Rc Bx=>?_⟩;cases(show v2=.str z from Rc.look l3 Bx);exact⟨y,z,rfl,rfl,(kf (Rn.trans W0) (u1.trans u2)).h Rc rfl⟩
  .cases hv
 .replace hv:=js hv
  obtain⟨f,p0,o,m,ap,cp,pp,rfl,hv⟩:=hv
  split at hv
  .rename_i ho
   cases hv;obtain⟨hf,g1,hm,hn,hl⟩:=ho;subst hf hm;cases hs with | cons ha sa t=>cases t with | nil =>
   obtain⟨gg,gd⟩:=c.gl' g1;refine ag c.calm gg (c.bn _ (by decide +kernel)) ha (T2 hn _ _ _) hl XY s Z H Q I ⟨Wh e1 e2 rel fun F2 H2 x t1 et l u Zl s1=>?_⟩;subst et;cases t1 with
   | dct XG =>
    obtain⟨ss,e4,e5⟩:=ZO.mp (show (Ro XG).bind _=some r from e3)
    split at e5
    .rename_i hz
     cases e5;obtain⟨a,ks,rfl,h1,z1,ar⟩:=s1;have ek:ks.map (·.1)=ss.map Sum.inr:=by rw[<-ar.keys];exact rj e4
     have kl:ks.length=ss.length:=by rw[<-Zn (f:=(·.1)),ek,Zn]
     refine⟨a,ks,ss,rfl,h1,ek,hz.1,hz.2,fun D as pp q1 q2 q3 q4 q5 q6 q7 q8=>?_⟩;have sm:Zp H2 (lays H2 as ks):=fun b o e=>by rw[Tj fun m=>by rw[q5 b m]at e;cases e];exact e
     have line:=sizeLine_eq;refine Fin.l (F:=F2) (H:=lays H2 as ks) (fun F' H' v l' u'=>kf l u F' H' v l' (sm.up.trans u')) (Zl.same sm) (by rw[Tj q3];exact q4) (by rw[Zn,q7];omega) ?_;rw[<-q8,List.map_map];refine S1 _ fun i m=>?_;have hi:=q6 i m;obtain⟨t,g1,g2⟩:=Ph e4 hz.1 i hi;obtain⟨v,g3,g4⟩:=(Z0.valT ar).get g1;have e6:ks[i]?=some (ks[i]'(by omega)):=Dx (by omega);have e7:(ks[i]'(by omega)).2=v:=by rw[Bo,e6]at g3;exact D8 g3
     have e8:(ks[i]'(by omega)).1=.inr (ss.getD i SRT.eS):=by
      have:=congrArg (·[i]?) ek;rw[Bo,Bo,e6,Dx hi]at this;rw[List.getD_eq_getElem?_getD,Dx hi];exact D8 this
     have Wf:=Oy (H:=H2) q2 q1 e6;rw[e7,e8]at Wf;show IsT X.K X.mg _ F2 (.tup [.str (ss.getD i SRT.eS),(Y2 XG (.inr (ss.getD i SRT.eS))).getD .non]) _;rw[g2];exact⟨_,[.str (ss.getD i SRT.eS),v],rfl,Vc.of Wf,by show 2<=sizeLine;omega,_,_,rfl,rfl,_,_,rfl,IsT.up sm.up (Le.refl F2) t v g4,rfl⟩
    .cases e5
   | _=>cases e3
  .cases hv
 .replace hv:=vBt_ex hv
  obtain⟨f,p0,a,r',pp,rfl,hv⟩:=hv
  split at hv
  .rename_i n fv hb
   split at hv
   .rename_i ho
    cases hv;obtain⟨hf,g1⟩:=ho;subst hf;obtain⟨b1,b2,b3,b4⟩:=Zz4 hb;obtain⟨gg,gd⟩:=c.gl' g1;have Tf:=hs.star;have fin:LA X.K X.mg w true es Z H fun vs H1=>rC X fv vs H1 Q:=readN e1 e2 rel fun F2 H2 vs l u Zl se=>fun XY s σ' us I rs=>bt_run hb c.calm un c.room.gd I Zl rs se e3 (kf l u);rcases b4 with ⟨i,rfl⟩ | ⟨i,rfl⟩
    .exact P6 du gg (c.bn _ b3) b1 hs.pa b2 gd (Z1 (Tf _ Ye)) (Ys _ _ _ fun e m=>Tf e (Vi _ m)) XY s Z H Q I fin
    .exact zg du gg (c.bn _ b3) b1 hs.pa b2 gd (Z1 (Tf _ Ye)) (Ys _ _ _ fun e m=>Tf e (Vi _ m)) XY s Z H Q I fin
   .cases hv
  .cases hv
end
noncomputable def conK(t:T)(c:PySem.Const):Bool:=match t with
 | .int i=>(match c with
  | .int j=>i == j
  | _=>false)
 | .str a=>(match c with
  | .str b=>a == b
  | _=>false)
 | .bl a=>(match c with
  | .bool b=>a == b
  | _=>false)
 | .non=>(match c with
  | .none=>true
  | _=>false)
 | _=>false
def repK(t:T)(x:Expr):Bool:=match x with
 | .Constant c _ _=>conK t c
 | _=>false
def isIo:E->Bool
 | .io _=>true
 | _=>false
def U7:E->Bool
 | .cons a r=>!isIo a && U7 r
 | _=>true
section
variable{X:Cx}{w:W}{k:Nat}{N:ZD}{sc:ZK}
theorem snd_k{t:T}{x:Expr}(h:repK t x=true):PE X x (LE X.K X.mg w (.k t)):=by
 have fin:∀{v:V},(∀H F,IsT X.K X.mg H F t v)->∀Z H Q,LE X.K X.mg w (.k t) Z H Q->tC v Z H Q:=fun hv Z H Q ⟨F,G,p,r,p',rel,e,kq⟩=>by
  cases e;exact kq F H _ (Le.refl F) (Up.refl H) rel (hv H F)
 cases x with
 | Constant c q pos =>
  replace h:conK t c=true:=h
  cases t with
  | int i=>cases c with
   | int j=>cases eq_of_beq (show (i == j)=true from h);exact PE.imp pe_int (fin fun _ _=>rfl)
   | _=>cases(show false=true from h)
  | str i=>cases c with
   | str j=>cases eq_of_beq (show (i == j)=true from h);exact PE.imp L8 (fin fun _ _=>rfl)
   | _=>cases(show false=true from h)
  | bl i=>cases c with
   | bool j=>cases eq_of_beq (show (i == j)=true from h);exact PE.imp pe_bl (fin fun _ _=>rfl)
   | _=>cases(show false=true from h)
  | non=>cases c with
   | none=>exact PE.imp pe_non (fin fun _ _=>rfl)
   | _=>cases(show false=true from h)
  | _=>cases(show false=true from h)
 | _=>cases(show false=true from h)
theorem snd_g(c:Ctx X w k N sc){x y:Str}{pos:Pos}(h:(x == y && W7 sc y)=true):PE X (.Name y pos) (LE X.K X.mg w (.g x)):=by
 rw[Y8,beq_iff_eq]at h;obtain⟨rfl,h⟩:=h;obtain⟨g1,g2⟩:=c.gl' h;intro XY s Z H Q I ⟨F,G,p,r,p',rel,e,kq⟩
 replace e:=(ev_gQ _).symm.trans e
 obtain⟨t,e1,e2⟩:=Yk.mp e;cases e2;obtain⟨v,u,h1,h2,h3⟩:=c.gl x t e1;exact af g1 h1 h2 g2 XY s Z H Q I (kq F H v (Le.refl F) (Up.refl H) rel (h3 H F))
theorem Ag{F G H:Hp}{p p':P}{Z:L2.St}{i:Nat}{t:T}(rel:Rel X.K X.mg F G p Z H)(e:read p i=some (t,p')):∃F' v,Le F F'/\Rel X.K X.mg F' G p' Z H/\Z[i]?=some (some v)/\IsT X.K X.mg H F' t v:=by
 unfold read at e
 split at e
 .rename_i u q
  cases e;obtain⟨v,h1,h2⟩:=rel.fz i _ q;exact⟨F,v,Le.refl F,rel,h1,h2⟩
 .rename_i u q
  cases e;exact rel.freezeAt q
 .cases e
theorem snd_v(c:Ctx X w k N sc){i:Nat}{y:Str}{pos:Pos}(h:Jj N sc i y=true):PE X (.Name y pos) (LE X.K X.mg w (.v i)):=by
 intro XY s Z H Q I ⟨F,G,p,r,p',rel,e,kq⟩
 replace e:=(ev_vQ _).symm.trans e
 obtain⟨q,e1,e2⟩:=Yk.mp e;cases e2;obtain⟨F',v,l,Yj,hv,ht⟩:=Ag rel e1;exact c.var h XY s Z H Q I ⟨v,hv,kq F' H v l (Up.refl H) Yj ht⟩
theorem snd_mv(c:Ctx X w k N sc){i:Nat}{y:Str}{pos:Pos}(h:Jj N sc i y=true):PE X (.Name y pos) (LE X.K X.mg w (.mv i)):=by
 intro XY s Z H Q I ⟨F,G,p,r,p',rel,e,kq⟩
 replace e:=(ev_mvQ _).symm.trans e
 split at e
 .rename_i t q
  cases e;obtain⟨a,h1,h2,h3,h4⟩:=rel.ow i t q;refine c.var h XY s Z H Q I ⟨.ref a,h1,kq F H _ (Le.refl F) (Up.refl H) (rel.drop i) ⟨a,rfl,h2,h3,h4,fun j u e z=>?_⟩⟩;rcases Zr e with ⟨_,y⟩ | ⟨n,e⟩
  .cases y
  .exact n (rel.ap j i u t a e q z h1)
 .rename_i t q
  cases e;obtain⟨v,h1,h2⟩:=rel.fz i t q;exact c.var h XY s Z H Q I ⟨v,h1,kq F H _ (Le.refl F) (Up.refl H) rel h2⟩
 .cases e
theorem snd_hd{m:Bool}{a:E}{x:Expr}(hio:∀i,a≠.io i)(hv:∀i,a≠.v i)(h:PE X x (LE X.K X.mg w a)):PE X x (LH X.K X.mg w m a):=by
 intro XY s Z H Q I ⟨F,G,p,a',p',rel,e,kq⟩
 have e:(toT (ev w a p)).map (fun q=>(A.t q.1,q.2))=some (a',p'):=by
  unfold Ol at e
  split at e
  .exact absurd rfl (hio _)
  .exact absurd rfl (hv _)
  .exact e
 obtain⟨z,e1,e2⟩:=Yk.mp e;cases e2;unfold toT at e1;obtain⟨y,e3,e4⟩:=ZO.mp e1;obtain⟨t,e5,e6⟩:=Yk.mp e4;cases e6;refine h XY s Z H Q I ⟨F,G,p,y.1,y.2,rel,e3,fun F1 H1 v l1 u1 Zt rs=>?_⟩;obtain⟨F2,l2,Zl,ht⟩:=Zt.thaw e5 rs;exact kq F2 H1 v (l1.trans l2) u1 Zl ht
theorem snd_hv(c:Ctx X w k N sc){m:Bool}{i:Nat}{y:Str}{pos:Pos}(h:Jj N sc i y=true):PE X (.Name y pos) (LH X.K X.mg w m (.v i)):=by
 intro XY s Z H Q I ⟨F,G,p,a',p',rel,e,kq⟩;unfold Ol at e;dsimp only at e
 split at e
 .split at e
  .rename_i hd
   cases e;unfold done at hd
   split at hd
   .rename_i t q
    obtain⟨v,h1,h2⟩:=rel.fz i t q;exact c.var h XY s Z H Q I ⟨v,h1,kq F H v (Le.refl F) (Up.refl H) rel h1⟩
   .rename_i t q
    obtain⟨a,h1,_⟩:=rel.ow i t q;exact c.var h XY s Z H Q I ⟨_,h1,kq F H _ (Le.refl F) (Up.refl H) rel h1⟩
   .cases hd
  .cases e
 .obtain⟨q,e1,e2⟩:=Yk.mp e;cases e2;obtain⟨F',v,l,Yj,hv,ht⟩:=Ag rel e1;exact c.var h XY s Z H Q I ⟨v,hv,kq F' H v l (Up.refl H) Yj ht⟩
theorem Ct:∀(es:E) {xs:ZC},Hs X w false es xs->∀{p p':P} {as:List A},Jl w false es p=some (as,p')->U7 es=true->∀a∈as,∃t,a=A.t t
 | _,_,.nil,p,p',as,e,_,a,m=>by rw[(Yp e).1]at m;exact absurd m Vy
 | .cons b r,_,.cons _ _ t,p,p',as,e,h,a,m=>by
  obtain⟨a',p1,as',e1,e2,rfl⟩:=Zf e;have h:(!isIo b && U7 r)=true:=h;rw[Y8]at h;rcases Y6.mp m with rfl | m
  .have key:∀x,Ol false b p x=some (a,p1)->isIo b=false->∃t,a=A.t t:=fun x e h=>by
    unfold Ol at e
    split at e
    .cases h
    .obtain⟨q,_,e3⟩:=Yk.mp (show (read p _).map _=_ from e);cases e3;exact⟨_,rfl⟩
    .obtain⟨q,_,e3⟩:=Yk.mp e;cases e3;exact⟨_,rfl⟩
   exact key _ e1 (by simpa using h.1)
  .exact Ct r t e2 h.2 a m
theorem so{es:E}{xs:ZC}{j:Nat}{pos:Pos}(hs:Hs X w false es xs)(hn:U7 es=true):PE X (.Tuple xs j pos) (LE X.K X.mg w (.tup es)):=by
 intro XY s Z H Q I ⟨F,G,p,r,p',rel,e,kq⟩
 replace e:=(Zzc _).symm.trans e
 obtain⟨a,e1,e⟩:=ZO.mp e;obtain⟨ts,e2,e⟩:=ZO.mp e
 split at e
 .rename_i hz
  cases e;have nt:=Ct es hs e1 hn;refine kz hs.pa XY s Z H Q I ⟨F,G,p,a.1,a.2,rel,e1,fun F1 H1 vs l1 u1 Zt ar=>?_⟩;have at':=Ng nt e2 ar;refine⟨by rw[<-at'.length];exact hz,fun q hq=>kq F1 _ _ l1 (u1.trans (Zp.lay hq).up) (Zt.same (Zp.lay hq)) ⟨q,vs,rfl,Vc.of Zq,by rw[<-at'.length];exact hz,Zx.up (Zp.lay hq).up (Le.refl _) _ _ at'⟩⟩
 .cases e
theorem pj{es:E}{xs:ZC}{pos:Pos}(hs:Hs X w false es xs)(hn:U7 es=true):PE X (.List xs pos) (LE X.K X.mg w (.lst es)):=by
 intro XY s Z H Q I ⟨F,G,p,r,p',rel,e,kq⟩
 replace e:=(Zzl _).symm.trans e
 obtain⟨a,e1,e⟩:=ZO.mp e;obtain⟨ts,e2,e⟩:=ZO.mp e
 split at e
 .rename_i hz
  cases e;have nt:=Ct es hs e1 hn;refine pe_lst hs.pa XY s Z H Q I ⟨F,G,p,a.1,a.2,rel,e1,fun F1 H1 vs l1 u1 Zt ar=>?_⟩;have at':=Ng nt e2 ar;have z:vs.length<=sizeLine:=by rw[<-at'.length];exact hz
  exact⟨z,fun q hq=>let ⟨r1,r2⟩:=Zt.newL hq z at';kq F1 _ _ l1 (u1.trans (Zp.lay hq).up) r1 r2⟩
 .cases e
theorem Zx4{e:E}{Z:L2.St}{H:Hp}{R:Bool->Hp->Prop}(h:LB X.K X.mg w e Z H R):LE X.K X.mg w e Z H fun v H'=>∃b,v=.bl b/\R b H':=by
 obtain⟨F,G,p,b,p',rel,e,kq⟩:=h;unfold Gn at e;obtain⟨y,e1,e2⟩:=ZO.mp e
 split at e2
 .rename_i b' q
  cases e2;refine⟨F,G,p,y.1,y.2,rel,e1,fun F' H' v l u Yj rs=>?_⟩;rw[q]at rs;exact⟨_,rs,kq F' H' l u Yj⟩
 .cases e2
theorem Zxt{e:E}{x:Expr}(h:PE X x (LE X.K X.mg w e))(he:∀whole,isTrue x X.env whole=(do let v <-whole;standAt x.pos;holding [v] (truthy v))):PT X x (LB X.K X.mg w e):=fun XY s Z H R I q=>by
 refine pt_val h he XY s Z H R I ?_;obtain⟨F,G,p,r,p',rel,e,kq⟩:=Zx4 q;exact⟨F,G,p,r,p',rel,e,fun F' H' v l u Yj rs=>let ⟨b,e1,h1⟩:=kq F' H' v l u Yj rs;⟨b,e1,h1⟩⟩
theorem Nh{o:Option (Sl×P)}{b:Bool}{p:P}(h:Gn o=some (b,p)):o=some (.f (.bl b),p):=by
 unfold Gn at h;obtain⟨y,e1,e2⟩:=ZO.mp h
 split at e2
 .rename_i b' q
  cases e2;rw[e1, <-q]
 .cases e2
theorem snd_and{a b:E}{x y:Expr}{r:ZC}{pos:Pos}(ha:PE X x (LE X.K X.mg w a))(hb:PE X (.BoolOp .And (y::r) pos) (LE X.K X.mg w b)):PE X (.BoolOp .And (x::y::r) pos) (LE X.K X.mg w (.and a b)):=by
 intro XY s Z H Q I ⟨F,G,p,r',p',rel,e,kq⟩
 replace e:=(Ir _ _).symm.trans e
 obtain⟨q,e1,e2⟩:=ZO.mp e;refine pe_and ha hb XY s Z H Q I ⟨F,G,p,_,_,rel,Nh e1,fun F' H' v l u Yj rs=>⟨q.1,rs, ?_⟩⟩
 split
 .rename_i hq
  rw[if_pos hq]at e2;exact⟨F',G,q.2,r',p',Yj,e2,fun F2 H2 v l2 u2=>kq F2 H2 v (l.trans l2) (u.trans u2)⟩
 .rename_i hq
  rw[if_neg hq]at e2;cases e2;exact kq F' H' _ l u Yj rfl
theorem snd_or{a b:E}{x y:Expr}{r:ZC}{pos:Pos}(ha:PE X x (LE X.K X.mg w a))(hb:PE X (.BoolOp .Or (y::r) pos) (LE X.K X.mg w b)):PE X (.BoolOp .Or (x::y::r) pos) (LE X.K X.mg w (.or a b)):=by
 intro XY s Z H Q I ⟨F,G,p,r',p',rel,e,kq⟩
 replace e:=(me _ _).symm.trans e
 obtain⟨q,e1,e2⟩:=ZO.mp e;refine pe_or ha hb XY s Z H Q I ⟨F,G,p,_,_,rel,Nh e1,fun F' H' v l u Yj rs=>⟨q.1,rs, ?_⟩⟩
 split
 .rename_i hq
  rw[if_pos hq]at e2;cases e2;exact kq F' H' _ l u Yj rfl
 .rename_i hq
  rw[if_neg hq]at e2;exact⟨F',G,q.2,r',p',Yj,e2,fun F2 H2 v l2 u2=>kq F2 H2 v (l.trans l2) (u.trans u2)⟩
theorem pq{a:E}{x:Expr}{pos:Pos}(ha:PE X x (LE X.K X.mg w a)):PE X (.UnaryOp .Not x pos) (LE X.K X.mg w (.not a)):=by
 intro XY s Z H Q I ⟨F,G,p,r',p',rel,e,kq⟩
 replace e:=(Il _).symm.trans e
 obtain⟨q,e1,e2⟩:=Yk.mp e;cases e2;exact pe_not ha XY s Z H Q I ⟨F,G,p,_,_,rel,Nh e1,fun F' H' v l u Yj rs=>⟨q.1,rs,kq F' H' _ l u Yj rfl⟩⟩
theorem pk{a b c:E}{x y z:Expr}{pos:Pos}(hc:PT X z (LB X.K X.mg w c))(ha:PE X x (LE X.K X.mg w a))(hb:PE X y (LE X.K X.mg w b)):PE X (.IfExp z x y pos) (LE X.K X.mg w (.ite c a b)):=by
 intro XY s Z H Q I ⟨F,G,p,r',p',rel,e,kq⟩
 replace e:=(Zzs _ _ _).symm.trans e
 obtain⟨q,e1,e2⟩:=ZO.mp e;refine kg hc ha hb XY s Z H Q I ⟨F,G,p,q.1,q.2,rel,e1,fun F' H' l u Yj=>?_⟩;show if q.1=true then LE X.K X.mg w a Z H' Q else LE X.K X.mg w b Z H' Q
 split
 .rename_i hq
  rw[if_pos hq]at e2;exact⟨F',G,q.2,r',p',Yj,e2,fun F2 H2 v l2 u2=>kq F2 H2 v (l.trans l2) (u.trans u2)⟩
 .rename_i hq
  rw[if_neg hq]at e2;exact⟨F',G,q.2,r',p',Yj,e2,fun F2 H2 v l2 u2=>kq F2 H2 v (l.trans l2) (u.trans u2)⟩
theorem r8{a b:E}{x y:Expr}{r:ZC}{pos:Pos}(ha:PT X x (LB X.K X.mg w a))(hb:PW X (.BoolOp .And (y::r) pos) (LB X.K X.mg w b)):PW X (.BoolOp .And (x::y::r) pos) (LB X.K X.mg w (.and a b)):=by
 intro wh XY s Z H Q I ⟨F,G,p,c,p',rel,e,kq⟩;have e:=Nh e
 replace e:=(Ir _ _).symm.trans e
 obtain⟨q,e1,e2⟩:=ZO.mp e;refine pw_and ha hb wh XY s Z H Q I ⟨F,G,p,q.1,q.2,rel,e1,fun F' H' l u Yj=>?_⟩;show if q.1=true then LB X.K X.mg w b Z H' Q else Q false H'
 split
 .rename_i hq
  rw[if_pos hq]at e2;exact⟨F',G,q.2,c,p',Yj,by unfold Gn;rw[e2];rfl,fun F2 H2 l2 u2=>kq F2 H2 (l.trans l2) (u.trans u2)⟩
 .rename_i hq
  rw[if_neg hq]at e2;cases e2;exact kq F' H' l u Yj
theorem snt_or{a b:E}{x y:Expr}{r:ZC}{pos:Pos}(ha:PT X x (LB X.K X.mg w a))(hb:PW X (.BoolOp .Or (y::r) pos) (LB X.K X.mg w b)):PW X (.BoolOp .Or (x::y::r) pos) (LB X.K X.mg w (.or a b)):=by
 intro wh XY s Z H Q I ⟨F,G,p,c,p',rel,e,kq⟩;have e:=Nh e
 replace e:=(me _ _).symm.trans e
 obtain⟨q,e1,e2⟩:=ZO.mp e;refine pw_or ha hb wh XY s Z H Q I ⟨F,G,p,q.1,q.2,rel,e1,fun F' H' l u Yj=>?_⟩;show if q.1=true then Q true H' else LB X.K X.mg w b Z H' Q
 split
 .rename_i hq
  rw[if_pos hq]at e2;cases e2;exact kq F' H' l u Yj
 .rename_i hq
  rw[if_neg hq]at e2;exact⟨F',G,q.2,c,p',Yj,by unfold Gn;rw[e2];rfl,fun F2 H2 l2 u2=>kq F2 H2 (l.trans l2) (u.trans u2)⟩
theorem ra{a:E}{x:Expr}{pos:Pos}(ha:PT X x (LB X.K X.mg w a)):PT X (.UnaryOp .Not x pos) (LB X.K X.mg w (.not a)):=by
 intro XY s Z H Q I ⟨F,G,p,c,p',rel,e,kq⟩;have e:=Nh e
 replace e:=(Il _).symm.trans e
 obtain⟨q,e1,e2⟩:=Yk.mp e;cases e2;exact pt_not ha XY s Z H Q I ⟨F,G,p,q.1,q.2,rel,e1,fun F' H' l u Yj=>kq F' H' l u Yj⟩
open Classical in
theorem Rel.freezeAll{K:PySem.W.Frag}{mg:ZV}{F G H:Hp}{p:P}{Z:L2.St}(r:Rel K mg F G p Z H):∃F',Le F F'/\Rel K mg F' G (frz p) Z H/\∀(i:Nat) (t:T) (a:Addr),p[i]?=some (Sl.o t)->Z[i]?=some (some (V.ref a))->F' a=H a:=by
 let F':Hp:=fun a=>if ∃(i:Nat) (t:T),p[i]?=some (Sl.o t)/\Z[i]?=some (some (V.ref a)) then H a else F a
 have fI:∀{a:Addr} {i:Nat} {t:T},p[i]?=some (Sl.o t)->Z[i]?=some (some (V.ref a))->F' a=H a:=fun {a i t} h1 h2=>if_pos ⟨i,t,h1,h2⟩;have fO:∀{a:Addr},(¬ ∃(i:Nat) (t:T),p[i]?=some (Sl.o t)/\Z[i]?=some (some (V.ref a)))->F' a=F a:=fun {a} h=>if_neg h
 have l:Le F F':=fun a o e=>by
  refine(fO fun⟨i,t,h1,h2⟩=>?_).trans e;obtain⟨b,h3,h4,_⟩:=r.ow i t h1;rw[h2]at h3;cases h3;rw[e]at h4;cases h4
 refine⟨F',l,⟨⟨fun a o e=>?_,r.b.g,fun a e=>?_,fun T e=>let ⟨f1,g1,t1⟩:=r.b.t T e;⟨(fO fun⟨i,t,h1,h2⟩=>by
  obtain⟨b,h3,_,_,h4⟩:=r.ow i t h1;rw[h2]at h3;cases h3;exact h4.ne t1 rfl).trans f1,g1,t1⟩⟩,fun i t e=>?_,fun i t e=>?_,fun i j t u a e=>?_,by unfold frz;rw[Zn];exact r.ln⟩,fun i t a h1 h2=>fI h1 h2⟩
 .by_cases h:∃(i:Nat) (t:T),p[i]?=some (Sl.o t)/\Z[i]?=some (some (V.ref a))
  .obtain⟨i,t,h1,h2⟩:=h;rw[fI h1 h2]at e;exact e
  .rw[fO h]at e;exact r.b.f a o e
 .by_cases h:∃(i:Nat) (t:T),p[i]?=some (Sl.o t)/\Z[i]?=some (some (V.ref a))
  .obtain⟨i,t,h1,h2⟩:=h;obtain⟨b,h3,_,h5,_⟩:=r.ow i t h1;rw[h2]at h3;cases h3;exact h5
  .rw[fO h]at e;exact r.b.d a e
 .unfold frz at e;rw[Bo]at e;obtain⟨x,e1,e2⟩:=Yk.mp e;cases x with
  | no=>cases e2
  | f u =>
   cases e2;obtain⟨v,h1,h2⟩:=r.fz i _ e1;exact⟨v,h1,IsT.up (Up.refl H) l _ v h2⟩
  | o u =>
   cases e2;obtain⟨a,h1,h2,h3,h4⟩:=r.ow i _ e1;obtain⟨o,ho⟩:=h4.some;exact⟨_,h1,Cg h4 ho l ((fI e1 h1).trans ho)⟩
 .unfold frz at e;rw[Bo]at e;obtain⟨x,e1,e2⟩:=Yk.mp e;cases x<;>cases e2
 .unfold frz at e;rw[Bo]at e;obtain⟨x,e1,e2⟩:=Yk.mp e;cases x<;>cases e2
theorem Pf{o:Option (Sl×P)}{q:T×P}(e:toF o=some q):∃y:Sl×P,o=some y/\y=(.f q.1,q.2):=by
 unfold toF at e;obtain⟨⟨r,p⟩,e1,e2⟩:=ZO.mp e;cases r with
 | f t=>cases e2;exact⟨_,e1,rfl⟩
 | _=>cases e2
theorem pz{a:E}{x:Expr}(ha:PE X x (LE X.K X.mg w a)):PE X x (LE X.K X.mg w (.tmp a)):=by
 intro XY s Z H Q I ⟨F,G,p,r,p',rel,e,kq⟩
 replace e:=(Zzn _).symm.trans e
 obtain⟨q,e1,e2⟩:=ZO.mp e
 split at e2
 .rename_i hs
  cases e2;obtain⟨F1,l1,Zt,own⟩:=rel.freezeAll;obtain⟨⟨y,p1⟩,e3,e4⟩:=Pf e1;cases e4;refine ha XY s Z H Q I ⟨F1,G,frz _,_,_,Zt,e3,fun F2 H2 v l2 u2 Zl rs=>?_⟩;obtain⟨F3,l3,Mx,ht⟩:=Zl.thaw (t:=q.1) rfl rs;have l13:=l2.trans l3
  have rel0:Rel X.K X.mg F G _ Z H2:=⟨⟨fun a o e=>Mx.b.f a o (l13 a o (l1 a o e)),Mx.b.g,rel.b.d,fun T e=>⟨(rel.b.t T e).f,(rel.b.t T e).g,(Mx.b.t T e).h⟩⟩,fun i t e=>let ⟨v,h1,h2⟩:=rel.fz i t e;⟨v,h1,IsT.up u2 (Le.refl F) t v h2⟩,fun i t e=>by
   obtain⟨a,h1,h2,h3,h4⟩:=rel.ow i t e;obtain⟨o,ho⟩:=h4.some;exact⟨a,h1,h2,h3,h4.up u2 (Le.refl F) ((Mx.b.f a o (l13 a o ((own i t a e h1).trans ho))).trans ho.symm)⟩,rel.ap,rel.ln⟩
  refine kq F H2 v (Le.refl F) u2 rel0 ?_;obtain⟨t,_⟩:=q;cases t<;>first | exact ht | cases hs
 .cases e2
theorem rp{a:E}{x:Expr}(ha:PT X x (LB X.K X.mg w a)):PT X x (LB X.K X.mg w (.tmp a)):=by
 intro XY s Z H Q I ⟨F,G,p,b,p',rel,e,kq⟩;unfold Gn at e;obtain⟨r,e0,e9⟩:=ZO.mp e;unfold ev at e0;obtain⟨q,e1,e2⟩:=ZO.mp e0
 split at e2
 .rename_i hs
  cases e2;obtain⟨F1,l1,Zt,own⟩:=rel.freezeAll;obtain⟨⟨y,p1⟩,e3,e4⟩:=Pf e1;cases e4;obtain⟨t,p2⟩:=q;cases t with
  | bl c =>
   cases e9;refine ha XY s Z H Q I ⟨F1,G,frz _,_,_,Zt,by unfold Gn;rw[e3];rfl,fun F2 H2 l2 u2 Mx=>?_⟩
   have rel0:Rel X.K X.mg F G _ Z H2:=⟨⟨fun a o e=>Mx.b.f a o (l2 a o (l1 a o e)),Mx.b.g,rel.b.d,fun T e=>⟨(rel.b.t T e).f,(rel.b.t T e).g,(Mx.b.t T e).h⟩⟩,fun i t e=>let ⟨v,h1,h2⟩:=rel.fz i t e;⟨v,h1,IsT.up u2 (Le.refl F) t v h2⟩,fun i t e=>by
    obtain⟨a,h1,h2,h3,h4⟩:=rel.ow i t e;obtain⟨o,ho⟩:=h4.some;exact⟨a,h1,h2,h3,h4.up u2 (Le.refl F) ((Mx.b.f a o (l2 a o ((own i t a e h1).trans ho))).trans ho.symm)⟩,rel.ap,rel.ln⟩
   exact kq F H2 (Le.refl F) u2 rel0
  | _=>cases e9
 .cases e2
end
section
variable{X:Cx}{w:W}{k:Nat}{N:ZD}{sc:ZK}
theorem vv(c:Ctx X w k N sc){f:Str}{es:E}{x:Expr}{xs:ZC}{p0 pos:Pos}(hs:Hs X w false es (x::xs))(hg:W7 sc f=true):PE X (.Call (.Name f p0) (x::xs) [] pos) (LE X.K X.mg w (.call f es)):=by
 intro XY s Z H Q I ⟨F,G,p,r,p',rel,e,kq⟩
 replace e:=(m4 _ _).symm.trans e
 obtain⟨a,e1,e⟩:=ZO.mp e;obtain⟨sl,e2,e⟩:=ZO.mp e;obtain⟨rr,e3,e⟩:=ZO.mp e;obtain⟨p2,e4,e⟩:=Yk.mp e;cases e;obtain⟨ps,hl,Gf⟩:=c.fn f sl rr e3;obtain⟨gg,gd⟩:=c.gl' hg;have Tf:=hs.star;refine ku Gf c.room gg hs.pa gd (Z1 (Tf _ Ye)) (Ys _ _ _ fun e m=>Tf e (Vi _ m)) XY s Z H Q I ⟨F,G,p,a.1,a.2,rel,e1,fun F1 H1 vs l1 u1 Zt ar=>?_⟩;show spC X.K X.mg ps.length (w.C f) (vs++[]) H1 Q E0;rw[XZ];exact Zt.call ar e2 e3 e4 (by rw[<-Paired.length ar, <-G9 e2];exact hl) fun F' H' v l u=>kq F' H' v (l1.trans l) (u1.trans u)
theorem pf(c:Ctx X w k N sc){i:Nat}{y:Str}{es:E}{x:Expr}{xs:ZC}{p0 pos:Pos}(hs:Hs X w false es (x::xs))(hg:Jj N sc i y=true):PE X (.Call (.Name y p0) (x::xs) [] pos) (LE X.K X.mg w (.cal i es)):=by
 intro XY s Z H Q I ⟨F,G,p,r,p',rel,e,kq⟩
 replace e:=(Zzh _ _).symm.trans e
 split at e
 .rename_i f ef
  obtain⟨a,e1,e⟩:=ZO.mp e;obtain⟨sl,e2,e⟩:=ZO.mp e;obtain⟨rr,e3,e⟩:=ZO.mp e;obtain⟨p2,e4,e⟩:=Yk.mp e;cases e;obtain⟨ps,hl,f',fd,Fk,b,kp,m⟩:=c.fn f sl rr e3;obtain⟨v,hv,a',rfl,hm⟩:=rel.fz i _ ef;rw[m]at hm;cases hm;have Tf:=hs.star;refine kh (c.var hg) hs.pa (Z1 (Tf _ Ye)) (Ys _ _ _ fun e m=>Tf e (Vi _ m)) XY s Z H Q I ⟨_,hv,f',ps,_,rfl,⟨⟨k,fd,Fk,b,c.room⟩,kp⟩,F,G,p,a.1,a.2,rel,e1,fun F1 H1 vs l1 u1 Zt ar=>?_⟩;exact Zt.call ar e2 e3 e4 (by rw[<-Paired.length ar, <-G9 e2];exact hl) fun F' H' v l u=>kq F' H' v (l1.trans l) (u1.trans u)
 .cases e
theorem Ed{K:PySem.W.Frag}{mg:ZV}{H F:Hp}{a:Addr}{t:T}{o:HO}(h:Rp K mg H F a t):Up K H (upd H a o):=by
 cases t with
 | lst ts=>obtain⟨vs,q,_⟩:=h;exact Em q
 | dct ts =>
  obtain⟨ks,q,_⟩:=h;intro c xs r
  have ne:∀u,H c=some u->(∀ys,u≠.dK ys)->c≠a:=fun u e n z=>by
   rw[z,q]at e;cases e;exact n _ rfl
  rcases r with (r | ⟨u,r⟩) | r
  .exact .inl (.inl (by rw[Zz (ne _ r fun _ z=>nomatch z)];exact r))
  .exact .inl (.inr ⟨u,by rw[Zz (ne _ r fun _ z=>nomatch z)];exact r⟩)
  .exact .inr r
 | _=>exact h.elim
theorem Rel.mut{K:PySem.W.Frag}{mg:ZV}{F G H:Hp}{p:P}{Z:L2.St}{i:Nat}{t t':T}{a:Addr}{o:HO}(r:Rel K mg F G p Z H)(e:p[i]?=some (Sl.o t))(hσ:Z[i]?=some (some (V.ref a)))(h:Rp K mg (upd H a o) F a t'):Up K H (upd H a o)/\Rel K mg F G (p.set i (.o t')) Z (upd H a o):=by
 obtain⟨a',h1,h2,h3,h4⟩:=r.ow i t e;rw[hσ]at h1;cases h1;have u:Up K H (upd H a o):=Ed h4;obtain⟨o0,e0⟩:=h4.some;refine⟨u,⟨fun b x q=>?_,fun b x q=>?_,r.b.d,fun T e=>let ⟨f1,g1,t1⟩:=r.b.t T e;⟨f1,g1,t1.upd e0 (h4.pln e0)⟩⟩,fun j u' q=>?_,fun j u' q=>?_,fun j l t1 t2 b q1 q2=>?_,by rw[XQ];exact r.ln⟩
 .rw[Zz fun z=>by rw[z,h2]at q;cases q];exact r.b.f b x q
 .rw[Zz fun z=>by rw[z,h3]at q;cases q];exact r.b.g b x q
 .rcases Zr q with ⟨_,z⟩ | ⟨_,q⟩
  .cases z
  .obtain⟨v,g1,g2⟩:=r.fz j _ q;exact⟨v,g1,IsT.up u (Le.refl F) _ v g2⟩
 .rcases Zr q with ⟨z,y⟩ | ⟨n,q⟩
  .cases y;subst z;exact⟨a,hσ,h2,h3,h⟩
  .obtain⟨b,g1,g2,g3,g4⟩:=r.ow j _ q;have nb:b≠a:=fun z=>by subst z;exact n (r.ap j i _ _ b q e g1 hσ)
   exact⟨b,g1,g2,g3,g4.up u (Le.refl F) (Zz nb)⟩
 .have own:∀{j:Nat} {t1:T},(p.set i (Sl.o t'))[j]?=some (Sl.o t1)->∃t2,p[j]?=some (Sl.o t2):=fun {j t1} q=>by
   rcases Zr q with ⟨z,y⟩ | ⟨_,q⟩
   .subst z;exact⟨t,e⟩
   .exact⟨_,q⟩
  obtain⟨_,q1⟩:=own q1;obtain⟨_,q2⟩:=own q2;exact r.ap j l _ _ b q1 q2
noncomputable def mtN:Mt->Str
 | .append => "append"
 | .extend => "extend"
 | .pop => "pop"
 | .popAt => "pop"
 | .insert => "insert"
noncomputable def mtI:Mt->String
 | .append => "list.append"
 | .extend => "list.extend"
 | .pop => "list.pop"
 | .popAt => "list.pop"
 | .insert => "list.insert"
def rM(X:Cx)(id:String):V->ZQ->Hp->VK->Prop:=fun x xs H Q=>∀XY s Z v us,Inv X XY Z H s->RelV x v->Zk xs us->wpAny (model X.prog X.w) X.A (call (.builtin id) (v::us)) (EP X XY Z Q) X.xe s
theorem mtr{id:String}:MtR X id (rM X id):=fun XY s Z _ _ _ v us _ I rx rs h=>h XY s Z v us I rx rs
theorem o8{XY:ZY}{s:Shared}{Z:L2.St}{H:Hp}{l b:Addr}{xs zs:ZQ}{Q:VK}(I:Inv X XY Z H s)(hH:H l=some (.lst xs))(hB:Rd H b (.lst zs))(ne:l≠b)(hz:xs.length+zs.length<=sizeLine)(q:Q .non (upd H l (.lst (xs++zs)))) :
  wpAny (model X.prog X.w) X.A (call (.builtin "list.extend") [.ref l,.ref b]) (EP X XY Z Q) X.xe s:=by
 obtain⟨z,its,n,r,hl,e⟩:=I.lstM hH;obtain⟨z2,Of,n2,r2,bp,e2⟩:=iq I hB;have hsz:its.toArray.size+Of.toArray.size<=sizeLine:=by rw[Jz,Jz];omega
 have bh:¬ (!its.toArray.isEmpty && Builtin.List.listTooLong (its.toArray.size+Of.toArray.size))=true:=by
  rw[Ox hsz,Bool.and_false];exact Nt
 refine call_meets F.slot_list_extend ⟨_,e,rfl⟩ F.entry_list_extend (F.args_list_extend_2 _ _)
  (AutoSeq1.list_extend_list_list_0 l its.toArray n b Of.toArray n2 bh (by rw[Jz];omega) (by omega)) ⟨e,e2, ?_⟩
 refine⟨.non,_,I.lset (its':=its++Of) hH e (by simp) (r.append r2) ?_,rfl,q⟩;rw[Yl];omega
theorem mt_run{XY:ZY}{s:Shared}{Z σ':L2.St}{F₁ G H:Hp}{p:P}{i:Nat}{m:Mt}{t t' z:T}{ts:ZZ}{a:Addr}{vs:ZQ}{us:ZM}{Q:VK}(I:Inv X XY σ' H s)(rel:Rel X.K X.mg F₁ G p Z H)(e:p[i]?=some (Sl.o t))(hσ:Z[i]?=some (some (V.ref a)))(rs:Zk vs us)
  (at':Zx X.K X.mg H F₁ ts vs) (em:nq m t ts=some (t',z)) (q:Fin X F₁ G (p.set i (.o t')) Z H (.f z) Q):wpAny (model X.prog X.w) X.A (call (.builtin (mtI m)) (.ref a::us)) (EP X XY σ' Q) X.xe s:=by
 obtain⟨a',h1,h2,h3,h4⟩:=rel.ow i t e;rw[hσ]at h1;cases h1
 have fin:∀{ys:ZQ} {Xs:ZZ} {v:V},t'=.lst Xs->ys.length<=sizeLine->Zx X.K X.mg H F₁ Xs ys->IsT X.K X.mg H F₁ z v->Q v (upd H a (.lst ys)):=fun {ys Xs v} et z1 ar iv=>by
  subst et;have u:Up X.K H (upd H a (.lst ys)):=Ed h4;obtain⟨u,Yj⟩:=rel.mut (t':=.lst Xs) e hσ ⟨ys,Zq,z1,Zx.up u (Le.refl _) _ _ ar⟩;exact q _ _ _ (Le.refl _) u Yj (IsT.up u (Le.refl _) _ _ iv)
 unfold nq at em
 split at em
 .split at em
  .rename_i hz
   cases em;obtain⟨ys,g1,g2,g3⟩:=h4;obtain⟨y,r,rfl,iy,er⟩:=at';cases(show r=[] from er);have l1:=g3.length;exact Wi XY s σ' H (.ref a) _ (.ref a) us Q I rfl rs ⟨a,ys,y,rfl,rfl,g1,by omega,fin rfl (by rw[Yl];simp;omega) (g3.append (Zx.one iy)) rfl⟩
  .cases em
 .split at em
  .rename_i hz
   cases em;obtain⟨ys,g1,g2,g3⟩:=h4;obtain⟨y,r,rfl,iy,er⟩:=at';cases(show r=[] from er);obtain⟨b,zs,rfl,k1,k2,k3⟩:=iy;obtain⟨u,rfl,ru⟩:=vals1 rs;cases ru;have l1:=g3.length;have l2:=k3.length;refine o8 I g1 (rel.b.rd k1) (fun z=>?_) (by omega) (fin rfl (by rw[Yl];omega) (g3.append k3) rfl);subst z;exact Rd.none h2 k1
  .cases em
 .cases em
end
section
variable{X:Cx}{XY:ZY}{Z:L2.St}{H:Hp}{s:Shared}
def NF(X:Cx)(d:Addr):Prop:=∀o u,X.H₀ d≠some (.frz o u)
theorem nf_of{d:Addr}{XG:List (Key×V)}(I:Inv X XY Z H s)(e:H d=some (.dK XG)):NF X d:=fun o u z=>by
 have:=I.base.frzs d o u z;rw[e]at this;cases this
theorem melt{d:Addr}{o:Obj}{XG:List (Key×V)}(I:Inv X XY Z H s)(e:H d=some (.frz o (.dK XG)))(nf:NF X d):Inv X XY Z (upd H d (.dK XG)) s:=by
 have ne:∀{b:Addr} {u:HO},H b=some u->(∀o k,u≠.frz o k)->b≠d:=fun h n z=>by
  rw[z,e]at h;cases h;exact n _ _ rfl
 have nn:∀{b:Addr},H b=none->upd H d (.dK XG) b=none:=fun {b} h=>by
  rw[Zz fun z=>by rw[z,e]at h;cases h];exact h
 refine⟨I.ok,I.os,I.bare,⟨I.base.keep,I.base.slot,fun b o' h1 h2 h3=>nn (I.base.free b o' h1 h2 h3),I.base.there,fun b xs h=>?_,fun b o' u h=>?_,fun b ps h=>?_⟩,I.loc,I.cell,nn I.free,fun x c h=>nn (I.freeC x c h),fun p hp=>let ⟨h1,h2,h3⟩:=I.pin p hp;⟨h1,nn h2,h3⟩,fun b u h=>?_,I.len⟩
 .have:=I.base.tups b xs h;rw[Zz (ne this fun _ _ z=>nomatch z)];exact this
 .have:=I.base.frzs b o' u h;rw[Zz fun z=>by subst z;exact nf _ _ h];exact this
 .obtain⟨more,this⟩:=I.base.tbls b ps h;exact⟨more,by rw[Zz (ne this fun _ _ z=>nomatch z)];exact this⟩
 .by_cases q:b=d
  .subst q;rw[Zq]at h;cases h;obtain⟨ho,z,y,vs,r,o',es,ep,Q7,c⟩:=(show Ze X.prog X.w H s.heap b (.frz o (.dK XG)) from I.hok b _ e);exact⟨z,y,vs,r,o',es,ep,Q7,c⟩
  .rw[Zz q]at h;refine(I.hok b u h).stay (fun c v hc q=>q) (fun c q=>?_) fun c xs q=>?_
   .rw[Zz (ne q fun _ _ z=>nomatch z)];exact q
   .rw[Zz (ne q fun _ _ z=>nomatch z)];exact q
def Mel(X:Cx)(H H':Hp):Prop:=H'=H\/∃d o ks,H d=some (.frz o (.dK ks))/\NF X d/\H'=upd H d (.dK ks)
theorem Mi{H':Hp}(I:Inv X XY Z H s)(m:Mel X H H'):Inv X XY Z H' s:=by
 rcases m with rfl | ⟨d,o,ks,e,nf,rfl⟩
 .exact I
 .exact melt I e nf
theorem PE.mel{e:Expr}{t:TE}(h:PE X e t):PE X e (fun Z H Q=>t Z H fun v H1=>∃H2,Mel X H1 H2/\Q v H2):=fun XY s Z H Q I q =>
 Yz (h XY s Z H _ I q) fun u s1 ⟨v,H1,I1,r1,H2,m,q1⟩=>⟨v,H2,Mi I1 m,r1,q1⟩
def gh(X:Cx)(D:Ends):Ends:=⟨fun Z H=>∃H2,Mel X H H2/\D.nx Z H2,fun v H=>∃H2,Mel X H H2/\D.rt v H2,fun Z H=>∃H2,Mel X H H2/\D.bk Z H2,fun Z H=>∃H2,Mel X H H2/\D.ct Z H2⟩
theorem PS.mel{st:Stmt}{t:TS}(h:PS X st t):PS X st (fun D Z H=>t (gh X D) Z H):=fun XY s Z H D I q =>
 Yz (h XY s Z H _ I q) fun f s1 q1=>by
  cases f with
  | next=>obtain⟨σ',H',I',H2,m,q2⟩:=q1;exact⟨σ',H2,Mi I' m,q2⟩
  | brk=>obtain⟨σ',H',I',H2,m,q2⟩:=q1;exact⟨σ',H2,Mi I' m,q2⟩
  | cont=>obtain⟨σ',H',I',H2,m,q2⟩:=q1;exact⟨σ',H2,Mi I' m,q2⟩
  | ret u=>obtain⟨v,σ',H',I',r,H2,m,q2⟩:=q1;exact⟨v,σ',H2,Mi I' m,r,q2⟩
theorem y8{tg l:Expr}{tl:TE}(hl:PE X l tl):PI X tg l (fun Z H R=>tl Z H fun x H1=>(∃d XG,x=.ref d/\H1 d=some (.dK XG)/\∀o,NF X d->R (Itd d o XG) (upd H1 d (.frz o (.dK XG))))\/∃d o XG,x=.ref d/\H1 d=some (.frz o (.dK XG))/\R (Itd d o XG) H1):=by
 intro XY s Z H R I h;refine Yz (hl XY s Z H _ I h) fun v s1 ⟨x,H1,I1,r1,q1⟩=>?_
 have go:∀{d:Addr} {o:Obj} {XG:List (Key×V)} {H2:Hp},x=.ref d->Inv X XY Z H2 s1->H2 d=some (.frz o (.dK XG))->R (Itd d o XG) H2->wpAny (model X.prog X.w) X.A (pyIter v) (PIE X XY Z tg R) X.xe s1:=fun {d o XG H2} ex I2 e q=>by
  subst ex;cases r1;obtain⟨vs,es,ep,y,r,e',m⟩:=at_of I2 e;have ln:=r.length;refine wpAny_pyIter_dict y m ?_;refine⟨s1.heap.objs.size,[s1.heap.objs.size],_,_,_,rfl,I2.kept (t':=s1.toks) fun b o e=>Vs _ e,Xr d _ o XG es ep e',⟨_,Bv _ rfl,rfl,by rw[ln];rfl⟩,fun b hb=>?_,q⟩;have e:b=s1.heap.objs.size:=by simpa using hb
  subst e;exact I2.fpOk (Z5 _) (I2.hok.fresh (Z5 _))
 rcases q1 with ⟨d,XG,ex,hd,q⟩ | ⟨d,o,XG,ex,hd,q⟩
 .obtain⟨o,ho,I2⟩:=I1.freeze hd;exact go ex I2 Zq (q o (nf_of I1 hd))
 .exact go ex I1 hd q
end
def Frz(X:Cx)(F H F' H':Hp):Prop:=(F'=F/\H'=H)\/∃d o ks,F d=some (.dK ks)/\NF X d/\F'=upd F d (.frz o (.dK ks))/\H'=upd H d (.frz o (.dK ks))
def Walk(K:W.Frag)(mg:ZV)(J:It)(F H:Hp)(xs:ZZ):Prop:=∀i F1 H1,Le F F1->Up K H H1->(∀a o,F1 a=some o->H1 a=some o) ->
 (∀t,xs[i]?=some t->J.go i H1/\∀x H2,J.yld i H1 x H2->Zp H1 H2/\IsT K mg H2 F1 t x)/\(i=xs.length->J.stop i H1)
inductive LI_I(X:Cx)(w:W)(e:E)(Z:L2.St)(H:Hp)(R:(It->Hp->Prop)):Prop
 | mk(F G p xs p')(Vg:Rel X.K X.mg F G p Z H)(Vb:c7 (ev w e p)=some (xs,p'))(Jg:∀F1 H1 F' H' J,Le F F1->Up X.K H H1->Rel X.K X.mg F1 G p' Z H1->Frz X F1 H1 F' H'->xs.length<=sizeLine->Walk X.K X.mg J F' H' xs->R J H'):LI_I X w e Z H R
def LI(X:Cx)(w:W)(e:E):TI:=fun Z H R=>LI_I X w e Z H R
theorem l7{F H:Hp}{d:Addr}{o:Obj}{ks:List (Key×V)}(e:F d=some (.dK ks)):ni F (upd F d (.frz o (.dK ks))):=⟨fun a vs r=>by
  by_cases z:a=d
  .subst z;rcases r with r | ⟨_,r⟩<;>rw[e]at r<;>cases r
  .unfold Rd;rw[Zz z];exact r,fun a vs r=>by
  by_cases z:a=d
  .subst z;rcases r with r | ⟨_,r⟩
   .rw[e]at r;cases r;exact .inr ⟨o,Zq⟩
   .rw[e]at r;cases r
  .unfold Rd;rw[Zz z];exact r⟩
theorem Hn{F:Hp}{d:Addr}{o:Obj}{ks:List (Key×V)}(e:F d=some (.frz o (.dK ks))):ni F (upd F d (.dK ks)):=⟨fun a vs r=>by
  by_cases z:a=d
  .subst z;rcases r with r | ⟨_,r⟩<;>rw[e]at r<;>cases r
  .unfold Rd;rw[Zz z];exact r,fun a vs r=>by
  by_cases z:a=d
  .subst z;rcases r with r | ⟨_,r⟩
   .rw[e]at r;cases r
   .rw[e]at r;cases r;exact .inl Zq
  .unfold Rd;rw[Zz z];exact r⟩
theorem Zxy{K:W.Frag}{H:Hp}{d:Addr}{o o':HO}(e:H d=some o)(n:∀xs,o≠.tup xs)(n':∀u xs,o≠.frz u (.tup xs)):Up K H (upd H d o'):=fun c xs q=>by
 rcases q with (q | ⟨u,q⟩) | q
 .exact .inl (.inl (by rw[Zz fun z=>by rw[z,e]at q;cases q;exact n _ rfl];exact q))
 .exact .inl (.inr ⟨u,by rw[Zz fun z=>by rw[z,e]at q;cases q;exact n' _ _ rfl];exact q⟩)
 .exact .inr q
section
variable{X:Cx}{w:W}{F F' G H H':Hp}{p:P}{Z:L2.St}
theorem Rel.turn{K:PySem.W.Frag}{mg:ZV}{d:Addr}{o o':HO}(r:Rel K mg F G p Z H)(e:F d=some o)(pl:Pln o)(u:Up K H (upd H d o'))(l:ni F (upd F d o')):Rel K mg (upd F d o') G p Z (upd H d o'):=by
 refine⟨⟨fun a x q=>?_,fun a x q=>?_,fun a q=>?_,fun T e'=>let ⟨f1,g1,t1⟩:=r.b.t T e';⟨by rw[Zz (t1.ne (r.b.f d o e) pl).symm];exact f1,g1,t1.upd (r.b.f d o e) pl⟩⟩,fun i t q=>let ⟨v,h1,h2⟩:=r.fz i t q;⟨v,h1,IsT.upR u l t v h2⟩,fun i t q=>?_,r.ap,r.ln⟩
 .by_cases z:a=d
  .subst z;rw[Zq]at q ⊢;exact q
  .rw[Zz z]at q ⊢;exact r.b.f a x q
 .have gd:G d=none:=r.b.d d (by rw[e];exact fun z=>nomatch z);rw[Zz fun z=>by rw[z,gd]at q;cases q];exact r.b.g a x q
 .by_cases z:a=d
  .subst z;exact r.b.d a (by rw[e];exact fun z=>nomatch z)
  .rw[Zz z]at q;exact r.b.d a q
 .obtain⟨a,h1,h2,h3,h4⟩:=r.ow i t q;have z:a≠d:=fun z=>by subst z;rw[h2]at e;cases e
  refine⟨a,h1,by rw[Zz z];exact h2,h3, ?_⟩;cases t with
  | lst ts=>obtain⟨vs,q1,q2,q3⟩:=h4;exact⟨vs,by rw[Zz z];exact q1,q2,Zx.upR u l ts vs q3⟩
  | dct ts=>obtain⟨vs,q1,q2,q3⟩:=h4;exact⟨vs,by rw[Zz z];exact q1,q2,Z0.upR u l ts vs q3⟩
  | _=>exact h4.elim
theorem Frz.rel(z:Frz X F H F' H')(r:Rel X.K X.mg F G p Z H):Rel X.K X.mg F' G p Z H'/\Up X.K H H'/\ni F F':=by
 rcases z with ⟨rfl,rfl⟩ | ⟨d,o,ks,e,nf,rfl,rfl⟩
 .exact⟨r,Up.refl _,(Le.refl _).r⟩
 .have u:Up X.K H (upd H d (.frz o (.dK ks))):=Zxy (r.b.f d _ e) (fun _ z=>nomatch z) fun _ _ z=>nomatch z;have l:=l7 (H:=H) (o:=o) e;exact⟨r.turn e Zxp u l,u,l⟩
theorem Frz.back{p2:P}{σ2:L2.St}{F2 H2:Hp}(z:Frz X F H F' H')(l:Le F' F2)(r:Rel X.K X.mg F2 G p2 σ2 H2):∃F3 H3,Le F F3/\Rel X.K X.mg F3 G p2 σ2 H3/\Mel X H2 H3/\Up X.K H2 H3/\ni F2 F3/\(∀a,F2 a=none->F3 a=none)/\∀a,F2 a=none->H3 a=H2 a:=by
 rcases z with ⟨rfl,rfl⟩ | ⟨d,o,ks,e,nf,rfl,rfl⟩
 .exact⟨F2,H2,l,r,.inl rfl,Up.refl _,(Le.refl _).r,fun _ h=>h,fun _ _=>rfl⟩
 .have e2:F2 d=some (.frz o (.dK ks)):=l d _ Zq;have eh:=r.b.f d _ e2;have u:Up X.K H2 (upd H2 d (.dK ks)):=Zxy eh (fun _ z=>nomatch z) fun _ _ z=>by cases z
  refine⟨upd F2 d (.dK ks),upd H2 d (.dK ks),fun a x q=>?_,r.turn e2 pln_f u (Hn e2),.inr ⟨d,o,ks,eh,nf,rfl⟩,u,Hn e2,fun a h=>?_,fun a h=>?_⟩
  .by_cases za:a=d
   .subst za;rw[e]at q;cases q;exact Zq
   .rw[Zz za];exact l a x (by rw[Zz za];exact q)
  .rw[Zz fun z=>by rw[z,e2]at h;cases h];exact h
  .rw[Zz fun z=>by rw[z,e2]at h;cases h]
end
section
variable{K:W.Frag}{mg:ZV}{F H:Hp}
theorem qa{a:Addr}{ts:ZZ}{vs:ZQ}(h1:Vc K H a vs)(ar:Zx K mg H F ts vs):Walk K mg (Itt K a) F H ts:=fun i F1 H1 l u fh=>by
 have Vk:=Zx.up u l _ _ ar;refine⟨fun t e=>?_,fun e=>⟨vs,u _ _ h1,by rw[e,ar.length];exact Z5 _⟩⟩;obtain⟨v,e1,h2⟩:=Vk.get e;refine⟨⟨vs,v,u _ _ h1,e1⟩,fun x H2 y=>?_⟩;obtain⟨rfl,y⟩:=y;have:=y vs (u _ _ h1);rw[e1]at this;cases this;exact⟨Zp.refl _,h2⟩
theorem jz{a:Addr}{ts:ZZ}{vs:ZQ}(h1:Rd F a (.lst vs))(ar:Zx K mg H F ts vs):Walk K mg (Itl K a) F H ts:=fun i F1 H1 l u fh=>by
 have Vk:=Zx.up u l _ _ ar
 have sq:Ud K H1 a vs:=.inl (by
  rcases l.r.l a vs h1 with q | ⟨o,q⟩
  .exact .inl (fh _ _ q)
  .exact .inr ⟨o,fh _ _ q⟩)
 refine⟨fun t e=>?_,fun e=>⟨vs,sq,by rw[e,ar.length];exact Z5 _⟩⟩;obtain⟨v,e1,h2⟩:=Vk.get e;refine⟨⟨vs,v,sq,e1⟩,fun x H2 y=>?_⟩;obtain⟨rfl,y⟩:=y;have:=y vs sq;rw[e1]at this;cases this;exact⟨Zp.refl _,h2⟩
theorem Pw{d:Addr}{o:Obj}{XG:ZX}{ks:List (Key×V)}(h1:F d=some (.frz o (.dK ks)))(ek:XG.map (·.1)=ks.map (·.1)):Walk K mg (Itd d o ks) F H (XG.map fun p=>Lr p.1):=fun i F1 H1 l u fh=>by
 have hd:=fh _ _ (l d _ h1);have ln:XG.length=ks.length:=by have:=congrArg List.length ek;simpa using this
 refine⟨fun t e=>?_,fun e=>⟨by rw[e,Zn,ln];exact Z5 _,hd⟩⟩;rw[Bo]at e;obtain⟨q,e1,rfl⟩:=Yk.mp e;have hi:=(Nd.mp e1).1;refine⟨⟨by omega,hd⟩,fun x H2 y=>?_⟩;obtain⟨rfl,k,z,e2,rfl⟩:=y;have e3:(XG.map (·.1))[i]?=some q.1:=by rw[Bo,e1];rfl
 rw[ek,Bo,e2]at e3;cases e3;exact⟨Zp.refl _,A6 _⟩
theorem qo{z:Str}:Walk K mg (Its z) F H (z.cps.toList.map fun c=>T.str ⟨#[c]⟩):=fun i F1 H1 l u fh=>by
 refine⟨fun t e=>?_,fun e=>by rw[Zn,qg]at e;exact Nat.le_of_eq e.symm⟩;rw[Bo]at e;obtain⟨c,e1,rfl⟩:=Yk.mp e;have e1:z.cps[i]?=some c:=by simpa using e1
 refine⟨(Array.getElem?_eq_some_iff.mp e1).1,fun x H2 y=>?_⟩;obtain⟨rfl,c',e2,rfl⟩:=y;rw[e1]at e2;cases e2;exact⟨Zp.refl _,rfl⟩
theorem q0{n:Nat}:Walk K mg (Itr 0 n) F H ((List.range n).map fun k=>T.int (k:Nat)):=fun i F1 H1 l u fh=>by
 refine⟨fun t e=>?_,fun e=>by rw[Zn,XX]at e;exact Nat.le_of_eq e.symm⟩;rw[Bo]at e;obtain⟨c,e1,rfl⟩:=Yk.mp e;have hi:=(Nd.mp e1);obtain⟨hi,e2⟩:=hi;rw[XX]at hi;rw[List.getElem_range]at e2;subst e2;refine⟨hi,fun x H2 y=>?_⟩;obtain⟨rfl,rfl⟩:=y;exact⟨Zp.refl _,by show V.int _=V.int _;rw[Int.zero_add]⟩
theorem Mp{H1 H2 F1:Hp}{q:Addr}{t u:T}{x y:V}(hq:H1 q=none)(e:H2=upd H1 q (.tup [x,y]))(ht:IsT K mg H1 F1 t x)(hu:IsT K mg H1 F1 u y):Zp H1 H2/\IsT K mg H2 F1 (.tup [t,u]) (.ref q):=by
 subst e;have s:Zp H1 (upd H1 q (.tup [x,y])):=Zp.lay hq;exact⟨s,q,_,rfl,Vc.of Zq,by show 2<=sizeLine;decide,x,_,rfl,IsT.up s.up (Le.refl _) _ _ ht,y,_,rfl,IsT.up s.up (Le.refl _) _ _ hu,rfl⟩
theorem Px{a b:ZZ}{i:Nat}{t:T}(e:(Pq a b)[i]?=some t):∃x y,a[i]?=some x/\b[i]?=some y/\t=.tup [x,y]:=by
 unfold Pq at e;rw[Bo]at e;obtain⟨q,e1,rfl⟩:=Yk.mp e;rw[List.getElem?_zip_eq_some]at e1;exact⟨_,_,e1.1,e1.2,rfl⟩
theorem Md{a b:ZZ}:(Pq a b).length=min a.length b.length:=by unfold Pq;rw[Zn,List.length_zip]
theorem Xg{a b:Addr}{ts us:ZZ}{vs ws:ZQ}(h1:Vc K H a vs)(ar:Zx K mg H F ts vs)(h2:Vc K H b ws)(br:Zx K mg H F us ws):Walk K mg (Itzt K a b) F H (Pq ts us):=fun i F1 H1 l u fh=>by
 have Vk:=Zx.up u l _ _ ar;have br1:=Zx.up u l _ _ br;refine⟨fun t e=>?_,fun e=>⟨vs,ws,u _ _ h1,u _ _ h2,by rw[Md,ar.length,br.length]at e;omega⟩⟩;obtain⟨x,y,e1,e2,rfl⟩:=Px e;obtain⟨v,g1,g2⟩:=Vk.get e1;obtain⟨v',g3,g4⟩:=br1.get e2;refine⟨⟨vs,ws,v,v',u _ _ h1,u _ _ h2,g1,g3⟩,fun z H2 yl=>?_⟩;obtain⟨q,x',y',rfl,hq,hH,k1,k2⟩:=yl;have:=k1 vs (u _ _ h1);rw[g1]at this;cases this;have:=k2 ws (u _ _ h2);rw[g3]at this;cases this;exact Mp hq hH g2 g4
theorem Xf{a b:Addr}{ts us:ZZ}{vs ws:ZQ}(h1:Rd F a (.lst vs))(ar:Zx K mg H F ts vs)(h2:Rd F b (.lst ws))(br:Zx K mg H F us ws):Walk K mg (Itz K a b) F H (Pq ts us):=fun i F1 H1 l u fh=>by
 have Vk:=Zx.up u l _ _ ar;have br1:=Zx.up u l _ _ br
 have sq:∀{a:Addr} {vs:ZQ},Rd F a (.lst vs)->Ud K H1 a vs:=fun {a vs} h=>.inl (by
  rcases l.r.l a vs h with q | ⟨o,q⟩
  .exact .inl (fh _ _ q)
  .exact .inr ⟨o,fh _ _ q⟩)
 refine⟨fun t e=>?_,fun e=>⟨vs,ws,sq h1,sq h2,by rw[Md,ar.length,br.length]at e;omega⟩⟩;obtain⟨x,y,e1,e2,rfl⟩:=Px e;obtain⟨v,g1,g2⟩:=Vk.get e1;obtain⟨v',g3,g4⟩:=br1.get e2;refine⟨⟨vs,ws,v,v',sq h1,sq h2,g1,g3⟩,fun z H2 yl=>?_⟩;obtain⟨q,x',y',rfl,hq,hH,k1,k2⟩:=yl;have:=k1 vs (sq h1);rw[g1]at this;cases this;have:=k2 ws (sq h2);rw[g3]at this;cases this;exact Mp hq hH g2 g4
theorem Ug:∀(k:Nat) (ts:ZZ),(C1 k ts).length=ts.length
 | _,[]=>rfl
 | k,t::r=>by unfold C1;rw[Yo,Yo,Ug]
theorem Nz:∀{k:Nat} {ts:ZZ} {i:Nat} {t:T},(C1 k ts)[i]?=some t->∃x,ts[i]?=some x/\t=.tup [.int ((k+i:Nat):Int),x]
 | k,[],i,t,e=>by simp[C1]at e
 | k,x::r,0,t,e=>by simp[C1]at e;subst e;exact⟨x,rfl,rfl⟩
 | k,x::r,i+1,t,e=>by
  obtain⟨y,e1,e2⟩:=Nz (k:=k+1) (ts:=r) (i:=i) (t:=t) (by simpa [C1] using e);exact⟨y,by simpa using e1,by rw[e2];congr 3;omega⟩
theorem Xb{a:Addr}{ts:ZZ}{vs:ZQ}(h1:Vc K H a vs)(ar:Zx K mg H F ts vs):Walk K mg (Itn K a vs) F H (C1 0 ts):=fun i F1 H1 l u fh=>by
 have Vk:=Zx.up u l _ _ ar;refine⟨fun t e=>?_,fun e=>⟨by rw[Ug,ar.length]at e;omega,u _ _ h1⟩⟩;obtain⟨x,e1,rfl⟩:=Nz e;obtain⟨v,g1,g2⟩:=Vk.get e1;refine⟨⟨(Nd.mp g1).1,u _ _ h1⟩,fun z H2 yl=>?_⟩;obtain⟨q,x',rfl,hq,hH,k1⟩:=yl;rw[g1]at k1;cases k1;exact Mp hq hH (by show V.int _=V.int _;rw[Nat.zero_add]) g2
theorem qi{a:Addr}{ts:ZZ}{vs:ZQ}(h1:Rd F a (.lst vs))(ar:Zx K mg H F ts vs):Walk K mg (Iwl K a vs) F H ts.reverse:=fun i F1 H1 l u fh=>by
 have Vk:=(Zx.up u l _ _ ar).rev
 have sq:Ud K H1 a vs:=.inl (by
  rcases l.r.l a vs h1 with q | ⟨o,q⟩
  .exact .inl (fh _ _ q)
  .exact .inr ⟨o,fh _ _ q⟩)
 refine⟨fun t e=>?_,fun e=>(by rw[List.length_reverse,ar.length]at e;exact e.symm)⟩;obtain⟨v,g1,g2⟩:=Vk.get e;refine⟨⟨by have:=(Nd.mp g1).1;rwa [List.length_reverse]at this,sq⟩,fun z H2 yl=>?_⟩;obtain⟨rfl,k1⟩:=yl;rw[g1]at k1;cases k1;exact⟨Zp.refl _,g2⟩
theorem Xm{a:Addr}{ts:ZZ}{vs:ZQ}(h1:Rd F a (.lst vs))(ar:Zx K mg H F ts vs):Walk K mg (ItnL K a vs) F H (C1 0 ts):=fun i F1 H1 l u fh=>by
 have Vk:=Zx.up u l _ _ ar
 have sq:Ud K H1 a vs:=.inl (by
  rcases l.r.l a vs h1 with q | ⟨o,q⟩
  .exact .inl (fh _ _ q)
  .exact .inr ⟨o,fh _ _ q⟩)
 refine⟨fun t e=>?_,fun e=>⟨by rw[Ug,ar.length]at e;omega,sq⟩⟩;obtain⟨x,e1,rfl⟩:=Nz e;obtain⟨v,g1,g2⟩:=Vk.get e1;refine⟨⟨(Nd.mp g1).1,sq⟩,fun z H2 yl=>?_⟩;obtain⟨q,x',rfl,hq,hH,k1⟩:=yl;rw[g1]at k1;cases k1;exact Mp hq hH (by show V.int _=V.int _;rw[Nat.zero_add]) g2
end
section
variable{X:Cx}{w:W}{k:Nat}{N:ZD}{sc:ZK}
theorem T1{o:Option (Sl×P)}{t:T}{p:P}(h:toT o=some (t,p)):∃r,o=some (r,p)/\thaw r=some t:=by
 unfold toT at h;obtain⟨y,e1,e2⟩:=ZO.mp h;obtain⟨t',e3,e4⟩:=Yk.mp e2;cases e4;exact⟨y.1,e1,e3⟩
theorem j9{o:Option (Sl×P)}{ts:ZZ}{p:P}(h:c7 o=some (ts,p)):∃r t,o=some (r,p)/\thaw r=some t/\Mc t=some ts:=by
 unfold c7 at h;obtain⟨y,e1,e2⟩:=ZO.mp h;obtain⟨t',e3,e4⟩:=Yk.mp e2;cases e4;obtain⟨r,e5,e6⟩:=T1 (p:=y.2) (t:=y.1) e1;exact⟨r,y.1,e5,e6,e3⟩
theorem vj{it:E}{tg iter:Expr}(h:PE X iter (LE X.K X.mg w it)):PI X tg iter (LI X w it):=by
 intro XY s Z H R I ⟨F,G,p,xs,p',rel,e,kq⟩;obtain⟨r,t,e1,e2,e3⟩:=j9 e
 have key:∀{Q:VK},(∀F2 H1 v,Le F F2->Up X.K H H1->Rel X.K X.mg F2 G p' Z H1->IsT X.K X.mg H1 F2 t v->Q v H1)->LE X.K X.mg w it Z H Q:=fun k=>⟨F,G,p,r,p',rel,e1,fun F1 H1 v l1 u1 Zt rs=>by
  obtain⟨F2,l2,Zl,ht⟩:=Zt.thaw e2 rs;exact k F2 H1 v (l1.trans l2) u1 Zl ht⟩
 unfold Mc at e3
 split at e3
 .cases e3;refine pi_tup h XY s Z H R I (key fun F2 H1 v l u Zl ht=>?_);obtain⟨a,vs,rfl,h1,z,ar⟩:=ht;exact⟨a,rfl,⟨vs,h1⟩,kq F2 H1 F2 H1 _ l u Zl (.inl ⟨rfl,rfl⟩) (by rw[ar.length];exact z) (qa h1 ar)⟩
 .cases e3;refine aq h XY s Z H R I (key fun F2 H1 v l u Zl ht=>?_);obtain⟨a,vs,rfl,h1,z,ar⟩:=ht;exact⟨a,rfl,⟨vs,.inl (Zl.b.rd h1)⟩,kq F2 H1 F2 H1 _ l u Zl (.inl ⟨rfl,rfl⟩) (by rw[ar.length];exact z) (jz h1 ar)⟩
 .cases e3;refine y8 h XY s Z H R I (key fun F2 H1 v l u Zl ht=>?_);obtain⟨a,ks,rfl,h1,z,ar⟩:=ht;rcases h1 with h1 | ⟨o,h1⟩
  .exact .inl ⟨a,ks,rfl,Zl.b.f _ _ h1,fun o nf=>kq F2 H1 _ _ _ l u Zl (.inr ⟨a,o,ks,h1,nf,rfl,rfl⟩) (by rw[Zn,ar.length];exact z) (Pw Zq ar.keys)⟩
  .exact .inr ⟨a,o,ks,rfl,Zl.b.f _ _ h1,kq F2 H1 F2 H1 _ l u Zl (.inl ⟨rfl,rfl⟩) (by rw[Zn,ar.length];exact z) (Pw h1 ar.keys)⟩
 .split at e3
  .rename_i hz
   cases e3;refine pi_str h XY s Z H R I (key fun F2 H1 v l u Zl ht=>?_);exact⟨_,ht,kq F2 H1 F2 H1 _ l u Zl (.inl ⟨rfl,rfl⟩) (by rw[Zn,qg];exact hz) qo⟩
  .cases e3
 .cases e3
noncomputable def ikN:Ik->Str
 | .rng => "range"
 | .zip => "zip"
 | .enm => "enumerate"
 | .rvl => "reversed"
def ikL:Ik->Nat
 | .zip=>2
 | _=>1
def isTup:Expr->Bool
 | .Tuple _ _ _=>true
 | _=>false
def ikOk:Ik->Expr->Bool
 | .rng,_=>true
 | .rvl,_=>true
 | _,t=>isTup t
theorem iw{Z:Type}{xs:List Z}(h:xs.length=1):∃x,xs=[x]:=by
 cases xs with
 | nil=>cases h
 | cons x r=>cases r with
  | nil=>exact⟨x,rfl⟩
  | cons y r=>cases h
theorem len2{Z:Type}{xs:List Z}(h:xs.length=2):∃x y,xs=[x,y]:=by
 cases xs with
 | nil=>cases h
 | cons x r=>obtain⟨y,rfl⟩:=iw (Nat.succ.inj h);exact⟨x,y,rfl⟩
theorem Er{e:Expr}(h:isTup e=true):∃a b c,e=.Tuple a b c:=by
 cases e<;>first | exact⟨_,_,_,rfl⟩ | cases h
theorem pw(c:Ctx X w k N sc){q:Ik}{es:E}{xs:ZC}{tg:Expr}{f:Str}{p0 pos:Pos}(hs:Hs X w false es xs)(hn:U7 es=true)(hf:(f == ikN q && W7 sc f && ikOk q tg)=true)(hl:xs.length=ikL q):PI X tg (.Call (.Name f p0) xs [] pos) (LI X w (.itr q es)):=by
 intro XY s Z H R I ⟨F,G,p,ys,p',rel,e,kq⟩;simp only[Y8,beq_iff_eq]at hf;obtain⟨⟨rfl,g1⟩,ht⟩:=hf;obtain⟨gg,gd⟩:=c.gl' g1;obtain⟨r,t,e1,e2,e3⟩:=j9 e
 replace e1:=(Zzr _ _).symm.trans e1
 obtain⟨a,q1,e1⟩:=ZO.mp e1;obtain⟨ts,q2,e1⟩:=ZO.mp e1;obtain⟨zs,q3,e1⟩:=Yk.mp e1;cases e1;cases e2;cases e3;have nt:=Ct es hs q1 hn;have Tf:=hs.star;have key:∀{Q:ZQ->Hp->Prop},(∀F1 H1 vs,Le F F1->Up X.K H H1->Rel X.K X.mg F1 G a.2 Z H1->Zx X.K X.mg H1 F1 ts vs->Q vs H1)->LA X.K X.mg w false es Z H Q:=fun k=>⟨F,G,p,a.1,a.2,rel,q1,fun F1 H1 vs l1 u1 Zt ar=>k F1 H1 vs l1 u1 Zt (Ng nt q2 ar)⟩;cases q with
 | rng =>
  obtain⟨x,rfl⟩:=iw hl;refine zy gg (c.bn _ (by decide +kernel)) hs.pa (by rw[Z1 (Tf _ Ye)];rfl) XY s Z H R I (key fun F1 H1 vs l u Zt ar=>?_);unfold itT at q3
  split at q3<;>first | (rename_i z;cases z) | skip
  .rename_i tt _
   unfold rngT at q3
   split at q3
   .split at q3
    .rename_i n hz
     cases q3;obtain⟨v,r,rfl,hv,hr⟩:=ar;cases(show r=[] from hr);cases(show v=_ from hv);exact⟨n,rfl,by omega,by omega,kq F1 H1 F1 H1 _ l u Zt (.inl ⟨rfl,rfl⟩) (by rw[Zn,XX];have:=sizeLine_eq;omega) q0⟩
    .cases q3
   .cases q3
  all_goals cases q3
 | zip =>
  obtain⟨x,y,rfl⟩:=len2 hl;obtain⟨_,_,_,rfl⟩:=Er ht;have h2:starEach [x,y] X.env=(false,eval x X.env)::starEach [y] X.env:=Z1 (Tf _ Ye);have h3:(backTo pos (starEach [y] X.env)).any (·.1)=false:=Ys _ _ _ fun e m=>Tf e (Vi _ m);unfold itT at q3
  split at q3<;>first | (rename_i z;cases z) | skip
  .cases q3;refine pi_zip gg (c.bn _ (by decide +kernel)) hs.pa h2 h3 XY s Z H R I (key fun F1 H1 vs l u Zt ar=>?_);obtain⟨v,r,rfl,hv,v',r',rfl,hv',hr⟩:=ar;cases(show r'=[] from hr);obtain⟨a1,vs,rfl,k1,z1,Vk⟩:=hv;obtain⟨a2,ws,rfl,k2,z2,Bx⟩:=hv';exact⟨a1,a2,rfl,⟨vs,.inl (Zt.b.rd k1)⟩,⟨ws,.inl (Zt.b.rd k2)⟩,kq F1 H1 F1 H1 _ l u Zt (.inl ⟨rfl,rfl⟩) (by rw[Md,Vk.length];omega) (Xf k1 Vk k2 Bx)⟩
  .cases q3;refine az gg (c.bn _ (by decide +kernel)) hs.pa h2 h3 XY s Z H R I (key fun F1 H1 vs l u Zt ar=>?_);obtain⟨v,r,rfl,hv,v',r',rfl,hv',hr⟩:=ar;cases(show r'=[] from hr);obtain⟨a1,vs,rfl,k1,z1,Vk⟩:=hv;obtain⟨a2,ws,rfl,k2,z2,Bx⟩:=hv';exact⟨a1,a2,rfl,⟨vs,k1⟩,⟨ws,k2⟩,kq F1 H1 F1 H1 _ l u Zt (.inl ⟨rfl,rfl⟩) (by rw[Md,Vk.length];omega) (Xg k1 Vk k2 Bx)⟩
  all_goals cases q3
 | enm =>
  obtain⟨x,rfl⟩:=iw hl;obtain⟨_,_,_,rfl⟩:=Er ht;have h2:starEach [x] X.env=(false,eval x X.env)::starEach [] X.env:=Z1 (Tf _ Ye);unfold itT at q3
  split at q3<;>first | (rename_i z;cases z) | skip
  .cases q3;refine y6 gg (c.bn _ (by decide +kernel)) hs.pa h2 rfl XY s Z H R I (key fun F1 H1 vs l u Zt ar=>?_);obtain⟨v,r,rfl,hv,hr⟩:=ar;cases(show r=[] from hr);obtain⟨a1,vs,rfl,k1,z1,Vk⟩:=hv;exact⟨a1,vs,rfl,.inl (Zt.b.rd k1),kq F1 H1 F1 H1 _ l u Zt (.inl ⟨rfl,rfl⟩) (by rw[Ug,Vk.length];exact z1) (Xm k1 Vk)⟩
  .cases q3;refine aj gg (c.bn _ (by decide +kernel)) hs.pa h2 rfl XY s Z H R I (key fun F1 H1 vs l u Zt ar=>?_);obtain⟨v,r,rfl,hv,hr⟩:=ar;cases(show r=[] from hr);obtain⟨a1,vs,rfl,k1,z1,Vk⟩:=hv;exact⟨a1,vs,rfl,k1,kq F1 H1 F1 H1 _ l u Zt (.inl ⟨rfl,rfl⟩) (by rw[Ug,Vk.length];exact z1) (Xb k1 Vk)⟩
  all_goals cases q3
 | rvl =>
  obtain⟨x,rfl⟩:=iw hl;have h2:starEach [x] X.env=(false,eval x X.env)::starEach [] X.env:=Z1 (Tf _ Ye);unfold itT at q3
  split at q3<;>first | (rename_i z;cases z) | skip
  .cases q3;refine ax gg (c.bn _ (by decide +kernel)) hs.pa h2 rfl XY s Z H R I (key fun F1 H1 vs l u Zt ar=>?_);obtain⟨v,r,rfl,hv,hr⟩:=ar;cases(show r=[] from hr);obtain⟨a1,vs,rfl,k1,z1,Vk⟩:=hv;exact⟨a1,vs,rfl,.inl (Zt.b.rd k1),kq F1 H1 F1 H1 _ l u Zt (.inl ⟨rfl,rfl⟩) (by rw[List.length_reverse,Vk.length];exact z1) (qi k1 Vk)⟩
  all_goals cases q3
end
section
variable{K:W.Frag}{mg:ZV}{F G H:Hp}{p:P}{Z:L2.St}
theorem Rel.bind(r:Rel K mg F G p Z H){i:Nat}{s:Sl}{v:V}(hi:i<Z.length)(h:Res K mg F G p Z H s v):Rel K mg F G (p.set i s) (Z.set i (some v)) H:=by
 have at_:(Z.set i (some v))[i]?=some (some v):=List.getElem?_set_self hi;have ne:∀{j:Nat},j≠i->(Z.set i (some v))[j]?=Z[j]?:=fun n=>List.getElem?_set_ne fun z=>n z.symm;refine⟨r.b,fun j t e=>?_,fun j t e=>?_,fun j l t u a e1 e2 h1 h2=>?_,by rw[XQ,XQ];exact r.ln⟩
 .rcases Zr e with ⟨z,y⟩ | ⟨n,e⟩
  .subst z y;exact⟨v,at_,h⟩
  .obtain⟨u,h1,h2⟩:=r.fz j t e;exact⟨u,(ne n).trans h1,h2⟩
 .rcases Zr e with ⟨z,y⟩ | ⟨n,e⟩
  .subst z y;obtain⟨a,rfl,h1,h2,h3,_⟩:=h;exact⟨a,at_,h1,h2,h3⟩
  .obtain⟨a,h1,h2⟩:=r.ow j t e;exact⟨a,(ne n).trans h1,h2⟩
 .rcases Zr e1 with ⟨z,y⟩ | ⟨n,q1⟩
  .rcases Zr e2 with ⟨z',_⟩ | ⟨n,q2⟩
   .rw[z,z']
   .subst z y;obtain⟨b,rfl,_,_,_,h4⟩:=h;rw[at_]at h1;cases h1;rw[ne n]at h2;exact absurd h2 (h4 l u q2)
  .rw[ne n]at h1;rcases Zr e2 with ⟨z,y⟩ | ⟨n',q2⟩
   .subst z y;obtain⟨b,rfl,_,_,_,h4⟩:=h;rw[at_]at h2;cases h2;exact absurd h1 (h4 j t q1)
   .rw[ne n']at h2;exact r.ap j l t u a q1 q2 h1 h2
end
noncomputable def Np:E->List Nat
 | .v i=>[i]
 | .tup es=>Np es
 | .cons a r=>Np a++Np r
 | _=>[]
noncomputable def locs(sc:ZK)(x:Str):Bool:=match sc.lookup x with
 | some .local=>true
 | some .cell=>true
 | _=>false
mutual
noncomputable def Na(N:ZD)(sc:ZK):E->Expr->Bool
 | .v i,.Name x _=>N[i]? == some x && locs sc x
 | .tup es,.Tuple xs _ _=>Mh N sc es xs
 | _,_=>false
noncomputable def Mh(N:ZD)(sc:ZK):E->ZC->Bool
 | .nil,[]=>true
 | .cons a r,x::xs=>Na N sc a x && Mh N sc r xs
 | _,_=>false
end
def LG(K:W.Frag)(mg:ZV)(tg:E):TG:=fun v Z H Q=>∃F G p t p',Rel K mg F G p Z H/\IsT K mg H F t v/\asg tg t p=some p'/\∀σ',Rel K mg F G p' σ' H->(∀j,j ∉ Np tg->σ'[j]?=Z[j]?)->σ'.length=Z.length->Q σ' H
def LGs(K:W.Frag)(mg:ZV)(tg:E):nu:=fun vs Z H Q=>∃F G p ts p',Rel K mg F G p Z H/\Zx K mg H F ts vs/\K6 tg ts p=some p'/\∀σ',Rel K mg F G p' σ' H->(∀j,j ∉ Np tg->σ'[j]?=Z[j]?)->σ'.length=Z.length->Q σ' H
section
variable{X:Cx}{w:W}{k:Nat}{N:ZD}{sc:ZK}
theorem Ctx.loc(c:Ctx X w k N sc){x:Str}(h:locs sc x=true):Loc X.env.scope x/\(X.fn x=true\/X.env.scope.names.lookup x=some .local):=by
 unfold locs at h
 split at h
 .rename_i e
  rcases c.nm x _ e with e | ⟨z,_⟩
  .exact⟨.inl e,.inr e⟩
  .cases z
 .rename_i e
  rcases c.nm x _ e with e' | ⟨z,_⟩
  .exact⟨.inr e',.inl (c.cl x e)⟩
  .cases z
 .cases h
theorem Fh:∀(es:E) {xs:ZC},Mh N sc es xs=true->(∀x∈xs,noStar x=true)
 | .nil,[],_,x,m=>absurd m Vy
 | .cons a r,y::xs,h,x,m=>by
  have h:(Na N sc a y && Mh N sc r xs)=true:=h;rw[Y8]at h;rcases Y6.mp m with rfl | m
  .cases x<;>first | rfl | (cases a<;>cases h.1)
  .exact Fh r h.2 x m
 | .nil,_::_,h,_,_=>by cases h
 | .cons _ _,[],h,_,_=>by cases h
 | .v _,_,h,_,_=>by cases h
 | .k _,_,h,_,_=>by cases h
 | .g _,_,h,_,_=>by cases h
 | .pr _ _,_,h,_,_=>by cases h
 | .mv _,_,h,_,_=>by cases h
 | .io _,_,h,_,_=>by cases h
 | .tup _,_,h,_,_=>by cases h
 | .lst _,_,h,_,_=>by cases h
 | .and _ _,_,h,_,_=>by cases h
 | .or _ _,_,h,_,_=>by cases h
 | .not _,_,h,_,_=>by cases h
 | .ite _ _ _,_,h,_,_=>by cases h
 | .call _ _,_,h,_,_=>by cases h
 | .cal _ _,_,h,_,_=>by cases h
 | .mt _ _ _,_,h,_,_=>by cases h
 | .comp _ _ _ _ _ _,_,h,_,_=>by cases h
 | .itr _ _,_,h,_,_=>by cases h
 | .tmp _,_,h,_,_=>by cases h
theorem Ip{e:Expr}{es:ZC}{env:Env}(h:noStar e=true):assignEach (e::es) env=(false,assign e env)::assignEach es env:=by
 cases e<;>first | rfl | cases h
theorem O7:∀{es:ZC} {env:Env},(∀x∈es,noStar x=true)->(assignEach es env).length=es.length/\(assignEach es env).findIdx? (·.1)=none
 | [],env,_=>⟨rfl,rfl⟩
 | e::es,env,h=>by
  rw[Ip (h e Ye)];obtain⟨h1,h2⟩:=O7 (env:=env) fun x m=>h x (Vi _ m);exact⟨by rw[Yo,Yo,h1],by rw[List.findIdx?_cons,h2];rfl⟩
theorem Sr:∀(es:E) {xs:ZC} {ts:ZZ} {p p':P},Mh N sc es xs=true->K6 es ts p=some p'->ts.length=xs.length
 | .nil,[],[],p,p',_,_=>rfl
 | .cons a r,y::xs,t::ts,p,p',h,e=>by
  have h:(Na N sc a y && Mh N sc r xs)=true:=h;rw[Y8]at h;obtain⟨q,_,e2⟩:=ZO.mp (show (asg a t p).bind (fun q=>K6 r ts q)=some p' from e);rw[Yo,Yo,Sr r h.2 e2]
 | .nil,[],_::_,_,_,_,e=>by cases e
 | .cons _ _,_::_,[],_,_,_,e=>by cases e
 | .nil,_::_,_,_,_,h,_=>by cases h
 | .cons _ _,[],_,_,_,h,_=>by cases h
 | .v _,_,_,_,_,h,_=>by cases h
 | .k _,_,_,_,_,h,_=>by cases h
 | .g _,_,_,_,_,h,_=>by cases h
 | .pr _ _,_,_,_,_,h,_=>by cases h
 | .mv _,_,_,_,_,h,_=>by cases h
 | .io _,_,_,_,_,h,_=>by cases h
 | .tup _,_,_,_,_,h,_=>by cases h
 | .lst _,_,_,_,_,h,_=>by cases h
 | .and _ _,_,_,_,_,h,_=>by cases h
 | .or _ _,_,_,_,_,h,_=>by cases h
 | .not _,_,_,_,_,h,_=>by cases h
 | .ite _ _ _,_,_,_,_,h,_=>by cases h
 | .call _ _,_,_,_,_,h,_=>by cases h
 | .cal _ _,_,_,_,_,h,_=>by cases h
 | .mt _ _ _,_,_,_,_,h,_=>by cases h
 | .comp _ _ _ _ _ _,_,_,_,_,h,_=>by cases h
 | .itr _ _,_,_,_,_,h,_=>by cases h
 | .tmp _,_,_,_,_,h,_=>by cases h
mutual
theorem T5(c:Ctx X w k N sc):∀(tg:E) {x:Expr},Na N sc tg x=true->PG X x (LG X.K X.mg tg)
 | .v i,.Name y pos,h=>fun XY s Z H v u Q I r ⟨F,G,p,t,p',rel,ht,e,kq⟩=>by
  have h:(N[i]? == some y && locs sc y)=true:=h;rw[Y8,beq_iff_eq]at h;obtain⟨l1,l2⟩:=c.loc h.2;have hi:X.N[i]?=some y:=by rw[c.nN];exact h.1
  cases e;refine ak (by rw[c.nN];exact c.nd) hi l1 l2 XY s Z H v u Q I r (kq _ (rel.bind (by rw[I.len];exact(Nd.mp hi).1) ht) (fun j hj=>List.getElem?_set_ne fun z=>hj (by rw[z];exact Pz.mpr rfl)) (XQ ..))
 | .tup es,.Tuple xs j pos,h=>fun XY s Z H v u Q I r ⟨F,G,p,t,p',rel,ht,e,kq⟩=>by
  have h:Mh N sc es xs=true:=h;obtain⟨a1,a2⟩:=O7 (env:=X.env) (Fh es h);cases t<;>first | cases e | skip
  rename_i ts
  have e:K6 es ts p=some p':=e;obtain⟨a,vs,rfl,h1,z,ar⟩:=ht;have hl:=Sr es h e;exact pg_tup (n:=xs.length) c.calm (Az c es h) a1 a2 XY s Z H _ u Q I r ⟨a,vs,rfl,h1,by rw[<-ar.length];exact hl,F,G,p,ts,p',rel,ar,e,kq⟩
 | .v _,.BoolOp ..,h=>by cases h
 | .v _,.NamedExpr ..,h=>by cases h
 | .v _,.BinOp ..,h=>by cases h
 | .v _,.UnaryOp ..,h=>by cases h
 | .v _,.Lambda ..,h=>by cases h
 | .v _,.IfExp ..,h=>by cases h
 | .v _,.Dict ..,h=>by cases h
 | .v _,.Set ..,h=>by cases h
 | .v _,.ListComp ..,h=>by cases h
 | .v _,.SetComp ..,h=>by cases h
 | .v _,.DictComp ..,h=>by cases h
 | .v _,.GeneratorExp ..,h=>by cases h
 | .v _,.Await ..,h=>by cases h
 | .v _,.Yield ..,h=>by cases h
 | .v _,.YieldFrom ..,h=>by cases h
 | .v _,.Compare ..,h=>by cases h
 | .v _,.Call ..,h=>by cases h
 | .v _,.FormattedValue ..,h=>by cases h
 | .v _,.JoinedStr ..,h=>by cases h
 | .v _,.Constant ..,h=>by cases h
 | .v _,.Attribute ..,h=>by cases h
 | .v _,.Subscript ..,h=>by cases h
 | .v _,.Starred ..,h=>by cases h
 | .v _,.List ..,h=>by cases h
 | .v _,.Tuple ..,h=>by cases h
 | .v _,.Slice ..,h=>by cases h
 | .tup _,.BoolOp ..,h=>by cases h
 | .tup _,.NamedExpr ..,h=>by cases h
 | .tup _,.BinOp ..,h=>by cases h
 | .tup _,.UnaryOp ..,h=>by cases h
 | .tup _,.Lambda ..,h=>by cases h
 | .tup _,.IfExp ..,h=>by cases h
 | .tup _,.Dict ..,h=>by cases h
 | .tup _,.Set ..,h=>by cases h
 | .tup _,.ListComp ..,h=>by cases h
 | .tup _,.SetComp ..,h=>by cases h
 | .tup _,.DictComp ..,h=>by cases h
 | .tup _,.GeneratorExp ..,h=>by cases h
 | .tup _,.Await ..,h=>by cases h
 | .tup _,.Yield ..,h=>by cases h
 | .tup _,.YieldFrom ..,h=>by cases h
 | .tup _,.Compare ..,h=>by cases h
 | .tup _,.Call ..,h=>by cases h
 | .tup _,.FormattedValue ..,h=>by cases h
 | .tup _,.JoinedStr ..,h=>by cases h
 | .tup _,.Constant ..,h=>by cases h
 | .tup _,.Attribute ..,h=>by cases h
 | .tup _,.Subscript ..,h=>by cases h
 | .tup _,.Starred ..,h=>by cases h
 | .tup _,.List ..,h=>by cases h
 | .tup _,.Name ..,h=>by cases h
 | .tup _,.Slice ..,h=>by cases h
 | .k _,_,h=>by cases h
 | .g _,_,h=>by cases h
 | .pr _ _,_,h=>by cases h
 | .mv _,_,h=>by cases h
 | .io _,_,h=>by cases h
 | .nil,_,h=>by cases h
 | .cons _ _,_,h=>by cases h
 | .lst _,_,h=>by cases h
 | .and _ _,_,h=>by cases h
 | .or _ _,_,h=>by cases h
 | .not _,_,h=>by cases h
 | .ite _ _ _,_,h=>by cases h
 | .call _ _,_,h=>by cases h
 | .cal _ _,_,h=>by cases h
 | .mt _ _ _,_,h=>by cases h
 | .comp _ _ _ _ _ _,_,h=>by cases h
 | .itr _ _,_,h=>by cases h
 | .tmp _,_,h=>by cases h
theorem Az(c:Ctx X w k N sc):∀(es:E) {xs:ZC},Mh N sc es xs=true->PGs X xs (LGs X.K X.mg es)
 | .nil,[],_=>fun XY s Z H vs us Q I r ⟨F,G,p,ts,p',rel,ht,e,kq⟩=>by
  cases ts with
  | nil =>
   cases e;exact ay XY s Z H vs us Q I r ⟨ht,kq Z rel (fun _ _=>rfl) rfl⟩
  | cons t ts=>cases e
 | .cons a r',y::xs,h=>fun XY s Z H vs us Q I r ⟨F,G,p,ts,p',rel,ht,e,kq⟩=>by
  have Tf:=Fh _ h;have h:(Na N sc a y && Mh N sc r' xs)=true:=h;rw[Y8]at h;cases ts with
  | nil=>cases e
  | cons t ts =>
   obtain⟨v,vr,rfl,iv,av⟩:=ht;obtain⟨q,e1,e2⟩:=ZO.mp (show (asg a t p).bind (fun q=>K6 r' ts q)=some p' from e);refine y9 (T5 c a h.1) (Az c r' h.2) (by rw[Ip (Tf _ Ye)];rfl) XY s Z H _ us Q I r ⟨v,vr,rfl,F,G,p,t,q,rel,iv,e1,fun σ' Yj k' n'=>⟨F,G,q,ts,p',Yj,av,e2,fun σ2 Zl k2 n2=>kq σ2 Zl (fun j hj=>?_) (n2.trans n')⟩⟩;have hj:j ∉ Np a++Np r':=hj;rw[x8,not_or]at hj;exact(k2 j hj.2).trans (k' j hj.1)
 | .nil,_::_,h=>by cases h
 | .cons _ _,[],h=>by cases h
 | .v _,_,h=>by cases h
 | .k _,_,h=>by cases h
 | .g _,_,h=>by cases h
 | .pr _ _,_,h=>by cases h
 | .mv _,_,h=>by cases h
 | .io _,_,h=>by cases h
 | .tup _,_,h=>by cases h
 | .lst _,_,h=>by cases h
 | .and _ _,_,h=>by cases h
 | .or _ _,_,h=>by cases h
 | .not _,_,h=>by cases h
 | .ite _ _ _,_,h=>by cases h
 | .call _ _,_,h=>by cases h
 | .cal _ _,_,h=>by cases h
 | .mt _ _ _,_,h=>by cases h
 | .comp _ _ _ _ _ _,_,h=>by cases h
 | .itr _ _,_,h=>by cases h
 | .tmp _,_,h=>by cases h
end
end
theorem Rv:∀(fr:ZG) (q p:P),fr.length=q.length->(∀i1 i2 j:Nat,fr[i1]?=some (some j)->fr[i2]?=some (some j)->i1=i2) ->
  (back fr q p).length=p.length/\(∀j:Nat,(∀i:Nat,fr[i]?≠some (some j))->(back fr q p)[j]?=p[j]?)/\∀i j:Nat,fr[i]?=some (some j)->j<p.length->(back fr q p)[j]?=q[i]?
 | [],[],p,_,_=>⟨rfl,fun _ _=>rfl,fun i j h=>by simp at h⟩
 | none::fr,s::q,p,hl,inj=>by
  obtain⟨h1,h2,h3⟩:=Rv fr q p (by simpa using hl) fun i1 i2 j a b=>by have:=inj (i1+1) (i2+1) j (by simpa using a) (by simpa using b);omega
  refine⟨h1,fun j h=>h2 j fun i z=>h (i+1) (by simpa using z),fun i j h hj=>?_⟩;cases i with
  | zero=>simp at h
  | succ i=>exact h3 i j (by simpa using h) hj
 | some l::fr,s::q,p,hl,inj=>by
  obtain⟨h1,h2,h3⟩:=Rv fr q (p.set l s) (by simpa using hl) fun i1 i2 j a b=>by have:=inj (i1+1) (i2+1) j (by simpa using a) (by simpa using b);omega
  rw[XQ]at h1;refine⟨h1,fun j h=>?_,fun i j h hj=>?_⟩
  .have n:l≠j:=fun z=>h 0 (by simp[z]);exact(h2 j fun i z=>h (i+1) (by simpa using z)).trans (List.getElem?_set_ne n)
  .cases i with
   | zero =>
    simp at h;subst h;refine(h2 l fun i z=>?_).trans ((List.getElem?_set_self hj).trans (by simp));have:=inj 0 (i+1) l (by simp) (by simpa using z);omega
   | succ i=>exact h3 i j (by simpa using h) (by rw[XQ];exact hj)
 | [],_::_,_,hl,_=>by simp at hl
 | _::_,[],_,hl,_=>by simp at hl
section
variable{K:W.Frag}{mg:ZV}{F G H:Hp}{p:P}{Z:L2.St}{fr:ZG}
theorem Ig{i:Nat}{s:Sl}(h:(qy fr p)[i]?=some s):(fr[i]?=some none/\s=.no)\/∃j,fr[i]?=some (some j)/\s=(p[j]?).getD .no:=by
 unfold qy at h;rw[Bo]at h;obtain⟨o,e1,e2⟩:=Yk.mp h;cases o with
 | none=>exact .inl ⟨e1,e2.symm⟩
 | some j=>exact .inr ⟨j,e1,e2.symm⟩
theorem M5{i j:Nat}{v:V}(h:fr[i]?=some (some j))(e:Z[j]?=some (some v)):(frees fr Z)[i]?=some (some v):=by
 unfold frees;rw[Bo,h];show some ((Z[j]?).bind id)=_;rw[e];rfl
open Classical in
noncomputable def M4(fr:ZG)(p:P)(Z:L2.St)(H G:Hp):Hp:=fun a=>if ∃(j:Nat) (t:T),p[j]?=some (Sl.o t)/\Z[j]?=some (some (V.ref a))/\∀i:Nat,fr[i]?≠some (some j) then H a else G a
theorem Td{a:Addr}{j:Nat}{t:T}(h1:p[j]?=some (Sl.o t))(h2:Z[j]?=some (some (V.ref a)))(h3:∀i:Nat,fr[i]?≠some (some j)):M4 fr p Z H G a=H a:=if_pos ⟨j,t,h1,h2,h3⟩
theorem M3{a:Addr}(h:¬ ∃(j:Nat) (t:T),p[j]?=some (Sl.o t)/\Z[j]?=some (some (V.ref a))/\∀i:Nat,fr[i]?≠some (some j)):M4 fr p Z H G a=G a:=if_neg h
theorem b8(r:Rel K mg F G p Z H){a:Addr}{o:HO}(h:G a=some o):M4 fr p Z H G a=some o:=by
 refine(M3 fun⟨i,t,h1,h2,_⟩=>?_).trans h;obtain⟨b,h3,_,h4,_⟩:=r.ow i t h1;rw[h2]at h3;cases h3;rw[h]at h4;cases h4
theorem Zz2(r:Rel K mg F G p Z H)(inj:∀i1 i2 j:Nat,fr[i1]?=some (some j)->fr[i2]?=some (some j)->i1=i2){D:Addr}(hD:H D=none):Rel K mg F (upd (M4 fr p Z H G) D (.lst [])) (qy fr p) (frees fr Z) (upd H D (.lst [])):=by
 have s:Zp H (upd H D (.lst [])):=Zp.lay hD;have nD:∀{a:Addr} {o:HO},H a=some o->a≠D:=fun h z=>by rw[z,hD]at h;cases h
 have own:∀{i:Nat} {t:T},(qy fr p)[i]?=some (Sl.o t)->∃j,fr[i]?=some (some j)/\p[j]?=some (Sl.o t):=fun {i t} h=>by
  rcases Ig h with ⟨_,z⟩ | ⟨j,e1,e2⟩
  .cases z
  .refine⟨j,e1, ?_⟩;cases q:p[j]? with
   | none=>rw[q]at e2;cases e2
   | some x=>rw[q]at e2;exact congrArg some e2.symm
 refine⟨⟨fun a o e=>s a o (r.b.f a o e),fun a o e=>?_,fun a e=>?_,fun T e=>let ⟨f1,g1,t1⟩:=r.b.t T e;⟨f1,by
   rw[Zz (t1.no hD).symm]
   exact(M3 fun⟨j,t,h1,h2,_⟩=>by
    obtain⟨b,h3,_,_,h4⟩:=r.ow j t h1;rw[h2]at h3;cases h3;exact h4.ne t1 rfl).trans g1,t1.same s⟩⟩,fun i t e=>?_,fun i t e=>?_,fun i1 i2 t u a e1 e2 h1 h2=>?_, ?_⟩
 .by_cases z:a=D
  .subst z;rw[Zq]at e ⊢;exact e
  .rw[Zz z]at e ⊢;by_cases h:∃(j:Nat) (t:T),p[j]?=some (Sl.o t)/\Z[j]?=some (some (V.ref a))/\∀i:Nat,fr[i]?≠some (some j)
   .obtain⟨j,t,g1,g2,g3⟩:=h;rw[Td g1 g2 g3]at e;exact e
   .rw[M3 h]at e;exact r.b.g a o e
 .have ne:a≠D:=by
   cases q:F a with
   | none=>exact absurd q e
   | some o=>exact nD (r.b.f a o q)
  rw[Zz ne];refine(M3 fun⟨j,t,h1,h2,_⟩=>?_).trans (r.b.d a e);obtain⟨b,h3,h4,_⟩:=r.ow j t h1;rw[h2]at h3;cases h3;exact e h4
 .rcases Ig e with ⟨_,z⟩ | ⟨j,e1,e2⟩
  .cases z
  .cases q:p[j]? with
   | none=>rw[q]at e2;cases e2
   | some x =>
    rw[q]at e2;cases(show Sl.f t=x from e2);obtain⟨v,h1,h2⟩:=r.fz j t q;exact⟨v,M5 e1 h1,IsT.up s.up (Le.refl F) t v h2⟩
 .obtain⟨j,e1,q⟩:=own e;obtain⟨a,h1,h2,h3,h4⟩:=r.ow j t q;obtain⟨o,ho⟩:=h4.some;refine⟨a,M5 e1 h1,h2, ?_,h4.same s (Le.refl F)⟩;rw[Zz (nD ho)];refine(M3 fun⟨j',t',q1,q2,q3⟩=>?_).trans h3;have:=r.ap j' j t' t a q1 q q2 h1;subst this;exact q3 i e1
 .obtain⟨j1,f1,q1⟩:=own e1;obtain⟨j2,f2,q2⟩:=own e2;obtain⟨a1,k1,_⟩:=r.ow j1 t q1;obtain⟨a2,k2,_⟩:=r.ow j2 u q2;rw[M5 f1 k1]at h1;cases h1;rw[M5 f2 k2]at h2;cases h2;have:=r.ap j1 j2 t u a q1 q2 k1 k2;subst this;exact inj i1 i2 j1 f1 f2
 .unfold qy;rw[Zn,J0]
theorem Rel.gset{D:Addr}{ys zs:ZQ}(r:Rel K mg F (upd G D (.lst ys)) p Z H):Rel K mg F (upd G D (.lst zs)) p Z (upd H D (.lst zs))/\Up K H (upd H D (.lst zs)):=by
 have hD:H D=some (.lst ys):=r.b.g D _ Zq
 have fD:F D=none:=by
  cases q:F D with
  | none=>rfl
  | some o=>have:=r.b.d D (by rw[q];exact fun z=>nomatch z);rw[Zq]at this;cases this
 have u:Up K H (upd H D (.lst zs)):=Em hD;refine⟨⟨⟨fun a o e=>?_,fun a o e=>?_,fun a e=>?_,fun T e=>let ⟨f1,g1,t1⟩:=r.b.t T e;⟨f1,by rw[Zz (t1.ne hD yi).symm]at g1 ⊢;exact g1,t1.upd hD yi⟩⟩,fun i t e=>let ⟨v,h1,h2⟩:=r.fz i t e;⟨v,h1,IsT.up u (Le.refl F) t v h2⟩,fun i t e=>?_,r.ap,r.ln⟩,u⟩
 .rw[Zz fun z=>by rw[z,fD]at e;cases e];exact r.b.f a o e
 .by_cases z:a=D
  .subst z;rw[Zq]at e ⊢;exact e
  .rw[Zz z]at e ⊢;exact r.b.g a o (by rw[Zz z];exact e)
 .have ne:a≠D:=fun z=>by rw[z]at e;exact e fD
  have:=r.b.d a e;rw[Zz ne]at this ⊢;exact this
 .obtain⟨a,h1,h2,h3,h4⟩:=r.ow i t e;have ne:a≠D:=fun z=>by rw[z,Zq]at h3;cases h3
  exact⟨a,h1,h2,by rw[Zz ne]at h3 ⊢;exact h3,h4.up u (Le.refl F) (Zz ne)⟩
theorem df{F2 H2:Hp}{q:P}{σ2:L2.St}{D:Addr}{ys:ZQ}(r:Rel K mg F G p Z H)(inj:∀i1 i2 j:Nat,fr[i1]?=some (some j)->fr[i2]?=some (some j)->i1=i2)(hj:∀i j:Nat,fr[i]?=some (some j)->j<p.length)(hD:H D=none)(l:Le F F2)(u:Up K H H2)
  (r2:Rel K mg F2 (upd (M4 fr p Z H G) D (.lst ys)) q σ2 H2) (hl:q.length=fr.length) (keep:∀i j:Nat,fr[i]?=some (some j)->σ2[i]?=(frees fr Z)[i]?):Rel K mg F2 G (back fr q p) Z H2/\F2 D=none/\G D=none/\∀(i:Nat) (t:T),(back fr q p)[i]?=some (Sl.o t)->Z[i]?≠some (some (V.ref D)):=by
 obtain⟨b1,b2,b3⟩:=Rv fr q p hl.symm inj;have nD:∀{a:Addr} {o:HO},H a=some o->a≠D:=fun h z=>by rw[z,hD]at h;cases h
 have fD:F2 D=none:=by
  cases e:F2 D with
  | none=>rfl
  | some o=>have:=r2.b.d D (by rw[e];exact fun z=>nomatch z);rw[Zq]at this;cases this
 have gD:G D=none:=by
  cases e:G D with
  | none=>rfl
  | some o=>have:=r.b.g D o e;rw[hD]at this;cases this
 have gN:∀{a:Addr},a≠D->upd (M4 fr p Z H G) D (.lst ys) a=none->G a=none:=fun {a} n h=>by
  rw[Zz n]at h;cases e:G a with
  | none=>rfl
  | some o=>rw[b8 r e]at h;cases h
 have val:∀{i j:Nat} {v:V},fr[i]?=some (some j)->σ2[i]?=some (some v)->Z[j]?=some (some v):=fun {i j v} e h=>by
  rw[keep i j e]at h;unfold frees at h;rw[Bo,e]at h;have h:(Z[j]?).bind id=some v:=D8 h;cases q:Z[j]? with
  | none=>rw[q]at h;cases h
  | some o=>rw[q]at h;exact congrArg some h
 have cas:∀j:Nat,(∃i:Nat,fr[i]?=some (some j))\/∀i:Nat,fr[i]?≠some (some j):=fun j=>by
  by_cases h:∃i:Nat,fr[i]?=some (some j)
  .exact .inl h
  .exact .inr fun i z=>h ⟨i,z⟩
 have own:∀{j:Nat} {t:T},(back fr q p)[j]?=some (Sl.o t)->∃a,Z[j]?=some (some (V.ref a))/\a≠D/\F2 a=none/\G a=none/\Rp K mg H2 F2 a t:=fun {j t} e=>by
  rcases cas j with ⟨i,f1⟩ | f1
  .rw[b3 i j f1 (hj i j f1)]at e;obtain⟨a,h1,h2,h3,h4⟩:=r2.ow i t e;have n:a≠D:=fun z=>by rw[z,Zq]at h3;cases h3
   exact⟨a,val f1 h1,n,h2,gN n h3,h4⟩
  .rw[b2 j f1]at e;obtain⟨a,h1,h2,h3,h4⟩:=r.ow j t e;obtain⟨o,ho⟩:=h4.some;have n:=nD ho;have g1:upd (M4 fr p Z H G) D (.lst ys) a=some o:=by rw[Zz n,Td e h1 f1];exact ho
   refine⟨a,h1,n, ?_,h3,h4.up u l ((r2.b.g a o g1).trans ho.symm)⟩;cases z:F2 a with
   | none=>rfl
   | some x=>have:=r2.b.d a (by rw[z];exact fun z=>nomatch z);rw[g1]at this;cases this
 refine⟨⟨⟨r2.b.f,fun a o e=>r2.b.g a o (by rw[Zz (nD (r.b.g a o e))];exact b8 r e),fun a e=>?_,fun T e=>⟨(r2.b.t T e).f,(r.b.t T e).g,(r2.b.t T e).h⟩⟩,fun j t e=>?_,fun j t e=>let ⟨a,h1,_,h2,h3,h4⟩:=own e;⟨a,h1,h2,h3,h4⟩,fun j1 j2 t t' a e1 e2 h1 h2=>?_,by rw[b1];exact r.ln⟩,fD,gD,fun i t e z=>?_⟩
 .have n:a≠D:=fun z=>by rw[z]at e;exact e fD
  exact gN n (r2.b.d a e)
 .rcases cas j with ⟨i,f1⟩ | f1
  .rw[b3 i j f1 (hj i j f1)]at e;obtain⟨v,h1,h2⟩:=r2.fz i t e;exact⟨v,val f1 h1,h2⟩
  .rw[b2 j f1]at e;obtain⟨v,h1,h2⟩:=r.fz j t e;exact⟨v,h1,IsT.up u l t v h2⟩
 .rcases cas j1 with ⟨i1,f1⟩ | f1
  .rw[b3 i1 j1 f1 (hj i1 j1 f1)]at e1;obtain⟨a1,k1,_,g1,_⟩:=r2.ow i1 t e1;have:=val f1 k1;rw[h1]at this;cases this;rcases cas j2 with ⟨i2,f2⟩ | f2
   .rw[b3 i2 j2 f2 (hj i2 j2 f2)]at e2;obtain⟨a2,k2,_⟩:=r2.ow i2 t' e2;have:=val f2 k2;rw[h2]at this;cases this;have:=r2.ap i1 i2 t t' a e1 e2 k1 k2;subst this;rw[f1]at f2;cases f2;rfl
   .rw[b2 j2 f2]at e2;obtain⟨b,c1,_,_,c4⟩:=r.ow j2 t' e2;rw[h2]at c1;cases c1;obtain⟨o,ho⟩:=c4.some;rw[Zz (nD ho),Td e2 h2 f2,ho]at g1;cases g1
  .rw[b2 j1 f1]at e1;rcases cas j2 with ⟨i2,f2⟩ | f2
   .rw[b3 i2 j2 f2 (hj i2 j2 f2)]at e2;obtain⟨a2,k2,_,g2,_⟩:=r2.ow i2 t' e2;have:=val f2 k2;rw[h2]at this;cases this;obtain⟨b,c1,_,_,c4⟩:=r.ow j1 t e1;rw[h1]at c1;cases c1;obtain⟨o,ho⟩:=c4.some;rw[Zz (nD ho),Td e1 h1 f1,ho]at g2;cases g2
   .rw[b2 j2 f2]at e2;exact r.ap j1 j2 t t' a e1 e2 h1 h2
 .obtain⟨a,h1,n,_⟩:=own e;rw[h1]at z;cases z;exact n rfl
end
def LT(K:PySem.W.Frag)(mg:ZV)(w:W)(c:E):TT:=if isNil c=true then Ho else LB K mg w c
theorem mw{NX:ZD}{names:ZK}{ns:ZD}{fr:ZG}(h:J2 NX names ns fr=true)(nd:ns.Nodup):∀i1 i2 j:Nat,fr[i1]?=some (some j)->fr[i2]?=some (some j)->i1=i2:=fun i1 i2 j e1 e2=>by
 obtain⟨x,a1,a2,_⟩:=Jb h e1;obtain⟨y,b1,b2,_⟩:=Jb h e2;rw[a2]at b2;cases b2;have h1:=(Nd.mp a1);have h2:=(Nd.mp b1);obtain⟨l1,g1⟩:=h1;obtain⟨l2,g2⟩:=h2;exact(List.getElem_inj nd).mp (g1.trans g2.symm)
section
variable{X:Cx}{w:W}{k:Nat}{N:ZD}{sc:ZK}
noncomputable def Zqv(w:W)(tg c el:E):T->P->Option (Option T×P):=fun x s=>(asg tg x s).bind fun s1=>(if isNil c=true then some (true,s1) else Gn (ev w c s1)).bind fun b=>if b.1=true then (toT (ev w el b.2)).map fun r=>(some r.1,r.2) else some (none,b.2)
theorem Ie(c:Ctx X w k N sc){tg it cd el:E}{fr:ZG}{ns:ZD}{scope:Scope}(s2:J2 N scope.names ns fr=true)(nd:ns.Nodup)(ht:∀i∈Np tg,fr[i]?=some none){Z:L2.St}{H:Hp}{Q:VK}(hσ:Z.length=N.length)(h:LE X.K X.mg w (.comp tg it cd el fr ns) Z H Q) :
  wb (LI X w it) fr (fun _ _ _=>LG X.K X.mg tg) (fun _ _ _=>LT X.K X.mg w cd) (fun _ _ _=>LE X.K X.mg w el) Z H fun v H1=>∃H2,Mel X H1 H2/\Q v H2:=by
 obtain⟨F,G,p,r,p',rel,e,kq⟩:=h;have inj:=mw s2 nd;have frl:=M6 s2
 replace e:=(m3 _ _ _ _ _ _).symm.trans e
 obtain⟨⟨xs,p1⟩,e1,e⟩:=ZO.mp e;obtain⟨⟨yz,qe⟩,e2,e⟩:=Yk.mp e;cases e;have e2:D6 (Zqv w tg cd el) xs [] (qy fr p1)=some (yz,qe):=e2;refine⟨F,G,p,xs,p1,rel,e1,fun F1 H1 F' H' J l u Zt fz zl walk=>?_⟩;intro D fp sx hD;obtain⟨Yj,u',lr⟩:=fz.rel Zt
 have jl:∀i j:Nat,fr[i]?=some (some j)->j<p1.length:=fun i j e=>by
  obtain⟨x,a1,a2,_⟩:=Jb s2 e;rw[Zt.ln,hσ];exact(Nd.mp a2).1
 let GD:ZQ->Hp:=fun ys=>upd (M4 fr p1 Z H' G) D (.lst ys)
 let Wt:Nat->Nat->ZQ->L2.St->Hp->Prop:=fun i m ys σ2 H2=>m=xs.length - i/\i<=xs.length/\∃F2 q acc,Le F' F2/\Up X.K H' H2/\Rel X.K X.mg F2 (GD ys) q σ2 H2/\Zx X.K X.mg H2 F2 acc ys/\ys.length<=i/\D6 (Zqv w tg cd el) (xs.drop i) acc q=some (yz,qe)/\(∀i j:Nat,fr[i]?=some (some j)->σ2[i]?=(frees fr Z)[i]?)/\σ2.length=fr.length
 refine⟨Wt,⟨xs.length,rfl,Bw _,F',qy fr p1,[],Le.refl _,(Zp.lay hD).up,Zz2 Yj inj hD,rfl,Z5 _,e2,fun _ _ _=>rfl,J0 fr Z⟩, ?_⟩;rintro i m ys σ2 H2 ⟨rfl,hi',F2,q,acc,l2,u2,r2,ar,yl,e3,keep,sl⟩;have hD2:H2 D=some (.lst ys):=r2.b.g D _ Zq;refine⟨hD2, ?_⟩;obtain⟨wk1,wk2⟩:=walk i F2 H2 l2 u2 r2.b.f;by_cases Kr:i<xs.length
 .have et:xs[i]?=some xs[i]:=Dx Kr;rw[List.drop_eq_getElem_cons Kr]at e3;unfold D6 at e3;obtain⟨⟨o,q1⟩,e4,e5⟩:=ZO.mp e3;obtain⟨s3,e6,e7⟩:=ZO.mp (show (asg tg xs[i] q).bind _=some (o,q1) from e4);obtain⟨⟨b,s4⟩,e8,e9⟩:=ZO.mp e7;obtain⟨g1,g2⟩:=wk1 _ et;refine .inr ⟨g1,fun ys' σ' H'=>Wt (i+1) (xs.length - (i+1)) ys' σ' H',fun ys' σ' H' h=>⟨_,by omega,h⟩,fun x H3 yd=>?_⟩;obtain⟨sm,ix⟩:=g2 x H3 yd;refine⟨F2,GD ys,q,xs[i],s3,r2.same sm,ix,e6,fun σ3 r3 k3 n3=>?_⟩;have keep3:∀i j:Nat,fr[i]?=some (some j)->σ3[i]?=(frees fr Z)[i]?:=fun a j ea=>(k3 a fun m=>by rw[ht a m]at ea;cases ea).trans (keep a j ea);have sl3:σ3.length=fr.length:=n3.trans sl
  have elm:∀{F4 H4:Hp},b=true->Le F2 F4->Up X.K H3 H4->Rel X.K X.mg F4 (GD ys) s4 σ3 H4->LE X.K X.mg w el σ3 H4 fun y H5=>H5 D=some (.lst ys)/\ys.length<sizeLine/\Wt (i+1) (xs.length - (i+1)) (ys++[y]) σ3 (upd H5 D (.lst (ys++[y]))):=fun {F4 H4} hb l4 u4 r4=>by
   rw[if_pos hb]at e9;obtain⟨⟨t',s5⟩,e10,e11⟩:=Yk.mp e9;cases e11;obtain⟨rr,e12,e13⟩:=T1 e10;refine⟨F4,GD ys,s4,rr,s5,r4,e12,fun F5 H5 y l5 u5 r5 rs=>?_⟩;obtain⟨F6,l6,r6,it6⟩:=r5.thaw e13 rs;obtain⟨r7,u7⟩:=r6.gset (zs:=ys++[y]);refine⟨r6.b.g D _ Zq,by omega,rfl,Kr,F6,s5,acc++[t'],(l2.trans l4).trans (l5.trans l6),u2.trans (sm.up.trans (u4.trans (u5.trans u7))),r7, ?_, ?_,e5,keep3,sl3⟩
   .exact(Zx.up (sm.up.trans (u4.trans (u5.trans u7))) (l4.trans (l5.trans l6)) _ _ ar).append (Zx.one (IsT.up u7 (Le.refl _) _ _ it6))
   .rw[Yl];show ys.length+1<=i+1;omega
  show (LT X.K X.mg w cd) σ3 H3 fun ok H4=>if ok=true then _ else _
  unfold LT;by_cases hn:isNil cd=true
  .rw[if_pos hn]at e8;cases e8;rw[if_pos hn];exact iu (B:=Wt (i+1) (xs.length - (i+1)) ys σ3 H3) (elm rfl (Le.refl _) (Up.refl _) r3)
  .rw[if_neg hn]at e8;rw[if_neg hn];refine⟨F2,GD ys,s3,b,s4,r3,e8,fun F4 H4 l4 u4 r4=>?_⟩;cases b with
   | true =>
    exact iu (B:=Wt (i+1) (xs.length - (i+1)) ys σ3 H4) (elm rfl l4 u4 r4)
   | false =>
    cases e9;exact iteF ⟨rfl,Kr,F4,s4,acc,l2.trans l4,u2.trans (sm.up.trans u4),r4,Zx.up (sm.up.trans u4) l4 _ _ ar,by omega,e5,keep3,sl3⟩
 .have ei:i=xs.length:=by omega
  subst ei;rw[List.drop_length]at e3;cases e3;refine .inl ⟨wk2 rfl, ?_⟩;obtain⟨ro,fD,gD,nD⟩:=df Yj inj jl hD l2 u2 r2 (by rw[r2.ln];exact sl) keep;obtain⟨F3,H3,l3,r3,ml,u3,lr3,n1,n2⟩:=fz.back l2 ro;refine⟨H3,ml,kq F3 H3 (.ref D) (l.trans l3) (u.trans (u'.trans (u2.trans u3))) r3 ⟨D,rfl,n1 D fD,gD,⟨ys,(n2 D fD).trans hD2,by omega,Zx.upR u3 lr3 _ _ ar⟩,nD⟩⟩
theorem vw(c:Ctx X w k N sc)(hsc:X.env.scope.names=sc){outer:Scope}(ho:outer.names=sc){tg it cd el:E}{fr:ZG}{ns:ZD}{elt t iter:Expr}{ifs:ZC}{scope:Scope}{pos:Pos}
  (hi:PI X t iter (LI X w it)) (s1:E2 outer scope=true) (s2:J2 N scope.names ns fr=true) (nd:ns.Nodup) (ht:∀i∈Np tg,fr[i]?=some none)
  (hg:∀fp s H,PG (Z3 X scope ns fp s H) t (LG X.K X.mg tg)) (hc:∀fp s H,PTs (Z3 X scope ns fp s H) ifs (LT X.K X.mg w cd)) (he:∀fp s H,PE (Z3 X scope ns fp s H) elt (LE X.K X.mg w el))
  (hfold:∀x,foldedSetIterable iter X.env x=pure x):PE X (.ListComp elt [⟨t,iter,ifs,0⟩] scope pos) (LE X.K X.mg w (.comp tg it cd el fr ns)):=fun XY s Z H Q I h =>
 PE.mel (ah (te:=fun _ _ _=>LE X.K X.mg w el) (tt:=fun _ _ _=>LT X.K X.mg w cd) (g:=fun _ _ _=>LG X.K X.mg tg) c.calm hi (NX:=N) (outer:=outer) ⟨c.nN,by rw[hsc,ho],s1,s2⟩ hg hc he hfold) XY s Z H Q I (Ie c s2 nd ht (by rw[I.len,c.nN]) h)
end
def asName:Expr->Option Str:=ju
noncomputable def Ss(x:Expr):Option (ZC):=match Bi x with
 | .tup xs=>some xs
 | _=>none
noncomputable def So(x:Expr):Option (ZC):=match Bi x with
 | .lst xs=>some xs
 | _=>none
noncomputable def Bp(op:BoolOp)(z:Expr):Option (Expr×Expr×ZC×Pos):=match Bi z with
 | .boo o (x::y::r) pos=>if o=op then some (x,y,r,pos) else none
 | _=>none
noncomputable def Sa(z:Expr):Option Expr:=match Bi z with
 | .un o x=>if o=.Not then some x else none
 | _=>none
noncomputable def Zz8(z:Expr):Option (Expr×Expr×Expr):=match Bi z with
 | .ife c a b=>some (c,a,b)
 | _=>none
def Bh:Expr->Option (Str×ZC):=Xd
noncomputable def I9(z:Expr):Option (Str×Str×ZC):=match Bi z with
 | .callA o m ap xs cp=>(match ju o with
  | some y=>if (ap.endLine == cp.line)=true then some (y,m,xs) else none
  | none=>none)
 | _=>none
noncomputable def Xz(z:Expr):Option (Expr×Expr×Expr×ZC×Scope):=match Bi z with
 | .lc elt [⟨t,iter,ifs,0⟩] scope=>some (elt,t,iter,ifs,scope)
 | _=>none
noncomputable def plainT:Expr->Bool
 | .UnaryOp .Not _ _=>false
 | .BoolOp _ _ _=>false
 | .IfExp _ _ _ _=>false
 | .Compare _ _ _ _=>false
 | _=>true
def N0:Expr->Bool
 | .Set _ _ _=>false
 | _=>true
noncomputable def Rt:E->Expr->Bool
 | .and a b,x=>match Bp .And x with
  | some (x0,y,r,pos)=>Rt a x0 && (if r.isEmpty then Rt b y else Rt b (.BoolOp .And (y::r) pos) && (match b with
   | .and _ _=>true
   | _=>false))
  | none=>false
 | .or a b,x=>match Bp .Or x with
  | some (x0,y,r,pos)=>Rt a x0 && (if r.isEmpty then Rt b y else Rt b (.BoolOp .Or (y::r) pos) && (match b with
   | .or _ _=>true
   | _=>false))
  | none=>false
 | .not a,x=>match Sa x with
  | some y=>Rt a y
  | none=>false
 | .tmp a,x=>Rt a x
 | .pr (.cm _) _,_=>true
 | .pr (.c2 _ _) _,_=>true
 | _,x=>plainT x
noncomputable def l9(fr:ZG)(tg:E):Bool:=(Np tg).all fun i=>fr[i]? == some none
mutual
noncomputable def rep:Bool->ZD->Scope->E->Expr->Bool
 | _,N,sc,.v i,x=>match asName x with
  | some y=>Jj N sc.names i y
  | none=>false
 | _,N,sc,.mv i,x=>match asName x with
  | some y=>Jj N sc.names i y
  | none=>false
 | _,_,_,.k t,x=>repK t x
 | _,_,sc,.g g,x=>match asName x with
  | some y=>g == y && W7 sc.names y
  | none=>false
 | tp,N,sc,.tup es,x=>match Ss x with
  | some xs=>U7 es && Uv tp N sc es xs
  | none=>false
 | tp,N,sc,.lst es,x=>match So x with
  | some xs=>U7 es && Uv tp N sc es xs
  | none=>false
 | tp,N,sc,.pr q es,x=>match view sc.names q x with
  | some xs=>U7 es && quiet q es && Uv tp N sc es xs
  | none=>false
 | tp,N,sc,.and a b,x=>match Bp .And x with
  | some (x0,y,r,pos)=>rep tp N sc a x0 && (if r.isEmpty then rep tp N sc b y else rep tp N sc b (.BoolOp .And (y::r) pos))
  | none=>false
 | tp,N,sc,.or a b,x=>match Bp .Or x with
  | some (x0,y,r,pos)=>rep tp N sc a x0 && (if r.isEmpty then rep tp N sc b y else rep tp N sc b (.BoolOp .Or (y::r) pos))
  | none=>false
 | tp,N,sc,.not a,x=>match Sa x with
  | some y=>rep tp N sc a y
  | none=>false
 | tp,N,sc,.ite c a b,x=>match Zz8 x with
  | some (z,x0,y)=>rep tp N sc c z && Rt c z && rep tp N sc a x0 && rep tp N sc b y
  | none=>false
 | tp,N,sc,.call f es,x=>match Bh x with
  | some (g,xs)=>f == g && W7 sc.names g && !xs.isEmpty && Uv tp N sc es xs
  | none=>false
 | tp,N,sc,.cal i es,x=>match Bh x with
  | some (g,xs)=>Jj N sc.names i g && !xs.isEmpty && U7 es && Uv tp N sc es xs
  | none=>false
 | tp,N,sc,.mt m i es,x=>match I9 x with
  | some (y,n,xs)=>n == mtN m && Jj N sc.names i y && U7 es && Uv tp N sc es xs && (match m with
   | .pop=>xs.isEmpty
   | _=>!xs.isEmpty && decide (xs.length<30))
  | none=>false
 | tp,N,sc,.comp tg it c el fr ns,x=>match Xz x with
  | some (elt,t,iter,ifs,scope)=>tp && L4 tp N sc t it iter && E2 sc scope && J2 N scope.names ns fr && decide (ns.Nodup/\scope.names≠Ca) && l9 fr tg && N0 iter && Na ns scope.names tg t
   && (if isNil c then ifs.isEmpty else (match ifs with
    | [z]=>rep false ns scope c z && Rt c z
    | _=>false)) && rep false ns scope el elt
  | none=>false
 | tp,N,sc,.tmp a,x=>rep tp N sc a x
 | _,_,_,_,_=>false
noncomputable def L4:Bool->ZD->Scope->Expr->E->Expr->Bool
 | tp,N,sc,t,.itr q es,x=>match Bh x with
  | some (f,xs)=>f == ikN q && W7 sc.names f && ikOk q t && decide (xs.length=ikL q) && U7 es && Uv tp N sc es xs
  | none=>false
 | tp,N,sc,_,.v i,x=>match asName x with
  | some y=>Jj N sc.names i y
  | none=>false
 | tp,N,sc,_,.pr q es,x=>match view sc.names q x with
  | some xs=>U7 es && quiet q es && Uv tp N sc es xs
  | none=>false
 | tp,N,sc,_,.call f es,x=>match Bh x with
  | some (g,xs)=>f == g && W7 sc.names g && !xs.isEmpty && Uv tp N sc es xs
  | none=>false
 | tp,N,sc,_,.lst es,x=>match So x with
  | some xs=>U7 es && Uv tp N sc es xs
  | none=>false
 | tp,N,sc,_,.tup es,x=>match Ss x with
  | some xs=>U7 es && Uv tp N sc es xs
  | none=>false
 | _,_,_,_,_,_=>false
noncomputable def Uv:Bool->ZD->Scope->E->ZC->Bool
 | _,_,_,.nil,[]=>true
 | tp,N,sc,.cons a r,x::xs=>noStar x && (match a with
  | .io i=>(match asName x with
   | some y=>Jj N sc.names i y
   | none=>false)
  | _=>rep tp N sc a x) && Uv tp N sc r xs
 | _,_,_,_,_=>false
end
theorem va{tp:Bool}{N:ZD}{sc:Scope}{x:Expr}:∀i,rep tp N sc (.v i) x=(match asName x with
  | some y=>Jj N sc.names i y
  | none=>false):=fun _=>rfl
theorem uy{tp:Bool}{N:ZD}{sc:Scope}{x:Expr}:∀i,rep tp N sc (.mv i) x=(match asName x with
  | some y=>Jj N sc.names i y
  | none=>false):=fun _=>rfl
theorem rep_gQ{tp:Bool}{N:ZD}{sc:Scope}{x:Expr}:∀g,rep tp N sc (.g g) x=(match asName x with
  | some y=>g == y && W7 sc.names y
  | none=>false):=fun _=>rfl
theorem vo{tp:Bool}{N:ZD}{sc:Scope}{x:Expr}:∀es,rep tp N sc (.tup es) x=(match Ss x with
  | some xs=>U7 es && Uv tp N sc es xs
  | none=>false):=fun _=>rfl
theorem vi{tp:Bool}{N:ZD}{sc:Scope}{x:Expr}:∀es,rep tp N sc (.lst es) x=(match So x with
  | some xs=>U7 es && Uv tp N sc es xs
  | none=>false):=fun _=>rfl
theorem L3{tp:Bool}{N:ZD}{sc:Scope}{x:Expr}:∀q es,rep tp N sc (.pr q es) x=(match view sc.names q x with
  | some xs=>U7 es && quiet q es && Uv tp N sc es xs
  | none=>false):=fun _ _=>rfl
theorem P2{tp:Bool}{N:ZD}{sc:Scope}{x:Expr}:∀a b,rep tp N sc (.and a b) x=(match Bp .And x with
  | some (x0,y,r,pos)=>rep tp N sc a x0 && (if r.isEmpty then rep tp N sc b y else rep tp N sc b (.BoolOp .And (y::r) pos))
  | none=>false):=fun _ _=>rfl
theorem Ak{tp:Bool}{N:ZD}{sc:Scope}{x:Expr}:∀a b,rep tp N sc (.or a b) x=(match Bp .Or x with
  | some (x0,y,r,pos)=>rep tp N sc a x0 && (if r.isEmpty then rep tp N sc b y else rep tp N sc b (.BoolOp .Or (y::r) pos))
  | none=>false):=fun _ _=>rfl
theorem P1{tp:Bool}{N:ZD}{sc:Scope}{x:Expr}:∀a,rep tp N sc (.not a) x=(match Sa x with
  | some y=>rep tp N sc a y
  | none=>false):=fun _=>rfl
theorem v3{tp:Bool}{N:ZD}{sc:Scope}{x:Expr}:∀c a b,rep tp N sc (.ite c a b) x=(match Zz8 x with
  | some (z,x0,y)=>rep tp N sc c z && Rt c z && rep tp N sc a x0 && rep tp N sc b y
  | none=>false):=fun _ _ _=>rfl
theorem X4{tp:Bool}{N:ZD}{sc:Scope}{x:Expr}:∀f es,rep tp N sc (.call f es) x=(match Bh x with
  | some (g,xs)=>f == g && W7 sc.names g && !xs.isEmpty && Uv tp N sc es xs
  | none=>false):=fun _ _=>rfl
theorem v7{tp:Bool}{N:ZD}{sc:Scope}{x:Expr}:∀i es,rep tp N sc (.cal i es) x=(match Bh x with
  | some (g,xs)=>Jj N sc.names i g && !xs.isEmpty && U7 es && Uv tp N sc es xs
  | none=>false):=fun _ _=>rfl
theorem uk{tp:Bool}{N:ZD}{sc:Scope}{x:Expr}:∀m i es,rep tp N sc (.mt m i es) x=(match I9 x with
  | some (y,n,xs)=>n == mtN m && Jj N sc.names i y && U7 es && Uv tp N sc es xs && (match m with
   | .pop=>xs.isEmpty
   | _=>!xs.isEmpty && decide (xs.length<30))
  | none=>false):=fun _ _ _=>rfl
theorem Wr{tp:Bool}{N:ZD}{sc:Scope}{x:Expr}:∀tg it c el fr ns,rep tp N sc (.comp tg it c el fr ns) x=(match Xz x with
  | some (elt,t,iter,ifs,scope)=>tp && L4 tp N sc t it iter && E2 sc scope && J2 N scope.names ns fr && decide (ns.Nodup/\scope.names≠Ca) && l9 fr tg && N0 iter && Na ns scope.names tg t
   && (if isNil c then ifs.isEmpty else (match ifs with
    | [z]=>rep false ns scope c z && Rt c z
    | _=>false)) && rep false ns scope el elt
  | none=>false):=fun _ _ _ _ _ _=>rfl
theorem zq{tp:Bool}{N:ZD}{sc:Scope}{t x:Expr}:∀q es,L4 tp N sc t (.itr q es) x=(match Bh x with
  | some (f,xs)=>f == ikN q && W7 sc.names f && ikOk q t && decide (xs.length=ikL q) && U7 es && Uv tp N sc es xs
  | none=>false):=fun _ _=>rfl
theorem E6{tp:Bool}{N:ZD}{sc:Scope}{x:Expr}{xs:ZC}:∀a r,Uv tp N sc (.cons a r) (x::xs)=(noStar x && (match a with
  | .io i=>(match asName x with
   | some y=>Jj N sc.names i y
   | none=>false)
  | _=>rep tp N sc a x) && Uv tp N sc r xs):=fun _ _=>rfl
theorem Cw{x:Expr}{env:Env}(h:plainT x=true):∀whole,isTrue x env whole=(do let v <-whole;standAt x.pos;holding [v] (truthy v)):=by
 intro wh;cases x<;>first | rfl | cases h | (rename_i op _ _;cases op<;>first | rfl | cases h)
theorem Gi{x:Expr}{env:Env}(h:N0 x=true):∀v,foldedSetIterable x env v=pure v:=by
 intro v;cases x<;>first | rfl | cases h
theorem Jc{x:Expr}{y:Str}(h:asName x=some y):∃pos,x=.Name y pos:=Lc h
theorem tj{x:Expr}{y:ZC}(h:Ss x=some y):∃j pos,x=.Tuple y j pos:=by
 unfold Ss at h
 split at h
 .rename_i e;cases h;exact Z8 e
 .cases h
theorem tf{x:Expr}{y:ZC}(h:So x=some y):∃pos,x=.List y pos:=by
 unfold So at h
 split at h
 .rename_i e;cases h;exact Z8 e
 .cases h
theorem Nk{op:BoolOp}{x x0 y:Expr}{r:ZC}{pos:Pos}(h:Bp op x=some (x0,y,r,pos)):x=.BoolOp op (x0::y::r) pos:=by
 unfold Bp at h
 split at h
 .rename_i e'
  split at h
  .rename_i e;cases h;rw[<-e];exact Z8 e'
  .cases h
 .cases h
theorem Su{x y:Expr}(h:Sa x=some y):∃pos,x=.UnaryOp .Not y pos:=by
 unfold Sa at h
 split at h
 .rename_i e'
  split at h
  .rename_i e;cases h;rw[<-e];exact Z8 e'
  .cases h
 .cases h
theorem Zz7{x a b c:Expr}(h:Zz8 x=some (c,a,b)):∃pos,x=.IfExp c a b pos:=by
 unfold Zz8 at h
 split at h
 .rename_i e;cases h;exact Z8 e
 .cases h
theorem Rk{x:Expr}{f:Str}{xs:ZC}(h:Bh x=some (f,xs)):∃p pos,x=.Call (.Name f p) xs [] pos:=B8 h
theorem tw{x:Expr}{y m:Str}{xs:ZC}(h:I9 x=some (y,m,xs)):∃p ap cp,x=.Call (.Attribute (.Name y p) m ap) xs [] cp/\(ap.endLine == cp.line)=true:=by
 unfold I9 at h
 split at h
 .rename_i e
  split at h
  .rename_i e'
   obtain⟨p,rfl⟩:=Lc e'
   split at h
   .rename_i z;cases h;exact⟨p,_,_,Z8 e,z⟩
   .cases h
  .cases h
 .cases h
theorem Si{x elt t iter:Expr}{ifs:ZC}{scope:Scope}(h:Xz x=some (elt,t,iter,ifs,scope)):∃pos,x=.ListComp elt [⟨t,iter,ifs,0⟩] scope pos:=by
 unfold Xz at h
 split at h
 .rename_i e;cases h;exact Z8 e
 .cases h
def Zqy:E->Bool
 | .and _ _=>true
 | .or _ _=>true
 | _=>false
def SE(w:W)(e:E):Prop:=∀(X:Cx) (k:Nat) (N:ZD) (sc:Scope) (tp:Bool) (x:Expr),Ctx X w k N sc.names->(tp=true->X.env.scope.names=sc.names)->rep tp N sc e x=true->PE X x (LE X.K X.mg w e)
def ST(w:W)(e:E):Prop:=∀(X:Cx) (k:Nat) (N:ZD) (sc:Scope) (tp:Bool) (x:Expr),Ctx X w k N sc.names->(tp=true->X.env.scope.names=sc.names)->rep tp N sc e x=true->Rt e x=true->PT X x (LB X.K X.mg w e)/\(Zqy e=true->PW X x (LB X.K X.mg w e))
def SR(w:W)(e:E):Prop:=∀(X:Cx) (k:Nat) (N:ZD) (sc:Scope) (tp m:Bool) (xs:ZC),Ctx X w k N sc.names->(tp=true->X.env.scope.names=sc.names)->Uv tp N sc e xs=true->Hs X w m e xs
def SI(w:W)(e:E):Prop:=∀(X:Cx) (k:Nat) (N:ZD) (sc:Scope) (tp:Bool) (t x:Expr),Ctx X w k N sc.names->(tp=true->X.env.scope.names=sc.names)->L4 tp N sc t e x=true->PI X t x (LI X w e)
section
variable{w:W}
theorem Yr{e:E}(h:SE w e)(ht:∀x,Rt e x=plainT x)(ha:Zqy e=false):ST w e:=fun X k N sc tp x c ct hr ht'=>⟨Zxt (h X k N sc tp x c ct hr) (Cw (by rw[<-ht x];exact ht')),fun z=>by rw[ha]at z;cases z⟩
theorem Vf{e:E}(h:∀tp N sc xs,Uv tp N sc e xs=false):SR w e:=fun X k N sc tp m xs c ct hr=>by rw[h]at hr;cases hr
theorem Ur{e:E}(h:∀tp N sc t x,L4 tp N sc t e x=false):SI w e:=fun X k N sc tp t x c ct hr=>by rw[h]at hr;cases hr
theorem Aq{e:E}(h:∀tp N sc x,rep tp N sc e x=false):SE w e:=fun X k N sc tp x c ct hr=>by rw[h]at hr;cases hr
theorem Hi{e:E}(h:∀tp N sc x,rep tp N sc e x=false):ST w e:=fun X k N sc tp x c ct hr=>by rw[h]at hr;cases hr
theorem Po{e:E}(h:SE w e)(hr:∀tp N sc t x,L4 tp N sc t e x=rep tp N sc e x):SI w e:=fun X k N sc tp t x c ct h'=>vj (h X k N sc tp x c ct (by rw[<-hr];exact h'))
theorem se_v(i:Nat):SE w (.v i):=fun X k N sc tp x c ct hr=>by
 replace hr:=(va _).symm.trans hr
 split at hr
 .rename_i y hy;obtain⟨pos,rfl⟩:=Jc hy;exact snd_v c hr
 .cases hr
theorem Zxn(i:Nat):SE w (.mv i):=fun X k N sc tp x c ct hr=>by
 replace hr:=(uy _).symm.trans hr
 split at hr
 .rename_i y hy;obtain⟨pos,rfl⟩:=Jc hy;exact snd_mv c hr
 .cases hr
theorem se_g(g:Str):SE w (.g g):=fun X k N sc tp x c ct hr=>by
 replace hr:=(rep_gQ _).symm.trans hr
 split at hr
 .rename_i y hy;obtain⟨pos,rfl⟩:=Jc hy;exact snd_g c hr
 .cases hr
theorem se_k(t:T):SE w (.k t):=fun X k N sc tp x c ct hr=>snd_k hr
theorem Ee{es:E}(ih:SR w es):SE w (.tup es):=fun X k N sc tp x c ct hr=>by
 replace hr:=(vo _).symm.trans hr
 split at hr
 .rename_i xs hy
  obtain⟨j,pos,rfl⟩:=tj hy;rw[Y8]at hr;exact so (ih X k N sc tp false xs c ct hr.2) hr.1
 .cases hr
theorem E1{es:E}(ih:SR w es):SE w (.lst es):=fun X k N sc tp x c ct hr=>by
 replace hr:=(vi _).symm.trans hr
 split at hr
 .rename_i xs hy
  obtain⟨pos,rfl⟩:=tf hy;rw[Y8]at hr;exact pj (ih X k N sc tp false xs c ct hr.2) hr.1
 .cases hr
theorem vd{q:Pr}{es:E}(ih:SR w es):SE w (.pr q es):=fun X k N sc tp x c ct hr=>by
 replace hr:=(L3 _ _).symm.trans hr
 split at hr
 .rename_i xs hy
  simp only[Y8]at hr;exact ya c hy (ih X k N sc tp true xs c ct hr.2) hr.1.2
 .cases hr
theorem se_and{a b:E}(ha:SE w a)(hb:SE w b):SE w (.and a b):=fun X k N sc tp x c ct hr=>by
 replace hr:=(P2 _ _).symm.trans hr
 split at hr
 .rename_i x0 y r pos hy
  rw[Nk hy];rw[Y8]at hr;obtain⟨h1,h2⟩:=hr;refine snd_and (ha X k N sc tp x0 c ct h1) ?_
  split at h2
  .rename_i hr
   rw[List.isEmpty_iff.mp hr];exact kj (hb X k N sc tp y c ct h2)
  .exact hb X k N sc tp _ c ct h2
 .cases hr
theorem se_or{a b:E}(ha:SE w a)(hb:SE w b):SE w (.or a b):=fun X k N sc tp x c ct hr=>by
 replace hr:=(Ak _ _).symm.trans hr
 split at hr
 .rename_i x0 y r pos hy
  rw[Nk hy];rw[Y8]at hr;obtain⟨h1,h2⟩:=hr;refine snd_or (ha X k N sc tp x0 c ct h1) ?_
  split at h2
  .rename_i hr
   rw[List.isEmpty_iff.mp hr];exact kj (hb X k N sc tp y c ct h2)
  .exact hb X k N sc tp _ c ct h2
 .cases hr
theorem se_not{a:E}(ha:SE w a):SE w (.not a):=fun X k N sc tp x c ct hr=>by
 replace hr:=(P1 _).symm.trans hr
 split at hr
 .rename_i y hy
  obtain⟨pos,rfl⟩:=Su hy;exact pq (ha X k N sc tp y c ct hr)
 .cases hr
theorem vt{a b d:E}(hd:ST w d)(ha:SE w a)(hb:SE w b):SE w (.ite d a b):=fun X k N sc tp x c ct hr=>by
 replace hr:=(v3 _ _ _).symm.trans hr
 split at hr
 .rename_i z x0 y hy
  obtain⟨pos,rfl⟩:=Zz7 hy;simp only[Y8]at hr;obtain⟨⟨⟨h1,h2⟩,h3⟩,h4⟩:=hr;exact pk (hd X k N sc tp z c ct h1 h2).1 (ha X k N sc tp x0 c ct h3) (hb X k N sc tp y c ct h4)
 .cases hr
theorem L0{f:Str}{es:E}(ih:SR w es):SE w (.call f es):=fun X k N sc tp x c ct hr=>by
 replace hr:=(X4 _ _).symm.trans hr
 split at hr
 .rename_i g xs hy
  obtain⟨p,pos,rfl⟩:=Rk hy;simp only[Y8,beq_iff_eq]at hr;obtain⟨⟨⟨rfl,h2⟩,h3⟩,h4⟩:=hr;cases xs with
  | nil=>cases h3
  | cons y ys=>exact vv c (ih X k N sc tp false _ c ct h4) h2
 .cases hr
theorem vc{i:Nat}{es:E}(ih:SR w es):SE w (.cal i es):=fun X k N sc tp x c ct hr=>by
 replace hr:=(v7 _ _).symm.trans hr
 split at hr
 .rename_i g xs hy
  obtain⟨p,pos,rfl⟩:=Rk hy;simp only[Y8]at hr;obtain⟨⟨⟨h1,h2⟩,h3⟩,h4⟩:=hr;cases xs with
  | nil=>cases h2
  | cons y ys=>exact pf c (ih X k N sc tp false _ c ct h4) h1
 .cases hr
theorem se_tmp{a:E}(ha:SE w a):SE w (.tmp a):=fun X k N sc tp x c ct hr=>pz (ha X k N sc tp x c ct hr)
theorem rn{a r:E}(ha:SE w a)(hr':SR w r):SR w (.cons a r):=fun X k N sc tp m xs c ct hr=>by
 cases xs with
 | nil=>cases(show false=true from hr)
 | cons x xs =>
  replace hr:=(E6 _ _).symm.trans hr
  simp only[Y8]at hr;obtain⟨⟨h1,h2⟩,h3⟩:=hr;refine .cons ?_ h1 (hr' X k N sc tp m xs c ct h3)
  split at h2
  .rename_i i
   split at h2
   .rename_i y hy
    obtain⟨pos,rfl⟩:=Jc hy;intro XY s Z H Q I ⟨F,G,p,a',p',rel,e,kq⟩;unfold Ol at e;dsimp only at e
    split at e
    .rename_i hd
     cases e;unfold done at hd
     split at hd
     .rename_i t q
      obtain⟨v,h1,h2⟩:=rel.fz i t q;exact c.var ‹_› XY s Z H Q I ⟨v,h1,kq F H v (Le.refl F) (Up.refl H) rel h1⟩
     .rename_i t q
      obtain⟨a,h1,_⟩:=rel.ow i t q;exact c.var ‹_› XY s Z H Q I ⟨_,h1,kq F H _ (Le.refl F) (Up.refl H) rel h1⟩
     .cases hd
    .cases e
   .cases h2
  .rename_i n1
   by_cases hv:∃i,a=.v i
   .obtain⟨i,rfl⟩:=hv
    replace h2:=(va _).symm.trans h2
    split at h2
    .rename_i y hy;obtain⟨pos,rfl⟩:=Jc hy;exact snd_hv c h2
    .cases h2
   .exact snd_hd (fun i z=>n1 i z) (fun i z=>hv ⟨i,z⟩) (ha X k N sc tp x c ct h2)
theorem Zx5{X:Cx}{e:E}{Z:L2.St}{H:Hp}{R:Bool->Hp->Prop}(h:LB X.K X.mg w e Z H R):LE X.K X.mg w e Z H fun v H'=>Ll R v H':=by
 obtain⟨F,G,p,r,p',rel,e,kq⟩:=Zx4 h;exact⟨F,G,p,r,p',rel,e,fun F' H' v l u Yj rs=>let ⟨b,e1,h1⟩:=kq F' H' v l u Yj rs;⟨b,e1,h1⟩⟩
end
section
variable{X:Cx}{w:W}{k:Nat}{N:ZD}{sc:ZK}
theorem cm_rd(c:Ctx X w k N sc){a b:E}{cm:Cm}{Z:L2.St}{H:Hp}{Q:VK}(h:LE X.K X.mg w (.pr (.cm cm) (.cons a (.cons b .nil))) Z H Q):tOp (rO X (compareOp (Di cm))) (LH X.K X.mg w true a) (LH X.K X.mg w true b) Z H Q:=by
 obtain⟨F,G,p,r,p',rel,e,kq⟩:=h;obtain⟨as,ts,e1,e2,e3⟩:=Ic e;refine Ws e1 e2 rel fun F2 H2 x y t1 t2 et l u Zl s1 s2=>?_;subst et;obtain⟨b,e4,rfl⟩:=Yk.mp e3;exact fun XY s σ' v u' I rx ry=>N9 _ I Zl.b.f c.un rx ry s1 s2 e4 (kq F2 H2 _ l u Zl rfl)
theorem c2_rd(c:Ctx X w k N sc){a b d:E}{cm cm':Cm}{Z:L2.St}{H:Hp}{Q:VK}(h3:quiet (.c2 cm cm') (.cons a (.cons b (.cons d .nil)))=true)(h:LE X.K X.mg w (.pr (.c2 cm cm') (.cons a (.cons b (.cons d .nil)))) Z H Q) :
  Es (rO X (compareOp (Di cm))) (rO X (compareOp (Di cm'))) (LH X.K X.mg w true a) (LH X.K X.mg w true b) (LH X.K X.mg w true d) Z H Q:=by
 obtain⟨F,G,p,r,p',rel,e,kq⟩:=h;obtain⟨as,ts,e1,e2,e3⟩:=Ic e;obtain⟨a',p1,as1,q1,q2,rfl⟩:=Zf e1;obtain⟨b',p2,as2,q3,q4,rfl⟩:=Zf q2;obtain⟨c',p3,as3,q5,q6,rfl⟩:=Zf q4;obtain⟨rfl,rfl⟩:=Yp q6;obtain⟨t1,r1,l1,l2,rfl⟩:=Zy e2;obtain⟨t2,r2,l3,l4,rfl⟩:=Zy l2;obtain⟨t3,r3,l5,l6,rfl⟩:=Zy l4;cases l6;have ep:=Gw _ h3 q4;subst ep;obtain⟨b1,c1,e3⟩:=ZO.mp e3;refine⟨F,G,p,a',p1,rel,q1,fun F1 H1 x Rn u1 Ay Vk=>⟨F1,G,p1,b',_,Ay,q3,fun F2 H2 y W0 u2 Rc Bx=>?_⟩⟩;have s1:=Rc.look l1 (Ar.up u2 W0 Vk);have s2:=Rc.look l3 Bx;refine fun XY s σ' v u' I rx ry=>N9 _ I Rc.b.f c.un rx ry s1 s2 c1 ⟨b1,rfl, ?_⟩;cases b1 with
 | false=>cases e3;exact kq F2 H2 _ (Rn.trans W0) (u1.trans u2) Rc rfl
 | true =>
  obtain⟨b2,c2,rfl⟩:=Yk.mp e3;refine⟨F2,G,_,c',_,Rc,q5,fun F3 H3 z qw u3 Q4 ar3=>?_⟩;exact fun XY s σ' v u' I rx ry=>N9 _ I Q4.b.f c.un rx ry (Q4.look l3 (Ar.up u3 qw Bx)) (Q4.look l5 ar3) c2 (kq F3 H3 _ ((Rn.trans W0).trans qw) ((u1.trans u2).trans u3) Q4 rfl)
end
theorem n9{sc:ZK}{c:Cm}{x:Expr}{xs:ZC}(h:view sc (.cm c) x=some xs):∃a b pos,x=.Compare a [Di c] [b] pos/\behindInMarks (Di c) b=false/\xs=[a,b]:=by
 replace h:=j5 (show vCm c x=some xs from h)
 obtain⟨a,op,b,p,rfl,h⟩:=h
 split at h
 .rename_i ho
  obtain⟨rfl,hm⟩:=ho;cases h;exact⟨_,_,_,rfl,hm,rfl⟩
 .cases h
theorem lz{sc:ZK}{c d:Cm}{x:Expr}{xs:ZC}(h:view sc (.c2 c d) x=some xs):∃a b e pos,x=.Compare a [Di c,Di d] [b,e] pos/\lastMarks [Di c,Di d] [b,e]=false/\xs=[a,b,e]:=by
 replace h:=j6 (show vC2 c d x=some xs from h)
 obtain⟨a,op,S6,b,e0,p,rfl,h⟩:=h
 split at h
 .rename_i ho
  obtain⟨rfl,rfl,hm⟩:=ho;cases h;exact⟨_,_,_,_,rfl,hm,rfl⟩
 .cases h
section
variable{w:W}
theorem st_pr{q:Pr}{es:E}(ih:SR w es):ST w (.pr q es):=fun X k N sc tp x c ct hr ht=>by
 refine⟨?_,fun z=>by cases z⟩;have hse:=vd (q:=q) ih X k N sc tp x c ct hr;cases q with
 | cm cm =>
  replace hr:=(L3 _ _).symm.trans hr
  split at hr
  .rename_i xs hy
   simp only[Y8]at hr;obtain⟨a,b,pos,rfl,hm,rfl⟩:=n9 hy;have hs:=ih X k N sc tp true _ c ct hr.2;cases hs with | cons ha _ t=>cases t with | cons hb _ t=>cases t with | nil =>
   exact fun XY s Z H Q I h=>uh opr ha hb hm XY s Z H Q I (cm_rd c (Zx5 h))
  .cases hr
 | c2 cm cm' =>
  replace hr:=(L3 _ _).symm.trans hr
  split at hr
  .rename_i xs hy
   simp only[Y8]at hr;obtain⟨a,b,d,pos,rfl,hm,rfl⟩:=lz hy;have hs:=ih X k N sc tp true _ c ct hr.2;cases hs with | cons ha _ t=>cases t with | cons hb _ t=>cases t with | cons hc _ t=>cases t with | nil =>
   exact fun XY s Z H Q I h=>yt opr opr ha hb hc hm XY s Z H Q I (c2_rd c hr.1.2 (Zx5 h))
  .cases hr
 | _=>exact Zxt hse (Cw ht)
theorem st_and{a b:E}(ha:ST w a)(hb:ST w b):ST w (.and a b):=fun X k N sc tp x c ct hr ht=>by
 have main:PW X x (LB X.K X.mg w (.and a b)):=by
  replace hr:=(P2 _ _).symm.trans hr
  unfold Rt at ht
  split at hr
  .rename_i x0 y r pos hy
   rw[hy]at ht;rw[Nk hy];simp only[Y8]at hr ht;obtain⟨h1,h2⟩:=hr;obtain⟨t1,t2⟩:=ht;refine r8 (ha X k N sc tp x0 c ct h1 t1).1 ?_;by_cases hr:r.isEmpty=true
   .rw[if_pos hr]at h2 t2;rw[List.isEmpty_iff.mp hr];exact pw_and1 (hb X k N sc tp y c ct h2 t2).1
   .rw[if_neg hr]at h2 t2;rw[Y8]at t2;exact(hb X k N sc tp _ c ct h2 t2.1).2 (by cases b<;>first | rfl | cases t2.2)
  .cases hr
 exact⟨main.pt,fun _=>main⟩
theorem st_or{a b:E}(ha:ST w a)(hb:ST w b):ST w (.or a b):=fun X k N sc tp x c ct hr ht=>by
 have main:PW X x (LB X.K X.mg w (.or a b)):=by
  replace hr:=(Ak _ _).symm.trans hr
  unfold Rt at ht
  split at hr
  .rename_i x0 y r pos hy
   rw[hy]at ht;rw[Nk hy];simp only[Y8]at hr ht;obtain⟨h1,h2⟩:=hr;obtain⟨t1,t2⟩:=ht;refine snt_or (ha X k N sc tp x0 c ct h1 t1).1 ?_;by_cases hr:r.isEmpty=true
   .rw[if_pos hr]at h2 t2;rw[List.isEmpty_iff.mp hr];exact pw_or1 (hb X k N sc tp y c ct h2 t2).1
   .rw[if_neg hr]at h2 t2;rw[Y8]at t2;exact(hb X k N sc tp _ c ct h2 t2.1).2 (by cases b<;>first | rfl | cases t2.2)
  .cases hr
 exact⟨main.pt,fun _=>main⟩
theorem st_not{a:E}(ha:ST w a):ST w (.not a):=fun X k N sc tp x c ct hr ht=>by
 refine⟨?_,fun z=>by cases z⟩
 replace hr:=(P1 _).symm.trans hr
 unfold Rt at ht
 split at hr
 .rename_i y hy
  rw[hy]at ht;obtain⟨pos,rfl⟩:=Su hy;exact ra (ha X k N sc tp y c ct hr ht).1
 .cases hr
theorem st_tmp{a:E}(ha:ST w a):ST w (.tmp a):=fun X k N sc tp x c ct hr ht=>by
 refine⟨?_,fun z=>by cases z⟩;exact rp (ha X k N sc tp x c ct hr ht).1
theorem Zxl{m:Mt}{i:Nat}{es:E}(ih:SR w es):SE w (.mt m i es):=fun X k N sc tp x c ct hr=>by
 replace hr:=(uk _ _ _).symm.trans hr
 split at hr
 .rename_i y n xs hy
  obtain⟨p0,ap,cp,rfl,Jk⟩:=tw hy;simp only[Y8,beq_iff_eq]at hr;obtain⟨⟨⟨⟨rfl,h2⟩,h3⟩,h4⟩,h5⟩:=hr;have hs:=ih X k N sc tp false xs c ct h4;have Tf:=hs.star;intro XY s Z H Q I ⟨F,G,p,r,p',rel,e,kq⟩
  replace e:=(ev_mtQ _ _ _).symm.trans e
  split at e
  .rename_i ho
   obtain⟨a,e1,e⟩:=ZO.mp e;obtain⟨ts,e2,e⟩:=ZO.mp e
   split at e
   .rename_i t et
    obtain⟨⟨t',z⟩,e3,e⟩:=Yk.mp e;cases e;have nt:=Ct es hs e1 h3
    obtain⟨b,ts0,hp⟩:∃b:Addr,∃ts0,p[i]?=some (Sl.o (.lst ts0))/\Z[i]?=some (some (V.ref b)):=by
     unfold zf at ho
     split at ho
     .rename_i l q
      obtain⟨b,h1,_⟩:=rel.ow i _ q;exact⟨b,l,q,h1⟩
     .cases ho
    obtain⟨hp,hb⟩:=hp;obtain⟨b',k1,_,_,vs0,k4,_⟩:=rel.ow i _ hp;rw[hb]at k1;cases k1
    have fin:∀{F1 H1:Hp} {vs:ZQ},Le F F1->Up X.K H H1->Rel X.K X.mg F1 G a.2 Z H1->Zx X.K X.mg H1 F1 ts vs->rM X (mtI m) (.ref b) vs H1 Q:=fun {F1 H1 vs} l1 u1 Zt at'=>fun XY s σ' v us I rx rs=>by
     cases rx;exact mt_run I Zt et hb rs at' e3 fun F2 H2 v l2 u2=>kq F2 H2 v (l1.trans l2) (u1.trans u2)
    have lA:LA X.K X.mg w false es Z H fun vs H1=>rM X (mtI m) (.ref b) vs H1 Q:=⟨F,G,p,a.1,a.2,rel,e1,fun F1 H1 vs l1 u1 Zt ar=>fin l1 u1 Zt (Ng nt e2 ar)⟩;have ty:tyV X.K "list" (.ref b) H:=.inl ⟨rfl,vs0,.inl (.inl k4)⟩;have G2:attributeBase (.Name y p0) (mtN m) X.env (eval (.Name y p0) X.env)=eval (.Name y p0) X.env:=rfl;cases xs with
    | nil =>
     cases hs;obtain⟨q1,q2⟩:=Yp e1;cases m<;>first | cases h5 | skip
     rw[q1]at e2;cases e2;rw[q2]at fin;exact pe_bm0 PySem.F.plainAttrs_list PySem.F.slot_list_pop PySem.F.type_list_pop mtr (c.var h2) G2 Jk XY s Z H Q I ⟨_,hb,ty,fin (Le.refl _) (Up.refl _) rel rfl⟩
    | cons x xr =>
     have hl:(x::xr).length<30:=by
      cases m<;>first | cases h5 | exact Q0 (B0z.mp h5).2
     have st:=Z1 (es:=xr) (env:=X.env) (Tf _ Ye);have sa:=Ys xr X.env cp fun e m=>Tf e (Vi _ m);have fw:=Ci (env:=X.env) (cpos:=cp) Tf hl;cases m with
     | append=>exact Bg PySem.F.plainAttrs_list PySem.F.slot_list_append PySem.F.type_list_append mtr (c.var h2) hs.pa G2 fw Jk st sa XY s Z H Q I ⟨_,hb,ty,lA⟩
     | extend=>exact Bg PySem.F.plainAttrs_list PySem.F.slot_list_extend PySem.F.type_list_extend mtr (c.var h2) hs.pa G2 fw Jk st sa XY s Z H Q I ⟨_,hb,ty,lA⟩
     | insert=>exact Bg PySem.F.plainAttrs_list PySem.F.slot_list_insert PySem.F.type_list_insert mtr (c.var h2) hs.pa G2 fw Jk st sa XY s Z H Q I ⟨_,hb,ty,lA⟩
     | popAt=>exact Bg PySem.F.plainAttrs_list PySem.F.slot_list_pop PySem.F.type_list_pop mtr (c.var h2) hs.pa G2 fw Jk st sa XY s Z H Q I ⟨_,hb,ty,lA⟩
     | pop=>cases h5
   .cases e
  .cases e
 .cases hr
theorem si_itr{q:Ik}{es:E}(ih:SR w es):SI w (.itr q es):=fun X k N sc tp t x c ct hr=>by
 replace hr:=(zq _ _).symm.trans hr
 split at hr
 .rename_i f xs hy
  obtain⟨p,pos,rfl⟩:=Rk hy;simp only[Y8]at hr;obtain⟨⟨⟨⟨⟨h1,h2⟩,h3⟩,h4⟩,h5⟩,h6⟩:=hr;exact pw c (ih X k N sc tp false xs c ct h6) h5 (by simp only[Y8];exact⟨⟨h1,h2⟩,h3⟩) (Q0 h4)
 .cases hr
theorem Ctx.comp{X:Cx}{k:Nat}{N ns:ZD}{sc:ZK}(c:Ctx X w k N sc){scope outer:Scope}(s1:E2 outer scope=true)(nd:ns.Nodup/\scope.names≠Ca)(fp:ZU)(s:Shared)(H:Hp):Ctx (Z3 X scope ns fp s H) w k ns scope.names:=by
 refine⟨rfl,nd.1,fun x kd e=>?_,c.calm,c.room,c.bn,c.fn,c.gl,rfl,fun x e=>?_,fun z=>absurd z nd.2⟩
 .have e2:(relabel scope X.env).names.lookup x=some (if (kd == NameKind.free && X.env.scope.kind == .function && X.env.kindOf x == some .cell)=true then NameKind.cell else kd):=by
   rw[D3,Vu (f:=fun n k=>if (k == NameKind.free && X.env.scope.kind == .function && X.env.kindOf n == some .cell)=true then NameKind.cell else k),e]
   rfl
  show (relabel scope X.env).names.lookup x=some kd\/(kd=NameKind.free/\(relabel scope X.env).names.lookup x=some NameKind.cell);rw[e2]
  split
  .rename_i h
   simp only[Y8,beq_iff_eq]at h;exact .inr ⟨h.1.1,rfl⟩
  .exact .inl rfl
 .have h1:=s1;unfold E2 at h1;simp only[Y8,decide_eq_true_eq,x9,Bool.or_eq_true]at h1;exact absurd rfl (h1.2 (x,.cell) (PySem.mem_of_lookup e)).1.1
theorem Aj{tg it cd el:E}{fr:ZG}{ns:ZD}(hit:SI w it)(Ou:ST w cd)(hel:SE w el):SE w (.comp tg it cd el fr ns):=fun X k N sc tp x c ct hr=>by
 replace hr:=(Wr _ _ _ _ _ _).symm.trans hr
 split at hr
 .rename_i elt t iter ifs scope hy
  obtain⟨pos,rfl⟩:=Si hy;simp only[Y8]at hr;obtain⟨⟨⟨⟨⟨⟨⟨⟨⟨h1,h2⟩,h3⟩,h4⟩,h5⟩,h6⟩,h7⟩,h8⟩,h9⟩,h10⟩:=hr;have nd':=Q0 h5;have nd:ns.Nodup:=nd'.1;have cc:=fun fp s H=>c.comp (outer:=sc) h3 nd' fp s H;refine vw c (ct h1) rfl (hit X k N sc tp t iter c ct h2) h3 h4 nd (fun i m=>?_) (fun fp s H=>T5 (cc fp s H) tg h8) (fun fp s H=>?_) (fun fp s H=>hel _ k ns scope false elt (cc fp s H) (fun z=>by cases z) h10) (Gi h7)
  .unfold l9 at h6;rw[x9]at h6;exact eq_of_beq (h6 i m)
  .unfold LT;by_cases hn:isNil cd=true
   .rw[if_pos hn]at h9 ⊢;rw[List.isEmpty_iff.mp h9];exact Al
   .rw[if_neg hn]at h9 ⊢
    split at h9
    .rw[Y8]at h9;exact An (Ou _ k ns scope false _ (cc fp s H) (fun z=>by cases z) h9.1 h9.2).1
    .cases h9
 .cases hr
theorem sr_nil:SR w .nil:=fun X k N sc tp m xs c ct hr=>by
 cases xs with
 | nil=>exact .nil
 | cons _ _=>cases(show false=true from hr)
theorem Jh:∀e:E,SE w e/\ST w e/\SR w e/\SI w e:=by
 intro e
 induction e with
 | v i=>exact⟨se_v i,Yr (se_v i) (fun _=>rfl) rfl,Vf fun tp N sc xs=>rfl,Po (se_v i) fun tp N sc t x=>rfl⟩
 | mv i=>exact⟨Zxn i,Yr (Zxn i) (fun _=>rfl) rfl,Vf fun tp N sc xs=>rfl,Ur fun tp N sc t x=>rfl⟩
 | io i=>exact⟨Aq fun tp N sc x=>rfl,Hi fun tp N sc x=>rfl,Vf fun tp N sc xs=>rfl,Ur fun tp N sc t x=>rfl⟩
 | k t=>exact⟨se_k t,Yr (se_k t) (fun _=>rfl) rfl,Vf fun tp N sc xs=>rfl,Ur fun tp N sc t x=>rfl⟩
 | g x=>exact⟨se_g x,Yr (se_g x) (fun _=>rfl) rfl,Vf fun tp N sc xs=>rfl,Ur fun tp N sc t x=>rfl⟩
 | nil=>exact⟨Aq fun tp N sc x=>rfl,Hi fun tp N sc x=>rfl,sr_nil,Ur fun tp N sc t x=>rfl⟩
 | cons a r ha hr=>exact⟨Aq fun tp N sc x=>rfl,Hi fun tp N sc x=>rfl,rn ha.1 hr.2.2.1,Ur fun tp N sc t x=>rfl⟩
 | tup es ih=>exact⟨Ee ih.2.2.1,Yr (Ee ih.2.2.1) (fun _=>rfl) rfl,Vf fun tp N sc xs=>rfl,Po (Ee ih.2.2.1) fun tp N sc t x=>rfl⟩
 | lst es ih=>exact⟨E1 ih.2.2.1,Yr (E1 ih.2.2.1) (fun _=>rfl) rfl,Vf fun tp N sc xs=>rfl,Po (E1 ih.2.2.1) fun tp N sc t x=>rfl⟩
 | pr q es ih=>exact⟨vd ih.2.2.1,st_pr ih.2.2.1,Vf fun tp N sc xs=>rfl,Po (vd ih.2.2.1) fun tp N sc t x=>rfl⟩
 | and a b ha hb=>exact⟨se_and ha.1 hb.1,st_and ha.2.1 hb.2.1,Vf fun tp N sc xs=>rfl,Ur fun tp N sc t x=>rfl⟩
 | or a b ha hb=>exact⟨se_or ha.1 hb.1,st_or ha.2.1 hb.2.1,Vf fun tp N sc xs=>rfl,Ur fun tp N sc t x=>rfl⟩
 | not a ha=>exact⟨se_not ha.1,st_not ha.2.1,Vf fun tp N sc xs=>rfl,Ur fun tp N sc t x=>rfl⟩
 | ite d a b hd ha hb=>exact⟨vt hd.2.1 ha.1 hb.1,Yr (vt hd.2.1 ha.1 hb.1) (fun _=>rfl) rfl,Vf fun tp N sc xs=>rfl,Ur fun tp N sc t x=>rfl⟩
 | call f es ih=>exact⟨L0 ih.2.2.1,Yr (L0 ih.2.2.1) (fun _=>rfl) rfl,Vf fun tp N sc xs=>rfl,Po (L0 ih.2.2.1) fun tp N sc t x=>rfl⟩
 | cal i es ih=>exact⟨vc ih.2.2.1,Yr (vc ih.2.2.1) (fun _=>rfl) rfl,Vf fun tp N sc xs=>rfl,Ur fun tp N sc t x=>rfl⟩
 | mt m i es ih=>exact⟨Zxl ih.2.2.1,Yr (Zxl ih.2.2.1) (fun _=>rfl) rfl,Vf fun tp N sc xs=>rfl,Ur fun tp N sc t x=>rfl⟩
 | comp tg it cd el fr ns htg hit Ou hel=>exact⟨Aj hit.2.2.2 Ou.2.1 hel.1,Yr (Aj hit.2.2.2 Ou.2.1 hel.1) (fun _=>rfl) rfl,Vf fun tp N sc xs=>rfl,Ur fun tp N sc t x=>rfl⟩
 | itr q es ih=>exact⟨Aq fun tp N sc x=>rfl,Hi fun tp N sc x=>rfl,Vf fun tp N sc xs=>rfl,si_itr ih.2.2.1⟩
 | tmp a ha=>exact⟨se_tmp ha.1,st_tmp ha.2.1,Vf fun tp N sc xs=>rfl,Ur fun tp N sc t x=>rfl⟩
end
def Kp(pt:Nat->Bool)(Z σ':L2.St):Prop:=σ'.length=Z.length/\∀i,pt i=true->σ'[i]?=Z[i]?
theorem Kp.refl(pt:Nat->Bool)(Z:L2.St):Kp pt Z Z:=⟨rfl,fun _ _=>rfl⟩
theorem Kp.trans{pt:Nat->Bool}{Z σ1 σ2:L2.St}(a:Kp pt Z σ1)(b:Kp pt σ1 σ2):Kp pt Z σ2:=⟨b.1.trans a.1,fun i h=>(b.2 i h).trans (a.2 i h)⟩
def Fo(K:W.Frag)(mg:ZV)(D:Ends)(F G:Hp)(p:P)(Z:L2.St)(H:Hp):Fl->Prop
 | .nx=>D.nx Z H
 | .bk=>D.bk Z H
 | .ct=>D.ct Z H
 | .rt r=>∀v,Res K mg F G p Z H r v->D.rt v H
inductive LS_I(K:PySem.W.Frag)(mg:ZV)(w:W)(pt:Nat->Bool)(s:S)(D:Ends)(Z:L2.St)(H:Hp):Prop
 | mk(F G p fl p')(Vg:Rel K mg F G p Z H)(Vb:ex w pt s p=some (fl,p'))(Jg:∀F' H' σ',Le F F'->Up K H H'->Rel K mg F' G p' σ' H'->Kp pt Z σ'->Fo K mg D F' G p' σ' H' fl):LS_I K mg w pt s D Z H
def LS(K:PySem.W.Frag)(mg:ZV)(w:W)(pt:Nat->Bool)(s:S):TS:=fun D Z H=>LS_I K mg w pt s D Z H
section
variable{X:Cx}{w:W}{k:Nat}{N:ZD}{sc:ZK}{pt:Nat->Bool}
theorem sg:Tu X [] (LS X.K X.mg w pt .nil):=fun XY s Z H D I ⟨F,G,p,fl,p',rel,e,kq⟩=>by
 cases e;exact ua XY s Z H D I (kq F H Z (Le.refl F) (Up.refl H) rel (Kp.refl pt Z))
theorem vq{a r:S}{st:Stmt}{rest:List Stmt}(ha:PS X st (LS X.K X.mg w pt a))(hr:Tu X rest (LS X.K X.mg w pt r)):Tu X (st::rest) (LS X.K X.mg w pt (.seq a r)):=fun XY s Z H D I ⟨F,G,p,fl,p',rel,e,kq⟩=>by
 replace e:=(Zzb _ _).symm.trans e
 obtain⟨⟨f,q⟩,e1,e2⟩:=ZO.mp e;refine Cj ha hr XY s Z H D I ⟨F,G,p,f,q,rel,e1,fun F1 H1 σ1 l1 u1 Zt k1=>?_⟩;cases f with
 | nx=>exact⟨F1,G,q,fl,p',Zt,e2,fun F2 H2 σ2 l2 u2 Zl k2=>kq F2 H2 σ2 (l1.trans l2) (u1.trans u2) Zl (k1.trans k2)⟩
 | rt t=>cases e2;exact kq F1 H1 σ1 l1 u1 Zt k1
 | bk=>cases e2;exact kq F1 H1 σ1 l1 u1 Zt k1
 | ct=>cases e2;exact kq F1 H1 σ1 l1 u1 Zt k1
theorem sv{a:E}{x:Expr}{pos:Pos}(h:PE X x (LE X.K X.mg w a)):PS X (.Return (some x) pos) (LS X.K X.mg w pt (.ret a)):=fun XY s Z H D I ⟨F,G,p,fl,p',rel,e,kq⟩=>by
 replace e:=(Zzm _).symm.trans e
 obtain⟨⟨r,q⟩,e1,e2⟩:=Yk.mp e;cases e2;exact ps_ret h XY s Z H D I ⟨F,G,p,r,q,rel,e1,fun F1 H1 v l1 u1 Zt rs=>kq F1 H1 Z l1 u1 Zt (Kp.refl pt Z) v rs⟩
theorem w4{pos:Pos}:PS X (.Return none pos) (LS X.K X.mg w pt (.ret (.k .non))):=fun XY s Z H D I ⟨F,G,p,fl,p',rel,e,kq⟩=>by
 cases e;exact uo XY s Z H D I (kq F H Z (Le.refl F) (Up.refl H) rel (Kp.refl pt Z) .non rfl)
noncomputable def Jo:Expr->Bool
 | .ListComp _ _ _ _=>false
 | .SetComp _ _ _ _=>false
 | .DictComp _ _ _ _ _=>false
 | _=>true
theorem B9{x:Expr}{t:Option Expr}{ln:Nat}{env:Env}(h:Jo x=true):swapsWith x t ln env=pure false:=by
 cases x<;>first | rfl | cases h
def notName:Expr->Bool
 | .Name _ _=>false
 | _=>true
theorem Lh{x t:Expr}{ln:Nat}{env:Env}(h:notName t=true):swapsWith x (some t) ln env=pure false:=by
 cases x<;>first | rfl | (cases t<;>first | rfl | cases h)
theorem sns_ex{a:E}{x:Expr}{pos:Pos}(h:PE X x (LE X.K X.mg w a))(hc:Jo x=true):PS X (.Expr x pos) (LS X.K X.mg w pt (.ex a)):=fun XY s Z H D I ⟨F,G,p,fl,p',rel,e,kq⟩=>by
 replace e:=(ex_exQ _).symm.trans e
 obtain⟨⟨r,q⟩,e1,e2⟩:=Yk.mp e;cases e2;exact As h (B9 hc) XY s Z H D I ⟨F,G,p,r,q,rel,e1,fun F1 H1 v l1 u1 Zt rs=>kq F1 H1 Z l1 u1 Zt (Kp.refl pt Z)⟩
theorem g0{i:Nat}{Z:L2.St}{v:Option V}(h:¬ pt i=true):Kp pt Z (Z.set i v):=⟨XQ ..,fun j hj=>List.getElem?_set_ne fun z=>h (by rw[z];exact hj)⟩
theorem vm{i:Nat}{a:E}{Z:L2.St}{H:Hp}{D:Ends}(hi:i<Z.length)(h:LS X.K X.mg w pt (.set i a) D Z H):LE X.K X.mg w a Z H fun v H1=>D.nx (Z.set i (some v)) H1:=by
 obtain⟨F,G,p,fl,p',rel,e,kq⟩:=h
 replace e:=(Zzf _ _).symm.trans e
 split at e
 .cases e
 .rename_i hp
  obtain⟨⟨r,q⟩,e1,e2⟩:=Yk.mp e;cases e2;exact⟨F,G,p,r,q,rel,e1,fun F1 H1 v l1 u1 Zt rs=>kq F1 H1 _ l1 u1 (Zt.bind hi rs) (g0 hp)⟩
theorem H0(c:Ctx X w k N sc){i:Nat}{a:E}{x:Expr}{y:Str}{pos pos':Pos}(hr:(N[i]? == some y && locs sc y)=true)(h:PE X x (LE X.K X.mg w a))(hc:swapsWith x (some (.Name y pos')) pos.line X.env=pure false):PS X (.Assign [.Name y pos'] x pos) (LS X.K X.mg w pt (.set i a)):=fun XY s Z H D I hs=>by
 rw[Y8,beq_iff_eq]at hr;obtain⟨l1,l2⟩:=c.loc hr.2;have hi:X.N[i]?=some y:=by rw[c.nN];exact hr.1
 exact yh (by rw[c.nN];exact c.nd) hi l1 h hc l2 XY s Z H D I (vm (by rw[I.len];exact(Nd.mp hi).1) hs)
theorem r9(c:Ctx X w k N sc){tg a:E}{x t:Expr}{pos:Pos}(hg:Na N sc tg t=true)(ht:isTup t=true)(h:PE X x (LE X.K X.mg w a))(hx:isTup x=false):PS X (.Assign [t] x pos) (LS X.K X.mg w pt (.unp tg a)):=fun XY s Z H D I ⟨F,G,p,fl,p',rel,e,kq⟩=>by
 replace e:=(Zzg _ _).symm.trans e
 split at e
 .rename_i hp
  obtain⟨⟨u,q⟩,e1,e⟩:=ZO.mp e;obtain⟨q2,e2,e3⟩:=Yk.mp e;cases e3;obtain⟨r,e4,e5⟩:=T1 e1;obtain⟨ts,j,ps,rfl⟩:=Er ht
  have tn:∀(tg:E) (i:Nat),Uj pt tg=true->i∈Np tg->pt i=false:=fun tg=>by
   induction tg with
   | v i=>intro j h m;cases Pz.mp m;simpa [Uj] using h
   | tup es ih=>intro j h m;exact ih j h m
   | cons a r ha hr=>intro j h m;simp only[Uj,Y8]at h;rcases x8.mp m with m | m;exact ha j h.1 m;exact hr j h.2 m
   | _=>intro j h m;exact absurd m Vy
  refine yu h (T5 c tg hg) (show swapsWith x (some (.Tuple ts j ps)) pos.line X.env=pure false from Lh rfl) ?_ rfl XY s Z H D I ⟨F,G,p,r,q,rel,e4,fun F1 H1 v l1 u1 Zt rs=>?_⟩
  .unfold swappedStores;cases x<;>first | rfl | cases hx
  obtain⟨F2,l2,Zl,hv⟩:=Zt.thaw e5 rs;exact⟨F2,G,q,u,_,Zl,hv,e2,fun σ' Yj k' n'=>kq F2 H1 σ' (l1.trans l2) u1 Yj ⟨n',fun i hi=>k' i fun m=>by rw[tn tg i hp m]at hi;cases hi⟩⟩
 .cases e
theorem sf{c:E}{a b:S}{z:Expr}{x y:List Stmt}{pos:Pos}(hc:PT X z (LB X.K X.mg w c))(ha:Tu X x (LS X.K X.mg w pt a))(hb:Tu X y (LS X.K X.mg w pt b)):PS X (.If z x y pos) (LS X.K X.mg w pt (.ite c a b)):=fun XY s Z H D I ⟨F,G,p,fl,p',rel,e,kq⟩=>by
 replace e:=(Zzt _ _ _).symm.trans e
 obtain⟨⟨d,q⟩,e1,e2⟩:=ZO.mp e;refine ps_if hc ha hb XY s Z H D I ⟨F,G,p,d,q,rel,e1,fun F1 H1 l1 u1 Zt=>?_⟩;cases d with
 | true=>exact iu (B:=LS X.K X.mg w pt b D Z H1) ⟨F1,G,q,fl,p',Zt,e2,fun F2 H2 σ2 l2 u2=>kq F2 H2 σ2 (l1.trans l2) (u1.trans u2)⟩
 | false=>exact iteF (A:=LS X.K X.mg w pt a D Z H1) ⟨F1,G,q,fl,p',Zt,e2,fun F2 H2 σ2 l2 u2=>kq F2 H2 σ2 (l1.trans l2) (u1.trans u2)⟩
theorem w6{st:Stmt}:PS X st (LS X.K X.mg w pt .rais):=fun XY s Z H D I ⟨F,G,p,fl,p',rel,e,kq⟩=>by cases e
theorem w8{pos:Pos}:PS X (.Pass pos) (LS X.K X.mg w pt .pass):=fun XY s Z H D I ⟨F,G,p,fl,p',rel,e,kq⟩=>by
 cases e;exact ue XY s Z H D I (kq F H Z (Le.refl F) (Up.refl H) rel (Kp.refl pt Z))
theorem sr{pos:Pos}:PS X (.Break pos) (LS X.K X.mg w pt .brk):=fun XY s Z H D I ⟨F,G,p,fl,p',rel,e,kq⟩=>by
 cases e;exact yp XY s Z H D I (kq F H Z (Le.refl F) (Up.refl H) rel (Kp.refl pt Z))
theorem vx{pos:Pos}:PS X (.Continue pos) (LS X.K X.mg w pt .cont):=fun XY s Z H D I ⟨F,G,p,fl,p',rel,e,kq⟩=>by
 cases e;exact P5 XY s Z H D I (kq F H Z (Le.refl F) (Up.refl H) rel (Kp.refl pt Z))
end
theorem K5{o kx:Expr}{pos:Pos}{env:Env}(h:Uy kx=true):∀v,assign (.Subscript o kx pos) env v=(do
   let ov <-holding [v] (eval o env)
   let iv <-holding [v,ov] (eval kx env)
   standAt pos
   holding [v,ov,iv] (setItem ov iv v)
   release [v,ov,iv] []):=by
 intro v;cases kx<;>first | rfl | cases h
section
variable{X:Cx}{w:W}{k:Nat}{N:ZD}{sc:ZK}{pt:Nat->Bool}
theorem sy(c:Ctx X w k N sc){i:Nat}{kk a:E}{x kx:Expr}{y:Str}{pos pos' Y9:Pos}(hr:Jj N sc i y=true)(h:PE X x (LE X.K X.mg w a))(hk:PE X kx (LE X.K X.mg w kk))(hn:Uy kx=true) :
  PS X (.Assign [.Subscript (.Name y pos') kx Y9] x pos) (LS X.K X.mg w pt (.put i kk a)):=fun XY s Z H D I ⟨F,G,p,fl,p',rel,e,kq⟩=>by
 replace e:=(Zzd _ _ _).symm.trans e
 obtain⟨⟨t,q⟩,e1,e⟩:=ZO.mp e;dsimp only at e
 split at e
 .rename_i hd
  obtain⟨⟨kt,q2⟩,e2,e⟩:=ZO.mp e;dsimp only at e
  split at e
  .rename_i z ez
   obtain⟨z',e3,e⟩:=Yk.mp e;cases e;obtain⟨r,e4,e5⟩:=T1 e1;obtain⟨r2,e6,e7⟩:=T1 e2
   have slot:∀{F1 H1:Hp},Rel X.K X.mg F1 G q Z H1->∃v,Z[i]?=some (some v):=fun {F1 H1} Zt=>by
    unfold done at hd
    split at hd
    .rename_i u eu;obtain⟨v,h1,_⟩:=Zt.fz i u eu;exact⟨v,h1⟩
    .rename_i u eu;obtain⟨v,h1,_⟩:=Zt.ow i u eu;exact⟨_,h1⟩
    .cases hd
   unfold putAt at e3
   split at e3
   .obtain⟨j,e8,rfl⟩:=Yk.mp e3;refine yu h (pg_sub (c.var hr) hk set_list (K5 hn)) (show swapsWith x (some (.Subscript (.Name y pos') kx Y9)) pos.line X.env=pure false from Lh rfl) ?_ rfl XY s Z H D I ⟨F,G,p,r,q,rel,e4,fun F1 H1 v l1 u1 Zt rs=>?_⟩
    .unfold swappedStores;cases x<;>rfl
    obtain⟨F2,l2,Zl,hv⟩:=Zt.thaw e5 rs;obtain⟨v1,i8⟩:=slot Zl;refine⟨v1,i8,F2,G,q,r2,q2,Zl,e6,fun F3 H3 vk l3 u3 Mx rs2=>?_⟩;obtain⟨F4,l4,zw,hvk⟩:=Mx.thaw e7 rs2;obtain⟨b,g1,g2,g3,ys,g4,g5,g6⟩:=zw.ow i _ ez;rw[i8]at g1;cases g1;cases(show vk=_ from hvk);have hv4:=IsT.up u3 (l3.trans l4) _ _ hv;have u5:Up X.K H3 (upd H3 b (.lst (ys.set j v))):=Em g4;obtain⟨u6,rel6⟩:=zw.mut (o:=.lst (ys.set j v)) (t':=.lst (_root_.List.set _ j t)) ez i8 ⟨_,Zq,by rw[XQ];exact g5,Zx.up u5 (Le.refl _) _ _ (g6.set j hv4)⟩;exact⟨b,ys,_,j,rfl,rfl,g4,by rw[<-g6.length];exact e8,kq F4 _ Z ((l1.trans l2).trans (l3.trans l4)) (u1.trans (u3.trans u6)) rel6 (Kp.refl pt Z)⟩
   .obtain⟨kv,e8,e9⟩:=ZO.mp e3
    split at e9
    .rename_i hz
     cases e9;have hu:X.A.units+1<cLine:=by have:=c.un;omega
     refine u9 hu (c.var hr) hk h (Lh rfl) XY s Z H D I ⟨F,G,p,r,q,rel,e4,fun F1 H1 v l1 u1 Zt rs=>?_⟩;obtain⟨F2,l2,Zl,hv⟩:=Zt.thaw e5 rs;obtain⟨v1,i8⟩:=slot Zl;refine⟨v1,i8,F2,G,q,r2,q2,Zl,e6,fun F3 H3 vk l3 u3 Mx rs2=>?_⟩;obtain⟨F4,l4,zw,hvk⟩:=Mx.thaw e7 rs2;obtain⟨b,g1,g2,g3,ks,g4,g5,g6⟩:=zw.ow i _ ez;rw[i8]at g1;cases g1;cases Tw (K:=X.K) (mg:=X.mg) (H:=H3) (F:=F4) e8 (Ei zw.b hvk);have hv4:=IsT.up u3 (l3.trans l4) _ _ hv;have own:Rp X.K X.mg H3 F4 b (.dct _):=⟨ks,g4,g5,g6⟩;have u5:Up X.K H3 (upd H3 b (.dK (putK ks kv v))):=Ed own;have lk:=g6.length;have pl:=G1 ks kv v;obtain⟨u6,rel6⟩:=zw.mut (o:=.dK (putK ks kv v)) (t':=.dct (P4 _ kv t)) ez i8 ⟨_,Zq,by omega,Z0.up u5 (Le.refl _) _ _ (Z0.put hv4 g6)⟩;exact⟨b,_,rfl,Hg.k g4 (by omega),kq F4 _ Z ((l1.trans l2).trans (l3.trans l4)) (u1.trans (u3.trans u6)) rel6 (Kp.refl pt Z)⟩
    .cases e9
   .cases e3
  .cases e
 .cases e
end
theorem tn_of{pt:Nat->Bool}:∀(tg:E) (i:Nat),Uj pt tg=true->i∈Np tg->pt i=false:=fun tg=>by
 induction tg with
 | v i=>intro j h m;cases Pz.mp m;simpa [Uj] using h
 | tup es ih=>intro j h m;exact ih j h m
 | cons a r ha hr=>intro j h m;simp only[Uj,Y8]at h;rcases x8.mp m with m | m;exact ha j h.1 m;exact hr j h.2 m
 | _=>intro j h m;exact absurd m Vy
section
variable{X:Cx}{w:W}{k:Nat}{N:ZD}{sc:ZK}{pt:Nat->Bool}
theorem Frz.fo{F F' G H H' F2 H2:Hp}{p2:P}{σ2:L2.St}{D:Ends}{fl:Fl}(z:Frz X F H F' H')(l:Le F' F2)(r:Rel X.K X.mg F2 G p2 σ2 H2)(kq:∀F3 H3,Le F F3->Up X.K H2 H3->Rel X.K X.mg F3 G p2 σ2 H3->Fo X.K X.mg D F3 G p2 σ2 H3 fl):Fo X.K X.mg (gh X D) F2 G p2 σ2 H2 fl:=by
 obtain⟨F3,H3,l3,r3,ml,u3,lr,n1,n2⟩:=z.back l r;have h:=kq F3 H3 l3 u3 r3;cases fl with
 | nx=>exact⟨H3,ml,h⟩
 | bk=>exact⟨H3,ml,h⟩
 | ct=>exact⟨H3,ml,h⟩
 | rt rr =>
  intro v rs;refine⟨H3,ml,h v ?_⟩;cases rr with
  | no=>exact rs
  | f t=>exact IsT.upR u3 lr t v rs
  | o t =>
   obtain⟨a,rfl,g1,g2,g3,g4⟩:=rs;refine⟨a,rfl,n1 a g1,g2, ?_,g4⟩;cases t with
   | lst ts=>obtain⟨vs,k1,k2,k3⟩:=g3;exact⟨vs,(n2 a g1).trans k1,k2,Zx.upR u3 lr _ _ k3⟩
   | dct ts=>obtain⟨vs,k1,k2,k3⟩:=g3;exact⟨vs,(n2 a g1).trans k1,k2,Z0.upR u3 lr _ _ k3⟩
   | _=>exact g3.elim
theorem vz(c:Ctx X w k N sc){tg it:E}{b:S}{t iter:Expr}{body:List Stmt}{pos:Pos}(hi:PI X t iter (LI X w it))(hg:Na N sc tg t=true)(hb:Tu X body (LS X.K X.mg w pt b))(hs:N0 iter=true):PS X (.For t iter body [] pos) (LS X.K X.mg w pt (.loop tg it b)):=fun XY s Z H D I ⟨F,G,p,fl,p',rel,e,kq⟩=>by
 replace e:=(mh _ _ _).symm.trans e
 split at e
 .rename_i hp
  obtain⟨⟨xs,p1⟩,e1,e2⟩:=ZO.mp e;dsimp only at e2;refine PS.mel (ps_for (by rw[c.xe];exact PassesOwn.never) c.calm hi (T5 c tg hg) hb (Gi hs)) XY s Z H D I ⟨F,G,p,xs,p1,rel,e1,fun F1 H1 F' H' J l u Zt fz zl walk=>?_⟩;obtain⟨Yj,u',lr⟩:=fz.rel Zt
  let Wt:Nat->Nat->L2.St->Hp->Prop:=fun i m σ2 H2=>m=xs.length - i/\i<=xs.length/\∃F2 q,Le F' F2/\Up X.K H' H2/\Rel X.K X.mg F2 G q σ2 H2/\Kp pt Z σ2/\Bd (fun x s=>(asg tg x s).bind fun s1=>ex w pt b s1) (xs.drop i) q=some (fl,p')
  refine⟨Wt,⟨xs.length,rfl,Bw _,F',p1,Le.refl _,Up.refl _,Yj,Kp.refl pt Z,e2⟩, ?_⟩;rintro i m σ2 H2 ⟨rfl,hi',F2,q,l2,u2,r2,kp,e3⟩;obtain⟨wk1,wk2⟩:=walk i F2 H2 l2 u2 r2.b.f;by_cases Kr:i<xs.length
  .have et:xs[i]?=some xs[i]:=Dx Kr;rw[List.drop_eq_getElem_cons Kr]at e3;unfold Bd at e3;obtain⟨⟨f,q1⟩,e4,e5⟩:=ZO.mp e3;obtain⟨s3,e6,e7⟩:=ZO.mp (show (asg tg xs[i] q).bind _=some (f,q1) from e4);obtain⟨g1,g2⟩:=wk1 _ et;refine .inr ⟨g1,fun σ' H'=>Wt (i+1) (xs.length - (i+1)) σ' H',fun σ' H' h=>⟨_,by omega,h⟩,fun x H3 yd=>?_⟩;obtain⟨sm,ix⟩:=g2 x H3 yd;refine⟨F2,G,q,xs[i],s3,r2.same sm,ix,e6,fun σ3 r3 k3 n3=>?_⟩;have kp3:Kp pt σ2 σ3:=⟨n3,fun j hj=>k3 j fun m=>by rw[tn_of tg j hp m]at hj;cases hj⟩;refine⟨F2,G,s3,f,q1,r3,e7,fun F4 H4 σ4 l4 u4 r4 k4=>?_⟩;have kk:=kp.trans (kp3.trans k4);have uu:=u2.trans (sm.up.trans u4)
   have out:∀{fl':Fl},fl=fl'->q1=p'->Fo X.K X.mg (gh X D) F4 G q1 σ4 H4 fl':=fun {fl'} ef ep=>by
    subst ef ep;exact fz.fo (l2.trans l4) r4 fun F5 H5 l5 u5 r5=>kq F5 H5 σ4 (l.trans l5) (u.trans (u'.trans (uu.trans u5))) r5 kk
   cases f with
   | nx=>exact⟨rfl,Kr,F4,q1,l2.trans l4,uu,r4,kk,e5⟩
   | ct=>exact⟨rfl,Kr,F4,q1,l2.trans l4,uu,r4,kk,e5⟩
   | bk=>cases e5;exact out rfl rfl
   | rt r=>cases e5;exact out rfl rfl
  .have ei:i=xs.length:=by omega
   subst ei;rw[List.drop_length]at e3;cases e3;exact .inl ⟨wk2 rfl,fz.fo (fl:=.nx) l2 r2 fun F5 H5 l5 u5 r5=>kq F5 H5 σ2 (l.trans l5) (u.trans (u'.trans (u2.trans u5))) r5 kp⟩
 .cases e
theorem sns_wh(c:Ctx X w k N sc){cd:E}{b:S}{z:Expr}{body:List Stmt}{pos:Pos}(hc:PT X z (LB X.K X.mg w cd))(hb:Tu X body (LS X.K X.mg w pt b)):PS X (.While z body [] pos) (LS X.K X.mg w pt (.wh cd b)):=fun XY s Z H D I ⟨F,G,p,fl,p',rel,e,kq⟩=>by
 replace e:=(ex_whQ _ _).symm.trans e
 refine yc (by rw[c.xe];exact PassesOwn.never) hc hb XY s Z H D I ?_
 let Wt:Nat->L2.St->Hp->Prop:=fun m σ2 H2=>∃F2 q,Le F F2/\Up X.K H H2/\Rel X.K X.mg F2 G q σ2 H2/\Kp pt Z σ2/\Bm (fun s=>Gn (ev w cd s)) (fun s=>ex w pt b s) m q=some (fl,p')
 refine⟨Wt,⟨1000000,F,p,Le.refl _,Up.refl _,rel,Kp.refl pt Z,e⟩, ?_⟩;rintro m σ2 H2 ⟨F2,q,l2,u2,r2,kp,e3⟩;cases m with
 | zero=>cases e3
 | succ m =>
  unfold Bm at e3;obtain⟨⟨d,q1⟩,e4,e5⟩:=ZO.mp e3;refine⟨F2,G,q,d,q1,r2,e4,fun F3 H3 l3 u3 r3=>?_⟩;cases d with
  | false =>
   cases e5;exact iteF (kq F3 H3 σ2 (l2.trans l3) (u2.trans u3) r3 kp)
  | true =>
   obtain⟨⟨f,q2⟩,e6,e7⟩:=ZO.mp (show (ex w pt b q1).bind _=some (fl,p') from e5);refine iu (B:=D.nx σ2 H3) ⟨fun σ' H'=>Wt m σ' H',fun σ' H' h=>⟨m,Nat.lt_succ_self m,h⟩,F3,G,q1,f,q2,r3,e6,fun F4 H4 σ4 l4 u4 r4 k4=>?_⟩;have kk:=kp.trans k4;have uu:=u2.trans (u3.trans u4);have ll:=l2.trans (l3.trans l4);cases f with
   | nx=>exact⟨F4,q2,ll,uu,r4,kk,e7⟩
   | ct=>exact⟨F4,q2,ll,uu,r4,kk,e7⟩
   | bk=>cases e7;exact kq F4 H4 σ4 ll uu r4 kk
   | rt r=>cases e7;exact kq F4 H4 σ4 ll uu r4 kk
end
def A7:E->Bool
 | .comp _ _ _ _ _ _=>true
 | _=>false
inductive ShS where
 | ret(x:Option Expr) | ex(x:Expr) | asg(t x:Expr) | ite(z:Expr)(a b:List Stmt) | loop(t it:Expr)(b:List Stmt) | wh(z:Expr)(b:List Stmt) | pass | brk | cont | non
noncomputable def shA:ZC->Expr->ShS
 | [],_=>.non
 | t::r,x=>match r with
  | []=>.asg t x
  | _::_=>.non
def shL(t it:Expr)(b:List Stmt):List Stmt->ShS
 | []=>.loop t it b
 | _::_=>.non
def shW(z:Expr)(b:List Stmt):List Stmt->ShS
 | []=>.wh z b
 | _::_=>.non
noncomputable def Bk:Stmt->ShS
 | .Return x _=>.ret x
 | .Expr x _=>.ex x
 | .Assign ts x _=>shA ts x
 | .If z a b _=>.ite z a b
 | .For t it b e _=>shL t it b e
 | .While z b e _=>shW z b e
 | .Pass _=>.pass
 | .Break _=>.brk
 | .Continue _=>.cont
 | _=>.non
def ShSI:ShS->Stmt->Prop
 | .ret x,s=>∃p,s=.Return x p
 | .ex x,s=>∃p,s=.Expr x p
 | .asg t x,s=>∃p,s=.Assign [t] x p
 | .ite z a b,s=>∃p,s=.If z a b p
 | .loop t it b,s=>∃p,s=.For t it b [] p
 | .wh z b,s=>∃p,s=.While z b [] p
 | .pass,s=>∃p,s=.Pass p
 | .brk,s=>∃p,s=.Break p
 | .cont,s=>∃p,s=.Continue p
 | .non,_=>True
theorem p9(s:Stmt):ShSI (Bk s) s:=by
 cases s
 case Assign ts x p=>cases ts with
  | nil=>trivial
  | cons t r=>cases r with
   | nil=>exact⟨_,rfl⟩
   | cons _ _=>trivial
 case For t it b e p=>cases e with
  | nil=>exact⟨_,rfl⟩
  | cons _ _=>trivial
 case While z b e p=>cases e with
  | nil=>exact⟨_,rfl⟩
  | cons _ _=>trivial
 all_goals first | exact⟨_,rfl⟩ | exact True.intro
theorem Vt{s:Stmt}{h:ShS}(e:Bk s=h):ShSI h s:=e ▸ p9 s
def Kt:E->Bool
 | .k t=>match t with
  | .non=>true
  | _=>false
 | _=>false
theorem z8{a:E}(h:Kt a=true):a=.k .non:=by
 cases a with
 | k t=>cases t with
  | non=>rfl
  | _=>cases h
 | _=>cases h
noncomputable def zt(t:Expr):Option Str:=match Bi t with
 | .name y=>some y
 | _=>none
theorem Fv{t:Expr}{y:Str}(h:zt t=some y):∃p,t=.Name y p:=by
 unfold zt at h
 split at h
 .rename_i e
  cases h;exact Z8 e
 .cases h
noncomputable def uq(t:Expr):Option (Str×Expr):=match Bi t with
 | .sub o k=>(zt o).map (·,k)
 | _=>none
theorem ux{t k:Expr}{y:Str}(h:uq t=some (y,k)):∃q p,t=.Subscript (.Name y q) k p:=by
 unfold uq at h
 split at h
 .rename_i e
  obtain⟨p,rfl⟩:=Z8 e;obtain⟨z,e1,e2⟩:=Yk.mp h;cases e2;obtain⟨q,rfl⟩:=Fv e1;exact⟨q,p,rfl⟩
 .cases h
noncomputable def vb:Expr->Option Expr
 | .Call (.Attribute o m ap) [] [] pos=>if m = "clear" /\ U6 o=true/\(ap.endLine == pos.line)=true then some o else none
 | _=>none
theorem vf{x o:Expr}(h:vb x=some o):∃ap pos,x=.Call (.Attribute o "clear" ap) [] [] pos/\U6 o=true/\(ap.endLine == pos.line)=true:=by
 unfold vb at h
 split at h
 .split at h
  .rename_i g
   cases h;obtain⟨rfl,g1,g2⟩:=g;exact⟨_,_,rfl,g1,g2⟩
  .cases h
 .cases h
def clE(f:Str)(j:Nat):E:=.call f (.cons (.pr .list (.cons (.v j) .nil)) .nil)
noncomputable def ir(i:Nat):E:=.pr .ix (.cons (.v i) (.cons (.k (.int 1)) .nil))
noncomputable def repC(N:ZD)(sc:Scope)(i:Nat)(f:Str)(j:Nat)(s1 s2:Stmt):Bool:=match Bk s1 with
 | .asg t x=>(match zt t with
  | some y=>N[i]? == some y && locs sc.names y && rep true N sc (clE f j) x && Jo x && (match Bk s2 with
   | .ex z=>(match vb z with
    | some o=>rep true N sc (ir i) o
    | none=>false)
   | _=>false)
  | none=>false)
 | _=>false
mutual
noncomputable def repS(N:ZD)(sc:Scope):S->Stmt->Bool
 | .ret a,st=>match Bk st with
  | .ret x=>(match x with
   | some x=>rep true N sc a x
   | none=>Kt a)
  | _=>false
 | .ex a,st=>match Bk st with
  | .ex x=>rep true N sc a x && Jo x
  | _=>false
 | .set i a,st=>match Bk st with
  | .asg t x=>(match zt t with
   | some y=>N[i]? == some y && locs sc.names y && rep true N sc a x && (Jo x || A7 a)
   | none=>false)
  | _=>false
 | .unp tg a,st=>match Bk st with
  | .asg t x=>Na N sc.names tg t && isTup t && rep true N sc a x && !isTup x
  | _=>false
 | .put i k a,st=>match Bk st with
  | .asg t x=>(match uq t with
   | some q=>Jj N sc.names i q.1 && rep true N sc a x && rep true N sc k q.2 && Uy q.2
   | none=>false)
  | _=>false
 | .ite c a b,st=>match Bk st with
  | .ite z x y=>rep true N sc c z && Rt c z && Jw N sc a x && Jw N sc b y
  | _=>false
 | .loop tg it b,st=>match Bk st with
  | .loop t iter body=>L4 true N sc t it iter && Na N sc.names tg t && Jw N sc b body && N0 iter
  | _=>false
 | .wh c b,st=>match Bk st with
  | .wh z body=>rep true N sc c z && Rt c z && Jw N sc b body
  | _=>false
 | .pass,st=>match Bk st with
  | .pass=>true
  | _=>false
 | .brk,st=>match Bk st with
  | .brk=>true
  | _=>false
 | .cont,st=>match Bk st with
  | .cont=>true
  | _=>false
 | .rais,_=>true
 | _,_=>false
noncomputable def Jw(N:ZD)(sc:Scope):S->List Stmt->Bool
 | .nil,[]=>true
 | .seq a r,st::rest=>repS N sc a st && Jw N sc r rest
 | .clr i f j r,s1::s2::rest=>repC N sc i f j s1 s2 && Jw N sc r rest
 | _,_=>false
end
theorem X7{N:ZD}{sc:Scope}{st:Stmt}:∀a,repS N sc (.ret a) st=(match Bk st with
  | .ret x=>(match x with
   | some x=>rep true N sc a x
   | none=>Kt a)
  | _=>false):=fun _=>rfl
theorem yx{N:ZD}{sc:Scope}{st:Stmt}:∀a,repS N sc (.ex a) st=(match Bk st with
  | .ex x=>rep true N sc a x && Jo x
  | _=>false):=fun _=>rfl
theorem X6{N:ZD}{sc:Scope}{st:Stmt}:∀i a,repS N sc (.set i a) st=(match Bk st with
  | .asg t x=>(match zt t with
   | some y=>N[i]? == some y && locs sc.names y && rep true N sc a x && (Jo x || A7 a)
   | none=>false)
  | _=>false):=fun _ _=>rfl
theorem X5{N:ZD}{sc:Scope}{st:Stmt}:∀tg a,repS N sc (.unp tg a) st=(match Bk st with
  | .asg t x=>Na N sc.names tg t && isTup t && rep true N sc a x && !isTup x
  | _=>false):=fun _ _=>rfl
theorem X8{N:ZD}{sc:Scope}{st:Stmt}:∀i k a,repS N sc (.put i k a) st=(match Bk st with
  | .asg t x=>(match uq t with
   | some q=>Jj N sc.names i q.1 && rep true N sc a x && rep true N sc k q.2 && Uy q.2
   | none=>false)
  | _=>false):=fun _ _ _=>rfl
theorem X9{N:ZD}{sc:Scope}{st:Stmt}:∀c a b,repS N sc (.ite c a b) st=(match Bk st with
  | .ite z x y=>rep true N sc c z && Rt c z && Jw N sc a x && Jw N sc b y
  | _=>false):=fun _ _ _=>rfl
theorem E8{N:ZD}{sc:Scope}{st:Stmt}:∀tg it b,repS N sc (.loop tg it b) st=(match Bk st with
  | .loop t iter body=>L4 true N sc t it iter && Na N sc.names tg t && Jw N sc b body && N0 iter
  | _=>false):=fun _ _ _=>rfl
theorem v8{N:ZD}{sc:Scope}{st:Stmt}:∀c b,repS N sc (.wh c b) st=(match Bk st with
  | .wh z body=>rep true N sc c z && Rt c z && Jw N sc b body
  | _=>false):=fun _ _=>rfl
theorem E7{N:ZD}{sc:Scope}{st:Stmt}:repS N sc (.pass ) st=(match Bk st with
  | .pass=>true
  | _=>false):=rfl
theorem zx{N:ZD}{sc:Scope}{st:Stmt}:repS N sc (.brk ) st=(match Bk st with
  | .brk=>true
  | _=>false):=rfl
theorem E9{N:ZD}{sc:Scope}{st:Stmt}:repS N sc (.cont ) st=(match Bk st with
  | .cont=>true
  | _=>false):=rfl
theorem zj{N:ZD}{sc:Scope}{st:Stmt}{rest:List Stmt}:∀a r,Jw N sc (.seq a r) (st::rest)=(repS N sc a st && Jw N sc r rest):=fun _ _=>rfl
section
variable{X:Cx}{w:W}{k:Nat}{N:ZD}{sc:Scope}{pt:Nat->Bool}
theorem Xh{elt:Expr}{gs:List Comprehension}{scope:Scope}{pos p:Pos}{t:Str}{ln:Nat}{env:Env}:swapsWith (.ListComp elt gs scope pos) (some (.Name t p)) ln env=pure (env.blockKind == .function && env.kindOf t == some .local && p.line == pos.line && !(scope.names.any fun(n,k)=>n == t && (k == .local || k == .cell))):=rfl
theorem we(c:Ctx X w k N sc.names)(ct:X.env.scope.names=sc.names){i:Nat}{tg it cd el:E}{fr:ZG}{ns:ZD}{x:Expr}{y:Str}{pos pos':Pos}(hr:(N[i]? == some y && locs sc.names y)=true)(hx:rep true N sc (.comp tg it cd el fr ns) x=true):PS X (.Assign [.Name y pos'] x pos) (LS X.K X.mg w pt (.set i (.comp tg it cd el fr ns))):=by
 have hse:=(Jh (w:=w) (.comp tg it cd el fr ns)).1 X k N sc true x c (fun _=>ct) hx
 have hsw:swapsWith x (some (.Name y pos')) pos.line X.env=pure false\/swapsWith x (some (.Name y pos')) pos.line X.env=pure true:=by
  cases x<;>first | exact .inl rfl | skip
  all_goals (first | (rw[Xh];rename_i sc' pp;cases(X.env.blockKind == .function && X.env.kindOf y == some .local && pos'.line == pp.line && !(sc'.names.any fun(n,k)=>n == y && (k == .local || k == .cell)))<;>first | exact .inl rfl | exact .inr rfl) | skip)
  all_goals cases(show false=true from hx)
 rcases hsw with hsw | hsw
 .exact H0 c hr hse hsw
 .replace hx:=(Wr _ _ _ _ _ _).symm.trans hx
  split at hx
  .rename_i elt t iter ifs scope hy
   obtain⟨pos3,rfl⟩:=Si hy;simp only[Y8]at hx;obtain⟨⟨⟨⟨⟨⟨⟨⟨⟨h1,h2⟩,h3⟩,h4⟩,h5⟩,h6⟩,h7⟩,h8⟩,h9⟩,h10⟩:=hx;have nd':=Q0 h5;have nd:ns.Nodup:=nd'.1;have cc:=fun fp s H=>c.comp (outer:=sc) h3 nd' fp s H
   have ht:∀i∈Np tg,fr[i]?=some none:=fun i m=>by
    unfold l9 at h6;rw[x9]at h6;exact eq_of_beq (h6 i m)
   have hc:∀fp s H,PTs (Z3 X scope ns fp s H) ifs (LT X.K X.mg w cd):=fun fp s H=>by
    unfold LT;by_cases hn:isNil cd=true
    .rw[if_pos hn]at h9 ⊢;rw[List.isEmpty_iff.mp h9];exact Al
    .rw[if_neg hn]at h9 ⊢
     split at h9
     .rw[Y8]at h9;exact An ((Jh (w:=w) cd).2.1 _ k ns scope false _ (cc fp s H) (fun z=>by cases z) h9.1 h9.2).1
     .cases h9
   rw[Y8,beq_iff_eq]at hr;obtain⟨l1,l2⟩:=c.loc hr.2;have hi:X.N[i]?=some y:=by rw[c.nN];exact hr.1
   intro XY s Z H D I hs;have hl:i<Z.length:=by rw[I.len];exact(Nd.mp hi).1
   exact PS.mel (Kz (te:=fun _ _ _=>LE X.K X.mg w el) (tt:=fun _ _ _=>LT X.K X.mg w cd) (g:=fun _ _ _=>LG X.K X.mg tg) (by rw[c.nN];exact c.nd) hi l1 c.calm ((Jh (w:=w) it).2.2.2 X k N sc true t iter c (fun _=>ct) h2) (NX:=N) (outer:=sc) ⟨c.nN,ct,h3,h4⟩ (fun fp s H=>T5 (cc fp s H) tg h8) hc (fun fp s H=>(Jh (w:=w) el).1 _ k ns scope false elt (cc fp s H) (fun z=>by cases z) h10) hsw (Gi h7) l2) XY s Z H D I
    (Ie c h4 nd ht (by rw[I.len,c.nN]) (vm hl hs))
  .cases hx
theorem nf_no{XY:ZY}{Z:L2.St}{H:Hp}{s:Shared}{d:Addr}(I:Inv X XY Z H s)(e:H d=none):NF X d:=fun o u z=>by
 have:=I.base.frzs d o u z;rw[e]at this;cases this
theorem Pn{K:PySem.W.Frag}{mg:ZV}{H F H' F':Hp}:∀{ts:ZZ} {ss:ZD} {vs:ZQ},Uw ts=some ss->Zx K mg H F ts vs->Zx K mg H' F' ts vs
 | [],_,_,_,h=>h
 | .str x::r,ss,vs,e,h=>by
  obtain⟨ss',e1,_⟩:=Yk.mp (show (Uw r).map _=some ss from e);obtain⟨v,q,rfl,h1,h2⟩:=h;exact⟨v,q,rfl,h1,Pn e1 h2⟩
 | .non::_,_,_,e,_=>by cases e
 | .bl _::_,_,_,e,_=>by cases e
 | .int _::_,_,_,e,_=>by cases e
 | .tup _::_,_,_,e,_=>by cases e
 | .lst _::_,_,_,e,_=>by cases e
 | .dct _::_,_,_,e,_=>by cases e
 | .fn _::_,_,_,e,_=>by cases e
theorem yq{K:PySem.W.Frag}{mg:ZV}{F G H:Hp}{p:P}{Z:L2.St}{j:Nat}{ts:ZZ}{ss:ZD}(r:Rel K mg F G p Z H)(e:Ov p j=some ts)(es:Uw ts=some ss):∃a vs,Rd H a (.lst vs)/\j<p.length/\Rel K mg (fun b=>if b=a then H a else none) (fun b=>if b=a then none else H b) ((List.replicate p.length Sl.no).set j (.f (.lst ts))) Z H:=by
 have key:∃a vs,Z[j]?=some (some (V.ref a))/\Rd H a (.lst vs)/\vs.length<=sizeLine/\Zx K mg H F ts vs/\j<p.length:=by
  unfold Ov at e
  split at e
  .rename_i q
   cases e;obtain⟨v,h1,a,vs,rfl,h2,h3,h4⟩:=r.fz j _ q;exact⟨a,vs,h1,r.b.rd h2,h3,h4,(Nd.mp q).1⟩
  .rename_i q
   cases e;obtain⟨a,h1,_,_,vs,h2,h3,h4⟩:=r.ow j _ q;exact⟨a,vs,h1,.inl h2,h3,h4,(Nd.mp q).1⟩
  .cases e
 obtain⟨a,vs,h1,h2,h3,h4,h5⟩:=key
 have no:∀{i:Nat} {s:Sl},((List.replicate p.length Sl.no).set j (.f (.lst ts)))[i]?=some s->s≠.no->i=j/\s=.f (.lst ts):=fun {i s} g n=>by
  rcases Zr g with z | ⟨_,g⟩
  .exact z
  .rw[List.getElem?_replicate]at g
   split at g
   .cases g;exact absurd rfl n
   .cases g
 refine⟨a,vs,h2,h5,⟨⟨fun b o g=>?_,fun b o g=>?_,fun b g=>?_,fun T z=>by cases(show none=some T from z)⟩,fun i t g=>?_,fun i t g=>?_,fun i k t u b g _ _ _=>?_, ?_⟩⟩
 .split at g
  .rename_i z;rw[z];exact g
  .cases g
 .split at g
  .cases g
  .exact g
 .split at g
  .rename_i z;rw[if_pos z]
  .exact absurd rfl g
 .obtain⟨rfl,et⟩:=no g fun z=>nomatch z;cases et;refine⟨.ref a,h1,a,vs,rfl, ?_,h3,Pn es h4⟩;unfold Rd;dsimp only;rw[if_pos rfl];exact h2
 .obtain⟨_,et⟩:=no g fun z=>nomatch z;cases et
 .obtain⟨_,et⟩:=no g fun z=>nomatch z;cases et
 .rw[XQ,List.length_replicate];exact r.ln
theorem Rel.over{K:PySem.W.Frag}{mg:ZV}{F G H:Hp}{p:P}{Z:L2.St}(r:Rel K mg F G p Z H)(i:Nat)(v:Option V):Rel K mg F G (p.set i .no) (Z.set i v) H:=by
 refine⟨r.b,fun j t e=>?_,fun j t e=>?_,fun j l t u a e1 e2 h1 h2=>?_,by rw[XQ,XQ];exact r.ln⟩
 .rcases Zr e with ⟨_,z⟩ | ⟨n,e⟩
  .cases z
  .rw[List.getElem?_set_ne (Ne.symm n)];exact r.fz j t e
 .rcases Zr e with ⟨_,z⟩ | ⟨n,e⟩
  .cases z
  .rw[List.getElem?_set_ne (Ne.symm n)];exact r.ow j t e
 .rcases Zr e1 with ⟨_,z⟩ | ⟨n1,e1⟩
  .cases z
  rcases Zr e2 with ⟨_,z⟩ | ⟨n2,e2⟩
  .cases z
  rw[List.getElem?_set_ne (Ne.symm n1)]at h1;rw[List.getElem?_set_ne (Ne.symm n2)]at h2;exact r.ap j l t u a e1 e2 h1 h2
theorem i3{x:Sl×ZZ}(h:Kc x=true):∃z XG,x=(.f (.tup [.str z,.dct XG]),[]):=by
 unfold Kc at h
 split at h
 .exact⟨_,_,rfl⟩
 .cases h
theorem ev_clE{f:Str}{j:Nat}{p:P}{ts:ZZ}{r:Sl}(hj:p[j]?=some (.f (.lst ts)))(e:w.C f [.f (.lst ts)]=some (r,[])):ev w (clE f j) p=some (r,p):=by
 have hd:done p j=true:=by unfold done;rw[hj]
 have hk:look p (A.s j)=some (.lst ts):=by show (match p[j]? with | some (.f t)=>some t | some (.o t)=>some t | _=>none)=_;rw[hj]
 have hl:looks p [A.s j]=some [.lst ts]:=by show (look p (A.s j)).bind _=_;rw[hk];rfl
 obtain⟨r',p',e1,rfl,rfl⟩:=Gs w (clE f j) p (fun r' p'=>r'=r/\p'=p) (by
  show (if done p j=true then on (looks p [A.s j]) fun ts=>on (yo .list ts) fun s=>Kw s fun t=>on (args p [A.t t]) fun sl=>on (w.C f sl) fun x=>on (outs p [A.t t] x.2) fun p2=>x.1=r/\p2=p else False);rw[if_pos hd,hl];show on (w.C f [.f (.lst ts)]) _;rw[e];exact⟨rfl,rfl⟩)
 exact e1
theorem ev_ix1{i:Nat}{p:P}{z:Str}{XG:ZX}(hi:p[i]?=some (.f (.tup [.str z,.dct XG]))):ev w (ir i) p=some (.f (.dct XG),p):=by
 have hd:done p i=true:=by unfold done;rw[hi]
 have hk:look p (A.s i)=some (.tup [.str z,.dct XG]):=by show (match p[i]? with | some (.f t)=>some t | some (.o t)=>some t | _=>none)=_;rw[hi]
 have hl:looks p [A.s i,A.t (.int 1)]=some [.tup [.str z,.dct XG],.int 1]:=by show (look p (A.s i)).bind _=_;rw[hk];rfl
 obtain⟨r',p',e1,rfl,rfl⟩:=Gs w (ir i) p (fun r' p'=>r'=.f (.dct XG)/\p'=p) (by
  show (if done p i=true then on (looks p [A.s i,A.t (.int 1)]) fun ts=>on (yo .ix ts) fun s=>s=.f (.dct XG)/\p=p else False);rw[if_pos hd,hl];exact⟨rfl,rfl⟩)
 exact e1
theorem sd(c:Ctx X w k N sc.names){i j:Nat}{f y:Str}{r:S}{x o:Expr}{pos pos' ap p3 p4:Pos}{rest:List Stmt}(hr:(N[i]? == some y && locs sc.names y)=true)(h1:PE X x (LE X.K X.mg w (clE f j)))(hc:swapsWith x (some (.Name y pos')) pos.line X.env=pure false)(h2:PE X o (LE X.K X.mg w (ir i)))(hs:U6 o=true)(hl:(ap.endLine == p3.line)=true)(h3:Tu X rest (LS X.K X.mg w pt r)) :
  Tu X (.Assign [.Name y pos'] x pos::.Expr (.Call (.Attribute o "clear" ap) [] [] p3) p4::rest) (LS X.K X.mg w pt (.clr i f j r)):=fun XY s Z H D I ⟨F,G,p,fl,p',rel,e,kq⟩=>by
 have e:(if pt i=true then none else (Ov p j).bind fun ts=>(Uw ts).bind fun _=>(w.C f [.f (.lst ts)]).bind fun x=>if Kc x=true then ex w pt r (p.set i .no) else none)=some (fl,p'):=e
 split at e
 .cases e
 rename_i hp
 obtain⟨ts,e1,e⟩:=ZO.mp e;obtain⟨ss,e2,e⟩:=ZO.mp e;obtain⟨z,e3,e⟩:=ZO.mp e
 split at e
 rotate_left
 .cases e
 rename_i hz
 obtain⟨zs,XG,rfl⟩:=i3 hz;obtain⟨a,vs,ha,hj,relS⟩:=yq rel e1 e2;rw[Y8,beq_iff_eq]at hr;obtain⟨q1,q2⟩:=c.loc hr.2;have hi:X.N[i]?=some y:=by rw[c.nN];exact hr.1
 have hiσ:i<Z.length:=by rw[I.len];exact(Nd.mp hi).1
 refine Cj (yh (by rw[c.nN];exact c.nd) hi q1 h1 hc q2) (Cj (As (zk (PE.mel h2) (T2 hs _ _ _) hl) (B9 rfl)) h3) XY s Z H D I ?_;refine⟨_,_,_,_,_,relS,ev_clE (List.getElem?_set_self (by rw[List.length_replicate];exact hj)) e3,fun F1 H1 v l1 u1 Zt rs=>?_⟩;refine⟨F1,_,_,_,_,Zt.bind hiσ rs,ev_ix1 (List.getElem?_set_self (by rw[XQ,List.length_replicate,rel.ln];exact hiσ)),fun F2 H2 v2 l2 u2 Zl rs2=>?_⟩;obtain⟨d,ks,rfl,hd,_,_⟩:=(show IsT X.K X.mg H2 F2 (.dct XG) v2 from rs2)
 have fa:F2 a=H a:=by
  obtain⟨o',ho⟩:∃o',H a=some o':=by rcases ha with h | ⟨_,h⟩<;>exact⟨_,h⟩
  have:=l2 a o' (l1 a o' (by dsimp only;rw[if_pos rfl];exact ho));rw[this,ho]
 have da:d≠a:=fun q=>by
  rw[q]at hd;unfold Rd at hd;rw[fa]at hd;rcases ha with h | ⟨_,h⟩<;>rw[h]at hd<;>rcases hd with g | ⟨_,g⟩<;>cases g
 have hd0:H d=none:=by
  have:=Zl.b.d d (by rcases hd with g | ⟨_,g⟩<;>rw[g]<;>exact fun q=>nomatch q);rw[if_neg da]at this;exact this
 have sm:Zp H (upd H2 d (.dK [])):=fun b ob g=>by
  have bd:b≠d:=fun q=>by rw[q,hd0]at g;cases g
  rw[Zz bd];by_cases q:b=a
  .rw[q]at g ⊢;exact Zl.b.f a ob (fa.trans g)
  .exact Zl.b.g b ob (by rw[if_neg q];exact g)
 have fin:LS X.K X.mg w pt r D (Z.set i (some v)) (upd H2 d (.dK [])):=⟨F,G,p.set i .no,fl,p',(rel.same sm).over i _,e,fun F3 H3 σ3 l3 u3 Mx k3=>kq F3 H3 σ3 l3 (sm.up.trans u3) Mx ((g0 hp).trans k3)⟩;rcases hd with g | ⟨o',g⟩
 .exact⟨H2,.inl rfl,d,ks,rfl,Zl.b.f d _ g,fin⟩
 .exact⟨upd H2 d (.dK ks),.inr ⟨d,o',ks,Zl.b.f d _ g,nf_no I hd0,rfl⟩,d,ks,rfl,Zq,by rw[l0];exact fin⟩
theorem su(c:Ctx X w k N sc.names)(ct:X.env.scope.names=sc.names):∀s:S,(∀st,repS N sc s st=true->PS X st (LS X.K X.mg w pt s))/\∀sts,Jw N sc s sts=true->Tu X sts (LS X.K X.mg w pt s):=by
 have E:=fun(e:E) (x:Expr) (h:rep true N sc e x=true)=>(Jh (w:=w) e).1 X k N sc true x c (fun _=>ct) h;have Tt:=fun(e:PV.E) (x:Expr) (h:rep true N sc e x=true) (t:Rt e x=true)=>((Jh (w:=w) e).2.1 X k N sc true x c (fun _=>ct) h t).1;have It:=fun(e:PV.E) (t x:Expr) (h:L4 true N sc t e x=true)=>(Jh (w:=w) e).2.2.2 X k N sc true t x c (fun _=>ct) h;have nb:∀{s:S},(∀sts,Jw N sc s sts=false)->∀sts,Jw N sc s sts=true->Tu X sts (LS X.K X.mg w pt s):=fun h sts z=>by rw[h]at z;cases z
 have ns:∀{s:S},(∀st,repS N sc s st=false)->∀st,repS N sc s st=true->PS X st (LS X.K X.mg w pt s):=fun h sts z=>by rw[h]at z;cases z
 intro s
 induction s with
 | nil =>
  refine⟨ns fun st=>rfl,fun sts h=>?_⟩;cases sts with
  | nil=>exact sg
  | cons _ _=>cases(show false=true from h)
 | seq a r ha hr =>
  refine⟨ns fun st=>rfl,fun sts h=>?_⟩;cases sts with
  | nil=>cases(show false=true from h)
  | cons st rest =>
   replace h:=(zj _ _).symm.trans h
   rw[Y8]at h;exact vq (ha.1 st h.1) (hr.2 rest h.2)
 | ret a =>
  refine⟨fun st h=>?_,nb fun sts=>rfl⟩
  replace h:=(X7 _).symm.trans h
  split at h
  .rename_i e
   obtain⟨p,rfl⟩:=Vt e
   split at h
   .exact sv (E a _ h)
   .rw[z8 h];exact w4
  .cases h
 | ex a =>
  refine⟨fun st h=>?_,nb fun sts=>rfl⟩
  replace h:=(yx _).symm.trans h
  split at h
  .rename_i e
   obtain⟨p,rfl⟩:=Vt e;rw[Y8]at h;exact sns_ex (E a _ h.1) h.2
  .cases h
 | set i a =>
  refine⟨fun st h=>?_,nb fun sts=>rfl⟩
  replace h:=(X6 _ _).symm.trans h
  split at h
  .rename_i e
   obtain⟨p,rfl⟩:=Vt e
   split at h
   .rename_i e
    obtain⟨p,rfl⟩:=Fv e;simp only[Y8]at h;obtain⟨⟨⟨h1,h2⟩,h3⟩,h4⟩:=h;have h12:=B0z.mpr ⟨h1,h2⟩;rw[Bool.or_eq_true]at h4;rcases h4 with h4 | h4
    .exact H0 c h12 (E a _ h3) (B9 h4)
    .cases a<;>first | exact we c ct h12 h3 | cases h4
   .cases h
  .cases h
 | unp tg a =>
  refine⟨fun st h=>?_,nb fun sts=>rfl⟩
  replace h:=(X5 _ _).symm.trans h
  split at h
  .rename_i e
   obtain⟨p,rfl⟩:=Vt e;simp only[Y8]at h;obtain⟨⟨⟨h1,h2⟩,h3⟩,h4⟩:=h;exact r9 c h1 h2 (E a _ h3) (by simpa using h4)
  .cases h
 | put i kk a =>
  refine⟨fun st h=>?_,nb fun sts=>rfl⟩
  replace h:=(X8 _ _ _).symm.trans h
  split at h
  .rename_i e
   obtain⟨p,rfl⟩:=Vt e
   split at h
   .rename_i e
    obtain⟨q,p,rfl⟩:=ux e;simp only[Y8]at h;obtain⟨⟨⟨h1,h2⟩,h3⟩,h4⟩:=h;exact sy c h1 (E a _ h2) (E kk _ h3) h4
   .cases h
  .cases h
 | ite cd a b ha hb =>
  refine⟨fun st h=>?_,nb fun sts=>rfl⟩
  replace h:=(X9 _ _ _).symm.trans h
  split at h
  .rename_i e
   obtain⟨p,rfl⟩:=Vt e;simp only[Y8]at h;obtain⟨⟨⟨h1,h2⟩,h3⟩,h4⟩:=h;exact sf (Tt cd _ h1 h2) (ha.2 _ h3) (hb.2 _ h4)
  .cases h
 | loop tg it b hb =>
  refine⟨fun st h=>?_,nb fun sts=>rfl⟩
  replace h:=(E8 _ _ _).symm.trans h
  split at h
  .rename_i e
   obtain⟨p,rfl⟩:=Vt e;simp only[Y8]at h;obtain⟨⟨⟨h1,h2⟩,h3⟩,h4⟩:=h;exact vz c (It it _ _ h1) h2 (hb.2 _ h3) h4
  .cases h
 | wh cd b hb =>
  refine⟨fun st h=>?_,nb fun sts=>rfl⟩
  replace h:=(v8 _ _).symm.trans h
  split at h
  .rename_i e
   obtain⟨p,rfl⟩:=Vt e;simp only[Y8]at h;obtain⟨⟨h1,h2⟩,h3⟩:=h;exact sns_wh c (Tt cd _ h1 h2) (hb.2 _ h3)
  .cases h
 | pass =>
  refine⟨fun st h=>?_,nb fun sts=>rfl⟩
  replace h:=(E7).symm.trans h
  split at h
  .rename_i e
   obtain⟨p,rfl⟩:=Vt e;exact w8
  .cases h
 | brk =>
  refine⟨fun st h=>?_,nb fun sts=>rfl⟩
  replace h:=(zx).symm.trans h
  split at h
  .rename_i e
   obtain⟨p,rfl⟩:=Vt e;exact sr
  .cases h
 | rais=>exact⟨fun st h=>w6,nb fun sts=>rfl⟩
 | clr i f j r hr =>
  refine⟨ns fun st=>rfl,fun sts h=>?_⟩
  match sts,h with
  | s1::s2::rest,h =>
   replace h:(repC N sc i f j s1 s2 && Jw N sc r rest)=true:=h
   rw[Y8]at h;obtain⟨h,h5⟩:=h;unfold repC at h
   split at h
   rotate_left
   .cases h
   rename_i e
   obtain⟨p,rfl⟩:=Vt e
   split at h
   rotate_left
   .cases h
   rename_i e
   obtain⟨p,rfl⟩:=Fv e;simp only[Y8]at h;obtain⟨⟨⟨⟨h1,h2⟩,h3⟩,h4⟩,h6⟩:=h
   split at h6
   rotate_left
   .cases h6
   rename_i e
   obtain⟨p,rfl⟩:=Vt e
   split at h6
   rotate_left
   .cases h6
   rename_i e
   obtain⟨ap,p3,rfl,g1,g2⟩:=vf e;exact sd c (B0z.mpr ⟨h1,h2⟩) (E _ _ h3) (B9 h4) (E _ _ h6) g1 g2 (hr.2 rest h5)
 | cont =>
  refine⟨fun st h=>?_,nb fun sts=>rfl⟩
  replace h:=(E9).symm.trans h
  split at h
  .rename_i e
   obtain⟨p,rfl⟩:=Vt e;exact vx
  .cases h
end
noncomputable def Jp(as:List Sl)(i:Nat):Bool:=match as[i]? with
 | some (.o _)=>true
 | _=>false
noncomputable def leftT:Sl->T
 | .o t=>t
 | _=>.fn ""
noncomputable def U5:List Sl->P->Option (ZZ)
 | [],_=>some []
 | .o _::r,x::q=>(U5 r q).map (leftT x::·)
 | .f _::r,_::q=>U5 r q
 | .no::r,_::q=>U5 r q
 | _,_=>none
noncomputable def fin(as:List Sl)(r:Sl)(p:P):Option (Sl×ZZ):=(U5 as p).map fun ts=>(r,ts)
structure Df where
 n:Nat
 ar:Nat
 code:S
noncomputable def Pe(d:Df)(w:W)(as:List Sl):Option (Sl×ZZ):=if as.length=d.ar then (ex w (Jp as) d.code (as++List.replicate (d.n - d.ar) .no)).bind fun q=>match q.1 with
  | .rt r=>fin as r q.2
  | .nx=>fin as (.f .non) q.2
  | _=>none
 else none
theorem gz{as:List Sl}:∀{p:P} {ts:ZZ},U5 as p=some ts->(∀(j:Nat) (s:Sl),(Rm as ts)[j]?=some s->(as[j]?=some s/\∀u,s≠.o u)\/(∃t u,s=.o t/\as[j]?=some (.o u)/\p[j]?=some (.o t))\/s=.no)/\(Rm as ts).length=as.length:=by
  induction as with
  | nil=>intro p ts e;cases e;exact⟨fun j s h=>by simp[Rm]at h,rfl⟩
  | cons a r ih =>
    intro p ts e;cases p with
    | nil=>cases a<;>cases e
    | cons x q =>
      have same:∀{b:Sl} {us:ZZ},U5 r q=some us->(∀u,b≠.o u)->(∀(j:Nat) (s:Sl),(b::Rm r us)[j]?=some s->((b::r)[j]?=some s/\∀u,s≠.o u)\/(∃t u,s=.o t/\(b::r)[j]?=some (.o u)/\(x::q)[j]?=some (.o t))\/s=.no)/\(b::Rm r us).length=(b::r).length:=fun {b us} e nb=>by
        obtain⟨h2,h3⟩:=ih e;refine⟨fun j s h=>?_,by rw[Yo,Yo,h3]⟩;cases j with
        | zero=>cases(D8 h);exact .inl ⟨rfl,nb⟩
        | succ j=>exact h2 j s h
      cases a with
      | no => have eu : Rm (.no :: r) ts = .no :: Rm r ts := by cases ts<;>rfl
              rw[eu];exact same e fun u z=>nomatch z
      | f y => have eu : Rm (.f y :: r) ts = .f y :: Rm r ts := by cases ts<;>rfl
               rw[eu];exact same e fun u z=>nomatch z
      | o y =>
        obtain⟨Xs,e1,rfl⟩:=Yk.mp (show (U5 r q).map _=some ts from e);obtain⟨h2,h3⟩:=ih e1;refine⟨fun j s h=>?_,by show (Rm r Xs).length+1=r.length+1;rw[h3]⟩;cases j with
        | succ j=>exact h2 j s h
        | zero =>
          have h:s=mkO (leftT x):=(D8 h).symm;subst h;cases x with
          | no=>exact .inr (.inr rfl)
          | f t=>exact .inr (.inr rfl)
          | o t=>cases t with
            | fn z=>exact .inr (.inr rfl)
            | _=>exact .inr (.inl ⟨_,y,rfl,rfl,rfl⟩)
section
variable{K:W.Frag}{mg:ZV}{F G H:Hp}
theorem Xa{as:List Sl}{vs:ZQ}{n:Nat}{N:ZD}(r:Rel K mg F G as (vs.map some) H)(hn:N.length=n)(hl:vs.length<=n):Rel K mg F G (as++List.replicate (n - as.length) Sl.no) (L2.start N vs) H:=by
 have al:as.length=vs.length:=by have:=r.ln;rw[Zn]at this;exact this
 have old:∀{i:Nat} {s:Sl},(as++List.replicate (n - as.length) Sl.no)[i]?=some s->s≠.no->as[i]?=some s/\i<vs.length:=fun {i s} h ne=>by
  rw[List.getElem?_append]at h
  split at h
  .rename_i hi;exact⟨h,by omega⟩
  .rw[List.getElem?_replicate]at h
   split at h
   .cases h;exact absurd rfl ne
   .cases h
 have st:∀{i:Nat},i<vs.length->(L2.start N vs)[i]?=(vs.map some)[i]?:=fun {i} h=>by
  unfold L2.start;rw[G0l (by rw[Zn];exact h)]
 refine⟨r.b,fun i t e=>?_,fun i t e=>?_,fun i j t u a e1 e2 h1 h2=>?_, ?_⟩
 .obtain⟨e,hi⟩:=old e fun z=>nomatch z;rw[st hi];exact r.fz i t e
 .obtain⟨e,hi⟩:=old e fun z=>nomatch z;rw[st hi];exact r.ow i t e
 .obtain⟨e1,i1⟩:=old e1 fun z=>nomatch z;obtain⟨e2,i2⟩:=old e2 fun z=>nomatch z;rw[st i1]at h1;rw[st i2]at h2;exact r.ap i j t u a e1 e2 h1 h2
 .unfold L2.start;rw[Yl,Yl,List.length_replicate,List.length_replicate,Zn,al,hn]
theorem Ih{F' H':Hp}{as:List Sl}{vs:ZQ}{ts:ZZ}{p':P}{σ0 σ':L2.St}{rr:Sl}{v:V}(r:Rel K mg F G as (vs.map some) H)(hσ:∀i:Nat,i<vs.length->σ0[i]?=(vs.map some)[i]?)(eo:U5 as p'=some ts)(l:Le F F')(u:Up K H H')(r':Rel K mg F' G p' σ' H')(kp:Kp (Jp as) σ0 σ')(rs:Res K mg F' G p' σ' H' rr v) :
  Rel K mg F' G (Rm as ts) (vs.map some) H'/\Res K mg F' G (Rm as ts) (vs.map some) H' rr v:=by
 obtain⟨o2,o3⟩:=gz eo;have al:as.length=vs.length:=by have:=r.ln;rw[Zn]at this;exact this
 have own:∀{j:Nat} {t:T},(Rm as ts)[j]?=some (Sl.o t)->p'[j]?=some (Sl.o t)/\σ'[j]?=(vs.map some)[j]?/\∃u,as[j]?=some (Sl.o u):=fun {j t} h=>by
  rcases o2 j _ h with ⟨_,a2⟩ | ⟨t',u',a1,a2,a3⟩ | z
  .exact absurd rfl (a2 t)
  .cases a1;have hj:j<vs.length:=by rw[<-al];exact(Nd.mp a2).1
   exact⟨a3,(kp.2 j (by unfold Jp;rw[a2])).trans (hσ j hj),u',a2⟩
  .cases z
 refine⟨⟨r'.b,fun j t e=>?_,fun j t e=>?_,fun i j t t' a e1 e2 h1 h2=>?_,by rw[o3];exact r.ln⟩, ?_⟩
 .rcases o2 j _ e with ⟨a1,_⟩ | ⟨_,_,z,_⟩ | z
  .obtain⟨v,h1,h2⟩:=r.fz j t a1;exact⟨v,h1,IsT.up u l t v h2⟩
  .cases z
  .cases z
 .obtain⟨a1,a2,_⟩:=own e;rw[<-a2];exact r'.ow j t a1
 .obtain⟨a1,a2,_⟩:=own e1;obtain⟨b1,b2,_⟩:=own e2;rw[<-a2]at h1;rw[<-b2]at h2;exact r'.ap i j t t' a a1 b1 h1 h2
 .cases rr with
  | no=>exact rs
  | f t=>exact rs
  | o t =>
   obtain⟨a,rfl,h1,h2,h3,h4⟩:=rs;refine⟨a,rfl,h1,h2,h3,fun j u e z=>?_⟩;obtain⟨a1,a2,_⟩:=own e;rw[<-a2]at z;exact h4 j u a1 z
end
structure LamW(K:W.Frag)(mg:ZV)(c T:Addr):Prop where
 c:∀h,K.In h->W.CodeHd h c T
 bi:∀h,K.In h->h.BuiltinsAt mg T
 ne:mainGlobals≠T
structure c6(K:W.Frag)(x qual:Str)(st:Stmt)(f:Addr)(fd:FuncData)(R:Value->Prop):Prop where
 ex:∃(oc:Value) (od:ZP) (kV doc pm:Value) (an:ZP) (cdv ct:Value) (osl:ZF),R cdv /\
  fd=W.fnOf x qual (Uu st) (Ym st) (Zw st) .none kV doc pm an cdv ct/\K.lookup f=some ⟨oc,od,.func fd,osl⟩/\W.codeIn K cdv qual=true
 kp:W.keepIn K (.ref f)=true
theorem c6.ok{P:Program}{w:World}{K:W.Frag}{mg:ZV}{base:Heap}{R:Value->Prop}{x qual:Str}{st:Stmt}{f:Addr}{fd:FuncData}{N ps:ZD}{k:Nat}{sp:Sp}(F:c6 K x qual st f fd R)(S:Gg N ps (Zw st))(len:∀vs H Q E,sp vs H Q E->vs.length=ps.length)
  (Oa:∀(cdv:Value) (A:Around) (outer:List Env) (s:Shared) (H:Hp) (vs:ZQ) (Q:VK) (E:XK),R cdv->Vo k (A.deeper (envOfC qual (Zw st) s.heap.objs.size f cdv))->sp vs H Q E ->
   ∃t,Tu (O9 qk P w K mg base N qual (Zw st) f cdv A outer s H E).nox (Ym st) t/\t { nx:=fun _ H'=>Q .non H',rt:=Q } (start N vs) H):U9 P w K mg base qk (k+1) f fd ps sp:=by
 obtain⟨oc,od,kV,doc,pm,an,cdv,ct,osl,rc,rfl,lk,Ou⟩:=F.ex;refine Zqz lk Ou S len fun A outer s H vs Q E hr ny=>?_;obtain⟨t,h,q⟩:=Oa cdv A outer s H vs Q E rc hr ny;exact⟨t,h.nox,q⟩
def LamF(K:W.Frag)(mg:ZV)(qual:Str)(sc:Scope)(R:Value->Prop):Prop:=sc.names=Ca->∀T,wx=some T->(∀(L f:Addr) (v:Value),(envOfC qual sc L f v).qual++Str.ofString "<lambda>" = T.q)/\∀v,R v->∃c,v=.ref c/\LamW K mg c T.P
theorem Oe{P:Program}{wd:World}{K:PySem.W.Frag}{mg:ZV}{base:Heap}{w:W}{x qual:Str}{st:Stmt}{f:Addr}{fd:FuncData}{N ps:ZD}{k:Nat}{d:Df}{R:Value->Prop}(F:c6 K x qual st f fd R)(lm:LamF K mg qual (Zw st) R)(S:Gg N ps (Zw st))(hn:N.length=d.n)(ha:ps.length=d.ar)(hle:ps.length<=N.length)(hrep:Jw N (Zw st) d.code (Ym st)=true)
  (bn:∀x∈Jt,mg x=none) (fn:∀f as r,w.C f as=some r->∃ps,as.length=ps.length/\Fn P wd K mg base k f ps (spC K mg ps.length (w.C f))) (gl:∀x t,w.gl x=some t->∃v u,mg x=some u/\RelV v u/\∀H F,IsT K mg H F t v) :
  U9 P wd K mg base qk (k+1) f fd ps (spC K mg ps.length (Pe d w)):=by
 refine F.ok S (fun vs H Q E h=>h.1) fun cdv A outer s H vs Q E rc hr h=>?_;obtain⟨hv,F0,G,as,r,ec,rel,kq⟩:=h;unfold Pe at ec
 split at ec
 .rename_i hal
  obtain⟨⟨fl,p'⟩,e1,e2⟩:=ZO.mp ec;have c:Ctx (O9 qk P wd K mg base N qual (Zw st) f cdv A outer s H E).nox w k N (Zw st).names:=⟨rfl,S.nd,fun y kd e=>.inl e,rfl,hr,bn,fn,gl,rfl,fun _ _=>rfl,fun z T e=>let ⟨a1,a2⟩:=lm z T e;let ⟨c1,ec,lw⟩:=a2 cdv rc;⟨⟨⟨c1,ec,lw.c⟩,lw.bi,lw.ne⟩,a1 _ _ _⟩⟩;refine⟨LS K mg w (Jp as) d.code,(su (sc:=Zw st) (pt:=Jp as) c rfl d.code).2 _ hrep,F0,G,_,fl,p',Xa rel hn (by rw[hv];omega),by rw[hal];exact e1,fun F' H' σ' l u Yj kp=>?_⟩
  have hσ:∀i:Nat,i<vs.length->(L2.start N vs)[i]?=(vs.map some)[i]?:=fun i h=>by
   unfold L2.start;rw[G0l (by rw[Zn];exact h)]
  cases fl with
  | nx =>
   obtain⟨ts,e3,e4⟩:=Yk.mp (show (U5 as p').map _=some r from e2);cases e4;obtain⟨g1,g2⟩:=Ih (v:=.non) (rr:=.f .non) rel hσ e3 l u Yj kp rfl;exact kq F' H' .non l u g1 g2
  | rt rr =>
   obtain⟨ts,e3,e4⟩:=Yk.mp (show (U5 as p').map _=some r from e2);cases e4;intro v rs;obtain⟨g1,g2⟩:=Ih rel hσ e3 l u Yj kp rs;exact kq F' H' v l u g1 g2
  | bk=>cases e2
  | ct=>cases e2
 .cases ec
def wF(d:Df)(w:W)(as:List Sl)(Q:Sl×ZZ->Prop):Prop:=if as.length=d.ar then wS w (Jp as) d.code (as++List.replicate (d.n - d.ar) .no) ⟨fun p=>on (fin as (.f .non) p) Q,fun r p=>on (fin as r p) Q,fun _=>False,fun _=>False⟩ else False
theorem jv{d:Df}{w:W}{as:List Sl}{Q:Sl×ZZ->Prop}(h:wF d w as Q):∃x,Pe d w as=some x/\Q x:=by
 unfold wF at h
 split at h
 .rename_i ha
  obtain⟨f,p',e,h⟩:=wS_ex w (Jp as) d.code _ _ h;unfold Pe;rw[if_pos ha,e];cases f with
  | nx=>exact Yq h
  | rt r=>exact Yq h
  | bk=>exact h.elim
  | ct=>exact h.elim
 .exact h.elim
noncomputable def Cn(tab:Str->Option Df)(gl:Str->Option T):Nat->Cs
 | 0=>fun _ _=>none
 | n+1=>fun f as=>(tab f).bind fun d=>Pe d ⟨Cn tab gl n,gl⟩ as
structure Dq(K:W.Frag)(mg:ZV)(f:Str)(d:Df):Prop where
 ex:∃st a fd N ps R,c6 K f f st a fd R/\LamF K mg f (Zw st) R/\mg f=some (.ref a)/\Gg N ps (Zw st)/\N.length=d.n/\ps.length=d.ar/\ps.length<=N.length/\Jw N (Zw st) d.code (Ym st)=true/\Binds K fd ps []
theorem knot{P:Program}{wd:World}{K:W.Frag}{mg:ZV}{base:Heap}{tab:Str->Option Df}{gl:Str->Option T}(bn:∀x∈Jt,mg x=none)(ft:∀f d,tab f=some d->Dq K mg f d)(hg:∀x t,gl x=some t->∃v u,mg x=some u/\RelV v u/\∀H F,IsT K mg H F t v) :
  ∀n f as r,Cn tab gl n f as=some r->∃ps,as.length=ps.length/\Fn P wd K mg base n f ps (spC K mg ps.length (Cn tab gl n f))
 | 0,f,as,r,h=>by cases h
 | n+1,f,as,r,h=>by
  obtain⟨d,e1,e2⟩:=ZO.mp (show (tab f).bind _=some r from h);obtain⟨st,a,fd,N,ps,R,F,lm,hm,S,hn,ha,hle,hrep,hb⟩:=(ft f d e1).ex
  have ec:Cn tab gl (n+1) f=Pe d ⟨Cn tab gl n,gl⟩:=by
   funext as
   show (tab f).bind _=_;rw[e1]
   rfl
  refine⟨ps, ?_,a,fd, ?_,hb,F.kp,hm⟩
  .unfold Pe at e2
   split at e2
   .rename_i q;rw[ha];exact q
   .cases e2
  .rw[ec];exact Oe F lm S hn ha hle hrep bn (knot bn ft hg n) hg
end PV
namespace PV
open PySem
abbrev Zd(a:E):E:=.cons a .nil
abbrev Zc(a b:E):E:=.cons a (.cons b .nil)
abbrev Tz(a b c:E):E:=.cons a (.cons b (.cons c .nil))
abbrev ro4(a b c d:E):E:=.cons a (.cons b (.cons c (.cons d .nil)))
abbrev ki(i:Int):E:=.k (.int i)
abbrev ks(x:Str):E:=.k (.str x)
abbrev Zo(a b:E):E:=.pr .ix (.cons a (.cons b .nil))
noncomputable abbrev Us(a b:E):E:=.pr (.cm .eq) (.cons a (.cons b .nil))
abbrev J3(a b:E):E:=.pr (.op .add) (.cons a (.cons b .nil))
abbrev Wq(a:E):E:=.pr .len (.cons a .nil)
abbrev sq2(a b:S):S:=.seq a (.seq b .nil)
abbrev Y3(a:S):S:=.seq a .nil
end PV
namespace PV
open PySem PySem.Spec PyProof.Rows L2
theorem oh{Z:Type}{o:Option Z}{Q Q':Z->Prop}(h:on o Q)(q:∀x,Q x->Q' x):on o Q':=by
 obtain⟨a,e,h⟩:=Yq h;rw[e];exact q a h
theorem Eb{body:T->P->(Option T->P->Prop)->Prop}(I:ZZ->ZZ->P->Prop)(st:∀x r acc p K,I (x::r) acc p->(∀y p',I r (acc++[y]) p'->K (some y) p')->(∀p',I r acc p'->K none p')->body x p K) :
  ∀(xs acc:ZZ) (p:P) (Q:ZZ->P->Prop),I xs acc p->(∀acc p,I [] acc p->Q acc p)->Uc body xs acc p Q
 | [],acc,p,Q,h,q=>q acc p h
 | x::r,acc,p,Q,h,q=>st x r acc p _ h (fun y p' h'=>Eb I st r (acc++[y]) p' Q h' q) fun p' h'=>Eb I st r acc p' Q h' q
theorem jw{body:T->P->En->Prop}(I:ZZ->P->Prop)(B:P->Prop)(R:Sl->P->Prop)
  (st:∀x r p (D:En),I (x::r) p->(∀q,I r q->D.nx q)->(∀q,I r q->D.ct q)->(∀q,B q->D.bk q)->(∀s q,R s q->D.rt s q)->body x p D) :
  ∀(xs:ZZ) (p:P) (D:En),I xs p->(∀q,I [] q->D.nx q)->(∀q,B q->D.nx q)->(∀s q,R s q->D.rt s q)->Ef body xs p D
 | [],p,D,h,q,_,_=>q p h
 | x::r,p,D,h,q,b,t=>st x r p _ h (fun p' h'=>jw I B R st r p' D h' q b t) (fun p' h'=>jw I B R st r p' D h' q b t) b t
theorem Gh{body:T->P->(Option T->P->Prop)->Prop}{xs:ZZ}{p:P}{Q:ZZ->P->Prop}(I:ZZ->ZZ->P->Prop)(h:I xs [] p)(st:∀x r acc p K,I (x::r) acc p->(∀y p',I r (acc++[y]) p'->K (some y) p')->(∀p',I r acc p'->K none p')->body x p K)(q:∀acc p,I [] acc p->Q acc p):Uc body xs [] p Q :=
 Eb I st xs [] p Q h q
theorem wWhI{test:P->(Bool->P->Prop)->Prop}{body:P->En->Prop}(I:Nat->P->Prop){D:En}
  (st:∀m p (K:Bool->P->Prop),I m p->(∀q,(∀D':En,(∀m' q',m'<m->I m' q'->D'.nx q')->(∀m' q',m'<m->I m' q'->D'.ct q')->(∀q',D.nx q'->D'.bk q')->(∀s q',D.rt s q'->D'.rt s q')->body q D')->K true q)->(∀q,D.nx q->K false q)->test p K) :
  ∀(m n:Nat) (p:P),m<n->I m p->wWh test body n p D:=by
 intro m
 induction m using Nat.strongRecOn with
 | ind m ih =>
  intro n p h i
  match n,h with
  | n+1,h =>
   refine st m p _ i (fun q g=>?_) fun q g=>?_
   .show if (true:Bool)=true then _ else _
    rw[if_pos rfl];exact g _ (fun m' q' l i'=>ih m' l n q' (by omega) i') (fun m' q' l i'=>ih m' l n q' (by omega) i') (fun _ z=>z) fun _ _ z=>z
   .show if (false:Bool)=true then _ else _
    rw[if_neg (fun z=>nomatch z)];exact g
theorem callW{tab:Str->Option Df}{gl:Str->Option T}{n:Nat}{f:Str}{as:List Sl}{Q:Sl×ZZ->Prop}{d:Df}(e:tab f=some d)(h:wF d ⟨Cn tab gl n,gl⟩ as Q):on (Cn tab gl (n+1) f as) Q:=by
 obtain⟨x,h1,h2⟩:=jv h;exact Ya (a:=x) (by show (tab f).bind _=_;rw[e];exact h1) h2
theorem Rg(a:Int):∀zs:ZL,Bu (.int a) (zs.map .int)=some (zs.any fun z=>decide (z=a))
 | []=>rfl
 | z::zs=>by
  show (Bu (.int a) (zs.map .int)).map (decide (z=a) || ·)=_;rw[Rg a zs];rfl
theorem i7(a:Int)(zs:ZL):inT (.int a) (.lst (zs.map .int))=some (zs.any fun z=>decide (z=a)):=Rg a zs
theorem strs_map:∀ss:ZD,Uw (ss.map .str)=some ss
 | []=>rfl
 | s::ss=>by show (Uw (ss.map .str)).map (s::·)=_;rw[strs_map ss];rfl
theorem xx(s:Str)(ss:ZD):Ob ((s::ss).map .str)=none:=rfl
theorem srt_strs(ss:ZD)(h:ss.length<64):Pu (ss.map .str)=some ((SRT.Mz ss).map .str):=by
 unfold Pu;rw[if_pos (by rw[Zn];exact h)];cases ss with
 | nil=>rfl
 | cons s ss=>rw[xx,strs_map];rfl
theorem K4{Z:Type}{xs:List Z}{i:Int}(h0:0<=i)(h1:i<xs.length):∃x,Ts xs i=some x/\xs[i.toNat]?=some x/\x∈xs:=by
 have hj:i.toNat<xs.length:=by omega
 refine⟨xs[i.toNat], ?_,Dx hj,G0e hj⟩;unfold Ts fj;rw[if_pos h0,if_pos h1];exact Dx hj
theorem ixP{ts:ZZ}{r:Int}{Q:Sl->Prop}(h0:0<=r)(h1:r<ts.length)(q:∀x,ts[r.toNat]?=some x->x∈ts->Q (.f x)):on ((A4 (.lst ts) (.int r)).map Sl.f) Q:=by
 obtain⟨x,hx,e,mx⟩:=K4 h0 h1;exact Ya (a:=Sl.f x) (by show (Ts _ _).map _=_;rw[hx];rfl) (q x e mx)
theorem E3{n:Nat}{d:Nat}{i:Int}(h0:0<=i)(h1:i<=n):HT.Yg n d (some i)=i.toNat:=by
 obtain⟨k,rfl⟩:=Int.eq_ofNat_of_zero_le h0;rw[HT.L1,XJ];omega
theorem dw{ts:ZZ}{i:Int}(h0:0<=i)(h1:i<=ts.length):G4 ts (some i) none=ts.drop i.toNat:=by
 unfold G4;rw[E3 h0 h1];show (ts.drop i.toNat).take (ts.length - i.toNat)=_;rw[List.take_of_length_le (by rw[List.length_drop];omega)]
theorem ixE{ts:ZZ}{r:Int}{x:T}(e:Ts ts r=some x):(A4 (.lst ts) (.int r)).map Sl.f=some (.f x):=by show (Ts ts r).map _=_;rw[e];rfl
theorem ixDE{XG:ZX}{k:Str}{x:T}(e:Y2 XG (.inr k)=some x):(A4 (.dct XG) (.str k)).map Sl.f=some (.f x):=by show (Y2 XG (.inr k)).map _=_;rw[e];rfl
theorem z7{ts:ZZ}{r:Int}{x:T}{Q:Sl->Prop}(e:Ts ts r=some x)(q:Q (.f x)):on ((A4 (.lst ts) (.int r)).map Sl.f) Q:=Ya (ixE e) q
theorem ip{XG:ZX}{k:Str}{x:T}{Q:Sl->Prop}(e:Y2 XG (.inr k)=some x)(q:Q (.f x)):on ((A4 (.dct XG) (.str k)).map Sl.f) Q:=Ya (ixDE e) q
theorem Yn{d:Df}{w:W}{as:List Sl}{Q:Sl×ZZ->Prop}(ha:as.length=d.ar)(h:∀D:En,(∀r p,on (fin as r p) Q->D.rt r p)->(∀p,on (fin as (.f .non) p) Q->D.nx p)->wS w (Jp as) d.code (as++List.replicate (d.n - d.ar) .no) D):wF d w as Q:=by
 unfold wF;rw[if_pos ha];exact h _ (fun _ _ z=>z) fun _ z=>z
theorem Zxd{ts us:ZZ}{Q:Sl->Prop}(e:Pu ts=some us)(q:Q (.o (.lst us))):on ((Pu ts).map fun us=>Sl.o (.lst us)) Q:=Ya (by rw[e];rfl) q
theorem Zj{C:Cs}{f:Str}{as:List Sl}{Q Q':Sl×ZZ->Prop}(h:on (C f as) Q)(q:∀x,Q x->Q' x):on (C f as) Q':=oh h q
theorem ifS{c:Prop}[Decidable c]{Z:Type}{a:Z}{o:Option Z}{Q:Z->Prop}(h:c)(q:Q a):on (if c then some a else o) Q:=by rw[if_pos h];exact q
theorem Rf{a b:ZZ}{Q:Sl->Prop}(h:a.length+b.length<=sizeLine)(q:Q (.o (.lst (a++b)))):on (opT .add (.lst a) (.lst b)) Q:=ifS h q
theorem V0{a b:Str}{Q:Sl->Prop}(h:a.length+b.length<=sizeLine)(q:Q (.f (.str (a++b)))):on (opT .add (.str a) (.str b)) Q:=ifS h q
theorem whS{w:W}{pt:Nat->Bool}{c:E}{b r:S}{p:P}{D:En}(h:wWh (fun s K=>wE w c s fun r q=>gb r fun b=>K b q) (fun s D=>wS w pt b s D) 1000000 p ⟨fun q=>wS w pt r q D,D.rt,D.bk,D.ct⟩):wS w pt (.seq (.wh c b) r) p D:=h
def OF(s:Sl)(t:T):Prop:=s=.o t\/s=.f t
theorem Te{body:T->P->(Option T->P->Prop)->Prop}{xs:ZZ}{p:P}{Q:ZZ->P->Prop}(g:T->T)(St:P->Prop)(h0:St p)(st:∀x∈xs,∀p K,St p->(∀p',St p'->K (some (g x)) p')->body x p K)(q:∀p,St p->Q (xs.map g) p):Uc body xs [] p Q:=by
 refine Gh (fun r acc p=>St p/\(∀x∈r,x∈xs)/\acc++r.map g=xs.map g) ⟨h0,fun _ m=>m,rfl⟩ (fun x r acc p K hi ky _=>?_) fun acc p hi=>?_
 .obtain⟨h1,h2,h3⟩:=hi;exact st x (h2 x Ye) p K h1 fun p' h'=>ky _ p' ⟨h',fun y m=>h2 y (Vi _ m),by rw[ZE];exact h3⟩
 .obtain⟨h1,_,h3⟩:=hi;rw[List.map_nil,XZ]at h3;rw[h3];exact q p h1
theorem S2(f:T->Bool):∀xs:ZZ,allB (xs.map fun x=>.bl (f x))=some (xs.map f)
 | []=>rfl
 | x::xs=>by show (allB (xs.map fun x=>.bl (f x))).map (f x::·)=_;rw[S2 f xs];rfl
theorem allP{f:T->Bool}{xs:ZZ}{Q:Sl->Prop}(q:Q (.f (.bl (xs.all f)))):on ((allB (xs.map fun x=>.bl (f x))).map fun bs=>Sl.f (.bl (bs.all id))) Q:=Ya (by rw[S2];show some (Sl.f (.bl ((xs.map f).all id)))=_;rw[List.all_map];rfl) q
def okK:Key->Prop
 | .inl i=>i.natAbs<=10 ^ 19
 | .inr x=>∀c∈x.cps.toList,c<16 ^ 8
def wtK:Key->Nat
 | .inl _=>70
 | .inr x=>x.length
mutual
def c8(n:Nat):T->Prop
 | .int i=>i.natAbs<=10 ^ 19
 | .str x=>∀c∈x.cps.toList,c<16 ^ 8
 | .tup ts=>ts.length<=n/\Cd n ts
 | .lst ts=>ts.length<=n/\Cd n ts
 | .dct XG=>Oz n XG
 | .fn _=>False
 | .non=>True
 | .bl _=>True
def Cd(n:Nat):ZZ->Prop
 | []=>True
 | t::r=>c8 n t/\Cd n r
def Oz(n:Nat):ZX->Prop
 | []=>True
 | (k,t)::r=>okK k/\c8 n t/\Oz n r
end
mutual
noncomputable def wtT:T->Nat
 | .int _=>70
 | .str x=>x.length
 | .tup ts=>Ek ts
 | .lst ts=>Ek ts
 | .dct XG=>n5 XG
 | .fn _=>0
 | .non=>0
 | .bl _=>0
noncomputable def Ek:ZZ->Nat
 | []=>0
 | t::r=>wtT t+1+Ek r
noncomputable def n5:ZX->Nat
 | []=>0
 | (k,t)::r=>wtK k+wtT t+2+n5 r
end
mutual
noncomputable def dpT:T->Nat
 | .tup ts=>xm ts+1
 | .lst ts=>xm ts+1
 | .dct XG=>Zza XG+1
 | _=>0
noncomputable def xm:ZZ->Nat
 | []=>0
 | t::r=>max (dpT t) (xm r)
noncomputable def Zza:ZX->Nat
 | []=>0
 | (_,t)::r=>max (dpT t) (Zza r)
end
theorem Dg{i:Int}(h:i.natAbs<=10 ^ 19):(if i == 0 then 0 else i.natAbs.log2+1)<=70/\i.natAbs.log2<1920:=by
 have:i.natAbs.log2<64:=by
  by_cases z:i.natAbs=0
  .rw[z];decide
  .exact(Nat.log2_lt z).mpr (Nat.lt_of_le_of_lt h (by decide))
 exact⟨by split<;>omega,by omega⟩
theorem lenS(s:String):(Str.ofString s).length=s.toList.length:=by
 rw[Str.ofString_eq_toList];simp[Str.length]
theorem W4{i:Int}(h:i.natAbs<=10 ^ 19):(PyData.shown (.int i)).length<=30:=by
 show (Str.ofString (toString i)).length<=30;have hb:i.natAbs<10 ^ 20:=Nat.lt_of_le_of_lt h (by decide);rw[lenS];have hd:(Nat.toDigits 10 i.natAbs).length<=20:=(Nat.length_toDigits_le_iff (by decide) (by decide)).mpr hb;cases i with
 | ofNat n =>
  show (Nat.repr n).toList.length<=30;rw[Nat.toList_repr];exact Ut hd (by decide)
 | negSucc n =>
  show ("-" ++ Nat.repr (n+1)).toList.length<=30;rw[String.toList_append,Yl,Nat.toList_repr];have hd:(Nat.toDigits 10 (n+1)).length<=20:=hd;show 1+_<=30;omega
structure Shn(n:Nat)(t:T)(x:PyData):Prop where
 e:toPy t=some x
 s:x.showable=true
 l:x.leavesShort 30=true
 w:x.weight<=wtT t
 d:x.depth=dpT t
theorem ig{k:Key}(h:okK k):(Ac k).showable=true/\(Ac k).leavesShort 30=true/\(Ac k).weight<=wtK k/\(Ac k).depth=0:=by
 cases k with
 | inl i=>exact⟨Ub (Dg h).2,Ub (W4 h),(Dg h).1,rfl⟩
 | inr x=>exact⟨rfl,x9.mpr fun c m=>Ub (h c m),Z5 _,rfl⟩
mutual
theorem Fz(n:Nat):∀t:T,c8 n t->∃x,Shn n t x
 | .int i,h=>⟨.int i,rfl,Ub (Dg h).2,Ub (W4 h),(Dg h).1,rfl⟩
 | .str x,h=>⟨.str x,rfl,rfl,x9.mpr fun c m=>Ub (h c m),Z5 _,rfl⟩
 | .non,_=>⟨.none,rfl,rfl,rfl,Z5 _,rfl⟩
 | .bl b,_=>⟨.bool b,rfl,rfl,rfl,Z5 _,rfl⟩
 | .fn _,h=>h.elim
 | .tup ts,h=>by
  obtain⟨xs,a,b,c,d,e⟩:=Cb n ts h.2;exact⟨.tuple xs,by show (Ul ts).map _=_;rw[a];rfl,b,c,d,by show PyData.depthAll xs+1=_;rw[e];rfl⟩
 | .lst ts,h=>by
  obtain⟨xs,a,b,c,d,e⟩:=Cb n ts h.2;exact⟨.list xs,by show (Ul ts).map _=_;rw[a];rfl,b,c,d,by show PyData.depthAll xs+1=_;rw[e];rfl⟩
 | .dct XG,h=>by
  obtain⟨xs,a,b,c,d,e⟩:=P9 n XG h;exact⟨.dict xs,by show (D1 XG).map _=_;rw[a];rfl,b,c,d,by show PyData.depthKv xs+1=_;rw[e];rfl⟩
theorem Cb(n:Nat):∀ts:ZZ,Cd n ts->∃xs,Ul ts=some xs/\PyData.showableAll xs=true/\PyData.leavesShortAll 30 xs=true/\PyData.weightAll xs<=Ek ts/\PyData.depthAll xs=xm ts
 | [],_=>⟨[],rfl,rfl,rfl,Z5 _,rfl⟩
 | t::ts,h=>by
  obtain⟨x,a1,b1,c1,d1,e1⟩:=Fz n t h.1;obtain⟨xs,a,b,c,d,e⟩:=Cb n ts h.2;refine⟨x::xs,by show (toPy t).bind _=_;rw[a1];show (Ul ts).map _=_;rw[a];rfl,by show (x.showable && _)=true;rw[b1,b];rfl,by show (x.leavesShort 30 && _)=true;rw[c1,c];rfl, ?_, ?_⟩
  .show x.weight+1+PyData.weightAll xs<=wtT t+1+Ek ts;omega
  .show max x.depth (PyData.depthAll xs)=max (dpT t) (xm ts);rw[e1,e]
theorem P9(n:Nat):∀ts:ZX,Oz n ts->∃xs,D1 ts=some xs/\PyData.showableKv xs=true/\PyData.leavesShortKv 30 xs=true/\PyData.weightKv xs<=n5 ts/\PyData.depthKv xs=Zza ts
 | [],_=>⟨[],rfl,rfl,rfl,Z5 _,rfl⟩
 | (k,t)::ts,h=>by
  obtain⟨x,a1,b1,c1,d1,e1⟩:=Fz n t h.2.1;obtain⟨xs,a,b,c,d,e⟩:=P9 n ts h.2.2;obtain⟨k1,k2,k3,k4⟩:=ig h.1;refine⟨(Ac k,x)::xs,by show (toPy t).bind _=_;rw[a1];show (D1 ts).map _=_;rw[a];rfl,by show ((Ac k).showable && x.showable && _)=true;rw[k1,b1,b];rfl,by show ((Ac k).leavesShort 30 && x.leavesShort 30 && _)=true;rw[k2,c1,c];rfl, ?_, ?_⟩
  .show (Ac k).weight+x.weight+2+PyData.weightKv xs<=wtK k+wtT t+2+n5 ts;omega
  .show max (max (Ac k).depth x.depth) (PyData.depthKv xs)=max (dpT t) (Zza ts);rw[e1,e,k4,Nat.zero_max]
end
theorem rpT_ok{n:Nat}{t:T}(h:c8 n t)(hw:wtT t<=400000)(hd:dpT t<=100):∃z,rpT t=some z:=by
 obtain⟨x,e,s,l,w,d⟩:=Fz n t h;have:=PyData.shown_le 30 (by decide) x l;refine⟨x.shown, ?_⟩;unfold rpT;rw[e];show (if _ then _ else _)=_;rw[if_pos ⟨s,by rw[sizeLine_eq];omega,by rw[d];exact hd⟩]
mutual
theorem c8.mono{n m:Nat}(h:n<=m):∀t:T,c8 n t->c8 m t
 | .int _,g=>g
 | .str _,g=>g
 | .non,g=>g
 | .bl _,g=>g
 | .fn _,g=>g
 | .tup ts,g=>⟨Ut g.1 h,Cd.mono h ts g.2⟩
 | .lst ts,g=>⟨Ut g.1 h,Cd.mono h ts g.2⟩
 | .dct ts,g=>Oz.mono h ts g
theorem Cd.mono{n m:Nat}(h:n<=m):∀t:ZZ,Cd n t->Cd m t
 | [],_=>trivial
 | t::ts,g=>⟨c8.mono h t g.1,Cd.mono h ts g.2⟩
theorem Oz.mono{n m:Nat}(h:n<=m):∀t:ZX,Oz n t->Oz m t
 | [],_=>trivial
 | (k,t)::ts,g=>⟨g.1,c8.mono h t g.2.1,Oz.mono h ts g.2.2⟩
end
end PV
namespace PV
open PySem PySem.Spec PyProof.Rows L2 SRT
theorem le_int{a b:Int}:(!decide (b<a))=decide (a<=b):=by
 by_cases h:a<=b
 .rw[Ub h,Dj (by omega)];rfl
 .rw[Dj h,Ub (by omega)];rfl
theorem dc(a b:Int):Ww .le (.int a) (.int b)=some (decide (a<=b)):=by
 show some (!decide (b<a))=_;rw[le_int]
theorem c2P{a b c:Int}{Q:Sl->Prop}(q:Q (.f (.bl (decide (a<=b) && decide (b<=c))))):on (yo (.c2 .le .le) [.int a,.int b,.int c]) Q:=by
 refine Ya ?_ q;show ((Ww .le (.int a) (.int b)).bind fun r=>if r=true then (Ww .le (.int b) (.int c)).map fun r=>Sl.f (.bl r) else some (Sl.f (.bl false)))=_;rw[dc,dc];show (if decide (a<=b)=true then some (Sl.f (.bl (decide (b<=c)))) else _)=_;by_cases h:a<=b
 .rw[Ub h];rfl
 .rw[Dj h];rfl
theorem lenP{x:Str}{Q:Sl->Prop}(h:x.length<=sizeLine)(q:Q (.f (.int x.length))):on (yo .len [.str x]) Q:=by
 have e:ij (.str x)=some x.length:=if_pos h;refine Ya ?_ q;show ((ij (.str x)).bind fun a=>some (a:Int)).map (fun n=>Sl.f (.int n))=_;rw[e]
 rfl
theorem jx{x:Str}{Q:ZZ->Prop}(h:x.length<=sizeLine)(q:Q (x.cps.toList.map fun c=>.str ⟨#[c]⟩)):on (Mc (.str x)) Q:=Ya (by show (if x.length<=sizeLine then some _ else none)=_;rw[if_pos h]) q
theorem xy{gl:Str->Option T}{x:Str}{t:T}{Q:T->Prop}(e:gl x=some t)(q:Q t):on (gl x) Q:=Ya e q
theorem Zx3{b:Bool}(h:(!b)=false):b=true:=by
 cases b with
 | true=>rfl
 | false=>cases h
end PV
namespace PV
open PySem PySem.Spec PyProof.Rows L2
def He(K:W.Frag):Sp:=fun vs H Q _=>∃(a:Addr) (ns:ZL),vs=[.ref a]/\Ud K H a (ns.map V.int)/\ns.length<=63/\(∀T,wx=some T->Tb T H)/\∀H',Q (.bl true) H'
noncomputable def notList:Value->Bool
 | .type n=>!decide (n = "list")
 | _=>true
noncomputable def Ky(K:W.Frag):Bool:=K.all fun p=>notList p.2.cls
theorem lookup_mem{Z:Type}{a:Addr}{o:Z}:∀{K:List (Addr×Z)},K.lookup a=some o->∃b,(b,o)∈K
 | [],h=>by cases h
 | (b,o')::K,h=>by
  rw[List.lookup_cons]at h
  split at h
  .cases h;exact⟨b,Ye⟩
  .obtain⟨c,m⟩:=lookup_mem h;exact⟨c,Vi _ m⟩
theorem rd_of{K:W.Frag}{H:Hp}{a:Addr}{vs:ZQ}(hK:Ky K=true)(h:Ud K H a vs):Rd H a (.lst vs):=by
 rcases h with h | ⟨o,its,n,lk,hc,_⟩
 .exact h
 .obtain⟨b,m⟩:=lookup_mem lk;have:=x9.mp hK _ m;rw[show ((b,o):Addr×Obj).2.cls=.type "list" from hc]at this;cases this
theorem Lq{K:W.Frag}{mg:ZV}{H F:Hp}:∀zs:ZL,Zx K mg H F (zs.map .int) (zs.map .int)
 | []=>rfl
 | z::zs=>⟨_,_,rfl,rfl,Lq zs⟩
theorem ik{K:W.Frag}{mg:ZV}{c:List Sl->Option (Sl×ZZ)}(hK:Ky K=true)(hc:∀zs:ZL,zs.length<=63->c [.f (.lst (zs.map .int))]=some (.f (.bl true),[])):∀vs H Q E,He K vs H Q E->spC K mg 1 c vs H Q E:=by
 intro vs H Q E h;obtain⟨a,ns,rfl,hS,hl,ht,hq⟩:=h;have rd:=rd_of hK hS;have sl:=sizeLine_eq;refine⟨rfl,fun b=>if b=a then H a else none,fun _=>none,_,_,hc ns hl,⟨⟨fun b o e=>?_,fun _ _ z=>(nomatch z),fun _ _=>rfl,fun T e=>⟨if_neg fun z=>?_,rfl,ht T e⟩⟩,fun i t e=>?_,fun i t e=>?_,fun i j t u b e _ _ _=>?_,rfl⟩,fun F' H' v l u r rs=>?_⟩
 .split at e
  .rename_i z;rw[z];exact e
  .cases e
 .obtain⟨ps,hp,_⟩:=ht T e;rw[z]at hp;rcases rd with r | ⟨o,r⟩<;>rw[hp]at r<;>cases r
 .match i,e with
  | 0,e =>
   cases e;refine⟨.ref a,rfl,a,ns.map .int,rfl, ?_,by rw[Zn];omega,Lq ns⟩;rcases rd with h | ⟨o,h⟩
   .exact .inl (by show (if a=a then H a else none)=_;rw[if_pos rfl];exact h)
   .exact .inr ⟨o,by show (if a=a then H a else none)=_;rw[if_pos rfl];exact h⟩
  | i+1,e=>simp at e
 .match i,e with
  | 0,e=>cases e
  | i+1,e=>simp at e
 .match i,e with
  | 0,e=>cases e
  | i+1,e=>simp at e
 .have:v=.bl true:=rs;rw[this];exact hq H'
theorem walkP'(no:∀T,wx≠some T){l:W.OpenLaw}{q:Program}{loose:ZD}{XP:(ZV)->Heap->Prop}{YP:World->Heap->Prop}{d:DefRec}{K:Params->W.Frag}{k:Nat}(hn:l.most=some 63)(hdf:d.params.defaults=[])(hr:Vo k callerA)
  (hY:∀(w:World) (h:Heap),YP w h->(K w.params).In h)
  (F:∀(w:World) (mg:ZV) (fa:Addr) (h:Heap),(K w.params).In h->h.Ns mainGlobals mg->mg d.name=some (.ref fa) ->
   ∃fd:FuncData,(∀(s:Shared) (u:Value),BindsTo s fd ⟨[u],[]⟩ [("_law_script",u)])/\∀base:Heap,(K w.params).In base->base.Ns mainGlobals mg->U9 l.prog w (K w.params) mg base qk k fa fd ["_law_script"] (He (K w.params))) :
  W.WalkO q loose XP YP l.row.toRowW d [] (fun f vs=>PySem.call f vs) :=
 L2.n6 (n:=63) (k:=k) (x:="_law_script") (CX:=fun _=>qk) (sp:=fun w=>He (K w.params)) hn (by decide) hdf hr hY F (fun _ _ a ns hl _ hS=>⟨a,ns,rfl,hS,hl,fun T e=>absurd e (no T),fun _=>rfl⟩) fun _ _ _ _ _ z=>z
theorem funR{K:W.Frag}{x qual:Str}{st:Stmt}{f:Addr}{fd:FuncData}(F:Fun K x qual st f fd):c6 K x qual st f fd fun _=>True:=let ⟨oc,od,kV,doc,pm,an,cdv,ct,osl,h⟩:=F.ex;⟨⟨oc,od,kV,doc,pm,an,cdv,ct,osl,trivial,h⟩,F.kp⟩
structure FA(K:W.Frag)(x:Str)(st:Stmt)(f:Addr)(fd:FuncData):Prop where
 a:W.nsIn K mainGlobals x=some (some (.ref f))
 F:Fun K x x st f fd
noncomputable def chk(N:ZD)(d:Df)(st:Stmt):Bool :=
 (match (Zw st).kind with | .function=>true | _=>false) && (!(Zw st).isCoroutine && (!(Zw st).isGenerator && (decide N.Nodup && (decide (N.take (N.take d.ar).length=N.take d.ar) && (((N.take d.ar).all fun x=>decide ((Zw st).names.lookup x=some .local) || decide ((Zw st).names.lookup x=some .cell)) && (((Zw st).names.all fun y=>!decide (y.2=.free)) && (decide (N.length=d.n) && (decide ((N.take d.ar).length=d.ar) && (decide ((N.take d.ar).length<=N.length) && Jw N (Zw st) d.code (Ym st))))))))))
theorem dn{N:ZD}{d:Df}{st:Stmt}(h:chk N d st=true):Gg N (N.take d.ar) (Zw st)/\N.length=d.n/\(N.take d.ar).length=d.ar/\(N.take d.ar).length<=N.length/\Jw N (Zw st) d.code (Ym st)=true:=by
 unfold chk at h;simp only[Y8,decide_eq_true_eq]at h;obtain⟨h1,h2,h3,h4,h5,h6,h7,h8,h9,h10,h11⟩:=h;refine⟨⟨?_,by simpa using h2,by simpa using h3,h4,h5,fun x m=>?_,fun y m=>?_⟩,h8,h9,h10,h11⟩
 .split at h1
  .assumption
  .cases h1
 .have:=x9.mp h6 x m;simpa using this
 .have:=x9.mp h7 y m;simpa using this
theorem FA.fc{K:W.Frag}{mg:ZV}{h:Heap}{x:Str}{st:Stmt}{f:Addr}{fd:FuncData}{d:Df}{N:ZD}(A:FA K x st f fd)(X:K.In h)(G:h.Ns mainGlobals mg)(hc:chk N d st=true)(hx:(Zw st).names≠Ca)
  (hb:∀(kV doc pm:Value) (an:ZP) (cdv ct:Value) (us:ZM),us.length=(N.take d.ar).length->bindArgs (W.fnOf x x (Uu st) (Ym st) (Zw st) .none kV doc pm an cdv ct) ⟨us,[]⟩=pure ((N.take d.ar).zip us)):Dq K mg x d :=
 let ⟨S,hn,ha,hl,hr⟩:=dn hc
 ⟨⟨st,f,fd,N,N.take d.ar,fun _=>True,(funR A.F),fun z=>absurd z hx,W.mg_of X G A.a,S,hn,ha,hl,hr,A.F.binds hb⟩⟩
def FC(x:Str)(st:Stmt)(d:Df):Prop:=∀{K:W.Frag} {mg:ZV} {h:Heap} {f:Addr} {fd:FuncData},K.In h->h.Ns mainGlobals mg->FA K x st f fd->Dq K mg x d
theorem tab_of{K:W.Frag}{mg:ZV}{L:List (Str×Df)}(h:∀p∈L,Dq K mg p.1 p.2)(f:Str)(d:Df)(e:((L.find? fun p=>decide (p.1=f)).map (·.2))=some d):Dq K mg f d:=by
 obtain⟨p,hp,rfl⟩:=Yk.mp e;have t:=List.find?_some hp;have this:p.1=f:=Q0 t;have q:=h p (List.mem_of_find?_eq_some hp);rw[this]at q;exact q
theorem usS{n:Nat}{us:ZM}(h:us.length=n+1):∃a r,us=a::r/\r.length=n:=by
 cases us with
 | nil=>cases h
 | cons a r=>exact⟨a,r,rfl,Nat.succ.inj h⟩
theorem us0{us:ZM}(h:us.length=0):us=[]:=List.eq_nil_of_length_eq_zero h
theorem Wc{us:ZM}(h:us.length=1):∃a,us=[a]:=by
 obtain⟨a,r,rfl,g⟩:=usS h;cases us0 g;exact⟨a,rfl⟩
theorem qj{us:ZM}(h:us.length=2):∃a b,us=[a,b]:=by
 obtain⟨a,r,rfl,g⟩:=usS h;obtain⟨b,rfl⟩:=Wc g;exact⟨a,b,rfl⟩
theorem us3{us:ZM}(h:us.length=3):∃a b c,us=[a,b,c]:=by
 obtain⟨a,r,rfl,g⟩:=usS h;obtain⟨b,c,rfl⟩:=qj g;exact⟨a,b,c,rfl⟩
end PV
namespace K21
open PySem PySem.Spec PyProof.Rows L2 PV
noncomputable def x3:S:=(Y3 (.ret (.and (.pr (.isi .str) (Zd (.v 0))) (.and (.pr (.cm .le) (Zc (Wq (.v 0)) (.v 1))) (.pr .all (Zd (.comp (.v 0) (.v 0) .nil (.pr (.cm .isin) (Zc (.v 0) (.g "SIGNS"))) [none] ["sign"])))))))
def Dc:Df:=⟨2,2,x3⟩
noncomputable def x4:S:=(.seq (.ite (.or (.not (.pr (.isi .str) (Zd (.v 0)))) (.not (.pr (.c2 .le .le) (Tz (ki 1) (Wq (.v 0)) (.g "LONGEST_NAME")))))
    (Y3 (.ret (.k (.bl false))))
    .nil)
   (.seq (.ret (.pr .all (Zd (.comp (.v 0) (.v 0) .nil (.pr (.cm .isin) (Zc (.v 0) (.g "LETTERS"))) [none] ["sign"]))))
   .nil))
def Dr:Df:=⟨1,1,x4⟩
noncomputable def Qn:S:=(.seq (.set 1 (Zo (.v 0) (ki 0)))
   (.seq (.set 2 (.lst (Zd (.pr (.fst [some "make ",none]) (Zd (.v 1))))))
   (.seq (.loop (.v 3) (.pr .sorted (Zd (Zo (.v 0) (ki 1))))
    (Y3 (.ex (.mt .extend 2 (Zd (.call "shown_form" (Zc (.v 3) (Zo (Zo (.v 0) (ki 1)) (.v 3)))))))))
   (.seq (.ret (.mv 2))
   .nil))))
def V4:Df:=⟨4,1,Qn⟩
noncomputable def Ql:S:=(.seq (.ite (Us (Zo (.v 1) (ki 0)) (ks "record"))
    (Y3 (.ret (J3 (J3 (.lst (Zd (.pr (.fst [some "form ",none,some " record"]) (Zd (.v 0))))) (.comp (.v 0) (Zo (.v 1) (ki 1)) .nil (.call "shown_field" (Zd (.v 0))) [none] ["field"])) (.lst (Zd (.call "shown_struck" (Zd (Zo (.v 1) (ki 2)))))))))
    .nil)
   (.seq (.ite (Us (Zo (.v 1) (ki 0)) (ks "choice"))
    (.seq (.set 2 (.ite (Zo (.v 1) (ki 3)) (ks "open") (ks "closed")))
   (.seq (.ret (J3 (J3 (.lst (Zd (.pr (.fst [some "form ",none,some " choice ",none]) (Zc (.v 0) (.v 2))))) (.comp (.v 0) (Zo (.v 1) (ki 1)) .nil (.call "shown_arm" (Zd (.v 0))) [none] ["arm"])) (.lst (Zd (.call "shown_struck" (Zd (Zo (.v 1) (ki 2))))))))
   .nil))
    .nil)
   (.seq (.ret (.lst (Zd (.pr (.join " ") (Zd (J3 (.lst (Zc (ks "form") (.v 0))) (.comp (.v 0) (.v 1) .nil (.pr .str (Zd (.v 0))) [none] ["part"])))))))
   .nil)))
def V5:Df:=⟨3,2,Ql⟩
noncomputable def Wk:S:=(Y3 (.ret (.pr (.join " ") (Zd (J3 (J3 (.lst (Zd (ks "field"))) (.comp (.v 0) (.pr (.sl false true) (Zc (.v 0) (ki 3))) .nil (.pr .str (Zd (.v 0))) [none] ["part"])) (.lst (Zd (.call "shown_default" (Zd (Zo (.v 0) (ki 3)))))))))))
def Vl:Df:=⟨1,1,Wk⟩
noncomputable def Sv:S:=(Y3 (.ret (.pr (.join " ") (Zd (J3 (.lst (Zd (ks "arm"))) (.comp (.v 0) (.v 0) .nil (.pr .str (Zd (.v 0))) [none] ["part"]))))))
def Ua:Df:=⟨1,1,Sv⟩
noncomputable def Rj:S:=(Y3 (.ret (.pr (.join " ") (Zd (J3 (.lst (Zd (ks "struck"))) (.comp (.v 0) (.v 0) .nil (.pr .str (Zd (.v 0))) [none] ["number"]))))))
def Vv:Df:=⟨1,1,Rj⟩
noncomputable def B4:S:=(.seq (.ite (Us (.v 0) (.tup .nil))
    (Y3 (.ret (ks "must")))
    .nil)
   (.seq (.set 1 (Zo (.v 0) (ki 0)))
   (.seq (.ite (Us (.v 1) (.tup .nil))
    (Y3 (.ret (ks "none")))
    .nil)
   (.seq (.ite (.pr (.isi .bool) (Zd (.v 1)))
    (Y3 (.ret (.ite (.v 1) (ks "truth yes") (ks "truth no"))))
    .nil)
   (.seq (.ret (.ite (.pr (.isi .str) (Zd (.v 1))) (.pr (.fst [some "text ",none]) (Zd (.v 1))) (.pr (.fst [some "whole ",none]) (Zd (.v 1)))))
   .nil)))))
def Y0:Df:=⟨2,1,B4⟩
noncomputable def Sy:S:=(.seq (.set 1 (.pr (.spl1 " ") (Zd (.call "line_at" (Zc (.v 0) (ki 0))))))
   (.seq (.ite (.or (.pr (.cm .ne) (Zc (Wq (.v 1)) (ki 2))) (.or (.pr (.cm .ne) (Zc (Zo (.v 1) (ki 0)) (ks "make"))) (.not (.call "is_name" (Zd (Zo (.v 1) (ki 1)))))))
    (Y3 .rais)
    .nil)
   (.seq (.set 2 (.pr .dnew .nil))
   (.seq (.set 3 (ki 1))
   (.seq (.wh (.or (.pr (.cm .lt) (Zc (.v 3) (Wq (.v 0)))) (Us (Wq (.v 2)) (ki 0)))
    (Y3 (.set 3 (.call "read_form" (Tz (.io 2) (.v 0) (.v 3))))))
   (.seq (.ret (.tup (Zc (Zo (.v 1) (ki 1)) (.v 2))))
   .nil))))))
def Uo:Df:=⟨4,1,Sy⟩
noncomputable def xi:S:=(.seq (.ite (Us (.v 1) (Wq (.v 0)))
    (Y3 .rais)
    .nil)
   (.seq (.ret (Zo (.v 0) (.v 1)))
   .nil))
def Dt:Df:=⟨2,2,xi⟩
noncomputable def Br:S:=(.seq (.set 3 (.pr (.spl1 " ") (Zd (.call "line_at" (Zc (.v 1) (.v 2))))))
   (.seq (.ite (.or (.pr (.cm .lt) (Zc (Wq (.v 3)) (ki 3))) (.or (.pr (.cm .ne) (Zc (Zo (.v 3) (ki 0)) (ks "form"))) (.not (.call "is_name" (Zd (Zo (.v 3) (ki 1)))))))
    (Y3 .rais)
    .nil)
   (.seq (.set 4 (.pr (.sl true false) (Zc (.v 3) (ki 2))))
   (.seq (.ite (Us (.v 4) (.lst (Zd (ks "record"))))
    (.seq (.set 5 (.call "struck_place" (Tz (.v 1) (J3 (.v 2) (ki 1)) (.g "field_in"))))
   (.seq (.set 6 (.pr .tuple (Zd (.comp (.v 0) (.pr (.sl true true) (Tz (.v 1) (J3 (.v 2) (ki 1)) (.v 5))) .nil (.call "field_in" (Zd (.v 0))) [none] ["text"]))))
   (.seq (.put 0 (Zo (.v 3) (ki 1)) (.tup (Tz (ks "record") (.v 6) (.call "struck_in" (Zd (Zo (.v 1) (.v 5)))))))
   (.seq (.ret (J3 (.v 5) (ki 1)))
   .nil))))
    .nil)
   (.seq (.ite (.or (Us (.v 4) (.lst (Zc (ks "choice") (ks "open")))) (Us (.v 4) (.lst (Zc (ks "choice") (ks "closed")))))
    (.seq (.set 5 (.call "struck_place" (Tz (.v 1) (J3 (.v 2) (ki 1)) (.g "arm_in"))))
   (.seq (.set 7 (.pr .tuple (Zd (.comp (.v 0) (.pr (.sl true true) (Tz (.v 1) (J3 (.v 2) (ki 1)) (.v 5))) .nil (.call "arm_in" (Zd (.v 0))) [none] ["text"]))))
   (.seq (.put 0 (Zo (.v 3) (ki 1)) (.tup (ro4 (ks "choice") (.v 7) (.call "struck_in" (Zd (Zo (.v 1) (.v 5)))) (Us (Zo (.v 4) (ki 1)) (ks "open")))))
   (.seq (.ret (J3 (.v 5) (ki 1)))
   .nil))))
    .nil)
   (.seq (.set 8 (.call "single_shape" (Zd (.v 4))))
   (.seq (.ite (.pr (.cm .is) (Zc (.v 8) (.k .non)))
    (Y3 .rais)
    .nil)
   (.seq (.put 0 (Zo (.v 3) (ki 1)) (.v 8))
   (.seq (.ret (J3 (.v 2) (ki 1)))
   .nil)))))))))
def Ui:Df:=⟨9,3,Br⟩
noncomputable def Rx:S:=(.seq (.wh (.pr (.cm .is) (Zc (.call "struck_in" (Zd (.call "line_at" (Zc (.v 0) (.v 1))))) (.k .non)))
    (.seq (.ite (.pr (.cm .is) (Zc (.cal 2 (Zd (Zo (.v 0) (.v 1)))) (.k .non)))
    (Y3 .rais)
    .nil)
   (.seq (.set 1 (J3 (.v 1) (ki 1)))
   .nil)))
   (.seq (.ret (.mv 1))
   .nil))
def Vj:Df:=⟨3,3,Rx⟩
noncomputable def Rq:S:=(.seq (.set 1 (.k .non))
   (.seq (.ite (Us (.v 0) (.lst (Zd (ks "truth"))))
    (Y3 (.set 1 (.tup (Zd (ks "truth")))))
    (Y3 (.ite (.and (Us (Wq (.v 0)) (ki 2)) (Us (Zo (.v 0) (ki 0)) (ks "text")))
    (Y3 (.set 1 (.tup (Zc (ks "text") (.call "whole_in" (Tz (Zo (.v 0) (ki 1)) (ki 0) (.g "LONGEST_TEXT")))))))
    (Y3 (.ite (.and (Us (Wq (.v 0)) (ki 3)) (Us (Zo (.v 0) (ki 0)) (ks "whole")))
    (Y3 (.set 1 (.tup (Tz (ks "whole") (.call "item_whole_in" (Zd (Zo (.v 0) (ki 1)))) (.call "item_whole_in" (Zd (Zo (.v 0) (ki 2))))))))
    (Y3 (.ite (.and (Us (Wq (.v 0)) (ki 3)) (.and (.pr (.cm .isin) (Zc (Zo (.v 0) (ki 0)) (.tup (Zc (ks "row") (ks "map"))))) (.call "is_name" (Zd (Zo (.v 0) (ki 1))))))
    (Y3 (.set 1 (.tup (Tz (Zo (.v 0) (ki 0)) (Zo (.v 0) (ki 1)) (.call "whole_in" (Tz (Zo (.v 0) (ki 2)) (ki 0) (.g "MOST_PARTS")))))))
    .nil)))))))
   (.seq (.ret (.ite (.or (.pr (.cm .is) (Zc (.v 1) (.k .non))) (.pr (.cm .isin) (Zc (.k .non) (.v 1)))) (.k .non) (.v 1)))
   .nil)))
def Vw:Df:=⟨2,1,Rq⟩
noncomputable def K3:S:=(.seq (.set 1 (.pr (.spl2 " ") (Zc (.v 0) (ki 5))))
   (.seq (.ite (.or (.pr (.cm .lt) (Zc (Wq (.v 1)) (ki 5))) (.pr (.cm .ne) (Zc (Zo (.v 1) (ki 0)) (ks "field"))))
    (Y3 (.ret (.k .non)))
    .nil)
   (.seq (.set 2 (.call "number_in" (Zd (Zo (.v 1) (ki 1)))))
   (.seq (.set 3 (.call "default_in" (Zd (.pr (.sl true false) (Zc (.v 1) (ki 4))))))
   (.seq (.ite (.or (.pr (.cm .is) (Zc (.v 2) (.k .non))) (.or (.pr (.cm .is) (Zc (.v 3) (.k .non))) (.or (.not (.call "is_name" (Zd (Zo (.v 1) (ki 2))))) (.not (.call "is_name" (Zd (Zo (.v 1) (ki 3))))))))
    (Y3 (.ret (.k .non)))
    .nil)
   (.seq (.ret (.tup (ro4 (.v 2) (Zo (.v 1) (ki 2)) (Zo (.v 1) (ki 3)) (.v 3))))
   .nil))))))
def Gj:Df:=⟨4,1,K3⟩
noncomputable def Qs:S:=(.seq (.ite (Us (.v 0) (.lst (Zd (ks "must"))))
    (Y3 (.ret (.tup .nil)))
    .nil)
   (.seq (.ite (Us (.v 0) (.lst (Zd (ks "none"))))
    (Y3 (.ret (.tup (Zd (.tup .nil)))))
    .nil)
   (.seq (.ite (.or (Us (.v 0) (.lst (Zc (ks "truth") (ks "yes")))) (Us (.v 0) (.lst (Zc (ks "truth") (ks "no")))))
    (Y3 (.ret (.tup (Zd (Us (Zo (.v 0) (ki 1)) (ks "yes"))))))
    .nil)
   (.seq (.ite (.and (Us (Wq (.v 0)) (ki 2)) (Us (Zo (.v 0) (ki 0)) (ks "whole")))
    (.seq (.set 1 (.call "item_whole_in" (Zd (Zo (.v 0) (ki 1)))))
   (.seq (.ret (.ite (.pr (.cm .is) (Zc (.v 1) (.k .non))) (.k .non) (.tup (Zd (.v 1)))))
   .nil))
    .nil)
   (.seq (.ite (.and (Us (Wq (.v 0)) (ki 2)) (.and (Us (Zo (.v 0) (ki 0)) (ks "text")) (.call "is_text" (Zc (Zo (.v 0) (ki 1)) (.g "LONGEST_TEXT")))))
    (Y3 (.ret (.tup (Zd (Zo (.v 0) (ki 1))))))
    .nil)
   (.seq (.ret (.k .non))
   .nil))))))
def V7:Df:=⟨2,1,Qs⟩
noncomputable def de:S:=(.seq (.set 1 (.pr (.spl1 " ") (Zd (.v 0))))
   (.seq (.ite (.or (.pr (.cm .ne) (Zc (Wq (.v 1)) (ki 4))) (.pr (.cm .ne) (Zc (Zo (.v 1) (ki 0)) (ks "arm"))))
    (Y3 (.ret (.k .non)))
    .nil)
   (.seq (.set 2 (.call "number_in" (Zd (Zo (.v 1) (ki 1)))))
   (.seq (.ite (.or (.pr (.cm .is) (Zc (.v 2) (.k .non))) (.or (.not (.call "is_name" (Zd (Zo (.v 1) (ki 2))))) (.not (.call "is_name" (Zd (Zo (.v 1) (ki 3)))))))
    (Y3 (.ret (.k .non)))
    .nil)
   (.seq (.ret (.tup (Tz (.v 2) (Zo (.v 1) (ki 2)) (Zo (.v 1) (ki 3)))))
   .nil)))))
def Nx:Df:=⟨3,1,de⟩
noncomputable def Sw:S:=(.seq (.set 1 (.pr (.spl1 " ") (Zd (.v 0))))
   (.seq (.set 2 (.comp (.v 0) (.pr (.sl true false) (Zc (.v 1) (ki 1))) .nil (.call "number_in" (Zd (.v 0))) [none] ["word"]))
   (.seq (.ite (.or (.pr (.cm .ne) (Zc (Zo (.v 1) (ki 0)) (ks "struck"))) (.pr (.cm .isin) (Zc (.k .non) (.v 2))))
    (Y3 (.ret (.k .non)))
    .nil)
   (.seq (.ret (.pr .tuple (Zd (.v 2))))
   .nil))))
def Y5:Df:=⟨3,1,Sw⟩
def Sk:S:=(Y3 (.ret (.call "whole_in" (Tz (.v 0) (ki 1) (.g "GREATEST_NUMBER")))))
def Ue:Df:=⟨1,1,Sk⟩
def B5:S:=(Y3 (.ret (.call "whole_in" (Tz (.v 0) (.pr .neg (Zd (.g "GREATEST_WHOLE"))) (.g "GREATEST_WHOLE")))))
def Y1:Df:=⟨1,1,B5⟩
noncomputable def Rz:S:=(.seq (.set 3 (.ite (.pr .sts (Zc (.v 0) (ks "-"))) (.pr (.sl true false) (Zc (.v 0) (ki 1))) (.v 0)))
   (.seq (.ite (.or (.not (.pr (.c2 .le .le) (Tz (ki 1) (Wq (.v 3)) (.g "MOST_FIGURES")))) (.not (.pr .all (Zd (.comp (.v 0) (.v 3) .nil (.pr (.cm .isin) (Zc (.v 0) (.g "FIGURES"))) [none] ["figure"])))))
    (Y3 (.ret (.k .non)))
    .nil)
   (.seq (.set 4 (.pr .int (Zd (.v 0))))
   (.seq (.ret (.ite (.and (Us (.pr .str (Zd (.v 4))) (.v 0)) (.pr (.c2 .le .le) (Tz (.v 1) (.v 4) (.v 2)))) (.v 4) (.k .non)))
   .nil))))
def J4:Df:=⟨5,3,Rz⟩
noncomputable def K2:S:=(Y3 (.ret (.lst (ro4 (J3 (.pr .list (Zd (.pr (.sl false true) (Zc (.v 0) (ki 63))))) (.pr (.op .mul) (Zc (.lst (Zd (ki 0))) (.pr .int (Zd (Us (.v 0) (.lst .nil))))))) (ki 0) (ki 0) (ki 0)))))
def Gx:Df:=⟨1,1,K2⟩
noncomputable def Rw:S:=(.seq (.put 0 (ki 3) (J3 (Zo (.v 0) (ki 3)) (ki 1)))
   (.seq (.set 2 (Zo (.v 0) (ki 3)))
   (.seq (.ite (Us (Zo (.v 0) (ki 2)) (ki 0))
    (.seq (.set 3 (Zo (Zo (.v 0) (ki 0)) (.pr (.op .mod) (Zc (Zo (.v 0) (ki 1)) (Wq (Zo (.v 0) (ki 0)))))))
   (.seq (.put 0 (ki 1) (J3 (Zo (.v 0) (ki 1)) (ki 1)))
   (.seq (.ite (.pr (.cm .lt) (Zc (.v 3) (.pr (.op .pow) (Zc (ki 10) (ki 18)))))
    (.seq (.set 4 (J3 (J3 (J3 (.pr (.op .mod) (Zc (.v 3) (ki 2147483629))) (.pr (.op .mul) (Zc (.pr (.op .mul) (Zc (ki 31) (.v 2))) (.v 2)))) (.pr (.op .mul) (Zc (ki 7919) (.v 2)))) (ki 1)))
   (.seq (.set 4 (.pr (.op .mul) (Zc (.pr (.op .fdiv) (Zc (.pr (.op .mod) (Zc (.pr (.op .mul) (Zc (.v 4) (ki 48271))) (ki 2147483647))) (ki 7))) (ki 69621))))
   (.seq (.ret (.pr (.op .mod) (Zc (.pr (.op .fdiv) (Zc (.pr (.op .mod) (Zc (.v 4) (ki 2147483629))) (ki 5))) (.v 1))))
   .nil)))
    .nil)
   (.seq (.put 0 (ki 2) (.v 3))
   .nil))))
    .nil)
   (.seq (.set 5 (.pr (.op .mod) (Zc (Zo (.v 0) (ki 2)) (.v 1))))
   (.seq (.put 0 (ki 2) (.pr (.op .fdiv) (Zc (Zo (.v 0) (ki 2)) (.v 1))))
   (.seq (.ret (.mv 5))
   .nil))))))
def Gq:Df:=⟨6,2,Rw⟩
noncomputable def Sg:S:=(.seq (.set 2 (.lst (.cons (ks "a") (.cons (ks "ab") (.cons (ks "abc") (.cons (ks "make") (.cons (ks "form") (.cons (ks "row") (.cons (ks "text") (.cons (ks "must") (.cons (ks "none") (.cons (ks "b") (.cons (ks "mak") (.cons (ks "abcdefgh") .nil))))))))))))))
   (.seq (.set 3 (.call "_law_draw" (Zc (.io 0) (ki 12))))
   (.seq (.set 4 (Zo (.lst (ro4 (ki 1) (ki 5) (ki 7) (ki 11))) (.call "_law_draw" (Zc (.io 0) (ki 4)))))
   (.seq (.ret (.comp (.v 0) (.itr .rng (Zd (.v 1))) .nil (Zo (.v 1) (.pr (.op .mod) (Zc (J3 (.v 2) (.pr (.op .mul) (Zc (.v 3) (.v 0)))) (ki 12)))) [none,some 2,some 3,some 4] ["_law_k","_law_some","_law_first","_law_step"]))
   .nil))))
def U1:Df:=⟨5,2,Sg⟩
noncomputable def Wg:S:=(.seq (.set 2 (.comp (.v 0) (.lst (.cons (ki 1) (.cons (ki 2) (.cons (ki 3) (.cons (ki 9) (.cons (ki 10) (.cons (ki 99) (.cons (ki 100) (.cons (ki 999) .nil))))))))) (Us (.call "_law_draw" (Zc (.io 1) (ki 3))) (ki 0)) (.v 0) [none,some 0] ["_law_number","_law_feed_here"]))
   (.seq (.ret (.pr (.sl false true) (Zc (.v 2) (.v 1))))
   .nil))
def Vr:Df:=⟨3,2,Wg⟩
noncomputable def Nw:S:=(.seq (.set 2 (.call "_law_draw" (Zc (.io 0) (ki 8))))
   (.seq (.ite (.pr (.cm .lt) (Zc (.v 2) (ki 2)))
    (.seq (.set 3 (Zo (.lst (.cons (ki 0) (.cons (.pr .neg (Zd (ki 3))) (.cons (ki 1) (.cons (ki 5) (.cons (.pr .neg (Zd (.pr (.op .pow) (Zc (ki 10) (ki 18))))) (.cons (ki 0) .nil))))))) (.call "_law_draw" (Zc (.io 0) (ki 6)))))
   (.seq (.ret (.tup (Tz (ks "whole") (.v 3) (.pr .min (Zc (.pr (.op .pow) (Zc (ki 10) (ki 18))) (J3 (.v 3) (Zo (.lst (.cons (ki 1) (.cons (ki 0) (.cons (ki 7) (.cons (ki 300) (.cons (.pr (.op .pow) (Zc (ki 10) (ki 18))) .nil)))))) (.call "_law_draw" (Zc (.io 0) (ki 5))))))))))
   .nil))
    .nil)
   (.seq (.ite (Us (.v 2) (ki 2))
    (Y3 (.ret (.tup (Zd (ks "truth")))))
    .nil)
   (.seq (.ite (.pr (.cm .lt) (Zc (.v 2) (ki 5)))
    (Y3 (.ret (.tup (Zc (ks "text") (Zo (.lst (.cons (ki 0) (.cons (ki 1) (.cons (ki 3) (.cons (ki 5) (.cons (ki 200) .nil)))))) (.call "_law_draw" (Zc (.io 0) (ki 5))))))))
    .nil)
   (.seq (.set 4 (Zo (.lst (Tz (ks "row") (ks "map") (ks "row"))) (.pr (.op .sub) (Zc (.v 2) (ki 5)))))
   (.seq (.ret (.tup (Tz (.v 4) (Zo (.v 1) (.call "_law_draw" (Zc (.io 0) (Wq (.v 1))))) (Zo (.lst (.cons (ki 0) (.cons (ki 1) (.cons (ki 2) (.cons (ki 3) (.cons (ki 20) .nil)))))) (.call "_law_draw" (Zc (.io 0) (ki 5)))))))
   .nil))))))
def Yt:Df:=⟨5,2,Nw⟩
noncomputable def Nj:S:=(.seq (.ite (Us (Zo (.v 1) (ki 0)) (ks "whole"))
    (Y3 (.ret (Zo (.lst (Tz (Zo (.v 1) (ki 1)) (Zo (.v 1) (ki 2)) (.pr .min (Zc (Zo (.v 1) (ki 2)) (J3 (Zo (.v 1) (ki 1)) (ki 1)))))) (.call "_law_draw" (Zc (.io 0) (ki 3))))))
    .nil)
   (.seq (.ite (Us (Zo (.v 1) (ki 0)) (ks "truth"))
    (Y3 (.ret (Us (.call "_law_draw" (Zc (.io 0) (ki 2))) (ki 0))))
    .nil)
   (.seq (.ite (Us (Zo (.v 1) (ki 0)) (ks "text"))
    (Y3 (.ret (.pr (.sl false true) (Zc (Zo (.lst (.cons (ks "") (.cons (ks "a") (.cons (ks " b-c") (.cons (ks "must 1") (.cons (.pr (.op .mul) (Zc (ks "~") (ki 200))) .nil)))))) (.call "_law_draw" (Zc (.io 0) (ki 5)))) (Zo (.v 1) (ki 1))))))
    .nil)
   (.seq (.ret (.tup .nil))
   .nil))))
def Yd:Df:=⟨2,2,Nj⟩
noncomputable def Qr:S:=(Y3 (.ret (.pr .tuple (Zd (.comp (.v 0) (.lst (ro4 (ki 4) (ki 11) (ki 99) (ki 998))) (.and (.pr (.cm .notin) (Zc (.v 0) (.v 1))) (Us (.call "_law_draw" (Zc (.io 2) (ki 4))) (ki 0))) (.v 0) [none,some 1,some 0] ["_law_number","_law_numbers_here","_law_feed_here"])))))
def V6:Df:=⟨2,2,Qr⟩
noncomputable def Bs:S:=(.seq (.set 3 (.call "_law_names" (Zc (.io 0) (ki 8))))
   (.seq (.set 4 (.lst .nil))
   (.seq (.loop (.tup (Zc (.v 5) (.v 6))) (.itr .enm (Zd (.call "_law_numbers" (Zc (.io 0) (ki 5)))))
    (.seq (.set 7 (Zo (.v 1) (.call "_law_draw" (Zc (.io 0) (Wq (.v 1))))))
   (.seq (.set 8 (.tup .nil))
   (.seq (.ite (.and (.pr (.cm .notin) (Zc (Zo (.pr .get2 (Tz (.v 2) (.v 7) (.pr .tup1 (Zd (ks "none"))))) (ki 0)) (.tup (Zc (ks "none") (ks "choice"))))) (Us (.call "_law_draw" (Zc (.io 0) (ki 2))) (ki 0)))
    (Y3 (.set 8 (.tup (Zd (.call "_law_plain_value" (Zc (.io 0) (Zo (.v 2) (.v 7))))))))
    .nil)
   (.seq (.ex (.mt .append 4 (Zd (.tup (ro4 (.v 6) (Zo (.v 3) (.v 5)) (.v 7) (.v 8))))))
   .nil)))))
   (.seq (.ret (.pr .tuple (Zd (.v 4))))
   .nil))))
def U0:Df:=⟨9,3,Bs⟩
noncomputable def Gv:S:=(.seq (.set 1 (.call "_law_names" (Zc (.io 0) (J3 (ki 2) (.call "_law_draw" (Zc (.io 0) (ki 5)))))))
   (.seq (.set 2 (.pr .dnew .nil))
   (.seq (.loop (.v 3) (.pr (.sl true false) (Zc (.v 1) (ki 1)))
    (.seq (.set 4 (.call "_law_draw" (Zc (.io 0) (ki 6))))
   (.seq (.ite (.pr (.cm .lt) (Zc (.v 4) (ki 4)))
    (Y3 (.put 2 (.v 3) (.call "_law_plain_shape" (Zc (.io 0) (.v 1)))))
    (Y3 (.ite (Us (.v 4) (ki 4))
    (.seq (.set 5 (.comp (.v 0) (.call "_law_parts" (Tz (.io 0) (.v 1) (.pr .dnew .nil))) .nil (.pr (.sl false true) (Zc (.v 0) (ki 3))) [none] ["_law_part"]))
   (.seq (.set 6 (.call "_law_struck" (Zc (.io 0) (.comp (.v 0) (.v 5) .nil (Zo (.v 0) (ki 0)) [none] ["_law_part"]))))
   (.seq (.put 2 (.v 3) (.tup (ro4 (ks "choice") (.pr .tuple (Zd (.v 5))) (.v 6) (Us (.call "_law_draw" (Zc (.io 0) (ki 2))) (ki 0)))))
   .nil)))
    .nil)))
   .nil)))
   (.seq (.set 7 (.pr .dict (Zd (.v 2))))
   (.seq (.loop (.v 3) (.v 1)
    (Y3 (.ite (.pr (.cm .notin) (Zc (.v 3) (.v 2)))
    (.seq (.set 8 (.call "_law_parts" (Tz (.io 0) (.v 1) (.v 7))))
   (.seq (.put 2 (.v 3) (.tup (Tz (ks "record") (.v 8) (.call "_law_struck" (Zc (.io 0) (.comp (.v 0) (.v 8) .nil (Zo (.v 0) (ki 0)) [none] ["_law_part"]))))))
   .nil))
    .nil)))
   (.seq (.ret (.tup (Zc (Zo (.v 1) (.pr (.op .mul) (Zc (.call "_law_draw" (Zc (.io 0) (Wq (.v 1)))) (.pr .int (Zd (Us (.call "_law_draw" (Zc (.io 0) (ki 3))) (ki 0))))))) (.v 2))))
   .nil))))))
def Gz:Df:=⟨9,1,Gv⟩
noncomputable def De:S:=(.seq (.ite (Us (.v 0) (.tup .nil))
    (Y3 (.ret (ks "must")))
    .nil)
   (.seq (.ite (.pr (.isi .bool) (Zd (Zo (.v 0) (ki 0))))
    (Y3 (.ret (Zo (.lst (Zc (ks "truth no") (ks "truth yes"))) (.pr .int (Zd (Zo (.v 0) (ki 0)))))))
    .nil)
   (.seq (.ite (.pr (.isi .int) (Zd (Zo (.v 0) (ki 0))))
    (Y3 (.ret (J3 (ks "whole ") (.pr .str (Zd (Zo (.v 0) (ki 0)))))))
    .nil)
   (.seq (.ret (.ite (.pr (.isi .str) (Zd (Zo (.v 0) (ki 0)))) (J3 (ks "text ") (Zo (.v 0) (ki 0))) (ks "none")))
   .nil))))
def Yw:Df:=⟨1,1,De⟩
noncomputable def Sf:S:=(.seq (.set 1 (.lst (Zd (J3 (ks "make ") (Zo (.v 0) (ki 0))))))
   (.seq (.loop (.v 2) (.pr .sorted (Zd (Zo (.v 0) (ki 1))))
    (.seq (.set 3 (Zo (Zo (.v 0) (ki 1)) (.v 2)))
   (.seq (.set 4 (J3 (J3 (J3 (ks "form ") (.v 2)) (ks " ")) (Zo (.v 3) (ki 0))))
   (.seq (.ite (.pr (.cm .notin) (Zc (Zo (.v 3) (ki 0)) (.tup (Zc (ks "record") (ks "choice")))))
    (Y3 (.ex (.mt .append 1 (Zd (.pr (.join " ") (Zd (J3 (.lst (Zd (.v 4))) (.comp (.v 0) (.pr (.sl true false) (Zc (.v 3) (ki 1))) .nil (.pr .str (Zd (.v 0))) [none] ["_law_one"]))))))))
    (Y3 (.ex (.mt .extend 1 (Zd (.call "_law_part_lines" (Zc (.v 4) (.v 3))))))))
   .nil))))
   (.seq (.ret (.mv 1))
   .nil)))
def U2:Df:=⟨5,1,Sf⟩
noncomputable def Yu:S:=(.seq (.ite (Us (Zo (.v 1) (ki 0)) (ks "choice"))
    (Y3 (.set 0 (J3 (J3 (.v 0) (ks " ")) (Zo (.lst (Zc (ks "closed") (ks "open"))) (.pr .int (Zd (Zo (.v 1) (ki 3))))))))
    .nil)
   (.seq (.set 2 (.lst (Zd (.v 0))))
   (.seq (.loop (.v 3) (Zo (.v 1) (ki 1))
    (.seq (.set 4 (J3 (.lst (Zd (Zo (.lst (Zc (ks "field") (ks "arm"))) (.pr .int (Zd (Us (Zo (.v 1) (ki 0)) (ks "choice"))))))) (.comp (.v 0) (.pr (.sl false true) (Zc (.v 3) (ki 3))) .nil (.pr .str (Zd (.v 0))) [none] ["_law_one"])))
   (.seq (.ite (Us (Wq (.v 3)) (ki 4))
    (Y3 (.ex (.mt .append 4 (Zd (.call "_law_default_words" (Zd (Zo (.v 3) (ki 3))))))))
    .nil)
   (.seq (.ex (.mt .append 2 (Zd (.pr (.join " ") (Zd (.v 4))))))
   .nil))))
   (.seq (.ret (J3 (.v 2) (.lst (Zd (.pr (.join " ") (Zd (J3 (.lst (Zd (ks "struck"))) (.comp (.v 0) (Zo (.v 1) (ki 2)) .nil (.pr .str (Zd (.v 0))) [none] ["_law_one"]))))))))
   .nil))))
def Yy:Df:=⟨5,2,Yu⟩
noncomputable def Sb:S:=(.seq (.ite (.or (.not (.pr (.isi .tuple) (Zd (.v 0)))) (.or (.pr (.cm .ne) (Zc (Wq (.v 0)) (ki 2))) (.not (.pr (.isi .dict) (Zd (Zo (.v 0) (ki 1)))))))
    (Y3 (.ret (.k (.bl false))))
    .nil)
   (.seq (.ret (Us (.pr .repr (Zd (.tup (Zc (Zo (.v 0) (ki 0)) (.pr .sits (Zd (Zo (.v 0) (ki 1)))))))) (.pr .repr (Zd (.tup (Zc (Zo (.v 1) (ki 0)) (.pr .sits (Zd (Zo (.v 1) (ki 1))))))))))
   .nil))
def U3:Df:=⟨2,2,Sb⟩
noncomputable def Zqj:S:=(.seq (.set 1 (.call "_law_feed" (Zd (.v 0))))
   (.seq (.loop (.v 2) (.itr .rng (Zd (ki 3)))
    (.seq (.set 3 (.call "_law_make" (Zd (.io 1))))
   (.seq (.set 4 (.call "_law_lines" (Zd (.v 3))))
   (.seq (.set 5 (.pr .dnew .nil))
   (.seq (.loop (.v 6) (.itr .rvl (Zd (.pr .list (Zd (Zo (.v 3) (ki 1))))))
    (Y3 (.put 5 (.v 6) (Zo (Zo (.v 3) (ki 1)) (.v 6)))))
   (.seq (.loop (.v 7) (.lst (Zc (.v 3) (.tup (Zc (Zo (.v 3) (ki 0)) (.v 5)))))
    (.seq (.set 8 (.call "shown_make" (Zd (.v 7))))
   (.seq (.ite (.or (.not (.pr (.isi .list) (Zd (.v 8)))) (.or (.pr (.cm .ne) (Zc (.v 8) (.v 4))) (.not (.call "_law_alike" (Zc (.v 7) (.v 3))))))
    (Y3 (.ret (.k (.bl false))))
    .nil)
   (.seq (.ite (.or (.not (.tmp (.call "_law_alike" (Zc (.call "read_make" (Zd (.v 8))) (.v 3))))) (.pr (.cm .ne) (Zc (.v 8) (.v 4))))
    (Y3 (.ret (.k (.bl false))))
    .nil)
   (.seq (.ex (.mt .append 8 (Zd (ks "struck"))))
   (.clr 9 "read_make" 4
   (.seq (.ite (.or (.pr (.cm .ne) (Zc (.call "shown_make" (Zd (.v 7))) (.v 4))) (.not (.call "_law_alike" (Zc (.call "read_make" (Zd (.pr .list (Zd (.v 4))))) (.v 3)))))
    (Y3 (.ret (.k (.bl false))))
    .nil)
   .nil)))))))
   .nil))))))
   (.seq (.ret (.k (.bl true)))
   .nil)))
def C3:Df:=⟨10,1,Zqj⟩
theorem Ni{c:Prop}[Decidable c]{Z:Type}{a:Z}{o:Option Z}{Q:Z->Prop}(h:c)(q:Q a):on (if c then some a else o) Q:=by rw[if_pos h];exact q
theorem Yc{b:Bool}{A B:Prop}(h:b=true->A)(h':b=false->B):if b=true then A else B:=by
 cases b with
 | true=>exact h rfl
 | false=>exact h' rfl
theorem mulP{a b:Int}{Q:Sl->Prop}(h:0<=a/\a<2 ^ 64)(q:Q (.f (.int (a * b)))):on (opT .mul (.int a) (.int b)) Q:=Ni (.inl ⟨by omega,h.2⟩) q
theorem mulR{a b:Int}{Q:Sl->Prop}(h:0<=b/\b<2 ^ 64)(q:Q (.f (.int (a * b)))):on (opT .mul (.int a) (.int b)) Q:=Ni (.inr ⟨by omega,h.2⟩) q
theorem modP{a b:Int}{Q:Sl->Prop}(h:0<b)(q:Q (.f (.int (a % b)))):on (opT .mod (.int a) (.int b)) Q:=Ni h q
theorem divP{a b:Int}{Q:Sl->Prop}(h:0<b/\b<1073741824)(q:Q (.f (.int (a / b)))):on (opT .fdiv (.int a) (.int b)) Q:=Ni h q
theorem tm{ts:ZZ}{x:T}{Q:T×T->Prop}(h:ts.length<sizeLine)(q:Q (.lst (ts++[x]),.non)):on (nq .append (.lst ts) [x]) Q:=Ni h q
theorem Mn{body:T->P->En->Prop}{xs:ZZ}{p:P}{D:En}(I:ZZ->P->Prop)(h:I xs p)(st:∀x r p (D':En),I (x::r) p->(∀q,I r q->D'.nx q)->(∀s q,D.rt s q->D'.rt s q)->body x p D')(q:∀q,I [] q->D.nx q):Ef body xs p D :=
 jw I (fun _=>False) D.rt (fun x r p D' h n _ _ r'=>st x r p D' h n r') xs p D h q (fun _ z=>z.elim) fun _ _ z=>z
noncomputable def Uh:Nat->S->S
 | 0,s=>s
 | n+1,.seq _ r=>Uh n r
 | _,s=>s
def thnS:S->S
 | .seq (.ite _ a _) _=>a
 | s=>s
def lpB:S->S
 | .seq (.loop _ _ b) _=>b
 | s=>s
noncomputable def feed(zs:ZL)(i k n:Int):T:=.lst [.lst (zs.map .int),.int i,.int k,.int n]
def Nb(C:Cs):Prop:=∀{zs:ZL} {i k n m:Int},zs≠[]->0<=n->n<1000000000->0<m->m<1000000->on (C "_law_draw" [.o (feed zs i k n),.f (.int m)]) fun x=>∃r i' k',0<=r/\r<m/\x=(.f (.int r),[feed zs i' k' (n+1)])
theorem Y4{C:Cs}(h:Nb C){zs:ZL}{i k n m:Int}{Q:Sl×ZZ->Prop}(hz:zs≠[])(n0:0<=n)(n1:n<1000000000)(m0:0<m)(m1:m<1000000)(q:∀r i' k',0<=r->r<m->Q (.f (.int r),[feed zs i' k' (n+1)])):on (C "_law_draw" [.o (feed zs i k n),.f (.int m)]) Q :=
 Zj (h hz n0 n1 m0 m1) fun x ⟨r,i',k',h1,h2,e⟩=>by rw[e];exact q r i' k' h1 h2
theorem sIx_63(n:Nat):HT.Yg n n (some 63)<=63:=by
 rw[show (63:Int)=((63:Nat):Int) from rfl,HT.L1];omega
theorem uw{n:Nat}:HT.Yg (n+1) (n+1) (some 63)=HT.Yg (n+1) (n+1) (some 63) - 1+1:=by
 rw[show (63:Int)=((63:Nat):Int) from rfl,HT.L1];omega
theorem Zzk{w:W}(zs:ZL):wF Gx w [.f (.lst (zs.map .int))] fun x=>∃us,us≠[]/\x=(.o (feed us 0 0 0),[]):=by
 refine Yn rfl fun D rt _=>?_;cases zs with
 | nil=>exact rt _ _ ⟨[0],(fun z=>nomatch z),rfl⟩
 | cons z zs =>
  have e:G4 ((z::zs).map T.int) none (some 63)=((z::zs).take (HT.Yg (zs.length+1) (zs.length+1) (some 63))).map .int:=by
   unfold G4;rw[Zn];show (List.take (HT.Yg (zs.length+1) (zs.length+1) (some 63) - 0) (List.drop 0 _))=_;rw[List.drop_zero,Nat.sub_zero,List.map_take]
  have hl:(G4 ((z::zs).map T.int) none (some 63)).length+([]:ZZ).length<=sizeLine:=by
   have h1:HT.Yg (zs.length+1) (zs.length+1) (some 63)<=63:=sIx_63 _;have:=sizeLine_eq;rw[e,Zn,L0t];show min _ _+0<=_;omega
  refine Ni hl ?_;refine rt _ _ ?_;refine⟨(z::zs).take (HT.Yg (zs.length+1) (zs.length+1) (some 63)), ?_, ?_⟩
  .rw[uw];exact fun z=>nomatch z
  .show (Sl.o (T.lst [T.lst (G4 ((z::zs).map T.int) none (some 63)++[]),_,_,_]),_)=_;rw[e,XZ];rfl
theorem Zzu{w:W}{zs:ZL}{i k n m:Int}(ne:zs≠[])(n0:0<=n)(n1:n<1000000000)(m0:0<m)(m1:m<1000000):wF Gq w [.o (feed zs i k n),.f (.int m)] fun x=>∃r i' k',0<=r/\r<m/\x=(.f (.int r),[feed zs i' k' (n+1)]):=by
 refine Yn rfl fun D rt _=>?_
 have fin:∀(i' k':Int) (s3 s4:Sl),wS w (Jp [.o (feed zs i k n),.f (.int m)]) (Uh 3 Rw) [.o (feed zs i' k' (n+1)),.f (.int m),.f (.int (n+1)),s3,s4,.no] D:=fun i' k' s3 s4=>by
  refine modP m0 ?_;refine divP ⟨m0,by omega⟩ ?_;exact rt _ _ ⟨k' % m,i',k' / m,Int.emod_nonneg _ (by omega),Int.emod_lt_of_pos _ m0,rfl⟩
 refine Yc (b:=decide (k=0)) (fun _=>?_) fun _=>fin i k _ _
 have g:(0:Int)<((zs.map T.int).length:Nat):=by
  cases zs with
  | nil=>exact absurd rfl ne
  | cons _ _=>simp only[Zn,Yo];omega
 refine modP g ?_;obtain⟨x,hx,_,mx⟩:=K4 (xs:=zs.map T.int) (Int.emod_nonneg i (show (((zs.map T.int).length:Nat):Int)≠0 by omega)) (Int.emod_lt_of_pos i g);obtain⟨z,_,rfl⟩:=Ra.mp mx;refine z7 hx ?_;refine Yc (b:=decide (z<(10:Int) ^ 18)) (fun _=>?_) fun _=>fin _ _ _ _;refine mulP (a:=31 * (n+1)) ⟨by omega,by omega⟩ ?_;refine mulR ⟨by omega,by omega⟩ ?_;refine mulR ⟨by omega,by omega⟩ ?_;refine modP m0 ?_;exact rt _ _ ⟨_,_,_,Int.emod_nonneg _ (by omega),Int.emod_lt_of_pos _ m0,rfl⟩
theorem Wu{zs:ZL}{r:Int}{Q:Sl->Prop}(h0:0<=r)(h1:r<(zs.length:Nat))(q:∀z,z∈zs->Q (.f (.int z))):on ((A4 (.lst (zs.map .int)) (.int r)).map Sl.f) Q:=ixP h0 (by rw[Zn];exact h1) fun x _ mx=>by
 obtain⟨z,m,rfl⟩:=Ra.mp mx;exact q z m
theorem Cy{ss:ZD}{r:Int}{Q:Sl->Prop}(h0:0<=r)(h1:r<(ss.length:Nat))(q:∀s,s∈ss->Q (.f (.str s))):on ((A4 (.lst (ss.map .str)) (.int r)).map Sl.f) Q:=ixP h0 (by rw[Zn];exact h1) fun x _ mx=>by
 obtain⟨z,m,rfl⟩:=Ra.mp mx;exact q z m
noncomputable def V2:ZD:=["a","ab","abc","make","form","row","text","must","none","b","mak","abcdefgh"]
def Hj(C:Cs):Prop:=∀{zs:ZL} {i k n m:Int},zs≠[]->0<=n->n<900000000->0<=m->m<=8->on (C "_law_names" [.o (feed zs i k n),.f (.int m)]) fun x=>∃(ss:ZD) (i' k':Int),(ss.length:Int)=m/\(∀s∈ss,s∈V2)/\x=(.o (.lst (ss.map .str)),[feed zs i' k' (n+2)])
theorem gr{w:W}(hd:Nb w.C){zs:ZL}{i k n m:Int}(ne:zs≠[])(n0:0<=n)(n1:n<900000000)(m0:0<=m)(m1:m<=8):wF U1 w [.o (feed zs i k n),.f (.int m)] fun x=>∃(ss:ZD) (i' k':Int),(ss.length:Int)=m/\(∀s∈ss,s∈V2)/\x=(.o (.lst (ss.map .str)),[feed zs i' k' (n+2)]):=by
 refine Yn rfl fun D rt _=>?_;refine Y4 hd ne n0 (by omega) (by omega) (by omega) fun r i k r0 r1=>?_;refine Y4 hd ne (by omega) (by omega) (by omega) (by omega) fun r2 i k s0 s1=>?_;refine Wu (zs:=[1,5,7,11]) s0 s1 fun step hs=>?_
 have h0:0<=step/\step<12:=by
  simp only[Y6,Vy,or_false]at hs;rcases hs with rfl | rfl | rfl | rfl<;>decide
 refine Ni ⟨by omega,by omega⟩ ?_;refine Gh (fun rest acc p=>∃(s0:Sl) (ss:ZD),p=[s0,.o (.lst (V2.map .str)),.f (.int r),.f (.int step)]/\acc=ss.map .str/\(∀s∈ss,s∈V2)/\(∀x∈rest,∃k:Int,0<=k/\k<8/\x=.int k)/\ss.length+rest.length=m.toNat) ⟨.no,[],rfl,rfl,fun _ z=>absurd z Vy,fun x mx=>?_,by simp⟩ (fun x q acc p K hi hk _=>?_) fun acc p hi=>?_
 .obtain⟨k,hk,rfl⟩:=Ra.mp mx;have:=List.mem_range.mp hk;exact⟨_,by omega,by omega,rfl⟩
 .obtain⟨s0,ss,rfl,rfl,h1,h2,h3⟩:=hi;obtain⟨k,k0,k1,rfl⟩:=h2 x Ye;refine mulP (a:=step) ⟨by omega,by omega⟩ ?_;have a0:=Int.emod_nonneg (r+step * k) (show (12:Int)≠0 by omega);have a1:=Int.emod_lt_of_pos (r+step * k) (show (0:Int)<12 by omega);refine Cy (ss:=V2) a0 a1 fun s ms=>?_;refine hk _ _ ⟨_,ss++[s],rfl,by rw[Q2];rfl,fun y my=>?_,fun y my=>h2 y (Vi _ my), ?_⟩
  .rcases x8.mp my with my | my
   .exact h1 y my
   .rw[Pz.mp my];exact ms
  .rw[Yl];simp only[Yo,List.length_nil]at h3 ⊢;omega
 .obtain⟨s0,ss,rfl,rfl,h1,h2,h3⟩:=hi;refine rt _ _ ⟨ss,i,k, ?_,h1,by rw[show n+2=n+1+1 by omega];rfl⟩;simp only[List.length_nil]at h3;omega
noncomputable def Q1:ZL:=[1,2,3,9,10,99,100,999]
theorem Io{Z:Type}(f:Z->T)(xs:List Z)(lo hi:ZR):∃ys:List Z,G4 (xs.map f) lo hi=ys.map f/\(∀y∈ys,y∈xs)/\ys.length<=xs.length:=by
 refine⟨(xs.drop (HT.Yg xs.length 0 lo)).take (HT.Yg xs.length xs.length hi - HT.Yg xs.length 0 lo), ?_,fun y m=>List.mem_of_mem_drop (List.mem_of_mem_take m), ?_⟩
 .unfold G4;rw[Zn,List.map_take,List.map_drop]
 .rw[L0t,List.length_drop];omega
def Zqb(C:Cs):Prop:=∀{zs:ZL} {i k n m:Int},zs≠[]->0<=n->n<900000000->on (C "_law_numbers" [.o (feed zs i k n),.f (.int m)]) fun x=>∃(us:ZL) (i' k' n':Int),us.length<=8/\(∀u∈us,u∈Q1)/\n<=n'/\n'<=n+8/\x=(.o (.lst (us.map .int)),[feed zs i' k' n'])
theorem Kv{w:W}(hd:Nb w.C){zs:ZL}{i k n m:Int}(ne:zs≠[])(n0:0<=n)(n1:n<900000000):wF Vr w [.o (feed zs i k n),.f (.int m)] fun x=>∃(us:ZL) (i' k' n':Int),us.length<=8/\(∀u∈us,u∈Q1)/\n<=n'/\n'<=n+8/\x=(.o (.lst (us.map .int)),[feed zs i' k' n']):=by
 refine Yn rfl fun D rt _=>?_;refine Gh (fun rest acc p=>∃(s0:Sl) (us vs:ZL) (i k n':Int),p=[s0,.o (feed zs i k n')]/\acc=us.map .int/\rest=vs.map .int/\(∀s∈us,s∈Q1)/\(∀s∈vs,s∈Q1)/\us.length+vs.length<=8/\n<=n'/\n'+(vs.length:Nat)<=n+8) ⟨.no,[],Q1,i,k,n,rfl,rfl,rfl,fun _ z=>absurd z Vy,fun _ m=>m,by decide,Int.le_refl _,by show n+8<=n+8;omega⟩ (fun x q acc p K hi hk hn=>?_) fun acc p hi=>?_
 .obtain⟨s0,us,vs,i,k,n',rfl,rfl,er,h1,h2,h3,h4,h5⟩:=hi;cases vs with
  | nil=>cases er
  | cons v vs =>
  cases er;rw[Yo]at h3 h5;refine Y4 hd ne (by omega) (by omega) (by omega) (by omega) fun r i k r0 r1=>?_;refine Yc (b:=decide (r=0)) (fun _=>?_) fun _=>?_
  .refine hk _ _ ⟨_,us++[v],vs,i,k,n'+1,rfl,by rw[Q2];rfl,rfl,fun y my=>?_,fun y my=>h2 y (Vi _ my), ?_,by omega,by omega⟩
   .rcases x8.mp my with my | my
    .exact h1 y my
    .rw[Pz.mp my];exact h2 v Ye
   .rw[Yl];show us.length+1+vs.length<=8;omega
  .exact hn _ ⟨_,us,vs,i,k,n'+1,rfl,rfl,rfl,h1,fun y my=>h2 y (Vi _ my),by omega,by omega,by omega⟩
 .obtain⟨s0,us,vs,i,k,n',rfl,rfl,er,h1,h2,h3,h4,h5⟩:=hi;obtain⟨ys,e1,e2,e3⟩:=Io T.int us none (some m);refine rt _ _ ⟨ys,i,k,n',by omega,fun u mu=>h1 u (e2 u mu),h4,by omega, ?_⟩;show (Sl.o (T.lst (G4 (us.map T.int) none (some m))),_)=_;rw[e1];rfl
noncomputable def Qa:ZL:=[4,11,99,998]
def Xj(C:Cs):Prop:=∀{zs us:ZL} {i k n:Int},zs≠[]->0<=n->n<900000000->on (C "_law_struck" [.o (feed zs i k n),.f (.lst (us.map .int))]) fun x=>∃(ss:ZL) (i' k' n':Int),ss.length<=4/\(∀u∈ss,u∈Qa)/\n<=n'/\n'<=n+4/\x=(.f (.tup (ss.map .int)),[feed zs i' k' n'])
theorem notinP{v:Int}{us:ZL}{Q:Sl->Prop}(q:Q (.f (.bl (!(us.any fun z=>decide (z=v)))))):on ((Ww .notin (.int v) (.lst (us.map .int))).map fun r=>Sl.f (.bl r)) Q:=Ya (by show ((inT (.int v) (.lst (us.map .int))).map not).map _=_;rw[i7];rfl) q
theorem Xp{w:W}(hd:Nb w.C){zs us:ZL}{i k n:Int}(ne:zs≠[])(n0:0<=n)(n1:n<900000000):wF V6 w [.o (feed zs i k n),.f (.lst (us.map .int))] fun x=>∃(ss:ZL) (i' k' n':Int),ss.length<=4/\(∀u∈ss,u∈Qa)/\n<=n'/\n'<=n+4/\x=(.f (.tup (ss.map .int)),[feed zs i' k' n']):=by
 refine Yn rfl fun D rt _=>?_;refine Gh (fun rest acc p=>∃(s0:Sl) (ss vs:ZL) (i k n':Int),p=[s0,.f (.lst (us.map .int)),.o (feed zs i k n')]/\acc=ss.map .int/\rest=vs.map .int/\(∀s∈ss,s∈Qa)/\(∀s∈vs,s∈Qa)/\ss.length+vs.length<=4/\n<=n'/\n'+(vs.length:Nat)<=n+4) ⟨.no,[],Qa,i,k,n,rfl,rfl,rfl,fun _ z=>absurd z Vy,fun _ m=>m,by decide,Int.le_refl _,by show n+4<=n+4;omega⟩ (fun x q acc p K hi hk hn=>?_) fun acc p hi=>?_
 .obtain⟨s0,ss,vs,i,k,n',rfl,rfl,er,h1,h2,h3,h4,h5⟩:=hi;cases vs with
  | nil=>cases er
  | cons v vs =>
  cases er;rw[Yo]at h3 h5;refine notinP (v:=v) (us:=us) ?_;refine Yc (b:=!(us.any fun z=>decide (z=v))) (fun _=>?_) fun _=>?_
  .refine Y4 hd ne (by omega) (by omega) (by omega) (by omega) fun r i k r0 r1=>?_;refine Yc (b:=decide (r=0)) (fun _=>?_) fun _=>?_
   .refine hk _ _ ⟨_,ss++[v],vs,i,k,n'+1,rfl,by rw[Q2];rfl,rfl,fun y my=>?_,fun y my=>h2 y (Vi _ my), ?_,by omega,by omega⟩
    .rcases x8.mp my with my | my
     .exact h1 y my
     .rw[Pz.mp my];exact h2 v Ye
    .rw[Yl];show ss.length+1+vs.length<=4;omega
   .exact hn _ ⟨_,ss,vs,i,k,n'+1,rfl,rfl,rfl,h1,fun y my=>h2 y (Vi _ my),by omega,by omega,by omega⟩
  .exact hn _ ⟨_,ss,vs,i,k,n',rfl,rfl,rfl,h1,fun y my=>h2 y (Vi _ my),by omega,by omega,by omega⟩
 .obtain⟨s0,ss,vs,i,k,n',rfl,rfl,er,h1,h2,h3,h4,h5⟩:=hi;exact rt _ _ ⟨ss,i,k,n',by omega,h1,h4,by omega,rfl⟩
inductive Dl where | must | none | truth(b:Bool) | whole(i:Int) | text(x:Str)
noncomputable def Dl.t:Dl->T
 | .must=>.tup []
 | .none=>.tup [.tup []]
 | .truth b=>.tup [.bl b]
 | .whole i=>.tup [.int i]
 | .text x=>.tup [.str x]
structure Pt where(n:Int)(nm ty:Str)(d:Dl)
noncomputable def Pt.t(p:Pt):T:=.tup [.int p.n,.str p.nm,.str p.ty,p.d.t]
noncomputable def Pt.a(p:Pt):T:=.tup [.int p.n,.str p.nm,.str p.ty]
inductive Sh where | whole(a b:Int) | truth | text(n:Int) | many(w nm:Str)(n:Int) | recd(ps:List Pt)(ss:ZL) | cho(ps:List Pt)(ss:ZL)(o:Bool)
noncomputable def Sh.t:Sh->T
 | .whole a b=>.tup [.str "whole",.int a,.int b]
 | .truth=>.tup [.str "truth"]
 | .text n=>.tup [.str "text",.int n]
 | .many w nm n=>.tup [.str w,.str nm,.int n]
 | .recd ps ss=>.tup [.str "record",.tup (ps.map Pt.t),.tup (ss.map .int)]
 | .cho ps ss o=>.tup [.str "choice",.tup (ps.map Pt.a),.tup (ss.map .int),.bl o]
def Xk(i:Int):Prop:=-1000000000000000000<=i/\i<=1000000000000000000
noncomputable def TXS:ZD:=["","a"," b-c","must 1",repS "~" 200]
def OkD:Dl->Prop
 | .whole i=>Xk i
 | .text x=>∃y∈TXS,∃m:Int,x=Txt.slice y .none (some m)
 | _=>True
def S5:Sh->Prop
 | .whole a b=>Xk a/\Xk b
 | .truth=>True
 | .text n=>0<=n/\n<=200
 | .many w nm n=>(w = "row" \/ w = "map")/\nm∈V2/\0<=n/\n<=20
 | _=>False
def cv(C:Cs):Prop:=∀{zs:ZL} {i k n:Int} {ss:ZD},zs≠[]->0<=n->n<900000000->0<ss.length->ss.length<1000->(∀s∈ss,s∈V2)->on (C "_law_plain_shape" [.o (feed zs i k n),.f (.lst (ss.map .str))]) fun x=>∃(s:Sh) (i' k' n':Int),S5 s/\n<=n'/\n'<=n+4/\x=(.f s.t,[feed zs i' k' n'])
theorem y2{w:W}(hd:Nb w.C){zs:ZL}{i k n:Int}{ss:ZD}(ne:zs≠[])(n0:0<=n)(n1:n<900000000)(hl:0<ss.length)(bp:ss.length<1000)(hs:∀s∈ss,s∈V2):wF Yt w [.o (feed zs i k n),.f (.lst (ss.map .str))] fun x=>∃(s:Sh) (i' k' n':Int),S5 s/\n<=n'/\n'<=n+4/\x=(.f s.t,[feed zs i' k' n']):=by
 refine Yn rfl fun D rt _=>?_;refine Y4 hd ne n0 (by omega) (by omega) (by omega) fun way i k r0 r1=>?_;refine Yc (b:=decide (way<2)) (fun _=>?_) fun hw=>?_
 .refine Y4 hd ne (by omega) (by omega) (by omega) (by omega) fun r i k h0 h1=>?_;refine Wu (zs:=[0, -3,1,5, -1000000000000000000,0]) h0 h1 fun a ma=>?_;have ha:=(show ∀n∈([0, -3,1,5, -1000000000000000000,0]:ZL), -1000000000000000000<=n/\n<=5 by decide) a ma;refine Y4 hd ne (by omega) (by omega) (by omega) (by omega) fun r i k h0 h1=>?_;refine Wu (zs:=[1,0,7,300,1000000000000000000]) h0 h1 fun b mb=>?_;have hb:=(show ∀n∈([1,0,7,300,1000000000000000000]:ZL),0<=n/\n<=1000000000000000000 by decide) b mb;refine rt _ _ ⟨.whole a (if a+b<1000000000000000000 then a+b else 1000000000000000000),i,k,n+1+1+1,⟨⟨by omega,by omega⟩, ?_⟩,by omega,by omega,rfl⟩;unfold Xk
  split<;>omega
 have hw:=of_decide_eq_false hw;refine Yc (b:=decide (way=2)) (fun _=>?_) fun hw2=>?_
 .exact rt _ _ ⟨.truth,i,k,n+1,trivial,by omega,by omega,rfl⟩
 have hw2:=of_decide_eq_false hw2;refine Yc (b:=decide (way<5)) (fun _=>?_) fun hw3=>?_
 .refine Y4 hd ne (by omega) (by omega) (by omega) (by omega) fun r i k h0 h1=>?_;refine Wu (zs:=[0,1,3,5,200]) h0 h1 fun a ma=>?_;have ha:=(show ∀n∈([0,1,3,5,200]:ZL),0<=n/\n<=200 by decide) a ma;exact rt _ _ ⟨.text a,i,k,n+1+1,ha,by omega,by omega,rfl⟩
 have hw3:=of_decide_eq_false hw3;refine Cy (ss:=["row","map","row"]) (r:=way - 5) (by omega) (by show way - 5<3;omega) fun o mo=>?_
 have ho:o = "row" \/ o = "map" := by
  simp only[Y6,Vy,or_false]at mo;rcases mo with h | h | h
  .exact .inl h
  .exact .inr h
  .exact .inl h
 refine Y4 hd ne (by omega) (by omega) (by rw[Zn];omega) (by rw[Zn];omega) fun r i k h0 h1=>?_;rw[Zn]at h1;refine Cy h0 h1 fun nm mn=>?_;refine Y4 hd ne (by omega) (by omega) (by omega) (by omega) fun r i k h0 h1=>?_;refine Wu (zs:=[0,1,2,3,20]) h0 h1 fun a ma=>?_;have ha:=(show ∀n∈([0,1,2,3,20]:ZL),0<=n/\n<=20 by decide) a ma;exact rt _ _ ⟨.many o nm a,i,k,n+1+1+1,⟨ho,hs nm mn,ha.1,ha.2⟩,by omega,by omega,rfl⟩
def PVal(C:Cs):Prop:=∀{zs:ZL} {i k n:Int} {s:Sh},zs≠[]->0<=n->n<900000000->S5 s->on (C "_law_plain_value" [.o (feed zs i k n),.f s.t]) fun x=>∃(d:Dl) (v:T) (i' k' n':Int),OkD d/\d.t=.tup [v]/\n<=n'/\n'<=n+1/\x=(.f v,[feed zs i' k' n'])
theorem val_ok{w:W}(hd:Nb w.C){zs:ZL}{i k n:Int}{s:Sh}(ne:zs≠[])(n0:0<=n)(n1:n<900000000)(hs:S5 s):wF Yd w [.o (feed zs i k n),.f s.t] fun x=>∃(d:Dl) (v:T) (i' k' n':Int),OkD d/\d.t=.tup [v]/\n<=n'/\n'<=n+1/\x=(.f v,[feed zs i' k' n']):=by
 refine Yn rfl fun D rt _=>?_;cases s with
 | whole a b =>
  obtain⟨ha,hb⟩:=hs;refine Y4 hd ne n0 (by omega) (by omega) (by omega) fun r i k h0 h1=>?_;refine Wu (zs:=[a,b,if a+1<b then a+1 else b]) h0 h1 fun z mz=>?_;refine rt _ _ ⟨.whole z,_,i,k,n+1, ?_,rfl,by omega,by omega,rfl⟩;unfold Xk at ha hb;show Xk z;unfold Xk;simp only[Y6,Vy,or_false]at mz;rcases mz with rfl | rfl | rfl
  .exact ha
  .exact hb
  .split<;>omega
 | truth =>
  refine Y4 hd ne n0 (by omega) (by omega) (by omega) fun r i k h0 h1=>?_;exact rt _ _ ⟨.truth (decide (r=0)),_,i,k,n+1,trivial,rfl,by omega,by omega,rfl⟩
 | text m =>
  refine Y4 hd ne n0 (by omega) (by omega) (by omega) fun r i k h0 h1=>?_;refine Cy (ss:=TXS) h0 h1 fun z mz=>?_
  have hz:z.length<=sizeLine:=by
   have:=(show ∀y∈TXS,y.length<=200 by decide +kernel) z mz;have:=sizeLine_eq;omega
  refine Ni hz ?_;exact rt _ _ ⟨.text (Txt.slice z .none (some m)),_,i,k,n+1,⟨z,mz,m,rfl⟩,rfl,by omega,by omega,rfl⟩
 | many o nm m =>
  obtain⟨rfl | rfl,_⟩:=hs
  .exact rt _ _ ⟨.none,_,i,k,n,trivial,rfl,by omega,by omega,rfl⟩
  .exact rt _ _ ⟨.none,_,i,k,n,trivial,rfl,by omega,by omega,rfl⟩
 | recd _ _=>exact hs.elim
 | cho _ _ _=>exact hs.elim
def OkP(p:Pt):Prop:=p.n∈Q1/\p.nm∈V2/\p.ty∈V2/\OkD p.d
noncomputable def Zg(l:List (Str×Sh)):ZX:=l.map fun p=>(.inr p.1,p.2.t)
def OkC(s:Sh):Prop:=S5 s\/∃ps ss o,s=.cho ps ss o
theorem b0{x:Str}:∀{l:List (Str×Sh)},Y2 (Zg l) (.inr x)=none\/∃s,(x,s)∈l/\Y2 (Zg l) (.inr x)=some s.t
 | []=>.inl rfl
 | (y,s)::l=>by
  by_cases e:y=x
  .subst e;exact .inr ⟨s,Ye,by unfold Y2 Zg;rw[Vm,List.find?_cons_of_pos (by exact Ub rfl)];rfl⟩
  .have h:Y2 (Zg ((y,s)::l)) (.inr x)=Y2 (Zg l) (.inr x):=by
    unfold Y2 Zg;rw[Vm,List.find?_cons_of_neg (by intro z;exact e (Sum.inr.inj (Q0 z)))]
   rw[h];rcases b0 (x:=x) (l:=l) with h | ⟨s,m,h⟩
   .exact .inl h
   .exact .inr ⟨s,Vi _ m,h⟩
theorem tag_pl{s:Sh}(h:S5 s):∃(tag:Str) (r:ZZ),s.t=.tup (.str tag::r)/\(!(decide (("none" : Str)=tag) || (decide (("choice" : Str)=tag) || false)))=true:=by
 cases s with
 | whole a b=>exact⟨_,_,rfl,by decide +kernel⟩
 | truth=>exact⟨_,_,rfl,by decide +kernel⟩
 | text m=>exact⟨_,_,rfl,by decide +kernel⟩
 | many o nm m =>
  obtain⟨rfl | rfl,_⟩:=h
  .exact⟨_,_,rfl,by decide +kernel⟩
  .exact⟨_,_,rfl,by decide +kernel⟩
 | recd _ _=>exact h.elim
 | cho _ _ _=>exact h.elim
theorem ixGP{t:T}{tag:Str}{r:ZZ}{Q:Sl->Prop}(e:t=.tup (.str tag::r))(q:Q (.f (.str tag))):on ((A4 t (.int 0)).map Sl.f) Q:=by
 subst e;obtain⟨x,e1,e2,_⟩:=K4 (xs:=T.str tag::r) (i:=0) (Int.le_refl _) (by rw[Yo];omega);cases e2;exact Ya (by show (Ts (T.str tag::r) 0).map Sl.f=_;rw[e1];rfl) q
def cy(C:Cs):Prop:=∀{zs:ZL} {i k n:Int} {ss:ZD} {l:List (Str×Sh)},zs≠[]->0<=n->n<800000000->0<ss.length->ss.length<1000->(∀s∈ss,s∈V2)->(∀q∈l,OkC q.2)->on (C "_law_parts" [.o (feed zs i k n),.f (.lst (ss.map .str)),.f (.dct (Zg l))]) fun x=>∃(ps:List Pt) (i' k' n':Int),ps.length<=8/\(∀p∈ps,OkP p)/\n<=n'/\n'<=n+40/\x=(.f (.tup (ps.map Pt.t)),[feed zs i' k' n'])
theorem ke{w:W}(hd:Nb w.C)(hn:Hj w.C)(hu:Zqb w.C)(hv:PVal w.C){zs:ZL}{i k n:Int}{ss:ZD}{l:List (Str×Sh)}(ne:zs≠[])(n0:0<=n)(n1:n<800000000)(hl:0<ss.length)(bp:ss.length<1000)(hs:∀s∈ss,s∈V2)(ho:∀q∈l,OkC q.2) :
  wF U0 w [.o (feed zs i k n),.f (.lst (ss.map .str)),.f (.dct (Zg l))] fun x=>∃(ps:List Pt) (i' k' n':Int),ps.length<=8/\(∀p∈ps,OkP p)/\n<=n'/\n'<=n+40/\x=(.f (.tup (ps.map Pt.t)),[feed zs i' k' n']):=by
 refine Yn rfl fun D rt _=>?_;refine Zj (hn ne n0 (by omega) (by omega) (by omega)) fun x ⟨cs,i,k,cl,cm,e⟩=>?_;subst e;refine Zj (hu ne (by omega) (by omega)) fun x ⟨us,i,k,n2,ul,um,u1,u2,e⟩=>?_;subst e;refine Mn (fun rest p=>∃(i k n':Int) (ps:List Pt) (s5 s6 s7 s8:Sl),p=[.o (feed zs i k n'),.f (.lst (ss.map .str)),.f (.dct (Zg l)),.o (.lst (cs.map .str)),.o (.lst (ps.map Pt.t)),s5,s6,s7,s8]/\(∀x∈rest,∃(j:Nat) (z:Int),j<8/\z∈Q1/\x=.tup [.int (j:Nat),.int z])/\(∀p∈ps,OkP p)/\ps.length+rest.length<=8/\n<=n'/\n'+3 * (rest.length:Nat)<=n+40) ⟨i,k,n2,[],_,_,_,_,rfl,fun x mx=>?_,fun _ m=>absurd m Vy, ?_,by omega, ?_⟩ (fun x r p D' hi nx _=>?_) fun p hi=>?_
 .obtain⟨j,e⟩:=List.getElem?_of_mem mx;obtain⟨y,e1,rfl⟩:=Nz e;rw[Bo]at e1;obtain⟨z,e2,rfl⟩:=Yk.mp e1;have hj:=(Nd.mp e2).1;exact⟨0+j,z,by omega,um z (M0g e2),rfl⟩
 .rw[Ug,Zn];show 0+us.length<=8;omega
 .rw[Ug,Zn];omega
 .obtain⟨i,k,n',ps,s5,s6,s7,s8,rfl,h1,h2,h3,h4,h5⟩:=hi;obtain⟨j,z,hj,mz,rfl⟩:=h1 x Ye;rw[Yo]at h3 h5;refine Y4 hd ne (by omega) (by omega) (by rw[Zn];omega) (by rw[Zn];omega) fun r1 i k r0 rl=>?_;rw[Zn]at rl;refine Cy r0 rl fun inn mi=>?_
  have fin:∀(i k n3:Int) (d:Dl),OkD d->n'<=n3->n3<=n'+3->wS w (Jp [.o (feed zs i k n),.f (.lst (ss.map .str)),.f (.dct (Zg l))]) (Uh 3 (lpB (Uh 2 Bs))) [.o (feed zs i k n3),.f (.lst (ss.map .str)),.f (.dct (Zg l)),.o (.lst (cs.map .str)),.o (.lst (ps.map Pt.t)),.f (.int (j:Nat)),.f (.int z),.f (.str inn),.f d.t] D':=fun i k n3 d od a1 a2=>by
   refine Cy (ss:=cs) (r:=(j:Nat)) (by omega) (by omega) fun c mc=>?_;refine tm (by rw[Zn];have:=sizeLine_eq;omega) ?_;refine nx _ ⟨i,k,n3,ps++[⟨z,c,inn,d⟩],_,_,_,_,by rw[Q2];rfl,fun y my=>h1 y (Vi _ my),fun p mp=>?_, ?_,by omega,by omega⟩
   .rcases x8.mp mp with mp | mp
    .exact h2 p mp
    .rw[Pz.mp mp];exact⟨mz,cm c mc,hs inn mi,od⟩
   .rw[Yl];show ps.length+1+r.length<=8;omega
  rcases b0 (x:=inn) (l:=l) with g | ⟨s,ms,g⟩
  .refine ixGP (tag:="none") (r:=[]) (by rw[g];rfl) ?_;exact fin _ _ _ .must trivial (by omega) (by omega)
  .rcases ho _ ms with hp | ⟨qs,us',o,hp⟩
   .obtain⟨tag,r',et,eb⟩:=tag_pl hp;refine ixGP (tag:=tag) (r:=r') (by rw[g];exact et) ?_;refine Yc (b:=!(decide (("none" : Str)=tag) || (decide (("choice" : Str)=tag) || false))) (fun _=>?_) fun z=>absurd (eb.symm.trans z) (by decide);refine Y4 hd ne (by omega) (by omega) (by omega) (by omega) fun r2 i k r0 rl=>?_;refine Yc (b:=decide (r2=0)) (fun _=>?_) fun _=>fin _ _ _ .must trivial (by omega) (by omega);refine ip g ?_;refine Zj (hv ne (by omega) (by omega) hp) fun x ⟨d,v,i,k,n4,od,ev,b1,b2,e⟩=>?_;subst e;have:=fin i k n4 d od (by omega) (by omega);rw[ev]at this;exact this
   .have hp:s=.cho qs us' o:=hp;subst hp;refine ixGP (tag:="choice") (by rw[g];rfl) ?_;exact fin _ _ _ .must trivial (by omega) (by omega)
 .obtain⟨i,k,n',ps,s5,s6,s7,s8,rfl,h1,h2,h3,h4,h5⟩:=hi;exact rt _ _ ⟨ps,i,k,n',by simp only[List.length_nil]at h3;omega,h2,h4,by simp only[List.length_nil]at h5;omega,rfl⟩
noncomputable def putD(l:List (Str×Sh))(x:Str)(s:Sh):List (Str×Sh) :=
 if (l.any fun p=>decide (p.1=x))=true then l.map fun p=>if p.1=x then (p.1,s) else p else l++[(x,s)]
theorem any_d(l:List (Str×Sh))(x:Str):((Zg l).any fun p=>decide (p.1=.inr x))=l.any fun p=>decide (p.1=x):=by
 unfold Zg;rw[List.any_map]
 congr 1
 funext p
 show decide ((Sum.inr p.1:Key)=.inr x)=decide (p.1=x);by_cases h:p.1=x
 .rw[Ub h,Ub (by rw[h])]
 .rw[Dj h,Dj fun z=>h (Sum.inr.inj z)]
theorem Zzi(l:List (Str×Sh))(x:Str)(s:Sh):P4 (Zg l) (.inr x) s.t=Zg (putD l x s):=by
 unfold P4 putD;rw[any_d]
 split
 .unfold Zg;rw[List.map_map,List.map_map];refine List.map_congr_left fun p _=>?_;show (if (Sum.inr p.1:Key)=.inr x then (Sum.inr p.1,s.t) else (Sum.inr p.1,p.2.t))=(Sum.inr (if p.1=x then (p.1,s) else p).1,(if p.1=x then (p.1,s) else p).2.t);by_cases h:p.1=x
  .rw[if_pos h,if_pos (by rw[h])]
  .rw[if_neg h,if_neg fun z=>h (Sum.inr.inj z)]
 .unfold Zg;rw[Q2];rfl
theorem L7{P:Str×Sh->Prop}{l:List (Str×Sh)}{x:Str}{s:Sh}(h:∀q∈l,P q)(hs:P (x,s)):∀q∈putD l x s,P q:=fun q m=>by
 unfold putD at m
 split at m
 .obtain⟨p,mp,rfl⟩:=Ra.mp m
  split
  .rename_i e;rw[e];exact hs
  .exact h p mp
 .rcases x8.mp m with m | m
  .exact h q m
  .rw[Pz.mp m];exact hs
theorem Cq{l:List (Str×Sh)}{x:Str}{s:Sh}:(putD l x s).length<=l.length+1:=by
 unfold putD
 split
 .rw[Zn];omega
 .rw[Yl];exact Z5 _
theorem ur{l:List (Str×Sh)}{x:Str}{s:Sh}(h:(l.map (·.1)).Nodup):((putD l x s).map (·.1)).Nodup:=by
 unfold putD
 split
 .rw[List.map_map]
  have:((·.1) ∘ fun p:Str×Sh=>if p.1=x then (p.1,s) else p)=(·.1):=by
   funext p
   show (if p.1=x then (p.1,s) else p).1=p.1
   split<;>rfl
  rw[this];exact h
 .rename_i hn
  rw[Q2];refine List.nodup_append.mpr ⟨h,List.pairwise_singleton _ _,fun a ha b hb e=>?_⟩;have e2:b=x:=Pz.mp hb;rw[e,e2]at ha;obtain⟨p,mp,e3⟩:=Ra.mp ha;exact hn (List.any_eq_true.mpr ⟨p,mp,Ub e3⟩)
theorem Cz{l:List (Str×Sh)}{x:Str}{s:Sh}{Q:T->Prop}(h:l.length<=100)(q:Q (.dct (Zg (putD l x s)))):on (putAt (.dct (Zg l)) (.str x) s.t) Q:=by
 have:=sizeLine_eq;refine Ya (a:=.dct (P4 (Zg l) (.inr x) s.t)) ?_ (by rw[Zzi];exact q);show (if (Zg l).length<sizeLine then some (T.dct (P4 (Zg l) (.inr x) s.t)) else none)=_;rw[if_pos (by unfold Zg;rw[Zn];omega)]
def OkF:Sh->Prop
 | .recd ps ss=>ps.length<=8/\(∀p∈ps,OkP p)/\ss.length<=4/\∀u∈ss,u∈Qa
 | .cho ps ss _=>ps.length<=8/\(∀p∈ps,OkP p)/\ss.length<=4/\∀u∈ss,u∈Qa
 | s=>S5 s
theorem okF_pl{s:Sh}(h:S5 s):OkF s:=by cases s<;>first | exact h | exact h.elim
theorem Ai{f:Pt->T}{pt:T->P->(Option T->P->Prop)->Prop}(st:∀p s0 K,K (some (.int p.n)) [.f (f p)]->pt (f p) [s0] K){ps:List Pt}{Q:ZZ->P->Prop}{s0:Sl}(q:∀s,Q ((ps.map (·.n)).map .int) [s]):Uc pt (ps.map f) [] [s0] Q:=by
 refine Gh (fun rest acc p=>∃(s0:Sl) (qs rs:List Pt),p=[s0]/\rest=qs.map f/\acc=(rs.map (·.n)).map .int/\rs++qs=ps) ⟨s0,ps,[],rfl,rfl,rfl,rfl⟩ (fun x r acc p K hi hk _=>?_) fun acc p hi=>?_
 .obtain⟨s0,qs,rs,rfl,er,rfl,e⟩:=hi;cases qs with
  | nil=>cases er
  | cons y qs =>
  cases er;exact st y s0 K (hk _ _ ⟨_,qs,rs++[y],rfl,rfl,by rw[Q2,Q2];rfl,by rw[<-e,ZE];rfl⟩)
 .obtain⟨s0,qs,rs,rfl,er,rfl,e⟩:=hi;cases qs with
  | cons _ _=>cases er
  | nil =>
  rw[XZ]at e;subst e;exact q s0
theorem Zxz{pt:T->P->(Option T->P->Prop)->Prop}(st:∀p s0 K,K (some (Pt.a p)) [.f (Pt.t p)]->pt (Pt.t p) [s0] K){ps:List Pt}{Q:ZZ->P->Prop}{s0:Sl}(q:∀s,Q (ps.map Pt.a) [s]):Uc pt (ps.map Pt.t) [] [s0] Q:=by
 refine Gh (fun rest acc p=>∃(s0:Sl) (qs rs:List Pt),p=[s0]/\rest=qs.map Pt.t/\acc=rs.map Pt.a/\rs++qs=ps) ⟨s0,ps,[],rfl,rfl,rfl,rfl⟩ (fun x r acc p K hi hk _=>?_) fun acc p hi=>?_
 .obtain⟨s0,qs,rs,rfl,er,rfl,e⟩:=hi;cases qs with
  | nil=>cases er
  | cons y qs =>
  cases er;exact st y s0 K (hk _ _ ⟨_,qs,rs++[y],rfl,rfl,by rw[Q2];rfl,by rw[<-e,ZE];rfl⟩)
 .obtain⟨s0,qs,rs,rfl,er,rfl,e⟩:=hi;cases qs with
  | cons _ _=>cases er
  | nil =>
  rw[XZ]at e;subst e;exact q s0
def OkL(l:List (Str×Sh)):Prop:=(∀q∈l,q.1∈V2/\OkF q.2)/\(l.map (·.1)).Nodup
theorem OkL.put{l:List (Str×Sh)}{x:Str}{s:Sh}(h:OkL l)(hx:x∈V2)(hs:OkF s):OkL (putD l x s):=⟨L7 h.1 ⟨hx,hs⟩,ur h.2⟩
theorem uc{l:List (Str×Sh)}{x:Str}{s:Sh}:putD l x s≠[]:=fun z=>by
 unfold putD at z
 split at z
 .rename_i h
  rw[List.map_eq_nil_iff.mp z]at h;cases h
 .exact absurd z (by simp)
def Zqm(C:Cs):Prop:=∀{zs:ZL} {i k n:Int},zs≠[]->0<=n->n<700000000->on (C "_law_make" [.o (feed zs i k n)]) fun x=>∃(r:Str) (l:List (Str×Sh)) (i' k' n':Int),r∈V2/\OkL l/\l≠[]/\l.length<=20/\n<=n'/\n'<=n+2000/\x=(.f (.tup [.str r,.dct (Zg l)]),[feed zs i' k' n'])
theorem o9{w:W}(hd:Nb w.C)(hn:Hj w.C)(hp:cv w.C)(hq:cy w.C)(hk:Xj w.C){zs:ZL}{i0 k0 n:Int}(ne:zs≠[])(n0:0<=n)(n1:n<700000000) :
  wF Gz w [.o (feed zs i0 k0 n)] fun x=>∃(r:Str) (l:List (Str×Sh)) (i' k' n':Int),r∈V2/\OkL l/\l≠[]/\l.length<=20/\n<=n'/\n'<=n+2000/\x=(.f (.tup [.str r,.dct (Zg l)]),[feed zs i' k' n']):=by
 refine Yn rfl fun D rt _=>?_;refine Y4 hd ne n0 (by omega) (by omega) (by omega) fun r0 i k a0 a1=>?_;refine Zj (hn (m:=2+r0) ne (by omega) (by omega) (by omega) (by omega)) fun x ⟨ss,i,k,sl,sm,e⟩=>?_;subst e;obtain⟨cs,ec,cm,cl⟩:=Io T.str ss (some 1) none;refine Mn (fun rest p=>∃(i k n':Int) (l:List (Str×Sh)) (s1 s3 s4 s5 s6 s7 s8:Sl),p=[.o (feed zs i k n'),s1,.o (.dct (Zg l)),s3,s4,s5,s6,s7,s8]/\OF s1 (.lst (ss.map .str))/\(∀x∈rest,∃s∈ss,x=.str s)/\OkL l/\(∀q∈l,OkC q.2)/\l.length+rest.length<=8/\n<=n'/\n'+60 * (rest.length:Nat)<=n+500) ⟨_,_,_,[],_,_,_,_,_,_,_,rfl,.inl rfl,fun x mx=>?_,⟨fun _ m=>absurd m Vy,List.Pairwise.nil⟩,fun _ m=>absurd m Vy, ?_,by omega, ?_⟩ (fun x r p D' hi nx _=>?_) fun p hi=>?_
 .rw[ec]at mx;obtain⟨s,ms,rfl⟩:=Ra.mp mx;exact⟨s,cm s ms,rfl⟩
 .rw[ec,Zn];show 0+cs.length<=8;omega
 .rw[ec,Zn];omega
 .obtain⟨i,k,n',l,s1,s3,s4,s5,s6,s7,s8,rfl,of,h1,h2,h2',h3,h4,h5⟩:=hi;obtain⟨nm,mn,rfl⟩:=h1 x Ye;rw[Yo]at h3 h5;have h1':∀y∈r,∃s∈ss,y=T.str s:=fun y my=>h1 y (Vi _ my);refine Y4 hd ne (by omega) (by omega) (by omega) (by omega) fun way i k r1 r2=>?_;refine Yc (b:=decide (way<4)) (fun _=>?_) fun _=>?_
  .rcases of with rfl | rfl
   all_goals
    refine Zj (hp ne (by omega) (by omega) (by omega) (by omega) sm) fun x ⟨s,i,k,n2,os,b1,b2,e⟩=>?_;subst e;refine Cz (by omega) ?_;exact nx _ ⟨_,_,n2,putD l nm s,_,_,_,_,_,_,_,rfl,.inr rfl,h1',h2.put (sm nm mn) (okF_pl os),L7 h2' (.inl os),by have:=Cq (l:=l) (x:=nm) (s:=s);omega,by omega,by omega⟩
  .refine Yc (b:=decide (way=4)) (fun _=>?_) fun _=>?_
   .rcases of with rfl | rfl
    all_goals
     refine Zj (hq (l:=[]) ne (by omega) (by omega) (by omega) (by omega) sm fun _ m=>absurd m Vy) fun x ⟨ps,i,k,n2,pl,pm,b1,b2,e⟩=>?_;subst e;refine Zxz (fun p s0 K hk=>hk) fun s=>?_;refine Ai (f:=Pt.a) (fun p s0 K hk=>hk) fun s=>?_;refine Zj (hk (us:=ps.map (·.n)) ne (by omega) (by omega)) fun x ⟨sk,i,k,n3,kl,km,c1,c2,e⟩=>?_;subst e;refine Y4 hd ne (by omega) (by omega) (by omega) (by omega) fun r3 i k d0 d1=>?_;refine Cz (s:=.cho ps sk (decide (r3=0))) (by omega) ?_;exact nx _ ⟨_,_,n3+1,putD l nm (.cho ps sk (decide (r3=0))),_,_,_,_,_,_,_,rfl,.inr rfl,h1',h2.put (sm nm mn) ⟨pl,pm,kl,km⟩,L7 h2' (.inr ⟨_,_,_,rfl⟩),by have:=Cq (l:=l) (x:=nm) (s:=.cho ps sk (decide (r3=0)));omega,by omega,by omega⟩
   .exact nx _ ⟨_,_,n'+1,l,_,_,_,_,_,_,_,rfl,of,h1',h2,h2',by omega,by omega,by omega⟩
 .obtain⟨i,k,n',l,s1,s3,s4,s5,s6,s7,s8,rfl,of,h1,h2,h2',h3,h4,h5⟩:=hi;rw[List.length_nil]at h3 h5
  have last:∀(i k n2:Int) (m:List (Str×Sh)) (t3 t4 t5 t6 t7 t8:Sl),OkL m->m≠[]->m.length<=20->n<=n2->n2<=n+1500->wS w (Jp [.o (feed zs i0 k0 n)]) (Uh 5 Gv) [.o (feed zs i k n2),.f (.lst (ss.map .str)),.o (.dct (Zg m)),t3,t4,t5,t6,t7,t8] D:=fun i k n2 m t3 t4 t5 t6 t7 t8 om mn ml b1 b2=>by
   refine Y4 hd ne (by omega) (by omega) (by rw[Zn];omega) (by rw[Zn];omega) fun r i k r1 r2=>?_;rw[Zn]at r2;refine Y4 hd ne (by omega) (by omega) (by omega) (by omega) fun r3 i k d0 d1=>?_;refine mulP (a:=r) ⟨by omega,by omega⟩ ?_;refine Cy (ss:=ss) (r:=r * (if decide (r3=0)=true then 1 else 0)) (by split<;>omega) (by split<;>omega) fun c mc=>?_;exact rt _ _ ⟨c,m,i,k,n2+1+1,sm c mc,om,mn,ml,by omega,by omega,rfl⟩
  have two:Ef (fun x s D=>on (asg (.v 3) x s) fun s1=>wS w (Jp [.o (feed zs i0 k0 n)]) (lpB (Uh 4 Gv)) s1 D) (ss.map T.str) [.o (feed zs i k n'),.f (.lst (ss.map .str)),.o (.dct (Zg l)),s3,s4,s5,s6,.o (.dct (Zg l)),s8] ⟨fun q=>wS w (Jp [.o (feed zs i0 k0 n)]) (Uh 5 Gv) q D,D.rt,D.bk,D.ct⟩:=by
   refine Mn (fun rest p=>∃(i k n2:Int) (m:List (Str×Sh)) (t3 t4 t5 t6 t7 t8:Sl),p=[.o (feed zs i k n2),.f (.lst (ss.map .str)),.o (.dct (Zg m)),t3,t4,t5,t6,t7,t8]/\OF t7 (.dct (Zg l))/\(∀x∈rest,∃s∈ss,x=.str s)/\OkL m/\(m≠[]\/rest.length=ss.length)/\m.length+rest.length<=20/\n<=n2/\n2+60 * (rest.length:Nat)<=n+1500) ⟨_,_,_,l,_,_,_,_,_,_,rfl,.inl rfl,fun x mx=>?_,h2,.inr (Zn ..), ?_,h4, ?_⟩ (fun x r p D' hi nx _=>?_) fun p hi=>?_
   .obtain⟨s,ms,rfl⟩:=Ra.mp mx;exact⟨s,ms,rfl⟩
   .rw[Zn];omega
   .rw[Zn];omega
   .obtain⟨i,k,n2,m,t3,t4,t5,t6,t7,t8,rfl,of7,g1,g2,g6,g3,g4,g5⟩:=hi;obtain⟨nm,mn,rfl⟩:=g1 x Ye;rw[Yo]at g3 g5;have g1':∀y∈r,∃s∈ss,y=T.str s:=fun y my=>g1 y (Vi _ my);refine Yc (b:=!(Y2 (Zg m) (.inr nm)).isSome) (fun _=>?_) fun hb=>?_
    .rcases of7 with rfl | rfl
     all_goals
      refine Zj (hq (l:=l) ne (by omega) (by omega) (by omega) (by omega) sm h2') fun x ⟨ps,i,k,n3,pl,pm,b1,b2,e⟩=>?_;subst e;refine Ai (f:=Pt.t) (fun p s0 K hk=>hk) fun s=>?_;refine Zj (hk (us:=ps.map (·.n)) ne (by omega) (by omega)) fun x ⟨sk,i,k,n4,kl,km,c1,c2,e⟩=>?_;subst e;refine Cz (s:=.recd ps sk) (by omega) ?_;exact nx _ ⟨_,_,n4,putD m nm (.recd ps sk),_,_,_,_,_,_,rfl,.inr rfl,g1',g2.put (sm nm mn) ⟨pl,pm,kl,km⟩,.inl uc,by have:=Cq (l:=m) (x:=nm) (s:=.recd ps sk);omega,by omega,by omega⟩
    .exact nx _ ⟨_,_,n2,m,_,_,_,_,_,_,rfl,of7,g1',g2,.inl (fun z=>by rw[z]at hb;cases hb),by omega,by omega,by omega⟩
   .obtain⟨i,k,n2,m,t3,t4,t5,t6,t7,t8,rfl,of7,g1,g2,g6,g3,g4,g5⟩:=hi;rw[List.length_nil]at g3 g5;exact last i k n2 m t3 t4 t5 t6 t7 t8 g2 (g6.resolve_right fun z=>by rw[List.length_nil]at z;omega) (by omega) (by omega) (by omega)
  rcases of with rfl | rfl
  .exact two
  .exact two
end K21
namespace K21
open PySem PySem.Spec PyProof.Rows L2 PV SPL
theorem S7{ws:ZD}{Q:Sl->Prop}(h:(ws.map (·.length)).sum+ws.length<=1000000)(q:Q (.f (.str (jn ws)))):on (Zx0 " " [.lst (ws.map .str)]) Q:=by
 refine Ya ?_ q;show (Uw (ws.map .str)).bind _=_;rw[PV.strs_map];show (if (ws.map (·.length)).sum+ws.length * 1<=16777216 then _ else _)=_;rw[if_pos (by omega)];rfl
def Bq(i:Int):Prop:=i.natAbs<10 ^ 19
theorem Bq.len{i:Int}(h:Bq i):(sI i).length<=20:=vn h
theorem Gp{i:Int}{Q:Sl->Prop}(h:Bq i)(q:Q (.f (.str (sI i)))):on (pStr [.int i]) Q:=Ni (Dg (Nat.le_of_lt h)).2 q
def Num(i:Int):Prop:=1<=i/\i<=999
theorem Num.sml{i:Int}(h:Num i):Bq i:=by unfold Num at h;unfold Bq;omega
theorem gm{i:Int}(h:i∈Q1):Num i:=(show ∀i∈Q1,1<=i/\i<=999 by decide +kernel) i h
theorem Pl{i:Int}(h:i∈Qa):Num i:=(show ∀i∈Qa,1<=i/\i<=999 by decide +kernel) i h
noncomputable def LET:Str:="abcdefghijklmnopqrstuvwxyz"
def cq : Str := " !\"#$&'()*+,-./0123456789:;<=>?@ABCDEFGHIJKLMNOPQRSTUVWXYZ[\\]^_`abcdefghijklmnopqrstuvwxyz{|}~"
theorem Z4{i:Int}(h:Xk i):Bq i:=by unfold Xk at h;unfold Bq;omega
theorem Zs{x:Str}(h:x∈V2):1<=x.length/\x.length<=8:=(show ∀x∈V2,1<=x.length/\x.length<=8 by decide +kernel) x h
theorem N1{x:Str}(h:x∈V2):Gk x:=(show ∀x∈V2,32 ∉ cp x by decide +kernel) x h
theorem fst2{a x:Str}(h:a.length+x.length<=1000):Gd Str.empty [some a,none] [.str x]=some (a++x):=by
 have sl:=sizeLine_eq;have l1:(Str.empty++a).length=a.length:=by simp[Str.length,Str.cps_append,Str.empty]
 have l2:(Str.empty++a++x).length=a.length+x.length:=by rw[<-Zv,Zu,Yl,Zv,Zv,l1]
 show (if (Str.empty++a).length<=sizeLine then (if x.length<=sizeLine then some x else none).bind _ else none)=_;rw[if_pos (by omega),if_pos (by omega)];show (if (Str.empty++a++x).length<=sizeLine then some (Str.empty++a++x) else none)=_;rw[if_pos (by omega)]
 congr 1
 exact Va (by rw[Zu,Zu,Zu];rfl)
theorem fst2i{a:Str}{i:Int}(ha:a.length<=500)(h:Bq i):Gd Str.empty [some a,none] [.int i]=some (a++sI i):=by
 have sl:=sizeLine_eq;have:=h.len;have l1:(Str.empty++a).length=a.length:=by simp[Str.length,Str.cps_append,Str.empty]
 have l2:(Str.empty++a++sI i).length=a.length+(sI i).length:=by rw[<-Zv,Zu,Yl,Zv,Zv,l1]
 show (if (Str.empty++a).length<=sizeLine then (if i.natAbs.log2<1920 then some (sI i) else none).bind _ else none)=_;rw[if_pos (by omega),if_pos (Dg (Nat.le_of_lt h)).2];show (if (Str.empty++a++sI i).length<=sizeLine then some (Str.empty++a++sI i) else none)=_;rw[if_pos (by omega)]
 congr 1
 exact Va (by rw[Zu,Zu,Zu];rfl)
theorem Oi{out b z:Str}{r:List (Option Str)}{ts:ZZ}(h:Gd out r ts=some z):∀(r':List (Option Str)) (Xs:ZZ),Gd out (r++r') (ts++Xs)=Gd z r' Xs:=by
 intro r' Xs
 induction r generalizing out ts with
 | nil=>cases ts with
  | nil=>cases h;rfl
  | cons t ts=>cases h
 | cons a r ih =>
  cases a with
  | some y =>
   have h:(if (out++y).length<=sizeLine then Gd (out++y) r ts else none)=some z:=h;show (if (out++y).length<=sizeLine then Gd (out++y) (r++r') (ts++Xs) else none)=_
   split at h
   .rename_i c;rw[if_pos c];exact ih h
   .cases h
  | none =>
   cases ts with
   | nil=>cases h
   | cons t ts =>
    obtain⟨y,e,h⟩:=ZO.mp (show (Zzv t).bind _=some z from h);show (Zzv t).bind _=_;rw[e];show (if (out++y).length<=sizeLine then Gd (out++y) (r++r') (ts++Xs) else none)=_
    split at h
    .rename_i c;rw[if_pos c];exact ih h
    .cases h
theorem fst3{a x b:Str}(h:a.length+x.length+b.length<=1000):Gd Str.empty [some a,none,some b] [.str x]=some (a++x++b):=by
 have sl:=sizeLine_eq;have:=Oi (b:=b) (fst2 (a:=a) (x:=x) (by omega)) [some b] [];refine Eq.trans this ?_;show (if (a++x++b).length<=sizeLine then some (a++x++b) else none)=_;rw[if_pos (by rw[<-Zv,Zu,Zu,Yl,Yl,Zv,Zv,Zv];omega)]
theorem fst4{a x b y:Str}(h:a.length+x.length+b.length+y.length<=1000):Gd Str.empty [some a,none,some b,none] [.str x,.str y]=some (a++x++b++y):=by
 have sl:=sizeLine_eq;have:=Oi (b:=b) (fst3 (a:=a) (x:=x) (b:=b) (by omega)) [none] [.str y];refine Eq.trans this ?_;show (if y.length<=sizeLine then some y else none).bind _=_;rw[if_pos (by omega)];show (if (a++x++b++y).length<=sizeLine then some (a++x++b++y) else none)=_;rw[if_pos (by rw[<-Zv,Zu,Zu,Zu,Yl,Yl,Yl,Zv,Zv,Zv,Zv];omega)]
theorem mj{row:List (Option Str)}{ts:ZZ}{z:Str}{Q:Sl->Prop}(e:Gd Str.empty row ts=some z)(q:Q (.f (.str z))):on (pFst row ts) Q:=Ya (by show (Gd Str.empty row ts).map _=_;rw[e];rfl) q
theorem zp{Z:Type}{f g:Z->T}{body:T->P->(Option T->P->Prop)->Prop}{xs:List Z}{p:P}{Q:ZZ->P->Prop}(St:P->Prop)(h0:St p)(st:∀x∈xs,∀p K,St p->(∀p',St p'->K (some (g x)) p')->body (f x) p K)(q:∀p,St p->Q (xs.map g) p):Uc body (xs.map f) [] p Q:=by
 refine Gh (fun rest acc p=>∃(qs rs:List Z),St p/\rest=qs.map f/\acc=rs.map g/\rs++qs=xs) ⟨xs,[],h0,rfl,rfl,rfl⟩ (fun x r acc p K hi hk _=>?_) fun acc p hi=>?_
 .obtain⟨qs,rs,hs,er,rfl,e⟩:=hi;cases qs with
  | nil=>cases er
  | cons y qs =>
  cases er;exact st y (by rw[<-e];exact Ta _ Ye) p K hs fun p' Q6=>hk _ _ ⟨qs,rs++[y],Q6,rfl,by rw[Q2];rfl,by rw[<-e,ZE];rfl⟩
 .obtain⟨qs,rs,hs,er,rfl,e⟩:=hi;cases qs with
  | cons _ _=>cases er
  | nil =>
  rw[XZ]at e;subst e;exact q p hs
noncomputable def dW:Dl->Str
 | .must => "must"
 | .none => "none"
 | .truth b=>if b=true then "truth yes" else "truth no"
 | .whole i=>("whole " : Str)++sI i
 | .text x=>("text " : Str)++x
noncomputable def Um(p:Pt):Str:=jn ["field",sI p.n,p.nm,p.ty,dW p.d]
noncomputable def Gc(p:Pt):Str:=jn ["arm",sI p.n,p.nm,p.ty]
noncomputable def Vx(ss:ZL):Str:=jn ("struck" :: ss.map sI)
noncomputable def qz:Sh->ZD
 | .whole a b=>["whole",sI a,sI b]
 | .truth=>["truth"]
 | .text n=>["text",sI n]
 | .many w nm n=>[w,nm,sI n]
 | _=>[]
noncomputable def opn(o:Bool):Str:=if o=true then "open" else "closed"
noncomputable def Z6(nm:Str):Sh->ZD
 | .recd ps ss=>jn ["form",nm,"record"]::(ps.map Um++[Vx ss])
 | .cho ps ss o=>jn ["form",nm,"choice",opn o]::(ps.map Gc++[Vx ss])
 | s=>[jn ("form" :: nm::qz s)]
def c0:Dl->Prop
 | .whole i=>Xk i
 | .text x=>x.length<=200/\∀c∈cp x,c∈cp cq
 | _=>True
theorem Hl{x:Str}(h:x∈TXS):x.length<=200/\∀c∈cp x,c∈cp cq:=(show ∀y∈TXS,y.length<=200/\∀c∈cp y,c∈cp cq by decide +kernel) x h
theorem ix_to(m:Int)(n:Nat):(Builtin.Str.strSliceIndices none (some m) 1 n).length<=n:=by
 unfold Builtin.Str.strSliceIndices sliceRange;simp only[show (1:Int)>0 by decide,if_true,Zn,XX]<;>(split<;>(try split)<;>(try split)<;>(try simp only[Int.ediv_one])<;>omega)
theorem Wl{x:Str}{m:Int}:(∀c∈cp (Txt.slice x none (some m)),c∈cp x)/\(Txt.slice x none (some m)).length<=x.length:=by
 have h:=ix_to m x.length;unfold Txt.slice
 split
 .exact⟨fun _ m=>m,Z5 _⟩
 .refine⟨fun c mc=>?_, ?_⟩
  .have mc:c∈(List.filterMap (fun i=>x.cps[i]?) (Builtin.Str.strSliceIndices none (some m) 1 x.length)).toArray.toList:=mc;rw[List.toList_toArray]at mc;obtain⟨i,_,e⟩:=List.mem_filterMap.mp mc;rw[<-Array.getElem?_toList]at e;exact M0g e
  .show (List.filterMap _ _).toArray.size<=_;rw[Jz];exact Ut (List.length_filterMap_le _ _) h
theorem okE{d:Dl}(h:OkD d):c0 d:=by
 cases d with
 | whole i=>exact h
 | text x =>
  obtain⟨y,m,k,rfl⟩:=h;exact⟨Ut Wl.2 (Hl m).1,fun c mc=>(Hl m).2 c (Wl.1 c mc)⟩
 | _=>trivial
theorem Ke{d:Dl}(h:c0 d):(dW d).length<=300:=by
 cases d with
 | whole i =>
  have:=(Z4 h).len;show (("whole " : Str)++sI i).length<=300;rw[<-Zv,Zu,Yl,Zv,Zv];show 6+_<=_;omega
 | text x =>
  have h:x.length<=200:=h.1;show (("text " : Str)++x).length<=300;rw[<-Zv,Zu,Yl,Zv,Zv];show 5+_<=_;omega
 | must=>exact by decide +kernel
 | none=>exact by decide +kernel
 | truth b=>cases b<;>exact by decide +kernel
def Zqn(C:Cs):Prop:=∀{d:Dl},c0 d->on (C "shown_default" [.f d.t]) fun x=>x=(.f (.str (dW d)),[])
theorem Nu{w:W}{d:Dl}(h:c0 d):wF Y0 w [.f d.t] fun x=>x=(.f (.str (dW d)),[]):=by
 refine Yn rfl fun D rt _=>?_;cases d with
 | must=>exact rt _ _ rfl
 | none=>exact rt _ _ rfl
 | truth b=>cases b<;>exact rt _ _ rfl
 | whole i=>exact mj (fst2i (by decide +kernel) (Z4 h)) (rt _ _ rfl)
 | text x=>exact mj (fst2 (by have h:x.length<=200:=h.1;show 5+_<=_;omega)) (rt _ _ rfl)
def Hw(C:Cs):Prop:=∀{d:Dl},c0 d->on (C "_law_default_words" [.f d.t]) fun x=>x=(.f (.str (dW d)),[])
theorem Cu{w:W}{d:Dl}(h:c0 d):wF Yw w [.f d.t] fun x=>x=(.f (.str (dW d)),[]):=by
 have sl:=sizeLine_eq;refine Yn rfl fun D rt _=>?_;cases d with
 | must=>exact rt _ _ rfl
 | none=>exact rt _ _ rfl
 | truth b=>cases b<;>exact rt _ _ rfl
 | whole i =>
  have:=(Z4 h).len;refine Gp (Z4 h) ?_;exact V0 (by show 6+_<=_;omega) (rt _ _ rfl)
 | text x =>
  have h:x.length<=200:=h.1;exact V0 (by show 5+_<=_;omega) (rt _ _ rfl)
structure Lw(p:Pt):Prop where
 n:Num p.n
 nm:p.nm∈V2
 ty:p.ty∈V2
 d:c0 p.d
theorem okQ{p:Pt}(h:OkP p):Lw p:=⟨gm h.1,h.2.1,h.2.2.1,okE h.2.2.2⟩
def Zqt(C:Cs):Prop:=∀{p:Pt},Lw p->on (C "shown_field" [.f p.t]) fun x=>x=(.f (.str (Um p)),[])
theorem T8{w:W}(hd:Zqn w.C){p:Pt}(h:Lw p):wF Vl w [.f p.t] fun x=>x=(.f (.str (Um p)),[]):=by
 have sl:=sizeLine_eq;refine Yn rfl fun D rt _=>?_;refine Gp h.n.sml ?_;refine Zj (hd h.d) fun x e=>?_;subst e;have:=h.n.sml.len;have:=(Zs h.nm).2;have:=(Zs h.ty).2;have:=Ke h.d;refine S7 (ws:=["field",sI p.n,p.nm,p.ty,dW p.d]) ?_ (rt _ _ rfl);simp only[Vm,List.map_nil,List.sum_cons,List.sum_nil,Yo,List.length_nil];have:("field" : Str).length=5:=rfl;omega
def Zql(C:Cs):Prop:=∀{p:Pt},Lw p->on (C "shown_arm" [.f p.a]) fun x=>x=(.f (.str (Gc p)),[])
theorem Li{w:W}{p:Pt}(h:Lw p):wF Ua w [.f p.a] fun x=>x=(.f (.str (Gc p)),[]):=by
 have sl:=sizeLine_eq;refine Yn rfl fun D rt _=>?_;refine Gp h.n.sml ?_;have:=h.n.sml.len;have:=(Zs h.nm).2;have:=(Zs h.ty).2;refine S7 (ws:=["arm",sI p.n,p.nm,p.ty]) ?_ (rt _ _ rfl);simp only[Vm,List.map_nil,List.sum_cons,List.sum_nil,Yo,List.length_nil];have:("arm" : Str).length=3:=rfl;omega
theorem Ff{ss:ZL}(h:∀u∈ss,Bq u)(hl:ss.length<=4):((("struck" : Str)::ss.map sI).map (·.length)).sum+(("struck" : Str)::ss.map sI).length<=200:=by
 have:∀us:ZL,(∀u∈us,Bq u)->((us.map sI).map (·.length)).sum<=20 * us.length:=fun us=>by
  induction us with
  | nil=>exact fun _=>Z5 _
  | cons u us ih =>
   intro h;have h1:=(h u Ye).len;have h2:=ih fun v m=>h v (Vi _ m);simp only[Vm,List.sum_cons,Yo];omega
 have:=this ss h;rw[Vm,List.sum_cons,Yo,Zn];have:("struck" : Str).length=6:=rfl;omega
theorem words_of{pt:T->P->(Option T->P->Prop)->Prop}(st:∀i s0 K,Bq i->K (some (.str (sI i))) [.f (.int i)]->pt (.int i) [s0] K){ss:ZL}(hs:∀u∈ss,Bq u){Q:ZZ->P->Prop}{s0:Sl}(q:∀s,Q ((ss.map sI).map .str) [s]):Uc pt (ss.map .int) [] [s0] Q:=by
 refine zp (g:=fun i=>.str (sI i)) (fun p=>∃s,p=[s]) ⟨_,rfl⟩ (fun i mi p K hp hk=>?_) fun p hp=>?_
 .obtain⟨s,rfl⟩:=hp;exact st i s K (hs i mi) (hk _ ⟨_,rfl⟩)
 .obtain⟨s,rfl⟩:=hp;have:=q s;rw[List.map_map]at this;exact this
def Zqf(C:Cs):Prop:=∀{ss:ZL},ss.length<=4->(∀u∈ss,Num u)->on (C "shown_struck" [.f (.tup (ss.map .int))]) fun x=>x=(.f (.str (Vx ss)),[])
theorem Be{w:W}{ss:ZL}(hl:ss.length<=4)(hn:∀u∈ss,Num u):wF Vv w [.f (.tup (ss.map .int))] fun x=>x=(.f (.str (Vx ss)),[]):=by
 have sl:=sizeLine_eq;have hs:∀u∈ss,Bq u:=fun u m=>(hn u m).sml;refine Yn rfl fun D rt _=>?_;refine words_of (fun i s0 K h hk=>Gp h hk) hs fun s=>?_;refine Rf (by rw[Zn,Zn];show 1+ss.length<=_;omega) ?_;exact S7 (ws:="struck" :: ss.map sI) (by have:=Ff hs hl;omega) (rt _ _ rfl)
def Q9:Sh->Prop
 | .recd ps ss=>ps.length<=8/\(∀p∈ps,Lw p)/\ss.length<=4/\∀u∈ss,Num u
 | .cho ps ss _=>ps.length<=8/\(∀p∈ps,Lw p)/\ss.length<=4/\∀u∈ss,Num u
 | .whole a b=>Xk a/\Xk b
 | .truth=>True
 | .text n=>0<=n/\n<=200
 | .many w nm n=>(w = "row" \/ w = "map")/\nm∈V2/\0<=n/\n<=20
theorem okS{s:Sh}(h:OkF s):Q9 s:=by
 cases s with
 | recd ps ss=>exact⟨h.1,fun p m=>okQ (h.2.1 p m),h.2.2.1,fun u m=>Pl (h.2.2.2 u m)⟩
 | cho ps ss o=>exact⟨h.1,fun p m=>okQ (h.2.1 p m),h.2.2.1,fun u m=>Pl (h.2.2.2 u m)⟩
 | _=>exact h
theorem Yv{n:Int}(h:0<=n/\n<=200):Bq n:=by unfold Bq;omega
theorem Tv{a b:Str}{as bs r:ZD}(h:cp (jn (a::as))=cp (jn (b::bs))):jn (a::(as++r))=jn (b::(bs++r)):=by
 refine Va ?_;rw[Yi,Yi]at h;rw[Yi,Yi,List.flatMap_append,List.flatMap_append, <-ZE, <-ZE,h]
theorem e_rec(nm:Str):("form " : Str)++nm ++ " record" = jn ["form",nm,"record"]:=Va (by rw[Zu,Zu,Yi];simp;exact rfl)
theorem e_cho(nm o:Str):("form " : Str)++nm ++ " choice " ++ o=jn ["form",nm,"choice",o]:=Va (by rw[Zu,Zu,Zu,Yi];simp;exact rfl)
theorem Ko(nm tag:Str):("form " : Str)++nm ++ " " ++ tag=jn ["form",nm,tag]:=Va (by rw[Zu,Zu,Zu,Yi];simp;exact rfl)
theorem m7(r:Str):("make " : Str)++r=jn ["make",r]:=Va (by rw[Zu,Yi];simp;exact rfl)
def cn(C:Cs):Prop:=∀{nm:Str} {s:Sh},nm∈V2->Q9 s->on (C "shown_form" [.f (.str nm),.f s.t]) fun x=>x=(.o (.lst ((Z6 nm s).map .str)),[])
theorem R3{w:W}(hf:Zqt w.C)(ha:Zql w.C)(hk:Zqf w.C){nm:Str}{s:Sh}(hn:nm∈V2)(hs:Q9 s):wF V5 w [.f (.str nm),.f s.t] fun x=>x=(.o (.lst ((Z6 nm s).map .str)),[]):=by
 have sl:=sizeLine_eq;have ln:=(Zs hn).2;refine Yn rfl fun D rt _=>?_;have l4:("form" : Str).length=4:=rfl;have l6:("whole" : Str).length=5:=rfl;cases s with
 | whole a b =>
  refine Gp (Z4 hs.1) ?_;refine Gp (Z4 hs.2) ?_;have:=(Z4 hs.1).len;have:=(Z4 hs.2).len;exact S7 (ws:=["form",nm,"whole",sI a,sI b]) (by simp only[Vm,List.map_nil,List.sum_cons,List.sum_nil,Yo,List.length_nil];omega) (rt _ _ rfl)
 | truth=>exact S7 (ws:=["form",nm,"truth"]) (by simp only[Vm,List.map_nil,List.sum_cons,List.sum_nil,Yo,List.length_nil];show 4+(nm.length+(5+0))+_<=_;omega) (rt _ _ rfl)
 | text n =>
  refine Gp (Yv hs) ?_;have:=(Yv hs).len;exact S7 (ws:=["form",nm,"text",sI n]) (by simp only[Vm,List.map_nil,List.sum_cons,List.sum_nil,Yo,List.length_nil];show 4+(nm.length+(4+_))+_<=_;omega) (rt _ _ rfl)
 | many o ty n =>
  obtain⟨ho,ht,hn0,hn1⟩:=hs;have S9:Bq n:=Yv ⟨hn0,by omega⟩;have:=S9.len;have:=(Zs ht).2;rcases ho with rfl | rfl
  all_goals
   refine Gp S9 ?_
  .exact S7 (ws:=["form",nm,"row",ty,sI n]) (by simp only[Vm,List.map_nil,List.sum_cons,List.sum_nil,Yo,List.length_nil];show 4+(nm.length+(3+_))+_<=_;omega) (rt _ _ rfl)
  .exact S7 (ws:=["form",nm,"map",ty,sI n]) (by simp only[Vm,List.map_nil,List.sum_cons,List.sum_nil,Yo,List.length_nil];show 4+(nm.length+(3+_))+_<=_;omega) (rt _ _ rfl)
 | recd ps ss =>
  obtain⟨h1,h2,h3,h4⟩:=hs;refine mj (fst3 (a:="form ") (x:=nm) (b:=" record") (by show 5+nm.length+7<=_;omega)) ?_;refine zp (g:=fun p=>.str (Um p)) (fun p=>∃s,p=[s]) ⟨_,rfl⟩ (fun q mq p K hp hk=>?_) fun p hp=>?_
  .obtain⟨s,rfl⟩:=hp;refine Zj (hf (h2 q mq)) fun x e=>?_;subst e;exact hk _ ⟨_,rfl⟩
  .obtain⟨s,rfl⟩:=hp;refine Rf (by rw[Zn];show 1+ps.length<=_;omega) ?_;refine Zj (hk h3 h4) fun x e=>?_;subst e;refine Rf (by rw[Yl,Zn];show 1+ps.length+1<=_;omega) ?_;refine rt _ _ ?_;show (Sl.o (T.lst (([T.str _]++ps.map fun p=>.str (Um p))++[T.str _])),_)=_;rw[e_rec];show _=(Sl.o (T.lst ((jn ["form",nm,"record"]::(ps.map Um++[Vx ss])).map .str)),_);rw[Vm,Q2,List.map_map]
   rfl
 | cho ps ss o =>
  obtain⟨h1,h2,h3,h4⟩:=hs;cases o
  all_goals
   refine mj (fst4 (a:="form ") (x:=nm) (b:=" choice ") (by first | (show 5+nm.length+8+6<=1000;omega) | (show 5+nm.length+8+4<=1000;omega))) ?_;refine zp (g:=fun p=>.str (Gc p)) (fun p=>∃s,p=[s]) ⟨_,rfl⟩ (fun q mq p K hp hk=>?_) fun p hp=>?_
   .obtain⟨s,rfl⟩:=hp;refine Zj (ha (h2 q mq)) fun x e=>?_;subst e;exact hk _ ⟨_,rfl⟩
   .obtain⟨s,rfl⟩:=hp;refine Rf (by rw[Zn];show 1+ps.length<=_;omega) ?_;refine Zj (hk h3 h4) fun x e=>?_;subst e;refine Rf (by rw[Yl,Zn];show 1+ps.length+1<=_;omega) ?_;refine rt _ _ ?_;show (Sl.o (T.lst (([T.str _]++ps.map fun p=>.str (Gc p))++[T.str _])),_)=_;rw[e_cho];show _=(Sl.o (T.lst ((jn ["form",nm,"choice",_]::(ps.map Gc++[Vx ss])).map .str)),_);rw[Vm,Q2,List.map_map]
    rfl
noncomputable def Yx(l:List (Str×Sh))(x:Str):Sh:=((l.find? fun p=>decide (p.1=x)).map (·.2)).getD .truth
theorem Jf{x:Str}:∀{l:List (Str×Sh)},x∈l.map (·.1)->(x,Yx l x)∈l/\Y2 (Zg l) (.inr x)=some (Yx l x).t
 | [],m=>absurd m Vy
 | (y,s)::l,m=>by
  by_cases e:y=x
  .subst e;have h:Yx ((y,s)::l) y=s:=by unfold Yx;rw[List.find?_cons_of_pos (by exact Ub rfl)];rfl
   rw[h];exact⟨Ye,by unfold Y2 Zg;rw[Vm,List.find?_cons_of_pos (by exact Ub rfl)];rfl⟩
  .have h:Yx ((y,s)::l) x=Yx l x:=by unfold Yx;rw[List.find?_cons_of_neg (by intro z;exact e (Q0 z))]
   have h2:Y2 (Zg ((y,s)::l)) (.inr x)=Y2 (Zg l) (.inr x):=by
    unfold Y2 Zg;rw[Vm,List.find?_cons_of_neg (by intro z;exact e (Sum.inr.inj (Q0 z)))]
   rw[h,h2];rcases Y6.mp m with m | m
   .exact absurd m.symm e
   .exact⟨Vi _ (Jf m).1,(Jf m).2⟩
structure Qe(l:List (Str×Sh)):Prop where
 m:∀q∈l,q.1∈V2/\Q9 q.2
 nd:(l.map (·.1)).Nodup
 ln:l.length<=20
noncomputable def Z9(l:List (Str×Sh)):ZD:=SRT.Mz (l.map (·.1))
theorem Qe.at{l:List (Str×Sh)}(h:Qe l){x:Str}(m:x∈Z9 l):x∈V2/\Q9 (Yx l x)/\Y2 (Zg l) (.inr x)=some (Yx l x).t:=by
 have m:=(SRT.Z7 _).mem_iff.mp m;obtain⟨h1,h2⟩:=Jf m;exact⟨(h.m _ h1).1,(h.m _ h1).2,h2⟩
theorem V8(l:List (Str×Sh)):(Z9 l).length=l.length:=by
 unfold Z9;rw[(SRT.Z7 _).length_eq,Zn]
noncomputable def linesOf(r:Str)(l:List (Str×Sh)):ZD:=jn ["make",r]::(Z9 l).flatMap fun x=>Z6 x (Yx l x)
theorem Dm{nm:Str}{s:Sh}(h:Q9 s):1<=(Z6 nm s).length/\(Z6 nm s).length<=10:=by
 cases s with
 | recd ps ss=>have:=h.1;simp only[Z6,Yo,Yl,Zn,List.length_nil];omega
 | cho ps ss o=>have:=h.1;simp only[Z6,Yo,Yl,Zn,List.length_nil];omega
 | _=>exact⟨Z5 _,show 1<=10 by decide⟩
theorem M8{l:List (Str×Sh)}(h:Qe l):∀{xs:ZD},(∀x∈xs,x∈Z9 l)->(xs.flatMap fun x=>Z6 x (Yx l x)).length<=10 * xs.length
 | [],_=>Z5 _
 | x::xs,m=>by
  have h1:=M8 h (xs:=xs) fun y my=>m y (Vi _ my);have h2:=(Dm (nm:=x) (h.at (m x Ye)).2.1).2;rw[List.flatMap_cons,Yl,Yo];omega
theorem g9(l:List (Str×Sh)):(Zg l).map (fun p=>Lr p.1)=(l.map (·.1)).map .str:=by
 unfold Zg;rw[List.map_map,List.map_map];rfl
theorem srtD{l:List (Str×Sh)}(h:Qe l):Pu ((Zg l).map fun p=>Lr p.1)=some ((Z9 l).map .str):=by
 rw[g9];exact srt_strs _ (by rw[Zn];have:=h.ln;omega)
theorem extP{a b:ZZ}{Q:T×T->Prop}(h:a.length+b.length<=sizeLine)(q:Q (.lst (a++b),.non)):on (nq .extend (.lst a) [.lst b]) Q:=Ni h q
theorem Cp{a:Str}{f:Str->ZD}{ds:ZD}{y:Str}:(a::ds.flatMap f).map T.str++(f y).map .str=(a::(ds++[y]).flatMap f).map .str:=by
 rw[<-Q2,List.cons_append,List.flatMap_append,List.flatMap_singleton]
def cj(C:Cs):Prop:=∀{r:Str} {l:List (Str×Sh)},r∈V2->Qe l->on (C "shown_make" [.f (.tup [.str r,.dct (Zg l)])]) fun x=>x=(.o (.lst ((linesOf r l).map .str)),[])
theorem R1{w:W}(hf:cn w.C){r:Str}{l:List (Str×Sh)}(hr:r∈V2)(hm:Qe l):wF V4 w [.f (.tup [.str r,.dct (Zg l)])] fun x=>x=(.o (.lst ((linesOf r l).map .str)),[]):=by
 have sl:=sizeLine_eq;refine Yn rfl fun D rt _=>?_;refine mj (fst2 (a:="make ") (x:=r) (by have:=(Zs hr).2;show 5+_<=_;omega)) ?_;rw[m7];refine Zxd (srtD hm) ?_;refine Mn (fun rest p=>∃(s3:Sl) (ds rs:ZD),p=[.f (.tup [.str r,.dct (Zg l)]),.f (.str r),.o (.lst ((jn ["make",r]::ds.flatMap fun x=>Z6 x (Yx l x)).map .str)),s3]/\rest=rs.map .str/\ds++rs=Z9 l) ⟨_,[],Z9 l,rfl,rfl,rfl⟩ (fun x rest p D' hi nx _=>?_) fun p hi=>?_
 .obtain⟨s3,ds,rs,rfl,er,e⟩:=hi;cases rs with
  | nil=>cases er
  | cons y rs =>
  cases er;have my:y∈Z9 l:=by rw[<-e];exact Ta _ Ye
  have md:∀x∈ds,x∈Z9 l:=fun x mx=>by rw[<-e];exact List.mem_append_left _ mx
  obtain⟨a1,a2,a3⟩:=hm.at my;have ld:ds.length<=20:=by have:=congrArg List.length e;rw[Yl,V8]at this;have:=hm.ln;omega
  have lf:=M8 hm md;have ly:=(Dm (nm:=y) a2).2;refine ip a3 ?_;refine Zj (hf a1 a2) fun x ex=>?_;subst ex;refine extP (by rw[Zn,Zn,Yo];omega) ?_;exact nx _ ⟨_,ds++[y],rs,by rw[<-Cp (f:=fun x=>Z6 x (Yx l x))];rfl,rfl,by rw[ZE];exact e⟩
 .obtain⟨s3,ds,rs,rfl,er,e⟩:=hi;cases rs with
  | cons _ _=>cases er
  | nil =>
  rw[XZ]at e;subst e;exact rt _ _ rfl
noncomputable def parted:Sh->Bool
 | .recd _ _=>true
 | .cho _ _ _=>true
 | _=>false
noncomputable def tagS:Sh->Str
 | .whole _ _ => "whole"
 | .truth => "truth"
 | .text _ => "text"
 | .many w _ _=>w
 | .recd _ _ => "record"
 | .cho _ _ _ => "choice"
def cf(C:Cs):Prop:=∀{nm:Str} {s:Sh},nm∈V2->Q9 s->parted s=true->on (C "_law_part_lines" [.f (.str (jn ["form",nm,tagS s])),.f s.t]) fun x=>x=(.o (.lst ((Z6 nm s).map .str)),[])
theorem My{nm t:Str}(h:nm∈V2)(ht:t.length<=20):(jn ["form",nm,t]).length<=60:=by
 have:=Mv ["form",nm,t];have:=(Zs h).2;have:("form" : Str).length=4:=rfl;simp only[Vm,List.map_nil,List.sum_cons,List.sum_nil]at *;omega
theorem e_op(nm o:Str):jn ["form",nm,"choice"] ++ " " ++ o=jn ["form",nm,"choice",o]:=Va (by rw[Zu,Zu,Yi,Yi];simp;exact rfl)
theorem m6{a:Str}{f:Pt->Str}{ds:List Pt}{y:Pt}:(a::ds.map f).map T.str++[.str (f y)]=(a::(ds++[y]).map f).map .str:=by
 rw[Q2, <-List.cons_append,Q2];rfl
theorem m8{a z:Str}{f:Pt->Str}{ds:List Pt}:(a::ds.map f).map T.str++[.str z]=(a::(ds.map f++[z])).map .str:=by
 rw[<-List.cons_append,Q2];rfl
theorem P7{w:W}{x0 t:T}{D:En}{ss:ZL}{ls:ZD}{s0 s3 s4:Sl}(he:(A4 t (.int 2))=some (.tup (ss.map .int)))(h4:∀u∈ss,Bq u)(h3:ss.length<=4)(hl:ls.length<=100)(rt:∀a b c d e,D.rt (.o (.lst (ls.map .str++[.str (Vx ss)]))) [a,b,c,d,e]):wS w (Jp [.f x0,.f t]) (Uh 3 Yu) [s0,.f t,.o (.lst (ls.map .str)),s3,s4] D:=by
 have sl:=sizeLine_eq;refine Ya (a:=Sl.f (.tup (ss.map .int))) (by show (A4 t (.int 2)).map _=_;rw[he];rfl) ?_;refine words_of (fun i s0 K h hk=>Gp h hk) h4 fun s=>?_;refine Rf (by rw[Zn,Zn];show 1+ss.length<=_;omega) ?_;refine S7 (ws:="struck" :: ss.map sI) (by have:=Ff h4 h3;omega) ?_;refine Rf (by rw[Zn];show ls.length+1<=_;omega) ?_;exact rt _ _ _ _ _
theorem k6{w:W}(hd:Hw w.C){x0:T}{D:En}{ps:List Pt}{ss:ZL}{hdr:Str}(hs:Q9 (.recd ps ss))(rt:∀a b c d e,D.rt (.o (.lst ((hdr::(ps.map Um++[Vx ss])).map .str))) [a,b,c,d,e]):wS w (Jp [.f x0,.f (Sh.recd ps ss).t]) (Uh 1 Yu) [.f (.str hdr),.f (Sh.recd ps ss).t,.no,.no,.no] D:=by
 have sl:=sizeLine_eq;obtain⟨h1,h2,h3,h4⟩:=hs;have h4:∀u∈ss,Bq u:=fun u m=>(h4 u m).sml;refine Mn (fun rest p=>∃(s3 s4:Sl) (ds rs:List Pt),p=[.f (.str hdr),.f (Sh.recd ps ss).t,.o (.lst ((hdr::ds.map Um).map .str)),s3,s4]/\rest=rs.map Pt.t/\ds++rs=ps) ⟨_,_,[],ps,rfl,rfl,rfl⟩ (fun x rest p D' hi nx _=>?_) fun p hi=>?_
 .obtain⟨s3,s4,ds,rs,rfl,er,e⟩:=hi;cases rs with
  | nil=>cases er
  | cons y rs =>
  cases er;have hy:=h2 y (by rw[<-e];exact Ta _ Ye);have ld:ds.length<=8:=by have:=congrArg List.length e;rw[Yl]at this;omega
  have:=hy.n.sml.len;have:=(Zs hy.nm).2;have:=(Zs hy.ty).2;have:=Ke hy.d;refine Gp hy.n.sml ?_;refine Zj (hd hy.d) fun x ex=>?_;subst ex;refine S7 (ws:=["field",sI y.n,y.nm,y.ty,dW y.d]) ?_ ?_
  .simp only[Vm,List.map_nil,List.sum_cons,List.sum_nil,Yo,List.length_nil];have:("field" : Str).length=5:=rfl;omega
  refine tm (by rw[Zn,Yo,Zn];omega) ?_;exact nx _ ⟨_,_,ds++[y],rs,by rw[<-m6];rfl,rfl,by rw[ZE];exact e⟩
 .obtain⟨s3,s4,ds,rs,rfl,er,e⟩:=hi;cases rs with
  | cons _ _=>cases er
  | nil =>
  rw[XZ]at e;subst e;exact P7 (t:=(Sh.recd ds ss).t) (ls:=hdr::ds.map Um) rfl h4 h3 (by rw[Yo,Zn];omega) fun a b c d e=>by rw[m8];exact rt a b c d e
theorem P8{w:W}{x0:T}{D:En}{ps:List Pt}{ss:ZL}{o:Bool}{hdr:Str}(hs:Q9 (.cho ps ss o))(rt:∀a b c d e,D.rt (.o (.lst ((hdr::(ps.map Gc++[Vx ss])).map .str))) [a,b,c,d,e]):wS w (Jp [.f x0,.f (Sh.cho ps ss o).t]) (Uh 1 Yu) [.f (.str hdr),.f (Sh.cho ps ss o).t,.no,.no,.no] D:=by
 have sl:=sizeLine_eq;obtain⟨h1,h2,h3,h4⟩:=hs;have h4:∀u∈ss,Bq u:=fun u m=>(h4 u m).sml;refine Mn (fun rest p=>∃(s3 s4:Sl) (ds rs:List Pt),p=[.f (.str hdr),.f (Sh.cho ps ss o).t,.o (.lst ((hdr::ds.map Gc).map .str)),s3,s4]/\rest=rs.map Pt.a/\ds++rs=ps) ⟨_,_,[],ps,rfl,rfl,rfl⟩ (fun x rest p D' hi nx _=>?_) fun p hi=>?_
 .obtain⟨s3,s4,ds,rs,rfl,er,e⟩:=hi;cases rs with
  | nil=>cases er
  | cons y rs =>
  cases er;have hy:=h2 y (by rw[<-e];exact Ta _ Ye);have ld:ds.length<=8:=by have:=congrArg List.length e;rw[Yl]at this;omega
  have:=hy.n.sml.len;have:=(Zs hy.nm).2;have:=(Zs hy.ty).2;refine Gp hy.n.sml ?_;refine S7 (ws:=["arm",sI y.n,y.nm,y.ty]) ?_ ?_
  .simp only[Vm,List.map_nil,List.sum_cons,List.sum_nil,Yo,List.length_nil];have:("arm" : Str).length=3:=rfl;omega
  refine tm (by rw[Zn,Yo,Zn];omega) ?_;exact nx _ ⟨_,_,ds++[y],rs,by rw[<-m6];rfl,rfl,by rw[ZE];exact e⟩
 .obtain⟨s3,s4,ds,rs,rfl,er,e⟩:=hi;cases rs with
  | cons _ _=>cases er
  | nil =>
  rw[XZ]at e;subst e;exact P7 (t:=(Sh.cho ds ss o).t) (ls:=hdr::ds.map Gc) rfl h4 h3 (by rw[Yo,Zn];omega) fun a b c d e=>by rw[m8];exact rt a b c d e
theorem Fb{w:W}{nm:Str}{ps:List Pt}{ss:ZL}{o:Bool}(hn:nm∈V2)(hs:Q9 (.cho ps ss o)){h0:Str}(e0:h0=jn ["form",nm,"choice"]):wF Yy w [.f (.str h0),.f (Sh.cho ps ss o).t] fun x=>x=(.o (.lst ((Z6 nm (.cho ps ss o)).map .str)),[]):=by
 have sl:=sizeLine_eq;have hl:h0.length<=60:=by rw[e0];exact My hn (by decide +kernel)
 have l1:(h0 ++ " ").length<=61:=by rw[<-Zv,Zu,Yl,Zv];show _+1<=_;omega
 have eo:∀o:Str,h0 ++ " " ++ o=jn ["form",nm,"choice",o]:=fun o=>by rw[e0];exact e_op nm o
 refine Yn rfl fun D rt _=>?_;cases o with
 | false =>
  refine V0 (a:=h0) (b:=" ") (by show _+1<=_;omega) ?_;refine V0 (a:=h0 ++ " ") (b:="closed") (by show _+6<=_;omega) ?_;rw[eo];exact P8 hs fun a b c d e=>rt _ _ rfl
 | true =>
  refine V0 (a:=h0) (b:=" ") (by show _+1<=_;omega) ?_;refine V0 (a:=h0 ++ " ") (b:="open") (by show _+4<=_;omega) ?_;rw[eo];exact P8 hs fun a b c d e=>rt _ _ rfl
theorem Og{w:W}(hd:Hw w.C){nm:Str}{s:Sh}(hn:nm∈V2)(hs:Q9 s)(hp:parted s=true):wF Yy w [.f (.str (jn ["form",nm,tagS s])),.f s.t] fun x=>x=(.o (.lst ((Z6 nm s).map .str)),[]):=by
 cases s with
 | recd ps ss=>exact Yn rfl fun D rt _=>k6 (hdr:=jn ["form",nm,"record"]) hd hs fun a b c d e=>rt _ _ rfl
 | cho ps ss o=>exact Fb hn hs rfl
 | _=>cases hp
def Xy(C:Cs):Prop:=∀{r:Str} {l:List (Str×Sh)},r∈V2->Qe l->on (C "_law_lines" [.f (.tup [.str r,.dct (Zg l)])]) fun x=>x=(.o (.lst ((linesOf r l).map .str)),[])
set_option maxHeartbeats 0 in
theorem Fm{w:W}(hp:cf w.C){r:Str}{l:List (Str×Sh)}(hr:r∈V2)(hm:Qe l):wF U2 w [.f (.tup [.str r,.dct (Zg l)])] fun x=>x=(.o (.lst ((linesOf r l).map .str)),[]):=by
 have sl:=sizeLine_eq;refine Yn rfl fun D rt _=>?_;refine V0 (a:="make ") (b:=r) (by have:=(Zs hr).2;show 5+_<=_;omega) ?_;rw[m7];refine Zxd (srtD hm) ?_;refine Mn (fun rest p=>∃(s2 s3 s4:Sl) (ds rs:ZD),p=[.f (.tup [.str r,.dct (Zg l)]),.o (.lst ((jn ["make",r]::ds.flatMap fun x=>Z6 x (Yx l x)).map .str)),s2,s3,s4]/\rest=rs.map .str/\ds++rs=Z9 l) ⟨_,_,_,[],Z9 l,rfl,rfl,rfl⟩ (fun x rest p D' hi nx _=>?_) fun p hi=>?_
 .obtain⟨s2,s3,s4,ds,rs,rfl,er,e⟩:=hi;cases rs with
  | nil=>cases er
  | cons y rs =>
  cases er;have my:y∈Z9 l:=by rw[<-e];exact Ta _ Ye
  have md:∀x∈ds,x∈Z9 l:=fun x mx=>by rw[<-e];exact List.mem_append_left _ mx
  obtain⟨a1,a2,a3⟩:=hm.at my;have ld:ds.length<=20:=by have:=congrArg List.length e;rw[Yl,V8]at this;have:=hm.ln;omega
  have lf:=M8 hm md;have ly:=(Dm (nm:=y) a2).2;have l8:=(Zs a1).2;have fin:∀(s2 s3 s4:Sl),D'.nx [.f (.tup [.str r,.dct (Zg l)]),.o (.lst ((jn ["make",r]::ds.flatMap fun x=>Z6 x (Yx l x)).map .str++(Z6 y (Yx l y)).map .str)),s2,s3,s4]:=fun s2 s3 s4=>nx _ ⟨s2,s3,s4,ds++[y],rs,by rw[<-Cp (f:=fun x=>Z6 x (Yx l x))],rfl,by rw[ZE];exact e⟩;refine ip a3 ?_;obtain⟨s,es⟩:∃s,Yx l y=s:=⟨_,rfl⟩;rw[es]at fin a2 ly ⊢;have f5:(("form " : Str)++y).length=5+y.length:=by rw[<-Zv,Zu,Yl,Zv,Zv];rfl
  have f6:(("form " : Str)++y ++ " ").length=5+y.length+1:=by rw[<-Zv,Zu,Yl,Zv,Zv,f5];rfl
  refine V0 (a:="form ") (b:=y) (by show 5+_<=_;omega) ?_;refine V0 (a:=("form " : Str)++y) (b:=" ") (by show _+1<=_;omega) ?_;have ap:∀{z:T} {Q:T×T->Prop},Q (.lst ((jn ["make",r]::ds.flatMap fun x=>Z6 x (Yx l x)).map .str++[z]),.non)->on (nq .append (.lst ((jn ["make",r]::ds.flatMap fun x=>Z6 x (Yx l x)).map .str)) [z]) Q:=fun q=>tm (by rw[Zn,Yo];omega) q;have l4:("form" : Str).length=4:=rfl;cases s with
  | recd ps ss =>
   refine V0 (a:=("form " : Str)++y ++ " ") (b:="record") (by show _+6<=_;omega) ?_;rw[Ko];refine Zj (hp a1 a2 rfl) fun x ex=>?_;subst ex;refine extP (by rw[Zn,Zn,Yo];omega) ?_;exact fin _ _ _
  | cho ps ss o =>
   refine V0 (a:=("form " : Str)++y ++ " ") (b:="choice") (by show _+6<=_;omega) ?_;rw[Ko];refine Zj (hp a1 a2 rfl) fun x ex=>?_;subst ex;refine extP (by rw[Zn,Zn,Yo];omega) ?_;exact fin _ _ _
  | whole a b =>
   refine V0 (a:=("form " : Str)++y ++ " ") (b:="whole") (by show _+5<=_;omega) ?_;rw[Ko];refine Gp (Z4 a2.1) ?_;refine Gp (Z4 a2.2) ?_;have:=(Z4 a2.1).len;have:=(Z4 a2.2).len;have:=My (t:="whole") a1 (by decide +kernel);refine S7 (ws:=[jn ["form",y,"whole"],sI a,sI b]) (by simp only[Vm,List.map_nil,List.sum_cons,List.sum_nil,Yo,List.length_nil];omega) ?_;refine ap ?_;rw[show jn (jn ["form",y,"whole"]::[sI a,sI b])=jn ("form" :: y :: "whole" :: [sI a,sI b]) from Tv (as:=[]) (bs:=[y,"whole"]) (by rw[Yi];simp)];exact fin _ _ _
  | truth =>
   refine V0 (a:=("form " : Str)++y ++ " ") (b:="truth") (by show _+5<=_;omega) ?_;rw[Ko];have:=My (t:="truth") a1 (by decide +kernel);refine S7 (ws:=[jn ["form",y,"truth"]]) (by simp only[Vm,List.map_nil,List.sum_cons,List.sum_nil,Yo,List.length_nil];omega) ?_;refine ap ?_;rw[show jn [jn ["form",y,"truth"]]=jn ["form",y,"truth"] from Va (by rw[Yi];simp)];exact fin _ _ _
  | text n =>
   refine V0 (a:=("form " : Str)++y ++ " ") (b:="text") (by show _+4<=_;omega) ?_;rw[Ko];refine Gp (Yv a2) ?_;have:=(Yv a2).len;have:=My (t:="text") a1 (by decide +kernel);refine S7 (ws:=[jn ["form",y,"text"],sI n]) (by simp only[Vm,List.map_nil,List.sum_cons,List.sum_nil,Yo,List.length_nil];omega) ?_;refine ap ?_;rw[show jn (jn ["form",y,"text"]::[sI n])=jn ("form" :: y :: "text" :: [sI n]) from Tv (as:=[]) (bs:=[y,"text"]) (by rw[Yi];simp)];exact fin _ _ _
  | many o ty n =>
   obtain⟨ho,ht,hn0,hn1⟩:=a2;have S9:Bq n:=Yv ⟨hn0,by omega⟩;have:=S9.len;have:=(Zs ht).2;rcases ho with rfl | rfl
   .refine V0 (a:=("form " : Str)++y ++ " ") (b:="row") (by show _+3<=_;omega) ?_;rw[Ko];refine Gp S9 ?_;have:=My (t:="row") a1 (by decide +kernel);refine S7 (ws:=[jn ["form",y,"row"],ty,sI n]) (by simp only[Vm,List.map_nil,List.sum_cons,List.sum_nil,Yo,List.length_nil];omega) ?_;refine ap ?_;rw[show jn (jn ["form",y,"row"]::[ty,sI n])=jn ("form" :: y :: "row" :: [ty,sI n]) from Tv (as:=[]) (bs:=[y,"row"]) (by rw[Yi];simp)];exact fin _ _ _
   .refine V0 (a:=("form " : Str)++y ++ " ") (b:="map") (by show _+3<=_;omega) ?_;rw[Ko];refine Gp S9 ?_;have:=My (t:="map") a1 (by decide +kernel);refine S7 (ws:=[jn ["form",y,"map"],ty,sI n]) (by simp only[Vm,List.map_nil,List.sum_cons,List.sum_nil,Yo,List.length_nil];omega) ?_;refine ap ?_;rw[show jn (jn ["form",y,"map"]::[ty,sI n])=jn ("form" :: y :: "map" :: [ty,sI n]) from Tv (as:=[]) (bs:=[y,"map"]) (by rw[Yi];simp)];exact fin _ _ _
 .obtain⟨s2,s3,s4,ds,rs,rfl,er,e⟩:=hi;cases rs with
  | cons _ _=>cases er
  | nil =>
  rw[XZ]at e;subst e;exact rt _ _ rfl
structure GL(g:Str->Option T):Prop where
 gw:g "GREATEST_WHOLE" = some (.int 1000000000000000000)
 gn:g "GREATEST_NUMBER" = some (.int 999)
 lt:g "LONGEST_TEXT" = some (.int 200)
 ln:g "LONGEST_NAME" = some (.int 8)
 mp:g "MOST_PARTS" = some (.int 20)
 mf:g "MOST_FIGURES" = some (.int 19)
 le:g "LETTERS" = some (.str LET)
 si:g "SIGNS" = some (.str cq)
 fg:g "FIGURES" = some (.str FIG)
 fi:g "field_in" = some (.fn "field_in")
 ar:g "arm_in" = some (.fn "arm_in")
noncomputable def inA(a:Str):T->Bool
 | .str y=>!(Builtin.Str.occurrences a y 0 a.length 1).isEmpty
 | _=>false
theorem Tg(a x:Str):(x.cps.toList.map fun c=>T.str ⟨#[c]⟩).all (inA a)=decide (∀c∈cp x,c∈cp a):=by
 rw[List.all_map];have:(inA a ∘ fun c=>T.str ⟨#[c]⟩)=fun c=>decide (c∈cp a):=by funext c;exact in_one a c
 rw[this];by_cases h:∀c∈cp x,c∈cp a
 .rw[Ub h,x9];exact fun c m=>Ub (h c m)
 .rw[Dj h];refine Bool.eq_false_iff.mpr fun z=>h fun c m=>?_;exact Q0 (x9.mp z c m)
def Qo(C:Cs):Prop:=∀{x:Str} {lo hi:Int},x.length<=600->on (C "whole_in" [.f (.str x),.f (.int lo),.f (.int hi)]) fun z=>∃t,(t=.non\/∃n,t=.int n)/\(∀n,x=sI n->lo<=n->n<=hi->Bq n->t=.int n)/\z=(.f t,[])
theorem Pj{w:W}(G:GL w.gl){x:Str}{lo hi:Int}(hx:x.length<=600):wF J4 w [.f (.str x),.f (.int lo),.f (.int hi)] fun z=>∃t,(t=.non\/∃n,t=.int n)/\(∀n,x=sI n->lo<=n->n<=hi->Bq n->t=.int n)/\z=(.f t,[]):=by
 have sl:=sizeLine_eq;refine Yn rfl fun D rt _=>?_;have no:¬ okW x->∃t,(t=.non\/∃n,t=T.int n)/\(∀n,x=sI n->lo<=n->n<=hi->Bq n->t=.int n)/\((Sl.f .non,[]):Sl×ZZ)=(.f t,[]):=fun h=>⟨.non,.inl rfl,fun n e _ _ hn=>absurd (by rw[e];exact(Fi hn).1) h,rfl⟩
 have rest:∀f:Str,f=Ez x->wS w (Jp [.f (.str x),.f (.int lo),.f (.int hi)]) (Uh 1 Rz) [.f (.str x),.f (.int lo),.f (.int hi),.f (.str f),.no] D:=fun f ef=>by
  have hf:f.length<=sizeLine:=by rw[ef];have:=Zzy x;omega
  refine lenP hf ?_;refine xy G.mf ?_;refine c2P ?_;refine Yc (b:=!(decide (1<=(f.length:Int)) && decide ((f.length:Int)<=19))) (fun h1=>?_) fun h1=>?_
  .refine rt _ _ (no fun⟨⟨a,b⟩,_⟩=>?_);rw[<-ef]at a b;rw[Ub (show 1<=(f.length:Int) by omega),Ub (show (f.length:Int)<=19 by omega)]at h1;cases h1
  refine jx hf ?_;refine Te (fun t=>.bl (inA FIG t)) (fun p=>∃s0,p=[s0]) ⟨_,rfl⟩ (fun u mu p K hp hk=>?_) fun p hp=>?_
  .obtain⟨s0,rfl⟩:=hp;obtain⟨c,_,rfl⟩:=Ra.mp mu;refine xy G.fg ?_;exact hk _ ⟨_,rfl⟩
  obtain⟨s0,rfl⟩:=hp;refine allP ?_
  have dig:(∀c∈cp f,c∈cp FIG)↔NumText.AllDigits (cp (Ez x)):=by
   rw[ef];exact⟨fun h c m=>(bx c).mp (h c m),fun h c m=>(bx c).mpr (h c m)⟩
  refine Yc (b:=!((f.cps.toList.map fun c=>T.str ⟨#[c]⟩).all (inA FIG))) (fun h2=>?_) fun h2=>?_
  .refine rt _ _ (no fun⟨_,h⟩=>?_);rw[Tg,Ub (dig.mpr h)]at h2;cases h2
  have ok:okW x:=by
   have h2:=Zx3 h2;rw[Tg]at h2;have h1:=Zx3 h1;rw[Y8,decide_eq_true_eq,decide_eq_true_eq]at h1;rw[ef]at h1;exact⟨⟨by omega,by omega⟩,dig.mp (Q0 h2)⟩
  obtain⟨n,en,hn⟩:=ou ok (by omega);refine Ya (a:=Sl.f (.int n)) ?_ ?_
  .show (if x.length<=640 then (PySem.intText? x).map fun n=>Sl.f (.int n) else none)=_;rw[if_pos (by omega),en];rfl
  refine Gp hn ?_;refine Yc (b:=decide (sI n=x)) (fun h3=>?_) fun h3=>?_
  .refine c2P ?_;refine Yc (b:=decide (lo<=n) && decide (n<=hi)) (fun h4=>?_) fun h4=>?_
   .refine rt _ _ ⟨.int n,.inr ⟨n,rfl⟩,fun m em _ _ hm=>?_,rfl⟩;have:=(Fi hm).2;rw[<-em,en]at this;cases this;rfl
   .refine rt _ _ ⟨.non,.inl rfl,fun m em l1 l2 hm=>?_,rfl⟩;have:=(Fi hm).2;rw[<-em,en]at this;cases this;rw[Ub l1,Ub l2]at h4;cases h4
  .refine rt _ _ ⟨.non,.inl rfl,fun m em l1 l2 hm=>?_,rfl⟩;have:=(Fi hm).2;rw[<-em,en]at this;cases this;exact absurd em.symm (of_decide_eq_false h3)
 refine Yc (b:=Txt.startswith x "-") (fun h=>?_) fun h=>?_
 .refine Ni (show x.length<=sizeLine by omega) ?_;exact rest _ (by unfold Ez;rw[if_pos h])
 .exact rest _ (by unfold Ez;rw[if_neg (by rw[h];exact Nt)])
def Lj(C:Cs):Prop:=∀{x:Str},x∈V2->on (C "is_name" [.f (.str x)]) fun z=>z=(.f (.bl true),[])
theorem o5{x:Str}(h:x∈V2):∀c∈cp x,c∈cp LET:=(show ∀x∈V2,∀c∈cp x,c∈cp LET by decide +kernel) x h
theorem Km{w:W}(G:GL w.gl){x:Str}(h:x∈V2):wF Dr w [.f (.str x)] fun z=>z=(.f (.bl true),[]):=by
 have sl:=sizeLine_eq;obtain⟨l1,l2⟩:=Zs h;have hx:x.length<=sizeLine:=by omega
 refine Yn rfl fun D rt _=>?_;refine lenP hx ?_;refine xy G.ln ?_;refine c2P ?_;refine Yc (b:=!(decide (1<=(x.length:Int)) && decide ((x.length:Int)<=8))) (fun h1=>?_) fun _=>?_
 .rw[Ub (show 1<=(x.length:Int) by omega),Ub (show (x.length:Int)<=8 by omega)]at h1;cases h1
 refine jx hx ?_;refine Te (fun t=>.bl (inA LET t)) (fun p=>∃s0,p=[s0]) ⟨_,rfl⟩ (fun u mu p K hp hk=>?_) fun p hp=>?_
 .obtain⟨s0,rfl⟩:=hp;obtain⟨c,_,rfl⟩:=Ra.mp mu;refine xy G.le ?_;exact hk _ ⟨_,rfl⟩
 obtain⟨s0,rfl⟩:=hp;refine allP ?_;rw[Tg,Ub (o5 h)];exact rt _ _ rfl
def Zqg(C:Cs):Prop:=∀{x:Str},x.length<=200->(∀c∈cp x,c∈cp cq)->on (C "is_text" [.f (.str x),.f (.int 200)]) fun z=>z=(.f (.bl true),[])
theorem Kb{w:W}(G:GL w.gl){x:Str}(hl:x.length<=200)(h:∀c∈cp x,c∈cp cq):wF Dc w [.f (.str x),.f (.int 200)] fun z=>z=(.f (.bl true),[]):=by
 have sl:=sizeLine_eq;have hx:x.length<=sizeLine:=by omega
 refine Yn rfl fun D rt _=>?_;refine lenP hx ?_;refine Yc (b:=!decide ((200:Int)<(x.length:Int))) (fun _=>?_) fun z=>absurd z (by rw[Dj (show ¬ (200:Int)<(x.length:Int) by omega)];exact fun z=>nomatch z);refine jx hx ?_;refine Te (fun t=>.bl (inA cq t)) (fun p=>∃s0,p=[s0]) ⟨_,rfl⟩ (fun u mu p K hp hk=>?_) fun p hp=>?_
 .obtain⟨s0,rfl⟩:=hp;obtain⟨c,_,rfl⟩:=Ra.mp mu;refine xy G.si ?_;exact hk _ ⟨_,rfl⟩
 obtain⟨s0,rfl⟩:=hp;refine allP ?_;rw[Tg,Ub h];exact rt _ _ rfl
def Nf(C:Cs):Prop:=∀{x:Str},x.length<=600->on (C "number_in" [.f (.str x)]) fun z=>∃t,(t=.non\/∃n,t=.int n)/\(∀n,x=sI n->Num n->t=.int n)/\z=(.f t,[])
theorem Fx{w:W}(G:GL w.gl)(hw:Qo w.C){x:Str}(hx:x.length<=600):wF Ue w [.f (.str x)] fun z=>∃t,(t=.non\/∃n,t=.int n)/\(∀n,x=sI n->Num n->t=.int n)/\z=(.f t,[]):=by
 refine Yn rfl fun D rt _=>?_;refine xy G.gn ?_;refine Zj (hw hx) fun z ⟨t,h1,h2,e⟩=>?_;subst e;exact rt _ _ ⟨t,h1,fun n e h=>h2 n e h.1 h.2 h.sml,rfl⟩
def cb(C:Cs):Prop:=∀{i:Int},Xk i->on (C "item_whole_in" [.f (.str (sI i))]) fun z=>z=(.f (.int i),[])
theorem R7{w:W}(G:GL w.gl)(hw:Qo w.C){i:Int}(h:Xk i):wF Y1 w [.f (.str (sI i))] fun z=>z=(.f (.int i),[]):=by
 refine Yn rfl fun D rt _=>?_;refine xy G.gw ?_;refine xy G.gw ?_;refine Zj (hw (by have:=(Z4 h).len;omega)) fun z ⟨t,h1,h2,e⟩=>?_;subst e;rw[h2 i rfl h.1 h.2 (Z4 h)];exact rt _ _ rfl
theorem Ri{y:Str}{ws:ZD}{Q:Sl->Prop}(e:Txt.split y " " = ws)(h:y.length<=1000)(q:Q (.o (.lst (ws.map .str)))):on (Zxo " " [.str y]) Q:=by
 have sl:=sizeLine_eq;refine Ni (show y.length+2<=sizeLine by omega) ?_;rw[e];exact q
theorem spl5P{y:Str}{ws:ZD}{Q:Sl->Prop}(e:Txt.splitMax y " " 5=ws)(h:y.length<=1000)(q:Q (.o (.lst (ws.map .str)))):on (Zxa " " [.str y,.int 5]) Q:=by
 have sl:=sizeLine_eq;refine Ni (show (0:Int)<=5/\(5:Int)<2 ^ 62/\y.length+2<=sizeLine by omega) ?_;rw[e];exact q
theorem Ld{body:T->P->(Option T->P->Prop)->Prop}{xs ys:ZZ}{p:P}{Q:ZZ->P->Prop}(e:xs=ys)(h:Uc body ys [] p Q):Uc body xs [] p Q:=by rw[e];exact h
theorem cut1(a:T)(l:ZZ):G4 (a::l) (some 1) none=l:=by
 rw[dw (by omega) (by rw[Yo];omega)];rfl
noncomputable def Zzp:Dl->ZD
 | .must=>["must"]
 | .none=>["none"]
 | .truth b=>["truth",if b=true then "yes" else "no"]
 | .whole i=>["whole",sI i]
 | .text x=>["text",x]
theorem fr4{p:Pt}(h:Lw p){a:Str}(ha:Gk a):∀w∈[a,sI p.n,p.nm,p.ty],Gk w:=fun w m=>by
 simp only[Y6,Vy,or_false]at m;rcases m with rfl | rfl | rfl | rfl
 .exact ha
 .exact Dv _
 .exact N1 h.nm
 .exact N1 h.ty
theorem fr5{p:Pt}(h:Lw p){a t:Str}(ha:Gk a)(ht:Gk t):∀w∈[a,sI p.n,p.nm,p.ty,t],Gk w:=fun w m=>by
 rcases x8.mp (show w∈[a,sI p.n,p.nm,p.ty]++[t] from m) with m | m
 .exact fr4 h ha w m
 .rw[Pz.mp m];exact ht
theorem fld_J(p:Pt):cp (Um p)=J 32 ([("field" : Str),sI p.n,p.nm,p.ty].map cp) (cp (dW p.d)):=cp_J ["field",sI p.n,p.nm,p.ty] (dW p.d)
theorem xf{p:Pt}(h:Lw p):Txt.splitMax (Um p) " " 5=[("field" : Str),sI p.n,p.nm,p.ty]++Zzp p.d:=by
 have e:=fld_J p;have ff:Gk "field" := by unfold Gk;decide +kernel
 have two:∀{t r:Str},Gk t->cp (dW p.d)=cp t++32::cp r->Txt.splitMax (Um p) " " 5=[("field" : Str),sI p.n,p.nm,p.ty]++[t,r]:=fun {t r} ht ed=>by
  rw[ed]at e;exact By (n:=5) (ws:=["field",sI p.n,p.nm,p.ty,t]) (r:=r) (by decide) e (fr5 h ff ht) (Z5 5) (.inl rfl)
 have one:Gk (dW p.d)->Txt.splitMax (Um p) " " 5=[("field" : Str),sI p.n,p.nm,p.ty]++[dW p.d]:=fun hd =>
  By (n:=5) (ws:=["field",sI p.n,p.nm,p.ty]) (by decide) e (fr4 h ff) (show 4<=5 by decide) (.inr hd)
 cases hd:p.d with
 | must=>rw[hd]at one;exact one (by unfold Gk;decide +kernel)
 | none=>rw[hd]at one;exact one (by unfold Gk;decide +kernel)
 | truth b =>
  rw[hd]at two;cases b
  .exact two (t:="truth") (r:="no") (by unfold Gk;decide +kernel) (by decide +kernel)
  .exact two (t:="truth") (r:="yes") (by unfold Gk;decide +kernel) (by decide +kernel)
 | whole i =>
  rw[hd]at two;exact two (t:="whole") (r:=sI i) (by unfold Gk;decide +kernel) (by show cp (("whole " : Str)++sI i)=_;rw[Zu];exact rfl)
 | text x =>
  rw[hd]at two;exact two (t:="text") (r:=x) (by unfold Gk;decide +kernel) (by show cp (("text " : Str)++x)=_;rw[Zu];exact rfl)
theorem Im{p:Pt}(h:Lw p):(Um p).length<=400:=by
 have:=Mv ["field",sI p.n,p.nm,p.ty,dW p.d];have:=h.n.sml.len;have:=(Zs h.nm).2;have:=(Zs h.ty).2;have:=Ke h.d;have:("field" : Str).length=5:=rfl;simp only[Vm,List.map_nil,List.sum_cons,List.sum_nil]at *;show (jn _).length<=400;omega
theorem Xx{p:Pt}(h:Lw p):(Gc p).length<=400:=by
 have:=Mv ["arm",sI p.n,p.nm,p.ty];have:=h.n.sml.len;have:=(Zs h.nm).2;have:=(Zs h.ty).2;have:("arm" : Str).length=3:=rfl;simp only[Vm,List.map_nil,List.sum_cons,List.sum_nil]at *;show (jn _).length<=400;omega
def cu(C:Cs):Prop:=∀{d:Dl},c0 d->on (C "default_in" [.f (.lst ((Zzp d).map .str))]) fun z=>z=(.f d.t,[])
theorem Wj{w:W}(G:GL w.gl)(hi:cb w.C)(ht:Zqg w.C){d:Dl}(h:c0 d):wF V7 w [.f (.lst ((Zzp d).map .str))] fun z=>z=(.f d.t,[]):=by
 refine Yn rfl fun D rt _=>?_;cases d with
 | must=>exact rt _ _ rfl
 | none=>exact rt _ _ rfl
 | truth b=>cases b<;>exact rt _ _ rfl
 | whole i =>
  refine Zj (hi h) fun z e=>?_;subst e;exact rt _ _ rfl
 | text x =>
  refine xy G.lt ?_;refine Zj (ht h.1 h.2) fun z e=>?_;subst e;exact rt _ _ rfl
noncomputable def mem(k:Bool):Str:=if k=true then "field_in" else "arm_in"
def G0(k:Bool)(p:Pt):Str:=if k=true then Um p else Gc p
def memT(k:Bool)(p:Pt):T:=if k=true then p.t else p.a
def Qi(C:Cs):Prop:=∀{k:Bool} {p:Pt},Lw p->on (C (mem k) [.f (.str (G0 k p))]) fun z=>z=(.f (memT k p),[])
theorem O1{w:W}(hn:Nf w.C)(hd:cu w.C)(hm:Lj w.C){p:Pt}(h:Lw p):wF Gj w [.f (.str (Um p))] fun z=>z=(.f p.t,[]):=by
 refine Yn rfl fun D rt _=>?_;refine spl5P (xf h) (by have:=Im h;omega) ?_;obtain⟨n,nm,ty,d⟩:=p;have go:∀d:Dl,c0 d->on (w.C "default_in" [.f (.lst ((Zzp d).map .str))]) fun z=>z=(.f d.t,[]):=fun d h=>hd h;cases d
 all_goals
  refine Zj (hn (x:=sI n) (Ut h.n.sml.len (by decide))) fun z ⟨t,_,h2,e⟩=>?_;subst e;rw[h2 n rfl h.n];refine Zj (go _ h.d) fun z e=>?_;subst e;refine Zj (hm h.nm) fun z e=>?_;subst e;refine Zj (hm h.ty) fun z e=>?_;subst e;exact rt _ _ rfl
theorem x6{w:W}(hn:Nf w.C)(hm:Lj w.C){p:Pt}(h:Lw p):wF Nx w [.f (.str (Gc p))] fun z=>z=(.f p.a,[]):=by
 refine Yn rfl fun D rt _=>?_;refine Ri (ws:=["arm",sI p.n,p.nm,p.ty]) (Vq (fr4 h (by unfold Gk;decide +kernel)) fun z=>nomatch z) (by have:=Xx h;omega) ?_;refine Zj (hn (x:=sI p.n) (by have:=h.n.sml.len;omega)) fun z ⟨t,_,h2,e⟩=>?_;subst e;rw[h2 p.n rfl h.n];refine Zj (hm h.nm) fun z e=>?_;subst e;refine Zj (hm h.ty) fun z e=>?_;subst e;exact rt _ _ rfl
theorem Wo:∀ss:ZL,Bu .non (ss.map .int)=some false
 | []=>rfl
 | s::ss=>by
  show (eqT (.int s) .non).bind _=_;show ((Bu .non (ss.map .int)).map (false || ·))=_;rw[Wo ss];rfl
theorem noneP{ss:ZL}{Q:Sl->Prop}(q:Q (.f (.bl false))):on ((Ww .isin .non (.lst (ss.map .int))).map fun r=>Sl.f (.bl r)) Q:=Ya (by show (Bu .non (ss.map .int)).map _=_;rw[Wo];rfl) q
theorem ixL0{a:T}{l:ZZ}{Q:Sl->Prop}(q:Q (.f a)):on ((A4 (.lst (a::l)) (.int 0)).map Sl.f) Q:=by
 refine z7 (x:=a) ?_ q;unfold Ts fj;rw[if_pos (by omega),if_pos (by rw[Yo];omega)];rfl
def Zxj(C:Cs):Prop:=∀{ss:ZL},ss.length<=4->(∀u∈ss,Num u)->on (C "struck_in" [.f (.str (Vx ss))]) fun z=>z=(.f (.tup (ss.map .int)),[])
def cg(C:Cs):Prop:=∀{y w:Str} {r:List Nat},y.length<=400->cp y=cp w++32::r->Gk w->w ≠ "struck" -> on (C "struck_in" [.f (.str y)]) fun z=>z=(.f .non,[])
theorem rg{ss:ZL}(h:∀u∈ss,Num u)(hl:ss.length<=4):(Vx ss).length<=200:=by
 have h1:=Mv ("struck" :: ss.map sI);have h2:=Ff (fun u m=>(h u m).sml) hl
 have:∀us:ZD,(us.map fun w=>w.length+1).sum=(us.map (·.length)).sum+us.length:=fun us=>by
  induction us with
  | nil=>rfl
  | cons u us ih=>rw[Vm,Vm,List.sum_cons,List.sum_cons,ih,Yo];omega
 rw[this]at h1;exact Ut h1 h2
theorem Lp{w:W}(hn:Nf w.C){ss:ZL}(hl:ss.length<=4)(h:∀u∈ss,Num u):wF Y5 w [.f (.str (Vx ss))] fun z=>z=(.f (.tup (ss.map .int)),[]):=by
 refine Yn rfl fun D rt _=>?_;refine Ri (ws:="struck" :: ss.map sI) (Vq (fun x m=>?_) fun z=>nomatch z) (by have:=rg h hl;omega) ?_
 .rcases Y6.mp m with rfl | m
  .unfold Gk;decide +kernel
  .obtain⟨u,_,rfl⟩:=Ra.mp m;exact Dv u
 refine Ld ((cut1 _ _).trans (List.map_map ..)) ?_;refine zp (g:=.int) (fun p=>∃s,p=[s]) ⟨_,rfl⟩ (fun u mu p K hp hk=>?_) fun p hp=>?_
 .obtain⟨s,rfl⟩:=hp;refine Zj (hn (x:=sI u) (by have:=(h u mu).sml.len;omega)) fun z ⟨t,_,h2,e⟩=>?_;subst e;rw[h2 u rfl (h u mu)];exact hk _ ⟨_,rfl⟩
 obtain⟨s,rfl⟩:=hp;refine ixL0 ?_;refine noneP ?_;exact rt _ _ rfl
theorem Fw{w:W}(hn:Nf w.C){y x:Str}{r:List Nat}(hl:y.length<=400)(e:cp y=cp x++32::r)(hx:Gk x)(ne:x ≠ "struck"):wF Y5 w [.f (.str y)] fun z=>z=(.f .non,[]):=by
 obtain⟨q,e1,e2⟩:=wa e hx;refine Yn rfl fun D rt _=>?_;refine Ri (ws:=x::q) e1 (by omega) ?_;refine Ld (cut1 _ _) ?_;refine Gh (fun rest acc p=>(∃s,p=[s])/\∀t∈rest,∃v:Str,v.length<=400/\t=.str v) ⟨⟨_,rfl⟩,fun t m=>?_⟩ (fun x' r' acc p K hi hk _=>?_) fun acc p hi=>?_
 .obtain⟨v,mv,rfl⟩:=Ra.mp m;exact⟨v,by have:=e2 v (Vi _ mv);omega,rfl⟩
 .obtain⟨⟨s,rfl⟩,h2⟩:=hi;obtain⟨v,hv,rfl⟩:=h2 x' Ye;refine Zj (hn (x:=v) (by omega)) fun z ⟨t,_,_,e⟩=>?_;subst e;exact hk _ _ ⟨⟨_,rfl⟩,fun t m=>h2 t (Vi _ m)⟩
 obtain⟨⟨s,rfl⟩,_⟩:=hi;refine ixL0 ?_;refine Yc (b:=!decide (x = "struck")) (fun _=>?_) fun z=>absurd z (by rw[Dj ne];exact fun z=>nomatch z);exact rt _ _ rfl
theorem atN{Z:Type}{ts:List Z}{n:Nat}{i:Int}{x:Z}(e:ts[n]?=some x)(ei:i=(n:Nat)):Ts ts i=some x:=by
 have h:=(Nd.mp e).1;subst ei;unfold Ts fj;rw[if_pos (by omega),if_pos (by omega)];exact e
theorem Fy{ls A B:ZD}{x:Str}{i:Int}(e:ls=A++(x::B))(ei:i=(A.length:Nat)):Ts (ls.map T.str) i=some (.str x):=by
 refine atN (n:=A.length) ?_ ei;rw[e,Bo,List.getElem?_append_right (Z5 _),Nat.sub_self];rfl
def Xv(C:Cs):Prop:=∀{ls A B:ZD} {x:Str} {i:Int},ls=A++(x::B)->i=(A.length:Nat)->on (C "line_at" [.f (.lst (ls.map .str)),.f (.int i)]) fun z=>z=(.f (.str x),[])
theorem Kg{w:W}{ls A B:ZD}{x:Str}{i:Int}(e:ls=A++(x::B))(ei:i=(A.length:Nat)):wF Dt w [.f (.lst (ls.map .str)),.f (.int i)] fun z=>z=(.f (.str x),[]):=by
 refine Yn rfl fun D rt _=>?_;refine Yc (b:=decide (i=((ls.map T.str).length:Nat))) (fun h=>?_) fun _=>?_
 .have h:=Q0 h;rw[e,Zn,Yl,Yo]at h;omega
 refine z7 (Fy e ei) ?_;exact rt _ _ rfl
def Xw(C:Cs):Prop:=∀{s:Sh},Q9 s->parted s=false->on (C "single_shape" [.f (.lst ((qz s).map .str))]) fun z=>z=(.f s.t,[])
theorem X1{w:W}(G:GL w.gl)(hw:Qo w.C)(hi:cb w.C)(hm:Lj w.C){s:Sh}(h:Q9 s)(hp:parted s=false):wF Vw w [.f (.lst ((qz s).map .str))] fun z=>z=(.f s.t,[]):=by
 refine Yn rfl fun D rt _=>?_;cases s with
 | recd _ _=>cases hp
 | cho _ _ _=>cases hp
 | truth=>exact rt _ _ rfl
 | whole a b =>
  refine Zj (hi h.1) fun z e=>?_;subst e;refine Zj (hi h.2) fun z e=>?_;subst e;exact rt _ _ rfl
 | text n =>
  refine xy G.lt ?_;refine Zj (hw (x:=sI n) (Ut (Yv h).len (by decide))) fun z ⟨t,_,h2,e⟩=>?_;subst e;rw[h2 n rfl h.1 h.2 (Yv h)];exact rt _ _ rfl
 | many o ty n =>
  obtain⟨ho,ht,n0,n1⟩:=h;have S9:Bq n:=Yv ⟨n0,by omega⟩;rcases ho with rfl | rfl
  all_goals
   refine Zj (hm ht) fun z e=>?_;subst e;refine xy G.mp ?_;refine Zj (hw (x:=sI n) (Ut S9.len (by decide))) fun z ⟨t,_,h2,e⟩=>?_;subst e;rw[h2 n rfl n0 n1 S9];exact rt _ _ rfl
structure OkR(ps:List Pt)(ss:ZL):Prop where
 l:ps.length<=8
 p:∀p∈ps,Lw p
 k:ss.length<=4
 n:∀u∈ss,Num u
def Hq(C:Cs):Prop:=∀{k:Bool} {ls A B:ZD} {ps:List Pt} {ss:ZL} {a:Int},ls=A++(ps.map (G0 k)++(Vx ss::B))->a=(A.length:Nat)->OkR ps ss->on (C "struck_place" [.f (.lst (ls.map .str)),.f (.int a),.f (.fn (mem k))]) fun z=>∃n:Int,n=((A.length+ps.length:Nat))/\z=(.f (.int n),[])
theorem place_ok{w:W}(hl:Xv w.C)(hk:Zxj w.C)(hn:cg w.C)(hm:Qi w.C){k:Bool}{ls A B:ZD}{ps:List Pt}{ss:ZL}{a:Int}(e:ls=A++(ps.map (G0 k)++(Vx ss::B)))(ea:a=(A.length:Nat))(h:OkR ps ss):wF Vj w [.f (.lst (ls.map .str)),.f (.int a),.f (.fn (mem k))] fun z=>∃n:Int,n=((A.length+ps.length:Nat))/\z=(.f (.int n),[]):=by
 refine Yn rfl fun D rt _=>?_;have lp:=h.l;refine whS ?_;refine wWhI (fun m p=>∃(ds rs:List Pt) (i:Int),p=[.f (.lst (ls.map .str)),.f (.int i),.f (.fn (mem k))]/\ds++rs=ps/\m=rs.length/\i=((A.length+ds.length:Nat))) (fun m p K hi kt kf=>?_) ps.length 1000000 _ (by omega) ⟨[],ps,a,rfl,rfl,rfl,ea⟩;obtain⟨ds,rs,i,rfl,ed,em,ei⟩:=hi;cases rs with
 | nil =>
  have en:ls=(A++ds.map (G0 k))++(Vx ss::B):=by rw[e, <-ed,XZ,ZE]
  have el:i=((A++ds.map (G0 k)).length:Nat):=by rw[Yl,Zn];exact ei
  refine Zj (hl en el) fun z ez=>?_;subst ez;refine Zj (hk h.k h.n) fun z ez=>?_;subst ez;refine kf _ (rt _ _ ⟨i, ?_,rfl⟩);rw[ei, <-ed,XZ]
 | cons y rs =>
  have en:ls=(A++ds.map (G0 k))++(G0 k y::(rs.map (G0 k)++(Vx ss::B))):=by rw[e, <-ed];simp
  have el:i=((A++ds.map (G0 k)).length:Nat):=by rw[Yl,Zn];exact ei
  have oy:=h.p y (by rw[<-ed];exact Ta _ Ye);refine Zj (hl en el) fun z ez=>?_;subst ez
  have ns:on (w.C "struck_in" [.f (.str (G0 k y))]) fun z=>z=(.f .non,[]):=by
   cases k with
   | true=>exact hn (w:="field") (Im oy) (by show cp (Um y)=_;unfold Um;rw[Yi];rfl) (by unfold Gk;decide +kernel) (by decide +kernel)
   | false=>exact hn (w:="arm") (Xx oy) (by show cp (Gc y)=_;unfold Gc;rw[Yi];rfl) (by unfold Gk;decide +kernel) (by decide +kernel)
  refine Zj ns fun z ez=>?_;subst ez;refine kt _ fun D' nx _ _ _=>?_;refine z7 (Fy en el) ?_;refine Zj (hm oy) fun z ez=>?_;subst ez;have fin:D'.nx [.f (.lst (ls.map .str)),.f (.int (i+1)),.f (.fn (mem k))]:=nx rs.length _ (by rw[em];exact Nat.lt_succ_self _) ⟨ds++[y],rs,i+1,rfl,by rw[ZE];exact ed,rfl,by rw[Yl];show i+1=((A.length+(ds.length+1):Nat):Int);omega⟩;cases k with
  | true=>exact fin
  | false=>exact fin
theorem Zz1{A M R:ZZ}{lo hi:Int}(e1:lo=(A.length:Nat))(e2:hi=((A.length+M.length:Nat))):G4 (A++(M++R)) (some lo) (some hi)=M:=by
 unfold G4;rw[E3 (i:=lo) (by omega) (by rw[Yl];omega),E3 (i:=hi) (by omega) (by rw[Yl,Yl];omega),e1,e2,XJ,XJ,List.drop_left,Nat.add_sub_cancel_left,List.take_left]
theorem cut_str{ls A M R:ZD}{lo hi:Int}(e:ls=A++(M++R))(e1:lo=(A.length:Nat))(e2:hi=((A.length+M.length:Nat))):G4 (ls.map .str) (some lo) (some hi)=M.map .str:=by
 rw[e,Q2 (l₁:=A),Q2 (l₁:=M)];exact Zz1 (by rw[Zn];exact e1) (by rw[Zn,Zn];exact e2)
def Zqd(C:Cs):Prop:=∀{ls A B:ZD} {d:List (Str×Sh)} {nm:Str} {s:Sh} {a:Int},ls=A++(Z6 nm s++B)->a=(A.length:Nat)->nm∈V2->Q9 s->d.length<=50->on (C "read_form" [.o (.dct (Zg d)),.f (.lst (ls.map .str)),.f (.int a)]) fun z=>∃n:Int,n=((A.length+(Z6 nm s).length:Nat))/\z=(.f (.int n),[.dct (Zg (putD d nm s))])
theorem putP'{l:List (Str×Sh)}{x:Str}{s:Sh}{t:T}{Q:T->Prop}(e:t=s.t)(h:l.length<=100)(q:Q (.dct (Zg (putD l x s)))):on (putAt (.dct (Zg l)) (.str x) t) Q:=by rw[e];exact Cz h q
theorem Sx{w:W}(G:GL w.gl)(hp:Hq w.C)(hi:Qi w.C)(hk:Zxj w.C){ls A B:ZD}{d:List (Str×Sh)}{nm z:Str}{ps:List Pt}{ss:ZL}{o:Bool}{a:Int}{D:En}(hz:decide (z = "open")=o)(or:OkR ps ss)(hd:d.length<=50)
  (e0:ls=A++(jn ["form",nm,"choice",z]::(ps.map (G0 false)++(Vx ss::B)))) (ea:a=(A.length:Nat))
  (rt:∀(n:Int) (s3 s4 s5 s6 s7 s8:Sl),n=((A.length+2+ps.length:Nat))->D.rt (.f (.int n)) [.o (.dct (Zg (putD d nm (.cho ps ss o)))),.f (.lst (ls.map .str)),.f (.int a),s3,s4,s5,s6,s7,s8]) :
  wS w (Jp [.o (.dct (Zg d)),.f (.lst (ls.map .str)),.f (.int a)]) (thnS (Uh 4 Br)) [.o (.dct (Zg d)),.f (.lst (ls.map .str)),.f (.int a),.o (.lst [.str "form",.str nm,.str "choice",.str z]),.o (.lst [.str "choice",.str z]),.no,.no,.no,.no] D:=by
 have e1:ls=(A++[jn ["form",nm,"choice",z]])++(ps.map (G0 false)++(Vx ss::B)):=by rw[e0,ZE];rfl
 have e2:ls=((A++[jn ["form",nm,"choice",z]])++ps.map (G0 false))++(Vx ss::B):=by rw[e1];simp only[ZE]
 refine xy G.ar ?_;refine Zj (hp (k:=false) e1 (a:=a+1) (by rw[ea,Yl];rfl) or) fun z ⟨n,en,ez⟩=>?_;subst ez;rw[Yl]at en;refine Ld (cut_str e1 (by rw[Yl,ea];rfl) (by rw[Yl,Zn];exact en)) ?_;rw[List.map_map];refine zp (g:=Pt.a) (fun p=>∃s,p=[s]) ⟨_,rfl⟩ (fun q mq p K ej hk'=>?_) fun p ej=>?_
 .obtain⟨s,rfl⟩:=ej;refine Zj (hi (k:=false) (or.p q mq)) fun z ez=>?_;subst ez;exact hk' _ ⟨_,rfl⟩
 obtain⟨s,rfl⟩:=ej;refine z7 (Fy e2 (by rw[Yl,Yl,Zn];exact en)) ?_;refine Zj (hk or.k or.n) fun z ez=>?_;subst ez;refine putP' (s:=.cho ps ss o) (by rw[<-hz];rfl) (by omega) ?_;refine rt (n+1) _ _ _ _ _ _ ?_;rw[en];show ((A.length+1+ps.length:Nat):Int)+1=_;omega
theorem wds_ok{s:Sh}(h:Q9 s):(∀x∈qz s,Gk x/\x.length<=20)/\(qz s).length<=3:=by
 cases s with
 | whole a b =>
  refine⟨fun x m=>?_,Z5 3⟩;simp only[qz,Y6,Vy,or_false]at m;rcases m with rfl | rfl | rfl
  .exact⟨by unfold Gk;decide +kernel,by decide +kernel⟩
  .exact⟨Dv _,(Z4 h.1).len⟩
  .exact⟨Dv _,(Z4 h.2).len⟩
 | truth =>
  refine⟨fun x m=>?_,show 1<=3 by decide⟩;rw[Pz.mp m];exact⟨by unfold Gk;decide +kernel,by decide +kernel⟩
 | text n =>
  refine⟨fun x m=>?_,show 2<=3 by decide⟩;simp only[qz,Y6,Vy,or_false]at m;rcases m with rfl | rfl
  .exact⟨by unfold Gk;decide +kernel,by decide +kernel⟩
  .exact⟨Dv _,(Yv h).len⟩
 | many o ty n =>
  obtain⟨ho,ht,n0,n1⟩:=h;refine⟨fun x m=>?_,Z5 3⟩;simp only[qz,Y6,Vy,or_false]at m;rcases m with rfl | rfl | rfl
  .rcases ho with rfl | rfl
   .exact⟨by unfold Gk;decide +kernel,by decide +kernel⟩
   .exact⟨by unfold Gk;decide +kernel,by decide +kernel⟩
  .exact⟨N1 ht,by have:=(Zs ht).2;omega⟩
  .exact⟨Dv _,(show Bq n from Yv ⟨n0,by omega⟩).len⟩
 | recd _ _=>exact⟨fun _ m=>absurd m Vy,show 0<=3 by decide⟩
 | cho _ _ _=>exact⟨fun _ m=>absurd m Vy,show 0<=3 by decide⟩
theorem Ju{nm:Str}{s:Sh}(hn:nm∈V2)(h:Q9 s):(∀x∈("form" : Str)::nm::qz s,Gk x)/\(jn ("form" :: nm::qz s)).length<=1000:=by
 obtain⟨h1,h2⟩:=wds_ok h;refine⟨fun x m=>?_, ?_⟩
 .rcases Y6.mp m with rfl | m
  .unfold Gk;decide +kernel
  .rcases Y6.mp m with rfl | m
   .exact N1 hn
   .exact(h1 x m).1
 .have l1:=Mv ("form" :: nm::qz s);have l8:=(Zs hn).2;have l4:("form" : Str).length=4:=rfl
  have:∀us:ZD,(∀x∈us,x.length<=20)->(us.map fun w=>w.length+1).sum<=21 * us.length:=fun us=>by
   induction us with
   | nil=>exact fun _=>Z5 _
   | cons u us ih =>
    intro g;have g1:=g u Ye;have g2:=ih fun x m=>g x (Vi _ m);rw[Vm,List.sum_cons,Yo];omega
  have:=this (qz s) fun x m=>(h1 x m).2;rw[Vm,Vm,List.sum_cons,List.sum_cons]at l1;omega
set_option maxHeartbeats 0 in
theorem L6{w:W}(G:GL w.gl)(hl:Xv w.C)(hm:Lj w.C)(hp:Hq w.C)(hi:Qi w.C)(hk:Zxj w.C)(hs:Xw w.C){ls A B:ZD}{d:List (Str×Sh)}{nm:Str}{s:Sh}{a:Int}(e:ls=A++(Z6 nm s++B))(ea:a=(A.length:Nat))(hn:nm∈V2)(os:Q9 s)(hd:d.length<=50):wF Ui w [.o (.dct (Zg d)),.f (.lst (ls.map .str)),.f (.int a)] fun z=>∃n:Int,n=((A.length+(Z6 nm s).length:Nat))/\z=(.f (.int n),[.dct (Zg (putD d nm s))]):=by
 have nf:=N1 hn;have l8:=(Zs hn).2;refine Yn rfl fun D rt _=>?_;cases s with
 | recd ps ss =>
  have or:OkR ps ss:=⟨os.1,os.2.1,os.2.2.1,os.2.2.2⟩;have e0:ls=A++(jn ["form",nm,"record"]::(ps.map (G0 true)++(Vx ss::B))):=by rw[e];show A++((_::(ps.map Um++[Vx ss]))++B)=A++(_::(ps.map Um++(Vx ss::B)));rw[List.cons_append,ZE];rfl
  have e1:ls=(A++[jn ["form",nm,"record"]])++(ps.map (G0 true)++(Vx ss::B)):=by rw[e0,ZE];rfl
  have e2:ls=((A++[jn ["form",nm,"record"]])++ps.map (G0 true))++(Vx ss::B):=by rw[e1];simp only[ZE]
  refine Zj (hl e0 ea) fun z ez=>?_;subst ez;refine Ri (ws:=["form",nm,"record"]) (Vq (fun x m=>?_) fun z=>nomatch z) (by have:=My (t:="record") hn (by decide +kernel);omega) ?_
  .simp only[Y6,Vy,or_false]at m;rcases m with rfl | rfl | rfl
   .unfold Gk;decide +kernel
   .exact nf
   .unfold Gk;decide +kernel
  refine Zj (hm hn) fun z ez=>?_;subst ez;refine xy G.fi ?_;refine Zj (hp (k:=true) e1 (a:=a+1) (by rw[ea,Yl];rfl) or) fun z ⟨n,en,ez⟩=>?_;subst ez;rw[Yl]at en;refine Ld (cut_str e1 (by rw[Yl,ea];rfl) (by rw[Yl,Zn];exact en)) ?_;rw[List.map_map];refine zp (g:=Pt.t) (fun p=>∃s,p=[s]) ⟨_,rfl⟩ (fun q mq p K ej hk'=>?_) fun p ej=>?_
  .obtain⟨s,rfl⟩:=ej;refine Zj (hi (k:=true) (or.p q mq)) fun z ez=>?_;subst ez;exact hk' _ ⟨_,rfl⟩
  obtain⟨s,rfl⟩:=ej;refine z7 (Fy e2 (by rw[Yl,Yl,Zn];exact en)) ?_;refine Zj (hk or.k or.n) fun z ez=>?_;subst ez;refine Cz (s:=.recd ps ss) (by omega) ?_;refine rt _ _ ⟨n+1, ?_,rfl⟩;rw[en];show _=((A.length+(ps.map Um++[Vx ss]).length.succ:Nat):Int);rw[Yl,Zn];show _=((A.length+(ps.length+1+1):Nat):Int);have:([jn ["form",nm,"record"]]:ZD).length=1:=rfl;omega
 | cho ps ss o =>
  have or:OkR ps ss:=⟨os.1,os.2.1,os.2.2.1,os.2.2.2⟩;have e0:ls=A++(jn ["form",nm,"choice",opn o]::(ps.map (G0 false)++(Vx ss::B))):=by rw[e];show A++((_::(ps.map Gc++[Vx ss]))++B)=A++(_::(ps.map Gc++(Vx ss::B)));rw[List.cons_append,ZE];rfl
  refine Zj (hl e0 ea) fun z ez=>?_;subst ez
  have lo:(jn ["form",nm,"choice",opn o]).length<=1000:=by
   have:=Mv ["form",nm,"choice",opn o];have:("form" : Str).length=4:=rfl;have:("choice" : Str).length=6:=rfl;have:(opn o).length<=6:=by cases o<;>decide +kernel
   simp only[Vm,List.map_nil,List.sum_cons,List.sum_nil]at *;omega
  refine Ri (ws:=["form",nm,"choice",opn o]) (Vq (fun x m=>?_) fun z=>nomatch z) lo ?_
  .simp only[Y6,Vy,or_false]at m;rcases m with rfl | rfl | rfl | rfl
   .unfold Gk;decide +kernel
   .exact nf
   .unfold Gk;decide +kernel
   .cases o<;>(unfold Gk;decide +kernel)
  refine Zj (hm hn) fun z ez=>?_;subst ez;have fl:(Z6 nm (.cho ps ss o)).length=2+ps.length:=by show (ps.map Gc++[Vx ss]).length+1=_;rw[Yl,Zn];show ps.length+1+1=_;omega
  cases o with
  | false=>exact Sx (z:="closed") (o:=false) G hp hi hk (by decide +kernel) or hd e0 ea fun n _ _ _ _ _ _ en=>rt _ _ ⟨n,by rw[en,fl];omega,rfl⟩
  | true=>exact Sx (z:="open") (o:=true) G hp hi hk (by decide +kernel) or hd e0 ea fun n _ _ _ _ _ _ en=>rt _ _ ⟨n,by rw[en,fl];omega,rfl⟩
 | whole b c =>
  obtain⟨R5,R4⟩:=Ju hn os;refine Zj (hl e ea) fun z ez=>?_;subst ez;refine Ri (Vq R5 fun z=>nomatch z) R4 ?_;refine Zj (hm hn) fun z ez=>?_;subst ez;refine Zj (hs os rfl) fun z ez=>?_;subst ez;refine Cz (s:=.whole b c) (by omega) ?_;exact rt _ _ ⟨a+1,by rw[ea];rfl,rfl⟩
 | truth =>
  obtain⟨R5,R4⟩:=Ju hn os;refine Zj (hl e ea) fun z ez=>?_;subst ez;refine Ri (Vq R5 fun z=>nomatch z) R4 ?_;refine Zj (hm hn) fun z ez=>?_;subst ez;refine Zj (hs os rfl) fun z ez=>?_;subst ez;refine Cz (s:=.truth) (by omega) ?_;exact rt _ _ ⟨a+1,by rw[ea];rfl,rfl⟩
 | text n =>
  obtain⟨R5,R4⟩:=Ju hn os;refine Zj (hl e ea) fun z ez=>?_;subst ez;refine Ri (Vq R5 fun z=>nomatch z) R4 ?_;refine Zj (hm hn) fun z ez=>?_;subst ez;refine Zj (hs os rfl) fun z ez=>?_;subst ez;refine Cz (s:=.text n) (by omega) ?_;exact rt _ _ ⟨a+1,by rw[ea];rfl,rfl⟩
 | many o ty n =>
  obtain⟨R5,R4⟩:=Ju hn os;have go:=os.1;rcases go with rfl | rfl
  all_goals
   refine Zj (hl e ea) fun z ez=>?_;subst ez;refine Ri (Vq R5 fun z=>nomatch z) R4 ?_;refine Zj (hm hn) fun z ez=>?_;subst ez;refine Zj (hs os rfl) fun z ez=>?_;subst ez
  .refine Cz (s:=.many "row" ty n) (by omega) ?_;exact rt _ _ ⟨a+1,by rw[ea];rfl,rfl⟩
  .refine Cz (s:=.many "map" ty n) (by omega) ?_;exact rt _ _ ⟨a+1,by rw[ea];rfl,rfl⟩
noncomputable def Gy(l:List (Str×Sh))(ns:ZD):List (Str×Sh):=ns.map fun x=>(x,Yx l x)
theorem Ny(l:List (Str×Sh))(ns:ZD):(Gy l ns).map (·.1)=ns:=by
 unfold Gy;rw[List.map_map];exact List.map_id _
theorem Fp{l:List (Str×Sh)}{x:Str}:∀{ns:ZD},x∈ns->Yx (Gy l ns) x=Yx l x
 | [],m=>absurd m Vy
 | y::ns,m=>by
  by_cases e:y=x
  .subst e;unfold Yx Gy;rw[Vm,List.find?_cons_of_pos (by exact Ub rfl)];rfl
  .have h:Yx (Gy l (y::ns)) x=Yx (Gy l ns) x:=by unfold Yx Gy;rw[Vm,List.find?_cons_of_neg (by intro z;exact e (Q0 z))]
   rw[h];exact Fp ((Y6.mp m).resolve_left fun z=>e z.symm)
theorem Iv{x:Str}{s:Sh}:∀{l:List (Str×Sh)},(l.map (·.1)).Nodup->(x,s)∈l->Yx l x=s
 | [],_,m=>absurd m Vy
 | (y,u)::l,nd,m=>by
  rw[Vm,List.nodup_cons]at nd;rcases Y6.mp m with m | m
  .cases m;unfold Yx;rw[List.find?_cons_of_pos (by exact Ub rfl)];rfl
  .have ne:y≠x:=fun z=>nd.1 (by rw[z];exact List.mem_map_of_mem (f:=(·.1)) m);have h:Yx ((y,u)::l) x=Yx l x:=by unfold Yx;rw[List.find?_cons_of_neg (by intro z;exact ne (Q0 z))]
   rw[h];exact Iv nd.2 m
theorem Sm{l:List (Str×Sh)}(nd:(l.map (·.1)).Nodup):Gy l (l.map (·.1))=l:=by
 unfold Gy;rw[List.map_map]
 have:∀q∈l,((fun x=>(x,Yx l x)) ∘ (·.1)) q=q:=fun q m=>by
  show (q.1,Yx l q.1)=q;rw[Iv nd m]
 rw[List.map_congr_left this];exact List.map_id _
theorem wc{a b:ZD}(h:a.Perm b):SRT.Mz a=SRT.Mz b :=
 List.Perm.eq_of_pairwise (le:=fun a b=>SRT.Q5 a b=true) (fun a b _ _ h1 h2=>SRT.Ma h1 h2) (SRT.Gu _) (SRT.Gu _) ((SRT.Z7 _).trans (h.trans (SRT.Z7 _).symm))
structure Ord(l:List (Str×Sh))(ns:ZD):Prop where
 m:Qe l
 p:ns.Perm (l.map (·.1))
theorem Ord.nms{l:List (Str×Sh)}{ns:ZD}(h:Ord l ns):Z9 (Gy l ns)=Z9 l:=by
 unfold Z9;rw[Ny];exact wc h.p
theorem Ord.mem{l:List (Str×Sh)}{ns:ZD}(h:Ord l ns){x:Str}(m:x∈Z9 l):x∈ns:=h.p.mem_iff.mpr ((SRT.Z7 _).mem_iff.mp m)
theorem Ord.okM{l:List (Str×Sh)}{ns:ZD}(h:Ord l ns):Qe (Gy l ns):=by
 refine⟨fun q m=>?_,by rw[Ny];exact h.p.nodup_iff.mpr h.m.nd, ?_⟩
 .obtain⟨x,mx,rfl⟩:=Ra.mp m;obtain⟨h1,_⟩:=Jf (h.p.mem_iff.mp mx);exact h.m.m _ h1
 .have:=h.p.length_eq;unfold Gy;rw[Zn];rw[Zn]at this;have:=h.m.ln;omega
theorem Ord.lines{l:List (Str×Sh)}{ns:ZD}(h:Ord l ns)(r:Str):linesOf r (Gy l ns)=linesOf r l:=by
 unfold linesOf;rw[h.nms]
 congr 1
 have:∀xs:ZD,(∀x∈xs,x∈Z9 l)->(xs.flatMap fun x=>Z6 x (Yx (Gy l ns) x))=xs.flatMap fun x=>Z6 x (Yx l x):=fun xs=>by
  induction xs with
  | nil=>exact fun _=>rfl
  | cons x xs ih =>
   intro g;rw[List.flatMap_cons,List.flatMap_cons,ih fun y m=>g y (Vi _ m),Fp (h.mem (g x Ye))]
 exact this _ fun _ m=>m
theorem Ord.self{l:List (Str×Sh)}(h:Qe l):Ord l (l.map (·.1)):=⟨h,.refl _⟩
theorem Ord.srt{l:List (Str×Sh)}(h:Qe l):Ord l (Z9 l):=⟨h,SRT.Z7 _⟩
theorem Ord.rev{l:List (Str×Sh)}(h:Qe l):Ord l (l.map (·.1)).reverse:=⟨h,List.reverse_perm _⟩
theorem ym{l:List (Str×Sh)}{ds:ZD}{y:Str}(h:y ∉ ds):putD (Gy l ds) y (Yx l y)=Gy l (ds++[y]):=by
 unfold putD;rw[if_neg ?_]
 .unfold Gy;rw[Q2];rfl
 .intro z;obtain⟨q,mq,e⟩:=List.any_eq_true.mp z;obtain⟨x,mx,rfl⟩:=Ra.mp mq;exact h (by rw[<-show x=y from Q0 e];exact mx)
theorem Qh(l:List (Str×Sh))(ns:ZD):(Gy l ns).length=ns.length:=by unfold Gy;rw[Zn]
def cw(C:Cs):Prop:=∀{r:Str} {l:List (Str×Sh)},r∈V2->Qe l->l≠[]->on (C "read_make" [.f (.lst ((linesOf r l).map .str))]) fun z=>z=(.f (.tup [.str r,.dct (Zg (Gy l (Z9 l)))]),[])
theorem L5{w:W}(hl:Xv w.C)(hn:Lj w.C)(hf:Zqd w.C){r:Str}{l:List (Str×Sh)}(hr:r∈V2)(hm:Qe l)(ne:l≠[]):wF Uo w [.f (.lst ((linesOf r l).map .str))] fun z=>z=(.f (.tup [.str r,.dct (Zg (Gy l (Z9 l)))]),[]):=by
 have l8:=(Zs hr).2;have nnd:(Z9 l).Nodup:=(SRT.Z7 _).nodup_iff.mpr hm.nd;have nln:(Z9 l).length<=20:=by rw[V8];exact hm.ln
 refine Yn rfl fun D rt _=>?_;refine Zj (hl (A:=[]) (x:=jn ["make",r]) rfl rfl) fun z ez=>?_;subst ez;refine Ri (ws:=["make",r]) (Vq (fun x m=>?_) fun z=>nomatch z) ?_ ?_
 .simp only[Y6,Vy,or_false]at m;rcases m with rfl | rfl
  .unfold Gk;decide +kernel
  .exact N1 hr
 .have:=Mv ["make",r];have:("make" : Str).length=4:=rfl;simp only[Vm,List.map_nil,List.sum_cons,List.sum_nil]at *;omega
 refine Zj (hn hr) fun z ez=>?_;subst ez;refine whS ?_;refine wWhI (fun m p=>∃(ds rs:ZD) (a:Int),p=[.f (.lst ((linesOf r l).map .str)),.o (.lst [.str "make",.str r]),.o (.dct (Zg (Gy l ds))),.f (.int a)]/\ds++rs=Z9 l/\m=rs.length/\a=((1+(ds.flatMap fun x=>Z6 x (Yx l x)).length:Nat))) (fun m p K hi kt kf=>?_) (Z9 l).length 1000000 _ (by omega) ⟨[],Z9 l,1,rfl,rfl,rfl,rfl⟩;obtain⟨ds,rs,a,rfl,ed,em,ea⟩:=hi
 have el:((linesOf r l).map T.str).length=1+(ds.flatMap fun x=>Z6 x (Yx l x)).length+(rs.flatMap fun x=>Z6 x (Yx l x)).length:=by
  unfold linesOf;rw[Zn,Yo, <-ed,List.flatMap_append,Yl];omega
 cases rs with
 | nil =>
  rw[XZ]at ed;refine Yc (b:=decide (a<(((linesOf r l).map T.str).length:Nat))) (fun h=>?_) fun _=>?_
  .have h:=Q0 h;rw[el,ea]at h;rw[List.flatMap_nil,List.length_nil]at h;omega
  have e0:decide ((((Zg (Gy l ds)).length:Nat):Int)=0)=false:=Dj fun h=>by
   unfold Zg at h;rw[Zn,Qh,ed,V8]at h;exact absurd (List.eq_nil_of_length_eq_zero (by omega)) ne
  show K (decide ((((Zg (Gy l ds)).length:Nat):Int)=0)) _;rw[e0];refine kf _ (rt _ _ ?_);show (Sl.f (T.tup [.str r,.dct (Zg (Gy l ds))]),_)=_;rw[ed]
 | cons y rs =>
  have my:y∈Z9 l:=by rw[<-ed];exact Ta _ Ye
  obtain⟨a1,a2,a3⟩:=hm.at my
  have yn:y ∉ ds:=fun m=>by
   have:=nnd;rw[<-ed]at this;exact(List.nodup_append.mp this).2.2 y m y Ye rfl
  have ln1:=(Dm (nm:=y) a2).1;refine Yc (b:=decide (a<(((linesOf r l).map T.str).length:Nat))) (fun _=>?_) fun h=>?_
  rotate_left
  .have h:=of_decide_eq_false h;rw[el,ea,List.flatMap_cons,Yl]at h;omega
  refine kt _ fun D' nx _ _ _=>?_
  have ls:linesOf r l=(jn ["make",r]::ds.flatMap fun x=>Z6 x (Yx l x))++(Z6 y (Yx l y)++rs.flatMap fun x=>Z6 x (Yx l x)):=by
   unfold linesOf;rw[<-ed,List.flatMap_append,List.flatMap_cons];rfl
  have ld:ds.length<=20:=by have:=congrArg List.length ed;rw[Yl]at this;omega
  refine Zj (hf (d:=Gy l ds) (a:=a) ls (by rw[ea,Yo];omega) a1 a2 (by rw[Qh];omega)) fun z ⟨n,en,ez⟩=>?_;subst ez;refine nx rs.length _ (by rw[em];exact Nat.lt_succ_self _) ⟨ds++[y],rs,n, ?_,by rw[ZE];exact ed,rfl, ?_⟩
  .rw[<-ym yn];rfl
  .rw[en,List.flatMap_append,Yl,List.flatMap_singleton,Yo];omega
structure Rh(k d:Nat)(t:T):Prop where
 o:c8 20 t
 w:wtT t<=k
 d:dpT t<=d
structure Zm(k d:Nat)(ts:ZZ):Prop where
 o:Cd 20 ts
 w:Ek ts<=k
 d:xm ts<=d
theorem Zm.nil{d:Nat}:Zm 0 d []:=⟨trivial,Z5 _,Bw _⟩
theorem Zm.cons{a b d:Nat}{t:T}{r:ZZ}(h:Rh a d t)(g:Zm b d r):Zm (a+1+b) d (t::r):=⟨⟨h.o,g.o⟩,by have:=h.w;have:=g.w;show wtT t+1+Ek r<=_;omega,Nat.max_le.mpr ⟨h.d,g.d⟩⟩
theorem Zm.tup{k d:Nat}{ts:ZZ}(h:Zm k d ts)(hl:ts.length<=20):Rh k (d+1) (.tup ts):=⟨⟨hl,h.o⟩,h.w,Nat.succ_le_succ h.d⟩
theorem Zm.lst{k d:Nat}{ts:ZZ}(h:Zm k d ts)(hl:ts.length<=20):Rh k (d+1) (.lst ts):=⟨⟨hl,h.o⟩,h.w,Nat.succ_le_succ h.d⟩
theorem Rh.mono{k d k' d':Nat}{t:T}(h:Rh k d t)(hk:k<=k')(hd:d<=d'):Rh k' d' t:=⟨h.o,Ut h.w hk,Ut h.d hd⟩
theorem Zm.all{k d:Nat}:∀{ts:ZZ},(∀t∈ts,Rh k d t)->Zm ((k+1) * ts.length) d ts
 | [],_=>⟨trivial,Bw _,Bw _⟩
 | t::ts,h=>by
  have h1:=h t Ye;have h2:=Zm.all fun u m=>h u (Vi t m);have:=Zm.cons h1 h2;refine⟨this.o,Ut this.w ?_,this.d⟩;rw[Yo,Nat.mul_succ];omega
theorem Ls{i:Int}{d:Nat}(h:Bq i):Rh 70 d (.int i):=⟨Nat.le_of_lt h,Z5 _,Bw _⟩
theorem tBl{b:Bool}{d:Nat}:Rh 0 d (.bl b):=⟨trivial,Z5 _,Bw _⟩
theorem tNm{x:Str}{d:Nat}(h:x∈V2):Rh 8 d (.str x):=⟨(show ∀x∈V2,∀c∈x.cps.toList,c<16 ^ 8 by decide +kernel) x h,(Zs h).2,Bw _⟩
theorem tTx{x:Str}{d:Nat}(hl:x.length<=200)(h:∀c∈cp x,c∈cp cq):Rh 200 d (.str x):=⟨fun c m=>(show ∀c∈cp cq,c<16 ^ 8 by decide +kernel) c (h c m),hl,Bw _⟩
theorem tDl{d:Dl}(h:c0 d):Rh 201 2 d.t:=by
 cases d with
 | must=>exact((Zm.nil (d:=0)).tup (by decide)).mono (Bw _) (by decide)
 | none=>exact((Zm.cons (d:=1) ((Zm.nil (d:=0)).tup (by decide)) Zm.nil).tup (show 1<=20 by decide)).mono (by decide) (Z5 2)
 | truth b=>exact((Zm.cons (d:=0) tBl Zm.nil).tup (show 1<=20 by decide)).mono (by decide) (by decide)
 | whole i=>exact((Zm.cons (d:=0) (Ls (Z4 h)) Zm.nil).tup (show 1<=20 by decide)).mono (by decide) (by decide)
 | text x=>exact((Zm.cons (d:=0) (tTx h.1 h.2) Zm.nil).tup (show 1<=20 by decide)).mono (by decide) (by decide)
theorem tPt{p:Pt}(h:Lw p):Rh 291 3 p.t:=((Zm.cons (Ls h.n.sml) (Zm.cons (tNm h.nm) (Zm.cons (tNm h.ty) (Zm.cons (tDl h.d) Zm.nil)))).tup (show 4<=20 by decide)).mono (by decide) (Z5 3)
theorem tPa{p:Pt}(h:Lw p):Rh 291 3 p.a:=((Zm.cons (d:=0) (Ls h.n.sml) (Zm.cons (tNm h.nm) (Zm.cons (tNm h.ty) Zm.nil))).tup (show 3<=20 by decide)).mono (by decide) (by decide)
theorem tTg{x:Str}{d:Nat}(hl:x.length<=8)(h:∀c∈x.cps.toList,c<16 ^ 8):Rh 8 d (.str x):=⟨h,hl,Bw _⟩
theorem tNs{ss:ZL}{d:Nat}(hl:ss.length<=4)(h:∀u∈ss,Num u):Rh 284 (d+1) (.tup (ss.map .int)):=by
 have h1:∀t∈ss.map T.int,Rh 70 d t:=fun t m=>by obtain⟨u,mu,rfl⟩:=Ra.mp m;exact Ls (h u mu).sml
 exact((Zm.all h1).tup (by rw[Zn];omega)).mono (by rw[Zn];omega) (Z5 _)
theorem tSh{s:Sh}(h:Q9 s):Rh 3000 5 s.t:=by
 cases s with
 | whole a b=>exact((Zm.cons (d:=0) (tTg (x:="whole") (by decide +kernel) (by decide +kernel)) (Zm.cons (Ls (Z4 h.1)) (Zm.cons (Ls (Z4 h.2)) Zm.nil))).tup (show 3<=20 by decide)).mono (by decide) (by decide)
 | truth=>exact((Zm.cons (d:=0) (tTg (x:="truth") (by decide +kernel) (by decide +kernel)) Zm.nil).tup (show 1<=20 by decide)).mono (by decide) (by decide)
 | text n=>exact((Zm.cons (d:=0) (tTg (x:="text") (by decide +kernel) (by decide +kernel)) (Zm.cons (Ls (Yv h)) Zm.nil)).tup (show 2<=20 by decide)).mono (by decide) (by decide)
 | many o ty n =>
  obtain⟨ho,ht,n0,n1⟩:=h;have S9:Bq n:=Yv ⟨n0,by omega⟩;rcases ho with rfl | rfl
  .exact((Zm.cons (d:=0) (tTg (x:="row") (by decide +kernel) (by decide +kernel)) (Zm.cons (tNm ht) (Zm.cons (Ls S9) Zm.nil))).tup (show 3<=20 by decide)).mono (by decide) (by decide)
  .exact((Zm.cons (d:=0) (tTg (x:="map") (by decide +kernel) (by decide +kernel)) (Zm.cons (tNm ht) (Zm.cons (Ls S9) Zm.nil))).tup (show 3<=20 by decide)).mono (by decide) (by decide)
 | recd ps ss =>
  obtain⟨h1,h2,h3,h4⟩:=h;have hp:Rh 2336 4 (.tup (ps.map Pt.t)):=((Zm.all (k:=291) (d:=3) fun t m=>by obtain⟨p,mp,rfl⟩:=Ra.mp m;exact tPt (h2 p mp)).tup (by rw[Zn];omega)).mono (by rw[Zn];omega) (Z5 _);exact((Zm.cons (d:=4) (tTg (x:="record") (by decide +kernel) (by decide +kernel)) (Zm.cons hp (Zm.cons (tNs h3 h4) Zm.nil))).tup (show 3<=20 by decide)).mono (by decide) (Z5 5)
 | cho ps ss o =>
  obtain⟨h1,h2,h3,h4⟩:=h;have hp:Rh 2336 4 (.tup (ps.map Pt.a)):=((Zm.all (k:=291) (d:=3) fun t m=>by obtain⟨p,mp,rfl⟩:=Ra.mp m;exact tPa (h2 p mp)).tup (by rw[Zn];omega)).mono (by rw[Zn];omega) (Z5 _);exact((Zm.cons (d:=4) (tTg (x:="choice") (by decide +kernel) (by decide +kernel)) (Zm.cons hp (Zm.cons (tNs h3 h4) (Zm.cons tBl Zm.nil)))).tup (show 4<=20 by decide)).mono (by decide) (Z5 5)
noncomputable def R6(l:List (Str×Sh)):ZZ:=(Z9 l).map fun x=>.tup [.str x,(Yx l x).t]
theorem wm:∀l:List (Str×Sh),Ro (Zg l)=some (l.map (·.1))
 | []=>rfl
 | q::l=>by show (Ro (Zg l)).map _=_;rw[wm l];rfl
theorem Ord.its{l:List (Str×Sh)}{ns:ZD}(h:Ord l ns):k9 [.dct (Zg (Gy l ns))]=some (.o (.lst (R6 l))):=by
 show (Ro (Zg (Gy l ns))).bind _=_;rw[wm,Ny];show (if ns.Nodup/\ns.length<64 then _ else _)=_;have hl:=h.p.length_eq;rw[Zn]at hl;have:=h.m.ln;rw[if_pos ⟨h.p.nodup_iff.mpr h.m.nd,by omega⟩]
 congr 3
 unfold R6 Z9;rw[wc h.p];refine List.map_congr_left fun x m=>?_;have mx:x∈ns:=h.p.mem_iff.mpr ((SRT.Z7 _).mem_iff.mp m);rw[(Jf (l:=Gy l ns) (by rw[Ny];exact mx)).2,Fp mx]
 rfl
theorem itsP{l:List (Str×Sh)}{ns:ZD}{Q:Sl->Prop}(h:Ord l ns)(q:Q (.o (.lst (R6 l)))):on (k9 [.dct (Zg (Gy l ns))]) Q:=Ya h.its q
theorem rp_ex{r:Str}{l:List (Str×Sh)}(hr:r∈V2)(h:Qe l):∃z,rpT (.tup [.str r,.lst (R6 l)])=some z:=by
 have hl:(R6 l).length<=20:=by unfold R6;rw[Zn,V8];exact h.ln
 have h1:∀t∈R6 l,Rh 3010 6 t:=fun t m=>by
  obtain⟨x,mx,rfl⟩:=Ra.mp m;obtain⟨a1,a2,_⟩:=h.at mx;exact((Zm.cons (tNm a1) (Zm.cons (tSh a2) Zm.nil)).tup (show 2<=20 by decide)).mono (by decide) (Z5 6)
 have h2:Rh 60220 7 (.lst (R6 l)):=((Zm.all h1).lst hl).mono (by omega) (Z5 7);have h3:=(Zm.cons (tNm (d:=7) hr) (Zm.cons h2 Zm.nil)).tup (show 2<=20 by decide);exact rpT_ok h3.o (Ut h3.w (by decide)) (Ut h3.d (by decide))
theorem rpP{r:Str}{l:List (Str×Sh)}{z:Str}{Q:Sl->Prop}(e:rpT (.tup [.str r,.lst (R6 l)])=some z)(q:Q (.f (.str z))):on ((rpT (.tup [.str r,.lst (R6 l)])).map fun z=>Sl.f (.str z)) Q:=Ya (by rw[e];rfl) q
def Hv(C:Cs):Prop:=∀{r:Str} {l:List (Str×Sh)} {ns ms:ZD},r∈V2->Ord l ns->Ord l ms->on (C "_law_alike" [.f (.tup [.str r,.dct (Zg (Gy l ns))]),.f (.tup [.str r,.dct (Zg (Gy l ms))])]) fun z=>z=(.f (.bl true),[])
theorem t9{w:W}{r:Str}{l:List (Str×Sh)}{ns ms:ZD}(hr:r∈V2)(h:Ord l ns)(g:Ord l ms):wF U3 w [.f (.tup [.str r,.dct (Zg (Gy l ns))]),.f (.tup [.str r,.dct (Zg (Gy l ms))])] fun z=>z=(.f (.bl true),[]):=by
 obtain⟨z,ez⟩:=rp_ex hr h.m;refine Yn rfl fun D rt _=>?_;refine itsP h ?_;refine rpP ez ?_;refine itsP g ?_;refine rpP ez ?_;refine rt _ _ ?_;show (Sl.f (T.bl (decide (z=z))),_)=_;rw[Ub rfl]
theorem eq_self:∀ss:ZD,Ka (ss.map .str) (ss.map .str)=some true
 | []=>rfl
 | s::ss=>by
  show (some (decide (s=s))).bind _=_;rw[Ub rfl];show (Ka (ss.map .str) (ss.map .str)).map (true && ·)=_;rw[eq_self ss];rfl
theorem neP{ss:ZD}{Q:Sl->Prop}(q:Q (.f (.bl false))):on ((Ww .ne (.lst (ss.map .str)) (.lst (ss.map .str))).map fun r=>Sl.f (.bl r)) Q:=Ya (by show ((Ka (ss.map .str) (ss.map .str)).map not).map _=_;rw[eq_self];rfl) q
theorem zo{r:Str}{l:List (Str×Sh)}(h:Qe l):(linesOf r l).length<=201:=by
 have:=M8 h (xs:=Z9 l) fun _ m=>m;rw[V8]at this;have:=h.ln;unfold linesOf;rw[Yo];omega
def Zqc(C:Cs):Prop:=∀zs:ZL,on (C "_law_feed" [.f (.lst (zs.map .int))]) fun x=>∃us,us≠[]/\x=(.o (feed us 0 0 0),[])
theorem gy{w:W}(hs:cj w.C)(hr:cw w.C)(ha:Hv w.C){r:Str}{l:List (Str×Sh)}{ns:ZD}(mr:r∈V2)(om:Qe l)(ne:l≠[])(o:Ord l ns){D:En}{z0 fd tu:T}{s2 s6 s8 s9:Sl}
  (nx:∀s8 s9,D.nx [.f z0,.o fd,s2,.f (.tup [.str r,.dct (Zg l)]),.o (.lst ((linesOf r l).map .str)),.f tu,s6,.f (.tup [.str r,.dct (Zg (Gy l ns))]),s8,s9]) :
  wS w (Jp [.f z0]) (lpB (Uh 4 (lpB (Uh 1 Zqj)))) [.f z0,.o fd,s2,.f (.tup [.str r,.dct (Zg l)]),.o (.lst ((linesOf r l).map .str)),.f tu,s6,.f (.tup [.str r,.dct (Zg (Gy l ns))]),s8,s9] D:=by
 have sl:=sizeLine_eq
 have al:∀ms,Ord l ms->on (w.C "_law_alike" [.f (.tup [.str r,.dct (Zg (Gy l ms))]),.f (.tup [.str r,.dct (Zg l)])]) fun z=>z=(.f (.bl true),[]):=fun ms g=>by
  have:=ha mr g (Ord.self om);rw[Sm om.nd]at this;exact this
 have sh:on (w.C "shown_make" [.f (.tup [.str r,.dct (Zg (Gy l ns))])]) fun z=>z=(.o (.lst ((linesOf r l).map .str)),[]):=by
  have:=hs mr o.okM;rw[o.lines r]at this;exact this
 have ll:=zo (r:=r) om;refine Zj sh fun x e=>?_;subst e;refine neP ?_;refine Zj (al ns o) fun x e=>?_;subst e;refine Zj (hr mr om ne) fun x e=>?_;subst e;refine Zj (al _ (Ord.srt om)) fun x e=>?_;subst e;refine neP ?_;refine tm (by rw[Zn];omega) ?_;refine Ya (PV.strs_map _) ?_;refine Zj (hr mr om ne) fun x e=>?_;subst e;refine Zj sh fun x e=>?_;subst e;refine neP ?_;refine Zj (hr mr om ne) fun x e=>?_;subst e;refine Zj (al _ (Ord.srt om)) fun x e=>?_;subst e;exact nx _ _
theorem law_ok{w:W}(hf:Zqc w.C)(hm:Zqm w.C)(hl:Xy w.C)(hs:cj w.C)(hr:cw w.C)(ha:Hv w.C)(zs:ZL):wF C3 w [.f (.lst (zs.map .int))] fun x=>x=(.f (.bl true),[]):=by
 refine Yn rfl fun D rt _=>?_;refine Zj (hf zs) fun x ⟨us,une,e⟩=>?_;subst e;refine Mn (fun rest p=>∃(i k n:Int) (s2 s3 s4 s5 s6 s7 s8 s9:Sl),p=[.f (.lst (zs.map .int)),.o (feed us i k n),s2,s3,s4,s5,s6,s7,s8,s9]/\0<=n/\n+2000 * (rest.length:Nat)<=6000) ⟨_,_,_,_,_,_,_,_,_,_,_,rfl,Int.le_refl 0,by decide⟩ (fun x rest p D' hi nx _=>?_) fun p hi=>?_
 rotate_left
 .obtain⟨i,k,n,s2,s3,s4,s5,s6,s7,s8,s9,rfl,h0,h1⟩:=hi;exact rt _ _ rfl
 obtain⟨i,k,n,s2,s3,s4,s5,s6,s7,s8,s9,rfl,h0,h1⟩:=hi;rw[Yo]at h1;refine Zj (hm une h0 (by omega)) fun x' ⟨r,l,i,k,n',mr,ol,ne,ll,n1,n2,e⟩=>?_;subst e;have om:Qe l:=⟨fun q m=>⟨(ol.1 q m).1,okS (ol.1 q m).2⟩,ol.2,ll⟩;refine Zj (hl mr om) fun x' e=>?_;subst e;refine Mn (fun rest p=>∃(s2 s6 s7 s8 s9:Sl) (ds rs:ZD),p=[.f (.lst (zs.map .int)),.o (feed us i k n'),s2,.f (.tup [.str r,.dct (Zg l)]),.o (.lst ((linesOf r l).map .str)),.o (.dct (Zg (Gy l ds))),s6,s7,s8,s9]/\rest=rs.map .str/\ds++rs=(l.map (·.1)).reverse) ⟨_,_,_,_,_,[],(l.map (·.1)).reverse,rfl, ?_,rfl⟩ (fun y rest' p D2 hi nx2 _=>?_) fun p hi=>?_
 .rw[g9,List.map_reverse]
 .obtain⟨s2,s6,s7,s8,s9,ds,rs,rfl,er,e⟩:=hi;cases rs with
  | nil=>cases er
  | cons y rs =>
  cases er;have ye:y∈l.map (·.1):=List.mem_reverse.mp (by rw[<-e];exact Ta _ Ye);have nd:(ds++y::rs).Nodup:=by rw[e];exact(List.reverse_perm _).nodup_iff.mpr om.nd
  have yn:y ∉ ds:=fun m=>(List.nodup_append.mp nd).2.2 y m y Ye rfl;have ld:ds.length<=20:=by have:=congrArg List.length e;rw[Yl,List.length_reverse,Zn]at this;omega
  refine ip (Jf ye).2 ?_;refine Cz (s:=Yx l y) (by rw[Qh];omega) ?_;rw[ym yn];exact nx2 _ ⟨_,_,_,_,_,ds++[y],rs,rfl,rfl,by rw[ZE];exact e⟩
 .obtain⟨s2,s6,s7,s8,s9,ds,rs,rfl,er,e⟩:=hi;cases rs with
  | cons _ _=>cases er
  | nil =>
  rw[XZ]at e;subst e;have o1:=Ord.self om;have fst:=fun {D:En} {z0 fd tu:T} {s2 s6 s8 s9:Sl}=>gy (w:=w) hs hr ha mr om ne (ns:=l.map (·.1)) o1 (D:=D) (z0:=z0) (fd:=fd) (tu:=tu) (s2:=s2) (s6:=s6) (s8:=s8) (s9:=s9);rw[Sm om.nd]at fst;refine fst fun s8 s9=>?_;refine gy (w:=w) hs hr ha mr om ne (Ord.rev om) fun s8 s9=>?_;exact nx _ ⟨_,_,_,_,_,_,_,_,_,_,_,rfl,by omega,by omega⟩
noncomputable def tabA:List (Str×Df):=[("is_text",Dc),("is_name",Dr),("shown_make",V4),("shown_form",V5),("shown_field",Vl),("shown_arm",Ua),("shown_struck",Vv),("shown_default",Y0),("read_make",Uo),("line_at",Dt),("read_form",Ui),("struck_place",Vj),("single_shape",Vw),("field_in",Gj),("default_in",V7),("arm_in",Nx),("struck_in",Y5)]
noncomputable def tabB:List (Str×Df):=[("number_in",Ue),("item_whole_in",Y1),("whole_in",J4),("_law_feed",Gx),("_law_draw",Gq),("_law_names",U1),("_law_numbers",Vr),("_law_plain_shape",Yt),("_law_plain_value",Yd),("_law_struck",V6),("_law_parts",U0),("_law_make",Gz),("_law_default_words",Yw),("_law_lines",U2),("_law_part_lines",Yy),("_law_alike",U3),("law",C3)]
def tabL:List (Str×Df):=tabA++tabB
noncomputable def tab(f:Str):Option Df:=(tabL.find? fun p=>decide (p.1=f)).map (·.2)
noncomputable def gl(x:Str):Option T:=if x = "LETTERS" then some (.str LET) else if x = "SIGNS" then some (.str cq) else if x = "GREATEST_WHOLE" then some (.int 1000000000000000000) else if x = "GREATEST_NUMBER" then some (.int 999) else if x = "LONGEST_TEXT" then some (.int 200) else if x = "LONGEST_NAME" then some (.int 8) else if x = "MOST_PARTS" then some (.int 20) else if x = "FIGURES" then some (.str FIG) else if x = "MOST_FIGURES" then some (.int 19) else if x = "field_in" then some (.fn x) else if x = "arm_in" then some (.fn x) else none
noncomputable abbrev C(n:Nat):Cs:=Cn tab gl n
structure Lv(n:Nat)(D:Cs):Prop where
 e:D=C n
theorem Ds{n:Nat}{D:Cs}{f:Str}{d:Df}{as:List Sl}{Q:Sl×ZZ->Prop}(lv:Lv (n+1) D)(h:∀D,Lv n D->wF d ⟨D,gl⟩ as Q)(e:tab f=some d:=by kernel_rfl):on (D f as) Q:=by
 obtain rfl:=lv.e;exact callW e (h _ ⟨rfl⟩)
theorem gG:GL gl:=⟨by kernel_rfl,by kernel_rfl,by kernel_rfl,by kernel_rfl,by kernel_rfl,by kernel_rfl,by kernel_rfl,by kernel_rfl,by kernel_rfl,by kernel_rfl,by kernel_rfl⟩
theorem Kq(n:Nat){D:Cs}(lv:Lv (n+1) D):Nb D:=fun a b c d e=>Ds (d:=Gq) lv fun D lv=>Zzu (w:=⟨D,gl⟩)  a b c d e
theorem p_na(n:Nat){D:Cs}(lv:Lv (n+2) D):Hj D:=fun a b c d e=>Ds (d:=U1) lv fun D lv=>gr (w:=⟨D,gl⟩) (Kq n lv) a b c d e
theorem p_nu(n:Nat){D:Cs}(lv:Lv (n+2) D):Zqb D:=fun a b c=>Ds (d:=Vr) lv fun D lv=>Kv (w:=⟨D,gl⟩) (Kq n lv) a b c
theorem p_st(n:Nat){D:Cs}(lv:Lv (n+2) D):Xj D:=fun a b c=>Ds (d:=V6) lv fun D lv=>Xp (w:=⟨D,gl⟩) (Kq n lv) a b c
theorem p_pl(n:Nat){D:Cs}(lv:Lv (n+2) D):cv D:=fun a b c d e f=>Ds (d:=Yt) lv fun D lv=>y2 (w:=⟨D,gl⟩) (Kq n lv) a b c d e f
theorem p_va(n:Nat){D:Cs}(lv:Lv (n+2) D):PVal D:=fun a b c d=>Ds (d:=Yd) lv fun D lv=>val_ok (w:=⟨D,gl⟩) (Kq n lv) a b c d
theorem p_pa(n:Nat){D:Cs}(lv:Lv (n+3) D):cy D:=fun a b c d e f g=>Ds (d:=U0) lv fun D lv=>ke (w:=⟨D,gl⟩) (Kq (n+1) lv) (p_na n lv) (p_nu n lv) (p_va n lv) a b c d e f g
theorem p_ma(n:Nat){D:Cs}(lv:Lv (n+4) D):Zqm D:=fun a b c=>Ds (d:=Gz) lv fun D lv=>o9 (w:=⟨D,gl⟩) (Kq (n+2) lv) (p_na (n+1) lv) (p_pl (n+1) lv) (p_pa n lv) (p_st (n+1) lv) a b c
theorem p_fe(n:Nat){D:Cs}(lv:Lv (n+1) D):Zqc D:=fun a=>Ds (d:=Gx) lv fun D lv=>Zzk (w:=⟨D,gl⟩)  a
theorem p_sd(n:Nat){D:Cs}(lv:Lv (n+1) D):Zqn D:=fun a=>Ds (d:=Y0) lv fun D lv=>Nu (w:=⟨D,gl⟩)  a
theorem p_ld(n:Nat){D:Cs}(lv:Lv (n+1) D):Hw D:=fun a=>Ds (d:=Yw) lv fun D lv=>Cu (w:=⟨D,gl⟩)  a
theorem p_sf(n:Nat){D:Cs}(lv:Lv (n+2) D):Zqt D:=fun a=>Ds (d:=Vl) lv fun D lv=>T8 (w:=⟨D,gl⟩) (p_sd n lv) a
theorem p_sa(n:Nat){D:Cs}(lv:Lv (n+1) D):Zql D:=fun a=>Ds (d:=Ua) lv fun D lv=>Li (w:=⟨D,gl⟩)  a
theorem p_ss(n:Nat){D:Cs}(lv:Lv (n+1) D):Zqf D:=fun a b=>Ds (d:=Vv) lv fun D lv=>Be (w:=⟨D,gl⟩)  a b
theorem p_fo(n:Nat){D:Cs}(lv:Lv (n+3) D):cn D:=fun a b=>Ds (d:=V5) lv fun D lv=>R3 (w:=⟨D,gl⟩) (p_sf n lv) (p_sa (n+1) lv) (p_ss (n+1) lv) a b
theorem p_sh(n:Nat){D:Cs}(lv:Lv (n+4) D):cj D:=fun a b=>Ds (d:=V4) lv fun D lv=>R1 (w:=⟨D,gl⟩) (p_fo n lv) a b
theorem p_lp(n:Nat){D:Cs}(lv:Lv (n+2) D):cf D:=fun a b c=>Ds (d:=Yy) lv fun D lv=>Og (w:=⟨D,gl⟩) (p_ld n lv) a b c
theorem p_ll(n:Nat){D:Cs}(lv:Lv (n+3) D):Xy D:=fun a b=>Ds (d:=U2) lv fun D lv=>Fm (w:=⟨D,gl⟩) (p_lp n lv) a b
theorem p_wh(n:Nat){D:Cs}(lv:Lv (n+1) D):Qo D:=fun a=>Ds (d:=J4) lv fun D lv=>Pj (w:=⟨D,gl⟩) gG  a
theorem k7(n:Nat){D:Cs}(lv:Lv (n+1) D):Lj D:=fun a=>Ds (d:=Dr) lv fun D lv=>Km (w:=⟨D,gl⟩) gG  a
theorem p_tx(n:Nat){D:Cs}(lv:Lv (n+1) D):Zqg D:=fun a b=>Ds (d:=Dc) lv fun D lv=>Kb (w:=⟨D,gl⟩) gG  a b
theorem ae(n:Nat){D:Cs}(lv:Lv (n+2) D):Nf D:=fun a=>Ds (d:=Ue) lv fun D lv=>Fx (w:=⟨D,gl⟩) gG (p_wh n lv) a
theorem p_it(n:Nat){D:Cs}(lv:Lv (n+2) D):cb D:=fun a=>Ds (d:=Y1) lv fun D lv=>R7 (w:=⟨D,gl⟩) gG (p_wh n lv) a
theorem p_di(n:Nat){D:Cs}(lv:Lv (n+3) D):cu D:=fun a=>Ds (d:=V7) lv fun D lv=>Wj (w:=⟨D,gl⟩) gG (p_it n lv) (p_tx (n+1) lv) a
theorem p_fi(n:Nat){D:Cs}(lv:Lv (n+4) D):∀{p:Pt},Lw p->on (D "field_in" [.f (.str (Um p))]) fun z=>z=(.f p.t,[]):=fun a=>Ds (d:=Gj) lv fun D lv=>O1 (w:=⟨D,gl⟩) (ae (n+1) lv) (p_di n lv) (k7 (n+2) lv) a
theorem p_ar(n:Nat){D:Cs}(lv:Lv (n+3) D):∀{p:Pt},Lw p->on (D "arm_in" [.f (.str (Gc p))]) fun z=>z=(.f p.a,[]):=fun a=>Ds (d:=Nx) lv fun D lv=>x6 (w:=⟨D,gl⟩) (ae n lv) (k7 (n+1) lv) a
theorem p_me(n:Nat){D:Cs}(lv:Lv (n+4) D):Qi D:=fun {k p} h=>by
 cases k with
 | true=>exact p_fi n lv h
 | false=>exact p_ar (n+1) lv h
theorem p_sk(n:Nat){D:Cs}(lv:Lv (n+3) D):Zxj D:=fun a b=>Ds (d:=Y5) lv fun D lv=>Lp (w:=⟨D,gl⟩) (ae n lv) a b
theorem p_ns(n:Nat){D:Cs}(lv:Lv (n+3) D):cg D:=fun a b c d=>Ds (d:=Y5) lv fun D lv=>Fw (w:=⟨D,gl⟩) (ae n lv) a b c d
theorem p_li(n:Nat){D:Cs}(lv:Lv (n+1) D):Xv D:=fun a b=>Ds (d:=Dt) lv fun D lv=>Kg (w:=⟨D,gl⟩)  a b
theorem p_si(n:Nat){D:Cs}(lv:Lv (n+3) D):Xw D:=fun a b=>Ds (d:=Vw) lv fun D lv=>X1 (w:=⟨D,gl⟩) gG (p_wh (n+1) lv) (p_it n lv) (k7 (n+1) lv) a b
theorem p_pc(n:Nat){D:Cs}(lv:Lv (n+5) D):Hq D:=fun a b c=>Ds (d:=Vj) lv fun D lv=>place_ok (w:=⟨D,gl⟩) (p_li (n+3) lv) (p_sk (n+1) lv) (p_ns (n+1) lv) (p_me n lv) a b c
theorem p_rf(n:Nat){D:Cs}(lv:Lv (n+6) D):Zqd D:=fun a b c d e=>Ds (d:=Ui) lv fun D lv=>L6 (w:=⟨D,gl⟩) gG (p_li (n+4) lv) (k7 (n+4) lv) (p_pc n lv) (p_me (n+1) lv) (p_sk (n+2) lv) (p_si (n+2) lv) a b c d e
theorem p_rm(n:Nat){D:Cs}(lv:Lv (n+7) D):cw D:=fun a b c=>Ds (d:=Uo) lv fun D lv=>L5 (w:=⟨D,gl⟩) (p_li (n+5) lv) (k7 (n+5) lv) (p_rf n lv) a b c
theorem p_al(n:Nat){D:Cs}(lv:Lv (n+1) D):Hv D:=fun a b c=>Ds (d:=U3) lv fun D lv=>t9 (w:=⟨D,gl⟩)  a b c
theorem gu(zs:ZL):Pe C3 ⟨Cn tab gl 7,gl⟩ [.f (.lst (zs.map .int))]=some (.f (.bl true),[]):=by
 have key:∀D,Lv 7 D->wF C3 ⟨D,gl⟩ [.f (.lst (zs.map .int))] fun x=>x=(.f (.bl true),[]):=fun D lv=>law_ok (w:=⟨D,gl⟩) (p_fe 6 lv) (p_ma 3 lv) (p_ll 4 lv) (p_sh 3 lv) (p_rm 0 lv) (p_al 6 lv) zs;obtain⟨x,e,rfl⟩:=jv (key _ ⟨rfl⟩);exact e
end K21
namespace K21
open PySem PySem.Spec PyProof.Rows L2 PV
theorem Kh:FC "is_text" (top 10) Dc:=fun X G A=>A.fc (N:=["thing","most"]) X G (by decide +kernel) (by decide +kernel) fun _ _ _ _ _ _ us hl=>by obtain⟨_,_,rfl⟩:=qj hl;rfl
theorem Ku:FC "is_name" (top 11) Dr:=fun X G A=>A.fc (N:=["thing"]) X G (by decide +kernel) (by decide +kernel) fun _ _ _ _ _ _ us hl=>by obtain⟨_,rfl⟩:=Wc hl;rfl
theorem R8:FC "shown_make" (top 16) V4:=fun X G A=>A.fc (N:=["make","root","lines","name"]) X G (by decide +kernel) (by decide +kernel) fun _ _ _ _ _ _ us hl=>by obtain⟨_,rfl⟩:=Wc hl;rfl
theorem R9:FC "shown_form" (top 17) V5:=fun X G A=>A.fc (N:=["name","shape","ending"]) X G (by decide +kernel) (by decide +kernel) fun _ _ _ _ _ _ us hl=>by obtain⟨_,_,rfl⟩:=qj hl;rfl
theorem Ce:FC "shown_field" (top 18) Vl:=fun X G A=>A.fc (N:=["field"]) X G (by decide +kernel) (by decide +kernel) fun _ _ _ _ _ _ us hl=>by obtain⟨_,rfl⟩:=Wc hl;rfl
theorem F7:FC "shown_arm" (top 19) Ua:=fun X G A=>A.fc (N:=["arm"]) X G (by decide +kernel) (by decide +kernel) fun _ _ _ _ _ _ us hl=>by obtain⟨_,rfl⟩:=Wc hl;rfl
theorem B3:FC "shown_struck" (top 20) Vv:=fun X G A=>A.fc (N:=["struck"]) X G (by decide +kernel) (by decide +kernel) fun _ _ _ _ _ _ us hl=>by obtain⟨_,rfl⟩:=Wc hl;rfl
theorem N7:FC "shown_default" (top 21) Y0:=fun X G A=>A.fc (N:=["default","told"]) X G (by decide +kernel) (by decide +kernel) fun _ _ _ _ _ _ us hl=>by obtain⟨_,rfl⟩:=Wc hl;rfl
theorem F8:FC "read_make" (top 22) Uo:=fun X G A=>A.fc (N:=["texts","words","forms","at"]) X G (by decide +kernel) (by decide +kernel) fun _ _ _ _ _ _ us hl=>by obtain⟨_,rfl⟩:=Wc hl;rfl
theorem Ks:FC "line_at" (top 23) Dt:=fun X G A=>A.fc (N:=["texts","at"]) X G (by decide +kernel) (by decide +kernel) fun _ _ _ _ _ _ us hl=>by obtain⟨_,_,rfl⟩:=qj hl;rfl
theorem F9:FC "read_form" (top 24) Ui:=fun X G A=>A.fc (N:=["forms","texts","at","words","behind","end","fields","arms","shape"]) X G (by decide +kernel) (by decide +kernel) fun _ _ _ _ _ _ us hl=>by obtain⟨_,_,_,rfl⟩:=us3 hl;rfl
theorem B1:FC "struck_place" (top 25) Vj:=fun X G A=>A.fc (N:=["texts","at","member_in"]) X G (by decide +kernel) (by decide +kernel) fun _ _ _ _ _ _ us hl=>by obtain⟨_,_,_,rfl⟩:=us3 hl;rfl
theorem B2:FC "single_shape" (top 26) Vw:=fun X G A=>A.fc (N:=["words","shape"]) X G (by decide +kernel) (by decide +kernel) fun _ _ _ _ _ _ us hl=>by obtain⟨_,rfl⟩:=Wc hl;rfl
theorem O6:FC "field_in" (top 27) Gj:=fun X G A=>A.fc (N:=["text","words","number","default"]) X G (by decide +kernel) (by decide +kernel) fun _ _ _ _ _ _ us hl=>by obtain⟨_,rfl⟩:=Wc hl;rfl
theorem Wx:FC "default_in" (top 28) V7:=fun X G A=>A.fc (N:=["words","told"]) X G (by decide +kernel) (by decide +kernel) fun _ _ _ _ _ _ us hl=>by obtain⟨_,rfl⟩:=Wc hl;rfl
theorem xb:FC "arm_in" (top 29) Nx:=fun X G A=>A.fc (N:=["text","words","number"]) X G (by decide +kernel) (by decide +kernel) fun _ _ _ _ _ _ us hl=>by obtain⟨_,rfl⟩:=Wc hl;rfl
theorem Fe:FC "struck_in" (top 30) Y5:=fun X G A=>A.fc (N:=["text","words","numbers"]) X G (by decide +kernel) (by decide +kernel) fun _ _ _ _ _ _ us hl=>by obtain⟨_,rfl⟩:=Wc hl;rfl
theorem Qz:FC "number_in" (top 31) Ue:=fun X G A=>A.fc (N:=["word"]) X G (by decide +kernel) (by decide +kernel) fun _ _ _ _ _ _ us hl=>by obtain⟨_,rfl⟩:=Wc hl;rfl
theorem N8:FC "item_whole_in" (top 32) Y1:=fun X G A=>A.fc (N:=["word"]) X G (by decide +kernel) (by decide +kernel) fun _ _ _ _ _ _ us hl=>by obtain⟨_,rfl⟩:=Wc hl;rfl
theorem O2:FC "whole_in" (top 33) J4:=fun X G A=>A.fc (N:=["word","low","high","figures","n"]) X G (by decide +kernel) (by decide +kernel) fun _ _ _ _ _ _ us hl=>by obtain⟨_,_,_,rfl⟩:=us3 hl;rfl
theorem O4:FC "_law_feed" (top 35) Gx:=fun X G A=>A.fc (N:=["_law_script"]) X G (by decide +kernel) (by decide +kernel) fun _ _ _ _ _ _ us hl=>by obtain⟨_,rfl⟩:=Wc hl;rfl
theorem O5:FC "_law_draw" (top 36) Gq:=fun X G A=>A.fc (N:=["_law_feed_here","_law_many","_law_turn","_law_cell","_law_mixed","_law_digit"]) X G (by decide +kernel) (by decide +kernel) fun _ _ _ _ _ _ us hl=>by obtain⟨_,_,rfl⟩:=qj hl;rfl
theorem Qq:FC "_law_names" (top 37) U1:=fun X G A=>A.fc (N:=["_law_feed_here","_law_many","_law_some","_law_first","_law_step"]) X G (by decide +kernel) (by decide +kernel) fun _ _ _ _ _ _ us hl=>by obtain⟨_,_,rfl⟩:=qj hl;rfl
theorem C0:FC "_law_numbers" (top 38) Vr:=fun X G A=>A.fc (N:=["_law_feed_here","_law_most","_law_some"]) X G (by decide +kernel) (by decide +kernel) fun _ _ _ _ _ _ us hl=>by obtain⟨_,_,rfl⟩:=qj hl;rfl
theorem Mf:FC "_law_plain_shape" (top 39) Yt:=fun X G A=>A.fc (N:=["_law_feed_here","_law_names_here","_law_way","_law_low","_law_word"]) X G (by decide +kernel) (by decide +kernel) fun _ _ _ _ _ _ us hl=>by obtain⟨_,_,rfl⟩:=qj hl;rfl
theorem Mg:FC "_law_plain_value" (top 40) Yd:=fun X G A=>A.fc (N:=["_law_feed_here","_law_shape"]) X G (by decide +kernel) (by decide +kernel) fun _ _ _ _ _ _ us hl=>by obtain⟨_,_,rfl⟩:=qj hl;rfl
theorem Wz:FC "_law_struck" (top 41) V6:=fun X G A=>A.fc (N:=["_law_feed_here","_law_numbers_here"]) X G (by decide +kernel) (by decide +kernel) fun _ _ _ _ _ _ us hl=>by obtain⟨_,_,rfl⟩:=qj hl;rfl
theorem Qx:FC "_law_parts" (top 42) U0:=fun X G A=>A.fc (N:=["_law_feed_here","_law_names_here","_law_shapes","_law_called","_law_found","_law_k","_law_number","_law_inner","_law_default"]) X G (by decide +kernel) (by decide +kernel) fun _ _ _ _ _ _ us hl=>by obtain⟨_,_,_,rfl⟩:=us3 hl;rfl
theorem O3:FC "_law_make" (top 43) Gz:=fun X G A=>A.fc (N:=["_law_feed_here","_law_names_here","_law_shapes","_law_name","_law_way","_law_arms","_law_struck_here","_law_plain","_law_parts_here"]) X G (by decide +kernel) (by decide +kernel) fun _ _ _ _ _ _ us hl=>by obtain⟨_,rfl⟩:=Wc hl;rfl
theorem G3:FC "_law_default_words" (top 44) Yw:=fun X G A=>A.fc (N:=["_law_default"]) X G (by decide +kernel) (by decide +kernel) fun _ _ _ _ _ _ us hl=>by obtain⟨_,rfl⟩:=Wc hl;rfl
theorem Qj:FC "_law_lines" (top 45) U2:=fun X G A=>A.fc (N:=["_law_make_here","_law_lines_here","_law_name","_law_shape","_law_head"]) X G (by decide +kernel) (by decide +kernel) fun _ _ _ _ _ _ us hl=>by obtain⟨_,rfl⟩:=Wc hl;rfl
theorem M9:FC "_law_part_lines" (top 46) Yy:=fun X G A=>A.fc (N:=["_law_head","_law_shape","_law_lines_here","_law_part","_law_words"]) X G (by decide +kernel) (by decide +kernel) fun _ _ _ _ _ _ us hl=>by obtain⟨_,_,rfl⟩:=qj hl;rfl
theorem Qw:FC "_law_alike" (top 47) U3:=fun X G A=>A.fc (N:=["_law_found","_law_make_here"]) X G (by decide +kernel) (by decide +kernel) fun _ _ _ _ _ _ us hl=>by obtain⟨_,_,rfl⟩:=qj hl;rfl
theorem hx_law:(Zw (top 48)).names≠Ca:=by decide +kernel
theorem ck_law:chk ["_law_script","_law_feed_here","_law_k","_law_make_here","_law_due","_law_turned","_law_name","_law_some","_law_found","_law_again"] C3 (top 48)=true:=by decide +kernel
theorem fc_law:FC "law" (top 48) C3:=fun X G A=>A.fc (N:=["_law_script","_law_feed_here","_law_k","_law_make_here","_law_due","_law_turned","_law_name","_law_some","_law_found","_law_again"]) X G (by decide +kernel) (by decide +kernel) fun _ _ _ _ _ _ us hl=>by obtain⟨_,rfl⟩:=Wc hl;rfl
set_option maxHeartbeats 0 in
theorem all_mk{l:W.OpenLaw}{w:World}{K:W.Frag}{h:Heap}{mg:ZV}{fa f1 f2 f3 f4 f5 f6 f7 f8 f9 f10 f11 f12 f13 f14 f15 f16 f17 f18 f19 f20 f21 f22 f23 f24 f25 f26 f27 f28 f29 f30 f31 f32 f33 f34:Addr}{d1 d2 d3 d4 d5 d6 d7 d8 d9 d10 d11 d12 d13 d14 d15 d16 d17 d18 d19 d20 d21 d22 d23 d24 d25 d26 d27 d28 d29 d30 d31 d32 d33 d34:FuncData}{tk0 tk1 tk2 tk3 tk4 tk5 tk6 tk7 tk8:Tok}(X:K.In h)(G:h.Ns mainGlobals mg)(hfa:mg "law" = some (.ref fa))
  (h1:FA K "is_text" (top 10) f1 d1)
  (h2:FA K "is_name" (top 11) f2 d2)
  (h3:FA K "shown_make" (top 16) f3 d3)
  (h4:FA K "shown_form" (top 17) f4 d4)
  (h5:FA K "shown_field" (top 18) f5 d5)
  (h6:FA K "shown_arm" (top 19) f6 d6)
  (h7:FA K "shown_struck" (top 20) f7 d7)
  (h8:FA K "shown_default" (top 21) f8 d8)
  (h9:FA K "read_make" (top 22) f9 d9)
  (h10:FA K "line_at" (top 23) f10 d10)
  (h11:FA K "read_form" (top 24) f11 d11)
  (h12:FA K "struck_place" (top 25) f12 d12)
  (h13:FA K "single_shape" (top 26) f13 d13)
  (h14:FA K "field_in" (top 27) f14 d14)
  (h15:FA K "default_in" (top 28) f15 d15)
  (h16:FA K "arm_in" (top 29) f16 d16)
  (h17:FA K "struck_in" (top 30) f17 d17)
  (h18:FA K "number_in" (top 31) f18 d18)
  (h19:FA K "item_whole_in" (top 32) f19 d19)
  (S9:FA K "whole_in" (top 33) f20 d20)
  (h21:FA K "_law_feed" (top 35) f21 d21)
  (h22:FA K "_law_draw" (top 36) f22 d22)
  (h23:FA K "_law_names" (top 37) f23 d23)
  (h24:FA K "_law_numbers" (top 38) f24 d24)
  (h25:FA K "_law_plain_shape" (top 39) f25 d25)
  (h26:FA K "_law_plain_value" (top 40) f26 d26)
  (h27:FA K "_law_struck" (top 41) f27 d27)
  (h28:FA K "_law_parts" (top 42) f28 d28)
  (h29:FA K "_law_make" (top 43) f29 d29)
  (h30:FA K "_law_default_words" (top 44) f30 d30)
  (h31:FA K "_law_lines" (top 45) f31 d31)
  (h32:FA K "_law_part_lines" (top 46) f32 d32)
  (h33:FA K "_law_alike" (top 47) f33 d33)
  (h34:FA K "law" (top 48) f34 d34)
  (Nc:W.nsIn K mainGlobals "LETTERS" = some (some (.str "abcdefghijklmnopqrstuvwxyz" tk0)))
  (Lb : W.nsIn K mainGlobals "SIGNS" = some (some (.str " !\"#$&'()*+,-./0123456789:;<=>?@ABCDEFGHIJKLMNOPQRSTUVWXYZ[\\]^_`abcdefghijklmnopqrstuvwxyz{|}~" tk1)))
  (Vd:W.nsIn K mainGlobals "GREATEST_WHOLE" = some (some (.int 1000000000000000000 tk2)))
  (Vz:W.nsIn K mainGlobals "GREATEST_NUMBER" = some (some (.int 999 tk3)))
  (Ux:W.nsIn K mainGlobals "LONGEST_TEXT" = some (some (.int 200 tk4)))
  (Uq:W.nsIn K mainGlobals "LONGEST_NAME" = some (some (.int 8 tk5)))
  (Js:W.nsIn K mainGlobals "MOST_PARTS" = some (some (.int 20 tk6)))
  (Nn:W.nsIn K mainGlobals "FIGURES" = some (some (.str "0123456789" tk7)))
  (Uz:W.nsIn K mainGlobals "MOST_FIGURES" = some (some (.int 19 tk8)))
  (ql:W.nsIn K mainGlobals "len" = some none)
  (qp:W.nsIn K mainGlobals "all" = some none)
  (qh:W.nsIn K mainGlobals "any" = some none)
  (Ej:W.nsIn K mainGlobals "list" = some none)
  (Ly:W.nsIn K mainGlobals "tuple" = some none)
  (qt:W.nsIn K mainGlobals "min" = some none)
  (qc:W.nsIn K mainGlobals "max" = some none)
  (qr:W.nsIn K mainGlobals "int" = some none)
  (qu:W.nsIn K mainGlobals "abs" = some none)
  (Ew:W.nsIn K mainGlobals "dict" = some none)
  (Jr:W.nsIn K mainGlobals "isinstance" = some none)
  (To:W.nsIn K mainGlobals "sorted" = some none)
  (qd:W.nsIn K mainGlobals "set" = some none)
  (Lg:W.nsIn K mainGlobals "range" = some none)
  (qf:W.nsIn K mainGlobals "zip" = some none)
  (Gr:W.nsIn K mainGlobals "enumerate" = some none)
  (qb:W.nsIn K mainGlobals "sum" = some none)
  (Ex:W.nsIn K mainGlobals "repr" = some none)
  (qm:W.nsIn K mainGlobals "str" = some none)
  (Ey:W.nsIn K mainGlobals "bool" = some none)
  (D9:W.nsIn K mainGlobals "reversed" = some none)
  (nl:Ky K=true)
  : ∃fd:FuncData,(∀(s:Shared) (v:Value),BindsTo s fd ⟨[v],[]⟩ [("_law_script",v)])/\∀base:Heap,K.In base->base.Ns mainGlobals mg->U9 l.prog w K mg base qk 8 fa fd ["_law_script"] (He K):=by
 have e:=hfa.symm.trans (W.mg_of X G h34.a);cases e;have Zqa:=h34.F
 have fA:∀p∈tabA,Dq K mg p.1 p.2:=by
  unfold tabA;refine Vn.mpr ⟨Kh X G h1,Vn.mpr ⟨Ku X G h2,Vn.mpr ⟨R8 X G h3,Vn.mpr ⟨R9 X G h4,Vn.mpr ⟨Ce X G h5,Vn.mpr ⟨F7 X G h6,Vn.mpr ⟨B3 X G h7,Vn.mpr ⟨N7 X G h8,Vn.mpr ⟨F8 X G h9,Vn.mpr ⟨Ks X G h10,Vn.mpr ⟨F9 X G h11,Vn.mpr ⟨B1 X G h12,Vn.mpr ⟨B2 X G h13,Vn.mpr ⟨O6 X G h14,Vn.mpr ⟨Wx X G h15,Vn.mpr ⟨xb X G h16,Vn.mpr ⟨Fe X G h17,fun _ m=>absurd m Vy⟩⟩⟩⟩⟩⟩⟩⟩⟩⟩⟩⟩⟩⟩⟩⟩⟩
 have fB:∀p∈tabB,Dq K mg p.1 p.2:=by
  unfold tabB;refine Vn.mpr ⟨Qz X G h18,Vn.mpr ⟨N8 X G h19,Vn.mpr ⟨O2 X G S9,Vn.mpr ⟨O4 X G h21,Vn.mpr ⟨O5 X G h22,Vn.mpr ⟨Qq X G h23,Vn.mpr ⟨C0 X G h24,Vn.mpr ⟨Mf X G h25,Vn.mpr ⟨Mg X G h26,Vn.mpr ⟨Wz X G h27,Vn.mpr ⟨Qx X G h28,Vn.mpr ⟨O3 X G h29,Vn.mpr ⟨G3 X G h30,Vn.mpr ⟨Qj X G h31,Vn.mpr ⟨M9 X G h32,Vn.mpr ⟨Qw X G h33,Vn.mpr ⟨fc_law X G h34,fun _ m=>absurd m Vy⟩⟩⟩⟩⟩⟩⟩⟩⟩⟩⟩⟩⟩⟩⟩⟩⟩
 have ft:∀p∈tabL,Dq K mg p.1 p.2:=fun p m=>(x8.mp m).elim (fA p) (fB p)
 have bn:∀x∈Jt,mg x=none:=by
  unfold Jt;refine Vn.mpr ⟨W.mg_none_of X G ql,Vn.mpr ⟨W.mg_none_of X G qp,Vn.mpr ⟨W.mg_none_of X G qh,Vn.mpr ⟨W.mg_none_of X G Ej,Vn.mpr ⟨W.mg_none_of X G Ly,Vn.mpr ⟨W.mg_none_of X G qt,Vn.mpr ⟨W.mg_none_of X G qc,Vn.mpr ⟨W.mg_none_of X G qr,Vn.mpr ⟨W.mg_none_of X G qu,Vn.mpr ⟨W.mg_none_of X G Ew,Vn.mpr ⟨W.mg_none_of X G Jr,Vn.mpr ⟨W.mg_none_of X G To,Vn.mpr ⟨W.mg_none_of X G qd,Vn.mpr ⟨W.mg_none_of X G Lg,Vn.mpr ⟨W.mg_none_of X G qf,Vn.mpr ⟨W.mg_none_of X G Gr,Vn.mpr ⟨W.mg_none_of X G qb,Vn.mpr ⟨W.mg_none_of X G Ex,Vn.mpr ⟨W.mg_none_of X G qm,Vn.mpr ⟨W.mg_none_of X G Ey,Vn.mpr ⟨W.mg_none_of X G D9,fun _ m=>absurd m Vy⟩⟩⟩⟩⟩⟩⟩⟩⟩⟩⟩⟩⟩⟩⟩⟩⟩⟩⟩⟩⟩
 have hg:∀x t,gl x=some t->∃v u,mg x=some u/\RelV v u/\∀H F,IsT K mg H F t v:=by
  intro x t e;unfold gl at e
  split at e
  .rename_i z;subst z;cases e;exact⟨.str LET,_,W.mg_of X G Nc,⟨_,rfl⟩,fun _ _=>rfl⟩
  split at e
  .rename_i z;subst z;cases e;exact⟨.str cq,_,W.mg_of X G Lb,⟨_,rfl⟩,fun _ _=>rfl⟩
  split at e
  .rename_i z;subst z;cases e;exact⟨.int 1000000000000000000,_,W.mg_of X G Vd,⟨_,rfl⟩,fun _ _=>rfl⟩
  split at e
  .rename_i z;subst z;cases e;exact⟨.int 999,_,W.mg_of X G Vz,⟨_,rfl⟩,fun _ _=>rfl⟩
  split at e
  .rename_i z;subst z;cases e;exact⟨.int 200,_,W.mg_of X G Ux,⟨_,rfl⟩,fun _ _=>rfl⟩
  split at e
  .rename_i z;subst z;cases e;exact⟨.int 8,_,W.mg_of X G Uq,⟨_,rfl⟩,fun _ _=>rfl⟩
  split at e
  .rename_i z;subst z;cases e;exact⟨.int 20,_,W.mg_of X G Js,⟨_,rfl⟩,fun _ _=>rfl⟩
  split at e
  .rename_i z;subst z;cases e;exact⟨.str SPL.FIG,_,W.mg_of X G Nn,⟨_,rfl⟩,fun _ _=>rfl⟩
  split at e
  .rename_i z;subst z;cases e;exact⟨.int 19,_,W.mg_of X G Uz,⟨_,rfl⟩,fun _ _=>rfl⟩
  split at e
  .rename_i z;subst z;cases e;exact⟨.ref f14,_,W.mg_of X G h14.a,rfl,fun _ _=>⟨_,rfl,W.mg_of X G h14.a⟩⟩
  split at e
  .rename_i z;subst z;cases e;exact⟨.ref f16,_,W.mg_of X G h16.a,rfl,fun _ _=>⟨_,rfl,W.mg_of X G h16.a⟩⟩
  cases e
 obtain⟨oc,od,kV,doc,pm,an,cdv,ct,osl,rfl,lk,Ou⟩:=Zqa.ex;refine⟨W.fnOf "law" "law" (Uu (top 48)) (Ym (top 48)) (Zw (top 48)) .none kV doc pm an cdv ct,fun s v=>.of_eq rfl,fun base _ _=>?_⟩;obtain⟨c1,c2,c3,c4,c5⟩:=dn ck_law;exact(Oe (w:=⟨Cn tab gl 7,gl⟩) (d:=C3) (PV.funR Zqa) (fun z=>absurd z hx_law) c1 c2 c3 c4 c5 bn (knot bn (tab_of ft) hg 7) hg).imp (ik nl fun zs _=>gu zs)
end K21
open PySem PySem.W PyProof.Rows
set_option maxRecDepth 100000 in
set_option maxHeartbeats 0 in
theorem K21.ws:PySem.Challenge.rw_makes_k21_makes_as_lines.wellSaid=true:=by
 delta OpenLaw.wellSaid
 iterate 18 refine look_both ?_ ?_
 case _ =>
  delta OpenRow.wellSaid
  refine look_both (look_both ?_ ?_) ?_
  case _ =>
   delta OpenRow.partSaid
   iterate 13 refine look_both ?_ ?_
   case _ =>
    delta looksOpen
    iterate 5 refine look_both ?_ ?_
    all_goals decide +kernel
   all_goals decide +kernel
  all_goals decide +kernel
 all_goals decide +kernel
set_option maxRecDepth 100000 in
set_option maxHeartbeats 0 in
theorem PySem.Challenge.cw_makes_k21_makes_as_lines_holds : PySem.Challenge.rw_makes_k21_makes_as_lines.Holds := by
 w_on
 refine holds_law K21.ws fun said=>?_
 refine holds_open (q:=K21.viewK) (loose:=K21.Yf) (XP:=XL K21.viewK []) (YP:=Hook.says (W.kHook K21.heapK K21.asK K21.Qu)) (N:=3194)
  K21.leftK (Hook.of (W.kHook K21.heapK K21.asK K21.Qu)) (Hook.keeps (W.kHook K21.heapK K21.asK K21.Qu)) (fun s e=>xl_of s (B0z.mp e).1)
  XL.keeps (by rfl) (by rfl) (by rfl) (fun s e=>recFacts_of (B0z.mp e).2) (by rfl) (by assumption)
  (by decide +kernel) ⟨rfl,rfl,rfl,rfl,rfl,by decide +kernel⟩ ?hw ?hc
 case hw=>w_witness2
 k_fill
 refine PV.walkP' (fun T z=>by cases z) (l:=PySem.Challenge.rw_makes_k21_makes_as_lines) (k:=8) rfl rfl ⟨rfl,by decide,by decide,rfl⟩ (fun w h Y=>W.kIn_of Y) ?F
 case F =>
  intro w mg fa h KX G hmg;refine' K21.all_mk KX G hmg ?h1 ?h2 ?h3 ?h4 ?h5 ?h6 ?h7 ?h8 ?h9 ?h10 ?h11 ?h12 ?h13 ?h14 ?h15 ?h16 ?h17 ?h18 ?h19 ?S9 ?h21 ?h22 ?h23 ?h24 ?h25 ?h26 ?h27 ?h28 ?h29 ?h30 ?h31 ?h32 ?h33 ?h34 ?Nc ?Lb ?Vd ?Vz ?Ux ?Uq ?Js ?Nn ?Uz ?ql ?qp ?qh ?Ej ?Ly ?qt ?qc ?qr ?qu ?Ew ?Jr ?To ?qd ?Lg ?qf ?Gr ?qb ?Ex ?qm ?Ey ?D9 ?nl
  case h1|h2|h3|h4|h5|h6|h7|h8|h9|h10|h11|h12|h13|h14|h15|h16|h17|h18|h19|S9|h21|h22|h23|h24|h25|h26|h27|h28|h29|h30|h31|h32|h33|h34=>exact⟨by k_is,L2.Zb (by k_is) (by k_is) (by k_is)⟩
  case Nc|Lb|Vd|Vz|Ux|Uq|Js|Nn|Uz|ql|qp|qh|Ej|Ly|qt|qc|qr|qu|Ew|Jr|To|qd|Lg|qf|Gr|qb|Ex|qm|Ey|D9=>k_is
  case nl=>kernel_rfl
