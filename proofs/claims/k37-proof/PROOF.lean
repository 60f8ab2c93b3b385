import PyProof.Rows.All
import Wide.All
import OpenK.AllK
import Wide.FinOn
import PySem.Challenge.RW_makes_k37_empty_forms
set_option genSizeOf false
set_option genInjectivity false
set_option bootstrap.genMatcherCode false
noncomputable section
set_option maxHeartbeats 2000000
set_option Elab.async false
set_option linter.all false
set_option maxRecDepth 100000
local macro_rules | `(tactic| trivial) => `(tactic| first | exact .inl rfl | exact .inr rfl | rfl | decide | (intro _; rfl) | exact Or.inl rfl | exact Or.inr rfl | assumption | exact ⟨rfl, rfl, rfl, by decide +kernel, rfl, by decide +kernel, by decide +kernel⟩ | fail)
def XF:=@List.find?_eq_none
def XG:=@Int.toNat_natCast
def XY:=@List.length_set
def XJ:=@List.length_range
def XQ:=@List.append_nil
def XX:=@List.append_assoc
def XZ:=@List.any_eq_true
def ZE:=@List.pairwise_cons
def ZI:=@List.length_singleton
def ZO:=@Option.bind_eq_some_iff
section
open PySem
abbrev ZW:=Value->Shared->Prop
abbrev ZV:=Str->Option Value
abbrev ZY:=List (Addr×Obj)
abbrev ZK:=List (Str×NameKind)
abbrev ZG:=List (Option Nat)
abbrev ZF:=Array (Option Value)
abbrev ZM:=List Value
abbrev ZD:=List Str
abbrev ZT:=Option Value
abbrev ZC:=List Expr
abbrev ZN:=Array Value
abbrev ZL:=List Int
abbrev ZR:=Option Int
abbrev ZS:=Array Nat
abbrev ZH:=Option Nat
abbrev ZP:=Option Addr
abbrev ZU:=List Addr
abbrev ZA:=Unit->Shared->Prop
end
section
open PySem PyProof.Rows
def Yn:=@List.length_map
def Vk:=@List.not_mem_nil
def Vi:=@List.size_toArray
def M4:=@List.mem_singleton
def Sk:=@List.map_append
def Dw:=@decide_eq_true
def Yg:=@Nat.le_refl
def Zv:=@wpAny_bind
def Yt:=@wpAny_pure
def B8:=@List.mem_map
def Fu:=@List.getElem?_map
def Tz:=@List.getElem?_eq_some_iff
def Ks:=@List.mem_append
def Z8:=@Option.map_eq_some_iff
def Qz:=@List.length_append
def G0:=@Option.some.inj
def Y5:=@List.mem_cons_self
def Y7:=@List.mem_cons_of_mem
def G0l:=@List.getElem?_append_left
def G0e:=@List.getElem_mem
def M0g:=@List.mem_of_getElem?
def V7:=@List.forall_mem_cons
def B0f:=@Bool.false_eq_true
def Ui:=@List.getElem?_eq_getElem
def B0n:=@beq_eq_false_iff_ne
def Wp:=@Nat.lt_of_lt_of_le
def B9:=@List.length_cons
def C8:=@List.map_cons
def Y9:=@Heap.get?_push_of_some
def Yw:=@List.mem_cons
def B0s:=@beq_self_eq_true
def Rh:=@of_decide_eq_true
def Y6:=@Bool.and_eq_true
def Ve:=@Nat.le_trans
def D2:=@Bool.false_ne_true
def Dj:=@Heap.get?_push_size
def Vb:=@Heap.lt_size
def L0t:=@List.length_take
def T0l:=@List.take_of_length_le
def Ju:=@Nat.zero_le
def qp:=@Array.length_toList
def N0:=@Nat.ne_of_lt
def K0:=@List.all_eq_true
def B0z:=@Bool.and_eq_true_iff
def Dl:=@decide_eq_false
def qg:=@List.mem_append_right
def lb:=@Array.getElem?_eq_getElem
end
namespace L2
open PySem PySem.Spec PyProof.Rows
noncomputable def inClass(s:Stmt)(j:Nat):Stmt:=match s with
 | .ClassDef _ _ _ body _ _ _ _ _ _ _=>body.getD j (.Pass ⟨0,0,0,0⟩)
 | _=>.Pass ⟨0,0,0,0⟩
noncomputable def Jt(s:Stmt):Arguments:=match s with
 | .FunctionDef _ a _ _ _ _ _ _ _ _=>a
 | _=>{ posonlyargs:=[],args:=[],vararg:=none,kwonlyargs:=[],kw_defaults:=[],kwarg:=none,defaults:=[] }
def Y0(s:Stmt):List Stmt:=match s with
 | .FunctionDef _ _ b _ _ _ _ _ _ _=>b
 | _=>[]
noncomputable def Zg(s:Stmt):Scope:=match s with
 | .FunctionDef _ _ _ _ _ _ sc _ _ _=>sc
 | _=>{ kind:=.function,names:=[],isGenerator:=false,isCoroutine:=false }
end L2
namespace K37
open PySem PySem.Spec PyProof.Rows
noncomputable def top(i:Nat):Stmt:=PySem.Challenge.pw_makes_k37_empty_forms.main.body.getD i (.Pass ⟨0,0,0,0⟩)
end K37
namespace L2
open PySem PySem.W PySem.Calls PyProof.Rows
section
variable{tb:String->Option Builtin}{p:Program}{w:World}{m:Nat}{a:ZT}
def uf(tb:String->Option Builtin)(p:Program)(w:World)(m:Nat)(a:ZT):Nat->SharedT->Thread->Option SharedT
 | 0,_,_=>none
 | k+1,s,t=>bif through t then some s else bif stepOk m a t then (match stepT (denote tb) p w s t with | some (s',t')=>uf tb p w m a k s' t' | none=>none) else none
theorem Hc:∀{k:Nat} {s s':SharedT} {t:Thread},uf tb p w m a k s t=some s'->topRun tb p w m a k s.abs t=some s'.abs
 | 0,_,_,_,h=>by cases h
 | k+1,s,s',t,h=>by
  unfold uf at h;unfold topRun;cases ht:through t with
  | true=>rw[ht]at h;cases h;rfl
  | false =>
   rw[ht]at h;cases hk:stepOk m a t with
   | false=>rw[hk]at h;cases h
   | true =>
    rw[hk]at h;cases hs:stepT (denote tb) p w s t with
    | none=>rw[hs]at h;cases h
    | some r =>
     obtain⟨s₂,t₂⟩:=r;rw[hs]at h;rw[stepT_spec hs];exact Hc h
end
def mkT:List Obj->Nat->BT->BT
 | [],_,t=>t
 | o::l,i,t=>mkT l (i+1) (t.ins i o)
noncomputable abbrev Oh(w:World)(os:OsState):Shared:=⟨boot_heap w.params,Array.mk [],boot_drawn,boot_toks,os⟩
noncomputable abbrev Zx5(w:World)(os:OsState):SharedT:=⟨mkT (boot_heap w.params).objs.toList 0 .nil,(boot_heap w.params).objs.size,(boot_heap w.params).life,Array.mk [],boot_drawn,boot_toks,os⟩
theorem boot_abs(w:World)(os:OsState):(Zx5 w os).abs=Oh w os:=by kernel_rfl
noncomputable abbrev C7(p:Program)(N:Nat)(w:World)(os:OsState):Option SharedT:=uf treeTable p w (boot_heap w.params).objs.size ((boot_heap w.params).nsMap mainGlobals "__annotations__") N (Zx5 w os) (topStub p)
noncomputable abbrev t8(p:Program)(w:World)(s:Shared):Bool:=staticsOk (importedModules p.main.body) (boot_heap w.params) s.heap && namesBound p s.heap && gensDone s && laidKept (boot_heap w.params) s.heap
theorem ns_ok(w:World):((boot_heap w.params).isNs mainGlobals && (Array.mk []:Array GenState).size == 0)=true:=by kernel_rfl
theorem Gi{Z:Type _}{o:Option SharedT}{f:Shared->Z}{r:Z}(h:(o.map fun s=>f s.abs)=some r):∃s,o=some s/\f s.abs=r:=by
 obtain⟨s,e,q⟩:=Z8.mp h;exact⟨s,e,q⟩
theorem top_of{Z U:Type}{p:Program}{N:Nat}{w:World}{os:OsState}{f:Shared->Z}{g:Shared->U}{x:Z}{y:U}(h1:((C7 p N w os).map fun s=>t8 p w s.abs)=some true)
  (h2:((C7 p N w os).map fun s=>f s.abs)=some x) (h3:((C7 p N w os).map fun s=>g s.abs)=some y) :
  (topFrom treeTable p w N (Oh w os)).map (fun s=>(f s,g s))=some (x,y):=by
 obtain⟨s,e,c⟩:=Gi h1;obtain⟨s2,e2,c2⟩:=Gi h2;obtain⟨s3,e3,c3⟩:=Gi h3;rw[e]at e2 e3;cases e2;cases e3;have r:=Hc e;rw[boot_abs]at r;unfold topFrom;rw[show ((Oh w os).heap.isNs mainGlobals && (Oh w os).gens.size == 0)=true from ns_ok w];show Option.map _ (Option.bind (topRun treeTable p w (boot_heap w.params).objs.size ((boot_heap w.params).nsMap mainGlobals "__annotations__") N (Oh w os) (topStub p)) _)=_;rw[r];show Option.map _ (match t8 p w s.abs with | true=>some s.abs | false=>none)=_;rw[c];show some (f s.abs,g s.abs)=_;rw[c2,c3]
end L2
namespace K37
open PySem PySem.Spec PyProof.Rows L2
noncomputable def viewK:Program:={ PySem.Challenge.pw_makes_k37_empty_forms with main:={ PySem.Challenge.pw_makes_k37_empty_forms.main with body:=[top 1,top 3,top 5,top 6,top 7,top 8,top 9,top 11,top 12,top 13,top 14,top 15,top 16,top 17,top 18,top 19,top 20,top 21,top 22,top 23,top 24,top 25,top 26,top 27,top 28,top 29] } }
def Yf:ZD:=[]
abbrev en(P:Params)(x:Str)(t:Tok)(v:Value):DictEntry:=⟨PyData.keyHash P x,.str x t,v⟩
noncomputable abbrev fo(cls:Value)(nm q:Str)(s:Stmt)(kw doc pm:Value)(an:ZP)(cd ct:Value)(sl:ZF):Obj:=⟨cls,none,.func (W.fnOf nm q (L2.Jt s) (L2.Y0 s) (L2.Zg s) .none kw doc pm an cd ct),sl⟩
noncomputable abbrev fn(nm q:Str)(s:Stmt)(md:Str)(t:Nat)(c:Addr):Obj:=fo (.type "function") nm q s .none .none (.str md t) .none (.ref c) .none #[]
noncomputable abbrev cd(x:Str)(a:Nat)(q:Str)(b c:Nat)(l k:Int)(r1 r2 r3 r4 r5:Addr)(e f:Int)(g:Nat):Obj:=⟨.type "code",.none,.fields #[.str x a,.str q b,.str "/claim/cut.py" c,.int l 0,.int k 0,.int 0 0,.int 0 0,.int 3 0,.ref r1,.bool Bool.true,.int 181 0,.ref r2,.none,.ref r3,.ref r4,.ref r5,.int e 0,.int f 0,.str "/claim/cut.py" g], #[]⟩
noncomputable def heapK:Params->W.Frag:=fun P =>
 (nat_lit 3,⟨.type "dict",.none,.dict #[en P "__name__" 165 (.str "law_makes_k37_empty_forms" 241),en P "__doc__" 166 (.none),en P "__package__" 167 (.none),en P "__loader__" 168 (.builtin "__main__.__loader__#opaque"),en P "__spec__" 169 (.none),en P "__annotations__" 170 (.ref 6),en P "__builtins__" 171 (.ref 4),en P "__file__" 173 (.str "/claim/cut.py" 172),en P "__cached__" 174 (.none),en P "may_be_left_out" 195 (.ref 21),en P "form_of" 205 (.ref 28),en P "empty_forms" 213 (.ref 33),en P "leasts_of" 219 (.ref 38),en P "least_by" 228 (.ref 45),en P "least_record" 234 (.ref 50),en P "least_choice" 240 (.ref 55),en P "_law_tape" 249 (.ref 62),en P "_law_draw" 262 (.ref 69),en P "_law_price" 268 (.ref 74),en P "_law_prices" 279 (.ref 81),en P "_law_light" 288 (.ref 88),en P "_law_word" 294 (.ref 93),en P "_law_names" 300 (.ref 98),en P "_law_plain" 309 (.ref 105),en P "_law_default" 317 (.ref 112),en P "_law_numbers" 323 (.ref 117),en P "_law_parts" 337 (.ref 124),en P "_law_struck" 343 (.ref 129),en P "_law_make" 349 (.ref 134),en P "_law_number_turned" 359 (.ref 141),en P "_law_shape_turned" 365 (.ref 146),en P "_law_fixed" 379 (.ref 153),en P "_law_turned" 391 (.ref 160),en P "_law_right" 397 (.ref 165),en P "law" 407 (.ref 172)] 35, #[]⟩) ::
 (nat_lit 20,cd "may_be_left_out" 189 "may_be_left_out" 190 191 2 1 15 16 17 18 19 193 2 194) ::
 (nat_lit 21,fn "may_be_left_out" "may_be_left_out" (top 1) "makes.shapes" 187 20) ::
 (nat_lit 27,cd "form_of" 198 "form_of" 199 200 5 2 22 23 24 25 26 203 5 204) ::
 (nat_lit 28,fn "form_of" "form_of" (top 3) "makes.forms" 196 27) ::
 (nat_lit 32,⟨.type "code",.none,.fields #[.str "empty_forms" 208,.str "empty_forms" 209,.str "/claim/cut.py" 210,.int 8 0,.int 1 0,.int 0 0,.int 0 0,.int 3 0,.ref 29,.bool Bool.true,.int 181 0,.ref 30,.none,.none,.none,.ref 31,.int 211 0,.int 8 0,.str "/claim/cut.py" 212], #[]⟩) ::
 (nat_lit 33,fn "empty_forms" "empty_forms" (top 5) "makes.empties" 206 32) ::
 (nat_lit 37,⟨.type "code",.none,.fields #[.str "leasts_of" 214,.str "leasts_of" 215,.str "/claim/cut.py" 216,.int 11 0,.int 1 0,.int 0 0,.int 0 0,.int 3 0,.ref 34,.bool Bool.true,.int 181 0,.ref 35,.none,.none,.none,.ref 36,.int 217 0,.int 11 0,.str "/claim/cut.py" 218], #[]⟩) ::
 (nat_lit 38,fn "leasts_of" "leasts_of" (top 6) "makes.empties" 206 37) ::
 (nat_lit 44,cd "least_by" 220 "least_by" 221 222 16 2 39 40 41 42 43 226 16 227) ::
 (nat_lit 45,fn "least_by" "least_by" (top 7) "makes.empties" 206 44) ::
 (nat_lit 49,⟨.type "code",.none,.fields #[.str "least_record" 229,.str "least_record" 230,.str "/claim/cut.py" 231,.int 29 0,.int 2 0,.int 0 0,.int 0 0,.int 3 0,.ref 46,.bool Bool.true,.int 181 0,.ref 47,.none,.none,.none,.ref 48,.int 232 0,.int 29 0,.str "/claim/cut.py" 233], #[]⟩) ::
 (nat_lit 50,fn "least_record" "least_record" (top 8) "makes.empties" 206 49) ::
 (nat_lit 54,⟨.type "code",.none,.fields #[.str "least_choice" 235,.str "least_choice" 236,.str "/claim/cut.py" 237,.int 34 0,.int 2 0,.int 0 0,.int 0 0,.int 3 0,.ref 51,.bool Bool.true,.int 181 0,.ref 52,.none,.none,.none,.ref 53,.int 238 0,.int 34 0,.str "/claim/cut.py" 239], #[]⟩) ::
 (nat_lit 55,fn "least_choice" "least_choice" (top 9) "makes.empties" 206 54) ::
 (nat_lit 61,cd "_law_tape" 243 "_law_tape" 244 245 41 1 56 57 58 59 60 247 41 248) ::
 (nat_lit 62,fn "_law_tape" "_law_tape" (top 11) "law_makes_k37_empty_forms" 241 61) ::
 (nat_lit 68,cd "_law_draw" 250 "_law_draw" 251 252 43 2 63 64 65 66 67 260 43 261) ::
 (nat_lit 69,fn "_law_draw" "_law_draw" (top 12) "law_makes_k37_empty_forms" 241 68) ::
 (nat_lit 73,⟨.type "code",.none,.fields #[.str "_law_price" 263,.str "_law_price" 264,.str "/claim/cut.py" 265,.int 61 0,.int 2 0,.int 0 0,.int 0 0,.int 3 0,.ref 70,.bool Bool.true,.int 181 0,.ref 71,.none,.none,.none,.ref 72,.int 266 0,.int 61 0,.str "/claim/cut.py" 267], #[]⟩) ::
 (nat_lit 74,fn "_law_price" "_law_price" (top 13) "law_makes_k37_empty_forms" 241 73) ::
 (nat_lit 80,cd "_law_prices" 269 "_law_prices" 270 271 69 1 75 76 77 78 79 277 69 278) ::
 (nat_lit 81,fn "_law_prices" "_law_prices" (top 14) "law_makes_k37_empty_forms" 241 80) ::
 (nat_lit 87,cd "_law_light" 280 "_law_light" 281 282 77 2 82 83 84 85 86 286 77 287) ::
 (nat_lit 88,fn "_law_light" "_law_light" (top 15) "law_makes_k37_empty_forms" 241 87) ::
 (nat_lit 92,⟨.type "code",.none,.fields #[.str "_law_word" 289,.str "_law_word" 290,.str "/claim/cut.py" 291,.int 83 0,.int 1 0,.int 0 0,.int 0 0,.int 3 0,.ref 89,.bool Bool.true,.int 181 0,.ref 90,.none,.none,.none,.ref 91,.int 292 0,.int 83 0,.str "/claim/cut.py" 293], #[]⟩) ::
 (nat_lit 93,fn "_law_word" "_law_word" (top 16) "law_makes_k37_empty_forms" 241 92) ::
 (nat_lit 97,⟨.type "code",.none,.fields #[.str "_law_names" 295,.str "_law_names" 296,.str "/claim/cut.py" 297,.int 85 0,.int 1 0,.int 0 0,.int 0 0,.int 3 0,.ref 94,.bool Bool.true,.int 181 0,.ref 95,.none,.none,.none,.ref 96,.int 298 0,.int 85 0,.str "/claim/cut.py" 299], #[]⟩) ::
 (nat_lit 98,fn "_law_names" "_law_names" (top 17) "law_makes_k37_empty_forms" 241 97) ::
 (nat_lit 104,cd "_law_plain" 301 "_law_plain" 302 303 89 2 99 100 101 102 103 307 89 308) ::
 (nat_lit 105,fn "_law_plain" "_law_plain" (top 18) "law_makes_k37_empty_forms" 241 104) ::
 (nat_lit 111,cd "_law_default" 310 "_law_default" 311 312 94 2 106 107 108 109 110 315 94 316) ::
 (nat_lit 112,fn "_law_default" "_law_default" (top 19) "law_makes_k37_empty_forms" 241 111) ::
 (nat_lit 116,⟨.type "code",.none,.fields #[.str "_law_numbers" 318,.str "_law_numbers" 319,.str "/claim/cut.py" 320,.int 102 0,.int 1 0,.int 0 0,.int 0 0,.int 3 0,.ref 113,.bool Bool.true,.int 181 0,.ref 114,.none,.none,.none,.ref 115,.int 321 0,.int 102 0,.str "/claim/cut.py" 322], #[]⟩) ::
 (nat_lit 117,fn "_law_numbers" "_law_numbers" (top 20) "law_makes_k37_empty_forms" 241 116) ::
 (nat_lit 123,cd "_law_parts" 324 "_law_parts" 325 326 105 4 118 119 120 121 122 335 105 336) ::
 (nat_lit 124,fn "_law_parts" "_law_parts" (top 21) "law_makes_k37_empty_forms" 241 123) ::
 (nat_lit 128,⟨.type "code",.none,.fields #[.str "_law_struck" 338,.str "_law_struck" 339,.str "/claim/cut.py" 340,.int 114 0,.int 2 0,.int 0 0,.int 0 0,.int 3 0,.ref 125,.bool Bool.true,.int 181 0,.ref 126,.none,.none,.none,.ref 127,.int 341 0,.int 114 0,.str "/claim/cut.py" 342], #[]⟩) ::
 (nat_lit 129,fn "_law_struck" "_law_struck" (top 22) "law_makes_k37_empty_forms" 241 128) ::
 (nat_lit 133,⟨.type "code",.none,.fields #[.str "_law_make" 344,.str "_law_make" 345,.str "/claim/cut.py" 346,.int 117 0,.int 1 0,.int 0 0,.int 0 0,.int 3 0,.ref 130,.bool Bool.true,.int 181 0,.ref 131,.none,.none,.none,.ref 132,.int 347 0,.int 117 0,.str "/claim/cut.py" 348], #[]⟩) ::
 (nat_lit 134,fn "_law_make" "_law_make" (top 23) "law_makes_k37_empty_forms" 241 133) ::
 (nat_lit 140,cd "_law_number_turned" 350 "_law_number_turned" 351 352 135 4 135 136 137 138 139 357 135 358) ::
 (nat_lit 141,fn "_law_number_turned" "_law_number_turned" (top 24) "law_makes_k37_empty_forms" 241 140) ::
 (nat_lit 145,⟨.type "code",.none,.fields #[.str "_law_shape_turned" 360,.str "_law_shape_turned" 361,.str "/claim/cut.py" 362,.int 137 0,.int 3 0,.int 0 0,.int 0 0,.int 3 0,.ref 142,.bool Bool.true,.int 181 0,.ref 143,.none,.none,.none,.ref 144,.int 363 0,.int 137 0,.str "/claim/cut.py" 364], #[]⟩) ::
 (nat_lit 146,fn "_law_shape_turned" "_law_shape_turned" (top 25) "law_makes_k37_empty_forms" 241 145) ::
 (nat_lit 152,cd "_law_fixed" 366 "_law_fixed" 367 368 170 2 147 148 149 150 151 377 170 378) ::
 (nat_lit 153,fn "_law_fixed" "_law_fixed" (top 26) "law_makes_k37_empty_forms" 241 152) ::
 (nat_lit 159,cd "_law_turned" 380 "_law_turned" 381 382 188 2 154 155 156 157 158 389 188 390) ::
 (nat_lit 160,fn "_law_turned" "_law_turned" (top 27) "law_makes_k37_empty_forms" 241 159) ::
 (nat_lit 164,⟨.type "code",.none,.fields #[.str "_law_right" 392,.str "_law_right" 393,.str "/claim/cut.py" 394,.int 197 0,.int 1 0,.int 0 0,.int 0 0,.int 3 0,.ref 161,.bool Bool.true,.int 181 0,.ref 162,.none,.none,.none,.ref 163,.int 395 0,.int 197 0,.str "/claim/cut.py" 396], #[]⟩) ::
 (nat_lit 165,fn "_law_right" "_law_right" (top 28) "law_makes_k37_empty_forms" 241 164) ::
 (nat_lit 171,cd "law" 398 "law" 399 400 202 1 166 167 168 169 170 405 202 406) ::
 (nat_lit 172,fn "law" "law" (top 29) "law_makes_k37_empty_forms" 241 171) ::
 []
noncomputable def asK:ZU:=[3,20,21,27,28,32,33,37,38,44,45,49,50,54,55,61,62,68,69,73,74,80,81,87,88,92,93,97,98,104,105,111,112,116,117,123,124,128,129,133,134,140,141,145,146,152,153,159,160,164,165,171,172]
theorem Ft(P:Params):asK=(heapK P).map (·.1):=by kernel_rfl
noncomputable abbrev Dm:W.Hook:=W.kHook heapK asK Ft
noncomputable abbrev xtK(s:Shared):Bool:=W.xlAt viewK [] s && W.recOk (W.RowW.records PySem.Challenge.rw_makes_k37_empty_forms.row.toRowW) s
abbrev Kh(w:World):Prop:=(W.openEnds treeTable PySem.Challenge.pw_makes_k37_empty_forms w 1720).map (fun s=>(W.openSeen viewK Yf (importedModules PySem.Challenge.pw_makes_k37_empty_forms.main.body) xtK true s,Dm.obs s))=some (W.openGood viewK Yf,Dm.val w)
abbrev Vn(s:Shared):=W.openSeen viewK Yf (importedModules PySem.Challenge.pw_makes_k37_empty_forms.main.body) xtK true s
abbrev wK(w:World)(b:Bool):World:=w.withFollow "special-get-raises" b
theorem chkF(w:World)(os:OsState):((L2.C7 PySem.Challenge.pw_makes_k37_empty_forms 1720 (wK w false) os).map fun s=>L2.t8 PySem.Challenge.pw_makes_k37_empty_forms (wK w false) s.abs)=some true:=by kernel_rfl
theorem chkR(w:World)(os:OsState):((L2.C7 PySem.Challenge.pw_makes_k37_empty_forms 1720 (wK w true) os).map fun s=>L2.t8 PySem.Challenge.pw_makes_k37_empty_forms (wK w true) s.abs)=some true:=by kernel_rfl
theorem seenF1(w:World)(os:OsState):((L2.C7 PySem.Challenge.pw_makes_k37_empty_forms 1720 (wK w false) os).map fun s=>(Vn s.abs).1)=some (W.openGood viewK Yf).1:=by kernel_rfl
theorem seenF2(w:World)(os:OsState):((L2.C7 PySem.Challenge.pw_makes_k37_empty_forms 1720 (wK w false) os).map fun s=>(Vn s.abs).2.1)=some (W.openGood viewK Yf).2.1:=by kernel_rfl
theorem seenF3(w:World)(os:OsState):((L2.C7 PySem.Challenge.pw_makes_k37_empty_forms 1720 (wK w false) os).map fun s=>(Vn s.abs).2.2)=some (W.openGood viewK Yf).2.2:=by kernel_rfl
theorem seenT1(w:World)(os:OsState):((L2.C7 PySem.Challenge.pw_makes_k37_empty_forms 1720 (wK w true) os).map fun s=>(Vn s.abs).1)=some (W.openGood viewK Yf).1:=by kernel_rfl
theorem seenT2(w:World)(os:OsState):((L2.C7 PySem.Challenge.pw_makes_k37_empty_forms 1720 (wK w true) os).map fun s=>(Vn s.abs).2.1)=some (W.openGood viewK Yf).2.1:=by kernel_rfl
theorem seenT3(w:World)(os:OsState):((L2.C7 PySem.Challenge.pw_makes_k37_empty_forms 1720 (wK w true) os).map fun s=>(Vn s.abs).2.2)=some (W.openGood viewK Yf).2.2:=by kernel_rfl
theorem Hf{w:World}{os:OsState}(h1:((L2.C7 PySem.Challenge.pw_makes_k37_empty_forms 1720 w os).map fun s=>(Vn s.abs).1)=some (W.openGood viewK Yf).1)(h2:((L2.C7 PySem.Challenge.pw_makes_k37_empty_forms 1720 w os).map fun s=>(Vn s.abs).2.1)=some (W.openGood viewK Yf).2.1)
  (h3:((L2.C7 PySem.Challenge.pw_makes_k37_empty_forms 1720 w os).map fun s=>(Vn s.abs).2.2)=some (W.openGood viewK Yf).2.2):((L2.C7 PySem.Challenge.pw_makes_k37_empty_forms 1720 w os).map fun s=>Vn s.abs)=some (W.openGood viewK Yf):=by
 obtain⟨s,e,c1⟩:=L2.Gi (f:=fun s=>(Vn s).1) h1;obtain⟨s2,e2,c2⟩:=L2.Gi (f:=fun s=>(Vn s).2.1) h2;obtain⟨s3,e3,c3⟩:=L2.Gi (f:=fun s=>(Vn s).2.2) h3;rw[e]at e2 e3;cases e2;cases e3;rw[e];exact congrArg some (Prod.ext c1 (Prod.ext c2 c3))
theorem seenF(w:World)(os:OsState):((L2.C7 PySem.Challenge.pw_makes_k37_empty_forms 1720 (wK w false) os).map fun s=>Vn s.abs)=some (W.openGood viewK Yf):=Hf (seenF1 w os) (seenF2 w os) (seenF3 w os)
theorem seenT(w:World)(os:OsState):((L2.C7 PySem.Challenge.pw_makes_k37_empty_forms 1720 (wK w true) os).map fun s=>Vn s.abs)=some (W.openGood viewK Yf):=Hf (seenT1 w os) (seenT2 w os) (seenT3 w os)
theorem obsF(w:World)(os:OsState):((L2.C7 PySem.Challenge.pw_makes_k37_empty_forms 1720 (wK w false) os).map fun s=>Dm.obs s.abs)=some (Dm.val (wK w false)):=by kernel_rfl
theorem obsT(w:World)(os:OsState):((L2.C7 PySem.Challenge.pw_makes_k37_empty_forms 1720 (wK w true) os).map fun s=>Dm.obs s.abs)=some (Dm.val (wK w true)):=by kernel_rfl
theorem Ai(w:World)(h1:∀os,((L2.C7 PySem.Challenge.pw_makes_k37_empty_forms 1720 w os).map fun s=>L2.t8 PySem.Challenge.pw_makes_k37_empty_forms w s.abs)=some true)(h2:∀os,((L2.C7 PySem.Challenge.pw_makes_k37_empty_forms 1720 w os).map fun s=>Vn s.abs)=some (W.openGood viewK Yf))(h3:∀os,((L2.C7 PySem.Challenge.pw_makes_k37_empty_forms 1720 w os).map fun s=>Dm.obs s.abs)=some (Dm.val w)):Kh w:=by
 obtain⟨⟨hp,g,d,k,os⟩,hs,hv⟩:=Z8.mp (W.boot_open (p:=PySem.Challenge.pw_makes_k37_empty_forms) (N:=1720) rfl (by decide) (fun s=>rfl) w);simp only[Prod.mk.injEq]at hv;obtain⟨rfl,rfl,rfl,rfl⟩:=hv;show Option.map _ (Option.bind (W.fencedOpening treeTable PySem.Challenge.pw_makes_k37_empty_forms w 1720) (W.topFrom treeTable PySem.Challenge.pw_makes_k37_empty_forms w 1720))=_;rw[hs];exact L2.top_of (h1 os) (h2 os) (h3 os)
theorem leftF(w:World):Kh (w.withFollow "special-get-raises" false):=Ai _ (chkF w) (seenF w) (obsF w)
theorem leftT(w:World):Kh (w.withFollow "special-get-raises" true):=Ai _ (chkR w) (seenT w) (obsT w)
theorem leftK:W.LeftO PySem.Challenge.pw_makes_k37_empty_forms viewK Yf xtK Dm.obs Dm.val 1720:=W.byRow2 "special-get-raises" leftF leftT
end K37
namespace L2
open PySem PySem.Spec PyProof.Rows
abbrev Key:=Sum Int Str
noncomputable def Mf:Key->Value->Bool
 | .inl k,v=>Value.isInt k v
 | .inr x,v=>Value.isStrOf x v
def keyH(w:World):Key->Int
 | .inl k=>hashInt k
 | .inr x=>hashStr w x
theorem Zn:∀{k:Key} {v:Value},Mf k v=true->(∃i t,k=Sum.inl i/\v=Value.int i t)\/(∃x t,k=Sum.inr x/\v=Value.str x t)
 | .inl i,v,h=>by
  obtain⟨t,e⟩:=Value.isInt_shape (k:=i) (v:=v) h;exact .inl ⟨i,t,rfl,e⟩
 | .inr x,v,h=>by
  obtain⟨t,e⟩:=Value.isStrOf_shape (x:=x) (v:=v) h;exact .inr ⟨x,t,rfl,e⟩
theorem zi(i:Int)(t:Tok):Mf (.inl i) (.int i t)=true:=by simp[Mf,Value.isInt]
theorem zo(x:Str)(t:Tok):Mf (.inr x) (.str x t)=true:=by simp[Mf,Value.isStrOf]
theorem key_ll(a b:Int):decide ((Sum.inl a:Key)=Sum.inl b)=(a == b):=by
 by_cases e:a=b
 .subst e;simp
 .have h:¬ (Sum.inl a:Key)=Sum.inl b:=fun q=>e (Sum.inl.inj q);rw[Dl h];exact(B0n.mpr e).symm
theorem key_rr(a b:Str):decide ((Sum.inr a:Key)=Sum.inr b)=decide (a=b):=by
 by_cases e:a=b
 .subst e;simp
 .have h:¬ (Sum.inr a:Key)=Sum.inr b:=fun q=>e (Sum.inr.inj q);rw[Dl h,Dl e]
theorem key_lr(a:Int)(b:Str):decide ((Sum.inl a:Key)=Sum.inr b)=false:=Dl (fun q=>nomatch q)
theorem key_rl(a:Str)(b:Int):decide ((Sum.inr a:Key)=Sum.inl b)=false:=Dl (fun q=>nomatch q)
noncomputable def Zm(prog:Program)(w:World):PySem.KeyKind prog w Key where
 is:=Mf
 hash:=keyH w
 inj:=fun v a b ha hb=>by
  rcases Zn ha with ⟨i,t,rfl,rfl⟩ | ⟨x,t,rfl,rfl⟩
  .rcases Zn hb with ⟨j,u,rfl,e⟩ | ⟨y,u,rfl,e⟩
   .injection e with e1 _;rw[e1]
   .exact nomatch e
  .rcases Zn hb with ⟨j,u,rfl,e⟩ | ⟨y,u,rfl,e⟩
   .exact nomatch e
   .injection e with e1 _;rw[e1]
 byValue:=fun k v h=>by
  rcases Zn h with ⟨i,t,rfl,rfl⟩ | ⟨x,t,rfl,rfl⟩<;>rfl
 pyHash:=fun hv h=>by
  rcases Zn hv with ⟨i,t,rfl,rfl⟩ | ⟨x,t,rfl,rfl⟩
  .exact wpAny_pyHash_int h
  .exact wpAny_pyHash_str h
 eqBool:=fun hu hv h=>by
  rcases Zn hu with ⟨i,t,rfl,rfl⟩ | ⟨x,t,rfl,rfl⟩
  .rcases Zn hv with ⟨j,u,rfl,rfl⟩ | ⟨y,u,rfl,rfl⟩
   .rw[key_ll]at h;exact wpAny_eqBool_int h
   .rw[key_lr]at h;exact SeqAt.EqAt.int_str i t y u _ _ _ _ h
  .rcases Zn hv with ⟨j,u,rfl,rfl⟩ | ⟨y,u,rfl,rfl⟩
   .rw[key_rl]at h;exact SeqAt.EqAt.str_int x t j u _ _ _ _ h
   .rw[key_rr]at h;exact wpAny_eqBool_str h
 «strs»:=fun k x t v h=>by
  rcases Zn h with ⟨i,u,rfl,e⟩ | ⟨y,u,rfl,e⟩
  .exact nomatch e
  .injection e with e1 _
   subst e1;cases v<;>rfl
theorem Pq(prog:Program)(w:World)(i:Int)(t:Tok):(Zm prog w).is (.inl i) (.int i t)=true:=zi i t
theorem Px(prog:Program)(w:World)(x:Str)(t:Tok):(Zm prog w).is (.inr x) (.str x t)=true:=zo x t
inductive V where
 | non | bl(b:Bool) | int(i:Int) | str(x:Str) | byt(b:Array UInt8) | flt(b:UInt64) | ref(a:Addr) | ty(n:String)
 deriving DecidableEq
abbrev ZQ:=List V
abbrev ZJ:=List (Option V)
def RelV:V->Value->Prop
 | .non,u=>u=Value.none
 | .bl b,u=>u=Value.bool b
 | .int i,u=>∃t,u=Value.int i t
 | .str x,u=>∃t,u=Value.str x t
 | .byt b,u=>∃t,u=Value.bytes b t
 | .flt b,u=>∃t,u=Value.float b t
 | .ref a,u=>u=Value.ref a
 | .ty n,u=>u=Value.type n
abbrev Zw:ZQ->ZM->Prop:=Paired RelV
theorem Zw.length{xs:ZQ}{us:ZM}(r:Zw xs us):xs.length=us.length:=Paired.length r
theorem Zw.get:∀{xs:ZQ} {us:ZM} {i:Nat} {x:V},Zw xs us->xs[i]?=some x->∃u,us[i]?=some u/\RelV x u
 | _,_,_,_,.nil,e=>by simp at e
 | _,_,0,_,.cons r _,e=>by simp at e;subst e;exact⟨_,rfl,r⟩
 | _,_,i+1,x,.cons _ t,e=>by
  obtain⟨u,h1,h2⟩:=Zw.get (i:=i) (x:=x) t (by simpa using e);exact⟨u,by simpa using h1,h2⟩
theorem Zw.set{x:V}{u:Value}(r:RelV x u):∀{xs:ZQ} {us:ZM} (i:Nat),Zw xs us->Zw (xs.set i x) (us.set i u)
 | _,_,_,.nil=>.nil
 | _,_,0,.cons _ t=>.cons r t
 | _,_,i+1,.cons q t=>.cons q (Zw.set r i t)
theorem Zw.append:∀{xs ys:ZQ} {us ws:ZM},Zw xs us->Zw ys ws->Zw (xs++ys) (us++ws)
 | _,_,_,_,.nil,s=>s
 | _,_,_,_,.cons r t,s=>.cons r (Zw.append t s)
theorem Zw.take:∀{xs:ZQ} {us:ZM} (n:Nat),Zw xs us->Zw (xs.take n) (us.take n)
 | _,_,0,_=>.nil
 | _,_,_+1,.nil=>.nil
 | _,_,n+1,.cons r t=>.cons r (Zw.take n t)
theorem Zw.drop:∀{xs:ZQ} {us:ZM} (n:Nat),Zw xs us->Zw (xs.drop n) (us.drop n)
 | _,_,0,r=>r
 | _,_,_+1,.nil=>.nil
 | _,_,n+1,.cons _ t=>Zw.drop n t
def Ni:Option V->ZT->Prop
 | some v,some u=>RelV v u
 | none,none=>True
 | _,_=>False
def KV{Z:Type}:List (Z×V)->List (Z×Value)->Prop:=Paired fun(p:Z×V) (q:Z×Value)=>p.1=q.1/\RelV p.2 q.2
def kV:Key->V
 | .inl i=>.int i
 | .inr x=>.str x
inductive HO where
 | lst(xs:ZQ)
 | tup (xs:ZQ)
 | dK (XM:List (Key×V)) | dT (XM:List (List Key×V))
 | set (S:Int->Bool) (n:Nat)
 | ins (C dx:Addr) (fs:List (Str×V))
 | own (x:Addr)
 | xd (fs:List (Str×V))
 | met (f x:Addr)
 | rng (lo hi:Int)
 | frz (o:Obj) (u:HO)
 | tbl (ps:ZN)
 | ext (φ:Heap->Prop)
abbrev Hp:=Addr->Option HO
def upd(H:Hp)(a:Addr)(o:HO):Hp:=fun b=>if b=a then some o else H b
theorem Zq{H:Hp}{a:Addr}{o:HO}:upd H a o a=some o:=by unfold upd;rw[if_pos rfl]
theorem Zz{H:Hp}{a b:Addr}{o:HO}(h:b≠a):upd H a o b=H b:=by unfold upd;rw[if_neg h]
theorem ne_of{H:Hp}{a b:Addr}{o u:HO}(h:H a=some o)(h':H b=some u)(d:o≠u):a≠b:=by
 intro e;subst e;rw[h]at h';exact d (G0 h')
theorem Zi{H:Hp}{a b:Addr}{o:HO}(h:H a=some o)(h':H b=none):a≠b:=by
 intro e;subst e;rw[h]at h';cases h'
section
variable(P:Program)(w:World)
def Rl(h:Heap)(a:Addr)(XD:ZN):Prop:=∃o,h.get? a=some o/\o.cls=.type "tuple" /\ (∃n,o.data=.seq XD n)/\o.dict=none
theorem Rl.tup{h:Heap}{a:Addr}{XD:ZN}(x:Rl h a XD):IsTup h a XD:=let ⟨o,e,c,d,_⟩:=x;⟨o,e,c,d⟩
theorem Rl.lt{h:Heap}{a:Addr}{XD:ZN}(x:Rl h a XD):a<h.objs.size:=x.tup.lt
theorem Rl.new(h:Heap)(XD:ZN):Rl (h.push { cls:=.type "tuple",data:=.seq XD }) h.objs.size XD:=⟨_,Dj _ rfl,rfl,⟨_,rfl⟩,rfl⟩
def Za(H:Hp)(h:Heap)(a:Addr):HO->Prop
 | .lst xs=>xs.length<=sizeLine/\∃(XD:ZM) (n:Nat),Zw xs XD/\h.get? a=some { cls:=.type "list",data:=.seq XD.toArray n }
 | .tup xs=>xs.length<=sizeLine/\∃XD:ZM,Zw xs XD/\Rl h a XD.toArray
 | .dK XM=>XM.length<=sizeLine/\(a == sysModules)=false/\∃vs,KV XM vs/\h.DictOf (Zm P w) a vs
 | .dT XM=>XM.length<=sizeLine/\(a == sysModules)=false/\∃xs:List (List Key×Addr×Value),
   Paired (fun(p:List Key×V) (q:List Key×Addr×Value)=>p.1=q.1/\H q.2.1=some (.tup (p.1.map kV))/\RelV p.2 q.2.2) XM xs /\
   ∃o es ep,h.get? a=some o/\o.ExactDict/\o.data=.dict es ep/\es.toList=xs.map (entryOfKey (tupleKind (Zm P w)))/\(xs.map (·.1)).Nodup
 | .set S n=>h.SetOf (intKind P w) a S n
 | .ins C dx fs=>H dx=some (.own a)/\fs.length<=1000/\dx≠a/\h.get? a=some (W.instObj C dx) /\
   ∃mA,h.Ns1 dx mA/\(∀f,Ni (fs.lookup f) (mA f))/\PySem.Within mA (fs.map (·.1))
 | .own _=>∃o,h.get? a=some o
 | .xd fs=>∃mA,h.Ns1 a mA/\∀f,Ni (fs.lookup f) (mA f)
 | .rng lo hi=>∃t u v,h.get? a=some { cls:=.type "range",data:=.fields #[.int lo t,.int hi u,.int 1 v] }
 | .frz o u=>h.get? a=some o/\Za H h a u
 | .tbl ps=>h.get? a=some { cls:=.none,data:=.fields ps }
 | .met f x=>h.get? a=some (W.methodObj (.ref f) (.ref x))
 | .ext φ=>φ h/\(∃o,h.get? a=some o)/\∀h1 h2:Heap,φ h1->(∀o,h1.get? a=some o->h2.get? a=some o)->φ h2
def D3(H:Hp)(h:Heap):Prop:=∀a o,H a=some o->Za P w H h a o
end
section
variable{P:Program}{w:World}{H H':Hp}{h h':Heap}{a:Addr}{o:HO}
theorem Za.lt(x:Za P w H h a o):a<h.objs.size:=by
 cases o with
 | lst xs=>obtain⟨_,_,_,_,e⟩:=x;exact Vb e
 | tup xs=>obtain⟨_,_,_,p⟩:=x;exact p.lt
 | dK XM=>obtain⟨_,_,_,_,o,_,_,e,_⟩:=x;exact Vb e
 | dT XM=>obtain⟨_,_,_,_,o,_,_,e,_⟩:=x;exact Vb e
 | set S n=>obtain⟨o,_,_,_,e,_⟩:=x;exact Vb e
 | ins C dx fs=>obtain⟨_,_,_,e,_⟩:=x;exact Vb e
 | own y=>obtain⟨_,e⟩:=x;exact Vb e
 | xd fs=>obtain⟨_,⟨_,_,_,e,_⟩,_⟩:=x;exact Vb e
 | rng lo hi=>obtain⟨_,_,_,e⟩:=x;exact Vb e
 | frz ob u=>obtain⟨e,_⟩:=x;exact Vb e
 | tbl ps=>exact Vb (show h.get? a=some _ from x)
 | met f y=>exact Vb (show h.get? a=some _ from x)
 | ext φ=>obtain⟨_,⟨_,e⟩,_⟩:=x;exact Vb e
theorem Paired.mapP{Z U:Type}{F G:Z->U->Prop}:∀{l₁:List Z} {l₂:List U},Paired F l₁ l₂->(∀a b,F a b->G a b)->Paired G l₁ l₂
 | _,_,.nil,_=>.nil
 | _,_,.cons r t,f=>.cons (f _ _ r) (Paired.mapP t f)
theorem Za.stay(x:Za P w H h a o)(k:∀b u,(b=a\/H b=some (.own a))->h.get? b=some u->h'.get? b=some u)
  (ho:∀b,H b=some (.own a)->H' b=some (.own a)) (ht:∀b xs,H b=some (.tup xs)->H' b=some (.tup xs)):Za P w H' h' a o:=by
 induction o with
 | lst xs=>obtain⟨z,XD,n,r,e⟩:=x;exact⟨z,XD,n,r,k _ _ (.inl rfl) e⟩
 | tup xs=>obtain⟨z,XD,r,ob,e,c⟩:=x;exact⟨z,XD,r,ob,k _ _ (.inl rfl) e,c⟩
 | dK XM=>obtain⟨z,y,vs,r,ob,es,ep,e,c⟩:=x;exact⟨z,y,vs,r,ob,es,ep,k _ _ (.inl rfl) e,c⟩
 | dT XM =>
  obtain⟨z,y,xs,r,ob,es,ep,e,c⟩:=x;exact⟨z,y,xs,Paired.mapP r fun p q z=>⟨z.1,ht _ _ z.2.1,z.2.2⟩,ob,es,ep,k _ _ (.inl rfl) e,c⟩
 | set S n=>obtain⟨ob,es,ep,t,e,c⟩:=x;exact⟨ob,es,ep,t,k _ _ (.inl rfl) e,c⟩
 | ins C dx fs =>
  obtain⟨d,z,ne,e,mA,⟨od,es,ep,e2,c⟩,r⟩:=x;exact⟨ho _ d,z,ne,k _ _ (.inl rfl) e,mA,⟨od,es,ep,k _ _ (.inr d) e2,c⟩,r⟩
 | own y=>obtain⟨ob,e⟩:=x;exact⟨ob,k _ _ (.inl rfl) e⟩
 | xd fs=>obtain⟨mA,⟨od,es,ep,e,c⟩,r⟩:=x;exact⟨mA,⟨od,es,ep,k _ _ (.inl rfl) e,c⟩,r⟩
 | rng lo hi=>obtain⟨t,u,v,e⟩:=x;exact⟨t,u,v,k _ _ (.inl rfl) e⟩
 | frz ob u ih=>obtain⟨e,q⟩:=x;exact⟨k _ _ (.inl rfl) e,ih q⟩
 | tbl ps =>
  have e:h.get? a=some { cls:=.none,data:=.fields ps }:=x;show h'.get? a=some { cls:=.none,data:=.fields ps };exact k a _ (.inl rfl) e
 | met f y =>
  have e:h.get? a=some (W.methodObj (.ref f) (.ref y)):=x;show h'.get? a=some (W.methodObj (.ref f) (.ref y));exact k a _ (.inl rfl) e
 | ext φ=>obtain⟨p,⟨o,e⟩,st⟩:=x;exact⟨st _ _ p fun o q=>k _ _ (.inl rfl) q,⟨o,k _ _ (.inl rfl) e⟩,st⟩
theorem D3.lt(x:D3 P w H h)(e:H a=some o):a<h.objs.size:=(x a o e).lt
theorem D3.fresh(x:D3 P w H h)(e:h.objs.size<=a):H a=none:=by
 cases q:H a with
 | none=>rfl
 | some u=>exact absurd (Wp (x.lt q) e) (Nat.lt_irrefl _)
theorem D3.kept(x:D3 P w H h)(k:∀b u,h.get? b=some u->h'.get? b=some u):D3 P w H h':=fun a o e =>
 (x a o e).stay (fun b u _ q=>k b u q) (fun _ q=>q) fun _ _ q=>q
theorem D3.laid(x:D3 P w H h)(k:∀b u,h.get? b=some u->h'.get? b=some u)(hp:h.objs.size<=a)(new:Za P w (upd H a o) h' a o):D3 P w (upd H a o) h':=fun b u e=>by
 have hn:=x.fresh hp;by_cases hb:b=a
 .subst hb;rw[Zq]at e;cases e;exact new
 .rw[Zz hb]at e;exact(x b u e).stay (fun c v _ q=>k c v q) (fun c q=>by rw[Zz (Zi q hn)];exact q) fun c xs q=>by rw[Zz (Zi q hn)];exact q
end
def Rd(H:Hp)(a:Addr)(u:HO):Prop:=H a=some u\/∃o,H a=some (.frz o u)
theorem Rd.of{H:Hp}{a:Addr}{u:HO}(h:H a=some u):Rd H a u:=.inl h
theorem Rd.ok{P:Program}{w:World}{H:Hp}{h:Heap}{a:Addr}{u:HO}(r:Rd H a u)(x:D3 P w H h):Za P w H h a u:=by
 rcases r with r | ⟨o,r⟩
 .exact x a u r
 .obtain⟨_,q⟩:=x a _ r;exact q
def Mut:Option HO->Prop
 | some (.lst _)=>True
 | some (.dK _)=>True
 | some (.dT _)=>True
 | some (.set _ _)=>True
 | some (.ins _ _ _)=>True
 | some (.ext _)=>True
 | _=>False
section
variable{P:Program}{w:World}{H:Hp}{h h':Heap}{x e:Addr}{o':HO}
theorem D3.write(ok:D3 P w H h)(mu:Mut (H x))(he:e=x\/H e=some (.own x))(k:∀b u,b≠e->h.get? b=some u->h'.get? b=some u)(heo:∃u,h'.get? e=some u)
  (new:Za P w (upd H x o') h' x o'):D3 P w (upd H x o') h':=fun b u q=>by
 have nown:∀c y,H c=some (.own y)->c≠x:=fun c y r z=>by subst z;rw[r]at mu;exact mu
 have ntup:∀c xs,H c=some (.tup xs)->c≠x:=fun c xs r z=>by subst z;rw[r]at mu;exact mu
 by_cases hb:b=x
 .subst hb;rw[Zq]at q;cases q;exact new
 .rw[Zz hb]at q;by_cases hbe:b=e
  .have q':H b=some (.own x):=by
    rcases he with z | z
    .exact absurd (hbe.trans z) hb
    .rw[hbe];exact z
   rw[q]at q';cases q';obtain⟨v,hv⟩:=heo;exact⟨v,by rw[hbe];exact hv⟩
  .refine(ok b u q).stay (fun c v hc r=>k c v ?_ r) (fun c r=>by rw[Zz (nown c b r)];exact r) fun c xs r=>by rw[Zz (ntup c xs r)];exact r
   rcases hc with rfl | hc
   .exact hbe
   .rintro rfl;rcases he with z | z
    .exact nown c b hc z
    .rw[hc]at z;cases z;exact hb rfl
end
structure Un(fs ex:ZU)(H H':Hp)(h h':Heap):Prop where
 keep:∀b o,h.get? b=some o->H b=none->b ∉ fs->b ∉ ex->h'.get? b=some o
 slot:∀b o,h.get? b=some o->H b=none->b∈fs->b ∉ ex->∃sl,h'.get? b=some { o with slots:=sl }
 free:∀b o,h.get? b=some o->H b=none->b ∉ ex->H' b=none
 there:∀b o,h.get? b=some o->b ∉ ex->∃o',h'.get? b=some o'
 tups:∀b xs,H b=some (.tup xs)->H' b=some (.tup xs)
 frzs:∀b o u,H b=some (.frz o u)->H' b=some (.frz o u)
 tbls:∀b ps,H b=some (.tbl ps)->∃more,H' b=some (.tbl (ps++more))
section
variable{fs fs' ex ex':ZU}{H H1 H2:Hp}{h h1 h2 h':Heap}{a x e:Addr}{o:HO}
theorem Un.any(u:Un fs ex H H1 h h1){b:Addr}{ob:Obj}(q:h.get? b=some ob)(n:H b=none)(hx:b ∉ ex):∃sl,h1.get? b=some { ob with slots:=sl }:=by
 by_cases hb:b∈fs
 .exact u.slot b ob q n hb hx
 .exact⟨ob.slots,u.keep b ob q n hb hx⟩
theorem Un.trans(a:Un fs ex H H1 h h1)(b:Un fs ex H1 H2 h1 h2):Un fs ex H H2 h h2 where
 keep:=fun c ob q n hc hx=>b.keep c ob (a.keep c ob q n hc hx) (a.free c ob q n hx) hc hx
 slot:=fun c ob q n hc hx=>by
  obtain⟨sl,e1⟩:=a.slot c ob q n hc hx;obtain⟨sl',e2⟩:=b.slot c _ e1 (a.free c ob q n hx) hc hx;exact⟨sl',e2⟩
 free:=fun c ob q n hx=>by
  obtain⟨o',e1⟩:=a.there c ob q hx;exact b.free c o' e1 (a.free c ob q n hx) hx
 there:=fun c ob q hx=>by
  obtain⟨o',e1⟩:=a.there c ob q hx;exact b.there c o' e1 hx
 tups:=fun c xs q=>b.tups c xs (a.tups c xs q)
 frzs:=fun c ob xs q=>b.frzs c ob xs (a.frzs c ob xs q)
 tbls:=fun c ps q=>by
  obtain⟨m1,e1⟩:=a.tbls c ps q;obtain⟨m2,e2⟩:=b.tbls c _ e1;exact⟨m1++m2,by rw[e2,Array.append_assoc]⟩
theorem Un.kept(k:∀b u,h.get? b=some u->h'.get? b=some u):Un fs ex H H h h' :=
 ⟨fun b ob q _ _ _=>k b ob q,fun b ob q _ _ _=>⟨ob.slots,k b ob q⟩,fun _ _ _ n _=>n,fun b ob q _=>⟨ob,k b ob q⟩,fun _ _ q=>q,fun _ _ _ q=>q,fun _ ps q=>⟨#[],by rw[q];simp⟩⟩
theorem Un.refl:Un fs ex H H h h:=Un.kept fun _ _ q=>q
theorem Un.laid(k:∀b u,h.get? b=some u->h'.get? b=some u)(hp:h.objs.size<=a)(hn:H a=none):Un fs ex H (upd H a o) h h' where
 keep:=fun b u q _ _ _=>k b u q
 slot:=fun b u q _ _ _=>⟨u.slots,k b u q⟩
 free:=fun b u q n _=>by rw[Zz (N0 (Wp (Vb q) hp))];exact n
 there:=fun b u q _=>⟨u,k b u q⟩
 tups:=fun b xs q=>by rw[Zz (Zi q hn)];exact q
 frzs:=fun b u xs q=>by rw[Zz (Zi q hn)];exact q
 tbls:=fun b ps q=>⟨#[],by rw[Zz (Zi q hn),q];simp⟩
theorem Un.write(mu:Mut (H x))(he:e=x\/H e=some (.own x))(k:∀b u,b≠e->h.get? b=some u->h'.get? b=some u)(heo:∃u,h'.get? e=some u):Un fs ex H (upd H x o) h h':=by
 have hx:∀b,H b=none->b≠x:=fun b n z=>by subst z;rw[n]at mu;exact mu
 have hb:∀b,H b=none->b≠e:=fun b n z=>by
  subst z;rcases he with r | r
  .exact hx b n r
  .rw[n]at r;cases r
 have hm:∀b u,H b=some u->¬ Mut (some u)->b≠x:=fun b u q nm z=>by subst z;rw[q]at mu;exact nm mu
 refine⟨fun b u q n _ _=>k b u (hb b n) q,fun b u q n _ _=>⟨u.slots,k b u (hb b n) q⟩,fun b u q n _=>by rw[Zz (hx b n)];exact n,fun b u q _=>?_,
  fun b xs q=>by rw[Zz (hm b _ q fun z=>z)];exact q,fun b u xs q=>by rw[Zz (hm b _ q fun z=>z)];exact q,fun b ps q=>⟨#[],by rw[Zz (hm b _ q fun z=>z),q];simp⟩⟩
 by_cases hbe:b=e
 .subst hbe;exact heo
 .exact⟨u,k b u hbe q⟩
theorem Un.mono(u:Un fs ex H H1 h h1)(hs:∀b∈fs,b∈fs')(hx:∀b∈ex,b∈ex'):Un fs' ex' H H1 h h1 :=
 ⟨fun b ob q n hb he=>u.keep b ob q n (fun z=>hb (hs b z)) fun z=>he (hx b z),fun _ _ q n _ he=>u.any q n fun z=>he (hx _ z),fun b ob q n he=>u.free b ob q n fun z=>he (hx b z),fun b ob q he=>u.there b ob q fun z=>he (hx b z),u.tups,u.frzs,u.tbls⟩
end
noncomputable def trk(h:Heap)(H:Hp):ZU:=(List.range h.objs.size).filter fun a=>(H a).isSome
def Lo(h:Heap)(H:Hp):Heap:=W.hideAll h (trk h H)
theorem xw(h:Heap)(H:Hp):(Lo h H).objs.size=h.objs.size:=W.hideAll_size _ _
theorem m7{h:Heap}{H:Hp}{b:Addr}{o:Obj}(e:h.get? b=some o)(n:H b=none):(Lo h H).get? b=some o :=
 W.hideAll_get _ e fun hm=>by
  have q:(H b).isSome=true:=(List.mem_filter.mp hm).2;rw[n]at q;simp at q
theorem o6{h:Heap}{H:Hp}{b:Addr}{o:Obj}(e:(Lo h H).get? b=some o):h.get? b=some o/\H b=none:=by
 have e':h.get? b=some o:=W.of_hideAll (trk h H) e;refine⟨e', ?_⟩;cases q:H b with
 | none=>rfl
 | some x =>
  have hm:b∈trk h H:=List.mem_filter.mpr ⟨List.mem_range.mpr (Vb e'),by simp[q]⟩;have z:(Lo h H).get? b=none:=W.hideAll_none (trk h H) hm;rw[z]at e;cases e
structure Mod(K:W.Frag)(mg:ZV)(base:Heap):Prop where
 kin:K.In base
 glob:base.Ns mainGlobals mg
 blt:∃mb,base.Ns builtinsNs mb/\∀x:Str,x ≠ "__name__" -> mb x=bootBuiltins x
 nolimit:base.NoLimit
structure Cx where
 prog:Program
 w:World
 K:W.Frag
 mg:ZV
 base:Heap
 A:Around
 N:ZD
 s₀:Shared
 H₀:Hp
 env:Env
 outer:List Env
 stack:List Env
 ex:ZU
 fn:Str->Bool
 calm:Bool
 pn:ZY
 xe:ZW
noncomputable def frs(l:List Env):ZU:=l.filterMap (·.frame)
abbrev Cx.fs(X:Cx):ZU:=frs X.outer
def Vis(sc:Scope)(x:Str):Prop:=sc.names.lookup x=some .local\/sc.names.lookup x=some .cell\/sc.names.lookup x=some .free
def Loc(sc:Scope)(x:Str):Prop:=sc.names.lookup x=some .local\/sc.names.lookup x=some .cell
def Look(env:Env)(h:Heap)(m:ZV)(x:Str)(u:Value):Prop :=
 (env.kindOf x=some .local/\m x=some u)\/((env.kindOf x=some .cell\/env.kindOf x=some .free)/\∃c,env.cells.lookup x=some c/\h.IsCell c (some u))
structure Cx.Ok(X:Cx):Prop where
 mod:Mod X.K X.mg X.base
 kind:X.env.scope.kind=.function
 glob:X.env.globals=mainGlobals
 blt:X.env.builtins=builtinsNs
 above:X.s₀.heap.objs.size<=X.env.locals
 inj:∀x y c,X.env.cells.lookup x=some c->X.env.cells.lookup y=some c->x=y
 has:∀x,(X.env.kindOf x=some .cell\/X.env.kindOf x=some .free)->∃c,X.env.cells.lookup x=some c
 cab:∀x c,X.fn x=true->X.env.cells.lookup x=some c->X.s₀.heap.objs.size<=c
 hd:X.calm=true->X.A.handled=none
 frames:X.A.frames=some X.stack
 stk:X.stack=X.outer\/(X.stack=X.env::X.outer/\X.env.frame=some X.env.locals)
 exf:∀b∈X.ex,b≠X.env.locals/\∀x c,X.env.cells.lookup x=some c->c≠b
 bs:∀b o,X.base.get? b=some o->X.s₀.heap.get? b=some o/\X.H₀ b=none
 bsz:X.base.objs.size<=X.s₀.heap.objs.size
 noex:∀b o,X.base.get? b=some o->b ∉ X.ex
 exfs:∀b∈X.ex,b ∉ X.fs
 funs:X.s₀.heap.FunFrames X.base X.outer
 frf:∀b∈X.fs,X.H₀ b=none
structure Inv(X:Cx)(XB:ZY)(Z:ZJ)(H:Hp)(s:Shared):Prop where
 ok:X.Ok
 os:s.os=X.s₀.os
 bare:AllBare s.gens
 base:Un X.fs X.ex X.H₀ H X.s₀.heap s.heap
 loc:∃m,s.heap.Ns X.env.locals m/\∀(i:Nat) (x:Str) (v:V),X.N[i]?=some x->Z[i]?=some (some v)->Vis X.env.scope x->∃u,RelV v u/\Look X.env s.heap m x u
 cell:∀x c,X.env.cells.lookup x=some c->∃v,s.heap.IsCell c v
 free:H X.env.locals=none
 freeC:∀x c,X.env.cells.lookup x=some c->H c=none
 pin:∀p∈X.pn++XB,s.heap.get? p.1=some p.2/\H p.1=none/\p.1≠X.env.locals/\p.1 ∉ X.fs/\∀v,p.2.data≠.cell v
 hok:D3 X.prog X.w H s.heap
 len:Z.length=X.N.length
section
variable{X:Cx}{XB:ZY}{Z:ZJ}{H H':Hp}{s:Shared}{h':Heap}
theorem Cx.Ok.nofr(ok:X.Ok){b:Addr}{o:Obj}(e:X.base.get? b=some o):b ∉ X.fs:=fun hb=>by
 have:=(ok.funs.mem hb).1;rw[e]at this;cases this
theorem Inv.bs(I:Inv X XB Z H s):∀b o,X.base.get? b=some o->s.heap.get? b=some o/\H b=none:=fun b o e =>
 ⟨I.base.keep b o (I.ok.bs b o e).1 (I.ok.bs b o e).2 (I.ok.nofr e) (I.ok.noex b o e),I.base.free b o (I.ok.bs b o e).1 (I.ok.bs b o e).2 (I.ok.noex b o e)⟩
theorem Inv.bk(I:Inv X XB Z H s):∀b o,X.base.get? b=some o->s.heap.get? b=some o:=fun b o e=>(I.bs b o e).1
theorem Inv.mod(I:Inv X XB Z H s):Mod X.K X.mg X.base:=I.ok.mod
theorem Inv.kIn(I:Inv X XB Z H s):X.K.In s.heap:=I.ok.mod.kin.keeps I.bk
theorem Inv.fr(I:Inv X XB Z H s):∃m,Fr X.base X.env.locals s.heap m :=
 let ⟨m,hn,_⟩:=I.loc
 ⟨m,hn,I.bk,Ve I.ok.bsz I.ok.above⟩
theorem Inv.lt(I:Inv X XB Z H s):X.env.locals<s.heap.objs.size:=let ⟨_,hn,_⟩:=I.loc;hn.lt
theorem Inv.sz(I:Inv X XB Z H s):X.s₀.heap.objs.size<=s.heap.objs.size:=Ve I.ok.above (Nat.le_of_lt I.lt)
theorem Inv.nofs(I:Inv X XB Z H s){a:Addr}(h:s.heap.objs.size<=a):a ∉ X.fs:=fun hb=>by
 obtain⟨_,o,ho,_⟩:=I.ok.funs.mem hb;exact absurd (Wp (Vb ho) (Ve I.sz h)) (Nat.lt_irrefl _)
theorem Inv.cne(I:Inv X XB Z H s):∀x c,X.env.cells.lookup x=some c->c≠X.env.locals:=fun x c e z=>by
 obtain⟨v,o,ho,hd⟩:=I.cell x c e;obtain⟨m,⟨o',es,ep,Rv,hd',_⟩,_⟩:=I.loc;rw[z,Rv]at ho;cases ho;rw[hd']at hd;cases hd
theorem Inv.funs(I:Inv X XB Z H s):s.heap.FunFrames X.base X.outer:=by
 have all:∀(l:List Env),(∀b∈frs l,b∈X.fs)->X.s₀.heap.FunFrames X.base l->s.heap.FunFrames X.base l:=by
  intro l
  induction l with
  | nil=>intro _ _;trivial
  | cons env r ih =>
   intro hs hl;obtain⟨hk,⟨L,o,hf,hn,ho,hd⟩,hr⟩:=hl;have hL:L∈X.fs:=hs L (by unfold frs;rw[List.filterMap_cons,hf];exact Y5);obtain⟨sl,e⟩:=I.base.slot L o ho (I.ok.frf L hL) hL fun z=>I.ok.exfs L z hL;exact⟨hk,⟨L,_,hf,hn,e,hd⟩,ih (fun b hb=>hs b (by unfold frs;rw[List.filterMap_cons,hf];exact Y7 _ hb)) hr⟩
 exact all X.outer (fun _ hb=>hb) I.ok.funs
theorem Inv.stack(I:Inv X XB Z H s):s.heap.FunFrames X.base X.stack:=by
 rcases I.ok.stk with e | ⟨e,hf⟩
 .rw[e];exact I.funs
 .rw[e];obtain⟨m,hn,_⟩:=I.loc;refine .cons (by rw[I.ok.kind];decide) hf hn ?_ I.funs;exact Heap.get?_none_of_le (Ve I.ok.bsz I.ok.above)
theorem Inv.stkSub(I:Inv X XB Z H s):∀b∈frs X.stack,b∈X.env.locals::X.fs:=fun b hb=>by
 rcases I.ok.stk with e | ⟨e,hf⟩
 .rw[e]at hb;exact Y7 _ hb
 .rw[e]at hb;unfold frs at hb;rw[List.filterMap_cons,hf]at hb;exact hb
theorem Inv.stkFree(I:Inv X XB Z H s):∀b∈frs X.stack,H b=none:=fun b hb=>by
 rcases Yw.mp (I.stkSub b hb) with e | hb
 .rw[e];exact I.free
 .obtain⟨_,o,ho,_⟩:=I.ok.funs.mem hb;exact I.base.free b o ho (I.ok.frf b hb) fun z=>I.ok.exfs b z hb
theorem Inv.step{g':Array GenState}{t':Nat}{d':Drawn}{ch:ZU}(I:Inv X XB Z H s)
  (n4:∀b∈ch,(b∈X.ex\/X.s₀.heap.objs.size<=b)/\b≠X.env.locals/\(∀x c,X.env.cells.lookup x=some c->c≠b)/\∀p∈X.pn++XB,p.1≠b)
  (keep:∀b o,b≠X.env.locals->b ∉ X.fs->b ∉ ch->s.heap.get? b=some o->H b=none->h'.get? b=some o)
  (slot:∀b o,b≠X.env.locals->b∈X.fs->b ∉ ch->s.heap.get? b=some o->H b=none->∃sl,h'.get? b=some { o with slots:=sl }) (free:∀b o,b ∉ ch->s.heap.get? b=some o->H b=none->H' b=none)
  (there:∀b o,b ∉ ch->s.heap.get? b=some o->∃o',h'.get? b=some o')
  (tups:∀b xs,H b=some (.tup xs)->H' b=some (.tup xs)) (frzs:∀b o u,H b=some (.frz o u)->H' b=some (.frz o u)) (tbls:∀b ps,H b=some (.tbl ps)->∃more,H' b=some (.tbl (ps++more)))
  (ns:∀m,s.heap.Ns X.env.locals m->h'.Ns X.env.locals m) (hok:D3 X.prog X.w H' h') (hg:AllBare g') :
  Inv X XB Z H' { s with heap:=h',gens:=g',drawn:=d',toks:=t' }:=by
 have neL:∀b o,X.s₀.heap.get? b=some o->b≠X.env.locals:=fun b o e=>N0 (Wp (Vb e) I.ok.above)
 have neC:∀b o,X.s₀.heap.get? b=some o->b ∉ X.ex->b ∉ ch:=fun b o e hx hb=>by
  rcases(n4 b hb).1 with z | z
  .exact hx z
  .exact absurd (Wp (Vb e) z) (Nat.lt_irrefl _)
 have cellK:∀x c,X.env.cells.lookup x=some c->∀v,s.heap.IsCell c v->h'.IsCell c v:=fun x c e v ⟨o,ho,hd⟩=>by
  have nch:c ∉ ch:=fun z=>(n4 c z).2.2.1 x c e rfl;by_cases hc:c∈X.fs
  .obtain⟨sl,q⟩:=slot c o (I.cne x c e) hc nch ho (I.freeC x c e);exact⟨_,q,hd⟩
  .exact⟨o,keep c o (I.cne x c e) hc nch ho (I.freeC x c e),hd⟩
 refine⟨I.ok,I.os,hg,⟨fun b o e n hb hx=>?_,fun b o e n hb hx=>?_,fun b o e n hx=>?_,fun b o e hx=>?_,fun b xs e=>tups b xs (I.base.tups b xs e),fun b o xs e=>frzs b o xs (I.base.frzs b o xs e),fun b ps e=>?_⟩, ?_,fun x c e=>?_, ?_,fun x c e=>?_,fun p hp=>?_,hok,I.len⟩
 .exact keep b o (neL b o e) hb (neC b o e hx) (I.base.keep b o e n hb hx) (I.base.free b o e n hx)
 .obtain⟨sl,e1⟩:=I.base.slot b o e n hb hx;obtain⟨sl',e2⟩:=slot b _ (neL b o e) hb (neC b o e hx) e1 (I.base.free b o e n hx);exact⟨sl',e2⟩
 .obtain⟨o',e1⟩:=I.base.there b o e hx;exact free b o' (neC b o e hx) e1 (I.base.free b o e n hx)
 .obtain⟨o',e1⟩:=I.base.there b o e hx;exact there b o' (neC b o e hx) e1
 .obtain⟨m1,e1⟩:=I.base.tbls b ps e;obtain⟨m2,e2⟩:=tbls b _ e1;exact⟨m1++m2,by rw[e2,Array.append_assoc]⟩
 .obtain⟨m,hn,hl⟩:=I.loc;refine⟨m,ns m hn,fun i x v e1 e2 e3=>?_⟩;obtain⟨u,r,l⟩:=hl i x v e1 e2 e3;refine⟨u,r, ?_⟩;rcases l with l | ⟨k,c,e,z⟩
  .exact .inl l
  .exact .inr ⟨k,c,e,cellK x c e _ z⟩
 .obtain⟨v,z⟩:=I.cell x c e;exact⟨v,cellK x c e v z⟩
 .obtain⟨m,⟨o,_,_,ho,_⟩,_⟩:=I.loc;exact free _ o (fun z=>(n4 _ z).2.1 rfl) ho I.free
 .obtain⟨v,o,ho,hd⟩:=I.cell x c e;exact free c o (fun z=>(n4 c z).2.2.1 x c e rfl) ho (I.freeC x c e)
 .obtain⟨e,n,ne,nf,d⟩:=I.pin p hp;have nch:p.1 ∉ ch:=fun z=>(n4 p.1 z).2.2.2 p hp rfl;exact⟨keep p.1 p.2 ne nf nch e n,free p.1 p.2 nch e n,ne,nf,d⟩
theorem Inv.un{t':Nat}(I:Inv X XB Z H s)(u:Un X.fs [] H H' s.heap h')(hok:D3 X.prog X.w H' h'):Inv X XB Z H' { s with heap:=h',toks:=t' }:=by
 obtain⟨m,⟨o,es,ep,ho,r⟩,_⟩:=id I.loc;obtain⟨sl,hL⟩:=u.any ho I.free (by simp)
 exact I.step (g':=s.gens) (d':=s.drawn) (ch:=[]) (fun _ z=>nomatch z) (fun b o _ hb _ e n=>u.keep b o e n hb (by simp)) (fun b o _ hb _ e n=>u.slot b o e n hb (by simp)) (fun b o _ e n=>u.free b o e n (by simp)) (fun b o _ e=>u.there b o e (by simp)) u.tups u.frzs u.tbls (fun m' hm=>by
  obtain⟨o',es',ep',Rv,r'⟩:=hm;rw[ho]at Rv;cases Rv;exact⟨_,es',ep',hL,r'⟩) hok I.bare
theorem Inv.call{g':Array GenState}{t':Nat}{d':Drawn}{ch:ZU}(I:Inv X XB Z H s)(u:Un (frs X.stack) ch H H' s.heap h')(hok:D3 X.prog X.w H' h')(hg:AllBare g')
  (n4:∀b∈ch,(b∈X.ex\/X.s₀.heap.objs.size<=b)/\b≠X.env.locals/\(∀x c,X.env.cells.lookup x=some c->c≠b)/\∀p∈X.pn++XB,p.1≠b) :
  Inv X XB Z H' { s with heap:=h',gens:=g',drawn:=d',toks:=t' }:=by
 obtain⟨m,⟨o,es,ep,ho,r⟩,_⟩:=id I.loc;obtain⟨sl,hL⟩:=u.any ho I.free fun z=>(n4 _ z).2.1 rfl
 exact I.step (ch:=ch) n4 (fun b o hL hb hc e n=>u.keep b o e n (fun z=>(Yw.mp (I.stkSub b z)).elim hL hb) hc) (fun b o _ _ hc e n=>u.any e n hc) (fun b o hc e n=>u.free b o e n hc) (fun b o hc e=>u.there b o e hc) u.tups u.frzs u.tbls (fun m' hm=>by
  obtain⟨o',es',ep',Rv,r'⟩:=hm;rw[ho]at Rv;cases Rv;exact⟨_,es',ep',hL,r'⟩) hok hg
theorem Inv.turned{t':Nat}{it:Addr}(I:Inv X XB Z H s)(k:∀b o,b≠it->s.heap.get? b=some o->h'.get? b=some o)(hn:H it=none)(hL:it≠X.env.locals)
  (h1:it∈X.ex\/X.s₀.heap.objs.size<=it) (h2:∀x c,X.env.cells.lookup x=some c->c≠it) (h3:∀p∈X.pn++XB,p.1≠it):Inv X XB Z H { s with heap:=h',toks:=t' }:=by
 have nit:∀b u,H b=some u->b≠it:=fun b u e z=>by rw[z,hn]at e;cases e
 refine I.step (g':=s.gens) (d':=s.drawn) (ch:=[it]) (fun b hb=>?_) (fun b o _ _ hc e _=>k b o (fun z=>hc (by simp[z])) e) (fun b o _ _ hc e _=>⟨o.slots,k b o (fun z=>hc (by simp[z])) e⟩) (fun _ _ _ _ n=>n)
  (fun b o hc e=>⟨o,k b o (fun z=>hc (by simp[z])) e⟩) (fun _ _ e=>e) (fun _ _ _ e=>e) (fun b ps e=>⟨#[],by rw[e];simp⟩) (fun m hm=>?_) (fun b u e=>?_) I.bare
 .have e:b=it:=by simpa using hb
  subst e;exact⟨h1,hL,h2,h3⟩
 .obtain⟨o,es,ep,ho,r⟩:=hm;exact⟨o,es,ep,k _ o (Ne.symm hL) ho,r⟩
 .refine(I.hok b u e).stay (fun c v hc q=>k c v ?_ q) (fun _ q=>q) fun _ _ q=>q;rcases hc with z | z
  .rw[z];exact nit b u e
  .exact nit c _ z
theorem Inv.tok(I:Inv X XB Z H s)(t:Nat):Inv X XB Z H { s with toks:=t }:=I.un (h':=s.heap) (t':=t) Un.refl I.hok
theorem Inv.kept{t':Nat}(I:Inv X XB Z H s)(k:∀b u,s.heap.get? b=some u->h'.get? b=some u):Inv X XB Z H { s with heap:=h',toks:=t' }:=I.un (Un.kept k) (I.hok.kept k)
theorem Inv.laid{a:Addr}{o:HO}{t':Nat}(I:Inv X XB Z H s)(k:∀b u,s.heap.get? b=some u->h'.get? b=some u)(hp:s.heap.objs.size<=a)(new:Za X.prog X.w (upd H a o) h' a o) :
  Inv X XB Z (upd H a o) { s with heap:=h',toks:=t' }:=I.un (Un.laid k hp (I.hok.fresh hp)) (I.hok.laid k hp new)
theorem Inv.write{x e:Addr}{o:HO}{t':Nat}(I:Inv X XB Z H s)(mu:Mut (H x))(he:e=x\/H e=some (.own x))(k:∀b u,b≠e->s.heap.get? b=some u->h'.get? b=some u)(heo:∃u,h'.get? e=some u)
  (new:Za X.prog X.w (upd H x o) h' x o):Inv X XB Z (upd H x o) { s with heap:=h',toks:=t' }:=I.un (Un.write mu he k heo) (I.hok.write mu he k heo new)
theorem Inv.pins_of{pins':ZY}(I:Inv X XB Z H s)(h:∀p∈pins',s.heap.get? p.1=some p.2/\H p.1=none/\p.1≠X.env.locals/\p.1 ∉ X.fs/\∀v,p.2.data≠.cell v):Inv X pins' Z H s :=
 ⟨I.ok,I.os,I.bare,I.base,I.loc,I.cell,I.free,I.freeC,fun p hp=>(Ks.mp hp).elim (fun z=>I.pin p (List.mem_append_left _ z)) (h p),I.hok,I.len⟩
theorem Pz{N:ZD}(hN:N.Nodup){i j:Nat}{x:Str}(a:N[i]?=some x)(b:N[j]?=some x):i=j:=by
 obtain⟨h1,e1⟩:=Tz.mp a;obtain⟨h2,e2⟩:=Tz.mp b;exact(List.getElem_inj hN).mp (e1.trans e2.symm)
theorem R1{M:Model}{A:Around}{E:ZW}{i:Nat}{x:Str}{v:V}{u:Value}{Q:ZA}(I:Inv X XB Z H s)(hN:X.N.Nodup)(hi:X.N[i]?=some x)(hx:Loc X.env.scope x)(r:RelV v u)
  (h:∀s',Inv X XB (Z.set i (some v)) H s'->(∃a,Heap.SameBut a s.heap s'.heap/\(a=X.env.locals\/X.env.cells.lookup x=some a))->Q () s') (hf:X.fn x=true\/X.env.scope.names.lookup x=some .local:=by first | exact .inl rfl | exact .inr rfl | assumption):wpAny M A (storeName X.env x u) Q E s:=by
 obtain⟨m,hn,hl⟩:=id I.loc;have hcls:(X.env.scope.kind == .class || (X.env.scope.kind == .module && X.env.locals != X.env.globals))=false:=by rw[I.ok.kind];rfl
 have hiσ:i<Z.length:=by rw[I.len];exact(Tz.mp hi).1
 have cne:=I.cne
 have tracked:∀{a:Addr} {h':Heap},(∃o,s.heap.get? a=some o/\H a=none)->Heap.SameBut a s.heap h'->D3 X.prog X.w H h':=fun {a h'} ha hs b ob e=>by
  obtain⟨_,_,Pt⟩:=ha;refine(I.hok b ob e).stay (fun c w' hc q=>(hs.2 c ?_).trans q) (fun _ q=>q) fun _ _ q=>q;rintro rfl;rcases hc with rfl | hc
  .rw[Pt]at e;cases e
  .rw[Pt]at hc;cases hc
 rcases hx with hk | hk
 .refine wpAny_storeName_local hk hn (fun h' hn' hs=>?_) hcls;obtain⟨oL,_,_,hoL,_⟩:=id hn;refine h _ ⟨I.ok,I.os,I.bare,⟨fun b o e n hb hx=>?_,fun b o e n hb hx=>?_,I.base.free,fun b o e hx=>?_,I.base.tups,I.base.frzs,I.base.tbls⟩,⟨_,hn',fun j y v' e1 e2 e3=>?_⟩,fun y c e=>?_,I.free,I.freeC,fun p hp=>?_,tracked ⟨oL,hoL,I.free⟩ hs,by simpa using I.len⟩ ⟨_,hs,.inl rfl⟩
  .exact(hs.2 b (N0 (Wp (Vb e) I.ok.above))).trans (I.base.keep b o e n hb hx)
  .obtain⟨sl,e1⟩:=I.base.slot b o e n hb hx;exact⟨sl,(hs.2 b (N0 (Wp (Vb e) I.ok.above))).trans e1⟩
  .obtain⟨o',e1⟩:=I.base.there b o e hx;exact⟨o',(hs.2 b (N0 (Wp (Vb e) I.ok.above))).trans e1⟩
  .by_cases hj:j=i
   .subst hj;rw[hi]at e1;cases e1;rw[List.getElem?_set_self hiσ]at e2;cases e2;exact⟨u,r,.inl ⟨hk,by simp⟩⟩
   .rw[List.getElem?_set_ne (Ne.symm hj)]at e2;obtain⟨u',r',q⟩:=hl j y v' e1 e2 e3;refine⟨u',r', ?_⟩;rcases q with ⟨k,e⟩ | ⟨k,c,e,z⟩
    .refine .inl ⟨k, ?_⟩;have:y≠x:=fun e=>hj (Pz hN e1 (e ▸ hi));simp[this,e]
    .exact .inr ⟨k,c,e,z.sameBut hs (cne y c e)⟩
  .obtain⟨w',z⟩:=I.cell y c e;exact⟨w',z.sameBut hs (cne y c e)⟩
  .obtain⟨e,n,ne,nf,d⟩:=I.pin p hp;exact⟨(hs.2 p.1 ne).trans e,n,ne,nf,d⟩
 .have hfn:X.fn x=true:=by
   rcases hf with z | z
   .exact z
   .rw[z]at hk;cases hk
  obtain⟨c,hc⟩:=I.ok.has x (.inl hk);obtain⟨w',z⟩:=I.cell x c hc;refine wpAny_storeName_cell I.ok.kind hk hc z (fun h' n5 hs=>?_);obtain⟨oc,hoc,hocd⟩:=id z;refine h { s with heap:=h' } ⟨I.ok,I.os,I.bare,⟨fun b o e n hb hx=>?_,fun b o e n hb hx=>?_,I.base.free,fun b o e hx=>?_,I.base.tups,I.base.frzs,I.base.tbls⟩,⟨m,hn.sameBut hs (Ne.symm (cne x c hc)),fun j y v' e1 e2 e3=>?_⟩,fun y c' e=>?_,I.free,I.freeC,fun p hp=>?_,tracked ⟨oc,hoc,I.freeC x c hc⟩ hs,by simpa using I.len⟩ ⟨c,hs,.inr hc⟩
  .exact(hs.2 b (N0 (Wp (Vb e) (I.ok.cab x c hfn hc)))).trans (I.base.keep b o e n hb hx)
  .obtain⟨sl,e1⟩:=I.base.slot b o e n hb hx;exact⟨sl,(hs.2 b (N0 (Wp (Vb e) (I.ok.cab x c hfn hc)))).trans e1⟩
  .obtain⟨o',e1⟩:=I.base.there b o e hx;exact⟨o',(hs.2 b (N0 (Wp (Vb e) (I.ok.cab x c hfn hc)))).trans e1⟩
  .by_cases hj:j=i
   .subst hj;rw[hi]at e1;cases e1;rw[List.getElem?_set_self hiσ]at e2;cases e2;exact⟨u,r,.inr ⟨.inl hk,c,hc,n5⟩⟩
   .rw[List.getElem?_set_ne (Ne.symm hj)]at e2;obtain⟨u',r',q⟩:=hl j y v' e1 e2 e3;refine⟨u',r', ?_⟩;rcases q with q | ⟨k,c',e,z'⟩
    .exact .inl q
    .refine .inr ⟨k,c',e,z'.sameBut hs ?_⟩;rintro rfl;exact hj (Pz hN e1 (I.ok.inj _ _ _ e hc ▸ hi))
  .by_cases hcc:c'=c
   .subst hcc;exact⟨_,n5⟩
   .obtain⟨w2,z2⟩:=I.cell y c' e;exact⟨w2,z2.sameBut hs hcc⟩
  .obtain⟨e,n,ne,nf,d⟩:=I.pin p hp;refine⟨(hs.2 p.1 ?_).trans e,n,ne,nf,d⟩;intro q;rw[q,hoc]at e;have q':oc=p.2:=G0 e;exact d w' (by rw[<-q'];exact hocd)
theorem Qd{M:Model}{A:Around}{E:ZW}{i:Nat}{x:Str}{v:V}{u:Value}{Q:ZA}(I:Inv X XB Z H s)(hN:X.N.Nodup)(hi:X.N[i]?=some x)(hx:Loc X.env.scope x)(r:RelV v u)
  (h:∀s',Inv X XB (Z.set i (some v)) H s'->Q () s') (hf:X.fn x=true\/X.env.scope.names.lookup x=some .local:=by first | exact .inl rfl | exact .inr rfl | assumption):wpAny M A (storeName X.env x u) Q E s :=
 R1 I hN hi hx r (fun s' I' _=>h s' I') hf
theorem Inv.call'{s':Shared}{ch:ZU}(I:Inv X XB Z H s)(ho:s'.os=s.os)(u:Un (frs X.stack) ch H H' s.heap s'.heap)(hok:D3 X.prog X.w H' s'.heap)(hg:AllBare s'.gens)
  (n4:∀b∈ch,(b∈X.ex\/X.s₀.heap.objs.size<=b)/\b≠X.env.locals/\(∀x c,X.env.cells.lookup x=some c->c≠b)/\∀p∈X.pn++XB,p.1≠b):Inv X XB Z H' s':=by
 obtain⟨h',g',d',t',o'⟩:=s';have e:o'=s.os:=ho;subst e;exact I.call (g':=g') (t':=t') (d':=d') u hok hg n4
end
abbrev XK:=Value->ZP->Hp->Prop
abbrev St:=ZJ
abbrev VK:=V->Hp->Prop
abbrev TE:=St->Hp->VK->Prop
abbrev TT:=St->Hp->(Bool->Hp->Prop)->Prop
abbrev TA:=St->Hp->(ZQ->Hp->Prop)->Prop
structure Ends where
 nx:St->Hp->Prop
 rt:VK
 bk:St->Hp->Prop:=fun _ _=>False
 ct:St->Hp->Prop:=fun _ _=>False
abbrev TS:=Ends->St->Hp->Prop
def EP(X:Cx)(XB:ZY)(Z:St)(Q:VK)(u:Value)(s':Shared):Prop:=∃v H',Inv X XB Z H' s'/\RelV v u/\Q v H'
def TP(X:Cx)(XB:ZY)(Z:St)(Q:Bool->Hp->Prop)(b:Bool)(s':Shared):Prop:=∃H',Inv X XB Z H' s'/\Q b H'
def AP(X:Cx)(XB:ZY)(Z:St)(Q:ZQ->Hp->Prop)(us:ZM)(s':Shared):Prop:=∃vs H',Inv X XB Z H' s'/\Zw vs us/\Q vs H'
def SP(X:Cx)(XB:ZY)(D:Ends)(f:Flow)(s':Shared):Prop :=
 match f with
 | .next=>∃σ' H',Inv X XB σ' H' s'/\D.nx σ' H'
 | .brk=>∃σ' H',Inv X XB σ' H' s'/\D.bk σ' H'
 | .cont=>∃σ' H',Inv X XB σ' H' s'/\D.ct σ' H'
 | .ret u=>∃v σ' H',Inv X XB σ' H' s'/\RelV v u/\D.rt v H'
def PE(X:Cx)(e:Expr)(t:TE):Prop :=
 ∀(XB:ZY) (s:Shared) (Z:St) (H:Hp) (Q:VK),Inv X XB Z H s->t Z H Q->wpAny (model X.prog X.w) X.A (eval e X.env) (EP X XB Z Q) X.xe s
def PT(X:Cx)(e:Expr)(t:TT):Prop :=
 ∀(XB:ZY) (s:Shared) (Z:St) (H:Hp) (Q:Bool->Hp->Prop),Inv X XB Z H s->t Z H Q->wpAny (model X.prog X.w) X.A (isTrue e X.env (eval e X.env)) (TP X XB Z Q) X.xe s
def PW(X:Cx)(e:Expr)(t:TT):Prop :=
 ∀(whole:Sem Value) (XB:ZY) (s:Shared) (Z:St) (H:Hp) (Q:Bool->Hp->Prop),Inv X XB Z H s->t Z H Q->wpAny (model X.prog X.w) X.A (isTrue e X.env whole) (TP X XB Z Q) X.xe s
theorem PW.pt{X:Cx}{e:Expr}{t:TT}(h:PW X e t):PT X e t:=h _
def PA(X:Cx)(es:ZC)(t:TA):Prop :=
 ∀(pos:Pos) (XB:ZY) (s:Shared) (Z:St) (H:Hp) (Q:ZQ->Hp->Prop),Inv X XB Z H s->t Z H Q->wpAny (model X.prog X.w) X.A (spliced (backTo pos (starEach es X.env))) (AP X XB Z Q) X.xe s
def PS(X:Cx)(st:Stmt)(t:TS):Prop :=
 ∀(XB:ZY) (s:Shared) (Z:St) (H:Hp) (D:Ends),Inv X XB Z H s->t D Z H->wpAny (model X.prog X.w) X.A (exec st X.env) (SP X XB D) X.xe s
def Rr(X:Cx)(st:List Stmt)(t:TS):Prop :=
 ∀(XB:ZY) (s:Shared) (Z:St) (H:Hp) (D:Ends),Inv X XB Z H s->t D Z H->wpAny (model X.prog X.w) X.A (execs st X.env) (SP X XB D) X.xe s
theorem Z3{Z:Type}{t:Sem Z}{Q Q':Z->Shared->Prop}{M:Model}{A:Around}{E:ZW}{s:Shared}(h:wpAny M A t Q E s)(hQ:∀a s,Q a s->Q' a s):wpAny M A t Q' E s:=wpAny_mono h hQ fun _ _ x=>x
section
variable{X:Cx}
inductive w4(i:Nat)(Z:St)(H:Hp)(Q:VK):Prop
 | mk(v)(Yh:Z[i]?=some (some v))(Ys:Q v H):w4 i Z H Q
def tVar(i:Nat):TE:=fun Z H Q=>w4 i Z H Q
def tC(v:V):TE:=fun _ H Q=>Q v H
theorem gq{i:Nat}{x:Str}{pos:Pos}(hN:X.N[i]?=some x)(hv:Vis X.env.scope x)(hd:(x == ("__debug__" : Str))=false:=by decide)(Pp:(x == ("__classdict__" : Str))=false:=by decide):PE X (.Name x pos) (tVar i):=by
 intro XB s Z H Q I h;obtain⟨v,e,h⟩:=h;obtain⟨m,hn,hl⟩:=I.loc;obtain⟨u,r,l⟩:=hl i x v hN e hv;have fin:EP X XB Z Q u s:=⟨v,H,I,r,h⟩;rcases l with ⟨hk,hm⟩ | ⟨hk,c,hc,Ph⟩
 .exact wpAny_Name (wpAny_loadName_local I.ok.kind hk hn hm fin) hd
 .rcases hk with hk | hk
  .exact wpAny_Name (wpAny_loadName_cell I.ok.kind hk hc Ph fin) hd
  .exact wpAny_Name (wpAny_loadName_free I.ok.kind hk hc Ph fin Pp) hd
theorem pe_int{i j pos}:PE X (.Constant (.int i) j pos) (tC (.int i)):=fun _ _ _ H _ I h=>wpAny_Constant_int ⟨.int i,H,I.tok _,⟨_,rfl⟩,h⟩
theorem pe_bl{b j pos}:PE X (.Constant (.bool b) j pos) (tC (.bl b)):=fun _ _ _ H _ I h=>Constant_bool ⟨.bl b,H,I,rfl,h⟩
theorem pe_non{j pos}:PE X (.Constant .none j pos) (tC .non):=fun _ _ _ H _ I h=>Constant_none ⟨.non,H,I,rfl,h⟩
theorem gw{x j pos}:PE X (.Constant (.str x) j pos) (tC (.str x)):=fun _ _ _ H _ I h=>Calls.Constant_str ⟨.str x,H,I.tok _,⟨_,rfl⟩,h⟩
def Gl(X:Cx)(x:Str):Prop:=X.env.kindOf x=some .globalImplicit
theorem Ae{E:ZW}{XB:ZY}{s:Shared}{Z:St}{H:Hp}{x:Str}{u:Value}{pos:Pos}{Q:ZW}(I:Inv X XB Z H s)(hg:Gl X x)(hm:X.mg x=some u)(h:Q u s)
  (hd:(x == ("__debug__" : Str))=false:=by decide):wpAny (model X.prog X.w) X.A (eval (.Name x pos) X.env) Q E s :=
 Calls.Name_function_global I.ok.kind hg (Calls.loadGlobal_global (by rw[I.ok.glob];exact I.mod.glob.keeps I.bk) hm h) hd
theorem Du{E:ZW}{XB:ZY}{s:Shared}{Z:St}{H:Hp}{x:Str}{u:Value}{pos:Pos}{Q:ZW}(I:Inv X XB Z H s)(hg:Gl X x)(hm:X.mg x=none)(hv:bootBuiltins x=some u)(h:Q u s)
  (hn:x ≠ "__name__" := by decide) (hd:(x == ("__debug__" : Str))=false:=by decide):wpAny (model X.prog X.w) X.A (eval (.Name x pos) X.env) Q E s:=by
 obtain⟨mb,h1,h2⟩:=I.mod.blt;exact Calls.Name_function_global I.ok.kind hg (Calls.loadGlobal_builtin (by rw[I.ok.glob];exact I.mod.glob.keeps I.bk) hm (by rw[I.ok.blt];exact h1.keeps I.bk) ((h2 x hn).trans hv) h) hd
theorem ah{x:Str}{v:V}{u:Value}{pos:Pos}(hg:Gl X x)(hm:X.mg x=some u)(r:RelV v u)(hd:(x == ("__debug__" : Str))=false:=by decide):PE X (.Name x pos) (tC v) :=
 fun _ _ _ H _ I h=>Ae I hg hm ⟨v,H,I,r,h⟩ hd
theorem ai{x:Str}{v:V}{u:Value}{pos:Pos}(hg:Gl X x)(hm:X.mg x=none)(hv:bootBuiltins x=some u)(r:RelV v u)(hn:x ≠ "__name__" := by decide)(hd:(x == ("__debug__" : Str))=false:=by decide):PE X (.Name x pos) (tC v) :=
 fun _ _ _ H _ I h=>Du I hg hm hv ⟨v,H,I,r,h⟩ hn hd
variable{a b:Expr}{ta tb:TE}{pos:Pos}
inductive tB_I(Q:(Bool->Hp->Prop))(x:V)(H1:Hp):Prop
 | mk(c)(Yh:x=.bl c)(Ys:Q c H1):tB_I Q x H1
def tB(t:TE):TT:=fun Z H Q=>t Z H fun x H1=>tB_I Q x H1
theorem pt_val{e:Expr}{t:TE}(h:PE X e t)(he:∀whole,isTrue e X.env whole=(do let v <-whole;standAt e.pos;holding [v] (truthy v)):=by intro _;rfl):PT X e (tB t):=by
 intro XB s Z H Q I hw;refine isTrue_plain (Z3 (h XB s Z H _ I hw) fun v s1 ⟨x,H1,I1,r1,q1⟩=>?_) (he _);obtain⟨d,rfl,q⟩:=q1;cases r1;exact wpAny_truthy_bool ⟨H1,I1,q⟩
variable{tA tB':TT}{rest:ZC}
def tAnd(t u:TT):TT:=fun Z H Q=>t Z H fun c H1=>if c=true then u Z H1 Q else Q false H1
def tOr(t u:TT):TT:=fun Z H Q=>t Z H fun c H1=>if c=true then Q true H1 else u Z H1 Q
def tNot(t:TT):TT:=fun Z H Q=>t Z H fun c H1=>Q (!c) H1
theorem pw_and1(ha:PT X a tA):PW X (.BoolOp .And [a] pos) tA:=by
 intro wh XB s Z H Q I h;refine isTrue_and (Z3 (ha XB s Z H Q I h) fun c s1 e=>?_);cases c with
 | true=>exact isTrue_and_nil e
 | false=>exact e
theorem pw_or1(ha:PT X a tA):PW X (.BoolOp .Or [a] pos) tA:=by
 intro wh XB s Z H Q I h;refine isTrue_or (Z3 (ha XB s Z H Q I h) fun c s1 e=>?_);cases c with
 | false=>exact isTrue_or_nil e
 | true=>exact e
theorem pw_and(ha:PT X a tA)(hb:PW X (.BoolOp .And (b::rest) pos) tB'):PW X (.BoolOp .And (a::b::rest) pos) (tAnd tA tB'):=by
 intro wh XB s Z H Q I h;refine isTrue_and (Z3 (ha XB s Z H _ I h) fun c s1 ⟨H1,I1,q1⟩=>?_);cases c with
 | true=>exact hb wh XB s1 Z H1 Q I1 q1
 | false=>exact⟨H1,I1,q1⟩
theorem pw_or(ha:PT X a tA)(hb:PW X (.BoolOp .Or (b::rest) pos) tB'):PW X (.BoolOp .Or (a::b::rest) pos) (tOr tA tB'):=by
 intro wh XB s Z H Q I h;refine isTrue_or (Z3 (ha XB s Z H _ I h) fun c s1 ⟨H1,I1,q1⟩=>?_);cases c with
 | true=>exact⟨H1,I1,q1⟩
 | false=>exact hb wh XB s1 Z H1 Q I1 q1
theorem pt_not(ha:PT X a tA):PT X (.UnaryOp .Not a pos) (tNot tA):=by
 intro XB s Z H Q I h;exact isTrue_not (ha XB s Z H (fun c H1=>Q (!c) H1) I h)
inductive Hz(tb:TE)(Z:St)(Q:VK)(x:V)(H1:Hp):Prop
 | mk(c)(Yh:x=.bl c)(Ys:if c=true then tb Z H1 Q else Q (.bl false) H1):Hz tb Z Q x H1
def tAndV(ta tb:TE):TE:=fun Z H Q=>ta Z H fun x H1=>Hz tb Z Q x H1
inductive w8(tb:TE)(Z:St)(Q:VK)(x:V)(H1:Hp):Prop
 | mk(c)(Yh:x=.bl c)(Ys:if c=true then Q (.bl true) H1 else tb Z H1 Q):w8 tb Z Q x H1
def tOrV(ta tb:TE):TE:=fun Z H Q=>ta Z H fun x H1=>w8 tb Z Q x H1
inductive K9(Q:VK)(x:V)(H1:Hp):Prop
 | mk(c)(Yh:x=.bl c)(Ys:Q (.bl (!c)) H1):K9 Q x H1
def tNotV(ta:TE):TE:=fun Z H Q=>ta Z H fun x H1=>K9 Q x H1
theorem gv{op}{t:TE}(h:PE X a t):PE X (.BoolOp op [a] pos) t:=fun XB s Z H Q I hw=>BoolOp_one (h XB s Z H Q I hw)
theorem pe_and(ha:PE X a ta)(hb:PE X (.BoolOp .And (b::rest) pos) tb):PE X (.BoolOp .And (a::b::rest) pos) (tAndV ta tb):=by
 intro XB s Z H Q I h;refine BoolOp_and (Z3 (ha XB s Z H _ I h) fun v s1 ⟨x,H1,I1,r1,q1⟩=>?_);obtain⟨c,rfl,q1⟩:=q1;cases r1;refine wpAny_truthy_bool ?_;cases c with
 | true=>exact hb XB s1 Z H1 Q I1 q1
 | false=>exact⟨.bl false,H1,I1,rfl,q1⟩
theorem pe_or(ha:PE X a ta)(hb:PE X (.BoolOp .Or (b::rest) pos) tb):PE X (.BoolOp .Or (a::b::rest) pos) (tOrV ta tb):=by
 intro XB s Z H Q I h;refine BoolOp_or (Z3 (ha XB s Z H _ I h) fun v s1 ⟨x,H1,I1,r1,q1⟩=>?_);obtain⟨c,rfl,q1⟩:=q1;cases r1;refine wpAny_truthy_bool ?_;cases c with
 | false=>exact hb XB s1 Z H1 Q I1 q1
 | true=>exact⟨.bl true,H1,I1,rfl,q1⟩
theorem pe_not(ha:PE X a ta):PE X (.UnaryOp .Not a pos) (tNotV ta):=by
 intro XB s Z H Q I h;refine UnaryOp_ (Z3 (ha XB s Z H _ I h) fun v s1 ⟨x,H1,I1,r1,q1⟩=>?_);obtain⟨c,rfl,q1⟩:=q1;cases r1;exact not_of (wpAny_truthy_bool ⟨.bl (!c),H1,I1,rfl,q1⟩)
def tIf(t:TT)(ta tb:TE):TE:=fun Z H Q=>t Z H fun c H1=>if c=true then ta Z H1 Q else tb Z H1 Q
theorem gy{c:Expr}(hc:PT X c tA)(ha:PE X a ta)(hb:PE X b tb):PE X (.IfExp c a b pos) (tIf tA ta tb):=by
 intro XB s Z H Q I h;refine wpAny_IfExp (Z3 (hc XB s Z H _ I h) fun d s1 ⟨H1,I1,q1⟩=>?_);cases d with
 | true=>exact ha XB s1 Z H1 Q I1 q1
 | false=>exact hb XB s1 Z H1 Q I1 q1
end
def Vc(K:W.Frag)(H:Hp)(a:Addr)(xs:ZQ):Prop :=
 Rd H a (.lst xs) \/
  ∃(o:Obj) (XD:ZN) (n:Nat),K.lookup a=some o/\o.cls=.type "list" /\ o.dict=none/\o.data=.seq XD n/\XD.size<=sizeLine/\Zw xs XD.toList
def Yu(K:W.Frag)(H:Hp)(a:Addr)(xs:ZQ):Prop :=
 Rd H a (.tup xs) \/
  ∃(o:Obj) (XD:ZN) (n:Nat),K.lookup a=some o/\o.cls=.type "tuple" /\ o.dict=none/\o.data=.seq XD n/\XD.size<=sizeLine/\Zw xs XD.toList
noncomputable def absV:Value->Option V
 | .none=>some .non
 | .bool b=>some (.bl b)
 | .int i _=>some (.int i)
 | .str x _=>some (.str x)
 | .bytes b _=>some (.byt b)
 | .float b _=>some (.flt b)
 | .ref a=>some (.ref a)
 | .type n=>some (.ty n)
 | _=>none
theorem RelV.abs{x:V}{u:Value}(r:RelV x u):absV u=some x:=by
 cases x with
 | non=>cases r;rfl
 | bl _=>cases r;rfl
 | int _=>obtain⟨t,rfl⟩:=r;rfl
 | str _=>obtain⟨t,rfl⟩:=r;rfl
 | byt _=>obtain⟨t,rfl⟩:=r;rfl
 | flt _=>obtain⟨t,rfl⟩:=r;rfl
 | ref _=>cases r;rfl
 | ty _=>cases r;rfl
theorem RelV.inj{x y:V}{u:Value}(r:RelV x u)(q:RelV y u):x=y:=G0 (r.abs.symm.trans q.abs)
theorem Zw.inj:∀{xs ys:ZQ} {us:ZM},Zw xs us->Zw ys us->xs=ys
 | _,_,_,.nil,.nil=>rfl
 | _,_,_,.cons r t,.cons r' t'=>by rw[r.inj r',Zw.inj t t']
section
variable{X:Cx}{XB:ZY}{Z:St}{H:Hp}{s:Shared}{a:Addr}{xs ys:ZQ}
theorem Vc.of{K:W.Frag}(h:H a=some (.lst xs)):Vc K H a xs:=.inl (.inl h)
theorem Yu.of{K:W.Frag}(h:H a=some (.tup xs)):Yu K H a xs:=.inl (.inl h)
theorem Inv.list(I:Inv X XB Z H s)(h:Vc X.K H a xs):∃XD:ZM,Zw xs XD/\PlainL s.heap a XD.toArray/\xs.length<=sizeLine:=by
 rcases h with h | ⟨o,XD,n,hk,hc,hd,hs,hz,r⟩
 .obtain⟨z,XD,n,r,e⟩:=h.ok I.hok;exact⟨XD,r,⟨_,n,e,rfl,rfl,rfl⟩,z⟩
 .refine⟨XD.toList,r,⟨o,n,I.kIn a o hk,hc,hd,by simpa using hs⟩, ?_⟩;have e:=r.length;simp only[qp]at e;omega
theorem Inv.tuple(I:Inv X XB Z H s)(h:Yu X.K H a xs):∃XD:ZM,Zw xs XD/\IsTup s.heap a XD.toArray/\xs.length<=sizeLine:=by
 rcases h with h | ⟨o,XD,n,hk,hc,hd,hs,hz,r⟩
 .obtain⟨z,XD,r,p⟩:=h.ok I.hok;exact⟨XD,r,p.tup,z⟩
 .refine⟨XD.toList,r,⟨o,I.kIn a o hk,hc,n,by simpa using hs⟩, ?_⟩;have e:=r.length;simp only[qp]at e;omega
theorem Inv.list_inj(I:Inv X XB Z H s)(h:Vc X.K H a xs)(h':Vc X.K H a ys):xs=ys:=by
 obtain⟨XD,r,⟨o,n,e,_,_,d⟩,_⟩:=I.list h;obtain⟨its',r',⟨o',n',e',_,_,d'⟩,_⟩:=I.list h';rw[e]at e';cases e';rw[d]at d'
 injection d' with d1 _
 have:XD=its':=by simpa using congrArg Array.toList d1
 subst this;exact r.inj r'
theorem Inv.tuple_inj(I:Inv X XB Z H s)(h:Yu X.K H a xs)(h':Yu X.K H a ys):xs=ys:=by
 obtain⟨XD,r,⟨o,e,_,n,d⟩,_⟩:=I.tuple h;obtain⟨its',r',⟨o',e',_,n',d'⟩,_⟩:=I.tuple h';rw[e]at e';cases e';rw[d]at d'
 injection d' with d1 _
 have:XD=its':=by simpa using congrArg Array.toList d1
 subst this;exact r.inj r'
end
noncomputable abbrev Cx.wish(X:Cx)(E:ZW):Cx:={ X with xe:=E }
noncomputable abbrev Cx.nox(X:Cx):Cx:=X.wish fun _ _=>False
theorem Cx.Ok.wish{X:Cx}(ok:X.Ok)(E:ZW):(X.wish E).Ok :=
 ⟨ok.mod,ok.kind,ok.glob,ok.blt,ok.above,ok.inj,ok.has,ok.cab,ok.hd,ok.frames,ok.stk,ok.exf,ok.bs,ok.bsz,ok.noex,ok.exfs,ok.funs,ok.frf⟩
theorem Cx.Ok.unwish{X:Cx}{E:ZW}(ok:(X.wish E).Ok):X.Ok :=
 ⟨ok.mod,ok.kind,ok.glob,ok.blt,ok.above,ok.inj,ok.has,ok.cab,ok.hd,ok.frames,ok.stk,ok.exf,ok.bs,ok.bsz,ok.noex,ok.exfs,ok.funs,ok.frf⟩
section
variable{X:Cx}{XB:ZY}{Z:St}{H:Hp}{s:Shared}{E:ZW}
theorem Inv.wish(I:Inv X XB Z H s)(E:ZW):Inv (X.wish E) XB Z H s:=⟨I.ok.wish E,I.os,I.bare,I.base,I.loc,I.cell,I.free,I.freeC,I.pin,I.hok,I.len⟩
theorem Inv.unwish(I:Inv (X.wish E) XB Z H s):Inv X XB Z H s:=⟨I.ok.unwish,I.os,I.bare,I.base,I.loc,I.cell,I.free,I.freeC,I.pin,I.hok,I.len⟩
theorem SP.unwish{D:Ends}{f:Flow}{s':Shared}(h:SP (X.wish E) XB D f s'):SP X XB D f s':=by
 cases f with
 | next=>obtain⟨σ',H',I,q⟩:=h;exact⟨σ',H',I.unwish,q⟩
 | brk=>obtain⟨σ',H',I,q⟩:=h;exact⟨σ',H',I.unwish,q⟩
 | cont=>obtain⟨σ',H',I,q⟩:=h;exact⟨σ',H',I.unwish,q⟩
 | ret u=>obtain⟨v,σ',H',I,r,q⟩:=h;exact⟨v,σ',H',I.unwish,r,q⟩
theorem Rr.nox{st:List Stmt}{t:TS}(h:Rr X.nox st t):Rr X st t:=fun XB s Z H D I hw =>
 wpAny_mono (h XB s Z H D (I.wish _) hw) (fun _ _ q=>q.unwish) fun _ _ z=>False.elim z
end
section
variable{X:Cx}{st:Stmt}{rest:List Stmt}{t u:TS}{e:Expr}{te:TE}{pos:Pos}
def Zxw:TS:=fun D Z H=>D.nx Z H
def tSeq(t u:TS):TS:=fun D Z H=>t { D with nx:=u D } Z H
theorem az:Rr X [] Zxw:=fun _ _ Z H _ I h=>wpAny_execs_nil ⟨Z,H,I,h⟩
theorem kg(h1:PS X st t)(h2:Rr X rest u):Rr X (st::rest) (tSeq t u):=by
 intro XB s Z H D I h;refine wpAny_execs_cons (Z3 (h1 XB s Z H { D with nx:=u D } I h) fun f s1 q=>?_);cases f with
 | next =>
  obtain⟨σ',H',I',q⟩:=q;exact h2 XB s1 σ' H' D I' q
 | ret v=>exact q
 | brk=>exact q
 | cont=>exact q
def tBreak:TS:=fun D Z H=>D.bk Z H
def tCont:TS:=fun D Z H=>D.ct Z H
theorem aq:PS X (.Pass pos) Zxw:=fun _ _ Z H _ I h=>wpAny_Pass ⟨Z,H,I,h⟩
theorem km:PS X (.Break pos) tBreak:=fun _ _ Z H _ I h=>wpAny_Break ⟨Z,H,I,h⟩
theorem Q0:PS X (.Continue pos) tCont:=fun _ _ Z H _ I h=>wpAny_Continue ⟨Z,H,I,h⟩
theorem Inv.quiet{XB:ZY}{Z:St}{H:Hp}{s:Shared}(I:Inv X XB Z H s):interactive X.env=false:=by simp[interactive,I.ok.kind]
def tDrop(te:TE):TS:=fun D Z H=>te Z H fun _ H1=>D.nx Z H1
theorem aj(he:PE X e te)(hs:swapsWith e none pos.line X.env=pure false:=by rfl):PS X (.Expr e pos) (tDrop te):=by
 intro XB s Z H D I h;exact wpAny_Expr_any (Z3 (he XB s Z H _ I h) fun v s1 ⟨x,H1,I1,r1,q1⟩=>⟨Z,H1,I1,q1⟩) I.quiet hs
def tRet(te:TE):TS:=fun D Z H=>te Z H D.rt
theorem ps_ret(he:PE X e te):PS X (.Return (some e) pos) (tRet te):=by
 intro XB s Z H D I h;exact wpAny_Return_some (Z3 (he XB s Z H _ I h) fun v s1 ⟨x,H1,I1,r1,q1⟩=>⟨x,Z,H1,I1,r1,q1⟩)
def tRetN:TS:=fun D _ H=>D.rt .non H
theorem ax:PS X (.Return none pos) tRetN:=fun _ _ Z H _ I h=>wpAny_Return_none ⟨.non,Z,H,I,rfl,h⟩
def tIfS(c:TT)(t u:TS):TS:=fun D Z H=>c Z H fun b H1=>if b=true then t D Z H1 else u D Z H1
theorem ps_if{c:Expr}{a b:List Stmt}{tc:TT}(hc:PT X c tc)(ha:Rr X a t)(hb:Rr X b u):PS X (.If c a b pos) (tIfS tc t u):=by
 intro XB s Z H D I h;refine wpAny_If (Z3 (hc XB s Z H _ I h) fun d s1 ⟨H1,I1,q1⟩=>?_);cases d with
 | true=>exact ha XB s1 Z H1 D I1 q1
 | false=>exact hb XB s1 Z H1 D I1 q1
end
abbrev TG:=V->St->Hp->(St->Hp->Prop)->Prop
abbrev lz:=ZQ->St->Hp->(St->Hp->Prop)->Prop
def PG(X:Cx)(target:Expr)(t:TG):Prop :=
 ∀(XB:ZY) (s:Shared) (Z:St) (H:Hp) (v:V) (u:Value) (Q:St->Hp->Prop),Inv X XB Z H s->RelV v u->t v Z H Q ->
  wpAny (model X.prog X.w) X.A (assign target X.env u) (fun _ s'=>∃σ' H',Inv X XB σ' H' s'/\Q σ' H') X.xe s
def PGs(X:Cx)(ts:ZC)(t:lz):Prop :=
 ∀(XB:ZY) (s:Shared) (Z:St) (H:Hp) (vs:ZQ) (us:ZM) (Q:St->Hp->Prop),Inv X XB Z H s->Zw vs us->t vs Z H Q ->
  wpAny (model X.prog X.w) X.A (assignInOrder ((assignEach ts X.env).map (·.2)) us) (fun _ s'=>∃σ' H',Inv X XB σ' H' s'/\Q σ' H') X.xe s
abbrev TSet:=V->V->V->Hp->(Hp->Prop)->Prop
def PSet(X:Cx)(t:TSet):Prop :=
 ∀(XB:ZY) (s:Shared) (Z:St) (H:Hp) (o i v:V) (ov iv u:Value) (Q:Hp->Prop),Inv X XB Z H s->RelV o ov->RelV i iv->RelV v u->t o i v H Q ->
  wpAny (model X.prog X.w) X.A (setItem ov iv u) (fun _ s'=>∃H',Inv X XB Z H' s'/\Q H') X.xe s
section
variable{X:Cx}{pos:Pos}
def dg(i:Nat):TG:=fun v Z H Q=>Q (Z.set i (some v)) H
theorem af{i:Nat}{x:Str}(hN:X.N.Nodup)(hi:X.N[i]?=some x)(hx:Loc X.env.scope x)(hf:X.fn x=true\/X.env.scope.names.lookup x=some .local:=by first | exact .inl rfl | exact .inr rfl | assumption):PG X (.Name x pos) (dg i):=by
 intro XB s Z H v u Q I r h;exact wpAny_assign_Name (Qd I hN hi hx r (fun s' I'=>⟨_,H,I',h⟩) hf)
def gNil:lz:=fun vs Z H Q=>vs=[]/\Q Z H
inductive Iq(t:TG)(u:lz)(vs:ZQ)(Z:St)(H:Hp)(Q:(St->Hp->Prop)):Prop
 | mk(v r)(Yh:vs=v::r)(Ys:t v Z H fun σ' H'=>u r σ' H' Q):Iq t u vs Z H Q
def gCons(t:TG)(u:lz):lz:=fun vs Z H Q=>Iq t u vs Z H Q
theorem ag:PGs X [] gNil:=by
 intro XB s Z H vs us Q I r h;obtain⟨e,h⟩:=h;subst e;cases r;exact assignInOrder_nil ⟨Z,H,I,h⟩
theorem gz{e:Expr}{es:ZC}{t:TG}{u:lz}(h1:PG X e t)(h2:PGs X es u)
  (hs:(assignEach (e::es) X.env).map (·.2)=assign e X.env::(assignEach es X.env).map (·.2):=by rfl):PGs X (e::es) (gCons t u):=by
 intro XB s Z H vs us Q I r h;obtain⟨v,vr,e1,h⟩:=h;subst e1;cases r with
 | cons r rr =>
  rw[hs];refine assignInOrder_cons (Z3 (h1 XB s Z H _ _ _ I r h) fun _ s1 ⟨σ1,H1,I1,q1⟩=>?_);exact h2 XB s1 σ1 H1 _ _ Q I1 rr q1
inductive dw(K:W.Frag)(n:Nat)(t:lz)(v:V)(Z:St)(H:Hp)(Q:(St->Hp->Prop)):Prop
 | mk(a xs)(Yh:v=.ref a)(Ys:Yu K H a xs)(Vt:xs.length=n)(C6:t xs Z H Q):dw K n t v Z H Q
def gTup(K:W.Frag)(n:Nat)(t:lz):TG:=fun v Z H Q=>dw K n t v Z H Q
theorem pg_tup{es:ZC}{k:Nat}{t:lz}{n:Nat}(hc:X.calm=true)(h:PGs X es t)
  (hn:(assignEach es X.env).length=n:=by rfl) (C5:(assignEach es X.env).findIdx? (·.1)=none:=by rfl):PG X (.Tuple es k pos) (gTup X.K n t):=by
 intro XB s Z H v u Q I r hw;obtain⟨a,xs,e1,hq,hl,hw⟩:=hw;subst e1;cases r;obtain⟨XD,rv,ht,hz⟩:=I.tuple hq;refine assign_Tuple_tuple (I.ok.hd hc) ht (by simp[hn, <-hl,rv.length]) C5 fun h' hx=>?_;have I1:Inv X XB Z H { s with heap:=h' }:=I.kept (t':=s.toks) fun b o e=>hx b o (N0 (Vb e)) e;exact h XB _ Z H xs _ Q I1 (by simpa using rv) hw
def gSub(to ti:TE)(t:TSet):TG:=fun v Z H Q=>to Z H fun o H1=>ti Z H1 fun i H2=>t o i v H2 fun H3=>Q Z H3
theorem pg_sub{o i:Expr}{to ti:TE}{t:TSet}(ho:PE X o to)(hi:PE X i ti)(hs:PSet X t)
  (ha:∀v,assign (.Subscript o i pos) X.env v=(do
   let ov <-holding [v] (eval o X.env)
   let iv <-holding [v,ov] (eval i X.env)
   standAt pos
   holding [v,ov,iv] (setItem ov iv v)
   release [v,ov,iv] []):=by intro _;rfl):PG X (.Subscript o i pos) (gSub to ti t):=by
 intro XB s Z H v u Q I r h;rw[ha];refine Zv (wpAny_holding (Z3 (ho XB s Z H _ I h) fun ov s1 ⟨x,H1,I1,r1,q1⟩=>?_));refine Zv (wpAny_holding (Z3 (hi XB s1 Z H1 _ I1 q1) fun iv s2 ⟨y,H2,I2,r2,q2⟩=>?_));refine Zv (wpAny_standAt (Zv (wpAny_holding (Z3 (hs XB s2 Z H2 x y v ov iv u _ I2 r1 r2 r q2) fun _ s3 ⟨H3,I3,q3⟩=>?_))));exact wpAny_release ⟨Z,H3,I3,q3⟩
def tAsg(te:TE)(g:TG):TS:=fun D Z H=>te Z H fun x H1=>g x Z H1 D.nx
theorem kc{tg e:Expr}{te:TE}{g:TG}(he:PE X e te)(hg:PG X tg g)(hs:swapsWithSole [tg] e pos.line X.env=pure false:=by rfl)(hw:swappedStores [tg] e X.env=pure none:=by rfl)
  (h1:(assignEach [tg] X.env).map (·.2)=[assign tg X.env]:=by rfl):PS X (.Assign [tg] e pos) (tAsg te g):=by
 intro XB s Z H D I h;refine wpAny_Assign_stores (Z3 (he XB s Z H _ I h) fun v s1 ⟨x,H1,I1,r1,q1⟩=>?_) hs hw;rw[h1];exact Z3 (hg XB s1 Z H1 x v _ I1 r1 q1) fun _ s2 q=>q
theorem ps_set{i:Nat}{x:Str}{e:Expr}{te:TE}{pos':Pos}(hN:X.N.Nodup)(hi:X.N[i]?=some x)(hx:Loc X.env.scope x)(he:PE X e te)(hs:swapsWith e (some (.Name x pos')) pos.line X.env=pure false:=by rfl)(hf:X.fn x=true\/X.env.scope.names.lookup x=some .local:=by first | exact .inl rfl | exact .inr rfl | assumption) :
  PS X (.Assign [.Name x pos'] e pos) (tAsg te (dg i)):=by
 intro XB s Z H D I h;refine wpAny_Assign_Name (Z3 (he XB s Z H _ I h) fun v s1 ⟨y,H1,I1,r1,q1⟩=>?_) hs;exact Qd I1 hN hi hx r1 (fun s2 I2=>⟨_,H1,I2,q1⟩) hf
end
section
variable{X:Cx}{pos:Pos}
def tWhile(c:TT)(tb:TS):TS:=fun D Z H=>∃W:Nat->St->Hp->Prop,(∃m,W m Z H)/\∀m Z H,W m Z H ->
 c Z H fun b H1=>if b=true then ∃N:St->Hp->Prop,(∀σ' H',N σ' H'->∃m',m'<m/\W m' σ' H')/\tb { D with nx:=N,ct:=N,bk:=D.nx } Z H1 else D.nx Z H1
theorem kb{c:Expr}{body:List Stmt}{tc:TT}{tb:TS}(hp:PassesOwn (model X.prog X.w) X.A X.env X.xe)(hc:PT X c tc)(hb:Rr X body tb):PS X (.While c body [] pos) (tWhile tc tb):=by
 intro XB s Z H D I h;obtain⟨W,⟨m0,w0⟩,turn⟩:=h;refine wpAny_While (codeAny_whileLoop (fun n s'=>∃σ' H',Inv X XB σ' H' s'/\W n σ' H') ?_ m0 ⟨Z,H,I,w0⟩);rintro n s1 ⟨σ1,H1,I1,w1⟩;refine wpAny_passesOwn hp (Z3 (hc XB s1 σ1 H1 _ I1 (turn n σ1 H1 w1)) fun b s2 ⟨H2,I2,q2⟩=>?_);cases b with
 | true =>
  obtain⟨N,hN,q2⟩:=q2;rw[if_pos rfl];refine wpAny_passesOwn hp (Z3 (hb XB s2 σ1 H2 _ I2 q2) fun f s3 q3=>?_);cases f with
  | next =>
   obtain⟨σ3,H3,I3,n3⟩:=q3;obtain⟨m',hm,w3⟩:=hN σ3 H3 n3;exact⟨m',hm,σ3,H3,I3,w3⟩
  | cont =>
   obtain⟨σ3,H3,I3,n3⟩:=q3;obtain⟨m',hm,w3⟩:=hN σ3 H3 n3;exact⟨m',hm,σ3,H3,I3,w3⟩
  | brk=>exact q3
  | ret v=>exact q3
 | false =>
  rw[if_neg D2];exact wpAny_execs_nil ⟨σ1,H2,I2,q2⟩
end
structure It where
 go:Nat->Hp->Prop
 yld:Nat->Hp->V->Hp->Prop
 stop:Nat->Hp->Prop
def M5(X:Cx)(XB:ZY)(H:Hp)(b:Addr):Prop :=
 H b=none/\b≠X.env.locals/\b ∉ X.fs/\(b∈X.ex\/X.s₀.heap.objs.size<=b)/\(∀x c,X.env.cells.lookup x=some c->c≠b)/\∀p∈X.pn++XB,p.1≠b
theorem Inv.fpOk{X:Cx}{XB:ZY}{Z:St}{H H':Hp}{s:Shared}{b:Addr}(I:Inv X XB Z H s)(hb:s.heap.objs.size<=b)(hn:H' b=none):M5 X XB H' b:=by
 refine⟨hn,Nat.ne_of_gt (Wp I.lt hb),I.nofs hb,.inr (Ve I.sz hb),fun x c e z=>?_,fun p hp z=>?_⟩
 .obtain⟨v,q⟩:=I.cell x c e;exact absurd (Wp q.lt (by rw[z];exact hb)) (Nat.lt_irrefl _)
 .exact absurd (Wp (Vb (I.pin p hp).1) (by rw[z];exact hb)) (Nat.lt_irrefl _)
structure Turn(P:Program)(w:World)(K:W.Frag)(tg:Expr)(J:It)(fp:ZU)(it:Addr)(tn:Nat->Heap->Prop):Prop where
 mem:it∈fp
 obj:∀i h,tn i h->∀b∈fp,∃o,h.get? b=some o/\∀v,o.data≠.cell v
 keep:∀i h h',tn i h->(∀b∈fp,∀o,h.get? b=some o->h'.get? b=some o)->tn i h'
 item:∀(X:Cx),X.prog=P->X.w=w->X.K=K->X.calm=true->∀(i:Nat) (XB:ZY) (s:Shared) (Z:St) (H:Hp) (E:ZW),Inv X XB Z H s->(∀b∈fp,M5 X XB H b)->tn i s.heap->J.go i H ->
  wpAny (model P w) X.A (pyNext (.ref it)) (fun r s1=>∃u,r=some u /\
   wpAny (model P w) X.A (letOwnedTupleGo tg (.ref it) u) (fun _ s2=>∃x H',Inv X XB Z H' s2/\RelV x u/\J.yld i H x H'/\tn (i+1) s2.heap/\∀b∈fp,H' b=none) E s1) E s
 done:∀(X:Cx),X.prog=P->X.w=w->X.K=K->X.calm=true->∀(i:Nat) (XB:ZY) (s:Shared) (Z:St) (H:Hp) (E:ZW),Inv X XB Z H s->(∀b∈fp,M5 X XB H b)->tn i s.heap->J.stop i H ->
  wpAny (model P w) X.A (pyNext (.ref it)) (fun r s1=>r=none/\Inv X XB Z H s1) E s
 self:∀(A:Around) (i:Nat) (s:Shared) (Q:ZW) (E:ZW),tn i s.heap->Q (.ref it) s->wpAny (model P w) A (pyIter (.ref it)) Q E s
abbrev TI:=St->Hp->(It->Hp->Prop)->Prop
def PIE(X:Cx)(XB:ZY)(Z:St)(tg:Expr)(R:It->Hp->Prop)(itv:Value)(s2:Shared):Prop :=
 ∃(it:Addr) (fp:ZU) (tn:Nat->Heap->Prop) (J:It) (H':Hp),itv=.ref it/\Inv X XB Z H' s2/\Turn X.prog X.w X.K tg J fp it tn/\tn 0 s2.heap/\(∀b∈fp,M5 X XB H' b)/\R J H'
def PI(X:Cx)(tg iter:Expr)(wi:TI):Prop :=
 ∀(XB:ZY) (s:Shared) (Z:St) (H:Hp) (R:It->Hp->Prop),Inv X XB Z H s->wi Z H R ->
  wpAny (model X.prog X.w) X.A (eval iter X.env) (fun v s1=>wpAny (model X.prog X.w) X.A (pyIter v) (PIE X XB Z tg R) X.xe s1) X.xe s
theorem Pa{M:Model}{A:Around}{E:ZW}{s:Shared}{tg:Expr}{it:Addr}{u:Value}{o:Obj}{n:String}{vs:ZN}{Q:ZA}(ho:s.heap.get? it=some o)(hc:o.cls=.type n)(hd:o.data=.fields vs)
    (hn:["enumerate","zip","dict_itemiterator","dict_reverseitemiterator","odict_iterator","itertools.zip_longest","itertools.pairwise"].contains n=false) (hQ:Q () s):wpAny M A (letOwnedTupleGo tg (.ref it) u) Q E s:=by
  unfold letOwnedTupleGo
  cases tg<;>first
    | exact Yt hQ
    | (cases u<;>first
        | exact Yt hQ
        | (refine Zv (wpAny_load ho ?_)
           rw[hc,hd];show wpAny M A (if (["enumerate","zip","dict_itemiterator","dict_reverseitemiterator","odict_iterator","itertools.zip_longest","itertools.pairwise"].contains n && vs[0]? == some (rawInt _))=true then _ else _) Q E s;rw[if_neg (by intro h;rw[hn,Bool.false_and]at h;cases h)];exact Yt hQ))
def Itl(K:W.Frag)(a:Addr):It :=
 ⟨fun i H=>∃xs x,Vc K H a xs/\xs[i]?=some x,fun i H x H'=>H'=H/\∀xs,Vc K H a xs->xs[i]?=some x,fun i H=>∃xs,Vc K H a xs/\xs.length<=i⟩
def Itt(K:W.Frag)(a:Addr):It :=
 ⟨fun i H=>∃xs x,Yu K H a xs/\xs[i]?=some x,fun i H x H'=>H'=H/\∀xs,Yu K H a xs->xs[i]?=some x,fun i H=>∃xs,Yu K H a xs/\xs.length<=i⟩
def Itr(lo:Int)(n:Nat):It:=⟨fun i _=>i<n,fun i H x H'=>H'=H/\x=.int (lo+i),fun i _=>n<=i⟩
theorem Xk{P:Program}{w:World}{K:W.Frag}{tg:Expr}(a it:Addr):Turn P w K tg (Itl K a) [it] it (fun i h=>h.IsListIter it a i) where
 mem:=by simp
 obj:=fun i h st b hb=>by
  have e:b=it:=by simpa using hb
  subst e;obtain⟨o,e,c,d⟩:=st;exact⟨o,e,fun v z=>by rw[d]at z;cases z⟩
 keep:=fun i h h' st k=>st.at fun o e=>k it (by simp) o e
 item:=by
  intro X hP hw hK hc i XB s Z H E I hf st hg;subst hP hw hK;obtain⟨xs,x,hq,hx⟩:=hg;obtain⟨XD,rv,p,hz⟩:=I.list hq;obtain⟨u,hu,ru⟩:=rv.get hx;obtain⟨f0,f1,f2,f3,f4,f5⟩:=hf it (by simp);refine wpAny_pyNext_list_item st p.isList (x:=u) (by simpa using hu) fun h' O9 sb=>?_;have I1:Inv X XB Z H { s with heap:=h' }:=I.turned (t':=s.toks) (fun b o hb e=>(sb.2 b hb).trans e) f0 f1 f3 f4 f5;obtain⟨o,e,c,d⟩:=id O9;exact⟨u,rfl,Pa (s:={ s with heap:=h' }) e c d (by decide) ⟨x,H,I1,ru,⟨rfl,fun ys hy=>by rw[I.list_inj hy hq];exact hx⟩,O9,fun b hb=>(hf b hb).1⟩⟩
 done:=by
  intro X hP hw hK hc i XB s Z H E I hf st hg;subst hP hw hK;obtain⟨xs,hq,hx⟩:=hg;obtain⟨XD,rv,p,hz⟩:=I.list hq;obtain⟨f0,f1,f2,f3,f4,f5⟩:=hf it (by simp);have hl:=rv.length;exact wpAny_pyNext_list_end (I.ok.hd hc) st p.isList (by simp;omega) fun h' eb=>⟨rfl,I.turned (t':=s.toks) (fun b o hb e=>eb b o hb e) f0 f1 f3 f4 f5⟩
 self:=fun _ _ _ _ _ st h=>wpAny_pyIter_listiter st h
theorem S0{P:Program}{w:World}{K:W.Frag}{tg:Expr}(a it:Addr):Turn P w K tg (Itt K a) [it] it (fun i h=>h.IsTupleIter it a i) where
 mem:=by simp
 obj:=fun i h st b hb=>by
  have e:b=it:=by simpa using hb
  subst e;obtain⟨o,e,c,d⟩:=st;exact⟨o,e,fun v z=>by rw[d]at z;cases z⟩
 keep:=fun i h h' st k=>st.at fun o e=>k it (by simp) o e
 item:=by
  intro X hP hw hK hc i XB s Z H E I hf st hg;subst hP hw hK;obtain⟨xs,x,hq,hx⟩:=hg;obtain⟨XD,rv,p,hz⟩:=I.tuple hq;obtain⟨u,hu,ru⟩:=rv.get hx;obtain⟨f0,f1,f2,f3,f4,f5⟩:=hf it (by simp);refine wpAny_pyNext_tuple_item st (show s.heap.IsTuple a XD.toArray from p) (x:=u) (by simpa using hu) fun h' O9 sb=>?_;have I1:Inv X XB Z H { s with heap:=h' }:=I.turned (t':=s.toks) (fun b o hb e=>(sb.2 b hb).trans e) f0 f1 f3 f4 f5;obtain⟨o,e,c,d⟩:=id O9;exact⟨u,rfl,Pa (s:={ s with heap:=h' }) e c d (by decide) ⟨x,H,I1,ru,⟨rfl,fun ys hy=>by rw[I.tuple_inj hy hq];exact hx⟩,O9,fun b hb=>(hf b hb).1⟩⟩
 done:=by
  intro X hP hw hK hc i XB s Z H E I hf st hg;subst hP hw hK;obtain⟨xs,hq,hx⟩:=hg;obtain⟨XD,rv,p,hz⟩:=I.tuple hq;obtain⟨f0,f1,f2,f3,f4,f5⟩:=hf it (by simp);have hl:=rv.length;exact wpAny_pyNext_tuple_end (I.ok.hd hc) st (show s.heap.IsTuple a XD.toArray from p) (by simp;omega) fun h' eb=>⟨rfl,I.turned (t':=s.toks) (fun b o hb e=>eb b o hb e) f0 f1 f3 f4 f5⟩
 self:=fun _ _ _ _ _ st h=>wpAny_pyIter_tupleiter st h
theorem S2{P:Program}{w:World}{K:PySem.W.Frag}{tg:Expr}(it:Addr)(lo:Int)(n:Nat):Turn P w K tg (Itr lo n) [it] it (fun i h=>IsRangeIter h it (lo+(i:Nat) * 1) ((n:Int) - (i:Nat)) 1) where
 mem:=by simp
 obj:=fun i h st b hb=>by
  have e:b=it:=by simpa using hb
  subst e
  exact⟨_,st,fun v z=>by
   have z':Data.fields _=Data.cell v:=z;cases z'⟩
 keep:=fun i h h' st k=>k it (by simp) _ st
 item:=by
  intro X hP hw hK hc i XB s Z H E I hf st hg;subst hP hw hK;obtain⟨f0,f1,f2,f3,f4,f5⟩:=hf it (by simp);have W:=Walks.range (prog:=X.prog) (w:=X.w) (I.ok.hd hc) it lo 1 n;refine W.item i s _ _ hg st fun v h' tk hv O9 kk=>?_;obtain⟨t,rfl⟩:=hv;have I1:Inv X XB Z H { s with heap:=h',toks:=tk }:=I.turned (fun b o hb e=>kk b o (by simpa using hb) e) f0 f1 f3 f4 f5;refine⟨_,rfl,Pa (s:={ s with heap:=h',toks:=tk }) (n:="range_iterator") O9 rfl rfl (by decide) ⟨.int (lo+i),H,I1,⟨t, ?_⟩,⟨rfl,rfl⟩,O9,fun b hb=>(hf b hb).1⟩⟩;rw[Int.mul_one]
 done:=by
  intro X hP hw hK hc i XB s Z H E I hf st hg;subst hP hw hK;obtain⟨f0,f1,f2,f3,f4,f5⟩:=hf it (by simp);exact wpAny_pyNext_range_end (I.ok.hd hc) st (by have:n<=i:=hg;omega) fun h' eb=>⟨rfl,I.turned (t':=s.toks) (fun b o hb e=>eb b o hb e) f0 f1 f3 f4 f5⟩
 self:=fun _ _ _ _ _ st h=>wpAny_pyIter_rangeiter st h
section
variable{X:Cx}{tg:Expr}
inductive A8(K:W.Frag)(R:(It->Hp->Prop))(x:V)(H1:Hp):Prop
 | mk(a)(Yh:x=.ref a)(Ys:(∃xs,Vc K H1 a xs))(Vt:R (Itl K a) H1):A8 K R x H1
def iList(K:W.Frag)(tl:TE):TI:=fun Z H R=>tl Z H fun x H1=>A8 K R x H1
inductive m3(K:W.Frag)(R:(It->Hp->Prop))(x:V)(H1:Hp):Prop
 | mk(a)(Yh:x=.ref a)(Ys:(∃xs,Yu K H1 a xs))(Vt:R (Itt K a) H1):m3 K R x H1
def iTup(K:W.Frag)(tl:TE):TI:=fun Z H R=>tl Z H fun x H1=>m3 K R x H1
theorem ak{l:Expr}{tl:TE}(hl:PE X l tl):PI X tg l (iList X.K tl):=by
 intro XB s Z H R I h;refine Z3 (hl XB s Z H _ I h) fun v s1 ⟨x,H1,I1,r1,q1⟩=>?_;obtain⟨a,e,⟨xs,hq⟩,q⟩:=q1;subst e;cases r1;obtain⟨XD,rv,p,hz⟩:=I1.list hq;refine wpAny_pyIter_list p.isList ?_;refine⟨s1.heap.objs.size,[s1.heap.objs.size],_,_,H1,rfl,I1.kept (t':=s1.toks) fun b o e=>Y9 _ e,Xk a _,⟨_,Dj _ rfl,rfl,rfl⟩,fun b hb=>?_,q⟩;have e:b=s1.heap.objs.size:=by simpa using hb
 subst e;exact I1.fpOk (Yg _) (I1.hok.fresh (Yg _))
theorem pi_tup{l:Expr}{tl:TE}(hl:PE X l tl):PI X tg l (iTup X.K tl):=by
 intro XB s Z H R I h;refine Z3 (hl XB s Z H _ I h) fun v s1 ⟨x,H1,I1,r1,q1⟩=>?_;obtain⟨a,e,⟨xs,hq⟩,q⟩:=q1;subst e;cases r1;obtain⟨XD,rv,p,hz⟩:=I1.tuple hq;refine wpAny_pyIter_tuple (show s1.heap.IsTuple a XD.toArray from p) ?_;refine⟨s1.heap.objs.size,[s1.heap.objs.size],_,_,H1,rfl,I1.kept (t':=s1.toks) fun b o e=>Y9 _ e,S0 a _,⟨_,Dj _ rfl,rfl,rfl⟩,fun b hb=>?_,q⟩;have e:b=s1.heap.objs.size:=by simpa using hb
 subst e;exact I1.fpOk (Yg _) (I1.hok.fresh (Yg _))
theorem yu{XB:ZY}{Z:St}{H:Hp}{s:Shared}{R:It->Hp->Prop}{E:ZW}{lo hi:Int}{t u v:Tok}{tk:Nat}(I:Inv X XB Z H s)(h1:-(2 ^ 62)<=lo)(h2:lo<2 ^ 62)(h3:-(2 ^ 62)<=hi)(h4:hi<2 ^ 62)
  (q:R (Itr lo (hi - lo).toNat) H):wpAny (model X.prog X.w) X.A (pyIter (.ref s.heap.objs.size)) (PIE X XB Z tg R) E { s with heap:=s.heap.push { cls:=.type "range",data:=.fields #[.int lo t,.int hi u,.int 1 v] },toks:=tk }:=by
 refine wpAny_pyIter_range (IsRange.new ..) (small_one h1 h2 h3 h4) ?_;have I1:Inv X XB Z H { s with heap:=s.heap.push { cls:=.type "range",data:=.fields #[.int lo t,.int hi u,.int 1 v] },toks:=tk }:=I.kept fun b o e=>Y9 _ e
 refine⟨(s.heap.push { cls:=.type "range",data:=.fields #[.int lo t,.int hi u,.int 1 v] }).objs.size,[(s.heap.push { cls:=.type "range",data:=.fields #[.int lo t,.int hi u,.int 1 v] }).objs.size],_,_,H,rfl,
  I1.kept (t':=tk) fun b o e=>Y9 _ e,S2 _ lo (hi - lo).toNat, ?_,fun b hb=>?_,q⟩
 .have e1:lo+((0:Nat):Int) * 1=lo:=by simp
  have e2:(((hi - lo).toNat:Nat):Int) - ((0:Nat):Int)=Builtin.Range.rangeSize lo hi 1:=by rw[rangeSize_one];split<;>omega
  show IsRangeIter _ _ (lo+((0:Nat):Int) * 1) ((((hi - lo).toNat:Nat):Int) - ((0:Nat):Int)) 1;rw[e1,e2];exact Dj _ rfl
 .have e:b=(s.heap.push { cls:=.type "range",data:=.fields #[.int lo t,.int hi u,.int 1 v] }).objs.size:=by simpa using hb
  subst e;exact I1.fpOk (Yg _) (I1.hok.fresh (Yg _))
inductive A7(R:(It->Hp->Prop))(vs:ZQ)(H1:Hp):Prop
 | mk(j:Int)(Yh:vs=[.int j])(Ys:-(2 ^ 62)<=j)(Vt:j<2 ^ 62)(C6:R (Itr 0 j.toNat) H1):A7 R vs H1
def iRng1(ta:TA):TI:=fun Z H R=>ta Z H fun vs H1=>A7 R vs H1
theorem X7{a:Expr}{ta:TA}{p pos:Pos}(hg:Gl X "range")(hm:X.mg "range" = none)(ha:PA X [a] ta)(hs:starEach [a] X.env=[(false,eval a X.env)]:=by rfl):PI X tg (.Call (.Name "range" p) [a] [] pos) (iRng1 ta):=by
 intro XB s Z H R I h;refine Call_ (Du I hg hm boot_range (callWith_type1 (Z3 (ha pos XB s Z H _ I h) fun us s1 ⟨vs,H1,I1,r1,q1⟩=>?_) hs rfl));obtain⟨j,e,q1,q2,q⟩:=q1;subst e;cases r1 with
 | cons r rr =>
  cases rr;obtain⟨t,rfl⟩:=r;exact call_range_1 (yu I1 (by omega) (by omega) q1 q2 (by simpa using q))
def tFor(wi:TI)(g:TG)(tb:TS):TS:=fun D Z H=>wi Z H fun J H1=>∃W:Nat->Nat->St->Hp->Prop,(∃m,W 0 m Z H1)/\∀i m Z H,W i m Z H ->
 (J.stop i H/\D.nx Z H)\/(J.go i H/\∃N:St->Hp->Prop,(∀σ' H',N σ' H'->∃m',m'<m/\W (i+1) m' σ' H')/\∀x H',J.yld i H x H'->g x Z H' fun σ2 H2=>tb { D with nx:=N,ct:=N,bk:=D.nx } σ2 H2)
def Ta(fp:ZU)(h:Heap):ZY:=fp.filterMap fun b=>(h.get? b).map fun o=>(b,o)
theorem Jy{fp:ZU}{h:Heap}{b:Addr}{o:Obj}(hb:b∈fp)(e:h.get? b=some o):(b,o)∈Ta fp h:=List.mem_filterMap.mpr ⟨b,hb,by rw[e];rfl⟩
theorem zd{fp:ZU}{h:Heap}{p:Addr×Obj}(hp:p∈Ta fp h):p.1∈fp/\h.get? p.1=some p.2:=by
 obtain⟨b,hb,e⟩:=List.mem_filterMap.mp hp;cases q:h.get? b with
 | none=>rw[q]at e;cases e
 | some o =>
  rw[q]at e;have e':(b,o)=p:=G0 e;subst e';exact⟨hb,q⟩
theorem Inv.pinned{XB:ZY}{Z:St}{H:Hp}{s:Shared}{fp:ZU}(I:Inv X XB Z H s)(hf:∀b∈fp,M5 X XB H b)(ho:∀b∈fp,∃o,s.heap.get? b=some o/\∀v,o.data≠.cell v):Inv X (XB++Ta fp s.heap) Z H s :=
 I.pins_of fun p hp=>(Ks.mp hp).elim (fun z=>I.pin p (qg _ z)) fun z=>by
  obtain⟨hb,e⟩:=zd z;obtain⟨f0,f1,f2,_⟩:=hf p.1 hb;obtain⟨o,e',d⟩:=ho p.1 hb;rw[e]at e';cases e';exact⟨e,f0,f1,f2,d⟩
theorem Inv.unpinned{XB pl:ZY}{Z:St}{H:Hp}{s:Shared}(I:Inv X (XB++pl) Z H s):Inv X XB Z H s:=I.pins_of fun p hp=>I.pin p (qg _ (List.mem_append_left _ hp))
theorem ps_for{iter:Expr}{body:List Stmt}{wi:TI}{g:TG}{tb:TS}{pos:Pos}(hp:PassesOwn (model X.prog X.w) X.A X.env X.xe)(hc:X.calm=true)(hi:PI X tg iter wi)(hg:PG X tg g)(hb:Rr X body tb)
  (hs:∀x,foldedSetIterable iter X.env x=pure x:=by intro _;rfl):PS X (.For tg iter body [] pos) (tFor wi g tb):=by
 intro XB s Z H D I h;refine wpAny_For (Z3 (hi XB s Z H _ I h) fun v s1 h1=>Z3 h1 fun itv s2 h2=>?_) hs;obtain⟨it,fp,tn,J,H2,e,I2,T,st2,f2,W,⟨m0,w0⟩,turn⟩:=h2;subst e;have stat:∀{H':Hp},(∀b∈fp,H' b=none)->∀b∈fp,M5 X XB H' b:=fun hn b hb=>⟨hn b hb,(f2 b hb).2⟩;refine codeAny_forLoop_any (fun n s'=>∃i σ' H',Inv X XB σ' H' s'/\tn i s'.heap/\(∀b∈fp,H' b=none)/\W i n σ' H') ?_ m0 ⟨0,Z,H2,I2,st2,fun b hb=>(f2 b hb).1,w0⟩;rintro n s3 ⟨i,σ3,H3,I3,st3,fr3,w3⟩;rcases turn i n σ3 H3 w3 with ⟨stop,qn⟩ | ⟨go,N,hN,step⟩
 .refine wpAny_passesOwn hp (Z3 (T.done X rfl rfl rfl hc i XB s3 σ3 H3 X.xe I3 (stat fr3) st3 stop) fun r s4 ⟨hr,I4⟩=>?_);subst hr;exact wpAny_execs_nil ⟨σ3,H3,I4,qn⟩
 .refine wpAny_passesOwn hp (Z3 (T.item X rfl rfl rfl hc i XB s3 σ3 H3 X.xe I3 (stat fr3) st3 go) fun r s4 ⟨u,hr,h4⟩=>?_);subst hr;refine wpAny_passesOwn hp (Z3 h4 fun _ s5 ⟨x,H5,I5,r5,y5,st5,fr5⟩=>?_);have I5':=I5.pinned (stat fr5) (T.obj _ _ st5);refine wpAny_passesOwn hp (Z3 (hg _ s5 σ3 H5 x u _ I5' r5 (step x H5 y5)) fun _ s6 ⟨σ6,H6,I6,q6⟩=>?_);refine wpAny_passesOwn hp (Z3 (hb _ s6 σ6 H6 _ I6 q6) fun f s7 q7=>?_)
  have again:∀{σ7:St} {H7:Hp},Inv X (XB++Ta fp s5.heap) σ7 H7 s7->N σ7 H7->∃m,m<n/\∃i σ' H',Inv X XB σ' H' s7/\tn i s7.heap/\(∀b∈fp,H' b=none)/\W i m σ' H':=fun {σ7 H7} I7 n7=>by
   obtain⟨m',hm,w7⟩:=hN σ7 H7 n7;refine⟨m',hm,i+1,σ7,H7,I7.unpinned,T.keep _ _ _ st5 fun b hb o e=>(I7.pin (b,o) (qg _ (qg _ (Jy hb e)))).1,fun b hb=>?_,w7⟩;obtain⟨o,e,d⟩:=T.obj _ _ st5 b hb;exact(I7.pin (b,o) (qg _ (qg _ (Jy hb e)))).2.1
  cases f with
  | next=>obtain⟨σ7,H7,I7,n7⟩:=q7;exact again I7 n7
  | cont=>obtain⟨σ7,H7,I7,n7⟩:=q7;exact again I7 n7
  | brk=>obtain⟨σ7,H7,I7,q7⟩:=q7;exact⟨σ7,H7,I7.unpinned,q7⟩
  | ret v=>obtain⟨x7,σ7,H7,I7,r7,q7⟩:=q7;exact⟨x7,σ7,H7,I7.unpinned,r7,q7⟩
end
abbrev R2:=V->V->Hp->VK->Prop
def Uo(X:Cx)(f:Value->Value->Sem Value)(r:R2):Prop :=
 ∀(XB:ZY) (s:Shared) (Z:St) (H:Hp) (x y:V) (v u:Value) (Q:VK),Inv X XB Z H s->RelV x v->RelV y u->r x y H Q ->
  wpAny (model X.prog X.w) X.A (f v u) (EP X XB Z Q) X.xe s
def UnR(X:Cx)(f:Value->Sem Value)(r:V->Hp->VK->Prop):Prop :=
 ∀(XB:ZY) (s:Shared) (Z:St) (H:Hp) (x:V) (v:Value) (Q:VK),Inv X XB Z H s->RelV x v->r x H Q ->
  wpAny (model X.prog X.w) X.A (f v) (EP X XB Z Q) X.xe s
def Yk(X:Cx)(f:Value)(r:ZQ->Hp->VK->Prop):Prop :=
 ∀(XB:ZY) (s:Shared) (Z:St) (H:Hp) (xs:ZQ) (us:ZM) (Q:VK),Inv X XB Z H s->Zw xs us->r xs H Q ->
  wpAny (model X.prog X.w) X.A (call f us) (EP X XB Z Q) X.xe s
def tOp(r:R2)(ta tb:TE):TE:=fun Z H Q=>ta Z H fun x H1=>tb Z H1 fun y H2=>r x y H2 Q
def tUn(r:V->Hp->VK->Prop)(ta:TE):TE:=fun Z H Q=>ta Z H fun x H1=>r x H1 Q
inductive rI_I(C:Int->Int->Prop)(g:Int->Int->V)(x:V)(y:V)(H:Hp)(Q:VK):Prop
 | mk(i j)(Yh:x=.int i)(Ys:y=.int j)(Vt:C i j)(C6:Q (g i j) H):rI_I C g x y H Q
def rI(C:Int->Int->Prop)(g:Int->Int->V):R2:=fun x y H Q=>rI_I C g x y H Q
inductive Zxd(g:Int->Int->V)(x:V)(y:V)(H:Hp)(Q:VK):Prop
 | mk(i j)(Yh:x=.int i)(Ys:y=.int j)(Vt:Q (g i j) H):Zxd g x y H Q
def rI0(g:Int->Int->V):R2:=fun x y H Q=>Zxd g x y H Q
inductive rU_I(g:Int->V)(x:V)(H:Hp)(Q:VK):Prop
 | mk(i)(Yh:x=.int i)(Ys:Q (g i) H):rU_I g x H Q
def rU(g:Int->V):V->Hp->VK->Prop:=fun x H Q=>rU_I g x H Q
section
variable{X:Cx}{a b c:Expr}{ta tb tc:TE}{pos:Pos}
theorem binT(ha:PE X a ta)(hb:PE X b tb){XB:ZY}{s:Shared}{Z:St}{H:Hp}{R:V->V->Hp->Prop}(I:Inv X XB Z H s)
  (h:ta Z H fun x H1=>tb Z H1 fun y H2=>R x y H2) {Q:ZW} {f:Value->Value->Sem Value}
  (hf:∀v u s2 x y H2,Inv X XB Z H2 s2->RelV x v->RelV y u->R x y H2->wpAny (model X.prog X.w) X.A (f v u) Q X.xe s2) :
  wpAny (model X.prog X.w) X.A (eval a X.env) (fun v s₁=>wpAny (model X.prog X.w) X.A (eval b X.env) (fun u s₂=>wpAny (model X.prog X.w) X.A (f v u) Q X.xe s₂) X.xe s₁) X.xe s:=by
 refine Z3 (ha XB s Z H _ I h) fun v s1 ⟨x,H1,I1,r1,q1⟩=>?_;refine Z3 (hb XB s1 Z H1 _ I1 q1) fun u s2 ⟨y,H2,I2,r2,q2⟩=>?_;exact hf v u s2 x y H2 I2 r1 r2 q2
theorem pe_op{op:Operator}{r:R2}(ho:Uo X (binaryOp op) r)(ha:PE X a ta)(hb:PE X b tb):PE X (.BinOp a op b pos) (tOp r ta tb):=by
 intro XB s Z H Q I h;exact wpAny_BinOp (binT ha hb I h fun v u s2 x y H2 I2 rx ry q=>ho XB s2 Z H2 x y v u Q I2 rx ry q)
theorem pe_un{op:UnaryOp}{r:V->Hp->VK->Prop}(ho:UnR X (unaryOp op) r)(ha:PE X a ta):PE X (.UnaryOp op a pos) (tUn r ta):=by
 intro XB s Z H Q I h;exact UnaryOp_ (Z3 (ha XB s Z H _ I h) fun v s1 ⟨x,H1,I1,r1,q1⟩=>ho XB s1 Z H1 x v Q I1 r1 q1)
theorem opI{f:Value->Value->Sem Value}{C:Int->Int->Prop}{g:Int->Int->Int}
  (rule:∀(i j:Int) (t u:Tok) (s:Shared) (Q:ZW) (E:ZW),C i j->Q (.int (g i j) s.toks) { s with toks:=s.toks+1 }->wpAny (model X.prog X.w) X.A (f (.int i t) (.int j u)) Q E s) :
  Uo X f (rI C fun i j=>.int (g i j)):=by
 intro XB s Z H x y v u Q I rx ry h;obtain⟨i,j,rfl,rfl,hc,q⟩:=h;obtain⟨t,rfl⟩:=rx;obtain⟨t',rfl⟩:=ry;exact rule i j t t' s _ _ hc ⟨.int (g i j),H,I.tok _,⟨_,rfl⟩,q⟩
theorem opI0{f:Value->Value->Sem Value}{g:Int->Int->Int}
  (rule:∀(i j:Int) (t u:Tok) (s:Shared) (Q:ZW) (E:ZW),Q (.int (g i j) s.toks) { s with toks:=s.toks+1 }->wpAny (model X.prog X.w) X.A (f (.int i t) (.int j u)) Q E s) :
  Uo X f (rI0 fun i j=>.int (g i j)):=by
 intro XB s Z H x y v u Q I rx ry h;obtain⟨i,j,rfl,rfl,q⟩:=h;obtain⟨t,rfl⟩:=rx;obtain⟨t',rfl⟩:=ry;exact rule i j t t' s _ _ ⟨.int (g i j),H,I.tok _,⟨_,rfl⟩,q⟩
theorem oi{f:Value->Value->Sem Value}{g:Int->Int->Bool}
  (rule:∀(i j:Int) (t u:Tok) (s:Shared) (Q:ZW) (E:ZW),Q (.bool (g i j)) s->wpAny (model X.prog X.w) X.A (f (.int i t) (.int j u)) Q E s) :
  Uo X f (rI0 fun i j=>.bl (g i j)):=by
 intro XB s Z H x y v u Q I rx ry h;obtain⟨i,j,rfl,rfl,q⟩:=h;obtain⟨t,rfl⟩:=rx;obtain⟨t',rfl⟩:=ry;exact rule i j t t' s _ _ ⟨.bl (g i j),H,I,rfl,q⟩
def CDiv(i j:Int):Prop:=0<j/\j<1073741824
def CPow(i j:Int):Prop:=0<=j/\j<=1000000/\i.natAbs<2 ^ 64
def CMul(i j:Int):Prop:=(-(2 ^ 64)<i/\i<2 ^ 64)\/(-(2 ^ 64)<j/\j<2 ^ 64)
theorem CMul.ok{i j:Int}(h:CMul i j):IntMulOk i j:=by
 rcases h with ⟨h1,h2⟩ | ⟨h1,h2⟩
 .exact .of_left (intBits_le_64 h1 h2)
 .exact .of_right (intBits_le_64 h1 h2)
theorem op_add:Uo X (binaryOp .Add) (rI0 fun i j=>.int (i+j)):=opI0 fun _ _ _ _ _ _ _ q=>add_int q
theorem op_sub:Uo X (binaryOp .Sub) (rI0 fun i j=>.int (i - j)):=opI0 fun _ _ _ _ _ _ _ q=>sub_int q
theorem op_mul:Uo X (binaryOp .Mult) (rI CMul fun i j=>.int (i * j)):=opI fun _ _ _ _ _ _ _ hc q=>mul_int q hc.ok
theorem ot:Uo X (binaryOp .FloorDiv) (rI CDiv fun i j=>.int (i / j)):=opI fun i j _ _ _ _ _ hc q=>by
 have h1:(0:Int)<j:=hc.1;have h2:j<1073741824:=hc.2;exact floordiv_int (by omega) (by rw[Int.fdiv_eq_ediv_of_nonneg i (by omega)];exact q) (.inl (PyProof.noPylong_small (by omega)))
theorem op_mod:Uo X (binaryOp .Mod) (rI (fun _ j=>0<j) fun i j=>.int (i % j)):=opI fun i j _ _ _ _ _ hc q=>by
 have h1:(0:Int)<j:=hc;exact mod_int' (by omega) (by rw[Int.fmod_eq_emod_of_nonneg i (by omega)];exact q)
theorem op_pow:Uo X (binaryOp .Pow) (rI CPow fun i j=>.int (i ^ j.toNat)):=opI fun _ _ _ _ _ _ _ hc q=>pow_int_small hc.1 hc.2.1 hc.2.2 q
theorem unI{f:Value->Sem Value}{g:Int->Int}
  (rule:∀(i:Int) (t:Tok) (s:Shared) (Q:ZW) (E:ZW),Q (.int (g i) s.toks) { s with toks:=s.toks+1 }->wpAny (model X.prog X.w) X.A (f (.int i t)) Q E s) :
  UnR X f (rU fun i=>.int (g i)):=by
 intro XB s Z H x v Q I rx h;obtain⟨i,rfl,q⟩:=h;obtain⟨t,rfl⟩:=rx;exact rule i t s _ _ ⟨.int (g i),H,I.tok _,⟨_,rfl⟩,q⟩
theorem un_neg:UnR X (unaryOp .USub) (rU fun i=>.int (-i)):=unI fun _ _ _ _ _ q=>neg_int q
end
noncomputable def scal:V->V->Bool
 | .non,.non=>true | .non,.int _=>true | .int _,.non=>true | .non,.bl _=>true | .bl _,.non=>true | .non,.str _=>true | .str _,.non=>true
 | .int _,.int _=>true | .bl _,.bl _=>true | .str _,.str _=>true | .byt _,.byt _=>true
 | .int _,.str _=>true | .str _,.int _=>true | .bl _,.str _=>true | .str _,.bl _=>true
 | _,_=>false
section
variable{X:Cx}{a b c:Expr}{ta tb tc:TE}{pos:Pos}
theorem Jm{XB:ZY}{Z:St}{H:Hp}{s:Shared}{Q:VK}{k k':Bool}(I:Inv X XB Z H s)(q:Q (.bl k) H)(e:k=k'):EP X XB Z Q (.bool k') s:=by
 subst e;exact⟨.bl k,H,I,rfl,q⟩
theorem op_lt:Uo X (compareOp .Lt) (rI0 fun i j=>.bl (decide (i<j))):=oi fun _ _ _ _ _ _ _ q=>lt_int q
theorem op_le:Uo X (compareOp .LtE) (rI0 fun i j=>.bl (decide (i<=j))):=oi fun _ _ _ _ _ _ _ q=>le_int q
theorem op_gt:Uo X (compareOp .Gt) (rI0 fun i j=>.bl (decide (j<i))):=oi fun _ _ _ _ _ _ _ q=>gt_int q
theorem op_ge:Uo X (compareOp .GtE) (rI0 fun i j=>.bl (decide (j<=i))):=oi fun _ _ _ _ _ _ _ q=>ge_int q
inductive N5(x:V)(y:V)(H:Hp)(Q:VK):Prop
 | mk(i j)(Yh:x=.str i)(Ys:y=.str j)(Vt:Q (.bl (decide (i.cps.toList<j.cps.toList))) H):N5 x y H Q
theorem zw:Uo X (compareOp .Lt) (fun x y H Q=>N5 x y H Q):=by
 intro XB s Z H x y v u Q I rx ry h;obtain⟨i,j,rfl,rfl,q⟩:=h;obtain⟨t,rfl⟩:=rx;obtain⟨t',rfl⟩:=ry;exact lt_str (Jm I q rfl)
inductive N8(x:V)(y:V)(H:Hp)(Q:VK):Prop
 | mk(i j)(Yh:x=.str i)(Ys:y=.str j)(Vt:Q (.bl (!(Builtin.Str.occurrences j i 0 j.length 1).isEmpty)) H):N8 x y H Q
theorem zk:Uo X (compareOp .In) (fun x y H Q=>N8 x y H Q):=by
 intro XB s Z H x y v u Q I rx ry h;obtain⟨i,j,rfl,rfl,q⟩:=h;obtain⟨t,rfl⟩:=rx;obtain⟨t',rfl⟩:=ry;exact in_str (Jm I q rfl)
theorem fk:Uo X (compareOp .Is) (fun x y H Q=>y=.non/\Q (.bl (decide (x=.non))) H):=by
 intro XB s Z H x y v u Q I rx ry h;obtain⟨rfl,q⟩:=h;cases ry;refine is_none_gen (Jm I q ?_)
 cases x<;>first
  | (cases rx;rfl)
  | (obtain⟨t,rfl⟩:=rx;rfl)
theorem Ab:Uo X (compareOp .IsNot) (fun x y H Q=>y=.non/\Q (.bl (!decide (x=.non))) H):=by
 intro XB s Z H x y v u Q I rx ry h;obtain⟨rfl,q⟩:=h;cases ry;refine isnot_none_gen (Jm I q ?_)
 cases x<;>first
  | (cases rx;rfl)
  | (obtain⟨t,rfl⟩:=rx;rfl)
inductive Gj(x:V)(y:V)(H:Hp)(Q:VK):Prop
 | mk(i j)(Yh:x=.str i)(Ys:y=.str j)(Vt:Q (.bl (!(!(Builtin.Str.occurrences j i 0 j.length 1).isEmpty))) H):Gj x y H Q
theorem Ly:Uo X (compareOp .NotIn) (fun x y H Q=>Gj x y H Q):=by
 intro XB s Z H x y v u Q I rx ry h;obtain⟨i,j,rfl,rfl,q⟩:=h;obtain⟨t,rfl⟩:=rx;obtain⟨t',rfl⟩:=ry;exact notIn_str (Jm I q rfl)
theorem aa{op:CmpOp}{r:R2}(ho:Uo X (compareOp op) r)(ha:PE X a ta)(hb:PE X b tb)(hm:behindInMarks op b=false):PE X (.Compare a [op] [b] pos) (tOp r ta tb):=by
 intro XB s Z H Q I h;exact wpAny_Compare1 (binT ha hb I h fun v u s2 x y H2 I2 rx ry q=>ho XB s2 Z H2 x y v u Q I2 rx ry q) hm
inductive We(Q:(Bool->Hp->Prop))(x:V)(H':Hp):Prop
 | mk(k)(Yh:x=.bl k)(Ys:Q k H'):We Q x H'
def Zxj(t:TE):TT:=fun Z H Q=>t Z H fun x H'=>We Q x H'
theorem u9{op:CmpOp}{r:R2}(ho:Uo X (compareOp op) r)(ha:PE X a ta)(hb:PE X b tb)(hm:behindInMarks op b=false):PT X (.Compare a [op] [b] pos) (Zxj (tOp r ta tb)):=by
 intro XB s Z H Q I h
 refine wpAny_isTrue_Compare1 (Z3 (ha XB s Z H _ I h) fun v s1 ⟨x,H1,I1,r1,q1⟩=>Z3 (hb XB s1 Z H1 _ I1 q1) fun u s2 ⟨y,H2,I2,r2,q2⟩ =>
  Z3 (ho XB s2 Z H2 x y v u _ I2 r1 r2 q2) fun c s3 ⟨z,H3,I3,r3,k,e,q3⟩=>?_) hm
 subst e;cases r3;exact wpAny_truthy_bool ⟨H3,I3,q3⟩
inductive Qf(r':R2)(tc:TE)(Z:St)(Q:VK)(y:V)(z:V)(H3:Hp):Prop
 | mk(k)(Yh:z=.bl k)(Ys:(if k=true then tc Z H3 fun w' H4=>r' y w' H4 Q else Q (.bl false) H3)):Qf r' tc Z Q y z H3
def S4(r r':R2)(ta tb tc:TE):TE:=fun Z H Q=>ta Z H fun x H1=>tb Z H1 fun y H2=>r x y H2 fun z H3=>Qf r' tc Z Q y z H3
theorem gm{op Sx:CmpOp}{r r':R2}(ho:Uo X (compareOp op) r)(Rv:Uo X (compareOp Sx) r')(ha:PE X a ta)(hb:PE X b tb)(hc:PE X c tc)
  (hm:lastMarks [op,Sx] [b,c]=false:=by with_unfolding_all rfl):PE X (.Compare a [op,Sx] [b,c] pos) (S4 r r' ta tb tc):=by
 intro XB s Z H Q I h
 refine Compare_chain (Z3 (ha XB s Z H _ I h) fun v s1 ⟨x,H1,I1,r1,q1⟩=>chain_link (Z3 (hb XB s1 Z H1 _ I1 q1) fun u s2 ⟨y,H2,I2,r2,q2⟩ =>
  Z3 (ho XB s2 Z H2 x y v u _ I2 r1 r2 q2) fun d s3 ⟨z,H3,I3,r3,k,e,q3⟩=>?_)) hm
 subst e;cases r3;refine wpAny_truthy_bool ?_;cases k with
 | false=>exact ite_ff ⟨.bl false,H3,I3,rfl,q3⟩
 | true=>exact ite_tt (chain_last (Z3 (hc XB s3 Z H3 _ I3 q3) fun w' s4 ⟨z',H4,I4,r4,q4⟩=>Rv XB s4 Z H4 y z' u w' Q I4 r2 r4 q4))
theorem kj{op Sx:CmpOp}{r r':R2}(ho:Uo X (compareOp op) r)(Rv:Uo X (compareOp Sx) r')(ha:PE X a ta)(hb:PE X b tb)(hc:PE X c tc)
  (hm:lastMarks [op,Sx] [b,c]=false:=by with_unfolding_all rfl):PT X (.Compare a [op,Sx] [b,c] pos) (Zxj (S4 r r' ta tb tc)):=by
 intro XB s Z H Q I h
 refine isTrue_chain (Z3 (ha XB s Z H _ I h) fun v s1 ⟨x,H1,I1,r1,q1⟩=>test_link (Z3 (hb XB s1 Z H1 _ I1 q1) fun u s2 ⟨y,H2,I2,r2,q2⟩ =>
  Z3 (ho XB s2 Z H2 x y v u _ I2 r1 r2 q2) fun d s3 ⟨z,H3,I3,r3,k,e,q3⟩=>?_)) hm
 subst e;cases r3;refine wpAny_truthy_bool ?_;cases k with
 | false =>
  obtain⟨k',e',q'⟩:=q3;cases e';exact ite_ff ⟨H3,I3,q'⟩
 | true =>
  refine ite_tt (test_last (Z3 (hc XB s3 Z H3 _ I3 q3) fun w' s4 ⟨z',H4,I4,r4,q4⟩=>Z3 (Rv XB s4 Z H4 y z' u w' _ I4 r2 r4 q4) fun d' s5 ⟨z2,H5,I5,r5,k2,e2,q5⟩=>?_));subst e2;cases r5;exact wpAny_truthy_bool ⟨H5,I5,q5⟩
theorem Ng:(sizeLine:Nat)<2 ^ 63:=by rw[sizeLine_eq];decide
inductive Mj(x:V)(y:V)(H:Hp)(Q:VK):Prop
 | mk(i j)(Yh:x=.str i)(Ys:y=.str j)(Vt:i.length+j.length<=sizeLine)(C6:Q (.str (i++j)) H):Mj x y H Q
theorem Ec:Uo X (binaryOp .Add) (fun x y H Q=>Mj x y H Q):=by
 intro XB s Z H x y v u Q I rx ry h;obtain⟨i,j,rfl,rfl,hz,q⟩:=h;obtain⟨t,rfl⟩:=rx;obtain⟨t',rfl⟩:=ry;exact add_str (fun t' tk=>⟨.str (i++j),H,I.tok _,⟨_,rfl⟩,q⟩) hz
theorem vals1{x:V}{us:ZM}(r:Zw [x] us):∃u,us=[u]/\RelV x u:=by
 cases r with
 | cons r1 r2=>cases r2;exact⟨_,rfl,r1⟩
theorem vals2{x y:V}{us:ZM}(r:Zw [x,y] us):∃u w',us=[u,w']/\RelV x u/\RelV y w':=by
 cases r with
 | cons r1 r2 =>
  cases r2 with
  | cons r3 r4=>cases r4;exact⟨_,_,rfl,r1,r3⟩
inductive Cr(xs:ZQ)(H:Hp)(Q:VK):Prop
 | mk(i)(Yh:xs=[.int i])(Ys:Q (.int (if i<0 then -i else i)) H):Cr xs H Q
theorem cq:Yk X (.builtin "abs") (fun xs H Q=>Cr xs H Q):=by
 intro XB s Z H xs us Q I r h;obtain⟨i,rfl,q⟩:=h;obtain⟨u,rfl,t,rfl⟩:=vals1 r;exact call_abs_int fun u tk=>⟨.int (if i<0 then -i else i),H,I.tok _,⟨_,rfl⟩,q⟩
inductive Bg(xs:ZQ)(H:Hp)(Q:VK):Prop
 | mk(i j)(Yh:xs=[.int i,.int j])(Ys:Q (.int (if j>i then j else i)) H):Bg xs H Q
theorem x9(hc:X.calm=true):Yk X (.builtin "max") (fun xs H Q=>Bg xs H Q):=by
 intro XB s Z H xs us Q I r h;obtain⟨i,j,rfl,q⟩:=h;obtain⟨u,w',rfl,⟨t,rfl⟩,⟨t',rfl⟩⟩:=vals2 r;refine max_two_ints (I.ok.hd hc) fun h' tk k=>⟨_,H,I.kept k, ?_,q⟩;by_cases hj:j>i
 .rw[if_pos hj,if_pos hj];exact⟨_,rfl⟩
 .rw[if_neg hj,if_neg hj];exact⟨_,rfl⟩
inductive Bk(xs:ZQ)(H:Hp)(Q:VK):Prop
 | mk(i j)(Yh:xs=[.int i,.int j])(Ys:Q (.int (if j<i then j else i)) H):Bk xs H Q
theorem x6(hc:X.calm=true):Yk X (.builtin "min") (fun xs H Q=>Bk xs H Q):=by
 intro XB s Z H xs us Q I r h;obtain⟨i,j,rfl,q⟩:=h;obtain⟨u,w',rfl,⟨t,rfl⟩,⟨t',rfl⟩⟩:=vals2 r;refine min_two_ints (I.ok.hd hc) fun h' tk k=>⟨_,H,I.kept k, ?_,q⟩;by_cases hj:j<i
 .rw[if_pos hj,if_pos hj];exact⟨_,rfl⟩
 .rw[if_neg hj,if_neg hj];exact⟨_,rfl⟩
theorem qx:Yk X (.type "int") (fun xs H Q=>(∃i,xs=[.int i]/\Q (.int i) H)\/∃k,xs=[.bl k]/\Q (.int (if k then 1 else 0)) H):=by
 intro XB s Z H xs us Q I r h;rcases h with ⟨i,rfl,q⟩ | ⟨k,rfl,q⟩
 .obtain⟨u,rfl,t,rfl⟩:=vals1 r;exact call_int_int ⟨.int i,H,I,⟨_,rfl⟩,q⟩
 .obtain⟨u,rfl,r1⟩:=vals1 r;cases r1;exact call_int_bool ⟨.int (if k then 1 else 0),H,I.tok _,⟨_,rfl⟩,q⟩
inductive Gb(xs:ZQ)(H:Hp)(Q:VK):Prop
 | mk(i)(Yh:xs=[.int i])(Ys:i.natAbs.log2<1920)(Vt:Q (.str (toString i)) H):Gb xs H Q
theorem Fq:Yk X (.type "str") (fun xs H Q=>Gb xs H Q):=by
 intro XB s Z H xs us Q I r h;obtain⟨i,rfl,hz,q⟩:=h;obtain⟨u,rfl,t,rfl⟩:=vals1 r;exact PySem.P.str_of_int hz ⟨.str _,H,I.tok _,⟨_,rfl⟩,q⟩
def LenV(K:W.Frag)(x:V)(H:Hp)(n:Nat):Prop :=
 match x with
 | .str y=>y.length<=sizeLine/\n=y.length
 | .byt y=>y.size<=sizeLine/\n=y.size
 | .ref p=>(∃xs,Vc K H p xs/\n=xs.length)\/∃xs,Yu K H p xs/\n=xs.length
 | _=>False
inductive Ct(K:W.Frag)(xs:ZQ)(H:Hp)(Q:VK):Prop
 | mk(x n)(Yh:xs=[x])(Ys:LenV K x H n)(Vt:Q (.int n) H):Ct K xs H Q
theorem cx:Yk X (.builtin "len") (fun xs H Q=>Ct X.K xs H Q):=by
 intro XB s Z H xs us Q I r h;obtain⟨x,n,rfl,e,q⟩:=h;obtain⟨u,rfl,rx⟩:=vals1 r;have hl:=Ng;have hs:sizeLine=16777216:=sizeLine_eq;cases x with
 | str y =>
  obtain⟨t,rfl⟩:=rx;obtain⟨hy,e'⟩:y.length<=sizeLine/\n=y.length:=e;subst e';exact len_str (by omega) ⟨.int _,H,I.tok _,⟨_,rfl⟩,q⟩
 | byt y =>
  obtain⟨t,rfl⟩:=rx;obtain⟨hy,e'⟩:y.size<=sizeLine/\n=y.size:=e;subst e';exact W.len_bytes (by omega) ⟨.int _,H,I.tok _,⟨_,rfl⟩,q⟩
 | ref p =>
  cases rx;have e':(∃xs,Vc X.K H p xs/\n=xs.length)\/∃xs,Yu X.K H p xs/\n=xs.length:=e;rcases e' with ⟨xs,hx,e'⟩ | ⟨xs,hx,e'⟩
  .subst e';obtain⟨XD,r',pl,hz⟩:=I.list hx;have hlen:=r'.length;exact Calls.call_len_list pl.isList (by simp only[Vi];omega) ⟨.int xs.length,H,I.tok _,⟨_,by simp only[Vi];rw[hlen]⟩,q⟩
  .subst e';obtain⟨XD,r',pl,hz⟩:=I.tuple hx;have hlen:=r'.length;exact len_tuple pl (by simp only[Vi];omega) ⟨.int xs.length,H,I.tok _,⟨_,by simp only[Vi];rw[hlen]⟩,q⟩
 | _=>exact(show False from e).elim
end
structure ObjM(h:Heap)(x dx C:Addr)(mA:ZV):Prop where
 obj:h.get? x=some (W.instObj C dx)
 ns:h.Ns1 dx mA
 ne:dx≠x
theorem zr{h:Heap}{dx:Addr}{mA:ZV}(n:h.Ns1 dx mA):∃od,h.get? dx=some od/\∀name,W.lookIn name od=some (mA name):=by
 obtain⟨o,es,ep,ho,hd,hk,_,hm⟩:=n;refine⟨o,ho,fun name=>?_⟩;have e:=hm name;unfold nsFind findBy at e;rw[<-Array.find?_toList]at e;unfold W.lookIn;rw[hd];dsimp only
 split
 .rename_i y q
  rw[q]at e;exact congrArg some e
 .rename_i q
  rw[q]at e
  have a:es.toList.any (·.refKey)=false:=by
   rw[List.any_eq_false];intro y hy;obtain⟨z,t,hkey⟩:=hk y (Array.mem_toList_iff.mp hy);simp[DictEntry.refKey,hkey]
  have a':¬ es.toList.any (·.refKey)=true:=by rw[a];exact D2
  rw[if_neg a'];exact congrArg some e
theorem ObjM.look{h:Heap}{x dx C:Addr}{mA:ZV}(I:ObjM h x dx C mA):∃od,W.InstAt h x (W.instObj C dx) C (some od)/\∀name,W.lookIn name od=some (mA name) :=
 let ⟨od,ho,hl⟩:=zr I.ns
 ⟨od,⟨I.obj,rfl,rfl,ho⟩,hl⟩
section
variable{prog:Program}{w:World}{A:Around}{E:ZW}{s:Shared}{K:W.Frag}{x dx C f:Addr}{mA:ZV}{name:Str}{v:Value}
end
theorem Ni.some_of{v:V}{o:ZT}(r:Ni (some v) o):∃u,o=some u/\RelV v u:=by
 cases o with
 | none=>exact(show False from r).elim
 | some u=>exact⟨u,rfl,r⟩
section
variable{P:Program}{w:World}{H H':Hp}{h h':Heap}{a C dx:Addr}{fs fs':List (Str×V)}
theorem i9(hok:D3 P w H h)(e:H a=some (.ins C dx fs)):∃mA,ObjM h a dx C mA/\(∀f,Ni (fs.lookup f) (mA f))/\PySem.Within mA (fs.map (·.1))/\fs.length<=1000/\H dx=some (.own a):=by
 obtain⟨d,z,ne,ob,mA,n,r,q⟩:=(show Za P w H h a (.ins C dx fs) from hok a _ e);exact⟨mA,⟨ob,n,ne⟩,r,q,z,d⟩
end
structure Cls(K:W.Frag)(C:Addr):Prop where
 pg:W.plainGet K C Str.empty=true
 hd:W.hasDictIn K C=true
 po:W.plainOver K C=true
 sa:W.findIn K (.ref C) "__setattr__" = some (some (.builtin "object.__setattr__"))
theorem Cls.get{K:W.Frag}{C:Addr}(c:Cls K C)(f:Str):W.plainGet K C f=true:=c.pg
section
variable{X:Cx}{XB:ZY}{Z:St}{H:Hp}{s:Shared}{a C dx:Addr}{fs:List (Str×V)}{f:Str}{v:V}{A:Around}{E:ZW}
end
section
variable{X:Cx}{o e value:Expr}{f:Str}{pos pos' tpos:Pos}{ta tv:TE}
end
section
variable{X:Cx}{XB:ZY}{Z:St}{H:Hp}{s:Shared}{A:Around}{E:ZW}{Q:ZW}{c:Value}{b:Bool}
inductive Ba(K:W.Frag)(H:Hp):V->Value->Prop where
 | non:Ba K H .non (.type "NoneType")
 | bl (x:Bool):Ba K H (.bl x) (.type "bool")
 | int (i:Int):Ba K H (.int i) (.type "int")
 | str (x:Str):Ba K H (.str x) (.type "str")
 | flt (x:UInt64):Ba K H (.flt x) (.type "float")
 | lst {a:Addr} {xs:ZQ} (e:H a=some (.lst xs)):Ba K H (.ref a) (.type "list")
 | frz {a:Addr} {o:Obj} {xs:ZQ} (e:H a=some (.frz o (.lst xs))):Ba K H (.ref a) (.type "list")
 | tup {a:Addr} {xs:ZQ} (e:H a=some (.tup xs)):Ba K H (.ref a) (.type "tuple")
 | dK {a:Addr} {XM:List (Key×V)} (e:H a=some (.dK XM)):Ba K H (.ref a) (.type "dict")
 | dT {a:Addr} {XM:List (List Key×V)} (e:H a=some (.dT XM)):Ba K H (.ref a) (.type "dict")
 | ins {a C dx:Addr} {fs:List (Str×V)} (e:H a=some (.ins C dx fs)) (cl:Cls K C) (ha:W.findIn K (.ref C) "__class__" = some (some (.builtin "object.__class__")))
   (hn:W.specialIn K (.builtin "object.__class__") "__get__" = some (some (.builtin "getset_descriptor.__get__"))) (htk:W.takesIn K (.builtin "object.__class__")=some true)
   (hm:W.mroIn K C (.type "object")=some true):Ba K H (.ref a) (.ref C)
theorem Va{x:V}{u t:Value}(I:Inv X XB Z H s)(rx:RelV x u)(ty:Ba X.K H x t)(e:W.kitOne X.K t c=some b)(h:∀tk,Q (.bool b) { s with toks:=tk }) :
  wpAny (model X.prog X.w) A (call (.builtin "isinstance") [u,c]) Q E s:=by
 cases ty with
 | non=>cases(show u=Value.none from rx);exact W.kia_one W.kitx_none I.kIn True.intro e (fun z=>nomatch z) h
 | bl y=>cases(show u=Value.bool y from rx);exact W.kia_one W.kitx_bool I.kIn True.intro e (fun z=>nomatch z) h
 | int i=>obtain⟨t,q⟩:=(show ∃t,u=Value.int i t from rx);cases q;exact W.kia_one W.kitx_int I.kIn True.intro e (fun z=>nomatch z) h
 | str y=>obtain⟨t,q⟩:=(show ∃t,u=Value.str y t from rx);cases q;exact W.kia_one W.kitx_str I.kIn True.intro e (fun z=>nomatch z) h
 | flt y=>obtain⟨t,q⟩:=(show ∃t,u=Value.float y t from rx);cases q;exact W.kia_one W.kitx_float I.kIn True.intro e (fun z=>nomatch z) h
 | @lst a xs ea =>
  cases(show u=Value.ref a from rx);obtain⟨_,_,n,_,h1⟩:=(show Za X.prog X.w H s.heap a (.lst xs) from I.hok a _ ea);exact W.kia_one W.kitx_list I.kIn ⟨_,h1,rfl⟩ e (fun z=>nomatch z) h
 | @frz a ob xs ea =>
  cases(show u=Value.ref a from rx);obtain⟨_,_,_,n,_,h1⟩:=(show Za X.prog X.w H s.heap a (.frz ob (.lst xs)) from I.hok a _ ea);exact W.kia_one W.kitx_list I.kIn ⟨_,h1,rfl⟩ e (fun z=>nomatch z) h
 | @tup a xs ea =>
  cases(show u=Value.ref a from rx);obtain⟨_,_,_,p⟩:=(show Za X.prog X.w H s.heap a (.tup xs) from I.hok a _ ea);obtain⟨o,h1,h2,_⟩:=p;exact W.kia_one W.kitx_tuple I.kIn ⟨o,h1,h2⟩ e (fun z=>nomatch z) h
 | @dK a XM ea =>
  cases(show u=Value.ref a from rx);obtain⟨_,_,vs,_,p⟩:=(show Za X.prog X.w H s.heap a (.dK XM) from I.hok a _ ea);obtain⟨o,es,ep,h1,h2,_⟩:=p;exact W.kia_one W.kitx_dict I.kIn ⟨o,h1,h2.1⟩ e (fun z=>nomatch z) h
 | @dT a XM ea =>
  cases(show u=Value.ref a from rx);obtain⟨_,_,xs,_,o,es,ep,h1,h2,_⟩:=(show Za X.prog X.w H s.heap a (.dT XM) from I.hok a _ ea);exact W.kia_one W.kitx_dict I.kIn ⟨o,h1,h2.1⟩ e (fun z=>nomatch z) h
 | @ins a C dx fs ea cl ha hn htk hm =>
  cases(show u=Value.ref a from rx);obtain⟨mA,O,_⟩:=i9 I.hok ea;obtain⟨od,J,_⟩:=O.look;exact W.kia_one (W.kitx_own (cl.get _) cl.hd ha hn htk hm) I.kIn J e (fun z=>nomatch z) h
end
structure Vu(k:Nat)(A:Around):Prop where
 hd:A.handled=none
 dp:A.depth+3 * k+5<recursionLimit
 un:A.units+16 * k+200<cLine
 gd:A.guards=some []
theorem Vu.mono{j k:Nat}{A:Around}(r:Vu k A)(h:j<=k):Vu j A:=⟨r.hd,by have:=r.dp;omega,by have:=r.un;omega,r.gd⟩
theorem Vu.deeper{k:Nat}{A:Around}(r:Vu (k+1) A)(env:Env):Vu k (A.deeper env) :=
 ⟨r.hd,by have:=r.dp;show A.depth+1+3 * k+5<_;omega,by have:=r.un;show A.units+3+16 * k+200<_;omega,r.gd⟩
theorem Vu.in1{k:Nat}{A:Around}(r:Vu (k+1) A):Vu k A.in1 :=
 ⟨r.hd,by have:=r.dp;show A.depth+3 * k+5<_;omega,by have:=r.un;show A.units+1+16 * k+200<_;omega,r.gd⟩
theorem Vu.depth{k:Nat}{A:Around}(r:Vu k A):A.depth<recursionLimit:=by have:=r.dp;omega
theorem Vu.units{k:Nat}{A:Around}(r:Vu k A):A.units+64<cLine:=by have:=r.un;omega
def tNil:TA:=fun _ H Q=>Q [] H
def tCons(ta:TE)(tr:TA):TA:=fun Z H Q=>ta Z H fun x H1=>tr Z H1 fun xs H2=>Q (x::xs) H2
section
variable{X:Cx}{e:Expr}{es:ZC}{te:TE}{t:TA}{pos:Pos}
theorem Lw:PA X [] tNil:=fun _ _ _ _ H Q I h=>Calls.spliced_nil ⟨[],H,I,.nil,h⟩
theorem Mq(ha:PE X e te)(hr:PA X es t)(hs:starEach (e::es) X.env=(false,eval e X.env)::starEach es X.env:=by rfl):PA X (e::es) (tCons te t):=by
 intro pos XB s Z H Q I h;rw[hs];show wpAny _ _ (spliced ((false,eval e X.env)::backTo pos (starEach es X.env))) _ _ s;refine Calls.spliced_cons (Z3 (ha XB s Z H _ I h) fun u s1 ⟨x,H1,I1,r1,q1⟩=>?_);exact Z3 (hr pos XB s1 Z H1 _ I1 q1) fun us s2 ⟨xs,H2,I2,r2,q2⟩=>⟨x::xs,H2,I2,.cons r1 r2,q2⟩
inductive w6(Q:VK)(xs:ZQ)(H1:Hp):Prop
 | mk  (Yh:xs.length<=sizeLine)(Ys:∀p,H1 p=none->Q (.ref p) (upd H1 p (.tup xs))):w6 Q xs H1
def tTup(t:TA):TE:=fun Z H Q=>t Z H fun xs H1=>w6 Q xs H1
inductive vz(Q:VK)(xs:ZQ)(H1:Hp):Prop
 | mk  (Yh:xs.length<=sizeLine)(Ys:∀p,H1 p=none->Q (.ref p) (upd H1 p (.lst xs))):vz Q xs H1
def tLst(t:TA):TE:=fun Z H Q=>t Z H fun xs H1=>vz Q xs H1
theorem gj{x1}(h:PA X es t):PE X (.Tuple es x1 pos) (tTup t):=by
 intro XB s Z H Q I hq;refine wpAny_Tuple_spliced (Z3 (h pos XB s Z H _ I hq) fun us s1 ⟨xs,H1,I1,r,z,q⟩=>⟨by rw[<-r.length];exact z, ?_⟩);have hf:H1 s1.heap.objs.size=none:=I1.hok.fresh (Yg _);refine⟨.ref s1.heap.objs.size,upd H1 s1.heap.objs.size (.tup xs),I1.laid (t':=s1.toks) (fun b u e=>Y9 _ e) (Yg _) ?_,rfl,q _ hf⟩;exact⟨z,us,r,⟨_,Dj _ rfl,rfl,⟨_,rfl⟩,rfl⟩⟩
theorem pe_lst(h:PA X es t):PE X (.List es pos) (tLst t):=by
 intro XB s Z H Q I hq;refine wpAny_List_spliced (Z3 (h pos XB s Z H _ I hq) fun us s1 ⟨xs,H1,I1,r,z,q⟩=>⟨by rw[<-r.length];exact z, ?_⟩);have hf:H1 s1.heap.objs.size=none:=I1.hok.fresh (Yg _);refine⟨.ref s1.heap.objs.size,upd H1 s1.heap.objs.size (.lst xs),I1.laid (t':=s1.toks) (fun b u e=>Y9 _ e) (Yg _) ?_,rfl,q _ hf⟩;exact⟨z,us,0,r,Dj _ rfl⟩
end
abbrev Sp:=ZQ->Hp->VK->XK->Prop
abbrev Ke:=List Env->Hp->Shared->XK->Value->Shared->Prop
structure Ku(P:Program)(w:World)(K:W.Frag)(mg:ZV)(base:Heap)(A:Around)(outer:List Env)(s:Shared)(H:Hp):Prop where
 frames:A.frames=some outer
 mod:Mod K mg base
 bs:∀b o,base.get? b=some o->s.heap.get? b=some o/\H b=none
 bsz:base.objs.size<=s.heap.objs.size
 funs:s.heap.FunFrames base outer
 frf:∀b∈frs outer,H b=none
 hok:D3 P w H s.heap
 bare:AllBare s.gens
def CE(outer:List Env)(P:Program)(w:World)(H:Hp)(s:Shared)(Q:VK)(u:Value)(s':Shared):Prop :=
 ∃v H',s'.os=s.os/\AllBare s'.gens/\Un (frs outer) [] H H' s.heap s'.heap/\D3 P w H' s'.heap/\RelV v u/\Q v H'
def CR(CX:Ke)(outer:List Env)(P:Program)(w:World)(H:Hp)(s:Shared)(Q:VK)(E:XK)(r:Result)(s':Shared):Prop :=
 match r with
 | .ok (.ret u)=>CE outer P w H s Q u s'
 | .ok _=>False
 | .error e=>CX outer H s E e s'
structure Jq(P:Program)(w:World)(K:W.Frag)(mg:ZV)(base:Heap)(CX:Ke)(k:Nat)(f:Addr)(fd:FuncData)(ps:ZD)(sp:Sp):Prop where
 len:∀vs H Q E,sp vs H Q E->vs.length=ps.length
 run:∀(A:Around) (outer:List Env) (s:Shared) (H:Hp) (args:Args) (us:ZM) (vs:ZQ) (Q:VK) (E:XK),Vu k A->Ku P w K mg base A outer s H->BindsTo s fd args (ps.zip us)->Zw vs us->sp vs H Q E ->
  codeAny (model P w) A (.call (.ref f) args) (CR CX outer P w H s Q E) s
theorem Jq.mono{P:Program}{w:World}{K:W.Frag}{mg:ZV}{base:Heap}{CX:Ke}{j k:Nat}{f:Addr}{fd:FuncData}{ps:ZD}{sp:Sp}(F:Jq P w K mg base CX j f fd ps sp)(h:j<=k) :
  Jq P w K mg base CX k f fd ps sp:=⟨F.len,fun A outer s H args us vs Q E hr=>F.run A outer s H args us vs Q E (hr.mono h)⟩
theorem Jq.imp{P:Program}{w:World}{K:W.Frag}{mg:ZV}{base:Heap}{CX:Ke}{k:Nat}{f:Addr}{fd:FuncData}{ps:ZD}{sp sp':Sp}(F:Jq P w K mg base CX k f fd ps sp)
  (h:∀vs H Q E,sp' vs H Q E->sp vs H Q E):Jq P w K mg base CX k f fd ps sp' :=
 ⟨fun vs H Q E q=>F.len vs H Q E (h _ _ _ _ q),fun A outer s H args us vs Q E hr he hb hv hs=>F.run A outer s H args us vs Q E hr he hb hv (h _ _ _ _ hs)⟩
theorem Ku.in1{P:Program}{w:World}{K:W.Frag}{mg:ZV}{base:Heap}{A:Around}{outer:List Env}{s:Shared}{H:Hp}(e:Ku P w K mg base A outer s H) :
  Ku P w K mg base A.in1 outer s H:=⟨e.frames,e.mod,e.bs,e.bsz,e.funs,e.frf,e.hok,e.bare⟩
section
variable{X:Cx}{XB:ZY}{Z:St}{H:Hp}{s s':Shared}
theorem Inv.env0(I:Inv X XB Z H s):Ku X.prog X.w X.K X.mg X.base X.A X.stack s H :=
 ⟨I.ok.frames,I.ok.mod,I.bs,Ve I.ok.bsz I.sz,I.stack,I.stkFree,I.hok,I.bare⟩
theorem Inv.after{Q:VK}{u:Value}(I:Inv X XB Z H s)(h:CE X.stack X.prog X.w H s Q u s'):EP X XB Z Q u s':=by
 obtain⟨v,H',os,bare,un,hok,r,q⟩:=h;obtain⟨hh,g,d,t,os'⟩:=s';obtain rfl:os'=s.os:=os;exact⟨v,H',I.call (h':=hh) (g':=g) (d':=d) (t':=t) (ch:=[]) un hok bare (fun b z=>absurd z (by simp)),r,q⟩
end
def Zxv(sp:Sp)(dvs:ZQ)(E:XK)(t:TA):TE:=fun Z H Q=>t Z H fun vs H1=>sp (vs++dvs) H1 Q E
def Binds(K:W.Frag)(fd:FuncData)(ps:ZD)(ds:ZM):Prop :=
 ∀(s:Shared) (us:ZM),K.In s.heap->(us++ds).length=ps.length->BindsTo s fd ⟨us,[]⟩ (ps.zip (us++ds))
theorem Binds.all{K:W.Frag}{fd:FuncData}{ps:ZD}(h:∀us:ZM,us.length=ps.length->bindArgs fd ⟨us,[]⟩=pure (ps.zip us)):Binds K fd ps []:=fun s us _ hl=>by
 rw[XQ]at hl ⊢;exact .of_eq (h us hl)
def Kl(CX:Ke)(X:Cx)(E:XK):Prop:=∀(XB:ZY) (Z:St) (H:Hp) (s:Shared) (e:Value) (s':Shared),Inv X XB Z H s->CX X.stack H s E e s'->X.xe e s'
section
variable{X:Cx}{CX:Ke}{k:Nat}{f C:Addr}{fd:FuncData}{ps:ZD}{sp:Sp}{dvs:ZQ}{ds:ZM}{E:XK}{x m:Str}{p pos apos:Pos}{e o:Expr}{es:ZC}{ta:TE}{t:TA}
theorem yq{XB:ZY}{Z:St}{H:Hp}{s:Shared}{Q:VK}{us:ZM}{vs:ZQ}(F:Jq X.prog X.w X.K X.mg X.base CX k f fd ps sp)(hr:Vu k X.A)(hb:Binds X.K fd ps ds)(hd:Zw dvs ds)(hx:Kl CX X E)
  (I:Inv X XB Z H s) (r:Zw vs us) (h:sp (vs++dvs) H Q E):wpAny (model X.prog X.w) X.A (call (.ref f) us) (EP X XB Z Q) X.xe s:=by
 have r2:Zw (vs++dvs) (us++ds):=r.append hd;have hl:(us++ds).length=ps.length:=by rw[<-r2.length];exact F.len _ _ _ _ h
 refine wpAny_call (codeAny_mono (F.run X.A X.stack s H ⟨us,[]⟩ (us++ds) (vs++dvs) Q E hr I.env0 (hb s us I.kIn hl) r2 h) fun r s' hq=>?_);cases r with
 | error e=>exact hx XB Z H s e s' I hq
 | ok fl =>
  cases fl with
  | ret u=>exact I.after hq
  | next=>exact False.elim hq
  | brk=>exact False.elim hq
  | cont=>exact False.elim hq
theorem ao(F:Jq X.prog X.w X.K X.mg X.base CX k f fd ps sp)(hr:Vu k X.A)(hg:Gl X x)(hm:X.mg x=some (.ref f))(hk:W.keepIn X.K (.ref f)=true)(hb:Binds X.K fd ps ds)(hd:Zw dvs ds)(hx:Kl CX X E)
  (ha:PA X (e::es) t) (hdb:(x == ("__debug__" : Str))=false:=by decide) (he:starEach (e::es) X.env=(false,eval e X.env)::starEach es X.env:=by rfl) (Iz:(backTo pos (starEach es X.env)).any (·.1)=false:=by rfl) :
  PE X (.Call (.Name x p) (e::es) [] pos) (Zxv sp dvs E t):=by
 intro XB s Z H Q I h;refine wpAny_Call_Name_kw (Ae I hg hm ?_ hdb);refine W.callWith_K (h₀:=X.base) I.ok.mod.kin hk (Z3 (ha pos XB s Z H _ I h) fun us s1 ⟨vs,H1,I1,r,q⟩=>⟨I1.kIn, ?_⟩) he Iz;exact yq F hr hb hd hx I1 r q
end
section
variable{X:Cx}{CX:Ke}{k:Nat}{f C:Addr}{fd:FuncData}{ps ks:ZD}{sp:Sp}{E:XK}{x m:Str}{p pos apos kpos:Pos}{e o:Expr}{es:ZC}{kws:List Keyword}{te ta:TE}{t tk:TA}{nm:Option Str}
variable{g:ZM->ZM->ZM}{gV:ZQ->ZQ->ZQ}
end
structure G1(N P:ZD)(sc:Scope):Prop where
 kind:sc.kind=.function
 co:sc.isCoroutine=false
 gen:sc.isGenerator=false
 nd:N.Nodup
 pre:N.take P.length=P
 par:∀x∈P,sc.names.lookup x=some .local\/sc.names.lookup x=some .cell
 nofree:∀y∈sc.names,y.2≠.free
theorem Wn{kindOf:Str->Option NameKind}{x:Str}:∀{binds:List (Str×Value)} {m:ZV},(∀v,(x,v) ∉ binds)->bindL kindOf binds m x=m x
 | [],_,_=>rfl
 | (n,v)::r,m,h=>by
  unfold bindL;rw[Wn fun w hw=>h w (Y7 _ hw)]
  split
  .have:x≠n:=by rintro rfl;exact h v Y5
   simp[this]
  .rfl
theorem Wr{kindOf:Str->Option NameKind}{x:Str}:∀{binds:List (Str×Value)} {m:ZV},(∀v,(x,v) ∉ binds)->bindC kindOf binds m x=m x
 | [],_,_=>rfl
 | (n,v)::r,m,h=>by
  unfold bindC;rw[Wr fun w hw=>h w (Y7 _ hw)]
  split
  .rfl
  .have:x≠n:=by rintro rfl;exact h v Y5
   simp[this]
theorem Wl{kindOf:Str->Option NameKind}{x:Str}{v:Value}:∀{P:ZD} {vs:ZM} {i:Nat} {m:ZV},P.Nodup->P[i]?=some x->vs[i]?=some v->kindOf x=some .local ->
  bindL kindOf (P.zip vs) m x=some v
 | [],_,_,_,_,h,_,_=>by simp at h
 | _::_,[],_,_,_,_,h,_=>by simp at h
 | p::P,w::vs,0,m,nd,h1,h2,hk=>by
  simp at h1 h2;subst h1;subst h2;show bindL kindOf ((p,w)::P.zip vs) m p=_;unfold bindL;rw[Wn fun v hv=>(List.nodup_cons.mp nd).1 (List.of_mem_zip hv).1,if_pos hk];simp
 | p::P,w::vs,i+1,m,nd,h1,h2,hk=>by
  show bindL kindOf ((p,w)::P.zip vs) m x=_;unfold bindL;exact Wl (i:=i) (List.nodup_cons.mp nd).2 (by simpa using h1) (by simpa using h2) hk
theorem Ws{kindOf:Str->Option NameKind}{x:Str}{v:Value}:∀{P:ZD} {vs:ZM} {i:Nat} {m:ZV},P.Nodup->P[i]?=some x->vs[i]?=some v->kindOf x≠some .local ->
  bindC kindOf (P.zip vs) m x=some v
 | [],_,_,_,_,h,_,_=>by simp at h
 | _::_,[],_,_,_,_,h,_=>by simp at h
 | p::P,w::vs,0,m,nd,h1,h2,hk=>by
  simp at h1 h2;subst h1;subst h2;show bindC kindOf ((p,w)::P.zip vs) m p=_;unfold bindC;rw[Wr fun v hv=>(List.nodup_cons.mp nd).1 (List.of_mem_zip hv).1,if_neg hk];simp
 | p::P,w::vs,i+1,m,nd,h1,h2,hk=>by
  show bindC kindOf ((p,w)::P.zip vs) m x=_;unfold bindC;exact Ws (i:=i) (List.nodup_cons.mp nd).2 (by simpa using h1) (by simpa using h2) hk
noncomputable def start(N:ZD)(vs:ZQ):St:=vs.map some++List.replicate (N.length - vs.length) none
noncomputable def E9(CX:Ke)(P:Program)(w:World)(K:W.Frag)(mg:ZV)(base:Heap)(N:ZD)(qual:Str)(scope:Scope)(f:Addr)(cd:Value)(A:Around)(outer:List Env)(s:Shared)(H:Hp)(E:XK):Cx where
 prog:=P
 w:=w
 K:=K
 mg:=mg
 base:=base
 A:=A.deeper (envOfC qual scope s.heap.objs.size f cd)
 N:=N
 s₀:=s
 H₀:=H
 env:=envOfC qual scope s.heap.objs.size f cd
 outer:=outer
 stack:=envOfC qual scope s.heap.objs.size f cd::outer
 ex:=[]
 calm:=true
 fn:=fun _=>true
 pn:=[]
 xe:=fun e s'=>wpAny (model P w) (A.deeper (envOfC qual scope s.heap.objs.size f cd)) (leaving (envOfC qual scope s.heap.objs.size f cd) e) (fun _ s''=>CX outer H s E e s'') (fun e' s''=>CX outer H s E e' s'') s'
theorem Oy{sc:Scope}{n:Nat}{x:Str}(h:sc.names.lookup x=some .cell):∃c,(cellsFrom n sc.names []).lookup x=some c:=by
 have q:=W.cellsFrom_some sc.names n [] (.inl h);exact Option.isSome_iff_exists.mp q
theorem z8{CX:Ke}{P:Program}{w:World}{K:W.Frag}{mg:ZV}{base:Heap}{N ps:ZD}{qual:Str}{scope:Scope}{f:Addr}{cd:Value}{A:Around}{outer:List Env}{s s1:Shared}{H:Hp}{E:XK}{us:ZM}{vs:ZQ}
  (S:G1 N ps scope) (hd:A.handled=none) (e0:Ku P w K mg base A outer s H) (hl:vs.length=ps.length) (r:Zw vs us)
  (x:InCallC s s.heap.objs.size (bindL (envOfC qual scope s.heap.objs.size f cd).kindOf (ps.zip us) fun _=>none) (cellsFrom (s.heap.objs.size+1) scope.names []) (bindC (envOfC qual scope s.heap.objs.size f cd).kindOf (ps.zip us) fun _=>none) s1) :
  Inv (E9 CX P w K mg base N qual scope f cd A outer s H E) [] (start N vs) H s1:=by
 have Iz:ps.length<=N.length:=by have:=congrArg List.length S.pre;rw[L0t]at this;omega
 obtain⟨h1,tk,rfl,hk⟩:=x.done;have noA:∀b:Addr,b ∉ (E9 CX P w K mg base N qual scope f cd A outer s H E).ex:=fun b z=>absurd (show b∈([]:ZU) from z) (by simp)
 refine⟨⟨e0.mod,S.kind,rfl,rfl,Yg _,fun y z c h1 h2=>?_,fun y hy=>?_,fun y c _ h=>?_,fun _=>hd,Around.frames_deeper e0.frames,.inr ⟨rfl,rfl⟩,fun b z=>absurd z (noA b),e0.bs,e0.bsz,fun b _ _=>noA b,fun b z=>absurd z (noA b),e0.funs,e0.frf⟩,
  rfl,e0.bare,Un.kept hk,⟨_,x.toInCall.ns,fun i y v h1 h2 h3=>?_⟩,fun y c h=>⟨_,x.cell y c h⟩,e0.hok.fresh (Yg _),fun y c h=>?_,fun p hp=>absurd (show p∈([]:ZY) from hp) (by simp),e0.hok.kept hk, ?_⟩
 .exact name_of_addr x.apart (PySem.mem_of_lookup h1) (PySem.mem_of_lookup h2)
 .have hy:scope.names.lookup y=some .cell\/scope.names.lookup y=some .free:=hy;rcases hy with hy | hy
  .exact Oy hy
  .exact absurd rfl (S.nofree _ (PySem.mem_of_lookup hy))
 .exact Nat.le_of_lt (x.above y c (PySem.mem_of_lookup h))
 .have hi:i<vs.length:=by
   unfold start at h2;by_cases hi:i<vs.length
   .exact hi
   .rw[List.getElem?_append_right (by simpa using hi)]at h2;rw[List.getElem?_replicate]at h2
    split at h2<;>cases h2
  have ha:vs[i]?=some v:=by
   unfold start at h2;rw[G0l (by simpa using hi),Fu]at h2;cases e:vs[i]? with
   | none=>rw[e]at h2;cases h2
   | some a=>rw[e]at h2;cases h2;rfl
  obtain⟨u,hu,rv⟩:=r.get ha
  have hp:ps[i]?=some y:=by
   rw[<-S.pre,List.getElem?_take_of_lt (by omega)];exact h1
  have ndP:ps.Nodup:=by rw[<-S.pre];exact S.nd.sublist (List.take_sublist _ _)
  refine⟨u,rv, ?_⟩;rcases S.par y (M0g hp) with k | k
  .exact .inl ⟨k,Wl ndP hp hu k⟩
  .obtain⟨c,e⟩:=Oy (n:=s.heap.objs.size+1) k;refine .inr ⟨.inl k,c,e, ?_⟩;have q:=x.cell y c e;rw[Ws ndP hp hu (by show scope.names.lookup y≠_;rw[k];decide)]at q;exact q
 .exact e0.hok.fresh (Nat.le_of_lt (x.above y c (PySem.mem_of_lookup h)))
 .unfold start;show _=N.length;rw[Qz,Yn,List.length_replicate];omega
theorem fn_of{CX:Ke}{P:Program}{w:World}{K:W.Frag}{mg:ZV}{base:Heap}{k:Nat}{f:Addr}{name qual:Str}{params:Arguments}{body:List Stmt}{scope:Scope}{dV kV doc pm cdv ct oc:Value}{an od:ZP}
  {osl:ZF} {N ps:ZD} {sp:Sp} (lk:K.lookup f=some ⟨oc,od,.func (W.fnOf name qual params body scope dV kV doc pm an cdv ct),osl⟩) (Pp:W.codeIn K cdv qual=true) (S:G1 N ps scope)
  (len:∀vs H Q E,sp vs H Q E->vs.length=ps.length)
  (dq:∀(A:Around) (outer:List Env) (s:Shared) (H:Hp) (vs:ZQ) (Q:VK) (E:XK),Vu k (A.deeper (envOfC qual scope s.heap.objs.size f cdv))->sp vs H Q E ->
   ∃t,Rr (E9 CX P w K mg base N qual scope f cdv A outer s H E) body t/\t { nx:=fun _ H'=>Q .non H',rt:=Q } (start N vs) H) :
  Jq P w K mg base CX (k+1) f (W.fnOf name qual params body scope dV kV doc pm an cdv ct) ps sp:=by
 refine⟨len,fun A outer s H args us vs Q E hr e0 hb r hsp=>?_⟩;have hl:=len _ _ _ _ hsp;have KX:K.In s.heap:=e0.mod.kin.keeps fun b o e=>(e0.bs b o e).1;have lim:s.heap.NoLimit:=e0.mod.nolimit.keeps fun b o e=>(e0.bs b o e).1
 have hkind:∀y∈ps.zip us,scope.names.lookup y.1=some .local\/(scope.names.lookup y.1=some .cell/\((cellsFrom (s.heap.objs.size+1) scope.names []).lookup y.1).isSome=true):=fun⟨n,v⟩ hy=>by
  rcases S.par n (List.of_mem_zip hy).1 with q | q
  .exact .inl q
  .exact .inr ⟨q,W.cellsFrom_some _ _ _ (.inl q)⟩
 refine codeAny_call_function hr.depth (KX _ _ lk) rfl S.co S.gen rfl (W.codeRec_of KX Pp) (hb _ _ _ _ ?_);refine wpAny_newFunctionEnv_cells S.kind hkind fun env he s1 x=>?_;subst he;refine⟨lim.keeps x.toInCall.keep,codeAny_func ?_⟩;obtain⟨t,ht,hq⟩:=dq A outer s H vs Q E (hr.deeper _) hsp;have I:Inv (E9 CX P w K mg base N qual scope f cdv A outer s H E) [] (start N vs) H s1:=z8 S hr.hd e0 hl r x;refine wpAny_mono (ht [] s1 (start N vs) H _ I hq) (fun fl s' hs=>?_) fun e s' hs=>hs
 have fin:∀{σ':St} {H':Hp} {v:V} {u:Value},Inv (E9 CX P w K mg base N qual scope f cdv A outer s H E) [] σ' H' s'->RelV v u->Q v H'->CE outer P w H s Q u s' :=
  fun {σ' H' v u} J rv q=>⟨v,H',J.os,J.bare,J.base,J.hok,rv,q⟩
 cases fl with
 | ret u =>
  obtain⟨v,σ',H',J,rv,q⟩:=hs;exact fin J rv q
 | next =>
  obtain⟨σ',H',J,q⟩:=hs;exact fin (v:=V.non) (u:=Value.none) J rfl q
 | brk =>
  obtain⟨_,_,_,q⟩:=hs;exact False.elim q
 | cont =>
  obtain⟨_,_,_,q⟩:=hs;exact False.elim q
section
variable{X:Cx}{x:Str}{p pos:Pos}{e:Expr}{es:ZC}{t:TA}{id T:String}{r:ZQ->Hp->VK->Prop}
def tCB(r:ZQ->Hp->VK->Prop)(t:TA):TE:=fun Z H Q=>t Z H fun vs H1=>r vs H1 Q
theorem Q3(hc:Yk X (.builtin id) r)(hg:Gl X x)(hm:X.mg x=none)(hv:bootBuiltins x=some (.builtin id))(ha:PA X (e::es) t)(hn:x ≠ "__name__" := by decide)(hdb:(x == ("__debug__" : Str))=false:=by decide)
  (he:starEach (e::es) X.env=(false,eval e X.env)::starEach es X.env:=by rfl) (Iz:(backTo pos (starEach es X.env)).any (·.1)=false:=by rfl):PE X (.Call (.Name x p) (e::es) [] pos) (tCB r t):=by
 intro XB s Z H Q I h;refine wpAny_Call_Name_kw (Du I hg hm hv ?_ hn hdb);exact callWith_builtin1 (Z3 (ha pos XB s Z H _ I h) fun us s1 ⟨vs,H1,I1,r1,q1⟩=>hc XB s1 Z H1 vs us Q I1 r1 q1) he Iz
theorem X8(hc:Yk X (.type T) r)(hg:Gl X x)(hm:X.mg x=none)(hv:bootBuiltins x=some (.type T))(ha:PA X (e::es) t)(hn:x ≠ "__name__" := by decide)(hdb:(x == ("__debug__" : Str))=false:=by decide)
  (he:starEach (e::es) X.env=(false,eval e X.env)::starEach es X.env:=by rfl) (Iz:(backTo pos (starEach es X.env)).any (·.1)=false:=by rfl):PE X (.Call (.Name x p) (e::es) [] pos) (tCB r t):=by
 intro XB s Z H Q I h;refine wpAny_Call_Name_kw (Du I hg hm hv ?_ hn hdb);exact callWith_type1 (Z3 (ha pos XB s Z H _ I h) fun us s1 ⟨vs,H1,I1,r1,q1⟩=>hc XB s1 Z H1 vs us Q I1 r1 q1) he Iz
end
end L2
namespace HT
open PySem PyProof.Rows
section
open PySem.SeqAt
open PySem.AutoSeq1 (wpAny_loadPart')
open PySem.MeetsSeq PySem.MeetsSeq2 PySem.MeetsSeq3
end
section
variable{prog:Program}{w:World}{A:Around}{E:ZW}{s:Shared}
theorem Zz3{t b:Addr}{vs ws:ZM}{Q:ZW}(ht:IsTup s.heap t vs.toArray)(hb:IsTup s.heap b ws.toArray)(hv:vs≠[])
  (h1:ws=[]->Q (.ref t) s) (h2:ws≠[]->Q (.ref s.heap.objs.size) { s with heap:=s.heap.push { cls:=.type "tuple",data:=.seq (vs++ws).toArray } })
  (hsz:vs.length+ws.length<=sizeLine):wpAny (model prog w) A (binaryOp .Add (.ref t) (.ref b)) Q E s:=by
 obtain⟨⟨cls,dd,data,sl⟩,ho,hc,n,hd⟩:=id ht;obtain⟨⟨cls2,dd2,data2,sl2⟩,M7,hc2,n2,hd2⟩:=id hb;simp only at hc hd hc2 hd2;subst hc hd hc2 hd2;have e:vs.toArray++ws.toArray=(vs++ws).toArray:=by simp
 by_cases hw:ws=[]
 .exact concat_meets ⟨_,ho,rfl⟩ ⟨_,M7,rfl⟩ noFill_tuple_add seq_tuple_add PySem.F.slot_tuple_add PySem.F.entry_tuple_add (PySem.F.args_tuple_add_2 _ _)
   (tuple_addW1 t b vs.toArray ws.toArray n n2 dd dd2 sl sl2 (by simpa using hv) (by simp[hw])) ⟨ho,M7,h1 hw⟩
 .refine concat_meets ⟨_,ho,rfl⟩ ⟨_,M7,rfl⟩ noFill_tuple_add seq_tuple_add PySem.F.slot_tuple_add PySem.F.entry_tuple_add (PySem.F.args_tuple_add_2 _ _)
   (tuple_addW2 t b vs.toArray ws.toArray n n2 dd dd2 sl sl2 (by simpa using hv) (by simpa using hw) (by rw[Vi,Vi];exact hsz)) ⟨ho,M7, ?_⟩
  rw[e];exact h2 hw
noncomputable def Yl(n d:Nat):ZR->Nat
 | none=>d
 | some v=>if v<0 then (v+(n:Int)).toNat else min v.toNat n
theorem W8(n d k:Nat):Yl n d (some (k:Int))=min k n:=by
 show (if (k:Int)<0 then ((k:Int)+(n:Int)).toNat else min (k:Int).toNat n)=min k n;rw[if_neg (by omega),XG]
theorem sIx_le(n d:Nat)(hd:d<=n)(o:ZR):Yl n d o<=n:=by
 cases o with
 | none=>exact hd
 | some v =>
  show (if v<0 then (v+(n:Int)).toNat else min v.toNat n)<=n;by_cases hv:v<0
  .rw[if_pos hv];omega
  .rw[if_neg hv];exact Nat.min_le_right _ _
theorem Ip(v:Int)(n d:Nat):(if v<0 then max (v+(n:Int)) 0 else min v (n:Int))=((Yl n d (some v):Nat):Int):=by
 show (if v<0 then max (v+(n:Int)) 0 else min v (n:Int))=(((if v<0 then (v+(n:Int)).toNat else min v.toNat n):Nat):Int);by_cases hv:v<0
 .simp only[if_pos hv];omega
 .simp only[if_neg hv];omega
theorem Kc(lo hi:ZR)(n:Nat):Builtin.Slice.sliceAdjust lo hi 1 (n:Int)=(((Yl n 0 lo:Nat):Int),((Yl n n hi:Nat):Int)):=by
 have h1:¬ ((1:Int)<0):=by omega
 unfold Builtin.Slice.sliceAdjust;simp only[h1,if_false];refine Prod.ext ?_ ?_
 .cases lo with
  | none=>rfl
  | some v=>exact Ip v n 0
 .cases hi with
  | none=>rfl
  | some v=>exact Ip v n n
theorem Ed(i j:Nat):Builtin.Slice.slicePlaces (i:Int) (j:Int) 1=j - i:=by
 unfold Builtin.Slice.slicePlaces;have h1:(1:Int)>0:=by omega
 simp only[h1,if_true,Int.ediv_one]
 split<;>omega
theorem Tc{v:Value}{o:ZR}{Q:ZR->Shared->Prop}(p:IsPart v o)(h:Q o s):wpAny (model prog w) A (Builtin.Slice.slicePartIndex v) Q E s:=by
 cases p with
 | none=>exact slicePart_none h
 | int i t=>exact slicePart_int h
theorem U0{sl:Addr}{vl vu:Value}{lo hi:ZR}{n:Nat}{Q:Int×Int×Nat->Shared->Prop}(hs:s.heap.IsSliceOf sl vl vu .none)(pl:IsPart vl lo)(pu:IsPart vu hi)
  (h:Q (((Yl n 0 lo:Nat):Int),1,Yl n n hi - Yl n 0 lo) s):wpAny (model prog w) A (Builtin.Slice.sliceApplied (.ref sl) (pure (n:Int))) Q E s:=by
 obtain⟨os,hos,hcs,hds⟩:=id hs;unfold Builtin.Slice.sliceApplied Builtin.Slice.sliceFields;refine Zv (Zv (wpAny_field hos hds (x:=vl) rfl (Zv (wpAny_field hos hds (x:=vu) rfl (Zv (wpAny_field hos hds (x:=.none) rfl (Yt ?_)))))));refine Zv (slicePart_none ?_);show wpAny _ _ (if ((1:Int) == 0)=true then _ else _) _ _ s;rw[if_neg (by decide)];refine Zv (Tc pl (Zv (Tc pu (Zv (Yt ?_)))));show wpAny _ _ (match Builtin.Slice.sliceAdjust lo hi 1 (n:Int) with | (lo,hi)=>pure (lo,(1:Int),Builtin.Slice.slicePlaces lo hi 1)) _ _ s;rw[Kc lo hi n];show wpAny _ _ (pure (((Yl n 0 lo:Nat):Int),(1:Int),Builtin.Slice.slicePlaces ((Yl n 0 lo:Nat):Int) ((Yl n n hi:Nat):Int) 1)) _ _ s;rw[Ed];exact Yt h
theorem k8(xs:ZN)(i k:Nat):((List.range k).filterMap fun(m:Nat)=>xs[((i:Int)+(m:Int) * 1).toNat]?).toArray=((xs.toList.drop i).take k).toArray:=by
 have e:(fun(m:Nat)=>xs[((i:Int)+(m:Int) * 1).toNat]?)=fun m=>xs[i+m]?:=by
  funext m
  have:((i:Int)+(m:Int) * 1).toNat=i+m:=by omega
  rw[this]
 rw[e];have:=pick_run xs i k;rw[List.filterMap_map]at this;have e2:((fun x=>xs[x]?) ∘ fun x=>i+x)=fun m=>xs[i+m]?:=rfl;rw[e2]at this;rw[this]
theorem Mn{t sl:Addr}{items:ZN}{vl vu:Value}{lo hi:ZR}{Q:ZW}(ht:IsTup s.heap t items)(hs:s.heap.IsSliceOf sl vl vu .none)(pl:IsPart vl lo)(pu:IsPart vu hi)
  (hw:¬ (Yl items.size 0 lo=0/\Yl items.size items.size hi=items.size))
  (h:Q (.ref s.heap.objs.size) { s with heap:=s.heap.push { cls:=.type "tuple",data:=.seq ((items.toList.drop (Yl items.size 0 lo)).take (Yl items.size items.size hi - Yl items.size 0 lo)).toArray } })
  (hsz:items.size<=sizeLine):wpAny (model prog w) A (getItem (.ref t) (.ref sl)) Q E s:=by
 have A9:sizeOk (.seq ((items.toList.drop (Yl items.size 0 lo)).take (Yl items.size items.size hi - Yl items.size 0 lo)).toArray):=by
  show ((items.toList.drop (Yl items.size 0 lo)).take (Yl items.size items.size hi - Yl items.size 0 lo)).toArray.size<=sizeLine;rw[Vi,L0t,List.length_drop,qp];omega
 have hj:Yl items.size items.size hi<=items.size:=sIx_le _ _ (Yg _) hi;obtain⟨os,hos,hcs,hds⟩:=id hs;have hTs:s.TypeIs (.ref sl) "slice" := ⟨os,hos,hcs⟩;unfold getItem
 try with_reducible refine wpAny_holding ?_
 first | refine Zv (Yt ?_) | skip
 refine Zv (wpAny_sequenceKey ht.typeIs (by decide) ?_)
 refine Zv (wpAny_callSpecial?_slot (name:=Str.ofString "__getitem__") ht.typeIs slot_tuple_getitem
  (wpAny_call_entry slot_tuple_getitem ht.typeIs entry_tuple_getitem ?_ (args_tuple_getitem _ _)))
 show wpAny _ _ (Builtin.Tuple.tupleItemsOf (.ref t) >>= _) _ _ s;refine Zv (tupleItemsOf_ ht ?_);refine Zv (wpAny_typeOf hTs ?_);rw[if_pos (by decide)];refine Zv (U0 hs pl pu ?_)
 have hno:¬ ((((Yl items.size 0 lo:Nat):Int) == 0 && (1:Int) == 1 && (Yl items.size items.size hi - Yl items.size 0 lo) == items.size)=true):=by
  intro q;rw[Y6,Y6]at q;have q1:((Yl items.size 0 lo:Nat):Int)=0:=eq_of_beq q.1.1;have q2:Yl items.size items.size hi - Yl items.size 0 lo=items.size:=eq_of_beq q.2;exact hw ⟨by omega,by omega⟩
 show wpAny _ _ (if (((Yl items.size 0 lo:Nat):Int) == 0 && (1:Int) == 1 && (Yl items.size items.size hi - Yl items.size 0 lo) == items.size)=true then _ else _) _ _ s;rw[if_neg hno,k8]
 first
  | exact Zv (m:=Builtin.Tuple.tupleExact _) (wpAny_newObj_type (Yt ⟨_,rfl,Yt h⟩) A9)
  | exact Zv (m:=Builtin.Tuple.tupleExact _) (wpAny_newObj_type (Zv (Yt (Yt ⟨_,rfl,Yt h⟩))) A9)
  | exact Zv (Zv (m:=Builtin.Tuple.tupleExact _) (wpAny_newObj_type (Yt (Yt ⟨_,rfl,Yt h⟩)) A9))
  | exact Zv (Zv (m:=Builtin.Tuple.tupleExact _) (wpAny_newObj_type (Yt ⟨_,rfl,Yt h⟩) A9))
end
end HT
namespace L2
open PySem PySem.Spec PyProof.Rows
abbrev TO:=St->Hp->(ZR->Hp->Prop)->Prop
def PO(X:Cx)(e:Option Expr)(t:TO):Prop :=
 ∀(XB:ZY) (s:Shared) (Z:St) (H:Hp) (Q:ZR->Hp->Prop),Inv X XB Z H s->t Z H Q ->
  wpAny (model X.prog X.w) X.A (evalPart e X.env) (fun u s'=>∃o H',Inv X XB Z H' s'/\IsPart u o/\Q o H') X.xe s
def rl:TO:=fun _ H Q=>Q none H
inductive K8(Q:(ZR->Hp->Prop))(x:V)(H1:Hp):Prop
 | mk(i)(Yh:x=.int i)(Ys:Q (some i) H1):K8 Q x H1
def tPart(t:TE):TO:=fun Z H Q=>t Z H fun x H1=>K8 Q x H1
theorem intsAre_of{ns:ZL}:∀{us:ZM},Zw (ns.map V.int) us->IntsAre us ns:=by
 induction ns with
 | nil=>intro us r;rw[List.map_nil]at r;cases r;exact .nil
 | cons n ns ih =>
  intro us r;rw[C8]at r;cases r with
  | cons r1 r2 =>
   obtain⟨t,e⟩:=r1;subst e;exact .cons n t (ih r2)
section
variable{X:Cx}{e:Expr}{te:TE}{lo hi:Option Expr}{tl th:TO}{pos p2:Pos}
theorem Ay:PO X none rl:=by
 intro XB s Z H Q I h;rw[evalPart_none];exact Yt ⟨none,H,I,.none,h⟩
theorem Av(h:PE X e te):PO X (some e) (tPart te):=by
 intro XB s Z H Q I hw;rw[evalPart_some];refine Z3 (h XB s Z H _ I hw) fun u s1 ⟨x,H1,I1,r1,q1⟩=>?_;obtain⟨i,rfl,q⟩:=q1;obtain⟨t,rfl⟩:=r1;exact⟨some i,H1,I1,.int i t,q⟩
def SlR(X:Cx)(r:V->ZR->ZR->Hp->VK->Prop):Prop :=
 ∀(XB:ZY) (s:Shared) (Z:St) (H:Hp) (x:V) (v vl vu:Value) (lo hi:ZR) (sl:Addr) (Q:VK),Inv X XB Z H s->RelV x v->s.heap.IsSliceOf sl vl vu .none->IsPart vl lo->IsPart vu hi->r x lo hi H Q ->
  ∃T id,typeLookup (.type T) "__getitem__" = pure (some (.builtin id))/\s.TypeIs v T/\wpAny (model X.prog X.w) X.A (getItem v (.ref sl)) (EP X XB Z Q) X.xe s
def tSl(r:V->ZR->ZR->Hp->VK->Prop)(te:TE)(tl th:TO):TE:=fun Z H Q=>te Z H fun x H1=>tl Z H1 fun l H2=>th Z H2 fun u H3=>r x l u H3 Q
theorem Q1{r:V->ZR->ZR->Hp->VK->Prop}(hr:SlR X r)(he:PE X e te)(hl:PO X lo tl)(hu:PO X hi th):PE X (.Subscript e (.Slice lo hi none p2) pos) (tSl r te tl th):=by
 intro XB s Z H Q I h;refine Subscript_ (Z3 (he XB s Z H _ I h) fun v s1 ⟨x,H1,I1,r1,q1⟩=>?_);refine wpAny_Slice (Z3 (hl XB s1 Z H1 _ I1 q1) fun vl s2 ⟨l,H2,I2,pl,q2⟩=>Z3 (hu XB s2 Z H2 _ I2 q2) fun vu s3 ⟨u,H3,I3,pu,q3⟩=>?_);rw[evalPart_none];refine Yt ?_;have I4:Inv X XB Z H3 { s3 with heap:=s3.heap.push { cls:=.type "slice",data:=.fields #[vl,vu,.none] } }:=I3.kept (t':=s3.toks) fun b ob q=>Y9 _ q;obtain⟨T,id,hT,ht,hg⟩:=hr XB { s3 with heap:=s3.heap.push { cls:=.type "slice",data:=.fields #[vl,vu,.none] } } Z H3 x v vl vu l u s3.heap.objs.size Q I4 r1 (Heap.IsSliceOf.new ..) pl pu q3;show wpAny (model X.prog X.w) X.A (subscriptTail e (.Slice lo hi none p2) v (.ref s3.heap.objs.size)) (EP X XB Z Q) X.xe { s3 with heap:=s3.heap.push { cls:=.type "slice",data:=.fields #[vl,vu,.none] } };exact tail_any (ops:=[.ref s3.heap.objs.size,v]) ht hT hg (by with_unfolding_all rfl)
noncomputable def Cy(xs:ZQ)(lo hi:ZR):ZQ:=(xs.drop (HT.Yl xs.length 0 lo)).take (HT.Yl xs.length xs.length hi - HT.Yl xs.length 0 lo)
theorem Ul(xs:ZQ)(lo hi:ZR):(Cy xs lo hi).length<=xs.length:=by
 unfold Cy;rw[L0t,List.length_drop];omega
inductive ya(K:W.Frag)(x:V)(lo:ZR)(hi:ZR)(H:Hp)(Q:VK):Prop
 | mk(a xs)(Yh:x=.ref a)(Ys:Yu K H a xs)(Vt:¬ (HT.Yl xs.length 0 lo=0/\HT.Yl xs.length xs.length hi=xs.length))(C6:∀p,H p=none->Q (.ref p) (upd H p (.tup (Cy xs lo hi)))):ya K x lo hi H Q
def rSlT(K:W.Frag):V->ZR->ZR->Hp->VK->Prop:=fun x lo hi H Q=>ya K x lo hi H Q
theorem sl_tup:SlR X (rSlT X.K):=by
 intro XB s Z H x v vl vu lo hi sl Q I rx hs pl pu h;obtain⟨a,xs,rfl,hx,hw,q⟩:=h;cases rx;obtain⟨XD,r,ht,hz⟩:=I.tuple hx;have hlen:XD.toArray.size=xs.length:=by rw[Vi];exact r.length.symm
 refine⟨"tuple",_,slot_tuple_getitem.lookup,ht.typeIs, ?_⟩;refine HT.Mn ht hs pl pu (by rw[hlen];exact hw) ?_ (by rw[hlen];exact hz);rw[hlen];refine⟨.ref s.heap.objs.size,_,I.laid (t':=s.toks) (o:=.tup (Cy xs lo hi)) (fun b ob q=>Y9 _ q) (Yg _) ?_,rfl,q _ (I.hok.fresh (Yg _))⟩;exact⟨Ve (Ul xs lo hi) hz,_,(r.drop (HT.Yl xs.length 0 lo)).take (HT.Yl xs.length xs.length hi - HT.Yl xs.length 0 lo),Rl.new _ _⟩
inductive H0(K:W.Frag)(x:V)(y:V)(H:Hp)(Q:VK):Prop
 | mk(a b xs ys)(Yh:x=.ref a)(Ys:y=.ref b)(Vt:Yu K H a xs)(C6:Yu K H b ys)(xy:xs≠[])(h5_:xs.length+ys.length<=sizeLine)(h6_:(ys=[]->Q (.ref a) H))(h7_:(ys≠[]->∀p,H p=none->Q (.ref p) (upd H p (.tup (xs++ys))))):H0 K x y H Q
def rCatT(K:W.Frag):R2:=fun x y H Q=>H0 K x y H Q
theorem Zw.nil_iff{xs:ZQ}{us:ZM}(r:Zw xs us):us=[]↔xs=[]:=by
 cases r with
 | nil=>simp
 | cons _ _=>simp
theorem oh:Uo X (binaryOp .Add) (rCatT X.K):=by
 intro XB s Z H x y v u Q I rx ry h;obtain⟨a,b,xs,ys,rfl,rfl,ha,hb,hx,hz,q1,q2⟩:=h;cases rx;cases ry;obtain⟨XD,r1,p1,_⟩:=I.tuple ha;obtain⟨its2,r2,p2,_⟩:=I.tuple hb;refine HT.Zz3 p1 p2 (fun z=>hx (r1.nil_iff.mp z)) (fun z=>⟨.ref a,H,I,rfl,q1 (r2.nil_iff.mp z)⟩) (fun z=>?_) (by rw[<-r1.length, <-r2.length];exact hz);refine⟨.ref s.heap.objs.size,_,I.laid (t':=s.toks) (o:=.tup (xs++ys)) (fun b ob q=>Y9 _ q) (Yg _) ?_,rfl,q2 (fun w=>z (r2.nil_iff.mpr w)) _ (I.hok.fresh (Yg _))⟩;exact⟨by rw[Qz];exact hz,_,r1.append r2,Rl.new _ _⟩
end
noncomputable def Sv(n:Nat)(i:Int):ZH:=if 0<=i then (if i<n then some i.toNat else none) else if -(n:Int)<=i then some (i+n).toNat else none
noncomputable def Ci{Z:Type}(xs:List Z)(i:Int):Option Z:=(Sv xs.length i).bind fun j=>xs[j]?
theorem Lr{n:Nat}{i:Int}{j:Nat}(h:Sv n i=some j):seqIndex? i n=some j/\j<n/\-(n:Int)<=i/\i<n:=by
 unfold Sv at h;by_cases h0:0<=i
 .rw[if_pos h0]at h;by_cases h1:i<n
  .rw[if_pos h1]at h;have e:i.toNat=j:=G0 h;exact⟨by rw[seqIndex_of h0 h1,e],by omega,by omega,h1⟩
  .rw[if_neg h1]at h;cases h
 .rw[if_neg h0]at h;by_cases h1:-(n:Int)<=i
  .rw[if_pos h1]at h;have e:(i+n).toNat=j:=G0 h;exact⟨by rw[seqIndex_neg (by omega) h1,e],by omega,h1,by omega⟩
  .rw[if_neg h1]at h;cases h
theorem Fm{Z:Type}{xs:List Z}{i:Int}{v:Z}(h:Ci xs i=some v):∃j,seqIndex? i xs.length=some j/\xs[j]?=some v/\j<xs.length/\-(xs.length:Int)<=i/\i<xs.length:=by
 unfold Ci at h;cases e:Sv xs.length i with
 | none=>rw[e]at h;cases h
 | some j =>
  rw[e]at h;obtain⟨h1,h2,h3,h4⟩:=Lr e;exact⟨j,h1,h,h2,h3,h4⟩
def I8(b:Expr):Prop:=∀o i,subscripted b false o i=operate [o,i] (getItem o i)
def IxR(X:Cx)(r:R2):Prop :=
 ∀(value slice:Expr) (XB:ZY) (s:Shared) (Z:St) (H:Hp) (x y:V) (v u:Value) (Q:VK),Inv X XB Z H s->RelV x v->RelV y u->r x y H Q ->
  subscripted slice false v u=operate [v,u] (getItem v u)->wpAny (model X.prog X.w) X.A (subscriptTail value slice v u) (EP X XB Z Q) X.xe s
def MtR(X:Cx)(id:String)(r:V->ZQ->Hp->VK->Prop):Prop :=
 ∀(XB:ZY) (s:Shared) (Z:St) (H:Hp) (x:V) (xs:ZQ) (v:Value) (us:ZM) (Q:VK),Inv X XB Z H s->RelV x v->Zw xs us->r x xs H Q ->
  wpAny (model X.prog X.w) X.A (call (.builtin id) (v::us)) (EP X XB Z Q) X.xe s
section
variable{X:Cx}{a b:Expr}{ta tb:TE}{pos:Pos}
theorem pe_ix{r:R2}(hr:IxR X r)(ha:PE X a ta)(hb:PE X b tb)(hs:I8 b):PE X (.Subscript a b pos) (tOp r ta tb):=by
 intro XB s Z H Q I h;exact Subscript_ (binT ha hb I h fun v u s2 x y H2 I2 rx ry q=>hr a b XB s2 Z H2 x y v u Q I2 rx ry q (hs _ _))
inductive y4(K:W.Frag)(x:V)(y:V)(H:Hp)(Q:VK):Prop
 | mk(p xs i v)(Yh:x=.ref p)(Ys:y=.int i)(Vt:Vc K H p xs)(C6:Ci xs i=some v)(xy:Q v H):y4 K x y H Q
def rIxL(K:W.Frag):R2:=fun x y H Q=>y4 K x y H Q
inductive y2(K:W.Frag)(x:V)(y:V)(H:Hp)(Q:VK):Prop
 | mk(p xs i v)(Yh:x=.ref p)(Ys:y=.int i)(Vt:Yu K H p xs)(C6:Ci xs i=some v)(xy:Q v H):y2 K x y H Q
def rIxT(K:W.Frag):R2:=fun x y H Q=>y2 K x y H Q
inductive y3(x:V)(y:V)(H:Hp)(Q:VK):Prop
 | mk(z i c)(Yh:x=.str z)(Ys:y=.int i)(Vt:z.length<=sizeLine)(C6:Ci z.cps.toList i=some c)(xy:Q (.str ⟨#[c]⟩) H):y3 x y H Q
def rIxS:R2:=fun x y H Q=>y3 x y H Q
theorem i3:IxR X (rIxL X.K):=by
 intro value slice XB s Z H x y v u Q I rx ry h hs;obtain⟨p,xs,i,z,rfl,rfl,hq,he,q⟩:=h;cases rx;obtain⟨t,rfl⟩:=ry;obtain⟨XD,r,pl,hz⟩:=I.list hq;obtain⟨j,h1,h2,h3,h4,h5⟩:=Fm he;obtain⟨w,ew,W9⟩:=r.get h2;have hl:=r.length;have hn:=Ng;have fin:EP X XB Z Q w s:=⟨z,H,I,W9,q⟩;by_cases h0:0<=i
 .have hj:i.toNat=j:=by
   rw[seqIndex_of h0 h5]at h1;exact G0 h1
  exact item_listR pl.isList h0 (by omega) (by rw[hj];simpa using ew) fin hs
 .have hj:(i+(XD.toArray.size:Int)).toNat=j:=by
   rw[seqIndex_neg (by omega) h4]at h1;rw[Vi, <-hl];exact G0 h1
  exact subscriptTail_builtinR (x:=w) pl.isList.typeIs slot_list_getitem.lookup
   (wpAny_getItem_list_neg (Q:=fun r s'=>r=w/\EP X XB Z Q r s') pl.isList (by omega) (by rw[Vi]<;>omega) (by omega) (by rw[hj];simpa using ew) ⟨rfl,fin⟩) hs
theorem ix_tup:IxR X (rIxT X.K):=by
 intro value slice XB s Z H x y v u Q I rx ry h hs;obtain⟨p,xs,i,z,rfl,rfl,hq,he,q⟩:=h;cases rx;obtain⟨t,rfl⟩:=ry;obtain⟨XD,r,pl,hz⟩:=I.tuple hq;obtain⟨j,h1,h2,h3,h4,h5⟩:=Fm he;obtain⟨w,ew,W9⟩:=r.get h2;have hl:=r.length;have hn:=Ng;have fin:EP X XB Z Q w s:=⟨z,H,I,W9,q⟩
 exact subscriptTail_builtinR (x:=w) pl.typeIs slot_tuple_getitem.lookup
  (getItem_tuple (j:=j) (Q:=fun r s'=>r=w/\EP X XB Z Q r s') pl (by omega) (by omega) (by rw[Vi, <-hl];exact h1) (by simpa using ew) ⟨rfl,fin⟩) hs
theorem ix_str:IxR X rIxS:=by
 intro value slice XB s Z H x y v u Q I rx ry h hs;obtain⟨z,i,c,rfl,rfl,hz,he,q⟩:=h;obtain⟨t,rfl⟩:=rx;obtain⟨t',rfl⟩:=ry;obtain⟨j,h1,h2,h3,h4,h5⟩:=Fm he;have hl:z.cps.toList.length=z.length:=by simp[Str.length]
 rw[hl]at h1 h4 h5;have hn:=Ng
 exact tail_any (typeIs_str s z t) slot_str_getitem.lookup (getItem_str (c:=c) (by
  have e1:decide (i < -(2 ^ 63:Int))=false:=Dl (by omega);have e2:decide (i ≥ 2 ^ 63)=false:=Dl (by omega);rw[e1,e2,Bool.or_false]) (by rw[h1];simpa using h2) ⟨.str ⟨#[c]⟩,H,I.tok _,⟨_,rfl⟩,q⟩) hs
theorem Ep(XD:ZM)(n j:Nat)(u:Value):Obj.mapSeq (·.setIfInBounds j u) { cls:=.type "list",data:=.seq XD.toArray n }={ cls:=.type "list",data:=.seq (XD.set j u).toArray n }:=by
 simp[Obj.mapSeq]
theorem Inv.lst{XB:ZY}{Z:St}{H:Hp}{s:Shared}{p:Addr}{xs:ZQ}(I:Inv X XB Z H s)(h:H p=some (.lst xs)) :
  ∃(XD:ZM) (n:Nat),Zw xs XD/\s.heap.get? p=some { cls:=.type "list",data:=.seq XD.toArray n }/\xs.length<=sizeLine:=by
 obtain⟨z,XD,n,r,e⟩:=I.hok p _ h;exact⟨XD,n,r,e,z⟩
theorem Inv.lstUpd{XB:ZY}{Z:St}{H:Hp}{s:Shared}{p:Addr}{xs ys:ZQ}{XD its':ZM}{n n':Nat}{f:Obj->Obj}(I:Inv X XB Z H s)(h:H p=some (.lst xs))
  (ho:s.heap.get? p=some { cls:=.type "list",data:=.seq XD.toArray n }) (hf:f { cls:=.type "list",data:=.seq XD.toArray n }={ cls:=.type "list",data:=.seq its'.toArray n' }) (r:Zw ys its') (hz:ys.length<=sizeLine) (t:Nat) :
  Inv X XB Z (upd H p (.lst ys)) { s with heap:=s.heap.update p f,toks:=t }:=by
 have e:(s.heap.update p f).get? p=some { cls:=.type "list",data:=.seq its'.toArray n' }:=by
  rw[Heap.get?_update_self f ho (by rw[hf]<;>rfl),hf]
 refine I.write (x:=p) (e:=p) (by rw[h];trivial) (.inl rfl) (fun b u hb q=>(Heap.get?_update_other _ _ (Ne.symm hb)).trans q) ⟨_,e⟩ ?_;exact⟨hz,its',n',r,e⟩
inductive Hi(o:V)(i:V)(v:V)(H:Hp)(Q:(Hp->Prop)):Prop
 | mk(p xs k j)(Yh:o=.ref p)(Ys:i=.int k)(Vt:H p=some (.lst xs))(C6:Sv xs.length k=some j)(xy:Q (upd H p (.lst (xs.set j v)))):Hi o i v H Q
def rSetL:V->V->V->Hp->(Hp->Prop)->Prop:=fun o i v H Q=>Hi o i v H Q
theorem set_list:PSet X rSetL:=by
 intro XB s Z H o i v ov iv u Q I ro ri rv h;obtain⟨p,xs,k,j,rfl,rfl,hp,hj,q⟩:=h;cases ro;obtain⟨t,rfl⟩:=ri;obtain⟨XD,n,r,ho,hz⟩:=I.lst hp;obtain⟨h1,h2,h3,h4⟩:=Lr hj;have hl:=r.length;have hn:=Ng
 have I':Inv X XB Z (upd H p (.lst (xs.set j v))) { s with heap:=s.heap.update p (Obj.mapSeq (·.setIfInBounds j u)) } :=
  I.lstUpd hp ho (Ep XD n j u) (r.set rv j) (by rw[XY];exact hz) s.toks
 by_cases h0:0<=k
 .have hk:k.toNat=j:=by
   rw[seqIndex_of h0 h4]at h1;exact G0 h1
  exact W.ki_setAt ho h0 (by omega) (by rw[Vi, <-hl];exact h4) (by rw[hk];exact⟨_,I',q⟩)
 .have hk:(k+(XD.toArray.size:Int)).toNat=j:=by
   rw[seqIndex_neg (by omega) h3]at h1;rw[Vi, <-hl];exact G0 h1
  exact W.ki_setBack ho (by omega) (by rw[Vi, <-hl];exact h3) (by omega) (by rw[hk];exact⟨_,I',q⟩)
theorem W6(lo hi:ZR)(n:Nat):(sliceBounds lo hi none n).1=((HT.Yl n 0 lo:Nat):Int)/\(sliceBounds lo hi none n).2.1=((HT.Yl n n hi:Nat):Int)/\(sliceBounds lo hi none n).2.2=1:=by
 refine⟨?_, ?_,rfl⟩
 .cases lo with
  | none=>simp[sliceBounds,HT.Yl]
  | some i =>
   simp only[sliceBounds,HT.Yl,Option.getD_none,show (1:Int)>0 by decide,if_true];by_cases h:i<0
   .simp only[h,if_true]<;>omega
   .simp only[h,if_false]<;>omega
 .cases hi with
  | none=>simp[sliceBounds,HT.Yl]
  | some i =>
   simp only[sliceBounds,HT.Yl,Option.getD_none,show (1:Int)>0 by decide,if_true];by_cases h:i<0
   .simp only[h,if_true]<;>omega
   .simp only[h,if_false]<;>omega
theorem Rx(XD:ZM)(lo hi:ZR):slicePick XD.toArray lo hi none=((XD.drop (HT.Yl XD.length 0 lo)).take (HT.Yl XD.length XD.length hi - HT.Yl XD.length 0 lo)).toArray:=by
 obtain⟨h1,h2,h3⟩:=W6 lo hi XD.toArray.size;unfold slicePick;rw[h1,h2,h3];simp only[sliceRange_one,pick_run,Vi]<;>rfl
inductive yo(K:W.Frag)(x:V)(lo:ZR)(hi:ZR)(H:Hp)(Q:VK):Prop
 | mk(a xs)(Yh:x=.ref a)(Ys:Vc K H a xs)(Vt:∀p,H p=none->Q (.ref p) (upd H p (.lst (Cy xs lo hi)))):yo K x lo hi H Q
def rSlL(K:W.Frag):V->ZR->ZR->Hp->VK->Prop:=fun x lo hi H Q=>yo K x lo hi H Q
theorem p7:SlR X (rSlL X.K):=by
 intro XB s Z H x v vl vu lo hi sl Q I rx hs pl pu h;obtain⟨a,xs,rfl,hx,q⟩:=h;cases rx;obtain⟨XD,r,ht,hz⟩:=I.list hx;have hlen:=r.length;refine⟨"list",_,slot_list_getitem.lookup,ht.isList.typeIs, ?_⟩;refine wpAny_getItem_list_slice ht.isList hs pl pu .none (by simp) ?_ (by rw[Vi]<;>omega);rw[Rx, <-hlen];refine⟨.ref s.heap.objs.size,_,I.laid (t':=s.toks) (o:=.lst (Cy xs lo hi)) (fun b ob q=>Y9 _ q) (Yg _) ?_,rfl,q _ (I.hok.fresh (Yg _))⟩;exact⟨Ve (Ul xs lo hi) hz,_,0,(r.drop (HT.Yl xs.length 0 lo)).take (HT.Yl xs.length xs.length hi - HT.Yl xs.length 0 lo),Dj _ rfl⟩
def V6:V->Bool
 | .non=>true
 | .bl _=>true
 | .int _=>true
 | .str _=>true
 | _=>false
noncomputable def di:V->V->Bool
 | .non,.non=>true
 | .bl a,.bl b=>a == b
 | .bl a,.int b=>(if a then 1 else 0) == b
 | .int a,.bl b=>a == (if b then 1 else 0)
 | .int a,.int b=>a == b
 | .str a,.str b=>a == b
 | _,_=>false
theorem tz{A:Around}{s:Shared}{y x:V}{u v:Value}(ry:RelV y u)(rx:RelV x v)(fy:V6 y=true)(fx:V6 x=true):SeqAt.EqAt A s u v (di y x):=by
 cases y with
 | non =>
  cases ry;cases x with
  | non=>cases rx;exact SeqAt.EqAt.same _
  | bl b=>cases rx;exact SeqAt.EqAt.none_bool b
  | int b=>obtain⟨t,rfl⟩:=rx;exact SeqAt.EqAt.none_int b t
  | str b=>obtain⟨t,rfl⟩:=rx;exact SeqAt.EqAt.none_str b t
  | _=>exact absurd (show false=true from fx) D2
 | bl a =>
  cases ry;cases x with
  | non=>cases rx;exact SeqAt.EqAt.bool_none a
  | bl b=>cases rx;exact SeqAt.EqAt.bool_bool a b
  | int b=>obtain⟨t,rfl⟩:=rx;exact SeqAt.EqAt.bool_int a b t
  | str b=>obtain⟨t,rfl⟩:=rx;exact SeqAt.EqAt.bool_str a b t
  | _=>exact absurd (show false=true from fx) D2
 | int a =>
  obtain⟨t',rfl⟩:=ry;cases x with
  | non=>cases rx;exact SeqAt.EqAt.int_none a t'
  | bl b=>cases rx;exact SeqAt.EqAt.int_bool a t' b
  | int b=>obtain⟨t,rfl⟩:=rx;exact SeqAt.EqAt.int_int a t' b t
  | str b=>obtain⟨t,rfl⟩:=rx;exact SeqAt.EqAt.int_str a t' b t
  | _=>exact absurd (show false=true from fx) D2
 | str a =>
  obtain⟨t',rfl⟩:=ry;cases x with
  | non=>cases rx;exact SeqAt.EqAt.str_none a t'
  | bl b=>cases rx;exact SeqAt.EqAt.str_bool a t' b
  | int b=>obtain⟨t,rfl⟩:=rx;exact SeqAt.EqAt.str_int a t' b t
  | str b=>obtain⟨t,rfl⟩:=rx;exact SeqAt.EqAt.str_str a t' b t
  | _=>exact absurd (show false=true from fx) D2
 | _=>exact absurd (show false=true from fy) D2
noncomputable def E3(x:V)(u:Value):Bool:=match u with
 | .none=>di .non x
 | .bool b=>di (.bl b) x
 | .int i _=>di (.int i) x
 | .str z _=>di (.str z) x
 | _=>false
theorem de{x y:V}{u:Value}(r:RelV y u)(f:V6 y=true):E3 x u=di y x:=by
 cases y with
 | non=>cases r;rfl
 | bl b=>cases r;rfl
 | int i=>obtain⟨t,rfl⟩:=r;rfl
 | str z=>obtain⟨t,rfl⟩:=r;rfl
 | _=>exact absurd (show false=true from f) D2
theorem M3{x:V}:∀{xs:ZQ} {us:ZM},Zw xs us->xs.all V6=true->us.any (E3 x)=xs.any fun y=>di y x
 | _,_,.nil,_=>rfl
 | y::xs,u::us,.cons r t,f=>by
  rw[List.all_cons,Y6]at f;rw[List.any_cons,List.any_cons,de r f.1,M3 t f.2]
theorem Gv{A:Around}{s:Shared}{x:V}{v:Value}(rx:RelV x v)(fx:V6 x=true):∀{xs:ZQ} {us:ZM},Zw xs us->xs.all V6=true->∀u∈us,SeqAt.EqAt A s u v (E3 x u)
 | _,_,.nil,_=>fun u hu=>by cases hu
 | y::xs,u::us,.cons r t,f=>fun u' hu=>by
  rw[List.all_cons,Y6]at f;rcases Yw.mp hu with rfl | hu
  .rw[de r f.1];exact tz r rx f.1 fx
  .exact Gv rx fx t f.2 u' hu
noncomputable def inV(x:V)(xs:ZQ):Bool:=xs.any fun y=>di y x
inductive Zxm(K:W.Frag)(neg:Bool)(x:V)(y:V)(H:Hp)(Q:VK):Prop
 | mk(p xs)(Yh:y=.ref p)(Ys:(Vc K H p xs\/Yu K H p xs))(Vt:V6 x=true)(C6:xs.all V6=true)(xy:Q (.bl (if neg then !inV x xs else inV x xs)) H):Zxm K neg x y H Q
def rIn(K:W.Frag)(neg:Bool):R2:=fun x y H Q=>Zxm K neg x y H Q
theorem zg:Uo X (compareOp .In) (rIn X.K false):=by
 intro XB s Z H x y v u Q I rx ry h;obtain⟨p,xs,rfl,hq,fx,fs,q⟩:=h;cases ry;rcases hq with hq | hq
 .obtain⟨XD,r,pl,hz⟩:=I.list hq;refine SeqAt.in_listAt (E3 x) pl.isList (fun w hw=>Gv rx fx r fs w (by simpa using hw)) ⟨.bl _,H,I,rfl, ?_⟩;rw[show XD.toArray.any (E3 x)=XD.any (E3 x) by simp,M3 r fs];exact q
 .obtain⟨XD,r,pl,hz⟩:=I.tuple hq;refine SeqAt.in_tupleAt (E3 x) pl (fun w hw=>Gv rx fx r fs w (by simpa using hw)) ⟨.bl _,H,I,rfl, ?_⟩;rw[show XD.toArray.any (E3 x)=XD.any (E3 x) by simp,M3 r fs];exact q
theorem Lg:Uo X (compareOp .NotIn) (rIn X.K true):=by
 intro XB s Z H x y v u Q I rx ry h;obtain⟨p,xs,rfl,hq,fx,fs,q⟩:=h;cases ry;rcases hq with hq | hq
 .obtain⟨XD,r,pl,hz⟩:=I.list hq;refine SeqAt.notIn_listAt (E3 x) pl.isList (fun w hw=>Gv rx fx r fs w (by simpa using hw)) ⟨.bl _,H,I,rfl, ?_⟩;rw[show XD.toArray.any (E3 x)=XD.any (E3 x) by simp,M3 r fs];exact q
 .obtain⟨XD,r,pl,hz⟩:=I.tuple hq;refine SeqAt.notIn_tupleAt (E3 x) pl (fun w hw=>Gv rx fx r fs w (by simpa using hw)) ⟨.bl _,H,I,rfl, ?_⟩;rw[show XD.toArray.any (E3 x)=XD.any (E3 x) by simp,M3 r fs];exact q
inductive Gd(K:W.Frag)(xs:ZQ)(H:Hp)(Q:VK):Prop
 | mk(p ys)(Yh:xs=[.ref p])(Ys:(Vc K H p ys\/Yu K H p ys))(Vt:Q (.int ys.length) H):Gd K xs H Q
theorem Mu:Yk X (.builtin "len") (fun xs H Q=>Gd X.K xs H Q):=by
 intro XB s Z H xs us Q I r h;obtain⟨p,ys,rfl,hq,q⟩:=h;obtain⟨u,rfl,rx⟩:=vals1 r;cases rx;have hn:=Ng;rcases hq with hq | hq
 .obtain⟨XD,r',pl,hz⟩:=I.list hq;have hlen:=r'.length;exact Calls.call_len_list pl.isList (by simp only[Vi]<;>omega) ⟨.int ys.length,H,I.tok _,⟨s.toks+1,by rw[Vi,hlen]⟩,q⟩
 .obtain⟨XD,r',pl,hz⟩:=I.tuple hq;have hlen:=r'.length;exact len_tuple pl (by simp only[Vi]<;>omega) ⟨.int ys.length,H,I.tok _,⟨s.toks+1,by rw[Vi,hlen]⟩,q⟩
inductive Gm(K:W.Frag)(xs:ZQ)(H:Hp)(Q:VK):Prop
 | mk(p ys)(Yh:xs=[.ref p])(Ys:(Vc K H p ys\/Yu K H p ys))(Vt:∀l,H l=none->Q (.ref l) (upd H l (.lst ys))):Gm K xs H Q
theorem Fv:Yk X (.type "list") (fun xs H Q=>Gm X.K xs H Q):=by
 intro XB s Z H xs us Q I r h;obtain⟨p,ys,rfl,hq,q⟩:=h;obtain⟨u,rfl,rx⟩:=vals1 r;cases rx
 have fin:∀(XD:ZM),Zw ys XD->ys.length<=sizeLine->∀(h':Heap) (c':Nat),(∀b o',s.heap.get? b=some o'->h'.get? b=some o') ->
   h'.get? s.heap.objs.size=some { cls:=.type "list",dict:=none,data:=.seq XD.toArray c',slots:=#[] }->EP X XB Z Q (.ref s.heap.objs.size) { s with heap:=h' }:=fun XD r' hz h' c' kp e =>
  ⟨.ref s.heap.objs.size,_,I.laid (t':=s.toks) kp (Yg _) (show Za X.prog X.w _ h' _ (.lst ys) from⟨hz,XD,c',r',e⟩),rfl,q _ (I.hok.fresh (Yg _))⟩
 rcases hq with hq | hq
 .obtain⟨XD,r',pl,hz⟩:=I.list hq;have hlen:=r'.length;obtain⟨o,ho,hc,n,hd⟩:=pl.isList;exact call_list_seq p (.inl rfl) ho hc hd (fun h' c' kp e=>fin XD r' hz h' c' kp e) (by simp only[Vi]<;>omega)
 .obtain⟨XD,r',pl,hz⟩:=I.tuple hq;have hlen:=r'.length;obtain⟨o,ho,hc,n,hd⟩:=pl;exact call_list_seq p (.inr rfl) ho hc hd (fun h' c' kp e=>fin XD r' hz h' c' kp e) (by simp only[Vi]<;>omega)
inductive Ji(K:W.Frag)(xs:ZQ)(H:Hp)(Q:VK):Prop
 | mk(p ys)(Yh:xs=[.ref p])(Ys:((Vc K H p ys/\∀l,H l=none->Q (.ref l) (upd H l (.tup ys)))\/(Yu K H p ys/\Q (.ref p) H))):Ji K xs H Q
theorem Rm:Yk X (.type "tuple") (fun xs H Q=>Ji X.K xs H Q):=by
 intro XB s Z H xs us Q I r h;obtain⟨p,ys,rfl,h⟩:=h;obtain⟨u,rfl,rx⟩:=vals1 r;cases rx;rcases h with ⟨hq,q⟩ | ⟨hq,q⟩
 .obtain⟨XD,r',pl,hz⟩:=I.list hq;have hlen:=r'.length;refine call_tuple_list pl.isList (fun h' kp=>?_) (by simp only[Vi]<;>omega);have I1:Inv X XB Z H { s with heap:=h' }:=I.kept (t':=s.toks) kp
  have I2:Inv X XB Z (upd H h'.objs.size (.tup ys)) { s with heap:=h'.push { cls:=.type "tuple",data:=.seq XD.toArray } } :=
   I1.laid (t':=s.toks) (fun b o e=>Y9 _ e) (Yg _) (show Za X.prog X.w _ _ _ (.tup ys) from⟨hz,XD,r',Rl.new _ _⟩)
  exact⟨.ref h'.objs.size,_,I2,rfl,q _ (I1.hok.fresh (Yg _))⟩
 .obtain⟨XD,r',pl,hz⟩:=I.tuple hq;exact call_tuple_same pl ⟨.ref p,H,I,rfl,q⟩
def tyV(K:W.Frag)(T:String)(x:V)(H:Hp):Prop:=match x with
 | .str _=>T = "str"
 | .int _=>T = "int"
 | .ref p=>(T = "list" /\ ∃xs,Vc K H p xs)\/(T = "tuple" /\ ∃o,K.lookup p=some o/\o.cls=.type "tuple" /\ o.dict=none) \/
   (T = "dict" /\ ((∃XM,H p=some (.dK XM))\/∃XM,H p=some (.dT XM)))\/(T = "set" /\ ∃S n,H p=some (.set S n))
 | _=>False
theorem wb{XB:ZY}{Z:St}{H:Hp}{s:Shared}{T:String}{x:V}{v:Value}(I:Inv X XB Z H s)(r:RelV x v)(ty:tyV X.K T x H) :
  s.TypeIs v T/\∀a,v=.ref a->∃ob,s.heap.get? a=some ob/\ob.dict=none:=by
 cases x with
 | str z =>
  obtain⟨t,rfl⟩:=r;cases(show T = "str" from ty);exact⟨typeIs_str s z t,fun _ e=>nomatch e⟩
 | int i =>
  obtain⟨t,rfl⟩:=r;cases(show T = "int" from ty);exact⟨typeIs_int s i t,fun _ e=>nomatch e⟩
 | ref p =>
  cases r;rcases ty with ⟨rfl,xs,hq⟩ | ⟨rfl,o,hk,hc,hd⟩ | ⟨rfl,hk⟩ | ⟨rfl,S,n,hk⟩
  .obtain⟨XD,_,pl,_⟩:=I.list hq;refine⟨pl.isList.typeIs,fun a e=>?_⟩;cases e;obtain⟨o,n,e,c,hd,_⟩:=pl;exact⟨o,e,hd⟩
  .refine⟨⟨o,I.kIn p o hk,hc⟩,fun a e=>?_⟩;cases e;exact⟨o,I.kIn _ o hk,hd⟩
  .have z:∃o,s.heap.get? p=some o/\o.ExactDict:=by
    rcases hk with ⟨XM,hk⟩ | ⟨XM,hk⟩
    .obtain⟨_,_,_,_,o,_,_,e,ex,_⟩:=I.hok p _ hk;exact⟨o,e,ex⟩
    .obtain⟨_,_,_,_,o,_,_,e,ex,_⟩:=I.hok p _ hk;exact⟨o,e,ex⟩
   obtain⟨o,e,ex⟩:=z;refine⟨⟨o,e,ex.1⟩,fun a e2=>?_⟩;cases e2;exact⟨o,e,ex.2.1⟩
  .obtain⟨o,_,_,_,e,ex,_⟩:=I.hok p _ hk;refine⟨⟨o,e,ex.1⟩,fun a e2=>?_⟩;cases e2;exact⟨o,e,ex.2.1⟩
 | _=>exact False.elim ty
def tBM0(K:W.Frag)(T:String)(r:V->ZQ->Hp->VK->Prop)(to:TE):TE:=fun Z H Q=>to Z H fun x H1=>tyV K T x H1/\r x [] H1 Q
def tBM(K:W.Frag)(T:String)(r:V->ZQ->Hp->VK->Prop)(to:TE)(t:TA):TE:=fun Z H Q=>to Z H fun x H1=>tyV K T x H1/\t Z H1 fun xs H2=>r x xs H2 Q
variable{o e:Expr}{es:ZC}{to:TE}{t:TA}{name:Str}{apos cpos:Pos}{T id:String}{r:V->ZQ->Hp->VK->Prop}
theorem pe_bm0(pa:PlainAttrs T)(slot:Slot T name id)(hty:typeOf (.builtin id)=pure (.type "method_descriptor"))(hm:MtR X id r)(ho:PE X o to)
  (Gk:attributeBase o name X.env (eval o X.env)=eval o X.env:=by rfl) (Gy:(apos.endLine == cpos.line)=true:=by rfl):PE X (.Call (.Attribute o name apos) [] [] cpos) (tBM0 X.K T r to):=by
 intro XB s Z H Q I h;refine wpAny_Call_method0_late Gk Gy (Z3 (ho XB s Z H _ I h) fun v s1 ⟨x,H1,I1,r1,ty,q1⟩=>?_);obtain⟨h1,h2⟩:=wb I1 r1 ty;exact⟨T,id,pa,slot,hty,h1,h2,Calls.callWith_builtin rfl (PySem.evalArgs_none (hm XB s1 Z H1 x [] v [] Q I1 r1 .nil q1))⟩
theorem Q4(pa:PlainAttrs T)(slot:Slot T name id)(hty:typeOf (.builtin id)=pure (.type "method_descriptor"))(hm:MtR X id r)(ho:PE X o to)(ha:PA X (e::es) t)
  (Gk:attributeBase o name X.env (eval o X.env)=eval o X.env:=by rfl)
  (hfew:((backTo cpos (starEach (e::es) X.env)).all (fun x=>!x.1) && (backToKw cpos (keywordEach [] X.env)).all (fun x=>x.1.isSome)
   && decide ((e::es).length+([]:List Keyword).length+(if ([]:List Keyword).isEmpty then 0 else 1)<30))=true:=by rfl)
  (Gy:(apos.endLine == cpos.line)=true:=by rfl) (hs:starEach (e::es) X.env=(false,eval e X.env)::starEach es X.env:=by rfl) (hplain:(backTo cpos (starEach es X.env)).any (·.1)=false:=by rfl) :
  PE X (.Call (.Attribute o name apos) (e::es) [] cpos) (tBM X.K T r to t):=by
 intro XB s Z H Q I h;refine wpAny_Call_method_late Gk hfew Gy rfl (Z3 (ho XB s Z H _ I h) fun v s1 ⟨x,H1,I1,r1,ty,q1⟩=>?_);obtain⟨h1,h2⟩:=wb I1 r1 ty;refine⟨T,id,pa,slot,hty,h1,h2, ?_⟩;have hA:=ha cpos XB s1 Z H1 _ I1 q1;rw[hs]at hA ⊢;refine Calls.callWith_builtin (by show (false || (backTo cpos (starEach es X.env)).any (·.1))=false;rw[hplain]<;>rfl) (Calls.evalArgs_plain ?_);exact Z3 hA fun us s2 ⟨vs,H2,I2,r2,q2⟩=>hm XB s2 Z H2 x vs v us Q I2 r1 r2 q2
end
def MtM(X:Cx)(id:String)(r:V->ZQ->Hp->VK->Prop):Prop :=
 ∀(XB:ZY) (s:Shared) (Z:St) (H:Hp) (x:V) (xs:ZQ) (v:Value) (us:ZM) (Q:VK),Inv X XB Z H s->RelV x v->Zw xs us->r x xs H Q ->
  wpAny (model X.prog X.w) X.A (call (.builtin id) (v::us)) (EP X XB Z Q) X.xe s
theorem Zw.one:∀{x:V} {us:ZM},Zw [x] us->∃u,us=[u]/\RelV x u
 | _,_,.cons r .nil=>⟨_,rfl,r⟩
theorem Zw.eraseIdx:∀{xs:ZQ} {us:ZM} (i:Nat),Zw xs us->Zw (xs.eraseIdx i) (us.eraseIdx i)
 | _,_,_,.nil=>.nil
 | _,_,0,.cons _ t=>t
 | _,_,i+1,.cons r t=>.cons r (Zw.eraseIdx i t)
theorem Zw.rep{xs:ZQ}{us:ZM}(h:Zw xs us):∀k:Nat,Zw (List.replicate k xs).flatten (List.replicate k us).flatten
 | 0=>.nil
 | k+1=>by
  rw[List.replicate_succ,List.replicate_succ,List.flatten_cons,List.flatten_cons];exact Zw.append h (Zw.rep h k)
theorem Wq{Z:Type}:∀(l:List Z) (i:Nat),(l.eraseIdx i).length<=l.length
 | [],_=>Yg _
 | _::_,0=>Nat.le_succ _
 | _::r,i+1=>Nat.succ_le_succ (Wq r i)
theorem foldl_rep(XD:ZM):∀(k:Nat) (acc:ZM),
  List.foldl (fun x1 x2=>x1++x2) acc.toArray (List.replicate k XD.toArray)=(acc++(List.replicate k XD).flatten).toArray
 | 0,acc=>by simp
 | k+1,acc=>by
  have e:acc.toArray++XD.toArray=(acc++XD).toArray:=by simp
  have e2:(acc++XD)++(List.replicate k XD).flatten=acc++(List.replicate (k+1) XD).flatten:=by
   rw[List.replicate_succ,List.flatten_cons,XX]
  rw[<-e2, <-foldl_rep XD k (acc++XD), <-e,List.replicate_succ,List.foldl_cons]
section
variable{X:Cx}{XB:ZY}{Z:St}{H:Hp}{s:Shared}{l b:Addr}{xs ys zs:ZQ}
theorem Inv.lset{XD its':ZM}{n:Nat}{f:ZN->ZN}{t':Nat}(I:Inv X XB Z H s)(hH:H l=some (.lst xs))
  (e:s.heap.get? l=some { cls:=.type "list",data:=.seq XD.toArray n }) (hf:f XD.toArray=its'.toArray) (hv:Zw ys its') (hz:ys.length<=sizeLine) :
  Inv X XB Z (upd H l (.lst ys)) { s with heap:=s.heap.update l (Obj.mapSeq f),toks:=t' }:=by
 have q:=PySem.IsL.update e f;rw[hf]at q;refine I.write (x:=l) (e:=l) (by rw[hH];exact trivial) (.inl rfl) (fun b' u hb hu=>(Heap.get?_update_other s.heap (Obj.mapSeq f) (Ne.symm hb)).trans hu) ⟨_,q⟩ ?_;exact⟨hz,its',_,hv,q⟩
theorem Inv.lnew{XD:ZM}{t':Nat}(I:Inv X XB Z H s)(hv:Zw ys XD)(hz:ys.length<=sizeLine) :
  Inv X XB Z (upd H s.heap.objs.size (.lst ys)) { s with heap:=s.heap.push { cls:=.type "list",data:=.seq XD.toArray },toks:=t' } :=
 I.laid (fun _ _ q=>Y9 _ q) (Yg _) ⟨hz,XD,0,hv,Dj _ rfl⟩
theorem Inv.fresh(I:Inv X XB Z H s):H s.heap.objs.size=none:=I.hok.fresh (Yg _)
theorem Inv.lstM(I:Inv X XB Z H s)(hH:H l=some (.lst xs)):xs.length<=sizeLine/\∃(XD:ZM) (n:Nat),Zw xs XD/\xs.length=XD.length/\s.heap.get? l=some { cls:=.type "list",data:=.seq XD.toArray n }:=by
 obtain⟨z,XD,n,r,e⟩:=I.hok l _ hH;exact⟨z,XD,n,r,r.length,e⟩
theorem fu{n:Nat}(h:n<=sizeLine):Builtin.List.listTooLong n=false:=by
 unfold Builtin.List.listTooLong;exact Dl (by omega)
end
section
variable{X:Cx}
inductive R6(x:V)(vs:ZQ)(H:Hp)(Q:VK):Prop
 | mk(l xs y)(Yh:x=.ref l)(Ys:vs=[y])(Vt:H l=some (.lst xs))(C6:xs.length<sizeLine)(xy:Q .non (upd H l (.lst (xs++[y])))):R6 x vs H Q
def uh:V->ZQ->Hp->VK->Prop:=fun x vs H Q=>R6 x vs H Q
theorem Wx:MtM X "list.append" uh:=by
 intro XB s Z H x vs v us Q I rx rv h;obtain⟨l,xs,y,rfl,rfl,hH,hz,q⟩:=h;cases rx;obtain⟨u,rfl,ru⟩:=rv.one;obtain⟨z,XD,n,r,hl,e⟩:=I.lstM hH;refine call_meets F.slot_list_append ⟨_,e,rfl⟩ F.entry_list_append (F.args_list_append_2 _ _) (PySem.list_append l XD.toArray n u (by rw[Vi];omega)) ⟨e, ?_⟩;refine⟨.non,_,I.lset (its':=XD++[u]) hH e (by simp) (r.append (.cons ru .nil)) ?_,rfl,q⟩;rw[Qz,ZI];omega
inductive Qe(x:V)(vs:ZQ)(H:Hp)(Q:VK):Prop
 | mk(l xs i k y)(Yh:x=.ref l)(Ys:vs=[.int i])(Vt:H l=some (.lst xs))(C6:-(2 ^ 63)<=i)(xy:i<2 ^ 63)(h5_:seqIndex? i xs.length=some k)(h6_:xs[k]?=some y)(h7_:Q y (upd H l (.lst (xs.eraseIdx k)))):Qe x vs H Q
def rPopAt:V->ZQ->Hp->VK->Prop:=fun x vs H Q=>Qe x vs H Q
theorem bw:MtM X "list.pop" rPopAt:=by
 intro XB s Z H x vs v us Q I rx rv h;obtain⟨l,xs,i,k,y,rfl,rfl,hH,h1,h2,hk,hy,q⟩:=h;cases rx;obtain⟨u,rfl,ru⟩:=rv.one;obtain⟨t,rfl⟩:=ru;obtain⟨z,XD,n,r,hl,e⟩:=I.lstM hH;obtain⟨w,hw,W9⟩:=r.get hy
 refine call_meets F.slot_list_pop ⟨_,e,rfl⟩ F.entry_list_pop (F.args_list_pop_2 _ _)
  (MeetsSeq.list_pop_at l XD.toArray n i t k w (fitsIndex_both h1 h2) (by rw[Vi, <-hl];exact hk) (by rw[<-Array.getElem?_toList];exact hw) (by rw[Vi];omega)) ⟨e, ?_⟩
 refine⟨y,_,I.lset (its':=XD.eraseIdx k) hH e ?_ (r.eraseIdx k) ?_,W9,q⟩
 .show XD.toArray.eraseIdxIfInBounds k=(XD.eraseIdx k).toArray;rw[List.eraseIdxIfInBounds_toArray]
 .have:=Wq xs k;omega
theorem len_rep{Z:Type}(xs:List Z)(k:Nat):(List.replicate k xs).flatten.length=k * xs.length:=by
 induction k with
 | zero=>simp
 | succ k ih=>rw[List.replicate_succ,List.flatten_cons,Qz,ih,Nat.succ_mul,Nat.add_comm]
end
section
variable{prog:Program}{w:World}{A:Around}{E:ZW}{s:Shared}
end
section
variable{X:Cx}
end
end L2
namespace Att
open PySem PySem.W PySem.Calls PyProof.Rows
theorem Bs{P:Params}{h:Heap}:∀(ns:ZL) (vs:ZM),WellAll P h vs (ns.map WData.int)->IntsAre vs ns:=by
 intro ns
 induction ns with
 | nil =>
  intro vs w;rw[List.map_nil]at w;cases w;exact .nil
 | cons n ns ih =>
  intro vs w;rw[C8]at w;cases w with
  | cons a b =>
   cases a;exact .cons _ _ (ih _ b)
theorem Xs{l:OpenLaw}{n:Nat}(hn:l.most=some n){P:Params}{h:Heap}{args:List WData}{vals:ZM}
  (Zzx:l.row.toRowW.claim.pre args=true) (hwl:WellAll P h vals args) :
  ∃a vs ns,vals=[Value.ref a]/\args=[WData.list (ns.map WData.int)]/\h.get? a=some { cls:=.type "list",data:=.seq vs.toArray }/\IntsAre vs ns/\ns.length<=n:=by
 have hsh:WShape.hasAll [] args [.list .int]=true:=(pre_splitW Zzx).1;have hc:l.pre.holds [] { args:=args }=true:=(pre_splitW Zzx).2;obtain⟨d,r,rfl,h1,h2⟩:=hasAllW_cons hsh;obtain rfl:=hasAllW_nil h2;obtain⟨xs,rfl,h3⟩:=hasW_list h1;obtain⟨ns,rfl⟩:=items_int h3
 have hlen:ns.length<=n:=by
  unfold OpenLaw.pre at hc
  have h4:(WTm.not (.lt (.lit (.int (n:Int))) (.len (.arg 0)))).holds [] { args:=[.list (ns.map .int)] }=true:=by
   have h4:=(holds_andW hc).1;rw[hn]at h4;exact h4
  have h5:=condW_of h4 (w_not (w_lt w_lit (w_len_list (w_arg rfl))));rw[Yn]at h5;refine Nat.le_of_not_lt fun q=>?_;have q':(n:Int)<((ns.length:Nat):Int):=by omega
  first
   | (rw[Dw q']at h5;exact absurd h5 (by decide))
   | (simp at h5;omega)
 cases hwl with
 | cons w1 w2 =>
  cases w2;cases w1 with
  | list ho hall=>exact⟨_,_,ns,rfl,rfl,ho,Bs ns _ hall,hlen⟩
theorem X4(l:OpenLaw)(args:List WData):l.row.toRowW.claim.post args (.bool true) args=true :=
 postW_of (r:=l.row.toRowW) (X:=(true == true))
  (show WShape.has [] (.bool true) .bool=true by first | rfl | decide | simp[WShape.has,WShape.arms,WShape.armsAll])
  (show (WTm.eq .res (.lit (.bool true))).value [] { args:=args,res:=some (.bool true),after:=args }=some (.bool (true == true)) from w_eq_bool (w_res rfl) w_lit) rfl
theorem Ou{l:OpenLaw}{n:Nat}{q:Program}{loose:ZD}{XP:(ZV)->Heap->Prop}{YP:World->Heap->Prop}{d:DefRec}
  (hn:l.most=some n) (hdf:d.params.defaults=[])
  (call:∀(w:World) (s₀ s₁:Shared) (mg mb:ZV) (fa:Addr) (o:Obj) (pm cd doc:Value) (a:Addr) (vs:ZM) (ns:ZL),
   Ground q loose [] XP w s₀ mg mb s₁.heap->YP w s₁.heap ->
   s₁.heap.get? fa=some o->o.data=.func (docDef d.name d.params d.body d.scope pm cd doc)->s₁.heap.CodeRec cd d.name->mg d.name=some (.ref fa) ->
   s₁.heap.get? a=some { cls:=.type "list",data:=.seq vs.toArray }->IntsAre vs ns->ns.length<=n->s₁.gens=#[] ->
   codeAny (model l.prog w) callerA (.call (.ref fa) ⟨[.ref a],[]⟩) (fun r s'=>r=.ok (.ret (.bool true))/\OldK s₁.heap s'.heap/\s'.os=s₁.os/\AllBare s'.gens) s₁) :
  WalkO q loose XP YP l.row.toRowW d [] (fun f vs=>PySem.call f vs):=by
 intro w s₀ s₁ mg mb G Y fa o pm cd doc dV kV ho hd Pp hD hmg hg args vals as Zzx hlay hrd hwl hlo;obtain rfl:dV=.none:=Dflts.none hD hdf;obtain rfl:kV=.none:=Dflts.noKw hD;obtain⟨a,vs,ns,rfl,rfl,hobj,hints,hlen⟩:=Xs hn Zzx hwl;refine enter_call (codeAny_mono (call w s₀ s₁ mg mb fa o pm cd doc a vs ns G Y ho (fd_plain hd) Pp hmg hobj hints hlen hg) fun r s' hq=>?_);obtain⟨rfl,h2,h3,h4⟩:=hq;exact⟨.inl ⟨.bool true,.bool true,[],rfl,fun _=>rfl,.bool true,X4 l _,fun _=>⟨List.Pairwise.nil,fun _ hm=>(nomatch hm)⟩⟩,h2,h3,h4⟩
section
variable{prog:Program}{w:World}{A:Around}{E:ZW}{s:Shared}{K:Frag}
end
end Att
namespace L2
open PySem PySem.Spec PyProof.Rows
theorem M8:∀{vs:ZM} {ns:ZL},IntsAre vs ns->Zw (ns.map V.int) vs
 | _,_,.nil=>.nil
 | _,_,.cons n t h=>.cons ⟨t,rfl⟩ (M8 h)
def Only(H:Hp):Prop:=∀b,H b=none\/∃o xs,H b=some (.frz o (.lst xs))
theorem ba{P:Program}{w:World}{K:W.Frag}{mg mb:ZV}{CX:Ke}{k:Nat}{fa a:Addr}{fd:FuncData}{x:Str}{sp:Sp}{s₁:Shared}{vs:ZM}{ns:ZL}
  (KX:K.In s₁.heap) (ni:s₁.heap.Ns mainGlobals mg) (hb:s₁.heap.Ns builtinsNs mb) (hbb:∀x:Str,x ≠ "__name__" -> mb x=bootBuiltins x) (hlim:s₁.heap.NoLimit) (hg:s₁.gens=#[])
  (ha:s₁.heap.get? a=some { cls:=.type "list",data:=.seq vs.toArray }) (hi:IntsAre vs ns) (hl:ns.length<=sizeLine) (hr:Vu k callerA)
  (F:∀base:Heap,K.In base->base.Ns mainGlobals mg->Jq P w K mg base CX k fa fd [x] sp) (hbind:∀(s:Shared) (u:Value),BindsTo s fd ⟨[u],[]⟩ [(x,u)])
  (hsp:∀H:Hp,Only H->Vc K H a (ns.map V.int)->sp [.ref a] H (fun v _=>v=.bl true) fun _ _ _=>False)
  (hCX:∀H e s',CX [] H s₁ (fun _ _ _=>False) e s'->False) :
  codeAny (model P w) callerA (.call (.ref fa) ⟨[.ref a],[]⟩) (fun r s'=>r=.ok (.ret (.bool true))/\OldK s₁.heap s'.heap/\s'.os=s₁.os/\AllBare s'.gens) s₁:=by
 have rv:=M8 hi;have lenV:=hi.length
 have core:∀H:Hp,Only H->Vc K H a (ns.map V.int)->D3 P w H s₁.heap->(∀b,H b≠none->b=a)->(H a≠none->K.lookup a=none) ->
   codeAny (model P w) callerA (.call (.ref fa) ⟨[.ref a],[]⟩) (fun r s'=>r=.ok (.ret (.bool true))/\OldK s₁.heap s'.heap/\s'.os=s₁.os/\AllBare s'.gens) s₁:=by
  intro H hO hS hok hA hK;have Mo:∀{b:Addr} {o:Obj},s₁.heap.get? b=some o->H b=none->(Lo s₁.heap H).get? b=some o:=fun e n=>m7 e n
  have noA:∀{b:Addr} {o:Obj} {es:Array DictEntry} {ep:Nat},s₁.heap.get? b=some o->o.data=.dict es ep->H b=none:=fun {b o es ep} e d=>by
   cases q:H b with
   | none=>rfl
   | some u =>
    have e':b=a:=hA b (by rw[q];simp);subst e';rw[ha]at e;cases e;have d':Data.seq vs.toArray _=Data.dict es ep:=d;cases d'
  have nsK:∀{b:Addr} {m:ZV},s₁.heap.Ns b m->(Lo s₁.heap H).Ns b m:=fun {b m} ⟨o,es,ep,e,d,r⟩=>⟨o,es,ep,Mo e (noA e d),d,r⟩
  have hKb:K.In (Lo s₁.heap H):=fun b o e=>Mo (KX b o e) (by
   cases q:H b with
   | none=>rfl
   | some u =>
    have e':b=a:=hA b (by rw[q];simp);subst e';rw[hK (by rw[q];simp)]at e;cases e)
  have hM:Mod K mg (Lo s₁.heap H):=⟨hKb,nsK ni,⟨mb,nsK hb,hbb⟩,let ⟨mc,h1,h2⟩:=hlim;⟨mc,nsK h1,h2⟩⟩;have e0:Ku P w K mg (Lo s₁.heap H) callerA [] s₁ H:=⟨rfl,hM,fun b o e=>o6 e,Nat.le_of_eq (xw _ _),trivial,fun b hb=>absurd (show b∈([]:ZU) from hb) (by simp),hok,.of_eq hg⟩;refine codeAny_mono ((F _ hKb (nsK ni)).run callerA [] s₁ H ⟨[.ref a],[]⟩ [.ref a] [.ref a] _ _ hr e0 (hbind s₁ (.ref a)) (.cons rfl .nil) (hsp H hO hS)) fun r s' h=>?_;cases r with
  | error e=>exact(hCX H e s' h).elim
  | ok fl =>
   cases fl with
   | next=>exact False.elim h
   | brk=>exact False.elim h
   | cont=>exact False.elim h
   | ret u =>
    obtain⟨v,H',os,bare,un,hok',r',q⟩:=h;have q':v=.bl true:=q;subst q';obtain rfl:u=Value.bool true:=r';refine⟨rfl,OldK.of_keep fun b o e=>?_,os,bare⟩;cases q:H b with
    | none=>exact un.keep b o e q (by intro z;exact absurd (show b∈([]:ZU) from z) (by simp)) (by simp)
    | some u =>
     rcases hO b with z | ⟨ob,xs,z⟩
     .rw[q]at z;cases z
     .have z2:=un.frzs b ob _ z;obtain⟨e1,_⟩:=hok b _ z;obtain⟨e2,_⟩:=hok' b _ z2;rw[e]at e1;cases e1;exact e2
 cases hk:K.lookup a with
 | some o =>
  have e:=KX a o hk;rw[ha]at e;cases e;refine core (fun _=>none) (fun _=>.inl rfl) (.inr ⟨_,vs.toArray,_,hk,rfl,rfl,rfl,by rw[Vi,lenV];exact hl,by simpa using rv⟩) (fun b u z=>by have z':(none:Option HO)=some u:=z;cases z') (fun b z=>absurd rfl z) fun z=>absurd rfl z
 | none =>
  refine core (fun b=>if b=a then some (.frz { cls:=.type "list",data:=.seq vs.toArray } (.lst (ns.map V.int))) else none) (fun b=>?_) (.inl (.inr ⟨{ cls:=.type "list",data:=.seq vs.toArray },if_pos rfl⟩)) (fun b u z=>?_) (fun b z=>?_) fun _=>hk
  .by_cases hb:b=a
   .exact .inr ⟨_,_,if_pos hb⟩
   .exact .inl (if_neg hb)
  .by_cases hb:b=a
   .have z':=(if_pos hb).symm.trans z;cases z';subst hb;exact⟨ha,by rw[Yn];exact hl,vs,_,rv,ha⟩
   .have z':=(if_neg hb).symm.trans z;cases z'
  .by_cases hb:b=a
   .exact hb
   .exact absurd (if_neg hb) z
theorem lh{l:W.OpenLaw}{n k:Nat}{q:Program}{loose:ZD}{XP:(ZV)->Heap->Prop}{YP:World->Heap->Prop}{d:DefRec}{K:Params->W.Frag}{CX:World->Ke}{sp:World->Sp}{x:Str}
  (hn:l.most=some n) (hn2:n<=sizeLine) (hdf:d.params.defaults=[]) (hr:Vu k callerA)
  (hY:∀(w:World) (h:Heap),YP w h->(K w.params).In h)
  (F:∀(w:World) (mg:ZV) (fa:Addr) (h:Heap),(K w.params).In h->h.Ns mainGlobals mg->mg d.name=some (.ref fa) ->
   ∃fd:FuncData,(∀(s:Shared) (u:Value),BindsTo s fd ⟨[u],[]⟩ [(x,u)]) /\
    ∀base:Heap,(K w.params).In base->base.Ns mainGlobals mg->Jq l.prog w (K w.params) mg base (CX w) k fa fd [x] (sp w))
  (hsp:∀(w:World) (H:Hp) (a:Addr) (ns:ZL),ns.length<=n->Only H->Vc (K w.params) H a (ns.map V.int)->sp w [.ref a] H (fun v _=>v=.bl true) fun _ _ _=>False)
  (hCX:∀(w:World) (H:Hp) (s:Shared) (e:Value) (s':Shared),CX w [] H s (fun _ _ _=>False) e s'->False) :
  W.WalkO q loose XP YP l.row.toRowW d [] (fun f vs=>PySem.call f vs):=by
 refine Att.Ou hn hdf fun w s₀ s₁ mg mb fa o pm cd doc a vs ns G Y ho hd Pp hmg hobj hints hlen hg=>?_;have KX:=hY w _ Y;obtain⟨fd,hb,hF⟩:=F w mg fa _ KX G.T.g hmg;exact ba KX G.T.g G.T.b G.T.builtins G.T.nolimit hg hobj hints (Ve hlen hn2) hr hF hb (fun H hO hS=>hsp w H a ns hlen hO hS) fun H e s'=>hCX w H s₁ e s'
abbrev lg:Ke:=fun _ _ _ _ _ _=>False
abbrev E0:XK:=fun _ _ _=>False
theorem Zxc{X:Cx}:Kl lg X E0:=fun _ _ _ _ _ _ _ h=>h.elim
structure Fun(K:W.Frag)(x qual:Str)(st:Stmt)(f:Addr)(fd:FuncData):Prop where
 ex:∃(oc:Value) (od:ZP) (kV doc pm:Value) (an:ZP) (cdv ct:Value) (osl:ZF),
  fd=W.fnOf x qual (Jt st) (Y0 st) (Zg st) .none kV doc pm an cdv ct/\K.lookup f=some ⟨oc,od,.func fd,osl⟩/\W.codeIn K cdv qual=true
 kp:W.keepIn K (.ref f)=true
section
variable{P:Program}{w:World}{K:W.Frag}{mg:ZV}{base:Heap}
theorem Fun.ok{x qual:Str}{st:Stmt}{f:Addr}{fd:FuncData}{N ps:ZD}{k:Nat}{sp:Sp}(F:Fun K x qual st f fd)(S:G1 N ps (Zg st))(len:∀vs H Q E,sp vs H Q E->vs.length=ps.length)
  (dq:∀(cdv:Value) (A:Around) (outer:List Env) (s:Shared) (H:Hp) (vs:ZQ) (Q:VK) (E:XK),Vu k (A.deeper (envOfC qual (Zg st) s.heap.objs.size f cdv))->sp vs H Q E ->
   ∃t,Rr (E9 lg P w K mg base N qual (Zg st) f cdv A outer s H E).nox (Y0 st) t/\t { nx:=fun _ H'=>Q .non H',rt:=Q } (start N vs) H):Jq P w K mg base lg (k+1) f fd ps sp:=by
 obtain⟨oc,od,kV,doc,pm,an,cdv,ct,osl,rfl,lk,Pp⟩:=F.ex;refine fn_of lk Pp S len fun A outer s H vs Q E hr hsp=>?_;obtain⟨t,h,q⟩:=dq cdv A outer s H vs Q E hr hsp;exact⟨t,h.nox,q⟩
theorem Fun.binds{x qual:Str}{st:Stmt}{f:Addr}{fd:FuncData}{ps:ZD}(F:Fun K x qual st f fd)
  (h:∀(kV doc pm:Value) (an:ZP) (cdv ct:Value) (us:ZM),us.length=ps.length->bindArgs (W.fnOf x qual (Jt st) (Y0 st) (Zg st) .none kV doc pm an cdv ct) ⟨us,[]⟩=pure (ps.zip us)):Binds K fd ps []:=by
 obtain⟨oc,od,kV,doc,pm,an,cdv,ct,osl,rfl,lk,Pp⟩:=F.ex;exact .all (h kV doc pm an cdv ct)
theorem Zp{x qual:Str}{st:Stmt}{f:Addr}{oc:Value}{od an:ZP}{osl:ZF}{kV doc pm cdv ct:Value}(l:K.lookup f=some ⟨oc,od,.func (W.fnOf x qual (Jt st) (Y0 st) (Zg st) .none kV doc pm an cdv ct),osl⟩)
  (c:W.codeIn K cdv qual=true) (k:W.keepIn K (.ref f)=true):Fun K x qual st f (W.fnOf x qual (Jt st) (Y0 st) (Zg st) .none kV doc pm an cdv ct):=⟨⟨oc,od,kV,doc,pm,an,cdv,ct,osl,rfl,l,c⟩,k⟩
end
section
variable{X:Cx}
theorem pv(i:Nat){x:Str}{pos:Pos}(hN:X.N[i]?=some x:=by rfl)(hv:Vis X.env.scope x:=by first | exact Or.inl rfl | exact Or.inr (Or.inl rfl) | exact Or.inr (Or.inr rfl))(hd:(x == ("__debug__" : Str))=false:=by decide)
  (Pp:(x == ("__classdict__" : Str))=false:=by decide):PE X (.Name x pos) (tVar i):=gq hN hv hd Pp
end
theorem iteF{A B:Prop}(h:B):if false=true then A else B:=by
 rw[if_neg D2];exact h
theorem i5{A B:Prop}(h:A):if true=true then A else B:=by
 rw[if_pos rfl];exact h
def Zc(H H':Hp):Prop:=∀b o,H b=some o->H' b=some o
theorem Zc.refl(H:Hp):Zc H H:=fun _ _ h=>h
theorem Zc.trans{H H1 H2:Hp}(a:Zc H H1)(b:Zc H1 H2):Zc H H2:=fun c o h=>b c o (a c o h)
theorem Zc.free{H H':Hp}(e:Zc H H'){l:Addr}(h:H' l=Option.none):H l=Option.none:=by
 cases q:H l with
 | none=>rfl
 | some o =>
  rw[e l o q]at h;cases h
inductive D where
 | non | bl(b:Bool) | int(i:Int) | str(x:Str) | tup(xs:List D) | lst(xs:List D)
mutual
def Vg(K:W.Frag)(H:Hp):D->V->Prop
 | .non,v=>v=.non
 | .bl b,v=>v=.bl b
 | .int i,v=>v=.int i
 | .str x,v=>v=.str x
 | .tup ds,v=>∃a vs,v=.ref a/\Yu K H a vs/\Ze K H ds vs
 | .lst ds,v=>∃a vs,v=.ref a/\Vc K H a vs/\Ze K H ds vs
def Ze(K:W.Frag)(H:Hp):List D->ZQ->Prop
 | [],vs=>vs=[]
 | d::ds,vs=>∃v r,vs=v::r/\Vg K H d v/\Ze K H ds r
end
mutual
noncomputable def Yp:D->D->Bool
 | .non,.non=>true
 | .bl a,.bl b=>a == b
 | .bl a,.int b=>(if a then 1 else 0) == b
 | .int a,.bl b=>a == (if b then 1 else 0)
 | .int a,.int b=>a == b
 | .str a,.str b=>a == b
 | .tup xs,.tup ys=>Nl xs ys
 | .lst xs,.lst ys=>Nl xs ys
 | _,_=>false
noncomputable def Nl:List D->List D->Bool
 | [],[]=>true
 | x::xs,y::ys=>Yp x y && Nl xs ys
 | _,_=>false
end
mutual
noncomputable def Uv:D->Nat
 | .tup xs=>G8 xs+1
 | .lst xs=>G8 xs+1
 | _=>0
noncomputable def G8:List D->Nat
 | []=>0
 | d::ds=>max (Uv d) (G8 ds)
end
mutual
theorem P8:∀d:D,Yp d d=true
 | .non=>rfl
 | .bl b=>by simp[Yp]
 | .int b=>by simp[Yp]
 | .str b=>by simp[Yp]
 | .tup xs=>by simp only[Yp];exact Nn xs
 | .lst xs=>by simp only[Yp];exact Nn xs
theorem Nn:∀d:List D,Nl d d=true
 | []=>rfl
 | x::xs=>by simp only[Nl,P8 x,Nn xs,Bool.and_self]
end
theorem Ze.length{K:W.Frag}{H:Hp}:∀{ds:List D} {vs:ZQ},Ze K H ds vs->ds.length=vs.length
 | [],vs,h=>by
  have e:vs=[]:=h;subst e
  rfl
 | d::ds,vs,h=>by
  obtain⟨v,r,e,_,h2⟩:=(show ∃v r,vs=v::r/\Vg K H d v/\Ze K H ds r from h);rw[e,B9,B9,Ze.length h2]
theorem Ze.get{K:W.Frag}{H:Hp}:∀{ds:List D} {vs:ZQ} {i:Nat} {d:D},Ze K H ds vs->ds[i]?=some d->∃v,vs[i]?=some v/\Vg K H d v
 | [],vs,i,d,_,e=>by simp at e
 | d::ds,vs,0,d',h,e=>by
  obtain⟨v,r,rfl,h1,_⟩:=(show ∃v r,vs=v::r/\Vg K H d v/\Ze K H ds r from h);simp at e;subst e;exact⟨v,rfl,h1⟩
 | d::ds,vs,i+1,d',h,e=>by
  obtain⟨v,r,rfl,_,h2⟩:=(show ∃v r,vs=v::r/\Vg K H d v/\Ze K H ds r from h);obtain⟨v',e1,h3⟩:=Ze.get (i:=i) h2 (by simpa using e);exact⟨v',by simpa using e1,h3⟩
theorem U7:∀{ds:List D} {d:D},d∈ds->Uv d<=G8 ds
 | d::ds,d',h=>by
  simp only[G8];rcases Yw.mp h with e | h
  .subst e;omega
  .have:=U7 h;omega
theorem Yo:∀ds es:List D,((List.range (min ds.length es.length)).all (fun j=>Yp (ds.getD j .non) (es.getD j .non)) && ds.length == es.length)=Nl ds es
 | [],[]=>rfl
 | [],e::es=>by simp[Nl]
 | d::ds,[]=>by simp[Nl]
 | d::ds,e::es=>by
  have ih:=Yo ds es;have e1:min (d::ds).length (e::es).length=min ds.length es.length+1:=by simp only[B9];omega
  rw[e1,List.range_succ_eq_map];simp only[List.all_cons,List.all_map,Nl, <-ih,B9,List.getD_cons_zero]
  have e2:((ds.length+1 == es.length+1):Bool)=(ds.length == es.length):=by
   rw[Bool.eq_iff_iff];simp
  rw[e2,Bool.and_assoc]
  rfl
section
variable{X:Cx}{XB:ZY}{Z:St}{H:Hp}{s:Shared}
theorem Inv.not_both(I:Inv X XB Z H s){a:Addr}{xs ys:ZQ}(h:Vc X.K H a xs)(h':Yu X.K H a ys):False:=by
 obtain⟨XD,r,⟨o,n,e,c,_⟩,_⟩:=I.list h;obtain⟨its',r',⟨o',e',c',_⟩,_⟩:=I.tuple h';rw[e]at e';cases e';rw[c]at c'
 injection c' with c''
 exact absurd c'' (by decide)
mutual
theorem Vg.inj(I:Inv X XB Z H s):∀(d e:D) (v:V),Vg X.K H d v->Vg X.K H e v->d=e
 | .non,e,v,h,h'=>by
  have q:v=.non:=h;subst q;cases e with
  | non=>rfl
  | tup _=>obtain⟨_,_,z,_⟩:=h';cases z
  | lst _=>obtain⟨_,_,z,_⟩:=h';cases z
  | _=>cases(show V.non=_ from h')
 | .bl b,e,v,h,h'=>by
  have q:v=.bl b:=h;subst q;cases e with
  | bl c=>cases(show V.bl b=V.bl c from h');rfl
  | tup _=>obtain⟨_,_,z,_⟩:=h';cases z
  | lst _=>obtain⟨_,_,z,_⟩:=h';cases z
  | _=>cases(show V.bl b=_ from h')
 | .int b,e,v,h,h'=>by
  have q:v=.int b:=h;subst q;cases e with
  | int c=>cases(show V.int b=V.int c from h');rfl
  | tup _=>obtain⟨_,_,z,_⟩:=h';cases z
  | lst _=>obtain⟨_,_,z,_⟩:=h';cases z
  | _=>cases(show V.int b=_ from h')
 | .str b,e,v,h,h'=>by
  have q:v=.str b:=h;subst q;cases e with
  | str c=>cases(show V.str b=V.str c from h');rfl
  | tup _=>obtain⟨_,_,z,_⟩:=h';cases z
  | lst _=>obtain⟨_,_,z,_⟩:=h';cases z
  | _=>cases(show V.str b=_ from h')
 | .tup ds,e,v,h,h'=>by
  obtain⟨a,vs,rfl,q,ar⟩:=(show ∃a vs,v=.ref a/\Yu X.K H a vs/\Ze X.K H ds vs from h);cases e with
  | tup es =>
   obtain⟨a',ws,z,q',Jp⟩:=(show ∃a' vs,V.ref a=.ref a'/\Yu X.K H a' vs/\Ze X.K H es vs from h');cases z;have e:=I.tuple_inj q q';subst e;rw[Ze.inj I ds es vs ar Jp]
  | lst es =>
   obtain⟨a',ws,z,q',Jp⟩:=(show ∃a' vs,V.ref a=.ref a'/\Vc X.K H a' vs/\Ze X.K H es vs from h');cases z;exact(I.not_both q' q).elim
  | non=>cases(show V.ref a=_ from h')
  | bl _=>cases(show V.ref a=_ from h')
  | int _=>cases(show V.ref a=_ from h')
  | str _=>cases(show V.ref a=_ from h')
 | .lst ds,e,v,h,h'=>by
  obtain⟨a,vs,rfl,q,ar⟩:=(show ∃a vs,v=.ref a/\Vc X.K H a vs/\Ze X.K H ds vs from h);cases e with
  | lst es =>
   obtain⟨a',ws,z,q',Jp⟩:=(show ∃a' vs,V.ref a=.ref a'/\Vc X.K H a' vs/\Ze X.K H es vs from h');cases z;have e:=I.list_inj q q';subst e;rw[Ze.inj I ds es vs ar Jp]
  | tup es =>
   obtain⟨a',ws,z,q',Jp⟩:=(show ∃a' vs,V.ref a=.ref a'/\Yu X.K H a' vs/\Ze X.K H es vs from h');cases z;exact(I.not_both q q').elim
  | non=>cases(show V.ref a=_ from h')
  | bl _=>cases(show V.ref a=_ from h')
  | int _=>cases(show V.ref a=_ from h')
  | str _=>cases(show V.ref a=_ from h')
theorem Ze.inj(I:Inv X XB Z H s):∀(ds es:List D) (vs:ZQ),Ze X.K H ds vs->Ze X.K H es vs->ds=es
 | [],es,vs,h,h'=>by
  have q:vs=[]:=h;subst q;cases es with
  | nil=>rfl
  | cons e es=>obtain⟨_,_,z,_⟩:=h';cases z
 | d::ds,es,vs,h,h'=>by
  obtain⟨v,r,rfl,h1,h2⟩:=(show ∃v r,vs=v::r/\Vg X.K H d v/\Ze X.K H ds r from h);cases es with
  | nil=>cases(show v::r=[] from h')
  | cons e es =>
   obtain⟨v',r',z,h1',h2'⟩:=(show ∃v' r',v::r=v'::r'/\Vg X.K H e v'/\Ze X.K H es r' from h');cases z;rw[Vg.inj I d e v h1 h1',Ze.inj I ds es r h2 h2']
end
noncomputable def B6:D->Option V
 | .non=>some .non
 | .bl b=>some (.bl b)
 | .int i=>some (.int i)
 | .str x=>some (.str x)
 | _=>none
theorem Vg.flat{K:W.Frag}{d:D}{x v:V}(e:B6 d=some x)(h:Vg K H d v):v=x/\V6 x=true:=by
 cases d with
 | non=>cases e;exact⟨h,rfl⟩
 | bl b=>cases e;exact⟨h,rfl⟩
 | int i=>cases e;exact⟨h,rfl⟩
 | str q=>cases e;exact⟨h,rfl⟩
 | tup q=>cases e
 | lst q=>cases e
theorem Vo{d:D}{x:V}(h:B6 d=some x):(d=.non/\x=.non)\/(∃b,d=.bl b/\x=.bl b)\/(∃i,d=.int i/\x=.int i)\/∃q,d=.str q/\x=.str q:=by
 cases d with
 | non=>cases h;exact .inl ⟨rfl,rfl⟩
 | bl b=>cases h;exact .inr (.inl ⟨b,rfl,rfl⟩)
 | int i=>cases h;exact .inr (.inr (.inl ⟨i,rfl,rfl⟩))
 | str q=>cases h;exact .inr (.inr (.inr ⟨q,rfl,rfl⟩))
 | tup q=>cases h
 | lst q=>cases h
theorem Ms{d e:D}{x y:V}(h:B6 d=some x)(h':B6 e=some y):Yp d e=di x y:=by
 rcases Vo h with ⟨rfl,rfl⟩ | ⟨_,rfl,rfl⟩ | ⟨_,rfl,rfl⟩ | ⟨_,rfl,rfl⟩<;>rcases Vo h' with ⟨rfl,rfl⟩ | ⟨_,rfl,rfl⟩ | ⟨_,rfl,rfl⟩ | ⟨_,rfl,rfl⟩<;>rfl
theorem Z1{xs:ZQ}{us:ZM}(r:Zw xs us){j:Nat}(h:j<us.length){x:V}(e:xs[j]?=some x):RelV x us[j]:=by
 obtain⟨u,e1,q⟩:=r.get e;rw[Ui h]at e1;cases e1;exact q
theorem Zzs{es:List D}{a:Addr}{x:V}{u:Value}{A:Around}{XD:ZN}{d:D}(h:B6 d=some x)(rx:RelV x u)(ht:IsTup s.heap a XD)(Yq:A.units<cLine):SeqAt.EqAt A s u (.ref a) (Yp d (.tup es)):=by
 rcases Vo h with ⟨rfl,rfl⟩ | ⟨b,rfl,rfl⟩ | ⟨b,rfl,rfl⟩ | ⟨b,rfl,rfl⟩
 .cases rx;exact SeqAt.EqAt.none_tuple ht Yq
 .cases rx;exact SeqAt.EqAt.bool_tuple b ht Yq
 .obtain⟨t,rfl⟩:=rx;exact SeqAt.EqAt.int_tuple b t ht Yq
 .obtain⟨t,rfl⟩:=rx;exact SeqAt.EqAt.str_tuple b t ht Yq
theorem Zzh{es:List D}{a:Addr}{x:V}{u:Value}{A:Around}{XD:ZN}{d:D}(h:B6 d=some x)(rx:RelV x u)(ht:s.heap.IsList a XD)(Yq:A.units<cLine):SeqAt.EqAt A s u (.ref a) (Yp d (.lst es)):=by
 rcases Vo h with ⟨rfl,rfl⟩ | ⟨b,rfl,rfl⟩ | ⟨b,rfl,rfl⟩ | ⟨b,rfl,rfl⟩
 .cases rx;exact SeqAt.EqAt.none_list ht Yq
 .cases rx;exact SeqAt.EqAt.bool_list b ht Yq
 .obtain⟨t,rfl⟩:=rx;exact SeqAt.EqAt.int_list b t ht Yq
 .obtain⟨t,rfl⟩:=rx;exact SeqAt.EqAt.str_list b t ht Yq
theorem Zzp{es:List D}{a:Addr}{x:V}{u:Value}{A:Around}{XD:ZN}{d:D}(h:B6 d=some x)(rx:RelV x u)(ht:IsTup s.heap a XD)(Yq:A.units<cLine):SeqAt.EqAt A s (.ref a) u (Yp (.tup es) d):=by
 rcases Vo h with ⟨rfl,rfl⟩ | ⟨b,rfl,rfl⟩ | ⟨b,rfl,rfl⟩ | ⟨b,rfl,rfl⟩
 .cases rx;exact SeqAt.EqAt.tuple_none ht Yq
 .cases rx;exact SeqAt.EqAt.tuple_bool b ht Yq
 .obtain⟨t,rfl⟩:=rx;exact SeqAt.EqAt.tuple_int b t ht Yq
 .obtain⟨t,rfl⟩:=rx;exact SeqAt.EqAt.tuple_str b t ht Yq
theorem Zza{es:List D}{a:Addr}{x:V}{u:Value}{A:Around}{XD:ZN}{d:D}(h:B6 d=some x)(rx:RelV x u)(ht:s.heap.IsList a XD)(Yq:A.units<cLine):SeqAt.EqAt A s (.ref a) u (Yp (.lst es) d):=by
 rcases Vo h with ⟨rfl,rfl⟩ | ⟨b,rfl,rfl⟩ | ⟨b,rfl,rfl⟩ | ⟨b,rfl,rfl⟩
 .cases rx;exact SeqAt.EqAt.list_none ht Yq
 .cases rx;exact SeqAt.EqAt.list_bool b ht Yq
 .obtain⟨t,rfl⟩:=rx;exact SeqAt.EqAt.list_int b t ht Yq
 .obtain⟨t,rfl⟩:=rx;exact SeqAt.EqAt.list_str b t ht Yq
theorem U6{d:D}(h:B6 d=none):(∃ds,d=.tup ds)\/∃ds,d=.lst ds:=by
 cases d with
 | non=>cases h
 | bl b=>cases h
 | int i=>cases h
 | str q=>cases h
 | tup q=>exact .inl ⟨q,rfl⟩
 | lst q=>exact .inr ⟨q,rfl⟩
def qf(A:Around)(s:Shared)(K:W.Frag)(H:Hp)(ds:List D):Prop:=∀d∈ds,∀(e:D) (x y:V) (u v:Value),Vg K H d x->Vg K H e y->RelV x u->RelV y v->SeqAt.EqAt A s u v (Yp d e)
theorem qf.at{A:Around}{K:W.Frag}{ds es:List D}{vs Rp:ZQ}{XD its':ZM}(E:qf A s K H ds)(ar:Ze K H ds vs)(Jp:Ze K H es Rp)(r:Zw vs XD)(r':Zw Rp its'){j:Nat}(h1:j<XD.toArray.size)(h2:j<its'.toArray.size)(j1:j<ds.length)(j2:j<es.length) :
  SeqAt.EqAt A s XD.toArray[j] its'.toArray[j] (Yp (ds.getD j .non) (es.getD j .non)):=by
 obtain⟨x1,g1,i1⟩:=ar.get (Ui j1);obtain⟨y1,g2,i2⟩:=Jp.get (Ui j2);have d1:ds.getD j .non=ds[j]:=by simp[j1]
 have d2:es.getD j .non=es[j]:=by simp[j2]
 rw[d1,d2];exact E _ (G0e j1) _ x1 y1 _ _ i1 i2 (Z1 r (by simpa using h1) g1) (Z1 r' (by simpa using h2) g2)
theorem Zzu(I:Inv X XB Z H s){ds es:List D}{a a':Addr}{vs Rp:ZQ}{A:Around}(q:Yu X.K H a vs)(ar:Ze X.K H ds vs)(q':Yu X.K H a' Rp)(Jp:Ze X.K H es Rp)(hne:a≠a')(E:qf A.in1 s X.K H ds)(Yq:A.units<cLine) :
  SeqAt.EqAt A s (.ref a) (.ref a') (Yp (.tup ds) (.tup es)):=by
 obtain⟨XD,r,ht,_⟩:=I.tuple q;obtain⟨its',r',La,_⟩:=I.tuple q';have l1:XD.toArray.size=ds.length:=by rw[Vi, <-r.length, <-ar.length]
 have l2:its'.toArray.size=es.length:=by rw[Vi, <-r'.length, <-Jp.length]
 have main:=SeqAt.RcAt.tuples (A:=A) (e:=fun j=>Yp (ds.getD j .non) (es.getD j .non)) ht La Yq (fun j h1 h2=>E.at ar Jp r r' h1 h2 (by omega) (by omega));rw[l1,l2,Yo]at main;exact SeqAt.EqAt.of_refs hne main
theorem Zzo(I:Inv X XB Z H s){ds es:List D}{a a':Addr}{vs Rp:ZQ}{A:Around}(q:Vc X.K H a vs)(ar:Ze X.K H ds vs)(q':Vc X.K H a' Rp)(Jp:Ze X.K H es Rp)(hne:a≠a')(E:qf A.in1 s X.K H ds)(Yq:A.units<cLine) :
  SeqAt.EqAt A s (.ref a) (.ref a') (Yp (.lst ds) (.lst es)):=by
 obtain⟨XD,r,hp,_⟩:=I.list q;obtain⟨its',r',Sy,_⟩:=I.list q';have l1:XD.toArray.size=ds.length:=by rw[Vi, <-r.length, <-ar.length]
 have l2:its'.toArray.size=es.length:=by rw[Vi, <-r'.length, <-Jp.length]
 by_cases hl:ds.length=es.length
 .have main:=SeqAt.RcAt.lists (A:=A) (e:=fun j=>Yp (ds.getD j .non) (es.getD j .non)) hp.isList Sy.isList (by omega) Yq (fun j h1 h2=>E.at ar Jp r r' h1 h2 (by omega) (by omega));have al:=Yo ds es;rw[<-hl,Nat.min_self,B0s,Bool.and_true]at al;rw[l1,al]at main;exact SeqAt.EqAt.of_refs hne main
 .have main:=SeqAt.RcAt.lists_lengths (A:=A) hp.isList Sy.isList (by rw[l1,l2];simpa using hl) Yq;have al:=Yo ds es;have hf:(ds.length == es.length)=false:=by simpa using hl
  rw[hf,Bool.and_false]at al;have z:Yp (D.lst ds) (D.lst es)=Nl ds es:=by simp only[Yp]
  rw[z, <-al];exact SeqAt.EqAt.of_refs hne main
theorem xm(I:Inv X XB Z H s){d e:D}{x y:V}{u v:Value}{A:Around}(Vq:B6 d=none)(Yr:B6 e=none)(hd:Vg X.K H d x)(he:Vg X.K H e y)(rx:RelV x u)(ry:RelV y v)(E:∀ds,d=.tup ds\/d=.lst ds->qf A.in1 s X.K H ds)(Yq:A.units<cLine) :
  SeqAt.EqAt A s u v (Yp d e):=by
 by_cases hxy:x=y
 .subst hxy;have ee:=Vg.inj I d e x hd he;subst ee;rw[P8]
  have uv:u=v:=by
   rcases U6 Vq with ⟨ds,rfl⟩ | ⟨ds,rfl⟩
   .obtain⟨a,_,rfl,_⟩:=hd;cases rx;cases ry;rfl
   .obtain⟨a,_,rfl,_⟩:=hd;cases rx;cases ry;rfl
  subst uv;exact SeqAt.EqAt.same _
 .rcases U6 Vq with ⟨ds,rfl⟩ | ⟨ds,rfl⟩
  .obtain⟨a,vs,rfl,q,ar⟩:=hd;cases rx;rcases U6 Yr with ⟨es,rfl⟩ | ⟨es,rfl⟩
   .obtain⟨a',Rp,rfl,q',Jp⟩:=he;cases ry;exact Zzu I q ar q' Jp (fun z=>hxy (by rw[z])) (E ds (.inl rfl)) Yq
   .obtain⟨a',Rp,rfl,q',Jp⟩:=he;cases ry;obtain⟨_,_,ht,_⟩:=I.tuple q;obtain⟨_,_,Sy,_⟩:=I.list q';exact SeqAt.EqAt.tuple_list ht Sy.isList Yq
  .obtain⟨a,vs,rfl,q,ar⟩:=hd;cases rx;rcases U6 Yr with ⟨es,rfl⟩ | ⟨es,rfl⟩
   .obtain⟨a',Rp,rfl,q',Jp⟩:=he;cases ry;obtain⟨_,_,hp,_⟩:=I.list q;obtain⟨_,_,La,_⟩:=I.tuple q';exact SeqAt.EqAt.list_tuple hp.isList La Yq
   .obtain⟨a',Rp,rfl,q',Jp⟩:=he;cases ry;exact Zzo I q ar q' Jp (fun z=>hxy (by rw[z])) (E ds (.inr rfl)) Yq
theorem xf(I:Inv X XB Z H s){d e:D}{x y:V}{u v:Value}{A:Around}(hd:Vg X.K H d x)(he:Vg X.K H e y)(rx:RelV x u)(ry:RelV y v)(E:∀ds,d=.tup ds\/d=.lst ds->qf A.in1 s X.K H ds)(Yq:A.units<cLine) :
  SeqAt.EqAt A s u v (Yp d e):=by
 cases Vq:B6 d with
 | some x' =>
  obtain⟨rfl,fx⟩:=Vg.flat Vq hd;cases Yr:B6 e with
  | some y' =>
   obtain⟨rfl,fy⟩:=Vg.flat Yr he;rw[Ms Vq Yr];exact tz rx ry fx fy
  | none =>
   rcases U6 Yr with ⟨es,rfl⟩ | ⟨es,rfl⟩
   .obtain⟨a,vs,rfl,q,_⟩:=he;cases ry;obtain⟨XD,_,ht,_⟩:=I.tuple q;exact Zzs Vq rx ht Yq
   .obtain⟨a,vs,rfl,q,_⟩:=he;cases ry;obtain⟨XD,_,hp,_⟩:=I.list q;exact Zzh Vq rx hp.isList Yq
 | none =>
  cases Yr:B6 e with
  | some y' =>
   obtain⟨rfl,fy⟩:=Vg.flat Yr he;rcases U6 Vq with ⟨es,rfl⟩ | ⟨es,rfl⟩
   .obtain⟨a,vs,rfl,q,_⟩:=hd;cases rx;obtain⟨XD,_,ht,_⟩:=I.tuple q;exact Zzp Yr ry ht Yq
   .obtain⟨a,vs,rfl,q,_⟩:=hd;cases rx;obtain⟨XD,_,hp,_⟩:=I.list q;exact Zza Yr ry hp.isList Yq
  | none=>exact xm I Vq Yr hd he rx ry E Yq
theorem xh{d:D}{ds:List D}(h:d=.tup ds\/d=.lst ds){c:D}(m:c∈ds):Uv c+1<=Uv d:=by
 have:=U7 m;rcases h with rfl | rfl
 .have z:Uv (D.tup ds)=G8 ds+1:=by simp only[Uv]
  omega
 .have z:Uv (D.lst ds)=G8 ds+1:=by simp only[Uv]
  omega
theorem Zzi(I:Inv X XB Z H s)(n:Nat):∀(A:Around) (d e:D) (x y:V) (u v:Value),Uv d<n->Vg X.K H d x->Vg X.K H e y->RelV x u->RelV y v->A.units+Uv d<cLine->SeqAt.EqAt A s u v (Yp d e):=by
 induction n with
 | zero=>intro A d e x y u v h;exact absurd h (Nat.not_lt_zero _)
 | succ n ih =>
  intro A d e x y u v h hd he rx ry hu;refine xf I hd he rx ry (fun ds hds c hc e' x' y' u' v' h1 h2 r1 r2=>?_) (by omega);have hp:=xh hds hc;refine ih A.in1 c e' x' y' u' v' (by omega) h1 h2 r1 r2 ?_;show A.units+1+Uv c<cLine;omega
theorem Nr(I:Inv X XB Z H s)(d e:D)(x y:V)(u v:Value)(A:Around)(hd:Vg X.K H d x)(he:Vg X.K H e y)(rx:RelV x u)(ry:RelV y v)(hu:A.units+Uv d<cLine)(Yq:A.units<cLine) :
  SeqAt.EqAt A s u v (Yp d e):=Zzi I (Uv d+1) A d e x y u v (Nat.lt_succ_self _) hd he rx ry hu
end
theorem rcEq_V{A:Around}{s:Shared}{y x:V}{u v:Value}(ry:RelV y u)(rx:RelV x v)(fy:V6 y=true)(fx:V6 x=true):SeqAt.RcAt A s u v ((di y x)):=by
 cases y with
 | non =>
  cases ry;cases x with
  | non=>cases rx;exact SeqAt.RcAt.none_none
  | bl b=>cases rx;exact SeqAt.RcAt.none_bool b
  | int b=>obtain⟨t,rfl⟩:=rx;exact SeqAt.RcAt.none_int b t
  | str b=>obtain⟨t,rfl⟩:=rx;exact SeqAt.RcAt.none_str b t
  | _=>exact absurd (show false=true from fx) D2
 | bl a =>
  cases ry;cases x with
  | non=>cases rx;exact SeqAt.RcAt.bool_none a
  | bl b=>cases rx;exact SeqAt.RcAt.bool_bool a b
  | int b=>obtain⟨t,rfl⟩:=rx;exact SeqAt.RcAt.bool_int a b t
  | str b=>obtain⟨t,rfl⟩:=rx;exact SeqAt.RcAt.bool_str a b t
  | _=>exact absurd (show false=true from fx) D2
 | int a =>
  obtain⟨t',rfl⟩:=ry;cases x with
  | non=>cases rx;exact SeqAt.RcAt.int_none a t'
  | bl b=>cases rx;exact SeqAt.RcAt.int_bool a t' b
  | int b=>obtain⟨t,rfl⟩:=rx;exact SeqAt.RcAt.int_int a t' b t
  | str b=>obtain⟨t,rfl⟩:=rx;exact SeqAt.RcAt.int_str a t' b t
  | _=>exact absurd (show false=true from fx) D2
 | str a =>
  obtain⟨t',rfl⟩:=ry;cases x with
  | non=>cases rx;exact SeqAt.RcAt.str_none a t'
  | bl b=>cases rx;exact SeqAt.RcAt.str_bool a t' b
  | int b=>obtain⟨t,rfl⟩:=rx;exact SeqAt.RcAt.str_int a t' b t
  | str b=>obtain⟨t,rfl⟩:=rx;exact SeqAt.RcAt.str_str a t' b t
  | _=>exact absurd (show false=true from fx) D2
 | _=>exact absurd (show false=true from fy) D2
theorem rcEq_D{X:Cx}{XB:ZY}{Z:St}{H:Hp}{s:Shared}(I:Inv X XB Z H s)(d e:D)(x y:V)(u v:Value)(A:Around)(hd:Vg X.K H d x)(he:Vg X.K H e y)(rx:RelV x u)(ry:RelV y v)(hu:A.units+Uv d<cLine)(Yq:A.units<cLine) :
  SeqAt.RcAt A s u v ((Yp d e)):=by
 cases Vq:B6 d with
 | some x' =>
  obtain⟨rfl,fx⟩:=Vg.flat Vq hd;cases Yr:B6 e with
  | some y' =>
   obtain⟨rfl,fy⟩:=Vg.flat Yr he;rw[Ms Vq Yr];exact rcEq_V rx ry fx fy
  | none =>
   cases e with
   | tup es =>
    obtain⟨a,vs,rfl,q,_⟩:=he;cases ry;obtain⟨XD,_,ht,_⟩:=I.tuple q;cases d with
    | non=>cases Vq;cases rx;exact SeqAt.RcAt.none_tuple ht Yq
    | bl b=>cases Vq;cases rx;exact SeqAt.RcAt.bool_tuple b ht Yq
    | int b=>cases Vq;obtain⟨t,rfl⟩:=rx;exact SeqAt.RcAt.int_tuple b t ht Yq
    | str b=>cases Vq;obtain⟨t,rfl⟩:=rx;exact SeqAt.RcAt.str_tuple b t ht Yq
    | tup _=>cases Vq
    | lst _=>cases Vq
   | lst es =>
    obtain⟨a,vs,rfl,q,_⟩:=he;cases ry;obtain⟨XD,_,hp,_⟩:=I.list q;have ht:=hp.isList;cases d with
    | non=>cases Vq;cases rx;exact SeqAt.RcAt.none_list ht Yq
    | bl b=>cases Vq;cases rx;exact SeqAt.RcAt.bool_list b ht Yq
    | int b=>cases Vq;obtain⟨t,rfl⟩:=rx;exact SeqAt.RcAt.int_list b t ht Yq
    | str b=>cases Vq;obtain⟨t,rfl⟩:=rx;exact SeqAt.RcAt.str_list b t ht Yq
    | tup _=>cases Vq
    | lst _=>cases Vq
   | non=>cases Yr
   | bl _=>cases Yr
   | int _=>cases Yr
   | str _=>cases Yr
 | none =>
  cases Yr:B6 e with
  | some y' =>
   obtain⟨rfl,fy⟩:=Vg.flat Yr he;cases d with
   | tup es =>
    obtain⟨a,vs,rfl,q,_⟩:=hd;cases rx;obtain⟨XD,_,ht,_⟩:=I.tuple q;cases e with
    | non=>cases Yr;cases ry;exact SeqAt.RcAt.tuple_none ht Yq
    | bl b=>cases Yr;cases ry;exact SeqAt.RcAt.tuple_bool b ht Yq
    | int b=>cases Yr;obtain⟨t,rfl⟩:=ry;exact SeqAt.RcAt.tuple_int b t ht Yq
    | str b=>cases Yr;obtain⟨t,rfl⟩:=ry;exact SeqAt.RcAt.tuple_str b t ht Yq
    | tup _=>cases Yr
    | lst _=>cases Yr
   | lst es =>
    obtain⟨a,vs,rfl,q,_⟩:=hd;cases rx;obtain⟨XD,_,hp,_⟩:=I.list q;have ht:=hp.isList;cases e with
    | non=>cases Yr;cases ry;exact SeqAt.RcAt.list_none ht Yq
    | bl b=>cases Yr;cases ry;exact SeqAt.RcAt.list_bool b ht Yq
    | int b=>cases Yr;obtain⟨t,rfl⟩:=ry;exact SeqAt.RcAt.list_int b t ht Yq
    | str b=>cases Yr;obtain⟨t,rfl⟩:=ry;exact SeqAt.RcAt.list_str b t ht Yq
    | tup _=>cases Yr
    | lst _=>cases Yr
   | non=>cases Vq
   | bl _=>cases Vq
   | int _=>cases Vq
   | str _=>cases Vq
  | none =>
   cases d with
   | tup ds =>
    obtain⟨a,vs,rfl,q,ar⟩:=hd;cases rx;obtain⟨XD,r,ht,_⟩:=I.tuple q;cases e with
    | tup es =>
     obtain⟨a',Rp,rfl,q',Jp⟩:=he;cases ry;obtain⟨its',r',La,_⟩:=I.tuple q';have l1:XD.toArray.size=ds.length:=by rw[Vi, <-r.length, <-ar.length]
     have l2:its'.toArray.size=es.length:=by rw[Vi, <-r'.length, <-Jp.length]
     have main:=SeqAt.RcAt.tuples (A:=A) (e:=fun j=>Yp (ds.getD j .non) (es.getD j .non)) ht La Yq (fun j h1 h2=>by
       have j1:j<ds.length:=by omega
       have j2:j<es.length:=by omega
       have e1:ds[j]?=some ds[j]:=Ui j1;have e2:es[j]?=some es[j]:=Ui j2;obtain⟨x1,g1,i1⟩:=ar.get e1;obtain⟨y1,g2,i2⟩:=Jp.get e2;have d1:ds.getD j .non=ds[j]:=by simp[j1]
       have d2:es.getD j .non=es[j]:=by simp[j2]
       show SeqAt.EqAt A.in1 s _ _ (Yp (ds.getD j .non) (es.getD j .non));rw[d1,d2];have hm:=U7 (G0e j1);have z1:Uv (D.tup ds)=G8 ds+1:=by simp only[Uv]
       refine Nr I ds[j] es[j] x1 y1 _ _ A.in1 i1 i2 (Z1 r (by simpa using h1) g1) (Z1 r' (by simpa using h2) g2) ?_ ?_
       .show A.units+1+Uv ds[j]<cLine;omega
       .show A.units+1<cLine;omega)
     rw[l1,l2,Yo]at main;exact main
    | lst es =>
     obtain⟨a',Rp,rfl,q',Jp⟩:=he;cases ry;obtain⟨its',r',Sy,_⟩:=I.list q';exact SeqAt.RcAt.tuple_list ht Sy.isList Yq
    | non=>cases Yr
    | bl _=>cases Yr
    | int _=>cases Yr
    | str _=>cases Yr
   | lst ds =>
    obtain⟨a,vs,rfl,q,ar⟩:=hd;cases rx;obtain⟨XD,r,hp,_⟩:=I.list q;have ht:=hp.isList;cases e with
    | lst es =>
     obtain⟨a',Rp,rfl,q',Jp⟩:=he;cases ry;obtain⟨its',r',Sy,_⟩:=I.list q';have La:=Sy.isList;have l1:XD.toArray.size=ds.length:=by rw[Vi, <-r.length, <-ar.length]
     have l2:its'.toArray.size=es.length:=by rw[Vi, <-r'.length, <-Jp.length]
     by_cases hl:ds.length=es.length
     .have main:=SeqAt.RcAt.lists (A:=A) (e:=fun j=>Yp (ds.getD j .non) (es.getD j .non)) ht La (by omega) Yq (fun j h1 h2=>by
       have j1:j<ds.length:=by omega
       have j2:j<es.length:=by omega
       have e1:ds[j]?=some ds[j]:=Ui j1;have e2:es[j]?=some es[j]:=Ui j2;obtain⟨x1,g1,i1⟩:=ar.get e1;obtain⟨y1,g2,i2⟩:=Jp.get e2;have d1:ds.getD j .non=ds[j]:=by simp[j1]
       have d2:es.getD j .non=es[j]:=by simp[j2]
       show SeqAt.EqAt A.in1 s _ _ (Yp (ds.getD j .non) (es.getD j .non));rw[d1,d2];have hm:=U7 (G0e j1);have z1:Uv (D.lst ds)=G8 ds+1:=by simp only[Uv]
       refine Nr I ds[j] es[j] x1 y1 _ _ A.in1 i1 i2 (Z1 r (by simpa using h1) g1) (Z1 r' (by simpa using h2) g2) ?_ ?_
       .show A.units+1+Uv ds[j]<cLine;omega
       .show A.units+1<cLine;omega)
      have al:=Yo ds es;rw[<-hl,Nat.min_self,B0s,Bool.and_true]at al;rw[l1,al]at main;exact main
     .have main:=SeqAt.RcAt.lists_lengths (A:=A) ht La (by rw[l1,l2];simpa using hl) Yq;have al:=Yo ds es;have hf:(ds.length == es.length)=false:=by simpa using hl
      rw[hf,Bool.and_false]at al;have z:Yp (D.lst ds) (D.lst es)=Nl ds es:=by simp only[Yp]
      rw[z, <-al];exact main
    | tup es =>
     obtain⟨a',Rp,rfl,q',Jp⟩:=he;cases ry;obtain⟨its',r',La,_⟩:=I.tuple q';exact SeqAt.RcAt.list_tuple ht La Yq
    | non=>cases Yr
    | bl _=>cases Yr
    | int _=>cases Yr
    | str _=>cases Yr
   | non=>cases Vq
   | bl _=>cases Vq
   | int _=>cases Vq
   | str _=>cases Vq
theorem rcNe_V{A:Around}{s:Shared}{y x:V}{u v:Value}(ry:RelV y u)(rx:RelV x v)(fy:V6 y=true)(fx:V6 x=true):SeqAt.RcNeAt A s u v (!(di y x)):=by
 cases y with
 | non =>
  cases ry;cases x with
  | non=>cases rx;exact SeqAt.RcNeAt.none_none
  | bl b=>cases rx;exact SeqAt.RcNeAt.none_bool b
  | int b=>obtain⟨t,rfl⟩:=rx;exact SeqAt.RcNeAt.none_int b t
  | str b=>obtain⟨t,rfl⟩:=rx;exact SeqAt.RcNeAt.none_str b t
  | _=>exact absurd (show false=true from fx) D2
 | bl a =>
  cases ry;cases x with
  | non=>cases rx;exact SeqAt.RcNeAt.bool_none a
  | bl b=>cases rx;exact SeqAt.RcNeAt.bool_bool a b
  | int b=>obtain⟨t,rfl⟩:=rx;exact SeqAt.RcNeAt.bool_int a b t
  | str b=>obtain⟨t,rfl⟩:=rx;exact SeqAt.RcNeAt.bool_str a b t
  | _=>exact absurd (show false=true from fx) D2
 | int a =>
  obtain⟨t',rfl⟩:=ry;cases x with
  | non=>cases rx;exact SeqAt.RcNeAt.int_none a t'
  | bl b=>cases rx;exact SeqAt.RcNeAt.int_bool a t' b
  | int b=>obtain⟨t,rfl⟩:=rx;exact SeqAt.RcNeAt.int_int a t' b t
  | str b=>obtain⟨t,rfl⟩:=rx;exact SeqAt.RcNeAt.int_str a t' b t
  | _=>exact absurd (show false=true from fx) D2
 | str a =>
  obtain⟨t',rfl⟩:=ry;cases x with
  | non=>cases rx;exact SeqAt.RcNeAt.str_none a t'
  | bl b=>cases rx;exact SeqAt.RcNeAt.str_bool a t' b
  | int b=>obtain⟨t,rfl⟩:=rx;exact SeqAt.RcNeAt.str_int a t' b t
  | str b=>obtain⟨t,rfl⟩:=rx;exact SeqAt.RcNeAt.str_str a t' b t
  | _=>exact absurd (show false=true from fx) D2
 | _=>exact absurd (show false=true from fy) D2
theorem rcNe_D{X:Cx}{XB:ZY}{Z:St}{H:Hp}{s:Shared}(I:Inv X XB Z H s)(d e:D)(x y:V)(u v:Value)(A:Around)(hd:Vg X.K H d x)(he:Vg X.K H e y)(rx:RelV x u)(ry:RelV y v)(hu:A.units+Uv d<cLine)(Yq:A.units<cLine) :
  SeqAt.RcNeAt A s u v (!(Yp d e)):=by
 cases Vq:B6 d with
 | some x' =>
  obtain⟨rfl,fx⟩:=Vg.flat Vq hd;cases Yr:B6 e with
  | some y' =>
   obtain⟨rfl,fy⟩:=Vg.flat Yr he;rw[Ms Vq Yr];exact rcNe_V rx ry fx fy
  | none =>
   cases e with
   | tup es =>
    obtain⟨a,vs,rfl,q,_⟩:=he;cases ry;obtain⟨XD,_,ht,_⟩:=I.tuple q;cases d with
    | non=>cases Vq;cases rx;exact SeqAt.RcNeAt.none_tuple ht Yq
    | bl b=>cases Vq;cases rx;exact SeqAt.RcNeAt.bool_tuple b ht Yq
    | int b=>cases Vq;obtain⟨t,rfl⟩:=rx;exact SeqAt.RcNeAt.int_tuple b t ht Yq
    | str b=>cases Vq;obtain⟨t,rfl⟩:=rx;exact SeqAt.RcNeAt.str_tuple b t ht Yq
    | tup _=>cases Vq
    | lst _=>cases Vq
   | lst es =>
    obtain⟨a,vs,rfl,q,_⟩:=he;cases ry;obtain⟨XD,_,hp,_⟩:=I.list q;have ht:=hp.isList;cases d with
    | non=>cases Vq;cases rx;exact SeqAt.RcNeAt.none_list ht Yq
    | bl b=>cases Vq;cases rx;exact SeqAt.RcNeAt.bool_list b ht Yq
    | int b=>cases Vq;obtain⟨t,rfl⟩:=rx;exact SeqAt.RcNeAt.int_list b t ht Yq
    | str b=>cases Vq;obtain⟨t,rfl⟩:=rx;exact SeqAt.RcNeAt.str_list b t ht Yq
    | tup _=>cases Vq
    | lst _=>cases Vq
   | non=>cases Yr
   | bl _=>cases Yr
   | int _=>cases Yr
   | str _=>cases Yr
 | none =>
  cases Yr:B6 e with
  | some y' =>
   obtain⟨rfl,fy⟩:=Vg.flat Yr he;cases d with
   | tup es =>
    obtain⟨a,vs,rfl,q,_⟩:=hd;cases rx;obtain⟨XD,_,ht,_⟩:=I.tuple q;cases e with
    | non=>cases Yr;cases ry;exact SeqAt.RcNeAt.tuple_none ht Yq
    | bl b=>cases Yr;cases ry;exact SeqAt.RcNeAt.tuple_bool b ht Yq
    | int b=>cases Yr;obtain⟨t,rfl⟩:=ry;exact SeqAt.RcNeAt.tuple_int b t ht Yq
    | str b=>cases Yr;obtain⟨t,rfl⟩:=ry;exact SeqAt.RcNeAt.tuple_str b t ht Yq
    | tup _=>cases Yr
    | lst _=>cases Yr
   | lst es =>
    obtain⟨a,vs,rfl,q,_⟩:=hd;cases rx;obtain⟨XD,_,hp,_⟩:=I.list q;have ht:=hp.isList;cases e with
    | non=>cases Yr;cases ry;exact SeqAt.RcNeAt.list_none ht Yq
    | bl b=>cases Yr;cases ry;exact SeqAt.RcNeAt.list_bool b ht Yq
    | int b=>cases Yr;obtain⟨t,rfl⟩:=ry;exact SeqAt.RcNeAt.list_int b t ht Yq
    | str b=>cases Yr;obtain⟨t,rfl⟩:=ry;exact SeqAt.RcNeAt.list_str b t ht Yq
    | tup _=>cases Yr
    | lst _=>cases Yr
   | non=>cases Vq
   | bl _=>cases Vq
   | int _=>cases Vq
   | str _=>cases Vq
  | none =>
   cases d with
   | tup ds =>
    obtain⟨a,vs,rfl,q,ar⟩:=hd;cases rx;obtain⟨XD,r,ht,_⟩:=I.tuple q;cases e with
    | tup es =>
     obtain⟨a',Rp,rfl,q',Jp⟩:=he;cases ry;obtain⟨its',r',La,_⟩:=I.tuple q';have l1:XD.toArray.size=ds.length:=by rw[Vi, <-r.length, <-ar.length]
     have l2:its'.toArray.size=es.length:=by rw[Vi, <-r'.length, <-Jp.length]
     have main:=SeqAt.RcNeAt.tuples (A:=A) (e:=fun j=>Yp (ds.getD j .non) (es.getD j .non)) ht La Yq (fun j h1 h2=>by
       have j1:j<ds.length:=by omega
       have j2:j<es.length:=by omega
       have e1:ds[j]?=some ds[j]:=Ui j1;have e2:es[j]?=some es[j]:=Ui j2;obtain⟨x1,g1,i1⟩:=ar.get e1;obtain⟨y1,g2,i2⟩:=Jp.get e2;have d1:ds.getD j .non=ds[j]:=by simp[j1]
       have d2:es.getD j .non=es[j]:=by simp[j2]
       show SeqAt.EqAt A.in1 s _ _ (Yp (ds.getD j .non) (es.getD j .non));rw[d1,d2];have hm:=U7 (G0e j1);have z1:Uv (D.tup ds)=G8 ds+1:=by simp only[Uv]
       refine Nr I ds[j] es[j] x1 y1 _ _ A.in1 i1 i2 (Z1 r (by simpa using h1) g1) (Z1 r' (by simpa using h2) g2) ?_ ?_
       .show A.units+1+Uv ds[j]<cLine;omega
       .show A.units+1<cLine;omega)
     rw[l1,l2,Yo]at main;exact main
    | lst es =>
     obtain⟨a',Rp,rfl,q',Jp⟩:=he;cases ry;obtain⟨its',r',Sy,_⟩:=I.list q';exact SeqAt.RcNeAt.tuple_list ht Sy.isList Yq
    | non=>cases Yr
    | bl _=>cases Yr
    | int _=>cases Yr
    | str _=>cases Yr
   | lst ds =>
    obtain⟨a,vs,rfl,q,ar⟩:=hd;cases rx;obtain⟨XD,r,hp,_⟩:=I.list q;have ht:=hp.isList;cases e with
    | lst es =>
     obtain⟨a',Rp,rfl,q',Jp⟩:=he;cases ry;obtain⟨its',r',Sy,_⟩:=I.list q';have La:=Sy.isList;have l1:XD.toArray.size=ds.length:=by rw[Vi, <-r.length, <-ar.length]
     have l2:its'.toArray.size=es.length:=by rw[Vi, <-r'.length, <-Jp.length]
     by_cases hl:ds.length=es.length
     .have main:=SeqAt.RcNeAt.lists (A:=A) (e:=fun j=>Yp (ds.getD j .non) (es.getD j .non)) ht La (by omega) Yq (fun j h1 h2=>by
       have j1:j<ds.length:=by omega
       have j2:j<es.length:=by omega
       have e1:ds[j]?=some ds[j]:=Ui j1;have e2:es[j]?=some es[j]:=Ui j2;obtain⟨x1,g1,i1⟩:=ar.get e1;obtain⟨y1,g2,i2⟩:=Jp.get e2;have d1:ds.getD j .non=ds[j]:=by simp[j1]
       have d2:es.getD j .non=es[j]:=by simp[j2]
       show SeqAt.EqAt A.in1 s _ _ (Yp (ds.getD j .non) (es.getD j .non));rw[d1,d2];have hm:=U7 (G0e j1);have z1:Uv (D.lst ds)=G8 ds+1:=by simp only[Uv]
       refine Nr I ds[j] es[j] x1 y1 _ _ A.in1 i1 i2 (Z1 r (by simpa using h1) g1) (Z1 r' (by simpa using h2) g2) ?_ ?_
       .show A.units+1+Uv ds[j]<cLine;omega
       .show A.units+1<cLine;omega)
      have al:=Yo ds es;rw[<-hl,Nat.min_self,B0s,Bool.and_true]at al;rw[l1,al]at main;exact main
     .have main:=SeqAt.RcNeAt.lists_lengths (A:=A) ht La (by rw[l1,l2];simpa using hl) Yq;have al:=Yo ds es;have hf:(ds.length == es.length)=false:=by simpa using hl
      rw[hf,Bool.and_false]at al;have z:Yp (D.lst ds) (D.lst es)=Nl ds es:=by simp only[Yp]
      rw[z, <-al];exact main
    | tup es =>
     obtain⟨a',Rp,rfl,q',Jp⟩:=he;cases ry;obtain⟨its',r',La,_⟩:=I.tuple q';exact SeqAt.RcNeAt.list_tuple ht La Yq
    | non=>cases Yr
    | bl _=>cases Yr
    | int _=>cases Yr
    | str _=>cases Yr
   | non=>cases Vq
   | bl _=>cases Vq
   | int _=>cases Vq
   | str _=>cases Vq
section
variable{X:Cx}
inductive y8(K:W.Frag)(A:Around)(x:V)(y:V)(H:Hp)(Q:VK):Prop
 | mk(d e)(Yh:Vg K H d x)(Ys:Vg K H e y)(Vt:A.units+Uv d<cLine)(C6:Q (.bl (Yp d e)) H):y8 K A x y H Q
def rEqD(K:W.Frag)(A:Around):R2:=fun x y H Q=>y8 K A x y H Q
inductive ye(K:W.Frag)(A:Around)(x:V)(y:V)(H:Hp)(Q:VK):Prop
 | mk(d e)(Yh:Vg K H d x)(Ys:Vg K H e y)(Vt:A.units+Uv d<cLine)(C6:Q (.bl (!Yp d e)) H):ye K A x y H Q
def rNeD(K:W.Frag)(A:Around):R2:=fun x y H Q=>ye K A x y H Q
theorem op_eqD:Uo X (compareOp .Eq) (rEqD X.K X.A):=by
 intro XB s Z H x y v u Q I rx ry h;obtain⟨d,e,hd,he,hu,q⟩:=h;exact rcEq_D I d e x y v u X.A hd he rx ry hu (by omega) X.prog X.w X.xe _ ⟨.bl _,H,I,rfl,q⟩
theorem op_neD:Uo X (compareOp .NotEq) (rNeD X.K X.A):=by
 intro XB s Z H x y v u Q I rx ry h;obtain⟨d,e,hd,he,hu,q⟩:=h;exact rcNe_D I d e x y v u X.A hd he rx ry hu (by omega) X.prog X.w X.xe _ ⟨.bl _,H,I,rfl,q⟩
end
abbrev nj:ZW:=fun _ _=>False
def K7(ifs:ZC)(env:Env):Sem Bool :=
 forIn ifs true fun c r=>if r=true then (isTrue c env (eval c env) >>= fun b=>pure (ForInStep.yield b)) else pure (ForInStep.yield r)
section
variable(prog:Program)(w:World)(A:Around)(tg elt:Expr)(ifs:ZC)(env:Env)(it acc:Value)
def TurnEnd(nxt:Shared->Prop)(ok:Bool)(s:Shared):Prop :=
 if ok=true then wpAny (model prog w) A (eval elt env) (fun y s1=>wpAny (model prog w) A (call (.builtin "list.append") [acc,y]) (fun _ s2=>nxt s2) nj s1) nj s else nxt s
def cf(nxt:Shared->Prop)(v:Value)(s:Shared):Prop :=
 wpAny (model prog w) A (letOwnedTupleGo tg it v) (fun _ s1=>wpAny (model prog w) A (assign tg env v) (fun _ s2=>wpAny (model prog w) A (K7 ifs env) (TurnEnd prog w A elt env acc nxt) nj s2) nj s1) nj s
end
theorem Fx{prog:Program}{w:World}{A:Around}{R:Result->Shared->Prop}{s:Shared}{elt tg iter:Expr}{ifs:ZC}{scope:Scope}{pos:Pos}{it acc:Value}{env:Env}(W:Nat->Shared->Prop)
  (turn:∀m s1,W m s1->wpAny (model prog w) A (pyNext it) (fun r s2=>r.elim (R (.ok .next) s2) fun v=>cf prog w A tg elt ifs env it acc (fun s3=>∃m',m'<m/\W m' s3) v s2) nj s1)
  (m:Nat) (start:W m s):codeAny (model prog w) A (.compLoop (.ListComp elt [⟨tg,iter,ifs,0⟩] scope pos) 0 it acc env) R s:=by
 refine codeAny_loop rfl W (fun k s1 hw=>?_) m start;refine wpAny_noted (env:=env) (m:=compTurn (.ListComp elt [⟨tg,iter,ifs,0⟩] scope pos) 0 it acc env) ?_;rw[compTurn_list];refine Zv (wpAny_standAt (Zv (wpAny_mono (turn k s1 hw) (fun r s2 q=>?_) fun _ _ z=>z.elim)));cases r with
 | none=>exact Yt q
 | some v =>
  have q:cf prog w A tg elt ifs env it acc (fun s3=>∃m',m'<k/\W m' s3) v s2:=q;refine Zv (wpAny_mono q (fun _ s3 q3=>Zv (wpAny_mono q3 (fun _ s4 q4=>Zv (wpAny_mono q4 (fun ok s5 q5=>?_) fun _ _ z=>z.elim)) fun _ _ z=>z.elim)) fun _ _ z=>z.elim);cases ok with
  | false=>exact Yt ⟨rfl,q5⟩
  | true=>exact Zv (Zv (wpAny_mono q5 (fun y s6 q6=>Zv (wpAny_mono q6 (fun _ s7 q7=>Yt (Yt ⟨rfl,q7⟩)) fun _ _ z=>z.elim)) fun _ _ z=>z.elim))
noncomputable def Ym(env:Env):ZK->List (Str×Addr)->List (Str×Addr)
 | [],cs=>cs
 | (n,k)::r,cs=>Ym env r (if k == .free then (n,(env.cells.lookup n).getD 0)::cs else cs)
noncomputable def Z0(X:Cx)(scope:Scope)(N:ZD)(fp:ZU)(s:Shared)(H:Hp):Cx :=
 { X with N:=N,s₀:=s,H₀:=H,env:=compEnvC scope (Ym X.env scope.names []) s.heap.objs.size X.env,outer:=X.stack,stack:=X.stack,ex:=fp,fn:=fun _=>false,pn:=[],xe:=nj }
structure Ki(X:Cx)(scope:Scope)(N:ZD)(fr:ZG):Prop where
 clos:closureFor scope X.env=pure (Ym X.env scope.names [])
 kind:scope.kind=.function
 nocell:∀y∈scope.names,y.2≠.cell
 names:∀y∈scope.names,y.2=.local->scope.names.lookup y.1=some .local
 cells:∀x c,(Ym X.env scope.names []).lookup x=some c->X.env.cells.lookup x=some c
 has:∀x,((relabel scope X.env).names.lookup x=some .cell\/(relabel scope X.env).names.lookup x=some .free)->∃c,(Ym X.env scope.names []).lookup x=some c
 len:fr.length=N.length
 fr:∀(i j:Nat),fr[i]?=some (some j)->∃x,N[i]?=some x/\X.N[j]?=some x/\Vis X.env.scope x/\¬ X.env.kindOf x=some .local/\((relabel scope X.env).names.lookup x=some .cell\/(relabel scope X.env).names.lookup x=some .free)
noncomputable def frees(fr:ZG)(Z:St):St:=fr.map fun o=>o.bind fun i=>(Z[i]?).bind id
theorem Jf(fr:ZG)(Z:St):(frees fr Z).length=fr.length:=Yn _
theorem xk{fr:ZG}{Z:St}{i:Nat}{v:V}(h:(frees fr Z)[i]?=some (some v)):∃j,fr[i]?=some (some j)/\Z[j]?=some (some v):=by
 unfold frees at h;rw[Fu]at h;cases e:fr[i]? with
 | none=>rw[e]at h;cases h
 | some o =>
  rw[e]at h;cases o with
  | none=>cases h
  | some j =>
   refine⟨j,rfl, ?_⟩;have h':(Z[j]?).bind id=some v:=G0 h;cases e2:Z[j]? with
   | none=>rw[e2]at h';cases h'
   | some o2=>rw[e2]at h';exact congrArg some h'
theorem Bz{scope:Scope}{env:Env}{x:Str}{k:NameKind}(h:(relabel scope env).names.lookup x=some k):∃k0,(x,k0)∈scope.names/\(k=k0\/(k0=.free/\k=.cell)):=by
 have hm:=PySem.mem_of_lookup h;obtain⟨⟨n,k0⟩,h1,h2⟩:=B8.mp (show (x,k)∈scope.names.map _ from hm);dsimp only at h2
 split at h2
 .rename_i hc
  cases h2;simp only[Y6,beq_iff_eq]at hc;exact⟨k0,h1,.inr ⟨hc.1.1,rfl⟩⟩
 .cases h2;exact⟨k,h1,.inl rfl⟩
noncomputable def Ew(outer scope:Scope):Bool :=
 decide (scope.kind=.function) && scope.names.all fun y=>decide (y.2≠.cell) && (decide (y.2≠.local) || decide (scope.names.lookup y.1=some .local)) &&
  (decide (y.2≠.free) || decide (outer.names.lookup y.1=some .cell) || decide (outer.names.lookup y.1=some .free))
noncomputable def Jb(NX:ZD)(names:ZK):ZD->ZG->Bool
 | [],[]=>true
 | _::N,none::fr=>Jb NX names N fr
 | x::N,some j::fr=>decide (NX[j]?=some x) && decide (names.lookup x=some .free) && Jb NX names N fr
 | _,_=>false
theorem Mr{NX:ZD}{names:ZK}:∀{N:ZD} {fr:ZG},Jb NX names N fr=true->fr.length=N.length
 | [],[],_=>rfl
 | [],_::_,h=>by simp[Jb]at h
 | _::_,[],h=>by simp[Jb]at h
 | x::N,none::fr,h=>by
  simp only[Jb]at h;simp only[B9,Mr h]
 | x::N,some j::fr,h=>by
  simp only[Jb,Y6]at h;simp only[B9,Mr h.2]
theorem U5{NX:ZD}{names:ZK}:∀{N:ZD} {fr:ZG} {i j:Nat},Jb NX names N fr=true->fr[i]?=some (some j)->∃x,N[i]?=some x/\NX[j]?=some x/\names.lookup x=some .free
 | [],[],_,_,_,e=>by simp at e
 | [],_::_,_,_,h,_=>by simp[Jb]at h
 | _::_,[],_,_,h,_=>by simp[Jb]at h
 | x::N,none::fr,0,_,_,e=>by simp at e
 | x::N,none::fr,i+1,j,h,e=>by
  simp only[Jb]at h;obtain⟨y,h1,h2⟩:=U5 (i:=i) h (by simpa using e);exact⟨y,by simpa using h1,h2⟩
 | x::N,some k::fr,0,j,h,e=>by
  simp only[Jb,Y6,decide_eq_true_eq]at h;simp at e;subst e;exact⟨x,rfl,h.1.1,h.1.2⟩
 | x::N,some k::fr,i+1,j,h,e=>by
  simp only[Jb,Y6]at h;obtain⟨y,h1,h2⟩:=U5 (i:=i) h.2 (by simpa using e);exact⟨y,by simpa using h1,h2⟩
theorem Vd{f:Str->NameKind->NameKind}(x:Str):∀names:ZK,(names.map fun p=>(p.1,f p.1 p.2)).lookup x=(names.lookup x).map (f x)
 | []=>rfl
 | (n,k)::r=>by
  have ih:=Vd (f:=f) x r;cases e:x == n with
  | false =>
   simp only[C8,List.lookup_cons,e];exact ih
  | true =>
   have e':x=n:=by simpa using e
   simp only[C8,List.lookup_cons,e,Option.map_some];rw[e']
theorem Dy(scope:Scope)(env:Env):(relabel scope env).names=scope.names.map fun p=>(p.1,if (p.2 == NameKind.free && env.scope.kind == .function && env.kindOf p.1 == some .cell)=true then NameKind.cell else p.2):=by
 show scope.names.map _=_;refine List.map_congr_left fun p _=>?_;obtain⟨n,k⟩:=p;dsimp only
 split<;>rfl
theorem G5{scope:Scope}{env:Env}{x:Str}(h:scope.names.lookup x=some .free):(relabel scope env).names.lookup x=some .cell\/(relabel scope env).names.lookup x=some .free:=by
 rw[Dy,Vd (f:=fun n k=>if (k == NameKind.free && env.scope.kind == .function && env.kindOf n == some .cell)=true then NameKind.cell else k),h];dsimp only[Option.map_some]
 split
 .exact .inl rfl
 .exact .inr rfl
theorem Cg{env:Env}:∀{names:ZK} {cs:List (Str×Addr)},(∀y∈names,y.2=.free->∃c,env.cells.lookup y.1=some c)->(∀p∈cs,env.cells.lookup p.1=some p.2)->∀p∈Ym env names cs,env.cells.lookup p.1=some p.2
 | [],cs,_,hc,p,hp=>hc p hp
 | (n,k)::r,cs,hn,hc,p,hp=>by
  simp only[Ym]at hp;refine Cg (fun y hy=>hn y (Y7 _ hy)) (fun q hq=>?_) p hp
  split at hq
  .rename_i hk
   rcases Yw.mp hq with e | hq
   .obtain⟨c,n5⟩:=hn (n,k) Y5 (by simpa using hk);subst e;dsimp only at n5 ⊢;rw[n5]
    rfl
   .exact hc q hq
  .exact hc q hq
theorem Ck{env:Env}:∀{names:ZK} {cs:List (Str×Addr)} {p:Str×Addr},p∈cs->p∈Ym env names cs
 | [],_,_,h=>h
 | (n,k)::r,cs,p,h=>by
  simp only[Ym];refine Ck ?_
  split
  .exact Y7 _ h
  .exact h
theorem Cf{env:Env}:∀{names:ZK} {cs:List (Str×Addr)} {x:Str},(x,NameKind.free)∈names->∃c,(x,c)∈Ym env names cs
 | (n,k)::r,cs,x,h=>by
  rcases Yw.mp h with e | h
  .cases e;exact⟨_,by simp only[Ym,B0s,if_true];exact Ck Y5⟩
  .simp only[Ym];exact Cf h
theorem Dg{Z:Type}:∀{l:List (Str×Z)} {x:Str} {b:Z},(x,b)∈l->∃c,l.lookup x=some c
 | (n,c)::r,x,b,h=>by
  cases hx:x == n with
  | true=>exact⟨c,by simp only[List.lookup_cons,hx]⟩
  | false =>
   rcases Yw.mp h with e | h
   .cases e;simp at hx
   .obtain⟨d,hd⟩:=Dg h;exact⟨d,by simp only[List.lookup_cons,hx];exact hd⟩
theorem Rb{scope:Scope}{env:Env}(h:∀y∈scope.names,y.2=.free->∃c,env.cells.lookup y.1=some c):closureFor scope env=pure (Ym env scope.names []):=by
 have go:∀(names:ZK) (cs:List (Str×Addr)),(∀y∈names,y.2=.free->∃c,env.cells.lookup y.1=some c) ->
   (forIn names cs fun x cs=>(do
    if x.2 == NameKind.free then pure (ForInStep.yield ((x.1, <-cellOf env x.1)::cs)) else pure (ForInStep.yield cs):Sem (ForInStep (List (Str×Addr)))))=pure (Ym env names cs):=by
  intro names
  induction names with
  | nil=>intro cs _;rfl
  | cons y r ih =>
   intro cs hn;obtain⟨n,k⟩:=y;have hr:∀y∈r,y.2=.free->∃c,env.cells.lookup y.1=some c:=fun y hy=>hn y (Y7 _ hy);rw[List.forIn_cons];by_cases hk:k=.free
   .subst hk;obtain⟨c,hc⟩:=hn (n,.free) Y5 rfl
    have ec:cellOf env n=pure c:=by
     unfold cellOf;dsimp only at hc;rw[hc]
    simp only[B0s,if_true,ec,pure_bind,Ym];rw[ih _ hr];dsimp only at hc;rw[hc]
    rfl
   .have hb:(k == NameKind.free)=false:=by simpa using hk
    simp only[hb,B0f,if_false,pure_bind,Ym];exact ih _ hr
 have:=go scope.names [] h;unfold closureFor;simp only[bind_pure_comp]at this ⊢
 first
  | exact this
  | (simpa using this)
structure Fi(X:Cx)(NX:ZD)(outer scope:Scope)(N:ZD)(fr:ZG):Prop where
 nx:X.N=NX
 sc:X.env.scope.names=outer.names
 ok1:Ew outer scope=true
 ok2:Jb NX scope.names N fr=true
theorem Fi.ok{X:Cx}{NX:ZD}{outer scope:Scope}{N:ZD}{fr:ZG}(C:Fi X NX outer scope N fr)(ok:X.Ok):Ki X scope N fr:=by
 have h1:=C.ok1;unfold Ew at h1;simp only[Y6,decide_eq_true_eq,K0,Bool.or_eq_true]at h1;obtain⟨hk,hn⟩:=h1
 have kof:∀x,X.env.kindOf x=outer.names.lookup x:=fun x=>by
  show X.env.scope.names.lookup x=_;rw[C.sc]
 have Pt:∀y∈scope.names,y.2=.free->X.env.kindOf y.1=some .cell\/X.env.kindOf y.1=some .free:=fun y hy e=>by
  rcases(hn y hy).2 with (z | z) | z
  .exact absurd e z
  .exact .inl ((kof _).trans z)
  .exact .inr ((kof _).trans z)
 have Ph:∀y∈scope.names,y.2=.free->∃c,X.env.cells.lookup y.1=some c:=fun y hy e=>ok.has y.1 (Pt y hy e);refine⟨Rb Ph,hk,fun y hy=>(hn y hy).1.1,fun y hy e=>?_,fun x c e=>?_,fun x h=>?_,Mr C.ok2,fun i j e=>?_⟩
 .rcases(hn y hy).1.2 with z | z
  .exact absurd e z
  .exact z
 .exact Cg Ph (fun p hp=>by cases hp) (x,c) (PySem.mem_of_lookup e)
 .have hm:(x,NameKind.free)∈scope.names:=by
   rcases h with h | h
   .obtain⟨k0,h1,h2⟩:=Bz h;rcases h2 with h2 | ⟨h2,_⟩
    .exact absurd h2.symm (hn _ h1).1.1
    .subst h2;exact h1
   .obtain⟨k0,h1,h2⟩:=Bz h;rcases h2 with h2 | ⟨_,h2⟩
    .subst h2;exact h1
    .cases h2
  obtain⟨c,hc⟩:=Cf (env:=X.env) (cs:=[]) hm;exact Dg hc
 .obtain⟨x,q1,q2,q3⟩:=U5 C.ok2 e;have hm:=PySem.mem_of_lookup q3;have hf:=Pt (x,.free) hm rfl;refine⟨x,q1,by rw[C.nx];exact q2, ?_, ?_,G5 q3⟩
  .exact .inr hf
  .intro z;dsimp only at hf;rw[z]at hf;rcases hf with hf | hf<;>cases hf
section
variable{X:Cx}{scope:Scope}{N:ZD}{fr:ZG}{XB:ZY}{Z:St}{H:Hp}{s:Shared}{fp:ZU}
theorem mw(C:Ki X scope N fr)(I:Inv X XB Z H s)(hf:∀b∈fp,M5 X XB H b)(hob:∀b∈fp,∃o,s.heap.get? b=some o){h1:Heap}{tk:Nat}
  (ni:h1.Ns s.heap.objs.size fun _=>none) (hk:∀b o,s.heap.get? b=some o->h1.get? b=some o) :
  Inv (Z0 X scope N fp s H) [] (frees fr Z) H { s with heap:=h1,toks:=tk }:=by
 have lt:∀b∈fp,b<s.heap.objs.size:=fun b hb=>let ⟨_,e⟩:=hob b hb;Vb e;have cellK:∀x c,(Ym X.env scope.names []).lookup x=some c->∃v,s.heap.IsCell c v:=fun x c e=>I.cell x c (C.cells x c e);have ck:∀c v,s.heap.IsCell c v->h1.IsCell c v:=fun c v ⟨o,e,d⟩=>⟨o,hk c o e,d⟩
 refine⟨⟨I.ok.mod,C.kind,I.ok.glob,I.ok.blt,Yg _,fun x y c e1 e2=>I.ok.inj x y c (C.cells x c e1) (C.cells y c e2),fun x h=>C.has x h,fun x c h _=>absurd h D2,I.ok.hd,I.ok.frames,.inl rfl,
   fun b hb=>⟨N0 (lt b hb),fun x c e=>(hf b hb).2.2.2.2.1 x c (C.cells x c e)⟩,I.bs,Ve I.ok.bsz I.sz,fun b o e hb=>?_,fun b hb hb'=>?_,I.stack,I.stkFree⟩,
  rfl,I.bare,Un.kept hk,⟨_,ni,fun i x v e1 e2 e3=>?_⟩,fun x c e=>?_,I.hok.fresh (Yg _),fun x c e=>I.freeC x c (C.cells x c e),fun p hp=>absurd (show p∈([]:ZY) from hp) (by simp),I.hok.kept hk, ?_⟩
 .rcases(hf b hb).2.2.2.1 with z | z
  .exact I.ok.noex b o e z
  .exact absurd (Wp (Vb (I.ok.bs b o e).1) z) (Nat.lt_irrefl _)
 .rcases Yw.mp (I.stkSub b hb') with z | z
  .exact(hf b hb).2.1 z
  .exact(hf b hb).2.2.1 z
 .obtain⟨j,q1,q2⟩:=xk e2;obtain⟨x',n1,n2,vis,nl,k⟩:=C.fr i j q1;have ex:x=x':=G0 (e1.symm.trans n1);subst ex;obtain⟨m,hm,hl⟩:=I.loc;obtain⟨u,r,l⟩:=hl j x v n2 q2 vis;refine⟨u,r, ?_⟩;rcases l with ⟨l1,_⟩ | ⟨_,c,l2,l3⟩
  .exact absurd l1 nl
  .obtain⟨c',n5⟩:=C.has x k;have ec:=C.cells x c' n5;rw[l2]at ec;have ec':c=c':=G0 ec;subst ec';exact .inr ⟨k,c,n5,ck c _ l3⟩
 .obtain⟨v,z⟩:=cellK x c e;exact⟨v,ck c v z⟩
 .show (frees fr Z).length=N.length;rw[Jf,C.len]
theorem Ee(I:Inv X XB Z H s)(hf:∀b∈fp,M5 X XB H b){σ':St}{H':Hp}{s':Shared}(J:Inv (Z0 X scope N fp s H) [] σ' H' s'):Inv X XB Z H' s' :=
 I.call' (ch:=fp) J.os J.base J.hok J.bare fun b hb=>⟨(hf b hb).2.2.2.1,(hf b hb).2.1,(hf b hb).2.2.2.2.1,(hf b hb).2.2.2.2.2⟩
end
def PTs(X:Cx)(ifs:ZC)(t:TT):Prop :=
 ∀(XB:ZY) (s:Shared) (Z:St) (H:Hp) (Q:Bool->Hp->Prop),Inv X XB Z H s->t Z H Q ->
  wpAny (model X.prog X.w) X.A (K7 ifs X.env) (TP X XB Z Q) X.xe s
def Hx:TT:=fun _ H Q=>Q true H
theorem Aj{X:Cx}:PTs X [] Hx:=fun _ _ _ H _ I h=>wpAny_tests_nil ⟨H,I,h⟩
theorem Aq{X:Cx}{c:Expr}{t:TT}(h:PT X c t):PTs X [c] t:=fun XB s Z H Q I hw=>wpAny_tests_one (h XB s Z H Q I hw)
def Zqc(J:It)(g:TG)(tt:TT)(te:TE)(D:Addr)(W:Nat->Nat->ZQ->St->Hp->Prop)(fin:Hp->Prop):Prop :=
 ∀i m ys Z H,W i m ys Z H->H D=some (.lst ys)/\((J.stop i H/\fin H)\/(J.go i H/\∃N:ZQ->St->Hp->Prop,(∀ys' σ' H',N ys' σ' H'->∃m',m'<m/\W (i+1) m' ys' σ' H') /\
  ∀x H',J.yld i H x H'->g x Z H' fun σ2 H2=>tt σ2 H2 fun ok H3 =>
   if ok=true then te σ2 H3 fun y H4=>H4 D=some (.lst ys)/\ys.length<sizeLine/\N (ys++[y]) σ2 (upd H4 D (.lst (ys++[y]))) else N ys σ2 H3))
abbrev DG:=ZU->Shared->Hp->TG
abbrev DT:=ZU->Shared->Hp->TT
abbrev DE:=ZU->Shared->Hp->TE
def vx(wi:TI)(fr:ZG)(g:DG)(tt:DT)(te:DE):TE:=fun Z H Q=>wi Z H fun J H1=>∀D fp sx,H1 D=none ->
 ∃W:Nat->Nat->ZQ->St->Hp->Prop,(∃m,W 0 m [] (frees fr Z) (upd H1 D (.lst [])))/\Zqc J (g fp sx (upd H1 D (.lst []))) (tt fp sx (upd H1 D (.lst []))) (te fp sx (upd H1 D (.lst []))) D W (fun H=>Q (.ref D) H)
section
variable{X:Cx}{scope:Scope}{N:ZD}{fr:ZG}{tg elt iter:Expr}{ifs:ZC}{pos:Pos}{wi:TI}{g:DG}{tt:DT}{te:DE}
theorem Oj{XB:ZY}{Z:St}{s2:Shared}{it:Addr}{fp:ZU}{tn:Nat->Heap->Prop}{J:It}{H2:Hp}{RR:Value->Addr->Result->Shared->Prop}{E:ZW}
  (hc:X.calm=true) (C:Ki X scope N fr)
  (hg:∀fp s H,PG (Z0 X scope N fp s H) tg (g fp s H)) (ht:∀fp s H,PTs (Z0 X scope N fp s H) ifs (tt fp s H)) (he:∀fp s H,PE (Z0 X scope N fp s H) elt (te fp s H))
  (I2:Inv X XB Z H2 s2) (T:Turn X.prog X.w X.K tg J fp it tn) (st2:tn 0 s2.heap) (f2:∀b∈fp,M5 X XB H2 b) {fin:Addr->Hp->Prop}
  (hW:∀D fp sx,H2 D=none->∃W:Nat->Nat->ZQ->St->Hp->Prop,(∃m,W 0 m [] (frees fr Z) (upd H2 D (.lst [])))/\Zqc J (g fp sx (upd H2 D (.lst []))) (tt fp sx (upd H2 D (.lst []))) (te fp sx (upd H2 D (.lst []))) D W (fin D))
  (m9:∀D Cc s' σ' H' m,Inv X XB Z H' s'->H' Cc=none->Cc≠X.env.locals->Cc ∉ X.fs->X.s₀.heap.objs.size<=Cc->(∀x c,X.env.cells.lookup x=some c->c≠Cc)->(∀p∈X.pn++XB,p.1≠Cc)->s'.heap.Ns Cc m->fin D H' ->
   RR (.ref D) Cc (.ok σ') s') :
  wpAny (model X.prog X.w) X.A (newList []) (fun acc s₃=>wpAny (model X.prog X.w) X.A (newFunctionEnv scope X.env.globals (Ym X.env scope.names []) [] X.env.qual none .none (some X.env)) (fun cenv s₄ =>
   codeAny (model X.prog X.w) X.A (.compStart (.ListComp elt [⟨tg,iter,ifs,0⟩] scope pos) 0 (.ref it) acc { cenv with scope:=relabel scope X.env }) (RR acc cenv.locals) s₄) E s₃) E s2:=by
 refine wpAny_newObj_type (wpAny_newFunctionEnv C.nocell (by intro y hy;simp at hy) (fun h₁ hns₁ hsb₁=>?_) C.kind);dsimp only at hns₁ hsb₁ ⊢
 have I3:Inv X XB Z (upd H2 s2.heap.objs.size (.lst [])) { s2 with heap:=s2.heap.push { cls:=.type "list",dict:=none,data:=.seq ([]:ZM).toArray } } :=
  I2.laid (t':=s2.toks) (fun b o e=>Y9 _ e) (Yg _) ⟨Ju _,[],0,.nil,Dj _ rfl⟩
 have hD:H2 s2.heap.objs.size=none:=I2.hok.fresh (Yg _);obtain⟨W,⟨m0,w0⟩,turn⟩:=hW _ fp { s2 with heap:=s2.heap.push { cls:=.type "list",dict:=none,data:=.seq ([]:ZM).toArray } } hD;generalize hDD:s2.heap.objs.size=D at *;generalize hS3:({ s2 with heap:=s2.heap.push { cls:=.type "list",dict:=none,data:=.seq ([]:ZM).toArray } }:Shared)=S3 at *;have hS3h:s2.heap.push { cls:=.type "list",dict:=none,data:=.seq ([]:ZM).toArray }=S3.heap:=by rw[<-hS3]
 rw[hS3h]at hns₁ hsb₁ ⊢;have obj2:=T.obj 0 _ st2
 have nD:∀b∈fp,b≠D:=fun b hb z=>by
  obtain⟨o,e,_⟩:=obj2 b hb;have q:=Vb e;rw[hDD,z]at q;exact absurd q (Nat.lt_irrefl _)
 have f3:∀b∈fp,M5 X XB (upd H2 D (.lst [])) b:=fun b hb=>⟨by rw[Zz (nD b hb)];exact(f2 b hb).1,(f2 b hb).2⟩
 have ob3:∀b∈fp,∃o,S3.heap.get? b=some o:=fun b hb=>by
  obtain⟨o,e,_⟩:=obj2 b hb;exact⟨o,by rw[<-hS3h];exact Y9 _ e⟩
 have st3:tn 0 S3.heap:=T.keep _ _ _ st2 fun b hb o e=>by rw[<-hS3h];exact Y9 _ e
 have hk1:∀b o,S3.heap.get? b=some o->h₁.get? b=some o:=fun b o e=>hsb₁.extBut b o (N0 (Vb e)) (Y9 _ e);have J1:Inv (Z0 X scope N fp S3 (upd H2 D (.lst []))) [] (frees fr Z) (upd H2 D (.lst [])) { S3 with heap:=h₁,toks:=s2.toks+([]:List (Str×Value)).length }:=mw C I3 f3 ob3 hns₁ hk1;have st4:tn 0 h₁:=T.keep _ _ _ st3 fun b hb o e=>hk1 b o e;have es:({ s2 with heap:=h₁,toks:=s2.toks+([]:List (Str×Value)).length }:Shared)={ S3 with heap:=h₁,toks:=s2.toks+([]:List (Str×Value)).length }:=by rw[<-hS3]
 have FpC:∀{H':Hp},(∀b∈fp,H' b=none)->∀b∈fp,M5 (Z0 X scope N fp S3 (upd H2 D (.lst []))) [] H' b:=fun hn b hb =>
  ⟨hn b hb,(J1.ok.exf b hb).1,J1.ok.exfs b hb,.inl hb,(J1.ok.exf b hb).2,fun p hp=>absurd (show p∈([]:ZY) from hp) (by simp)⟩
 have loop:codeAny (model X.prog X.w) X.A (.compLoop (.ListComp elt [⟨tg,iter,ifs,0⟩] scope pos) 0 (.ref it) (.ref D) (Z0 X scope N fp S3 (upd H2 D (.lst []))).env) (RR (.ref D) S3.heap.objs.size)
   { S3 with heap:=h₁,toks:=s2.toks+([]:List (Str×Value)).length }:=by
  refine Fx (fun n s'=>∃i ys σ' H',Inv (Z0 X scope N fp S3 (upd H2 D (.lst []))) [] σ' H' s'/\tn i s'.heap/\(∀b∈fp,H' b=none)/\W i n ys σ' H') ?_ m0 ⟨0,[],_,_,J1,st4,fun b hb=>(f3 b hb).1,w0⟩;rintro n s5 ⟨i,ys,σ5,H5,J5,st5,fr5,w5⟩;obtain⟨hDl,alt⟩:=turn i n ys σ5 H5 w5;rcases alt with ⟨stop,fi⟩ | ⟨go,NN,hNN,step⟩
  .refine Z3 (T.done (Z0 X scope N fp S3 (upd H2 D (.lst []))) rfl rfl rfl hc i [] s5 σ5 H5 nj J5 (FpC fr5) st5 stop) fun r s6 ⟨hr,J6⟩=>?_;subst hr;show RR (.ref D) S3.heap.objs.size (.ok .next) s6;have I6:=Ee I3 f3 J6;obtain⟨mm,hmm,_⟩:=J6.loc;refine m9 D _ s6 _ H5 mm I6 J6.free ?_ ?_ ?_ ?_ ?_ hmm fi
   .exact Nat.ne_of_gt I3.lt
   .exact I3.nofs (Yg _)
   .exact I3.sz
   .intro x c e z;obtain⟨v,q⟩:=I3.cell x c e;exact absurd q.lt (by rw[z];exact Nat.lt_irrefl _)
   .intro p hp z;exact absurd (Vb (I3.pin p hp).1) (by rw[z];exact Nat.lt_irrefl _)
  .refine Z3 (T.item (Z0 X scope N fp S3 (upd H2 D (.lst []))) rfl rfl rfl hc i [] s5 σ5 H5 nj J5 (FpC fr5) st5 go) fun r s6 ⟨u,hr,h6⟩=>?_;subst hr;refine Z3 (Q:=_) h6 fun _ s7 ⟨x,H7,J7,r7,y7,st7,fr7⟩=>?_;have J7':=J7.pinned (FpC fr7) (T.obj _ _ st7)
   have back:∀{σ9:St} {H9:Hp} {s9:Shared},Inv (Z0 X scope N fp S3 (upd H2 D (.lst []))) ([]++Ta fp s7.heap) σ9 H9 s9->tn (i+1) s9.heap/\∀b∈fp,H9 b=none:=fun {σ9 H9 s9} J9 =>
    ⟨T.keep _ _ _ st7 fun b hb o e=>(J9.pin (b,o) (qg _ (qg _ (Jy hb e)))).1,fun b hb=>by
     obtain⟨o,e,d⟩:=T.obj _ _ st7 b hb;exact(J9.pin (b,o) (qg _ (qg _ (Jy hb e)))).2.1⟩
   refine Z3 (hg fp S3 _ _ s7 σ5 H7 x u _ J7' r7 (step x H7 y7)) fun _ s8 ⟨σ8,H8,J8,q8⟩=>?_;refine Z3 (ht fp S3 _ _ s8 σ8 H8 _ J8 q8) fun ok s9 ⟨H9,J9,q9⟩=>?_;cases ok with
   | false =>
    rw[if_neg D2]at q9;unfold TurnEnd;rw[if_neg D2];obtain⟨m',hm,w9⟩:=hNN _ _ _ q9;exact⟨m',hm,i+1,ys,σ8,H9,J9.unpinned,(back J9).1,(back J9).2,w9⟩
   | true =>
    rw[if_pos rfl]at q9;unfold TurnEnd;rw[if_pos rfl];refine Z3 (he fp S3 _ _ s9 σ8 H9 _ J9 q9) fun yv s10 ⟨y,H10,J10,r10,hD10,hz,n10⟩=>?_;obtain⟨m',hm,w10⟩:=hNN _ _ _ n10;refine Z3 (Wx (X:=Z0 X scope N fp S3 (upd H2 D (.lst []))) _ s10 σ8 H10 (.ref D) [y] (.ref D) [yv] (fun _ H'=>H'=upd H10 D (.lst (ys++[y]))) J10 rfl (.cons r10 .nil) ⟨D,ys,y,rfl,rfl,hD10,hz,rfl⟩) fun _ s11 ⟨v11,H11,J11,_,e11⟩=>?_;subst e11;exact⟨m',hm,i+1,ys++[y],σ8,_,J11.unpinned,(back J11).1,(back J11).2,w10⟩
 rw[es];exact codeAny_compStart_list loop (T.self _ 0 _ _ _ st4 loop)
theorem au{NX:ZD}{outer:Scope}(hc:X.calm=true)(hi:PI X tg iter wi)(C:Fi X NX outer scope N fr)
  (hg:∀fp s H,PG (Z0 X scope N fp s H) tg (g fp s H)) (ht:∀fp s H,PTs (Z0 X scope N fp s H) ifs (tt fp s H)) (he:∀fp s H,PE (Z0 X scope N fp s H) elt (te fp s H))
  (hs:∀x,foldedSetIterable iter X.env x=pure x:=by intro _;rfl):PE X (.ListComp elt [⟨tg,iter,ifs,0⟩] scope pos) (vx wi fr g tt te):=by
 intro XB s Z H Q I h;have C:=C.ok I.ok;rw[eval_ListComp];refine wpAny_comprehension_free (use:=none) rfl hs C.clos C.kind C.names (Z3 (hi XB s Z H _ I h) fun v s1 h1=>Z3 h1 fun itv s2 h2=>?_);obtain⟨it,fp,tn,J,H2,e,I2,T,st2,f2,hW⟩:=h2;subst e;refine Oj (RR:=fun acc Cc=>compPost (model X.prog X.w) X.A X.xe none (EP X XB Z Q) acc Cc) hc C hg ht he I2 T st2 f2 hW ?_;intro D Cc s' fl H' m I' f0 f1 f2' f3 f4 f5 ni fi;refine⟨m,ni,fun h' sb=>?_⟩;exact⟨.ref D,H',I'.turned (t':=s'.toks) (fun b o hb e=>(sb.2 b hb).trans e) f0 f1 (.inr f3) f4 f5,rfl,fi⟩
theorem Em{NX:ZD}{outer:Scope}{i:Nat}{x:Str}{pos' U3:Pos}(hN:X.N.Nodup)(hix:X.N[i]?=some x)(hx:Loc X.env.scope x)(hc:X.calm=true)(hi:PI X tg iter wi)(C:Fi X NX outer scope N fr)
  (hg:∀fp s H,PG (Z0 X scope N fp s H) tg (g fp s H)) (ht:∀fp s H,PTs (Z0 X scope N fp s H) ifs (tt fp s H)) (he:∀fp s H,PE (Z0 X scope N fp s H) elt (te fp s H))
  (hsw:swapsWith (.ListComp elt [⟨tg,iter,ifs,0⟩] scope pos) (some (.Name x pos')) U3.line X.env=pure true:=by rfl)
  (hs:∀x,foldedSetIterable iter X.env x=pure x:=by intro _;rfl) (hf:X.fn x=true\/X.env.scope.names.lookup x=some .local:=by first | exact .inl rfl | exact .inr rfl | assumption) :
  PS X (.Assign [.Name x pos'] (.ListComp elt [⟨tg,iter,ifs,0⟩] scope pos) U3) (tAsg (vx wi fr g tt te) (dg i)):=by
 intro XB s Z H Dd I h;have C:=C.ok I.ok;rw[exec_Assign_Name_used _ _ _ _ hsw];refine Zv (wpAny_standAt (Zv ?_));show wpAny _ X.A (do let _ <-comprehension (.ListComp elt [⟨tg,iter,ifs,0⟩] scope pos) scope X.env _ (newList []) false (eval iter X.env) (some (assign (.Name x pos') X.env))) _ _ s
 refine Zv (wpAny_mono (wpAny_comprehension_free (use:=some (assign (.Name x pos') X.env)) (Q:=fun _ s'=>SP X XB Dd .next s') rfl hs C.clos C.kind C.names
  (Z3 (hi XB s Z H _ I h) fun v s1 h1=>Z3 h1 fun itv s2 h2=>?_)) (fun _ s' hq=>Yt (Yt hq)) fun _ _ e=>e)
 obtain⟨it,fp,tn,J,H2,e,I2,T,st2,f2,hW⟩:=h2;subst e;refine Oj (RR:=fun acc Cc=>compPost (model X.prog X.w) X.A X.xe (some (assign (.Name x pos') X.env)) (fun _ s'=>SP X XB Dd .next s') acc Cc) hc C hg ht he I2 T st2 f2 hW ?_;intro D Cc s' fl H' m I' f0 f1 f2' f3 f4 f5 ni fi;show wpAny _ X.A (assign (.Name x pos') X.env (.ref D)) _ _ _;refine wpAny_assign_Name (R1 (v:=.ref D) I' hN hix hx rfl (fun s3 I3 ⟨a,sb,ha⟩=>?_) hf)
 have na:Cc≠a:=by
  rcases ha with z | z
  .rw[z];exact f1
  .exact fun q=>f4 x a z q.symm
 refine⟨m,ni.sameBut sb na,fun h' sb'=>?_⟩;exact⟨_,H',I3.turned (t':=s3.toks) (fun b o hb e=>(sb'.2 b hb).trans e) f0 f1 (.inr f3) f4 f5,fi⟩
end
end L2
namespace SetM
open PySem
section
variable{prog:Program}{w:World}{K:Type}[DecidableEq K](knd:KeyKind prog w K)
variable{knd}{A:Around}{E:ZW}{s:Shared}{a:Addr}
end
end SetM
namespace SetM
open PySem PyProof.Rows
section
variable{prog:Program}{w:World}{K:Type}[DecidableEq K]{knd:KeyKind prog w K}
variable{A:Around}{R:Result->Shared->Prop}{I:Addr}{fp wr:ZU}{G:Array GenState->Array GenState->Prop}{n:Nat}{P:Nat->Value->Prop}{St:Nat->Shared->Prop}
end
section
variable{prog:Program}{w:World}{A:Around}{E:ZW}{s:Shared}
variable{K:Type}[DecidableEq K]{knd:KeyKind prog w K}
end
section
variable{prog:Program}{w:World}{A:Around}{E:ZW}{s:Shared}{a:Addr}{o:Obj}{es:Array (Int×Value)}{ep:Nat}{t:SetTable}
end
section
variable{w:World}{a:Addr}{es:Array (Int×Value)}{ep:Nat}{t:SetTable}{h:Heap}{i:Nat}{first:Value}{vs:ZM}
end
section
variable{prog:Program}{w:World}{A:Around}{E:ZW}{s:Shared}{a I:Addr}{o:Obj}{es:Array (Int×Value)}{ep:Nat}{t:SetTable}{i:Nat}{first:Value}{vs:ZM}
end
section
variable{prog:Program}{w:World}{A:Around}{E:ZW}{s:Shared}{a I:Addr}{o:Obj}{es:Array (Int×Value)}{ep:Nat}{t:SetTable}{vs:ZM}
end
section
variable{prog:Program}{w:World}{K:Type}[DecidableEq K]{knd:PySem.KeyKind prog w K}{A:Around}{E:ZW}{s:Shared}{a:Addr}
theorem Vm{h:Heap}{l b:Addr}{vs:ZM}{out:ZN}{ob:Obj}(hb:b≠l)(e:h.get? b=some ob):(sortedHeap h l vs out).get? b=some ob:=by
 rw[sortedHeap_old hb (Vb e)];exact e
end
end SetM
namespace L2
open PySem PySem.Spec PyProof.Rows
theorem Inv.put{X:Cx}{XB:ZY}{Z:St}{H:Hp}{s:Shared}{h':Heap}{a:Addr}{o:HO}{t':Nat}{d':Drawn}(I:Inv X XB Z H s)(k:∀b u,s.heap.get? b=some u->h'.get? b=some u)(hp:s.heap.objs.size<=a)(new:Za X.prog X.w (upd H a o) h' a o) :
  Inv X XB Z (upd H a o) { s with heap:=h',toks:=t',drawn:=d' } :=
 I.call (g':=s.gens) (t':=t') (d':=d') (ch:=[]) (Un.laid k hp (I.hok.fresh hp)) (I.hok.laid k hp new) I.bare fun b z=>absurd z Vk
section
variable{X:Cx}
theorem Ru:∀{vs:ZM} {ss:ZD},StrsAre vs ss->Zw (ss.map V.str) vs
 | _,_,.nil=>.nil
 | _,_,.cons y t r=>.cons ⟨t,rfl⟩ (Ru r)
end
end L2
namespace ZipL
open PySem PySem.Calls PyProof.Rows PyProof.V PySem.Spec
section
variable{prog:Program}{w:World}{A:Around}{E:ZW}{s:Shared}{z TI TO T i1 i2 l1 l2:Addr}{f:Bool}{oT:Obj}{k1 k2:Nat}{xs ys:ZN}{x y:Value}
end
section
variable{prog:Program}{w:World}{A:Around}{R:Result->Shared->Prop}{E:ZW}{s:Shared}{z TI TO i1 i2 l1 l2 S:Addr}{xs ys:ZN}
end
end ZipL
namespace L2
open PySem PySem.Spec PyProof.Rows
section
variable{X:Cx}{XB:ZY}{Z:St}{H H':Hp}{s:Shared}{h':Heap}
end
section
variable{X:Cx}{x y:Str}{p p2 pos U3:Pos}{a b:Expr}{t:TA}
inductive By(K:W.Frag)(xs:ZQ)(H:Hp)(Q:VK):Prop
 | mk(p:Addr)(ns:ZL)(Yh:xs=[.ref p])(Ys:Vc K H p (ns.map V.int))(Vt:Q (.int ns.sum) H):By K xs H Q
theorem x3(hc:X.calm=true):Yk X (.builtin "sum") (fun xs H Q=>By X.K xs H Q):=by
 intro XB s Z H xs us Q I r h;obtain⟨p,ns,rfl,hq,q⟩:=h;obtain⟨u,rfl,rx⟩:=vals1 r;cases rx;obtain⟨XD,rv,pl,hz⟩:=I.list hq;have hi:=intsAre_of rv;obtain⟨zs,e⟩:=hi.allInts.items
 have en:(zs.toList.map (·.1))=ns:=by
  have a:=hi.numsOf;have b:=nums_intItems zs;rw[<-e]at b;exact b.symm.trans a
 refine sum_intListG (xs:=zs) (I.ok.hd hc) (by rw[<-e];exact pl.isList) fun h' tk t' hk=>?_;rw[preSum_eq,T0l (by simp),en];exact⟨.int ns.sum,H,I.kept hk,⟨t',rfl⟩,q⟩
theorem S5{ss:ZD}:∀{us:ZM},Zw (ss.map V.str) us->StrsAre us ss:=by
 induction ss with
 | nil=>intro us r;cases r;exact .nil
 | cons x xs ih =>
  intro us r;cases r with
  | cons e t =>
   obtain⟨tk,rfl⟩:=e;exact .cons x tk (ih t)
inductive He(K:W.Frag)(x:V)(vs:ZQ)(H:Hp)(Q:VK):Prop
 | mk(sep:Str)(p:Addr)(ss:ZD)(Yh:x=.str sep)(Ys:vs=[.ref p])(Vt:Vc K H p (ss.map V.str))(C6:(ss.map (·.length)).sum+ss.length * sep.length<=16777216)(xy:Q (.str (Txt.join sep ss)) H):He K x vs H Q
def rJoin(K:W.Frag):V->ZQ->Hp->VK->Prop:=fun x vs H Q=>He K x vs H Q
theorem iz:MtM X "str.join" (rJoin X.K):=by
 intro XB s Z H x vs v us Q I rx rv h;obtain⟨sep,p,ss,rfl,rfl,hq,hz,q⟩:=h;obtain⟨t,rfl⟩:=rx;obtain⟨u,rfl,ru⟩:=rv.one;cases ru;obtain⟨XD,r,pl,_⟩:=I.list hq;exact join_list pl.isList (S5 r) hz fun t' k=>⟨.str _,H,I.tok _,⟨t',rfl⟩,q⟩
end
def Fn(P:Program)(w:World)(K:W.Frag)(mg:ZV)(base:Heap)(k:Nat)(x:Str)(ps:ZD)(sp:Sp):Prop :=
 ∃f fd,Jq P w K mg base lg k f fd ps sp/\Binds K fd ps []/\W.keepIn K (.ref f)=true/\mg x=some (.ref f)
section
variable{X:Cx}{k:Nat}{x:Str}{ps:ZD}{sp:Sp}{p pos:Pos}{e:Expr}{es:ZC}{t:TA}
theorem gn(G:Fn X.prog X.w X.K X.mg X.base k x ps sp)(hr:Vu k X.A)(hg:Gl X x)(ha:PA X (e::es) t)(hdb:(x == ("__debug__" : Str))=false:=by decide)
  (he:starEach (e::es) X.env=(false,eval e X.env)::starEach es X.env:=by rfl) (Iz:(backTo pos (starEach es X.env)).any (·.1)=false:=by rfl) :
  PE X (.Call (.Name x p) (e::es) [] pos) (Zxv sp [] E0 t):=by
 obtain⟨f,fd,F,b,kp,m⟩:=G;exact ao F hr hg m kp b .nil Zxc ha hdb he Iz
theorem Jq.any{P:Program}{w:World}{K:W.Frag}{mg:ZV}{base:Heap}{CX:Ke}{k:Nat}{f:Addr}{fd:FuncData}{ps:ZD}{ι:Type}{C:ι->Prop}{sp:ι->Sp}(h:∀i,C i->Jq P w K mg base CX k f fd ps (sp i)) :
  Jq P w K mg base CX k f fd ps (fun vs H Q E=>∃i,C i/\sp i vs H Q E) :=
 ⟨fun vs H Q E ⟨i,c,q⟩=>(h i c).len vs H Q E q,fun A outer s H args us vs Q E hr he hb hv ⟨i,c,q⟩=>(h i c).run A outer s H args us vs Q E hr he hb hv q⟩
end
def Up(K:W.Frag)(H H':Hp):Prop:=∀a xs,Yu K H a xs->Yu K H' a xs
theorem Up.refl{K:W.Frag}(H:Hp):Up K H H:=fun _ _ h=>h
theorem Up.trans{K:W.Frag}{H H1 H2:Hp}(a:Up K H H1)(b:Up K H1 H2):Up K H H2:=fun c xs h=>b c xs (a c xs h)
theorem Zc.up{K:W.Frag}{H H':Hp}(e:Zc H H'):Up K H H':=fun a xs h=>by
 rcases h with (h | ⟨o,h⟩) | h
 .exact .inl (.inl (e _ _ h))
 .exact .inl (.inr ⟨o,e _ _ h⟩)
 .exact .inr h
theorem Zc.put{H H1:Hp}{p:Addr}{o:HO}(e:Zc H H1)(h:H p=none):Zc H (upd H1 p o):=fun b u q=>by
 rw[Zz (Zi q h)];exact e b u q
mutual
noncomputable def noL:D->Bool
 | .tup xs=>fe xs
 | .lst _=>false
 | _=>true
noncomputable def fe:List D->Bool
 | []=>true
 | d::ds=>noL d && fe ds
end
mutual
theorem Vg.up{K:W.Frag}{H H':Hp}(u:Up K H H'):∀(d:D) (v:V),noL d=true->Vg K H d v->Vg K H' d v
 | .non,v,_,h=>h
 | .bl b,v,_,h=>h
 | .int i,v,_,h=>h
 | .str x,v,_,h=>h
 | .tup ds,v,n,h=>by
  obtain⟨a,vs,e,q,r⟩:=h;exact⟨a,vs,e,u a vs q,Ze.up u ds vs (by simpa [noL] using n) r⟩
 | .lst ds,v,n,h=>by simp[noL]at n
theorem Ze.up{K:W.Frag}{H H':Hp}(u:Up K H H'):∀(ds:List D) (vs:ZQ),fe ds=true->Ze K H ds vs->Ze K H' ds vs
 | [],vs,_,h=>h
 | d::ds,vs,n,h=>by
  obtain⟨v,r,e,q,t⟩:=h;have n':noL d=true/\fe ds=true:=by simpa [fe] using n
  exact⟨v,r,e,Vg.up u d v n'.1 q,Ze.up u ds r n'.2 t⟩
end
theorem Ze.append{K:W.Frag}{H:Hp}:∀{ds es:List D} {vs ws:ZQ},Ze K H ds vs->Ze K H es ws->Ze K H (ds++es) (vs++ws)
 | [],es,vs,ws,h,h'=>by
  have e:vs=[]:=h;subst e;exact h'
 | d::ds,es,vs,ws,h,h'=>by
  obtain⟨v,r,e,q,t⟩:=h;subst e;exact⟨v,r++ws,rfl,q,Ze.append t h'⟩
theorem Ze.one{K:W.Frag}{H:Hp}{d:D}{v:V}(h:Vg K H d v):Ze K H [d] [v]:=⟨v,[],rfl,h,rfl⟩
theorem Ze.take{K:W.Frag}{H:Hp}:∀{ds:List D} {vs:ZQ} (n:Nat),Ze K H ds vs->Ze K H (ds.take n) (vs.take n)
 | ds,vs,0,_=>rfl
 | [],vs,n+1,h=>by
  have e:vs=[]:=h;subst e
  rfl
 | d::ds,vs,n+1,h=>by
  obtain⟨v,r,e,q,t⟩:=h;subst e;exact⟨v,r.take n,rfl,q,Ze.take n t⟩
theorem Si{K:W.Frag}{H:Hp}{p:Addr}{o:HO}{ys:ZQ}(h:H p=some (.lst ys)):Up K H (upd H p o):=fun c xs q=>by
 have ne:∀u,H c=some u->(∀ys,u≠.lst ys)->c≠p:=fun u e n z=>by
  rw[z,h]at e;cases e;exact n _ rfl
 rcases q with (q | ⟨u,q⟩) | q
 .exact .inl (.inl (by rw[Zz (ne _ q fun _ z=>nomatch z)];exact q))
 .exact .inl (.inr ⟨u,by rw[Zz (ne _ q fun _ z=>nomatch z)];exact q⟩)
 .exact .inr q
section
variable{X:Cx}
theorem gr{T:String}{x:Str}{pos:Pos}(hg:Gl X x)(hm:X.mg x=none)(hv:bootBuiltins x=some (.type T))(hn:x ≠ "__name__" := by decide)(hd:(x == ("__debug__" : Str))=false:=by decide) :
  PE X (.Name x pos) (tC (.ty T)):=ai hg hm hv rfl hn hd
end
end L2
namespace DctE
open PySem PySem.SeqAt PySem.MeetsSeq
open PySem.AutoSeq1 (wpAny_loadPart')
end DctE
namespace L2
open PySem PySem.Spec PyProof.Rows
section
variable{X:Cx}{XB:ZY}{Z:St}{H H':Hp}{s:Shared}{h':Heap}
theorem Inv.turnLay{t':Nat}{fp:ZU}{a:Addr}{o:HO}(I:Inv X XB Z H s)(k:∀b u,b ∉ fp->s.heap.get? b=some u->h'.get? b=some u)(hf:∀b∈fp,M5 X XB H b)(hp:s.heap.objs.size<=a)(new:Za X.prog X.w (upd H a o) h' a o) :
  Inv X XB Z (upd H a o) { s with heap:=h',toks:=t' }:=by
 have hn:=I.hok.fresh hp
 have nf:∀b u,H b=some u->b ∉ fp:=fun b u e m=>by
  have z:=(hf b m).1;rw[e]at z;cases z
 have na:∀b u,s.heap.get? b=some u->b≠a:=fun b u e=>N0 (Wp (Vb e) hp)
 refine I.call (g':=s.gens) (d':=s.drawn) (ch:=fp) ⟨fun b u e _ _ hx=>k b u hx e,fun b u e _ _ hx=>⟨u.slots,k b u hx e⟩,fun b u e n _=>by rw[Zz (na b u e)];exact n,fun b u e hx=>⟨u,k b u hx e⟩,
  fun b xs e=>by rw[Zz (Zi e hn)];exact e,fun b ob u e=>by rw[Zz (Zi e hn)];exact e,fun b ps e=>⟨#[],by rw[Zz (Zi e hn)];simp[e]⟩⟩ (fun b u e=>?_) I.bare
  fun b hb=>⟨(hf b hb).2.2.2.1,(hf b hb).2.1,(hf b hb).2.2.2.2.1,(hf b hb).2.2.2.2.2⟩
 by_cases hb:b=a
 .subst hb;rw[Zq]at e;cases e;exact new
 .rw[Zz hb]at e;refine(I.hok b u e).stay (fun c v hc q=>k c v ?_ q) (fun c q=>by rw[Zz (Zi q hn)];exact q) fun c xs q=>by rw[Zz (Zi q hn)];exact q
  rcases hc with z | z
  .rw[z];exact nf b u e
  .exact nf c _ z
theorem Inv.turnL{t':Nat}{fp:ZU}(I:Inv X XB Z H s)(k:∀b u,b ∉ fp->s.heap.get? b=some u->h'.get? b=some u)(hf:∀b∈fp,M5 X XB H b) :
  Inv X XB Z H { s with heap:=h',toks:=t' }:=by
 have nf:∀b u,H b=some u->b ∉ fp:=fun b u e m=>by
  have z:=(hf b m).1;rw[e]at z;cases z
 refine I.call (g':=s.gens) (d':=s.drawn) (ch:=fp) ⟨fun b u e _ _ hx=>k b u hx e,fun b u e _ _ hx=>⟨u.slots,k b u hx e⟩,fun b u e n _=>n,fun b u e hx=>⟨u,k b u hx e⟩,
  fun b xs e=>e,fun b ob u e=>e,fun b ps e=>⟨#[],by simp[e]⟩⟩ (fun b u e=>?_) I.bare
  fun b hb=>⟨(hf b hb).2.2.2.1,(hf b hb).2.1,(hf b hb).2.2.2.2.1,(hf b hb).2.2.2.2.2⟩
 refine(I.hok b u e).stay (fun c v hc q=>k c v ?_ q) (fun c q=>q) fun c xs q=>q;rcases hc with z | z
 .rw[z];exact nf b u e
 .exact nf c _ z
end
section
variable{X:Cx}{pos:Pos}
inductive Q8(x:V)(y:V)(H:Hp)(Q:VK):Prop
 | mk(a b)(Yh:x=.bl a)(Ys:y=.bl b)(Vt:Q (.bl (a == b)) H):Q8 x y H Q
theorem op_isB:Uo X (compareOp .Is) (fun x y H Q=>Q8 x y H Q):=by
 intro XB s Z H x y v u Q I rx ry h;obtain⟨a,b,rfl,rfl,q⟩:=h;cases rx;cases ry;exact is_bool (Jm I q rfl)
inductive N7(x:V)(y:V)(H:Hp)(Q:VK):Prop
 | mk(a b)(Yh:x=.bl a)(Ys:y=.bl b)(Vt:Q (.bl (a != b)) H):N7 x y H Q
theorem zy:Uo X (compareOp .IsNot) (fun x y H Q=>N7 x y H Q):=by
 intro XB s Z H x y v u Q I rx ry h;obtain⟨a,b,rfl,rfl,q⟩:=h;cases rx;cases ry;exact isnot_bool (Jm I q rfl)
inductive N6(x:V)(y:V)(H:Hp)(Q:VK):Prop
 | mk(i j)(Yh:x=.str i)(Ys:y=.str j)(Vt:Q (.bl (!decide (j.cps.toList<i.cps.toList))) H):N6 x y H Q
theorem zv:Uo X (compareOp .LtE) (fun x y H Q=>N6 x y H Q):=by
 intro XB s Z H x y v u Q I rx ry h;obtain⟨i,j,rfl,rfl,q⟩:=h;obtain⟨t,rfl⟩:=rx;obtain⟨t',rfl⟩:=ry;exact PySem.P.le_str (Jm I q rfl)
inductive N9(x:V)(y:V)(H:Hp)(Q:VK):Prop
 | mk(i j)(Yh:x=.str i)(Ys:y=.str j)(Vt:Q (.bl (decide (j.cps.toList<i.cps.toList))) H):N9 x y H Q
theorem zf:Uo X (compareOp .Gt) (fun x y H Q=>N9 x y H Q):=by
 intro XB s Z H x y v u Q I rx ry h;obtain⟨i,j,rfl,rfl,q⟩:=h;obtain⟨t,rfl⟩:=rx;obtain⟨t',rfl⟩:=ry;exact PySem.P.gt_str (Jm I q rfl)
noncomputable def repS(i:Str)(n:Nat):Str:=⟨(List.replicate n i.cps).foldl (·++·) #[]⟩
theorem yt(a:ZS):∀(n:Nat) (acc:ZS),((List.replicate n a).foldl (·++·) acc).toList=acc.toList++(List.replicate n a.toList).flatten
 | 0,acc=>by simp
 | n+1,acc=>by
  rw[List.replicate_succ,List.foldl_cons,yt a n (acc++a),List.replicate_succ,List.flatten_cons,Array.toList_append,XX]
theorem Dr(i:Str)(n:Nat):(repS i n).cps.toList=(List.replicate n i.cps.toList).flatten:=by
 show ((List.replicate n i.cps).foldl (·++·) #[]).toList=_;rw[yt]
 rfl
theorem Qo(i:Str)(n:Nat):(repS i n).length=n * i.length:=by
 show (repS i n).cps.size=n * i.cps.size;rw[<-qp,Dr,len_rep,qp]
inductive R9(x:V)(y:V)(H:Hp)(Q:VK):Prop
 | mk(i:Str)(n:Int)(Yh:x=.str i)(Ys:y=.int n)(Vt:2<=n)(C6:n<=1000)(xy:i.length≠0)(h5_:i.length<=1000)(h6_:Q (.str (repS i n.toNat)) H):R9 x y H Q
theorem og:Uo X (binaryOp .Mult) (fun x y H Q=>R9 x y H Q):=by
 intro XB s Z H x y v u Q I rx ry h;obtain⟨i,n,rfl,rfl,n2,n1,i0,i1,q⟩:=h;obtain⟨t,rfl⟩:=rx;obtain⟨t',rfl⟩:=ry;have c1:¬ n<1:=by omega
 have c2:(n == 1 || i.length == 0)=false:=by
  rw[Bool.or_eq_false_iff];exact⟨B0n.mpr (by omega),B0n.mpr i0⟩
 have hm:i.length * n.toNat<=1000000:=Ve (Nat.mul_le_mul i1 (show n.toNat<=1000 by omega)) (by decide);refine PySem.P.mul_str ?_ (fun _ _=>?_) (fun _ _=>?_) ?_
 .rw[Bool.or_eq_false_iff];exact⟨Dl (by omega),Dl (by omega)⟩
 .intro z;have hn0:(0:Int)<n:=by omega
  have h1:(1000:Int) * n<=2 ^ 63 - 1:=by omega
  have h2:=(Int.le_ediv_iff_mul_le hn0).mpr h1;omega
 .show decide (i.length * n.toNat>sizeLine)=false;exact Dl (Nat.not_lt_of_le (Ve hm (by decide)))
 .rw[if_neg c1,if_neg (by rw[c2];decide)];have hl:(repS i n.toNat).length<=sizeLine:=by rw[Qo,Nat.mul_comm];exact Ve hm (by decide)
  exact⟨hl,⟨.str _,H,I.tok _,⟨_,rfl⟩,q⟩⟩
end
def Its(x:Str):It:=⟨fun i _=>i<x.cps.size,fun i H v H'=>H'=H/\∃c,x.cps[i]?=some c/\v=.str ⟨#[c]⟩,fun i _=>x.cps.size<=i⟩
theorem Qv{P:Program}{w:World}{K:PySem.W.Frag}{tg:Expr}(x:Str)(it:Addr)(T:String)(t:Tok)(hT:["enumerate","zip","dict_itemiterator","dict_reverseitemiterator","odict_iterator","itertools.zip_longest","itertools.pairwise"].contains T=false)
  (W:∀A:Around,A.handled=none->Walks P w A it [it] [it] x.cps.size (SignAt x) (fun i h=>h.IsStrIter it T x t i)) (hs:∀(A:Around) (i:Nat) (s:Shared) (Q:ZW) (E:ZW),s.heap.IsStrIter it T x t i->Q (.ref it) s->wpAny (model P w) A (pyIter (.ref it)) Q E s)
  (hd:∀(A:Around) (i:Nat) (s:Shared) (Q:ZT->Shared->Prop) (E:ZW),A.handled=none->x.cps.size<=i->s.heap.IsStrIter it T x t i->(∀h' tk,(∀b o,b≠it->s.heap.get? b=some o->h'.get? b=some o)->Q none { s with heap:=h',toks:=tk })->wpAny (model P w) A (pyNext (.ref it)) Q E s) :
  Turn P w K tg (Its x) [it] it (fun i h=>h.IsStrIter it T x t i) where
 mem:=by simp
 obj:=fun i h st b hb=>by
  have e:b=it:=by simpa using hb
  subst e;obtain⟨o,e,c,d⟩:=st;exact⟨o,e,fun v z=>by rw[d]at z;cases z⟩
 keep:=fun i h h' st k=>let ⟨o,ho,r⟩:=st;⟨o,k it (by simp) o ho,r⟩
 item:=by
  intro X hP hw hK hc i XB s Z H E I hf st hg;subst hP hw hK;obtain⟨f0,f1,f2,f3,f4,f5⟩:=hf it (by simp);refine(W X.A (I.ok.hd hc)).item i s _ _ hg st fun v h' tk hv O9 kk=>?_;obtain⟨c,u,n5,rfl⟩:=hv;have I1:Inv X XB Z H { s with heap:=h',toks:=tk }:=I.turned (fun b o hb e=>kk b o (by simpa using hb) e) f0 f1 f3 f4 f5;obtain⟨o,e,c1,d⟩:=id O9;exact⟨_,rfl,Pa (s:={ s with heap:=h',toks:=tk }) e c1 d hT ⟨.str ⟨#[c]⟩,H,I1,⟨u,rfl⟩,⟨rfl,c,n5,rfl⟩,O9,fun b hb=>(hf b hb).1⟩⟩
 done:=by
  intro X hP hw hK hc i XB s Z H E I hf st hg;subst hP hw hK;obtain⟨f0,f1,f2,f3,f4,f5⟩:=hf it (by simp);exact hd X.A i s _ _ (I.ok.hd hc) hg st fun h' tk eb=>⟨rfl,I.turned (fun b o hb e=>eb b o hb e) f0 f1 f3 f4 f5⟩
 self:=fun A i s Q E st h=>hs A i s Q E st h
inductive m4(R:(It->Hp->Prop))(v:V)(H1:Hp):Prop
 | mk(x)(Yh:v=.str x)(Ys:R (Its x) H1):m4 R v H1
def iStr(te:TE):TI:=fun Z H R=>te Z H fun v H1=>m4 R v H1
section
variable{X:Cx}{tg l:Expr}{tl:TE}
theorem pi_str(hl:PE X l tl):PI X tg l (iStr tl):=by
 intro XB s Z H R I h;refine Z3 (hl XB s Z H _ I h) fun v s1 ⟨v',H1,I1,r1,q1⟩=>?_;obtain⟨x,rfl,q⟩:=q1;obtain⟨t,rfl⟩:=r1
 have fin:∀b∈[s1.heap.objs.size],M5 X XB H1 b:=fun b hb=>by
  have e:b=s1.heap.objs.size:=by simpa using hb
  subst e;exact I1.fpOk (Yg _) (I1.hok.fresh (Yg _))
 cases ha:x.cps.all (·<128)
 .refine wpAny_pyIter_wide ha ?_
  exact⟨s1.heap.objs.size,[s1.heap.objs.size],_,_,H1,rfl,I1.kept (t':=s1.toks) fun b o e=>Y9 _ e,Qv x _ "str_iterator" t (by decide) (fun A hA=>Walks.strWide hA _ x t) (fun A i s Q E st h=>wpAny_pyIter_striter_wide st h)
   (fun A i s Q E hA hi st h=>wpAny_pyNext_wide_end hA st (by simp[hi]) fun h' he=>h h' s.toks fun b o hb e=>he b o hb e),⟨_,Dj _ rfl,rfl,rfl⟩,fin,q⟩
 .refine wpAny_pyIter_ascii ha ?_
  exact⟨s1.heap.objs.size,[s1.heap.objs.size],_,_,H1,rfl,I1.kept (t':=s1.toks) fun b o e=>Y9 _ e,Qv x _ "str_ascii_iterator" t (by decide) (fun A hA=>Walks.strAscii hA _ x t) (fun A i s Q E st h=>wpAny_pyIter_striter_ascii st h)
   (fun A i s Q E hA hi st h=>wpAny_pyNext_ascii_end hA st (by simp[hi]) fun h' he=>h h' s.toks fun b o hb e=>he b o hb e),⟨_,Dj _ rfl,rfl,rfl⟩,fin,q⟩
end
def Itz(K:W.Frag)(l1 l2:Addr):It :=
  ⟨fun i H=>∃xs ys x y,Vc K H l1 xs/\Vc K H l2 ys/\xs[i]?=some x/\ys[i]?=some y,
   fun i H v H'=>∃p x y,v=.ref p/\H p=none/\H'=upd H p (.tup [x,y])/\(∀xs,Vc K H l1 xs->xs[i]?=some x)/\∀ys,Vc K H l2 ys->ys[i]?=some y,
   fun i H=>∃xs ys,Vc K H l1 xs/\Vc K H l2 ys/\(xs.length<=i\/ys.length<=i)⟩
theorem wt{P:Program}{w:World}{K:W.Frag}{es:ZC}{k:Nat}{pos:Pos}(z TI TO i1 i2 l1 l2:Addr)(D:ZipApart z TI TO i1 i2 l1 l2) :
  Turn P w K (.Tuple es k pos) (Itz K l1 l2) [z,TI,TO,i1,i2] z (fun i h=>IsZip h z TI TO .none/\IsPair h TI (.ref i1) (.ref i2)/\(∃a b,IsPair h TO a b)/\h.IsListIter i1 l1 i/\h.IsListIter i2 l2 i) where
 mem:=by simp
 obj:=fun i h st b hb=>by
  obtain⟨hz,Li,⟨a,c,Pu⟩,⟨o1,e1,_,d1⟩,⟨o2,e2,_,d2⟩⟩:=st;simp only[Yw,Vk,or_false]at hb;rcases hb with rfl | rfl | rfl | rfl | rfl
  .exact⟨_,hz,fun v q=>nomatch q⟩
  .exact⟨_,Li,fun v q=>nomatch q⟩
  .exact⟨_,Pu,fun v q=>nomatch q⟩
  .exact⟨_,e1,fun v q=>by rw[d1]at q;cases q⟩
  .exact⟨_,e2,fun v q=>by rw[d2]at q;cases q⟩
 keep:=fun i h h' st hk=>by
  obtain⟨hz,Li,⟨a,b,Pu⟩,h1,h2⟩:=st;exact⟨hk z (by simp) _ hz,hk TI (by simp) _ Li,⟨a,b,hk TO (by simp) _ Pu⟩,h1.at fun o e=>hk i1 (by simp) o e,h2.at fun o e=>hk i2 (by simp) o e⟩
 item:=by
  intro X hP hw hK hc i XB s Z H E I hf st hg;subst hP hw hK;obtain⟨xs,ys,x,y,q1,q2,g1,g2⟩:=hg;obtain⟨hz,Li,⟨a,b,Pu⟩,h1,h2⟩:=st;obtain⟨nk,v1,X6,z1⟩:=I.list q1;obtain⟨i8,v2,X5,z2⟩:=I.list q2;obtain⟨u1,e1,r1⟩:=v1.get g1;obtain⟨u2,e2,r2⟩:=v2.get g2;refine wpAny_pyNext_zip_item D hz Li Pu h1 h2 X6.isList X5.isList (x:=u1) (y:=u2) (by simpa using e1) (by simpa using e2) fun h' a1 a2 a3 a4 a5 a6 hk=>?_;refine⟨_,rfl,wpAny_letOwnedTupleGo_zip (s:={ s with heap:=h' }) a1 fun h'' Wg F7=>?_⟩;have lt:∀{c o},s.heap.get? c=some o->s.heap.objs.size≠c:=fun e=>Nat.ne_of_gt (Vb e);have nz:s.heap.objs.size≠z:=lt hz
  have kk:∀c u,c ∉ [z,TI,TO,i1,i2]->s.heap.get? c=some u->h''.get? c=some u:=fun c u m e=>by
   simp only[Yw,Vk,or_false,not_or]at m;exact F7.extBut _ _ m.1 (hk c u m.1 m.2.2.1 m.2.2.2.1 m.2.2.2.2 e)
  have fresh:=I.hok.fresh (Yg s.heap.objs.size);have J:Inv X XB Z (upd H s.heap.objs.size (.tup [x,y])) { s with heap:=h'',toks:=s.toks }:=I.turnLay kk hf (Yg _) ⟨by show 2<=sizeLine;decide,[u1,u2],.cons r1 (.cons r2 .nil),⟨_,F7.extBut _ _ nz a5,rfl,⟨_,rfl⟩,rfl⟩⟩;refine⟨.ref s.heap.objs.size,_,J,rfl,⟨_,x,y,rfl,fresh,rfl,fun ws hw=>by rw[I.list_inj hw q1];exact g1,fun ws hw=>by rw[I.list_inj hw q2];exact g2⟩,⟨Wg,F7.extBut _ _ D.TIz (hk _ _ D.TIz D.TITO D.TIi1 D.TIi2 Li),⟨_,_,F7.extBut _ _ D.TOz a2⟩,a3.extBut F7.extBut D.i1z,a4.extBut F7.extBut D.i2z⟩,fun c hc=>?_⟩
  have nc:c≠s.heap.objs.size:=fun q=>by
   subst q;simp only[Yw,Vk,or_false]at hc;rcases hc with q | q | q | q | q
   .exact lt hz q
   .exact lt Li q
   .exact lt Pu q
   .obtain⟨_,e,_⟩:=h1;exact lt e q
   .obtain⟨_,e,_⟩:=h2;exact lt e q
  rw[Zz nc];exact(hf c hc).1
 done:=by
  intro X hP hw hK hc i XB s Z H E I hf st hg;subst hP hw hK;obtain⟨xs,ys,q1,q2,g⟩:=hg;obtain⟨hz,Li,⟨a,b,Pu⟩,h1,h2⟩:=st;obtain⟨nk,v1,X6,z1⟩:=I.list q1;obtain⟨i8,v2,X5,z2⟩:=I.list q2;have hl1:=v1.length;have hl2:=v2.length;refine wpAny_pyNext_zip_end (I.ok.hd hc) D hz Li Pu h1 h2 X6.isList X5.isList (by rcases g with g | g;exact .inl (by simp;omega);exact .inr (by simp;omega)) fun h' hk=>⟨rfl,I.turnL (t':=s.toks) (fp:=[z,TI,TO,i1,i2]) (fun c u m e=>?_) hf⟩;simp only[Yw,Vk,or_false,not_or]at m;exact hk c u m.1 m.2.2.1 m.2.2.2.1 m.2.2.2.2 e
 self:=fun A i s Q E st h=>wpAny_pyIter_zip st.1 h
inductive me(K:W.Frag)(R:(It->Hp->Prop))(vs:ZQ)(H1:Hp):Prop
 | mk(p q)(Yh:vs=[.ref p,.ref q])(Ys:(∃xs,Vc K H1 p xs))(Vt:(∃ys,Vc K H1 q ys))(C6:R (Itz K p q) H1):me K R vs H1
def iZip(K:W.Frag)(t:TA):TI:=fun Z H R=>t Z H fun vs H1=>me K R vs H1
section
variable{X:Cx}{es:ZC}{k:Nat}{p2 pos U3:Pos}{a b:Expr}{t:TA}
theorem pi_zip(hgz:Gl X "zip")(hmz:X.mg "zip" = none)(ha:PA X [a,b] t)
  (he2:starEach [a,b] X.env=(false,eval a X.env)::starEach [b] X.env:=by rfl) (Iz:(backTo U3 (starEach [b] X.env)).any (·.1)=false:=by rfl) :
  PI X (.Tuple es k pos) (.Call (.Name "zip" p2) [a,b] [] U3) (iZip X.K t):=by
 intro XB s Z H R I h;refine wpAny_Call_Name_kw (Du I hgz hmz (by decide +kernel:bootBuiltins "zip" = some (.type "zip")) ?_ (by decide) (by decide));refine callWith_type1 (Z3 (ha U3 XB s Z H _ I h) fun us s1 ⟨vs,H1,I1,r1,q1⟩=>?_) he2 Iz;obtain⟨l1,l2,rfl,⟨xs,hx⟩,⟨ys,hy⟩,q⟩:=q1;obtain⟨u1,u2,rfl,e1,e2⟩:=vals2 r1;cases e1;cases e2;obtain⟨nk,v1,X6,z1⟩:=I1.list hx;obtain⟨i8,v2,X5,z2⟩:=I1.list hy;have n1:l1<s1.heap.objs.size:=by obtain⟨_,e,_⟩:=X6.isList;exact Vb e
 have n2:l2<s1.heap.objs.size:=by obtain⟨_,e,_⟩:=X5.isList;exact Vb e
 refine call_zip_2 X6.isList X5.isList fun h2 b1 b2 b3 b4 b5 b6 k2=>?_;refine wpAny_pyIter_zip (s:={ s1 with heap:=h2 }) b1 ?_;have J:Inv X XB Z H1 { s1 with heap:=h2,toks:=s1.toks }:=I1.kept k2;refine⟨_,[s1.heap.objs.size+4,s1.heap.objs.size+2,s1.heap.objs.size+3,s1.heap.objs.size,s1.heap.objs.size+1],_,_,H1,rfl,J,wt _ _ _ _ _ l1 l2 (zipApart_new n1 n2),⟨b1,b2,⟨_,_,b3⟩,b4,b5⟩,fun c hc=>?_,q⟩
 have ge:s1.heap.objs.size<=c:=by
  simp only[Yw,Vk,or_false]at hc;rcases hc with q | q | q | q | q<;>rw[q]<;>first | exact Yg _ | exact Nat.le_add_right _ _
 exact I1.fpOk ge (I1.hok.fresh ge)
end
section
variable{X:Cx}
inductive Ti(K:W.Frag)(x:V)(y:V)(H:Hp)(Q:VK):Prop
 | mk(l b zs)(Yh:x=.ref l)(Ys:y=.ref b)(Vt:Yu K H l [])(C6:Yu K H b zs)(xy:Q (.ref b) H):Ti K x y H Q
theorem fg:Uo X (binaryOp .Add) (fun x y H Q=>Ti X.K x y H Q):=by
 intro XB s Z H x y v u Q I rx ry h;obtain⟨l,b,zs,rfl,rfl,hl,hb,q⟩:=h;cases rx;cases ry;obtain⟨i1,r1,p1,z1⟩:=I.tuple hl;obtain⟨i2,r2,p2,z2⟩:=I.tuple hb;have e1:i1=[]:=by cases r1;rfl
 subst e1;obtain⟨⟨c1,d1,t1,s1⟩,o1,k1,n1,m1⟩:=id p1;obtain⟨⟨c2,d2,t2,s2⟩,o2,k2,n2,m2⟩:=id p2;simp only at k1 m1 k2 m2;subst k1 m1 k2 m2;exact concat_meets ⟨_,o1,rfl⟩ ⟨_,o2,rfl⟩ noFill_tuple_add seq_tuple_add PySem.F.slot_tuple_add PySem.F.entry_tuple_add (PySem.F.args_tuple_add_2 _ _) (tuple_addW0 l b _ _ n1 n2 d1 d2 s1 s2 rfl) ⟨o1,o2,⟨.ref b,H,I,rfl,q⟩⟩
end
end L2
namespace HT
open PySem PySem.Spec PyProof.Rows
section
variable{prog:Program}{w:World}{A:Around}{E:ZW}{s:Shared}
theorem G6{t sl:Addr}{items:ZN}{vl vu:Value}{lo hi:ZR}{Q:ZW}(ht:IsTup s.heap t items)(hs:s.heap.IsSliceOf sl vl vu .none)(pl:IsPart vl lo)(pu:IsPart vu hi)
  (hw:Yl items.size 0 lo=0/\Yl items.size items.size hi=items.size) (h:Q (.ref t) s):wpAny (model prog w) A (getItem (.ref t) (.ref sl)) Q E s:=by
 obtain⟨os,hos,hcs,hds⟩:=id hs;have hTs:s.TypeIs (.ref sl) "slice" := ⟨os,hos,hcs⟩;unfold getItem
 try with_reducible refine wpAny_holding ?_
 first | refine Zv (Yt ?_) | skip
 refine Zv (wpAny_sequenceKey ht.typeIs (by decide) ?_)
 refine Zv (wpAny_callSpecial?_slot (name:=Str.ofString "__getitem__") ht.typeIs slot_tuple_getitem
  (wpAny_call_entry slot_tuple_getitem ht.typeIs entry_tuple_getitem ?_ (args_tuple_getitem _ _)))
 show wpAny _ _ (Builtin.Tuple.tupleItemsOf (.ref t) >>= _) _ _ s;refine Zv (tupleItemsOf_ ht ?_);refine Zv (wpAny_typeOf hTs ?_);rw[if_pos (by decide)];refine Zv (U0 hs pl pu ?_)
 have hyes:(((Yl items.size 0 lo:Nat):Int) == 0 && (1:Int) == 1 && (Yl items.size items.size hi - Yl items.size 0 lo) == items.size)=true:=by
  rw[hw.1,hw.2];simp
 show wpAny _ _ (if (((Yl items.size 0 lo:Nat):Int) == 0 && (1:Int) == 1 && (Yl items.size items.size hi - Yl items.size 0 lo) == items.size)=true then _ else _) _ _ s;rw[if_pos hyes];refine Zv (m:=Builtin.Tuple.tupleIsExact (.ref t)) (Zv (wpAny_typeOf ht.typeIs (Yt ?_)));rw[if_pos (by decide)];exact Zv (wpAny_rule (Yt ⟨_,rfl,Yt h⟩))
end
end HT
namespace L2
open PySem PySem.Spec PyProof.Rows
section
variable{X:Cx}{e:Expr}{te:TE}{lo hi:Option Expr}{tl th:TO}{pos p2 p3 p4:Pos}{j1:Nat}
theorem Zc.lay{H:Hp}{p:Addr}{o:HO}(h:H p=none):Zc H (upd H p o):=fun b u q=>by rw[Zz (Zi q h)];exact q
inductive yi(K:W.Frag)(x:V)(lo:ZR)(hi:ZR)(H:Hp)(Q:VK):Prop
 | mk(a xs)(Yh:x=.ref a)(Ys:Yu K H a xs)(Vt:∀p H',Zc H H'->Yu K H' p (Cy xs lo hi)->Q (.ref p) H'):yi K x lo hi H Q
def rSlG(K:W.Frag):V->ZR->ZR->Hp->VK->Prop:=fun x lo hi H Q=>yi K x lo hi H Q
theorem p5:SlR X (rSlG X.K):=by
 intro XB s Z H x v vl vu lo hi sl Q I rx hs pl pu h;obtain⟨a,xs,rfl,hx,q⟩:=h;by_cases hw:HT.Yl xs.length 0 lo=0/\HT.Yl xs.length xs.length hi=xs.length
 .cases rx;obtain⟨XD,r,ht,hz⟩:=I.tuple hx;have hlen:XD.toArray.size=xs.length:=by rw[Vi];exact r.length.symm
  refine⟨"tuple",_,slot_tuple_getitem.lookup,ht.typeIs, ?_⟩;refine HT.G6 ht hs pl pu (by rw[hlen];exact hw) ⟨.ref a,H,I,rfl,q a H (Zc.refl H) ?_⟩
  have e:Cy xs lo hi=xs:=by
   unfold Cy;rw[hw.1,hw.2,List.drop_zero,Nat.sub_zero,List.take_length]
  rw[e];exact hx
 .exact sl_tup XB s Z H _ v vl vu lo hi sl Q I rx hs pl pu ⟨a,xs,rfl,hx,hw,fun p hp=>q p _ (Zc.lay hp) (Yu.of Zq)⟩
inductive Az(K:W.Frag)(x:V)(y:V)(H:Hp)(Q:VK):Prop
 | mk(a b xs ys)(Yh:x=.ref a)(Ys:y=.ref b)(Vt:Yu K H a xs)(C6:Yu K H b ys)(xy:xs.length+ys.length<=sizeLine)(h5_:∀p H',Zc H H'->Yu K H' p (xs++ys)->Q (.ref p) H'):Az K x y H Q
def rCatG(K:W.Frag):R2:=fun x y H Q=>Az K x y H Q
theorem oa:Uo X (binaryOp .Add) (rCatG X.K):=by
 intro XB s Z H x y v u Q I rx ry h;obtain⟨a,b,xs,ys,rfl,rfl,ha,hb,hz,q⟩:=h;cases xs with
 | nil=>exact fg XB s Z H _ _ v u Q I rx ry ⟨a,b,ys,rfl,rfl,ha,hb,q b H (Zc.refl H) hb⟩
 | cons x xs =>
  refine oh XB s Z H _ _ v u Q I rx ry ⟨a,b,x::xs,ys,rfl,rfl,ha,hb,(fun z=>nomatch z),hz,fun e=>?_,fun _ p hp=>q p _ (Zc.lay hp) (Yu.of Zq)⟩;subst e;exact q a H (Zc.refl H) (by rw[XQ];exact ha)
end
structure FnV(X:Cx)(f:Addr)(ps:ZD)(sp:Sp):Prop where
 ok:∃k fd,Jq X.prog X.w X.K X.mg X.base lg k f fd ps sp/\Binds X.K fd ps []/\Vu k X.A
 kp:W.keepIn X.K (.ref f)=true
section
variable{X:Cx}{x:Str}{p pos:Pos}{e:Expr}{es:ZC}{tn:TE}{t:TA}{Y:Cx->Addr->ZD->Sp->Prop}
inductive Qb(X:Cx)(t:TA)(Z:St)(Q:VK)(v:V)(H1:Hp):Prop
 | mk(f ps sp)(Yh:v=.ref f)(Ys:FnV X f ps sp)(Vt:t Z H1 fun vs H2=>sp vs H2 Q E0):Qb X t Z Q v H1
def tCallV(X:Cx)(tn:TE)(t:TA):TE:=fun Z H Q=>tn Z H fun v H1=>Qb X t Z Q v H1
theorem gc(hn:PE X (.Name x p) tn)(ha:PA X (e::es) t)
  (he:starEach (e::es) X.env=(false,eval e X.env)::starEach es X.env:=by rfl) (Iz:(backTo pos (starEach es X.env)).any (·.1)=false:=by rfl) :
  PE X (.Call (.Name x p) (e::es) [] pos) (tCallV X tn t):=by
 intro XB s Z H Q I h;refine wpAny_Call_Name_kw (Z3 (hn XB s Z H _ I h) fun v s1 ⟨v',H1,I1,r1,f,ps,sp,e1,⟨⟨k,fd,F,b,hr⟩,kp⟩,q1⟩=>?_);subst e1;cases r1;refine W.callWith_K (h₀:=X.base) I1.ok.mod.kin kp (Z3 (ha pos XB s1 Z H1 _ I1 q1) fun us s2 ⟨vs,H2,I2,r2,q2⟩=>⟨I2.kIn, ?_⟩) he Iz;exact yq (sp:=sp) (E:=E0) F hr b .nil Zxc I2 r2 (by rw[XQ];exact q2)
end
section
variable{K:W.Frag}{H H1 H':Hp}
end
section
variable{X:Cx}
theorem i6{XB:ZY}{Z:St}{H:Hp}{s:Shared}{a:Addr}{xs:ZQ}{c:Value}{b:Bool}{Q:ZW}{E:ZW}(I:Inv X XB Z H s)(q:Yu X.K H a xs)(e:W.kitOne X.K (.type "tuple") c=some b)(h:∀tk,Q (.bool b) { s with toks:=tk }) :
  wpAny (model X.prog X.w) X.A (call (.builtin "isinstance") [.ref a,c]) Q E s:=by
 obtain⟨XD,_,⟨o,h1,h2,_⟩,_⟩:=I.tuple q;exact W.kia_one W.kitx_tuple I.kIn ⟨o,h1,h2⟩ e (fun z=>nomatch z) h
end
section
variable{K:W.Frag}{H:Hp}{a D:Addr}{xs:ZQ}{ts:List Th}{te:TE}{tt:TT}{fin:Hp->Prop}{τ:St}{o:Option V}
end
end L2
namespace K01
open PySem PySem.Spec PyProof.Rows L2
end K01
namespace L2
open PySem PySem.Spec PyProof.Rows
section
variable{X:Cx}
end
end L2
namespace RevA
open PySem
section
variable{prog:Program}{w:World}{A:Around}{E:ZW}{s:Shared}{r t:Addr}{XD:ZN}{i:Int}
end
end RevA
namespace RevA
open PySem PyProof.Rows
section
variable{prog:Program}{w:World}{A:Around}{E:ZW}{s:Shared}{r t:Addr}{XD:ZN}
end
section
variable{prog:Program}{w:World}{A:Around}{E:ZW}{s:Shared}{r t:Addr}{XD:ZN}
end
section
variable{prog:Program}{w:World}{A:Around}{E:ZW}{s:Shared}{R:Result->Shared->Prop}{I S:Addr}{fp wr:ZU}{n:Nat}{P:Nat->Value->Prop}{St:Nat->Heap->Prop}{T:String}
end
section
variable{prog:Program}{w:World}{A:Around}{E:ZW}{s:Shared}{I:Addr}{fp wr:ZU}{n:Nat}{P:Nat->Value->Prop}{St:Nat->Heap->Prop}{T:String}
end
section
variable{prog:Program}{w:World}{A:Around}{E:ZW}{s:Shared}{r t:Addr}{XD:ZN}
end
section
variable{prog:Program}{w:World}{A:Around}{E:ZW}{s:Shared}{I:Addr}{fp wr:ZU}{n:Nat}{P:Nat->Value->Prop}{St:Nat->Heap->Prop}{T:String}
end
section
variable{prog:Program}{w:World}{A:Around}{E:ZW}{s:Shared}
end
end RevA
namespace IdxT
open PySem PySem.SeqAt PySem.MeetsSeq
open PySem.AutoSeq1 (wpAny_loadPart')
end IdxT
namespace L2
open PySem PySem.Spec PyProof.Rows
section
variable{X:Cx}{p p2 pos U3:Pos}{a:Expr}{t:TA}
end
section
variable{X:Cx}{e:Expr}{t1 t2:TE}
end
section
variable{X:Cx}{p p2 pos U3:Pos}{a:Expr}{t:TA}
end
section
variable{X:Cx}
end
section
variable{X:Cx}{k:Nat}{C:Addr}{m x:Str}{ps:ZD}{sp:Sp}{o e:Expr}{es:ZC}{ta:TE}{t:TA}{p pos apos:Pos}
end
end L2
namespace EnuT
open PySem
section
variable{prog:Program}{w:World}{A:Around}{E:ZW}{s:Shared}
theorem nextT{it t:Addr}{i:Nat}{XD:ZN}{x:Value}{Q:ZW}(hi:s.heap.IsTupleIter it t i)(ht:s.heap.IsTuple t XD)(hx:XD[i]?=some x)
  (q:∀h',h'.IsTupleIter it t (i+1)->Heap.SameBut it s.heap h'->Q x { s with heap:=h' }):wpAny (model prog w) A (Builtin.SmallTypes.nextOf (.ref it)) Q E s:=by
 obtain⟨u,hu,hc,hd⟩:=id hi;obtain⟨p,hp,_,n,dp⟩:=ht;unfold Builtin.SmallTypes.nextOf;refine Zv (wpAny_callSpecial?_slot (name:=Str.ofString "__next__") hi.typeIs F.slot_tuple_iterator_next (wpAny_call_entry F.slot_tuple_iterator_next hi.typeIs F.entry_tuple_iterator_next ?_ (F.args_tuple_iterator_next_1 _)));show wpAny _ _ (field (.ref it) 0 >>= _) _ _ s;refine Zv (wpAny_field hu hd (x:=.ref t) rfl ?_);show wpAny _ _ (if (Value.ref t == Value.none)=true then _ else _) _ _ s;rw[if_neg (show ¬ ((Value.ref t == Value.none)=true) from D2)];show wpAny _ _ (field (.ref it) 1 >>= _) _ _ s;refine Zv (wpAny_field hu hd (x:=.int i 0) rfl ?_);show wpAny _ _ (seqItems? (.ref t) >>= _) _ _ s;refine Zv (wpAny_seqItems hp dp ?_);simp only[XG,hx];refine Zv (wpAny_setField hu hd (by simp) (Yt ⟨x,rfl,Yt (q _ ?_ (Heap.SameBut.update ..))⟩));exact⟨_,Heap.get?_update_self _ hu (Obj.isFreed_of_fields (Obj.data_mapFields hd _)),(Obj.cls_mapFields ..).trans hc,by rw[Obj.data_mapFields hd];simp[rawInt]⟩
theorem endT{it t:Addr}{i:Nat}{XD:ZN}{Q:ZW}(hh:A.handled=none)(hi:s.heap.IsTupleIter it t i)(ht:s.heap.IsTuple t XD)(hx:XD[i]?=none)
  (q:∀h' e,Heap.ExtBut it s.heap h'->(∃o,h'.get? e=some o/\o.cls=.type "StopIteration")->E (.ref e) { s with heap:=h' }):wpAny (model prog w) A (Builtin.SmallTypes.nextOf (.ref it)) Q E s:=by
 obtain⟨u,hu,hc,hd⟩:=id hi;obtain⟨p,hp,_,n,dp⟩:=ht;unfold Builtin.SmallTypes.nextOf;refine Zv (wpAny_callSpecial?_slot (name:=Str.ofString "__next__") hi.typeIs F.slot_tuple_iterator_next (wpAny_call_entry F.slot_tuple_iterator_next hi.typeIs F.entry_tuple_iterator_next ?_ (F.args_tuple_iterator_next_1 _)));show wpAny _ _ (field (.ref it) 0 >>= _) _ _ s;refine Zv (wpAny_field hu hd (x:=.ref t) rfl ?_);show wpAny _ _ (if (Value.ref t == Value.none)=true then _ else _) _ _ s;rw[if_neg (show ¬ ((Value.ref t == Value.none)=true) from D2)];show wpAny _ _ (field (.ref it) 1 >>= _) _ _ s;refine Zv (wpAny_field hu hd (x:=.int i 0) rfl ?_);show wpAny _ _ (seqItems? (.ref t) >>= _) _ _ s;refine Zv (wpAny_seqItems hp dp ?_);simp only[XG,hx];refine Zv (wpAny_rule (Zv (wpAny_setField hu hd (by simp) ?_)));show wpAny _ _ (newExc (.type "StopIteration") [] >>= _) _ _ _;refine Zv ?_;simp only[newExc,newTuple];refine Zv (wpAny_newObj_type ?_ (by size_fits));refine Zv (m:=firstArgMember _ _) (wpAny_of_eq (a:=Value.none) (by first | rfl | (simp only[firstArgMember];rfl)) ?_);refine wpAny_newObj_type ?_ (by size_fits);simp only[raiseNew];refine Zv (wpAny_handled ?_)
 first | rw[show A.in1.handled=none from hh] | rw[hh]
 refine Zv (Yt (wpAny_throw ?_));exact q _ _ (((Heap.SameBut.update ..).extBut.push _).push _) ⟨_,Dj _ rfl,rfl⟩
end
section
variable{prog:Program}{w:World}{A:Around}{E:ZW}{s:Shared}
end
end EnuT
namespace L2
open PySem PySem.Spec PyProof.Rows
section
variable{X:Cx}{es:ZC}{k:Nat}{p2 pos U3:Pos}{a:Expr}{t:TA}
end
section
variable{X:Cx}
end
noncomputable def rngI(i:Int)(n:Nat):ZL:=(List.range n).map fun k:Nat=>i+(k:Int)
section
variable{X:Cx}{p p2 pos U3:Pos}{a b:Expr}{t:TA}
end
end L2
namespace EX
open PySem
section
variable{M:Model}{A:Around}{E:ZW}{s:Shared}{env:Env}{outer:List Env}{base:Heap}{L e T:Addr}{oe:Obj}{vs:ZN}{Q:ZA}
end
section
variable{M:Model}{A:Around}{E:ZW}{s:Shared}{env:Env}
end
section
variable{M:Model}{A:Around}{E:ZW}{s:Shared}{env:Env}
end
section
variable{prog:Program}{w:World}{A:Around}{E:ZW}{s:Shared}{env:Env}
end
section
variable{prog:Program}{w:World}{A:Around}{E:ZW}{h:Heap}{g:Array GenState}{d:Drawn}{t:Nat}{os:OsState}
variable{nm q:Str}{C N:Addr}{bs bm bmB:ZM}{hdct:Bool}{sn:ZD}{sub:ZM}{ab:Bool}{col:Option Bool}{dd:ZP}{k0 k1 k2 k3 k5:ZT}{B newId initId:String}
end
section
variable{prog:Program}{w:World}{A:Around}{E:ZW}{h:Heap}{g:Array GenState}{d:Drawn}{t:Nat}{os:OsState}
variable{nm q:Str}{C N:Addr}{bs bm bmB:ZM}{hdct:Bool}{sn:ZD}{sub:ZM}{ab:Bool}{col:Option Bool}{dd:ZP}{k0 k1 k2 k3 k5:ZT}{B newId initId:String}
end
end EX
namespace EX
open PySem Builtin Builtin.ObjectAttr
section
variable{prog:Program}{w:World}{A:Around}{E:ZW}{s:Shared}{x C:Addr}{o:Obj}{name:Str}{v:Value}
end
section
variable{prog:Program}{w:World}{A:Around}{E:ZW}{s:Shared}{x C dx:Addr}{o:Obj}{name:Str}{v:Value}{mA:ZV}{vs:ZN}
end
end EX
namespace EX
open PySem
section
variable{prog:Program}{w:World}{A:Around}{E:ZW}{h:Heap}{g:Array GenState}{d:Drawn}{t:Nat}{os:OsState}
variable{nm q:Str}{C N:Addr}{bs bm bmB:ZM}{hdct:Bool}{sn:ZD}{sub:ZM}{ab:Bool}{col:Option Bool}{dd:ZP}{k0 k1 k2 k3 k5:ZT}{B newId initId:String}
end
end EX
namespace EX
open PySem PySem.W Builtin Builtin.ObjectAttr
section
variable{prog:Program}{w:World}{A:Around}{E:ZW}{s:Shared}{x C:Addr}{o:Obj}{od:Option Obj}{K:Frag}
end
end EX
namespace L2
open PySem PySem.Spec PyProof.Rows
section
variable{P:Program}{w:World}{H:Hp}{h:Heap}{a C:Addr}{od:ZP}{new:Bool}{fs:List (Str×V)}
end
section
variable{K:W.Frag}{C x:Addr}{M:Model}{h:Heap}{f:Str}{o:Obj}
end
section
variable{X:Cx}{XB:ZY}{Z:St}{H:Hp}{s:Shared}{h':Heap}{t':Nat}
end
section
variable{X:Cx}{o e value:Expr}{f:Str}{pos pos':Pos}{ta tv:TE}
end
section
variable{X:Cx}{CX:Ke}{k:Nat}{f C:Addr}{fd:FuncData}{ps:ZD}{sp:Sp}{E:XK}{x m:Str}{p pos:Pos}{e:Expr}{es:ZC}{t:TA}
end
section
variable{X:Cx}{XB pn:ZY}{Z:St}{H:Hp}{s:Shared}{e:Addr}{W:St->Hp->Addr->Addr->ZP->Prop}
end
section
variable{X:Cx}{XB:ZY}{Z:St}{H:Hp}{s:Shared}
end
section
variable{X:Cx}{W:St->Hp->Addr->Addr->ZP->Prop}
end
section
variable{X:Cx}
end
section
variable{X:Cx}
end
end L2
namespace EX
open PySem
section
variable{M:Model}{A:Around}{E:ZW}{s:Shared}{env:Env}{outer:List Env}{base:Heap}{L e T:Addr}{oe:Obj}{vs:ZN}{Q:ZA}
end
end EX
namespace L2
open PySem PySem.Spec PyProof.Rows
section
variable{X:Cx}{XB:ZY}{Z:St}{H:Hp}{s s':Shared}
end
section
variable{P:Program}{w:World}{K:W.Frag}{mg:ZV}{base:Heap}
end
section
variable{X:Cx}{W:XWT}{k:Nat}{x:Str}{ps:ZD}{sp:Sp}{p pos:Pos}{e:Expr}{es:ZC}{t:TA}{te:TE}
end
section
variable{X:Cx}{XB pn:ZY}{Z:St}{H:Hp}{s:Shared}{e:Addr}{W:XWT}
end
section
variable{X:Cx}
end
section
variable{X:Cx}
end
section
variable{X:Cx}{XB:ZY}{Z:St}{H:Hp}{s:Shared}
inductive R5(K:W.Frag)(A:Around)(x:V)(y:V)(H:Hp)(Q:VK):Prop
 | mk(p xs d ds)(Yh:y=.ref p)(Ys:Vc K H p xs)(Vt:Vg K H d x)(C6:Ze K H ds xs)(xy:(∀e∈ds,A.units+Uv e+10<cLine))(h5_:Q (.bl (!(ds.any fun e=>Yp e d))) H):R5 K A x y H Q
def ur(K:W.Frag)(A:Around):R2:=fun x y H Q=>R5 K A x y H Q
theorem zj:Uo X (compareOp .NotIn) (ur X.K X.A):=by
 intro XB s Z H x y v u Q I rx ry h;obtain⟨p,xs,d,ds,rfl,hq,hd,ar,hu,q⟩:=h;cases ry;obtain⟨XD,r,pl,hz⟩:=I.list hq;have l1:=ar.length;have l2:=r.length
 classical
 have at_:∀{i:Nat} {w:Value},XD[i]?=some w->∃dy xi,ds[i]?=some dy/\xs[i]?=some xi/\Vg X.K H dy xi/\RelV xi w:=fun {i w} hw=>by
  have hi:=(Tz.mp hw).1;obtain⟨dy,dz⟩:∃dy,ds[i]?=some dy:=⟨_,Ui (by omega)⟩;obtain⟨xi,hxi,dd⟩:=ar.get dz;obtain⟨w',hw',rr⟩:=r.get hxi;rw[hw]at hw';cases hw';exact⟨dy,xi,dz,hxi,dd,rr⟩
 have key:∀{i:Nat} {w:Value} {dy:D},XD[i]?=some w->ds[i]?=some dy->decide (∃(j:Nat) (dj:D),XD[j]?=some w/\ds[j]?=some dj/\Yp dj d=true)=Yp dy d:=fun {i w dy} hw dz=>by
  cases e:Yp dy d with
  | true=>exact Dw ⟨i,dy,hw,dz,e⟩
  | false =>
   refine Dl fun⟨j,dj,h1,h2,h3⟩=>?_;obtain⟨da,xa,a1,a2,a3,a4⟩:=at_ hw;obtain⟨db,xb,b1,b2,b3,b4⟩:=at_ h1;rw[dz]at a1;rw[h2]at b1;cases a1;cases b1;have:=a4.inj b4;subst this;rw[Vg.inj I _ _ _ a3 b3,h3]at e;cases e
 refine SeqAt.notIn_listAt (fun w=>decide (∃(j:Nat) (dj:D),XD[j]?=some w/\ds[j]?=some dj/\Yp dj d=true)) pl.isList (fun w hw=>?_) ⟨.bl _,H,I,rfl, ?_⟩
 .obtain⟨i,hi⟩:=List.getElem?_of_mem (show w∈XD by simpa using hw);obtain⟨dy,xi,a1,a2,a3,a4⟩:=at_ hi;have:=hu dy (M0g a1);show SeqAt.EqAt X.A.in1 s w v (decide _);rw[key hi a1];exact Nr I dy d xi x w v X.A.in1 a3 hd a4 rx (by show X.A.units+1+Uv dy<cLine;omega) (by show X.A.units+1<cLine;omega)
 .have e:(XD.toArray.any fun w=>decide (∃(j:Nat) (dj:D),XD[j]?=some w/\ds[j]?=some dj/\Yp dj d=true))=ds.any fun e=>Yp e d:=by
   rw[Bool.eq_iff_iff];simp only[List.any_toArray,XZ,decide_eq_true_eq];constructor
   .rintro⟨w,hw,j,dj,h1,h2,h3⟩;exact⟨dj,M0g h2,h3⟩
   .rintro⟨dj,hm,h3⟩;obtain⟨j,hj⟩:=List.getElem?_of_mem hm;have hl:=(Tz.mp hj).1;obtain⟨w,hw⟩:∃w,XD[j]?=some w:=⟨_,Ui (by omega)⟩;exact⟨w,M0g hw,j,dj,hw,hj,h3⟩
  rw[e];exact q
end
section
variable{X:Cx}{W:XWT}{k:Nat}{f C:Addr}{fd:FuncData}{m:Str}{ps:ZD}{sp:Sp}{o e:Expr}{es:ZC}{ta:TE}{t:TA}{p pos apos:Pos}
end
section
variable{X:Cx}
inductive U8(K:W.Frag)(xs:ZQ)(H:Hp)(Q:VK):Prop
 | mk(p ys)(Yh:xs=[.ref p])(Ys:(Vc K H p ys\/Yu K H p ys))(Vt:∀t H',Zc H H'->Yu K H' t ys->Q (.ref t) H'):U8 K xs H Q
theorem Cd:Yk X (.type "tuple") (fun xs H Q=>U8 X.K xs H Q):=by
 intro XB s Z H xs us Q I rs h;obtain⟨p,ys,e,h,q⟩:=h;refine Rm XB s Z H xs us Q I rs ⟨p,ys,e, ?_⟩;rcases h with h | h
 .exact .inl ⟨h,fun l hl=>q l _ (Zc.lay hl) (Yu.of Zq)⟩
 .exact .inr ⟨h,q p H (Zc.refl H) h⟩
end
theorem k7(x:Str)(is:List Nat):∀c∈(Str.mk (is.filterMap (x.cps[·]?)).toArray).cps.toList,c∈x.cps.toList:=fun c m=>by
 have m:c∈is.filterMap (x.cps[·]?):=by simpa using m
 obtain⟨i,_,e⟩:=List.mem_filterMap.mp m;have:=Array.mem_of_getElem? e;exact Array.mem_toList_iff.mpr this
theorem Xr(x:Str)(l u:ZR):∀c∈(Txt.slice x l u).cps.toList,c∈x.cps.toList:=by
 unfold Txt.slice
 split
 .exact fun _ m=>m
 .exact k7 x _
section
variable{X:Cx}{e:Expr}{te t1 t2:TE}{p2 p3 p4 pos:Pos}{j1:Nat}
end
section
variable{Z:Type}[DecidableEq Z]
noncomputable def G2(XM:List (Z×V))(k:Z):Option V:=(XM.find? fun kv=>decide (kv.1=k)).map (·.2)
noncomputable def putK(XM:List (Z×V))(k:Z)(v:V):List (Z×V) :=
 if (XM.any fun kv=>decide (kv.1=k))=true then XM.map (fun kv=>if kv.1=k then (kv.1,v) else kv) else XM++[(k,v)]
noncomputable def Zx0(XM:List (Z×V))(k:Z):List (Z×V):=XM.filter fun kv=>decide (kv.1≠k)
theorem D7{p:Z×V}{r:List (Z×V)}{k:Z}(e:p.1=k):G2 (p::r) k=some p.2:=by simp[G2,List.find?_cons,e]
theorem D8{p:Z×V}{r:List (Z×V)}{k:Z}(e:¬ p.1=k):G2 (p::r) k=G2 r k:=by simp[G2,List.find?_cons,e]
theorem Qw(k:Z):∀XM:List (Z×V),(XM.any fun kv=>decide (kv.1=k))=(G2 XM k).isSome
 | []=>rfl
 | p::r=>by
  rw[List.any_cons];by_cases e:p.1=k
  .simp only[D7 e,Dw e,Bool.true_or,Option.isSome_some]
  .rw[D8 e,Dl e,Bool.false_or];exact Qw k r
theorem Uj(XM:List (Z×V))(k:Z)(v:V):(putK XM k v).length<=XM.length+1:=by
 unfold putK
 split
 .rw[Yn];omega
 .rw[Qz,B9,List.length_nil];omega
theorem Ni.isSome_eq{o:Option V}{u:ZT}(r:Ni o u):o.isSome=u.isSome:=by
 cases o with
 | none=>cases u with
  | none=>rfl
  | some _=>exact(show False from r).elim
 | some _=>cases u with
  | none=>exact(show False from r).elim
  | some _=>rfl
theorem Ni.getD{o:Option V}{u:ZT}{d:V}{d':Value}(r:Ni o u)(rd:RelV d d'):RelV (o.getD d) (u.getD d'):=by
 cases o with
 | none=>cases u with
  | none=>exact rd
  | some _=>exact(show False from r).elim
 | some _=>cases u with
  | none=>exact(show False from r).elim
  | some _=>exact r
theorem KV.val{XM:List (Z×V)}{vs:List (Z×Value)}(r:KV XM vs)(k:Z):Ni (G2 XM k) (valueAt vs k):=by
 unfold KV at r
 induction r with
 | nil=>exact True.intro
 | @cons p q ps qs h t ih =>
  obtain⟨h1,h2⟩:=h;by_cases e:p.1=k
  .have e':q.1=k:=h1.symm.trans e;have b:valueAt (q::qs) k=some q.2:=by simp[valueAt,List.find?_cons,e']
   rw[D7 e,b];exact h2
  .have e':¬ q.1=k:=fun z=>e (h1.trans z);have b:valueAt (q::qs) k=valueAt qs k:=by simp[valueAt,List.find?_cons,e']
   rw[D8 e,b];exact ih
theorem KV.any{XM:List (Z×V)}{vs:List (Z×Value)}(r:KV XM vs)(k:Z):(XM.any fun kv=>decide (kv.1=k))=vs.any fun kv=>decide (kv.1=k):=by
 unfold KV at r
 induction r with
 | nil=>rfl
 | cons h t ih=>rw[List.any_cons,List.any_cons,ih,h.1]
theorem KV.repl{XM:List (Z×V)}{vs:List (Z×Value)}(r:KV XM vs)(k:Z){y:V}{u:Value}(ry:RelV y u) :
  KV (XM.map fun kv=>if kv.1=k then (kv.1,y) else kv) (vs.map fun kv=>if kv.1=k then (kv.1,u) else kv):=by
 unfold KV at r ⊢
 induction r with
 | nil=>exact .nil
 | @cons p q ps qs h t ih =>
  rw[C8,C8];refine .cons ?_ ih;obtain⟨h1,h2⟩:=h;by_cases e:p.1=k
  .rw[if_pos e,if_pos (h1.symm.trans e)];exact⟨h1,ry⟩
  .rw[if_neg e,if_neg (fun z=>e (h1.trans z))];exact⟨h1,h2⟩
theorem KV.put{XM:List (Z×V)}{vs:List (Z×Value)}(r:KV XM vs)(k:Z){y:V}{u:Value}(ry:RelV y u):KV (putK XM k y) (stored vs k u):=by
 unfold putK stored;rw[r.any k];by_cases e:(vs.any fun kv=>decide (kv.1=k))=true
 .rw[if_pos e,if_pos e];exact r.repl k ry
 .rw[if_neg e,if_neg e];exact Paired.snoc r ⟨rfl,ry⟩
theorem KV.drop{XM:List (Z×V)}{vs:List (Z×Value)}(r:KV XM vs)(k:Z):KV (Zx0 XM k) (without vs k):=by
 unfold KV at r ⊢;unfold Zx0 without
 induction r with
 | nil=>exact .nil
 | @cons p q ps qs h t ih =>
  obtain⟨h1,h2⟩:=h;rw[List.filter_cons,List.filter_cons];by_cases e:p.1=k
  .have a:¬ decide (p.1≠k)=true:=by simp[e]
   have b:¬ decide (q.1≠k)=true:=by simp[h1.symm.trans e]
   rw[if_neg a,if_neg b];exact ih
  .have e':¬ q.1=k:=fun z=>e (h1.trans z);have a:decide (p.1≠k)=true:=by simp[e]
   have b:decide (q.1≠k)=true:=by simp[e']
   rw[if_pos a,if_pos b];exact .cons ⟨h1,h2⟩ ih
theorem KV.keys{XM:List (Z×V)}{vs:List (Z×Value)}(r:KV XM vs):XM.map (·.1)=vs.map (·.1):=by
 unfold KV at r
 induction r with
 | nil=>rfl
 | cons h t ih=>rw[C8,C8,ih,h.1]
theorem KV.length{XM:List (Z×V)}{vs:List (Z×Value)}(r:KV XM vs):XM.length=vs.length:=Paired.length r
end
theorem Bj{P:Program}{w:World}{k:Key}{u:Value}(r:RelV (kV k) u):(Zm P w).is k u=true:=by
 cases k with
 | inl i=>obtain⟨t,e⟩:=(show ∃t,u=Value.int i t from r);subst e;exact Pq P w i t
 | inr x=>obtain⟨t,e⟩:=(show ∃t,u=Value.str x t from r);subst e;exact Px P w x t
theorem Wv{P:Program}{w:World}:∀{ks:List Key} {us:ZM},Zw (ks.map kV) us->ItemsAre (Zm P w) ks us
 | [],_,r=>by rw[List.map_nil]at r;cases r;exact .nil
 | k::ks,_,r=>by
  rw[C8]at r;cases r with
  | cons h t=>exact .cons (Bj h) (Wv t)
abbrev KT(H:Hp):List (List Key×V)->List (List Key×Addr×Value)->Prop:=Paired fun p q=>p.1=q.1/\H q.2.1=some (.tup (p.1.map kV))/\RelV p.2 q.2.2
theorem KT.val{H:Hp}{XM:List (List Key×V)}{xs:List (List Key×Addr×Value)}(r:KT H XM xs)(k:List Key):Ni (G2 XM k) ((atKey xs k).map (·.2)):=by
 induction r with
 | nil=>exact True.intro
 | @cons p q ps qs h t ih =>
  obtain⟨h1,_,h2⟩:=h;by_cases e:p.1=k
  .have e':q.1=k:=h1.symm.trans e;have b:atKey (q::qs) k=some q.2:=by simp[atKey,List.find?_cons,e']
   rw[D7 e,b];exact h2
  .have e':¬ q.1=k:=fun z=>e (h1.trans z);have b:atKey (q::qs) k=atKey qs k:=by simp[atKey,List.find?_cons,e']
   rw[D8 e,b];exact ih
theorem KT.repl{H:Hp}{XM:List (List Key×V)}{xs:List (List Key×Addr×Value)}(r:KT H XM xs)(k:List Key){y:V}{u:Value}(ry:RelV y u) :
  KT H (XM.map fun kv=>if kv.1=k then (kv.1,y) else kv) (xs.map (putAt k u)):=by
 induction r with
 | nil=>exact .nil
 | @cons p q ps qs h t ih =>
  rw[C8,C8];refine .cons ?_ ih;obtain⟨h1,h2,h3⟩:=h;unfold putAt;by_cases e:p.1=k
  .rw[if_pos e,if_pos (h1.symm.trans e)];exact⟨h1,h2,ry⟩
  .rw[if_neg e,if_neg (fun z=>e (h1.trans z))];exact⟨h1,h2,h3⟩
theorem KT.put{H:Hp}{XM:List (List Key×V)}{xs:List (List Key×Addr×Value)}(r:KT H XM xs)(k:List Key){b:Addr}{y:V}{u:Value}(hb:H b=some (.tup (k.map kV)))(ry:RelV y u) :
  KT H (putK XM k y) (storedH xs k b u):=by
 have e:(XM.any fun kv=>decide (kv.1=k))=(atKey xs k).isSome:=by
  rw[Qw,(r.val k).isSome_eq,Option.isSome_map]
 unfold putK storedH;rw[e];by_cases q:(atKey xs k).isSome=true
 .rw[if_pos q,if_pos q];exact r.repl k ry
 .rw[if_neg q,if_neg q];exact Paired.snoc r ⟨rfl,hb,ry⟩
theorem KT.keeps{H H':Hp}{XM:List (List Key×V)}{xs:List (List Key×Addr×Value)}(r:KT H XM xs)(ht:∀b ys,H b=some (.tup ys)->H' b=some (.tup ys)):KT H' XM xs :=
 Paired.mapP r fun _ _ z=>⟨z.1,ht _ _ z.2.1,z.2.2⟩
section
variable{P:Program}{w:World}{H:Hp}{h:Heap}{a:Addr}
theorem rd_of{u:HO}(ok:D3 P w H h)(e:Rd H a u):Za P w H h a u:=e.ok ok
theorem Jo{XM:List (Key×V)}(ok:D3 P w H h)(e:Rd H a (.dK XM)):XM.length<=sizeLine/\(a == sysModules)=false/\∃vs,KV XM vs/\h.DictOf (Zm P w) a vs :=
 show Za P w H h a (.dK XM) from rd_of ok e
theorem dk_of{XM:List (Key×V)}(ok:D3 P w H h)(e:H a=some (.dK XM)):XM.length<=sizeLine/\(a == sysModules)=false/\∃vs,KV XM vs/\h.DictOf (Zm P w) a vs:=Jo ok (.inl e)
theorem Di{ks:List Key}(ok:D3 P w H h)(e:H a=some (.tup (ks.map kV))):(tupleKind (Zm P w)).is h ks a:=by
 obtain⟨_,XD,r,o,h1,h2,⟨n,h3⟩,_⟩:=(show Za P w H h a (.tup (ks.map kV)) from ok a _ e);exact⟨o,XD.toArray,n,h1,h2,h3,by simpa using Wv r⟩
theorem Bw{XM:List (List Key×V)}(ok:D3 P w H h)(e:Rd H a (.dT XM)):XM.length<=sizeLine/\(a == sysModules)=false /\
  ∃xs,KT H XM xs/\h.DictOfH (tupleKind (Zm P w)) a xs:=by
 obtain⟨z,y,xs,r,o,es,ep,h1,h2,h3,h4,h5⟩:=(show Za P w H h a (.dT XM) from rd_of ok e);refine⟨z,y,xs,r,o,es,ep,h1,h2,h3,h4,fun x hx=>?_,h5⟩
 have all:∀{l:List (List Key×V)} {m:List (List Key×Addr×Value)},KT H l m->∀x∈m,(tupleKind (Zm P w)).is h x.1 x.2.1:=by
  intro l m q
  induction q with
  | nil=>intro x hx;exact nomatch hx
  | @cons p q ps qs hq t ih =>
   intro x hx;rcases Yw.mp hx with e | hx
   .subst e;exact Di ok (by rw[<-hq.1];exact hq.2.1)
   .exact ih x hx
 exact all r x hx
theorem dt_of{XM:List (List Key×V)}(ok:D3 P w H h)(e:H a=some (.dT XM)):XM.length<=sizeLine/\(a == sysModules)=false /\
  ∃xs,KT H XM xs/\h.DictOfH (tupleKind (Zm P w)) a xs:=Bw ok (.inl e)
end
def M6(H:Hp)(a:Addr)(y:V)(r:Option V):Prop :=
 (∃XM k,Rd H a (.dK XM)/\y=kV k/\r=G2 XM k)\/∃XM k b,Rd H a (.dT XM)/\y=.ref b/\H b=some (.tup (k.map kV))/\r=G2 XM k
def Ko(H:Hp)(a:Addr)(y v:V)(H':Hp):Prop :=
 (∃XM k,H a=some (.dK XM)/\y=kV k/\XM.length<sizeLine/\H'=upd H a (.dK (putK XM k v))) \/
 ∃XM k b,H a=some (.dT XM)/\y=.ref b/\H b=some (.tup (k.map kV))/\XM.length<sizeLine/\H'=upd H a (.dT (putK XM k v))
theorem M6.k{H:Hp}{a:Addr}{XM:List (Key×V)}{k:Key}(e:H a=some (.dK XM)):M6 H a (kV k) (G2 XM k):=.inl ⟨XM,k,.inl e,rfl,rfl⟩
theorem M6.t{H:Hp}{a b:Addr}{XM:List (List Key×V)}{k:List Key}(e:H a=some (.dT XM))(eb:H b=some (.tup (k.map kV))):M6 H a (.ref b) (G2 XM k):=.inr ⟨XM,k,b,.inl e,rfl,eb,rfl⟩
theorem Ko.k{H:Hp}{a:Addr}{XM:List (Key×V)}{k:Key}{v:V}(e:H a=some (.dK XM))(hl:XM.length<sizeLine):Ko H a (kV k) v (upd H a (.dK (putK XM k v))):=.inl ⟨XM,k,e,rfl,hl,rfl⟩
theorem Ko.t{H:Hp}{a b:Addr}{XM:List (List Key×V)}{k:List Key}{v:V}(e:H a=some (.dT XM))(eb:H b=some (.tup (k.map kV)))(hl:XM.length<sizeLine) :
  Ko H a (.ref b) v (upd H a (.dT (putK XM k v))):=.inr ⟨XM,k,b,e,rfl,eb,hl,rfl⟩
section
variable{X:Cx}{XB:ZY}{Z:St}{H:Hp}{s:Shared}{a:Addr}{y v:V}{u r:Value}{o:Option V}{A:Around}{E:ZW}
theorem Inv.big(I:Inv X XB Z H s):sysModules<s.heap.objs.size:=by
 have h:mainGlobals<s.heap.objs.size:=(I.mod.glob.keeps I.bk).lt;exact Nat.lt_trans (by decide) h
theorem xu{Q:ZW}(hu:A.units+1<cLine)(I:Inv X XB Z H s)(g:M6 H a y (some v))(ry:RelV y u)(h:∀w' s',Inv X XB Z H s'->RelV v w'->Q w' s') :
  wpAny (model X.prog X.w) A (getItem (.ref a) u) Q E s:=by
 rcases g with ⟨XM,k,e,ey,l⟩ | ⟨XM,k,b,e,ey,eb,l⟩
 .subst ey;obtain⟨z,hd,vs,rel,dd⟩:=Jo I.hok e;obtain⟨w',hw,W9⟩:=Ni.some_of (v:=v) (o:=valueAt vs k) (by rw[l];exact rel.val k);exact wpAny_getItem_of (Bj ry) dd.mapOf hw (h w' _ (I.tok _) W9)
 .subst ey;cases(show u=Value.ref b from ry);obtain⟨z,hd,xs,rel,dd⟩:=Bw I.hok e;obtain⟨w',hw,W9⟩:=Ni.some_of (v:=v) (o:=(atKey xs k).map (·.2)) (by rw[l];exact rel.val k);obtain⟨p,hp,hp2⟩:=Z8.mp hw;refine wpAny_getItem_heap (tupleKind_room_in1 hu) (Di I.hok eb) dd hp ?_;rw[hp2];exact h w' _ (I.tok _) W9
theorem d_in{Q:ZW}(hu:A.units+1<cLine)(I:Inv X XB Z H s)(g:M6 H a y o)(ry:RelV y u)(h:∀s',Inv X XB Z H s'->Q (.bool o.isSome) s') :
  wpAny (model X.prog X.w) A (compareOp .In u (.ref a)) Q E s:=by
 rcases g with ⟨XM,k,e,ey,l⟩ | ⟨XM,k,b,e,ey,eb,l⟩
 .subst ey;obtain⟨z,hd,vs,rel,dd⟩:=Jo I.hok e;refine wpAny_in_of (Bj ry) hd dd.mapOf ?_;rw[<-(rel.val k).isSome_eq, <-l];exact h _ (I.tok _)
 .subst ey;cases(show u=Value.ref b from ry);obtain⟨z,hd,xs,rel,dd⟩:=Bw I.hok e;refine wpAny_in_heap (tupleKind_room_in1 hu) (Di I.hok eb) hd dd ?_;have q:=(rel.val k).isSome_eq;rw[Option.isSome_map]at q;rw[<-q, <-l];exact h _ (I.tok _)
theorem Zz0{Q:ZW}(hu:A.units+1<cLine)(I:Inv X XB Z H s)(g:M6 H a y o)(ry:RelV y u)(h:∀s',Inv X XB Z H s'->Q (.bool (!o.isSome)) s') :
  wpAny (model X.prog X.w) A (compareOp .NotIn u (.ref a)) Q E s:=by
 rcases g with ⟨XM,k,e,ey,l⟩ | ⟨XM,k,b,e,ey,eb,l⟩
 .subst ey;obtain⟨z,hd,vs,rel,dd⟩:=Jo I.hok e;refine wpAny_notIn_of (Bj ry) hd dd.mapOf ?_;rw[<-(rel.val k).isSome_eq, <-l];exact h _ (I.tok _)
 .subst ey;cases(show u=Value.ref b from ry);obtain⟨z,hd,xs,rel,dd⟩:=Bw I.hok e;refine wpAny_notIn_heap (tupleKind_room_in1 hu) (Di I.hok eb) hd dd ?_;have q:=(rel.val k).isSome_eq;rw[Option.isSome_map]at q;rw[<-q, <-l];exact h _ (I.tok _)
theorem Il{h':Heap}{t':Nat}{ob:HO}(I:Inv X XB Z H s)(mu:Mut (H a))(hs:Heap.SameBut a s.heap h')(he:∃q,h'.get? a=some q)(new:Za X.prog X.w (upd H a ob) h' a ob) :
  Inv X XB Z (upd H a ob) { s with heap:=h',toks:=t' } :=
 I.write (x:=a) (e:=a) mu (.inl rfl) (fun b q hb z=>(hs.2 b hb).trans z) he new
theorem E7{P:Program}{w:World}{H':Hp}{h':Heap}{XM:List (Key×V)}{vs:List (Key×Value)}(z:XM.length<=sizeLine)(hd:(a == sysModules)=false)(rel:KV XM vs)(dd:h'.DictOf (Zm P w) a vs) :
  Za P w H' h' a (.dK XM):=⟨z,hd,vs,rel,dd⟩
theorem xp{H':Hp}{Q:ZA}(hu:A.units+1<cLine)(I:Inv X XB Z H s)(g:Ko H a y v H')(ry:RelV y u)(rv:RelV v r)(h:∀s',Inv X XB Z H' s'->Q () s') :
  wpAny (model X.prog X.w) A (setItem (.ref a) u r) Q E s:=by
 rcases g with ⟨XM,k,e,ey,l,eH⟩ | ⟨XM,k,b,e,ey,eb,l,eH⟩
 .subst ey eH;obtain⟨z,hd,vs,rel,dd⟩:=dk_of I.hok e;have hz:vs.length<=sizeLine:=by rw[<-rel.length];exact z
  have hl:(putK XM k v).length<=sizeLine:=by have:=Uj XM k v;omega
  refine wpAny_setItem_pairs (hsz:=hz) (Bj ry) dd fun h' dd' hs=>h _ ?_;have he:∃q,h'.get? a=some q:=let ⟨q,_,_,hq,_⟩:=dd';⟨q,hq⟩;exact Il I (by rw[e];exact True.intro) hs he (E7 hl hd (rel.put k rv) dd')
 .subst ey eH;cases(show u=Value.ref b from ry);obtain⟨z,hd,xs,rel,dd⟩:=dt_of I.hok e;have hz:xs.length<=sizeLine:=by rw[<-Paired.length rel];exact z
  have hl:(putK XM k v).length<=sizeLine:=by have:=Uj XM k v;omega
  refine wpAny_setItem_heap (hsz:=hz) (tupleKind_room_in1 hu) (Di I.hok eb) dd fun h' dd' hs=>h _ ?_;obtain⟨q,es,ep,hq,h2,h3,h4,_,h5⟩:=dd';refine Il I (by rw[e];exact True.intro) hs ⟨q,hq⟩ ⟨hl,hd,_,(rel.put k eb rv).keeps fun c ys ec=>?_,q,es,ep,hq,h2,h3,h4,h5⟩;rw[Zz (ne_of ec e (fun z=>nomatch z))];exact ec
end
section
variable{X:Cx}{XB:ZY}{Z:St}{H:Hp}{s:Shared}{a:Addr}{XM:List (Key×V)}{k:Key}{u:Value}{A:Around}{E:ZW}
theorem d_len{Q:ZW}(I:Inv X XB Z H s)(e:Rd H a (.dK XM))(h:∀t s',Inv X XB Z H s'->Q (.int XM.length t) s'):wpAny (model X.prog X.w) A (call (.builtin "len") [.ref a]) Q E s:=by
 obtain⟨z,hd,vs,rel,dd⟩:=Jo I.hok e;refine call_len_dict hd dd (by rw[<-rel.length];rw[sizeLine_eq]at z;omega) ?_;rw[<-rel.length];exact h _ _ (I.tok _)
end
theorem Oz{X:Cx}{XB:ZY}{Z:St}{H:Hp}{s:Shared}{a:Addr}{y:V}{o:Option V}(I:Inv X XB Z H s)(g:M6 H a y o):s.TypeIs (.ref a) "dict" := by
 rcases g with ⟨XM,k,e,_,_⟩ | ⟨XM,k,b,e,_,_,_⟩
 .obtain⟨_,_,vs,_,dd⟩:=Jo I.hok e;exact dd.typeIs
 .obtain⟨_,_,xs,_,dd⟩:=Bw I.hok e;exact dd.typeIs
inductive Ht(D:Ends)(Z:St)(v:V)(x:V)(y:V)(H3:Hp):Prop
 | mk(a H4)(Yh:x=.ref a)(Ys:Ko H3 a y v H4)(Vt:D.nx Z H4):Ht D Z v x y H3
def sDPut(td ty tv:TE):TS:=fun D Z H=>tv Z H fun v H1=>td Z H1 fun x H2=>ty Z H2 fun y H3=>Ht D Z v x y H3
section
variable{X:Cx}{o i e value:Expr}{pos pos' tpos:Pos}{td ty tv:TE}
theorem aw(hu:X.A.units+1<cLine)(ho:PE X o td)(hi:PE X i ty)(hv:PE X value tv)(hs:swapsWith value (some (.Subscript o i pos')) pos.line X.env=pure false) :
  PS X (.Assign [.Subscript o i pos'] value pos) (sDPut td ty tv):=by
 intro XB s Z H D I h;refine wpAny_Assign_Subscript (Z3 (hv XB s Z H _ I h) fun r s1 ⟨v,H1,I1,rv,q1⟩=>Z3 (ho XB s1 Z H1 _ I1 q1) fun u s2 ⟨x,H2,I2,rx,q2⟩=>Z3 (hi XB s2 Z H2 _ I2 q2) fun iv s3 ⟨y,H3,I3,ry,a,H4,ex,g,q3⟩=>?_) hs;subst ex;obtain rfl:u=Value.ref a:=rx;exact xp hu I3 g ry rv fun s4 I4=>⟨Z,H4,I4,q3⟩
end
theorem tf{P:Program}{w:World}{H:Hp}(h:Heap)(hb:sysModules<h.objs.size):Za P w H (h.push { cls:=.type "dict",data:=.dict #[] }) h.objs.size (.dK []) :=
 ⟨Ju _,B0n.mpr (Ne.symm (N0 hb)),[],.nil,Heap.DictOf.new h⟩
def tDNewK:TE:=fun _ H Q=>∀p,H p=none->Q (.ref p) (upd H p (.dK []))
section
variable{X:Cx}{pos:Pos}
theorem gk:PE X (.Dict [] [] pos) tDNewK:=fun XB s Z H Q I h =>
 wpAny_Dict_empty ⟨.ref s.heap.objs.size,_,I.laid (a:=s.heap.objs.size) (o:=.dK []) (t':=s.toks) (fun _ _ q=>Y9 _ q) (Yg _) (tf s.heap I.big),rfl,h _ (I.hok.fresh (Yg _))⟩
end
structure M1(X:Cx)(o:Expr)(m:Str)(apos:Pos)(e:Expr)(cpos:Pos):Prop where
 base:attributeBase o m X.env (eval o X.env)=eval o X.env
 few:((backTo cpos (starEach [e] X.env)).all (fun x=>!x.1) && (backToKw cpos (keywordEach [] X.env)).all (fun x=>x.1.isSome)
  && decide (([e]:ZC).length+([]:List Keyword).length+(if ([]:List Keyword).isEmpty then 0 else 1)<30))=true
 line:(apos.endLine == cpos.line)=true
 trees:backTo cpos (starEach [e] X.env)=[(false,eval e X.env)]
structure M2(X:Cx)(o:Expr)(m:Str)(apos:Pos)(e f:Expr)(cpos:Pos):Prop where
 base:attributeBase o m X.env (eval o X.env)=eval o X.env
 few:((backTo cpos (starEach [e,f] X.env)).all (fun x=>!x.1) && (backToKw cpos (keywordEach [] X.env)).all (fun x=>x.1.isSome)
  && decide (([e,f]:ZC).length+([]:List Keyword).length+(if ([]:List Keyword).isEmpty then 0 else 1)<30))=true
 line:(apos.endLine == cpos.line)=true
 trees:backTo cpos (starEach [e,f] X.env)=[(false,eval e X.env),(false,eval f X.env)]
def c7(H:Hp)(a:Addr):Prop:=(∃XM,Rd H a (.dK XM))\/∃XM,Rd H a (.dT XM)
theorem T8{X:Cx}{XB:ZY}{Z:St}{H:Hp}{s:Shared}{a:Addr}(I:Inv X XB Z H s)(d:c7 H a) :
  s.TypeIs (.ref a) "dict" /\ (∀b,Value.ref a=.ref b->∃ob,s.heap.get? b=some ob/\ob.dict=none)/\(a == sysModules)=false:=by
 rcases d with ⟨XM,e⟩ | ⟨XM,e⟩
 .obtain⟨_,hd,vs,_,dd⟩:=Jo I.hok e;refine⟨dd.typeIs,fun b q=>?_,hd⟩;cases q;obtain⟨ob,_,_,h1,h2,_⟩:=dd;exact⟨ob,h1,h2.2.1⟩
 .obtain⟨_,hd,xs,_,dd⟩:=Bw I.hok e;refine⟨dd.typeIs,fun b q=>?_,hd⟩;cases q;obtain⟨ob,_,_,h1,h2,_⟩:=dd;exact⟨ob,h1,h2.2.1⟩
section
variable{X:Cx}{XB:ZY}{Z:St}{H:Hp}{s:Shared}{a:Addr}{y d:V}{u r:Value}{o:Option V}{A:Around}{E:ZW}
theorem d_get1{Q:ZW}(hu:A.units+1<cLine)(I:Inv X XB Z H s)(g:M6 H a y o)(ry:RelV y u)(h:∀w' s',Inv X XB Z H s'->RelV (o.getD .non) w'->Q w' s') :
  wpAny (model X.prog X.w) A (call (.builtin "dict.get") [.ref a,u]) Q E s:=by
 rcases g with ⟨XM,k,e,ey,l⟩ | ⟨XM,k,b,e,ey,eb,l⟩
 .subst ey;obtain⟨z,hd,vs,rel,dd⟩:=Jo I.hok e;refine call_meetsIn PySem.F.slot_dict_get dd.typeIs PySem.F.entry_dict_get (PySem.F.args_dict_get_2 _ _) (meets_dict_get (Zm X.prog X.w) a (Bj ry) hd) ⟨_,dd.mapOf,h _ _ (I.tok _) ?_⟩;rw[l];exact(rel.val k).getD rfl
 .subst ey;cases(show u=Value.ref b from ry);obtain⟨z,hd,xs,rel,dd⟩:=Bw I.hok e;refine call_meetsIn PySem.F.slot_dict_get dd.typeIs PySem.F.entry_dict_get (PySem.F.args_dict_get_2 _ _) (meetsH_dict_get (tupleKind (Zm X.prog X.w)) a b hd) ⟨tupleKind_room_in1 hu,k,xs,Di I.hok eb,dd,h _ _ (I.tok _) ?_⟩;rw[l];exact(rel.val k).getD rfl
theorem d_get2{Q:ZW}(hu:A.units+1<cLine)(I:Inv X XB Z H s)(g:M6 H a y o)(ry:RelV y u)(rd:RelV d r)(h:∀w' s',Inv X XB Z H s'->RelV (o.getD d) w'->Q w' s') :
  wpAny (model X.prog X.w) A (call (.builtin "dict.get") [.ref a,u,r]) Q E s:=by
 rcases g with ⟨XM,k,e,ey,l⟩ | ⟨XM,k,b,e,ey,eb,l⟩
 .subst ey;obtain⟨z,hd,vs,rel,dd⟩:=Jo I.hok e;refine call_meetsIn PySem.F.slot_dict_get dd.typeIs PySem.F.entry_dict_get (PySem.F.args_dict_get_3 _ _ _) (meets_dict_get_default (Zm X.prog X.w) a (Bj ry) hd r) ⟨_,dd.mapOf,h _ _ (I.tok _) ?_⟩;rw[l];exact(rel.val k).getD rd
 .subst ey;cases(show u=Value.ref b from ry);obtain⟨z,hd,xs,rel,dd⟩:=Bw I.hok e;refine call_meetsIn PySem.F.slot_dict_get dd.typeIs PySem.F.entry_dict_get (PySem.F.args_dict_get_3 _ _ _) (meetsH_dict_get_default (tupleKind (Zm X.prog X.w)) a b hd r) ⟨tupleKind_room_in1 hu,k,xs,Di I.hok eb,dd,h _ _ (I.tok _) ?_⟩;rw[l];exact(rel.val k).getD rd
end
inductive Qg(ty:TE)(Z:St)(Q:VK)(x:V)(H1:Hp):Prop
 | mk(a)(Yh:x=.ref a)(Ys:c7 H1 a)(Vt:ty Z H1 fun y H2=>∃o,M6 H2 a y o/\Q (o.getD .non) H2):Qg ty Z Q x H1
def tDGet1(td ty:TE):TE:=fun Z H Q=>td Z H fun x H1=>Qg ty Z Q x H1
inductive Qk(ty:TE)(tx:TE)(Z:St)(Q:VK)(x:V)(H1:Hp):Prop
 | mk(a)(Yh:x=.ref a)(Ys:c7 H1 a)(Vt:ty Z H1 fun y H2=>tx Z H2 fun z H3=>∃o,M6 H3 a y o/\Q (o.getD z) H3):Qk ty tx Z Q x H1
def tDGet2(td ty tx:TE):TE:=fun Z H Q=>td Z H fun x H1=>Qk ty tx Z Q x H1
section
variable{X:Cx}{o e f:Expr}{apos cpos:Pos}{td ty tx:TE}
theorem gb(hu:X.A.units+1<cLine)(ho:PE X o td)(he:PE X e ty)(m:M1 X o "get" apos e cpos):PE X (.Call (.Attribute o "get" apos) [e] [] cpos) (tDGet1 td ty):=by
 intro XB s Z H Q I h;refine wpAny_Call_method m.base m.few m.line PySem.F.plainAttrs_dict PySem.F.slot_dict_get PySem.F.type_dict_get (Z3 (ho XB s Z H _ I h) fun u s1 ⟨x,H1,I1,rx,a,ex,d,q1⟩=>?_);subst ex;obtain rfl:u=Value.ref a:=rx;obtain⟨t1,t2,_⟩:=T8 I1 d;refine⟨t1,t2, ?_⟩;rw[m.trees];refine Calls.callWith_builtin rfl (Calls.evalArgs_plain (Calls.spliced_cons (Z3 (he XB s1 Z H1 _ I1 q1) fun iv s2 ⟨y,H2,I2,ry,ov,g,q2⟩=>Calls.spliced_nil ?_)));exact d_get1 hu I2 g ry fun w' s3 I3 W9=>⟨_,H2,I3,W9,q2⟩
theorem gf(hu:X.A.units+1<cLine)(ho:PE X o td)(he:PE X e ty)(hf:PE X f tx)(m:M2 X o "get" apos e f cpos):PE X (.Call (.Attribute o "get" apos) [e,f] [] cpos) (tDGet2 td ty tx):=by
 intro XB s Z H Q I h;refine wpAny_Call_method m.base m.few m.line PySem.F.plainAttrs_dict PySem.F.slot_dict_get PySem.F.type_dict_get (Z3 (ho XB s Z H _ I h) fun u s1 ⟨x,H1,I1,rx,a,ex,d,q1⟩=>?_);subst ex;obtain rfl:u=Value.ref a:=rx;obtain⟨t1,t2,_⟩:=T8 I1 d;refine⟨t1,t2, ?_⟩;rw[m.trees]
 refine Calls.callWith_builtin rfl (Calls.evalArgs_plain (Calls.spliced_cons (Z3 (he XB s1 Z H1 _ I1 q1) fun iv s2 ⟨y,H2,I2,ry,q2⟩ =>
  Calls.spliced_cons (Z3 (hf XB s2 Z H2 _ I2 q2) fun fv s3 ⟨z,H3,I3,rz,ov,g,q3⟩=>Calls.spliced_nil ?_))))
 exact d_get2 hu I3 g ry rz fun w' s4 I4 W9=>⟨_,H3,I4,W9,q3⟩
end
section
variable{X:Cx}{XB:ZY}{Z:St}{H:Hp}{s:Shared}{a:Addr}{XM:List (Key×V)}{A:Around}{E:ZW}
theorem tm{Q:ZW}(I:Inv X XB Z H s)(e:Rd H a (.dK XM))(h:∀p s',H p=none->Inv X XB Z (upd H p (.dK XM)) s'->Q (.ref p) s'):wpAny (model X.prog X.w) A (call (.type "dict") [.ref a]) Q E s:=by
 obtain⟨z,hd,vs,rel,dd⟩:=Jo I.hok e;refine kt_call_dict hd dd (by rw[<-rel.length];exact z) fun h' dd' hs=>?_;refine h _ _ (I.hok.fresh (Yg _)) (I.laid (a:=s.heap.objs.size) (o:=.dK XM) (t':=s.toks) (fun b q hq=>?_) (Yg _) (E7 z (B0n.mpr (Ne.symm (N0 I.big))) rel dd'));exact(hs.2 b (N0 (Vb hq))).trans (Y9 _ hq)
end
section
variable{X:Cx}{XB:ZY}{Z:St}{H:Hp}{s:Shared}{a:Addr}{y:V}{u:Value}{A:Around}{E:ZW}
end
section
variable{X:Cx}
end
section
variable{Z:Type}[DecidableEq Z]
end
section
variable{X:Cx}{XB:ZY}{Z:St}{H:Hp}{s:Shared}
theorem Inv.freeze{d:Addr}{XM:List (Key×V)}(I:Inv X XB Z H s)(e:H d=some (.dK XM)):∃o,s.heap.get? d=some o/\Inv X XB Z (upd H d (.frz o (.dK XM))) s:=by
 obtain⟨z,y,vs,r,o,es,ep,ho,c⟩:=(show Za X.prog X.w H s.heap d (.dK XM) from I.hok d _ e)
 have ne:∀{b:Addr} {u:HO},H b=some u->(∀k,u≠.dK k)->b≠d:=fun h n z=>by
  rw[z,e]at h;cases h;exact n _ rfl
 refine⟨o,ho, ?_⟩;refine I.step (g':=s.gens) (d':=s.drawn) (t':=s.toks) (h':=s.heap) (ch:=[]) (fun _ z=>nomatch z) (fun _ _ _ _ _ h _=>h) (fun _ o _ _ _ h _=>⟨o.slots,h⟩) (fun b _ _ _ n=>?_) (fun _ o _ h=>⟨o,h⟩) (fun b xs h=>?_) (fun b o u h=>?_) (fun b ps h=>⟨#[], ?_⟩) (fun _ h=>h) (fun b u h=>?_) I.bare
 .rw[Zz (fun z=>by rw[z,e]at n;cases n)];exact n
 .rw[Zz (ne h fun _ z=>nomatch z)];exact h
 .rw[Zz (ne h fun _ z=>nomatch z)];exact h
 .rw[Zz (ne h fun _ z=>nomatch z),h];simp
 .by_cases q:b=d
  .subst q;rw[Zq]at h;cases h;exact⟨ho,z,y,vs,r,o,es,ep,ho,c⟩
  .rw[Zz q]at h;refine(I.hok b u h).stay (fun c v hc q=>q) (fun c q=>?_) fun c xs q=>?_
   .rw[Zz (ne q fun _ z=>nomatch z)];exact q
   .rw[Zz (ne q fun _ z=>nomatch z)];exact q
noncomputable def Itd(d:Addr)(o:Obj)(XM:List (Key×V)):It :=
 ⟨fun i H=>i<XM.length/\H d=some (.frz o (.dK XM)),fun i H v H'=>H'=H/\∃k x,XM[i]?=some (k,x)/\v=kV k,fun i H=>XM.length<=i/\H d=some (.frz o (.dK XM))⟩
theorem at_of{d:Addr}{o:Obj}{XM:List (Key×V)}(I:Inv X XB Z H s)(e:H d=some (.frz o (.dK XM))):∃vs es ep,(d == sysModules)=false/\KV XM vs/\o.data=.dict es ep/\s.heap.DictAt (Zm X.prog X.w) d vs ep:=by
 obtain⟨ho,z,y,vs,r,o',es,ep,Rv,c⟩:=(show Za X.prog X.w H s.heap d (.frz o (.dK XM)) from I.hok d _ e);rw[ho]at Rv;cases Rv;exact⟨vs,es,ep,y,r,c.2.1,o,es,ho,c⟩
theorem KV.at{Z:Type}:∀{XM:List (Z×V)} {vs:List (Z×Value)} {i:Nat} {k:Z} {x:V},KV XM vs->XM[i]?=some (k,x)->∃v,vs[i]?=some (k,v)
 | [],_,i,k,x,_,e=>by simp at e
 | a::XM,_,0,k,x,.cons h t,e=>by
  rename_i b bs
  simp at e;subst e;exact⟨b.2,by rw[show k=b.1 from h.1];rfl⟩
 | a::XM,_,i+1,k,x,.cons h t,e=>by
  obtain⟨v,e'⟩:=KV.at (i:=i) t (by simpa using e);exact⟨v,by simpa using e'⟩
theorem kV_rel{P:Program}{w:World}{k:Key}{u:Value}(h:(Zm P w).is k u=true):RelV (kV k) u:=by
 rcases Zn (show Mf k u=true from h) with ⟨j,t,rfl,rfl⟩ | ⟨x,t,rfl,rfl⟩
 .exact⟨t,rfl⟩
 .exact⟨t,rfl⟩
theorem Xg{P:Program}{w:World}{K:W.Frag}{tg:Expr}(d it:Addr)(o:Obj)(XM:List (Key×V))(es:Array DictEntry)(ep:Nat)(ho:o.data=.dict es ep) :
  Turn P w K tg (Itd d o XM) [it] it (fun i h=>h.IsKeyIter it d i XM.length ep) where
 mem:=by simp
 obj:=fun i h st b hb=>by
  have e:b=it:=by simpa using hb
  subst e;obtain⟨o,e,c,d⟩:=st;exact⟨o,e,fun v z=>by rw[d]at z;cases z⟩
 keep:=fun i h h' st k=>by
  obtain⟨o,e,c,d⟩:=st;exact⟨o,k it (by simp) o e,c,d⟩
 item:=by
  intro X hP hw hK hc i XB s Z H E I hf st hg;subst hP hw hK;obtain⟨hi,hd⟩:=hg;obtain⟨vs,es',ep',y,r,e',m⟩:=at_of I hd;rw[ho]at e';cases e';obtain⟨f0,f1,f2,f3,f4,f5⟩:=hf it (by simp);obtain⟨v,hv⟩:=KV.at (i:=i) (k:=XM[i].1) (x:=XM[i].2) r (Ui hi);have ln:=r.length;refine wpAny_pyNext_dict_item (by rw[<-ln];exact st) m hv fun key h' hk O9 sb=>?_;have I1:Inv X XB Z H { s with heap:=h' }:=I.turned (t':=s.toks) (fun b o hb e=>(sb.2 b hb).trans e) f0 f1 f3 f4 f5;obtain⟨oo,e,c,dd⟩:=id O9;exact⟨key,rfl,Pa (s:={ s with heap:=h' }) e c dd (by decide) ⟨kV XM[i].1,H,I1,kV_rel hk,⟨rfl,_,_,Ui hi,rfl⟩,by rw[ln];exact O9,fun b hb=>(hf b hb).1⟩⟩
 done:=by
  intro X hP hw hK hc i XB s Z H E I hf st hg;subst hP hw hK;obtain⟨hi,hd⟩:=hg;obtain⟨vs,es',ep',y,r,e',m⟩:=at_of I hd;rw[ho]at e';cases e';obtain⟨f0,f1,f2,f3,f4,f5⟩:=hf it (by simp);have ln:=r.length;exact wpAny_pyNext_dict_end (I.ok.hd hc) (by rw[<-ln];exact st) m (List.getElem?_eq_none (by omega)) fun h' eb=>⟨rfl,I.turned (t':=s.toks) (fun b o hb e=>eb b o hb e) f0 f1 f3 f4 f5⟩
 self:=fun _ _ _ _ _ st h=>wpAny_pyIter_keyiter st h
inductive Dc(xs:ZQ)(H:Hp)(Q:VK):Prop
 | mk(a:Addr)(XM:List (Key×V))(Yh:xs=[.ref a])(Ys:Rd H a (.dK XM))(Vt:∀p,H p=none->Q (.ref p) (upd H p (.dK XM))):Dc xs H Q
theorem Og:Yk X (.type "dict") (fun xs H Q=>Dc xs H Q):=by
 intro XB s Z H xs us Q I r h;obtain⟨a,XM,rfl,e,q⟩:=h;obtain⟨u,rfl,rx⟩:=vals1 r;cases rx;exact tm I e fun p s' hp I'=>⟨.ref p,_,I',rfl,q p hp⟩
end
noncomputable def cellOf(H:Hp)(l:Addr):Option V:=match H l with
 | some (.lst (x::_))=>some x
 | _=>none
end L2
namespace ZipT
open PySem
theorem V5{h h':Heap}{b i t:Addr}{k:Nat}(st:h.IsTupleIter i t k)(e:Heap.ExtBut b h h')(n:i≠b):h'.IsTupleIter i t k:=let ⟨o,ho,r⟩:=st;⟨o,e _ _ n ho,r⟩
theorem tupK{h h':Heap}{b t:Addr}{xs:ZN}(st:h.IsTuple t xs)(e:Heap.ExtBut b h h')(n:t≠b):h'.IsTuple t xs:=let ⟨o,ho,r⟩:=st;⟨o,e _ _ n ho,r⟩
section
variable{prog:Program}{w:World}{A:Around}{E:ZW}{s:Shared}{z TI TO i1 i2 t1 t2:Addr}{k:Nat}{xs ys:ZN}{x y a b:Value}
theorem itemT{Q:ZW}(D:ZipApart z TI TO i1 i2 t1 t2)(hz:IsZip s.heap z TI TO .none)(hI:IsPair s.heap TI (.ref i1) (.ref i2))(hO:IsPair s.heap TO a b)(j1:s.heap.IsTupleIter i1 t1 k)(j2:s.heap.IsTupleIter i2 t2 k)(p1:s.heap.IsTuple t1 xs)(p2:s.heap.IsTuple t2 ys)(hx:xs[k]?=some x)(hy:ys[k]?=some y)
  (q:∀h',IsZip h' z TI TO (rawInt s.heap.objs.size)->IsPair h' TO x y->h'.IsTupleIter i1 t1 (k+1)->h'.IsTupleIter i2 t2 (k+1)->IsPair h' s.heap.objs.size x y->h'.objs.size=s.heap.objs.size+1->(∀c o,c≠z->c≠TO->c≠i1->c≠i2->s.heap.get? c=some o->h'.get? c=some o)->Q (.ref s.heap.objs.size) { s with heap:=h' }) :
  wpAny (model prog w) A (Builtin.«zip.__next__» ⟨[.ref z],[]⟩) (fun fin s'=>∃v,fin=.done (.ret v)/\Q v s') E s:=by
 show wpAny _ _ (field (.ref z) 2 >>= _) _ _ _;refine Zv (wpAny_field hz rfl (x:=.bool false) rfl ?_);show wpAny _ _ (field (.ref z) 3 >>= _) _ _ _;refine Zv (wpAny_field hz rfl (x:=.ref TI) rfl (Zv (wpAny_seqItems hI rfl ?_)));show wpAny _ _ (Builtin.SmallTypes.ownedTupleIsFree (.ref z) >>= _) _ _ _;refine Zv ?_;unfold Builtin.SmallTypes.ownedTupleIsFree;refine Zv (wpAny_field hz rfl (x:=.none) rfl (Yt ?_));simp only[if_true];refine Zv (wpAny_rule (Zv (wpAny_field hz rfl (x:=.ref TO) rfl ?_)));refine Zv (wpAny_setField_rec hz (by simp) fun g1 qd e1=>?_);replace qd:IsZip g1 z TI TO .ellipsis:=qd;refine Zv ?_;simp only[List.zipIdx_cons,List.zipIdx_nil,List.forIn_cons,List.forIn_nil];refine Zv (Zv (wpAny_onRaise ?_));show wpAny _ _ (Builtin.SmallTypes.nextOf (.ref i1) >>= _) _ _ _;refine Zv (EnuT.nextT (V5 j1 e1.extBut D.i1z) (tupK p1 e1.extBut D.l1z) hx fun g2 j12 e2=>Yt ?_);have hO2:IsPair g2 TO a b:=e2.extBut _ _ D.TOi1 (e1.extBut _ _ D.TOz hO);refine Zv (wpAny_seqItems hO2 rfl (Zv (wpAny_updateSeq_pair hO2 fun g3 hO3 e3=>?_)));replace hO3:IsPair g3 TO x b:=hO3;refine Zv (wpAny_letGo (Yt (Zv (Zv (wpAny_onRaise ?_)))));show wpAny _ _ (Builtin.SmallTypes.nextOf (.ref i2) >>= _) _ _ _;refine Zv (EnuT.nextT (V5 (V5 (V5 j2 e1.extBut D.i2z) e2.extBut D.i12.symm) e3.extBut D.TOi2.symm) (tupK (tupK (tupK p2 e1.extBut D.l2z) e2.extBut D.l2i1) e3.extBut D.l2TO) hy fun g4 j24 e4=>Yt ?_);have hO4:IsPair g4 TO x b:=e4.extBut _ _ D.TOi2 hO3;refine Zv (wpAny_seqItems hO4 rfl (Zv (wpAny_updateSeq_pair hO4 fun g5 hO5 e5=>?_)));replace hO5:IsPair g5 TO x y:=hO5;refine Zv (wpAny_letGo (Yt (Yt (Zv (wpAny_seqItems hO5 rfl (Zv (wpAny_newTuple ?_)))))));have sz:g5.objs.size=s.heap.objs.size:=by rw[e5.1,e4.1,e3.1,e2.1,e1.1]
 have hz5:IsZip g5 z TI TO .ellipsis:=e5.extBut _ _ D.TOz.symm (e4.extBut _ _ D.i2z.symm (e3.extBut _ _ D.TOz.symm (e2.extBut _ _ D.i1z.symm qd)));have kp:∀c o,c≠z->c≠TO->c≠i1->c≠i2->s.heap.get? c=some o->g5.get? c=some o:=fun c o c1 c2 c3 c4 e=>e5.extBut _ _ c2 (e4.extBut _ _ c4 (e3.extBut _ _ c2 (e2.extBut _ _ c3 (e1.extBut _ _ c1 e))));have j15:g5.IsTupleIter i1 t1 (k+1):=V5 (V5 (V5 j12 e3.extBut D.TOi1.symm) e4.extBut D.i12) e5.extBut D.TOi1.symm;have j25:g5.IsTupleIter i2 t2 (k+1):=V5 j24 e5.extBut D.TOi2.symm;have zl:z<g5.objs.size:=Vb hz5;show wpAny _ _ (Builtin.SmallTypes.ownedTupleHandOut (.ref z) (.ref g5.objs.size) >>= _) _ _ _;refine Zv ?_;unfold Builtin.SmallTypes.ownedTupleHandOut;have hz6:IsZip (g5.push { cls:=.type "tuple",data:=.seq #[x,y] }) z TI TO .ellipsis:=Y9 _ hz5;refine Zv (wpAny_setField_rec hz6 (by simp) fun g7 hz7 e7=>?_);replace hz7:IsZip g7 z TI TO (rawInt g5.objs.size):=hz7;refine wpAny_setField_rec hz7 (by simp) fun g8 hz8 e8=>?_;replace hz8:IsZip g8 z TI TO (rawInt g5.objs.size):=hz8;have up:∀c o,c≠z->g5.get? c=some o->g8.get? c=some o:=fun c o c1 e=>e8.extBut _ _ c1 (e7.extBut _ _ c1 (Y9 _ e));have hT8:IsPair g8 g5.objs.size x y:=e8.extBut _ _ (Nat.ne_of_gt zl) (e7.extBut _ _ (Nat.ne_of_gt zl) (Dj _ rfl));have sz8:g8.objs.size=g5.objs.size+1:=by rw[e8.1,e7.1,Heap.size_push]
 rw[sz]at hz8 hT8 sz8;refine Yt ⟨_,rfl, ?_⟩;show Q (.ref g5.objs.size) _;rw[sz];exact q g8 hz8 (up _ _ D.TOz hO5) (let ⟨o,ho,r⟩:=j15;⟨o,up _ _ D.i1z ho,r⟩) (let ⟨o,ho,r⟩:=j25;⟨o,up _ _ D.i2z ho,r⟩) hT8 sz8 fun c o c1 c2 c3 c4 e=>up c o c1 (kp c o c1 c2 c3 c4 e)
theorem endT{Q:Fin->Shared->Prop}(hh:A.handled=none)(D:ZipApart z TI TO i1 i2 t1 t2)(hz:IsZip s.heap z TI TO .none)(hI:IsPair s.heap TI (.ref i1) (.ref i2))(hO:IsPair s.heap TO a b)(j1:s.heap.IsTupleIter i1 t1 k)(j2:s.heap.IsTupleIter i2 t2 k)(p1:s.heap.IsTuple t1 xs)(p2:s.heap.IsTuple t2 ys)(m9:xs[k]?=none\/ys[k]?=none)
  (q:∀h' e,(∀c o,c≠z->c≠TO->c≠i1->c≠i2->s.heap.get? c=some o->h'.get? c=some o)->(∃o,h'.get? e=some o/\o.cls=.type "StopIteration")->E (.ref e) { s with heap:=h' }) :
  wpAny (model prog w) A (Builtin.«zip.__next__» ⟨[.ref z],[]⟩) Q E s:=by
 show wpAny _ _ (field (.ref z) 2 >>= _) _ _ _;refine Zv (wpAny_field hz rfl (x:=.bool false) rfl ?_);show wpAny _ _ (field (.ref z) 3 >>= _) _ _ _;refine Zv (wpAny_field hz rfl (x:=.ref TI) rfl (Zv (wpAny_seqItems hI rfl ?_)));show wpAny _ _ (Builtin.SmallTypes.ownedTupleIsFree (.ref z) >>= _) _ _ _;refine Zv ?_;unfold Builtin.SmallTypes.ownedTupleIsFree;refine Zv (wpAny_field hz rfl (x:=.none) rfl (Yt ?_));simp only[if_true];refine Zv (wpAny_rule (Zv (wpAny_field hz rfl (x:=.ref TO) rfl ?_)));refine Zv (wpAny_setField_rec hz (by simp) fun g1 qd e1=>?_);replace qd:IsZip g1 z TI TO .ellipsis:=qd;refine Zv ?_;simp only[List.zipIdx_cons,List.zipIdx_nil,List.forIn_cons,List.forIn_nil];refine Zv (Zv (wpAny_onRaise ?_));show wpAny _ _ (Builtin.SmallTypes.nextOf (.ref i1) >>= _) _ _ _;cases hx:xs[k]? with
 | none =>
  refine Zv (EnuT.endT hh (V5 j1 e1.extBut D.i1z) (tupK p1 e1.extBut D.l1z) hx fun g2 e e2 he=>?_);obtain⟨oe,hoe,hce⟩:=he;have hz2:IsZip g2 z TI TO .ellipsis:=e2 _ _ D.i1z.symm qd;have ez:e≠z:=fun v=>by subst v;rw[hz2]at hoe;cases hoe;simp at hce
  exact wpAny_setField_rec hz2 (by simp) fun g3 _ e3=>q g3 e (fun c o c1 _ c3 _ v=>e3.extBut _ _ c1 (e2 _ _ c3 (e1.extBut _ _ c1 v))) ⟨oe,e3.extBut _ _ ez hoe,hce⟩
 | some x =>
  have hy:ys[k]?=none:=by rcases m9 with h | h;rw[hx]at h;cases h;exact h
  refine Zv (EnuT.nextT (V5 j1 e1.extBut D.i1z) (tupK p1 e1.extBut D.l1z) hx fun g2 j12 e2=>Yt ?_);have hO2:IsPair g2 TO a b:=e2.extBut _ _ D.TOi1 (e1.extBut _ _ D.TOz hO);refine Zv (wpAny_seqItems hO2 rfl (Zv (wpAny_updateSeq_pair hO2 fun g3 hO3 e3=>?_)));refine Zv (wpAny_letGo (Yt (Zv (Zv (wpAny_onRaise ?_)))));show wpAny _ _ (Builtin.SmallTypes.nextOf (.ref i2) >>= _) _ _ _;refine Zv (EnuT.endT hh (V5 (V5 (V5 j2 e1.extBut D.i2z) e2.extBut D.i12.symm) e3.extBut D.TOi2.symm) (tupK (tupK (tupK p2 e1.extBut D.l2z) e2.extBut D.l2i1) e3.extBut D.l2TO) hy fun g4 e e4 he=>?_);obtain⟨oe,hoe,hce⟩:=he;have hz4:IsZip g4 z TI TO .ellipsis:=e4 _ _ D.i2z.symm (e3.extBut _ _ D.TOz.symm (e2.extBut _ _ D.i1z.symm qd));have ez:e≠z:=fun v=>by subst v;rw[hz4]at hoe;cases hoe;simp at hce
  exact wpAny_setField_rec hz4 (by simp) fun g5 _ e5=>q g5 e (fun c o c1 c2 c3 c4 v=>e5.extBut _ _ c1 (e4 _ _ c4 (e3.extBut _ _ c2 (e2.extBut _ _ c3 (e1.extBut _ _ c1 v))))) ⟨oe,e5.extBut _ _ ez hoe,hce⟩
theorem bx{Q:ZT->Shared->Prop}(D:ZipApart z TI TO i1 i2 t1 t2)(hz:IsZip s.heap z TI TO .none)(hI:IsPair s.heap TI (.ref i1) (.ref i2))(hO:IsPair s.heap TO a b)(j1:s.heap.IsTupleIter i1 t1 k)(j2:s.heap.IsTupleIter i2 t2 k)(p1:s.heap.IsTuple t1 xs)(p2:s.heap.IsTuple t2 ys)(hx:xs[k]?=some x)(hy:ys[k]?=some y)
  (q:∀h',IsZip h' z TI TO (rawInt s.heap.objs.size)->IsPair h' TO x y->h'.IsTupleIter i1 t1 (k+1)->h'.IsTupleIter i2 t2 (k+1)->IsPair h' s.heap.objs.size x y->h'.objs.size=s.heap.objs.size+1->(∀c o,c≠z->c≠TO->c≠i1->c≠i2->s.heap.get? c=some o->h'.get? c=some o)->Q (some (.ref s.heap.objs.size)) { s with heap:=h' }) :
  wpAny (model prog w) A (pyNext (.ref z)) Q E s:=by
 have T:s.TypeIs (.ref z) "zip" := ⟨_,hz,rfl⟩;unfold pyNext;exact Zv (wpAny_attempt (wpAny_callSpecial?_slot (name:=Str.ofString "__next__") T F.slot_zip_next (wpAny_call_entry F.slot_zip_next T F.entry_zip_next (itemT D hz hI hO j1 j2 p1 p2 hx hy fun h' a1 a2 a3 a4 a5 a6 a7=>Yt (q h' a1 a2 a3 a4 a5 a6 a7)) (F.args_zip_next_1 _))))
theorem o8{Q:ZT->Shared->Prop}(hh:A.handled=none)(D:ZipApart z TI TO i1 i2 t1 t2)(hz:IsZip s.heap z TI TO .none)(hI:IsPair s.heap TI (.ref i1) (.ref i2))(hO:IsPair s.heap TO a b)(j1:s.heap.IsTupleIter i1 t1 k)(j2:s.heap.IsTupleIter i2 t2 k)(p1:s.heap.IsTuple t1 xs)(p2:s.heap.IsTuple t2 ys)(m9:xs[k]?=none\/ys[k]?=none)
  (q:∀h',(∀c o,c≠z->c≠TO->c≠i1->c≠i2->s.heap.get? c=some o->h'.get? c=some o)->Q none { s with heap:=h' }):wpAny (model prog w) A (pyNext (.ref z)) Q E s:=by
 have T:s.TypeIs (.ref z) "zip" := ⟨_,hz,rfl⟩;unfold pyNext;refine Zv (wpAny_attempt (wpAny_callSpecial?_slot (name:=Str.ofString "__next__") T F.slot_zip_next (wpAny_call_entry F.slot_zip_next T F.entry_zip_next (endT hh D hz hI hO j1 j2 p1 p2 m9 fun h' e hk he=>?_) (F.args_zip_next_1 _))));obtain⟨o,ho,hc⟩:=he;exact Zv (wpAny_isInstance (T:="StopIteration") (b:=true) ⟨o,ho,hc⟩ isSubtype_stop (Yt (q _ hk)))
end
noncomputable abbrev H1(h:Heap)(l1:Addr):Heap:=h.push { cls:=.type "tuple_iterator",data:=.fields #[.ref l1,.int 0 0] }
noncomputable abbrev H2(h:Heap)(l1 l2:Addr):Heap:=(H1 h l1).push { cls:=.type "tuple_iterator",data:=.fields #[.ref l2,.int 0 0] }
noncomputable abbrev H3(h:Heap)(l1 l2:Addr):Heap:=(H2 h l1 l2).push { cls:=.type "tuple",data:=.seq #[.ref h.objs.size,.ref (H1 h l1).objs.size] }
noncomputable abbrev H4(h:Heap)(l1 l2:Addr):Heap:=(H3 h l1 l2).push { cls:=.type "tuple",data:=.seq #[.none,.none] }
noncomputable abbrev H5(h:Heap)(l1 l2:Addr):Heap:=(H4 h l1 l2).push { cls:=.type "zip",data:=.fields #[.none,.bool false,.bool false,.ref (H2 h l1 l2).objs.size,.ref (H3 h l1 l2).objs.size] }
theorem meets(l1 l2:Addr)(xs ys:ZN) :
  Meets (Builtin.«zip.__new__» ⟨[.type "zip",.ref l1,.ref l2],[]⟩) (fun _ R s=>s.heap.IsTuple l1 xs/\s.heap.IsTuple l2 ys /\
   R (.ok (.ret (.ref (H4 s.heap l1 l2).objs.size))) { s with heap:=H5 s.heap l1 l2 }) :=
 .of_wp fun prog w A R s h=>by
  obtain⟨hp,g,d,tk,os⟩:=s;obtain⟨hl1,hl2,h⟩:=h;have hsub:=sub_zip;have hL1:Heap.IsTuple (Shared.heap ⟨hp,g,d,tk,os⟩) l1 xs:=hl1;have hL2:Heap.IsTuple (Shared.heap ⟨hp.push { cls:=.type "tuple_iterator",data:=.fields #[.ref l1,.int 0 0] },g,d,tk,os⟩) l2 ys:=let ⟨o,ho,r⟩:=hl2;⟨o,Y9 _ ho,r⟩
  wp_walk using wpAny_pyIter_tuple hL1,wpAny_pyIter_tuple hL2
  exact⟨_,rfl,h⟩
theorem call2{prog:Program}{w:World}{A:Around}{E:ZW}{s:Shared}{l1 l2:Addr}{xs ys:ZN}{Q:ZW}(hl1:s.heap.IsTuple l1 xs)(hl2:s.heap.IsTuple l2 ys)
  (h:∀h',IsZip h' (s.heap.objs.size+4) (s.heap.objs.size+2) (s.heap.objs.size+3) .none->IsPair h' (s.heap.objs.size+2) (.ref s.heap.objs.size) (.ref (s.heap.objs.size+1)) ->
   IsPair h' (s.heap.objs.size+3) .none .none->h'.IsTupleIter s.heap.objs.size l1 0->h'.IsTupleIter (s.heap.objs.size+1) l2 0->h'.objs.size=s.heap.objs.size+5 ->
   (∀c o,s.heap.get? c=some o->h'.get? c=some o)->Q (.ref (s.heap.objs.size+4)) { s with heap:=h' }) :
  wpAny (model prog w) A (call (.type "zip") [.ref l1,.ref l2]) Q E s:=by
 refine callType_new F.called_zip (by decide) (F.typeCall_zip_2 _ _) (F.newCall_zip_2 _ _) (fun obj=>F.args_object_init_3 obj _ _) F.entry_zip_new (meets l1 l2 xs ys) ⟨hl1,hl2, ?_⟩;have z1:(H1 s.heap l1).objs.size=s.heap.objs.size+1:=Heap.size_push ..;have z2:(H2 s.heap l1 l2).objs.size=s.heap.objs.size+2:=by rw[Heap.size_push,z1]
 have z3:(H3 s.heap l1 l2).objs.size=s.heap.objs.size+3:=by rw[Heap.size_push,z2]
 have z4:(H4 s.heap l1 l2).objs.size=s.heap.objs.size+4:=by rw[Heap.size_push,z3]
 have z5:(H5 s.heap l1 l2).objs.size=s.heap.objs.size+5:=by rw[Heap.size_push,z4]
 have g5:(H5 s.heap l1 l2).get? (H4 s.heap l1 l2).objs.size=some _:=Dj _ rfl;have g4:(H5 s.heap l1 l2).get? (H3 s.heap l1 l2).objs.size=some _:=Y9 _ (Dj _ rfl);have g3:(H5 s.heap l1 l2).get? (H2 s.heap l1 l2).objs.size=some _:=Y9 _ (Y9 _ (Dj _ rfl));have g2:(H5 s.heap l1 l2).get? (H1 s.heap l1).objs.size=some _:=Y9 _ (Y9 _ (Y9 _ (Dj _ rfl)));have g1:(H5 s.heap l1 l2).get? s.heap.objs.size=some _:=Y9 _ (Y9 _ (Y9 _ (Y9 _ (Dj _ rfl))));show _/\_;rw[z2,z3,z4]at g5;rw[z1,z2]at g3;rw[z3]at g4;rw[z1]at g2;rw[z4]
 exact⟨⟨_,g5,rfl⟩,h _ g5 g3 g4 ⟨_,g1,rfl,rfl⟩ ⟨_,g2,rfl,rfl⟩ z5 fun c o x =>
  Y9 _ (Y9 _ (Y9 _ (Y9 _ (Y9 _ x))))⟩
end ZipT
namespace L2
open PySem PySem.Spec PyProof.Rows
def Itzt(K:W.Frag)(l1 l2:Addr):It :=
  ⟨fun i H=>∃xs ys x y,Yu K H l1 xs/\Yu K H l2 ys/\xs[i]?=some x/\ys[i]?=some y,
   fun i H v H'=>∃p x y,v=.ref p/\H p=none/\H'=upd H p (.tup [x,y])/\(∀xs,Yu K H l1 xs->xs[i]?=some x)/\∀ys,Yu K H l2 ys->ys[i]?=some y,
   fun i H=>∃xs ys,Yu K H l1 xs/\Yu K H l2 ys/\(xs.length<=i\/ys.length<=i)⟩
theorem Xy{P:Program}{w:World}{K:W.Frag}{es:ZC}{k:Nat}{pos:Pos}(z TI TO i1 i2 l1 l2:Addr)(D:ZipApart z TI TO i1 i2 l1 l2) :
  Turn P w K (.Tuple es k pos) (Itzt K l1 l2) [z,TI,TO,i1,i2] z (fun i h=>IsZip h z TI TO .none/\IsPair h TI (.ref i1) (.ref i2)/\(∃a b,IsPair h TO a b)/\h.IsTupleIter i1 l1 i/\h.IsTupleIter i2 l2 i) where
 mem:=by simp
 obj:=fun i h st b hb=>by
  obtain⟨hz,Li,⟨a,c,Pu⟩,⟨o1,e1,_,d1⟩,⟨o2,e2,_,d2⟩⟩:=st;simp only[Yw,Vk,or_false]at hb;rcases hb with rfl | rfl | rfl | rfl | rfl
  .exact⟨_,hz,fun v q=>nomatch q⟩
  .exact⟨_,Li,fun v q=>nomatch q⟩
  .exact⟨_,Pu,fun v q=>nomatch q⟩
  .exact⟨_,e1,fun v q=>by rw[d1]at q;cases q⟩
  .exact⟨_,e2,fun v q=>by rw[d2]at q;cases q⟩
 keep:=fun i h h' st hk=>by
  obtain⟨hz,Li,⟨a,b,Pu⟩,h1,h2⟩:=st;exact⟨hk z (by simp) _ hz,hk TI (by simp) _ Li,⟨a,b,hk TO (by simp) _ Pu⟩,(let ⟨o,ho,r⟩:=h1;⟨o,hk i1 (by simp) o ho,r⟩),(let ⟨o,ho,r⟩:=h2;⟨o,hk i2 (by simp) o ho,r⟩)⟩
 item:=by
  intro X hP hw hK hc i XB s Z H E I hf st hg;subst hP hw hK;obtain⟨xs,ys,x,y,q1,q2,g1,g2⟩:=hg;obtain⟨hz,Li,⟨a,b,Pu⟩,h1,h2⟩:=st;obtain⟨nk,v1,X6,z1⟩:=I.tuple q1;obtain⟨i8,v2,X5,z2⟩:=I.tuple q2;obtain⟨u1,e1,r1⟩:=v1.get g1;obtain⟨u2,e2,r2⟩:=v2.get g2;refine ZipT.bx D hz Li Pu h1 h2 (show s.heap.IsTuple l1 nk.toArray from X6) (show s.heap.IsTuple l2 i8.toArray from X5) (x:=u1) (y:=u2) (by simpa using e1) (by simpa using e2) fun h' a1 a2 a3 a4 a5 a6 hk=>?_;refine⟨_,rfl,wpAny_letOwnedTupleGo_zip (s:={ s with heap:=h' }) a1 fun h'' Wg F7=>?_⟩;have lt:∀{c o},s.heap.get? c=some o->s.heap.objs.size≠c:=fun e=>Nat.ne_of_gt (Vb e);have nz:s.heap.objs.size≠z:=lt hz
  have kk:∀c u,c ∉ [z,TI,TO,i1,i2]->s.heap.get? c=some u->h''.get? c=some u:=fun c u m e=>by
   simp only[Yw,Vk,or_false,not_or]at m;exact F7.extBut _ _ m.1 (hk c u m.1 m.2.2.1 m.2.2.2.1 m.2.2.2.2 e)
  have fresh:=I.hok.fresh (Yg s.heap.objs.size);have J:Inv X XB Z (upd H s.heap.objs.size (.tup [x,y])) { s with heap:=h'',toks:=s.toks }:=I.turnLay kk hf (Yg _) ⟨by show 2<=sizeLine;decide,[u1,u2],.cons r1 (.cons r2 .nil),⟨_,F7.extBut _ _ nz a5,rfl,⟨_,rfl⟩,rfl⟩⟩;refine⟨.ref s.heap.objs.size,_,J,rfl,⟨_,x,y,rfl,fresh,rfl,fun ws hw=>by rw[I.tuple_inj hw q1];exact g1,fun ws hw=>by rw[I.tuple_inj hw q2];exact g2⟩,⟨Wg,F7.extBut _ _ D.TIz (hk _ _ D.TIz D.TITO D.TIi1 D.TIi2 Li),⟨_,_,F7.extBut _ _ D.TOz a2⟩,ZipT.V5 a3 F7.extBut D.i1z,ZipT.V5 a4 F7.extBut D.i2z⟩,fun c hc=>?_⟩
  have nc:c≠s.heap.objs.size:=fun q=>by
   subst q;simp only[Yw,Vk,or_false]at hc;rcases hc with q | q | q | q | q
   .exact lt hz q
   .exact lt Li q
   .exact lt Pu q
   .obtain⟨_,e,_⟩:=h1;exact lt e q
   .obtain⟨_,e,_⟩:=h2;exact lt e q
  rw[Zz nc];exact(hf c hc).1
 done:=by
  intro X hP hw hK hc i XB s Z H E I hf st hg;subst hP hw hK;obtain⟨xs,ys,q1,q2,g⟩:=hg;obtain⟨hz,Li,⟨a,b,Pu⟩,h1,h2⟩:=st;obtain⟨nk,v1,X6,z1⟩:=I.tuple q1;obtain⟨i8,v2,X5,z2⟩:=I.tuple q2;have hl1:=v1.length;have hl2:=v2.length;refine ZipT.o8 (I.ok.hd hc) D hz Li Pu h1 h2 (show s.heap.IsTuple l1 nk.toArray from X6) (show s.heap.IsTuple l2 i8.toArray from X5) (by rcases g with g | g;exact .inl (by simp;omega);exact .inr (by simp;omega)) fun h' hk=>⟨rfl,I.turnL (t':=s.toks) (fp:=[z,TI,TO,i1,i2]) (fun c u m e=>?_) hf⟩;simp only[Yw,Vk,or_false,not_or]at m;exact hk c u m.1 m.2.2.1 m.2.2.2.1 m.2.2.2.2 e
 self:=fun A i s Q E st h=>wpAny_pyIter_zip st.1 h
inductive A6(K:W.Frag)(R:(It->Hp->Prop))(vs:ZQ)(H1:Hp):Prop
 | mk(p q)(Yh:vs=[.ref p,.ref q])(Ys:(∃xs,Yu K H1 p xs))(Vt:(∃ys,Yu K H1 q ys))(C6:R (Itzt K p q) H1):A6 K R vs H1
def iZipT(K:W.Frag)(t:TA):TI:=fun Z H R=>t Z H fun vs H1=>A6 K R vs H1
section
variable{X:Cx}{es:ZC}{k:Nat}{p2 pos U3:Pos}{a b:Expr}{t:TA}
theorem ay(hgz:Gl X "zip")(hmz:X.mg "zip" = none)(ha:PA X [a,b] t)
  (he2:starEach [a,b] X.env=(false,eval a X.env)::starEach [b] X.env:=by rfl) (Iz:(backTo U3 (starEach [b] X.env)).any (·.1)=false:=by rfl) :
  PI X (.Tuple es k pos) (.Call (.Name "zip" p2) [a,b] [] U3) (iZipT X.K t):=by
 intro XB s Z H R I h;refine wpAny_Call_Name_kw (Du I hgz hmz (by decide +kernel:bootBuiltins "zip" = some (.type "zip")) ?_ (by decide) (by decide));refine callWith_type1 (Z3 (ha U3 XB s Z H _ I h) fun us s1 ⟨vs,H1,I1,r1,q1⟩=>?_) he2 Iz;obtain⟨l1,l2,rfl,⟨xs,hx⟩,⟨ys,hy⟩,q⟩:=q1;obtain⟨u1,u2,rfl,e1,e2⟩:=vals2 r1;cases e1;cases e2;obtain⟨nk,v1,X6,z1⟩:=I1.tuple hx;obtain⟨i8,v2,X5,z2⟩:=I1.tuple hy;have n1:l1<s1.heap.objs.size:=by obtain⟨_,e,_⟩:=(show s1.heap.IsTuple l1 nk.toArray from X6);exact Vb e
 have n2:l2<s1.heap.objs.size:=by obtain⟨_,e,_⟩:=(show s1.heap.IsTuple l2 i8.toArray from X5);exact Vb e
 refine ZipT.call2 (show s1.heap.IsTuple l1 nk.toArray from X6) (show s1.heap.IsTuple l2 i8.toArray from X5) fun h2 b1 b2 b3 b4 b5 b6 k2=>?_;refine wpAny_pyIter_zip (s:={ s1 with heap:=h2 }) b1 ?_;have J:Inv X XB Z H1 { s1 with heap:=h2,toks:=s1.toks }:=I1.kept k2;refine⟨_,[s1.heap.objs.size+4,s1.heap.objs.size+2,s1.heap.objs.size+3,s1.heap.objs.size,s1.heap.objs.size+1],_,_,H1,rfl,J,Xy _ _ _ _ _ l1 l2 (zipApart_new n1 n2),⟨b1,b2,⟨_,_,b3⟩,b4,b5⟩,fun c hc=>?_,q⟩
 have ge:s1.heap.objs.size<=c:=by
  simp only[Yw,Vk,or_false]at hc;rcases hc with q | q | q | q | q<;>rw[q]<;>first | exact Yg _ | exact Nat.le_add_right _ _
 exact I1.fpOk ge (I1.hok.fresh ge)
end
section
variable{X:Cx}
end
section
variable{X:Cx}{es:ZC}{k:Nat}{p2 pos U3:Pos}{a:Expr}{t:TA}
end
section
variable{X:Cx}{XB:ZY}{Z:St}{H:Hp}{s:Shared}
end
section
variable{X:Cx}
end
section
variable{X:Cx}{XB:ZY}{Z:St}{H:Hp}{s:Shared}
theorem o7{h h':Heap}{L:Addr}{m:ZV}(n:h.Ns L m)(k:∀o,h.get? L=some o->h'.get? L=some o):h'.Ns L m :=
 let ⟨o,es,ep,e,r⟩:=n
 ⟨o,es,ep,k o e,r⟩
end
noncomputable def Rj(h:Heap)(L:Addr):Heap:={ h with objs:=h.objs.extract 0 L }
theorem Aa{h:Heap}{L b:Nat}:(Rj h L).objs[b]?=if b<L then h.objs[b]? else none:=by
 show (h.objs.extract 0 L)[b]?=_;rw[Array.getElem?_extract];simp only[Nat.zero_add,Nat.sub_zero];by_cases hb:b<L
 .rw[if_pos hb];by_cases hc:b<h.objs.size
  .rw[if_pos (by omega)]
  .rw[if_neg (by omega),Array.getElem?_eq_none (by omega)]
 .rw[if_neg hb,if_neg (by omega)]
theorem Pw{h:Heap}{L b:Addr}{o:Obj}(e:h.get? b=some o)(hb:b<L):(Rj h L).get? b=some o:=by
 unfold Heap.get? at e ⊢;rw[Aa,if_pos hb];exact e
theorem Au{h:Heap}{L b:Addr}{o:Obj}(e:(Rj h L).get? b=some o):h.get? b=some o/\b<L:=by
 unfold Heap.get? at e;rw[Aa]at e;by_cases hb:b<L
 .rw[if_pos hb]at e;exact⟨e,hb⟩
 .rw[if_neg hb]at e;cases e
noncomputable def Wz(h:Heap)(L:Addr):ZY:=(List.range h.objs.size).filterMap fun b=>if b<=L then none else (h.get? b).map fun o=>(b,o)
theorem Nk{h:Heap}{L b:Addr}{o:Obj}:(b,o)∈Wz h L↔L<b/\h.get? b=some o:=by
 unfold Wz;rw[List.mem_filterMap];constructor
 .rintro⟨x,hx,e⟩;by_cases z:x<=L
  .rw[if_pos z]at e;cases e
  .rw[if_neg z]at e;obtain⟨o',e1,e2⟩:=Z8.mp e;cases e2;exact⟨Nat.lt_of_not_le z,e1⟩
 .rintro⟨hb,e⟩;refine⟨b,List.mem_range.mpr (Vb e), ?_⟩;rw[if_neg (Nat.not_le.mpr hb),e];rfl
theorem Za.has{P:Program}{w:World}{H:Hp}{h:Heap}{a:Addr}{o:HO}(x:Za P w H h a o):∃u,h.get? a=some u:=by
 cases o with
 | lst xs=>obtain⟨_,_,_,_,e⟩:=x;exact⟨_,e⟩
 | tup xs=>obtain⟨_,_,_,o,e,_⟩:=x;exact⟨_,e⟩
 | dK XM=>obtain⟨_,_,_,_,o,_,_,e,_⟩:=x;exact⟨_,e⟩
 | dT XM=>obtain⟨_,_,_,_,o,_,_,e,_⟩:=x;exact⟨_,e⟩
 | set S n=>obtain⟨o,_,_,_,e,_⟩:=x;exact⟨_,e⟩
 | ins C dx fs=>obtain⟨_,_,_,e,_⟩:=x;exact⟨_,e⟩
 | own y=>exact x
 | xd fs=>obtain⟨_,⟨_,_,_,e,_⟩,_⟩:=x;exact⟨_,e⟩
 | rng lo hi=>obtain⟨_,_,_,e⟩:=x;exact⟨_,e⟩
 | frz ob u=>obtain⟨e,_⟩:=x;exact⟨_,e⟩
 | tbl ps=>exact⟨_,(show h.get? a=some _ from x)⟩
 | met f y=>exact⟨_,(show h.get? a=some _ from x)⟩
 | ext φ=>obtain⟨_,e,_⟩:=x;exact e
theorem Ll{h h':Heap}{L:Addr}{m:ZV}{own:ZY}(f:Fr (Rj h L) L h' m)(n:News (Rj h L) L h' own)(hs:∀p∈Wz h L,p∈own):∀b o,b≠L->h.get? b=some o->h'.get? b=some o:=fun b o nb e=>by
 rcases Nat.lt_trichotomy b L with z | z | z
 .exact f.keep b o (Pw e z)
 .exact absurd z nb
 .exact(n (b,o) (hs _ (Nk.mpr ⟨z,e⟩))).1
section
variable{X:Cx}{e:Expr}{te:TA}{p pos lp kp p0 p1 p2 p3:Pos}
end
end L2
namespace PySem.Heap
end PySem.Heap
namespace L2
open PySem PySem.Spec PyProof.Rows
section
variable{X:Cx}{x y:Str}{p p2 pos U3:Pos}{a b:Expr}{t:TA}
end
end L2
namespace DicP2
open PySem PySem.Spec PyProof.Rows
noncomputable def Zx9(t:Value):Obj:={ cls:=.type "AttributeError",data:=.fields #[t,.none,.none,.none,.bool false,.none,unsetMember,unsetMember] }
theorem nst:((Manifest.find? "AttributeError").elim false fun t=>t.mro.contains "StopIteration" || t.mro.contains "SystemExit")=false:=by decide +kernel
theorem newAE{prog:Program}{w:World}{A:Around}{E:ZW}{s:Shared}{v:Value}{Q:ZW}
  (hq:∀h' e t,(∀b u,s.heap.get? b=some u->h'.get? b=some u)->h'.get? e=some (Zx9 t)->s.heap.get? e=none->Q (.ref e) { s with heap:=h' }):wpAny (model prog w) A (newExc (.type "AttributeError") [v]) Q E s:=by
 obtain⟨h,g,d,t,os⟩:=s;simp only[newExc,newTuple]
 wp_walk
 have e:(#[Value.ref h.objs.size,Value.none,Value.none,Value.none,Value.bool false,if ((Manifest.find? "AttributeError").elim false fun t=>t.mro.contains "StopIteration" || t.mro.contains "SystemExit")=true then [v].headD Value.none else Value.none]++ownMembersOf (Value.type "AttributeError") [v])=#[.ref h.objs.size,.none,.none,.none,.bool false,.none,unsetMember,unsetMember]:=by
  rw[nst];rfl
 rw[e];refine hq _ _ (.ref h.objs.size) (fun b u q=>Y9 _ (Y9 _ q)) (Dj _ rfl) ?_;cases z:h.get? (h.push { cls:=Value.type "tuple",data:=Data.seq #[v] }).objs.size with
 | none=>rfl
 | some o =>
  have:=Vb z;rw[Heap.size_push]at this;exact absurd this (Nat.not_lt.mpr (Nat.le_succ _))
theorem note{prog:Program}{w:World}{A:Around}{E:ZW}{s:Shared}{e:Addr}{t o nm:Value}{Q:ZA}(he:s.heap.get? e=some (Zx9 t))
  (hq:∀h' d,Heap.SameBut e s.heap h'->h'.get? e=some { cls:=.type "AttributeError",data:=d }->Q () { s with heap:=h' }):wpAny (model prog w) A (noteAttr (.ref e) o nm) Q E s:=by
 unfold noteAttr;simp only[];unfold lacksNameAndObj;simp only[];refine Zv (Zv (wpAny_isInstance (T:="AttributeError") (b:=true) ⟨_,he,rfl⟩ (by rw[isSubtype_type];kernel_rfl) ?_));simp only[Bool.not_true,B0f,if_false];refine Zv (wpAny_load he ?_);show wpAny _ _ (pure true) _ _ _;refine Yt ?_;simp only[if_true];refine Zv (wpAny_rule (Zv (wpAny_typeOf (T:="AttributeError") ⟨_,he,rfl⟩ ?_)));refine wpAny_layMembers he rfl ?_;refine hq _ _ ⟨Heap.size_update _ _ _,fun b hb=>Heap.get?_update_other _ _ (Ne.symm hb)⟩ (Heap.get?_update_self _ he rfl)
theorem tl1:typeLookup (.type "tuple") (Str.ofString "__getattribute__")=pure (some (.builtin "tuple.__getattribute__")):=by rw[typeLookup_type,builtinLookup_eq_fast];kernel_rfl
theorem tl2:typeLookup (.type "tuple") (Str.ofString "keys")=pure none:=by rw[typeLookup_type,builtinLookup_eq_fast];kernel_rfl
theorem tl3:typeLookup (.type "tuple") (Str.ofString "__getattr__")=pure none:=by rw[typeLookup_type,builtinLookup_eq_fast];kernel_rfl
theorem slot_ga:Slot "tuple" (Str.ofString "__getattribute__") "tuple.__getattribute__" := Slot.of (owner:="tuple") (n:="__getattribute__") tl1 (by decide +kernel) (by decide +kernel) (by decide +kernel) (.inl (by decide +kernel)) (by rw[isSubtype_type];kernel_rfl)
theorem hb0:hookBefore (.type "tuple")=pure none:=rfl
theorem T5:entryFor table "dict.update.loop" = some Builtin.«dict.update.loop»:=entryFor_of_tree (by kernel_rfl)
theorem Jk:plainId "dict.update.loop" = true:=by decide +kernel
section
variable{prog:Program}{w:World}{K:Type}[DecidableEq K]{knd:PySem.KeyKind prog w K}
def Prs(knd:PySem.KeyKind prog w K)(h:Heap)(XD:ZN)(rs:List (K×Value)):Prop :=
 XD.size=rs.length/\∀(j:Nat) (k:K) (v:Value),rs[j]?=some (k,v)->∃p u,XD[j]?=some (.ref p)/\IsTup h p #[u,v]/\knd.is k u=true
noncomputable def stK(rs:List (K×Value))(i:Nat):List (K×Value):=(rs.take i).foldl (fun acc kv=>stored acc kv.1 kv.2) []
theorem S6(XM:List (K×Value))(k:K)(v:Value):(stored XM k v).length<=XM.length+1:=by
 unfold stored
 split
 .rw[Yn];omega
 .rw[Qz];simp
theorem Qt{rs:List (K×Value)}{i:Nat}{k:K}{v:Value}(h:rs[i]?=some (k,v)):stK rs (i+1)=stored (stK rs i) k v:=by
 unfold stK;rw[List.take_succ,h];simp
theorem W1(rs:List (K×Value)):∀i,(stK rs i).length<=i
 | 0=>by simp[stK]
 | i+1=>by
  cases h:rs[i]? with
  | none =>
   have:=W1 rs i;unfold stK at this ⊢;rw[List.take_succ,h];simp only[Option.toList_none,XQ];omega
  | some p =>
   obtain⟨k,v⟩:=p;rw[Qt h];have:=W1 rs i;have:=S6 (stK rs i) k v;omega
variable{A:Around}{R:Result->Shared->Prop}{E:ZW}{s:Shared}{d it t:Addr}{XD:ZN}{rs:List (K×Value)}
end
end DicP2
namespace L2
open PySem PySem.Spec PyProof.Rows
section
variable{X:Cx}{XB:ZY}{Z:St}{H:Hp}{s:Shared}
theorem Inv.lay2{h':Heap}{D:Addr}{u:HO}{t':Nat}(I:Inv X XB Z H s){m:ZV}(hn:s.heap.Ns X.env.locals m)(hn':h'.Ns X.env.locals m)(ka:∀b o,b≠X.env.locals->s.heap.get? b=some o->h'.get? b=some o)(nD:s.heap.get? D=none)
  (new:Za X.prog X.w (upd H D u) h' D u):Inv X XB Z (upd H D u) { s with heap:=h',toks:=t' }/\H D=none:=by
 have fD:H D=none:=by
  cases eo:H D with
  | none=>rfl
  | some u =>
   obtain⟨o,e⟩:=(I.hok D u eo).has;rw[e]at nD;cases nD
 refine⟨?_,fD⟩;have ne:∀{b:Addr} {o:Obj},s.heap.get? b=some o->b≠D:=fun {b o} e z=>by rw[z,nD]at e;cases e
 have neH:∀{b:Addr} {u:HO},H b=some u->b≠D:=fun {b u} e z=>by rw[z,fD]at e;cases e
 refine I.step (h':=h') (g':=s.gens) (d':=s.drawn) (t':=t') (ch:=[]) (H':=upd H D u) (fun _ z=>nomatch z)
  (fun b o nl _ _ e _=>ka b o nl e) (fun b o nl _ _ e _=>⟨o.slots,ka b o nl e⟩) (fun b o _ e n=>by rw[Zz (ne e)];exact n) (fun b o _ e=>?_) (fun b xs e=>by rw[Zz (neH e)];exact e) (fun b o u e=>by rw[Zz (neH e)];exact e) (fun b qs e=>⟨#[],by rw[Zz (neH e),e];simp⟩) (fun m' hm=>?_) (fun b v e=>?_) I.bare
 .by_cases z:b=X.env.locals
  .obtain⟨o2,_,_,e2,_⟩:=hn';exact⟨o2,by rw[z];exact e2⟩
  .exact⟨o,ka b o z e⟩
 .have em:m'=m:=by
   obtain⟨o2,es,ep,e2,d2,_,r2⟩:=hm;obtain⟨o3,es3,ep3,e3,d3,_,r3⟩:=hn;rw[e2]at e3;cases e3;rw[d2]at d3;cases d3;exact funext fun x=>(r2 x).symm.trans (r3 x)
  rw[em];exact hn'
 .by_cases z:b=D
  .subst z;rw[Zq]at e;cases e;exact new
  .rw[Zz z]at e;refine(I.hok b v e).stay (fun d v hd q=>ka d v ?_ q) (fun d q=>by rw[Zz (neH q)];exact q) fun d xs q=>by rw[Zz (neH q)];exact q
   rcases hd with rfl | hd
   .exact fun zz=>by rw[zz,I.free]at e;cases e
   .exact fun zz=>by rw[zz,I.free]at hd;cases hd
theorem Inv.frame(I:Inv X XB Z H s):∃m,s.heap.Ns X.env.locals m/\Fr (Rj s.heap X.env.locals) X.env.locals s.heap m/\News (Rj s.heap X.env.locals) X.env.locals s.heap (Wz s.heap X.env.locals):=by
 obtain⟨m,hn,_⟩:=id I.loc
 have lsz:(Rj s.heap X.env.locals).objs.size<=X.env.locals:=by
  show (s.heap.objs.extract 0 X.env.locals).size<=_;rw[Array.size_extract];omega
 refine⟨m,hn,⟨hn,fun b o e=>(Au e).1,lsz⟩,fun p hp=>?_⟩;obtain⟨b,o⟩:=p;obtain⟨h1,h2⟩:=Nk.mp hp;refine⟨h2,Nat.ne_of_gt h1, ?_⟩;cases z:(Rj s.heap X.env.locals).get? b with
 | none=>rfl
 | some o'=>exact absurd (Au z).2 (Nat.lt_asymm h1)
theorem Inv.newAt{h':Heap}{D:Addr}{o:Obj}{m:ZV}(n':News (Rj s.heap X.env.locals) X.env.locals h' ((D,o)::Wz s.heap X.env.locals))(hD:∀q∈Wz s.heap X.env.locals,q.1<D):s.heap.get? D=none:=by
 obtain⟨_,nDL,lD⟩:=n' (D,o) Y5;cases eo:s.heap.get? D with
 | none=>rfl
 | some o =>
  exfalso
  rcases Nat.lt_trichotomy D X.env.locals with y | y | y
  .rw[Pw eo y]at lD;cases lD
  .exact nDL y
  .exact absurd (hD (D,o) (Nk.mpr ⟨y,eo⟩)) (Nat.lt_irrefl _)
end
theorem Py{P:Nat->Key->Value->Prop}:∀{XM:List (Key×V)} (o:Nat),(∀j k v,XM[j]?=some (k,v)->∃w,RelV v w/\P (o+j) k w)->∃rs,KV XM rs/\∀j k w,rs[j]?=some (k,w)->P (o+j) k w
 | [],o,_=>⟨[],.nil,fun j k w e=>by simp at e⟩
 | (k,v)::XM,o,h=>by
  obtain⟨w,W9,pw⟩:=h 0 k v rfl
  obtain⟨rs,kv,pr⟩:=Py (P:=P) (XM:=XM) (o+1) fun j k' v' e=>by
   obtain⟨w',a,b⟩:=h (j+1) k' v' e;exact⟨w',a,by rw[Nat.add_assoc,Nat.add_comm 1 j];exact b⟩
  refine⟨(k,w)::rs,.cons ⟨rfl,W9⟩ kv,fun j k' w' e=>?_⟩;cases j with
  | zero =>
   have e':(k,w)=(k',w'):=by simpa using e
   cases e';exact pw
  | succ j =>
   have:=pr j k' w' (by simpa using e);rw[Nat.add_assoc,Nat.add_comm 1 j]at this;exact this
def Wm(XM:List (Key×V)):List (Key×V):=XM.foldl (fun acc kv=>putK acc kv.1 kv.2) []
theorem A0:∀{XM:List (Key×V)} {rs:List (Key×Value)} {a:List (Key×V)} {b:List (Key×Value)},KV XM rs->KV a b->KV (XM.foldl (fun acc kv=>putK acc kv.1 kv.2) a) (rs.foldl (fun acc kv=>stored acc kv.1 kv.2) b)
 | _,_,_,_,.nil,h=>h
 | (k,v)::XM,(k',v')::rs,_,_,.cons r t,h=>by
  have e:k=k':=r.1;subst e;rw[List.foldl_cons,List.foldl_cons];exact A0 (XM:=XM) (rs:=rs) t (h.put k r.2)
theorem Nc:∀(XM a:List (Key×V)),(XM.foldl (fun acc kv=>putK acc kv.1 kv.2) a).length<=a.length+XM.length
 | [],a=>by simp
 | p::XM,a=>by
  have:=Nc XM (putK a p.1 p.2);have:=Uj a p.1 p.2;rw[List.foldl_cons,B9];omega
section
variable{X:Cx}
end
section
variable{X:Cx}{XB:ZY}{Z:St}{H:Hp}{s:Shared}
inductive y6(K:W.Frag)(A:Around)(x:V)(y:V)(H:Hp)(Q:VK):Prop
 | mk(p xs d ds)(Yh:y=.ref p)(Ys:Vc K H p xs)(Vt:Vg K H d x)(C6:Ze K H ds xs)(xy:(∀e∈ds,A.units+Uv e+10<cLine))(h5_:Q (.bl (ds.any fun e=>Yp e d)) H):y6 K A x y H Q
def rInD(K:W.Frag)(A:Around):R2:=fun x y H Q=>y6 K A x y H Q
theorem op_inD:Uo X (compareOp .In) (rInD X.K X.A):=by
 intro XB s Z H x y v u Q I rx ry h;obtain⟨p,xs,d,ds,rfl,hq,hd,ar,hu,q⟩:=h;cases ry;obtain⟨XD,r,pl,hz⟩:=I.list hq;have l1:=ar.length;have l2:=r.length
 classical
 have at_:∀{i:Nat} {w:Value},XD[i]?=some w->∃dy xi,ds[i]?=some dy/\xs[i]?=some xi/\Vg X.K H dy xi/\RelV xi w:=fun {i w} hw=>by
  have hi:=(Tz.mp hw).1;obtain⟨dy,dz⟩:∃dy,ds[i]?=some dy:=⟨_,Ui (by omega)⟩;obtain⟨xi,hxi,dd⟩:=ar.get dz;obtain⟨w',hw',rr⟩:=r.get hxi;rw[hw]at hw';cases hw';exact⟨dy,xi,dz,hxi,dd,rr⟩
 have key:∀{i:Nat} {w:Value} {dy:D},XD[i]?=some w->ds[i]?=some dy->decide (∃(j:Nat) (dj:D),XD[j]?=some w/\ds[j]?=some dj/\Yp dj d=true)=Yp dy d:=fun {i w dy} hw dz=>by
  cases e:Yp dy d with
  | true=>exact Dw ⟨i,dy,hw,dz,e⟩
  | false =>
   refine Dl fun⟨j,dj,h1,h2,h3⟩=>?_;obtain⟨da,xa,a1,a2,a3,a4⟩:=at_ hw;obtain⟨db,xb,b1,b2,b3,b4⟩:=at_ h1;rw[dz]at a1;rw[h2]at b1;cases a1;cases b1;have:=a4.inj b4;subst this;rw[Vg.inj I _ _ _ a3 b3,h3]at e;cases e
 refine SeqAt.in_listAt (fun w=>decide (∃(j:Nat) (dj:D),XD[j]?=some w/\ds[j]?=some dj/\Yp dj d=true)) pl.isList (fun w hw=>?_) ⟨.bl _,H,I,rfl, ?_⟩
 .obtain⟨i,hi⟩:=List.getElem?_of_mem (show w∈XD by simpa using hw);obtain⟨dy,xi,a1,a2,a3,a4⟩:=at_ hi;have:=hu dy (M0g a1);show SeqAt.EqAt X.A.in1 s w v (decide _);rw[key hi a1];exact Nr I dy d xi x w v X.A.in1 a3 hd a4 rx (by show X.A.units+1+Uv dy<cLine;omega) (by show X.A.units+1<cLine;omega)
 .have e:(XD.toArray.any fun w=>decide (∃(j:Nat) (dj:D),XD[j]?=some w/\ds[j]?=some dj/\Yp dj d=true))=ds.any fun e=>Yp e d:=by
   rw[Bool.eq_iff_iff];simp only[List.any_toArray,XZ,decide_eq_true_eq];constructor
   .rintro⟨w,hw,j,dj,h1,h2,h3⟩;exact⟨dj,M0g h2,h3⟩
   .rintro⟨dj,hm,h3⟩;obtain⟨j,hj⟩:=List.getElem?_of_mem hm;have hl:=(Tz.mp hj).1;obtain⟨w,hw⟩:∃w,XD[j]?=some w:=⟨_,Ui (by omega)⟩;exact⟨w,M0g hw,j,dj,hw,hj,h3⟩
  rw[e];exact q
end
end L2
namespace DctT
open PySem PySem.SeqAt PySem.MeetsSeq
open PySem.AutoSeq1 (wpAny_loadPart')
end DctT
namespace L2
open PySem PySem.Spec PyProof.Rows
section
variable{X:Cx}
end
section
variable{X:Cx}
end
end L2
namespace EX
open PySem
section
variable{M:Model}{A:Around}{E:ZW}{s:Shared}{env:Env}{outer:List Env}{base:Heap}{L e T:Addr}{oe oT:Obj}{vs ts:ZN}{x:Value}{Q:ZA}
end
end EX
namespace L2
open PySem PySem.Spec PyProof.Rows
section
variable(prog:Program)(w:World)(A:Around)(tg elt:Expr)(ifs:ZC)(env:Env)(it acc:Value)(E:ZW)
end
section
variable{X:Cx}{scope:Scope}{N:ZD}{fr:ZG}{tg elt iter:Expr}{ifs:ZC}{pos:Pos}{wi:TI}{g:DG}{tt:DT}{te:DE}
end
section
variable{X:Cx}{XB:ZY}{Z:St}{H:Hp}{s s':Shared}
end
section
variable{X:Cx}{scope:Scope}{N:ZD}{fr:ZG}{tg elt iter:Expr}{ifs:ZC}{pos:Pos}{wi:TI}{g:St->DG}{tt:St->DT}{te:St->DE}{W:XWT}
end
section
variable{X:Cx}
end
section
variable{X:Cx}
end
section
variable{X:Cx}
end
end L2
namespace SRT
open PySem PySem.Spec PyProof.Rows L2
noncomputable def insI(x:Int):ZL->ZL
 | []=>[x]
 | y::r=>if x<=y then x::y::r else y::insI x r
def S8:ZL->ZL
 | []=>[]
 | x::r=>insI x (S8 r)
theorem insI_perm(x:Int):∀r:ZL,(insI x r).Perm (x::r)
 | []=>.refl _
 | y::r=>by
  unfold insI
  split
  .exact .refl _
  .exact((insI_perm x r).cons y).trans (.swap x y r)
theorem Gp:∀r:ZL,(S8 r).Perm r
 | []=>.refl _
 | x::r=>(insI_perm x _).trans ((Gp r).cons x)
theorem Pb(x:Int):∀r:ZL,r.Pairwise (·<=·)->(insI x r).Pairwise (·<=·)
 | [],_=>List.pairwise_singleton _ _
 | y::r,h=>by
  rw[ZE]at h;unfold insI
  split
  .rename_i hx
   rw[ZE,ZE];exact⟨fun z m=>by rcases Yw.mp m with rfl | m;exact hx;exact Int.le_trans hx (h.1 z m),h.1,h.2⟩
  .rename_i hx
   rw[ZE];refine⟨fun z m=>?_,Pb x r h.2⟩;rcases Yw.mp ((insI_perm x r).mem_iff.mp m) with rfl | m
   .omega
   .exact h.1 z m
theorem Ql:∀r:ZL,(S8 r).Pairwise (·<=·)
 | []=>List.Pairwise.nil
 | x::r=>Pb x _ (Ql r)
theorem ra{a b:ZL}(h:a.Perm b)(s:a.Pairwise (·<=·)):a=S8 b :=
 List.Perm.eq_of_pairwise (fun _ _ _ _ h1 h2=>Int.le_antisymm h1 h2) s (Ql b) (h.trans (Gp b).symm)
noncomputable def Sj(a b:Str):Bool:=!decide (b.cps.toList<a.cps.toList)
noncomputable def xq(x:Str):ZD->ZD
 | []=>[x]
 | y::r=>if Sj x y=true then x::y::r else y::xq x r
def G4:ZD->ZD
 | []=>[]
 | x::r=>xq x (G4 r)
theorem Nb(x:Str):∀r:ZD,(xq x r).Perm (x::r)
 | []=>.refl _
 | y::r=>by
  unfold xq
  split
  .exact .refl _
  .exact((Nb x r).cons y).trans (.swap x y r)
theorem Yx:∀r:ZD,(G4 r).Perm r
 | []=>.refl _
 | x::r=>(Nb x _).trans ((Yx r).cons x)
theorem Ln{a b:Str}:Sj a b=true↔¬ b.cps.toList<a.cps.toList:=by unfold Sj;simp
theorem Wj{a b c:Str}(h1:Sj a b=true)(h2:Sj b c=true):Sj a c=true:=by
 rw[Ln]at *;exact List.not_lt.mpr (List.le_trans (List.not_lt.mp h1) (List.not_lt.mp h2))
theorem zh{a b:Str}(h:¬ Sj a b=true):Sj b a=true:=by
 rw[Ln]at *;exact fun z=>List.lt_asymm (Decidable.not_not.mp h) z
theorem bp{a b:Str}(h1:Sj a b=true)(h2:Sj b a=true):a=b:=by
 rw[Ln]at *;have e:a.cps.toList=b.cps.toList:=List.le_antisymm (List.not_lt.mp h1) (List.not_lt.mp h2);cases a;cases b
 congr
 exact Array.toList_inj.mp e
theorem Pf(x:Str):∀r:ZD,r.Pairwise (fun a b=>Sj a b=true)->(xq x r).Pairwise (fun a b=>Sj a b=true)
 | [],_=>List.pairwise_singleton _ _
 | y::r,h=>by
  rw[ZE]at h;unfold xq
  split
  .rename_i hx
   rw[ZE,ZE];exact⟨fun z m=>by rcases Yw.mp m with rfl | m;exact hx;exact Wj hx (h.1 z m),h.1,h.2⟩
  .rename_i hx
   rw[ZE];refine⟨fun z m=>?_,Pf x r h.2⟩;rcases Yw.mp ((Nb x r).mem_iff.mp m) with rfl | m
   .exact zh hx
   .exact h.1 z m
theorem Qn:∀r:ZD,(G4 r).Pairwise (fun a b=>Sj a b=true)
 | []=>List.Pairwise.nil
 | x::r=>Pf x _ (Qn r)
theorem Mz:∀(l:ZD) (p:Str),risingS p l=true->(p::l).Pairwise (fun a b=>Sj a b=true)
 | [],p,_=>List.pairwise_singleton _ _
 | q::l,p,h=>by
  unfold risingS at h;rw[Y6]at h;have r:=Mz l q h.2
  have h1:Sj p q=true:=by
   have:=h.1;rw[ltCps_eq]at this;exact this
  rw[ZE];refine⟨fun z m=>?_,r⟩;rcases Yw.mp m with rfl | m
  .exact h1
  .exact Wj h1 ((ZE.mp r).1 z m)
theorem W4:∀l:ZD,sortedS l=true->l.Pairwise (fun a b=>Sj a b=true)
 | [],_=>List.Pairwise.nil
 | p::l,h=>Mz l p h
theorem rh{a b:ZD}(h:a.Perm b)(s:sortedS a=true):a=G4 b :=
 List.Perm.eq_of_pairwise (fun _ _ _ _ h1 h2=>bp h1 h2) (W4 a s) (Qn b) (h.trans (Yx b).symm)
section
variable{prog:Program}{w:World}{A:Around}{E:ZW}{s:Shared}
theorem Ow{l:Addr}{o:Obj}{vs:ZM}{n:Nat}{T:String}{Q:ZM->Shared->Prop}(ho:s.heap.get? l=some o)(hc:o.cls=.type T)(hT:T = "list" \/ T = "tuple")(hd:o.data=.seq vs.toArray n)
  (h:Q vs { s with heap:=(s.heap.push (seqObj "list" #[] 0)).update s.heap.objs.size (Obj.mapSeq (·++vs.toArray)) }) (hsz:vs.length<=sizeLine) :
  wpAny (model prog w) A (collect (.ref l)) Q E s:=by
 unfold collect;refine Zv (wpAny_runValue (codeAny_builtin entry_proto_collect' ?_));show wpAny _ _ (do again (.builtin "list.__iadd__" ⟨[<-newList [],.ref l],[]⟩)) _ _ s;refine Zv (wpAny_newList (Yt ⟨Code.quiet_builtin _ (by decide +kernel),codeAny_builtin entry_list_iadd' ?_⟩));show wpAny _ _ (Builtin.List.listExtendWith (.ref s.heap.objs.size) (.ref l) (.ref s.heap.objs.size)) _ _ { s with heap:=s.heap.push (seqObj "list" #[] 0) };unfold Builtin.List.listExtendWith;have Rv:(s.heap.push (seqObj "list" #[] 0)).get? l=some o:=Y9 _ ho;refine Zv (wpAny_typeOf (T:=T) ⟨o,Rv,hc⟩ ?_)
 have ht:(Value.type T == Value.type "list" || Value.type T == Value.type "tuple")=true:=by
  rcases hT with rfl | rfl<;>rfl
 rw[if_pos (by rw[Bool.or_assoc,ht];simp)];refine Zv (listItems_at Rv hd ?_);refine Zv (listItems_at (xs:=#[]) (n:=0) (Dj _ rfl) rfl ?_);rw[if_neg (by simp)];refine Zv (listUpdate_at (xs:=#[]) (n:=0) (Dj _ rfl) rfl ?_ (Ju _) (by show (#[]++vs.toArray).size<=sizeLine+1;simp only[Array.size_append,Vi,List.length_nil];omega));refine Yt ?_
 show wpAny (model prog w) A (do
   let o <-load s.heap.objs.size
   match o.data with
   | .seq xs _=>pure xs.toList
   | _=>unsupported "internal:collect") Q E { s with heap:=(s.heap.push (seqObj "list" #[] 0)).update s.heap.objs.size (Obj.mapSeq (·++vs.toArray)) }
 refine Zv (wpAny_load (get?_update_seq (Dj _ rfl) _) ?_);show wpAny _ _ (pure ((#[]:ZN)++vs.toArray).toList) Q E _;rw[show ((#[]:ZN)++vs.toArray).toList=vs by simp];exact Yt h
theorem Qs{l:Addr}{o:Obj}{vs:ZM}{n:Nat}{T:String}{Q:ZW}(ho:s.heap.get? l=some o)(hc:o.cls=.type T)(hT:T = "list" \/ T = "tuple")(hd:o.data=.seq vs.toArray n)(hsz:vs.length<=sizeLine)
  (h:∀(h1:Heap) (D:Addr),(∀b ob,s.heap.get? b=some ob->h1.get? b=some ob)->s.heap.objs.size<=D->h1.get? D=some (seqObj "list" vs.toArray 0) ->
   wpAny (model prog w) A.in1 (call (.builtin "list.sort") [.ref D]) (fun _ s'=>Q (.ref D) s') E { s with heap:=h1 }) :
  wpAny (model prog w) A (call (.builtin "sorted") [.ref l]) Q E s:=by
 refine Calls.call_function_entry kind_sorted plain_sorted entry_sorted (args_sorted1 _) ?_;unfold Builtin.«sorted»;refine Zv (m:=checkCount "sorted" 1 1 _) (Yt ?_);refine Zv (Ow ho hc hT hd ?_ hsz);refine Zv (wpAny_newList ?_ hsz)
 have hs1:((s.heap.push (seqObj "list" #[] 0)).update s.heap.objs.size (Obj.mapSeq (·++vs.toArray))).objs.size=s.heap.objs.size+1:=by
  rw[Heap.size_update,size_push']
 have k1:∀b ob,s.heap.get? b=some ob->((s.heap.push (seqObj "list" #[] 0)).update s.heap.objs.size (Obj.mapSeq (·++vs.toArray))).get? b=some ob:=fun b ob e=>by
  rw[Heap.get?_update_ne _ _ _ _ (N0 (Vb e))];exact Y9 _ e
 have hg:=h ((((s.heap.push (seqObj "list" #[] 0)).update s.heap.objs.size (Obj.mapSeq (·++vs.toArray)))).push (seqObj "list" vs.toArray 0)) _ (fun b ob e=>Y9 _ (k1 b ob e)) (by rw[hs1];exact Nat.le_succ _) (Dj _ rfl);refine Zv (wpAny_holding (wpAny_mono hg (fun _ s' x=>?_) fun _ _ e=>e));exact Yt ⟨_,rfl,x⟩
def Srt(prog:Program)(w:World)(Ok:Heap->Prop)(vs:ZM)(R:ZM->Prop):Prop:=∀(A:Around) (E:ZW) (s:Shared) (D:Addr) (Q:Shared->Prop),Ok s.heap->s.heap.get? D=some (seqObj "list" vs.toArray 0) ->
 (∀(h1:Heap) (out:ZN) (n:Nat),(∀b ob,b≠D->s.heap.get? b=some ob->h1.get? b=some ob)->h1.get? D=some (seqObj "list" out n)->R out.toList->Q { s with heap:=h1 }) ->
 wpAny (model prog w) A (call (.builtin "list.sort") [.ref D]) (fun _ s'=>Q s') E s
theorem vy{Ok:Heap->Prop}{vs:ZM}{zs:ZL}(hI:IntsAre vs zs)(h64:vs.length<64):Srt prog w Ok vs fun o=>IntsAre o (S8 zs):=by
 intro A E s D Q _ Gc h;refine wpAny_call_entry slot_list_sort ⟨_,Gc,rfl⟩ entry_list_sort ?_ (args_list_sort _);refine list_sort_tree Gc hI h64 fun out ns q1 q2 q3=>⟨_,rfl, ?_⟩;obtain⟨n,e⟩:=sortedHeap_at (h:=s.heap) (a:=D) (vs:=vs) (n:=0) (out:=out) Gc;exact h _ out n (fun b ob nb e0=>SetM.Vm nb e0) e (by rw[<-ra q2 q3];exact q1)
theorem srt_strs{Ok:Heap->Prop}{vs:ZM}{ss:ZD}(hI:StrsAre vs ss)(h64:vs.length<64):Srt prog w Ok vs fun o=>StrsAre o (G4 ss):=by
 intro A E s D Q _ Gc h;refine wpAny_call_entry slot_list_sort ⟨_,Gc,rfl⟩ entry_list_sort ?_ (args_list_sort _);refine list_sort_treeK strKind_oneLt Gc hI.keysOf (fun v1 v2 rest e=>keyKind_strs (by rw[<-e];exact hI)) h64 fun st hp hs=>⟨_,rfl, ?_⟩;obtain⟨ns,q1,q2,q3⟩:=sorted_out_str hI hp hs;obtain⟨n,e⟩:=sortedHeap_at (h:=s.heap) (a:=D) (vs:=vs) (n:=0) (out:=(arrOf st).map (·.2)) Gc;exact h _ _ n (fun b ob nb e0=>SetM.Vm nb e0) e (by rw[<-rh q2 q3];exact q1)
end
theorem Wy:∀{zs:ZL} {vs:ZM},Zw (zs.map V.int) vs->IntsAre vs zs
 | [],_,h=>by cases h;exact .nil
 | z::zs,_,h=>by
  cases h with | cons a b =>
  obtain⟨t,rfl⟩:=(show ∃t,_=Value.int z t from a);exact .cons _ _ (Wy b)
theorem R0:∀{zs:ZD} {vs:ZM},Zw (zs.map V.str) vs->StrsAre vs zs
 | [],_,h=>by cases h;exact .nil
 | z::zs,_,h=>by
  cases h with | cons a b =>
  obtain⟨t,rfl⟩:=(show ∃t,_=Value.str z t from a);exact .cons _ _ (R0 b)
theorem Ro{P:Program}{w:World}:∀{XM:List (Key×Value)} {vs:ZM},vs.length=XM.length->(∀(j:Nat) (v:Value),vs[j]?=some v->∃k x,XM[j]?=some (k,x)/\(Zm P w).is k v=true)->Zw (XM.map fun p=>kV p.1) vs
 | [],vs,l,_=>by
  cases vs with
  | nil=>exact .nil
  | cons _ _=>simp at l
 | (k,x)::r,vs,l,h=>by
  cases vs with
  | nil=>simp at l
  | cons v vs =>
   obtain⟨k',x',ek,iv⟩:=h 0 v rfl;cases(show some (k,x)=some (k',x') from ek);refine .cons ?_ (Ro (by simpa using l) fun j v hv=>h (j+1) v hv);rcases Zn (show Mf k v=true from iv) with ⟨j,t,rfl,rfl⟩ | ⟨y,t,rfl,rfl⟩
   .exact⟨t,rfl⟩
   .exact⟨t,rfl⟩
section
variable{X:Cx}
def qy(X:Cx)(H:Hp)(zs ys:ZQ):Prop:=ys.length=zs.length/\∀XB Z s,Inv X XB Z H s->∀vs,Zw zs vs->∃Ok:Heap->Prop,(∀h1:Heap,(∀b o,b≠X.env.locals->s.heap.get? b=some o->h1.get? b=some o)->Ok h1)/\Srt X.prog X.w Ok vs fun o=>Zw ys o
theorem Xn{H:Hp}{zs:ZL}(h:zs.length<64):qy X H (zs.map V.int) ((S8 zs).map V.int):=by
 refine⟨by rw[Yn,Yn,(Gp zs).length_eq],fun XB Z s I vs r=>⟨fun _=>True,fun _ _=>trivial, ?_⟩⟩;have:=vy (prog:=X.prog) (w:=X.w) (Ok:=fun _=>True) (Wy r) (by rw[<-r.length,Yn];exact h);intro A E s D Q o e q;exact this A E s D Q o e fun h1 out n k e1 r1=>q h1 out n k e1 (M8 r1)
theorem Xc{H:Hp}{zs:ZD}(h:zs.length<64):qy X H (zs.map V.str) ((G4 zs).map V.str):=by
 refine⟨by rw[Yn,Yn,(Yx zs).length_eq],fun XB Z s I vs r=>⟨fun _=>True,fun _ _=>trivial, ?_⟩⟩;have:=srt_strs (prog:=X.prog) (w:=X.w) (Ok:=fun _=>True) (R0 r) (by rw[<-r.length,Yn];exact h);intro A E s D Q o e q;exact this A E s D Q o e fun h1 out n k e1 r1=>q h1 out n k e1 (Ru r1)
theorem Mp:Yk X (.builtin "sorted") (fun xs H Q=>∃(a:Addr) (zs ys:ZQ),xs=[.ref a]/\(Vc X.K H a zs\/Yu X.K H a zs)/\qy X H zs ys/\∀l:Addr,H l=none->Q (.ref l) (upd H l (.lst ys))):=by
 intro XB s Z H xs us Q I r h;obtain⟨a,zs,ys,rfl,hq,hv,q⟩:=h;obtain⟨u,rfl,rx⟩:=vals1 r;cases rx
 obtain⟨XD,o,T,n,rv,e0,hc,hT,hd,z⟩:∃(XD:ZM) (o:Obj) (T:String) (n:Nat),Zw zs XD/\s.heap.get? a=some o/\o.cls=.type T/\(T = "list" \/ T = "tuple")/\o.data=.seq XD.toArray n/\zs.length<=sizeLine:=by
  rcases hq with hq | hq
  .obtain⟨XD,rv,⟨o,n,e,hc,_,hd⟩,z⟩:=I.list hq;exact⟨XD,o,_,n,rv,e,hc,.inl rfl,hd,z⟩
  .obtain⟨XD,rv,⟨o,e,hc,n,hd⟩,z⟩:=I.tuple hq;exact⟨XD,o,_,n,rv,e,hc,.inr rfl,hd,z⟩
 obtain⟨lv,hv⟩:=hv;obtain⟨Ok,ok,st⟩:=hv XB Z s I XD rv;refine Qs e0 hc hT hd (by rw[<-rv.length];exact z) fun h1 D k1 sz Gc=>?_;refine st _ _ { s with heap:=h1 } D _ (ok h1 fun b o _ e=>k1 b o e) Gc fun h2 out n k2 at2 r2=>?_;refine⟨.ref D,_,I.put (o:=.lst ys) (t':=s.toks) (d':=s.drawn) (fun b o e=>k2 b o (N0 (Wp (Vb e) sz)) (k1 b o e)) sz ⟨by rw[lv];exact z,out.toList,n,r2,by simpa using at2⟩,rfl,q D (I.hok.fresh sz)⟩
theorem Fw(hc:X.calm=true):Yk X (.builtin "sorted") (fun xs H Q=>∃(a:Addr) (XM:List (Key×V)) (ys:ZQ),xs=[.ref a]/\Rd H a (.dK XM)/\qy X H (XM.map fun p=>kV p.1) ys/\∀l:Addr,H l=none->Q (.ref l) (upd H l (.lst ys))):=by
 intro XB s Z H xs us Q I r h;obtain⟨a,XM,ys,rfl,hq,⟨lv,hv⟩,q⟩:=h;obtain⟨u,rfl,rx⟩:=vals1 r;cases rx;obtain⟨z,hd,ws,rel,dd⟩:=Jo I.hok hq;obtain⟨ep,da⟩:=dd.dictAt;obtain⟨m,hn,fr,nw⟩:=I.frame;refine W.kdu_sorted (W.kdl_dict (knd:=Zm X.prog X.w) (ep:=ep) hd) (I.ok.hd hc) fr nw da (by rw[<-rel.length];exact z) fun D h' tk vs f' n' hD vl ed=>?_
 have rv:Zw (XM.map fun p=>kV p.1) vs:=by
  have:=Ro vl ed;have e:=congrArg (List.map kV) rel.keys;rw[List.map_map,List.map_map]at e;have e:(XM.map fun p=>kV p.1)=ws.map fun p=>kV p.1:=e;rw[e];exact this
 obtain⟨Ok,ok,st⟩:=hv XB Z s I vs rv;have ka:=Ll f' n' fun p hp=>Y7 _ hp;have nD:=Inv.newAt (X:=X) (m:=m) n' hD;obtain⟨eD,nDL,_⟩:=n' _ Y5;have Gc:h'.get? D=some (seqObj "list" vs.toArray 0):=eD;refine st _ _ { s with heap:=h',toks:=tk } D _ (ok h' fun b o nb e=>ka b o nb e) Gc fun h2 out n k2 at2 r2=>?_;have neD:∀{b:Addr} {o:Obj},s.heap.get? b=some o->b≠D:=fun {b o} e z=>by rw[z,nD]at e;cases e
 obtain⟨J,fD⟩:=I.lay2 (h':=h2) (D:=D) (u:=.lst ys) (t':=tk) hn (o7 f'.ns fun o e=>k2 _ o (fun z=>nDL z.symm) e) (fun b o nb eb=>k2 b o (neD eb) (ka b o nb eb)) nD ⟨by rw[lv,Yn];exact z,out.toList,n,r2,by simpa using at2⟩;exact⟨.ref D,_,J,rfl,q D fD⟩
end
end SRT
namespace DicL
open PySem PySem.Spec PyProof.Rows
open DicP2
theorem tl1:typeLookup (.type "list") (Str.ofString "__getattribute__")=pure (some (.builtin "list.__getattribute__")):=by rw[typeLookup_type,builtinLookup_eq_fast];kernel_rfl
theorem tl2:typeLookup (.type "list") (Str.ofString "keys")=pure none:=by rw[typeLookup_type,builtinLookup_eq_fast];kernel_rfl
theorem tl3:typeLookup (.type "list") (Str.ofString "__getattr__")=pure none:=by rw[typeLookup_type,builtinLookup_eq_fast];kernel_rfl
theorem slot_ga:Slot "list" (Str.ofString "__getattribute__") "list.__getattribute__" := Slot.of (owner:="list") (n:="__getattribute__") tl1 (by decide +kernel) (by decide +kernel) (by decide +kernel) (.inl (by decide +kernel)) (by rw[isSubtype_type];kernel_rfl)
theorem tq:entryFor table "list.__getattribute__" = some Builtin.«object.__getattribute__»:=entryFor_alias (id':="object.__getattribute__") (by kernel_rfl) rfl (by decide +kernel) (by kernel_rfl)
theorem Zxz(a b:Value):argsOk "list.__getattribute__" ⟨[a,b],[]⟩:=by unfold argsOk;kernel_rfl
theorem Zzj{prog:Program}{w:World}{A:Around}{E:ZW}{s:Shared}{u:Nat}{a:Addr}{XD:ZN}{n:Nat}{sl:ZF}{Q:PySem.Fin->Shared->Prop}(hh:A.handled=none)(ho:s.heap.get? a=some ⟨.type "list",none,.seq XD n,sl⟩)
  (hq:∀e h' t',(∃o,h'.get? e=some o/\o.cls=.type "AttributeError")->(∀b u,s.heap.get? b=some u->h'.get? b=some u)->E (.ref e) { s with heap:=h',toks:=t' }):wpAny (model prog w) A (Builtin.«object.__getattribute__» ⟨[.ref a,.str (Str.ofString "keys") u],[]⟩) Q E s:=by
 obtain⟨h,g,d,t,os⟩:=s;have ho:h.get? a=some ⟨.type "list",none,.seq XD n,sl⟩:=ho;unfold Builtin.«object.__getattribute__»
 wp_walk
 show wpAny _ _ (typeLookup (.type "list") _) _ _ _;rw[tl2]
 wp_walk
 have hl:(Str.ofString (toString "'" ++ toString ((Manifest.find? "list").elim "list" fun x=>x.tpName)++toString "' object has no attribute '")++Str.ofString "keys" ++ Str.ofString "'").length<=sizeLine:=by decide +kernel
 generalize (Str.ofString (toString "'" ++ toString ((Manifest.find? "list").elim "list" fun x=>x.tpName)++toString "' object has no attribute '")++Str.ofString "keys" ++ Str.ofString "'")=msg at hl ⊢;unfold raiseAttrError;refine Zv (wpAny_mkStr ?_ hl);refine Zv (newAE fun h1 e t1 k1 e1 n1=>?_);refine Zv (wpAny_mkText ?_);refine Zv (note e1 fun h2 d2 sb e2=>?_);refine wpAny_raiseNew_none hh (hq e h2 _ ⟨_,e2,rfl⟩ fun b u q=>?_);refine(sb.2 b fun z=>?_).trans (k1 b u q);rw[z]at q;rw[show h.get? e=none from n1]at q;cases q
theorem hb0:hookBefore (.type "list")=pure none:=rfl
theorem zu{prog:Program}{w:World}{A:Around}{E:ZW}{s:Shared}{a:Addr}{XD:ZN}{n:Nat}{sl:ZF}{Q:ZT->Shared->Prop}(hh:A.handled=none)(ho:s.heap.get? a=some ⟨.type "list",none,.seq XD n,sl⟩)
  (hq:∀h' t',(∀b u,s.heap.get? b=some u->h'.get? b=some u)->Q none { s with heap:=h',toks:=t' }):wpAny (model prog w) A (getAttr? (.ref a) (Str.ofString "keys")) Q E s:=by
 obtain⟨h,g,d,t,os⟩:=s;have ho:h.get? a=some ⟨.type "list",none,.seq XD n,sl⟩:=ho;unfold getAttr?;refine Zv (wpAny_mkText ?_);unfold getAttrBy?;refine Zv (wpAny_attempt ?_);unfold getAttrBy;refine wpAny_holding ?_;have ht:Shared.TypeIs ⟨h,g,d,t+1,os⟩ (.ref a) "list" := ⟨_,ho,rfl⟩;refine Zv (wpAny_typeOf ht ?_);rw[tl1];refine Zv (Yt ?_);simp only[];refine wpAny_ite_split (fun z=>absurd z (by decide)) fun _=>?_;unfold getAttrByItsOwn;rw[hb0];refine Zv (Yt ?_);refine Zv (wpAny_attempt (wpAny_holding ?_));show wpAny _ _ (boundAndCalled (.builtin "list.__getattribute__") (.ref a) _) _ _ _;unfold boundAndCalled;rw[slot_ga.toG.bind];refine Zv (Yt ?_);show wpAny _ _ (call (.builtin "list.__getattribute__") [.ref a,.str (Str.ofString "keys") t]) _ _ _;refine wpAny_call_entry slot_ga ht tq ?_ (Zxz _ _);refine Zzj (s:=⟨h,g,d,t+1,os⟩) hh ho fun e h' t' he kp=>?_;obtain⟨o,e1,e2⟩:=he;have ae:∀t'',Shared.TypeIs ⟨h',g,d,t'',os⟩ (.ref e) "AttributeError" := fun _=>⟨o,e1,e2⟩;show wpAny _ _ (getattributeRaised _ _ _ _ _ _ _) _ _ _;unfold getattributeRaised;refine Zv (wpAny_isInstance (T:="AttributeError") (b:=true) (ae _) (by rw[isSubtype_type];kernel_rfl) ?_);simp only[if_true];rw[show hookBehind (Value.type "list") none=typeLookup (.type "list") (Str.ofString "__getattr__") from rfl,tl3];refine Zv (Yt ?_);unfold hookOrError;simp only[];unfold attributeErrorLeaves;simp only[Bool.not_false,if_true];refine Zv (wpAny_throw ?_);refine Zv (wpAny_isInstance (T:="AttributeError") (b:=true) (ae _) (by rw[isSubtype_type];kernel_rfl) ?_);simp only[if_true];exact Yt (hq h' t' kp)
end DicL
namespace DicL
open PySem PySem.Spec PyProof.Rows DicP2
section
variable{prog:Program}{w:World}{K:Type}[DecidableEq K]{knd:PySem.KeyKind prog w K}
variable{A:Around}{R:Result->Shared->Prop}{E:ZW}{s:Shared}{d it t:Addr}{XD:ZN}{rs:List (K×Value)}
theorem loop(hh:A.handled=none)(hdi:d≠it)(htd:t≠d)(hti:t≠it)(hz:rs.length<=sizeLine){h₁:Heap}(ht:h₁.IsList t XD)(hp:Prs knd h₁ XD rs)(hpd:∀(p:Addr),.ref p∈XD.toList->p≠d/\p≠it)
  (fin:∀h' tk,(∀b o,b≠d->b≠it->h₁.get? b=some o->h'.get? b=some o)->h'.DictOf knd d (stK rs rs.length)->R (.ok (.ret .none)) { s with heap:=h',toks:=tk }) :
  ∀(k i:Nat) (h:Heap) (tk:Nat),rs.length - i=k->i<=rs.length->(∀b o,b≠d->b≠it->h₁.get? b=some o->h.get? b=some o)->h.IsListIter it t i->h.DictOf knd d (stK rs i) ->
   codeAny (model prog w) A (.builtin "dict.update.loop" ⟨[.ref d,.ref it,rawInt i,.none],[]⟩) R { s with heap:=h,toks:=tk }:=by
 intro k
 induction k with
 | zero =>
  intro i h tk hk hi kp st dd;have ei:i=rs.length:=by omega
  subst ei;refine codeAny_builtin T5 ?_;rw[Around.under_plainId Jk _]
  change wpAny _ A.in1 (pyNext (.ref it) >>= _) _ _ _
  refine Zv (wpAny_pyNext_list_end (s:={ s with heap:=h,toks:=tk }) (A:=A.in1) hh st (ht.at fun o e=>kp _ o htd hti e) (Array.getElem?_eq_none (by rw[hp.1];exact Yg _)) fun h' ext=>?_)
  change wpAny _ A.in1 (Builtin.Dict.addKeywords d [] >>= _) _ _ _
  refine Zv (m:=Builtin.Dict.addKeywords d []) ?_;unfold Builtin.Dict.addKeywords;simp only[List.forIn_nil];refine Zv (Yt (Yt (Yt ?_)));refine fin h' tk (fun b o n1 n2 e=>ext b o n2 (kp b o n1 n2 e)) ?_;obtain⟨o,es,ep,e1,r⟩:=dd;exact⟨o,es,ep,ext d o hdi e1,r⟩
 | succ k ih =>
  intro i h tk hk hi kp st dd;have ql:i<rs.length:=by omega
  obtain⟨⟨kk,vv⟩,hkv⟩:∃p,rs[i]?=some p:=⟨rs[i],Ui ql⟩;obtain⟨p,u,ep,tp,ku⟩:=hp.2 i kk vv hkv;have np:=hpd p (by rw[<-Array.mem_def];exact Array.mem_of_getElem? ep);refine codeAny_builtin T5 ?_;rw[Around.under_plainId Jk _]
  change wpAny _ A.in1 (pyNext (.ref it) >>= _) _ _ _
  refine Zv (wpAny_pyNext_list_item (s:={ s with heap:=h,toks:=tk }) (A:=A.in1) st (ht.at fun o e=>kp _ o htd hti e) ep fun h' O9 sb=>?_);have Xf:IsTup h' p #[u,vv]:=let ⟨o,e1,e2⟩:=tp;⟨o,sb.extBut _ _ np.2 (kp _ _ np.1 np.2 e1),e2⟩;have dd':h'.DictOf knd d (stK rs i):=let ⟨o,es,ep,e1,r⟩:=dd;⟨o,es,ep,sb.extBut _ _ hdi e1,r⟩;simp only[];refine Zv (wpAny_holding (Zv (wpAny_tryCatch ?_)));unfold Builtin.Dict.pairItems;refine Zv (wpAny_typeOf (T:="tuple") Xf.typeIs ?_);simp only[show (Value.type "tuple" == Value.type "list" || Value.type "tuple" == Value.type "tuple")=true from by decide,if_true];obtain⟨o,e1,e2,n,e3⟩:=id Xf;refine Zv (m:=seqItems? (.ref p)) ?_;unfold seqItems?;simp only[];refine Zv (wpAny_load e1 ?_);rw[e3];refine Yt (Yt ?_);show wpAny _ _ (holding [u,vv] (dictSet d u vv)) _ _ _;refine wpAny_holding ?_;refine wpAny_dictSet_pairs (hsz:=Ve (W1 rs i) (Ve hi hz)) ku dd' fun h2 dd2 sb2=>?_;refine Yt ⟨plainId_quiet Jk _, ?_⟩;refine ih (i+1) h2 _ (by omega) ql (fun b o n1 n2 e=>sb2.extBut _ _ n1 (sb.extBut _ _ n2 (kp b o n1 n2 e))) (O9.extBut sb2.extBut hdi.symm) ?_;rw[Qt hkv];exact dd2
theorem Kz{Q:ZW}(hh:A.handled=none){n:Nat}{sl:ZF}(ho:s.heap.get? t=some ⟨.type "list",none,.seq XD n,sl⟩)(hp:Prs knd s.heap XD rs)(hz:rs.length<=sizeLine)
  (hl:∀(p:Addr),.ref p∈XD.toList->p<s.heap.objs.size)
  (fin:∀h' tk,(∀b o,s.heap.get? b=some o->h'.get? b=some o)->h'.DictOf knd s.heap.objs.size (stK rs rs.length)->Q (.ref s.heap.objs.size) { s with heap:=h',toks:=tk }) :
  wpAny (model prog w) A (call (.type "dict") [.ref t]) Q E s:=by
 have lt:∀{c o},s.heap.get? c=some o->c≠s.heap.objs.size:=fun e=>N0 (Vb e);have pu:∀{c o},s.heap.get? c=some o->(s.heap.push { cls:=.type "dict",data:=.dict #[] }).get? c=some o:=fun e=>Y9 _ e
 refine callType_codes (Q₁:=fun obj s₁=>obj=.ref s.heap.objs.size/\s₁={ s with heap:=s.heap.push { cls:=.type "dict",data:=.dict #[] } }) F.kt_called_dict (F.kt_typeCall_dict_1 _) F.entry_dict_init
  (kt_code_dict_new _ ⟨rfl,rfl⟩) fun obj s₁ q=>?_
 obtain⟨rfl,rfl⟩:=q;have Gc:(s.heap.push { cls:=.type "dict",data:=.dict #[] }).get? s.heap.objs.size=some { cls:=.type "dict",data:=.dict #[] }:=Dj _ rfl;refine⟨⟨_,Gc,rfl⟩,F.args_dict_init_2 _ _, ?_⟩;have ty:Shared.TypeIs { s with heap:=s.heap.push { cls:=.type "dict",data:=.dict #[] } } (.ref s.heap.objs.size) "dict" := ⟨_,Gc,rfl⟩;unfold Builtin.«dict.__init__»;unfold Builtin.Dict.selfAndRest;refine Zv (Zv (wpAny_notOrdered_dict ty ?_));refine Zv (m:=Builtin.Dict.addrOf (.ref s.heap.objs.size)) (Yt (Yt ?_));show wpAny _ _ (Builtin.Dict.updateFrom "dict.__init__" s.heap.objs.size (.ref t) [] .none) _ _ _;unfold Builtin.Dict.updateFrom;refine Zv (wpAny_typeOf (T:="list") ⟨_,pu ho,rfl⟩ ?_);simp only[show (Value.type "list" != Value.type "dict")=true from by decide,if_true];refine Zv (zu (s:={ s with heap:=s.heap.push { cls:=.type "dict",data:=.dict #[] } }) (A:=A.in1.in1) hh (pu ho) fun h2 t2 k2=>?_);simp only[Option.isNone_none,if_true];refine Zv (wpAny_rule ?_);have tu:Heap.IsList h2 t XD:=⟨_,k2 _ _ (pu ho),rfl,n,rfl⟩;refine Zv (wpAny_pyIter_list (s:={ s with heap:=h2,toks:=t2 }) tu ?_);have lt2:∀{c o},h2.get? c=some o->c≠h2.objs.size:=fun e=>N0 (Vb e);have at2:=k2 _ _ Gc;have sz2:s.heap.objs.size<h2.objs.size:=Vb at2;refine Yt ⟨plainId_quiet Jk _, ?_⟩;have kp3:∀b o,h2.get? b=some o->(h2.push { cls:=.type "list_iterator",data:=.fields #[.ref t,.int 0 0] }).get? b=some o:=fun b o e=>Y9 _ e;refine loop (knd:=knd) (s:=s) (A:=A.in1) (d:=s.heap.objs.size) (it:=h2.objs.size) (t:=t) hh (N0 sz2) (lt ho) (lt2 (k2 _ _ (pu ho))) hz (h₁:=h2.push { cls:=.type "list_iterator",data:=.fields #[.ref t,.int 0 0] }) (tu.at fun o e=>kp3 _ o e) ⟨hp.1,fun j k v e=>?_⟩ (fun p hm=>⟨N0 (hl p hm),N0 (Nat.lt_trans (hl p hm) sz2)⟩) (fun h' tk kp dd=>?_) _ 0 _ t2 rfl (Ju _) (fun b o _ _ e=>e) ⟨_,Dj _ rfl,rfl,rfl⟩ ?_
 .obtain⟨p,u,e1,tp,ku⟩:=hp.2 j k v e;exact⟨p,u,e1,let ⟨o,a1,a2⟩:=tp;⟨o,kp3 _ _ (k2 _ _ (pu a1)),a2⟩,ku⟩
 .refine⟨rfl,fin h' tk (fun b o e=>kp b o (lt e) (lt2 (k2 _ _ (pu e))) (kp3 _ _ (k2 _ _ (pu e)))) dd⟩
 .exact⟨_, #[],_,kp3 _ _ at2,⟨rfl,rfl,rfl⟩,rfl,fun e he=>by simp at he,.nil,List.nodup_nil⟩
end
end DicL
namespace SetM
open PySem PySem.Spec PyProof.Rows
section
variable{prog:Program}{w:World}{A:Around}{E:ZW}{s:Shared}
variable{K:Type}[DecidableEq K]{knd:KeyKind prog w K}
end
end SetM
namespace L2
open PySem PySem.Spec PyProof.Rows
section
variable{X:Cx}
theorem Bu(hc:X.calm=true):Yk X (.type "dict") (fun xs H Q=>∃(a:Addr) (ys:ZQ) (XM:List (Key×V)),xs=[.ref a]/\Vc X.K H a ys/\ys.length=XM.length/\(∀(j:Nat) (k:Key) (v:V),XM[j]?=some (k,v)->∃p,ys[j]?=some (.ref p)/\Yu X.K H p [kV k,v]) /\
  ∀D,H D=none->Q (.ref D) (upd H D (.dK (Wm XM)))):=by
 intro XB s Z H xs us Q I r h;obtain⟨a,ys,XM,rfl,sq,hl,hp,q⟩:=h;obtain⟨u,rfl,rx⟩:=vals1 r;cases rx;obtain⟨XD,rv,⟨o,n,e1,e2,e4,e3⟩,hz⟩:=I.list sq;obtain⟨oc,od,dt,sl⟩:=o;obtain rfl:oc=_:=e2;obtain rfl:dt=_:=e3;obtain rfl:od=none:=e4
 obtain⟨rs,kv,pr⟩:=Py (P:=fun j k w=>∃p u,XD.toArray[j]?=some (.ref p)/\IsTup s.heap p #[u,w]/\(Zm X.prog X.w).is k u=true) (XM:=XM) 0 fun j k v e=>by
  obtain⟨p,ep,sp⟩:=hp j k v e;obtain⟨jts,jr,tp,_⟩:=I.tuple sp;cases jr with
  | cons j1 j2=>cases j2 with
   | cons j2 j3 =>
    cases j3;obtain⟨w,ew,W9⟩:=rv.get ep;cases(show w=Value.ref p from W9);exact⟨_,j2,p,_,by simpa using ew,tp,Bj j1⟩
 have lr:XD.toArray.size=rs.length:=by rw[Vi, <-rv.length,hl,kv.length]
 have pr':∀(j:Nat) (k:Key) (w:Value),rs[j]?=some (k,w)->∃p u,XD.toArray[j]?=some (.ref p)/\IsTup s.heap p #[u,w]/\(Zm X.prog X.w).is k u=true:=fun j k w e=>by
  have:=pr j k w e;rw[Nat.zero_add]at this;exact this
 have kz:XM.length<=sizeLine:=by rw[<-hl];exact hz
 refine DicL.Kz (knd:=Zm X.prog X.w) (rs:=rs) (I.ok.hd hc) e1 ⟨lr,pr'⟩ (by rw[<-kv.length];exact kz) (fun p hm=>?_) fun h' tk kp dd=>?_
 .obtain⟨j,hj⟩:=List.mem_iff_getElem?.mp hm
  have hjl:j<rs.length:=by
   rw[<-lr];have:=(Tz.mp hj).1;simpa using this
  obtain⟨p',u,a1,tp,_⟩:=pr' j _ _ (Ui hjl);have:Value.ref p=Value.ref p':=G0 ((show XD.toArray[j]?=some (.ref p) by simpa using hj).symm.trans a1);cases this;exact tp.lt
 .refine⟨.ref s.heap.objs.size,_,I.laid (o:=.dK (Wm XM)) (t':=tk) kp (Yg _) (E7 ?_ (B0n.mpr (Ne.symm (N0 I.big))) (vs:=DicP2.stK rs rs.length) ?_ dd),rfl,q _ (I.hok.fresh (Yg _))⟩
  .have:=Nc XM [];unfold Wm;simp only[List.length_nil,Nat.zero_add]at this;omega
  .unfold DicP2.stK Wm;rw[List.take_length];exact A0 kv .nil
end
end L2
namespace PySem.SeqAt
open PySem PySem.Spec PyProof.Rows PySem.Calls
theorem Qm(b:Str)(u:Tok)(l:Addr)(es:Array DictEntry)(n:Nat)(dd:ZP)(sl:ZF) :
  Meets (Builtin.«str.__eq__» ⟨[.str b u,.ref l],[]⟩) (fun _ R s=>s.heap.get? l=some { cls:=.type "dict",dict:=dd,data:=.dict es n,slots:=sl }/\R (.ok (.ret .notImplemented)) s) :=
 .of_wp fun prog w A R s h=>by obtain⟨hp,g,d,tk,os⟩:=s;obtain⟨hl,h⟩:=h;wp_walk using wpAny_loadPart' hl,wpAny_load hl;exact⟨_,rfl,h⟩
theorem Ox(b:Str)(u:Tok)(l:Addr)(es:Array DictEntry)(n:Nat)(dd:ZP)(sl:ZF) :
  Meets (Builtin.«dict.__eq__» ⟨[.ref l,.str b u],[]⟩) (fun _ R s=>s.heap.get? l=some { cls:=.type "dict",dict:=dd,data:=.dict es n,slots:=sl }/\R (.ok (.ret .notImplemented)) s) :=
 .of_wp fun prog w A R s h=>by
  obtain⟨hp,g,d,tk,os⟩:=s;obtain⟨hl,h⟩:=h;have f1:=F.sub_str_dict
  wp_walk using wpAny_loadPart' hl,wpAny_load hl
  exact⟨_,rfl,h⟩
section
variable{A:Around}{s:Shared}
theorem RcAt.str_dict{l:Addr}{es:Array DictEntry}{n:Nat}{dd:ZP}{sl:ZF}(b:Str)(u:Tok)(ho:s.heap.get? l=some { cls:=.type "dict",dict:=dd,data:=.dict es n,slots:=sl })(hu:A.units<cLine):RcAt A s (.str b u) (.ref l) false:=fun prog w E Q h=>by
 exact rc_eq_decline_or (k:=false) (typeIs_str s b u) ⟨_,ho,rfl⟩ (by decide) F.sub_dict_str F.slot_str_eq F.slot_dict_eq_refl
  (fun _ hq=>call_meets F.slot_str_eq (typeIs_str s b u) F.entry_str_eq (F.args_str_eq_2 _ _) (Qm b u l es n dd sl) ⟨ho,hq⟩)
  (fun _ hq=>call_meets F.slot_dict_eq_refl ⟨_,ho,rfl⟩ F.entry_dict_eq (F.args_dict_eq_2 _ _) (Ox b u l es n dd sl) ⟨ho,hq⟩)
  (fun _ hq=>wpAny_of_eq (rfl:isSame (.str b u) (.ref l)=pure false) hq) (.inr hu) h
theorem EqAt.str_dict{l:Addr}{es:Array DictEntry}{n:Nat}{dd:ZP}{sl:ZF}(b:Str)(u:Tok)(ho:s.heap.get? l=some { cls:=.type "dict",dict:=dd,data:=.dict es n,slots:=sl })(hu:A.units<cLine):EqAt A s (.str b u) (.ref l) false:=fun prog w E Q h=>by
 unfold eqBool;refine wpAny_holding ?_;refine wpAny_ite_split (fun hab=>absurd (eq_of_beq hab) nofun) (fun _=>?_);exact Zv (RcAt.str_dict b u ho hu prog w E _ (wpAny_truthy_bool h))
end
end PySem.SeqAt
namespace SRT
open PySem PySem.Spec PyProof.Rows PySem.W
section
variable{n:Nat}{z:Nat->Int}{s:Shared}{cmp:Nat->Nat->(Bool->Shared->Prop)->Shared->Prop}
def Pm(n:Nat)(p:ZS):Prop:=p.toList.Perm (List.range n)
noncomputable def ky(z:Nat->Int)(p:ZS)(k:Nat):Int:=z (p[k]?.getD 0)
def Kn(z:Nat->Int)(p:ZS)(k:Nat):Prop:=∀i j,i<j->j<k->ky z p i<ky z p j
def Dn(z:Nat->Int)(p:ZS)(k:Nat):Prop:=∀i j,i<j->j<k->ky z p j<ky z p i
theorem getD_eq(p:ZS)(k:Nat):p.getD k 0=p[k]?.getD 0:=by
 unfold Array.getD
 split
 .rename_i h;rw[lb h];rfl
 .rename_i h;rw[Array.getElem?_eq_none (by omega)];rfl
theorem Pm.size{p:ZS}(h:Pm n p):p.size=n:=by rw[<-qp,h.length_eq,XJ]
theorem Pm.lt{p:ZS}(h:Pm n p){k:Nat}(hk:k<n):p[k]?.getD 0<n:=by
 have hs:k<p.size:=by rw[h.size];exact hk
 rw[lb hs];exact List.mem_range.mp (h.mem_iff.mp (Array.mem_def.mp (Array.getElem_mem hs)))
theorem Pm.inj{p:ZS}(h:Pm n p){k l:Nat}(hk:k<n)(hl:l<n)(e:p[k]?.getD 0=p[l]?.getD 0):k=l:=by
 have hs:k<p.size:=by rw[h.size];exact hk
 have ht:l<p.size:=by rw[h.size];exact hl
 rw[lb hs,lb ht]at e;have nd:p.toList.Nodup:=h.nodup_iff.mpr List.nodup_range;have e:p[k]=p[l]:=e;rw[<-Array.getElem_toList (h:=hs), <-Array.getElem_toList (h:=ht)]at e;rcases Nat.lt_trichotomy k l with q | q | q
 .exact absurd e (List.pairwise_iff_getElem.mp nd k l _ _ q)
 .exact q
 .exact absurd e.symm (List.pairwise_iff_getElem.mp nd l k _ _ q)
theorem Pm.perm{p q:ZS}(h:Pm n p)(e:q.Perm p):Pm n q:=(Array.perm_iff_toList_perm.mp e).trans h
variable(hz:∀i j,i<n->j<n->z i=z j->i=j)(hc:∀i j,i<n->j<n->i≠j->∀C:Bool->Shared->Prop,C (decide (z i<z j)) s->cmp i j C s)
include hz in
theorem Pm.ne{p:ZS}(h:Pm n p){k l:Nat}(hk:k<n)(hl:l<n)(e:ky z p k=ky z p l):k=l:=h.inj hk hl (hz _ _ (h.lt hk) (h.lt hl) e)
include hc in
theorem Ce{Z:Type}{p:ZS}(h:Pm n p){i j:Nat}(hi:i<n)(hj:j<n)(Wf:i≠j){k:Bool->KasT Z}{Q:Z->Shared->Prop}(g:(k (decide (ky z p i<ky z p j))).kasWp cmp Q s):(KasT.ask (p.getD i 0) (p.getD j 0) k).kasWp cmp Q s:=by
 rw[getD_eq,getD_eq];exact hc _ _ (h.lt hi) (h.lt hj) (fun e=>Wf (h.inj hi hj e)) _ g
theorem Kn.succ{p:ZS}{m:Nat}(h:Kn z p m)(h1:1<=m)(e:ky z p (m - 1)<ky z p m):Kn z p (m+1):=fun i j Wf hj=>by
 rcases Nat.lt_or_ge j m with hjm | hjm
 .exact h i j Wf hjm
 .obtain rfl:j=m:=by omega
  rcases Nat.lt_or_ge i (j - 1) with hi | hi
  .exact Int.lt_trans (h i (j - 1) hi (by omega)) e
  .obtain rfl:i=j - 1:=by omega
   exact e
theorem Dn.succ{p:ZS}{m:Nat}(h:Dn z p m)(h1:1<=m)(e:ky z p m<ky z p (m - 1)):Dn z p (m+1):=fun i j Wf hj=>by
 rcases Nat.lt_or_ge j m with hjm | hjm
 .exact h i j Wf hjm
 .obtain rfl:j=m:=by omega
  rcases Nat.lt_or_ge i (j - 1) with hi | hi
  .exact Int.lt_trans e (h i (j - 1) hi (by omega))
  .obtain rfl:i=j - 1:=by omega
   exact e
include hz hc in
theorem Km{p:ZS}(h:Pm n p){Q:Nat->Shared->Prop}:∀(f m:Nat),1<=m->m+f=n->Kn z p m->(∀m',m<=m'->m'<=n->Kn z p m'->(m'=n\/(m'<n/\ky z p m'<ky z p (m' - 1)))->Q m' s)->(kas_asc p f m).kasWp cmp Q s
 | 0,m,h1,hm,hu,g=>g m (Yg _) (by omega) hu (.inl (by omega))
 | f+1,m,h1,hm,hu,g=>by
  unfold kas_asc;refine Ce hc h (by omega) (by omega) (by omega) ?_;by_cases hl:ky z p m<ky z p (m - 1)
  .rw[Dw hl,if_pos rfl];exact g m (Yg _) (by omega) hu (.inr ⟨by omega,hl⟩)
  .rw[Dl hl,if_neg (by simp)];have ne:ky z p (m - 1)≠ky z p m:=fun e=>by have:=h.ne hz (by omega) (by omega) e;omega
   exact Km h f (m+1) (by omega) (by omega) (hu.succ h1 (by omega)) fun m' a b c d=>g m' (by omega) b c d
include hz hc in
theorem Ic{p:ZS}(h:Pm n p){Q:ZS×Nat×Nat->Shared->Prop}:∀(f m:Nat),1<=m->m+f=n->Dn z p m->(∀m',m<=m'->m'<=n->Dn z p m'->Q (p,m',0) s)->(kas_desc f p m 0).kasWp cmp Q s
 | 0,m,h1,hm,hu,g=>g m (Yg _) (by omega) hu
 | f+1,m,h1,hm,hu,g=>by
  unfold kas_desc;refine Ce hc h (by omega) (by omega) (by omega) ?_;by_cases hl:ky z p m<ky z p (m - 1)
  .rw[Dw hl,if_pos rfl,if_neg (by omega)];exact Ic h f (m+1) (by omega) (by omega) (hu.succ h1 hl) fun m' a b c=>g m' (by omega) b c
  .rw[Dl hl,if_neg (by simp)];have ne:ky z p (m - 1)≠ky z p m:=fun e=>by have:=h.ne hz (by omega) (by omega) e;omega
   refine Ce hc h (by omega) (by omega) (by omega) ?_;rw[Dw (show ky z p (m - 1)<ky z p m by omega),if_pos rfl];exact g m (Yg _) (by omega) hu
theorem rev_up{p:ZS}{m:Nat}(hm:m<=p.size)(h:Dn z p m):Kn z (kas_rev p 0 m) m:=fun i j Wf hj=>by
 unfold ky kas_rev;rw[getElem?_mirror_all hm,getElem?_mirror_all hm,if_pos (by omega),if_pos (by omega)];exact h _ _ (by omega) (by omega)
include hz hc in
theorem we{p:ZS}(h:Pm n p){m:Nat}(h1:1<=m)(hm:m<=n)(hd:Dn z p m){Q:Nat×ZS->Shared->Prop}(g:∀m' p',1<=m'->m'<=n->Pm n p'->Kn z p' m'->Q (m',p') s):(kas_tail3 m n p).kasWp cmp Q s:=by
 unfold kas_tail3;rw[KasT.kasWp_bind];have h':Pm n (kas_rev p 0 m):=h.perm (mirror_perm _ _ _ _);exact Km hz hc h' (n - m) m h1 (by omega) (rev_up (by rw[h.size];exact hm) hd) fun m' a b c _=>g m' _ (by omega) b h' c
include hz hc in
theorem t4{p:ZS}(h:Pm n p)(h2:2<=n){Q:Nat×ZS->Shared->Prop}(g:∀m' p',1<=m'->m'<=n->Pm n p'->Kn z p' m'->Q (m',p') s):(kas_count n p).kasWp cmp Q s:=by
 unfold kas_count;rw[KasT.kasWp_bind];refine Km hz hc h (n - 1) 1 (Yg _) (by omega) (fun i j _ _=>by omega) fun m a b c d=>?_;by_cases hm:m=n
 .subst hm;rw[if_pos (by simp)];exact g m p a b h c
 .rw[if_neg (by simpa using hm)];by_cases hm1:m>1
  .rw[if_pos hm1];refine Ce hc h (by omega) (by omega) (by omega) ?_;rw[Dw (c 0 (m - 1) (by omega) (by omega)),if_pos rfl];exact g m p a b h c
  .rw[if_neg hm1];obtain rfl:m=1:=by omega
   rcases d with d | ⟨_,d⟩
   .omega
   unfold kas_descPart;rw[KasT.kasWp_bind];refine Ic hz hc h (n - (1+1)) (1+1) (by omega) (by omega) (fun i j Wf hj=>?_) fun m' a' b' c'=>?_
   .obtain rfl:j=1:=by omega
    obtain rfl:i=0:=by omega
    exact d
   .rw[if_neg (by show ¬ (0>0);omega)];exact we hz hc h (by omega) b' c' g
include hz hc in
theorem Tu{p:ZS}(h:Pm n p){k:Nat}(hk:k<n){Q:Nat->Shared->Prop}(g:∀l,l<=k->(∀i,i<l->ky z p i<ky z p k)->(∀i,l<=i->i<k->ky z p k<ky z p i)->Q l s)(hs:Kn z p k):∀(f l r:Nat),l<=r->r<=k->r - l<=f->(∀i,i<l->ky z p i<ky z p k)->(∀i,r<=i->i<k->ky z p k<ky z p i)->(kas_place p k f l r).kasWp cmp Q s
 | 0,l,r,h1,h2,h3,h4,h5=>by
  obtain rfl:l=r:=by omega
  exact g l h2 h4 h5
 | f+1,l,r,h1,h2,h3,h4,h5=>by
  unfold kas_place;by_cases hlr:l ≥ r
  .rw[if_pos hlr];obtain rfl:l=r:=by omega
   exact g l h2 h4 h5
  .rw[if_neg hlr];refine Ce hc h hk (by omega) (by omega) ?_;by_cases hl:ky z p k<ky z p ((l+r) / 2)
   .rw[Dw hl,if_pos rfl];refine Tu h hk g hs f l ((l+r) / 2) (by omega) (by omega) (by omega) h4 fun i a b=>?_;rcases Nat.lt_or_ge ((l+r) / 2) i with c | c
    .exact Int.lt_trans hl (hs _ _ c b)
    .obtain rfl:i=(l+r) / 2:=by omega
     exact hl
   .rw[Dl hl,if_neg (by simp)];have ne:ky z p k≠ky z p ((l+r) / 2):=fun e=>by have:=h.ne hz (by omega) (by omega) e;omega
    refine Tu h hk g hs f ((l+r) / 2+1) r (by omega) h2 (by omega) (fun i a=>?_) h5;rcases Nat.lt_or_ge i ((l+r) / 2) with c | c
    .exact Int.lt_trans (hs _ _ c (by omega)) (by omega)
    .obtain rfl:i=(l+r) / 2:=by omega
     omega
theorem qw{p:ZS}{k l:Nat}(hk:k<p.size)(hl:l<=k)(h:Kn z p k)(h1:∀i,i<l->ky z p i<ky z p k)(h2:∀i,l<=i->i<k->ky z p k<ky z p i):Kn z (bubble p k (k - l)) (k+1):=fun i j Wf hj=>by
 have e:∀x,x<=k->ky z (bubble p k (k - l)) x=if x=l then ky z p k else if l<x then ky z p (x - 1) else ky z p x:=fun x hx=>by
  unfold ky;rw[getElem?_bubble hk (k - l) (by omega),show k - (k - l)=l by omega];by_cases a:x=l
  .rw[if_pos a,if_pos a]
  .rw[if_neg a,if_neg a];by_cases b:l<x
   .rw[if_pos ⟨b,hx⟩,if_pos b]
   .rw[if_neg (fun q=>b q.1),if_neg b]
 rw[e i (by omega),e j (by omega)];by_cases a:i=l
 .rw[if_pos a,if_neg (by omega),if_pos (by omega)];exact h2 _ (by omega) (by omega)
 .rw[if_neg a];by_cases b:l<i
  .rw[if_pos b,if_neg (by omega),if_pos (by omega)];exact h _ _ (by omega) (by omega)
  .rw[if_neg b];by_cases c:j=l
   .rw[if_pos c];exact h1 i (by omega)
   .rw[if_neg c];by_cases d:l<j
    .rw[if_pos d];rcases Nat.lt_or_ge i (j - 1) with q | q
     .exact h _ _ q (by omega)
     .omega
    .rw[if_neg d];exact h _ _ Wf (by omega)
include hz hc in
theorem cj{Q:ZS->Shared->Prop}(g:∀p',Pm n p'->Kn z p' n->Q p' s):∀(f:Nat) (p:ZS) (k:Nat),Pm n p->k+f=n->Kn z p k->(kas_bin f p k).kasWp cmp Q s
 | 0,p,k,h,hk,hu=>g p h (by rw[<-(by omega:k=n)];exact hu)
 | f+1,p,k,h,hk,hu=>by
  unfold kas_bin;rw[KasT.kasWp_bind];refine Tu hz hc h (by omega) (fun l a b c=>?_) hu k 0 k (Ju _) (Yg _) (by omega) (fun i q=>absurd q (by omega)) (fun i q r=>absurd q (by omega));exact cj g f _ (k+1) (h.perm (bubble_perm _ _ _)) (by omega) (qw (by rw[h.size];omega) a hu b c)
include hz hc in
theorem sv(h2:2<=n){Q:ZS->Shared->Prop}(g:∀p',Pm n p'->Kn z p' n->Q p' s):(kas_sort n).kasWp cmp Q s:=by
 unfold kas_sort;rw[KasT.kasWp_bind];have h0:Pm n (List.toArray (List.range n)):=by unfold Pm;rw[List.toList_toArray]
 refine t4 hz hc h0 h2 fun m p a b h c=>?_;show (if m<n then kas_bin (n - max m 1) p (max m 1) else KasT.ret p).kasWp cmp Q s;rw[show max m 1=m by omega]
 split
 .exact cj hz hc g _ p m h (by omega) c
 .exact g p h (by rw[<-(by omega:m=n)];exact c)
end
end SRT
namespace SRT
open PySem PySem.Spec PyProof.Rows L2 PySem.W
def Hd(h:Heap)(v:Value)(i:Int):Prop:=∃a o xs n t,v=.ref a/\h.get? a=some o/\o.cls=.type "tuple" /\ o.data=.seq xs n/\xs[0]?=some (.int i t)
def Hds(h:Heap)(vs:ZM)(zs:ZL):Prop:=vs.length=zs.length/\∀i,i<vs.length->Hd h (vs.getD i .none) (zs.getD i 0)
theorem Hds.tups{h:Heap}:∀{vs:ZM} {zs:ZL},Hds h vs zs->∃fs,KatTups h vs fs/\fs.length=vs.length/\∀v∈fs,∃i t,v=.int i t
 | [],zs,g=>⟨[],trivial,rfl,fun _ m=>absurd m Vk⟩
 | v::vs,[],g=>absurd g.1 (by simp)
 | v::vs,z::zs,g=>by
  obtain⟨fs,k1,k2,k3⟩:=Hds.tups (vs:=vs) (zs:=zs) ⟨by simpa using g.1,fun i hi=>by simpa using g.2 (i+1) (by simpa using hi)⟩;obtain⟨a,o,xs,n,t,e,h1,h2,h3,h4⟩:=g.2 0 (by simp);have e:v=.ref a:=e;subst e
  exact⟨.int z t::fs,⟨⟨a,o,xs,n,rfl,h1,h2,h3,h4⟩,k1⟩,by simp[k2],fun v m=>by
   rcases Yw.mp m with rfl | m
   .exact⟨_,_,rfl⟩
   .exact k3 v m⟩
section
variable{prog:Program}{w:World}{A:Around}{E:ZW}{s:Shared}
theorem bc{x y:Value}{i j:Int}{Q:Bool->Shared->Prop}(hx:Hd s.heap x i)(hy:Hd s.heap y j)(ne:i≠j)(h:Q (decide (i<j)) s):wpAny (model prog w) A (keyLt' (tuples' true) x y) Q E s:=by
 obtain⟨a,o,xs,n,t,rfl,h1,_,h3,h4⟩:=hx;obtain⟨b,o',ys,m,u,rfl,g1,_,g3,g4⟩:=hy
 obtain⟨x0,xr,ex⟩:∃x0 xr,xs.toList=x0::xr:=by
  cases e:xs.toList with
  | nil=>rw[<-Array.getElem?_toList,e]at h4;simp at h4
  | cons p q=>exact⟨p,q,rfl⟩
 obtain⟨y0,yr,ey⟩:∃y0 yr,ys.toList=y0::yr:=by
  cases e:ys.toList with
  | nil=>rw[<-Array.getElem?_toList,e]at g4;simp at g4
  | cons p q=>exact⟨p,q,rfl⟩
 have e0:x0=.int i t:=by rw[<-Array.getElem?_toList,ex]at h4;exact G0 h4
 have f0:y0=.int j u:=by rw[<-Array.getElem?_toList,ey]at g4;exact G0 g4
 subst e0 f0;refine kat_lt h1 h3 g1 g3 ?_;rw[ex,ey,List.zip_cons_cons];refine kat_cons (SeqAt.EqAt.int_int i t j u prog w _ _ ?_);have hb:(i == j)=false:=B0n.mpr ne;rw[hb];refine kat_no ?_;exact oneLt_int h
theorem xx{i:Int}{t:Tok}{M:Model}{h:Heap}:Looks M h (typeOf (.int i t)) (.type "int"):=Looks.of_pure rfl
def Ord(zs:ZL)(p:ZS):Prop:=Pm zs.length p/\Kn (fun i=>zs.getD i 0) p zs.length
theorem W3{h₀:Heap}{L:Addr}{m:ZV}{news:ZY}{l:Addr}{vs:ZM}{zs:ZL}{Q:ZW}(F:Fr h₀ L s.heap m)(N:News h₀ L s.heap news)(hl:s.heap.IsList l vs.toArray)
  (hh:∀h',Fr h₀ L h' m->News h₀ L h' news->Hds h' vs zs) (nd:zs.Nodup) (h2:2<=vs.length) (h64:vs.length<64)
  (fin:∀D h' p c,Ord zs p->Fr h₀ L h' m->News h₀ L h' ((D,listOf (List.toArray (p.toList.map fun i=>vs.getD i Value.none)) c)::news)->(∀q∈news,q.1<D)->Q (.ref D) { s with heap:=h' }) :
  wpAny (model prog w) A (call (.builtin "sorted") [.ref l]) Q E s:=by
 refine kat_sorted F N hl h2 h64 fun D e1 h' F' N' lt=>?_;have N1:News h₀ L h' news:=fun p hp=>N' p (Y7 _ hp);have hd:=hh h' F' N1;obtain⟨fs,k1,k2,k3⟩:=hd.tups;refine kat_kind (s:={ s with heap:=h' }) (T:=.type "int") k1 (by omega) (fun v m=>?_) rfl ?_
 .obtain⟨i,t,rfl⟩:=k3 v m;exact xx
 .have e:(Value.type "int" != Value.type "tuple")=true:=by decide
  rw[e];have el:vs.length=zs.length:=hd.1;rw[el];refine sv (z:=fun i=>zs.getD i 0) (fun i j hi hj e=>?_) (fun i j hi hj Wf C hC=>?_) (by omega) fun p pm up=>?_
  .simp only[List.getD_eq_getElem?_getD,Ui hi,Ui hj,Option.getD_some]at e;rcases Nat.lt_trichotomy i j with q | q | q
   .exact absurd e (List.pairwise_iff_getElem.mp nd i j _ _ q)
   .exact q
   .exact absurd e.symm (List.pairwise_iff_getElem.mp nd j i _ _ q)
  .unfold kas_ask;refine bc (s:={ s with heap:=h' }) (hd.2 i (by omega)) (hd.2 j (by omega)) (fun e=>Wf ?_) hC;simp only[List.getD_eq_getElem?_getD,Ui hi,Ui hj,Option.getD_some]at e;rcases Nat.lt_trichotomy i j with q | q | q
   .exact absurd e (List.pairwise_iff_getElem.mp nd i j _ _ q)
   .exact q
   .exact absurd e.symm (List.pairwise_iff_getElem.mp nd j i _ _ q)
  .refine KasFin.intro F' N' (g:=fun o=>(D,o)::news) ?_ fun h2 c F2 N2=>fin D h2 p c ⟨pm,up⟩ F2 N2 lt;exact .head fun p hp=>N0 (lt p hp)
theorem Xt{Ok:Heap->Prop}{vs:ZM}(hz:vs.length<2):Srt prog w Ok vs fun o=>o=vs:=by
 intro A E s D Q _ Gc h;refine wpAny_call_entry slot_list_sort ⟨_,Gc,rfl⟩ entry_list_sort ?_ (args_list_sort _);have ha:D<s.heap.objs.size:=Vb Gc;have sl:=sizeLine_eq;rw[list_sort_plain];refine Zv (listItems_at Gc rfl (Zv (listUpdate_at Gc rfl ?_ (by rw[Vi];omega) (Ju _))));obtain⟨e1,nu⟩:∃e1,(s.heap.update D (Obj.mapSeq fun _=>#[])).get? D=some (seqObj "list" #[] e1):=⟨_,get?_update_seq Gc (fun _=>#[])⟩;refine Zv (seqEpoch_at nu rfl (Zv (wpAny_newTuple (Zv (wpAny_newList (wpAny_holding ?_) (Ju _))) (by show vs.length<=_;omega))))
 have ho6:(((s.heap.update D (Obj.mapSeq fun _=>#[])).push (seqObj "tuple" vs.toArray 0)).push (seqObj "list" #[] 0)).get? D=some (seqObj "list" #[] e1) :=
  Y9 _ (Y9 _ nu)
 show wpAny _ _ _ _ _ { s with heap:=((s.heap.update D (Obj.mapSeq fun _=>#[])).push (seqObj "tuple" vs.toArray 0)).push (seqObj "list" #[] 0) };dsimp only;have h2:vs.toArray.size<2:=by rw[Vi];exact hz
 rw[if_pos h2,if_pos h2];refine Zv (Yt ?_);rw[StateT.run_pure];refine Zv (Yt ?_);dsimp only;refine Zv (seqEpoch_at ho6 rfl (Zv (listUpdate_at ho6 rfl ?_ (Ju _) (by rw[Array.size_map];show (pairsOf vs).size<=_;rw[pairsOf_size];omega))));simp only[bne_self_eq_false,B0f,if_false];refine Yt ⟨_,rfl, ?_⟩;obtain⟨n,e⟩:=sortedHeap_at (h:=s.heap) (a:=D) (vs:=vs) (n:=0) (out:=(pairsOf vs).map fun x:Keyed=>x.2) Gc;refine h (sortedHeap s.heap D vs ((pairsOf vs).map fun x:Keyed=>x.2)) ((pairsOf vs).map fun x:Keyed=>x.2) n (fun b ob nb e0=>SetM.Vm nb e0) e ?_;rw[Array.toList_map];unfold pairsOf;rw[Array.toList_zip];exact List.map_snd_zip (Yg _)
end
section
variable{X:Cx}
theorem M9{zs:ZQ}{vs:ZM}(r:Zw zs vs){i:Nat}(hi:i<vs.length):RelV (zs.getD i .non) (vs.getD i .none):=by
 have hl:=r.length;obtain⟨v,h1,h2⟩:=Zw.get r (Ui (show i<zs.length by omega));rw[List.getD_eq_getElem?_getD,List.getD_eq_getElem?_getD,h1,Ui (show i<zs.length by omega)];exact h2
theorem Ra{zs:ZQ}{vs:ZM}(r:Zw zs vs):∀(p:List Nat),(∀i∈p,i<vs.length)->Zw (p.map fun i=>zs.getD i .non) (p.map fun i=>vs.getD i .none)
 | [],_=>.nil
 | i::p,h=>.cons (M9 r (h i Y5)) (Ra r p fun j m=>h j (Y7 _ m))
theorem Fj:Yk X (.builtin "sorted") (fun xs H Q=>∃(a:Addr) (zs:ZQ) (hs:ZL),xs=[.ref a]/\Vc X.K H a zs/\zs.length=hs.length/\(∀i,i<zs.length->∃b ws,zs.getD i .non=.ref b/\Yu X.K H b (.int (hs.getD i 0)::ws))/\hs.Nodup/\2<=zs.length/\zs.length<64 /\
  ∀(l:Addr) (p:ZS),H l=none->Ord hs p->Q (.ref l) (upd H l (.lst (p.toList.map fun i=>zs.getD i .non)))):=by
 intro XB s Z H xs us Q I r h;obtain⟨a,zs,hs,rfl,hq,hl,hd,nd,h2,h64,q⟩:=h;obtain⟨u,rfl,rx⟩:=vals1 r;cases rx;obtain⟨XD,rv,pl,z⟩:=I.list hq;obtain⟨m,hn,fr,nw⟩:=I.frame;have il:=rv.length;refine W3 (zs:=hs) fr nw pl.isList (fun h' F' N'=>⟨by omega,fun i hi=>?_⟩) nd (by omega) (by omega) fun D h' p c op F' N' lt=>?_
 .obtain⟨b,ws,e1,sq⟩:=hd i (by omega);have rr:=M9 rv hi;rw[e1]at rr;have rr:XD.getD i .none=.ref b:=rr;obtain⟨jts,jr,⟨o,g1,g2,n,g3⟩,_⟩:=I.tuple sq;cases jr with | cons j1 j2 =>
  obtain⟨t,rfl⟩:=(show ∃t,_=Value.int _ t from j1);refine⟨b,o,_,n,t,rr,Ll F' N' (fun p hp=>hp) b o (fun e=>?_) g1,g2,g3,by simp⟩;obtain⟨o',es,ep,k1,k2,_⟩:=hn;rw[<-e,g1]at k1;cases k1;rw[g3]at k2;cases k2
 .have ka:=Ll F' N' fun p hp=>Y7 _ hp;have nD:=Inv.newAt (X:=X) (m:=m) N' lt;obtain⟨eD,nDL,_⟩:=N' _ Y5
  have pl':∀i∈p.toList,i<XD.length:=fun i mi=>by
   have:=List.mem_range.mp (op.1.mem_iff.mp mi);omega
  have ln:(p.toList.map fun i=>zs.getD i .non).length<=sizeLine:=by
   rw[Yn,op.1.length_eq,XJ];have:=sizeLine_eq;omega
  obtain⟨J,fD⟩:=I.lay2 (h':=h') (D:=D) (u:=.lst (p.toList.map fun i=>zs.getD i .non)) (t':=s.toks) hn F'.ns (fun b o nb eb=>ka b o nb eb) nD ⟨ln,_,c,Ra rv _ pl',by simpa using eD⟩;exact⟨.ref D,_,J,rfl,q D p fD op⟩
theorem S7{H:Hp}{zs:ZQ}(h:zs.length<2):qy X H zs zs:=by
 refine⟨rfl,fun XB Z s I vs r=>⟨fun _=>True,fun _ _=>trivial, ?_⟩⟩;have:=Xt (prog:=X.prog) (w:=X.w) (Ok:=fun _=>True) (vs:=vs) (by rw[<-r.length];exact h);intro A E s D Q o e q;exact this A E s D Q o e fun h1 out n k e1 r1=>q h1 out n k e1 (by rw[r1];exact r)
end
end SRT
namespace SRT
open PySem PySem.Spec PyProof.Rows L2
section
variable{Z:Type}
noncomputable def xj(x:Int×Z):List (Int×Z)->List (Int×Z)
 | []=>[x]
 | y::r=>if x.1<=y.1 then x::y::r else y::xj x r
def Tg:List (Int×Z)->List (Int×Z)
 | []=>[]
 | x::r=>xj x (Tg r)
theorem Nm(x:Int×Z):∀r:List (Int×Z),(xj x r).Perm (x::r)
 | []=>.refl _
 | y::r=>by
  unfold xj
  split
  .exact .refl _
  .exact((Nm x r).cons y).trans (.swap x y r)
theorem Gu:∀r:List (Int×Z),(Tg r).Perm r
 | []=>.refl _
 | x::r=>(Nm x _).trans ((Gu r).cons x)
theorem Pd(x:Int×Z):∀r:List (Int×Z),r.Pairwise (fun a b=>a.1<=b.1)->(xj x r).Pairwise (fun a b=>a.1<=b.1)
 | [],_=>List.pairwise_singleton _ _
 | y::r,h=>by
  rw[ZE]at h;unfold xj
  split
  .rename_i hx
   rw[ZE,ZE];exact⟨fun z m=>by rcases Yw.mp m with rfl | m;exact hx;exact Int.le_trans hx (h.1 z m),h.1,h.2⟩
  .rename_i hx
   rw[ZE];refine⟨fun z m=>?_,Pd x r h.2⟩;rcases Yw.mp ((Nm x r).mem_iff.mp m) with rfl | m
   .omega
   .exact h.1 z m
theorem Qr:∀r:List (Int×Z),(Tg r).Pairwise (fun a b=>a.1<=b.1)
 | []=>List.Pairwise.nil
 | x::r=>Pd x _ (Qr r)
theorem Tv{a b:Int×Z}:∀{l:List (Int×Z)},l.Pairwise (fun a b=>a.1<b.1)->a∈l->b∈l->a.1=b.1->a=b
 | [],_,h,_,_=>absurd h Vk
 | x::l,p,h,h',e=>by
  rw[ZE]at p;rcases Yw.mp h with e1 | m1
  .rcases Yw.mp h' with e2 | m2
   .rw[e1,e2]
   .have:=p.1 b m2;rw[<-e1]at this;omega
  .rcases Yw.mp h' with e2 | m2
   .have:=p.1 a m1;rw[<-e2]at this;omega
   .exact Tv p.2 m1 m2 e
theorem r8{a b:List (Int×Z)}(h:a.Perm b)(s:a.Pairwise (fun a b=>a.1<b.1)):a=Tg b :=
 List.Perm.eq_of_pairwise (fun x y mx my h1 h2=>Tv s mx (h.symm.mem_iff.mp ((Gu b).mem_iff.mp my)) (Int.le_antisymm h1 h2)) (s.imp fun h=>Int.le_of_lt h) (Qr b) (h.trans (Gu b).symm)
theorem Eb{Z:Type}(l:List Z)(d:Z):(List.range l.length).map (fun i=>l.getD i d)=l:=by
 apply List.ext_getElem?
 intro i;rw[Fu];by_cases h:i<l.length
 .rw[List.getElem?_range h,Ui h];simp[h]
 .rw[List.getElem?_eq_none (by simpa using h),List.getElem?_eq_none (by omega)]
  rfl
theorem fq{hs:ZL}{ts:List Z}{d:Z}{p:ZS}(hl:ts.length=hs.length)(o:Ord hs p):p.toList.map (fun i=>ts.getD i d)=(Tg (hs.zip ts)).map (·.2):=by
 have zl:(hs.zip ts).length=hs.length:=by rw[List.length_zip];omega
 have key:p.toList.map (fun i=>(hs.zip ts).getD i (0,d))=Tg (hs.zip ts):=by
  refine r8 ?_ ?_
  .have:=o.1.map fun i=>(hs.zip ts).getD i (0,d);rw[<-zl,Eb]at this;exact this
  .rw[List.pairwise_map,List.pairwise_iff_getElem];intro i j hi hj Wf;have hsz:=o.1.size;rw[qp]at hi hj;have up:=o.2 i j Wf (by omega);unfold ky at up;rw[lb hi,lb hj]at up;have li:=o.1.lt (k:=i) (by omega);have lj:=o.1.lt (k:=j) (by omega);rw[lb hi]at li;rw[lb hj]at lj;simp only[Option.getD_some]at up li lj
   have e:∀k,k<hs.length->((hs.zip ts).getD k (0,d)).1=hs.getD k 0:=fun k hk=>by
    rw[List.getD_eq_getElem?_getD,Ui (by omega),List.getD_eq_getElem?_getD,Ui hk];simp
   rw[Array.getElem_toList,Array.getElem_toList,e _ li,e _ lj];exact up
 rw[<-key,List.map_map];refine List.map_congr_left fun i m=>?_;have hi:=List.mem_range.mp (o.1.mem_iff.mp m);show _=((hs.zip ts).getD i (0,d)).2;rw[List.getD_eq_getElem?_getD,Ui (show i<ts.length by omega),List.getD_eq_getElem?_getD,Ui (show i<(hs.zip ts).length by omega)];simp
theorem vg{hs:ZL}{ts:List Z}{d:Z}(hl:ts.length=hs.length)(h:ts.length<2):(Tg (hs.zip ts)).map (·.2)=ts:=by
 match ts,hs,hl with
 | [],[],_=>rfl
 | [t],[i],_=>rfl
 | a::b::r,_,_=>exact absurd h (by simp)
end
end SRT
namespace L2
open PySem PySem.Spec PyProof.Rows
theorem bo{XM:List (Key×Value)}{acc:ZN}(h:ItemsOf (fun i v=>∃k,XM[i]?=some (k,v)) acc XM.length):acc.toList=XM.map (·.2):=by
 refine List.ext_getElem? fun i=>?_;by_cases hi:i<XM.length
 .have ha:i<acc.size:=by rw[h.1];exact hi
  obtain⟨k,e⟩:=h.2 i _ (lb ha);rw[Array.getElem?_toList,lb ha,Fu,e]
  rfl
 .rw[List.getElem?_eq_none (by rw[qp,h.1];omega),List.getElem?_eq_none (by rw[Yn];omega)]
def tVals(to:TE):TE:=fun Z H Q=>to Z H fun x H1=>∃(d:Addr) (XM:List (Key×V)),x=.ref d/\Rd H1 d (.dK XM)/\∀l:Addr,H1 l=none->Q (.ref l) (upd H1 l (.lst (XM.map (·.2))))
theorem iu:∀{XM:List (Key×V)} {ws:List (Key×Value)},KV XM ws->Zw (XM.map (·.2)) (ws.map (·.2)):=by
 intro XM ws h;unfold KV at h
 induction h with
 | nil=>exact .nil
 | cons r _ ih=>exact .cons r.2 ih
section
variable{X:Cx}{p p2 pos ap:Pos}{o:Expr}{to:TE}
theorem Q2(hc:X.calm=true)(hg:Gl X "list")(hm:X.mg "list" = none)(ho:PE X o to)(Gk:attributeBase o "values" X.env (eval o X.env)=eval o X.env)(Gy:(ap.endLine == p2.line)=true)
  (he:starEach [.Call (.Attribute o "values" ap) [] [] p2] X.env=[(false,eval (.Call (.Attribute o "values" ap) [] [] p2) X.env)]) :
  PE X (.Call (.Name "list" p) [.Call (.Attribute o "values" ap) [] [] p2] [] pos) (tVals to):=by
 intro XB s Z H Q I h;refine wpAny_Call_Name_kw (Du I hg hm (by decide +kernel:bootBuiltins "list" = some (.type "list")) ?_ (by decide) (by decide));refine callWith_type1 ?_ he rfl;rw[he]
 change wpAny _ _ (spliced ((false,eval (.Call (.Attribute o "values" ap) [] [] p2) X.env)::[])) _ _ s
 refine Calls.spliced_cons ?_;refine wpAny_Call_method0_late Gk Gy (Z3 (ho XB s Z H _ I h) fun v s1 ⟨x,H1,I1,r1,q1⟩=>?_);obtain⟨d,XM,rfl,hd,q⟩:=q1;cases r1;obtain⟨z,ni,ws,rel,dd⟩:=Jo I1.hok hd;obtain⟨ep,da⟩:=dd.dictAt;obtain⟨t1,t2,_⟩:=T8 I1 (.inl ⟨XM,hd⟩);refine⟨"dict","dict.values",PySem.F.plainAttrs_dict,PySem.F.slot_dict_values,PySem.F.type_dict_values,t1,t2,Calls.callWith_builtin rfl (PySem.evalArgs_none ?_)⟩;refine call_meetsIn PySem.F.slot_dict_values dd.typeIs PySem.F.entry_dict_values (PySem.F.args_dict_values_1 _) (meets_dict_values (Zm X.prog X.w) d ni) ⟨⟨ws,dd⟩, ?_⟩;refine Calls.spliced_nil ?_;have k0:∀b ob,s1.heap.get? b=some ob->(s1.heap.push { cls:=.type "dict_values",data:=.fields #[.ref d] }).get? b=some ob:=fun b ob e=>Y9 _ e;refine W.kdl_call (s:={ s1 with heap:=s1.heap.push { cls:=.type "dict_values",data:=.fields #[.ref d] } }) (@W.kdl_values X.prog X.w _ _ (Zm X.prog X.w) d s1.heap.objs.size ws ep) (I1.ok.hd hc) ⟨⟨_,Dj _ rfl,rfl,rfl⟩,da.push _⟩ (by rw[<-rel.length];exact z) fun h' tk acc c k1 Gc hacc=>?_;have rv:Zw (XM.map (·.2)) acc.toList:=by rw[bo hacc];exact iu rel
 dsimp only at Gc;rw[Heap.size_push]at Gc ⊢;exact⟨.ref (s1.heap.objs.size+1),_,I1.put (o:=.lst (XM.map (·.2))) (d':=s1.drawn) (fun b ob e=>k1 b ob (k0 b ob e)) (Nat.le_succ _) ⟨by rw[Yn];exact z,acc.toList,c,rv,by simpa using Gc⟩,rfl,q _ (I1.hok.fresh (Nat.le_succ _))⟩
end
end L2
namespace TNM
open PySem PySem.Calls PyProof.Rows SeqAt
inductive Nv:Value->Int->Prop
 | i(x:Int)(t:Tok):Nv (.int x t) x
 | b (k:Bool):Nv (.bool k) (if k=true then 1 else 0)
section
variable{prog:Program}{w:World}{A:Around}{E:ZW}{s:Shared}{Q:ZW}
theorem g_bb(a b:Bool):Gives (Builtin.«int.__lt__» ⟨[.bool a,.bool b],[]⟩) (.val (.bool (decide ((if a=true then (1:Int) else 0)<if b=true then 1 else 0)))):=by cases a<;>cases b<;>exact .of_eq rfl
theorem g_bi(a:Bool)(b:Int)(u:Tok):Gives (Builtin.«int.__lt__» ⟨[.bool a,.int b u],[]⟩) (.val (.bool (decide ((if a=true then (1:Int) else 0)<b)))):=by cases a<;>exact .of_eq rfl
theorem Zxe(a:Bool)(b:Int)(u:Tok):Gives (Builtin.«int.__gt__» ⟨[.bool a,.int b u],[]⟩) (.val (.bool (decide ((if a=true then (1:Int) else 0)>b)))):=by cases a<;>exact .of_eq rfl
theorem g_gbb(a b:Bool):Gives (Builtin.«int.__gt__» ⟨[.bool a,.bool b],[]⟩) (.val (.bool (decide ((if a=true then (1:Int) else 0)>if b=true then 1 else 0)))):=by cases a<;>cases b<;>exact .of_eq rfl
theorem lt_num{v u:Value}{x y:Int}(hv:Nv v x)(hu:Nv u y)(h:Q (.bool (decide (x<y))) s):wpAny (model prog w) A (richCompare .Lt v u) Q E s:=by
 cases hv with
 | i x t=>cases hu with
  | i y t'=>exact richCompare_gives (op:=.Lt) (typeIs_int s _ t) (typeIs_int s _ t') F.slot_int_lt F.entry_int_lt (F.args_int_lt_2 _ _) (gives_int_lt _ _ t t') (fun z=>nomatch z) h
  | b k=>exact rc_sub_first_or (typeIs_int s x t) rfl (by decide) F.sub_bool_int F.slot_bool_gt_refl (call_gives F.slot_bool_gt rfl F.entry_int_gt (F.args_int_gt_2 _ _) (Zxe k x t) ⟨nofun,h⟩) (.inl rfl)
 | b k=>cases hu with
  | i y t'=>exact rc_left_or rfl (typeIs_int s y t') (by decide) F.sub_int_bool F.slot_bool_lt (call_gives F.slot_bool_lt rfl F.entry_int_lt (F.args_int_lt_2 _ _) (g_bi k y t') ⟨nofun,h⟩) (.inl rfl)
  | b k'=>exact richCompare_gives (op:=.Lt) rfl rfl F.slot_bool_lt F.entry_int_lt (F.args_int_lt_2 _ _) (g_bb k k') (fun z=>nomatch z) h
theorem gt_num{v u:Value}{x y:Int}(hv:Nv v x)(hu:Nv u y)(h:Q (.bool (decide (x>y))) s):wpAny (model prog w) A (richCompare .Gt v u) Q E s:=by
 cases hv with
 | i x t=>cases hu with
  | i y t'=>exact richCompare_gives (op:=.Gt) (typeIs_int s _ t) (typeIs_int s _ t') F.slot_int_gt F.entry_int_gt (F.args_int_gt_2 _ _) (gives_int_gt _ _ t t') (fun z=>nomatch z) h
  | b k=>exact rc_sub_first_or (typeIs_int s x t) rfl (by decide) F.sub_bool_int F.slot_bool_lt_refl (call_gives F.slot_bool_lt rfl F.entry_int_lt (F.args_int_lt_2 _ _) (g_bi k x t) ⟨nofun,h⟩) (.inl rfl)
 | b k=>cases hu with
  | i y t'=>exact rc_left_or rfl (typeIs_int s y t') (by decide) F.sub_int_bool F.slot_bool_gt (call_gives F.slot_bool_gt rfl F.entry_int_gt (F.args_int_gt_2 _ _) (Zxe k y t') ⟨nofun,h⟩) (.inl rfl)
  | b k'=>exact richCompare_gives (op:=.Gt) rfl rfl F.slot_bool_gt F.entry_int_gt (F.args_int_gt_2 _ _) (g_gbb k k') (fun z=>nomatch z) h
theorem B1{a b v:Value}{x y:Int}(ha:Nv a x)(hb:Nv b y){i:Nat}(e:#[a,b][i]?=some v):Nv v (if i=0 then x else y):=by
 match i,e with
 | 0,e=>cases e;exact ha
 | 1,e=>cases e;exact hb
 | i+2,e=>rw[Array.getElem?_eq_none (by show 2<=i+2;omega)]at e;cases e
theorem min_two{a b:Value}{x y:Int}(ha:Nv a x)(hb:Nv b y)(hh:A.handled=none)(h:∀h' tk,(∀c o,s.heap.get? c=some o->h'.get? c=some o)->Q (if y<x then b else a) { s with heap:=h',toks:=tk }):wpAny (model prog w) A (call (.builtin "min") [a,b]) Q E s:=by
 have tp:(s.heap.push { cls:=.type "tuple",data:=.seq #[a,b] }).IsTuple s.heap.objs.size #[a,b]:=⟨_,Dj _ rfl,rfl,0,rfl⟩;have sz:(s.heap.push { cls:=.type "tuple",data:=.seq #[a,b] }).objs.size=s.heap.objs.size+1:=Heap.size_push _ _;refine call_min_two (wpAny_pyIter_tuple tp ⟨_,[_,s.heap.objs.size],[_],_,_,_,fun i j=>decide ((if i=0 then x else y)<if j=0 then x else y),rfl,Walks.tuple (A:=A.in1) hh _ s.heap.objs.size (by rw[sz];exact N0 (Nat.lt_succ_self _)) #[a,b],⟨⟨_,Dj _ rfl,rfl,rfl⟩,tp.push _⟩,fun c hc=>?_,Nat.zero_lt_succ _,fun i j vi vj s' Q' E' pi pj q=>lt_num (B1 ha hb pi) (B1 ha hb pj) q,fun v h' tk hP hk=>?_⟩)
 .show c<((s.heap.push _).push _).objs.size;rw[Heap.size_push,sz];rcases Yw.mp hc with rfl | hc
  .rw[sz];exact Nat.lt_succ_self _
  .cases M4.mp hc;exact Nat.lt_succ_of_lt (Nat.lt_succ_self _)
 .have old:∀c o,s.heap.get? c=some o->h'.get? c=some o:=fun c o e=>hk c o (fun z=>by
   have lt:=Vb e;rw[M4.mp z,sz]at lt;exact Nat.lt_irrefl _ (Nat.lt_of_succ_lt lt)) (Y9 _ (Y9 _ e))
  have ev:v=if y<x then b else a:=by
   have hP:#[a,b][if decide ((if 1=0 then x else y)<if 0=0 then x else y)=true then 1 else 0]?=some v:=hP;rw[if_neg (by decide:¬ (1:Nat)=0),if_pos (rfl:(0:Nat)=0)]at hP;by_cases g:y<x
   .rw[if_pos (Dw g)]at hP;rw[if_pos g];exact(G0 hP).symm
   .rw[if_neg (by rw[decide_eq_true_eq];exact g)]at hP;rw[if_neg g];exact(G0 hP).symm
  rw[ev];exact h h' tk old
theorem max_two{a b:Value}{x y:Int}(ha:Nv a x)(hb:Nv b y)(hh:A.handled=none)(h:∀h' tk,(∀c o,s.heap.get? c=some o->h'.get? c=some o)->Q (if y>x then b else a) { s with heap:=h',toks:=tk }):wpAny (model prog w) A (call (.builtin "max") [a,b]) Q E s:=by
 have tp:(s.heap.push { cls:=.type "tuple",data:=.seq #[a,b] }).IsTuple s.heap.objs.size #[a,b]:=⟨_,Dj _ rfl,rfl,0,rfl⟩;have sz:(s.heap.push { cls:=.type "tuple",data:=.seq #[a,b] }).objs.size=s.heap.objs.size+1:=Heap.size_push _ _;refine call_max_two (wpAny_pyIter_tuple tp ⟨_,[_,s.heap.objs.size],[_],_,_,_,fun i j=>decide ((if i=0 then x else y)>if j=0 then x else y),rfl,Walks.tuple (A:=A.in1) hh _ s.heap.objs.size (by rw[sz];exact N0 (Nat.lt_succ_self _)) #[a,b],⟨⟨_,Dj _ rfl,rfl,rfl⟩,tp.push _⟩,fun c hc=>?_,Nat.zero_lt_succ _,fun i j vi vj s' Q' E' pi pj q=>gt_num (B1 ha hb pi) (B1 ha hb pj) q,fun v h' tk hP hk=>?_⟩)
 .show c<((s.heap.push _).push _).objs.size;rw[Heap.size_push,sz];rcases Yw.mp hc with rfl | hc
  .rw[sz];exact Nat.lt_succ_self _
  .cases M4.mp hc;exact Nat.lt_succ_of_lt (Nat.lt_succ_self _)
 .have old:∀c o,s.heap.get? c=some o->h'.get? c=some o:=fun c o e=>hk c o (fun z=>by
   have lt:=Vb e;rw[M4.mp z,sz]at lt;exact Nat.lt_irrefl _ (Nat.lt_of_succ_lt lt)) (Y9 _ (Y9 _ e))
  have ev:v=if y>x then b else a:=by
   have hP:#[a,b][if decide ((if 1=0 then x else y)>if 0=0 then x else y)=true then 1 else 0]?=some v:=hP;rw[if_neg (by decide:¬ (1:Nat)=0),if_pos (rfl:(0:Nat)=0)]at hP;by_cases g:y>x
   .rw[if_pos (Dw g)]at hP;rw[if_pos g];exact(G0 hP).symm
   .rw[if_neg (by rw[decide_eq_true_eq];exact g)]at hP;rw[if_neg g];exact(G0 hP).symm
  rw[ev];exact h h' tk old
theorem add_bi{b:Bool}{a:Int}{t:Tok}(h:Q (.int ((if b=true then (1:Int) else 0)+a) s.toks) { s with toks:=s.toks+1 }):wpAny (model prog w) A (binaryOp .Add (.bool b) (.int a t)) Q E s :=
 binaryOp_left_gives (op:=.Add) (T:="bool") (U:="int") (by decide) rfl (fun s'=>typeIs_int s' a t) F.fills_bool_add F.fills_int_add F.sub_int_bool F.slot_bool_add F.slot_int_radd F.entry_int_add (F.args_int_add_2 _ _) (m:=.int ((if b=true then (1:Int) else 0)+a)) (by cases b<;>exact .of_eq rfl) trivial h
end
end TNM
namespace TNM
open PySem PySem.Spec PyProof.Rows L2
section
variable{X:Cx}
def NV:V->Int->Prop
 | .int i,x=>x=i
 | .bl b,x=>x=if b=true then 1 else 0
 | _,_=>False
theorem NV.nv{x:V}{v:Value}{i:Int}(h:NV x i)(r:RelV x v):Nv v i:=by
 cases x with
 | int k=>obtain⟨t,rfl⟩:=r;cases h;exact .i _ t
 | bl b=>cases r;cases h;exact .b b
 | _=>exact h.elim
inductive wm(R:Int->Int->Bool)(xs:ZQ)(H:Hp)(Q:VK):Prop
 | mk(x y:V)(i j:Int)(h0:xs=[x,y])(h1:NV x i)(h2:NV y j)(h3:Q (if R j i=true then y else x) H):wm R xs H Q
theorem Kx(hc:X.calm=true):Yk X (.builtin "min") (wm fun a b=>decide (a<b)):=by
 intro XB s Z H xs us Q I r h;obtain⟨x,y,i,j,rfl,hx,hy,q⟩:=h;obtain⟨v,u,rfl,rv,ru⟩:=vals2 r;refine min_two (hx.nv rv) (hy.nv ru) (I.ok.hd hc) fun h' tk k=>⟨_,H,I.kept k, ?_,q⟩;by_cases g:j<i
 .rw[if_pos g,if_pos (Dw g)];exact ru
 .rw[if_neg g,if_neg (by rw[decide_eq_true_eq];exact g)];exact rv
theorem Kq(hc:X.calm=true):Yk X (.builtin "max") (wm fun a b=>decide (a>b)):=by
 intro XB s Z H xs us Q I r h;obtain⟨x,y,i,j,rfl,hx,hy,q⟩:=h;obtain⟨v,u,rfl,rv,ru⟩:=vals2 r;refine max_two (hx.nv rv) (hy.nv ru) (I.ok.hd hc) fun h' tk k=>⟨_,H,I.kept k, ?_,q⟩;by_cases g:j>i
 .rw[if_pos g,if_pos (Dw g)];exact ru
 .rw[if_neg g,if_neg (by rw[decide_eq_true_eq];exact g)];exact rv
inductive O6(x:V)(y:V)(H:Hp)(Q:VK):Prop
 | mk(b i)(h0:x=.bl b)(h1:y=.int i)(h2:Q (.int ((if b=true then 1 else 0)+i)) H):O6 x y H Q
theorem zm:Uo X (binaryOp .Add) (fun x y H Q=>O6 x y H Q):=by
 intro XB s Z H x y v u Q I rx ry h;obtain⟨b,i,rfl,rfl,q⟩:=h;cases rx;obtain⟨t,rfl⟩:=ry;exact add_bi ⟨.int _,H,I.tok _,⟨_,rfl⟩,q⟩
end
end TNM
namespace PV
open PySem PySem.Spec PyProof.Rows L2
inductive T where
 | non | bl(b:Bool) | int(i:Int) | str(x:Str) | tup(ts:List T) | lst(ts:List T) | dct(XM:List (Key×T)) | fn(x:Str)
abbrev ZZ:=List T
abbrev ZX:=List (Key×T)
inductive Sl where | no | f(t:T) | o(t:T)
abbrev P:=List Sl
set_option genInjectivity true in
inductive A where | t(t:T) | s(i:Nat)
inductive Op where | add | sub | mul | fdiv | mod | pow
inductive Cm where | eq | ne | lt | le | gt | ge | isin | notin | is | isnt
inductive Kd where | int | bool | str | tuple | list | dict
inductive Pr where
 | op(o:Op) | cm(c:Cm) | c2(c d:Cm) | neg | ix | sl(lo hi:Bool) | rev
 | len | all | any | list | tuple | sorted | sset | lset | min | max | int | repr | dict | sum | abs | str | isi (n:Kd) | get1 | get2 | join (x:Str) | lvals | tup1 | dnew
inductive Mt where | append | extend | pop | popAt | insert
inductive Ik where | rng | zip
inductive E where
 | v(i:Nat) | mv(i:Nat) | io(i:Nat) | k(t:T) | g(x:Str)
 | nil | cons (a r:E)
 | tup (es:E) | lst (es:E) | pr (p:Pr) (es:E)
 | and (a b:E) | or (a b:E) | not (a:E) | ite (c a b:E)
 | call (f:Str) (es:E) | cal (i:Nat) (es:E) | mt (m:Mt) (i:Nat) (es:E)
 | comp (tg it c el:E) (fr:ZG) (ns:ZD) | itr (k:Ik) (es:E) | tmp (a:E)
inductive S where
 | nil | seq(a r:S) | ret(a:E) | ex(a:E) | set(i:Nat)(a:E) | unp(tg a:E) | put(i:Nat)(k a:E)
 | ite (c:E) (a b:S) | loop (tg it:E) (b:S) | wh (c:E) (b:S) | pass | brk | cont
inductive Fl where | nx | rt(r:Sl) | bk | ct
noncomputable def D0(ts:ZZ)(lo hi:ZR):ZZ:=(ts.drop (HT.Yl ts.length 0 lo)).take (HT.Yl ts.length ts.length hi - HT.Yl ts.length 0 lo)
noncomputable def Zr(XM:ZX)(k:Key):Option T:=(XM.find? fun p=>decide (p.1=k)).map (·.2)
noncomputable def Ya(XM:ZX)(k:Key)(v:T):ZX :=
 if (XM.any fun p=>decide (p.1=k))=true then XM.map fun p=>if p.1=k then (p.1,v) else p else XM++[(k,v)]
noncomputable def keyT:T->Option Key
 | .int i=>some (.inl i)
 | .str x=>some (.inr x)
 | _=>none
noncomputable def G3:Key->T
 | .inl i=>.int i
 | .inr x=>.str x
mutual
noncomputable def toD:T->Option D
 | .non=>some .non
 | .bl b=>some (.bl b)
 | .int i=>some (.int i)
 | .str x=>some (.str x)
 | .tup ts=>(V8 ts).map .tup
 | .lst ts=>(V8 ts).map .lst
 | .dct _=>none
 | .fn _=>none
noncomputable def V8:ZZ->Option (List D)
 | []=>some []
 | t::r=>(toD t).bind fun d=>(V8 r).map (d::·)
end
noncomputable def eqT:T->T->Option Bool
 | .str a,.str b=>some (decide (a=b))
 | .int a,.int b=>some (decide (a=b))
 | a,b=>(toD a).bind fun x=>(toD b).bind fun y=>if Uv x<=100 then some (Yp x y) else none
noncomputable def ib:T->T->Option Bool
 | .int a,.int b=>some (decide (a<b))
 | .str a,.str b=>some (decide (a.cps.toList<b.cps.toList))
 | _,_=>none
noncomputable def geT:T->T->Option Bool
 | .int a,.int b=>some (decide (b<=a))
 | _,_=>none
def Iw:T->Bool
 | .non=>true
 | .bl _=>true
 | .int _=>true
 | .str _=>true
 | _=>false
noncomputable def J0(a:T):ZZ->Option Bool
 | []=>some false
 | t::r=>(eqT t a).bind fun b=>(J0 a r).map (b || ·)
noncomputable def Uw:ZZ->Option (ZL)
 | []=>some []
 | .int i::r=>(Uw r).map (i::·)
 | _::_=>none
noncomputable def Ue:ZZ->Option (ZD)
 | []=>some []
 | .str i::r=>(Ue r).map (i::·)
 | _::_=>none
def Ax:Key->PyData
 | .inl i=>.int i
 | .inr x=>.str x
mutual
noncomputable def toPy:T->Option PyData
 | .non=>some .none
 | .bl b=>some (.bool b)
 | .int i=>some (.int i)
 | .str x=>some (.str x)
 | .tup ts=>(Uz ts).map .tuple
 | .lst ts=>(Uz ts).map .list
 | .dct XM=>(Dv XM).map .dict
 | .fn _=>none
noncomputable def Uz:ZZ->Option (List PyData)
 | []=>some []
 | t::r=>(toPy t).bind fun d=>(Uz r).map (d::·)
noncomputable def Dv:ZX->Option (List (PyData×PyData))
 | []=>some []
 | (k,t)::r=>(toPy t).bind fun d=>(Dv r).map ((Ax k,d)::·)
end
noncomputable def ub(t:T):Option Str:=(toPy t).bind fun d=>if d.showable=true/\d.shown.length<=sizeLine/\d.depth<=100 then some d.shown else none
noncomputable def mh:T->ZD->Option Bool
 | .str x,ss=>some (ss.any fun y=>decide (y=x))
 | .fn _,_=>none
 | _,_=>some false
noncomputable def nr(a:T):T->Option Bool
 | .lst ts=>match Ue ts with
  | some ss=>mh a ss
  | none=>(toD a).bind fun _=>J0 a ts
 | .tup ts=>match Ue ts with
  | some ss=>mh a ss
  | none=>if Iw a=true/\ts.all Iw=true then J0 a ts else none
 | .dct XM=>(keyT a).map fun k=>(Zr XM k).isSome
 | .str y=>match a with
  | .str x=>some (!(Builtin.Str.occurrences y x 0 y.length 1).isEmpty)
  | _=>none
 | _=>none
noncomputable def isT:T->T->Option Bool
 | .non,.non=>some true
 | .bl a,.bl b=>some (a == b)
 | _,.non=>some false
 | _,_=>none
noncomputable def eqC:T->T->Option Bool
 | .tup ts,.tup []=>some ts.isEmpty
 | a,b=>eqT a b
noncomputable def Ov:Cm->T->T->Option Bool
 | .eq,a,b=>eqC a b
 | .ne,a,b=>(eqC a b).map not
 | .lt,a,b=>ib a b
 | .gt,a,b=>ib b a
 | .le,a,b=>(ib b a).map not
 | .ge,a,b=>geT a b
 | .isin,a,b=>nr a b
 | .notin,a,b=>(nr a b).map not
 | .is,a,b=>isT a b
 | .isnt,a,b=>(isT a b).map not
noncomputable def mr(f:Int->Int->Option Sl)(t t':T):Option Sl:=match t with
 | .int a=>(match t' with
  | .int b=>f a b
  | _=>none)
 | _=>none
noncomputable def addT(t t':T):Option Sl:=match t with
 | .int a=>(match t' with
  | .int b=>some (.f (.int (a+b)))
  | _=>none)
 | .str a=>(match t' with
  | .str b=>if a.length+b.length<=sizeLine then some (.f (.str (a++b))) else none
  | _=>none)
 | .lst a=>(match t' with
  | .lst b=>if a.length+b.length<=sizeLine then some (.o (.lst (a++b))) else none
  | _=>none)
 | .tup a=>(match t' with
  | .tup b=>if a.length+b.length<=sizeLine then some (.f (.tup (a++b))) else none
  | _=>none)
 | .bl a=>(match t' with
  | .int b=>some (.f (.int ((if a=true then 1 else 0)+b)))
  | _=>none)
 | _=>none
noncomputable def mulT(t t':T):Option Sl:=match t with
 | .int a=>(match t' with
  | .int b=>if (-(2 ^ 64)<a/\a<2 ^ 64)\/(-(2 ^ 64)<b/\b<2 ^ 64) then some (.f (.int (a * b))) else none
  | _=>none)
 | .str a=>(match t' with
  | .int n=>if 0<=n/\n<=1000/\a.length<=1000 then some (.f (.str (repS a n.toNat))) else none
  | _=>none)
 | .lst a=>(match t' with
  | .int n=>if -(2 ^ 63)<=n/\n<2 ^ 63/\a.length * n.toNat<=sizeLine then some (.o (.lst (List.replicate n.toNat a).flatten)) else none
  | _=>none)
 | _=>none
noncomputable def opT(o:Op)(t t':T):Option Sl:=match o with
 | .add=>addT t t'
 | .sub=>mr (fun a b=>some (.f (.int (a - b)))) t t'
 | .mul=>mulT t t'
 | .fdiv=>mr (fun a b=>if 0<b/\b<1073741824 then some (.f (.int (a / b))) else none) t t'
 | .mod=>mr (fun a b=>if 0<b then some (.f (.int (a % b))) else none) t t'
 | .pow=>mr (fun a b=>if 0<=b/\b<=1000000/\a.natAbs<2 ^ 64 then some (.f (.int (a ^ b.toNat))) else none) t t'
noncomputable def z6:T->T->Option T
 | .tup ts,.int i=>Ci ts i
 | .lst ts,.int i=>Ci ts i
 | .str z,.int i=>if z.length<=sizeLine then (Ci z.cps.toList i).map fun c=>.str ⟨#[c]⟩ else none
 | .dct XM,k=>(keyT k).bind (Zr XM)
 | _,_=>none
noncomputable def slT:T->ZR->ZR->Option Sl
 | .tup ts,lo,hi=>some (.f (.tup (D0 ts lo hi)))
 | .lst ts,lo,hi=>some (.o (.lst (D0 ts lo hi)))
 | .str z,lo,hi=>if z.length<=sizeLine then some (.f (.str (Txt.slice z lo hi))) else none
 | _,_,_=>none
noncomputable def lenT:T->ZH
 | .tup ts=>some ts.length
 | .lst ts=>some ts.length
 | .dct ts=>some ts.length
 | .str z=>if z.length<=sizeLine then some z.length else none
 | _=>none
noncomputable def isiT:Kd->T->Option Bool
 | .int,.int _=>some true
 | .int,.bl _=>some true
 | .bool,.bl _=>some true
 | .str,.str _=>some true
 | .tuple,.tup _=>some true
 | .list,.lst _=>some true
 | .dict,.dct _=>some true
 | _,.fn _=>none
 | _,_=>some false
def intT:T->ZR
 | .int i=>some i
 | _=>none
def ctn:T->Bool
 | .lst _=>true
 | .dct _=>true
 | _=>false
noncomputable def Ds:ZZ->Option (ZX)
 | []=>some []
 | .tup [a,b]::r=>(keyT a).bind fun k=>(Ds r).map ((k,b)::·)
 | _::_=>none
noncomputable def W2(ts:ZZ):Option (ZZ) :=
 if ts.length<64 then match Uw ts with
  | some zs=>some ((SRT.S8 zs).map .int)
  | none=>(Ue ts).map fun ss=>(SRT.G4 ss).map .str
 else none
noncomputable def Nd:ZZ->Option (ZL)
 | []=>some []
 | .tup (.int i::_)::r=>(Nd r).map (i::·)
 | _::_=>none
noncomputable def Xl(ts:ZZ):Option (ZZ):=match Nd ts with
 | some hs=>if hs.Nodup/\ts.length<64 then some ((SRT.Tg (hs.zip ts)).map (·.2)) else none
 | none=>W2 ts
noncomputable def scal:T->Bool
 | .tup _=>false
 | .lst _=>false
 | .dct _=>false
 | _=>true
noncomputable def R8:ZZ->Option (List (Int×Int))
 | []=>some []
 | .tup (.int i::.int j::_)::r=>(R8 r).map ((i,j)::·)
 | _::_=>none
noncomputable def Yb(a b:Int×Int):Bool:=if a.1=b.1 then decide (a.2<b.2) else decide (a.1<b.1)
noncomputable def ij(ts:ZZ):Option T:=(R8 ts).bind fun hs=>if hs.Nodup then ((hs.zip ts).find? fun p=>hs.all fun q=>!Yb q p.1).map (·.2) else none
noncomputable def maxL:ZL->ZR
 | []=>none
 | z::r=>some (r.foldl (fun a b=>if a<b then b else a) z)
noncomputable def minL:ZL->ZR
 | []=>none
 | z::r=>some (r.foldl (fun a b=>if b<a then b else a) z)
theorem iw{zs:ZL}{m:Int}(h:maxL zs=some m):m∈zs/\∀a∈zs,a<=m:=by
 cases zs with
 | nil=>cases h
 | cons z r =>
  cases h
  induction r generalizing z with
  | nil=>exact⟨Y5,fun a m=>by rw[M4.mp m];exact Int.le_refl _⟩
  | cons y r ih =>
   obtain⟨h1,h2⟩:=ih (if z<y then y else z);have e:(if z<y then y else z)=z\/(if z<y then y else z)=y:=by split<;>simp
   have g:=h2 _ Y5;refine⟨?_,fun a m=>?_⟩
   .rw[List.foldl_cons];rcases Yw.mp h1 with h | h
    .rw[h];rcases e with e | e<;>rw[e]<;>simp
    .exact Y7 _ (Y7 _ h)
   .rw[List.foldl_cons];rcases Yw.mp m with rfl | m
    .split at g<;>(split<;>omega)
    .rcases Yw.mp m with rfl | m
     .split at g<;>(split<;>omega)
     .exact h2 a (Y7 _ m)
theorem Ah{zs:ZL}{m:Int}(h:minL zs=some m):m∈zs/\∀a∈zs,m<=a:=by
 cases zs with
 | nil=>cases h
 | cons z r =>
  cases h
  induction r generalizing z with
  | nil=>exact⟨Y5,fun a m=>by rw[M4.mp m];exact Int.le_refl _⟩
  | cons y r ih =>
   obtain⟨h1,h2⟩:=ih (if y<z then y else z);have e:(if y<z then y else z)=z\/(if y<z then y else z)=y:=by split<;>simp
   have g:=h2 _ Y5;refine⟨?_,fun a m=>?_⟩
   .rw[List.foldl_cons];rcases Yw.mp h1 with h | h
    .rw[h];rcases e with e | e<;>rw[e]<;>simp
    .exact Y7 _ (Y7 _ h)
   .rw[List.foldl_cons];rcases Yw.mp m with rfl | m
    .split at g<;>(split<;>omega)
    .rcases Yw.mp m with rfl | m
     .split at g<;>(split<;>omega)
     .exact h2 a (Y7 _ m)
noncomputable def zt(ts:ZZ):Option Sl:=match Uw ts with
 | some zs=>(minL zs).map fun m=>.f (.int m)
 | none=>(ij ts).map .f
def pOp(o:Op):ZZ->Option Sl
 | [a,b]=>opT o a b
 | _=>none
noncomputable def pCm(c:Cm):ZZ->Option Sl
 | [a,b]=>(Ov c a b).map fun r=>.f (.bl r)
 | _=>none
noncomputable def pC2(c:Cm)(d:Cm):ZZ->Option Sl
 | [a,b,e]=>(Ov c a b).bind fun r=>if r=true then (Ov d b e).map fun r=>.f (.bl r) else some (.f (.bl false))
 | _=>none
noncomputable def pNeg:ZZ->Option Sl
 | [.int i]=>some (.f (.int (-i)))
 | _=>none
noncomputable def pIx:ZZ->Option Sl
 | [a,b]=>(z6 a b).map .f
 | _=>none
noncomputable def pSl10:ZZ->Option Sl
 | [a,l]=>(intT l).bind fun i=>slT a (some i) none
 | _=>none
def pSl01:ZZ->Option Sl
 | [a,h]=>(intT h).bind fun j=>slT a none (some j)
 | _=>none
noncomputable def pLen:ZZ->Option Sl
 | [a]=>(lenT a).map fun n=>.f (.int n)
 | _=>none
noncomputable def Zxl:ZZ->Option Sl
 | [.tup ts]=>some (.o (.lst ts))
 | _=>none
noncomputable def Af:ZZ->Option Sl
 | [.lst ts]=>(Xl ts).map fun us=>.o (.lst us)
 | [.dct XM]=>(W2 (XM.map fun p=>G3 p.1)).map fun us=>.o (.lst us)
 | _=>none
noncomputable def g0:ZZ->Option Sl
 | [.lst ts]=>some (.f (.tup ts))
 | _=>none
noncomputable def pMin:ZZ->Option Sl
 | [.int a,.int b]=>some (.f (.int (if b<a then b else a)))
 | [.int a,.bl b]=>some (.f (if decide ((if b=true then 1 else 0)<a)=true then .bl b else .int a))
 | [.lst ts]=>zt ts
 | _=>none
noncomputable def pMax:ZZ->Option Sl
 | [.int a,.int b]=>some (.f (.int (if b>a then b else a)))
 | [.int a,.bl b]=>some (.f (if decide ((if b=true then 1 else 0)>a)=true then .bl b else .int a))
 | [.lst ts]=>(Uw ts).bind fun zs=>(maxL zs).map fun m=>.f (.int m)
 | _=>none
noncomputable def pInt:ZZ->Option Sl
 | [.bl b]=>some (.f (.int (if b then 1 else 0)))
 | [.str z]=>if z.length<=640 then (PySem.intText? z).map fun n=>.f (.int n) else none
 | _=>none
noncomputable def pAbs:ZZ->Option Sl
 | [.int i]=>some (.f (.int (if i<0 then -i else i)))
 | _=>none
noncomputable def pIsi(n:Kd):ZZ->Option Sl
 | [a]=>(isiT n a).map fun r=>.f (.bl r)
 | _=>none
noncomputable def Zxr:ZZ->Option Sl
 | [.dct XM]=>some (.o (.dct XM))
 | [.lst ts]=>(Ds ts).map fun XM=>.o (.dct (XM.foldl (fun acc kv=>Ya acc kv.1 kv.2) []))
 | _=>none
def Zxn:ZZ->Option Sl
 | [a]=>(ub a).map fun z=>.f (.str z)
 | _=>none
noncomputable def pStr:ZZ->Option Sl
 | [.int i]=>if i.natAbs.log2<1920 then some (.f (.str (toString i))) else none
 | _=>none
noncomputable def pSum:ZZ->Option Sl
 | [.lst ts]=>(Uw ts).map fun zs=>.f (.int zs.sum)
 | _=>none
noncomputable def pDnew:ZZ->Option Sl
 | []=>some (.o (.dct []))
 | _=>none
noncomputable def pGet1:ZZ->Option Sl
 | [.dct XM,k]=>(keyT k).map fun k=>.f ((Zr XM k).getD .non)
 | _=>none
noncomputable def pGet2:ZZ->Option Sl
 | [.dct XM,k,x]=>if ctn x=true then none else (keyT k).map fun k=>.f ((Zr XM k).getD x)
 | _=>none
noncomputable def pJoin(x:Str):ZZ->Option Sl
 | [.lst ts]=>(Ue ts).bind fun ss=>if (ss.map (·.length)).sum+ss.length * x.length<=16777216 then some (.f (.str (Txt.join x ss))) else none
 | _=>none
noncomputable def pLvals:ZZ->Option Sl
 | [.dct XM]=>some (.o (.lst (XM.map (·.2))))
 | _=>none
def pTup1:ZZ->Option Sl
 | [t]=>if scal t=true then some (.f (.tup [t])) else none
 | _=>none
noncomputable def Sz:Pr->ZZ->Option Sl
 | .op o=>pOp o
 | .cm c=>pCm c
 | .c2 c d=>pC2 c d
 | .neg=>pNeg
 | .ix=>pIx
 | .sl true false=>pSl10
 | .sl false true=>pSl01
 | .len=>pLen
 | .list=>Zxl
 | .sorted=>Af
 | .tuple=>g0
 | .min=>pMin
 | .max=>pMax
 | .int=>pInt
 | .abs=>pAbs
 | .isi n=>pIsi n
 | .dict=>Zxr
 | .repr=>Zxn
 | .str=>pStr
 | .sum=>pSum
 | .dnew=>pDnew
 | .get1=>pGet1
 | .get2=>pGet2
 | .join x=>pJoin x
 | .lvals=>pLvals
 | .tup1=>pTup1
 | _=>fun _=>none
noncomputable def look(p:P)(a:A):Option T :=
 match a with
 | .t t=>some t
 | .s i=>match p[i]? with
  | some (.f t)=>some t
  | some (.o t)=>some t
  | _=>none
noncomputable def looks(p:P):List A->Option (ZZ)
 | []=>some []
 | a::r=>(look p a).bind fun t=>(looks p r).map (t::·)
noncomputable def frs:Sl->Sl
 | .o t=>.f t
 | s=>s
noncomputable def frz(p:P):P:=p.map frs
noncomputable def args(p:P):List A->Option (List Sl)
 | []=>some []
 | .t t::r=>(args p r).map (.f t::·)
 | .s i::r=>match p[i]? with
  | some (.o t)=>(args (p.set i .no) r).map (.o t::·)
  | _=>none
def mkO:T->Sl
 | .fn _=>.no
 | t=>.o t
theorem mkO_f{t u:T}:mkO t≠.f u:=by cases t<;>exact fun z=>nomatch z
noncomputable def outs(p:P):List A->ZZ->Option P
 | [],[]=>some p
 | .t _::r,ts=>outs p r ts
 | .s i::r,t::ts=>outs (p.set i (mkO t)) r ts
 | _,_=>none
noncomputable def C3:List Sl->ZZ->List Sl
 | .o _::r,t::ts=>mkO t::C3 r ts
 | s::r,ts=>s::C3 r ts
 | [],_=>[]
noncomputable def qr(fr:ZG)(p:P):P:=fr.map fun o=>match o with
 | some j=>(p[j]?).getD .no
 | none=>.no
noncomputable def back:ZG->P->P->P
 | some j::fr,s::q,p=>back fr q (p.set j s)
 | none::fr,_::q,p=>back fr q p
 | _,_,p=>p
mutual
noncomputable def asg:E->T->P->Option P
 | .v i,t,p=>some (p.set i (.f t))
 | .tup es,.tup ts,p=>Kb es ts p
 | _,_,_=>none
noncomputable def Kb:E->ZZ->P->Option P
 | .nil,[],p=>some p
 | .cons a r,t::ts,p=>(asg a t p).bind fun q=>Kb r ts q
 | _,_,_=>none
end
def thaw:Sl->Option T
 | .f t=>some t
 | .o t=>some t
 | .no=>none
noncomputable def N4:T->Option (ZZ)
 | .tup ts=>some ts
 | .lst ts=>some ts
 | .dct XM=>some (XM.map fun p=>G3 p.1)
 | .str z=>if z.length<=sizeLine then some (z.cps.toList.map fun c=>.str ⟨#[c]⟩) else none
 | _=>none
noncomputable def Dt(body:T->P->Option (Option T×P)):ZZ->ZZ->P->Option (ZZ×P)
 | [],acc,p=>some (acc,p)
 | x::r,acc,p=>(body x p).bind fun q=>match q.1 with
  | some y=>Dt body r (acc++[y]) q.2
  | none=>Dt body r acc q.2
noncomputable def iq:Mt->T->ZZ->Option (T×T)
 | .append,.lst ts,[x]=>if ts.length<sizeLine then some (.lst (ts++[x]),.non) else none
 | .popAt,.lst ts,[.int i]=>(Sv ts.length i).bind fun j=>(ts[j]?).map fun x=>(.lst (ts.eraseIdx j),x)
 | _,_,_=>none
abbrev Cs:=Str->List Sl->Option (Sl×ZZ)
structure W where
 C:Cs
 gl:Str->Option T
noncomputable def read(p:P)(i:Nat):Option (T×P):=match p[i]? with
 | some (.f t)=>some (t,p)
 | some (.o t)=>some (t,p.set i (.f t))
 | _=>none
noncomputable def done(p:P)(i:Nat):Bool:=match p[i]? with
 | some (.f _)=>true
 | some (.o _)=>true
 | _=>false
noncomputable def zq(p:P)(i:Nat):Bool:=match p[i]? with
 | some (.o (.lst _))=>true
 | _=>false
noncomputable def rngT:T->Option (ZZ)
 | .int n=>if -1000000<=n/\n<=1000000 then some ((List.range n.toNat).map fun k=>.int (k:Nat)) else none
 | _=>none
noncomputable def C9(a b:ZZ):ZZ:=(a.zip b).map fun p=>.tup [p.1,p.2]
noncomputable def itT:Ik->ZZ->Option (ZZ)
 | .rng,[t]=>rngT t
 | .zip,[.lst a,.lst b]=>some (C9 a b)
 | .zip,[.tup a,.tup b]=>some (C9 a b)
 | _,_=>none
section
variable(w:W)
def isNil:E->Bool
 | .nil=>true
 | _=>false
noncomputable def J3(o:Option (Sl×P)):Option (Bool×P):=o.bind fun q=>match q.1 with
 | .f (.bl b)=>some (b,q.2)
 | _=>none
noncomputable def toT(o:Option (Sl×P)):Option (T×P):=o.bind fun q=>(thaw q.1).map fun t=>(t,q.2)
noncomputable def toF(o:Option (Sl×P)):Option (T×P):=o.bind fun q=>match q.1 with
 | .f t=>some (t,q.2)
 | _=>none
noncomputable def nq(o:Option (Sl×P)):Option (ZZ×P):=(toT o).bind fun q=>(N4 q.1).map fun ts=>(ts,q.2)
noncomputable def Pn(m:Bool)(a:E)(p:P)(x:Option (T×P)):Option (A×P):=match a with
 | .io i=>if done p i=true then some (.s i,p) else none
 | .v i=>if m=true then (if done p i=true then some (.s i,p) else none) else (read p i).map fun q=>(.t q.1,q.2)
 | _=>x.map fun q=>(.t q.1,q.2)
mutual
noncomputable def ev:E->P->Option (Sl×P)
 | .v i,p=>(read p i).map fun q=>(.f q.1,q.2)
 | .mv i,p=>match p[i]? with
  | some (.o t)=>some (.o t,p.set i .no)
  | some (.f t)=>some (.f t,p)
  | _=>none
 | .k t,p=>some (.f t,p)
 | .g x,p=>(w.gl x).map fun t=>(.f t,p)
 | .tup es,p=>(Jd false es p).bind fun q=>(looks q.2 q.1).bind fun ts=>if ts.length<=sizeLine then some (.f (.tup ts),q.2) else none
 | .lst es,p=>(Jd false es p).bind fun q=>(looks q.2 q.1).bind fun ts=>if ts.length<=sizeLine then some (.o (.lst ts),q.2) else none
 | .pr r es,p=>(Jd true es p).bind fun q=>(looks q.2 q.1).bind fun ts=>(Sz r ts).map fun s=>(s,q.2)
 | .and a b,p=>(J3 (ev a p)).bind fun q=>if q.1=true then ev b q.2 else some (.f (.bl false),q.2)
 | .or a b,p=>(J3 (ev a p)).bind fun q=>if q.1=true then some (.f (.bl true),q.2) else ev b q.2
 | .not a,p=>(J3 (ev a p)).map fun q=>(.f (.bl (!q.1)),q.2)
 | .ite c a b,p=>(J3 (ev c p)).bind fun q=>if q.1=true then ev a q.2 else ev b q.2
 | .call f es,p=>(Jd false es p).bind fun q=>(args q.2 q.1).bind fun as=>(w.C f as).bind fun r=>(outs q.2 q.1 r.2).map fun p'=>(r.1,p')
 | .cal i es,p=>match p[i]? with
  | some (.f (.fn f))=>(Jd false es p).bind fun q=>(args q.2 q.1).bind fun as=>(w.C f as).bind fun r=>(outs q.2 q.1 r.2).map fun p'=>(r.1,p')
  | _=>none
 | .mt m i es,p=>if zq p i=true then (Jd false es p).bind fun q=>(looks q.2 q.1).bind fun ts=>match q.2[i]? with
   | some (.o t)=>(iq m t ts).map fun r=>(.f r.2,q.2.set i (.o r.1))
   | _=>none
  else none
 | .comp tg it c el fr _,p=>(nq (ev it p)).bind fun q=>(Dt (fun x s=>(asg tg x s).bind fun s1=>(if isNil c=true then some (true,s1) else J3 (ev c s1)).bind fun b=>if b.1=true then (toT (ev el b.2)).map fun r=>(some r.1,r.2) else some (none,b.2)) q.1 [] (qr fr q.2)).map fun r=>(.o (.lst r.1),back fr r.2 q.2)
 | .itr k es,p=>(Jd false es p).bind fun q=>(looks q.2 q.1).bind fun ts=>(itT k ts).map fun xs=>(.f (.lst xs),q.2)
 | .tmp a,p=>(toF (ev a (frz p))).bind fun q=>if scal q.1=true then some (.f q.1,p) else none
 | _,_=>none
noncomputable def Jd:Bool->E->P->Option (List A×P)
 | _,.nil,p=>some ([],p)
 | m,.cons a r,p=>(Pn m a p (toT (ev a p))).bind fun q=>(Jd m r q.2).map fun s=>(q.1::s.1,s.2)
 | _,_,_=>none
end
end
theorem ev_vQ{w:W}{p:P}:∀i,ev w (.v i) p=((read p i).map fun q=>(.f q.1,q.2)):=fun _=>rfl
theorem ev_mvQ{w:W}{p:P}:∀i,ev w (.mv i) p=(match p[i]? with
  | some (.o t)=>some (.o t,p.set i .no)
  | some (.f t)=>some (.f t,p)
  | _=>none):=fun _=>rfl
theorem ev_gQ{w:W}{p:P}:∀x,ev w (.g x) p=((w.gl x).map fun t=>(.f t,p)):=fun _=>rfl
theorem Zzd{w:W}{p:P}:∀es,ev w (.tup es) p=((Jd w false es p).bind fun q=>(looks q.2 q.1).bind fun ts=>if ts.length<=sizeLine then some (.f (.tup ts),q.2) else none):=fun _=>rfl
theorem Zzc{w:W}{p:P}:∀es,ev w (.lst es) p=((Jd w false es p).bind fun q=>(looks q.2 q.1).bind fun ts=>if ts.length<=sizeLine then some (.o (.lst ts),q.2) else none):=fun _=>rfl
theorem ev_prQ{w:W}{p:P}:∀r es,ev w (.pr r es) p=((Jd w true es p).bind fun q=>(looks q.2 q.1).bind fun ts=>(Sz r ts).map fun s=>(s,q.2)):=fun _ _=>rfl
theorem Ig{w:W}{p:P}:∀a b,ev w (.and a b) p=((J3 (ev w a p)).bind fun q=>if q.1=true then ev w b q.2 else some (.f (.bl false),q.2)):=fun _ _=>rfl
theorem dn{w:W}{p:P}:∀a b,ev w (.or a b) p=((J3 (ev w a p)).bind fun q=>if q.1=true then some (.f (.bl true),q.2) else ev w b q.2):=fun _ _=>rfl
theorem Iy{w:W}{p:P}:∀a,ev w (.not a) p=((J3 (ev w a p)).map fun q=>(.f (.bl (!q.1)),q.2)):=fun _=>rfl
theorem Zzl{w:W}{p:P}:∀c a b,ev w (.ite c a b) p=((J3 (ev w c p)).bind fun q=>if q.1=true then ev w a q.2 else ev w b q.2):=fun _ _ _=>rfl
theorem du{w:W}{p:P}:∀f es,ev w (.call f es) p=((Jd w false es p).bind fun q=>(args q.2 q.1).bind fun as=>(w.C f as).bind fun r=>(outs q.2 q.1 r.2).map fun p'=>(r.1,p')):=fun _ _=>rfl
theorem Zzr{w:W}{p:P}:∀i es,ev w (.cal i es) p=(match p[i]? with
  | some (.f (.fn f))=>(Jd w false es p).bind fun q=>(args q.2 q.1).bind fun as=>(w.C f as).bind fun r=>(outs q.2 q.1 r.2).map fun p'=>(r.1,p')
  | _=>none):=fun _ _=>rfl
theorem ev_mtQ{w:W}{p:P}:∀m i es,ev w (.mt m i es) p=(if zq p i=true then (Jd w false es p).bind fun q=>(looks q.2 q.1).bind fun ts=>match q.2[i]? with
   | some (.o t)=>(iq m t ts).map fun r=>(.f r.2,q.2.set i (.o r.1))
   | _=>none
  else none):=fun _ _ _=>rfl
theorem dh{w:W}{p:P}:∀tg it c el fr zz,ev w (.comp tg it c el fr zz) p=((nq (ev w it p)).bind fun q=>(Dt (fun x s=>(asg tg x s).bind fun s1=>(if isNil c=true then some (true,s1) else J3 (ev w c s1)).bind fun b=>if b.1=true then (toT (ev w el b.2)).map fun r=>(some r.1,r.2) else some (none,b.2)) q.1 [] (qr fr q.2)).map fun r=>(.o (.lst r.1),back fr r.2 q.2)):=fun _ _ _ _ _ _=>rfl
theorem Zzn{w:W}{p:P}:∀k es,ev w (.itr k es) p=((Jd w false es p).bind fun q=>(looks q.2 q.1).bind fun ts=>(itT k ts).map fun xs=>(.f (.lst xs),q.2)):=fun _ _=>rfl
theorem Zzt{w:W}{p:P}:∀a,ev w (.tmp a) p=((toF (ev w a (frz p))).bind fun q=>if scal q.1=true then some (.f q.1,p) else none):=fun _=>rfl
noncomputable def Bq(body:T->P->Option (Fl×P)):ZZ->P->Option (Fl×P)
 | [],p=>some (.nx,p)
 | x::r,p=>(body x p).bind fun q=>match q.1 with
  | .nx=>Bq body r q.2
  | .ct=>Bq body r q.2
  | .bk=>some (.nx,q.2)
  | .rt t=>some (.rt t,q.2)
noncomputable def Bx(test:P->Option (Bool×P))(body:P->Option (Fl×P)):Nat->P->Option (Fl×P)
 | 0,_=>none
 | n+1,p=>(test p).bind fun b=>if b.1=true then (body b.2).bind fun q=>match q.1 with
   | .nx=>Bx test body n q.2
   | .ct=>Bx test body n q.2
   | .bk=>some (.nx,q.2)
   | .rt t=>some (.rt t,q.2)
  else some (.nx,b.2)
noncomputable def V0(pt:Nat->Bool):E->Bool
 | .v i=>!pt i
 | .tup es=>V0 pt es
 | .nil=>true
 | .cons a r=>V0 pt a && V0 pt r
 | _=>false
noncomputable def putAt:T->T->T->Option T
 | .lst ts,.int i,t=>(Sv ts.length i).map fun j=>.lst (ts.set j t)
 | .dct XM,k,t=>(keyT k).bind fun k=>if XM.length<sizeLine then some (.dct (Ya XM k t)) else none
 | _,_,_=>none
section
variable(w:W)(pt:Nat->Bool)
noncomputable def ex:S->P->Option (Fl×P)
 | .nil,p=>some (.nx,p)
 | .seq a r,p=>(ex a p).bind fun q=>match q.1 with
  | .nx=>ex r q.2
  | .rt t=>some (.rt t,q.2)
  | .bk=>some (.bk,q.2)
  | .ct=>some (.ct,q.2)
 | .ret a,p=>(ev w a p).map fun q=>(.rt q.1,q.2)
 | .ex a,p=>(ev w a p).map fun q=>(.nx,q.2)
 | .set i a,p=>if pt i=true then none else (ev w a p).map fun q=>(.nx,q.2.set i q.1)
 | .unp tg a,p=>if V0 pt tg=true then (toT (ev w a p)).bind fun q=>(asg tg q.1 q.2).map fun p'=>(.nx,p') else none
 | .put i k a,p=>(toT (ev w a p)).bind fun q=>if done q.2 i=true then (toT (ev w k q.2)).bind fun r=>match r.2[i]? with
   | some (.o t)=>(putAt t r.1 q.1).map fun t'=>(.nx,r.2.set i (.o t'))
   | _=>none
  else none
 | .ite c a b,p=>(J3 (ev w c p)).bind fun q=>if q.1=true then ex a q.2 else ex b q.2
 | .loop tg it b,p=>if V0 pt tg=true then (nq (ev w it p)).bind fun q=>Bq (fun x s=>(asg tg x s).bind fun s1=>ex b s1) q.1 q.2 else none
 | .wh c b,p=>Bx (fun s=>J3 (ev w c s)) (fun s=>ex b s) 1000000 p
 | .pass,p=>some (.nx,p)
 | .brk,p=>some (.bk,p)
 | .cont,p=>some (.ct,p)
end
theorem Zzg{w:W}{pt:Nat->Bool}{p:P}:∀a r,ex w pt (.seq a r) p=((ex w pt a p).bind fun q=>match q.1 with
  | .nx=>ex w pt r q.2
  | .rt t=>some (.rt t,q.2)
  | .bk=>some (.bk,q.2)
  | .ct=>some (.ct,q.2)):=fun _ _=>rfl
theorem Zzf{w:W}{pt:Nat->Bool}{p:P}:∀a,ex w pt (.ret a) p=((ev w a p).map fun q=>(.rt q.1,q.2)):=fun _=>rfl
theorem ex_exQ{w:W}{pt:Nat->Bool}{p:P}:∀a,ex w pt (.ex a) p=((ev w a p).map fun q=>(.nx,q.2)):=fun _=>rfl
theorem Zzk{w:W}{pt:Nat->Bool}{p:P}:∀i a,ex w pt (.set i a) p=(if pt i=true then none else (ev w a p).map fun q=>(.nx,q.2.set i q.1)):=fun _ _=>rfl
theorem Zzy{w:W}{pt:Nat->Bool}{p:P}:∀tg a,ex w pt (.unp tg a) p=(if V0 pt tg=true then (toT (ev w a p)).bind fun q=>(asg tg q.1 q.2).map fun p'=>(.nx,p') else none):=fun _ _=>rfl
theorem Zzb{w:W}{pt:Nat->Bool}{p:P}:∀i k a,ex w pt (.put i k a) p=((toT (ev w a p)).bind fun q=>if done q.2 i=true then (toT (ev w k q.2)).bind fun r=>match r.2[i]? with
   | some (.o t)=>(putAt t r.1 q.1).map fun t'=>(.nx,r.2.set i (.o t'))
   | _=>none
  else none):=fun _ _ _=>rfl
theorem Zzm{w:W}{pt:Nat->Bool}{p:P}:∀c a b,ex w pt (.ite c a b) p=((J3 (ev w c p)).bind fun q=>if q.1=true then ex w pt a q.2 else ex w pt b q.2):=fun _ _ _=>rfl
theorem dc{w:W}{pt:Nat->Bool}{p:P}:∀tg it b,ex w pt (.loop tg it b) p=(if V0 pt tg=true then (nq (ev w it p)).bind fun q=>Bq (fun x s=>(asg tg x s).bind fun s1=>ex w pt b s1) q.1 q.2 else none):=fun _ _ _=>rfl
theorem ex_whQ{w:W}{pt:Nat->Bool}{p:P}:∀c b,ex w pt (.wh c b) p=(Bx (fun s=>J3 (ev w c s)) (fun s=>ex w pt b s) 1000000 p):=fun _ _=>rfl
def on{Z:Type}(o:Option Z)(Q:Z->Prop):Prop:=match o with
 | some a=>Q a
 | none=>False
theorem Yv{Z:Type}{o:Option Z}{a:Z}{Q:Z->Prop}(e:o=some a)(h:Q a):on o Q:=by rw[e];exact h
theorem Yy{Z:Type}{o:Option Z}{Q:Z->Prop}(h:on o Q):∃a,o=some a/\Q a:=by
 cases o with
 | none=>exact h.elim
 | some a=>exact⟨a,rfl,h⟩
noncomputable def qm(r:Sl)(Q:Bool->Prop):Prop:=match r with
 | .f (.bl b)=>Q b
 | _=>False
def Sq(r:Sl)(Q:T->Prop):Prop:=match r with
 | .f t=>Q t
 | .o t=>Q t
 | .no=>False
def onF(r:Sl)(Q:T->Prop):Prop:=match r with
 | .f t=>Q t
 | _=>False
theorem onF_ex{r:Sl}{p:P}{Q:T->Prop}{o:Option (Sl×P)}(e:o=some (r,p))(h:onF r Q):∃t,toF o=some (t,p)/\Q t:=by
 subst e;cases r with
 | f t=>exact⟨t,rfl,h⟩
 | _=>exact h.elim
theorem Dp{r:Sl}{p:P}{Q:Bool->Prop}{o:Option (Sl×P)}(e:o=some (r,p))(h:qm r Q):∃b,J3 o=some (b,p)/\Q b:=by
 subst e;unfold qm at h
 split at h
 .exact⟨_,rfl,h⟩
 .exact h.elim
theorem Dh{r:Sl}{p:P}{Q:T->Prop}{o:Option (Sl×P)}(e:o=some (r,p))(h:Sq r Q):∃t,toT o=some (t,p)/\Q t:=by
 subst e;cases r with
 | no=>exact h.elim
 | f t=>exact⟨t,rfl,h⟩
 | o t=>exact⟨t,rfl,h⟩
theorem ff{r:Sl}{p:P}{Q:ZZ->Prop}{o:Option (Sl×P)}(e:o=some (r,p))(h:Sq r fun t=>on (N4 t) Q):∃ts,nq o=some (ts,p)/\Q ts:=by
 obtain⟨t,e1,h1⟩:=Dh e h;obtain⟨ts,e2,h2⟩:=Yy h1;exact⟨ts,by unfold nq;rw[e1];show (N4 t).map _=_;rw[e2];rfl,h2⟩
def Ja(body:T->P->(Option T->P->Prop)->Prop):ZZ->ZZ->P->(ZZ->P->Prop)->Prop
 | [],acc,p,Q=>Q acc p
 | x::r,acc,p,Q=>body x p fun o p'=>match o with
  | some y=>Ja body r (acc++[y]) p' Q
  | none=>Ja body r acc p' Q
section
variable(w:W)
mutual
noncomputable def wE:E->P->(Sl->P->Prop)->Prop
 | .v i,p,Q=>on (read p i) fun q=>Q (.f q.1) q.2
 | .mv i,p,Q=>match p[i]? with
  | some (.o t)=>Q (.o t) (p.set i .no)
  | some (.f t)=>Q (.f t) p
  | _=>False
 | .k t,p,Q=>Q (.f t) p
 | .g x,p,Q=>on (w.gl x) fun t=>Q (.f t) p
 | .tup es,p,Q=>wR false es p fun as p1=>on (looks p1 as) fun ts=>if ts.length<=sizeLine then Q (.f (.tup ts)) p1 else False
 | .lst es,p,Q=>wR false es p fun as p1=>on (looks p1 as) fun ts=>if ts.length<=sizeLine then Q (.o (.lst ts)) p1 else False
 | .pr r es,p,Q=>wR true es p fun as p1=>on (looks p1 as) fun ts=>on (Sz r ts) fun s=>Q s p1
 | .and a b,p,Q=>wE a p fun r p1=>qm r fun c=>if c=true then wE b p1 Q else Q (.f (.bl false)) p1
 | .or a b,p,Q=>wE a p fun r p1=>qm r fun c=>if c=true then Q (.f (.bl true)) p1 else wE b p1 Q
 | .not a,p,Q=>wE a p fun r p1=>qm r fun c=>Q (.f (.bl (!c))) p1
 | .ite c a b,p,Q=>wE c p fun r p1=>qm r fun c=>if c=true then wE a p1 Q else wE b p1 Q
 | .call f es,p,Q=>wR false es p fun as p1=>on (args p1 as) fun sl=>on (w.C f sl) fun r=>on (outs p1 as r.2) fun p2=>Q r.1 p2
 | .cal i es,p,Q=>match p[i]? with
  | some (.f (.fn f))=>wR false es p fun as p1=>on (args p1 as) fun sl=>on (w.C f sl) fun r=>on (outs p1 as r.2) fun p2=>Q r.1 p2
  | _=>False
 | .mt m i es,p,Q=>if zq p i=true then wR false es p fun as p1=>on (looks p1 as) fun ts=>match p1[i]? with
   | some (.o t)=>on (iq m t ts) fun r=>Q (.f r.2) (p1.set i (.o r.1))
   | _=>False
  else False
 | .comp tg it c el fr _,p,Q=>wE it p fun r p1=>Sq r fun t=>on (N4 t) fun xs=>Ja (fun x s K=>on (asg tg x s) fun s1=>if isNil c=true then wE el s1 fun r s2=>Sq r fun y=>K (some y) s2
   else wE c s1 fun r s2=>qm r fun b=>if b=true then wE el s2 fun r s3=>Sq r fun y=>K (some y) s3 else K none s2) xs [] (qr fr p1) fun ys s=>Q (.o (.lst ys)) (back fr s p1)
 | .itr k es,p,Q=>wR false es p fun as p1=>on (looks p1 as) fun ts=>on (itT k ts) fun xs=>Q (.f (.lst xs)) p1
 | .tmp a,p,Q=>wE a (frz p) fun r _=>onF r fun t=>if scal t=true then Q (.f t) p else False
 | _,_,_=>False
noncomputable def wR:Bool->E->P->(List A->P->Prop)->Prop
 | _,.nil,p,Q=>Q [] p
 | m,.cons a r,p,Q=>match a with
  | .io i=>if done p i=true then wR m r p fun as p1=>Q (.s i::as) p1 else False
  | .v i=>if m=true then (if done p i=true then wR m r p fun as p1=>Q (.s i::as) p1 else False) else on (read p i) fun q=>wR m r q.2 fun as p1=>Q (.t q.1::as) p1
  | _=>wE a p fun s p1=>Sq s fun t=>wR m r p1 fun as p2=>Q (.t t::as) p2
 | _,_,_,_=>False
end
theorem wE_mvQ{w:W}{p:P}{Q:Sl->P->Prop}:∀i,wE w (.mv i) p Q=(match p[i]? with
  | some (.o t)=>Q (.o t) (p.set i .no)
  | some (.f t)=>Q (.f t) p
  | _=>False):=fun _=>rfl
theorem lu{w:W}{p:P}{Q:Sl->P->Prop}:∀i es,wE w (.cal i es) p Q=(match p[i]? with
  | some (.f (.fn f))=>wR w false es p fun as p1=>on (args p1 as) fun sl=>on (w.C f sl) fun r=>on (outs p1 as r.2) fun p2=>Q r.1 p2
  | _=>False):=fun _ _=>rfl
theorem wE_mtQ{w:W}{p:P}{Q:Sl->P->Prop}:∀m i es,wE w (.mt m i es) p Q=(if zq p i=true then wR w false es p fun as p1=>on (looks p1 as) fun ts=>match p1[i]? with
   | some (.o t)=>on (iq m t ts) fun r=>Q (.f r.2) (p1.set i (.o r.1))
   | _=>False
  else False):=fun _ _ _=>rfl
theorem jn{w:W}{p:P}{Q:Sl->P->Prop}:∀tg it c el fr zz,wE w (.comp tg it c el fr zz) p Q=(wE w it p fun r p1=>Sq r fun t=>on (N4 t) fun xs=>Ja (fun x s K=>on (asg tg x s) fun s1=>if isNil c=true then wE w el s1 fun r s2=>Sq r fun y=>K (some y) s2
   else wE w c s1 fun r s2=>qm r fun b=>if b=true then wE w el s2 fun r s3=>Sq r fun y=>K (some y) s3 else K none s2) xs [] (qr fr p1) fun ys s=>Q (.o (.lst ys)) (back fr s p1)):=fun _ _ _ _ _ _=>rfl
theorem jd{w:W}{p:P}{Q:List A->P->Prop}:∀m a r,wR w m (.cons a r) p Q=(match a with
  | .io i=>if done p i=true then wR w m r p fun as p1=>Q (.s i::as) p1 else False
  | .v i=>if m=true then (if done p i=true then wR w m r p fun as p1=>Q (.s i::as) p1 else False) else on (read p i) fun q=>wR w m r q.2 fun as p1=>Q (.t q.1::as) p1
  | _=>wE w a p fun s p1=>Sq s fun t=>wR w m r p1 fun as p2=>Q (.t t::as) p2):=fun _ _ _=>rfl
structure En where
 nx:P->Prop
 rt:Sl->P->Prop
 bk:P->Prop:=fun _=>False
 ct:P->Prop:=fun _=>False
def Rz(body:T->P->En->Prop):ZZ->P->En->Prop
 | [],p,D=>D.nx p
 | x::r,p,D=>body x p ⟨fun q=>Rz body r q D,D.rt,D.nx,fun q=>Rz body r q D⟩
def wWh(test:P->(Bool->P->Prop)->Prop)(body:P->En->Prop):Nat->P->En->Prop
 | 0,_,_=>False
 | n+1,p,D=>test p fun b p1=>if b=true then body p1 ⟨fun q=>wWh test body n q D,D.rt,D.nx,fun q=>wWh test body n q D⟩ else D.nx p1
variable(pt:Nat->Bool)
def wS:S->P->En->Prop
 | .nil,p,D=>D.nx p
 | .seq a r,p,D=>wS a p ⟨fun q=>wS r q D,D.rt,D.bk,D.ct⟩
 | .ret a,p,D=>wE w a p D.rt
 | .ex a,p,D=>wE w a p fun _ q=>D.nx q
 | .set i a,p,D=>if pt i=true then False else wE w a p fun r q=>D.nx (q.set i r)
 | .unp tg a,p,D=>if V0 pt tg=true then wE w a p fun r q=>Sq r fun t=>on (asg tg t q) D.nx else False
 | .put i k a,p,D=>wE w a p fun r p1=>Sq r fun t=>if done p1 i=true then wE w k p1 fun r p2=>Sq r fun k=>match p2[i]? with
   | some (.o x)=>on (putAt x k t) fun x'=>D.nx (p2.set i (.o x'))
   | _=>False
  else False
 | .ite c a b,p,D=>wE w c p fun r q=>qm r fun b'=>if b'=true then wS a q D else wS b q D
 | .loop tg it b,p,D=>if V0 pt tg=true then wE w it p fun r q=>Sq r fun t=>on (N4 t) fun xs=>Rz (fun x s D=>on (asg tg x s) fun s1=>wS b s1 D) xs q D else False
 | .wh c b,p,D=>wWh (fun s K=>wE w c s fun r q=>qm r fun b=>K b q) (fun s D=>wS b s D) 1000000 p D
 | .pass,p,D=>D.nx p
 | .brk,p,D=>D.bk p
 | .cont,p,D=>D.ct p
end
theorem Tj{body:T->P->(Option T->P->Prop)->Prop}{b':T->P->Option (Option T×P)}(hb:∀x p K,body x p K->∃o p',b' x p=some (o,p')/\K o p'):∀(xs acc:ZZ) (p:P) (Q:ZZ->P->Prop),Ja body xs acc p Q->∃ys p',Dt b' xs acc p=some (ys,p')/\Q ys p'
 | [],acc,p,Q,h=>⟨acc,p,rfl,h⟩
 | x::r,acc,p,Q,h=>by
  obtain⟨o,p',e,h'⟩:=hb x p _ h;unfold Dt;rw[e];cases o with
  | some y=>exact Tj hb r _ p' Q h'
  | none=>exact Tj hb r _ p' Q h'
section
variable(w:W)
theorem wER_ev(e:E):(∀(p:P) (Q:Sl->P->Prop),wE w e p Q->∃r p',ev w e p=some (r,p')/\Q r p')/\∀(m:Bool) (p:P) (Q:List A->P->Prop),wR w m e p Q->∃as p',Jd w m e p=some (as,p')/\Q as p':=by
 induction e with
 | v i  =>
  refine⟨fun p Q h=>?_,fun _ _ _ h=>False.elim h⟩;obtain⟨q,e,h⟩:=Yy h;exact⟨_,_,by show (read p i).map _=_;rw[e];rfl,h⟩
 | mv i  =>
  refine⟨fun p Q h=>?_,fun _ _ _ h=>False.elim h⟩
  replace h:=Eq.mp (wE_mvQ _) h
  split at h
  .rename_i t e
   exact⟨_,_,by show (match p[i]? with | some (.o t)=>some (Sl.o t,p.set i .no) | some (.f t)=>some (Sl.f t,p) | _=>none)=_;rw[e],h⟩
  .rename_i t e
   exact⟨_,_,by show (match p[i]? with | some (.o t)=>some (Sl.o t,p.set i .no) | some (.f t)=>some (Sl.f t,p) | _=>none)=_;rw[e],h⟩
  .exact h.elim
 | io i  =>
  refine⟨fun _ _ h=>False.elim h,fun _ _ _ h=>False.elim h⟩
 | k t  =>
  refine⟨fun p Q h=>⟨_,_,rfl,h⟩,fun _ _ _ h=>False.elim h⟩
 | g x  =>
  refine⟨fun p Q h=>?_,fun _ _ _ h=>False.elim h⟩;obtain⟨q,e,h⟩:=Yy h;exact⟨_,_,by show (w.gl x).map _=_;rw[e];rfl,h⟩
 | tup es xv =>
  refine⟨fun p Q h=>?_,fun _ _ _ h=>False.elim h⟩;obtain⟨as,p1,e1,h⟩:=xv.2 false p _ h;obtain⟨ts,e2,h⟩:=Yy h
  split at h
  .rename_i hl
   exact⟨_,_,by show (Jd w false es p).bind _=_;rw[e1];show (looks p1 as).bind _=_;rw[e2];exact if_pos hl,h⟩
  .exact h.elim
 | lst es xv =>
  refine⟨fun p Q h=>?_,fun _ _ _ h=>False.elim h⟩;obtain⟨as,p1,e1,h⟩:=xv.2 false p _ h;obtain⟨ts,e2,h⟩:=Yy h
  split at h
  .rename_i hl
   exact⟨_,_,by show (Jd w false es p).bind _=_;rw[e1];show (looks p1 as).bind _=_;rw[e2];exact if_pos hl,h⟩
  .exact h.elim
 | pr r es xv =>
  refine⟨fun p Q h=>?_,fun _ _ _ h=>False.elim h⟩;obtain⟨as,p1,e1,h⟩:=xv.2 true p _ h;obtain⟨ts,e2,h⟩:=Yy h;obtain⟨s,e3,h⟩:=Yy h;exact⟨_,_,by show (Jd w true es p).bind _=_;rw[e1];show (looks p1 as).bind _=_;rw[e2];show (Sz r ts).map _=_;rw[e3];rfl,h⟩
 | and a b ha hb =>
  refine⟨fun p Q h=>?_,fun _ _ _ h=>False.elim h⟩;obtain⟨r,p1,e1,h⟩:=ha.1 p _ h;obtain⟨c,e2,h⟩:=Dp e1 h;cases c with
  | true =>
   obtain⟨r,p2,e3,h⟩:=hb.1 p1 Q h;exact⟨_,_,by show (J3 (ev w a p)).bind _=_;rw[e2];exact e3,h⟩
  | false=>exact⟨_,_,by show (J3 (ev w a p)).bind _=_;rw[e2];rfl,h⟩
 | or a b ha hb =>
  refine⟨fun p Q h=>?_,fun _ _ _ h=>False.elim h⟩;obtain⟨r,p1,e1,h⟩:=ha.1 p _ h;obtain⟨c,e2,h⟩:=Dp e1 h;cases c with
  | false =>
   obtain⟨r,p2,e3,h⟩:=hb.1 p1 Q h;exact⟨_,_,by show (J3 (ev w a p)).bind _=_;rw[e2];exact e3,h⟩
  | true=>exact⟨_,_,by show (J3 (ev w a p)).bind _=_;rw[e2];rfl,h⟩
 | not a ha =>
  refine⟨fun p Q h=>?_,fun _ _ _ h=>False.elim h⟩;obtain⟨r,p1,e1,h⟩:=ha.1 p _ h;obtain⟨c,e2,h⟩:=Dp e1 h;exact⟨_,_,by show (J3 (ev w a p)).map _=_;rw[e2];rfl,h⟩
 | ite c a b hc ha hb =>
  refine⟨fun p Q h=>?_,fun _ _ _ h=>False.elim h⟩;obtain⟨r,p1,e1,h⟩:=hc.1 p _ h;obtain⟨c',e2,h⟩:=Dp e1 h;cases c' with
  | true =>
   obtain⟨r,p2,e3,h⟩:=ha.1 p1 Q h;exact⟨_,_,by show (J3 (ev w c p)).bind _=_;rw[e2];exact e3,h⟩
  | false =>
   obtain⟨r,p2,e3,h⟩:=hb.1 p1 Q h;exact⟨_,_,by show (J3 (ev w c p)).bind _=_;rw[e2];exact e3,h⟩
 | call f es xv =>
  refine⟨fun p Q h=>?_,fun _ _ _ h=>False.elim h⟩;obtain⟨as,p1,e1,h⟩:=xv.2 false p _ h;obtain⟨sl,e2,h⟩:=Yy h;obtain⟨r,e3,h⟩:=Yy h;obtain⟨p2,e4,h⟩:=Yy h;exact⟨_,_,by show (Jd w false es p).bind _=_;rw[e1];show (args p1 as).bind _=_;rw[e2];show (w.C f sl).bind _=_;rw[e3];show (outs p1 as r.2).map _=_;rw[e4];rfl,h⟩
 | cal i es xv =>
  refine⟨fun p Q h=>?_,fun _ _ _ h=>False.elim h⟩
  replace h:=Eq.mp (lu _ _) h
  split at h
  .rename_i f ef
   obtain⟨as,p1,e1,h⟩:=xv.2 false p _ h;obtain⟨sl,e2,h⟩:=Yy h;obtain⟨r,e3,h⟩:=Yy h;obtain⟨p2,e4,h⟩:=Yy h;exact⟨_,_,by show (match p[i]? with | some (.f (.fn f))=>(Jd w false es p).bind fun q=>(args q.2 q.1).bind fun as=>(w.C f as).bind fun r=>(outs q.2 q.1 r.2).map fun p'=>(r.1,p') | _=>none)=_;rw[ef];show (Jd w false es p).bind _=_;rw[e1];show (args p1 as).bind _=_;rw[e2];show (w.C f sl).bind _=_;rw[e3];show (outs p1 as r.2).map _=_;rw[e4];rfl,h⟩
  .exact h.elim
 | mt m i es xv =>
  refine⟨fun p Q h=>?_,fun _ _ _ h=>False.elim h⟩
  replace h:=Eq.mp (wE_mtQ _ _ _) h
  split at h
  .rename_i hd
   obtain⟨as,p1,e1,h⟩:=xv.2 false p _ h;obtain⟨ts,e2,h⟩:=Yy h
   split at h
   .rename_i t et
    obtain⟨r,e3,h⟩:=Yy h;exact⟨_,_,by show (if zq p i=true then _ else _)=_;rw[if_pos hd,e1];show (looks p1 as).bind _=_;rw[e2];show (match p1[i]? with | some (.o t)=>_ | _=>_)=_;rw[et];show (iq m t ts).map _=_;rw[e3];rfl,h⟩
   .exact h.elim
  .exact h.elim
 | comp tg it c el fr z5 htg hit hc hel =>
  refine⟨fun p Q h=>?_,fun _ _ _ h=>False.elim h⟩
  replace h:=Eq.mp (jn _ _ _ _ _ _) h
  obtain⟨r,p1,e1,h⟩:=hit.1 p _ h;obtain⟨xs,e2,h⟩:=ff e1 h
  obtain⟨ys,s,e3,h⟩:=Tj (b':=fun x s=>(asg tg x s).bind fun s1=>(if isNil c=true then some (true,s1) else J3 (ev w c s1)).bind fun b=>if b.1=true then (toT (ev w el b.2)).map fun r=>(some r.1,r.2) else some (none,b.2)) (fun x s K hk=>by
    obtain⟨s1,e3,hk⟩:=Yy hk;rw[e3];show ∃o p',(if isNil c=true then some (true,s1) else J3 (ev w c s1)).bind _=_/\_;cases hz:isNil c with
    | true =>
     rw[hz]at hk;obtain⟨r,s2,e4,hk⟩:=hel.1 s1 _ hk;obtain⟨t,e5,hk⟩:=Dh e4 hk;exact⟨_,_,by show (toT (ev w el s1)).map _=_;rw[e5];rfl,hk⟩
    | false =>
     rw[hz]at hk;obtain⟨r,s2,e4,hk⟩:=hc.1 s1 _ hk;obtain⟨b,e5,hk⟩:=Dp e4 hk;show ∃o p',(J3 (ev w c s1)).bind _=_/\_;rw[e5];cases b with
     | true =>
      obtain⟨r,s3,e7,hk⟩:=hel.1 s2 _ hk;obtain⟨t,e8,hk⟩:=Dh e7 hk;exact⟨_,_,by show (toT (ev w el s2)).map _=_;rw[e8];rfl,hk⟩
     | false=>exact⟨_,_,rfl,hk⟩) xs [] _ _ h
  exact⟨_,_,by show (nq (ev w it p)).bind _=_;rw[e2];show Option.map _ (Dt _ xs [] (qr fr p1))=_;rw[e3];rfl,h⟩
 | itr k es xv =>
  refine⟨fun p Q h=>?_,fun _ _ _ h=>False.elim h⟩;obtain⟨as,p1,e1,h⟩:=xv.2 false p _ h;obtain⟨ts,e2,h⟩:=Yy h;obtain⟨s,e3,h⟩:=Yy h;exact⟨_,_,by show (Jd w false es p).bind _=_;rw[e1];show (looks p1 as).bind _=_;rw[e2];show (itT k ts).map _=_;rw[e3];rfl,h⟩
 | tmp a ha =>
  refine⟨fun p Q h=>?_,fun _ _ _ h=>False.elim h⟩;obtain⟨r,p1,e1,h⟩:=ha.1 (frz p) _ h;obtain⟨t,e2,h⟩:=onF_ex e1 h
  split at h
  .rename_i hs
   exact⟨_,_,by show (toF (ev w a (frz p))).bind _=_;rw[e2];exact if_pos hs,h⟩
  .exact h.elim
 | nil   =>
  refine⟨fun _ _ h=>False.elim h,fun m p Q h=>⟨[],p,by cases m<;>rfl,by cases m<;>exact h⟩⟩
 | cons a r ha hr =>
  refine⟨fun _ _ h=>False.elim h,fun m p Q h=>?_⟩
  have fin:∀(q:A×P) {p1:P} {as:List A},Pn m a p (toT (ev w a p))=some q->Jd w m r q.2=some (as,p1)->Jd w m (.cons a r) p=some (q.1::as,p1):=fun q p1 as e1 e2=>by
   show (Pn m a p (toT (ev w a p))).bind _=_;rw[e1];show (Jd w m r q.2).map _=_;rw[e2]
   rfl
  replace h:=Eq.mp (jd _ _ _) h
  split at h
  .rename_i i
   split at h
   .rename_i hd
    obtain⟨as,p1,e,h⟩:=hr.2 m p _ h;exact⟨_,_,fin (.s i,p) (by simp[Pn,hd]) e,h⟩
   .exact h.elim
  .rename_i i
   split at h
   .rename_i hm
    split at h
    .rename_i hd
     obtain⟨as,p1,e,h⟩:=hr.2 m p _ h;exact⟨_,_,fin (.s i,p) (by simp[Pn,hm,hd]) e,h⟩
    .exact h.elim
   .rename_i hm
    obtain⟨q,e1,h⟩:=Yy h;obtain⟨as,p1,e,h⟩:=hr.2 m q.2 _ h;exact⟨_,_,fin (.t q.1,q.2) (by simp[Pn,hm,e1]) e,h⟩
  .rename_i n1 n2
   obtain⟨s,p1,e1,h⟩:=ha.1 p _ h;obtain⟨t,e2,h⟩:=Dh e1 h;obtain⟨as,p2,e,h⟩:=hr.2 m p1 _ h;refine⟨_,_,fin (.t t,p1) ?_ e,h⟩;unfold Pn
   split
   .exact absurd rfl (n1 _)
   .exact absurd rfl (n2 _)
   .rw[e2];rfl
theorem D6(e:E)(p:P)(Q:Sl->P->Prop):wE w e p Q->∃r p',ev w e p=some (r,p')/\Q r p':=(wER_ev w e).1 p Q
end
def En.fl(D:En)(f:Fl)(p:P):Prop:=match f with
 | .nx=>D.nx p
 | .rt r=>D.rt r p
 | .bk=>D.bk p
 | .ct=>D.ct p
theorem Wo{body:T->P->En->Prop}{b':T->P->Option (Fl×P)}(hb:∀x p D,body x p D->∃f p',b' x p=some (f,p')/\D.fl f p'):∀(xs:ZZ) (p:P) (D:En),Rz body xs p D->∃f p',Bq b' xs p=some (f,p')/\D.fl f p'
 | [],p,D,h=>⟨.nx,p,rfl,h⟩
 | x::r,p,D,h=>by
  obtain⟨f,p',e,h'⟩:=hb x p _ h;unfold Bq;rw[e];cases f with
  | nx=>exact Wo hb r p' D h'
  | ct=>exact Wo hb r p' D h'
  | bk=>exact⟨.nx,p',rfl,h'⟩
  | rt t=>exact⟨.rt t,p',rfl,h'⟩
theorem Sh{test:P->(Bool->P->Prop)->Prop}{t':P->Option (Bool×P)}{body:P->En->Prop}{b':P->Option (Fl×P)}(ht:∀p K,test p K->∃b p',t' p=some (b,p')/\K b p')(hb:∀p D,body p D->∃f p',b' p=some (f,p')/\D.fl f p') :
  ∀(n:Nat) (p:P) (D:En),wWh test body n p D->∃f p',Bx t' b' n p=some (f,p')/\D.fl f p'
 | 0,p,D,h=>h.elim
 | n+1,p,D,h=>by
  obtain⟨b,p1,e,h⟩:=ht p _ h;unfold Bx;rw[e];cases b with
  | false=>exact⟨.nx,p1,rfl,h⟩
  | true =>
   obtain⟨f,p2,e2,h⟩:=hb p1 _ h;show ∃f p',(b' p1).bind _=_/\_;rw[e2];cases f with
   | nx=>exact Sh ht hb n p2 D h
   | ct=>exact Sh ht hb n p2 D h
   | bk=>exact⟨.nx,p2,rfl,h⟩
   | rt t=>exact⟨.rt t,p2,rfl,h⟩
theorem wS_ex(w:W)(pt:Nat->Bool)(s:S):∀(p:P) (D:En),wS w pt s p D->∃f p',ex w pt s p=some (f,p')/\D.fl f p':=by
 induction s with
 | nil=>exact fun p D h=>⟨.nx,p,rfl,h⟩
 | seq a r ha hr =>
  intro p D h;obtain⟨f,p1,e,h⟩:=ha p _ h;show ∃f p',(ex w pt a p).bind _=_/\_;rw[e];cases f with
  | nx=>exact hr p1 D h
  | rt t=>exact⟨_,_,rfl,h⟩
  | bk=>exact⟨_,_,rfl,h⟩
  | ct=>exact⟨_,_,rfl,h⟩
 | ret a =>
  intro p D h;obtain⟨r,p1,e,h⟩:=D6 w a p _ h;exact⟨.rt r,p1,by show (ev w a p).map _=_;rw[e];rfl,h⟩
 | ex a =>
  intro p D h;obtain⟨r,p1,e,h⟩:=D6 w a p _ h;exact⟨.nx,p1,by show (ev w a p).map _=_;rw[e];rfl,h⟩
 | set i a =>
  intro p D h;by_cases hp:pt i=true
  .have h:(if pt i=true then False else _):=h;rw[if_pos hp]at h;exact h.elim
  .obtain⟨r,p1,e,h⟩:=D6 w a p _ (if_neg hp ▸ (show (if pt i=true then False else _) from h));exact⟨.nx,_,by show (if pt i=true then none else _)=_;rw[if_neg hp,e];rfl,h⟩
 | unp tg a =>
  intro p D h;by_cases hp:V0 pt tg=true
  .obtain⟨r,p1,e,h⟩:=D6 w a p _ (if_pos hp ▸ (show (if V0 pt tg=true then _ else False) from h));obtain⟨t,e2,h⟩:=Dh e h;obtain⟨p2,e3,h⟩:=Yy h;exact⟨.nx,_,by show (if V0 pt tg=true then _ else none)=_;rw[if_pos hp,e2];show (asg tg t p1).map _=_;rw[e3];rfl,h⟩
  .have h:(if V0 pt tg=true then _ else False):=h;rw[if_neg hp]at h;exact h.elim
 | put i k a =>
  intro p D h;obtain⟨r,p1,e,h⟩:=D6 w a p _ h;obtain⟨t,e2,h⟩:=Dh e h
  split at h
  .rename_i hd
   obtain⟨r,p2,e3,h⟩:=D6 w k p1 _ h;obtain⟨kt,e4,h⟩:=Dh e3 h
   split at h
   .rename_i x exq
    obtain⟨x',e5,h⟩:=Yy h;exact⟨.nx,_,by show (toT (ev w a p)).bind _=_;rw[e2];show (if done p1 i=true then (toT (ev w k p1)).bind _ else _)=_;rw[if_pos hd,e4];show (match p2[i]? with | some (.o t)=>_ | _=>_)=_;rw[exq];show (putAt x kt t).map _=_;rw[e5];rfl,h⟩
   .exact h.elim
  .exact h.elim
 | ite c a b ha hb =>
  intro p D h;obtain⟨r,p1,e,h⟩:=D6 w c p _ h;obtain⟨b',e2,h⟩:=Dp e h;show ∃f p',(J3 (ev w c p)).bind _=_/\_;rw[e2];cases b' with
  | true=>exact ha p1 D h
  | false=>exact hb p1 D h
 | loop tg it b hb =>
  intro p D h;by_cases hp:V0 pt tg=true
  .obtain⟨r,p1,e,h⟩:=D6 w it p _ (if_pos hp ▸ (show (if V0 pt tg=true then _ else False) from h));obtain⟨xs,e2,h⟩:=ff e h;show ∃f p',(if V0 pt tg=true then _ else none)=_/\_;rw[if_pos hp,e2]
   exact Wo (fun x p D h=>by
    obtain⟨s1,e3,h⟩:=Yy h;rw[e3];exact hb s1 D h) xs p1 D h
  .have h:(if V0 pt tg=true then _ else False):=h;rw[if_neg hp]at h;exact h.elim
 | wh c b hb =>
  intro p D h
  exact Sh (fun p K h=>by
   obtain⟨r,p1,e,h⟩:=D6 w c p _ h;obtain⟨b',e2,h⟩:=Dp e h;exact⟨b',p1,e2,h⟩) (fun p D h=>hb p D h) _ p D h
 | pass=>exact fun p D h=>⟨.nx,p,rfl,h⟩
 | brk=>exact fun p D h=>⟨.bk,p,rfl,h⟩
 | cont=>exact fun p D h=>⟨.ct,p,rfl,h⟩
mutual
def IsT(K:W.Frag)(mg:ZV)(H F:Hp):T->V->Prop
 | .non,v=>v=.non
 | .bl b,v=>v=.bl b
 | .int i,v=>v=.int i
 | .str x,v=>v=.str x
 | .tup ts,v=>∃a vs,v=.ref a/\Yu K H a vs/\vs.length<=sizeLine/\Zx K mg H F ts vs
 | .lst ts,v=>∃a vs,v=.ref a/\Rd F a (.lst vs)/\vs.length<=sizeLine/\Zx K mg H F ts vs
 | .dct XM,v=>∃a ks,v=.ref a/\Rd F a (.dK ks)/\ks.length<=sizeLine/\Zd K mg H F XM ks
 | .fn x,v=>∃a,v=.ref a/\mg x=some (.ref a)
def Zx(K:W.Frag)(mg:ZV)(H F:Hp):ZZ->ZQ->Prop
 | [],vs=>vs=[]
 | t::ts,vs=>∃v r,vs=v::r/\IsT K mg H F t v/\Zx K mg H F ts r
def IsK(K:W.Frag)(mg:ZV)(H F:Hp):Key×T->Key×V->Prop
 | (k,t),q=>q.1=k/\IsT K mg H F t q.2
def Zd(K:W.Frag)(mg:ZV)(H F:Hp):ZX->List (Key×V)->Prop
 | [],ks=>ks=[]
 | p::ps,ks=>∃q r,ks=q::r/\IsK K mg H F p q/\Zd K mg H F ps r
end
def Le(F F':Hp):Prop:=∀a o,F a=some o->F' a=some o
theorem Le.refl(F:Hp):Le F F:=fun _ _ h=>h
theorem Le.trans{F F1 F2:Hp}(a:Le F F1)(b:Le F1 F2):Le F F2:=fun c u h=>b c u (a c u h)
structure ly(F F':Hp):Prop where
 l:∀a vs,Rd F a (.lst vs)->Rd F' a (.lst vs)
 d:∀a ks,Rd F a (.dK ks)->Rd F' a (.dK ks)
theorem Le.r{F F':Hp}(l:Le F F'):ly F F':=⟨fun a u h=>h.elim (fun h=>.inl (l a _ h)) fun⟨o,h⟩=>.inr ⟨o,l a _ h⟩,fun a u h=>h.elim (fun h=>.inl (l a _ h)) fun⟨o,h⟩=>.inr ⟨o,l a _ h⟩⟩
section
variable{K:W.Frag}{mg:ZV}{H H' F F':Hp}
mutual
theorem IsT.upR(u:Up K H H')(l:ly F F'):∀(t:T) (v:V),IsT K mg H F t v->IsT K mg H' F' t v
 | .non,_,h=>h
 | .bl _,_,h=>h
 | .int _,_,h=>h
 | .str _,_,h=>h
 | .tup ts,v,h=>by
  obtain⟨a,vs,e,q,z,r⟩:=h;exact⟨a,vs,e,u a vs q,z,Zx.upR u l ts vs r⟩
 | .lst ts,v,h=>by
  obtain⟨a,vs,e,q,z,r⟩:=h;exact⟨a,vs,e,l.l a _ q,z,Zx.upR u l ts vs r⟩
 | .dct XM,v,h=>by
  obtain⟨a,ks,e,q,z,r⟩:=h;exact⟨a,ks,e,l.d a _ q,z,Zd.upR u l XM ks r⟩
 | .fn x,_,h=>h
theorem Zx.upR(u:Up K H H')(l:ly F F'):∀(ts:ZZ) (vs:ZQ),Zx K mg H F ts vs->Zx K mg H' F' ts vs
 | [],_,h=>h
 | t::ts,vs,h=>by
  obtain⟨v,r,e,q,w⟩:=h;exact⟨v,r,e,IsT.upR u l t v q,Zx.upR u l ts r w⟩
theorem IsK.upR(u:Up K H H')(l:ly F F'):∀(p:Key×T) (q:Key×V),IsK K mg H F p q->IsK K mg H' F' p q
 | (k,t),q,h=>⟨h.1,IsT.upR u l t q.2 h.2⟩
theorem Zd.upR(u:Up K H H')(l:ly F F'):∀(ps:ZX) (ks:List (Key×V)),Zd K mg H F ps ks->Zd K mg H' F' ps ks
 | [],_,h=>h
 | p::ps,ks,h=>by
  obtain⟨q,r,e,i,w⟩:=h;exact⟨q,r,e,IsK.upR u l p q i,Zd.upR u l ps r w⟩
end
theorem IsT.up(u:Up K H H')(l:Le F F')(t:T)(v:V)(h:IsT K mg H F t v):IsT K mg H' F' t v:=IsT.upR u l.r t v h
theorem Zx.up(u:Up K H H')(l:Le F F')(t:ZZ)(v:ZQ)(h:Zx K mg H F t v):Zx K mg H' F' t v:=Zx.upR u l.r t v h
theorem Zd.up(u:Up K H H')(l:Le F F')(t:ZX)(v:List (Key×V))(h:Zd K mg H F t v):Zd K mg H' F' t v:=Zd.upR u l.r t v h
theorem Zx.length:∀{ts:ZZ} {vs:ZQ},Zx K mg H F ts vs->ts.length=vs.length
 | [],vs,h=>by
  cases(show vs=[] from h);rfl
 | t::ts,vs,h=>by
  obtain⟨v,r,rfl,_,w⟩:=h;simp only[B9,Zx.length w]
theorem Zd.length:∀{ts:ZX} {vs:List (Key×V)},Zd K mg H F ts vs->ts.length=vs.length
 | [],vs,h=>by
  cases(show vs=[] from h);rfl
 | t::ts,vs,h=>by
  obtain⟨v,r,rfl,_,w⟩:=h;simp only[B9,Zd.length w]
theorem Zx.get:∀{ts:ZZ} {vs:ZQ} {i:Nat} {t:T},Zx K mg H F ts vs->ts[i]?=some t->∃v,vs[i]?=some v/\IsT K mg H F t v
 | [],vs,i,t,_,e=>by simp at e
 | t::ts,vs,0,t',h,e=>by
  obtain⟨v,r,rfl,q,_⟩:=h;simp at e;subst e;exact⟨v,rfl,q⟩
 | t::ts,vs,i+1,t',h,e=>by
  obtain⟨v,r,rfl,_,w⟩:=h;obtain⟨v',e1,q⟩:=Zx.get (i:=i) w (by simpa using e);exact⟨v',by simpa using e1,q⟩
theorem Zx.append:∀{ts us:ZZ} {vs ws:ZQ},Zx K mg H F ts vs->Zx K mg H F us ws->Zx K mg H F (ts++us) (vs++ws)
 | [],us,vs,ws,h,h'=>by
  cases(show vs=[] from h);exact h'
 | t::ts,us,vs,ws,h,h'=>by
  obtain⟨v,r,rfl,q,w⟩:=h;exact⟨v,r++ws,rfl,q,Zx.append w h'⟩
theorem Zx.one{t:T}{v:V}(h:IsT K mg H F t v):Zx K mg H F [t] [v]:=⟨v,[],rfl,h,rfl⟩
theorem Zx.drop:∀{ts:ZZ} {vs:ZQ} (n:Nat),Zx K mg H F ts vs->Zx K mg H F (ts.drop n) (vs.drop n)
 | ts,vs,0,h=>h
 | [],vs,n+1,h=>by
  cases(show vs=[] from h);rfl
 | t::ts,vs,n+1,h=>by
  obtain⟨v,r,rfl,_,w⟩:=h;exact Zx.drop n w
theorem Zx.take:∀{ts:ZZ} {vs:ZQ} (n:Nat),Zx K mg H F ts vs->Zx K mg H F (ts.take n) (vs.take n)
 | ts,vs,0,_=>rfl
 | [],vs,n+1,h=>by
  cases(show vs=[] from h);rfl
 | t::ts,vs,n+1,h=>by
  obtain⟨v,r,rfl,q,w⟩:=h;exact⟨v,r.take n,rfl,q,Zx.take n w⟩
theorem Zx.set:∀{ts:ZZ} {vs:ZQ} (n:Nat) {t:T} {v:V},Zx K mg H F ts vs->IsT K mg H F t v->Zx K mg H F (ts.set n t) (vs.set n v)
 | [],vs,n,t,v,h,_=>by
  cases(show vs=[] from h);rfl
 | t::ts,vs,0,t',v',h,i=>by
  obtain⟨v,r,rfl,q,w⟩:=h;exact⟨v',r,rfl,i,w⟩
 | t::ts,vs,n+1,t',v',h,i=>by
  obtain⟨v,r,rfl,q,w⟩:=h;exact⟨v,r.set n v',rfl,q,Zx.set n w i⟩
end
def F9(K:W.Frag)(mg:ZV)(H F:Hp)(a:Addr):T->Prop
 | .lst ts=>∃vs,H a=some (.lst vs)/\vs.length<=sizeLine/\Zx K mg H F ts vs
 | .dct XM=>∃ks,H a=some (.dK ks)/\ks.length<=sizeLine/\Zd K mg H F XM ks
 | _=>False
theorem F9.up{K:W.Frag}{mg:ZV}{H H' F F':Hp}{a:Addr}{t:T}(u:Up K H H')(l:Le F F')(e:H' a=H a)(h:F9 K mg H F a t):F9 K mg H' F' a t:=by
 cases t with
 | lst ts =>
  obtain⟨vs,q,z,r⟩:=h;exact⟨vs,e.trans q,z,Zx.up u l ts vs r⟩
 | dct ts =>
  obtain⟨vs,q,z,r⟩:=h;exact⟨vs,e.trans q,z,Zd.up u l ts vs r⟩
 | _=>exact h.elim
structure Base(F G H:Hp):Prop where
 f:∀a o,F a=some o->H a=some o
 g:∀a o,G a=some o->H a=some o
 d:∀a,F a≠none->G a=none
structure Rel(K:W.Frag)(mg:ZV)(F G:Hp)(p:P)(Z:L2.St)(H:Hp):Prop where
 b:Base F G H
 fz:∀(i:Nat) (t:T),p[i]?=some (Sl.f t)->∃v,Z[i]?=some (some v)/\IsT K mg H F t v
 ow:∀(i:Nat) (t:T),p[i]?=some (Sl.o t)->∃a,Z[i]?=some (some (V.ref a))/\F a=none/\G a=none/\F9 K mg H F a t
 ap:∀(i j:Nat) (t u:T) (a:Addr),p[i]?=some (Sl.o t)->p[j]?=some (Sl.o u)->Z[i]?=some (some (V.ref a))->Z[j]?=some (some (V.ref a))->i=j
 ln:p.length=Z.length
def Res(K:W.Frag)(mg:ZV)(F G:Hp)(p:P)(Z:L2.St)(H:Hp)(r:Sl)(v:V):Prop:=match r with
 | .f t=>IsT K mg H F t v
 | .o t=>∃a,v=.ref a/\F a=none/\G a=none/\F9 K mg H F a t/\∀(i:Nat) (u:T),p[i]?=some (Sl.o u)->Z[i]?≠some (some (V.ref a))
 | .no=>False
section
variable{K:W.Frag}{mg:ZV}{H H' F F' G:Hp}{p:P}{Z:L2.St}
theorem Le.lay{a:Addr}{o:HO}(h:F a=none):Le F (upd F a o):=Zc.lay h
theorem Base.rd(b:Base F G H){a:Addr}{u:HO}(r:Rd F a u):Rd H a u:=by
 rcases r with r | ⟨o,r⟩
 .exact .inl (b.f a _ r)
 .exact .inr ⟨o,b.f a _ r⟩
theorem Base.same(b:Base F G H)(s:Zc H H'):Base F G H':=⟨fun a o e=>s a o (b.f a o e),fun a o e=>s a o (b.g a o e),b.d⟩
theorem F9.some{a:Addr}{t:T}(h:F9 K mg H F a t):∃o,H a=some o:=by
 cases t with
 | lst ts=>obtain⟨vs,q,_⟩:=h;exact⟨_,q⟩
 | dct ts=>obtain⟨vs,q,_⟩:=h;exact⟨_,q⟩
 | _=>exact h.elim
theorem F9.same{a:Addr}{t:T}(h:F9 K mg H F a t)(s:Zc H H')(l:Le F F'):F9 K mg H' F' a t:=by
 obtain⟨o,e⟩:=h.some;exact h.up s.up l ((s a o e).trans e.symm)
theorem Rel.same(r:Rel K mg F G p Z H)(s:Zc H H'):Rel K mg F G p Z H' :=
 ⟨r.b.same s,fun i t e=>let ⟨v,h1,h2⟩:=r.fz i t e;⟨v,h1,IsT.up s.up (Le.refl F) t v h2⟩,fun i t e=>let ⟨a,h1,h2,h3,h4⟩:=r.ow i t e;⟨a,h1,h2,h3,h4.same s (Le.refl F)⟩,r.ap,r.ln⟩
theorem To{a:Addr}{t:T}{o:HO}(h:F9 K mg H F a t)(e:H a=some o)(l:Le F F')(q:F' a=some o):IsT K mg H F' t (.ref a):=by
 cases t with
 | lst ts =>
  obtain⟨vs,q1,z,r⟩:=h;rw[q1]at e;cases e;exact⟨a,vs,rfl,.inl q,z,Zx.up (Up.refl H) l ts vs r⟩
 | dct ts =>
  obtain⟨vs,q1,z,r⟩:=h;rw[q1]at e;cases e;exact⟨a,vs,rfl,.inl q,z,Zd.up (Up.refl H) l ts vs r⟩
 | _=>exact h.elim
theorem Rel.freeze(r:Rel K mg F G p Z H){a:Addr}{t:T}(fa:F a=none)(ga:G a=none)(h:F9 K mg H F a t)(ha:∀(i:Nat) (u:T),p[i]?=some (Sl.o u)->Z[i]?≠some (some (V.ref a))):∃F',Le F F'/\Rel K mg F' G p Z H/\IsT K mg H F' t (.ref a):=by
 obtain⟨o,e⟩:=h.some;have l:Le F (upd F a o):=Le.lay fa;refine⟨upd F a o,l,⟨⟨fun b u q=>?_,r.b.g,fun b q=>?_⟩,fun i t e=>let ⟨v,h1,h2⟩:=r.fz i t e;⟨v,h1,IsT.up (Up.refl H) l t v h2⟩,fun i u q=>?_,r.ap,r.ln⟩,To h e l Zq⟩
 .by_cases z:b=a
  .subst z;rw[Zq]at q;cases q;exact e
  .rw[Zz z]at q;exact r.b.f b u q
 .by_cases z:b=a
  .subst z;exact ga
  .rw[Zz z]at q;exact r.b.d b q
 .obtain⟨b,h1,h2,h3,h4⟩:=r.ow i u q;have n:b≠a:=fun z=>by subst z;exact ha i u q h1
  exact⟨b,h1,by rw[Zz n];exact h2,h3,h4.same (Zc.refl H) l⟩
theorem Zo{p:P}{i j:Nat}{s u:Sl}(h:(p.set i s)[j]?=some u):(j=i/\u=s)\/(j≠i/\p[j]?=some u):=by
 by_cases e:i=j
 .subst e;rw[List.getElem?_set_self']at h;cases q:p[i]? with
  | none=>rw[q]at h;cases h
  | some x=>rw[q]at h;exact .inl ⟨rfl,(G0 h).symm⟩
 .rw[List.getElem?_set_ne e]at h;exact .inr ⟨fun z=>e z.symm,h⟩
theorem Rel.drop(r:Rel K mg F G p Z H)(i:Nat):Rel K mg F G (p.set i .no) Z H :=
 ⟨r.b,fun j t e=>by
  rcases Zo e with ⟨_,z⟩ | ⟨_,e⟩
  .cases z
  .exact r.fz j t e,fun j t e=>by
  rcases Zo e with ⟨_,z⟩ | ⟨_,e⟩
  .cases z
  .exact r.ow j t e,fun j k t u a e1 e2=>by
  rcases Zo e1 with ⟨_,z⟩ | ⟨_,e1⟩
  .cases z
  rcases Zo e2 with ⟨_,z⟩ | ⟨_,e2⟩
  .cases z
  exact r.ap j k t u a e1 e2,by rw[XY];exact r.ln⟩
theorem Rel.know(r:Rel K mg F G p Z H){i:Nat}{t:T}{v:V}(hv:Z[i]?=some (some v))(h:IsT K mg H F t v):Rel K mg F G (p.set i (.f t)) Z H :=
 ⟨r.b,fun j u e=>by
  rcases Zo e with ⟨z,y⟩ | ⟨_,e⟩
  .cases y;subst z;exact⟨v,hv,h⟩
  .exact r.fz j u e,fun j t e=>by
  rcases Zo e with ⟨_,z⟩ | ⟨_,e⟩
  .cases z
  .exact r.ow j t e,fun j k t u a e1 e2=>by
  rcases Zo e1 with ⟨_,z⟩ | ⟨_,e1⟩
  .cases z
  rcases Zo e2 with ⟨_,z⟩ | ⟨_,e2⟩
  .cases z
  exact r.ap j k t u a e1 e2,by rw[XY];exact r.ln⟩
theorem Rel.freezeAt(r:Rel K mg F G p Z H){i:Nat}{t:T}(e:p[i]?=some (Sl.o t)):∃F' v,Le F F'/\Rel K mg F' G (p.set i (.f t)) Z H/\Z[i]?=some (some v)/\IsT K mg H F' t v:=by
 obtain⟨a,h1,h2,h3,h4⟩:=r.ow i t e
 obtain⟨F',l,r',h⟩:=(r.drop i).freeze h2 h3 h4 fun j u q z=>by
  rcases Zo q with ⟨_,y⟩ | ⟨n,q⟩
  .cases y
  .exact n (r.ap j i u t a q e z h1)
 have r2:=r'.know (i:=i) h1 h;rw[List.set_set]at r2;exact⟨F',_,l,r2,h1,h⟩
theorem Rel.thaw(r:Rel K mg F G p Z H){s:Sl}{t:T}{v:V}(e:PV.thaw s=some t)(h:Res K mg F G p Z H s v):∃F',Le F F'/\Rel K mg F' G p Z H/\IsT K mg H F' t v:=by
 cases s with
 | no=>cases e
 | f u=>cases e;exact⟨F,Le.refl F,r,h⟩
 | o u =>
  cases e;obtain⟨a,rfl,h1,h2,h3,h4⟩:=h;exact r.freeze h1 h2 h3 h4
theorem Rel.newL(r:Rel K mg F G p Z H){l:Addr}{ts:ZZ}{vs:ZQ}(hl:H l=none)(z:vs.length<=sizeLine)(h:Zx K mg H F ts vs):Rel K mg F G p Z (upd H l (.lst vs))/\Res K mg F G p Z (upd H l (.lst vs)) (.o (.lst ts)) (.ref l):=by
 have s:Zc H (upd H l (.lst vs)):=Zc.lay hl;refine⟨r.same s,l,rfl, ?_, ?_,⟨vs,Zq,z,Zx.up s.up (Le.refl F) ts vs h⟩,fun i u e q=>?_⟩
 .cases q:F l with
  | none=>rfl
  | some o=>rw[r.b.f l o q]at hl;cases hl
 .cases q:G l with
  | none=>rfl
  | some o=>rw[r.b.g l o q]at hl;cases hl
 .obtain⟨b,h1,_,_,h4⟩:=r.ow i u e;rw[h1]at q;cases q;obtain⟨o,h5⟩:=h4.some;rw[h5]at hl;cases hl
theorem Rel.newD(r:Rel K mg F G p Z H){l:Addr}{ts:ZX}{vs:List (Key×V)}(hl:H l=none)(z:vs.length<=sizeLine)(h:Zd K mg H F ts vs):Rel K mg F G p Z (upd H l (.dK vs))/\Res K mg F G p Z (upd H l (.dK vs)) (.o (.dct ts)) (.ref l):=by
 have s:Zc H (upd H l (.dK vs)):=Zc.lay hl;refine⟨r.same s,l,rfl, ?_, ?_,⟨vs,Zq,z,Zd.up s.up (Le.refl F) ts vs h⟩,fun i u e q=>?_⟩
 .cases q:F l with
  | none=>rfl
  | some o=>rw[r.b.f l o q]at hl;cases hl
 .cases q:G l with
  | none=>rfl
  | some o=>rw[r.b.g l o q]at hl;cases hl
 .obtain⟨b,h1,_,_,h4⟩:=r.ow i u e;rw[h1]at q;cases q;obtain⟨o,h5⟩:=h4.some;rw[h5]at hl;cases hl
end
def Ar(K:W.Frag)(mg:ZV)(F:Hp)(Z:L2.St)(H:Hp):A->V->Prop
 | .t t,v=>IsT K mg H F t v
 | .s i,v=>Z[i]?=some (some v)
abbrev Ars(K:W.Frag)(mg:ZV)(F:Hp)(Z:L2.St)(H:Hp):List A->ZQ->Prop:=Paired (Ar K mg F Z H)
def B7(K:W.Frag)(mg:ZV)(H F:Hp):T->V->Prop
 | .lst ts,v=>∃a vs,v=.ref a/\Rd H a (.lst vs)/\vs.length<=sizeLine/\Zx K mg H F ts vs
 | .dct XM,v=>∃a ks,v=.ref a/\Rd H a (.dK ks)/\ks.length<=sizeLine/\Zd K mg H F XM ks
 | t,v=>IsT K mg H F t v
section
variable{K:W.Frag}{mg:ZV}{H H' F F' G:Hp}{p:P}{Z:L2.St}
theorem Ar.up(u:Up K H H')(l:Le F F'){a:A}{v:V}(h:Ar K mg F Z H a v):Ar K mg F' Z H' a v:=by
 cases a with
 | t t=>exact IsT.up u l t v h
 | s i=>exact h
theorem Ars.up(u:Up K H H')(l:Le F F'):∀{as:List A} {vs:ZQ},Ars K mg F Z H as vs->Ars K mg F' Z H' as vs
 | _,_,.nil=>.nil
 | _,_,.cons r t=>.cons (Ar.up u l r) (Ars.up u l t)
theorem Ez(b:Base F G H){t:T}{v:V}(h:IsT K mg H F t v):B7 K mg H F t v:=by
 cases t with
 | lst ts=>obtain⟨a,vs,e,q,z,r⟩:=h;exact⟨a,vs,e,b.rd q,z,r⟩
 | dct ts=>obtain⟨a,vs,e,q,z,r⟩:=h;exact⟨a,vs,e,b.rd q,z,r⟩
 | _=>exact h
theorem uy{a:Addr}{t:T}(h:F9 K mg H F a t):B7 K mg H F t (.ref a):=by
 cases t with
 | lst ts=>obtain⟨vs,q,z,r⟩:=h;exact⟨a,vs,rfl,.inl q,z,r⟩
 | dct ts=>obtain⟨vs,q,z,r⟩:=h;exact⟨a,vs,rfl,.inl q,z,r⟩
 | _=>exact h.elim
theorem Rel.look(r:Rel K mg F G p Z H){a:A}{v:V}{t:T}(e:PV.look p a=some t)(h:Ar K mg F Z H a v):B7 K mg H F t v:=by
 cases a with
 | t u=>cases e;exact Ez r.b h
 | s i =>
  unfold PV.look at e;dsimp only at e
  split at e
  .rename_i u q
   cases e;obtain⟨v',h1,h2⟩:=r.fz i _ q;have:v'=v:=G0 (G0 (h1.symm.trans h));subst this;exact Ez r.b h2
  .rename_i u q
   cases e;obtain⟨a,h1,_,_,h2⟩:=r.ow i _ q;have:V.ref a=v:=G0 (G0 (h1.symm.trans h));subst this;exact uy h2
  .cases e
theorem Rel.looks(r:Rel K mg F G p Z H):∀{as:List A} {vs:ZQ} {ts:ZZ},PV.looks p as=some ts->Ars K mg F Z H as vs->Paired (B7 K mg H F) ts vs
 | [],_,ts,e,.nil=>by cases e;exact .nil
 | a::as,_,ts,e,.cons h t=>by
  unfold PV.looks at e;cases e1:PV.look p a with
  | none=>rw[e1]at e;cases e
  | some u =>
   rw[e1]at e;have e:(PV.looks p as).map (u::·)=some ts:=e;cases e2:PV.looks p as with
   | none=>rw[e2]at e;cases e
   | some us =>
    rw[e2]at e;cases e;exact .cons (r.look e1 h) (r.looks e2 t)
end
section
theorem Gr:∀{as:List A} {p:P} {sl:List Sl},args p as=some sl->sl.length=as.length
 | [],p,sl,e=>by cases e;rfl
 | .t t::r,p,sl,e=>by
  unfold args at e;cases q:args p r with
  | none=>rw[q]at e;cases e
  | some x=>rw[q]at e;cases e;simp[Gr q]
 | .s i::r,p,sl,e=>by
  unfold args at e
  split at e
  .cases q:args (p.set i .no) r with
   | none=>rw[q]at e;cases e
   | some x=>rw[q]at e;cases e;simp[Gr q]
  .cases e
theorem Kt:∀{as:List A} {p:P} {sl:List Sl} {j:Nat} {t:T},args p as=some sl->as[j]?=some (.t t)->sl[j]?=some (.f t)
 | [],p,sl,j,t,e,h=>by simp at h
 | .t u::r,p,sl,j,t,e,h=>by
  unfold args at e;cases q:args p r with
  | none=>rw[q]at e;cases e
  | some x =>
   rw[q]at e;cases e;cases j with
   | zero=>simp at h;subst h;rfl
   | succ j=>simpa using Kt (j:=j) q (by simpa using h)
 | .s i::r,p,sl,j,t,e,h=>by
  unfold args at e
  split at e
  .cases q:args (p.set i .no) r with
   | none=>rw[q]at e;cases e
   | some x =>
    rw[q]at e;cases e;cases j with
    | zero=>simp at h
    | succ j=>simpa using Kt (j:=j) q (by simpa using h)
  .cases e
theorem Gn:∀{as:List A} {p:P} {sl:List Sl} {j i:Nat},args p as=some sl->as[j]?=some (.s i)->∃t,p[i]?=some (Sl.o t)/\sl[j]?=some (.o t)
 | [],p,sl,j,t,e,h=>by simp at h
 | .t u::r,p,sl,j,i,e,h=>by
  unfold args at e;cases q:args p r with
  | none=>rw[q]at e;cases e
  | some x =>
   rw[q]at e;cases e;cases j with
   | zero=>simp at h
   | succ j=>simpa using Gn (j:=j) q (by simpa using h)
 | .s k::r,p,sl,j,i,e,h=>by
  unfold args at e
  split at e
  .rename_i u hu
   cases q:args (p.set k .no) r with
   | none=>rw[q]at e;cases e
   | some x =>
    rw[q]at e;cases e;cases j with
    | zero=>simp at h;subst h;exact⟨u,hu,rfl⟩
    | succ j =>
     obtain⟨t,h1,h2⟩:=Gn (j:=j) q (by simpa using h);rcases Zo h1 with ⟨_,z⟩ | ⟨_,h1⟩
     .cases z
     .exact⟨t,h1,by simpa using h2⟩
  .cases e
theorem Jx:∀{as:List A} {p:P} {sl:List Sl} {j k i:Nat},args p as=some sl->as[j]?=some (.s i)->as[k]?=some (.s i)->j=k
 | [],p,sl,j,k,i,e,h,_=>by simp at h
 | .t u::r,p,sl,j,k,i,e,h,h'=>by
  unfold args at e;cases q:args p r with
  | none=>rw[q]at e;cases e
  | some x =>
   cases j with
   | zero=>simp at h
   | succ j =>
    cases k with
    | zero=>simp at h'
    | succ k=>rw[Jx (j:=j) (k:=k) q (by simpa using h) (by simpa using h')]
 | .s l::r,p,sl,j,k,i,e,h,h'=>by
  unfold args at e
  split at e
  .cases q:args (p.set l .no) r with
   | none=>rw[q]at e;cases e
   | some x =>
    have no:∀{m:Nat},r[m]?=some (A.s i)->l≠i:=fun {m} hm z=>by
     subst z;obtain⟨t,h1,_⟩:=Gn (j:=m) q hm;rcases Zo h1 with ⟨_,z⟩ | ⟨z,_⟩
     .cases z
     .exact z rfl
    cases j with
    | zero =>
     cases k with
     | zero=>rfl
     | succ k =>
      simp at h;exact absurd h (no (m:=k) (by simpa using h'))
    | succ j =>
     cases k with
     | zero =>
      simp at h';exact absurd h' (no (m:=j) (by simpa using h))
     | succ k=>rw[Jx (j:=j) (k:=k) q (by simpa using h) (by simpa using h')]
  .cases e
theorem B2:∀{as:List A} {p p0 p2:P} {sl:List Sl} {ts:ZZ},args p0 as=some sl->outs p as ts=some p2 ->
  p2.length=p.length/\(∀i:Nat,A.s i ∉ as->p2[i]?=p[i]?)/\(∀j i:Nat,as[j]?=some (A.s i)->i<p.length->(∀k:Nat,as[k]?=some (A.s i)->k=j)->∃t,p2[i]?=some (mkO t)/\(C3 sl ts)[j]?=some (mkO t))/\∀(j:Nat) (t:T),as[j]?=some (A.t t)->(C3 sl ts)[j]?=some (Sl.f t)
 | [],p,p0,p2,sl,ts,e,h=>by
  cases e;cases ts with
  | nil=>cases h;exact⟨rfl,fun _ _=>rfl,fun j i h=>by simp at h,fun j t h=>by simp at h⟩
  | cons t ts=>cases h
 | .t u::r,p,p0,p2,sl,ts,e,h=>by
  unfold args at e;cases q:args p0 r with
  | none=>rw[q]at e;cases e
  | some x =>
   rw[q]at e;cases e;have h:outs p r ts=some p2:=by cases ts<;>exact h
   obtain⟨h1,h2,h3,h4⟩:=B2 q h;have eu:C3 (.f u::x) ts=.f u::C3 x ts:=by cases ts<;>rfl
   refine⟨h1,fun i m=>h2 i fun z=>m (Y7 _ z),fun j i hj hi hu=>?_,fun j t hj=>?_⟩
   .cases j with
    | zero=>simp at hj
    | succ j =>
     obtain⟨t,a1,a2⟩:=h3 j i (by simpa using hj) hi fun k hk=>by have:=hu (k+1) (by simpa using hk);omega
     exact⟨t,a1,by rw[eu];simpa using a2⟩
   .rw[eu];cases j with
    | zero=>simp at hj;subst hj;rfl
    | succ j=>simpa using h4 j t (by simpa using hj)
 | .s l::r,p,p0,p2,sl,ts,e,h=>by
  unfold args at e
  split at e
  .rename_i u hu0
   cases q:args (p0.set l .no) r with
   | none=>rw[q]at e;cases e
   | some x =>
    rw[q]at e;cases e;cases ts with
    | nil=>cases h
    | cons t ts =>
     have h:outs (p.set l (mkO t)) r ts=some p2:=h;obtain⟨h1,h2,h3,h4⟩:=B2 q h;rw[XY]at h1;refine⟨h1,fun i m=>?_,fun j i hj hi hu=>?_,fun j v hj=>?_⟩
     .rw[h2 i fun z=>m (Y7 _ z),List.getElem?_set_ne fun z=>m (by rw[z];exact Y5)]
     .cases j with
      | zero =>
       simp at hj;subst hj
       have no:A.s l ∉ r:=fun z=>by
        obtain⟨k,hk⟩:=List.getElem?_of_mem z;have:=hu (k+1) (by simpa using hk);omega
       exact⟨t,by rw[h2 l no,List.getElem?_set_self hi],rfl⟩
      | succ j =>
       obtain⟨v,a1,a2⟩:=h3 j i (by simpa using hj) (by rw[XY];exact hi) fun k hk=>by have:=hu (k+1) (by simpa using hk);omega
       exact⟨v,a1,a2⟩
     .cases j with
      | zero=>simp at hj
      | succ j=>exact h4 j v (by simpa using hj)
  .cases e
end
def spC(K:W.Frag)(mg:ZV)(n:Nat)(c:List Sl->Option (Sl×ZZ)):Sp:=fun vs H Q _=>vs.length=n/\∃F G as r,c as=some r/\Rel K mg F G as (vs.map some) H /\
 ∀F' H' v,Le F F'->Up K H H'->Rel K mg F' G (C3 as r.2) (vs.map some) H'->Res K mg F' G (C3 as r.2) (vs.map some) H' r.1 v->Q v H'
section
variable{K:W.Frag}{mg:ZV}{H F G:Hp}{p:P}{Z:L2.St}
theorem Jv{Z U:Type}{R:Z->U->Prop}:∀{xs:List Z} {ys:List U} {i:Nat} {x:Z},Paired R xs ys->xs[i]?=some x->∃y,ys[i]?=some y/\R x y
 | _,_,_,_,.nil,e=>by simp at e
 | _,_,0,_,.cons r _,e=>by simp at e;subst e;exact⟨_,rfl,r⟩
 | _,_,i+1,x,.cons _ t,e=>by
  obtain⟨u,h1,h2⟩:=Jv (i:=i) (x:=x) t (by simpa using e);exact⟨u,by simpa using h1,h2⟩
open Classical in
theorem Rel.call(r:Rel K mg F G p Z H){as:List A}{vs:ZQ}{sl:List Sl}(ha:Ars K mg F Z H as vs)(es:args p as=some sl){c:List Sl->Option (Sl×ZZ)}{rr:Sl×ZZ}(ec:c sl=some rr){p2:P}(eo:outs p as rr.2=some p2){n:Nat}(hn:vs.length=n){Q:VK}{E:XK}
  (q:∀F' H' v,Le F F'->Up K H H'->Rel K mg F' G p2 Z H'->Res K mg F' G p2 Z H' rr.1 v->Q v H'):spC K mg n c vs H Q E:=by
 have al:=Gr es;have vl:as.length=vs.length:=Paired.length ha
 let G':Hp:=fun a=>if ∃(i:Nat) (t:T),p[i]?=some (Sl.o t)/\Z[i]?=some (some (V.ref a))/\A.s i ∉ as then H a else G a
 have gIn:∀{a:Addr} {i:Nat} {t:T},p[i]?=some (Sl.o t)->Z[i]?=some (some (V.ref a))->A.s i ∉ as->G' a=H a:=fun {a i t} h1 h2 h3=>if_pos ⟨i,t,h1,h2,h3⟩;have Nt:∀{a:Addr},(¬ ∃(i:Nat) (t:T),p[i]?=some (Sl.o t)/\Z[i]?=some (some (V.ref a))/\A.s i ∉ as)->G' a=G a:=fun {a} h=>if_neg h
 have gOf:∀{a:Addr} {o:HO},G a=some o->G' a=some o:=fun {a o} h=>by
  refine(Nt fun⟨i,t,h1,h2,_⟩=>?_).trans h;obtain⟨b,h3,_,h4,_⟩:=r.ow i t h1;rw[h2]at h3;cases h3;rw[h]at h4;cases h4
 have gNo:∀{a:Addr},G' a=none->G a=none:=fun {a} h=>by
  cases e:G a with
  | none=>rfl
  | some o=>rw[gOf e]at h;cases h
 have arg:∀{j:Nat} {s:Sl},sl[j]?=some s->∃v,vs[j]?=some v/\((∃t,s=.f t/\as[j]?=some (.t t)/\IsT K mg H F t v)\/∃(i:Nat) (t:T),s=.o t/\as[j]?=some (.s i)/\p[i]?=some (Sl.o t)/\Z[i]?=some (some v)):=fun {j s} hs=>by
  have hj:j<as.length:=by rw[<-al];exact(Tz.mp hs).1
  obtain⟨a,hae⟩:∃a,as[j]?=some a:=⟨_,Ui hj⟩;obtain⟨v,hv,hr⟩:=Jv ha hae;refine⟨v,hv, ?_⟩;cases a with
  | t t =>
   have:=Kt es hae;rw[hs]at this;cases this;exact .inl ⟨t,rfl,hae,hr⟩
  | s i =>
   obtain⟨t,h1,h2⟩:=Gn es hae;rw[hs]at h2;cases h2;exact .inr ⟨i,t,rfl,hae,h1,hr⟩
 have vsome:∀{j:Nat} {v:V},vs[j]?=some v->(vs.map some)[j]?=some (some v):=fun {j v} h=>by rw[Fu,h];rfl
 have r0:Rel K mg F G' sl (vs.map some) H:=by
  refine⟨⟨r.b.f,fun a o e=>?_,fun a e=>?_⟩,fun j t e=>?_,fun j t e=>?_,fun j k t u a e1 e2 h1 h2=>?_,by rw[Yn,al,vl]⟩
  .by_cases h:∃(i:Nat) (t:T),p[i]?=some (Sl.o t)/\Z[i]?=some (some (V.ref a))/\A.s i ∉ as
   .obtain⟨i,t,h1,h2,h3⟩:=h;rw[gIn h1 h2 h3]at e;exact e
   .rw[Nt h]at e;exact r.b.g a o e
  .refine(Nt fun⟨i,t,h1,h2,_⟩=>?_).trans (r.b.d a e);obtain⟨b,h3,h4,_⟩:=r.ow i t h1;rw[h2]at h3;cases h3;exact e h4
  .obtain⟨v,hv,⟨t',et,_,it⟩ | ⟨i,t',et,_⟩⟩:=arg e
   .cases et;exact⟨v,vsome hv,it⟩
   .cases et
  .obtain⟨v,hv,⟨t',et,_,it⟩ | ⟨i,t',et,hj,hp,hσ⟩⟩:=arg e
   .cases et
   .cases et;obtain⟨a,h1,h2,h3,h4⟩:=r.ow i t hp;rw[hσ]at h1;cases h1;refine⟨a,vsome hv,h2, ?_,h4⟩;refine(Nt fun⟨k,u,q1,q2,q3⟩=>?_).trans h3;have:=r.ap k i u t a q1 hp q2 hσ;subst this;exact q3 (M0g hj)
  .obtain⟨v,hv,⟨t',et,_,it⟩ | ⟨i,t',et,hj,hp,hσ⟩⟩:=arg e1
   .cases et
   obtain⟨v',ed,⟨t',et',_,it⟩ | ⟨i',t'',et',hj',Sy,hσ'⟩⟩:=arg e2
   .cases et'
   rw[vsome hv]at h1;cases h1;rw[vsome ed]at h2;cases h2;have:=r.ap i i' t' t'' a hp Sy hσ hσ';subst this;exact Jx es hj hj'
 refine⟨hn,F,G',sl,rr,ec,r0,fun F' H' v l u r' rs=>q F' H' v l u ?_ ?_⟩
 .obtain⟨o1,o2,o3,o4⟩:=B2 es eo
  have kept:∀{i:Nat} {t:T} {a:Addr},p[i]?=some (Sl.o t)->Z[i]?=some (some (V.ref a))->A.s i ∉ as->F' a=none/\F9 K mg H' F' a t:=fun {i t a} h1 h2 h3=>by
   obtain⟨b,h4,h5,h6,h7⟩:=r.ow i t h1;rw[h2]at h4;cases h4;obtain⟨o,ho⟩:=h7.some;have g1:G' a=some o:=(gIn h1 h2 h3).trans ho;refine⟨?_,h7.up u l ((r'.b.g a o g1).trans ho.symm)⟩;cases e:F' a with
   | none=>rfl
   | some x =>
    have:=r'.b.d a (by rw[e];exact fun z=>nomatch z);rw[g1]at this;cases this
  have lent:∀{i:Nat} {t:T},p2[i]?=some (Sl.o t)->A.s i∈as->∃(a:Addr) (j:Nat),Z[i]?=some (some (V.ref a))/\as[j]?=some (A.s i)/\(C3 sl rr.2)[j]?=some (Sl.o t)/\(vs.map some)[j]?=some (some (V.ref a))/\G a=none:=fun {i t} h1 h2=>by
   obtain⟨j,hj⟩:=List.getElem?_of_mem h2;obtain⟨x,hx,_⟩:=Gn es hj;obtain⟨y,hy1,hy2⟩:=o3 j i hj (Tz.mp hx).1 fun k hk=>Jx es hk hj;rw[h1]at hy1;rw[<-G0 hy1]at hy2;obtain⟨v,hv,hσ⟩:=Jv ha hj;obtain⟨a,q1,q2,q3,q4⟩:=r.ow i x hx;rw[show Z[i]?=some (some v) from hσ]at q1;cases q1;exact⟨a,j,hσ,hj,hy2,vsome hv,q3⟩
  refine⟨⟨r'.b.f,fun a o e=>r'.b.g a o (gOf e),fun a e=>gNo (r'.b.d a e)⟩,fun i t e=>?_,fun i t e=>?_,fun i j t t' a e1 e2 h1 h2=>?_,by rw[o1];exact r.ln⟩
  .by_cases m:A.s i∈as
   .obtain⟨j,hj⟩:=List.getElem?_of_mem m;obtain⟨x,hx,_⟩:=Gn es hj;obtain⟨y,hy1,hy2⟩:=o3 j i hj (Tz.mp hx).1 fun k hk=>Jx es hk hj;rw[e]at hy1;exact absurd (G0 hy1).symm mkO_f
   .rw[o2 i m]at e;obtain⟨v,h1,h2⟩:=r.fz i t e;exact⟨v,h1,IsT.up u l t v h2⟩
  .by_cases m:A.s i∈as
   .obtain⟨a,j,h1,h2,h3,h4,h5⟩:=lent e m;obtain⟨b,q1,q2,q3,q4⟩:=r'.ow j t h3;rw[h4]at q1;cases q1;exact⟨a,h1,q2,h5,q4⟩
   .rw[o2 i m]at e;obtain⟨a,h1,h2,h3,h4⟩:=r.ow i t e;obtain⟨k1,k2⟩:=kept e h1 m;exact⟨a,h1,k1,h3,k2⟩
  .have own:∀{i:Nat} {t:T},p2[i]?=some (Sl.o t)->∃t',p[i]?=some (Sl.o t'):=fun {i t} h=>by
    by_cases m:A.s i∈as
    .obtain⟨j,hj⟩:=List.getElem?_of_mem m;obtain⟨x,hx,_⟩:=Gn es hj;exact⟨x,hx⟩
    .rw[o2 i m]at h;exact⟨t,h⟩
   obtain⟨x,hx⟩:=own e1;obtain⟨y,hy⟩:=own e2;exact r.ap i j x y a hx hy h1 h2
 .cases hr:rr.1 with
  | no=>rw[hr]at rs;exact rs
  | f t=>rw[hr]at rs;exact rs
  | o t =>
   rw[hr]at rs;obtain⟨a,rfl,h1,h2,h3,h4⟩:=rs;obtain⟨o1,o2,o3,o4⟩:=B2 es eo;refine⟨a,rfl,h1,gNo h2,h3,fun i t e hσ=>?_⟩;by_cases m:A.s i∈as
   .obtain⟨j,hj⟩:=List.getElem?_of_mem m;obtain⟨x,hx,_⟩:=Gn es hj;obtain⟨y,hy1,hy2⟩:=o3 j i hj (Tz.mp hx).1 fun k hk=>Jx es hk hj;obtain⟨v,hv,hs⟩:=Jv ha hj;rw[show Z[i]?=some (some v) from hs]at hσ;cases hσ;rw[e]at hy1;rw[<-G0 hy1]at hy2;exact h4 j t hy2 (vsome hv)
   .rw[o2 i m]at e;obtain⟨b,q1,q2,q3,q4⟩:=r.ow i t e;rw[hσ]at q1;cases q1;obtain⟨o,ho⟩:=q4.some;rw[gIn e hσ m,ho]at h2;cases h2
end
theorem PE.imp{X:Cx}{e:Expr}{t t':TE}(h:PE X e t)(f:∀Z H Q,t' Z H Q->t Z H Q):PE X e t':=fun XB s Z H Q I q=>h XB s Z H Q I (f Z H Q q)
inductive LE_I(K:PySem.W.Frag)(mg:ZV)(w:W)(e:E)(Z:L2.St)(H:Hp)(Q:VK):Prop
 | mk(F G p r p')(Yh:Rel K mg F G p Z H)(Ys:ev w e p=some (r,p'))(Vt:∀F' H' v,Le F F'->Up K H H'->Rel K mg F' G p' Z H'->Res K mg F' G p' Z H' r v->Q v H'):LE_I K mg w e Z H Q
def LE(K:PySem.W.Frag)(mg:ZV)(w:W)(e:E):TE:=fun Z H Q=>LE_I K mg w e Z H Q
inductive LA_I(K:PySem.W.Frag)(mg:ZV)(w:W)(m:Bool)(e:E)(Z:L2.St)(H:Hp)(Q:(ZQ->Hp->Prop)):Prop
 | mk(F G p as p')(Yh:Rel K mg F G p Z H)(Ys:Jd w m e p=some (as,p'))(Vt:∀F' H' vs,Le F F'->Up K H H'->Rel K mg F' G p' Z H'->Ars K mg F' Z H' as vs->Q vs H'):LA_I K mg w m e Z H Q
def LA(K:PySem.W.Frag)(mg:ZV)(w:W)(m:Bool)(e:E):TA:=fun Z H Q=>LA_I K mg w m e Z H Q
inductive LH_I(K:PySem.W.Frag)(mg:ZV)(w:W)(m:Bool)(e:E)(Z:L2.St)(H:Hp)(Q:VK):Prop
 | mk(F G p a p')(Yh:Rel K mg F G p Z H)(Ys:Pn m e p (toT (ev w e p))=some (a,p'))(Vt:∀F' H' v,Le F F'->Up K H H'->Rel K mg F' G p' Z H'->Ar K mg F' Z H' a v->Q v H'):LH_I K mg w m e Z H Q
def LH(K:PySem.W.Frag)(mg:ZV)(w:W)(m:Bool)(e:E):TE:=fun Z H Q=>LH_I K mg w m e Z H Q
inductive LB_I(K:PySem.W.Frag)(mg:ZV)(w:W)(e:E)(Z:L2.St)(H:Hp)(Q:(Bool->Hp->Prop)):Prop
 | mk(F G p b p')(Yh:Rel K mg F G p Z H)(Ys:J3 (ev w e p)=some (b,p'))(Vt:∀F' H',Le F F'->Up K H H'->Rel K mg F' G p' Z H'->Q b H'):LB_I K mg w e Z H Q
def LB(K:PySem.W.Frag)(mg:ZV)(w:W)(e:E):TT:=fun Z H Q=>LB_I K mg w e Z H Q
def noStar:Expr->Bool
 | .Starred _ _=>false
 | _=>true
theorem Z4{e:Expr}{es:ZC}{env:Env}(h:noStar e=true):starEach (e::es) env=(false,eval e env)::starEach es env:=by
 cases e<;>first | rfl | cases h
theorem Y1:∀(es:ZC) (env:Env) (pos:Pos),(∀e∈es,noStar e=true)->(backTo pos (starEach es env)).any (·.1)=false
 | [],env,pos,h=>rfl
 | e::es,env,pos,h=>by
  rw[Z4 (h e Y5)];have:=Y1 es env pos fun e m=>h e (Y7 _ m);show (false || (backTo pos (starEach es env)).any (·.1))=false;rw[this];rfl
inductive Hs(X:Cx)(w:W)(m:Bool):E->ZC->Prop
 | nil:Hs X w m .nil []
 | cons {a r:E} {x:Expr} {xs:ZC} (h:PE X x (LH X.K X.mg w m a)) (s:noStar x=true) (t:Hs X w m r xs):Hs X w m (.cons a r) (x::xs)
section
variable{X:Cx}{w:W}{m:Bool}
theorem Hs.star:∀{es:E} {xs:ZC},Hs X w m es xs->∀x∈xs,noStar x=true
 | _,_,.nil,x,h=>absurd h Vk
 | _,_,.cons h s t,x,hx=>by
  rcases Yw.mp hx with rfl | hx
  .exact s
  .exact t.star x hx
theorem Zu{a r:E}{p:P}{as:List A}{p':P}(e:Jd w m (.cons a r) p=some (as,p')):∃a' p1 as',Pn m a p (toT (ev w a p))=some (a',p1)/\Jd w m r p1=some (as',p')/\as=a'::as':=by
 unfold Jd at e;cases e1:Pn m a p (toT (ev w a p)) with
 | none=>rw[e1]at e;cases e
 | some q =>
  rw[e1]at e;have e:(Jd w m r q.2).map (fun s=>(q.1::s.1,s.2))=some (as,p'):=e;cases e2:Jd w m r q.2 with
  | none=>rw[e2]at e;cases e
  | some s=>rw[e2]at e;cases e;exact⟨q.1,q.2,s.1,rfl,e2,rfl⟩
theorem Hs.pa:∀{es:E} {xs:ZC},Hs X w m es xs->PA X xs (LA X.K X.mg w m es)
 | _,_,.nil=>fun pos XB s Z H Q I h=>by
  obtain⟨F,G,p,as,p',rel,e,k⟩:=h;have e:some (([]:List A),p)=some (as,p'):=by cases m<;>exact e
  cases e;exact Lw pos XB s Z H Q I (k F H [] (Le.refl F) (Up.refl H) rel .nil)
 | .cons a r,_,.cons h s t=>fun pos XB s' Z H Q I hq=>by
  obtain⟨F,G,p,as,p',rel,e,k⟩:=hq;obtain⟨a',p1,as',e1,e2,rfl⟩:=Zu e;refine Mq h t.pa (Z4 s) pos XB s' Z H Q I ⟨F,G,p,a',p1,rel,e1,fun F1 H1 v l1 u1 r1 Je=>⟨F1,G,p1,as',p',r1,e2,fun F2 H2 vs l2 u2 r2 C1=>?_⟩⟩;exact k F2 H2 _ (l1.trans l2) (u1.trans u2) r2 (.cons (Ar.up u2 l2 Je) C1)
theorem Vj{p:P}{as:List A}{p':P}(e:Jd w m .nil p=some (as,p')):as=[]/\p'=p:=by
 have e:some (([]:List A),p)=some (as,p'):=by cases m<;>exact e
 cases e;exact⟨rfl,rfl⟩
theorem Zt{p:P}{a:A}{as:List A}{ts:ZZ}(e:looks p (a::as)=some ts):∃t r,look p a=some t/\looks p as=some r/\ts=t::r:=by
 unfold looks at e;cases e1:look p a with
 | none=>rw[e1]at e;cases e
 | some t =>
  rw[e1]at e;have e:(looks p as).map (t::·)=some ts:=e;cases e2:looks p as with
  | none=>rw[e2]at e;cases e
  | some r=>rw[e2]at e;cases e;exact⟨t,r,rfl,rfl,rfl⟩
variable{F G:Hp}{p:P}{Z:L2.St}{H:Hp}
theorem Qi{a:E}{as:List A}{ts:ZZ}{p':P}(e:Jd w m (.cons a .nil) p=some (as,p'))(el:looks p' as=some ts)(rel:Rel X.K X.mg F G p Z H){R:V->Hp->Prop}
  (k:∀F' H' x t,ts=[t]->Le F F'->Up X.K H H'->Rel X.K X.mg F' G p' Z H'->B7 X.K X.mg H' F' t x->R x H'):LH X.K X.mg w m a Z H R:=by
 obtain⟨a',p1,as',e1,e2,rfl⟩:=Zu e;obtain⟨rfl,rfl⟩:=Vj e2;obtain⟨t,r,l1,l2,rfl⟩:=Zt el;cases l2;exact⟨F,G,p,a',_,rel,e1,fun F1 H1 x zp u1 r1 Je=>k F1 H1 x t rfl zp u1 r1 (r1.look l1 Je)⟩
theorem R4{a b:E}{as:List A}{ts:ZZ}{p':P}(e:Jd w m (.cons a (.cons b .nil)) p=some (as,p'))(el:looks p' as=some ts)(rel:Rel X.K X.mg F G p Z H){R:V->V->Hp->Prop}
  (k:∀F' H' x y t u,ts=[t,u]->Le F F'->Up X.K H H'->Rel X.K X.mg F' G p' Z H'->B7 X.K X.mg H' F' t x->B7 X.K X.mg H' F' u y->R x y H'):LH X.K X.mg w m a Z H fun x H1=>LH X.K X.mg w m b Z H1 fun y H2=>R x y H2:=by
 obtain⟨a',p1,as',e1,e2,rfl⟩:=Zu e;obtain⟨b',p2,as'',e3,e4,rfl⟩:=Zu e2;obtain⟨rfl,rfl⟩:=Vj e4;obtain⟨t,r,l1,l2,rfl⟩:=Zt el;obtain⟨u,r,l3,l4,rfl⟩:=Zt l2;cases l4;exact⟨F,G,p,a',p1,rel,e1,fun F1 H1 x zp u1 r1 Je=>⟨F1,G,p1,b',_,r1,e3,fun F2 H2 y Sw u2 r2 C1=>k F2 H2 x y t u rfl (zp.trans Sw) (u1.trans u2) r2 (r2.look l1 (Ar.up u2 Sw Je)) (r2.look l3 C1)⟩⟩
theorem readN{es:E}{as:List A}{ts:ZZ}{p':P}(e:Jd w m es p=some (as,p'))(el:looks p' as=some ts)(rel:Rel X.K X.mg F G p Z H){R:ZQ->Hp->Prop}
  (k:∀F' H' vs,Le F F'->Up X.K H H'->Rel X.K X.mg F' G p' Z H'->Paired (B7 X.K X.mg H' F') ts vs->R vs H'):LA X.K X.mg w m es Z H R :=
 ⟨F,G,p,as,p',rel,e,fun F' H' vs l u r ar=>k F' H' vs l u r (r.looks el ar)⟩
end
theorem Me{K:W.Frag}{mg:ZV}{F H:Hp}{Z:L2.St}{p:P}:∀{as:List A} {vs:ZQ} {ts:ZZ},(∀a∈as,∃t,a=.t t)->looks p as=some ts->Ars K mg F Z H as vs->Zx K mg H F ts vs
 | [],_,ts,_,e,.nil=>by cases e;rfl
 | a::as,_,ts,ha,e,.cons h t=>by
  obtain⟨u,r,l1,l2,rfl⟩:=Zt e;obtain⟨u',rfl⟩:=ha a Y5;cases l1;exact⟨_,_,rfl,h,Me (fun a m=>ha a (Y7 _ m)) l2 t⟩
def opOf:Op->Operator
 | .add=>.Add
 | .sub=>.Sub
 | .mul=>.Mult
 | .fdiv=>.FloorDiv
 | .mod=>.Mod
 | .pow=>.Pow
noncomputable def G9:Cm->CmpOp
 | .eq=>.Eq
 | .ne=>.NotEq
 | .lt=>.Lt
 | .le=>.LtE
 | .gt=>.Gt
 | .ge=>.GtE
 | .isin=>.In
 | .notin=>.NotIn
 | .is=>.Is
 | .isnt=>.IsNot
section
variable{K:W.Frag}{mg:ZV}{H F G:Hp}
mutual
theorem b9(fh:∀a o,F a=some o->H a=some o):∀(t:T) (v:V) (d:D),IsT K mg H F t v->toD t=some d->Vg K H d v
 | .non,v,d,h,e=>by cases e;exact h
 | .bl b,v,d,h,e=>by cases e;exact h
 | .int i,v,d,h,e=>by cases e;exact h
 | .str x,v,d,h,e=>by cases e;exact h
 | .tup ts,v,d,h,e=>by
  obtain⟨a,vs,rfl,q,_,r⟩:=h;unfold toD at e;cases q2:V8 ts with
  | none=>rw[q2]at e;cases e
  | some ds=>rw[q2]at e;cases e;exact⟨a,vs,rfl,q,M0 fh ts vs ds r q2⟩
 | .lst ts,v,d,h,e=>by
  obtain⟨a,vs,rfl,q,_,r⟩:=h;unfold toD at e;cases q2:V8 ts with
  | none=>rw[q2]at e;cases e
  | some ds =>
   rw[q2]at e;cases e;refine⟨a,vs,rfl,.inl ?_,M0 fh ts vs ds r q2⟩;rcases q with q | ⟨o,q⟩
   .exact .inl (fh _ _ q)
   .exact .inr ⟨o,fh _ _ q⟩
 | .dct _,v,d,h,e=>by cases e
 | .fn _,v,d,h,e=>by cases e
theorem M0(fh:∀a o,F a=some o->H a=some o):∀(ts:ZZ) (vs:ZQ) (ds:List D),Zx K mg H F ts vs->V8 ts=some ds->Ze K H ds vs
 | [],vs,ds,h,e=>by cases e;exact h
 | t::ts,vs,ds,h,e=>by
  obtain⟨v,r,rfl,h1,h2⟩:=h;unfold V8 at e;cases q1:toD t with
  | none=>rw[q1]at e;cases e
  | some d =>
   rw[q1]at e;have e:(V8 ts).map (d::·)=some ds:=e;cases q2:V8 ts with
   | none=>rw[q2]at e;cases e
   | some ds'=>rw[q2]at e;cases e;exact⟨v,r,rfl,b9 fh t v d h1 q1,M0 fh ts r ds' h2 q2⟩
end
theorem v7(fh:∀a o,F a=some o->H a=some o){t:T}{v:V}{d:D}(h:B7 K mg H F t v)(e:toD t=some d):Vg K H d v:=by
 cases t with
 | lst ts =>
  obtain⟨a,vs,rfl,q,_,r⟩:=h;unfold toD at e;cases q2:V8 ts with
  | none=>rw[q2]at e;cases e
  | some ds=>rw[q2]at e;cases e;exact⟨a,vs,rfl,.inl q,M0 fh ts vs ds r q2⟩
 | dct _=>cases e
 | _=>exact b9 fh _ v d h e
theorem d0{a b:T}{r:Bool}(h:eqT a b=some r):∃x y,toD a=some x/\toD b=some y/\Uv x<=100/\r=Yp x y:=by
 have gen:∀{a b:T},((toD a).bind fun x=>(toD b).bind fun y=>if Uv x<=100 then some (Yp x y) else none)=some r->∃x y,toD a=some x/\toD b=some y/\Uv x<=100/\r=Yp x y:=fun {a b} h=>by
  cases e1:toD a with
  | none=>rw[e1]at h;cases h
  | some x =>
   rw[e1]at h;have h:((toD b).bind fun y=>if Uv x<=100 then some (Yp x y) else none)=some r:=h;cases e2:toD b with
   | none=>rw[e2]at h;cases h
   | some y =>
    rw[e2]at h;have h:(if Uv x<=100 then some (Yp x y) else none)=some r:=h
    split at h
    .rename_i q;cases h;exact⟨x,y,rfl,rfl,q,rfl⟩
    .cases h
 unfold eqT at h
 split at h
 .cases h;exact⟨_,_,rfl,rfl,Ju _,by simp[Yp,Bool.beq_eq_decide_eq]⟩
 .cases h;exact⟨_,_,rfl,rfl,Ju _,by simp[Yp,Bool.beq_eq_decide_eq]⟩
 .exact gen h
theorem Fc{a:T}{x:D}(ea:toD a=some x):∀{ts:ZZ} {r:Bool},J0 a ts=some r->∃ds,V8 ts=some ds/\(∀d∈ds,Uv d<=100)/\r=ds.any fun e=>Yp e x
 | [],r,h=>by cases h;exact⟨[],rfl,fun _ m=>absurd m Vk,rfl⟩
 | t::ts,r,h=>by
  unfold J0 at h;cases e1:eqT t a with
  | none=>rw[e1]at h;cases h
  | some b =>
   rw[e1]at h;have h:(J0 a ts).map (b || ·)=some r:=h;cases e2:J0 a ts with
   | none=>rw[e2]at h;cases h
   | some r' =>
    rw[e2]at h;cases h;obtain⟨d,y,q1,q2,q3,q4⟩:=d0 e1;rw[ea]at q2;cases q2;obtain⟨ds,s1,s2,s3⟩:=Fc ea e2;refine⟨d::ds,by unfold V8;rw[q1,s1];rfl,fun z m=>?_,by rw[List.any_cons,q4,s3]⟩;rcases Yw.mp m with rfl | m
    .exact q3
    .exact s2 z m
theorem P0{t:T}{v:V}(h:IsT K mg H F t v)(e:Iw t=true):V6 v=true/\∃d,toD t=some d/\B6 d=some v:=by
 cases t<;>first
  | (cases(show v=_ from h);exact⟨rfl,_,rfl,rfl⟩)
  | cases e
theorem Pe:∀{ts:ZZ} {vs:ZQ},Zx K mg H F ts vs->ts.all Iw=true->vs.all V6=true/\∃ds,V8 ts=some ds/\Paired (fun d v=>B6 d=some v) ds vs
 | [],vs,h,_=>by cases(show vs=[] from h);exact⟨rfl,[],rfl,.nil⟩
 | t::ts,vs,h,e=>by
  obtain⟨v,r,rfl,h1,h2⟩:=h;rw[List.all_cons,Y6]at e;obtain⟨f1,d,q1,q2⟩:=P0 h1 e.1;obtain⟨f2,ds,s1,s2⟩:=Pe h2 e.2;exact⟨by rw[List.all_cons,f1,f2];rfl,d::ds,by unfold V8;rw[q1,s1];rfl,.cons q2 s2⟩
theorem O5{x:D}{v:V}(h:B6 x=some v):∀{ds:List D} {vs:ZQ},Paired (fun d v=>B6 d=some v) ds vs->(ds.any fun e=>Yp e x)=inV v vs
 | _,_,.nil=>rfl
 | _,_,.cons q t=>by
  unfold inV;rw[List.any_cons,List.any_cons,Ms q h,O5 h t]
  rfl
theorem Zd.val(k:Key):∀{XM:ZX} {ks:List (Key×V)},Zd K mg H F XM ks->(∀t,Zr XM k=some t->∃v,G2 ks k=some v/\IsT K mg H F t v)/\(Zr XM k=none->G2 ks k=none)
 | [],ks,h=>by cases(show ks=[] from h);exact⟨(fun t e=>by cases e),fun _=>rfl⟩
 | (k',t)::XM,ks,h=>by
  obtain⟨⟨k2,v⟩,r,rfl,⟨e,h1⟩,h2⟩:=h;obtain rfl:k2=k':=e;obtain⟨i1,i2⟩:=Zd.val k h2;unfold Zr;rw[List.find?_cons];by_cases q:k2=k
  .rw[Dw q,D7 (show (k2,v).1=k from q)];exact⟨fun t' e=>by cases e;exact⟨v,rfl,h1⟩,fun e=>nomatch e⟩
  .rw[Dl q,D8 (show ¬ (k2,v).1=k from q)];exact⟨i1,i2⟩
theorem Mg{t:T}{k:Key}{v:V}(e:keyT t=some k)(h:B7 K mg H F t v):v=kV k:=by
 cases t with
 | int i=>cases e;exact h
 | str i=>cases e;exact h
 | _=>cases e
theorem Zx.ints:∀{ts:ZZ} {vs:ZQ} {zs:ZL},Zx K mg H F ts vs->Uw ts=some zs->vs=zs.map V.int
 | [],vs,zs,h,e=>by cases e;exact h
 | t::ts,vs,zs,h,e=>by
  obtain⟨v,r,rfl,q,w⟩:=h;cases t with
  | int i =>
   obtain⟨K1,e1,rfl⟩:=Z8.mp (show (Uw ts).map (i::·)=some zs from e);rw[Zx.ints w e1];cases(show v=.int i from q)
   rfl
  | _=>cases e
theorem Zx.strs:∀{ts:ZZ} {vs:ZQ} {zs:ZD},Zx K mg H F ts vs->Ue ts=some zs->vs=zs.map V.str
 | [],vs,zs,h,e=>by cases e;exact h
 | t::ts,vs,zs,h,e=>by
  obtain⟨v,r,rfl,q,w⟩:=h;cases t with
  | str i =>
   obtain⟨K1,e1,rfl⟩:=Z8.mp (show (Ue ts).map (i::·)=some zs from e);rw[Zx.strs w e1];cases(show v=.str i from q)
   rfl
  | _=>cases e
end
theorem le_not(i j:Int):decide (i<=j)=!decide (j<i):=by rw[<-decide_not];exact decide_eq_decide.mpr Int.not_lt.symm
section
variable{X:Cx}{XB:ZY}{Z:L2.St}{H F G:Hp}{s:Shared}{Q:VK}{x y:V}{v u:Value}{t t':T}
theorem eq_str{A:Around}{w:Str}{tk:Tok}{b:Bool}(I:Inv X XB Z H s)(hu:A.units<cLine)(rx:RelV x v)(s1:B7 X.K X.mg H F t x)(e:mh t [w]=some b):SeqAt.EqAt A s (.str w tk) v b:=by
 cases t with
 | non=>cases(show x=_ from s1);cases e;cases rx;exact SeqAt.EqAt.str_none w tk
 | bl c=>cases(show x=_ from s1);cases e;cases rx;exact SeqAt.EqAt.str_bool w tk c
 | int c=>cases(show x=_ from s1);cases e;obtain⟨t,rfl⟩:=rx;exact SeqAt.EqAt.str_int w tk c t
 | str c =>
  cases(show x=_ from s1);obtain⟨t,rfl⟩:=rx;have e:some ([w].any fun y=>decide (y=c))=some b:=e;cases e;have:=SeqAt.EqAt.str_str (A:=A) (s:=s) w tk c t;rw[List.any_cons,List.any_nil,Bool.or_false, <-Bool.beq_eq_decide_eq];exact this
 | tup ts=>obtain⟨a,vs,rfl,q,_⟩:=s1;cases e;cases rx;obtain⟨XD,_,tp,_⟩:=I.tuple q;exact SeqAt.EqAt.str_tuple w tk tp hu
 | lst ts=>obtain⟨a,vs,rfl,q,_⟩:=s1;cases e;cases rx;obtain⟨XD,_,pl,_⟩:=I.list (.inl q);exact SeqAt.EqAt.str_list w tk pl.isList hu
 | dct ts =>
  obtain⟨a,ks,rfl,q,_⟩:=s1;cases e;cases rx;obtain⟨_,_,vs,_,⟨c,dd,dt,sl⟩,es,ep,h1,⟨h2,h3,h4⟩,h5,_⟩:=q.ok I.hok;simp only at h2 h3 h4 h5;subst h2 h3 h4 h5;exact SeqAt.EqAt.str_dict w tk h1 hu
 | fn _=>cases e
theorem eg{t:T}{e:Str->Bool}:∀{ss:ZD} {b:Bool},mh t ss=some b->(∀w,mh t [w]=some (e w))->b=ss.any e
 | ss,b,h,he=>by
  cases t with
  | str c =>
   have h:some (ss.any fun y=>decide (y=c))=some b:=h;cases h
   have:e=fun y=>decide (y=c):=funext fun w=>by
    have:=he w;have this:some ([w].any fun y=>decide (y=c))=some (e w):=this;rw[List.any_cons,List.any_nil,Bool.or_false]at this;exact(G0 this).symm
   rw[this]
  | fn _=>cases h
  | _ =>
   have h:some false=some b:=h;cases h;have:e=fun _=>false:=funext fun w=>(G0 (he w)).symm;rw[this];simp
theorem O4{e:Str->Bool}{e':Value->Bool}(h:∀w tk,e' (.str w tk)=e w):∀{ss:ZD} {us:ZM},Zw (ss.map V.str) us->us.any e'=ss.any e
 | [],_,r=>by cases r;rfl
 | w::ss,_,r=>by
  cases r with | cons r1 r2 =>
  obtain⟨tk,rfl⟩:=(show ∃t,_=Value.str w t from r1);rw[List.any_cons,List.any_cons,h,O4 h r2]
theorem A4{ss:ZD}{b:Bool}{a:Addr}(I:Inv X XB Z H s)(un:X.A.units+150<cLine)(rx:RelV x v)(s1:B7 X.K X.mg H F t x)(e:mh t ss=some b)(hq:Vc X.K H a (ss.map V.str)\/Yu X.K H a (ss.map V.str)) :
  (Q (.bl b) H->wpAny (model X.prog X.w) X.A (compareOp .In v (.ref a)) (EP X XB Z Q) X.xe s)/\(Q (.bl (!b)) H->wpAny (model X.prog X.w) X.A (compareOp .NotIn v (.ref a)) (EP X XB Z Q) X.xe s):=by
 have h1:X.A.in1.units<cLine:=by show X.A.units+1<cLine;omega
 have ex:∀w,∃b,mh t [w]=some b:=fun w=>by cases t<;>first | exact⟨_,rfl⟩ | cases e
 obtain⟨g,hg⟩:∃g:Str->Bool,∀w,mh t [w]=some (g w):=⟨fun w=>(mh t [w]).getD false,fun w=>by obtain⟨b,h⟩:=ex w;show _=some ((mh t [w]).getD false);rw[h];rfl⟩;have eb:=eg e hg;subst eb
 have go:∀{us:ZM},Zw (ss.map V.str) us->(∀y,y∈us.toArray->SeqAt.EqAt X.A.in1 s y v (match y with | .str w _=>g w | _=>false)):=fun {us} r y m=>by
  have m:y∈us:=by simpa using m
  obtain⟨i,hi⟩:=List.getElem?_of_mem m;have hl:=(Tz.mp hi).1;have ll:=r.length;rw[Yn]at ll;obtain⟨w,ew⟩:∃w,ss[i]?=some w:=⟨_,Ui (by omega)⟩;obtain⟨y',h',rr⟩:=Zw.get r (show (ss.map V.str)[i]?=some (.str w) by rw[Fu,ew];rfl);rw[hi]at h';cases h';obtain⟨tk,rfl⟩:=(show ∃t,y=Value.str w t from rr);exact eq_str I h1 rx s1 (hg w)
 have an:∀{us:ZM},Zw (ss.map V.str) us->us.toArray.any (fun y=>match y with | .str w _=>g w | _=>false)=ss.any g:=fun {us} r=>by
  rw[List.any_toArray];exact O4 (fun _ _=>rfl) r
 rcases hq with hq | hq
 .obtain⟨XD,r,pl,_⟩:=I.list hq;exact⟨fun q=>SeqAt.in_listAt _ pl.isList (go r) ⟨.bl _,H,I,rfl,by rw[an r];exact q⟩,fun q=>SeqAt.notIn_listAt _ pl.isList (go r) ⟨.bl _,H,I,rfl,by rw[an r];exact q⟩⟩
 .obtain⟨XD,r,pl,_⟩:=I.tuple hq;exact⟨fun q=>SeqAt.in_tupleAt _ pl (go r) ⟨.bl _,H,I,rfl,by rw[an r];exact q⟩,fun q=>SeqAt.notIn_tupleAt _ pl (go r) ⟨.bl _,H,I,rfl,by rw[an r];exact q⟩⟩
theorem eq_nil{ts:ZZ}(I:Inv X XB Z H s)(un:X.A.units+150<cLine)(rx:RelV x v)(ry:RelV y u)(s1:B7 X.K X.mg H F (.tup ts) x)(s2:B7 X.K X.mg H F (.tup []) y) :
  (Q (.bl ts.isEmpty) H->wpAny (model X.prog X.w) X.A (compareOp .Eq v u) (EP X XB Z Q) X.xe s)/\(Q (.bl (!ts.isEmpty)) H->wpAny (model X.prog X.w) X.A (compareOp .NotEq v u) (EP X XB Z Q) X.xe s):=by
 obtain⟨a,vs,rfl,q1,_,a1⟩:=s1;obtain⟨b,ws,rfl,q2,_,a2⟩:=s2;cases(show ws=[] from a2);cases rx;cases ry;obtain⟨i1,r1,p1,_⟩:=I.tuple q1;obtain⟨i2,r2,p2,_⟩:=I.tuple q2;have e2:i2=[]:=by cases r2;rfl
 subst e2
 have ev:((List.range (min i1.toArray.size ([]:ZM).toArray.size)).all (fun _=>true) && i1.toArray.size == ([]:ZM).toArray.size)=ts.isEmpty:=by
  have l1:=a1.length;have l2:=r1.length;have l3:ts.length=i1.length:=l1.trans l2;cases ts with
  | nil=>cases i1 with
   | nil=>rfl
   | cons _ _=>simp at l3
  | cons _ _=>cases i1 with
   | nil=>simp at l3
   | cons _ _=>simp
 have hu:X.A.units<cLine:=by omega
 exact⟨fun q=>SeqAt.eq_tupleAt (e:=fun _=>true) p1 p2 hu (fun j h1 h2=>absurd h2 (by simp)) ⟨.bl _,H,I,rfl,by rw[ev];exact q⟩,
  fun q=>SeqAt.RcNeAt.tuples (e:=fun _=>true) p1 p2 hu (fun j h1 h2=>absurd h2 (by simp)) X.prog X.w X.xe _ ⟨.bl _,H,I,rfl,by rw[ev];exact q⟩⟩
theorem Nh{b:Bool}(c:Cm)(I:Inv X XB Z H s)(fh:∀a o,F a=some o->H a=some o)(un:X.A.units+150<cLine)(rx:RelV x v)(ry:RelV y u)(s1:B7 X.K X.mg H F t x)(s2:B7 X.K X.mg H F t' y)(e:Ov c t t'=some b)(q:Q (.bl b) H) :
  wpAny (model X.prog X.w) X.A (compareOp (G9 c) v u) (EP X XB Z Q) X.xe s:=by
 have pIn:∀{b:Bool},nr t t'=some b->(Q (.bl b) H->wpAny (model X.prog X.w) X.A (compareOp .In v u) (EP X XB Z Q) X.xe s)/\(Q (.bl (!b)) H->wpAny (model X.prog X.w) X.A (compareOp .NotIn v u) (EP X XB Z Q) X.xe s):=fun {b} e=>by
  unfold nr at e
  split at e
  .split at e
   .rename_i es
    obtain⟨a,vs,rfl,q1,z,ar⟩:=s2;cases ar.strs es;cases ry;exact A4 I un rx s1 e (.inl (.inl q1))
   .obtain⟨a,vs,rfl,q1,z,ar⟩:=s2;obtain⟨d,e1,e⟩:=ZO.mp e;obtain⟨ds,s3,s4,rfl⟩:=Fc e1 e;have i1:=v7 fh s1 e1;have i2:=M0 fh _ vs ds ar s3;exact⟨fun q=>op_inD XB s Z H x _ v u Q I rx ry ⟨a,vs,d,ds,rfl,.inl q1,i1,i2,fun e m=>by have:=s4 e m;omega,q⟩,fun q=>zj XB s Z H x _ v u Q I rx ry ⟨a,vs,d,ds,rfl,.inl q1,i1,i2,fun e m=>by have:=s4 e m;omega,q⟩⟩
  .split at e
   .rename_i es
    obtain⟨a,vs,rfl,q1,z,ar⟩:=s2;cases ar.strs es;cases ry;exact A4 I un rx s1 e (.inr q1)
   .split at e
    .rename_i ts _ _ hf
     obtain⟨a,vs,rfl,q1,z,ar⟩:=s2;obtain⟨f1,d,e1,e2⟩:=P0 (K:=X.K) (mg:=X.mg) (H:=H) (F:=F) (t:=t) (v:=x) (by cases t<;>first | exact s1 | cases hf.1) hf.1;obtain⟨f2,ds,e3,e4⟩:=Pe ar hf.2;obtain⟨ds',s3,s4,rfl⟩:=Fc e1 e;rw[e3]at s3;cases s3;rw[O5 e2 e4];exact⟨fun q=>zg XB s Z H x _ v u Q I rx ry ⟨a,vs,rfl,.inr q1,f1,f2,q⟩,fun q=>Lg XB s Z H x _ v u Q I rx ry ⟨a,vs,rfl,.inr q1,f1,f2,q⟩⟩
    .cases e
  .rename_i XM _
   obtain⟨a,ks,rfl,q1,z,ar⟩:=s2;obtain⟨k,e1,rfl⟩:=Z8.mp e;cases Mg e1 s1;cases ry;have hu:X.A.units+1<cLine:=by omega
   have g:M6 H a (kV k) (G2 ks k):=.inl ⟨ks,k,q1,rfl,rfl⟩;obtain⟨i1,i2⟩:=Zd.val k ar
   have es:(G2 ks k).isSome=(Zr XM k).isSome:=by
    cases e2:Zr XM k with
    | none=>rw[i2 e2];rfl
    | some t=>obtain⟨v,h1,_⟩:=i1 t e2;rw[h1];rfl
   exact⟨fun q=>d_in hu I g rx fun s' I'=>⟨.bl _,H,I',rfl,by rw[es];exact q⟩,fun q=>Zz0 hu I g rx fun s' I'=>⟨.bl _,H,I',rfl,by rw[es];exact q⟩⟩
  .split at e
   .cases e;cases(show x=_ from s1);cases(show y=_ from s2);exact⟨fun q=>zk XB s Z H _ _ v u Q I rx ry ⟨_,_,rfl,rfl,q⟩,fun q=>Ly XB s Z H _ _ v u Q I rx ry ⟨_,_,rfl,rfl,q⟩⟩
   .cases e
  .cases e
 have pIs:∀{b:Bool},isT t t'=some b->(Q (.bl b) H->wpAny (model X.prog X.w) X.A (compareOp .Is v u) (EP X XB Z Q) X.xe s)/\(Q (.bl (!b)) H->wpAny (model X.prog X.w) X.A (compareOp .IsNot v u) (EP X XB Z Q) X.xe s):=fun {b} e=>by
  unfold isT at e
  split at e
  .cases e;cases(show x=_ from s1);cases(show y=_ from s2);exact⟨fun q=>fk XB s Z H _ _ v u Q I rx ry ⟨rfl,q⟩,fun q=>Ab XB s Z H _ _ v u Q I rx ry ⟨rfl,q⟩⟩
  .cases e;cases(show x=_ from s1);cases(show y=_ from s2);exact⟨fun q=>op_isB XB s Z H _ _ v u Q I rx ry ⟨_,_,rfl,rfl,q⟩,fun q=>zy XB s Z H _ _ v u Q I rx ry ⟨_,_,rfl,rfl,q⟩⟩
  .rename_i n1 n2
   cases e;cases(show y=_ from s2)
   have ne:x≠.non:=fun z=>by
    subst z;cases t with
    | non=>first | exact n1 rfl | exact n2 rfl
    | tup _=>obtain⟨_,_,z,_⟩:=s1;cases z
    | lst _=>obtain⟨_,_,z,_⟩:=s1;cases z
    | dct _=>obtain⟨_,_,z,_⟩:=s1;cases z
    | fn _=>obtain⟨_,z,_⟩:=s1;cases z
    | _=>cases(show V.non=_ from s1)
   exact⟨fun q=>fk XB s Z H _ _ v u Q I rx ry ⟨rfl,by rw[Dl ne];exact q⟩,fun q=>Ab XB s Z H _ _ v u Q I rx ry ⟨rfl,by rw[Dl ne];exact q⟩⟩
  .cases e
 cases c with
 | eq =>
  have e:eqC t t'=some b:=e;unfold eqC at e
  split at e
  .cases e;exact(eq_nil I un rx ry s1 s2).1 q
  .obtain⟨d,e',q1,q2,q3,rfl⟩:=d0 e;exact op_eqD XB s Z H x y v u Q I rx ry ⟨d,e',v7 fh s1 q1,v7 fh s2 q2,by omega,q⟩
 | ne =>
  have e:(eqC t t').map not=some b:=e;obtain⟨r,e1,rfl⟩:=Z8.mp e
  clear e
  unfold eqC at e1
  split at e1
  .cases e1;exact(eq_nil I un rx ry s1 s2).2 q
  .obtain⟨d,e',q1,q2,q3,rfl⟩:=d0 e1;exact op_neD XB s Z H x y v u Q I rx ry ⟨d,e',v7 fh s1 q1,v7 fh s2 q2,by omega,q⟩
 | lt =>
  have e:ib t t'=some b:=e;unfold ib at e
  split at e
  .cases e;cases(show x=_ from s1);cases(show y=_ from s2);exact op_lt XB s Z H _ _ v u Q I rx ry ⟨_,_,rfl,rfl,q⟩
  .cases e;cases(show x=_ from s1);cases(show y=_ from s2);exact zw XB s Z H _ _ v u Q I rx ry ⟨_,_,rfl,rfl,q⟩
  .cases e
 | gt =>
  have e:ib t' t=some b:=e;unfold ib at e
  split at e
  .cases e;cases(show x=_ from s1);cases(show y=_ from s2);exact op_gt XB s Z H _ _ v u Q I rx ry ⟨_,_,rfl,rfl,q⟩
  .cases e;cases(show x=_ from s1);cases(show y=_ from s2);exact zf XB s Z H _ _ v u Q I rx ry ⟨_,_,rfl,rfl,q⟩
  .cases e
 | le =>
  have e:(ib t' t).map not=some b:=e;obtain⟨b',e2,rfl⟩:=Z8.mp e
  clear e
  unfold ib at e2
  split at e2
  .cases e2;cases(show x=_ from s1);cases(show y=_ from s2);refine op_le XB s Z H _ _ v u Q I rx ry ⟨_,_,rfl,rfl, ?_⟩;exact(le_not _ _).symm ▸ q
  .cases e2;cases(show x=_ from s1);cases(show y=_ from s2);exact zv XB s Z H _ _ v u Q I rx ry ⟨_,_,rfl,rfl,q⟩
  .cases e2
 | ge =>
  have e:geT t t'=some b:=e;unfold geT at e
  split at e
  .cases e;cases(show x=_ from s1);cases(show y=_ from s2);exact op_ge XB s Z H _ _ v u Q I rx ry ⟨_,_,rfl,rfl,q⟩
  .cases e
 | isin=>exact(pIn e).1 q
 | notin =>
  have e:(nr t t').map not=some b:=e;obtain⟨b',e2,rfl⟩:=Z8.mp e;exact(pIn e2).2 q
 | is=>exact(pIs e).1 q
 | isnt =>
  have e:(isT t t').map not=some b:=e;obtain⟨b',e2,rfl⟩:=Z8.mp e;exact(pIs e2).2 q
end
section
variable{X:Cx}{XB:ZY}{Z:L2.St}{H F₀ G:Hp}{s:Shared}{Q:VK}{x y:V}{v u:Value}{t t':T}{p:P}
theorem lstR{l:Addr}{xs:ZQ}(I:Inv X XB Z H s)(r:Rd H l (.lst xs)):xs.length<=sizeLine/\∃(XD:ZM) (n:Nat),Zw xs XD/\xs.length=XD.length/\s.heap.get? l=some { cls:=.type "list",data:=.seq XD.toArray n }:=by
 obtain⟨z,XD,n,r,e⟩:=r.ok I.hok;exact⟨z,XD,n,r,r.length,e⟩
theorem ou{l b:Addr}{xs zs:ZQ}(I:Inv X XB Z H s)(hH:Rd H l (.lst xs))(hB:Rd H b (.lst zs))(hz:xs.length+zs.length<=sizeLine)(q:∀p,H p=none->Q (.ref p) (upd H p (.lst (xs++zs)))) :
  wpAny (model X.prog X.w) X.A (binaryOp .Add (.ref l) (.ref b)) (EP X XB Z Q) X.xe s:=by
 obtain⟨z,XD,n,r,hl,e⟩:=lstR I hH;obtain⟨z2,its2,n2,r2,hl2,e2⟩:=lstR I hB;refine PySem.P.add_list e e2 ?_ (by rw[Vi,Vi];omega);have ea:XD.toArray++its2.toArray=(XD++its2).toArray:=by simp
 rw[ea];exact⟨.ref _,_,I.lnew (t':=s.toks) (r.append r2) (by rw[Qz];omega),rfl,q _ I.fresh⟩
theorem om{l:Addr}{xs:ZQ}{k:Int}{w:Tok}(I:Inv X XB Z H s)(hH:Rd H l (.lst xs))(h1:-(2 ^ 63)<=k)(h2:k<2 ^ 63)(hz:xs.length * k.toNat<=sizeLine)(q:∀p,H p=none->Q (.ref p) (upd H p (.lst (List.replicate k.toNat xs).flatten))) :
  wpAny (model X.prog X.w) X.A (binaryOp .Mult (.ref l) (.int k w)) (EP X XB Z Q) X.xe s:=by
 obtain⟨z,XD,n,r,hl,e⟩:=lstR I hH;have hlen:XD.toArray.size * k.toNat<=sizeLine:=by rw[Vi, <-hl];exact hz
 have hcap:¬ XD.toArray.size * k.toNat>(2 ^ 63 - 1) / 8:=by
  have:(sizeLine:Nat)<=(2 ^ 63 - 1) / 8:=by decide
  omega
 have hfit:¬ (!Builtin.List.listFitsIndex k)=true:=by
  rw[fitsIndex_both h1 h2];exact D2
 have hlong:¬ Builtin.List.listTooLong (XD.toArray.size * k.toNat)=true:=by
  rw[fu hlen];exact D2
 have hnew:List.foldl (fun x1 x2=>x1++x2) #[] (List.replicate (if XD.toArray.isEmpty=true then 0 else k.toNat) XD.toArray)=(List.replicate k.toNat XD).flatten.toArray:=by
  have f0:∀m:Nat,List.foldl (fun x1 x2=>x1++x2) #[] (List.replicate m XD.toArray)=(List.replicate m XD).flatten.toArray:=fun m=>by
   have:=foldl_rep XD m [];rw[List.nil_append]at this;exact this
  rw[f0];cases XD with
  | nil=>simp
  | cons a r'=>rw[if_neg (by simp)]
 refine wpAny_binaryOp_repeat_ref (T:="list") (U:="int") (by decide) ⟨_,e,rfl⟩ (fun s'=>typeIs_int s' k w) noFill_list_mul F.fills_int_mul F.slot_int_rmul repeat_list F.slot_int_index.lookup
  (call_meets F.slot_int_rmul (typeIs_int s k w) F.entry_int_rmul (F.args_int_rmul_2 _ _) (int___rmul___int_list k w l XD.toArray n)
   ⟨e,rfl,⟨_,e,rfl⟩,call_meets F.slot_list_mul ⟨_,e,rfl⟩ F.entry_list_mul (F.args_list_mul_2 _ _) (AutoListH.list___mul___list_int_3 l XD.toArray n k w hfit hcap hlong) ⟨e, ?_⟩⟩)
 rw[hnew];exact⟨.ref _,_,I.lnew (t':=s.toks) (r.rep k.toNat) (by rw[len_rep,Nat.mul_comm];exact hz),rfl,q _ I.fresh⟩
theorem fj{i:Str}{n:Int}{w w':Tok}(I:Inv X XB Z H s)(n0:0<=n)(n1:n<=1000)(i1:i.length<=1000)(q:Q (.str (repS i n.toNat)) H):wpAny (model X.prog X.w) X.A (binaryOp .Mult (.str i w) (.int n w')) (EP X XB Z Q) X.xe s:=by
 by_cases c1:n<1
 .have:n=0:=by omega
  subst this;refine PySem.P.mul_str_none (by decide) (by decide) ⟨.str Str.empty,H,I.tok _,⟨_,rfl⟩, ?_⟩;exact q
 by_cases c2:(n == 1 || i.length == 0)=true
 .have e:repS i n.toNat=i:=by
   rw[Bool.or_eq_true,beq_iff_eq,beq_iff_eq]at c2
   have:(repS i n.toNat).cps.toList=i.cps.toList:=by
    rw[Dr];rcases c2 with rfl | c2
    .simp
    .have:i.cps.toList=[]:=by
      have:i.cps.size=0:=c2;exact List.eq_nil_of_length_eq_zero (by simpa using this)
     rw[this];simp
   cases i;cases hr:repS _ n.toNat;rw[hr]at this;simp at this;simp[this]
  rw[e]at q;refine PySem.P.mul_str ?_ (fun _ z=>?_) (fun _ z=>?_) ?_
  .rw[Bool.or_eq_false_iff];exact⟨Dl (by omega),Dl (by omega)⟩
  .rw[c2]at z;cases z
  .rw[c2]at z;cases z
  .rw[if_neg c1,if_pos c2];exact⟨.str i,H,I,⟨_,rfl⟩,q⟩
 .rw[Bool.or_eq_true,beq_iff_eq,beq_iff_eq]at c2;exact og XB s Z H (.str i) (.int n) _ _ Q I ⟨w,rfl⟩ ⟨w',rfl⟩ ⟨i,n,rfl,rfl,by omega,n1,fun z=>c2 (.inr z),i1,q⟩
theorem Zx.flat{K:W.Frag}{mg:ZV}{ts:ZZ}{vs:ZQ}(h:Zx K mg H F ts vs):∀n:Nat,Zx K mg H F (List.replicate n ts).flatten (List.replicate n vs).flatten
 | 0=>rfl
 | n+1=>by
  rw[List.replicate_succ,List.replicate_succ,List.flatten_cons,List.flatten_cons];exact h.append (Zx.flat h n)
def Fin(X:Cx)(F G:Hp)(p:P)(Z:L2.St)(H:Hp)(r:Sl)(Q:VK):Prop:=∀F' H' v,Le F F'->Up X.K H H'->Rel X.K X.mg F' G p Z H'->Res X.K X.mg F' G p Z H' r v->Q v H'
theorem Fin.f{r:T}(k:Fin X F G p Z H (.f r) Q)(rel:Rel X.K X.mg F G p Z H){H':Hp}{v:V}(s:Zc H H')(h:IsT X.K X.mg H' F r v):Q v H':=k F H' v (Le.refl F) s.up (rel.same s) h
theorem Fin.h{r:T}(k:Fin X F G p Z H (.f r) Q)(rel:Rel X.K X.mg F G p Z H){v:V}(h:IsT X.K X.mg H F r v):Q v H:=k.f rel (Zc.refl H) h
theorem Fin.l{ts:ZZ}(k:Fin X F G p Z H (.o (.lst ts)) Q)(rel:Rel X.K X.mg F G p Z H){l:Addr}{vs:ZQ}(hl:H l=none)(z:vs.length<=sizeLine)(h:Zx X.K X.mg H F ts vs):Q (.ref l) (upd H l (.lst vs)) :=
 let ⟨a,b⟩:=rel.newL hl z h
 k F _ _ (Le.refl F) (Zc.lay hl).up a b
theorem Md{f:Int->Int->Option Sl}{t t':T}{r:Sl}(e:mr f t t'=some r):∃a b,t=.int a/\t'=.int b/\f a b=some r:=by
 cases t with
 | int a=>cases t' with
  | int b=>exact⟨a,b,rfl,rfl,e⟩
  | _=>cases e
 | _=>cases e
theorem Jg{c:Prop}[Decidable c]{x r:Sl}(e:(if c then some x else none)=some r):c/\x=r:=by
 by_cases h:c
 .rw[if_pos h]at e;exact⟨h,G0 e⟩
 .rw[if_neg h]at e;cases e
theorem op_run{r:Sl}{σ':L2.St}(o:Op)(I:Inv X XB σ' H s)(rel:Rel X.K X.mg F G p Z H)(rx:RelV x v)(ry:RelV y u)(s1:B7 X.K X.mg H F t x)(s2:B7 X.K X.mg H F t' y)(e:opT o t t'=some r)(q:Fin X F G p Z H r Q) :
  wpAny (model X.prog X.w) X.A (binaryOp (opOf o) v u) (EP X XB σ' Q) X.xe s:=by
 cases o with
 | add=>cases t with
  | int a=>cases t' with
   | int b =>
    cases e;cases(show x=_ from s1);cases(show y=_ from s2);exact op_add XB s σ' H _ _ v u Q I rx ry ⟨_,_,rfl,rfl,q.h rel rfl⟩
   | _=>cases e
  | str a=>cases t' with
   | str b =>
    obtain⟨hz,rfl⟩:=Jg e;cases(show x=_ from s1);cases(show y=_ from s2);exact Ec XB s σ' H _ _ v u Q I rx ry ⟨_,_,rfl,rfl,hz,q.h rel rfl⟩
   | _=>cases e
  | lst a=>cases t' with
   | lst b =>
    obtain⟨hz,rfl⟩:=Jg e;obtain⟨a,vs,rfl,h1,z1,Je⟩:=s1;obtain⟨b,us,rfl,h2,z2,C1⟩:=s2;cases rx;cases ry;have l1:=Je.length;have l2:=C1.length;exact ou I h1 h2 (by omega) fun l hl=>q.l rel hl (by rw[Qz];omega) (Je.append C1)
   | _=>cases e
  | tup a=>cases t' with
   | tup b =>
    obtain⟨hz,rfl⟩:=Jg e;obtain⟨a,vs,rfl,h1,z1,Je⟩:=s1;obtain⟨b,us,rfl,h2,z2,C1⟩:=s2;have l1:=Je.length;have l2:=C1.length;exact oa XB s σ' H _ _ v u Q I rx ry ⟨a,b,vs,us,rfl,rfl,h1,h2,by omega,fun l H' sm hq=>q.f rel sm ⟨l,_,rfl,hq,by rw[Qz];omega,(Zx.up sm.up (Le.refl F) _ _ Je).append (Zx.up sm.up (Le.refl F) _ _ C1)⟩⟩
   | _=>cases e
  | bl a=>cases t' with
   | int b =>
    cases e;cases(show x=_ from s1);cases(show y=_ from s2);exact TNM.zm XB s σ' H _ _ v u Q I rx ry ⟨_,_,rfl,rfl,q.h rel rfl⟩
   | _=>cases e
  | _=>cases e
 | sub =>
  obtain⟨a,b,rfl,rfl,e⟩:=Md e;cases e;cases(show x=_ from s1);cases(show y=_ from s2);exact op_sub XB s σ' H _ _ v u Q I rx ry ⟨_,_,rfl,rfl,q.h rel rfl⟩
 | mul=>cases t with
  | int a=>cases t' with
   | int b =>
    obtain⟨hz,rfl⟩:=Jg e;cases(show x=_ from s1);cases(show y=_ from s2);exact op_mul XB s σ' H _ _ v u Q I rx ry ⟨_,_,rfl,rfl,hz,q.h rel rfl⟩
   | _=>cases e
  | str a=>cases t' with
   | int b =>
    obtain⟨hz,rfl⟩:=Jg e;cases(show x=_ from s1);cases(show y=_ from s2);obtain⟨_,rfl⟩:=rx;obtain⟨_,rfl⟩:=ry;exact fj I hz.1 hz.2.1 hz.2.2 (q.h rel rfl)
   | _=>cases e
  | lst a=>cases t' with
   | int b =>
    obtain⟨hz,rfl⟩:=Jg e;cases(show y=_ from s2);obtain⟨a,vs,rfl,h1,z1,Je⟩:=s1;cases rx;obtain⟨_,rfl⟩:=ry;have l1:=Je.length;exact om I h1 hz.1 hz.2.1 (by rw[<-l1];exact hz.2.2) fun l hl=>q.l rel hl (by rw[len_rep, <-l1,Nat.mul_comm];exact hz.2.2) (Je.flat _)
   | _=>cases e
  | _=>cases e
 | fdiv =>
  obtain⟨a,b,rfl,rfl,e⟩:=Md e;obtain⟨hz,rfl⟩:=Jg e;cases(show x=_ from s1);cases(show y=_ from s2);exact ot XB s σ' H _ _ v u Q I rx ry ⟨_,_,rfl,rfl,hz,q.h rel rfl⟩
 | mod =>
  obtain⟨a,b,rfl,rfl,e⟩:=Md e;obtain⟨hz,rfl⟩:=Jg e;cases(show x=_ from s1);cases(show y=_ from s2);exact op_mod XB s σ' H _ _ v u Q I rx ry ⟨_,_,rfl,rfl,hz,q.h rel rfl⟩
 | pow =>
  obtain⟨a,b,rfl,rfl,e⟩:=Md e;obtain⟨hz,rfl⟩:=Jg e;cases(show x=_ from s1);cases(show y=_ from s2);exact op_pow XB s σ' H _ _ v u Q I rx ry ⟨_,_,rfl,rfl,hz,q.h rel rfl⟩
end
section
variable{K:W.Frag}{mg:ZV}{H F G:Hp}
theorem Zd.map{k:Key}{t:T}{v:V}(h:IsT K mg H F t v):∀{XM:ZX} {ks:List (Key×V)},Zd K mg H F XM ks->Zd K mg H F (XM.map fun p=>if p.1=k then (p.1,t) else p) (ks.map fun p=>if p.1=k then (p.1,v) else p)
 | [],ks,a=>by cases(show ks=[] from a);rfl
 | (k',t')::XM,ks,a=>by
  obtain⟨⟨k2,v'⟩,r,rfl,⟨e,h1⟩,h2⟩:=a;obtain rfl:k2=k':=e;rw[C8,C8];refine⟨_,_,rfl, ?_,Zd.map h h2⟩;by_cases q:k2=k
  .rw[if_pos (show (k2,t').1=k from q),if_pos (show (k2,v').1=k from q)];exact⟨rfl,h⟩
  .rw[if_neg (show ¬ (k2,t').1=k from q),if_neg (show ¬ (k2,v').1=k from q)];exact⟨rfl,h1⟩
theorem Zd.any{k:Key}:∀{XM:ZX} {ks:List (Key×V)},Zd K mg H F XM ks->(XM.any fun p=>decide (p.1=k))=ks.any fun p=>decide (p.1=k)
 | [],ks,a=>by cases(show ks=[] from a);rfl
 | (k',t')::XM,ks,a=>by
  obtain⟨⟨k2,v'⟩,r,rfl,⟨e,h1⟩,h2⟩:=a;obtain rfl:k2=k':=e;rw[List.any_cons,List.any_cons,Zd.any h2]
theorem Zd.snoc{k:Key}{t:T}{v:V}(h:IsT K mg H F t v):∀{XM:ZX} {ks:List (Key×V)},Zd K mg H F XM ks->Zd K mg H F (XM++[(k,t)]) (ks++[(k,v)])
 | [],ks,a=>by cases(show ks=[] from a);exact⟨_,_,rfl,⟨rfl,h⟩,rfl⟩
 | p::XM,ks,a=>by
  obtain⟨q,r,rfl,h1,h2⟩:=a;exact⟨q,_,rfl,h1,Zd.snoc h h2⟩
theorem Zd.put{k:Key}{t:T}{v:V}(h:IsT K mg H F t v){XM:ZX}{ks:List (Key×V)}(a:Zd K mg H F XM ks):Zd K mg H F (Ya XM k t) (putK ks k v):=by
 unfold Ya putK;rw[<-Zd.any a]
 split
 .exact Zd.map h a
 .exact Zd.snoc h a
theorem Zd.keys:∀{XM:ZX} {ks:List (Key×V)},Zd K mg H F XM ks->XM.map (·.1)=ks.map (·.1)
 | [],ks,h=>by cases(show ks=[] from h);rfl
 | (k,t)::XM,ks,h=>by
  obtain⟨q,r,rfl,⟨e,_⟩,h2⟩:=h;rw[C8,C8,Zd.keys h2,e]
theorem A1(k:Key):IsT K mg H F (G3 k) (kV k):=by cases k<;>rfl
theorem Zd.keyT{XM:ZX}{ks:List (Key×V)}(h:Zd K mg H F XM ks):Zx K mg H F (XM.map fun p=>G3 p.1) (ks.map fun p=>kV p.1):=by
 have go:∀l:List Key,Zx K mg H F (l.map G3) (l.map kV):=fun l=>by
  induction l with
  | nil=>rfl
  | cons k r ih=>exact⟨_,_,rfl,A1 k,ih⟩
 have e:=h.keys;have:=go (XM.map (·.1));rw[List.map_map,List.map_map]at this
 have e2:(ks.map fun p=>kV p.1)=(XM.map fun p=>kV p.1):=by
  have:=congrArg (List.map kV) e;rw[List.map_map,List.map_map]at this;exact this.symm
 rw[e2];exact this
theorem O3:∀(zs:ZL),Zx K mg H F (zs.map T.int) (zs.map V.int)
 | []=>rfl
 | _::zs=>⟨_,_,rfl,rfl,O3 zs⟩
theorem O2:∀(zs:ZD),Zx K mg H F (zs.map T.str) (zs.map V.str)
 | []=>rfl
 | _::zs=>⟨_,_,rfl,rfl,O2 zs⟩
theorem Zx.pairs:∀{ts:ZZ} {vs:ZQ} {XM:ZX},Zx K mg H F ts vs->Ds ts=some XM->∃ks:List (Key×V),Zd K mg H F XM ks/\vs.length=ks.length/\∀(j:Nat) (k:Key) (v:V),ks[j]?=some (k,v)->∃p,vs[j]?=some (.ref p)/\Yu K H p [kV k,v]
 | [],vs,XM,h,e=>by
  cases e;cases(show vs=[] from h);exact⟨[],rfl,rfl,fun j k v e=>by simp at e⟩
 | t::ts,vs,XM,h,e=>by
  obtain⟨v,r,rfl,q,w⟩:=h;unfold Ds at e
  split at e
  .rename_i e0;cases e0
  .rename_i a b r' e0
   cases e0;obtain⟨k,ek,e2⟩:=ZO.mp e;obtain⟨My,e1,rfl⟩:=Z8.mp e2;obtain⟨ks,g1,g2,g3⟩:=Zx.pairs w e1;obtain⟨p,us,rfl,sq,_,ar⟩:=q;obtain⟨u1,r1,rfl,i1,ar⟩:=ar;obtain⟨u2,r2,rfl,i2,ar⟩:=ar;cases(show r2=[] from ar)
   have:u1=kV k:=by
    unfold keyT at ek
    split at ek<;>cases ek<;>exact i1
   subst this;refine⟨(k,u2)::ks,⟨_,_,rfl,⟨rfl,i2⟩,g1⟩,by simp[g2],fun j k' v' e=>?_⟩;cases j with
   | zero=>cases(show some (k,u2)=some (k',v') from e);exact⟨p,rfl,sq⟩
   | succ j=>exact g3 j k' v' e
  .cases e
theorem Zd.fold:∀{XM:ZX} {ks:List (Key×V)} {a:ZX} {b:List (Key×V)},Zd K mg H F XM ks->Zd K mg H F a b->Zd K mg H F (XM.foldl (fun acc kv=>Ya acc kv.1 kv.2) a) (ks.foldl (fun acc kv=>putK acc kv.1 kv.2) b)
 | [],ks,a,b,h,h'=>by cases(show ks=[] from h);exact h'
 | (k,t)::XM,ks,a,b,h,h'=>by
  obtain⟨⟨k2,v⟩,r,rfl,⟨e,h1⟩,h2⟩:=h;obtain rfl:k2=k:=e;rw[List.foldl_cons,List.foldl_cons];exact Zd.fold h2 (Zd.put h1 h')
theorem vw{X:Cx}{F₁ H₁:Hp}{ts us:ZZ}{vs:ZQ}(h:Zx X.K X.mg H₁ F₁ ts vs)(e:W2 ts=some us):∃ws,SRT.qy X H₁ vs ws/\Zx X.K X.mg H₁ F₁ us ws/\ws.length<64:=by
 unfold W2 at e
 split at e
 .rename_i hz
  split at e
  .rename_i zs e1
   cases e;have e2:=h.ints e1;have hl:zs.length<64:=by rw[h.length,e2,Yn]at hz;exact hz
   subst e2;exact⟨_,SRT.Xn hl,O3 _,by rw[Yn,(SRT.Gp zs).length_eq];exact hl⟩
  .obtain⟨zs,e1,rfl⟩:=Z8.mp e;have e2:=h.strs e1;have hl:zs.length<64:=by rw[h.length,e2,Yn]at hz;exact hz
   subst e2;exact⟨_,SRT.Xc hl,O2 _,by rw[Yn,(SRT.Yx zs).length_eq];exact hl⟩
 .cases e
theorem Zx.heads:∀{ts:ZZ} {vs:ZQ} {hs:ZL},Zx K mg H F ts vs->Nd ts=some hs->ts.length=hs.length/\∀i,i<vs.length->∃b ws,vs.getD i .non=.ref b/\Yu K H b (.int (hs.getD i 0)::ws)
 | [],vs,hs,h,e=>by cases e;cases(show vs=[] from h);exact⟨rfl,fun i hi=>absurd hi (by simp)⟩
 | t::ts,vs,hs,h,e=>by
  obtain⟨v,r,rfl,q,w⟩:=h;unfold Nd at e
  split at e
  .rename_i e0;cases e0
  .rename_i i0 tr r' e0
   cases e0;obtain⟨F7,e1,rfl⟩:=Z8.mp e;obtain⟨g1,g2⟩:=Zx.heads w e1;obtain⟨b,us,rfl,sq,_,ar⟩:=q;obtain⟨u1,r1,rfl,i1,ar⟩:=ar;cases(show u1=.int i0 from i1);refine⟨by simp[g1],fun i hi=>?_⟩;cases i with
   | zero=>exact⟨b,r1,rfl,sq⟩
   | succ i=>simpa using g2 i (by simpa using hi)
  .cases e
theorem Zx.pick{ts:ZZ}{vs:ZQ}(h:Zx K mg H F ts vs):∀(p:List Nat),(∀i∈p,i<ts.length)->Zx K mg H F (p.map fun i=>ts.getD i .non) (p.map fun i=>vs.getD i .non)
 | [],_=>rfl
 | i::p,g=>by
  have hi:=g i Y5;obtain⟨v,e1,h2⟩:=h.get (Ui hi);refine⟨_,_,rfl, ?_,Zx.pick h p fun j m=>g j (Y7 _ m)⟩;show IsT K mg H F (ts.getD i .non) (vs.getD i .non);rw[List.getD_eq_getElem?_getD,List.getD_eq_getElem?_getD,e1,Ui hi];exact h2
end
section
variable{X:Cx}{XB:ZY}{Z:L2.St}{H F:Hp}{s:Shared}
def Shw(X:Cx)(s:Shared)(u:Value)(d:PyData):Prop:=∃as bs,Reads s.heap u d as/\ReadAtMost s.heap d.depth bs/\ReprK X.prog X.w bs s.heap d.depth u d.shown
def Dq(X:Cx)(s:Shared)(us:ZM)(ds:List PyData):Prop:=∃as bs,ReadsAll s.heap us ds as/\ReadAtMost s.heap (PyData.depthAll ds) bs/\ReprAllK X.prog X.w bs s.heap (PyData.depthAll ds) us (PyData.shownAll ds)
theorem Dq.cons{u:Value}{d:PyData}{us:ZM}{ds:List PyData}(h:Shw X s u d)(h':Dq X s us ds):Dq X s (u::us) (d::ds):=by
 obtain⟨a1,b1,r1,m1,k1⟩:=h;obtain⟨a2,b2,r2,m2,k2⟩:=h';refine⟨_,b1++b2,.cons r1 r2, ?_, ?_⟩
 .simp only[PyData.depthAll];exact(m1.mono (Nat.le_max_left _ _)).append (m2.mono (Nat.le_max_right _ _))
 .simp only[PyData.depthAll,PyData.shownAll];exact .cons ((k1.more fun b hb=>List.mem_append_left _ hb).level_le (Nat.le_max_left _ _)) (k2.more_le (fun b hb=>qg _ hb) (Nat.le_max_right _ _))
theorem Dq.nil:Dq X s [] []:=⟨_,[],.nil,(fun _ h=>nomatch h),by simp only[PyData.shownAll];exact .nil⟩
theorem U1{u:Value}{d:PyData}(r:Reads s.heap u d [])(hs:d.showable=true)(hz:d.shown.length<=sizeLine):Shw X s u d:=by
 obtain⟨bs,m,k⟩:=ReprK.of_reads (prog:=X.prog) (w:=X.w) r hs (fun _ h=>nomatch h) hz;exact⟨[],bs,r,m,k⟩
theorem p8{a:Addr}{XD:ZM}{ds:List PyData}(h:IsTup s.heap a XD.toArray)(c:Dq X s XD ds):Shw X s (.ref a) (.tuple ds):=by
 obtain⟨as,bs,r1,m1,k1⟩:=c;obtain⟨o,h1,h2,n,h3⟩:=h;have r:Reads s.heap (.ref a) (.tuple ds) _:=.tuple h1 h2 h3 (by simpa using r1);have m5:a ∉ bs:=not_mem_of_deeper r (by simp only[PyData.depth];omega) m1;refine⟨_,a::bs,r,ReadAtMost.cons r (by simp only[PyData.depth];omega) m1, ?_⟩;simp only[PyData.depth,PyData.shown];exact ReprK.tuple h1 h2 h3 m5 (by simpa using k1)
theorem p9{a:Addr}{XD:ZM}{ds:List PyData}(h:s.heap.IsList a XD.toArray)(c:Dq X s XD ds):Shw X s (.ref a) (.list ds):=by
 obtain⟨as,bs,r1,m1,k1⟩:=c;obtain⟨o,h1,h2,n,h3⟩:=h;have r:Reads s.heap (.ref a) (.list ds) _:=.list h1 h2 h3 (by simpa using r1);have m5:a ∉ bs:=not_mem_of_deeper r (by simp only[PyData.depth];omega) m1;refine⟨_,a::bs,r,ReadAtMost.cons r (by simp only[PyData.depth];omega) m1, ?_⟩;simp only[PyData.depth,PyData.shown];cases XD with
 | nil =>
  cases r1;simp only[PyData.shownAll,listText_nil];exact ReprK.listEmpty h1 h2 h3
 | cons x l=>exact ReprK.list h1 h2 h3 m5 (by simpa using k1.length_eq) (fun i y e=>k1.item i y (by simpa using e))
def ShwE(X:Cx)(s:Shared)(es:List DictEntry)(dk:List (PyData×PyData)):Prop:=Dq X s (es.map (·.key)) (dk.map (·.1))/\Dq X s (es.map (·.val)) (dk.map (·.2))
theorem ux{a:Addr}{o:Obj}{es:Array DictEntry}{n:Nat}{dk:List (PyData×PyData)}(h1:s.heap.get? a=some o)(h2:o.cls=.type "dict")(h3:o.data=.dict es n)(hy:(a == sysModules)=false)(c:ShwE X s es.toList dk):Shw X s (.ref a) (.dict dk):=by
 obtain⟨⟨a1,b1,r1,m1,k1⟩,a2,b2,r2,m2,k2⟩:=c;have r:Reads s.heap (.ref a) (.dict dk) _:=.dict h1 h2 h3 r1 r2;have hb:ReadAtMost s.heap (PyData.depthKv dk) (b1++b2):=(m1.mono (PyData.depthAll_keys_le dk)).append (m2.mono (PyData.depthAll_vals_le dk));have m5:a ∉ b1++b2:=not_mem_of_deeper r (by simp only[PyData.depth];omega) hb;refine⟨_,a::(b1++b2),r,ReadAtMost.cons r (by simp only[PyData.depth];omega) hb, ?_⟩;simp only[PyData.depth,PyData.shown,PyData.shownKv_eq]
 exact ReprK.dict h1 h2 h3 hy m5 (ReprEntriesK.of_two es.toList _ _
  (k1.more_le (fun b hb=>List.mem_append_left _ hb) (PyData.depthAll_keys_le dk)) (k2.more_le (fun b hb=>qg _ hb) (PyData.depthAll_vals_le dk)))
theorem uz{k:Key}{u:Value}(h:(Zm X.prog X.w).is k u=true)(hs:(Ax k).showable=true)(hz:(Ax k).shown.length<=sizeLine):Shw X s u (Ax k):=by
 rcases Zn (show Mf k u=true from h) with ⟨j,t,rfl,rfl⟩ | ⟨y,t,rfl,rfl⟩
 .exact U1 (.int _ _) hs hz
 .exact U1 (.str _ _) hs hz
end
section
variable{X:Cx}{XB:ZY}{Z:L2.St}{H F:Hp}{s:Shared}
mutual
theorem Zxg(I:Inv X XB Z H s)(fh:∀a o,F a=some o->H a=some o):∀(t:T) (v:V) (u:Value) (d:PyData),IsT X.K X.mg H F t v->RelV v u->toPy t=some d->d.showable=true->d.shown.length<=sizeLine->Shw X s u d
 | .non,v,u,d,h,r,e,hs,hz=>by cases e;cases(show v=_ from h);cases r;exact U1 .none hs hz
 | .bl b,v,u,d,h,r,e,hs,hz=>by cases e;cases(show v=_ from h);cases r;exact U1 (.bool b) hs hz
 | .int b,v,u,d,h,r,e,hs,hz=>by cases e;cases(show v=_ from h);obtain⟨t,rfl⟩:=r;exact U1 (.int b t) hs hz
 | .str b,v,u,d,h,r,e,hs,hz=>by cases e;cases(show v=_ from h);obtain⟨t,rfl⟩:=r;exact U1 (.str b t) hs hz
 | .tup ts,v,u,d,h,r,e,hs,hz=>by
  obtain⟨ds,e1,rfl⟩:=Z8.mp (show (Uz ts).map .tuple=some d by unfold toPy at e;exact e);obtain⟨a,vs,rfl,q,_,ar⟩:=h;cases r;obtain⟨XD,rv,tp,_⟩:=I.tuple q;have Wg:(tupleText (PyData.shownAll ds)).length<=sizeLine:=by simpa only [PyData.shown] using hz
  exact p8 tp (Tn I fh ts vs XD ds ar rv e1 (by simpa [PyData.showable] using hs) fun t m=>Ve (tupleText_mem_le m) Wg)
 | .lst ts,v,u,d,h,r,e,hs,hz=>by
  obtain⟨ds,e1,rfl⟩:=Z8.mp (show (Uz ts).map .list=some d by unfold toPy at e;exact e);obtain⟨a,vs,rfl,q,_,ar⟩:=h;cases r;have q':Rd H a (.lst vs):=q.elim (fun q=>.inl (fh _ _ q)) fun⟨o,q⟩=>.inr ⟨o,fh _ _ q⟩;obtain⟨XD,rv,pl,_⟩:=I.list (.inl q');have Wg:(listText (PyData.shownAll ds)).length<=sizeLine:=by simpa only [PyData.shown] using hz
  exact p9 pl.isList (Tn I fh ts vs XD ds ar rv e1 (by simpa [PyData.showable] using hs) fun t m=>Ve (listText_mem_le m) Wg)
 | .dct XM,v,u,d,h,r,e,hs,hz=>by
  obtain⟨dk,e1,rfl⟩:=Z8.mp (show (Dv XM).map .dict=some d by unfold toPy at e;exact e);obtain⟨a,ks,rfl,q,_,ar⟩:=h;cases r;have q':Rd H a (.dK ks):=q.elim (fun q=>.inl (fh _ _ q)) fun⟨o,q⟩=>.inr ⟨o,fh _ _ q⟩;obtain⟨_,hy,ws,kv,o,es,ep,h1,h2,h3,_,pr,_⟩:=q'.ok I.hok;have Wg:(dictText (PyData.shownKv dk)).length<=sizeLine:=by simpa only [PyData.shown] using hz
  obtain⟨hs1,hs2⟩:=PyData.showableKv_split dk (by simpa [PyData.showable] using hs);exact ux h1 h2.1 h3 hy (v3 I fh XM ks ws es.toList dk ar kv pr e1 hs1 hs2 (fun t ht=>let ⟨p,hp,hl⟩:=PyData.shownKv_key_le dk t ht;Ve hl (Ve (dictText_mem_le hp) Wg)) (fun t ht=>let ⟨p,hp,hl⟩:=PyData.shownKv_val_le dk t ht;Ve hl (Ve (dictText_mem_le hp) Wg)))
 | .fn _,v,u,d,h,r,e,hs,hz=>by unfold toPy at e;cases e
theorem Tn(I:Inv X XB Z H s)(fh:∀a o,F a=some o->H a=some o):∀(ts:ZZ) (vs:ZQ) (us:ZM) (ds:List PyData),Zx X.K X.mg H F ts vs->Zw vs us->Uz ts=some ds->PyData.showableAll ds=true->(∀t∈PyData.shownAll ds,t.length<=sizeLine)->Dq X s us ds
 | [],vs,us,ds,h,r,e,hs,hz=>by
  unfold Uz at e;cases e;cases(show vs=[] from h);cases r;exact Dq.nil
 | t::ts,vs,us,ds,h,r,e,hs,hz=>by
  unfold Uz at e;obtain⟨d,e1,e⟩:=ZO.mp e;obtain⟨ds',e2,rfl⟩:=Z8.mp e;obtain⟨v,vr,rfl,i1,i2⟩:=h;cases r with | cons r1 r2 =>
  have F7:d.showable=true/\PyData.showableAll ds'=true:=by simpa [PyData.showableAll] using hs
  exact Dq.cons (Zxg I fh t v _ d i1 r1 e1 F7.1 (hz _ (by simp only[PyData.shownAll];exact Y5 ..))) (Tn I fh ts vr _ ds' i2 r2 e2 F7.2 fun t m=>hz t (by simp only[PyData.shownAll];exact Y7 _ m))
theorem v3(I:Inv X XB Z H s)(fh:∀a o,F a=some o->H a=some o):∀(XM:ZX) (ks:List (Key×V)) (ws:List (Key×Value)) (es:List DictEntry) (dk:List (PyData×PyData)),Zd X.K X.mg H F XM ks->KV ks ws->Pairs (Zm X.prog X.w) es ws->Dv XM=some dk ->
  PyData.showableAll (dk.map (·.1))=true->PyData.showableAll (dk.map (·.2))=true->(∀t∈PyData.shownAll (dk.map (·.1)),t.length<=sizeLine)->(∀t∈PyData.shownAll (dk.map (·.2)),t.length<=sizeLine)->ShwE X s es dk
 | [],ks,ws,es,dk,h,r,p,e,_,_,_,_=>by
  unfold Dv at e;cases e;cases(show ks=[] from h);cases r;cases p;exact⟨Dq.nil,Dq.nil⟩
 | (k,t)::XM,ks,ws,es,dk,h,r,p,e,hs1,hs2,qd,hz2=>by
  unfold Dv at e;obtain⟨d,e1,e⟩:=ZO.mp e;obtain⟨dk',e2,rfl⟩:=Z8.mp e;obtain⟨⟨k2,v⟩,kr,rfl,⟨ek,i1⟩,i2⟩:=h;obtain rfl:k2=k:=ek;cases r with | cons r1 r2 =>
  obtain⟨ek,r1⟩:=r1;cases p with | cons p1 p2 p3 =>
  have ek:k2=_:=ek;rw[<-ek]at p1;rw[C8]at hs1 hs2 qd hz2;have hs1':(Ax k2).showable=true/\PyData.showableAll (dk'.map (·.1))=true:=by simpa [PyData.showableAll] using hs1
  have hs2':d.showable=true/\PyData.showableAll (dk'.map (·.2))=true:=by simpa [PyData.showableAll] using hs2
  obtain⟨c1,c2⟩:=v3 I fh XM kr _ _ dk' i2 r2 p3 e2 hs1'.2 hs2'.2 (fun t m=>qd t (by simp only[PyData.shownAll];exact Y7 _ m)) (fun t m=>hz2 t (by simp only[PyData.shownAll];exact Y7 _ m));refine⟨Dq.cons (uz p1 hs1'.1 (qd _ (by simp only[PyData.shownAll];exact Y5 ..))) c1,Dq.cons ?_ c2⟩;show Shw X s _ d;simp only[p2];exact Zxg I fh t v _ d i1 r1 e1 hs2'.1 (hz2 _ (by simp only[PyData.shownAll];exact Y5 ..))
end
end
section
variable{X:Cx}{XB:ZY}{Z:L2.St}{H F:Hp}{s:Shared}{Q:VK}{x:V}{u:Value}{t:T}
theorem yy{z:Str}(I:Inv X XB Z H s)(fh:∀a o,F a=some o->H a=some o)(un:X.A.units+150<cLine)(gd:X.A.guards=some [])(rx:RelV x u)(s1:B7 X.K X.mg H F t x)(e:ub t=some z)(q:Q (.str z) H) :
  wpAny (model X.prog X.w) X.A (call (.builtin "repr") [u]) (EP X XB Z Q) X.xe s:=by
 unfold ub at e;obtain⟨d,e1,e⟩:=ZO.mp e
 split at e
 .rename_i hh
  cases e;obtain⟨hs,hz,hd⟩:=hh;have fin:∀tk:Nat,EP X XB Z Q (.str d.shown s.toks) { s with toks:=tk }:=fun tk=>⟨.str _,H,I.tok _,⟨_,rfl⟩,q⟩;have P1:∀h' u tk,(∀b o,s.heap.get? b=some o->h'.get? b=some o)->∃x t,Value.str d.shown u=.str x t/\EP X XB Z Q (.str d.shown u) { s with heap:=h',toks:=tk }:=fun h' u tk k=>⟨_,u,rfl,.str _,H,I.kept k,⟨u,rfl⟩,q⟩;cases t with
  | non=>cases e1;cases(show x=_ from s1);cases rx;exact P.repr_of_none (fin _)
  | bl b=>cases e1;cases(show x=_ from s1);cases rx;simp only[PyData.shown]at fin;exact P.repr_of_bool (fin _)
  | int i =>
   cases e1;cases(show x=_ from s1);obtain⟨w,rfl⟩:=rx;simp only[PyData.shown]at fin;exact P.repr_of_int (by simpa [PyData.showable] using hs) (fin _)
  | str i =>
   cases e1;cases(show x=_ from s1);obtain⟨w,rfl⟩:=rx;simp only[PyData.shown]at fin hz;exact P.repr_of_str (fin _) hz
  | tup ts =>
   obtain⟨ds,e2,rfl⟩:=Z8.mp (show (Uz ts).map .tuple=some d by unfold toPy at e1;exact e1);obtain⟨a,vs,rfl,q1,_,ar⟩:=s1;cases rx;obtain⟨XD,rv,tp,_⟩:=I.tuple q1;have Wg:(tupleText (PyData.shownAll ds)).length<=sizeLine:=by simpa only [PyData.shown] using hz
   have c:=Tn I fh ts vs XD ds ar rv e2 (by simpa [PyData.showable] using hs) fun t m=>Ve (tupleText_mem_le m) Wg;obtain⟨as,bs,r1,m1,k1⟩:=c;obtain⟨o,h1,h2,n,h3⟩:=tp;have r:Reads s.heap (.ref a) (.tuple ds) _:=.tuple h1 h2 h3 (by simpa using r1);have m5:a ∉ bs:=not_mem_of_deeper r (by simp only[PyData.depth];omega) m1;simp only[PyData.depth]at hd;simp only[PyData.shown]at P1;exact call_repr_slot (by omega) ⟨o,h1,h2⟩ PySem.F.slot_tuple_repr (call_tuple_reprK h1 h2 h3 m5 (by simpa using k1) (g:=[]) gd (fun b _=>Clear.nil b) (by show X.A.units+1+_<_;omega) (fun _ _ e=>e) (fun h' u tk k=>P1 h' u tk k) Wg)
  | lst ts =>
   obtain⟨ds,e2,rfl⟩:=Z8.mp (show (Uz ts).map .list=some d by unfold toPy at e1;exact e1);obtain⟨a,vs,rfl,q1,_,ar⟩:=s1;cases rx;obtain⟨XD,rv,pl,_⟩:=I.list (.inl q1);have Wg:(listText (PyData.shownAll ds)).length<=sizeLine:=by simpa only [PyData.shown] using hz
   have c:=Tn I fh ts vs XD ds ar rv e2 (by simpa [PyData.showable] using hs) fun t m=>Ve (listText_mem_le m) Wg;obtain⟨as,bs,r1,m1,k1⟩:=c;obtain⟨o,h1,h2,n,h3⟩:=pl.isList;have r:Reads s.heap (.ref a) (.list ds) _:=.list h1 h2 h3 (by simpa using r1);have m5:a ∉ bs:=not_mem_of_deeper r (by simp only[PyData.depth];omega) m1;simp only[PyData.depth]at hd;simp only[PyData.shown]at P1;refine call_repr_slot (by omega) ⟨o,h1,h2⟩ PySem.F.slot_list_repr.toG ?_;cases XD with
   | nil =>
    cases r1;simp only[PyData.shownAll,listText_nil]at P1;exact call_list_repr_empty ⟨o,h1,h2⟩ h1 h3 (P1 s.heap _ _ fun _ _ e=>e)
   | cons y l=>exact call_list_reprK h1 h2 h3 m5 (by simpa using k1.length_eq) (fun i y e=>k1.item i y (by simpa using e)) (g:=[]) gd (fun b _=>Clear.nil b) (by show X.A.units+1+_<_;omega) (fun _ _ e=>e) (fun h' u tk k=>P1 h' u tk k) Wg
  | dct XM =>
   obtain⟨dk,e2,rfl⟩:=Z8.mp (show (Dv XM).map .dict=some d by unfold toPy at e1;exact e1);obtain⟨a,ks,rfl,q1,_,ar⟩:=s1;cases rx;obtain⟨_,hy,ws,kv,o,es,ep,h1,h2,h3,_,pr,_⟩:=q1.ok I.hok;have Wg:(dictText (PyData.shownKv dk)).length<=sizeLine:=by simpa only [PyData.shown] using hz
   obtain⟨hs1,hs2⟩:=PyData.showableKv_split dk (by simpa [PyData.showable] using hs);have c:=v3 I fh XM ks ws es.toList dk ar kv pr e2 hs1 hs2 (fun t ht=>let ⟨p,hp,hl⟩:=PyData.shownKv_key_le dk t ht;Ve hl (Ve (dictText_mem_le hp) Wg)) (fun t ht=>let ⟨p,hp,hl⟩:=PyData.shownKv_val_le dk t ht;Ve hl (Ve (dictText_mem_le hp) Wg));obtain⟨⟨a1,b1,r1,m1,k1⟩,a2,b2,r2,m2,k2⟩:=c;have r:Reads s.heap (.ref a) (.dict dk) _:=.dict h1 h2.1 h3 r1 r2;have hb:ReadAtMost s.heap (PyData.depthKv dk) (b1++b2):=(m1.mono (PyData.depthAll_keys_le dk)).append (m2.mono (PyData.depthAll_vals_le dk));have m5:a ∉ b1++b2:=not_mem_of_deeper r (by simp only[PyData.depth];omega) hb;simp only[PyData.depth]at hd;simp only[PyData.shown,PyData.shownKv_eq]at P1
   exact call_repr_slot (by omega) ⟨o,h1,h2.1⟩ PySem.F.slot_dict_repr (call_dict_reprK h1 h2.1 h3 hy m5 (ReprEntriesK.of_two es.toList _ _
    (k1.more_le (fun b hb=>List.mem_append_left _ hb) (PyData.depthAll_keys_le dk)) (k2.more_le (fun b hb=>qg _ hb) (PyData.depthAll_vals_le dk))) (g:=[]) gd (fun b _=>Clear.nil b) (by show X.A.units+1+_<_;omega) (fun _ _ e=>e) (fun h' u tk k=>P1 h' u tk k) (by rw[<-PyData.shownKv_eq];exact Wg))
  | fn _=>unfold toPy at e1;cases e1
 .cases e
end
section
variable{X:Cx}
theorem Ad{ns:ZL}{XD:ZM}(rv:Zw (ns.map V.int) XD):∃zs:Array (Int×Tok),XD.toArray=intItems zs/\zs.toList.map (·.1)=ns:=by
 have hi:=intsAre_of rv;obtain⟨zs,e⟩:=hi.allInts.items;refine⟨zs,e, ?_⟩;have b:=nums_intItems zs;rw[<-e]at b;exact b.symm.trans hi.numsOf
theorem An{zs:Array (Int×Tok)}{ns:ZL}(en:zs.toList.map (·.1)=ns){i:Nat}(hi:i<ns.length):numAt zs i∈ns:=by rw[numAt_eq,en];exact getD_mem hi
theorem fm{zs:Array (Int×Tok)}{ns:ZL}(en:zs.toList.map (·.1)=ns){m:Int}(hm:m∈ns):∃j,j<ns.length/\numAt zs j=m:=by
 obtain⟨j,hj,ej⟩:=mem_getD hm;exact⟨j,hj,by rw[numAt_eq,en];exact ej⟩
inductive Kk(R:Int->Int->Prop)(K:W.Frag)(xs:ZQ)(H:Hp)(Q:VK):Prop
 | mk(p:Addr)(ns:ZL)(m:Int)(h0:xs=[.ref p])(h1:Vc K H p (ns.map V.int))(h2:m∈ns)(h3:∀a∈ns,R a m)(h4:Q (.int m) H):Kk R K xs H Q
theorem x8(hc:X.calm=true):Yk X (.builtin "max") (Kk (fun a m=>a<=m) X.K):=by
 intro XB s Z H xs us Q I r h;obtain⟨p,ns,m,rfl,hq,hm,hb,q⟩:=h;obtain⟨u,rfl,rx⟩:=vals1 r;cases rx;obtain⟨XD,rv,pl,hz⟩:=I.list hq;obtain⟨zs,e,en⟩:=Ad rv;have len:zs.size=ns.length:=by rw[<-en,Yn,qp]
 have pos:=List.length_pos_of_mem hm;refine max_intList (xs:=zs) (I.ok.hd hc) (by rw[<-e];exact pl.isList) (by omega) fun v h' tk hv hk=>?_;obtain⟨t,rfl⟩:=intItems_at hv;obtain⟨hi,top⟩:=argBest_gt (numAt zs) (zs.size - 1);obtain⟨j,hj,ej⟩:=fm en hm;have h1:=top j (by omega);have h2:=hb _ (An en (i:=argBest (fun i j=>decide (numAt zs i>numAt zs j)) (zs.size - 1)) (by omega));exact⟨.int m,H,I.kept hk,⟨t,by rw[show numAt zs (argBest (fun i j=>decide (numAt zs i>numAt zs j)) (zs.size - 1))=m by omega]⟩,q⟩
theorem x5(hc:X.calm=true):Yk X (.builtin "min") (Kk (fun a m=>m<=a) X.K):=by
 intro XB s Z H xs us Q I r h;obtain⟨p,ns,m,rfl,hq,hm,hb,q⟩:=h;obtain⟨u,rfl,rx⟩:=vals1 r;cases rx;obtain⟨XD,rv,pl,hz⟩:=I.list hq;obtain⟨zs,e,en⟩:=Ad rv;have len:zs.size=ns.length:=by rw[<-en,Yn,qp]
 have pos:=List.length_pos_of_mem hm;refine min_intList (xs:=zs) (I.ok.hd hc) (by rw[<-e];exact pl.isList) (by omega) fun v h' tk hv hk=>?_;obtain⟨t,rfl⟩:=intItems_at hv;obtain⟨hi,top⟩:=argBest_lt (numAt zs) (zs.size - 1);obtain⟨j,hj,ej⟩:=fm en hm;have h1:=top j (by omega);have h2:=hb _ (An en (i:=argBest (fun i j=>decide (numAt zs i<numAt zs j)) (zs.size - 1)) (by omega));exact⟨.int m,H,I.kept hk,⟨t,by rw[show numAt zs (argBest (fun i j=>decide (numAt zs i<numAt zs j)) (zs.size - 1))=m by omega]⟩,q⟩
inductive mn(xs:ZQ)(H:Hp)(Q:VK):Prop
 | mk(x:Str)(n:Int)(h0:xs=[.str x])(h1:PySem.intText? x=some n)(h2:x.length<=640)(h3:Q (.int n) H):mn xs H Q
theorem qz:Yk X (.type "int") mn:=by
 intro XB s Z H xs us Q I r h;obtain⟨x,n,rfl,hn,hl,q⟩:=h;obtain⟨u,rfl,t,rfl⟩:=vals1 r;exact W.KIN.call_text hn hl ⟨.int n,H,I.tok _,⟨_,rfl⟩,q⟩
end
end PV
namespace TLT
open PySem PySem.Calls PyProof.Rows SeqAt
noncomputable def Lx(b:Bool):List (Value×Value)->Prop
 | (.int i _,.int j _)::r=>if i=j then Lx b r else b=decide (i<j)
 | _=>False
theorem Lx.out{b:Bool}{l:List (Value×Value)}(h:Lx b l):∃i t j u r,l=(.int i t,.int j u)::r/\if i=j then Lx b r else b=decide (i<j):=by
 unfold Lx at h
 split at h
 .exact⟨_,_,_,_,_,rfl,h⟩
 .exact h.elim
theorem ig{prog:Program}{w:World}{A:Around}{E:ZW}{s:Shared}{Q:ZW}{i j:Int}{t u:Tok}(h:Q (.bool (decide (i<j))) s):wpAny (model prog w) A (richCompare .Lt (.int i t) (.int j u)) Q E s :=
 CmpOf.ints_lt (P:=fun k v=>∃x,v=.int (if k=0 then i else j) x) (fun k=>if k=0 then i else j) (fun _ _ e=>e) 0 1 _ _ s Q E ⟨t,rfl⟩ ⟨u,rfl⟩ h
theorem wu(l b:Addr)(items items2:ZN)(n n2:Nat)(dd dd2:ZP)(sl sl2:ZF)(c:Bool) :
  Meets (Builtin.«tuple.__lt__» ⟨[.ref l,.ref b],[]⟩)
   (fun A R s=>s.heap.get? l=some { cls:=.type "tuple",dict:=dd,data:=.seq items n,slots:=sl }/\s.heap.get? b=some { cls:=.type "tuple",dict:=dd2,data:=.seq items2 n2,slots:=sl2 } /\
    Lx c (items.toList.zip items2.toList)/\R (.ok (.ret (.bool c))) s) :=
 .of_wp fun prog w A R s h=>by
  obtain⟨hp,g,d,tk,os⟩:=s;obtain⟨hl,hb,lx,h⟩:=h;have f2:=AutoSeq1.sub_tuple_tuple
  wp_walk using wpAny_loadPart' hl,wpAny_loadPart' hb,wpAny_forIn_list _ (fun rest b s'=>b.1=none/\s'=⟨hp,g,d,tk,os⟩/\Lx c rest) _
  case turn =>
   rintro⟨y,x⟩ rest b s' ⟨hb',rfl,lx⟩;obtain⟨i,t,j,u,r,e,g⟩:=lx.out;cases e;refine Zv (EqAt.int_int i t j u prog w _ _ ?_);by_cases Wf:i=j
   .rw[if_pos Wf]at g;rw[show (i == j)=true from beq_iff_eq.mpr Wf]
    wp_walk
    exact⟨rfl,rfl,g⟩
   .rw[if_neg Wf]at g;rw[show (i == j)=false from B0n.mpr Wf]
    wp_walk using ig
    exact⟨_,rfl,g ▸ h⟩
  case fin =>
   rintro⟨b1,b2⟩ s' ⟨_,_,z⟩;exact z.elim
  case h=>exact⟨rfl,rfl,lx⟩
section
variable{prog:Program}{w:World}{A:Around}{E:ZW}{s:Shared}
theorem zc{l b:Addr}{items items2:ZN}{c:Bool}{Q:ZW}(hl:s.heap.IsTuple l items)(hb:s.heap.IsTuple b items2)(hu:A.units<cLine)(lx:Lx c (items.toList.zip items2.toList))(h:Q (.bool c) s):wpAny (model prog w) A (richCompare .Lt (.ref l) (.ref b)) Q E s:=by
 obtain⟨o,ho,hc,n,hd⟩:=hl;obtain⟨o2,M7,hc2,n2,hd2⟩:=hb;cases o with | mk cls dd data sl =>
 cases o2 with | mk cls2 dd2 data2 sl2 =>
 cases hc;cases hd;cases hc2;cases hd2;have fin:Value.bool c≠Value.notImplemented/\Q (.bool c) s:=⟨fun z=>(nomatch z),h⟩;exact richCompare_meets_room (op:=.Lt) ⟨_,ho,rfl⟩ ⟨_,M7,rfl⟩ F.slot_tuple_lt F.entry_tuple_lt (F.args_tuple_lt_2 _ _) (wu l b items items2 n n2 dd dd2 sl sl2 c) ⟨ho,M7,lx,fin⟩ hu
end
section
variable{prog:Program}{w:World}{A:Around}{R:Result->Shared->Prop}{I:Addr}{fp wr:ZU}{n:Nat}{P:Nat->Value->Prop}{St:Nat->Heap->Prop}
theorem Iu(bt:Nat->Nat->Bool)(j:Nat):argBest bt j<=j:=by
 induction j with
 | zero=>exact Yg _
 | succ j ih =>
  show (if bt (j+1) (argBest bt j)=true then j+1 else argBest bt j)<=j+1
  split<;>omega
theorem Eu(W:Walks prog w A.in1 I fp wr n P St){G:Heap->Prop}{bt:Nat->Nat->Bool}{S:Addr}(far:S ∉ fp)
  (keep:∀h h':Heap,G h->(∀b o,b ∉ wr->b≠S->h.get? b=some o->h'.get? b=some o)->G h')
  (ask:∀i j x y (s:Shared) (Q E:ZW),j<i->G s.heap->P i x->P j y->Q (.bool (bt i j)) s->wpAny (model prog w) A.in1 (richCompare .Lt x y) Q E s) :
  ∀(m j:Nat) (s:Shared) (best:Value) (c:Nat),n=j+1+m->G s.heap->St (j+1) s.heap->P (argBest bt j) best ->
  s.heap.get? S=some { cls:=.type "list",dict:=none,data:=.seq #[best,best] c,slots:=#[] } ->
  (∀v h' tk,P (argBest bt (n - 1)) v->(∀b o,b ∉ wr->b≠S->s.heap.get? b=some o->h'.get? b=some o)->R (.ok (.ret v)) { s with heap:=h',toks:=tk }) ->
  codeAny (model prog w) A (.builtin "min.loop" ⟨[.ref I,.none,.ref S],[]⟩) R s:=by
 have out:S ∉ wr:=fun z=>far (W.sub _ z);intro m
 induction m with
 | zero =>
  intro j s best c en gs st pb at0 fin;cases en;refine codeAny_builtin F.entry_min_loop ?_;rw[Around.under_plainId F.plain_min_loop _];refine Zv (wpAny_seqItems at0 rfl ?_);refine Zv (wpAny_tryCatch (W.done s _ _ st fun h1 tk k1=>?_));have Gc:=k1 S _ out at0;refine Zv (wpAny_updateSeq Gc rfl (Zv (wpAny_letGo (Yt ?_))));exact fin best _ tk pb fun b o hb hs e=>(Heap.get?_update_other _ _ (Ne.symm hs)).trans (k1 b o hb e)
 | succ m ih =>
  intro j s best c en gs st pb at0 fin;refine codeAny_builtin F.entry_min_loop ?_;rw[Around.under_plainId F.plain_min_loop _];refine Zv (wpAny_seqItems at0 rfl ?_);refine Zv (wpAny_tryCatch (W.item (j+1) s _ _ (by omega) st fun x h1 tk px st1 k1=>?_));have Gc:=k1 S _ out at0;have g1:G h1:=keep _ _ gs fun b o hb _ e=>k1 b o hb e
  change wpAny _ _ (tryCatch (holding _ (richCompare CmpOp.Lt x best >>= _)) _ >>= _) _ _ _
  refine Zv (wpAny_tryCatch (wpAny_holding (Zv (ask (j+1) (argBest bt j) x best _ _ _ (Nat.lt_succ_of_le (Iu bt j)) g1 px pb ?_))));refine Zv (wpAny_holding (wpAny_truthy_bool ?_));refine Zv (wpAny_letGo (Yt ?_));have e1:argBest bt (j+1)=if bt (j+1) (argBest bt j)=true then j+1 else argBest bt j:=rfl
  cases hb:bt (j+1) (argBest bt j) with
  | true =>
   rw[if_pos hb]at e1;refine Zv (wpAny_updateSeq Gc rfl (Zv (wpAny_letGo ?_)));have k2:∀b o,b≠S->h1.get? b=some o->(h1.update S (Obj.mapSeq fun _=>#[x,x])).get? b=some o:=fun b o hs e=>(Heap.get?_update_other _ _ (Ne.symm hs)).trans e;refine Yt ⟨plainId_quiet F.plain_min_loop _,ih (j+1) _ x _ (by omega) (keep _ _ g1 fun b o _ hs e=>k2 b o hs e) (W.frame _ _ _ st1 fun b hf o e=>k2 b o (fun z=>far (z ▸ hf)) e) (by rw[e1];exact px) (Heap.get?_update_self _ Gc rfl) fun v h3 tk3 pv k3=>?_⟩;exact fin v h3 tk3 pv fun b o hw hs e=>k3 b o hw hs (k2 b o hs (k1 b o hw e))
  | false =>
   rw[if_neg (by rw[hb];exact D2)]at e1;refine Zv (wpAny_letGo ?_);refine Yt ⟨plainId_quiet F.plain_min_loop _,ih (j+1) _ best c (by omega) g1 st1 (by rw[e1];exact pb) Gc fun v h3 tk3 pv k3=>?_⟩;exact fin v h3 tk3 pv fun b o hw hs e=>k3 b o hw hs (k1 b o hw e)
theorem Pk(W:Walks prog w A.in1 I fp wr n P St){G:Heap->Prop}{bt:Nat->Nat->Bool}{S:Addr}(far:S ∉ fp)
  (keep:∀h h':Heap,G h->(∀b o,b ∉ wr->b≠S->h.get? b=some o->h'.get? b=some o)->G h')
  (ask:∀i j x y (s:Shared) (Q E:ZW),j<i->G s.heap->P i x->P j y->Q (.bool (bt i j)) s->wpAny (model prog w) A.in1 (richCompare .Lt x y) Q E s) (pos:0<n)
  {s:Shared} {c:Nat} (gs:G s.heap) (st:St 0 s.heap) (at0:s.heap.get? S=some { cls:=.type "list",dict:=none,data:=.seq #[] c,slots:=#[] })
  (fin:∀v h' tk,P (argBest bt (n - 1)) v->(∀b o,b ∉ wr->b≠S->s.heap.get? b=some o->h'.get? b=some o)->R (.ok (.ret v)) { s with heap:=h',toks:=tk }) :
  codeAny (model prog w) A (.builtin "min.loop" ⟨[.ref I,.none,.ref S],[]⟩) R s:=by
 have out:S ∉ wr:=fun z=>far (W.sub _ z);refine codeAny_builtin F.entry_min_loop ?_;rw[Around.under_plainId F.plain_min_loop _];refine Zv (wpAny_seqItems at0 rfl ?_);refine Zv (wpAny_tryCatch (W.item 0 s _ _ pos st fun x h1 tk px st1 k1=>?_));have Gc:=k1 S _ out at0;have g1:G h1:=keep _ _ gs fun b o hb _ e=>k1 b o hb e
 change wpAny _ _ (updateSeq S (fun _=>#[x,x]) >>= _) _ _ _
 refine Zv (wpAny_updateSeq Gc rfl ?_);have k2:∀b o,b≠S->h1.get? b=some o->(h1.update S (Obj.mapSeq fun _=>#[x,x])).get? b=some o:=fun b o hs e=>(Heap.get?_update_other _ _ (Ne.symm hs)).trans e;refine Yt ⟨plainId_quiet F.plain_min_loop _,Eu W far keep ask (n - 1) 0 _ x _ (by omega) (keep _ _ g1 fun b o _ hs e=>k2 b o hs e) (W.frame _ _ _ st1 fun b hf o e=>k2 b o (fun z=>far (z ▸ hf)) e) px (Heap.get?_update_self _ Gc rfl) fun v h3 tk3 pv k3=>?_⟩;exact fin v h3 tk3 pv fun b o hw hs e=>k3 b o hw hs (k2 b o hs (k1 b o hw e))
theorem bg{E Q:ZW}{s:Shared}{l:Addr}{vs:ZN}{ad:Nat->Addr}{XD:Nat->ZN}{bt:Nat->Nat->Bool}(hh:A.handled=none)(hu:A.in1.units<cLine)(hl:s.heap.IsList l vs)(pos:0<vs.size)
  (hv:∀(i:Nat) (v:Value),vs[i]?=some v->v=.ref (ad i)) (ht:∀i,i<vs.size->s.heap.IsTuple (ad i) (XD i)) (lx:∀i j,i<vs.size->j<i->Lx (bt i j) ((XD i).toList.zip (XD j).toList))
  (h:∀h' tk,(∀b o,s.heap.get? b=some o->h'.get? b=some o)->Q (.ref (ad (argBest bt (vs.size - 1)))) { s with heap:=h',toks:=tk }):wpAny (model prog w) A (call (.builtin "min") [.ref l]) Q E s:=by
 refine call_function_tree F.kind_min F.plain_min F.entry_min (F.args_min1 _) ?_;refine Zv (wpAny_of_eq (show Builtin.Builtins.bindParams "min" ["key","default"] 0 ⟨[],[]⟩=pure [none,none] from rfl) ?_);refine Zv (Yt ?_);have lt:l<s.heap.objs.size:=by obtain⟨_,e,_⟩:=hl;exact Vb e
 refine Zv (wpAny_pyIter_list hl ?_);refine Zv (wpAny_newObj_type ?_);have up1:∀b o,s.heap.get? b=some o->(s.heap.push { cls:=.type "list_iterator",data:=.fields #[.ref l,.int 0 0] }).get? b=some o:=fun b o e=>Y9 _ e
 have apart:∀{a:Addr} {xs:ZN},s.heap.IsTuple a xs->a ∉ [s.heap.objs.size]/\a≠(s.heap.push { cls:=.type "list_iterator",data:=.fields #[.ref l,.int 0 0] }).objs.size:=fun {a xs} t=>by
  obtain⟨_,e,_⟩:=t;have hb:=Vb e;exact⟨fun z=>Nat.lt_irrefl _ (M4.mp z ▸ hb),fun z=>absurd hb (by rw[z,Heap.size_push];exact Nat.not_lt_of_le (Nat.le_succ _))⟩
 refine Yt ⟨plainId_quiet F.plain_min_loop _,Pk (W:=Walks.list (A:=A.in1) hh s.heap.objs.size l (N0 lt) vs) (G:=fun h=>∀i,i<vs.size->h.IsTuple (ad i) (XD i)) (bt:=bt) ?_ (fun h h' g k i hi=>?_) (fun i j x y s' Q' E' Wf g px py q=>?_) pos ?_ ?_ (Dj _ rfl) fun v h' tk pv k=>?_⟩
 .intro z;have e2:(s.heap.push { cls:=.type "list_iterator",data:=.fields #[.ref l,.int 0 0] }).objs.size=s.heap.objs.size+1:=Heap.size_push _ _;rcases Yw.mp z with z | z
  .exact absurd (e2.symm.trans z) (Nat.succ_ne_self _)
  .rcases Yw.mp z with z | z
   .have e3:s.heap.objs.size+1=l:=e2.symm.trans z;exact absurd lt (by rw[<-e3];exact Nat.not_lt_of_le (Nat.le_succ _))
   .cases z
 .obtain⟨o,e,r⟩:=g i hi;exact⟨o,k _ o (apart (ht i hi)).1 (apart (ht i hi)).2 e,r⟩
 .have hi:i<vs.size:=(Array.getElem?_eq_some_iff.mp px).1;have hj:j<vs.size:=(Array.getElem?_eq_some_iff.mp py).1;rw[hv i x px,hv j y py];exact zc (g i hi) (g j hj) hu (lx i j hi Wf) q
 .intro i hi;obtain⟨o,e,r⟩:=ht i hi;exact⟨o,Y9 _ (up1 _ _ e),r⟩
 .exact⟨⟨_,Y9 _ (Dj _ rfl),rfl,rfl⟩,(hl.push _).push _⟩
 .rw[hv _ v pv];refine h h' tk fun b o e=>?_;have hb:=Vb e;exact k b o (fun z=>Nat.lt_irrefl _ (M4.mp z ▸ hb)) (fun z=>absurd hb (by rw[z,Heap.size_push];exact Nat.not_lt_of_le (Nat.le_succ _))) (Y9 _ (up1 _ _ e))
end
end TLT
namespace TLT
open PySem PySem.Spec PyProof.Rows L2 PV
theorem lex_no{a b c:Int×Int}(h:Yb a b=false)(g:Yb b c=false):Yb a c=false:=by
 unfold Yb at *
 split at h<;>split at g<;>split<;>simp only[decide_eq_false_iff_not]at *<;>omega
theorem lex_eq{a b:Int×Int}(h:Yb a b=false)(g:Yb b a=false):a=b:=by
 unfold Yb at *;have:a.1=b.1/\a.2=b.2:=by split at h<;>split at g<;>simp only[decide_eq_false_iff_not]at *<;>omega
 exact Prod.ext this.1 this.2
theorem lex_as{a b:Int×Int}(h:Yb a b=true):Yb b a=false:=by
 unfold Yb at *
 split at h<;>split<;>simp only[decide_eq_true_eq,decide_eq_false_iff_not]at *<;>omega
theorem Kg(f:Nat->Int×Int):∀k j,j<=k->Yb (f j) (f (argBest (fun i j=>Yb (f i) (f j)) k))=false:=by
 intro k
 induction k with
 | zero =>
  intro j hj;cases Nat.le_zero.mp hj;show Yb (f 0) (f 0)=false;unfold Yb;rw[if_pos rfl];exact Dl (Int.lt_irrefl _)
 | succ k ih =>
  intro j hj;show Yb (f j) (f (if Yb (f (k+1)) (f (argBest (fun i j=>Yb (f i) (f j)) k))=true then k+1 else argBest (fun i j=>Yb (f i) (f j)) k))=false;by_cases h:Yb (f (k+1)) (f (argBest (fun i j=>Yb (f i) (f j)) k))=true
  .rw[if_pos h];rcases Nat.lt_or_eq_of_le hj with l | rfl
   .exact lex_no (ih j (Nat.le_of_lt_succ l)) (lex_as h)
   .unfold Yb;rw[if_pos rfl];exact Dl (Int.lt_irrefl _)
  .rw[if_neg h];rcases Nat.lt_or_eq_of_le hj with l | rfl
   .exact ih j (Nat.le_of_lt_succ l)
   .exact Bool.eq_false_iff.mpr h
section
variable{X:Cx}
inductive bf(K:W.Frag)(xs:ZQ)(H:Hp)(Q:VK):Prop
 | mk(p:Addr)(zs:ZQ)(f:Nat->Int×Int)(h0:xs=[.ref p])(h1:Vc K H p zs)(h2:0<zs.length)(h3:∀i,i<zs.length->∃b ws,zs.getD i .non=.ref b/\Yu K H b (.int (f i).1::.int (f i).2::ws))(h4:∀i j,i<zs.length->j<i->f i≠f j)
  (h5:∀i,i<zs.length->(∀j,j<zs.length->Yb (f j) (f i)=false)->Q (zs.getD i .non) H):bf K xs H Q
theorem x4(hc:X.calm=true)(hu:X.A.in1.units<cLine):Yk X (.builtin "min") (bf X.K):=by
 intro XB s Z H xs us Q I r h;obtain⟨p,zs,f,rfl,hq,pos,hd,nd,q⟩:=h;obtain⟨u,rfl,rx⟩:=vals1 r;cases rx;obtain⟨XD,rv,pl,z⟩:=I.list hq;have il:=rv.length
 have at_:∀i,∃y:Addr×ZM,i<zs.length->XD.getD i .none=.ref y.1/\zs.getD i .non=.ref y.1/\s.heap.IsTuple y.1 y.2.toArray/\∃t t' rs,y.2=.int (f i).1 t::.int (f i).2 t'::rs:=fun i=>by
  by_cases hi:i<zs.length
  .obtain⟨b,ws,e1,sq⟩:=hd i hi;have rr:=SRT.M9 rv (show i<XD.length by omega);rw[e1]at rr;obtain⟨jts,jr,tp,_⟩:=I.tuple sq;cases jr with | cons j1 j2 =>
   cases j2 with | cons j3 j4 =>
   obtain⟨t,rfl⟩:=(show ∃t,_=Value.int _ t from j1);obtain⟨t',rfl⟩:=(show ∃t,_=Value.int _ t from j3);exact⟨(b,_),fun _=>⟨rr,e1,tp,t,t',_,rfl⟩⟩
  .exact⟨(0,[]),fun z=>absurd z hi⟩
 obtain⟨y,hy⟩:=Classical.skolem.mp at_;have sz:XD.toArray.size=zs.length:=by rw[Vi,il]
 refine bg (ad:=fun i=>(y i).1) (XD:=fun i=>(y i).2.toArray) (bt:=fun i j=>Yb (f i) (f j)) (I.ok.hd hc) hu pl.isList (by omega) (fun i v e=>?_) (fun i hi=>(hy i (by omega)).2.2.1) (fun i j hi hj=>?_) fun h' tk k=>?_
 .have hi:i<XD.length:=by simpa using (Array.getElem?_eq_some_iff.mp e).1
  have:=(hy i (by omega)).1;rw[List.getD_eq_getElem?_getD]at this;rw[List.getElem?_toArray]at e;rw[e]at this;exact this
 .obtain⟨_,_,_,t,t',rs,e⟩:=hy i (by omega);obtain⟨_,_,_,u,u',rs',e'⟩:=hy j (by omega);have ne:=nd i j (by omega) hj;show Lx _ ((y i).2.zip (y j).2);rw[e,e'];show if (f i).1=(f j).1 then Lx _ ((Value.int (f i).2 t',Value.int (f j).2 u')::_) else _
  unfold Yb;by_cases h1:(f i).1=(f j).1
  .rw[if_pos h1,if_pos h1];show if (f i).2=(f j).2 then _ else _
   rw[if_neg fun h2=>ne (Prod.ext h1 h2)]
  .rw[if_neg h1,if_neg h1]
 .rw[sz];have hb:=Iu (fun i j=>Yb (f i) (f j)) (zs.length - 1);have hi:argBest (fun i j=>Yb (f i) (f j)) (zs.length - 1)<zs.length:=by omega
  refine⟨_,H,I.kept k, ?_,q _ hi fun j hj=>Kg f _ j (by omega)⟩;rw[(hy _ hi).2.1]
  rfl
end
end TLT
namespace PV
open PySem PySem.Spec PyProof.Rows L2
theorem Zz7{Z:Type}{xs:List Z}{i:Int}{x:Z}(h:Ci xs i=some x):∃j,Sv xs.length i=some j/\xs[j]?=some x:=by
 unfold Ci at h;cases e:Sv xs.length i with
 | none=>rw[e]at h;cases h
 | some j=>rw[e]at h;exact⟨j,rfl,h⟩
theorem Zx.at{K:W.Frag}{mg:ZV}{H F:Hp}{ts:ZZ}{vs:ZQ}{i:Int}{t:T}(h:Zx K mg H F ts vs)(e:Ci ts i=some t):∃v,Ci vs i=some v/\IsT K mg H F t v:=by
 obtain⟨j,e1,e2⟩:=Zz7 e;obtain⟨v,e3,h2⟩:=h.get e2;exact⟨v,by unfold Ci;rw[<-h.length,e1];exact e3,h2⟩
theorem Zx.cut{K:W.Frag}{mg:ZV}{H F:Hp}{ts:ZZ}{vs:ZQ}(h:Zx K mg H F ts vs)(lo hi:ZR):Zx K mg H F (D0 ts lo hi) (Cy vs lo hi):=by
 unfold D0 Cy;rw[h.length];exact(h.drop _).take _
section
variable{X:Cx}{XB:ZY}{Z σ':L2.St}{H F₁ G:Hp}{s:Shared}{Q:VK}{x y:V}{v u:Value}{t t':T}{p:P}{r:Sl}
theorem ix_run{z:T}{value slice:Expr}(I:Inv X XB σ' H s)(un:X.A.units+150<cLine)(rx:RelV x v)(ry:RelV y u)(s1:B7 X.K X.mg H F₁ t x)(s2:B7 X.K X.mg H F₁ t' y)(e:z6 t t'=some z)(q:∀w,IsT X.K X.mg H F₁ z w->Q w H)
  (hs:subscripted slice false v u=operate [v,u] (getItem v u)):wpAny (model X.prog X.w) X.A (subscriptTail value slice v u) (EP X XB σ' Q) X.xe s:=by
 unfold z6 at e
 split at e
 .cases(show y=_ from s2);obtain⟨a,vs,rfl,h1,z1,ar⟩:=s1;obtain⟨w,e1,e2⟩:=ar.at e;exact ix_tup value slice XB s σ' H _ _ v u Q I rx ry ⟨a,vs,_,w,rfl,rfl,h1,e1,q w e2⟩ hs
 .cases(show y=_ from s2);obtain⟨a,vs,rfl,h1,z1,ar⟩:=s1;obtain⟨w,e1,e2⟩:=ar.at e;exact i3 value slice XB s σ' H _ _ v u Q I rx ry ⟨a,vs,_,w,rfl,rfl,.inl h1,e1,q w e2⟩ hs
 .split at e
  .rename_i hz
   cases(show x=_ from s1);cases(show y=_ from s2);obtain⟨c,e1,rfl⟩:=Z8.mp e;exact ix_str value slice XB s σ' H _ _ v u Q I rx ry ⟨_,_,c,rfl,rfl,hz,e1,q _ rfl⟩ hs
  .cases e
 .obtain⟨a,ks,rfl,h1,z1,ar⟩:=s1;obtain⟨k,e1,e2⟩:=ZO.mp e;cases Mg e1 s2;obtain⟨w,h2,h3⟩:=(Zd.val k ar).1 z e2;cases rx;have g:M6 H a (kV k) (some w):=.inl ⟨ks,k,h1,rfl,h2.symm⟩;exact tail_any (Oz I g) slot_dict_getitem.lookup (xu (by omega) I g ry fun w' s' I' W9=>⟨w,H,I',W9,q w h3⟩) hs
 .cases e
theorem p6{lo hi:ZR}{vl vu:Value}{sl:Addr}{z:Str}{tk:Tok}(I:Inv X XB σ' H s)(hs:s.heap.IsSliceOf sl vl vu .none)(pl:IsPart vl lo)(pu:IsPart vu hi)(hz:z.length<=sizeLine)(q:Q (.str (Txt.slice z lo hi)) H) :
  ∃T id,typeLookup (.type T) "__getitem__" = pure (some (.builtin id))/\s.TypeIs (.str z tk) T/\wpAny (model X.prog X.w) X.A (getItem (.str z tk) (.ref sl)) (EP X XB σ' Q) X.xe s:=by
 have q':∀(t':Tok) (k:Nat),EP X XB σ' Q (.str (Txt.slice z lo hi) t') { s with toks:=k }:=fun t' k=>⟨.str _,H,I.tok _,⟨t',rfl⟩,q⟩;refine⟨"str",_,PySem.F.slot_str_getitem.lookup,typeIs_str _ _ _, ?_⟩;cases pl with
 | none=>cases pu with
  | none=>exact wpAny_getItem_str_slice (l:=none) (u:=none) (st:=none) hs rfl (post_val_or_str ⟨Ve (Txt.slice_le z _ _) hz,fun t' k=>q' t' k⟩)
  | int j uj=>exact wpAny_getItem_str_slice (l:=none) (u:=some (j,uj)) (st:=none) hs rfl (post_val_or_str ⟨Ve (Txt.slice_le z _ _) hz,fun t' k=>q' t' k⟩)
 | int i ui=>cases pu with
  | none=>exact wpAny_getItem_str_slice (l:=some (i,ui)) (u:=none) (st:=none) hs rfl (post_val_or_str ⟨Ve (Txt.slice_le z _ _) hz,fun t' k=>q' t' k⟩)
  | int j uj=>exact wpAny_getItem_str_slice (l:=some (i,ui)) (u:=some (j,uj)) (st:=none) hs rfl (post_val_or_str ⟨Ve (Txt.slice_le z _ _) hz,fun t' k=>q' t' k⟩)
theorem vo{lo hi:ZR}{vl vu:Value}{sl:Addr}(I:Inv X XB σ' H s)(rel:Rel X.K X.mg F₁ G p Z H)(rx:RelV x v)(s1:B7 X.K X.mg H F₁ t x)(hs:s.heap.IsSliceOf sl vl vu .none)(pl:IsPart vl lo)(pu:IsPart vu hi)(e:slT t lo hi=some r)(q:Fin X F₁ G p Z H r Q) :
  ∃T id,typeLookup (.type T) "__getitem__" = pure (some (.builtin id))/\s.TypeIs v T/\wpAny (model X.prog X.w) X.A (getItem v (.ref sl)) (EP X XB σ' Q) X.xe s:=by
 unfold slT at e
 split at e
 .cases e;obtain⟨a,vs,rfl,h1,z1,ar⟩:=s1;exact p5 XB s σ' H _ v vl vu lo hi sl Q I rx hs pl pu ⟨a,vs,rfl,h1,fun l H' sm hq=>q.f rel sm ⟨l,_,rfl,hq,Ve (Ul _ _ _) z1,Zx.up sm.up (Le.refl _) _ _ (ar.cut lo hi)⟩⟩
 .cases e;obtain⟨a,vs,rfl,h1,z1,ar⟩:=s1;exact p7 XB s σ' H _ v vl vu lo hi sl Q I rx hs pl pu ⟨a,vs,rfl,.inl h1,fun l hl=>q.l rel hl (Ve (Ul _ _ _) z1) (ar.cut lo hi)⟩
 .split at e
  .rename_i hz
   cases e;cases(show x=_ from s1);obtain⟨_,rfl⟩:=rx;exact p6 I hs pl pu hz (q.h rel rfl)
  .cases e
 .cases e
noncomputable def btV:Pr->Option (Str×Value)
 | .len=>some ("len",.builtin "len")
 | .all=>some ("all",.builtin "all")
 | .any=>some ("any",.builtin "any")
 | .list=>some ("list",.type "list")
 | .tuple=>some ("tuple",.type "tuple")
 | .min=>some ("min",.builtin "min")
 | .max=>some ("max",.builtin "max")
 | .int=>some ("int",.type "int")
 | .abs=>some ("abs",.builtin "abs")
 | .dict=>some ("dict",.type "dict")
 | .sorted=>some ("sorted",.builtin "sorted")
 | .repr=>some ("repr",.builtin "repr")
 | .str=>some ("str",.type "str")
 | .sum=>some ("sum",.builtin "sum")
 | _=>none
theorem Z9{Z U:Type}{R:Z->U->Prop}{a:Z}{bs:List U}(h:Paired R [a] bs):∃b,bs=[b]/\R a b:=by
 cases h with
 | cons h t=>cases t;exact⟨_,rfl,h⟩
theorem B0{Z U:Type}{R:Z->U->Prop}{a a':Z}{bs:List U}(h:Paired R [a,a'] bs):∃b b',bs=[b,b']/\R a b/\R a' b':=by
 cases h with
 | cons h t=>obtain⟨b,rfl,h2⟩:=Z9 t;exact⟨_,_,rfl,h,h2⟩
theorem Zx.pairs2{K:W.Frag}{mg:ZV}{H F:Hp}:∀{ts:ZZ} {vs:ZQ} {hs:List (Int×Int)},Zx K mg H F ts vs->R8 ts=some hs->ts.length=hs.length/\∀i,i<vs.length->∃b ws,vs.getD i .non=.ref b/\Yu K H b (.int (hs.getD i (0,0)).1::.int (hs.getD i (0,0)).2::ws)
 | [],vs,hs,h,e=>by cases(show vs=[] from h);cases e;exact⟨rfl,fun i hi=>absurd hi (Nat.not_lt_zero _)⟩
 | t::ts,vs,hs,h,e=>by
  obtain⟨v,r,rfl,q,w⟩:=h;unfold R8 at e
  split at e
  .rename_i z;cases z
  .rename_i i j us r' et
   cases et;obtain⟨F7,e1,rfl⟩:=Z8.mp e;obtain⟨g1,g2⟩:=Zx.pairs2 w e1;refine⟨by rw[B9,B9,g1],fun k hk=>?_⟩;cases k with
   | zero =>
    obtain⟨b,ws,rfl,sq,_,v1,r1,rfl,i1,v2,r2,rfl,i2,_⟩:=q;cases(show v1=_ from i1);cases(show v2=_ from i2);exact⟨b,r2,rfl,sq⟩
   | succ k=>exact g2 k (Nat.lt_of_succ_lt_succ hk)
  .cases e
theorem Zx.least{K:W.Frag}{mg:ZV}{H F:Hp}{ts:ZZ}{vs:ZQ}{t:T}(ar:Zx K mg H F ts vs)(e:ij ts=some t):∃f:Nat->Int×Int,0<vs.length/\(∀i,i<vs.length->∃b ws,vs.getD i .non=.ref b/\Yu K H b (.int (f i).1::.int (f i).2::ws))/\(∀i j,i<vs.length->j<i->f i≠f j) /\
  ∀i,i<vs.length->(∀j,j<vs.length->Yb (f j) (f i)=false)->IsT K mg H F t (vs.getD i .non):=by
 obtain⟨hs,e1,e2⟩:=ZO.mp e
 split at e2
 .rename_i nd
  obtain⟨⟨x,t'⟩,e3,rfl⟩:=Z8.mp e2;obtain⟨g1,g2⟩:=ar.pairs2 e1;have vl:=ar.length;have mem:=List.mem_of_find?_eq_some e3;have ok:=List.find?_some e3;obtain⟨k,hk,ek⟩:=List.getElem_of_mem mem;have hk':k<hs.length:=by rw[List.length_zip]at hk;omega
  have hkt:k<ts.length:=by omega
  rw[List.getElem_zip]at ek;have ex:hs[k]=x:=congrArg Prod.fst ek;have et:ts[k]=t':=congrArg Prod.snd ek;have gd:∀{i:Nat} (hi:i<hs.length),hs.getD i (0,0)=hs[i]:=fun hi=>by rw[List.getD_eq_getElem?_getD,Ui hi];rfl
  refine⟨fun i=>hs.getD i (0,0),by omega,g2,fun i j hi hj z=>?_,fun i hi le=>?_⟩
  .have z:hs.getD i (0,0)=hs.getD j (0,0):=z;rw[gd (by omega),gd (by omega)]at z;have:=(List.getElem_inj nd).mp z;omega
  .have h1:Yb hs[i] x=false:=by
    have:=K0.mp ok hs[i] (G0e (by omega));simpa using this
   have h2:Yb x hs[i]=false:=by
    have:Yb (hs.getD k (0,0)) (hs.getD i (0,0))=false:=le k (by omega);rw[gd hk',gd (show i<hs.length by omega),ex]at this;exact this
   have e4:x=hs[i]:=TLT.lex_eq h2 h1;have e5:k=i:=(List.getElem_inj nd).mp (ex.trans e4);subst e5;obtain⟨v,hv,it⟩:=ar.get (Ui hkt);rw[List.getD_eq_getElem?_getD,hv, <-et];exact it
 .cases e2
theorem b7{K:W.Frag}{mg:ZV}{H F:Hp}{c:Bool}{t t':T}{v v':V}(h:IsT K mg H F t v)(h':IsT K mg H F t' v'):IsT K mg H F (if c=true then t else t') (if c=true then v else v'):=by
 cases c with
 | true=>exact h
 | false=>exact h'
theorem bt_run{bq:Pr}{nm:Str}{fv:Value}{ts:ZZ}{xs:ZQ}{us:ZM}(hb:btV bq=some (nm,fv))(hc:X.calm=true)(un:X.A.units+150<cLine)(gd:X.A.guards=some [])(I:Inv X XB σ' H s)(rel:Rel X.K X.mg F₁ G p Z H)(rs:Zw xs us)(se:Paired (B7 X.K X.mg H F₁) ts xs)(e:Sz bq ts=some r)(q:Fin X F₁ G p Z H r Q) :
  wpAny (model X.prog X.w) X.A (call fv us) (EP X XB σ' Q) X.xe s:=by
 unfold Sz at e
 split at e<;>first | cases hb | skip
 .unfold pLen at e
  split at e
  rotate_left
  .cases e
  obtain⟨n,e1,rfl⟩:=Z8.mp e;obtain⟨x,rfl,s1⟩:=Z9 se;unfold lenT at e1
  split at e1
  .cases e1;obtain⟨a,vs,rfl,h1,z1,ar⟩:=s1;exact Mu XB s σ' H _ us Q I rs ⟨a,vs,rfl,.inr h1,q.h rel (by rw[ar.length];rfl)⟩
  .cases e1;obtain⟨a,vs,rfl,h1,z1,ar⟩:=s1;exact Mu XB s σ' H _ us Q I rs ⟨a,vs,rfl,.inl (.inl h1),q.h rel (by rw[ar.length];rfl)⟩
  .cases e1;obtain⟨a,vs,rfl,h1,z1,ar⟩:=s1;obtain⟨u,rfl,rx⟩:=vals1 rs;cases rx;exact d_len I h1 fun t s' I'=>⟨.int vs.length,H,I',⟨t,rfl⟩,q.h rel (by rw[ar.length];rfl)⟩
  .split at e1
   .rename_i hz
    cases e1;cases(show x=_ from s1);exact cx XB s σ' H _ us Q I rs ⟨_,_,rfl,⟨hz,rfl⟩,q.h rel rfl⟩
   .cases e1
  .cases e1
 .unfold Zxl at e
  split at e
  rotate_left
  .cases e
  cases e;obtain⟨x,rfl,a,vs,rfl,h1,z1,ar⟩:=Z9 se;exact Fv XB s σ' H _ us Q I rs ⟨a,vs,rfl,.inr h1,fun l hl=>q.l rel hl z1 ar⟩
 .unfold Af at e
  split at e
  .obtain⟨ws,e1,rfl⟩:=Z8.mp e;obtain⟨x,rfl,a,vs,rfl,h1,z1,ar⟩:=Z9 se;unfold Xl at e1
   split at e1
   .rename_i hs eh
    split at e1
    .rename_i hn
     cases e1;obtain⟨g1,g2⟩:=ar.heads eh;have vl:=ar.length;by_cases h2:vs.length<2
     .have ew:(SRT.Tg (hs.zip _)).map (·.2)=_:=SRT.vg (d:=T.non) g1 (by omega);rw[ew]at q;exact SRT.Mp XB s σ' H _ us Q I rs ⟨a,vs,vs,rfl,.inl (.inl h1),SRT.S7 h2,fun l hl=>q.l rel hl z1 ar⟩
     .refine SRT.Fj XB s σ' H _ us Q I rs ⟨a,vs,hs,rfl,.inl h1,by omega,g2,hn.1,by omega,by omega,fun l p hl op=>?_⟩;rw[<-SRT.fq (d:=T.non) g1 op]at q;refine q.l rel hl ?_ (ar.pick _ fun i m=>by have:=List.mem_range.mp (op.1.mem_iff.mp m);omega);rw[Yn,op.1.length_eq,XJ];have:=sizeLine_eq;omega
    .cases e1
   .obtain⟨ys,k1,k2,k3⟩:=vw ar e1;exact SRT.Mp XB s σ' H _ us Q I rs ⟨a,vs,ys,rfl,.inl (.inl h1),k1,fun l hl=>q.l rel hl (by have:=sizeLine_eq;omega) k2⟩
  .obtain⟨ws,e1,rfl⟩:=Z8.mp e;obtain⟨x,rfl,a,ks,rfl,h1,z1,ar⟩:=Z9 se;obtain⟨ys,k1,k2,k3⟩:=vw ar.keyT e1;exact SRT.Fw hc XB s σ' H _ us Q I rs ⟨a,ks,ys,rfl,h1,k1,fun l hl=>q.l rel hl (by have:=sizeLine_eq;omega) k2⟩
  .cases e
 .unfold g0 at e
  split at e
  rotate_left
  .cases e
  cases e;obtain⟨x,rfl,a,vs,rfl,h1,z1,ar⟩:=Z9 se;exact Cd XB s σ' H _ us Q I rs ⟨a,vs,rfl,.inl (.inl h1),fun l H' sm hq=>q.f rel sm ⟨l,vs,rfl,hq,z1,Zx.up sm.up (Le.refl _) _ _ ar⟩⟩
 .unfold pMin at e
  split at e
  .cases e;obtain⟨x,y,rfl,s1,s2⟩:=B0 se;cases(show x=_ from s1);cases(show y=_ from s2);exact x6 hc XB s σ' H _ us Q I rs ⟨_,_,rfl,q.h rel rfl⟩
  .cases e;obtain⟨x,y,rfl,s1,s2⟩:=B0 se;cases(show x=_ from s1);cases(show y=_ from s2);refine TNM.Kx hc XB s σ' H _ us Q I rs ⟨_,_,_,_,rfl,rfl,rfl,q.h rel ?_⟩;exact b7 rfl rfl
  .unfold zt at e;obtain⟨x,rfl,a,vs,rfl,h1,z1,ar⟩:=Z9 se
   split at e
   .rename_i zs e1
    obtain⟨m,e2,rfl⟩:=Z8.mp e;obtain⟨m1,m2⟩:=Ah e2;exact x5 hc XB s σ' H _ us Q I rs ⟨a,zs,m,rfl,.inl (by rw[<-ar.ints e1];exact h1),m1,m2,q.h rel rfl⟩
   .obtain⟨t,e2,rfl⟩:=Z8.mp e;obtain⟨f,k1,k2,k3,k4⟩:=ar.least e2;exact TLT.x4 hc (by rw[units_in1];omega) XB s σ' H _ us Q I rs ⟨a,vs,f,rfl,.inl h1,k1,k2,k3,fun i hi hj=>q.h rel (k4 i hi hj)⟩
  .cases e
 .unfold pMax at e
  split at e
  .cases e;obtain⟨x,y,rfl,s1,s2⟩:=B0 se;cases(show x=_ from s1);cases(show y=_ from s2);exact x9 hc XB s σ' H _ us Q I rs ⟨_,_,rfl,q.h rel rfl⟩
  .cases e;obtain⟨x,y,rfl,s1,s2⟩:=B0 se;cases(show x=_ from s1);cases(show y=_ from s2);refine TNM.Kq hc XB s σ' H _ us Q I rs ⟨_,_,_,_,rfl,rfl,rfl,q.h rel ?_⟩;exact b7 rfl rfl
  .obtain⟨zs,e1,e⟩:=ZO.mp e;obtain⟨m,e2,rfl⟩:=Z8.mp e;obtain⟨x,rfl,a,vs,rfl,h1,z1,ar⟩:=Z9 se;obtain⟨m1,m2⟩:=iw e2;exact x8 hc XB s σ' H _ us Q I rs ⟨a,zs,m,rfl,.inl (by rw[<-ar.ints e1];exact h1),m1,m2,q.h rel rfl⟩
  .cases e
 .unfold pInt at e
  split at e
  .cases e;obtain⟨x,rfl,s1⟩:=Z9 se;cases(show x=_ from s1);exact qx XB s σ' H _ us Q I rs (.inr ⟨_,rfl,q.h rel rfl⟩)
  .split at e
   .rename_i hz
    obtain⟨n,e1,rfl⟩:=Z8.mp e;obtain⟨x,rfl,s1⟩:=Z9 se;cases(show x=_ from s1);exact qz XB s σ' H _ us Q I rs ⟨_,n,rfl,e1,hz,q.h rel rfl⟩
   .cases e
  .cases e
 .unfold pAbs at e
  split at e
  rotate_left
  .cases e
  cases e;obtain⟨x,rfl,s1⟩:=Z9 se;cases(show x=_ from s1);exact cq XB s σ' H _ us Q I rs ⟨_,rfl,q.h rel rfl⟩
 .unfold Zxr at e
  split at e
  .cases e;obtain⟨x,rfl,a,ks,rfl,h1,z1,ar⟩:=Z9 se;exact Og XB s σ' H _ us Q I rs ⟨a,ks,rfl,h1,fun l hl=>let ⟨r1,r2⟩:=rel.newD hl z1 ar;q _ _ _ (Le.refl _) (Zc.lay hl).up r1 r2⟩
  .obtain⟨XM,e1,rfl⟩:=Z8.mp e;obtain⟨x,rfl,a,vs,rfl,h1,z1,ar⟩:=Z9 se;obtain⟨ks,k1,k2,k3⟩:=ar.pairs e1;refine Bu hc XB s σ' H _ us Q I rs ⟨a,vs,ks,rfl,.inl h1,k2,k3,fun l hl=>?_⟩
   have kl:(Wm ks).length<=sizeLine:=by
    have:=Nc ks [];unfold Wm;simp only[List.length_nil,Nat.zero_add]at this;omega
   obtain⟨r1,r2⟩:=rel.newD hl kl (Zd.fold k1 (show Zd X.K X.mg H F₁ [] [] from rfl));exact q _ _ _ (Le.refl _) (Zc.lay hl).up r1 r2
  .cases e
 .unfold Zxn at e
  split at e
  rotate_left
  .cases e
  obtain⟨z,e1,rfl⟩:=Z8.mp e;obtain⟨x,rfl,s1⟩:=Z9 se;obtain⟨u,rfl,rx⟩:=vals1 rs;exact yy I rel.b.f un gd rx s1 e1 (q.h rel rfl)
 .unfold pStr at e
  split at e
  rotate_left
  .cases e
  split at e
  .rename_i hz
   cases e;obtain⟨x,rfl,s1⟩:=Z9 se;cases(show x=_ from s1);exact Fq XB s σ' H _ us Q I rs ⟨_,rfl,hz,q.h rel rfl⟩
  .cases e
 .unfold pSum at e
  split at e
  rotate_left
  .cases e
  obtain⟨zs,e1,rfl⟩:=Z8.mp e;obtain⟨x,rfl,a,vs,rfl,h1,z1,ar⟩:=Z9 se;exact x3 hc XB s σ' H _ us Q I rs ⟨a,zs,rfl,.inl (by rw[<-ar.ints e1];exact h1),q.h rel rfl⟩
 .cases e
end
noncomputable def kdS:Kd->String
 | .int => "int"
 | .bool => "bool"
 | .str => "str"
 | .tuple => "tuple"
 | .list => "list"
 | .dict => "dict"
section
variable{X:Cx}{XB:ZY}{Z σ':L2.St}{H F₁ G:Hp}{s:Shared}{Q:VK}{x y:V}{v u:Value}{t t':T}{p:P}{r:Sl}
theorem i7{n:Kd}{b:Bool}(I:Inv X XB σ' H s)(rx:RelV x v)(s1:B7 X.K X.mg H F₁ t x)(e:isiT n t=some b)(q:Q (.bl b) H):wpAny (model X.prog X.w) X.A (call (.builtin "isinstance") [v,.type (kdS n)]) (EP X XB σ' Q) X.xe s:=by
 have fin:∀tk,EP X XB σ' Q (.bool b) { s with toks:=tk }:=fun tk=>⟨.bl _,H,I.tok _,rfl,q⟩;cases t with
 | non=>cases(show x=_ from s1);exact Va I rx .non (by cases n<;>cases e<;>rfl) fin
 | bl k=>cases(show x=_ from s1);exact Va I rx (.bl k) (by cases n<;>cases e<;>rfl) fin
 | int k=>cases(show x=_ from s1);exact Va I rx (.int k) (by cases n<;>cases e<;>rfl) fin
 | str k=>cases(show x=_ from s1);exact Va I rx (.str k) (by cases n<;>cases e<;>rfl) fin
 | tup ts =>
  obtain⟨a,vs,rfl,hq,_⟩:=s1;cases rx;exact i6 I hq (by cases n<;>cases e<;>rfl) fin
 | lst ts =>
  obtain⟨a,vs,rfl,hq | ⟨o,hq⟩,_⟩:=s1
  .exact Va I rx (.lst hq) (by cases n<;>cases e<;>rfl) fin
  .exact Va I rx (.frz hq) (by cases n<;>cases e<;>rfl) fin
 | dct ts =>
  obtain⟨a,ks,rfl,hq,_⟩:=s1;cases rx;obtain⟨_,_,vs,_,o,es,ep,h1,h2,_⟩:=hq.ok I.hok;exact W.kia_one W.kitx_dict I.kIn ⟨o,h1,h2.1⟩ (by cases n<;>cases e<;>rfl) (fun z=>nomatch z) fin
 | fn _=>cases n<;>cases e
def rO(X:Cx)(f:Value->Value->Sem Value):R2:=fun x y H Q=>∀XB s Z v u,Inv X XB Z H s->RelV x v->RelV y u->wpAny (model X.prog X.w) X.A (f v u) (EP X XB Z Q) X.xe s
theorem opr{f:Value->Value->Sem Value}:Uo X f (rO X f):=fun XB s Z _ _ _ v u _ I rx ry h=>h XB s Z v u I rx ry
def rC(X:Cx)(f:Value):ZQ->Hp->VK->Prop:=fun xs H Q=>∀XB s Z us,Inv X XB Z H s->Zw xs us->wpAny (model X.prog X.w) X.A (call f us) (EP X XB Z Q) X.xe s
theorem cz{f:Value}:Yk X f (rC X f):=fun XB s Z _ _ us _ I rs h=>h XB s Z us I rs
def rX(X:Cx):R2:=fun x y H Q=>∀value slice XB s Z v u,Inv X XB Z H s->RelV x v->RelV y u->subscripted slice false v u=operate [v,u] (getItem v u)->wpAny (model X.prog X.w) X.A (subscriptTail value slice v u) (EP X XB Z Q) X.xe s
theorem ixr:IxR X (rX X):=fun value slice XB s Z _ _ _ v u _ I rx ry h hs=>h value slice XB s Z v u I rx ry hs
def rL(X:Cx):V->ZR->ZR->Hp->VK->Prop:=fun x lo hi H Q=>∀XB s Z v vl vu sl,Inv X XB Z H s->RelV x v->s.heap.IsSliceOf sl vl vu .none->IsPart vl lo->IsPart vu hi ->
 ∃T id,typeLookup (.type T) "__getitem__" = pure (some (.builtin id))/\s.TypeIs v T/\wpAny (model X.prog X.w) X.A (getItem v (.ref sl)) (EP X XB Z Q) X.xe s
theorem slr:SlR X (rL X):=fun XB s Z _ _ v vl vu _ _ sl _ I rx hs pl pu h=>h XB s Z v vl vu sl I rx hs pl pu
end
noncomputable def vis(sc:ZK)(x:Str):Bool:=match sc.lookup x with
 | some .local=>true
 | some .cell=>true
 | some .free=>true
 | _=>false
noncomputable def Wb(sc:ZK)(x:Str):Bool:=sc.lookup x == some .globalImplicit && !(x == ("__debug__" : Str))
noncomputable def U2(N:ZD)(sc:ZK)(i:Nat)(x:Str):Bool:=N[i]? == some x && vis sc x && !(x == ("__debug__" : Str)) && !(x == ("__classdict__" : Str))
def V4:Expr->Bool
 | .Slice _ _ _ _=>false
 | _=>true
def Er:Expr->Bool
 | .Call _ [] _ _=>false
 | _=>true
def Mw:Expr->Bool
 | .Call _ _ _ _=>false
 | _=>true
inductive Shp where
 | name(y:Str) | bin(a:Expr)(op:Operator)(b:Expr) | cmp(a:Expr)(ops:List CmpOp)(bs:ZC) | un(op:UnaryOp)(a:Expr) | sub(a b:Expr) | dct(ks:List (Option Expr))(vs:ZC)
 | callN (f:Str) (xs:ZC) | callA (o:Expr) (m:Str) (ap:Pos) (xs:ZC) (cp:Pos) | tup (xs:ZC) | lst (xs:ZC) | boo (o:BoolOp) (xs:ZC) (p:Pos) | ife (c a b:Expr) | lc (e:Expr) (g:List Comprehension) (s:Scope) | slc (l h s:Option Expr) | non
noncomputable def shpC:Expr->ZC->List Keyword->Pos->Shp
 | .Name f _,xs,[],_=>.callN f xs
 | .Attribute o m ap,xs,[],cp=>.callA o m ap xs cp
 | _,_,_,_=>.non
noncomputable def Bi:Expr->Shp
 | .Name y _=>.name y
 | .BinOp a op b _=>.bin a op b
 | .Compare a ops bs _=>.cmp a ops bs
 | .UnaryOp op a _=>.un op a
 | .Subscript a b _=>.sub a b
 | .Dict ks vs _=>.dct ks vs
 | .Call f xs ks cp=>shpC f xs ks cp
 | .Tuple xs _ _=>.tup xs
 | .List xs _=>.lst xs
 | .BoolOp o xs p=>.boo o xs p
 | .IfExp c a b _=>.ife c a b
 | .ListComp e g s _=>.lc e g s
 | .Slice l h s _=>.slc l h s
 | _=>.non
def ShpI:Shp->Expr->Prop
 | .name y,x=>∃p,x=.Name y p
 | .bin a op b,x=>∃p,x=.BinOp a op b p
 | .cmp a ops bs,x=>∃p,x=.Compare a ops bs p
 | .un op a,x=>∃p,x=.UnaryOp op a p
 | .sub a b,x=>∃p,x=.Subscript a b p
 | .dct ks vs,x=>∃p,x=.Dict ks vs p
 | .callN f xs,x=>∃q p,x=.Call (.Name f q) xs [] p
 | .callA o m ap xs cp,x=>x=.Call (.Attribute o m ap) xs [] cp
 | .tup xs,x=>∃j p,x=.Tuple xs j p
 | .lst xs,x=>∃p,x=.List xs p
 | .boo o xs p,x=>x=.BoolOp o xs p
 | .ife c a b,x=>∃p,x=.IfExp c a b p
 | .lc e g s,x=>∃p,x=.ListComp e g s p
 | .slc l h s,x=>∃p,x=.Slice l h s p
 | .non,_=>True
theorem uq(x:Expr):ShpI (Bi x) x:=by
 cases x
 case Call f xs ks cp =>
  cases f
  case Name=>cases ks with
   | nil=>exact⟨_,_,rfl⟩
   | cons _ _=>trivial
  case Attribute=>cases ks with
   | nil=>rfl
   | cons _ _=>trivial
  all_goals exact True.intro
 case BoolOp=>rfl
 case Tuple=>exact⟨_,_,rfl⟩
 all_goals first | exact⟨_,rfl⟩ | exact True.intro
theorem Z2{x:Expr}{s:Shp}(e:Bi x=s):ShpI s x:=e ▸ uq x
noncomputable def vOp(o:Op)(x:Expr):Option (ZC):=match Bi x with
 | .bin a op b=>if op=opOf o then some [a,b] else none
 | _=>none
theorem vOp_ex{o:Op}{x:Expr}{xs:ZC}(h:vOp o x=some xs):∃a op b p,x=.BinOp a op b p/\(if op=opOf o then some [a,b] else none)=some xs:=by
 unfold vOp at h
 split at h
 .rename_i e
  obtain⟨p,rfl⟩:=Z2 e;exact⟨_,_,_,p,rfl,h⟩
 .cases h
noncomputable def rg(x:Expr):Option (Expr×List CmpOp×ZC):=match Bi x with
 | .cmp a ops bs=>some (a,ops,bs)
 | _=>none
theorem K4{x a:Expr}{ops:List CmpOp}{bs:ZC}(h:rg x=some (a,ops,bs)):∃p,x=.Compare a ops bs p:=by
 unfold rg at h
 split at h
 .rename_i e
  cases h;exact Z2 e
 .cases h
noncomputable def vCm(c:Cm)(x:Expr):Option (ZC):=match rg x with
 | some (a,[op],[b])=>if op=G9 c/\behindInMarks op b=false then some [a,b] else none
 | _=>none
theorem wk{c:Cm}{x:Expr}{xs:ZC}(h:vCm c x=some xs):∃a op b p,x=.Compare a [op] [b] p/\(if op=G9 c/\behindInMarks op b=false then some [a,b] else none)=some xs:=by
 unfold vCm at h
 split at h
 .rename_i e
  obtain⟨p,rfl⟩:=K4 e;exact⟨_,_,_,p,rfl,h⟩
 .cases h
noncomputable def vC2(c:Cm)(d:Cm)(x:Expr):Option (ZC):=match rg x with
 | some (a,[op,Sx],[b,e])=>if op=G9 c/\Sx=G9 d/\lastMarks [op,Sx] [b,e]=false then some [a,b,e] else none
 | _=>none
theorem wg{c d:Cm}{x:Expr}{xs:ZC}(h:vC2 c d x=some xs):∃a op Sx b e p,x=.Compare a [op,Sx] [b,e] p/\(if op=G9 c/\Sx=G9 d/\lastMarks [op,Sx] [b,e]=false then some [a,b,e] else none)=some xs:=by
 unfold vC2 at h
 split at h
 .rename_i e
  obtain⟨p,rfl⟩:=K4 e;exact⟨_,_,_,_,_,p,rfl,h⟩
 .cases h
noncomputable def vNeg(x:Expr):Option (ZC):=match Bi x with
 | .un op a=>if op=.USub then some [a] else none
 | _=>none
theorem rq{x:Expr}{xs:ZC}(h:vNeg x=some xs):∃a p,x=.UnaryOp .USub a p/\some [a]=some xs:=by
 unfold vNeg at h
 split at h
 .rename_i e
  obtain⟨p,rfl⟩:=Z2 e
  split at h
  .rename_i z;subst z;exact⟨_,p,rfl,h⟩
  .cases h
 .cases h
noncomputable def l9(x:Expr):Option (Expr×Expr):=match Bi x with
 | .sub a b=>some (a,b)
 | _=>none
theorem K2{x a b:Expr}(h:l9 x=some (a,b)):∃p,x=.Subscript a b p:=by
 unfold l9 at h
 split at h
 .rename_i e
  cases h;exact Z2 e
 .cases h
noncomputable def vIx(x:Expr):Option (ZC):=match l9 x with
 | some (a,b)=>if V4 b=true then some [a,b] else none
 | none=>none
theorem vIx_ex{x:Expr}{xs:ZC}(h:vIx x=some xs):∃a b p,x=.Subscript a b p/\(if V4 b=true then some [a,b] else none)=some xs:=by
 unfold vIx at h
 split at h
 .rename_i e
  obtain⟨p,rfl⟩:=K2 e;exact⟨_,_,p,rfl,h⟩
 .cases h
noncomputable def rk(x:Expr):Option (Expr×Option Expr×Option Expr×Option Expr):=match l9 x with
 | some (a,b)=>(match Bi b with
  | .slc l h s=>some (a,l,h,s)
  | _=>none)
 | none=>none
theorem K3{x a:Expr}{l hh s:Option Expr}(h:rk x=some (a,l,hh,s)):∃q p,x=.Subscript a (.Slice l hh s q) p:=by
 unfold rk at h
 split at h
 .rename_i e
  obtain⟨p,rfl⟩:=K2 e
  split at h
  .rename_i e'
   cases h;obtain⟨q,rfl⟩:=Z2 e';exact⟨q,p,rfl⟩
  .cases h
 .cases h
noncomputable def jo(x:Expr):Option (ZC):=match rk x with
 | some (a,some l,none,none)=>some [a,l]
 | _=>none
theorem ja{x:Expr}{xs:ZC}(h:jo x=some xs):∃a l q p,x=.Subscript a (.Slice (some l) none none q) p/\some [a,l]=some xs:=by
 unfold jo at h
 split at h
 .rename_i e
  obtain⟨q,p,rfl⟩:=K3 e;exact⟨_,_,q,p,rfl,h⟩
 .cases h
noncomputable def je(x:Expr):Option (ZC):=match rk x with
 | some (a,none,some l,none)=>some [a,l]
 | _=>none
theorem ji{x:Expr}{xs:ZC}(h:je x=some xs):∃a l q p,x=.Subscript a (.Slice none (some l) none q) p/\some [a,l]=some xs:=by
 unfold je at h
 split at h
 .rename_i e
  obtain⟨q,p,rfl⟩:=K3 e;exact⟨_,_,q,p,rfl,h⟩
 .cases h
noncomputable def wy(x:Expr):Option (ZC):=match Bi x with
 | .dct [] []=>some []
 | _=>none
theorem wj{x:Expr}{xs:ZC}(h:wy x=some xs):∃p,x=.Dict [] [] p/\some ([]:ZC)=some xs:=by
 unfold wy at h
 split at h
 .rename_i e
  obtain⟨p,rfl⟩:=Z2 e;exact⟨p,rfl,h⟩
 .cases h
noncomputable def nk:Expr->Bool
 | .Constant (.int i) _ _=>decide (i=1)
 | _=>false
noncomputable def Xj(x:Expr):Option (Str×ZC):=match Bi x with
 | .callN f xs=>some (f,xs)
 | _=>none
theorem Bo{x:Expr}{f:Str}{xs:ZC}(h:Xj x=some (f,xs)):∃q p,x=.Call (.Name f q) xs [] p:=by
 unfold Xj at h
 split at h
 .rename_i e
  cases h;exact Z2 e
 .cases h
noncomputable def j5(x:Expr):Option Str:=match Bi x with
 | .name y=>some y
 | _=>none
theorem Wi{x:Expr}{y:Str}(h:j5 x=some y):∃p,x=.Name y p:=by
 unfold j5 at h
 split at h
 .rename_i e
  cases h;exact Z2 e
 .cases h
noncomputable def vIsi(sc:ZK)(n:Kd)(x:Expr):Option (ZC):=match Xj x with
 | some (f,[a,k])=>(match j5 k with
  | some k=>if f = "isinstance" /\ Wb sc f=true/\k=kdS n/\Wb sc k=true then some [a] else none
  | none=>none)
 | _=>none
theorem rj{sc:ZK}{n:Kd}{x:Expr}{xs:ZC}(h:vIsi sc n x=some xs):∃f q a k q' p,x=.Call (.Name f q) [a,.Name k q'] [] p/\(if f = "isinstance" /\ Wb sc f=true/\k=kdS n/\Wb sc k=true then some [a] else none)=some xs:=by
 unfold vIsi at h
 split at h
 .rename_i e
  obtain⟨q,p,rfl⟩:=Bo e
  split at h
  .rename_i e'
   obtain⟨q',rfl⟩:=Wi e';exact⟨_,q,_,_,q',p,rfl,h⟩
  .cases h
 .cases h
def conS:Expr->Option Str
 | .Constant k _ _=>(match k with
  | .str y=>some y
  | _=>none)
 | _=>none
theorem Zz1{x:Expr}{y:Str}(h:conS x=some y):∃a b,x=.Constant (.str y) a b:=by
 cases x
 case Constant k a b=>cases k<;>first | (cases h;exact⟨a,b,rfl⟩) | cases h
 all_goals cases h
noncomputable def wq(x:Expr):Option (ZC):=match Bi x with
 | .callA o m ap [a] cp=>if m = "get" /\ Mw o=true/\(ap.endLine == cp.line)=true then some [o,a] else none
 | _=>none
theorem wx{x:Expr}{xs:ZC}(h:wq x=some xs):∃o m ap a cp,x=.Call (.Attribute o m ap) [a] [] cp/\(if m = "get" /\ Mw o=true/\(ap.endLine == cp.line)=true then some [o,a] else none)=some xs:=by
 unfold wq at h
 split at h
 .rename_i e;exact⟨_,_,_,_,_,Z2 e,h⟩
 .cases h
noncomputable def wz(x:Expr):Option (ZC):=match Bi x with
 | .callA o m ap [a,b] cp=>if m = "get" /\ Mw o=true/\(ap.endLine == cp.line)=true then some [o,a,b] else none
 | _=>none
theorem j9{x:Expr}{xs:ZC}(h:wz x=some xs):∃o m ap a b cp,x=.Call (.Attribute o m ap) [a,b] [] cp/\(if m = "get" /\ Mw o=true/\(ap.endLine == cp.line)=true then some [o,a,b] else none)=some xs:=by
 unfold wz at h
 split at h
 .rename_i e;exact⟨_,_,_,_,_,_,Z2 e,h⟩
 .cases h
noncomputable def j7(x:Str)(z:Expr):Option (ZC):=match Bi z with
 | .callA o m ap [a] cp=>(match conS o with
  | some y=>if m = "join" /\ y=x/\(ap.endLine == cp.line)=true then some [a] else none
  | none=>none)
 | _=>none
theorem j6{x:Str}{z:Expr}{xs:ZC}(h:j7 x z=some xs):∃y k1 k2 m ap a cp,z=.Call (.Attribute (.Constant (.str y) k1 k2) m ap) [a] [] cp/\(if m = "join" /\ y=x/\(ap.endLine == cp.line)=true then some [a] else none)=some xs:=by
 unfold j7 at h
 split at h
 .rename_i e
  split at h
  .rename_i e'
   obtain⟨k1,k2,rfl⟩:=Zz1 e';exact⟨_,k1,k2,_,_,_,_,Z2 e,h⟩
  .cases h
 .cases h
noncomputable def So(sc:ZK)(x:Expr):Option (ZC):=match Xj x with
 | some (f,[y])=>(match Bi y with
  | .callA o m ap [] cp=>if f = "list" /\ Wb sc f=true/\m = "values" /\ Er o=true/\(ap.endLine == cp.line)=true then some [o] else none
  | _=>none)
 | _=>none
theorem Xq{sc:ZK}{x:Expr}{xs:ZC}(h:So sc x=some xs):∃f q o m ap cp p,x=.Call (.Name f q) [.Call (.Attribute o m ap) [] [] cp] [] p/\(if f = "list" /\ Wb sc f=true/\m = "values" /\ Er o=true/\(ap.endLine == cp.line)=true then some [o] else none)=some xs:=by
 unfold So at h
 split at h
 .rename_i e
  obtain⟨q,p,rfl⟩:=Bo e
  split at h
  .rename_i e'
   cases Z2 e';exact⟨_,q,_,_,_,_,p,rfl,h⟩
  .cases h
 .cases h
noncomputable def ju(x:Expr):Option (ZC):=match Bi x with
 | .tup [a]=>some [a]
 | _=>none
theorem jh{x:Expr}{xs:ZC}(h:ju x=some xs):∃a j p,x=.Tuple [a] j p/\some [a]=some xs:=by
 unfold ju at h
 split at h
 .rename_i e
  obtain⟨j,p,e⟩:=Z2 e;exact⟨_,j,p,e,h⟩
 .cases h
noncomputable def vBt(sc:ZK)(q:Pr)(x:Expr):Option (ZC):=match Xj x with
 | some (f,a::r)=>(match btV q with
  | some (n,_)=>if f=n/\Wb sc f=true then some (a::r) else none
  | none=>none)
 | _=>none
theorem vBt_ex{sc:ZK}{q:Pr}{x:Expr}{xs:ZC}(h:vBt sc q x=some xs):∃f p0 a r p,x=.Call (.Name f p0) (a::r) [] p/\(match btV q with
  | some (n,_)=>if f=n/\Wb sc f=true then some (a::r) else none
  | none=>none)=some xs:=by
 unfold vBt at h
 split at h
 .rename_i e
  obtain⟨p0,p,rfl⟩:=Bo e;exact⟨_,p0,_,_,p,rfl,h⟩
 .cases h
noncomputable def view(sc:ZK):Pr->Expr->Option (ZC)
 | .op o=>vOp o
 | .cm c=>vCm c
 | .c2 c d=>vC2 c d
 | .neg=>vNeg
 | .ix=>vIx
 | .sl true false=>jo
 | .sl false true=>je
 | .dnew=>wy
 | .isi n=>vIsi sc n
 | .get1=>wq
 | .get2=>wz
 | .join x=>j7 x
 | .lvals=>So sc
 | .tup1=>ju
 | q=>vBt sc q
noncomputable def U9:ZD:=["len","all","any","list","tuple","min","max","int","abs","dict","isinstance","sorted","set","range","zip","enumerate","sum","repr","str","bool"]
structure Ctx(X:Cx)(w:W)(k:Nat)(N:ZD)(sc:ZK):Prop where
 nN:X.N=N
 nd:N.Nodup
 nm:∀x c,sc.lookup x=some c->X.env.scope.names.lookup x=some c\/(c=.free/\X.env.scope.names.lookup x=some .cell)
 calm:X.calm=true
 room:Vu k X.A
 bn:∀x∈U9,X.mg x=none
 fn:∀f as r,w.C f as=some r->∃ps,as.length=ps.length/\Fn X.prog X.w X.K X.mg X.base k f ps (spC X.K X.mg ps.length (w.C f))
 gl:∀x t,w.gl x=some t->∃v u,X.mg x=some u/\RelV v u/\∀H F,IsT X.K X.mg H F t v
 xe:X.xe=nj
 cl:∀x,sc.lookup x=some .cell->X.fn x=true
section
variable{X:Cx}{w:W}{k:Nat}{N:ZD}{sc:ZK}
theorem Ctx.un(c:Ctx X w k N sc):X.A.units+150<cLine:=by have:=c.room.un;omega
theorem Ctx.gl'(c:Ctx X w k N sc){x:Str}(h:Wb sc x=true):Gl X x/\(x == ("__debug__" : Str))=false:=by
 unfold Wb at h;rw[Y6,beq_iff_eq]at h;rcases c.nm x _ h.1 with e | ⟨z,_⟩
 .exact⟨e,by simpa using h.2⟩
 .cases z
theorem Ctx.vis(c:Ctx X w k N sc){x:Str}(h:PV.vis sc x=true):Vis X.env.scope x:=by
 unfold PV.vis at h
 split at h
 .rename_i e
  rcases c.nm x _ e with e | ⟨z,_⟩
  .exact .inl e
  .cases z
 .rename_i e
  rcases c.nm x _ e with e | ⟨z,_⟩
  .exact .inr (.inl e)
  .cases z
 .rename_i e
  rcases c.nm x _ e with e | ⟨_,e⟩
  .exact .inr (.inr e)
  .exact .inr (.inl e)
 .cases h
theorem Ctx.var(c:Ctx X w k N sc){i:Nat}{x:Str}{pos:Pos}(h:U2 N sc i x=true):PE X (.Name x pos) (tVar i):=by
 unfold U2 at h;simp only[Y6,beq_iff_eq]at h;obtain⟨⟨⟨h1,h2⟩,h3⟩,h4⟩:=h;exact gq (by rw[c.nN];exact h1) (c.vis h2) (by simpa using h3) (by simpa using h4)
theorem Iv{q:Pr}{es:E}{p p':P}{r:Sl}(e:ev w (.pr q es) p=some (r,p')):∃as ts,Jd w true es p=some (as,p')/\looks p' as=some ts/\Sz q ts=some r:=by
 replace e:=(ev_prQ _ _).symm.trans e
 obtain⟨a,e1,e⟩:=ZO.mp e;obtain⟨ts,e2,e⟩:=ZO.mp e;obtain⟨s,e3,e⟩:=Z8.mp e;cases e;exact⟨a.1,ts,e1,e2,e3⟩
mutual
def t9:E->Bool
 | .k _=>true
 | .g _=>true
 | .v _=>true
 | .pr _ es=>Bv es
 | _=>false
def Bv:E->Bool
 | .nil=>true
 | .cons a r=>t9 a && Bv r
 | _=>false
end
mutual
theorem calm_h:∀(a:E) {p p':P} {a':A},t9 a=true->Pn true a p (toT (ev w a p))=some (a',p')->p'=p
 | .v i,p,p',a',_,e=>by
  unfold Pn at e;dsimp only at e;rw[if_pos rfl]at e
  split at e
  .cases e;rfl
  .cases e
 | .k t,p,p',a',_,e=>by cases e;rfl
 | .g x,p,p',a',_,e=>by
  have e:(toT ((w.gl x).map fun t=>(Sl.f t,p))).map (fun q=>(A.t q.1,q.2))=some (a',p'):=e;cases q:w.gl x with
  | none=>rw[q]at e;cases e
  | some t=>rw[q]at e;cases e;rfl
 | .pr q es,p,p',a',h,e=>by
  have e:(toT (ev w (.pr q es) p)).map (fun q=>(A.t q.1,q.2))=some (a',p'):=e;obtain⟨z,e1,e2⟩:=Z8.mp e;cases e2;unfold toT at e1;obtain⟨y,e3,e4⟩:=ZO.mp e1;obtain⟨t,e5,e6⟩:=Z8.mp e4;cases e6;obtain⟨as,ts,e7,_,_⟩:=Iv (r:=y.1) (p':=y.2) e3;exact Nu es h e7
 | .mv _,_,_,_,h,_=>by cases h
 | .io _,_,_,_,h,_=>by cases h
 | .nil,_,_,_,h,_=>by cases h
 | .cons _ _,_,_,_,h,_=>by cases h
 | .tup _,_,_,_,h,_=>by cases h
 | .lst _,_,_,_,h,_=>by cases h
 | .and _ _,_,_,_,h,_=>by cases h
 | .or _ _,_,_,_,h,_=>by cases h
 | .not _,_,_,_,h,_=>by cases h
 | .ite _ _ _,_,_,_,h,_=>by cases h
 | .call _ _,_,_,_,h,_=>by cases h
 | .cal _ _,_,_,_,h,_=>by cases h
 | .mt _ _ _,_,_,_,h,_=>by cases h
 | .comp _ _ _ _ _ _,_,_,_,h,_=>by cases h
 | .itr _ _,_,_,_,h,_=>by cases h
 | .tmp _,_,_,_,h,_=>by cases h
theorem Nu:∀(es:E) {p p':P} {as:List A},Bv es=true->Jd w true es p=some (as,p')->p'=p
 | .nil,p,p',as,_,e=>(Vj e).2
 | .cons a r,p,p',as,h,e=>by
  obtain⟨a',p1,as',e1,e2,rfl⟩:=Zu e;have h:(t9 a && Bv r)=true:=h;rw[Y6]at h;exact(Nu r h.2 e2).trans (calm_h a h.1 e1)
 | .v _,_,_,_,h,_=>by cases h
 | .k _,_,_,_,h,_=>by cases h
 | .g _,_,_,_,h,_=>by cases h
 | .pr _ _,_,_,_,h,_=>by cases h
 | .mv _,_,_,_,h,_=>by cases h
 | .io _,_,_,_,h,_=>by cases h
 | .tup _,_,_,_,h,_=>by cases h
 | .lst _,_,_,_,h,_=>by cases h
 | .and _ _,_,_,_,h,_=>by cases h
 | .or _ _,_,_,_,h,_=>by cases h
 | .not _,_,_,_,h,_=>by cases h
 | .ite _ _ _,_,_,_,h,_=>by cases h
 | .call _ _,_,_,_,h,_=>by cases h
 | .cal _ _,_,_,_,h,_=>by cases h
 | .mt _ _ _,_,_,_,h,_=>by cases h
 | .comp _ _ _ _ _ _,_,_,_,h,_=>by cases h
 | .itr _ _,_,_,_,h,_=>by cases h
 | .tmp _,_,_,_,h,_=>by cases h
end
noncomputable def quiet:Pr->E->Bool
 | .c2 _ _,.cons _ (.cons _ r)=>Bv r
 | .sl true true,.cons _ (.cons _ r)=>Bv r
 | .get1,.cons _ r=>Bv r
 | .get2,.cons _ r=>Bv r
 | .c2 _ _,_=>false
 | .sl true true,_=>false
 | .get1,_=>false
 | .get2,_=>false
 | _,_=>true
theorem k6{b:Expr}(h:V4 b=true):I8 b:=fun o i=>by cases b<;>first | rfl | cases h
theorem Mo{o:Expr}(h:Mw o=true)(m:Str)(env:Env)(wh:Sem Value):attributeBase o m env wh=wh:=by
 cases o<;>first | rfl | cases h
theorem sup_of{o:Expr}(h:Er o=true)(m:Str)(env:Env)(wh:Sem Value):attributeBase o m env wh=wh:=by
 unfold attributeBase
 split
 .cases h
 .rfl
theorem Zd.valT{K:W.Frag}{mg:ZV}{H F:Hp}:∀{XM:ZX} {ks:List (Key×V)},Zd K mg H F XM ks->Zx K mg H F (XM.map (·.2)) (ks.map (·.2))
 | [],ks,h=>by cases(show ks=[] from h);rfl
 | p::r,ks,h=>by
  obtain⟨q,rs,rfl,i,w⟩:=h;obtain⟨k,t⟩:=p;exact⟨_,_,rfl,i.2,Zd.valT w⟩
theorem Zz5(n:Kd):bootBuiltins (kdS n:Str)=some (.type (kdS n)):=by cases n<;>decide +kernel
theorem ie(n:Kd):(kdS n:Str) ≠ "__name__" := by cases n<;>decide +kernel
theorem Zz4{q:Pr}{n:Str}{fv:Value}(h:btV q=some (n,fv)):bootBuiltins n=some fv/\n ≠ "__name__" /\ n∈U9/\((∃i,fv=.builtin i)\/∃t,fv=.type t):=by
 cases q<;>cases h
 all_goals exact⟨by decide +kernel,by decide +kernel,by decide +kernel,by first | exact .inl ⟨_,rfl⟩ | exact .inr ⟨_,rfl⟩⟩
theorem L1{es:ZC}{env:Env}{cpos:Pos}(h:∀e∈es,noStar e=true)(hl:es.length<30):((backTo cpos (starEach es env)).all (fun x=>!x.1) && (backToKw cpos (keywordEach [] env)).all (fun x=>x.1.isSome)
  && decide (es.length+([]:List Keyword).length+(if ([]:List Keyword).isEmpty then 0 else 1)<30))=true:=by
 have h1:(backTo cpos (starEach es env)).all (fun x=>!x.1)=true:=by
  rw[List.all_eq_not_any_not];have:=Y1 es env cpos h;simp only[Bool.not_not];rw[this];rfl
 rw[h1];show (true && true && decide (es.length+0+0<30))=true;rw[Dw (by omega)]
 rfl
theorem ko(c:Ctx X w k N sc){q:Pr}{es:E}{x:Expr}{xs:ZC}(hv:view sc q x=some xs)(hs:Hs X w true es xs)(h3:quiet q es=true):PE X x (LE X.K X.mg w (.pr q es)):=by
 intro XB s Z H Q I h;obtain⟨F,G,p,r,p',rel,e,kq⟩:=h;obtain⟨as,ts,e1,e2,e3⟩:=Iv e;have un:=c.un;have kf:∀{F2 H2:Hp},Le F F2->Up X.K H H2->Fin X F2 G p' Z H2 r Q:=fun l u F3 H3 v l3 u3=>kq F3 H3 v (l.trans l3) (u.trans u3);unfold view at hv
 split at hv
 .replace hv:=vOp_ex hv
  obtain⟨a,op,b,pp,rfl,hv⟩:=hv
  split at hv
  .rename_i ho
   cases hv;subst ho;cases hs with | cons ha _ t=>cases t with | cons hb _ t=>cases t with | nil =>
   refine pe_op opr ha hb XB s Z H Q I (R4 e1 e2 rel fun F2 H2 x y t1 t2 et l u Zh s1 s2=>?_);subst et;exact fun XB s σ' v u' I rx ry=>op_run _ I Zh rx ry s1 s2 e3 (kf l u)
  .cases hv
 .replace hv:=wk hv
  obtain⟨a,op,b,pp,rfl,hv⟩:=hv
  split at hv
  .rename_i ho
   cases hv;obtain⟨ho,hm⟩:=ho;subst ho;cases hs with | cons ha _ t=>cases t with | cons hb _ t=>cases t with | nil =>
   refine aa opr ha hb hm XB s Z H Q I (R4 e1 e2 rel fun F2 H2 x y t1 t2 et l u Zh s1 s2=>?_);subst et;obtain⟨b,e4,rfl⟩:=Z8.mp e3;exact fun XB s σ' v u' I rx ry=>Nh _ I Zh.b.f un rx ry s1 s2 e4 ((kf l u).h Zh rfl)
  .cases hv
 .replace hv:=wg hv
  obtain⟨a,op,Sx,b,e0,pp,rfl,hv⟩:=hv
  split at hv
  .rename_i ho
   cases hv;obtain⟨ho,Rv,hm⟩:=ho;subst ho Rv;cases hs with | cons ha _ t=>cases t with | cons hb _ t=>cases t with | cons hc _ t=>cases t with | nil =>
   obtain⟨a',p1,as1,q1,q2,rfl⟩:=Zu e1;obtain⟨b',p2,as2,q3,q4,rfl⟩:=Zu q2;obtain⟨c',p3,as3,q5,q6,rfl⟩:=Zu q4;obtain⟨rfl,rfl⟩:=Vj q6;obtain⟨t1,r1,l1,l2,rfl⟩:=Zt e2;obtain⟨t2,r2,l3,l4,rfl⟩:=Zt l2;obtain⟨t3,r3,l5,l6,rfl⟩:=Zt l4;cases l6;have ep:=Nu _ h3 q4;subst ep;obtain⟨b1,c1,e3⟩:=ZO.mp e3;refine gm opr opr ha hb hc hm XB s Z H Q I ⟨F,G,p,a',p1,rel,q1,fun F1 H1 x zp u1 um Je=>⟨F1,G,p1,b',_,um,q3,fun F2 H2 y Sw u2 Qp C1=>?_⟩⟩;have s1:=Qp.look l1 (Ar.up u2 Sw Je);have s2:=Qp.look l3 C1;refine fun XB s σ' v u' I rx ry=>Nh _ I Qp.b.f un rx ry s1 s2 c1 ⟨b1,rfl, ?_⟩;cases b1 with
   | false=>cases e3;exact(kf (zp.trans Sw) (u1.trans u2)).h Qp rfl
   | true =>
    obtain⟨b2,c2,rfl⟩:=Z8.mp e3;refine⟨F2,G,_,c',_,Qp,q5,fun F3 H3 z ir u3 Hl ar3=>?_⟩;exact fun XB s σ' v u' I rx ry=>Nh _ I Hl.b.f un rx ry (Hl.look l3 (Ar.up u3 ir C1)) (Hl.look l5 ar3) c2 ((kf ((zp.trans Sw).trans ir) ((u1.trans u2).trans u3)).h Hl rfl)
  .cases hv
 .replace hv:=rq hv
  obtain⟨a,pp,rfl,hv⟩:=hv;cases hv;cases hs with | cons ha _ t=>cases t with | nil =>
  refine pe_un un_neg ha XB s Z H Q I (Qi e1 e2 rel fun F2 H2 x t1 et l u Zh s1=>?_);subst et;cases t1<;>cases e3
  cases(show x=_ from s1);exact⟨_,rfl,(kf l u).h Zh rfl⟩
 .replace hv:=vIx_ex hv
  obtain⟨a,b,pp,rfl,hv⟩:=hv
  split at hv
  .rename_i hn
   cases hv;cases hs with | cons ha _ t=>cases t with | cons hb _ t=>cases t with | nil =>
   refine pe_ix ixr ha hb (k6 hn) XB s Z H Q I (R4 e1 e2 rel fun F2 H2 x y t1 t2 et l u Zh s1 s2=>?_);subst et;obtain⟨z,e4,rfl⟩:=Z8.mp e3;exact fun value slice XB s σ' v u' I rx ry hs=>ix_run I un rx ry s1 s2 e4 (fun v h=>(kf l u).h Zh h) hs
  .cases hv
 .replace hv:=ja hv
  obtain⟨a,l,qq,pp,rfl,hv⟩:=hv;cases hv;cases hs with | cons ha _ t=>cases t with | cons hb _ t=>cases t with | nil =>
  refine Q1 slr ha (Av hb) Ay XB s Z H Q I (R4 e1 e2 rel fun F2 H2 x y t1 t2 et l u Zh s1 s2=>?_);subst et;obtain⟨i,e4,e5⟩:=ZO.mp e3;cases t2<;>cases e4
  cases(show y=_ from s2);exact⟨_,rfl,fun XB s σ' v vl vu sl I rx hs pl pu=>vo I Zh rx s1 hs pl pu e5 (kf l u)⟩
 .replace hv:=ji hv
  obtain⟨a,l,qq,pp,rfl,hv⟩:=hv;cases hv;cases hs with | cons ha _ t=>cases t with | cons hb _ t=>cases t with | nil =>
  refine Q1 slr ha Ay (Av hb) XB s Z H Q I (R4 e1 e2 rel fun F2 H2 x y t1 t2 et l u Zh s1 s2=>?_);subst et;obtain⟨i,e4,e5⟩:=ZO.mp e3;cases t2<;>cases e4
  cases(show y=_ from s2);exact⟨_,rfl,fun XB s σ' v vl vu sl I rx hs pl pu=>vo I Zh rx s1 hs pl pu e5 (kf l u)⟩
 .replace hv:=wj hv
  obtain⟨pp,rfl,hv⟩:=hv;cases hv;cases hs;obtain⟨rfl,rfl⟩:=Vj e1;cases e2;cases e3;exact gk XB s Z H Q I fun l hl=>let ⟨r1,r2⟩:=rel.newD (ts:=[]) (vs:=[]) hl (Ju _) rfl;kq F _ _ (Le.refl _) (Zc.lay hl).up r1 r2
 .rename_i n
  replace hv:=rj hv
  obtain⟨f,qq,a,k',q1,pp,rfl,hv⟩:=hv
  split at hv
  .rename_i ho
   cases hv;obtain⟨hf,g1,hk,g2⟩:=ho;subst hf hk;cases hs with | cons ha sa t=>cases t with | nil =>
   obtain⟨gg1,gd1⟩:=c.gl' g1;obtain⟨gg2,gd2⟩:=c.gl' g2;refine Q3 cz gg1 (c.bn _ (by decide +kernel)) (show bootBuiltins "isinstance" = some (.builtin "isinstance") by decide +kernel) (Mq ha (Mq (gr gg2 (c.bn _ (by cases n<;>decide +kernel)) (Zz5 n) (ie n) gd2) Lw rfl) (Z4 sa)) (by decide +kernel) gd1 (Z4 sa) rfl XB s Z H Q I (Qi e1 e2 rel fun F2 H2 x t1 et l u Zh s1=>?_);subst et;obtain⟨b,e4,rfl⟩:=Z8.mp e3;intro XB s σ' us I rs;obtain⟨v1,v2,rfl,r1,r2⟩:=vals2 rs;cases r2;exact i7 I r1 s1 e4 ((kf l u).h Zh rfl)
  .cases hv
 .replace hv:=wx hv
  obtain⟨o,m,ap,a,cp,rfl,hv⟩:=hv
  split at hv
  .rename_i ho
   cases hv;obtain⟨hm,hn,hl⟩:=ho;subst hm;cases hs with | cons ha sa t=>cases t with | cons hb sb t=>cases t with | nil =>
   obtain⟨a',p1,as1,q1,q2,rfl⟩:=Zu e1;have ep:=Nu _ h3 q2;subst ep;obtain⟨b',p2,as2,q3,q4,rfl⟩:=Zu q2;obtain⟨rfl,rfl⟩:=Vj q4;obtain⟨t1,r1,l1,l2,rfl⟩:=Zt e2;obtain⟨t2,r2,l3,l4,rfl⟩:=Zt l2;cases l4;cases t1<;>first | cases e3 | skip
   obtain⟨kk,e4,rfl⟩:=Z8.mp e3;refine gb (by omega) ha hb ⟨Mo hn _ _ _,L1 (fun e m=>by cases M4.mp m;exact sb) (Wp (Nat.lt_succ_self 1) (by decide)),hl,by rw[Z4 sb];rfl⟩ XB s Z H Q I ⟨F,G,p,a',_,rel,q1,fun F1 H1 x zp u1 um Je=>?_⟩;obtain⟨a,ks,rfl,h1,z1,ar⟩:=um.look l1 Je;refine⟨a,rfl,.inl ⟨ks,h1⟩,F1,G,_,b',_,um,q3,fun F2 H2 y Sw u2 Qp C1=>?_⟩;obtain⟨a2,ks2,ea,h2,z2,Jp⟩:=Qp.look l1 (Ar.up u2 Sw Je);cases ea;cases Mg e4 (Qp.look l3 C1);obtain⟨i1,i2⟩:=Zd.val kk Jp;refine⟨_,.inl ⟨ks2,kk,h2,rfl,rfl⟩, ?_⟩;refine(kf (zp.trans Sw) (u1.trans u2)).h Qp ?_;cases e5:Zr _ kk with
   | none=>rw[i2 e5];rfl
   | some t=>obtain⟨v,h3,h4⟩:=i1 t e5;rw[h3];exact h4
  .cases hv
 .replace hv:=j9 hv
  obtain⟨o,m,ap,a,b,cp,rfl,hv⟩:=hv
  split at hv
  .rename_i ho
   cases hv;obtain⟨hm,hn,hl⟩:=ho;subst hm;cases hs with | cons ha sa t=>cases t with | cons hb sb t=>cases t with | cons hc sc' t=>cases t with | nil =>
   obtain⟨a',p1,as1,q1,q2,rfl⟩:=Zu e1;have ep:=Nu _ h3 q2;subst ep;obtain⟨b',p2,as2,q3,q4,rfl⟩:=Zu q2;obtain⟨c',p3,as3,q5,q6,rfl⟩:=Zu q4;obtain⟨rfl,ep⟩:=Vj q6;subst ep;obtain⟨t1,r1,l1,l2,rfl⟩:=Zt e2;obtain⟨t2,r2,l3,l4,rfl⟩:=Zt l2;obtain⟨t3,r3,l5,l6,rfl⟩:=Zt l4;cases l6;cases t1<;>first | cases e3 | skip
   rename_i XM
   have e3:(if ctn t3=true then none else (keyT t2).map fun k=>Sl.f ((Zr XM k).getD t3))=some r:=e3
   split at e3
   .cases e3
   rename_i hct
   obtain⟨kk,e4,rfl⟩:=Z8.mp e3;refine gf (by omega) ha hb hc ⟨Mo hn _ _ _,L1 (fun e m=>by rcases Yw.mp m with rfl | m;exact sb;cases M4.mp m;exact sc') (Wp (Nat.lt_succ_self 2) (by decide)),hl,by rw[Z4 sb,Z4 sc'];rfl⟩ XB s Z H Q I ⟨F,G,p,a',_,rel,q1,fun F1 H1 x zp u1 um Je=>?_⟩;obtain⟨a,ks,rfl,h1,z1,ar⟩:=um.look l1 Je;refine⟨a,rfl,.inl ⟨ks,h1⟩,F1,G,_,b',_,um,q3,fun F2 H2 y Sw u2 Qp C1=>⟨F2,G,_,c',_,Qp,q5,fun F3 H3 z ir u3 Hl ar3=>?_⟩⟩;obtain⟨a2,ks2,ea,h2,z2,Jp⟩:=Hl.look l1 (Ar.up (u2.trans u3) (Sw.trans ir) Je);cases ea;cases Mg e4 (Hl.look l3 (Ar.up u3 ir C1));obtain⟨i1,i2⟩:=Zd.val kk Jp;refine⟨_,.inl ⟨ks2,kk,h2,rfl,rfl⟩, ?_⟩;refine(kf (zp.trans (Sw.trans ir)) (u1.trans (u2.trans u3))).h Hl ?_;cases e5:Zr _ kk with
   | none =>
    rw[i2 e5];have s3:=Hl.look l5 ar3;cases t3 with
    | lst _=>exact absurd rfl hct
    | dct _=>exact absurd rfl hct
    | _=>exact s3
   | some t=>obtain⟨v,h3,h4⟩:=i1 t e5;rw[h3];exact h4
  .cases hv
 .replace hv:=j6 hv
  obtain⟨y,k1,k2,m,ap,a,cp,rfl,hv⟩:=hv
  split at hv
  .rename_i ho
   cases hv;obtain⟨hm,hy,hl⟩:=ho;subst hm hy;cases hs with | cons ha sa t=>cases t with | nil =>
   refine Q4 PySem.F.plainAttrs_str PySem.F.slot_str_join PySem.F.type_str_join (fun XB s Z H x xs v us Q I rx rs h=>iz XB s Z H x xs v us Q I rx rs h) gw (Mq ha Lw (Z4 sa)) rfl (L1 (fun e m=>by cases M4.mp m;exact sa) (Wp (Nat.lt_succ_self 1) (by decide))) hl (Z4 sa) rfl XB s Z H Q I ⟨?_,Qi e1 e2 rel fun F2 H2 x t1 et l u Zh s1=>?_⟩
   .rfl
   subst et;cases t1<;>first | cases e3 | skip
   obtain⟨ss,e4,e5⟩:=ZO.mp e3
   split at e5
   .rename_i hz
    cases e5;obtain⟨a,vs,rfl,h1,z1,ar⟩:=s1;exact⟨_,a,ss,rfl,rfl,.inl (by rw[<-ar.strs e4];exact h1),hz,(kf l u).h Zh rfl⟩
   .cases e5
  .cases hv
 .replace hv:=Xq hv
  obtain⟨f,qq,o,m,ap,cp,pp,rfl,hv⟩:=hv
  split at hv
  .rename_i ho
   cases hv;obtain⟨hf,g1,hm,hn,hl⟩:=ho;subst hf hm;cases hs with | cons ha sa t=>cases t with | nil =>
   obtain⟨gg1,gd1⟩:=c.gl' g1;refine Q2 c.calm gg1 (c.bn _ (by decide +kernel)) ha (sup_of hn _ _ _) hl rfl XB s Z H Q I (Qi e1 e2 rel fun F2 H2 x t1 et l u Zh s1=>?_);subst et;cases t1<;>first | cases e3 | skip
   obtain⟨a,ks,rfl,h1,z1,ar⟩:=s1;exact⟨a,ks,rfl,h1,fun l' hl'=>(kf l u).l Zh hl' (by rw[Yn];exact z1) ar.valT⟩
  .cases hv
 .replace hv:=jh hv
  obtain⟨a,jj,pp,rfl,hv⟩:=hv;cases hv;cases hs with | cons ha sa t=>cases t with | nil =>
  refine gj (Mq ha Lw (Z4 sa)) XB s Z H Q I (Qi e1 e2 rel fun F2 H2 x t1 et l u Zh s1=>?_);subst et;have e3:(if scal t1=true then some (Sl.f (.tup [t1])) else none)=some r:=e3
  split at e3
  .rename_i hz
   cases e3;have it:IsT X.K X.mg H2 F2 t1 x:=by cases t1<;>first | exact s1 | cases hz
   have one:(1:Nat)<=sizeLine:=by have:=sizeLine_eq;omega
   exact⟨one,fun q hq=>(kf l u).f Zh (Zc.lay hq) ⟨q,[x],rfl,Yu.of Zq,one,Zx.up (Zc.lay hq).up (Le.refl _) _ _ (Zx.one it)⟩⟩
  .cases e3
 .replace hv:=vBt_ex hv
  obtain⟨f,p0,a,r',pp,rfl,hv⟩:=hv
  split at hv
  .rename_i n fv hb
   split at hv
   .rename_i ho
    cases hv;obtain⟨hf,g1⟩:=ho;subst hf;obtain⟨b1,b2,b3,b4⟩:=Zz4 hb;obtain⟨gg,gd⟩:=c.gl' g1;have C5:=hs.star;have fin:LA X.K X.mg w true es Z H fun vs H1=>rC X fv vs H1 Q:=readN e1 e2 rel fun F2 H2 vs l u Zh se=>fun XB s σ' us I rs=>bt_run hb c.calm un c.room.gd I Zh rs se e3 (kf l u);rcases b4 with ⟨i,rfl⟩ | ⟨i,rfl⟩
    .exact Q3 cz gg (c.bn _ b3) b1 hs.pa b2 gd (Z4 (C5 _ Y5)) (Y1 _ _ _ fun e m=>C5 e (Y7 _ m)) XB s Z H Q I fin
    .exact X8 cz gg (c.bn _ b3) b1 hs.pa b2 gd (Z4 (C5 _ Y5)) (Y1 _ _ _ fun e m=>C5 e (Y7 _ m)) XB s Z H Q I fin
   .cases hv
  .cases hv
end
noncomputable def conK(t:T)(c:PySem.Const):Bool:=match t with
 | .int i=>(match c with
  | .int j=>i == j
  | _=>false)
 | .str a=>(match c with
  | .str b=>a == b
  | _=>false)
 | .bl a=>(match c with
  | .bool b=>a == b
  | _=>false)
 | .non=>(match c with
  | .none=>true
  | _=>false)
 | _=>false
def repK(t:T)(x:Expr):Bool:=match x with
 | .Constant c _ _=>conK t c
 | _=>false
def isIo:E->Bool
 | .io _=>true
 | _=>false
def Ua:E->Bool
 | .cons a r=>!isIo a && Ua r
 | _=>true
section
variable{X:Cx}{w:W}{k:Nat}{N:ZD}{sc:ZK}
theorem snd_k{t:T}{x:Expr}(h:repK t x=true):PE X x (LE X.K X.mg w (.k t)):=by
 have fin:∀{v:V},(∀H F,IsT X.K X.mg H F t v)->∀Z H Q,LE X.K X.mg w (.k t) Z H Q->tC v Z H Q:=fun hv Z H Q ⟨F,G,p,r,p',rel,e,kq⟩=>by
  cases e;exact kq F H _ (Le.refl F) (Up.refl H) rel (hv H F)
 cases x with
 | Constant c q pos =>
  replace h:conK t c=true:=h
  cases t with
  | int i=>cases c with
   | int j=>cases eq_of_beq (show (i == j)=true from h);exact PE.imp pe_int (fin fun _ _=>rfl)
   | _=>cases(show false=true from h)
  | str i=>cases c with
   | str j=>cases eq_of_beq (show (i == j)=true from h);exact PE.imp gw (fin fun _ _=>rfl)
   | _=>cases(show false=true from h)
  | bl i=>cases c with
   | bool j=>cases eq_of_beq (show (i == j)=true from h);exact PE.imp pe_bl (fin fun _ _=>rfl)
   | _=>cases(show false=true from h)
  | non=>cases c with
   | none=>exact PE.imp pe_non (fin fun _ _=>rfl)
   | _=>cases(show false=true from h)
  | _=>cases(show false=true from h)
 | _=>cases(show false=true from h)
theorem snd_g(c:Ctx X w k N sc){x y:Str}{pos:Pos}(h:(x == y && Wb sc y)=true):PE X (.Name y pos) (LE X.K X.mg w (.g x)):=by
 rw[Y6,beq_iff_eq]at h;obtain⟨rfl,h⟩:=h;obtain⟨g1,g2⟩:=c.gl' h;intro XB s Z H Q I ⟨F,G,p,r,p',rel,e,kq⟩
 replace e:=(ev_gQ _).symm.trans e
 obtain⟨t,e1,e2⟩:=Z8.mp e;cases e2;obtain⟨v,u,h1,h2,h3⟩:=c.gl x t e1;exact ah g1 h1 h2 g2 XB s Z H Q I (kq F H v (Le.refl F) (Up.refl H) rel (h3 H F))
theorem Ha{F G H:Hp}{p p':P}{Z:L2.St}{i:Nat}{t:T}(rel:Rel X.K X.mg F G p Z H)(e:read p i=some (t,p')):∃F' v,Le F F'/\Rel X.K X.mg F' G p' Z H/\Z[i]?=some (some v)/\IsT X.K X.mg H F' t v:=by
 unfold read at e
 split at e
 .rename_i u q
  cases e;obtain⟨v,h1,h2⟩:=rel.fz i _ q;exact⟨F,v,Le.refl F,rel,h1,h2⟩
 .rename_i u q
  cases e;exact rel.freezeAt q
 .cases e
theorem snd_v(c:Ctx X w k N sc){i:Nat}{y:Str}{pos:Pos}(h:U2 N sc i y=true):PE X (.Name y pos) (LE X.K X.mg w (.v i)):=by
 intro XB s Z H Q I ⟨F,G,p,r,p',rel,e,kq⟩
 replace e:=(ev_vQ _).symm.trans e
 obtain⟨q,e1,e2⟩:=Z8.mp e;cases e2;obtain⟨F',v,l,Z7,hv,ht⟩:=Ha rel e1;exact c.var h XB s Z H Q I ⟨v,hv,kq F' H v l (Up.refl H) Z7 ht⟩
theorem snd_mv(c:Ctx X w k N sc){i:Nat}{y:Str}{pos:Pos}(h:U2 N sc i y=true):PE X (.Name y pos) (LE X.K X.mg w (.mv i)):=by
 intro XB s Z H Q I ⟨F,G,p,r,p',rel,e,kq⟩
 replace e:=(ev_mvQ _).symm.trans e
 split at e
 .rename_i t q
  cases e;obtain⟨a,h1,h2,h3,h4⟩:=rel.ow i t q;refine c.var h XB s Z H Q I ⟨.ref a,h1,kq F H _ (Le.refl F) (Up.refl H) (rel.drop i) ⟨a,rfl,h2,h3,h4,fun j u e z=>?_⟩⟩;rcases Zo e with ⟨_,y⟩ | ⟨n,e⟩
  .cases y
  .exact n (rel.ap j i u t a e q z h1)
 .rename_i t q
  cases e;obtain⟨v,h1,h2⟩:=rel.fz i t q;exact c.var h XB s Z H Q I ⟨v,h1,kq F H _ (Le.refl F) (Up.refl H) rel h2⟩
 .cases e
theorem snd_hd{m:Bool}{a:E}{x:Expr}(hio:∀i,a≠.io i)(hv:∀i,a≠.v i)(h:PE X x (LE X.K X.mg w a)):PE X x (LH X.K X.mg w m a):=by
 intro XB s Z H Q I ⟨F,G,p,a',p',rel,e,kq⟩
 have e:(toT (ev w a p)).map (fun q=>(A.t q.1,q.2))=some (a',p'):=by
  unfold Pn at e
  split at e
  .exact absurd rfl (hio _)
  .exact absurd rfl (hv _)
  .exact e
 obtain⟨z,e1,e2⟩:=Z8.mp e;cases e2;unfold toT at e1;obtain⟨y,e3,e4⟩:=ZO.mp e1;obtain⟨t,e5,e6⟩:=Z8.mp e4;cases e6;refine h XB s Z H Q I ⟨F,G,p,y.1,y.2,rel,e3,fun F1 H1 v l1 u1 Zl rs=>?_⟩;obtain⟨F2,l2,Zh,ht⟩:=Zl.thaw e5 rs;exact kq F2 H1 v (l1.trans l2) u1 Zh ht
theorem snd_hv(c:Ctx X w k N sc){m:Bool}{i:Nat}{y:Str}{pos:Pos}(h:U2 N sc i y=true):PE X (.Name y pos) (LH X.K X.mg w m (.v i)):=by
 intro XB s Z H Q I ⟨F,G,p,a',p',rel,e,kq⟩;unfold Pn at e;dsimp only at e
 split at e
 .split at e
  .rename_i hd
   cases e;unfold done at hd
   split at hd
   .rename_i t q
    obtain⟨v,h1,h2⟩:=rel.fz i t q;exact c.var h XB s Z H Q I ⟨v,h1,kq F H v (Le.refl F) (Up.refl H) rel h1⟩
   .rename_i t q
    obtain⟨a,h1,_⟩:=rel.ow i t q;exact c.var h XB s Z H Q I ⟨_,h1,kq F H _ (Le.refl F) (Up.refl H) rel h1⟩
   .cases hd
  .cases e
 .obtain⟨q,e1,e2⟩:=Z8.mp e;cases e2;obtain⟨F',v,l,Z7,hv,ht⟩:=Ha rel e1;exact c.var h XB s Z H Q I ⟨v,hv,kq F' H v l (Up.refl H) Z7 ht⟩
theorem T4:∀(es:E) {xs:ZC},Hs X w false es xs->∀{p p':P} {as:List A},Jd w false es p=some (as,p')->Ua es=true->∀a∈as,∃t,a=A.t t
 | _,_,.nil,p,p',as,e,_,a,m=>by rw[(Vj e).1]at m;exact absurd m Vk
 | .cons b r,_,.cons _ _ t,p,p',as,e,h,a,m=>by
  obtain⟨a',p1,as',e1,e2,rfl⟩:=Zu e;have h:(!isIo b && Ua r)=true:=h;rw[Y6]at h;rcases Yw.mp m with rfl | m
  .have key:∀x,Pn false b p x=some (a,p1)->isIo b=false->∃t,a=A.t t:=fun x e h=>by
    unfold Pn at e
    split at e
    .cases h
    .obtain⟨q,_,e3⟩:=Z8.mp (show (read p _).map _=_ from e);cases e3;exact⟨_,rfl⟩
    .obtain⟨q,_,e3⟩:=Z8.mp e;cases e3;exact⟨_,rfl⟩
   exact key _ e1 (by simpa using h.1)
  .exact T4 r t e2 h.2 a m
theorem pz{es:E}{xs:ZC}{j:Nat}{pos:Pos}(hs:Hs X w false es xs)(hn:Ua es=true):PE X (.Tuple xs j pos) (LE X.K X.mg w (.tup es)):=by
 intro XB s Z H Q I ⟨F,G,p,r,p',rel,e,kq⟩
 replace e:=(Zzd _).symm.trans e
 obtain⟨a,e1,e⟩:=ZO.mp e;obtain⟨ts,e2,e⟩:=ZO.mp e
 split at e
 .rename_i hz
  cases e;have nt:=T4 es hs e1 hn;refine gj hs.pa XB s Z H Q I ⟨F,G,p,a.1,a.2,rel,e1,fun F1 H1 vs l1 u1 Zl ar=>?_⟩;have at':=Me nt e2 ar;refine⟨by rw[<-at'.length];exact hz,fun q hq=>kq F1 _ _ l1 (u1.trans (Zc.lay hq).up) (Zl.same (Zc.lay hq)) ⟨q,vs,rfl,Yu.of Zq,by rw[<-at'.length];exact hz,Zx.up (Zc.lay hq).up (Le.refl _) _ _ at'⟩⟩
 .cases e
theorem pf{es:E}{xs:ZC}{pos:Pos}(hs:Hs X w false es xs)(hn:Ua es=true):PE X (.List xs pos) (LE X.K X.mg w (.lst es)):=by
 intro XB s Z H Q I ⟨F,G,p,r,p',rel,e,kq⟩
 replace e:=(Zzc _).symm.trans e
 obtain⟨a,e1,e⟩:=ZO.mp e;obtain⟨ts,e2,e⟩:=ZO.mp e
 split at e
 .rename_i hz
  cases e;have nt:=T4 es hs e1 hn;refine pe_lst hs.pa XB s Z H Q I ⟨F,G,p,a.1,a.2,rel,e1,fun F1 H1 vs l1 u1 Zl ar=>?_⟩;have at':=Me nt e2 ar;have z:vs.length<=sizeLine:=by rw[<-at'.length];exact hz
  exact⟨z,fun q hq=>let ⟨r1,r2⟩:=Zl.newL hq z at';kq F1 _ _ l1 (u1.trans (Zc.lay hq).up) r1 r2⟩
 .cases e
theorem Zxp{e:E}{Z:L2.St}{H:Hp}{R:Bool->Hp->Prop}(h:LB X.K X.mg w e Z H R):LE X.K X.mg w e Z H fun v H'=>∃b,v=.bl b/\R b H':=by
 obtain⟨F,G,p,b,p',rel,e,kq⟩:=h;unfold J3 at e;obtain⟨y,e1,e2⟩:=ZO.mp e
 split at e2
 .rename_i b' q
  cases e2;refine⟨F,G,p,y.1,y.2,rel,e1,fun F' H' v l u Z7 rs=>?_⟩;rw[q]at rs;exact⟨_,rs,kq F' H' l u Z7⟩
 .cases e2
theorem Zxk{e:E}{x:Expr}(h:PE X x (LE X.K X.mg w e))(he:∀whole,isTrue x X.env whole=(do let v <-whole;standAt x.pos;holding [v] (truthy v))):PT X x (LB X.K X.mg w e):=fun XB s Z H R I q=>by
 refine pt_val h he XB s Z H R I ?_;obtain⟨F,G,p,r,p',rel,e,kq⟩:=Zxp q;exact⟨F,G,p,r,p',rel,e,fun F' H' v l u Z7 rs=>let ⟨b,e1,h1⟩:=kq F' H' v l u Z7 rs;⟨b,e1,h1⟩⟩
theorem Nz{o:Option (Sl×P)}{b:Bool}{p:P}(h:J3 o=some (b,p)):o=some (.f (.bl b),p):=by
 unfold J3 at h;obtain⟨y,e1,e2⟩:=ZO.mp h
 split at e2
 .rename_i b' q
  cases e2;rw[e1, <-q]
 .cases e2
theorem snd_and{a b:E}{x y:Expr}{r:ZC}{pos:Pos}(ha:PE X x (LE X.K X.mg w a))(hb:PE X (.BoolOp .And (y::r) pos) (LE X.K X.mg w b)):PE X (.BoolOp .And (x::y::r) pos) (LE X.K X.mg w (.and a b)):=by
 intro XB s Z H Q I ⟨F,G,p,r',p',rel,e,kq⟩
 replace e:=(Ig _ _).symm.trans e
 obtain⟨q,e1,e2⟩:=ZO.mp e;refine pe_and ha hb XB s Z H Q I ⟨F,G,p,_,_,rel,Nz e1,fun F' H' v l u Z7 rs=>⟨q.1,rs, ?_⟩⟩
 split
 .rename_i hq
  rw[if_pos hq]at e2;exact⟨F',G,q.2,r',p',Z7,e2,fun F2 H2 v l2 u2=>kq F2 H2 v (l.trans l2) (u.trans u2)⟩
 .rename_i hq
  rw[if_neg hq]at e2;cases e2;exact kq F' H' _ l u Z7 rfl
theorem snd_or{a b:E}{x y:Expr}{r:ZC}{pos:Pos}(ha:PE X x (LE X.K X.mg w a))(hb:PE X (.BoolOp .Or (y::r) pos) (LE X.K X.mg w b)):PE X (.BoolOp .Or (x::y::r) pos) (LE X.K X.mg w (.or a b)):=by
 intro XB s Z H Q I ⟨F,G,p,r',p',rel,e,kq⟩
 replace e:=(dn _ _).symm.trans e
 obtain⟨q,e1,e2⟩:=ZO.mp e;refine pe_or ha hb XB s Z H Q I ⟨F,G,p,_,_,rel,Nz e1,fun F' H' v l u Z7 rs=>⟨q.1,rs, ?_⟩⟩
 split
 .rename_i hq
  rw[if_pos hq]at e2;cases e2;exact kq F' H' _ l u Z7 rfl
 .rename_i hq
  rw[if_neg hq]at e2;exact⟨F',G,q.2,r',p',Z7,e2,fun F2 H2 v l2 u2=>kq F2 H2 v (l.trans l2) (u.trans u2)⟩
theorem pk{a:E}{x:Expr}{pos:Pos}(ha:PE X x (LE X.K X.mg w a)):PE X (.UnaryOp .Not x pos) (LE X.K X.mg w (.not a)):=by
 intro XB s Z H Q I ⟨F,G,p,r',p',rel,e,kq⟩
 replace e:=(Iy _).symm.trans e
 obtain⟨q,e1,e2⟩:=Z8.mp e;cases e2;exact pe_not ha XB s Z H Q I ⟨F,G,p,_,_,rel,Nz e1,fun F' H' v l u Z7 rs=>⟨q.1,rs,kq F' H' _ l u Z7 rfl⟩⟩
theorem ph{a b c:E}{x y z:Expr}{pos:Pos}(hc:PT X z (LB X.K X.mg w c))(ha:PE X x (LE X.K X.mg w a))(hb:PE X y (LE X.K X.mg w b)):PE X (.IfExp z x y pos) (LE X.K X.mg w (.ite c a b)):=by
 intro XB s Z H Q I ⟨F,G,p,r',p',rel,e,kq⟩
 replace e:=(Zzl _ _ _).symm.trans e
 obtain⟨q,e1,e2⟩:=ZO.mp e;refine gy hc ha hb XB s Z H Q I ⟨F,G,p,q.1,q.2,rel,e1,fun F' H' l u Z7=>?_⟩;show if q.1=true then LE X.K X.mg w a Z H' Q else LE X.K X.mg w b Z H' Q
 split
 .rename_i hq
  rw[if_pos hq]at e2;exact⟨F',G,q.2,r',p',Z7,e2,fun F2 H2 v l2 u2=>kq F2 H2 v (l.trans l2) (u.trans u2)⟩
 .rename_i hq
  rw[if_neg hq]at e2;exact⟨F',G,q.2,r',p',Z7,e2,fun F2 H2 v l2 u2=>kq F2 H2 v (l.trans l2) (u.trans u2)⟩
theorem sg{a b:E}{x y:Expr}{r:ZC}{pos:Pos}(ha:PT X x (LB X.K X.mg w a))(hb:PW X (.BoolOp .And (y::r) pos) (LB X.K X.mg w b)):PW X (.BoolOp .And (x::y::r) pos) (LB X.K X.mg w (.and a b)):=by
 intro wh XB s Z H Q I ⟨F,G,p,c,p',rel,e,kq⟩;have e:=Nz e
 replace e:=(Ig _ _).symm.trans e
 obtain⟨q,e1,e2⟩:=ZO.mp e;refine pw_and ha hb wh XB s Z H Q I ⟨F,G,p,q.1,q.2,rel,e1,fun F' H' l u Z7=>?_⟩;show if q.1=true then LB X.K X.mg w b Z H' Q else Q false H'
 split
 .rename_i hq
  rw[if_pos hq]at e2;exact⟨F',G,q.2,c,p',Z7,by unfold J3;rw[e2];rfl,fun F2 H2 l2 u2=>kq F2 H2 (l.trans l2) (u.trans u2)⟩
 .rename_i hq
  rw[if_neg hq]at e2;cases e2;exact kq F' H' l u Z7
theorem snt_or{a b:E}{x y:Expr}{r:ZC}{pos:Pos}(ha:PT X x (LB X.K X.mg w a))(hb:PW X (.BoolOp .Or (y::r) pos) (LB X.K X.mg w b)):PW X (.BoolOp .Or (x::y::r) pos) (LB X.K X.mg w (.or a b)):=by
 intro wh XB s Z H Q I ⟨F,G,p,c,p',rel,e,kq⟩;have e:=Nz e
 replace e:=(dn _ _).symm.trans e
 obtain⟨q,e1,e2⟩:=ZO.mp e;refine pw_or ha hb wh XB s Z H Q I ⟨F,G,p,q.1,q.2,rel,e1,fun F' H' l u Z7=>?_⟩;show if q.1=true then Q true H' else LB X.K X.mg w b Z H' Q
 split
 .rename_i hq
  rw[if_pos hq]at e2;cases e2;exact kq F' H' l u Z7
 .rename_i hq
  rw[if_neg hq]at e2;exact⟨F',G,q.2,c,p',Z7,by unfold J3;rw[e2];rfl,fun F2 H2 l2 u2=>kq F2 H2 (l.trans l2) (u.trans u2)⟩
theorem sk{a:E}{x:Expr}{pos:Pos}(ha:PT X x (LB X.K X.mg w a)):PT X (.UnaryOp .Not x pos) (LB X.K X.mg w (.not a)):=by
 intro XB s Z H Q I ⟨F,G,p,c,p',rel,e,kq⟩;have e:=Nz e
 replace e:=(Iy _).symm.trans e
 obtain⟨q,e1,e2⟩:=Z8.mp e;cases e2;exact pt_not ha XB s Z H Q I ⟨F,G,p,q.1,q.2,rel,e1,fun F' H' l u Z7=>kq F' H' l u Z7⟩
open Classical in
theorem Rel.freezeAll{K:PySem.W.Frag}{mg:ZV}{F G H:Hp}{p:P}{Z:L2.St}(r:Rel K mg F G p Z H):∃F',Le F F'/\Rel K mg F' G (frz p) Z H/\∀(i:Nat) (t:T) (a:Addr),p[i]?=some (Sl.o t)->Z[i]?=some (some (V.ref a))->F' a=H a:=by
 let F':Hp:=fun a=>if ∃(i:Nat) (t:T),p[i]?=some (Sl.o t)/\Z[i]?=some (some (V.ref a)) then H a else F a
 have fI:∀{a:Addr} {i:Nat} {t:T},p[i]?=some (Sl.o t)->Z[i]?=some (some (V.ref a))->F' a=H a:=fun {a i t} h1 h2=>if_pos ⟨i,t,h1,h2⟩;have fO:∀{a:Addr},(¬ ∃(i:Nat) (t:T),p[i]?=some (Sl.o t)/\Z[i]?=some (some (V.ref a)))->F' a=F a:=fun {a} h=>if_neg h
 have l:Le F F':=fun a o e=>by
  refine(fO fun⟨i,t,h1,h2⟩=>?_).trans e;obtain⟨b,h3,h4,_⟩:=r.ow i t h1;rw[h2]at h3;cases h3;rw[e]at h4;cases h4
 refine⟨F',l,⟨⟨fun a o e=>?_,r.b.g,fun a e=>?_⟩,fun i t e=>?_,fun i t e=>?_,fun i j t u a e=>?_,by unfold frz;rw[Yn];exact r.ln⟩,fun i t a h1 h2=>fI h1 h2⟩
 .by_cases h:∃(i:Nat) (t:T),p[i]?=some (Sl.o t)/\Z[i]?=some (some (V.ref a))
  .obtain⟨i,t,h1,h2⟩:=h;rw[fI h1 h2]at e;exact e
  .rw[fO h]at e;exact r.b.f a o e
 .by_cases h:∃(i:Nat) (t:T),p[i]?=some (Sl.o t)/\Z[i]?=some (some (V.ref a))
  .obtain⟨i,t,h1,h2⟩:=h;obtain⟨b,h3,_,h5,_⟩:=r.ow i t h1;rw[h2]at h3;cases h3;exact h5
  .rw[fO h]at e;exact r.b.d a e
 .unfold frz at e;rw[Fu]at e;obtain⟨x,e1,e2⟩:=Z8.mp e;cases x with
  | no=>cases e2
  | f u =>
   cases e2;obtain⟨v,h1,h2⟩:=r.fz i _ e1;exact⟨v,h1,IsT.up (Up.refl H) l _ v h2⟩
  | o u =>
   cases e2;obtain⟨a,h1,h2,h3,h4⟩:=r.ow i _ e1;obtain⟨o,ho⟩:=h4.some;exact⟨_,h1,To h4 ho l ((fI e1 h1).trans ho)⟩
 .unfold frz at e;rw[Fu]at e;obtain⟨x,e1,e2⟩:=Z8.mp e;cases x<;>cases e2
 .unfold frz at e;rw[Fu]at e;obtain⟨x,e1,e2⟩:=Z8.mp e;cases x<;>cases e2
theorem Qy{o:Option (Sl×P)}{q:T×P}(e:toF o=some q):∃y:Sl×P,o=some y/\y=(.f q.1,q.2):=by
 unfold toF at e;obtain⟨⟨r,p⟩,e1,e2⟩:=ZO.mp e;cases r with
 | f t=>cases e2;exact⟨_,e1,rfl⟩
 | _=>cases e2
theorem pq{a:E}{x:Expr}(ha:PE X x (LE X.K X.mg w a)):PE X x (LE X.K X.mg w (.tmp a)):=by
 intro XB s Z H Q I ⟨F,G,p,r,p',rel,e,kq⟩
 replace e:=(Zzt _).symm.trans e
 obtain⟨q,e1,e2⟩:=ZO.mp e
 split at e2
 .rename_i hs
  cases e2;obtain⟨F1,l1,Zl,own⟩:=rel.freezeAll;obtain⟨⟨y,p1⟩,e3,e4⟩:=Qy e1;cases e4;refine ha XB s Z H Q I ⟨F1,G,frz _,_,_,Zl,e3,fun F2 H2 v l2 u2 Zh rs=>?_⟩;obtain⟨F3,l3,Tr,ht⟩:=Zh.thaw (t:=q.1) rfl rs;have l13:=l2.trans l3
  have rel0:Rel X.K X.mg F G _ Z H2:=⟨⟨fun a o e=>Tr.b.f a o (l13 a o (l1 a o e)),Tr.b.g,rel.b.d⟩,fun i t e=>let ⟨v,h1,h2⟩:=rel.fz i t e;⟨v,h1,IsT.up u2 (Le.refl F) t v h2⟩,fun i t e=>by
   obtain⟨a,h1,h2,h3,h4⟩:=rel.ow i t e;obtain⟨o,ho⟩:=h4.some;exact⟨a,h1,h2,h3,h4.up u2 (Le.refl F) ((Tr.b.f a o (l13 a o ((own i t a e h1).trans ho))).trans ho.symm)⟩,rel.ap,rel.ln⟩
  refine kq F H2 v (Le.refl F) u2 rel0 ?_;obtain⟨t,_⟩:=q;cases t<;>first | exact ht | cases hs
 .cases e2
theorem sy{a:E}{x:Expr}(ha:PT X x (LB X.K X.mg w a)):PT X x (LB X.K X.mg w (.tmp a)):=by
 intro XB s Z H Q I ⟨F,G,p,b,p',rel,e,kq⟩;unfold J3 at e;obtain⟨r,e0,e9⟩:=ZO.mp e;unfold ev at e0;obtain⟨q,e1,e2⟩:=ZO.mp e0
 split at e2
 .rename_i hs
  cases e2;obtain⟨F1,l1,Zl,own⟩:=rel.freezeAll;obtain⟨⟨y,p1⟩,e3,e4⟩:=Qy e1;cases e4;obtain⟨t,p2⟩:=q;cases t with
  | bl c =>
   cases e9;refine ha XB s Z H Q I ⟨F1,G,frz _,_,_,Zl,by unfold J3;rw[e3];rfl,fun F2 H2 l2 u2 Tr=>?_⟩
   have rel0:Rel X.K X.mg F G _ Z H2:=⟨⟨fun a o e=>Tr.b.f a o (l2 a o (l1 a o e)),Tr.b.g,rel.b.d⟩,fun i t e=>let ⟨v,h1,h2⟩:=rel.fz i t e;⟨v,h1,IsT.up u2 (Le.refl F) t v h2⟩,fun i t e=>by
    obtain⟨a,h1,h2,h3,h4⟩:=rel.ow i t e;obtain⟨o,ho⟩:=h4.some;exact⟨a,h1,h2,h3,h4.up u2 (Le.refl F) ((Tr.b.f a o (l2 a o ((own i t a e h1).trans ho))).trans ho.symm)⟩,rel.ap,rel.ln⟩
   exact kq F H2 (Le.refl F) u2 rel0
  | _=>cases e9
 .cases e2
end
section
variable{X:Cx}{w:W}{k:Nat}{N:ZD}{sc:ZK}
theorem va(c:Ctx X w k N sc){f:Str}{es:E}{x:Expr}{xs:ZC}{p0 pos:Pos}(hs:Hs X w false es (x::xs))(hg:Wb sc f=true):PE X (.Call (.Name f p0) (x::xs) [] pos) (LE X.K X.mg w (.call f es)):=by
 intro XB s Z H Q I ⟨F,G,p,r,p',rel,e,kq⟩
 replace e:=(du _ _).symm.trans e
 obtain⟨a,e1,e⟩:=ZO.mp e;obtain⟨sl,e2,e⟩:=ZO.mp e;obtain⟨rr,e3,e⟩:=ZO.mp e;obtain⟨p2,e4,e⟩:=Z8.mp e;cases e;obtain⟨ps,hl,Gf⟩:=c.fn f sl rr e3;obtain⟨gg,gd⟩:=c.gl' hg;have C5:=hs.star;refine gn Gf c.room gg hs.pa gd (Z4 (C5 _ Y5)) (Y1 _ _ _ fun e m=>C5 e (Y7 _ m)) XB s Z H Q I ⟨F,G,p,a.1,a.2,rel,e1,fun F1 H1 vs l1 u1 Zl ar=>?_⟩;show spC X.K X.mg ps.length (w.C f) (vs++[]) H1 Q E0;rw[XQ];exact Zl.call ar e2 e3 e4 (by rw[<-Paired.length ar, <-Gr e2];exact hl) fun F' H' v l u=>kq F' H' v (l1.trans l) (u1.trans u)
theorem pe(c:Ctx X w k N sc){i:Nat}{y:Str}{es:E}{x:Expr}{xs:ZC}{p0 pos:Pos}(hs:Hs X w false es (x::xs))(hg:U2 N sc i y=true):PE X (.Call (.Name y p0) (x::xs) [] pos) (LE X.K X.mg w (.cal i es)):=by
 intro XB s Z H Q I ⟨F,G,p,r,p',rel,e,kq⟩
 replace e:=(Zzr _ _).symm.trans e
 split at e
 .rename_i f ef
  obtain⟨a,e1,e⟩:=ZO.mp e;obtain⟨sl,e2,e⟩:=ZO.mp e;obtain⟨rr,e3,e⟩:=ZO.mp e;obtain⟨p2,e4,e⟩:=Z8.mp e;cases e;obtain⟨ps,hl,f',fd,Fk,b,kp,m⟩:=c.fn f sl rr e3;obtain⟨v,hv,a',rfl,hm⟩:=rel.fz i _ ef;rw[m]at hm;cases hm;have C5:=hs.star;refine gc (c.var hg) hs.pa (Z4 (C5 _ Y5)) (Y1 _ _ _ fun e m=>C5 e (Y7 _ m)) XB s Z H Q I ⟨_,hv,f',ps,_,rfl,⟨⟨k,fd,Fk,b,c.room⟩,kp⟩,F,G,p,a.1,a.2,rel,e1,fun F1 H1 vs l1 u1 Zl ar=>?_⟩;exact Zl.call ar e2 e3 e4 (by rw[<-Paired.length ar, <-Gr e2];exact hl) fun F' H' v l u=>kq F' H' v (l1.trans l) (u1.trans u)
 .cases e
theorem Se{K:PySem.W.Frag}{mg:ZV}{H F:Hp}{a:Addr}{t:T}{o:HO}(h:F9 K mg H F a t):Up K H (upd H a o):=by
 cases t with
 | lst ts=>obtain⟨vs,q,_⟩:=h;exact Si q
 | dct ts =>
  obtain⟨ks,q,_⟩:=h;intro c xs r
  have ne:∀u,H c=some u->(∀ys,u≠.dK ys)->c≠a:=fun u e n z=>by
   rw[z,q]at e;cases e;exact n _ rfl
  rcases r with (r | ⟨u,r⟩) | r
  .exact .inl (.inl (by rw[Zz (ne _ r fun _ z=>nomatch z)];exact r))
  .exact .inl (.inr ⟨u,by rw[Zz (ne _ r fun _ z=>nomatch z)];exact r⟩)
  .exact .inr r
 | _=>exact h.elim
theorem Rel.mut{K:PySem.W.Frag}{mg:ZV}{F G H:Hp}{p:P}{Z:L2.St}{i:Nat}{t t':T}{a:Addr}{o:HO}(r:Rel K mg F G p Z H)(e:p[i]?=some (Sl.o t))(hσ:Z[i]?=some (some (V.ref a)))(h:F9 K mg (upd H a o) F a t'):Up K H (upd H a o)/\Rel K mg F G (p.set i (.o t')) Z (upd H a o):=by
 obtain⟨a',h1,h2,h3,h4⟩:=r.ow i t e;rw[hσ]at h1;cases h1;have u:Up K H (upd H a o):=Se h4;refine⟨u,⟨fun b x q=>?_,fun b x q=>?_,r.b.d⟩,fun j u' q=>?_,fun j u' q=>?_,fun j l t1 t2 b q1 q2=>?_,by rw[XY];exact r.ln⟩
 .rw[Zz fun z=>by rw[z,h2]at q;cases q];exact r.b.f b x q
 .rw[Zz fun z=>by rw[z,h3]at q;cases q];exact r.b.g b x q
 .rcases Zo q with ⟨_,z⟩ | ⟨_,q⟩
  .cases z
  .obtain⟨v,g1,g2⟩:=r.fz j _ q;exact⟨v,g1,IsT.up u (Le.refl F) _ v g2⟩
 .rcases Zo q with ⟨z,y⟩ | ⟨n,q⟩
  .cases y;subst z;exact⟨a,hσ,h2,h3,h⟩
  .obtain⟨b,g1,g2,g3,g4⟩:=r.ow j _ q;have nb:b≠a:=fun z=>by subst z;exact n (r.ap j i _ _ b q e g1 hσ)
   exact⟨b,g1,g2,g3,g4.up u (Le.refl F) (Zz nb)⟩
 .have own:∀{j:Nat} {t1:T},(p.set i (Sl.o t'))[j]?=some (Sl.o t1)->∃t2,p[j]?=some (Sl.o t2):=fun {j t1} q=>by
   rcases Zo q with ⟨z,y⟩ | ⟨_,q⟩
   .subst z;exact⟨t,e⟩
   .exact⟨_,q⟩
  obtain⟨_,q1⟩:=own q1;obtain⟨_,q2⟩:=own q2;exact r.ap j l _ _ b q1 q2
noncomputable def mtN:Mt->Str
 | .append => "append"
 | .extend => "extend"
 | .pop => "pop"
 | .popAt => "pop"
 | .insert => "insert"
noncomputable def mtI:Mt->String
 | .append => "list.append"
 | .extend => "list.extend"
 | .pop => "list.pop"
 | .popAt => "list.pop"
 | .insert => "list.insert"
def rM(X:Cx)(id:String):V->ZQ->Hp->VK->Prop:=fun x xs H Q=>∀XB s Z v us,Inv X XB Z H s->RelV x v->Zw xs us->wpAny (model X.prog X.w) X.A (call (.builtin id) (v::us)) (EP X XB Z Q) X.xe s
theorem mtr{id:String}:MtR X id (rM X id):=fun XB s Z _ _ _ v us _ I rx rs h=>h XB s Z v us I rx rs
theorem Zx.erase{K:PySem.W.Frag}{mg:ZV}{H F:Hp}:∀{ts:ZZ} {vs:ZQ} (n:Nat),Zx K mg H F ts vs->Zx K mg H F (ts.eraseIdx n) (vs.eraseIdx n)
 | [],vs,n,h=>by cases(show vs=[] from h);rfl
 | t::ts,vs,0,h=>by obtain⟨v,r,rfl,q,w⟩:=h;exact w
 | t::ts,vs,n+1,h=>by obtain⟨v,r,rfl,q,w⟩:=h;exact⟨v,_,rfl,q,Zx.erase n w⟩
theorem mt_run{XB:ZY}{s:Shared}{Z σ':L2.St}{F₁ G H:Hp}{p:P}{i:Nat}{m:Mt}{t t' z:T}{ts:ZZ}{a:Addr}{vs:ZQ}{us:ZM}{Q:VK}(I:Inv X XB σ' H s)(rel:Rel X.K X.mg F₁ G p Z H)(e:p[i]?=some (Sl.o t))(hσ:Z[i]?=some (some (V.ref a)))(rs:Zw vs us)
  (at':Zx X.K X.mg H F₁ ts vs) (em:iq m t ts=some (t',z)) (q:Fin X F₁ G (p.set i (.o t')) Z H (.f z) Q):wpAny (model X.prog X.w) X.A (call (.builtin (mtI m)) (.ref a::us)) (EP X XB σ' Q) X.xe s:=by
 obtain⟨a',h1,h2,h3,h4⟩:=rel.ow i t e;rw[hσ]at h1;cases h1
 have fin:∀{ys:ZQ} {ts':ZZ} {v:V},t'=.lst ts'->ys.length<=sizeLine->Zx X.K X.mg H F₁ ts' ys->IsT X.K X.mg H F₁ z v->Q v (upd H a (.lst ys)):=fun {ys ts' v} et z1 ar iv=>by
  subst et;have u:Up X.K H (upd H a (.lst ys)):=Se h4;obtain⟨u,Z7⟩:=rel.mut (t':=.lst ts') e hσ ⟨ys,Zq,z1,Zx.up u (Le.refl _) _ _ ar⟩;exact q _ _ _ (Le.refl _) u Z7 (IsT.up u (Le.refl _) _ _ iv)
 unfold iq at em
 split at em
 .split at em
  .rename_i hz
   cases em;obtain⟨ys,g1,g2,g3⟩:=h4;obtain⟨y,r,rfl,iy,er⟩:=at';cases(show r=[] from er);have l1:=g3.length;exact Wx XB s σ' H (.ref a) _ (.ref a) us Q I rfl rs ⟨a,ys,y,rfl,rfl,g1,by omega,fin rfl (by rw[Qz];simp;omega) (g3.append (Zx.one iy)) rfl⟩
  .cases em
 .obtain⟨j,e1,e2⟩:=ZO.mp em;obtain⟨x,e3,e4⟩:=Z8.mp e2;cases e4;obtain⟨ys,g1,g2,g3⟩:=h4;obtain⟨y,r,rfl,iy,er⟩:=at';cases(show r=[] from er);cases(show y=_ from iy);have l1:=g3.length;obtain⟨y,e5,iy⟩:=g3.get e3;obtain⟨q1,q2,q3,q4⟩:=Lr e1;have hs:=sizeLine_eq;refine bw XB s σ' H (.ref a) _ (.ref a) us Q I rfl rs ⟨a,ys,_,j,y,rfl,rfl,g1,by omega,by omega,by rw[<-l1];exact q1,e5,fin rfl (by rw[List.length_eraseIdx];split<;>omega) (g3.erase j) iy⟩
 .cases em
end
section
variable{X:Cx}{XB:ZY}{Z:L2.St}{H:Hp}{s:Shared}
def NF(X:Cx)(d:Addr):Prop:=∀o u,X.H₀ d≠some (.frz o u)
theorem nf_of{d:Addr}{XM:List (Key×V)}(I:Inv X XB Z H s)(e:H d=some (.dK XM)):NF X d:=fun o u z=>by
 have:=I.base.frzs d o u z;rw[e]at this;cases this
theorem melt{d:Addr}{o:Obj}{XM:List (Key×V)}(I:Inv X XB Z H s)(e:H d=some (.frz o (.dK XM)))(nf:NF X d):Inv X XB Z (upd H d (.dK XM)) s:=by
 have ne:∀{b:Addr} {u:HO},H b=some u->(∀o k,u≠.frz o k)->b≠d:=fun h n z=>by
  rw[z,e]at h;cases h;exact n _ _ rfl
 have nn:∀{b:Addr},H b=none->upd H d (.dK XM) b=none:=fun {b} h=>by
  rw[Zz fun z=>by rw[z,e]at h;cases h];exact h
 refine⟨I.ok,I.os,I.bare,⟨I.base.keep,I.base.slot,fun b o' h1 h2 h3=>nn (I.base.free b o' h1 h2 h3),I.base.there,fun b xs h=>?_,fun b o' u h=>?_,fun b ps h=>?_⟩,I.loc,I.cell,nn I.free,fun x c h=>nn (I.freeC x c h),fun p hp=>let ⟨h1,h2,h3⟩:=I.pin p hp;⟨h1,nn h2,h3⟩,fun b u h=>?_,I.len⟩
 .have:=I.base.tups b xs h;rw[Zz (ne this fun _ _ z=>nomatch z)];exact this
 .have:=I.base.frzs b o' u h;rw[Zz fun z=>by subst z;exact nf _ _ h];exact this
 .obtain⟨more,this⟩:=I.base.tbls b ps h;exact⟨more,by rw[Zz (ne this fun _ _ z=>nomatch z)];exact this⟩
 .by_cases q:b=d
  .subst q;rw[Zq]at h;cases h;obtain⟨ho,z,y,vs,r,o',es,ep,Rv,c⟩:=(show Za X.prog X.w H s.heap b (.frz o (.dK XM)) from I.hok b _ e);exact⟨z,y,vs,r,o',es,ep,Rv,c⟩
  .rw[Zz q]at h;refine(I.hok b u h).stay (fun c v hc q=>q) (fun c q=>?_) fun c xs q=>?_
   .rw[Zz (ne q fun _ _ z=>nomatch z)];exact q
   .rw[Zz (ne q fun _ _ z=>nomatch z)];exact q
def Mel(X:Cx)(H H':Hp):Prop:=H'=H\/∃d o ks,H d=some (.frz o (.dK ks))/\NF X d/\H'=upd H d (.dK ks)
theorem Mm{H':Hp}(I:Inv X XB Z H s)(m:Mel X H H'):Inv X XB Z H' s:=by
 rcases m with rfl | ⟨d,o,ks,e,nf,rfl⟩
 .exact I
 .exact melt I e nf
theorem PE.mel{e:Expr}{t:TE}(h:PE X e t):PE X e (fun Z H Q=>t Z H fun v H1=>∃H2,Mel X H1 H2/\Q v H2):=fun XB s Z H Q I q =>
 Z3 (h XB s Z H _ I q) fun u s1 ⟨v,H1,I1,r1,H2,m,q1⟩=>⟨v,H2,Mm I1 m,r1,q1⟩
def bb(X:Cx)(D:Ends):Ends:=⟨fun Z H=>∃H2,Mel X H H2/\D.nx Z H2,fun v H=>∃H2,Mel X H H2/\D.rt v H2,fun Z H=>∃H2,Mel X H H2/\D.bk Z H2,fun Z H=>∃H2,Mel X H H2/\D.ct Z H2⟩
theorem PS.mel{st:Stmt}{t:TS}(h:PS X st t):PS X st (fun D Z H=>t (bb X D) Z H):=fun XB s Z H D I q =>
 Z3 (h XB s Z H _ I q) fun f s1 q1=>by
  cases f with
  | next=>obtain⟨σ',H',I',H2,m,q2⟩:=q1;exact⟨σ',H2,Mm I' m,q2⟩
  | brk=>obtain⟨σ',H',I',H2,m,q2⟩:=q1;exact⟨σ',H2,Mm I' m,q2⟩
  | cont=>obtain⟨σ',H',I',H2,m,q2⟩:=q1;exact⟨σ',H2,Mm I' m,q2⟩
  | ret u=>obtain⟨v,σ',H',I',r,H2,m,q2⟩:=q1;exact⟨v,σ',H2,Mm I' m,r,q2⟩
theorem k9{tg l:Expr}{tl:TE}(hl:PE X l tl):PI X tg l (fun Z H R=>tl Z H fun x H1=>(∃d XM,x=.ref d/\H1 d=some (.dK XM)/\∀o,NF X d->R (Itd d o XM) (upd H1 d (.frz o (.dK XM))))\/∃d o XM,x=.ref d/\H1 d=some (.frz o (.dK XM))/\R (Itd d o XM) H1):=by
 intro XB s Z H R I h;refine Z3 (hl XB s Z H _ I h) fun v s1 ⟨x,H1,I1,r1,q1⟩=>?_
 have go:∀{d:Addr} {o:Obj} {XM:List (Key×V)} {H2:Hp},x=.ref d->Inv X XB Z H2 s1->H2 d=some (.frz o (.dK XM))->R (Itd d o XM) H2->wpAny (model X.prog X.w) X.A (pyIter v) (PIE X XB Z tg R) X.xe s1:=fun {d o XM H2} ex I2 e q=>by
  subst ex;cases r1;obtain⟨vs,es,ep,y,r,e',m⟩:=at_of I2 e;have ln:=r.length;refine wpAny_pyIter_dict y m ?_;refine⟨s1.heap.objs.size,[s1.heap.objs.size],_,_,_,rfl,I2.kept (t':=s1.toks) fun b o e=>Y9 _ e,Xg d _ o XM es ep e',⟨_,Dj _ rfl,rfl,by rw[ln];rfl⟩,fun b hb=>?_,q⟩;have e:b=s1.heap.objs.size:=by simpa using hb
  subst e;exact I2.fpOk (Yg _) (I2.hok.fresh (Yg _))
 rcases q1 with ⟨d,XM,ex,hd,q⟩ | ⟨d,o,XM,ex,hd,q⟩
 .obtain⟨o,ho,I2⟩:=I1.freeze hd;exact go ex I2 Zq (q o (nf_of I1 hd))
 .exact go ex I1 hd q
end
def Frz(X:Cx)(F H F' H':Hp):Prop:=(F'=F/\H'=H)\/∃d o ks,F d=some (.dK ks)/\NF X d/\F'=upd F d (.frz o (.dK ks))/\H'=upd H d (.frz o (.dK ks))
def Walk(K:W.Frag)(mg:ZV)(J:It)(F H:Hp)(xs:ZZ):Prop:=∀i F1 H1,Le F F1->Up K H H1->(∀a o,F1 a=some o->H1 a=some o) ->
 (∀t,xs[i]?=some t->J.go i H1/\∀x H2,J.yld i H1 x H2->Zc H1 H2/\IsT K mg H2 F1 t x)/\(i=xs.length->J.stop i H1)
inductive LI_I(X:Cx)(w:W)(e:E)(Z:L2.St)(H:Hp)(R:(It->Hp->Prop)):Prop
 | mk(F G p xs p')(Yh:Rel X.K X.mg F G p Z H)(Ys:nq (ev w e p)=some (xs,p'))(Vt:∀F1 H1 F' H' J,Le F F1->Up X.K H H1->Rel X.K X.mg F1 G p' Z H1->Frz X F1 H1 F' H'->xs.length<=sizeLine->Walk X.K X.mg J F' H' xs->R J H'):LI_I X w e Z H R
def LI(X:Cx)(w:W)(e:E):TI:=fun Z H R=>LI_I X w e Z H R
theorem rb{F H:Hp}{d:Addr}{o:Obj}{ks:List (Key×V)}(e:F d=some (.dK ks)):ly F (upd F d (.frz o (.dK ks))):=⟨fun a vs r=>by
  by_cases z:a=d
  .subst z;rcases r with r | ⟨_,r⟩<;>rw[e]at r<;>cases r
  .unfold Rd;rw[Zz z];exact r,fun a vs r=>by
  by_cases z:a=d
  .subst z;rcases r with r | ⟨_,r⟩
   .rw[e]at r;cases r;exact .inr ⟨o,Zq⟩
   .rw[e]at r;cases r
  .unfold Rd;rw[Zz z];exact r⟩
theorem K5{F:Hp}{d:Addr}{o:Obj}{ks:List (Key×V)}(e:F d=some (.frz o (.dK ks))):ly F (upd F d (.dK ks)):=⟨fun a vs r=>by
  by_cases z:a=d
  .subst z;rcases r with r | ⟨_,r⟩<;>rw[e]at r<;>cases r
  .unfold Rd;rw[Zz z];exact r,fun a vs r=>by
  by_cases z:a=d
  .subst z;rcases r with r | ⟨_,r⟩
   .rw[e]at r;cases r
   .rw[e]at r;cases r;exact .inl Zq
  .unfold Rd;rw[Zz z];exact r⟩
theorem Zxq{K:W.Frag}{H:Hp}{d:Addr}{o o':HO}(e:H d=some o)(n:∀xs,o≠.tup xs)(n':∀u xs,o≠.frz u (.tup xs)):Up K H (upd H d o'):=fun c xs q=>by
 rcases q with (q | ⟨u,q⟩) | q
 .exact .inl (.inl (by rw[Zz fun z=>by rw[z,e]at q;cases q;exact n _ rfl];exact q))
 .exact .inl (.inr ⟨u,by rw[Zz fun z=>by rw[z,e]at q;cases q;exact n' _ _ rfl];exact q⟩)
 .exact .inr q
section
variable{X:Cx}{w:W}{F F' G H H':Hp}{p:P}{Z:L2.St}
theorem Rel.turn{K:PySem.W.Frag}{mg:ZV}{d:Addr}{o o':HO}(r:Rel K mg F G p Z H)(e:F d=some o)(u:Up K H (upd H d o'))(l:ly F (upd F d o')):Rel K mg (upd F d o') G p Z (upd H d o'):=by
 refine⟨⟨fun a x q=>?_,fun a x q=>?_,fun a q=>?_⟩,fun i t q=>let ⟨v,h1,h2⟩:=r.fz i t q;⟨v,h1,IsT.upR u l t v h2⟩,fun i t q=>?_,r.ap,r.ln⟩
 .by_cases z:a=d
  .subst z;rw[Zq]at q ⊢;exact q
  .rw[Zz z]at q ⊢;exact r.b.f a x q
 .have gd:G d=none:=r.b.d d (by rw[e];exact fun z=>nomatch z);rw[Zz fun z=>by rw[z,gd]at q;cases q];exact r.b.g a x q
 .by_cases z:a=d
  .subst z;exact r.b.d a (by rw[e];exact fun z=>nomatch z)
  .rw[Zz z]at q;exact r.b.d a q
 .obtain⟨a,h1,h2,h3,h4⟩:=r.ow i t q;have z:a≠d:=fun z=>by subst z;rw[h2]at e;cases e
  refine⟨a,h1,by rw[Zz z];exact h2,h3, ?_⟩;cases t with
  | lst ts=>obtain⟨vs,q1,q2,q3⟩:=h4;exact⟨vs,by rw[Zz z];exact q1,q2,Zx.upR u l ts vs q3⟩
  | dct ts=>obtain⟨vs,q1,q2,q3⟩:=h4;exact⟨vs,by rw[Zz z];exact q1,q2,Zd.upR u l ts vs q3⟩
  | _=>exact h4.elim
theorem Frz.rel(z:Frz X F H F' H')(r:Rel X.K X.mg F G p Z H):Rel X.K X.mg F' G p Z H'/\Up X.K H H'/\ly F F':=by
 rcases z with ⟨rfl,rfl⟩ | ⟨d,o,ks,e,nf,rfl,rfl⟩
 .exact⟨r,Up.refl _,(Le.refl _).r⟩
 .have u:Up X.K H (upd H d (.frz o (.dK ks))):=Zxq (r.b.f d _ e) (fun _ z=>nomatch z) fun _ _ z=>nomatch z;have l:=rb (H:=H) (o:=o) e;exact⟨r.turn e u l,u,l⟩
theorem Frz.back{p2:P}{σ2:L2.St}{F2 H2:Hp}(z:Frz X F H F' H')(l:Le F' F2)(r:Rel X.K X.mg F2 G p2 σ2 H2):∃F3 H3,Le F F3/\Rel X.K X.mg F3 G p2 σ2 H3/\Mel X H2 H3/\Up X.K H2 H3/\ly F2 F3/\(∀a,F2 a=none->F3 a=none)/\∀a,F2 a=none->H3 a=H2 a:=by
 rcases z with ⟨rfl,rfl⟩ | ⟨d,o,ks,e,nf,rfl,rfl⟩
 .exact⟨F2,H2,l,r,.inl rfl,Up.refl _,(Le.refl _).r,fun _ h=>h,fun _ _=>rfl⟩
 .have e2:F2 d=some (.frz o (.dK ks)):=l d _ Zq;have eh:=r.b.f d _ e2;have u:Up X.K H2 (upd H2 d (.dK ks)):=Zxq eh (fun _ z=>nomatch z) fun _ _ z=>by cases z
  refine⟨upd F2 d (.dK ks),upd H2 d (.dK ks),fun a x q=>?_,r.turn e2 u (K5 e2),.inr ⟨d,o,ks,eh,nf,rfl⟩,u,K5 e2,fun a h=>?_,fun a h=>?_⟩
  .by_cases za:a=d
   .subst za;rw[e]at q;cases q;exact Zq
   .rw[Zz za];exact l a x (by rw[Zz za];exact q)
  .rw[Zz fun z=>by rw[z,e2]at h;cases h];exact h
  .rw[Zz fun z=>by rw[z,e2]at h;cases h]
end
section
variable{K:W.Frag}{mg:ZV}{F H:Hp}
theorem jg{a:Addr}{ts:ZZ}{vs:ZQ}(h1:Yu K H a vs)(ar:Zx K mg H F ts vs):Walk K mg (Itt K a) F H ts:=fun i F1 H1 l u fh=>by
 have Je:=Zx.up u l _ _ ar;refine⟨fun t e=>?_,fun e=>⟨vs,u _ _ h1,by rw[e,ar.length];exact Yg _⟩⟩;obtain⟨v,e1,h2⟩:=Je.get e;refine⟨⟨vs,v,u _ _ h1,e1⟩,fun x H2 y=>?_⟩;obtain⟨rfl,y⟩:=y;have:=y vs (u _ _ h1);rw[e1]at this;cases this;exact⟨Zc.refl _,h2⟩
theorem jm{a:Addr}{ts:ZZ}{vs:ZQ}(h1:Rd F a (.lst vs))(ar:Zx K mg H F ts vs):Walk K mg (Itl K a) F H ts:=fun i F1 H1 l u fh=>by
 have Je:=Zx.up u l _ _ ar
 have sq:Vc K H1 a vs:=.inl (by
  rcases l.r.l a vs h1 with q | ⟨o,q⟩
  .exact .inl (fh _ _ q)
  .exact .inr ⟨o,fh _ _ q⟩)
 refine⟨fun t e=>?_,fun e=>⟨vs,sq,by rw[e,ar.length];exact Yg _⟩⟩;obtain⟨v,e1,h2⟩:=Je.get e;refine⟨⟨vs,v,sq,e1⟩,fun x H2 y=>?_⟩;obtain⟨rfl,y⟩:=y;have:=y vs sq;rw[e1]at this;cases this;exact⟨Zc.refl _,h2⟩
theorem Qj{d:Addr}{o:Obj}{XM:ZX}{ks:List (Key×V)}(h1:F d=some (.frz o (.dK ks)))(ek:XM.map (·.1)=ks.map (·.1)):Walk K mg (Itd d o ks) F H (XM.map fun p=>G3 p.1):=fun i F1 H1 l u fh=>by
 have hd:=fh _ _ (l d _ h1);have ln:XM.length=ks.length:=by have:=congrArg List.length ek;simpa using this
 refine⟨fun t e=>?_,fun e=>⟨by rw[e,Yn,ln];exact Yg _,hd⟩⟩;rw[Fu]at e;obtain⟨q,e1,rfl⟩:=Z8.mp e;have hi:=(Tz.mp e1).1;refine⟨⟨by omega,hd⟩,fun x H2 y=>?_⟩;obtain⟨rfl,k,z,e2,rfl⟩:=y;have e3:(XM.map (·.1))[i]?=some q.1:=by rw[Fu,e1];rfl
 rw[ek,Fu,e2]at e3;cases e3;exact⟨Zc.refl _,A1 _⟩
theorem jf{z:Str}:Walk K mg (Its z) F H (z.cps.toList.map fun c=>T.str ⟨#[c]⟩):=fun i F1 H1 l u fh=>by
 refine⟨fun t e=>?_,fun e=>by rw[Yn,qp]at e;exact Nat.le_of_eq e.symm⟩;rw[Fu]at e;obtain⟨c,e1,rfl⟩:=Z8.mp e;have e1:z.cps[i]?=some c:=by simpa using e1
 refine⟨(Array.getElem?_eq_some_iff.mp e1).1,fun x H2 y=>?_⟩;obtain⟨rfl,c',e2,rfl⟩:=y;rw[e1]at e2;cases e2;exact⟨Zc.refl _,rfl⟩
theorem jb{n:Nat}:Walk K mg (Itr 0 n) F H ((List.range n).map fun k=>T.int (k:Nat)):=fun i F1 H1 l u fh=>by
 refine⟨fun t e=>?_,fun e=>by rw[Yn,XJ]at e;exact Nat.le_of_eq e.symm⟩;rw[Fu]at e;obtain⟨c,e1,rfl⟩:=Z8.mp e;have hi:=(Tz.mp e1);obtain⟨hi,e2⟩:=hi;rw[XJ]at hi;rw[List.getElem_range]at e2;subst e2;refine⟨hi,fun x H2 y=>?_⟩;obtain⟨rfl,rfl⟩:=y;exact⟨Zc.refl _,by show V.int _=V.int _;rw[Int.zero_add]⟩
theorem Q5{H1 H2 F1:Hp}{q:Addr}{t u:T}{x y:V}(hq:H1 q=none)(e:H2=upd H1 q (.tup [x,y]))(ht:IsT K mg H1 F1 t x)(hu:IsT K mg H1 F1 u y):Zc H1 H2/\IsT K mg H2 F1 (.tup [t,u]) (.ref q):=by
 subst e;have s:Zc H1 (upd H1 q (.tup [x,y])):=Zc.lay hq;exact⟨s,q,_,rfl,Yu.of Zq,by show 2<=sizeLine;decide,x,_,rfl,IsT.up s.up (Le.refl _) _ _ ht,y,_,rfl,IsT.up s.up (Le.refl _) _ _ hu,rfl⟩
theorem Qx{a b:ZZ}{i:Nat}{t:T}(e:(C9 a b)[i]?=some t):∃x y,a[i]?=some x/\b[i]?=some y/\t=.tup [x,y]:=by
 unfold C9 at e;rw[Fu]at e;obtain⟨q,e1,rfl⟩:=Z8.mp e;rw[List.getElem?_zip_eq_some]at e1;exact⟨_,_,e1.1,e1.2,rfl⟩
theorem D4{a b:ZZ}:(C9 a b).length=min a.length b.length:=by unfold C9;rw[Yn,List.length_zip]
theorem Xz{a b:Addr}{ts us:ZZ}{vs ws:ZQ}(h1:Yu K H a vs)(ar:Zx K mg H F ts vs)(h2:Yu K H b ws)(br:Zx K mg H F us ws):Walk K mg (Itzt K a b) F H (C9 ts us):=fun i F1 H1 l u fh=>by
 have Je:=Zx.up u l _ _ ar;have br1:=Zx.up u l _ _ br;refine⟨fun t e=>?_,fun e=>⟨vs,ws,u _ _ h1,u _ _ h2,by rw[D4,ar.length,br.length]at e;omega⟩⟩;obtain⟨x,y,e1,e2,rfl⟩:=Qx e;obtain⟨v,g1,g2⟩:=Je.get e1;obtain⟨v',g3,g4⟩:=br1.get e2;refine⟨⟨vs,ws,v,v',u _ _ h1,u _ _ h2,g1,g3⟩,fun z H2 yl=>?_⟩;obtain⟨q,x',y',rfl,hq,hH,k1,k2⟩:=yl;have:=k1 vs (u _ _ h1);rw[g1]at this;cases this;have:=k2 ws (u _ _ h2);rw[g3]at this;cases this;exact Q5 hq hH g2 g4
theorem Xx{a b:Addr}{ts us:ZZ}{vs ws:ZQ}(h1:Rd F a (.lst vs))(ar:Zx K mg H F ts vs)(h2:Rd F b (.lst ws))(br:Zx K mg H F us ws):Walk K mg (Itz K a b) F H (C9 ts us):=fun i F1 H1 l u fh=>by
 have Je:=Zx.up u l _ _ ar;have br1:=Zx.up u l _ _ br
 have sq:∀{a:Addr} {vs:ZQ},Rd F a (.lst vs)->Vc K H1 a vs:=fun {a vs} h=>.inl (by
  rcases l.r.l a vs h with q | ⟨o,q⟩
  .exact .inl (fh _ _ q)
  .exact .inr ⟨o,fh _ _ q⟩)
 refine⟨fun t e=>?_,fun e=>⟨vs,ws,sq h1,sq h2,by rw[D4,ar.length,br.length]at e;omega⟩⟩;obtain⟨x,y,e1,e2,rfl⟩:=Qx e;obtain⟨v,g1,g2⟩:=Je.get e1;obtain⟨v',g3,g4⟩:=br1.get e2;refine⟨⟨vs,ws,v,v',sq h1,sq h2,g1,g3⟩,fun z H2 yl=>?_⟩;obtain⟨q,x',y',rfl,hq,hH,k1,k2⟩:=yl;have:=k1 vs (sq h1);rw[g1]at this;cases this;have:=k2 ws (sq h2);rw[g3]at this;cases this;exact Q5 hq hH g2 g4
end
section
variable{X:Cx}{w:W}{k:Nat}{N:ZD}{sc:ZK}
theorem Tw{o:Option (Sl×P)}{t:T}{p:P}(h:toT o=some (t,p)):∃r,o=some (r,p)/\thaw r=some t:=by
 unfold toT at h;obtain⟨y,e1,e2⟩:=ZO.mp h;obtain⟨t',e3,e4⟩:=Z8.mp e2;cases e4;exact⟨y.1,e1,e3⟩
theorem wo{o:Option (Sl×P)}{ts:ZZ}{p:P}(h:nq o=some (ts,p)):∃r t,o=some (r,p)/\thaw r=some t/\N4 t=some ts:=by
 unfold nq at h;obtain⟨y,e1,e2⟩:=ZO.mp h;obtain⟨t',e3,e4⟩:=Z8.mp e2;cases e4;obtain⟨r,e5,e6⟩:=Tw (p:=y.2) (t:=y.1) e1;exact⟨r,y.1,e5,e6,e3⟩
theorem vh{it:E}{tg iter:Expr}(h:PE X iter (LE X.K X.mg w it)):PI X tg iter (LI X w it):=by
 intro XB s Z H R I ⟨F,G,p,xs,p',rel,e,kq⟩;obtain⟨r,t,e1,e2,e3⟩:=wo e
 have key:∀{Q:VK},(∀F2 H1 v,Le F F2->Up X.K H H1->Rel X.K X.mg F2 G p' Z H1->IsT X.K X.mg H1 F2 t v->Q v H1)->LE X.K X.mg w it Z H Q:=fun k=>⟨F,G,p,r,p',rel,e1,fun F1 H1 v l1 u1 Zl rs=>by
  obtain⟨F2,l2,Zh,ht⟩:=Zl.thaw e2 rs;exact k F2 H1 v (l1.trans l2) u1 Zh ht⟩
 unfold N4 at e3
 split at e3
 .cases e3;refine pi_tup h XB s Z H R I (key fun F2 H1 v l u Zh ht=>?_);obtain⟨a,vs,rfl,h1,z,ar⟩:=ht;exact⟨a,rfl,⟨vs,h1⟩,kq F2 H1 F2 H1 _ l u Zh (.inl ⟨rfl,rfl⟩) (by rw[ar.length];exact z) (jg h1 ar)⟩
 .cases e3;refine ak h XB s Z H R I (key fun F2 H1 v l u Zh ht=>?_);obtain⟨a,vs,rfl,h1,z,ar⟩:=ht;exact⟨a,rfl,⟨vs,.inl (Zh.b.rd h1)⟩,kq F2 H1 F2 H1 _ l u Zh (.inl ⟨rfl,rfl⟩) (by rw[ar.length];exact z) (jm h1 ar)⟩
 .cases e3;refine k9 h XB s Z H R I (key fun F2 H1 v l u Zh ht=>?_);obtain⟨a,ks,rfl,h1,z,ar⟩:=ht;rcases h1 with h1 | ⟨o,h1⟩
  .exact .inl ⟨a,ks,rfl,Zh.b.f _ _ h1,fun o nf=>kq F2 H1 _ _ _ l u Zh (.inr ⟨a,o,ks,h1,nf,rfl,rfl⟩) (by rw[Yn,ar.length];exact z) (Qj Zq ar.keys)⟩
  .exact .inr ⟨a,o,ks,rfl,Zh.b.f _ _ h1,kq F2 H1 F2 H1 _ l u Zh (.inl ⟨rfl,rfl⟩) (by rw[Yn,ar.length];exact z) (Qj h1 ar.keys)⟩
 .split at e3
  .rename_i hz
   cases e3;refine pi_str h XB s Z H R I (key fun F2 H1 v l u Zh ht=>?_);exact⟨_,ht,kq F2 H1 F2 H1 _ l u Zh (.inl ⟨rfl,rfl⟩) (by rw[Yn,qp];exact hz) jf⟩
  .cases e3
 .cases e3
noncomputable def ikN:Ik->Str
 | .rng => "range"
 | .zip => "zip"
def ikL:Ik->Nat
 | .zip=>2
 | _=>1
def isTup:Expr->Bool
 | .Tuple _ _ _=>true
 | _=>false
def ikOk:Ik->Expr->Bool
 | .rng,_=>true
 | _,t=>isTup t
theorem len1{Z:Type}{xs:List Z}(h:xs.length=1):∃x,xs=[x]:=by
 cases xs with
 | nil=>cases h
 | cons x r=>cases r with
  | nil=>exact⟨x,rfl⟩
  | cons y r=>cases h
theorem len2{Z:Type}{xs:List Z}(h:xs.length=2):∃x y,xs=[x,y]:=by
 cases xs with
 | nil=>cases h
 | cons x r=>obtain⟨y,rfl⟩:=len1 (Nat.succ.inj h);exact⟨x,y,rfl⟩
theorem wa{e:Expr}(h:isTup e=true):∃a b c,e=.Tuple a b c:=by
 cases e<;>first | exact⟨_,_,_,rfl⟩ | cases h
theorem pd(c:Ctx X w k N sc){q:Ik}{es:E}{xs:ZC}{tg:Expr}{f:Str}{p0 pos:Pos}(hs:Hs X w false es xs)(hn:Ua es=true)(hf:(f == ikN q && Wb sc f && ikOk q tg)=true)(hl:xs.length=ikL q):PI X tg (.Call (.Name f p0) xs [] pos) (LI X w (.itr q es)):=by
 intro XB s Z H R I ⟨F,G,p,ys,p',rel,e,kq⟩;simp only[Y6,beq_iff_eq]at hf;obtain⟨⟨rfl,g1⟩,ht⟩:=hf;obtain⟨gg,gd⟩:=c.gl' g1;obtain⟨r,t,e1,e2,e3⟩:=wo e
 replace e1:=(Zzn _ _).symm.trans e1
 obtain⟨a,q1,e1⟩:=ZO.mp e1;obtain⟨ts,q2,e1⟩:=ZO.mp e1;obtain⟨zs,q3,e1⟩:=Z8.mp e1;cases e1;cases e2;cases e3;have nt:=T4 es hs q1 hn;have C5:=hs.star;have key:∀{Q:ZQ->Hp->Prop},(∀F1 H1 vs,Le F F1->Up X.K H H1->Rel X.K X.mg F1 G a.2 Z H1->Zx X.K X.mg H1 F1 ts vs->Q vs H1)->LA X.K X.mg w false es Z H Q:=fun k=>⟨F,G,p,a.1,a.2,rel,q1,fun F1 H1 vs l1 u1 Zl ar=>k F1 H1 vs l1 u1 Zl (Me nt q2 ar)⟩;cases q with
 | rng =>
  obtain⟨x,rfl⟩:=len1 hl;refine X7 gg (c.bn _ (by decide +kernel)) hs.pa (by rw[Z4 (C5 _ Y5)];rfl) XB s Z H R I (key fun F1 H1 vs l u Zl ar=>?_);unfold itT at q3
  split at q3<;>first | (rename_i z;cases z) | skip
  .rename_i tt _
   unfold rngT at q3
   split at q3
   .split at q3
    .rename_i n hz
     cases q3;obtain⟨v,r,rfl,hv,hr⟩:=ar;cases(show r=[] from hr);cases(show v=_ from hv);exact⟨n,rfl,by omega,by omega,kq F1 H1 F1 H1 _ l u Zl (.inl ⟨rfl,rfl⟩) (by rw[Yn,XJ];have:=sizeLine_eq;omega) jb⟩
    .cases q3
   .cases q3
  all_goals cases q3
 | zip =>
  obtain⟨x,y,rfl⟩:=len2 hl;obtain⟨_,_,_,rfl⟩:=wa ht;have h2:starEach [x,y] X.env=(false,eval x X.env)::starEach [y] X.env:=Z4 (C5 _ Y5);have h3:(backTo pos (starEach [y] X.env)).any (·.1)=false:=Y1 _ _ _ fun e m=>C5 e (Y7 _ m);unfold itT at q3
  split at q3<;>first | (rename_i z;cases z) | skip
  .cases q3;refine pi_zip gg (c.bn _ (by decide +kernel)) hs.pa h2 h3 XB s Z H R I (key fun F1 H1 vs l u Zl ar=>?_);obtain⟨v,r,rfl,hv,v',r',rfl,ed,hr⟩:=ar;cases(show r'=[] from hr);obtain⟨a1,vs,rfl,k1,z1,Je⟩:=hv;obtain⟨a2,ws,rfl,k2,z2,C1⟩:=ed;exact⟨a1,a2,rfl,⟨vs,.inl (Zl.b.rd k1)⟩,⟨ws,.inl (Zl.b.rd k2)⟩,kq F1 H1 F1 H1 _ l u Zl (.inl ⟨rfl,rfl⟩) (by rw[D4,Je.length];omega) (Xx k1 Je k2 C1)⟩
  .cases q3;refine ay gg (c.bn _ (by decide +kernel)) hs.pa h2 h3 XB s Z H R I (key fun F1 H1 vs l u Zl ar=>?_);obtain⟨v,r,rfl,hv,v',r',rfl,ed,hr⟩:=ar;cases(show r'=[] from hr);obtain⟨a1,vs,rfl,k1,z1,Je⟩:=hv;obtain⟨a2,ws,rfl,k2,z2,C1⟩:=ed;exact⟨a1,a2,rfl,⟨vs,k1⟩,⟨ws,k2⟩,kq F1 H1 F1 H1 _ l u Zl (.inl ⟨rfl,rfl⟩) (by rw[D4,Je.length];omega) (Xz k1 Je k2 C1)⟩
  all_goals cases q3
end
section
variable{K:W.Frag}{mg:ZV}{F G H:Hp}{p:P}{Z:L2.St}
theorem Rel.bind(r:Rel K mg F G p Z H){i:Nat}{s:Sl}{v:V}(hi:i<Z.length)(h:Res K mg F G p Z H s v):Rel K mg F G (p.set i s) (Z.set i (some v)) H:=by
 have at_:(Z.set i (some v))[i]?=some (some v):=List.getElem?_set_self hi;have ne:∀{j:Nat},j≠i->(Z.set i (some v))[j]?=Z[j]?:=fun n=>List.getElem?_set_ne fun z=>n z.symm;refine⟨r.b,fun j t e=>?_,fun j t e=>?_,fun j l t u a e1 e2 h1 h2=>?_,by rw[XY,XY];exact r.ln⟩
 .rcases Zo e with ⟨z,y⟩ | ⟨n,e⟩
  .subst z y;exact⟨v,at_,h⟩
  .obtain⟨u,h1,h2⟩:=r.fz j t e;exact⟨u,(ne n).trans h1,h2⟩
 .rcases Zo e with ⟨z,y⟩ | ⟨n,e⟩
  .subst z y;obtain⟨a,rfl,h1,h2,h3,_⟩:=h;exact⟨a,at_,h1,h2,h3⟩
  .obtain⟨a,h1,h2⟩:=r.ow j t e;exact⟨a,(ne n).trans h1,h2⟩
 .rcases Zo e1 with ⟨z,y⟩ | ⟨n,q1⟩
  .rcases Zo e2 with ⟨z',_⟩ | ⟨n,q2⟩
   .rw[z,z']
   .subst z y;obtain⟨b,rfl,_,_,_,h4⟩:=h;rw[at_]at h1;cases h1;rw[ne n]at h2;exact absurd h2 (h4 l u q2)
  .rw[ne n]at h1;rcases Zo e2 with ⟨z,y⟩ | ⟨n',q2⟩
   .subst z y;obtain⟨b,rfl,_,_,_,h4⟩:=h;rw[at_]at h2;cases h2;exact absurd h1 (h4 j t q1)
   .rw[ne n']at h2;exact r.ap j l t u a q1 q2 h1 h2
end
noncomputable def Nx:E->List Nat
 | .v i=>[i]
 | .tup es=>Nx es
 | .cons a r=>Nx a++Nx r
 | _=>[]
noncomputable def locs(sc:ZK)(x:Str):Bool:=match sc.lookup x with
 | some .local=>true
 | some .cell=>true
 | _=>false
mutual
noncomputable def Nq(N:ZD)(sc:ZK):E->Expr->Bool
 | .v i,.Name x _=>N[i]? == some x && locs sc x
 | .tup es,.Tuple xs _ _=>Mx N sc es xs
 | _,_=>false
noncomputable def Mx(N:ZD)(sc:ZK):E->ZC->Bool
 | .nil,[]=>true
 | .cons a r,x::xs=>Nq N sc a x && Mx N sc r xs
 | _,_=>false
end
def LG(K:W.Frag)(mg:ZV)(tg:E):TG:=fun v Z H Q=>∃F G p t p',Rel K mg F G p Z H/\IsT K mg H F t v/\asg tg t p=some p'/\∀σ',Rel K mg F G p' σ' H->(∀j,j ∉ Nx tg->σ'[j]?=Z[j]?)->σ'.length=Z.length->Q σ' H
def LGs(K:W.Frag)(mg:ZV)(tg:E):lz:=fun vs Z H Q=>∃F G p ts p',Rel K mg F G p Z H/\Zx K mg H F ts vs/\Kb tg ts p=some p'/\∀σ',Rel K mg F G p' σ' H->(∀j,j ∉ Nx tg->σ'[j]?=Z[j]?)->σ'.length=Z.length->Q σ' H
section
variable{X:Cx}{w:W}{k:Nat}{N:ZD}{sc:ZK}
theorem Ctx.loc(c:Ctx X w k N sc){x:Str}(h:locs sc x=true):Loc X.env.scope x/\(X.fn x=true\/X.env.scope.names.lookup x=some .local):=by
 unfold locs at h
 split at h
 .rename_i e
  rcases c.nm x _ e with e | ⟨z,_⟩
  .exact⟨.inl e,.inr e⟩
  .cases z
 .rename_i e
  rcases c.nm x _ e with e' | ⟨z,_⟩
  .exact⟨.inr e',.inl (c.cl x e)⟩
  .cases z
 .cases h
theorem L0:∀(es:E) {xs:ZC},Mx N sc es xs=true->(∀x∈xs,noStar x=true)
 | .nil,[],_,x,m=>absurd m Vk
 | .cons a r,y::xs,h,x,m=>by
  have h:(Nq N sc a y && Mx N sc r xs)=true:=h;rw[Y6]at h;rcases Yw.mp m with rfl | m
  .cases x<;>first | rfl | (cases a<;>cases h.1)
  .exact L0 r h.2 x m
 | .nil,_::_,h,_,_=>by cases h
 | .cons _ _,[],h,_,_=>by cases h
 | .v _,_,h,_,_=>by cases h
 | .k _,_,h,_,_=>by cases h
 | .g _,_,h,_,_=>by cases h
 | .pr _ _,_,h,_,_=>by cases h
 | .mv _,_,h,_,_=>by cases h
 | .io _,_,h,_,_=>by cases h
 | .tup _,_,h,_,_=>by cases h
 | .lst _,_,h,_,_=>by cases h
 | .and _ _,_,h,_,_=>by cases h
 | .or _ _,_,h,_,_=>by cases h
 | .not _,_,h,_,_=>by cases h
 | .ite _ _ _,_,h,_,_=>by cases h
 | .call _ _,_,h,_,_=>by cases h
 | .cal _ _,_,h,_,_=>by cases h
 | .mt _ _ _,_,h,_,_=>by cases h
 | .comp _ _ _ _ _ _,_,h,_,_=>by cases h
 | .itr _ _,_,h,_,_=>by cases h
 | .tmp _,_,h,_,_=>by cases h
theorem Im{e:Expr}{es:ZC}{env:Env}(h:noStar e=true):assignEach (e::es) env=(false,assign e env)::assignEach es env:=by
 cases e<;>first | rfl | cases h
theorem P9:∀{es:ZC} {env:Env},(∀x∈es,noStar x=true)->(assignEach es env).length=es.length/\(assignEach es env).findIdx? (·.1)=none
 | [],env,_=>⟨rfl,rfl⟩
 | e::es,env,h=>by
  rw[Im (h e Y5)];obtain⟨h1,h2⟩:=P9 (env:=env) fun x m=>h x (Y7 _ m);exact⟨by rw[B9,B9,h1],by rw[List.findIdx?_cons,h2];rfl⟩
theorem Oa:∀(es:E) {xs:ZC} {ts:ZZ} {p p':P},Mx N sc es xs=true->Kb es ts p=some p'->ts.length=xs.length
 | .nil,[],[],p,p',_,_=>rfl
 | .cons a r,y::xs,t::ts,p,p',h,e=>by
  have h:(Nq N sc a y && Mx N sc r xs)=true:=h;rw[Y6]at h;obtain⟨q,_,e2⟩:=ZO.mp (show (asg a t p).bind (fun q=>Kb r ts q)=some p' from e);rw[B9,B9,Oa r h.2 e2]
 | .nil,[],_::_,_,_,_,e=>by cases e
 | .cons _ _,_::_,[],_,_,_,e=>by cases e
 | .nil,_::_,_,_,_,h,_=>by cases h
 | .cons _ _,[],_,_,_,h,_=>by cases h
 | .v _,_,_,_,_,h,_=>by cases h
 | .k _,_,_,_,_,h,_=>by cases h
 | .g _,_,_,_,_,h,_=>by cases h
 | .pr _ _,_,_,_,_,h,_=>by cases h
 | .mv _,_,_,_,_,h,_=>by cases h
 | .io _,_,_,_,_,h,_=>by cases h
 | .tup _,_,_,_,_,h,_=>by cases h
 | .lst _,_,_,_,_,h,_=>by cases h
 | .and _ _,_,_,_,_,h,_=>by cases h
 | .or _ _,_,_,_,_,h,_=>by cases h
 | .not _,_,_,_,_,h,_=>by cases h
 | .ite _ _ _,_,_,_,_,h,_=>by cases h
 | .call _ _,_,_,_,_,h,_=>by cases h
 | .cal _ _,_,_,_,_,h,_=>by cases h
 | .mt _ _ _,_,_,_,_,h,_=>by cases h
 | .comp _ _ _ _ _ _,_,_,_,_,h,_=>by cases h
 | .itr _ _,_,_,_,_,h,_=>by cases h
 | .tmp _,_,_,_,_,h,_=>by cases h
mutual
theorem Tf(c:Ctx X w k N sc):∀(tg:E) {x:Expr},Nq N sc tg x=true->PG X x (LG X.K X.mg tg)
 | .v i,.Name y pos,h=>fun XB s Z H v u Q I r ⟨F,G,p,t,p',rel,ht,e,kq⟩=>by
  have h:(N[i]? == some y && locs sc y)=true:=h;rw[Y6,beq_iff_eq]at h;obtain⟨l1,l2⟩:=c.loc h.2;have hi:X.N[i]?=some y:=by rw[c.nN];exact h.1
  cases e;refine af (by rw[c.nN];exact c.nd) hi l1 l2 XB s Z H v u Q I r (kq _ (rel.bind (by rw[I.len];exact(Tz.mp hi).1) ht) (fun j hj=>List.getElem?_set_ne fun z=>hj (by rw[z];exact M4.mpr rfl)) (XY ..))
 | .tup es,.Tuple xs j pos,h=>fun XB s Z H v u Q I r ⟨F,G,p,t,p',rel,ht,e,kq⟩=>by
  have h:Mx N sc es xs=true:=h;obtain⟨a1,a2⟩:=P9 (env:=X.env) (L0 es h);cases t<;>first | cases e | skip
  rename_i ts
  have e:Kb es ts p=some p':=e;obtain⟨a,vs,rfl,h1,z,ar⟩:=ht;have hl:=Oa es h e;exact pg_tup (n:=xs.length) c.calm (Hy c es h) a1 a2 XB s Z H _ u Q I r ⟨a,vs,rfl,h1,by rw[<-ar.length];exact hl,F,G,p,ts,p',rel,ar,e,kq⟩
 | .v _,.BoolOp ..,h=>by cases h
 | .v _,.NamedExpr ..,h=>by cases h
 | .v _,.BinOp ..,h=>by cases h
 | .v _,.UnaryOp ..,h=>by cases h
 | .v _,.Lambda ..,h=>by cases h
 | .v _,.IfExp ..,h=>by cases h
 | .v _,.Dict ..,h=>by cases h
 | .v _,.Set ..,h=>by cases h
 | .v _,.ListComp ..,h=>by cases h
 | .v _,.SetComp ..,h=>by cases h
 | .v _,.DictComp ..,h=>by cases h
 | .v _,.GeneratorExp ..,h=>by cases h
 | .v _,.Await ..,h=>by cases h
 | .v _,.Yield ..,h=>by cases h
 | .v _,.YieldFrom ..,h=>by cases h
 | .v _,.Compare ..,h=>by cases h
 | .v _,.Call ..,h=>by cases h
 | .v _,.FormattedValue ..,h=>by cases h
 | .v _,.JoinedStr ..,h=>by cases h
 | .v _,.Constant ..,h=>by cases h
 | .v _,.Attribute ..,h=>by cases h
 | .v _,.Subscript ..,h=>by cases h
 | .v _,.Starred ..,h=>by cases h
 | .v _,.List ..,h=>by cases h
 | .v _,.Tuple ..,h=>by cases h
 | .v _,.Slice ..,h=>by cases h
 | .tup _,.BoolOp ..,h=>by cases h
 | .tup _,.NamedExpr ..,h=>by cases h
 | .tup _,.BinOp ..,h=>by cases h
 | .tup _,.UnaryOp ..,h=>by cases h
 | .tup _,.Lambda ..,h=>by cases h
 | .tup _,.IfExp ..,h=>by cases h
 | .tup _,.Dict ..,h=>by cases h
 | .tup _,.Set ..,h=>by cases h
 | .tup _,.ListComp ..,h=>by cases h
 | .tup _,.SetComp ..,h=>by cases h
 | .tup _,.DictComp ..,h=>by cases h
 | .tup _,.GeneratorExp ..,h=>by cases h
 | .tup _,.Await ..,h=>by cases h
 | .tup _,.Yield ..,h=>by cases h
 | .tup _,.YieldFrom ..,h=>by cases h
 | .tup _,.Compare ..,h=>by cases h
 | .tup _,.Call ..,h=>by cases h
 | .tup _,.FormattedValue ..,h=>by cases h
 | .tup _,.JoinedStr ..,h=>by cases h
 | .tup _,.Constant ..,h=>by cases h
 | .tup _,.Attribute ..,h=>by cases h
 | .tup _,.Subscript ..,h=>by cases h
 | .tup _,.Starred ..,h=>by cases h
 | .tup _,.List ..,h=>by cases h
 | .tup _,.Name ..,h=>by cases h
 | .tup _,.Slice ..,h=>by cases h
 | .k _,_,h=>by cases h
 | .g _,_,h=>by cases h
 | .pr _ _,_,h=>by cases h
 | .mv _,_,h=>by cases h
 | .io _,_,h=>by cases h
 | .nil,_,h=>by cases h
 | .cons _ _,_,h=>by cases h
 | .lst _,_,h=>by cases h
 | .and _ _,_,h=>by cases h
 | .or _ _,_,h=>by cases h
 | .not _,_,h=>by cases h
 | .ite _ _ _,_,h=>by cases h
 | .call _ _,_,h=>by cases h
 | .cal _ _,_,h=>by cases h
 | .mt _ _ _,_,h=>by cases h
 | .comp _ _ _ _ _ _,_,h=>by cases h
 | .itr _ _,_,h=>by cases h
 | .tmp _,_,h=>by cases h
theorem Hy(c:Ctx X w k N sc):∀(es:E) {xs:ZC},Mx N sc es xs=true->PGs X xs (LGs X.K X.mg es)
 | .nil,[],_=>fun XB s Z H vs us Q I r ⟨F,G,p,ts,p',rel,ht,e,kq⟩=>by
  cases ts with
  | nil =>
   cases e;exact ag XB s Z H vs us Q I r ⟨ht,kq Z rel (fun _ _=>rfl) rfl⟩
  | cons t ts=>cases e
 | .cons a r',y::xs,h=>fun XB s Z H vs us Q I r ⟨F,G,p,ts,p',rel,ht,e,kq⟩=>by
  have C5:=L0 _ h;have h:(Nq N sc a y && Mx N sc r' xs)=true:=h;rw[Y6]at h;cases ts with
  | nil=>cases e
  | cons t ts =>
   obtain⟨v,vr,rfl,iv,av⟩:=ht;obtain⟨q,e1,e2⟩:=ZO.mp (show (asg a t p).bind (fun q=>Kb r' ts q)=some p' from e);refine gz (Tf c a h.1) (Hy c r' h.2) (by rw[Im (C5 _ Y5)];rfl) XB s Z H _ us Q I r ⟨v,vr,rfl,F,G,p,t,q,rel,iv,e1,fun σ' Z7 k' n'=>⟨F,G,q,ts,p',Z7,av,e2,fun σ2 Zh k2 n2=>kq σ2 Zh (fun j hj=>?_) (n2.trans n')⟩⟩;have hj:j ∉ Nx a++Nx r':=hj;rw[Ks,not_or]at hj;exact(k2 j hj.2).trans (k' j hj.1)
 | .nil,_::_,h=>by cases h
 | .cons _ _,[],h=>by cases h
 | .v _,_,h=>by cases h
 | .k _,_,h=>by cases h
 | .g _,_,h=>by cases h
 | .pr _ _,_,h=>by cases h
 | .mv _,_,h=>by cases h
 | .io _,_,h=>by cases h
 | .tup _,_,h=>by cases h
 | .lst _,_,h=>by cases h
 | .and _ _,_,h=>by cases h
 | .or _ _,_,h=>by cases h
 | .not _,_,h=>by cases h
 | .ite _ _ _,_,h=>by cases h
 | .call _ _,_,h=>by cases h
 | .cal _ _,_,h=>by cases h
 | .mt _ _ _,_,h=>by cases h
 | .comp _ _ _ _ _ _,_,h=>by cases h
 | .itr _ _,_,h=>by cases h
 | .tmp _,_,h=>by cases h
end
end
theorem Ca:∀(fr:ZG) (q p:P),fr.length=q.length->(∀i1 i2 j:Nat,fr[i1]?=some (some j)->fr[i2]?=some (some j)->i1=i2) ->
  (back fr q p).length=p.length/\(∀j:Nat,(∀i:Nat,fr[i]?≠some (some j))->(back fr q p)[j]?=p[j]?)/\∀i j:Nat,fr[i]?=some (some j)->j<p.length->(back fr q p)[j]?=q[i]?
 | [],[],p,_,_=>⟨rfl,fun _ _=>rfl,fun i j h=>by simp at h⟩
 | none::fr,s::q,p,hl,inj=>by
  obtain⟨h1,h2,h3⟩:=Ca fr q p (by simpa using hl) fun i1 i2 j a b=>by have:=inj (i1+1) (i2+1) j (by simpa using a) (by simpa using b);omega
  refine⟨h1,fun j h=>h2 j fun i z=>h (i+1) (by simpa using z),fun i j h hj=>?_⟩;cases i with
  | zero=>simp at h
  | succ i=>exact h3 i j (by simpa using h) hj
 | some l::fr,s::q,p,hl,inj=>by
  obtain⟨h1,h2,h3⟩:=Ca fr q (p.set l s) (by simpa using hl) fun i1 i2 j a b=>by have:=inj (i1+1) (i2+1) j (by simpa using a) (by simpa using b);omega
  rw[XY]at h1;refine⟨h1,fun j h=>?_,fun i j h hj=>?_⟩
  .have n:l≠j:=fun z=>h 0 (by simp[z]);exact(h2 j fun i z=>h (i+1) (by simpa using z)).trans (List.getElem?_set_ne n)
  .cases i with
   | zero =>
    simp at h;subst h;refine(h2 l fun i z=>?_).trans ((List.getElem?_set_self hj).trans (by simp));have:=inj 0 (i+1) l (by simp) (by simpa using z);omega
   | succ i=>exact h3 i j (by simpa using h) (by rw[XY];exact hj)
 | [],_::_,_,hl,_=>by simp at hl
 | _::_,[],_,hl,_=>by simp at hl
section
variable{K:W.Frag}{mg:ZV}{F G H:Hp}{p:P}{Z:L2.St}{fr:ZG}
theorem Ij{i:Nat}{s:Sl}(h:(qr fr p)[i]?=some s):(fr[i]?=some none/\s=.no)\/∃j,fr[i]?=some (some j)/\s=(p[j]?).getD .no:=by
 unfold qr at h;rw[Fu]at h;obtain⟨o,e1,e2⟩:=Z8.mp h;cases o with
 | none=>exact .inl ⟨e1,e2.symm⟩
 | some j=>exact .inr ⟨j,e1,e2.symm⟩
theorem Ml{i j:Nat}{v:V}(h:fr[i]?=some (some j))(e:Z[j]?=some (some v)):(frees fr Z)[i]?=some (some v):=by
 unfold frees;rw[Fu,h];show some ((Z[j]?).bind id)=_;rw[e];rfl
open Classical in
noncomputable def Nt(fr:ZG)(p:P)(Z:L2.St)(H G:Hp):Hp:=fun a=>if ∃(j:Nat) (t:T),p[j]?=some (Sl.o t)/\Z[j]?=some (some (V.ref a))/\∀i:Nat,fr[i]?≠some (some j) then H a else G a
theorem B5{a:Addr}{j:Nat}{t:T}(h1:p[j]?=some (Sl.o t))(h2:Z[j]?=some (some (V.ref a)))(h3:∀i:Nat,fr[i]?≠some (some j)):Nt fr p Z H G a=H a:=if_pos ⟨j,t,h1,h2,h3⟩
theorem B4{a:Addr}(h:¬ ∃(j:Nat) (t:T),p[j]?=some (Sl.o t)/\Z[j]?=some (some (V.ref a))/\∀i:Nat,fr[i]?≠some (some j)):Nt fr p Z H G a=G a:=if_neg h
theorem dv(r:Rel K mg F G p Z H){a:Addr}{o:HO}(h:G a=some o):Nt fr p Z H G a=some o:=by
 refine(B4 fun⟨i,t,h1,h2,_⟩=>?_).trans h;obtain⟨b,h3,_,h4,_⟩:=r.ow i t h1;rw[h2]at h3;cases h3;rw[h]at h4;cases h4
theorem Zz2(r:Rel K mg F G p Z H)(inj:∀i1 i2 j:Nat,fr[i1]?=some (some j)->fr[i2]?=some (some j)->i1=i2){D:Addr}(hD:H D=none):Rel K mg F (upd (Nt fr p Z H G) D (.lst [])) (qr fr p) (frees fr Z) (upd H D (.lst [])):=by
 have s:Zc H (upd H D (.lst [])):=Zc.lay hD;have nD:∀{a:Addr} {o:HO},H a=some o->a≠D:=fun h z=>by rw[z,hD]at h;cases h
 have own:∀{i:Nat} {t:T},(qr fr p)[i]?=some (Sl.o t)->∃j,fr[i]?=some (some j)/\p[j]?=some (Sl.o t):=fun {i t} h=>by
  rcases Ij h with ⟨_,z⟩ | ⟨j,e1,e2⟩
  .cases z
  .refine⟨j,e1, ?_⟩;cases q:p[j]? with
   | none=>rw[q]at e2;cases e2
   | some x=>rw[q]at e2;exact congrArg some e2.symm
 refine⟨⟨fun a o e=>s a o (r.b.f a o e),fun a o e=>?_,fun a e=>?_⟩,fun i t e=>?_,fun i t e=>?_,fun i1 i2 t u a e1 e2 h1 h2=>?_, ?_⟩
 .by_cases z:a=D
  .subst z;rw[Zq]at e ⊢;exact e
  .rw[Zz z]at e ⊢;by_cases h:∃(j:Nat) (t:T),p[j]?=some (Sl.o t)/\Z[j]?=some (some (V.ref a))/\∀i:Nat,fr[i]?≠some (some j)
   .obtain⟨j,t,g1,g2,g3⟩:=h;rw[B5 g1 g2 g3]at e;exact e
   .rw[B4 h]at e;exact r.b.g a o e
 .have ne:a≠D:=by
   cases q:F a with
   | none=>exact absurd q e
   | some o=>exact nD (r.b.f a o q)
  rw[Zz ne];refine(B4 fun⟨j,t,h1,h2,_⟩=>?_).trans (r.b.d a e);obtain⟨b,h3,h4,_⟩:=r.ow j t h1;rw[h2]at h3;cases h3;exact e h4
 .rcases Ij e with ⟨_,z⟩ | ⟨j,e1,e2⟩
  .cases z
  .cases q:p[j]? with
   | none=>rw[q]at e2;cases e2
   | some x =>
    rw[q]at e2;cases(show Sl.f t=x from e2);obtain⟨v,h1,h2⟩:=r.fz j t q;exact⟨v,Ml e1 h1,IsT.up s.up (Le.refl F) t v h2⟩
 .obtain⟨j,e1,q⟩:=own e;obtain⟨a,h1,h2,h3,h4⟩:=r.ow j t q;obtain⟨o,ho⟩:=h4.some;refine⟨a,Ml e1 h1,h2, ?_,h4.same s (Le.refl F)⟩;rw[Zz (nD ho)];refine(B4 fun⟨j',t',q1,q2,q3⟩=>?_).trans h3;have:=r.ap j' j t' t a q1 q q2 h1;subst this;exact q3 i e1
 .obtain⟨j1,f1,q1⟩:=own e1;obtain⟨j2,f2,q2⟩:=own e2;obtain⟨a1,k1,_⟩:=r.ow j1 t q1;obtain⟨a2,k2,_⟩:=r.ow j2 u q2;rw[Ml f1 k1]at h1;cases h1;rw[Ml f2 k2]at h2;cases h2;have:=r.ap j1 j2 t u a q1 q2 k1 k2;subst this;exact inj i1 i2 j1 f1 f2
 .unfold qr;rw[Yn,Jf]
theorem Rel.gset{D:Addr}{ys zs:ZQ}(r:Rel K mg F (upd G D (.lst ys)) p Z H):Rel K mg F (upd G D (.lst zs)) p Z (upd H D (.lst zs))/\Up K H (upd H D (.lst zs)):=by
 have hD:H D=some (.lst ys):=r.b.g D _ Zq
 have fD:F D=none:=by
  cases q:F D with
  | none=>rfl
  | some o=>have:=r.b.d D (by rw[q];exact fun z=>nomatch z);rw[Zq]at this;cases this
 have u:Up K H (upd H D (.lst zs)):=Si hD;refine⟨⟨⟨fun a o e=>?_,fun a o e=>?_,fun a e=>?_⟩,fun i t e=>let ⟨v,h1,h2⟩:=r.fz i t e;⟨v,h1,IsT.up u (Le.refl F) t v h2⟩,fun i t e=>?_,r.ap,r.ln⟩,u⟩
 .rw[Zz fun z=>by rw[z,fD]at e;cases e];exact r.b.f a o e
 .by_cases z:a=D
  .subst z;rw[Zq]at e ⊢;exact e
  .rw[Zz z]at e ⊢;exact r.b.g a o (by rw[Zz z];exact e)
 .have ne:a≠D:=fun z=>by rw[z]at e;exact e fD
  have:=r.b.d a e;rw[Zz ne]at this ⊢;exact this
 .obtain⟨a,h1,h2,h3,h4⟩:=r.ow i t e;have ne:a≠D:=fun z=>by rw[z,Zq]at h3;cases h3
  exact⟨a,h1,h2,by rw[Zz ne]at h3 ⊢;exact h3,h4.up u (Le.refl F) (Zz ne)⟩
theorem t5{F2 H2:Hp}{q:P}{σ2:L2.St}{D:Addr}{ys:ZQ}(r:Rel K mg F G p Z H)(inj:∀i1 i2 j:Nat,fr[i1]?=some (some j)->fr[i2]?=some (some j)->i1=i2)(hj:∀i j:Nat,fr[i]?=some (some j)->j<p.length)(hD:H D=none)(l:Le F F2)(u:Up K H H2)
  (r2:Rel K mg F2 (upd (Nt fr p Z H G) D (.lst ys)) q σ2 H2) (hl:q.length=fr.length) (keep:∀i j:Nat,fr[i]?=some (some j)->σ2[i]?=(frees fr Z)[i]?):Rel K mg F2 G (back fr q p) Z H2/\F2 D=none/\G D=none/\∀(i:Nat) (t:T),(back fr q p)[i]?=some (Sl.o t)->Z[i]?≠some (some (V.ref D)):=by
 obtain⟨b1,b2,b3⟩:=Ca fr q p hl.symm inj;have nD:∀{a:Addr} {o:HO},H a=some o->a≠D:=fun h z=>by rw[z,hD]at h;cases h
 have fD:F2 D=none:=by
  cases e:F2 D with
  | none=>rfl
  | some o=>have:=r2.b.d D (by rw[e];exact fun z=>nomatch z);rw[Zq]at this;cases this
 have gD:G D=none:=by
  cases e:G D with
  | none=>rfl
  | some o=>have:=r.b.g D o e;rw[hD]at this;cases this
 have gN:∀{a:Addr},a≠D->upd (Nt fr p Z H G) D (.lst ys) a=none->G a=none:=fun {a} n h=>by
  rw[Zz n]at h;cases e:G a with
  | none=>rfl
  | some o=>rw[dv r e]at h;cases h
 have val:∀{i j:Nat} {v:V},fr[i]?=some (some j)->σ2[i]?=some (some v)->Z[j]?=some (some v):=fun {i j v} e h=>by
  rw[keep i j e]at h;unfold frees at h;rw[Fu,e]at h;have h:(Z[j]?).bind id=some v:=G0 h;cases q:Z[j]? with
  | none=>rw[q]at h;cases h
  | some o=>rw[q]at h;exact congrArg some h
 have cas:∀j:Nat,(∃i:Nat,fr[i]?=some (some j))\/∀i:Nat,fr[i]?≠some (some j):=fun j=>by
  by_cases h:∃i:Nat,fr[i]?=some (some j)
  .exact .inl h
  .exact .inr fun i z=>h ⟨i,z⟩
 have own:∀{j:Nat} {t:T},(back fr q p)[j]?=some (Sl.o t)->∃a,Z[j]?=some (some (V.ref a))/\a≠D/\F2 a=none/\G a=none/\F9 K mg H2 F2 a t:=fun {j t} e=>by
  rcases cas j with ⟨i,f1⟩ | f1
  .rw[b3 i j f1 (hj i j f1)]at e;obtain⟨a,h1,h2,h3,h4⟩:=r2.ow i t e;have n:a≠D:=fun z=>by rw[z,Zq]at h3;cases h3
   exact⟨a,val f1 h1,n,h2,gN n h3,h4⟩
  .rw[b2 j f1]at e;obtain⟨a,h1,h2,h3,h4⟩:=r.ow j t e;obtain⟨o,ho⟩:=h4.some;have n:=nD ho;have g1:upd (Nt fr p Z H G) D (.lst ys) a=some o:=by rw[Zz n,B5 e h1 f1];exact ho
   refine⟨a,h1,n, ?_,h3,h4.up u l ((r2.b.g a o g1).trans ho.symm)⟩;cases z:F2 a with
   | none=>rfl
   | some x=>have:=r2.b.d a (by rw[z];exact fun z=>nomatch z);rw[g1]at this;cases this
 refine⟨⟨⟨r2.b.f,fun a o e=>r2.b.g a o (by rw[Zz (nD (r.b.g a o e))];exact dv r e),fun a e=>?_⟩,fun j t e=>?_,fun j t e=>let ⟨a,h1,_,h2,h3,h4⟩:=own e;⟨a,h1,h2,h3,h4⟩,fun j1 j2 t t' a e1 e2 h1 h2=>?_,by rw[b1];exact r.ln⟩,fD,gD,fun i t e z=>?_⟩
 .have n:a≠D:=fun z=>by rw[z]at e;exact e fD
  exact gN n (r2.b.d a e)
 .rcases cas j with ⟨i,f1⟩ | f1
  .rw[b3 i j f1 (hj i j f1)]at e;obtain⟨v,h1,h2⟩:=r2.fz i t e;exact⟨v,val f1 h1,h2⟩
  .rw[b2 j f1]at e;obtain⟨v,h1,h2⟩:=r.fz j t e;exact⟨v,h1,IsT.up u l t v h2⟩
 .rcases cas j1 with ⟨i1,f1⟩ | f1
  .rw[b3 i1 j1 f1 (hj i1 j1 f1)]at e1;obtain⟨a1,k1,_,g1,_⟩:=r2.ow i1 t e1;have:=val f1 k1;rw[h1]at this;cases this;rcases cas j2 with ⟨i2,f2⟩ | f2
   .rw[b3 i2 j2 f2 (hj i2 j2 f2)]at e2;obtain⟨a2,k2,_⟩:=r2.ow i2 t' e2;have:=val f2 k2;rw[h2]at this;cases this;have:=r2.ap i1 i2 t t' a e1 e2 k1 k2;subst this;rw[f1]at f2;cases f2;rfl
   .rw[b2 j2 f2]at e2;obtain⟨b,c1,_,_,c4⟩:=r.ow j2 t' e2;rw[h2]at c1;cases c1;obtain⟨o,ho⟩:=c4.some;rw[Zz (nD ho),B5 e2 h2 f2,ho]at g1;cases g1
  .rw[b2 j1 f1]at e1;rcases cas j2 with ⟨i2,f2⟩ | f2
   .rw[b3 i2 j2 f2 (hj i2 j2 f2)]at e2;obtain⟨a2,k2,_,g2,_⟩:=r2.ow i2 t' e2;have:=val f2 k2;rw[h2]at this;cases this;obtain⟨b,c1,_,_,c4⟩:=r.ow j1 t e1;rw[h1]at c1;cases c1;obtain⟨o,ho⟩:=c4.some;rw[Zz (nD ho),B5 e1 h1 f1,ho]at g2;cases g2
   .rw[b2 j2 f2]at e2;exact r.ap j1 j2 t t' a e1 e2 h1 h2
 .obtain⟨a,h1,n,_⟩:=own e;rw[h1]at z;cases z;exact n rfl
end
def LT(K:PySem.W.Frag)(mg:ZV)(w:W)(c:E):TT:=if isNil c=true then Hx else LB K mg w c
theorem df{NX:ZD}{names:ZK}{ns:ZD}{fr:ZG}(h:Jb NX names ns fr=true)(nd:ns.Nodup):∀i1 i2 j:Nat,fr[i1]?=some (some j)->fr[i2]?=some (some j)->i1=i2:=fun i1 i2 j e1 e2=>by
 obtain⟨x,a1,a2,_⟩:=U5 h e1;obtain⟨y,b1,b2,_⟩:=U5 h e2;rw[a2]at b2;cases b2;have h1:=(Tz.mp a1);have h2:=(Tz.mp b1);obtain⟨l1,g1⟩:=h1;obtain⟨l2,g2⟩:=h2;exact(List.getElem_inj nd).mp (g1.trans g2.symm)
section
variable{X:Cx}{w:W}{k:Nat}{N:ZD}{sc:ZK}
noncomputable def Zx6(w:W)(tg c el:E):T->P->Option (Option T×P):=fun x s=>(asg tg x s).bind fun s1=>(if isNil c=true then some (true,s1) else J3 (ev w c s1)).bind fun b=>if b.1=true then (toT (ev w el b.2)).map fun r=>(some r.1,r.2) else some (none,b.2)
theorem Ir(c:Ctx X w k N sc){tg it cd el:E}{fr:ZG}{ns:ZD}{scope:Scope}(s2:Jb N scope.names ns fr=true)(nd:ns.Nodup)(ht:∀i∈Nx tg,fr[i]?=some none){Z:L2.St}{H:Hp}{Q:VK}(hσ:Z.length=N.length)(h:LE X.K X.mg w (.comp tg it cd el fr ns) Z H Q) :
  vx (LI X w it) fr (fun _ _ _=>LG X.K X.mg tg) (fun _ _ _=>LT X.K X.mg w cd) (fun _ _ _=>LE X.K X.mg w el) Z H fun v H1=>∃H2,Mel X H1 H2/\Q v H2:=by
 obtain⟨F,G,p,r,p',rel,e,kq⟩:=h;have inj:=df s2 nd;have frl:=Mr s2
 replace e:=(dh _ _ _ _ _ _).symm.trans e
 obtain⟨⟨xs,p1⟩,e1,e⟩:=ZO.mp e;obtain⟨⟨yz,qe⟩,e2,e⟩:=Z8.mp e;cases e;have e2:Dt (Zx6 w tg cd el) xs [] (qr fr p1)=some (yz,qe):=e2;refine⟨F,G,p,xs,p1,rel,e1,fun F1 H1 F' H' J l u Zl fz zl walk=>?_⟩;intro D fp sx hD;obtain⟨Z7,u',lr⟩:=fz.rel Zl
 have jl:∀i j:Nat,fr[i]?=some (some j)->j<p1.length:=fun i j e=>by
  obtain⟨x,a1,a2,_⟩:=U5 s2 e;rw[Zl.ln,hσ];exact(Tz.mp a2).1
 let GD:ZQ->Hp:=fun ys=>upd (Nt fr p1 Z H' G) D (.lst ys)
 let Wt:Nat->Nat->ZQ->L2.St->Hp->Prop:=fun i m ys σ2 H2=>m=xs.length - i/\i<=xs.length/\∃F2 q acc,Le F' F2/\Up X.K H' H2/\Rel X.K X.mg F2 (GD ys) q σ2 H2/\Zx X.K X.mg H2 F2 acc ys/\ys.length<=i/\Dt (Zx6 w tg cd el) (xs.drop i) acc q=some (yz,qe)/\(∀i j:Nat,fr[i]?=some (some j)->σ2[i]?=(frees fr Z)[i]?)/\σ2.length=fr.length
 refine⟨Wt,⟨xs.length,rfl,Ju _,F',qr fr p1,[],Le.refl _,(Zc.lay hD).up,Zz2 Z7 inj hD,rfl,Yg _,e2,fun _ _ _=>rfl,Jf fr Z⟩, ?_⟩;rintro i m ys σ2 H2 ⟨rfl,hi',F2,q,acc,l2,u2,r2,ar,yl,e3,keep,sl⟩;have hD2:H2 D=some (.lst ys):=r2.b.g D _ Zq;refine⟨hD2, ?_⟩;obtain⟨wk1,wk2⟩:=walk i F2 H2 l2 u2 r2.b.f;by_cases ql:i<xs.length
 .have et:xs[i]?=some xs[i]:=Ui ql;rw[List.drop_eq_getElem_cons ql]at e3;unfold Dt at e3;obtain⟨⟨o,q1⟩,e4,e5⟩:=ZO.mp e3;obtain⟨s3,e6,e7⟩:=ZO.mp (show (asg tg xs[i] q).bind _=some (o,q1) from e4);obtain⟨⟨b,s4⟩,e8,e9⟩:=ZO.mp e7;obtain⟨g1,g2⟩:=wk1 _ et;refine .inr ⟨g1,fun ys' σ' H'=>Wt (i+1) (xs.length - (i+1)) ys' σ' H',fun ys' σ' H' h=>⟨_,by omega,h⟩,fun x H3 yd=>?_⟩;obtain⟨sm,ix⟩:=g2 x H3 yd;refine⟨F2,GD ys,q,xs[i],s3,r2.same sm,ix,e6,fun σ3 r3 k3 n3=>?_⟩;have keep3:∀i j:Nat,fr[i]?=some (some j)->σ3[i]?=(frees fr Z)[i]?:=fun a j ea=>(k3 a fun m=>by rw[ht a m]at ea;cases ea).trans (keep a j ea);have sl3:σ3.length=fr.length:=n3.trans sl
  have elm:∀{F4 H4:Hp},b=true->Le F2 F4->Up X.K H3 H4->Rel X.K X.mg F4 (GD ys) s4 σ3 H4->LE X.K X.mg w el σ3 H4 fun y H5=>H5 D=some (.lst ys)/\ys.length<sizeLine/\Wt (i+1) (xs.length - (i+1)) (ys++[y]) σ3 (upd H5 D (.lst (ys++[y]))):=fun {F4 H4} hb l4 u4 r4=>by
   rw[if_pos hb]at e9;obtain⟨⟨t',s5⟩,e10,e11⟩:=Z8.mp e9;cases e11;obtain⟨rr,e12,e13⟩:=Tw e10;refine⟨F4,GD ys,s4,rr,s5,r4,e12,fun F5 H5 y l5 u5 r5 rs=>?_⟩;obtain⟨F6,l6,r6,it6⟩:=r5.thaw e13 rs;obtain⟨r7,u7⟩:=r6.gset (zs:=ys++[y]);refine⟨r6.b.g D _ Zq,by omega,rfl,ql,F6,s5,acc++[t'],(l2.trans l4).trans (l5.trans l6),u2.trans (sm.up.trans (u4.trans (u5.trans u7))),r7, ?_, ?_,e5,keep3,sl3⟩
   .exact(Zx.up (sm.up.trans (u4.trans (u5.trans u7))) (l4.trans (l5.trans l6)) _ _ ar).append (Zx.one (IsT.up u7 (Le.refl _) _ _ it6))
   .rw[Qz];show ys.length+1<=i+1;omega
  show (LT X.K X.mg w cd) σ3 H3 fun ok H4=>if ok=true then _ else _
  unfold LT;by_cases hn:isNil cd=true
  .rw[if_pos hn]at e8;cases e8;rw[if_pos hn];exact i5 (B:=Wt (i+1) (xs.length - (i+1)) ys σ3 H3) (elm rfl (Le.refl _) (Up.refl _) r3)
  .rw[if_neg hn]at e8;rw[if_neg hn];refine⟨F2,GD ys,s3,b,s4,r3,e8,fun F4 H4 l4 u4 r4=>?_⟩;cases b with
   | true =>
    exact i5 (B:=Wt (i+1) (xs.length - (i+1)) ys σ3 H4) (elm rfl l4 u4 r4)
   | false =>
    cases e9;exact iteF ⟨rfl,ql,F4,s4,acc,l2.trans l4,u2.trans (sm.up.trans u4),r4,Zx.up (sm.up.trans u4) l4 _ _ ar,by omega,e5,keep3,sl3⟩
 .have ei:i=xs.length:=by omega
  subst ei;rw[List.drop_length]at e3;cases e3;refine .inl ⟨wk2 rfl, ?_⟩;obtain⟨ro,fD,gD,nD⟩:=t5 Z7 inj jl hD l2 u2 r2 (by rw[r2.ln];exact sl) keep;obtain⟨F3,H3,l3,r3,ml,u3,lr3,n1,n2⟩:=fz.back l2 ro;refine⟨H3,ml,kq F3 H3 (.ref D) (l.trans l3) (u.trans (u'.trans (u2.trans u3))) r3 ⟨D,rfl,n1 D fD,gD,⟨ys,(n2 D fD).trans hD2,by omega,Zx.upR u3 lr3 _ _ ar⟩,nD⟩⟩
theorem vp(c:Ctx X w k N sc)(hsc:X.env.scope.names=sc){outer:Scope}(ho:outer.names=sc){tg it cd el:E}{fr:ZG}{ns:ZD}{elt t iter:Expr}{ifs:ZC}{scope:Scope}{pos:Pos}
  (hi:PI X t iter (LI X w it)) (s1:Ew outer scope=true) (s2:Jb N scope.names ns fr=true) (nd:ns.Nodup) (ht:∀i∈Nx tg,fr[i]?=some none)
  (hg:∀fp s H,PG (Z0 X scope ns fp s H) t (LG X.K X.mg tg)) (hc:∀fp s H,PTs (Z0 X scope ns fp s H) ifs (LT X.K X.mg w cd)) (he:∀fp s H,PE (Z0 X scope ns fp s H) elt (LE X.K X.mg w el))
  (hfold:∀x,foldedSetIterable iter X.env x=pure x):PE X (.ListComp elt [⟨t,iter,ifs,0⟩] scope pos) (LE X.K X.mg w (.comp tg it cd el fr ns)):=fun XB s Z H Q I h =>
 PE.mel (au (te:=fun _ _ _=>LE X.K X.mg w el) (tt:=fun _ _ _=>LT X.K X.mg w cd) (g:=fun _ _ _=>LG X.K X.mg tg) c.calm hi (NX:=N) (outer:=outer) ⟨c.nN,by rw[hsc,ho],s1,s2⟩ hg hc he hfold) XB s Z H Q I (Ir c s2 nd ht (by rw[I.len,c.nN]) h)
end
def asName:Expr->Option Str:=j5
noncomputable def Oo(x:Expr):Option (ZC):=match Bi x with
 | .tup xs=>some xs
 | _=>none
noncomputable def O0(x:Expr):Option (ZC):=match Bi x with
 | .lst xs=>some xs
 | _=>none
noncomputable def Bd(op:BoolOp)(z:Expr):Option (Expr×Expr×ZC×Pos):=match Bi z with
 | .boo o (x::y::r) pos=>if o=op then some (x,y,r,pos) else none
 | _=>none
noncomputable def Oe(z:Expr):Option Expr:=match Bi z with
 | .un o x=>if o=.Not then some x else none
 | _=>none
noncomputable def Zz9(z:Expr):Option (Expr×Expr×Expr):=match Bi z with
 | .ife c a b=>some (c,a,b)
 | _=>none
def Bm:Expr->Option (Str×ZC):=Xj
noncomputable def Ia(z:Expr):Option (Str×Str×ZC):=match Bi z with
 | .callA o m ap xs cp=>(match j5 o with
  | some y=>if (ap.endLine == cp.line)=true then some (y,m,xs) else none
  | none=>none)
 | _=>none
noncomputable def Io(z:Expr):Option (Expr×Expr×Expr×ZC×Scope):=match Bi z with
 | .lc elt [⟨t,iter,ifs,0⟩] scope=>some (elt,t,iter,ifs,scope)
 | _=>none
noncomputable def plainT:Expr->Bool
 | .UnaryOp .Not _ _=>false
 | .BoolOp _ _ _=>false
 | .IfExp _ _ _ _=>false
 | .Compare _ _ _ _=>false
 | _=>true
def Ny:Expr->Bool
 | .Set _ _ _=>false
 | _=>true
noncomputable def C4:E->Expr->Bool
 | .and a b,x=>match Bd .And x with
  | some (x0,y,r,pos)=>C4 a x0 && (if r.isEmpty then C4 b y else C4 b (.BoolOp .And (y::r) pos) && (match b with
   | .and _ _=>true
   | _=>false))
  | none=>false
 | .or a b,x=>match Bd .Or x with
  | some (x0,y,r,pos)=>C4 a x0 && (if r.isEmpty then C4 b y else C4 b (.BoolOp .Or (y::r) pos) && (match b with
   | .or _ _=>true
   | _=>false))
  | none=>false
 | .not a,x=>match Oe x with
  | some y=>C4 a y
  | none=>false
 | .tmp a,x=>C4 a x
 | .pr (.cm _) _,_=>true
 | .pr (.c2 _ _) _,_=>true
 | _,x=>plainT x
noncomputable def rm(fr:ZG)(tg:E):Bool:=(Nx tg).all fun i=>fr[i]? == some none
mutual
noncomputable def rep:Bool->ZD->Scope->E->Expr->Bool
 | _,N,sc,.v i,x=>match asName x with
  | some y=>U2 N sc.names i y
  | none=>false
 | _,N,sc,.mv i,x=>match asName x with
  | some y=>U2 N sc.names i y
  | none=>false
 | _,_,_,.k t,x=>repK t x
 | _,_,sc,.g g,x=>match asName x with
  | some y=>g == y && Wb sc.names y
  | none=>false
 | tp,N,sc,.tup es,x=>match Oo x with
  | some xs=>Ua es && V2 tp N sc es xs
  | none=>false
 | tp,N,sc,.lst es,x=>match O0 x with
  | some xs=>Ua es && V2 tp N sc es xs
  | none=>false
 | tp,N,sc,.pr q es,x=>match view sc.names q x with
  | some xs=>Ua es && quiet q es && V2 tp N sc es xs
  | none=>false
 | tp,N,sc,.and a b,x=>match Bd .And x with
  | some (x0,y,r,pos)=>rep tp N sc a x0 && (if r.isEmpty then rep tp N sc b y else rep tp N sc b (.BoolOp .And (y::r) pos))
  | none=>false
 | tp,N,sc,.or a b,x=>match Bd .Or x with
  | some (x0,y,r,pos)=>rep tp N sc a x0 && (if r.isEmpty then rep tp N sc b y else rep tp N sc b (.BoolOp .Or (y::r) pos))
  | none=>false
 | tp,N,sc,.not a,x=>match Oe x with
  | some y=>rep tp N sc a y
  | none=>false
 | tp,N,sc,.ite c a b,x=>match Zz9 x with
  | some (z,x0,y)=>rep tp N sc c z && C4 c z && rep tp N sc a x0 && rep tp N sc b y
  | none=>false
 | tp,N,sc,.call f es,x=>match Bm x with
  | some (g,xs)=>f == g && Wb sc.names g && !xs.isEmpty && V2 tp N sc es xs
  | none=>false
 | tp,N,sc,.cal i es,x=>match Bm x with
  | some (g,xs)=>U2 N sc.names i g && !xs.isEmpty && Ua es && V2 tp N sc es xs
  | none=>false
 | tp,N,sc,.mt m i es,x=>match Ia x with
  | some (y,n,xs)=>n == mtN m && U2 N sc.names i y && Ua es && V2 tp N sc es xs && (match m with
   | .pop=>xs.isEmpty
   | _=>!xs.isEmpty && decide (xs.length<30))
  | none=>false
 | tp,N,sc,.comp tg it c el fr ns,x=>match Io x with
  | some (elt,t,iter,ifs,scope)=>tp && Lq tp N sc t it iter && Ew sc scope && Jb N scope.names ns fr && decide ns.Nodup && rm fr tg && Ny iter && Nq ns scope.names tg t
   && (if isNil c then ifs.isEmpty else (match ifs with
    | [z]=>rep false ns scope c z && C4 c z
    | _=>false)) && rep false ns scope el elt
  | none=>false
 | tp,N,sc,.tmp a,x=>rep tp N sc a x
 | _,_,_,_,_=>false
noncomputable def Lq:Bool->ZD->Scope->Expr->E->Expr->Bool
 | tp,N,sc,t,.itr q es,x=>match Bm x with
  | some (f,xs)=>f == ikN q && Wb sc.names f && ikOk q t && decide (xs.length=ikL q) && Ua es && V2 tp N sc es xs
  | none=>false
 | tp,N,sc,_,.v i,x=>match asName x with
  | some y=>U2 N sc.names i y
  | none=>false
 | tp,N,sc,_,.pr q es,x=>match view sc.names q x with
  | some xs=>Ua es && quiet q es && V2 tp N sc es xs
  | none=>false
 | tp,N,sc,_,.call f es,x=>match Bm x with
  | some (g,xs)=>f == g && Wb sc.names g && !xs.isEmpty && V2 tp N sc es xs
  | none=>false
 | tp,N,sc,_,.lst es,x=>match O0 x with
  | some xs=>Ua es && V2 tp N sc es xs
  | none=>false
 | tp,N,sc,_,.tup es,x=>match Oo x with
  | some xs=>Ua es && V2 tp N sc es xs
  | none=>false
 | _,_,_,_,_,_=>false
noncomputable def V2:Bool->ZD->Scope->E->ZC->Bool
 | _,_,_,.nil,[]=>true
 | tp,N,sc,.cons a r,x::xs=>noStar x && (match a with
  | .io i=>(match asName x with
   | some y=>U2 N sc.names i y
   | none=>false)
  | _=>rep tp N sc a x) && V2 tp N sc r xs
 | _,_,_,_,_=>false
end
theorem yk{tp:Bool}{N:ZD}{sc:Scope}{x:Expr}:∀i,rep tp N sc (.v i) x=(match asName x with
  | some y=>U2 N sc.names i y
  | none=>false):=fun _=>rfl
theorem ud{tp:Bool}{N:ZD}{sc:Scope}{x:Expr}:∀i,rep tp N sc (.mv i) x=(match asName x with
  | some y=>U2 N sc.names i y
  | none=>false):=fun _=>rfl
theorem rep_gQ{tp:Bool}{N:ZD}{sc:Scope}{x:Expr}:∀g,rep tp N sc (.g g) x=(match asName x with
  | some y=>g == y && Wb sc.names y
  | none=>false):=fun _=>rfl
theorem yf{tp:Bool}{N:ZD}{sc:Scope}{x:Expr}:∀es,rep tp N sc (.tup es) x=(match Oo x with
  | some xs=>Ua es && V2 tp N sc es xs
  | none=>false):=fun _=>rfl
theorem yb{tp:Bool}{N:ZD}{sc:Scope}{x:Expr}:∀es,rep tp N sc (.lst es) x=(match O0 x with
  | some xs=>Ua es && V2 tp N sc es xs
  | none=>false):=fun _=>rfl
theorem Lz{tp:Bool}{N:ZD}{sc:Scope}{x:Expr}:∀q es,rep tp N sc (.pr q es) x=(match view sc.names q x with
  | some xs=>Ua es && quiet q es && V2 tp N sc es xs
  | none=>false):=fun _ _=>rfl
theorem Qa{tp:Bool}{N:ZD}{sc:Scope}{x:Expr}:∀a b,rep tp N sc (.and a b) x=(match Bd .And x with
  | some (x0,y,r,pos)=>rep tp N sc a x0 && (if r.isEmpty then rep tp N sc b y else rep tp N sc b (.BoolOp .And (y::r) pos))
  | none=>false):=fun _ _=>rfl
theorem Hh{tp:Bool}{N:ZD}{sc:Scope}{x:Expr}:∀a b,rep tp N sc (.or a b) x=(match Bd .Or x with
  | some (x0,y,r,pos)=>rep tp N sc a x0 && (if r.isEmpty then rep tp N sc b y else rep tp N sc b (.BoolOp .Or (y::r) pos))
  | none=>false):=fun _ _=>rfl
theorem Qu{tp:Bool}{N:ZD}{sc:Scope}{x:Expr}:∀a,rep tp N sc (.not a) x=(match Oe x with
  | some y=>rep tp N sc a y
  | none=>false):=fun _=>rfl
theorem ym{tp:Bool}{N:ZD}{sc:Scope}{x:Expr}:∀c a b,rep tp N sc (.ite c a b) x=(match Zz9 x with
  | some (z,x0,y)=>rep tp N sc c z && C4 c z && rep tp N sc a x0 && rep tp N sc b y
  | none=>false):=fun _ _ _=>rfl
theorem Xh{tp:Bool}{N:ZD}{sc:Scope}{x:Expr}:∀f es,rep tp N sc (.call f es) x=(match Bm x with
  | some (g,xs)=>f == g && Wb sc.names g && !xs.isEmpty && V2 tp N sc es xs
  | none=>false):=fun _ _=>rfl
theorem yc{tp:Bool}{N:ZD}{sc:Scope}{x:Expr}:∀i es,rep tp N sc (.cal i es) x=(match Bm x with
  | some (g,xs)=>U2 N sc.names i g && !xs.isEmpty && Ua es && V2 tp N sc es xs
  | none=>false):=fun _ _=>rfl
theorem uc{tp:Bool}{N:ZD}{sc:Scope}{x:Expr}:∀m i es,rep tp N sc (.mt m i es) x=(match Ia x with
  | some (y,n,xs)=>n == mtN m && U2 N sc.names i y && Ua es && V2 tp N sc es xs && (match m with
   | .pop=>xs.isEmpty
   | _=>!xs.isEmpty && decide (xs.length<30))
  | none=>false):=fun _ _ _=>rfl
theorem R3{tp:Bool}{N:ZD}{sc:Scope}{x:Expr}:∀tg it c el fr ns,rep tp N sc (.comp tg it c el fr ns) x=(match Io x with
  | some (elt,t,iter,ifs,scope)=>tp && Lq tp N sc t it iter && Ew sc scope && Jb N scope.names ns fr && decide ns.Nodup && rm fr tg && Ny iter && Nq ns scope.names tg t
   && (if isNil c then ifs.isEmpty else (match ifs with
    | [z]=>rep false ns scope c z && C4 c z
    | _=>false)) && rep false ns scope el elt
  | none=>false):=fun _ _ _ _ _ _=>rfl
theorem X0{tp:Bool}{N:ZD}{sc:Scope}{t x:Expr}:∀q es,Lq tp N sc t (.itr q es) x=(match Bm x with
  | some (f,xs)=>f == ikN q && Wb sc.names f && ikOk q t && decide (xs.length=ikL q) && Ua es && V2 tp N sc es xs
  | none=>false):=fun _ _=>rfl
theorem Ey{tp:Bool}{N:ZD}{sc:Scope}{x:Expr}{xs:ZC}:∀a r,V2 tp N sc (.cons a r) (x::xs)=(noStar x && (match a with
  | .io i=>(match asName x with
   | some y=>U2 N sc.names i y
   | none=>false)
  | _=>rep tp N sc a x) && V2 tp N sc r xs):=fun _ _=>rfl
theorem Ts{x:Expr}{env:Env}(h:plainT x=true):∀whole,isTrue x env whole=(do let v <-whole;standAt x.pos;holding [v] (truthy v)):=by
 intro wh;cases x<;>first | rfl | cases h | (rename_i op _ _;cases op<;>first | rfl | cases h)
theorem Gw{x:Expr}{env:Env}(h:Ny x=true):∀v,foldedSetIterable x env v=pure v:=by
 intro v;cases x<;>first | rfl | cases h
theorem Jz{x:Expr}{y:Str}(h:asName x=some y):∃pos,x=.Name y pos:=Wi h
theorem cw{x:Expr}{y:ZC}(h:Oo x=some y):∃j pos,x=.Tuple y j pos:=by
 unfold Oo at h
 split at h
 .rename_i e;cases h;exact Z2 e
 .cases h
theorem cy{x:Expr}{y:ZC}(h:O0 x=some y):∃pos,x=.List y pos:=by
 unfold O0 at h
 split at h
 .rename_i e;cases h;exact Z2 e
 .cases h
theorem Mi{op:BoolOp}{x x0 y:Expr}{r:ZC}{pos:Pos}(h:Bd op x=some (x0,y,r,pos)):x=.BoolOp op (x0::y::r) pos:=by
 unfold Bd at h
 split at h
 .rename_i e'
  split at h
  .rename_i e;cases h;rw[<-e];exact Z2 e'
  .cases h
 .cases h
theorem Oi{x y:Expr}(h:Oe x=some y):∃pos,x=.UnaryOp .Not y pos:=by
 unfold Oe at h
 split at h
 .rename_i e'
  split at h
  .rename_i e;cases h;rw[<-e];exact Z2 e'
  .cases h
 .cases h
theorem Zz8{x a b c:Expr}(h:Zz9 x=some (c,a,b)):∃pos,x=.IfExp c a b pos:=by
 unfold Zz9 at h
 split at h
 .rename_i e;cases h;exact Z2 e
 .cases h
theorem C0{x:Expr}{f:Str}{xs:ZC}(h:Bm x=some (f,xs)):∃p pos,x=.Call (.Name f p) xs [] pos:=Bo h
theorem cv{x:Expr}{y m:Str}{xs:ZC}(h:Ia x=some (y,m,xs)):∃p ap cp,x=.Call (.Attribute (.Name y p) m ap) xs [] cp/\(ap.endLine == cp.line)=true:=by
 unfold Ia at h
 split at h
 .rename_i e
  split at h
  .rename_i e'
   obtain⟨p,rfl⟩:=Wi e'
   split at h
   .rename_i z;cases h;exact⟨p,_,_,Z2 e,z⟩
   .cases h
  .cases h
 .cases h
theorem O1{x elt t iter:Expr}{ifs:ZC}{scope:Scope}(h:Io x=some (elt,t,iter,ifs,scope)):∃pos,x=.ListComp elt [⟨t,iter,ifs,0⟩] scope pos:=by
 unfold Io at h
 split at h
 .rename_i e;cases h;exact Z2 e
 .cases h
def Zx8:E->Bool
 | .and _ _=>true
 | .or _ _=>true
 | _=>false
def SE(w:W)(e:E):Prop:=∀(X:Cx) (k:Nat) (N:ZD) (sc:Scope) (tp:Bool) (x:Expr),Ctx X w k N sc.names->(tp=true->X.env.scope.names=sc.names)->rep tp N sc e x=true->PE X x (LE X.K X.mg w e)
def ST(w:W)(e:E):Prop:=∀(X:Cx) (k:Nat) (N:ZD) (sc:Scope) (tp:Bool) (x:Expr),Ctx X w k N sc.names->(tp=true->X.env.scope.names=sc.names)->rep tp N sc e x=true->C4 e x=true->PT X x (LB X.K X.mg w e)/\(Zx8 e=true->PW X x (LB X.K X.mg w e))
def SR(w:W)(e:E):Prop:=∀(X:Cx) (k:Nat) (N:ZD) (sc:Scope) (tp m:Bool) (xs:ZC),Ctx X w k N sc.names->(tp=true->X.env.scope.names=sc.names)->V2 tp N sc e xs=true->Hs X w m e xs
def SI(w:W)(e:E):Prop:=∀(X:Cx) (k:Nat) (N:ZD) (sc:Scope) (tp:Bool) (t x:Expr),Ctx X w k N sc.names->(tp=true->X.env.scope.names=sc.names)->Lq tp N sc t e x=true->PI X t x (LI X w e)
section
variable{w:W}
theorem Yc{e:E}(h:SE w e)(ht:∀x,C4 e x=plainT x)(ha:Zx8 e=false):ST w e:=fun X k N sc tp x c ct hr La=>⟨Zxk (h X k N sc tp x c ct hr) (Ts (by rw[<-ht x];exact La)),fun z=>by rw[ha]at z;cases z⟩
theorem Vz{e:E}(h:∀tp N sc xs,V2 tp N sc e xs=false):SR w e:=fun X k N sc tp m xs c ct hr=>by rw[h]at hr;cases hr
theorem Uq{e:E}(h:∀tp N sc t x,Lq tp N sc t e x=false):SI w e:=fun X k N sc tp t x c ct hr=>by rw[h]at hr;cases hr
theorem Hb{e:E}(h:∀tp N sc x,rep tp N sc e x=false):SE w e:=fun X k N sc tp x c ct hr=>by rw[h]at hr;cases hr
theorem Hj{e:E}(h:∀tp N sc x,rep tp N sc e x=false):ST w e:=fun X k N sc tp x c ct hr=>by rw[h]at hr;cases hr
theorem Qh{e:E}(h:SE w e)(hr:∀tp N sc t x,Lq tp N sc t e x=rep tp N sc e x):SI w e:=fun X k N sc tp t x c ct h'=>vh (h X k N sc tp x c ct (by rw[<-hr];exact h'))
theorem se_v(i:Nat):SE w (.v i):=fun X k N sc tp x c ct hr=>by
 replace hr:=(yk _).symm.trans hr
 split at hr
 .rename_i y hy;obtain⟨pos,rfl⟩:=Jz hy;exact snd_v c hr
 .cases hr
theorem Zxf(i:Nat):SE w (.mv i):=fun X k N sc tp x c ct hr=>by
 replace hr:=(ud _).symm.trans hr
 split at hr
 .rename_i y hy;obtain⟨pos,rfl⟩:=Jz hy;exact snd_mv c hr
 .cases hr
theorem se_g(g:Str):SE w (.g g):=fun X k N sc tp x c ct hr=>by
 replace hr:=(rep_gQ _).symm.trans hr
 split at hr
 .rename_i y hy;obtain⟨pos,rfl⟩:=Jz hy;exact snd_g c hr
 .cases hr
theorem se_k(t:T):SE w (.k t):=fun X k N sc tp x c ct hr=>snd_k hr
theorem Ex{es:E}(ih:SR w es):SE w (.tup es):=fun X k N sc tp x c ct hr=>by
 replace hr:=(yf _).symm.trans hr
 split at hr
 .rename_i xs hy
  obtain⟨j,pos,rfl⟩:=cw hy;rw[Y6]at hr;exact pz (ih X k N sc tp false xs c ct hr.2) hr.1
 .cases hr
theorem Ej{es:E}(ih:SR w es):SE w (.lst es):=fun X k N sc tp x c ct hr=>by
 replace hr:=(yb _).symm.trans hr
 split at hr
 .rename_i xs hy
  obtain⟨pos,rfl⟩:=cy hy;rw[Y6]at hr;exact pf (ih X k N sc tp false xs c ct hr.2) hr.1
 .cases hr
theorem v8{q:Pr}{es:E}(ih:SR w es):SE w (.pr q es):=fun X k N sc tp x c ct hr=>by
 replace hr:=(Lz _ _).symm.trans hr
 split at hr
 .rename_i xs hy
  simp only[Y6]at hr;exact ko c hy (ih X k N sc tp true xs c ct hr.2) hr.1.2
 .cases hr
theorem se_and{a b:E}(ha:SE w a)(hb:SE w b):SE w (.and a b):=fun X k N sc tp x c ct hr=>by
 replace hr:=(Qa _ _).symm.trans hr
 split at hr
 .rename_i x0 y r pos hy
  rw[Mi hy];rw[Y6]at hr;obtain⟨h1,h2⟩:=hr;refine snd_and (ha X k N sc tp x0 c ct h1) ?_
  split at h2
  .rename_i hr
   rw[List.isEmpty_iff.mp hr];exact gv (hb X k N sc tp y c ct h2)
  .exact hb X k N sc tp _ c ct h2
 .cases hr
theorem se_or{a b:E}(ha:SE w a)(hb:SE w b):SE w (.or a b):=fun X k N sc tp x c ct hr=>by
 replace hr:=(Hh _ _).symm.trans hr
 split at hr
 .rename_i x0 y r pos hy
  rw[Mi hy];rw[Y6]at hr;obtain⟨h1,h2⟩:=hr;refine snd_or (ha X k N sc tp x0 c ct h1) ?_
  split at h2
  .rename_i hr
   rw[List.isEmpty_iff.mp hr];exact gv (hb X k N sc tp y c ct h2)
  .exact hb X k N sc tp _ c ct h2
 .cases hr
theorem se_not{a:E}(ha:SE w a):SE w (.not a):=fun X k N sc tp x c ct hr=>by
 replace hr:=(Qu _).symm.trans hr
 split at hr
 .rename_i y hy
  obtain⟨pos,rfl⟩:=Oi hy;exact pk (ha X k N sc tp y c ct hr)
 .cases hr
theorem v9{a b d:E}(hd:ST w d)(ha:SE w a)(hb:SE w b):SE w (.ite d a b):=fun X k N sc tp x c ct hr=>by
 replace hr:=(ym _ _ _).symm.trans hr
 split at hr
 .rename_i z x0 y hy
  obtain⟨pos,rfl⟩:=Zz8 hy;simp only[Y6]at hr;obtain⟨⟨⟨h1,h2⟩,h3⟩,h4⟩:=hr;exact ph (hd X k N sc tp z c ct h1 h2).1 (ha X k N sc tp x0 c ct h3) (hb X k N sc tp y c ct h4)
 .cases hr
theorem W7{f:Str}{es:E}(ih:SR w es):SE w (.call f es):=fun X k N sc tp x c ct hr=>by
 replace hr:=(Xh _ _).symm.trans hr
 split at hr
 .rename_i g xs hy
  obtain⟨p,pos,rfl⟩:=C0 hy;simp only[Y6,beq_iff_eq]at hr;obtain⟨⟨⟨rfl,h2⟩,h3⟩,h4⟩:=hr;cases xs with
  | nil=>cases h3
  | cons y ys=>exact va c (ih X k N sc tp false _ c ct h4) h2
 .cases hr
theorem yx{i:Nat}{es:E}(ih:SR w es):SE w (.cal i es):=fun X k N sc tp x c ct hr=>by
 replace hr:=(yc _ _).symm.trans hr
 split at hr
 .rename_i g xs hy
  obtain⟨p,pos,rfl⟩:=C0 hy;simp only[Y6]at hr;obtain⟨⟨⟨h1,h2⟩,h3⟩,h4⟩:=hr;cases xs with
  | nil=>cases h2
  | cons y ys=>exact pe c (ih X k N sc tp false _ c ct h4) h1
 .cases hr
theorem se_tmp{a:E}(ha:SE w a):SE w (.tmp a):=fun X k N sc tp x c ct hr=>pq (ha X k N sc tp x c ct hr)
theorem sj{a r:E}(ha:SE w a)(nh:SR w r):SR w (.cons a r):=fun X k N sc tp m xs c ct hr=>by
 cases xs with
 | nil=>cases(show false=true from hr)
 | cons x xs =>
  replace hr:=(Ey _ _).symm.trans hr
  simp only[Y6]at hr;obtain⟨⟨h1,h2⟩,h3⟩:=hr;refine .cons ?_ h1 (nh X k N sc tp m xs c ct h3)
  split at h2
  .rename_i i
   split at h2
   .rename_i y hy
    obtain⟨pos,rfl⟩:=Jz hy;intro XB s Z H Q I ⟨F,G,p,a',p',rel,e,kq⟩;unfold Pn at e;dsimp only at e
    split at e
    .rename_i hd
     cases e;unfold done at hd
     split at hd
     .rename_i t q
      obtain⟨v,h1,h2⟩:=rel.fz i t q;exact c.var ‹_› XB s Z H Q I ⟨v,h1,kq F H v (Le.refl F) (Up.refl H) rel h1⟩
     .rename_i t q
      obtain⟨a,h1,_⟩:=rel.ow i t q;exact c.var ‹_› XB s Z H Q I ⟨_,h1,kq F H _ (Le.refl F) (Up.refl H) rel h1⟩
     .cases hd
    .cases e
   .cases h2
  .rename_i n1
   by_cases hv:∃i,a=.v i
   .obtain⟨i,rfl⟩:=hv
    replace h2:=(yk _).symm.trans h2
    split at h2
    .rename_i y hy;obtain⟨pos,rfl⟩:=Jz hy;exact snd_hv c h2
    .cases h2
   .exact snd_hd (fun i z=>n1 i z) (fun i z=>hv ⟨i,z⟩) (ha X k N sc tp x c ct h2)
theorem Zxu{X:Cx}{e:E}{Z:L2.St}{H:Hp}{R:Bool->Hp->Prop}(h:LB X.K X.mg w e Z H R):LE X.K X.mg w e Z H fun v H'=>We R v H':=by
 obtain⟨F,G,p,r,p',rel,e,kq⟩:=Zxp h;exact⟨F,G,p,r,p',rel,e,fun F' H' v l u Z7 rs=>let ⟨b,e1,h1⟩:=kq F' H' v l u Z7 rs;⟨b,e1,h1⟩⟩
end
section
variable{X:Cx}{w:W}{k:Nat}{N:ZD}{sc:ZK}
theorem cm_rd(c:Ctx X w k N sc){a b:E}{cm:Cm}{Z:L2.St}{H:Hp}{Q:VK}(h:LE X.K X.mg w (.pr (.cm cm) (.cons a (.cons b .nil))) Z H Q):tOp (rO X (compareOp (G9 cm))) (LH X.K X.mg w true a) (LH X.K X.mg w true b) Z H Q:=by
 obtain⟨F,G,p,r,p',rel,e,kq⟩:=h;obtain⟨as,ts,e1,e2,e3⟩:=Iv e;refine R4 e1 e2 rel fun F2 H2 x y t1 t2 et l u Zh s1 s2=>?_;subst et;obtain⟨b,e4,rfl⟩:=Z8.mp e3;exact fun XB s σ' v u' I rx ry=>Nh _ I Zh.b.f c.un rx ry s1 s2 e4 (kq F2 H2 _ l u Zh rfl)
theorem c2_rd(c:Ctx X w k N sc){a b d:E}{cm cm':Cm}{Z:L2.St}{H:Hp}{Q:VK}(h3:quiet (.c2 cm cm') (.cons a (.cons b (.cons d .nil)))=true)(h:LE X.K X.mg w (.pr (.c2 cm cm') (.cons a (.cons b (.cons d .nil)))) Z H Q) :
  S4 (rO X (compareOp (G9 cm))) (rO X (compareOp (G9 cm'))) (LH X.K X.mg w true a) (LH X.K X.mg w true b) (LH X.K X.mg w true d) Z H Q:=by
 obtain⟨F,G,p,r,p',rel,e,kq⟩:=h;obtain⟨as,ts,e1,e2,e3⟩:=Iv e;obtain⟨a',p1,as1,q1,q2,rfl⟩:=Zu e1;obtain⟨b',p2,as2,q3,q4,rfl⟩:=Zu q2;obtain⟨c',p3,as3,q5,q6,rfl⟩:=Zu q4;obtain⟨rfl,rfl⟩:=Vj q6;obtain⟨t1,r1,l1,l2,rfl⟩:=Zt e2;obtain⟨t2,r2,l3,l4,rfl⟩:=Zt l2;obtain⟨t3,r3,l5,l6,rfl⟩:=Zt l4;cases l6;have ep:=Nu _ h3 q4;subst ep;obtain⟨b1,c1,e3⟩:=ZO.mp e3;refine⟨F,G,p,a',p1,rel,q1,fun F1 H1 x zp u1 um Je=>⟨F1,G,p1,b',_,um,q3,fun F2 H2 y Sw u2 Qp C1=>?_⟩⟩;have s1:=Qp.look l1 (Ar.up u2 Sw Je);have s2:=Qp.look l3 C1;refine fun XB s σ' v u' I rx ry=>Nh _ I Qp.b.f c.un rx ry s1 s2 c1 ⟨b1,rfl, ?_⟩;cases b1 with
 | false=>cases e3;exact kq F2 H2 _ (zp.trans Sw) (u1.trans u2) Qp rfl
 | true =>
  obtain⟨b2,c2,rfl⟩:=Z8.mp e3;refine⟨F2,G,_,c',_,Qp,q5,fun F3 H3 z ir u3 Hl ar3=>?_⟩;exact fun XB s σ' v u' I rx ry=>Nh _ I Hl.b.f c.un rx ry (Hl.look l3 (Ar.up u3 ir C1)) (Hl.look l5 ar3) c2 (kq F3 H3 _ ((zp.trans Sw).trans ir) ((u1.trans u2).trans u3) Hl rfl)
end
theorem la{sc:ZK}{c:Cm}{x:Expr}{xs:ZC}(h:view sc (.cm c) x=some xs):∃a b pos,x=.Compare a [G9 c] [b] pos/\behindInMarks (G9 c) b=false/\xs=[a,b]:=by
 replace h:=wk (show vCm c x=some xs from h)
 obtain⟨a,op,b,p,rfl,h⟩:=h
 split at h
 .rename_i ho
  obtain⟨rfl,hm⟩:=ho;cases h;exact⟨_,_,_,rfl,hm,rfl⟩
 .cases h
theorem l7{sc:ZK}{c d:Cm}{x:Expr}{xs:ZC}(h:view sc (.c2 c d) x=some xs):∃a b e pos,x=.Compare a [G9 c,G9 d] [b,e] pos/\lastMarks [G9 c,G9 d] [b,e]=false/\xs=[a,b,e]:=by
 replace h:=wg (show vC2 c d x=some xs from h)
 obtain⟨a,op,Sx,b,e0,p,rfl,h⟩:=h
 split at h
 .rename_i ho
  obtain⟨rfl,rfl,hm⟩:=ho;cases h;exact⟨_,_,_,_,rfl,hm,rfl⟩
 .cases h
section
variable{w:W}
theorem st_pr{q:Pr}{es:E}(ih:SR w es):ST w (.pr q es):=fun X k N sc tp x c ct hr ht=>by
 refine⟨?_,fun z=>by cases z⟩;have hse:=v8 (q:=q) ih X k N sc tp x c ct hr;cases q with
 | cm cm =>
  replace hr:=(Lz _ _).symm.trans hr
  split at hr
  .rename_i xs hy
   simp only[Y6]at hr;obtain⟨a,b,pos,rfl,hm,rfl⟩:=la hy;have hs:=ih X k N sc tp true _ c ct hr.2;cases hs with | cons ha _ t=>cases t with | cons hb _ t=>cases t with | nil =>
   exact fun XB s Z H Q I h=>u9 opr ha hb hm XB s Z H Q I (cm_rd c (Zxu h))
  .cases hr
 | c2 cm cm' =>
  replace hr:=(Lz _ _).symm.trans hr
  split at hr
  .rename_i xs hy
   simp only[Y6]at hr;obtain⟨a,b,d,pos,rfl,hm,rfl⟩:=l7 hy;have hs:=ih X k N sc tp true _ c ct hr.2;cases hs with | cons ha _ t=>cases t with | cons hb _ t=>cases t with | cons hc _ t=>cases t with | nil =>
   exact fun XB s Z H Q I h=>kj opr opr ha hb hc hm XB s Z H Q I (c2_rd c hr.1.2 (Zxu h))
  .cases hr
 | _=>exact Zxk hse (Ts ht)
theorem st_and{a b:E}(ha:ST w a)(hb:ST w b):ST w (.and a b):=fun X k N sc tp x c ct hr ht=>by
 have main:PW X x (LB X.K X.mg w (.and a b)):=by
  replace hr:=(Qa _ _).symm.trans hr
  unfold C4 at ht
  split at hr
  .rename_i x0 y r pos hy
   rw[hy]at ht;rw[Mi hy];simp only[Y6]at hr ht;obtain⟨h1,h2⟩:=hr;obtain⟨t1,t2⟩:=ht;refine sg (ha X k N sc tp x0 c ct h1 t1).1 ?_;by_cases hr:r.isEmpty=true
   .rw[if_pos hr]at h2 t2;rw[List.isEmpty_iff.mp hr];exact pw_and1 (hb X k N sc tp y c ct h2 t2).1
   .rw[if_neg hr]at h2 t2;rw[Y6]at t2;exact(hb X k N sc tp _ c ct h2 t2.1).2 (by cases b<;>first | rfl | cases t2.2)
  .cases hr
 exact⟨main.pt,fun _=>main⟩
theorem st_or{a b:E}(ha:ST w a)(hb:ST w b):ST w (.or a b):=fun X k N sc tp x c ct hr ht=>by
 have main:PW X x (LB X.K X.mg w (.or a b)):=by
  replace hr:=(Hh _ _).symm.trans hr
  unfold C4 at ht
  split at hr
  .rename_i x0 y r pos hy
   rw[hy]at ht;rw[Mi hy];simp only[Y6]at hr ht;obtain⟨h1,h2⟩:=hr;obtain⟨t1,t2⟩:=ht;refine snt_or (ha X k N sc tp x0 c ct h1 t1).1 ?_;by_cases hr:r.isEmpty=true
   .rw[if_pos hr]at h2 t2;rw[List.isEmpty_iff.mp hr];exact pw_or1 (hb X k N sc tp y c ct h2 t2).1
   .rw[if_neg hr]at h2 t2;rw[Y6]at t2;exact(hb X k N sc tp _ c ct h2 t2.1).2 (by cases b<;>first | rfl | cases t2.2)
  .cases hr
 exact⟨main.pt,fun _=>main⟩
theorem st_not{a:E}(ha:ST w a):ST w (.not a):=fun X k N sc tp x c ct hr ht=>by
 refine⟨?_,fun z=>by cases z⟩
 replace hr:=(Qu _).symm.trans hr
 unfold C4 at ht
 split at hr
 .rename_i y hy
  rw[hy]at ht;obtain⟨pos,rfl⟩:=Oi hy;exact sk (ha X k N sc tp y c ct hr ht).1
 .cases hr
theorem st_tmp{a:E}(ha:ST w a):ST w (.tmp a):=fun X k N sc tp x c ct hr ht=>by
 refine⟨?_,fun z=>by cases z⟩;exact sy (ha X k N sc tp x c ct hr ht).1
theorem Zxb{m:Mt}{i:Nat}{es:E}(ih:SR w es):SE w (.mt m i es):=fun X k N sc tp x c ct hr=>by
 replace hr:=(uc _ _ _).symm.trans hr
 split at hr
 .rename_i y n xs hy
  obtain⟨p0,ap,cp,rfl,Gy⟩:=cv hy;simp only[Y6,beq_iff_eq]at hr;obtain⟨⟨⟨⟨rfl,h2⟩,h3⟩,h4⟩,h5⟩:=hr;have hs:=ih X k N sc tp false xs c ct h4;have C5:=hs.star;intro XB s Z H Q I ⟨F,G,p,r,p',rel,e,kq⟩
  replace e:=(ev_mtQ _ _ _).symm.trans e
  split at e
  .rename_i ho
   obtain⟨a,e1,e⟩:=ZO.mp e;obtain⟨ts,e2,e⟩:=ZO.mp e
   split at e
   .rename_i t et
    obtain⟨⟨t',z⟩,e3,e⟩:=Z8.mp e;cases e;have nt:=T4 es hs e1 h3
    obtain⟨b,ts0,hp⟩:∃b:Addr,∃ts0,p[i]?=some (Sl.o (.lst ts0))/\Z[i]?=some (some (V.ref b)):=by
     unfold zq at ho
     split at ho
     .rename_i l q
      obtain⟨b,h1,_⟩:=rel.ow i _ q;exact⟨b,l,q,h1⟩
     .cases ho
    obtain⟨hp,hb⟩:=hp;obtain⟨b',k1,_,_,vs0,k4,_⟩:=rel.ow i _ hp;rw[hb]at k1;cases k1
    have fin:∀{F1 H1:Hp} {vs:ZQ},Le F F1->Up X.K H H1->Rel X.K X.mg F1 G a.2 Z H1->Zx X.K X.mg H1 F1 ts vs->rM X (mtI m) (.ref b) vs H1 Q:=fun {F1 H1 vs} l1 u1 Zl at'=>fun XB s σ' v us I rx rs=>by
     cases rx;exact mt_run I Zl et hb rs at' e3 fun F2 H2 v l2 u2=>kq F2 H2 v (l1.trans l2) (u1.trans u2)
    have lA:LA X.K X.mg w false es Z H fun vs H1=>rM X (mtI m) (.ref b) vs H1 Q:=⟨F,G,p,a.1,a.2,rel,e1,fun F1 H1 vs l1 u1 Zl ar=>fin l1 u1 Zl (Me nt e2 ar)⟩;have ty:tyV X.K "list" (.ref b) H:=.inl ⟨rfl,vs0,.inl (.inl k4)⟩;have Gk:attributeBase (.Name y p0) (mtN m) X.env (eval (.Name y p0) X.env)=eval (.Name y p0) X.env:=rfl;cases xs with
    | nil =>
     cases hs;obtain⟨q1,q2⟩:=Vj e1;cases m<;>first | cases h5 | skip
     rw[q1]at e2;cases e2;rw[q2]at fin;exact pe_bm0 PySem.F.plainAttrs_list PySem.F.slot_list_pop PySem.F.type_list_pop mtr (c.var h2) Gk Gy XB s Z H Q I ⟨_,hb,ty,fin (Le.refl _) (Up.refl _) rel rfl⟩
    | cons x xr =>
     have hl:(x::xr).length<30:=by
      cases m<;>first | cases h5 | exact Rh (B0z.mp h5).2
     have st:=Z4 (es:=xr) (env:=X.env) (C5 _ Y5);have sa:=Y1 xr X.env cp fun e m=>C5 e (Y7 _ m);have fw:=L1 (env:=X.env) (cpos:=cp) C5 hl;cases m with
     | append=>exact Q4 PySem.F.plainAttrs_list PySem.F.slot_list_append PySem.F.type_list_append mtr (c.var h2) hs.pa Gk fw Gy st sa XB s Z H Q I ⟨_,hb,ty,lA⟩
     | extend=>exact Q4 PySem.F.plainAttrs_list PySem.F.slot_list_extend PySem.F.type_list_extend mtr (c.var h2) hs.pa Gk fw Gy st sa XB s Z H Q I ⟨_,hb,ty,lA⟩
     | insert=>exact Q4 PySem.F.plainAttrs_list PySem.F.slot_list_insert PySem.F.type_list_insert mtr (c.var h2) hs.pa Gk fw Gy st sa XB s Z H Q I ⟨_,hb,ty,lA⟩
     | popAt=>exact Q4 PySem.F.plainAttrs_list PySem.F.slot_list_pop PySem.F.type_list_pop mtr (c.var h2) hs.pa Gk fw Gy st sa XB s Z H Q I ⟨_,hb,ty,lA⟩
     | pop=>cases h5
   .cases e
  .cases e
 .cases hr
theorem si_itr{q:Ik}{es:E}(ih:SR w es):SI w (.itr q es):=fun X k N sc tp t x c ct hr=>by
 replace hr:=(X0 _ _).symm.trans hr
 split at hr
 .rename_i f xs hy
  obtain⟨p,pos,rfl⟩:=C0 hy;simp only[Y6]at hr;obtain⟨⟨⟨⟨⟨h1,h2⟩,h3⟩,h4⟩,h5⟩,h6⟩:=hr;exact pd c (ih X k N sc tp false xs c ct h6) h5 (by simp only[Y6];exact⟨⟨h1,h2⟩,h3⟩) (Rh h4)
 .cases hr
theorem Ctx.comp{X:Cx}{k:Nat}{N ns:ZD}{sc:ZK}(c:Ctx X w k N sc){scope outer:Scope}(s1:Ew outer scope=true)(nd:ns.Nodup)(fp:ZU)(s:Shared)(H:Hp):Ctx (Z0 X scope ns fp s H) w k ns scope.names:=by
 refine⟨rfl,nd,fun x kd e=>?_,c.calm,c.room,c.bn,c.fn,c.gl,rfl,fun x e=>?_⟩
 .have e2:(relabel scope X.env).names.lookup x=some (if (kd == NameKind.free && X.env.scope.kind == .function && X.env.kindOf x == some .cell)=true then NameKind.cell else kd):=by
   rw[Dy,Vd (f:=fun n k=>if (k == NameKind.free && X.env.scope.kind == .function && X.env.kindOf n == some .cell)=true then NameKind.cell else k),e]
   rfl
  show (relabel scope X.env).names.lookup x=some kd\/(kd=NameKind.free/\(relabel scope X.env).names.lookup x=some NameKind.cell);rw[e2]
  split
  .rename_i h
   simp only[Y6,beq_iff_eq]at h;exact .inr ⟨h.1.1,rfl⟩
  .exact .inl rfl
 .have h1:=s1;unfold Ew at h1;simp only[Y6,decide_eq_true_eq,K0,Bool.or_eq_true]at h1;exact absurd rfl (h1.2 (x,.cell) (PySem.mem_of_lookup e)).1.1
theorem Hm{tg it cd el:E}{fr:ZG}{ns:ZD}(hit:SI w it)(Pp:ST w cd)(hel:SE w el):SE w (.comp tg it cd el fr ns):=fun X k N sc tp x c ct hr=>by
 replace hr:=(R3 _ _ _ _ _ _).symm.trans hr
 split at hr
 .rename_i elt t iter ifs scope hy
  obtain⟨pos,rfl⟩:=O1 hy;simp only[Y6]at hr;obtain⟨⟨⟨⟨⟨⟨⟨⟨⟨h1,h2⟩,h3⟩,h4⟩,h5⟩,h6⟩,h7⟩,h8⟩,h9⟩,h10⟩:=hr;have nd:ns.Nodup:=Rh h5;have cc:=fun fp s H=>c.comp (outer:=sc) h3 nd fp s H;refine vp c (ct h1) rfl (hit X k N sc tp t iter c ct h2) h3 h4 nd (fun i m=>?_) (fun fp s H=>Tf (cc fp s H) tg h8) (fun fp s H=>?_) (fun fp s H=>hel _ k ns scope false elt (cc fp s H) (fun z=>by cases z) h10) (Gw h7)
  .unfold rm at h6;rw[K0]at h6;exact eq_of_beq (h6 i m)
  .unfold LT;by_cases hn:isNil cd=true
   .rw[if_pos hn]at h9 ⊢;rw[List.isEmpty_iff.mp h9];exact Aj
   .rw[if_neg hn]at h9 ⊢
    split at h9
    .rw[Y6]at h9;exact Aq (Pp _ k ns scope false _ (cc fp s H) (fun z=>by cases z) h9.1 h9.2).1
    .cases h9
 .cases hr
theorem sr_nil:SR w .nil:=fun X k N sc tp m xs c ct hr=>by
 cases xs with
 | nil=>exact .nil
 | cons _ _=>cases(show false=true from hr)
theorem Jw:∀e:E,SE w e/\ST w e/\SR w e/\SI w e:=by
 intro e
 induction e with
 | v i=>exact⟨se_v i,Yc (se_v i) (fun _=>rfl) rfl,Vz fun tp N sc xs=>rfl,Qh (se_v i) fun tp N sc t x=>rfl⟩
 | mv i=>exact⟨Zxf i,Yc (Zxf i) (fun _=>rfl) rfl,Vz fun tp N sc xs=>rfl,Uq fun tp N sc t x=>rfl⟩
 | io i=>exact⟨Hb fun tp N sc x=>rfl,Hj fun tp N sc x=>rfl,Vz fun tp N sc xs=>rfl,Uq fun tp N sc t x=>rfl⟩
 | k t=>exact⟨se_k t,Yc (se_k t) (fun _=>rfl) rfl,Vz fun tp N sc xs=>rfl,Uq fun tp N sc t x=>rfl⟩
 | g x=>exact⟨se_g x,Yc (se_g x) (fun _=>rfl) rfl,Vz fun tp N sc xs=>rfl,Uq fun tp N sc t x=>rfl⟩
 | nil=>exact⟨Hb fun tp N sc x=>rfl,Hj fun tp N sc x=>rfl,sr_nil,Uq fun tp N sc t x=>rfl⟩
 | cons a r ha hr=>exact⟨Hb fun tp N sc x=>rfl,Hj fun tp N sc x=>rfl,sj ha.1 hr.2.2.1,Uq fun tp N sc t x=>rfl⟩
 | tup es ih=>exact⟨Ex ih.2.2.1,Yc (Ex ih.2.2.1) (fun _=>rfl) rfl,Vz fun tp N sc xs=>rfl,Qh (Ex ih.2.2.1) fun tp N sc t x=>rfl⟩
 | lst es ih=>exact⟨Ej ih.2.2.1,Yc (Ej ih.2.2.1) (fun _=>rfl) rfl,Vz fun tp N sc xs=>rfl,Qh (Ej ih.2.2.1) fun tp N sc t x=>rfl⟩
 | pr q es ih=>exact⟨v8 ih.2.2.1,st_pr ih.2.2.1,Vz fun tp N sc xs=>rfl,Qh (v8 ih.2.2.1) fun tp N sc t x=>rfl⟩
 | and a b ha hb=>exact⟨se_and ha.1 hb.1,st_and ha.2.1 hb.2.1,Vz fun tp N sc xs=>rfl,Uq fun tp N sc t x=>rfl⟩
 | or a b ha hb=>exact⟨se_or ha.1 hb.1,st_or ha.2.1 hb.2.1,Vz fun tp N sc xs=>rfl,Uq fun tp N sc t x=>rfl⟩
 | not a ha=>exact⟨se_not ha.1,st_not ha.2.1,Vz fun tp N sc xs=>rfl,Uq fun tp N sc t x=>rfl⟩
 | ite d a b hd ha hb=>exact⟨v9 hd.2.1 ha.1 hb.1,Yc (v9 hd.2.1 ha.1 hb.1) (fun _=>rfl) rfl,Vz fun tp N sc xs=>rfl,Uq fun tp N sc t x=>rfl⟩
 | call f es ih=>exact⟨W7 ih.2.2.1,Yc (W7 ih.2.2.1) (fun _=>rfl) rfl,Vz fun tp N sc xs=>rfl,Qh (W7 ih.2.2.1) fun tp N sc t x=>rfl⟩
 | cal i es ih=>exact⟨yx ih.2.2.1,Yc (yx ih.2.2.1) (fun _=>rfl) rfl,Vz fun tp N sc xs=>rfl,Uq fun tp N sc t x=>rfl⟩
 | mt m i es ih=>exact⟨Zxb ih.2.2.1,Yc (Zxb ih.2.2.1) (fun _=>rfl) rfl,Vz fun tp N sc xs=>rfl,Uq fun tp N sc t x=>rfl⟩
 | comp tg it cd el fr ns htg hit Pp hel=>exact⟨Hm hit.2.2.2 Pp.2.1 hel.1,Yc (Hm hit.2.2.2 Pp.2.1 hel.1) (fun _=>rfl) rfl,Vz fun tp N sc xs=>rfl,Uq fun tp N sc t x=>rfl⟩
 | itr q es ih=>exact⟨Hb fun tp N sc x=>rfl,Hj fun tp N sc x=>rfl,Vz fun tp N sc xs=>rfl,si_itr ih.2.2.1⟩
 | tmp a ha=>exact⟨se_tmp ha.1,st_tmp ha.2.1,Vz fun tp N sc xs=>rfl,Uq fun tp N sc t x=>rfl⟩
end
def Kp(pt:Nat->Bool)(Z σ':L2.St):Prop:=σ'.length=Z.length/\∀i,pt i=true->σ'[i]?=Z[i]?
theorem Kp.refl(pt:Nat->Bool)(Z:L2.St):Kp pt Z Z:=⟨rfl,fun _ _=>rfl⟩
theorem Kp.trans{pt:Nat->Bool}{Z σ1 σ2:L2.St}(a:Kp pt Z σ1)(b:Kp pt σ1 σ2):Kp pt Z σ2:=⟨b.1.trans a.1,fun i h=>(b.2 i h).trans (a.2 i h)⟩
def Fo(K:W.Frag)(mg:ZV)(D:Ends)(F G:Hp)(p:P)(Z:L2.St)(H:Hp):Fl->Prop
 | .nx=>D.nx Z H
 | .bk=>D.bk Z H
 | .ct=>D.ct Z H
 | .rt r=>∀v,Res K mg F G p Z H r v->D.rt v H
inductive LS_I(K:PySem.W.Frag)(mg:ZV)(w:W)(pt:Nat->Bool)(s:S)(D:Ends)(Z:L2.St)(H:Hp):Prop
 | mk(F G p fl p')(Yh:Rel K mg F G p Z H)(Ys:ex w pt s p=some (fl,p'))(Vt:∀F' H' σ',Le F F'->Up K H H'->Rel K mg F' G p' σ' H'->Kp pt Z σ'->Fo K mg D F' G p' σ' H' fl):LS_I K mg w pt s D Z H
def LS(K:PySem.W.Frag)(mg:ZV)(w:W)(pt:Nat->Bool)(s:S):TS:=fun D Z H=>LS_I K mg w pt s D Z H
section
variable{X:Cx}{w:W}{k:Nat}{N:ZD}{sc:ZK}{pt:Nat->Bool}
theorem sh:Rr X [] (LS X.K X.mg w pt .nil):=fun XB s Z H D I ⟨F,G,p,fl,p',rel,e,kq⟩=>by
 cases e;exact az XB s Z H D I (kq F H Z (Le.refl F) (Up.refl H) rel (Kp.refl pt Z))
theorem vn{a r:S}{st:Stmt}{rest:List Stmt}(ha:PS X st (LS X.K X.mg w pt a))(hr:Rr X rest (LS X.K X.mg w pt r)):Rr X (st::rest) (LS X.K X.mg w pt (.seq a r)):=fun XB s Z H D I ⟨F,G,p,fl,p',rel,e,kq⟩=>by
 replace e:=(Zzg _ _).symm.trans e
 obtain⟨⟨f,q⟩,e1,e2⟩:=ZO.mp e;refine kg ha hr XB s Z H D I ⟨F,G,p,f,q,rel,e1,fun F1 H1 σ1 l1 u1 Zl k1=>?_⟩;cases f with
 | nx=>exact⟨F1,G,q,fl,p',Zl,e2,fun F2 H2 σ2 l2 u2 Zh k2=>kq F2 H2 σ2 (l1.trans l2) (u1.trans u2) Zh (k1.trans k2)⟩
 | rt t=>cases e2;exact kq F1 H1 σ1 l1 u1 Zl k1
 | bk=>cases e2;exact kq F1 H1 σ1 l1 u1 Zl k1
 | ct=>cases e2;exact kq F1 H1 σ1 l1 u1 Zl k1
theorem sd{a:E}{x:Expr}{pos:Pos}(h:PE X x (LE X.K X.mg w a)):PS X (.Return (some x) pos) (LS X.K X.mg w pt (.ret a)):=fun XB s Z H D I ⟨F,G,p,fl,p',rel,e,kq⟩=>by
 replace e:=(Zzf _).symm.trans e
 obtain⟨⟨r,q⟩,e1,e2⟩:=Z8.mp e;cases e2;exact ps_ret h XB s Z H D I ⟨F,G,p,r,q,rel,e1,fun F1 H1 v l1 u1 Zl rs=>kq F1 H1 Z l1 u1 Zl (Kp.refl pt Z) v rs⟩
theorem vm{pos:Pos}:PS X (.Return none pos) (LS X.K X.mg w pt (.ret (.k .non))):=fun XB s Z H D I ⟨F,G,p,fl,p',rel,e,kq⟩=>by
 cases e;exact ax XB s Z H D I (kq F H Z (Le.refl F) (Up.refl H) rel (Kp.refl pt Z) .non rfl)
noncomputable def Ga:Expr->Bool
 | .ListComp _ _ _ _=>false
 | .SetComp _ _ _ _=>false
 | .DictComp _ _ _ _ _=>false
 | _=>true
theorem Hq{x:Expr}{t:Option Expr}{ln:Nat}{env:Env}(h:Ga x=true):swapsWith x t ln env=pure false:=by
 cases x<;>first | rfl | cases h
def notName:Expr->Bool
 | .Name _ _=>false
 | _=>true
theorem W0{x t:Expr}{ln:Nat}{env:Env}(h:notName t=true):swapsWith x (some t) ln env=pure false:=by
 cases x<;>first | rfl | (cases t<;>first | rfl | cases h)
theorem sns_ex{a:E}{x:Expr}{pos:Pos}(h:PE X x (LE X.K X.mg w a))(hc:Ga x=true):PS X (.Expr x pos) (LS X.K X.mg w pt (.ex a)):=fun XB s Z H D I ⟨F,G,p,fl,p',rel,e,kq⟩=>by
 replace e:=(ex_exQ _).symm.trans e
 obtain⟨⟨r,q⟩,e1,e2⟩:=Z8.mp e;cases e2;exact aj h (Hq hc) XB s Z H D I ⟨F,G,p,r,q,rel,e1,fun F1 H1 v l1 u1 Zl rs=>kq F1 H1 Z l1 u1 Zl (Kp.refl pt Z)⟩
theorem kp_set{i:Nat}{Z:L2.St}{v:Option V}(h:¬ pt i=true):Kp pt Z (Z.set i v):=⟨XY ..,fun j hj=>List.getElem?_set_ne fun z=>h (by rw[z];exact hj)⟩
theorem v5{i:Nat}{a:E}{Z:L2.St}{H:Hp}{D:Ends}(hi:i<Z.length)(h:LS X.K X.mg w pt (.set i a) D Z H):LE X.K X.mg w a Z H fun v H1=>D.nx (Z.set i (some v)) H1:=by
 obtain⟨F,G,p,fl,p',rel,e,kq⟩:=h
 replace e:=(Zzk _ _).symm.trans e
 split at e
 .cases e
 .rename_i hp
  obtain⟨⟨r,q⟩,e1,e2⟩:=Z8.mp e;cases e2;exact⟨F,G,p,r,q,rel,e1,fun F1 H1 v l1 u1 Zl rs=>kq F1 H1 _ l1 u1 (Zl.bind hi rs) (kp_set hp)⟩
theorem Hv(c:Ctx X w k N sc){i:Nat}{a:E}{x:Expr}{y:Str}{pos pos':Pos}(hr:(N[i]? == some y && locs sc y)=true)(h:PE X x (LE X.K X.mg w a))(hc:swapsWith x (some (.Name y pos')) pos.line X.env=pure false):PS X (.Assign [.Name y pos'] x pos) (LS X.K X.mg w pt (.set i a)):=fun XB s Z H D I hs=>by
 rw[Y6,beq_iff_eq]at hr;obtain⟨l1,l2⟩:=c.loc hr.2;have hi:X.N[i]?=some y:=by rw[c.nN];exact hr.1
 exact ps_set (by rw[c.nN];exact c.nd) hi l1 h hc l2 XB s Z H D I (v5 (by rw[I.len];exact(Tz.mp hi).1) hs)
theorem sf(c:Ctx X w k N sc){tg a:E}{x t:Expr}{pos:Pos}(hg:Nq N sc tg t=true)(ht:isTup t=true)(h:PE X x (LE X.K X.mg w a))(hx:isTup x=false):PS X (.Assign [t] x pos) (LS X.K X.mg w pt (.unp tg a)):=fun XB s Z H D I ⟨F,G,p,fl,p',rel,e,kq⟩=>by
 replace e:=(Zzy _ _).symm.trans e
 split at e
 .rename_i hp
  obtain⟨⟨u,q⟩,e1,e⟩:=ZO.mp e;obtain⟨q2,e2,e3⟩:=Z8.mp e;cases e3;obtain⟨r,e4,e5⟩:=Tw e1;obtain⟨ts,j,ps,rfl⟩:=wa ht
  have tn:∀(tg:E) (i:Nat),V0 pt tg=true->i∈Nx tg->pt i=false:=fun tg=>by
   induction tg with
   | v i=>intro j h m;cases M4.mp m;simpa [V0] using h
   | tup es ih=>intro j h m;exact ih j h m
   | cons a r ha hr=>intro j h m;simp only[V0,Y6]at h;rcases Ks.mp m with m | m;exact ha j h.1 m;exact hr j h.2 m
   | _=>intro j h m;exact absurd m Vk
  refine kc h (Tf c tg hg) (show swapsWith x (some (.Tuple ts j ps)) pos.line X.env=pure false from W0 rfl) ?_ rfl XB s Z H D I ⟨F,G,p,r,q,rel,e4,fun F1 H1 v l1 u1 Zl rs=>?_⟩
  .unfold swappedStores;cases x<;>first | rfl | cases hx
  obtain⟨F2,l2,Zh,hv⟩:=Zl.thaw e5 rs;exact⟨F2,G,q,u,_,Zh,hv,e2,fun σ' Z7 k' n'=>kq F2 H1 σ' (l1.trans l2) u1 Z7 ⟨n',fun i hi=>k' i fun m=>by rw[tn tg i hp m]at hi;cases hi⟩⟩
 .cases e
theorem su{c:E}{a b:S}{z:Expr}{x y:List Stmt}{pos:Pos}(hc:PT X z (LB X.K X.mg w c))(ha:Rr X x (LS X.K X.mg w pt a))(hb:Rr X y (LS X.K X.mg w pt b)):PS X (.If z x y pos) (LS X.K X.mg w pt (.ite c a b)):=fun XB s Z H D I ⟨F,G,p,fl,p',rel,e,kq⟩=>by
 replace e:=(Zzm _ _ _).symm.trans e
 obtain⟨⟨d,q⟩,e1,e2⟩:=ZO.mp e;refine ps_if hc ha hb XB s Z H D I ⟨F,G,p,d,q,rel,e1,fun F1 H1 l1 u1 Zl=>?_⟩;cases d with
 | true=>exact i5 (B:=LS X.K X.mg w pt b D Z H1) ⟨F1,G,q,fl,p',Zl,e2,fun F2 H2 σ2 l2 u2=>kq F2 H2 σ2 (l1.trans l2) (u1.trans u2)⟩
 | false=>exact iteF (A:=LS X.K X.mg w pt a D Z H1) ⟨F1,G,q,fl,p',Zl,e2,fun F2 H2 σ2 l2 u2=>kq F2 H2 σ2 (l1.trans l2) (u1.trans u2)⟩
theorem vd{pos:Pos}:PS X (.Pass pos) (LS X.K X.mg w pt .pass):=fun XB s Z H D I ⟨F,G,p,fl,p',rel,e,kq⟩=>by
 cases e;exact aq XB s Z H D I (kq F H Z (Le.refl F) (Up.refl H) rel (Kp.refl pt Z))
theorem so{pos:Pos}:PS X (.Break pos) (LS X.K X.mg w pt .brk):=fun XB s Z H D I ⟨F,G,p,fl,p',rel,e,kq⟩=>by
 cases e;exact km XB s Z H D I (kq F H Z (Le.refl F) (Up.refl H) rel (Kp.refl pt Z))
theorem vc{pos:Pos}:PS X (.Continue pos) (LS X.K X.mg w pt .cont):=fun XB s Z H D I ⟨F,G,p,fl,p',rel,e,kq⟩=>by
 cases e;exact Q0 XB s Z H D I (kq F H Z (Le.refl F) (Up.refl H) rel (Kp.refl pt Z))
end
theorem Kf{o kx:Expr}{pos:Pos}{env:Env}(h:V4 kx=true):∀v,assign (.Subscript o kx pos) env v=(do
   let ov <-holding [v] (eval o env)
   let iv <-holding [v,ov] (eval kx env)
   standAt pos
   holding [v,ov,iv] (setItem ov iv v)
   release [v,ov,iv] []):=by
 intro v;cases kx<;>first | rfl | cases h
section
variable{X:Cx}{w:W}{k:Nat}{N:ZD}{sc:ZK}{pt:Nat->Bool}
theorem sr(c:Ctx X w k N sc){i:Nat}{kk a:E}{x kx:Expr}{y:Str}{pos pos' U3:Pos}(hr:U2 N sc i y=true)(h:PE X x (LE X.K X.mg w a))(hk:PE X kx (LE X.K X.mg w kk))(hn:V4 kx=true) :
  PS X (.Assign [.Subscript (.Name y pos') kx U3] x pos) (LS X.K X.mg w pt (.put i kk a)):=fun XB s Z H D I ⟨F,G,p,fl,p',rel,e,kq⟩=>by
 replace e:=(Zzb _ _ _).symm.trans e
 obtain⟨⟨t,q⟩,e1,e⟩:=ZO.mp e;dsimp only at e
 split at e
 .rename_i hd
  obtain⟨⟨kt,q2⟩,e2,e⟩:=ZO.mp e;dsimp only at e
  split at e
  .rename_i z ez
   obtain⟨z',e3,e⟩:=Z8.mp e;cases e;obtain⟨r,e4,e5⟩:=Tw e1;obtain⟨r2,e6,e7⟩:=Tw e2
   have slot:∀{F1 H1:Hp},Rel X.K X.mg F1 G q Z H1->∃v,Z[i]?=some (some v):=fun {F1 H1} Zl=>by
    unfold done at hd
    split at hd
    .rename_i u eu;obtain⟨v,h1,_⟩:=Zl.fz i u eu;exact⟨v,h1⟩
    .rename_i u eu;obtain⟨v,h1,_⟩:=Zl.ow i u eu;exact⟨_,h1⟩
    .cases hd
   unfold putAt at e3
   split at e3
   .obtain⟨j,e8,rfl⟩:=Z8.mp e3;refine kc h (pg_sub (c.var hr) hk set_list (Kf hn)) (show swapsWith x (some (.Subscript (.Name y pos') kx U3)) pos.line X.env=pure false from W0 rfl) ?_ rfl XB s Z H D I ⟨F,G,p,r,q,rel,e4,fun F1 H1 v l1 u1 Zl rs=>?_⟩
    .unfold swappedStores;cases x<;>rfl
    obtain⟨F2,l2,Zh,hv⟩:=Zl.thaw e5 rs;obtain⟨v1,hv1⟩:=slot Zh;refine⟨v1,hv1,F2,G,q,r2,q2,Zh,e6,fun F3 H3 vk l3 u3 Tr rs2=>?_⟩;obtain⟨F4,l4,X2,hvk⟩:=Tr.thaw e7 rs2;obtain⟨b,g1,g2,g3,ys,g4,g5,g6⟩:=X2.ow i _ ez;rw[hv1]at g1;cases g1;cases(show vk=_ from hvk);have hv4:=IsT.up u3 (l3.trans l4) _ _ hv;have u5:Up X.K H3 (upd H3 b (.lst (ys.set j v))):=Si g4;obtain⟨u6,rel6⟩:=X2.mut (o:=.lst (ys.set j v)) (t':=.lst (_root_.List.set _ j t)) ez hv1 ⟨_,Zq,by rw[XY];exact g5,Zx.up u5 (Le.refl _) _ _ (g6.set j hv4)⟩;exact⟨b,ys,_,j,rfl,rfl,g4,by rw[<-g6.length];exact e8,kq F4 _ Z ((l1.trans l2).trans (l3.trans l4)) (u1.trans (u3.trans u6)) rel6 (Kp.refl pt Z)⟩
   .obtain⟨kv,e8,e9⟩:=ZO.mp e3
    split at e9
    .rename_i hz
     cases e9;have hu:X.A.units+1<cLine:=by have:=c.un;omega
     refine aw hu (c.var hr) hk h (W0 rfl) XB s Z H D I ⟨F,G,p,r,q,rel,e4,fun F1 H1 v l1 u1 Zl rs=>?_⟩;obtain⟨F2,l2,Zh,hv⟩:=Zl.thaw e5 rs;obtain⟨v1,hv1⟩:=slot Zh;refine⟨v1,hv1,F2,G,q,r2,q2,Zh,e6,fun F3 H3 vk l3 u3 Tr rs2=>?_⟩;obtain⟨F4,l4,X2,hvk⟩:=Tr.thaw e7 rs2;obtain⟨b,g1,g2,g3,ks,g4,g5,g6⟩:=X2.ow i _ ez;rw[hv1]at g1;cases g1;cases Mg (K:=X.K) (mg:=X.mg) (H:=H3) (F:=F4) e8 (Ez X2.b hvk);have hv4:=IsT.up u3 (l3.trans l4) _ _ hv;have own:F9 X.K X.mg H3 F4 b (.dct _):=⟨ks,g4,g5,g6⟩;have u5:Up X.K H3 (upd H3 b (.dK (putK ks kv v))):=Se own;have lk:=g6.length;have pl:=Uj ks kv v;obtain⟨u6,rel6⟩:=X2.mut (o:=.dK (putK ks kv v)) (t':=.dct (Ya _ kv t)) ez hv1 ⟨_,Zq,by omega,Zd.up u5 (Le.refl _) _ _ (Zd.put hv4 g6)⟩;exact⟨b,_,rfl,Ko.k g4 (by omega),kq F4 _ Z ((l1.trans l2).trans (l3.trans l4)) (u1.trans (u3.trans u6)) rel6 (Kp.refl pt Z)⟩
    .cases e9
   .cases e3
  .cases e
 .cases e
end
theorem tn_of{pt:Nat->Bool}:∀(tg:E) (i:Nat),V0 pt tg=true->i∈Nx tg->pt i=false:=fun tg=>by
 induction tg with
 | v i=>intro j h m;cases M4.mp m;simpa [V0] using h
 | tup es ih=>intro j h m;exact ih j h m
 | cons a r ha hr=>intro j h m;simp only[V0,Y6]at h;rcases Ks.mp m with m | m;exact ha j h.1 m;exact hr j h.2 m
 | _=>intro j h m;exact absurd m Vk
section
variable{X:Cx}{w:W}{k:Nat}{N:ZD}{sc:ZK}{pt:Nat->Bool}
theorem Frz.fo{F F' G H H' F2 H2:Hp}{p2:P}{σ2:L2.St}{D:Ends}{fl:Fl}(z:Frz X F H F' H')(l:Le F' F2)(r:Rel X.K X.mg F2 G p2 σ2 H2)(kq:∀F3 H3,Le F F3->Up X.K H2 H3->Rel X.K X.mg F3 G p2 σ2 H3->Fo X.K X.mg D F3 G p2 σ2 H3 fl):Fo X.K X.mg (bb X D) F2 G p2 σ2 H2 fl:=by
 obtain⟨F3,H3,l3,r3,ml,u3,lr,n1,n2⟩:=z.back l r;have h:=kq F3 H3 l3 u3 r3;cases fl with
 | nx=>exact⟨H3,ml,h⟩
 | bk=>exact⟨H3,ml,h⟩
 | ct=>exact⟨H3,ml,h⟩
 | rt rr =>
  intro v rs;refine⟨H3,ml,h v ?_⟩;cases rr with
  | no=>exact rs
  | f t=>exact IsT.upR u3 lr t v rs
  | o t =>
   obtain⟨a,rfl,g1,g2,g3,g4⟩:=rs;refine⟨a,rfl,n1 a g1,g2, ?_,g4⟩;cases t with
   | lst ts=>obtain⟨vs,k1,k2,k3⟩:=g3;exact⟨vs,(n2 a g1).trans k1,k2,Zx.upR u3 lr _ _ k3⟩
   | dct ts=>obtain⟨vs,k1,k2,k3⟩:=g3;exact⟨vs,(n2 a g1).trans k1,k2,Zd.upR u3 lr _ _ k3⟩
   | _=>exact g3.elim
theorem vt(c:Ctx X w k N sc){tg it:E}{b:S}{t iter:Expr}{body:List Stmt}{pos:Pos}(hi:PI X t iter (LI X w it))(hg:Nq N sc tg t=true)(hb:Rr X body (LS X.K X.mg w pt b))(hs:Ny iter=true):PS X (.For t iter body [] pos) (LS X.K X.mg w pt (.loop tg it b)):=fun XB s Z H D I ⟨F,G,p,fl,p',rel,e,kq⟩=>by
 replace e:=(dc _ _ _).symm.trans e
 split at e
 .rename_i hp
  obtain⟨⟨xs,p1⟩,e1,e2⟩:=ZO.mp e;dsimp only at e2;refine PS.mel (ps_for (by rw[c.xe];exact PassesOwn.never) c.calm hi (Tf c tg hg) hb (Gw hs)) XB s Z H D I ⟨F,G,p,xs,p1,rel,e1,fun F1 H1 F' H' J l u Zl fz zl walk=>?_⟩;obtain⟨Z7,u',lr⟩:=fz.rel Zl
  let Wt:Nat->Nat->L2.St->Hp->Prop:=fun i m σ2 H2=>m=xs.length - i/\i<=xs.length/\∃F2 q,Le F' F2/\Up X.K H' H2/\Rel X.K X.mg F2 G q σ2 H2/\Kp pt Z σ2/\Bq (fun x s=>(asg tg x s).bind fun s1=>ex w pt b s1) (xs.drop i) q=some (fl,p')
  refine⟨Wt,⟨xs.length,rfl,Ju _,F',p1,Le.refl _,Up.refl _,Z7,Kp.refl pt Z,e2⟩, ?_⟩;rintro i m σ2 H2 ⟨rfl,hi',F2,q,l2,u2,r2,kp,e3⟩;obtain⟨wk1,wk2⟩:=walk i F2 H2 l2 u2 r2.b.f;by_cases ql:i<xs.length
  .have et:xs[i]?=some xs[i]:=Ui ql;rw[List.drop_eq_getElem_cons ql]at e3;unfold Bq at e3;obtain⟨⟨f,q1⟩,e4,e5⟩:=ZO.mp e3;obtain⟨s3,e6,e7⟩:=ZO.mp (show (asg tg xs[i] q).bind _=some (f,q1) from e4);obtain⟨g1,g2⟩:=wk1 _ et;refine .inr ⟨g1,fun σ' H'=>Wt (i+1) (xs.length - (i+1)) σ' H',fun σ' H' h=>⟨_,by omega,h⟩,fun x H3 yd=>?_⟩;obtain⟨sm,ix⟩:=g2 x H3 yd;refine⟨F2,G,q,xs[i],s3,r2.same sm,ix,e6,fun σ3 r3 k3 n3=>?_⟩;have kp3:Kp pt σ2 σ3:=⟨n3,fun j hj=>k3 j fun m=>by rw[tn_of tg j hp m]at hj;cases hj⟩;refine⟨F2,G,s3,f,q1,r3,e7,fun F4 H4 σ4 l4 u4 r4 k4=>?_⟩;have kk:=kp.trans (kp3.trans k4);have uu:=u2.trans (sm.up.trans u4)
   have out:∀{fl':Fl},fl=fl'->q1=p'->Fo X.K X.mg (bb X D) F4 G q1 σ4 H4 fl':=fun {fl'} ef ep=>by
    subst ef ep;exact fz.fo (l2.trans l4) r4 fun F5 H5 l5 u5 r5=>kq F5 H5 σ4 (l.trans l5) (u.trans (u'.trans (uu.trans u5))) r5 kk
   cases f with
   | nx=>exact⟨rfl,ql,F4,q1,l2.trans l4,uu,r4,kk,e5⟩
   | ct=>exact⟨rfl,ql,F4,q1,l2.trans l4,uu,r4,kk,e5⟩
   | bk=>cases e5;exact out rfl rfl
   | rt r=>cases e5;exact out rfl rfl
  .have ei:i=xs.length:=by omega
   subst ei;rw[List.drop_length]at e3;cases e3;exact .inl ⟨wk2 rfl,fz.fo (fl:=.nx) l2 r2 fun F5 H5 l5 u5 r5=>kq F5 H5 σ2 (l.trans l5) (u.trans (u'.trans (u2.trans u5))) r5 kp⟩
 .cases e
theorem sns_wh(c:Ctx X w k N sc){cd:E}{b:S}{z:Expr}{body:List Stmt}{pos:Pos}(hc:PT X z (LB X.K X.mg w cd))(hb:Rr X body (LS X.K X.mg w pt b)):PS X (.While z body [] pos) (LS X.K X.mg w pt (.wh cd b)):=fun XB s Z H D I ⟨F,G,p,fl,p',rel,e,kq⟩=>by
 replace e:=(ex_whQ _ _).symm.trans e
 refine kb (by rw[c.xe];exact PassesOwn.never) hc hb XB s Z H D I ?_
 let Wt:Nat->L2.St->Hp->Prop:=fun m σ2 H2=>∃F2 q,Le F F2/\Up X.K H H2/\Rel X.K X.mg F2 G q σ2 H2/\Kp pt Z σ2/\Bx (fun s=>J3 (ev w cd s)) (fun s=>ex w pt b s) m q=some (fl,p')
 refine⟨Wt,⟨1000000,F,p,Le.refl _,Up.refl _,rel,Kp.refl pt Z,e⟩, ?_⟩;rintro m σ2 H2 ⟨F2,q,l2,u2,r2,kp,e3⟩;cases m with
 | zero=>cases e3
 | succ m =>
  unfold Bx at e3;obtain⟨⟨d,q1⟩,e4,e5⟩:=ZO.mp e3;refine⟨F2,G,q,d,q1,r2,e4,fun F3 H3 l3 u3 r3=>?_⟩;cases d with
  | false =>
   cases e5;exact iteF (kq F3 H3 σ2 (l2.trans l3) (u2.trans u3) r3 kp)
  | true =>
   obtain⟨⟨f,q2⟩,e6,e7⟩:=ZO.mp (show (ex w pt b q1).bind _=some (fl,p') from e5);refine i5 (B:=D.nx σ2 H3) ⟨fun σ' H'=>Wt m σ' H',fun σ' H' h=>⟨m,Nat.lt_succ_self m,h⟩,F3,G,q1,f,q2,r3,e6,fun F4 H4 σ4 l4 u4 r4 k4=>?_⟩;have kk:=kp.trans k4;have uu:=u2.trans (u3.trans u4);have ll:=l2.trans (l3.trans l4);cases f with
   | nx=>exact⟨F4,q2,ll,uu,r4,kk,e7⟩
   | ct=>exact⟨F4,q2,ll,uu,r4,kk,e7⟩
   | bk=>cases e7;exact kq F4 H4 σ4 ll uu r4 kk
   | rt r=>cases e7;exact kq F4 H4 σ4 ll uu r4 kk
end
def A3:E->Bool
 | .comp _ _ _ _ _ _=>true
 | _=>false
inductive ShS where
 | ret(x:Option Expr) | ex(x:Expr) | asg(t x:Expr) | ite(z:Expr)(a b:List Stmt) | loop(t it:Expr)(b:List Stmt) | wh(z:Expr)(b:List Stmt) | pass | brk | cont | non
noncomputable def shA:ZC->Expr->ShS
 | [],_=>.non
 | t::r,x=>match r with
  | []=>.asg t x
  | _::_=>.non
def shL(t it:Expr)(b:List Stmt):List Stmt->ShS
 | []=>.loop t it b
 | _::_=>.non
def shW(z:Expr)(b:List Stmt):List Stmt->ShS
 | []=>.wh z b
 | _::_=>.non
noncomputable def Be:Stmt->ShS
 | .Return x _=>.ret x
 | .Expr x _=>.ex x
 | .Assign ts x _=>shA ts x
 | .If z a b _=>.ite z a b
 | .For t it b e _=>shL t it b e
 | .While z b e _=>shW z b e
 | .Pass _=>.pass
 | .Break _=>.brk
 | .Continue _=>.cont
 | _=>.non
def ShSI:ShS->Stmt->Prop
 | .ret x,s=>∃p,s=.Return x p
 | .ex x,s=>∃p,s=.Expr x p
 | .asg t x,s=>∃p,s=.Assign [t] x p
 | .ite z a b,s=>∃p,s=.If z a b p
 | .loop t it b,s=>∃p,s=.For t it b [] p
 | .wh z b,s=>∃p,s=.While z b [] p
 | .pass,s=>∃p,s=.Pass p
 | .brk,s=>∃p,s=.Break p
 | .cont,s=>∃p,s=.Continue p
 | .non,_=>True
theorem uw(s:Stmt):ShSI (Be s) s:=by
 cases s
 case Assign ts x p=>cases ts with
  | nil=>trivial
  | cons t r=>cases r with
   | nil=>exact⟨_,rfl⟩
   | cons _ _=>trivial
 case For t it b e p=>cases e with
  | nil=>exact⟨_,rfl⟩
  | cons _ _=>trivial
 case While z b e p=>cases e with
  | nil=>exact⟨_,rfl⟩
  | cons _ _=>trivial
 all_goals first | exact⟨_,rfl⟩ | exact True.intro
theorem V1{s:Stmt}{h:ShS}(e:Be s=h):ShSI h s:=e ▸ uw s
def Ei:E->Bool
 | .k t=>match t with
  | .non=>true
  | _=>false
 | _=>false
theorem z7{a:E}(h:Ei a=true):a=.k .non:=by
 cases a with
 | k t=>cases t with
  | non=>rfl
  | _=>cases h
 | _=>cases h
noncomputable def bz(t:Expr):Option Str:=match Bi t with
 | .name y=>some y
 | _=>none
theorem Al{t:Expr}{y:Str}(h:bz t=some y):∃p,t=.Name y p:=by
 unfold bz at h
 split at h
 .rename_i e
  cases h;exact Z2 e
 .cases h
noncomputable def ug(t:Expr):Option (Str×Expr):=match Bi t with
 | .sub o k=>(bz o).map (·,k)
 | _=>none
theorem uk{t k:Expr}{y:Str}(h:ug t=some (y,k)):∃q p,t=.Subscript (.Name y q) k p:=by
 unfold ug at h
 split at h
 .rename_i e
  obtain⟨p,rfl⟩:=Z2 e;obtain⟨z,e1,e2⟩:=Z8.mp h;cases e2;obtain⟨q,rfl⟩:=Al e1;exact⟨q,p,rfl⟩
 .cases h
mutual
noncomputable def repS(N:ZD)(sc:Scope):S->Stmt->Bool
 | .ret a,st=>match Be st with
  | .ret x=>(match x with
   | some x=>rep true N sc a x
   | none=>Ei a)
  | _=>false
 | .ex a,st=>match Be st with
  | .ex x=>rep true N sc a x && Ga x
  | _=>false
 | .set i a,st=>match Be st with
  | .asg t x=>(match bz t with
   | some y=>N[i]? == some y && locs sc.names y && rep true N sc a x && (Ga x || A3 a)
   | none=>false)
  | _=>false
 | .unp tg a,st=>match Be st with
  | .asg t x=>Nq N sc.names tg t && isTup t && rep true N sc a x && !isTup x
  | _=>false
 | .put i k a,st=>match Be st with
  | .asg t x=>(match ug t with
   | some q=>U2 N sc.names i q.1 && rep true N sc a x && rep true N sc k q.2 && V4 q.2
   | none=>false)
  | _=>false
 | .ite c a b,st=>match Be st with
  | .ite z x y=>rep true N sc c z && C4 c z && J2 N sc a x && J2 N sc b y
  | _=>false
 | .loop tg it b,st=>match Be st with
  | .loop t iter body=>Lq true N sc t it iter && Nq N sc.names tg t && J2 N sc b body && Ny iter
  | _=>false
 | .wh c b,st=>match Be st with
  | .wh z body=>rep true N sc c z && C4 c z && J2 N sc b body
  | _=>false
 | .pass,st=>match Be st with
  | .pass=>true
  | _=>false
 | .brk,st=>match Be st with
  | .brk=>true
  | _=>false
 | .cont,st=>match Be st with
  | .cont=>true
  | _=>false
 | _,_=>false
noncomputable def J2(N:ZD)(sc:Scope):S->List Stmt->Bool
 | .nil,[]=>true
 | .seq a r,st::rest=>repS N sc a st && J2 N sc r rest
 | _,_=>false
end
theorem Xa{N:ZD}{sc:Scope}{st:Stmt}:∀a,repS N sc (.ret a) st=(match Be st with
  | .ret x=>(match x with
   | some x=>rep true N sc a x
   | none=>Ei a)
  | _=>false):=fun _=>rfl
theorem yh{N:ZD}{sc:Scope}{st:Stmt}:∀a,repS N sc (.ex a) st=(match Be st with
  | .ex x=>rep true N sc a x && Ga x
  | _=>false):=fun _=>rfl
theorem Xu{N:ZD}{sc:Scope}{st:Stmt}:∀i a,repS N sc (.set i a) st=(match Be st with
  | .asg t x=>(match bz t with
   | some y=>N[i]? == some y && locs sc.names y && rep true N sc a x && (Ga x || A3 a)
   | none=>false)
  | _=>false):=fun _ _=>rfl
theorem Xp{N:ZD}{sc:Scope}{st:Stmt}:∀tg a,repS N sc (.unp tg a) st=(match Be st with
  | .asg t x=>Nq N sc.names tg t && isTup t && rep true N sc a x && !isTup x
  | _=>false):=fun _ _=>rfl
theorem Xo{N:ZD}{sc:Scope}{st:Stmt}:∀i k a,repS N sc (.put i k a) st=(match Be st with
  | .asg t x=>(match ug t with
   | some q=>U2 N sc.names i q.1 && rep true N sc a x && rep true N sc k q.2 && V4 q.2
   | none=>false)
  | _=>false):=fun _ _ _=>rfl
theorem Xi{N:ZD}{sc:Scope}{st:Stmt}:∀c a b,repS N sc (.ite c a b) st=(match Be st with
  | .ite z x y=>rep true N sc c z && C4 c z && J2 N sc a x && J2 N sc b y
  | _=>false):=fun _ _ _=>rfl
theorem Eg{N:ZD}{sc:Scope}{st:Stmt}:∀tg it b,repS N sc (.loop tg it b) st=(match Be st with
  | .loop t iter body=>Lq true N sc t it iter && Nq N sc.names tg t && J2 N sc b body && Ny iter
  | _=>false):=fun _ _ _=>rfl
theorem yn{N:ZD}{sc:Scope}{st:Stmt}:∀c b,repS N sc (.wh c b) st=(match Be st with
  | .wh z body=>rep true N sc c z && C4 c z && J2 N sc b body
  | _=>false):=fun _ _=>rfl
theorem Ek{N:ZD}{sc:Scope}{st:Stmt}:repS N sc (.pass ) st=(match Be st with
  | .pass=>true
  | _=>false):=rfl
theorem Xe{N:ZD}{sc:Scope}{st:Stmt}:repS N sc (.brk ) st=(match Be st with
  | .brk=>true
  | _=>false):=rfl
theorem Ef{N:ZD}{sc:Scope}{st:Stmt}:repS N sc (.cont ) st=(match Be st with
  | .cont=>true
  | _=>false):=rfl
theorem X1{N:ZD}{sc:Scope}{st:Stmt}{rest:List Stmt}:∀a r,J2 N sc (.seq a r) (st::rest)=(repS N sc a st && J2 N sc r rest):=fun _ _=>rfl
section
variable{X:Cx}{w:W}{k:Nat}{N:ZD}{sc:Scope}{pt:Nat->Bool}
theorem Xb{elt:Expr}{gs:List Comprehension}{scope:Scope}{pos p:Pos}{t:Str}{ln:Nat}{env:Env}:swapsWith (.ListComp elt gs scope pos) (some (.Name t p)) ln env=pure (env.blockKind == .function && env.kindOf t == some .local && p.line == pos.line && !(scope.names.any fun(n,k)=>n == t && (k == .local || k == .cell))):=rfl
theorem vb(c:Ctx X w k N sc.names)(ct:X.env.scope.names=sc.names){i:Nat}{tg it cd el:E}{fr:ZG}{ns:ZD}{x:Expr}{y:Str}{pos pos':Pos}(hr:(N[i]? == some y && locs sc.names y)=true)(hx:rep true N sc (.comp tg it cd el fr ns) x=true):PS X (.Assign [.Name y pos'] x pos) (LS X.K X.mg w pt (.set i (.comp tg it cd el fr ns))):=by
 have hse:=(Jw (w:=w) (.comp tg it cd el fr ns)).1 X k N sc true x c (fun _=>ct) hx
 have hsw:swapsWith x (some (.Name y pos')) pos.line X.env=pure false\/swapsWith x (some (.Name y pos')) pos.line X.env=pure true:=by
  cases x<;>first | exact .inl rfl | skip
  all_goals (first | (rw[Xb];rename_i sc' pp;cases(X.env.blockKind == .function && X.env.kindOf y == some .local && pos'.line == pp.line && !(sc'.names.any fun(n,k)=>n == y && (k == .local || k == .cell)))<;>first | exact .inl rfl | exact .inr rfl) | skip)
  all_goals cases(show false=true from hx)
 rcases hsw with hsw | hsw
 .exact Hv c hr hse hsw
 .replace hx:=(R3 _ _ _ _ _ _).symm.trans hx
  split at hx
  .rename_i elt t iter ifs scope hy
   obtain⟨pos3,rfl⟩:=O1 hy;simp only[Y6]at hx;obtain⟨⟨⟨⟨⟨⟨⟨⟨⟨h1,h2⟩,h3⟩,h4⟩,h5⟩,h6⟩,h7⟩,h8⟩,h9⟩,h10⟩:=hx;have nd:ns.Nodup:=Rh h5;have cc:=fun fp s H=>c.comp (outer:=sc) h3 nd fp s H
   have ht:∀i∈Nx tg,fr[i]?=some none:=fun i m=>by
    unfold rm at h6;rw[K0]at h6;exact eq_of_beq (h6 i m)
   have hc:∀fp s H,PTs (Z0 X scope ns fp s H) ifs (LT X.K X.mg w cd):=fun fp s H=>by
    unfold LT;by_cases hn:isNil cd=true
    .rw[if_pos hn]at h9 ⊢;rw[List.isEmpty_iff.mp h9];exact Aj
    .rw[if_neg hn]at h9 ⊢
     split at h9
     .rw[Y6]at h9;exact Aq ((Jw (w:=w) cd).2.1 _ k ns scope false _ (cc fp s H) (fun z=>by cases z) h9.1 h9.2).1
     .cases h9
   rw[Y6,beq_iff_eq]at hr;obtain⟨l1,l2⟩:=c.loc hr.2;have hi:X.N[i]?=some y:=by rw[c.nN];exact hr.1
   intro XB s Z H D I hs;have hl:i<Z.length:=by rw[I.len];exact(Tz.mp hi).1
   exact PS.mel (Em (te:=fun _ _ _=>LE X.K X.mg w el) (tt:=fun _ _ _=>LT X.K X.mg w cd) (g:=fun _ _ _=>LG X.K X.mg tg) (by rw[c.nN];exact c.nd) hi l1 c.calm ((Jw (w:=w) it).2.2.2 X k N sc true t iter c (fun _=>ct) h2) (NX:=N) (outer:=sc) ⟨c.nN,ct,h3,h4⟩ (fun fp s H=>Tf (cc fp s H) tg h8) hc (fun fp s H=>(Jw (w:=w) el).1 _ k ns scope false elt (cc fp s H) (fun z=>by cases z) h10) hsw (Gw h7) l2) XB s Z H D I
    (Ir c h4 nd ht (by rw[I.len,c.nN]) (v5 hl hs))
  .cases hx
theorem si(c:Ctx X w k N sc.names)(ct:X.env.scope.names=sc.names):∀s:S,(∀st,repS N sc s st=true->PS X st (LS X.K X.mg w pt s))/\∀sts,J2 N sc s sts=true->Rr X sts (LS X.K X.mg w pt s):=by
 have E:=fun(e:E) (x:Expr) (h:rep true N sc e x=true)=>(Jw (w:=w) e).1 X k N sc true x c (fun _=>ct) h;have Tt:=fun(e:PV.E) (x:Expr) (h:rep true N sc e x=true) (t:C4 e x=true)=>((Jw (w:=w) e).2.1 X k N sc true x c (fun _=>ct) h t).1;have It:=fun(e:PV.E) (t x:Expr) (h:Lq true N sc t e x=true)=>(Jw (w:=w) e).2.2.2 X k N sc true t x c (fun _=>ct) h;have nb:∀{s:S},(∀sts,J2 N sc s sts=false)->∀sts,J2 N sc s sts=true->Rr X sts (LS X.K X.mg w pt s):=fun h sts z=>by rw[h]at z;cases z
 have ns:∀{s:S},(∀st,repS N sc s st=false)->∀st,repS N sc s st=true->PS X st (LS X.K X.mg w pt s):=fun h sts z=>by rw[h]at z;cases z
 intro s
 induction s with
 | nil =>
  refine⟨ns fun st=>rfl,fun sts h=>?_⟩;cases sts with
  | nil=>exact sh
  | cons _ _=>cases(show false=true from h)
 | seq a r ha hr =>
  refine⟨ns fun st=>rfl,fun sts h=>?_⟩;cases sts with
  | nil=>cases(show false=true from h)
  | cons st rest =>
   replace h:=(X1 _ _).symm.trans h
   rw[Y6]at h;exact vn (ha.1 st h.1) (hr.2 rest h.2)
 | ret a =>
  refine⟨fun st h=>?_,nb fun sts=>rfl⟩
  replace h:=(Xa _).symm.trans h
  split at h
  .rename_i e
   obtain⟨p,rfl⟩:=V1 e
   split at h
   .exact sd (E a _ h)
   .rw[z7 h];exact vm
  .cases h
 | ex a =>
  refine⟨fun st h=>?_,nb fun sts=>rfl⟩
  replace h:=(yh _).symm.trans h
  split at h
  .rename_i e
   obtain⟨p,rfl⟩:=V1 e;rw[Y6]at h;exact sns_ex (E a _ h.1) h.2
  .cases h
 | set i a =>
  refine⟨fun st h=>?_,nb fun sts=>rfl⟩
  replace h:=(Xu _ _).symm.trans h
  split at h
  .rename_i e
   obtain⟨p,rfl⟩:=V1 e
   split at h
   .rename_i e
    obtain⟨p,rfl⟩:=Al e;simp only[Y6]at h;obtain⟨⟨⟨h1,h2⟩,h3⟩,h4⟩:=h;have h12:=B0z.mpr ⟨h1,h2⟩;rw[Bool.or_eq_true]at h4;rcases h4 with h4 | h4
    .exact Hv c h12 (E a _ h3) (Hq h4)
    .cases a<;>first | exact vb c ct h12 h3 | cases h4
   .cases h
  .cases h
 | unp tg a =>
  refine⟨fun st h=>?_,nb fun sts=>rfl⟩
  replace h:=(Xp _ _).symm.trans h
  split at h
  .rename_i e
   obtain⟨p,rfl⟩:=V1 e;simp only[Y6]at h;obtain⟨⟨⟨h1,h2⟩,h3⟩,h4⟩:=h;exact sf c h1 h2 (E a _ h3) (by simpa using h4)
  .cases h
 | put i kk a =>
  refine⟨fun st h=>?_,nb fun sts=>rfl⟩
  replace h:=(Xo _ _ _).symm.trans h
  split at h
  .rename_i e
   obtain⟨p,rfl⟩:=V1 e
   split at h
   .rename_i e
    obtain⟨q,p,rfl⟩:=uk e;simp only[Y6]at h;obtain⟨⟨⟨h1,h2⟩,h3⟩,h4⟩:=h;exact sr c h1 (E a _ h2) (E kk _ h3) h4
   .cases h
  .cases h
 | ite cd a b ha hb =>
  refine⟨fun st h=>?_,nb fun sts=>rfl⟩
  replace h:=(Xi _ _ _).symm.trans h
  split at h
  .rename_i e
   obtain⟨p,rfl⟩:=V1 e;simp only[Y6]at h;obtain⟨⟨⟨h1,h2⟩,h3⟩,h4⟩:=h;exact su (Tt cd _ h1 h2) (ha.2 _ h3) (hb.2 _ h4)
  .cases h
 | loop tg it b hb =>
  refine⟨fun st h=>?_,nb fun sts=>rfl⟩
  replace h:=(Eg _ _ _).symm.trans h
  split at h
  .rename_i e
   obtain⟨p,rfl⟩:=V1 e;simp only[Y6]at h;obtain⟨⟨⟨h1,h2⟩,h3⟩,h4⟩:=h;exact vt c (It it _ _ h1) h2 (hb.2 _ h3) h4
  .cases h
 | wh cd b hb =>
  refine⟨fun st h=>?_,nb fun sts=>rfl⟩
  replace h:=(yn _ _).symm.trans h
  split at h
  .rename_i e
   obtain⟨p,rfl⟩:=V1 e;simp only[Y6]at h;obtain⟨⟨h1,h2⟩,h3⟩:=h;exact sns_wh c (Tt cd _ h1 h2) (hb.2 _ h3)
  .cases h
 | pass =>
  refine⟨fun st h=>?_,nb fun sts=>rfl⟩
  replace h:=(Ek).symm.trans h
  split at h
  .rename_i e
   obtain⟨p,rfl⟩:=V1 e;exact vd
  .cases h
 | brk =>
  refine⟨fun st h=>?_,nb fun sts=>rfl⟩
  replace h:=(Xe).symm.trans h
  split at h
  .rename_i e
   obtain⟨p,rfl⟩:=V1 e;exact so
  .cases h
 | cont =>
  refine⟨fun st h=>?_,nb fun sts=>rfl⟩
  replace h:=(Ef).symm.trans h
  split at h
  .rename_i e
   obtain⟨p,rfl⟩:=V1 e;exact vc
  .cases h
end
noncomputable def V3(as:List Sl)(i:Nat):Bool:=match as[i]? with
 | some (.o _)=>true
 | _=>false
noncomputable def leftT:Sl->T
 | .o t=>t
 | _=>.fn ""
noncomputable def Uu:List Sl->P->Option (ZZ)
 | [],_=>some []
 | .o _::r,x::q=>(Uu r q).map (leftT x::·)
 | .f _::r,_::q=>Uu r q
 | .no::r,_::q=>Uu r q
 | _,_=>none
noncomputable def fin(as:List Sl)(r:Sl)(p:P):Option (Sl×ZZ):=(Uu as p).map fun ts=>(r,ts)
structure Df where
 n:Nat
 ar:Nat
 code:S
noncomputable def Rq(d:Df)(w:W)(as:List Sl):Option (Sl×ZZ):=if as.length=d.ar then (ex w (V3 as) d.code (as++List.replicate (d.n - d.ar) .no)).bind fun q=>match q.1 with
  | .rt r=>fin as r q.2
  | .nx=>fin as (.f .non) q.2
  | _=>none
 else none
theorem g9{as:List Sl}:∀{p:P} {ts:ZZ},Uu as p=some ts->(∀(j:Nat) (s:Sl),(C3 as ts)[j]?=some s->(as[j]?=some s/\∀u,s≠.o u)\/(∃t u,s=.o t/\as[j]?=some (.o u)/\p[j]?=some (.o t))\/s=.no)/\(C3 as ts).length=as.length:=by
  induction as with
  | nil=>intro p ts e;cases e;exact⟨fun j s h=>by simp[C3]at h,rfl⟩
  | cons a r ih =>
    intro p ts e;cases p with
    | nil=>cases a<;>cases e
    | cons x q =>
      have same:∀{b:Sl} {us:ZZ},Uu r q=some us->(∀u,b≠.o u)->(∀(j:Nat) (s:Sl),(b::C3 r us)[j]?=some s->((b::r)[j]?=some s/\∀u,s≠.o u)\/(∃t u,s=.o t/\(b::r)[j]?=some (.o u)/\(x::q)[j]?=some (.o t))\/s=.no)/\(b::C3 r us).length=(b::r).length:=fun {b us} e nb=>by
        obtain⟨h2,h3⟩:=ih e;refine⟨fun j s h=>?_,by rw[B9,B9,h3]⟩;cases j with
        | zero=>cases(G0 h);exact .inl ⟨rfl,nb⟩
        | succ j=>exact h2 j s h
      cases a with
      | no => have eu : C3 (.no :: r) ts = .no :: C3 r ts := by cases ts<;>rfl
              rw[eu];exact same e fun u z=>nomatch z
      | f y => have eu : C3 (.f y :: r) ts = .f y :: C3 r ts := by cases ts<;>rfl
               rw[eu];exact same e fun u z=>nomatch z
      | o y =>
        obtain⟨ts',e1,rfl⟩:=Z8.mp (show (Uu r q).map _=some ts from e);obtain⟨h2,h3⟩:=ih e1;refine⟨fun j s h=>?_,by show (C3 r ts').length+1=r.length+1;rw[h3]⟩;cases j with
        | succ j=>exact h2 j s h
        | zero =>
          have h:s=mkO (leftT x):=(G0 h).symm;subst h;cases x with
          | no=>exact .inr (.inr rfl)
          | f t=>exact .inr (.inr rfl)
          | o t=>cases t with
            | fn z=>exact .inr (.inr rfl)
            | _=>exact .inr (.inl ⟨_,y,rfl,rfl,rfl⟩)
section
variable{K:W.Frag}{mg:ZV}{F G H:Hp}
theorem Xd{as:List Sl}{vs:ZQ}{n:Nat}{N:ZD}(r:Rel K mg F G as (vs.map some) H)(hn:N.length=n)(hl:vs.length<=n):Rel K mg F G (as++List.replicate (n - as.length) Sl.no) (L2.start N vs) H:=by
 have al:as.length=vs.length:=by have:=r.ln;rw[Yn]at this;exact this
 have old:∀{i:Nat} {s:Sl},(as++List.replicate (n - as.length) Sl.no)[i]?=some s->s≠.no->as[i]?=some s/\i<vs.length:=fun {i s} h ne=>by
  rw[List.getElem?_append]at h
  split at h
  .rename_i hi;exact⟨h,by omega⟩
  .rw[List.getElem?_replicate]at h
   split at h
   .cases h;exact absurd rfl ne
   .cases h
 have st:∀{i:Nat},i<vs.length->(L2.start N vs)[i]?=(vs.map some)[i]?:=fun {i} h=>by
  unfold L2.start;rw[G0l (by rw[Yn];exact h)]
 refine⟨r.b,fun i t e=>?_,fun i t e=>?_,fun i j t u a e1 e2 h1 h2=>?_, ?_⟩
 .obtain⟨e,hi⟩:=old e fun z=>nomatch z;rw[st hi];exact r.fz i t e
 .obtain⟨e,hi⟩:=old e fun z=>nomatch z;rw[st hi];exact r.ow i t e
 .obtain⟨e1,i1⟩:=old e1 fun z=>nomatch z;obtain⟨e2,i2⟩:=old e2 fun z=>nomatch z;rw[st i1]at h1;rw[st i2]at h2;exact r.ap i j t u a e1 e2 h1 h2
 .unfold L2.start;rw[Qz,Qz,List.length_replicate,List.length_replicate,Yn,al,hn]
theorem Ib{F' H':Hp}{as:List Sl}{vs:ZQ}{ts:ZZ}{p':P}{σ0 σ':L2.St}{rr:Sl}{v:V}(r:Rel K mg F G as (vs.map some) H)(hσ:∀i:Nat,i<vs.length->σ0[i]?=(vs.map some)[i]?)(eo:Uu as p'=some ts)(l:Le F F')(u:Up K H H')(r':Rel K mg F' G p' σ' H')(kp:Kp (V3 as) σ0 σ')(rs:Res K mg F' G p' σ' H' rr v) :
  Rel K mg F' G (C3 as ts) (vs.map some) H'/\Res K mg F' G (C3 as ts) (vs.map some) H' rr v:=by
 obtain⟨o2,o3⟩:=g9 eo;have al:as.length=vs.length:=by have:=r.ln;rw[Yn]at this;exact this
 have own:∀{j:Nat} {t:T},(C3 as ts)[j]?=some (Sl.o t)->p'[j]?=some (Sl.o t)/\σ'[j]?=(vs.map some)[j]?/\∃u,as[j]?=some (Sl.o u):=fun {j t} h=>by
  rcases o2 j _ h with ⟨_,a2⟩ | ⟨t',u',a1,a2,a3⟩ | z
  .exact absurd rfl (a2 t)
  .cases a1;have hj:j<vs.length:=by rw[<-al];exact(Tz.mp a2).1
   exact⟨a3,(kp.2 j (by unfold V3;rw[a2])).trans (hσ j hj),u',a2⟩
  .cases z
 refine⟨⟨r'.b,fun j t e=>?_,fun j t e=>?_,fun i j t t' a e1 e2 h1 h2=>?_,by rw[o3];exact r.ln⟩, ?_⟩
 .rcases o2 j _ e with ⟨a1,_⟩ | ⟨_,_,z,_⟩ | z
  .obtain⟨v,h1,h2⟩:=r.fz j t a1;exact⟨v,h1,IsT.up u l t v h2⟩
  .cases z
  .cases z
 .obtain⟨a1,a2,_⟩:=own e;rw[<-a2];exact r'.ow j t a1
 .obtain⟨a1,a2,_⟩:=own e1;obtain⟨b1,b2,_⟩:=own e2;rw[<-a2]at h1;rw[<-b2]at h2;exact r'.ap i j t t' a a1 b1 h1 h2
 .cases rr with
  | no=>exact rs
  | f t=>exact rs
  | o t =>
   obtain⟨a,rfl,h1,h2,h3,h4⟩:=rs;refine⟨a,rfl,h1,h2,h3,fun j u e z=>?_⟩;obtain⟨a1,a2,_⟩:=own e;rw[<-a2]at z;exact h4 j u a1 z
end
theorem Po{P:Program}{wd:World}{K:PySem.W.Frag}{mg:ZV}{base:Heap}{w:W}{x qual:Str}{st:Stmt}{f:Addr}{fd:FuncData}{N ps:ZD}{k:Nat}{d:Df}(F:Fun K x qual st f fd)(S:G1 N ps (Zg st))(hn:N.length=d.n)(ha:ps.length=d.ar)(hle:ps.length<=N.length)(hrep:J2 N (Zg st) d.code (Y0 st)=true)
  (bn:∀x∈U9,mg x=none) (fn:∀f as r,w.C f as=some r->∃ps,as.length=ps.length/\Fn P wd K mg base k f ps (spC K mg ps.length (w.C f))) (gl:∀x t,w.gl x=some t->∃v u,mg x=some u/\RelV v u/\∀H F,IsT K mg H F t v) :
  Jq P wd K mg base lg (k+1) f fd ps (spC K mg ps.length (Rq d w)):=by
 refine F.ok S (fun vs H Q E h=>h.1) fun cdv A outer s H vs Q E hr h=>?_;obtain⟨hv,F0,G,as,r,ec,rel,kq⟩:=h;unfold Rq at ec
 split at ec
 .rename_i hal
  obtain⟨⟨fl,p'⟩,e1,e2⟩:=ZO.mp ec;have c:Ctx (E9 lg P wd K mg base N qual (Zg st) f cdv A outer s H E).nox w k N (Zg st).names:=⟨rfl,S.nd,fun y kd e=>.inl e,rfl,hr,bn,fn,gl,rfl,fun _ _=>rfl⟩;refine⟨LS K mg w (V3 as) d.code,(si (sc:=Zg st) (pt:=V3 as) c rfl d.code).2 _ hrep,F0,G,_,fl,p',Xd rel hn (by rw[hv];omega),by rw[hal];exact e1,fun F' H' σ' l u Z7 kp=>?_⟩
  have hσ:∀i:Nat,i<vs.length->(L2.start N vs)[i]?=(vs.map some)[i]?:=fun i h=>by
   unfold L2.start;rw[G0l (by rw[Yn];exact h)]
  cases fl with
  | nx =>
   obtain⟨ts,e3,e4⟩:=Z8.mp (show (Uu as p').map _=some r from e2);cases e4;obtain⟨g1,g2⟩:=Ib (v:=.non) (rr:=.f .non) rel hσ e3 l u Z7 kp rfl;exact kq F' H' .non l u g1 g2
  | rt rr =>
   obtain⟨ts,e3,e4⟩:=Z8.mp (show (Uu as p').map _=some r from e2);cases e4;intro v rs;obtain⟨g1,g2⟩:=Ib rel hσ e3 l u Z7 kp rs;exact kq F' H' v l u g1 g2
  | bk=>cases e2
  | ct=>cases e2
 .cases ec
def wF(d:Df)(w:W)(as:List Sl)(Q:Sl×ZZ->Prop):Prop:=if as.length=d.ar then wS w (V3 as) d.code (as++List.replicate (d.n - d.ar) .no) ⟨fun p=>on (fin as (.f .non) p) Q,fun r p=>on (fin as r p) Q,fun _=>False,fun _=>False⟩ else False
theorem jc{d:Df}{w:W}{as:List Sl}{Q:Sl×ZZ->Prop}(h:wF d w as Q):∃x,Rq d w as=some x/\Q x:=by
 unfold wF at h
 split at h
 .rename_i ha
  obtain⟨f,p',e,h⟩:=wS_ex w (V3 as) d.code _ _ h;unfold Rq;rw[if_pos ha,e];cases f with
  | nx=>exact Yy h
  | rt r=>exact Yy h
  | bk=>exact h.elim
  | ct=>exact h.elim
 .exact h.elim
noncomputable def Cn(tab:Str->Option Df)(gl:Str->Option T):Nat->Cs
 | 0=>fun _ _=>none
 | n+1=>fun f as=>(tab f).bind fun d=>Rq d ⟨Cn tab gl n,gl⟩ as
structure N3(K:W.Frag)(mg:ZV)(f:Str)(d:Df):Prop where
 ex:∃st a fd N ps,Fun K f f st a fd/\mg f=some (.ref a)/\G1 N ps (Zg st)/\N.length=d.n/\ps.length=d.ar/\ps.length<=N.length/\J2 N (Zg st) d.code (Y0 st)=true/\Binds K fd ps []
theorem knot{P:Program}{wd:World}{K:W.Frag}{mg:ZV}{base:Heap}{tab:Str->Option Df}{gl:Str->Option T}(bn:∀x∈U9,mg x=none)(ft:∀f d,tab f=some d->N3 K mg f d)(hg:∀x t,gl x=some t->∃v u,mg x=some u/\RelV v u/\∀H F,IsT K mg H F t v) :
  ∀n f as r,Cn tab gl n f as=some r->∃ps,as.length=ps.length/\Fn P wd K mg base n f ps (spC K mg ps.length (Cn tab gl n f))
 | 0,f,as,r,h=>by cases h
 | n+1,f,as,r,h=>by
  obtain⟨d,e1,e2⟩:=ZO.mp (show (tab f).bind _=some r from h);obtain⟨st,a,fd,N,ps,F,hm,S,hn,ha,hle,hrep,hb⟩:=(ft f d e1).ex
  have ec:Cn tab gl (n+1) f=Rq d ⟨Cn tab gl n,gl⟩:=by
   funext as
   show (tab f).bind _=_;rw[e1]
   rfl
  refine⟨ps, ?_,a,fd, ?_,hb,F.kp,hm⟩
  .unfold Rq at e2
   split at e2
   .rename_i q;rw[ha];exact q
   .cases e2
  .rw[ec];exact Po F S hn ha hle hrep bn (knot bn ft hg n) hg
end PV
namespace PV
open PySem
abbrev Z5(a:E):E:=.cons a .nil
abbrev Zk(a b:E):E:=.cons a (.cons b .nil)
abbrev Bn(a b c:E):E:=.cons a (.cons b (.cons c .nil))
abbrev Hn(a b c d:E):E:=.cons a (.cons b (.cons c (.cons d .nil)))
abbrev ki(i:Int):E:=.k (.int i)
abbrev ks(x:Str):E:=.k (.str x)
abbrev Zf(a b:E):E:=.pr .ix (.cons a (.cons b .nil))
noncomputable abbrev V9(a b:E):E:=.pr (.cm .eq) (.cons a (.cons b .nil))
abbrev Mh(a b:E):E:=.pr (.op .add) (.cons a (.cons b .nil))
abbrev F8(a:E):E:=.pr .len (.cons a .nil)
abbrev Ux(a:S):S:=.seq a .nil
end PV
namespace PV
open PySem PySem.Spec PyProof.Rows L2
theorem o5{Z:Type}{o:Option Z}{Q Q':Z->Prop}(h:on o Q)(q:∀x,Q x->Q' x):on o Q':=by
 obtain⟨a,e,h⟩:=Yy h;rw[e];exact q a h
theorem Su{body:T->P->(Option T->P->Prop)->Prop}(I:ZZ->ZZ->P->Prop)(st:∀x r acc p K,I (x::r) acc p->(∀y p',I r (acc++[y]) p'->K (some y) p')->(∀p',I r acc p'->K none p')->body x p K) :
  ∀(xs acc:ZZ) (p:P) (Q:ZZ->P->Prop),I xs acc p->(∀acc p,I [] acc p->Q acc p)->Ja body xs acc p Q
 | [],acc,p,Q,h,q=>q acc p h
 | x::r,acc,p,Q,h,q=>st x r acc p _ h (fun y p' h'=>Su I st r (acc++[y]) p' Q h' q) fun p' h'=>Su I st r acc p' Q h' q
theorem jt{body:T->P->En->Prop}(I:ZZ->P->Prop)(B:P->Prop)(R:Sl->P->Prop)
  (st:∀x r p (D:En),I (x::r) p->(∀q,I r q->D.nx q)->(∀q,I r q->D.ct q)->(∀q,B q->D.bk q)->(∀s q,R s q->D.rt s q)->body x p D) :
  ∀(xs:ZZ) (p:P) (D:En),I xs p->(∀q,I [] q->D.nx q)->(∀q,B q->D.nx q)->(∀s q,R s q->D.rt s q)->Rz body xs p D
 | [],p,D,h,q,_,_=>q p h
 | x::r,p,D,h,q,b,t=>st x r p _ h (fun p' h'=>jt I B R st r p' D h' q b t) (fun p' h'=>jt I B R st r p' D h' q b t) b t
theorem Gx{body:T->P->En->Prop}{xs:ZZ}{p:P}{D:En}(I:ZZ->P->Prop)(h:I xs p)(st:∀x r p (D:En),I (x::r) p->(∀q,I r q->D.nx q)->(∀q,I r q->D.ct q)->body x p D)(q:∀q,I [] q->D.nx q):Rz body xs p D :=
 jt I (fun _=>False) (fun _ _=>False) (fun x r p D h n c _ _=>st x r p D h n c) xs p D h q (fun _ z=>z.elim) fun _ _ z=>z.elim
theorem Us{body:T->P->(Option T->P->Prop)->Prop}{xs:ZZ}{p:P}{Q:ZZ->P->Prop}(I:ZZ->ZZ->P->Prop)(h:I xs [] p)(st:∀x r acc p K,I (x::r) acc p->(∀y p',I r (acc++[y]) p'->K (some y) p')->(∀p',I r acc p'->K none p')->body x p K)(q:∀acc p,I [] acc p->Q acc p):Ja body xs [] p Q :=
 Su I st xs [] p Q h q
theorem wWhI{test:P->(Bool->P->Prop)->Prop}{body:P->En->Prop}(I:Nat->P->Prop){D:En}
  (st:∀m p (K:Bool->P->Prop),I m p->(∀q,(∀D':En,(∀m' q',m'<m->I m' q'->D'.nx q')->(∀m' q',m'<m->I m' q'->D'.ct q')->(∀q',D.nx q'->D'.bk q')->(∀s q',D.rt s q'->D'.rt s q')->body q D')->K true q)->(∀q,D.nx q->K false q)->test p K) :
  ∀(m n:Nat) (p:P),m<n->I m p->wWh test body n p D:=by
 intro m
 induction m using Nat.strongRecOn with
 | ind m ih =>
  intro n p h i
  match n,h with
  | n+1,h =>
   refine st m p _ i (fun q g=>?_) fun q g=>?_
   .show if (true:Bool)=true then _ else _
    rw[if_pos rfl];exact g _ (fun m' q' l i'=>ih m' l n q' (by omega) i') (fun m' q' l i'=>ih m' l n q' (by omega) i') (fun _ z=>z) fun _ _ z=>z
   .show if (false:Bool)=true then _ else _
    rw[if_neg (fun z=>nomatch z)];exact g
theorem Zx4{tab:Str->Option Df}{gl:Str->Option T}{n:Nat}{f:Str}{as:List Sl}{Q:Sl×ZZ->Prop}{d:Df}(e:tab f=some d)(h:wF d ⟨Cn tab gl n,gl⟩ as Q):on (Cn tab gl (n+1) f as) Q:=by
 obtain⟨x,h1,h2⟩:=jc h;exact Yv (a:=x) (by show (tab f).bind _=_;rw[e];exact h1) h2
theorem C2(a:Int):∀zs:ZL,J0 (.int a) (zs.map .int)=some (zs.any fun z=>decide (z=a))
 | []=>rfl
 | z::zs=>by
  show (J0 (.int a) (zs.map .int)).map (decide (z=a) || ·)=_;rw[C2 a zs];rfl
theorem A5(a:Int)(zs:ZL):nr (.int a) (.lst (zs.map .int))=some (zs.any fun z=>decide (z=a)):=by
 cases zs with
 | nil=>rfl
 | cons z zs=>exact C2 a (z::zs)
theorem strs_map:∀ss:ZD,Ue (ss.map .str)=some ss
 | []=>rfl
 | s::ss=>by show (Ue (ss.map .str)).map (s::·)=_;rw[strs_map ss];rfl
theorem ints_map:∀ss:ZL,Uw (ss.map .int)=some ss
 | []=>rfl
 | s::ss=>by show (Uw (ss.map .int)).map (s::·)=_;rw[ints_map ss];rfl
theorem z9(s:Str)(ss:ZD):Uw ((s::ss).map .str)=none:=rfl
theorem srt_strs(ss:ZD)(h:ss.length<64):W2 (ss.map .str)=some ((SRT.G4 ss).map .str):=by
 unfold W2;rw[if_pos (by rw[Yn];exact h)];cases ss with
 | nil=>rfl
 | cons s ss=>rw[z9,strs_map];rfl
theorem Co{Z:Type}{xs:List Z}{i:Int}(h0:0<=i)(h1:i<xs.length):∃x,Ci xs i=some x/\xs[i.toNat]?=some x/\x∈xs:=by
 have hj:i.toNat<xs.length:=by omega
 refine⟨xs[i.toNat], ?_,Ui hj,G0e hj⟩;unfold Ci Sv;rw[if_pos h0,if_pos h1];exact Ui hj
theorem ixP{ts:ZZ}{r:Int}{Q:Sl->Prop}(h0:0<=r)(h1:r<ts.length)(q:∀x,ts[r.toNat]?=some x->x∈ts->Q (.f x)):on ((z6 (.lst ts) (.int r)).map Sl.f) Q:=by
 obtain⟨x,hx,e,mx⟩:=Co h0 h1;exact Yv (a:=Sl.f x) (by show (Ci _ _).map _=_;rw[hx];rfl) (q x e mx)
theorem sIx_nn{n:Nat}{d:Nat}{i:Int}(h0:0<=i)(h1:i<=n):HT.Yl n d (some i)=i.toNat:=by
 obtain⟨k,rfl⟩:=Int.eq_ofNat_of_zero_le h0;rw[HT.W8,XG];omega
theorem cut_to{ts:ZZ}{i:Int}(h0:0<=i)(h1:i<=ts.length):D0 ts none (some i)=ts.take i.toNat:=by
 unfold D0;rw[sIx_nn h0 h1];show (ts.drop 0).take (i.toNat - 0)=_;simp
theorem i4{a:T}{l:ZZ}:(z6 (.tup (a::l)) (.int 0)).map Sl.f=some (.f a):=by
 show (Ci _ _).map _=_;unfold Ci Sv;rw[if_pos (by omega),if_pos (by rw[B9];omega)]
 rfl
theorem ixE{ts:ZZ}{r:Int}{x:T}(e:Ci ts r=some x):(z6 (.lst ts) (.int r)).map Sl.f=some (.f x):=by show (Ci ts r).map _=_;rw[e];rfl
theorem ixDE{XM:ZX}{k:Str}{x:T}(e:Zr XM (.inr k)=some x):(z6 (.dct XM) (.str k)).map Sl.f=some (.f x):=by show (Zr XM (.inr k)).map _=_;rw[e];rfl
theorem popP{ts:ZZ}{i:Int}{Q:T×T->Prop}(h0:0<=i)(h1:i<ts.length)(q:∀x,ts[i.toNat]?=some x->x∈ts->Q (.lst (ts.eraseIdx i.toNat),x)):on (iq .popAt (.lst ts) [.int i]) Q:=by
 have hj:i.toNat<ts.length:=by omega
 refine Yv (a:=(.lst (ts.eraseIdx i.toNat),ts[i.toNat])) ?_ (q _ (Ui hj) (G0e hj));show (Sv ts.length i).bind _=_;unfold Sv;rw[if_pos h0,if_pos h1];show (ts[i.toNat]?).map _=_;rw[Ui hj]
 rfl
theorem Ld{a:Int}{zs:ZL}{Q:Sl->Prop}(q:Q (.f (.bl (!(zs.any fun z=>decide (z=a)))))):on ((Ov .notin (.int a) (.lst (zs.map .int))).map fun r=>Sl.f (.bl r)) Q:=Yv (by show ((nr _ _).map not).map _=_;rw[A5];rfl) q
theorem cg{zs:ZL}{a:Int}(h:(!(zs.any fun z=>decide (z=a)))=true):∀z∈zs,z≠a:=fun z m e=>by
 have:(zs.any fun z=>decide (z=a))=true:=XZ.mpr ⟨z,m,Dw e⟩;rw[this]at h;cases h
theorem ixHd{a:T}{l:ZZ}{Q:Sl->Prop}(q:Q (.f a)):on ((z6 (.tup (a::l)) (.int 0)).map Sl.f) Q:=Yv i4 q
theorem Nf{ts:ZZ}{r:Int}{x:T}{Q:Sl->Prop}(e:Ci ts r=some x)(q:Q (.f x)):on ((z6 (.lst ts) (.int r)).map Sl.f) Q:=Yv (ixE e) q
theorem Mb{XM:ZX}{k:Str}{x:T}{Q:Sl->Prop}(e:Zr XM (.inr k)=some x)(q:Q (.f x)):on ((z6 (.dct XM) (.str k)).map Sl.f) Q:=Yv (ixDE e) q
theorem Vx{d:Df}{w:W}{as:List Sl}{Q:Sl×ZZ->Prop}(ha:as.length=d.ar)(h:∀D:En,(∀r p,on (fin as r p) Q->D.rt r p)->(∀p,on (fin as (.f .non) p) Q->D.nx p)->wS w (V3 as) d.code (as++List.replicate (d.n - d.ar) .no) D):wF d w as Q:=by
 unfold wF;rw[if_pos ha];exact h _ (fun _ _ z=>z) fun _ z=>z
theorem srtP{ts us:ZZ}{Q:Sl->Prop}(e:Xl ts=some us)(q:Q (.o (.lst us))):on ((Xl ts).map fun us=>Sl.o (.lst us)) Q:=Yv (by rw[e];rfl) q
theorem Qc{ts us:ZZ}{Q:Sl->Prop}(e:W2 ts=some us)(q:Q (.o (.lst us))):on ((W2 ts).map fun us=>Sl.o (.lst us)) Q:=Yv (by rw[e];rfl) q
theorem rngP{m:Int}{Q:ZZ->Prop}(h0:-1000000<=m)(h1:m<=1000000)(q:Q ((List.range m.toNat).map fun k=>T.int (k:Nat))):on (rngT (.int m)) Q:=by
 refine Yv (a:=(List.range m.toNat).map fun k=>T.int (k:Nat)) ?_ q;show (if -1000000<=m/\m<=1000000 then some ((List.range m.toNat).map fun k=>T.int (k:Nat)) else none)=_;rw[if_pos ⟨h0,h1⟩]
theorem Y4{C:Cs}{f:Str}{as:List Sl}{Q Q':Sl×ZZ->Prop}(h:on (C f as) Q)(q:∀x,Q x->Q' x):on (C f as) Q':=o5 h q
theorem boolP'{b:Bool}{K:Bool->Prop}(h:b=true->K true)(h':b=false->K false):K b:=by
 cases b with
 | true=>exact h rfl
 | false=>exact h' rfl
theorem ifS{c:Prop}[Decidable c]{Z:Type}{a:Z}{o:Option Z}{Q:Z->Prop}(h:c)(q:Q a):on (if c then some a else o) Q:=by rw[if_pos h];exact q
theorem addLP{a b:ZZ}{Q:Sl->Prop}(h:a.length+b.length<=sizeLine)(q:Q (.o (.lst (a++b)))):on (opT .add (.lst a) (.lst b)) Q:=ifS h q
theorem O7{a b:Str}{Q:Sl->Prop}(h:a.length+b.length<=sizeLine)(q:Q (.f (.str (a++b)))):on (opT .add (.str a) (.str b)) Q:=ifS h q
theorem whS{w:W}{pt:Nat->Bool}{c:E}{b r:S}{p:P}{D:En}(h:wWh (fun s K=>wE w c s fun r q=>qm r fun b=>K b q) (fun s D=>wS w pt b s D) 1000000 p ⟨fun q=>wS w pt r q D,D.rt,D.bk,D.ct⟩):wS w pt (.seq (.wh c b) r) p D:=h
theorem yp{p:P}{i:Nat}{t:T}(h:p[i]?=some (.o t)\/p[i]?=some (.f t)):read p i=some (t,p.set i (.f t)):=by
 rcases h with h | h
 .unfold read;rw[h]
 .have e:p.set i (.f t)=p:=by
   refine List.ext_getElem? fun j=>?_;by_cases z:i=j
   .subst z;rw[List.getElem?_set_self (Tz.mp h).1,h]
   .rw[List.getElem?_set_ne z]
  unfold read;rw[h,e]
def OF(s:Sl)(t:T):Prop:=s=.o t\/s=.f t
theorem Ho{p:P}{i:Nat}{s:Sl}{t:T}{Q:T×P->Prop}(h:OF s t)(e:p[i]?=some s)(q:Q (t,p.set i (.f t))):on (read p i) Q:=by
 refine Yv (yp ?_) q;rcases h with rfl | rfl
 .exact .inl e
 .exact .inr e
theorem Gq{body:T->P->(Option T->P->Prop)->Prop}{xs:ZZ}{p:P}{Q:ZZ->P->Prop}(g:T->T)(St:P->Prop)(h0:St p)(st:∀x∈xs,∀p K,St p->(∀p',St p'->K (some (g x)) p')->body x p K)(q:∀p,St p->Q (xs.map g) p):Ja body xs [] p Q:=by
 refine Us (fun r acc p=>St p/\(∀x∈r,x∈xs)/\acc++r.map g=xs.map g) ⟨h0,fun _ m=>m,rfl⟩ (fun x r acc p K hi ky _=>?_) fun acc p hi=>?_
 .obtain⟨h1,h2,h3⟩:=hi;exact st x (h2 x Y5) p K h1 fun p' h'=>ky _ p' ⟨h',fun y m=>h2 y (Y7 _ m),by rw[XX];exact h3⟩
 .obtain⟨h1,_,h3⟩:=hi;rw[List.map_nil,XQ]at h3;rw[h3];exact q p h1
theorem js{body:T->P->(Option T->P->Prop)->Prop}{xs:ZZ}{p:P}{Q:ZZ->P->Prop}(g:T->Option T)(St:P->Prop)(h0:St p)(st:∀x∈xs,∀p K,St p->(∀p',St p'->K (g x) p')->body x p K)(q:∀p,St p->Q (xs.filterMap g) p):Ja body xs [] p Q:=by
 refine Us (fun r acc p=>St p/\(∀x∈r,x∈xs)/\acc++r.filterMap g=xs.filterMap g) ⟨h0,fun _ m=>m,rfl⟩ (fun x r acc p K hi ky kn=>?_) fun acc p hi=>?_
 .obtain⟨h1,h2,h3⟩:=hi;refine st x (h2 x Y5) p K h1 fun p' h'=>?_;cases e:g x with
  | some y=>exact ky y p' ⟨h',fun y m=>h2 y (Y7 _ m),by rw[XX];rw[List.filterMap_cons_some e]at h3;exact h3⟩
  | none=>exact kn p' ⟨h',fun y m=>h2 y (Y7 _ m),by rw[List.filterMap_cons_none e]at h3;exact h3⟩
 .obtain⟨h1,_,h3⟩:=hi;rw[List.filterMap_nil,XQ]at h3;rw[h3];exact q p h1
def okK:Key->Prop
 | .inl i=>i.natAbs<=10 ^ 19
 | .inr x=>∀c∈x.cps.toList,c<16 ^ 8
def wtK:Key->Nat
 | .inl _=>70
 | .inr x=>x.length
mutual
def fb(n:Nat):T->Prop
 | .int i=>i.natAbs<=10 ^ 19
 | .str x=>∀c∈x.cps.toList,c<16 ^ 8
 | .tup ts=>ts.length<=n/\T3 n ts
 | .lst ts=>ts.length<=n/\T3 n ts
 | .dct XM=>Lb n XM
 | .fn _=>False
 | .non=>True
 | .bl _=>True
def T3(n:Nat):ZZ->Prop
 | []=>True
 | t::r=>fb n t/\T3 n r
def Lb(n:Nat):ZX->Prop
 | []=>True
 | (k,t)::r=>okK k/\fb n t/\Lb n r
end
mutual
noncomputable def c9:T->Nat
 | .int _=>70
 | .str x=>x.length
 | .tup ts=>Sr ts
 | .lst ts=>Sr ts
 | .dct XM=>Ss XM
 | .fn _=>0
 | .non=>0
 | .bl _=>0
noncomputable def Sr:ZZ->Nat
 | []=>0
 | t::r=>c9 t+1+Sr r
noncomputable def Ss:ZX->Nat
 | []=>0
 | (k,t)::r=>wtK k+c9 t+2+Ss r
end
mutual
noncomputable def n6:T->Nat
 | .tup ts=>E5 ts+1
 | .lst ts=>E5 ts+1
 | .dct XM=>E6 XM+1
 | _=>0
noncomputable def E5:ZZ->Nat
 | []=>0
 | t::r=>max (n6 t) (E5 r)
noncomputable def E6:ZX->Nat
 | []=>0
 | (_,t)::r=>max (n6 t) (E6 r)
end
theorem B3{i:Int}(h:i.natAbs<=10 ^ 19):(if i == 0 then 0 else i.natAbs.log2+1)<=70/\i.natAbs.log2<1920:=by
 have:i.natAbs.log2<64:=by
  by_cases z:i.natAbs=0
  .rw[z];decide
  .exact(Nat.log2_lt z).mpr (Nat.lt_of_le_of_lt h (by decide))
 exact⟨by split<;>omega,by omega⟩
theorem lenS(s:String):(Str.ofString s).length=s.toList.length:=by
 rw[Str.ofString_eq_toList];simp[Str.length]
theorem Wk{i:Int}(h:i.natAbs<=10 ^ 19):(PyData.shown (.int i)).length<=30:=by
 show (Str.ofString (toString i)).length<=30;have hb:i.natAbs<10 ^ 20:=Nat.lt_of_le_of_lt h (by decide);rw[lenS];have hd:(Nat.toDigits 10 i.natAbs).length<=20:=(Nat.length_toDigits_le_iff (by decide) (by decide)).mpr hb;cases i with
 | ofNat n =>
  show (Nat.repr n).toList.length<=30;rw[Nat.toList_repr];exact Ve hd (by decide)
 | negSucc n =>
  show ("-" ++ Nat.repr (n+1)).toList.length<=30;rw[String.toList_append,Qz,Nat.toList_repr];have hd:(Nat.toDigits 10 (n+1)).length<=20:=hd;show 1+_<=30;omega
structure Shn(n:Nat)(t:T)(x:PyData):Prop where
 e:toPy t=some x
 s:x.showable=true
 l:x.leavesShort 30=true
 w:x.weight<=c9 t
 d:x.depth=n6 t
theorem ia{k:Key}(h:okK k):(Ax k).showable=true/\(Ax k).leavesShort 30=true/\(Ax k).weight<=wtK k/\(Ax k).depth=0:=by
 cases k with
 | inl i=>exact⟨Dw (B3 h).2,Dw (Wk h),(B3 h).1,rfl⟩
 | inr x=>exact⟨rfl,K0.mpr fun c m=>Dw (h c m),Yg _,rfl⟩
mutual
theorem Lm(n:Nat):∀t:T,fb n t->∃x,Shn n t x
 | .int i,h=>⟨.int i,rfl,Dw (B3 h).2,Dw (Wk h),(B3 h).1,rfl⟩
 | .str x,h=>⟨.str x,rfl,rfl,K0.mpr fun c m=>Dw (h c m),Yg _,rfl⟩
 | .non,_=>⟨.none,rfl,rfl,rfl,Yg _,rfl⟩
 | .bl b,_=>⟨.bool b,rfl,rfl,rfl,Yg _,rfl⟩
 | .fn _,h=>h.elim
 | .tup ts,h=>by
  obtain⟨xs,a,b,c,d,e⟩:=T1 n ts h.2;exact⟨.tuple xs,by show (Uz ts).map _=_;rw[a];rfl,b,c,d,by show PyData.depthAll xs+1=_;rw[e];rfl⟩
 | .lst ts,h=>by
  obtain⟨xs,a,b,c,d,e⟩:=T1 n ts h.2;exact⟨.list xs,by show (Uz ts).map _=_;rw[a];rfl,b,c,d,by show PyData.depthAll xs+1=_;rw[e];rfl⟩
 | .dct XM,h=>by
  obtain⟨xs,a,b,c,d,e⟩:=Q9 n XM h;exact⟨.dict xs,by show (Dv XM).map _=_;rw[a];rfl,b,c,d,by show PyData.depthKv xs+1=_;rw[e];rfl⟩
theorem T1(n:Nat):∀ts:ZZ,T3 n ts->∃xs,Uz ts=some xs/\PyData.showableAll xs=true/\PyData.leavesShortAll 30 xs=true/\PyData.weightAll xs<=Sr ts/\PyData.depthAll xs=E5 ts
 | [],_=>⟨[],rfl,rfl,rfl,Yg _,rfl⟩
 | t::ts,h=>by
  obtain⟨x,a1,b1,c1,d1,e1⟩:=Lm n t h.1;obtain⟨xs,a,b,c,d,e⟩:=T1 n ts h.2;refine⟨x::xs,by show (toPy t).bind _=_;rw[a1];show (Uz ts).map _=_;rw[a];rfl,by show (x.showable && _)=true;rw[b1,b];rfl,by show (x.leavesShort 30 && _)=true;rw[c1,c];rfl, ?_, ?_⟩
  .show x.weight+1+PyData.weightAll xs<=c9 t+1+Sr ts;omega
  .show max x.depth (PyData.depthAll xs)=max (n6 t) (E5 ts);rw[e1,e]
theorem Q9(n:Nat):∀ts:ZX,Lb n ts->∃xs,Dv ts=some xs/\PyData.showableKv xs=true/\PyData.leavesShortKv 30 xs=true/\PyData.weightKv xs<=Ss ts/\PyData.depthKv xs=E6 ts
 | [],_=>⟨[],rfl,rfl,rfl,Yg _,rfl⟩
 | (k,t)::ts,h=>by
  obtain⟨x,a1,b1,c1,d1,e1⟩:=Lm n t h.2.1;obtain⟨xs,a,b,c,d,e⟩:=Q9 n ts h.2.2;obtain⟨k1,k2,k3,k4⟩:=ia h.1;refine⟨(Ax k,x)::xs,by show (toPy t).bind _=_;rw[a1];show (Dv ts).map _=_;rw[a];rfl,by show ((Ax k).showable && x.showable && _)=true;rw[k1,b1,b];rfl,by show ((Ax k).leavesShort 30 && x.leavesShort 30 && _)=true;rw[k2,c1,c];rfl, ?_, ?_⟩
  .show (Ax k).weight+x.weight+2+PyData.weightKv xs<=wtK k+c9 t+2+Ss ts;omega
  .show max (max (Ax k).depth x.depth) (PyData.depthKv xs)=max (n6 t) (E6 ts);rw[e1,e,k4,Nat.zero_max]
end
theorem yj{n:Nat}{t:T}(h:fb n t)(hw:c9 t<=400000)(hd:n6 t<=100):∃z,ub t=some z:=by
 obtain⟨x,e,s,l,w,d⟩:=Lm n t h;have:=PyData.shown_le 30 (by decide) x l;refine⟨x.shown, ?_⟩;unfold ub;rw[e];show (if _ then _ else _)=_;rw[if_pos ⟨s,by rw[sizeLine_eq];omega,by rw[d];exact hd⟩]
theorem T2{n:Nat}:∀{ts:ZZ},T3 n ts↔∀t∈ts,fb n t
 | []=>⟨fun _ t m=>absurd m Vk,fun _=>trivial⟩
 | t::ts=>⟨fun h u m=>by
   rcases Yw.mp m with rfl | m
   .exact h.1
   .exact T2.mp h.2 u m,fun h=>⟨h t Y5,T2.mpr fun u m=>h u (Y7 _ m)⟩⟩
mutual
theorem fb.mono{n m:Nat}(h:n<=m):∀t:T,fb n t->fb m t
 | .int _,g=>g
 | .str _,g=>g
 | .non,g=>g
 | .bl _,g=>g
 | .fn _,g=>g
 | .tup ts,g=>⟨Ve g.1 h,T3.mono h ts g.2⟩
 | .lst ts,g=>⟨Ve g.1 h,T3.mono h ts g.2⟩
 | .dct ts,g=>Lb.mono h ts g
theorem T3.mono{n m:Nat}(h:n<=m):∀t:ZZ,T3 n t->T3 m t
 | [],_=>trivial
 | t::ts,g=>⟨fb.mono h t g.1,T3.mono h ts g.2⟩
theorem Lb.mono{n m:Nat}(h:n<=m):∀t:ZX,Lb n t->Lb m t
 | [],_=>trivial
 | (k,t)::ts,g=>⟨g.1,fb.mono h t g.2.1,Lb.mono h ts g.2.2⟩
end
end PV
namespace PV
open PySem PySem.Spec PyProof.Rows L2 SRT
theorem Zxs{b:Bool}(h:(!b)=true):b=false:=by
 cases b with
 | true=>cases h
 | false=>rfl
theorem Zxh{b:Bool}(h:(!b)=false):b=true:=by
 cases b with
 | true=>rfl
 | false=>cases h
end PV
namespace PV
open PySem PySem.Spec PyProof.Rows L2
def Hw(K:W.Frag):Sp:=fun vs H Q _=>∃(a:Addr) (ns:ZL),vs=[.ref a]/\Vc K H a (ns.map V.int)/\ns.length<=63/\∀H',Q (.bl true) H'
noncomputable def notList:Value->Bool
 | .type n=>!decide (n = "list")
 | _=>true
noncomputable def Es(K:W.Frag):Bool:=K.all fun p=>notList p.2.cls
theorem lookup_mem{Z:Type}{a:Addr}{o:Z}:∀{K:List (Addr×Z)},K.lookup a=some o->∃b,(b,o)∈K
 | [],h=>by cases h
 | (b,o')::K,h=>by
  rw[List.lookup_cons]at h
  split at h
  .cases h;exact⟨b,Y5⟩
  .obtain⟨c,m⟩:=lookup_mem h;exact⟨c,Y7 _ m⟩
theorem rd_of{K:W.Frag}{H:Hp}{a:Addr}{vs:ZQ}(hK:Es K=true)(h:Vc K H a vs):Rd H a (.lst vs):=by
 rcases h with h | ⟨o,XD,n,lk,hc,_⟩
 .exact h
 .obtain⟨b,m⟩:=lookup_mem lk;have:=K0.mp hK _ m;rw[show ((b,o):Addr×Obj).2.cls=.type "list" from hc]at this;cases this
theorem Wh{K:W.Frag}{mg:ZV}{H F:Hp}:∀zs:ZL,Zx K mg H F (zs.map .int) (zs.map .int)
 | []=>rfl
 | z::zs=>⟨_,_,rfl,rfl,Wh zs⟩
theorem ip{K:W.Frag}{mg:ZV}{c:List Sl->Option (Sl×ZZ)}(hK:Es K=true)(hc:∀zs:ZL,zs.length<=63->c [.f (.lst (zs.map .int))]=some (.f (.bl true),[])):∀vs H Q E,Hw K vs H Q E->spC K mg 1 c vs H Q E:=by
 intro vs H Q E h;obtain⟨a,ns,rfl,hS,hl,hq⟩:=h;have rd:=rd_of hK hS;have sl:=sizeLine_eq;refine⟨rfl,fun b=>if b=a then H a else none,fun _=>none,_,_,hc ns hl,⟨⟨fun b o e=>?_,fun _ _ z=>(nomatch z),fun _ _=>rfl⟩,fun i t e=>?_,fun i t e=>?_,fun i j t u b e _ _ _=>?_,rfl⟩,fun F' H' v l u r rs=>?_⟩
 .split at e
  .rename_i z;rw[z];exact e
  .cases e
 .match i,e with
  | 0,e =>
   cases e;refine⟨.ref a,rfl,a,ns.map .int,rfl, ?_,by rw[Yn];omega,Wh ns⟩;rcases rd with h | ⟨o,h⟩
   .exact .inl (by show (if a=a then H a else none)=_;rw[if_pos rfl];exact h)
   .exact .inr ⟨o,by show (if a=a then H a else none)=_;rw[if_pos rfl];exact h⟩
  | i+1,e=>simp at e
 .match i,e with
  | 0,e=>cases e
  | i+1,e=>simp at e
 .match i,e with
  | 0,e=>cases e
  | i+1,e=>simp at e
 .have:v=.bl true:=rs;rw[this];exact hq H'
theorem walkP'{l:W.OpenLaw}{q:Program}{loose:ZD}{XP:(ZV)->Heap->Prop}{YP:World->Heap->Prop}{d:DefRec}{K:Params->W.Frag}{k:Nat}(hn:l.most=some 63)(hdf:d.params.defaults=[])(hr:Vu k callerA)
  (hY:∀(w:World) (h:Heap),YP w h->(K w.params).In h)
  (F:∀(w:World) (mg:ZV) (fa:Addr) (h:Heap),(K w.params).In h->h.Ns mainGlobals mg->mg d.name=some (.ref fa) ->
   ∃fd:FuncData,(∀(s:Shared) (u:Value),BindsTo s fd ⟨[u],[]⟩ [("_law_script",u)])/\∀base:Heap,(K w.params).In base->base.Ns mainGlobals mg->Jq l.prog w (K w.params) mg base lg k fa fd ["_law_script"] (Hw (K w.params))) :
  W.WalkO q loose XP YP l.row.toRowW d [] (fun f vs=>PySem.call f vs) :=
 L2.lh (n:=63) (k:=k) (x:="_law_script") (CX:=fun _=>lg) (sp:=fun w=>Hw (K w.params)) hn (by decide) hdf hr hY F (fun _ _ a ns hl _ hS=>⟨a,ns,rfl,hS,hl,fun _=>rfl⟩) fun _ _ _ _ _ z=>z
structure FA(K:W.Frag)(x:Str)(st:Stmt)(f:Addr)(fd:FuncData):Prop where
 a:W.nsIn K mainGlobals x=some (some (.ref f))
 F:Fun K x x st f fd
noncomputable def chk(N:ZD)(d:Df)(st:Stmt):Bool :=
 (match (Zg st).kind with | .function=>true | _=>false) && (!(Zg st).isCoroutine && (!(Zg st).isGenerator && (decide N.Nodup && (decide (N.take (N.take d.ar).length=N.take d.ar) && (((N.take d.ar).all fun x=>decide ((Zg st).names.lookup x=some .local) || decide ((Zg st).names.lookup x=some .cell)) && (((Zg st).names.all fun y=>!decide (y.2=.free)) && (decide (N.length=d.n) && (decide ((N.take d.ar).length=d.ar) && (decide ((N.take d.ar).length<=N.length) && J2 N (Zg st) d.code (Y0 st))))))))))
theorem t7{N:ZD}{d:Df}{st:Stmt}(h:chk N d st=true):G1 N (N.take d.ar) (Zg st)/\N.length=d.n/\(N.take d.ar).length=d.ar/\(N.take d.ar).length<=N.length/\J2 N (Zg st) d.code (Y0 st)=true:=by
 unfold chk at h;simp only[Y6,decide_eq_true_eq]at h;obtain⟨h1,h2,h3,h4,h5,h6,h7,h8,h9,h10,h11⟩:=h;refine⟨⟨?_,by simpa using h2,by simpa using h3,h4,h5,fun x m=>?_,fun y m=>?_⟩,h8,h9,h10,h11⟩
 .split at h1
  .assumption
  .cases h1
 .have:=K0.mp h6 x m;simpa using this
 .have:=K0.mp h7 y m;simpa using this
theorem FA.fc{K:W.Frag}{mg:ZV}{h:Heap}{x:Str}{st:Stmt}{f:Addr}{fd:FuncData}{d:Df}{N:ZD}(A:FA K x st f fd)(X:K.In h)(G:h.Ns mainGlobals mg)(hc:chk N d st=true)
  (hb:∀(kV doc pm:Value) (an:ZP) (cdv ct:Value) (us:ZM),us.length=(N.take d.ar).length->bindArgs (W.fnOf x x (Jt st) (Y0 st) (Zg st) .none kV doc pm an cdv ct) ⟨us,[]⟩=pure ((N.take d.ar).zip us)):N3 K mg x d :=
 let ⟨S,hn,ha,hl,hr⟩:=t7 hc
 ⟨⟨st,f,fd,N,N.take d.ar,A.F,W.mg_of X G A.a,S,hn,ha,hl,hr,A.F.binds hb⟩⟩
def FC(x:Str)(st:Stmt)(d:Df):Prop:=∀{K:W.Frag} {mg:ZV} {h:Heap} {f:Addr} {fd:FuncData},K.In h->h.Ns mainGlobals mg->FA K x st f fd->N3 K mg x d
theorem tab_of{K:W.Frag}{mg:ZV}{L:List (Str×Df)}(h:∀p∈L,N3 K mg p.1 p.2)(f:Str)(d:Df)(e:((L.find? fun p=>decide (p.1=f)).map (·.2))=some d):N3 K mg f d:=by
 obtain⟨p,hp,rfl⟩:=Z8.mp e;have t:=List.find?_some hp;have this:p.1=f:=Rh t;have q:=h p (List.mem_of_find?_eq_some hp);rw[this]at q;exact q
theorem usS{n:Nat}{us:ZM}(h:us.length=n+1):∃a r,us=a::r/\r.length=n:=by
 cases us with
 | nil=>cases h
 | cons a r=>exact⟨a,r,rfl,Nat.succ.inj h⟩
theorem us0{us:ZM}(h:us.length=0):us=[]:=List.eq_nil_of_length_eq_zero h
theorem qb{us:ZM}(h:us.length=1):∃a,us=[a]:=by
 obtain⟨a,r,rfl,g⟩:=usS h;cases us0 g;exact⟨a,rfl⟩
theorem Xw{us:ZM}(h:us.length=2):∃a b,us=[a,b]:=by
 obtain⟨a,r,rfl,g⟩:=usS h;obtain⟨b,rfl⟩:=qb g;exact⟨a,b,rfl⟩
theorem us3{us:ZM}(h:us.length=3):∃a b c,us=[a,b,c]:=by
 obtain⟨a,r,rfl,g⟩:=usS h;obtain⟨b,c,rfl⟩:=Xw g;exact⟨a,b,c,rfl⟩
theorem us4{us:ZM}(h:us.length=4):∃a b c d,us=[a,b,c,d]:=by
 obtain⟨a,r,rfl,g⟩:=usS h;obtain⟨b,c,d,rfl⟩:=us3 g;exact⟨a,b,c,d,rfl⟩
end PV
namespace K37
open PySem PySem.Spec PyProof.Rows L2 PV
def Ma:S:=(Ux (.ret (.pr (.cm .ne) (Zk (Zf (.v 0) (ki 3)) (.tup .nil)))))
def Yd:Df:=⟨1,1,Ma⟩
def qj:S:=(Ux (.ret (.pr .get1 (Zk (Zf (.v 0) (ki 1)) (.v 1)))))
def Ge:Df:=⟨2,2,qj⟩
noncomputable def Rn:S:=(.seq (.set 1 (.call "leasts_of" (Z5 (.v 0))))
   (.seq (.ret (.pr .tuple (Z5 (.comp (.v 0) (.pr .sorted (Z5 (Zf (.v 0) (ki 1)))) (.pr (.cm .is) (Zk (Zf (.v 1) (.v 0)) (.k .non))) (.v 0) [none,some 1] ["name","leasts"]))))
   .nil))
def Vy:Df:=⟨2,1,Rn⟩
noncomputable def Of:S:=(.seq (.set 1 (.pr .dict (Z5 (.comp (.v 0) (Zf (.v 0) (ki 1)) .nil (.tup (Zk (.v 0) (.k .non))) [none] ["name"]))))
   (.seq (.loop (.v 2) (.itr .rng (Z5 (F8 (Zf (.v 0) (ki 1)))))
    (Ux (.set 1 (.pr .dict (Z5 (.comp (.v 0) (Zf (.v 0) (ki 1)) .nil (.tup (Zk (.v 0) (.call "least_by" (Zk (.call "form_of" (Zk (.v 2) (.v 0))) (.v 1))))) [none,some 1,some 0] ["name","leasts","make"]))))))
   (.seq (.ret (.mv 1))
   .nil)))
def Uy:Df:=⟨3,1,Of⟩
noncomputable def Kj:S:=(.seq (.set 2 (Zf (.v 0) (ki 0)))
   (.seq (.ite (V9 (.v 2) (ks "whole"))
    (Ux (.ret (.tup (Zk (ki 1) (Zf (.v 0) (ki 1))))))
    .nil)
   (.seq (.ite (V9 (.v 2) (ks "truth"))
    (Ux (.ret (.tup (Zk (ki 1) (.k (.bl false))))))
    .nil)
   (.seq (.ite (V9 (.v 2) (ks "text"))
    (Ux (.ret (.tup (Zk (ki 1) (ks "")))))
    .nil)
   (.seq (.ite (V9 (.v 2) (ks "record"))
    (Ux (.ret (.call "least_record" (Zk (Zf (.v 0) (ki 1)) (.v 1)))))
    .nil)
   (.seq (.ite (V9 (.v 2) (ks "choice"))
    (Ux (.ret (.call "least_choice" (Zk (Zf (.v 0) (ki 1)) (.v 1)))))
    .nil)
   (.seq (.ret (.tup (Zk (ki 1) (.tup .nil))))
   .nil)))))))
def Jc:Df:=⟨3,2,Kj⟩
noncomputable def Cp:S:=(.seq (.set 2 (.comp (.v 0) (.v 0) .nil (.ite (.call "may_be_left_out" (Z5 (.v 0))) (.tup (Zk (ki 0) (Zf (Zf (.v 0) (ki 3)) (ki 0)))) (Zf (.v 1) (Zf (.v 0) (ki 2)))) [none,some 1] ["field","leasts"]))
   (.seq (.ite (.pr (.cm .isin) (Zk (.k .non) (.v 2)))
    (Ux (.ret (.k .non)))
    .nil)
   (.seq (.ret (.tup (Zk (Mh (ki 1) (.pr .sum (Z5 (.comp (.v 0) (.v 2) .nil (Zf (.v 0) (ki 0)) [none] ["part"])))) (.tup (Zk (.pr .tuple (Z5 (.comp (.v 0) (.v 2) .nil (Zf (.v 0) (ki 1)) [none] ["part"]))) (.tup .nil))))))
   .nil)))
def Y2:Df:=⟨3,2,Cp⟩
noncomputable def Cu:S:=(.seq (.set 2 (.comp (.v 0) (.v 0) (.pr (.cm .isnt) (Zk (Zf (.v 1) (Zf (.v 0) (ki 2))) (.k .non))) (.tup (Bn (Zf (Zf (.v 1) (Zf (.v 0) (ki 2))) (ki 0)) (Zf (.v 0) (ki 0)) (Zf (.v 0) (ki 2)))) [none,some 1] ["arm","leasts"]))
   (.seq (.ite (V9 (F8 (.v 2)) (ki 0))
    (Ux (.ret (.k .non)))
    .nil)
   (.seq (.set 3 (.pr .min (Z5 (.v 2))))
   (.seq (.ret (.tup (Zk (Mh (ki 1) (Zf (.v 3) (ki 0))) (.tup (Bn (ks "arm") (Zf (.v 3) (ki 1)) (Zf (Zf (.v 1) (Zf (.v 3) (ki 2))) (ki 1)))))))
   .nil))))
def Y3:Df:=⟨4,2,Cu⟩
noncomputable def Kv:S:=(Ux (.ret (.lst (Hn (.pr (.sl false true) (Zk (.v 0) (ki 63))) (ki 0) (ki 0) (ki 0)))))
def Jl:Df:=⟨1,1,Kv⟩
noncomputable def Jh:S:=(.seq (.set 2 (Zf (.v 0) (ki 0)))
   (.seq (.set 3 (Zf (.v 0) (ki 1)))
   (.seq (.put 0 (ki 1) (Mh (.v 3) (ki 1)))
   (.seq (.wh (.and (V9 (Zf (.v 0) (ki 2)) (ki 0)) (.pr (.cm .lt) (Zk (Zf (.v 0) (ki 3)) (F8 (.v 2)))))
    (.seq (.ite (.pr (.cm .ge) (Zk (.pr .abs (Z5 (Zf (.v 2) (Zf (.v 0) (ki 3))))) (.pr (.op .pow) (Zk (ki 10) (ki 18)))))
    (Ux (.put 0 (ki 2) (.pr .abs (Z5 (Zf (.v 2) (Zf (.v 0) (ki 3)))))))
    .nil)
   (.seq (.put 0 (ki 3) (Mh (Zf (.v 0) (ki 3)) (ki 1)))
   .nil)))
   (.seq (.ite (.pr (.cm .gt) (Zk (Zf (.v 0) (ki 2)) (ki 0)))
    (.seq (.set 4 (Zf (.v 0) (ki 2)))
   (.seq (.put 0 (ki 2) (.pr (.op .fdiv) (Zk (.v 4) (.v 1))))
   (.seq (.ret (.pr (.op .mod) (Zk (.v 4) (.v 1))))
   .nil)))
    .nil)
   (.seq (.set 5 (ki 0))
   (.seq (.ite (.pr (.cm .gt) (Zk (F8 (.v 2)) (ki 0)))
    (Ux (.set 5 (Zf (.v 2) (.pr (.op .mod) (Zk (.v 3) (F8 (.v 2)))))))
    .nil)
   (.seq (.set 6 (.pr (.op .mod) (Zk (.pr (.op .mul) (Zk (Mh (.pr (.op .mod) (Zk (.v 5) (ki 1000003))) (ki 1)) (Mh (Mh (.pr (.op .mul) (Zk (.pr (.op .mod) (Zk (.v 3) (ki 997))) (ki 7919))) (ki 104729)) (.v 3)))) (ki 1000033))))
   (.seq (.set 6 (.pr (.op .mod) (Zk (Mh (Mh (.pr (.op .mul) (Zk (.v 6) (.v 6))) (.pr (.op .mul) (Zk (ki 3) (.v 6)))) (.v 3)) (ki 999983))))
   (.seq (.ret (.pr (.op .mod) (Zk (.pr (.op .mod) (Zk (.pr (.op .mul) (Zk (.v 6) (ki 48271))) (ki 65537))) (.v 1))))
   .nil))))))))))
def Js:Df:=⟨7,2,Jh⟩
noncomputable def Om:S:=(.seq (.ite (V9 (Zf (.v 0) (ki 0)) (ks "record"))
    (.seq (.set 2 (.comp (.v 0) (Zf (.v 0) (ki 1)) (V9 (Zf (.v 0) (ki 3)) (.tup .nil)) (.pr .get2 (Bn (.v 1) (Zf (.v 0) (ki 2)) (ki 0))) [none,some 1] ["_law_field","_law_prices_here"]))
   (.seq (.ret (.ite (.pr (.cm .isin) (Zk (ki 0) (.v 2))) (ki 0) (Mh (ki 1) (.pr .sum (Z5 (.v 2))))))
   .nil))
    .nil)
   (.seq (.ite (V9 (Zf (.v 0) (ki 0)) (ks "choice"))
    (.seq (.set 2 (.comp (.v 0) (Zf (.v 0) (ki 1)) (.pr (.cm .isin) (Zk (Zf (.v 0) (ki 2)) (.v 1))) (Zf (.v 1) (Zf (.v 0) (ki 2))) [none,some 1] ["_law_arm","_law_prices_here"]))
   (.seq (.ret (.ite (V9 (.v 2) (.lst .nil)) (ki 0) (Mh (ki 1) (.pr .min (Z5 (.v 2))))))
   .nil))
    .nil)
   (.seq (.ret (ki 1))
   .nil)))
def Ug:Df:=⟨3,2,Om⟩
noncomputable def Ff:S:=(.seq (.set 1 (.pr .dnew .nil))
   (.seq (.loop (.v 2) (.itr .rng (Z5 (F8 (Zf (.v 0) (ki 1)))))
    (Ux (.loop (.v 3) (.pr .sorted (Z5 (Zf (.v 0) (ki 1))))
    (.seq (.set 4 (.call "_law_price" (Zk (Zf (Zf (.v 0) (ki 1)) (.v 3)) (.io 1))))
   (.seq (.ite (.pr (.cm .gt) (Zk (.v 4) (ki 0)))
    (Ux (.put 1 (.v 3) (.pr .min (Zk (.v 4) (.pr .get2 (Bn (.v 1) (.v 3) (.v 4)))))))
    .nil)
   .nil)))))
   (.seq (.ret (.mv 1))
   .nil)))
def Vh:Df:=⟨5,1,Ff⟩
noncomputable def Bf:S:=(.seq (.ite (.pr (.cm .gt) (Zk (.tmp (.pr .max (Z5 (Mh (.lst (Z5 (ki 0))) (.pr .lvals (Z5 (.call "_law_prices" (Z5 (.tup (Zk (.v 0) (.v 1))))))))))) (ki 100)))
    (Ux (.loop (.v 2) (.pr .sorted (Z5 (.v 1)))
    (Ux (.ite (V9 (Zf (Zf (.v 1) (.v 2)) (ki 0)) (ks "record"))
    (Ux (.put 1 (.v 2) (.tup (Bn (ks "record") (.pr (.sl false true) (Zk (Zf (Zf (.v 1) (.v 2)) (ki 1)) (ki 1))) (Zf (Zf (.v 1) (.v 2)) (ki 2))))))
    .nil))))
    .nil)
   (.seq (.ret (.tup (Zk (.v 0) (.v 1))))
   .nil))
def Ut:Df:=⟨3,2,Bf⟩
noncomputable def Kw:S:=(Ux (.ret (.pr (.join "") (Z5 (.comp (.v 0) (.pr .str (Z5 (.v 0))) .nil (Zf (ks "abcdefghij") (.pr .int (Z5 (.v 0)))) [none] ["_law_sign"])))))
def Jn:Df:=⟨1,1,Kw⟩
noncomputable def Oc:S:=(.seq (.set 1 (.lst (.cons (ks "a") (.cons (ks "ab") (.cons (ks "abc") (.cons (ks "form") (.cons (ks "row") (.cons (ks "text") (.cons (ks "must") (.cons (ks "none") (.cons (ks "b") (.cons (ks "map") .nil))))))))))))
   (.seq (.set 2 (.call "_law_draw" (Zk (.io 0) (ki 10))))
   (.seq (.ret (.comp (.v 0) (.itr .rng (Z5 (ki 8))) .nil (Zf (.v 1) (.pr (.op .mod) (Zk (Mh (.v 2) (.v 0)) (ki 10)))) [none,some 1,some 2] ["_law_k","_law_pool","_law_turn"]))
   .nil)))
def Ud:Df:=⟨3,1,Oc⟩
noncomputable def Od:S:=(.seq (.ite (V9 (.v 1) (ks "whole"))
    (.seq (.set 2 (Zf (.lst (.cons (ki 0) (.cons (ki 1) (.cons (.pr .neg (Z5 (ki 2))) (.cons (ki 7) (.cons (.pr .neg (Z5 (.pr (.op .pow) (Zk (ki 10) (ki 18))))) .nil)))))) (.call "_law_draw" (Zk (.io 0) (ki 5)))))
   (.seq (.ret (.tup (Bn (ks "whole") (.v 2) (.pr .min (Zk (.pr (.op .pow) (Zk (ki 10) (ki 18))) (Mh (.v 2) (Zf (.lst (Hn (ki 0) (ki 1) (ki 5) (.pr (.op .pow) (Zk (ki 10) (ki 18))))) (.call "_law_draw" (Zk (.io 0) (ki 4))))))))))
   .nil))
    .nil)
   (.seq (.ret (.ite (V9 (.v 1) (ks "text")) (.tup (Zk (.v 1) (Zf (.lst (Hn (ki 0) (ki 1) (ki 3) (ki 200))) (.call "_law_draw" (Zk (.io 0) (ki 4)))))) (.tup (Z5 (.v 1)))))
   .nil))
def Ub:Df:=⟨3,2,Od⟩
noncomputable def Rc:S:=(.seq (.ite (.or (.pr (.cm .isin) (Zk (Zf (.v 1) (ki 0)) (.tup (Zk (ks "record") (ks "choice"))))) (V9 (.call "_law_draw" (Zk (.io 0) (ki 2))) (ki 0)))
    (Ux (.ret (.tup .nil)))
    .nil)
   (.seq (.ite (V9 (Zf (.v 1) (ki 0)) (ks "whole"))
    (Ux (.ret (.tup (Z5 (Zf (.v 1) (Mh (ki 1) (.call "_law_draw" (Zk (.io 0) (ki 2)))))))))
    .nil)
   (.seq (.ite (V9 (Zf (.v 1) (ki 0)) (ks "text"))
    (Ux (.ret (.tup (Z5 (.pr (.op .mul) (Zk (Zf (ks "ab") (.call "_law_draw" (Zk (.io 0) (ki 2)))) (.pr .min (Zk (Zf (.v 1) (ki 1)) (.call "_law_draw" (Zk (.io 0) (ki 3)))))))))))
    .nil)
   (.seq (.ret (.ite (V9 (Zf (.v 1) (ki 0)) (ks "truth")) (.tup (Z5 (V9 (.call "_law_draw" (Zk (.io 0) (ki 2))) (ki 1)))) (.tup (Z5 (.tup .nil)))))
   .nil))))
def Vv:Df:=⟨2,2,Rc⟩
noncomputable def Rt:S:=(.seq (.set 1 (.comp (.v 0) (.lst (.cons (ki 1) (.cons (ki 2) (.cons (ki 9) (.cons (ki 10) (.cons (ki 99) (.cons (ki 100) (.cons (ki 999) .nil)))))))) (V9 (.call "_law_draw" (Zk (.io 1) (ki 2))) (ki 0)) (.v 0) [none,some 0] ["_law_number","_law_tape_here"]))
   (.seq (.ret (.ite (V9 (.call "_law_draw" (Zk (.io 0) (ki 8))) (ki 0)) (.pr (.sl false true) (Zk (.v 1) (ki 8))) (.pr (.sl false true) (Zk (.v 1) (ki 3)))))
   .nil))
def Vw:Df:=⟨2,1,Rt⟩
noncomputable def Ot:S:=(.seq (.set 4 (.lst .nil))
   (.seq (.loop (.v 5) (.call "_law_numbers" (Z5 (.io 0)))
    (.seq (.set 6 (Zf (.v 1) (.call "_law_draw" (Zk (.io 0) (F8 (.v 1))))))
   (.seq (.set 7 (.tup (Bn (.v 5) (Mh (Zf (.lst (Zk (ks "f") (ks "g"))) (.call "_law_draw" (Zk (.io 0) (ki 2)))) (.call "_law_word" (Z5 (.v 5)))) (.v 6))))
   (.seq (.ite (V9 (.v 3) (ks "record"))
    (Ux (.set 7 (Mh (.v 7) (.tup (Z5 (.call "_law_default" (Zk (.io 0) (.pr .get2 (Bn (.v 2) (.v 6) (.pr .tup1 (Z5 (.v 3))))))))))))
    .nil)
   (.seq (.ex (.mt .append 4 (Z5 (.v 7))))
   .nil)))))
   (.seq (.ret (.pr .tuple (Z5 (.v 4))))
   .nil)))
def Um:Df:=⟨8,4,Ot⟩
noncomputable def Fg:S:=(.seq (.set 2 (.comp (.v 0) (.v 1) .nil (Zf (.v 0) (ki 0)) [none] ["_law_part"]))
   (.seq (.ret (.pr .tuple (Z5 (.comp (.v 0) (.lst (Hn (ki 2) (ki 3) (ki 10) (ki 998))) (.and (.pr (.cm .notin) (Zk (.v 0) (.v 1))) (V9 (.call "_law_draw" (Zk (.io 2) (ki 4))) (ki 0))) (.v 0) [none,some 2,some 0] ["_law_number","_law_mine","_law_tape_here"]))))
   .nil))
def Vs:Df:=⟨3,2,Fg⟩
noncomputable def Ky:S:=(.seq (.set 1 (.pr (.sl false true) (Zk (.call "_law_names" (Z5 (.io 0))) (Zf (.lst (.cons (ki 1) (.cons (ki 2) (.cons (ki 3) (.cons (ki 3) (.cons (ki 4) (.cons (ki 5) (.cons (ki 6) (.cons (ki 8) .nil))))))))) (.call "_law_draw" (Zk (.io 0) (ki 8)))))))
   (.seq (.set 2 (.lst (.cons (ks "record") (.cons (ks "choice") (.cons (ks "row") (.cons (ks "whole") (.cons (ks "text") (.cons (ks "record") (.cons (ks "map") (.cons (ks "truth") (.cons (ks "choice") (.cons (ks "record") .nil))))))))))))
   (.seq (.set 3 (.comp (.v 0) (.v 1) .nil (Zf (.v 1) (.call "_law_draw" (Zk (.io 2) (ki 10)))) [none,some 2,some 0] ["_law_name","_law_sorts","_law_tape_here"]))
   (.seq (.set 4 (.pr .dnew .nil))
   (.seq (.loop (.tup (Zk (.v 5) (.v 6))) (.itr .zip (Zk (.v 1) (.v 3)))
    (.seq (.ite (.pr (.cm .isin) (Zk (.v 6) (.tup (Bn (ks "whole") (ks "truth") (ks "text")))))
    (Ux (.put 4 (.v 5) (.call "_law_plain" (Zk (.io 0) (.v 6)))))
    .nil)
   (.seq (.ite (.pr (.cm .isin) (Zk (.v 6) (.tup (Zk (ks "row") (ks "map")))))
    (Ux (.put 4 (.v 5) (.tup (Bn (.v 6) (Zf (.v 1) (.call "_law_draw" (Zk (.io 0) (F8 (.v 1))))) (Zf (.lst (Hn (ki 0) (ki 1) (ki 2) (ki 20))) (.call "_law_draw" (Zk (.io 0) (ki 4))))))))
    .nil)
   .nil)))
   (.seq (.set 7 (.pr .dict (Z5 (.v 4))))
   (.seq (.loop (.tup (Zk (.v 5) (.v 6))) (.itr .zip (Zk (.v 1) (.v 3)))
    (.seq (.ite (.pr (.cm .isin) (Zk (.v 6) (.tup (Zk (ks "record") (ks "choice")))))
    (.seq (.set 8 (.call "_law_parts" (Hn (.io 0) (.v 1) (.v 4) (.v 6))))
   (.seq (.put 7 (.v 5) (.tup (Bn (.v 6) (.v 8) (.call "_law_struck" (Zk (.io 0) (.v 8))))))
   .nil))
    .nil)
   (.seq (.ite (V9 (.v 6) (ks "choice"))
    (Ux (.put 7 (.v 5) (Mh (Zf (.v 7) (.v 5)) (.tup (Z5 (V9 (.call "_law_draw" (Zk (.io 0) (ki 2))) (ki 1)))))))
    .nil)
   .nil)))
   (.seq (.ret (.call "_law_light" (Zk (Zf (.v 1) (.call "_law_draw" (Zk (.io 0) (F8 (.v 1))))) (.io 7))))
   .nil))))))))
def Jr:Df:=⟨9,1,Ky⟩
noncomputable def Dz:S:=(Ux (.ret (.pr .max (Zk (.v 2) (.pr .min (Zk (.v 3) (Mh (.v 1) (Zf (.lst (Hn (ki 1) (.pr .neg (Z5 (ki 1))) (ki 0) (ki 2))) (.call "_law_draw" (Zk (.io 0) (ki 4)))))))))))
def Yz:Df:=⟨4,4,Dz⟩
noncomputable def Zj:S:=(.seq (.ite (V9 (Zf (.v 2) (ki 0)) (ks "whole"))
    (.seq (.set 3 (.comp (.v 0) (.pr (.sl true false) (Zk (.v 2) (ki 1))) .nil (.call "_law_number_turned" (Hn (.io 1) (.v 0) (.pr .neg (Z5 (.pr (.op .pow) (Zk (ki 10) (ki 18))))) (.pr (.op .pow) (Zk (ki 10) (ki 18))))) [none,some 0] ["_law_number","_law_tape_here"]))
   (.seq (.ret (.tup (Bn (ks "whole") (.pr .min (Z5 (.v 3))) (.pr .max (Z5 (.v 3))))))
   .nil))
    .nil)
   (.seq (.ite (V9 (Zf (.v 2) (ki 0)) (ks "text"))
    (Ux (.ret (.tup (Zk (ks "text") (.call "_law_number_turned" (Hn (.io 0) (Zf (.v 2) (ki 1)) (ki 0) (ki 200)))))))
    .nil)
   (.seq (.ite (V9 (Zf (.v 2) (ki 0)) (ks "truth"))
    (Ux (.ret (Zf (.lst (Bn (.v 2) (.tup (Bn (ks "whole") (ki 0) (ki 1))) (.tup (Bn (ks "whole") (ki 0) (ki 2))))) (.call "_law_draw" (Zk (.io 0) (ki 3))))))
    .nil)
   (.seq (.ite (.pr (.cm .isin) (Zk (Zf (.v 2) (ki 0)) (.tup (Zk (ks "row") (ks "map")))))
    (.seq (.set 4 (Zf (.lst (Zk (Zf (.v 2) (ki 1)) (Zf (.v 1) (.call "_law_draw" (Zk (.io 0) (F8 (.v 1))))))) (.pr .int (Z5 (V9 (.call "_law_draw" (Zk (.io 0) (ki 3))) (ki 0))))))
   (.seq (.ret (.tup (Bn (Zf (.v 2) (ki 0)) (.v 4) (.call "_law_number_turned" (Hn (.io 0) (Zf (.v 2) (ki 2)) (ki 0) (ki 20))))))
   .nil))
    .nil)
   (.seq (.set 5 (.pr .list (Z5 (Zf (.v 2) (ki 1)))))
   (.seq (.set 6 (.call "_law_draw" (Zk (.io 0) (Mh (F8 (.v 5)) (ki 1)))))
   (.seq (.set 7 (.call "_law_draw" (Zk (.io 0) (ki 4))))
   (.seq (.ite (.and (V9 (.v 7) (ki 0)) (.pr (.cm .lt) (Zk (.v 6) (F8 (.v 5)))))
    (Ux (.ex (.mt .popAt 5 (Z5 (.v 6)))))
    (Ux (.ite (.and (.pr (.cm .lt) (Zk (.v 7) (ki 3))) (.pr (.cm .lt) (Zk (.v 6) (F8 (.v 5)))))
    (.seq (.set 4 (Zf (.lst (Zk (Zf (Zf (.v 5) (.v 6)) (ki 2)) (Zf (.v 1) (.call "_law_draw" (Zk (.io 0) (F8 (.v 1))))))) (.pr .int (Z5 (V9 (.call "_law_draw" (Zk (.io 0) (ki 3))) (ki 0))))))
   (.seq (.put 5 (.v 6) (Mh (.tup (Bn (Zf (Zf (.v 5) (.v 6)) (ki 0)) (Mh (ks "h") (.call "_law_word" (Z5 (Zf (Zf (.v 5) (.v 6)) (ki 0))))) (.v 4))) (.pr (.sl true false) (Zk (Zf (.v 5) (.v 6)) (ki 3)))))
   (.seq (.ite (.and (V9 (Zf (.v 2) (ki 0)) (ks "record")) (V9 (.call "_law_draw" (Zk (.io 0) (ki 2))) (ki 0)))
    (.seq (.set 3 (Zf (.lst (Bn (.tup (Z5 (ki 0))) (.tup (Z5 (ki 9))) (.tup (Z5 (.pr (.op .mul) (Zk (ks "b") (ki 9))))))) (.call "_law_draw" (Zk (.io 0) (ki 3)))))
   (.seq (.put 5 (.v 6) (Mh (.pr (.sl false true) (Zk (Zf (.v 5) (.v 6)) (ki 3))) (.tup (Z5 (Zf (.lst (Zk (.tup .nil) (.v 3))) (.pr .int (Z5 (V9 (Zf (Zf (.v 5) (.v 6)) (ki 3)) (.tup .nil)))))))))
   .nil))
    .nil)
   .nil)))
    (.seq (.set 8 (Zf (.lst (.cons (ki 1) (.cons (ki 2) (.cons (ki 3) (.cons (ki 9) (.cons (ki 10) (.cons (ki 500) .nil))))))) (.call "_law_draw" (Zk (.io 0) (ki 6)))))
   (.seq (.set 9 (.tup (Bn (.v 8) (Mh (ks "k") (.call "_law_word" (Z5 (.v 8)))) (Zf (.v 1) (.call "_law_draw" (Zk (.io 0) (F8 (.v 1))))))))
   (.seq (.ite (V9 (Zf (.v 2) (ki 0)) (ks "record"))
    (Ux (.set 9 (Mh (.v 9) (.tup (Z5 (Zf (.lst (Zk (.tup .nil) (.tup (Z5 (ki 0))))) (.call "_law_draw" (Zk (.io 0) (ki 2)))))))))
    .nil)
   (.seq (.ite (.and (.tmp (.pr (.cm .notin) (Zk (.v 8) (.comp (.v 0) (.v 5) .nil (Zf (.v 0) (ki 0)) [none] ["_law_part"])))) (.pr (.cm .lt) (Zk (F8 (.v 5)) (ki 8))))
    (Ux (.ex (.mt .append 5 (Z5 (.v 9)))))
    .nil)
   .nil)))))))
   (.seq (.set 10 (.comp (.v 0) (.v 5) .nil (Zf (.v 0) (ki 0)) [none] ["_law_part"]))
   (.seq (.set 11 (.pr .tuple (Z5 (.comp (.v 0) (Zf (.v 2) (ki 2)) (.pr (.cm .notin) (Zk (.v 0) (.v 1))) (.v 0) [none,some 10] ["_law_number","_law_mine"]))))
   (.seq (.set 12 (.tup (Bn (Zf (.v 2) (ki 0)) (.pr .tuple (Z5 (.pr .sorted (Z5 (.v 5))))) (.v 11))))
   (.seq (.ret (.ite (V9 (Zf (.v 2) (ki 0)) (ks "record")) (.v 12) (Mh (.v 12) (.tup (Z5 (.pr (.cm .ne) (Zk (Zf (.v 2) (ki 3)) (V9 (.call "_law_draw" (Zk (.io 0) (ki 3))) (ki 0)))))))))
   .nil))))))))))))
def Yj:Df:=⟨13,3,Zj⟩
noncomputable def Ol:S:=(.seq (.ite (.pr (.cm .ne) (Zk (Zf (.v 1) (ki 0)) (ks "record")))
    (Ux (.ret (.mv 1)))
    .nil)
   (.seq (.set 2 (.lst .nil))
   (.seq (.loop (.tup (Hn (.v 3) (.v 4) (.v 5) (.v 6))) (Zf (.v 1) (ki 1))
    (.seq (.set 7 (Zf (.v 0) (.v 5)))
   (.seq (.ite (.pr (.cm .isin) (Zk (Zf (.v 7) (ki 0)) (.tup (Zk (ks "record") (ks "choice")))))
    (Ux (.set 6 (.tup .nil)))
    .nil)
   (.seq (.ite (.and (.pr (.cm .ne) (Zk (.v 6) (.tup .nil))) (V9 (Zf (.v 7) (ki 0)) (ks "whole")))
    (Ux (.set 6 (.tup (Z5 (Mh (.pr .max (Zk (Zf (.v 7) (ki 1)) (.pr .min (Zk (Zf (.v 7) (ki 2)) (.ite (.pr (.isi .int) (Z5 (Zf (.v 6) (ki 0)))) (Zf (.v 6) (ki 0)) (ki 0)))))) (ki 0))))))
    .nil)
   (.seq (.ite (.and (.pr (.cm .ne) (Zk (.v 6) (.tup .nil))) (V9 (Zf (.v 7) (ki 0)) (ks "truth")))
    (Ux (.set 6 (.tup (Z5 (V9 (Zf (.v 6) (ki 0)) (ki 1))))))
    .nil)
   (.seq (.ite (.and (.pr (.cm .ne) (Zk (.v 6) (.tup .nil))) (V9 (Zf (.v 7) (ki 0)) (ks "text")))
    (Ux (.set 6 (.tup (Z5 (.pr (.sl false true) (Zk (.ite (.pr (.isi .str) (Z5 (Zf (.v 6) (ki 0)))) (Zf (.v 6) (ki 0)) (ks "")) (Zf (.v 7) (ki 1))))))))
    .nil)
   (.seq (.ite (.and (.pr (.cm .ne) (Zk (.v 6) (.tup .nil))) (.pr (.cm .isin) (Zk (Zf (.v 7) (ki 0)) (.tup (Zk (ks "row") (ks "map"))))))
    (Ux (.set 6 (.tup (Z5 (.tup .nil)))))
    .nil)
   (.seq (.ex (.mt .append 2 (Z5 (.tup (Hn (.v 3) (.v 4) (.v 5) (.v 6))))))
   .nil))))))))
   (.seq (.ret (.tup (Bn (ks "record") (.pr .tuple (Z5 (.v 2))) (Zf (.v 1) (ki 2)))))
   .nil))))
def Uc:Df:=⟨8,2,Ol⟩
noncomputable def Fy:S:=(.seq (.set 2 (.pr .sorted (Z5 (Zf (.v 1) (ki 1)))))
   (.seq (.set 3 (.pr .dict (Z5 (Zf (.v 1) (ki 1)))))
   (.seq (.loop (.v 4) (.itr .rng (Z5 (Zf (.lst (.cons (ki 0) (.cons (ki 1) (.cons (ki 2) (.cons (ki 3) (.cons (ki 6) (.cons (ki 12) .nil))))))) (.call "_law_draw" (Zk (.io 0) (ki 6))))))
    (.seq (.set 5 (Zf (.v 2) (.call "_law_draw" (Zk (.io 0) (F8 (.v 2))))))
   (.seq (.put 3 (.v 5) (.call "_law_shape_turned" (Bn (.io 0) (.v 2) (Zf (.v 3) (.v 5)))))
   .nil)))
   (.seq (.loop (.v 5) (.v 2)
    (Ux (.put 3 (.v 5) (.call "_law_fixed" (Zk (.io 3) (Zf (.v 3) (.v 5)))))))
   (.seq (.ret (.call "_law_light" (Zk (Zf (.v 1) (ki 0)) (.io 3))))
   .nil)))))
def Vr:Df:=⟨6,2,Fy⟩
noncomputable def Ob:S:=(.seq (.set 1 (.call "_law_prices" (Z5 (.v 0))))
   (.seq (.set 2 (.pr .repr (Z5 (.v 0))))
   (.seq (.set 3 (.pr .tuple (Z5 (.comp (.v 0) (.pr .sorted (Z5 (Zf (.v 0) (ki 1)))) (.pr (.cm .notin) (Zk (.v 0) (.v 1))) (.v 0) [none,some 1] ["_law_name","_law_prices_here"]))))
   (.seq (.ret (.and (V9 (.pr .repr (Z5 (.call "empty_forms" (Z5 (.v 0))))) (.pr .repr (Z5 (.v 3)))) (V9 (.pr .repr (Z5 (.v 0))) (.v 2))))
   .nil))))
def Uk:Df:=⟨4,1,Ob⟩
noncomputable def c_law:S:=(.seq (.set 1 (.call "_law_tape" (Z5 (.v 0))))
   (.seq (.loop (.v 2) (.itr .rng (Z5 (ki 3)))
    (.seq (.set 3 (.call "_law_make" (Z5 (.io 1))))
   (.seq (.ite (.or (.not (.call "_law_right" (Z5 (.v 3)))) (.not (.call "_law_right" (Z5 (.call "_law_turned" (Zk (.io 1) (.v 3)))))))
    (Ux (.ret (.k (.bl false))))
    .nil)
   .nil)))
   (.seq (.ret (.k (.bl true)))
   .nil)))
def Wc:Df:=⟨4,1,c_law⟩
theorem Et{c:Prop}[Decidable c]{Z:Type}{a:Z}{o:Option Z}{Q:Z->Prop}(h:c)(q:Q a):on (if c then some a else o) Q:=by rw[if_pos h];exact q
theorem Zs{b:Bool}{A B:Prop}(h:b=true->A)(h':b=false->B):if b=true then A else B:=by
 cases b with
 | true=>exact h rfl
 | false=>exact h' rfl
theorem o9{a b:Int}{Q:Sl->Prop}(h:0<=a/\a<2 ^ 64)(q:Q (.f (.int (a * b)))):on (opT .mul (.int a) (.int b)) Q:=Et (.inl ⟨by omega,h.2⟩) q
theorem modP{a b:Int}{Q:Sl->Prop}(h:0<b)(q:Q (.f (.int (a % b)))):on (opT .mod (.int a) (.int b)) Q:=Et h q
theorem divP{a b:Int}{Q:Sl->Prop}(h:0<b/\b<1073741824)(q:Q (.f (.int (a / b)))):on (opT .fdiv (.int a) (.int b)) Q:=Et h q
theorem Vp{ts:ZZ}{x:T}{Q:T×T->Prop}(h:ts.length<sizeLine)(q:Q (.lst (ts++[x]),.non)):on (iq .append (.lst ts) [x]) Q:=Et h q
noncomputable def Zy(zs:ZL)(i l k:Int):T:=.lst [.lst (zs.map .int),.int i,.int l,.int k]
def TP(t:T):Prop:=∃zs i l k,t=Zy zs i l k/\zs.length<=63/\0<=i/\0<=l/\0<=k/\k<=zs.length
def Ur(C:Cs):Prop:=∀(t:T) (m:Int),TP t->0<m->m<=1000000->on (C "_law_draw" [.o t,.f (.int m)]) fun x=>∃r t',0<=r/\r<m/\TP t'/\x=(.f (.int r),[t'])
theorem Zb{C:Cs}(h:Ur C){t:T}{m:Int}{Q:Sl×ZZ->Prop}(tp:TP t)(m0:0<m)(m1:m<=1000000)(q:∀r zs i l k,0<=r->r<m->TP (Zy zs i l k)->Q (.f (.int r),[Zy zs i l k])):on (C "_law_draw" [.o t,.f (.int m)]) Q :=
 Y4 (h t m tp m0 m1) fun x ⟨r,t',h1,h2,h3,e⟩=>by
  obtain⟨zs,i,l,k,e',g⟩:=id h3;rw[e,e'];exact q r zs i l k h1 h2 (e' ▸ h3)
theorem rn{w:W}(zs:ZL):wF Jl w [.f (.lst (zs.map .int))] fun x=>∃t,TP t/\x=(.o t,[]):=by
 refine Vx rfl fun D rt _=>?_
 have e:D0 (zs.map T.int) none (some 63)=(zs.take 63).map .int:=by
  unfold D0;rw[show HT.Yl (zs.map T.int).length 0 none=0 from rfl,show HT.Yl (zs.map T.int).length (zs.map T.int).length (some (63:Int))=min 63 (zs.map T.int).length from HT.W8 _ _ 63,List.drop_zero,Nat.sub_zero,List.map_take,Yn];rcases Nat.le_total 63 zs.length with h | h
  .rw[Nat.min_eq_left h]
  .rw[Nat.min_eq_right h,T0l (by rw[Yn];exact Yg _),T0l (by rw[Yn];exact h)]
 exact rt _ _ ⟨.lst [.lst (D0 (zs.map .int) none (some 63)),.int 0,.int 0,.int 0],⟨zs.take 63,0,0,0,by rw[e];rfl,by rw[L0t];omega,by omega,by omega,by omega,by omega⟩,rfl⟩
noncomputable def Vl:Nat->S->S
 | 0,s=>s
 | n+1,.seq _ r=>Vl n r
 | _,s=>s
theorem xl{w:W}{pt:Nat->Bool}{R:S}{D:En}{zs:ZL}{i l k m:Int}(h2:pt 2=false)(h3:pt 3=false)(h:wS w pt R [.o (Zy zs (i+1) l k),.f (.int m),.f (.lst (zs.map .int)),.f (.int i),.no,.no,.no] D) :
  wS w pt (.seq (.set 2 (Zf (.v 0) (ki 0))) (.seq (.set 3 (Zf (.v 0) (ki 1))) (.seq (.put 0 (ki 1) (Mh (.v 3) (ki 1))) R))) [.o (Zy zs i l k),.f (.int m),.no,.no,.no,.no,.no] D:=by
 show if pt 2=true then False else _
 rw[if_neg (by rw[h2];exact D2)];show if pt 3=true then False else _
 rw[if_neg (by rw[h3];exact D2)];exact h
theorem Zze{w:W}{zs:ZL}{i l k m:Int}(hz:zs.length<=63)(i0:0<=i)(l0:0<=l)(k0:0<=k)(k1:k<=zs.length)(m0:0<m)(m1:m<=1000000) :
  wF Js w [.o (Zy zs i l k),.f (.int m)] fun x=>∃r t',0<=r/\r<m/\TP t'/\x=(.f (.int r),[t']):=by
 refine Vx rfl fun D rt _=>?_;have hl:(zs.map T.int).length=zs.length:=Yn _
 have fin:∀l' k':Int,0<=l'->0<=k'->k'<=zs.length->wS w (V3 [.o (Zy zs i l k),.f (.int m)]) (Vl 4 Jh) [.o (Zy zs (i+1) l' k'),.f (.int m),.f (.lst (zs.map .int)),.f (.int i),.no,.no,.no] D:=fun l' k' l0 k0 k1=>by
  refine Zs (b:=decide (0<l')) (fun h=>?_) fun h=>?_
  .refine divP ⟨m0,by omega⟩ ?_;refine modP m0 ?_;exact rt _ _ ⟨l' % m,_,Int.emod_nonneg _ (by omega),Int.emod_lt_of_pos _ m0,⟨zs,i+1,l' / m,k',rfl,hz,by omega,Int.ediv_nonneg l0 (by omega),k0,k1⟩,rfl⟩
  .have end_:∀(c:Int),wS w (V3 [.o (Zy zs i l k),.f (.int m)]) (Vl 7 Jh) [.o (Zy zs (i+1) l' k'),.f (.int m),.f (.lst (zs.map .int)),.f (.int i),.no,.f (.int c),.no] D:=fun c=>by
    have a0:=Int.emod_nonneg c (show (1000003:Int)≠0 by omega);have a1:=Int.emod_lt_of_pos c (show (0:Int)<1000003 by omega);have b0:=Int.emod_nonneg i (show (997:Int)≠0 by omega);have b1:=Int.emod_lt_of_pos i (show (0:Int)<997 by omega);refine o9 (a:=i % 997) ⟨b0,by omega⟩ ?_;refine o9 (a:=c % 1000003+1) ⟨by omega,by omega⟩ ?_;have x0:0<=(c % 1000003+1) * (i % 997 * 7919+104729+i) % 1000033:=Int.emod_nonneg _ (by omega);have x1:(c % 1000003+1) * (i % 997 * 7919+104729+i) % 1000033<1000033:=Int.emod_lt_of_pos _ (by omega);obtain⟨x,hx⟩:∃x,(c % 1000003+1) * (i % 997 * 7919+104729+i) % 1000033=x:=⟨_,rfl⟩;show wS w _ _ [.o (Zy zs (i+1) l' k'),.f (.int m),.f (.lst (zs.map .int)),.f (.int i),.no,.f (.int c),.f (.int ((c % 1000003+1) * (i % 997 * 7919+104729+i) % 1000033))] _;rw[hx]at x0 x1 ⊢;refine o9 (a:=x) ⟨x0,by omega⟩ ?_;have y0:0<=(x * x+3 * x+i) % 999983:=Int.emod_nonneg _ (by omega);have y1:(x * x+3 * x+i) % 999983<999983:=Int.emod_lt_of_pos _ (by omega);obtain⟨y,hy⟩:∃y,(x * x+3 * x+i) % 999983=y:=⟨_,rfl⟩;show wS w _ _ [.o (Zy zs (i+1) l' k'),.f (.int m),.f (.lst (zs.map .int)),.f (.int i),.no,.f (.int c),.f (.int ((x * x+3 * x+i) % 999983))] _;rw[hy]at y0 y1 ⊢;refine o9 (a:=y) ⟨y0,by omega⟩ ?_;refine modP m0 ?_;exact rt _ _ ⟨_,_,Int.emod_nonneg _ (by omega),Int.emod_lt_of_pos _ m0,⟨zs,i+1,l',k',rfl,hz,by omega,l0,k0,k1⟩,rfl⟩
   refine Zs (b:=decide ((0:Int)<((zs.map T.int).length:Nat))) (fun g=>?_) fun g=>?_
   .have g:=Rh g;refine modP g ?_;obtain⟨x,hx,_,mx⟩:=Co (xs:=zs.map T.int) (Int.emod_nonneg i (show (((zs.map T.int).length:Nat):Int)≠0 by omega)) (Int.emod_lt_of_pos i g);obtain⟨z,_,rfl⟩:=B8.mp mx;refine Nf hx ?_;exact end_ z
   .exact end_ 0
 refine xl (R:=Vl 3 Jh) rfl rfl ?_;refine whS ?_;refine wWhI (fun n p=>∃l k:Int,p=[.o (Zy zs (i+1) l k),.f (.int m),.f (.lst (zs.map .int)),.f (.int i),.no,.no,.no]/\0<=l/\0<=k/\k<=zs.length/\n=zs.length - k.toNat) (fun n p K hi kt kf=>?_) (zs.length - k.toNat) 1000000 _ (by omega) ⟨l,k,rfl,l0,k0,k1,rfl⟩;obtain⟨l',k',rfl,l0,k0,k1,hn⟩:=hi;refine Zs (b:=decide (l'=0)) (fun h=>?_) fun h=>?_
 .refine boolP' (b:=decide (k'<((zs.map T.int).length:Nat))) (K:=fun b=>K b _) (fun h2=>?_) fun h2=>?_
  .have h2:=Rh h2;refine kt _ fun D' nx _ _ _=>?_;obtain⟨x,hx,_,mx⟩:=Co (xs:=zs.map T.int) k0 h2;obtain⟨z,_,rfl⟩:=B8.mp mx;refine Nf hx ?_;refine Zs (b:=decide ((10:Int) ^ 18<=if z<0 then -z else z)) (fun h3=>?_) fun h3=>?_
   .refine Nf hx ?_;exact nx (n - 1) _ (by omega) ⟨_,k'+1,rfl,by split<;>omega,by omega,by omega,by omega⟩
   .exact nx (n - 1) _ (by omega) ⟨_,k'+1,rfl,l0,by omega,by omega,by omega⟩
  .exact kf _ (fin l' k' l0 k0 k1)
 .exact kf _ (fin l' k' l0 k0 k1)
noncomputable def qk:ZD:=["a","ab","abc","form","row","text","must","none","b","map"]
noncomputable def Ye(r:Nat):ZD:=(List.range 8).map fun k=>qk.getD ((r+k) % 10) ""
def Lu(r:Sl):Prop:=∃ns:ZD,r=.o (.lst (ns.map .str))/\ns.length=8/\ns.Nodup/\∀n∈ns,n∈qk
theorem Z6:∀r,r<10->(Ye r).Nodup/\∀n∈Ye r,n∈qk:=by decide +kernel
set_option maxHeartbeats 2000000 in
theorem bj{w:W}(hD:Ur w.C){zs:ZL}{i l k:Int}(tp:TP (Zy zs i l k)):wF Ud w [.o (Zy zs i l k)] fun x=>∃(r:Sl) (t':T),Lu r/\TP t'/\x=(r,[t']):=by
 refine Vx rfl fun D rt _=>?_;refine Zb hD tp (by omega) (by omega) fun r K1 i' l' k' r0 r1 Xf=>?_;rcases(show r=0\/r=1\/r=2\/r=3\/r=4\/r=5\/r=6\/r=7\/r=8\/r=9 by omega) with rfl | rfl | rfl | rfl | rfl | rfl | rfl | rfl | rfl | rfl
 .exact rt _ _ ⟨_,_,⟨Ye 0,rfl,rfl,Z6 0 (by decide)⟩,Xf,rfl⟩
 .exact rt _ _ ⟨_,_,⟨Ye 1,rfl,rfl,Z6 1 (by decide)⟩,Xf,rfl⟩
 .exact rt _ _ ⟨_,_,⟨Ye 2,rfl,rfl,Z6 2 (by decide)⟩,Xf,rfl⟩
 .exact rt _ _ ⟨_,_,⟨Ye 3,rfl,rfl,Z6 3 (by decide)⟩,Xf,rfl⟩
 .exact rt _ _ ⟨_,_,⟨Ye 4,rfl,rfl,Z6 4 (by decide)⟩,Xf,rfl⟩
 .exact rt _ _ ⟨_,_,⟨Ye 5,rfl,rfl,Z6 5 (by decide)⟩,Xf,rfl⟩
 .exact rt _ _ ⟨_,_,⟨Ye 6,rfl,rfl,Z6 6 (by decide)⟩,Xf,rfl⟩
 .exact rt _ _ ⟨_,_,⟨Ye 7,rfl,rfl,Z6 7 (by decide)⟩,Xf,rfl⟩
 .exact rt _ _ ⟨_,_,⟨Ye 8,rfl,rfl,Z6 8 (by decide)⟩,Xf,rfl⟩
 .exact rt _ _ ⟨_,_,⟨Ye 9,rfl,rfl,Z6 9 (by decide)⟩,Xf,rfl⟩
noncomputable def Gs:ZL:=[1,2,3,9,10,99,100,500,999]
def Bb(i:Int):Prop:=-10 ^ 18<=i/\i<=10 ^ 18
def Sm(x:Str):Prop:=x.length<=9/\∀c∈x.cps.toList,c<16 ^ 8
inductive Dx:T->Prop
 | int{i:Int}(h:Bb i):Dx (.int i)
 | bl {b:Bool}:Dx (.bl b)
 | str {x:Str} (h:Sm x):Dx (.str x)
 | nil:Dx (.tup [])
inductive Ka:T->Prop
 | no:Ka (.tup [])
 | is {x:T} (h:Dx x):Ka (.tup [x])
def Dfs:Bool->ZZ->Prop
 | true,[d]=>Ka d
 | false,[]=>True
 | _,_=>False
inductive Fh(ns:ZD)(k:Bool):T->Prop
 | mk{n:Int}{x o:Str}{ds:ZZ}(hn:n∈Gs)(hx:Sm x)(ho:o∈ns)(hd:Dfs k ds):Fh ns k (.tup (.int n::.str x::.str o::ds))
noncomputable def J4:T->Int
 | .tup (.int i::_)=>i
 | _=>0
structure Yi(ns:ZD)(k:Bool)(ps:ZZ):Prop where
 l:ps.length<=8
 d:(ps.map J4).Nodup
 p:∀p∈ps,Fh ns k p
def Stk(ss:ZZ):Prop:=∃zs:ZL,ss=zs.map .int/\zs.length<=8/\∀z∈zs,Bb z
inductive Shp(ns:ZD):T->Prop
 | whole{a b:Int}(ha:Bb a)(hb:Bb b):Shp ns (.tup [.str "whole",.int a,.int b])
 | truth:Shp ns (.tup [.str "truth"])
 | text {n:Int} (h0:0<=n) (h1:n<=200):Shp ns (.tup [.str "text",.int n])
 | row {o:Str} {n:Int} (ho:o∈ns) (h0:0<=n) (h1:n<=20):Shp ns (.tup [.str "row",.str o,.int n])
 | map {o:Str} {n:Int} (ho:o∈ns) (h0:0<=n) (h1:n<=20):Shp ns (.tup [.str "map",.str o,.int n])
 | record {ps ss:ZZ} (hp:Yi ns true ps) (hs:Stk ss):Shp ns (.tup [.str "record",.tup ps,.tup ss])
 | choice {ps ss:ZZ} {b:Bool} (hp:Yi ns false ps) (hs:Stk ss):Shp ns (.tup [.str "choice",.tup ps,.tup ss,.bl b])
theorem Fh.mono{ns ms:ZD}{k:Bool}{t:T}(h:∀x∈ns,x∈ms)(p:Fh ns k t):Fh ms k t:=by
 cases p with
 | mk hn hx ho hd=>exact .mk hn hx (h _ ho) hd
theorem Yi.mono{ns ms:ZD}{k:Bool}{ps:ZZ}(h:∀x∈ns,x∈ms)(p:Yi ns k ps):Yi ms k ps:=⟨p.l,p.d,fun q m=>(p.p q m).mono h⟩
theorem Shp.mono{ns ms:ZD}{t:T}(h:∀x∈ns,x∈ms)(p:Shp ns t):Shp ms t:=by
 cases p with
 | whole a b=>exact .whole a b
 | truth=>exact .truth
 | text a b=>exact .text a b
 | row a b c=>exact .row (h _ a) b c
 | map a b c=>exact .map (h _ a) b c
 | record a b=>exact .record (a.mono h) b
 | choice a b=>exact .choice (a.mono h) b
noncomputable def rngI(lo hi:Int):T->Bool
 | .int j=>decide (lo<=j) && decide (j<=hi)
 | _=>false
theorem Dk{ts:ZZ}{r:Int}{Q:Sl->Prop}(lo hi:Int)(h0:0<=r)(h1:r<ts.length)(c:ts.all (rngI lo hi)=true)(q:∀j:Int,lo<=j->j<=hi->T.int j∈ts->Q (.f (.int j))):on ((z6 (.lst ts) (.int r)).map Sl.f) Q:=by
 refine ixP h0 h1 fun x _ mx=>?_;have:=K0.mp c x mx;unfold rngI at this
 split at this
 .simp only[Y6,decide_eq_true_eq]at this;exact q _ this.1 this.2 mx
 .cases this
theorem Vf{ss:ZD}{r:Int}{Q:Sl->Prop}(h0:0<=r)(h1:r<(ss.map T.str).length)(q:∀o∈ss,Q (.f (.str o))):on ((z6 (.lst (ss.map .str)) (.int r)).map Sl.f) Q:=by
 refine ixP h0 h1 fun x _ mx=>?_;obtain⟨o,mo,rfl⟩:=B8.mp mx;exact q o mo
def Tp(C:Cs)(f:Str)(as:List Sl)(R:Sl->Prop):Prop:=∀t,TP t->on (C f (.o t::as)) fun x=>∃r t',R r/\TP t'/\x=(r,[t'])
theorem Fe{C:Cs}{f:Str}{as:List Sl}{R:Sl->Prop}{t:T}{Q:Sl×ZZ->Prop}(h:Tp C f as R)(tp:TP t)(q:∀r zs i l k,R r->TP (Zy zs i l k)->Q (r,[Zy zs i l k])):on (C f (.o t::as)) Q :=
 Y4 (h t tp) fun x ⟨r,t',h1,h3,e⟩=>by
  obtain⟨zs,i,l,k,e',g⟩:=id h3;rw[e,e'];exact q r zs i l k h1 (e' ▸ h3)
def Td(d:Df)(w:W)(as:List Sl)(R:Sl->Prop):Prop:=∀zs i l k,TP (Zy zs i l k)->wF d w (.o (Zy zs i l k)::as) fun x=>∃r t',R r/\TP t'/\x=(r,[t'])
def ny(P:T->Prop)(r:Sl):Prop:=∃t,r=.f t/\P t
theorem ke{w:W}(hD:Ur w.C){s:Str}(hs:s = "whole" \/ s = "truth" \/ s = "text")(ns:ZD):Td Ub w [.f (.str s)] (ny (Shp ns)):=by
 intro zs i l k tp;rcases hs with rfl | rfl | rfl
 .refine Vx rfl fun D rt _=>?_;refine Zb hD tp (by omega) (by omega) fun r zs i l k r0 r1 tp=>?_;refine Dk (-10 ^ 18) 7 r0 r1 rfl fun a a0 a1 _=>?_;refine Zb hD tp (by omega) (by omega) fun r zs i l k r0 r1 tp=>?_;refine Dk 0 (10 ^ 18) r0 r1 rfl fun b b0 b1 _=>?_;exact rt _ _ ⟨_,_,⟨.tup [.str "whole",.int a,.int (if a+b<10 ^ 18 then a+b else 10 ^ 18)],rfl,.whole ⟨a0,by omega⟩ ⟨by split<;>omega,by split<;>omega⟩⟩,tp,rfl⟩
 .refine Vx rfl fun D rt _=>?_;exact rt _ _ ⟨_,_,⟨_,rfl,.truth⟩,tp,rfl⟩
 .refine Vx rfl fun D rt _=>?_;refine Zb hD tp (by omega) (by omega) fun r zs i l k r0 r1 tp=>?_;refine Dk 0 200 r0 r1 rfl fun a a0 a1 _=>?_;exact rt _ _ ⟨_,_,⟨_,rfl,.text a0 a1⟩,tp,rfl⟩
theorem two{r:Int}(h0:0<=r)(h:r<2):r=0\/r=1:=by omega
theorem Hu{x:Str}{n:Nat}(h:n * x.length<=9)(hx:∀c∈x.cps.toList,c<16 ^ 8):Sm (repS x n):=by
 refine⟨by rw[Qo];exact h,fun c m=>?_⟩;rw[Dr]at m;obtain⟨l,ml,mc⟩:=List.mem_flatten.mp m;rw[(List.mem_replicate.mp ml).2]at mc;exact hx c mc
theorem E8{w:W}(hD:Ur w.C){ns:ZD}{t:T}(ht:Shp ns t\/t=.tup [.str "record"]):Td Vv w [.f t] (ny Ka):=by
 intro zs i l k tp;refine Vx rfl fun D rt _=>?_;have no:∀K1 i' l' k',TP (Zy K1 i' l' k')->D.rt (.f (.tup [])) [.o (Zy K1 i' l' k'),.f t]:=fun _ _ _ _ tp=>rt _ _ ⟨_,_,⟨_,rfl,.no⟩,tp,rfl⟩;rcases ht with ht | rfl
 .cases ht with
  | record hp hs=>exact no _ _ _ _ tp
  | choice hp hs=>exact no _ _ _ _ tp
  | whole ha hb =>
   refine Zb hD tp (by omega) (by omega) fun r zs i l k r0 r1 tp=>?_;refine Zs (b:=decide (r=0)) (fun _=>no _ _ _ _ tp) fun _=>?_;refine Zb hD tp (by omega) (by omega) fun r zs i l k r0 r1 tp=>?_;rcases two r0 r1 with rfl | rfl
   .exact rt _ _ ⟨_,_,⟨_,rfl,.is (.int ha)⟩,tp,rfl⟩
   .exact rt _ _ ⟨_,_,⟨_,rfl,.is (.int hb)⟩,tp,rfl⟩
  | text h0 h1 =>
   refine Zb hD tp (by omega) (by omega) fun r zs i l k r0 r1 tp=>?_;refine Zs (b:=decide (r=0)) (fun _=>no _ _ _ _ tp) fun _=>?_;refine Zb hD tp (by omega) (by omega) fun r zs i l k r0 r1 tp=>?_
   obtain⟨x,hx,e⟩:∃x:Str,(x.length=1/\∀c∈x.cps.toList,c<16 ^ 8)/\z6 (.str "ab") (.int r)=some (.str x):=by
    rcases two r0 r1 with rfl | rfl
    .exact⟨"a",⟨rfl,by decide⟩,rfl⟩
    .exact⟨"b",⟨rfl,by decide⟩,rfl⟩
   refine Yv (a:=Sl.f (.str x)) (congrArg (Option.map Sl.f) e) ?_;refine Zb hD tp (by omega) (by omega) fun r zs i l k r0 r1 tp=>?_;refine Et (a:=Sl.f (.str (repS x _))) ⟨by split<;>omega,by split<;>omega,by omega⟩ ?_;exact rt _ _ ⟨_,_,⟨_,rfl,.is (.str (Hu (by rw[hx.1];split<;>omega) hx.2))⟩,tp,rfl⟩
  | truth =>
   refine Zb hD tp (by omega) (by omega) fun r zs i l k r0 r1 tp=>?_;refine Zs (b:=decide (r=0)) (fun _=>no _ _ _ _ tp) fun _=>?_;refine Zb hD tp (by omega) (by omega) fun r zs i l k r0 r1 tp=>?_;exact rt _ _ ⟨_,_,⟨_,rfl,.is .bl⟩,tp,rfl⟩
  | row ho h0 h1 =>
   refine Zb hD tp (by omega) (by omega) fun r zs i l k r0 r1 tp=>?_;refine Zs (b:=decide (r=0)) (fun _=>no _ _ _ _ tp) fun _=>?_;exact rt _ _ ⟨_,_,⟨_,rfl,.is .nil⟩,tp,rfl⟩
  | map ho h0 h1 =>
   refine Zb hD tp (by omega) (by omega) fun r zs i l k r0 r1 tp=>?_;refine Zs (b:=decide (r=0)) (fun _=>no _ _ _ _ tp) fun _=>?_;exact rt _ _ ⟨_,_,⟨_,rfl,.is .nil⟩,tp,rfl⟩
 .exact no _ _ _ _ tp
noncomputable def wd(n:Int):Str:=if n=1 then "b" else if n=2 then "c" else if n=3 then "d" else if n=9 then "j" else if n=10 then "ba" else if n=99 then "jj" else if n=100 then "baa" else if n=500 then "faa" else "jjj"
theorem wd_sm:∀n∈Gs,(wd n).length<=3/\∀c∈(wd n).cps.toList,c<16 ^ 8:=by decide +kernel
theorem jk{w:W}{n:Int}(h:n∈Gs):Rq Jn w [.f (.int n)]=some (.f (.str (wd n)),[]):=by
 simp only[Gs,Yw,Vk,or_false]at h;rcases h with rfl | rfl | rfl | rfl | rfl | rfl | rfl | rfl | rfl<;>kernel_rfl
def O8(C:Cs):Prop:=∀n∈Gs,on (C "_law_word" [.f (.int n)]) fun x=>x=(.f (.str (wd n)),[])
theorem Qq{C:Cs}(h:O8 C){n:Int}{Q:Sl×ZZ->Prop}(hn:n∈Gs)(q:Q (.f (.str (wd n)),[])):on (C "_law_word" [.f (.int n)]) Q:=Y4 (h n hn) fun x e=>by rw[e];exact q
theorem D5{a:Str}{n:Int}(ha:a.length=1/\∀c∈a.cps.toList,c<16 ^ 8)(h:n∈Gs):Sm (a++wd n):=by
 obtain⟨h1,h2⟩:=wd_sm n h;refine⟨by rw[Str.length_append];omega,fun c m=>?_⟩;rcases mem_cps_append.mp m with m | m
 .exact ha.2 c m
 .exact h2 c m
theorem Mc(XM:ZX)(k k':Key)(v:T):Zr (Ya XM k v) k'=if k=k' then some v else Zr XM k':=by
 unfold Ya
 split
 .rename_i h
  induction XM with
  | nil=>simp at h
  | cons p r ih =>
   rw[List.any_cons,Bool.or_eq_true]at h;unfold Zr at ih ⊢;rw[C8,List.find?_cons];by_cases e:p.1=k
   .rw[if_pos e];by_cases e':k=k'
    .rw[Dw (show (p.1,v).1=k' from e.trans e'),if_pos e'];rfl
    .rw[Dl (show ¬ (p.1,v).1=k' from fun z=>e' (e.symm.trans z)),if_neg e',List.find?_cons,Dl (show ¬ p.1=k' from fun z=>e' (e.symm.trans z))];by_cases hr:(r.any fun p=>decide (p.1=k))=true
     .have:=ih hr;rw[if_neg e']at this;exact this
     .have em:(r.map fun p=>if p.1=k then (p.1,v) else p)=r:=by
       conv=>rhs;rw[<-List.map_id r]
       refine List.map_congr_left fun q mq=>?_;rw[if_neg]
       .rfl
       .intro z;exact hr (XZ.mpr ⟨q,mq,Dw z⟩)
      rw[em]
   .rw[if_neg e];by_cases e':p.1=k'
    .rw[Dw e',List.find?_cons,Dw e',if_neg (fun z=>e (e'.trans z.symm))]
    .rw[Dl e',List.find?_cons,Dl e'];exact ih (h.resolve_left (by simp[e]))
 .rename_i h
  unfold Zr;rw[List.find?_append];by_cases e':k=k'
  .subst e';rw[if_pos rfl];have:XM.find? (fun p=>decide (p.1=k))=none:=XF.mpr fun p mp z=>h (XZ.mpr ⟨p,mp,z⟩);rw[this];simp
  .rw[if_neg e'];have:[(k,v)].find? (fun p=>decide (p.1=k'))=none:=by simp[e']
   rw[this];simp
theorem uo{XM:ZX}{k:Key}{v:T}(h:k∈XM.map (·.1)):(Ya XM k v).map (·.1)=XM.map (·.1):=by
 unfold Ya;rw[if_pos]
 .rw[List.map_map];refine List.map_congr_left fun p _=>?_;show (if p.1=k then (p.1,v) else p).1=p.1
  split<;>rfl
 .obtain⟨p,mp,e⟩:=B8.mp h;exact XZ.mpr ⟨p,mp,Dw e⟩
theorem ue{XM:ZX}{k:Key}{v:T}(h:¬ k∈XM.map (·.1)):(Ya XM k v).map (·.1)=XM.map (·.1)++[k]:=by
 unfold Ya;rw[if_neg]
 .rw[Sk];rfl
 .intro z;obtain⟨p,mp,e⟩:=XZ.mp z;exact h (B8.mpr ⟨p,mp,Rh e⟩)
theorem Ww:∀{XM:ZX} {ss:ZD},XM.map (·.1)=ss.map Sum.inr->Ue (XM.map fun p=>G3 p.1)=some ss/\Uw (XM.map fun p=>G3 p.1)=(if ss=[] then some [] else none)
 | [],[],_=>⟨rfl,rfl⟩
 | [],_::_,h=>by simp at h
 | _::_,[],h=>by simp at h
 | (k,t)::XM,s::ss,h=>by
  rw[C8,C8]at h
  injection h with h1 h2
  have h1:k=Sum.inr s:=h1;subst h1;obtain⟨g1,g2⟩:=Ww h2;refine⟨?_, ?_⟩
  .show (Ue (XM.map fun p=>G3 p.1)).map (s::·)=_;rw[g1];rfl
  .rw[if_neg (by simp)];rfl
theorem get_mem{XM:ZX}{k:Key}(h:k∈XM.map (·.1)):∃t,Zr XM k=some t:=by
 unfold Zr;obtain⟨p,mp,e⟩:=B8.mp h;cases f:XM.find? fun p=>decide (p.1=k) with
 | none =>
  have:=XF.mp f p mp;simp[e]at this
 | some q=>exact⟨q.2,rfl⟩
theorem Ap{XM:ZX}{k:Key}{t:T}(h:Zr XM k=some t):k∈XM.map (·.1):=by
 unfold Zr at h;obtain⟨p,hp,_⟩:=Z8.mp h;have:=List.find?_some hp;exact B8.mpr ⟨p,List.mem_of_find?_eq_some hp,Rh this⟩
theorem Pj{XM:ZX}{k:Key}{v:T}{p:Key×T}(h:p∈Ya XM k v):p∈XM\/p.2=v:=by
 unfold Ya at h
 split at h
 .obtain⟨q,mq,rfl⟩:=B8.mp h
  split
  .exact .inr rfl
  .exact .inl mq
 .rcases Ks.mp h with h | h
  .exact .inl h
  .cases M4.mp h;exact .inr rfl
theorem Cz{XM:ZX}{k:Key}{t:T}(h:Zr XM k=some t):∃p∈XM,p.2=t/\p.1=k:=by
 obtain⟨p,hp,rfl⟩:=Z8.mp h;have t:=List.find?_some hp;exact⟨p,List.mem_of_find?_eq_some hp,rfl,Rh t⟩
theorem Nj{XM:ZX}{x:Str}{v:T}{Q:T->Prop}(h:XM.length<sizeLine)(q:Q (.dct (Ya XM (.inr x) v))):on (putAt (.dct XM) (.str x) v) Q:=Et h q
structure Gh(ns:ZD)(XM:ZX)(ss:ZD):Prop where
 k:XM.map (·.1)=ss.map Sum.inr
 d:ss.Nodup
 n:∀x∈ss,x∈ns
 p:∀p∈XM,Shp ns p.2
theorem Gh.len{ns ss:ZD}{XM:ZX}(h:Gh ns XM ss):XM.length=ss.length:=by have:=congrArg List.length h.k;simpa using this
theorem T6{XM:ZX}{ss:ZD}{x:Str}{v:T}(hk:XM.map (·.1)=ss.map Sum.inr)(d:ss.Nodup):∃us,(Ya XM (.inr x) v).map (·.1)=us.map Sum.inr/\us.Nodup/\(∀y,y∈us↔y∈ss\/y=x)/\(x∈ss->us=ss):=by
 by_cases e:x∈ss
 .refine⟨ss,by rw[uo (by rw[hk];exact List.mem_map_of_mem e),hk],d,fun y=>⟨.inl,fun z=>?_⟩,fun _=>rfl⟩;rcases z with z | rfl
  .exact z
  .exact e
 .refine⟨ss++[x], ?_, ?_,fun y=>?_,fun z=>absurd z e⟩
  .rw[ue,hk,Sk];rfl;rw[hk];intro z;obtain⟨y,my,ey⟩:=B8.mp z;cases ey;exact e my
  .rw[List.nodup_append];refine⟨d,by simp,fun a ma b mb=>?_⟩;cases M4.mp mb;intro z;subst z;exact e ma
  .rw[Ks,M4]
theorem Gh.put{ns ss:ZD}{XM:ZX}{x:Str}{v:T}(h:Gh ns XM ss)(hx:x∈ns)(hv:Shp ns v):∃us,Gh ns (Ya XM (.inr x) v) us/\(∀y,y∈us↔y∈ss\/y=x)/\(x∈ss->us=ss):=by
 obtain⟨us,h1,h2,h3,h4⟩:=T6 (x:=x) (v:=v) h.k h.d;refine⟨us,⟨h1,h2,fun y m=>?_,fun p mp=>?_⟩,h3,h4⟩
 .rcases(h3 y).mp m with m | rfl
  .exact h.n y m
  .exact hx
 .rcases Pj mp with m | e
  .exact h.p p m
  .rw[e];exact hv
theorem Gh.get{ns ss:ZD}{XM:ZX}{x:Str}(h:Gh ns XM ss)(hx:x∈ss):∃t,Zr XM (.inr x)=some t/\Shp ns t:=by
 obtain⟨t,e⟩:=get_mem (XM:=XM) (k:=.inr x) (by rw[h.k];exact List.mem_map_of_mem hx);obtain⟨p,mp,rfl,_⟩:=Cz e;exact⟨_,e,h.p p mp⟩
theorem Gh.srt{ns ss:ZD}{XM:ZX}(h:Gh ns XM ss)(hl:ss.length<64):W2 (XM.map fun p=>G3 p.1)=some ((SRT.G4 ss).map .str):=by
 obtain⟨g1,g2⟩:=Ww h.k
 have e:(XM.map fun p=>G3 p.1)=ss.map .str:=by
  rw[show (XM.map fun p=>G3 p.1)=(XM.map (·.1)).map G3 by rw[List.map_map];rfl,h.k,List.map_map];rfl
 rw[e];exact srt_strs ss hl
theorem Oq(ts:ZZ)(n:Nat):D0 ts none (some (n:Int))=ts.take n:=by
 unfold D0;rw[show HT.Yl ts.length 0 none=0 from rfl,HT.W8,List.drop_zero,Nat.sub_zero];rcases Nat.le_total n ts.length with h | h
 .rw[Nat.min_eq_left h]
 .rw[Nat.min_eq_right h,T0l (Yg _),T0l h]
noncomputable def c8:ZL:=[1,2,9,10,99,100,999]
def Lp(r:Sl):Prop:=∃ms:ZL,r=.o (.lst (ms.map .int))/\ms.Nodup/\ms.length<=8/\∀m∈ms,m∈Gs
theorem El{w:W}(hD:Ur w.C):Td Vw w [] Lp:=by
 intro zs i l k tp;refine Vx rfl fun D rt _=>?_;refine Us (fun rest acc p=>∃rs ms zs i l k s0,rest=rs.map T.int/\acc=ms.map T.int/\(ms++rs).Sublist c8/\TP (Zy zs i l k)/\p=[s0,.o (Zy zs i l k)]) ⟨c8,[],zs,i,l,k,_,rfl,rfl,List.Sublist.refl _,tp,rfl⟩ (fun x r acc p K hi ky kn=>?_) fun acc p hi=>?_
 .obtain⟨rs,ms,zs,i,l,k,s0,hr,rfl,hs,tp,rfl⟩:=hi;cases rs with
  | nil=>cases hr
  | cons z rs =>
   cases hr;refine Zb hD tp (by omega) (by omega) fun r zs i l k r0 r1 tp=>?_;refine Zs (b:=decide (r=0)) (fun _=>?_) fun _=>?_
   .exact ky _ _ ⟨rs,ms++[z],zs,i,l,k,_,rfl,by rw[Sk];rfl,by rw[XX];exact hs,tp,rfl⟩
   .exact kn _ ⟨rs,ms,zs,i,l,k,_,rfl,rfl,(List.Sublist.append (List.Sublist.refl _) (List.sublist_cons_self _ _)).trans hs,tp,rfl⟩
 obtain⟨rs,ms,zs,i,l,k,s0,hr,rfl,hs,tp,rfl⟩:=hi;have hs:ms.Sublist c8:=(List.sublist_append_left _ _).trans hs
 have fin:∀(n:Nat) zs i l k,TP (Zy zs i l k)->∃r t',Lp r/\TP t'/\((Sl.o (.lst (D0 (ms.map .int) none (some (n:Int)))),[Zy zs i l k]):Sl×ZZ)=(r,[t']):=fun n zs i l k tp=>by
  have h2:(ms.take n).Sublist c8:=(List.take_sublist _ _).trans hs;refine⟨_,_,⟨ms.take n,by rw[Oq,List.map_take],h2.nodup (by decide),Ve h2.length_le (by decide),fun m mm=>?_⟩,tp,rfl⟩;exact(show ∀m∈c8,m∈Gs by decide) m (h2.subset mm)
 refine Zb hD tp (by omega) (by omega) fun r zs i l k r0 r1 tp=>?_;refine Zs (b:=decide (r=0)) (fun _=>?_) fun _=>?_
 .exact rt _ _ (fin 8 _ _ _ _ tp)
 .exact rt _ _ (fin 3 _ _ _ _ tp)
theorem Ac{ns:ZD}{k:Bool}{ps:ZZ}(h:∀t∈ps,Fh ns k t){w:W}{Q:ZZ->P->Prop}(q:∀s0,Q ((ps.map J4).map .int) [s0]) :
  Ja (fun x s K=>on (asg (.v 0) x s) fun s1=>if isNil .nil=true then wE w (.pr .ix (.cons (.v 0) (.cons (.k (.int 0)) .nil))) s1 fun r s2=>Sq r fun y=>K (some y) s2
   else wE w .nil s1 fun r s2=>qm r fun b=>if b=true then wE w (.pr .ix (.cons (.v 0) (.cons (.k (.int 0)) .nil))) s2 fun r s3=>Sq r fun y=>K (some y) s3 else K none s2) ps [] [.no] Q:=by
 refine Gq (fun t=>.int (J4 t)) (fun s=>∃s0,s=[s0]) ⟨_,rfl⟩ (fun x mx s K hs hk=>?_) fun s hs=>?_
 .obtain⟨s0,rfl⟩:=hs;cases h x mx with
  | mk hn hx ho hd=>refine ixHd ?_;exact hk _ ⟨_,rfl⟩
 .obtain⟨s0,rfl⟩:=hs;rw[show ps.map (fun t=>T.int (J4 t))=(ps.map J4).map .int by rw[List.map_map];rfl];exact q s0
def b8(r:Sl):Prop:=∃ss,r=.f (.tup ss)/\Stk ss
theorem Xm{w:W}(hD:Ur w.C){ns:ZD}{b:Bool}{ps:ZZ}(hp:Yi ns b ps):Td Vs w [.f (.tup ps)] b8:=by
 intro zs i l k tp;refine Vx rfl fun D rt _=>?_;refine Ac hp.p fun s0=>?_;refine Us (fun rest acc p=>∃rs ms zs i l k s0,rest=rs.map T.int/\acc=ms.map T.int/\(ms++rs).Sublist [2,3,10,998]/\TP (Zy zs i l k)/\p=[s0,.o (.lst ((ps.map J4).map .int)),.o (Zy zs i l k)]) ⟨[2,3,10,998],[],zs,i,l,k,_,rfl,rfl,List.Sublist.refl _,tp,rfl⟩ (fun x r acc p K hi ky kn=>?_) fun acc p hi=>?_
 .obtain⟨rs,ms,zs,i,l,k,s0,hr,rfl,hs,tp,rfl⟩:=hi;cases rs with
  | nil=>cases hr
  | cons z rs =>
   cases hr;have no:∀zs i l k s0,TP (Zy zs i l k)->K none [s0,.o (.lst ((ps.map J4).map .int)),.o (Zy zs i l k)]:=fun zs i l k s0 tp=>kn _ ⟨rs,ms,zs,i,l,k,_,rfl,rfl,(List.Sublist.append (List.Sublist.refl _) (List.sublist_cons_self _ _)).trans hs,tp,rfl⟩;refine Ld ?_;refine Zs (b:=!((ps.map J4).any fun y=>decide (y=z))) (fun _=>?_) fun _=>no _ _ _ _ _ tp;refine Zb hD tp (by omega) (by omega) fun r zs i l k r0 r1 tp=>?_;refine Zs (b:=decide (r=0)) (fun _=>?_) fun _=>no _ _ _ _ _ tp;exact ky _ _ ⟨rs,ms++[z],zs,i,l,k,_,rfl,by rw[Sk];rfl,by rw[XX];exact hs,tp,rfl⟩
 obtain⟨rs,ms,zs,i,l,k,s0,hr,rfl,hs,tp,rfl⟩:=hi;have hs:ms.Sublist [2,3,10,998]:=(List.sublist_append_left _ _).trans hs;exact rt _ _ ⟨_,_,⟨_,rfl,ms,rfl,Ve hs.length_le (by decide),fun z m=>(show ∀m∈[(2:Int),3,10,998],Bb m by unfold Bb;decide) z (hs.subset m)⟩,tp,rfl⟩
def Eo(ns:ZD)(b:Bool)(r:Sl):Prop:=∃ps,r=.f (.tup ps)/\Yi ns b ps
theorem Yi.nil{ns:ZD}{b:Bool}:Yi ns b []:=⟨Ju _,List.Pairwise.nil,fun t m=>absurd m Vk⟩
set_option maxHeartbeats 1000000 in
theorem gh{w:W}(hD:Ur w.C)(hW:O8 w.C)(hN:Tp w.C "_law_numbers" [] Lp){ns:ZD}(hDf:∀t,Shp ns t\/t=.tup [.str "record"]->Tp w.C "_law_default" [.f t] (ny Ka))(n0:0<ns.length)(n8:ns.length<=8){XM:ZX}(hk:∀x t,Zr XM x=some t->Shp ns t)(s:Str) :
  Td Um w [.f (.lst (ns.map .str)),.f (.dct XM),.f (.str s)] (Eo ns (decide (s = "record"))):=by
 intro zs i l k tp;have sl:=sizeLine_eq;refine Vx rfl fun D rt _=>?_;refine Fe hN tp fun r zs i l k hr tp=>?_;obtain⟨ms,rfl,nd,ln,mm⟩:=hr;refine Gx (fun rest p=>∃rs ps zs i l k s5 s6 s7,rest=rs.map T.int/\p=[.o (Zy zs i l k),.f (.lst (ns.map .str)),.f (.dct XM),.f (.str s),.o (.lst ps),s5,s6,s7]/\TP (Zy zs i l k)/\(ps.map J4++rs).Nodup/\ps.length+rs.length<=8/\(∀z∈rs,z∈Gs)/\∀p∈ps,Fh ns (decide (s = "record")) p) ⟨ms,[],zs,i,l,k,_,_,_,rfl,rfl,tp,nd,by simpa using ln,mm,fun t m=>absurd m Vk⟩ (fun x r p D' hi nx _=>?_) fun p hi=>?_
 .obtain⟨rs,ps,zs,i,l,k,s5,s6,s7,hr,rfl,tp,nd,ln,mm,hp⟩:=hi;cases rs with
  | nil=>cases hr
  | cons z rs =>
   cases hr;have hz:=mm z Y5;rw[B9]at ln
   have more:∀zs i l k s5 s6 s7 t,TP (Zy zs i l k)->Fh ns (decide (s = "record")) t->J4 t=z->D'.nx [.o (Zy zs i l k),.f (.lst (ns.map .str)),.f (.dct XM),.f (.str s),.o (.lst (ps++[t])),s5,s6,s7]:=fun zs i l k s5 s6 s7 t tp ht e=>nx _ ⟨rs,ps++[t],zs,i,l,k,s5,s6,s7,rfl,rfl,tp,by rw[Sk,XX];show (ps.map J4++J4 t::rs).Nodup;rw[e];exact nd,by rw[Qz,ZI];omega,fun z m=>mm z (Y7 _ m),fun p m=>by
    rcases Ks.mp m with m | m
    .exact hp p m
    .cases M4.mp m;exact ht⟩
   have l0:(0:Int)<((ns.map T.str).length:Nat):=by rw[Yn];omega
   have l1:(((ns.map T.str).length:Nat):Int)<=1000000:=by rw[Yn];omega
   refine Zb hD tp l0 l1 fun r zs i l k r0 r1 tp=>?_;refine Vf r0 r1 fun o ho=>?_;refine Zb hD tp (by omega) (by omega) fun r zs i l k r0 r1 tp=>?_;refine Vf (ss:=["f","g"]) r0 r1 fun a ha=>?_
   have ha:a.length=1/\∀c∈a.cps.toList,c<16 ^ 8:=by
    simp only[Yw,Vk,or_false]at ha;rcases ha with rfl | rfl<;>exact⟨rfl,by decide⟩
   refine Qq hW hz ?_;have hs:=D5 ha hz;refine O7 (by have:=hs.1;rw[Str.length_append]at this;omega) ?_;show wS w _ _ [.o (Zy zs i l k),.f (.lst (ns.map .str)),.f (.dct XM),.f (.str s),.o (.lst ps),.f (.int z),.f (.str o),.f (.tup [.int z,.str (a++wd z),.str o])] _;refine Zs (b:=decide (s = "record")) (fun h=>?_) fun h=>?_
   .have h':=Rh h;subst h';refine Fe (hDf ((Zr XM (.inr o)).getD (.tup [.str "record"])) ?_) tp fun r zs i l k hr tp=>?_
    .cases e:Zr XM (.inr o) with
     | none=>exact .inr rfl
     | some t=>exact .inl (hk _ t e)
    obtain⟨d,rfl,hd⟩:=hr;refine Vp (by omega) ?_;exact more _ _ _ _ _ _ _ _ tp (.mk hz hs ho hd) rfl
   .refine Vp (by omega) ?_;exact more _ _ _ _ _ _ _ _ tp (by rw[h];exact .mk hz hs ho trivial) rfl
 obtain⟨rs,ps,zs,i,l,k,s5,s6,s7,hr,rfl,tp,nd,ln,mm,hp⟩:=hi;exact rt _ _ ⟨_,_,⟨_,rfl,by omega,(List.sublist_append_left _ _).nodup nd,hp⟩,tp,rfl⟩
noncomputable def Cq(S:Str->Bool):T->Bool
 | .tup [_,_,.str o,.tup ds]=>!ds.isEmpty || S o
 | _=>true
noncomputable def Na(S:Str->Bool):T->Bool
 | .tup (_::_::.str o::_)=>S o
 | _=>false
noncomputable def Cb(S:Str->Bool):T->Bool
 | .tup (.str s::.tup ps::_)=>if s = "record" then ps.all (Cq S) else ps.any (Na S)
 | _=>true
theorem xg{S S':Str->Bool}(h:∀x,S x=true->S' x=true){t:T}(g:Cq S t=true):Cq S' t=true:=by
 unfold Cq at g ⊢
 split at g
 .rcases Bool.or_eq_true_iff.mp g with g | g
  .exact Bool.or_eq_true_iff.mpr (.inl g)
  .exact Bool.or_eq_true_iff.mpr (.inr (h _ g))
 .rfl
theorem qv{S S':Str->Bool}(h:∀x,S x=true->S' x=true){t:T}(g:Na S t=true):Na S' t=true:=by
 unfold Na at g ⊢
 split at g
 .exact h _ g
 .cases g
theorem Np{S S':Str->Bool}(h:∀x,S x=true->S' x=true){t:T}(g:Cb S t=true):Cb S' t=true:=by
 unfold Cb at g ⊢
 split at g
 .split at g
  .rename_i e
   rw[if_pos e];exact K0.mpr fun t m=>xg h (K0.mp g t m)
  .rename_i e
   rw[if_neg e];obtain⟨t,m,e⟩:=XZ.mp g;exact XZ.mpr ⟨t,m,qv h e⟩
 .rfl
noncomputable def Rk(XM:ZX):Nat->Str->Bool
 | 0,_=>false
 | k+1,x=>match Zr XM (.inr x) with
  | some t=>Cb (Rk XM k) t
  | none=>false
theorem Fs{XM:ZX}{k:Nat}{x:Str}{t:T}(e:Zr XM (.inr x)=some t):Rk XM (k+1) x=Cb (Rk XM k) t:=by
 show (match Zr XM (.inr x) with | some t=>Cb (Rk XM k) t | none=>false)=_;rw[e]
theorem cb{XM:ZX}{k:Nat}{x:Str}(h:Rk XM k x=true):∃t,Zr XM (.inr x)=some t:=by
 cases k with
 | zero=>cases h
 | succ k =>
  cases e:Zr XM (.inr x) with
  | some t=>exact⟨t,rfl⟩
  | none =>
   rw[show Rk XM (k+1) x=match Zr XM (.inr x) with | some t=>Cb (Rk XM k) t | none=>false from rfl,e]at h;cases h
theorem Ie{XM:ZX}{j k:Nat}(h:∀x,Rk XM j x=true->Rk XM k x=true)(x:Str)(g:Rk XM (j+1) x=true):Rk XM (k+1) x=true:=by
 obtain⟨t,e⟩:=cb g;rw[Fs e]at g ⊢;exact Np h g
theorem Zqq{XM:ZX}:∀(k:Nat) (x:Str),Rk XM k x=true->Rk XM (k+1) x=true
 | 0,_,h=>by cases h
 | k+1,x,h=>Ie (Zqq k) x h
theorem t6{p q:Str->Bool}(h:∀x,p x=true->q x=true){x:Str}(hq:q x=true)(hp:p x=false):∀{l:ZD},x∈l->l.countP p<l.countP q
 | y::l,m=>by
  have le:=List.countP_mono_left (l:=l) fun y _ hy=>h y hy;rw[List.countP_cons,List.countP_cons];by_cases e:x=y
  .subst e;rw[hq,hp,if_pos rfl,if_neg D2];omega
  .have:=t6 h hq hp ((Yw.mp m).resolve_left e);have:=h y;cases a:p y with
   | true=>rw[h y a];omega
   | false=>rw[if_neg D2];split<;>omega
theorem I0{XM:ZX}{ss:ZD}(hk:XM.map (·.1)=ss.map Sum.inr):∀k,(∃j,j<k/\∀x,Rk XM (j+1) x=true->Rk XM j x=true)\/k<=ss.countP (Rk XM k)
 | 0=>.inr (Ju _)
 | k+1=>by
  rcases I0 hk k with ⟨j,hj,h⟩ | h
  .exact .inl ⟨j,by omega,h⟩
  .by_cases s:∀x,Rk XM (k+1) x=true->Rk XM k x=true
   .exact .inl ⟨k,by omega,s⟩
   .refine .inr ?_;obtain⟨x,hx⟩:=Classical.not_forall.mp s;obtain⟨h1,h2⟩:=Classical.not_imp.mp hx;obtain⟨t,e⟩:=cb h1;have:=Ap e;rw[hk]at this;obtain⟨y,my,ey⟩:=B8.mp this;cases ey;have:=t6 (Zqq k) h1 (Bool.eq_false_iff.mpr h2) my;omega
theorem Rk_fix{XM:ZX}{ss:ZD}(hk:XM.map (·.1)=ss.map Sum.inr)(x:Str)(h:Rk XM (ss.length+1) x=true):Rk XM ss.length x=true:=by
 rcases I0 hk (ss.length+1) with ⟨j,hj,s⟩ | z
 .have go:∀d,∀x,Rk XM (j+d+1) x=true->Rk XM (j+d) x=true:=by
   intro d
   induction d with
   | zero=>exact s
   | succ d ih=>exact fun x h=>Ie ih x h
  have:=go (ss.length - j) x;rw[show j+(ss.length - j)=ss.length by omega]at this;exact this h
 .have:=List.countP_le_length (p:=Rk XM (ss.length+1)) (l:=ss);omega
theorem iniP{a:Int}{zs:ZL}{Q:Sl->Prop}(q:Q (.f (.bl (zs.any fun z=>decide (z=a))))):on ((Ov .isin (.int a) (.lst (zs.map .int))).map fun r=>Sl.f (.bl r)) Q:=Yv (by show (nr (.int a) (.lst (zs.map .int))).map _=_;rw[A5];rfl) q
theorem sumP{zs:ZL}{Q:Sl->Prop}(q:Q (.f (.int zs.sum))):on (Sz .sum [.lst (zs.map .int)]) Q:=Yv (by show (Uw _).map _=_;rw[PV.ints_map];rfl) q
theorem vq:∀{zs:ZL},(∀z∈zs,0<=z)->0<=zs.sum
 | [],_=>Int.le_refl _
 | z::zs,h=>by
  have h1:=h z Y5;have h2:=vq fun z m=>h z (Y7 _ m);rw[List.sum_cons];omega
theorem Ri:∀ss:ZL,V8 (ss.map .int)=some (ss.map .int)
 | []=>rfl
 | s::ss=>by show (some (D.int s)).bind _=_;show (V8 (ss.map .int)).map _=_;rw[Ri ss];rfl
theorem Wd:∀ss:ZL,G8 (ss.map .int)=0
 | []=>rfl
 | s::ss=>by show max 0 (G8 (ss.map .int))=0;rw[Wd ss];rfl
theorem eqnP{zs:ZL}{Q:Sl->Prop}(q:Q (.f (.bl (zs.isEmpty)))):on ((Ov .eq (.lst (zs.map .int)) (.lst [])).map fun r=>Sl.f (.bl r)) Q:=by
 refine Yv ?_ q;show (((V8 (zs.map .int)).map D.lst).bind fun x=>(some (D.lst [])).bind fun y=>if Uv x<=100 then some (Yp x y) else none).map _=_;rw[Ri];show (if G8 (zs.map .int)+1<=100 then some (Nl (zs.map .int) []) else none).map _=_;rw[Wd,if_pos (by decide)];cases zs<;>rfl
theorem minIP{zs:ZL}{Q:Sl->Prop}(h:zs≠[])(q:∀m∈zs,Q (.f (.int m))):on (Sz .min [.lst (zs.map .int)]) Q:=by
 cases zs with
 | nil=>exact absurd rfl h
 | cons z r =>
  have e:minL (z::r)=some (r.foldl (fun a b=>if b<a then b else a) z):=rfl;refine Yv ?_ (q _ (Ah e).1);show zt ((z::r).map .int)=_;unfold zt;rw[PV.ints_map];rfl
noncomputable def Y8(ps:ZX)(x:Str):Bool:=(Zr ps (.inr x)).isSome
def lq(ps:ZX):Prop:=∀p∈ps,∃i:Int,0<i/\p.2=.int i
theorem lq.get{ps:ZX}(h:lq ps){x:Str}{t:T}(e:Zr ps (.inr x)=some t):∃i:Int,0<i/\t=.int i:=by
 obtain⟨p,mp,rfl,_⟩:=Cz e;exact h p mp
theorem Fh.asR{ns:ZD}{t:T}(h:Fh ns true t):∃(n:Int) (x o:Str) (ds:ZZ),t=.tup [.int n,.str x,.str o,.tup ds]/\n∈Gs/\Sm x/\o∈ns/\Ka (.tup ds):=by
 cases h with
 | @mk n x o ds hn hx ho hd =>
  match ds,hd with
  | [d],hd =>
   have hd:Ka d:=hd;cases hd with
   | no=>exact⟨n,x,o,[],rfl,hn,hx,ho,.no⟩
   | is h=>exact⟨n,x,o,_,rfl,hn,hx,ho,.is h⟩
theorem Fh.cho{ns:ZD}{t:T}(h:Fh ns false t):∃(n:Int) (x o:Str),t=.tup [.int n,.str x,.str o]/\n∈Gs/\Sm x/\o∈ns:=by
 cases h with
 | @mk n x o ds hn hx ho hd =>
  match ds,hd with
  | [],hd=>exact⟨n,x,o,rfl,hn,hx,ho⟩
def Lh(S:Str->Bool)(t:T)(v:Int):Prop:=0<=v/\(0<v↔Cb S t=true)
def cu(C:Cs):Prop:=∀{ns:ZD} {t:T} {ps:ZX},Shp ns t->lq ps->on (C "_law_price" [.f t,.o (.dct ps)]) fun x=>∃v:Int,Lh (Y8 ps) t v/\x=(.f (.int v),[.dct ps])
set_option maxHeartbeats 1000000 in
theorem kh{w:W}{ns:ZD}{t:T}{ps:ZX}(ht:Shp ns t)(hp:lq ps):wF Ug w [.f t,.o (.dct ps)] fun x=>∃v:Int,Lh (Y8 ps) t v/\x=(.f (.int v),[.dct ps]):=by
 refine Vx rfl fun D rt _=>?_;have one:∀t,Cb (Y8 ps) t=true->Lh (Y8 ps) t 1:=fun t h=>⟨by omega,fun _=>h,fun _=>by omega⟩;cases ht with
 | whole a b=>exact rt _ _ ⟨1,one _ rfl,rfl⟩
 | truth=>exact rt _ _ ⟨1,one _ rfl,rfl⟩
 | text a b=>exact rt _ _ ⟨1,one _ rfl,rfl⟩
 | row a b c=>exact rt _ _ ⟨1,one _ rfl,rfl⟩
 | map a b c=>exact rt _ _ ⟨1,one _ rfl,rfl⟩
 | @record fs ss hf hs =>
  refine Us (fun rest acc p=>∃zs s0,acc=zs.map T.int/\p=[s0,.o (.dct ps)]/\(∀z∈zs,0<=z)/\(∀x∈rest,x∈fs)/\(((zs.any fun z=>decide (z=0))=false/\rest.all (Cq (Y8 ps))=true)↔fs.all (Cq (Y8 ps))=true)) ⟨[],_,rfl,rfl,fun z m=>absurd m Vk,fun _ m=>m,⟨fun h=>h.2,fun h=>⟨rfl,h⟩⟩⟩ (fun x r acc p K hi ky kn=>?_) fun acc p hi=>?_
  .obtain⟨zs,s0,rfl,rfl,hz,hr,hq⟩:=hi;obtain⟨n,y,o,ds,rfl,_,_,_,hd⟩:=(hf.p x (hr _ Y5)).asR;have nh:∀x∈r,x∈fs:=fun x m=>hr x (Y7 _ m);rw[List.all_cons]at hq;cases ds with
   | cons d ds=>exact kn _ ⟨zs,_,rfl,rfl,hz,nh,hq⟩
   | nil =>
    have go:∀z:Int,0<=z->(decide (z=0)=!Y8 ps o)->K (some (.int z)) [.f (.tup [.int n,.str y,.str o,.tup []]),.o (.dct ps)]:=fun z z0 ze=>by
     refine ky _ _ ⟨zs++[z],_,by rw[Sk];rfl,rfl,fun a m=>?_,nh, ?_⟩
     .rcases Ks.mp m with m | m
      .exact hz a m
      .cases M4.mp m;exact z0
     .rw[<-hq,List.any_append];show (((_ || (decide (z=0) || false))=false)/\_)↔(_/\((false || Y8 ps o) && _)=true);rw[ze];cases Y8 ps o<;>simp
    show K (some ((Zr ps (.inr o)).getD (.int 0))) _;cases e:Zr ps (.inr o) with
    | none=>exact go 0 (by omega) (by unfold Y8;rw[e];rfl)
    | some t =>
     obtain⟨i,i0,rfl⟩:=hp.get e;exact go i (by omega) (by unfold Y8;rw[e,Dl (by omega)];rfl)
  obtain⟨zs,s0,rfl,rfl,hz,hr,hq⟩:=hi;refine iniP ?_;refine Zs (b:=zs.any fun z=>decide (z=0)) (fun h=>?_) fun h=>?_
  .refine rt _ _ ⟨0,⟨Int.le_refl _,fun z=>absurd z (by omega),fun z=>?_⟩,rfl⟩;have:=(hq.mpr z).1;rw[h]at this;cases this
  .refine sumP ?_;have:=vq hz;exact rt _ _ ⟨_,⟨by omega,fun _=>hq.mp ⟨h,rfl⟩,fun _=>by omega⟩,rfl⟩
 | @choice fs ss b hf hs =>
  refine Us (fun rest acc p=>∃zs s0,acc=zs.map T.int/\p=[s0,.o (.dct ps)]/\(∀z∈zs,0<z)/\(∀x∈rest,x∈fs)/\((zs.isEmpty=false\/rest.any (Na (Y8 ps))=true)↔fs.any (Na (Y8 ps))=true)) ⟨[],_,rfl,rfl,fun z m=>absurd m Vk,fun _ m=>m,⟨fun h=>h.resolve_left (fun z=>nomatch z),fun h=>.inr h⟩⟩ (fun x r acc p K hi ky kn=>?_) fun acc p hi=>?_
  .obtain⟨zs,s0,rfl,rfl,hz,hr,hq⟩:=hi;obtain⟨n,y,o,rfl,_,_,_⟩:=(hf.p x (hr _ Y5)).cho;have nh:∀x∈r,x∈fs:=fun x m=>hr x (Y7 _ m);rw[List.any_cons]at hq;have eo:Na (Y8 ps) (.tup [.int n,.str y,.str o])=Y8 ps o:=rfl;rw[eo]at hq;refine Zs (b:=(Zr ps (.inr o)).isSome) (fun h=>?_) fun h=>?_
   .obtain⟨t,e⟩:=Option.isSome_iff_exists.mp h;obtain⟨i,i0,rfl⟩:=hp.get e;refine Mb e ?_;refine ky _ _ ⟨zs++[i],_,by rw[Sk];rfl,rfl,fun a m=>?_,nh, ?_⟩
    .rcases Ks.mp m with m | m
     .exact hz a m
     .cases M4.mp m;exact i0
    .rw[<-hq];have:Y8 ps o=true:=h;rw[this];simp
   .refine kn _ ⟨zs,_,rfl,rfl,hz,nh, ?_⟩;rw[<-hq];have:Y8 ps o=false:=h;rw[this,Bool.false_or]
  obtain⟨zs,s0,rfl,rfl,hz,hr,hq⟩:=hi;refine eqnP ?_;refine Zs (b:=zs.isEmpty) (fun h=>?_) fun h=>?_
  .refine rt _ _ ⟨0,⟨Int.le_refl _,fun z=>absurd z (by omega),fun z=>?_⟩,rfl⟩;rcases hq.mpr z with z | z
   .rw[h]at z;cases z
   .cases z
  .refine minIP (by intro z;subst z;cases h) fun m mm=>?_;have:=hz m mm;exact rt _ _ ⟨_,⟨by omega,fun _=>hq.mp (.inl h),fun _=>by omega⟩,rfl⟩
theorem T9{ps:ZX}{x y:Str}{v:T}:Y8 (Ya ps (.inr y) v) x=(decide (y=x) || Y8 ps x):=by
 unfold Y8;rw[Mc];by_cases e:y=x
 .subst e;rw[if_pos rfl,Dw rfl];rfl
 .rw[if_neg (fun z=>e (Sum.inr.inj z)),Dl e,Bool.false_or]
structure Prs(XM:ZX)(ss:ZD)(ps:ZX)(us:ZD):Prop where
 k:ps.map (·.1)=us.map Sum.inr
 d:us.Nodup
 n:∀x∈us,x∈ss
 p:lq ps
 h:∀x,Y8 ps x=true->Rk XM ss.length x=true
theorem U4:∀{us ss:ZD},us.Nodup->(∀x∈us,x∈ss)->us.length<=ss.length
 | [],_,_,_=>Ju _
 | x::us,ss,d,h=>by
  obtain⟨d1,d2⟩:=List.nodup_cons.mp d;have:=U4 (ss:=ss.erase x) d2 fun y m=>(List.mem_erase_of_ne (fun z:y=x=>d1 (by rw[<-z];exact m))).mpr (h y (Y7 _ m));rw[List.length_erase_of_mem (h x Y5)]at this;have:0<ss.length:=List.length_pos_of_mem (h x Y5);rw[B9];omega
theorem Prs.len{XM ps:ZX}{ss us:ZD}(h:Prs XM ss ps us):ps.length<=ss.length:=by
 have e:ps.length=us.length:=by have:=congrArg List.length h.k;simpa using this
 rw[e];exact U4 h.d h.n
def Fp(C:Cs):Prop:=∀{root:Str} {XM:ZX} {ss:ZD},Gh ss XM ss->ss.length<=8->on (C "_law_prices" [.f (.tup [.str root,.dct XM])]) fun x=>∃ps,lq ps/\ps.length<=8/\(∀x,Y8 ps x=Rk XM ss.length x)/\x=(.o (.dct ps),[])
set_option maxHeartbeats 1000000 in
theorem X3{w:W}(hP:cu w.C){root:Str}{XM:ZX}{ss:ZD}(h:Gh ss XM ss)(h8:ss.length<=8):wF Vh w [.f (.tup [.str root,.dct XM])] fun x=>∃ps,lq ps/\ps.length<=8/\(∀x,Y8 ps x=Rk XM ss.length x)/\x=(.o (.dct ps),[]):=by
 have sl:=sizeLine_eq;have hl:=h.len;have e7:((List.range (Int.toNat ((XM.length:Nat):Int))).map fun k=>T.int (k:Nat)).length=ss.length:=by rw[Yn,XJ];exact hl
 refine Vx rfl fun D rt _=>?_;refine rngP (by omega) (by omega) ?_;refine Gx (fun rest p=>∃ps us s2 s3 s4,p=[.f (.tup [.str root,.dct XM]),.o (.dct ps),s2,s3,s4]/\Prs XM ss ps us/\rest.length<=ss.length/\∀x,Rk XM (ss.length - rest.length) x=true->Y8 ps x=true) ⟨[],[],_,_,_,rfl,⟨rfl,List.Pairwise.nil,fun x m=>absurd m Vk,fun p m=>absurd m Vk,fun x z=>nomatch z⟩,by omega,fun x z=>?_⟩ (fun x r p D' hi nx _=>?_) fun p hi=>?_
 .rw[e7,Nat.sub_self]at z;cases z
 .obtain⟨ps,us,s2,s3,s4,rfl,hs,hr,hR⟩:=hi;rw[B9]at hr hR;refine Qc (h.srt (by omega)) ?_;refine Gx (fun rest p=>∃rs ps us s3 s4,rest=rs.map T.str/\p=[.f (.tup [.str root,.dct XM]),.o (.dct ps),.f x,s3,s4]/\Prs XM ss ps us/\(∀y,Rk XM (ss.length - (r.length+1)) y=true->Y8 ps y=true)/\(∀y∈ss,Rk XM (ss.length - (r.length+1)+1) y=true->y∈rs\/Y8 ps y=true)/\∀y∈rs,y∈ss) ⟨SRT.G4 ss,ps,us,_,_,rfl,rfl,hs,hR,fun y m _=>.inl ((SRT.Yx ss).mem_iff.mpr m),fun y m=>(SRT.Yx ss).mem_iff.mp m⟩ (fun x1 r1 p D1 hi nx1 _=>?_) fun p hi=>?_
  .obtain⟨rs,ps,us,s3,s4,hr1,rfl,hs,hR,hR1,hrs⟩:=hi;cases rs with
   | nil=>cases hr1
   | cons y rs =>
    cases hr1;obtain⟨t,e,ht⟩:=h.get (hrs y Y5);refine Mb e ?_;refine Y4 (hP ht hs.p) fun o ho=>?_;obtain⟨v,⟨v0,v1⟩,rfl⟩:=ho;show wS w _ _ [.f (.tup [.str root,.dct XM]),.o (.dct ps),.f x,.f (.str y),.f (.int v)] _;have hrs':∀z∈rs,z∈ss:=fun z m=>hrs z (Y7 _ m);refine Zs (b:=decide (0<v)) (fun g=>?_) fun g=>?_
    .have g:=Rh g
     have go:∀z:Int,0<z->D1.nx [.f (.tup [.str root,.dct XM]),.o (.dct (Ya ps (.inr y) (.int z))),.f x,.f (.str y),.f (.int v)]:=fun z z0=>by
      obtain⟨us',k1,k2,k3,_⟩:=T6 (x:=y) (v:=.int z) hs.k hs.d;refine nx1 _ ⟨rs,_,us',_,_,rfl,rfl,⟨k1,k2,fun a m=>?_,fun p m=>?_,fun a m=>?_⟩,fun a m=>?_,fun a m r=>?_,hrs'⟩
      .rcases(k3 a).mp m with m | rfl
       .exact hs.n a m
       .exact hrs _ Y5
      .rcases Pj m with m | e
       .exact hs.p p m
       .exact⟨z,z0,e⟩
      .rw[T9]at m;rcases Bool.or_eq_true_iff.mp m with m | m
       .have m:=Rh m;subst m;refine Rk_fix h.k _ ?_;rw[Fs e];exact Np hs.h (v1.mp g)
       .exact hs.h a m
      .rw[T9,hR a m,Bool.or_true]
      .rw[T9];rcases hR1 a m r with z | z
       .rcases Yw.mp z with rfl | z
        .exact .inr (by rw[Dw rfl];rfl)
        .exact .inl z
       .exact .inr (by rw[z,Bool.or_true])
     have hlen:ps.length<sizeLine:=by have:=hs.len;omega
     cases e2:Zr ps (.inr y) with
     | none =>
      refine Yv (a:=Sl.f (.int (if v<v then v else v))) (by show Sz .min [.int v,(Zr ps (.inr y)).getD (.int v)]=_;rw[e2];rfl) ?_;refine Nj hlen ?_;exact go _ (by split<;>omega)
     | some u =>
      obtain⟨j,j0,rfl⟩:=hs.p.get e2;refine Yv (a:=Sl.f (.int (if j<v then j else v))) (by show Sz .min [.int v,(Zr ps (.inr y)).getD (.int v)]=_;rw[e2];rfl) ?_;refine Nj hlen ?_;exact go _ (by split<;>omega)
    .have g:=of_decide_eq_false g;refine nx1 _ ⟨rs,ps,us,_,_,rfl,rfl,hs,hR,fun a m r=>?_,hrs'⟩;rcases hR1 a m r with z | z
     .rcases Yw.mp z with rfl | z
      .rw[Fs e]at r;exact absurd (v1.mpr (Np hR r)) g
      .exact .inl z
     .exact .inr z
  .obtain⟨rs,ps,us,s3,s4,hr1,rfl,hs,hR,hR1,hrs⟩:=hi;refine nx _ ⟨ps,us,_,_,_,rfl,hs,by omega,fun a m=>?_⟩;rw[show ss.length - r.length=ss.length - (r.length+1)+1 by omega]at m;obtain⟨t,e⟩:=cb m;have:=Ap e;rw[h.k]at this;obtain⟨b,mb,eb⟩:=B8.mp this;have ma:a∈ss:=by cases eb;exact mb
   rcases hR1 a ma m with z | z
   .cases rs with
    | nil=>cases z
    | cons _ _=>cases hr1
   .exact z
 .obtain⟨ps,us,s2,s3,s4,rfl,hs,hr,hR⟩:=hi;refine rt _ _ ⟨ps,hs.p,by have:=hs.len;omega,fun x=>?_,rfl⟩;cases e:Y8 ps x with
  | true=>exact(hs.h x e).symm
  | false =>
   cases e2:Rk XM ss.length x with
   | false=>rfl
   | true=>rw[hR x e2]at e;cases e
def Pl(n:Nat)(t:T):Prop:=∃d,toD t=some d/\Uv d<=n
theorem Pl.mono{n m:Nat}{t:T}(h:Pl n t)(l:n<=m):Pl m t:=let ⟨d,e,g⟩:=h;⟨d,e,Ve g l⟩
theorem Dx.pl{t:T}(h:Dx t):Pl 1 t:=by
 cases h<;>first | exact⟨_,rfl,Ju 1⟩ | exact⟨_,rfl,Yg 1⟩
theorem Ak{n:Nat}:∀{ts:ZZ},(∀t∈ts,Pl n t)->∃ds,V8 ts=some ds/\G8 ds<=n
 | [],_=>⟨[],rfl,Ju _⟩
 | t::ts,h=>by
  obtain⟨d,e,g⟩:=h t Y5;obtain⟨ds,e1,g1⟩:=Ak fun t m=>h t (Y7 _ m);exact⟨d::ds,by show (toD t).bind _=_;rw[e];show (V8 ts).map _=_;rw[e1];rfl,by show max (Uv d) (G8 ds)<=n;omega⟩
theorem Pl.tup{n:Nat}{ts:ZZ}(h:∀t∈ts,Pl n t):Pl (n+1) (.tup ts):=by
 obtain⟨ds,e,g⟩:=Ak h;exact⟨.tup ds,by show (V8 ts).map _=_;rw[e];rfl,Nat.succ_le_succ g⟩
def Lv(n:Nat)(b:Bool)(t:T):Prop:=(b=false/\t=.non)\/(b=true/\∃(c:Int) (v:T),t=.tup [.int c,v]/\Pl n v)
theorem Lv.mono{n m:Nat}{b:Bool}{t:T}(h:Lv n b t)(l:n<=m):Lv m b t:=by
 rcases h with h | ⟨h,c,v,e,g⟩
 .exact .inl h
 .exact .inr ⟨h,c,v,e,g.mono l⟩
def Ls(n:Nat)(ss:ZD)(S:Str->Bool)(ls:ZX):Prop:=∀x∈ss,∃t,Zr ls (.inr x)=some t/\Lv n (S x) t
theorem ic{w:W}{n:Int}{x o:Str}{ds:ZZ}:wF Yd w [.f (.tup [.int n,.str x,.str o,.tup ds])] fun y=>y=(.f (.bl (!ds.isEmpty)),[]):=by
 refine Vx rfl fun D rt _=>?_;exact rt _ _ rfl
def Zqv(C:Cs):Prop:=∀{n:Int} {x o:Str} {ds:ZZ},on (C "may_be_left_out" [.f (.tup [.int n,.str x,.str o,.tup ds])]) fun y=>y=(.f (.bl (!ds.isEmpty)),[])
theorem eq_non{n:Nat}(hn:n<=98){b:Bool}{t:T}(h:Lv n b t):eqT t .non=some (!b):=by
 rcases h with ⟨rfl,rfl⟩ | ⟨rfl,c,v,rfl,d,e,g⟩
 .rfl
 .show ((V8 [.int c,v]).map D.tup).bind _=_;rw[show V8 [.int c,v]=some [.int c,d] by show (some (D.int c)).bind _=_;show ((toD v).bind fun d=>(some []).map (d::·)).map _=_;rw[e];rfl];show (if max 0 (max (Uv d) 0)+1<=100 then some (Yp (.tup [.int c,d]) .non) else none)=_;rw[if_pos (by omega)];simp[Yp]
theorem Ii{n:Nat}(hn:n<=98)(B:T->Bool):∀{ts:ZZ},(∀t∈ts,Lv n (B t) t)->J0 .non ts=some (ts.any fun t=>!B t)
 | [],_=>rfl
 | t::ts,h=>by
  show (eqT t .non).bind _=_;rw[eq_non hn (h t Y5)];show (J0 .non ts).map _=_;rw[Ii hn B fun t m=>h t (Y7 _ m)]
  rfl
theorem innP{n:Nat}(hn:n<=98){B:T->Bool}{ts:ZZ}{Q:Sl->Prop}(h:∀t∈ts,Lv n (B t) t)(q:Q (.f (.bl (ts.any fun t=>!B t)))):on ((Ov .isin .non (.lst ts)).map fun r=>Sl.f (.bl r)) Q:=by
 refine Yv ?_ q;show (nr .non (.lst ts)).map _=_
 have:nr .non (.lst ts)=some (ts.any fun t=>!B t):=by
  cases ts with
  | nil=>rfl
  | cons t ts =>
   have e:Ue (t::ts)=none:=by
    rcases h t Y5 with ⟨_,rfl⟩ | ⟨_,c,v,rfl,_⟩<;>rfl
   show (match Ue (t::ts) with | some ss=>mh .non ss | none=>(toD .non).bind fun _=>J0 .non (t::ts))=_;rw[e];exact Ii hn B h
 rw[this];rfl
noncomputable def fpt(ls:ZX):T->T
 | .tup [_,_,.str o,.tup ds]=>match ds with
  | []=>(Zr ls (.inr o)).getD .non
  | d::_=>.tup [.int 0,d]
 | _=>.non
def notN:T->Bool
 | .non=>false
 | _=>true
noncomputable def E1:T->Int
 | .tup (.int c::_)=>c
 | _=>0
noncomputable def S9:T->T
 | .tup [_,v]=>v
 | _=>.non
theorem Lv.b{n:Nat}{b:Bool}{t:T}(h:Lv n b t):b=notN t:=by
 rcases h with ⟨rfl,rfl⟩ | ⟨rfl,c,v,rfl,_⟩<;>rfl
theorem Lv.is{n:Nat}{t:T}(h:Lv n true t):t=.tup [.int (E1 t),S9 t]/\Pl n (S9 t):=by
 rcases h with ⟨z,_⟩ | ⟨_,c,v,rfl,g⟩
 .cases z
 .exact⟨rfl,g⟩
def Zqy(C:Cs):Prop:=∀{n:Nat} {ss:ZD} {S:Str->Bool} {ls:ZX} {fs:ZZ},1<=n->n<=96->Yi ss true fs->Ls n ss S ls->on (C "least_record" [.f (.tup fs),.f (.dct ls)]) fun x=>∃t,Lv (n+2) (fs.all (Cq S)) t/\x=(.f t,[])
set_option maxHeartbeats 1000000 in
theorem Bl{w:W}(hL:Zqv w.C){n:Nat}{ss:ZD}{S:Str->Bool}{ls:ZX}{fs:ZZ}(n1:1<=n)(n2:n<=96)(hf:Yi ss true fs)(hs:Ls n ss S ls):wF Y2 w [.f (.tup fs),.f (.dct ls)] fun x=>∃t,Lv (n+2) (fs.all (Cq S)) t/\x=(.f t,[]):=by
 have sl:=sizeLine_eq;have fl:=hf.l
 have hv:∀f∈fs,Lv n (Cq S f) (fpt ls f):=fun f mf=>by
  obtain⟨m,x,o,ds,rfl,_,_,ho,hd⟩:=(hf.p f mf).asR;cases hd with
  | no =>
   obtain⟨t,e,g⟩:=hs o ho;show Lv n (false || S o) ((Zr ls (.inr o)).getD .non);rw[e];exact g
  | is h=>exact .inr ⟨rfl,0,_,rfl,h.pl.mono n1⟩
 have ed:∀t∈fs.map (fpt ls),Lv n (notN t) t:=fun t mt=>by
  obtain⟨f,mf,rfl⟩:=B8.mp mt;have:=hv f mf;rw[this.b]at this;exact this
 refine Vx rfl fun D rt _=>?_;refine Gq (fpt ls) (fun p=>∃s0,p=[s0,.f (.dct ls)]) ⟨_,rfl⟩ (fun f mf p K hp hk=>?_) fun p hp=>?_
 .obtain⟨s0,rfl⟩:=hp;obtain⟨m,x,o,ds,rfl,_,_,ho,hd⟩:=(hf.p f mf).asR;refine Y4 hL fun y e=>?_;subst e;cases ds with
  | cons d ds =>
   cases hd;exact hk _ ⟨_,rfl⟩
  | nil =>
   obtain⟨t,e,g⟩:=hs o ho;refine Mb e ?_;have:=hk [.f (.tup [.int m,.str x,.str o,.tup []]),.f (.dct ls)] ⟨_,rfl⟩;rw[show fpt ls (.tup [.int m,.str x,.str o,.tup []])=(Zr ls (.inr o)).getD .non from rfl,e]at this;exact this
 obtain⟨s0,rfl⟩:=hp;show wS w _ _ [.f (.tup fs),.f (.dct ls),.o (.lst (fs.map (fpt ls)))] _;refine innP (by omega) ed ?_
 have eb:((fs.map (fpt ls)).any fun t=>!notN t)=!fs.all (Cq S):=by
  rw[List.any_map,List.not_all_eq_any_not];rw[Bool.eq_iff_iff,XZ,XZ];refine⟨fun⟨f,mf,e⟩=>⟨f,mf, ?_⟩,fun⟨f,mf,e⟩=>⟨f,mf, ?_⟩⟩
  .rw[(hv f mf).b];exact e
  .rw[(hv f mf).b]at e;exact e
 rw[eb];refine Zs (b:=!fs.all (Cq S)) (fun h=>?_) fun h=>?_
 .exact rt _ _ ⟨_,.inl ⟨Zxs h,rfl⟩,rfl⟩
 .have h:=Zxh h
  have hv2:∀t∈fs.map (fpt ls),t=.tup [.int (E1 t),S9 t]/\Pl n (S9 t):=fun t mt=>by
   obtain⟨f,mf,rfl⟩:=B8.mp mt;have:=hv f mf;rw[K0.mp h f mf]at this;exact this.is
  have len:(fs.map (fpt ls)).length<=8:=by rw[Yn];exact fl
  generalize fs.map (fpt ls)=ps at hv2 len ⊢;refine Gq (fun t=>.int (E1 t)) (fun p=>∃s0,p=[s0]) ⟨_,rfl⟩ (fun f mf p K hp hk=>?_) fun p hp=>?_
  .obtain⟨s0,rfl⟩:=hp;rw[(hv2 f mf).1];exact hk [.f (.tup [.int (E1 f),S9 f])] ⟨_,rfl⟩
  obtain⟨s0,rfl⟩:=hp;rw[show ps.map (fun t=>T.int (E1 t))=(ps.map E1).map .int by rw[List.map_map];rfl];refine sumP ?_;refine Gq S9 (fun p=>∃s0,p=[s0]) ⟨_,rfl⟩ (fun f mf p K hp hk=>?_) fun p hp=>?_
  .obtain⟨s0,rfl⟩:=hp;rw[(hv2 f mf).1];exact hk [.f (.tup [.int (E1 f),S9 f])] ⟨_,rfl⟩
  obtain⟨s0,rfl⟩:=hp;refine rt _ _ ⟨_,.inr ⟨h,_,_,rfl, ?_⟩,rfl⟩;refine Pl.tup fun t m=>?_;simp only[Yw,Vk,or_false]at m;rcases m with rfl | rfl
  .refine Pl.tup fun t m=>?_;obtain⟨f,mf,rfl⟩:=B8.mp m;exact(hv2 f mf).2
  .exact⟨.tup [],rfl,by show 1<=n+1;omega⟩
noncomputable def enc(c:Int×Int×Str):T:=.tup [.int c.1,.int c.2.1,.str c.2.2]
theorem Q6:∀cs:List (Int×Int×Str),R8 (cs.map enc)=some (cs.map fun c=>(c.1,c.2.1))
 | []=>rfl
 | c::cs=>by show (R8 (cs.map enc)).map _=_;rw[Q6 cs];rfl
theorem Ao:∀{hs:List (Int×Int)},hs≠[]->∃m∈hs,∀q∈hs,Yb q m=false
 | [],h=>absurd rfl h
 | [a],_=>⟨a,Y5,fun q m=>by cases M4.mp m;unfold Yb;rw[if_pos rfl];exact Dl (Int.lt_irrefl _)⟩
 | a::b::r,_=>by
  obtain⟨m,mm,h⟩:=Ao (hs:=b::r) (by simp);cases e:Yb a m with
  | false =>
   refine⟨m,Y7 _ mm,fun q mq=>?_⟩;rcases Yw.mp mq with rfl | mq
   .exact e
   .exact h q mq
  | true =>
   refine⟨a,Y5,fun q mq=>?_⟩;rcases Yw.mp mq with rfl | mq
   .unfold Yb;rw[if_pos rfl];exact Dl (Int.lt_irrefl _)
   .have:=h q mq;unfold Yb at this e ⊢
    split at this<;>split at e<;>split<;>simp only[decide_eq_true_eq,decide_eq_false_iff_not]at *<;>omega
theorem minTP{cs:List (Int×Int×Str)}{Q:Sl->Prop}(h:cs≠[])(nd:(cs.map (·.2.1)).Nodup)(q:∀c∈cs,Q (.f (enc c))):on (Sz .min [.lst (cs.map enc)]) Q:=by
 obtain⟨m,mm,hm⟩:=Ao (hs:=cs.map fun c=>(c.1,c.2.1)) (by simpa using h);obtain⟨c0,mc0,rfl⟩:=B8.mp mm
 have nd':(cs.map fun c=>(c.1,c.2.1)).Nodup:=by
  have:((cs.map fun c=>(c.1,c.2.1)).map (·.2)).Nodup:=by rw[List.map_map];exact nd
  exact List.Pairwise.of_map (f:=(·.2)) (fun a b h e=>h (by rw[e])) this
 have ez:(cs.map fun c=>(c.1,c.2.1)).zip (cs.map enc)=cs.map fun c=>((c.1,c.2.1),enc c):=by rw[List.zip_map']
 have ei:Uw (cs.map enc)=none:=by
  cases cs with
  | nil=>exact absurd rfl h
  | cons _ _=>rfl
 cases ef:cs.find? ((fun p:(Int×Int)×T=>(cs.map fun c=>(c.1,c.2.1)).all fun q=>!Yb q p.1) ∘ fun c=>((c.1,c.2.1),enc c)) with
 | none =>
  refine absurd ?_ (XF.mp ef c0 mc0);exact K0.mpr fun q mq=>by rw[hm q mq];rfl
 | some c =>
  refine Yv (a:=Sl.f (enc c)) ?_ (q c (List.mem_of_find?_eq_some ef));show zt (cs.map enc)=_;unfold zt;rw[ei];show (ij (cs.map enc)).map _=_;unfold ij;rw[Q6];show (if (cs.map fun c=>(c.1,c.2.1)).Nodup then _ else none).map _=_;rw[if_pos nd',ez,List.find?_map,ef]
  rfl
def Zqk(C:Cs):Prop:=∀{n:Nat} {ss:ZD} {S:Str->Bool} {ls:ZX} {fs:ZZ},Yi ss false fs->Ls n ss S ls->on (C "least_choice" [.f (.tup fs),.f (.dct ls)]) fun x=>∃t,Lv (n+2) (fs.any (Na S)) t/\x=(.f t,[])
set_option maxHeartbeats 1000000 in
theorem Br{w:W}{n:Nat}{ss:ZD}{S:Str->Bool}{ls:ZX}{fs:ZZ}(hf:Yi ss false fs)(hs:Ls n ss S ls):wF Y3 w [.f (.tup fs),.f (.dct ls)] fun x=>∃t,Lv (n+2) (fs.any (Na S)) t/\x=(.f t,[]):=by
 refine Vx rfl fun D rt _=>?_;refine Us (fun rest acc p=>∃cs s0,acc=cs.map enc/\p=[s0,.f (.dct ls)]/\(∀x∈rest,x∈fs)/\(cs.map (·.2.1)++rest.map J4).Sublist (fs.map J4)/\(∀c∈cs,c.2.2∈ss/\S c.2.2=true)/\((cs.isEmpty=false\/rest.any (Na S)=true)↔fs.any (Na S)=true)) ⟨[],_,rfl,rfl,fun _ m=>m,List.Sublist.refl _,fun c m=>absurd m Vk,⟨fun h=>h.resolve_left (fun z=>nomatch z),fun h=>.inr h⟩⟩ (fun x r acc p K hi ky kn=>?_) fun acc p hi=>?_
 .obtain⟨cs,s0,rfl,rfl,hr,hd,hc,hq⟩:=hi;obtain⟨m,y,o,rfl,_,_,ho⟩:=(hf.p x (hr _ Y5)).cho;have nh:∀x∈r,x∈fs:=fun x m=>hr x (Y7 _ m);rw[List.any_cons,show Na S (.tup [.int m,.str y,.str o])=S o from rfl]at hq;obtain⟨t,e,g⟩:=hs o ho;refine Mb e ?_;rcases g with ⟨g,rfl⟩ | ⟨g,c,v,rfl,_⟩
  .refine kn _ ⟨cs,_,rfl,rfl,nh,(List.Sublist.append (List.Sublist.refl _) (List.sublist_cons_self _ _)).trans hd,hc, ?_⟩;rw[<-hq,g,Bool.false_or]
  .refine Mb e ?_;refine ky (enc (c,m,o)) _ ⟨cs++[(c,m,o)],_,by rw[Sk];rfl,rfl,nh,by rw[Sk,XX];exact hd,fun a ma=>?_, ?_⟩
   .rcases Ks.mp ma with ma | ma
    .exact hc a ma
    .cases M4.mp ma;exact⟨ho,g⟩
   .rw[<-hq,g];simp
 obtain⟨cs,s0,rfl,rfl,hr,hd,hc,hq⟩:=hi;show wS w _ _ [.f (.tup fs),.f (.dct ls),.o (.lst (cs.map enc)),.no] _;refine Zs (b:=decide ((((cs.map enc).length:Nat):Int)=0)) (fun h=>?_) fun h=>?_
 .have h:=Rh h;rw[Yn]at h;have:cs=[]:=List.eq_nil_of_length_eq_zero (by omega);subst this;refine rt _ _ ⟨_,.inl ⟨?_,rfl⟩,rfl⟩;cases e:fs.any (Na S) with
  | false=>rfl
  | true=>rcases hq.mpr e with z | z<;>cases z
 .have h:=of_decide_eq_false h;rw[Yn]at h;have ne:cs≠[]:=by intro z;subst z;exact h rfl
  refine minTP ne (((List.sublist_append_left _ _).trans hd).nodup hf.d) fun c mc=>?_;obtain⟨h1,h2⟩:=hc c mc;obtain⟨t,e,g⟩:=hs _ h1;rw[h2]at g;refine Mb e ?_;obtain⟨e1,g1⟩:=g.is;rw[e1];refine rt _ _ ⟨_,.inr ⟨hq.mp (.inl (by cases cs with | nil=>exact absurd rfl ne | cons _ _=>rfl)),_,_,rfl, ?_⟩,rfl⟩;refine Pl.mono (Pl.tup (n:=n) fun t m=>?_) (by omega);simp only[Yw,Vk,or_false]at m;rcases m with rfl | rfl | rfl
  .exact⟨_,rfl,Ju _⟩
  .exact⟨_,rfl,Ju _⟩
  .exact g1
def PLBy(C:Cs):Prop:=∀{n:Nat} {ss:ZD} {S:Str->Bool} {ls:ZX} {t:T},1<=n->n<=96->Shp ss t->Ls n ss S ls->on (C "least_by" [.f t,.f (.dct ls)]) fun x=>∃u,Lv (n+2) (Cb S t) u/\x=(.f u,[])
theorem Pg{w:W}(hR:Zqy w.C)(hC:Zqk w.C){n:Nat}{ss:ZD}{S:Str->Bool}{ls:ZX}{t:T}(n1:1<=n)(n2:n<=96)(ht:Shp ss t)(hs:Ls n ss S ls):wF Jc w [.f t,.f (.dct ls)] fun x=>∃u,Lv (n+2) (Cb S t) u/\x=(.f u,[]):=by
 refine Vx rfl fun D rt _=>?_;cases ht with
 | whole a b=>exact rt _ _ ⟨_,.inr ⟨rfl,_,_,rfl,_,rfl,Ju _⟩,rfl⟩
 | truth=>exact rt _ _ ⟨_,.inr ⟨rfl,_,_,rfl,_,rfl,Ju _⟩,rfl⟩
 | text a b=>exact rt _ _ ⟨_,.inr ⟨rfl,_,_,rfl,_,rfl,Ju _⟩,rfl⟩
 | row a b c=>exact rt _ _ ⟨_,.inr ⟨rfl,_,_,rfl,_,rfl,by show 1<=n+2;omega⟩,rfl⟩
 | map a b c=>exact rt _ _ ⟨_,.inr ⟨rfl,_,_,rfl,_,rfl,by show 1<=n+2;omega⟩,rfl⟩
 | record hp _ =>
  refine Y4 (hR n1 n2 hp hs) fun x h=>?_;obtain⟨u,h,rfl⟩:=h;exact rt _ _ ⟨u,h,rfl⟩
 | choice hp _ =>
  refine Y4 (hC hp hs) fun x h=>?_;obtain⟨u,h,rfl⟩:=h;exact rt _ _ ⟨u,h,rfl⟩
noncomputable def mkD(L:List (Str×T))(acc:ZX):ZX:=(L.map fun p=>((Sum.inr p.1:Key),p.2)).foldl (fun acc kv=>Ya acc kv.1 kv.2) acc
theorem R7:∀L:List (Str×T),Ds (L.map fun p=>.tup [.str p.1,p.2])=some (L.map fun p=>((Sum.inr p.1:Key),p.2))
 | []=>rfl
 | p::L=>by show (some (Sum.inr p.1:Key)).bind _=_;show (Ds (L.map fun p=>.tup [.str p.1,p.2])).map _=_;rw[R7 L];rfl
theorem Zx1{L:List (Str×T)}{Q:Sl->Prop}(q:Q (.o (.dct (mkD L [])))):on (Sz .dict [.lst (L.map fun p=>.tup [.str p.1,p.2])]) Q:=Yv (by show (Ds _).map _=_;rw[R7];rfl) q
theorem As{y:Str}:∀{L:List (Str×T)} {acc:ZX},y ∉ L.map (·.1)->Zr (mkD L acc) (.inr y)=Zr acc (.inr y)
 | [],_,_=>rfl
 | p::L,acc,h=>by
  show Zr (mkD L (Ya acc (.inr p.1) p.2)) (.inr y)=_;rw[C8,Yw]at h;rw[As (fun z=>h (.inr z)),Mc,if_neg (fun z=>h (.inl (Sum.inr.inj z).symm))]
theorem Eh{y:Str}:∀{L:List (Str×T)} {acc:ZX},y∈L.map (·.1)->∃t,Zr (mkD L acc) (.inr y)=some t/\(y,t)∈L
 | [],_,h=>absurd h Vk
 | p::L,acc,h=>by
  show ∃t,Zr (mkD L (Ya acc (.inr p.1) p.2)) (.inr y)=some t/\_;by_cases e:y∈L.map (·.1)
  .obtain⟨t,h1,h2⟩:=Eh (acc:=Ya acc (.inr p.1) p.2) e;exact⟨t,h1,Y7 _ h2⟩
  .rw[C8,Yw]at h;have h:=h.resolve_right e;subst h;exact⟨p.2,by rw[As e,Mc,if_pos rfl],Y5⟩
theorem Gh.keys{ns ss:ZD}{XM:ZX}(h:Gh ns XM ss):(XM.map fun p=>G3 p.1)=ss.map .str:=by
 rw[show (XM.map fun p=>G3 p.1)=(XM.map (·.1)).map G3 by rw[List.map_map];rfl,h.k,List.map_map];rfl
theorem Sa{body:T->P->(Option T->P->Prop)->Prop}{xs ys acc:ZZ}{p:P}{Q:ZZ->P->Prop}(e:xs=ys)(h:Ja body ys acc p Q):Ja body xs acc p Q:=by rw[e];exact h
theorem Zzv{w:W}{root x:Str}{XM:ZX}:wF Ge w [.f (.tup [.str root,.dct XM]),.f (.str x)] fun y=>y=(.f ((Zr XM (.inr x)).getD .non),[]):=by
 refine Vx rfl fun D rt _=>?_;exact rt _ _ rfl
def Zqg(C:Cs):Prop:=∀{root x:Str} {XM:ZX},on (C "form_of" [.f (.tup [.str root,.dct XM]),.f (.str x)]) fun y=>y=(.f ((Zr XM (.inr x)).getD .non),[])
def PLOf(C:Cs):Prop:=∀{root:Str} {XM:ZX} {ss:ZD},Gh ss XM ss->ss.length<=8->on (C "leasts_of" [.f (.tup [.str root,.dct XM])]) fun x=>∃ls,Ls 17 ss (Rk XM ss.length) ls/\x=(.o (.dct ls),[])
set_option maxHeartbeats 1000000 in
theorem Lc{w:W}(hF:Zqg w.C)(hB:PLBy w.C){root:Str}{XM:ZX}{ss:ZD}(h:Gh ss XM ss)(h8:ss.length<=8):wF Uy w [.f (.tup [.str root,.dct XM])] fun x=>∃ls,Ls 17 ss (Rk XM ss.length) ls/\x=(.o (.dct ls),[]):=by
 have hl:=h.len;have e7:((List.range (Int.toNat ((XM.length:Nat):Int))).map fun k=>T.int (k:Nat)).length=ss.length:=by rw[Yn,XJ];exact hl
 refine Vx rfl fun D rt _=>?_;refine Sa h.keys ?_;refine Gq (fun t=>.tup [t,.non]) (fun p=>∃s0,p=[s0]) ⟨_,rfl⟩ (fun f mf p K hp hk=>?_) fun p hp=>?_
 .obtain⟨s0,rfl⟩:=hp;exact hk _ ⟨_,rfl⟩
 obtain⟨s0,rfl⟩:=hp;rw[show (ss.map T.str).map (fun t=>T.tup [t,.non])=(ss.map fun x=>(x,T.non)).map fun p=>.tup [.str p.1,p.2] by rw[List.map_map,List.map_map];rfl];refine Zx1 ?_
 have i0:Ls 1 ss (Rk XM 0) (mkD (ss.map fun x=>(x,T.non)) []):=fun x mx=>by
  obtain⟨t,e,m⟩:=Eh (y:=x) (L:=ss.map fun x=>(x,T.non)) (acc:=[]) (by rw[List.map_map];exact B8.mpr ⟨x,mx,rfl⟩);obtain⟨z,_,ez⟩:=B8.mp m;cases ez;exact⟨_,e,.inl ⟨rfl,rfl⟩⟩
 show wS w _ _ [.f (.tup [.str root,.dct XM]),.o (.dct (mkD (ss.map fun x=>(x,T.non)) [])),.no] _;refine rngP (by omega) (by omega) ?_;refine Gx (fun rest p=>∃ls s2,p=[.f (.tup [.str root,.dct XM]),.o (.dct ls),s2]/\rest.length<=ss.length/\Ls (1+2 * (ss.length - rest.length)) ss (Rk XM (ss.length - rest.length)) ls) ⟨_,_,rfl,by omega,by rw[e7,Nat.sub_self];exact i0⟩ (fun x r p D' hi nx _=>?_) fun p hi=>?_
 .obtain⟨ls,s2,rfl,hr,hL⟩:=hi;rw[B9]at hr hL;refine Sa h.keys ?_;refine Us (fun rest acc p=>∃(L:List (Str×T)) (rs:ZD) (s0 s1:Sl),rest=rs.map T.str/\acc=(L.map fun p=>.tup [.str p.1,p.2])/\p=[s0,s1,.f (.tup [.str root,.dct XM])]/\OF s1 (.dct ls)/\L.map (·.1)++rs=ss/\∀q∈L,Lv (1+2 * (ss.length - (r.length+1))+2) (Rk XM (ss.length - (r.length+1)+1) q.1) q.2) ⟨[],ss,_,_,rfl,rfl,rfl,.inl rfl,rfl,fun q m=>absurd m Vk⟩ (fun x1 r1 acc p K hi ky kn=>?_) fun acc p hi=>?_
  .obtain⟨L,rs,s0,s1,hr1,rfl,rfl,qc,hL1,hq⟩:=hi;cases rs with
   | nil=>cases hr1
   | cons y rs =>
    cases hr1;obtain⟨t,e,ht⟩:=h.get (x:=y) (by rw[<-hL1];simp);refine Y4 hF fun o ho=>?_;subst ho;rw[e];refine Ho qc rfl ?_;refine Y4 (hB (by omega) (by omega) ht hL) fun o ho=>?_;obtain⟨u,hu,rfl⟩:=ho;refine ky _ _ ⟨L++[(y,u)],rs,_,_,rfl,by rw[Sk];rfl,rfl,.inr rfl,by rw[Sk,XX];exact hL1,fun q mq=>?_⟩;rcases Ks.mp mq with mq | mq
    .exact hq q mq
    .cases M4.mp mq;rw[Fs e];exact hu
  obtain⟨L,rs,s0,s1,hr1,rfl,rfl,qc,hL1,hq⟩:=hi;refine Zx1 ?_;refine nx _ ⟨_,_,rfl,by omega,fun y my=>?_⟩;have:rs=[]:=by cases rs with | nil=>rfl | cons _ _=>cases hr1
  subst this;rw[XQ]at hL1;obtain⟨t,e,m⟩:=Eh (y:=y) (L:=L) (acc:=[]) (by rw[hL1];exact my);have:=hq _ m;rw[show ss.length - r.length=ss.length - (r.length+1)+1 by omega,show 1+2 * (ss.length - (r.length+1)+1)=1+2 * (ss.length - (r.length+1))+2 by omega];exact⟨t,e,this⟩
 .obtain⟨ls,s2,rfl,hr,hL⟩:=hi;refine rt _ _ ⟨ls,fun x mx=>?_,rfl⟩;obtain⟨t,e,g⟩:=hL x mx;exact⟨t,e,g.mono (by show 1+2 * (ss.length - 0)<=17;omega)⟩
structure qh(root:Str)(XM:ZX)(ss:ZD):Prop where
 f:Gh ss XM ss
 l0:0<ss.length
 l8:ss.length<=8
 po:∀x∈ss,x∈qk
 r:root∈ss
theorem Aw:∀x∈qk,Sm x:=by unfold Sm;decide +kernel
structure Sn(w d:Nat)(t:T):Prop where
 o:fb 8 t
 w:c9 t<=w
 d:n6 t<=d
theorem Sn.mono{w d w' d':Nat}{t:T}(h:Sn w d t)(a:w<=w')(b:d<=d'):Sn w' d' t:=⟨h.o,Ve h.w a,Ve h.d b⟩
theorem Hk{w d:Nat}:∀{ts:ZZ},(∀t∈ts,Sn w d t)->Sr ts<=ts.length * (w+1)/\E5 ts<=d
 | [],_=>⟨Ju _,Ju _⟩
 | t::ts,h=>by
  obtain⟨h1,h2⟩:=Hk fun t m=>h t (Y7 _ m);have ht:=h t Y5;have:=ht.w;have:=ht.d;refine⟨?_, ?_⟩
  .show c9 t+1+Sr ts<=(ts.length+1) * (w+1);rw[Nat.add_mul,Nat.one_mul];omega
  .show max (n6 t) (E5 ts)<=d;omega
theorem Sn.tup{w d m:Nat}{ts:ZZ}(h:∀t∈ts,Sn w d t)(l:ts.length<=m)(m8:m<=8):Sn (m * (w+1)) (d+1) (.tup ts):=by
 obtain⟨h1,h2⟩:=Hk h;exact⟨⟨by omega,T2.mpr fun t m=>(h t m).o⟩,Ve h1 (Nat.mul_le_mul_right _ l),Nat.succ_le_succ h2⟩
theorem W5{i:Int}(h:Bb i):Sn 71 2 (.int i):=⟨by obtain⟨a,b⟩:=h;show i.natAbs<=10 ^ 19;omega,by show 70<=71;omega,Ju _⟩
theorem Tb{x:Str}(h:Sm x):Sn 71 2 (.str x):=⟨h.2,by show x.length<=71;have:=h.1;omega,Ju _⟩
theorem sn_bl{b:Bool}:Sn 71 2 (.bl b):=⟨trivial,Ju _,Ju _⟩
theorem Dx.sn{t:T}(h:Dx t):Sn 70 1 t:=by
 cases h with
 | int h=>exact⟨(W5 h).o,Yg 70,Ju _⟩
 | bl=>exact⟨trivial,Ju _,Ju _⟩
 | str h=>exact⟨h.2,by show Str.length _<=70;have:=h.1;omega,Ju _⟩
 | nil=>exact⟨⟨Ju _,trivial⟩,Ju _,Yg 1⟩
theorem Ka.sn{t:T}(h:Ka t):Sn 71 2 t:=by
 cases h with
 | no=>exact⟨⟨Ju _,trivial⟩,Ju _,by show 1<=2;omega⟩
 | is h=>exact Sn.tup (m:=1) (w:=70) (d:=1) (fun t m=>by cases M4.mp m;exact h.sn) (Yg _) (by omega)
theorem Fh.sn{ns:ZD}{k:Bool}{t:T}(hn:∀x∈ns,Sm x)(h:Fh ns k t):Sn 288 3 t:=by
 cases h with
 | @mk n x o ds h1 h2 h3 h4 =>
  have b1:Bb n:=(show ∀n∈Gs,Bb n by unfold Bb;decide) n h1;refine Sn.tup (m:=4) (w:=71) (d:=2) (fun t m=>?_) ?_ (by omega)
  .simp only[Yw]at m;rcases m with rfl | rfl | rfl | m
   .exact W5 b1
   .exact Tb h2
   .exact Tb (hn _ h3)
   .cases k with
    | true =>
     match ds,h4 with
     | [d],h4=>cases M4.mp m;exact Ka.sn h4
    | false =>
     match ds,h4 with
     | [],_=>cases m
  .cases k with
   | true =>
    match ds,h4 with
    | [d],h4=>exact Yg 4
   | false =>
    match ds,h4 with
    | [],_=>exact Nat.le_succ 3
theorem Yi.sn{ns:ZD}{k:Bool}{ps:ZZ}(hn:∀x∈ns,Sm x)(h:Yi ns k ps):Sn 2312 4 (.tup ps):=Sn.tup (w:=288) (d:=3) (fun t m=>(h.p t m).sn hn) h.l (Yg 8)
theorem Stk.sn{ss:ZZ}(h:Stk ss):Sn 2312 4 (.tup ss):=by
 obtain⟨zs,rfl,l,h⟩:=h;refine(Sn.tup (w:=71) (d:=2) (m:=8) (fun t m=>?_) (by rw[Yn];exact l) (Yg 8)).mono (by omega) (by omega);obtain⟨z,mz,rfl⟩:=B8.mp m;exact W5 (h z mz)
theorem Shp.sn{ns:ZD}{t:T}(hn:∀x∈ns,Sm x)(h:Shp ns t):Sn 9252 5 t:=by
 have wd:∀x∈[("whole" : Str),"truth","text","row","map","record","choice"],Sm x:=by unfold Sm;decide +kernel
 have w':∀{x:Str},x∈[("whole" : Str),"truth","text","row","map","record","choice"]->Sn 2312 4 (.str x):=fun m=>(Tb (wd _ m)).mono (by omega) (by omega);have i':∀{i:Int},Bb i->Sn 2312 4 (.int i):=fun h=>(W5 h).mono (by omega) (by omega);have s':∀{x:Str},x∈ns->Sn 2312 4 (.str x):=fun h=>(Tb (hn _ h)).mono (by omega) (by omega);have go:∀{ts:ZZ},ts.length<=4->(∀t∈ts,Sn 2312 4 t)->Sn 9252 5 (.tup ts):=fun l h=>Sn.tup (m:=4) (w:=2312) (d:=4) h l (by omega);cases h with
 | whole a b =>
  refine go (by show _+1<=4;simp) fun t m=>?_;simp only[Yw,Vk,or_false]at m;rcases m with rfl | rfl | rfl
  .exact w' (by decide +kernel)
  .exact i' a
  .exact i' b
 | truth =>
  refine go (by show _+1<=4;simp) fun t m=>?_;cases M4.mp m;exact w' (by decide +kernel)
 | text a b =>
  refine go (by show _+1<=4;simp) fun t m=>?_;simp only[Yw,Vk,or_false]at m;rcases m with rfl | rfl
  .exact w' (by decide +kernel)
  .exact i' ⟨by omega,by omega⟩
 | row a b c =>
  refine go (by show _+1<=4;simp) fun t m=>?_;simp only[Yw,Vk,or_false]at m;rcases m with rfl | rfl | rfl
  .exact w' (by decide +kernel)
  .exact s' a
  .exact i' ⟨by omega,by omega⟩
 | map a b c =>
  refine go (by show _+1<=4;simp) fun t m=>?_;simp only[Yw,Vk,or_false]at m;rcases m with rfl | rfl | rfl
  .exact w' (by decide +kernel)
  .exact s' a
  .exact i' ⟨by omega,by omega⟩
 | record a b =>
  refine go (by show 3<=4;omega) fun t m=>?_;simp only[Yw,Vk,or_false]at m;rcases m with rfl | rfl | rfl
  .exact w' (by decide +kernel)
  .exact a.sn hn
  .exact b.sn
 | choice a b =>
  refine go (by show 4<=4;omega) fun t m=>?_;simp only[Yw,Vk,or_false]at m;rcases m with rfl | rfl | rfl | rfl
  .exact w' (by decide +kernel)
  .exact a.sn hn
  .exact b.sn
  .exact sn_bl.mono (by omega) (by omega)
theorem Hg:∀{XM:ZX},(∀p∈XM,okK p.1/\wtK p.1<=9/\Sn 9252 5 p.2)->Lb 8 XM/\Ss XM<=XM.length * 9263/\E6 XM<=5
 | [],_=>⟨trivial,Ju _,Ju _⟩
 | (k,t)::r,h=>by
  obtain⟨h1,h2,h3⟩:=Hg fun p m=>h p (Y7 _ m);obtain⟨k1,k2,k3⟩:=h (k,t) Y5;have k2:wtK k<=9:=k2;have:=k3.w;have:=k3.d;refine⟨⟨k1,k3.o,h1⟩, ?_, ?_⟩
  .show wtK k+c9 t+2+Ss r<=(r.length+1) * 9263;have:c9 t<=9252:=k3.w;omega
  .show max (n6 t) (E6 r)<=5;have:n6 t<=5:=k3.d;omega
theorem qh.shown{root:Str}{XM:ZX}{ss:ZD}(h:qh root XM ss):∃z,ub (.tup [.str root,.dct XM])=some z:=by
 have sm:∀x∈ss,Sm x:=fun x m=>Aw x (h.po x m)
 obtain⟨h1,h2,h3⟩:=Hg (XM:=XM) fun p mp=>by
  have:p.1∈ss.map Sum.inr:=by rw[<-h.f.k];exact List.mem_map_of_mem mp
  obtain⟨x,mx,ex⟩:=B8.mp this;have s:=sm x mx;rw[<-ex];exact⟨s.2,s.1,(h.f.p p mp).sn sm⟩
 have hl:=h.f.len;have h8:=h.l8;have hr:=sm root h.r;have r9:=hr.1;refine yj (n:=8) ⟨by show 2<=8;omega,hr.2,h1,trivial⟩ ?_ ?_
 .show root.length+1+(Ss XM+1+0)<=400000;omega
 .show max 0 (max (E6 XM+1) 0)+1<=100;omega
noncomputable def emp(XM:ZX)(n:Nat):T->Option T
 | .str x=>if Rk XM n x=true then none else some (.str x)
 | _=>none
noncomputable def xt(XM:ZX)(ss:ZD):ZZ:=((SRT.G4 ss).map T.str).filterMap (emp XM ss.length)
theorem E4{root:Str}{XM:ZX}{ss:ZD}(h:qh root XM ss):∃z,ub (.tup (xt XM ss))=some z:=by
 have hl:(xt XM ss).length<=8:=by
  refine Ve (List.length_filterMap_le _ _) ?_;rw[Yn,(SRT.Yx ss).length_eq];exact h.l8
 have hs:=Sn.tup (w:=71) (d:=2) (m:=8) (ts:=xt XM ss) (fun t m=>by
  obtain⟨u,mu,e⟩:=List.mem_filterMap.mp m;obtain⟨x,mx,rfl⟩:=B8.mp mu;have e:(if Rk XM ss.length x=true then none else some (T.str x))=some t:=e
  split at e
  .cases e
  .cases e;exact Tb (Aw x (h.po x ((SRT.Yx ss).mem_iff.mp mx)))) hl (Yg 8)
 exact yj hs.o (Ve hs.w (by omega)) (Ve hs.d (by omega))
def PEmpty(C:Cs):Prop:=∀{root:Str} {XM:ZX} {ss:ZD},Gh ss XM ss->ss.length<=8->on (C "empty_forms" [.f (.tup [.str root,.dct XM])]) fun x=>x=(.f (.tup (xt XM ss)),[])
theorem tj{w:W}(hL:PLOf w.C){root:Str}{XM:ZX}{ss:ZD}(h:Gh ss XM ss)(h8:ss.length<=8):wF Vy w [.f (.tup [.str root,.dct XM])] fun x=>x=(.f (.tup (xt XM ss)),[]):=by
 refine Vx rfl fun D rt _=>?_;refine Y4 (hL h h8) fun x hx=>?_;obtain⟨ls,hs,rfl⟩:=hx;refine Qc (h.srt (by omega)) ?_;refine js (emp XM ss.length) (fun p=>∃s0,p=[s0,.o (.dct ls)]) ⟨_,rfl⟩ (fun f mf p K hp hk=>?_) fun p hp=>?_
 .obtain⟨s0,rfl⟩:=hp;obtain⟨x,mx,rfl⟩:=B8.mp mf;obtain⟨t,e,g⟩:=hs x ((SRT.Yx ss).mem_iff.mp mx);refine Mb e ?_;have:=hk [.f (.str x),.o (.dct ls)] ⟨_,rfl⟩;rcases g with ⟨g,rfl⟩ | ⟨g,c,v,rfl,_⟩
  .rw[show emp XM ss.length (.str x)=some (.str x) by show (if _ then _ else _)=_;rw[g];rfl]at this;exact this
  .rw[show emp XM ss.length (.str x)=none by show (if _ then _ else _)=_;rw[g];rfl]at this;exact this
 obtain⟨s0,rfl⟩:=hp;exact rt _ _ rfl
def cn(C:Cs):Prop:=∀{root:Str} {XM:ZX} {ss:ZD},qh root XM ss->on (C "_law_right" [.f (.tup [.str root,.dct XM])]) fun x=>x=(.f (.bl true),[])
theorem Hr{t:T}{z:Str}{Q:Sl->Prop}(e:ub t=some z)(q:Q (.f (.str z))):on (Sz .repr [t]) Q:=Yv (by show (ub t).map _=_;rw[e];rfl) q
theorem yw{w:W}(hP:Fp w.C)(hE:PEmpty w.C){root:Str}{XM:ZX}{ss:ZD}(h:qh root XM ss):wF Uk w [.f (.tup [.str root,.dct XM])] fun x=>x=(.f (.bl true),[]):=by
 have h8:=h.l8;obtain⟨z,ez⟩:=h.shown;obtain⟨y,ey⟩:=E4 h;refine Vx rfl fun D rt _=>?_;refine Y4 (hP h.f h8) fun x hx=>?_;obtain⟨ps,_,_,hR,rfl⟩:=hx;refine Hr ez ?_;refine Qc (h.f.srt (by omega)) ?_;refine js (emp XM ss.length) (fun p=>∃s0,p=[s0,.o (.dct ps)]) ⟨_,rfl⟩ (fun f mf p K hp hk=>?_) fun p hp=>?_
 .obtain⟨s0,rfl⟩:=hp;obtain⟨x,mx,rfl⟩:=B8.mp mf;have:=hk [.f (.str x),.o (.dct ps)] ⟨_,rfl⟩;have e:=hR x;unfold Y8 at e;refine Zs (b:=!(Zr ps (.inr x)).isSome) (fun g=>?_) fun g=>?_
  .rw[show emp XM ss.length (.str x)=some (.str x) by show (if _ then _ else _)=_;rw[<-e,Zxs g];rfl]at this;exact this
  .rw[show emp XM ss.length (.str x)=none by show (if _ then _ else _)=_;rw[<-e,Zxh g];rfl]at this;exact this
 obtain⟨s0,rfl⟩:=hp;show wS w _ _ [.f (.tup [.str root,.dct XM]),.o (.dct ps),.f (.str z),.f (.tup (xt XM ss))] _;refine Y4 (hE h.f h8) fun x hx=>?_;subst hx;refine Hr ey ?_;refine Hr ey ?_;refine Zs (b:=decide (y=y)) (fun _=>?_) fun g=>absurd rfl (of_decide_eq_false g);refine Hr ez ?_;refine rt _ _ ?_;show ((Sl.f (.bl (decide (z=z))),[]):Sl×ZZ)=_;rw[Dw rfl]
theorem Yi.sub{ns:ZD}{k:Bool}{ps us:ZZ}(h:Yi ns k ps)(p:us.Sublist ps):Yi ns k us:=⟨Ve p.length_le h.l,(p.map J4).nodup h.d,fun t m=>h.p t (p.mem m)⟩
theorem lq.ints:∀{ps:ZX},lq ps->∃zs:ZL,ps.map (·.2)=zs.map .int
 | [],_=>⟨[],rfl⟩
 | p::ps,h=>by
  obtain⟨i,_,e⟩:=h p Y5;obtain⟨zs,ez⟩:=lq.ints (ps:=ps) fun q m=>h q (Y7 _ m);exact⟨i::zs,by rw[C8,e,ez];rfl⟩
theorem maxIP{z:Int}{zs:ZL}{Q:Sl->Prop}(q:∀m:Int,Q (.f (.int m))):on (Sz .max [.lst ([.int z]++zs.map .int)]) Q:=by
 have e:maxL (z::zs)=some (zs.foldl (fun a b=>if a<b then b else a) z):=rfl;refine Yv ?_ (q (zs.foldl (fun a b=>if a<b then b else a) z));show (Uw ((z::zs).map .int)).bind _=_;rw[PV.ints_map];rfl
theorem Gh.put'{ss:ZD}{XM:ZX}{x:Str}{v:T}(h:Gh ss XM ss)(hx:x∈ss)(hv:Shp ss v):Gh ss (Ya XM (.inr x) v) ss:=by
 obtain⟨us,h1,_,h3⟩:=h.put hx hv;rw[h3 hx]at h1;exact h1
def A2(root:Str)(ss:ZD)(x:Sl×ZZ):Prop:=∃XM,qh root XM ss/\x=(.f (.tup [.str root,.dct XM]),[.fn ""])
def Kr(C:Cs):Prop:=∀{root:Str} {XM:ZX} {ss:ZD},qh root XM ss->on (C "_law_light" [.f (.str root),.o (.dct XM)]) (A2 root ss)
set_option maxHeartbeats 1000000 in
theorem bh{w:W}(hP:Fp w.C){root:Str}{XM:ZX}{ss:ZD}(h:qh root XM ss):wF Ut w [.f (.str root),.o (.dct XM)] (A2 root ss):=by
 have sl:=sizeLine_eq;have h8:=h.l8;refine Vx rfl fun D rt _=>?_;have fin:∀XM s2,qh root XM ss->wS w (V3 [.f (.str root),.o (.dct XM)]) (Vl 1 Bf) [.f (.str root),.o (.dct XM),s2] D:=fun XM s2 h=>rt _ _ ⟨XM,h,rfl⟩;refine Y4 (hP h.f h8) fun x hx=>?_;obtain⟨ps,hp,hl,_,rfl⟩:=hx;obtain⟨zs,ez⟩:=hp.ints;refine addLP (by rw[Yn];show 1+_<=_;omega) ?_;rw[ez];refine maxIP fun m=>?_;refine Zs (b:=decide (100<m)) (fun _=>?_) fun _=>fin XM _ h;refine Qc (h.f.srt (by omega)) ?_;refine Gx (fun rest p=>∃rs XM s2,rest=rs.map T.str/\p=[.f (.str root),.o (.dct XM),s2]/\Gh ss XM ss/\∀x∈rs,x∈ss) ⟨SRT.G4 ss,XM,_,rfl,rfl,h.f,fun y m=>(SRT.Yx ss).mem_iff.mp m⟩ (fun x r p D' hi nx _=>?_) fun p hi=>?_
 .obtain⟨rs,XM,s2,hr,rfl,hf,hm⟩:=hi;cases rs with
  | nil=>cases hr
  | cons y rs =>
   cases hr;have hy:=hm y Y5;have m6:∀x∈rs,x∈ss:=fun x m=>hm x (Y7 _ m);obtain⟨t,e,ht⟩:=hf.get hy;refine Mb e ?_;cases ht with
   | record hp hs =>
    refine Mb e ?_;refine Mb e ?_;refine Nj (by have:=hf.len;omega) ?_;refine nx _ ⟨rs,_,_,rfl,rfl,hf.put' hy (.record ?_ hs),m6⟩;show Yi ss true (D0 _ none (some ((1:Nat):Int)));rw[Oq];exact hp.sub (List.take_sublist _ _)
   | _=>exact nx _ ⟨rs,_,_,rfl,rfl,hf,m6⟩
 .obtain⟨rs,XM,s2,hr,rfl,hf,hm⟩:=hi;exact fin XM _ ⟨hf,h.l0,h.l8,h.po,h.r⟩
def T7(r:Sl):Prop:=∃root XM ss,r=.f (.tup [.str root,.dct XM])/\qh root XM ss
noncomputable def Bt:ZD:=["record","choice","row","whole","text","record","map","truth","choice","record"]
def Rw(g:Str):Prop:=g = "record" \/ g = "choice"
theorem vf{g:Str}(h:g∈Bt):(g = "whole" \/ g = "truth" \/ g = "text")\/(g = "row" \/ g = "map")\/Rw g:=by
 simp only[Bt,Yw,Vk,or_false]at h;rcases h with rfl | rfl | rfl | rfl | rfl | rfl | rfl | rfl | rfl | rfl<;>simp[Rw]
noncomputable def pr2(q:Str×Str):T:=.tup [.str q.1,.str q.2]
theorem Tx:∀(a b:ZD),C9 (a.map .str) (b.map .str)=(a.zip b).map pr2
 | [],_=>rfl
 | _::_,[]=>rfl
 | x::a,y::b=>by show .tup [.str x,.str y]::C9 (a.map .str) (b.map .str)=_;rw[Tx a b];rfl
theorem Zxx{body:T->P->En->Prop}{xs ys:ZZ}{p:P}{D:En}(e:xs=ys)(h:Rz body ys p D):Rz body xs p D:=by rw[e];exact h
theorem ua{XM:ZX}{k:Key}{v v2:T}:Ya (Ya XM k v) k v2=Ya XM k v2:=by
 unfold Ya;by_cases h:(XM.any fun p=>decide (p.1=k))=true
 .rw[if_pos h,if_pos h,if_pos]
  .rw[List.map_map];refine List.map_congr_left fun p _=>?_;show (if (if p.1=k then (p.1,v) else p).1=k then _ else _)=_;by_cases e:p.1=k
   .rw[if_pos e,if_pos (show (p.1,v).1=k from e),if_pos e];show ((if p.1=k then (p.1,v) else p).1,v2)=_;rw[if_pos e]
   .rw[if_neg e,if_neg e,if_neg e]
  .obtain⟨p,mp,e⟩:=XZ.mp h;have e:=Rh e;exact XZ.mpr ⟨_,List.mem_map_of_mem mp,by rw[if_pos e];exact Dw e⟩
 .rw[if_neg h,if_neg h,if_pos]
  .rw[Sk];show XM.map _++[if k=k then (k,v2) else (k,v)]=_;rw[if_pos rfl]
   congr 1
   conv=>rhs;rw[<-List.map_id XM]
   refine List.map_congr_left fun q mq=>?_;rw[if_neg]
   .rfl
   .intro z;exact h (XZ.mpr ⟨q,mq,Dw z⟩)
  .rw[List.any_append];show (_ || (decide (k=k) || false))=true;rw[Dw rfl];simp
theorem Mv{x:Str}:∀{a b:ZD},a.length=b.length->x∈a->∃y,(x,y)∈a.zip b
 | _::_,[],h,_=>by cases h
 | z::a,y::b,h,m=>by
  rcases Yw.mp m with rfl | m
  .exact⟨y,Y5⟩
  .obtain⟨u,mu⟩:=Mv (Nat.succ.inj h) m;exact⟨u,Y7 _ mu⟩
structure MkC(C:Cs):Prop where
 dr:Ur C
 pl:∀{s:Str} (ns:ZD),(s = "whole" \/ s = "truth" \/ s = "text")->Tp C "_law_plain" [.f (.str s)] (ny (Shp ns))
 pa:∀{ns:ZD} {XM:ZX} (s:Str),0<ns.length->ns.length<=8->(∀x t,Zr XM x=some t->Shp ns t)->Tp C "_law_parts" [.f (.lst (ns.map .str)),.f (.dct XM),.f (.str s)] (Eo ns (decide (s = "record")))
 st:∀{ns:ZD} {b:Bool} {ps:ZZ},Yi ns b ps->Tp C "_law_struck" [.f (.tup ps)] b8
 nm:Tp C "_law_names" [] Lu
 lt:Kr C
set_option maxHeartbeats 2000000 in
theorem make1{w:W}(H:MkC w.C){pt:Nat->Bool}{ms gs:ZD}(n0:0<ms.length)(n8:ms.length<=8){D:En}{S1:Sl}
    (q:∀XM ss zs i l k s5 s6,TP (Zy zs i l k)->Gh ms XM ss->(∀q∈ms.zip gs,Rw q.2\/q.1∈ss)->D.nx [.o (Zy zs i l k),.f (.lst (ms.map .str)),S1,.f (.lst (gs.map .str)),.o (.dct XM),s5,s6,.no,.no])
    {zs:ZL} {i l k:Int} (tp:TP (Zy zs i l k)) (hg:∀g∈gs,g∈Bt) :
    Rz (fun x s D=>on (asg (.tup (Zk (.v 5) (.v 6))) x s) fun s1=>wS w pt (.seq (.ite (.pr (.cm .isin) (Zk (.v 6) (.tup (Bn (ks "whole") (ks "truth") (ks "text")))))
    (Ux (.put 4 (.v 5) (.call "_law_plain" (Zk (.io 0) (.v 6)))))
    .nil)
   (.seq (.ite (.pr (.cm .isin) (Zk (.v 6) (.tup (Zk (ks "row") (ks "map")))))
    (Ux (.put 4 (.v 5) (.tup (Bn (.v 6) (Zf (.v 1) (.call "_law_draw" (Zk (.io 0) (F8 (.v 1))))) (Zf (.lst (Hn (ki 0) (ki 1) (ki 2) (ki 20))) (.call "_law_draw" (Zk (.io 0) (ki 4))))))))
    .nil)
   .nil)) s1 D) ((ms.zip gs).map pr2) [.o (Zy zs i l k),.f (.lst (ms.map .str)),S1,.f (.lst (gs.map .str)),.o (.dct []),.no,.no,.no,.no] D:=by
  have sl:=sizeLine_eq;have l0:(0:Int)<((ms.map T.str).length:Nat):=by rw[Yn];omega
  have l1:(((ms.map T.str).length:Nat):Int)<=1000000:=by rw[Yn];omega
  refine Gx (fun rest p=>∃rs XM ss zs i l k s5 s6,rest=rs.map pr2/\p=[.o (Zy zs i l k),.f (.lst (ms.map .str)),S1,.f (.lst (gs.map .str)),.o (.dct XM),s5,s6,.no,.no]/\TP (Zy zs i l k)/\Gh ms XM ss/\(∀q∈ms.zip gs,q∈rs\/Rw q.2\/q.1∈ss)/\∀q∈rs,q∈ms.zip gs) ⟨ms.zip gs,[],[],zs,i,l,k,_,_,rfl,rfl,tp,⟨rfl,List.Pairwise.nil,fun x m=>absurd m Vk,fun x m=>absurd m Vk⟩,fun q m=>.inl m,fun q m=>m⟩ (fun x r p D' hi nx _=>?_) fun p hi=>?_
  . obtain⟨rs,XM,ss,zs,i,l,k,s5,s6,hr,rfl,tp,hf,hq,hm⟩:=hi
    cases rs with
    | nil=>cases hr
    | cons yg rs =>
      obtain⟨y,g⟩:=yg;cases hr;have hz:=List.of_mem_zip (hm _ Y5);have m6:∀q∈rs,q∈ms.zip gs:=fun q m=>hm q (Y7 _ m);have hl:XM.length<sizeLine:=by have:=hf.len;have:=U4 hf.d hf.n;omega
      have more:∀t zs i l k,TP (Zy zs i l k)->Shp ms t->D'.nx [.o (Zy zs i l k),.f (.lst (ms.map .str)),S1,.f (.lst (gs.map .str)),.o (.dct (Ya XM (.inr y) t)),.f (.str y),.f (.str g),.no,.no]:=fun t zs i l k tp ht=>by
        obtain⟨us,h1,h2,_⟩:=hf.put hz.1 ht;refine nx _ ⟨rs,_,us,zs,i,l,k,_,_,rfl,rfl,tp,h1,fun q mq=>?_,m6⟩;rcases hq q mq with z | z | z
        . rcases Yw.mp z with rfl | z
          . exact .inr (.inr ((h2 _).mpr (.inr rfl)))
          . exact .inl z
        . exact .inr (.inl z)
        . exact .inr (.inr ((h2 _).mpr (.inl z)))
      rcases vf (hg g hz.2) with h | h | h
      . rcases h with rfl | rfl | rfl
        . refine Fe (H.pl ms (.inl rfl)) tp fun r zs i l k hr tp=>?_
          obtain⟨t,rfl,ht⟩:=hr;refine Nj hl ?_;exact more _ _ _ _ _ tp ht
        . refine Fe (H.pl ms (.inr (.inl rfl))) tp fun r zs i l k hr tp=>?_
          obtain⟨t,rfl,ht⟩:=hr;refine Nj hl ?_;exact more _ _ _ _ _ tp ht
        . refine Fe (H.pl ms (.inr (.inr rfl))) tp fun r zs i l k hr tp=>?_
          obtain⟨t,rfl,ht⟩:=hr;refine Nj hl ?_;exact more _ _ _ _ _ tp ht
      . rcases h with rfl | rfl
        . refine Zb H.dr tp l0 l1 fun r zs i l k r0 r1 tp=>?_
          refine Vf r0 r1 fun o ho=>?_;refine Zb H.dr tp (by omega) (by omega) fun r zs i l k r0 r1 tp=>?_;refine Dk 0 20 r0 r1 rfl fun j j0 j1 _=>?_;refine Nj hl ?_;exact more _ _ _ _ _ tp (.row ho j0 j1)
        . refine Zb H.dr tp l0 l1 fun r zs i l k r0 r1 tp=>?_
          refine Vf r0 r1 fun o ho=>?_;refine Zb H.dr tp (by omega) (by omega) fun r zs i l k r0 r1 tp=>?_;refine Dk 0 20 r0 r1 rfl fun j j0 j1 _=>?_;refine Nj hl ?_;exact more _ _ _ _ _ tp (.map ho j0 j1)
      . have no:D'.nx [.o (Zy zs i l k),.f (.lst (ms.map .str)),S1,.f (.lst (gs.map .str)),.o (.dct XM),.f (.str y),.f (.str g),.no,.no]:=by
          refine nx _ ⟨rs,_,ss,zs,i,l,k,_,_,rfl,rfl,tp,hf,fun q mq=>?_,m6⟩;rcases hq q mq with z | z | z
          . rcases Yw.mp z with rfl | z
            . exact .inr (.inl h)
            . exact .inl z
          . exact .inr (.inl z)
          . exact .inr (.inr z)
        rcases h with rfl | rfl
        . exact no
        . exact no
  . obtain⟨rs,XM,ss,zs,i,l,k,s5,s6,hr,rfl,tp,hf,hq,hm⟩:=hi
    refine q XM ss zs i l k s5 s6 tp hf fun q mq=>?_;rcases hq q mq with z | z
    . cases rs with
      | nil=>cases z
      | cons _ _=>cases hr
    . exact z
set_option maxHeartbeats 2000000 in
theorem make2{w:W}(H:MkC w.C){t0:T}{ms gs:ZD}(n0:0<ms.length)(n8:ms.length<=8){D:En}{S1:Sl}{Ea:ZX}{ss0:ZD}(hf0:Gh ms Ea ss0)
    (q:∀XM ss zs i l k s4 s5 s6 s8,TP (Zy zs i l k)->Gh ms XM ss->(∀q∈ms.zip gs,q.1∈ss)->D.nx [.o (Zy zs i l k),.f (.lst (ms.map .str)),S1,.f (.lst (gs.map .str)),s4,s5,s6,.o (.dct XM),s8])
    {zs:ZL} {i l k:Int} (tp:TP (Zy zs i l k)) (hg:∀g∈gs,g∈Bt) (h0:∀q∈ms.zip gs,Rw q.2\/q.1∈ss0) (s5 s6:Sl) :
    Rz (fun x s D=>on (asg (.tup (Zk (.v 5) (.v 6))) x s) fun s1=>wS w (V3 [.o t0]) (.seq (.ite (.pr (.cm .isin) (Zk (.v 6) (.tup (Zk (ks "record") (ks "choice")))))
    (.seq (.set 8 (.call "_law_parts" (Hn (.io 0) (.v 1) (.v 4) (.v 6))))
   (.seq (.put 7 (.v 5) (.tup (Bn (.v 6) (.v 8) (.call "_law_struck" (Zk (.io 0) (.v 8))))))
   .nil))
    .nil)
   (.seq (.ite (V9 (.v 6) (ks "choice"))
    (Ux (.put 7 (.v 5) (Mh (Zf (.v 7) (.v 5)) (.tup (Z5 (V9 (.call "_law_draw" (Zk (.io 0) (ki 2))) (ki 1)))))))
    .nil)
   .nil)) s1 D) ((ms.zip gs).map pr2) [.o (Zy zs i l k),.f (.lst (ms.map .str)),S1,.f (.lst (gs.map .str)),.o (.dct Ea),s5,s6,.o (.dct Ea),.no] D:=by
  have sl:=sizeLine_eq;refine Gx (fun rest p=>∃rs XM ss zs i l k s4 s5 s6 s8,rest=rs.map pr2/\p=[.o (Zy zs i l k),.f (.lst (ms.map .str)),S1,.f (.lst (gs.map .str)),s4,s5,s6,.o (.dct XM),s8]/\OF s4 (.dct Ea)/\TP (Zy zs i l k)/\Gh ms XM ss/\(∀q∈ms.zip gs,(Rw q.2/\q∈rs)\/q.1∈ss)/\∀q∈rs,q∈ms.zip gs) ⟨ms.zip gs,Ea,ss0,zs,i,l,k,_,_,_,_,rfl,rfl,.inl rfl,tp,hf0,fun q m=>(h0 q m).imp (fun z=>⟨z,m⟩) id,fun q m=>m⟩ (fun x r p D' hi nx _=>?_) fun p hi=>?_
  . obtain⟨rs,XM,ss,zs,i,l,k,s4,s5,s6,s8,hr,rfl,qc,tp,hf,hq,hm⟩:=hi
    cases rs with
    | nil=>cases hr
    | cons yg rs =>
      obtain⟨y,g⟩:=yg;cases hr;have hz:=List.of_mem_zip (hm _ Y5);have m6:∀q∈rs,q∈ms.zip gs:=fun q m=>hm q (Y7 _ m);have hl:XM.length<100:=by have:=hf.len;have:=U4 hf.d hf.n;omega
      have hk0:∀x t,Zr Ea x=some t->Shp ms t:=fun x t e=>by
        obtain⟨p,mp,rfl,_⟩:=Cz e;exact hf0.p p mp
      have more:∀t zs i l k s8,TP (Zy zs i l k)->Shp ms t->D'.nx [.o (Zy zs i l k),.f (.lst (ms.map .str)),S1,.f (.lst (gs.map .str)),.f (.dct Ea),.f (.str y),.f (.str g),.o (.dct (Ya XM (.inr y) t)),s8]:=fun t zs i l k s8 tp ht=>by
        obtain⟨us,h1,h2,_⟩:=hf.put hz.1 ht;refine nx _ ⟨rs,_,us,zs,i,l,k,_,_,_,_,rfl,rfl,.inr rfl,tp,h1,fun q mq=>?_,m6⟩;rcases hq q mq with ⟨z1,z⟩ | z
        . rcases Yw.mp z with rfl | z
          . exact .inr ((h2 _).mpr (.inr rfl))
          . exact .inl ⟨z1,z⟩
        . exact .inr ((h2 _).mpr (.inl z))
      rcases vf (hg g hz.2) with h | h | h
      . have ng:¬ Rw g:=by rcases h with rfl | rfl | rfl<;>(unfold Rw;decide +kernel)
        have no:D'.nx [.o (Zy zs i l k),.f (.lst (ms.map .str)),S1,.f (.lst (gs.map .str)),s4,.f (.str y),.f (.str g),.o (.dct XM),s8]:=by
          refine nx _ ⟨rs,_,ss,zs,i,l,k,_,_,_,_,rfl,rfl,qc,tp,hf,fun q mq=>?_,m6⟩;rcases hq q mq with ⟨z1,z⟩ | z
          . rcases Yw.mp z with rfl | z
            . exact absurd z1 ng
            . exact .inl ⟨z1,z⟩
          . exact .inr z
        rcases h with rfl | rfl | rfl<;>exact no
      . have ng:¬ Rw g:=by rcases h with rfl | rfl<;>(unfold Rw;decide +kernel)
        have no:D'.nx [.o (Zy zs i l k),.f (.lst (ms.map .str)),S1,.f (.lst (gs.map .str)),s4,.f (.str y),.f (.str g),.o (.dct XM),s8]:=by
          refine nx _ ⟨rs,_,ss,zs,i,l,k,_,_,_,_,rfl,rfl,qc,tp,hf,fun q mq=>?_,m6⟩;rcases hq q mq with ⟨z1,z⟩ | z
          . rcases Yw.mp z with rfl | z
            . exact absurd z1 ng
            . exact .inl ⟨z1,z⟩
          . exact .inr z
        rcases h with rfl | rfl<;>exact no
      . rcases h with rfl | rfl
        . refine Ho qc rfl ?_
          refine Fe (H.pa "record" n0 n8 hk0) tp fun r zs i l k hr tp=>?_;obtain⟨ps,rfl,hps⟩:=hr;refine Fe (H.st hps) tp fun r zs i l k hr tp=>?_;obtain⟨us,rfl,hus⟩:=hr;refine Nj (by omega) ?_;exact more _ _ _ _ _ _ tp (.record hps hus)
        . refine Ho qc rfl ?_
          refine Fe (H.pa "choice" n0 n8 hk0) tp fun r zs i l k hr tp=>?_;obtain⟨ps,rfl,hps⟩:=hr;refine Fe (H.st hps) tp fun r zs i l k hr tp=>?_;obtain⟨us,rfl,hus⟩:=hr;refine Nj (by omega) ?_;refine Mb (x:=.tup [.str "choice",.tup ps,.tup us]) (by rw[Mc,if_pos rfl]) ?_;refine Zb H.dr tp (by omega) (by omega) fun r zs i l k r0 r1 tp=>?_;have e:=hf.len;obtain⟨us',h1,_⟩:=T6 (x:=y) (v:=.tup [.str "choice",.tup ps,.tup us]) hf.k hf.d;refine Nj ?_ ?_
          . unfold Ya
            split
            . rw[Yn];omega
            . rw[Qz,ZI];omega
          . rw[ua]
            exact more _ _ _ _ _ _ tp (.choice hps hus)
  . obtain⟨rs,XM,ss,zs,i,l,k,s4,s5,s6,s8,hr,rfl,qc,tp,hf,hq,hm⟩:=hi
    refine q XM ss zs i l k s4 s5 s6 s8 tp hf fun q mq=>?_;rcases hq q mq with ⟨_,z⟩ | z
    . cases rs with
      | nil=>cases z
      | cons _ _=>cases hr
    . exact z
set_option maxHeartbeats 2000000 in
theorem ik{w:W}(H:MkC w.C):Td Jr w [] T7:=by
 intro zs i l k tp;refine Vx rfl fun D rt _=>?_;refine Fe H.nm tp fun r zs i l k hr tp=>?_;obtain⟨ns,rfl,l8,nd,po⟩:=hr;refine Zb H.dr tp (by omega) (by omega) fun r zs i l k r0 r1 tp=>?_;refine Dk 1 8 r0 r1 rfl fun j j1 j8 _=>?_;have e:D0 (ns.map .str) none (some j)=(ns.take j.toNat).map .str:=by rw[cut_to (by omega) (by rw[Yn];omega),List.map_take]
 show wS w _ _ [.o (Zy zs i l k),.o (.lst (D0 (ns.map .str) none (some j))),.no,.no,.no,.no,.no,.no,.no] _;rw[e];have m0:0<(ns.take j.toNat).length:=by rw[L0t];omega
 have m8:(ns.take j.toNat).length<=8:=by rw[L0t];omega
 have md:(ns.take j.toNat).Nodup:=(List.take_sublist _ _).nodup nd;have mp:∀x∈ns.take j.toNat,x∈qk:=fun x m=>po x (List.mem_of_mem_take m);generalize ns.take j.toNat=ms at m0 m8 md mp ⊢;refine Us (fun rest acc p=>∃gs zs i l k s0,acc=gs.map T.str/\gs.length+rest.length=ms.length/\(∀g∈gs,g∈Bt)/\TP (Zy zs i l k)/\p=[s0,.o (.lst (Bt.map .str)),.o (Zy zs i l k)]) ⟨[],zs,i,l,k,_,rfl,by simp,fun g m=>absurd m Vk,tp,rfl⟩ (fun x r acc p K hi ky kn=>?_) fun acc p hi=>?_
 .obtain⟨gs,zs,i,l,k,s0,rfl,hl,hg,tp,rfl⟩:=hi;refine Zb H.dr tp (by omega) (by omega) fun r zs i l k r0 r1 tp=>?_;refine Vf (ss:=Bt) r0 r1 fun g mg=>?_;refine ky _ _ ⟨gs++[g],zs,i,l,k,_,by rw[Sk];rfl,by rw[Qz,ZI];rw[B9]at hl;omega,fun a ma=>?_,tp,rfl⟩;rcases Ks.mp ma with ma | ma
  .exact hg a ma
  .cases M4.mp ma;exact mg
 obtain⟨gs,zs,i,l,k,s0,rfl,hl,hg,tp,rfl⟩:=hi;have hl:ms.length=gs.length:=by simpa using hl.symm
 show wS w _ _ [.o (Zy zs i l k),.f (.lst (ms.map .str)),.o (.lst (Bt.map .str)),.o (.lst (gs.map .str)),.no,.no,.no,.no,.no] _;refine Zxx (Tx ms gs) ?_;refine make1 H m0 m8 (fun XM ss zs i l k s5 s6 tp hf hq=>?_) tp hg;refine Zxx (Tx ms gs) ?_;refine make2 H m0 m8 hf (fun XM ss zs i l k s4 s5 s6 s8 tp hf hq=>?_) tp hg hq s5 s6;have l0:(0:Int)<((ms.map T.str).length:Nat):=by rw[Yn];omega
 have l1:(((ms.map T.str).length:Nat):Int)<=1000000:=by rw[Yn];omega
 refine Zb H.dr tp l0 l1 fun r zs i l k r0 r1 tp=>?_;refine Vf r0 r1 fun o ho=>?_
 have sub:∀x∈ms,x∈ss:=fun x m=>by
  obtain⟨y,my⟩:=Mv hl m;exact hq _ my
 have le:=U4 hf.d hf.n;have ge:=U4 md sub;refine Y4 (H.lt (root:=o) (XM:=XM) (ss:=ss) ⟨⟨hf.k,hf.d,fun x m=>m,fun p m=>(hf.p p m).mono sub⟩,by omega,by omega,fun x m=>mp x (hf.n x m),sub o ho⟩) fun x hx=>?_;obtain⟨My,hm,rfl⟩:=hx;exact rt _ _ ⟨_,_,⟨_,_,_,rfl,hm⟩,tp,rfl⟩
def isIn(lo hi:Int)(t:T):Prop:=∃v:Int,t=.int v/\lo<=v/\v<=hi
theorem Nw{w:W}(hD:Ur w.C){n lo hi:Int}(h:lo<=hi):Td Yz w [.f (.int n),.f (.int lo),.f (.int hi)] (ny (isIn lo hi)):=by
 intro zs i l k tp;refine Vx rfl fun D rt _=>?_;refine Zb hD tp (by omega) (by omega) fun r zs i l k r0 r1 tp=>?_;refine Dk (-1) 2 r0 r1 rfl fun d _ _ _=>?_;exact rt _ _ ⟨.f (.int (if (if n+d<hi then n+d else hi)>lo then (if n+d<hi then n+d else hi) else lo)),_,⟨_,rfl,_,rfl,by split<;>omega,by split<;>split<;>omega⟩,tp,rfl⟩
def Zqj(C:Cs):Prop:=∀{n lo hi:Int},lo<=hi->Tp C "_law_number_turned" [.f (.int n),.f (.int lo),.f (.int hi)] (ny (isIn lo hi))
theorem Pc{ns:ZD}{k:Bool}:∀{ps:ZZ},(∀t∈ps,Fh ns k t)->Nd ps=some (ps.map J4)
 | [],_=>rfl
 | t::ps,h=>by
  have ih:=Pc fun t m=>h t (Y7 _ m);cases h t Y5 with
  | mk _ _ _ _ =>
   show (Nd ps).map _=_;rw[ih];rfl
theorem rp{ns:ZD}{k:Bool}{ps:ZZ}(h:Yi ns k ps):∃us,Xl ps=some us/\Yi ns k us:=by
 have hh:=Pc h.p
 have pm:((SRT.Tg ((ps.map J4).zip ps)).map (·.2)).Perm ps:=by
  have:=(SRT.Gu ((ps.map J4).zip ps)).map (·.2);rw[List.map_snd_zip (by rw[Yn];omega)]at this;exact this
 refine⟨(SRT.Tg ((ps.map J4).zip ps)).map (·.2), ?_, ?_, ?_,fun t m=>h.p t (pm.mem_iff.mp m)⟩
 .unfold Xl;rw[hh];show (if _ then _ else _)=_;rw[if_pos ⟨h.d,by have:=h.l;omega⟩]
 .rw[pm.length_eq];exact h.l
 .exact((pm.map J4).nodup_iff).mpr h.d
theorem Yi.set{ns:ZD}{k:Bool}{ps:ZZ}{j:Nat}{x y:T}(h:Yi ns k ps)(e:ps[j]?=some x)(hy:Fh ns k y)(hd:J4 y=J4 x):Yi ns k (ps.set j y):=by
 have em:(ps.set j y).map J4=ps.map J4:=by
  rw[List.map_set];refine List.ext_getElem? fun i=>?_;rw[List.getElem?_set]
  split
  .rename_i z
   subst z;have hl:=(Tz.mp e).1;rw[if_pos (by rw[Yn];exact hl),Fu,e,hd];rfl
  .rfl
 refine⟨by rw[XY];exact h.l,by rw[em];exact h.d,fun p m=>?_⟩;rcases List.mem_or_eq_of_mem_set m with m | rfl
 .exact h.p p m
 .exact hy
theorem Yi.app{ns:ZD}{k:Bool}{ps:ZZ}{y:T}(h:Yi ns k ps)(l:ps.length<8)(hy:Fh ns k y)(hd:∀z∈ps.map J4,z≠J4 y):Yi ns k (ps++[y]):=by
 refine⟨by rw[Qz,ZI];omega, ?_,fun p m=>?_⟩
 .rw[Sk,List.nodup_append];refine⟨h.d,by simp,fun a ma b mb=>?_⟩;rw[show b=J4 y by simpa using mb];exact hd a ma
 .rcases Ks.mp m with m | m
  .exact h.p p m
  .cases M4.mp m;exact hy
theorem y9{ts:ZZ}{i:Int}{t:T}{Q:T->Prop}(h0:0<=i)(h1:i<ts.length)(q:Q (.lst (ts.set i.toNat t))):on (putAt (.lst ts) (.int i) t) Q:=by
 refine Yv ?_ q;show (Sv ts.length i).map _=_;unfold Sv;rw[if_pos h0,if_pos h1];rfl
theorem Zz6{ts:ZZ}{i:Int}{t:T}(h0:0<=i)(h1:i<ts.length):Ci (ts.set i.toNat t) i=some t:=by
 unfold Ci Sv;rw[if_pos h0,XY,if_pos h1];show (ts.set i.toNat t)[i.toNat]?=_;rw[List.getElem?_set_self (by omega)]
noncomputable def Lj(k:Bool)(ps us:ZZ)(b:Bool):T:=match k with
 | true=>.tup [.str "record",.tup ps,.tup us]
 | false=>.tup [.str "choice",.tup ps,.tup us,.bl b]
set_option maxHeartbeats 2000000 in
theorem wc{w:W}(hD:Ur w.C){ns:ZD}{a0:List Sl}{k:Bool}{ps0 us ps:ZZ}{b:Bool}(hs:Stk us)(hp:Yi ns k ps){D:En}{N1:Sl}(rt:∀r zs i l k' p,TP (Zy zs i l k')->Shp ns r->p.length=12->D.rt (.f r) (.o (Zy zs i l k')::p))
  {zs:ZL} {i l k':Int} (tp:TP (Zy zs i l k')) (t0:T) (s3 s4 s6 s7 s8 s9:Sl) :
  wS w (V3 [.o t0,.f (.lst (ns.map .str)),.f (Lj k ps0 us b)]) (Vl 8 Zj) [.o (Zy zs i l k'),N1,.f (Lj k ps0 us b),s3,s4,.o (.lst ps),s6,s7,s8,s9,.no,.no,.no] D:=by
 obtain⟨zz,rfl,zl,zb⟩:=hs;obtain⟨qs,eq,hq⟩:=rp hp;cases k
 all_goals
  refine Ac hp.p fun s0=>?_;refine Us (fun rest acc p=>∃rs ms s0,rest=rs.map T.int/\acc=ms.map T.int/\(ms++rs).Sublist zz/\p=[s0,.o (.lst ((ps.map J4).map .int))]) ⟨zz,[],_,rfl,rfl,List.Sublist.refl _,rfl⟩ (fun x r acc p K hi ky kn=>?_) fun acc p hi=>?_
  .obtain⟨rs,ms,s0,hr,rfl,hs,rfl⟩:=hi;cases rs with
   | nil=>cases hr
   | cons z rs =>
    cases hr;refine Ld ?_;refine Zs (b:=!((ps.map J4).any fun y=>decide (y=z))) (fun _=>?_) fun _=>?_
    .exact ky _ _ ⟨rs,ms++[z],_,rfl,by rw[Sk];rfl,by rw[XX];exact hs,rfl⟩
    .exact kn _ ⟨rs,ms,_,rfl,rfl,(List.Sublist.append (List.Sublist.refl _) (List.sublist_cons_self _ _)).trans hs,rfl⟩
  obtain⟨rs,ms,s0,hr,rfl,hs,rfl⟩:=hi;have hs:ms.Sublist zz:=(List.sublist_append_left _ _).trans hs;have st:Stk (ms.map .int):=⟨ms,rfl,Ve hs.length_le zl,fun z m=>zb z (hs.subset m)⟩;refine srtP eq ?_
 .refine Zb hD tp (by omega) (by omega) fun r zs i l k r0 r1 tp=>?_;exact rt _ _ _ _ _ _ tp (.choice hq st) rfl
 .exact rt _ _ _ _ _ _ tp (.record hq st) rfl
theorem bit{b:Bool}:(0:Int)<=(if b=true then 1 else 0)/\(if b=true then (1:Int) else 0)<2:=by cases b<;>decide
theorem Te:∀a∈[("f" : Str),"g","h","k","b"],a.length=1/\∀c∈a.cps.toList,c<16 ^ 8:=by decide +kernel
def xn:S->S
 | .seq (.ite _ _ b) _=>b
 | s=>s
theorem Am{j:Int}(h:T.int j∈[1,2,3,9,10,500].map T.int):j∈Gs:=by
 obtain⟨z,mz,ez⟩:=B8.mp h;cases ez;exact(show ∀z∈[1,2,3,9,10,500],z∈Gs by decide) j mz
set_option maxHeartbeats 4000000 in
theorem K6{w:W}(hD:Ur w.C)(hW:O8 w.C){ns:ZD}(n0:0<ns.length)(n8:ns.length<=8){k:Bool}{us ps:ZZ}{b:Bool}(hs:Stk us)(hp:Yi ns k ps){D:En}(rt:∀r zs i l k' p,TP (Zy zs i l k')->Shp ns r->p.length=12->D.rt (.f r) (.o (Zy zs i l k')::p))
  {zs:ZL} {i l k':Int} (tp:TP (Zy zs i l k')) (t0:T) :
  wS w (V3 [.o t0,.f (.lst (ns.map .str)),.f (Lj k ps us b)]) (Vl 4 Zj) [.o (Zy zs i l k'),.f (.lst (ns.map .str)),.f (Lj k ps us b),.no,.no,.no,.no,.no,.no,.no,.no,.no,.no] D:=by
 have sl:=sizeLine_eq;have l0:(0:Int)<((ns.map T.str).length:Nat):=by rw[Yn];omega
 have l1:(((ns.map T.str).length:Nat):Int)<=1000000:=by rw[Yn];omega
 have pl:=hp.l;have fin:∀{ps':ZZ} {zs i l k'} (s3 s4 s6 s7 s8 s9:Sl),TP (Zy zs i l k')->Yi ns k ps'->wS w (V3 [.o t0,.f (.lst (ns.map .str)),.f (Lj k ps us b)]) (Vl 8 Zj) [.o (Zy zs i l k'),.f (.lst (ns.map .str)),.f (Lj k ps us b),s3,s4,.o (.lst ps'),s6,s7,s8,s9,.no,.no,.no] D:=fun s3 s4 s6 s7 s8 s9 tp Sy=>wc hD (a0:=[]) hs Sy rt tp t0 s3 s4 s6 s7 s8 s9;cases k
 all_goals
  refine Zb hD tp (by omega) (by omega) fun a zs i l k a0 a1 tp=>?_;refine Zb hD tp (by omega) (by omega) fun way zs i l k w0 w1 tp=>?_;show wS w _ _ [.o (Zy zs i l k),.f (.lst (ns.map .str)),.f (Lj _ ps us b),.no,.no,.o (.lst ps),.f (.int a),.f (.int way),.no,.no,.no,.no,.no] _
 .have tw:wS w (V3 [.o t0,.f (.lst (ns.map .str)),.f (Lj false ps us b)]) (xn (xn (Vl 7 Zj))) [.o (Zy zs i l k),.f (.lst (ns.map .str)),.f (Lj false ps us b),.no,.no,.o (.lst ps),.f (.int a),.f (.int way),.no,.no,.no,.no,.no] ⟨fun q=>wS w (V3 [.o t0,.f (.lst (ns.map .str)),.f (Lj false ps us b)]) (Vl 8 Zj) q D,D.rt,D.bk,D.ct⟩:=by
   refine Zb hD tp (by omega) (by omega) fun r zs i l k r0 r1 tp=>?_;refine Dk 1 500 r0 r1 rfl fun j _ _ mj=>?_;have hj:j∈Gs:=Am mj;refine Qq hW hj ?_;have qt:=D5 (Te "k" (by decide +kernel)) hj;refine O7 (by have:=qt.1;rw[Str.length_append]at this;omega) ?_;refine Zb hD tp l0 l1 fun r zs i l k r0 r1 tp=>?_;refine Vf r0 r1 fun o ho=>?_;refine Ac hp.p fun s0=>?_;refine Ld ?_;refine Zs (b:=!((ps.map J4).any fun y=>decide (y=j))) (fun h=>?_) fun _=>fin _ _ _ _ _ _ tp hp;refine Zs (b:=decide (((ps.length:Nat):Int)<8)) (fun h2=>?_) fun _=>fin _ _ _ _ _ _ tp hp;have h2:=Rh h2;refine Vp (by omega) ?_;exact fin _ _ _ _ _ _ tp (hp.app (by omega) (.mk hj qt ho trivial) (cg h))
  have els:wS w (V3 [.o t0,.f (.lst (ns.map .str)),.f (Lj false ps us b)]) (xn (Vl 7 Zj)) [.o (Zy zs i l k),.f (.lst (ns.map .str)),.f (Lj false ps us b),.no,.no,.o (.lst ps),.f (.int a),.f (.int way),.no,.no,.no,.no,.no] ⟨fun q=>wS w (V3 [.o t0,.f (.lst (ns.map .str)),.f (Lj false ps us b)]) (Vl 8 Zj) q D,D.rt,D.bk,D.ct⟩:=by
   refine Zs (b:=decide (way<3)) (fun _=>?_) fun _=>tw;refine Zs (b:=decide (a<((ps.length:Nat):Int))) (fun h2=>?_) fun _=>tw;have h2:=Rh h2;obtain⟨x,atx,gx,mx⟩:=Co a0 h2;obtain⟨n,y,o,rfl,hn,hy,ho⟩:=(hp.p x mx).cho;refine Nf atx ?_;refine Zb hD tp l0 l1 fun r zs i l k r0 r1 tp=>?_;refine Vf r0 r1 fun o1 nu=>?_;refine Zb hD tp (by omega) (by omega) fun r zs i l k r0 r1 tp=>?_;refine Vf (ss:=[o,o1]) (bit (b:=decide (r=0))).1 (bit (b:=decide (r=0))).2 fun o2 M7=>?_
   have M7:o2∈ns:=by
    simp only[Yw,Vk,or_false]at M7;rcases M7 with rfl | rfl
    .exact ho
    .exact nu
   refine Nf atx ?_;refine Nf atx ?_;refine Qq hW hn ?_;have qt:=D5 (Te "h" (by decide +kernel)) hn;refine O7 (by have:=qt.1;rw[Str.length_append]at this;omega) ?_;refine Nf atx ?_;refine y9 a0 h2 ?_;exact fin _ _ _ _ _ _ tp (hp.set gx (.mk hn qt M7 trivial) rfl)
  refine Zs (b:=decide (way=0)) (fun _=>?_) fun _=>els;refine Zs (b:=decide (a<((ps.length:Nat):Int))) (fun h2=>?_) fun _=>els;refine popP a0 (Rh h2) fun x _ _=>?_;exact fin _ _ _ _ _ _ tp (hp.sub (List.eraseIdx_sublist _ _))
 .have tw:wS w (V3 [.o t0,.f (.lst (ns.map .str)),.f (Lj true ps us b)]) (xn (xn (Vl 7 Zj))) [.o (Zy zs i l k),.f (.lst (ns.map .str)),.f (Lj true ps us b),.no,.no,.o (.lst ps),.f (.int a),.f (.int way),.no,.no,.no,.no,.no] ⟨fun q=>wS w (V3 [.o t0,.f (.lst (ns.map .str)),.f (Lj true ps us b)]) (Vl 8 Zj) q D,D.rt,D.bk,D.ct⟩:=by
   refine Zb hD tp (by omega) (by omega) fun r zs i l k r0 r1 tp=>?_;refine Dk 1 500 r0 r1 rfl fun j _ _ mj=>?_;have hj:j∈Gs:=Am mj;refine Qq hW hj ?_;have qt:=D5 (Te "k" (by decide +kernel)) hj;refine O7 (by have:=qt.1;rw[Str.length_append]at this;omega) ?_;refine Zb hD tp l0 l1 fun r zs i l k r0 r1 tp=>?_;refine Vf r0 r1 fun o ho=>?_;refine Zb hD tp (by omega) (by omega) fun r zs i l k r0 r1 tp=>?_;refine ixP r0 r1 fun d _ md=>?_
   have hd:Ka d:=by
    simp only[Yw,Vk,or_false]at md;rcases md with rfl | rfl
    .exact .no
    .exact .is (.int (by unfold Bb;decide))
   refine Ac hp.p fun s0=>?_;refine Ld ?_;refine Zs (b:=!((ps.map J4).any fun y=>decide (y=j))) (fun h=>?_) fun _=>fin _ _ _ _ _ _ tp hp;refine Zs (b:=decide (((ps.length:Nat):Int)<8)) (fun h2=>?_) fun _=>fin _ _ _ _ _ _ tp hp;have h2:=Rh h2;refine Vp (by omega) ?_;exact fin _ _ _ _ _ _ tp (hp.app (by omega) (.mk hj qt ho hd) (cg h))
  have els:wS w (V3 [.o t0,.f (.lst (ns.map .str)),.f (Lj true ps us b)]) (xn (Vl 7 Zj)) [.o (Zy zs i l k),.f (.lst (ns.map .str)),.f (Lj true ps us b),.no,.no,.o (.lst ps),.f (.int a),.f (.int way),.no,.no,.no,.no,.no] ⟨fun q=>wS w (V3 [.o t0,.f (.lst (ns.map .str)),.f (Lj true ps us b)]) (Vl 8 Zj) q D,D.rt,D.bk,D.ct⟩:=by
   refine Zs (b:=decide (way<3)) (fun _=>?_) fun _=>tw;refine Zs (b:=decide (a<((ps.length:Nat):Int))) (fun h2=>?_) fun _=>tw;have h2:=Rh h2;obtain⟨x,atx,gx,mx⟩:=Co a0 h2;obtain⟨n,y,o,ds,rfl,hn,hy,ho,hd⟩:=(hp.p x mx).asR;refine Nf atx ?_;refine Zb hD tp l0 l1 fun r zs i l k r0 r1 tp=>?_;refine Vf r0 r1 fun o1 nu=>?_;refine Zb hD tp (by omega) (by omega) fun r zs i l k r0 r1 tp=>?_;refine Vf (ss:=[o,o1]) (bit (b:=decide (r=0))).1 (bit (b:=decide (r=0))).2 fun o2 M7=>?_
   have M7:o2∈ns:=by
    simp only[Yw,Vk,or_false]at M7;rcases M7 with rfl | rfl
    .exact ho
    .exact nu
   refine Nf atx ?_;refine Nf atx ?_;refine Qq hW hn ?_;have qt:=D5 (Te "h" (by decide +kernel)) hn;refine O7 (by have:=qt.1;rw[Str.length_append]at this;omega) ?_;refine Nf atx ?_;refine y9 a0 h2 ?_;have h1:=hp.set gx (.mk hn qt M7 hd:Fh ns true (.tup [.int n,.str ("h" ++ wd n),.str o2,.tup ds])) rfl;refine Zb hD tp (by omega) (by omega) fun r zs i l k r0 r1 tp=>?_;refine Zs (b:=decide (r=0)) (fun _=>?_) fun _=>fin _ _ _ _ _ _ tp h1;refine Zb hD tp (by omega) (by omega) fun r zs i l k r0 r1 tp=>?_;refine ixP r0 r1 fun s _ ms=>?_
   have hsd:Ka s:=by
    simp only[Yw,Vk,or_false]at ms;rcases ms with rfl | rfl | rfl
    .exact .is (.int (by unfold Bb;decide))
    .exact .is (.int (by unfold Bb;decide))
    .exact .is (.str (Hu (by decide +kernel) (Te "b" (by decide +kernel)).2))
   have ga:=Zz6 (t:=.tup [.int n,.str ("h" ++ wd n),.str o2,.tup ds]) a0 h2;refine Nf ga ?_;refine Nf ga ?_;refine ixP (bit (b:=ds.isEmpty)).1 (bit (b:=ds.isEmpty)).2 fun d _ md=>?_
   have hd2:Ka d:=by
    simp only[Yw,Vk,or_false]at md;rcases md with rfl | rfl
    .exact .no
    .exact hsd
   refine y9 a0 (by rw[XY];exact h2) ?_;refine fin _ _ _ _ _ _ tp (h1.set (x:=.tup [.int n,.str ("h" ++ wd n),.str o2,.tup ds]) ?_ (.mk hn qt M7 hd2) rfl);rw[List.getElem?_set_self (by omega)]
  refine Zs (b:=decide (way=0)) (fun _=>?_) fun _=>els;refine Zs (b:=decide (a<((ps.length:Nat):Int))) (fun h2=>?_) fun _=>els;refine popP a0 (Rh h2) fun x _ _=>?_;exact fin _ _ _ _ _ _ tp (hp.sub (List.eraseIdx_sublist _ _))
set_option maxHeartbeats 2000000 in
theorem Bc{w:W}(hD:Ur w.C)(hW:O8 w.C)(hT:Zqj w.C){ns:ZD}(n0:0<ns.length)(n8:ns.length<=8){t:T}(ht:Shp ns t):Td Yj w [.f (.lst (ns.map .str)),.f t] (ny (Shp ns)):=by
 intro zs i l k tp;have l0:(0:Int)<((ns.map T.str).length:Nat):=by rw[Yn];omega
 have l1:(((ns.map T.str).length:Nat):Int)<=1000000:=by rw[Yn];omega
 refine Vx rfl fun D rt _=>?_
 have rt':∀r zs i l k' p,TP (Zy zs i l k')->Shp ns r->p.length=12->D.rt (.f r) (.o (Zy zs i l k')::p):=fun r zs i l k' p tp hr hp=>by
  refine rt _ _ ?_
  match p,hp with
  | a::b::p,_=>exact⟨_,_,⟨_,rfl,hr⟩,tp,rfl⟩
 cases ht with
 | @whole a b ha hb =>
  refine Sa (ys:=[.int a,.int b]) rfl ?_;refine Fe (hT (lo:=-10 ^ 18) (hi:=10 ^ 18) (by decide)) tp fun r zs i l k hr tp=>?_;obtain⟨_,rfl,u,rfl,u0,u1⟩:=hr;refine Fe (hT (lo:=-10 ^ 18) (hi:=10 ^ 18) (by decide)) tp fun r zs i l k hr tp=>?_;obtain⟨_,rfl,v,rfl,v0,v1⟩:=hr;exact rt _ _ ⟨.f (.tup [.str "whole",.int (if v<u then v else u),.int (if u<v then v else u)]),_,⟨_,rfl,.whole ⟨by split<;>omega,by split<;>omega⟩ ⟨by split<;>omega,by split<;>omega⟩⟩,tp,rfl⟩
 | text h0 h1 =>
  refine Fe (hT (lo:=0) (hi:=200) (by decide)) tp fun r zs i l k hr tp=>?_;obtain⟨_,rfl,u,rfl,u0,u1⟩:=hr;exact rt _ _ ⟨_,_,⟨_,rfl,.text u0 u1⟩,tp,rfl⟩
 | truth =>
  refine Zb hD tp (by omega) (by omega) fun r zs i l k r0 r1 tp=>?_;refine ixP r0 r1 fun x _ mx=>?_;simp only[Yw,Vk,or_false]at mx;rcases mx with rfl | rfl | rfl
  .exact rt _ _ ⟨_,_,⟨_,rfl,.truth⟩,tp,rfl⟩
  .exact rt _ _ ⟨_,_,⟨_,rfl,.whole (by unfold Bb;decide) (by unfold Bb;decide)⟩,tp,rfl⟩
  .exact rt _ _ ⟨_,_,⟨_,rfl,.whole (by unfold Bb;decide) (by unfold Bb;decide)⟩,tp,rfl⟩
 | @row o n ho h0 h1 =>
  refine Zb hD tp l0 l1 fun r zs i l k r0 r1 tp=>?_;refine Vf r0 r1 fun o1 nu=>?_;refine Zb hD tp (by omega) (by omega) fun r zs i l k r0 r1 tp=>?_;refine Vf (ss:=[o,o1]) (bit (b:=decide (r=0))).1 (bit (b:=decide (r=0))).2 fun o2 M7=>?_
  have M7:o2∈ns:=by
   simp only[Yw,Vk,or_false]at M7;rcases M7 with rfl | rfl
   .exact ho
   .exact nu
  refine Fe (hT (lo:=0) (hi:=20) (by decide)) tp fun r zs i l k hr tp=>?_;obtain⟨_,rfl,u,rfl,u0,u1⟩:=hr;exact rt _ _ ⟨_,_,⟨_,rfl,.row M7 u0 u1⟩,tp,rfl⟩
 | @map o n ho h0 h1 =>
  refine Zb hD tp l0 l1 fun r zs i l k r0 r1 tp=>?_;refine Vf r0 r1 fun o1 nu=>?_;refine Zb hD tp (by omega) (by omega) fun r zs i l k r0 r1 tp=>?_;refine Vf (ss:=[o,o1]) (bit (b:=decide (r=0))).1 (bit (b:=decide (r=0))).2 fun o2 M7=>?_
  have M7:o2∈ns:=by
   simp only[Yw,Vk,or_false]at M7;rcases M7 with rfl | rfl
   .exact ho
   .exact nu
  refine Fe (hT (lo:=0) (hi:=20) (by decide)) tp fun r zs i l k hr tp=>?_;obtain⟨_,rfl,u,rfl,u0,u1⟩:=hr;exact rt _ _ ⟨_,_,⟨_,rfl,.map M7 u0 u1⟩,tp,rfl⟩
 | @record ps us hp hs=>exact K6 hD hW n0 n8 (k:=true) (b:=true) hs hp rt' tp (Zy zs i l k)
 | @choice ps us b hp hs=>exact K6 hD hW n0 n8 (k:=false) (b:=b) hs hp rt' tp (Zy zs i l k)
theorem selB{c:Bool}{a b:T}:(if c=true then a else b)=a\/(if c=true then a else b)=b:=by
 cases c with
 | true=>exact .inl rfl
 | false=>exact .inr rfl
theorem maxB{lo hi:Int}{b c:Bool}{Q:Sl->Prop}(q:∀t,t=.bl b\/t=.int hi\/t=.int lo->Q (.f t)):on (Sz .max [.int lo,if c=true then .bl b else .int hi]) Q:=by
 cases c with
 | true=>exact q _ (selB.imp id .inr)
 | false =>
  show Q (.f (.int (if hi>lo then hi else lo)));refine q _ ?_
  split
  .exact .inr (.inl rfl)
  .exact .inr (.inr rfl)
theorem D9{x:Str}(h:Sm x)(l u:ZR):Sm (Txt.slice x l u):=⟨Ve (Txt.slice_le x l u) h.1,fun c m=>h.2 c (Xr x l u c m)⟩
theorem bnd0:Bb 0:=by unfold Bb;decide
theorem Fb{lo hi i:Int}(h1:Bb lo)(h2:Bb hi)(h3:Bb i):Bb ((if (if i<hi then i else hi)>lo then (if i<hi then i else hi) else lo)+0):=by
 rw[Int.add_zero]
 have:Bb (if i<hi then i else hi):=by
  split
  .exact h3
  .exact h2
 generalize (if i<hi then i else hi)=z at this
 split
 .exact this
 .exact h1
def c6(C:Cs):Prop:=∀{ns ss:ZD} {XM:ZX} {t:T},Gh ns XM ss->(∀x∈ns,x∈ss)->Shp ns t->on (C "_law_fixed" [.o (.dct XM),.f t]) fun x=>∃u,Shp ns u/\x=(.f u,[.dct XM])
set_option maxHeartbeats 4000000 in
theorem dm{w:W}{ns ss:ZD}{XM:ZX}{t:T}(hf:Gh ns XM ss)(sub:∀x∈ns,x∈ss)(ht:Shp ns t):wF Uc w [.o (.dct XM),.f t] fun x=>∃u,Shp ns u/\x=(.f u,[.dct XM]):=by
 have sl:=sizeLine_eq;refine Vx rfl fun D rt _=>?_;cases ht with
 | whole ha hb=>exact rt _ _ ⟨_,.whole ha hb,rfl⟩
 | truth=>exact rt _ _ ⟨_,.truth,rfl⟩
 | text h0 h1=>exact rt _ _ ⟨_,.text h0 h1,rfl⟩
 | row ho h0 h1=>exact rt _ _ ⟨_,.row ho h0 h1,rfl⟩
 | map ho h0 h1=>exact rt _ _ ⟨_,.map ho h0 h1,rfl⟩
 | choice hp hs=>exact rt _ _ ⟨_,.choice hp hs,rfl⟩
 | @record fs us hp hs =>
  have fl:=hp.l;refine Gx (fun rest p=>∃ps s3 s4 s5 s6 s7,p=[.o (.dct XM),.f (.tup [.str "record",.tup fs,.tup us]),.o (.lst ps),s3,s4,s5,s6,s7]/\ps.map J4++rest.map J4=fs.map J4/\(∀p∈ps,Fh ns true p)/\∀x∈rest,x∈fs) ⟨[],_,_,_,_,_,rfl,rfl,fun p m=>absurd m Vk,fun x m=>m⟩ (fun x r p D' hi nx _=>?_) fun p hi=>?_
  .obtain⟨ps,s3,s4,s5,s6,s7,rfl,he,hq,hm⟩:=hi;obtain⟨n,y,o,ds,rfl,hn,hy,ho,hd⟩:=(hp.p x (hm _ Y5)).asR;have m6:∀x∈r,x∈fs:=fun x m=>hm x (Y7 _ m);have hl:ps.length<sizeLine:=by have:=congrArg List.length he;simp at this;omega
   have more:∀d s3 s4 s5 s6 s7,Ka d->D'.nx [.o (.dct XM),.f (.tup [.str "record",.tup fs,.tup us]),.o (.lst (ps++[.tup [.int n,.str y,.str o,d]])),s3,s4,s5,s6,s7]:=fun d s3 s4 s5 s6 s7 hd=>nx _ ⟨_,_,_,_,_,_,rfl,by rw[Sk,XX];exact he,fun p m=>by
    rcases Ks.mp m with m | m
    .exact hq p m
    .cases M4.mp m;exact .mk hn hy ho hd,m6⟩
   obtain⟨f,e,hsf⟩:=hf.get (sub o ho);refine Mb e ?_;cases hsf with
   | record _ _=>cases hd<;>(refine Vp hl ?_;exact more _ _ _ _ _ _ .no)
   | choice _ _=>cases hd<;>(refine Vp hl ?_;exact more _ _ _ _ _ _ .no)
   | @whole lo hi' b1 b2 =>
    cases hd with
    | no=>refine Vp hl ?_;exact more _ _ _ _ _ _ .no
    | is h =>
     cases h with
     | @int i h=>refine Vp hl ?_;exact more _ _ _ _ _ _ (.is (.int (Fb b1 b2 h)))
     | str h=>refine Vp hl ?_;exact more _ _ _ _ _ _ (.is (.int (Fb b1 b2 bnd0)))
     | nil=>refine Vp hl ?_;exact more _ _ _ _ _ _ (.is (.int (Fb b1 b2 bnd0)))
     | @bl b =>
      refine maxB fun t ht=>?_;rcases ht with rfl | rfl | rfl
      .refine Vp hl ?_;exact more _ _ _ _ _ _ (.is (.int (by cases b<;>(unfold Bb;decide))))
      .refine Vp hl ?_;exact more _ _ _ _ _ _ (.is (.int (by rw[Int.add_zero];exact b2)))
      .refine Vp hl ?_;exact more _ _ _ _ _ _ (.is (.int (by rw[Int.add_zero];exact b1)))
   | truth =>
    cases hd with
    | no=>refine Vp hl ?_;exact more _ _ _ _ _ _ .no
    | is h=>cases h<;>(refine Vp hl ?_;exact more _ _ _ _ _ _ (.is .bl))
   | text h0 h1 =>
    cases hd with
    | no=>refine Vp hl ?_;exact more _ _ _ _ _ _ .no
    | is h =>
     cases h with
     | str h =>
      refine Et (by have:=h.1;omega) ?_;refine Vp hl ?_;exact more _ _ _ _ _ _ (.is (.str (D9 h _ _)))
     | int h=>refine Vp hl ?_;exact more _ _ _ _ _ _ (.is (.str (D9 (x:="") (by unfold Sm;decide +kernel) _ _)))
     | bl=>refine Vp hl ?_;exact more _ _ _ _ _ _ (.is (.str (D9 (x:="") (by unfold Sm;decide +kernel) _ _)))
     | nil=>refine Vp hl ?_;exact more _ _ _ _ _ _ (.is (.str (D9 (x:="") (by unfold Sm;decide +kernel) _ _)))
   | row _ _ _ =>
    cases hd with
    | no=>refine Vp hl ?_;exact more _ _ _ _ _ _ .no
    | is h=>refine Vp hl ?_;exact more _ _ _ _ _ _ (.is .nil)
   | map _ _ _ =>
    cases hd with
    | no=>refine Vp hl ?_;exact more _ _ _ _ _ _ .no
    | is h=>refine Vp hl ?_;exact more _ _ _ _ _ _ (.is .nil)
  .obtain⟨ps,s3,s4,s5,s6,s7,rfl,he,hq,hm⟩:=hi;have he:ps.map J4=fs.map J4:=by simpa using he
   exact rt _ _ ⟨_,.record ⟨by have:=congrArg List.length he;simp at this;omega,by rw[he];exact hp.d,hq⟩ hs,rfl⟩
def PShT(C:Cs):Prop:=∀{ns:ZD} {t:T},0<ns.length->ns.length<=8->Shp ns t->Tp C "_law_shape_turned" [.f (.lst (ns.map .str)),.f t] (ny (Shp ns))
theorem Gh.putU{ns ss:ZD}{XM:ZX}{x:Str}{v:T}(h:Gh ns XM ss)(hx:x∈ss)(hv:Shp ns v):Gh ns (Ya XM (.inr x) v) ss:=by
 obtain⟨us,h1,_,h3⟩:=h.put (h.n x hx) hv;rw[h3 hx]at h1;exact h1
set_option maxHeartbeats 2000000 in
theorem Xv{w:W}(hD:Ur w.C)(hS:PShT w.C)(hF:c6 w.C)(hL:Kr w.C){root:Str}{XM:ZX}{ss:ZD}(h:qh root XM ss):Td Vr w [.f (.tup [.str root,.dct XM])] T7:=by
 intro zs i l k tp;have sl:=sizeLine_eq;have h8:=h.l8;have h0:=h.l0;have pm:=SRT.Yx ss;have hn:(SRT.G4 ss).length=ss.length:=pm.length_eq;have f0:Gh (SRT.G4 ss) XM ss:=⟨h.f.k,h.f.d,fun x m=>pm.mem_iff.mpr m,fun p m=>(h.f.p p m).mono fun x m=>pm.mem_iff.mpr m⟩;have sub:∀x∈SRT.G4 ss,x∈ss:=fun x m=>pm.mem_iff.mp m;refine Vx rfl fun D rt _=>?_;refine Qc (h.f.srt (by omega)) ?_;generalize SRT.G4 ss=us at hn f0 sub;have l0:(0:Int)<((us.map T.str).length:Nat):=by rw[Yn];omega
 have l1:(((us.map T.str).length:Nat):Int)<=1000000:=by rw[Yn];omega
 refine Zb hD tp (by omega) (by omega) fun r zs i l k r0 r1 tp=>?_;refine Dk 0 12 r0 r1 rfl fun m m0 m1 _=>?_;refine rngP (by omega) (by omega) ?_;refine Gx (fun rest p=>∃My zs i l k s2 s4 s5,p=[.o (Zy zs i l k),.f (.tup [.str root,.dct XM]),s2,.o (.dct My),s4,s5]/\OF s2 (.lst (us.map .str))/\TP (Zy zs i l k)/\Gh us My ss) ⟨XM,zs,i,l,k,_,_,_,rfl,.inl rfl,tp,f0⟩ (fun x r p D' hi nx _=>?_) fun p hi=>?_
 .obtain⟨My,zs,i,l,k,s2,s4,s5,rfl,qc,tp,hf⟩:=hi;have go:∀s2:Sl,OF s2 (.lst (us.map .str))->D'.nx=D'.nx:=fun _ _=>rfl;have hl:My.length<sizeLine:=by have:=hf.len;omega
  rcases qc with rfl | rfl
  all_goals
   refine Zb hD tp l0 l1 fun r zs i l k r0 r1 tp=>?_;refine Vf r0 r1 fun o ho=>?_;have ho:=sub o ho;obtain⟨t,e,ht⟩:=hf.get ho;refine Mb e ?_;refine Fe (hS (by omega) (by omega) ht) tp fun r zs i l k hr tp=>?_;obtain⟨u,rfl,hu⟩:=hr;refine Nj hl ?_;exact nx _ ⟨_,_,_,_,_,_,_,_,rfl,.inr rfl,tp,hf.putU ho hu⟩
 obtain⟨My,zs,i,l,k,s2,s4,s5,rfl,qc,tp,hf⟩:=hi;refine Ho qc rfl ?_;refine Gx (fun rest p=>∃rs My s5,rest=rs.map T.str/\p=[.o (Zy zs i l k),.f (.tup [.str root,.dct XM]),.f (.lst (us.map .str)),.o (.dct My),s4,s5]/\Gh us My ss/\∀x∈rs,x∈ss) ⟨us,My,_,rfl,rfl,hf,sub⟩ (fun x r p D' hi nx _=>?_) fun p hi=>?_
 .obtain⟨rs,My,s5,hr,rfl,hf,hm⟩:=hi;cases rs with
  | nil=>cases hr
  | cons y rs =>
   cases hr;have hy:=hm y Y5;obtain⟨t,e,ht⟩:=hf.get hy;refine Mb e ?_;refine Y4 (hF hf sub ht) fun x hx=>?_;obtain⟨u,hu,rfl⟩:=hx;refine Nj (by have:=hf.len;omega) ?_;exact nx _ ⟨rs,_,_,rfl,rfl,hf.putU hy hu,fun x m=>hm x (Y7 _ m)⟩
 obtain⟨rs,My,s5,hr,rfl,hf,hm⟩:=hi;refine Y4 (hL (root:=root) (XM:=My) (ss:=ss) ⟨⟨hf.k,hf.d,fun x m=>m,fun p m=>(hf.p p m).mono sub⟩,h0,h8,h.po,h.r⟩) fun x hx=>?_;obtain⟨kvs2,hm,rfl⟩:=hx;exact rt _ _ ⟨_,_,⟨_,_,_,rfl,hm⟩,tp,rfl⟩
def Zqw(C:Cs):Prop:=∀zs:ZL,on (C "_law_tape" [.f (.lst (zs.map .int))]) fun x=>∃t,TP t/\x=(.o t,[])
def I9(C:Cs):Prop:=∀{root:Str} {XM:ZX} {ss:ZD},qh root XM ss->Tp C "_law_turned" [.f (.tup [.str root,.dct XM])] T7
theorem law_ok{w:W}(hT:Zqw w.C)(hM:Tp w.C "_law_make" [] T7)(hR:cn w.C)(hU:I9 w.C)(zs:ZL):wF Wc w [.f (.lst (zs.map .int))] fun x=>x=(.f (.bl true),[]):=by
 refine Vx rfl fun D rt _=>?_;refine Y4 (hT zs) fun x hx=>?_;obtain⟨t,tp,rfl⟩:=hx;obtain⟨K1,i,l,k,rfl,g⟩:=id tp;refine Gx (fun rest p=>∃K1 i l k s2 s3,p=[.f (.lst (zs.map .int)),.o (Zy K1 i l k),s2,s3]/\TP (Zy K1 i l k)) ⟨K1,i,l,k,_,_,rfl,tp⟩ (fun x r p D' hi nx _=>?_) fun p hi=>?_
 .obtain⟨K1,i,l,k,s2,s3,rfl,tp⟩:=hi;refine Fe hM tp fun r K1 i l k hr tp=>?_;obtain⟨root,XM,ss,rfl,hm⟩:=hr;refine Y4 (hR hm) fun x hx=>?_;subst hx;refine Fe (hU hm) tp fun r K1 i l k hr tp=>?_;obtain⟨root,XM,ss,rfl,hm⟩:=hr;refine Y4 (hR hm) fun x hx=>?_;subst hx;exact nx _ ⟨_,_,_,_,_,_,rfl,tp⟩
 .obtain⟨K1,i,l,k,s2,s3,rfl,tp⟩:=hi;exact rt _ _ rfl
noncomputable def tabL:List (Str×Df):=[("may_be_left_out",Yd),("form_of",Ge),("empty_forms",Vy),("leasts_of",Uy),("least_by",Jc),("least_record",Y2),("least_choice",Y3),("_law_tape",Jl),("_law_draw",Js),("_law_price",Ug),("_law_prices",Vh),("_law_light",Ut),("_law_word",Jn),("_law_names",Ud),("_law_plain",Ub),("_law_default",Vv),("_law_numbers",Vw),("_law_parts",Um),("_law_struck",Vs),("_law_make",Jr),("_law_number_turned",Yz),("_law_shape_turned",Yj),("_law_fixed",Uc),("_law_turned",Vr),("_law_right",Uk),("law",Wc)]
noncomputable def tab(f:Str):Option Df:=(tabL.find? fun p=>decide (p.1=f)).map (·.2)
def gl(x:Str):Option T:=none
noncomputable abbrev C(n:Nat):Cs:=Cn tab gl n
theorem Ih{n:Nat}{f:Str}{d:Df}{as:List Sl}{Q:Sl×ZZ->Prop}(e:tab f=some d)(h:wF d ⟨C n,gl⟩ as Q):on (C (n+1) f as) Q:=Zx4 e h
theorem n9{n:Nat}{f:Str}{d:Df}{as:List Sl}{R:Sl->Prop}(e:tab f=some d)(h:Td d ⟨C n,gl⟩ as R):Tp (C (n+1)) f as R:=fun t tp=>by
 obtain⟨zs,i,l,k,rfl,g⟩:=id tp;exact Zx4 e (h zs i l k tp)
theorem Uh(n:Nat):Ur (C (n+1)):=fun t m tp m0 m1=>by
 obtain⟨zs,i,l,k,rfl,h1,h2,h3,h4,h5⟩:=tp;exact Ih (d:=Js) rfl (Zze h1 h2 h3 h4 h5 m0 m1)
theorem cnR{n:Nat}{f:Str}{d:Df}{as:List Sl}{x:Sl×ZZ}(e:tab f=some d)(h:Rq d ⟨C n,gl⟩ as=some x):C (n+1) f as=some x:=by
 show (tab f).bind _=_;rw[e];exact h
theorem gp(n:Nat):O8 (C (n+1)):=fun m hm=>Yv (cnR (d:=Jn) rfl (jk hm)) rfl
theorem oq(n:Nat):Tp (C (n+2)) "_law_names" [] Lu:=n9 (d:=Ud) rfl fun zs i l k tp=>bj (w:=⟨C (n+1),gl⟩) (Uh n) tp
theorem oz(n:Nat){s:Str}(ns:ZD)(h:s = "whole" \/ s = "truth" \/ s = "text"):Tp (C (n+2)) "_law_plain" [.f (.str s)] (ny (Shp ns)):=n9 (d:=Ub) rfl (ke (w:=⟨C (n+1),gl⟩) (Uh n) h ns)
theorem zx(n:Nat){ns:ZD}{t:T}(h:Shp ns t\/t=.tup [.str "record"]):Tp (C (n+2)) "_law_default" [.f t] (ny Ka):=n9 (d:=Vv) rfl (E8 (w:=⟨C (n+1),gl⟩) (Uh n) h)
theorem X9(n:Nat):Tp (C (n+2)) "_law_numbers" [] Lp:=n9 (d:=Vw) rfl (El (w:=⟨C (n+1),gl⟩) (Uh n))
theorem gi(n:Nat){ns:ZD}{b:Bool}{ps:ZZ}(h:Yi ns b ps):Tp (C (n+2)) "_law_struck" [.f (.tup ps)] b8:=n9 (d:=Vs) rfl (Xm (w:=⟨C (n+1),gl⟩) (Uh n) h)
theorem ox(n:Nat){ns:ZD}{XM:ZX}(s:Str)(n0:0<ns.length)(n8:ns.length<=8)(hk:∀x t,Zr XM x=some t->Shp ns t):Tp (C (n+3)) "_law_parts" [.f (.lst (ns.map .str)),.f (.dct XM),.f (.str s)] (Eo ns (decide (s = "record"))):=n9 (d:=Um) rfl (gh (w:=⟨C (n+2),gl⟩) (Uh (n+1)) (gp (n+1)) (X9 n) (fun t h=>zx n h) n0 n8 hk s)
theorem a9(n:Nat):cu (C (n+1)):=fun ht hp=>Ih (d:=Ug) rfl (kh (w:=⟨C n,gl⟩) ht hp)
theorem Q7(n:Nat):Fp (C (n+2)):=fun h h8=>Ih (d:=Vh) rfl (X3 (w:=⟨C (n+1),gl⟩) (a9 n) h h8)
theorem Ag(n:Nat):Kr (C (n+3)):=fun h=>Ih (d:=Ut) rfl (bh (w:=⟨C (n+2),gl⟩) (Q7 n) h)
theorem p_make(n:Nat):Tp (C (n+4)) "_law_make" [] T7:=n9 (d:=Jr) rfl (ik (w:=⟨C (n+3),gl⟩) ⟨Uh (n+2),fun ns h=>oz (n+1) ns h,fun s a b c=>ox n s a b c,fun h=>gi (n+1) h,oq (n+1),Ag n⟩)
theorem p_left(n:Nat):Zqv (C (n+1)):=Ih (d:=Yd) rfl (ic (w:=⟨C n,gl⟩))
theorem p_form(n:Nat):Zqg (C (n+1)):=Ih (d:=Ge) rfl (Zzv (w:=⟨C n,gl⟩))
theorem p_lrec(n:Nat):Zqy (C (n+2)):=fun a b c d=>Ih (d:=Y2) rfl (Bl (w:=⟨C (n+1),gl⟩) (p_left n) a b c d)
theorem p_lcho(n:Nat):Zqk (C (n+1)):=fun c d=>Ih (d:=Y3) rfl (Br (w:=⟨C n,gl⟩) c d)
theorem p_lby(n:Nat):PLBy (C (n+3)):=fun a b c d=>Ih (d:=Jc) rfl (Pg (w:=⟨C (n+2),gl⟩) (p_lrec n) (p_lcho (n+1)) a b c d)
theorem p_lof(n:Nat):PLOf (C (n+4)):=fun a b=>Ih (d:=Uy) rfl (Lc (w:=⟨C (n+3),gl⟩) (p_form (n+2)) (p_lby n) a b)
theorem oy(n:Nat):PEmpty (C (n+5)):=fun a b=>Ih (d:=Vy) rfl (tj (w:=⟨C (n+4),gl⟩) (p_lof n) a b)
theorem a8(n:Nat):cn (C (n+6)):=fun a=>Ih (d:=Uk) rfl (yw (w:=⟨C (n+5),gl⟩) (Q7 (n+3)) (oy n) a)
theorem p_numt(n:Nat):Zqj (C (n+2)):=fun h=>n9 (d:=Yz) rfl (Nw (w:=⟨C (n+1),gl⟩) (Uh n) h)
theorem p_sht(n:Nat):PShT (C (n+3)):=fun a b c=>n9 (d:=Yj) rfl (Bc (w:=⟨C (n+2),gl⟩) (Uh (n+1)) (gp (n+1)) (p_numt n) a b c)
theorem oj(n:Nat):c6 (C (n+1)):=fun a b c=>Ih (d:=Uc) rfl (dm (w:=⟨C n,gl⟩) a b c)
theorem gu(n:Nat):I9 (C (n+4)):=fun h=>n9 (d:=Vr) rfl (Xv (w:=⟨C (n+3),gl⟩) (Uh (n+2)) (p_sht n) (oj (n+2)) (Ag n) h)
theorem p_tape(n:Nat):Zqw (C (n+1)):=fun zs=>Ih (d:=Jl) rfl (rn (w:=⟨C n,gl⟩) zs)
theorem bu(zs:ZL):Rq Wc ⟨Cn tab gl 6,gl⟩ [.f (.lst (zs.map .int))]=some (.f (.bl true),[]):=by
 obtain⟨x,e,rfl⟩:=jc (law_ok (w:=⟨C 6,gl⟩) (p_tape 5) (p_make 2) (a8 0) (gu 2) zs);exact e
theorem De:FC "may_be_left_out" (top 1) Yd:=fun X G A=>A.fc (N:=["field"]) X G (by decide +kernel) fun _ _ _ _ _ _ us hl=>by obtain⟨_,rfl⟩:=qb hl;rfl
theorem E2:FC "form_of" (top 3) Ge:=fun X G A=>A.fc (N:=["make","name"]) X G (by decide +kernel) fun _ _ _ _ _ _ us hl=>by obtain⟨_,_,rfl⟩:=Xw hl;rfl
theorem Cv:FC "empty_forms" (top 5) Vy:=fun X G A=>A.fc (N:=["make","leasts"]) X G (by decide +kernel) fun _ _ _ _ _ _ us hl=>by obtain⟨_,rfl⟩:=qb hl;rfl
theorem L3:FC "leasts_of" (top 6) Uy:=fun X G A=>A.fc (N:=["make","leasts","turn"]) X G (by decide +kernel) fun _ _ _ _ _ _ us hl=>by obtain⟨_,rfl⟩:=qb hl;rfl
theorem P2:FC "least_by" (top 7) Jc:=fun X G A=>A.fc (N:=["shape","leasts","sort"]) X G (by decide +kernel) fun _ _ _ _ _ _ us hl=>by obtain⟨_,_,rfl⟩:=Xw hl;rfl
theorem Bh:FC "least_record" (top 8) Y2:=fun X G A=>A.fc (N:=["fields","leasts","parts"]) X G (by decide +kernel) fun _ _ _ _ _ _ us hl=>by obtain⟨_,_,rfl⟩:=Xw hl;rfl
theorem Bp:FC "least_choice" (top 9) Y3:=fun X G A=>A.fc (N:=["arms","leasts","counts","least"]) X G (by decide +kernel) fun _ _ _ _ _ _ us hl=>by obtain⟨_,_,rfl⟩:=Xw hl;rfl
theorem P5:FC "_law_tape" (top 11) Jl:=fun X G A=>A.fc (N:=["_law_script"]) X G (by decide +kernel) fun _ _ _ _ _ _ us hl=>by obtain⟨_,rfl⟩:=qb hl;rfl
theorem P7:FC "_law_draw" (top 12) Js:=fun X G A=>A.fc (N:=["_law_tape_here","_law_many","_law_script","_law_spot","_law_left","_law_cell","_law_mixed"]) X G (by decide +kernel) fun _ _ _ _ _ _ us hl=>by obtain⟨_,_,rfl⟩:=Xw hl;rfl
theorem L5:FC "_law_price" (top 13) Ug:=fun X G A=>A.fc (N:=["_law_shape","_law_prices_here","_law_some"]) X G (by decide +kernel) fun _ _ _ _ _ _ us hl=>by obtain⟨_,_,rfl⟩:=Xw hl;rfl
theorem Rf:FC "_law_prices" (top 14) Vh:=fun X G A=>A.fc (N:=["_law_make_here","_law_prices_here","_law_k","_law_name","_law_price_here"]) X G (by decide +kernel) fun _ _ _ _ _ _ us hl=>by obtain⟨_,rfl⟩:=qb hl;rfl
theorem L9:FC "_law_light" (top 15) Ut:=fun X G A=>A.fc (N:=["_law_root","_law_forms","_law_name"]) X G (by decide +kernel) fun _ _ _ _ _ _ us hl=>by obtain⟨_,_,rfl⟩:=Xw hl;rfl
theorem P4:FC "_law_word" (top 16) Jn:=fun X G A=>A.fc (N:=["_law_number"]) X G (by decide +kernel) fun _ _ _ _ _ _ us hl=>by obtain⟨_,rfl⟩:=qb hl;rfl
theorem L8:FC "_law_names" (top 17) Ud:=fun X G A=>A.fc (N:=["_law_tape_here","_law_pool","_law_turn"]) X G (by decide +kernel) fun _ _ _ _ _ _ us hl=>by obtain⟨_,rfl⟩:=qb hl;rfl
theorem L6:FC "_law_plain" (top 18) Ub:=fun X G A=>A.fc (N:=["_law_tape_here","_law_sort","_law_low"]) X G (by decide +kernel) fun _ _ _ _ _ _ us hl=>by obtain⟨_,_,rfl⟩:=Xw hl;rfl
theorem Cw:FC "_law_default" (top 19) Vv:=fun X G A=>A.fc (N:=["_law_tape_here","_law_shape"]) X G (by decide +kernel) fun _ _ _ _ _ _ us hl=>by obtain⟨_,_,rfl⟩:=Xw hl;rfl
theorem Cj:FC "_law_numbers" (top 20) Vw:=fun X G A=>A.fc (N:=["_law_tape_here","_law_some"]) X G (by decide +kernel) fun _ _ _ _ _ _ us hl=>by obtain⟨_,rfl⟩:=qb hl;rfl
theorem L7:FC "_law_parts" (top 21) Um:=fun X G A=>A.fc (N:=["_law_tape_here","_law_names_here","_law_shapes","_law_sort","_law_parts_here","_law_number","_law_of","_law_part"]) X G (by decide +kernel) fun _ _ _ _ _ _ us hl=>by obtain⟨_,_,_,_,rfl⟩:=us4 hl;rfl
theorem Rg:FC "_law_struck" (top 22) Vs:=fun X G A=>A.fc (N:=["_law_tape_here","_law_parts_here","_law_mine"]) X G (by decide +kernel) fun _ _ _ _ _ _ us hl=>by obtain⟨_,_,rfl⟩:=Xw hl;rfl
theorem P6:FC "_law_make" (top 23) Jr:=fun X G A=>A.fc (N:=["_law_tape_here","_law_names_here","_law_sorts","_law_mine","_law_shapes","_law_name","_law_sort","_law_forms","_law_parts_here"]) X G (by decide +kernel) fun _ _ _ _ _ _ us hl=>by obtain⟨_,rfl⟩:=qb hl;rfl
theorem Gg:FC "_law_number_turned" (top 24) Yz:=fun X G A=>A.fc (N:=["_law_tape_here","_law_number","_law_low","_law_high"]) X G (by decide +kernel) fun _ _ _ _ _ _ us hl=>by obtain⟨_,_,_,_,rfl⟩:=us4 hl;rfl
theorem G7:FC "_law_shape_turned" (top 25) Yj:=fun X G A=>A.fc (N:=["_law_tape_here","_law_names_here","_law_shape","_law_some","_law_of","_law_parts_here","_law_at","_law_way","_law_number","_law_more","_law_mine","_law_struck_here","_law_turned_here"]) X G (by decide +kernel) fun _ _ _ _ _ _ us hl=>by obtain⟨_,_,_,rfl⟩:=us3 hl;rfl
theorem Fz:FC "_law_fixed" (top 26) Uc:=fun X G A=>A.fc (N:=["_law_forms","_law_shape","_law_fields","_law_number","_law_name","_law_of","_law_default_here","_law_form"]) X G (by decide +kernel) fun _ _ _ _ _ _ us hl=>by obtain⟨_,_,rfl⟩:=Xw hl;rfl
theorem Ry:FC "_law_turned" (top 27) Vr:=fun X G A=>A.fc (N:=["_law_tape_here","_law_make_here","_law_names_here","_law_forms","_law_k","_law_name"]) X G (by decide +kernel) fun _ _ _ _ _ _ us hl=>by obtain⟨_,_,rfl⟩:=Xw hl;rfl
theorem L4:FC "_law_right" (top 28) Uk:=fun X G A=>A.fc (N:=["_law_make_here","_law_prices_here","_law_held","_law_due"]) X G (by decide +kernel) fun _ _ _ _ _ _ us hl=>by obtain⟨_,rfl⟩:=qb hl;rfl
theorem ck_law:chk ["_law_script","_law_tape_here","_law_k","_law_make_here"] Wc (top 29)=true:=by decide +kernel
theorem fc_law:FC "law" (top 29) Wc:=fun X G A=>A.fc (N:=["_law_script","_law_tape_here","_law_k","_law_make_here"]) X G (by decide +kernel) fun _ _ _ _ _ _ us hl=>by obtain⟨_,rfl⟩:=qb hl;rfl
set_option maxHeartbeats 0 in
theorem all_mk{l:W.OpenLaw}{w:World}{K:W.Frag}{h:Heap}{mg:ZV}{fa f1 f2 f3 f4 f5 f6 f7 f8 f9 f10 f11 f12 f13 f14 f15 f16 f17 f18 f19 f20 f21 f22 f23 f24 f25 f26:Addr}{d1 d2 d3 d4 d5 d6 d7 d8 d9 d10 d11 d12 d13 d14 d15 d16 d17 d18 d19 d20 d21 d22 d23 d24 d25 d26:FuncData}(X:K.In h)(G:h.Ns mainGlobals mg)(hfa:mg "law" = some (.ref fa))
  (h1:FA K "may_be_left_out" (top 1) f1 d1)
  (h2:FA K "form_of" (top 3) f2 d2)
  (h3:FA K "empty_forms" (top 5) f3 d3)
  (h4:FA K "leasts_of" (top 6) f4 d4)
  (h5:FA K "least_by" (top 7) f5 d5)
  (h6:FA K "least_record" (top 8) f6 d6)
  (h7:FA K "least_choice" (top 9) f7 d7)
  (h8:FA K "_law_tape" (top 11) f8 d8)
  (h9:FA K "_law_draw" (top 12) f9 d9)
  (h10:FA K "_law_price" (top 13) f10 d10)
  (h11:FA K "_law_prices" (top 14) f11 d11)
  (h12:FA K "_law_light" (top 15) f12 d12)
  (h13:FA K "_law_word" (top 16) f13 d13)
  (h14:FA K "_law_names" (top 17) f14 d14)
  (h15:FA K "_law_plain" (top 18) f15 d15)
  (h16:FA K "_law_default" (top 19) f16 d16)
  (h17:FA K "_law_numbers" (top 20) f17 d17)
  (h18:FA K "_law_parts" (top 21) f18 d18)
  (h19:FA K "_law_struck" (top 22) f19 d19)
  (h20:FA K "_law_make" (top 23) f20 d20)
  (h21:FA K "_law_number_turned" (top 24) f21 d21)
  (h22:FA K "_law_shape_turned" (top 25) f22 d22)
  (h23:FA K "_law_fixed" (top 26) f23 d23)
  (h24:FA K "_law_turned" (top 27) f24 d24)
  (h25:FA K "_law_right" (top 28) f25 d25)
  (h26:FA K "law" (top 29) f26 d26)
  (jx:W.nsIn K mainGlobals "len" = some none)
  (jv:W.nsIn K mainGlobals "all" = some none)
  (jw:W.nsIn K mainGlobals "any" = some none)
  (Sf:W.nsIn K mainGlobals "list" = some none)
  (Wu:W.nsIn K mainGlobals "tuple" = some none)
  (q0:W.nsIn K mainGlobals "min" = some none)
  (jz:W.nsIn K mainGlobals "max" = some none)
  (jq:W.nsIn K mainGlobals "int" = some none)
  (jy:W.nsIn K mainGlobals "abs" = some none)
  (Sb:W.nsIn K mainGlobals "dict" = some none)
  (Jj:W.nsIn K mainGlobals "isinstance" = some none)
  (Tq:W.nsIn K mainGlobals "sorted" = some none)
  (qi:W.nsIn K mainGlobals "set" = some none)
  (Wa:W.nsIn K mainGlobals "range" = some none)
  (qu:W.nsIn K mainGlobals "zip" = some none)
  (Gz:W.nsIn K mainGlobals "enumerate" = some none)
  (qa:W.nsIn K mainGlobals "sum" = some none)
  (Sg:W.nsIn K mainGlobals "repr" = some none)
  (qo:W.nsIn K mainGlobals "str" = some none)
  (Sd:W.nsIn K mainGlobals "bool" = some none)
  (nl:Es K=true)
  : ∃fd:FuncData,(∀(s:Shared) (v:Value),BindsTo s fd ⟨[v],[]⟩ [("_law_script",v)])/\∀base:Heap,K.In base->base.Ns mainGlobals mg->Jq l.prog w K mg base lg 7 fa fd ["_law_script"] (Hw K):=by
 have e:=hfa.symm.trans (W.mg_of X G h26.a);cases e;have Zqt:=h26.F
 have ft:∀p∈tabL,N3 K mg p.1 p.2:=by
  unfold tabL;refine V7.mpr ⟨De X G h1,V7.mpr ⟨E2 X G h2,V7.mpr ⟨Cv X G h3,V7.mpr ⟨L3 X G h4,V7.mpr ⟨P2 X G h5,V7.mpr ⟨Bh X G h6,V7.mpr ⟨Bp X G h7,V7.mpr ⟨P5 X G h8,V7.mpr ⟨P7 X G h9,V7.mpr ⟨L5 X G h10,V7.mpr ⟨Rf X G h11,V7.mpr ⟨L9 X G h12,V7.mpr ⟨P4 X G h13,V7.mpr ⟨L8 X G h14,V7.mpr ⟨L6 X G h15,V7.mpr ⟨Cw X G h16,V7.mpr ⟨Cj X G h17,V7.mpr ⟨L7 X G h18,V7.mpr ⟨Rg X G h19,V7.mpr ⟨P6 X G h20,V7.mpr ⟨Gg X G h21,V7.mpr ⟨G7 X G h22,V7.mpr ⟨Fz X G h23,V7.mpr ⟨Ry X G h24,V7.mpr ⟨L4 X G h25,V7.mpr ⟨fc_law X G h26,fun _ m=>absurd m Vk⟩⟩⟩⟩⟩⟩⟩⟩⟩⟩⟩⟩⟩⟩⟩⟩⟩⟩⟩⟩⟩⟩⟩⟩⟩⟩
 have bn:∀x∈U9,mg x=none:=by
  unfold U9;refine V7.mpr ⟨W.mg_none_of X G jx,V7.mpr ⟨W.mg_none_of X G jv,V7.mpr ⟨W.mg_none_of X G jw,V7.mpr ⟨W.mg_none_of X G Sf,V7.mpr ⟨W.mg_none_of X G Wu,V7.mpr ⟨W.mg_none_of X G q0,V7.mpr ⟨W.mg_none_of X G jz,V7.mpr ⟨W.mg_none_of X G jq,V7.mpr ⟨W.mg_none_of X G jy,V7.mpr ⟨W.mg_none_of X G Sb,V7.mpr ⟨W.mg_none_of X G Jj,V7.mpr ⟨W.mg_none_of X G Tq,V7.mpr ⟨W.mg_none_of X G qi,V7.mpr ⟨W.mg_none_of X G Wa,V7.mpr ⟨W.mg_none_of X G qu,V7.mpr ⟨W.mg_none_of X G Gz,V7.mpr ⟨W.mg_none_of X G qa,V7.mpr ⟨W.mg_none_of X G Sg,V7.mpr ⟨W.mg_none_of X G qo,V7.mpr ⟨W.mg_none_of X G Sd,fun _ m=>absurd m Vk⟩⟩⟩⟩⟩⟩⟩⟩⟩⟩⟩⟩⟩⟩⟩⟩⟩⟩⟩⟩
 have hg:∀x t,gl x=some t->∃v u,mg x=some u/\RelV v u/\∀H F,IsT K mg H F t v:=by
  intro x t e;unfold gl at e;cases e
 obtain⟨oc,od,kV,doc,pm,an,cdv,ct,osl,rfl,lk,Pp⟩:=Zqt.ex;refine⟨W.fnOf "law" "law" (Jt (top 29)) (Y0 (top 29)) (Zg (top 29)) .none kV doc pm an cdv ct,fun s v=>.of_eq rfl,fun base _ _=>?_⟩;obtain⟨c1,c2,c3,c4,c5⟩:=t7 ck_law;exact(Po (w:=⟨Cn tab gl 6,gl⟩) (d:=Wc) Zqt c1 c2 c3 c4 c5 bn (knot bn (tab_of ft) hg 6) hg).imp (ip nl fun zs _=>bu zs)
end K37
open PySem PySem.W PyProof.Rows
set_option maxRecDepth 100000 in
set_option maxHeartbeats 0 in
theorem K37.ws:PySem.Challenge.rw_makes_k37_empty_forms.wellSaid=true:=by
 delta OpenLaw.wellSaid
 iterate 18 refine look_both ?_ ?_
 case _ =>
  delta OpenRow.wellSaid
  refine look_both (look_both ?_ ?_) ?_
  case _ =>
   delta OpenRow.partSaid
   iterate 13 refine look_both ?_ ?_
   case _ =>
    delta looksOpen
    iterate 5 refine look_both ?_ ?_
    all_goals decide +kernel
   all_goals decide +kernel
  all_goals decide +kernel
 all_goals decide +kernel
set_option maxRecDepth 100000 in
set_option maxHeartbeats 0 in
theorem PySem.Challenge.cw_makes_k37_empty_forms_holds : PySem.Challenge.rw_makes_k37_empty_forms.Holds := by
 w_on
 refine holds_law K37.ws fun said=>?_
 refine holds_open (q:=K37.viewK) (loose:=K37.Yf) (XP:=XL K37.viewK []) (YP:=Hook.says (W.kHook K37.heapK K37.asK K37.Ft)) (N:=1720)
  K37.leftK (Hook.of (W.kHook K37.heapK K37.asK K37.Ft)) (Hook.keeps (W.kHook K37.heapK K37.asK K37.Ft)) (fun s e=>xl_of s (B0z.mp e).1)
  XL.keeps (by rfl) (by rfl) (by rfl) (fun s e=>recFacts_of (B0z.mp e).2) (by rfl) (by assumption)
  (by decide +kernel) ⟨rfl,rfl,rfl,rfl,rfl,by decide +kernel⟩ ?hw ?hc
 case hw=>w_witness2
 k_fill
 refine PV.walkP' (l:=PySem.Challenge.rw_makes_k37_empty_forms) (k:=7) rfl rfl ⟨rfl,by decide,by decide,rfl⟩ (fun w h Y=>W.kIn_of Y) ?F
 case F =>
  intro w mg fa h KX G hmg;refine' K37.all_mk KX G hmg ?h1 ?h2 ?h3 ?h4 ?h5 ?h6 ?h7 ?h8 ?h9 ?h10 ?h11 ?h12 ?h13 ?h14 ?h15 ?h16 ?h17 ?h18 ?h19 ?h20 ?h21 ?h22 ?h23 ?h24 ?h25 ?h26 ?jx ?jv ?jw ?Sf ?Wu ?q0 ?jz ?jq ?jy ?Sb ?Jj ?Tq ?qi ?Wa ?qu ?Gz ?qa ?Sg ?qo ?Sd ?nl
  case h1|h2|h3|h4|h5|h6|h7|h8|h9|h10|h11|h12|h13|h14|h15|h16|h17|h18|h19|h20|h21|h22|h23|h24|h25|h26=>exact⟨by k_is,L2.Zp (by k_is) (by k_is) (by k_is)⟩
  case jx|jv|jw|Sf|Wu|q0|jz|jq|jy|Sb|Jj|Tq|qi|Wa|qu|Gz|qa|Sg|qo|Sd=>k_is
  case nl=>kernel_rfl
